import PyProof.Rows.All
import Wide.All
import OpenK.AllK
import Wide.FinOn
import Lean
import PyProof.EqAt
import PyProof.EqKinds
import PyProof.TupleCall
import PyProof.NeKinds
import PySem.Challenge.RW_flowkinds_k66_answers_shown
set_option Elab.async false
set_option linter.all false
set_option maxRecDepth 100000
set_option maxHeartbeats 4000000
set_option genInjectivity false
set_option genSizeOf false
set_option bootstrap.genMatcherCode false
set_option compiler.extract_closed false
theorem gN {c:Prop} {h:Decidable c} (hnc:¬c) {α:Sort u} {t e:α}:(ite c t e)=e:=if_neg hnc
theorem gX {c:Prop} {h:Decidable c} (hc:c) {α:Sort u} {t e:α}:(ite c t e)=t:=if_pos hc
theorem ir {p:Prop} [Decidable p] (h:p):decide p=true:=decide_eq_true h
theorem iI {p:Prop} [Decidable p] (h:¬p):decide p=false:=decide_eq_false h
theorem gB {p:Prop} (h:p:=by decide+kernel):p:=h
theorem um:0<=PySem.sizeLine:=by decide
theorem vv:1<=PySem.sizeLine:=by decide
theorem ma:2<=PySem.sizeLine:=by decide
theorem oR:3<=PySem.sizeLine:=by decide
theorem HE:4<=PySem.sizeLine:=by decide
theorem zln5:5<=PySem.sizeLine:=by decide
theorem HF:15<=PySem.sizeLine:=by decide
abbrev EvP:=PySem.Value->PySem.Shared->Prop
abbrev AoL:=List (PySem.Addr×PySem.Obj)
open List renaming all_cons→aW,all_eq_true→bt,all_map→br,any_cons→aP,any_eq_true→ba,append_assoc→bL,append_cancel_left→bZ,append_nil→aD,cons_append→aQ,dropLast_concat_getLast→bJ,drop_eq_getElem_cons→bD,drop_eq_nil_iff→bB,drop_length→bV,drop_zero→bE,eq_nil_of_length_eq_zero→bO,filterMap_cons→ag,filter_append→bK,find?_cons→aO,forall_mem_cons→bR,getD_eq_getElem?_getD→bh,getElem?_append_left→aJ,getElem?_append_right→aI,getElem?_cons_succ→bA,getElem?_eq_getElem→bu,getElem?_eq_none→bG,getElem?_eq_some_iff→au,getElem?_map→aK,getElem?_set_ne→aw,getElem?_set_self→av,getElem_mem→bC,head?_drop→bU,headD_eq_head?_getD→bT,length_append→aN,length_cons→az,length_drop→aU,length_eq_zero_iff→bI,length_filter_le→bo,length_map→aC,length_nil→aR,length_range→b9,length_reverse→bH,length_set→aV,length_singleton→aY,length_take→aH,length_zip→bQ,lookup→aA,lookup_cons→bf,map_append→bc,map_congr_left→bS,map_cons→aB,map_map→bx,map_nil→aS,mem_append→ao,mem_append_left→aq,mem_append_right→ay,mem_cons→aj,mem_cons_of_mem→ai,mem_cons_self→ah,mem_filterMap→ax,mem_iff_getElem?→bY,mem_map→aZ,mem_of_getElem?→aM,mem_of_mem_drop→bM,mem_range→af,mem_singleton→bb,nil_append→bP,nodup_cons→aE,nodup_nil→bX,not_mem_nil→bz,of_mem_zip→aF,range→aa,range_succ→b6,range_succ_eq_map→bq,replicate→aG,reverse_cons→aX,set_set→bj,singleton_append→bN,size_toArray→aT,sum_cons→cb,take_add_one→bW,take_length→bp,take_of_length_le→bF,zip→bw
open Nat renaming le_of_lt→cm,le_refl→cq,le_succ→cx,le_trans→ck,lt_irrefl→cg,lt_of_le_of_lt→cz,lt_of_lt_of_le→cf,lt_succ_of_lt→cA,lt_succ_self→cw,lt_trans→cy,ne_of_gt→cn,ne_of_lt→cj,not_lt_zero→cG,sub_self→cF,toDigits→cB,toDigits_append_toDigits→cD,toDigits_of_lt_base→cC,zero_add→cE,zero_le→cu
open Option renaming isSome_iff_exists→cJ,isSome_map→cM,map_eq_some_iff→cN,map_some→cK,some→cH
open PySem.W renaming any_some→du,callWith_K→dH,cellsFrom_some→dJ,check_slot→dY,clsIn→dX,codeIn→dN,codeRec_of→dO,emptyDict→dy,excIn→dQ,exmOne→eE,findIn→da,fnOf→dM,funFrames_hide→dP,handedIn→df,hasDictIn→cZ,hideAll→cQ,hideAll_get→cR,hideAll_none→cW,instObj→cO,isFn→di,isNs_of_in→dR,keepIn→dC,kia_one→dE,kitAny→eB,kitOne→dD,kitx_dict→dG,kitx_list→dF,lookIn→cX,looks_clsIn→dv,looks_findIn→dA,looks_subIn→dW,makesIn→dw,methodCall_KW→dI,methodObj→cP,mg_none_of→eG,mg_of→eF,nsIn→dZ,nsOkIn→eg,of_hideAll→cU,plainGet→cY,plainGet_of→dh,plainOver→dj,specialIn→dB,subIn→dU,tailIn→eA,tail_of_in→dS,takerIn→dm
open PySem.F renaming args_tuple_add_2→eL,entry_tuple_add→eK,excBase_ValueError→eM,plainAttrs_list→eQ,plainAttrs_str→eP,slot_dict_getitem→eI,slot_dict_update→eN,slot_list_append→eR,slot_list_pop→eT,slot_str_join→eV,slot_tuple_add→eJ,store_ValueError→eO,type_list_append→eS,type_list_pop→eU,type_str_join→eW
open Bool renaming and_eq_true→eZ,and_false→fc,eq_iff_iff→eY,false_eq_true→fj,false_ne_true→eX,false_xor→fg,true_and→fk,true_xor→fh
open Array renaming getElem?_eq_getElem→fu,getElem?_toList→ft,length_toList→fq,toList_append→fz
open Int renaming emod_lt_of_pos→fF,emod_nonneg→fD,eq_ofNat_of_zero_le→fC,le_of_lt→fK,lt_of_le_of_lt→fH,lt_trans→fJ,ne_of_gt→fE,toNat_natCast→fA,zero_add→fG
open PySem.Heap renaming get?_none_of_le→fQ,get?_push_of_some→fS,get?_push_size→fO,get?_update_other→fX,get?_update_self→fW,lt_size→fN,size_push→fV
open PyProof.Rows renaming callWith_type1→fY,slot_tuple_getitem→fZ
noncomputable section
namespace L2.Internal
theorem auR (h:True=True:=by rfl):True:=trivial
theorem auD (h:True:=by decide):True:=trivial
theorem auI (h:True->True=True:=by intro _;rfl):True:=trivial
theorem auL (h:True=True\/True:=by first|exact .inl rfl|exact .inr rfl|assumption):True:=trivial
open PySem PySem.Spec PyProof.Rows
abbrev Key:=Sum Int Str
def yf:Key->Value->Bool
 | .inl k,v=>Value.isInt k v
 | .inr x,v=>Value.isStrOf x v
def keyH (w:World):Key->Int
 | .inl k=>hashInt k
 | .inr x=>hashStr w x
theorem iU:∀{k:Key} {v:Value},yf k v=true->(∃i t,k=Sum.inl i/\v=Value.int i t)\/(∃x t,k=Sum.inr x/\v=Value.str x t)
 | .inl i,v,h=>by
  obtain⟨t,e⟩:=Value.isInt_shape (k:=i) (v:=v) h
  exact .inl ⟨i,t,rfl,e⟩
 | .inr x,v,h=>by
  obtain⟨t,e⟩:=Value.isStrOf_shape (x:=x) (v:=v) h
  exact .inr ⟨x,t,rfl,e⟩
theorem y9 (i:Int) (t:Tok):yf (.inl i) (.int i t)=true:=by simp[yf,Value.isInt]
theorem qz (x:Str) (t:Tok):yf (.inr x) (.str x t)=true:=by simp[yf,Value.isStrOf]
theorem Fb (a b:Int):decide ((Sum.inl a:Key)=Sum.inl b)=(a==b):=by
 by_cases e:a=b
 ·subst e;simp
 ·have h:¬(Sum.inl a:Key)=Sum.inl b:=fun q=>e (Sum.inl.inj q)
  rw[iI h]
  exact(beq_eq_false_iff_ne.mpr e).symm
theorem Fc (a b:Str):decide ((Sum.inr a:Key)=Sum.inr b)=decide (a=b):=by
 by_cases e:a=b
 ·subst e;simp
 ·have h:¬(Sum.inr a:Key)=Sum.inr b:=fun q=>e (Sum.inr.inj q)
  rw[iI h,iI e]
theorem Fe (a:Int) (b:Str):decide ((Sum.inl a:Key)=Sum.inr b)=false:=iI (fun q=>nomatch q)
theorem Ff (a:Str) (b:Int):decide ((Sum.inr a:Key)=Sum.inl b)=false:=iI (fun q=>nomatch q)
def jq (prog:Program) (w:World):PySem.KeyKind prog w Key where
 is:=yf
 hash:=keyH w
 inj:=fun v a b ha hb=>by
  rcases iU ha with⟨i,t,rfl,rfl⟩|⟨x,t,rfl,rfl⟩
  ·rcases iU hb with⟨j,u,rfl,e⟩|⟨y,u,rfl,e⟩
   ·injection e with e1 _;rw[e1]
   ·exact nomatch e
  ·rcases iU hb with⟨j,u,rfl,e⟩|⟨y,u,rfl,e⟩
   ·exact nomatch e
   ·injection e with e1 _;rw[e1]
 byValue:=fun k v h=>by
  rcases iU h with⟨i,t,rfl,rfl⟩|⟨x,t,rfl,rfl⟩<;>rfl
 pyHash:=fun hv h=>by
  rcases iU hv with⟨i,t,rfl,rfl⟩|⟨x,t,rfl,rfl⟩
  ·exact wpAny_pyHash_int h
  ·exact wpAny_pyHash_str h
 eqBool:=fun hu hv h=>by
  rcases iU hu with⟨i,t,rfl,rfl⟩|⟨x,t,rfl,rfl⟩
  ·rcases iU hv with⟨j,u,rfl,rfl⟩|⟨y,u,rfl,rfl⟩
   ·rw[Fb]at h;exact wpAny_eqBool_int h
   ·rw[Fe]at h;exact SeqAt.EqAt.int_str i t y u _ _ _ _ h
  ·rcases iU hv with⟨j,u,rfl,rfl⟩|⟨y,u,rfl,rfl⟩
   ·rw[Ff]at h;exact SeqAt.EqAt.str_int x t j u _ _ _ _ h
   ·rw[Fc]at h;exact wpAny_eqBool_str h
 «strs»:=fun k x t v h=>by
  rcases iU h with⟨i,u,rfl,e⟩|⟨y,u,rfl,e⟩
  ·exact nomatch e
  ·injection e with e1 _
   subst e1
   cases v<;>rfl
theorem vB (prog:Program) (w:World) (i:Int) (t:Tok):(jq prog w).is (.inl i) (.int i t)=true:=y9 i t
theorem vC (prog:Program) (w:World) (x:Str) (t:Tok):(jq prog w).is (.inr x) (.str x t)=true:=qz x t
end L2.Internal
namespace L2.Internal
open PySem PySem.Spec PyProof.Rows
set_option genInjectivity true in
inductive V where
 |non|bl (b:Bool)|int (i:Int)|str (x:Str)|byt (b:Array UInt8)|flt (b:UInt64)|ref (a:Addr)|ty (n:String)
 deriving DecidableEq
def iP:V->Value->Prop
 | .non,u=>u=Value.none
 | .bl b,u=>u=Value.bool b
 | .int i,u=>∃t,u=Value.int i t
 | .str x,u=>∃t,u=Value.str x t
 | .byt b,u=>∃t,u=Value.bytes b t
 | .flt b,u=>∃t,u=Value.float b t
 | .ref a,u=>u=Value.ref a
 | .ty n,u=>u=Value.type n
abbrev iO:List V->List Value->Prop:=Paired iP
theorem iO.length {xs:List V} {us:List Value} (r:iO xs us):xs.length=us.length:=Paired.length r
theorem iO.get:∀{xs:List V} {us:List Value} {i:Nat} {x:V},iO xs us->xs[i]?=some x->∃u,us[i]?=some u/\iP x u
 |_,_,_,_,.nil,e=>by simp at e
 |_,_,0,_,.cons r _,e=>by simp at e;subst e;exact⟨_,rfl,r⟩
 |_,_,i+ 1,x,.cons _ t,e=>by
  obtain⟨u,h1,h2⟩:=iO.get (i:=i) (x:=x) t (by simpa using e)
  exact⟨u,by simpa using h1,h2⟩
theorem iO.set {x:V} {u:Value} (r:iP x u):∀{xs:List V} {us:List Value} (i:Nat),iO xs us->iO (xs.set i x) (us.set i u)
 |_,_,_,.nil=> .nil
 |_,_,0,.cons _ t=> .cons r t
 |_,_,i+ 1,.cons q t=> .cons q (iO.set r i t)
theorem iO.append:∀{xs ys:List V} {us ws:List Value},iO xs us->iO ys ws->iO (xs++ys) (us++ws)
 |_,_,_,_,.nil,s=>s
 |_,_,_,_,.cons r t,s=> .cons r (iO.append t s)
theorem iO.take:∀{xs:List V} {us:List Value} (n:Nat),iO xs us->iO (xs.take n) (us.take n)
 |_,_,0,_=> .nil
 |_,_,_+ 1,.nil=> .nil
 |_,_,n+ 1,.cons r t=> .cons r (iO.take n t)
theorem iO.drop:∀{xs:List V} {us:List Value} (n:Nat),iO xs us->iO (xs.drop n) (us.drop n)
 |_,_,0,r=>r
 |_,_,_+ 1,.nil=> .nil
 |_,_,n+ 1,.cons _ t=>iO.drop n t
def qA:Option V->Option Value->Prop
 |some v,some u=>iP v u
 |none,none=>True
 |_,_=>False
def KV {κ:Type}:List (κ×V)->List (κ×Value)->Prop:=Paired fun(p:κ×V) (q:κ×Value)=>p.1=q.1/\iP p.2 q.2
def kV:Key->V
 | .inl i=> .int i
 | .inr x=> .str x
inductive HO where
 |lst (xs:List V)
 |tup (xs:List V)
 |dK (kvs:List (Key×V))|dT (kvs:List (List Key×V))
 |set (S:Int->Bool) (n:Nat)
 |ins (C dx:Addr) (fs:List (Str×V))
 |own (x:Addr)
 |xd (fs:List (Str×V))
 |met (f x:Addr)
 |rng (lo hi:Int)
 |frz (o:Obj) (u:HO)
 |tbl (ps:Array Value)
 |ext (φ:Heap->Prop)
abbrev Hp:=Addr->Option HO
def yg (h:Heap) (a:Addr) (items:Array Value):Prop:=∃o,h.get? a=some o/\o.cls= .type "tuple"/\∃n,o.data= .seq items n/\o.dict=none
theorem yg.tup {h:Heap} {a:Addr} {items:Array Value}:yg h a items->IsTup h a items
 |⟨o,h1,h2,n,h3,_⟩=>⟨o,h1,h2,n,h3⟩
theorem yg.lt {h:Heap} {a:Addr} {items:Array Value} (p:yg h a items):a<h.objs.size:=by
 obtain⟨o,e,_⟩:=p
 exact fN e
theorem yg.new (h:Heap) (items:Array Value):yg (h.push {cls:= .type "tuple",data:= .seq items}) h.objs.size items:=⟨_,fO _ rfl,rfl,_,rfl,rfl⟩
def upd (H:Hp) (a:Addr) (o:HO):Hp:=fun b=>if b=a then some o else H b
theorem gh {H:Hp} {a:Addr} {o:HO}:upd H a o a=some o:=by unfold upd;rw[gX rfl]
theorem gw {H:Hp} {a b:Addr} {o:HO} (h:b≠a):upd H a o b=H b:=by unfold upd;rw[gN h]
theorem qB {H:Hp} {a:Addr} {o u:HO}:upd (upd H a o) a u=upd H a u:=by
 funext b;unfold upd;split<;>rfl
theorem ko {H:Hp} {a b:Addr} {o u:HO} (h:H a=some o) (h':H b=some u) (d:o≠u):a≠b:=by
 intro e;subst e;rw[h]at h';exact d (cH.inj h')
theorem gr {H:Hp} {a b:Addr} {o:HO} (h:H a=some o) (h':H b=none):a≠b:=by
 intro e;subst e;rw[h]at h';cases h'
section
variable (P:Program) (w:World)
def iD (H:Hp) (h:Heap) (a:Addr):HO->Prop
 | .lst xs=>xs.length<=sizeLine/\∃(its:List Value) (n:Nat),iO xs its/\h.get? a=some {cls:= .type "list",data:= .seq its.toArray n}
 | .tup xs=>xs.length<=sizeLine/\∃its:List Value,iO xs its/\yg h a its.toArray
 | .dK kvs=>kvs.length<=sizeLine/\(a==sysModules)=false/\∃vs,KV kvs vs/\h.DictOf (jq P w) a vs
 | .dT kvs=>kvs.length<=sizeLine/\(a==sysModules)=false/\∃xs:List (List Key×Addr×Value),
   Paired (fun(p:List Key×V) (q:List Key×Addr×Value)=>p.1=q.1/\H q.2.1=some (.tup (p.1.map kV))/\iP p.2 q.2.2) kvs xs/\
   ∃o es ep,h.get? a=some o/\o.ExactDict/\o.data= .dict es ep/\es.toList=xs.map (entryOfKey (tupleKind (jq P w)))/\(xs.map (·.1)).Nodup
 | .set S n=>h.SetOf (intKind P w) a S n
 | .ins C dx fs=>H dx=some (.own a)/\fs.length<=1000/\dx≠a/\h.get? a=some (cO C dx)/\
   ∃mA,h.Ns1 dx mA/\(∀f,qA (fs.lookup f) (mA f))/\PySem.Within mA (fs.map (·.1))
 | .own _=>∃o,h.get? a=some o
 | .xd fs=>∃mA,h.Ns1 a mA/\∀f,qA (fs.lookup f) (mA f)
 | .rng lo hi=>∃t u v,h.get? a=some {cls:= .type "range",data:= .fields #[.int lo t,.int hi u,.int 1 v]}
 | .frz o u=>h.get? a=some o/\iD H h a u
 | .tbl ps=>h.get? a=some {cls:= .none,data:= .fields ps}
 | .met f x=>h.get? a=some (cP (.ref f) (.ref x))
 | .ext φ=>φ h/\(∃o,h.get? a=some o)/\∀h1 h2:Heap,φ h1->(∀o,h1.get? a=some o->h2.get? a=some o)->φ h2
def HOk (H:Hp) (h:Heap):Prop:=∀a o,H a=some o->iD P w H h a o
end
section
variable {P:Program} {w:World} {H H':Hp} {h h':Heap} {a:Addr} {o:HO}
theorem iD.lt (x:iD P w H h a o):a<h.objs.size:=by
 cases o with
 |lst xs=>obtain⟨_,_,_,_,e⟩:=x;exact fN e
 |tup xs=>obtain⟨_,_,_,p⟩:=x;exact p.lt
 |dK kvs=>obtain⟨_,_,_,_,o,_,_,e,_⟩:=x;exact fN e
 |dT kvs=>obtain⟨_,_,_,_,o,_,_,e,_⟩:=x;exact fN e
 |set S n=>obtain⟨o,_,_,_,e,_⟩:=x;exact fN e
 |ins C dx fs=>obtain⟨_,_,_,e,_⟩:=x;exact fN e
 |own y=>obtain⟨_,e⟩:=x;exact fN e
 |xd fs=>obtain⟨_,⟨_,_,_,e,_⟩,_⟩:=x;exact fN e
 |rng lo hi=>obtain⟨_,_,_,e⟩:=x;exact fN e
 |frz ob u=>obtain⟨e,_⟩:=x;exact fN e
 |tbl ps=>exact fN (show h.get? a=some _ from x)
 |met f y=>exact fN (show h.get? a=some _ from x)
 |ext φ=>obtain⟨_,⟨_,e⟩,_⟩:=x;exact fN e
theorem Paired.mapP {α β:Type} {F G:α->β->Prop}:∀{l₁:List α} {l₂:List β},Paired F l₁ l₂->(∀a b,F a b->G a b)->Paired G l₁ l₂
 |_,_,.nil,_=> .nil
 |_,_,.cons r t,f=> .cons (f _ _ r) (Paired.mapP t f)
theorem iD.stay (x:iD P w H h a o) (k:∀b u,(b=a\/H b=some (.own a))->h.get? b=some u->h'.get? b=some u)
  (ho:∀b,H b=some (.own a)->H' b=some (.own a)) (ht:∀b xs,H b=some (.tup xs)->H' b=some (.tup xs)):iD P w H' h' a o:=by
 induction o with
 |lst xs=>obtain⟨z,its,n,r,e⟩:=x;exact⟨z,its,n,r,k _ _ (.inl rfl) e⟩
 |tup xs=>obtain⟨z,its,r,ob,e,c⟩:=x;exact⟨z,its,r,ob,k _ _ (.inl rfl) e,c⟩
 |dK kvs=>obtain⟨z,y,vs,r,ob,es,ep,e,c⟩:=x;exact⟨z,y,vs,r,ob,es,ep,k _ _ (.inl rfl) e,c⟩
 |dT kvs=>
  obtain⟨z,y,xs,r,ob,es,ep,e,c⟩:=x
  exact⟨z,y,xs,Paired.mapP r fun p q z=>⟨z.1,ht _ _ z.2.1,z.2.2⟩,ob,es,ep,k _ _ (.inl rfl) e,c⟩
 |set S n=>obtain⟨ob,es,ep,t,e,c⟩:=x;exact⟨ob,es,ep,t,k _ _ (.inl rfl) e,c⟩
 |ins C dx fs=>
  obtain⟨d,z,ne,e,mA,⟨od,es,ep,e2,c⟩,r⟩:=x
  exact⟨ho _ d,z,ne,k _ _ (.inl rfl) e,mA,⟨od,es,ep,k _ _ (.inr d) e2,c⟩,r⟩
 |own y=>obtain⟨ob,e⟩:=x;exact⟨ob,k _ _ (.inl rfl) e⟩
 |xd fs=>obtain⟨mA,⟨od,es,ep,e,c⟩,r⟩:=x;exact⟨mA,⟨od,es,ep,k _ _ (.inl rfl) e,c⟩,r⟩
 |rng lo hi=>obtain⟨t,u,v,e⟩:=x;exact⟨t,u,v,k _ _ (.inl rfl) e⟩
 |frz ob u ih=>obtain⟨e,q⟩:=x;exact⟨k _ _ (.inl rfl) e,ih q⟩
 |tbl ps=>
  have e:h.get? a=some {cls:= .none,data:= .fields ps}:=x
  show h'.get? a=some {cls:= .none,data:= .fields ps}
  exact k a _ (.inl rfl) e
 |met f y=>
  have e:h.get? a=some (cP (.ref f) (.ref y)):=x
  show h'.get? a=some (cP (.ref f) (.ref y))
  exact k a _ (.inl rfl) e
 |ext φ=>obtain⟨p,⟨o,e⟩,st⟩:=x;exact⟨st _ _ p fun o q=>k _ _ (.inl rfl) q,⟨o,k _ _ (.inl rfl) e⟩,st⟩
theorem HOk.lt (x:HOk P w H h) (e:H a=some o):a<h.objs.size:=(x a o e).lt
theorem HOk.fresh (x:HOk P w H h) (e:h.objs.size<=a):H a=none:=by
 cases q:H a with
 |none=>rfl
 |some u=>exact absurd (cf (x.lt q) e) (cg _)
theorem HOk.kept (x:HOk P w H h) (k:∀b u,h.get? b=some u->h'.get? b=some u):HOk P w H h':=fun a o e=>
 (x a o e).stay (fun b u _ q=>k b u q) (fun _ q=>q) fun _ _ q=>q
theorem HOk.laid (x:HOk P w H h) (k:∀b u,h.get? b=some u->h'.get? b=some u) (hp:h.objs.size<=a) (new:iD P w (upd H a o) h' a o):HOk P w (upd H a o) h':=fun b u e=>by
 have hn:=x.fresh hp
 by_cases hb:b=a
 ·subst hb;rw[gh]at e;cases e;exact new
 ·rw[gw hb]at e
  exact(x b u e).stay (fun c v _ q=>k c v q) (fun c q=>by rw[gw (gr q hn)];exact q) fun c xs q=>by rw[gw (gr q hn)];exact q
end
def Rd (H:Hp) (a:Addr) (u:HO):Prop:=H a=some u\/∃o,H a=some (.frz o u)
theorem Rd.ok {P:Program} {w:World} {H:Hp} {h:Heap} {a:Addr} {u:HO} (r:Rd H a u) (x:HOk P w H h):iD P w H h a u:=by
 rcases r with r|⟨o,r⟩
 ·exact x a u r
 ·obtain⟨_,q⟩:=x a _ r
  exact q
def Mut:Option HO->Prop
 |some (.lst _)=>True
 |some (.dK _)=>True
 |some (.dT _)=>True
 |some (.set _ _)=>True
 |some (.ins _ _ _)=>True
 |some (.ext _)=>True
 |_=>False
section
variable {P:Program} {w:World} {H:Hp} {h h':Heap} {x e:Addr} {o':HO}
theorem HOk.write (ok:HOk P w H h) (mu:Mut (H x)) (he:e=x\/H e=some (.own x)) (k:∀b u,b≠e->h.get? b=some u->h'.get? b=some u) (heo:∃u,h'.get? e=some u)
  (new:iD P w (upd H x o') h' x o'):HOk P w (upd H x o') h':=fun b u q=>by
 have nown:∀c y,H c=some (.own y)->c≠x:=fun c y r z=>by subst z;rw[r]at mu;exact mu
 have ntup:∀c xs,H c=some (.tup xs)->c≠x:=fun c xs r z=>by subst z;rw[r]at mu;exact mu
 by_cases hb:b=x
 ·subst hb;rw[gh]at q;cases q;exact new
 ·rw[gw hb]at q
  by_cases hbe:b=e
  ·have q':H b=some (.own x):=by
    rcases he with z|z
    ·exact absurd (hbe.trans z) hb
    ·rw[hbe];exact z
   rw[q]at q';cases q'
   obtain⟨v,hv⟩:=heo
   exact⟨v,by rw[hbe];exact hv⟩
  ·refine(ok b u q).stay (fun c v hc r=>k c v ?_ r) (fun c r=>by rw[gw (nown c b r)];exact r) fun c xs r=>by rw[gw (ntup c xs r)];exact r
   rcases hc with rfl|hc
   ·exact hbe
   ·rintro rfl
    rcases he with z|z
    ·exact nown c b hc z
    ·rw[hc]at z;cases z;exact hb rfl
end
structure Un (fs ex:List Addr) (H H':Hp) (h h':Heap):Prop where
 keep:∀b o,h.get? b=some o->H b=none->b∉fs->b∉ex->h'.get? b=some o
 slot:∀b o,h.get? b=some o->H b=none->b∈fs->b∉ex->∃sl,h'.get? b=some {o with slots:=sl}
 free:∀b o,h.get? b=some o->H b=none->b∉ex->H' b=none
 there:∀b o,h.get? b=some o->b∉ex->∃o',h'.get? b=some o'
 tups:∀b xs,H b=some (.tup xs)->H' b=some (.tup xs)
 frzs:∀b o u,H b=some (.frz o u)->H' b=some (.frz o u)
 tbls:∀b ps,H b=some (.tbl ps)->∃more,H' b=some (.tbl (ps++more))
section
variable {fs fs' ex ex':List Addr} {H H1 H2:Hp} {h h1 h2 h':Heap} {a x e:Addr} {o:HO}
theorem Un.any (u:Un fs ex H H1 h h1) {b:Addr} {ob:Obj} (q:h.get? b=some ob) (n:H b=none) (hx:b∉ex):∃sl,h1.get? b=some {ob with slots:=sl}:=by
 by_cases hb:b∈fs
 ·exact u.slot b ob q n hb hx
 ·exact⟨ob.slots,u.keep b ob q n hb hx⟩
theorem Un.trans (a:Un fs ex H H1 h h1) (b:Un fs ex H1 H2 h1 h2):Un fs ex H H2 h h2 where
 keep:=fun c ob q n hc hx=>b.keep c ob (a.keep c ob q n hc hx) (a.free c ob q n hx) hc hx
 slot:=fun c ob q n hc hx=>by
  obtain⟨sl,e1⟩:=a.slot c ob q n hc hx
  obtain⟨sl',e2⟩:=b.slot c _ e1 (a.free c ob q n hx) hc hx
  exact⟨sl',e2⟩
 free:=fun c ob q n hx=>by
  obtain⟨o',e1⟩:=a.there c ob q hx
  exact b.free c o' e1 (a.free c ob q n hx) hx
 there:=fun c ob q hx=>by
  obtain⟨o',e1⟩:=a.there c ob q hx
  exact b.there c o' e1 hx
 tups:=fun c xs q=>b.tups c xs (a.tups c xs q)
 frzs:=fun c ob xs q=>b.frzs c ob xs (a.frzs c ob xs q)
 tbls:=fun c ps q=>by
  obtain⟨m1,e1⟩:=a.tbls c ps q
  obtain⟨m2,e2⟩:=b.tbls c _ e1
  exact⟨m1++m2,by rw[e2,Array.append_assoc]⟩
theorem Un.kept (k:∀b u,h.get? b=some u->h'.get? b=some u):Un fs ex H H h h':=
 ⟨fun b ob q _ _ _=>k b ob q,fun b ob q _ _ _=>⟨ob.slots,k b ob q⟩,fun _ _ _ n _=>n,fun b ob q _=>⟨ob,k b ob q⟩,fun _ _ q=>q,fun _ _ _ q=>q,fun _ ps q=>⟨#[],by rw[q];simp⟩⟩
theorem Un.refl:Un fs ex H H h h:=Un.kept fun _ _ q=>q
theorem Un.laid (k:∀b u,h.get? b=some u->h'.get? b=some u) (hp:h.objs.size<=a) (hn:H a=none):Un fs ex H (upd H a o) h h' where
 keep:=fun b u q _ _ _=>k b u q
 slot:=fun b u q _ _ _=>⟨u.slots,k b u q⟩
 free:=fun b u q n _=>by rw[gw (cj (cf (fN q) hp))];exact n
 there:=fun b u q _=>⟨u,k b u q⟩
 tups:=fun b xs q=>by rw[gw (gr q hn)];exact q
 frzs:=fun b u xs q=>by rw[gw (gr q hn)];exact q
 tbls:=fun b ps q=>⟨#[],by rw[gw (gr q hn),q];simp⟩
theorem Un.write (mu:Mut (H x)) (he:e=x\/H e=some (.own x)) (k:∀b u,b≠e->h.get? b=some u->h'.get? b=some u) (heo:∃u,h'.get? e=some u):Un fs ex H (upd H x o) h h':=by
 have hx:∀b,H b=none->b≠x:=fun b n z=>by subst z;rw[n]at mu;exact mu
 have hb:∀b,H b=none->b≠e:=fun b n z=>by
  subst z
  rcases he with r|r
  ·exact hx b n r
  ·rw[n]at r;cases r
 have hm:∀b u,H b=some u->¬Mut (some u)->b≠x:=fun b u q nm z=>by subst z;rw[q]at mu;exact nm mu
 refine⟨fun b u q n _ _=>k b u (hb b n) q,fun b u q n _ _=>⟨u.slots,k b u (hb b n) q⟩,fun b u q n _=>by rw[gw (hx b n)];exact n,fun b u q _=>?_,
  fun b xs q=>by rw[gw (hm b _ q fun z=>z)];exact q,fun b u xs q=>by rw[gw (hm b _ q fun z=>z)];exact q,fun b ps q=>⟨#[],by rw[gw (hm b _ q fun z=>z),q];simp⟩⟩
 by_cases hbe:b=e
 ·subst hbe;exact heo
 ·exact⟨u,k b u hbe q⟩
end
def trk (h:Heap) (H:Hp):List Addr:=(aa h.objs.size).filter fun a=>(H a).isSome
def Bk (h:Heap) (H:Hp):Heap:=cQ h (trk h H)
theorem za (h:Heap) (H:Hp):(Bk h H).objs.size=h.objs.size:=PySem.W.hideAll_size _ _
theorem Bl {h:Heap} {H:Hp} {b:Addr} {o:Obj} (e:h.get? b=some o) (n:H b=none):(Bk h H).get? b=some o:=
 cR _ e fun hm=>by
  have q:(H b).isSome=true:=(List.mem_filter.mp hm).2
  rw[n]at q;simp at q
theorem Dr {h:Heap} {H:Hp} {b:Addr} {o:Obj} (e:(Bk h H).get? b=some o):h.get? b=some o/\H b=none:=by
 have e':h.get? b=some o:=cU (trk h H) e
 refine⟨e',?_⟩
 cases q:H b with
 |none=>rfl
 |some x=>
  have hm:b∈trk h H:=List.mem_filter.mpr ⟨af.mpr (fN e'),by simp[q]⟩
  have z:(Bk h H).get? b=none:=cW (trk h H) hm
  rw[z]at e;cases e
structure Mod (K:PySem.W.Frag) (mg:Str->Option Value) (base:Heap):Prop where
 kin:K.In base
 glob:base.Ns mainGlobals mg
 blt:∃mb,base.Ns builtinsNs mb/\∀x:Str,x≠"__name__"->mb x=bootBuiltins x
 nolimit:base.NoLimit
structure Cx where
 prog:Program
 w:World
 K:PySem.W.Frag
 mg:Str->Option Value
 base:Heap
 A:Around
 N:List Str
 s₀:Shared
 H₀:Hp
 env:Env
 outer:List Env
 stack:List Env
 ex:List Addr
 fn:Str->Bool
 calm:Bool
 pn:AoL
 xe:Value->Shared->Prop
def frs (l:List Env):List Addr:=l.filterMap (·.frame)
abbrev Cx.fs (X:Cx):List Addr:=frs X.outer
def Vis (sc:Scope) (x:Str):Prop:=sc.names.lookup x=some .local\/sc.names.lookup x=some .cell\/sc.names.lookup x=some .free
def Loc (sc:Scope) (x:Str):Prop:=sc.names.lookup x=some .local\/sc.names.lookup x=some .cell
def Look (env:Env) (h:Heap) (m:Str->Option Value) (x:Str) (u:Value):Prop:=
 (env.kindOf x=some .local/\m x=some u)\/((env.kindOf x=some .cell\/env.kindOf x=some .free)/\∃c,env.cells.lookup x=some c/\h.IsCell c (some u))
structure Cx.Ok (X:Cx):Prop where
 mod:Mod X.K X.mg X.base
 kind:X.env.scope.kind= .function
 glob:X.env.globals=mainGlobals
 blt:X.env.builtins=builtinsNs
 above:X.s₀.heap.objs.size<=X.env.locals
 inj:∀x y c,X.env.cells.lookup x=some c->X.env.cells.lookup y=some c->x=y
 has:∀x,(X.env.kindOf x=some .cell\/X.env.kindOf x=some .free)->∃c,X.env.cells.lookup x=some c
 cab:∀x c,X.fn x=true->X.env.cells.lookup x=some c->X.s₀.heap.objs.size<=c
 hd:X.calm=true->X.A.handled=none
 frames:X.A.frames=some X.stack
 stk:X.stack=X.outer\/(X.stack=X.env::X.outer/\X.env.frame=some X.env.locals)
 exf:∀b∈X.ex,b≠X.env.locals/\∀x c,X.env.cells.lookup x=some c->c≠b
 bs:∀b o,X.base.get? b=some o->X.s₀.heap.get? b=some o/\X.H₀ b=none
 bsz:X.base.objs.size<=X.s₀.heap.objs.size
 noex:∀b o,X.base.get? b=some o->b∉X.ex
 exfs:∀b∈X.ex,b∉X.fs
 funs:X.s₀.heap.FunFrames X.base X.outer
 frf:∀b∈X.fs,X.H₀ b=none
structure Inv (X:Cx) (pz:AoL) (σ:List (Option V)) (H:Hp) (s:Shared):Prop where
 ok:X.Ok
 os:s.os=X.s₀.os
 bare:AllBare s.gens
 base:Un X.fs X.ex X.H₀ H X.s₀.heap s.heap
 loc:∃m,s.heap.Ns X.env.locals m/\∀(i:Nat) (x:Str) (v:V),X.N[i]?=some x->σ[i]?=some (some v)->Vis X.env.scope x->∃u,iP v u/\Look X.env s.heap m x u
 cell:∀x c,X.env.cells.lookup x=some c->∃v,s.heap.IsCell c v
 free:H X.env.locals=none
 freeC:∀x c,X.env.cells.lookup x=some c->H c=none
 pin:∀p∈X.pn++pz,s.heap.get? p.1=some p.2/\H p.1=none/\p.1≠X.env.locals/\p.1∉X.fs/\∀v,p.2.data≠ .cell v
 hok:HOk X.prog X.w H s.heap
 len:σ.length=X.N.length
section
variable {X:Cx} {pz:AoL} {σ:List (Option V)} {H H':Hp} {s:Shared} {h':Heap}
theorem Cx.Ok.nofr (ok:X.Ok) {b:Addr} {o:Obj} (e:X.base.get? b=some o):b∉X.fs:=fun hb=>by
 have:=(ok.funs.mem hb).1
 rw[e]at this;cases this
theorem Inv.bs (I:Inv X pz σ H s):∀b o,X.base.get? b=some o->s.heap.get? b=some o/\H b=none:=fun b o e=>
 ⟨I.base.keep b o (I.ok.bs b o e).1 (I.ok.bs b o e).2 (I.ok.nofr e) (I.ok.noex b o e),I.base.free b o (I.ok.bs b o e).1 (I.ok.bs b o e).2 (I.ok.noex b o e)⟩
theorem Inv.bk (I:Inv X pz σ H s):∀b o,X.base.get? b=some o->s.heap.get? b=some o:=fun b o e=>(I.bs b o e).1
theorem Inv.mod (I:Inv X pz σ H s):Mod X.K X.mg X.base:=I.ok.mod
theorem Inv.kIn (I:Inv X pz σ H s):X.K.In s.heap:=I.ok.mod.kin.keeps I.bk
theorem Inv.lt (I:Inv X pz σ H s):X.env.locals<s.heap.objs.size:=let⟨_,hn,_⟩:=I.loc;hn.lt
theorem Inv.sz (I:Inv X pz σ H s):X.s₀.heap.objs.size<=s.heap.objs.size:=ck I.ok.above (cm I.lt)
theorem Inv.nofs (I:Inv X pz σ H s) {a:Addr} (h:s.heap.objs.size<=a):a∉X.fs:=fun hb=>by
 obtain⟨_,o,ho,_⟩:=I.ok.funs.mem hb
 exact absurd (cf (fN ho) (ck I.sz h)) (cg _)
theorem Inv.cne (I:Inv X pz σ H s):∀x c,X.env.cells.lookup x=some c->c≠X.env.locals:=fun x c e z=>by
 obtain⟨v,o,ho,hd⟩:=I.cell x c e
 obtain⟨m,⟨o',es,ep,ho',hd',_⟩,_⟩:=I.loc
 rw[z,ho']at ho;cases ho;rw[hd']at hd;cases hd
theorem Inv.funs (I:Inv X pz σ H s):s.heap.FunFrames X.base X.outer:=by
 have all:∀(l:List Env),(∀b∈frs l,b∈X.fs)->X.s₀.heap.FunFrames X.base l->s.heap.FunFrames X.base l:=by
  intro l
  induction l with
  |nil=>intro _ _;trivial
  |cons env r ih=>
   intro hs hl
   obtain⟨hk,⟨L,o,hf,hn,ho,hd⟩,hr⟩:=hl
   have hL:L∈X.fs:=hs L (by unfold frs;rw[ag,hf];exact ah)
   obtain⟨sl,e⟩:=I.base.slot L o ho (I.ok.frf L hL) hL fun z=>I.ok.exfs L z hL
   exact⟨hk,⟨L,_,hf,hn,e,hd⟩,ih (fun b hb=>hs b (by unfold frs;rw[ag,hf];exact ai _ hb)) hr⟩
 exact all X.outer (fun _ hb=>hb) I.ok.funs
theorem Inv.stack (I:Inv X pz σ H s):s.heap.FunFrames X.base X.stack:=by
 rcases I.ok.stk with e|⟨e,hf⟩
 ·rw[e];exact I.funs
 ·rw[e]
  obtain⟨m,hn,_⟩:=I.loc
  refine .cons (by rw[I.ok.kind];decide) hf hn ?_ I.funs
  exact fQ (ck I.ok.bsz I.ok.above)
theorem Inv.stkSub (I:Inv X pz σ H s):∀b∈frs X.stack,b∈X.env.locals::X.fs:=fun b hb=>by
 rcases I.ok.stk with e|⟨e,hf⟩
 ·rw[e]at hb;exact ai _ hb
 ·rw[e]at hb
  unfold frs at hb
  rw[ag,hf]at hb
  exact hb
theorem Inv.stkFree (I:Inv X pz σ H s):∀b∈frs X.stack,H b=none:=fun b hb=>by
 rcases aj.mp (I.stkSub b hb)with e|hb
 ·rw[e];exact I.free
 ·obtain⟨_,o,ho,_⟩:=I.ok.funs.mem hb
  exact I.base.free b o ho (I.ok.frf b hb) fun z=>I.ok.exfs b z hb
theorem Inv.step {g':Array GenState} {t':Nat} {d':Drawn} {ch:List Addr} (I:Inv X pz σ H s)
  (hch:∀b∈ch,(b∈X.ex\/X.s₀.heap.objs.size<=b)/\b≠X.env.locals/\(∀x c,X.env.cells.lookup x=some c->c≠b)/\∀p∈X.pn++pz,p.1≠b)
  (keep:∀b o,b≠X.env.locals->b∉X.fs->b∉ch->s.heap.get? b=some o->H b=none->h'.get? b=some o)
  (slot:∀b o,b≠X.env.locals->b∈X.fs->b∉ch->s.heap.get? b=some o->H b=none->∃sl,h'.get? b=some {o with slots:=sl}) (free:∀b o,b∉ch->s.heap.get? b=some o->H b=none->H' b=none)
  (there:∀b o,b∉ch->s.heap.get? b=some o->∃o',h'.get? b=some o')
  (tups:∀b xs,H b=some (.tup xs)->H' b=some (.tup xs)) (frzs:∀b o u,H b=some (.frz o u)->H' b=some (.frz o u)) (tbls:∀b ps,H b=some (.tbl ps)->∃more,H' b=some (.tbl (ps++more)))
  (ns:∀m,s.heap.Ns X.env.locals m->h'.Ns X.env.locals m) (hok:HOk X.prog X.w H' h') (hg:AllBare g'):
  Inv X pz σ H' {s with heap:=h',gens:=g',drawn:=d',toks:=t'}:=by
 have neL:∀b o,X.s₀.heap.get? b=some o->b≠X.env.locals:=fun b o e=>cj (cf (fN e) I.ok.above)
 have neC:∀b o,X.s₀.heap.get? b=some o->b∉X.ex->b∉ch:=fun b o e hx hb=>by
  rcases(hch b hb).1 with z|z
  ·exact hx z
  ·exact absurd (cf (fN e) z) (cg _)
 have cellK:∀x c,X.env.cells.lookup x=some c->∀v,s.heap.IsCell c v->h'.IsCell c v:=fun x c e v ⟨o,ho,hd⟩=>by
  have nch:c∉ch:=fun z=>(hch c z).2.2.1 x c e rfl
  by_cases hc:c∈X.fs
  ·obtain⟨sl,q⟩:=slot c o (I.cne x c e) hc nch ho (I.freeC x c e)
   exact⟨_,q,hd⟩
  ·exact⟨o,keep c o (I.cne x c e) hc nch ho (I.freeC x c e),hd⟩
 refine⟨I.ok,I.os,hg,⟨fun b o e n hb hx=>?_,fun b o e n hb hx=>?_,fun b o e n hx=>?_,fun b o e hx=>?_,fun b xs e=>tups b xs (I.base.tups b xs e),fun b o xs e=>frzs b o xs (I.base.frzs b o xs e),fun b ps e=>?_⟩,?_,fun x c e=>?_,?_,fun x c e=>?_,fun p hp=>?_,hok,I.len⟩
 ·exact keep b o (neL b o e) hb (neC b o e hx) (I.base.keep b o e n hb hx) (I.base.free b o e n hx)
 ·obtain⟨sl,e1⟩:=I.base.slot b o e n hb hx
  obtain⟨sl',e2⟩:=slot b _ (neL b o e) hb (neC b o e hx) e1 (I.base.free b o e n hx)
  exact⟨sl',e2⟩
 ·obtain⟨o',e1⟩:=I.base.there b o e hx
  exact free b o' (neC b o e hx) e1 (I.base.free b o e n hx)
 ·obtain⟨o',e1⟩:=I.base.there b o e hx
  exact there b o' (neC b o e hx) e1
 ·obtain⟨m1,e1⟩:=I.base.tbls b ps e
  obtain⟨m2,e2⟩:=tbls b _ e1
  exact⟨m1++m2,by rw[e2,Array.append_assoc]⟩
 ·obtain⟨m,hn,hl⟩:=I.loc
  refine⟨m,ns m hn,fun i x v e1 e2 e3=>?_⟩
  obtain⟨u,r,l⟩:=hl i x v e1 e2 e3
  refine⟨u,r,?_⟩
  rcases l with l|⟨k,c,e,z⟩
  ·exact .inl l
  ·exact .inr ⟨k,c,e,cellK x c e _ z⟩
 ·obtain⟨v,z⟩:=I.cell x c e
  exact⟨v,cellK x c e v z⟩
 ·obtain⟨m,⟨o,_,_,ho,_⟩,_⟩:=I.loc
  exact free _ o (fun z=>(hch _ z).2.1 rfl) ho I.free
 ·obtain⟨v,o,ho,hd⟩:=I.cell x c e
  exact free c o (fun z=>(hch c z).2.2.1 x c e rfl) ho (I.freeC x c e)
 ·obtain⟨e,n,ne,nf,d⟩:=I.pin p hp
  have nch:p.1∉ch:=fun z=>(hch p.1 z).2.2.2 p hp rfl
  exact⟨keep p.1 p.2 ne nf nch e n,free p.1 p.2 nch e n,ne,nf,d⟩
theorem Inv.un {t':Nat} (I:Inv X pz σ H s) (u:Un X.fs [] H H' s.heap h') (hok:HOk X.prog X.w H' h'):Inv X pz σ H' {s with heap:=h',toks:=t'}:=by
 obtain⟨m,⟨o,es,ep,ho,r⟩,_⟩:=id I.loc
 obtain⟨sl,hL⟩:=u.any ho I.free (by simp)
 exact I.step (g':=s.gens) (d':=s.drawn) (ch:=[]) (fun _ z=>nomatch z) (fun b o _ hb _ e n=>u.keep b o e n hb (by simp)) (fun b o _ hb _ e n=>u.slot b o e n hb (by simp)) (fun b o _ e n=>u.free b o e n (by simp)) (fun b o _ e=>u.there b o e (by simp)) u.tups u.frzs u.tbls (fun m' hm=>by
  obtain⟨o',es',ep',ho',r'⟩:=hm
  rw[ho]at ho';cases ho'
  exact⟨_,es',ep',hL,r'⟩) hok I.bare
theorem Inv.call {g':Array GenState} {t':Nat} {d':Drawn} {ch:List Addr} (I:Inv X pz σ H s) (u:Un (frs X.stack) ch H H' s.heap h') (hok:HOk X.prog X.w H' h') (hg:AllBare g')
  (hch:∀b∈ch,(b∈X.ex\/X.s₀.heap.objs.size<=b)/\b≠X.env.locals/\(∀x c,X.env.cells.lookup x=some c->c≠b)/\∀p∈X.pn++pz,p.1≠b):
  Inv X pz σ H' {s with heap:=h',gens:=g',drawn:=d',toks:=t'}:=by
 obtain⟨m,⟨o,es,ep,ho,r⟩,_⟩:=id I.loc
 obtain⟨sl,hL⟩:=u.any ho I.free fun z=>(hch _ z).2.1 rfl
 exact I.step (ch:=ch) hch (fun b o hL hb hc e n=>u.keep b o e n (fun z=>(aj.mp (I.stkSub b z)).elim hL hb) hc) (fun b o _ _ hc e n=>u.any e n hc) (fun b o hc e n=>u.free b o e n hc) (fun b o hc e=>u.there b o e hc) u.tups u.frzs u.tbls (fun m' hm=>by
  obtain⟨o',es',ep',ho',r'⟩:=hm
  rw[ho]at ho';cases ho'
  exact⟨_,es',ep',hL,r'⟩) hok hg
theorem Inv.turned {t':Nat} {it:Addr} (I:Inv X pz σ H s) (k:∀b o,b≠it->s.heap.get? b=some o->h'.get? b=some o) (hn:H it=none) (hL:it≠X.env.locals)
  (h1:it∈X.ex\/X.s₀.heap.objs.size<=it) (h2:∀x c,X.env.cells.lookup x=some c->c≠it) (h3:∀p∈X.pn++pz,p.1≠it):Inv X pz σ H {s with heap:=h',toks:=t'}:=by
 have nit:∀b u,H b=some u->b≠it:=fun b u e z=>by rw[z,hn]at e;cases e
 refine I.step (g':=s.gens) (d':=s.drawn) (ch:=[it]) (fun b hb=>?_) (fun b o _ _ hc e _=>k b o (fun z=>hc (by simp[z])) e) (fun b o _ _ hc e _=>⟨o.slots,k b o (fun z=>hc (by simp[z])) e⟩) (fun _ _ _ _ n=>n)
  (fun b o hc e=>⟨o,k b o (fun z=>hc (by simp[z])) e⟩) (fun _ _ e=>e) (fun _ _ _ e=>e) (fun b ps e=>⟨#[],by rw[e];simp⟩) (fun m hm=>?_) (fun b u e=>?_) I.bare
 ·have e:b=it:=by simpa using hb
  subst e
  exact⟨h1,hL,h2,h3⟩
 ·obtain⟨o,es,ep,ho,r⟩:=hm
  exact⟨o,es,ep,k _ o (Ne.symm hL) ho,r⟩
 ·refine(I.hok b u e).stay (fun c v hc q=>k c v ?_ q) (fun _ q=>q) fun _ _ q=>q
  rcases hc with z|z
  ·rw[z];exact nit b u e
  ·exact nit c _ z
theorem Inv.tok (I:Inv X pz σ H s) (t:Nat):Inv X pz σ H {s with toks:=t}:=I.un (h':=s.heap) (t':=t) Un.refl I.hok
theorem Inv.kept {t':Nat} (I:Inv X pz σ H s) (k:∀b u,s.heap.get? b=some u->h'.get? b=some u):Inv X pz σ H {s with heap:=h',toks:=t'}:=I.un (Un.kept k) (I.hok.kept k)
theorem Inv.laid {a:Addr} {o:HO} {t':Nat} (I:Inv X pz σ H s) (k:∀b u,s.heap.get? b=some u->h'.get? b=some u) (hp:s.heap.objs.size<=a) (new:iD X.prog X.w (upd H a o) h' a o):
  Inv X pz σ (upd H a o) {s with heap:=h',toks:=t'}:=I.un (Un.laid k hp (I.hok.fresh hp)) (I.hok.laid k hp new)
theorem Inv.write {x e:Addr} {o:HO} {t':Nat} (I:Inv X pz σ H s) (mu:Mut (H x)) (he:e=x\/H e=some (.own x)) (k:∀b u,b≠e->s.heap.get? b=some u->h'.get? b=some u) (heo:∃u,h'.get? e=some u)
  (new:iD X.prog X.w (upd H x o) h' x o):Inv X pz σ (upd H x o) {s with heap:=h',toks:=t'}:=I.un (Un.write mu he k heo) (I.hok.write mu he k heo new)
theorem Inv.pins_of {pins':AoL} (I:Inv X pz σ H s) (h:∀p∈pins',s.heap.get? p.1=some p.2/\H p.1=none/\p.1≠X.env.locals/\p.1∉X.fs/\∀v,p.2.data≠ .cell v):Inv X pins' σ H s:=
 ⟨I.ok,I.os,I.bare,I.base,I.loc,I.cell,I.free,I.freeC,fun p hp=>(ao.mp hp).elim (fun z=>I.pin p (aq _ z)) (h p),I.hok,I.len⟩
theorem sH {N:List Str} (hN:N.Nodup) {i j:Nat} {x:Str} (a:N[i]?=some x) (b:N[j]?=some x):i=j:=by
 obtain⟨h1,e1⟩:=au.mp a
 obtain⟨h2,e2⟩:=au.mp b
 exact(List.getElem_inj hN).mp (e1.trans e2.symm)
theorem zb {M:Model} {A:Around} {E:EvP} {i:Nat} {x:Str} {v:V} {u:Value} {Q:Unit->Shared->Prop} (I:Inv X pz σ H s) (hN:X.N.Nodup) (hi:X.N[i]?=some x) (hx:Loc X.env.scope x) (r:iP v u)
  (h:∀s',Inv X pz (σ.set i (some v)) H s'->(∃a,Heap.SameBut a s.heap s'.heap/\(a=X.env.locals\/X.env.cells.lookup x=some a))->Q () s') (hf:autoParam (X.fn x=true\/X.env.scope.names.lookup x=some .local) auL._auto_1):wpAny M A (storeName X.env x u) Q E s:=by
 obtain⟨m,hn,hl⟩:=id I.loc
 have hcls:(X.env.scope.kind== .class||(X.env.scope.kind== .module&&X.env.locals !=X.env.globals))=false:=by rw[I.ok.kind];rfl
 have hiσ:i<σ.length:=by rw[I.len];exact(au.mp hi).1
 have cne:=I.cne
 have tracked:∀{a:Addr} {h':Heap},(∃o,s.heap.get? a=some o/\H a=none)->Heap.SameBut a s.heap h'->HOk X.prog X.w H h':=fun{a h'} ha hs b ob e=>by
  obtain⟨_,_,hfree⟩:=ha
  refine(I.hok b ob e).stay (fun c w' hc q=>(hs.2 c ?_).trans q) (fun _ q=>q) fun _ _ q=>q
  rintro rfl
  rcases hc with rfl|hc
  ·rw[hfree]at e;cases e
  ·rw[hfree]at hc;cases hc
 rcases hx with hk|hk
 ·refine wpAny_storeName_local hk hn (fun h' hn' hs=>?_) hcls
  obtain⟨oL,_,_,hoL,_⟩:=id hn
  refine h _ ⟨I.ok,I.os,I.bare,⟨fun b o e n hb hx=>?_,fun b o e n hb hx=>?_,I.base.free,fun b o e hx=>?_,I.base.tups,I.base.frzs,I.base.tbls⟩,⟨_,hn',fun j y v' e1 e2 e3=>?_⟩,fun y c e=>?_,I.free,I.freeC,fun p hp=>?_,tracked ⟨oL,hoL,I.free⟩ hs,by simpa using I.len⟩ ⟨_,hs,.inl rfl⟩
  ·exact(hs.2 b (cj (cf (fN e) I.ok.above))).trans (I.base.keep b o e n hb hx)
  ·obtain⟨sl,e1⟩:=I.base.slot b o e n hb hx
   exact⟨sl,(hs.2 b (cj (cf (fN e) I.ok.above))).trans e1⟩
  ·obtain⟨o',e1⟩:=I.base.there b o e hx
   exact⟨o',(hs.2 b (cj (cf (fN e) I.ok.above))).trans e1⟩
  ·by_cases hj:j=i
   ·subst hj
    rw[hi]at e1;cases e1
    rw[av hiσ]at e2
    cases e2
    exact⟨u,r,.inl ⟨hk,by simp⟩⟩
   ·rw[aw (Ne.symm hj)]at e2
    obtain⟨u',r',q⟩:=hl j y v' e1 e2 e3
    refine⟨u',r',?_⟩
    rcases q with⟨k,e⟩|⟨k,c,e,z⟩
    ·refine .inl ⟨k,?_⟩
     have:y≠x:=fun e=>hj (sH hN e1 (e▸hi))
     simp[this,e]
    ·exact .inr ⟨k,c,e,z.sameBut hs (cne y c e)⟩
  ·obtain⟨w',z⟩:=I.cell y c e
   exact⟨w',z.sameBut hs (cne y c e)⟩
  ·obtain⟨e,n,ne,nf,d⟩:=I.pin p hp
   exact⟨(hs.2 p.1 ne).trans e,n,ne,nf,d⟩
 ·have hfn:X.fn x=true:=by
   rcases hf with z|z
   ·exact z
   ·rw[z]at hk;cases hk
  obtain⟨c,hc⟩:=I.ok.has x (.inl hk)
  obtain⟨w',z⟩:=I.cell x c hc
  refine wpAny_storeName_cell I.ok.kind hk hc z (fun h' hc' hs=>?_)
  obtain⟨oc,hoc,hocd⟩:=id z
  refine h {s with heap:=h'} ⟨I.ok,I.os,I.bare,⟨fun b o e n hb hx=>?_,fun b o e n hb hx=>?_,I.base.free,fun b o e hx=>?_,I.base.tups,I.base.frzs,I.base.tbls⟩,⟨m,hn.sameBut hs (Ne.symm (cne x c hc)),fun j y v' e1 e2 e3=>?_⟩,fun y c' e=>?_,I.free,I.freeC,fun p hp=>?_,tracked ⟨oc,hoc,I.freeC x c hc⟩ hs,by simpa using I.len⟩ ⟨c,hs,.inr hc⟩
  ·exact(hs.2 b (cj (cf (fN e) (I.ok.cab x c hfn hc)))).trans (I.base.keep b o e n hb hx)
  ·obtain⟨sl,e1⟩:=I.base.slot b o e n hb hx
   exact⟨sl,(hs.2 b (cj (cf (fN e) (I.ok.cab x c hfn hc)))).trans e1⟩
  ·obtain⟨o',e1⟩:=I.base.there b o e hx
   exact⟨o',(hs.2 b (cj (cf (fN e) (I.ok.cab x c hfn hc)))).trans e1⟩
  ·by_cases hj:j=i
   ·subst hj
    rw[hi]at e1;cases e1
    rw[av hiσ]at e2
    cases e2
    exact⟨u,r,.inr ⟨.inl hk,c,hc,hc'⟩⟩
   ·rw[aw (Ne.symm hj)]at e2
    obtain⟨u',r',q⟩:=hl j y v' e1 e2 e3
    refine⟨u',r',?_⟩
    rcases q with q|⟨k,c',e,z'⟩
    ·exact .inl q
    ·refine .inr ⟨k,c',e,z'.sameBut hs ?_⟩
     rintro rfl
     exact hj (sH hN e1 (I.ok.inj _ _ _ e hc▸hi))
  ·by_cases hcc:c'=c
   ·subst hcc;exact⟨_,hc'⟩
   ·obtain⟨w2,z2⟩:=I.cell y c' e
    exact⟨w2,z2.sameBut hs hcc⟩
  ·obtain⟨e,n,ne,nf,d⟩:=I.pin p hp
   refine⟨(hs.2 p.1 ?_).trans e,n,ne,nf,d⟩
   intro q
   rw[q,hoc]at e
   have q':oc=p.2:=cH.inj e
   exact d w' (by rw[<-q'];exact hocd)
theorem lD {M:Model} {A:Around} {E:EvP} {i:Nat} {x:Str} {v:V} {u:Value} {Q:Unit->Shared->Prop} (I:Inv X pz σ H s) (hN:X.N.Nodup) (hi:X.N[i]?=some x) (hx:Loc X.env.scope x) (r:iP v u)
  (h:∀s',Inv X pz (σ.set i (some v)) H s'->Q () s') (hf:autoParam (X.fn x=true\/X.env.scope.names.lookup x=some .local) auL._auto_1):wpAny M A (storeName X.env x u) Q E s:=
 zb I hN hi hx r (fun s' I' _=>h s' I') hf
theorem Inv.call' {s':Shared} {ch:List Addr} (I:Inv X pz σ H s) (ho:s'.os=s.os) (u:Un (frs X.stack) ch H H' s.heap s'.heap) (hok:HOk X.prog X.w H' s'.heap) (hg:AllBare s'.gens)
  (hch:∀b∈ch,(b∈X.ex\/X.s₀.heap.objs.size<=b)/\b≠X.env.locals/\(∀x c,X.env.cells.lookup x=some c->c≠b)/\∀p∈X.pn++pz,p.1≠b):Inv X pz σ H' s':=by
 obtain⟨h',g',d',t',o'⟩:=s'
 have e:o'=s.os:=ho
 subst e
 exact I.call (g':=g') (t':=t') (d':=d') u hok hg hch
end
abbrev XK:=Value->Option Addr->Hp->Prop
abbrev St:=List (Option V)
abbrev VK:=V->Hp->Prop
abbrev TE:=St->Hp->VK->Prop
abbrev TT:=St->Hp->(Bool->Hp->Prop)->Prop
abbrev TA:=St->Hp->(List V->Hp->Prop)->Prop
structure md where
 nx:St->Hp->Prop
 rt:VK
 bk:St->Hp->Prop:=fun _ _=>False
 ct:St->Hp->Prop:=fun _ _=>False
abbrev TS:=md->St->Hp->Prop
def EP (X:Cx) (pz:AoL) (σ:St) (Q:VK) (u:Value) (s':Shared):Prop:=∃v H',Inv X pz σ H' s'/\iP v u/\Q v H'
def TP (X:Cx) (pz:AoL) (σ:St) (Q:Bool->Hp->Prop) (b:Bool) (s':Shared):Prop:=∃H',Inv X pz σ H' s'/\Q b H'
def AP (X:Cx) (pz:AoL) (σ:St) (Q:List V->Hp->Prop) (us:List Value) (s':Shared):Prop:=∃vs H',Inv X pz σ H' s'/\iO vs us/\Q vs H'
def SP (X:Cx) (pz:AoL) (D:md) (f:Flow) (s':Shared):Prop:=
 match f with
 | .next=>∃σ' H',Inv X pz σ' H' s'/\D.nx σ' H'
 | .brk=>∃σ' H',Inv X pz σ' H' s'/\D.bk σ' H'
 | .cont=>∃σ' H',Inv X pz σ' H' s'/\D.ct σ' H'
 | .ret u=>∃v σ' H',Inv X pz σ' H' s'/\iP v u/\D.rt v H'
def PE (X:Cx) (e:Expr) (t:TE):Prop:=
 ∀(pz:AoL) (s:Shared) (σ:St) (H:Hp) (Q:VK),Inv X pz σ H s->t σ H Q->wpAny (model X.prog X.w) X.A (eval e X.env) (EP X pz σ Q) X.xe s
def PT (X:Cx) (e:Expr) (t:TT):Prop:=
 ∀(pz:AoL) (s:Shared) (σ:St) (H:Hp) (Q:Bool->Hp->Prop),Inv X pz σ H s->t σ H Q->wpAny (model X.prog X.w) X.A (isTrue e X.env (eval e X.env)) (TP X pz σ Q) X.xe s
def PW (X:Cx) (e:Expr) (t:TT):Prop:=
 ∀(whole:Sem Value) (pz:AoL) (s:Shared) (σ:St) (H:Hp) (Q:Bool->Hp->Prop),Inv X pz σ H s->t σ H Q->wpAny (model X.prog X.w) X.A (isTrue e X.env whole) (TP X pz σ Q) X.xe s
theorem PW.pt {X:Cx} {e:Expr} {t:TT} (h:PW X e t):PT X e t:=h _
def PA (X:Cx) (es:List Expr) (t:TA):Prop:=
 ∀(pos:Pos) (pz:AoL) (s:Shared) (σ:St) (H:Hp) (Q:List V->Hp->Prop),Inv X pz σ H s->t σ H Q->wpAny (model X.prog X.w) X.A (spliced (backTo pos (starEach es X.env))) (AP X pz σ Q) X.xe s
def PS (X:Cx) (st:Stmt) (t:TS):Prop:=
 ∀(pz:AoL) (s:Shared) (σ:St) (H:Hp) (D:md),Inv X pz σ H s->t D σ H->wpAny (model X.prog X.w) X.A (exec st X.env) (SP X pz D) X.xe s
def PSs (X:Cx) (st:List Stmt) (t:TS):Prop:=
 ∀(pz:AoL) (s:Shared) (σ:St) (H:Hp) (D:md),Inv X pz σ H s->t D σ H->wpAny (model X.prog X.w) X.A (execs st X.env) (SP X pz D) X.xe s
theorem thn {α:Type} {t:Sem α} {Q Q':α->Shared->Prop} {M:Model} {A:Around} {E:EvP} {s:Shared} (h:wpAny M A t Q E s) (hQ:∀a s,Q a s->Q' a s):wpAny M A t Q' E s:=wpAny_mono h hQ fun _ _ x=>x
section
variable {X:Cx}
def E2 (i:Nat):TE:=fun σ H Q=>∃v,σ[i]?=some (some v)/\Q v H
def tC (v:V):TE:=fun _ H Q=>Q v H
theorem Fg {i:Nat} {x:Str} {pos:Pos} (hN:X.N[i]?=some x) (hv:Vis X.env.scope x) (hd:autoParam ((x==("__debug__":Str))=false) auD._auto_1) (hcd:autoParam ((x==("__classdict__":Str))=false) auD._auto_1):PE X (.Name x pos) (E2 i):=by
 intro pz s σ H Q I h
 obtain⟨v,e,h⟩:=h
 obtain⟨m,hn,hl⟩:=I.loc
 obtain⟨u,r,l⟩:=hl i x v hN e hv
 have fin:EP X pz σ Q u s:=⟨v,H,I,r,h⟩
 rcases l with⟨hk,hm⟩|⟨hk,c,hc,hcell⟩
 ·exact wpAny_Name (wpAny_loadName_local I.ok.kind hk hn hm fin) hd
 ·rcases hk with hk|hk
  ·exact wpAny_Name (wpAny_loadName_cell I.ok.kind hk hc hcell fin) hd
  ·exact wpAny_Name (wpAny_loadName_free I.ok.kind hk hc hcell fin hcd) hd
theorem gj {i j pos}:PE X (.Constant (.int i) j pos) (tC (.int i)):=fun _ _ _ H _ I h=>wpAny_Constant_int ⟨.int i,H,I.tok _,⟨_,rfl⟩,h⟩
theorem om {b j pos}:PE X (.Constant (.bool b) j pos) (tC (.bl b)):=fun _ _ _ H _ I h=>Constant_bool ⟨.bl b,H,I,rfl,h⟩
theorem qC {j pos}:PE X (.Constant .none j pos) (tC .non):=fun _ _ _ H _ I h=>Constant_none ⟨.non,H,I,rfl,h⟩
theorem gq {x j pos}:PE X (.Constant (.str x) j pos) (tC (.str x)):=fun _ _ _ H _ I h=>Calls.Constant_str ⟨.str x,H,I.tok _,⟨_,rfl⟩,h⟩
def Gl (X:Cx) (x:Str):Prop:=X.env.kindOf x=some .globalImplicit
theorem mf {E:EvP} {pz:AoL} {s:Shared} {σ:St} {H:Hp} {x:Str} {u:Value} {pos:Pos} {Q:EvP} (I:Inv X pz σ H s) (hg:Gl X x) (hm:X.mg x=some u) (h:Q u s)
  (hd:autoParam ((x==("__debug__":Str))=false) auD._auto_1):wpAny (model X.prog X.w) X.A (eval (.Name x pos) X.env) Q E s:=
 Calls.Name_function_global I.ok.kind hg (Calls.loadGlobal_global (by rw[I.ok.glob];exact I.mod.glob.keeps I.bk) hm h) hd
theorem oo {E:EvP} {pz:AoL} {s:Shared} {σ:St} {H:Hp} {x:Str} {u:Value} {pos:Pos} {Q:EvP} (I:Inv X pz σ H s) (hg:Gl X x) (hm:X.mg x=none) (hv:bootBuiltins x=some u) (h:Q u s)
  (hn:autoParam (x≠"__name__") auD._auto_1) (hd:autoParam ((x==("__debug__":Str))=false) auD._auto_1):wpAny (model X.prog X.w) X.A (eval (.Name x pos) X.env) Q E s:=by
 obtain⟨mb,h1,h2⟩:=I.mod.blt
 exact Calls.Name_function_global I.ok.kind hg (Calls.loadGlobal_builtin (by rw[I.ok.glob];exact I.mod.glob.keeps I.bk) hm (by rw[I.ok.blt];exact h1.keeps I.bk) ((h2 x hn).trans hv) h) hd
theorem vD {x:Str} {v:V} {u:Value} {pos:Pos} (hg:Gl X x) (hm:X.mg x=some u) (r:iP v u) (hd:autoParam ((x==("__debug__":Str))=false) auD._auto_1):PE X (.Name x pos) (tC v):=
 fun _ _ _ H _ I h=>mf I hg hm ⟨v,H,I,r,h⟩ hd
theorem Ds {x:Str} {v:V} {u:Value} {pos:Pos} (hg:Gl X x) (hm:X.mg x=none) (hv:bootBuiltins x=some u) (r:iP v u) (hn:autoParam (x≠"__name__") auD._auto_1) (hd:autoParam ((x==("__debug__":Str))=false) auD._auto_1):PE X (.Name x pos) (tC v):=
 fun _ _ _ H _ I h=>oo I hg hm hv ⟨v,H,I,r,h⟩ hn hd
variable {a b:Expr} {ta tb:TE} {pos:Pos}
def PC (X:Cx) (op:CmpOp) (a b:Expr) (t:TE):Prop:=
 ∀(pz:AoL) (s:Shared) (σ:St) (H:Hp) (Q:VK),Inv X pz σ H s->t σ H Q->
  wpAny (model X.prog X.w) X.A (eval a X.env) (fun v s₁=>wpAny (model X.prog X.w) X.A (eval b X.env) (fun u s₂=>wpAny (model X.prog X.w) X.A (compareOp op v u) (EP X pz σ Q) X.xe s₂) X.xe s₁) X.xe s
theorem wR (b:Expr) {op:CmpOp} (h:op≠ .In) (h2:op≠ .NotIn):behindInMarks op b=false:=by
 have e1:(op==CmpOp.In)=false:=by cases op<;>first|rfl|exact absurd rfl h
 have e2:(op==CmpOp.NotIn)=false:=by cases op<;>first|rfl|exact absurd rfl h2
 cases b<;>simp[behindInMarks,e1,e2]
def tIsN (ta:TE):TE:=fun σ H Q=>ta σ H fun x H1=>Q (.bl (decide (x= .non))) H1
def HG (ta:TE):TE:=fun σ H Q=>ta σ H fun x H1=>Q (.bl (!decide (x= .non))) H1
theorem iP.none_iff {x:V} {v:Value} (r:iP x v):(v==Value.none)=decide (x= .non):=by
 cases x with
 |non=>cases r;rfl
 |bl _=>cases r;rfl
 |int _=>obtain⟨t,rfl⟩:=r;rfl
 |str _=>obtain⟨t,rfl⟩:=r;rfl
 |byt _=>obtain⟨t,rfl⟩:=r;rfl
 |flt _=>obtain⟨t,rfl⟩:=r;rfl
 |ref _=>cases r;rfl
 |ty _=>cases r;rfl
theorem Fh {j pos'} (ha:PE X a ta):PC X .Is a (.Constant .none j pos') (tIsN ta):=by
 intro pz s σ H Q I h
 refine thn (ha pz s σ H _ I h) fun v s1 ⟨x,H1,I1,r1,q1⟩=>?_
 exact Constant_none (is_none_gen ⟨.bl _,H1,I1,by rw[r1.none_iff];rfl,q1⟩)
theorem Du {j pos'} (ha:PE X a ta):PC X .IsNot a (.Constant .none j pos') (HG ta):=by
 intro pz s σ H Q I h
 refine thn (ha pz s σ H _ I h) fun v s1 ⟨x,H1,I1,r1,q1⟩=>?_
 exact Constant_none (isnot_none_gen ⟨.bl _,H1,I1,by rw[r1.none_iff];rfl,q1⟩)
def tB (t:TE):TT:=fun σ H Q=>t σ H fun x H1=>∃c,x= .bl c/\Q c H1
theorem Fi {op:CmpOp} {t:TE} (h:PC X op a b t) (h1:behindInMarks op b=false:=by first|exact wR _ (by decide) (by decide)|rfl):PE X (.Compare a [op] [b] pos) t:=fun pz s σ H Q I hw=>wpAny_Compare1 (h pz s σ H Q I hw) h1
theorem uo {op:CmpOp} {t:TE} (h:PC X op a b t) (h1:behindInMarks op b=false:=by first|exact wR _ (by decide) (by decide)|rfl):PT X (.Compare a [op] [b] pos) (tB t):=by
 intro pz s σ H Q I hw
 refine wpAny_isTrue_Compare1 (thn (h pz s σ H _ I hw) fun v s1 h1=>thn h1 fun u s2 h2=>thn h2 fun c s3 ⟨x,H1,I1,r1,q1⟩=>?_) h1
 obtain⟨d,rfl,q⟩:=q1
 cases r1
 exact wpAny_truthy_bool ⟨H1,I1,q⟩
theorem kr {e:Expr} {t:TE} (h:PE X e t) (he:autoParam (∀whole,isTrue e X.env whole=(do let v<-whole;standAt e.pos;holding [v] (truthy v))) auI._auto_1):PT X e (tB t):=by
 intro pz s σ H Q I hw
 refine isTrue_plain (thn (h pz s σ H _ I hw) fun v s1 ⟨x,H1,I1,r1,q1⟩=>?_) (he _)
 obtain⟨d,rfl,q⟩:=q1
 cases r1
 exact wpAny_truthy_bool ⟨H1,I1,q⟩
variable {tA tB':TT} {rest:List Expr}
def tAnd (t u:TT):TT:=fun σ H Q=>t σ H fun c H1=>if c=true then u σ H1 Q else Q false H1
def tOr (t u:TT):TT:=fun σ H Q=>t σ H fun c H1=>if c=true then Q true H1 else u σ H1 Q
def tNot (t:TT):TT:=fun σ H Q=>t σ H fun c H1=>Q (!c) H1
theorem zc (ha:PT X a tA):PW X (.BoolOp .And [a] pos) tA:=by
 intro wh pz s σ H Q I h
 refine isTrue_and (thn (ha pz s σ H Q I h) fun c s1 e=>?_)
 cases c with
 |true=>exact isTrue_and_nil e
 |false=>exact e
theorem wU (ha:PT X a tA):PW X (.BoolOp .Or [a] pos) tA:=by
 intro wh pz s σ H Q I h
 refine isTrue_or (thn (ha pz s σ H Q I h) fun c s1 e=>?_)
 cases c with
 |false=>exact isTrue_or_nil e
 |true=>exact e
theorem Ct (ha:PT X a tA) (hb:PW X (.BoolOp .And (b::rest) pos) tB'):PW X (.BoolOp .And (a::b::rest) pos) (tAnd tA tB'):=by
 intro wh pz s σ H Q I h
 refine isTrue_and (thn (ha pz s σ H _ I h) fun c s1 ⟨H1,I1,q1⟩=>?_)
 cases c with
 |true=>exact hb wh pz s1 σ H1 Q I1 q1
 |false=>exact⟨H1,I1,q1⟩
theorem Bm (ha:PT X a tA) (hb:PW X (.BoolOp .Or (b::rest) pos) tB'):PW X (.BoolOp .Or (a::b::rest) pos) (tOr tA tB'):=by
 intro wh pz s σ H Q I h
 refine isTrue_or (thn (ha pz s σ H _ I h) fun c s1 ⟨H1,I1,q1⟩=>?_)
 cases c with
 |true=>exact⟨H1,I1,q1⟩
 |false=>exact hb wh pz s1 σ H1 Q I1 q1
theorem nj (ha:PT X a tA):PT X (.UnaryOp .Not a pos) (tNot tA):=by
 intro pz s σ H Q I h
 exact isTrue_not (ha pz s σ H (fun c H1=>Q (!c) H1) I h)
def HH (ta tb:TE):TE:=fun σ H Q=>ta σ H fun x H1=>∃c,x= .bl c/\if c=true then tb σ H1 Q else Q (.bl false) H1
def tOrV (ta tb:TE):TE:=fun σ H Q=>ta σ H fun x H1=>∃c,x= .bl c/\if c=true then Q (.bl true) H1 else tb σ H1 Q
theorem wW {op} {t:TE} (h:PE X a t):PE X (.BoolOp op [a] pos) t:=fun pz s σ H Q I hw=>BoolOp_one (h pz s σ H Q I hw)
theorem wX (ha:PE X a ta) (hb:PE X (.BoolOp .And (b::rest) pos) tb):PE X (.BoolOp .And (a::b::rest) pos) (HH ta tb):=by
 intro pz s σ H Q I h
 refine BoolOp_and (thn (ha pz s σ H _ I h) fun v s1 ⟨x,H1,I1,r1,q1⟩=>?_)
 obtain⟨c,rfl,q1⟩:=q1
 cases r1
 refine wpAny_truthy_bool ?_
 cases c with
 |true=>exact hb pz s1 σ H1 Q I1 q1
 |false=>exact⟨.bl false,H1,I1,rfl,q1⟩
theorem HI (ha:PE X a ta) (hb:PE X (.BoolOp .Or (b::rest) pos) tb):PE X (.BoolOp .Or (a::b::rest) pos) (tOrV ta tb):=by
 intro pz s σ H Q I h
 refine BoolOp_or (thn (ha pz s σ H _ I h) fun v s1 ⟨x,H1,I1,r1,q1⟩=>?_)
 obtain⟨c,rfl,q1⟩:=q1
 cases r1
 refine wpAny_truthy_bool ?_
 cases c with
 |false=>exact hb pz s1 σ H1 Q I1 q1
 |true=>exact⟨.bl true,H1,I1,rfl,q1⟩
def tIf (t:TT) (ta tb:TE):TE:=fun σ H Q=>t σ H fun c H1=>if c=true then ta σ H1 Q else tb σ H1 Q
theorem qj {c:Expr} (hc:PT X c tA) (ha:PE X a ta) (hb:PE X b tb):PE X (.IfExp c a b pos) (tIf tA ta tb):=by
 intro pz s σ H Q I h
 refine wpAny_IfExp (thn (hc pz s σ H _ I h) fun d s1 ⟨H1,I1,q1⟩=>?_)
 cases d with
 |true=>exact ha pz s1 σ H1 Q I1 q1
 |false=>exact hb pz s1 σ H1 Q I1 q1
end
def SqL (K:PySem.W.Frag) (H:Hp) (a:Addr) (xs:List V):Prop:=
 Rd H a (.lst xs)\/
  ∃(o:Obj) (its:Array Value) (n:Nat),K.lookup a=some o/\o.cls= .type "list"/\o.dict=none/\o.data= .seq its n/\its.size<=sizeLine/\iO xs its.toList
def SqT (K:PySem.W.Frag) (H:Hp) (a:Addr) (xs:List V):Prop:=
 Rd H a (.tup xs)\/
  ∃(o:Obj) (its:Array Value) (n:Nat),K.lookup a=some o/\o.cls= .type "tuple"/\o.data= .seq its n/\its.size<=sizeLine/\iO xs its.toList
def absV:Value->Option V
 | .none=>some .non
 | .bool b=>some (.bl b)
 | .int i _=>some (.int i)
 | .str x _=>some (.str x)
 | .bytes b _=>some (.byt b)
 | .float b _=>some (.flt b)
 | .ref a=>some (.ref a)
 | .type n=>some (.ty n)
 |_=>none
theorem iP.abs {x:V} {u:Value} (r:iP x u):absV u=some x:=by
 cases x with
 |non=>cases r;rfl
 |bl _=>cases r;rfl
 |int _=>obtain⟨t,rfl⟩:=r;rfl
 |str _=>obtain⟨t,rfl⟩:=r;rfl
 |byt _=>obtain⟨t,rfl⟩:=r;rfl
 |flt _=>obtain⟨t,rfl⟩:=r;rfl
 |ref _=>cases r;rfl
 |ty _=>cases r;rfl
theorem iP.inj {x y:V} {u:Value} (r:iP x u) (q:iP y u):x=y:=cH.inj (r.abs.symm.trans q.abs)
theorem iO.inj:∀{xs ys:List V} {us:List Value},iO xs us->iO ys us->xs=ys
 |_,_,_,.nil,.nil=>rfl
 |_,_,_,.cons r t,.cons r' t'=>by rw[r.inj r',iO.inj t t']
section
variable {X:Cx} {pz:AoL} {σ:St} {H:Hp} {s:Shared} {a:Addr} {xs ys:List V}
theorem SqL.of {K:PySem.W.Frag} (h:H a=some (.lst xs)):SqL K H a xs:= .inl (.inl h)
theorem SqT.of {K:PySem.W.Frag} (h:H a=some (.tup xs)):SqT K H a xs:= .inl (.inl h)
theorem Inv.list (I:Inv X pz σ H s) (h:SqL X.K H a xs):∃its:List Value,iO xs its/\PlainL s.heap a its.toArray/\xs.length<=sizeLine:=by
 rcases h with h|⟨o,its,n,hk,hc,hd,hs,hz,r⟩
 ·obtain⟨z,its,n,r,e⟩:=h.ok I.hok
  exact⟨its,r,⟨_,n,e,rfl,rfl,rfl⟩,z⟩
 ·refine⟨its.toList,r,⟨o,n,I.kIn a o hk,hc,hd,by simpa using hs⟩,?_⟩
  have e:=r.length
  simp only[fq]at e
  lia
theorem Inv.tuple (I:Inv X pz σ H s) (h:SqT X.K H a xs):∃its:List Value,iO xs its/\IsTup s.heap a its.toArray/\xs.length<=sizeLine:=by
 rcases h with h|⟨o,its,n,hk,hc,hs,hz,r⟩
 ·obtain⟨z,its,r,p⟩:=h.ok I.hok
  exact⟨its,r,p.tup,z⟩
 ·refine⟨its.toList,r,⟨o,I.kIn a o hk,hc,n,by simpa using hs⟩,?_⟩
  have e:=r.length
  simp only[fq]at e
  lia
theorem Inv.list_inj (I:Inv X pz σ H s) (h:SqL X.K H a xs) (h':SqL X.K H a ys):xs=ys:=by
 obtain⟨its,r,⟨o,n,e,_,_,d⟩,_⟩:=I.list h
 obtain⟨its',r',⟨o',n',e',_,_,d'⟩,_⟩:=I.list h'
 rw[e]at e';cases e'
 rw[d]at d'
 injection d' with d1 _
 have:its=its':=by simpa using congrArg Array.toList d1
 subst this
 exact r.inj r'
theorem Inv.tuple_inj (I:Inv X pz σ H s) (h:SqT X.K H a xs) (h':SqT X.K H a ys):xs=ys:=by
 obtain⟨its,r,⟨o,e,_,n,d⟩,_⟩:=I.tuple h
 obtain⟨its',r',⟨o',e',_,n',d'⟩,_⟩:=I.tuple h'
 rw[e]at e';cases e'
 rw[d]at d'
 injection d' with d1 _
 have:its=its':=by simpa using congrArg Array.toList d1
 subst this
 exact r.inj r'
end
abbrev Cx.wish (X:Cx) (E:EvP):Cx:={X with xe:=E}
abbrev Cx.nox (X:Cx):Cx:=X.wish fun _ _=>False
theorem Cx.Ok.wish {X:Cx} (ok:X.Ok) (E:EvP):(X.wish E).Ok:=
 ⟨ok.mod,ok.kind,ok.glob,ok.blt,ok.above,ok.inj,ok.has,ok.cab,ok.hd,ok.frames,ok.stk,ok.exf,ok.bs,ok.bsz,ok.noex,ok.exfs,ok.funs,ok.frf⟩
theorem Cx.Ok.unwish {X:Cx} {E:EvP} (ok:(X.wish E).Ok):X.Ok:=
 ⟨ok.mod,ok.kind,ok.glob,ok.blt,ok.above,ok.inj,ok.has,ok.cab,ok.hd,ok.frames,ok.stk,ok.exf,ok.bs,ok.bsz,ok.noex,ok.exfs,ok.funs,ok.frf⟩
section
variable {X:Cx} {pz:AoL} {σ:St} {H:Hp} {s:Shared} {E:EvP}
theorem Inv.wish (I:Inv X pz σ H s) (E:EvP):Inv (X.wish E) pz σ H s:=⟨I.ok.wish E,I.os,I.bare,I.base,I.loc,I.cell,I.free,I.freeC,I.pin,I.hok,I.len⟩
theorem Inv.unwish (I:Inv (X.wish E) pz σ H s):Inv X pz σ H s:=⟨I.ok.unwish,I.os,I.bare,I.base,I.loc,I.cell,I.free,I.freeC,I.pin,I.hok,I.len⟩
theorem SP.unwish {D:md} {f:Flow} {s':Shared} (h:SP (X.wish E) pz D f s'):SP X pz D f s':=by
 cases f with
 |next=>obtain⟨σ',H',I,q⟩:=h;exact⟨σ',H',I.unwish,q⟩
 |brk=>obtain⟨σ',H',I,q⟩:=h;exact⟨σ',H',I.unwish,q⟩
 |cont=>obtain⟨σ',H',I,q⟩:=h;exact⟨σ',H',I.unwish,q⟩
 |ret u=>obtain⟨v,σ',H',I,r,q⟩:=h;exact⟨v,σ',H',I.unwish,r,q⟩
theorem PE.nox {e:Expr} {t:TE} (h:PE X.nox e t):PE X e t:=fun pz s σ H Q I hw=>
 wpAny_mono (h pz s σ H Q (I.wish _) hw) (fun _ _ ⟨v,H',I',r,q⟩=>⟨v,H',I'.unwish,r,q⟩) fun _ _ z=>False.elim z
theorem PT.nox {e:Expr} {t:TT} (h:PT X.nox e t):PT X e t:=fun pz s σ H Q I hw=>
 wpAny_mono (h pz s σ H Q (I.wish _) hw) (fun _ _ ⟨H',I',q⟩=>⟨H',I'.unwish,q⟩) fun _ _ z=>False.elim z
theorem PSs.nox {st:List Stmt} {t:TS} (h:PSs X.nox st t):PSs X st t:=fun pz s σ H D I hw=>
 wpAny_mono (h pz s σ H D (I.wish _) hw) (fun _ _ q=>q.unwish) fun _ _ z=>False.elim z
end
section
variable {X:Cx} {st:Stmt} {rest:List Stmt} {t u:TS} {e:Expr} {te:TE} {pos:Pos}
def oq:TS:=fun D σ H=>D.nx σ H
def vw (t u:TS):TS:=fun D σ H=>t {D with nx:=u D} σ H
theorem gE:PSs X [] oq:=fun _ _ σ H _ I h=>wpAny_execs_nil ⟨σ,H,I,h⟩
theorem gb (h1:PS X st t) (h2:PSs X rest u):PSs X (st::rest) (vw t u):=by
 intro pz s σ H D I h
 refine wpAny_execs_cons (thn (h1 pz s σ H {D with nx:=u D} I h) fun f s1 q=>?_)
 cases f with
 |next=>
  obtain⟨σ',H',I',q⟩:=q
  exact h2 pz s1 σ' H' D I' q
 |ret v=>exact q
 |brk=>exact q
 |cont=>exact q
theorem gk (h1:PS X st t):PSs X [st] t:=by
 intro pz s σ H D I h
 refine wpAny_execs_cons (thn (h1 pz s σ H D I h) fun f s1 q=>?_)
 cases f with
 |next=>exact wpAny_execs_nil q
 |ret v=>exact q
 |brk=>exact q
 |cont=>exact q
theorem Inv.quiet {pz:AoL} {σ:St} {H:Hp} {s:Shared} (I:Inv X pz σ H s):interactive X.env=false:=by simp[interactive,I.ok.kind]
def Dv (te:TE):TS:=fun D σ H=>te σ H fun _ H1=>D.nx σ H1
theorem gK (he:PE X e te) (hs:autoParam (swapsWith e none pos.line X.env=pure false) auR._auto_1):PS X (.Expr e pos) (Dv te):=by
 intro pz s σ H D I h
 exact wpAny_Expr_any (thn (he pz s σ H _ I h) fun v s1 ⟨x,H1,I1,r1,q1⟩=>⟨σ,H1,I1,q1⟩) I.quiet hs
def Fj (te:TE):TS:=fun D σ H=>te σ H D.rt
theorem gJ (he:PE X e te):PS X (.Return (some e) pos) (Fj te):=by
 intro pz s σ H D I h
 exact wpAny_Return_some (thn (he pz s σ H _ I h) fun v s1 ⟨x,H1,I1,r1,q1⟩=>⟨x,σ,H1,I1,r1,q1⟩)
def HJ:TS:=fun D _ H=>D.rt .non H
theorem zd:PS X (.Return none pos) HJ:=fun _ _ σ H _ I h=>wpAny_Return_none ⟨.non,σ,H,I,rfl,h⟩
def yV (c:TT) (t u:TS):TS:=fun D σ H=>c σ H fun b H1=>if b=true then t D σ H1 else u D σ H1
theorem ic {c:Expr} {a b:List Stmt} {tc:TT} (hc:PT X c tc) (ha:PSs X a t) (hb:PSs X b u):PS X (.If c a b pos) (yV tc t u):=by
 intro pz s σ H D I h
 refine wpAny_If (thn (hc pz s σ H _ I h) fun d s1 ⟨H1,I1,q1⟩=>?_)
 cases d with
 |true=>exact ha pz s1 σ H1 D I1 q1
 |false=>exact hb pz s1 σ H1 D I1 q1
def Cu:TS:=fun _ _ _=>False
theorem wY:PS X st Cu:=fun _ _ _ _ _ _ h=>h.elim
theorem ze {sts:List Stmt}:PSs X sts Cu:=fun _ _ _ _ _ _ h=>h.elim
end
abbrev TG:=V->St->Hp->(St->Hp->Prop)->Prop
abbrev TGs:=List V->St->Hp->(St->Hp->Prop)->Prop
def PG (X:Cx) (target:Expr) (t:TG):Prop:=
 ∀(pz:AoL) (s:Shared) (σ:St) (H:Hp) (v:V) (u:Value) (Q:St->Hp->Prop),Inv X pz σ H s->iP v u->t v σ H Q->
  wpAny (model X.prog X.w) X.A (assign target X.env u) (fun _ s'=>∃σ' H',Inv X pz σ' H' s'/\Q σ' H') X.xe s
def PGs (X:Cx) (ts:List Expr) (t:TGs):Prop:=
 ∀(pz:AoL) (s:Shared) (σ:St) (H:Hp) (vs:List V) (us:List Value) (Q:St->Hp->Prop),Inv X pz σ H s->iO vs us->t vs σ H Q->
  wpAny (model X.prog X.w) X.A (assignInOrder ((assignEach ts X.env).map (·.2)) us) (fun _ s'=>∃σ' H',Inv X pz σ' H' s'/\Q σ' H') X.xe s
abbrev HK:=V->V->V->Hp->(Hp->Prop)->Prop
def JD (X:Cx) (t:HK):Prop:=
 ∀(pz:AoL) (s:Shared) (σ:St) (H:Hp) (o i v:V) (ov iv u:Value) (Q:Hp->Prop),Inv X pz σ H s->iP o ov->iP i iv->iP v u->t o i v H Q->
  wpAny (model X.prog X.w) X.A (setItem ov iv u) (fun _ s'=>∃H',Inv X pz σ H' s'/\Q H') X.xe s
section
variable {X:Cx} {pos:Pos}
def ia (i:Nat):TG:=fun v σ H Q=>Q (σ.set i (some v)) H
theorem vE {i:Nat} {x:Str} (hN:X.N.Nodup) (hi:X.N[i]?=some x) (hx:Loc X.env.scope x) (hf:autoParam (X.fn x=true\/X.env.scope.names.lookup x=some .local) auL._auto_1):PG X (.Name x pos) (ia i):=by
 intro pz s σ H v u Q I r h
 exact wpAny_assign_Name (lD I hN hi hx r (fun s' I'=>⟨_,H,I',h⟩) hf)
def E3:TGs:=fun vs σ H Q=>vs=[]/\Q σ H
def qD (t:TG) (u:TGs):TGs:=fun vs σ H Q=>∃v r,vs=v::r/\t v σ H fun σ' H'=>u r σ' H' Q
theorem oT:PGs X [] E3:=by
 intro pz s σ H vs us Q I r h
 obtain⟨e,h⟩:=h
 subst e
 cases r
 exact assignInOrder_nil ⟨σ,H,I,h⟩
theorem jB {e:Expr} {es:List Expr} {t:TG} {u:TGs} (h1:PG X e t) (h2:PGs X es u)
  (hs:autoParam ((assignEach (e::es) X.env).map (·.2)=assign e X.env::(assignEach es X.env).map (·.2)) auR._auto_1):PGs X (e::es) (qD t u):=by
 intro pz s σ H vs us Q I r h
 obtain⟨v,vr,e1,h⟩:=h
 subst e1
 cases r with
 |cons r rr=>
  rw[hs]
  refine assignInOrder_cons (thn (h1 pz s σ H _ _ _ I r h) fun _ s1 ⟨σ1,H1,I1,q1⟩=>?_)
  exact h2 pz s1 σ1 H1 _ _ Q I1 rr q1
def E4 (K:PySem.W.Frag) (n:Nat) (t:TGs):TG:=fun v σ H Q=>∃a xs,v= .ref a/\SqT K H a xs/\xs.length=n/\t xs σ H Q
theorem wZ {es:List Expr} {k:Nat} {t:TGs} {n:Nat} (hc:X.calm=true) (h:PGs X es t)
  (hn:autoParam ((assignEach es X.env).length=n) auR._auto_1) (hst:autoParam ((assignEach es X.env).findIdx? (·.1)=none) auR._auto_1):PG X (.Tuple es k pos) (E4 X.K n t):=by
 intro pz s σ H v u Q I r hw
 obtain⟨a,xs,e1,hq,hl,hw⟩:=hw
 subst e1
 cases r
 obtain⟨its,rv,ht,hz⟩:=I.tuple hq
 refine assign_Tuple_tuple (I.ok.hd hc) ht (by simp[hn,<-hl,rv.length]) hst fun h' hx=>?_
 have I1:Inv X pz σ H {s with heap:=h'}:=I.kept (t':=s.toks) fun b o e=>hx b o (cj (fN e)) e
 exact h pz _ σ H xs _ Q I1 (by simpa using rv) hw
def gSub (to ti:TE) (t:HK):TG:=fun v σ H Q=>to σ H fun o H1=>ti σ H1 fun i H2=>t o i v H2 fun H3=>Q σ H3
theorem Fn {o i:Expr} {to ti:TE} {t:HK} (ho:PE X o to) (hi:PE X i ti) (hs:JD X t)
  (ha:∀v,assign (.Subscript o i pos) X.env v=(do
   let ov<-holding [v] (eval o X.env)
   let iv<-holding [v,ov] (eval i X.env)
   standAt pos
   holding [v,ov,iv] (setItem ov iv v)
   release [v,ov,iv] []):=by intro _;rfl):PG X (.Subscript o i pos) (gSub to ti t):=by
 intro pz s σ H v u Q I r h
 rw[ha]
 refine wpAny_bind (wpAny_holding (thn (ho pz s σ H _ I h) fun ov s1 ⟨x,H1,I1,r1,q1⟩=>?_))
 refine wpAny_bind (wpAny_holding (thn (hi pz s1 σ H1 _ I1 q1) fun iv s2 ⟨y,H2,I2,r2,q2⟩=>?_))
 refine wpAny_bind (wpAny_standAt (wpAny_bind (wpAny_holding (thn (hs pz s2 σ H2 x y v ov iv u _ I2 r1 r2 r q2) fun _ s3 ⟨H3,I3,q3⟩=>?_))))
 exact wpAny_release ⟨σ,H3,I3,q3⟩
def Bo (te:TE) (g:TG):TS:=fun D σ H=>te σ H fun x H1=>g x σ H1 D.nx
theorem zf {tg e:Expr} {te:TE} {g:TG} (he:PE X e te) (hg:PG X tg g) (hs:autoParam (swapsWithSole [tg] e pos.line X.env=pure false) auR._auto_1) (hw:autoParam (swappedStores [tg] e X.env=pure none) auR._auto_1)
  (h1:autoParam ((assignEach [tg] X.env).map (·.2)=[assign tg X.env]) auR._auto_1):PS X (.Assign [tg] e pos) (Bo te g):=by
 intro pz s σ H D I h
 refine wpAny_Assign_stores (thn (he pz s σ H _ I h) fun v s1 ⟨x,H1,I1,r1,q1⟩=>?_) hs hw
 rw[h1]
 exact thn (hg pz s1 σ H1 x v _ I1 r1 q1) fun _ s2 q=>q
theorem Fo {i:Nat} {x:Str} {e:Expr} {te:TE} {pos':Pos} (hN:X.N.Nodup) (hi:X.N[i]?=some x) (hx:Loc X.env.scope x) (he:PE X e te) (hs:autoParam (swapsWith e (some (.Name x pos')) pos.line X.env=pure false) auR._auto_1) (hf:autoParam (X.fn x=true\/X.env.scope.names.lookup x=some .local) auL._auto_1):
  PS X (.Assign [.Name x pos'] e pos) (Bo te (ia i)):=by
 intro pz s σ H D I h
 refine wpAny_Assign_Name (thn (he pz s σ H _ I h) fun v s1 ⟨y,H1,I1,r1,q1⟩=>?_) hs
 exact lD I1 hN hi hx r1 (fun s2 I2=>⟨_,H1,I2,q1⟩) hf
end
section
variable {X:Cx} {pos:Pos}
def Fp (c:TT) (tb:TS):TS:=fun D σ H=>∃W:Nat->St->Hp->Prop,(∃m,W m σ H)/\∀m σ H,W m σ H->
 c σ H fun b H1=>if b=true then ∃N:St->Hp->Prop,(∀σ' H',N σ' H'->∃m',m'<m/\W m' σ' H')/\tb {D with nx:=N,ct:=N,bk:=D.nx} σ H1 else D.nx σ H1
theorem mS {c:Expr} {body:List Stmt} {tc:TT} {tb:TS} (hp:PassesOwn (model X.prog X.w) X.A X.env X.xe) (hc:PT X c tc) (hb:PSs X body tb):PS X (.While c body [] pos) (Fp tc tb):=by
 intro pz s σ H D I h
 obtain⟨W,⟨m0,w0⟩,turn⟩:=h
 refine wpAny_While (codeAny_whileLoop (fun n s'=>∃σ' H',Inv X pz σ' H' s'/\W n σ' H') ?_ m0 ⟨σ,H,I,w0⟩)
 rintro n s1 ⟨σ1,H1,I1,w1⟩
 refine wpAny_passesOwn hp (thn (hc pz s1 σ1 H1 _ I1 (turn n σ1 H1 w1)) fun b s2 ⟨H2,I2,q2⟩=>?_)
 cases b with
 |true=>
  obtain⟨N,hN,q2⟩:=q2
  rw[gX rfl]
  refine wpAny_passesOwn hp (thn (hb pz s2 σ1 H2 _ I2 q2) fun f s3 q3=>?_)
  cases f with
  |next=>
   obtain⟨σ3,H3,I3,n3⟩:=q3
   obtain⟨m',hm,w3⟩:=hN σ3 H3 n3
   exact⟨m',hm,σ3,H3,I3,w3⟩
  |cont=>
   obtain⟨σ3,H3,I3,n3⟩:=q3
   obtain⟨m',hm,w3⟩:=hN σ3 H3 n3
   exact⟨m',hm,σ3,H3,I3,w3⟩
  |brk=>exact q3
  |ret v=>exact q3
 |false=>
  rw[gN eX]
  exact wpAny_execs_nil ⟨σ1,H2,I2,q2⟩
end
structure It where
 go:Nat->Hp->Prop
 yld:Nat->Hp->V->Hp->Prop
 stop:Nat->Hp->Prop
def vF (X:Cx) (pz:AoL) (H:Hp) (b:Addr):Prop:=
 H b=none/\b≠X.env.locals/\b∉X.fs/\(b∈X.ex\/X.s₀.heap.objs.size<=b)/\(∀x c,X.env.cells.lookup x=some c->c≠b)/\∀p∈X.pn++pz,p.1≠b
theorem Inv.fpOk {X:Cx} {pz:AoL} {σ:St} {H H':Hp} {s:Shared} {b:Addr} (I:Inv X pz σ H s) (hb:s.heap.objs.size<=b) (hn:H' b=none):vF X pz H' b:=by
 refine⟨hn,cn (cf I.lt hb),I.nofs hb,.inr (ck I.sz hb),fun x c e z=>?_,fun p hp z=>?_⟩
 ·obtain⟨v,q⟩:=I.cell x c e
  exact absurd (cf q.lt (by rw[z];exact hb)) (cg _)
 ·exact absurd (cf (fN (I.pin p hp).1) (by rw[z];exact hb)) (cg _)
structure Cv (P:Program) (w:World) (K:PySem.W.Frag) (tg:Expr) (J:It) (fp:List Addr) (it:Addr) (tn:Nat->Heap->Prop):Prop where
 mem:it∈fp
 obj:∀i h,tn i h->∀b∈fp,∃o,h.get? b=some o/\∀v,o.data≠ .cell v
 keep:∀i h h',tn i h->(∀b∈fp,∀o,h.get? b=some o->h'.get? b=some o)->tn i h'
 item:∀(X:Cx),X.prog=P->X.w=w->X.K=K->X.calm=true->∀(i:Nat) (pz:AoL) (s:Shared) (σ:St) (H:Hp) (E:EvP),Inv X pz σ H s->(∀b∈fp,vF X pz H b)->tn i s.heap->J.go i H->
  wpAny (model P w) X.A (pyNext (.ref it)) (fun r s1=>∃u,r=some u/\
   wpAny (model P w) X.A (letOwnedTupleGo tg (.ref it) u) (fun _ s2=>∃x H',Inv X pz σ H' s2/\iP x u/\J.yld i H x H'/\tn (i+ 1) s2.heap/\∀b∈fp,H' b=none) E s1) E s
 done:∀(X:Cx),X.prog=P->X.w=w->X.K=K->X.calm=true->∀(i:Nat) (pz:AoL) (s:Shared) (σ:St) (H:Hp) (E:EvP),Inv X pz σ H s->(∀b∈fp,vF X pz H b)->tn i s.heap->J.stop i H->
  wpAny (model P w) X.A (pyNext (.ref it)) (fun r s1=>r=none/\Inv X pz σ H s1) E s
 self:∀(A:Around) (i:Nat) (s:Shared) (Q:EvP) (E:EvP),tn i s.heap->Q (.ref it) s->wpAny (model P w) A (pyIter (.ref it)) Q E s
abbrev TI:=St->Hp->(It->Hp->Prop)->Prop
def PIE (X:Cx) (pz:AoL) (σ:St) (tg:Expr) (R:It->Hp->Prop) (itv:Value) (s2:Shared):Prop:=
 ∃(it:Addr) (fp:List Addr) (tn:Nat->Heap->Prop) (J:It) (H':Hp),itv= .ref it/\Inv X pz σ H' s2/\Cv X.prog X.w X.K tg J fp it tn/\tn 0 s2.heap/\(∀b∈fp,vF X pz H' b)/\R J H'
def PI (X:Cx) (tg iter:Expr) (wi:TI):Prop:=
 ∀(pz:AoL) (s:Shared) (σ:St) (H:Hp) (R:It->Hp->Prop),Inv X pz σ H s->wi σ H R->
  wpAny (model X.prog X.w) X.A (eval iter X.env) (fun v s1=>wpAny (model X.prog X.w) X.A (pyIter v) (PIE X pz σ tg R) X.xe s1) X.xe s
theorem zg {M : Model} {A : Around} {E : Value -> Shared -> Prop} {s : Shared} {tg : Expr} {it : Addr} {u : Value} {o : Obj} {n : String} {vs : Array Value} {Q : Unit -> Shared -> Prop} (ho : s.heap.get? it = some o) (hc : o.cls = .type n) (hd : o.data = .fields vs)
  (hn : ["enumerate", "zip", "dict_itemiterator", "dict_reverseitemiterator", "odict_iterator", "itertools.zip_longest", "itertools.pairwise"].contains n = false) (hQ : Q () s) : wpAny M A (letOwnedTupleGo tg (.ref it) u) Q E s := by
 unfold letOwnedTupleGo
 cases tg <;> first
  | exact wpAny_pure hQ
  | (cases u <;> first
    | exact wpAny_pure hQ
    | (refine wpAny_bind (wpAny_load ho ?_)
       rw [hc, hd]
       show wpAny M A (if (["enumerate", "zip", "dict_itemiterator", "dict_reverseitemiterator", "odict_iterator", "itertools.zip_longest", "itertools.pairwise"].contains n && vs[0]? == some (rawInt _)) = true then _ else _) Q E s
       rw [gN (by intro h; rw [hn, Bool.false_and] at h; cases h)]
       exact wpAny_pure hQ))
def Itl (K:PySem.W.Frag) (a:Addr):It:=
 ⟨fun i H=>∃xs x,SqL K H a xs/\xs[i]?=some x,fun i H x H'=>H'=H/\∀xs,SqL K H a xs->xs[i]?=some x,fun i H=>∃xs,SqL K H a xs/\xs.length<=i⟩
def Itt (K:PySem.W.Frag) (a:Addr):It:=
 ⟨fun i H=>∃xs x,SqT K H a xs/\xs[i]?=some x,fun i H x H'=>H'=H/\∀xs,SqT K H a xs->xs[i]?=some x,fun i H=>∃xs,SqT K H a xs/\xs.length<=i⟩
def Itr (lo:Int) (n:Nat):It:=⟨fun i _=>i<n,fun i H x H'=>H'=H/\x= .int (lo+i),fun i _=>n<=i⟩
theorem zh {P:Program} {w:World} {K:PySem.W.Frag} {tg:Expr} (a it:Addr):Cv P w K tg (Itl K a) [it] it (fun i h=>h.IsListIter it a i) where
 mem:=by simp
 obj:=fun i h st b hb=>by
  have e:b=it:=by simpa using hb
  subst e
  obtain⟨o,e,c,d⟩:=st
  exact⟨o,e,fun v z=>by rw[d]at z;cases z⟩
 keep:=fun i h h' st k=>st.at fun o e=>k it (by simp) o e
 item:=by
  intro X hP hw hK hc i pz s σ H E I hf st hg
  subst hP hw hK
  obtain⟨xs,x,hq,hx⟩:=hg
  obtain⟨its,rv,p,hz⟩:=I.list hq
  obtain⟨u,hu,ru⟩:=rv.get hx
  obtain⟨f0,f1,f2,f3,f4,f5⟩:=hf it (by simp)
  refine wpAny_pyNext_list_item st p.isList (x:=u) (by simpa using hu) fun h' st' sb=>?_
  have I1:Inv X pz σ H {s with heap:=h'}:=I.turned (t':=s.toks) (fun b o hb e=>(sb.2 b hb).trans e) f0 f1 f3 f4 f5
  obtain⟨o,e,c,d⟩:=id st'
  exact⟨u,rfl,zg (s:={s with heap:=h'}) e c d (by decide) ⟨x,H,I1,ru,⟨rfl,fun ys hy=>by rw[I.list_inj hy hq];exact hx⟩,st',fun b hb=>(hf b hb).1⟩⟩
 done:=by
  intro X hP hw hK hc i pz s σ H E I hf st hg
  subst hP hw hK
  obtain⟨xs,hq,hx⟩:=hg
  obtain⟨its,rv,p,hz⟩:=I.list hq
  obtain⟨f0,f1,f2,f3,f4,f5⟩:=hf it (by simp)
  have hl:=rv.length
  exact wpAny_pyNext_list_end (I.ok.hd hc) st p.isList (by simp;lia) fun h' eb=>⟨rfl,I.turned (t':=s.toks) (fun b o hb e=>eb b o hb e) f0 f1 f3 f4 f5⟩
 self:=fun _ _ _ _ _ st h=>wpAny_pyIter_listiter st h
theorem yh {P:Program} {w:World} {K:PySem.W.Frag} {tg:Expr} (a it:Addr):Cv P w K tg (Itt K a) [it] it (fun i h=>h.IsTupleIter it a i) where
 mem:=by simp
 obj:=fun i h st b hb=>by
  have e:b=it:=by simpa using hb
  subst e
  obtain⟨o,e,c,d⟩:=st
  exact⟨o,e,fun v z=>by rw[d]at z;cases z⟩
 keep:=fun i h h' st k=>st.at fun o e=>k it (by simp) o e
 item:=by
  intro X hP hw hK hc i pz s σ H E I hf st hg
  subst hP hw hK
  obtain⟨xs,x,hq,hx⟩:=hg
  obtain⟨its,rv,p,hz⟩:=I.tuple hq
  obtain⟨u,hu,ru⟩:=rv.get hx
  obtain⟨f0,f1,f2,f3,f4,f5⟩:=hf it (by simp)
  refine wpAny_pyNext_tuple_item st (show s.heap.IsTuple a its.toArray from p) (x:=u) (by simpa using hu) fun h' st' sb=>?_
  have I1:Inv X pz σ H {s with heap:=h'}:=I.turned (t':=s.toks) (fun b o hb e=>(sb.2 b hb).trans e) f0 f1 f3 f4 f5
  obtain⟨o,e,c,d⟩:=id st'
  exact⟨u,rfl,zg (s:={s with heap:=h'}) e c d (by decide) ⟨x,H,I1,ru,⟨rfl,fun ys hy=>by rw[I.tuple_inj hy hq];exact hx⟩,st',fun b hb=>(hf b hb).1⟩⟩
 done:=by
  intro X hP hw hK hc i pz s σ H E I hf st hg
  subst hP hw hK
  obtain⟨xs,hq,hx⟩:=hg
  obtain⟨its,rv,p,hz⟩:=I.tuple hq
  obtain⟨f0,f1,f2,f3,f4,f5⟩:=hf it (by simp)
  have hl:=rv.length
  exact wpAny_pyNext_tuple_end (I.ok.hd hc) st (show s.heap.IsTuple a its.toArray from p) (by simp;lia) fun h' eb=>⟨rfl,I.turned (t':=s.toks) (fun b o hb e=>eb b o hb e) f0 f1 f3 f4 f5⟩
 self:=fun _ _ _ _ _ st h=>wpAny_pyIter_tupleiter st h
theorem yi {P:Program} {w:World} {K:PySem.W.Frag} {tg:Expr} (it:Addr) (lo:Int) (n:Nat):Cv P w K tg (Itr lo n) [it] it (fun i h=>IsRangeIter h it (lo+(i:Nat)*1) ((n:Int)-(i:Nat)) 1) where
 mem:=by simp
 obj:=fun i h st b hb=>by
  have e:b=it:=by simpa using hb
  subst e
  exact⟨_,st,fun v z=>by
   have z':Data.fields _=Data.cell v:=z
   cases z'⟩
 keep:=fun i h h' st k=>k it (by simp) _ st
 item:=by
  intro X hP hw hK hc i pz s σ H E I hf st hg
  subst hP hw hK
  obtain⟨f0,f1,f2,f3,f4,f5⟩:=hf it (by simp)
  have W:=Walks.range (prog:=X.prog) (w:=X.w) (I.ok.hd hc) it lo 1 n
  refine W.item i s _ _ hg st fun v h' tk hv st' kk=>?_
  obtain⟨t,rfl⟩:=hv
  have I1:Inv X pz σ H {s with heap:=h',toks:=tk}:=I.turned (fun b o hb e=>kk b o (by simpa using hb) e) f0 f1 f3 f4 f5
  refine⟨_,rfl,zg (s:={s with heap:=h',toks:=tk}) (n:="range_iterator") st' rfl rfl (by decide) ⟨.int (lo+i),H,I1,⟨t,?_⟩,⟨rfl,rfl⟩,st',fun b hb=>(hf b hb).1⟩⟩
  rw[Int.mul_one]
 done:=by
  intro X hP hw hK hc i pz s σ H E I hf st hg
  subst hP hw hK
  obtain⟨f0,f1,f2,f3,f4,f5⟩:=hf it (by simp)
  exact wpAny_pyNext_range_end (I.ok.hd hc) st (by have:n<=i:=hg;lia) fun h' eb=>⟨rfl,I.turned (t':=s.toks) (fun b o hb e=>eb b o hb e) f0 f1 f3 f4 f5⟩
 self:=fun _ _ _ _ _ st h=>wpAny_pyIter_rangeiter st h
section
variable {X:Cx} {tg:Expr}
def HL (K:PySem.W.Frag) (tl:TE):TI:=fun σ H R=>tl σ H fun x H1=>∃a,x= .ref a/\(∃xs,SqL K H1 a xs)/\R (Itl K a) H1
def iTup (K:PySem.W.Frag) (tl:TE):TI:=fun σ H R=>tl σ H fun x H1=>∃a,x= .ref a/\(∃xs,SqT K H1 a xs)/\R (Itt K a) H1
theorem oU {l:Expr} {tl:TE} (hl:PE X l tl):PI X tg l (HL X.K tl):=by
 intro pz s σ H R I h
 refine thn (hl pz s σ H _ I h) fun v s1 ⟨x,H1,I1,r1,q1⟩=>?_
 obtain⟨a,e,⟨xs,hq⟩,q⟩:=q1
 subst e
 cases r1
 obtain⟨its,rv,p,hz⟩:=I1.list hq
 refine wpAny_pyIter_list p.isList ?_
 refine⟨s1.heap.objs.size,[s1.heap.objs.size],_,_,H1,rfl,I1.kept (t':=s1.toks) fun b o e=>fS _ e,zh a _,⟨_,fO _ rfl,rfl,rfl⟩,fun b hb=>?_,q⟩
 have e:b=s1.heap.objs.size:=by simpa using hb
 subst e
 exact I1.fpOk (cq _) (I1.hok.fresh (cq _))
theorem rW {l:Expr} {tl:TE} (hl:PE X l tl):PI X tg l (iTup X.K tl):=by
 intro pz s σ H R I h
 refine thn (hl pz s σ H _ I h) fun v s1 ⟨x,H1,I1,r1,q1⟩=>?_
 obtain⟨a,e,⟨xs,hq⟩,q⟩:=q1
 subst e
 cases r1
 obtain⟨its,rv,p,hz⟩:=I1.tuple hq
 refine wpAny_pyIter_tuple (show s1.heap.IsTuple a its.toArray from p) ?_
 refine⟨s1.heap.objs.size,[s1.heap.objs.size],_,_,H1,rfl,I1.kept (t':=s1.toks) fun b o e=>fS _ e,yh a _,⟨_,fO _ rfl,rfl,rfl⟩,fun b hb=>?_,q⟩
 have e:b=s1.heap.objs.size:=by simpa using hb
 subst e
 exact I1.fpOk (cq _) (I1.hok.fresh (cq _))
theorem Bp {pz:AoL} {σ:St} {H:Hp} {s:Shared} {R:It->Hp->Prop} {E:EvP} {lo hi:Int} {t u v:Tok} {tk:Nat} (I:Inv X pz σ H s) (h1: -(2^62)<=lo) (h2:lo<2^62) (h3: -(2^62)<=hi) (h4:hi<2^62)
  (q:R (Itr lo (hi-lo).toNat) H):wpAny (model X.prog X.w) X.A (pyIter (.ref s.heap.objs.size)) (PIE X pz σ tg R) E {s with heap:=s.heap.push {cls:= .type "range",data:= .fields #[.int lo t,.int hi u,.int 1 v]},toks:=tk}:=by
 refine wpAny_pyIter_range (IsRange.new ..) (small_one h1 h2 h3 h4) ?_
 have I1:Inv X pz σ H {s with heap:=s.heap.push {cls:= .type "range",data:= .fields #[.int lo t,.int hi u,.int 1 v]},toks:=tk}:=I.kept fun b o e=>fS _ e
 refine⟨(s.heap.push {cls:= .type "range",data:= .fields #[.int lo t,.int hi u,.int 1 v]}).objs.size,[(s.heap.push {cls:= .type "range",data:= .fields #[.int lo t,.int hi u,.int 1 v]}).objs.size],_,_,H,rfl,
  I1.kept (t':=tk) fun b o e=>fS _ e,yi _ lo (hi-lo).toNat,?_,fun b hb=>?_,q⟩
 ·have e1:lo+((0:Nat):Int)*1=lo:=by simp
  have e2:(((hi-lo).toNat:Nat):Int)-((0:Nat):Int)=Builtin.Range.rangeSize lo hi 1:=by rw[rangeSize_one];split<;>lia
  show IsRangeIter _ _ (lo+((0:Nat):Int)*1) ((((hi-lo).toNat:Nat):Int)-((0:Nat):Int)) 1
  rw[e1,e2]
  exact fO _ rfl
 ·have e:b=(s.heap.push {cls:= .type "range",data:= .fields #[.int lo t,.int hi u,.int 1 v]}).objs.size:=by simpa using hb
  subst e
  exact I1.fpOk (cq _) (I1.hok.fresh (cq _))
def HM (ta:TA):TI:=fun σ H R=>ta σ H fun vs H1=>∃j:Int,vs=[.int j]/\-(2^62)<=j/\j<2^62/\R (Itr 0 j.toNat) H1
theorem ku {a:Expr} {ta:TA} {p pos:Pos} (hg:Gl X "range") (hm:X.mg "range"=none) (ha:PA X [a] ta) (hs:autoParam (starEach [a] X.env=[(false,eval a X.env)]) auR._auto_1):PI X tg (.Call (.Name "range" p) [a] [] pos) (HM ta):=by
 intro pz s σ H R I h
 refine Call_ (oo I hg hm boot_range (fY (thn (ha pos pz s σ H _ I h) fun us s1 ⟨vs,H1,I1,r1,q1⟩=>?_) hs rfl))
 obtain⟨j,e,q1,q2,q⟩:=q1
 subst e
 cases r1 with
 |cons r rr=>
  cases rr
  obtain⟨t,rfl⟩:=r
  exact call_range_1 (Bp I1 (by lia) (by lia) q1 q2 (by simpa using q))
def tFor (wi:TI) (g:TG) (tb:TS):TS:=fun D σ H=>wi σ H fun J H1=>∃W:Nat->Nat->St->Hp->Prop,(∃m,W 0 m σ H1)/\∀i m σ H,W i m σ H->
 (J.stop i H/\D.nx σ H)\/(J.go i H/\∃N:St->Hp->Prop,(∀σ' H',N σ' H'->∃m',m'<m/\W (i+ 1) m' σ' H')/\∀x H',J.yld i H x H'->g x σ H' fun σ2 H2=>tb {D with nx:=N,ct:=N,bk:=D.nx} σ2 H2)
def rX (fp:List Addr) (h:Heap):AoL:=fp.filterMap fun b=>(h.get? b).map fun o=>(b,o)
theorem kq {fp:List Addr} {h:Heap} {b:Addr} {o:Obj} (hb:b∈fp) (e:h.get? b=some o):(b,o)∈rX fp h:=ax.mpr ⟨b,hb,by rw[e];rfl⟩
theorem zi {fp:List Addr} {h:Heap} {p:Addr×Obj} (hp:p∈rX fp h):p.1∈fp/\h.get? p.1=some p.2:=by
 obtain⟨b,hb,e⟩:=ax.mp hp
 cases q:h.get? b with
 |none=>rw[q]at e;cases e
 |some o=>
  rw[q]at e
  have e':(b,o)=p:=cH.inj e
  subst e'
  exact⟨hb,q⟩
theorem Inv.pinned {pz:AoL} {σ:St} {H:Hp} {s:Shared} {fp:List Addr} (I:Inv X pz σ H s) (hf:∀b∈fp,vF X pz H b) (ho:∀b∈fp,∃o,s.heap.get? b=some o/\∀v,o.data≠ .cell v):Inv X (pz++rX fp s.heap) σ H s:=
 I.pins_of fun p hp=>(ao.mp hp).elim (fun z=>I.pin p (ay _ z)) fun z=>by
  obtain⟨hb,e⟩:=zi z
  obtain⟨f0,f1,f2,_⟩:=hf p.1 hb
  obtain⟨o,e',d⟩:=ho p.1 hb
  rw[e]at e';cases e'
  exact⟨e,f0,f1,f2,d⟩
theorem Inv.unpinned {pz pl:AoL} {σ:St} {H:Hp} {s:Shared} (I:Inv X (pz++pl) σ H s):Inv X pz σ H s:=I.pins_of fun p hp=>I.pin p (ay _ (aq _ hp))
theorem ky {iter:Expr} {body:List Stmt} {wi:TI} {g:TG} {tb:TS} {pos:Pos} (hp:PassesOwn (model X.prog X.w) X.A X.env X.xe) (hc:X.calm=true) (hi:PI X tg iter wi) (hg:PG X tg g) (hb:PSs X body tb)
  (hs:autoParam (∀x,foldedSetIterable iter X.env x=pure x) auI._auto_1):PS X (.For tg iter body [] pos) (tFor wi g tb):=by
 intro pz s σ H D I h
 refine wpAny_For (thn (hi pz s σ H _ I h) fun v s1 h1=>thn h1 fun itv s2 h2=>?_) hs
 obtain⟨it,fp,tn,J,H2,e,I2,T,st2,f2,W,⟨m0,w0⟩,turn⟩:=h2
 subst e
 have stat:∀{H':Hp},(∀b∈fp,H' b=none)->∀b∈fp,vF X pz H' b:=fun hn b hb=>⟨hn b hb,(f2 b hb).2⟩
 refine codeAny_forLoop_any (fun n s'=>∃i σ' H',Inv X pz σ' H' s'/\tn i s'.heap/\(∀b∈fp,H' b=none)/\W i n σ' H') ?_ m0 ⟨0,σ,H2,I2,st2,fun b hb=>(f2 b hb).1,w0⟩
 rintro n s3 ⟨i,σ3,H3,I3,st3,fr3,w3⟩
 rcases turn i n σ3 H3 w3 with⟨stop,qn⟩|⟨go,N,hN,step⟩
 ·refine wpAny_passesOwn hp (thn (T.done X rfl rfl rfl hc i pz s3 σ3 H3 X.xe I3 (stat fr3) st3 stop) fun r s4 ⟨hr,I4⟩=>?_)
  subst hr
  exact wpAny_execs_nil ⟨σ3,H3,I4,qn⟩
 ·refine wpAny_passesOwn hp (thn (T.item X rfl rfl rfl hc i pz s3 σ3 H3 X.xe I3 (stat fr3) st3 go) fun r s4 ⟨u,hr,h4⟩=>?_)
  subst hr
  refine wpAny_passesOwn hp (thn h4 fun _ s5 ⟨x,H5,I5,r5,y5,st5,fr5⟩=>?_)
  have I5':=I5.pinned (stat fr5) (T.obj _ _ st5)
  refine wpAny_passesOwn hp (thn (hg _ s5 σ3 H5 x u _ I5' r5 (step x H5 y5)) fun _ s6 ⟨σ6,H6,I6,q6⟩=>?_)
  refine wpAny_passesOwn hp (thn (hb _ s6 σ6 H6 _ I6 q6) fun f s7 q7=>?_)
  have again:∀{σ7:St} {H7:Hp},Inv X (pz++rX fp s5.heap) σ7 H7 s7->N σ7 H7->∃m,m<n/\∃i σ' H',Inv X pz σ' H' s7/\tn i s7.heap/\(∀b∈fp,H' b=none)/\W i m σ' H':=fun{σ7 H7} I7 n7=>by
   obtain⟨m',hm,w7⟩:=hN σ7 H7 n7
   refine⟨m',hm,i+ 1,σ7,H7,I7.unpinned,T.keep _ _ _ st5 fun b hb o e=>(I7.pin (b,o) (ay _ (ay _ (kq hb e)))).1,fun b hb=>?_,w7⟩
   obtain⟨o,e,d⟩:=T.obj _ _ st5 b hb
   exact(I7.pin (b,o) (ay _ (ay _ (kq hb e)))).2.1
  cases f with
  |next=>obtain⟨σ7,H7,I7,n7⟩:=q7;exact again I7 n7
  |cont=>obtain⟨σ7,H7,I7,n7⟩:=q7;exact again I7 n7
  |brk=>obtain⟨σ7,H7,I7,q7⟩:=q7;exact⟨σ7,H7,I7.unpinned,q7⟩
  |ret v=>obtain⟨x7,σ7,H7,I7,r7,q7⟩:=q7;exact⟨x7,σ7,H7,I7.unpinned,r7,q7⟩
end
theorem qk {K:PySem.W.Frag} {a:Addr} {xs:List V} {g:TG} {tb:TS} {D:md} {σ:St} {H:Hp} (Pv:Nat->St->Hp->Prop) (h0:Pv 0 σ H) (hl:∀i σ H,i<=xs.length->Pv i σ H->SqL K H a xs)
  (hs:∀i x σ H,xs[i]?=some x->Pv i σ H->g x σ H fun σ2 H2=>tb {D with nx:=Pv (i+ 1),ct:=Pv (i+ 1),bk:=D.nx} σ2 H2) (hd:∀σ H,Pv xs.length σ H->D.nx σ H):
  ∃W:Nat->Nat->St->Hp->Prop,(∃m,W 0 m σ H)/\∀i m σ H,W i m σ H->
   ((Itl K a).stop i H/\D.nx σ H)\/((Itl K a).go i H/\∃N:St->Hp->Prop,(∀σ' H',N σ' H'->∃m',m'<m/\W (i+ 1) m' σ' H')/\∀x H',(Itl K a).yld i H x H'->g x σ H' fun σ2 H2=>tb {D with nx:=N,ct:=N,bk:=D.nx} σ2 H2):=by
 refine⟨fun i m σ H=>m=xs.length-i/\i<=xs.length/\Pv i σ H,⟨xs.length,by simp,cu _,h0⟩,?_⟩
 rintro i m σ H ⟨rfl,hi,p⟩
 have q:=hl i σ H hi p
 by_cases hlt:i<xs.length
 ·refine .inr ⟨⟨xs,xs[i],q,by simp[hlt]⟩,Pv (i+ 1),fun σ' H' p'=>⟨xs.length-(i+ 1),by lia,rfl,hlt,p'⟩,fun x H' y=>?_⟩
  obtain⟨e,y⟩:=y
  subst e
  exact hs i x σ _ (y xs q) p
 ·have e:i=xs.length:=by lia
  subst e
  exact .inl ⟨⟨xs,q,cq _⟩,hd σ H p⟩
theorem vG {K:PySem.W.Frag} {a:Addr} {xs:List V} {g:TG} {tb:TS} {D:md} {σ:St} {H:Hp} (Pv:Nat->St->Hp->Prop) (h0:Pv 0 σ H) (hl:∀i σ H,i<=xs.length->Pv i σ H->SqT K H a xs)
  (hs:∀i x σ H,xs[i]?=some x->Pv i σ H->g x σ H fun σ2 H2=>tb {D with nx:=Pv (i+ 1),ct:=Pv (i+ 1),bk:=D.nx} σ2 H2) (hd:∀σ H,Pv xs.length σ H->D.nx σ H):
  ∃W:Nat->Nat->St->Hp->Prop,(∃m,W 0 m σ H)/\∀i m σ H,W i m σ H->
   ((Itt K a).stop i H/\D.nx σ H)\/((Itt K a).go i H/\∃N:St->Hp->Prop,(∀σ' H',N σ' H'->∃m',m'<m/\W (i+ 1) m' σ' H')/\∀x H',(Itt K a).yld i H x H'->g x σ H' fun σ2 H2=>tb {D with nx:=N,ct:=N,bk:=D.nx} σ2 H2):=by
 refine⟨fun i m σ H=>m=xs.length-i/\i<=xs.length/\Pv i σ H,⟨xs.length,by simp,cu _,h0⟩,?_⟩
 rintro i m σ H ⟨rfl,hi,p⟩
 have q:=hl i σ H hi p
 by_cases hlt:i<xs.length
 ·refine .inr ⟨⟨xs,xs[i],q,by simp[hlt]⟩,Pv (i+ 1),fun σ' H' p'=>⟨xs.length-(i+ 1),by lia,rfl,hlt,p'⟩,fun x H' y=>?_⟩
  obtain⟨e,y⟩:=y
  subst e
  exact hs i x σ _ (y xs q) p
 ·have e:i=xs.length:=by lia
  subst e
  exact .inl ⟨⟨xs,q,cq _⟩,hd σ H p⟩
theorem ot {lo:Int} {n:Nat} {g:TG} {tb:TS} {D:md} {σ:St} {H:Hp} (Pv:Nat->St->Hp->Prop) (h0:Pv 0 σ H)
  (hs:∀i σ H,i<n->Pv i σ H->g (.int (lo+i)) σ H fun σ2 H2=>tb {D with nx:=Pv (i+ 1),ct:=Pv (i+ 1),bk:=D.nx} σ2 H2) (hd:∀σ H,Pv n σ H->D.nx σ H):
  ∃W:Nat->Nat->St->Hp->Prop,(∃m,W 0 m σ H)/\∀i m σ H,W i m σ H->
   ((Itr lo n).stop i H/\D.nx σ H)\/((Itr lo n).go i H/\∃N:St->Hp->Prop,(∀σ' H',N σ' H'->∃m',m'<m/\W (i+ 1) m' σ' H')/\∀x H',(Itr lo n).yld i H x H'->g x σ H' fun σ2 H2=>tb {D with nx:=N,ct:=N,bk:=D.nx} σ2 H2):=by
 refine⟨fun i m σ H=>m=n-i/\i<=n/\Pv i σ H,⟨n,by simp,cu _,h0⟩,?_⟩
 rintro i m σ H ⟨rfl,hi,p⟩
 by_cases hlt:i<n
 ·refine .inr ⟨hlt,Pv (i+ 1),fun σ' H' p'=>⟨n-(i+ 1),by lia,rfl,hlt,p'⟩,fun x H' y=>?_⟩
  obtain⟨e,y⟩:=y
  subst e y
  exact hs i σ _ hlt p
 ·have e:i=n:=by lia
  subst e
  exact .inl ⟨cq _,hd σ H p⟩
abbrev R2:=V->V->Hp->VK->Prop
def OpR (X:Cx) (f:Value->Value->Sem Value) (r:R2):Prop:=
 ∀(pz:AoL) (s:Shared) (σ:St) (H:Hp) (x y:V) (v u:Value) (Q:VK),Inv X pz σ H s->iP x v->iP y u->r x y H Q->
  wpAny (model X.prog X.w) X.A (f v u) (EP X pz σ Q) X.xe s
def UnR (X:Cx) (f:Value->Sem Value) (r:V->Hp->VK->Prop):Prop:=
 ∀(pz:AoL) (s:Shared) (σ:St) (H:Hp) (x:V) (v:Value) (Q:VK),Inv X pz σ H s->iP x v->r x H Q->
  wpAny (model X.prog X.w) X.A (f v) (EP X pz σ Q) X.xe s
def kT (X:Cx) (f:Value) (r:List V->Hp->VK->Prop):Prop:=
 ∀(pz:AoL) (s:Shared) (σ:St) (H:Hp) (xs:List V) (us:List Value) (Q:VK),Inv X pz σ H s->iO xs us->r xs H Q->
  wpAny (model X.prog X.w) X.A (call f us) (EP X pz σ Q) X.xe s
def tOp (r:R2) (ta tb:TE):TE:=fun σ H Q=>ta σ H fun x H1=>tb σ H1 fun y H2=>r x y H2 Q
def tUn (r:V->Hp->VK->Prop) (ta:TE):TE:=fun σ H Q=>ta σ H fun x H1=>r x H1 Q
def rI (C:Int->Int->Prop) (g:Int->Int->V):R2:=fun x y H Q=>∃i j,x= .int i/\y= .int j/\C i j/\Q (g i j) H
def rI0 (g:Int->Int->V):R2:=fun x y H Q=>∃i j,x= .int i/\y= .int j/\Q (g i j) H
def rU (g:Int->V):V->Hp->VK->Prop:=fun x H Q=>∃i,x= .int i/\Q (g i) H
section
variable {X:Cx} {a b c:Expr} {ta tb tc:TE} {pos:Pos}
theorem HN (ha:PE X a ta) (hb:PE X b tb) {pz:AoL} {s:Shared} {σ:St} {H:Hp} {R:V->V->Hp->Prop} (I:Inv X pz σ H s)
  (h:ta σ H fun x H1=>tb σ H1 fun y H2=>R x y H2) {Q:EvP} {f:Value->Value->Sem Value}
  (hf:∀v u s2 x y H2,Inv X pz σ H2 s2->iP x v->iP y u->R x y H2->wpAny (model X.prog X.w) X.A (f v u) Q X.xe s2):
  wpAny (model X.prog X.w) X.A (eval a X.env) (fun v s₁=>wpAny (model X.prog X.w) X.A (eval b X.env) (fun u s₂=>wpAny (model X.prog X.w) X.A (f v u) Q X.xe s₂) X.xe s₁) X.xe s:=by
 refine thn (ha pz s σ H _ I h) fun v s1 ⟨x,H1,I1,r1,q1⟩=>?_
 refine thn (hb pz s1 σ H1 _ I1 q1) fun u s2 ⟨y,H2,I2,r2,q2⟩=>?_
 exact hf v u s2 x y H2 I2 r1 r2 q2
theorem gA {op:Operator} {r:R2} (ho:OpR X (binaryOp op) r) (ha:PE X a ta) (hb:PE X b tb):PE X (.BinOp a op b pos) (tOp r ta tb):=by
 intro pz s σ H Q I h
 exact wpAny_BinOp (HN ha hb I h fun v u s2 x y H2 I2 rx ry q=>ho pz s2 σ H2 x y v u Q I2 rx ry q)
theorem Bq {op:UnaryOp} {r:V->Hp->VK->Prop} (ho:UnR X (unaryOp op) r) (ha:PE X a ta):PE X (.UnaryOp op a pos) (tUn r ta):=by
 intro pz s σ H Q I h
 exact UnaryOp_ (thn (ha pz s σ H _ I h) fun v s1 ⟨x,H1,I1,r1,q1⟩=>ho pz s1 σ H1 x v Q I1 r1 q1)
theorem opI {f:Value->Value->Sem Value} {C:Int->Int->Prop} {g:Int->Int->Int}
  (rule:∀(i j:Int) (t u:Tok) (s:Shared) (Q:EvP) (E:EvP),C i j->Q (.int (g i j) s.toks) {s with toks:=s.toks+ 1}->wpAny (model X.prog X.w) X.A (f (.int i t) (.int j u)) Q E s):
  OpR X f (rI C fun i j=> .int (g i j)):=by
 intro pz s σ H x y v u Q I rx ry h
 obtain⟨i,j,rfl,rfl,hc,q⟩:=h
 obtain⟨t,rfl⟩:=rx
 obtain⟨t',rfl⟩:=ry
 exact rule i j t t' s _ _ hc ⟨.int (g i j),H,I.tok _,⟨_,rfl⟩,q⟩
theorem JE {f:Value->Value->Sem Value} {g:Int->Int->Int}
  (rule:∀(i j:Int) (t u:Tok) (s:Shared) (Q:EvP) (E:EvP),Q (.int (g i j) s.toks) {s with toks:=s.toks+ 1}->wpAny (model X.prog X.w) X.A (f (.int i t) (.int j u)) Q E s):
  OpR X f (rI0 fun i j=> .int (g i j)):=by
 intro pz s σ H x y v u Q I rx ry h
 obtain⟨i,j,rfl,rfl,q⟩:=h
 obtain⟨t,rfl⟩:=rx
 obtain⟨t',rfl⟩:=ry
 exact rule i j t t' s _ _ ⟨.int (g i j),H,I.tok _,⟨_,rfl⟩,q⟩
theorem Hq {f:Value->Value->Sem Value} {g:Int->Int->Bool}
  (rule:∀(i j:Int) (t u:Tok) (s:Shared) (Q:EvP) (E:EvP),Q (.bool (g i j)) s->wpAny (model X.prog X.w) X.A (f (.int i t) (.int j u)) Q E s):
  OpR X f (rI0 fun i j=> .bl (g i j)):=by
 intro pz s σ H x y v u Q I rx ry h
 obtain⟨i,j,rfl,rfl,q⟩:=h
 obtain⟨t,rfl⟩:=rx
 obtain⟨t',rfl⟩:=ry
 exact rule i j t t' s _ _ ⟨.bl (g i j),H,I,rfl,q⟩
def JF (i j:Int):Prop:=0<j/\j<1073741824
def JG (i j:Int):Prop:=0<=j/\j<=1000000/\i.natAbs<2^64
def Hr (i j:Int):Prop:=(-(2^64)<i/\i<2^64)\/(-(2^64)<j/\j<2^64)
theorem Hr.ok {i j:Int} (h:Hr i j):IntMulOk i j:=by
 rcases h with⟨h1,h2⟩|⟨h1,h2⟩
 ·exact .of_left (intBits_le_64 h1 h2)
 ·exact .of_right (intBits_le_64 h1 h2)
theorem Cw:OpR X (binaryOp .Add) (rI0 fun i j=> .int (i+j)):=JE fun _ _ _ _ _ _ _ q=>add_int q
theorem Fq:OpR X (binaryOp .Sub) (rI0 fun i j=> .int (i-j)):=JE fun _ _ _ _ _ _ _ q=>sub_int q
theorem Fs:OpR X (binaryOp .Mult) (rI Hr fun i j=> .int (i*j)):=opI fun _ _ _ _ _ _ _ hc q=>mul_int q hc.ok
theorem Dw:OpR X (binaryOp .FloorDiv) (rI JF fun i j=> .int (i/j)):=opI fun i j _ _ _ _ _ hc q=>by
 have h1:(0:Int)<j:=hc.1
 have h2:j<1073741824:=hc.2
 exact floordiv_int (by lia) (by rw[Int.fdiv_eq_ediv_of_nonneg i (by lia)];exact q) (.inl (PyProof.noPylong_small (by lia)))
theorem Ft:OpR X (binaryOp .Mod) (rI (fun _ j=>0<j) fun i j=> .int (i%j)):=opI fun i j _ _ _ _ _ hc q=>by
 have h1:(0:Int)<j:=hc
 exact mod_int' (by lia) (by rw[Int.fmod_eq_emod_of_nonneg i (by lia)];exact q)
theorem Fu:OpR X (binaryOp .Pow) (rI JG fun i j=> .int (i^j.toNat)):=opI fun _ _ _ _ _ _ _ hc q=>pow_int_small hc.1 hc.2.1 hc.2.2 q
theorem unI {f:Value->Sem Value} {g:Int->Int}
  (rule:∀(i:Int) (t:Tok) (s:Shared) (Q:EvP) (E:EvP),Q (.int (g i) s.toks) {s with toks:=s.toks+ 1}->wpAny (model X.prog X.w) X.A (f (.int i t)) Q E s):
  UnR X f (rU fun i=> .int (g i)):=by
 intro pz s σ H x v Q I rx h
 obtain⟨i,rfl,q⟩:=h
 obtain⟨t,rfl⟩:=rx
 exact rule i t s _ _ ⟨.int (g i),H,I.tok _,⟨_,rfl⟩,q⟩
theorem w8:UnR X (unaryOp .USub) (rU fun i=> .int (-i)):=unI fun _ _ _ _ _ q=>neg_int q
end
def JH:V->V->Bool
 | .non,.non=>true| .non,.int _=>true| .int _,.non=>true| .non,.bl _=>true| .bl _,.non=>true| .non,.str _=>true| .str _,.non=>true
 | .int _,.int _=>true| .bl _,.bl _=>true| .str _,.str _=>true| .byt _,.byt _=>true
 | .int _,.str _=>true| .str _,.int _=>true| .bl _,.str _=>true| .str _,.bl _=>true
 |_,_=>false
def rEq:R2:=fun x y H Q=>JH x y=true/\Q (.bl (decide (x=y))) H
def rNe:R2:=fun x y H Q=>JH x y=true/\Q (.bl (!decide (x=y))) H
theorem zj {i j:Int}:decide (V.int i=V.int j)=(i==j):=by
 rw[eY]
 simp
theorem Cy {i j:Bool}:decide (V.bl i=V.bl j)=(i==j):=by
 rw[eY]
 simp
theorem zk {i j:Str}:decide (V.str i=V.str j)=(i==j):=by
 rw[eY]
 simp
theorem zl {i j:Array UInt8}:decide (V.byt i=V.byt j)=(i.toList==j.toList):=by
 rw[eY]
 cases i
 cases j
 simp
section
variable {X:Cx} {a b c:Expr} {ta tb tc:TE} {pos:Pos}
theorem iJ {pz:AoL} {σ:St} {H:Hp} {s:Shared} {Q:VK} {k k':Bool} (I:Inv X pz σ H s) (q:Q (.bl k) H) (e:k=k'):EP X pz σ Q (.bool k') s:=by
 subst e
 exact⟨.bl k,H,I,rfl,q⟩
theorem sI:OpR X (compareOp .Eq) rEq:=by
 intro pz s σ H x y v u Q I rx ry h
 obtain⟨hs,q⟩:=h
 cases x with
 |non=>
  cases rx
  cases y with
  |non=>cases ry;exact PySem.EqNone.eq_none_none (iJ I q (by simp))
  |bl j=>cases ry;exact PySem.EqNone.eq_none_bool (iJ I q (by simp))
  |int j=>obtain⟨t',rfl⟩:=ry;exact PySem.EqNone.eq_none_int (iJ I q (by simp))
  |str j=>obtain⟨t',rfl⟩:=ry;exact PySem.EqNone.eq_none_str (iJ I q (by simp))
  |_=>exact absurd (show false=true from hs) eX
 |bl i=>
  cases rx
  cases y with
  |non=>cases ry;exact PySem.EqNone.eq_bool_none (iJ I q (by simp))
  |bl j=>cases ry;exact eq_bool (iJ I q Cy)
  |str j=>obtain⟨t',rfl⟩:=ry;exact PySem.EqMixed.eq_bool_str (iJ I q (by simp))
  |_=>exact absurd (show false=true from hs) eX
 |int i=>
  obtain⟨t,rfl⟩:=rx
  cases y with
  |non=>cases ry;exact PySem.EqNone.eq_int_none (iJ I q (by simp))
  |int j=>obtain⟨t',rfl⟩:=ry;exact eq_int (iJ I q zj)
  |str j=>obtain⟨t',rfl⟩:=ry;exact PySem.EqMixed.eq_int_str (iJ I q (by simp))
  |_=>exact absurd (show false=true from hs) eX
 |str i=>
  obtain⟨t,rfl⟩:=rx
  cases y with
  |non=>cases ry;exact PySem.EqNone.eq_str_none (iJ I q (by simp))
  |bl j=>cases ry;exact PySem.EqMixed.eq_str_bool (iJ I q (by simp))
  |int j=>obtain⟨t',rfl⟩:=ry;exact PySem.EqMixed.eq_str_int (iJ I q (by simp))
  |str j=>obtain⟨t',rfl⟩:=ry;exact eq_str (iJ I q zk)
  |_=>exact absurd (show false=true from hs) eX
 |byt i=>
  obtain⟨t,rfl⟩:=rx
  cases y with
  |byt j=>obtain⟨t',rfl⟩:=ry;exact PySem.W.eq_bytes (iJ I q zl)
  |_=>exact absurd (show false=true from hs) eX
 |_=>cases y<;>exact absurd (show false=true from hs) eX
theorem nC:OpR X (compareOp .NotEq) rNe:=by
 intro pz s σ H x y v u Q I rx ry h
 obtain⟨hs,q⟩:=h
 cases x with
 |non=>
  cases rx
  cases y with
  |non=>cases ry;exact PySem.EqNone.ne_none_none (iJ I q (by simp))
  |bl j=>cases ry;exact PySem.EqNone.ne_none_bool (iJ I q (by simp))
  |int j=>obtain⟨t',rfl⟩:=ry;exact PySem.EqNone.ne_none_int (iJ I q (by simp))
  |str j=>obtain⟨t',rfl⟩:=ry;exact PySem.EqNone.ne_none_str (iJ I q (by simp))
  |_=>exact absurd (show false=true from hs) eX
 |bl i=>
  cases rx
  cases y with
  |non=>cases ry;exact PySem.EqNone.ne_bool_none (iJ I q (by simp))
  |bl j=>cases ry;exact ne_bool (iJ I q (congrArg not Cy))
  |str j=>obtain⟨t',rfl⟩:=ry;exact PySem.EqMixed.ne_bool_str (iJ I q (by simp))
  |_=>exact absurd (show false=true from hs) eX
 |int i=>
  obtain⟨t,rfl⟩:=rx
  cases y with
  |non=>cases ry;exact PySem.EqNone.ne_int_none (iJ I q (by simp))
  |int j=>obtain⟨t',rfl⟩:=ry;exact ne_int (iJ I q (congrArg not zj))
  |str j=>obtain⟨t',rfl⟩:=ry;exact PySem.EqMixed.ne_int_str (iJ I q (by simp))
  |_=>exact absurd (show false=true from hs) eX
 |str i=>
  obtain⟨t,rfl⟩:=rx
  cases y with
  |non=>cases ry;exact PySem.EqNone.ne_str_none (iJ I q (by simp))
  |bl j=>cases ry;exact PySem.EqMixed.ne_str_bool (iJ I q (by simp))
  |int j=>obtain⟨t',rfl⟩:=ry;exact PySem.EqMixed.ne_str_int (iJ I q (by simp))
  |str j=>obtain⟨t',rfl⟩:=ry;exact ne_str (iJ I q (congrArg not zk))
  |_=>exact absurd (show false=true from hs) eX
 |byt i=>
  obtain⟨t,rfl⟩:=rx
  cases y with
  |byt j=>obtain⟨t',rfl⟩:=ry;exact PySem.W.ne_bytes (iJ I q (congrArg not zl))
  |_=>exact absurd (show false=true from hs) eX
 |_=>cases y<;>exact absurd (show false=true from hs) eX
theorem HP:OpR X (compareOp .Lt) (rI0 fun i j=> .bl (decide (i<j))):=Hq fun _ _ _ _ _ _ _ q=>lt_int q
theorem vH:OpR X (compareOp .LtE) (rI0 fun i j=> .bl (decide (i<=j))):=Hq fun _ _ _ _ _ _ _ q=>le_int q
theorem Dx:OpR X (compareOp .Gt) (rI0 fun i j=> .bl (decide (j<i))):=Hq fun _ _ _ _ _ _ _ q=>gt_int q
theorem HQ:OpR X (compareOp .GtE) (rI0 fun i j=> .bl (decide (j<=i))):=Hq fun _ _ _ _ _ _ _ q=>ge_int q
theorem uq:OpR X (compareOp .In) (fun x y H Q=>∃i j,x= .str i/\y= .str j/\Q (.bl (!(Builtin.Str.occurrences j i 0 j.length 1).isEmpty)) H):=by
 intro pz s σ H x y v u Q I rx ry h
 obtain⟨i,j,rfl,rfl,q⟩:=h
 obtain⟨t,rfl⟩:=rx
 obtain⟨t',rfl⟩:=ry
 exact in_str (iJ I q rfl)
theorem zm (b:Expr) {op:CmpOp} (h:autoParam (op≠ .In) auD._auto_1) (h2:autoParam (op≠ .NotIn) auD._auto_1):behindInMarks op b=false:=by
 have e1:(op==CmpOp.In)=false:=by cases op<;>first|rfl|exact absurd rfl h
 have e2:(op==CmpOp.NotIn)=false:=by cases op<;>first|rfl|exact absurd rfl h2
 cases b<;>simp[behindInMarks,e1,e2]
theorem mh {op:CmpOp} {r:R2} (ho:OpR X (compareOp op) r) (ha:PE X a ta) (hb:PE X b tb) (hm:behindInMarks op b=false:=by exact zm _):PE X (.Compare a [op] [b] pos) (tOp r ta tb):=by
 intro pz s σ H Q I h
 exact wpAny_Compare1 (HN ha hb I h fun v u s2 x y H2 I2 rx ry q=>ho pz s2 σ H2 x y v u Q I2 rx ry q) hm
def Fv (t:TE):TT:=fun σ H Q=>t σ H fun x H'=>∃k,x= .bl k/\Q k H'
theorem i8 {op:CmpOp} {r:R2} (ho:OpR X (compareOp op) r) (ha:PE X a ta) (hb:PE X b tb) (hm:behindInMarks op b=false:=by exact zm _):PT X (.Compare a [op] [b] pos) (Fv (tOp r ta tb)):=by
 intro pz s σ H Q I h
 refine wpAny_isTrue_Compare1 (thn (ha pz s σ H _ I h) fun v s1 ⟨x,H1,I1,r1,q1⟩=>thn (hb pz s1 σ H1 _ I1 q1) fun u s2 ⟨y,H2,I2,r2,q2⟩=>
  thn (ho pz s2 σ H2 x y v u _ I2 r1 r2 q2) fun c s3 ⟨z,H3,I3,r3,k,e,q3⟩=>?_) hm
 subst e
 cases r3
 exact wpAny_truthy_bool ⟨H3,I3,q3⟩
def Fy (r r':R2) (ta tb tc:TE):TE:=fun σ H Q=>ta σ H fun x H1=>tb σ H1 fun y H2=>r x y H2 fun z H3=>∃k,z= .bl k/\
 (if k=true then tc σ H3 fun w' H4=>r' y w' H4 Q else Q (.bl false) H3)
theorem ql {op op':CmpOp} {r r':R2} (ho:OpR X (compareOp op) r) (ho':OpR X (compareOp op') r') (ha:PE X a ta) (hb:PE X b tb) (hc:PE X c tc)
  (hm:lastMarks [op,op'] [b,c]=false:=by with_unfolding_all rfl):PT X (.Compare a [op,op'] [b,c] pos) (Fv (Fy r r' ta tb tc)):=by
 intro pz s σ H Q I h
 refine isTrue_chain (thn (ha pz s σ H _ I h) fun v s1 ⟨x,H1,I1,r1,q1⟩=>test_link (thn (hb pz s1 σ H1 _ I1 q1) fun u s2 ⟨y,H2,I2,r2,q2⟩=>
  thn (ho pz s2 σ H2 x y v u _ I2 r1 r2 q2) fun d s3 ⟨z,H3,I3,r3,k,e,q3⟩=>?_)) hm
 subst e
 cases r3
 refine wpAny_truthy_bool ?_
 cases k with
 |false=>
  obtain⟨k',e',q'⟩:=q3
  cases e'
  exact ite_ff ⟨H3,I3,q'⟩
 |true=>
  refine ite_tt (test_last (thn (hc pz s3 σ H3 _ I3 q3) fun w' s4 ⟨z',H4,I4,r4,q4⟩=>thn (ho' pz s4 σ H4 y z' u w' _ I4 r2 r4 q4) fun d' s5 ⟨z2,H5,I5,r5,k2,e2,q5⟩=>?_))
  subst e2
  cases r5
  exact wpAny_truthy_bool ⟨H5,I5,q5⟩
theorem rY:(sizeLine:Nat)<2^63:=by rw[sizeLine_eq];decide
theorem rZ:OpR X (binaryOp .Add) (fun x y H Q=>∃i j,x= .str i/\y= .str j/\i.length+j.length<=sizeLine/\Q (.str (i++j)) H):=by
 intro pz s σ H x y v u Q I rx ry h
 obtain⟨i,j,rfl,rfl,hz,q⟩:=h
 obtain⟨t,rfl⟩:=rx
 obtain⟨t',rfl⟩:=ry
 exact add_str (fun t' tk=>⟨.str (i++j),H,I.tok _,⟨_,rfl⟩,q⟩) hz
theorem m8 {x:V} {us:List Value} (r:iO [x] us):∃u,us=[u]/\iP x u:=by
 cases r with
 |cons r1 r2=>cases r2;exact⟨_,rfl,r1⟩
theorem vI {x y:V} {us:List Value} (r:iO [x,y] us):∃u w',us=[u,w']/\iP x u/\iP y w':=by
 cases r with
 |cons r1 r2=>
  cases r2 with
  |cons r3 r4=>cases r4;exact⟨_,_,rfl,r1,r3⟩
theorem ka:kT X (.type "str") (fun xs H Q=>∃i,xs=[.int i]/\i.natAbs.log2<1920/\Q (.str (toString i)) H):=by
 intro pz s σ H xs us Q I r h
 obtain⟨i,rfl,hz,q⟩:=h
 obtain⟨u,rfl,t,rfl⟩:=m8 r
 exact PySem.P.str_of_int hz ⟨.str _,H,I.tok _,⟨_,rfl⟩,q⟩
end
structure Dy (h:Heap) (x dx C:Addr) (mA:Str->Option Value):Prop where
 obj:h.get? x=some (cO C dx)
 ns:h.Ns1 dx mA
 ne:dx≠x
theorem zo {h:Heap} {dx:Addr} {mA:Str->Option Value} (n:h.Ns1 dx mA):∃od,h.get? dx=some od/\∀name,cX name od=some (mA name):=by
 obtain⟨o,es,ep,ho,hd,hk,_,hm⟩:=n
 refine⟨o,ho,fun name=>?_⟩
 have e:=hm name
 unfold nsFind findBy at e
 rw[<-Array.find?_toList]at e
 unfold cX
 rw[hd]
 dsimp only
 split
 ·rename_i y q
  rw[q]at e
  exact congrArg some e
 ·rename_i q
  rw[q]at e
  have a:es.toList.any (·.refKey)=false:=by
   rw[List.any_eq_false]
   intro y hy
   obtain⟨z,t,hkey⟩:=hk y (Array.mem_toList_iff.mp hy)
   simp[DictEntry.refKey,hkey]
  have a':¬es.toList.any (·.refKey)=true:=by rw[a];exact eX
  rw[gN a']
  exact congrArg some e
theorem Dy.look {h:Heap} {x dx C:Addr} {mA:Str->Option Value} (I:Dy h x dx C mA):∃od,PySem.W.InstAt h x (cO C dx) C (some od)/\∀name,cX name od=some (mA name):=
 let⟨od,ho,hl⟩:=zo I.ns
 ⟨od,⟨I.obj,rfl,rfl,ho⟩,hl⟩
section
variable {prog:Program} {w:World} {A:Around} {E:EvP} {s:Shared} {K:PySem.W.Frag} {x dx C f:Addr} {mA:Str->Option Value} {name:Str} {v:Value}
theorem Dz {expr:Bool} {Q:EvP} (X:K.In s.heap) (I:Dy s.heap x dx C mA) (hg:cY K C name=true) (hh:cZ K C=true)
  (ha:da K (.ref C) name=some none) (hv:mA name=some v) (hv':df v=true) (h:Q v {s with toks:=s.toks+ 1}):
  wpAny (model prog w) A (getAttr (.ref x) name expr) Q E s:=by
 obtain⟨od,J,hl⟩:=I.look
 exact PySem.W.get_value X J (dh hg).1 (PySem.W.findObj_own hh ha rfl (by rw[hl,hv])) hv' h
theorem Br {pl:Sem Bool} {Q:Value×List Value->Shared->Prop} (X:K.In s.heap) (I:Dy s.heap x dx C mA) (hg:cY K C name=true)
  (hf:da K (.ref C) name=some (some (.ref f))) (ht:di K (.ref f)=true) (hv:mA name=none) (h:Q (.ref f,[.ref x]) s):
  wpAny (model prog w) A (getMethod (.ref x) name pl) Q E s:=by
 obtain⟨od,J,hl⟩:=I.look
 exact PySem.W.method_fn X J (dh hg).1 (dh hg).2 hf (beq_iff_eq.mp ht) (by show(cX name od).map (·.isSome)=some false;rw[hl,hv];rfl) h
theorem DA {ns:List Str} {Q:Unit->Shared->Prop} (X:K.In s.heap) (I:Dy s.heap x dx C mA)
  (hs:da K (.ref C) "__setattr__"=some (some (.builtin "object.__setattr__"))) (hp:dj K C=true) (ht:dm K C name=some none) (hh:cZ K C=true)
  (hw:PySem.Within mA ns) (hsz:ns.length<=sizeLine)
  (h:∀h',Dy h' x dx C (fun y=>if y=name then some v else mA y)->Heap.SameBut dx s.heap h'->Q () {s with heap:=h',toks:=s.toks+ 2}):
  wpAny (model prog w) A (setAttr (.ref x) name v) Q E s:=by
 obtain⟨od,J,hl⟩:=I.look
 refine PySem.W.set_plain X J hs (PySem.W.osa_open (s:={s with toks:=s.toks+ 1}) (r:=none) X J hp ht fun b=>?_)
 obtain⟨cd,hc,hd'⟩:=du hh
 have hx:s.heap.get? x=some ⟨.ref C,some dx,.plain,#[]⟩:=I.obj
 refine wpAny_bind (wpAny_pure (wpAny_bind (wpAny_bind (wpAny_loadPart hx (wpAny_bind (PySem.W.Looks.here (s:={s with toks:=s.toks+ 1}) (dv X hc) ?_))))))
 rw[hd']
 refine wpAny_pure (a:=some dx) (wpAny_bind (wpAny_pure (wpAny_bind ?_)))
 refine wpAny_nsSet1 (s:={s with toks:=s.toks+ 1}) I.ns fun h' hn2 hs2=>?_
 obtain⟨oD,esD,epD,hoD,hdD,hcD⟩:=hn2.count (PySem.Within.cons name v hw)
 refine wpAny_bind (wpAny_lookBehind hoD (by rw[hdD];exact pastItsLine_dict (ck hcD (by rw[az];lia))) ?_)
 exact wpAny_pure (h _ ⟨(hs2.2 _ (Ne.symm I.ne)).trans I.obj,hn2,I.ne⟩ hs2)
theorem Bs {R:Result->Shared->Prop} {vs:List Value} {kw:List (Str×Value)} (X:K.In s.heap) (hm:dw K C=true)
  (hi:da K (.ref C) "__init__"=some (some (.ref f))) (hf:PySem.W.typeIn K (.ref f)=some (.type "function"))
  (h:codeAny (model prog w) (A.under (.builtin "type.__call__" ⟨.ref C::vs,kw⟩)) (.call (.ref f) ⟨.ref (s.heap.objs.size+ 1)::vs,kw⟩) (PySem.W.InitBack (s.heap.objs.size+ 1) R)
   {s with heap:=(s.heap.push dy).push (cO C s.heap.objs.size)}):
  codeAny (model prog w) A (.call (.ref C) ⟨vs,kw⟩) R s:=by
 obtain⟨hh,g,d,t,os⟩:=s
 exact PySem.W.make_core (PySem.W.makes_of X hm) (dA X hi) (fun self=>PySem.W.bind_fn X self hf) (.inl rfl) h
end
def lE (f:Str) (v:V):List (Str×V)->List (Str×V)
 |[]=>[(f,v)]
 |(g,x)::r=>if g=f then(g,v)::r else(g,x)::lE f v r
theorem nE (f g:Str) (v:V):∀fs:List (Str×V),(lE f v fs).lookup g=if g=f then some v else fs.lookup g
 |[]=>by
  show aA g [(f,v)]=_
  by_cases h:g=f
  ·have hb:(g==f)=true:=beq_iff_eq.mpr h
   simp only[aA,hb,gX h]
  ·have hb:(g==f)=false:=beq_eq_false_iff_ne.mpr h
   simp only[aA,hb,gN h]
 |(k,x)::r=>by
  have ih:=nE f g v r
  rw[show lE f v ((k,x)::r)=(if k=f then(k,v)::r else(k,x)::lE f v r)from rfl]
  by_cases hk:k=f
  ·rw[gX hk]
   by_cases h:g=k
   ·have hb:(g==k)=true:=beq_iff_eq.mpr h
    simp only[aA,hb,gX (h.trans hk)]
   ·have hb:(g==k)=false:=beq_eq_false_iff_ne.mpr h
    simp only[aA,hb,gN (fun e:g=f=>h (e.trans hk.symm))]
  ·rw[gN hk]
   by_cases h:g=k
   ·have hb:(g==k)=true:=beq_iff_eq.mpr h
    simp only[aA,hb,gN (fun e:g=f=>hk (h.symm.trans e))]
   ·have hb:(g==k)=false:=beq_eq_false_iff_ne.mpr h
    simp only[aA,hb]
    exact ih
theorem mi (f:Str) (v:V):∀fs:List (Str×V),f∈(lE f v fs).map (·.1)/\∀g,g∈fs.map (·.1)->g∈(lE f v fs).map (·.1)
 |[]=>⟨by simp[lE],fun g h=>by simp at h⟩
 |(k,x)::r=>by
  obtain⟨i1,i2⟩:=mi f v r
  rw[show lE f v ((k,x)::r)=(if k=f then(k,v)::r else(k,x)::lE f v r)from rfl]
  by_cases hk:k=f
  ·rw[gX hk]
   subst hk
   exact⟨by simp,fun g h=>by simpa using h⟩
  ·rw[gN hk]
   refine⟨?_,fun g h=>?_⟩
   ·rw[aB]
    exact ai _ i1
   ·rw[aB]at h⊢
    rcases aj.mp h with e|e
    ·exact aj.mpr (.inl e)
    ·exact ai _ (i2 g e)
theorem nF (f:Str) (v:V):∀fs:List (Str×V),(lE f v fs).length<=fs.length+ 1
 |[]=>by simp[lE]
 |(k,x)::r=>by
  have ih:=nF f v r
  rw[show lE f v ((k,x)::r)=(if k=f then(k,v)::r else(k,x)::lE f v r)from rfl]
  by_cases hk:k=f
  ·rw[gX hk,az,az];lia
  ·rw[gN hk,az,az];lia
theorem qA.some_of {v:V} {o:Option Value} (r:qA (some v) o):∃u,o=some u/\iP v u:=by
 cases o with
 |none=>exact(show False from r).elim
 |some u=>exact⟨u,rfl,r⟩
theorem qA.none_of {o:Option Value} (r:qA none o):o=none:=by
 cases o with
 |none=>rfl
 |some u=>exact(show False from r).elim
theorem ur {v:V} {u:Value} (r:iP v u):df u=true:=by
 cases v with
 |non=>cases(show u=Value.none from r);rfl
 |bl b=>cases(show u=Value.bool b from r);rfl
 |int i=>obtain⟨t,e⟩:=(show ∃t,u=Value.int i t from r);cases e;rfl
 |str x=>obtain⟨t,e⟩:=(show ∃t,u=Value.str x t from r);cases e;rfl
 |byt b=>obtain⟨t,e⟩:=(show ∃t,u=Value.bytes b t from r);cases e;rfl
 |flt b=>obtain⟨t,e⟩:=(show ∃t,u=Value.float b t from r);cases e;rfl
 |ref a=>cases(show u=Value.ref a from r);rfl
 |ty n=>cases(show u=Value.type n from r);rfl
section
variable {P:Program} {w:World} {H H':Hp} {h h':Heap} {a C dx:Addr} {fs fs':List (Str×V)}
theorem sJ (hok:HOk P w H h) (e:H a=some (.ins C dx fs)):∃mA,Dy h a dx C mA/\(∀f,qA (fs.lookup f) (mA f))/\PySem.Within mA (fs.map (·.1))/\fs.length<=1000/\H dx=some (.own a):=by
 obtain⟨d,z,ne,ob,mA,n,r,q⟩:=(show iD P w H h a (.ins C dx fs)from hok a _ e)
 exact⟨mA,⟨ob,n,ne⟩,r,q,z,d⟩
end
structure Cls (K:PySem.W.Frag) (C:Addr):Prop where
 pg:cY K C Str.empty=true
 hd:cZ K C=true
 po:dj K C=true
 sa:da K (.ref C) "__setattr__"=some (some (.builtin "object.__setattr__"))
theorem Cls.get {K:PySem.W.Frag} {C:Addr} (c:Cls K C) (f:Str):cY K C f=true:=c.pg
def iN (K:PySem.W.Frag) (C:Addr) (f:Str):Prop:=da K (.ref C) f=some none
theorem iN.taker {K:PySem.W.Frag} {C:Addr} {f:Str} (n:iN K C f):dm K C f=some none:=by
 unfold dm
 rw[show da K (.ref C) f=some none from n]
 rfl
structure Con (K:PySem.W.Frag) (C:Addr) (f:Str) (v:V) (u:Value):Prop where
 at_:da K (.ref C) f=some (some u)
 rel:iP v u
 get:dB K u "__get__"=some none
 cp:PySem.W.copiedNames.contains f=false
structure Hs (K:PySem.W.Frag) (C:Addr) (m:Str) (f:Addr):Prop where
 at_:da K (.ref C) m=some (some (.ref f))
 fn:di K (.ref f)=true
 kp:dC K (.ref f)=true
section
variable {X:Cx} {pz:AoL} {σ:St} {H:Hp} {s:Shared} {a C dx:Addr} {fs:List (Str×V)} {f:Str} {v:V} {A:Around} {E:EvP}
theorem r6 {b:Bool} {Q:EvP} (I:Inv X pz σ H s) (e:H a=some (.ins C dx fs)) (c:Cls X.K C) (n:iN X.K C f) (l:fs.lookup f=some v)
  (h:∀u s',Inv X pz σ H s'->iP v u->Q u s'):wpAny (model X.prog X.w) A (getAttr (.ref a) f b) Q E s:=by
 obtain⟨mA,O,r,_,_,_⟩:=sJ I.hok e
 obtain⟨u,hu,ru⟩:=qA.some_of (v:=v) (o:=mA f) (by rw[<-l];exact r f)
 exact Dz I.kIn O (c.get f) c.hd n hu (ur ru) (h u _ (I.tok _) ru)
theorem r8 {m:Str} {g:Addr} {pl:Sem Bool} {Q:Value×List Value->Shared->Prop} (I:Inv X pz σ H s) (e:H a=some (.ins C dx fs)) (c:Cls X.K C) (k:Hs X.K C m g) (l:fs.lookup m=none)
  (h:Q (.ref g,[.ref a]) s):wpAny (model X.prog X.w) A (getMethod (.ref a) m pl) Q E s:=by
 obtain⟨mA,O,r,_,_,_⟩:=sJ I.hok e
 have hn:mA m=none:=qA.none_of (by rw[<-l];exact r m)
 exact Br I.kIn O (c.get m) k.at_ k.fn hn h
theorem sd {y:V} {u:Value} {Q:Unit->Shared->Prop} (I:Inv X pz σ H s) (e:H a=some (.ins C dx fs)) (c:Cls X.K C) (n:iN X.K C f) (hl:fs.length<1000) (ry:iP y u)
  (h:∀s',Inv X pz σ (upd H a (.ins C dx (lE f y fs))) s'->Q () s'):wpAny (model X.prog X.w) A (setAttr (.ref a) f u) Q E s:=by
 obtain⟨mA,O,r,wi,_,ho⟩:=sJ I.hok e
 have hz:(fs.map (·.1)).length<=sizeLine:=by rw[aC,sizeLine_eq];lia
 refine DA I.kIn O c.sa c.po n.taker c.hd wi hz fun h' O' sb=>h _ ?_
 have hd:∃o,h'.get? dx=some o:=let⟨o,_,_,e',_⟩:=O'.ns;⟨o,e'⟩
 refine I.write (x:=a) (e:=dx) (by rw[e];exact True.intro) (.inr ho) (fun b q hb z=>(sb.2 b hb).trans z) hd ?_
 refine⟨by rw[gw O.ne];exact ho,?_,O.ne,O'.obj,_,O'.ns,fun g=>?_,fun g hg=>?_⟩
 ·have:=nF f y fs;lia
 ·show qA ((lE f y fs).lookup g) (if g=f then some u else mA g)
  rw[nE]
  by_cases q:g=f
  ·rw[gX q,gX q];exact ry
  ·rw[gN q,gN q];exact r g
 ·by_cases q:g=f
  ·rw[q];exact(mi f y fs).1
  ·refine(mi f y fs).2 g (wi g fun z=>hg ?_)
   show(if g=f then some u else mA g)=none
   rw[gN q];exact z
theorem Inv.made (I:Inv X pz σ H s):Inv X pz σ (upd (upd H s.heap.objs.size (.own (s.heap.objs.size+ 1))) (s.heap.objs.size+ 1) (.ins C s.heap.objs.size []))
  {s with heap:=(s.heap.push dy).push (cO C s.heap.objs.size)}:=by
 have e1:(s.heap.push dy).get? s.heap.objs.size=some dy:=fO s.heap rfl
 have e2:((s.heap.push dy).push (cO C s.heap.objs.size)).get? (s.heap.objs.size+ 1)=some (cO C s.heap.objs.size):=by
  have:=fO (s.heap.push dy) (o:=cO C s.heap.objs.size) rfl
  rwa[fV]at this
 have e3:(s.heap.push dy).Ns s.heap.objs.size (fun _=>none):=⟨dy,#[],_,e1,rfl,(fun e he=>absurd he (by simp)),fun _=>rfl⟩
 have I1:=I.laid (a:=s.heap.objs.size) (o:= .own (s.heap.objs.size+ 1)) (h':=s.heap.push dy) (t':=s.toks) (fun b u q=>fS _ q) (cq _) ⟨_,e1⟩
 refine I1.laid (a:=s.heap.objs.size+ 1) (o:= .ins C s.heap.objs.size []) (t':=s.toks) (fun b u q=>fS _ q) (Nat.le_of_eq (fV _ _)) ?_
 have ne:s.heap.objs.size≠s.heap.objs.size+ 1:=cj (cw _)
 refine⟨by rw[gw ne,gh],cu _,ne,e2,fun _=>none,(Heap.Ns1.of_empty e3).at fun o q=>fS _ q,fun _=>True.intro,fun y hy=>absurd rfl hy⟩
theorem zp {prog:Program} {w:World} {env:Env} {e:Expr} {f:Str} {pos:Pos} {s:Shared} {Q:EvP} (hb:attributeBase e f env (eval e env)=eval e env)
  (h:wpAny (model prog w) A (eval e env) (fun o s₁=>wpAny (model prog w) A (getAttr o f true) Q E s₁) E s):wpAny (model prog w) A (eval (.Attribute e f pos) env) Q E s:=
 Attribute_any_ h (by rw[arm_eval_Attribute,hb])
end
def tFld (K:PySem.W.Frag) (ta:TE) (f:Str):TE:=fun σ H Q=>ta σ H fun x H1=>∃a C dx fs v,x= .ref a/\H1 a=some (.ins C dx fs)/\Cls K C/\iN K C f/\fs.lookup f=some v/\Q v H1
def JI (K:PySem.W.Frag) (ta tv:TE) (f:Str):TS:=fun D σ H=>tv σ H fun y H1=>ta σ H1 fun x H2=>∃a C dx fs,x= .ref a/\H2 a=some (.ins C dx fs)/\Cls K C/\iN K C f/\fs.length<1000/\
 D.nx σ (upd H2 a (.ins C dx (lE f y fs)))
def JJ (X:Cx) (op:Operator) (rd:V->V->Hp->VK->Prop):Prop:=
 ∀(pz:AoL) (s:Shared) (σ:St) (H:Hp) (x y:V) (u v:Value) (Q:VK),Inv X pz σ H s->iP x u->iP y v->rd x y H Q->wpAny (model X.prog X.w) X.A (inplaceOp op u v) (EP X pz σ Q) X.xe s
def DB (K:PySem.W.Frag) (ta tv:TE) (rd:V->V->Hp->VK->Prop) (f:Str):TS:=fun D σ H=>ta σ H fun x H1=>∃a C dx fs v,x= .ref a/\H1 a=some (.ins C dx fs)/\Cls K C/\iN K C f/\fs.lookup f=some v/\
 tv σ H1 fun y H2=>rd v y H2 fun z H3=>∃dx' fs',H3 a=some (.ins C dx' fs')/\fs'.length<1000/\D.nx σ (upd H3 a (.ins C dx' (lE f z fs')))
section
variable {X:Cx} {o e value:Expr} {f:Str} {pos pos' tpos:Pos} {ta tv:TE}
theorem ou (he:PE X e ta) (hb:attributeBase e f X.env (eval e X.env)=eval e X.env):PE X (.Attribute e f pos) (tFld X.K ta f):=by
 intro pz s σ H Q I h
 refine zp hb (thn (he pz s σ H _ I h) fun u s1 ⟨x,H1,I1,rx,a,C,dx,fs,v,ex,ea,c,n,l,q⟩=>?_)
 subst ex
 obtain rfl:u=Value.ref a:=rx
 exact r6 I1 ea c n l fun u' s2 I2 ru=>⟨v,H1,I2,ru,q⟩
theorem jc (ha:PE X o ta) (hv:PE X value tv) (hs:swapsWith value (some (.Attribute o f pos')) pos.line X.env=pure false):PS X (.Assign [.Attribute o f pos'] value pos) (JI X.K ta tv f):=by
 intro pz s σ H D I h
 refine plainObj_wpAny_Assign_Attribute (thn (hv pz s σ H _ I h) fun u s1 ⟨y,H1,I1,ry,q⟩=>thn (ha pz s1 σ H1 _ I1 q) fun ov s2 ⟨x,H2,I2,rx,a,C,dx,fs,ex,ea,c,n,l,q2⟩=>?_) hs
 subst ex
 obtain rfl:ov=Value.ref a:=rx
 exact sd I2 ea c n l ry fun s3 I3=>⟨σ,_,I3,q2⟩
theorem uu {op:Operator} {rd:V->V->Hp->VK->Prop} (ha:PE X o ta) (hv:PE X value tv) (hop:JJ X op rd):PS X (.AugAssign (.Attribute o f tpos) op value pos) (DB X.K ta tv rd f):=by
 intro pz s σ H D I h
 refine wpAny_AugAssign_AttributeAny (thn (ha pz s σ H _ I h) fun ov s1 ⟨x,H1,I1,rx,a,C,dx,fs,v,ex,ea,c,n,l,q⟩=>?_)
 subst ex
 obtain rfl:ov=Value.ref a:=rx
 refine r6 I1 ea c n l fun u s2 I2 ru=>thn (hv pz s2 σ H1 _ I2 q) fun w3 s3 ⟨y,H2,I3,ry,q3⟩=>thn (hop pz s3 σ H2 v y u w3 _ I3 ru ry q3) fun w4 s4 ⟨z,H3,I4,rz,dx',fs',ea',l',q4⟩=>?_
 exact sd I4 ea' c n l' rz fun s5 I5=>⟨σ,_,I5,q4⟩
def rAdd:V->V->Hp->VK->Prop:=fun x y H Q=>∃i j,x= .int i/\y= .int j/\Q (.int (i+j)) H
theorem Cz:JJ X .Add rAdd:=by
 rintro pz s σ H x y u v Q I rx ry ⟨i,j,rfl,rfl,q⟩
 obtain⟨t,rfl⟩:=(show ∃t,u=Value.int i t from rx)
 obtain⟨t',rfl⟩:=(show ∃t',v=Value.int j t' from ry)
 exact PyProof.Rows.iadd_int ⟨.int (i+j),H,I.tok _,⟨_,rfl⟩,q⟩
end
section
variable {X:Cx} {pz:AoL} {σ:St} {H:Hp} {s:Shared} {A:Around} {E:EvP} {Q:EvP} {c:Value} {b:Bool}
inductive vJ (K:PySem.W.Frag) (H:Hp):V->Value->Prop where
 |non:vJ K H .non (.type "NoneType")
 |bl (x:Bool):vJ K H (.bl x) (.type "bool")
 |int (i:Int):vJ K H (.int i) (.type "int")
 |str (x:Str):vJ K H (.str x) (.type "str")
 |flt (x:UInt64):vJ K H (.flt x) (.type "float")
 |lst {a:Addr} {xs:List V} (e:H a=some (.lst xs)):vJ K H (.ref a) (.type "list")
 |frz {a:Addr} {o:Obj} {xs:List V} (e:H a=some (.frz o (.lst xs))):vJ K H (.ref a) (.type "list")
 |tup {a:Addr} {xs:List V} (e:H a=some (.tup xs)):vJ K H (.ref a) (.type "tuple")
 |dK {a:Addr} {kvs:List (Key×V)} (e:H a=some (.dK kvs)):vJ K H (.ref a) (.type "dict")
 |dT {a:Addr} {kvs:List (List Key×V)} (e:H a=some (.dT kvs)):vJ K H (.ref a) (.type "dict")
 |ins {a C dx:Addr} {fs:List (Str×V)} (e:H a=some (.ins C dx fs)) (cl:Cls K C) (ha:da K (.ref C) "__class__"=some (some (.builtin "object.__class__")))
   (hn:dB K (.builtin "object.__class__") "__get__"=some (some (.builtin "getset_descriptor.__get__"))) (htk:PySem.W.takesIn K (.builtin "object.__class__")=some true)
   (hm:PySem.W.mroIn K C (.type "object")=some true):vJ K H (.ref a) (.ref C)
theorem zq {x:V} {u t:Value} (I:Inv X pz σ H s) (rx:iP x u) (ty:vJ X.K H x t) (e:dD X.K t c=some b) (h:∀tk,Q (.bool b) {s with toks:=tk}):
  wpAny (model X.prog X.w) A (call (.builtin "isinstance") [u,c]) Q E s:=by
 cases ty with
 |non=>cases(show u=Value.none from rx);exact dE PySem.W.kitx_none I.kIn True.intro e (fun z=>nomatch z) h
 |bl y=>cases(show u=Value.bool y from rx);exact dE PySem.W.kitx_bool I.kIn True.intro e (fun z=>nomatch z) h
 |int i=>obtain⟨t,q⟩:=(show ∃t,u=Value.int i t from rx);cases q;exact dE PySem.W.kitx_int I.kIn True.intro e (fun z=>nomatch z) h
 |str y=>obtain⟨t,q⟩:=(show ∃t,u=Value.str y t from rx);cases q;exact dE PySem.W.kitx_str I.kIn True.intro e (fun z=>nomatch z) h
 |flt y=>obtain⟨t,q⟩:=(show ∃t,u=Value.float y t from rx);cases q;exact dE PySem.W.kitx_float I.kIn True.intro e (fun z=>nomatch z) h
 |@lst a xs ea=>
  cases(show u=Value.ref a from rx)
  obtain⟨_,_,n,_,h1⟩:=(show iD X.prog X.w H s.heap a (.lst xs)from I.hok a _ ea)
  exact dE dF I.kIn ⟨_,h1,rfl⟩ e (fun z=>nomatch z) h
 |@frz a ob xs ea=>
  cases(show u=Value.ref a from rx)
  obtain⟨_,_,_,n,_,h1⟩:=(show iD X.prog X.w H s.heap a (.frz ob (.lst xs))from I.hok a _ ea)
  exact dE dF I.kIn ⟨_,h1,rfl⟩ e (fun z=>nomatch z) h
 |@tup a xs ea=>
  cases(show u=Value.ref a from rx)
  obtain⟨_,_,_,p⟩:=(show iD X.prog X.w H s.heap a (.tup xs)from I.hok a _ ea)
  obtain⟨o,h1,h2,_⟩:=p
  exact dE PySem.W.kitx_tuple I.kIn ⟨o,h1,h2⟩ e (fun z=>nomatch z) h
 |@dK a kvs ea=>
  cases(show u=Value.ref a from rx)
  obtain⟨_,_,vs,_,p⟩:=(show iD X.prog X.w H s.heap a (.dK kvs)from I.hok a _ ea)
  obtain⟨o,es,ep,h1,h2,_⟩:=p
  exact dE dG I.kIn ⟨o,h1,h2.1⟩ e (fun z=>nomatch z) h
 |@dT a kvs ea=>
  cases(show u=Value.ref a from rx)
  obtain⟨_,_,xs,_,o,es,ep,h1,h2,_⟩:=(show iD X.prog X.w H s.heap a (.dT kvs)from I.hok a _ ea)
  exact dE dG I.kIn ⟨o,h1,h2.1⟩ e (fun z=>nomatch z) h
 |@ins a C dx fs ea cl ha hn htk hm=>
  cases(show u=Value.ref a from rx)
  obtain⟨mA,O,_⟩:=sJ I.hok ea
  obtain⟨od,J,_⟩:=O.look
  exact dE (PySem.W.kitx_own (cl.get _) cl.hd ha hn htk hm) I.kIn J e (fun z=>nomatch z) h
end
structure lu (k:Nat) (A:Around):Prop where
 hd:A.handled=none
 dp:A.depth+ 2*k+ 5<recursionLimit
 un:A.units+ 16*k+ 200<cLine
theorem lu.mono {j k:Nat} {A:Around} (r:lu k A) (h:j<=k):lu j A:=⟨r.hd,by have:=r.dp;lia,by have:=r.un;lia⟩
theorem lu.m {j k:Nat} {A:Around} (r:lu k A) (h:autoParam (j<=k) auD._auto_1):lu j A:=r.mono h
theorem lu.deeper {k:Nat} {A:Around} (r:lu (k+ 1) A) (env:Env):lu k (A.deeper env):=
 ⟨r.hd,by have:=r.dp;show A.depth+ 1+ 2*k+ 5<_;lia,by have:=r.un;show A.units+ 3+ 16*k+ 200<_;lia⟩
theorem yj {A:Around} {C:Addr} {us:List Value} {kw:List (Str×Value)}:(A.under (.builtin "type.__call__" ⟨.ref C::us,kw⟩)).depth=A.depth+ 1:=by
 first|rfl|simp[Around.under,Code.weight,Code.isCreation,Code.isGuard,Code.isCaller,Code.frames,Code.isFrame,guardIds]
theorem yk {A:Around} {C:Addr} {us:List Value} {kw:List (Str×Value)}:(A.under (.builtin "type.__call__" ⟨.ref C::us,kw⟩)).units=A.units+ 1:=by
 first|rfl|simp[Around.under,Code.cUnits,Code.frames,Code.isFrame]
theorem lu.make {k:Nat} {A:Around} (r:lu (k+ 1) A) (C:Addr) (us:List Value) (kw:List (Str×Value)):lu k (A.under (.builtin "type.__call__" ⟨.ref C::us,kw⟩)):=
 ⟨r.hd,by have:=r.dp;rw[yj];lia,by have:=r.un;rw[yk];lia⟩
theorem lu.depth {k:Nat} {A:Around} (r:lu k A):A.depth<recursionLimit:=by have:=r.dp;lia
theorem lu.units {k:Nat} {A:Around} (r:lu k A):A.units+ 64<cLine:=by have:=r.un;lia
theorem lu.units0 {k:Nat} {A:Around} (r:lu k A):A.units<cLine:=by have:=r.un;lia
def se:TA:=fun _ H Q=>Q [] H
def iX (ta:TE) (tr:TA):TA:=fun σ H Q=>ta σ H fun x H1=>tr σ H1 fun xs H2=>Q (x::xs) H2
section
variable {X:Cx} {e:Expr} {es:List Expr} {te:TE} {t:TA} {pos:Pos}
theorem gf:PA X [] se:=fun _ _ _ _ H Q I h=>Calls.spliced_nil ⟨[],H,I,.nil,h⟩
theorem f9 (ha:PE X e te) (hr:PA X es t) (hs:autoParam (starEach (e::es) X.env=(false,eval e X.env)::starEach es X.env) auR._auto_1):PA X (e::es) (iX te t):=by
 intro pos pz s σ H Q I h
 rw[hs]
 show wpAny _ _ (spliced ((false,eval e X.env)::backTo pos (starEach es X.env))) _ _ s
 refine Calls.spliced_cons (thn (ha pz s σ H _ I h) fun u s1 ⟨x,H1,I1,r1,q1⟩=>?_)
 exact thn (hr pos pz s1 σ H1 _ I1 q1) fun us s2 ⟨xs,H2,I2,r2,q2⟩=>⟨x::xs,H2,I2,.cons r1 r2,q2⟩
def DC (t:TA):TE:=fun σ H Q=>t σ H fun xs H1=>xs.length<=sizeLine/\∀p,H1 p=none->Q (.ref p) (upd H1 p (.tup xs))
def Ht (t:TA):TE:=fun σ H Q=>t σ H fun xs H1=>xs.length<=sizeLine/\∀p,H1 p=none->Q (.ref p) (upd H1 p (.lst xs))
theorem hI {x1} (h:PA X es t):PE X (.Tuple es x1 pos) (DC t):=by
 intro pz s σ H Q I hq
 refine wpAny_Tuple_spliced (thn (h pos pz s σ H _ I hq) fun us s1 ⟨xs,H1,I1,r,z,q⟩=>⟨by rw[<-r.length];exact z,?_⟩)
 have hf:H1 s1.heap.objs.size=none:=I1.hok.fresh (cq _)
 refine⟨.ref s1.heap.objs.size,upd H1 s1.heap.objs.size (.tup xs),I1.laid (t':=s1.toks) (fun b u e=>fS _ e) (cq _) ?_,rfl,q _ hf⟩
 exact⟨z,us,r,⟨_,fO _ rfl,rfl,_,rfl,rfl⟩⟩
theorem hZ (h:PA X es t):PE X (.List es pos) (Ht t):=by
 intro pz s σ H Q I hq
 refine wpAny_List_spliced (thn (h pos pz s σ H _ I hq) fun us s1 ⟨xs,H1,I1,r,z,q⟩=>⟨by rw[<-r.length];exact z,?_⟩)
 have hf:H1 s1.heap.objs.size=none:=I1.hok.fresh (cq _)
 refine⟨.ref s1.heap.objs.size,upd H1 s1.heap.objs.size (.lst xs),I1.laid (t':=s1.toks) (fun b u e=>fS _ e) (cq _) ?_,rfl,q _ hf⟩
 exact⟨z,us,0,r,fO _ rfl⟩
end
abbrev Sp:=List V->Hp->VK->XK->Prop
abbrev CXT:=List Env->Hp->Shared->XK->Value->Shared->Prop
structure DD (P:Program) (w:World) (K:PySem.W.Frag) (mg:Str->Option Value) (base:Heap) (A:Around) (outer:List Env) (s:Shared) (H:Hp):Prop where
 frames:A.frames=some outer
 mod:Mod K mg base
 bs:∀b o,base.get? b=some o->s.heap.get? b=some o/\H b=none
 bsz:base.objs.size<=s.heap.objs.size
 funs:s.heap.FunFrames base outer
 frf:∀b∈frs outer,H b=none
 hok:HOk P w H s.heap
 bare:AllBare s.gens
def CE (outer:List Env) (P:Program) (w:World) (H:Hp) (s:Shared) (Q:VK) (u:Value) (s':Shared):Prop:=
 ∃v H',s'.os=s.os/\AllBare s'.gens/\Un (frs outer) [] H H' s.heap s'.heap/\HOk P w H' s'.heap/\iP v u/\Q v H'
def CR (CX:CXT) (outer:List Env) (P:Program) (w:World) (H:Hp) (s:Shared) (Q:VK) (E:XK) (r:Result) (s':Shared):Prop:=
 match r with
 | .ok (.ret u)=>CE outer P w H s Q u s'
 | .ok _=>False
 | .error e=>CX outer H s E e s'
structure ow (P:Program) (w:World) (K:PySem.W.Frag) (mg:Str->Option Value) (base:Heap) (CX:CXT) (k:Nat) (f:Addr) (fd:FuncData) (ps:List Str) (sp:Sp):Prop where
 len:∀vs H Q E,sp vs H Q E->vs.length=ps.length
 run:∀(A:Around) (outer:List Env) (s:Shared) (H:Hp) (args:Args) (us:List Value) (vs:List V) (Q:VK) (E:XK),lu k A->DD P w K mg base A outer s H->BindsTo s fd args (ps.zip us)->iO vs us->sp vs H Q E->
  codeAny (model P w) A (.call (.ref f) args) (CR CX outer P w H s Q E) s
theorem DD.make {P:Program} {w:World} {K:PySem.W.Frag} {mg:Str->Option Value} {base:Heap} {A:Around} {outer:List Env} {s:Shared} {H:Hp} (e:DD P w K mg base A outer s H) (C:Addr) (us:List Value) (kw:List (Str×Value)):
  DD P w K mg base (A.under (.builtin "type.__call__" ⟨.ref C::us,kw⟩)) outer s H:=⟨by first|exact e.frames|(simpa[Around.under,Code.envs,Code.isFrame,pushEnvs]using e.frames),e.mod,e.bs,e.bsz,e.funs,e.frf,e.hok,e.bare⟩
section
variable {X:Cx} {pz:AoL} {σ:St} {H:Hp} {s s':Shared}
theorem Inv.env0 (I:Inv X pz σ H s):DD X.prog X.w X.K X.mg X.base X.A X.stack s H:=
 ⟨I.ok.frames,I.ok.mod,I.bs,ck I.ok.bsz I.sz,I.stack,I.stkFree,I.hok,I.bare⟩
theorem Inv.after {Q:VK} {u:Value} (I:Inv X pz σ H s) (h:CE X.stack X.prog X.w H s Q u s'):EP X pz σ Q u s':=by
 obtain⟨v,H',os,bare,un,hok,r,q⟩:=h
 obtain⟨hh,g,d,t,os'⟩:=s'
 obtain rfl:os'=s.os:=os
 exact⟨v,H',I.call (h':=hh) (g':=g) (d':=d) (t':=t) (ch:=[]) un hok bare (fun b z=>absurd z (by simp)),r,q⟩
end
def DE (sp:Sp) (dvs:List V) (E:XK) (t:TA):TE:=fun σ H Q=>t σ H fun vs H1=>sp (vs++dvs) H1 Q E
def DF (C:Addr) (m:Str) (sp:Sp) (dvs:List V) (E:XK) (ta:TE) (t:TA):TE:=fun σ H Q=>ta σ H fun x H1=>∃a dx fs,x= .ref a/\H1 a=some (.ins C dx fs)/\fs.lookup m=none/\
 t σ H1 fun vs H2=>sp (x::(vs++dvs)) H2 Q E
def FA (C:Addr) (sp:Sp) (dvs:List V) (E:XK) (t:TA):TE:=fun σ H Q=>t σ H fun vs H1=>∀x dx,H1 x=none->H1 dx=none->dx≠x->
 sp (.ref x::(vs++dvs)) (upd (upd H1 dx (.own x)) x (.ins C dx [])) (fun v H2=>v= .non/\Q (.ref x) H2) E
def m9 (K:PySem.W.Frag) (fd:FuncData) (ps:List Str) (ds:List Value):Prop:=
 ∀(s:Shared) (us:List Value),K.In s.heap->(us++ds).length=ps.length->BindsTo s fd ⟨us,[]⟩ (ps.zip (us++ds))
theorem m9.all {K:PySem.W.Frag} {fd:FuncData} {ps:List Str} (h:∀us:List Value,us.length=ps.length->bindArgs fd ⟨us,[]⟩=pure (ps.zip us)):m9 K fd ps []:=fun s us _ hl=>by
 rw[aD]at hl⊢
 exact .of_eq (h us hl)
def mj (CX:CXT) (X:Cx) (E:XK):Prop:=∀(pz:AoL) (σ:St) (H:Hp) (s:Shared) (e:Value) (s':Shared),Inv X pz σ H s->CX X.stack H s E e s'->X.xe e s'
section
variable {X:Cx} {CX:CXT} {k:Nat} {f C:Addr} {fd:FuncData} {ps:List Str} {sp:Sp} {dvs:List V} {ds:List Value} {E:XK} {x m:Str} {p pos apos:Pos} {e o:Expr} {es:List Expr} {ta:TE} {t:TA}
theorem xg {pz:AoL} {σ:St} {H:Hp} {s:Shared} {Q:VK} {us:List Value} {vs:List V} (F:ow X.prog X.w X.K X.mg X.base CX k f fd ps sp) (hr:lu k X.A) (hb:m9 X.K fd ps ds) (hd:iO dvs ds) (hx:mj CX X E)
  (I:Inv X pz σ H s) (r:iO vs us) (h:sp (vs++dvs) H Q E):wpAny (model X.prog X.w) X.A (call (.ref f) us) (EP X pz σ Q) X.xe s:=by
 have r2:iO (vs++dvs) (us++ds):=r.append hd
 have hl:(us++ds).length=ps.length:=by rw[<-r2.length];exact F.len _ _ _ _ h
 refine wpAny_call (codeAny_mono (F.run X.A X.stack s H ⟨us,[]⟩ (us++ds) (vs++dvs) Q E hr I.env0 (hb s us I.kIn hl) r2 h) fun r s' hq=>?_)
 cases r with
 |error e=>exact hx pz σ H s e s' I hq
 |ok fl=>
  cases fl with
  |ret u=>exact I.after hq
  |next=>exact False.elim hq
  |brk=>exact False.elim hq
  |cont=>exact False.elim hq
theorem ml (F:ow X.prog X.w X.K X.mg X.base CX k f fd ps sp) (hr:lu k X.A) (hg:Gl X x) (hm:X.mg x=some (.ref f)) (hk:dC X.K (.ref f)=true) (hb:m9 X.K fd ps ds) (hd:iO dvs ds) (hx:mj CX X E)
  (ha:PA X (e::es) t) (hdb:autoParam ((x==("__debug__":Str))=false) auD._auto_1) (he:autoParam (starEach (e::es) X.env=(false,eval e X.env)::starEach es X.env) auR._auto_1) (hpl:autoParam ((backTo pos (starEach es X.env)).any (·.1)=false) auR._auto_1):
  PE X (.Call (.Name x p) (e::es) [] pos) (DE sp dvs E t):=by
 intro pz s σ H Q I h
 refine wpAny_Call_Name_kw (mf I hg hm ?_ hdb)
 refine dH (h₀:=X.base) I.ok.mod.kin hk (thn (ha pos pz s σ H _ I h) fun us s1 ⟨vs,H1,I1,r,q⟩=>⟨I1.kIn,?_⟩) he hpl
 exact xg F hr hb hd hx I1 r q
theorem hG {pl:Sem Bool} (he:PE X o ta) (c:Cls X.K C) (hm:Hs X.K C m f) (F:ow X.prog X.w X.K X.mg X.base CX k f fd ps sp) (hr:lu k X.A) (hb:m9 X.K fd ps ds) (hd:iO dvs ds) (hx:mj CX X E) (ha:PA X (e::es) t)
  (hst:autoParam (starEach (e::es) X.env=(false,eval e X.env)::starEach es X.env) auR._auto_1) (hpl:autoParam ((backTo pos (starEach es X.env)).any (·.1)=false) auR._auto_1)
  (ht:eval (.Call (.Attribute o m apos) (e::es) [] pos) X.env=(do
   let ov<-eval o X.env
   standAt apos.atName
   let(f,first)<-holding [ov] (getMethod ov m pl)
   callWith pos f first (backTo pos (starEach (e::es) X.env)) (backToKw pos (keywordEach [] X.env))):=by rfl):
  PE X (.Call (.Attribute o m apos) (e::es) [] pos) (DF C m sp dvs E ta t):=by
 intro pz s σ H Q I h
 refine dI (pl:=pl) (thn (he pz s σ H _ I h) fun u s1 ⟨x,H1,I1,rx,a,dx,fs,ex,ea,l,q⟩=>?_) ht
 subst ex
 obtain rfl:u=Value.ref a:=rx
 refine r8 I1 ea c hm l ?_
 refine dH (first:=[.ref a]) (h₀:=X.base) I.ok.mod.kin hm.kp (thn (ha pos pz s1 σ H1 _ I1 q) fun us s2 ⟨vs,H2,I2,r,q2⟩=>⟨I2.kIn,?_⟩) hst hpl
 exact xg (us:= .ref a::us) (vs:= .ref a::vs) F hr hb hd hx I2 (.cons rfl r) q2
theorem jl {pl:Sem Bool} (he:PE X o ta) (c:Cls X.K C) (hm:Hs X.K C m f) (F:ow X.prog X.w X.K X.mg X.base CX k f fd ps sp) (hr:lu k X.A) (hb:m9 X.K fd ps ds) (hd:iO dvs ds) (hx:mj CX X E)
  (ht:eval (.Call (.Attribute o m apos) [] [] pos) X.env=(do
   let ov<-eval o X.env
   standAt apos.atName
   let(f,first)<-holding [ov] (getMethod ov m pl)
   callWith pos f first (backTo pos (starEach [] X.env)) (backToKw pos (keywordEach [] X.env))):=by rfl):
  PE X (.Call (.Attribute o m apos) [] [] pos) (DF C m sp dvs E ta se):=by
 intro pz s σ H Q I h
 refine dI (pl:=pl) (thn (he pz s σ H _ I h) fun u s1 ⟨x,H1,I1,rx,a,dx,fs,ex,ea,l,q⟩=>?_) ht
 subst ex
 obtain rfl:u=Value.ref a:=rx
 refine r8 I1 ea c hm l ?_
 exact PySem.W.callWith_K0 (first:=[.ref a]) I1.kIn hm.kp (xg (us:=[.ref a]) (vs:=[.ref a]) F hr hb hd hx I1 (.cons rfl .nil) q)
structure Mk (K:PySem.W.Frag) (C f:Addr):Prop where
 makes:dw K C=true
 init:da K (.ref C) "__init__"=some (some (.ref f))
 fn:di K (.ref f)=true
 kp:dC K (.ref C)=true
theorem Bt {pz:AoL} {σ:St} {H:Hp} {s:Shared} {Q:VK} {us:List Value} {vs:List V} (M:Mk X.K C f) (F:ow X.prog X.w X.K X.mg X.base CX k f fd ps sp) (hr:lu (k+ 1) X.A) (hb:m9 X.K fd ps ds) (hd:iO dvs ds)
  (hx:mj CX X E) (I:Inv X pz σ H s) (r:iO vs us)
  (h:∀x dx,H x=none->H dx=none->dx≠x->sp (.ref x::(vs++dvs)) (upd (upd H dx (.own x)) x (.ins C dx [])) (fun v H2=>v= .non/\Q (.ref x) H2) E):
  wpAny (model X.prog X.w) X.A (call (.ref C) us) (EP X pz σ Q) X.xe s:=by
 have hq:=h (s.heap.objs.size+ 1) s.heap.objs.size (I.hok.fresh (cx _)) (I.hok.fresh (cq _)) (cj (cw _))
 have I2:=Inv.made (C:=C) I
 have r2:iO (V.ref (s.heap.objs.size+ 1)::(vs++dvs)) (Value.ref (s.heap.objs.size+ 1)::(us++ds)):= .cons rfl (r.append hd)
 have hl:(Value.ref (s.heap.objs.size+ 1)::us++ds).length=ps.length:=by
  have e:=r2.length
  rw[F.len _ _ _ _ hq]at e
  exact e.symm
 refine wpAny_call (Bs (f:=f) I.kIn M.makes M.init (beq_iff_eq.mp M.fn) (codeAny_mono (F.run _ X.stack _ _ ⟨Value.ref (s.heap.objs.size+ 1)::us,[]⟩ (Value.ref (s.heap.objs.size+ 1)::(us++ds)) _ _ E (hr.make C us [])
  (I2.env0.make C us []) (hb _ (Value.ref (s.heap.objs.size+ 1)::us) I2.kIn hl) r2 hq) fun r s' hq'=>?_))
 cases r with
 |error e=>exact hx pz σ _ _ e s' I2 hq'
 |ok fl=>
  cases fl with
  |ret u=>
   obtain⟨v,H',I3,rv,ev,q3⟩:=I2.after hq'
   subst ev
   exact⟨rv,⟨V.ref (s.heap.objs.size+ 1),H',I3,rfl,q3⟩⟩
  |next=>exact False.elim hq'
  |brk=>exact False.elim hq'
  |cont=>exact False.elim hq'
theorem oV (M:Mk X.K C f) (F:ow X.prog X.w X.K X.mg X.base CX k f fd ps sp) (hr:lu (k+ 1) X.A) (hg:Gl X x) (hm:X.mg x=some (.ref C)) (hb:m9 X.K fd ps ds) (hd:iO dvs ds) (hx:mj CX X E)
  (ha:PA X (e::es) t) (hdb:autoParam ((x==("__debug__":Str))=false) auD._auto_1) (he:autoParam (starEach (e::es) X.env=(false,eval e X.env)::starEach es X.env) auR._auto_1) (hpl:autoParam ((backTo pos (starEach es X.env)).any (·.1)=false) auR._auto_1):
  PE X (.Call (.Name x p) (e::es) [] pos) (FA C sp dvs E t):=by
 intro pz s σ H Q I h
 refine wpAny_Call_Name_kw (mf I hg hm ?_ hdb)
 refine dH (h₀:=X.base) I.ok.mod.kin M.kp (thn (ha pos pz s σ H _ I h) fun us s1 ⟨vs,H1,I1,r,q⟩=>⟨I1.kIn,?_⟩) he hpl
 exact Bt M F hr hb hd hx I1 r q
end
section
variable {X:Cx} {CX:CXT} {k:Nat} {f C:Addr} {fd:FuncData} {ps ks:List Str} {sp:Sp} {E:XK} {x m:Str} {p pos apos kpos:Pos} {e o:Expr} {es:List Expr} {kws:List Keyword} {te ta:TE} {t tk:TA} {nm:Option Str}
structure JK (K:PySem.W.Frag) (fd:FuncData) (ps ks:List Str) (g:List Value->List Value->List Value) (gV:List V->List V->List V):Prop where
 to:∀(s:Shared) (us ws:List Value),K.In s.heap->(g us ws).length=ps.length->BindsTo s fd ⟨us,ks.zip ws⟩ (ps.zip (g us ws))
 rel:∀{vs:List V} {us:List Value} {zs:List V} {ws:List Value},iO vs us->iO zs ws->iO (gV vs zs) (g us ws)
variable {g:List Value->List Value->List Value} {gV:List V->List V->List V}
end
structure gy (N P:List Str) (sc:Scope):Prop where
 kind:sc.kind= .function
 co:sc.isCoroutine=false
 gen:sc.isGenerator=false
 nd:N.Nodup
 pre:N.take P.length=P
 par:∀x∈P,sc.names.lookup x=some .local\/sc.names.lookup x=some .cell
 nofree:∀y∈sc.names,y.2≠ .free
theorem uw {kindOf:Str->Option NameKind} {x:Str}:∀{binds:List (Str×Value)} {m:Str->Option Value},(∀v,(x,v)∉binds)->bindL kindOf binds m x=m x
 |[],_,_=>rfl
 |(n,v)::r,m,h=>by
  unfold bindL
  rw[uw fun w hw=>h w (ai _ hw)]
  split
  ·have:x≠n:=by rintro rfl;exact h v ah
   simp[this]
  ·rfl
theorem uz {kindOf:Str->Option NameKind} {x:Str}:∀{binds:List (Str×Value)} {m:Str->Option Value},(∀v,(x,v)∉binds)->bindC kindOf binds m x=m x
 |[],_,_=>rfl
 |(n,v)::r,m,h=>by
  unfold bindC
  rw[uz fun w hw=>h w (ai _ hw)]
  split
  ·rfl
  ·have:x≠n:=by rintro rfl;exact h v ah
   simp[this]
theorem uA {kindOf:Str->Option NameKind} {x:Str} {v:Value}:∀{P:List Str} {vs:List Value} {i:Nat} {m:Str->Option Value},P.Nodup->P[i]?=some x->vs[i]?=some v->kindOf x=some .local->
  bindL kindOf (P.zip vs) m x=some v
 |[],_,_,_,_,h,_,_=>by simp at h
 |_::_,[],_,_,_,_,h,_=>by simp at h
 |p::P,w::vs,0,m,nd,h1,h2,hk=>by
  simp at h1 h2;subst h1;subst h2
  show bindL kindOf ((p,w)::P.zip vs) m p=_
  unfold bindL
  rw[uw fun v hv=>(aE.mp nd).1 (aF hv).1,gX hk]
  simp
 |p::P,w::vs,i+ 1,m,nd,h1,h2,hk=>by
  show bindL kindOf ((p,w)::P.zip vs) m x=_
  unfold bindL
  exact uA (i:=i) (aE.mp nd).2 (by simpa using h1) (by simpa using h2) hk
theorem uB {kindOf:Str->Option NameKind} {x:Str} {v:Value}:∀{P:List Str} {vs:List Value} {i:Nat} {m:Str->Option Value},P.Nodup->P[i]?=some x->vs[i]?=some v->kindOf x≠some .local->
  bindC kindOf (P.zip vs) m x=some v
 |[],_,_,_,_,h,_,_=>by simp at h
 |_::_,[],_,_,_,_,h,_=>by simp at h
 |p::P,w::vs,0,m,nd,h1,h2,hk=>by
  simp at h1 h2;subst h1;subst h2
  show bindC kindOf ((p,w)::P.zip vs) m p=_
  unfold bindC
  rw[uz fun v hv=>(aE.mp nd).1 (aF hv).1,gN hk]
  simp
 |p::P,w::vs,i+ 1,m,nd,h1,h2,hk=>by
  show bindC kindOf ((p,w)::P.zip vs) m x=_
  unfold bindC
  exact uB (i:=i) (aE.mp nd).2 (by simpa using h1) (by simpa using h2) hk
def ox (N:List Str) (vs:List V):St:=vs.map some++aG (N.length-vs.length) none
def qE (CX:CXT) (P:Program) (w:World) (K:PySem.W.Frag) (mg:Str->Option Value) (base:Heap) (N:List Str) (qual:Str) (scope:Scope) (f:Addr) (cd:Value) (A:Around) (outer:List Env) (s:Shared) (H:Hp) (E:XK):Cx where
 prog:=P
 w:=w
 K:=K
 mg:=mg
 base:=base
 A:=A.deeper (envOfC qual scope s.heap.objs.size f cd)
 N:=N
 s₀:=s
 H₀:=H
 env:=envOfC qual scope s.heap.objs.size f cd
 outer:=outer
 stack:=envOfC qual scope s.heap.objs.size f cd::outer
 ex:=[]
 calm:=true
 fn:=fun _=>true
 pn:=[]
 xe:=fun e s'=>wpAny (model P w) (A.deeper (envOfC qual scope s.heap.objs.size f cd)) (leaving (envOfC qual scope s.heap.objs.size f cd) e) (fun _ s''=>CX outer H s E e s'') (fun e' s''=>CX outer H s E e' s'') s'
theorem xh {sc:Scope} {n:Nat} {x:Str} (h:sc.names.lookup x=some .cell):∃c,(cellsFrom n sc.names []).lookup x=some c:=by
 have q:=dJ sc.names n [] (.inl h)
 exact cJ.mp q
theorem uC {CX:CXT} {P:Program} {w:World} {K:PySem.W.Frag} {mg:Str->Option Value} {base:Heap} {N ps:List Str} {qual:Str} {scope:Scope} {f:Addr} {cd:Value} {A:Around} {outer:List Env} {s s1:Shared} {H:Hp} {E:XK} {us:List Value} {vs:List V}
  (S:gy N ps scope) (hd:A.handled=none) (e0:DD P w K mg base A outer s H) (hl:vs.length=ps.length) (r:iO vs us)
  (x:InCallC s s.heap.objs.size (bindL (envOfC qual scope s.heap.objs.size f cd).kindOf (ps.zip us) fun _=>none) (cellsFrom (s.heap.objs.size+ 1) scope.names []) (bindC (envOfC qual scope s.heap.objs.size f cd).kindOf (ps.zip us) fun _=>none) s1):
  Inv (qE CX P w K mg base N qual scope f cd A outer s H E) [] (ox N vs) H s1:=by
 have hpl:ps.length<=N.length:=by have:=congrArg List.length S.pre;rw[aH]at this;lia
 obtain⟨h1,tk,rfl,hk⟩:=x.done
 have noA:∀b:Addr,b∉(qE CX P w K mg base N qual scope f cd A outer s H E).ex:=fun b z=>absurd (show b∈([]:List Addr)from z) (by simp)
 refine⟨⟨e0.mod,S.kind,rfl,rfl,cq _,fun y z c h1 h2=>?_,fun y hy=>?_,fun y c _ h=>?_,fun _=>hd,Around.frames_deeper e0.frames,.inr ⟨rfl,rfl⟩,fun b z=>absurd z (noA b),e0.bs,e0.bsz,fun b _ _=>noA b,fun b z=>absurd z (noA b),e0.funs,e0.frf⟩,
  rfl,e0.bare,Un.kept hk,⟨_,x.toInCall.ns,fun i y v h1 h2 h3=>?_⟩,fun y c h=>⟨_,x.cell y c h⟩,e0.hok.fresh (cq _),fun y c h=>?_,fun p hp=>absurd (show p∈([]:AoL)from hp) (by simp),e0.hok.kept hk,?_⟩
 ·exact name_of_addr x.apart (PySem.mem_of_lookup h1) (PySem.mem_of_lookup h2)
 ·have hy:scope.names.lookup y=some .cell\/scope.names.lookup y=some .free:=hy
  rcases hy with hy|hy
  ·exact xh hy
  ·exact absurd rfl (S.nofree _ (PySem.mem_of_lookup hy))
 ·exact cm (x.above y c (PySem.mem_of_lookup h))
 ·have hi:i<vs.length:=by
   unfold ox at h2
   by_cases hi:i<vs.length
   ·exact hi
   ·rw[aI (by simpa using hi)]at h2
    rw[List.getElem?_replicate]at h2
    split at h2<;>cases h2
  have ha:vs[i]?=some v:=by
   unfold ox at h2
   rw[aJ (by simpa using hi),aK]at h2
   cases e:vs[i]? with
   |none=>rw[e]at h2;cases h2
   |some a=>rw[e]at h2;cases h2;rfl
  obtain⟨u,hu,rv⟩:=r.get ha
  have hp:ps[i]?=some y:=by
   rw[<-S.pre,List.getElem?_take_of_lt (by lia)];exact h1
  have ndP:ps.Nodup:=by rw[<-S.pre];exact S.nd.sublist (List.take_sublist _ _)
  refine⟨u,rv,?_⟩
  rcases S.par y (aM hp)with k|k
  ·exact .inl ⟨k,uA ndP hp hu k⟩
  ·obtain⟨c,e⟩:=xh (n:=s.heap.objs.size+ 1) k
   refine .inr ⟨.inl k,c,e,?_⟩
   have q:=x.cell y c e
   rw[uB ndP hp hu (by show scope.names.lookup y≠_;rw[k];decide)]at q
   exact q
 ·exact e0.hok.fresh (cm (x.above y c (PySem.mem_of_lookup h)))
 ·unfold ox
  show _=N.length
  rw[aN,aC,List.length_replicate]
  lia
theorem DG {CX:CXT} {P:Program} {w:World} {K:PySem.W.Frag} {mg:Str->Option Value} {base:Heap} {k:Nat} {f:Addr} {name qual:Str} {params:Arguments} {body:List Stmt} {scope:Scope} {dV kV doc pm cdv ct oc:Value} {an od:Option Addr}
  {osl:Array (Option Value)} {N ps:List Str} {sp:Sp} (lk:K.lookup f=some ⟨oc,od,.func (dM name qual params body scope dV kV doc pm an cdv ct),osl⟩) (hcd:dN K cdv qual=true) (S:gy N ps scope)
  (len:∀vs H Q E,sp vs H Q E->vs.length=ps.length)
  (hbody:∀(A:Around) (outer:List Env) (s:Shared) (H:Hp) (vs:List V) (Q:VK) (E:XK),lu k (A.deeper (envOfC qual scope s.heap.objs.size f cdv))->sp vs H Q E->
   ∃t,PSs (qE CX P w K mg base N qual scope f cdv A outer s H E) body t/\t {nx:=fun _ H'=>Q .non H',rt:=Q} (ox N vs) H):
  ow P w K mg base CX (k+ 1) f (dM name qual params body scope dV kV doc pm an cdv ct) ps sp:=by
 refine⟨len,fun A outer s H args us vs Q E hr e0 hb r hsp=>?_⟩
 have hl:=len _ _ _ _ hsp
 have KX:K.In s.heap:=e0.mod.kin.keeps fun b o e=>(e0.bs b o e).1
 have lim:s.heap.NoLimit:=e0.mod.nolimit.keeps fun b o e=>(e0.bs b o e).1
 have hkind:∀y∈ps.zip us,scope.names.lookup y.1=some .local\/(scope.names.lookup y.1=some .cell/\((cellsFrom (s.heap.objs.size+ 1) scope.names []).lookup y.1).isSome=true):=fun⟨n,v⟩ hy=>by
  rcases S.par n (aF hy).1 with q|q
  ·exact .inl q
  ·exact .inr ⟨q,dJ _ _ _ (.inl q)⟩
 refine codeAny_call_function hr.depth (KX _ _ lk) rfl S.co S.gen rfl (dO KX hcd) (hb _ _ _ _ ?_)
 refine wpAny_newFunctionEnv_cells S.kind hkind fun env he s1 x=>?_
 subst he
 refine⟨lim.keeps x.toInCall.keep,codeAny_func ?_⟩
 obtain⟨t,ht,hq⟩:=hbody A outer s H vs Q E (hr.deeper _) hsp
 have I:Inv (qE CX P w K mg base N qual scope f cdv A outer s H E) [] (ox N vs) H s1:=uC S hr.hd e0 hl r x
 refine wpAny_mono (ht [] s1 (ox N vs) H _ I hq) (fun fl s' hs=>?_) fun e s' hs=>hs
 have fin:∀{σ':St} {H':Hp} {v:V} {u:Value},Inv (qE CX P w K mg base N qual scope f cdv A outer s H E) [] σ' H' s'->iP v u->Q v H'->CE outer P w H s Q u s':=
  fun{σ' H' v u} J rv q=>⟨v,H',J.os,J.bare,J.base,J.hok,rv,q⟩
 cases fl with
 |ret u=>
  obtain⟨v,σ',H',J,rv,q⟩:=hs
  exact fin J rv q
 |next=>
  obtain⟨σ',H',J,q⟩:=hs
  exact fin (v:=V.non) (u:=Value.none) J rfl q
 |brk=>
  obtain⟨_,_,_,q⟩:=hs
  exact False.elim q
 |cont=>
  obtain⟨_,_,_,q⟩:=hs
  exact False.elim q
section
variable {X:Cx} {x:Str} {p pos:Pos} {e:Expr} {es:List Expr} {t:TA} {id T:String} {r:List V->Hp->VK->Prop}
def tCB (r:List V->Hp->VK->Prop) (t:TA):TE:=fun σ H Q=>t σ H fun vs H1=>r vs H1 Q
theorem gY (hc:kT X (.builtin id) r) (hg:Gl X x) (hm:X.mg x=none) (hv:bootBuiltins x=some (.builtin id)) (ha:PA X (e::es) t) (hn:autoParam (x≠"__name__") auD._auto_1) (hdb:autoParam ((x==("__debug__":Str))=false) auD._auto_1)
  (he:autoParam (starEach (e::es) X.env=(false,eval e X.env)::starEach es X.env) auR._auto_1) (hpl:autoParam ((backTo pos (starEach es X.env)).any (·.1)=false) auR._auto_1):PE X (.Call (.Name x p) (e::es) [] pos) (tCB r t):=by
 intro pz s σ H Q I h
 refine wpAny_Call_Name_kw (oo I hg hm hv ?_ hn hdb)
 exact PyProof.Rows.callWith_builtin1 (thn (ha pos pz s σ H _ I h) fun us s1 ⟨vs,H1,I1,r1,q1⟩=>hc pz s1 σ H1 vs us Q I1 r1 q1) he hpl
theorem ip (hc:kT X (.type T) r) (hg:Gl X x) (hm:X.mg x=none) (hv:bootBuiltins x=some (.type T)) (ha:PA X (e::es) t) (hn:autoParam (x≠"__name__") auD._auto_1) (hdb:autoParam ((x==("__debug__":Str))=false) auD._auto_1)
  (he:autoParam (starEach (e::es) X.env=(false,eval e X.env)::starEach es X.env) auR._auto_1) (hpl:autoParam ((backTo pos (starEach es X.env)).any (·.1)=false) auR._auto_1):PE X (.Call (.Name x p) (e::es) [] pos) (tCB r t):=by
 intro pz s σ H Q I h
 refine wpAny_Call_Name_kw (oo I hg hm hv ?_ hn hdb)
 exact fY (thn (ha pos pz s σ H _ I h) fun us s1 ⟨vs,H1,I1,r1,q1⟩=>hc pz s1 σ H1 vs us Q I1 r1 q1) he hpl
end
section
variable {κ:Type} [DecidableEq κ]
def jC (kvs:List (κ×V)) (k:κ):Option V:=(kvs.find? fun kv=>decide (kv.1=k)).map (·.2)
def mU (kvs:List (κ×V)) (k:κ) (v:V):List (κ×V):=
 if(kvs.any fun kv=>decide (kv.1=k))=true then kvs.map (fun kv=>if kv.1=k then(kv.1,v)else kv)else kvs++[(k,v)]
theorem jd {p:κ×V} {r:List (κ×V)} {k:κ} (e:p.1=k):jC (p::r) k=some p.2:=by simp[jC,aO,e]
theorem jm {p:κ×V} {r:List (κ×V)} {k:κ} (e:¬p.1=k):jC (p::r) k=jC r k:=by simp[jC,aO,e]
theorem kQ (k:κ):∀kvs:List (κ×V),(kvs.any fun kv=>decide (kv.1=k))=(jC kvs k).isSome
 |[]=>rfl
 |p::r=>by
  rw[aP]
  by_cases e:p.1=k
  ·simp only[jd e,ir e,Bool.true_or,Option.isSome_some]
  ·rw[jm e,iI e,Bool.false_or];exact kQ k r
theorem xk (k j:κ) (y:V):∀kvs:List (κ×V),jC (kvs.map fun kv=>if kv.1=k then(kv.1,y)else kv) j=(jC kvs j).map fun x=>if j=k then y else x
 |[]=>rfl
 |p::r=>by
  have ih:=xk k j y r
  rw[aB]
  by_cases h:p.1=k
  ·rw[gX h]
   by_cases e:p.1=j
   ·rw[jd (p:=(p.1,y)) e,jd e,cK,gX (e.symm.trans h)]
   ·rw[jm (p:=(p.1,y)) e,jm e,ih]
  ·rw[gN h]
   by_cases e:p.1=j
   ·rw[jd (p:=p) e,jd e,cK,gN (fun z=>h (e.trans z))]
   ·rw[jm (p:=p) e,jm e,ih]
theorem uD (k j:κ) (y:V):∀kvs:List (κ×V),jC kvs k=none->jC (kvs++[(k,y)]) j=if j=k then some y else jC kvs j
 |[],_=>by
  by_cases e:k=j
  ·rw[gX e.symm];exact jd (p:=(k,y)) e
  ·rw[gN (fun z=>e z.symm)];exact jm (p:=(k,y)) e
 |p::r,hn=>by
  rw[aQ]
  have hk:¬p.1=k:=fun z=>by rw[jd z]at hn;cases hn
  rw[jm hk]at hn
  have ih:=uD k j y r hn
  by_cases e:p.1=j
  ·rw[jd e,jd e,gN (fun z=>hk (e.trans z))]
  ·rw[jm e,jm e,ih]
theorem iR (kvs:List (κ×V)) (k j:κ) (y:V):jC (mU kvs k y) j=if j=k then some y else jC kvs j:=by
 unfold mU
 by_cases a:(kvs.any fun kv=>decide (kv.1=k))=true
 ·rw[gX a,xk]
  rw[kQ]at a
  by_cases e:j=k
  ·obtain⟨x,hx⟩:=cJ.mp a
   rw[gX e,e,hx,cK,gX rfl]
  ·rw[gN e]
   cases jC kvs j with
   |none=>rfl
   |some x=>rw[cK,gN e]
 ·rw[gN a]
  refine uD k j y kvs ?_
  rw[kQ]at a
  cases q:jC kvs k with
  |none=>rfl
  |some x=>rw[q]at a;exact(a rfl).elim
theorem iA (kvs:List (κ×V)) (k:κ) (v:V):(mU kvs k v).length<=kvs.length+ 1:=by
 unfold mU
 split
 ·rw[aC];lia
 ·rw[aN,az,aR];lia
theorem Bu {kvs:List (κ×V)} {k:κ} (v:V) (h:jC kvs k=none):mU kvs k v=kvs++[(k,v)]:=by
 unfold mU
 rw[kQ,h]
 exact gN (by decide)
theorem qA.isSome_eq {o:Option V} {u:Option Value} (r:qA o u):o.isSome=u.isSome:=by
 cases o with
 |none=>cases u with
  |none=>rfl
  |some _=>exact(show False from r).elim
 |some _=>cases u with
  |none=>exact(show False from r).elim
  |some _=>rfl
theorem qA.getD {o:Option V} {u:Option Value} {d:V} {d':Value} (r:qA o u) (rd:iP d d'):iP (o.getD d) (u.getD d'):=by
 cases o with
 |none=>cases u with
  |none=>exact rd
  |some _=>exact(show False from r).elim
 |some _=>cases u with
  |none=>exact(show False from r).elim
  |some _=>exact r
theorem KV.val {kvs:List (κ×V)} {vs:List (κ×Value)} (r:KV kvs vs) (k:κ):qA (jC kvs k) (valueAt vs k):=by
 unfold KV at r
 induction r with
 |nil=>exact True.intro
 |@cons p q ps qs h t ih=>
  obtain⟨h1,h2⟩:=h
  by_cases e:p.1=k
  ·have e':q.1=k:=h1.symm.trans e
   have b:valueAt (q::qs) k=some q.2:=by simp[valueAt,aO,e']
   rw[jd e,b];exact h2
  ·have e':¬q.1=k:=fun z=>e (h1.trans z)
   have b:valueAt (q::qs) k=valueAt qs k:=by simp[valueAt,aO,e']
   rw[jm e,b];exact ih
theorem KV.any {kvs:List (κ×V)} {vs:List (κ×Value)} (r:KV kvs vs) (k:κ):(kvs.any fun kv=>decide (kv.1=k))=vs.any fun kv=>decide (kv.1=k):=by
 unfold KV at r
 induction r with
 |nil=>rfl
 |cons h t ih=>rw[aP,aP,ih,h.1]
theorem KV.repl {kvs:List (κ×V)} {vs:List (κ×Value)} (r:KV kvs vs) (k:κ) {y:V} {u:Value} (ry:iP y u):
  KV (kvs.map fun kv=>if kv.1=k then(kv.1,y)else kv) (vs.map fun kv=>if kv.1=k then(kv.1,u)else kv):=by
 unfold KV at r⊢
 induction r with
 |nil=>exact .nil
 |@cons p q ps qs h t ih=>
  rw[aB,aB]
  refine .cons ?_ ih
  obtain⟨h1,h2⟩:=h
  by_cases e:p.1=k
  ·rw[gX e,gX (h1.symm.trans e)];exact⟨h1,ry⟩
  ·rw[gN e,gN (fun z=>e (h1.trans z))];exact⟨h1,h2⟩
theorem KV.put {kvs:List (κ×V)} {vs:List (κ×Value)} (r:KV kvs vs) (k:κ) {y:V} {u:Value} (ry:iP y u):KV (mU kvs k y) (stored vs k u):=by
 unfold mU stored
 rw[r.any k]
 by_cases e:(vs.any fun kv=>decide (kv.1=k))=true
 ·rw[gX e,gX e];exact r.repl k ry
 ·rw[gN e,gN e];exact Paired.snoc r ⟨rfl,ry⟩
theorem KV.length {kvs:List (κ×V)} {vs:List (κ×Value)} (r:KV kvs vs):kvs.length=vs.length:=Paired.length r
end
theorem uE {P:Program} {w:World} {k:Key} {u:Value} (r:iP (kV k) u):(jq P w).is k u=true:=by
 cases k with
 |inl i=>obtain⟨t,e⟩:=(show ∃t,u=Value.int i t from r);subst e;exact vB P w i t
 |inr x=>obtain⟨t,e⟩:=(show ∃t,u=Value.str x t from r);subst e;exact vC P w x t
theorem uF {P:Program} {w:World}:∀{ks:List Key} {us:List Value},iO (ks.map kV) us->ItemsAre (jq P w) ks us
 |[],_,r=>by rw[aS]at r;cases r;exact .nil
 |k::ks,_,r=>by
  rw[aB]at r
  cases r with
  |cons h t=>exact .cons (uE h) (uF t)
abbrev KT (H:Hp):List (List Key×V)->List (List Key×Addr×Value)->Prop:=Paired fun p q=>p.1=q.1/\H q.2.1=some (.tup (p.1.map kV))/\iP p.2 q.2.2
theorem KT.val {H:Hp} {kvs:List (List Key×V)} {xs:List (List Key×Addr×Value)} (r:KT H kvs xs) (k:List Key):qA (jC kvs k) ((atKey xs k).map (·.2)):=by
 induction r with
 |nil=>exact True.intro
 |@cons p q ps qs h t ih=>
  obtain⟨h1,_,h2⟩:=h
  by_cases e:p.1=k
  ·have e':q.1=k:=h1.symm.trans e
   have b:atKey (q::qs) k=some q.2:=by simp[atKey,aO,e']
   rw[jd e,b];exact h2
  ·have e':¬q.1=k:=fun z=>e (h1.trans z)
   have b:atKey (q::qs) k=atKey qs k:=by simp[atKey,aO,e']
   rw[jm e,b];exact ih
theorem KT.repl {H:Hp} {kvs:List (List Key×V)} {xs:List (List Key×Addr×Value)} (r:KT H kvs xs) (k:List Key) {y:V} {u:Value} (ry:iP y u):
  KT H (kvs.map fun kv=>if kv.1=k then(kv.1,y)else kv) (xs.map (putAt k u)):=by
 induction r with
 |nil=>exact .nil
 |@cons p q ps qs h t ih=>
  rw[aB,aB]
  refine .cons ?_ ih
  obtain⟨h1,h2,h3⟩:=h
  unfold putAt
  by_cases e:p.1=k
  ·rw[gX e,gX (h1.symm.trans e)];exact⟨h1,h2,ry⟩
  ·rw[gN e,gN (fun z=>e (h1.trans z))];exact⟨h1,h2,h3⟩
theorem KT.put {H:Hp} {kvs:List (List Key×V)} {xs:List (List Key×Addr×Value)} (r:KT H kvs xs) (k:List Key) {b:Addr} {y:V} {u:Value} (hb:H b=some (.tup (k.map kV))) (ry:iP y u):
  KT H (mU kvs k y) (storedH xs k b u):=by
 have e:(kvs.any fun kv=>decide (kv.1=k))=(atKey xs k).isSome:=by
  rw[kQ,(r.val k).isSome_eq,cM]
 unfold mU storedH
 rw[e]
 by_cases q:(atKey xs k).isSome=true
 ·rw[gX q,gX q];exact r.repl k ry
 ·rw[gN q,gN q];exact Paired.snoc r ⟨rfl,hb,ry⟩
theorem KT.keeps {H H':Hp} {kvs:List (List Key×V)} {xs:List (List Key×Addr×Value)} (r:KT H kvs xs) (ht:∀b ys,H b=some (.tup ys)->H' b=some (.tup ys)):KT H' kvs xs:=
 Paired.mapP r fun _ _ z=>⟨z.1,ht _ _ z.2.1,z.2.2⟩
section
variable {P:Program} {w:World} {H:Hp} {h:Heap} {a:Addr}
theorem FC {u:HO} (ok:HOk P w H h) (e:Rd H a u):iD P w H h a u:=e.ok ok
theorem zr {kvs:List (Key×V)} (ok:HOk P w H h) (e:Rd H a (.dK kvs)):kvs.length<=sizeLine/\(a==sysModules)=false/\∃vs,KV kvs vs/\h.DictOf (jq P w) a vs:=
 show iD P w H h a (.dK kvs)from FC ok e
theorem vL {kvs:List (Key×V)} (ok:HOk P w H h) (e:H a=some (.dK kvs)):kvs.length<=sizeLine/\(a==sysModules)=false/\∃vs,KV kvs vs/\h.DictOf (jq P w) a vs:=zr ok (.inl e)
theorem uG {ks:List Key} (ok:HOk P w H h) (e:H a=some (.tup (ks.map kV))):(tupleKind (jq P w)).is h ks a:=by
 obtain⟨_,its,r,o,h1,h2,n,h3,_⟩:=(show iD P w H h a (.tup (ks.map kV))from ok a _ e)
 exact⟨o,its.toArray,n,h1,h2,h3,by simpa using uF r⟩
theorem zt {kvs:List (List Key×V)} (ok:HOk P w H h) (e:Rd H a (.dT kvs)):kvs.length<=sizeLine/\(a==sysModules)=false/\
  ∃xs,KT H kvs xs/\h.DictOfH (tupleKind (jq P w)) a xs:=by
 obtain⟨z,y,xs,r,o,es,ep,h1,h2,h3,h4,h5⟩:=(show iD P w H h a (.dT kvs)from FC ok e)
 refine⟨z,y,xs,r,o,es,ep,h1,h2,h3,h4,fun x hx=>?_,h5⟩
 have all:∀{l:List (List Key×V)} {m:List (List Key×Addr×Value)},KT H l m->∀x∈m,(tupleKind (jq P w)).is h x.1 x.2.1:=by
  intro l m q
  induction q with
  |nil=>intro x hx;exact nomatch hx
  |@cons p q ps qs hq t ih=>
   intro x hx
   rcases aj.mp hx with e|hx
   ·subst e
    exact uG ok (by rw[<-hq.1];exact hq.2.1)
   ·exact ih x hx
 exact all r x hx
theorem HR {kvs:List (List Key×V)} (ok:HOk P w H h) (e:H a=some (.dT kvs)):kvs.length<=sizeLine/\(a==sysModules)=false/\
  ∃xs,KT H kvs xs/\h.DictOfH (tupleKind (jq P w)) a xs:=zt ok (.inl e)
end
def xm (H:Hp) (a:Addr) (y:V) (r:Option V):Prop:=
 (∃kvs k,Rd H a (.dK kvs)/\y=kV k/\r=jC kvs k)\/∃kvs k b,Rd H a (.dT kvs)/\y= .ref b/\H b=some (.tup (k.map kV))/\r=jC kvs k
def yW (H:Hp) (a:Addr) (y v:V) (H':Hp):Prop:=
 (∃kvs k,H a=some (.dK kvs)/\y=kV k/\kvs.length<sizeLine/\H'=upd H a (.dK (mU kvs k v)))\/
 ∃kvs k b,H a=some (.dT kvs)/\y= .ref b/\H b=some (.tup (k.map kV))/\kvs.length<sizeLine/\H'=upd H a (.dT (mU kvs k v))
theorem xm.k {H:Hp} {a:Addr} {kvs:List (Key×V)} {k:Key} (e:H a=some (.dK kvs)):xm H a (kV k) (jC kvs k):= .inl ⟨kvs,k,.inl e,rfl,rfl⟩
theorem yW.k {H:Hp} {a:Addr} {kvs:List (Key×V)} {k:Key} {v:V} (e:H a=some (.dK kvs)) (hl:kvs.length<sizeLine):yW H a (kV k) v (upd H a (.dK (mU kvs k v))):= .inl ⟨kvs,k,e,rfl,hl,rfl⟩
section
variable {X:Cx} {pz:AoL} {σ:St} {H:Hp} {s:Shared} {a:Addr} {y v:V} {u r:Value} {o:Option V} {A:Around} {E:EvP}
theorem Inv.big (I:Inv X pz σ H s):sysModules<s.heap.objs.size:=by
 have h:mainGlobals<s.heap.objs.size:=(I.mod.glob.keeps I.bk).lt
 exact cy (by decide) h
theorem zu {Q:EvP} (hu:A.units+ 1<cLine) (I:Inv X pz σ H s) (g:xm H a y (some v)) (ry:iP y u) (h:∀w' s',Inv X pz σ H s'->iP v w'->Q w' s'):
  wpAny (model X.prog X.w) A (getItem (.ref a) u) Q E s:=by
 rcases g with⟨kvs,k,e,ey,l⟩|⟨kvs,k,b,e,ey,eb,l⟩
 ·subst ey
  obtain⟨z,hd,vs,rel,dd⟩:=zr I.hok e
  obtain⟨w',hw,rw'⟩:=qA.some_of (v:=v) (o:=valueAt vs k) (by rw[l];exact rel.val k)
  exact wpAny_getItem_of (uE ry) dd.mapOf hw (h w' _ (I.tok _) rw')
 ·subst ey
  cases(show u=Value.ref b from ry)
  obtain⟨z,hd,xs,rel,dd⟩:=zt I.hok e
  obtain⟨w',hw,rw'⟩:=qA.some_of (v:=v) (o:=(atKey xs k).map (·.2)) (by rw[l];exact rel.val k)
  obtain⟨p,hp,hp2⟩:=cN.mp hw
  refine wpAny_getItem_heap (tupleKind_room_in1 hu) (uG I.hok eb) dd hp ?_
  rw[hp2]
  exact h w' _ (I.tok _) rw'
theorem d_in {Q:EvP} (hu:A.units+ 1<cLine) (I:Inv X pz σ H s) (g:xm H a y o) (ry:iP y u) (h:∀s',Inv X pz σ H s'->Q (.bool o.isSome) s'):
  wpAny (model X.prog X.w) A (compareOp .In u (.ref a)) Q E s:=by
 rcases g with⟨kvs,k,e,ey,l⟩|⟨kvs,k,b,e,ey,eb,l⟩
 ·subst ey
  obtain⟨z,hd,vs,rel,dd⟩:=zr I.hok e
  refine wpAny_in_of (uE ry) hd dd.mapOf ?_
  rw[<-(rel.val k).isSome_eq,<-l]
  exact h _ (I.tok _)
 ·subst ey
  cases(show u=Value.ref b from ry)
  obtain⟨z,hd,xs,rel,dd⟩:=zt I.hok e
  refine wpAny_in_heap (tupleKind_room_in1 hu) (uG I.hok eb) hd dd ?_
  have q:=(rel.val k).isSome_eq
  rw[cM]at q
  rw[<-q,<-l]
  exact h _ (I.tok _)
theorem DH {Q:EvP} (hu:A.units+ 1<cLine) (I:Inv X pz σ H s) (g:xm H a y o) (ry:iP y u) (h:∀s',Inv X pz σ H s'->Q (.bool (!o.isSome)) s'):
  wpAny (model X.prog X.w) A (compareOp .NotIn u (.ref a)) Q E s:=by
 rcases g with⟨kvs,k,e,ey,l⟩|⟨kvs,k,b,e,ey,eb,l⟩
 ·subst ey
  obtain⟨z,hd,vs,rel,dd⟩:=zr I.hok e
  refine wpAny_notIn_of (uE ry) hd dd.mapOf ?_
  rw[<-(rel.val k).isSome_eq,<-l]
  exact h _ (I.tok _)
 ·subst ey
  cases(show u=Value.ref b from ry)
  obtain⟨z,hd,xs,rel,dd⟩:=zt I.hok e
  refine wpAny_notIn_heap (tupleKind_room_in1 hu) (uG I.hok eb) hd dd ?_
  have q:=(rel.val k).isSome_eq
  rw[cM]at q
  rw[<-q,<-l]
  exact h _ (I.tok _)
theorem sL {h':Heap} {t':Nat} {ob:HO} (I:Inv X pz σ H s) (mu:Mut (H a)) (hs:Heap.SameBut a s.heap h') (he:∃q,h'.get? a=some q) (new:iD X.prog X.w (upd H a ob) h' a ob):
  Inv X pz σ (upd H a ob) {s with heap:=h',toks:=t'}:=
 I.write (x:=a) (e:=a) mu (.inl rfl) (fun b q hb z=>(hs.2 b hb).trans z) he new
theorem uH {P:Program} {w:World} {H':Hp} {h':Heap} {kvs:List (Key×V)} {vs:List (Key×Value)} (z:kvs.length<=sizeLine) (hd:(a==sysModules)=false) (rel:KV kvs vs) (dd:h'.DictOf (jq P w) a vs):
  iD P w H' h' a (.dK kvs):=⟨z,hd,vs,rel,dd⟩
theorem zv {H':Hp} {Q:Unit->Shared->Prop} (hu:A.units+ 1<cLine) (I:Inv X pz σ H s) (g:yW H a y v H') (ry:iP y u) (rv:iP v r) (h:∀s',Inv X pz σ H' s'->Q () s'):
  wpAny (model X.prog X.w) A (setItem (.ref a) u r) Q E s:=by
 rcases g with⟨kvs,k,e,ey,l,eH⟩|⟨kvs,k,b,e,ey,eb,l,eH⟩
 ·subst ey eH
  obtain⟨z,hd,vs,rel,dd⟩:=vL I.hok e
  have hz:vs.length<=sizeLine:=by rw[<-rel.length];exact z
  have hl:(mU kvs k v).length<=sizeLine:=by have:=iA kvs k v;lia
  refine wpAny_setItem_pairs (hsz:=hz) (uE ry) dd fun h' dd' hs=>h _ ?_
  have he:∃q,h'.get? a=some q:=let⟨q,_,_,hq,_⟩:=dd';⟨q,hq⟩
  exact sL I (by rw[e];exact True.intro) hs he (uH hl hd (rel.put k rv) dd')
 ·subst ey eH
  cases(show u=Value.ref b from ry)
  obtain⟨z,hd,xs,rel,dd⟩:=HR I.hok e
  have hz:xs.length<=sizeLine:=by rw[<-Paired.length rel];exact z
  have hl:(mU kvs k v).length<=sizeLine:=by have:=iA kvs k v;lia
  refine wpAny_setItem_heap (hsz:=hz) (tupleKind_room_in1 hu) (uG I.hok eb) dd fun h' dd' hs=>h _ ?_
  obtain⟨q,es,ep,hq,h2,h3,h4,_,h5⟩:=dd'
  refine sL I (by rw[e];exact True.intro) hs ⟨q,hq⟩ ⟨hl,hd,_,(rel.put k eb rv).keeps fun c ys ec=>?_,q,es,ep,hq,h2,h3,h4,h5⟩
  rw[gw (ko ec e (fun z=>nomatch z))]
  exact ec
end
section
variable {X:Cx} {pz:AoL} {σ:St} {H:Hp} {s:Shared} {a:Addr} {kvs:List (Key×V)} {k:Key} {u:Value} {A:Around} {E:EvP}
end
def HS (i:Expr):Prop:=∀ov iv,subscripted i false ov iv=operate [ov,iv] (getItem ov iv)
theorem zw {prog:Program} {w:World} {A:Around} {E:EvP} {s:Shared} {env:Env} {value slice:Expr} {pos:Pos} {T id:String} {Q:EvP}
  (hl:typeLookup (.type T) "__getitem__"=pure (some (.builtin id))) (hs:HS slice)
  (h:wpAny (model prog w) A (eval value env) (fun o s₁=>wpAny (model prog w) A (eval slice env) (fun i s₂=>s₂.TypeIs o T/\wpAny (model prog w) A (getItem o i) Q E s₂) E s₁) E s):
  wpAny (model prog w) A (eval (.Subscript value slice pos) env) Q E s:=by
 refine Subscript_ (wpAny_mono h (fun o s₁ h₁=>wpAny_mono h₁ (fun i s₂ h₂=>?_) fun _ _ x=>x) fun _ _ x=>x)
 obtain⟨hT,h₂⟩:=h₂
 unfold subscriptTail
 refine wpAny_bind ?_
 rw[getitemInPython_of_ne hT.not_modules]
 refine wpAny_bind (wpAny_specialOf hT hl ?_)
 have fin:wpAny (model prog w) A (subscripted slice false o i) (fun r s₃=>wpAny (model prog w) A (letTemporaryGo value o r >>= fun _=>pure r) Q E s₃) E s₂:=by
  rw[hs o i]
  exact wpAny_operating (wpAny_mono h₂ (fun r s₃ h₃=>wpAny_bind (wpAny_letTemporaryGo (wpAny_pure h₃))) fun _ _ x=>x)
 first
  |exact wpAny_pure (wpAny_bind fin)
  |exact wpAny_bind (wpAny_pure (wpAny_bind fin))
  |exact wpAny_bind fin
theorem vM {X:Cx} {pz:AoL} {σ:St} {H:Hp} {s:Shared} {a:Addr} {y:V} {o:Option V} (I:Inv X pz σ H s) (g:xm H a y o):s.TypeIs (.ref a) "dict":=by
 rcases g with⟨kvs,k,e,_,_⟩|⟨kvs,k,b,e,_,_,_⟩
 ·obtain⟨_,_,vs,_,dd⟩:=zr I.hok e
  exact dd.typeIs
 ·obtain⟨_,_,xs,_,dd⟩:=zt I.hok e
  exact dd.typeIs
def HU (td ty:TE):TE:=fun σ H Q=>td σ H fun x H1=>ty σ H1 fun y H2=>∃a v,x= .ref a/\xm H2 a y (some v)/\Q v H2
def tDIn (ty td:TE):TE:=fun σ H Q=>ty σ H fun y H1=>td σ H1 fun x H2=>∃a o,x= .ref a/\xm H2 a y o/\Q (.bl o.isSome) H2
def DI (ty td:TE):TE:=fun σ H Q=>ty σ H fun y H1=>td σ H1 fun x H2=>∃a o,x= .ref a/\xm H2 a y o/\Q (.bl (!o.isSome)) H2
def HV (td ty tv:TE):TS:=fun D σ H=>tv σ H fun v H1=>td σ H1 fun x H2=>ty σ H2 fun y H3=>∃a H4,x= .ref a/\yW H3 a y v H4/\D.nx σ H4
section
variable {X:Cx} {o i e value:Expr} {pos pos' tpos:Pos} {td ty tv:TE}
theorem vN (hu:X.A.units+ 1<cLine) (ho:PE X o td) (hi:PE X i ty) (hs:HS i:=by exact fun _ _=>rfl):PE X (.Subscript o i pos) (HU td ty):=by
 intro pz s σ H Q I h
 refine zw eI.lookup hs (thn (ho pz s σ H _ I h) fun u s1 ⟨x,H1,I1,rx,q1⟩=>thn (hi pz s1 σ H1 _ I1 q1) fun iv s2 ⟨y,H2,I2,ry,a,v,ex,g,q2⟩=>?_)
 subst ex
 obtain rfl:u=Value.ref a:=rx
 exact⟨vM I2 g,zu hu I2 g ry fun w' s3 I3 rw'=>⟨v,H2,I3,rw',q2⟩⟩
theorem CA (hu:X.A.units+ 1<cLine) (hi:PE X i ty) (ho:PE X o td):PC X .In i o (tDIn ty td):=by
 intro pz s σ H Q I h
 refine thn (hi pz s σ H _ I h) fun iv s1 ⟨y,H1,I1,ry,q1⟩=>thn (ho pz s1 σ H1 _ I1 q1) fun u s2 ⟨x,H2,I2,rx,a,ov,ex,g,q2⟩=>?_
 subst ex
 obtain rfl:u=Value.ref a:=rx
 exact d_in hu I2 g ry fun s3 I3=>⟨.bl ov.isSome,H2,I3,rfl,q2⟩
theorem zx (hu:X.A.units+ 1<cLine) (hi:PE X i ty) (ho:PE X o td):PC X .NotIn i o (DI ty td):=by
 intro pz s σ H Q I h
 refine thn (hi pz s σ H _ I h) fun iv s1 ⟨y,H1,I1,ry,q1⟩=>thn (ho pz s1 σ H1 _ I1 q1) fun u s2 ⟨x,H2,I2,rx,a,ov,ex,g,q2⟩=>?_
 subst ex
 obtain rfl:u=Value.ref a:=rx
 exact DH hu I2 g ry fun s3 I3=>⟨.bl (!ov.isSome),H2,I3,rfl,q2⟩
theorem nG (hu:X.A.units+ 1<cLine) (ho:PE X o td) (hi:PE X i ty) (hv:PE X value tv) (hs:swapsWith value (some (.Subscript o i pos')) pos.line X.env=pure false):
  PS X (.Assign [.Subscript o i pos'] value pos) (HV td ty tv):=by
 intro pz s σ H D I h
 refine wpAny_Assign_Subscript (thn (hv pz s σ H _ I h) fun r s1 ⟨v,H1,I1,rv,q1⟩=>thn (ho pz s1 σ H1 _ I1 q1) fun u s2 ⟨x,H2,I2,rx,q2⟩=>thn (hi pz s2 σ H2 _ I2 q2) fun iv s3 ⟨y,H3,I3,ry,a,H4,ex,g,q3⟩=>?_) hs
 subst ex
 obtain rfl:u=Value.ref a:=rx
 exact zv hu I3 g ry rv fun s4 I4=>⟨σ,H4,I4,q3⟩
end
theorem Bv {P:Program} {w:World} {H:Hp} (h:Heap) (hb:sysModules<h.objs.size):iD P w H (h.push {cls:= .type "dict",data:= .dict #[]}) h.objs.size (.dK []):=
 ⟨cu _,beq_eq_false_iff_ne.mpr (Ne.symm (cj hb)),[],.nil,Heap.DictOf.new h⟩
def FD:TE:=fun _ H Q=>∀p,H p=none->Q (.ref p) (upd H p (.dK []))
section
variable {X:Cx} {pos:Pos}
theorem oy:PE X (.Dict [] [] pos) FD:=fun pz s σ H Q I h=>
 wpAny_Dict_empty ⟨.ref s.heap.objs.size,_,I.laid (a:=s.heap.objs.size) (o:= .dK []) (t':=s.toks) (fun _ _ q=>fS _ q) (cq _) (Bv s.heap I.big),rfl,h _ (I.hok.fresh (cq _))⟩
end
def km (kvs more:List (Key×V)):List (Key×V):=more.foldl (fun acc kv=>mU acc kv.1 kv.2) kvs
theorem KV.merge:∀{more:List (Key×V)} {rs:List (Key×Value)} {kvs:List (Key×V)} {vs:List (Key×Value)},KV more rs->KV kvs vs->KV (km kvs more) (merged vs rs):=by
 intro more rs kvs vs r
 unfold KV at r
 induction r generalizing kvs vs with
 |nil=>intro q;exact q
 |@cons p q ps qs h t ih=>
  intro r0
  have e:KV (mU kvs p.1 p.2) (stored vs q.1 q.2):=by
   have:=r0.put p.1 h.2
   rw[<-h.1];exact this
  exact ih e
theorem lF:∀(more kvs:List (Key×V)),(km kvs more).length<=kvs.length+more.length
 |[],kvs=>by show kvs.length<=kvs.length+ 0;lia
 |p::r,kvs=>by
  have h1:=lF r (mU kvs p.1 p.2)
  have h2:=iA kvs p.1 p.2
  show(km (mU kvs p.1 p.2) r).length<=_
  rw[az];lia
structure M1 (X:Cx) (o:Expr) (m:Str) (apos:Pos) (e:Expr) (cpos:Pos):Prop where
 base:attributeBase o m X.env (eval o X.env)=eval o X.env
 few:((backTo cpos (starEach [e] X.env)).all (fun x=>!x.1)&&(backToKw cpos (keywordEach [] X.env)).all (fun x=>x.1.isSome)
  &&decide (([e]:List Expr).length+([]:List Keyword).length+(if([]:List Keyword).isEmpty then 0 else 1)<30))=true
 line:(apos.endLine==cpos.line)=true
 trees:backTo cpos (starEach [e] X.env)=[(false,eval e X.env)]
structure M2 (X:Cx) (o:Expr) (m:Str) (apos:Pos) (e f:Expr) (cpos:Pos):Prop where
 base:attributeBase o m X.env (eval o X.env)=eval o X.env
 few:((backTo cpos (starEach [e,f] X.env)).all (fun x=>!x.1)&&(backToKw cpos (keywordEach [] X.env)).all (fun x=>x.1.isSome)
  &&decide (([e,f]:List Expr).length+([]:List Keyword).length+(if([]:List Keyword).isEmpty then 0 else 1)<30))=true
 line:(apos.endLine==cpos.line)=true
 trees:backTo cpos (starEach [e,f] X.env)=[(false,eval e X.env),(false,eval f X.env)]
section
variable {X:Cx} {pz:AoL} {σ:St} {H:Hp} {s:Shared} {a:Addr} {y d:V} {u r:Value} {o:Option V} {A:Around} {E:EvP}
end
section
variable {X:Cx} {o e f:Expr} {apos cpos:Pos} {td ty tx:TE}
end
section
variable {X:Cx} {pz:AoL} {σ:St} {H:Hp} {s:Shared} {a:Addr} {kvs:List (Key×V)} {A:Around} {E:EvP}
end
section
variable {X:Cx} {pz:AoL} {σ:St} {H:Hp} {s:Shared} {a:Addr} {y:V} {u:Value} {A:Around} {E:EvP}
end
end L2.Internal
namespace HT.Internal
open PySem PyProof.Rows
section
open PySem.SeqAt
open PySem.AutoSeq1 (wpAny_loadPart')
open PySem.MeetsSeq PySem.MeetsSeq2 PySem.MeetsSeq3
end
section
variable {prog:Program} {w:World} {A:Around} {E:EvP} {s:Shared}
theorem cat_tup {t b:Addr} {vs ws:List Value} {Q:EvP} (ht:IsTup s.heap t vs.toArray) (hb:IsTup s.heap b ws.toArray) (hv:vs≠[])
  (h1:ws=[]->Q (.ref t) s) (h2:ws≠[]->Q (.ref s.heap.objs.size) {s with heap:=s.heap.push {cls:= .type "tuple",data:= .seq (vs++ws).toArray}})
  (hsz:vs.length+ws.length<=sizeLine):wpAny (model prog w) A (binaryOp .Add (.ref t) (.ref b)) Q E s:=by
 obtain⟨⟨cls,dd,data,sl⟩,ho,hc,n,hd⟩:=id ht
 obtain⟨⟨cls2,dd2,data2,sl2⟩,ho2,hc2,n2,hd2⟩:=id hb
 simp only at hc hd hc2 hd2
 subst hc hd hc2 hd2
 have e:vs.toArray++ws.toArray=(vs++ws).toArray:=by simp
 by_cases hw:ws=[]
 ·exact concat_meets ⟨_,ho,rfl⟩ ⟨_,ho2,rfl⟩ noFill_tuple_add seq_tuple_add eJ eK (eL _ _)
   (tuple_addW1 t b vs.toArray ws.toArray n n2 dd dd2 sl sl2 (by simpa using hv) (by simp[hw])) ⟨ho,ho2,h1 hw⟩
 ·refine concat_meets ⟨_,ho,rfl⟩ ⟨_,ho2,rfl⟩ noFill_tuple_add seq_tuple_add eJ eK (eL _ _)
   (tuple_addW2 t b vs.toArray ws.toArray n n2 dd dd2 sl sl2 (by simpa using hv) (by simpa using hw) (by rw[aT,aT];exact hsz)) ⟨ho,ho2,?_⟩
  rw[e]
  exact h2 hw
def sIx (n d:Nat):Option Int->Nat
 |none=>d
 |some v=>if v<0 then(v+(n:Int)).toNat else min v.toNat n
theorem sIx_none (n d:Nat):sIx n d none=d:=rfl
theorem sIx_nat (n d k:Nat):sIx n d (some (k:Int))=min k n:=by
 show(if(k:Int)<0 then((k:Int)+(n:Int)).toNat else min (k:Int).toNat n)=min k n
 rw[gN (by lia),fA]
theorem FF (n d:Nat) (hd:d<=n) (o:Option Int):sIx n d o<=n:=by
 cases o with
 |none=>exact hd
 |some v=>
  show(if v<0 then(v+(n:Int)).toNat else min v.toNat n)<=n
  by_cases hv:v<0
  ·rw[gX hv];lia
  ·rw[gN hv];exact Nat.min_le_right _ _
theorem zy (v:Int) (n d:Nat):(if v<0 then max (v+(n:Int)) 0 else min v (n:Int))=((sIx n d (some v):Nat):Int):=by
 show(if v<0 then max (v+(n:Int)) 0 else min v (n:Int))=(((if v<0 then(v+(n:Int)).toNat else min v.toNat n):Nat):Int)
 by_cases hv:v<0
 ·simp only[gX hv];lia
 ·simp only[gN hv];lia
theorem yl (lo hi:Option Int) (n:Nat):Builtin.Slice.sliceAdjust lo hi 1 (n:Int)=(((sIx n 0 lo:Nat):Int),((sIx n n hi:Nat):Int)):=by
 have h1:¬((1:Int)<0):=by lia
 unfold Builtin.Slice.sliceAdjust
 simp only[h1,if_false]
 refine Prod.ext ?_ ?_
 ·cases lo with
  |none=>rfl
  |some v=>exact zy v n 0
 ·cases hi with
  |none=>rfl
  |some v=>exact zy v n n
theorem ym (i j:Nat):Builtin.Slice.slicePlaces (i:Int) (j:Int) 1=j-i:=by
 unfold Builtin.Slice.slicePlaces
 have h1:(1:Int)>0:=by lia
 simp only[h1,if_true,Int.ediv_one]
 split<;>lia
theorem sg {v:Value} {o:Option Int} {Q:Option Int->Shared->Prop} (p:IsPart v o) (h:Q o s):wpAny (model prog w) A (Builtin.Slice.slicePartIndex v) Q E s:=by
 cases p with
 |none=>exact slicePart_none h
 |int i t=>exact slicePart_int h
theorem p8 {sl:Addr} {vl vu:Value} {lo hi:Option Int} {n:Nat} {Q:Int×Int×Nat->Shared->Prop} (hs:s.heap.IsSliceOf sl vl vu .none) (pl:IsPart vl lo) (pu:IsPart vu hi)
  (h:Q (((sIx n 0 lo:Nat):Int),1,sIx n n hi-sIx n 0 lo) s):wpAny (model prog w) A (Builtin.Slice.sliceApplied (.ref sl) (pure (n:Int))) Q E s:=by
 obtain⟨os,hos,hcs,hds⟩:=id hs
 unfold Builtin.Slice.sliceApplied Builtin.Slice.sliceFields
 refine wpAny_bind (wpAny_bind (wpAny_field hos hds (x:=vl) rfl (wpAny_bind (wpAny_field hos hds (x:=vu) rfl (wpAny_bind (wpAny_field hos hds (x:= .none) rfl (wpAny_pure ?_)))))))
 refine wpAny_bind (slicePart_none ?_)
 show wpAny _ _ (if((1:Int)==0)=true then _ else _) _ _ s
 rw[gN (by decide)]
 refine wpAny_bind (sg pl (wpAny_bind (sg pu (wpAny_bind (wpAny_pure ?_)))))
 show wpAny _ _ (match Builtin.Slice.sliceAdjust lo hi 1 (n:Int)with|(lo,hi)=>pure (lo,(1:Int),Builtin.Slice.slicePlaces lo hi 1)) _ _ s
 rw[yl lo hi n]
 show wpAny _ _ (pure (((sIx n 0 lo:Nat):Int),(1:Int),Builtin.Slice.slicePlaces ((sIx n 0 lo:Nat):Int) ((sIx n n hi:Nat):Int) 1)) _ _ s
 rw[ym]
 exact wpAny_pure h
theorem Bw (xs:Array Value) (i k:Nat):((aa k).filterMap fun(m:Nat)=>xs[((i:Int)+(m:Int)*1).toNat]?).toArray=((xs.toList.drop i).take k).toArray:=by
 have e:(fun(m:Nat)=>xs[((i:Int)+(m:Int)*1).toNat]?)=fun m=>xs[i+m]?:=by
  funext m
  have:((i:Int)+(m:Int)*1).toNat=i+m:=by lia
  rw[this]
 rw[e]
 have:=pick_run xs i k
 rw[List.filterMap_map]at this
 have e2:((fun x=>xs[x]?)∘fun x=>i+x)=fun m=>xs[i+m]?:=rfl
 rw[e2]at this
 rw[this]
theorem getItem_tuple_cut {t sl:Addr} {items:Array Value} {vl vu:Value} {lo hi:Option Int} {Q:EvP} (ht:IsTup s.heap t items) (hs:s.heap.IsSliceOf sl vl vu .none) (pl:IsPart vl lo) (pu:IsPart vu hi)
  (hw:¬(sIx items.size 0 lo=0/\sIx items.size items.size hi=items.size))
  (h:Q (.ref s.heap.objs.size) {s with heap:=s.heap.push {cls:= .type "tuple",data:= .seq ((items.toList.drop (sIx items.size 0 lo)).take (sIx items.size items.size hi-sIx items.size 0 lo)).toArray}})
  (hsz:items.size<=sizeLine):wpAny (model prog w) A (getItem (.ref t) (.ref sl)) Q E s:=by
 have htake:sizeOk (.seq ((items.toList.drop (sIx items.size 0 lo)).take (sIx items.size items.size hi-sIx items.size 0 lo)).toArray):=by
  show((items.toList.drop (sIx items.size 0 lo)).take (sIx items.size items.size hi-sIx items.size 0 lo)).toArray.size<=sizeLine
  rw[aT,aH,aU,fq]
  lia
 have hj:sIx items.size items.size hi<=items.size:=FF _ _ (cq _) hi
 obtain⟨os,hos,hcs,hds⟩:=id hs
 have hTs:s.TypeIs (.ref sl) "slice":=⟨os,hos,hcs⟩
 unfold getItem
 try with_reducible refine wpAny_holding ?_
 first|refine wpAny_bind (wpAny_pure ?_)|skip
 refine wpAny_bind (wpAny_sequenceKey ht.typeIs (by decide) ?_)
 refine wpAny_bind (wpAny_callSpecial?_slot (name:=Str.ofString "__getitem__") ht.typeIs fZ
  (wpAny_call_entry fZ ht.typeIs entry_tuple_getitem ?_ (args_tuple_getitem _ _)))
 show wpAny _ _ (Builtin.Tuple.tupleItemsOf (.ref t) >>= _) _ _ s
 refine wpAny_bind (tupleItemsOf_ ht ?_)
 refine wpAny_bind (wpAny_typeOf hTs ?_)
 rw[gX (by decide)]
 refine wpAny_bind (p8 hs pl pu ?_)
 have hno:¬((((sIx items.size 0 lo:Nat):Int)==0&&(1:Int)==1&&(sIx items.size items.size hi-sIx items.size 0 lo)==items.size)=true):=by
  intro q
  rw[eZ,eZ]at q
  have q1:((sIx items.size 0 lo:Nat):Int)=0:=eq_of_beq q.1.1
  have q2:sIx items.size items.size hi-sIx items.size 0 lo=items.size:=eq_of_beq q.2
  exact hw ⟨by lia,by lia⟩
 show wpAny _ _ (if(((sIx items.size 0 lo:Nat):Int)==0&&(1:Int)==1&&(sIx items.size items.size hi-sIx items.size 0 lo)==items.size)=true then _ else _) _ _ s
 rw[gN hno,Bw]
 first
  |exact wpAny_bind (m:=Builtin.Tuple.tupleExact _) (wpAny_newObj_type (wpAny_pure ⟨_,rfl,wpAny_pure h⟩) htake)
  |exact wpAny_bind (m:=Builtin.Tuple.tupleExact _) (wpAny_newObj_type (wpAny_bind (wpAny_pure (wpAny_pure ⟨_,rfl,wpAny_pure h⟩))) htake)
  |exact wpAny_bind (wpAny_bind (m:=Builtin.Tuple.tupleExact _) (wpAny_newObj_type (wpAny_pure (wpAny_pure ⟨_,rfl,wpAny_pure h⟩)) htake))
  |exact wpAny_bind (wpAny_bind (m:=Builtin.Tuple.tupleExact _) (wpAny_newObj_type (wpAny_pure ⟨_,rfl,wpAny_pure h⟩) htake))
end
end HT.Internal
namespace L2.Internal
open PySem PySem.Spec PyProof.Rows
abbrev TO:=St->Hp->(Option Int->Hp->Prop)->Prop
def PO (X:Cx) (e:Option Expr) (t:TO):Prop:=
 ∀(pz:AoL) (s:Shared) (σ:St) (H:Hp) (Q:Option Int->Hp->Prop),Inv X pz σ H s->t σ H Q->
  wpAny (model X.prog X.w) X.A (evalPart e X.env) (fun u s'=>∃o H',Inv X pz σ H' s'/\IsPart u o/\Q o H') X.xe s
def DJ:TO:=fun _ H Q=>Q none H
def HW (t:TE):TO:=fun σ H Q=>t σ H fun x H1=>∃i,x= .int i/\Q (some i) H1
theorem yn {ns:List Int}:∀{us:List Value},iO (ns.map V.int) us->IntsAre us ns:=by
 induction ns with
 |nil=>intro us r;rw[aS]at r;cases r;exact .nil
 |cons n ns ih=>
  intro us r
  rw[aB]at r
  cases r with
  |cons r1 r2=>
   obtain⟨t,e⟩:=r1
   subst e
   exact .cons n t (ih r2)
section
variable {X:Cx} {e:Expr} {te:TE} {lo hi:Option Expr} {tl th:TO} {pos p2:Pos}
theorem sM:PO X none DJ:=by
 intro pz s σ H Q I h
 rw[evalPart_none]
 exact wpAny_pure ⟨none,H,I,.none,h⟩
theorem mn (h:PE X e te):PO X (some e) (HW te):=by
 intro pz s σ H Q I hw
 rw[evalPart_some]
 refine thn (h pz s σ H _ I hw) fun u s1 ⟨x,H1,I1,r1,q1⟩=>?_
 obtain⟨i,rfl,q⟩:=q1
 obtain⟨t,rfl⟩:=r1
 exact⟨some i,H1,I1,.int i t,q⟩
def SlR (X:Cx) (r:V->Option Int->Option Int->Hp->VK->Prop):Prop:=
 ∀(pz:AoL) (s:Shared) (σ:St) (H:Hp) (x:V) (v vl vu:Value) (lo hi:Option Int) (sl:Addr) (Q:VK),Inv X pz σ H s->iP x v->s.heap.IsSliceOf sl vl vu .none->IsPart vl lo->IsPart vu hi->r x lo hi H Q->
  ∃T id,typeLookup (.type T) "__getitem__"=pure (some (.builtin id))/\s.TypeIs v T/\wpAny (model X.prog X.w) X.A (getItem v (.ref sl)) (EP X pz σ Q) X.xe s
def tSl (r:V->Option Int->Option Int->Hp->VK->Prop) (te:TE) (tl th:TO):TE:=fun σ H Q=>te σ H fun x H1=>tl σ H1 fun l H2=>th σ H2 fun u H3=>r x l u H3 Q
theorem mV {r:V->Option Int->Option Int->Hp->VK->Prop} (hr:SlR X r) (he:PE X e te) (hl:PO X lo tl) (hu:PO X hi th):PE X (.Subscript e (.Slice lo hi none p2) pos) (tSl r te tl th):=by
 intro pz s σ H Q I h
 refine Subscript_ (thn (he pz s σ H _ I h) fun v s1 ⟨x,H1,I1,r1,q1⟩=>?_)
 refine wpAny_Slice (thn (hl pz s1 σ H1 _ I1 q1) fun vl s2 ⟨l,H2,I2,pl,q2⟩=>thn (hu pz s2 σ H2 _ I2 q2) fun vu s3 ⟨u,H3,I3,pu,q3⟩=>?_)
 rw[evalPart_none]
 refine wpAny_pure ?_
 have I4:Inv X pz σ H3 {s3 with heap:=s3.heap.push {cls:= .type "slice",data:= .fields #[vl,vu,.none]}}:=I3.kept (t':=s3.toks) fun b ob q=>fS _ q
 obtain⟨T,id,hT,ht,hg⟩:=hr pz {s3 with heap:=s3.heap.push {cls:= .type "slice",data:= .fields #[vl,vu,.none]}} σ H3 x v vl vu l u s3.heap.objs.size Q I4 r1 (Heap.IsSliceOf.new ..) pl pu q3
 show wpAny (model X.prog X.w) X.A (subscriptTail e (.Slice lo hi none p2) v (.ref s3.heap.objs.size)) (EP X pz σ Q) X.xe {s3 with heap:=s3.heap.push {cls:= .type "slice",data:= .fields #[vl,vu,.none]}}
 exact tail_any (ops:=[.ref s3.heap.objs.size,v]) ht hT hg (by with_unfolding_all rfl)
def sN (xs:List V) (lo hi:Option Int):List V:=(xs.drop (HT.Internal.sIx xs.length 0 lo)).take (HT.Internal.sIx xs.length xs.length hi-HT.Internal.sIx xs.length 0 lo)
theorem qF (xs:List V) (lo hi:Option Int):(sN xs lo hi).length<=xs.length:=by
 unfold sN
 rw[aH,aU]
 lia
def rSlT (K:PySem.W.Frag):V->Option Int->Option Int->Hp->VK->Prop:=fun x lo hi H Q=>∃a xs,x= .ref a/\SqT K H a xs/\
 ¬(HT.Internal.sIx xs.length 0 lo=0/\HT.Internal.sIx xs.length xs.length hi=xs.length)/\∀p,H p=none->Q (.ref p) (upd H p (.tup (sN xs lo hi)))
theorem FH:SlR X (rSlT X.K):=by
 intro pz s σ H x v vl vu lo hi sl Q I rx hs pl pu h
 obtain⟨a,xs,rfl,hx,hw,q⟩:=h
 cases rx
 obtain⟨its,r,ht,hz⟩:=I.tuple hx
 have hlen:its.toArray.size=xs.length:=by rw[aT];exact r.length.symm
 refine⟨"tuple",_,fZ.lookup,ht.typeIs,?_⟩
 refine HT.Internal.getItem_tuple_cut ht hs pl pu (by rw[hlen];exact hw) ?_ (by rw[hlen];exact hz)
 rw[hlen]
 refine⟨.ref s.heap.objs.size,_,I.laid (t':=s.toks) (o:= .tup (sN xs lo hi)) (fun b ob q=>fS _ q) (cq _) ?_,rfl,q _ (I.hok.fresh (cq _))⟩
 exact⟨ck (qF xs lo hi) hz,_,(r.drop (HT.Internal.sIx xs.length 0 lo)).take (HT.Internal.sIx xs.length xs.length hi-HT.Internal.sIx xs.length 0 lo),yg.new _ _⟩
def HX (K:PySem.W.Frag):R2:=fun x y H Q=>∃a b xs ys,x= .ref a/\y= .ref b/\SqT K H a xs/\SqT K H b ys/\xs≠[]/\xs.length+ys.length<=sizeLine/\
 (ys=[]->Q (.ref a) H)/\(ys≠[]->∀p,H p=none->Q (.ref p) (upd H p (.tup (xs++ys))))
theorem iO.nil_iff {xs:List V} {us:List Value} (r:iO xs us):us=[]↔xs=[]:=by
 cases r with
 |nil=>simp
 |cons _ _=>simp
theorem DM:OpR X (binaryOp .Add) (HX X.K):=by
 intro pz s σ H x y v u Q I rx ry h
 obtain⟨a,b,xs,ys,rfl,rfl,ha,hb,hx,hz,q1,q2⟩:=h
 cases rx
 cases ry
 obtain⟨its,r1,p1,_⟩:=I.tuple ha
 obtain⟨its2,r2,p2,_⟩:=I.tuple hb
 refine HT.Internal.cat_tup p1 p2 (fun z=>hx (r1.nil_iff.mp z)) (fun z=>⟨.ref a,H,I,rfl,q1 (r2.nil_iff.mp z)⟩) (fun z=>?_) (by rw[<-r1.length,<-r2.length];exact hz)
 refine⟨.ref s.heap.objs.size,_,I.laid (t':=s.toks) (o:= .tup (xs++ys)) (fun b ob q=>fS _ q) (cq _) ?_,rfl,q2 (fun w=>z (r2.nil_iff.mpr w)) _ (I.hok.fresh (cq _))⟩
 exact⟨by rw[aN];exact hz,_,r1.append r2,yg.new _ _⟩
end
def ixN (n:Nat) (i:Int):Option Nat:=if 0<=i then(if i<n then some i.toNat else none)else if-(n:Int)<=i then some (i+n).toNat else none
def atI {α:Type} (xs:List α) (i:Int):Option α:=(ixN xs.length i).bind fun j=>xs[j]?
theorem zA {n:Nat} {i:Int} {j:Nat} (h:ixN n i=some j):seqIndex? i n=some j/\j<n/\-(n:Int)<=i/\i<n:=by
 unfold ixN at h
 by_cases h0:0<=i
 ·rw[gX h0]at h
  by_cases h1:i<n
  ·rw[gX h1]at h
   have e:i.toNat=j:=cH.inj h
   exact⟨by rw[seqIndex_of h0 h1,e],by lia,by lia,h1⟩
  ·rw[gN h1]at h;cases h
 ·rw[gN h0]at h
  by_cases h1: -(n:Int)<=i
  ·rw[gX h1]at h
   have e:(i+n).toNat=j:=cH.inj h
   exact⟨by rw[seqIndex_neg (by lia) h1,e],by lia,h1,by lia⟩
  ·rw[gN h1]at h;cases h
theorem vO {α:Type} {xs:List α} {i:Int} {v:α} (h:atI xs i=some v):∃j,seqIndex? i xs.length=some j/\xs[j]?=some v/\j<xs.length/\-(xs.length:Int)<=i/\i<xs.length:=by
 unfold atI at h
 cases e:ixN xs.length i with
 |none=>rw[e]at h;cases h
 |some j=>
  rw[e]at h
  obtain⟨h1,h2,h3,h4⟩:=zA e
  exact⟨j,h1,h,h2,h3,h4⟩
theorem gv {α:Type} {xs:List α} {j:Nat} {v:α} (h:xs[j]?=some v):atI xs (j:Int)=some v:=by
 have hj:j<xs.length:=(au.mp h).1
 have e:ixN xs.length (j:Int)=some j:=by
  unfold ixN
  rw[gX (by lia),gX (by lia)];simp
 unfold atI;rw[e];exact h
def DN (b:Expr):Prop:=∀o i,subscripted b false o i=operate [o,i] (getItem o i)
def IxR (X:Cx) (r:R2):Prop:=
 ∀(value slice:Expr) (pz:AoL) (s:Shared) (σ:St) (H:Hp) (x y:V) (v u:Value) (Q:VK),Inv X pz σ H s->iP x v->iP y u->r x y H Q->
  subscripted slice false v u=operate [v,u] (getItem v u)->wpAny (model X.prog X.w) X.A (subscriptTail value slice v u) (EP X pz σ Q) X.xe s
def MtR (X:Cx) (id:String) (r:V->List V->Hp->VK->Prop):Prop:=
 ∀(pz:AoL) (s:Shared) (σ:St) (H:Hp) (x:V) (xs:List V) (v:Value) (us:List Value) (Q:VK),Inv X pz σ H s->iP x v->iO xs us->r x xs H Q->
  wpAny (model X.prog X.w) X.A (call (.builtin id) (v::us)) (EP X pz σ Q) X.xe s
section
variable {X:Cx} {a b:Expr} {ta tb:TE} {pos:Pos}
theorem gC {r:R2} (hr:IxR X r) (ha:PE X a ta) (hb:PE X b tb) (hs:DN b:=by exact fun _ _=>rfl):PE X (.Subscript a b pos) (tOp r ta tb):=by
 intro pz s σ H Q I h
 exact Subscript_ (HN ha hb I h fun v u s2 x y H2 I2 rx ry q=>hr a b pz s2 σ H2 x y v u Q I2 rx ry q (hs _ _))
def rIxL (K:PySem.W.Frag):R2:=fun x y H Q=>∃p xs i v,x= .ref p/\y= .int i/\SqL K H p xs/\atI xs i=some v/\Q v H
def rIxT (K:PySem.W.Frag):R2:=fun x y H Q=>∃p xs i v,x= .ref p/\y= .int i/\SqT K H p xs/\atI xs i=some v/\Q v H
def rIxS:R2:=fun x y H Q=>∃z i c,x= .str z/\y= .int i/\z.length<=sizeLine/\atI z.cps.toList i=some c/\Q (.str ⟨#[c]⟩) H
theorem zB:IxR X (rIxL X.K):=by
 intro value slice pz s σ H x y v u Q I rx ry h hs
 obtain⟨p,xs,i,z,rfl,rfl,hq,he,q⟩:=h
 cases rx
 obtain⟨t,rfl⟩:=ry
 obtain⟨its,r,pl,hz⟩:=I.list hq
 obtain⟨j,h1,h2,h3,h4,h5⟩:=vO he
 obtain⟨w,ew,rw'⟩:=r.get h2
 have hl:=r.length
 have hn:=rY
 have fin:EP X pz σ Q w s:=⟨z,H,I,rw',q⟩
 by_cases h0:0<=i
 ·have hj:i.toNat=j:=by
   rw[seqIndex_of h0 h5]at h1
   exact cH.inj h1
  exact item_listR pl.isList h0 (by lia) (by rw[hj];simpa using ew) fin hs
 ·have hj:(i+(its.toArray.size:Int)).toNat=j:=by
   rw[seqIndex_neg (by lia) h4]at h1
   rw[aT,<-hl]
   exact cH.inj h1
  exact subscriptTail_builtinR (x:=w) pl.isList.typeIs slot_list_getitem.lookup
   (wpAny_getItem_list_neg (Q:=fun r s'=>r=w/\EP X pz σ Q r s') pl.isList (by lia) (by rw[aT]<;>lia) (by lia) (by rw[hj];simpa using ew) ⟨rfl,fin⟩) hs
theorem FI:IxR X (rIxT X.K):=by
 intro value slice pz s σ H x y v u Q I rx ry h hs
 obtain⟨p,xs,i,z,rfl,rfl,hq,he,q⟩:=h
 cases rx
 obtain⟨t,rfl⟩:=ry
 obtain⟨its,r,pl,hz⟩:=I.tuple hq
 obtain⟨j,h1,h2,h3,h4,h5⟩:=vO he
 obtain⟨w,ew,rw'⟩:=r.get h2
 have hl:=r.length
 have hn:=rY
 have fin:EP X pz σ Q w s:=⟨z,H,I,rw',q⟩
 exact subscriptTail_builtinR (x:=w) pl.typeIs slot_tuple_getitem.lookup
  (getItem_tuple (j:=j) (Q:=fun r s'=>r=w/\EP X pz σ Q r s') pl (by lia) (by lia) (by rw[aT,<-hl];exact h1) (by simpa using ew) ⟨rfl,fin⟩) hs
theorem zC:IxR X rIxS:=by
 intro value slice pz s σ H x y v u Q I rx ry h hs
 obtain⟨z,i,c,rfl,rfl,hz,he,q⟩:=h
 obtain⟨t,rfl⟩:=rx
 obtain⟨t',rfl⟩:=ry
 obtain⟨j,h1,h2,h3,h4,h5⟩:=vO he
 have hl:z.cps.toList.length=z.length:=by simp[Str.length]
 rw[hl]at h1 h4 h5
 have hn:=rY
 exact tail_any (typeIs_str s z t) slot_str_getitem.lookup (getItem_str (c:=c) (by
  have e1:decide (i< -(2^63:Int))=false:=iI (by lia)
  have e2:decide (i≥2^63)=false:=iI (by lia)
  rw[e1,e2,Bool.or_false]) (by rw[h1];simpa using h2) ⟨.str ⟨#[c]⟩,H,I.tok _,⟨_,rfl⟩,q⟩) hs
theorem yo (its:List Value) (n j:Nat) (u:Value):Obj.mapSeq (·.setIfInBounds j u) {cls:= .type "list",data:= .seq its.toArray n}={cls:= .type "list",data:= .seq (its.set j u).toArray n}:=by
 simp[Obj.mapSeq]
theorem Inv.lst {pz:AoL} {σ:St} {H:Hp} {s:Shared} {p:Addr} {xs:List V} (I:Inv X pz σ H s) (h:H p=some (.lst xs)):
  ∃(its:List Value) (n:Nat),iO xs its/\s.heap.get? p=some {cls:= .type "list",data:= .seq its.toArray n}/\xs.length<=sizeLine:=by
 obtain⟨z,its,n,r,e⟩:=I.hok p _ h
 exact⟨its,n,r,e,z⟩
theorem Inv.lstUpd {pz:AoL} {σ:St} {H:Hp} {s:Shared} {p:Addr} {xs ys:List V} {its its':List Value} {n n':Nat} {f:Obj->Obj} (I:Inv X pz σ H s) (h:H p=some (.lst xs))
  (ho:s.heap.get? p=some {cls:= .type "list",data:= .seq its.toArray n}) (hf:f {cls:= .type "list",data:= .seq its.toArray n}={cls:= .type "list",data:= .seq its'.toArray n'}) (r:iO ys its') (hz:ys.length<=sizeLine) (t:Nat):
  Inv X pz σ (upd H p (.lst ys)) {s with heap:=s.heap.update p f,toks:=t}:=by
 have e:(s.heap.update p f).get? p=some {cls:= .type "list",data:= .seq its'.toArray n'}:=by
  rw[fW f ho (by rw[hf]<;>rfl),hf]
 refine I.write (x:=p) (e:=p) (by rw[h];trivial) (.inl rfl) (fun b u hb q=>(fX _ _ (Ne.symm hb)).trans q) ⟨_,e⟩ ?_
 exact⟨hz,its',n',r,e⟩
def HY:V->V->V->Hp->(Hp->Prop)->Prop:=fun o i v H Q=>∃p xs k j,o= .ref p/\i= .int k/\H p=some (.lst xs)/\ixN xs.length k=some j/\Q (upd H p (.lst (xs.set j v)))
theorem Bx:JD X HY:=by
 intro pz s σ H o i v ov iv u Q I ro ri rv h
 obtain⟨p,xs,k,j,rfl,rfl,hp,hj,q⟩:=h
 cases ro
 obtain⟨t,rfl⟩:=ri
 obtain⟨its,n,r,ho,hz⟩:=I.lst hp
 obtain⟨h1,h2,h3,h4⟩:=zA hj
 have hl:=r.length
 have hn:=rY
 have I':Inv X pz σ (upd H p (.lst (xs.set j v))) {s with heap:=s.heap.update p (Obj.mapSeq (·.setIfInBounds j u))}:=
  I.lstUpd hp ho (yo its n j u) (r.set rv j) (by rw[aV];exact hz) s.toks
 by_cases h0:0<=k
 ·have hk:k.toNat=j:=by
   rw[seqIndex_of h0 h4]at h1
   exact cH.inj h1
  exact PySem.W.ki_setAt ho h0 (by lia) (by rw[aT,<-hl];exact h4) (by rw[hk];exact⟨_,I',q⟩)
 ·have hk:(k+(its.toArray.size:Int)).toNat=j:=by
   rw[seqIndex_neg (by lia) h3]at h1
   rw[aT,<-hl]
   exact cH.inj h1
  exact PySem.W.ki_setBack ho (by lia) (by rw[aT,<-hl];exact h3) (by lia) (by rw[hk];exact⟨_,I',q⟩)
theorem uI (lo hi:Option Int) (n:Nat):(sliceBounds lo hi none n).1=((HT.Internal.sIx n 0 lo:Nat):Int)/\(sliceBounds lo hi none n).2.1=((HT.Internal.sIx n n hi:Nat):Int)/\(sliceBounds lo hi none n).2.2=1:=by
 refine⟨?_,?_,rfl⟩
 ·cases lo with
  |none=>simp[sliceBounds,HT.Internal.sIx]
  |some i=>
   simp only[sliceBounds,HT.Internal.sIx,Option.getD_none,show(1:Int)>0 by decide,if_true]
   by_cases h:i<0
   ·simp only[h,if_true]<;>lia
   ·simp only[h,if_false]<;>lia
 ·cases hi with
  |none=>simp[sliceBounds,HT.Internal.sIx]
  |some i=>
   simp only[sliceBounds,HT.Internal.sIx,Option.getD_none,show(1:Int)>0 by decide,if_true]
   by_cases h:i<0
   ·simp only[h,if_true]<;>lia
   ·simp only[h,if_false]<;>lia
theorem sO (its:List Value) (lo hi:Option Int):slicePick its.toArray lo hi none=((its.drop (HT.Internal.sIx its.length 0 lo)).take (HT.Internal.sIx its.length its.length hi-HT.Internal.sIx its.length 0 lo)).toArray:=by
 obtain⟨h1,h2,h3⟩:=uI lo hi its.toArray.size
 unfold slicePick
 rw[h1,h2,h3]
 simp only[sliceRange_one,pick_run,aT]<;>rfl
def rSlL (K:PySem.W.Frag):V->Option Int->Option Int->Hp->VK->Prop:=fun x lo hi H Q=>∃a xs,x= .ref a/\SqL K H a xs/\∀p,H p=none->Q (.ref p) (upd H p (.lst (sN xs lo hi)))
theorem vP:SlR X (rSlL X.K):=by
 intro pz s σ H x v vl vu lo hi sl Q I rx hs pl pu h
 obtain⟨a,xs,rfl,hx,q⟩:=h
 cases rx
 obtain⟨its,r,ht,hz⟩:=I.list hx
 have hlen:=r.length
 refine⟨"list",_,slot_list_getitem.lookup,ht.isList.typeIs,?_⟩
 refine wpAny_getItem_list_slice ht.isList hs pl pu .none (by simp) ?_ (by rw[aT]<;>lia)
 rw[sO,<-hlen]
 refine⟨.ref s.heap.objs.size,_,I.laid (t':=s.toks) (o:= .lst (sN xs lo hi)) (fun b ob q=>fS _ q) (cq _) ?_,rfl,q _ (I.hok.fresh (cq _))⟩
 exact⟨ck (qF xs lo hi) hz,_,0,(r.drop (HT.Internal.sIx xs.length 0 lo)).take (HT.Internal.sIx xs.length xs.length hi-HT.Internal.sIx xs.length 0 lo),fO _ rfl⟩
def nH:V->Bool
 | .non=>true
 | .bl _=>true
 | .int _=>true
 | .str _=>true
 |_=>false
def eqV:V->V->Bool
 | .non,.non=>true
 | .bl a,.bl b=>a==b
 | .bl a,.int b=>(if a then 1 else 0)==b
 | .int a,.bl b=>a==(if b then 1 else 0)
 | .int a,.int b=>a==b
 | .str a,.str b=>a==b
 |_,_=>false
theorem xn {A:Around} {s:Shared} {y x:V} {u v:Value} (ry:iP y u) (rx:iP x v) (fy:nH y=true) (fx:nH x=true):SeqAt.EqAt A s u v (eqV y x):=by
 cases y with
 |non=>
  cases ry
  cases x with
  |non=>cases rx;exact SeqAt.EqAt.same _
  |bl b=>cases rx;exact SeqAt.EqAt.none_bool b
  |int b=>obtain⟨t,rfl⟩:=rx;exact SeqAt.EqAt.none_int b t
  |str b=>obtain⟨t,rfl⟩:=rx;exact SeqAt.EqAt.none_str b t
  |_=>exact absurd (show false=true from fx) eX
 |bl a=>
  cases ry
  cases x with
  |non=>cases rx;exact SeqAt.EqAt.bool_none a
  |bl b=>cases rx;exact SeqAt.EqAt.bool_bool a b
  |int b=>obtain⟨t,rfl⟩:=rx;exact SeqAt.EqAt.bool_int a b t
  |str b=>obtain⟨t,rfl⟩:=rx;exact SeqAt.EqAt.bool_str a b t
  |_=>exact absurd (show false=true from fx) eX
 |int a=>
  obtain⟨t',rfl⟩:=ry
  cases x with
  |non=>cases rx;exact SeqAt.EqAt.int_none a t'
  |bl b=>cases rx;exact SeqAt.EqAt.int_bool a t' b
  |int b=>obtain⟨t,rfl⟩:=rx;exact SeqAt.EqAt.int_int a t' b t
  |str b=>obtain⟨t,rfl⟩:=rx;exact SeqAt.EqAt.int_str a t' b t
  |_=>exact absurd (show false=true from fx) eX
 |str a=>
  obtain⟨t',rfl⟩:=ry
  cases x with
  |non=>cases rx;exact SeqAt.EqAt.str_none a t'
  |bl b=>cases rx;exact SeqAt.EqAt.str_bool a t' b
  |int b=>obtain⟨t,rfl⟩:=rx;exact SeqAt.EqAt.str_int a t' b t
  |str b=>obtain⟨t,rfl⟩:=rx;exact SeqAt.EqAt.str_str a t' b t
  |_=>exact absurd (show false=true from fx) eX
 |_=>exact absurd (show false=true from fy) eX
def eqU (x:V) (u:Value):Bool:=match u with
 | .none=>eqV .non x
 | .bool b=>eqV (.bl b) x
 | .int i _=>eqV (.int i) x
 | .str z _=>eqV (.str z) x
 |_=>false
theorem CC {x y:V} {u:Value} (r:iP y u) (f:nH y=true):eqU x u=eqV y x:=by
 cases y with
 |non=>cases r;rfl
 |bl b=>cases r;rfl
 |int i=>obtain⟨t,rfl⟩:=r;rfl
 |str z=>obtain⟨t,rfl⟩:=r;rfl
 |_=>exact absurd (show false=true from f) eX
theorem vQ {x:V}:∀{xs:List V} {us:List Value},iO xs us->xs.all nH=true->us.any (eqU x)=xs.any fun y=>eqV y x
 |_,_,.nil,_=>rfl
 |y::xs,u::us,.cons r t,f=>by
  rw[aW,eZ]at f
  rw[aP,aP,CC r f.1,vQ t f.2]
theorem sP {A:Around} {s:Shared} {x:V} {v:Value} (rx:iP x v) (fx:nH x=true):∀{xs:List V} {us:List Value},iO xs us->xs.all nH=true->∀u∈us,SeqAt.EqAt A s u v (eqU x u)
 |_,_,.nil,_=>fun u hu=>by cases hu
 |y::xs,u::us,.cons r t,f=>fun u' hu=>by
  rw[aW,eZ]at f
  rcases aj.mp hu with rfl|hu
  ·rw[CC r f.1];exact xn r rx f.1 fx
  ·exact sP rx fx t f.2 u' hu
def inV (x:V) (xs:List V):Bool:=xs.any fun y=>eqV y x
def rIn (K:PySem.W.Frag) (neg:Bool):R2:=fun x y H Q=>∃p xs,y= .ref p/\(SqL K H p xs\/SqT K H p xs)/\nH x=true/\xs.all nH=true/\Q (.bl (if neg then !inV x xs else inV x xs)) H
theorem uJ:OpR X (compareOp .In) (rIn X.K false):=by
 intro pz s σ H x y v u Q I rx ry h
 obtain⟨p,xs,rfl,hq,fx,fs,q⟩:=h
 cases ry
 rcases hq with hq|hq
 ·obtain⟨its,r,pl,hz⟩:=I.list hq
  refine SeqAt.in_listAt (eqU x) pl.isList (fun w hw=>sP rx fx r fs w (by simpa using hw)) ⟨.bl _,H,I,rfl,?_⟩
  rw[show its.toArray.any (eqU x)=its.any (eqU x) by simp,vQ r fs]
  exact q
 ·obtain⟨its,r,pl,hz⟩:=I.tuple hq
  refine SeqAt.in_tupleAt (eqU x) pl (fun w hw=>sP rx fx r fs w (by simpa using hw)) ⟨.bl _,H,I,rfl,?_⟩
  rw[show its.toArray.any (eqU x)=its.any (eqU x) by simp,vQ r fs]
  exact q
theorem iG:kT X (.builtin "len") (fun xs H Q=>∃p ys,xs=[.ref p]/\(SqL X.K H p ys\/SqT X.K H p ys)/\Q (.int ys.length) H):=by
 intro pz s σ H xs us Q I r h
 obtain⟨p,ys,rfl,hq,q⟩:=h
 obtain⟨u,rfl,rx⟩:=m8 r
 cases rx
 have hn:=rY
 rcases hq with hq|hq
 ·obtain⟨its,r',pl,hz⟩:=I.list hq
  have hlen:=r'.length
  exact Calls.call_len_list pl.isList (by simp only[aT]<;>lia) ⟨.int ys.length,H,I.tok _,⟨s.toks+ 1,by rw[aT,hlen]⟩,q⟩
 ·obtain⟨its,r',pl,hz⟩:=I.tuple hq
  have hlen:=r'.length
  exact len_tuple pl (by simp only[aT]<;>lia) ⟨.int ys.length,H,I.tok _,⟨s.toks+ 1,by rw[aT,hlen]⟩,q⟩
theorem pR:kT X (.builtin "len") (fun xs H Q=>∃z,xs=[.str z]/\z.length<=sizeLine/\Q (.int z.length) H):=by
 intro pz s σ H xs us Q I r h
 obtain⟨z,rfl,hz,q⟩:=h
 obtain⟨u,rfl,t,rfl⟩:=m8 r
 have hn:=rY
 exact len_str (by lia) ⟨.int z.length,H,I.tok _,⟨_,rfl⟩,q⟩
theorem pT:kT X (.type "list") (fun xs H Q=>∃p ys,xs=[.ref p]/\(SqL X.K H p ys\/SqT X.K H p ys)/\∀l,H l=none->Q (.ref l) (upd H l (.lst ys))):=by
 intro pz s σ H xs us Q I r h
 obtain⟨p,ys,rfl,hq,q⟩:=h
 obtain⟨u,rfl,rx⟩:=m8 r
 cases rx
 have fin:∀(its:List Value),iO ys its->ys.length<=sizeLine->∀(h':Heap) (c':Nat),(∀b o',s.heap.get? b=some o'->h'.get? b=some o')->
   h'.get? s.heap.objs.size=some {cls:= .type "list",dict:=none,data:= .seq its.toArray c',slots:=#[]}->EP X pz σ Q (.ref s.heap.objs.size) {s with heap:=h'}:=fun its r' hz h' c' kp e=>
  ⟨.ref s.heap.objs.size,_,I.laid (t':=s.toks) kp (cq _) (show iD X.prog X.w _ h' _ (.lst ys)from⟨hz,its,c',r',e⟩),rfl,q _ (I.hok.fresh (cq _))⟩
 rcases hq with hq|hq
 ·obtain⟨its,r',pl,hz⟩:=I.list hq
  have hlen:=r'.length
  obtain⟨o,ho,hc,n,hd⟩:=pl.isList
  exact call_list_seq p (.inl rfl) ho hc hd (fun h' c' kp e=>fin its r' hz h' c' kp e) (by simp only[aT]<;>lia)
 ·obtain⟨its,r',pl,hz⟩:=I.tuple hq
  have hlen:=r'.length
  obtain⟨o,ho,hc,n,hd⟩:=pl
  exact call_list_seq p (.inr rfl) ho hc hd (fun h' c' kp e=>fin its r' hz h' c' kp e) (by simp only[aT]<;>lia)
theorem iQ:kT X (.type "tuple") (fun xs H Q=>∃p ys,xs=[.ref p]/\((SqL X.K H p ys/\∀l,H l=none->Q (.ref l) (upd H l (.tup ys)))\/(SqT X.K H p ys/\Q (.ref p) H))):=by
 intro pz s σ H xs us Q I r h
 obtain⟨p,ys,rfl,h⟩:=h
 obtain⟨u,rfl,rx⟩:=m8 r
 cases rx
 rcases h with⟨hq,q⟩|⟨hq,q⟩
 ·obtain⟨its,r',pl,hz⟩:=I.list hq
  have hlen:=r'.length
  refine call_tuple_list pl.isList (fun h' kp=>?_) (by simp only[aT]<;>lia)
  have I1:Inv X pz σ H {s with heap:=h'}:=I.kept (t':=s.toks) kp
  have I2:Inv X pz σ (upd H h'.objs.size (.tup ys)) {s with heap:=h'.push {cls:= .type "tuple",data:= .seq its.toArray}}:=
   I1.laid (t':=s.toks) (fun b o e=>fS _ e) (cq _) (show iD X.prog X.w _ _ _ (.tup ys)from⟨hz,its,r',yg.new _ _⟩)
  exact⟨.ref h'.objs.size,_,I2,rfl,q _ (I1.hok.fresh (cq _))⟩
 ·obtain⟨its,r',pl,hz⟩:=I.tuple hq
  exact call_tuple_same pl ⟨.ref p,H,I,rfl,q⟩
def tyV (K:PySem.W.Frag) (T:String) (x:V) (H:Hp):Prop:=match x with
 | .str _=>T="str"
 | .int _=>T="int"
 | .ref p=>(T="list"/\∃xs,SqL K H p xs)\/(T="tuple"/\∃o,K.lookup p=some o/\o.cls= .type "tuple"/\o.dict=none)\/
   (T="dict"/\((∃kvs,H p=some (.dK kvs))\/∃kvs,H p=some (.dT kvs)))\/(T="set"/\∃S n,H p=some (.set S n))
 |_=>False
theorem CD {pz:AoL} {σ:St} {H:Hp} {s:Shared} {T:String} {x:V} {v:Value} (I:Inv X pz σ H s) (r:iP x v) (ty:tyV X.K T x H):
  s.TypeIs v T/\∀a,v= .ref a->∃ob,s.heap.get? a=some ob/\ob.dict=none:=by
 cases x with
 |str z=>
  obtain⟨t,rfl⟩:=r
  cases(show T="str" from ty)
  exact⟨typeIs_str s z t,fun _ e=>nomatch e⟩
 |int i=>
  obtain⟨t,rfl⟩:=r
  cases(show T="int" from ty)
  exact⟨typeIs_int s i t,fun _ e=>nomatch e⟩
 |ref p=>
  cases r
  rcases ty with⟨rfl,xs,hq⟩|⟨rfl,o,hk,hc,hd⟩|⟨rfl,hk⟩|⟨rfl,S,n,hk⟩
  ·obtain⟨its,_,pl,_⟩:=I.list hq
   refine⟨pl.isList.typeIs,fun a e=>?_⟩
   cases e
   obtain⟨o,n,e,c,hd,_⟩:=pl
   exact⟨o,e,hd⟩
  ·refine⟨⟨o,I.kIn p o hk,hc⟩,fun a e=>?_⟩
   cases e
   exact⟨o,I.kIn _ o hk,hd⟩
  ·have z:∃o,s.heap.get? p=some o/\o.ExactDict:=by
    rcases hk with⟨kvs,hk⟩|⟨kvs,hk⟩
    ·obtain⟨_,_,_,_,o,_,_,e,ex,_⟩:=I.hok p _ hk
     exact⟨o,e,ex⟩
    ·obtain⟨_,_,_,_,o,_,_,e,ex,_⟩:=I.hok p _ hk
     exact⟨o,e,ex⟩
   obtain⟨o,e,ex⟩:=z
   refine⟨⟨o,e,ex.1⟩,fun a e2=>?_⟩
   cases e2
   exact⟨o,e,ex.2.1⟩
  ·obtain⟨o,_,_,_,e,ex,_⟩:=I.hok p _ hk
   refine⟨⟨o,e,ex.1⟩,fun a e2=>?_⟩
   cases e2
   exact⟨o,e,ex.2.1⟩
 |_=>exact False.elim ty
def tBM0 (K:PySem.W.Frag) (T:String) (r:V->List V->Hp->VK->Prop) (to:TE):TE:=fun σ H Q=>to σ H fun x H1=>tyV K T x H1/\r x [] H1 Q
def tBM (K:PySem.W.Frag) (T:String) (r:V->List V->Hp->VK->Prop) (to:TE) (t:TA):TE:=fun σ H Q=>to σ H fun x H1=>tyV K T x H1/\t σ H1 fun xs H2=>r x xs H2 Q
variable {o e:Expr} {es:List Expr} {to:TE} {t:TA} {name:Str} {apos cpos:Pos} {T id:String} {r:V->List V->Hp->VK->Prop}
theorem xo (pa:PlainAttrs T) (slot:Slot T name id) (hty:typeOf (.builtin id)=pure (.type "method_descriptor")) (hm:MtR X id r) (ho:PE X o to)
  (hbase:autoParam (attributeBase o name X.env (eval o X.env)=eval o X.env) auR._auto_1) (hline:autoParam ((apos.endLine==cpos.line)=true) auR._auto_1):PE X (.Call (.Attribute o name apos) [] [] cpos) (tBM0 X.K T r to):=by
 intro pz s σ H Q I h
 refine wpAny_Call_method0_late hbase hline (thn (ho pz s σ H _ I h) fun v s1 ⟨x,H1,I1,r1,ty,q1⟩=>?_)
 obtain⟨h1,h2⟩:=CD I1 r1 ty
 exact⟨T,id,pa,slot,hty,h1,h2,Calls.callWith_builtin rfl (PySem.evalArgs_none (hm pz s1 σ H1 x [] v [] Q I1 r1 .nil q1))⟩
theorem jF (pa:PlainAttrs T) (slot:Slot T name id) (hty:typeOf (.builtin id)=pure (.type "method_descriptor")) (hm:MtR X id r) (ho:PE X o to) (ha:PA X (e::es) t)
  (hbase:autoParam (attributeBase o name X.env (eval o X.env)=eval o X.env) auR._auto_1)
  (hfew:((backTo cpos (starEach (e::es) X.env)).all (fun x=>!x.1)&&(backToKw cpos (keywordEach [] X.env)).all (fun x=>x.1.isSome)
   &&decide ((e::es).length+([]:List Keyword).length+(if([]:List Keyword).isEmpty then 0 else 1)<30))=true:=by rfl)
  (hline:autoParam ((apos.endLine==cpos.line)=true) auR._auto_1) (hs:autoParam (starEach (e::es) X.env=(false,eval e X.env)::starEach es X.env) auR._auto_1) (hplain:autoParam ((backTo cpos (starEach es X.env)).any (·.1)=false) auR._auto_1):
  PE X (.Call (.Attribute o name apos) (e::es) [] cpos) (tBM X.K T r to t):=by
 intro pz s σ H Q I h
 refine wpAny_Call_method_late hbase hfew hline rfl (thn (ho pz s σ H _ I h) fun v s1 ⟨x,H1,I1,r1,ty,q1⟩=>?_)
 obtain⟨h1,h2⟩:=CD I1 r1 ty
 refine⟨T,id,pa,slot,hty,h1,h2,?_⟩
 have hA:=ha cpos pz s1 σ H1 _ I1 q1
 rw[hs]at hA⊢
 refine Calls.callWith_builtin (by show(false||(backTo cpos (starEach es X.env)).any (·.1))=false;rw[hplain]<;>rfl) (Calls.evalArgs_plain ?_)
 exact thn hA fun us s2 ⟨vs,H2,I2,r2,q2⟩=>hm pz s2 σ H2 x vs v us Q I2 r1 r2 q2
end
def MtM (X:Cx) (id:String) (r:V->List V->Hp->VK->Prop):Prop:=
 ∀(pz:AoL) (s:Shared) (σ:St) (H:Hp) (x:V) (xs:List V) (v:Value) (us:List Value) (Q:VK),Inv X pz σ H s->iP x v->iO xs us->r x xs H Q->
  wpAny (model X.prog X.w) X.A (call (.builtin id) (v::us)) (EP X pz σ Q) X.xe s
theorem iO.one:∀{x:V} {us:List Value},iO [x] us->∃u,us=[u]/\iP x u
 |_,_,.cons r .nil=>⟨_,rfl,r⟩
theorem iO.zero:∀{us:List Value},iO [] us->us=[]
 |_,.nil=>rfl
theorem iO.dropLast {xs:List V} {us:List Value} (h:iO xs us):iO xs.dropLast us.dropLast:=by
 induction h with
 |nil=>exact .nil
 |cons r t ih=>
  cases t with
  |nil=>exact .nil
  |cons q t'=>exact .cons r ih
theorem iO.reverse {xs:List V} {us:List Value} (h:iO xs us):iO xs.reverse us.reverse:=by
 induction h with
 |nil=>exact .nil
 |cons r t ih=>rw[aX,aX];exact iO.append ih (.cons r .nil)
theorem yp {α:Type} (l:List α):l.eraseIdx (l.length-1)=l.dropLast:=by
 induction l with
 |nil=>rfl
 |cons a r ih=>
  cases r with
  |nil=>rfl
  |cons b r=>
   have e:(a::b::r).length-1=((b::r).length-1)+ 1:=by
    have h1:(a::b::r).length=r.length+ 2:=rfl
    have h2:(b::r).length=r.length+ 1:=rfl
    lia
   rw[e,List.eraseIdx_cons_succ,ih]
   all_goals rfl
section
variable {X:Cx} {pz:AoL} {σ:St} {H:Hp} {s:Shared} {l b:Addr} {xs ys zs:List V}
theorem Inv.lset {its its':List Value} {n:Nat} {f:Array Value->Array Value} {t':Nat} (I:Inv X pz σ H s) (hH:H l=some (.lst xs))
  (e:s.heap.get? l=some {cls:= .type "list",data:= .seq its.toArray n}) (hf:f its.toArray=its'.toArray) (hv:iO ys its') (hz:ys.length<=sizeLine):
  Inv X pz σ (upd H l (.lst ys)) {s with heap:=s.heap.update l (Obj.mapSeq f),toks:=t'}:=by
 have q:=PySem.IsL.update e f
 rw[hf]at q
 refine I.write (x:=l) (e:=l) (by rw[hH];exact trivial) (.inl rfl) (fun b' u hb hu=>(fX s.heap (Obj.mapSeq f) (Ne.symm hb)).trans hu) ⟨_,q⟩ ?_
 exact⟨hz,its',_,hv,q⟩
theorem Inv.lnew {its:List Value} {t':Nat} (I:Inv X pz σ H s) (hv:iO ys its) (hz:ys.length<=sizeLine):
  Inv X pz σ (upd H s.heap.objs.size (.lst ys)) {s with heap:=s.heap.push {cls:= .type "list",data:= .seq its.toArray},toks:=t'}:=
 I.laid (fun _ _ q=>fS _ q) (cq _) ⟨hz,its,0,hv,fO _ rfl⟩
theorem Inv.fresh (I:Inv X pz σ H s):H s.heap.objs.size=none:=I.hok.fresh (cq _)
theorem Inv.lstM (I:Inv X pz σ H s) (hH:H l=some (.lst xs)):xs.length<=sizeLine/\∃(its:List Value) (n:Nat),iO xs its/\xs.length=its.length/\s.heap.get? l=some {cls:= .type "list",data:= .seq its.toArray n}:=by
 obtain⟨z,its,n,r,e⟩:=I.hok l _ hH
 exact⟨z,its,n,r,r.length,e⟩
theorem By {n:Nat} (h:n<=sizeLine):Builtin.List.listTooLong n=false:=by
 unfold Builtin.List.listTooLong
 exact iI (by lia)
end
section
variable {X:Cx}
def zD:V->List V->Hp->VK->Prop:=fun x vs H Q=>∃l xs y,x= .ref l/\vs=[y]/\H l=some (.lst xs)/\xs.length<sizeLine/\Q .non (upd H l (.lst (xs++[y])))
theorem gT:MtM X "list.append" zD:=by
 intro pz s σ H x vs v us Q I rx rv h
 obtain⟨l,xs,y,rfl,rfl,hH,hz,q⟩:=h
 cases rx
 obtain⟨u,rfl,ru⟩:=rv.one
 obtain⟨z,its,n,r,hl,e⟩:=I.lstM hH
 refine call_meets F.slot_list_append ⟨_,e,rfl⟩ F.entry_list_append (F.args_list_append_2 _ _) (PySem.list_append l its.toArray n u (by rw[aT];lia)) ⟨e,?_⟩
 refine⟨.non,_,I.lset (its':=its++[u]) hH e (by simp) (r.append (.cons ru .nil)) ?_,rfl,q⟩
 rw[aN,aY]
 lia
def DO:V->List V->Hp->VK->Prop:=fun x vs H Q=>∃l b xs zs,x= .ref l/\vs=[.ref b]/\H l=some (.lst xs)/\H b=some (.lst zs)/\xs.length+zs.length<=sizeLine/\Q .non (upd H l (.lst (xs++zs)))
theorem zE:MtM X "list.extend" DO:=by
 intro pz s σ H x vs v us Q I rx rv h
 obtain⟨l,b,xs,zs,rfl,rfl,hH,hB,hz,q⟩:=h
 cases rx
 obtain⟨u,rfl,ru⟩:=rv.one
 cases ru
 obtain⟨z,its,n,r,hl,e⟩:=I.lstM hH
 obtain⟨z2,its2,n2,r2,hl2,e2⟩:=I.lstM hB
 have hsz:its.toArray.size+its2.toArray.size<=sizeLine:=by rw[aT,aT];lia
 have hlong:¬(!its.toArray.isEmpty&&Builtin.List.listTooLong (its.toArray.size+its2.toArray.size))=true:=by
  rw[By hsz,fc]
  exact eX
 refine call_meets F.slot_list_extend ⟨_,e,rfl⟩ F.entry_list_extend (F.args_list_extend_2 _ _)
  (AutoSeq1.list_extend_list_list_0 l its.toArray n b its2.toArray n2 hlong (by rw[aT];lia) (by lia)) ⟨e,e2,?_⟩
 refine⟨.non,_,I.lset (its':=its++its2) hH e (by simp) (r.append r2) ?_,rfl,q⟩
 rw[aN]
 lia
def JL:V->List V->Hp->VK->Prop:=fun x vs H Q=>∃l xs y,x= .ref l/\vs=[]/\H l=some (.lst xs)/\xs[xs.length-1]?=some y/\Q y (upd H l (.lst xs.dropLast))
theorem xq:MtM X "list.pop" JL:=by
 intro pz s σ H x vs v us Q I rx rv h
 obtain⟨l,xs,y,rfl,rfl,hH,hy,q⟩:=h
 cases rx
 have hus:=rv.zero
 subst hus
 obtain⟨z,its,n,r,hl,e⟩:=I.lstM hH
 obtain⟨u,hu,ru⟩:=r.get hy
 have hy':its.toArray[its.toArray.size-1]?=some u:=by
  show its.toArray[its.length-1]?=some u
  rw[<-ft,<-hl]
  exact hu
 refine call_meets F.slot_list_pop ⟨_,e,rfl⟩ F.entry_list_pop (F.args_list_pop_1 _) (MeetsSeq.list_pop_last l its.toArray n u hy' (by rw[aT];lia)) ⟨e,?_⟩
 refine⟨y,_,I.lset (its':=its.dropLast) hH e ?_ r.dropLast ?_,ru,q⟩
 ·show its.toArray.eraseIdxIfInBounds (its.toArray.size-1)=its.dropLast.toArray
  rw[aT,List.eraseIdxIfInBounds_toArray,yp]
 ·rw[List.length_dropLast]
  lia
def rCat:R2:=fun x y H Q=>∃l b xs zs,x= .ref l/\y= .ref b/\H l=some (.lst xs)/\H b=some (.lst zs)/\xs.length+zs.length<=sizeLine/\∀p,H p=none->Q (.ref p) (upd H p (.lst (xs++zs)))
theorem CF:OpR X (binaryOp .Add) rCat:=by
 intro pz s σ H x y v u Q I rx ry h
 obtain⟨l,b,xs,zs,rfl,rfl,hH,hB,hz,q⟩:=h
 cases rx
 cases ry
 obtain⟨z,its,n,r,hl,e⟩:=I.lstM hH
 obtain⟨z2,its2,n2,r2,hl2,e2⟩:=I.lstM hB
 refine PySem.P.add_list e e2 ?_ (by rw[aT,aT];lia)
 have ea:its.toArray++its2.toArray=(its++its2).toArray:=by simp
 rw[ea]
 exact⟨.ref _,_,I.lnew (t':=s.toks) (r.append r2) (by rw[aN];lia),rfl,q _ I.fresh⟩
end
section
variable {prog:Program} {w:World} {A:Around} {E:EvP} {s:Shared}
end
section
variable {X:Cx}
end
end L2.Internal
namespace Att.Internal
open PySem PySem.W PySem.Calls PyProof.Rows
theorem qG {P:Params} {h:Heap}:∀(ns:List Int) (vs:List Value),WellAll P h vs (ns.map WData.int)->IntsAre vs ns:=by
 intro ns
 induction ns with
 |nil=>
  intro vs w
  rw[aS]at w
  cases w
  exact .nil
 |cons n ns ih=>
  intro vs w
  rw[aB]at w
  cases w with
  |cons a b=>
   cases a
   exact .cons _ _ (ih _ b)
theorem zF {l:OpenLaw} {n:Nat} (hn:l.most=some n) {P:Params} {h:Heap} {args:List WData} {vals:List Value}
  (hpre:l.row.toRowW.claim.pre args=true) (hwl:WellAll P h vals args):
  ∃a vs ns,vals=[Value.ref a]/\args=[WData.list (ns.map WData.int)]/\h.get? a=some {cls:= .type "list",data:= .seq vs.toArray}/\IntsAre vs ns/\ns.length<=n:=by
 have hsh:WShape.hasAll [] args [.list .int]=true:=(pre_splitW hpre).1
 have hc:l.pre.holds [] {args:=args}=true:=(pre_splitW hpre).2
 obtain⟨d,r,rfl,h1,h2⟩:=hasAllW_cons hsh
 obtain rfl:=hasAllW_nil h2
 obtain⟨xs,rfl,h3⟩:=hasW_list h1
 obtain⟨ns,rfl⟩:=items_int h3
 have hlen:ns.length<=n:=by
  unfold OpenLaw.pre at hc
  have h4:(WTm.not (.lt (.lit (.int (n:Int))) (.len (.arg 0)))).holds [] {args:=[.list (ns.map .int)]}=true:=by
   have h4:=(holds_andW hc).1
   rw[hn]at h4
   exact h4
  have h5:=condW_of h4 (w_not (w_lt w_lit (w_len_list (w_arg rfl))))
  rw[aC]at h5
  refine Nat.le_of_not_lt fun q=>?_
  have q':(n:Int)<((ns.length:Nat):Int):=by lia
  first
   |(rw[ir q']at h5;exact absurd h5 (by decide))
   |(simp at h5;lia)
 cases hwl with
 |cons w1 w2=>
  cases w2
  cases w1 with
  |list ho hall=>exact⟨_,_,ns,rfl,rfl,ho,qG ns _ hall,hlen⟩
theorem zG (l:OpenLaw) (args:List WData):l.row.toRowW.claim.post args (.bool true) args=true:=
 postW_of (r:=l.row.toRowW) (X:=(true==true))
  (show WShape.has [] (.bool true) .bool=true by first|rfl|decide|simp[WShape.has,WShape.arms,WShape.armsAll])
  (show(WTm.eq .res (.lit (.bool true))).value [] {args:=args,res:=some (.bool true),after:=args}=some (.bool (true==true))from w_eq_bool (w_res rfl) w_lit) rfl
theorem attach_call {l:OpenLaw} {n:Nat} {q:Program} {loose:List Str} {XP:(Str->Option Value)->Heap->Prop} {YP:World->Heap->Prop} {d:DefRec}
  (hn:l.most=some n) (hdf:d.params.defaults=[])
  (call:∀(w:World) (s₀ s₁:Shared) (mg mb:Str->Option Value) (fa:Addr) (o:Obj) (pm cd doc:Value) (a:Addr) (vs:List Value) (ns:List Int),
   Ground q loose [] XP w s₀ mg mb s₁.heap->YP w s₁.heap->
   s₁.heap.get? fa=some o->o.data= .func (docDef d.name d.params d.body d.scope pm cd doc)->s₁.heap.CodeRec cd d.name->mg d.name=some (.ref fa)->
   s₁.heap.get? a=some {cls:= .type "list",data:= .seq vs.toArray}->IntsAre vs ns->ns.length<=n->s₁.gens=#[]->
   codeAny (model l.prog w) callerA (.call (.ref fa) ⟨[.ref a],[]⟩) (fun r s'=>r= .ok (.ret (.bool true))/\OldK s₁.heap s'.heap/\s'.os=s₁.os/\AllBare s'.gens) s₁):
  WalkO q loose XP YP l.row.toRowW d [] (fun f vs=>PySem.call f vs):=by
 intro w s₀ s₁ mg mb G Y fa o pm cd doc dV kV ho hd hcd hD hmg hg args vals as hpre hlay hrd hwl hlo
 obtain rfl:dV= .none:=Dflts.none hD hdf
 obtain rfl:kV= .none:=Dflts.noKw hD
 obtain⟨a,vs,ns,rfl,rfl,hobj,hints,hlen⟩:=zF hn hpre hwl
 refine enter_call (codeAny_mono (call w s₀ s₁ mg mb fa o pm cd doc a vs ns G Y ho (fd_plain hd) hcd hmg hobj hints hlen hg) fun r s' hq=>?_)
 obtain⟨rfl,h2,h3,h4⟩:=hq
 exact⟨.inl ⟨.bool true,.bool true,[],rfl,fun _=>rfl,.bool true,zG l _,fun _=>⟨List.Pairwise.nil,fun _ hm=>(nomatch hm)⟩⟩,h2,h3,h4⟩
section
variable {prog:Program} {w:World} {A:Around} {E:EvP} {s:Shared} {K:Frag}
end
end Att.Internal
namespace L2.Internal
open PySem PySem.Spec PyProof.Rows
theorem uK:∀{vs:List Value} {ns:List Int},IntsAre vs ns->iO (ns.map V.int) vs
 |_,_,.nil=> .nil
 |_,_,.cons n t h=> .cons ⟨t,rfl⟩ (uK h)
def HZ (H:Hp):Prop:=∀b,H b=none\/∃o xs,H b=some (.frz o (.lst xs))
theorem Bz {P:Program} {w:World} {K:PySem.W.Frag} {mg mb:Str->Option Value} {CX:CXT} {k:Nat} {fa a:Addr} {fd:FuncData} {x:Str} {sp:Sp} {s₁:Shared} {vs:List Value} {ns:List Int}
  (KX:K.In s₁.heap) (hns:s₁.heap.Ns mainGlobals mg) (hb:s₁.heap.Ns builtinsNs mb) (hbb:∀x:Str,x≠"__name__"->mb x=bootBuiltins x) (hlim:s₁.heap.NoLimit) (hg:s₁.gens=#[])
  (ha:s₁.heap.get? a=some {cls:= .type "list",data:= .seq vs.toArray}) (hi:IntsAre vs ns) (hl:ns.length<=sizeLine) (hr:lu k callerA)
  (F:∀base:Heap,K.In base->base.Ns mainGlobals mg->ow P w K mg base CX k fa fd [x] sp) (hbind:∀(s:Shared) (u:Value),BindsTo s fd ⟨[u],[]⟩ [(x,u)])
  (hsp:∀H:Hp,HZ H->SqL K H a (ns.map V.int)->sp [.ref a] H (fun v _=>v= .bl true) fun _ _ _=>False)
  (hCX:∀H e s',CX [] H s₁ (fun _ _ _=>False) e s'->False):
  codeAny (model P w) callerA (.call (.ref fa) ⟨[.ref a],[]⟩) (fun r s'=>r= .ok (.ret (.bool true))/\OldK s₁.heap s'.heap/\s'.os=s₁.os/\AllBare s'.gens) s₁:=by
 have rv:=uK hi
 have lenV:=hi.length
 have core:∀H:Hp,HZ H->SqL K H a (ns.map V.int)->HOk P w H s₁.heap->(∀b,H b≠none->b=a)->(H a≠none->K.lookup a=none)->
   codeAny (model P w) callerA (.call (.ref fa) ⟨[.ref a],[]⟩) (fun r s'=>r= .ok (.ret (.bool true))/\OldK s₁.heap s'.heap/\s'.os=s₁.os/\AllBare s'.gens) s₁:=by
  intro H hO hS hok hA hK
  have base_of:∀{b:Addr} {o:Obj},s₁.heap.get? b=some o->H b=none->(Bk s₁.heap H).get? b=some o:=fun e n=>Bl e n
  have noA:∀{b:Addr} {o:Obj} {es:Array DictEntry} {ep:Nat},s₁.heap.get? b=some o->o.data= .dict es ep->H b=none:=fun{b o es ep} e d=>by
   cases q:H b with
   |none=>rfl
   |some u=>
    have e':b=a:=hA b (by rw[q];simp)
    subst e'
    rw[ha]at e;cases e
    have d':Data.seq vs.toArray _=Data.dict es ep:=d
    cases d'
  have nsK:∀{b:Addr} {m:Str->Option Value},s₁.heap.Ns b m->(Bk s₁.heap H).Ns b m:=fun{b m} ⟨o,es,ep,e,d,r⟩=>⟨o,es,ep,base_of e (noA e d),d,r⟩
  have hKb:K.In (Bk s₁.heap H):=fun b o e=>base_of (KX b o e) (by
   cases q:H b with
   |none=>rfl
   |some u=>
    have e':b=a:=hA b (by rw[q];simp)
    subst e'
    rw[hK (by rw[q];simp)]at e;cases e)
  have hM:Mod K mg (Bk s₁.heap H):=⟨hKb,nsK hns,⟨mb,nsK hb,hbb⟩,let⟨mc,h1,h2⟩:=hlim;⟨mc,nsK h1,h2⟩⟩
  have e0:DD P w K mg (Bk s₁.heap H) callerA [] s₁ H:=⟨rfl,hM,fun b o e=>Dr e,Nat.le_of_eq (za _ _),trivial,fun b hb=>absurd (show b∈([]:List Addr)from hb) (by simp),hok,.of_eq hg⟩
  refine codeAny_mono ((F _ hKb (nsK hns)).run callerA [] s₁ H ⟨[.ref a],[]⟩ [.ref a] [.ref a] _ _ hr e0 (hbind s₁ (.ref a)) (.cons rfl .nil) (hsp H hO hS)) fun r s' h=>?_
  cases r with
  |error e=>exact(hCX H e s' h).elim
  |ok fl=>
   cases fl with
   |next=>exact False.elim h
   |brk=>exact False.elim h
   |cont=>exact False.elim h
   |ret u=>
    obtain⟨v,H',os,bare,un,hok',r',q⟩:=h
    have q':v= .bl true:=q
    subst q'
    obtain rfl:u=Value.bool true:=r'
    refine⟨rfl,OldK.of_keep fun b o e=>?_,os,bare⟩
    cases q:H b with
    |none=>exact un.keep b o e q (by intro z;exact absurd (show b∈([]:List Addr)from z) (by simp)) (by simp)
    |some u=>
     rcases hO b with z|⟨ob,xs,z⟩
     ·rw[q]at z;cases z
     ·have z2:=un.frzs b ob _ z
      obtain⟨e1,_⟩:=hok b _ z
      obtain⟨e2,_⟩:=hok' b _ z2
      rw[e]at e1;cases e1
      exact e2
 cases hk:K.lookup a with
 |some o=>
  have e:=KX a o hk
  rw[ha]at e
  cases e
  refine core (fun _=>none) (fun _=> .inl rfl) (.inr ⟨_,vs.toArray,_,hk,rfl,rfl,rfl,by rw[aT,lenV];exact hl,by simpa using rv⟩) (fun b u z=>by have z':(none:Option HO)=some u:=z;cases z') (fun b z=>absurd rfl z) fun z=>absurd rfl z
 |none=>
  refine core (fun b=>if b=a then some (.frz {cls:= .type "list",data:= .seq vs.toArray} (.lst (ns.map V.int)))else none) (fun b=>?_) (.inl (.inr ⟨{cls:= .type "list",data:= .seq vs.toArray},gX rfl⟩)) (fun b u z=>?_) (fun b z=>?_) fun _=>hk
  ·by_cases hb:b=a
   ·exact .inr ⟨_,_,gX hb⟩
   ·exact .inl (gN hb)
  ·by_cases hb:b=a
   ·have z':=(gX hb).symm.trans z
    cases z'
    subst hb
    exact⟨ha,by rw[aC];exact hl,vs,_,rv,ha⟩
   ·have z':=(gN hb).symm.trans z
    cases z'
  ·by_cases hb:b=a
   ·exact hb
   ·exact absurd (gN hb) z
theorem walk_of {l:PySem.W.OpenLaw} {n k:Nat} {q:Program} {loose:List Str} {XP:(Str->Option Value)->Heap->Prop} {YP:World->Heap->Prop} {d:DefRec} {K:Params->PySem.W.Frag} {CX:World->CXT} {sp:World->Sp} {x:Str}
  (hn:l.most=some n) (hn2:n<=sizeLine) (hdf:d.params.defaults=[]) (hr:lu k callerA)
  (hY:∀(w:World) (h:Heap),YP w h->(K w.params).In h)
  (F:∀(w:World) (mg:Str->Option Value) (fa:Addr) (h:Heap),(K w.params).In h->h.Ns mainGlobals mg->mg d.name=some (.ref fa)->
   ∃fd:FuncData,(∀(s:Shared) (u:Value),BindsTo s fd ⟨[u],[]⟩ [(x,u)])/\
    ∀base:Heap,(K w.params).In base->base.Ns mainGlobals mg->ow l.prog w (K w.params) mg base (CX w) k fa fd [x] (sp w))
  (hsp:∀(w:World) (H:Hp) (a:Addr) (ns:List Int),ns.length<=n->HZ H->SqL (K w.params) H a (ns.map V.int)->sp w [.ref a] H (fun v _=>v= .bl true) fun _ _ _=>False)
  (hCX:∀(w:World) (H:Hp) (s:Shared) (e:Value) (s':Shared),CX w [] H s (fun _ _ _=>False) e s'->False):
  PySem.W.WalkO q loose XP YP l.row.toRowW d [] (fun f vs=>PySem.call f vs):=by
 refine Att.Internal.attach_call hn hdf fun w s₀ s₁ mg mb fa o pm cd doc a vs ns G Y ho hd hcd hmg hobj hints hlen hg=>?_
 have KX:=hY w _ Y
 obtain⟨fd,hb,hF⟩:=F w mg fa _ KX G.T.g hmg
 exact Bz KX G.T.g G.T.b G.T.builtins G.T.nolimit hg hobj hints (ck hlen hn2) hr hF hb (fun H hO hS=>hsp w H a ns hlen hO hS) fun H e s'=>hCX w H s₁ e s'
def ij (s:Stmt) (j:Nat):Stmt:=match s with
 | .ClassDef _ _ _ body _ _ _ _ _ _ _=>body.getD j (.Pass ⟨0,0,0,0⟩)
 |_=> .Pass ⟨0,0,0,0⟩
def kU (s:Stmt):Arguments:=match s with
 | .FunctionDef _ a _ _ _ _ _ _ _ _=>a
 |_=>{posonlyargs:=[],args:=[],vararg:=none,kwonlyargs:=[],kw_defaults:=[],kwarg:=none,defaults:=[]}
def jG (s:Stmt):List Stmt:=match s with
 | .FunctionDef _ _ b _ _ _ _ _ _ _=>b
 |_=>[]
def gu (s:Stmt):Scope:=match s with
 | .FunctionDef _ _ _ _ _ _ sc _ _ _=>sc
 |_=>{kind:= .function,names:=[],isGenerator:=false,isCoroutine:=false}
abbrev CX0:CXT:=fun _ _ _ _ _ _=>False
abbrev E0:XK:=fun _ _ _=>False
theorem je {X:Cx}:mj CX0 X E0:=fun _ _ _ _ _ _ _ h=>h.elim
structure Fun (K:PySem.W.Frag) (x qual:Str) (st:Stmt) (f:Addr) (fd:FuncData):Prop where
 ex:∃(oc:Value) (od:Option Addr) (kV doc pm:Value) (an:Option Addr) (cdv ct:Value) (osl:Array (Option Value)),
  fd=dM x qual (kU st) (jG st) (gu st) .none kV doc pm an cdv ct/\K.lookup f=some ⟨oc,od,.func fd,osl⟩/\dN K cdv qual=true
 kp:dC K (.ref f)=true
section
variable {P:Program} {w:World} {K:PySem.W.Frag} {mg:Str->Option Value} {base:Heap}
theorem Fun.ok {x qual:Str} {st:Stmt} {f:Addr} {fd:FuncData} {N ps:List Str} {k:Nat} {sp:Sp} (F:Fun K x qual st f fd) (S:gy N ps (gu st)) (len:∀vs H Q E,sp vs H Q E->vs.length=ps.length)
  (hbody:∀(cdv:Value) (A:Around) (outer:List Env) (s:Shared) (H:Hp) (vs:List V) (Q:VK) (E:XK),lu k (A.deeper (envOfC qual (gu st) s.heap.objs.size f cdv))->sp vs H Q E->
   ∃t,PSs (qE CX0 P w K mg base N qual (gu st) f cdv A outer s H E).nox (jG st) t/\t {nx:=fun _ H'=>Q .non H',rt:=Q} (ox N vs) H):ow P w K mg base CX0 (k+ 1) f fd ps sp:=by
 obtain⟨oc,od,kV,doc,pm,an,cdv,ct,osl,rfl,lk,hcd⟩:=F.ex
 refine DG lk hcd S len fun A outer s H vs Q E hr hsp=>?_
 obtain⟨t,h,q⟩:=hbody cdv A outer s H vs Q E hr hsp
 exact⟨t,h.nox,q⟩
theorem Fun.binds {x qual:Str} {st:Stmt} {f:Addr} {fd:FuncData} {ps:List Str} (F:Fun K x qual st f fd)
  (h:∀(kV doc pm:Value) (an:Option Addr) (cdv ct:Value) (us:List Value),us.length=ps.length->bindArgs (dM x qual (kU st) (jG st) (gu st) .none kV doc pm an cdv ct) ⟨us,[]⟩=pure (ps.zip us)):m9 K fd ps []:=by
 obtain⟨oc,od,kV,doc,pm,an,cdv,ct,osl,rfl,lk,hcd⟩:=F.ex
 exact .all (h kV doc pm an cdv ct)
theorem qH {x qual:Str} {st:Stmt} {f:Addr} {oc:Value} {od an:Option Addr} {osl:Array (Option Value)} {kV doc pm cdv ct:Value} (l:K.lookup f=some ⟨oc,od,.func (dM x qual (kU st) (jG st) (gu st) .none kV doc pm an cdv ct),osl⟩)
  (c:dN K cdv qual=true) (k:dC K (.ref f)=true):Fun K x qual st f (dM x qual (kU st) (jG st) (gu st) .none kV doc pm an cdv ct):=⟨⟨oc,od,kV,doc,pm,an,cdv,ct,osl,rfl,l,c⟩,k⟩
end
theorem vR {A:Around} {k:Nat} (hr:lu k A):A.units+ 1<cLine:=cz (Nat.add_le_add_left (by decide:1<=64) _) hr.units
section
variable {X:Cx}
theorem pv (i:Nat) {x:Str} {pos:Pos} (hN:autoParam (X.N[i]?=some x) auR._auto_1) (hv:Vis X.env.scope x:=by first|exact Or.inl rfl|exact Or.inr (.inl rfl)|exact Or.inr (.inr rfl)) (hd:autoParam ((x==("__debug__":Str))=false) auD._auto_1)
  (hcd:autoParam ((x==("__classdict__":Str))=false) auD._auto_1):PE X (.Name x pos) (E2 i):=Fg hN hv hd hcd
end
theorem jA {A B:Prop} (h:B):if false=true then A else B:=by
 rw[gN eX]
 exact h
theorem jD {A B:Prop} (h:A):if true=true then A else B:=by
 rw[gX rfl]
 exact h
theorem Hu {c A B:Prop} [Decidable c] (h1:c->A) (h2:¬c->B):if c then A else B:=by
 by_cases h:c
 ·rw[gX h]
  exact h1 h
 ·rw[gN h]
  exact h2 h
theorem Ia {c A B:Prop} [Decidable c] (hc:c) (h:B):if(!decide c)=true then A else B:=by
 rw[ir hc]
 exact jA h
def gP (H H':Hp):Prop:=∀b o,H b=some o->H' b=some o
theorem gP.refl (H:Hp):gP H H:=fun _ _ h=>h
theorem gP.trans {H H1 H2:Hp} (a:gP H H1) (b:gP H1 H2):gP H H2:=fun c o h=>b c o (a c o h)
theorem gP.free {H H':Hp} (e:gP H H') {l:Addr} (h:H' l=Option.none):H l=Option.none:=by
 cases q:H l with
 |none=>rfl
 |some o=>
  rw[e l o q]at h
  cases h
theorem gP.seq {K:PySem.W.Frag} {H H':Hp} {a:Addr} {xs:List V} (e:gP H H') (h:SqL K H a xs):SqL K H' a xs:=by
 rcases h with(h|⟨o,h⟩)|h
 ·exact .inl (.inl (e _ _ h))
 ·exact .inl (.inr ⟨o,e _ _ h⟩)
 ·exact .inr h
section
variable {X:Cx}
end
section
variable {κ:Type} [DecidableEq κ]
theorem BA {kvs:List (κ×V)} {k:κ} (h:jC kvs k=none):¬k∈kvs.map (·.1):=by
 intro m
 obtain⟨p,hp,e⟩:=aZ.mp m
 have q:(kvs.any fun kv=>decide (kv.1=k))=true:=ba.mpr ⟨p,hp,ir e⟩
 rw[kQ,h]at q
 exact absurd q (by simp)
theorem DP {kvs:List (κ×V)} {k:κ} {v:V} (h:jC kvs k=some v):k∈kvs.map (·.1):=by
 have q:(kvs.any fun kv=>decide (kv.1=k))=true:=by
  rw[kQ,h]
  all_goals rfl
 obtain⟨p,hp,e⟩:=ba.mp q
 exact aZ.mpr ⟨p,hp,of_decide_eq_true e⟩
theorem zH:∀{l:List κ} {k:κ},l.Nodup->¬k∈l->(l++[k]).Nodup
 |[],k,_,_=>by simp
 |a::r,k,h,hk=>by
  obtain⟨h1,h2⟩:=aE.mp h
  show(a::(r++[k])).Nodup
  refine aE.mpr ⟨fun m=>?_,zH h2 fun m=>hk (aj.mpr (Or.inr m))⟩
  rcases ao.mp m with q|q
  ·exact h1 q
  ·exact hk (aj.mpr (Or.inl (bb.mp q).symm))
theorem DQ {kvs:List (κ×V)} {k:κ} (v:V) (hn:(kvs.map (·.1)).Nodup) (h:jC kvs k=none):((mU kvs k v).map (·.1)).Nodup:=by
 rw[Bu v h,bc]
 exact zH hn (BA h)
end
section
variable {X:Cx}
theorem p9 {x:Str} {i:Int} {t:Tok} {pos:Pos} (hg:Gl X x) (hm:X.mg x=some (.int i t)) (hd:autoParam ((x==("__debug__":Str))=false) auD._auto_1):PE X (.Name x pos) (tC (.int i)):=vD hg hm (show iP (.int i) _ from⟨t,rfl⟩) hd
theorem BB {x y:Str} {t:Tok} {pos:Pos} (hg:Gl X x) (hm:X.mg x=some (.str y t)) (hd:autoParam ((x==("__debug__":Str))=false) auD._auto_1):PE X (.Name x pos) (tC (.str y)):=vD hg hm (show iP (.str y) _ from⟨t,rfl⟩) hd
theorem kj {x:Str} {a:Addr} {pos:Pos} (hg:Gl X x) (hm:X.mg x=some (.ref a)) (hd:autoParam ((x==("__debug__":Str))=false) auD._auto_1):PE X (.Name x pos) (tC (.ref a)):=vD hg hm (show iP (.ref a) _ from rfl) hd
theorem pU {x:Str} {n:String} {pos:Pos} (hg:Gl X x) (hm:X.mg x=none) (hv:bootBuiltins x=some (.type n)) (hn:autoParam (x≠"__name__") auD._auto_1) (hd:autoParam ((x==("__debug__":Str))=false) auD._auto_1):PE X (.Name x pos) (tC (.ty n)):=Ds hg hm hv (show iP (.ty n) _ from rfl) hn hd
end
theorem lY:bootBuiltins "len"=some (.builtin "len"):=gB
theorem FJ:bootBuiltins "all"=some (.builtin "all"):=gB
theorem CG:bootBuiltins "sum"=some (.builtin "sum"):=gB
theorem gZ:bootBuiltins "isinstance"=some (.builtin "isinstance"):=gB
theorem CH:bootBuiltins "int"=some (.type "int"):=gB
theorem qI:bootBuiltins "str"=some (.type "str"):=gB
theorem vS:bootBuiltins "list"=some (.type "list"):=gB
theorem jZ:bootBuiltins "tuple"=some (.type "tuple"):=gB
theorem zI:bootBuiltins "dict"=some (.type "dict"):=gB
theorem lG:bootBuiltins "ValueError"=some (.type "ValueError"):=gB
def Its (x:Str):It:=⟨fun i _=>i<x.cps.size,fun i H v H'=>H'=H/\∃c,x.cps[i]?=some c/\v= .str ⟨#[c]⟩,fun i _=>i=x.cps.size⟩
theorem xr {P:Program} {w:World} {K:PySem.W.Frag} {tg:Expr} (it:Addr) (T:String) (x:Str) (t:Tok)
  (hT:["enumerate","zip","dict_itemiterator","dict_reverseitemiterator","odict_iterator","itertools.zip_longest","itertools.pairwise"].contains T=false)
  (W:∀A:Around,A.handled=none->Walks P w A it [it] [it] x.cps.size (SignAt x) (fun i h=>h.IsStrIter it T x t i))
  (hself:∀(A:Around) (i:Nat) (s:Shared) (Q:EvP) (E:EvP),s.heap.IsStrIter it T x t i->Q (.ref it) s->wpAny (model P w) A (pyIter (.ref it)) Q E s):
  Cv P w K tg (Its x) [it] it (fun i h=>h.IsStrIter it T x t i) where
 mem:=by simp
 obj:=fun i h st b hb=>by
  have e:b=it:=by simpa using hb
  subst e
  obtain⟨o,e,c,d⟩:=st
  exact⟨o,e,fun v z=>by rw[d]at z;cases z⟩
 keep:=fun i h h' st k=>by
  obtain⟨o,e,r⟩:=st
  exact⟨o,k it (by simp) o e,r⟩
 item:=by
  intro X hP hw hK hc i pz s σ H E I hf st hg
  subst hP hw hK
  obtain⟨f0,f1,f2,f3,f4,f5⟩:=hf it (by simp)
  refine(W X.A (I.ok.hd hc)).item i s _ _ hg st fun v h' tk hv st' kk=>?_
  obtain⟨c,u,hc',rfl⟩:=hv
  have I1:Inv X pz σ H {s with heap:=h',toks:=tk}:=I.turned (fun b o hb e=>kk b o (by simpa using hb) e) f0 f1 f3 f4 f5
  obtain⟨o,e,c1,d⟩:=id st'
  exact⟨_,rfl,zg (s:={s with heap:=h',toks:=tk}) e c1 d hT ⟨.str ⟨#[c]⟩,H,I1,⟨u,rfl⟩,⟨rfl,c,hc',rfl⟩,st',fun b hb=>(hf b hb).1⟩⟩
 done:=by
  intro X hP hw hK hc i pz s σ H E I hf st hg
  subst hP hw hK
  obtain⟨f0,f1,f2,f3,f4,f5⟩:=hf it (by simp)
  have hg':i=x.cps.size:=hg
  subst hg'
  exact(W X.A (I.ok.hd hc)).done s _ _ st fun h' tk kk=>⟨rfl,I.turned (fun b o hb e=>kk b o (by simpa using hb) e) f0 f1 f3 f4 f5⟩
 self:=fun A i s Q E st h=>hself A i s Q E st h
section
variable {X:Cx} {tg:Expr}
def iStr (tl:TE):TI:=fun σ H R=>tl σ H fun v H1=>∃x,v= .str x/\R (Its x) H1
theorem FL {l:Expr} {tl:TE} (hl:PE X l tl):PI X tg l (iStr tl):=by
 intro pz s σ H R I h
 refine thn (hl pz s σ H _ I h) fun v s1 ⟨y,H1,I1,r1,q1⟩=>?_
 obtain⟨x,e,q⟩:=q1
 subst e
 obtain⟨t,rfl⟩:=r1
 have fp:∀b∈[s1.heap.objs.size],vF X pz H1 b:=fun b hb=>by
  have e:b=s1.heap.objs.size:=by simpa using hb
  subst e
  exact I1.fpOk (cq _) (I1.hok.fresh (cq _))
 cases ha:x.cps.all (·<128)
 ·refine wpAny_pyIter_wide ha ?_
  exact⟨s1.heap.objs.size,[s1.heap.objs.size],_,_,H1,rfl,I1.kept (t':=s1.toks) fun b o e=>fS _ e,
   xr _ "str_iterator" x t (by decide) (fun A hA=>Walks.strWide hA _ x t) (fun _ _ _ _ _ st h=>wpAny_pyIter_striter_wide st h),⟨_,fO _ rfl,rfl,rfl⟩,fp,q⟩
 ·refine wpAny_pyIter_ascii ha ?_
  exact⟨s1.heap.objs.size,[s1.heap.objs.size],_,_,H1,rfl,I1.kept (t':=s1.toks) fun b o e=>fS _ e,
   xr _ "str_ascii_iterator" x t (by decide) (fun A hA=>Walks.strAscii hA _ x t) (fun _ _ _ _ _ st h=>wpAny_pyIter_striter_ascii st h),⟨_,fO _ rfl,rfl,rfl⟩,fp,q⟩
end
def blk (X:Cx) (N:List Str) (scope:Scope) (cl:List (Str×Addr)) (C:Addr) (s₀:Shared) (H₀:Hp) (ex:List Addr) (pz:AoL):Cx:=
 {X with N:=N,s₀:=s₀,H₀:=H₀,env:=compEnvC scope cl C X.env,outer:=X.stack,stack:=X.stack,ex:=ex,fn:=fun _=>false,pn:=X.pn++pz,xe:=fun _ _=>False}
def PTs (X:Cx) (cs:List Expr) (t:TT):Prop:=
 ∀(pz:AoL) (s:Shared) (σ:St) (H:Hp) (Q:Bool->Hp->Prop),Inv X pz σ H s->t σ H Q->
  wpAny (model X.prog X.w) X.A (forIn cs true fun c r=>if r=true then do let ok<-isTrue c X.env (eval c X.env);pure (ForInStep.yield ok)else pure (ForInStep.yield r)) (TP X pz σ Q) X.xe s
def sQ:TT:=fun _ H Q=>Q true H
theorem nK {X:Cx}:PTs X [] sQ:=fun pz s σ H Q I h=>wpAny_pure ⟨H,I,h⟩
theorem zJ {X:Cx} {c:Expr} {t:TT} (h:PT X c t):PTs X [c] t:=fun pz s σ H Q I hw=>wpAny_tests_one (h pz s σ H Q I hw)
structure oz (X:Cx) (N:List Str) (scope:Scope) (cl:List (Str×Addr)) (f:St->St) (i:Nat) (x:Str):Prop where
 kind:scope.kind= .function
 cell:∀y∈scope.names,y.2≠ .cell
 names:∀y∈scope.names,y.2= .local->scope.names.lookup y.1=some .local
 clos:closureFor scope X.env=pure cl
 lk:∀y c,cl.lookup y=some c->X.env.cells.lookup y=some c
 has:∀y,((relabel scope X.env).names.lookup y=some .cell\/(relabel scope X.env).names.lookup y=some .free)->∃c,cl.lookup y=some c
 nd:N.Nodup
 ix:N[i]?=some x
 loc:scope.names.lookup x=some .local
 len:∀σ,σ.length=X.N.length->(f σ).length=N.length
 val:∀(σ:St) (k:Nat) (y:Str) (v:V),N[k]?=some y->(f σ)[k]?=some (some v)->∃j:Nat,X.N[j]?=some y/\σ[j]?=some (some v)/\X.env.scope.names.lookup y=some .cell/\(relabel scope X.env).names.lookup y=some .cell
theorem zK {X:Cx} {N:List Str} {scope:Scope} {cl:List (Str×Addr)} {f:St->St} {i:Nat} {x:Str} (B:oz X N scope cl f i x) {pz:AoL} {σ:St} {H:Hp} {s:Shared} {h₁:Heap} {tk:Nat} {m:Str->Option Value} {ex:List Addr}
  (I:Inv X pz σ H s) (hex:∀b∈ex,vF X pz H b/\b<s.heap.objs.size) (keep:∀b o,s.heap.get? b=some o->h₁.get? b=some o) (hn:h₁.Ns s.heap.objs.size m):
  Inv (blk X N scope cl s.heap.objs.size s H ex pz) [] (f σ) H {s with heap:=h₁,toks:=tk}:=by
 have nst:∀b,b≠X.env.locals->b∉X.fs->b∉frs X.stack:=fun b h1 h2 hb=>(aj.mp (I.stkSub b hb)).elim h1 h2
 have ltC:∀y c,X.env.cells.lookup y=some c->c<s.heap.objs.size:=fun y c e=>by
  obtain⟨v,o,ho,_⟩:=I.cell y c e
  exact fN ho
 refine⟨⟨I.ok.mod,B.kind,I.ok.glob,I.ok.blt,cq _,fun y z c h1 h2=>I.ok.inj y z c (B.lk y c h1) (B.lk z c h2),fun y hy=>B.has y hy,fun y c h=>(nomatch h),I.ok.hd,I.ok.frames,.inl rfl,fun b hb=>?_,I.bs,ck I.ok.bsz I.sz,fun b o e hb=>?_,fun b hb=>?_,I.stack,I.stkFree⟩,
  rfl,I.bare,Un.kept keep,⟨m,hn,fun k y v e1 e2 e3=>?_⟩,fun y c e=>?_,I.hok.fresh (cq _),fun y c e=>I.freeC y c (B.lk y c e),fun p hp=>?_,I.hok.kept keep,B.len σ I.len⟩
 ·obtain⟨⟨_,_,_,_,hc,_⟩,lt⟩:=hex b hb
  exact⟨cj lt,fun y c e=>hc y c (B.lk y c e)⟩
 ·obtain⟨⟨_,_,_,h4,_,_⟩,_⟩:=hex b hb
  rcases h4 with z|z
  ·exact I.ok.noex b o e z
  ·exact absurd (cf (fN (I.ok.bs b o e).1) z) (cg _)
 ·obtain⟨⟨_,h2,h3,_,_,_⟩,_⟩:=hex b hb
  exact nst b h2 h3
 ·obtain⟨j,h1,h2,h3,h4⟩:=B.val σ k y v e1 e2
  obtain⟨m',_,hl⟩:=I.loc
  obtain⟨u,r,l⟩:=hl j y v h1 h2 (.inr (.inl h3))
  refine⟨u,r,?_⟩
  rcases l with⟨hk,_⟩|⟨_,c,hc,z⟩
  ·have hk':X.env.scope.names.lookup y=some .local:=hk
   rw[h3]at hk'
   cases hk'
  ·obtain⟨c',hc'⟩:=B.has y (.inl h4)
   have e:c'=c:=cH.inj ((B.lk y c' hc').symm.trans hc)
   subst e
   obtain⟨o,ho,hd⟩:=z
   exact .inr ⟨.inl h4,c',hc',o,keep _ o ho,hd⟩
 ·obtain⟨v,o,ho,hd⟩:=I.cell y c (B.lk y c e)
  exact⟨v,o,keep _ o ho,hd⟩
 ·rw[aD]at hp
  obtain⟨e,n,ne,nf,d⟩:=I.pin p hp
  exact⟨keep _ _ e,n,cj (fN e),nst _ ne nf,d⟩
theorem ib {env:Env}:∀{names:List (Str×NameKind)} {x:Str} {k:NameKind},
  (names.map fun(n,k)=>if(k==NameKind.free&&env.scope.kind== .function&&env.kindOf n==some .cell)then(n,NameKind.cell)else(n,k)).lookup x=some k->
  ∃k0,names.lookup x=some k0/\(k=k0\/(k0= .free/\k= .cell))
 |[],_,_,h=>by simp at h
 |(n,k0)::r,x,k,h=>by
  have ih:=@ib env r x k
  have h:aA x ((if(k0==NameKind.free&&env.scope.kind== .function&&env.kindOf n==some .cell)=true then(n,NameKind.cell)else(n,k0))::(r.map fun(n,k)=>if(k==NameKind.free&&env.scope.kind== .function&&env.kindOf n==some .cell)then(n,NameKind.cell)else(n,k)))=some k:=h
  cases hx:x==n with
  |true=>
   by_cases hc:(k0==NameKind.free&&env.scope.kind== .function&&env.kindOf n==some .cell)=true
   ·rw[gX hc]at h
    simp only[bf,hx]at h⊢
    have hf:k0= .free:=by
     have hc':=hc
     simp only[eZ]at hc'
     exact eq_of_beq hc'.1.1
    exact⟨k0,rfl,.inr ⟨hf,(cH.inj h).symm⟩⟩
   ·rw[gN hc]at h
    simp only[bf,hx]at h⊢
    exact⟨k0,rfl,.inl (cH.inj h).symm⟩
  |false=>
   have h2:(r.map fun(n,k)=>if(k==NameKind.free&&env.scope.kind== .function&&env.kindOf n==some .cell)then(n,NameKind.cell)else(n,k)).lookup x=some k:=by
    by_cases hc:(k0==NameKind.free&&env.scope.kind== .function&&env.kindOf n==some .cell)=true
    ·rw[gX hc]at h;simp only[bf,hx]at h;exact h
    ·rw[gN hc]at h;simp only[bf,hx]at h;exact h
   obtain⟨k1,e1,e2⟩:=ih h2
   exact⟨k1,by simp only[bf,hx];exact e1,e2⟩
theorem iV {env:Env} (hk:env.scope.kind= .function):∀{names:List (Str×NameKind)} {x:Str},env.scope.names.lookup x=some .cell->names.lookup x=some .free->
  (names.map fun(n,k)=>if(k==NameKind.free&&env.scope.kind== .function&&env.kindOf n==some .cell)then(n,NameKind.cell)else(n,k)).lookup x=some .cell
 |[],_,_,h=>by simp at h
 |(n,k0)::r,x,hc,h=>by
  have ih:=@iV env hk r x hc
  show aA x ((if(k0==NameKind.free&&env.scope.kind== .function&&env.kindOf n==some .cell)=true then(n,NameKind.cell)else(n,k0))::_)=_
  cases hx:x==n with
  |true=>
   simp only[bf,hx]at h
   cases h
   have e:x=n:=eq_of_beq hx
   have hc':env.kindOf n=some .cell:=by rw[<-e];exact hc
   simp[bf,hx,hk,hc']
  |false=>
   simp only[bf,hx]at h
   by_cases hq:(k0==NameKind.free&&env.scope.kind== .function&&env.kindOf n==some .cell)=true
   ·rw[gX hq];simp only[bf,hx];exact ih h
   ·rw[gN hq];simp only[bf,hx];exact ih h
theorem E5 {X:Cx} {scope:Scope} {x:Str} (hk:scope.kind= .function) (hn:∀p∈scope.names,p.2≠ .cell/\p.2≠ .free) (hl:∀y∈scope.names,y.2= .local->scope.names.lookup y.1=some .local)
  (hx:scope.names.lookup x=some .local) (hc:closureFor scope X.env=pure []):oz X [x] scope [] (fun _=>[none]) 0 x where
 kind:=hk
 cell:=fun y hy=>(hn y hy).1
 names:=hl
 clos:=hc
 lk:=fun y c h=>by simp at h
 has:=fun y h=>by
  rcases h with h|h
  ·obtain⟨k0,e,z⟩:=ib h
   have m:=hn _ (PySem.mem_of_lookup e)
   rcases z with z|⟨z,_⟩
   ·exact absurd z.symm m.1
   ·exact absurd z m.2
  ·obtain⟨k0,e,z⟩:=ib h
   have m:=hn _ (PySem.mem_of_lookup e)
   rcases z with z|⟨z,_⟩
   ·exact absurd z.symm m.2
   ·exact absurd z m.2
 nd:=by simp
 ix:=rfl
 loc:=hx
 len:=fun _ _=>rfl
 val:=fun σ k y v h1 h2=>by
  cases k with
  |zero=>simp at h2
  |succ k=>simp at h2
theorem blk1 {X:Cx} {scope:Scope} {x y:Str} {j:Nat} {c0:Addr} (hk:scope.kind= .function) (hn:∀p∈scope.names,p.2≠ .cell/\(p.2= .free->p.1=y)) (hl:∀y∈scope.names,y.2= .local->scope.names.lookup y.1=some .local)
  (hx:scope.names.lookup x=some .local) (hy:scope.names.lookup y=some .free) (hc:closureFor scope X.env=pure [(y,c0)]) (hc0:X.env.cells.lookup y=some c0) (hok:X.env.scope.kind= .function) (hyo:X.env.scope.names.lookup y=some .cell)
  (hj:X.N[j]?=some y):oz X [x,y] scope [(y,c0)] (fun σ=>[none,σ.getD j none]) 0 x where
 kind:=hk
 cell:=fun y hy=>(hn y hy).1
 names:=hl
 clos:=hc
 lk:=fun z c h=>by
  cases e:z==y with
  |true=>
   simp only[bf,e]at h
   have ez:z=y:=eq_of_beq e
   rw[ez,hc0]
   exact h
  |false=>simp only[bf,e,List.lookup_nil]at h;cases h
 has:=fun z h=>by
  have ez:z=y:=by
   rcases h with h|h
   ·obtain⟨k0,e,q⟩:=ib h
    have m:=hn _ (PySem.mem_of_lookup e)
    rcases q with q|⟨q,_⟩
    ·exact absurd q.symm m.1
    ·exact m.2 q
   ·obtain⟨k0,e,q⟩:=ib h
    have m:=hn _ (PySem.mem_of_lookup e)
    rcases q with q|⟨q,_⟩
    ·exact m.2 q.symm
    ·exact m.2 q
  exact⟨c0,by rw[ez];simp[bf]⟩
 nd:=by
  have e:x≠y:=fun e=>by rw[e,hy]at hx;cases hx
  simp[e]
 ix:=rfl
 loc:=hx
 len:=fun _ _=>rfl
 val:=fun σ k z v h1 h2=>by
  cases k with
  |zero=>simp at h2
  |succ k=>
   cases k with
   |zero=>
    have ez:z=y:=by simpa using h1.symm
    subst ez
    have e:σ.getD j none=some v:=by simpa using h2
    rw[bh]at e
    refine⟨j,hj,?_,hyo,iV hok hyo hy⟩
    cases q:σ[j]? with
    |none=>rw[q]at e;cases e
    |some o=>rw[q]at e;exact congrArg some e
   |succ k=>simp at h2
def LcP (J:It) (i:Nat) (tt:TT) (te:TE) (Q:VK) (τ:St) (H1:Hp) (D:Addr):Prop:=
 ∃W:Nat->Nat->St->Hp->Prop,(∃m,W 0 m τ (upd H1 D (.lst [])))/\∀k m σ' H2,W k m σ' H2->
  (J.stop k H2/\Q (.ref D) H2)\/(J.go k H2/\∀v H3,J.yld k H2 v H3->tt (σ'.set i (some v)) H3 fun ok H4=>if ok=true
   then te (σ'.set i (some v)) H4 fun y H5=>∃xs,H5 D=some (.lst xs)/\xs.length<sizeLine/\∃m',m'<m/\W (k+ 1) m' (σ'.set i (some v)) (upd H5 D (.lst (xs++[y])))
   else ∃m',m'<m/\W (k+ 1) m' (σ'.set i (some v)) H4)
def tLC (wi:TI) (f:St->St) (i:Nat) (tt:TT) (te:TE):TE:=fun σ H Q=>wi σ H fun J H1=>∀D,H1 D=none->LcP J i tt te Q (f σ) H1 D
theorem zL {X:Cx} {elt iter:Expr} {x:Str} {px:Pos} {ifs:List Expr} {scope:Scope} {pos pos':Pos} {N:List Str} {cl:List (Str×Addr)} {f:St->St} {i:Nat} {wi:TI} {tt:TT} {te:TE} {use:Option (Value->Sem Unit)} {Qp:EvP}
  {pz:AoL} {s:Shared} {σ:St} {H:Hp} {Q:VK}
  (hc:X.calm=true) (B:oz X N scope cl f i x) (hi:PI X (.Name x px) iter wi)
  (htt:∀C s₀ H₀ ex pz,PTs (blk X N scope cl C s₀ H₀ ex pz) ifs tt) (hte:∀C s₀ H₀ ex pz,PE (blk X N scope cl C s₀ H₀ ex pz) elt te)
  (hs:∀x,foldedSetIterable iter X.env x=pure x) (I:Inv X pz σ H s) (h:tLC wi f i tt te σ H Q)
  (fin:∀(fl:Flow) (s3 s6:Shared) (H3 H5:Hp) (d:Addr) (m:Str->Option Value),Inv X pz σ H3 s3->Inv X pz σ H5 s6->H5 s3.heap.objs.size=none->s6.heap.Ns s3.heap.objs.size m->Q (.ref d) H5->
   compPost (model X.prog X.w) X.A X.xe use Qp (.ref d) s3.heap.objs.size (.ok fl) s6):
  wpAny (model X.prog X.w) X.A (comprehension (.ListComp elt [⟨.Name x px,iter,ifs,0⟩] scope pos) scope X.env pos' (newList []) false (eval iter X.env) use) Qp X.xe s:=by
 refine wpAny_comprehension_free (use:=use) rfl hs B.clos B.kind B.names (thn (hi pz s σ H _ I h) fun xv s1 h1=>thn h1 fun itv s2 h2=>?_)
 obtain⟨it,fp,tn,J,H2,rfl,I2,T,st2,f2,q⟩:=h2
 have hD:H2 s2.heap.objs.size=none:=I2.fresh
 obtain⟨W,⟨m0,w0⟩,turn⟩:=q _ hD
 refine wpAny_newObj_type (wpAny_newFunctionEnv B.cell (by intro y hy;simp at hy) (fun h₁ hns₁ hsb₁=>?_) B.kind)
 have I3:Inv X pz σ (upd H2 s2.heap.objs.size (.lst [])) {s2 with heap:=s2.heap.push {cls:= .type "list",data:= .seq ([]:List Value).toArray}}:=I2.lnew (its:=[]) (ys:=[]) (t':=s2.toks) .nil (cu _)
 have lt2:∀b∈fp,b<s2.heap.objs.size:=fun b hb=>by
  obtain⟨o,ho,_⟩:=T.obj _ _ st2 b hb
  exact fN ho
 have fp3:∀b∈fp,vF X pz (upd H2 s2.heap.objs.size (.lst [])) b:=fun b hb=>by
  refine⟨?_,(f2 b hb).2⟩
  rw[gw (cj (lt2 b hb))]
  exact(f2 b hb).1
 generalize hs3:({s2 with heap:=s2.heap.push {cls:= .type "list",data:= .seq ([]:List Value).toArray}}:Shared)=s3 at I3 hns₁ hsb₁⊢
 have eh:s2.heap.push {cls:= .type "list",data:= .seq ([]:List Value).toArray}=s3.heap:=by rw[<-hs3]
 have lt3:∀b∈fp,b<s3.heap.objs.size:=fun b hb=>by
  rw[<-eh,fV]
  exact cA (lt2 b hb)
 have old:∀b o,s3.heap.get? b=some o->h₁.get? b=some o:=fun b o e=>hsb₁.extBut b o (cj (fN e)) (fS _ e)
 have I4:=zK (tk:=s3.toks+([]:List (Str×Value)).length) B I3 (ex:=fp) (fun b hb=>⟨fp3 b hb,lt3 b hb⟩) old hns₁
 have st4:tn 0 h₁:=T.keep _ _ _ st2 fun b _ o e=>old b o (by rw[<-eh];exact fS _ e)
 have fpB:∀{H':Hp},(∀b∈fp,H' b=none)->∀b∈fp,vF (blk X N scope cl s3.heap.objs.size s3 (upd H2 s2.heap.objs.size (.lst [])) fp pz) [] H' b:=fun{H'} hn b hb=>by
  obtain⟨_,g2,g3,g4,g5,g6⟩:=f2 b hb
  refine⟨hn b hb,cj (lt3 b hb),fun z=>(aj.mp (I3.stkSub b z)).elim g2 g3,.inl hb,fun y c e=>g5 y c (B.lk y c e),fun p hp=>?_⟩
  rw[aD]at hp
  exact g6 p hp
 have loop:∀s4:Shared,s4={s3 with heap:=h₁,toks:=s3.toks+([]:List (Str×Value)).length}->
   codeAny (model X.prog X.w) X.A (.compLoop (.ListComp elt [⟨.Name x px,iter,ifs,0⟩] scope pos) 0 (.ref it) (.ref s2.heap.objs.size) (compEnvC scope cl s3.heap.objs.size X.env))
    (compPost (model X.prog X.w) X.A X.xe use Qp (.ref s2.heap.objs.size) s3.heap.objs.size) s4:=by
  rintro s4 rfl
  refine codeAny_compLoop_tests (I:=fun n s'=>∃k σ' H',Inv (blk X N scope cl s3.heap.objs.size s3 (upd H2 s2.heap.objs.size (.lst [])) fp pz) [] σ' H' s'/\tn k s'.heap/\(∀b∈fp,H' b=none)/\W k n σ' H') ?_ m0
   ⟨0,f σ,_,I4,st4,fun b hb=>(fp3 b hb).1,w0⟩
  rintro n s5 ⟨k,σ5,H5,I5,st5,fr5,w5⟩
  rcases turn k n σ5 H5 w5 with⟨stop,qn⟩|⟨go,step⟩
  ·refine wpAny_mono (T.done (blk X N scope cl s3.heap.objs.size s3 (upd H2 s2.heap.objs.size (.lst [])) fp pz) rfl rfl rfl hc k [] s5 σ5 H5 _ I5 (fpB fr5) st5 stop) (fun r s6 h6=>?_) fun _ _ z=>z
   obtain⟨hr,I6⟩:=h6
   subst hr
   obtain⟨m6,hn6,_⟩:=id I6.loc
   have I7:Inv X pz σ H5 s6:=I3.call' (s':=s6) (ch:=fp) I6.os I6.base I6.hok I6.bare fun b hb=>by
    obtain⟨_,g2,g3,g4,g5,g6⟩:=f2 b hb
    exact⟨g4,g2,g5,g6⟩
   exact fin _ s3 s6 _ H5 _ m6 I3 I7 I6.free hn6 qn
  ·refine wpAny_mono (T.item (blk X N scope cl s3.heap.objs.size s3 (upd H2 s2.heap.objs.size (.lst [])) fp pz) rfl rfl rfl hc k [] s5 σ5 H5 _ I5 (fpB fr5) st5 go) (fun r s6 h6=>?_) fun _ _ z=>z
   obtain⟨u,hr,h6⟩:=h6
   subst hr
   show wpAny _ _ (pure () >>= fun _=>assign (.Name x px) (compEnvC scope cl s3.heap.objs.size X.env) u) _ _ s6
   refine wpAny_bind (wpAny_mono (show wpAny _ _ (pure ()) _ _ s6 from h6) (fun _ s7 h7=>?_) fun _ _ z=>z)
   obtain⟨v,H7,I7,r7,y7,st7,fr7⟩:=h7
   have I7':=I7.pinned (fpB fr7) (T.obj _ _ st7)
   refine wpAny_assign_Name (lD (X:=blk X N scope cl s3.heap.objs.size s3 (upd H2 s2.heap.objs.size (.lst [])) fp pz) I7' B.nd B.ix (.inl (lookup_relabel_local B.loc)) r7 (fun s8 I8=>?_) (.inr (lookup_relabel_local B.loc)))
   have back:∀{σ9:St} {H9:Hp} {s9:Shared},Inv (blk X N scope cl s3.heap.objs.size s3 (upd H2 s2.heap.objs.size (.lst [])) fp pz) ([]++rX fp s7.heap) σ9 H9 s9->(∃m',m'<n/\W (k+ 1) m' σ9 H9)->
     ∃m',m'<n/\∃k σ' H',Inv (blk X N scope cl s3.heap.objs.size s3 (upd H2 s2.heap.objs.size (.lst [])) fp pz) [] σ' H' s9/\tn k s9.heap/\(∀b∈fp,H' b=none)/\W k m' σ' H':=fun{σ9 H9 s9} I9 q9=>by
    obtain⟨m',hm,w9⟩:=q9
    refine⟨m',hm,k+ 1,σ9,H9,I9.unpinned,T.keep _ _ _ st7 fun b hb o e=>(I9.pin (b,o) (ay _ (ay _ (kq hb e)))).1,fun b hb=>?_,w9⟩
    obtain⟨o,e,d⟩:=T.obj _ _ st7 b hb
    exact(I9.pin (b,o) (ay _ (ay _ (kq hb e)))).2.1
   refine wpAny_mono (htt _ _ _ _ _ _ s8 _ H7 _ I8 (step v H7 y7)) (fun ok s9 h9=>?_) fun _ _ z=>False.elim z
   obtain⟨H9,I9,q9⟩:=h9
   cases ok with
   |false=>
    rw[gN eX]
    rw[gN eX]at q9
    exact back I9 q9
   |true=>
    rw[gX rfl]
    rw[gX rfl]at q9
    refine wpAny_mono (hte _ _ _ _ _ _ s9 _ H9 _ I9 q9) (fun y s10 h10=>?_) fun _ _ z=>False.elim z
    obtain⟨v10,H10,I10,r10,xs,hx10,hz,q10⟩:=h10
    refine wpAny_mono (gT (X:=blk X N scope cl s3.heap.objs.size s3 (upd H2 s2.heap.objs.size (.lst [])) fp pz) _ s10 _ H10 (.ref s2.heap.objs.size) [v10] _ [y] (fun _ H11=>H11=upd H10 s2.heap.objs.size (.lst (xs++[v10]))) I10 rfl (.cons r10 .nil) ⟨_,xs,v10,rfl,rfl,hx10,hz,rfl⟩) (fun _ s11 h11=>?_) fun _ _ z=>False.elim z
    obtain⟨_,H11,I11,_,e11⟩:=h11
    subst e11
    exact back I11 q10
 exact codeAny_compStart_list (loop _ rfl) (T.self _ 0 _ _ _ st4 (loop _ rfl))
theorem vT {X:Cx} {elt iter:Expr} {x:Str} {px:Pos} {ifs:List Expr} {scope:Scope} {pos:Pos} {N:List Str} {cl:List (Str×Addr)} {f:St->St} {i:Nat} {wi:TI} {tt:TT} {te:TE}
  (hc:X.calm=true) (B:oz X N scope cl f i x) (hi:PI X (.Name x px) iter wi)
  (htt:∀C s₀ H₀ ex pz,PTs (blk X N scope cl C s₀ H₀ ex pz) ifs tt) (hte:∀C s₀ H₀ ex pz,PE (blk X N scope cl C s₀ H₀ ex pz) elt te)
  (hs:autoParam (∀x,foldedSetIterable iter X.env x=pure x) auI._auto_1):PE X (.ListComp elt [⟨.Name x px,iter,ifs,0⟩] scope pos) (tLC wi f i tt te):=by
 intro pz s σ H Q I h
 rw[eval_ListComp]
 refine zL hc B hi htt hte hs I h fun fl s3 s6 H3 H5 d m I3 I7 fr hn qn=>?_
 refine⟨m,hn,fun h' sb=>⟨.ref d,H5,?_,rfl,qn⟩⟩
 exact Inv.turned (h':=h') (t':=s6.toks) (it:=s3.heap.objs.size) I7 (fun b o hb e=>(sb.2 b hb).trans e) fr (cn I3.lt) (.inr I3.sz) (fun z c e q=>by
  obtain⟨v,q2⟩:=I3.cell z c e
  exact absurd (q▸q2.lt) (cg _)) fun p hp q=>absurd (q▸fN (I3.pin p hp).1) (cg _)
theorem FN {J:It} {xs:List V} {i:Nat} {tt:TT} {te:TE} {Q:VK} {τ:St} {H1:Hp} {D:Addr} (p:V->Bool) (g:V->V) (hD:H1 D=none) (hz:xs.length<=sizeLine) (hτ:τ.set i none=τ)
  (hgo:∀k H,gP H1 H->k<xs.length->J.go k H) (hy:∀k H v H',gP H1 H->J.yld k H v H'->H'=H/\xs[k]?=some v) (hst:∀H,gP H1 H->J.stop xs.length H)
  (htt:∀(k:Nat) v H R,xs[k]?=some v->gP H1 H->R (p v) H->tt (τ.set i (some v)) H R)
  (hte:∀(k:Nat) v H R,xs[k]?=some v->p v=true->gP H1 H->R (g v) H->te (τ.set i (some v)) H R)
  (hq:∀H',gP H1 H'->H' D=some (.lst ((xs.filter p).map g))->Q (.ref D) H'):LcP J i tt te Q τ H1 D:=by
 have sm:∀o,gP H1 (upd H1 D o):=fun o b u e=>by rw[gw (gr e hD)];exact e
 refine⟨fun k m σ' H2=>m=xs.length-k/\k<=xs.length/\(∃o,σ'=τ.set i o)/\H2=upd H1 D (.lst (((xs.take k).filter p).map g)),⟨xs.length,by simp,cu _,⟨none,hτ.symm⟩,by simp⟩,?_⟩
 rintro k m σ' H2 ⟨rfl,hk,⟨o,rfl⟩,rfl⟩
 by_cases hlt:k<xs.length
 ·refine .inr ⟨hgo k _ (sm _) hlt,fun v H3 y=>?_⟩
  obtain⟨e,hv⟩:=hy k _ v H3 (sm _) y
  subst e
  rw[bj]
  refine htt k v _ _ hv (sm _) ?_
  have tk:(xs.take (k+ 1)).filter p=(xs.take k).filter p++(if p v then[v]else[]):=take_succ_filter p xs k v hv
  have ll:((xs.take k).filter p).length<=k:=by
   refine ck (bo _ _) ?_
   rw[aH]
   lia
  cases hp:p v with
  |true=>
   rw[gX rfl]
   refine hte k v _ _ hv hp (sm _) ?_
   refine⟨_,gh,by rw[aC];lia,xs.length-(k+ 1),by lia,rfl,hlt,⟨some v,rfl⟩,?_⟩
   rw[qB,tk,hp,gX rfl,bc]
   rfl
  |false=>
   rw[gN eX]
   refine⟨xs.length-(k+ 1),by lia,rfl,hlt,⟨some v,rfl⟩,?_⟩
   rw[tk,hp,gN eX,aD]
 ·have e:k=xs.length:=by lia
  subst e
  refine .inl ⟨hst _ (sm _),hq _ (sm _) ?_⟩
  rw[gh,bp]
section
variable {X:Cx}
theorem BC {bs:List Bool}:∀{us:List Value},iO (bs.map V.bl) us->us=bs.map Value.bool:=by
 induction bs with
 |nil=>intro us r;rw[aS]at r;cases r;rfl
 |cons n ns ih=>
  intro us r
  rw[aB]at r
  cases r with
  |cons r1 r2=>
   cases(show _=Value.bool n from r1)
   rw[ih r2]
   rfl
theorem yq (bs:List Bool):((aa bs.length).all fun i=>(bs[i]?).getD true)=bs.all id:=by
 induction bs with
 |nil=>rfl
 |cons b r ih=>
  rw[az,bq,aW,br,aW,<-ih]
  rfl
theorem yr {h h':Heap} {o:Obj} (hk:∀b x,b∉[h.objs.size]->(h.push o).get? b=some x->h'.get? b=some x):∀b x,h.get? b=some x->h'.get? b=some x:=
 fun b x e=>hk b x (fun hm=>by rw[bb.mp hm]at e;exact cg _ (fN e)) (fS _ e)
theorem BD (hc:X.calm=true):kT X (.builtin "all") (fun xs H Q=>∃(a:Addr) (bs:List Bool),xs=[.ref a]/\SqL X.K H a (bs.map V.bl)/\Q (.bl (bs.all id)) H):=by
 intro pz s σ H xs us Q I r h
 obtain⟨a,bs,rfl,ha,q⟩:=h
 obtain⟨u,rfl,ru⟩:=m8 r
 cases ru
 obtain⟨its,rv,pl,hz⟩:=I.list ha
 have ei:=BC rv
 subst ei
 have hl:s.heap.IsList a (bs.map Value.bool).toArray:=pl.isList
 have hlt:a<s.heap.objs.size:=by obtain⟨_,e,_⟩:=hl;exact fN e
 refine call_all_walk (wpAny_pyIter_list hl ?_)
 refine⟨s.heap.objs.size,[s.heap.objs.size,a],[s.heap.objs.size],(bs.map Value.bool).toArray.size,_,_,fun i=>(bs[i]?).getD true,rfl,Walks.list (A:=X.A.in1) (I.ok.hd hc) _ a (cj hlt) (bs.map Value.bool).toArray,
  ⟨⟨_,fO _ rfl,rfl,rfl⟩,hl.push _⟩,fun i v s' Q' E' hP hQ=>?_,fun h' tk hk=>?_⟩
 ·have hv:(bs.map Value.bool)[i]?=some v:=by simpa using hP
  rw[aK]at hv
  cases e:bs[i]? with
  |none=>rw[e]at hv;cases hv
  |some b=>
   rw[e]at hv
   have e2:v=Value.bool b:=(cH.inj hv).symm
   subst e2
   simp only[e,Option.getD_some]at hQ
   exact wpAny_truthy_bool hQ
 ·have e:((aa (bs.map Value.bool).toArray.size).all fun i=>(bs[i]?).getD true)=bs.all id:=by
   rw[aT,aC];exact yq bs
  rw[e]
  exact⟨.bl (bs.all id),H,I.kept (yr hk),rfl,q⟩
def rSlS:V->Option Int->Option Int->Hp->VK->Prop:=fun x lo hi H Q=>∃z,x= .str z/\z.length<=sizeLine/\Q (.str (Txt.slice z lo hi)) H
theorem CI:SlR X rSlS:=by
 intro pz s σ H x v vl vu lo hi sl Q I rx hs pl pu h
 obtain⟨z,rfl,hz,q⟩:=h
 obtain⟨t,rfl⟩:=rx
 refine⟨"str",_,F.slot_str_getitem.lookup,typeIs_str _ _ _,?_⟩
 have fin:∀t' k,EP X pz σ Q (.str (Txt.slice z lo hi) t') {s with toks:=k}:=fun t' k=>⟨.str _,H,I.tok k,⟨t',rfl⟩,q⟩
 cases pl with
 |none=>
  cases pu with
  |none=>exact wpAny_getItem_str_slice (l:=none) (u:=none) (st:=none) hs rfl (post_val_or_str ⟨ck (Txt.slice_le z _ _) hz,fun t' k=>fin t' k⟩)
  |int j u=>exact wpAny_getItem_str_slice (l:=none) (u:=some (j,u)) (st:=none) hs rfl (post_val_or_str ⟨ck (Txt.slice_le z _ _) hz,fun t' k=>fin t' k⟩)
 |int i u'=>
  cases pu with
  |none=>exact wpAny_getItem_str_slice (l:=some (i,u')) (u:=none) (st:=none) hs rfl (post_val_or_str ⟨ck (Txt.slice_le z _ _) hz,fun t' k=>fin t' k⟩)
  |int j u=>exact wpAny_getItem_str_slice (l:=some (i,u')) (u:=some (j,u)) (st:=none) hs rfl (post_val_or_str ⟨ck (Txt.slice_le z _ _) hz,fun t' k=>fin t' k⟩)
theorem oA:kT X (.builtin "isinstance") (fun xs H Q=>∃x v c t b,xs=[x,v]/\(∀u,iP v u->u=c)/\vJ X.K H x t/\dD X.K t c=some b/\Q (.bl b) H):=by
 intro pz s σ H xs us Q I r h
 obtain⟨x,v,c,t,b,rfl,hc,ht,hk,q⟩:=h
 obtain⟨u,u',rfl,ru,ru'⟩:=vI r
 cases hc u' ru'
 exact zq I ru ht hk fun tk=>⟨.bl b,H,I.tok tk,rfl,q⟩
end
section
variable {X:Cx}
def yX:List V->List V->Bool
 |[],[]=>true
 |x::xs,y::ys=>eqV x y&&yX xs ys
 |_,_=>false
theorem si:∀(xs ys:List V),xs.length=ys.length->((aa xs.length).all fun j=>match xs[j]?,ys[j]? with|some a,some b=>eqV a b|_,_=>false)=yX xs ys
 |[],[],_=>rfl
 |x::xs,y::ys,h=>by
  have h':xs.length=ys.length:=by simpa using h
  have ih:=si xs ys h'
  rw[az,bq,aW,br]
  show(eqV x y&&_)=(eqV x y&&yX xs ys)
  rw[<-ih]
  rfl
 |[],_::_,h=>by simp at h
 |_::_,[],h=>by simp at h
theorem xu:∀(xs ys:List V),xs.length≠ys.length->yX xs ys=false
 |[],[],h=>absurd rfl h
 |x::xs,y::ys,h=>by
  have h':xs.length≠ys.length:=fun e=>h (by simp[e])
  show(eqV x y&&yX xs ys)=false
  rw[xu xs ys h',fc]
 |[],_::_,_=>rfl
 |_::_,[],_=>rfl
def rEqL (K:PySem.W.Frag) (neg:Bool):R2:=fun x y H Q=>∃a b xs ys,x= .ref a/\y= .ref b/\SqL K H a xs/\SqL K H b ys/\xs.all nH=true/\ys.all nH=true/\Q (.bl (if neg then !yX xs ys else yX xs ys)) H
theorem zM {xs:List V} (h:xs.all nH=true) {j:Nat} {x:V} (e:xs[j]?=some x):nH x=true:=bt.mp h x (aM e)
theorem FP (hu:X.A.units<cLine):OpR X (compareOp .Eq) (rEqL X.K false):=by
 intro pz s σ H x y v u Q I rx ry h
 obtain⟨a,b,xs,ys,rfl,rfl,ha,hb,fa,fb,q⟩:=h
 cases rx
 cases ry
 obtain⟨its,rv,pl,hz⟩:=I.list ha
 obtain⟨its2,rv2,pl2,hz2⟩:=I.list hb
 have l1:=rv.length
 have l2:=rv2.length
 by_cases hl:xs.length=ys.length
 ·refine SeqAt.eq_listAt (e:=fun j=>match xs[j]?,ys[j]? with|some a,some b=>eqV a b|_,_=>false) pl.isList pl2.isList (by simp only[aT];lia) hu (fun j h1 h2=>?_) ?_
  ·have h1':j<xs.length:=by simp only[aT]at h1;lia
   have h2':j<ys.length:=by simp only[aT]at h2;lia
   obtain⟨w1,e1,r1⟩:=rv.get (bu h1')
   obtain⟨w2,e2,r2⟩:=rv2.get (bu h2')
   have g1:its.toArray[j]=w1:=by
    have z:=(au.mp e1).2
    simpa using z
   have g2:its2.toArray[j]=w2:=by
    have z:=(au.mp e2).2
    simpa using z
   rw[g1,g2]
   simp only[bu h1',bu h2']
   exact xn r1 r2 (zM fa (bu h1')) (zM fb (bu h2'))
  ·have e:((aa its.toArray.size).all fun j=>match xs[j]?,ys[j]? with|some a,some b=>eqV a b|_,_=>false)=yX xs ys:=by
    rw[aT,<-l1]
    exact si xs ys hl
   rw[e]
   exact⟨.bl (yX xs ys),H,I,rfl,q⟩
 ·refine SeqAt.eq_list_lengthsAt pl.isList pl2.isList (by simp only[aT,bne_iff_ne,ne_eq];lia) hu ?_
  refine⟨.bl false,H,I,rfl,?_⟩
  have e:=xu xs ys hl
  have q':Q (.bl (yX xs ys)) H:=q
  rw[e]at q'
  exact q'
open Builtin Builtin.Str in
theorem FQ {prog:Program} {w:World} {A:Around} {E:EvP} {s:Shared} {x y:Str} {t u:Tok} {Q:EvP} (hy:(y.length==0)=false)
  (h:∀l k,l.map (·.1)=Txt.split x y->Q (.ref s.heap.objs.size) {s with heap:=s.heap.push {cls:= .type "list",data:= .seq (strValues l).toArray},toks:=k}) (hsz:x.length+ 2<=sizeLine):
  wpAny (model prog w) A (call (.builtin "str.split") [.str x t,.str y u]) Q E s:=by
 have hn:(partsBetween x (occurrences x y 0 x.length (x.length+ 1)) y.length).length<=sizeLine:=by
  have e1:=StrLaws.occ_length_le x y 0 x.length (x.length+ 1)
  rw[length_partsBetween];lia
 cases h1:(decide (x.length<y.length)||decide (strKind x<strKind y))
 ·cases hf:(occurrences x y 0 x.length (x.length+ 1)).isEmpty
  ·refine call_meets F.slot_str_split (typeIs_str _ _ _) F.entry_str_split (F.args_str_split_2 _ _) (meets_str_split_sep x y t u h1 hy hf (by lia) hn) ?_
   show wants Q E _ {s with toks:=_,heap:=s.heap.push {cls:= .type "list",data:= .seq (strsFrom s.toks (partsBetween x (occurrences x y 0 x.length (x.length+ 1)) y.length)).toArray}}
   rw[strsFrom_eq]
   exact h (numbered s.toks _) _ ((numbered_texts _ _).trans ((gN (ne_true_of_eq_false h1)).trans (gN (ne_true_of_eq_false hf))).symm)
  ·exact call_meets F.slot_str_split (typeIs_str _ _ _) F.entry_str_split (F.args_str_split_2 _ _) (meets_str_split_not_found x y t u h1 hy hf)
    (h [(x,t)] s.toks ((gN (ne_true_of_eq_false h1)).trans (gX hf)).symm)
 ·exact call_meets F.slot_str_split (typeIs_str _ _ _) F.entry_str_split (F.args_str_split_2 _ _) (meets_str_split_cannot_occur x y t u h1)
   (h [(x,t)] s.toks (gX h1).symm)
theorem uL:∀l:List (Str×Tok),iO ((l.map (·.1)).map V.str) (strValues l)
 |[]=> .nil
 |p::r=> .cons ⟨p.2,rfl⟩ (uL r)
theorem qJ (x y:Str):(Txt.split x y).length<=x.length+ 2:=by
 unfold Txt.split
 split
 ·show 1<=_;lia
 ·split
  ·show 1<=_;lia
  ·have e1:=StrLaws.occ_length_le x y 0 x.length (x.length+ 1)
   rw[length_partsBetween];lia
def FR:V->List V->Hp->VK->Prop:=fun x xs H Q=>∃z y,x= .str z/\xs=[.str y]/\(y.length==0)=false/\z.length+ 2<=sizeLine/\∀l,H l=none->Q (.ref l) (upd H l (.lst ((Txt.split z y).map V.str)))
theorem BE:MtR X "str.split" FR:=by
 intro pz s σ H x xs v us Q I rx rs h
 obtain⟨z,y,rfl,rfl,hy,hz,q⟩:=h
 obtain⟨t,rfl⟩:=rx
 obtain⟨u,rfl,ru⟩:=m8 rs
 obtain⟨t',rfl⟩:=ru
 refine FQ hy (fun l k hl=>?_) hz
 have hv:=uL l
 rw[hl]at hv
 exact⟨.ref s.heap.objs.size,_,I.lnew hv (by rw[aC];exact ck (qJ z y) hz),rfl,q _ I.fresh⟩
def PE1 (X:Cx) (e:Expr) (t:TE):Prop:=
 ∀(pz:AoL) (s:Shared) (σ:St) (H:Hp) (Q:VK),Inv X pz σ H s->1<=s.toks->t σ H Q->wpAny (model X.prog X.w) X.A (eval e X.env) (fun u s'=>1<=s'.toks/\EP X pz σ Q u s') X.xe s
theorem PE.one {e:Expr} {t:TE} (h:PE X e t):PE1 X e t:=fun pz s σ H Q I ht hw=>wpAny_mono (wpAny_toks_of ht (h pz s σ H Q I hw)) (fun _ _ z=>z) fun _ _ z=>z.2
def Ib (to:TE) (y z:Str):TE:=fun σ H Q=>to σ H fun v H1=>∃x,v= .str x/\x.length+(x.length+ 1)*z.length<=16777216/\Q (.str (Txt.replace x y z)) H1
theorem sR {o:Expr} {to:TE} {y z:Str} {k1 k2 p1 p2 apos cpos} (ho:PE1 X o to) (hyz:(y==z)=false)
  (hbase:autoParam (attributeBase o "replace" X.env (eval o X.env)=eval o X.env) auR._auto_1)
  (hfew:((backTo cpos (starEach [.Constant (.str y) k1 p1,.Constant (.str z) k2 p2] X.env)).all (fun x=>!x.1)&&(backToKw cpos (keywordEach [] X.env)).all (fun x=>x.1.isSome)
   &&decide (([.Constant (.str y) k1 p1,.Constant (.str z) k2 p2]:List Expr).length+([]:List Keyword).length+(if([]:List Keyword).isEmpty then 0 else 1)<30))=true:=by rfl)
  (hline:autoParam ((apos.endLine==cpos.line)=true) auR._auto_1):PE1 X (.Call (.Attribute o "replace" apos) [.Constant (.str y) k1 p1,.Constant (.str z) k2 p2] [] cpos) (Ib to y z):=by
 intro pz s σ H Q I ht h
 refine wpAny_Call_method_late hbase hfew hline rfl (thn (ho pz s σ H _ I ht h) fun v s1 q1=>?_)
 obtain⟨ht1,v1,H1,I1,r1,x,rfl,hb,q⟩:=q1
 obtain⟨t,rfl⟩:=r1
 refine⟨"str","str.replace",F.plainAttrs_str,F.slot_str_replace,F.type_str_replace,typeIs_str _ _ _,(fun _ e=>nomatch e),?_⟩
 refine Calls.callWith_builtin rfl (Calls.evalArgs_plain ?_)
 show wpAny _ _ (spliced ((false,eval (.Constant (.str y) k1 p1) X.env)::backTo cpos (starEach [.Constant (.str z) k2 p2] X.env))) _ _ s1
 refine Calls.spliced_cons (Calls.Constant_str ?_)
 show wpAny _ _ (spliced ((false,eval (.Constant (.str z) k2 p2) X.env)::backTo cpos (starEach [] X.env))) _ _ _
 refine Calls.spliced_cons (Calls.Constant_str (Calls.spliced_nil ?_))
 refine wpAny_mono (wpAny_toks_of (n:=1) (by show 1<=s1.toks+ 1+ 1;lia) (SC.replace (Q:=EP X pz σ Q) (E:=X.xe) (u:=s1.toks) (v:=s1.toks+ 1) (Nat.pos_iff_ne_zero.mp ht1) (Nat.succ_ne_zero _) (cj (cw _)) hyz hb fun t' k=>⟨.str _,H1,?_,⟨t',rfl⟩,q⟩)) (fun _ _ z=>z) fun _ _ z=>z.2
 exact I1.tok k
def E6 (X:Cx) (st:List Stmt) (t:TS):Prop:=
 ∀(pz:AoL) (s:Shared) (σ:St) (H:Hp) (D:md),Inv X pz σ H s->1<=s.toks->t D σ H->wpAny (model X.prog X.w) X.A (execs st X.env) (SP X pz D) X.xe s
theorem BF {i:Nat} {x:Str} {e:Expr} {te:TE} {pos pos':Pos} {rest:List Stmt} {u:TS} (hN:X.N.Nodup) (hi:X.N[i]?=some x) (hx:Loc X.env.scope x) (he:PE1 X e te) (hr:PSs X rest u)
  (hs:autoParam (swapsWith e (some (.Name x pos')) pos.line X.env=pure false) auR._auto_1) (hf:autoParam (X.fn x=true\/X.env.scope.names.lookup x=some .local) auL._auto_1):
  E6 X (.Assign [.Name x pos'] e pos::rest) (vw (Bo te (ia i)) u):=by
 intro pz s σ H D I ht h
 refine wpAny_execs_cons (wpAny_Assign_Name (thn (he pz s σ H _ I ht h) fun v s1 q1=>?_) hs)
 obtain⟨_,y,H1,I1,r1,q⟩:=q1
 exact lD I1 hN hi hx r1 (fun s2 I2=>hr pz s2 _ H1 D I2 q) hf
theorem E6.nox {st:List Stmt} {t:TS} (h:E6 X.nox st t):E6 X st t:=fun pz s σ H D I ht hw=>
 wpAny_mono (h pz s σ H D (I.wish _) ht hw) (fun _ _ q=>q.unwish) fun _ _ z=>False.elim z
end
theorem FT {CX:CXT} {P:Program} {w:World} {K:PySem.W.Frag} {mg:Str->Option Value} {base:Heap} {k:Nat} {f:Addr} {name qual p:Str} {params:Arguments} {body:List Stmt} {scope:Scope} {dV kV doc pm cdv ct oc:Value} {an od:Option Addr}
  {osl:Array (Option Value)} {N:List Str} {sp:Sp} (lk:K.lookup f=some ⟨oc,od,.func (dM name qual params body scope dV kV doc pm an cdv ct),osl⟩) (hcd:dN K cdv qual=true) (S:gy N [p] scope)
  (nc:∀x∈scope.names,x.2≠ .cell) (nc2:∀n,cellsFrom n scope.names []=[]) (len:∀vs H Q E,sp vs H Q E->vs.length=1)
  (hbody:∀(A:Around) (outer:List Env) (s:Shared) (H:Hp) (vs:List V) (Q:VK) (E:XK),lu k (A.deeper (envOfC qual scope s.heap.objs.size f cdv))->sp vs H Q E->
   ∃t,E6 (qE CX P w K mg base N qual scope f cdv A outer s H E) body t/\t {nx:=fun _ H'=>Q .non H',rt:=Q} (ox N vs) H):
  ow P w K mg base CX (k+ 1) f (dM name qual params body scope dV kV doc pm an cdv ct) [p] sp:=by
 refine⟨len,fun A outer s H args us vs Q E hr e0 hb r hsp=>?_⟩
 have hl:=len _ _ _ _ hsp
 have hul:us.length=1:=by rw[<-r.length];exact hl
 obtain⟨u,rfl⟩:∃u,us=[u]:=by
  match us,hul with
  |[u],_=>exact⟨u,rfl⟩
 have KX:K.In s.heap:=e0.mod.kin.keeps fun b o e=>(e0.bs b o e).1
 have lim:s.heap.NoLimit:=e0.mod.nolimit.keeps fun b o e=>(e0.bs b o e).1
 have hpl:scope.names.lookup p=some .local:=by
  rcases S.par p (by simp)with q|q
  ·exact q
  ·exact absurd rfl (nc _ (PySem.mem_of_lookup q))
 refine codeAny_call_function hr.depth (KX _ _ lk) rfl S.co S.gen rfl (dO KX hcd) (hb _ _ _ _ ?_)
 refine wpAny_newFunctionEnv nc (fun x hx=>?_) (fun h' hn hs=>?_) S.kind
 ·have e:x=(p,u):=by simpa using hx
  rw[e]
  exact hpl
 have keep:∀b o,s.heap.get? b=some o->h'.get? b=some o:=fun b o e=>hs.extBut b o (cj (fN e)) (fS _ e)
 refine⟨lim.keeps keep,codeAny_func ?_⟩
 obtain⟨t,ht,hq⟩:=hbody A outer s H vs Q E (hr.deeper _) hsp
 have em:(fun x=>(bw [p] [u]).reverse.lookup x)=bindL (envOfC qual scope s.heap.objs.size f cdv).kindOf (bw [p] [u]) fun _=>none:=by
  funext x
  show(match x==p with|true=>some u|false=>none)=(if(envOfC qual scope s.heap.objs.size f cdv).kindOf p=some .local then fun y=>if y=p then some u else none else fun _=>none) x
  rw[gX (show(envOfC qual scope s.heap.objs.size f cdv).kindOf p=some .local from hpl)]
  cases e:x==p with
  |true=>rw[gX (eq_of_beq e)]
  |false=>rw[gN (ne_of_beq_false e)]
 have x:InCallC s s.heap.objs.size (bindL (envOfC qual scope s.heap.objs.size f cdv).kindOf (bw [p] [u]) fun _=>none) (cellsFrom (s.heap.objs.size+ 1) scope.names []) (bindC (envOfC qual scope s.heap.objs.size f cdv).kindOf (bw [p] [u]) fun _=>none)
   {s with heap:=h',toks:=s.toks+(bw [p] [u]).length}:=by
  rw[nc2]
  refine⟨⟨⟨h',_,rfl⟩,?_,keep,cq _⟩,fun n c e=>by simp at e,List.Pairwise.nil,fun n c e=>by simp at e⟩
  rw[<-em]
  exact hn
 have I:Inv (qE CX P w K mg base N qual scope f cdv A outer s H E) [] (ox N vs) H {s with heap:=h',toks:=s.toks+(bw [p] [u]).length}:=uC S hr.hd e0 hl r x
 have eenv:newEnv (dM name qual params body scope dV kV doc pm an cdv ct).scope s.heap.objs.size (dM name qual params body scope dV kV doc pm an cdv ct).globals (dM name qual params body scope dV kV doc pm an cdv ct).closure
   ((dM name qual params body scope dV kV doc pm an cdv ct).qualname++".<locals>.") (some f) (dM name qual params body scope dV kV doc pm an cdv ct).code none (dM name qual params body scope dV kV doc pm an cdv ct).builtins=envOfC qual scope s.heap.objs.size f cdv:=by
  unfold envOfC
  rw[nc2]
  rfl
 rw[eenv]
 have go:=ht [] _ (ox N vs) H _ I (by show 1<=s.toks+ 1;lia) hq
 refine wpAny_mono go (fun fl s' hs=>?_) fun e s' hs=>hs
 have fin:∀{σ':St} {H':Hp} {v:V} {u:Value},Inv (qE CX P w K mg base N qual scope f cdv A outer s H E) [] σ' H' s'->iP v u->Q v H'->CE outer P w H s Q u s':=
  fun{σ' H' v u} J rv q=>⟨v,H',J.os,J.bare,J.base,J.hok,rv,q⟩
 cases fl with
 |ret u=>
  obtain⟨v,σ',H',J,rv,q⟩:=hs
  exact fin J rv q
 |next=>
  obtain⟨σ',H',J,q⟩:=hs
  exact fin (v:=V.non) (u:=Value.none) J rfl q
 |brk=>
  obtain⟨_,_,_,q⟩:=hs
  exact False.elim q
 |cont=>
  obtain⟨_,_,_,q⟩:=hs
  exact False.elim q
section
variable {X:Cx} {st:Stmt} {rest:List Stmt} {t u:TS}
end
section
variable {P:Program} {w:World} {H H':Hp} {h h':Heap} {a:Addr} {o:HO}
theorem iD.there (x:iD P w H h a o):∃ob,h.get? a=some ob:=by
 cases o with
 |lst xs=>obtain⟨_,_,_,_,e⟩:=x;exact⟨_,e⟩
 |tup xs=>obtain⟨_,_,_,⟨ob,e,_⟩⟩:=x;exact⟨ob,e⟩
 |dK kvs=>obtain⟨_,_,_,_,ob,_,_,e,_⟩:=x;exact⟨ob,e⟩
 |dT kvs=>obtain⟨_,_,_,_,ob,_,_,e,_⟩:=x;exact⟨ob,e⟩
 |set S n=>obtain⟨ob,_,_,_,e,_⟩:=x;exact⟨ob,e⟩
 |ins C dx fs=>obtain⟨_,_,_,e,_⟩:=x;exact⟨_,e⟩
 |own y=>exact x
 |xd fs=>obtain⟨_,⟨ob,_,_,e,_⟩,_⟩:=x;exact⟨ob,e⟩
 |rng lo hi=>obtain⟨_,_,_,e⟩:=x;exact⟨_,e⟩
 |frz ob u=>obtain⟨e,_⟩:=x;exact⟨_,e⟩
 |tbl ps=>exact⟨_,x⟩
 |met f y=>exact⟨_,x⟩
 |ext φ=>exact x.2.1
end
structure Fl (P:Program) (w:World) (outer:List Env) (H:Hp) (s:Shared) (B:Heap) (H':Hp) (s':Shared):Prop where
 os:s'.os=s.os
 bare:AllBare s'.gens
 un:Un (frs outer) [] H H' s.heap s'.heap
 hok:HOk P w H' s'.heap
 stay:B.StaysIn s'.heap
 trk:∀b u,H' b=some u->∃o,B.get? b=some o
 old:∀b o,s.heap.get? b=some o->b∉frs outer->∃o',B.get? b=some o'
def CXE (P:Program) (w:World):CXT:=fun outer H s E e s'=>∃(ea:Addr) (cls a0:Value) (B:Heap) (H':Hp),e= .ref ea/\Fl P w outer H s B H' s'/\Heap.FlyingW B outer ea cls a0 s'.heap/\E cls none H'
section
variable {X:Cx} {pz:AoL} {σ:St} {H H':Hp} {s s':Shared} {B h:Heap}
theorem Inv.nst (I:Inv X pz σ H s) {b:Addr} (h1:b≠X.env.locals) (h2:b∉X.fs):b∉frs X.stack:=fun hb=>(aj.mp (I.stkSub b hb)).elim h1 h2
theorem Inv.oldNe (I:Inv X pz σ H s) {b:Addr} {o:Obj} (e:X.s₀.heap.get? b=some o):b≠X.env.locals:=cj (cf (fN e) I.ok.above)
theorem Inv.flown (I:Inv X pz σ H s) (F:Fl X.prog X.w X.stack H s B H' s') (st:B.StaysIn h) (up:s'.heap.UpToSlots h):Inv X pz σ H' {s' with heap:=h}:=by
 have J:Inv X pz σ H' s':=I.call' (ch:=[]) F.os F.un F.hok F.bare (fun b hb=>nomatch hb)
 have ex:∀b o o0,s'.heap.get? b=some o->s.heap.get? b=some o0->b∉frs X.stack->h.get? b=some o:=fun b o o0 e e0 hb=>by
  obtain⟨o1,e1⟩:=F.old b o0 e0 hb
  have e2:=F.stay b o1 e1
  rw[e]at e2
  cases e2
  exact st b o e1
 have fr:∀b o,b∈frs X.stack->s'.heap.get? b=some o->∃sl,h.get? b=some {o with slots:=sl}:=fun b o hb e=>by
  obtain⟨_,o1,e1,hd⟩:=J.stack.mem hb
  rw[e]at e1
  cases e1
  exact up b o e hd
 have cellK:∀c v,s'.heap.IsCell c v->h.IsCell c v:=fun c v ⟨o,ho,hd⟩=>by
  obtain⟨sl,e⟩:=up c o ho (fun vs z=>by rw[hd]at z;cases z)
  exact⟨_,e,hd⟩
 refine⟨J.ok,J.os,J.bare,⟨fun b o e n hf hx=>?_,fun b o e n hf hx=>?_,J.base.free,fun b o e hx=>?_,J.base.tups,J.base.frzs,J.base.tbls⟩,?_,fun y c e=>?_,J.free,J.freeC,fun p hp=>?_,fun b u e=>?_,J.len⟩
 ·exact ex b o o (J.base.keep b o e n hf hx) (I.base.keep b o e n hf hx) (I.nst (I.oldNe e) hf)
 ·obtain⟨sl,e1⟩:=J.base.slot b o e n hf hx
  obtain⟨_,o1,e2,hd⟩:=J.funs.mem hf
  rw[e1]at e2
  cases e2
  obtain⟨sl',e3⟩:=up b _ e1 hd
  exact⟨sl',e3⟩
 ·obtain⟨o',e1⟩:=J.base.there b o e hx
  by_cases hb:b∈frs X.stack
  ·obtain⟨sl,e2⟩:=fr b o' hb e1
   exact⟨_,e2⟩
  ·obtain⟨o0,e0⟩:=I.base.there b o e hx
   exact⟨o',ex b o' o0 e1 e0 hb⟩
 ·obtain⟨m,hn,hl⟩:=J.loc
  refine⟨m,up.ns hn,fun i x v e1 e2 e3=>?_⟩
  obtain⟨u,r,l⟩:=hl i x v e1 e2 e3
  refine⟨u,r,?_⟩
  rcases l with l|⟨k,c,e,z⟩
  ·exact .inl l
  ·exact .inr ⟨k,c,e,cellK _ _ z⟩
 ·obtain⟨v,z⟩:=J.cell y c e
  exact⟨v,cellK _ _ z⟩
 ·obtain⟨e,n,ne,nf,d⟩:=J.pin p hp
  exact⟨ex p.1 p.2 p.2 e (I.pin p hp).1 (I.nst ne nf),n,ne,nf,d⟩
 ·refine(J.hok b u e).stay (fun c v hc q=>?_) (fun _ z=>z) fun _ _ z=>z
  have tr:∃u',H' c=some u':=by
   rcases hc with z|z
   ·rw[z];exact⟨u,e⟩
   ·exact⟨_,z⟩
  obtain⟨u',hu⟩:=tr
  obtain⟨o1,e1⟩:=F.trk c u' hu
  have e2:=F.stay c o1 e1
  rw[q]at e2
  cases e2
  exact st c v e1
theorem Inv.track {ea:Addr} {o:HO} (I:Inv X pz σ H s) (hn:H ea=none) (h0:X.s₀.heap.get? ea=none) (hL:ea≠X.env.locals) (hC:∀x c,X.env.cells.lookup x=some c->c≠ea) (hP:∀p∈X.pn++pz,p.1≠ea)
  (new:iD X.prog X.w (upd H ea o) s.heap ea o):Inv X pz σ (upd H ea o) s:=by
 have ne:∀b u,H b=some u->b≠ea:=fun b u e z=>by rw[z,hn]at e;cases e
 refine⟨I.ok,I.os,I.bare,⟨I.base.keep,I.base.slot,fun b ob e n hx=>?_,I.base.there,fun b xs e=>?_,fun b ob u e=>?_,fun b ps e=>?_⟩,I.loc,I.cell,?_,fun x c e=>?_,fun p hp=>?_,fun b u e=>?_,I.len⟩
 ·rw[gw (fun z=>by rw[z,h0]at e;cases e)]
  exact I.base.free b ob e n hx
 ·have e1:=I.base.tups b xs e
  rw[gw (ne b _ e1)]
  exact e1
 ·have e1:=I.base.frzs b ob u e
  rw[gw (ne b _ e1)]
  exact e1
 ·obtain⟨more,e1⟩:=I.base.tbls b ps e
  exact⟨more,by rw[gw (ne b _ e1)];exact e1⟩
 ·rw[gw (Ne.symm hL)]
  exact I.free
 ·rw[gw (hC x c e)]
  exact I.freeC x c e
 ·obtain⟨e,n,n2,nf,d⟩:=I.pin p hp
  exact⟨e,by rw[gw (hP p hp)];exact n,n2,nf,d⟩
 ·by_cases hb:b=ea
  ·subst hb
   rw[gh]at e
   cases e
   exact new
  ·rw[gw hb]at e
   exact(I.hok b u e).stay (fun _ _ _ q=>q) (fun c z=>by rw[gw (ne c _ z)];exact z) fun c xs z=>by rw[gw (ne c _ z)];exact z
theorem zN {M:Model} {A:Around} {E:EvP} {i:Nat} {x:Str} {pos:Pos} {Q:Unit->Shared->Prop} (I:Inv X pz σ H s) (hN:X.N.Nodup) (hi:X.N[i]?=some x) (hx:X.env.scope.names.lookup x=some .local)
  (h:∀s',Inv X pz (σ.set i none) H s'->Q () s'):wpAny M A (do bindName X.env x .none;unbindBehindTheSuite X.env x pos) Q E s:=by
 obtain⟨m,hn,hl⟩:=id I.loc
 have hcls:(X.env.scope.kind== .class||(X.env.scope.kind== .module&&X.env.locals !=X.env.globals))=false:=by rw[I.ok.kind];rfl
 refine wpAny_nameGoes_keeps hx hn hcls fun h' v hn' hs=>?_
 have old:∀b o,X.s₀.heap.get? b=some o->h'.get? b=s.heap.get? b:=fun b o e=>hs.2 b (I.oldNe e)
 have tr:∀b u,H b=some u->h'.get? b=s.heap.get? b:=fun b u e=>hs.2 b (fun z=>by rw[z,I.free]at e;cases e)
 refine h _ ⟨I.ok,I.os,I.bare,⟨fun b o e n hf hx'=>?_,fun b o e n hf hx'=>?_,I.base.free,fun b o e hx'=>?_,I.base.tups,I.base.frzs,I.base.tbls⟩,⟨_,hn',fun j y v' e1 e2 e3=>?_⟩,fun y c e=>?_,I.free,I.freeC,fun p hp=>?_,fun b u e=>?_,by simpa using I.len⟩
 ·show h'.get? b=_
  rw[old b o e]
  exact I.base.keep b o e n hf hx'
 ·show ∃sl,h'.get? b=_
  rw[old b o e]
  exact I.base.slot b o e n hf hx'
 ·show ∃o',h'.get? b=_
  rw[old b o e]
  exact I.base.there b o e hx'
 ·have hj:j≠i:=fun z=>by
   rw[z]at e2
   have hiσ:i<σ.length:=by rw[I.len];exact(au.mp hi).1
   rw[av hiσ]at e2
   cases e2
  rw[aw (Ne.symm hj)]at e2
  obtain⟨u,r,q⟩:=hl j y v' e1 e2 e3
  refine⟨u,r,?_⟩
  rcases q with⟨k,e⟩|⟨k,c,e,z⟩
  ·have yx:y≠x:=fun e=>hj (sH hN e1 (e▸hi))
   exact .inl ⟨k,by show(if y=x then v else m y)=some u;rw[gN yx];exact e⟩
  ·exact .inr ⟨k,c,e,z.sameBut hs (I.cne y c e)⟩
 ·obtain⟨w',z⟩:=I.cell y c e
  exact⟨w',z.sameBut hs (I.cne y c e)⟩
 ·obtain⟨e,n,ne,nf,d⟩:=I.pin p hp
  exact⟨(hs.2 p.1 ne).trans e,n,ne,nf,d⟩
 ·refine(I.hok b u e).stay (fun c v hc q=>?_) (fun _ z=>z) fun _ _ z=>z
  show h'.get? c=_
  rcases hc with z|z
  ·rw[z]at q⊢
   rw[tr b u e]
   exact q
  ·rw[tr c _ z]
   exact q
end
section
variable {P:Program} {w:World} {K:PySem.W.Frag} {mg:Str->Option Value} {base:Heap} {N:List Str} {qual:Str} {scope:Scope} {f:Addr} {cd:Value} {A:Around} {outer:List Env} {s₀:Shared} {H₀:Hp} {E:XK}
theorem kb:mj (CXE P w) (qE (CXE P w) P w K mg base N qual scope f cd A outer s₀ H₀ E) E:=by
 intro pz σ H s e s' I hx
 obtain⟨ea,cls,a0,B,H',rfl,F,fl,q⟩:=hx
 show wpAny _ _ (leaving _ (.ref ea)) _ _ s'
 refine wpAny_leaves_onW (outer:=outer) I.ok.frames rfl fl fun h' fl' up=>?_
 have J:=I.flown F fl'.1 up
 refine⟨ea,cls,a0,B,H',rfl,⟨J.os,J.bare,J.base,J.hok,fl'.1,F.trk,fun b o e hb=>?_⟩,fl',q⟩
 obtain⟨o1,e1⟩:=I.base.there b o e (fun z=>nomatch z)
 exact F.old b o1 e1 (I.nst (I.oldNe e) hb)
theorem CJ {pz:AoL} {σ:St} {H:Hp} {s:Shared} {h':Heap} {ea:Addr} {cls:Value} {vs:List Value}
  (I:Inv (qE (CXE P w) P w K mg base N qual scope f cd A outer s₀ H₀ E) pz σ H s) (hx:Heap.MadeExcOf s.heap h' ea cls vs) (q:E cls none H):
  (qE (CXE P w) P w K mg base N qual scope f cd A outer s₀ H₀ E).xe (.ref ea) {s with heap:=h'}:=by
 generalize hX:qE (CXE P w) P w K mg base N qual scope f cd A outer s₀ H₀ E=X at I
 have hst:X.stack=envOfC qual scope s₀.heap.objs.size f cd::outer:=by rw[<-hX];rfl
 have B1:∀b o,s.heap.get? b=some o->b∉frs X.stack->(cQ s.heap (frs X.stack)).get? b=some o:=fun b o e hb=>cR _ e hb
 have F:Fl X.prog X.w X.stack H s (cQ s.heap (frs X.stack)) H {s with heap:=h'}:=by
  refine⟨rfl,I.bare,Un.kept hx.keeps,I.hok.kept hx.keeps,fun b o e=>hx.keeps b o (cU _ e),fun b u e=>?_,fun b o e hb=>⟨o,B1 b o e hb⟩⟩
  obtain⟨ob,eo⟩:=(I.hok b u e).there
  exact⟨ob,B1 b ob eo fun hb=>by rw[I.stkFree b hb]at e;cases e⟩
 have fr:s.heap.FunFrames (cQ s.heap (frs X.stack)) X.stack:=dP I.stack fun env he a ha=>ax.mpr ⟨env,he,ha⟩
 have hA:X.A.frames=some X.stack:=I.ok.frames
 rw[hst]at fr hA F B1
 subst hX
 show wpAny _ _ (leaving _ (.ref ea)) _ _ _
 refine wpAny_leaves_madeW (outer:=outer) hA rfl (fun b o e=>cU _ e) fr hx fun h'' t fl _ _ up=>?_
 have J:=I.flown F fl.1 up
 refine⟨ea,cls,_,_,H,rfl,⟨J.os,J.bare,J.base,J.hok,fl.1,F.trk,fun b o e hb=>?_⟩,fl,q⟩
 obtain⟨o1,e1⟩:=I.base.there b o e (fun z=>nomatch z)
 exact F.old b o1 e1 (I.nst (I.oldNe e) hb)
end
theorem DR {K:PySem.W.Frag} {h:Heap} {C:Addr} {bmB:List Value} {newId:String} (hk:K.In h) (z:dQ K C bmB newId=true):
  ∃bm N nm q bs hdct sn sub ab col dd k0 k1 k2 k3 k5 mN,h.get? C=some (excClassObj nm q C N bs bm hdct sn sub ab col dd k0 k1 k2 k3 k5 newId)/\h.Ns N mN/\mN "__init__"=none/\OwnTail h bmB bm:=by
 unfold dQ at z
 split at z
 case h_2=>cases z
 rename_i d1 c1 l1 look
 split at z
 case h_2=>cases z
 rename_i C1 tail a0 a1 a2 a3 nid a5 hmro hslots
 simp only[eZ,beq_iff_eq,Bool.not_eq_true']at z
 obtain⟨⟨⟨⟨⟨rfl,rfl⟩,z3⟩,z4⟩,z5⟩,z6⟩:=z
 obtain⟨x1,x2,x3,x4,x5,x6,x7,x8,x9,x10,x11⟩:=c1
 dsimp only at hmro z3 z5 z6
 subst hmro z3
 obtain⟨ll⟩:=l1
 have hll:ll=[a0,a1,a2,a3,some (.builtin nid),a5]:=hslots
 subst hll
 exact⟨tail,x4,x1,x5,x2,x6,x7,x8,x9,x10,d1,a0,a1,a2,a3,a5,_,hk _ _ look,.of_isNs (dR hk z5),PySem.W.nsMap_none_of_in hk z5 z6,dS hk z4⟩
def CK:List Value:=[.type "ValueError",.type "Exception",.type "BaseException",.type "object"]
abbrev Hv (K:PySem.W.Frag) (C:Addr):Prop:=dQ K C CK "ValueError.__new__"=true
section
variable {X:Cx} {C:Addr} {E:XK} {x:Str} {np cpos pos:Pos} {e:Expr} {es:List Expr} {t:TA}
def zO (X:Cx) (E:XK):Prop:=∀(pz:AoL) (σ:St) (H:Hp) (s:Shared) (h':Heap) (ea:Addr) (cls:Value) (vs:List Value),Inv X pz σ H s->Heap.MadeExcOf s.heap h' ea cls vs->E cls none H->X.xe (.ref ea) {s with heap:=h'}
theorem lH {P:Program} {w:World} {K:PySem.W.Frag} {mg:Str->Option Value} {base:Heap} {N:List Str} {qual:Str} {scope:Scope} {f:Addr} {cd:Value} {A:Around} {outer:List Env} {s₀:Shared} {H₀:Hp} {E:XK}:
  zO (qE (CXE P w) P w K mg base N qual scope f cd A outer s₀ H₀ E) E:=fun _ _ _ _ _ _ _ _ I hx q=>CJ I hx q
def CL (C:Addr) (E:XK) (t:TA):TS:=fun _ σ H=>t σ H fun vs H1=>vs.length<=sizeLine/\E (.ref C) none H1
theorem jH (hc:X.calm=true) (hl:zO X E) (xc:Hv X.K C) (hg:Gl X x) (hm:X.mg x=some (.ref C)) (ha:PA X (e::es) t) (hst:autoParam (starEach (e::es) X.env=(false,eval e X.env)::starEach es X.env) auR._auto_1)
  (hpl:autoParam ((backTo cpos (starEach es X.env)).any (·.1)=false) auR._auto_1) (hd:autoParam ((x==("__debug__":Str))=false) auD._auto_1):PS X (.Raise (some (.Call (.Name x np) (e::es) [] cpos)) none pos) (CL C E t):=by
 intro pz s σ H D I h
 obtain⟨tl,N,nm,q,bs,hdct,sn,sub,ab,col,dd,k0,k1,k2,k3,k5,mN,hC,hN,hni,T⟩:=DR I.mod.kin xc
 have kp:∀{s1:Shared} {H1:Hp},Inv X pz σ H1 s1->∀b o,X.base.get? b=some o->s1.heap.get? b=some o:=fun I1=>I1.bk
 refine wpAny_Raise_call_subT (C:=C) (nm:=nm) (q:=q) (N:=N) (bs:=bs) (bm:=tl) (hdct:=hdct) (sn:=sn) (sub:=sub) (ab:=ab) (col:=col) (dd:=dd) (k0:=k0) (k1:=k1) (k2:=k2) (k3:=k3) (k5:=k5)
  eM (mN:=mN) (T.hasType eM.hasBase) (I.ok.hd hc) ?_ hni (mf I hg hm ⟨rfl,?_⟩ hd)
 ·rw[hst]
  show(false||(backTo cpos (starEach es X.env)).any (·.1))=false
  rw[hpl]
  rfl
 have h2:=ha cpos pz s σ H _ I h
 rw[hst]at h2⊢
 refine Calls.evalArgs_plain (wpAny_mono h2 (fun us s1 h3=>?_) fun _ _ z=>z)
 obtain⟨vs,H1,I1,r,hz,q1⟩:=h3
 refine⟨rfl,by rw[<-r.length];exact hz,kp I1 _ _ hC,hN.keeps (kp I1),T.keeps (kp I1),fun h' ea hx=>hl pz σ H1 s1 h' ea _ us I1 hx q1⟩
end
section
variable {P:Program} {w:World} {K:PySem.W.Frag} {mg:Str->Option Value} {base:Heap}
theorem Fun.okE {x qual:Str} {st:Stmt} {f:Addr} {fd:FuncData} {N ps:List Str} {k:Nat} {sp:Sp} (F:Fun K x qual st f fd) (S:gy N ps (gu st)) (len:∀vs H Q E,sp vs H Q E->vs.length=ps.length)
  (hbody:∀(cdv:Value) (A:Around) (outer:List Env) (s:Shared) (H:Hp) (vs:List V) (Q:VK) (E:XK),lu k (A.deeper (envOfC qual (gu st) s.heap.objs.size f cdv))->sp vs H Q E->
   ∃t,PSs (qE (CXE P w) P w K mg base N qual (gu st) f cdv A outer s H E) (jG st) t/\t {nx:=fun _ H'=>Q .non H',rt:=Q} (ox N vs) H):ow P w K mg base (CXE P w) (k+ 1) f fd ps sp:=by
 obtain⟨oc,od,kV,doc,pm,an,cdv,ct,osl,efd,lk,hcd⟩:=F.ex
 subst efd
 exact DG lk hcd S len (fun A outer s H vs Q E hr h=>hbody cdv A outer s H vs Q E hr h)
end
def BG (ea:Addr) (cls:Value):HO:= .ext fun h=>∃o,h.get? ea=some o/\o.cls=cls
theorem DS {P:Program} {w:World} {H:Hp} {h:Heap} {ea:Addr} {cls:Value} {o:Obj} (e:h.get? ea=some o) (c:o.cls=cls):iD P w H h ea (BG ea cls):=
 ⟨⟨o,e,c⟩,⟨o,e⟩,fun h1 h2 ⟨o1,e1,c1⟩ k=>⟨o1,k o1 e1,c1⟩⟩
abbrev Cx.hand (X:Cx) (ea:Addr):Cx:={X with A:=X.A.mark (some (.ref ea)),calm:=false,xe:=fun _ _=>False}
section
variable {X:Cx} {pz:AoL} {σ:St} {H:Hp} {s:Shared}
theorem Inv.hand (I:Inv X pz σ H s) (ea:Addr):Inv (X.hand ea) pz σ H s:=
 ⟨⟨I.ok.mod,I.ok.kind,I.ok.glob,I.ok.blt,I.ok.above,I.ok.inj,I.ok.has,I.ok.cab,(fun z=>nomatch z),I.ok.frames,I.ok.stk,I.ok.exf,I.ok.bs,I.ok.bsz,I.ok.noex,I.ok.exfs,I.ok.funs,I.ok.frf⟩,I.os,I.bare,I.base,I.loc,I.cell,I.free,I.freeC,I.pin,I.hok,I.len⟩
theorem Inv.unhand {ea:Addr} (I:Inv (X.hand ea) pz σ H s) (ok:X.Ok):Inv X pz σ H s:=
 ⟨ok,I.os,I.bare,I.base,I.loc,I.cell,I.free,I.freeC,I.pin,I.hok,I.len⟩
end
section
variable {X:Cx} {CX:CXT} {k:Nat} {f Y:Addr} {fd:FuncData} {ps:List Str} {sp:Sp} {dvs:List V} {ds:List Value} {E:XK} {x y n:Str} {p pos pos' py hpos tpos:Pos} {e:Expr} {es:List Expr} {t:TA} {b₀:Stmt} {body:List Stmt} {tb:TS} {i:Nat}
theorem DT {E':EvP} {pz:AoL} {σ:St} {H:Hp} {s:Shared} {Q:VK} {us:List Value} {vs:List V} (F:ow X.prog X.w X.K X.mg X.base CX k f fd ps sp) (hr:lu k X.A) (hb:m9 X.K fd ps ds) (hd:iO dvs ds)
  (hx:∀e s',CX X.stack H s E e s'->E' e s') (I:Inv X pz σ H s) (r:iO vs us) (h:sp (vs++dvs) H Q E):wpAny (model X.prog X.w) X.A (call (.ref f) us) (EP X pz σ Q) E' s:=by
 have r2:iO (vs++dvs) (us++ds):=r.append hd
 have hl:(us++ds).length=ps.length:=by rw[<-r2.length];exact F.len _ _ _ _ h
 refine wpAny_call (codeAny_mono (F.run X.A X.stack s H ⟨us,[]⟩ (us++ds) (vs++dvs) Q E hr I.env0 (hb s us I.kIn hl) r2 h) fun r s' hq=>?_)
 cases r with
 |error e=>exact hx e s' hq
 |ok fl=>
  cases fl with
  |ret u=>exact I.after hq
  |next=>exact False.elim hq
  |brk=>exact False.elim hq
  |cont=>exact False.elim hq
end
section
variable {X:Cx} {e:Expr} {es:List Expr} {te:TE} {pos:Pos}
def tFV (te:TE):TE:=fun σ H Q=>te σ H fun v H1=>(∃x,v= .str x/\x.length<=sizeLine/\Q (.str x) H1)\/∃i:Int,v= .int i/\i.natAbs.log2<1920/\Q (.str (toString i)) H1
theorem vU (he:PE X e te):PE X (.FormattedValue e (-1) none pos) (tFV te):=by
 intro pz s σ H Q I h
 refine wpAny_FormattedValue_plain (thn (he pz s σ H _ I h) fun u s1 ⟨v,H1,I1,r,q⟩=>?_)
 rcases q with⟨x,rfl,hz,q⟩|⟨i,rfl,hl,q⟩
 ·obtain⟨t,rfl⟩:=r
  exact formatField_str (fun t' tk=>⟨.str x,H1,I1.tok tk,⟨t',rfl⟩,q⟩) hz
 ·obtain⟨t,rfl⟩:=r
  exact wpAny_formatField_int hl ⟨.str _,H1,I1.tok _,⟨_,rfl⟩,q⟩
def tFVr (te:TE):TE:=fun σ H Q=>te σ H fun v H1=>∃x,v= .str x/\(reprText x).length<=sizeLine/\Q (.str (reprText x)) H1
theorem uM (he:PE X e te):PE X (.FormattedValue e 114 none pos) (tFVr te):=by
 intro pz s σ H Q I h
 refine wpAny_FormattedValue_repr (thn (he pz s σ H _ I h) fun u s1 ⟨v,H1,I1,r,q⟩=>?_)
 obtain⟨x,rfl,hz,q⟩:=q
 obtain⟨t,rfl⟩:=r
 exact wpAny_pyReprObj_str (formatField_str (fun t' tk=>⟨.str _,H1,I1.tok tk,⟨t',rfl⟩,q⟩) hz) hz
def PJ (X:Cx) (es:List Expr) (t:Str->TE):Prop:=
 ∀(pz:AoL) (s:Shared) (σ:St) (H:Hp) (Q:VK) (acc:Str),Inv X pz σ H s->t acc σ H Q->wpAny (model X.prog X.w) X.A (joinParts acc (evalEach es X.env)) (EP X pz σ Q) X.xe s
def tJ0:Str->TE:=fun acc _ H Q=>acc.length<=sizeLine/\Q (.str acc) H
def tJ (te:TE) (t:Str->TE):Str->TE:=fun acc σ H Q=>te σ H fun v H1=>∃y,v= .str y/\(acc++y).length<=sizeLine/\t (acc++y) σ H1 Q
theorem pX:PJ X [] tJ0:=fun pz s σ H Q acc I h=>joinParts_nil ⟨.str acc,H,I.tok _,⟨_,rfl⟩,h.2⟩ h.1
theorem iB {t:Str->TE} (he:PE X e te) (hr:PJ X es t):PJ X (e::es) (tJ te t):=by
 intro pz s σ H Q acc I h
 refine joinParts_cons (thn (he pz s σ H _ I h) fun u s1 ⟨v,H1,I1,r,q⟩=>?_)
 obtain⟨y,rfl,hz,q⟩:=q
 obtain⟨t',rfl⟩:=r
 exact⟨hz,hr pz s1 σ H1 Q _ I1 q⟩
theorem mq {e2:Expr} {t:Str->TE} (h:PJ X (e::e2::es) t):PE X (.JoinedStr (e::e2::es) pos) (t Str.empty):=fun pz s σ H Q I hw=>JoinedStr_many (h pz s σ H Q _ I hw)
end
theorem Ic {P:Program} {w:World} {X:Cx}:mj (CXE P w) X E0:=fun _ _ _ _ _ _ _ h=>by
 obtain⟨_,_,_,_,_,_,_,_,z⟩:=h
 exact z.elim
section
variable {X:Cx}
theorem uN:kT X (.type "int") (fun xs H Q=>∃x n,xs=[.str x]/\intText? x=some n/\x.length<=640/\Q (.int n) H):=by
 intro pz s σ H xs us Q I r h
 obtain⟨x,n,rfl,hn,hl,q⟩:=h
 obtain⟨u,rfl,rx⟩:=m8 r
 obtain⟨t,rfl⟩:=rx
 exact PySem.W.KIN.call_text hn hl ⟨.int n,H,I.tok _,⟨_,rfl⟩,q⟩
end
inductive Dt where
 |flat (v:V)
 |tup (l:List Dt)
 |lst (l:List Dt)
mutual
inductive At (K:PySem.W.Frag) (H:Hp):V->Dt->Prop where
 |flat {v:V} (h:nH v=true):At K H v (.flat v)
 |tup {a:Addr} {xs:List V} {ds:List Dt} (h:SqT K H a xs) (hs:Ats K H xs ds):At K H (.ref a) (.tup ds)
 |lst {a:Addr} {xs:List V} {ds:List Dt} (h:SqL K H a xs) (hs:Ats K H xs ds):At K H (.ref a) (.lst ds)
inductive Ats (K:PySem.W.Frag) (H:Hp):List V->List Dt->Prop where
 |nil:Ats K H [] []
 |cons {x:V} {d:Dt} {xs:List V} {ds:List Dt} (h:At K H x d) (hs:Ats K H xs ds):Ats K H (x::xs) (d::ds)
end
mutual
def eqD:Dt->Dt->Bool
 | .flat a,.flat b=>eqV a b
 | .tup l,.tup m=>vy l m
 | .lst l,.lst m=>vy l m
 |_,_=>false
def vy:List Dt->List Dt->Bool
 |[],[]=>true
 |x::xs,y::ys=>eqD x y&&vy xs ys
 |_,_=>false
end
mutual
def qa:Dt->Dt->Bool
 | .flat _,.flat _=>true
 | .tup l,.tup m=>rM l m
 | .lst l,.lst m=>if l.length=m.length then rM l m else true
 |_,_=>false
def rM:List Dt->List Dt->Bool
 |x::xs,y::ys=>qa x y&&rM xs ys
 |_,_=>true
end
mutual
def nk:Dt->Nat
 | .flat _=>0
 | .tup l=>iY l+ 1
 | .lst l=>iY l+ 1
def iY:List Dt->Nat
 |[]=>0
 |x::xs=>max (nk x) (iY xs)
end
theorem Ats.length {K:PySem.W.Frag} {H:Hp}:∀{xs:List V} {ds:List Dt},Ats K H xs ds->xs.length=ds.length
 |_,_,.nil=>rfl
 |_,_,.cons _ t=>by rw[az,az,Ats.length t]
theorem Ats.get {K:PySem.W.Frag} {H:Hp}:∀{xs:List V} {ds:List Dt} {j:Nat} {x:V},Ats K H xs ds->xs[j]?=some x->∃d,ds[j]?=some d/\At K H x d
 |_,_,0,_,.cons h _,e=>⟨_,rfl,by cases e;exact h⟩
 |_,_,j+ 1,_,.cons _ t,e=>Ats.get (j:=j) t e
 |_,_,_,_,.nil,e=>by simp at e
theorem sS:∀(l m:List Dt),l.length≠m.length->vy l m=false
 |[],[],h=>absurd rfl h
 |x::xs,y::ys,h=>by
  rw[vy,sS xs ys (fun e=>h (by rw[az,az,e])),fc]
 |[],y::ys,_=>by rw[vy];all_goals simp
 |x::xs,[],_=>by rw[vy];all_goals simp
def yt (l m:List Dt) (j:Nat):Bool:=match l[j]?,m[j]? with
 |some a,some b=>eqD a b
 |_,_=>false
theorem oW:∀(l m:List Dt),l.length=m.length->((aa l.length).all fun j=>yt l m j)=vy l m
 |[],[],_=>by rw[vy];rfl
 |x::xs,y::ys,h=>by
  have ih:=oW xs ys (by simpa using h)
  rw[az,bq,aW,br,vy,<-ih]
  rfl
 |[],_::_,h=>by simp at h
 |_::_,[],h=>by simp at h
theorem mr:∀{l m:List Dt} {j:Nat} {a b:Dt},rM l m=true->l[j]?=some a->m[j]?=some b->qa a b=true
 |x::xs,y::ys,0,a,b,h,e1,e2=>by
  rw[rM,eZ]at h
  cases e1
  cases e2
  exact h.1
 |x::xs,y::ys,j+ 1,a,b,h,e1,e2=>by
  rw[rM,eZ]at h
  exact mr (j:=j) h.2 e1 e2
 |[],_,_,_,_,_,e1,_=>by simp at e1
 |_::_,[],_,_,_,_,_,e2=>by simp at e2
theorem depDs_get:∀{l:List Dt} {j:Nat} {a:Dt},l[j]?=some a->nk a<=iY l
 |x::xs,0,a,e=>by cases e;rw[iY];exact Nat.le_max_left ..
 |x::xs,j+ 1,a,e=>by rw[iY];exact ck (depDs_get (j:=j) e) (Nat.le_max_right ..)
 |[],_,_,e=>by simp at e
theorem zP {v:V} (h:nH v=true):eqV v v=true:=by
 cases v with
 |non=>rfl
 |bl b=>show(b==b)=true;simp
 |int i=>show(i==i)=true;simp
 |str x=>show(x==x)=true;simp
 |_=>exact absurd h eX
section
variable {X:Cx} {pz:AoL} {σ:St} {H:Hp} {s:Shared}
mutual
theorem At.same (I:Inv X pz σ H s):∀{x:V} {d e:Dt},At X.K H x d->At X.K H x e->qa d e=true->eqD d e=true
 |_,_,_,.flat h,.flat _,_=>by rw[eqD];exact zP h
 |_,_,_,.tup h hs,.tup h' hs',c=>by
  have e:=I.tuple_inj h h'
  subst e
  rw[qa]at c
  rw[eqD]
  exact Ats.same I hs hs' c
 |_,_,_,.lst h hs,.lst h' hs',c=>by
  have e:=I.list_inj h h'
  subst e
  rw[qa,gX (hs.length.symm.trans hs'.length)]at c
  rw[eqD]
  exact Ats.same I hs hs' c
 |_,_,_,.flat h,.tup _ _,_=>absurd h eX
 |_,_,_,.flat h,.lst _ _,_=>absurd h eX
 |_,_,_,.tup _ _,.flat h,_=>absurd h eX
 |_,_,_,.lst _ _,.flat h,_=>absurd h eX
 |_,_,_,.tup _ _,.lst _ _,c=>by simp[qa]at c
 |_,_,_,.lst _ _,.tup _ _,c=>by simp[qa]at c
theorem Ats.same (I:Inv X pz σ H s):∀{xs:List V} {l m:List Dt},Ats X.K H xs l->Ats X.K H xs m->rM l m=true->vy l m=true
 |_,_,_,.nil,.nil,_=>by rw[vy]
 |_,_,_,.cons h t,.cons h' t',c=>by
  rw[rM,eZ]at c
  rw[vy,At.same I h h' c.1,Ats.same I t t' c.2]
  rfl
end
def Els (K:PySem.W.Frag) (H:Hp) (A:Around) (s:Shared) (ds es:List Dt):Prop:=
 ∀(j:Nat) (d1 d2:Dt) (x y:V) (u v:Value),ds[j]?=some d1->es[j]?=some d2->iP x u->iP y v->At K H x d1->At K H y d2->SeqAt.EqAt A s u v (eqD d1 d2)
theorem els {A:Around} {xs ys:List V} {its its2:List Value} {ds es:List Dt} (r:iO xs its) (r2:iO ys its2) (hs:Ats X.K H xs ds) (hs':Ats X.K H ys es) (EL:Els X.K H A s ds es):
  ∀j (h1:j<its.toArray.size) (h2:j<its2.toArray.size),SeqAt.EqAt A s its.toArray[j] its2.toArray[j] (yt ds es j):=fun j h1 h2=>by
 have l1:=r.length
 have l2:=r2.length
 have h1':j<xs.length:=by simp only[aT]at h1;lia
 have h2':j<ys.length:=by simp only[aT]at h2;lia
 obtain⟨w1,e1,q1⟩:=r.get (bu h1')
 obtain⟨w2,e2,q2⟩:=r2.get (bu h2')
 obtain⟨d1,f1,p1⟩:=hs.get (bu h1')
 obtain⟨d2,f2,p2⟩:=hs'.get (bu h2')
 have g1:its.toArray[j]=w1:=by simpa using(au.mp e1).2
 have g2:its2.toArray[j]=w2:=by simpa using(au.mp e2).2
 have ed:yt ds es j=eqD d1 d2:=by unfold yt;rw[f1,f2]
 rw[g1,g2,ed]
 exact EL j d1 d2 _ _ _ _ f1 f2 q1 q2 p1 p2
theorem DU {ds es:List Dt} {n m:Nat} (h1:n=ds.length) (h2:m=es.length):((aa (min n m)).all (yt ds es)&&n==m)=eqD (.tup ds) (.tup es):=by
 subst h1 h2
 rw[eqD]
 by_cases hl:ds.length=es.length
 ·rw[<-oW ds es hl,<-hl,Nat.min_self]
  simp
 ·rw[sS ds es hl,beq_eq_false_iff_ne.mpr hl,fc]
theorem DV {ds es:List Dt} {n:Nat} (h1:n=ds.length) (h:ds.length=es.length):((aa n).all (yt ds es))=eqD (.lst ds) (.lst es):=by
 subst h1
 rw[eqD,<-oW ds es h]
theorem CM {A:Around} {a b:Addr} {xs ys:List V} {ds es:List Dt} (I:Inv X pz σ H s) (h:SqT X.K H a xs) (hs:Ats X.K H xs ds) (h':SqT X.K H b ys) (hs':Ats X.K H ys es) (hu:A.units<cLine) (EL:Els X.K H A.in1 s ds es):
  SeqAt.RcAt A s (.ref a) (.ref b) (eqD (.tup ds) (.tup es))/\SeqAt.RcNeAt A s (.ref a) (.ref b) (!eqD (.tup ds) (.tup es)):=by
 obtain⟨its,r,pl,_⟩:=I.tuple h
 obtain⟨its2,r2,pl2,_⟩:=I.tuple h'
 have e:=els r r2 hs hs' EL
 have l1:its.toArray.size=ds.length:=by rw[aT,<-r.length,hs.length]
 have l2:its2.toArray.size=es.length:=by rw[aT,<-r2.length,hs'.length]
 have k1:=SeqAt.RcAt.tuples (A:=A) (s:=s) pl pl2 hu e
 have k2:=SeqAt.RcNeAt.tuples (A:=A) (s:=s) pl pl2 hu e
 rw[DU l1 l2]at k1 k2
 exact⟨k1,k2⟩
theorem CN {A:Around} {a b:Addr} {xs ys:List V} {ds es:List Dt} (I:Inv X pz σ H s) (h:SqL X.K H a xs) (hs:Ats X.K H xs ds) (h':SqL X.K H b ys) (hs':Ats X.K H ys es) (hu:A.units<cLine) (EL:ds.length=es.length->Els X.K H A.in1 s ds es):
  SeqAt.RcAt A s (.ref a) (.ref b) (eqD (.lst ds) (.lst es))/\SeqAt.RcNeAt A s (.ref a) (.ref b) (!eqD (.lst ds) (.lst es)):=by
 obtain⟨its,r,pl,_⟩:=I.list h
 obtain⟨its2,r2,pl2,_⟩:=I.list h'
 have l1:its.toArray.size=ds.length:=by rw[aT,<-r.length,hs.length]
 have l2:its2.toArray.size=es.length:=by rw[aT,<-r2.length,hs'.length]
 by_cases hl:ds.length=es.length
 ·have e:=els r r2 hs hs' (EL hl)
  have k1:=SeqAt.RcAt.lists (A:=A) (s:=s) pl.isList pl2.isList (by rw[l1,l2,hl]) hu e
  have k2:=SeqAt.RcNeAt.lists (A:=A) (s:=s) pl.isList pl2.isList (by rw[l1,l2,hl]) hu e
  rw[DV l1 hl]at k1 k2
  exact⟨k1,k2⟩
 ·have hne:(its.toArray.size !=its2.toArray.size)=true:=by rw[l1,l2];exact bne_iff_ne.mpr hl
  have k1:=SeqAt.RcAt.lists_lengths (A:=A) (s:=s) pl.isList pl2.isList hne hu
  have k2:=SeqAt.RcNeAt.lists_lengths (A:=A) (s:=s) pl.isList pl2.isList hne hu
  rw[eqD,sS ds es hl]
  exact⟨k1,k2⟩
theorem CO (I:Inv X pz σ H s):∀(n:Nat) (A:Around) {x y:V} {u v:Value} {d e:Dt},iP x u->iP y v->At X.K H x d->At X.K H y e->qa d e=true->nk d<=n->A.units+n<cLine->SeqAt.EqAt A s u v (eqD d e):=by
 intro n
 induction n with
 |zero=>
  intro A x y u v d e rx ry hx hy c hd hu
  cases hx with
  |flat h=>
   cases hy with
   |flat h'=>rw[eqD];exact xn rx ry h h'
   |tup _ _=>simp[qa]at c
   |lst _ _=>simp[qa]at c
  |tup _ _=>rw[nk]at hd;lia
  |lst _ _=>rw[nk]at hd;lia
 |succ n ih=>
  intro A x y u v d e rx ry hx hy c hd hu
  cases hx with
  |flat h=>
   cases hy with
   |flat h'=>rw[eqD];exact xn rx ry h h'
   |tup _ _=>simp[qa]at c
   |lst _ _=>simp[qa]at c
  |@tup a xs ds h hs=>
   cases hy with
   |flat _=>simp[qa]at c
   |lst _ _=>simp[qa]at c
   |@tup b ys es h' hs'=>
    cases rx
    cases ry
    by_cases hab:a=b
    ·subst hab
     rw[At.same I (.tup h hs) (.tup h' hs') c]
     exact SeqAt.EqAt.same _
    ·rw[qa]at c
     rw[nk]at hd
     refine SeqAt.EqAt.of_refs hab (CM I h hs h' hs' (by lia) fun j d1 d2 x y u v f1 f2 q1 q2 p1 p2=>?_).1
     exact ih A.in1 q1 q2 p1 p2 (mr c f1 f2) (ck (depDs_get f1) (by lia)) (by show A.units+ 1+n<cLine;lia)
  |@lst a xs ds h hs=>
   cases hy with
   |flat _=>simp[qa]at c
   |tup _ _=>simp[qa]at c
   |@lst b ys es h' hs'=>
    cases rx
    cases ry
    by_cases hab:a=b
    ·subst hab
     rw[At.same I (.lst h hs) (.lst h' hs') c]
     exact SeqAt.EqAt.same _
    ·rw[nk]at hd
     refine SeqAt.EqAt.of_refs hab (CN I h hs h' hs' (by lia) fun hl j d1 d2 x y u v f1 f2 q1 q2 p1 p2=>?_).1
     rw[qa,gX hl]at c
     exact ih A.in1 q1 q2 p1 p2 (mr c f1 f2) (ck (depDs_get f1) (by lia)) (by show A.units+ 1+n<cLine;lia)
def JM (K:PySem.W.Frag) (neg:Bool):R2:=fun x y H Q=>∃a b d e,x= .ref a/\y= .ref b/\At K H x d/\At K H y e/\qa d e=true/\nk d<=100/\Q (.bl (if neg then !eqD d e else eqD d e)) H
theorem rcD (I:Inv X pz σ H s) {A:Around} {a b:Addr} {d e:Dt} (hx:At X.K H (.ref a) d) (hy:At X.K H (.ref b) e) (c:qa d e=true) (hd:nk d<=100) (hu:A.units+ 101<cLine):
  SeqAt.RcAt A s (.ref a) (.ref b) (eqD d e)/\SeqAt.RcNeAt A s (.ref a) (.ref b) (!eqD d e):=by
 cases hx with
 |flat h=>exact absurd h eX
 |@tup a xs ds h hs=>
  cases hy with
  |flat h=>exact absurd h eX
  |lst _ _=>simp[qa]at c
  |@tup b ys es h' hs'=>
   rw[qa]at c
   rw[nk]at hd
   refine CM I h hs h' hs' (by lia) fun j d1 d2 x y u v f1 f2 q1 q2 p1 p2=>?_
   exact CO I 100 A.in1 q1 q2 p1 p2 (mr c f1 f2) (ck (depDs_get f1) (by lia)) (by show A.units+ 1+ 100<cLine;lia)
 |@lst a xs ds h hs=>
  cases hy with
  |flat h=>exact absurd h eX
  |tup _ _=>simp[qa]at c
  |@lst b ys es h' hs'=>
   rw[nk]at hd
   refine CN I h hs h' hs' (by lia) fun hl j d1 d2 x y u v f1 f2 q1 q2 p1 p2=>?_
   rw[qa,gX hl]at c
   exact CO I 100 A.in1 q1 q2 p1 p2 (mr c f1 f2) (ck (depDs_get f1) (by lia)) (by show A.units+ 1+ 100<cLine;lia)
end
section
variable {X:Cx}
theorem FU {k:Nat} (hr:lu k X.A):OpR X (compareOp .Eq) (JM X.K false):=by
 intro pz s σ H x y v u Q I rx ry h
 obtain⟨a,b,d,e,rfl,rfl,hx,hy,c,hd,q⟩:=h
 cases rx
 cases ry
 have hu:=hr.un
 exact(rcD I hx hy c hd (by lia)).1 _ _ _ _ ⟨.bl _,H,I,rfl,q⟩
theorem FV {k:Nat} (hr:lu k X.A):OpR X (compareOp .NotEq) (JM X.K true):=by
 intro pz s σ H x y v u Q I rx ry h
 obtain⟨a,b,d,e,rfl,rfl,hx,hy,c,hd,q⟩:=h
 cases rx
 cases ry
 have hu:=hr.un
 exact(rcD I hx hy c hd (by lia)).2 _ _ _ _ ⟨.bl _,H,I,rfl,q⟩
end
def zQ (P:Program) (w:World) (K:PySem.W.Frag) (a:Addr) (kvs:List (Key×V)):Prop:=(a==sysModules)=false/\∃vs,KV kvs vs/\∀h:Heap,K.In h->h.DictOf (jq P w) a vs
theorem xw {P:Program} {w:World} {K:PySem.W.Frag} {a:Addr} {es:Array DictEntry} {n:Nat} {l:List (Str×Tok×Addr)} (ha:(a==sysModules)=false) (hl:K.lookup a=some ⟨.type "dict",none,.dict es n,#[]⟩)
  (he:es.toList=l.map fun p=>⟨PyData.keyHash w.params p.1,.str p.1 p.2.1,.ref p.2.2⟩) (hn:(l.map (·.1)).Nodup):zQ P w K a (l.map fun p=>(Sum.inr p.1,V.ref p.2.2)):=by
 refine⟨ha,l.map fun p=>(Sum.inr p.1,Value.ref p.2.2),?_,fun h hk=>?_⟩
 ·clear he hn
  induction l with
  |nil=>exact .nil
  |cons p r ih=>exact .cons ⟨rfl,rfl⟩ ih
 ·refine⟨_,es,n,hk _ _ hl,⟨rfl,rfl,rfl⟩,rfl,fun e hm=>?_,?_,?_⟩
  ·have hm':e∈es.toList:=by simpa using hm
   rw[he]at hm'
   obtain⟨p,_,rfl⟩:=aZ.mp hm'
   exact⟨Sum.inr p.1,qz p.1 p.2.1,rfl⟩
  ·rw[he]
   clear he hn
   induction l with
   |nil=>exact .nil
   |cons p r ih=>exact .cons (qz p.1 p.2.1) rfl ih
  ·rw[bx]
   have e:(List.map ((fun(x:Key×Value)=>x.1)∘fun(p:Str×Tok×Addr)=>((Sum.inr p.1:Key),Value.ref p.2.2)) l)=(l.map (·.1)).map (Sum.inr:Str->Key):=by
    rw[bx]
    rfl
   rw[e]
   exact List.Pairwise.map _ (fun a b h z=>h (Sum.inr.inj z)) hn
def DW (a:Addr) (kvs:List (Key×V)) (ty td:TE):TE:=fun σ H Q=>ty σ H fun y H1=>td σ H1 fun x H2=>∃k,x= .ref a/\y=kV k/\Q (.bl (!(jC kvs k).isSome)) H2
def Ie (a:Addr) (kvs:List (Key×V)) (td ty:TE):TE:=fun σ H Q=>td σ H fun x H1=>ty σ H1 fun y H2=>∃k v,x= .ref a/\y=kV k/\jC kvs k=some v/\Q v H2
section
variable {X:Cx} {o i:Expr} {pos:Pos} {td ty:TE} {a:Addr} {kvs:List (Key×V)}
theorem zR (d:zQ X.prog X.w X.K a kvs) (hi:PE X i ty) (ho:PE X o td):PC X .NotIn i o (DW a kvs ty td):=by
 intro pz s σ H Q I h
 refine thn (hi pz s σ H _ I h) fun iv s1 ⟨y,H1,I1,ry,q1⟩=>thn (ho pz s1 σ H1 _ I1 q1) fun u s2 ⟨x,H2,I2,rx,k,ex,ey,q2⟩=>?_
 subst ex ey
 obtain rfl:u=Value.ref a:=rx
 obtain⟨hs,vs,rel,dd⟩:=d
 refine wpAny_notIn_of (uE ry) hs (dd _ I2.kIn).mapOf ?_
 rw[<-(rel.val k).isSome_eq]
 exact⟨.bl _,H2,I2.tok _,rfl,q2⟩
theorem zS (d:zQ X.prog X.w X.K a kvs) (ho:PE X o td) (hi:PE X i ty) (hs:HS i:=by exact fun _ _=>rfl):PE X (.Subscript o i pos) (Ie a kvs td ty):=by
 intro pz s σ H Q I h
 refine zw eI.lookup hs (thn (ho pz s σ H _ I h) fun u s1 ⟨x,H1,I1,rx,q1⟩=>thn (hi pz s1 σ H1 _ I1 q1) fun iv s2 ⟨y,H2,I2,ry,k,v,ex,ey,hv,q2⟩=>?_)
 subst ex ey
 obtain rfl:u=Value.ref a:=rx
 obtain⟨_,vs,rel,dd⟩:=d
 obtain⟨w',hw,rw'⟩:=qA.some_of (v:=v) (o:=valueAt vs k) (by rw[<-hv];exact rel.val k)
 exact⟨(dd _ I2.kIn).typeIs,wpAny_getItem_of (uE ry) (dd _ I2.kIn).mapOf hw ⟨v,H2,I2.tok _,rw',q2⟩⟩
end
section
variable {X:Cx}
end
section
variable {X:Cx} {k:Nat} {f Y:Addr} {fd:FuncData} {ps:List Str} {sp:Sp} {dvs:List V} {ds:List Value} {x y n:Str} {p pos pos' py hpos tpos pn:Pos} {e:Expr} {es:List Expr} {t:TA} {b₀:Stmt} {body:List Stmt} {tb:TS} {i:Nat}
end
end L2.Internal
namespace L2.Internal
end L2.Internal
namespace L2.Internal
open PySem PySem.Spec PyProof.Rows
section
variable {X:Cx} {pz:AoL} {σ:St} {H:Hp} {s:Shared} {h':Heap}
theorem Inv.turnedL {t':Nat} {ch:List Addr} (I:Inv X pz σ H s) (k:∀b o,b∉ch->s.heap.get? b=some o->h'.get? b=some o) (hf:∀b∈ch,vF X pz H b):Inv X pz σ H {s with heap:=h',toks:=t'}:=by
 have nit:∀b u,H b=some u->b∉ch:=fun b u e z=>by
  have q:=(hf b z).1
  rw[q]at e;cases e
 refine I.step (g':=s.gens) (d':=s.drawn) (ch:=ch) (fun b hb=>?_) (fun b o _ _ hc e _=>k b o hc e) (fun b o _ _ hc e _=>⟨o.slots,k b o hc e⟩) (fun _ _ _ _ n=>n)
  (fun b o hc e=>⟨o,k b o hc e⟩) (fun _ _ e=>e) (fun _ _ _ e=>e) (fun b ps e=>⟨#[],by rw[e];simp⟩) (fun m hm=>?_) (fun b u e=>?_) I.bare
 ·obtain⟨_,f1,_,f3,f4,f5⟩:=hf b hb
  exact⟨f3,f1,f4,f5⟩
 ·obtain⟨o,es,ep,ho,r⟩:=hm
  exact⟨o,es,ep,k _ o (fun z=>(hf _ z).2.1 rfl) ho,r⟩
 ·refine(I.hok b u e).stay (fun c v hc q=>k c v ?_ q) (fun _ q=>q) fun _ _ q=>q
  rcases hc with z|z
  ·rw[z];exact nit b u e
  ·exact nit c _ z
theorem Inv.pairNew {T:Addr} {h:Heap} {tk:Nat} {ux uy:Value} {x y:V} (I:Inv X pz σ H s) (hT:s.heap.objs.size<=T) (J:Inv X pz σ H {s with heap:=h,toks:=tk}) (ht:yg h T #[ux,uy]) (rx:iP x ux) (ry:iP y uy):
  H T=none/\Inv X pz σ (upd H T (.tup [x,y])) {s with heap:=h,toks:=tk}:=by
 have f:=I.fpOk (H':=H) hT (I.hok.fresh hT)
 refine⟨f.1,J.track f.1 ?_ f.2.1 f.2.2.2.2.1 f.2.2.2.2.2 ⟨by show 2<=sizeLine;decide,[ux,uy],.cons rx (.cons ry .nil),ht⟩⟩
 cases q:X.s₀.heap.get? T with
 |none=>rfl
 |some o=>exact absurd (cf (fN q) (ck I.sz hT)) (cg _)
end
theorem FW:bootBuiltins "zip"=some (.type "zip"):=gB
theorem uO:bootBuiltins "enumerate"=some (.type "enumerate"):=gB
theorem SqL.old {X:Cx} {pz:AoL} {σ:St} {H:Hp} {s:Shared} {a:Addr} {xs:List V} (I:Inv X pz σ H s) (h:SqL X.K H a xs):a<s.heap.objs.size:=by
 obtain⟨its,_,p,_⟩:=I.list h
 obtain⟨o,e,_⟩:=p.isList
 exact fN e
section
variable {X:Cx}
end
def Ite (K:PySem.W.Frag) (a:Addr):It:=
 ⟨fun i H=>∃xs x,SqL K H a xs/\xs[i]?=some x,
   fun i H v H'=>∃T x,v= .ref T/\H T=none/\H'=upd H T (.tup [.int (i:Int),x])/\∀xs,SqL K H a xs->xs[i]?=some x,
   fun i H=>∃xs,SqL K H a xs/\i=xs.length⟩
def ESt (e it a:Addr) (i:Nat) (h:Heap):Prop:=(∃old,IsEnum h e it i old)/\h.IsListIter it a i
theorem zT {P:Program} {w:World} {K:PySem.W.Frag} {es:List Expr} {kk:Nat} {tp:Pos} {a e it:Addr} (h1:e≠it) (h2:a≠e) (h3:a≠it):Cv P w K (.Tuple es kk tp) (Ite K a) [e,it] e (ESt e it a) where
 mem:=by simp
 obj:=fun i h st c hc=>by
  obtain⟨⟨old,g1⟩,⟨o4,g4,_,d4⟩⟩:=st
  simp only[aj,bz,or_false]at hc
  rcases hc with q|q<;>subst q
  ·exact⟨_,g1,fun v q=>nomatch q⟩
  ·exact⟨_,g4,fun v q=>by rw[d4]at q;cases q⟩
 keep:=fun i h h' st k=>by
  obtain⟨⟨old,g1⟩,g4⟩:=st
  exact⟨⟨old,k e (by simp) _ g1⟩,g4.at fun o q=>k it (by simp) o q⟩
 item:=by
  intro X hP hw hK hc i pz s σ H E I hf st hg
  subst hP hw hK
  obtain⟨xs,x,qx,ex⟩:=hg
  obtain⟨i1s,r1,p1,z1⟩:=I.list qx
  obtain⟨g1,g4⟩:=st
  obtain⟨old,g1'⟩:=g1
  obtain⟨ux,hux,rr1⟩:=r1.get ex
  have lte:e<s.heap.objs.size:=fN g1'
  refine wpAny_pyNext_enum_item g1' g4 p1.isList (x:=ux) (by simpa using hux) h1 fun k1 ho hit' hT hsz hk=>?_
  have kk1:∀c o,c∉[e,it]->s.heap.get? c=some o->k1.get? c=some o:=fun c o hc q=>hk c o (fun z=>hc (by simp[z])) (fun z=>hc (by simp[z])) q
  have J1:Inv X pz σ H {s with heap:=k1,toks:=s.toks+ 1}:=I.turnedL kk1 hf
  refine⟨.ref s.heap.objs.size,rfl,wpAny_letOwnedTupleGo_enum ho fun k2 he' sb=>?_⟩
  have J2:Inv X pz σ H {s with heap:=k2,toks:=s.toks+ 1}:=Inv.turnedL (s:={s with heap:=k1,toks:=s.toks+ 1}) (h':=k2) (t':=s.toks+ 1) (ch:=[e]) J1 (fun c o hc q=>(sb.2 c (fun z=>hc (by simp[z]))).trans q) fun c hc=>hf c (by simp only[aj,bz,or_false]at hc⊢;simp[hc])
  have ht2:yg k2 s.heap.objs.size #[.int i s.toks,ux]:=⟨_,(sb.2 _ (cn lte)).trans hT,rfl,_,rfl,rfl⟩
  obtain⟨fT,J3⟩:=I.pairNew (x:= .int (i:Int)) (cq _) J2 ht2 ⟨s.toks,rfl⟩ rr1
  refine⟨.ref s.heap.objs.size,_,J3,rfl,⟨_,x,rfl,fT,rfl,fun l hl=>by rw[I.list_inj hl qx];exact ex⟩,⟨⟨_,by simpa using he'⟩,hit'.at fun o y=>(sb.2 it h1.symm).trans y⟩,fun c hc=>?_⟩
  rw[gw (fun q=>?_)]
  ·exact(hf c hc).1
  ·have lt:c<s.heap.objs.size:=by
    obtain⟨o4,e4,_⟩:=g4
    simp only[aj,bz,or_false]at hc
    rcases hc with q|q<;>subst q
    ·exact lte
    ·exact fN e4
   exact absurd lt (by rw[q];exact cg _)
 done:=by
  intro X hP hw hK hc i pz s σ H E I hf st hg
  subst hP hw hK
  obtain⟨xs,qx,ei⟩:=hg
  obtain⟨i1s,r1,p1,z1⟩:=I.list qx
  obtain⟨g1,g4⟩:=st
  have W:=WalksT.enumerate (prog:=X.prog) (w:=X.w) (I.ok.hd hc) e it a h1 h2 h3 i1s.toArray
  have l1:=r1.length
  have q:i=i1s.toArray.size:=by simp only[aT];lia
  subst q
  exact W.done s _ _ ⟨g1,g4,p1.isList⟩ fun h1 tk hk=>⟨rfl,I.turnedL hk hf⟩
 self:=fun _ _ _ _ _ st h=>by
  obtain⟨⟨old,g1⟩,_⟩:=st
  exact wpAny_pyIter_enum g1 h
def Ig (K:PySem.W.Frag) (ta:TA):TI:=fun σ H R=>ta σ H fun vs H1=>∃a,vs=[.ref a]/\(∃xs,SqL K H1 a xs)/\R (Ite K a) H1
section
variable {X:Cx}
theorem sU {es:List Expr} {kk:Nat} {tp:Pos} {a:Expr} {ta:TA} {p pos:Pos} (hg:Gl X "enumerate") (hm:X.mg "enumerate"=none) (ha:PA X [a] ta) (hs:autoParam (starEach [a] X.env=[(false,eval a X.env)]) auR._auto_1):
  PI X (.Tuple es kk tp) (.Call (.Name "enumerate" p) [a] [] pos) (Ig X.K ta):=by
 intro pz s σ H R I h
 refine Call_ (oo I hg hm uO (fY (thn (ha pos pz s σ H _ I h) fun us s1 ⟨vs,H1,I1,r1,q1⟩=>?_) hs rfl))
 obtain⟨l1,e,⟨xs,q1⟩,q⟩:=q1
 subst e
 obtain⟨u,rfl,ru⟩:=m8 r1
 cases ru
 obtain⟨i1s,w1,p1,z1⟩:=I1.list q1
 have o1:@LT.lt Nat _ l1 s1.heap.objs.size:=SqL.old I1 q1
 refine call_enumerate_list p1.isList fun h1 hE hi1 hsz hk=>wpAny_pyIter_enum hE ?_
 refine⟨_,_,_,_,H1,rfl,I1.kept (t':=s1.toks) hk,zT (fun(h:@Eq Nat _ _)=>by lia) (fun(h:@Eq Nat _ _)=>by lia) (fun(h:@Eq Nat _ _)=>by lia),⟨⟨_,hE⟩,hi1⟩,fun c hc=>?_,q⟩
 have ge:s1.heap.objs.size<=c:=by
  simp only[aj,bz,or_false]at hc
  rcases hc with h|h<;>rw[h]<;>first|exact cq _|exact Nat.le_add_right _ _
 exact I1.fpOk ge (I1.hok.fresh ge)
end
def LcG (J:It) (g:TG) (te:TE) (Q:VK) (τ:St) (H1:Hp) (D:Addr):Prop:=
 ∃W:Nat->Nat->St->Hp->Prop,(∃m,W 0 m τ (upd H1 D (.lst [])))/\∀k m σ' H2,W k m σ' H2->
  (J.stop k H2/\Q (.ref D) H2)\/(J.go k H2/\∀v H3,J.yld k H2 v H3->g v σ' H3 fun σ4 H4=>te σ4 H4 fun y H5=>∃xs,H5 D=some (.lst xs)/\xs.length<sizeLine/\∃m',m'<m/\W (k+ 1) m' σ4 (upd H5 D (.lst (xs++[y]))))
def tLG (wi:TI) (f:St->St) (g:TG) (te:TE):TE:=fun σ H Q=>wi σ H fun J H1=>∀D,H1 D=none->LcG J g te Q (f σ) H1 D
theorem xx {X:Cx} {elt iter:Expr} {es:List Expr} {kk:Nat} {tp:Pos} {x:Str} {scope:Scope} {pos pos':Pos} {N:List Str} {cl:List (Str×Addr)} {f:St->St} {i:Nat} {wi:TI} {g:TG} {te:TE} {use:Option (Value->Sem Unit)} {Qp:EvP}
  {pz:AoL} {s:Shared} {σ:St} {H:Hp} {Q:VK}
  (hc:X.calm=true) (B:oz X N scope cl f i x) (hi:PI X (.Tuple es kk tp) iter wi)
  (hg:∀C s₀ H₀ ex pz,PG (blk X N scope cl C s₀ H₀ ex pz) (.Tuple es kk tp) g) (hte:∀C s₀ H₀ ex pz,PE (blk X N scope cl C s₀ H₀ ex pz) elt te)
  (hs:∀x,foldedSetIterable iter X.env x=pure x) (I:Inv X pz σ H s) (h:tLG wi f g te σ H Q)
  (fin:∀(fl:Flow) (s3 s6:Shared) (H3 H5:Hp) (d:Addr) (m:Str->Option Value),Inv X pz σ H3 s3->Inv X pz σ H5 s6->H5 s3.heap.objs.size=none->s6.heap.Ns s3.heap.objs.size m->Q (.ref d) H5->
   compPost (model X.prog X.w) X.A X.xe use Qp (.ref d) s3.heap.objs.size (.ok fl) s6):
  wpAny (model X.prog X.w) X.A (comprehension (.ListComp elt [⟨.Tuple es kk tp,iter,[],0⟩] scope pos) scope X.env pos' (newList []) false (eval iter X.env) use) Qp X.xe s:=by
 refine wpAny_comprehension_free (use:=use) rfl hs B.clos B.kind B.names (thn (hi pz s σ H _ I h) fun xv s1 h1=>thn h1 fun itv s2 h2=>?_)
 obtain⟨it,fp,tn,J,H2,rfl,I2,T,st2,f2,q⟩:=h2
 have hD:H2 s2.heap.objs.size=none:=I2.fresh
 obtain⟨W,⟨m0,w0⟩,turn⟩:=q _ hD
 refine wpAny_newObj_type (wpAny_newFunctionEnv B.cell (by intro y hy;simp at hy) (fun h₁ hns₁ hsb₁=>?_) B.kind)
 have I3:Inv X pz σ (upd H2 s2.heap.objs.size (.lst [])) {s2 with heap:=s2.heap.push {cls:= .type "list",data:= .seq ([]:List Value).toArray}}:=I2.lnew (its:=[]) (ys:=[]) (t':=s2.toks) .nil (cu _)
 have lt2:∀b∈fp,b<s2.heap.objs.size:=fun b hb=>by
  obtain⟨o,ho,_⟩:=T.obj _ _ st2 b hb
  exact fN ho
 have fp3:∀b∈fp,vF X pz (upd H2 s2.heap.objs.size (.lst [])) b:=fun b hb=>by
  refine⟨?_,(f2 b hb).2⟩
  rw[gw (cj (lt2 b hb))]
  exact(f2 b hb).1
 generalize hs3:({s2 with heap:=s2.heap.push {cls:= .type "list",data:= .seq ([]:List Value).toArray}}:Shared)=s3 at I3 hns₁ hsb₁⊢
 have eh:s2.heap.push {cls:= .type "list",data:= .seq ([]:List Value).toArray}=s3.heap:=by rw[<-hs3]
 have lt3:∀b∈fp,b<s3.heap.objs.size:=fun b hb=>by
  rw[<-eh,fV]
  exact cA (lt2 b hb)
 have old:∀b o,s3.heap.get? b=some o->h₁.get? b=some o:=fun b o e=>hsb₁.extBut b o (cj (fN e)) (fS _ e)
 have I4:=zK (tk:=s3.toks+([]:List (Str×Value)).length) B I3 (ex:=fp) (fun b hb=>⟨fp3 b hb,lt3 b hb⟩) old hns₁
 have st4:tn 0 h₁:=T.keep _ _ _ st2 fun b _ o e=>old b o (by rw[<-eh];exact fS _ e)
 have fpB:∀{H':Hp},(∀b∈fp,H' b=none)->∀b∈fp,vF (blk X N scope cl s3.heap.objs.size s3 (upd H2 s2.heap.objs.size (.lst [])) fp pz) [] H' b:=fun{H'} hn b hb=>by
  obtain⟨_,g2,g3,g4,g5,g6⟩:=f2 b hb
  refine⟨hn b hb,cj (lt3 b hb),fun z=>(aj.mp (I3.stkSub b z)).elim g2 g3,.inl hb,fun y c e=>g5 y c (B.lk y c e),fun p hp=>?_⟩
  rw[aD]at hp
  exact g6 p hp
 have loop:∀s4:Shared,s4={s3 with heap:=h₁,toks:=s3.toks+([]:List (Str×Value)).length}->
   codeAny (model X.prog X.w) X.A (.compLoop (.ListComp elt [⟨.Tuple es kk tp,iter,[],0⟩] scope pos) 0 (.ref it) (.ref s2.heap.objs.size) (compEnvC scope cl s3.heap.objs.size X.env))
    (compPost (model X.prog X.w) X.A X.xe use Qp (.ref s2.heap.objs.size) s3.heap.objs.size) s4:=by
  rintro s4 rfl
  refine PyProof.Rows.LCp.codeAny_compLoop_pair (I:=fun n s'=>∃k σ' H',Inv (blk X N scope cl s3.heap.objs.size s3 (upd H2 s2.heap.objs.size (.lst [])) fp pz) [] σ' H' s'/\tn k s'.heap/\(∀b∈fp,H' b=none)/\W k n σ' H') ?_ m0
   ⟨0,f σ,_,I4,st4,fun b hb=>(fp3 b hb).1,w0⟩
  rintro n s5 ⟨k,σ5,H5,I5,st5,fr5,w5⟩
  rcases turn k n σ5 H5 w5 with⟨stop,qn⟩|⟨go,step⟩
  ·refine wpAny_mono (T.done (blk X N scope cl s3.heap.objs.size s3 (upd H2 s2.heap.objs.size (.lst [])) fp pz) rfl rfl rfl hc k [] s5 σ5 H5 _ I5 (fpB fr5) st5 stop) (fun r s6 h6=>?_) fun _ _ z=>z
   obtain⟨hr,I6⟩:=h6
   subst hr
   obtain⟨m6,hn6,_⟩:=id I6.loc
   have I7:Inv X pz σ H5 s6:=I3.call' (s':=s6) (ch:=fp) I6.os I6.base I6.hok I6.bare fun b hb=>by
    obtain⟨_,g2,g3,g4,g5,g6⟩:=f2 b hb
    exact⟨g4,g2,g5,g6⟩
   exact fin _ s3 s6 _ H5 _ m6 I3 I7 I6.free hn6 qn
  ·refine wpAny_mono (T.item (blk X N scope cl s3.heap.objs.size s3 (upd H2 s2.heap.objs.size (.lst [])) fp pz) rfl rfl rfl hc k [] s5 σ5 H5 _ I5 (fpB fr5) st5 go) (fun r s6 h6=>?_) fun _ _ z=>z
   obtain⟨u,hr,h6⟩:=h6
   subst hr
   refine wpAny_mono h6 (fun _ s7 h7=>?_) fun _ _ z=>z
   obtain⟨v,H7,I7,r7,y7,st7,fr7⟩:=h7
   have I7':=I7.pinned (fpB fr7) (T.obj _ _ st7)
   have back:∀{σ9:St} {H9:Hp} {s9:Shared},Inv (blk X N scope cl s3.heap.objs.size s3 (upd H2 s2.heap.objs.size (.lst [])) fp pz) ([]++rX fp s7.heap) σ9 H9 s9->(∃m',m'<n/\W (k+ 1) m' σ9 H9)->
     ∃m',m'<n/\∃k σ' H',Inv (blk X N scope cl s3.heap.objs.size s3 (upd H2 s2.heap.objs.size (.lst [])) fp pz) [] σ' H' s9/\tn k s9.heap/\(∀b∈fp,H' b=none)/\W k m' σ' H':=fun{σ9 H9 s9} I9 q9=>by
    obtain⟨m',hm,w9⟩:=q9
    refine⟨m',hm,k+ 1,σ9,H9,I9.unpinned,T.keep _ _ _ st7 fun b hb o e=>(I9.pin (b,o) (ay _ (ay _ (kq hb e)))).1,fun b hb=>?_,w9⟩
    obtain⟨o,e,d⟩:=T.obj _ _ st7 b hb
    exact(I9.pin (b,o) (ay _ (ay _ (kq hb e)))).2.1
   refine wpAny_mono (hg s3.heap.objs.size s3 (upd H2 s2.heap.objs.size (.lst [])) fp pz _ s7 σ5 H7 v u _ I7' r7 (step v H7 y7)) (fun _ s8 h8=>?_) fun _ _ z=>False.elim z
   obtain⟨σ8,H8,I8,q8⟩:=h8
   refine wpAny_mono (hte _ _ _ _ _ _ s8 _ H8 _ I8 q8) (fun y s10 h10=>?_) fun _ _ z=>False.elim z
   obtain⟨v10,H10,I10,r10,xs,hx10,hz,q10⟩:=h10
   refine wpAny_mono (gT (X:=blk X N scope cl s3.heap.objs.size s3 (upd H2 s2.heap.objs.size (.lst [])) fp pz) _ s10 _ H10 (.ref s2.heap.objs.size) [v10] _ [y] (fun _ H11=>H11=upd H10 s2.heap.objs.size (.lst (xs++[v10]))) I10 rfl (.cons r10 .nil) ⟨_,xs,v10,rfl,rfl,hx10,hz,rfl⟩) (fun _ s11 h11=>?_) fun _ _ z=>False.elim z
   obtain⟨_,H11,I11,_,e11⟩:=h11
   subst e11
   exact back I11 q10
 exact codeAny_compStart_list (loop _ rfl) (T.self _ 0 _ _ _ st4 (loop _ rfl))
theorem FX {X:Cx} {elt iter:Expr} {x:Str} {es:List Expr} {kk:Nat} {tp:Pos} {scope:Scope} {pos:Pos} {N:List Str} {cl:List (Str×Addr)} {f:St->St} {i:Nat} {wi:TI} {g:TG} {te:TE}
  (hc:X.calm=true) (B:oz X N scope cl f i x) (hi:PI X (.Tuple es kk tp) iter wi)
  (hg:∀C s₀ H₀ ex pz,PG (blk X N scope cl C s₀ H₀ ex pz) (.Tuple es kk tp) g) (hte:∀C s₀ H₀ ex pz,PE (blk X N scope cl C s₀ H₀ ex pz) elt te)
  (hs:autoParam (∀x,foldedSetIterable iter X.env x=pure x) auI._auto_1):PE X (.ListComp elt [⟨.Tuple es kk tp,iter,[],0⟩] scope pos) (tLG wi f g te):=by
 intro pz s σ H Q I h
 rw[eval_ListComp]
 refine xx hc B hi hg hte hs I h fun fl s3 s6 H3 H5 d m I3 I7 fr hn qn=>?_
 refine⟨m,hn,fun h' sb=>⟨.ref d,H5,?_,rfl,qn⟩⟩
 exact Inv.turned (h':=h') (t':=s6.toks) (it:=s3.heap.objs.size) I7 (fun b o hb e=>(sb.2 b hb).trans e) fr (cn I3.lt) (.inr I3.sz) (fun z c e q=>by
  obtain⟨v,q2⟩:=I3.cell z c e
  exact absurd (q▸q2.lt) (cg _)) fun p hp q=>absurd (q▸fN (I3.pin p hp).1) (cg _)
theorem FY {X:Cx} {scope:Scope} {x y:Str} (hk:scope.kind= .function) (hn:∀p∈scope.names,p.2≠ .cell/\p.2≠ .free) (hl:∀y∈scope.names,y.2= .local->scope.names.lookup y.1=some .local)
  (hx:scope.names.lookup x=some .local) (hxy:[x,y].Nodup) (hc:closureFor scope X.env=pure []):oz X [x,y] scope [] (fun _=>[none,none]) 0 x where
 kind:=hk
 cell:=fun y hy=>(hn y hy).1
 names:=hl
 clos:=hc
 lk:=fun y c h=>by simp at h
 has:=fun y h=>by
  rcases h with h|h
  ·obtain⟨k0,e,z⟩:=ib h
   have m:=hn _ (PySem.mem_of_lookup e)
   rcases z with z|⟨z,_⟩
   ·exact absurd z.symm m.1
   ·exact absurd z m.2
  ·obtain⟨k0,e,z⟩:=ib h
   have m:=hn _ (PySem.mem_of_lookup e)
   rcases z with z|⟨z,_⟩
   ·exact absurd z.symm m.2
   ·exact absurd z m.2
 nd:=hxy
 ix:=rfl
 loc:=hx
 len:=fun _ _=>rfl
 val:=fun σ k y v h1 h2=>by
  match k with
  |0=>simp at h2
  |1=>simp at h2
  |k+ 2=>simp at h2
theorem oX {z:Str}:∀{cap:List (Str×Nat×Addr)},z∈cap.map (·.1)->∃c,(cap.map fun p=>(p.1,p.2.2)).lookup z=some c
 |[],h=>by simp at h
 |p::r,h=>by
  cases e:z==p.1 with
  |true=>exact⟨p.2.2,by simp only[aB,bf,e]⟩
  |false=>
   have q:z∈r.map (·.1):=by
    rcases aj.mp h with y|y
    ·rw[y]at e;simp at e
    ·exact y
   obtain⟨c,hc⟩:=oX q
   exact⟨c,by simp only[aB,bf,e];exact hc⟩
theorem blkC {X:Cx} {scope:Scope} {x:Str} (ns:List Str) (cap:List (Str×Nat×Addr)) (hns:cap.map (·.1)=ns) (hk:scope.kind= .function) (hn:∀p∈scope.names,p.2≠ .cell/\(p.2= .free->p.1∈ns)) (hl:∀y∈scope.names,y.2= .local->scope.names.lookup y.1=some .local)
  (hx:scope.names.lookup x=some .local) (hnd:(x::ns).Nodup) (hc:closureFor scope X.env=pure (cap.map fun p=>(p.1,p.2.2))) (hok:X.env.scope.kind= .function)
  (h:∀p∈cap,scope.names.lookup p.1=some .free/\X.env.cells.lookup p.1=some p.2.2/\X.env.scope.names.lookup p.1=some .cell/\X.N[p.2.1]?=some p.1):
  oz X (x::ns) scope (cap.map fun p=>(p.1,p.2.2)) (fun σ=>none::cap.map fun p=>σ.getD p.2.1 none) 0 x where
 kind:=hk
 cell:=fun y hy=>(hn y hy).1
 names:=hl
 clos:=hc
 lk:=fun z c q=>by
  have m:=PySem.mem_of_lookup q
  obtain⟨p,hp,e⟩:=aZ.mp m
  cases e
  exact(h p hp).2.1
 has:=fun z q=>by
  refine oX ?_
  rw[hns]
  rcases q with q|q
  ·obtain⟨k0,e,q⟩:=ib q
   have m:=hn _ (PySem.mem_of_lookup e)
   rcases q with q|⟨q,_⟩
   ·exact absurd q.symm m.1
   ·exact m.2 q
  ·obtain⟨k0,e,q⟩:=ib q
   have m:=hn _ (PySem.mem_of_lookup e)
   rcases q with q|⟨q,_⟩
   ·exact m.2 q.symm
   ·exact m.2 q
 nd:=hnd
 ix:=rfl
 loc:=hx
 len:=fun _ _=>by simp[<-hns]
 val:=fun σ k z v h1 h2=>by
  cases k with
  |zero=>simp at h2
  |succ k=>
   rw[<-hns,bA,aK]at h1
   rw[bA,aK]at h2
   cases e:cap[k]? with
   |none=>rw[e]at h1;cases h1
   |some p=>
    rw[e]at h1 h2
    have ez:p.1=z:=cH.inj h1
    have ev:σ.getD p.2.1 none=some v:=cH.inj h2
    subst ez
    obtain⟨a1,a2,a3,a4⟩:=h p (aM e)
    rw[bh]at ev
    refine⟨p.2.1,a4,?_,a3,iV hok a3 a1⟩
    cases q:σ[p.2.1]? with
    |none=>rw[q]at ev;cases ev
    |some o=>rw[q]at ev;exact congrArg some ev
section
variable {X:Cx}
end
structure ClsM (K:PySem.W.Frag) (C:Addr) (m:Str) (f:Addr):Prop where
 ga:dB K (.ref C) "__getattribute__"=some (some (.builtin "type.__getattribute__"))
 rd:∃mc,PySem.W.readsIn K C mc=true/\PySem.W.findCls K (.ref C) mc m=some (.val (.ref f))
 kp:dC K (.ref f)=true
section
variable {X:Cx} {CX:CXT} {k:Nat} {f C:Addr} {fd:FuncData} {ps:List Str} {sp:Sp} {dvs:List V} {ds:List Value} {E:XK} {m:Str} {pos apos:Pos} {e o:Expr} {es:List Expr} {t:TA}
end
section
variable {X:Cx}
theorem uP (hc:X.calm=true):kT X (.builtin "sum") (fun xs H Q=>∃(a:Addr) (ns:List Int),xs=[.ref a]/\SqL X.K H a (ns.map V.int)/\∀n,Q (.int n) H):=by
 intro pz s σ H xs us Q I r h
 obtain⟨a,ns,rfl,hq,q⟩:=h
 obtain⟨u,rfl,ru⟩:=m8 r
 cases ru
 obtain⟨its,rv,p,hz⟩:=I.list hq
 obtain⟨zs,e⟩:=(yn rv).allInts.items
 have l:=p.isList
 rw[e]at l
 exact sum_intListG (I.ok.hd hc) l fun h' tk t' hk=>⟨.int _,H,I.kept (t':=tk) hk,⟨_,rfl⟩,q _⟩
end
theorem xy {X:Cx} {elt iter:Expr} {x y:Str} {j:Nat} {py spos:Pos} {px:Pos} {ifs:List Expr} {scope:Scope} {pos:Pos} {N:List Str} {cl:List (Str×Addr)} {f:St->St} {i:Nat} {wi:TI} {tt:TT} {te:TE}
  (hc:X.calm=true) (B:oz X N scope cl f i x) (hi:PI X (.Name x px) iter wi)
  (htt:∀C s₀ H₀ ex pz,PTs (blk X N scope cl C s₀ H₀ ex pz) ifs tt) (hte:∀C s₀ H₀ ex pz,PE (blk X N scope cl C s₀ H₀ ex pz) elt te)
  (hN:X.N.Nodup) (hj:X.N[j]?=some y) (hy:Loc X.env.scope y) (hsw:autoParam (swapsWith (.ListComp elt [⟨.Name x px,iter,ifs,0⟩] scope pos) (some (.Name y py)) spos.line X.env=pure true) auR._auto_1) (hs:autoParam (∀x,foldedSetIterable iter X.env x=pure x) auI._auto_1)
  (hf:autoParam (X.fn y=true\/X.env.scope.names.lookup y=some .local) auL._auto_1):PS X (.Assign [.Name y py] (.ListComp elt [⟨.Name x px,iter,ifs,0⟩] scope pos) spos) (Bo (tLC wi f i tt te) (ia j)):=by
 intro pz s σ H En I h
 rw[exec_Assign_Name_used _ _ _ _ hsw]
 refine wpAny_bind (wpAny_standAt (wpAny_bind ?_))
 show wpAny _ X.A (do let _<-comprehension (.ListComp elt [⟨.Name x px,iter,ifs,0⟩] scope pos) scope X.env _ (newList []) false (eval iter X.env) (some (assign (.Name y py) X.env))) _ _ s
 refine wpAny_bind (wpAny_mono (zL (Qp:=fun _ s'=>SP X pz En .next s') hc B hi htt hte hs I h fun fl s3 s6 H3 H5 d m6 I3 I7 fr hn6 qn=>?_) (fun _ s' hq=>wpAny_pure (wpAny_pure hq)) fun _ _ e=>e)
 obtain⟨oC,es,ep,hoC,hdC,hkC⟩:=id hn6
 have hCL:s3.heap.objs.size≠X.env.locals:=cn I3.lt
 have I8:Inv X (pz++[(s3.heap.objs.size,oC)]) σ H5 s6:=I7.pins_of fun p hp=>(ao.mp hp).elim (fun z=>I7.pin p (ay _ z)) fun z=>by
  have ez:p=(s3.heap.objs.size,oC):=by simpa using z
  subst ez
  exact⟨hoC,fr,hCL,I3.nofs (cq _),fun v q=>by rw[hdC]at q;cases q⟩
 show wpAny _ X.A (assign (.Name y py) X.env (.ref d)) _ _ s6
 refine wpAny_assign_Name (lD (X:=X) I8 hN hj hy (v:= .ref d) rfl (fun s7 I9=>?_) hf)
 have pC:=I9.pin (s3.heap.objs.size,oC) (ay _ (ay _ (by simp)))
 refine⟨m6,⟨oC,es,ep,pC.1,hdC,hkC⟩,fun h' sb=>?_⟩
 refine⟨σ.set j (some (.ref d)),H5,?_,qn⟩
 exact Inv.turned (h':=h') (t':=s7.toks) (it:=s3.heap.objs.size) I9.unpinned (fun b o hb e=>(sb.2 b hb).trans e) pC.2.1 hCL (.inr I3.sz) (fun z c e q=>by
  obtain⟨v,q2⟩:=I3.cell z c e
  exact absurd (q▸q2.lt) (cg _)) fun p hp q=>absurd (q▸fN (I3.pin p hp).1) (cg _)
section
variable {prog:Program} {w:World} {A:Around} {E:EvP} {s:Shared}
theorem FZ {j t:Addr} {i:Nat} {its} {x:Value} {Q:EvP} (g:s.heap.IsTupleIter j t i) (d:s.heap.IsTuple t its) (e:its[i]?=some x)
  (k:∀h',h'.IsTupleIter j t (i+ 1)->Heap.SameBut j s.heap h'->Q x {s with heap:=h'}):wpAny (model prog w) A (Builtin.SmallTypes.nextOf (.ref j)) Q E s:=by
 obtain⟨og,gg,gc,gd⟩:=id g
 obtain⟨od,dd,_,dn,de⟩:=d
 unfold Builtin.SmallTypes.nextOf
 refine wpAny_bind (wpAny_callSpecial?_slot (name:=Str.ofString "__next__") g.typeIs F.slot_tuple_iterator_next (wpAny_call_entry F.slot_tuple_iterator_next g.typeIs F.entry_tuple_iterator_next ?_ (F.args_tuple_iterator_next_1 _)))
 show wpAny _ _ (field (.ref j) 0 >>= _) _ _ s
 refine wpAny_bind (wpAny_field gg gd (x:= .ref t) rfl ?_)
 show wpAny _ _ (if(Value.ref t==Value.none)=true then _ else _) _ _ s
 rw[gN (show ¬((Value.ref t==Value.none)=true)from fun q=>nomatch q)]
 show wpAny _ _ (field (.ref j) 1 >>= _) _ _ s
 refine wpAny_bind (wpAny_field gg gd (x:= .int i 0) rfl ?_)
 refine wpAny_bind (wpAny_seqItems dd de ?_)
 simp only[fA,e]
 refine wpAny_bind (wpAny_setField gg gd (by simp) (wpAny_pure ⟨x,rfl,wpAny_pure (k _ ?_ (Heap.SameBut.update ..))⟩))
 exact⟨_,fW _ gg (Obj.isFreed_of_fields (Obj.data_mapFields gd _)),(Obj.cls_mapFields ..).trans gc,by rw[Obj.data_mapFields gd];simp[rawInt]⟩
theorem yu {j t:Addr} {i:Nat} {its} {Q:EvP} (hh:A.handled=none) (g:s.heap.IsTupleIter j t i) (d:s.heap.IsTuple t its) (e:its[i]?=none)
  (k:∀h' x,Heap.ExtBut j s.heap h'->(∃o,h'.get? x=some o/\o.cls= .type "StopIteration")->E (.ref x) {s with heap:=h'}):wpAny (model prog w) A (Builtin.SmallTypes.nextOf (.ref j)) Q E s:=by
 obtain⟨og,gg,gc,gd⟩:=id g
 obtain⟨od,dd,_,dn,de⟩:=d
 unfold Builtin.SmallTypes.nextOf
 refine wpAny_bind (wpAny_callSpecial?_slot (name:=Str.ofString "__next__") g.typeIs F.slot_tuple_iterator_next (wpAny_call_entry F.slot_tuple_iterator_next g.typeIs F.entry_tuple_iterator_next ?_ (F.args_tuple_iterator_next_1 _)))
 show wpAny _ _ (field (.ref j) 0 >>= _) _ _ s
 refine wpAny_bind (wpAny_field gg gd (x:= .ref t) rfl ?_)
 show wpAny _ _ (if(Value.ref t==Value.none)=true then _ else _) _ _ s
 rw[gN (show ¬((Value.ref t==Value.none)=true)from fun q=>nomatch q)]
 show wpAny _ _ (field (.ref j) 1 >>= _) _ _ s
 refine wpAny_bind (wpAny_field gg gd (x:= .int i 0) rfl ?_)
 refine wpAny_bind (wpAny_seqItems dd de ?_)
 simp only[fA,e]
 refine wpAny_bind (wpAny_rule (wpAny_bind (wpAny_setField gg gd (by simp) ?_)))
 show wpAny _ _ (newExc (.type "StopIteration") [] >>= _) _ _ _
 refine wpAny_bind ?_
 simp only[newExc,newTuple]
 refine wpAny_bind (wpAny_newObj_type ?_ (by size_fits))
 refine wpAny_bind (m:=firstArgMember _ _) (wpAny_of_eq (a:=Value.none) (by first|rfl|(unfold firstArgMember;rfl)) ?_)
 refine wpAny_newObj_type ?_ (by size_fits)
 simp only[raiseNew]
 refine wpAny_bind (wpAny_handled ?_)
 first|rw[hh]|rw[show A.in1.handled=none from hh]
 exact wpAny_bind (wpAny_pure (wpAny_throw (k _ _ (((Heap.SameBut.update ..).extBut.push _).push _) ⟨_,fO _ rfl,rfl⟩)))
end
theorem SqT.old {X:Cx} {pz:AoL} {σ:St} {H:Hp} {s:Shared} {a:Addr} {xs:List V} (I:Inv X pz σ H s) (h:SqT X.K H a xs):a<s.heap.objs.size:=by
 obtain⟨its,_,p,_⟩:=I.tuple h
 obtain⟨o,e,_⟩:=p
 exact fN e
def SI (c:String) (h:Heap) (j t:Addr) (i:Nat):Prop:=∃o,h.get? j=some o/\o.cls= .type c/\o.data= .fields #[.ref t,.int i 0]
theorem SI.extBut {c:String} {h h':Heap} {j b t:Addr} {i:Nat} (g:SI c h j t i) (e:Heap.ExtBut b h h') (n:j≠b):SI c h' j t i:=let⟨o,e1,r⟩:=g;⟨o,e _ _ n e1,r⟩
structure Sk where
 it:String
 S:Heap->Addr->Array Value->Prop
 Sq:PySem.W.Frag->Hp->Addr->List V->Prop
 ext:∀{h h':Heap} {a b:Addr} {xs:Array Value},S h a xs->Heap.ExtBut b h h'->a≠b->S h' a xs
 push:∀{h:Heap} {a:Addr} {xs:Array Value},S h a xs->∀o,S (h.push o) a xs
 nx:∀{prog:Program} {w:World} {A:Around} {E:EvP} {s:Shared} {j t:Addr} {i:Nat} {its:Array Value} {x:Value} {Q:EvP},SI it s.heap j t i->S s.heap t its->its[i]?=some x->(∀h',SI it h' j t (i+ 1)->Heap.SameBut j s.heap h'->Q x {s with heap:=h'})->wpAny (model prog w) A (Builtin.SmallTypes.nextOf (.ref j)) Q E s
 ne:∀{prog:Program} {w:World} {A:Around} {E:EvP} {s:Shared} {j t:Addr} {i:Nat} {its:Array Value} {Q:EvP},A.handled=none->SI it s.heap j t i->S s.heap t its->its[i]?=none->(∀h' x,Heap.ExtBut j s.heap h'->(∃o,h'.get? x=some o/\o.cls= .type "StopIteration")->E (.ref x) {s with heap:=h'})->wpAny (model prog w) A (Builtin.SmallTypes.nextOf (.ref j)) Q E s
 iter:∀{prog:Program} {w:World} {A:Around} {E:EvP} {s:Shared} {t:Addr} {its:Array Value} {Q:EvP},S s.heap t its->Q (.ref s.heap.objs.size) {s with heap:=s.heap.push {cls:= .type it,data:= .fields #[.ref t,.int 0 0]}}->wpAny (model prog w) A (pyIter (.ref t)) Q E s
 inv:∀{X:Cx} {pz:AoL} {σ:St} {H:Hp} {s:Shared} {a:Addr} {xs:List V},Inv X pz σ H s->Sq X.K H a xs->∃its,iO xs its/\S s.heap a its.toArray/\xs.length<=sizeLine
 inj:∀{X:Cx} {pz:AoL} {σ:St} {H:Hp} {s:Shared} {a:Addr} {xs ys:List V},Inv X pz σ H s->Sq X.K H a xs->Sq X.K H a ys->xs=ys
 old:∀{X:Cx} {pz:AoL} {σ:St} {H:Hp} {s:Shared} {a:Addr} {xs:List V},Inv X pz σ H s->Sq X.K H a xs->a<s.heap.objs.size
def tS:Sk:=⟨"tuple_iterator",Heap.IsTuple,SqT,fun a b c=>a.extBut b c,fun a o=>a.push o,fun a b c d=>FZ a b c d,fun a b c d e=>yu a b c d e,fun a b=>wpAny_pyIter_tuple a b,fun I q=>I.tuple q,fun I a b=>I.tuple_inj a b,fun I q=>SqT.old I q⟩
def lS:Sk:=⟨"list_iterator",Heap.IsList,SqL,fun a b c=>a.extBut b c,fun a o=>a.push o,fun a b c d=>wpAny_nextOf_list_item a b c d,fun a b c d e=>wpAny_nextOf_list_end a b c d e,fun a b=>wpAny_pyIter_list a b,fun I q=>let⟨its,r,p,z⟩:=I.list q;⟨its,r,p.isList,z⟩,fun I a b=>I.list_inj a b,fun I q=>SqL.old I q⟩
section
variable {prog:Program} {w:World} {A:Around} {E:EvP} {s:Shared}
theorem DY {u1 u2:Sk} {z TI TO j1 j2 t1 t2:Addr} {k1 k2:Nat} {xs ys:Array Value} {x y a b:Value} {Q:EvP} (D:ZipApart z TI TO j1 j2 t1 t2)
  (gz:IsZip s.heap z TI TO .none) (gI:IsPair s.heap TI (.ref j1) (.ref j2)) (gO:IsPair s.heap TO a b)
  (g1:SI u1.it s.heap j1 t1 k1) (g2:SI u2.it s.heap j2 t2 k2) (d1:u1.S s.heap t1 xs) (d2:u2.S s.heap t2 ys) (ex:xs[k1]?=some x) (ey:ys[k2]?=some y)
  (k:∀h',IsZip h' z TI TO (rawInt s.heap.objs.size)->IsPair h' TO x y->SI u1.it h' j1 t1 (k1+ 1)->SI u2.it h' j2 t2 (k2+ 1)->IsPair h' s.heap.objs.size x y->h'.objs.size=s.heap.objs.size+ 1->
   (∀c o,c≠z->c≠TO->c≠j1->c≠j2->s.heap.get? c=some o->h'.get? c=some o)->Q (.ref s.heap.objs.size) {s with heap:=h'}):
  wpAny (model prog w) A (Builtin.«zip.__next__» ⟨[.ref z],[]⟩) (fun fin s'=>∃v,fin= .done (.ret v)/\Q v s') E s:=by
 show wpAny _ _ (field (.ref z) 2 >>= _) _ _ _
 refine wpAny_bind (wpAny_field gz rfl (x:= .bool false) rfl ?_)
 show wpAny _ _ (field (.ref z) 3 >>= _) _ _ _
 refine wpAny_bind (wpAny_field gz rfl (x:= .ref TI) rfl ?_)
 refine wpAny_bind (wpAny_seqItems gI rfl ?_)
 show wpAny _ _ (Builtin.SmallTypes.ownedTupleIsFree (.ref z) >>= _) _ _ _
 refine wpAny_bind ?_
 unfold Builtin.SmallTypes.ownedTupleIsFree
 refine wpAny_bind (wpAny_field gz rfl (x:= .none) rfl (wpAny_pure ?_))
 simp only[if_true]
 refine wpAny_bind (wpAny_rule (wpAny_bind (wpAny_field gz rfl (x:= .ref TO) rfl ?_)))
 refine wpAny_bind (wpAny_setField_rec gz (by simp) fun q1 gz1 b1=>?_)
 replace gz1:IsZip q1 z TI TO .ellipsis:=gz1
 refine wpAny_bind ?_
 simp only[List.zipIdx_cons,List.zipIdx_nil,List.forIn_cons,List.forIn_nil]
 refine wpAny_bind (wpAny_bind (wpAny_onRaise ?_))
 show wpAny _ _ (Builtin.SmallTypes.nextOf (.ref j1) >>= _) _ _ _
 refine wpAny_bind (u1.nx (g1.extBut b1.extBut D.i1z) (u1.ext d1 b1.extBut D.l1z) ex fun q2 g12 b2=>wpAny_pure ?_)
 have gO2:IsPair q2 TO a b:=b2.extBut _ _ D.TOi1 (b1.extBut _ _ D.TOz gO)
 refine wpAny_bind (wpAny_seqItems gO2 rfl (wpAny_bind (wpAny_updateSeq_pair gO2 fun q3 gO3 b3=>?_)))
 replace gO3:IsPair q3 TO x b:=gO3
 refine wpAny_bind (wpAny_letGo (wpAny_pure (wpAny_bind (wpAny_bind (wpAny_onRaise ?_)))))
 show wpAny _ _ (Builtin.SmallTypes.nextOf (.ref j2) >>= _) _ _ _
 refine wpAny_bind (u2.nx (((g2.extBut b1.extBut D.i2z).extBut b2.extBut D.i12.symm).extBut b3.extBut D.TOi2.symm) (u2.ext (u2.ext (u2.ext d2 b1.extBut D.l2z) b2.extBut D.l2i1) b3.extBut D.l2TO) ey fun q4 g24 b4=>wpAny_pure ?_)
 have gO4:IsPair q4 TO x b:=b4.extBut _ _ D.TOi2 gO3
 refine wpAny_bind (wpAny_seqItems gO4 rfl (wpAny_bind (wpAny_updateSeq_pair gO4 fun q5 gO5 b5=>?_)))
 replace gO5:IsPair q5 TO x y:=gO5
 refine wpAny_bind (wpAny_letGo (wpAny_pure (wpAny_pure (wpAny_bind (wpAny_seqItems gO5 rfl (wpAny_bind (wpAny_newTuple ?_)))))))
 have sz:q5.objs.size=s.heap.objs.size:=by rw[b5.1,b4.1,b3.1,b2.1,b1.1]
 have gz5:IsZip q5 z TI TO .ellipsis:=b5.extBut _ _ D.TOz.symm (b4.extBut _ _ D.i2z.symm (b3.extBut _ _ D.TOz.symm (b2.extBut _ _ D.i1z.symm gz1)))
 have kp5:∀c o,c≠z->c≠TO->c≠j1->c≠j2->s.heap.get? c=some o->q5.get? c=some o:=fun c o n1 n2 n3 n4 e=>
  b5.extBut _ _ n2 (b4.extBut _ _ n4 (b3.extBut _ _ n2 (b2.extBut _ _ n3 (b1.extBut _ _ n1 e))))
 have g15:SI u1.it q5 j1 t1 (k1+ 1):=((g12.extBut b3.extBut D.TOi1.symm).extBut b4.extBut D.i12).extBut b5.extBut D.TOi1.symm
 have g25:SI u2.it q5 j2 t2 (k2+ 1):=g24.extBut b5.extBut D.TOi2.symm
 have zlt:z<q5.objs.size:=fN gz5
 show wpAny _ _ (Builtin.SmallTypes.ownedTupleHandOut (.ref z) (.ref q5.objs.size) >>= _) _ _ _
 refine wpAny_bind ?_
 unfold Builtin.SmallTypes.ownedTupleHandOut
 have gz6:IsZip (q5.push {cls:= .type "tuple",data:= .seq #[x,y]}) z TI TO .ellipsis:=fS _ gz5
 refine wpAny_bind (wpAny_setField_rec gz6 (by simp) fun q7 gz7 b7=>?_)
 replace gz7:IsZip q7 z TI TO (rawInt q5.objs.size):=gz7
 refine wpAny_setField_rec gz7 (by simp) fun q8 gz8 b8=>?_
 replace gz8:IsZip q8 z TI TO (rawInt q5.objs.size):=gz8
 have up:∀c o,c≠z->q5.get? c=some o->q8.get? c=some o:=fun c o n1 e=>b8.extBut _ _ n1 (b7.extBut _ _ n1 (fS _ e))
 have gT8:IsPair q8 q5.objs.size x y:=b8.extBut _ _ (cn zlt) (b7.extBut _ _ (cn zlt) (fO _ rfl))
 have sz8:q8.objs.size=q5.objs.size+ 1:=by rw[b8.1,b7.1,fV]
 rw[sz]at gz8 gT8 sz8
 refine wpAny_pure ⟨_,rfl,?_⟩
 show Q (.ref q5.objs.size) _
 rw[sz]
 refine k q8 gz8 (up _ _ D.TOz gO5) ?_ ?_ gT8 sz8 fun c o n1 n2 n3 n4 e=>up c o n1 (kp5 c o n1 n2 n3 n4 e)
 ·obtain⟨o,e,r⟩:=g15;exact⟨o,up _ o D.i1z e,r⟩
 ·obtain⟨o,e,r⟩:=g25;exact⟨o,up _ o D.i2z e,r⟩
theorem F0 {u1 u2:Sk} {z TI TO j1 j2 t1 t2:Addr} {k1 k2:Nat} {xs ys:Array Value} {a b:Value} {Q:Fin->Shared->Prop} (hh:A.handled=none) (D:ZipApart z TI TO j1 j2 t1 t2)
  (gz:IsZip s.heap z TI TO .none) (gI:IsPair s.heap TI (.ref j1) (.ref j2)) (gO:IsPair s.heap TO a b)
  (g1:SI u1.it s.heap j1 t1 k1) (g2:SI u2.it s.heap j2 t2 k2) (d1:u1.S s.heap t1 xs) (d2:u2.S s.heap t2 ys) (hend:xs[k1]?=none\/ys[k2]?=none)
  (k:∀h' e,(∀c o,c≠z->c≠TO->c≠j1->c≠j2->s.heap.get? c=some o->h'.get? c=some o)->(∃o,h'.get? e=some o/\o.cls= .type "StopIteration")->E (.ref e) {s with heap:=h'}):
  wpAny (model prog w) A (Builtin.«zip.__next__» ⟨[.ref z],[]⟩) Q E s:=by
 show wpAny _ _ (field (.ref z) 2 >>= _) _ _ _
 refine wpAny_bind (wpAny_field gz rfl (x:= .bool false) rfl ?_)
 show wpAny _ _ (field (.ref z) 3 >>= _) _ _ _
 refine wpAny_bind (wpAny_field gz rfl (x:= .ref TI) rfl ?_)
 refine wpAny_bind (wpAny_seqItems gI rfl ?_)
 show wpAny _ _ (Builtin.SmallTypes.ownedTupleIsFree (.ref z) >>= _) _ _ _
 refine wpAny_bind ?_
 unfold Builtin.SmallTypes.ownedTupleIsFree
 refine wpAny_bind (wpAny_field gz rfl (x:= .none) rfl (wpAny_pure ?_))
 simp only[if_true]
 refine wpAny_bind (wpAny_rule (wpAny_bind (wpAny_field gz rfl (x:= .ref TO) rfl ?_)))
 refine wpAny_bind (wpAny_setField_rec gz (by simp) fun q1 gz1 b1=>?_)
 replace gz1:IsZip q1 z TI TO .ellipsis:=gz1
 refine wpAny_bind ?_
 simp only[List.zipIdx_cons,List.zipIdx_nil,List.forIn_cons,List.forIn_nil]
 refine wpAny_bind (wpAny_bind (wpAny_onRaise ?_))
 show wpAny _ _ (Builtin.SmallTypes.nextOf (.ref j1) >>= _) _ _ _
 cases ex:xs[k1]? with
 |none=>
  refine wpAny_bind (u1.ne hh (g1.extBut b1.extBut D.i1z) (u1.ext d1 b1.extBut D.l1z) ex fun q2 e b2 he=>?_)
  obtain⟨oe,hoe,hce⟩:=he
  have gz2:IsZip q2 z TI TO .ellipsis:=b2 _ _ D.i1z.symm gz1
  have nz:e≠z:=fun q=>by subst q;rw[gz2]at hoe;cases hoe;simp at hce
  refine wpAny_setField_rec gz2 (by simp) fun q3 _ b3=>k q3 e (fun c o n1 _ n3 _ q=>b3.extBut _ _ n1 (b2 _ _ n3 (b1.extBut _ _ n1 q))) ⟨oe,b3.extBut _ _ nz hoe,hce⟩
 |some x=>
  have ey:ys[k2]?=none:=hend.elim (fun q=>by rw[ex]at q;cases q) id
  refine wpAny_bind (u1.nx (g1.extBut b1.extBut D.i1z) (u1.ext d1 b1.extBut D.l1z) ex fun q2 g12 b2=>wpAny_pure ?_)
  have gO2:IsPair q2 TO a b:=b2.extBut _ _ D.TOi1 (b1.extBut _ _ D.TOz gO)
  refine wpAny_bind (wpAny_seqItems gO2 rfl (wpAny_bind (wpAny_updateSeq_pair gO2 fun q3 gO3 b3=>?_)))
  refine wpAny_bind (wpAny_letGo (wpAny_pure (wpAny_bind (wpAny_bind (wpAny_onRaise ?_)))))
  show wpAny _ _ (Builtin.SmallTypes.nextOf (.ref j2) >>= _) _ _ _
  refine wpAny_bind (u2.ne hh (((g2.extBut b1.extBut D.i2z).extBut b2.extBut D.i12.symm).extBut b3.extBut D.TOi2.symm) (u2.ext (u2.ext (u2.ext d2 b1.extBut D.l2z) b2.extBut D.l2i1) b3.extBut D.l2TO) ey fun q4 e b4 he=>?_)
  obtain⟨oe,hoe,hce⟩:=he
  have gz4:IsZip q4 z TI TO .ellipsis:=b4 _ _ D.i2z.symm (b3.extBut _ _ D.TOz.symm (b2.extBut _ _ D.i1z.symm gz1))
  have nz:e≠z:=fun q=>by subst q;rw[gz4]at hoe;cases hoe;simp at hce
  refine wpAny_setField_rec gz4 (by simp) fun q5 _ b5=>k q5 e (fun c o n1 n2 n3 n4 q=>b5.extBut _ _ n1 (b4 _ _ n4 (b3.extBut _ _ n2 (b2.extBut _ _ n3 (b1.extBut _ _ n1 q))))) ⟨oe,b5.extBut _ _ nz hoe,hce⟩
theorem zU {u1 u2:Sk} {z TI TO j1 j2 t1 t2:Addr} {k1 k2:Nat} {xs ys:Array Value} {x y a b:Value} {Q:Option Value->Shared->Prop} (D:ZipApart z TI TO j1 j2 t1 t2)
  (gz:IsZip s.heap z TI TO .none) (gI:IsPair s.heap TI (.ref j1) (.ref j2)) (gO:IsPair s.heap TO a b)
  (g1:SI u1.it s.heap j1 t1 k1) (g2:SI u2.it s.heap j2 t2 k2) (d1:u1.S s.heap t1 xs) (d2:u2.S s.heap t2 ys) (ex:xs[k1]?=some x) (ey:ys[k2]?=some y)
  (k:∀h',IsZip h' z TI TO (rawInt s.heap.objs.size)->IsPair h' TO x y->SI u1.it h' j1 t1 (k1+ 1)->SI u2.it h' j2 t2 (k2+ 1)->IsPair h' s.heap.objs.size x y->h'.objs.size=s.heap.objs.size+ 1->
   (∀c o,c≠z->c≠TO->c≠j1->c≠j2->s.heap.get? c=some o->h'.get? c=some o)->Q (some (.ref s.heap.objs.size)) {s with heap:=h'}):
  wpAny (model prog w) A (pyNext (.ref z)) Q E s:=by
 have tz:s.TypeIs (.ref z) "zip":=⟨_,gz,rfl⟩
 unfold pyNext
 exact wpAny_bind (wpAny_attempt (wpAny_callSpecial?_slot (name:=Str.ofString "__next__") tz F.slot_zip_next (wpAny_call_entry F.slot_zip_next tz F.entry_zip_next
   (DY D gz gI gO g1 g2 d1 d2 ex ey fun h' a1 a2 a3 a4 a5 a6 a7=>wpAny_pure (k h' a1 a2 a3 a4 a5 a6 a7)) (F.args_zip_next_1 _))))
theorem sV {u1 u2:Sk} {z TI TO j1 j2 t1 t2:Addr} {k1 k2:Nat} {xs ys:Array Value} {a b:Value} {Q:Option Value->Shared->Prop} (hh:A.handled=none) (D:ZipApart z TI TO j1 j2 t1 t2)
  (gz:IsZip s.heap z TI TO .none) (gI:IsPair s.heap TI (.ref j1) (.ref j2)) (gO:IsPair s.heap TO a b)
  (g1:SI u1.it s.heap j1 t1 k1) (g2:SI u2.it s.heap j2 t2 k2) (d1:u1.S s.heap t1 xs) (d2:u2.S s.heap t2 ys) (hend:xs[k1]?=none\/ys[k2]?=none)
  (k:∀h',(∀c o,c≠z->c≠TO->c≠j1->c≠j2->s.heap.get? c=some o->h'.get? c=some o)->Q none {s with heap:=h'}):wpAny (model prog w) A (pyNext (.ref z)) Q E s:=by
 have tz:s.TypeIs (.ref z) "zip":=⟨_,gz,rfl⟩
 unfold pyNext
 refine wpAny_bind (wpAny_attempt (wpAny_callSpecial?_slot (name:=Str.ofString "__next__") tz F.slot_zip_next (wpAny_call_entry F.slot_zip_next tz F.entry_zip_next (F0 hh D gz gI gO g1 g2 d1 d2 hend fun h' e kp he=>?_) (F.args_zip_next_1 _))))
 obtain⟨o,ho,hc⟩:=he
 exact wpAny_bind (wpAny_isInstance (T:="StopIteration") (b:=true) ⟨o,ho,hc⟩ isSubtype_stop (wpAny_pure (k _ kp)))
end
abbrev zt1 (u1:Sk) (h:Heap) (t1:Addr):Heap:=h.push {cls:= .type u1.it,data:= .fields #[.ref t1,.int 0 0]}
abbrev zt2 (u1 u2:Sk) (h:Heap) (t1 t2:Addr):Heap:=(zt1 u1 h t1).push {cls:= .type u2.it,data:= .fields #[.ref t2,.int 0 0]}
abbrev zt3 (u1 u2:Sk) (h:Heap) (t1 t2:Addr):Heap:=(zt2 u1 u2 h t1 t2).push {cls:= .type "tuple",data:= .seq #[.ref h.objs.size,.ref (zt1 u1 h t1).objs.size]}
abbrev zt4 (u1 u2:Sk) (h:Heap) (t1 t2:Addr):Heap:=(zt3 u1 u2 h t1 t2).push {cls:= .type "tuple",data:= .seq #[.none,.none]}
abbrev zt5 (u1 u2:Sk) (h:Heap) (t1 t2:Addr):Heap:=(zt4 u1 u2 h t1 t2).push {cls:= .type "zip",data:= .fields #[.none,.bool false,.bool false,.ref (zt2 u1 u2 h t1 t2).objs.size,.ref (zt3 u1 u2 h t1 t2).objs.size]}
theorem F8 (u1 u2:Sk) (t1 t2:Addr) (xs ys:Array Value):Meets (Builtin.«zip.__new__» ⟨[.type "zip",.ref t1,.ref t2],[]⟩) (fun _ R s=>u1.S s.heap t1 xs/\u2.S s.heap t2 ys/\R (.ok (.ret (.ref (zt4 u1 u2 s.heap t1 t2).objs.size))) {s with heap:=zt5 u1 u2 s.heap t1 t2}):=
 .of_wp fun prog w A R s h=>by
  obtain⟨hp,g,d,tk,os⟩:=s;obtain⟨d1,d2,h⟩:=h
  have hsub:=sub_zip
  have dd1:u1.S (Shared.heap ⟨hp,g,d,tk,os⟩) t1 xs:=d1
  have dd2:u2.S (Shared.heap ⟨hp.push {cls:= .type u1.it,data:= .fields #[.ref t1,.int 0 0]},g,d,tk,os⟩) t2 ys:=u2.push d2 _
  wp_walk using u1.iter dd1,u2.iter dd2
  exact⟨_,rfl,h⟩
section
variable {prog:Program} {w:World} {A:Around} {E:EvP} {s:Shared}
theorem zV {u1 u2:Sk} {t1 t2:Addr} {xs ys:Array Value} {Q:EvP} (d1:u1.S s.heap t1 xs) (d2:u2.S s.heap t2 ys)
  (k:∀h',IsZip h' (s.heap.objs.size+ 4) (s.heap.objs.size+ 2) (s.heap.objs.size+ 3) .none->IsPair h' (s.heap.objs.size+ 2) (.ref s.heap.objs.size) (.ref (s.heap.objs.size+ 1))->
   IsPair h' (s.heap.objs.size+ 3) .none .none->SI u1.it h' s.heap.objs.size t1 0->SI u2.it h' (s.heap.objs.size+ 1) t2 0->(∀c o,s.heap.get? c=some o->h'.get? c=some o)->Q (.ref (s.heap.objs.size+ 4)) {s with heap:=h'}):
  wpAny (model prog w) A (call (.type "zip") [.ref t1,.ref t2]) Q E s:=by
 refine callType_new F.called_zip (by decide) (F.typeCall_zip_2 _ _) (F.newCall_zip_2 _ _) (fun obj=>F.args_object_init_3 obj _ _) F.entry_zip_new (F8 u1 u2 t1 t2 xs ys) ⟨d1,d2,?_⟩
 have z1:(zt1 u1 s.heap t1).objs.size=s.heap.objs.size+ 1:=fV ..
 have z2:(zt2 u1 u2 s.heap t1 t2).objs.size=s.heap.objs.size+ 2:=by rw[fV,z1]
 have z3:(zt3 u1 u2 s.heap t1 t2).objs.size=s.heap.objs.size+ 3:=by rw[fV,z2]
 have z4:(zt4 u1 u2 s.heap t1 t2).objs.size=s.heap.objs.size+ 4:=by rw[fV,z3]
 have m5:(zt5 u1 u2 s.heap t1 t2).get? (zt4 u1 u2 s.heap t1 t2).objs.size=some _:=fO _ rfl
 have m4:(zt5 u1 u2 s.heap t1 t2).get? (zt3 u1 u2 s.heap t1 t2).objs.size=some _:=fS _ (fO _ rfl)
 have m3:(zt5 u1 u2 s.heap t1 t2).get? (zt2 u1 u2 s.heap t1 t2).objs.size=some _:=fS _ (fS _ (fO _ rfl))
 have m2:(zt5 u1 u2 s.heap t1 t2).get? (zt1 u1 s.heap t1).objs.size=some _:=fS _ (fS _ (fS _ (fO _ rfl)))
 have m1:(zt5 u1 u2 s.heap t1 t2).get? s.heap.objs.size=some _:=fS _ (fS _ (fS _ (fS _ (fO _ rfl))))
 show _/\_
 rw[z2,z3,z4]at m5
 rw[z1,z2]at m3
 rw[z3]at m4
 rw[z1]at m2
 rw[z4]
 exact⟨⟨_,m5,rfl⟩,k _ m5 m3 m4 ⟨_,m1,rfl,rfl⟩ ⟨_,m2,rfl,rfl⟩ fun c o q=>fS _ (fS _ (fS _ (fS _ (fS _ q))))⟩
end
def Itg (u1 u2:Sk) (K:PySem.W.Frag) (a b:Addr):It:=
 ⟨fun i H=>∃xs ys x y,u1.Sq K H a xs/\u2.Sq K H b ys/\xs[i]?=some x/\ys[i]?=some y,
   fun i H v H'=>∃T x y,v= .ref T/\H T=none/\H'=upd H T (.tup [x,y])/\(∀xs,u1.Sq K H a xs->xs[i]?=some x)/\∀ys,u2.Sq K H b ys->ys[i]?=some y,
   fun i H=>∃xs ys,u1.Sq K H a xs/\u2.Sq K H b ys/\i=min xs.length ys.length⟩
def ZTSt (u1 u2:Sk) (z TI TO i1 i2 a b:Addr) (i:Nat) (h:Heap):Prop:=IsZip h z TI TO .none/\IsPair h TI (.ref i1) (.ref i2)/\(∃u v,IsPair h TO u v)/\SI u1.it h i1 a i/\SI u2.it h i2 b i
theorem zW {u1 u2:Sk} {P:Program} {w:World} {K:PySem.W.Frag} {es:List Expr} {kk:Nat} {tp:Pos} {a b z TI TO i1 i2:Addr} (D:ZipApart z TI TO i1 i2 a b):Cv P w K (.Tuple es kk tp) (Itg u1 u2 K a b) [z,TI,TO,i1,i2] z (ZTSt u1 u2 z TI TO i1 i2 a b) where
 mem:=by simp
 obj:=fun i h st c hc=>by
  obtain⟨g1,g2,⟨u,v,g3⟩,⟨o4,g4,_,d4⟩,⟨o5,g5,_,d5⟩⟩:=st
  simp only[aj,bz,or_false]at hc
  rcases hc with e|e|e|e|e<;>subst e
  ·exact⟨_,g1,fun v q=>nomatch q⟩
  ·exact⟨_,g2,fun v q=>nomatch q⟩
  ·exact⟨_,g3,fun v q=>nomatch q⟩
  ·exact⟨_,g4,fun v q=>by rw[d4]at q;cases q⟩
  ·exact⟨_,g5,fun v q=>by rw[d5]at q;cases q⟩
 keep:=fun i h h' st k=>by
  obtain⟨g1,g2,⟨u,v,g3⟩,⟨o4,g4,r4⟩,⟨o5,g5,r5⟩⟩:=st
  exact⟨k z (by simp) _ g1,k TI (by simp) _ g2,⟨u,v,k TO (by simp) _ g3⟩,⟨o4,k i1 (by simp) o4 g4,r4⟩,⟨o5,k i2 (by simp) o5 g5,r5⟩⟩
 item:=by
  intro X hP hw hK hc i pz s σ H E I hf st hg
  subst hP hw hK
  obtain⟨xs,ys,x,y,qx,qy,ex,ey⟩:=hg
  obtain⟨i1s,r1,p1,z1⟩:=u1.inv I qx
  obtain⟨i2s,r2,p2,z2⟩:=u2.inv I qy
  obtain⟨g1,g2,⟨u,v,g3⟩,g4,g5⟩:=st
  obtain⟨ux,hux,rr1⟩:=r1.get ex
  obtain⟨uy,huy,rr2⟩:=r2.get ey
  have hw:∀c∈[z,TO,i1,i2],vF X pz H c:=fun c hc=>hf c (by simp only[aj,bz,or_false]at hc⊢;first|(rcases hc with h|h|h|h<;>simp[h])|simp[hc])
  refine zU D g1 g2 g3 g4 g5 (show u1.S s.heap a i1s.toArray from p1) (show u2.S s.heap b i2s.toArray from p2) (x:=ux) (y:=uy) (by simpa using hux) (by simpa using huy) fun h1 a1 a2 a3 a4 a5 a6 hk=>?_
  have kk1:∀c o,c∉[z,TO,i1,i2]->s.heap.get? c=some o->h1.get? c=some o:=fun c o hc e=>hk c o (fun q=>hc (by simp[q])) (fun q=>hc (by simp[q])) (fun q=>hc (by simp[q])) (fun q=>hc (by simp[q])) e
  have J1:Inv X pz σ H {s with heap:=h1,toks:=s.toks}:=I.turnedL kk1 hw
  refine⟨.ref s.heap.objs.size,rfl,wpAny_letOwnedTupleGo_zip a1 fun h2 a1' sb=>?_⟩
  have J2:Inv X pz σ H {s with heap:=h2,toks:=s.toks}:=Inv.turnedL (s:={s with heap:=h1,toks:=s.toks}) (h':=h2) (t':=s.toks) (ch:=[z]) J1 (fun c o hc e=>sb.extBut _ _ (fun q=>hc (by simp[q])) e) fun c hc=>hf c (by simp only[aj,bz,or_false]at hc⊢;first|(rcases hc with h|h|h|h<;>simp[h])|simp[hc])
  have zlt:z<s.heap.objs.size:=fN g1
  have ht2:yg h2 s.heap.objs.size #[ux,uy]:=⟨_,sb.extBut _ _ (cn zlt) a5,rfl,_,rfl,rfl⟩
  obtain⟨fT,J3⟩:=I.pairNew (cq _) J2 ht2 rr1 rr2
  refine⟨.ref s.heap.objs.size,_,J3,rfl,⟨_,x,y,rfl,fT,rfl,fun l hl=>by rw[u1.inj I hl qx];exact ex,fun l hl=>by rw[u2.inj I hl qy];exact ey⟩,
   ⟨a1',sb.extBut _ _ D.TIz (hk _ _ D.TIz D.TITO D.TIi1 D.TIi2 g2),⟨_,_,sb.extBut _ _ D.TOz a2⟩,a3.extBut sb.extBut D.i1z,a4.extBut sb.extBut D.i2z⟩,fun c hc=>?_⟩
  rw[gw (fun q=>?_)]
  ·exact(hf c hc).1
  ·have lt:c<s.heap.objs.size:=by
    obtain⟨o4,e4,_⟩:=g4
    obtain⟨o5,e5,_⟩:=g5
    simp only[aj,bz,or_false]at hc
    rcases hc with e|e|e|e|e<;>subst e
    ·exact fN g1
    ·exact fN g2
    ·exact fN g3
    ·exact fN e4
    ·exact fN e5
   exact absurd lt (by rw[q];exact cg _)
 done:=by
  intro X hP hw hK hc i pz s σ H E I hf st hg
  subst hP hw hK
  obtain⟨xs,ys,qx,qy,ei⟩:=hg
  obtain⟨i1s,r1,p1,z1⟩:=u1.inv I qx
  obtain⟨i2s,r2,p2,z2⟩:=u2.inv I qy
  obtain⟨g1,g2,⟨u,v,g3⟩,g4,g5⟩:=st
  have l1:=r1.length
  have l2:=r2.length
  refine sV (I.ok.hd hc) D g1 g2 g3 g4 g5 (show u1.S s.heap a i1s.toArray from p1) (show u2.S s.heap b i2s.toArray from p2) ?_ fun h1 hk=>⟨rfl,I.turnedL (t':=s.toks) (ch:=[z,TO,i1,i2]) (fun c o hc e=>hk c o (fun q=>hc (by simp[q])) (fun q=>hc (by simp[q])) (fun q=>hc (by simp[q])) (fun q=>hc (by simp[q])) e) fun c hc=>hf c (by simp only[aj,bz,or_false]at hc⊢;first|(rcases hc with h|h|h|h<;>simp[h])|simp[hc])⟩
  simp only[List.getElem?_toArray,List.getElem?_eq_none_iff]
  lia
 self:=fun _ _ _ _ _ st h=>wpAny_pyIter_zip st.1 h
def F9 (u1 u2:Sk) (K:PySem.W.Frag) (ta:TA):TI:=fun σ H R=>ta σ H fun vs H1=>∃a b,vs=[.ref a,.ref b]/\(∃xs,u1.Sq K H1 a xs)/\(∃ys,u2.Sq K H1 b ys)/\R (Itg u1 u2 K a b) H1
section
variable {X:Cx}
theorem DZ (u1 u2:Sk) {es:List Expr} {kk:Nat} {tp:Pos} {a b:Expr} {ta:TA} {p pos:Pos} (hg:Gl X "zip") (hm:X.mg "zip"=none) (ha:PA X [a,b] ta) (hs:autoParam (starEach [a,b] X.env=[(false,eval a X.env),(false,eval b X.env)]) auR._auto_1) (hs2:autoParam (starEach [b] X.env=[(false,eval b X.env)]) auR._auto_1):
  PI X (.Tuple es kk tp) (.Call (.Name "zip" p) [a,b] [] pos) (F9 u1 u2 X.K ta):=by
 intro pz s σ H R I h
 refine Call_ (oo I hg hm FW (fY (thn (ha pos pz s σ H _ I h) fun us s1 ⟨vs,H1,I1,r1,q1⟩=>?_) (by rw[hs,hs2]) (by rw[hs2];rfl)))
 obtain⟨l1,l2,e,⟨xs,q1⟩,⟨ys,q2⟩,q⟩:=q1
 subst e
 obtain⟨u,v,rfl,ru,rv⟩:=vI r1
 cases ru
 cases rv
 obtain⟨i1s,w1,p1,z1⟩:=u1.inv I1 q1
 obtain⟨i2s,w2,p2,z2⟩:=u2.inv I1 q2
 have o1:@LT.lt Nat _ l1 s1.heap.objs.size:=u1.old I1 q1
 have o2:@LT.lt Nat _ l2 s1.heap.objs.size:=u2.old I1 q2
 refine zV (show u1.S s1.heap l1 i1s.toArray from p1) (show u2.S s1.heap l2 i2s.toArray from p2) fun h1 hz hTI hTO hi1 hi2 hk=>wpAny_pyIter_zip hz ?_
 have D:ZipApart (s1.heap.objs.size+ 4) (s1.heap.objs.size+ 2) (s1.heap.objs.size+ 3) s1.heap.objs.size (s1.heap.objs.size+ 1) l1 l2:=by constructor<;>exact fun(h:@Eq Nat _ _)=>by lia
 refine⟨_,_,_,_,H1,rfl,I1.kept (t':=s1.toks) hk,zW D,⟨hz,hTI,⟨_,_,hTO⟩,hi1,hi2⟩,fun c hc=>?_,q⟩
 have ge:s1.heap.objs.size<=c:=by
  simp only[aj,bz,or_false]at hc
  rcases hc with h|h|h|h|h<;>rw[h]<;>first|exact cq _|exact Nat.le_add_right _ _
 exact I1.fpOk ge (I1.hok.fresh ge)
theorem D0 {es:List Expr} {kk:Nat} {tp:Pos} {a b:Expr} {ta:TA} {p pos:Pos} (hg:Gl X "zip") (hm:X.mg "zip"=none) (ha:PA X [a,b] ta) (hs:autoParam (starEach [a,b] X.env=[(false,eval a X.env),(false,eval b X.env)]) auR._auto_1) (hs2:autoParam (starEach [b] X.env=[(false,eval b X.env)]) auR._auto_1):
  PI X (.Tuple es kk tp) (.Call (.Name "zip" p) [a,b] [] pos) (F9 tS lS X.K ta):=DZ tS lS hg hm ha hs hs2
end
theorem yv:typeLookup (.type "tuple") "keys"=pure none:=by rw[typeLookup_type,builtinLookup_eq_fast];kernel_rfl
section
variable {prog:Program} {w:World} {A:Around} {E:EvP} {s:Shared}
theorem D1 {a:Addr} {xs:Array Value} {k:Nat} {sl:Array (Option Value)} {Q:Option Value->Shared->Prop} (hx:s.heap.get? a=some {cls:= .type "tuple",dict:=none,data:= .seq xs k,slots:=sl}) (hA:A.handled=none)
  (q:∀h' tk,(∀b o,s.heap.get? b=some o->h'.get? b=some o)->Q none {s with heap:=h',toks:=tk}):wpAny (model prog w) A (getAttr? (.ref a) "keys") Q E s:=by
 obtain⟨hp,g,d,tk,os⟩:=s
 have hT:∀tk',(⟨hp,g,d,tk',os⟩:Shared).TypeIs (.ref a) "tuple":=fun _=>⟨_,hx,rfl⟩
 have f1:=sub_AttributeError
 have f3:=F.slot_tuple_getattribute.lookup
 have f4:=F.slot_tuple_getattribute.bind (.ref a)
 have f5:=am_tuple_getattr_none
 unfold getAttr? getAttrBy? getAttrBy
 repeat(any_goals(first|assumption|exact hT _|((with_reducible show wpAny _ _ (call (Value.builtin "tuple.__getattribute__") _ _) _ _ _);refine call_meets F.slot_tuple_getattribute (hT _) am_entry_tuple_getattribute (F.args_tuple_getattribute_2 _ _) (meets_getattribute_miss_tuple a xs k sl "keys" _ yv gB gB) ⟨hx,hA,fun h' tk' e hx'=>?_⟩)|wp_step))
 obtain⟨t',u',he⟩:=hx'.there
 show wpAny _ _ (getattributeRaised _ _ _ _ _ _ _) _ _ _
 unfold getattributeRaised
 repeat(any_goals(first|assumption|wp_step))
 exact q h' tk' hx'.keeps
end
inductive Prs (H:Hp):List V->List (Str×V)->Prop
 |nil:Prs H [] []
 |cons {a:Addr} {p:Str×V} {l:List V} {m:List (Str×V)}:H a=some (.tup [.str p.1,p.2])->Prs H l m->Prs H (.ref a::l) (p::m)
theorem nq:entryFor table "dict.update.loop"=some Builtin.«dict.update.loop»:=entryFor_of_tree (by kernel_rfl)
def kf (p:Str×V):Key×V:=(Sum.inr p.1,p.2)
section
variable {X:Cx} {pz:AoL} {σ:St} {H:Hp} {d it t:Addr} {vs:List V} {A:Around} {R:Result->Shared->Prop}
theorem uQ (hA:A.handled=none) (hd:H d=none) (ht:H t=some (.tup vs)):∀(rest:List (Str×V)) (ys:List V) (i:Nat) (acc:List (Key×V)) (s:Shared),
  Inv X pz σ (upd H d (.dK acc)) s->vF X pz (upd H d (.dK acc)) it->s.heap.IsTupleIter it t i->vs.drop i=ys->Prs H ys rest->acc.length+rest.length<=1000->
  (∀s',Inv X pz σ (upd H d (.dK (km acc (rest.map kf)))) s'->R (.ok (.ret .none)) s')->
  codeAny (model X.prog X.w) A (.builtin "dict.update.loop" ⟨[.ref d,.ref it,.int (i:Int) 0,.none],[]⟩) R s
 |[],ys,i,acc,s,I,f,st,ey,hp,hn,k=>by
  cases hp
  have ht':(upd H d (.dK acc)) t=some (.tup vs):=by rw[gw (gr ht hd)];exact ht
  obtain⟨its,rv,p,hz⟩:=I.tuple (SqT.of ht')
  obtain⟨f0,f1,f2,f3,f4,f5⟩:=f
  have hl:=rv.length
  have hi:vs.length<=i:=bB.mp ey
  refine codeAny_builtin nq ?_
  unfold Builtin.«dict.update.loop»
  show wpAny _ _ (pyNext (.ref it) >>= _) _ _ s
  refine wpAny_bind (wpAny_pyNext_tuple_end (by exact hA) st (show s.heap.IsTuple t its.toArray from p) (by simp;lia) fun h' eb=>?_)
  have I1:Inv X pz σ (upd H d (.dK acc)) {s with heap:=h'}:=I.turned (t':=s.toks) (fun b o hb e=>eb b o hb e) f0 f1 f3 f4 f5
  exact wpAny_bind (wpAny_pure (wpAny_pure (k _ I1)))
 |pr::rest,ys,i,acc,s,I,f,st,ey,hp0,hn,k=>by
  obtain⟨a,l,rfl,ha,hp⟩:∃a l,ys= .ref a::l/\H a=some (.tup [.str pr.1,pr.2])/\Prs H l rest:=by
   cases hp0 with
   |cons h1 h2=>exact⟨_,_,rfl,h1,h2⟩
  have ht':(upd H d (.dK acc)) t=some (.tup vs):=by rw[gw (gr ht hd)];exact ht
  have ha':(upd H d (.dK acc)) a=some (.tup [.str pr.1,pr.2]):=by rw[gw (gr ha hd)];exact ha
  obtain⟨its,rv,p,hz⟩:=I.tuple (SqT.of ht')
  have ff:=f
  obtain⟨f0,f1,f2,f3,f4,f5⟩:=f
  have hvi:vs[i]?=some (.ref a):=by
   have:=congrArg (·[0]?) ey
   simpa using this
  obtain⟨u,hu,ru⟩:=rv.get hvi
  cases ru
  refine codeAny_builtin nq ?_
  unfold Builtin.«dict.update.loop»
  show wpAny _ _ (pyNext (.ref it) >>= _) _ _ s
  refine wpAny_bind (wpAny_pyNext_tuple_item st (show s.heap.IsTuple t its.toArray from p) (x:= .ref a) (by simpa using hu) fun h' st' sb=>?_)
  have I1:Inv X pz σ (upd H d (.dK acc)) {s with heap:=h'}:=I.turned (t':=s.toks) (fun b o hb e=>(sb.2 b hb).trans e) f0 f1 f3 f4 f5
  obtain⟨its2,rv2,⟨ob,hob,hoc,on,hod⟩,_⟩:=I1.tuple (SqT.of ha')
  obtain⟨kx,vx,rfl,⟨tk,rfl⟩,rvx⟩:=vI rv2
  obtain⟨z,hds,vs2,rel,dd⟩:=vL I1.hok (show(upd H d (.dK acc)) d=some (.dK acc)from gh)
  refine wpAny_bind (wpAny_holding (wpAny_bind (wpAny_tryCatch ?_)))
  unfold Builtin.Dict.pairItems
  refine wpAny_bind (wpAny_typeOf (T:="tuple") ⟨ob,hob,hoc⟩ ?_)
  rw[gX (by decide)]
  refine wpAny_bind (wpAny_seqItems hob hod ?_)
  refine wpAny_pure ?_
  show wpAny _ _ (holding [Value.str pr.1 tk,vx] (dictSet d (.str pr.1 tk) vx)) _ _ _
  have hv2:vs2.length<=sizeLine:=by rw[<-rel.length];exact z
  have hn':acc.length+(rest.length+ 1)<=1000:=hn
  have hl:(mU acc (Sum.inr pr.1) pr.2).length<=1000:=by have:=iA acc (Sum.inr pr.1) pr.2;lia
  have hl2:(mU acc (Sum.inr pr.1) pr.2).length+rest.length<=1000:=by have:=iA acc (Sum.inr pr.1) pr.2;lia
  refine wpAny_holding (wpAny_dictSet_pairs (hsz:=hv2) (k:=(Sum.inr pr.1:Key)) (uE (k:=(Sum.inr pr.1:Key)) (show iP (kV (Sum.inr pr.1)) _ from⟨tk,rfl⟩)) dd fun h2 dd2 sb2=>?_)
  have he:∃q,h2.get? d=some q:=let⟨q,_,_,hq,_⟩:=dd2;⟨q,hq⟩
  have I2:=sL (t':=s.toks+ 1) I1 (by rw[gh];exact True.intro) sb2 he (uH (kvs:=mU acc (Sum.inr pr.1) pr.2) (ck hl (by decide)) hds (rel.put (Sum.inr pr.1) rvx) dd2)
  rw[qB]at I2
  have hid:it≠d:=fun e=>by rw[e,gh]at f0;exact nomatch f0
  obtain⟨oi,hoi,ri⟩:=st'
  have st2:h2.IsTupleIter it t (i+ 1):=⟨oi,(sb2.2 it hid).trans hoi,ri⟩
  refine wpAny_pure ⟨Code.quiet_builtin _ gB,?_⟩
  have ey2:vs.drop (i+ 1)=l:=by rw[<-List.tail_drop,ey];rfl
  exact uQ hA hd ht rest l (i+ 1) (mU acc (Sum.inr pr.1) pr.2) _ I2 ⟨by rw[gw hid]at f0⊢;exact f0,f1,f2,f3,f4,f5⟩ st2 ey2 hp hl2 k
end
section
variable {X:Cx}
theorem yw (hc:X.calm=true):kT X (.type "dict") (fun xs H Q=>∃(t:Addr) (vs:List V) (kvs:List (Str×V)),xs=[.ref t]/\H t=some (.tup vs)/\Prs H vs kvs/\kvs.length<=1000/\∀d,H d=none->Q (.ref d) (upd H d (.dK (km [] (kvs.map kf))))):=by
 intro pz s σ H xs us Q I r h
 obtain⟨t,vs,kvs,rfl,ht,hp,hn,q⟩:=h
 obtain⟨u,rfl,ru⟩:=m8 r
 cases ru
 obtain⟨_,its,rv,o,ho,hcl,n,hd,hdd⟩:=(show iD X.prog X.w H s.heap t (.tup vs)from I.hok t _ ht)
 obtain⟨oc,od,odt,osl⟩:=o
 cases(show oc=_ from hcl)
 cases(show odt=_ from hd)
 cases(show od=_ from hdd)
 refine callType_codes (Q₁:=fun obj s₁=>obj= .ref s.heap.objs.size/\s₁={s with heap:=s.heap.push {cls:= .type "dict",data:= .dict #[]}}) F.kt_called_dict (F.kt_typeCall_dict_1 _) F.entry_dict_init (kt_code_dict_new _ ⟨rfl,rfl⟩) ?_
 rintro obj s₁ ⟨rfl,rfl⟩
 have hnew:(s.heap.push {cls:= .type "dict",data:= .dict #[]}).DictOf (jq X.prog X.w) s.heap.objs.size []:=Heap.DictOf.new s.heap
 refine⟨hnew.typeIs,F.args_dict_init_2 _ _,?_⟩
 unfold Builtin.«dict.__init__»
 refine wpAny_bind ?_
 unfold Builtin.Dict.selfAndRest
 refine wpAny_bind (wpAny_notOrdered_dict hnew.typeIs ?_)
 show wpAny _ _ (pure (s.heap.objs.size,[Value.ref t])) _ _ _
 refine wpAny_pure ?_
 show wpAny _ _ (Builtin.Dict.updateFrom "dict.__init__" s.heap.objs.size (.ref t) [] .none) _ _ _
 unfold Builtin.Dict.updateFrom
 have ho1:=fS {cls:= .type "dict",data:= .dict #[]} ho
 refine wpAny_bind (wpAny_typeOf (T:="tuple") ⟨_,ho1,rfl⟩ ?_)
 rw[gX (by decide)]
 refine wpAny_bind (D1 ho1 (by exact I.ok.hd hc) fun h1 tk1 kp1=>?_)
 rw[gX (by rfl)]
 refine wpAny_bind (wpAny_rule ?_)
 have I1:Inv X pz σ (upd H s.heap.objs.size (.dK [])) {s with heap:=h1,toks:=tk1}:=by
  refine I.laid (fun b u e=>kp1 b u (fS _ e)) (cq _) (uH (by decide) ?_ .nil ?_)
  ·have hb:=I.big
   exact beq_false_of_ne (cn hb)
  ·obtain⟨o,es,ep,ho,r⟩:=hnew
   exact⟨o,es,ep,kp1 _ _ ho,r⟩
 have ho2:h1.IsTuple t its.toArray:=⟨_,kp1 _ _ ho1,rfl,n,rfl⟩
 refine wpAny_bind (wpAny_pyIter_tuple (show({s with heap:=h1,toks:=tk1}:Shared).heap.IsTuple t its.toArray from ho2) ?_)
 have f:=I1.fpOk (cq _) (I1.hok.fresh (cq _))
 have I2:Inv X pz σ (upd H s.heap.objs.size (.dK [])) {s with heap:=h1.push {cls:= .type "tuple_iterator",data:= .fields #[.ref t,.int 0 0]},toks:=tk1}:=I1.kept (t':=tk1) fun b o e=>fS _ e
 refine wpAny_pure ⟨Code.quiet_builtin _ gB,?_⟩
 refine uQ (A:=X.A.in1) (by exact I.ok.hd hc) (I.hok.fresh (cq _)) ht kvs vs 0 [] _ I2 f ⟨_,fO _ rfl,rfl,rfl⟩ rfl hp (by simpa using hn) fun s' J=>?_
 exact⟨rfl,.ref s.heap.objs.size,_,J,rfl,q _ (I.hok.fresh (cq _))⟩
end
end L2.Internal
namespace BO.Internal
open PySem L2.Internal
def rIsi (K:PySem.W.Frag):List V->Hp->VK->Prop:=fun xs H Q=>∃x v c t b,xs=[x,v]/\(∀u,iP v u->u=c)/\vJ K H x t/\dD K t c=some b/\Q (.bl b) H
theorem sz {n:Nat} (h:n<=100000):n<=sizeLine:=ck h (by decide)
theorem gm {H:Hp} {p:Addr} (h:H p=none) (o:HO):gP H (upd H p o):=fun b u q=>by rw[gw (gr q h)];exact q
theorem CQ {α:Type} (l:List α) (i:Int) (h0:0<=i) (h1:i<(l.length:Int)):∃c,atI l i=some c/\c∈l:=by
 have e:i=((i.toNat:Nat):Int):=by lia
 have hi:i.toNat<l.length:=by lia
 refine⟨l[i.toNat],?_,bC hi⟩
 have z:atI l ((i.toNat:Nat):Int)=some l[i.toNat]:=gv (bu hi)
 rw[<-e]at z
 exact z
def flN:V->Bool
 | .non=>true
 | .int _=>true
 | .str _=>true
 |_=>false
mutual
inductive Im (H:Hp):V->Dt->Prop where
 |flat {v:V} (h:flN v=true):Im H v (.flat v)
 |tup {a:Addr} {xs:List V} {ds:List Dt} (h:H a=some (.tup xs)) (hs:Ims H xs ds):Im H (.ref a) (.tup ds)
inductive Ims (H:Hp):List V->List Dt->Prop where
 |nil:Ims H [] []
 |cons {x:V} {d:Dt} {xs:List V} {ds:List Dt} (h:Im H x d) (hs:Ims H xs ds):Ims H (x::xs) (d::ds)
end
mutual
inductive Dta (H:Hp):V->Dt->Prop where
 |flat {v:V} (h:flN v=true):Dta H v (.flat v)
 |tup {a:Addr} {xs:List V} {ds:List Dt} (h:H a=some (.tup xs)) (hs:zX H xs ds):Dta H (.ref a) (.tup ds)
 |lst {a:Addr} {xs:List V} {ds:List Dt} (h:H a=some (.lst xs)) (hs:zX H xs ds):Dta H (.ref a) (.lst ds)
inductive zX (H:Hp):List V->List Dt->Prop where
 |nil:zX H [] []
 |cons {x:V} {d:Dt} {xs:List V} {ds:List Dt} (h:Dta H x d) (hs:zX H xs ds):zX H (x::xs) (d::ds)
end
def TK (H H':Hp):Prop:=∀a xs,H a=some (.tup xs)->H' a=some (.tup xs)
theorem gP.tk {H H':Hp} (s:gP H H'):TK H H':=fun a xs e=>s a _ e
mutual
theorem Im.mono {H H':Hp} (k:TK H H'):∀{v:V} {d:Dt},Im H v d->Im H' v d
 |_,_,.flat h=> .flat h
 |_,_,.tup h hs=> .tup (k _ _ h) (Ims.mono k hs)
theorem Ims.mono {H H':Hp} (k:TK H H'):∀{v:List V} {d:List Dt},Ims H v d->Ims H' v d
 |_,_,.nil=> .nil
 |_,_,.cons h hs=> .cons (Im.mono k h) (Ims.mono k hs)
end
theorem zX.length {H:Hp}:∀{xs:List V} {ds:List Dt},zX H xs ds->xs.length=ds.length
 |_,_,.nil=>rfl
 |_,_,.cons _ t=>by rw[az,az,zX.length t]
theorem Ims.length {H:Hp}:∀{xs:List V} {ds:List Dt},Ims H xs ds->xs.length=ds.length
 |_,_,.nil=>rfl
 |_,_,.cons _ t=>by rw[az,az,Ims.length t]
theorem zX.get {H:Hp}:∀{xs:List V} {ds:List Dt} {j:Nat} {x:V},zX H xs ds->xs[j]?=some x->∃d,ds[j]?=some d/\Dta H x d
 |_,_,0,_,.cons h _,e=>⟨_,rfl,by cases e;exact h⟩
 |_,_,j+ 1,_,.cons _ t,e=>by
  rw[bA]at e
  obtain⟨d,e1,e2⟩:=zX.get t e
  exact⟨d,by rw[bA];exact e1,e2⟩
theorem Ims.app {H:Hp}:∀{xs ys:List V} {ds es:List Dt},Ims H xs ds->Ims H ys es->Ims H (xs++ys) (ds++es)
 |_,_,_,_,.nil,h=>h
 |_,_,_,_,.cons a b,h=> .cons a (Ims.app b h)
inductive zY {α β:Type} (F:α->β->Prop):List α->List β->Prop
 |nil:zY F [] []
 |cons {a:α} {b:β} {l:List α} {m:List β}:F a b->zY F l m->zY F (a::l) (b::m)
theorem zY.length {α β:Type} {F:α->β->Prop}:∀{l:List α} {m:List β},zY F l m->l.length=m.length
 |_,_,.nil=>rfl
 |_,_,.cons _ t=>by rw[az,az,zY.length t]
theorem zY.get {α β:Type} {F:α->β->Prop}:∀{l:List α} {m:List β} {j:Nat} {x:α},zY F l m->l[j]?=some x->∃y,m[j]?=some y/\F x y
 |_,_,0,_,.cons h _,e=>⟨_,rfl,by cases e;exact h⟩
 |_,_,j+ 1,_,.cons _ t,e=>by
  rw[bA]at e
  obtain⟨d,e1,e2⟩:=zY.get t e
  exact⟨d,by rw[bA];exact e1,e2⟩
mutual
def okD:Dt->Prop
 | .flat _=>True
 | .tup l=>l.length<=100000/\Ih l
 | .lst l=>l.length<=100000/\Ih l
def Ih:List Dt->Prop
 |[]=>True
 |x::xs=>okD x/\Ih xs
end
def prL (p:Str×Int):Dt:= .tup [.flat (.str p.1),.flat (.int p.2)]
def prD (l:List (Str×Int)):Dt:= .tup (l.map prL)
inductive Us where
 |num (a p s:Int)
 |call (a p s x y:Int)
 |take (a p s:Int) (l:List (Str×Int))
 |case (a p s:Int) (l:List (Str×Int))
 |row (a p s x:Int)
def hdD (n:Str) (a p s:Int):List Dt:=[.flat (.str n),.flat (.int a),.flat (.int p),.flat (.int s)]
def Us.d:Us->Dt
 | .num a p s=> .tup (hdD "num" a p s)
 | .call a p s x y=> .tup (hdD "call" a p s++[.flat (.int x),.flat (.int y)])
 | .take a p s l=> .tup (hdD "take" a p s++[prD l])
 | .case a p s l=> .tup (hdD "case" a p s++[prD l])
 | .row a p s x=> .tup (hdD "row" a p s++[.flat (.int x)])
structure Mkg where
 s:Str
 f:Dt
 a:Int
 p:Int
def Mkg.d (m:Mkg):Dt:= .tup [.flat (.str m.s),m.f,.flat (.int m.a),.flat (.int m.p)]
def fU (a p s:V):List (Str×V):=[("at",a),("place",p),("slot",s)]
def fU1 (n:Str) (a p s x:V):List (Str×V):=[("at",a),("place",p),("slot",s),(n,x)]
def fU2 (a p s x y:V):List (Str×V):=[("at",a),("place",p),("slot",s),("arg",x),("out",y)]
def fM (s f a p:V):List (Str×V):=[("shape",s),("parts",f),("at",a),("place",p)]
def fB (p0 p1 p2 p3:Addr) (r:V):List (Str×V):=[("points",.ref p0),("makes",.ref p1),("uses",.ref p2),("flows",.ref p3),("root",r)]
structure Cs where
 M:Addr
 N:Addr
 C:Addr
 T:Addr
 K:Addr
 R:Addr
 B:Addr
def UsAt (c:Cs) (H:Hp) (v:V):Us->Prop
 | .num a p s=>∃x dx,v= .ref x/\H x=some (.ins c.N dx (fU (.int a) (.int p) (.int s)))
 | .call a p s y z=>∃x dx,v= .ref x/\H x=some (.ins c.C dx (fU2 (.int a) (.int p) (.int s) (.int y) (.int z)))
 | .take a p s l=>∃x dx f,v= .ref x/\H x=some (.ins c.T dx (fU1 "fields" (.int a) (.int p) (.int s) f))/\Im H f (prD l)/\l.length<=10
 | .case a p s l=>∃x dx f,v= .ref x/\H x=some (.ins c.K dx (fU1 "arms" (.int a) (.int p) (.int s) f))/\Im H f (prD l)/\l.length<=10
 | .row a p s y=>∃x dx,v= .ref x/\H x=some (.ins c.R dx (fU1 "out" (.int a) (.int p) (.int s) (.int y)))
def MkAt (c:Cs) (H:Hp) (v:V) (m:Mkg):Prop:=∃x dx f,v= .ref x/\H x=some (.ins c.M dx (fM (.str m.s) f (.int m.a) (.int m.p)))/\Im H f m.f/\nk m.f<=2/\okD m.f
def Fz:HO->Prop
 | .tup _=>True
 | .ins _ _ fs=>fs.length≠5\/∃v r,fs=(("at":Str),v)::r
 |_=>False
def FK (H H':Hp):Prop:=∀a o,H a=some o->Fz o->H' a=some o
theorem FK.tk {H H':Hp} (k:FK H H'):TK H H':=fun a xs e=>k a _ e trivial
theorem FK.trans {H H1 H2:Hp} (a:FK H H1) (b:FK H1 H2):FK H H2:=fun c o e f=>b c o (a c o e f) f
theorem uR {J:It} {i:Nat} {te:TE} {Q:VK} {τ:St} {H1:Hp} {D:Addr} (n:Nat) (hn:n<sizeLine) (R:List V->Hp->Prop) (hR:∀xs H H',R xs H->TK H H'->R xs H') (hD:H1 D=none) (hτ:τ.set i none=τ)
  (hgo:∀k H,gP H1 H->k<n->J.go k H) (hst:∀H,gP H1 H->J.stop n H) (h0:R [] H1)
  (step:∀k H v H3 xs (Z:VK),gP H1 H->k<n->J.yld k H v H3->R xs H->xs.length=k->(∀y H5,gP H H5->R (xs++[y]) H5->Z y H5)->te (τ.set i (some v)) H3 Z)
  (hq:∀H' xs,gP H1 H'->R xs H'->xs.length=n->H' D=some (.lst xs)->Q (.ref D) H'):LcP J i sQ te Q τ H1 D:=by
 have nd:∀(H5:Hp) (xs ys:List V),H5 D=some (.lst xs)->TK H5 (upd H5 D (.lst ys)):=fun H5 xs ys e a zs q=>by rw[gw (ko q e (fun z=>nomatch z))];exact q
 have up:∀{H:Hp} (o:HO),gP H1 H->gP H1 (upd H D o):=fun{H} o S b u e=>by rw[gw (gr e hD)];exact S b u e
 refine⟨fun k m σ' H2=>m=n-k/\k<=n/\(∃o,σ'=τ.set i o)/\gP H1 H2/\∃xs,H2 D=some (.lst xs)/\xs.length=k/\R xs H2,⟨n,by simp,cu _,⟨none,hτ.symm⟩,gm hD _,[],gh,rfl,hR _ _ _ h0 (gP.tk (gm hD _))⟩,?_⟩
 rintro k m σ' H2 ⟨rfl,hk,⟨o,rfl⟩,S,xs,e,hl,hr⟩
 by_cases hlt:k<n
 ·refine .inr ⟨hgo k H2 S hlt,fun v H3 y=>?_⟩
  rw[bj]
  refine step k H2 v H3 xs _ S hlt y hr hl fun y H5 S5 r5=>?_
  refine⟨xs,S5 D _ e,by lia,n-(k+ 1),by lia,rfl,hlt,⟨some v,rfl⟩,up _ (S.trans S5),xs++[y],gh,by rw[aN,hl];rfl,hR _ _ _ r5 (nd H5 _ _ (S5 D _ e))⟩
 ·have e1:k=n:=by lia
  subst e1
  exact .inl ⟨hst H2 S,hq H2 xs S hr hl e⟩
theorem Ga {K:PySem.W.Frag} {a:Addr} {xs:List V} {k:Nat} {H1 H:Hp} (e:H1 a=some (.lst xs)) (S:gP H1 H) (h:k<xs.length):(Itl K a).go k H:=⟨xs,xs[k],SqL.of (S a _ e),bu h⟩
theorem Gb {K:PySem.W.Frag} {a:Addr} {xs:List V} {H1 H:Hp} (e:H1 a=some (.lst xs)) (S:gP H1 H):(Itl K a).stop xs.length H:=⟨xs,SqL.of (S a _ e),cq _⟩
theorem CS {K:PySem.W.Frag} {a:Addr} {xs:List V} {k:Nat} {H1 H:Hp} (e:H1 a=some (.tup xs)) (S:gP H1 H) (h:k<xs.length):(Itt K a).go k H:=⟨xs,xs[k],SqT.of (S a _ e),bu h⟩
theorem CT {K:PySem.W.Frag} {a:Addr} {xs:List V} {H1 H:Hp} (e:H1 a=some (.tup xs)) (S:gP H1 H):(Itt K a).stop xs.length H:=⟨xs,SqT.of (S a _ e),cq _⟩
inductive Ls (H:Hp):List Addr->List (List V)->Prop
 |nil:Ls H [] []
 |cons {a:Addr} {c:List V} {l:List Addr} {m:List (List V)}:H a=some (.lst c)->Ls H l m->Ls H (a::l) (c::m)
theorem Ls.get {H:Hp}:∀{l:List Addr} {m:List (List V)} {i:Nat} {a:Addr},Ls H l m->l[i]?=some a->∃c,m[i]?=some c/\H a=some (.lst c)
 |_,_,0,_,.cons h _,e=>⟨_,rfl,by cases e;exact h⟩
 |_,_,j+ 1,_,.cons _ t,e=>by
  rw[bA]at e
  obtain⟨d,e1,e2⟩:=Ls.get t e
  exact⟨d,by rw[bA];exact e1,e2⟩
structure Sd where
 b:Addr
 dx:Addr
 p0:Addr
 p1:Addr
 p2:Addr
 p3:Addr
 d:Addr
 q0:Addr
 q1:Addr
 q2:Addr
 q3:Addr
def Sd.ls (S:Sd):List Addr:=[S.p0,S.p1,S.p2,S.p3,S.d,S.q0,S.q1,S.q2,S.q3]
structure Bd where
 pts:List Int
 mks:List Mkg
 uss:List Us
 fls:List (Int×Int)
 root:Int
def flD (p:Int×Int):Dt:= .tup [.flat (.int p.1),.flat (.int p.2)]
structure BSx (c:Cs) (H:Hp) (S:Sd) (E D:Bd):Prop where
 nd:S.ls.Nodup
 ob:H S.b=some (.ins c.B S.dx (fB S.p0 S.p1 S.p2 S.p3 (.int D.root)))
 st:∃mv uv fv mv' uv' fv':List V,Ls H S.ls [D.pts.map V.int,mv,uv,fv,[.ref S.q0,.ref S.q1,.ref S.q2,.ref S.q3,.int E.root],E.pts.map V.int,mv',uv',fv']/\
  zY (MkAt c H) mv D.mks/\zY (UsAt c H) uv D.uss/\Ims H fv (D.fls.map flD)/\Ims H mv' (E.mks.map Mkg.d)/\Ims H uv' (E.uss.map Us.d)/\Ims H fv' (E.fls.map flD)
theorem xA {H:Hp} {a:Addr} {xs:List V} {o:HO} (h:H a=some (.lst xs)):FK H (upd H a o):=fun b u e f=>by
 rw[gw (ko e h (fun z=>by rw[z]at f;exact f))]
 exact e
section
variable {c:Cs} {H H':Hp} {S:Sd} {E D:Bd}
end
def Frm (M:List Addr) (H H':Hp):Prop:=∀a o,H a=some o->a∉M->H' a=some o
theorem Frm.trans {M:List Addr} {H H1 H2:Hp} (a:Frm M H H1) (b:Frm M H1 H2):Frm M H H2:=fun c o e n=>b c o (a c o e n) n
def lk:List (Str×Int)->Str->Option Int
 |[],_=>none
 |p::t,w=>if p.1=w then some p.2 else lk t w
inductive Mf where
 |num
 |fn (x y:Int)
 |rcd (l:List (Str×Int))
 |tag (w:Str) (x:Int)
 |row (x:Int)
 |any
def fnd (m:List (Str×Int)) (p:Str×Int):Option (Int×Int):=(lk m p.1).map fun x=>(x,p.2)
def taken (l m:List (Str×Int)):Option (List (Int×Int)):=if(l.filterMap (fnd m)).length=l.length then some (l.filterMap (fnd m))else none
end BO.Internal
namespace L2.Internal
open PySem PySem.Spec PyProof.Rows
section
variable {X:Cx} {e a b o f:Expr} {st:Stmt} {ta tb td ty tx to:TE} {pos apos cpos:Pos}
theorem PE.weak {t t':TE} (h:PE X e t) (m:∀σ H Q,t' σ H Q->t σ H Q):PE X e t':=fun pz s σ H Q I q=>h pz s σ H Q I (m σ H Q q)
theorem PT.weak {t t':TT} (h:PT X e t) (m:∀σ H Q,t' σ H Q->t σ H Q):PT X e t':=fun pz s σ H Q I q=>h pz s σ H Q I (m σ H Q q)
theorem PS.weak {t t':TS} (h:PS X st t) (m:∀D σ H,t' D σ H->t D σ H):PS X st t':=fun pz s σ H D I q=>h pz s σ H D I (m D σ H q)
theorem OpR.weak {g:Value->Value->Sem Value} {r r':R2} (h:OpR X g r) (m:∀x y H Q,r' x y H Q->r x y H Q):OpR X g r':=fun pz s σ H x y v u Q I rx ry q=>h pz s σ H x y v u Q I rx ry (m x y H Q q)
theorem IxR.weak {r r':R2} (h:IxR X r) (m:∀x y H Q,r' x y H Q->r x y H Q):IxR X r':=fun value slice pz s σ H x y v u Q I rx ry q hs=>h value slice pz s σ H x y v u Q I rx ry (m x y H Q q) hs
def mT (t:TE):TE:=fun σ H Q=>∃Q0:VK,t σ H Q0/\∀x H1,Q0 x H1->Q x H1
theorem PE.mono {t:TE} (h:PE X e t):PE X e (mT t):=fun pz s σ H Q I ⟨Q0,h0,m⟩=>thn (h pz s σ H Q0 I h0) fun v s1 ⟨x,H1,I1,r1,q1⟩=>⟨x,H1,I1,r1,m x H1 q1⟩
def mR (r:R2):R2:=fun x y H Q=>∃Q0:VK,r x y H Q0/\∀x H1,Q0 x H1->Q x H1
theorem OpR.mono {g:Value->Value->Sem Value} {r:R2} (h:OpR X g r):OpR X g (mR r):=fun pz s σ H x y v u Q I rx ry ⟨Q0,h0,m⟩=>thn (h pz s σ H x y v u Q0 I rx ry h0) fun v s1 ⟨x,H1,I1,r1,q1⟩=>⟨x,H1,I1,r1,m x H1 q1⟩
def onV:Option (Option V)->(V->Prop)->Prop
 |some (some v),k=>k v
 |_,_=>False
def onS {α:Type}:Option α->(α->Prop)->Prop
 |some v,k=>k v
 |none,_=>False
theorem gx {α:Type} {x:Option α} {v:α} {k:α->Prop} (h:x=some v) (q:k v):onS x k:=by rw[h];exact q
theorem zZ {α:Type} {x:Option α} {k:α->Prop} (h:onS x k):∃v,x=some v/\k v:=by
 cases x with
 |none=>exact h.elim
 |some v=>exact⟨v,rfl,h⟩
def cV (i:Nat):TE:=fun σ H Q=>onV σ[i]? fun v=>Q v H
theorem cv (i:Nat) {x:Str} {pos:Pos} (hN:autoParam (X.N[i]?=some x) auR._auto_1) (hv:Vis X.env.scope x:=by first|exact Or.inl rfl|exact Or.inr (.inl rfl)|exact Or.inr (.inr rfl)) (hd:autoParam ((x==("__debug__":Str))=false) auD._auto_1)
  (hcd:autoParam ((x==("__classdict__":Str))=false) auD._auto_1):PE X (.Name x pos) (cV i):=(pv i hN hv hd hcd).weak fun σ H Q h=>by
 unfold cV at h
 cases q:σ[i]? with
 |none=>rw[q]at h;exact h.elim
 |some o=>
  rw[q]at h
  cases o with
  |none=>exact h.elim
  |some v=>exact⟨v,q,h⟩
def cI0 (g:Int->Int->V):R2:=fun x y H Q=>match x,y with
 | .int i,.int j=>Q (g i j) H
 |_,_=>False
def cI (C:Int->Int->Prop) (g:Int->Int->V):R2:=fun x y H Q=>match x,y with
 | .int i,.int j=>C i j/\Q (g i j) H
 |_,_=>False
theorem xB {g:Int->Int->V}:∀x y H Q,cI0 g x y H Q->rI0 g x y H Q:=fun x y H Q h=>by
 unfold cI0 at h
 split at h
 ·exact⟨_,_,rfl,rfl,h⟩
 ·exact h.elim
theorem z7 {C:Int->Int->Prop} {g:Int->Int->V}:∀x y H Q,cI C g x y H Q->rI C g x y H Q:=fun x y H Q h=>by
 unfold cI at h
 split at h
 ·exact⟨_,_,rfl,rfl,h.1,h.2⟩
 ·exact h.elim
theorem sj:OpR X (binaryOp .Add) (cI0 fun i j=> .int (i+j)):=Cw.weak xB
theorem Gd:OpR X (binaryOp .Sub) (cI0 fun i j=> .int (i-j)):=Fq.weak xB
theorem CU:OpR X (binaryOp .Mult) (cI Hr fun i j=> .int (i*j)):=Fs.weak z7
theorem iK:OpR X (binaryOp .FloorDiv) (cI JF fun i j=> .int (i/j)):=Dw.weak z7
theorem iE:OpR X (binaryOp .Mod) (cI (fun _ j=>0<j) fun i j=> .int (i%j)):=Ft.weak z7
theorem uS:OpR X (binaryOp .Pow) (cI JG fun i j=> .int (i^j.toNat)):=Fu.weak z7
theorem Ii:OpR X (compareOp .Gt) (cI0 fun i j=> .bl (decide (j<i))):=Dx.weak xB
theorem Ij:OpR X (compareOp .GtE) (cI0 fun i j=> .bl (decide (j<=i))):=HQ.weak xB
def cEq (n:Bool):R2:=fun x y H Q=>match x,y with
 | .int i,.int j=>Q (.bl (xor n (decide (i=j)))) H
 | .str i,.str j=>Q (.bl (xor n (decide (i=j)))) H
 |_,_=>False
theorem JN {i j:Str}:decide (V.str i=V.str j)=decide (i=j):=by
 rw[eY]
 simp
theorem JO {i j:Int}:decide (V.int i=V.int j)=decide (i=j):=by
 rw[eY]
 simp
theorem jf:OpR X (compareOp .Eq) (cEq false):=sI.weak fun x y H Q h=>by
 unfold cEq at h
 split at h
 ·refine⟨rfl,?_⟩;rw[JO];rw[fg]at h;exact h
 ·refine⟨rfl,?_⟩;rw[JN];rw[fg]at h;exact h
 ·exact h.elim
theorem BH:OpR X (compareOp .NotEq) (cEq true):=nC.weak fun x y H Q h=>by
 unfold cEq at h
 split at h
 ·refine⟨rfl,?_⟩;rw[JO];rw[fh]at h;exact h
 ·refine⟨rfl,?_⟩;rw[JN];rw[fh]at h;exact h
 ·exact h.elim
def onB:V->(Bool->Prop)->Prop
 | .bl k,q=>q k
 |_,_=>False
theorem Ge {x:V} {k:Bool->Prop} (h:onB x k):∃c,x= .bl c/\k c:=by
 cases x<;>first|exact⟨_,rfl,h⟩|exact h.elim
def cT (t:TE):TT:=fun σ H Q=>t σ H fun x H'=>onB x fun k=>Q k H'
theorem gL {op:CmpOp} {r:R2} (ho:OpR X (compareOp op) r) (ha:PE X a ta) (hb:PE X b tb) (hm:behindInMarks op b=false:=by exact zm _):PT X (.Compare a [op] [b] pos) (cT (tOp r ta tb)):=
 (i8 ho.mono ha.mono hb.mono hm).weak fun σ H Q h=>⟨_,h,fun x H1 h1=>⟨_,h1,fun y H2 h2=>⟨_,h2,fun z H' h3=>Ge h3⟩⟩⟩
def JP:R2:=fun x y H Q=>match x,y with
 | .ref p,.int i=>∃xs,H p=some (.lst xs)/\onS (atI xs i) fun v=>Q v H
 |_,_=>False
def CV:R2:=fun x y H Q=>match x,y with
 | .ref p,.int i=>∃xs,H p=some (.tup xs)/\onS (atI xs i) fun v=>Q v H
 |_,_=>False
def JQ:R2:=fun x y H Q=>match x,y with
 | .str z,.int i=>z.length<=sizeLine/\onS (atI z.cps.toList i) fun c=>Q (.str ⟨#[c]⟩) H
 |_,_=>False
theorem gS:IxR X JP:=zB.weak fun x y H Q h=>by
 unfold JP at h
 split at h
 ·obtain⟨xs,e,h⟩:=h
  obtain⟨v,ev,h⟩:=zZ h
  exact⟨_,xs,_,v,rfl,rfl,SqL.of e,ev,h⟩
 ·exact h.elim
theorem gG:IxR X CV:=FI.weak fun x y H Q h=>by
 unfold CV at h
 split at h
 ·obtain⟨xs,e,h⟩:=h
  obtain⟨v,ev,h⟩:=zZ h
  exact⟨_,xs,_,v,rfl,rfl,SqT.of e,ev,h⟩
 ·exact h.elim
theorem z8:IxR X JQ:=zC.weak fun x y H Q h=>by
 unfold JQ at h
 split at h
 ·obtain⟨e,h⟩:=h
  obtain⟨v,ev,h⟩:=zZ h
  exact⟨_,_,v,rfl,rfl,e,ev,h⟩
 ·exact h.elim
def Fd (H:Hp) (a C:Addr) (f:Str) (v:V):Prop:=∃dx fs,H a=some (.ins C dx fs)/\fs.lookup f=some v
def Nf (H:Hp) (a C:Addr) (m:Str):Prop:=∃dx fs,H a=some (.ins C dx fs)/\fs.lookup m=none
def BI (C:Addr) (f:Str) (ta:TE):TE:=fun σ H Q=>ta σ H fun x H1=>match x with
 | .ref a=>∃v,Fd H1 a C f v/\Q v H1
 |_=>False
theorem gR {C:Addr} {f:Str} (c:Cls X.K C) (n:iN X.K C f) (he:PE X e ta) (hb:autoParam (attributeBase e f X.env (eval e X.env)=eval e X.env) auR._auto_1):PE X (.Attribute e f pos) (BI C f ta):=
 (ou he.mono hb).weak fun σ H Q h=>⟨_,h,fun x H1 h1=>by
  cases x with
  |ref a=>
   obtain⟨v,⟨dx,fs,ea,ev⟩,q⟩:=h1
   exact⟨a,C,dx,fs,v,rfl,ea,c,n,ev,q⟩
  |_=>exact h1.elim⟩
def Ik (C:Addr) (m:Str) (sp:Sp) (dvs:List V) (E:XK) (ta:TE) (t:TA):TE:=fun σ H Q=>ta σ H fun x H1=>match x with
 | .ref a=>Nf H1 a C m/\t σ H1 fun vs H2=>sp (.ref a::(vs++dvs)) H2 Q E
 |_=>False
theorem ik {C:Addr} {m:Str} {sp:Sp} {dvs:List V} {E:XK} {t:TA} (h:PE X e (DF C m sp dvs E (mT ta) t)):PE X e (Ik C m sp dvs E ta t):=h.weak fun σ H Q h=>⟨_,h,fun x H1 h1=>by
  cases x with
  |ref a=>
   obtain⟨⟨dx,fs,ea,l⟩,q⟩:=h1
   exact⟨a,dx,fs,rfl,ea,l,q⟩
  |_=>exact h1.elim⟩
def Il (C:Addr) (f:Str) (ta tv:TE):TS:=fun D σ H=>tv σ H fun y H1=>ta σ H1 fun x H2=>match x with
 | .ref a=>∃dx fs,H2 a=some (.ins C dx fs)/\fs.length<1000/\D.nx σ (upd H2 a (.ins C dx (lE f y fs)))
 |_=>False
theorem i9 {C:Addr} {f:Str} {tv:TE} (c:Cls X.K C) (n:iN X.K C f) (h:PS X st (JI X.K (mT ta) (mT tv) f)):PS X st (Il C f ta tv):=h.weak fun D σ H h=>⟨_,h,fun y H1 h1=>⟨_,h1,fun x H2 h2=>by
  cases x with
  |ref a=>
   obtain⟨dx,fs,ea,l,q⟩:=h2
   exact⟨a,C,dx,fs,rfl,ea,c,n,l,q⟩
  |_=>exact h2.elim⟩⟩
def cS:R2:=fun x y H Q=>match x,y with
 | .str i,.str j=>i.length+j.length<=sizeLine/\Q (.str (i++j)) H
 |_,_=>False
theorem gH:OpR X (binaryOp .Add) cS:=rZ.weak fun x y H Q h=>by
 unfold cS at h
 split at h
 ·exact⟨_,_,rfl,rfl,h.1,h.2⟩
 ·exact h.elim
def Io (to ta:TE):TE:=fun σ H Q=>to σ H fun x H1=>match x with
 | .ref l=>(∃xs,H1 l=some (.lst xs))/\ta σ H1 fun y H2=>∃xs,H2 l=some (.lst xs)/\xs.length<sizeLine/\Q .non (upd H2 l (.lst (xs++[y])))
 |_=>False
theorem jg (h:PE X e (tBM X.K "list" zD (mT to) (iX (mT ta) se))):PE X e (Io to ta):=h.weak fun σ H Q h=>⟨_,h,fun x H1 h1=>by
  cases x with
  |ref l=>
   obtain⟨⟨xs,e⟩,q⟩:=h1
   exact⟨.inl ⟨rfl,xs,SqL.of e⟩,_,q,fun y H2 ⟨xs,e,hl,q2⟩=>⟨l,xs,y,rfl,rfl,e,hl,q2⟩⟩
  |_=>exact h1.elim⟩
end
end L2.Internal
namespace BO.Internal
open PySem L2.Internal
structure Rw where
 w:Bool
 a:Int
 b:Int
 y:Option (Int×Int)
structure DL (H:Hp) (d:Addr) (L:List Addr) (f:Int->List V) (k:Nat):Prop where
 ex:∃kvs:List (Key×V),H d=some (.dK kvs)/\kvs.length<=k/\(∀p,jC kvs (.inl p)=none->f p=[])/\
  (∀p v,jC kvs (.inl p)=some v->∃l,l∈L/\v= .ref l/\H l=some (.lst (f p)))/\(∀p q v,jC kvs (.inl p)=some v->jC kvs (.inl q)=some v->p=q)
def putf (f:Int->List V) (p:Int) (x:V):Int->List V:=fun q=>if q=p then f p++[x]else f q
structure Sda (H:Hp) (d:Addr) (L:List Addr) (f:Int->List V) (k:Nat) (p:Int) (l:Addr) (H1:Hp):Prop where
 here:H1 l=some (.lst (f p))
 fin:∀H2 x,gP H1 H2->∃L',(∀a∈L',a∈L\/a=l)/\DL (upd H2 l (.lst (f p++[x]))) d L' (putf f p x) (k+ 1)
 fr:∀a o,H a=some o->a≠d->H1 a=some o
 own:l∈L\/H l=none
theorem DL.get {H:Hp} {d:Addr} {L:List Addr} {f:Int->List V} {k:Nat} (W:DL H d L f k) (p:Int) {z:Addr} (hz:H z=none):
  ∃kvs l,(upd H z (.lst [])) d=some (.dK kvs)/\(jC kvs (.inl p)).getD (.ref z)= .ref l/\(upd H z (.lst [])) l=some (.lst (f p))/\(l∈L\/H l=none):=by
 obtain⟨kvs,e,hl,h1,h2,h3⟩:=W
 have s:=gm hz (.lst [])
 cases ev:jC kvs (.inl p)with
 |none=>exact⟨kvs,z,s _ _ e,by rw[ev];rfl,by rw[h1 p ev];exact gh,.inr hz⟩
 |some v=>
  obtain⟨l,m,rfl,el⟩:=h2 p v ev
  exact⟨kvs,l,s _ _ e,by rw[ev];rfl,s _ _ el,.inl m⟩
end BO.Internal
namespace L2.Internal
open PySem PySem.Spec PyProof.Rows
section
variable {X:Cx}
end
def Itv (K:PySem.W.Frag) (a:Addr) (n:Nat):It:=
 ⟨fun i H=>i<n/\∃xs,SqL K H a xs/\xs.length=n,fun i H x H'=>H'=H/\∀xs,SqL K H a xs->xs[n-1-i]?=some x,fun i _=>i=n⟩
theorem BJ {P:Program} {w:World} {K:PySem.W.Frag} {tg:Expr} (a it:Addr) (n:Nat):Cv P w K tg (Itv K a n) [it] it (fun i h=>h.IsRevIter it a ((n:Int)-1-(i:Int))) where
 mem:=by simp
 obj:=fun i h st b hb=>by
  have e:b=it:=by simpa using hb
  subst e
  obtain⟨o,e,c,d⟩:=st
  exact⟨o,e,fun v z=>by rw[d]at z;cases z⟩
 keep:=fun i h h' st k=>st.at fun o e=>k it (by simp) o e
 item:=by
  intro X hP hw hK hc i pz s σ H E I hf st hg
  subst hP hw hK
  obtain⟨hi,xs,hq,hn⟩:=hg
  obtain⟨its,rv,p,hz⟩:=I.list hq
  have hlt:n-1-i<xs.length:=by lia
  obtain⟨u,hu,ru⟩:=rv.get (bu hlt)
  obtain⟨f0,f1,f2,f3,f4,f5⟩:=hf it (by simp)
  have e:(n:Int)-1-(i:Int)=((n-1-i:Nat):Int):=by lia
  have st':=st
  rw[e]at st'
  refine wpAny_pyNext_rev_item st' p.isList (x:=u) (by simpa using hu) fun h' st2 sb=>?_
  have e2:((n-1-i:Nat):Int)-1=(n:Int)-1-((i+ 1:Nat):Int):=by lia
  rw[e2]at st2
  have I1:Inv X pz σ H {s with heap:=h'}:=I.turned (t':=s.toks) (fun b o hb e=>(sb.2 b hb).trans e) f0 f1 f3 f4 f5
  obtain⟨o,eo,c,d⟩:=id st2
  exact⟨u,rfl,zg (s:={s with heap:=h'}) eo c d (by decide) ⟨xs[n-1-i],H,I1,ru,⟨rfl,fun ys hy=>by rw[I.list_inj hy hq];exact bu hlt⟩,st2,fun b hb=>(hf b hb).1⟩⟩
 done:=by
  intro X hP hw hK hc i pz s σ H E I hf st hg
  subst hP hw hK
  have hi:i=n:=hg
  subst hi
  obtain⟨f0,f1,f2,f3,f4,f5⟩:=hf it (by simp)
  have e:(i:Int)-1-(i:Int)= -1:=by lia
  have st':=st
  rw[e]at st'
  exact wpAny_pyNext_rev_end (I.ok.hd hc) st' fun h' eb=>⟨rfl,I.turned (t':=s.toks) (fun b o hb e=>eb b o hb e) f0 f1 f3 f4 f5⟩
 self:=fun _ _ _ _ _ st h=>wpAny_pyIter_revIter st h
def iRev (K:PySem.W.Frag) (ta:TA):TI:=fun σ H R=>ta σ H fun vs H1=>∃a xs,vs=[.ref a]/\SqL K H1 a xs/\R (Itv K a xs.length) H1
theorem qK:bootBuiltins "reversed"=some (.type "reversed"):=by first|rfl|decide+kernel
section
variable {X:Cx}
theorem Gf {tg:Expr} {a:Expr} {ta:TA} {p pos:Pos} (hg:Gl X "reversed") (hm:X.mg "reversed"=none) (ha:PA X [a] ta) (hs:autoParam (starEach [a] X.env=[(false,eval a X.env)]) auR._auto_1):
  PI X tg (.Call (.Name "reversed" p) [a] [] pos) (iRev X.K ta):=by
 intro pz s σ H R I h
 refine Call_ (oo I hg hm qK (fY (thn (ha pos pz s σ H _ I h) fun us s1 ⟨vs,H1,I1,r1,q1⟩=>?_) hs rfl))
 obtain⟨l1,xs,e,hq,q⟩:=q1
 subst e
 obtain⟨u,rfl,ru⟩:=m8 r1
 cases ru
 obtain⟨i1s,w1,p1,z1⟩:=I1.list hq
 have hl:=w1.length
 refine call_reversed_list p1.isList ?_
 have sz:((i1s.toArray.size:Nat):Int)-1=(xs.length:Int)-1-((0:Nat):Int):=by simp only[aT];lia
 rw[sz]
 have st:(s1.heap.push (revObj l1 ((xs.length:Int)-1-((0:Nat):Int)))).IsRevIter s1.heap.objs.size l1 ((xs.length:Int)-1-((0:Nat):Int)):=⟨_,fO _ rfl,rfl,rfl⟩
 refine wpAny_pyIter_revIter (s:={s1 with heap:=s1.heap.push (revObj l1 ((xs.length:Int)-1-((0:Nat):Int)))}) st ?_
 refine⟨s1.heap.objs.size,[s1.heap.objs.size],_,_,H1,rfl,I1.kept (t':=s1.toks) fun b o e=>fS _ e,BJ l1 _ xs.length,st,fun b hb=>?_,q⟩
 have e:b=s1.heap.objs.size:=by simpa using hb
 subst e
 exact I1.fpOk (cq _) (I1.hok.fresh (cq _))
theorem uT {prog:Program} {w:World} {A:Around} {E:EvP} {it t:Addr} {items:Array Value} (hne:t≠it):∀(n i:Nat) (s:Shared) (Q:List Value->Shared->Prop),s.heap.IsListIter it t i->s.heap.IsList t items->i+n<=items.size->
  (∀h',h'.IsListIter it t (i+n)->Heap.SameBut it s.heap h'->Q ((items.toList.drop i).take n) {s with heap:=h'})->wpAny (model prog w) A (draw (.ref it) n) Q E s
 |0,i,s,Q,hit,_,_,hQ=>by
  show wpAny _ _ (pure []) Q E s
  exact wpAny_pure (by simpa using hQ s.heap hit (Heap.SameBut.refl ..))
 |n+ 1,i,s,Q,hit,ht,hle,hQ=>by
  have hlt:i<items.size:=by lia
  show wpAny _ _ (pyNext (.ref it) >>= _) Q E s
  refine wpAny_bind (wpAny_pyNext_list_item hit ht (x:=items[i]) (by simp[hlt]) fun h₁ hit₁ hs₁=>?_)
  refine wpAny_bind (wpAny_holding (uT hne n (i+ 1) _ _ hit₁ (ht.at fun o e=>(hs₁.2 t hne).trans e) (by lia) fun h₂ hit₂ hs₂=>wpAny_pure ?_))
  have hd:items.toList.drop i=items[i]::items.toList.drop (i+ 1):=by simp[bD,hlt]
  have:=hQ h₂ (by rw[show i+(n+ 1)=i+ 1+n by lia];exact hit₂) (hs₁.trans hs₂)
  rw[hd,List.take_succ_cons]at this
  exact this
theorem qb {prog:Program} {w:World} {A:Around} {E:EvP} {s:Shared} {t:Addr} {items:Array Value} {Q:List Value->Shared->Prop} (hh:A.handled=none) (ht:s.heap.IsList t items)
  (hQ:∀h',Heap.ExtBut s.heap.objs.size s.heap h'->Q items.toList {s with heap:=h'}):wpAny (model prog w) A (unpackItems (.ref t) items.size none) Q E s:=by
 have hlt:t≠s.heap.objs.size:=by obtain⟨o,ho,_⟩:=ht;exact cj (fN ho)
 unfold unpackItems
 refine wpAny_bind ?_
 ·unfold notIterableAtAll
  refine wpAny_bind (wpAny_specialOf ht.typeIs F.slot_list_iter.lookup ?_)
  refine wpAny_pure ?_
  simp only[fj,if_false]
  refine wpAny_bind (wpAny_holding (wpAny_pyIter_list ht ?_))
  have htp:(s.heap.push {cls:= .type "list_iterator",data:= .fields #[.ref t,.int 0 0]}).IsList t items:=ht.at fun o e=>fS _ e
  refine wpAny_bind (wpAny_holding (uT hlt items.size 0 _ _ ⟨_,fO _ rfl,rfl,rfl⟩ htp (by lia) fun h₁ hit₁ hs₁=>?_))
  have hall:List.take items.size (List.drop 0 items.toList)=items.toList:=by
   rw[bE];exact bF (by simp)
  rw[hall]
  rw[gN (by simp)]
  have ht₁:h₁.IsList t items:=htp.at fun o e=>(hs₁.2 t hlt).trans e
  refine wpAny_bind (wpAny_holding (wpAny_pyNext_list_end hh hit₁ ht₁ (by simp) fun h₂ he₂=>?_))
  simp only[Option.isSome_none,fj,if_false]
  refine wpAny_pure (hQ h₂ fun b o hb e=>he₂ b o hb (hs₁.extBut b o hb (fS _ e)))
theorem oY {prog:Program} {w:World} {A:Around} {E:EvP} {s:Shared} {env:Env} {elts:List Expr} {x1} {pos:Pos} {t:Addr} {items:Array Value} {Q:Unit->Shared->Prop} (hh:A.handled=none) (ht:s.heap.IsList t items)
  (hn:(assignEach elts env).length=items.size) (hstar:(assignEach elts env).findIdx? (·.1)=none)
  (h:∀h',Heap.ExtBut s.heap.objs.size s.heap h'->wpAny (model prog w) A (assignInOrder ((assignEach elts env).map (·.2)) items.toList) Q E {s with heap:=h'}):
  wpAny (model prog w) A (assign (.Tuple elts x1 pos) env (.ref t)) Q E s:=by
 rw[assign_Tuple]
 refine wpAny_bind (wpAny_standAt ?_)
 unfold unpack
 rw[hn,hstar]
 exact wpAny_bind (wpAny_holding (qb hh ht h))
def gLst (K:PySem.W.Frag) (n:Nat) (t:TGs):TG:=fun v σ H Q=>∃a xs,v= .ref a/\SqL K H a xs/\xs.length=n/\t xs σ H Q
theorem CW {es:List Expr} {k:Nat} {t:TGs} {n:Nat} {pos:Pos} (hc:X.calm=true) (h:PGs X es t)
  (hn:autoParam ((assignEach es X.env).length=n) auR._auto_1) (hst:autoParam ((assignEach es X.env).findIdx? (·.1)=none) auR._auto_1):PG X (.Tuple es k pos) (gLst X.K n t):=by
 intro pz s σ H v u Q I r hw
 obtain⟨a,xs,e1,hq,hl,hw⟩:=hw
 subst e1
 cases r
 obtain⟨its,rv,ht,hz⟩:=I.list hq
 refine oY (I.ok.hd hc) ht.isList (by simp[hn,<-hl,rv.length]) hst fun h' hx=>?_
 have I1:Inv X pz σ H {s with heap:=h'}:=I.kept (t':=s.toks) fun b o e=>hx b o (cj (fN e)) e
 exact h pz _ σ H xs _ Q I1 (by simpa using rv) hw
theorem z9:MtR X "dict.update" (fun x xs H Q=>∃d o kvs more,x= .ref d/\xs=[.ref o]/\d≠o/\H d=some (.dK kvs)/\H o=some (.dK more)/\kvs.length+more.length<=sizeLine/\Q .non (upd H d (.dK (km kvs more)))):=by
 intro pz s σ H x xs v us Q I rx rs h
 obtain⟨d,o,kvs,more,rfl,rfl,hne,hd,ho,hl,q⟩:=h
 cases rx
 obtain⟨u,rfl,ru⟩:=m8 rs
 cases ru
 obtain⟨z1,s1,vs,rel,dd⟩:=vL I.hok hd
 obtain⟨z2,s2,ws,rel2,dd2⟩:=vL I.hok ho
 refine call_meetsIn eN dd.typeIs PySem.F.entry_dict_update (PySem.F.args_dict_update_2 _ _) (meets_dict_update (jq X.prog X.w) d o hne s2) ⟨vs,ws,dd,dd2,by rw[<-rel.length,<-rel2.length];exact hl,fun h' dd' _ sb=>?_⟩
 have he:∃q,h'.get? d=some q:=let⟨q,_,_,hq,_⟩:=dd';⟨q,hq⟩
 have hl':(km kvs more).length<=sizeLine:=ck (lF more kvs) hl
 exact⟨.non,_,sL (t':=s.toks) I (by rw[hd];exact True.intro) sb he (uH hl' s1 (rel2.merge rel) dd'),rfl,q⟩
end
section
variable {X:Cx}
theorem Ip {scope:Scope} {x y:Str} (ns:List Str) (cap:List (Str×Nat×Addr)) (hns:cap.map (·.1)=ns) (hk:scope.kind= .function) (hn:∀p∈scope.names,p.2≠ .cell/\(p.2= .free->p.1∈ns)) (hl:∀y∈scope.names,y.2= .local->scope.names.lookup y.1=some .local)
  (hx:scope.names.lookup x=some .local) (hnd:(x::y::ns).Nodup) (hc:closureFor scope X.env=pure (cap.map fun p=>(p.1,p.2.2))) (hok:X.env.scope.kind= .function)
  (h:∀p∈cap,scope.names.lookup p.1=some .free/\X.env.cells.lookup p.1=some p.2.2/\X.env.scope.names.lookup p.1=some .cell/\X.N[p.2.1]?=some p.1):
  oz X (x::y::ns) scope (cap.map fun p=>(p.1,p.2.2)) (fun σ=>none::none::cap.map fun p=>σ.getD p.2.1 none) 0 x where
 kind:=hk
 cell:=fun y hy=>(hn y hy).1
 names:=hl
 clos:=hc
 lk:=fun z c q=>by
  obtain⟨p,hp,e⟩:=aZ.mp (PySem.mem_of_lookup q)
  cases e
  exact(h p hp).2.1
 has:=fun z q=>by
  refine oX ?_
  rw[hns]
  rcases q with q|q
  ·obtain⟨k0,e,q⟩:=ib q
   have m:=hn _ (PySem.mem_of_lookup e)
   rcases q with q|⟨q,_⟩
   ·exact absurd q.symm m.1
   ·exact m.2 q
  ·obtain⟨k0,e,q⟩:=ib q
   have m:=hn _ (PySem.mem_of_lookup e)
   rcases q with q|⟨q,_⟩
   ·exact m.2 q.symm
   ·exact m.2 q
 nd:=hnd
 ix:=rfl
 loc:=hx
 len:=fun _ _=>by simp[<-hns]
 val:=fun σ k z v h1 h2=>by
  match k with
  |0=>simp at h2
  |1=>simp at h2
  |k+ 2=>
   rw[<-hns,bA,bA,aK]at h1
   rw[bA,bA,aK]at h2
   cases e:cap[k]? with
   |none=>rw[e]at h1;cases h1
   |some p=>
    rw[e]at h1 h2
    have ez:p.1=z:=cH.inj h1
    have ev:σ.getD p.2.1 none=some v:=cH.inj h2
    subst ez
    obtain⟨a1,a2,a3,a4⟩:=h p (aM e)
    rw[bh]at ev
    refine⟨p.2.1,a4,?_,a3,iV hok a3 a1⟩
    cases q:σ[p.2.1]? with
    |none=>rw[q]at ev;cases ev
    |some o=>rw[q]at ev;exact congrArg some ev
end
section
variable {X:Cx} {pz:AoL} {σ:St} {H:Hp} {s:Shared}
end
section
variable {prog:Program} {w:World} {A:Around} {R:Result->Shared->Prop} {I:Addr} {fp wr:List Addr} {n:Nat} {P:Nat->Value->Prop} {St:Nat->Heap->Prop}
end
section
variable {prog:Program} {w:World} {A:Around} {E:EvP} {s:Shared} {l:Addr} {xs:Array (Int×Tok)}
end
section
variable {X:Cx}
end
section
variable {X:Cx}
end
theorem yy:typeLookup (.type "list_reverseiterator") "__len__"=pure none:=by rw[typeLookup_type,builtinLookup_eq_fast];kernel_rfl
theorem BK:typeLookup (.type "list_reverseiterator") "__length_hint__"=pure (some (.builtin "list_reverseiterator.__length_hint__")):=by rw[typeLookup_type,builtinLookup_eq_fast];kernel_rfl
section
variable {prog:Program} {w:World} {A:Around} {s:Shared}
theorem BL {E:EvP} {it l:Addr} {i:Int} {Q:Bool->Shared->Prop} (hit:s.heap.IsRevIter it l i) (h:Q false s):wpAny (model prog w) A (Builtin.List.listLengthHint (.ref it)) Q E s:=by
 unfold Builtin.List.listLengthHint
 refine wpAny_bind (wpAny_specialOf hit.typeIs yy ?_)
 show wpAny _ _ (specialOf (Value.ref it) (Str.ofString "__length_hint__") >>= _) _ _ _
 refine wpAny_bind (wpAny_specialOf hit.typeIs BK ?_)
 generalize hid:("list_reverseiterator.__length_hint__":String)=idr
 wp_delta
 rw[show splitId idr=some ("list_reverseiterator","__length_hint__")from by subst hid;decide+kernel]
 subst hid
 refine wpAny_bind (wpAny_isInstance (T:="list_reverseiterator") (b:=true) hit.typeIs (by rw[isSubtype_type];kernel_rfl) ?_)
 refine wpAny_ite_split (fun hz=>absurd hz (by decide)) (fun _=>?_)
 refine wpAny_ite_split (fun _=>?_) (fun hz=>absurd gB hz)
 exact wpAny_ite_split (fun hz=>absurd hz (by decide)) (fun _=>wpAny_pure h)
theorem yz {R:Result->Shared->Prop} {it l:Addr} {items:Array Value} (hh:A.handled=none) (hit:s.heap.IsRevIter it l ((items.size:Int)-1)) (hl:s.heap.IsList l items) (hne:l≠it) (hz:items.size<=sizeLine) (D:Addr) (res:Value) (c0:Nat)
  (hD:s.heap.get? D=some {cls:= .type "list",data:= .seq #[] c0}) (hDi:D≠it) (hDl:D≠l)
  (hR:∀h2 tk acc c2,(∀b o,b≠D->b≠it->s.heap.get? b=some o->h2.get? b=some o)->h2.get? D=some {cls:= .type "list",dict:=none,data:= .seq acc c2,slots:=#[]}->
   ItemsOf (fun i v=>items[items.size-1-i]?=some v) acc items.size->R (.ok (.ret res)) {s with heap:=h2,toks:=tk}):
  wpAny (model prog w) A.in1 (Builtin.List.listExtendWith (.ref D) (.ref it) res)
   (fun fin s'=>match fin with| .done f=>R (.ok f) s'| .again c'=>c'.quiet=true/\codeAny (model prog w) A c' R s') (fun e s'=>R (.error e) s') s:=by
 have W:=(Walks.listRev (prog:=prog) (w:=w) (A:=A.in1) hh it l hne items).toS
 unfold Builtin.List.listExtendWith
 refine wpAny_bind (wpAny_typeOf hit.typeIs ?_)
 have h1:Builtin.List.listSameRef (.ref D) (.ref it)=false:=by simp[Builtin.List.listSameRef,hDi]
 have h2:(Value.type "list_reverseiterator"==Value.type "list")=false:=by decide
 have h3:(Value.type "list_reverseiterator"==Value.type "tuple")=false:=by decide
 simp only[h1,h2,h3,Bool.or_false,fj,if_false]
 refine wpAny_bind (wpAny_pyIter_revIter hit ?_)
 refine wpAny_bind (wpAny_holding (BL hit ?_))
 refine wpAny_ite_split (fun hz=>absurd hz (by decide)) (fun _=>?_)
 refine wpAny_pure ⟨plainId_quiet F.plain_extend_loop _,codeAny_extend_loopS W hz D (fun hm=>?_) res items.size 0 _ #[] c0 rfl (cu _) ⟨cu _,by simpa using hit,hl⟩ hD (ItemsOf.nil _) fun s' acc c2 hm hS hacc=>?_⟩
 ·rcases aj.mp hm with e|hm
  ·exact hDi e
  ·exact hDl (bb.mp hm)
 ·rw[Moved.eq_with hm]
  refine hR s'.heap s'.toks acc c2 (fun b o hb hb2 e=>hm.heap b o (fun hmem=>?_) e) hS hacc
  rcases aj.mp hmem with e'|hmem
  ·exact hb e'
  ·exact hb2 (bb.mp hmem)
theorem sX {E:EvP} {Q:EvP} {it l:Addr} {items:Array Value} (hh:A.handled=none) (hit:s.heap.IsRevIter it l ((items.size:Int)-1)) (hl:s.heap.IsList l items) (hne:l≠it) (hz:items.size<=sizeLine)
  (hQ:∀h2 tk acc c2,(∀b o,b≠it->s.heap.get? b=some o->h2.get? b=some o)->h2.get? s.heap.objs.size=some {cls:= .type "list",dict:=none,data:= .seq acc c2,slots:=#[]}->
   ItemsOf (fun i v=>items[items.size-1-i]?=some v) acc items.size->Q (.ref s.heap.objs.size) {s with heap:=h2,toks:=tk}):
  wpAny (model prog w) A (call (.type "list") [.ref it]) Q E s:=by
 have hi:it<s.heap.objs.size:=by obtain⟨o,e,_⟩:=hit;exact fN e
 have hll:l<s.heap.objs.size:=by obtain⟨o,e,_⟩:=hl;exact fN e
 refine callType_codes (Q₁:=fun obj s₁=>obj= .ref s.heap.objs.size/\s₁={s with heap:=s.heap.push {cls:= .type "list",data:= .seq #[]}}) F.called_list (F.typeCall_list_1 _) F.entry_list_init (code_list_new _ ⟨rfl,rfl⟩) fun obj s1 h1=>?_
 obtain⟨rfl,rfl⟩:=h1
 have hS:(s.heap.push {cls:= .type "list",data:= .seq #[]}).get? s.heap.objs.size=some {cls:= .type "list",data:= .seq #[]}:=fO _ rfl
 have hit1:(s.heap.push {cls:= .type "list",data:= .seq #[]}).IsRevIter it l ((items.size:Int)-1):=hit.at fun o e=>fS _ e
 have hl1:(s.heap.push {cls:= .type "list",data:= .seq #[]}).IsList l items:=hl.push _
 refine⟨⟨_,hS,rfl⟩,F.args_list_init_2 _ _,?_⟩
 show wpAny _ A.in1.in1 (do let old<-Builtin.List.listItems (.ref s.heap.objs.size);Builtin.List.listUpdate (.ref s.heap.objs.size) (fun _=>#[]);letGo old.toList.reverse;Builtin.List.listExtendWith (.ref s.heap.objs.size) (.ref it) .none) _ _ _
 refine wpAny_bind ?_
 unfold Builtin.List.listItems
 refine wpAny_bind (wpAny_seqItems hS rfl (wpAny_pure ?_))
 show wpAny _ A.in1.in1 (updateSeq s.heap.objs.size (fun _=>#[]) >>= fun _=>letGo (#[]:Array Value).toList.reverse >>= fun _=>Builtin.List.listExtendWith (.ref s.heap.objs.size) (.ref it) .none) _ _ _
 refine wpAny_bind (wpAny_updateSeq hS rfl ?_)
 have hS2:=fW (Obj.mapSeq (fun _=>(#[]:Array Value))) hS rfl
 refine wpAny_bind (wpAny_letGo ?_)
 have ni:s.heap.objs.size≠it:=cn hi
 have nl:s.heap.objs.size≠l:=cn hll
 refine yz (A:=A.in1) hh (hit1.at fun o e=>(fX _ _ ni).trans e) (hl1.at fun o e=>(fX _ _ nl).trans e) hne hz _ .none _ hS2 ni nl fun h2 tk acc c2 hk hD hacc=>?_
 exact⟨rfl,hQ h2 tk acc c2 (fun b o hb e=>hk b o (cj (fN e)) hb ((fX _ _ (cn (fN e))).trans (fS _ e))) hD hacc⟩
end
section
variable {X:Cx}
def tLR (K:PySem.W.Frag) (ta:TA):TE:=fun σ H Q=>ta σ H fun vs H1=>∃a xs,vs=[.ref a]/\SqL K H1 a xs/\∀l,H1 l=none->Q (.ref l) (upd H1 l (.lst xs.reverse))
theorem yA {a:Expr} {ta:TA} {p pos p2 pos2:Pos} (hc:X.calm=true) (hg:Gl X "list") (hm:X.mg "list"=none) (hg2:Gl X "reversed") (hm2:X.mg "reversed"=none) (ha:PA X [a] ta)
  (hs:autoParam (starEach [a] X.env=[(false,eval a X.env)]) auR._auto_1) (hs2:autoParam (starEach [.Call (.Name "reversed" p2) [a] [] pos2] X.env=[(false,eval (.Call (.Name "reversed" p2) [a] [] pos2) X.env)]) auR._auto_1):
  PE X (.Call (.Name "list" p) [.Call (.Name "reversed" p2) [a] [] pos2] [] pos) (tLR X.K ta):=by
 intro pz s σ H Q I h
 refine wpAny_Call_Name_kw (oo I hg hm vS ?_ (by decide) (by decide))
 refine fY ?_ hs2 rfl
 rw[hs2]
 refine Calls.spliced_cons ?_
 refine Call_ (oo I hg2 hm2 qK (fY (thn (ha pos2 pz s σ H _ I h) fun us s1 ⟨vs,H1,I1,r1,q1⟩=>?_) hs rfl))
 obtain⟨l1,xs,e,hq,q⟩:=q1
 subst e
 obtain⟨u,rfl,ru⟩:=m8 r1
 cases ru
 obtain⟨i1s,w1,p1,z1⟩:=I1.list hq
 have hlen:=w1.length
 refine call_reversed_list p1.isList ?_
 refine Calls.spliced_nil ?_
 have st:(s1.heap.push (revObj l1 ((i1s.toArray.size:Int)-1))).IsRevIter s1.heap.objs.size l1 ((i1s.toArray.size:Int)-1):=⟨_,fO _ rfl,rfl,rfl⟩
 have hlt:l1<s1.heap.objs.size:=by obtain⟨o,e,_⟩:=p1.isList;exact fN e
 refine sX (I1.ok.hd hc) st (p1.isList.push _) (cj hlt) (by rw[aT];lia) fun h2 tk acc c2 hk hD hacc=>?_
 have kp:∀b o,s1.heap.get? b=some o->h2.get? b=some o:=fun b o e=>hk b o (cj (fN e)) (fS _ e)
 have sz:(s1.heap.push (revObj l1 ((i1s.toArray.size:Int)-1))).objs.size=s1.heap.objs.size+ 1:=fV ..
 have hv:iO xs.reverse acc.toList:=by
  have e2:acc.toList=i1s.reverse:=by
   refine List.ext_getElem? fun j=>?_
   by_cases hj:j<acc.size
   ·have h3:=hacc.2 j acc[j] (fu hj)
    have hs3:acc.size=i1s.length:=by have h9:=hacc.1;simpa using h9
    rw[aT]at h3
    rw[List.getElem?_reverse (show j<i1s.length by lia)]
    rw[ft,fu hj,<-h3]
    simp
   ·have h4:acc.size=i1s.length:=by
     have h9:=hacc.1
     simpa using h9
    rw[bG (by simpa using hj),bG (by rw[bH];lia)]
  rw[e2]
  exact w1.reverse
 refine⟨.ref (s1.heap.objs.size+ 1),_,?_,by rw[sz];rfl,q (s1.heap.objs.size+ 1) (I1.hok.fresh (cx _))⟩
 refine I1.laid (a:=s1.heap.objs.size+ 1) (t':=tk) kp (cx _) ⟨by rw[bH];exact z1,acc.toList,c2,hv,?_⟩
 rw[<-sz]
 simpa using hD
end
end L2.Internal
namespace L2.Internal
open PySem PySem.Spec PyProof.Rows PySem.W
section
variable {prog:Program} {w:World} {A:Around} {E:EvP} {s:Shared}
end
section
variable {X:Cx}
end
section
variable {fs ex:List Addr} {H H':Hp} {h h':Heap}
end
section
variable {X:Cx} {pz:AoL} {σ:St} {H H':Hp} {s:Shared} {h':Heap}
end
section
variable {X:Cx}
end
end L2.Internal
namespace L2.Internal
open PySem PySem.Spec PyProof.Rows
section
variable {X:Cx} {pz:AoL} {σ:St} {H:Hp} {s:Shared}
end
section
variable {X:Cx}
end
section
open PySem.SeqAt
open PySem.AutoSeq1 (wpAny_loadPart')
open PySem.MeetsSeq PySem.MeetsSeq2 PySem.MeetsSeq3
end
section
variable {X:Cx}
end
section
variable {X:Cx}
end
section
variable {X:Cx}
end
theorem sk:∀{ys:List Str} {its:List Value},iO (ys.map V.str) its->∃l:List (Str×Tok),its=strValues l/\l.map (·.1)=ys
 |[],its,h=>by
  cases its with
  |nil=>exact⟨[],rfl,rfl⟩
  |cons a b=>exact absurd h.length (by simp)
 |y::ys,its,h=>by
  cases its with
  |nil=>exact absurd h.length (by simp)
  |cons u its=>
   obtain⟨t,rfl⟩:∃t,u= .str y t:=by
    obtain⟨v,hv,r⟩:=h.get (i:=0) (show((y::ys).map V.str)[0]?=some (.str y)from rfl)
    cases hv
    exact r
   obtain⟨l,e1,e2⟩:=sk (ys:=ys) (its:=its) (by
    cases h with
    |cons _ h=>exact h)
   exact⟨(y,t)::l,by rw[e1];rfl,by rw[aB,e2]⟩
section
variable {X:Cx}
def Iq (K:PySem.W.Frag):V->List V->Hp->VK->Prop:=fun x xs H Q=>∃(z:Str) (a:Addr) (ys:List Str),x= .str z/\xs=[.ref a]/\SqL K H a (ys.map V.str)/\(ys.map (·.length)).sum+ys.length*z.length<=sizeLine/\Q (.str (Str.join z ys)) H
theorem Aa:MtR X "str.join" (Iq X.K):=by
 intro pz s σ H x xs v us Q I rx rs h
 obtain⟨z,a,ys,rfl,rfl,hq,hz,q⟩:=h
 obtain⟨t,rfl⟩:=rx
 obtain⟨u,rfl,ru⟩:=m8 rs
 cases ru
 obtain⟨its,rv,p,_⟩:=I.list hq
 obtain⟨l,e1,e2⟩:=sk rv
 have hl:=p.isList
 rw[e1]at hl
 refine SC.join hl e2 ?_ fun t' k=>?_
 ·unfold JoinOk
  rw[StrLaws.joinTotal]
  have:¬(ys.map (·.length)).sum+ys.length*z.length>sizeLine:=by lia
  show(!Builtin.Str.tooLong _)=true
  unfold Builtin.Str.tooLong
  rw[iI this]
  rfl
 ·have e:Txt.join z ys=Str.join z ys:=StrLaws.glued_eq_join z ys
  rw[e]
  exact⟨.str _,H,I.tok k,⟨_,rfl⟩,q⟩
end
section
variable {X:Cx}
end
section
variable {X:Cx}
end
section
variable {prog:Program} {w:World} {A:Around} {E:EvP} {h:Heap} {g:Array GenState} {d:Drawn} {t:Nat} {os:OsState} {a D:Addr} {o:Obj} {K:PySem.W.Frag}
structure rL (K:PySem.W.Frag) (D:Addr):Prop where
 ga:da K (.ref D) "__getattribute__"=some (some (.builtin "BaseException.__getattribute__"))
 gn:da K (.ref D) "__getattr__"=some none
 cl:da K (.ref D) "__class__"=some (some (.builtin "object.__class__"))
 sb:dU K (.ref D) (.type "BaseException")=some true
 so:dU K (.ref D) (.type "object")=some true
 is:cZ K D=true
theorem Gg {R:Result->Shared->Prop} (X:K.In h) (C:rL K D) (hx:h.get? a=some o) (hc:o.cls= .ref D) (hq:R (.ok (.ret (.ref D))) ⟨h,g,d,t,os⟩):
  codeAny (model prog w) A (.call (.builtin "getset_descriptor.__get__") ⟨[.builtin "object.__class__",.ref a,.ref D],[]⟩) R ⟨h,g,d,t,os⟩:=by
 have hT5:(⟨h,g,d,t,os⟩:Shared).TypeIs (.builtin "object.__class__") "getset_descriptor":=F.typeOf_object_class
 have L:=dW (M:=model prog w) X C.so
 refine codeAny_call_builtin F.slot_gs_get.plain F.entry_gs_get (F.slot_gs_get.check _ _ _ _ _ _ _ _ hT5 (F.args_gs_get _ _ _) ?_)
 repeat(any_goals(first|assumption|(with_reducible refine wpAny_loadPart_at hx ?_;rw[hc])|(rw[F.owner_object_class])|(with_reducible refine L.at ?_)|wp_step))
 refine⟨Code.quiet_builtin _ gB,codeAny_builtin F.entry_object_class ?_⟩
 repeat(any_goals(first|assumption|(with_reducible refine wpAny_loadPart_at hx ?_;rw[hc])|wp_step))
theorem BM {tk:Tok} {Q:Fin->Shared->Prop} (X:K.In h) (C:rL K D) (hx:h.get? a=some o) (hc:o.cls= .ref D) (hq:Q (.done (.ret (.ref D))) ⟨h,g,d,t,os⟩):
  wpAny (model prog w) A (Builtin.«object.__getattribute__» ⟨[.ref a,.str "__class__" tk],[]⟩) Q E ⟨h,g,d,t,os⟩:=by
 have hT5:(⟨h,g,d,t,os⟩:Shared).TypeIs (.builtin "object.__class__") "getset_descriptor":=F.typeOf_object_class
 have f5:=F.typeOf_object_class
 have f6:=F.slot_gs_get.lookup
 have f7:=F.slot_gs_set.lookup
 have L:=dA (M:=model prog w) X C.cl
 repeat(any_goals(first|assumption|(with_reducible refine wpAny_loadPart_at hx ?_;rw[hc])|(with_reducible refine L.at ?_)|wp_step))
 refine Gg X C hx hc ?_
 repeat(any_goals(first|assumption|wp_step))
theorem xC {M:Model} {nameV:Value} {Q:Unit->Shared->Prop} (X:K.In h) (C:rL K D) (hx:h.get? a=some o) (hc:o.cls= .ref D) (hq:Q () ⟨h,g,d,t,os⟩):wpAny M A (checkBuiltinCall "BaseException.__getattribute__" ⟨[.ref a,nameV],[]⟩) Q E ⟨h,g,d,t,os⟩:=by
 have hk:builtinKind "BaseException.__getattribute__"=some .slot:=gB
 have hsplit:splitId "BaseException.__getattribute__"=some ("BaseException","__getattribute__"):=gB
 have ha:=F.args_bexc_ga (.ref a) nameV
 have L:=dW (M:=M) X C.sb
 simp only[checkBuiltinCall,hk,hsplit]
 refine wpAny_bind ?_
 ·unfold isInstance
  repeat(first|(with_reducible refine wpAny_loadPart_at hx ?_;rw[hc])|(with_reducible refine L.at ?_)|wp_step)
  exact hq
theorem D3 {tk:Tok} {R:Result->Shared->Prop} (X:K.In h) (C:rL K D) (hx:h.get? a=some o) (hc:o.cls= .ref D) (hq:R (.ok (.ret (.ref D))) ⟨h,g,d,t,os⟩):
  codeAny (model prog w) A (.call (.builtin "BaseException.__getattribute__") ⟨[.ref a,.str "__class__" tk],[]⟩) R ⟨h,g,d,t,os⟩:=
 codeAny_call_builtin F.excAttr_ValueError.ga.plain F.entry_bexc_ga (xC X C hx hc (BM X C hx hc hq))
theorem Ir {tk:Tok} {fill expr:Bool} {Q:EvP} (X:K.In h) (C:rL K D) (hx:h.get? a=some o) (hc:o.cls= .ref D) (hq:Q (.ref D) ⟨h,g,d,t,os⟩):
  wpAny (model prog w) A (getAttrBy (.ref a) (.str "__class__" tk) fill expr) Q E ⟨h,g,d,t,os⟩:=by
 have f3:=F.excAttr_ValueError.ga.bind (.ref a)
 have hx0:(expr&&onTheHeap (Value.builtin "BaseException.__getattribute__"))=false:=by cases expr<;>rfl
 have hx2:(Value.builtin "BaseException.__getattribute__"==Value.builtin "object.__getattribute__")=false:=gB
 have hx1:(onTheHeap (Value.ref D)&&Value.builtin "BaseException.__getattribute__"==Value.builtin "object.__getattribute__")=false:=by rw[hx2];rfl
 have L1:=dA (M:=model prog w) X C.ga
 have L2.Internal:=dA (M:=model prog w) X C.gn
 repeat(any_goals(first|assumption|(with_reducible refine wpAny_loadPart_at hx ?_;rw[hc])|(with_reducible refine L1.at ?_)|(with_reducible refine L2.Internal.at ?_)|wp_step))
 refine D3 X C hx hc ?_
 repeat(any_goals(first|assumption|wp_step))
theorem D4 {Q:Option Value->Shared->Prop} (X:K.In h) (C:rL K D) (hx:h.get? a=some o) (hc:o.cls= .ref D) (hq:Q (some (.ref D)) ⟨h,g,d,t+ 1,os⟩):wpAny (model prog w) A (getAttr? (.ref a) "__class__") Q E ⟨h,g,d,t,os⟩:=by
 unfold getAttr? getAttrBy?
 repeat(any_goals(first|assumption|with_reducible apply Ir X C hx hc|wp_step))
theorem qm (C:rL K D):PySem.W.KitX K (.ref a) (.ref D) (fun h=>∃o,h.get? a=some o/\o.cls= .ref D) where
 ty:=fun M h _ ⟨o,e,c⟩=>by
  have z:PySem.W.Looks M h (typeOf (.ref a)) o.cls:=(PySem.W.Looks.ld e).andThen .now
  rw[c]at z
  exact z
 it:=fun _ _ X _=>by
  obtain⟨cd,hc,_⟩:=du C.is
  unfold dX at hc
  split at hc
  ·rename_i c' d' cd' sl' ho
   intro A' Q' E' s' k q
   unfold isType loadHead
   exact wpAny_bind (wpAny_loadPart (k _ _ (X _ _ ho)) (wpAny_pure q))
  ·cases hc
 ne:=fun h tp dd its n sl X htp=>by
  obtain⟨cd,hc,_⟩:=du C.is
  refine Bool.eq_false_iff.mpr fun q=>?_
  have e:D=tp:=Value.ref.inj (beq_iff_eq.mp q)
  subst e
  unfold dX at hc
  split at hc
  ·rename_i c' d' cd' sl' ho
   have z:=(X _ _ ho).symm.trans htp
   cases z
  ·cases hc
 ca:=fun{_ _ _ _ _ s} X ⟨o,e,c⟩ k=>by
  obtain⟨h,g,d,t,os⟩:=s
  exact D4 X C e c k
end
section
variable {X:Cx}
theorem Ab:kT X (.builtin "isinstance") (fun xs H Q=>∃ea D v c b,xs=[.ref ea,v]/\(∀u,iP v u->u=c)/\H ea=some (BG ea (.ref D))/\rL X.K D/\dD X.K (.ref D) c=some b/\Q (.bl b) H):=by
 intro pz s σ H xs us Q I r h
 obtain⟨ea,D,v,c,b,rfl,hc,he,C,hk,q⟩:=h
 obtain⟨u,u',rfl,ru,ru'⟩:=vI r
 cases hc u' ru'
 cases ru
 obtain⟨h1,_,_⟩:=(show iD X.prog X.w H s.heap ea (BG ea (.ref D))from I.hok ea _ he)
 exact dE (qm C) I.kIn h1 hk (fun z=>nomatch z) fun tk=>⟨.bl b,H,I.tok tk,rfl,q⟩
end
open Sem (wp)
def DK (h h':Heap):Prop:=∀b o,h.get? b=some o->∃o',h'.get? b=some o'/\o'.dict=o.dict/\o'.cls=o.cls
theorem DK.refl (h:Heap):DK h h:=fun _ o e=>⟨o,e,rfl,rfl⟩
theorem DK.trans {h h1 h2:Heap} (a:DK h h1) (b:DK h1 h2):DK h h2:=fun x o e=>by
 obtain⟨o1,e1,d1,c1⟩:=a x o e
 obtain⟨o2,e2,d2,c2⟩:=b x o1 e1
 exact⟨o2,e2,d2.trans d1,c2.trans c1⟩
def Iu (f:Obj->Obj):Prop:=∀o,(f o).dict=o.dict/\(f o).cls=o.cls/\(o.isFreed=false->(f o).isFreed=false)
theorem DK.upd {h:Heap} {a:Addr} {f:Obj->Obj} (m:Iu f):DK h (h.update a f):=fun b o e=>by
 by_cases q:a=b
 ·subst q
  exact⟨f o,fW f e ((m o).2.2 (Heap.get?_some_iff.mp e).2),(m o).1,(m o).2.1⟩
 ·exact⟨o,(fX _ f q).trans e,rfl,rfl⟩
theorem DK.push {h:Heap} (o:Obj):DK h (h.push o):=fun b u e=>⟨u,fS _ e,rfl,rfl⟩
def lK {α:Type}:Sem α->Prop
 | .pure _=>True
 | .raise _=>True
 | .unsupported _=>True
 | .finish _=>True
 | .rule _ k=>lK (k ())
 | .at _ k=>lK (k ())
 | .load _ _ k=>∀o,lK (k o)
 | .update _ _ f k=>Iu f/\lK (k ())
 | .loadIfAlive _ k=>∀o,lK (k o)
 | .point _ k=>lK (k ())
 | .alloc _ k=>∀a,lK (k a)
 | .fresh k=>∀a,lK (k a)
 | .ask k=>∀a,lK (k a)
 | .stack k=>∀a,lK (k a)
 | .handled _ k=>∀a,lK (k a)
 |_=>False
theorem Ac {α β:Type} {f:α->Sem β} (hf:∀a,lK (f a)):∀{t:Sem α},lK t->lK (t.bind f):=by
 intro t
 induction t with
 |pure a=>intro _;exact hf a
 |raise e=>intro _;trivial
 |unsupported e=>intro _;trivial
 |finish e=>intro _;trivial
 |rule t k ih=>exact fun h=>ih () h
 |«at» p k ih=>exact fun h=>ih () h
 |load a p k ih=>exact fun h o=>ih o (h o)
 |update a p g k ih=>exact fun h=>⟨h.1,ih () h.2⟩
 |loadIfAlive a k ih=>exact fun h o=>ih o (h o)
 |point l k ih=>exact fun h=>ih () h
 |alloc o k ih=>exact fun h a=>ih a (h a)
 |fresh k ih=>exact fun h a=>ih a (h a)
 |ask k ih=>exact fun h a=>ih a (h a)
 |stack k ih=>exact fun h a=>ih a (h a)
 |handled o k ih=>exact fun h a=>ih a (h a)
 |_=>exact fun h=>False.elim h
theorem D5 {α:Type} {M:Model} {Γ:PySem.Ctx} {t:Sem α}:lK t->∀{Q:α->Pos->Shared->Prop} {E:Value->Pos->Shared->Prop} {p:Pos} {s:Shared},wp M Γ t Q E p s->wp M Γ t (fun a q s'=>Q a q s'/\DK s.heap s'.heap) (fun e q s'=>E e q s'/\DK s.heap s'.heap) p s:=by
 induction t with
 |pure a=>intro _ Q E p s h;rw[wp]at h⊢;exact⟨h,DK.refl _⟩
 |raise e=>intro _ Q E p s h;rw[wp]at h⊢;exact⟨h,DK.refl _⟩
 |unsupported e=>intro _ Q E p s h;rw[wp]at h;exact h.elim
 |finish e=>intro _ Q E p s h;rw[wp]at h;exact h.elim
 |rule t k ih=>intro m Q E p s h;rw[wp]at h⊢;exact ih () m h
 |«at» p' k ih=>intro m Q E p s h;rw[wp]at h⊢;exact ih () m h
 |load a pp k ih=>intro m Q E p s h;rw[wp]at h⊢;obtain⟨o,e,h⟩:=h;exact⟨o,e,ih o (m o) h⟩
 |update a pp g k ih=>
  intro m Q E p s h
  rw[wp]at h⊢
  refine⟨h.1,?_⟩
  have z:=ih () m.2 h.2
  have d:DK s.heap (s.heap.update a g):=DK.upd m.1
  exact Sem.wp_mono _ _ _ (fun a q s' x=>⟨x.1,d.trans x.2⟩) (fun a q s' x=>⟨x.1,d.trans x.2⟩) _ _ z
 |loadIfAlive a k ih=>intro m Q E p s h;rw[wp]at h⊢;exact ih _ (m _) h
 |point l k ih=>intro m Q E p s h;rw[wp]at h⊢;exact ih () m h
 |alloc o k ih=>
  intro m Q E p s h
  rw[wp]at h⊢
  have z:=ih _ (m _) h
  have d:DK s.heap (s.heap.push o):=DK.push o
  exact Sem.wp_mono _ _ _ (fun a q s' x=>⟨x.1,d.trans x.2⟩) (fun a q s' x=>⟨x.1,d.trans x.2⟩) _ _ z
 |fresh k ih=>intro m Q E p s h;rw[wp]at h⊢;exact ih _ (m _) h
 |ask k ih=>intro m Q E p s h;rw[wp]at h⊢;exact ih _ (m _) h
 |stack k ih=>intro m Q E p s h;rw[wp]at h⊢;exact ih _ (m _) h
 |handled o k ih=>intro m Q E p s h;rw[wp]at h⊢;exact ih _ (m _) h
 |_=>exact fun h=>False.elim h
theorem qo {α:Type} {M:Model} {A:Around} {t:Sem α} {Q:α->Shared->Prop} {E:EvP} {s:Shared} (T:lK t) (h:wpAny M A t Q E s):wpAny M A t (fun a s'=>Q a s'/\DK s.heap s'.heap) (fun e s'=>E e s'/\DK s.heap s'.heap) s:=fun Γ p hΓ=>D5 T (h Γ p hΓ)
theorem iu {α β:Type} {t:Sem α} {f:α->Sem β} (h:lK t) (hf:∀a,lK (f a)):lK (t >>= f):=Ac hf h
theorem jI {α:Type} (a:α):lK (pure a:Sem α):=trivial
theorem oB {α:Type} (x:String):lK (unsupported x:Sem α):=trivial
theorem vV (a:Addr):lK (load a):=fun _=>trivial
theorem sY:lK stack:=fun _=>trivial
theorem Ad (v:Value):lK (fieldsOf v):=by
 unfold fieldsOf
 split
 ·refine iu (vV _) fun o=>?_
  split
  ·exact jI _
  ·exact oB _
 ·exact oB _
theorem oE (v:Value) (i:Nat):lK (field v i):=by
 unfold field
 refine iu (Ad _) fun vs=>?_
 split
 ·exact jI _
 ·exact oB _
theorem vW (f:Array Value->Array Value):Iu (Obj.mapFields f):=fun o=>by
 obtain⟨c,d,dt,sl⟩:=o
 cases dt<;>exact⟨rfl,rfl,fun h=>h⟩
theorem lM (v:Value) (i:Nat) (x:Value):lK (setField v i x):=by
 unfold setField
 split
 ·unfold updateField
  refine iu (vV _) fun o=>?_
  split
  ·split
   ·exact⟨vW _,trivial⟩
   ·exact oB _
  ·exact oB _
 ·exact oB _
theorem mw (e:Value) (o:Option Addr):lK (setFlight e o):=by
 unfold setFlight
 refine iu (oE _ _) fun tb=>?_
 split
 ·exact lM _ _ _
 ·exact jI _
theorem Ae (env:Env) (outer:List Env):lK (behindIsImport env outer):=by
 unfold behindIsImport
 repeat(first|exact jI _|exact oE _ _|refine iu (oE _ _) fun _=>?_|split)
theorem Af:lK underTheClaimsCaller:=iu sY fun _=>jI _
theorem D6 (env:Env) (b:Bool) (l:List Env):lK (keptBack env b l):=by
 cases l with
 |nil=>
  simp only[keptBack]
  split
  ·exact jI _
  ·exact iu Af fun _=>jI _
 |cons c l=>exact jI _
theorem xD:∀l:List Env,lK (readyFrames l)
 |[]=>trivial
 |env::outer=>by
  unfold readyFrames
  split
  ·refine iu (vV _) fun o=>?_
   split
   ·exact jI _
   ·refine iu (Ae _ _) fun b=>iu (D6 _ _ _) fun bk=>iu ⟨fun o=>⟨rfl,rfl,fun h=>?_⟩,trivial⟩ fun _=>xD outer
    obtain⟨c,d,dt,sl⟩:=o
    cases dt<;>exact h
  ·exact oB _
theorem vX (l:List Env):lK (frameObject l):=by
 cases l with
 |nil=>trivial
 |cons e l=>exact iu (xD _) fun _=>jI _
theorem D7:lK frameEnvs:=iu sY fun _=>jI _
theorem sq (env:Env):lK (PySem.frameOf env):=by
 unfold PySem.frameOf
 refine iu D7 fun l=>iu (vX _) fun o=>?_
 split
 ·exact jI _
 ·exact oB _
theorem xE (f:Addr) (b:Bool):lK (entryPlaceOf f b):=by
 unfold entryPlaceOf
 refine iu sY fun acts=>?_
 split<;>exact jI _
theorem D8 (ty:String) (xs:Array Value):lK (newObj (.type ty) (.fields xs)):=by
 unfold newObj
 dsimp only
 split
 ·trivial
 ·exact fun _=>trivial
theorem xF (a b c d e:Value) (l:List Value):lK (EntryCells.newEntry a b c d e l):=D8 _ _
theorem Ag (e:Value) (env:Env):lK (noteFrame e env):=by
 unfold noteFrame
 split
 ·refine iu (oE _ _) fun head=>?_
  split
  ·refine iu (oE _ _) fun x=>?_
   split
   ·exact jI _
   ·exact iu (lM _ _ _) fun _=>iu (sq _) fun _=>iu (xE _ _) fun _=>iu (xF _ _ _ _ _ _) fun _=>lM _ _ _
  ·exact iu (sq _) fun _=>iu (xE _ _) fun _=>iu (xF _ _ _ _ _ _) fun _=>lM _ _ _
 ·exact oB _
theorem yB (env:Env) (e:Value):lK (leaving env e):=iu (Ag _ _) fun _=>mw _ _
section
variable {prog:Program} {w:World} {A:Around} {E:EvP} {h:Heap} {g:Array GenState} {d:Drawn} {t:Nat} {os:OsState} {a D dx:Addr} {o:Obj} {K:PySem.W.Frag} {name:Str} {v:Value} {mA:Str->Option Value}
theorem Ah {K:PySem.W.Frag} {D:Addr} {h:Heap} (X:K.In h) (z:cZ K D=true):∃oc cd,h.get? D=some oc/\oc.data= .cls cd/\cd.hasDict=true:=by
 obtain⟨cd,hc,hh⟩:=du z
 unfold dX at hc
 split at hc
 ·rename_i c' d' cd' sl' ho
  cases hc
  exact⟨_,_,X _ _ ho,rfl,hh⟩
 ·cases hc
theorem BN {tk:Tok} {Q:Fin->Shared->Prop} (X:K.In h) (C:rL K D) (hn:da K (.ref D) name=some none) (hx:h.get? a=some o) (hc:o.cls= .ref D) (hdt:∀c,o.data≠ .cls c) (hd:o.dict=some dx) (hN:h.Ns dx mA) (hv:mA name=some v) (hq:Q (.done (.ret v)) ⟨h,g,d,t,os⟩):
  wpAny (model prog w) A (Builtin.«object.__getattribute__» ⟨[.ref a,.str name tk],[]⟩) Q E ⟨h,g,d,t,os⟩:=by
 have L:=dA (M:=model prog w) X hn
 repeat(any_goals(first|assumption|(with_reducible refine wpAny_loadPart_at hx ?_;first|rw[hc]|rw[hd])|(with_reducible refine L.at ?_)|wp_step))
 split
 ·rename_i c z
  exact absurd z (hdt c)
 obtain⟨oc,cd,eD,hcd,hdc⟩:=Ah X C.is
 unfold instanceDict
 repeat(any_goals(first|assumption|(with_reducible refine wpAny_loadPart_at hx ?_;rw[hc])|(with_reducible refine wpAny_load eD ?_;rw[hcd])|wp_step))
 rw[hd]
 repeat(any_goals(first|assumption|(with_reducible refine wpAny_nsGet hN ?_;rw[hv])|wp_step))
theorem D9 {tk:Tok} {R:Result->Shared->Prop} (X:K.In h) (C:rL K D) (hn:da K (.ref D) name=some none) (hx:h.get? a=some o) (hc:o.cls= .ref D) (hdt:∀c,o.data≠ .cls c) (hd:o.dict=some dx) (hN:h.Ns dx mA) (hv:mA name=some v) (hq:R (.ok (.ret v)) ⟨h,g,d,t,os⟩):
  codeAny (model prog w) A (.call (.builtin "BaseException.__getattribute__") ⟨[.ref a,.str name tk],[]⟩) R ⟨h,g,d,t,os⟩:=
 codeAny_call_builtin F.excAttr_ValueError.ga.plain F.entry_bexc_ga (xC X C hx hc (BN X C hn hx hc hdt hd hN hv hq))
theorem Iv {tk:Tok} {fill expr:Bool} {Q:EvP} (X:K.In h) (C:rL K D) (hn:da K (.ref D) name=some none) (hx:h.get? a=some o) (hc:o.cls= .ref D) (hdt:∀c,o.data≠ .cls c) (hd:o.dict=some dx) (hN:h.Ns dx mA) (hv:mA name=some v) (hh:df v=true) (hq:Q v ⟨h,g,d,t,os⟩):
  wpAny (model prog w) A (getAttrBy (.ref a) (.str name tk) fill expr) Q E ⟨h,g,d,t,os⟩:=by
 have f3:=F.excAttr_ValueError.ga.bind (.ref a)
 have hx0:(expr&&onTheHeap (Value.builtin "BaseException.__getattribute__"))=false:=by cases expr<;>rfl
 have hx2:(Value.builtin "BaseException.__getattribute__"==Value.builtin "object.__getattribute__")=false:=gB
 have hx1:(onTheHeap (Value.ref D)&&Value.builtin "BaseException.__getattribute__"==Value.builtin "object.__getattribute__")=false:=by rw[hx2];rfl
 have L1:=dA (M:=model prog w) X C.ga
 have L2.Internal:=dA (M:=model prog w) X C.gn
 repeat(any_goals(first|assumption|(with_reducible refine wpAny_loadPart_at hx ?_;rw[hc])|(with_reducible refine L1.at ?_)|(with_reducible refine L2.Internal.at ?_)|wp_step))
 refine D9 X C hn hx hc hdt hd hN hv ?_
 exact PySem.W.handed_on hh hq
theorem Ea {expr:Bool} {Q:EvP} (X:K.In h) (C:rL K D) (hn:da K (.ref D) name=some none) (hx:h.get? a=some o) (hc:o.cls= .ref D) (hdt:∀c,o.data≠ .cls c) (hd:o.dict=some dx) (hN:h.Ns dx mA) (hv:mA name=some v) (hh:df v=true) (hq:Q v ⟨h,g,d,t+ 1,os⟩):
  wpAny (model prog w) A (getAttr (.ref a) name expr) Q E ⟨h,g,d,t,os⟩:=by
 unfold getAttr
 repeat(any_goals(first|assumption|with_reducible apply Iv X C hn hx hc hdt hd hN hv hh|wp_step))
end
open Builtin Builtin.ObjectAttr
section
variable {prog:Program} {w:World} {A:Around} {E:EvP} {h:Heap} {g:Array GenState} {d:Drawn} {t:Nat} {os:OsState} {a D dx:Addr} {o:Obj} {K:PySem.W.Frag} {name:Str} {v:Value} {mA:Str->Option Value} {cd:ClassData} {vs:Array Value}
structure Bi (K:PySem.W.Frag) (D:Addr):Prop where
 xc:rL K D
 sa:da K (.ref D) "__setattr__"=some (some (.builtin "object.__setattr__"))
 mro:∃cd,dX K D=some cd/\cd.hasDict=true/\∀self,refuseLoop self "__setattr__" cd.mro=pure ()
theorem Eb {tk:Tok} {R:Result->Shared->Prop} (X:K.In h) (C:Bi K D) (hn:da K (.ref D) name=some none) (hx:h.get? a=some o) (hc:o.cls= .ref D) (hdt:o.data= .fields vs) (hd:o.dict=none)
  (hq:∀h' tk',h'.get? a=some {o with dict:=some h.objs.size}->h'.Ns1 h.objs.size (fun y=>if y=name then some v else none)->(∀b ob,b≠a->h.get? b=some ob->h'.get? b=some ob)->R (.ok (.ret .none)) ⟨h',g,d,tk',os⟩):
  codeAny (model prog w) A (.call (.builtin "object.__setattr__") ⟨[.ref a,.str name tk,v],[]⟩) R ⟨h,g,d,t,os⟩:=by
 obtain⟨cd,hcd,hdc,hr⟩:=C.mro
 have SF:=eO
 have LT:∀M:Model,PySem.W.Looks M h (typeOf (.ref a)) (.ref D):=fun M=>by
  have z:PySem.W.Looks M h (typeOf (.ref a)) o.cls:=(PySem.W.Looks.ld hx).andThen .now
  rw[hc]at z
  exact z
 have sub:PySem.W.Looks (model prog w) h (isInstance (.ref a) (.type "object")) true:=(LT _).andThen (dW X C.xc.so)
 refine codeAny_call_builtin SF.slot.plain SF.entry (@dY (model prog w) _ _ ⟨h,g,d,t,os⟩ "object.__setattr__" "object" "__setattr__" (.ref a) [.str name tk,v] [] _ SF.kind SF.split sub (SF.args (.ref a) (.str name tk) v) ?_)
 have hm:PySem.W.Looks (model prog w) h (mroOf (.ref D)) cd.mro:=(dv X hcd).andThen .now
 rw[PySem.W.osa_eq,refuse_eq]
 refine wpAny_bind (wpAny_bind ((LT _).here (wpAny_bind (hm.here ?_))))
 rw[hr]
 refine wpAny_pure (wpAny_bind ((LT _).here (wpAny_bind ((dA X hn).here (wpAny_bind (wpAny_pure ?_))))))
 obtain⟨oc,cd',eD,hcd',hdc'⟩:=Ah X C.xc.is
 show wpAny _ _ (storeInOwnDict (.ref a) (.ref D) (.str name tk) name v false) _ _ _
 unfold storeInOwnDict ownDictForStores
 repeat(any_goals(first|assumption|(with_reducible refine wpAny_loadPart_at hx ?_;rw[hc])|(with_reducible refine wpAny_load eD ?_;rw[hcd'])|wp_step))
 rw[hd]
 dsimp only
 rw[gN (show ¬(!true||!typeHasDict (Value.ref D))=true from by simp[typeHasDict]),hdt]
 have ea:a≠h.objs.size:=cj (fN hx)
 have e1:(h.push {cls:= .type "dict",data:= .dict #[]}).get? a=some o:=fS _ hx
 refine wpAny_bind (wpAny_alloc' (wpAny_bind (wpAny_update' e1 ?_)))
 generalize hh:(h.push {cls:= .type "dict",data:= .dict #[]}).update a (fun o=>{cls:=o.cls,dict:=some h.objs.size,data:=o.data,slots:=o.slots})=h2
 have fo:({cls:=o.cls,dict:=some h.objs.size,data:=o.data,slots:=o.slots}:Obj).isFreed=false:=by
  obtain⟨q1,q2,q3,q4⟩:=o
  dsimp only at hdt
  rw[hdt]
  rfl
 have g1:h2.get? a=some {cls:=o.cls,dict:=some h.objs.size,data:=o.data,slots:=o.slots}:=by rw[<-hh];exact fW _ e1 fo
 have g2:h2.get? h.objs.size=some {cls:= .type "dict",data:= .dict #[]}:=by rw[<-hh,fX _ _ ea];exact fO _ rfl
 have g3:∀b ob,b≠a->h.get? b=some ob->h2.get? b=some ob:=fun b ob n q=>by rw[<-hh,fX _ _ n.symm];exact fS _ q
 have n1:h2.Ns h.objs.size (fun _=>none):=⟨_,#[],_,g2,rfl,fun e he=>absurd he (by simp),fun _=>rfl⟩
 refine wpAny_pure (a:=some h.objs.size) ?_
 show wpAny _ _ (storeInDict h.objs.size (.str name tk) name v) _ _ _
 unfold storeInDict newKeyGuard
 refine wpAny_bind (wpAny_pure (wpAny_bind (wpAny_nsSet1 (Heap.Ns1.of_empty n1) fun h3 n3 sb=>?_)))
 obtain⟨oD,es,ep,k1,k2,k3⟩:=n3.count (Within.cons name v Within.nil)
 refine wpAny_bind (wpAny_lookBehind k1 (by rw[k2];exact pastItsLine_dict (ck k3 (by rw[sizeLine_eq,az,aR];lia))) ?_)
 refine wpAny_pure (hq h3 _ ?_ ?_ fun b ob n q=>(sb.2 b (cj (fN q))).trans (g3 b ob n q))
 ·rw[sb.2 a ea,g1]
 ·exact n3
theorem BP {tk:Tok} {R:Result->Shared->Prop} {ns:List Str} (X:K.In h) (C:Bi K D) (hn:da K (.ref D) name=some none) (hx:h.get? a=some o) (hc:o.cls= .ref D) (hd:o.dict=some dx) (hN:h.Ns1 dx mA) (hne:dx≠a) (hw:Within mA ns) (hl:ns.length<=100)
  (hq:∀h' tk',h'.Ns1 dx (fun y=>if y=name then some v else mA y)->(∀b ob,b≠dx->h.get? b=some ob->h'.get? b=some ob)->R (.ok (.ret .none)) ⟨h',g,d,tk',os⟩):
  codeAny (model prog w) A (.call (.builtin "object.__setattr__") ⟨[.ref a,.str name tk,v],[]⟩) R ⟨h,g,d,t,os⟩:=by
 obtain⟨cd,hcd,hdc,hr⟩:=C.mro
 have SF:=eO
 have LT:∀M:Model,PySem.W.Looks M h (typeOf (.ref a)) (.ref D):=fun M=>by
  have z:PySem.W.Looks M h (typeOf (.ref a)) o.cls:=(PySem.W.Looks.ld hx).andThen .now
  rw[hc]at z
  exact z
 have sub:PySem.W.Looks (model prog w) h (isInstance (.ref a) (.type "object")) true:=(LT _).andThen (dW X C.xc.so)
 refine codeAny_call_builtin SF.slot.plain SF.entry (@dY (model prog w) _ _ ⟨h,g,d,t,os⟩ "object.__setattr__" "object" "__setattr__" (.ref a) [.str name tk,v] [] _ SF.kind SF.split sub (SF.args (.ref a) (.str name tk) v) ?_)
 have hm:PySem.W.Looks (model prog w) h (mroOf (.ref D)) cd.mro:=(dv X hcd).andThen .now
 rw[PySem.W.osa_eq,refuse_eq]
 refine wpAny_bind (wpAny_bind ((LT _).here (wpAny_bind (hm.here ?_))))
 rw[hr]
 refine wpAny_pure (wpAny_bind ((LT _).here (wpAny_bind ((dA X hn).here (wpAny_bind (wpAny_pure ?_))))))
 obtain⟨oc,cd',eD,hcd',hdc'⟩:=Ah X C.xc.is
 show wpAny _ _ (storeInOwnDict (.ref a) (.ref D) (.str name tk) name v false) _ _ _
 unfold storeInOwnDict ownDictForStores
 repeat(any_goals(first|assumption|(with_reducible refine wpAny_loadPart_at hx ?_;rw[hc])|(with_reducible refine wpAny_load eD ?_;rw[hcd'])|wp_step))
 rw[hd]
 refine wpAny_pure (a:=some dx) ?_
 show wpAny _ _ (storeInDict dx (.str name tk) name v) _ _ _
 unfold storeInDict newKeyGuard
 refine wpAny_bind (wpAny_pure (wpAny_bind (wpAny_nsSet1 hN fun h3 n3 sb=>?_)))
 obtain⟨oD,es,ep,k1,k2,k3⟩:=n3.count (Within.cons name v hw)
 refine wpAny_bind (wpAny_lookBehind k1 (by rw[k2];exact pastItsLine_dict (ck k3 (by rw[sizeLine_eq,az];lia))) ?_)
 exact wpAny_pure (hq h3 _ n3 fun b ob n q=>(sb.2 b n).trans q)
theorem Ec {Q:Unit->Shared->Prop} (X:K.In h) (C:Bi K D) (hn:da K (.ref D) name=some none) (hx:h.get? a=some o) (hc:o.cls= .ref D) (hdt:o.data= .fields vs) (hd:o.dict=none)
  (hq:∀h' tk',h'.get? a=some {o with dict:=some h.objs.size}->h'.Ns1 h.objs.size (fun y=>if y=name then some v else none)->(∀b ob,b≠a->h.get? b=some ob->h'.get? b=some ob)->Q () ⟨h',g,d,tk',os⟩):
  wpAny (model prog w) A (setAttr (.ref a) name v) Q E ⟨h,g,d,t,os⟩:=by
 have f3:=eO.slot.bind (.ref a)
 have L:=dA (M:=model prog w) X C.sa
 unfold setAttr callSpecial? specialOf
 repeat(any_goals(first|assumption|(with_reducible refine wpAny_loadPart_at hx ?_;rw[hc])|(with_reducible refine L.at ?_)|wp_step))
 refine Eb X C hn hx hc hdt hd fun h' tk' k1 k2 k3=>?_
 repeat(any_goals(first|assumption|wp_step))
 exact hq h' tk' k1 k2 k3
theorem BQ {Q:Unit->Shared->Prop} {ns:List Str} (X:K.In h) (C:Bi K D) (hn:da K (.ref D) name=some none) (hx:h.get? a=some o) (hc:o.cls= .ref D) (hd:o.dict=some dx) (hN:h.Ns1 dx mA) (hne:dx≠a) (hw:Within mA ns) (hl:ns.length<=100)
  (hq:∀h' tk',h'.Ns1 dx (fun y=>if y=name then some v else mA y)->(∀b ob,b≠dx->h.get? b=some ob->h'.get? b=some ob)->Q () ⟨h',g,d,tk',os⟩):
  wpAny (model prog w) A (setAttr (.ref a) name v) Q E ⟨h,g,d,t,os⟩:=by
 have f3:=eO.slot.bind (.ref a)
 have L:=dA (M:=model prog w) X C.sa
 unfold setAttr callSpecial? specialOf
 repeat(any_goals(first|assumption|(with_reducible refine wpAny_loadPart_at hx ?_;rw[hc])|(with_reducible refine L.at ?_)|wp_step))
 refine BP X C hn hx hc hd hN hne hw hl fun h' tk' k1 k2=>?_
 repeat(any_goals(first|assumption|wp_step))
 exact hq h' tk' k1 k2
end
section
variable {prog:Program} {w:World} {A:Around} {E:EvP} {h:Heap} {g:Array GenState} {d:Drawn} {t:Nat} {os:OsState}
variable {nm q:Str} {C N:Addr} {bs bm bmB:List Value} {hdct:Bool} {sn:List Str} {sub:List Value} {ab:Bool} {col:Option Bool} {dd:Option Addr} {k0 k1 k2 k3 k5:Option Value} {B newId initId:String}
theorem Ed {mN:Str->Option Value} {rest:List Value} {fI:Addr} {oI:Obj} {Q:Fin->Shared->Prop} (F:ExcBaseFacts B newId initId bmB) (T:OwnTail h bmB bm)
  (eC:h.get? C=some (excClassObj nm q C N bs bm hdct sn sub ab col dd k0 k1 k2 k3 k5 newId)) (hn:h.Ns N mN) (hi:mN "__init__"=some (.ref fI)) (ho:h.get? fI=some oI) (hf:oI.cls= .type "function") (hl:rest.length<=sizeLine)
  (hq:∀h' e,Heap.MadeExcOf h h' e (.ref C) rest->wpAny (model prog w) A (call (.ref fI) (.ref e::rest)) (fun r s'=>r= .none/\Q (.done (.ret (.ref e))) s') E ⟨h',g,d,t,os⟩):
  wpAny (model prog w) A (Builtin.«type.__call__» ⟨.ref C::rest,[]⟩) Q E ⟨h,g,d,t,os⟩:=by
 repeat(first|with_reducible refine wpAny_loadPart_at eC ?_|with_reducible refine wpAny_madeBy_exc eC ?_|wp_step)
 refine codeAny_call_builtin_code (Code.quiet_builtin _ F.quiet) (wpAny_check_new_subT F T eC (codeAny_exc_new_subT F T eC ?_ hl))
 have up:∀b u,h.get? b=some u->((h.push {cls:= .type "tuple",data:= .seq rest.toArray}).push {cls:= .ref C,data:= .fields #[.ref h.objs.size,.none,.none,.none,.bool false,.none]}).get? b=some u:=fun b u e=>fS _ (fS _ e)
 have ee:((h.push {cls:= .type "tuple",data:= .seq rest.toArray}).push {cls:= .ref C,data:= .fields #[.ref h.objs.size,.none,.none,.none,.bool false,.none]}).get? (h.objs.size+ 1)=some {cls:= .ref C,data:= .fields #[.ref h.objs.size,.none,.none,.none,.bool false,.none]}:=by
  have z:=fO (h.push {cls:= .type "tuple",data:= .seq rest.toArray}) (o:={cls:= .ref C,data:= .fields #[.ref h.objs.size,.none,.none,.none,.bool false,.none]}) rfl
  rwa[fV]at z
 have et:((h.push {cls:= .type "tuple",data:= .seq rest.toArray}).push {cls:= .ref C,data:= .fields #[.ref h.objs.size,.none,.none,.none,.bool false,.none]}).get? h.objs.size=some {cls:= .type "tuple",data:= .seq rest.toArray}:=fS _ (fO _ rfl)
 show wpAny _ _ _ _ _ _
 generalize hg:(h.push {cls:= .type "tuple",data:= .seq rest.toArray}).push {cls:= .ref C,data:= .fields #[.ref h.objs.size,.none,.none,.none,.bool false,.none]}=h2 at up ee et
 have n2:h2.Ns N mN:=by
  obtain⟨o,es,ep,e,r⟩:=hn
  exact⟨o,es,ep,up _ _ e,r⟩
 have cc:(Value.ref C::bm).contains (.ref C)=true:=by simp
 unfold isInstance
 repeat(first|with_reducible refine wpAny_loadPart_at ee ?_|(with_reducible refine wpAny_isSubtype_exc (up _ _ eC) ?_;rw[cc])|wp_step)
 show wpAny _ _ (typeLookup (Value.ref C) _) _ _ _
 refine wpAny_typeLookup_tail (up _ _ eC) n2 (T.keeps up) F.mroIs F.init.lookup ?_
 rw[hi]
 refine wpAny_holding (wpAny_bind ?_);unfold bindSpecial
 refine wpAny_bind (wpAny_typeOf (T:="function") ⟨_,up _ _ ho,hf⟩ ?_)
 rw[gX (by decide)]
 refine wpAny_pure (wpAny_bind (wpAny_mono (hq h2 (h.objs.size+ 1) ⟨up,fQ (cx _),h.objs.size,ee,fQ (cq _),et⟩) (fun r s' hr=>?_) fun _ _ z=>z))
 obtain⟨rfl,hQ⟩:=hr
 wp_walk
 exact hQ
theorem Ee {mN:Str->Option Value} {rest:List Value} {fI:Addr} {oI:Obj} {Q:EvP} (F:ExcBaseFacts B newId initId bmB) (T:OwnTail h bmB bm)
  (eC:h.get? C=some (excClassObj nm q C N bs bm hdct sn sub ab col dd k0 k1 k2 k3 k5 newId)) (hn:h.Ns N mN) (hi:mN "__init__"=some (.ref fI)) (ho:h.get? fI=some oI) (hf:oI.cls= .type "function") (hl:rest.length<=sizeLine)
  (hq:∀h' e,Heap.MadeExcOf h h' e (.ref C) rest->wpAny (model prog w) (A.under (.builtin "type.__call__" ⟨.ref C::rest,[]⟩)) (call (.ref fI) (.ref e::rest)) (fun r s'=>r= .none/\Q (.ref e) s') E ⟨h',g,d,t,os⟩):
  wpAny (model prog w) A (call (.ref C) rest) Q E ⟨h,g,d,t,os⟩:=by
 have f1:=tc_lookup
 have f2:=tc_bind (.ref C)
 have ty:(⟨h,g,d,t,os⟩:Shared).TypeIs (.ref C) "type":=⟨_,eC,rfl⟩
 refine wpAny_call (codeAny_of_tree ?_)
 show wpAny _ _ (callAny (Value.ref C) _) _ _ _
 repeat(any_goals(first|assumption|with_reducible refine wpAny_loadPart_at eC ?_|wp_step))
 refine⟨rfl,?_⟩
 exact codeAny_call_builtin_at (Code.quiet_builtin _ gB) entry_typeCall (wpAny_check_type_call_sub eC (Ed F T eC hn hi ho hf hl fun h' e hm=>hq h' e hm))
end
section
variable {prog:Program} {w:World} {A:Around} {E:EvP} {s:Shared} {env:Env}
variable {nm q:Str} {C N:Addr} {bs bm bmB:List Value} {hdct:Bool} {sn:List Str} {sub:List Value} {ab:Bool} {col:Option Bool} {dd:Option Addr} {k0 k1 k2 k3 k5:Option Value} {B newId initId:String}
theorem Ef {x:Sem Value} {Q:Flow->Shared->Prop} (hb:bm.contains (.type "BaseException")=true) (hh:A.handled=none)
  (h:wpAny (model prog w) A x (fun v s1=>∃e oe,v= .ref e/\s1.heap.get? C=some (excClassObj nm q C N bs bm hdct sn sub ab col dd k0 k1 k2 k3 k5 newId)/\s1.heap.get? e=some oe/\oe.cls= .ref C/\(∃vs,oe.data= .fields vs/\vs[1]?=some .none)/\E (.ref e) s1) E s):
  wpAny (model prog w) A (raiseStmt env (some x) none) Q E s:=by
 have hB:(Value.ref C::bm).contains (.type "BaseException")=true:=by rw[List.contains_cons,hb];exact Bool.or_true _
 unfold raiseStmt
 refine wpAny_bind (wpAny_mono h (fun v s1 h1=>?_) fun _ _ z=>z)
 obtain⟨e,oe,rfl,eC,he,hc,⟨vs,hv,h1⟩,hE⟩:=h1
 obtain⟨hp,g,d,tk,os⟩:=s1
 obtain⟨oc,od,odt,osl⟩:=oe
 dsimp only at hc hv
 subst hc hv
 repeat(first|with_reducible refine wpAny_loadPart_at he ?_|with_reducible refine wpAny_loadPart_at eC ?_|(with_reducible refine wpAny_isSubtype_exc eC ?_;rw[hB])|wp_step)
 rw[h1]
 refine wpAny_pure ?_
 rw[gN (by decide)]
 exact wpAny_pure (wpAny_raiseNew_none hh hE)
theorem BR {mN:Str->Option Value} {x:Str} {np cpos pos:Pos} {args:List Expr} {Q:Flow->Shared->Prop} {fI:Addr} (F:ExcBaseFacts B newId initId bmB)
  (hb:bm.contains (.type "BaseException")=true) (hh:A.handled=none) (hp:(backTo cpos (starEach args env)).any (·.1)=false) (hi:mN "__init__"=some (.ref fI))
  (h:wpAny (model prog w) A (eval (.Name x np) env) (fun f s1=>f= .ref C/\wpAny (model prog w) A (evalArgs (.ref C) true (backTo cpos (starEach args env)) [])
   (fun a s2=>a.kw=[]/\a.pos.length<=sizeLine/\s2.heap.get? C=some (excClassObj nm q C N bs bm hdct sn sub ab col dd k0 k1 k2 k3 k5 newId)/\s2.heap.Ns N mN/\OwnTail s2.heap bmB bm/\(∃oI,s2.heap.get? fI=some oI/\oI.cls= .type "function")/\
    ∀h' e,Heap.MadeExcOf s2.heap h' e (.ref C) a.pos->wpAny (model prog w) (A.under (.builtin "type.__call__" ⟨.ref C::a.pos,[]⟩)) (call (.ref fI) (.ref e::a.pos)) (fun r s3=>r= .none/\s3.heap.get? C=some (excClassObj nm q C N bs bm hdct sn sub ab col dd k0 k1 k2 k3 k5 newId)/\(∃oe,s3.heap.get? e=some oe/\oe.cls= .ref C/\∃vs,oe.data= .fields vs/\vs[1]?=some .none)/\E (.ref e) s3) E {s2 with heap:=h'}) E s1) E s):
  wpAny (model prog w) A (exec (.Raise (some (.Call (.Name x np) args [] cpos)) none pos) env) Q E s:=by
 rw[arm_exec_Raise]
 refine wpAny_bind (wpAny_standAt (Ef (C:=C) (nm:=nm) (q:=q) (N:=N) (bs:=bs) (bm:=bm) (hdct:=hdct) (sn:=sn) (sub:=sub) (ab:=ab) (col:=col) (dd:=dd) (k0:=k0) (k1:=k1) (k2:=k2) (k3:=k3) (k5:=k5) (newId:=newId) hb hh ?_))
 refine wpAny_bind (wpAny_mono (wpAny_Call_ofName (wpAny_mono h (fun f s1 h1=>?_) fun _ _ z=>z)) (fun v s3 h3=>wpAny_bind (wpAny_standAt (wpAny_pure h3))) fun _ _ z=>z)
 obtain⟨rfl,h1⟩:=h1
 unfold callWith
 refine wpAny_bind (wpAny_holding (wpAny_mono h1 (fun a s2 h2=>wpAny_bind (wpAny_standAt ?_)) fun _ _ z=>z))
 obtain⟨ap,ak⟩:=a
 obtain⟨hk,hl,eC,hn,T,⟨oI,e1,e2⟩,h2⟩:=h2
 obtain rfl:ak=[]:=hk
 obtain⟨hp2,g,d,tk,os⟩:=s2
 simp only[hp]
 refine wpAny_bind (wpAny_keeperOf_exc eC ?_)
 refine wpAny_bind (Ee F T eC hn hi e1 e2 hl fun h' e hm=>wpAny_mono (h2 h' e hm) (fun r s3 z=>⟨z.1,?_⟩) fun _ _ z=>z)
 obtain⟨_,z1,⟨oe,z2,z3,z4⟩,z5⟩:=z
 exact wpAny_bind (wpAny_holding (wpAny_point (wpAny_pure ⟨e,oe,rfl,z1,z2,z3,z4,z5⟩)))
end
def Eg (a C:Addr):HO:= .ext fun h=>∃o vs,h.get? a=some o/\o.cls= .ref C/\o.dict=none/\o.data= .fields vs/\vs[1]?=some .none/\∃a0,vs[0]?=some a0
def yY (a C dx:Addr):HO:= .ext fun h=>∃o vs,h.get? a=some o/\o.cls= .ref C/\o.dict=some dx/\o.data= .fields vs/\vs[1]?=some .none/\∃a0,vs[0]?=some a0
def yC (a C dx:Addr):HO:= .ext fun h=>∃o vs,h.get? a=some o/\o.cls= .ref C/\o.dict=some dx/\o.data= .fields vs
def yZ (dx:Addr) (fs:List (Str×V)):HO:= .ext fun h=>fs.length<=50/\∃mA,h.Ns1 dx mA/\(∀f,qA (fs.lookup f) (mA f))/\Within mA (fs.map (·.1))
section
variable {P:Program} {w:World} {H:Hp} {h:Heap} {a C dx:Addr}
theorem Eh {o:Obj} {vs:Array Value} {a0:Value} (e:h.get? a=some o) (c:o.cls= .ref C) (d:o.dict=none) (t:o.data= .fields vs) (n:vs[1]?=some .none) (z:vs[0]?=some a0):iD P w H h a (Eg a C):=
 ⟨⟨o,vs,e,c,d,t,n,a0,z⟩,⟨o,e⟩,fun h1 h2 ⟨o1,v1,e1,r⟩ k=>⟨o1,v1,k o1 e1,r⟩⟩
theorem Ei {o:Obj} {vs:Array Value} {a0:Value} (e:h.get? a=some o) (c:o.cls= .ref C) (d:o.dict=some dx) (t:o.data= .fields vs) (n:vs[1]?=some .none) (z:vs[0]?=some a0):iD P w H h a (yY a C dx):=
 ⟨⟨o,vs,e,c,d,t,n,a0,z⟩,⟨o,e⟩,fun h1 h2 ⟨o1,v1,e1,r⟩ k=>⟨o1,v1,k o1 e1,r⟩⟩
theorem Ej {o:Obj} {vs:Array Value} (e:h.get? a=some o) (c:o.cls= .ref C) (d:o.dict=some dx) (t:o.data= .fields vs):iD P w H h a (yC a C dx):=
 ⟨⟨o,vs,e,c,d,t⟩,⟨o,e⟩,fun h1 h2 ⟨o1,v1,e1,r⟩ k=>⟨o1,v1,k o1 e1,r⟩⟩
theorem Ai {fs:List (Str×V)} {mA:Str->Option Value} (hl:fs.length<=50) (n:h.Ns1 dx mA) (r:∀f,qA (fs.lookup f) (mA f)) (wi:Within mA (fs.map (·.1))):iD P w H h dx (yZ dx fs):=by
 refine⟨⟨hl,mA,n,r,wi⟩,?_,fun h1 h2 ⟨hl,m1,n1,r1,w1⟩ k=>⟨hl,m1,?_,r1,w1⟩⟩
 ·obtain⟨o,es,ep,e,_⟩:=n
  exact⟨o,e⟩
 ·obtain⟨o,es,ep,e,z⟩:=n1
  exact⟨o,es,ep,k o e,z⟩
end
section
variable {X:Cx} {pz:AoL} {σ:St} {H:Hp} {s:Shared} {A:Around} {E:EvP} {a C dx:Addr} {f:Str} {fs:List (Str×V)}
theorem Inv.newAddr (I:Inv X pz σ H s) {b:Addr} (hb:s.heap.get? b=none):X.s₀.heap.get? b=none/\b≠X.env.locals/\(∀x c,X.env.cells.lookup x=some c->c≠b)/\(∀p∈X.pn++pz,p.1≠b)\/b∈X.ex:=by
 by_cases hx:b∈X.ex
 ·exact .inr hx
 refine .inl ⟨?_,?_,?_,?_⟩
 ·cases z:X.s₀.heap.get? b with
  |none=>rfl
  |some o=>
   obtain⟨o1,e1⟩:=I.base.there b o z hx
   rw[hb]at e1
   cases e1
 ·intro z
  obtain⟨m,⟨o,_,_,ho,_⟩,_⟩:=I.loc
  rw[<-z,hb]at ho
  cases ho
 ·intro x c e z
  obtain⟨v,o,ho,_⟩:=I.cell x c e
  rw[z,hb]at ho
  cases ho
 ·intro p hp z
  have e:=(I.pin p hp).1
  rw[z,hb]at e
  cases e
theorem Iw {y:V} {u:Value} {Q:Unit->Shared->Prop} (I:Inv X pz σ H s) (hex:X.ex=[]) (e:H a=some (Eg a C)) (c:Bi X.K C) (n:da X.K (.ref C) f=some none) (ry:iP y u)
  (h:∀dx s',H dx=none->dx≠a->Inv X pz σ (upd (upd H a (yY a C dx)) dx (yZ dx [(f,y)])) s'->Q () s'):wpAny (model X.prog X.w) A (setAttr (.ref a) f u) Q E s:=by
 obtain⟨⟨o,vs,eo,ec,ed,et,en,a0,e0⟩,_,_⟩:=(show iD X.prog X.w H s.heap a (Eg a C)from I.hok a _ e)
 obtain⟨hp,g,d,t,os⟩:=s
 have fr:H hp.objs.size=none:=I.hok.fresh (cq _)
 refine Ec I.kIn c n eo ec et ed fun h' tk' k1 k2 k3=>?_
 have na:hp.objs.size≠a:=(cj (fN eo)).symm
 have hn:hp.get? hp.objs.size=none:=fQ (cq _)
 have I1:Inv X pz σ (upd H a (yY a C hp.objs.size)) ⟨h',g,d,tk',os⟩:=I.write (x:=a) (e:=a) (by rw[e];exact True.intro) (.inl rfl) (fun b q hb z=>k3 b q hb z) ⟨_,k1⟩ (Ei k1 ec rfl et en e0)
 rcases I.newAddr hn with⟨z1,z2,z3,z4⟩|z
 ·refine h hp.objs.size _ fr na (I1.track (by rw[gw na];exact fr) z1 z2 z3 z4 (Ai (by show 1<=50;decide) k2 (fun g=>?_) ?_))
  ·show qA (aA g [(f,y)]) (if g=f then some u else none)
   by_cases q:g=f
   ·subst q
    rw[gX rfl,bf,beq_self_eq_true]
    exact ry
   ·rw[gN q,bf,show(g==f)=false from beq_eq_false_iff_ne.mpr q]
    trivial
  ·exact Within.cons f u Within.nil
 ·rw[hex]at z;cases z
theorem Iy {y:V} {u:Value} {Q:Unit->Shared->Prop} (I:Inv X pz σ H s) (e:H a=some (yY a C dx)) (ed:H dx=some (yZ dx fs)) (hne:dx≠a) (hl:fs.length<40) (c:Bi X.K C) (n:da X.K (.ref C) f=some none) (ry:iP y u)
  (h:∀s',Inv X pz σ (upd H dx (yZ dx (lE f y fs))) s'->Q () s'):wpAny (model X.prog X.w) A (setAttr (.ref a) f u) Q E s:=by
 obtain⟨⟨o,vs,eo,ec,edd,et,en,a0,e0⟩,_,_⟩:=(show iD X.prog X.w H s.heap a (yY a C dx)from I.hok a _ e)
 obtain⟨⟨_,mA,nA,r,wi⟩,_,_⟩:=(show iD X.prog X.w H s.heap dx (yZ dx fs)from I.hok dx _ ed)
 obtain⟨hp,g,d,t,os⟩:=s
 refine BQ I.kIn c n eo ec edd nA hne wi (by rw[aC];lia) fun h' tk' k1 k2=>h _ ?_
 have hd:∃o,h'.get? dx=some o:=let⟨o,_,_,e',_⟩:=k1;⟨o,e'⟩
 refine I.write (x:=dx) (e:=dx) (by rw[ed];exact True.intro) (.inl rfl) (fun b q hb z=>k2 b q hb z) hd (Ai ?_ k1 (fun g=>?_) fun g hg=>?_)
 ·have:=nF f y fs;lia
 ·show qA ((lE f y fs).lookup g) (if g=f then some u else mA g)
  rw[nE]
  by_cases q:g=f
  ·rw[gX q,gX q];exact ry
  ·rw[gN q,gN q];exact r g
 ·by_cases q:g=f
  ·rw[q];exact(mi f y fs).1
  ·refine(mi f y fs).2 g (wi g fun z=>hg ?_)
   show(if g=f then some u else mA g)=none
   rw[gN q];exact z
theorem getx {v:V} {ex:Bool} {Q:EvP} (I:Inv X pz σ H s) (e:H a=some (yC a C dx)) (ed:H dx=some (yZ dx fs)) (c:rL X.K C) (n:da X.K (.ref C) f=some none) (l:fs.lookup f=some v)
  (h:∀u s',Inv X pz σ H s'->iP v u->Q u s'):wpAny (model X.prog X.w) A (getAttr (.ref a) f ex) Q E s:=by
 obtain⟨⟨o,vs,eo,ec,edd,et⟩,_,_⟩:=(show iD X.prog X.w H s.heap a (yC a C dx)from I.hok a _ e)
 obtain⟨⟨_,mA,nA,r,wi⟩,_,_⟩:=(show iD X.prog X.w H s.heap dx (yZ dx fs)from I.hok dx _ ed)
 obtain⟨hp,g,d,t,os⟩:=s
 have rf:=r f
 rw[l]at rf
 obtain⟨u,hu,ru⟩:∃u,mA f=some u/\iP v u:=by
  cases z:mA f with
  |none=>rw[z]at rf;exact rf.elim
  |some u=>rw[z]at rf;exact⟨u,rfl,rf⟩
 exact Ea I.kIn c n eo ec (fun c z=>by rw[et]at z;cases z) edd nA.ns hu (ur ru) (h u _ (I.tok _) ru)
end
section
variable {X:Cx} {o value e:Expr} {ta tv:TE} {f:Str} {pos pos':Pos}
def Gh (K:PySem.W.Frag) (ta tv:TE) (f:Str):TS:=fun D σ H=>tv σ H fun y H1=>ta σ H1 fun x H2=>∃a C,x= .ref a/\H2 a=some (Eg a C)/\Bi K C/\da K (.ref C) f=some none/\∀dx,H2 dx=none->dx≠a->D.nx σ (upd (upd H2 a (yY a C dx)) dx (yZ dx [(f,y)]))
def Gj (K:PySem.W.Frag) (ta tv:TE) (f:Str):TS:=fun D σ H=>tv σ H fun y H1=>ta σ H1 fun x H2=>∃a C dx fs,x= .ref a/\H2 a=some (yY a C dx)/\H2 dx=some (yZ dx fs)/\dx≠a/\fs.length<40/\Bi K C/\da K (.ref C) f=some none/\D.nx σ (upd H2 dx (yZ dx (lE f y fs)))
theorem BS (hex:X.ex=[]) (ha:PE X o ta) (hv:PE X value tv) (hs:swapsWith value (some (.Attribute o f pos')) pos.line X.env=pure false):PS X (.Assign [.Attribute o f pos'] value pos) (Gh X.K ta tv f):=by
 intro pz s σ H D I h
 refine plainObj_wpAny_Assign_Attribute (thn (hv pz s σ H _ I h) fun u s1 ⟨y,H1,I1,ry,q⟩=>thn (ha pz s1 σ H1 _ I1 q) fun ov s2 ⟨x,H2,I2,rx,a,C,ex,ea,c,n,q2⟩=>?_) hs
 subst ex
 obtain rfl:ov=Value.ref a:=rx
 exact Iw I2 hex ea c n ry fun dx s3 h1 h2 I3=>⟨σ,_,I3,q2 dx h1 h2⟩
theorem xG (ha:PE X o ta) (hv:PE X value tv) (hs:swapsWith value (some (.Attribute o f pos')) pos.line X.env=pure false):PS X (.Assign [.Attribute o f pos'] value pos) (Gj X.K ta tv f):=by
 intro pz s σ H D I h
 refine plainObj_wpAny_Assign_Attribute (thn (hv pz s σ H _ I h) fun u s1 ⟨y,H1,I1,ry,q⟩=>thn (ha pz s1 σ H1 _ I1 q) fun ov s2 ⟨x,H2,I2,rx,a,C,dx,fs,ex,ea,ed,hne,hl,c,n,q2⟩=>?_) hs
 subst ex
 obtain rfl:ov=Value.ref a:=rx
 exact Iy I2 ea ed hne hl c n ry fun s3 I3=>⟨σ,_,I3,q2⟩
def Gk (K:PySem.W.Frag) (ta:TE) (f:Str):TE:=fun σ H Q=>ta σ H fun x H1=>∃a C dx fs v,x= .ref a/\H1 a=some (yC a C dx)/\H1 dx=some (yZ dx fs)/\rL K C/\da K (.ref C) f=some none/\fs.lookup f=some v/\Q v H1
theorem El (he:PE X e ta) (hb:attributeBase e f X.env (eval e X.env)=eval e X.env):PE X (.Attribute e f pos) (Gk X.K ta f):=by
 intro pz s σ H Q I h
 refine zp hb (thn (he pz s σ H _ I h) fun u s1 ⟨x,H1,I1,rx,a,C,dx,fs,v,ex,ea,ed,c,n,l,q⟩=>?_)
 subst ex
 obtain rfl:u=Value.ref a:=rx
 exact getx I1 ea ed c n l fun u' s2 I2 ru=>⟨v,H1,I2,ru,q⟩
end
def CXF (P:Program) (w:World):CXT:=fun outer H s E e s'=>∃(ea:Addr) (cls a0:Value) (B:Heap) (H':Hp) (dx:Addr),e= .ref ea/\Fl P w outer H s B H' s'/\Heap.FlyingW B outer ea cls a0 s'.heap/\(∃o,s'.heap.get? ea=some o/\o.dict=some dx)/\E cls (some dx) H'
def dr (H:Hp) (a:Addr):Hp:=fun b=>if b=a then none else H b
theorem sZ {H:Hp} {a b:Addr} (h:b≠a):dr H a b=H b:=gN h
theorem Aj {H:Hp} {a:Addr}:dr H a a=none:=gX rfl
theorem Ak {H:Hp} {a b:Addr} {u:HO} (h:dr H a b=some u):b≠a/\H b=some u:=by
 by_cases z:b=a
 ·rw[z,Aj]at h;cases h
 ·rw[sZ z]at h;exact⟨z,h⟩
theorem Gm {P:Program} {w:World} {H:Hp} {h:Heap} {a:Addr} {φ:Heap->Prop} (ok:HOk P w H h) (ha:H a=some (.ext φ)):HOk P w (dr H a) h:=fun b u e=>by
 obtain⟨n,e⟩:=Ak e
 refine(ok b u e).stay (fun _ _ _ q=>q) (fun c q=>?_) fun c xs q=>?_
 ·rw[sZ (fun z=>by rw[z,ha]at q;cases q)];exact q
 ·rw[sZ (fun z=>by rw[z,ha]at q;cases q)];exact q
theorem Iz {fs ex:List Addr} {H H':Hp} {h h':Heap} {a:Addr} {φ:Heap->Prop} (u:Un fs ex H H' h h') (ha:H' a=some (.ext φ)):Un fs ex H (dr H' a) h h':=by
 refine⟨u.keep,u.slot,fun b o e n hx=>?_,u.there,fun b xs q=>?_,fun b o x q=>?_,fun b ps q=>?_⟩
 ·have:=u.free b o e n hx
  by_cases z:b=a
  ·rw[z,Aj]
  ·rw[sZ z];exact this
 ·have q:=u.tups b xs q
  rw[sZ (fun z=>by rw[z,ha]at q;cases q)];exact q
 ·have q:=u.frzs b o x q
  rw[sZ (fun z=>by rw[z,ha]at q;cases q)];exact q
 ·obtain⟨m,q⟩:=u.tbls b ps q
  exact⟨m,by rw[sZ (fun z=>by rw[z,ha]at q;cases q)];exact q⟩
section
variable {P:Program} {w:World} {K:PySem.W.Frag} {mg:Str->Option Value} {base:Heap} {N:List Str} {qual:Str} {scope:Scope} {f:Addr} {cd:Value} {A:Around} {outer:List Env} {s₀:Shared} {H₀:Hp} {E:XK}
def vY (X:Cx) (E:XK):Prop:=∀(pz:AoL) (σ:St) (H1:Hp) (s1:Shared) (H3:Hp) (s3:Shared) (e C dx:Addr),Inv X pz σ H1 s1->s1.heap.get? e=none->s3.os=s1.os->AllBare s3.gens->Un (frs X.stack) [] H1 H3 s1.heap s3.heap->HOk X.prog X.w H3 s3.heap->H3 e=some (yY e C dx)->E (.ref C) (some dx) (dr H3 e)->X.xe (.ref e) s3
theorem Em:vY (qE (CXF P w) P w K mg base N qual scope f cd A outer s₀ H₀ E) E:=by
 intro pz σ H1 s1 H3 s3 e C dx I hn hos hba hun hok he q
 generalize hX:qE (CXF P w) P w K mg base N qual scope f cd A outer s₀ H₀ E=X at I hun hok
 have hst:X.stack=envOfC qual scope s₀.heap.objs.size f cd::outer:=by rw[<-hX];rfl
 obtain⟨⟨oe,vs,eo,ec,ed,et,en,a0,e0⟩,_,_⟩:=(show iD X.prog X.w H3 s3.heap e (yY e C dx)from hok e _ he)
 have un':=Iz hun he
 have hok':=Gm hok he
 have J:Inv X pz σ (dr H3 e) s3:=I.call' (ch:=[]) hos un' hok' hba (fun b hb=>nomatch hb)
 have B1:∀b o,s3.heap.get? b=some o->b≠e->b∉frs X.stack->(cQ s3.heap (e::frs X.stack)).get? b=some o:=fun b o x hb hf=>cR _ x fun z=>by
  rcases aj.mp z with z|z
  ·exact hb z
  ·exact hf z
 have F:Fl X.prog X.w X.stack H1 s1 (cQ s3.heap (e::frs X.stack)) (dr H3 e) s3:=by
  refine⟨hos,hba,un',hok',fun b o x=>cU _ x,fun b u x=>?_,fun b o x hb=>?_⟩
  ·obtain⟨ob,eb⟩:=(hok' b u x).there
   exact⟨ob,B1 b ob eb (Ak x).1 fun z=>by rw[J.stkFree b z]at x;cases x⟩
  ·obtain⟨o',x'⟩:=un'.there b o x (fun z=>nomatch z)
   exact⟨o',B1 b o' x' (fun z=>by rw[z,hn]at x;cases x) hb⟩
 have fr:s3.heap.FunFrames (cQ s3.heap (e::frs X.stack)) X.stack:=dP J.stack fun env he a ha=>ai _ (ax.mpr ⟨env,he,ha⟩)
 have hA:X.A.frames=some X.stack:=I.ok.frames
 rw[hst]at fr hA F B1
 subst hX
 show wpAny _ _ (leaving _ (.ref e)) _ _ _
 refine wpAny_mono (qo (yB _ _) (wpAny_leaving_firstW (a0:=a0) hA fr rfl eo (fun b o x=>cU _ x) (cW _ ah) et en e0 (Q:=fun _ s'=>∃h',s'={s3 with heap:=h'}/\Heap.LeftW (cQ s3.heap (e::frs (envOfC qual scope s₀.heap.objs.size f cd::outer))) (envOfC qual scope s₀.heap.objs.size f cd::outer) e oe.cls a0 s3.heap h') (E:=fun _ _=>False) fun h' hL=>⟨h',rfl,hL⟩)) (fun _ s' z=>?_) fun _ _ z=>z.1.elim
 obtain⟨⟨h',rfl,hL⟩,dk⟩:=z
 obtain⟨k1,⟨_,_,k2⟩,k3,k4⟩:=hL
 have J2:=I.flown F k1 (h:=h') k4
 obtain⟨o',eo',ed',_⟩:=dk e oe eo
 refine⟨e,oe.cls,a0,_,dr H3 e,dx,rfl,⟨J2.os,J2.bare,J2.base,J2.hok,k1,F.trk,fun b o x hb=>?_⟩,⟨k1,cW _ ah,k2,k3⟩,⟨o',eo',ed'.trans ed⟩,by rw[ec];exact q⟩
 obtain⟨o1,e1⟩:=I.base.there b o x (fun z=>nomatch z)
 exact F.old b o1 e1 (I.nst (I.oldNe x) hb)
end
theorem Eo {K:PySem.W.Frag} {h:Heap} {N:Addr} {m:Str->Option Value} {n:Str} {v:Value} (X:K.In h) (G:h.Ns N m) (z:dZ K N n=some (some v)):m n=some v:=by
 obtain⟨ob,en,ep,eo,ed,_,ef⟩:=G
 unfold dZ at z
 split at z
 case h_2=>cases z
 rename_i c1 d1 en' n1 sl1 lk
 have g:=X _ _ lk
 rw[eo]at g
 cases g
 cases ed
 split at z
 ·rename_i e1 fe
  cases z
  rw[<-ef]
  unfold nsFind findBy
  rw[<-Array.find?_toList,fe]
  rfl
 ·split at z<;>cases z
theorem Gn {fs:List Addr} {H:Hp} {h h':Heap} {a:Addr} {o:HO} (k:∀b u,h.get? b=some u->h'.get? b=some u) (hn:H a=none) (ha:h.get? a=none):Un fs [] H (upd H a o) h h':=by
 refine⟨fun b u q _ _ _=>k b u q,fun b u q _ _ _=>⟨u.slots,k b u q⟩,fun b u q n _=>?_,fun b u q _=>⟨u,k b u q⟩,fun b xs q=>?_,fun b u xs q=>?_,fun b ps q=>?_⟩
 ·rw[gw (fun z=>by rw[z,ha]at q;cases q)];exact n
 ·rw[gw (gr q hn)];exact q
 ·rw[gw (gr q hn)];exact q
 ·exact⟨#[],by rw[gw (gr q hn),q];simp⟩
structure IA (K:PySem.W.Frag) (C fI:Addr):Prop where
 at_:∃bm N nm q bs hdct sn sub ab col dd k0 k1 k2 k3 k5,K.lookup C=some (excClassObj nm q C N bs bm hdct sn sub ab col dd k0 k1 k2 k3 k5 "ValueError.__new__")/\eg K N=true/\dZ K N "__init__"=some (some (.ref fI))/\eA K CK bm=true
 fn:∃oI,K.lookup fI=some oI/\oI.cls= .type "function"
section
variable {X:Cx} {C fI:Addr} {E:XK} {x:Str} {np cpos pos:Pos} {e:Expr} {es:List Expr} {t:TA} {k:Nat} {fd:FuncData} {ps:List Str} {sp:Sp}
def Ep (C:Addr) (sp:Sp) (E:XK) (t:TA):TS:=fun _ σ H=>t σ H fun vs H1=>vs.length<=sizeLine/\∀e,H1 e=none->sp (.ref e::vs) (upd H1 e (Eg e C)) (fun v H3=>v= .non/\∃dx,H3 e=some (yY e C dx)/\E (.ref C) (some dx) (dr H3 e)) fun _ _ _=>False
theorem Am (hc:X.calm=true) (hex:X.ex=[]) (hl:vY X E) (xi:IA X.K C fI) (F:ow X.prog X.w X.K X.mg X.base CX0 k fI fd ps sp) (hr:lu (k+ 1) X.A) (hb:m9 X.K fd ps []) (hg:Gl X x) (hm:X.mg x=some (.ref C)) (ha:PA X (e::es) t)
  (hst:autoParam (starEach (e::es) X.env=(false,eval e X.env)::starEach es X.env) auR._auto_1) (hpl:autoParam ((backTo cpos (starEach es X.env)).any (·.1)=false) auR._auto_1) (hd:autoParam ((x==("__debug__":Str))=false) auD._auto_1):
  PS X (.Raise (some (.Call (.Name x np) (e::es) [] cpos)) none pos) (Ep C sp E t):=by
 intro pz s σ H D I h
 obtain⟨bm,N,nm,q,bs,hdct,sn,sub,ab,col,dd,k0,k1,k2,k3,k5,lk,no,ni,tl⟩:=xi.at_
 obtain⟨oI,lI,cI⟩:=xi.fn
 have kB:X.K.In X.base:=I.mod.kin
 have kp:∀{s1:Shared} {H1:Hp},Inv X pz σ H1 s1->∀b o,X.base.get? b=some o->s1.heap.get? b=some o:=fun I1=>I1.bk
 have NB:X.base.Ns N (X.base.nsMap N):= .of_isNs (dR kB no)
 have TB:OwnTail X.base CK bm:=dS kB tl
 refine BR (C:=C) (nm:=nm) (q:=q) (N:=N) (bs:=bs) (bm:=bm) (hdct:=hdct) (sn:=sn) (sub:=sub) (ab:=ab) (col:=col) (dd:=dd) (k0:=k0) (k1:=k1) (k2:=k2) (k3:=k3) (k5:=k5) (fI:=fI) (mN:=X.base.nsMap N)
  eM (TB.hasType eM.hasBase) (I.ok.hd hc) ?_ (Eo kB NB ni) (mf I hg hm ⟨rfl,?_⟩ hd)
 ·rw[hst]
  show(false||(backTo cpos (starEach es X.env)).any (·.1))=false
  rw[hpl]
  rfl
 have h2:=ha cpos pz s σ H _ I h
 rw[hst]at h2⊢
 refine Calls.evalArgs_plain (wpAny_mono h2 (fun us s1 h3=>?_) fun _ _ z=>z)
 obtain⟨vs,H1,I1,r,hz,q1⟩:=h3
 refine⟨rfl,by rw[<-r.length];exact hz,kp I1 _ _ (kB _ _ lk),NB.keeps (kp I1),TB.keeps (kp I1),⟨oI,kp I1 _ _ (kB _ _ lI),cI⟩,fun h' ea mx=>?_⟩
 obtain⟨tt,et,tn,te⟩:=mx.there
 have hn1:H1 ea=none:=by
  cases z:H1 ea with
  |none=>rfl
  |some u=>
   obtain⟨ob,eb⟩:=(I1.hok ea u z).there
   rw[mx.new]at eb
   cases eb
 obtain⟨z1,z2,z3,z4⟩:X.s₀.heap.get? ea=none/\ea≠X.env.locals/\(∀x c,X.env.cells.lookup x=some c->c≠ea)/\∀p∈X.pn++pz,p.1≠ea:=by
  rcases I1.newAddr mx.new with z|z
  ·exact z
  ·rw[hex]at z;cases z
 have I2:Inv X pz σ (upd H1 ea (Eg ea C)) {s1 with heap:=h',toks:=s1.toks}:=(I1.kept (t':=s1.toks) mx.keeps).track hn1 z1 z2 z3 z4 (Eh et rfl rfl rfl rfl rfl)
 have hq:=q1 ea hn1
 have r2:iO (V.ref ea::vs) (Value.ref ea::us):= .cons rfl r
 have hlen:(Value.ref ea::us).length=ps.length:=by rw[<-r2.length];exact F.len _ _ _ _ hq
 refine wpAny_call (codeAny_mono (F.run _ X.stack _ _ ⟨Value.ref ea::us,[]⟩ (Value.ref ea::us) _ _ _ (hr.make C us []) (I2.env0.make C us []) (by have z:=hb {s1 with heap:=h',toks:=s1.toks} (Value.ref ea::us) I2.kIn (by rw[aD];exact hlen);rw[aD]at z;exact z) r2 hq) fun rr s3 hq'=>?_)
 cases rr with
 |error ev=>exact hq'.elim
 |ok fl=>
  cases fl with
  |next=>exact False.elim hq'
  |brk=>exact False.elim hq'
  |cont=>exact False.elim hq'
  |ret u=>
   obtain⟨v,H3,o3,b3,un3,hok3,rv,ev,dx,e3,q3⟩:=hq'
   subst ev
   have un13:Un (frs X.stack) [] H1 H3 s1.heap s3.heap:=(Gn mx.keeps hn1 mx.new).trans un3
   have J3:Inv X pz σ H3 s3:=I1.call' (ch:=[]) o3 un13 hok3 b3 (fun b hb=>nomatch hb)
   obtain⟨⟨oe,ws,eo,ec,ed,et3,en,a0,e0⟩,_,_⟩:=(show iD X.prog X.w H3 s3.heap ea (yY ea C dx)from hok3 ea _ e3)
   exact⟨rv,kp J3 _ _ (kB _ _ lk),⟨oe,eo,ec,ws,et3,en⟩,hl pz σ H1 s1 H3 s3 ea C dx I1 mx.new o3 b3 un13 hok3 e3 q3⟩
end
section
variable {X:Cx} {Y:Addr} {y n:Str} {py hpos:Pos} {b₀:Stmt} {body:List Stmt} {tb:TS} {i:Nat}
variable {k j:Nat} {f:Addr} {fd:FuncData} {ps:List Str} {sp:Sp} {dvs:List V} {ds:List Value} {x v:Str} {p pv pos pos' tpos:Pos} {e:Expr} {es:List Expr} {t:TA}
end
open Builtin Builtin.ObjectAttr
theorem qL {K:PySem.W.Frag} (self:Value):∀{l:List Value},eA K CK l=true->refuseLoop self "__setattr__" l=pure ()
 |[],z=>by cases(beq_iff_eq.mp z:CK=[])
 |v::r,z=>by
  unfold eA at z
  rcases Bool.or_eq_true_iff.mp z with q|q
  ·rw[beq_iff_eq.mp q]
   exact eO.passes self
  ·split at q
   ·rename_i A
    rw[refuseLoop_ref]
    split at q
    ·rename_i c d cd sl lk
     rw[eZ]at q
     exact qL self q.2
    ·cases q
   ·cases q
section
variable {K:PySem.W.Frag} {C fI N:Addr} {nm q:Str} {bs bm:List Value} {sn:List Str} {sub:List Value} {ab:Bool} {col:Option Bool} {dd:Option Addr} {k0 k1 k2 k3 k5:Option Value} {oI:Obj}
theorem Gr (lk:K.lookup C=some (excClassObj nm q C N bs bm true sn sub ab col dd k0 k1 k2 k3 k5 "ValueError.__new__")) (tl:eA K CK bm=true) (xc:rL K C) (sa:da K (.ref C) "__setattr__"=some (some (.builtin "object.__setattr__"))):Bi K C:=by
 refine⟨xc,sa,_,by unfold dX;rw[lk],rfl,fun self=>?_⟩
 show refuseLoop self "__setattr__" (.ref C::bm)=pure ()
 rw[refuseLoop_ref]
 exact qL self tl
theorem Gs (lk:K.lookup C=some (excClassObj nm q C N bs bm true sn sub ab col dd k0 k1 k2 k3 k5 "ValueError.__new__")) (no:eg K N=true) (ni:dZ K N "__init__"=some (some (.ref fI))) (tl:eA K CK bm=true) (lI:K.lookup fI=some oI) (cI:oI.cls= .type "function"):IA K C fI:=
 ⟨⟨bm,N,nm,q,bs,true,sn,sub,ab,col,dd,k0,k1,k2,k3,k5,lk,no,ni,tl⟩,⟨oI,lI,cI⟩⟩
end
section
variable {P:Program} {w:World} {K:PySem.W.Frag} {mg:Str->Option Value} {base:Heap}
end
section
variable {prog:Program} {w:World} {A:Around} {E:EvP} {s:Shared}
end
section
variable {X:Cx}
end
section
variable {X:Cx}
end
section
variable {P:Program} {w:World} {K:PySem.W.Frag} {mg:Str->Option Value} {base:Heap} {N:List Str} {qual:Str} {scope:Scope} {f:Addr} {cd:Value} {A:Around} {outer:List Env} {s₀:Shared} {H₀:Hp} {E:XK}
end
section
variable {X:Cx} {i:Nat} {Y:Addr} {y n:Str} {py hpos:Pos} {b₀:Stmt} {body:List Stmt} {tb:TS}
variable {k:Nat} {f:Addr} {fd:FuncData} {ps:List Str} {sp:Sp} {dvs:List V} {ds:List Value} {x:Str} {p pos pos' tpos:Pos} {e:Expr} {es:List Expr} {t:TA}
theorem An:kT X (.builtin "isinstance") (fun xs H Q=>∃ea D dx v c b,xs=[.ref ea,v]/\(∀u,iP v u->u=c)/\H ea=some (yC ea D dx)/\rL X.K D/\dD X.K (.ref D) c=some b/\Q (.bl b) H):=by
 intro pz s σ H xs us Q I r h
 obtain⟨ea,D,dx,v,c,b,rfl,hc,he,C,hk,q⟩:=h
 obtain⟨u,u',rfl,ru,ru'⟩:=vI r
 cases hc u' ru'
 cases ru
 obtain⟨⟨o,vs,eo,ec,_,_⟩,_,_⟩:=(show iD X.prog X.w H s.heap ea (yC ea D dx)from I.hok ea _ he)
 exact dE (qm C) I.kIn ⟨o,eo,ec⟩ hk (fun z=>nomatch z) fun tk=>⟨.bl b,H,I.tok tk,rfl,q⟩
end
theorem vZ:∀{cs:List Addr} {us:List Value},iO (cs.map V.ref) us->us=cs.map Value.ref
 |[],_,.nil=>rfl
 |c::cs,_,.cons h hs=>by
  rw[vZ hs]
  cases(show _=Value.ref c from h)
  rfl
section
variable {X:Cx}
theorem yD:kT X (.builtin "isinstance") (fun xs H Q=>∃(ea D dx tp:Addr) (cs:List Addr) (b:Bool),xs=[.ref ea,.ref tp]/\H tp=some (.tup (cs.map V.ref))/\H ea=some (yC ea D dx)/\rL X.K D/\eB X.K (.ref D) (cs.map Value.ref)=some b/\Q (.bl b) H):=by
 intro pz s σ H xs us Q I r h
 obtain⟨ea,D,dx,tp,cs,b,rfl,htp,he,C,hk,q⟩:=h
 obtain⟨u,u',rfl,ru,ru'⟩:=vI r
 cases ru
 cases ru'
 obtain⟨_,its,rv,o,ho,hc,n,hd,_⟩:=(show iD X.prog X.w H s.heap tp (.tup (cs.map V.ref))from I.hok tp _ htp)
 cases vZ rv
 obtain⟨oc,od,odt,osl⟩:=o
 cases(show oc=_ from hc)
 cases(show odt=_ from hd)
 obtain⟨⟨o2,vs,eo,ec,_,_⟩,_,_⟩:=(show iD X.prog X.w H s.heap ea (yC ea D dx)from I.hok ea _ he)
 exact PySem.W.kia_tup (qm C) I.kIn ⟨o2,eo,ec⟩ ho hk (fun z=>nomatch z) fun tk=>⟨.bl b,H,I.tok tk,rfl,q⟩
end
def CXG (P:Program) (w:World):CXT:=fun outer H s E e s'=>∃(ea:Addr) (cls a0:Value) (B:Heap) (H':Hp) (od:Option Addr),e= .ref ea/\Fl P w outer H s B H' s'/\Heap.FlyingW B outer ea cls a0 s'.heap/\(∃o,s'.heap.get? ea=some o/\∀dx,od=some dx->o.dict=some dx)/\E cls od H'
theorem Gu {P:Program} {w:World} {outer:List Env} {H:Hp} {s:Shared} {E:XK} {e:Value} {s':Shared} (h:CXE P w outer H s E e s'):CXG P w outer H s E e s':=by
 obtain⟨ea,cls,a0,B,H',rfl,F,fl,q⟩:=h
 obtain⟨o,eo,_⟩:=fl.there
 exact⟨ea,cls,a0,B,H',none,rfl,F,fl,⟨o,eo,fun _ z=>nomatch z⟩,q⟩
theorem Gv {P:Program} {w:World} {outer:List Env} {H:Hp} {s:Shared} {E:XK} {e:Value} {s':Shared} (h:CXF P w outer H s E e s'):CXG P w outer H s E e s':=by
 obtain⟨ea,cls,a0,B,H',dx,rfl,F,fl,⟨o,eo,ed⟩,q⟩:=h
 exact⟨ea,cls,a0,B,H',some dx,rfl,F,fl,⟨o,eo,fun _ z=>by rw[<-z];exact ed⟩,q⟩
section
variable {P:Program} {w:World} {K:PySem.W.Frag} {mg:Str->Option Value} {base:Heap} {N:List Str} {qual:Str} {scope:Scope} {f:Addr} {cd:Value} {A:Around} {outer:List Env} {s₀:Shared} {H₀:Hp} {E:XK}
theorem CY {CX CX':CXT} {pz:AoL} {σ:St} {H:Hp} {s:Shared} (I:Inv (qE CX P w K mg base N qual scope f cd A outer s₀ H₀ E) pz σ H s):Inv (qE CX' P w K mg base N qual scope f cd A outer s₀ H₀ E) pz σ H s:=
 ⟨⟨I.ok.mod,I.ok.kind,I.ok.glob,I.ok.blt,I.ok.above,I.ok.inj,I.ok.has,I.ok.cab,I.ok.hd,I.ok.frames,I.ok.stk,I.ok.exf,I.ok.bs,I.ok.bsz,I.ok.noex,I.ok.exfs,I.ok.funs,I.ok.frf⟩,I.os,I.bare,I.base,I.loc,I.cell,I.free,I.freeC,I.pin,I.hok,I.len⟩
theorem xH:zO (qE (CXG P w) P w K mg base N qual scope f cd A outer s₀ H₀ E) E:=fun _ _ _ _ _ _ _ _ I hx q=>wpAny_mono (CJ (CY I) hx q) (fun _ _ z=>Gu z) fun _ _ z=>Gu z
theorem BU:vY (qE (CXG P w) P w K mg base N qual scope f cd A outer s₀ H₀ E) E:=fun pz σ H1 s1 H3 s3 e C dx I h1 h2 h3 h4 h5 h6 q=>wpAny_mono (Em pz σ H1 s1 H3 s3 e C dx (CY I) h1 h2 h3 h4 h5 h6 q) (fun _ _ z=>Gv z) fun _ _ z=>Gv z
theorem Fun.okG {x qual:Str} {st:Stmt} {f:Addr} {fd:FuncData} {N ps:List Str} {k:Nat} {sp:Sp} (F:Fun K x qual st f fd) (S:gy N ps (gu st)) (len:∀vs H Q E,sp vs H Q E->vs.length=ps.length)
  (hbody:∀(cdv:Value) (A:Around) (outer:List Env) (s:Shared) (H:Hp) (vs:List V) (Q:VK) (E:XK),lu k (A.deeper (envOfC qual (gu st) s.heap.objs.size f cdv))->sp vs H Q E->
   ∃t,PSs (qE (CXG P w) P w K mg base N qual (gu st) f cdv A outer s H E) (jG st) t/\t {nx:=fun _ H'=>Q .non H',rt:=Q} (ox N vs) H):ow P w K mg base (CXG P w) (k+ 1) f fd ps sp:=by
 obtain⟨oc,od,kV,doc,pm,an,cdv,ct,osl,efd,lk,hcd⟩:=F.ex
 subst efd
 exact DG lk hcd S len (fun A outer s H vs Q E hr h=>hbody cdv A outer s H vs Q E hr h)
end
def Gx (ea:Addr):Value->Option Addr->HO
 | .ref C,some dx=>yC ea C dx
 |cls,_=>BG ea cls
section
variable {X:Cx} {Y:Addr} {y n:Str} {py hpos:Pos} {b₀:Stmt} {body:List Stmt} {tb:TS} {i:Nat} {hs:List ExceptHandler} {R:md->St->XK}
structure Fly (X:Cx) (pz:AoL) (σ:St) (H':Hp) (ea:Addr) (cls a0:Value) (od:Option Addr) (B:Heap) (s:Shared):Prop where
 inv:∀{h:Heap},B.StaysIn h->s.heap.UpToSlots h->Inv X pz σ H' {s with heap:=h}
 fl:Heap.FlyingW B (X.env::X.outer) ea cls a0 s.heap
 od:∃o,s.heap.get? ea=some o/\∀dx,od=some dx->o.dict=some dx
 new:H' ea=none
 a1:X.s₀.heap.get? ea=none
 a2:ea≠X.env.locals
 a3:∀x c,X.env.cells.lookup x=some c->c≠ea
 a4:∀p∈X.pn++pz,p.1≠ea
def PH (X:Cx) (hs:List ExceptHandler) (R:md->St->XK):Prop:=∀(pz:AoL) (σ:St) (H':Hp) (ea:Addr) (cls a0:Value) (od:Option Addr) (B:Heap) (s:Shared) (D:md),Fly X pz σ H' ea cls a0 od B s->R D σ cls od H'->wpAny (model X.prog X.w) X.A (handleBy (.ref ea) X.env hs) (SP X pz D) X.xe s
theorem CZ:PH X [] fun _ _ _ _ _=>False:=fun _ _ _ _ _ _ _ _ _ _ _ h=>h.elim
theorem Fly.at {pz:AoL} {σ:St} {H':Hp} {ea:Addr} {cls a0:Value} {od:Option Addr} {B:Heap} {s:Shared} (F:Fly X pz σ H' ea cls a0 od B s):Inv X pz σ H' s:=F.inv (h:=s.heap) F.fl.1 (fun _ _ e _=>⟨_,e⟩)
theorem Fly.looks {pz:AoL} {σ:St} {H':Hp} {ea:Addr} {cls a0:Value} {od:Option Addr} {B:Heap} {s:Shared} (F:Fly X pz σ H' ea cls a0 od B s):PySem.W.Looks (model X.prog X.w) s.heap (typeOf (.ref ea)) cls:=by
 obtain⟨o,eo,ec⟩:=F.fl.there
 have z:PySem.W.Looks (model X.prog X.w) s.heap (typeOf (.ref ea)) o.cls:=(PySem.W.Looks.ld eo).andThen .now
 rw[ec]at z
 exact z
def hAs (K:PySem.W.Frag) (Y:Addr) (i:Nat) (tb:TS) (R:md->St->XK):md->St->XK:=fun D σ cls od H2=>∃b,eE K cls (.ref Y)=some b/\(b=true->∀ea,H2 ea=none->tb {nx:=fun σ' H'=>D.nx (σ'.set i none) H',rt:=D.rt,bk:=fun σ' H'=>D.bk (σ'.set i none) H',ct:=fun σ' H'=>D.ct (σ'.set i none) H'} (σ.set i (some (.ref ea))) (upd H2 ea (Gx ea cls od)))/\(b=false->R D σ cls od H2)
def hNo (K:PySem.W.Frag) (Y:Addr) (tb:TS) (R:md->St->XK):md->St->XK:=fun D σ cls od H2=>∃b,eE K cls (.ref Y)=some b/\(b=true->tb D σ H2)/\(b=false->R D σ cls od H2)
theorem Fly.lands {pz:AoL} {σ:St} {H':Hp} {ea:Addr} {cls a0:Value} {od:Option Addr} {B:Heap} {s:Shared} {A:Around} {Q:Unit->Shared->Prop} {E:EvP} (F:Fly X pz σ H' ea cls a0 od B s) (q:∀s6,Fly X pz σ H' ea cls a0 od B s6->Q () s6):wpAny (model X.prog X.w) A (setFlight (.ref ea) none) Q E s:=by
 refine wpAny_mono (qo (mw _ _) (lands_againW (Q:=fun _ s6=>∃h6,s6={s with heap:=h6}/\Heap.FlyingW B (X.env::X.outer) ea cls a0 h6/\s.heap.UpToSlots h6) (E:=fun _ _=>False) F.fl fun h6 a b=>⟨h6,rfl,a,b⟩)) (fun _ s6 z=>?_) fun _ _ z=>z.1.elim
 obtain⟨⟨h6,rfl,fl6,up6⟩,dk6⟩:=z
 obtain⟨o,eo,ed⟩:=F.od
 obtain⟨o6,x6,y6,_⟩:=dk6 ea o eo
 exact q _ ⟨fun a b=>F.inv a (up6.trans b),fl6,⟨o6,x6,fun dx z=>y6.trans (ed dx z)⟩,F.new,F.a1,F.a2,F.a3,F.a4⟩
theorem Er (hN:X.N.Nodup) (hi:X.N[i]?=some n) (hn:X.env.scope.names.lookup n=some .local) (hgY:Gl X y) (hmY:X.mg y=some (.ref Y)) (hb:∀ea,PSs (X.hand ea) (b₀::body) tb) (hr:PH X hs R) (hy:autoParam ((y==("__debug__":Str))=false) auD._auto_1):PH X (.ExceptHandler (some (.Name y py)) (some n) (b₀::body) hpos::hs) (hAs X.K Y i tb R):=by
 intro pz σ H' ea cls a0 od B s D F ⟨b,hm,q1,q2⟩
 have I5:=F.at
 refine wpAny_handleBy_cons (codeAny_handlers_test (mf (X:=X.hand ea) (I5.hand ea) hgY hmY ?_ hy)) (by intro z;cases z)
 refine(PySem.W.exm_one I5.kIn F.looks hm) _ _ _ _ (fun _ _ z=>z) ?_
 cases b with
 |false=>exact hr pz σ H' ea cls a0 od B s D F (q2 rfl)
 |true=>
  refine codeAny_handlers_suite_as ?_
  refine F.lands fun s6 F6=>?_
  obtain⟨oe,ws,eo6,ec6,ed6,_⟩:=F6.fl.first
  have ok:iD X.prog X.w (upd H' ea (Gx ea cls od)) s6.heap ea (Gx ea cls od):=by
   obtain⟨o,eo,hd⟩:=F6.od
   rw[eo6]at eo
   cases eo
   unfold Gx
   split
   ·exact Ej eo6 ec6 (hd _ rfl) ed6
   ·exact DS eo6 ec6
  have I7:Inv X pz σ (upd H' ea (Gx ea cls od)) s6:=F6.at.track F.new F.a1 F.a2 F.a3 F.a4 ok
  refine lD (X:=X.hand ea) (i:=i) (v:= .ref ea) (I7.hand ea) hN hi (.inl hn) rfl (fun s8 I8=>?_) (.inr hn)
  refine wpAny_mono (hb ea pz s8 _ _ _ I8 (q1 rfl ea F.new)) (fun fw s9 h9=>?_) fun _ _ z=>z.elim
  have fin:∀{σ9:St} {H9:Hp} (Z:Shared->Prop),Inv (X.hand ea) pz σ9 H9 s9->(∀s10,Inv X pz (σ9.set i none) H9 s10->Z s10)->wpAny (model X.prog X.w) X.A (do bindName X.env n .none;unbindBehindTheSuite X.env n hpos) (fun _ s10=>Z s10) X.xe s9:=
   fun Z I9 hz=>zN (I9.unhand I5.ok) hN hi hn hz
  cases fw with
  |next=>
   obtain⟨σ9,H9,I9,q9⟩:=h9
   exact fin (fun s10=>SP X pz D .next s10) I9 fun s10 I10=>⟨_,H9,I10,q9⟩
  |brk=>
   obtain⟨σ9,H9,I9,q9⟩:=h9
   exact fin (fun s10=>SP X pz D .brk s10) I9 fun s10 I10=>⟨_,H9,I10,q9⟩
  |cont=>
   obtain⟨σ9,H9,I9,q9⟩:=h9
   exact fin (fun s10=>SP X pz D .cont s10) I9 fun s10 I10=>⟨_,H9,I10,q9⟩
  |ret u=>
   obtain⟨v9,σ9,H9,I9,r9,q9⟩:=h9
   exact fin (fun s10=>SP X pz D (.ret u) s10) I9 fun s10 I10=>⟨v9,_,H9,I10,r9,q9⟩
theorem IB (hgY:Gl X y) (hmY:X.mg y=some (.ref Y)) (hb:∀ea,PSs (X.hand ea) (b₀::body) tb) (hr:PH X hs R) (hy:autoParam ((y==("__debug__":Str))=false) auD._auto_1):PH X (.ExceptHandler (some (.Name y py)) none (b₀::body) hpos::hs) (hNo X.K Y tb R):=by
 intro pz σ H' ea cls a0 od B s D F ⟨b,hm,q1,q2⟩
 have I5:=F.at
 refine wpAny_handleBy_cons (codeAny_handlers_test (mf (X:=X.hand ea) (I5.hand ea) hgY hmY ?_ hy)) (by intro z;cases z)
 refine(PySem.W.exm_one I5.kIn F.looks hm) _ _ _ _ (fun _ _ z=>z) ?_
 cases b with
 |false=>exact hr pz σ H' ea cls a0 od B s D F (q2 rfl)
 |true=>
  refine codeAny_handlers_suite ?_
  refine F.lands fun s6 F6=>?_
  refine wpAny_mono (hb ea pz s6 _ _ _ (F6.at.hand ea) (q1 rfl)) (fun fw s9 h9=>?_) fun _ _ z=>z.elim
  cases fw with
  |next=>
   obtain⟨σ9,H9,I9,q9⟩:=h9
   exact⟨_,H9,I9.unhand I5.ok,q9⟩
  |brk=>
   obtain⟨σ9,H9,I9,q9⟩:=h9
   exact⟨_,H9,I9.unhand I5.ok,q9⟩
  |cont=>
   obtain⟨σ9,H9,I9,q9⟩:=h9
   exact⟨_,H9,I9.unhand I5.ok,q9⟩
  |ret u=>
   obtain⟨v9,σ9,H9,I9,r9,q9⟩:=h9
   exact⟨v9,_,H9,I9.unhand I5.ok,r9,q9⟩
variable {k:Nat} {f:Addr} {fd:FuncData} {ps:List Str} {sp:Sp} {dvs:List V} {ds:List Value} {x:Str} {p pos pos' tpos:Pos} {e:Expr} {es:List Expr} {t:TA} {h₀:ExceptHandler}
theorem BV {pz:AoL} {σ:St} {H:Hp} {s s':Shared} {D:md} {ev:Value} (hfr:X.stack=X.env::X.outer/\X.env.frame=some X.env.locals) (hex:X.ex=[]) (hh:PH X hs R) (I:Inv X pz σ H s) (hx:CXG X.prog X.w X.stack H s (R D σ) ev s'):
  wpAny (model X.prog X.w) X.A (noteFrame ev X.env) (fun _ s2=>wpAny (model X.prog X.w) X.A (setFlight ev none) (fun _ s3=>wpAny (model X.prog X.w) X.A (handleBy ev X.env hs) (SP X pz D) X.xe s3) X.xe s2) X.xe s':=by
 obtain⟨ea,cls,a0,B,H',od,rfl,F,fl,⟨ob,eob,edb⟩,q⟩:=hx
 have hA:X.A.frames=some (X.env::X.outer):=by rw[<-hfr.1];exact I.ok.frames
 have fl':=fl
 rw[hfr.1]at fl'
 refine wpAny_mono (qo (Ag _ _) (wpAny_looks_onW (outer:=X.outer) (Q:=fun _ s2=>∃h4,s2={s' with heap:=h4}/\Heap.HeldW B (X.env::X.outer) ea cls a0 X.env.locals h4/\s'.heap.UpToSlots h4) (E:=fun _ _=>False) hA hfr.2 fl' fun h4 a b=>⟨h4,rfl,a,b⟩)) (fun _ s2 z=>?_) fun _ _ z=>z.1.elim
 obtain⟨⟨h4,rfl,held4,up4⟩,dk4⟩:=z
 refine wpAny_mono (qo (mw _ _) (wpAny_landsW (Q:=fun _ s3=>∃h5,s3={s' with heap:=h5}/\Heap.FlyingW B (X.env::X.outer) ea cls a0 h5/\h4.UpToSlots h5) (E:=fun _ _=>False) held4 fun h5 a b=>⟨h5,rfl,a,b⟩)) (fun _ s3 z=>?_) fun _ _ z=>z.1.elim
 obtain⟨⟨h5,rfl,fl5,up5⟩,dk5⟩:=z
 have I5:=I.flown F fl5.1 (up4.trans up5)
 obtain⟨oe,ws,eo5,ec5,ed5,_⟩:=fl5.first
 obtain⟨o5,x5,y5,_⟩:=(dk4.trans dk5) ea ob eob
 have Bn:B.get? ea=none:=fl5.2.1
 have hn':H' ea=none:=by
  cases z:H' ea with
  |none=>rfl
  |some u=>
   obtain⟨o1,e1⟩:=F.trk ea u z
   rw[Bn]at e1
   cases e1
 have nfr:ea∉frs X.stack:=fun z=>by
  obtain⟨_,o1,e1,hd⟩:=I5.stack.mem z
  have e2:h5.get? ea=some o1:=e1
  rw[eo5]at e2
  cases e2
  exact hd ws ed5
 have olds:s.heap.get? ea=none:=by
  cases z:s.heap.get? ea with
  |none=>rfl
  |some o=>
   obtain⟨o1,e1⟩:=F.old ea o z nfr
   rw[Bn]at e1
   cases e1
 obtain⟨z1,z2,z3,z4⟩:X.s₀.heap.get? ea=none/\ea≠X.env.locals/\(∀x c,X.env.cells.lookup x=some c->c≠ea)/\∀p∈X.pn++pz,p.1≠ea:=by
  rcases I.newAddr olds with z|z
  ·exact z
  ·rw[hex]at z;cases z
 exact hh pz σ H' ea cls a0 od B _ D ⟨fun{h} a b=>by have z:=I.flown F a ((up4.trans up5).trans (show h5.UpToSlots h from b));exact z,fl5,⟨o5,x5,fun dx z=>y5.trans (edb dx z)⟩,hn',z1,z2,z3,z4⟩ q
def IC (sp:Sp) (dvs:List V) (t:TA) (R:md->St->XK):TS:=fun D σ H=>t σ H fun vs H1=>sp (vs++dvs) H1 (fun _ H2=>D.nx σ H2) (R D σ)
theorem Ao (F:ow X.prog X.w X.K X.mg X.base (CXG X.prog X.w) k f fd ps sp) (hr:lu k X.A) (hg:Gl X x) (hm:X.mg x=some (.ref f)) (hk:dC X.K (.ref f)=true) (hbd:m9 X.K fd ps ds) (hd:iO dvs ds)
  (ha:PA X.nox (e::es) t) (hfr:X.stack=X.env::X.outer/\X.env.frame=some X.env.locals) (hex:X.ex=[]) (hh:PH X (h₀::hs) R)
  (hdb:autoParam ((x==("__debug__":Str))=false) auD._auto_1) (he:autoParam (starEach (e::es) X.env=(false,eval e X.env)::starEach es X.env) auR._auto_1) (hpl:autoParam ((backTo pos (starEach es X.env)).any (·.1)=false) auR._auto_1)
  (hsw:autoParam (swapsWith (.Call (.Name x p) (e::es) [] pos) none pos'.line X.env=pure false) auR._auto_1):
  PS X (.Try [.Expr (.Call (.Name x p) (e::es) [] pos) pos'] (h₀::hs) [] [] tpos) (IC sp dvs t R):=by
 intro pz s σ H D I h
 refine wpAny_Try_except (wpAny_execs_cons (wpAny_Expr_any (wpAny_Call_Name_kw (mf I hg hm ?_ hdb)) I.quiet hsw))
 refine dH (h₀:=X.base) I.ok.mod.kin hk (wpAny_mono (ha pos pz s σ H _ (I.wish _) h) (fun us s1 ⟨vs,H1,I1,r,q⟩=>⟨I1.kIn,?_⟩) fun _ _ z=>z.elim) he hpl
 have I1':Inv X pz σ H1 s1:=I1.unwish
 refine wpAny_mono (DT F hr hbd hd (fun ev s' hx=>BV hfr hex hh I1' hx) I1' r q) (fun u s2 ⟨v2,H2,I2,_,q2⟩=>?_) fun _ _ z=>z
 exact wpAny_execs_nil (wpAny_execs_nil ⟨σ,H2,I2,q2⟩)
theorem C0 {P:Program} {w:World} {X:Cx}:mj (CXG P w) X E0:=fun _ _ _ _ _ _ _ ⟨_,_,_,_,_,_,_,_,_,_,q⟩=>q.elim
theorem tj {K:PySem.W.Frag} {ta:TE} {f:Str} (hK:X.K=K) (he:PE X e ta) (hb:attributeBase e f X.env (eval e X.env)=eval e X.env):PE X (.Attribute e f pos) (Gk K ta f):=hK▸El he hb
theorem yE:kT X (.builtin "isinstance") (fun xs H Q=>∃(ea D tp:Addr) (cs:List Addr) (b:Bool),xs=[.ref ea,.ref tp]/\H tp=some (.tup (cs.map V.ref))/\H ea=some (BG ea (.ref D))/\rL X.K D/\eB X.K (.ref D) (cs.map Value.ref)=some b/\Q (.bl b) H):=by
 intro pz s σ H xs us Q I r h
 obtain⟨ea,D,tp,cs,b,rfl,htp,he,C,hk,q⟩:=h
 obtain⟨u,u',rfl,ru,ru'⟩:=vI r
 cases ru
 cases ru'
 obtain⟨_,its,rv,o,ho,hc,n,hd,_⟩:=(show iD X.prog X.w H s.heap tp (.tup (cs.map V.ref))from I.hok tp _ htp)
 cases vZ rv
 obtain⟨oc,od,odt,osl⟩:=o
 cases(show oc=_ from hc)
 cases(show odt=_ from hd)
 obtain⟨⟨o2,eo,ec⟩,_,_⟩:=(show iD X.prog X.w H s.heap ea (BG ea (.ref D))from I.hok ea _ he)
 exact PySem.W.kia_tup (qm C) I.kIn ⟨o2,eo,ec⟩ ho hk (fun z=>nomatch z) fun tk=>⟨.bl b,H,I.tok tk,rfl,q⟩
end
end L2.Internal
namespace L2.Internal
open PySem
structure Kts (K:PySem.W.Frag) (C c1 c2 b1 b2 b3 b4 b5:Addr):Prop where
 x:rL K C
 v:dD K (.ref C) (.type "ValueError")=some true
 c1:dD K (.ref C) (.ref c1)=some false
 c2:dD K (.ref C) (.ref c2)=some false
 b1:dD K (.ref C) (.ref b1)=some false
 b2:dD K (.ref C) (.ref b2)=some false
 b3:dD K (.ref C) (.ref b3)=some false
 b4:dD K (.ref C) (.ref b4)=some false
 b5:dD K (.ref C) (.ref b5)=some false
end L2.Internal
namespace L2.Internal
open PySem PySem.Spec PyProof.Rows
section
variable {X:Cx} {CX:CXT} {k:Nat} {E:XK} {c e:Expr} {es:List Expr} {tc:TE} {t:TA} {pos:Pos} {S:Addr->Sp->Prop}
def JR (X:Cx) (CX:CXT) (k:Nat) (f:Addr) (sp:Sp):Prop:=∃fd ps,ow X.prog X.w X.K X.mg X.base CX k f fd ps sp/\dC X.K (.ref f)=true/\m9 X.K fd ps []
def Gy (S:Addr->Sp->Prop) (E:XK) (tc:TE) (t:TA):TE:=fun σ H Q=>tc σ H fun x H1=>∃f sp,x= .ref f/\S f sp/\t σ H1 fun vs H2=>sp vs H2 Q E
theorem BW (hS:∀f sp,S f sp->JR X CX k f sp) (hr:lu k X.A) (hx:mj CX X E) (hc:PE X c tc) (ha:PA X (e::es) t)
  (hq:autoParam (eval (.Call c (e::es) [] pos) X.env=(do callWith pos (<-eval c X.env) [] (backTo pos (starEach (e::es) X.env)) (backToKw pos (keywordEach [] X.env)))) auR._auto_1)
  (he:autoParam (starEach (e::es) X.env=(false,eval e X.env)::starEach es X.env) auR._auto_1) (hpl:autoParam ((backTo pos (starEach es X.env)).any (·.1)=false) auR._auto_1):
  PE X (.Call c (e::es) [] pos) (Gy S E tc t):=by
 intro pz s σ H Q I h
 rw[hq]
 refine wpAny_bind (thn (hc pz s σ H _ I h) fun u s1 ⟨v,H1,I1,r1,f,sp,e1,hs,q1⟩=>?_)
 subst e1
 obtain rfl:u=Value.ref f:=r1
 obtain⟨fd,ps,F,hk,hb⟩:=hS f sp hs
 refine dH (h₀:=X.base) I1.ok.mod.kin hk (thn (ha pos pz s1 σ H1 _ I1 q1) fun us s2 ⟨vs,H2,I2,r,q⟩=>⟨I2.kIn,?_⟩) he hpl
 exact xg F hr hb .nil hx I2 r (by rw[aD];exact q)
end
end L2.Internal
namespace HT.Internal
open PySem PySem.Spec PyProof.Rows L2.Internal
section
variable {prog:Program} {w:World} {A:Around} {E:EvP} {s:Shared}
end
end HT.Internal
namespace L2.Internal
open PySem PySem.Spec PyProof.Rows
section
variable {X:Cx}
end
theorem Aq {X:Cx} {elt iter:Expr} {x y:Str} {j:Nat} {py spos:Pos} {es:List Expr} {kk:Nat} {tp:Pos} {scope:Scope} {pos:Pos} {N:List Str} {cl:List (Str×Addr)} {f:St->St} {i:Nat} {wi:TI} {g:TG} {te:TE}
  (hc:X.calm=true) (B:oz X N scope cl f i x) (hi:PI X (.Tuple es kk tp) iter wi)
  (hg:∀C s₀ H₀ ex pz,PG (blk X N scope cl C s₀ H₀ ex pz) (.Tuple es kk tp) g) (hte:∀C s₀ H₀ ex pz,PE (blk X N scope cl C s₀ H₀ ex pz) elt te)
  (hN:X.N.Nodup) (hj:X.N[j]?=some y) (hy:Loc X.env.scope y) (hsw:autoParam (swapsWith (.ListComp elt [⟨.Tuple es kk tp,iter,[],0⟩] scope pos) (some (.Name y py)) spos.line X.env=pure true) auR._auto_1) (hs:autoParam (∀x,foldedSetIterable iter X.env x=pure x) auI._auto_1)
  (hf:autoParam (X.fn y=true\/X.env.scope.names.lookup y=some .local) auL._auto_1):PS X (.Assign [.Name y py] (.ListComp elt [⟨.Tuple es kk tp,iter,[],0⟩] scope pos) spos) (Bo (tLG wi f g te) (ia j)):=by
 intro pz s σ H En I h
 rw[exec_Assign_Name_used _ _ _ _ hsw]
 refine wpAny_bind (wpAny_standAt (wpAny_bind ?_))
 show wpAny _ X.A (do let _<-comprehension (.ListComp elt [⟨.Tuple es kk tp,iter,[],0⟩] scope pos) scope X.env _ (newList []) false (eval iter X.env) (some (assign (.Name y py) X.env))) _ _ s
 refine wpAny_bind (wpAny_mono (xx (Qp:=fun _ s'=>SP X pz En .next s') hc B hi hg hte hs I h fun fl s3 s6 H3 H5 d m6 I3 I7 fr hn6 qn=>?_) (fun _ s' hq=>wpAny_pure (wpAny_pure hq)) fun _ _ e=>e)
 obtain⟨oC,es,ep,hoC,hdC,hkC⟩:=id hn6
 have hCL:s3.heap.objs.size≠X.env.locals:=cn I3.lt
 have I8:Inv X (pz++[(s3.heap.objs.size,oC)]) σ H5 s6:=I7.pins_of fun p hp=>(ao.mp hp).elim (fun z=>I7.pin p (ay _ z)) fun z=>by
  have ez:p=(s3.heap.objs.size,oC):=by simpa using z
  subst ez
  exact⟨hoC,fr,hCL,I3.nofs (cq _),fun v q=>by rw[hdC]at q;cases q⟩
 show wpAny _ X.A (assign (.Name y py) X.env (.ref d)) _ _ s6
 refine wpAny_assign_Name (lD (X:=X) I8 hN hj hy (v:= .ref d) rfl (fun s7 I9=>?_) hf)
 have pC:=I9.pin (s3.heap.objs.size,oC) (ay _ (ay _ (by simp)))
 refine⟨m6,⟨oC,es,ep,pC.1,hdC,hkC⟩,fun h' sb=>?_⟩
 refine⟨σ.set j (some (.ref d)),H5,?_,qn⟩
 exact Inv.turned (h':=h') (t':=s7.toks) (it:=s3.heap.objs.size) I9.unpinned (fun b o hb e=>(sb.2 b hb).trans e) pC.2.1 hCL (.inr I3.sz) (fun z c e q=>by
  obtain⟨v,q2⟩:=I3.cell z c e
  exact absurd (q▸q2.lt) (cg _)) fun p hp q=>absurd (q▸fN (I3.pin p hp).1) (cg _)
section
variable {prog:Program} {w:World} {A:Around} {E:EvP} {s:Shared}
end
section
variable {X:Cx} {pz:AoL} {σ:St} {H:Hp} {d it t:Addr} {vs:List V} {A:Around} {R:Result->Shared->Prop}
end
section
variable {X:Cx}
end
section
variable {X:Cx}
end
theorem yF {X:Cx}:kT X (.type "dict") (fun xs H Q=>∃(e:Addr) (kvs:List (Key×V)),xs=[.ref e]/\H e=some (.dK kvs)/\∀d,H d=none->Q (.ref d) (upd H d (.dK kvs))):=by
 intro pz s σ H xs us Q I r h
 obtain⟨e,kvs,rfl,he,q⟩:=h
 obtain⟨u,rfl,ru⟩:=m8 r
 cases ru
 obtain⟨z,hds,vs,rel,dd⟩:=vL I.hok he
 refine kt_call_dict hds dd (by rw[<-rel.length];exact z) fun h' hd' hs'=>?_
 have hb:=I.big
 have I1:Inv X pz σ (upd H s.heap.objs.size (.dK kvs)) {s with heap:=h'}:=by
  refine I.laid (t':=s.toks) (fun b u e=>?_) (cq _) (uH z (beq_false_of_ne (cn hb)) rel hd')
  rw[hs'.2 b (cj (fN e))]
  exact fS _ e
 exact⟨.ref s.heap.objs.size,_,I1,rfl,q _ (I.hok.fresh (cq _))⟩
end L2.Internal
namespace L2.Internal
abbrev Itzm:=Itg tS lS
end L2.Internal
namespace T1
open PySem
def sub (c:Nat) (z:List Nat) (l:List Nat):List Nat:=l.flatMap fun k=>if k=c then z else[k]
theorem mW (c:Nat) (z a b:List Nat):sub c z (a++b)=sub c z a++sub c z b:=List.flatMap_append ..
theorem tD (c:Nat) (z:List Nat):∀l:List Nat,¬c∈l->sub c z l=l
 |[],_=>rfl
 |k::r,h=>by
  have h1:¬k=c:=fun e=>h (e▸ah ..)
  have h2:¬c∈r:=fun m=>h (ai _ m)
  show(if k=c then z else[k])++sub c z r=k::r
  rw[gN h1,tD c z r h2]
  rfl
theorem Es (c:Nat) (z:List Nat):sub c z [c]=z:=by simp[sub]
theorem xI (c:Nat) (z:Str):∀parts:List Str,(∀p∈parts,¬c∈p.cps.toList)->sub c z.cps.toList (Str.join ⟨#[c]⟩ parts).cps.toList=(Str.join z parts).cps.toList
 |[],_=>rfl
 |[p],h=>tD c _ _ (h p (bb.mpr rfl))
 |p::q::r,h=>by
  have ih:=xI c z (q::r) fun a ha=>h a (ai _ ha)
  show sub c z.cps.toList (p++⟨#[c]⟩++Str.join ⟨#[c]⟩ (q::r)).cps.toList=(p++z++Str.join z (q::r)).cps.toList
  simp only[Str.cps_append,fz]
  rw[mW,mW,ih,tD c _ _ (h p (ah ..))]
  have e:sub c z.cps.toList [c]=z.cps.toList:=Es c _
  rw[e]
def cut (c:Nat):List Nat->List (List Nat)
 |[]=>[[]]
 |k::r=>if k=c then[]::cut c r else match cut c r with
  |h::t=>(k::h)::t
  |[]=>[[k]]
theorem xJ (c:Nat):∀l:List Nat,¬c∈l->cut c l=[l]
 |[],_=>rfl
 |k::r,h=>by
  have h1:¬k=c:=fun e=>h (e▸ah ..)
  have h2:¬c∈r:=fun m=>h (ai _ m)
  unfold cut
  rw[gN h1,xJ c r h2]
theorem xK (c:Nat):∀(p r:List Nat),¬c∈p->cut c (p++c::r)=p::cut c r
 |[],r,_=>by show(if c=c then[]::cut c r else _)=_;rw[gX rfl]
 |k::p,r,h=>by
  have h1:¬k=c:=fun e=>h (e▸ah ..)
  have h2:¬c∈p:=fun m=>h (ai _ m)
  show(if k=c then _ else match cut c (p++c::r)with|h::t=>(k::h)::t|[]=>[[k]])=_
  rw[gN h1,xK c p r h2]
theorem xM (c:Nat):∀parts:List Str,parts≠[]->(∀p∈parts,¬c∈p.cps.toList)->cut c (Str.join ⟨#[c]⟩ parts).cps.toList=parts.map (·.cps.toList)
 |[],h,_=>absurd rfl h
 |[p],_,h=>xJ c _ (h p (bb.mpr rfl))
 |p::q::r,_,h=>by
  have ih:=xM c (q::r) (by simp) fun a ha=>h a (ai _ ha)
  show cut c (p++⟨#[c]⟩++Str.join ⟨#[c]⟩ (q::r)).cps.toList=_
  simp only[Str.cps_append,fz]
  have e:p.cps.toList++[c]++(Str.join ⟨#[c]⟩ (q::r)).cps.toList=p.cps.toList++c::(Str.join ⟨#[c]⟩ (q::r)).cps.toList:=by simp
  show cut c (p.cps.toList++[c]++(Str.join ⟨#[c]⟩ (q::r)).cps.toList)=_
  rw[e,xK c _ _ (h p (ah ..)),ih]
  rfl
def step (a:List (List Nat)×List Nat) (k:Nat):List (List Nat)×List Nat:=
 if k=32 then(if a.2=[]then(a.1,[])else(a.1++[a.2],[]))else(a.1,a.2++[k])
def xN (l:List Nat):List (List Nat)×List Nat:=l.foldl step ([],[])
def all (a:List (List Nat)×List Nat):List (List Nat):=if a.2=[]then a.1 else a.1++[a.2]
theorem qM (a b:List Nat):xN (a++b)=b.foldl step (xN a):=by unfold xN;rw[List.foldl_append]
theorem Ar (c:Nat):∀l,cut c l≠[]
 |[]=>by simp[cut]
 |k::r=>by
  unfold cut
  split
  ·simp
  ·split<;>simp
theorem sr (c:Nat):∀l,cut c (l++[c])=cut c l++[[]]
 |[]=>by simp[cut]
 |k::r=>by
  have ih:=sr c r
  show(if k=c then[]::cut c (r++[c])else match cut c (r++[c])with|h::t=>(k::h)::t|[]=>[[k]])=(if k=c then[]::cut c r else match cut c r with|h::t=>(k::h)::t|[]=>[[k]])++[[]]
  rw[ih]
  split
  ·rfl
  ·cases e:cut c r with
   |nil=>exact absurd e (Ar c r)
   |cons h t=>rfl
theorem qp (c:Nat) {k:Nat} (hk:¬k=c):∀l (A:List (List Nat)) (b:List Nat),cut c l=A++[b]->cut c (l++[k])=A++[b++[k]]
 |[],A,b,h=>by
  have e:A=[]/\b=[]:=by
   cases A with
   |nil=>
    have h':[[]]=[b]:=h
    injection h' with h1 _
    exact⟨rfl,h1.symm⟩
   |cons x A=>
    have h':[[]]=x::(A++[b]):=h
    injection h' with _ h2
    simp at h2
  obtain⟨rfl,rfl⟩:=e
  show(if k=c then _ else match cut c []with|h::t=>(k::h)::t|[]=>[[k]])=_
  rw[gN hk]
  rfl
 |x::r,A,b,h=>by
  have h:(if x=c then[]::cut c r else match cut c r with|h::t=>(x::h)::t|[]=>[[x]])=A++[b]:=h
  show(if x=c then[]::cut c (r++[k])else match cut c (r++[k])with|h::t=>(x::h)::t|[]=>[[x]])=A++[b++[k]]
  by_cases e:x=c
  ·rw[gX e]at h⊢
   cases A with
   |nil=>
    have h':[]::cut c r=[b]:=h
    injection h' with _ h2
    exact absurd h2 (Ar c r)
   |cons y A=>
    have h':[]::cut c r=y::(A++[b]):=h
    injection h' with h1 h2
    rw[qp c hk r A b h2,<-h1]
    rfl
  ·rw[gN e]at h⊢
   cases q:cut c r with
   |nil=>exact absurd q (Ar c r)
   |cons g t=>
    rw[q]at h
    have h:(x::g)::t=A++[b]:=h
    cases A with
    |nil=>
     have h':(x::g)::t=[b]:=h
     injection h' with h1 h2
     rw[qp c hk r [] g (by rw[q,h2];rfl),<-h1]
     rfl
    |cons y A=>
     have h':(x::g)::t=y::(A++[b]):=h
     injection h' with h1 h2
     rw[qp c hk r (g::A) b (by rw[q,h2];rfl),<-h1]
     rfl
theorem BX (l:List Nat):∃A,cut 32 l=A++[(xN l).2]/\A.filter (fun p=>decide (p≠[]))=(xN l).1:=by
 suffices H:∀n (l:List Nat),l.length=n->∃A,cut 32 l=A++[(xN l).2]/\A.filter (fun p=>decide (p≠[]))=(xN l).1 from H _ l rfl
 intro n
 induction n with
 |zero=>
  intro l h
  have e:l=[]:=bI.mp h
  subst e
  exact⟨[],rfl,rfl⟩
 |succ n ih=>
  intro l h
  obtain⟨m,k,rfl⟩:∃m k,l=m++[k]:=by
   have hne:l≠[]:=by intro e;rw[e]at h;simp at h
   exact⟨l.dropLast,l.getLast hne,(bJ hne).symm⟩
  obtain⟨A,h1,h2⟩:=ih m (by simp at h;exact h)
  rw[qM]
  show ∃A,cut 32 (m++[k])=A++[(step (xN m) k).2]/\A.filter (fun p=>decide (p≠[]))=(step (xN m) k).1
  by_cases e:k=32
  ·subst e
   refine⟨A++[(xN m).2],?_,?_⟩
   ·rw[sr,h1]
    unfold step
    rw[gX rfl]
    split<;>rfl
   ·rw[bK,h2]
    unfold step
    rw[gX rfl]
    by_cases e2:(xN m).2=[]
    ·rw[gX e2,e2];simp
    ·rw[gN e2];simp[e2]
  ·refine⟨A,?_,?_⟩
   ·unfold step
    rw[gN e]
    exact qp 32 e m A _ h1
   ·unfold step
    rw[gN e]
    exact h2
theorem words_cut (l:List Nat):(cut 32 l).filter (fun p=>decide (p≠[]))=all (xN l):=by
 obtain⟨A,h1,h2⟩:=BX l
 rw[h1,bK,h2]
 unfold all
 by_cases e:(xN l).2=[]
 ·rw[gX e,e];simp
 ·rw[gN e];simp[e]
def ex (k:Nat):List Nat:=if k=40 then[32,40,32]else if k=41 then[32,41,32]else if k=10 then[32]else[k]
def spaced (l:List Nat):List Nat:=l.flatMap ex
theorem tE (a b:List Nat):spaced (a++b)=spaced a++spaced b:=List.flatMap_append ..
theorem spaced_sub:∀l:List Nat,sub 10 [32] (sub 41 [32,41,32] (sub 40 [32,40,32] l))=spaced l
 |[]=>rfl
 |k::r=>by
  have ih:=spaced_sub r
  have e:∀(c:Nat) (z:List Nat) (l:List Nat) (k:Nat),sub c z (k::l)=(if k=c then z else[k])++sub c z l:=fun _ _ _ _=>rfl
  have e2:spaced (k::r)=ex k++spaced r:=rfl
  rw[e,mW,mW,ih,e2]
  congr 1
  unfold ex
  by_cases h1:k=40
  ·rw[gX h1,gX h1];rfl
  ·rw[gN h1,gN h1]
   by_cases h2:k=41
   ·rw[gX h2,h2];rfl
   ·rw[gN h2,e,gN h2]
    show sub 10 [32] ([k]++[])=_
    rw[aD,e]
    by_cases h3:k=10
    ·rw[gX h3];rfl
    ·rw[gN h3];rfl
def W (l:List Nat):List (List Nat)×List Nat:=xN (spaced l)
theorem qq (a b:List Nat):W (a++b)=(spaced b).foldl step (W a):=by unfold W;rw[tE,qM]
theorem ID (a:List Nat) {k:Nat} (hk:k=32\/k=10):W (a++[k])=(all (W a),[]):=by
 rw[qq]
 have e:spaced [k]=[32]:=by rcases hk with e|e<;>subst e<;>rfl
 rw[e]
 show step (W a) 32=_
 unfold step all
 rw[gX rfl]
 split<;>rfl
theorem As (a:List Nat) {k:Nat} (hk:k=40\/k=41):W (a++[k])=(all (W a)++[[k]],[]):=by
 rw[qq]
 have e:spaced [k]=[32,k,32]:=by rcases hk with e|e<;>subst e<;>rfl
 have n32:¬k=32:=by lia
 rw[e]
 show step (step (step (W a) 32) k) 32=_
 have e1:step (W a) 32=(all (W a),[]):=by
  unfold step all
  rw[gX rfl]
  split<;>rfl
 rw[e1]
 show(if(32:Nat)=32 then(if(step (all (W a),[]) k).2=[]then((step (all (W a),[]) k).1,[])else((step (all (W a),[]) k).1++[(step (all (W a),[]) k).2],[]))else _)=_
 have e2:step (all (W a),[]) k=(all (W a),[k]):=by unfold step;rw[gN n32];rfl
 rw[gX rfl,e2]
 rfl
theorem IE (a:List Nat):∀p:List Nat,(∀k∈p,k≠32/\k≠10/\k≠40/\k≠41)->W (a++p)=((W a).1,(W a).2++p):=by
 intro p hp
 rw[qq]
 have e:spaced p=p:=by
  induction p with
  |nil=>rfl
  |cons k r ih=>
   obtain⟨h1,h2,h3,h4⟩:=hp k (ah ..)
   have e2:spaced (k::r)=ex k++spaced r:=rfl
   rw[e2,ih fun x hx=>hp x (ai _ hx)]
   unfold ex
   rw[gN h3,gN h4,gN h2]
   rfl
 rw[e]
 generalize W a=b
 induction p generalizing b with
 |nil=>show b=_;rw[aD]
 |cons k r ih=>
  obtain⟨h1,h2,h3,h4⟩:=hp k (ah ..)
  show r.foldl step (step b k)=_
  have e1:step b k=(b.1,b.2++[k]):=by unfold step;rw[gN h1]
  have e3:spaced r=r:=by
   have e2:spaced (k::r)=ex k++spaced r:=rfl
   have e4:ex k=[k]:=by unfold ex;rw[gN h3,gN h4,gN h2]
   rw[e2,e4]at e
   injection e
  rw[e1,ih (fun x hx=>hp x (ai _ hx)) e3]
  simp
open Builtin Builtin.Str
theorem replace_codes (x z:Str) (c:Nat):(Txt.replace x ⟨#[c]⟩ z).cps.toList=sub c z.cps.toList x.cps.toList:=by
 rw[StrLaws.replace_one,<-xI c z _ (StrLaws.split_free x c),StrLaws.join_split]
theorem BY (x y:Str):Txt.split x y≠[]:=by
 unfold Txt.split
 split
 ·simp
 ·split
  ·simp
  ·rename_i h
   cases e:occurrences x y 0 x.length (x.length+ 1)with
   |nil=>rw[e]at h;exact absurd rfl h
   |cons a r=>simp[partsBetween]
theorem split_codes (x:Str) (c:Nat):(Txt.split x ⟨#[c]⟩).map (·.cps.toList)=cut c x.cps.toList:=by
 have h:=xM c (Txt.split x ⟨#[c]⟩) (BY x _) (StrLaws.split_free x c)
 rw[StrLaws.join_split]at h
 exact h.symm
theorem flat_len (f:Nat->List Nat) (n:Nat) (h:∀k,(f k).length<=n):∀l:List Nat,(l.flatMap f).length<=n*l.length
 |[]=>by simp
 |k::r=>by
  rw[List.flatMap_cons,aN,az]
  have h1:=h k
  have h2:=flat_len f n h r
  rw[Nat.mul_succ]
  lia
theorem str_ext {x y:Str} (h:x.cps.toList=y.cps.toList):x=y:=by
 obtain⟨a⟩:=x
 obtain⟨b⟩:=y
 have e:a=b:=Array.toList_inj.mp h
 rw[e]
theorem len_codes (x:Str):x.cps.toList.length=x.length:=by rw[fq];rfl
theorem dig_len:∀(k m:Nat),m<10^(k+ 1)->(cB 10 m).length<=k+ 1:=by
 intro k
 induction k with
 |zero=>
  intro m h
  rw[cC (by simpa using h)]
  exact cq _
 |succ k ih=>
  intro m h
  by_cases h10:m<10
  ·rw[cC h10]
   show 1<=_
   lia
  ·have hm:m%10<10:=Nat.mod_lt m (by decide)
   have t:cB 10 (m/10)++cB 10 (m%10)=cB 10 (10*(m/10)+m%10):=cD (by decide) (by lia) hm
   rw[Nat.div_add_mod]at t
   rw[<-t,aN,cC hm]
   have hq:m/10<10^(k+ 1):=by
    rw[Nat.div_lt_iff_lt_mul (by decide)]
    rw[Nat.pow_succ]at h
    exact h
   have:=ih (m/10) hq
   show _+ 1<=_
   lia
end T1
namespace GR.Internal
open PySem L2.Internal
theorem sz {n:Nat} (h:n<=100000):n<=sizeLine:=ck h (by decide)
theorem gm {H:Hp} {p:Addr} (h:H p=none) (o:HO):gP H (upd H p o):=fun b u q=>by rw[gw (gr q h)];exact q
def wV (w:List Nat):V:= .str ⟨w.toArray⟩
def qN (l:List Nat):List V:=(T1.all (T1.W l)).map wV
theorem yG (l:List Nat):qN l=((T1.all (T1.W l)).map fun w=>(⟨w.toArray⟩:Str)).map V.str:=by
 unfold qN
 rw[bx]
 rfl
def KWV:List V:=[.str "def",.str "fn",.str "call",.str "let",.str "rec",.str "get",.str "tag",.str "case",.str "row",.str "at",.str "join",.str "size",.str "add",.str "sub",.str "less"]
def SM:Str:="abcdefghijklmnopqrstuvwxyz"
def FG:Str:="0123456789"
def allIn (x y:Str):Bool:=x.cps.toList.all fun c=>decide (c∈y.cps.toList)
def firstIn (x y:Str):Bool:=match x.cps.toList with
 |[]=>false
 |c::_=>decide (c∈y.cps.toList)
def isName (x:Str):Bool:=decide (1<=x.length)&&decide (x.length<=12)&&!inV (.str x) KWV&&firstIn x SM&&allIn x (SM++FG)
theorem first_of {x:Str} (h:1<=x.length):∃c r,x.cps.toList=c::r:=by
 have e:=T1.len_codes x
 cases q:x.cps.toList with
 |nil=>rw[q]at e;simp at e;lia
 |cons c r=>exact⟨c,r,rfl⟩
theorem at0 {c:Nat} {r:List Nat}:atI (c::r) (0:Int)=some c:=gv (j:=0) rfl
def qO (x:Str):Bool:=match x.cps.toList with
 |[]=>false
 |c::_=>c==48
def jn (x:Str):Bool:=decide (1<=x.length)&&decide (x.length<=60)&&allIn x FG&&(!qO x||decide (x="0"))
def uU (x:Str):Int:=(intText? x).getD 0
theorem Et (c:Nat):decide (V.str ⟨#[c]⟩=V.str "0")=(c==48):=by
 by_cases h:c=48
 ·subst h
  rfl
 ·have h1:¬V.str ⟨#[c]⟩=V.str "0":=fun z=>by
   injection z with z
   have e:(⟨#[c]⟩:Str).cps.toList=("0":Str).cps.toList:=by rw[z]
   have e2:[c]=[48]:=e
   injection e2 with e3 _
   exact h e3
  rw[iI h1]
  exact(beq_eq_false_iff_ne.mpr h).symm
theorem xO:∀c∈FG.cps.toList,48<=c/\c<=57:=gB
theorem allIn_mem {x y:Str} (h:allIn x y=true):∀c∈x.cps.toList,c∈y.cps.toList:=fun c hc=>of_decide_eq_true (bt.mp h c hc)
theorem yH {x:Str} (h1:1<=x.length) (h2:x.length<=100) (h:allIn x FG=true):intText? x=some (uU x):=by
 have hd:PySem.NumText.AllDigits x.cps.toList:=fun c hc=>xO c (allIn_mem h c hc)
 have hne:x.cps.toList≠[]:=by
  obtain⟨c,r,e⟩:=first_of h1
  rw[e]
  exact List.cons_ne_nil _ _
 have e:=PySem.intText_digits hd hne (by lia)
 unfold uU
 rw[e]
 rfl
theorem qP {x:Str} (h:jn x=true):1<=x.length/\x.length<=60/\allIn x FG=true:=by
 unfold jn at h
 simp only[eZ,decide_eq_true_eq]at h
 exact⟨h.1.1.1,h.1.1.2,h.1.2⟩
theorem Eu {n j:Nat} (h:j<n):ixN n (j:Int)=some j:=by
 unfold ixN
 rw[gX (by lia),gX (by lia)]
 simp
def fR (wl:Addr) (k:Int) (rl:Addr):List (Str×V):=[("words",.ref wl),("taken",.int k),("rows",.ref rl)]
theorem IF (wl:Addr) (k:Int) (rl:Addr):lE "rows" (.ref rl) (lE "taken" (.int k) (lE "words" (.ref wl) []))=fR wl k rl:=by
 have h1:¬(("words":Str)="taken"):=gB
 have h2:¬(("words":Str)="rows"):=gB
 have h3:¬(("taken":Str)="rows"):=gB
 simp only[lE,gN h1,gN h2,gN h3,fR]
theorem Gz (wl:Addr) (k j:Int) (rl:Addr):lE "taken" (.int j) (fR wl k rl)=fR wl j rl:=by
 have h1:¬(("words":Str)="taken"):=gB
 simp only[lE,fR,gN h1,gX]
theorem xP (wl:Addr) (k:Int) (rl:Addr):(fR wl k rl).lookup ("words":Str)=some (.ref wl):=by
 unfold fR
 rw[bf,show(("words":Str)=="words")=true by decide+kernel]
theorem tF (wl:Addr) (k:Int) (rl:Addr):(fR wl k rl).lookup ("taken":Str)=some (.int k):=by
 unfold fR
 rw[bf,show(("taken":Str)=="words")=false by decide+kernel,bf,show(("taken":Str)=="taken")=true by decide+kernel]
theorem tG (wl:Addr) (k:Int) (rl:Addr):(fR wl k rl).lookup ("rows":Str)=some (.ref rl):=by
 unfold fR
 rw[bf,show(("rows":Str)=="words")=false by decide+kernel,bf,show(("rows":Str)=="taken")=false by decide+kernel,bf,show(("rows":Str)=="rows")=true by decide+kernel]
theorem BZ (wl:Addr) (k:Int) (rl:Addr) {m:Str} (h1:(m=="words")=false) (h2:(m=="taken")=false) (h3:(m=="rows")=false):(fR wl k rl).lookup m=none:=by
 unfold fR
 rw[bf,h1,bf,h2,bf,h3]
 rfl
structure oF (C:Addr) (H:Hp) (p dx wl rl:Addr) (ws:List Str) (k:Nat) (rows:List V):Prop where
 ob:H p=some (.ins C dx (fR wl (k:Int) rl))
 wd:H wl=some (.lst (ws.map V.str))
 rw:H rl=some (.lst rows)
 ne:wl≠rl
structure WOk (ws:List Str):Prop where
 len:ws.length<=30000
 one:∀x∈ws,x≠""/\x.length<=30000/\∀c∈x.cps.toList,c<16^8
theorem oG {ws:List Str} (W:WOk ws) {x:Str} (h:x∈ws):(reprText x).length<=300002:=by
 obtain⟨_,h1,h2⟩:=W.one x h
 have:=StrLaws.reprText_len x h2
 lia
theorem Hw {a:Str} (h:a.length<=300002):(Str.empty++a).length<=sizeLine:=by
 have sl:=sizeLine_eq
 rw[Str.length_append]
 show 0+_<=_
 lia
theorem Ew {a b:Str} (h:a.length<=300002) (h2:b.length<=100):(Str.empty++a++b).length<=sizeLine:=by
 have sl:=sizeLine_eq
 rw[Str.length_append,Str.length_append]
 show 0+_+_<=_
 lia
theorem cat3 {a b c:Str} (h:a.length<=300002) (h2:b.length<=100) (h3:c.length<=300002):(Str.empty++a++b++c).length<=sizeLine:=by
 have sl:=sizeLine_eq
 rw[Str.length_append,Str.length_append,Str.length_append]
 show 0+_+_+_<=_
 lia
theorem JS {a b c d:Str} (h:a.length<=300002) (h2:b.length<=100) (h3:c.length<=300002) (h4:d.length<=100):(Str.empty++a++b++c++d).length<=sizeLine:=by
 have sl:=sizeLine_eq
 rw[Str.length_append,Str.length_append,Str.length_append,Str.length_append]
 show 0+_+_+_+_<=_
 lia
def fP (a b c:Addr):List (Str×V):=[("names",.ref a),("roots",.ref b),("rows",.ref c)]
theorem IG (a b c:Addr):lE "rows" (.ref c) (lE "roots" (.ref b) (lE "names" (.ref a) []))=fP a b c:=by
 have h1:¬(("names":Str)="roots"):=gB
 have h2:¬(("names":Str)="rows"):=gB
 have h3:¬(("roots":Str)="rows"):=gB
 simp only[lE,gN h1,gN h2,gN h3,fP]
theorem IH {c:Nat} (h1:48<=c) (h2:c<=57):c∈FG.cps.toList:=by
 have e:FG.cps.toList=[48,49,50,51,52,53,54,55,56,57]:=gB
 rw[e]
 have:c=48\/c=49\/c=50\/c=51\/c=52\/c=53\/c=54\/c=55\/c=56\/c=57:=by lia
 rcases this with rfl|rfl|rfl|rfl|rfl|rfl|rfl|rfl|rfl|rfl<;>decide
theorem str_fig {n:Int} {k:Nat} (h0:0<=n) (h1:n<10^(k+ 1)):(∀c∈(PySem.Str.ofString (toString n)).cps.toList,c∈FG.cps.toList)/\1<=(PySem.Str.ofString (toString n)).length/\(PySem.Str.ofString (toString n)).length<=k+ 1:=by
 obtain⟨m,rfl⟩:=fC h0
 have hm:m<10^(k+ 1):=by
  have z:((m:Nat):Int)<((10^(k+ 1):Nat):Int):=by rw[Int.natCast_pow];exact h1
  exact Int.ofNat_lt.mp z
 have e:=PySem.W.KIN.signs_num m
 have el:=T1.len_codes (PySem.Str.ofString (toString ((m:Nat):Int)))
 rw[e,aC]at el
 refine⟨fun c hc=>?_,?_,?_⟩
 ·rw[e]at hc
  obtain⟨ch,hch,rfl⟩:=aZ.mp hc
  obtain⟨r1,r2⟩:=PyProof.Rows.digit_range (Nat.isDigit_of_mem_toDigits (by decide) (by decide) hch)
  exact IH r1 r2
 ·have z:=PySem.toDigits_len_ge 10 m
  lia
 ·have z:=T1.dig_len k m hm
  lia
theorem GA {n:Int} (h0:0<=n) (h1:n<10^70):n.natAbs.log2<1920:=by
 by_cases hz:n.natAbs=0
 ·rw[hz]
  decide
 ·rw[Nat.log2_lt hz]
  have a:n.natAbs<10^70:=by lia
  exact cy a gB
theorem jh (x y:Str):(x++y).cps.toList=x.cps.toList++y.cps.toList:=by rw[Str.cps_append,fz]
theorem oF.ne1 {C p dx wl rl:Addr} {H:Hp} {ws:List Str} {k:Nat} {rows:List V} (R:oF C H p dx wl rl ws k rows):p≠wl:=ko R.ob R.wd (fun z=>nomatch z)
theorem oF.ne2 {C p dx wl rl:Addr} {H:Hp} {ws:List Str} {k:Nat} {rows:List V} (R:oF C H p dx wl rl ws k rows):p≠rl:=ko R.ob R.rw (fun z=>nomatch z)
theorem oF.next {C p dx wl rl:Addr} {H:Hp} {ws:List Str} {k:Nat} {rows:List V} (R:oF C H p dx wl rl ws k rows) (j:Nat):oF C (upd H p (.ins C dx (fR wl (j:Int) rl))) p dx wl rl ws j rows:=
 ⟨gh,by rw[gw (Ne.symm R.ne1)];exact R.wd,by rw[gw (Ne.symm R.ne2)];exact R.rw,R.ne⟩
theorem oF.same {C p dx wl rl:Addr} {H H':Hp} {ws:List Str} {k:Nat} {rows:List V} (R:oF C H p dx wl rl ws k rows) (S:gP H H'):oF C H' p dx wl rl ws k rows:=⟨S _ _ R.ob,S _ _ R.wd,S _ _ R.rw,R.ne⟩
theorem tn0 {σ:St} {H:Hp} {Q:List V->Hp->Prop} (h:Q [] H):se σ H Q:=h
theorem tc1 {v:V} {σ:St} {H:Hp} {Q:List V->Hp->Prop} (h:Q [v] H):iX (tC v) se σ H Q:=h
theorem iF (wl:Addr) (k:Int) (rl:Addr) (m:Str) (h:m="ahead"\/m="pass_over"\/m="take_name"\/m="take_expr"\/m="take"\/m="take_row"\/m="take_steady"\/m="take_fields"\/m="take_arms"\/m="take_things"\/m="take_form"):(fR wl k rl).lookup m=none:=by
 rcases h with rfl|rfl|rfl|rfl|rfl|rfl|rfl|rfl|rfl|rfl|rfl<;>exact BZ _ _ _ gB gB gB
theorem tH {H H':Hp} {p:Addr} (o:HO) (h:H p=none) (S:gP H H'):gP H (upd H' p o):=fun b u e=>by rw[gw (gr e h)];exact S b u e
abbrev Rs:=List Str×List Dt
def gM (pe:List Str->List Dt->Option Rs):List Bool->List Dt->List Str->List Dt->Option (List Dt×Rs)
 |[],acc,ws,rows=>some (acc,ws,rows)
 |true::ps,acc,ws,rows=>match ws with
  |[]=>none
  |x::r=>if isName x=true then gM pe ps (acc++[.flat (.str x)]) r rows else none
 |false::ps,acc,ws,rows=>match pe ws rows with
  |none=>none
  |some (r,rows')=>gM pe ps (acc++[.flat (.int (rows.length:Int))]) r rows'
def iW (item:List Str->List Dt->Option (Dt×Rs)) (ws:List Str) (rows acc:List Dt):Option (List Dt×Rs):=
 if ws.head?=some ")" then some (acc,ws,rows)else match item ws rows with
  |none=>none
  |some (d,r,rows')=>if h:r.length<ws.length then iW item r rows' (acc++[d])else none
termination_by ws.length
def iS (pe:List Str->List Dt->Option Rs) (ps:List Bool) (ws:List Str) (rows:List Dt):Option (Dt×Rs):=match gM pe ps [] ws rows with
 |none=>none
 |some (ds,r)=>some (.tup ds,r)
def kz (pe:List Str->List Dt->Option Rs) (ws:List Str) (rows:List Dt):Option (Dt×Rs):=match pe ws rows with
 |none=>none
 |some r=>some (.flat (.int (rows.length:Int)),r)
def chk (lo hi:Nat) (o:Option (List Dt×Rs)):Option (List Dt×Rs):=match o with
 |none=>none
 |some (l,r)=>if lo<=l.length/\l.length<=hi then some (l,r)else none
def stT:List (Str×List Bool):=[("fn",[true,false]),("call",[false,false]),("let",[true,false,false]),("get",[false,true]),("tag",[true,false]),("at",[false,false,false]),
 ("join",[false,false]),("size",[false]),("add",[false,false]),("sub",[false,false]),("less",[false,false])]
def stP (h:Str):Option (List Bool):=(stT.find? fun p=>decide (p.1=h)).map (·.2)
def ja (pe:List Str->List Dt->Option Rs) (h:Str) (ws:List Str) (rows:List Dt):Option (List Dt×Rs):=
 if h="rec" then match chk 0 6 (iW (iS pe [true,false]) ws rows [])with
  |none=>none
  |some (l,r)=>some ([.flat (.str "rec"),.tup l],r)
 else if h="case" then match pe ws rows with
  |none=>none
  |some (r1,rows1)=>match chk 1 6 (iW (iS pe [true,true,false]) r1 rows1 [])with
   |none=>none
   |some (l,r)=>some ([.flat (.str "case"),.flat (.int (rows.length:Int)),.tup l],r)
 else if h="row" then match chk 0 8 (iW (kz pe) ws rows [])with
  |none=>none
  |some (l,r)=>some ([.flat (.str "row"),.tup l],r)
 else match stP h with
  |none=>none
  |some ps=>match gM pe ps [] ws rows with
   |none=>none
   |some (ds,r)=>some (.flat (.str h)::ds,r)
def my (o:Option (List Dt×Rs)):Option (List Dt×Rs):=match o with
 |none=>none
 |some (ds,r,rows)=>match r with
  |[]=>none
  |y::r'=>if y=")" then some (ds,r',rows)else none
def sv (pe:List Str->List Dt->Option Rs) (ws:List Str) (rows:List Dt):Option (List Dt×Rs):=match ws with
 |[]=>none
 |x::r=>if jn x=true then some ([.flat (.str "num"),.flat (.int (uU x))],r,rows)
  else if isName x=true then some ([.flat (.str "name"),.flat (.str x)],r,rows)
  else if x="(" then(match r with
   |[]=>none
   |h::r2=>my (ja pe h r2 rows))
  else none
def gQ:Nat->List Str->List Dt->Option Rs
 |0,_,_=>none
 |f+ 1,ws,rows=>if rows.length=160 then none else match sv (gQ f) ws (rows++[.flat .non])with
  |none=>none
  |some (ds,r,rows')=>some (r,rows'.set rows.length (.tup ds))
def jr (ws:List Str) (rows:List Dt) (names:List Str) (roots:List Dt):Option (List Str×List Dt×List Dt):=match ws with
 |[]=>some (names,roots,rows)
 |[_]=>none
 |[_,_]=>none
 |a::b::c::r=>if a="("/\b="def"/\isName c=true then(match gQ 24 r rows with
   |none=>none
   |some (r2,rows2)=>match r2 with
    |[]=>none
    |y::r3=>if y=")" then(if h:r3.length<r.length+ 3 then jr r3 rows2 (names++[c]) (roots++[.flat (.int (rows.length:Int))])else none)else none)else none
termination_by ws.length
decreasing_by simp_wf;lia
def mz (ws:List Str):Option (List Str×List Dt×List Dt):=match jr ws [] [] []with
 |none=>none
 |some (n,r,rows)=>if 1<=n.length/\n.length<=12 then some (n,r,rows)else none
structure qc (ws:List Str) (rows:List Dt) (r:Rs):Prop where
 le:r.1.length<=ws.length
 up:rows.length<=r.2.length
 most:rows.length<=160->r.2.length<=160
 suf:∃u,ws=u++r.1
theorem qc.refl (ws:List Str) (rows:List Dt):qc ws rows (ws,rows):=⟨cq _,cq _,fun h=>h,[],rfl⟩
theorem qc.trans {ws:List Str} {rows:List Dt} {r s:Rs} (a:qc ws rows r) (b:qc r.1 r.2 s):qc ws rows s:=by
 obtain⟨u,e⟩:=a.suf
 obtain⟨v,e'⟩:=b.suf
 exact⟨ck b.le a.le,ck a.up b.up,fun h=>b.most (a.most h),u++v,by rw[bL,<-e',<-e]⟩
theorem qc.drop {x:Str} {r:List Str} {rows:List Dt}:qc (x::r) rows (r,rows):=⟨cx _,cq _,fun h=>h,[x],rfl⟩
def Bj (pe:List Str->List Dt->Option Rs):Prop:=∀ws rows r,pe ws rows=some r->qc ws rows r/\r.1.length<ws.length/\rows.length<r.2.length
theorem kA {pe:List Str->List Dt->Option Rs} (g:Bj pe):∀(ps:List Bool) (acc:List Dt) (ws:List Str) (rows ds:List Dt) (r:Rs),gM pe ps acc ws rows=some (ds,r)->qc ws rows r/\(ps≠[]->r.1.length<ws.length)/\ds.length=acc.length+ps.length
 |[],acc,ws,rows,ds,r,h=>by
  rw[gM]at h
  cases h
  exact⟨qc.refl _ _,fun z=>absurd rfl z,rfl⟩
 |true::ps,acc,[],rows,ds,r,h=>by
  rw[gM]at h
  cases h
 |true::ps,acc,x::ws,rows,ds,r,h=>by
  rw[gM]at h
  split at h
  ·obtain⟨s,_,l⟩:=kA g ps _ _ _ _ _ h
   have s':=(qc.drop (x:=x)).trans s
   refine⟨s',fun _=>?_,?_⟩
   ·have:=s.le
    simp only[az]
    lia
   ·simp only[aN,az,aR]at l⊢
    lia
  ·cases h
 |false::ps,acc,ws,rows,ds,r,h=>by
  rw[gM]at h
  split at h
  ·cases h
  ·rename_i r1 rows1 e
   obtain⟨s1,lt,_⟩:=g _ _ _ e
   obtain⟨s,_,l⟩:=kA g ps _ _ _ _ _ h
   refine⟨s1.trans s,fun _=>cz s.le lt,?_⟩
   simp only[aN,az,aR]at l⊢
   lia
def uV (item:List Str->List Dt->Option (Dt×Rs)):Prop:=∀ws rows d r,item ws rows=some (d,r)->qc ws rows r/\r.1.length<ws.length
theorem lB {pe:List Str->List Dt->Option Rs} (g:Bj pe) (ps:List Bool) (h:ps≠[]):uV (iS pe ps):=by
 intro ws rows d r e
 unfold iS at e
 split at e
 ·cases e
 ·rename_i ds r' e'
  cases e
  obtain⟨s,l,_⟩:=kA g ps _ _ _ _ _ e'
  exact⟨s,l h⟩
theorem oZ {pe:List Str->List Dt->Option Rs} (g:Bj pe):uV (kz pe):=by
 intro ws rows d r e
 unfold kz at e
 split at e
 ·cases e
 ·rename_i r' e'
  cases e
  obtain⟨s,l,_⟩:=g _ _ _ e'
  exact⟨s,l⟩
theorem pb {item:List Str->List Dt->Option (Dt×Rs)} (g:uV item) (ws:List Str) (rows acc:List Dt) (h:ws.head?≠some ")"):
  iW item ws rows acc=match item ws rows with
   |none=>none
   |some (d,r,rows')=>iW item r rows' (acc++[d]):=by
 rw[iW,gN h]
 cases e:item ws rows with
 |none=>rfl
 |some x=>
  obtain⟨d,r,rows'⟩:=x
  have l:=(g _ _ _ _ e).2
  show(if h:r.length<ws.length then _ else _)=_
  rw[dif_pos l]
theorem lO {item:List Str->List Dt->Option (Dt×Rs)} (ws:List Str) (rows acc:List Dt) (h:ws.head?=some ")"):iW item ws rows acc=some (acc,ws,rows):=by
 rw[iW,gX h]
theorem qQ {item:List Str->List Dt->Option (Dt×Rs)} (g:uV item):∀(n:Nat) (ws:List Str) (rows acc l:List Dt) (r:Rs),ws.length<=n->iW item ws rows acc=some (l,r)->qc ws rows r:=by
 intro n
 induction n with
 |zero=>
  intro ws rows acc l r hn h
  by_cases hh:ws.head?=some ")"
  ·rw[lO _ _ _ hh]at h
   cases h
   exact qc.refl _ _
  ·rw[pb g _ _ _ hh]at h
   split at h
   ·cases h
   ·rename_i d r' rows' e
    have l:=(g _ _ _ _ e).2
    lia
 |succ n ih=>
  intro ws rows acc l r hn h
  by_cases hh:ws.head?=some ")"
  ·rw[lO _ _ _ hh]at h
   cases h
   exact qc.refl _ _
  ·rw[pb g _ _ _ hh]at h
   split at h
   ·cases h
   ·rename_i d r' rows' e
    obtain⟨s,lt⟩:=g _ _ _ _ e
    exact s.trans (ih _ _ _ _ _ (by lia) h)
theorem tI {lo hi:Nat} {o:Option (List Dt×Rs)} {l:List Dt} {r:Rs} (h:chk lo hi o=some (l,r)):o=some (l,r)/\lo<=l.length/\l.length<=hi:=by
 unfold chk at h
 split at h
 ·cases h
 ·split at h
  ·cases h
   rename_i z
   exact⟨rfl,z⟩
  ·cases h
theorem Au {pe:List Str->List Dt->Option Rs} (g:Bj pe) {h:Str} {ws:List Str} {rows ds:List Dt} {r:Rs} (e:ja pe h ws rows=some (ds,r)):qc ws rows r:=by
 unfold ja at e
 split at e
 ·split at e
  ·cases e
  ·rename_i l r' e'
   cases e
   exact qQ (lB g _ (by simp)) _ _ _ _ _ _ (cq _) (tI e').1
 split at e
 ·split at e
  ·cases e
  ·rename_i r1 rows1 e1
   split at e
   ·cases e
   ·rename_i l r' e'
    cases e
    exact(g _ _ _ e1).1.trans (qQ (lB g _ (by simp)) _ _ _ _ _ _ (cq _) (tI e').1)
 split at e
 ·split at e
  ·cases e
  ·rename_i l r' e'
   cases e
   exact qQ (oZ g) _ _ _ _ _ _ (cq _) (tI e').1
 split at e
 ·cases e
 ·split at e
  ·cases e
  ·rename_i ds' r' e'
   cases e
   exact(kA g _ _ _ _ _ _ e').1
theorem yI {o:Option (List Dt×Rs)} {ds:List Dt} {r:Rs} {ws:List Str} {rows:List Dt} (h:∀ds' r',o=some (ds',r')->qc ws rows r') (e:my o=some (ds,r)):qc ws rows r:=by
 unfold my at e
 split at e
 ·cases e
 ·rename_i ds' r' rows'
  split at e
  ·cases e
  ·split at e
   ·cases e
    exact(h _ _ rfl).trans qc.drop
   ·cases e
theorem xQ {pe:List Str->List Dt->Option Rs} (g:Bj pe) {ws:List Str} {rows ds:List Dt} {r:Rs} (e:sv pe ws rows=some (ds,r)):qc ws rows r/\r.1.length<ws.length:=by
 unfold sv at e
 split at e
 ·cases e
 ·rename_i x ws'
  split at e
  ·cases e
   exact⟨qc.drop,cw _⟩
  split at e
  ·cases e
   exact⟨qc.drop,cw _⟩
  split at e
  ·split at e
   ·cases e
   ·rename_i hh h r2
    have s:=yI (fun ds' r' z=>Au g z) e
    have s2:=(qc.drop (x:=h)).trans s
    exact⟨(qc.drop (x:=x)).trans s2,cz s2.le (cw _)⟩
  ·cases e
theorem ji:∀f:Nat,Bj (gQ f)
 |0=>fun ws rows r e=>by rw[gQ]at e;cases e
 |f+ 1=>fun ws rows r e=>by
  rw[gQ]at e
  split at e
  ·cases e
  ·rename_i hne
   split at e
   ·cases e
   ·rename_i ds r' rows' e'
    cases e
    obtain⟨s,lt⟩:=xQ (ji f) e'
    have up:=s.up
    simp only[aN,az,aR]at up
    refine⟨⟨s.le,?_,fun h=>?_,s.suf⟩,lt,?_⟩
    ·show rows.length<=(rows'.set _ _).length
     rw[aV]
     lia
    ·show(rows'.set _ _).length<=160
     rw[aV]
     refine s.most ?_
     simp only[aN,az,aR]
     lia
    ·show rows.length<(rows'.set _ _).length
     rw[aV]
     lia
section
variable {pe:List Str->List Dt->Option Rs} {x:Str} {r:List Str} {rows:List Dt}
theorem wa (h:jn x=true):sv pe (x::r) rows=some ([.flat (.str "num"),.flat (.int (uU x))],r,rows):=by unfold sv;exact gX h
theorem tK (h1:¬jn x=true) (h:isName x=true):sv pe (x::r) rows=some ([.flat (.str "name"),.flat (.str x)],r,rows):=by unfold sv;exact(gN h1).trans (gX h)
theorem GB (h1:¬jn x=true) (h2:¬isName x=true) (h:¬x="("):sv pe (x::r) rows=none:=by unfold sv;exact(gN h1).trans ((gN h2).trans (gN h))
theorem wb {y:Str} (h1:¬jn x=true) (h2:¬isName x=true) (h:x="("):sv pe (x::y::r) rows=my (ja pe y r rows):=by unfold sv;exact(gN h1).trans ((gN h2).trans (gX h))
theorem B0 (h1:¬jn x=true) (h2:¬isName x=true) (h:x="("):sv pe [x] rows=none:=by unfold sv;exact(gN h1).trans ((gN h2).trans (gX h))
end
section
variable {rows:List Dt} {names:List Str} {roots:List Dt}
theorem defs_nil:jr [] rows names roots=some (names,roots,rows):=by rw[jr]
theorem B2 {ws:List Str} (h0:ws≠[]) (h:ws.head?≠some "("):jr ws rows names roots=none:=by
 match ws,h0,h with
 |[_],_,_=>rw[jr]
 |[_,_],_,_=>rw[jr]
 |a::b::c::r,_,h=>
  rw[jr,gN]
  exact fun z=>h (congrArg some z.1)
theorem B3 {r:List Str} (h:r.head?≠some "def"):jr ("("::r) rows names roots=none:=by
 match r,h with
 |[],_=>rw[jr]
 |[_],_=>rw[jr]
 |b::c::r,h=>
  rw[jr,gN]
  exact fun z=>h (congrArg some z.2.1)
theorem B4 {r:List Str} (h:∀x r',r=x::r'->isName x=false):jr ("("::"def"::r) rows names roots=none:=by
 match r,h with
 |[],_=>rw[jr]
 |c::r,h=>
  rw[jr,gN]
  intro z
  have:=h c r rfl
  rw[z.2.2]at this
  cases this
theorem B5 {c:Str} {r:List Str} (hc:isName c=true) (e:gQ 24 r rows=none):jr ("("::"def"::c::r) rows names roots=none:=by
 rw[jr,gX ⟨rfl,rfl,hc⟩,e]
theorem B6 {c:Str} {r r2:List Str} {rows2:List Dt} (hc:isName c=true) (e:gQ 24 r rows=some (r2,rows2)) (h:r2.head?≠some ")"):jr ("("::"def"::c::r) rows names roots=none:=by
 rw[jr,gX ⟨rfl,rfl,hc⟩,e]
 match r2,h with
 |[],_=>rfl
 |y::r3,h=>exact gN fun z=>h (congrArg some z)
theorem defs_yes {c:Str} {r r3:List Str} {rows2:List Dt} (hc:isName c=true) (e:gQ 24 r rows=some ((")":Str)::r3,rows2)):jr ("("::"def"::c::r) rows names roots=jr r3 rows2 (names++[c]) (roots++[.flat (.int (rows.length:Int))]):=by
 rw[jr,gX ⟨rfl,rfl,hc⟩,e]
 have l:((")":Str)::r3).length<r.length:=(ji 24 _ _ _ e).2.1
 have l2:r3.length<r.length+ 3:=by
  rw[az]at l
  lia
 show(if(")":Str)=")" then(if h:r3.length<r.length+ 3 then _ else _)else _)=_
 rw[gX rfl,dif_pos l2]
end
mutual
inductive TAt (K:PySem.W.Frag) (H:Hp):V->Dt->Prop where
 |flat {v:V} (h:nH v=true):TAt K H v (.flat v)
 |tup {a:Addr} {xs:List V} {ds:List Dt} (h:H a=some (.tup xs)) (hs:kW K H xs ds):TAt K H (.ref a) (.tup ds)
inductive kW (K:PySem.W.Frag) (H:Hp):List V->List Dt->Prop where
 |nil:kW K H [] []
 |cons {x:V} {d:Dt} {xs:List V} {ds:List Dt} (h:TAt K H x d) (hs:kW K H xs ds):kW K H (x::xs) (d::ds)
end
section
variable {K:PySem.W.Frag} {H H':Hp}
mutual
theorem TAt.mono (k:∀a xs,H a=some (.tup xs)->H' a=some (.tup xs)):∀{x:V} {d:Dt},TAt K H x d->TAt K H' x d
 |_,_,.flat h=> .flat h
 |_,_,.tup h hs=> .tup (k _ _ h) (kW.mono k hs)
theorem kW.mono (k:∀a xs,H a=some (.tup xs)->H' a=some (.tup xs)):∀{xs:List V} {ds:List Dt},kW K H xs ds->kW K H' xs ds
 |_,_,.nil=> .nil
 |_,_,.cons h hs=> .cons (TAt.mono k h) (kW.mono k hs)
end
theorem kW.length:∀{xs:List V} {ds:List Dt},kW K H xs ds->xs.length=ds.length
 |_,_,.nil=>rfl
 |_,_,.cons _ t=>by rw[az,az,kW.length t]
theorem kW.app:∀{xs ys:List V} {ds es:List Dt},kW K H xs ds->kW K H ys es->kW K H (xs++ys) (ds++es)
 |_,_,_,_,.nil,q=>q
 |_,_,_,_,.cons h t,q=> .cons h (kW.app t q)
theorem kW.snoc {xs:List V} {ds:List Dt} {x:V} {d:Dt} (a:kW K H xs ds) (b:TAt K H x d):kW K H (xs++[x]) (ds++[d]):=a.app (.cons b .nil)
theorem kW.set:∀{xs:List V} {ds:List Dt} {x:V} {d:Dt} (j:Nat),kW K H xs ds->TAt K H x d->kW K H (xs.set j x) (ds.set j d)
 |_,_,_,_,_,.nil,_=> .nil
 |_,_,_,_,0,.cons _ t,q=> .cons q t
 |_,_,_,_,j+ 1,.cons h t,q=> .cons h (kW.set j t q)
end
def K2 (p q:Addr) (H H':Hp):Prop:=∀b o,H b=some o->b≠p->b≠q->H' b=some o
theorem K2.refl (p q:Addr) (H:Hp):K2 p q H H:=fun _ _ e _ _=>e
theorem K2.trans {p q:Addr} {H H1 H2:Hp} (a:K2 p q H H1) (b:K2 p q H1 H2):K2 p q H H2:=fun c o e h1 h2=>b c o (a c o e h1 h2) h1 h2
theorem gP.k2 {p q:Addr} {H H':Hp} (s:gP H H'):K2 p q H H':=fun b o e _ _=>s b o e
theorem K2.upd1 {p q:Addr} {H H':Hp} (k:K2 p q H H') (o:HO):K2 p q H (upd H' p o):=fun b u e h1 h2=>by rw[gw h1];exact k b u e h1 h2
theorem K2.upd2 {p q:Addr} {H H':Hp} (k:K2 p q H H') (o:HO):K2 p q H (upd H' q o):=fun b u e h1 h2=>by rw[gw h2];exact k b u e h1 h2
theorem K2.sqT {K:PySem.W.Frag} {p q:Addr} {H H':Hp} {o1 o2:HO} (k:K2 p q H H') (h1:H p=some o1) (h2:H q=some o2) (n1:∀xs,o1≠ .tup xs/\∀o,o1≠ .frz o (.tup xs)) (n2:∀xs,o2≠ .tup xs/\∀o,o2≠ .frz o (.tup xs)) {a:Addr} {xs:List V} (s:SqT K H a xs):SqT K H' a xs:=by
 rcases s with s|s
 ·refine .inl ?_
  rcases s with s|⟨o,s⟩
  ·exact .inl (k _ _ s (ko s h1 (Ne.symm (n1 xs).1)) (ko s h2 (Ne.symm (n2 xs).1)))
  ·exact .inr ⟨o,k _ _ s (ko s h1 (Ne.symm ((n1 xs).2 o))) (ko s h2 (Ne.symm ((n2 xs).2 o)))⟩
 ·exact .inr s
def RS (K:PySem.W.Frag) (C:Addr) (H:Hp) (p dx wl rl:Addr) (ws rest:List Str) (rows:List Dt):Prop:=
 ∃k rv,oF C H p dx wl rl ws k rv/\ws.drop k=rest/\k<=ws.length/\kW K H rv rows
section
variable {K:PySem.W.Frag} {C p dx wl rl:Addr} {H H':Hp} {ws rest:List Str} {rows:List Dt}
theorem oF.sqT {k:Nat} {rv:List V} (R:oF C H p dx wl rl ws k rv) (kk:K2 p rl H H') {a:Addr} {xs:List V} (s:SqT K H a xs):SqT K H' a xs:=
 kk.sqT R.ob R.rw (fun _=>⟨(fun z=>nomatch z),fun _ z=>nomatch z⟩) (fun _=>⟨(fun z=>nomatch z),fun _ z=>nomatch z⟩) s
theorem oF.tpT {k:Nat} {rv:List V} (R:oF C H p dx wl rl ws k rv) (kk:K2 p rl H H') {a:Addr} {xs:List V} (s:H a=some (.tup xs)):H' a=some (.tup xs):=
 kk _ _ s (ko s R.ob (fun z=>nomatch z)) (ko s R.rw (fun z=>nomatch z))
theorem RS.tat (R:RS K C H p dx wl rl ws rest rows) (kk:K2 p rl H H') {x:V} {d:Dt} (t:TAt K H x d):TAt K H' x d:=by
 obtain⟨k,rv,R,_⟩:=R
 exact t.mono fun a xs s=>oF.tpT R kk s
theorem RS.tats (R:RS K C H p dx wl rl ws rest rows) (kk:K2 p rl H H') {xs:List V} {ds:List Dt} (t:kW K H xs ds):kW K H' xs ds:=by
 obtain⟨k,rv,R,_⟩:=R
 exact t.mono fun a xs s=>oF.tpT R kk s
theorem RS.same (R:RS K C H p dx wl rl ws rest rows) (s:gP H H'):RS K C H' p dx wl rl ws rest rows:=by
 obtain⟨k,rv,R,h1,h2,h3⟩:=R
 exact⟨k,rv,⟨s _ _ R.ob,s _ _ R.wd,s _ _ R.rw,R.ne⟩,h1,h2,h3.mono fun a xs t=>oF.tpT R (gP.k2 s) t⟩
theorem RS.other {a:Addr} {l:List V} {o:HO} (R:RS K C H p dx wl rl ws rest rows) (ha:H a=some (.lst l)) (n1:a≠p) (n2:a≠wl) (n3:a≠rl):RS K C (upd H a o) p dx wl rl ws rest rows:=by
 obtain⟨k,rv,R,h1,h2,h3⟩:=R
 refine⟨k,rv,⟨by rw[gw (Ne.symm n1)];exact R.ob,by rw[gw (Ne.symm n2)];exact R.wd,by rw[gw (Ne.symm n3)];exact R.rw,R.ne⟩,h1,h2,h3.mono fun b xs t=>?_⟩
 rw[gw (ko t ha (fun z=>nomatch z))]
 exact t
theorem kW.other {a:Addr} {l:List V} {o:HO} (ha:H a=some (.lst l)) {xs:List V} {ds:List Dt} (t:kW K H xs ds):kW K (upd H a o) xs ds:=t.mono fun b xs t=>by
 rw[gw (ko t ha (fun z=>nomatch z))]
 exact t
theorem kC {k:Nat} {x:Str} {r:List Str} (h:ws.drop k=x::r):ws[k]?=some x/\ws.drop (k+ 1)=r/\k<ws.length:=by
 have hk:k<ws.length:=by
  by_cases z:k<ws.length
  ·exact z
  ·rw[List.drop_of_length_le (by lia)]at h
   cases h
 rw[bD hk]at h
 injection h with h1 h2
 exact⟨by rw[bu hk,h1],h2,hk⟩
theorem tL {k:Nat} (h:ws.drop k=[]):ws[k]?=none:=by
 rw[bB]at h
 exact bG h
theorem RS.len (R:RS K C H p dx wl rl ws rest rows):∃rv,H rl=some (.lst rv)/\rv.length=rows.length:=by
 obtain⟨k,rv,R,_,_,t⟩:=R
 exact⟨rv,R.rw,t.length⟩
theorem RS.mem (R:RS K C H p dx wl rl ws rest rows):∀x∈rest,x∈ws:=by
 obtain⟨k,rv,_,h,_⟩:=R
 intro x hx
 rw[<-h]at hx
 exact bM hx
theorem RS.short (R:RS K C H p dx wl rl ws rest rows):rest.length<=ws.length:=by
 obtain⟨k,rv,_,h,_⟩:=R
 rw[<-h,aU]
 lia
theorem RS.ob (R:RS K C H p dx wl rl ws rest rows):∃k:Int,H p=some (.ins C dx (fR wl k rl)):=by
 obtain⟨k,rv,R,_⟩:=R
 exact⟨_,R.ob⟩
theorem uW {H:Hp} {a b:Addr} {l xs:List V} {o:HO} (ha:H a=some (.lst l)) (t:SqT K H b xs):SqT K (upd H a o) b xs:=by
 rcases t with t|t
 ·refine .inl ?_
  rcases t with t|⟨o',t⟩
  ·exact .inl (by rw[gw (ko t ha (fun z=>nomatch z))];exact t)
  ·exact .inr ⟨o',by rw[gw (ko t ha (fun z=>nomatch z))];exact t⟩
 ·exact .inr t
theorem RS.sqt (R:RS K C H p dx wl rl ws rest rows) (kk:K2 p rl H H') {a:Addr} {xs:List V} (t:SqT K H a xs):SqT K H' a xs:=by
 obtain⟨k,rv,R,_⟩:=R
 exact oF.sqT R kk t
theorem uX {p q a:Addr} {H H':Hp} {o:HO} (ha:H a=none) (k:K2 p q H H'):K2 p q H (upd H' a o):=fun b u e h1 h2=>by rw[gw (gr e ha)];exact k b u e h1 h2
theorem RS.apart {fl:Addr} (R:RS K C H p dx wl rl ws rest rows) (hfl:H fl=none):fl≠p/\fl≠rl/\fl≠wl:=by
 obtain⟨k,rv,R,_⟩:=R
 exact⟨Ne.symm (gr R.ob hfl),Ne.symm (gr R.rw hfl),Ne.symm (gr R.wd hfl)⟩
end
abbrev Pe:=List Str->List Dt->Option Rs
def Rd (p:Pe) (ok:Bool) (n:Nat) (ts:List Str):Prop:=∀(rest:List Str) (rows:List Dt),rows.length<=160->
 (ok=true->rows.length+n<=160->∃rows',p (ts++rest) rows=some (rest,rows')/\rows'.length=rows.length+n)/\(¬(ok=true/\rows.length+n<=160)->p (ts++rest) rows=none)
def SRd (pe:Pe) (ps:List Bool) (ok:Bool) (n:Nat) (ts:List Str):Prop:=∀(acc:List Dt) (rest:List Str) (rows:List Dt),rows.length<=160->
 (ok=true->rows.length+n<=160->∃ds rows',gM pe ps acc (ts++rest) rows=some (ds,rest,rows')/\rows'.length=rows.length+n)/\(¬(ok=true/\rows.length+n<=160)->gM pe ps acc (ts++rest) rows=none)
theorem SRd.nil {pe:Pe}:SRd pe [] true 0 []:=fun acc rest rows h=>⟨fun _ _=>⟨acc,rows,by rw[gM];rfl,rfl⟩,fun z=>absurd ⟨rfl,h⟩ z⟩
theorem SRd.name {pe:Pe} {ps:List Bool} {ok:Bool} {n:Nat} {ts:List Str} {x:Str} (hx:isName x=true) (r:SRd pe ps ok n ts):SRd pe (true::ps) ok n (x::ts):=fun acc rest rows h=>by
 have e:gM pe (true::ps) acc (x::ts++rest) rows=gM pe ps (acc++[.flat (.str x)]) (ts++rest) rows:=by
  rw[aQ,gM,gX hx]
 rw[e]
 exact r _ rest rows h
theorem SRd.expr {pe:Pe} {ps:List Bool} {ok1 ok2:Bool} {n1 n2:Nat} {t1 t2:List Str} (a:Rd pe ok1 n1 t1) (r:SRd pe ps ok2 n2 t2):SRd pe (false::ps) (ok1&&ok2) (n1+n2) (t1++t2):=fun acc rest rows h=>by
 have ea:t1++t2++rest=t1++(t2++rest):=bL ..
 obtain⟨y,no⟩:=a (t2++rest) rows h
 rw[ea]
 by_cases h1:ok1=true/\rows.length+n1<=160
 ·obtain⟨rows1,e1,l1⟩:=y h1.1 h1.2
  have e:gM pe (false::ps) acc (t1++(t2++rest)) rows=gM pe ps (acc++[.flat (.int (rows.length:Int))]) (t2++rest) rows1:=by rw[gM,e1]
  rw[e]
  obtain⟨y2,no2⟩:=r (acc++[.flat (.int (rows.length:Int))]) rest rows1 (by lia)
  refine⟨fun ho hn=>?_,fun z=>no2 fun z2=>z ⟨by rw[h1.1,z2.1];rfl,by lia⟩⟩
  rw[h1.1,fk]at ho
  obtain⟨ds,rows',e2,l2⟩:=y2 ho (by lia)
  exact⟨ds,rows',e2,by lia⟩
 ·have e1:=no h1
  refine⟨fun ho hn=>absurd ⟨(eZ _ _▸ho).1,by lia⟩ h1,fun _=>by rw[gM,e1]⟩
def MRd (item:List Str->List Dt->Option (Dt×Rs)) (ok:Bool) (n m:Nat) (ts:List Str):Prop:=∀(acc:List Dt) (rest:List Str) (rows:List Dt),rows.length<=160->
 (ok=true->rows.length+n<=160->∃ds rows',iW item (ts++(")":Str)::rest) rows acc=some (ds,(")":Str)::rest,rows')/\ds.length=acc.length+m/\rows'.length=rows.length+n)/\(¬(ok=true/\rows.length+n<=160)->iW item (ts++(")":Str)::rest) rows acc=none)
theorem MRd.nil {item:List Str->List Dt->Option (Dt×Rs)}:MRd item true 0 0 []:=fun acc rest rows h=>⟨fun _ _=>⟨acc,rows,lO _ _ _ rfl,rfl,rfl⟩,fun z=>absurd ⟨rfl,h⟩ z⟩
theorem MRd.cons {item:List Str->List Dt->Option (Dt×Rs)} (g:uV item) {ok1 ok2:Bool} {n1 n2 m:Nat} {t1 t2:List Str} {x:Str} {t:List Str} (ht:t1=x::t) (hx:x≠")")
  (a:∀(rest:List Str) (rows:List Dt),rows.length<=160->(ok1=true->rows.length+n1<=160->∃d rows',item (t1++rest) rows=some (d,rest,rows')/\rows'.length=rows.length+n1)/\(¬(ok1=true/\rows.length+n1<=160)->item (t1++rest) rows=none))
  (r:MRd item ok2 n2 m t2):MRd item (ok1&&ok2) (n1+n2) (m+ 1) (t1++t2):=fun acc rest rows h=>by
 have ea:t1++t2++(")":Str)::rest=t1++(t2++(")":Str)::rest):=bL ..
 have hh:(t1++(t2++(")":Str)::rest)).head?≠some ")":=by
  rw[ht]
  exact fun z=>hx (cH.inj z)
 obtain⟨y,no⟩:=a (t2++(")":Str)::rest) rows h
 rw[ea,pb g _ _ _ hh]
 by_cases h1:ok1=true/\rows.length+n1<=160
 ·obtain⟨d,rows1,e1,l1⟩:=y h1.1 h1.2
  rw[e1]
  obtain⟨y2,no2⟩:=r (acc++[d]) rest rows1 (by lia)
  refine⟨fun ho hn=>?_,fun z=>no2 fun z2=>z ⟨by rw[h1.1,z2.1];rfl,by lia⟩⟩
  rw[h1.1,fk]at ho
  obtain⟨ds,rows',e2,l2,l3⟩:=y2 ho (by lia)
  refine⟨ds,rows',e2,?_,by lia⟩
  rw[aN]at l2
  have:[d].length=1:=rfl
  lia
 ·rw[no h1]
  exact⟨fun ho hn=>absurd ⟨(eZ _ _▸ho).1,by lia⟩ h1,fun _=>rfl⟩
theorem GC {pe:Pe} {ps:List Bool} {ok:Bool} {n:Nat} {ts:List Str} (s:SRd pe ps ok n ts):∀(rest:List Str) (rows:List Dt),rows.length<=160->(ok=true->rows.length+n<=160->∃d rows',iS pe ps (ts++rest) rows=some (d,rest,rows')/\rows'.length=rows.length+n)/\(¬(ok=true/\rows.length+n<=160)->iS pe ps (ts++rest) rows=none):=fun rest rows h=>by
 obtain⟨y,no⟩:=s [] rest rows h
 refine⟨fun ho hn=>?_,fun z=>by rw[iS,no z]⟩
 obtain⟨ds,rows',e,l⟩:=y ho hn
 exact⟨_,rows',by rw[iS,e],l⟩
theorem GD {pe:Pe} {ok:Bool} {n:Nat} {ts:List Str} (s:Rd pe ok n ts):∀(rest:List Str) (rows:List Dt),rows.length<=160->(ok=true->rows.length+n<=160->∃d rows',kz pe (ts++rest) rows=some (d,rest,rows')/\rows'.length=rows.length+n)/\(¬(ok=true/\rows.length+n<=160)->kz pe (ts++rest) rows=none):=fun rest rows h=>by
 obtain⟨y,no⟩:=s rest rows h
 refine⟨fun ho hn=>?_,fun z=>by rw[kz,no z]⟩
 obtain⟨rows',e,l⟩:=y ho hn
 exact⟨_,rows',by rw[kz,e],l⟩
def FRd (pe:Pe) (h:Str) (ok:Bool) (n:Nat) (ts:List Str):Prop:=∀(rest:List Str) (rows:List Dt),rows.length<=160->
 (ok=true->rows.length+n<=160->∃ds rows',ja pe h (ts++(")":Str)::rest) rows=some (ds,(")":Str)::rest,rows')/\rows'.length=rows.length+n)/\(¬(ok=true/\rows.length+n<=160)->ja pe h (ts++(")":Str)::rest) rows=none)
theorem FRd.steady {pe:Pe} {h:Str} {ps:List Bool} {ok:Bool} {n:Nat} {ts:List Str} (h1:¬h="rec") (h2:¬h="case") (h3:¬h="row") (hp:stP h=some ps) (s:SRd pe ps ok n ts):FRd pe h ok n ts:=fun rest rows hr=>by
 have e:ja pe h (ts++(")":Str)::rest) rows=match gM pe ps [] (ts++(")":Str)::rest) rows with
   |none=>none
   |some (ds,r)=>some (.flat (.str h)::ds,r):=by
  rw[ja,gN h1,gN h2,gN h3,hp]
  all_goals rfl
 obtain⟨y,no⟩:=s [] ((")":Str)::rest) rows hr
 refine⟨fun ho hn=>?_,fun z=>by rw[e,no z]⟩
 obtain⟨ds,rows',e2,l⟩:=y ho hn
 exact⟨_,rows',by rw[e,e2],l⟩
theorem FRd.rowd {pe:Pe} {ok:Bool} {n m:Nat} {ts:List Str} (s:MRd (kz pe) ok n m ts):FRd pe "row" (ok&&decide (m<=8)) n ts:=fun rest rows hr=>by
 have e:ja pe "row" (ts++(")":Str)::rest) rows=match chk 0 8 (iW (kz pe) (ts++(")":Str)::rest) rows [])with
  |none=>none
  |some (l,r)=>some ([.flat (.str "row"),.tup l],r):=by rw[ja,gN gB,gN gB,gX rfl]<;>rfl
 obtain⟨y,no⟩:=s [] rest rows hr
 by_cases h1:ok=true/\rows.length+n<=160
 ·obtain⟨ds,rows',e2,l2,l3⟩:=y h1.1 h1.2
  have l2':ds.length=m:=l2.trans (cE m)
  by_cases hm:m<=8
  ·refine⟨fun _ _=>⟨_,rows',by rw[e,e2,chk,gX (by lia)],l3⟩,fun z=>absurd ⟨by rw[h1.1,ir hm];rfl,h1.2⟩ z⟩
  ·refine⟨fun z=>(by rw[h1.1,iI hm]at z;cases z),fun _=>by rw[e,e2,chk,gN (by lia)]⟩
 ·exact⟨fun z hn=>absurd ⟨(eZ _ _▸z).1,hn⟩ h1,fun _=>by rw[e,no h1];rfl⟩
theorem FRd.cased {pe:Pe} {ok1 ok:Bool} {n1 n m:Nat} {t1 ts:List Str} (a:Rd pe ok1 n1 t1) (s:MRd (iS pe [true,true,false]) ok n m ts):FRd pe "case" (ok1&&ok&&decide (1<=m/\m<=6)) (n1+n) (t1++ts):=fun rest rows hr=>by
 have ea:t1++ts++(")":Str)::rest=t1++(ts++(")":Str)::rest):=bL ..
 rw[ea]
 have e:ja pe "case" (t1++(ts++(")":Str)::rest)) rows=match pe (t1++(ts++(")":Str)::rest)) rows with
  |none=>none
  |some (r1,rows1)=>match chk 1 6 (iW (iS pe [true,true,false]) r1 rows1 [])with
   |none=>none
   |some (l,r)=>some ([.flat (.str "case"),.flat (.int (rows.length:Int)),.tup l],r):=by rw[ja,gN gB,gX rfl]<;>rfl
 obtain⟨ya,na⟩:=a (ts++(")":Str)::rest) rows hr
 by_cases h0:ok1=true/\rows.length+n1<=160
 ·obtain⟨rows1,e1,l1⟩:=ya h0.1 h0.2
  obtain⟨y,no⟩:=s [] rest rows1 (by lia)
  have e':ja pe "case" (t1++(ts++(")":Str)::rest)) rows=match chk 1 6 (iW (iS pe [true,true,false]) (ts++(")":Str)::rest) rows1 [])with
   |none=>none
   |some (l,r)=>some ([.flat (.str "case"),.flat (.int (rows.length:Int)),.tup l],r):=by rw[e,e1]
  by_cases h1:ok=true/\rows1.length+n<=160
  ·obtain⟨ds,rows',e2,l2,l3⟩:=y h1.1 h1.2
   have l2':ds.length=m:=l2.trans (cE m)
   by_cases hm:1<=m/\m<=6
   ·refine⟨fun _ _=>⟨_,rows',by rw[e',e2,chk,gX (by lia)],by lia⟩,fun z=>absurd ⟨by rw[h0.1,h1.1,ir hm];rfl,by lia⟩ z⟩
   ·refine⟨fun z=>(by rw[h0.1,h1.1,iI hm]at z;cases z),fun _=>by rw[e',e2,chk,gN (by lia)]⟩
  ·refine⟨fun z hn=>absurd ⟨?_,by lia⟩ h1,fun _=>by rw[e',no h1];rfl⟩
   simp only[eZ]at z
   exact z.1.2
 ·refine⟨fun z hn=>absurd ⟨?_,by lia⟩ h0,fun _=>by rw[e,na h0]⟩
  simp only[eZ]at z
  exact z.1.1
theorem qr:¬jn "("=true/\¬isName "("=true:=gB
theorem Rd.form {f:Nat} {h:Str} {ok:Bool} {n:Nat} {ts:List Str} (s:FRd (gQ f) h ok n ts):Rd (gQ (f+ 1)) ok (n+ 1) (("(":Str)::h::(ts++[(")":Str)])):=fun rest rows hr=>by
 have ea:(("(":Str)::h::(ts++[(")":Str)]))++rest=("(":Str)::h::(ts++(")":Str)::rest):=by simp
 rw[ea]
 by_cases h160:rows.length=160
 ·exact⟨fun _ hn=>absurd hn (by lia),fun _=>by rw[gQ,gX h160]⟩
 ·have lr:(rows++[Dt.flat .non]).length=rows.length+ 1:=by rw[aN];rfl
  have er:sv (gQ f) (("(":Str)::h::(ts++(")":Str)::rest)) (rows++[.flat .non])=my (ja (gQ f) h (ts++(")":Str)::rest) (rows++[.flat .non])):=wb qr.1 qr.2 rfl
  obtain⟨y,no⟩:=s rest (rows++[.flat .non]) (by lia)
  refine⟨fun ho hn=>?_,fun z=>?_⟩
  ·obtain⟨ds,rows',e,l⟩:=y ho (by lia)
   refine⟨rows'.set rows.length (.tup ds),?_,by rw[aV];lia⟩
   rw[gQ,gN h160,er,e,show my (some (ds,(")":Str)::rest,rows'))=some (ds,rest,rows') by unfold my;exact gX rfl]
  ·rw[gQ,gN h160,er,no fun z2=>z ⟨z2.1,by lia⟩]
   rfl
theorem Rd.zero {n:Nat} {ts:List Str}:Rd (gQ 0) false n ts:=fun rest rows hr=>⟨fun z=>(by cases z),fun _=>by rw[gQ]⟩
theorem Rd.word {f:Nat} {x:Str} (hx:jn x=true\/isName x=true):Rd (gQ (f+ 1)) true 1 [x]:=fun rest rows hr=>by
 by_cases h160:rows.length=160
 ·exact⟨fun _ hn=>absurd hn (by lia),fun _=>by rw[gQ,gX h160]⟩
 ·refine⟨fun _ _=>?_,fun z=>absurd ⟨rfl,by lia⟩ z⟩
  have lr:(rows++[Dt.flat .non]).length=rows.length+ 1:=by rw[aN];rfl
  by_cases h1:jn x=true
  ·refine⟨_,by rw[gQ,gN h160];rw[bN,wa h1],by rw[aV];lia⟩
  ·have h2:isName x=true:=hx.resolve_left h1
   refine⟨_,by rw[gQ,gN h160];rw[bN,tK h1 h2],by rw[aV];lia⟩
structure Ex (d n:Nat) (ts:List Str):Prop where
 pos:1<=d
 hd:∃x t,ts=x::t/\x≠")"
 rd:∀f,f<=24->Rd (gQ f) (decide (d<=f)) n ts
theorem Ex.word {x:Str} (hx:jn x=true\/isName x=true) (hc:x≠")"):Ex 1 1 [x]:=⟨cq _,⟨x,[],rfl,hc⟩,fun f _=>by
 cases f with
 |zero=>exact Rd.zero
 |succ f=>
  rw[ir (show 1<=f+ 1 by lia)]
  exact Rd.word hx⟩
theorem GF:("(":Str)≠")":=gB
theorem Ex.form {d n:Nat} {h:Str} {ts:List Str} (hd:1<=d) (s:∀f,f<=23->∃ok,FRd (gQ f) h ok n ts/\ok=decide (d<=f+ 1)):Ex d (n+ 1) (("(":Str)::h::(ts++[(")":Str)])):=⟨hd,⟨_,_,rfl,GF⟩,fun f hf=>by
 cases f with
 |zero=>
  rw[iI (show ¬d<=0 by lia)]
  exact Rd.zero
 |succ f=>
  obtain⟨ok,r,e⟩:=s f (by lia)
  rw[<-e]
  exact Rd.form r⟩
def DRd (ok:Bool) (n m:Nat) (ts:List Str):Prop:=∀(rest:List Str) (rows:List Dt) (names:List Str) (roots:List Dt),rows.length<=160->
 (ok=true->rows.length+n<=160->∃rows' names' roots',jr (ts++rest) rows names roots=jr rest rows' names' roots'/\rows'.length=rows.length+n/\names'.length=names.length+m)/\(¬(ok=true/\rows.length+n<=160)->jr (ts++rest) rows names roots=none)
theorem DRd.nil:DRd true 0 0 []:=fun rest rows names roots h=>⟨fun _ _=>⟨rows,names,roots,rfl,rfl,rfl⟩,fun z=>absurd ⟨rfl,h⟩ z⟩
theorem DRd.read {ok:Bool} {n m:Nat} {ts:List Str} (a:DRd ok n m ts):
  (ok=true->n<=160->1<=m->m<=12->∃names roots rows,mz ts=some (names,roots,rows)/\rows.length=n)/\(¬(ok=true/\n<=160/\1<=m/\m<=12)->mz ts=none):=by
 obtain⟨y,no⟩:=a [] [] [] [] (cu _)
 rw[aD]at y no
 have l0:([]:List Dt).length=0:=rfl
 have l1:([]:List Str).length=0:=rfl
 by_cases h1:ok=true/\([]:List Dt).length+n<=160
 ·obtain⟨rows,names,roots,e,l,k⟩:=y h1.1 h1.2
  rw[defs_nil]at e
  by_cases h2:1<=m/\m<=12
  ·refine⟨fun _ _ _ _=>⟨names,roots,rows,by rw[mz,e];exact gX (by lia),by lia⟩,fun z=>absurd ⟨h1.1,by lia,h2⟩ z⟩
  ·exact⟨fun _ _ z1 z2=>absurd ⟨z1,z2⟩ h2,fun _=>by rw[mz,e];exact gN (by lia)⟩
 ·exact⟨fun ho hn _ _=>absurd ⟨ho,by lia⟩ h1,fun _=>by rw[mz,no h1]⟩
end GR.Internal
namespace GR.Internal
open PySem L2.Internal T1
def St1 (w:List Nat):Str:=⟨w.toArray⟩
def toks (x:Str):List Str:=(all (W x.cps.toList)).map St1
theorem toks_v (x:Str):qN x.cps.toList=(toks x).map V.str:=yG _
theorem tM:∀(s:List Nat) (p:List (List Nat)) (c:List Nat),s.foldl step (p,c)=(p++(s.foldl step ([],c)).1,(s.foldl step ([],c)).2)
 |[],p,c=>by simp
 |k::s,p,c=>by
  have e1:(k::s).foldl step (p,c)=s.foldl step (step (p,c) k):=rfl
  have e2:(k::s).foldl step ([],c)=s.foldl step (step ([],c) k):=rfl
  rw[e1,e2]
  have e3:step (p,c) k=(p++(step ([],c) k).1,(step ([],c) k).2):=by
   unfold T1.step
   split
   ·split<;>simp
   ·simp
  rw[e3]
  generalize step ([],c) k=q
  obtain⟨q1,q2⟩:=q
  rw[tM s (p++q1) q2,tM s q1 q2,bL]
theorem xR {a b:List Nat} (h:(W a).2=[]):W (a++b)=((W a).1++(W b).1,(W b).2):=by
 rw[qq]
 have e:W a=((W a).1,[]):=by rw[<-h]
 rw[e,tM]
 rfl
def Gp (x:Str) (ts:List Str):Prop:=(W x.cps.toList).2=[]/\(W x.cps.toList).1.map St1=ts
def Op (x:Str) (ts:List Str):Prop:=toks x=ts
theorem Gp.op {x:Str} {ts:List Str} (h:Gp x ts):Op x ts:=by
 unfold Op toks all
 rw[gX h.1,h.2]
theorem Gp.app {x y:Str} {ts us:List Str} (h:Gp x ts) (k:Gp y us):Gp (x++y) (ts++us):=by
 unfold Gp
 rw[jh,xR h.1]
 exact⟨k.1,by rw[bc,h.2,k.2]⟩
theorem Gp.app_op {x y:Str} {ts us:List Str} (h:Gp x ts) (k:Op y us):Op (x++y) (ts++us):=by
 unfold Op toks at*
 rw[jh,xR h.1,<-h.2,<-k]
 unfold all
 by_cases z:(W y.cps.toList).2=[]
 ·rw[gX z,gX z,bc]
 ·rw[gN z,gN z]
  simp only[bc,bL]
theorem Op.close {x:Str} {ts:List Str} (h:Op x ts):Gp (x++")") (ts++[(")":Str)]):=by
 unfold Gp
 have e:(x++")").cps.toList=x.cps.toList++[41]:=jh x ")"
 rw[e,As _ (.inr rfl)]
 refine⟨rfl,?_⟩
 rw[bc]
 exact congrArg (·++[(")":Str)]) h
theorem Op.gap {x:Str} {ts:List Str} (h:Op x ts):Gp (x++" ") ts:=by
 unfold Gp
 have e:(x++" ").cps.toList=x.cps.toList++[32]:=jh x " "
 rw[e,ID _ (.inl rfl)]
 exact⟨rfl,h⟩
theorem cat_assoc (x y z:Str):x++y++z=x++(y++z):=T1.str_ext (by rw[jh,jh,jh,jh,bL])
theorem Op.gap_then {x y z:Str} {ts us:List Str} (h:Op x ts) (hz:(" ":Str)++y=z) (k:Gp y us):Gp (x++z) (ts++us):=by
 rw[<-hz,<-cat_assoc]
 exact h.gap.app k
theorem Op.word {x:Str} (h0:x.cps.toList≠[]) (h:∀k∈x.cps.toList,k≠32/\k≠10/\k≠40/\k≠41):Op x [x]:=by
 unfold Op toks
 have e:W x.cps.toList=([],x.cps.toList):=IE [] x.cps.toList h
 rw[e]
 show(if x.cps.toList=[]then _ else _:List (List Nat)).map St1=_
 rw[gN h0]
 show[St1 x.cps.toList]=[x]
 exact congrArg (fun z=>[z]) (T1.str_ext rfl)
theorem uY:∀m:Nat,0<m->(cB 10 m).head?≠some '0'
 |m,h=>by
  by_cases h10:m<10
  ·rw[cC h10]
   have:m=1\/m=2\/m=3\/m=4\/m=5\/m=6\/m=7\/m=8\/m=9:=by lia
   rcases this with rfl|rfl|rfl|rfl|rfl|rfl|rfl|rfl|rfl<;>decide
  ·have hm:m%10<10:=Nat.mod_lt m (by decide)
   have t:cB 10 (m/10)++cB 10 (m%10)=cB 10 (10*(m/10)+m%10):=cD (by decide) (by lia) hm
   rw[Nat.div_add_mod]at t
   have ih:=uY (m/10) (by lia)
   rw[<-t]
   cases e:cB 10 (m/10)with
   |nil=>
    have:=PySem.toDigits_len_ge 10 (m/10)
    rw[e]at this
    simp at this
   |cons a r=>
    rw[e]at ih
    exact ih
termination_by m=>m
theorem num_is {n:Int} {k:Nat} (h0:0<=n) (h1:n<10^(k+ 1)) (hk:k+ 1<=60):jn (PySem.Str.ofString (toString n))=true:=by
 obtain⟨f1,f2,f3⟩:=str_fig h0 h1
 obtain⟨m,rfl⟩:=fC h0
 have e:=PySem.W.KIN.signs_num m
 unfold jn
 have z:(!qO (PySem.Str.ofString (toString ((m:Nat):Int)))||decide (PySem.Str.ofString (toString ((m:Nat):Int))="0"))=true:=by
  by_cases hm:m=0
  ·subst hm
   decide+kernel
  ·have d:=uY m (by lia)
   have:qO (PySem.Str.ofString (toString ((m:Nat):Int)))=false:=by
    unfold qO
    rw[e]
    cases q:cB 10 m with
    |nil=>rfl
    |cons a r=>
     rw[q]at d
     show(a.toNat==48)=false
     refine beq_eq_false_iff_ne.mpr fun w=>d ?_
     show some a=some '0'
     exact congrArg some (Char.toNat_inj.mp w)
   rw[this]
   rfl
 rw[z,ir f2,ir (show _<=60 by lia)]
 simp only[fk,Bool.and_true]
 exact bt.mpr fun c hc=>ir (f1 c hc)
structure EX (x:Str) (d n L:Nat):Prop where
 asc:∀c∈x.cps.toList,c<128
 len:x.length<=L
 ex:∃ts,Op x ts/\Ex d n ts
section
variable {d n:Nat} {ts:List Str}
theorem z0:jn "0"=true\/isName "0"=true:=gB
theorem ex0:Ex 1 1 (["0"]:List Str):=Ex.word z0 gB
theorem Ey (f:Nat):(decide (d<=f)&&true)=decide (d+ 1<=f+ 1):=by simp
theorem II (h:1<=d) (f:Nat):(decide (1<=f)&&(decide (d<=f)&&true))=decide (d+ 1<=f+ 1):=by
 by_cases z:d<=f<;>simp[z]<;>lia
theorem IJ (h:1<=d) (f:Nat):(decide (d<=f)&&(decide (1<=f)&&true))=decide (d+ 1<=f+ 1):=by
 by_cases z:d<=f<;>simp[z]<;>lia
theorem Ex.tag {h c:Str} (hh:h="tag"\/h="fn") (hc:isName c=true) (x:Ex d n ts):Ex (d+ 1) (n+ 1) ((["(",h,c]:List Str)++ts++([")"]:List Str)):=by
 have hp:stP h=some [true,false]/\¬h="rec"/\¬h="case"/\¬h="row":=by rcases hh with rfl|rfl<;>decide+kernel
 have z:=Ex.form (d:=d+ 1) (n:=n+ 0) (h:=h) (ts:=c::(ts++[])) (by lia) fun f hf=>⟨_,FRd.steady hp.2.1 hp.2.2.1 hp.2.2.2 hp.1 (SRd.name hc (SRd.expr (x.rd f (by lia)) SRd.nil)),Ey f⟩
 simpa using z
theorem Ex.get {c:Str} (hc:isName c=true) (x:Ex d n ts):Ex (d+ 1) (n+ 1) ((["(","get"]:List Str)++ts++([c,")"]:List Str)):=by
 have hp:stP "get"=some [false,true]/\¬("get":Str)="rec"/\¬("get":Str)="case"/\¬("get":Str)="row":=gB
 have z:=Ex.form (d:=d+ 1) (n:=n+ 0) (h:="get") (ts:=ts++[c]) (by lia) fun f hf=>⟨_,FRd.steady hp.2.1 hp.2.2.1 hp.2.2.2 hp.1 (SRd.expr (x.rd f (by lia)) (SRd.name hc SRd.nil)),Ey f⟩
 simpa using z
theorem Ex.size (x:Ex d n ts):Ex (d+ 1) (n+ 1) ((["(","size"]:List Str)++ts++([")"]:List Str)):=by
 have hp:stP "size"=some [false]/\¬("size":Str)="rec"/\¬("size":Str)="case"/\¬("size":Str)="row":=gB
 have z:=Ex.form (d:=d+ 1) (n:=n+ 0) (h:="size") (ts:=ts++[]) (by lia) fun f hf=>⟨_,FRd.steady hp.2.1 hp.2.2.1 hp.2.2.2 hp.1 (SRd.expr (x.rd f (by lia)) SRd.nil),Ey f⟩
 simpa using z
theorem Ex.add {c:Str} (hc:Ex 1 1 [c]) (x:Ex d n ts):Ex (d+ 1) (n+ 2) ((["(","add",c]:List Str)++ts++([")"]:List Str)):=by
 have hp:stP "add"=some [false,false]/\¬("add":Str)="rec"/\¬("add":Str)="case"/\¬("add":Str)="row":=gB
 have z:=Ex.form (d:=d+ 1) (n:=1+(n+ 0)) (h:="add") (ts:=[c]++(ts++[])) (by lia) fun f hf=>⟨_,FRd.steady hp.2.1 hp.2.2.1 hp.2.2.2 hp.1 (SRd.expr (hc.rd f (by lia)) (SRd.expr (x.rd f (by lia)) SRd.nil)),II x.pos f⟩
 rw[show n+ 2=1+(n+ 0)+ 1 by lia]
 simpa using z
theorem Ex.call (x:Ex d n ts):Ex (d+ 1) (n+ 2) ((["(","call"]:List Str)++ts++(["0",")"]:List Str)):=by
 have hp:stP "call"=some [false,false]/\¬("call":Str)="rec"/\¬("call":Str)="case"/\¬("call":Str)="row":=gB
 have z:=Ex.form (d:=d+ 1) (n:=n+(1+ 0)) (h:="call") (ts:=ts++((["0"]:List Str)++[])) (by lia) fun f hf=>⟨_,FRd.steady hp.2.1 hp.2.2.1 hp.2.2.2 hp.1 (SRd.expr (x.rd f (by lia)) (SRd.expr (ex0.rd f (by lia)) SRd.nil)),IJ x.pos f⟩
 simpa using z
end
instance {x:Str} {ts:List Str}:Decidable (Gp x ts):=inferInstanceAs (Decidable (_/\_))
instance {x:Str} {ts:List Str}:Decidable (Op x ts):=inferInstanceAs (Decidable (_=_))
theorem nmA:isName "a"=true/\isName "t"=true/\isName "x"=true/\isName "b"=true:=gB
section
variable {d n:Nat} {ts:List Str}
end
def IK (l:List Str):List Str:=l.flatMap fun c=>[c,"x","x"]
theorem nm_ne {c:Str} (h:isName c=true):c≠")":=fun z=>by
 rw[z]at h
 exact absurd h gB
theorem JT {f:Nat} (hf:f<=24):∀l:List Str,(∀c∈l,isName c=true)->MRd (iS (gQ f) [true,true,false]) (decide (l=[]\/1<=f)) l.length l.length (IK l)
 |[],_=>by
  rw[ir (.inl rfl)]
  exact MRd.nil
 |c::l,h=>by
  have hc:=h c (ah ..)
  have ex1:Ex 1 1 ["x"]:=Ex.word gB gB
  have z:=MRd.cons (lB (ji f) _ (by simp)) rfl (nm_ne hc) (GC (SRd.name hc (SRd.name nmA.2.2.1 (SRd.expr (ex1.rd f hf) SRd.nil)))) (JT hf l fun c hc=>h c (ai _ hc))
  have e:(decide (1<=f)&&true&&decide (l=[]\/1<=f))=decide (c::l=[]\/1<=f):=by
   by_cases q:1<=f<;>simp[q]
  rw[e,show 1+ 0+l.length=l.length+ 1 by lia]at z
  exact z
theorem JU {f:Nat} (hf:f<=24) {c:Str} (hc:jn c=true) (hn:c≠")"):∀m:Nat,MRd (kz (gQ f)) (decide (m=0\/1<=f)) m m (aG m c)
 |0=>by
  rw[ir (.inl rfl)]
  exact MRd.nil
 |m+ 1=>by
  have ex1:Ex 1 1 [c]:=Ex.word (.inl hc) hn
  have z:=MRd.cons (oZ (ji f)) rfl hn (GD (ex1.rd f hf)) (JU hf hc hn m)
  have e:(decide (1<=f)&&decide (m=0\/1<=f))=decide (m+ 1=0\/1<=f):=by
   by_cases q:1<=f<;>simp[q]
  rw[e,show 1+m=m+ 1 by lia]at z
  exact z
def dRec (m:Nat):Nat:=if m=0 then 1 else if m<=6 then 2 else 25
def Av (m:Nat):Nat:=if 1<=m/\m<=6 then 2 else 25
def Hx (m:Nat):Nat:=if m=0 then 1 else if m<=8 then 2 else 25
theorem Ex.cases {l:List Str} (h:∀c∈l,isName c=true):Ex (Av l.length) (l.length+ 2) (("(":Str)::("case":Str)::("0":Str)::(IK l++[(")":Str)])):=by
 have hd:1<=Av l.length:=by unfold Av;split<;>decide
 have z:=Ex.form (d:=Av l.length) (n:=1+l.length) (h:="case") (ts:=(["0"]:List Str)++IK l) hd fun f hf=>⟨_,FRd.cased (ex0.rd f (by lia)) (JT (by lia) l h),by
  unfold Av
  cases l with
  |nil=>simp;lia
  |cons c l=>
   simp only[az]
   by_cases q:l.length+ 1<=6<;>simp[q]<;>lia⟩
 rw[show l.length+ 2=1+l.length+ 1 by lia]
 simpa using z
theorem Ex.rows {c:Str} (hc:jn c=true) (hn:c≠")") (m:Nat):Ex (Hx m) (m+ 1) (("(":Str)::("row":Str)::(aG m c++[(")":Str)])):=by
 have hd:1<=Hx m:=by unfold Hx;split<;>first|exact cq _|(split<;>decide)
 refine Ex.form hd fun f hf=>⟨_,FRd.rowd (JU (by lia) hc hn m),?_⟩
 unfold Hx
 by_cases z:m=0
 ·subst z
  simp
 ·by_cases q:m<=8<;>simp[q,z]<;>lia
def Ap (x:Str) (ts:List Str):Prop:=∀y us,Op y us->Op (y++x) (us++ts)
theorem Ap.nil:Ap "" []:=fun y us h=>by
 have e:y++""=y:=T1.str_ext (by rw[jh];exact aD _)
 rw[e,aD]
 exact h
theorem Ap.word {x w z:Str} {ts:List Str} (h:Ap x ts) (hz:z=" "++w) (hw:Op w [w]):Ap (x++z) (ts++[w]):=fun y us o=>by
 rw[hz,<-cat_assoc,<-cat_assoc,<-bL]
 exact(h y us o).gap.app_op hw
theorem EX.around {x h:Str} {d n L:Nat} {hs ts:List Str} (hh:Op h hs) (ha:∀c∈h.cps.toList,c<128) (hl:h.length<=15) (a:Ap x ts) (xa:∀c∈x.cps.toList,c<128) (xl:x.length<=L) (e:Ex d n (hs++(ts++[(")":Str)]))):EX (h++x++")") d n (L+ 20):=by
 refine⟨fun c hc=>?_,?_,_,(a h hs hh).close.op,by rw[bL];exact e⟩
 ·rw[jh,jh]at hc
  rcases ao.mp hc with z|z
  ·rcases ao.mp z with z|z
   ·exact ha c z
   ·exact xa c z
  ·have:c∈[41]:=z
   simp at this
   lia
 ·rw[Str.length_append,Str.length_append]
  have:(")":Str).length=1:=gB
  lia
structure PGm (x:Str) (due:Bool) (n:Nat):Prop where
 asc:∀c∈x.cps.toList,c<128
 len:x.length<=9999
 yes:due=true->∃names roots rows,mz (toks x)=some (names,roots,rows)/\rows.length=n
 no:due=false->mz (toks x)=none
structure DX (x:Str) (ok:Bool) (n m L:Nat):Prop where
 asc:∀c∈x.cps.toList,c<128
 len:x.length<=L
 rd:∃ts,Gp x ts/\DRd ok n m ts
structure Wr (h t:Str) (k:Nat):Prop where
 hl:h.length<=15
 tl:t.length<=5
 k3:k<=3
 on:∀x d n L,EX x d n L->EX (h++x++t) (d+ 1) (n+k) (L+ 20)
end GR.Internal
namespace TM.Internal
open PySem L2.Internal GR.Internal
inductive Kn
 |num (n:Int)
 |name (w:Str)
 |fn (w:Str)
 |tag (w:Str)
 |lt (w:Str)
 |get (w:Str)
 |rcd (l:List Str)
 |case (l:List (Str×Str))
 |row (m:Nat)
 |op (s:Str) (m:Nat)
inductive Tr
 |mk (κ:Kn) (ks:List Tr)
def ops:List (Str×Nat):=[("call",2),("at",3),("join",2),("size",1),("add",2),("sub",2),("less",2)]
def Kn.ar:Kn->Nat
 | .num _=>0
 | .name _=>0
 | .fn _=>1
 | .tag _=>1
 | .lt _=>2
 | .get _=>1
 | .rcd l=>l.length
 | .case l=>l.length+ 1
 | .row m=>m
 | .op _ m=>m
def numS (n:Int):Str:=PySem.Str.ofString (toString n)
def Kn.ok:Kn->Prop
 | .num n=>0<=n/\n<10^60
 | .name w=>isName w=true
 | .fn w=>isName w=true
 | .tag w=>isName w=true
 | .lt w=>isName w=true
 | .get w=>isName w=true
 | .rcd l=>l.length<=6/\∀w∈l,isName w=true
 | .case l=>1<=l.length/\l.length<=6/\∀p∈l,isName p.1=true/\isName p.2=true
 | .row m=>m<=8
 | .op s m=>(s,m)∈ops
mutual
def Tr.sz:Tr->Nat
 | .mk _ ks=>1+szs ks
def szs:List Tr->Nat
 |[]=>0
 |t::ts=>t.sz+szs ts
end
mutual
def Tr.nest:Tr->Nat
 | .mk _ ks=>1+B7 ks
def B7:List Tr->Nat
 |[]=>0
 |t::ts=>max t.nest (B7 ts)
end
mutual
def Tr.ok:Tr->Prop
 | .mk κ ks=>κ.ok/\ks.length=κ.ar/\oks ks
def oks:List Tr->Prop
 |[]=>True
 |t::ts=>t.ok/\oks ts
end
def wv1:List Str->List (List Str)->List Str
 |w::l,k::ks=>w::(k++wv1 l ks)
 |_,_=>[]
def wv2:List (Str×Str)->List (List Str)->List Str
 |p::l,k::ks=>p.1::p.2::(k++wv2 l ks)
 |_,_=>[]
def Kn.ws:Kn->List (List Str)->List Str
 | .fn w,ks=>w::ks.flatten
 | .tag w,ks=>w::ks.flatten
 | .lt w,ks=>w::ks.flatten
 | .get w,ks=>ks.flatten++[w]
 | .rcd l,ks=>wv1 l ks
 | .case l,k::ks=>k++wv2 l ks
 |_,ks=>ks.flatten
def Kn.s:Kn->Str
 | .num _=>"num"
 | .name _=>"name"
 | .fn _=>"fn"
 | .tag _=>"tag"
 | .lt _=>"let"
 | .get _=>"get"
 | .rcd _=>"rec"
 | .case _=>"case"
 | .row _=>"row"
 | .op s _=>s
def Kn.tk (κ:Kn) (ks:List (List Str)):List Str:=match κ with
 | .num n=>[numS n]
 | .name w=>[w]
 |κ=>("(":Str)::κ.s::(κ.ws ks++[(")":Str)])
mutual
def Tr.tk:Tr->List Str
 | .mk κ ks=>κ.tk (tks ks)
def tks:List Tr->List (List Str)
 |[]=>[]
 |t::ts=>t.tk::tks ts
end
def sD (s:Str):Dt:= .flat (.str s)
def kD (k:Nat):Dt:= .flat (.int (k:Int))
def Kn.rw (κ:Kn) (ps:List Nat):List Dt:=match κ,ps with
 | .num n,_=>[sD "num",.flat (.int n)]
 | .name w,_=>[sD "name",sD w]
 | .fn w,ps=>sD "fn"::sD w::ps.map kD
 | .tag w,ps=>sD "tag"::sD w::ps.map kD
 | .lt w,ps=>sD "let"::sD w::ps.map kD
 | .get w,ps=>sD "get"::(ps.map kD++[sD w])
 | .rcd l,ps=>[sD "rec",.tup ((l.zip ps).map fun p=> .tup [sD p.1,kD p.2])]
 | .case l,p::ps=>[sD "case",kD p,.tup ((l.zip ps).map fun p=> .tup [sD p.1.1,sD p.1.2,kD p.2])]
 | .case _,[]=>[]
 | .row _,ps=>[sD "row",.tup (ps.map kD)]
 | .op s _,ps=>sD s::ps.map kD
def offs:List Tr->Nat->List Nat
 |[],_=>[]
 |t::ts,p=>p::offs ts (p+t.sz)
mutual
def Tr.rw:Tr->Nat->List Dt
 | .mk κ ks,p=> .tup (κ.rw (offs ks (p+ 1)))::rws ks (p+ 1)
def rws:List Tr->Nat->List Dt
 |[],_=>[]
 |t::ts,p=>t.rw p++rws ts (p+t.sz)
end
theorem tN:∀(ts:List Tr) (p:Nat),(offs ts p).length=ts.length
 |[],_=>rfl
 |t::ts,p=>by rw[offs,az,az,tN ts]
mutual
theorem Tr.rw_len:∀(t:Tr) (p:Nat),(t.rw p).length=t.sz
 | .mk κ ks,p=>by rw[Tr.rw,az,Aw ks,Tr.sz];lia
theorem Aw:∀(ts:List Tr) (p:Nat),(rws ts p).length=szs ts
 |[],_=>by rw[rws,szs];rfl
 |t::ts,p=>by rw[rws,szs,aN,Tr.rw_len t,Aw ts]
end
theorem B8:isName ")"=false/\jn ")"=false:=gB
theorem we {w:Str} (h:isName w=true):w≠")":=fun z=>by rw[z,B8.1]at h;cases h
def RdT (pe:Pe) (t:Tr):Prop:=∀(rest:List Str) (rows:List Dt),rows.length+t.sz<=160->pe (t.tk++rest) rows=some (rest,rows++t.rw rows.length)
def GG (pe:Pe) (ts:List Tr):Prop:=∀t∈ts,RdT pe t
theorem qR {pe:Pe} {ps:List Bool} {acc rows:List Dt} {x:Str} {r:List Str} (h:isName x=true):gM pe (true::ps) acc (x::r) rows=gM pe ps (acc++[sD x]) r rows:=by
 rw[gM]
 exact gX h
theorem Ax {pe:Pe} {ps:List Bool} {acc rows rows':List Dt} {ws r:List Str} (h:pe ws rows=some (r,rows')):gM pe (false::ps) acc ws rows=gM pe ps (acc++[kD rows.length]) r rows':=by
 rw[gM,h]
 rfl
theorem qt {pe:Pe}:∀(ts:List Tr),GG pe ts->∀(ps:List Bool) (acc:List Dt) (rest:List Str) (rows:List Dt),rows.length+szs ts<=160->
  gM pe (aG ts.length false++ps) acc ((tks ts).flatten++rest) rows=gM pe ps (acc++(offs ts rows.length).map kD) rest (rows++rws ts rows.length)
 |[],_,ps,acc,rest,rows,_=>by simp[tks,offs,rws]
 |t::ts,h,ps,acc,rest,rows,hl=>by
  rw[szs]at hl
  have h1:=h t ah ((tks ts).flatten++rest) rows (by lia)
  rw[tks,List.flatten_cons,bL,az,List.replicate_succ,aQ,gM,h1]
  dsimp only
  have hlen:(rows++t.rw rows.length).length=rows.length+t.sz:=by rw[aN,Tr.rw_len]
  rw[qt ts (fun x hx=>h x (ai _ hx)) ps _ rest _ (by rw[hlen];lia),hlen,offs,rws,aB,bL,bL]
  rfl
theorem Ez:∀(t:Tr),t.ok->∃x r,t.tk=x::r/\x≠")"
 | .mk κ ks,h=>by
  rw[Tr.ok]at h
  rw[Tr.tk]
  cases κ with
  |num n=>
   refine⟨_,_,rfl,fun z=>?_⟩
   have hf:=str_fig (k:=59) h.1.1 h.1.2
   have:(41:Nat)∈(numS n).cps.toList:=by rw[z];decide+kernel
   have:=hf.1 41 this
   exact absurd this gB
  |name w=>exact⟨_,_,rfl,we h.1⟩
  |_=>exact⟨_,_,rfl,gB⟩
theorem wg {item:List Str->List Dt->Option (Dt×Rs)} {ws r:List Str} {rows rows' acc:List Dt} {d:Dt} (h:∃x r,ws=x::r/\x≠(")":Str)) (hi:item ws rows=some (d,r,rows')) (hl:r.length<ws.length):iW item ws rows acc=iW item r rows' (acc++[d]):=by
 obtain⟨x,r0,rfl,hx⟩:=h
 have h':¬(x::r0).head?=some (")":Str):=fun z=>hx (cH.inj z)
 rw[iW]
 refine(gN h').trans ?_
 rw[hi]
 exact dif_pos hl
theorem qS {item:List Str->List Dt->Option (Dt×Rs)} {r:List Str} {rows acc:List Dt}:iW item ((")":Str)::r) rows acc=some (acc,(")":Str)::r,rows):=lO _ _ _ rfl
theorem uZ {pe:Pe}:∀(ts:List Tr),GG pe ts->oks ts->∀(acc:List Dt) (rest:List Str) (rows:List Dt),rows.length+szs ts<=160->
  iW (kz pe) ((tks ts).flatten++(")":Str)::rest) rows acc=some (acc++(offs ts rows.length).map kD,(")":Str)::rest,rows++rws ts rows.length)
 |[],_,_,acc,rest,rows,_=>by
  show iW _ ((")":Str)::rest) rows acc=_
  rw[qS]
  simp[offs,rws]
 |t::ts,h,ho,acc,rest,rows,hl=>by
  rw[szs]at hl
  rw[oks]at ho
  obtain⟨x,r,ex,hx⟩:=Ez t ho.1
  have h1:=h t ah ((tks ts).flatten++(")":Str)::rest) rows (by lia)
  have hlen:(rows++t.rw rows.length).length=rows.length+t.sz:=by rw[aN,Tr.rw_len]
  rw[tks,List.flatten_cons,bL]
  rw[wg (d:=kD rows.length) (r:=(tks ts).flatten++(")":Str)::rest) (rows':=rows++t.rw rows.length) ⟨x,_,by rw[ex];rfl,hx⟩ (by unfold kz;rw[h1];rfl) (by rw[ex,aQ,az,aN (as:=r)];lia),uZ ts (fun x hx=>h x (ai _ hx)) ho.2 _ rest _ (by rw[hlen];lia),hlen,offs,rws,aB,bL,bL]
  rfl
theorem qT {pe:Pe}:∀(l:List Str) (ts:List Tr),l.length=ts.length->(∀w∈l,isName w=true)->GG pe ts->∀(acc:List Dt) (rest:List Str) (rows:List Dt),rows.length+szs ts<=160->
  iW (iS pe [true,false]) (wv1 l (tks ts)++(")":Str)::rest) rows acc=some (acc++(l.zip (offs ts rows.length)).map (fun p=> .tup [sD p.1,kD p.2]),(")":Str)::rest,rows++rws ts rows.length)
 |[],[],_,_,_,acc,rest,rows,_=>by
  show iW _ ((")":Str)::rest) rows acc=_
  rw[qS]
  simp[offs,rws]
 |w::l,t::ts,hl0,hw,h,acc,rest,rows,hl=>by
  rw[szs]at hl
  have h1:=h t ah (wv1 l (tks ts)++(")":Str)::rest) rows (by lia)
  have hn:=hw w ah
  have hlen:(rows++t.rw rows.length).length=rows.length+t.sz:=by rw[aN,Tr.rw_len]
  rw[tks,wv1,aQ,bL]
  have hi:iS pe [true,false] (w::(t.tk++(wv1 l (tks ts)++(")":Str)::rest))) rows=some (.tup [sD w,kD rows.length],wv1 l (tks ts)++(")":Str)::rest,rows++t.rw rows.length):=by
   have e:gM pe [true,false] [] (w::(t.tk++(wv1 l (tks ts)++(")":Str)::rest))) rows=some ([sD w,kD rows.length],wv1 l (tks ts)++(")":Str)::rest,rows++t.rw rows.length):=by
    rw[qR hn,Ax h1]
    rfl
   unfold iS
   rw[e]
  rw[wg ⟨_,_,rfl,we hn⟩ hi (by simp only[az,aN];lia),qT l ts (by simpa using hl0) (fun x hx=>hw x (ai _ hx)) (fun x hx=>h x (ai _ hx)) _ rest _ (by rw[hlen];lia),hlen,offs,rws,List.zip_cons_cons,aB,bL,bL]
  rfl
theorem u4 {pe:Pe}:∀(l:List (Str×Str)) (ts:List Tr),l.length=ts.length->(∀p∈l,isName p.1=true/\isName p.2=true)->GG pe ts->∀(acc:List Dt) (rest:List Str) (rows:List Dt),rows.length+szs ts<=160->
  iW (iS pe [true,true,false]) (wv2 l (tks ts)++(")":Str)::rest) rows acc=some (acc++(l.zip (offs ts rows.length)).map (fun p=> .tup [sD p.1.1,sD p.1.2,kD p.2]),(")":Str)::rest,rows++rws ts rows.length)
 |[],[],_,_,_,acc,rest,rows,_=>by
  show iW _ ((")":Str)::rest) rows acc=_
  rw[qS]
  simp[offs,rws]
 |w::l,t::ts,hl0,hw,h,acc,rest,rows,hl=>by
  rw[szs]at hl
  have h1:=h t ah (wv2 l (tks ts)++(")":Str)::rest) rows (by lia)
  obtain⟨hn,hn2⟩:=hw w ah
  have hlen:(rows++t.rw rows.length).length=rows.length+t.sz:=by rw[aN,Tr.rw_len]
  rw[tks,wv2,aQ,aQ,bL]
  have hi:iS pe [true,true,false] (w.1::w.2::(t.tk++(wv2 l (tks ts)++(")":Str)::rest))) rows=some (.tup [sD w.1,sD w.2,kD rows.length],wv2 l (tks ts)++(")":Str)::rest,rows++t.rw rows.length):=by
   have e:gM pe [true,true,false] [] (w.1::w.2::(t.tk++(wv2 l (tks ts)++(")":Str)::rest))) rows=some ([sD w.1,sD w.2,kD rows.length],wv2 l (tks ts)++(")":Str)::rest,rows++t.rw rows.length):=by
    rw[qR hn,qR hn2,Ax h1]
    rfl
   unfold iS
   rw[e]
  rw[wg ⟨_,_,rfl,we hn⟩ hi (by simp only[az,aN];lia),u4 l ts (by simpa using hl0) (fun x hx=>hw x (ai _ hx)) (fun x hx=>h x (ai _ hx)) _ rest _ (by rw[hlen];lia),hlen,offs,rws,List.zip_cons_cons,aB,bL,bL]
  rfl
theorem Ay {rows more:List Dt} {x y:Dt}:(rows++[x]++more).set rows.length y=rows++y::more:=by
 rw[bL,List.set_append_right _ _ (cq _),cF]
 rfl
theorem mB {f:Nat} {h:Str} {ws rest:List Str} {rows ds more:List Dt} (hr:rows.length<160) (hf:ja (gQ f) h (ws++(")":Str)::rest) (rows++[.flat .non])=some (ds,(")":Str)::rest,rows++[.flat .non]++more)):
  gQ (f+ 1) (("(":Str)::h::(ws++[(")":Str)])++rest) rows=some (rest,rows++ .tup ds::more):=by
 rw[gQ,gN (by lia)]
 show(match sv (gQ f) (("(":Str)::h::((ws++[(")":Str)])++rest)) (rows++[Dt.flat .non])with|none=>none|some (ds,r,rows')=>some (r,rows'.set rows.length (Dt.tup ds)))=_
 rw[wb qr.1 qr.2 rfl,bL]
 show(match my (ja (gQ f) h (ws++(")":Str)::rest) (rows++[Dt.flat .non]))with|none=>none|some (ds,r,rows')=>some (r,rows'.set rows.length (Dt.tup ds)))=_
 rw[hf]
 show(match(if(")":Str)=")" then some (ds,rest,rows++[Dt.flat .non]++more)else none)with|none=>none|some (ds,r,rows')=>some (r,rows'.set rows.length (Dt.tup ds)))=_
 rw[gX rfl]
 show some (rest,(rows++[Dt.flat .non]++more).set rows.length (Dt.tup ds))=_
 rw[Ay]
theorem nL {pe:Pe} {h:Str} {ps:List Bool} {ws r:List Str} {rows ds rows':List Dt} (h1:¬h="rec") (h2:¬h="case") (h3:¬h="row") (hp:stP h=some ps) (s:gM pe ps [] ws rows=some (ds,r,rows')):ja pe h ws rows=some (sD h::ds,r,rows'):=by
 unfold ja
 rw[gN h1,gN h2,gN h3,hp]
 dsimp only
 rw[s]
 rfl
theorem GH:∀p∈ops,stP p.1=some (aG p.2 false)/\¬p.1="rec"/\¬p.1="case"/\¬p.1="row":=gB
theorem num_is {n:Int} (h0:0<=n) (h1:n<10^60):jn (numS n)=true/\uU (numS n)=n:=by
 refine⟨GR.Internal.num_is (k:=59) h0 h1 (by decide),?_⟩
 obtain⟨f1,f2,f3⟩:=str_fig (k:=59) h0 h1
 have hd:PySem.NumText.AllDigits (numS n).cps.toList:=fun c hc=>xO c (f1 c hc)
 have hne:(numS n).cps.toList≠[]:=by
  obtain⟨c,r,e⟩:=first_of (x:=numS n) f2
  rw[e]
  exact List.cons_ne_nil _ _
 have hl:(numS n).length<=60:=f3
 have e:=PySem.intText_digits hd hne (by lia)
 unfold uU
 rw[e]
 obtain⟨m,rfl⟩:=fC h0
 unfold numS
 rw[PySem.W.KIN.signs_num,PySem.W.KIN.val_back]
 rfl
theorem IL:∀c∈SM.cps.toList,¬c∈FG.cps.toList:=gB
theorem EA {w:Str} (h:isName w=true):¬jn w=true:=fun z=>by
 obtain⟨z1,_,z3⟩:=qP z
 obtain⟨c,r,ec⟩:=first_of z1
 unfold isName at h
 simp only[eZ]at h
 have hf:=h.1.2
 unfold firstIn at hf
 rw[ec]at hf
 exact IL c (of_decide_eq_true hf) (allIn_mem z3 c (by rw[ec];exact ah))
theorem rd_all:∀(f:Nat) (t:Tr),t.ok->t.nest<=f->RdT (gQ f) t
 |0,.mk κ ks,_,hn=>by rw[Tr.nest]at hn;lia
 |f+ 1,.mk κ ks,ho,hn=>by
  intro rest rows hl
  rw[Tr.ok]at ho
  rw[Tr.nest]at hn
  rw[Tr.sz]at hl
  obtain⟨h1,h2,h3⟩:=ho
  have ih:GG (gQ f) ks:=by
   intro t ht
   have:t.ok/\t.nest<=B7 ks:=by
    clear hl h1 h2
    induction ks with
    |nil=>cases ht
    |cons x xs ih=>
     rw[oks]at h3
     rw[B7]at hn⊢
     rcases aj.mp ht with e|e
     ·subst e
      exact⟨h3.1,Nat.le_max_left _ _⟩
     ·have:=ih (by lia) h3.2 e
      exact⟨this.1,by lia⟩
   exact rd_all f t this.1 (by lia)
  have r1:(rows++[Dt.flat .non]).length=rows.length+ 1:=by rw[aN];rfl
  have hs:∀(s:Str) (ps:List Bool),ps=aG ks.length false->stP s=some ps->(¬s="rec"/\¬s="case"/\¬s="row")->ja (gQ f) s ((tks ks).flatten++(")":Str)::rest) (rows++[.flat .non])=some (sD s::(offs ks (rows.length+ 1)).map kD,(")":Str)::rest,rows++[.flat .non]++rws ks (rows.length+ 1)):=fun s ps e1 e2 e3=>by
   refine nL e3.1 e3.2.1 e3.2.2 e2 ?_
   have:=qt ks ih [] [] ((")":Str)::rest) (rows++[.flat .non]) (by rw[r1];lia)
   rw[aD]at this
   rw[e1,this,r1,gM]
   rfl
  have hn1:∀(s w:Str),isName w=true->stP s=some (true::aG ks.length false)->(¬s="rec"/\¬s="case"/\¬s="row")->ja (gQ f) s (w::(tks ks).flatten++(")":Str)::rest) (rows++[.flat .non])=some (sD s::sD w::(offs ks (rows.length+ 1)).map kD,(")":Str)::rest,rows++[.flat .non]++rws ks (rows.length+ 1)):=fun s w hw e2 e3=>by
   refine nL e3.1 e3.2.1 e3.2.2 e2 ?_
   rw[aQ,qR hw]
   have:=qt ks ih [] [sD w] ((")":Str)::rest) (rows++[.flat .non]) (by rw[r1];lia)
   rw[aD]at this
   show gM (gQ f) (aG ks.length false) [sD w] _ _=_
   rw[this,r1,gM]
   rfl
  rw[Tr.tk,Tr.rw]
  cases κ with
  |num n=>
   have e:ks=[]:=bO h2
   subst e
   obtain⟨n1,n2⟩:=num_is h1.1 h1.2
   rw[gQ,gN (by lia)]
   show(match sv (gQ f) (numS n::rest) (rows++[Dt.flat .non])with|none=>none|some (ds,r,rows')=>some (r,rows'.set rows.length (Dt.tup ds)))=_
   rw[wa n1,n2]
   show some (rest,(rows++[Dt.flat .non]).set rows.length (Dt.tup _))=_
   have:=Ay (rows:=rows) (more:=[]) (x:=Dt.flat .non) (y:=Dt.tup [Dt.flat (.str "num"),Dt.flat (.int n)])
   rw[aD]at this
   rw[this]
   rfl
  |name w=>
   have e:ks=[]:=bO h2
   subst e
   have hw:isName w=true:=h1
   have hnn:¬jn w=true:=EA hw
   rw[gQ,gN (by lia)]
   show(match sv (gQ f) (w::rest) (rows++[Dt.flat .non])with|none=>none|some (ds,r,rows')=>some (r,rows'.set rows.length (Dt.tup ds)))=_
   rw[tK hnn hw]
   show some (rest,(rows++[Dt.flat .non]).set rows.length (Dt.tup _))=_
   have:=Ay (rows:=rows) (more:=[]) (x:=Dt.flat .non) (y:=Dt.tup [Dt.flat (.str "name"),Dt.flat (.str w)])
   rw[aD]at this
   rw[this]
   rfl
  |fn w=>exact mB (by lia) (hn1 "fn" w h1 (by rw[h2];exact(show stP "fn"=some (true::aG 1 false)from by decide+kernel)) gB)
  |tag w=>exact mB (by lia) (hn1 "tag" w h1 (by rw[h2];exact(show stP "tag"=some (true::aG 1 false)from by decide+kernel)) gB)
  |lt w=>exact mB (by lia) (hn1 "let" w h1 (by rw[h2];exact(show stP "let"=some (true::aG 2 false)from by decide+kernel)) gB)
  |get w=>
   refine mB (by lia) ?_
   refine nL (h:="get") gB gB gB (show stP "get"=some (aG ks.length false++[true]) by rw[h2];exact(show stP "get"=some (aG 1 false++[true])from by decide+kernel)) ?_
   have:=qt ks ih [true] [] (w::(")":Str)::rest) (rows++[.flat .non]) (by rw[r1];lia)
   show gM (gQ f) _ [] (((tks ks).flatten++[w])++(")":Str)::rest) _=_
   rw[bL]
   show gM (gQ f) _ [] ((tks ks).flatten++(w::(")":Str)::rest)) _=_
   rw[this,r1,qR (show isName w=true from h1),gM]
   rfl
  |rcd l=>
   refine mB (by lia) ?_
   have:=qT l ks h2.symm h1.2 ih [] rest (rows++[.flat .non]) (by rw[r1];lia)
   show ja (gQ f) "rec" _ _=_
   unfold ja
   rw[gX rfl]
   show(match chk 0 6 (iW (iS (gQ f) [true,false]) (wv1 l (tks ks)++(")":Str)::rest) (rows++[Dt.flat .non]) [])with|none=>none|some (l,r)=>some ([Dt.flat (.str "rec"),Dt.tup l],r))=_
   rw[this,r1]
   unfold chk
   dsimp only
   rw[gX ⟨cu _,by rw[bP,aC,bQ];have:=h1.1;lia⟩]
   rfl
  |row m=>
   refine mB (by lia) ?_
   have:=uZ ks ih h3 [] rest (rows++[.flat .non]) (by rw[r1];lia)
   show ja (gQ f) "row" _ _=_
   unfold ja
   rw[gN gB,gN gB,gX rfl]
   show(match chk 0 8 (iW (kz (gQ f)) ((tks ks).flatten++(")":Str)::rest) (rows++[Dt.flat .non]) [])with|none=>none|some (l,r)=>some ([Dt.flat (.str "row"),Dt.tup l],r))=_
   rw[this,r1]
   unfold chk
   dsimp only
   have h8:m<=8:=h1
   have hk:ks.length=m:=h2
   rw[gX ⟨cu _,by rw[bP,aC,tN];lia⟩]
   rfl
  |op s m=>
   obtain⟨e1,e2⟩:=GH (s,m) h1
   exact mB (by lia) (hs s _ (by rw[h2];rfl) e1 e2)
  |case l=>
   cases ks with
   |nil=>exact absurd h2 (by simp[Kn.ar])
   |cons t ts=>
    have hl2:l.length=ts.length:=by simpa[Kn.ar]using h2.symm
    refine mB (by lia) ?_
    rw[szs]at hl
    have hlen:(rows++[Dt.flat .non]++t.rw (rows.length+ 1)).length=rows.length+ 1+t.sz:=by rw[aN,Tr.rw_len,r1]
    have a1:=ih t ah (wv2 l (tks ts)++(")":Str)::rest) (rows++[.flat .non]) (by rw[r1];lia)
    rw[r1]at a1
    have a2:=u4 l ts hl2 h1.2.2 (fun x hx=>ih x (ai _ hx)) [] rest (rows++[.flat .non]++t.rw (rows.length+ 1)) (by rw[hlen];lia)
    show ja (gQ f) "case" _ _=_
    unfold ja
    rw[gN gB,gX rfl]
    show(match gQ f ((t.tk++wv2 l (tks ts))++(")":Str)::rest) (rows++[Dt.flat .non])with|none=>none|some (r1,rows1)=>match chk 1 6 (iW (iS (gQ f) [true,true,false]) r1 rows1 [])with|none=>none|some (l,r)=>some ([Dt.flat (.str "case"),Dt.flat (.int ((rows++[Dt.flat .non]).length:Int)),Dt.tup l],r))=_
    rw[bL,a1]
    dsimp only
    rw[a2,hlen]
    unfold chk
    dsimp only
    rw[gX ⟨by rw[bP,aC,bQ,tN];have:=h1.1;lia,by rw[bP,aC,bQ];have:=h1.2.1;lia⟩,r1]
    show some ([sD "case",kD (rows.length+ 1),Dt.tup _],(")":Str)::rest,rows++[Dt.flat .non]++t.rw (rows.length+ 1)++rws ts (rows.length+ 1+t.sz))=_
    rw[rws,offs,bL]
    rfl
end TM.Internal
namespace K66.Internal
open PySem L2.Internal
theorem l0 {P:List Value->Prop} (h:P []):∀us:List Value,us.length=0->P us:=fun us e=>by rw[bO e];exact h
theorem lS {n:Nat} {P:List Value->Prop} (h:∀a,∀us:List Value,us.length=n->P (a::us)):∀us:List Value,us.length=n+ 1->P us:=fun us e=>by
 cases us with
 |nil=>cases e
 |cons a t=>exact h a t (Nat.succ.inj e)
def top (i:Nat):Stmt:=PySem.Challenge.pw_flowkinds_k66_answers_shown.main.body.getD i (.Pass ⟨0,0,0,0⟩)
variable {K:PySem.W.Frag} {mg:Str->Option Value} {n q:Str} {st:Stmt} {ps:List Str} {C:Addr} {h:Heap}
inductive Fm (K:PySem.W.Frag) (n:Str) (st:Stmt):Prop
 |mk {f:Addr} {od an:Option Addr} {sl:Array (Option Value)} {oc kV dc pm cd ct:Value} (a:dZ K mainGlobals n=some (some (.ref f))) (l:K.lookup f=some ⟨oc,od,.func (dM n n (kU st) (jG st) (gu st) .none kV dc pm an cd ct),sl⟩) (c:dN K cd n=true) (k:dC K (.ref f)=true)
inductive Mm (K:PySem.W.Frag) (C:Addr) (n q:Str) (st:Stmt):Prop
 |mk {f:Addr} {od an:Option Addr} {sl:Array (Option Value)} {oc kV dc pm cd ct:Value} (i:da K (.ref C) n=some (some (.ref f))) (j:di K (.ref f)=true) (l:K.lookup f=some ⟨oc,od,.func (dM n q (kU st) (jG st) (gu st) .none kV dc pm an cd ct),sl⟩) (c:dN K cd q=true) (k:dC K (.ref f)=true)
structure Cm (K:PySem.W.Frag) (n:Str) (C:Addr):Prop where
 a:dZ K mainGlobals n=some (some (.ref C))
 pg:cY K C Str.empty=true
 hd:cZ K C=true
 po:dj K C=true
 sa:da K (.ref C) "__setattr__"=some (some (.builtin "object.__setattr__"))
 t1:da K (.ref C) "__class__"=some (some (.builtin "object.__class__"))
 t2:dB K (.builtin "object.__class__") "__get__"=some (some (.builtin "getset_descriptor.__get__"))
 t3:PySem.W.takesIn K (.builtin "object.__class__")=some true
 t4:PySem.W.mroIn K C (.type "object")=some true
 ms:dw K C=true
 kc:dC K (.ref C)=true
structure Fx (K:PySem.W.Frag) (mg:Str->Option Value) (n:Str) (st:Stmt) (ps:List Str) where
 a:Addr
 fd:FuncData
 F:Fun K n n st a fd
 b:m9 K fd ps []
 m:mg n=some (.ref a)
 k:dC K (.ref a)=true
structure Mx (K:PySem.W.Frag) (C:Addr) (n q:Str) (st:Stmt) (ps:List Str) where
 a:Addr
 fd:FuncData
 F:Fun K n q st a fd
 b:m9 K fd ps []
 me:Hs K C n a
structure Ck (K:PySem.W.Frag) (mg:Str->Option Value) (n:Str) where
 a:Addr
 m:mg n=some (.ref a)
 cl:Cls K a
 ty:∀(H:Hp) (x dx:Addr) (fs:List (Str×V)),H x=some (.ins a dx fs)->vJ K H (.ref x) (.ref a)
def Bf (n q:Str) (st:Stmt) (ps:List Str):Prop:=∀(kV doc pm:Value) (an:Option Addr) (cdv ct:Value) (us:List Value),us.length=ps.length->bindArgs (dM n q (kU st) (jG st) (gu st) .none kV doc pm an cdv ct) ⟨us,[]⟩=pure (ps.zip us)
def Fm.x (X:K.In h) (G:h.Ns mainGlobals mg) (a:Fm K n st) (hb:Bf n n st ps:=by intro _ _ _ _ _ _;repeat(first|exact l0 rfl|refine lS fun _=>?_)):Fx K mg n st ps:=Classical.choice (by
 obtain⟨a,l,c,k⟩:=a
 exact⟨⟨_,_,qH l c k,(qH l c k).binds hb,eF X G a,k⟩⟩)
def Mm.x (a:Mm K C n q st) (hb:Bf n q st ps:=by intro _ _ _ _ _ _;repeat(first|exact l0 rfl|refine lS fun _=>?_)):Mx K C n q st ps:=Classical.choice (by
 obtain⟨i,j,l,c,k⟩:=a
 exact⟨⟨_,_,qH l c k,(qH l c k).binds hb,⟨i,j,k⟩⟩⟩)
def Cm.x (X:K.In h) (G:h.Ns mainGlobals mg) (a:Cm K n C):Ck K mg n:=⟨C,eF X G a.a,⟨a.pg,a.hd,a.po,a.sa⟩,fun _ _ _ _ e=> .ins e ⟨a.pg,a.hd,a.po,a.sa⟩ a.t1 a.t2 a.t3 a.t4⟩
theorem sf {x:Option (Option Value)} {a b:Addr} (h1:x=some (some (.ref a))) (h2:x=some (some (.ref b))):a=b:=by rw[h1]at h2;cases h2;rfl
theorem Cm.k (a:Cm K n C) (x:Mx K C "__init__" q st ps):Mk K C x.a:=⟨a.ms,x.me.at_,x.me.fn,a.kc⟩
abbrev FO (P:Program) (w:World) (base:Heap) (k:Nat) (x:Fx K mg n st ps) (sp:Sp):Prop:=ow P w K mg base CX0 k x.a x.fd ps sp
abbrev MO (P:Program) (w:World) (base:Heap) (mg:Str->Option Value) (k:Nat) (x:Mx K C n q st ps) (sp:Sp):Prop:=ow P w K mg base CX0 k x.a x.fd ps sp
abbrev FE (P:Program) (w:World) (base:Heap) (k:Nat) (x:Fx K mg n st ps) (sp:Sp):Prop:=ow P w K mg base (CXE P w) k x.a x.fd ps sp
abbrev ME (P:Program) (w:World) (base:Heap) (mg:Str->Option Value) (k:Nat) (x:Mx K C n q st ps) (sp:Sp):Prop:=ow P w K mg base (CXE P w) k x.a x.fd ps sp
abbrev pd:Stmt:=top 11
abbrev nM:Stmt:=top 12
abbrev Az:Stmt:=top 13
abbrev lP:Stmt:=top 17
abbrev mC:Stmt:=top 18
abbrev ph:Stmt:=top 19
abbrev nN:Stmt:=top 20
abbrev qU:Stmt:=top 21
abbrev nO:Stmt:=top 22
abbrev pk:Stmt:=top 23
abbrev pA:Stmt:=top 24
abbrev pB:Stmt:=top 25
abbrev pE:Stmt:=top 26
abbrev pG:Stmt:=top 28
abbrev qV:Stmt:=top 29
abbrev EB:Stmt:=top 38
abbrev tO:Stmt:=top 39
abbrev lQ:Stmt:=top 40
abbrev pH:Stmt:=top 55
abbrev qW:Stmt:=top 56
abbrev nP:Stmt:=top 57
abbrev qX:Stmt:=top 58
abbrev AA:Stmt:=top 59
abbrev lR:Stmt:=top 60
abbrev pI:Stmt:=top 63
abbrev kX:Stmt:=top 64
abbrev mD:Stmt:=top 65
abbrev qY:Stmt:=top 66
abbrev lT:Stmt:=top 67
abbrev kY:Stmt:=top 68
abbrev qZ:Stmt:=top 69
abbrev nQ:Stmt:=top 71
abbrev mE:Stmt:=top 72
abbrev mF:Stmt:=top 73
abbrev kZ:Stmt:=top 74
abbrev mG:Stmt:=top 75
abbrev kE:Stmt:=top 76
abbrev tP:Stmt:=top 77
abbrev qd:Stmt:=ij (top 3) 0
abbrev pJ:Stmt:=ij (top 4) 0
abbrev nR:Stmt:=ij (top 5) 0
abbrev js:Stmt:=ij (top 7) 0
abbrev jJ:Stmt:=ij (top 16) 0
abbrev jb:Stmt:=ij (top 16) 1
abbrev jt:Stmt:=ij (top 16) 2
abbrev kF:Stmt:=ij (top 16) 3
abbrev ju:Stmt:=ij (top 16) 4
abbrev jv:Stmt:=ij (top 16) 5
abbrev kl:Stmt:=ij (top 16) 6
abbrev jV:Stmt:=ij (top 16) 7
abbrev kG:Stmt:=ij (top 16) 8
abbrev jK:Stmt:=ij (top 16) 9
abbrev k9:Stmt:=ij (top 37) 0
abbrev jL:Stmt:=ij (top 54) 0
abbrev jW:Stmt:=ij (top 61) 0
abbrev lj:Stmt:=ij (top 61) 1
abbrev lU:Stmt:=ij (top 61) 2
abbrev jM:Stmt:=ij (top 61) 3
abbrev jN:Stmt:=ij (top 61) 4
abbrev jO:Stmt:=ij (top 61) 5
abbrev jX:Stmt:=ij (top 61) 6
abbrev jP:Stmt:=ij (top 61) 7
abbrev jw:Stmt:=ij (top 61) 8
abbrev jx:Stmt:=ij (top 61) 9
abbrev jQ:Stmt:=ij (top 61) 10
abbrev jy:Stmt:=ij (top 61) 11
theorem scK {N ps:List Str} {s:Scope} (h:gy N ps s:=by constructor<;>first|rfl|decide+kernel):gy N ps s:=h
structure Ek (K:PySem.W.Frag) (mg:Str->Option Value) (n:Str) where
 a:Addr
 m:mg n=some (.ref a)
inductive Jm (K:PySem.W.Frag) (C:Addr) (q:Str) (st:Stmt):Prop
 |mk {f:Addr} {od an:Option Addr} {sl:Array (Option Value)} {oc kV dc pm cd ct:Value} {N:Addr} {z1 z2:Str} {y1 y2 y3:List Value} {y4:List Str} {y5:Bool} {y6:Option Bool} {y7:Option Addr} {k0 k1 k2 k3 k5:Option Value} (xl:K.lookup C=some ⟨.type "type",y7,.cls ⟨z1,y1,.ref C::y2,N,z2,true,y4,y3,y5,y6,false⟩,#[k0,k1,k2,k3,some (.builtin "ValueError.__new__"),k5]⟩) (xi:dZ K N "__init__"=some (some (.ref f)))
  (l:K.lookup f=some ⟨oc,od,.func (dM "__init__" q (kU st) (jG st) (gu st) .none kV dc pm an cd ct),sl⟩) (c:dN K cd q=true) (k:dC K (.ref f)=true) (xz:eg K N=true) (xt:eA K CK y2=true) (xp:oc= .type "function") (xj:da K (.ref C) "__setattr__"=some (some (.builtin "object.__setattr__")))
  (xa:da K (.ref C) "__getattribute__"=some (some (.builtin "BaseException.__getattribute__"))) (xb:da K (.ref C) "__getattr__"=some none) (xc:da K (.ref C) "__class__"=some (some (.builtin "object.__class__"))) (xd:dU K (.ref C) (.type "BaseException")=some true) (xe:dU K (.ref C) (.type "object")=some true) (xf:cZ K C=true)
structure Jx (K:PySem.W.Frag) (C:Addr) (q:Str) (st:Stmt) (ps:List Str) where
 a:Addr
 fd:FuncData
 F:Fun K "__init__" q st a fd
 b:m9 K fd ps []
 xi:IA K C a
 xs:Bi K C
def Jm.x (a:Jm K C q st) (hb:Bf "__init__" q st ps:=by intro _ _ _ _ _ _;repeat(first|exact l0 rfl|refine lS fun _=>?_)):Jx K C q st ps:=Classical.choice (by
 obtain⟨xl,xi,l,c,k,xz,xt,xp,xj,xa,xb,xc,xd,xe,xf⟩:=a
 exact⟨⟨_,_,qH l c k,(qH l c k).binds hb,Gs xl xz xi xt l xp,Gr xl xt ⟨xa,xb,xc,xd,xe,xf⟩ xj⟩⟩)
set_option genInjectivity false in
set_option genSizeOf false in
structure Txt (K:PySem.W.Frag) (mg:Str->Option Value) where
 t1:Tok
 o1:mg "MOST_JOINED"=some (.int 60 t1)
 t2:Tok
 o2:mg "LETTERS"=some (.str "abcdefghijklmnopqrstuvwxyz" t2)
 t3:Tok
 o3:mg "FIGURES"=some (.str "0123456789" t3)
 t4:Addr
 o4:mg "KEPT_WORDS"=some (.ref t4)
 r4:∀H:Hp,SqT K H t4 [V.str "def",V.str "fn",V.str "call",V.str "let",V.str "rec",V.str "get",V.str "tag",V.str "case",V.str "row",V.str "at",V.str "join",V.str "size",V.str "add",V.str "sub",V.str "less"]
 t5:Tok
 o5:mg "MOST_FIGURES"=some (.int 60 t5)
 t6:Tok
 o6:mg "MOST_SIGNS"=some (.int 12 t6)
 t7:Tok
 o7:mg "MOST_DEFINITIONS"=some (.int 12 t7)
 t8:Tok
 o8:mg "MOST_FIELDS"=some (.int 6 t8)
 t9:Tok
 o9:mg "MOST_ARMS"=some (.int 6 t9)
 t10:Tok
 o10:mg "MOST_THINGS"=some (.int 8 t10)
 t11:Tok
 o11:mg "MOST_PLACES"=some (.int 160 t11)
 t12:Tok
 o12:mg "MOST_NEST"=some (.int 24 t12)
 d1:Fx K mg "parts_of" pd ["row"]
 d2:Fx K mg "places_in" nM ["row"]
 d3:Fx K mg "flat" Az ["parts"]
 d4:Fx K mg "first_parts" lP ["row"]
 d5:Fx K mg "held_value" mC ["scope","place"]
 d6:Fx K mg "work_num" ph ["machine","row","place","scope","parts"]
 d7:Fx K mg "work_name" nN ["machine","row","place","scope","parts"]
 d8:Fx K mg "work_fn" qU ["machine","row","place","scope","parts"]
 d9:Fx K mg "work_call" nO ["machine","row","place","scope","parts"]
 d10:Fx K mg "work_let" pk ["machine","row","place","scope","parts"]
 d11:Fx K mg "work_rec" pA ["machine","row","place","scope","parts"]
 d12:Fx K mg "work_get" pB ["machine","row","place","scope","parts"]
 d13:Fx K mg "work_tag" pE ["machine","row","place","scope","parts"]
 d14:Fx K mg "work_row" pG ["machine","row","place","scope","parts"]
 d15:Fx K mg "work_at" qV ["machine","row","place","scope","parts"]
 d16:Fx K mg "run" EB ["program","homes","turns"]
 d17:Fx K mg "answer" tO ["run"]
 d18:Fx K mg "shown_value" lQ ["value"]
 d19:Fx K mg "words_of" pH ["text"]
 d20:Fx K mg "is_name" qW ["word"]
 d21:Fx K mg "is_number" nP ["word"]
 d22:Fx K mg "made_of" qX ["word","signs"]
 d23:Fx K mg "read" AA ["text"]
 d24:Fx K mg "check_count" lR ["what","count","least","most"]
 d25:Fx K mg "homes_of" pI ["program"]
 d26:Fx K mg "refuse_twice" kX ["words"]
 d27:Fx K mg "words_once" mD ["row"]
 d28:Fx K mg "home_of" qY ["row","place","scope"]
 d29:Fx K mg "root_scopes" lT ["program"]
 d30:Fx K mg "inner_scopes" kY ["row","scope"]
 d31:Fx K mg "widened" qZ ["scope","name","home"]
 d32:Fx K mg "_law_stem" nQ ["_law_cell","_law_size"]
 d33:Fx K mg "_law_words" mE ["_law_cell"]
 d34:Fx K mg "_law_value" mF ["_law_words_here","_law_c"]
 d35:Fx K mg "_law_refused" kZ ["_law_one","_law_meets"]
 d36:Fx K mg "_law_fn_by" mG ["_law_words_here","_law_cell"]
 d37:Fx K mg "_law_fn_shown" kE ["_law_words_here","_law_cell"]
 c1:Ek K mg "FlowError"
 c2:Ek K mg "BadText"
 x2:Hv K c2.a
 c3:Ek K mg "Twice"
 c4:Ek K mg "NoName"
 c5:Ek K mg "TooHeavy"
 c6:Ek K mg "BadPaper"
 c7:Ek K mg "WrongKind"
 j38:Jx K c7.a "WrongKind.__init__" js ["self","made","used","slot"]
 n7made:da K (.ref c7.a) "made"=some none
 n7used:da K (.ref c7.a) "used"=some none
 n7slot:da K (.ref c7.a) "slot"=some none
 c8:Ek K mg "OutOfTurns"
 x8:Hv K c8.a
 c9:Ek K mg "RowFull"
 x9:Hv K c9.a
 c10:Ck K mg "Machine"
 n10program:iN K c10.a "program"
 n10homes:iN K c10.a "homes"
 n10turns:iN K c10.a "turns"
 n10begun:iN K c10.a "begun"
 n10end:iN K c10.a "end"
 n10meets:iN K c10.a "meets"
 n10had:iN K c10.a "had"
 n10defined:iN K c10.a "defined"
 n10steps:iN K c10.a "steps"
 n10ready:iN K c10.a "ready"
 e39:Mx K c10.a "__init__" "Machine.__init__" jJ ["self","program","homes","turns"]
 mk10:Mk K c10.a e39.a
 e40:Mx K c10.a "work_program" "Machine.work_program" jb ["self"]
 e41:Mx K c10.a "work_steps" "Machine.work_steps" jt ["self"]
 e42:Mx K c10.a "begin" "Machine.begin" kF ["self","place","scope"]
 e43:Mx K c10.a "work_parts" "Machine.work_parts" ju ["self","place","scope"]
 e44:Mx K c10.a "take_ready" "Machine.take_ready" jv ["self","count"]
 e45:Mx K c10.a "finish" "Machine.finish" kl ["self","place","value"]
 e46:Mx K c10.a "go_into" "Machine.go_into" jV ["self","body","scope","place"]
 e47:Mx K c10.a "comes" "Machine.comes" kG ["self","value","place","slot","fits"]
 e48:Mx K c10.a "comes_as" "Machine.comes_as" jK ["self","shape","value","place","slot"]
 c11:Ck K mg "Run"
 n11end:iN K c11.a "end"
 n11value:iN K c11.a "value"
 n11meets:iN K c11.a "meets"
 n11had:iN K c11.a "had"
 n11begun:iN K c11.a "begun"
 e49:Mx K c11.a "__init__" "Run.__init__" k9 ["self","end","value","meets","had","begun"]
 mk11:Mk K c11.a e49.a
 c12:Ck K mg "Program"
 n12names:iN K c12.a "names"
 n12roots:iN K c12.a "roots"
 n12rows:iN K c12.a "rows"
 e50:Mx K c12.a "__init__" "Program.__init__" jL ["self","names","roots","rows"]
 mk12:Mk K c12.a e50.a
 c13:Ck K mg "Reader"
 n13words:iN K c13.a "words"
 n13taken:iN K c13.a "taken"
 n13rows:iN K c13.a "rows"
 e51:Mx K c13.a "__init__" "Reader.__init__" jW ["self","words"]
 mk13:Mk K c13.a e51.a
 e52:Mx K c13.a "ahead" "Reader.ahead" lj ["self"]
 e53:Mx K c13.a "take" "Reader.take" lU ["self"]
 e54:Mx K c13.a "pass_over" "Reader.pass_over" jM ["self","wanted"]
 e55:Mx K c13.a "take_name" "Reader.take_name" jN ["self"]
 e56:Mx K c13.a "take_expr" "Reader.take_expr" jO ["self","depth"]
 e57:Mx K c13.a "take_row" "Reader.take_row" jX ["self","depth"]
 e58:Mx K c13.a "take_form" "Reader.take_form" jP ["self","head","depth"]
 e59:Mx K c13.a "take_steady" "Reader.take_steady" jw ["self","parts","depth"]
 e60:Mx K c13.a "take_fields" "Reader.take_fields" jx ["self","depth"]
 e61:Mx K c13.a "take_arms" "Reader.take_arms" jQ ["self","depth"]
 e62:Mx K c13.a "take_things" "Reader.take_things" jy ["self","depth"]
 v1:eE K (.ref c8.a) (.ref c8.a)=some true
 v2:eE K (.ref c9.a) (.ref c9.a)=some true
 v3:eE K (.ref c7.a) (.ref c7.a)=some true
 v4:eE K (.ref c8.a) (.ref c1.a)=some true
 v5:eE K (.ref c9.a) (.ref c1.a)=some true
 v6:eE K (.ref c7.a) (.ref c1.a)=some true
 v7:eE K (.ref c9.a) (.ref c8.a)=some false
 v8:eE K (.ref c7.a) (.ref c8.a)=some false
 v9:eE K (.ref c7.a) (.ref c9.a)=some false
 v10:Kts K c8.a c9.a c7.a c6.a c2.a c4.a c5.a c3.a
 v11:Kts K c9.a c8.a c7.a c6.a c2.a c4.a c5.a c3.a
 v12:Kts K c7.a c8.a c9.a c6.a c2.a c4.a c5.a c3.a
 z_ValueError:mg "ValueError"=none
 z_all:mg "all"=none
 z_dict:mg "dict"=none
 z_enumerate:mg "enumerate"=none
 z_int:mg "int"=none
 z_isinstance:mg "isinstance"=none
 z_len:mg "len"=none
 z_list:mg "list"=none
 z_range:mg "range"=none
 z_reversed:mg "reversed"=none
 z_str:mg "str"=none
 z_sum:mg "sum"=none
 z_tuple:mg "tuple"=none
 z_zip:mg "zip"=none
theorem wj:gy ["row"] ["row"] (gu pd):=scK
theorem va:gy ["row"] ["row"] (gu nM):=scK
theorem tQ:gy ["parts","found","part"] ["parts"] (gu Az):=scK
theorem rN:gy ["row"] ["row"] (gu lP):=scK
theorem lV:gy ["scope","place","around"] ["scope","place"] (gu mC):=scK
theorem wk:gy ["machine","row","place","scope","parts"] ["machine","row","place","scope","parts"] (gu ph):=scK
theorem pY:gy ["machine","row","place","scope","parts","home"] ["machine","row","place","scope","parts"] (gu nN):=scK
theorem yJ:gy ["machine","row","place","scope","parts"] ["machine","row","place","scope","parts"] (gu qU):=scK
theorem pZ:gy ["machine","row","place","scope","parts","called"] ["machine","row","place","scope","parts"] (gu nO):=scK
theorem wm:gy ["machine","row","place","scope","parts"] ["machine","row","place","scope","parts"] (gu pk):=scK
theorem rb:gy ["machine","row","place","scope","parts","fields"] ["machine","row","place","scope","parts"] (gu pA):=scK
theorem rg:gy ["machine","row","place","scope","parts","fields"] ["machine","row","place","scope","parts"] (gu pB):=scK
theorem wo:gy ["machine","row","place","scope","parts"] ["machine","row","place","scope","parts"] (gu pE):=scK
theorem wq:gy ["machine","row","place","scope","parts"] ["machine","row","place","scope","parts"] (gu pG):=scK
theorem pK:gy ["machine","row","place","scope","parts","things","index"] ["machine","row","place","scope","parts"] (gu qV):=scK
theorem AB:gy ["program","homes","turns","machine","value"] ["program","homes","turns"] (gu EB):=scK
theorem vb:gy ["run","last"] ["run"] (gu tO):=scK
theorem rO:gy ["value"] ["value"] (gu lQ):=scK
theorem rh:gy ["text","spaced"] ["text"] (gu pH):=scK
theorem yK:gy ["word"] ["word"] (gu qW):=scK
theorem vc:gy ["word"] ["word"] (gu nP):=scK
theorem yL:gy ["word","signs"] ["word","signs"] (gu qX):=scK
theorem tR:gy ["text","reader","names","roots"] ["text"] (gu AA):=scK
theorem rQ:gy ["what","count","least","most"] ["what","count","least","most"] (gu lR):=scK
theorem jY:gy ["program","scopes","homes","place","row","scope"] ["program"] (gu pI):=scK
theorem kH:gy ["words","seen","word"] ["words"] (gu kX):=scK
theorem tT:gy ["row"] ["row"] (gu mD):=scK
theorem yM:gy ["row","place","scope"] ["row","place","scope"] (gu qY):=scK
theorem iH:gy ["program","scopes","earlier","number","name","root","later"] ["program"] (gu lT):=scK
theorem jR:gy ["row","scope","scopes","place","arm"] ["row","scope"] (gu kY):=scK
theorem sx:gy ["scope","name","home","wider"] ["scope","name","home"] (gu qZ):=scK
theorem iT:gy ["_law_cell","_law_size","_law_signs","_law_stem_here","_law_k","_law_many"] ["_law_cell","_law_size"] (gu nQ):=scK
theorem ie:gy ["_law_cell","_law_size","_law_words_here","_law_stem_here","_law_at","_law_k","_law_word","_law_part"] ["_law_cell"] (gu mE):=scK
theorem iq:gy ["_law_words_here","_law_c","_law_place","_law_n","_law_names","_law_fields","_law_word","_law_many","_law_things"] ["_law_words_here","_law_c"] (gu mF):=scK
theorem gU:gy ["_law_one","_law_meets","_law_told","_law_fields","e","_law_base"] ["_law_one","_law_meets"] (gu kZ):=scK
theorem oH:gy ["_law_words_here","_law_cell","_law_fn"] ["_law_words_here","_law_cell"] (gu mG):=scK
theorem iC:gy ["_law_words_here","_law_cell","_law_text","_law_due","_law_first","_law_program","_law_over","_law_found"] ["_law_words_here","_law_cell"] (gu kE):=scK
theorem nu:gy ["_law_script","_law_words_here","_law_at","_law_cell","_law_c","_law_value_here","_law_text","_law_found","_law_meets","_law_end"] ["_law_script"] (gu tP):=scK
theorem yN:gy ["self","word"] ["self","word"] (gu qd):=scK
theorem xS:gy ["self","word","place"] ["self","word","place"] (gu pJ):=scK
theorem vz:gy ["self","word"] ["self","word"] (gu nR):=scK
theorem mH:gy ["self","made","used","slot"] ["self","made","used","slot"] (gu js):=scK
theorem nS:gy ["self","program","homes","turns"] ["self","program","homes","turns"] (gu jJ):=scK
theorem jS:gy ["self","root"] ["self"] (gu jb):=scK
theorem ke:gy ["self","step"] ["self"] (gu jt):=scK
theorem lZ:gy ["self","place","scope","part"] ["self","place","scope"] (gu kF):=scK
theorem kg:gy ["self","place","scope","row"] ["self","place","scope"] (gu ju):=scK
theorem jj:gy ["self","count","taken","number"] ["self","count"] (gu jv):=scK
theorem pL:gy ["self","place","value"] ["self","place","value"] (gu kl):=scK
theorem oJ:gy ["self","body","scope","place"] ["self","body","scope","place"] (gu jV):=scK
theorem qf:gy ["self","value","place","slot","fits"] ["self","value","place","slot","fits"] (gu kG):=scK
theorem nT:gy ["self","shape","value","place","slot"] ["self","shape","value","place","slot"] (gu jK):=scK
theorem rj:gy ["self","end","value","meets","had","begun"] ["self","end","value","meets","had","begun"] (gu k9):=scK
theorem nU:gy ["self","names","roots","rows"] ["self","names","roots","rows"] (gu jL):=scK
theorem oK:gy ["self","words"] ["self","words"] (gu jW):=scK
theorem rk:gy ["self"] ["self"] (gu lj):=scK
theorem nv:gy ["self","word"] ["self"] (gu lU):=scK
theorem kI:gy ["self","wanted","word"] ["self","wanted"] (gu jM):=scK
theorem kJ:gy ["self","word"] ["self"] (gu jN):=scK
theorem jE:gy ["self","depth","place"] ["self","depth"] (gu jO):=scK
theorem jT:gy ["self","depth","word","row"] ["self","depth"] (gu jX):=scK
theorem kK:gy ["self","head","depth","subject"] ["self","head","depth"] (gu jP):=scK
theorem jk:gy ["self","parts","depth","found","part"] ["self","parts","depth"] (gu jw):=scK
theorem kh:gy ["self","depth","found"] ["self","depth"] (gu jx):=scK
theorem kM:gy ["self","depth","found"] ["self","depth"] (gu jQ):=scK
theorem ki:gy ["self","depth","found"] ["self","depth"] (gu jy):=scK
def xT (K:PySem.W.Frag):Sp:=fun vs H Q _=>∃(a:Addr) (ns:List Int),vs=[.ref a]/\SqL K H a (ns.map V.int)/\ns.length<=63/\∀H',Q (.bl true) H'
theorem _root_.L2.Internal.Fun.rd {P:Program} {w:World} {base:Heap} {f:Addr} {fd:FuncData} {N:List Str} {k:Nat} {sp:Sp} (F:Fun K n q st f fd) (S:gy N ps (gu st)) (hbody:∀(cdv:Value) (A:Around) (outer:List Env) (s:Shared) (H:Hp) (vs:List V) (Q:VK) (E:XK),lu k (A.deeper (PyProof.Rows.envOfC q (gu st) s.heap.objs.size f cdv))->sp vs H Q E->∃t,PSs (qE CX0 P w K mg base N q (gu st) f cdv A outer s H E).nox (jG st) t/\t {nx:=fun _ H'=>Q .non H',rt:=Q} (ox N vs) H) (len:∀vs H Q E,sp vs H Q E->vs.length=ps.length:=by intro _ _ _ _ h;repeat(first|(obtain⟨rfl,_⟩:=h;rfl)|(cases h;first|(subst_vars;rfl)|rename_i h))):ow P w K mg base CX0 (k+ 1) f fd ps sp:=F.ok S len hbody
section
variable {X:Cx}
theorem pF {e:Expr} {es:List Expr} {pos p:Pos} {k:Nat} {sp:Sp} {t:TA} (x:Fx X.K X.mg n st ps) (F:ow X.prog X.w X.K X.mg X.base CX0 k x.a x.fd ps sp) (hr:lu k X.A) (ha:PA X (e::es) t) (hg:Gl X n:=by exact rfl) (hdb:autoParam ((n==("__debug__":Str))=false) L2.Internal.auD._auto_1) (he:autoParam (starEach (e::es) X.env=(false,eval e X.env)::starEach es X.env) L2.Internal.auR._auto_1) (hpl:autoParam ((backTo pos (starEach es X.env)).any (·.1)=false) L2.Internal.auR._auto_1):PE X (.Call (.Name n p) (e::es) [] pos) (DE sp [] E0 t):=ml F hr hg x.m x.k x.b .nil je ha hdb he hpl
theorem pS {i:Nat} {x:Str} {e:Expr} {te:TE} {pos pos':Pos} (hN:X.N.Nodup) (he:PE X e te) (hi:autoParam (X.N[i]?=some x) L2.Internal.auR._auto_1) (hx:Loc X.env.scope x:=by first|exact .inl rfl|exact .inr rfl) (hs:autoParam (swapsWith e (some (.Name x pos')) pos.line X.env=pure false) L2.Internal.auR._auto_1) (hf:autoParam (X.fn x=true\/X.env.scope.names.lookup x=some .local) L2.Internal.auL._auto_1):PS X (.Assign [.Name x pos'] e pos) (Bo te (ia i)):=Fo hN hi hx he hs hf
theorem pN {i:Nat} {x:Str} {pos:Pos} (hN:X.N.Nodup) (hi:autoParam (X.N[i]?=some x) L2.Internal.auR._auto_1) (hx:Loc X.env.scope x:=by first|exact .inl rfl|exact .inr rfl) (hf:autoParam (X.fn x=true\/X.env.scope.names.lookup x=some .local) L2.Internal.auL._auto_1):PG X (.Name x pos) (ia i):=vE hN hi hx hf
theorem JV {scope:Scope} {x:Str} (ns:List Str) (cap:List (Str×Nat×Addr)) (hns:autoParam (cap.map (·.1)=ns) L2.Internal.auR._auto_1) (hk:autoParam (scope.kind= .function) L2.Internal.auR._auto_1) (hn:∀p∈scope.names,p.2≠ .cell/\(p.2= .free->p.1∈ns):=by decide+kernel) (hl:∀y∈scope.names,y.2= .local->scope.names.lookup y.1=some .local:=by decide+kernel)
  (hx:autoParam (scope.names.lookup x=some .local) L2.Internal.auR._auto_1) (hnd:(x::ns).Nodup:=by decide+kernel) (hc:autoParam (closureFor scope X.env=pure (cap.map fun p=>(p.1,p.2.2))) L2.Internal.auR._auto_1) (hok:autoParam (X.env.scope.kind= .function) L2.Internal.auR._auto_1)
  (h:∀p∈cap,scope.names.lookup p.1=some .free/\X.env.cells.lookup p.1=some p.2.2/\X.env.scope.names.lookup p.1=some .cell/\X.N[p.2.1]?=some p.1:=by repeat(first|refine bR.mpr ⟨⟨rfl,rfl,rfl,rfl⟩,?_⟩|exact fun _ h=>absurd h bz)):
  oz X (x::ns) scope (cap.map fun p=>(p.1,p.2.2)) (fun σ=>none::cap.map fun p=>σ.getD p.2.1 none) 0 x:=blkC ns cap hns hk hn hl hx hnd hc hok h
theorem blkD2 {scope:Scope} {x y:Str} (ns:List Str) (cap:List (Str×Nat×Addr)) (hns:autoParam (cap.map (·.1)=ns) L2.Internal.auR._auto_1) (hk:autoParam (scope.kind= .function) L2.Internal.auR._auto_1) (hn:∀p∈scope.names,p.2≠ .cell/\(p.2= .free->p.1∈ns):=by decide+kernel) (hl:∀y∈scope.names,y.2= .local->scope.names.lookup y.1=some .local:=by decide+kernel)
  (hx:autoParam (scope.names.lookup x=some .local) L2.Internal.auR._auto_1) (hnd:(x::y::ns).Nodup:=by decide+kernel) (hc:autoParam (closureFor scope X.env=pure (cap.map fun p=>(p.1,p.2.2))) L2.Internal.auR._auto_1) (hok:autoParam (X.env.scope.kind= .function) L2.Internal.auR._auto_1)
  (h:∀p∈cap,scope.names.lookup p.1=some .free/\X.env.cells.lookup p.1=some p.2.2/\X.env.scope.names.lookup p.1=some .cell/\X.N[p.2.1]?=some p.1:=by repeat(first|refine bR.mpr ⟨⟨rfl,rfl,rfl,rfl⟩,?_⟩|exact fun _ h=>absurd h bz)):
  oz X (x::y::ns) scope (cap.map fun p=>(p.1,p.2.2)) (fun σ=>none::none::cap.map fun p=>σ.getD p.2.1 none) 0 x:=Ip ns cap hns hk hn hl hx hnd hc hok h
theorem pgP {scope:Scope} {cl:List (Str×Addr)} {x y:Str} {ns:List Str} {px py tp:Pos} {kk:Nat} (hc:X.calm=true) (nd:(x::y::ns).Nodup) (hx:scope.names.lookup x=some .local) (hy:scope.names.lookup y=some .local) (C:Addr) (s₀:Shared) (H₀:Hp) (ex:List Addr) (pz:AoL):PG (blk X (x::y::ns) scope cl C s₀ H₀ ex pz) (.Tuple [.Name x px,.Name y py] kk tp) (E4 X.K 2 (qD (ia 0) (qD (ia 1) E3))):=
 wZ (n:=2) (X:=blk X (x::y::ns) scope cl C s₀ H₀ ex pz) hc (jB (vE (X:=blk X (x::y::ns) scope cl C s₀ H₀ ex pz) (i:=0) nd rfl (.inl (lookup_relabel_local hx)) (.inr (lookup_relabel_local hx))) (jB (vE (X:=blk X (x::y::ns) scope cl C s₀ H₀ ex pz) (i:=1) nd rfl (.inl (lookup_relabel_local hy)) (.inr (lookup_relabel_local hy))) oT))
end
end K66.Internal
inductive X2 {a0 a1:Type} (p:a0->a1->Prop):Prop
 |mk x0 x1:p x0 x1->X2 p
inductive X3 {a0 a1 a2:Type} (p:a0->a1->a2->Prop):Prop
 |mk x0 x1 x2:p x0 x1 x2->X3 p
inductive X4 {a0 a1 a2 a3:Type} (p:a0->a1->a2->a3->Prop):Prop
 |mk x0 x1 x2 x3:p x0 x1 x2 x3->X4 p
inductive X5 {a0 a1 a2 a3 a4:Type} (p:a0->a1->a2->a3->a4->Prop):Prop
 |mk x0 x1 x2 x3 x4:p x0 x1 x2 x3 x4->X5 p
inductive X6 {a0 a1 a2 a3 a4 a5:Type} (p:a0->a1->a2->a3->a4->a5->Prop):Prop
 |mk x0 x1 x2 x3 x4 x5:p x0 x1 x2 x3 x4 x5->X6 p
inductive X7 {a0 a1 a2 a3 a4 a5 a6:Type} (p:a0->a1->a2->a3->a4->a5->a6->Prop):Prop
 |mk x0 x1 x2 x3 x4 x5 x6:p x0 x1 x2 x3 x4 x5 x6->X7 p
inductive X8 {a0 a1 a2 a3 a4 a5 a6 a7:Type} (p:a0->a1->a2->a3->a4->a5->a6->a7->Prop):Prop
 |mk x0 x1 x2 x3 x4 x5 x6 x7:p x0 x1 x2 x3 x4 x5 x6 x7->X8 p
inductive X9 {a0 a1 a2 a3 a4 a5 a6 a7 a8:Type} (p:a0->a1->a2->a3->a4->a5->a6->a7->a8->Prop):Prop
 |mk x0 x1 x2 x3 x4 x5 x6 x7 x8:p x0 x1 x2 x3 x4 x5 x6 x7 x8->X9 p
inductive X10 {a0 a1 a2 a3 a4 a5 a6 a7 a8 a9:Type} (p:a0->a1->a2->a3->a4->a5->a6->a7->a8->a9->Prop):Prop
 |mk x0 x1 x2 x3 x4 x5 x6 x7 x8 x9:p x0 x1 x2 x3 x4 x5 x6 x7 x8 x9->X10 p
structure Y3 (a0 a1 a2:Prop):Prop where mk::
 (h0:a0) (h1:a1) (h2:a2)
structure Y4 (a0 a1 a2 a3:Prop):Prop where mk::
 (h0:a0) (h1:a1) (h2:a2) (h3:a3)
structure Y5 (a0 a1 a2 a3 a4:Prop):Prop where mk::
 (h0:a0) (h1:a1) (h2:a2) (h3:a3) (h4:a4)
structure Y6 (a0 a1 a2 a3 a4 a5:Prop):Prop where mk::
 (h0:a0) (h1:a1) (h2:a2) (h3:a3) (h4:a4) (h5:a5)
structure Y7 (a0 a1 a2 a3 a4 a5 a6:Prop):Prop where mk::
 (h0:a0) (h1:a1) (h2:a2) (h3:a3) (h4:a4) (h5:a5) (h6:a6)
structure Y8 (a0 a1 a2 a3 a4 a5 a6 a7:Prop):Prop where mk::
 (h0:a0) (h1:a1) (h2:a2) (h3:a3) (h4:a4) (h5:a5) (h6:a6) (h7:a7)
structure Y9 (a0 a1 a2 a3 a4 a5 a6 a7 a8:Prop):Prop where mk::
 (h0:a0) (h1:a1) (h2:a2) (h3:a3) (h4:a4) (h5:a5) (h6:a6) (h7:a7) (h8:a8)
structure Y11 (a0 a1 a2 a3 a4 a5 a6 a7 a8 a9 a10:Prop):Prop where mk::
 (h0:a0) (h1:a1) (h2:a2) (h3:a3) (h4:a4) (h5:a5) (h6:a6) (h7:a7) (h8:a8) (h9:a9) (h10:a10)
namespace K66.Internal
open PySem L2.Internal GR.Internal
def rm:Sp:=fun vs H Q _=>∃x:Str,Y3 (vs=[.str x]) (x.length<=30000) (∀(p:Addr) (H':Hp),gP H H'->H p=none->H' p=some (.lst (qN x.cps.toList))->Q (.ref p) H')
abbrev r1 (x:Str):Str:=Txt.replace x "(" " ( "
abbrev r2 (x:Str):Str:=Txt.replace (r1 x) ")" " ) "
abbrev r3 (x:Str):Str:=Txt.replace (r2 x) "\n" " "
theorem c1 (x:Str):(r1 x).cps.toList=T1.sub 40 [32,40,32] x.cps.toList:=T1.replace_codes x " ( " 40
theorem c2 (x:Str):(r2 x).cps.toList=T1.sub 41 [32,41,32] (T1.sub 40 [32,40,32] x.cps.toList):=by
 rw[<-c1]
 exact T1.replace_codes (r1 x) " ) " 41
theorem c3 (x:Str):(r3 x).cps.toList=T1.spaced x.cps.toList:=by
 rw[<-T1.spaced_sub,<-c2]
 exact T1.replace_codes (r2 x) " " 10
theorem wu (c:Nat) (z:List Nat) (n:Nat) (h1:1<=n) (h:z.length<=n) (l:List Nat):(T1.sub c z l).length<=n*l.length:=T1.flat_len _ n (fun k=>by split;exact h;exact h1) l
theorem l1 (x:Str):(r1 x).length<=3*x.length:=by
 rw[<-T1.len_codes,<-T1.len_codes,c1]
 exact wu _ _ 3 (by decide) (by decide) _
theorem l2 (x:Str):(r2 x).length<=9*x.length:=by
 have h:=l1 x
 have e:(r2 x).length<=3*(r1 x).length:=by
  rw[<-T1.len_codes,<-T1.len_codes,c2,c1]
  exact wu _ _ 3 (by decide) (by decide) _
 lia
theorem l3 (x:Str):(r3 x).length<=9*x.length:=by
 have h:=l2 x
 have e:(r3 x).length<=1*(r2 x).length:=by
  rw[<-T1.len_codes,<-T1.len_codes]
  have e3:(r3 x).cps.toList=T1.sub 10 [32] (r2 x).cps.toList:=T1.replace_codes (r2 x) " " 10
  rw[e3]
  exact wu _ _ 1 (by decide) (by decide) _
 lia
def ne0:V->Bool:=fun v=>!decide (v=V.str "")
theorem wx (x:Str):(((Txt.split (r3 x) " ").map V.str).filter ne0).map id=qN x.cps.toList:=by
 have e:=T1.split_codes (r3 x) 32
 rw[c3]at e
 have e2:T1.all (T1.W x.cps.toList)=((Txt.split (r3 x) ⟨#[32]⟩).map (·.cps.toList)).filter fun p=>decide (p≠[]):=by
  rw[e,T1.words_cut]
  rfl
 unfold qN
 rw[e2,List.map_id,List.filter_map,List.filter_map,bx]
 show((Txt.split (r3 x) ⟨#[32]⟩).filter (ne0∘V.str)).map V.str=_
 have ef:(ne0∘V.str)=((fun p=>decide (p≠[]))∘fun(y:Str)=>y.cps.toList):=by
  funext y
  show(!decide (V.str y=V.str ""))=decide (y.cps.toList≠[])
  by_cases h:y=("":Str)
  ·subst h
   rfl
  ·have h1:¬V.str y=V.str "":=fun z=>h (by injection z)
   have h2:y.cps.toList≠[]:=fun z=>h (T1.str_ext z)
   rw[iI h1,ir h2]
   rfl
 rw[ef]
 refine bS fun y _=>?_
 show V.str y=V.str ⟨y.cps.toList.toArray⟩
 rw[Array.toArray_toList]
theorem wy (T:Txt K mg):FO P w base 1 T.d19 rm:=by
 obtain⟨oc,od,kV,doc,pm,an,cdv,ct,osl,efd,lk,hcd⟩:=T.d19.F.ex
 rw[efd]at lk
 show ow P w K mg base CX0 1 _ T.d19.fd _ _
 rw[efd]
 refine FT lk hcd rh gB (fun n=>rfl) (fun vs H Q E h=>?_) (fun A outer s H vs Q E hr h=>?_)
 ·obtain⟨x,rfl,_⟩:=h
  rfl
 obtain⟨x,rfl,hx,q⟩:=h
 refine⟨_,E6.nox (BF (i:=1) rh.nd rfl (.inl rfl) (sR (sR (sR (PE.one (pv 0)) gB) gB) gB)
  (gk (gJ (vT rfl (E5 (x:="word") rfl gB gB rfl rfl) (oU (jF eP PySem.F.slot_str_split PySem.F.type_str_split BE (pv 1) (f9 gq gf))) (fun _ _ _ _ _=>(zJ (i8 nC (pv 0) gq))) (fun _ _ _ _ _=>(pv 0)))))),?_⟩
 have h1:=l1 x
 have h2:=l2 x
 have h3:=l3 x
 have z3:(" ( ":Str).length=3:=gB
 have z3':(" ) ":Str).length=3:=gB
 have z1:(" ":Str).length=1:=gB
 refine⟨_,rfl,x,rfl,(by rw[z3];lia),r1 x,rfl,(by rw[z3'];lia),r2 x,rfl,(by rw[z1];lia),?_⟩
 refine⟨_,rfl,rfl,r3 x," ",rfl,rfl,rfl,(by have e:sizeLine=16777216:=sizeLine_eq;lia),fun p hp=>⟨p,rfl,⟨_,SqL.of gh⟩,fun D hD=>?_⟩⟩
 have sp:gP H (upd H p (.lst ((Txt.split (r3 x) " ").map V.str))):=gm hp _
 have hl:=qJ (r3 x) " "
 refine FN (xs:=(Txt.split (r3 x) " ").map V.str) ne0 id hD ?_ ?_ ?_ ?_ ?_ ?_ ?_ ?_
 ·rw[aC]
  have e:sizeLine=16777216:=sizeLine_eq
  lia
 ·rfl
 ·intro k H' hs hk
  exact⟨_,_,SqL.of (hs _ _ gh),bu hk⟩
 ·intro k H' v H'' hs hv
  obtain⟨e,z⟩:=hv
  exact⟨e,z _ (SqL.of (hs _ _ gh))⟩
 ·intro H' hs
  exact⟨_,SqL.of (hs _ _ gh),cq _⟩
 ·intro k v H' R hv _ r
  obtain⟨y,rfl⟩:∃y,v=V.str y:=by
   rw[aK]at hv
   obtain⟨y,_,e⟩:=cN.mp hv
   exact⟨y,e.symm⟩
  exact⟨_,rfl,rfl,_,rfl,r⟩
 ·intro k v H' R hv _ _ r
  exact⟨_,rfl,r⟩
 ·intro H' hs hl'
  refine q D H' (sp.trans hs) (sp.free hD) ?_
  rw[hl',wx]
def pM:Sp:=fun vs H Q _=>X2 fun(x y:Str)=>Y3 (vs=[.str x,.str y]) (x.length<=30000) (∀H',gP H H'->Q (.bl (allIn x y)) H')
theorem yO (T:Txt K mg):FO P w base 1 T.d22 pM:=by
 refine T.d22.F.rd yL fun cdv A outer s H vs Q E hr h=>?_
 obtain⟨x,y,rfl,hx,q⟩:=h
 refine⟨_,(gk (gJ (gY (BD rfl) rfl T.z_all FJ (f9 (vT rfl (blk1 (x:="sign") (y:="signs") (j:=1) (c0:=s.heap.objs.size+ 1) rfl gB gB rfl rfl rfl rfl rfl rfl rfl) (FL (pv 0)) (fun _ _ _ _ _=>nK) (fun _ _ _ _ _=>(mh uq (pv 0) (pv 1) rfl))) gf)))),?_⟩
 refine⟨_,rfl,x,rfl,fun D hD=>?_⟩
 have sl:=sizeLine_eq
 have ll:=T1.len_codes x
 have sz':x.cps.size=x.cps.toList.length:=(fq).symm
 refine FN (xs:=x.cps.toList.map fun c=>V.str ⟨#[c]⟩) (fun _=>true) (fun v=>match v with| .str z=> .bl (!(Builtin.Str.occurrences y z 0 y.length 1).isEmpty)|_=> .non) hD ?_ ?_ ?_ ?_ ?_ ?_ ?_ ?_
 ·rw[aC]
  lia
 ·rfl
 ·intro k H' hs hk
  rw[aC]at hk
  show k<x.cps.size
  lia
 ·intro k H' v H'' hs hv
  obtain⟨e,c,hc,rfl⟩:=hv
  refine⟨e,?_⟩
  rw[aK,ft,hc]
  rfl
 ·intro H' hs
  show _=x.cps.size
  rw[aC]
  lia
 ·intro k v H' R hv _ r
  exact r
 ·intro k v H' R hv _ _ r
  rw[aK]at hv
  obtain⟨c,_,rfl⟩:=cN.mp hv
  exact⟨_,rfl,_,rfl,_,_,rfl,rfl,r⟩
 ·intro H' hs hl
  refine⟨D,x.cps.toList.map fun c=>decide (c∈y.cps.toList),rfl,SqL.of ?_,?_⟩
  ·rw[hl,List.filter_eq_self.mpr (fun _ _=>rfl),bx,bx]
   refine congrArg (fun l=>some (HO.lst l)) (bS fun c _=>?_)
   show V.bl _=V.bl _
   rw[StrLaws.found_one]
  ·have e:(x.cps.toList.map fun c=>decide (c∈y.cps.toList)).all id=allIn x y:=by
    rw[br]
    rfl
   rw[e]
   exact q H' hs
def mX:Sp:=fun vs H Q _=>∃x:Str,Y3 (vs=[.str x]) (x.length<=30000) (∀H',gP H H'->Q (.bl (isName x)) H')
theorem yP (T:Txt K mg) (gD22:FO P w base 1 T.d22 pM):FO P w base 2 T.d20 mX:=by
 refine T.d20.F.rd yK fun cdv A outer s H vs Q E hr h=>?_
 obtain⟨x,rfl,hx,q⟩:=h
 refine⟨_,(gb (ic (PW.pt (Bm (nj (ql vH vH gj (gY pR rfl T.z_len lY (f9 (pv 0) gf)) (p9 rfl T.o6))) (wU (i8 uJ (pv 0) (kj rfl T.o4) rfl))))
   (gk (gJ om))
   gE)
  (gk (gJ (wX (mh uq (gC zC (pv 0) gj) (BB rfl T.o2) rfl) (wW (pF T.d22 gD22 hr.m (f9 (pv 0) (f9 (gA rZ (BB rfl T.o2) (BB rfl T.o3)) gf)))))))),?_⟩
 have sl:=sizeLine_eq
 refine⟨_,rfl,x,rfl,by lia,_,_,rfl,rfl,_,rfl,?_⟩
 refine Hu (fun c1=>?_) (fun c1=>?_)
 ·have h1:1<=x.length:=by
   have z:=of_decide_eq_true c1
   lia
  refine⟨_,_,rfl,rfl,_,rfl,?_⟩
  by_cases c2:x.length<=12
  ·rw[show decide ((x.length:Int)<=12)=true from ir (by lia)]
   refine jA ⟨_,rfl,T.t4,KWV,rfl,.inr (T.r4 H),rfl,rfl,_,rfl,?_⟩
   show if inV (.str x) KWV=true then _ else _
   cases ek:inV (.str x) KWV with
   |true=>
    refine jD ?_
    have e:isName x=false:=by unfold isName;rw[ek];simp
    rw[<-e]
    exact q H (gP.refl H)
   |false=>
    refine jA ?_
    obtain⟨c,r,ec⟩:=first_of h1
    refine⟨_,rfl,x,_,c,rfl,rfl,by lia,by rw[ec];exact at0,_,_,rfl,rfl,_,rfl,?_⟩
    have ef:(!(Builtin.Str.occurrences ("abcdefghijklmnopqrstuvwxyz":Str) ⟨#[c]⟩ 0 ("abcdefghijklmnopqrstuvwxyz":Str).length 1).isEmpty)=firstIn x SM:=by
     rw[StrLaws.found_one]
     unfold firstIn
     rw[ec]
     rfl
    rw[ef]
    cases e1:firstIn x SM with
    |false=>
     refine jA ?_
     have e:isName x=false:=by unfold isName;rw[e1];simp
     rw[<-e]
     exact q H (gP.refl H)
    |true=>
     refine jD ⟨_,rfl,_,_,rfl,rfl,?_,_,_,rfl,?_,fun H' hs=>?_⟩
     ·exact ck (show(26:Nat)+ 10<=100 by decide) (sz (cq _)|>ck (by decide))
     ·lia
     ·have e:isName x=allIn x (SM++FG):=by
       unfold isName
       rw[e1,ek,ir h1,ir c2]
       rfl
      have q':=q H' hs
      rw[e]at q'
      exact q'
  ·rw[show decide ((x.length:Int)<=12)=false from iI (by lia)]
   refine jD ?_
   have e:isName x=false:=by unfold isName;rw[iI c2];simp
   show if true=true then _ else _
   refine jD ?_
   rw[<-e]
   exact q H (gP.refl H)
 ·have h1:¬1<=x.length:=by
   intro z
   exact c1 (ir (by lia))
  refine⟨_,rfl,jD ?_⟩
  show if true=true then _ else _
  refine jD ?_
  have e:isName x=false:=by unfold isName;rw[iI h1];simp
  rw[<-e]
  exact q H (gP.refl H)
def mI:Sp:=fun vs H Q _=>∃x:Str,Y3 (vs=[.str x]) (x.length<=30000) (∀H',gP H H'->Q (.bl (jn x)) H')
theorem vd (T:Txt K mg) (gD22:FO P w base 1 T.d22 pM):FO P w base 2 T.d21 mI:=by
 refine T.d21.F.rd vc fun cdv A outer s H vs Q E hr h=>?_
 obtain⟨x,rfl,hx,q⟩:=h
 refine⟨_,(gb (ic (PW.pt (Bm (nj (ql vH vH gj (gY pR rfl T.z_len lY (f9 (pv 0) gf)) (p9 rfl T.o5))) (wU (nj (kr (pF T.d22 gD22 hr.m (f9 (pv 0) (f9 (BB rfl T.o3) gf))))))))
   (gk (gJ om))
   gE)
  (gk (gJ (HI (mh nC (gC zC (pv 0) gj) gq) (wW (mh sI (pv 0) gq)))))),?_⟩
 have sl:=sizeLine_eq
 refine⟨_,rfl,x,rfl,by lia,_,_,rfl,rfl,_,rfl,?_⟩
 refine Hu (fun c1=>?_) (fun c1=>?_)
 ·have h1:1<=x.length:=by
   have z:=of_decide_eq_true c1
   lia
  refine⟨_,_,rfl,rfl,_,rfl,?_⟩
  by_cases c2:x.length<=60
  ·rw[show decide ((x.length:Int)<=60)=true from ir (by lia)]
   refine jA ⟨_,rfl,x,_,rfl,hx,fun H' hs=>⟨_,rfl,?_⟩⟩
   show if(!allIn x FG)=true then _ else _
   cases e1:allIn x FG with
   |false=>
    refine jD ?_
    have e:jn x=false:=by unfold jn;rw[e1];simp
    rw[<-e]
    exact q H' hs
   |true=>
    refine jA ?_
    obtain⟨c,r,ec⟩:=first_of h1
    refine⟨_,rfl,x,_,c,rfl,rfl,by lia,by rw[ec];exact at0,rfl,_,rfl,?_⟩
    have ef:qO x=(c==48):=by unfold qO;rw[ec]
    rw[Et,<-ef]
    cases e2:qO x with
    |false=>
     refine jD ?_
     have e:jn x=true:=by
      unfold jn
      rw[e1,e2,ir h1,ir c2]
      rfl
     rw[<-e]
     exact q H' hs
    |true=>
     refine jA ⟨_,rfl,rfl,?_⟩
     have e:jn x=decide (V.str x=V.str "0"):=by
      unfold jn
      rw[e1,e2,ir h1,ir c2]
      by_cases h0:x="0"
      ·subst h0
       rfl
      ·have h1:¬V.str x=V.str "0":=fun z=>h0 (by injection z)
       rw[iI h0,iI h1]
       rfl
     rw[<-e]
     exact q H' hs
  ·rw[show decide ((x.length:Int)<=60)=false from iI (by lia)]
   refine jD ?_
   have e:jn x=false:=by unfold jn;rw[iI c2];simp
   show if true=true then _ else _
   refine jD ?_
   rw[<-e]
   exact q H (gP.refl H)
 ·have h1:¬1<=x.length:=by
   intro z
   exact c1 (ir (by lia))
  refine⟨_,rfl,jD ?_⟩
  show if true=true then _ else _
  refine jD ?_
  have e:jn x=false:=by unfold jn;rw[iI h1];simp
  rw[<-e]
  exact q H (gP.refl H)
def kR (C:Addr):Sp:=fun vs H Q _=>X4 fun(p dx wl:Addr) (ws:List Str)=>Y4 (vs=[.ref p,.ref wl]) (H p=some (.ins C dx [])) (H wl=some (.lst (ws.map V.str))) (∀(rl:Addr) (H':Hp),H rl=none->oF C H' p dx wl rl ws 0 []->(∀b o,H b=some o->b≠p->H' b=some o)->Q .non H')
theorem oM (T:Txt K mg):MO P w base mg 1 T.e51 (kR T.c13.a):=by
 refine T.e51.F.rd oK fun cdv A outer s H vs Q E hr h=>?_
 obtain⟨p,dx,wl,ws,rfl,hp,hw,k⟩:=h
 refine⟨_,(gb (jc (pv 0) (pv 1) rfl)
  (gb (jc (pv 0) gj rfl)
  (gk (jc (pv 0) (hZ gf) rfl)))),?_⟩
 have pw:wl≠p:=ko hw hp (fun z=>nomatch z)
 refine⟨_,rfl,_,rfl,p,T.c13.a,dx,[],rfl,hp,T.c13.cl,T.n13words,(by show 0<1000;decide),?_⟩
 refine⟨_,rfl,p,T.c13.a,dx,_,rfl,gh,T.c13.cl,T.n13taken,(by show 1<1000;decide),?_⟩
 refine⟨um,fun rl hrl=>?_⟩
 have nrl:p≠rl:=gr gh hrl
 rw[gw (Ne.symm nrl),gw (Ne.symm nrl)]at hrl
 refine⟨_,rfl,p,T.c13.a,dx,_,rfl,by rw[gw nrl];exact gh,T.c13.cl,T.n13rows,(by show 2<1000;decide),?_⟩
 have wrl:wl≠rl:=gr hw hrl
 refine k rl _ hrl ⟨?_,?_,?_,wrl⟩ fun b o e hb=>?_
 ·rw[gh]
  exact congrArg (fun l=>some (HO.ins T.c13.a dx l)) (IF wl 0 rl)
 ·rw[gw pw,gw wrl,gw pw,gw pw]
  exact hw
 ·rw[gw (Ne.symm nrl)]
  exact gh
 ·rw[gw hb,gw (gr e hrl),gw hb,gw hb]
  exact e
def iw (C:Addr):Sp:=fun vs H Q _=>X7 fun(p dx wl rl:Addr) (ws:List Str) (k:Nat) (rows:List V)=>Y5 (vs=[.ref p]) (oF C H p dx wl rl ws k rows) (WOk ws) (k<=ws.length) (Q (.str (ws.getD k "")) H)
theorem rp (T:Txt K mg):MO P w base mg 1 T.e52 (iw T.c13.a):=by
 refine T.e52.F.rd rk fun cdv A outer s H vs Q E hr h=>?_
 obtain⟨p,dx,wl,rl,ws,k,rows,rfl,R,W,hk,q⟩:=h
 refine⟨_,(gb (ic (i8 sI (ou (pv 0) rfl) (gY iG rfl T.z_len lY (f9 (ou (pv 0) rfl) gf)))
   (gk (gJ gq))
   gE)
  (gk (gJ (gC zB (ou (pv 0) rfl) (ou (pv 0) rfl))))),?_⟩
 refine⟨_,rfl,p,_,dx,_,_,rfl,R.ob,T.c13.cl,T.n13taken,tF _ _ _,_,rfl,p,_,dx,_,_,rfl,R.ob,T.c13.cl,T.n13words,xP _ _ _,wl,_,rfl,.inl (SqL.of R.wd),rfl,_,rfl,Hu (fun c=>?_) (fun c=>?_)⟩
 ·have z:=of_decide_eq_true c
  injection z with z
  rw[aC]at z
  have e:ws.getD k ""="":=by
   rw[bh,bG (by lia)]
   rfl
  rw[e]at q
  exact q
 ·have hlt:k<ws.length:=by
   by_cases z:k<ws.length
   ·exact z
   ·refine absurd (ir ?_) c
    rw[aC]
    exact congrArg V.int (by lia)
  have e:ws.getD k ""=ws[k]:=by
   rw[bh,bu hlt]
   rfl
  rw[e]at q
  refine⟨_,rfl,p,_,dx,_,_,rfl,R.ob,T.c13.cl,T.n13words,xP _ _ _,_,rfl,p,_,dx,_,_,rfl,R.ob,T.c13.cl,T.n13taken,tF _ _ _,wl,_,_,_,rfl,rfl,SqL.of R.wd,gv (j:=k) (v:= .str ws[k]) ?_,q⟩
  rw[aK,bu hlt]
  rfl
def iZ (C CB:Addr):Sp:=fun vs H Q E=>X7 fun(p dx wl rl:Addr) (ws:List Str) (k:Nat) (rows:List V)=>Y6 (vs=[.ref p]) (oF C H p dx wl rl ws k rows) (WOk ws) (k<=ws.length) (
 (∀x,ws[k]?=some x->Q (.str x) (upd H p (.ins C dx (fR wl ((k+ 1:Nat):Int) rl))))) ((ws[k]?=none->E (.ref CB) none H))
theorem rR (T:Txt K mg) (gE52:MO P w base mg 1 T.e52 (iw T.c13.a)):ME P w base mg 2 T.e53 (iZ T.c13.a T.c2.a):=by
 refine T.e53.F.okE nv (fun vs H Q E h=>?_) (fun cdv A outer s H vs Q E hr h=>?_)
 ·obtain⟨p,dx,wl,rl,ws,k,rows,rfl,_⟩:=h
  rfl
 obtain⟨p,dx,wl,rl,ws,k,rows,rfl,R,W,hk,q,qe⟩:=h
 refine⟨_,(gb (pS (i:=1) nv.nd (jl (pv 0) T.c13.cl T.e52.me gE52 hr.m T.e52.b .nil je))
  (gb (ic (i8 sI (pv 1) gq)
   (gk (jH rfl lH T.x2 rfl T.c2.m (f9 gq gf)))
   gE)
  (gb (uu (pv 0) gj Cz)
  (gk (gJ (pv 1)))))),?_⟩
 refine⟨_,rfl,p,dx,_,rfl,R.ob,BZ _ _ _ gB gB gB,p,dx,wl,rl,ws,k,rows,rfl,R,W,hk,?_⟩
 refine⟨_,rfl,rfl,_,rfl,Hu (fun c=>?_) (fun c=>?_)⟩
 ·refine⟨vv,qe ?_⟩
  cases e:ws[k]? with
  |none=>rfl
  |some x=>
   have z:=of_decide_eq_true c
   injection z with z
   rw[bh,e]at z
   exact absurd z (W.one x (aM e)).1
 ·cases e:ws[k]? with
  |none=>
   refine absurd (ir (congrArg V.str ?_)) c
   rw[bh,e]
   rfl
  |some x=>
   have ex:ws.getD k ""=x:=by rw[bh,e];rfl
   rw[ex]
   refine⟨_,rfl,p,_,dx,_,_,rfl,R.ob,T.c13.cl,T.n13taken,tF _ _ _,_,_,rfl,rfl,dx,_,R.ob,(by show 3<1000;decide),_,rfl,?_⟩
   have q':=q x e
   rw[<-Gz wl (k:Int) _ rl]at q'
   exact q'
def iL (C CB:Addr):Sp:=fun vs H Q E=>X8 fun(p dx wl rl:Addr) (ws:List Str) (k:Nat) (rows:List V) (y:Str)=>Y8 (vs=[.ref p,.str y]) (oF C H p dx wl rl ws k rows) (WOk ws) (k<=ws.length) ((reprText y).length<=300002) (
 (ws[k]?=some y->Q .non (upd H p (.ins C dx (fR wl ((k+ 1:Nat):Int) rl))))) ((ws[k]?=none->E (.ref CB) none H)) ((∀x,ws[k]?=some x->x≠y->E (.ref CB) none (upd H p (.ins C dx (fR wl ((k+ 1:Nat):Int) rl)))))
theorem nV (T:Txt K mg) (gE53:ME P w base mg 2 T.e53 (iZ T.c13.a T.c2.a)):ME P w base mg 3 T.e54 (iL T.c13.a T.c2.a):=by
 refine T.e54.F.okE kI (fun vs H Q E h=>?_) (fun cdv A outer s H vs Q E hr h=>?_)
 ·obtain⟨p,dx,wl,rl,ws,k,rows,y,rfl,_⟩:=h
  rfl
 obtain⟨p,dx,wl,rl,ws,k,rows,y,rfl,R,W,hk,hy,q,qe,qx⟩:=h
 refine⟨_,(gb (pS (i:=2) kI.nd (jl (pv 0) T.c13.cl T.e53.me gE53 hr.m T.e53.b .nil kb))
  (gk (ic (i8 nC (pv 2) (pv 1))
   (gk (jH rfl lH T.x2 rfl T.c2.m (f9 (mq (iB (uM (pv 2)) (iB gq (iB (uM (pv 1)) (iB gq pX))))) gf)))
   gE))),?_⟩
 have sl:=sizeLine_eq
 refine⟨_,rfl,p,dx,_,rfl,R.ob,BZ _ _ _ gB gB gB,p,dx,wl,rl,ws,k,rows,rfl,R,W,hk,fun x hx=>?_,qe⟩
 refine⟨_,rfl,_,rfl,rfl,_,rfl,?_⟩
 by_cases e:x=y
 ·subst e
  exact Ia rfl (q hx)
 ·have ne:¬V.str x=V.str y:=fun z=>e (by injection z)
  rw[iI ne]
  have hr:=oG W (aM hx)
  refine jD ⟨_,rfl,x,rfl,by lia,_,rfl,?_,_,rfl,?_,_,rfl,y,rfl,by lia,_,rfl,?_,_,rfl,?_,?_,vv,qx x hx e⟩
  ·exact Hw hr
  ·exact Ew hr gB
  ·exact cat3 hr gB hy
  ·exact JS hr gB hy gB
  ·exact JS hr gB hy gB
def iM (C CB:Addr):Sp:=fun vs H Q E=>X7 fun(p dx wl rl:Addr) (ws:List Str) (k:Nat) (rows:List V)=>Y7 (vs=[.ref p]) (oF C H p dx wl rl ws k rows) (WOk ws) (k<=ws.length) (
 (∀x H',ws[k]?=some x->isName x=true->gP (upd H p (.ins C dx (fR wl ((k+ 1:Nat):Int) rl))) H'->Q (.str x) H')) ((ws[k]?=none->E (.ref CB) none H)) (
 (∀x H',ws[k]?=some x->isName x=false->gP (upd H p (.ins C dx (fR wl ((k+ 1:Nat):Int) rl))) H'->E (.ref CB) none H'))
theorem nX (T:Txt K mg) (gE53:ME P w base mg 2 T.e53 (iZ T.c13.a T.c2.a)) (gD20:FO P w base 2 T.d20 mX):
  ME P w base mg 3 T.e55 (iM T.c13.a T.c2.a):=by
 refine T.e55.F.okE kJ (fun vs H Q E h=>?_) (fun cdv A outer s H vs Q E hr h=>?_)
 ·obtain⟨p,dx,wl,rl,ws,k,rows,rfl,_⟩:=h
  rfl
 obtain⟨p,dx,wl,rl,ws,k,rows,rfl,R,W,hk,q,qe,qx⟩:=h
 refine⟨_,(gb (pS (i:=1) kJ.nd (jl (pv 0) T.c13.cl T.e53.me gE53 hr.m T.e53.b .nil kb))
  (gb (ic (nj (kr (pF T.d20 gD20 hr.m (f9 (pv 1) gf))))
   (gk (jH rfl lH T.x2 rfl T.c2.m (f9 (mq (iB (uM (pv 1)) (iB gq pX))) gf)))
   gE)
  (gk (gJ (pv 1))))),?_⟩
 have sl:=sizeLine_eq
 refine⟨_,rfl,p,dx,_,rfl,R.ob,BZ _ _ _ gB gB gB,p,dx,wl,rl,ws,k,rows,rfl,R,W,hk,fun x hx=>?_,qe⟩
 have hm:=aM hx
 refine⟨_,rfl,x,rfl,(W.one x hm).2.1,fun H' hs=>⟨_,rfl,?_⟩⟩
 cases e:isName x with
 |true=>exact jA ⟨_,rfl,q x H' hx e hs⟩
 |false=>
  have hr:=oG W hm
  refine jD ⟨_,rfl,x,rfl,by lia,_,rfl,?_,_,rfl,?_,?_,vv,qx x H' hx e hs⟩
  ·exact Hw hr
  ·exact Ew hr gB
  ·exact Ew hr gB
section
variable {C CB p dx wl rl:Addr} {H:Hp} {ws rest:List Str} {rows:List Dt} {Q:VK} {E:XK}
theorem B9 (R:RS K C H p dx wl rl ws rest rows) (W:WOk ws) (q:Q (.str (rest.headD "")) H):iw C [.ref p] H Q E:=by
 obtain⟨k,rv,R,h1,h2,h3⟩:=R
 refine⟨p,dx,wl,rl,ws,k,rv,rfl,R,W,h2,?_⟩
 have e:ws.getD k ""=rest.headD "":=by
  rw[<-h1,bh,bT,bU]
 rw[e]
 exact q
theorem RS.step1 {k:Nat} {rv:List V} {x:Str} {r:List Str} {H':Hp} (R:oF C H p dx wl rl ws k rv) (h1:ws.drop k=x::r) (h3:kW K H rv rows) (s:gP (upd H p (.ins C dx (fR wl ((k+ 1:Nat):Int) rl))) H'):RS K C H' p dx wl rl ws r rows/\K2 p rl H H':=by
 obtain⟨e1,e2,e3⟩:=kC h1
 have kk:K2 p rl H H':=(K2.upd1 (K2.refl p rl H) _).trans (gP.k2 s)
 exact⟨⟨k+ 1,rv,(R.next (k+ 1)).same s,e2,by lia,h3.mono fun a xs t=>oF.tpT R kk t⟩,kk⟩
theorem GI (R:RS K C H p dx wl rl ws rest rows) (W:WOk ws) (q:∀x r H',rest=x::r->RS K C H' p dx wl rl ws r rows->K2 p rl H H'->Q (.str x) H') (qe:rest=[]->E (.ref CB) none H):iZ C CB [.ref p] H Q E:=by
 obtain⟨k,rv,R,h1,h2,h3⟩:=R
 refine⟨p,dx,wl,rl,ws,k,rv,rfl,R,W,h2,fun x hx=>?_,fun hx=>?_⟩
 ·cases e:rest with
  |nil=>
   rw[e]at h1
   rw[tL h1]at hx
   cases hx
  |cons y r=>
   rw[e]at h1
   have ey:y=x:=cH.inj ((kC h1).1.symm.trans hx)
   subst ey
   obtain⟨a,b⟩:=RS.step1 R h1 h3 (gP.refl _)
   exact q y r _ e a b
 ·cases e:rest with
  |nil=>exact qe e
  |cons y r=>
   rw[e]at h1
   rw[(kC h1).1]at hx
   cases hx
theorem Ca {y:Str} (R:RS K C H p dx wl rl ws rest rows) (W:WOk ws) (hy:(reprText y).length<=300002) (q:∀r H',rest=y::r->RS K C H' p dx wl rl ws r rows->K2 p rl H H'->Q .non H') (qe:rest.head?≠some y->∀H',K2 p rl H H'->E (.ref CB) none H'):iL C CB [.ref p,.str y] H Q E:=by
 obtain⟨k,rv,R,h1,h2,h3⟩:=R
 refine⟨p,dx,wl,rl,ws,k,rv,y,rfl,R,W,h2,hy,fun hx=>?_,fun hx=>?_,fun x hx ne=>?_⟩
 ·cases e:rest with
  |nil=>
   rw[e]at h1
   rw[tL h1]at hx
   cases hx
  |cons z r=>
   rw[e]at h1
   have ey:z=y:=cH.inj ((kC h1).1.symm.trans hx)
   subst ey
   obtain⟨a,b⟩:=RS.step1 R h1 h3 (gP.refl _)
   exact q r _ e a b
 ·refine qe (fun z=>?_) H (K2.refl _ _ _)
  rw[<-h1,bU,hx]at z
  cases z
 ·refine qe (fun z=>?_) _ (K2.upd1 (K2.refl _ _ _) _)
  rw[<-h1,bU,hx]at z
  exact ne (cH.inj z)
theorem GJ (R:RS K C H p dx wl rl ws rest rows) (W:WOk ws) (q:∀x r H',rest=x::r->isName x=true->RS K C H' p dx wl rl ws r rows->K2 p rl H H'->Q (.str x) H') (qe:(∀x r,rest=x::r->isName x=false)->∀H',K2 p rl H H'->E (.ref CB) none H'):iM C CB [.ref p] H Q E:=by
 obtain⟨k,rv,R,h1,h2,h3⟩:=R
 refine⟨p,dx,wl,rl,ws,k,rv,rfl,R,W,h2,fun x H' hx hn s=>?_,fun hx=>?_,fun x H' hx hn s=>?_⟩
 ·cases e:rest with
  |nil=>
   rw[e]at h1
   rw[tL h1]at hx
   cases hx
  |cons z r=>
   rw[e]at h1
   have ey:z=x:=cH.inj ((kC h1).1.symm.trans hx)
   subst ey
   obtain⟨a,b⟩:=RS.step1 R h1 h3 s
   exact q z r _ e hn a b
 ·refine qe (fun x r e=>?_) H (K2.refl _ _ _)
  rw[e]at h1
  rw[(kC h1).1]at hx
  cases hx
 ·refine qe (fun y r e=>?_) H' ((K2.upd1 (K2.refl _ _ _) _).trans (gP.k2 s))
  rw[e]at h1
  have ey:y=x:=cH.inj ((kC h1).1.symm.trans hx)
  rw[ey]
  exact hn
end
def i6 (CB:Addr):Sp:=fun vs H Q E=>X4 fun(x:Str) (n a b:Nat)=>Y7 (vs=[.str x,.int n,.int a,.int b]) (x.length<=100) (n<=100000) (a<=100) (b<=100) ((a<=n/\n<=b->Q .non H)) ((¬(a<=n/\n<=b)->E (.ref CB) none H))
theorem oN {n:Nat} (h:n<=100000):(n:Int).natAbs.log2<1920/\(PySem.Str.ofString (toString (n:Int))).length<=6:=by
 have s70:(100000:Int)<10^70:=gB
 refine⟨GA (by lia) (by lia),?_⟩
 have z:=(str_fig (n:=(n:Int)) (k:=5) (by lia) (by
  have e:(10:Int)^(5+ 1)=1000000:=gB
  rw[e]
  lia)).2.2
 exact z
theorem rS (T:Txt K mg):FE P w base 1 T.d24 (i6 T.c2.a):=by
 refine T.d24.F.okE rQ (fun vs H Q E h=>?_) (fun cdv A outer s H vs Q E hr h=>?_)
 ·obtain⟨x,n,a,b,rfl,_⟩:=h
  rfl
 obtain⟨x,n,a,b,rfl,hx,hn,ha,hb,q,qe⟩:=h
 refine⟨_,(gk (ic (nj (ql vH vH (pv 2) (pv 1) (pv 3)))
   (gk (jH rfl lH T.x2 rfl T.c2.m (f9 (mq (iB (vU (pv 1)) (iB gq (iB (vU (pv 0)) (iB gq (iB (vU (pv 2)) (iB gq (iB (vU (pv 3)) (iB gq pX))))))))) gf)))
   gE)),?_⟩
 have sl:=sizeLine_eq
 have nn:=oN hn
 have na:=oN (show a<=100000 by lia)
 have nb:=oN (show b<=100000 by lia)
 have fail:¬(a<=n/\n<=b)->CL T.c2.a E (iX ((tJ (tFV (E2 1)) (tJ (tC (V.str " ")) (tJ (tFV (E2 0)) (tJ (tC (V.str ": ")) (tJ (tFV (E2 2)) (tJ (tC (V.str " to ")) (tJ (tFV (E2 3)) (tJ (tC (V.str " may be")) tJ0)))))))) Str.empty) se) {nx:=fun _ H'=>Q .non H',rt:=Q} [some (.str x),some (.int n),some (.int a),some (.int b)] H:=fun hz=>by
  refine⟨_,rfl,.inr ⟨_,rfl,nn.1,_,rfl,?_,_,rfl,?_,_,rfl,.inl ⟨x,rfl,by lia,_,rfl,?_,_,rfl,?_,_,rfl,.inr ⟨_,rfl,na.1,_,rfl,?_,_,rfl,?_,_,rfl,.inr ⟨_,rfl,nb.1,_,rfl,?_,_,rfl,?_,?_,vv,qe hz⟩⟩⟩⟩⟩
  all_goals
   simp only[Str.length_append]
   have e0:Str.empty.length=0:=rfl
   have e1:(" ":Str).length=1:=gB
   have e2:(": ":Str).length=2:=gB
   have e3:(" to ":Str).length=4:=gB
   have e4:(" may be":Str).length=7:=gB
   lia
 refine⟨_,rfl,_,rfl,_,_,rfl,rfl,_,rfl,?_⟩
 by_cases h1:a<=n
 ·rw[show decide ((a:Int)<=(n:Int))=true from ir (by lia)]
  refine jD ⟨_,rfl,_,_,rfl,rfl,_,rfl,?_⟩
  by_cases h2:n<=b
  ·rw[show decide ((n:Int)<=(b:Int))=true from ir (by lia)]
   exact jA (q ⟨h1,h2⟩)
  ·rw[show decide ((n:Int)<=(b:Int))=false from iI (by lia)]
   exact jD (fail fun z=>h2 z.2)
 ·rw[show decide ((a:Int)<=(n:Int))=false from iI (by lia)]
  exact jA ⟨_,rfl,jD (fail fun z=>h1 z.1)⟩
def EC (K:PySem.W.Frag) (C CB:Addr) (f:Nat):Sp:=fun vs H Q E=>X7 fun(p dx wl rl:Addr) (ws rest:List Str) (rows:List Dt)=>Y6 (vs=[.ref p,.int (25-(f:Int))]) (RS K C H p dx wl rl ws rest rows) (WOk ws) (rows.length<=160) (
 (∀r rows' H',gQ f rest rows=some (r,rows')->RS K C H' p dx wl rl ws r rows'->K2 p rl H H'->Q (.int (rows.length:Int)) H')) ((gQ f rest rows=none->∀H',K2 p rl H H'->E (.ref CB) none H'))
def pV (b:Bool):V:=if b then .str "name" else .str "expr"
def Hy (K:PySem.W.Frag) (C CB:Addr) (f:Nat):Sp:=fun vs H Q E=>X9 fun(p dx wl rl pt:Addr) (ws rest:List Str) (rows:List Dt) (ps:List Bool)=>Y8 (vs=[.ref p,.ref pt,.int (25-(f:Int))]) (RS K C H p dx wl rl ws rest rows) (WOk ws) (rows.length<=160) (SqT K H pt (ps.map pV)) (ps.length<=3) (
 (∀ds r rows' t H',gM (gQ f) ps [] rest rows=some (ds,r,rows')->RS K C H' p dx wl rl ws r rows'->K2 p rl H H'->TAt K H' (.ref t) (.tup ds)->Q (.ref t) H')) ((gM (gQ f) ps [] rest rows=none->∀H',K2 p rl H H'->E (.ref CB) none H'))
def E7 (K:PySem.W.Frag) (C CB:Addr) (f:Nat) (item:List Str->List Dt->Option (Dt×Rs)) (lo hi:Nat):Sp:=fun vs H Q E=>X7 fun(p dx wl rl:Addr) (ws rest:List Str) (rows:List Dt)=>Y6 (vs=[.ref p,.int (25-(f:Int))]) (RS K C H p dx wl rl ws rest rows) (WOk ws) (rows.length<=160) (
 (∀l r rows' t H',chk lo hi (iW item rest rows [])=some (l,r,rows')->RS K C H' p dx wl rl ws r rows'->K2 p rl H H'->TAt K H' (.ref t) (.tup l)->Q (.ref t) H')) ((chk lo hi (iW item rest rows [])=none->∀H',K2 p rl H H'->E (.ref CB) none H'))
theorem AD (T:Txt K mg) (f:Nat)
  (gE55:ME P w base mg 3 T.e55 (iM T.c13.a T.c2.a))
  (gE56:ME P w base mg (5*f+ 5) T.e56 (EC K T.c13.a T.c2.a f)):
  ME P w base mg (5*f+ 6) T.e59 (Hy K T.c13.a T.c2.a f):=by
 refine T.e59.F.okE jk (fun vs H Q E h=>?_) (fun cdv A outer s H vs Q E hr h=>?_)
 ·obtain⟨p,dx,wl,rl,pt,ws,rest,rows,ps,rfl,_⟩:=h
  rfl
 obtain⟨p,dx,wl,rl,pt,ws,rest,rows,ps,rfl,R,W,hrows,hpt,hps,q,qe⟩:=h
 refine⟨_,(gb (pS (i:=3) jk.nd (hZ gf))
  (gb (ky PassesOwn.leaving rfl (rW (pv 1)) (pN (i:=4) jk.nd)
   (gk (ic (i8 sI (pv 4) gq)
    (gk (gK (jF eQ eR eS gT (pv 3) (f9 (jl (pv 0) T.c13.cl T.e55.me gE55 (hr.mono (by lia)) T.e55.b .nil kb) gf))))
    (gk (gK (jF eQ eR eS gT (pv 3) (f9 (hG (pv 0) T.c13.cl T.e56.me gE56 (hr.mono (by lia)) T.e56.b .nil kb (f9 (pv 2) gf)) gf)))))))
  (gk (gJ (ip iQ rfl T.z_tuple jZ (f9 (pv 3) gf)))))),?_⟩
 have sl:=sizeLine_eq
 refine⟨um,fun fl hfl=>?_⟩
 have ep:=ji f
 have R0:=R.same (gm hfl (.lst []))
 have fp:fl≠p:=by
  obtain⟨k,hk⟩:=R.ob
  exact Ne.symm (gr hk hfl)
 have frl:fl≠rl:=by
  obtain⟨rv,hk,_⟩:=R.len
  exact Ne.symm (gr hk hfl)
 have fwl:fl≠wl:=by
  obtain⟨k,rv,R',_⟩:=R
  exact Ne.symm (gr R'.wd hfl)
 have hpt0:SqT K (upd H fl (.lst [])) pt (ps.map pV):=by
  rcases hpt with t|t
  ·refine .inl ?_
   rcases t with t|⟨o',t⟩
   ·exact .inl (by rw[gw (gr t hfl)];exact t)
   ·exact .inr ⟨o',by rw[gw (gr t hfl)];exact t⟩
  ·exact .inr t
 refine⟨_,rfl,pt,rfl,⟨_,hpt0⟩,vG (K:=K) (a:=pt) (xs:=ps.map pV) (fun i σ H2=>X5 fun(o:Option V) (acc:List Dt) (fv:List V) (rest2:List Str) (rows2:List Dt)=>
   Y9 (σ=[some (.ref p),some (.ref pt),some (.int (25-(f:Int))),some (.ref fl),o]) (SqT K H2 pt (ps.map pV)) (RS K T.c13.a H2 p dx wl rl ws rest2 rows2) (K2 p rl H H2) (H2 fl=some (.lst fv)) (kW K H2 fv acc) (acc.length=i) (rows2.length<=160) (
   gM (gQ f) ps [] rest rows=gM (gQ f) (ps.drop i) acc rest2 rows2))
  ⟨none,[],[],rest,rows,rfl,hpt0,R0,gP.k2 (gm hfl _),gh,.nil,rfl,hrows,rfl⟩ (fun i σ H2 _ ⟨_,_,_,_,_,_,z,_,_,_,_,_,_,_⟩=>z) ?_ ?_⟩
 ·rintro i y σ H2 hi ⟨o,acc,fv,rest2,rows2,rfl,hpt2,R2,k2,hfl2,tf,hacc,hr2,heq⟩
  rw[aK]at hi
  obtain⟨b,hb,rfl⟩:=cN.mp hi
  have hlt:i<ps.length:=(au.mp hb).1
  have ed:ps.drop i=b::ps.drop (i+ 1):=by
   rw[bD hlt]
   rw[(au.mp hb).2]
  rw[ed]at heq
  have lf:fv.length<sizeLine:=by rw[tf.length];lia
  cases b with
  |true=>
   refine⟨_,rfl,rfl,_,rfl,?_⟩
   rw[show decide (pV true=V.str "name")=true by decide+kernel]
   obtain⟨k',hk⟩:=R2.ob
   refine jD ⟨_,rfl,.inl ⟨rfl,_,SqL.of hfl2⟩,_,rfl,p,dx,_,rfl,hk,iF _ _ _ _ (by simp),?_⟩
   refine tn0 ?_
   refine GJ R2 W (fun x r H3 e hn R3 k3=>?_) (fun hno H3 k3=>?_)
   ·have h3:H3 fl=some (.lst fv):=k3 _ _ hfl2 fp frl
    refine⟨fl,fv,_,rfl,rfl,h3,lf,_,acc++[.flat (.str x)],fv++[.str x],r,rows2,rfl,uW h3 (R2.sqt k3 hpt2),R3.other h3 fp fwl frl,uX hfl (k2.trans k3),gh,((R2.tats k3 tf).snoc (.flat rfl)).other h3,(by rw[aN,hacc];rfl),hr2,?_⟩
    rw[heq,e,gM,gX hn]
   ·refine qe ?_ H3 (k2.trans k3)
    rw[heq]
    cases rest2 with
    |nil=>rw[gM]
    |cons x r=>rw[gM,gN (by rw[hno x r rfl];exact eX)]
  |false=>
   refine⟨_,rfl,rfl,_,rfl,?_⟩
   rw[show decide (pV false=V.str "name")=false by decide+kernel]
   obtain⟨k',hk⟩:=R2.ob
   refine jA ⟨_,rfl,.inl ⟨rfl,_,SqL.of hfl2⟩,_,rfl,p,dx,_,rfl,hk,iF _ _ _ _ (by simp),_,rfl,p,dx,wl,rl,ws,rest2,rows2,rfl,R2,W,hr2,fun r rows' H3 e R3 k3=>?_,fun e H3 k3=>?_⟩
   ·have h3:H3 fl=some (.lst fv):=k3 _ _ hfl2 fp frl
    refine⟨fl,fv,_,rfl,rfl,h3,lf,_,acc++[.flat (.int (rows2.length:Int))],fv++[.int (rows2.length:Int)],r,rows',rfl,uW h3 (R2.sqt k3 hpt2),R3.other h3 fp fwl frl,uX hfl (k2.trans k3),gh,((R2.tats k3 tf).snoc (.flat rfl)).other h3,(by rw[aN,hacc];rfl),(ep _ _ _ e).1.most hr2,?_⟩
    rw[heq,gM,e]
   ·refine qe ?_ H3 (k2.trans k3)
    rw[heq,gM,e]
 ·rintro σ H2 ⟨o,acc,fv,rest2,rows2,rfl,hpt2,R2,k2,hfl2,tf,hacc,hr2,heq⟩
  rw[aC,bV,gM]at heq
  refine⟨_,rfl,fl,fv,rfl,.inl ⟨SqL.of hfl2,fun t ht=>?_⟩⟩
  have s:=gm ht (.tup fv)
  exact q acc rest2 rows2 t _ heq (R2.same s) (k2.trans (gP.k2 s)) (.tup gh (R2.tats (gP.k2 s) tf))
theorem AE (T:Txt K mg) (f:Nat)
  (gE52:MO P w base mg 1 T.e52 (iw T.c13.a))
  (gE59:ME P w base mg (5*f+ 6) T.e59 (Hy K T.c13.a T.c2.a f))
  (gD24:FE P w base 1 T.d24 (i6 T.c2.a)):
  ME P w base mg (5*f+ 7) T.e60 (E7 K T.c13.a T.c2.a f (iS (gQ f) [true,false]) 0 6):=by
 refine T.e60.F.okE kh (fun vs H Q E h=>?_) (fun cdv A outer s H vs Q E hr h=>?_)
 ·obtain⟨p,dx,wl,rl,ws,rest,rows,rfl,_⟩:=h
  rfl
 obtain⟨p,dx,wl,rl,ws,rest,rows,rfl,R,W,hrows,q,qe⟩:=h
 refine⟨_,(gb (pS (i:=2) kh.nd (hZ gf))
  (gb (mS PassesOwn.leaving (i8 nC (jl (pv 0) T.c13.cl T.e52.me gE52 (hr.mono (by lia)) T.e52.b .nil je) gq)
   (gk (gK (jF eQ eR eS gT (pv 2) (f9 (hG (pv 0) T.c13.cl T.e59.me gE59 (hr.mono (by lia)) T.e59.b .nil kb (f9 (hI (f9 gq (f9 gq gf))) (f9 (pv 1) gf))) gf)))))
  (gb (gK (ml gD24 (hr.mono (by lia)) rfl T.d24.m T.d24.k T.d24.b .nil kb (f9 gq (f9 (gY iG rfl T.z_len lY (f9 (pv 2) gf)) (f9 gj (f9 (p9 rfl T.o8) gf))))))
  (gk (gJ (ip iQ rfl T.z_tuple jZ (f9 (pv 2) gf))))))),?_⟩
 have sl:=sizeLine_eq
 refine⟨um,fun fl hfl=>?_⟩
 have ep:=ji f
 have gi:uV (iS (gQ f) [true,false]):=lB ep _ (by simp)
 have R0:=R.same (gm hfl (.lst []))
 obtain⟨fp,frl,fwl⟩:=R.apart hfl
 have hs0:=R.short
 have hs1:=W.len
 refine⟨fun m σ H2=>X4 fun(acc:List Dt) (fv:List V) (rest2:List Str) (rows2:List Dt)=>Y9 (m=rest2.length) (σ=[some (.ref p),some (.int (25-(f:Int))),some (.ref fl)]) (RS K T.c13.a H2 p dx wl rl ws rest2 rows2) (K2 p rl H H2) (H2 fl=some (.lst fv)) (kW K H2 fv acc) (acc.length+rest2.length<=30000) (rows2.length<=160) (
   iW (iS (gQ f) [true,false]) rest rows []=iW (iS (gQ f) [true,false]) rest2 rows2 acc),
  ⟨_,[],[],rest,rows,rfl,rfl,R0,gP.k2 (gm hfl _),gh,.nil,(by show 0+_<=_;lia),hrows,rfl⟩,?_⟩
 rintro m σ H2 ⟨acc,fv,rest2,rows2,rfl,rfl,R2,k2,hfl2,tf,hlen,hr2,heq⟩
 have tl:=tf.length
 have lf:fv.length<sizeLine:=by lia
 obtain⟨k',hk⟩:=R2.ob
 refine⟨_,rfl,p,dx,_,rfl,hk,iF _ _ _ _ (.inl rfl),?_⟩
 refine tn0 ?_
 refine B9 R2 W ?_
 refine⟨rfl,_,rfl,?_⟩
 by_cases hh:rest2.head?=some ")"
 ·have e1:rest2.headD ""=")":=by rw[bT,hh];rfl
  rw[e1,show(decide (V.str ")"=V.str ")"))=true by decide+kernel]
  refine jA ?_
  rw[lO _ _ _ hh]at heq
  refine⟨_,rfl,fl,fv,rfl,.inl (SqL.of hfl2),"fields",fv.length,0,6,rfl,gB,by lia,by decide,by decide,fun hc=>?_,fun hc=>?_⟩
  ·refine⟨_,rfl,fl,fv,rfl,.inl ⟨SqL.of hfl2,fun t ht=>?_⟩⟩
   have s:=gm ht (.tup fv)
   refine q acc rest2 rows2 t _ ?_ (R2.same s) (k2.trans (gP.k2 s)) (.tup gh (R2.tats (gP.k2 s) tf))
   rw[heq,chk,gX (by rw[<-tl];exact hc)]
  ·refine qe ?_ H2 k2
   rw[heq,chk,gN (by rw[<-tl];exact hc)]
 ·have e1:¬V.str (rest2.headD "")=V.str ")":=fun z=>by
   injection z with z
   cases rest2 with
   |nil=>exact absurd z gB
   |cons a r=>exact hh (congrArg some z)
  rw[iI e1]
  have hm:=pb gi rest2 rows2 acc hh
  refine jD ⟨_,fun σ' H' z=>z,?_⟩
  refine⟨_,rfl,.inl ⟨rfl,_,SqL.of hfl2⟩,_,rfl,p,dx,_,rfl,hk,iF _ _ _ _ (by simp),ma,fun pt hpt=>?_⟩
  have s3:=gm hpt (.tup [.str "name",.str "expr"])
  have R3:=R2.same s3
  refine⟨_,rfl,p,dx,wl,rl,pt,ws,rest2,rows2,[true,false],rfl,R3,W,hr2,.inl (.inl gh),by decide,fun ds r rows' t H4 e R4 k4 ht=>?_,fun e H4 k4=>?_⟩
  ·have h4:H4 fl=some (.lst fv):=k4 _ _ (s3 _ _ hfl2) fp frl
   have ei:(iS (gQ f) [true,false]) rest2 rows2=some (.tup ds,r,rows'):=by rw[iS,e]
   obtain⟨st,lt⟩:=gi _ _ _ _ ei
   refine⟨fl,fv,_,rfl,rfl,h4,lf,r.length,lt,acc++[.tup ds],fv++[.ref t],r,rows',rfl,rfl,R4.other h4 fp fwl frl,uX hfl (k2.trans ((gP.k2 s3).trans k4)),gh,((R2.tats ((gP.k2 s3).trans k4) tf).snoc ht).other h4,(by rw[aN];have lt':r.length<rest2.length:=lt;show acc.length+ 1+_<=_;lia),st.most hr2,?_⟩
   rw[heq,hm,ei]
  ·refine qe ?_ H4 (k2.trans ((gP.k2 s3).trans k4))
   rw[heq,hm,show(iS (gQ f) [true,false]) rest2 rows2=none by rw[iS,e]]
   rfl
theorem ED (T:Txt K mg) (f:Nat)
  (gE52:MO P w base mg 1 T.e52 (iw T.c13.a))
  (gE59:ME P w base mg (5*f+ 6) T.e59 (Hy K T.c13.a T.c2.a f))
  (gD24:FE P w base 1 T.d24 (i6 T.c2.a)):
  ME P w base mg (5*f+ 7) T.e61 (E7 K T.c13.a T.c2.a f (iS (gQ f) [true,true,false]) 1 6):=by
 refine T.e61.F.okE kM (fun vs H Q E h=>?_) (fun cdv A outer s H vs Q E hr h=>?_)
 ·obtain⟨p,dx,wl,rl,ws,rest,rows,rfl,_⟩:=h
  rfl
 obtain⟨p,dx,wl,rl,ws,rest,rows,rfl,R,W,hrows,q,qe⟩:=h
 refine⟨_,(gb (pS (i:=2) kM.nd (hZ gf))
  (gb (mS PassesOwn.leaving (i8 nC (jl (pv 0) T.c13.cl T.e52.me gE52 (hr.mono (by lia)) T.e52.b .nil je) gq)
   (gk (gK (jF eQ eR eS gT (pv 2) (f9 (hG (pv 0) T.c13.cl T.e59.me gE59 (hr.mono (by lia)) T.e59.b .nil kb (f9 (hI (f9 gq (f9 gq (f9 gq gf)))) (f9 (pv 1) gf))) gf)))))
  (gb (gK (ml gD24 (hr.mono (by lia)) rfl T.d24.m T.d24.k T.d24.b .nil kb (f9 gq (f9 (gY iG rfl T.z_len lY (f9 (pv 2) gf)) (f9 gj (f9 (p9 rfl T.o9) gf))))))
  (gk (gJ (ip iQ rfl T.z_tuple jZ (f9 (pv 2) gf))))))),?_⟩
 have sl:=sizeLine_eq
 refine⟨um,fun fl hfl=>?_⟩
 have ep:=ji f
 have gi:uV (iS (gQ f) [true,true,false]):=lB ep _ (by simp)
 have R0:=R.same (gm hfl (.lst []))
 obtain⟨fp,frl,fwl⟩:=R.apart hfl
 have hs0:=R.short
 have hs1:=W.len
 refine⟨fun m σ H2=>X4 fun(acc:List Dt) (fv:List V) (rest2:List Str) (rows2:List Dt)=>Y9 (m=rest2.length) (σ=[some (.ref p),some (.int (25-(f:Int))),some (.ref fl)]) (RS K T.c13.a H2 p dx wl rl ws rest2 rows2) (K2 p rl H H2) (H2 fl=some (.lst fv)) (kW K H2 fv acc) (acc.length+rest2.length<=30000) (rows2.length<=160) (
   iW (iS (gQ f) [true,true,false]) rest rows []=iW (iS (gQ f) [true,true,false]) rest2 rows2 acc),
  ⟨_,[],[],rest,rows,rfl,rfl,R0,gP.k2 (gm hfl _),gh,.nil,(by show 0+_<=_;lia),hrows,rfl⟩,?_⟩
 rintro m σ H2 ⟨acc,fv,rest2,rows2,rfl,rfl,R2,k2,hfl2,tf,hlen,hr2,heq⟩
 have tl:=tf.length
 have lf:fv.length<sizeLine:=by lia
 obtain⟨k',hk⟩:=R2.ob
 refine⟨_,rfl,p,dx,_,rfl,hk,iF _ _ _ _ (.inl rfl),?_⟩
 refine tn0 ?_
 refine B9 R2 W ?_
 refine⟨rfl,_,rfl,?_⟩
 by_cases hh:rest2.head?=some ")"
 ·have e1:rest2.headD ""=")":=by rw[bT,hh];rfl
  rw[e1,show(decide (V.str ")"=V.str ")"))=true by decide+kernel]
  refine jA ?_
  rw[lO _ _ _ hh]at heq
  refine⟨_,rfl,fl,fv,rfl,.inl (SqL.of hfl2),"arms",fv.length,1,6,rfl,gB,by lia,by decide,by decide,fun hc=>?_,fun hc=>?_⟩
  ·refine⟨_,rfl,fl,fv,rfl,.inl ⟨SqL.of hfl2,fun t ht=>?_⟩⟩
   have s:=gm ht (.tup fv)
   refine q acc rest2 rows2 t _ ?_ (R2.same s) (k2.trans (gP.k2 s)) (.tup gh (R2.tats (gP.k2 s) tf))
   rw[heq,chk,gX (by rw[<-tl];exact hc)]
  ·refine qe ?_ H2 k2
   rw[heq,chk,gN (by rw[<-tl];exact hc)]
 ·have e1:¬V.str (rest2.headD "")=V.str ")":=fun z=>by
   injection z with z
   cases rest2 with
   |nil=>exact absurd z gB
   |cons a r=>exact hh (congrArg some z)
  rw[iI e1]
  have hm:=pb gi rest2 rows2 acc hh
  refine jD ⟨_,fun σ' H' z=>z,?_⟩
  refine⟨_,rfl,.inl ⟨rfl,_,SqL.of hfl2⟩,_,rfl,p,dx,_,rfl,hk,iF _ _ _ _ (by simp),oR,fun pt hpt=>?_⟩
  have s3:=gm hpt (.tup [.str "name",.str "name",.str "expr"])
  have R3:=R2.same s3
  refine⟨_,rfl,p,dx,wl,rl,pt,ws,rest2,rows2,[true,true,false],rfl,R3,W,hr2,.inl (.inl gh),by decide,fun ds r rows' t H4 e R4 k4 ht=>?_,fun e H4 k4=>?_⟩
  ·have h4:H4 fl=some (.lst fv):=k4 _ _ (s3 _ _ hfl2) fp frl
   have ei:(iS (gQ f) [true,true,false]) rest2 rows2=some (.tup ds,r,rows'):=by rw[iS,e]
   obtain⟨st,lt⟩:=gi _ _ _ _ ei
   refine⟨fl,fv,_,rfl,rfl,h4,lf,r.length,lt,acc++[.tup ds],fv++[.ref t],r,rows',rfl,rfl,R4.other h4 fp fwl frl,uX hfl (k2.trans ((gP.k2 s3).trans k4)),gh,((R2.tats ((gP.k2 s3).trans k4) tf).snoc ht).other h4,(by rw[aN];have lt':r.length<rest2.length:=lt;show acc.length+ 1+_<=_;lia),st.most hr2,?_⟩
   rw[heq,hm,ei]
  ·refine qe ?_ H4 (k2.trans ((gP.k2 s3).trans k4))
   rw[heq,hm,show(iS (gQ f) [true,true,false]) rest2 rows2=none by rw[iS,e]]
   rfl
theorem AF (T:Txt K mg) (f:Nat)
  (gE52:MO P w base mg 1 T.e52 (iw T.c13.a))
  (gE56:ME P w base mg (5*f+ 5) T.e56 (EC K T.c13.a T.c2.a f))
  (gD24:FE P w base 1 T.d24 (i6 T.c2.a)):
  ME P w base mg (5*f+ 7) T.e62 (E7 K T.c13.a T.c2.a f (kz (gQ f)) 0 8):=by
 refine T.e62.F.okE ki (fun vs H Q E h=>?_) (fun cdv A outer s H vs Q E hr h=>?_)
 ·obtain⟨p,dx,wl,rl,ws,rest,rows,rfl,_⟩:=h
  rfl
 obtain⟨p,dx,wl,rl,ws,rest,rows,rfl,R,W,hrows,q,qe⟩:=h
 refine⟨_,(gb (pS (i:=2) ki.nd (hZ gf))
  (gb (mS PassesOwn.leaving (i8 nC (jl (pv 0) T.c13.cl T.e52.me gE52 (hr.mono (by lia)) T.e52.b .nil je) gq)
   (gk (gK (jF eQ eR eS gT (pv 2) (f9 (hG (pv 0) T.c13.cl T.e56.me gE56 (hr.mono (by lia)) T.e56.b .nil kb (f9 (pv 1) gf)) gf)))))
  (gb (gK (ml gD24 (hr.mono (by lia)) rfl T.d24.m T.d24.k T.d24.b .nil kb (f9 gq (f9 (gY iG rfl T.z_len lY (f9 (pv 2) gf)) (f9 gj (f9 (p9 rfl T.o10) gf))))))
  (gk (gJ (ip iQ rfl T.z_tuple jZ (f9 (pv 2) gf))))))),?_⟩
 have sl:=sizeLine_eq
 refine⟨um,fun fl hfl=>?_⟩
 have ep:=ji f
 have gi:uV (kz (gQ f)):=oZ ep
 have R0:=R.same (gm hfl (.lst []))
 obtain⟨fp,frl,fwl⟩:=R.apart hfl
 have hs0:=R.short
 have hs1:=W.len
 refine⟨fun m σ H2=>X4 fun(acc:List Dt) (fv:List V) (rest2:List Str) (rows2:List Dt)=>Y9 (m=rest2.length) (σ=[some (.ref p),some (.int (25-(f:Int))),some (.ref fl)]) (RS K T.c13.a H2 p dx wl rl ws rest2 rows2) (K2 p rl H H2) (H2 fl=some (.lst fv)) (kW K H2 fv acc) (acc.length+rest2.length<=30000) (rows2.length<=160) (
   iW (kz (gQ f)) rest rows []=iW (kz (gQ f)) rest2 rows2 acc),
  ⟨_,[],[],rest,rows,rfl,rfl,R0,gP.k2 (gm hfl _),gh,.nil,(by show 0+_<=_;lia),hrows,rfl⟩,?_⟩
 rintro m σ H2 ⟨acc,fv,rest2,rows2,rfl,rfl,R2,k2,hfl2,tf,hlen,hr2,heq⟩
 have tl:=tf.length
 have lf:fv.length<sizeLine:=by lia
 obtain⟨k',hk⟩:=R2.ob
 refine⟨_,rfl,p,dx,_,rfl,hk,iF _ _ _ _ (.inl rfl),?_⟩
 refine tn0 ?_
 refine B9 R2 W ?_
 refine⟨rfl,_,rfl,?_⟩
 by_cases hh:rest2.head?=some ")"
 ·have e1:rest2.headD ""=")":=by rw[bT,hh];rfl
  rw[e1,show(decide (V.str ")"=V.str ")"))=true by decide+kernel]
  refine jA ?_
  rw[lO _ _ _ hh]at heq
  refine⟨_,rfl,fl,fv,rfl,.inl (SqL.of hfl2),"things",fv.length,0,8,rfl,gB,by lia,by decide,by decide,fun hc=>?_,fun hc=>?_⟩
  ·refine⟨_,rfl,fl,fv,rfl,.inl ⟨SqL.of hfl2,fun t ht=>?_⟩⟩
   have s:=gm ht (.tup fv)
   refine q acc rest2 rows2 t _ ?_ (R2.same s) (k2.trans (gP.k2 s)) (.tup gh (R2.tats (gP.k2 s) tf))
   rw[heq,chk,gX (by rw[<-tl];exact hc)]
  ·refine qe ?_ H2 k2
   rw[heq,chk,gN (by rw[<-tl];exact hc)]
 ·have e1:¬V.str (rest2.headD "")=V.str ")":=fun z=>by
   injection z with z
   cases rest2 with
   |nil=>exact absurd z gB
   |cons a r=>exact hh (congrArg some z)
  rw[iI e1]
  have hm:=pb gi rest2 rows2 acc hh
  refine jD ⟨_,fun σ' H' z=>z,?_⟩
  refine⟨_,rfl,.inl ⟨rfl,_,SqL.of hfl2⟩,_,rfl,p,dx,_,rfl,hk,iF _ _ _ _ (by simp),_,rfl,p,dx,wl,rl,ws,rest2,rows2,rfl,R2,W,hr2,fun r rows' H4 e R4 k4=>?_,fun e H4 k4=>?_⟩
  ·have h4:H4 fl=some (.lst fv):=k4 _ _ hfl2 fp frl
   have ei:(kz (gQ f)) rest2 rows2=some (.flat (.int (rows2.length:Int)),r,rows'):=by rw[kz,e]
   obtain⟨st,lt⟩:=gi _ _ _ _ ei
   refine⟨fl,fv,_,rfl,rfl,h4,lf,r.length,lt,acc++[.flat (.int (rows2.length:Int))],fv++[.int (rows2.length:Int)],r,rows',rfl,rfl,R4.other h4 fp fwl frl,uX hfl (k2.trans k4),gh,((R2.tats k4 tf).snoc (.flat rfl)).other h4,(by rw[aN];have lt':r.length<rest2.length:=lt;show acc.length+ 1+_<=_;lia),st.most hr2,?_⟩
   rw[heq,hm,ei]
  ·refine qe ?_ H4 (k2.trans k4)
   rw[heq,hm,show(kz (gQ f)) rest2 rows2=none by rw[kz,e]]
   rfl
structure Dk (P:Program) (w:World) (K:PySem.W.Frag) (mg:Str->Option Value) where
 a:Addr
 m:mg "STEADY_FORMS"=some (.ref a)
 kvs:List (Key×V)
 kd:zQ P w K a kvs
 no:∀h,stP h=none->jC kvs (Sum.inr h)=none
 yes:∀h ps,stP h=some ps->∃q,jC kvs (Sum.inr h)=some (.ref q)/\∀H:Hp,SqT K H q (ps.map pV)
theorem Cb {h:Str} {ps:List Bool} (e:stP h=some ps):ps≠[]/\ps.length<=3:=by
 unfold stP at e
 obtain⟨p,hp,rfl⟩:=cN.mp e
 have hm:=List.mem_of_find?_eq_some hp
 clear hp e
 have z:∀p∈stT,p.2≠[]/\p.2.length<=3:=gB
 exact z p hm
def JW (K:PySem.W.Frag) (C CB:Addr) (f:Nat):Sp:=fun vs H Q E=>X8 fun(p dx wl rl:Addr) (ws rest:List Str) (rows:List Dt) (h:Str)=>Y7 (vs=[.ref p,.str h,.int (25-(f:Int))]) (RS K C H p dx wl rl ws rest rows) (WOk ws) (rows.length<=160) (h∈ws) (
 (∀ds r rows' t H',ja (gQ f) h rest rows=some (ds,r,rows')->RS K C H' p dx wl rl ws r rows'->K2 p rl H H'->TAt K H' (.ref t) (.tup ds)->Q (.ref t) H')) ((ja (gQ f) h rest rows=none->∀H',K2 p rl H H'->E (.ref CB) none H'))
theorem EE (T:Txt K mg) (D:Dk P w K mg) (f:Nat)
  (gE56:ME P w base mg (5*f+ 5) T.e56 (EC K T.c13.a T.c2.a f))
  (gE59:ME P w base mg (5*f+ 6) T.e59 (Hy K T.c13.a T.c2.a f))
  (gE60:ME P w base mg (5*f+ 7) T.e60 (E7 K T.c13.a T.c2.a f (iS (gQ f) [true,false]) 0 6))
  (gE61:ME P w base mg (5*f+ 7) T.e61 (E7 K T.c13.a T.c2.a f (iS (gQ f) [true,true,false]) 1 6))
  (gE62:ME P w base mg (5*f+ 7) T.e62 (E7 K T.c13.a T.c2.a f (kz (gQ f)) 0 8)):
  ME P w base mg (5*f+ 8) T.e58 (JW K T.c13.a T.c2.a f):=by
 refine T.e58.F.okE kK (fun vs H Q E h=>?_) (fun cdv A outer s H vs Q E hr h=>?_)
 ·obtain⟨p,dx,wl,rl,ws,rest,rows,h,rfl,_⟩:=h
  rfl
 obtain⟨p,dx,wl,rl,ws,rest,rows,h,rfl,R,W,hrows,hm,q,qe⟩:=h
 refine⟨_,(gb (ic (i8 sI (pv 1) gq)
   (gk (gJ (hI (f9 gq (f9 (hG (pv 0) T.c13.cl T.e60.me gE60 (hr.mono (by lia)) T.e60.b .nil kb (f9 (pv 2) gf)) gf)))))
   gE)
  (gb (ic (i8 sI (pv 1) gq)
   (gb (pS (i:=3) kK.nd (hG (pv 0) T.c13.cl T.e56.me gE56 (hr.mono (by lia)) T.e56.b .nil kb (f9 (pv 2) gf)))
   (gk (gJ (hI (f9 gq (f9 (pv 3) (f9 (hG (pv 0) T.c13.cl T.e61.me gE61 (hr.mono (by lia)) T.e61.b .nil kb (f9 (pv 2) gf)) gf)))))))
   gE)
  (gb (ic (i8 sI (pv 1) gq)
   (gk (gJ (hI (f9 gq (f9 (hG (pv 0) T.c13.cl T.e62.me gE62 (hr.mono (by lia)) T.e62.b .nil kb (f9 (pv 2) gf)) gf)))))
   gE)
  (gb (ic (uo (zR D.kd (pv 1) (kj rfl D.m)) rfl)
   (gk (jH rfl lH T.x2 rfl T.c2.m (f9 (mq (iB (uM (pv 1)) (iB gq pX))) gf)))
   gE)
  (gk (gJ (gA DM (hI (f9 (pv 1) gf)) (hG (pv 0) T.c13.cl T.e59.me gE59 (hr.mono (by lia)) T.e59.b .nil kb (f9 (zS D.kd (kj rfl D.m) (pv 1)) (f9 (pv 2) gf)))))))))),?_⟩
 have sl:=sizeLine_eq
 have ep:=ji f
 obtain⟨k',hk⟩:=R.ob
 refine⟨_,rfl,rfl,_,rfl,?_⟩
 by_cases h1:h="rec"
 ·subst h1
  rw[show decide (V.str "rec"=V.str "rec")=true by decide+kernel]
  have ef:ja (gQ f) "rec" rest rows=match chk 0 6 (iW (iS (gQ f) [true,false]) rest rows [])with
   |none=>none
   |some (l,r)=>some ([.flat (.str "rec"),.tup l],r):=by rw[ja,gX rfl]<;>rfl
  refine jD ⟨_,rfl,p,dx,_,rfl,hk,iF _ _ _ _ (by simp),_,rfl,p,dx,wl,rl,ws,rest,rows,rfl,R,W,hrows,fun l r rows' t H1 e R1 k1 ht=>?_,fun e H1 k1=>?_⟩
  ·refine⟨ma,fun u hu=>?_⟩
   have s:=gm hu (.tup [.str "rec",.ref t])
   refine q _ r rows' u _ (by rw[ef,e]) (R1.same s) (k1.trans (gP.k2 s)) (.tup gh (.cons (.flat rfl) (.cons (R1.tat (gP.k2 s) ht) .nil)))
  ·exact qe (by rw[ef,e]) H1 k1
 rw[iI (fun z:V.str h=V.str "rec"=>h1 (by injection z))]
 refine jA ⟨_,rfl,rfl,_,rfl,?_⟩
 by_cases h2:h="case"
 ·subst h2
  rw[show decide (V.str "case"=V.str "case")=true by decide+kernel]
  have ef:ja (gQ f) "case" rest rows=match gQ f rest rows with
   |none=>none
   |some (r1,rows1)=>match chk 1 6 (iW (iS (gQ f) [true,true,false]) r1 rows1 [])with
    |none=>none
    |some (l,r)=>some ([.flat (.str "case"),.flat (.int (rows.length:Int)),.tup l],r):=by rw[ja,gN h1,gX rfl]<;>rfl
  refine jD ⟨_,rfl,p,dx,_,rfl,hk,iF _ _ _ _ (by simp),_,rfl,p,dx,wl,rl,ws,rest,rows,rfl,R,W,hrows,fun r1 rows1 H1 e1 R1 k1=>?_,fun e1 H1 k1=>?_⟩
  ·obtain⟨k1',hk1⟩:=R1.ob
   refine⟨_,rfl,_,rfl,p,dx,_,rfl,hk1,iF _ _ _ _ (by simp),_,rfl,p,dx,wl,rl,ws,r1,rows1,rfl,R1,W,(ep _ _ _ e1).1.most hrows,fun l r rows' t H2 e R2 k2 ht=>?_,fun e H2 k2=>?_⟩
   ·refine⟨oR,fun u hu=>?_⟩
    have s:=gm hu (.tup [.str "case",.int (rows.length:Int),.ref t])
    refine q _ r rows' u _ (by rw[ef,e1];show(match chk 1 6 _ with|none=>none|some (l,r)=>_)=_;rw[e]) (R2.same s) ((k1.trans k2).trans (gP.k2 s)) (.tup gh (.cons (.flat rfl) (.cons (.flat rfl) (.cons (R2.tat (gP.k2 s) ht) .nil))))
   ·exact qe (by rw[ef,e1];show(match chk 1 6 _ with|none=>none|some (l,r)=>_)=_;rw[e]) H2 (k1.trans k2)
  ·exact qe (by rw[ef,e1]) H1 k1
 rw[iI (fun z:V.str h=V.str "case"=>h2 (by injection z))]
 refine jA ⟨_,rfl,rfl,_,rfl,?_⟩
 by_cases h3:h="row"
 ·subst h3
  rw[show decide (V.str "row"=V.str "row")=true by decide+kernel]
  have ef:ja (gQ f) "row" rest rows=match chk 0 8 (iW (kz (gQ f)) rest rows [])with
   |none=>none
   |some (l,r)=>some ([.flat (.str "row"),.tup l],r):=by rw[ja,gN h1,gN h2,gX rfl]<;>rfl
  refine jD ⟨_,rfl,p,dx,_,rfl,hk,iF _ _ _ _ (by simp),_,rfl,p,dx,wl,rl,ws,rest,rows,rfl,R,W,hrows,fun l r rows' t H1 e R1 k1 ht=>?_,fun e H1 k1=>?_⟩
  ·refine⟨ma,fun u hu=>?_⟩
   have s:=gm hu (.tup [.str "row",.ref t])
   refine q _ r rows' u _ (by rw[ef,e]) (R1.same s) (k1.trans (gP.k2 s)) (.tup gh (.cons (.flat rfl) (.cons (R1.tat (gP.k2 s) ht) .nil)))
  ·exact qe (by rw[ef,e]) H1 k1
 rw[iI (fun z:V.str h=V.str "row"=>h3 (by injection z))]
 have ef:ja (gQ f) h rest rows=match stP h with
  |none=>none
  |some ps=>match gM (gQ f) ps [] rest rows with
   |none=>none
   |some (ds,r)=>some (.flat (.str h)::ds,r):=by rw[ja,gN h1,gN h2,gN h3]<;>rfl
 refine jA ⟨_,rfl,Sum.inr h,rfl,rfl,_,rfl,?_⟩
 cases e4:stP h with
 |none=>
  rw[D.no h e4]
  have hrp:=oG W hm
  refine jD ⟨_,rfl,h,rfl,by lia,_,rfl,Hw hrp,_,rfl,Ew hrp gB,Ew hrp gB,vv,qe (by rw[ef,e4]) H (K2.refl _ _ _)⟩
 |some ps=>
  obtain⟨dq,ev,hq⟩:=D.yes h ps e4
  obtain⟨ne,le⟩:=Cb e4
  rw[ev]
  refine jA ⟨_,rfl,vv,fun t1 ht1=>?_⟩
  have s1:=gm ht1 (.tup [.str h])
  have R1:=R.same s1
  obtain⟨k1',hk1⟩:=R1.ob
  refine⟨_,rfl,p,dx,_,rfl,hk1,iF _ _ _ _ (by simp),_,rfl,Sum.inr h,_,rfl,rfl,ev,_,rfl,p,dx,wl,rl,dq,ws,rest,rows,ps,rfl,R1,W,hrows,hq _,le,fun ds r rows' t H2 e R2 k2 ht=>?_,fun e H2 k2=>?_⟩
  ·cases ht with
   |tup hsq hts=>
    rename_i xs
    have l1:=(kA ep _ _ _ _ _ _ e).2.2
    have l2:=hts.length
    have hne:xs≠[]:=fun z=>by
     rw[z]at l2
     rw[<-l2]at l1
     have:ps.length=0:=by simpa using l1.symm
     exact ne (bI.mp this)
    have ht2:SqT K H2 t1 [.str h]:=R1.sqt k2 (.inl (.inl gh))
    refine⟨t1,t,[.str h],xs,rfl,rfl,ht2,.inl (.inl hsq),(fun z=>nomatch z),(by
     have:([]:List Dt).length=0:=rfl
     show 1+xs.length<=_
     lia),fun z=>absurd z hne,fun _ u hu=>?_⟩
    have s:=gm hu (.tup ([.str h]++xs))
    refine q _ r rows' u _ (by rw[ef,e4];show(match gM _ _ _ _ _ with|none=>none|some (ds,r)=>_)=_;rw[e]) (R2.same s) (((gP.k2 s1).trans k2).trans (gP.k2 s)) (.tup gh (.cons (.flat rfl) (R2.tats (gP.k2 s) hts)))
  ·exact qe (by rw[ef,e4];show(match gM _ _ _ _ _ with|none=>none|some (ds,r)=>_)=_;rw[e]) H2 ((gP.k2 s1).trans k2)
theorem Cc:(reprText ")").length<=300002:=gB
def JX (K:PySem.W.Frag) (C CB:Addr) (f:Nat):Sp:=fun vs H Q E=>X7 fun(p dx wl rl:Addr) (ws rest:List Str) (rows:List Dt)=>Y6 (vs=[.ref p,.int (25-((f+ 1:Nat):Int))]) (RS K C H p dx wl rl ws rest rows) (WOk ws) (rows.length<=160) (
 (∀ds r rows' t H',sv (gQ f) rest rows=some (ds,r,rows')->RS K C H' p dx wl rl ws r rows'->K2 p rl H H'->TAt K H' (.ref t) (.tup ds)->Q (.ref t) H')) ((sv (gQ f) rest rows=none->∀H',K2 p rl H H'->E (.ref CB) none H'))
theorem GK (T:Txt K mg) (f:Nat)
  (gE53:ME P w base mg 2 T.e53 (iZ T.c13.a T.c2.a))
  (gE54:ME P w base mg 3 T.e54 (iL T.c13.a T.c2.a))
  (gD20:FO P w base 2 T.d20 mX)
  (gD21:FO P w base 2 T.d21 mI)
  (gE58:ME P w base mg (5*f+ 8) T.e58 (JW K T.c13.a T.c2.a f)):
  ME P w base mg (5*f+ 9) T.e57 (JX K T.c13.a T.c2.a f):=by
 refine T.e57.F.okE jT (fun vs H Q E h=>?_) (fun cdv A outer s H vs Q E hr h=>?_)
 ·obtain⟨p,dx,wl,rl,ws,rest,rows,rfl,_⟩:=h
  rfl
 obtain⟨p,dx,wl,rl,ws,rest,rows,rfl,R,W,hrows,q,qe⟩:=h
 refine⟨_,(gb (pS (i:=2) jT.nd (jl (pv 0) T.c13.cl T.e53.me gE53 (hr.mono (by lia)) T.e53.b .nil kb))
  (gb (ic (kr (pF T.d21 gD21 (hr.mono (by lia)) (f9 (pv 2) gf)))
   (gk (gJ (hI (f9 gq (f9 (ip uN rfl T.z_int CH (f9 (pv 2) gf)) gf)))))
   gE)
  (gb (ic (kr (pF T.d20 gD20 (hr.mono (by lia)) (f9 (pv 2) gf)))
   (gk (gJ (hI (f9 gq (f9 (pv 2) gf)))))
   gE)
  (gb (ic (i8 nC (pv 2) gq)
   (gk (jH rfl lH T.x2 rfl T.c2.m (f9 (mq (iB (uM (pv 2)) (iB gq pX))) gf)))
   gE)
  (gb (pS (i:=3) jT.nd (hG (pv 0) T.c13.cl T.e58.me gE58 (hr.mono (by lia)) T.e58.b .nil kb (f9 (jl (pv 0) T.c13.cl T.e53.me gE53 (hr.mono (by lia)) T.e53.b .nil kb) (f9 (gA Cw (pv 1) gj) gf))))
  (gb (gK (hG (pv 0) T.c13.cl T.e54.me gE54 (hr.mono (by lia)) T.e54.b .nil kb (f9 gq gf)))
  (gk (gJ (pv 3))))))))),?_⟩
 have sl:=sizeLine_eq
 obtain⟨k',hk⟩:=R.ob
 refine⟨_,rfl,p,dx,_,rfl,hk,iF _ _ _ _ (by simp),?_⟩
 refine tn0 ?_
 refine GI R W (fun x r H1 e R1 k1=>?_) (fun e=>qe (by rw[e];rfl) H (K2.refl _ _ _))
 have hx:x∈ws:=R.mem x (by rw[e];exact ah ..)
 have xl:=(W.one x hx).2.1
 refine⟨_,rfl,x,rfl,xl,fun H2 s2=>⟨_,rfl,?_⟩⟩
 have R2:=R1.same s2
 have k2:=k1.trans (gP.k2 (p:=p) (q:=rl) s2)
 cases e1:jn x with
 |true=>
  obtain⟨n1,n2,n3⟩:=qP e1
  refine jD ⟨_,rfl,x,uU x,rfl,yH n1 (by lia) n3,by lia,ma,fun t ht=>?_⟩
  have s:=gm ht (.tup [.str "num",.int (uU x)])
  exact q _ r rows t _ (by rw[e];exact wa e1) (R2.same s) (k2.trans (gP.k2 s)) (.tup gh (.cons (.flat rfl) (.cons (.flat rfl) .nil)))
 |false=>
  have f1:¬jn x=true:=by rw[e1];exact eX
  refine jA ⟨_,rfl,x,rfl,xl,fun H3 s3=>⟨_,rfl,?_⟩⟩
  have R3:=R2.same s3
  have k3:=k2.trans (gP.k2 (p:=p) (q:=rl) s3)
  cases e2:isName x with
  |true=>
   refine jD ⟨_,rfl,ma,fun t ht=>?_⟩
   have s:=gm ht (.tup [.str "name",.str x])
   exact q _ r rows t _ (by rw[e];exact tK f1 e2) (R3.same s) (k3.trans (gP.k2 s)) (.tup gh (.cons (.flat rfl) (.cons (.flat rfl) .nil)))
  |false=>
   have f2:¬isName x=true:=by rw[e2];exact eX
   refine jA ⟨_,rfl,rfl,_,rfl,?_⟩
   by_cases h3:x="("
   ·rw[ir (congrArg V.str h3)]
    obtain⟨k3',hk3⟩:=R3.ob
    refine jA ⟨_,rfl,p,dx,_,rfl,hk3,iF _ _ _ _ (by simp),_,rfl,p,dx,_,rfl,hk3,iF _ _ _ _ (by simp),?_⟩
    refine tn0 ?_
    refine GI R3 W (fun h r2 H4 e4 R4 k4=>?_) (fun e4=>qe (by rw[e,e4];exact B0 f1 f2 h3) H3 k3)
    have hh:h∈ws:=R3.mem h (by rw[e4];exact ah ..)
    have er':sv (gQ f) rest rows=my (ja (gQ f) h r2 rows):=by rw[e,e4];exact wb f1 f2 h3
    refine⟨_,rfl,_,_,rfl,rfl,p,dx,wl,rl,ws,r2,rows,h,(by
     show[V.ref p,V.str h,V.int (25-((f+ 1:Nat):Int)+ 1)]=_
     rw[show(25-((f+ 1:Nat):Int)+ 1)=25-(f:Int) by lia]),R4,W,hrows,hh,fun ds r3 rows' t H5 e5 R5 k5 ht=>?_,fun e5 H5 k5=>?_⟩
    ·obtain⟨k5',hk5⟩:=R5.ob
     refine⟨_,rfl,p,dx,_,rfl,hk5,iF _ _ _ _ (by simp),?_⟩
     refine tc1 ?_
     refine Ca R5 W Cc (fun r4 H6 e6 R6 k6=>?_) (fun ne H6 k6=>?_)
     ·refine⟨_,rfl,q ds r4 rows' t H6 ?_ R6 (((k3.trans k4).trans k5).trans k6) (R5.tat k6 ht)⟩
      rw[er',e5,e6]
      unfold my
      exact gX rfl
     ·refine qe ?_ H6 (((k3.trans k4).trans k5).trans k6)
      rw[er',e5]
      unfold my
      cases r3 with
      |nil=>rfl
      |cons y r4=>
       refine gN fun z=>ne ?_
       rw[z]
       rfl
    ·exact qe (by rw[er',e5];rfl) H5 ((k3.trans k4).trans k5)
   ·rw[iI (fun z:V.str x=V.str "("=>h3 (by injection z))]
    have hrp:=oG W hx
    refine jD ⟨_,rfl,x,rfl,by lia,_,rfl,Hw hrp,_,rfl,Ew hrp gB,Ew hrp gB,vv,qe ?_ H3 k3⟩
    rw[e]
    exact GB f1 f2 h3
theorem Cd (T:Txt K mg):ME P w base mg 5 T.e56 (EC K T.c13.a T.c2.a 0):=by
 refine T.e56.F.okE jE (fun vs H Q E h=>?_) (fun cdv A outer s H vs Q E hr h=>?_)
 ·obtain⟨p,dx,wl,rl,ws,rest,rows,rfl,_⟩:=h
  rfl
 obtain⟨p,dx,wl,rl,ws,rest,rows,rfl,R,W,hrows,q,qe⟩:=h
 refine⟨_,(gb (ic (i8 Dx (pv 1) (p9 rfl T.o12))
   (gk (jH rfl lH T.x2 rfl T.c2.m (f9 (mq (iB gq (iB (vU (p9 rfl T.o12)) pX))) gf)))
   gE)
  ze),?_⟩
 have sl:=sizeLine_eq
 have nn:=oN (show 24<=100000 by decide)
 refine⟨_,rfl,_,_,rfl,rfl,_,rfl,jD ?_⟩
 refine⟨_,rfl,?_,.inr ⟨_,rfl,nn.1,_,rfl,?_,?_,vv,qe rfl H (K2.refl _ _ _)⟩⟩
 all_goals
  simp only[Str.length_append]
  have e0:Str.empty.length=0:=rfl
  have e1:("a nest above ":Str).length=13:=gB
  have e2:(PySem.Str.ofString (toString (24:Int))).length<=6:=nn.2
  try lia
theorem Ce (T:Txt K mg) (f:Nat)
  (gE57:ME P w base mg (5*f+ 9) T.e57 (JX K T.c13.a T.c2.a f)):
  ME P w base mg (5*(f+ 1)+ 5) T.e56 (EC K T.c13.a T.c2.a (f+ 1)):=by
 refine T.e56.F.okE (k:=5*f+ 9) jE (fun vs H Q E h=>?_) (fun cdv A outer s H vs Q E hr h=>?_)
 ·obtain⟨p,dx,wl,rl,ws,rest,rows,rfl,_⟩:=h
  rfl
 obtain⟨p,dx,wl,rl,ws,rest,rows,rfl,R,W,hrows,q,qe⟩:=h
 refine⟨_,(gb (ic (i8 Dx (pv 1) (p9 rfl T.o12))
   (gk (jH rfl lH T.x2 rfl T.c2.m (f9 (mq (iB gq (iB (vU (p9 rfl T.o12)) pX))) gf)))
   gE)
  (gb (pS (i:=2) jE.nd (gY iG rfl T.z_len lY (f9 (ou (pv 0) rfl) gf)))
  (gb (ic (i8 sI (pv 2) (p9 rfl T.o11))
   (gk (jH rfl lH T.x2 rfl T.c2.m (f9 (mq (iB gq (iB (vU (p9 rfl T.o11)) (iB gq pX)))) gf)))
   gE)
  (gb (gK (jF eQ eR eS gT (ou (pv 0) rfl) (f9 qC gf)))
  (gb (zf (hG (pv 0) T.c13.cl T.e57.me gE57 (hr.mono (by lia)) T.e57.b .nil kb (f9 (pv 1) gf)) (Fn (ou (pv 0) rfl) (pv 2) Bx))
  (gk (gJ (pv 2)))))))),?_⟩
 have sl:=sizeLine_eq
 have nn:=oN (show 160<=100000 by decide)
 obtain⟨k,rv,R',h1,h2,h3⟩:=R
 have tl:=h3.length
 refine⟨_,rfl,_,_,rfl,rfl,_,rfl,?_⟩
 rw[iI (by lia)]
 refine jA ⟨_,rfl,p,_,dx,_,_,rfl,R'.ob,T.c13.cl,T.n13rows,tG _ _ _,rl,_,rfl,.inl (SqL.of R'.rw),?_⟩
 refine⟨_,rfl,rfl,_,rfl,?_⟩
 by_cases h160:rows.length=160
 ·rw[ir (show V.int ((rv.length:Nat):Int)=V.int 160 by rw[tl,h160];rfl)]
  refine jD ⟨_,rfl,?_,.inr ⟨_,rfl,nn.1,_,rfl,?_,_,rfl,?_,?_,vv,qe (by rw[gQ,gX h160]) H (K2.refl _ _ _)⟩⟩
  all_goals
   simp only[Str.length_append]
   have e0:Str.empty.length=0:=rfl
   have e1:("more than ":Str).length=10:=gB
   have e3:(" places":Str).length=7:=gB
   have e2:(PySem.Str.ofString (toString (160:Int))).length<=6:=nn.2
   try lia
 ·rw[iI (show ¬V.int ((rv.length:Nat):Int)=V.int 160 from fun z=>by injection z with z;lia)]
  refine jA ⟨_,rfl,p,_,dx,_,_,rfl,R'.ob,T.c13.cl,T.n13rows,tG _ _ _,.inl ⟨rfl,_,SqL.of R'.rw⟩,rl,_,_,rfl,rfl,R'.rw,by lia,?_⟩
  have npr:=R'.ne2
  have nwr:=R'.ne
  have R1':oF T.c13.a (upd H rl (.lst (rv++[.non]))) p dx wl rl ws k (rv++[.non]):=⟨by rw[gw npr];exact R'.ob,by rw[gw nwr];exact R'.wd,gh,nwr⟩
  have R1:RS K T.c13.a (upd H rl (.lst (rv++[.non]))) p dx wl rl ws rest (rows++[.flat .non]):=⟨k,_,R1',h1,h2,(h3.snoc (.flat rfl)).other R'.rw⟩
  have k1:K2 p rl H (upd H rl (.lst (rv++[.non]))):=(K2.refl p rl H).upd2 _
  have lr:(rows++[Dt.flat .non]).length=rows.length+ 1:=by rw[aN];rfl
  refine⟨_,rfl,p,dx,_,rfl,R1'.ob,iF _ _ _ _ (by simp),_,rfl,p,dx,wl,rl,ws,rest,_,rfl,R1,W,by lia,fun ds r rows' t H2 e R2 k2 ht=>?_,fun e H2 k2=>?_⟩
  ·have up:=(xQ (ji f) e).1.up
   obtain⟨kk,rv2,R2',g1,g2,g3⟩:=R2
   have tl2:=g3.length
   have lt:rows.length<rv2.length:=by
    have up':(rows++[Dt.flat .non]).length<=rows'.length:=up
    lia
   refine⟨_,rfl,p,_,dx,_,_,rfl,R2'.ob,T.c13.cl,T.n13rows,tG _ _ _,_,rfl,rl,_,_,rv.length,rfl,rfl,R2'.rw,Eu (by lia),?_⟩
   refine⟨_,rfl,?_⟩
   rw[tl]
   refine q r (rows'.set rows.length (.tup ds)) _ ?_ ⟨kk,_,⟨?_,?_,gh,nwr⟩,g1,g2,(kW.set _ g3 ht).other R2'.rw⟩ ((k1.trans k2).upd2 _)
   ·rw[gQ,gN h160,e]
   ·rw[gw npr]
    exact R2'.ob
   ·rw[gw nwr]
    exact R2'.wd
  ·refine qe ?_ H2 (k1.trans k2)
   rw[gQ,gN h160,e]
theorem AG (T:Txt K mg) (D:Dk P w K mg)
  (gE52:MO P w base mg 1 T.e52 (iw T.c13.a))
  (gE53:ME P w base mg 2 T.e53 (iZ T.c13.a T.c2.a))
  (gE54:ME P w base mg 3 T.e54 (iL T.c13.a T.c2.a))
  (gE55:ME P w base mg 3 T.e55 (iM T.c13.a T.c2.a))
  (gD20:FO P w base 2 T.d20 mX)
  (gD21:FO P w base 2 T.d21 mI)
  (gD24:FE P w base 1 T.d24 (i6 T.c2.a)):
  ∀f,ME P w base mg (5*f+ 5) T.e56 (EC K T.c13.a T.c2.a f)
 |0=>Cd T
 |f+ 1=>by
  have g:=AG T D gE52 gE53 gE54 gE55 gD20 gD21 gD24 f
  have gs:=AD T f gE55 g
  exact Ce T f (GK T f gE53 gE54 gD20 gD21
   (EE T D f g gs (AE T f gE52 gs gD24) (ED T f gE52 gs gD24) (AF T f gE52 g gD24)))
theorem Cf:(reprText "(").length<=300002/\(reprText "def").length<=300002/\(reprText ")").length<=300002:=gB
def kN (C:Addr):Sp:=fun vs H Q _=>X5 fun(p dx a b c:Addr)=>Y3 (vs=[.ref p,.ref a,.ref b,.ref c]) (H p=some (.ins C dx [])) (∀H',H' p=some (.ins C dx (fP a b c))->(∀z o,H z=some o->z≠p->H' z=some o)->Q .non H')
theorem nY (T:Txt K mg):MO P w base mg 1 T.e50 (kN T.c12.a):=by
 refine T.e50.F.rd nU fun cdv A outer s H vs Q E hr h=>?_
 obtain⟨p,dx,a,b,c,rfl,hp,k⟩:=h
 refine⟨_,(gb (jc (pv 0) (pv 1) rfl)
  (gb (jc (pv 0) (pv 2) rfl)
  (gk (jc (pv 0) (pv 3) rfl)))),?_⟩
 refine⟨_,rfl,_,rfl,p,T.c12.a,dx,[],rfl,hp,T.c12.cl,T.n12names,(by show 0<1000;decide),?_⟩
 refine⟨_,rfl,_,rfl,p,T.c12.a,dx,_,rfl,gh,T.c12.cl,T.n12roots,(by show 1<1000;decide),?_⟩
 refine⟨_,rfl,_,rfl,p,T.c12.a,dx,_,rfl,gh,T.c12.cl,T.n12rows,(by show 2<1000;decide),?_⟩
 refine k _ ?_ fun z o e hz=>?_
 ·rw[gh]
  exact congrArg (fun l=>some (HO.ins T.c12.a dx l)) (IG a b c)
 ·rw[gw hz,gw hz,gw hz]
  exact e
structure PrAt (C:Addr) (H:Hp) (g:Addr) (nl tl rl:Addr) (names roots rows:List V):Prop where
 ob:∃dx,H g=some (.ins C dx (fP nl tl rl))
 nm:H nl=some (.lst names)
 rt:H tl=some (.lst roots)
 rw:H rl=some (.lst rows)
 n1:nl≠tl
 n2:nl≠rl
 n3:tl≠rl
def EF (K:PySem.W.Frag) (C CB:Addr):Sp:=fun vs H Q E=>X2 fun(x:Str) (ws:List Str)=>Y6 (vs=[.str x]) (x.length<=30000) (qN x.cps.toList=ws.map V.str) (WOk ws) (
 (∀names roots rows g nl tl rl rtv rwv H',mz ws=some (names,roots,rows)->gP H H'->H nl=none->H tl=none->H rl=none->PrAt C H' g nl tl rl (names.map V.str) rtv rwv->kW K H' rtv roots->kW K H' rwv rows->Q (.ref g) H')) ((mz ws=none->∀H',gP H H'->E (.ref CB) none H'))
theorem pO {p rl:Addr} {H H1 H2:Hp} (np:H p=none) (nr:H rl=none) (s:gP H H1) (k:K2 p rl H1 H2):gP H H2:=fun b o e=>k b o (s b o e) (gr e np) (gr e nr)
theorem EG (T:Txt K mg) (gD19:FO P w base 1 T.d19 rm) (gE51:MO P w base mg 1 T.e51 (kR T.c13.a))
  (gE52:MO P w base mg 1 T.e52 (iw T.c13.a))
  (gE54:ME P w base mg 3 T.e54 (iL T.c13.a T.c2.a))
  (gE55:ME P w base mg 3 T.e55 (iM T.c13.a T.c2.a))
  (gE56:ME P w base mg (5*24+ 5) T.e56 (EC K T.c13.a T.c2.a 24))
  (gD24:FE P w base 1 T.d24 (i6 T.c2.a))
  (gE50:MO P w base mg 1 T.e50 (kN T.c12.a)):
  FE P w base 126 T.d23 (EF K T.c12.a T.c2.a):=by
 refine T.d23.F.okE tR (fun vs H Q E h=>?_) (fun cdv A outer s H vs Q E hr h=>?_)
 ·obtain⟨x,ws,rfl,_⟩:=h
  rfl
 obtain⟨x,ws,rfl,hx,hw,W,q,qe⟩:=h
 refine⟨_,(gb (pS (i:=1) tR.nd (oV T.mk13 gE51 (hr.mono (by lia)) rfl T.c13.m T.e51.b .nil je (f9 (pF T.d19 gD19 (hr.mono (by lia)) (f9 (pv 0) gf)) gf)))
  (gb (pS (i:=2) tR.nd (hZ gf))
  (gb (pS (i:=3) tR.nd (hZ gf))
  (gb (mS PassesOwn.leaving (i8 nC (jl (pv 1) T.c13.cl T.e52.me gE52 (hr.mono (by lia)) T.e52.b .nil je) gq)
   (gb (gK (hG (pv 1) T.c13.cl T.e54.me gE54 (hr.mono (by lia)) T.e54.b .nil kb (f9 gq gf)))
   (gb (gK (hG (pv 1) T.c13.cl T.e54.me gE54 (hr.mono (by lia)) T.e54.b .nil kb (f9 gq gf)))
   (gb (gK (jF eQ eR eS gT (pv 2) (f9 (jl (pv 1) T.c13.cl T.e55.me gE55 (hr.mono (by lia)) T.e55.b .nil kb) gf)))
   (gb (gK (jF eQ eR eS gT (pv 3) (f9 (hG (pv 1) T.c13.cl T.e56.me gE56 (hr.mono (by lia)) T.e56.b .nil kb (f9 gj gf)) gf)))
   (gk (gK (hG (pv 1) T.c13.cl T.e54.me gE54 (hr.mono (by lia)) T.e54.b .nil kb (f9 gq gf)))))))))
  (gb (gK (ml gD24 (hr.mono (by lia)) rfl T.d24.m T.d24.k T.d24.b .nil kb (f9 gq (f9 (gY iG rfl T.z_len lY (f9 (pv 2) gf)) (f9 gj (f9 (p9 rfl T.o7) gf))))))
  (gk (gJ (oV T.mk12 gE50 (hr.mono (by lia)) rfl T.c12.m T.e50.b .nil je (f9 (pv 2) (f9 (pv 3) (f9 (ou (pv 1) rfl) gf))))))))))),?_⟩
 have sl:=sizeLine_eq
 obtain⟨rp1,rp2,rp3⟩:=Cf
 refine⟨_,rfl,x,rfl,hx,fun wl H1 s1 nwl hwl p dx np ndx nex=>?_⟩
 rw[hw]at hwl
 have wp:wl≠p:=gr hwl np
 have wdx:wl≠dx:=gr hwl ndx
 refine⟨p,dx,wl,ws,rfl,gh,by rw[gw wp,gw wdx];exact hwl,fun rl H2 nrl R2 keep=>⟨rfl,?_⟩⟩
 have np0:H p=none:=s1.free np
 have S1:gP H (upd (upd H1 dx (.own p)) p (.ins T.c13.a dx [])):=tH _ np0 (tH _ (s1.free ndx) s1)
 have nr0:H rl=none:=S1.free nrl
 have S2:gP H H2:=fun b o e=>keep b o (S1 b o e) (gr e np0)
 refine⟨um,fun nl hnl=>⟨um,fun tl htl=>?_⟩⟩
 have nn0:H nl=none:=S2.free hnl
 have S3:gP H (upd H2 nl (.lst [])):=S2.trans (gm hnl _)
 have nt0:H tl=none:=S3.free htl
 have S4:gP H (upd (upd H2 nl (.lst [])) tl (.lst [])):=S3.trans (gm htl _)
 have R4':=(R2.same (gm hnl (.lst []))).same (gm htl (.lst []))
 have R4:RS K T.c13.a (upd (upd H2 nl (.lst [])) tl (.lst [])) p dx wl rl ws ws []:=⟨0,[],R4',rfl,cu _,.nil⟩
 have ntn:nl≠tl:=gr gh htl
 have hN4:upd (upd H2 nl (.lst [])) tl (.lst []) nl=some (.lst []):=by rw[gw ntn];exact gh
 have hT4:upd (upd H2 nl (.lst [])) tl (.lst []) tl=some (.lst []):=gh
 have pn:nl≠p:=Ne.symm (gr R2.ob hnl)
 have rn:nl≠rl:=Ne.symm (gr R2.rw hnl)
 have pt:tl≠p:=Ne.symm (gr (R2.same (gm hnl (.lst []))).ob htl)
 have rt:tl≠rl:=Ne.symm (gr (R2.same (gm hnl (.lst []))).rw htl)
 have wn:nl≠wl:=Ne.symm (gr R2.wd hnl)
 have wt:tl≠wl:=Ne.symm (gr (R2.same (gm hnl (.lst []))).wd htl)
 have wlen:=W.len
 have ra:mz ws=match jr ws [] [] []with
  |none=>none
  |some (n,r,rows)=>if 1<=n.length/\n.length<=12 then some (n,r,rows)else none:=by rw[mz]<;>rfl
 generalize hH4:upd (upd H2 nl (.lst [])) tl (.lst [])=H4 at R4 S4 hN4 hT4
 refine⟨fun m σ H5=>X5 fun(names:List Str) (roots:List Dt) (rtv:List V) (rest:List Str) (rows:List Dt)=>Y11 (m=rest.length) (σ=[some (.str x),some (.ref p),some (.ref nl),some (.ref tl)]) (RS K T.c13.a H5 p dx wl rl ws rest rows) (gP H H5) (H5 nl=some (.lst (names.map V.str))) (H5 tl=some (.lst rtv)) (kW K H5 rtv roots) (names.length+rest.length<=30000) (roots.length=names.length) (rows.length<=160) (jr ws [] [] []=jr rest rows names roots),
  ⟨_,[],[],[],ws,[],rfl,rfl,R4,S4,hN4,hT4,.nil,(by show 0+_<=_;lia),rfl,cu _,rfl⟩,?_⟩
 rintro m σ H5 ⟨names,roots,rtv,rest,rows,rfl,rfl,R5,S5,hN5,hT5,ht5,hlen,hlr,hrows,heq⟩
 obtain⟨k5,hk5⟩:=R5.ob
 have lroot:=ht5.length
 refine⟨_,rfl,p,dx,_,rfl,hk5,iF _ _ _ _ (.inl rfl),?_⟩
 refine tn0 ?_
 refine B9 R5 W ?_
 refine⟨rfl,_,rfl,?_⟩
 by_cases hnil:rest=[]
 ·subst hnil
  rw[show decide (V.str (([]:List Str).headD "")=V.str "")=true by decide+kernel]
  rw[defs_nil]at heq
  rw[heq]at ra
  have ra':mz ws=if 1<=names.length/\names.length<=12 then some (names,roots,rows)else none:=ra
  have lm:(names.map V.str).length=names.length:=aC ..
  refine jA ⟨_,rfl,nl,_,rfl,.inl (SqL.of hN5),"definitions",(names.map V.str).length,1,12,rfl,gB,by lia,by decide,by decide,fun hc=>?_,fun hc=>?_⟩
  ·rw[lm]at hc
   rw[gX hc]at ra'
   refine⟨_,rfl,_,rfl,_,rfl,p,_,dx,_,_,rfl,hk5,T.c13.cl,T.n13rows,tG _ _ _,fun g dg ng ndg neg=>?_⟩
   refine⟨g,dg,nl,tl,rl,rfl,gh,fun H6 hg keep6=>⟨rfl,?_⟩⟩
   have k6:gP H5 H6:=fun b o e=>keep6 b o (by rw[gw (gr e ng),gw (gr e ndg)];exact e) (gr e ng)
   obtain⟨k,rv,R5',h1,h2,h3⟩:=R5
   have kk:K2 p rl H5 H6:=gP.k2 k6
   exact q names roots rows g nl tl rl rtv rv H6 ra' (S5.trans k6) nn0 nt0 nr0 ⟨⟨dg,hg⟩,k6 _ _ hN5,k6 _ _ hT5,k6 _ _ R5'.rw,ntn,rn,rt⟩ (ht5.mono fun a xs t=>oF.tpT R5' kk t) (h3.mono fun a xs t=>oF.tpT R5' kk t)
  ·rw[lm]at hc
   rw[gN hc]at ra'
   exact qe ra' H5 S5
 ·have e1:¬V.str (rest.headD "")=V.str "":=fun z=>by
   injection z with z
   cases rest with
   |nil=>exact hnil rfl
   |cons a r=>exact(W.one a (R5.mem a (ah ..))).1 z
  rw[iI e1]
  have fail:∀{H':Hp},jr rest rows names roots=none->K2 p rl H5 H'->E (.ref T.c2.a) none H':=fun{H'} z k=>by
   refine qe ?_ H' (pO np0 nr0 S5 k)
   rw[ra,heq,z]
  refine jD ⟨_,fun σ' H' z=>z,?_⟩
  refine⟨_,rfl,p,dx,_,rfl,hk5,iF _ _ _ _ (by simp),?_⟩
  refine tc1 ?_
  refine Ca R5 W rp1 (fun r1 H6 e6 R6 k6=>?_) (fun ne H6 k6=>fail (B2 hnil ne) k6)
  subst e6
  obtain⟨k6',hk6⟩:=R6.ob
  refine⟨_,rfl,p,dx,_,rfl,hk6,iF _ _ _ _ (by simp),?_⟩
  refine tc1 ?_
  refine Ca R6 W rp2 (fun r2 H7 e7 R7 k7=>?_) (fun ne H7 k7=>fail (B3 ne) (k6.trans k7))
  subst e7
  have kk7:=k6.trans k7
  have hN7:H7 nl=some (.lst (names.map V.str)):=kk7 _ _ hN5 pn rn
  obtain⟨k7',hk7⟩:=R7.ob
  refine⟨_,rfl,.inl ⟨rfl,_,SqL.of hN7⟩,_,rfl,p,dx,_,rfl,hk7,iF _ _ _ _ (by simp),?_⟩
  refine tn0 ?_
  refine GJ R7 W (fun c r3 H8 e8 hc R8 k8=>?_) (fun hno H8 k8=>fail (B4 hno) (kk7.trans k8))
  subst e8
  have kk8:=kk7.trans k8
  have hN8:H8 nl=some (.lst (names.map V.str)):=kk8 _ _ hN5 pn rn
  have hT8:H8 tl=some (.lst rtv):=kk8 _ _ hT5 pt rt
  simp only[az]at hlen
  refine⟨nl,_,_,rfl,rfl,hN8,(by rw[aC];lia),?_⟩
  have R9:=R8.other (o:= .lst (names.map V.str++[.str c])) hN8 pn wn rn
  have S8:=pO np0 nr0 S5 kk8
  have S9:gP H (upd H8 nl (.lst (names.map V.str++[.str c]))):=tH _ nn0 S8
  have hT9:upd H8 nl (.lst (names.map V.str++[.str c])) tl=some (.lst rtv):=by rw[gw (Ne.symm ntn)];exact hT8
  have ht9:=(R5.tats kk8 ht5).other (o:= .lst (names.map V.str++[.str c])) hN8
  obtain⟨k9',hk9⟩:=R9.ob
  refine⟨_,rfl,.inl ⟨rfl,_,SqL.of hT9⟩,_,rfl,p,dx,_,rfl,hk9,iF _ _ _ _ (by simp),?_⟩
  refine tc1 ?_
  refine⟨p,dx,wl,rl,ws,r3,rows,rfl,R9,W,hrows,fun r4 rows4 H10 e10 R10 k10=>?_,fun e10 H10 k10=>?_⟩
  ·have hN10:H10 nl=some (.lst (names.map V.str++[.str c])):=k10 _ _ gh pn rn
   have hT10:H10 tl=some (.lst rtv):=k10 _ _ hT9 pt rt
   have S10:=pO np0 nr0 S9 k10
   obtain⟨st,lt,_⟩:=ji 24 _ _ _ e10
   refine⟨tl,_,_,rfl,rfl,hT10,(by lia),?_⟩
   have R11:=R10.other (o:= .lst (rtv++[.int (rows.length:Int)])) hT10 pt wt rt
   have ht11:=((R9.tats k10 ht9).snoc (.flat (v:= .int (rows.length:Int)) rfl)).other (o:= .lst (rtv++[.int (rows.length:Int)])) hT10
   have hN11:upd H10 tl (.lst (rtv++[.int (rows.length:Int)])) nl=some (.lst (names.map V.str++[.str c])):=by rw[gw ntn];exact hN10
   have S11:gP H (upd H10 tl (.lst (rtv++[.int (rows.length:Int)]))):=tH _ nt0 S10
   obtain⟨k11',hk11⟩:=R11.ob
   refine⟨_,rfl,p,dx,_,rfl,hk11,iF _ _ _ _ (by simp),?_⟩
   refine tc1 ?_
   refine Ca R11 W rp3 (fun r5 H12 e12 R12 k12=>?_) (fun ne H12 k12=>?_)
   ·subst e12
    have lt':r5.length+ 1<r3.length:=lt
    refine⟨r5.length,(by simp only[az];lia),names++[c],roots++[.flat (.int (rows.length:Int))],_,r5,rows4,rfl,rfl,R12,pO np0 nr0 S11 k12,?_,k12 _ _ gh pt rt,R11.tats k12 ht11,?_,?_,st.most hrows,?_⟩
    ·rw[bc]
     exact k12 _ _ hN11 pn rn
    ·rw[aN]
     show names.length+ 1+_<=_
     lia
    ·rw[aN,aN,hlr]
     rfl
    ·rw[heq,defs_yes hc e10]
   ·refine qe ?_ H12 (pO np0 nr0 S11 k12)
    rw[ra,heq,B6 hc e10 ne]
  ·refine qe ?_ H10 (pO np0 nr0 S9 k10)
   rw[ra,heq,B5 hc e10]
end K66.Internal
namespace K66.Internal
open PySem L2.Internal BO.Internal
seal L2.Internal.PE L2.Internal.PA L2.Internal.PS L2.Internal.PSs L2.Internal.PT L2.Internal.PI
theorem ig {H H2:Hp} {l:Addr} (s:gP H H2) (h:H l=none) (o:HO):gP H (upd H2 l o):=fun b u e=>by rw[gw (gr e h)];exact s b u e
abbrev Hm:=Str×Int
def hmD (h:Hm):Dt:= .tup [.flat (.str h.1),.flat (.int h.2)]
def Sc (H:Hp) (a:Addr) (g:Str->Option Hm) (n:Nat):Prop:=∃kvs:List (Key×V),Y3 (H a=some (.dK kvs)) (kvs.length<=n) (∀w:Str,match g w with
 |none=>jC kvs (.inr w)=none
 |some h=>∃t,jC kvs (.inr w)=some (.ref t)/\H t=some (.tup [.str h.1,.int h.2]))
theorem Sc.same {H H':Hp} {a:Addr} {g:Str->Option Hm} {n:Nat} (h:Sc H a g n) (s:gP H H'):Sc H' a g n:=by
 obtain⟨kvs,e,l,h⟩:=h
 refine⟨kvs,s _ _ e,l,fun w=>?_⟩
 have:=h w
 cases hg:g w with
 |none=>rw[hg]at this;exact this
 |some z=>
  rw[hg]at this
  obtain⟨t,h1,h2⟩:=this
  exact⟨t,h1,s _ _ h2⟩
def wid (g:Str->Option Hm) (x:Str) (h:Hm):Str->Option Hm:=fun w=>if w=x then some h else g w
def yQ:Sp:=fun vs H Q _=>X6 fun(a t:Addr) (g:Str->Option Hm) (n:Nat) (x:Str) (h:Hm)=>Y5 (vs=[.ref a,.str x,.ref t]) (Sc H a g n) (n<10000) (H t=some (.tup [.str h.1,.int h.2])) (∀b H',gP H H'->H b=none->Sc H' b (wid g x h) (n+ 1)->Q (.ref b) H')
theorem sy (T:Txt K mg):FO P w base 1 T.d31 yQ:=by
 refine T.d31.F.rd sx fun cdv A outer s H vs Q E hr h=>?_
 have hu:=vR hr
 obtain⟨a,t,g,n,x,h,rfl,⟨kvs,e,l,hk⟩,hn,et,q⟩:=h
 refine⟨_,(gb (pS (i:=3) sx.nd (ip yF rfl T.z_dict zI (f9 (cv 0) gf)))
  (gb (nG hu (cv 3) (cv 1) (cv 2) rfl)
  (gk (gJ (cv 3))))),?_⟩
 have sl:=sizeLine_eq
 refine⟨a,kvs,rfl,e,fun b hb=>?_⟩
 have s1:=gm hb (.dK kvs)
 have eb:(upd H b (.dK kvs)) b=some (.dK kvs):=gh
 dsimp only[ia]
 refine⟨b,_,rfl,yW.k (k:=Sum.inr x) eb (by lia),?_⟩
 have tk:∀{y:Addr} {xs:List V},H y=some (.tup xs)->(upd (upd H b (.dK kvs)) b (.dK (mU kvs (Sum.inr x) (.ref t)))) y=some (.tup xs):=fun{y xs} ey=>by rw[gw (ko (s1 _ _ ey) eb (fun h=>nomatch h))];exact s1 _ _ ey
 refine q b _ (ig s1 hb _) hb ⟨_,gh,ck (iA _ _ _) (by lia),fun w=>?_⟩
 unfold wid
 by_cases hw:w=x
 ·rw[gX hw]
  exact⟨t,by rw[iR,gX (by rw[hw])],tk et⟩
 ·rw[gN hw]
  have hh:=hk w
  have hv:jC (mU kvs (Sum.inr x) (.ref t)) (.inr w)=jC kvs (.inr w):=by rw[iR,gN (fun z=>hw (by injection z))]
  cases hg:g w with
  |none=>rw[hg]at hh;exact hv.trans hh
  |some z=>
   rw[hg]at hh
   obtain⟨t',h1,h2⟩:=hh
   exact⟨t',hv.trans h1,tk h2⟩
def rq:Sp:=fun vs H Q _=>X2 fun(a:Addr) (ws:List Str)=>Y5 (vs=[.ref a]) (H a=some (.lst (ws.map V.str))) (ws.Nodup) (ws.length<=10000) (∀H',gP H H'->Q .non H')
theorem rA (T:Txt K mg):FO P w base 1 T.d26 rq:=by
 refine T.d26.F.rd kH fun cdv A outer s H vs Q E hr h=>?_
 have hu:=vR hr
 obtain⟨a,ws,rfl,e,nd,hl,q⟩:=h
 refine⟨_,(gb (pS (i:=1) kH.nd oy)
  (gk (ky PassesOwn.never rfl (oU (cv 0)) (pN (i:=2) kH.nd)
   (gb (ic (uo (CA hu (cv 2) (cv 1)) rfl)
    (gk wY)
    gE)
   (gk (nG hu (cv 1) (cv 2) om rfl)))))),?_⟩
 have sl:=sizeLine_eq
 intro d hd
 have s1:=gm hd (.dK [])
 have ed:(upd H d (.dK [])) d=some (.dK []):=gh
 dsimp only[ia]
 generalize upd H d (.dK [])=H1 at s1 ed⊢
 refine⟨a,rfl,⟨_,SqL.of (s1 _ _ e)⟩,qk (xs:=ws.map V.str) (fun i σ H2=>X2 fun(o:Option V) (kvs:List (Key×V))=>Y5 (σ=[some (.ref a),some (.ref d),o]) (gP H H2) (H2 d=some (.dK kvs)) (kvs.length<=i) (∀w:Str,w∉ws.take i->jC kvs (.inr w)=none))
  ⟨none,[],rfl,s1,ed,cu _,fun _ _=>rfl⟩ (fun i σ H2 _ ⟨_,_,_,S,_,_,_⟩=>SqL.of (S _ _ e)) ?_ ?_⟩
 ·rintro i v σ H2 hv ⟨o,kvs,rfl,S,ek,hk,hn⟩
  have hi:=(au.mp hv).1
  rw[aC]at hi
  rw[aK]at hv
  obtain⟨x,hx⟩:∃x,ws[i]?=some x:=⟨_,bu hi⟩
  rw[hx]at hv
  cases hv
  have hxn:x∉ws.take i:=fun hm=>by
   have h1:(ws.take i++ws.drop i).Nodup:=by rw[List.take_append_drop];exact nd
   rw[List.nodup_append]at h1
   obtain⟨z1,z2⟩:=au.mp hx
   exact h1.2.2 _ hm _ (by rw[bD z1,z2];simp) rfl
  have g:=xm.k (k:=(Sum.inr x:Key)) ek
  rw[hn x hxn]at g
  refine⟨d,none,rfl,g,_,rfl,jA ?_⟩
  refine⟨d,_,rfl,yW.k (k:=Sum.inr x) ek (by lia),_,_,rfl,ig S hd _,gh,ck (iA _ _ _) (by lia),fun w hw=>?_⟩
  rw[iR]
  rw[bW,hx]at hw
  have h1:w≠x:=fun z=>hw (by simp[z])
  rw[gN (fun z=>h1 (by injection z))]
  exact hn w fun z=>hw (aq _ z)
 ·rintro σ H2 ⟨o,kvs,rfl,S,_⟩
  exact q H2 S
def sA:Sp:=fun vs H Q _=>∃(t a:Addr) (k:Int) (g:Str->Option Hm) (n:Nat) (s:Str) (r:List V),vs=[.ref t,.int k,.ref a]/\H t=some (.tup (.str s::r))/\Sc H a g n/\(s≠"name"->Q .non H)/\(s="name"->∃(x:Str) (h:Hm),r=[.str x]/\g x=some h/\∀p,H p=some (.tup [.str h.1,.int h.2])->Q (.ref p) H)
theorem yR (T:Txt K mg):FO P w base 1 T.d28 sA:=by
 refine T.d28.F.rd yM fun cdv A outer s H vs Q E hr h=>?_
 have hu:=vR hr
 obtain⟨t,a,k,g,n,s',r,rfl,et,⟨kvs,e,l,hk⟩,q1,q2⟩:=h
 refine⟨_,(gb (ic (gL BH (gC gG (cv 0) gj) gq)
   (gk (gJ qC))
   gE)
  (gb (ic (uo (zx hu (gC gG (cv 0) gj) (cv 2)) rfl)
   (gk wY)
   gE)
  (gk (gJ (vN hu (cv 2) (gC gG (cv 0) gj)))))),?_⟩
 refine⟨_,et,gx (gv (j:=0) rfl) ?_⟩
 dsimp only[tC,cEq,onB]
 by_cases hs:s'="name"
 ·obtain⟨x,h,rfl,hg,q⟩:=q2 hs
  rw[ir hs]
  have hh:=hk x
  rw[hg]at hh
  obtain⟨p,h1,h2⟩:=hh
  have g:=xm.k (k:=(Sum.inr x:Key)) e
  rw[h1]at g
  exact jA ⟨_,et,gx (gv (j:=1) rfl) ⟨a,_,rfl,g,_,rfl,jA ⟨_,et,gx (gv (j:=1) rfl) ⟨a,_,rfl,g,q p h2⟩⟩⟩⟩
 ·rw[iI hs]
  exact jD (q1 hs)
mutual
def flV:Dt->List V
 | .flat v=>[v]
 | .tup ds=>jz ds
 | .lst _=>[]
def jz:List Dt->List V
 |[]=>[]
 |d::ds=>flV d++jz ds
end
mutual
def okF:Dt->Bool
 | .flat v=>(match v with| .int _=>true| .str _=>true|_=>false)
 | .tup ds=>p6 ds
 | .lst _=>false
def p6:List Dt->Bool
 |[]=>true
 |d::ds=>okF d&&p6 ds
end
theorem ve:∀(l:List Dt) (d:Dt),jz (l++[d])=jz l++flV d
 |[],d=>by simp[jz]
 |a::l,d=>by rw[aQ,jz,jz,ve l d,bL]
theorem xU:∀{l:List Dt} {i:Nat} {d:Dt},p6 l=true->l[i]?=some d->okF d=true
 |a::l,0,d,h,e=>by cases e;rw[p6,eZ]at h;exact h.1
 |a::l,i+ 1,d,h,e=>by rw[p6,eZ]at h;rw[bA]at e;exact xU h.2 e
theorem mJ:∀(l:List Dt) (i:Nat),(jz (l.take i)).length<=(jz l).length
 |[],i=>by simp[jz]
 |a::l,0=>by simp[jz]
 |a::l,i+ 1=>by
  rw[List.take_succ_cons,jz,jz,aN,aN]
  have:=mJ l i
  lia
theorem sC:∀{l:List Dt} {i:Nat} {d:Dt},l[i]?=some d->(flV d).length<=(jz l).length
 |a::l,0,d,e=>by cases e;rw[jz,aN];lia
 |a::l,i+ 1,d,e=>by
  rw[bA]at e
  have:=sC e
  rw[jz,aN]
  lia
theorem lW {H:Hp}:∀{xs:List V} {ds:List Dt} {j:Nat} {x:V},Ims H xs ds->xs[j]?=some x->∃d,ds[j]?=some d/\Im H x d
 |_,_,0,_,.cons h _,e=>⟨_,rfl,by cases e;exact h⟩
 |_,_,j+ 1,_,.cons _ t,e=>by
  rw[bA]at e
  obtain⟨d,e1,e2⟩:=lW t e
  exact⟨d,by rw[bA];exact e1,e2⟩
def AH (n:Nat):Sp:=fun vs H Q _=>X3 fun(t:Addr) (xs:List V) (ds:List Dt)=>Y7 (vs=[.ref t]) (H t=some (.tup xs)) (Ims H xs ds) (p6 ds=true) (iY ds<n) ((jz ds).length<=10000) (∀l H',gP H H'->H l=none->H' l=some (.lst (jz ds))->Q (.ref l) H')
theorem EH (T:Txt K mg):∀n:Nat,FO P w base (n+ 1) T.d3 (AH n):=by
 intro n
 induction n with
 |zero=>
  refine T.d3.F.rd tQ fun cdv A outer s H vs Q E hr h=>?_
  obtain⟨t,xs,ds,rfl,et,hx,hok,hd,hl,q⟩:=h
  exact absurd hd (cG _)
 |succ n ih=>
  have gD3:=ih
  refine T.d3.F.rd tQ fun cdv A outer s H vs Q E hr h=>?_
  obtain⟨t,xs,ds,rfl,et,hx,hok,hd,hl,q⟩:=h
  refine⟨_,(gb (pS (i:=1) tQ.nd (hZ gf))
  (gb (ky PassesOwn.never rfl (rW (cv 0)) (pN (i:=2) tQ.nd)
   (gk (ic (kr (gY oA rfl T.z_isinstance gZ (f9 (cv 2) (f9 (pU rfl T.z_tuple jZ) gf))))
    (gk (gK (jF eQ PySem.F.slot_list_extend PySem.F.type_list_extend zE (cv 1) (f9 (pF T.d3 gD3 (hr.mono (by lia)) (f9 (cv 2) gf)) gf))))
    (gk (gK (jg (jF eQ eR eS gT (PE.mono (cv 1)) (f9 (PE.mono (cv 2)) gf))))))))
  (gk (gJ (cv 1))))),?_⟩
  have sl:=sizeLine_eq
  have lx:=hx.length
  refine⟨um,fun f hf=>?_⟩
  have s1:=gm hf (.lst [])
  have e1:(upd H f (.lst [])) f=some (.lst []):=gh
  dsimp only[ia]
  generalize upd H f (.lst [])=H1 at s1 e1⊢
  refine⟨t,rfl,⟨_,SqT.of (s1 _ _ et)⟩,vG (xs:=xs) (fun i σ H2=>∃(o:Option V),σ=[some (.ref t),some (.ref f),o]/\gP H H2/\H2 f=some (.lst (jz (ds.take i)))) ⟨none,rfl,s1,by simpa[jz]using e1⟩ (fun i σ H2 _ ⟨_,_,S,_⟩=>SqT.of (S _ _ et)) ?_ ?_⟩
  ·rintro i v σ H2 hv ⟨o,rfl,S,e⟩
   obtain⟨d,hdi,him⟩:=lW hx hv
   have him2:=him.mono (gP.tk S)
   have hok1:=xU hok hdi
   have tl:=mJ ds i
   have gl:=sC hdi
   have nxt:jz (ds.take (i+ 1))=jz (ds.take i)++flV d:=by rw[bW,hdi];exact ve _ _
   cases him2 with
   |flat hfl=>
    rw[flV]at nxt gl
    have ap:(∃xs,H2 f=some (.lst xs))/\∃xs,H2 f=some (.lst xs)/\xs.length<sizeLine/\∃(o:Option V),[some (V.ref t),some (V.ref f),some v]=[some (V.ref t),some (.ref f),o]/\gP H (upd H2 f (.lst (xs++[v])))/\(upd H2 f (.lst (xs++[v]))) f=some (.lst (jz (ds.take (i+ 1)))):=
     ⟨⟨_,e⟩,_,e,by lia,_,rfl,ig S hf _,by rw[gh,nxt]⟩
    cases v with
    |int n=>exact⟨_,_,_,_,false,rfl,fun _ r=>r,.int n,rfl,_,rfl,jA ap⟩
    |str x=>exact⟨_,_,_,_,false,rfl,fun _ r=>r,.str x,rfl,_,rfl,jA ap⟩
    |_=>simp[okF]at hok1
   |@tup a ys es ha hs=>
    rw[flV]at nxt gl
    rw[okF]at hok1
    have hdd:=L2.Internal.depDs_get hdi
    rw[nk]at hdd
    refine⟨_,_,_,_,true,rfl,fun _ r=>r,.tup ha,rfl,_,rfl,jD ⟨.inl ⟨rfl,_,SqL.of e⟩,a,ys,es,rfl,ha,hs,hok1,by lia,by lia,fun l H3 S3 hl3 e3=>?_⟩⟩
    refine⟨f,l,_,_,rfl,rfl,S3 _ _ e,e3,?_,_,rfl,ig (S.trans S3) hf _,by rw[gh,nxt]⟩
    have h1:(jz (ds.take (i+ 1))).length<=(jz ds).length:=mJ ds (i+ 1)
    rw[nxt,aN]at h1
    lia
  ·rintro σ H2 ⟨o,rfl,S,e⟩
   rw[bF (by lia)]at e
   exact q f H2 S hf e
inductive Ro
 |num (n:Int)
 |name (w:Str)
 |fn (w:Str) (k:Int)
 |tag (w:Str) (k:Int)
 |lt (w:Str) (a b:Int)
 |get (k:Int) (w:Str)
 |rcd (l:List (Str×Int))
 |case (k:Int) (l:List (Str×Str×Int))
 |row (ks:List Int)
 |op (s:Str) (ks:List Int)
def kD (k:Int):Dt:= .flat (.int k)
def sD (s:Str):Dt:= .flat (.str s)
def fdD (p:Str×Int):Dt:= .tup [sD p.1,kD p.2]
def amD (p:Str×Str×Int):Dt:= .tup [sD p.1,sD p.2.1,kD p.2.2]
def Ro.s:Ro->Str
 | .num _=>"num"
 | .name _=>"name"
 | .fn _ _=>"fn"
 | .tag _ _=>"tag"
 | .lt _ _ _=>"let"
 | .get _ _=>"get"
 | .rcd _=>"rec"
 | .case _ _=>"case"
 | .row _=>"row"
 | .op s _=>s
def Ro.r:Ro->List Dt
 | .num n=>[kD n]
 | .name w=>[sD w]
 | .fn w k=>[sD w,kD k]
 | .tag w k=>[sD w,kD k]
 | .lt w a b=>[sD w,kD a,kD b]
 | .get k w=>[kD k,sD w]
 | .rcd l=>[.tup (l.map fdD)]
 | .case k l=>[kD k,.tup (l.map amD)]
 | .row ks=>[.tup (ks.map kD)]
 | .op _ ks=>ks.map kD
def Ro.d (ρ:Ro):Dt:= .tup (sD ρ.s::ρ.r)
def plain:List Str:=["size","at","call","join","add","sub","less"]
def Ro.ok:Ro->Prop
 | .rcd l=>l.length<=100/\(l.map Prod.fst).Nodup
 | .case _ l=>l.length<=100/\(l.map Prod.fst).Nodup
 | .row ks=>ks.length<=100
 | .op s ks=>s∈plain/\ks.length<=100
 |_=>True
def Ro.pl:Ro->List Int
 | .num _=>[]
 | .name _=>[]
 | .fn _ k=>[k]
 | .tag _ k=>[k]
 | .lt _ a b=>[a,b]
 | .get k _=>[k]
 | .rcd l=>l.map Prod.snd
 | .case k l=>k::l.map fun p=>p.2.2
 | .row ks=>ks
 | .op _ ks=>ks
def Ro.pt:Ro->List V
 | .num _=>[]
 | .name _=>[]
 |ρ=>jz ρ.r
theorem AI:∀ks:List Int,p6 (ks.map kD)=true/\jz (ks.map kD)=ks.map V.int/\iY (ks.map kD)=0
 |[]=>⟨by simp[p6],by simp[jz],by simp[iY]⟩
 |k::ks=>by
  obtain⟨h1,h2,h3⟩:=AI ks
  refine⟨?_,?_,?_⟩
  ·rw[aB,p6,h1];rfl
  ·rw[aB,jz,h2];rfl
  ·rw[aB,iY,h3];rfl
theorem GL:∀l:List (Str×Int),p6 (l.map fdD)=true/\(jz (l.map fdD)).length=2*l.length/\iY (l.map fdD)<=1
 |[]=>⟨by simp[p6],by simp[jz],by simp[iY]⟩
 |k::ks=>by
  obtain⟨h1,h2,h3⟩:=GL ks
  refine⟨?_,?_,?_⟩
  ·rw[aB,p6,h1];rfl
  ·rw[aB,jz,aN,h2];show 2+_=_;rw[az];lia
  ·rw[aB,iY];exact Nat.max_le.mpr ⟨cq 1,h3⟩
theorem GN:∀l:List (Str×Str×Int),p6 (l.map amD)=true/\(jz (l.map amD)).length=3*l.length/\iY (l.map amD)<=1
 |[]=>⟨by simp[p6],by simp[jz],by simp[iY]⟩
 |k::ks=>by
  obtain⟨h1,h2,h3⟩:=GN ks
  refine⟨?_,?_,?_⟩
  ·rw[aB,p6,h1];rfl
  ·rw[aB,jz,aN,h2];show 3+_=_;rw[az];lia
  ·rw[aB,iY];exact Nat.max_le.mpr ⟨cq 1,h3⟩
theorem Ro.fl (ρ:Ro) (h:ρ.ok):p6 ρ.r=true/\iY ρ.r<3/\(jz ρ.r).length<=10000:=by
 cases ρ with
 |rcd l=>
  obtain⟨h1,h2,h3⟩:=GL l
  have hl:l.length<=100:=h.1
  refine⟨?_,?_,?_⟩
  ·show p6 [.tup (l.map fdD)]=true
   rw[p6,okF,h1,p6];rfl
  ·show iY [.tup (l.map fdD)]<3
   rw[iY,nk,iY];lia
  ·show(jz [.tup (l.map fdD)]).length<=_
   rw[jz,flV,jz,aD,h2];lia
 |case k l=>
  obtain⟨h1,h2,h3⟩:=GN l
  have hl:l.length<=100:=h.1
  refine⟨?_,?_,?_⟩
  ·show p6 [kD k,.tup (l.map amD)]=true
   simp[p6,okF,kD,h1]
  ·show iY [kD k,.tup (l.map amD)]<3
   simp only[iY,nk,kD];lia
  ·show(jz [kD k,.tup (l.map amD)]).length<=_
   simp only[jz,flV,kD,aD,aN,h2,aY];lia
 |row ks=>
  obtain⟨h1,h2,h3⟩:=AI ks
  have hl:ks.length<=100:=h
  refine⟨?_,?_,?_⟩
  ·show p6 [.tup (ks.map kD)]=true
   rw[p6,okF,h1,p6];rfl
  ·show iY [.tup (ks.map kD)]<3
   rw[iY,nk,iY,h3];lia
  ·show(jz [.tup (ks.map kD)]).length<=_
   rw[jz,flV,jz,aD,h2,aC];lia
 |op s ks=>
  obtain⟨h1,h2,h3⟩:=AI ks
  have hl:ks.length<=100:=h.2
  exact⟨h1,by show iY (ks.map kD)<3;lia,by show(jz (ks.map kD)).length<=_;rw[h2,aC];lia⟩
 |_=>exact⟨rfl,by simp[Ro.r,kD,sD,iY,nk],by simp[Ro.r,kD,sD,jz,flV]⟩
theorem IM (y:V) (ys:List V):sN (y::ys) (some 1) none=ys/\¬(HT.Internal.sIx (y::ys).length 0 (some 1)=0/\HT.Internal.sIx (y::ys).length (y::ys).length none=(y::ys).length):=by
 have e:HT.Internal.sIx (y::ys).length 0 (some 1)=1:=by
  show HT.Internal.sIx (y::ys).length 0 (some ((1:Nat):Int))=1
  rw[HT.Internal.sIx_nat,az]
  lia
 refine⟨?_,fun h=>by rw[e]at h;exact absurd h.1 (by decide)⟩
 unfold sN
 rw[e,HT.Internal.sIx_none,List.drop_succ_cons,bE,az,Nat.add_sub_cancel,bp]
theorem IP (ρ:Ro) (h:ρ.ok):inV (.str ρ.s) [.str "num",.str "name"]=(match ρ with| .num _=>true| .name _=>true|_=>false):=by
 cases ρ with
 |op s ks=>
  have hs:s∈plain:=h.1
  show inV (.str s) _=false
  simp only[plain,aj,bz,or_false]at hs
  rcases hs with rfl|rfl|rfl|rfl|rfl|rfl|rfl<;>decide+kernel
 |_=>simp only[Ro.s];decide+kernel
def wz:Sp:=fun vs H Q _=>X2 fun(t:Addr) (ρ:Ro)=>Y4 (vs=[.ref t]) (Im H (.ref t) ρ.d) (ρ.ok) (∀l H',gP H H'->H l=none->H' l=some (.lst ρ.pt)->Q (.ref l) H')
theorem wA (T:Txt K mg):FO P w base 5 T.d1 wz:=by
 have gD3:=EH (P:=P) (w:=w) (base:=base) T 3
 refine T.d1.F.rd wj fun cdv A outer s H vs Q E hr h=>?_
 obtain⟨t,ρ,rfl,hi,ho,q⟩:=h
 refine⟨_,(gb (ic (gL uJ (gC gG (cv 0) gj) (hI (f9 gq (f9 gq gf))) rfl)
   (gk (gJ (hZ gf)))
   gE)
  (gk (gJ (pF T.d3 gD3 hr.m (f9 (mV FH (cv 0) (mn gj) sM) gf))))),?_⟩
 have sl:=sizeLine_eq
 obtain⟨f1,f2,f3⟩:=ρ.fl ho
 cases hi with
 |@tup _ ys _ et hs=>
  cases hs with
  |@cons y _ ys _ h1 hs=>
   cases h1
   refine⟨_,et,gx (gv (j:=0) rfl) ?_⟩
   refine⟨ma,fun p hp=>⟨p,[.str "num",.str "name"],rfl,.inr (SqT.of gh),rfl,rfl,?_⟩⟩
   have s1:=gm hp (.tup [.str "num",.str "name"])
   generalize upd H p (.tup [.str "num",.str "name"])=H1 at s1⊢
   dsimp only[onB]
   rw[show(if false=true then !inV (.str ρ.s) [.str "num",.str "name"]else inV (.str ρ.s) [.str "num",.str "name"])=_ from IP ρ ho]
   have yes:ρ.pt=[]->(Fj (Ht se) {nx:=fun _ H'=>Q .non H',rt:=Q}:St->Hp->Prop) [some (.ref t)] H1:=fun e=>⟨um,fun l hl=>q l _ (s1.trans (gm hl _)) (s1.free hl) (by rw[gh,e])⟩
   have no:ρ.pt=jz ρ.r->∃n:Int,V.int 1= .int n/\∃a xs,V.ref t= .ref a/\SqT K H1 a xs/\¬(HT.Internal.sIx xs.length 0 (some n)=0/\HT.Internal.sIx xs.length xs.length none=xs.length)/\∀pc,H1 pc=none->AH 3 [.ref pc] (upd H1 pc (.tup (sN xs (some n) none))) Q E:=fun e=>by
    obtain⟨c1,c2⟩:=IM (.str ρ.s) ys
    refine⟨1,rfl,t,_,rfl,SqT.of (s1 _ _ et),c2,fun pc hpc=>?_⟩
    rw[c1]
    have s2:=gm hpc (.tup ys)
    exact⟨pc,ys,ρ.r,rfl,gh,hs.mono (gP.tk (s1.trans s2)),f1,f2,f3,fun l H' S hl e'=>q l H' ((s1.trans s2).trans S) ((s1.trans s2).free hl) (by rw[e',e])⟩
   cases ρ with
   |num n=>exact jD (yes rfl)
   |name n=>exact jD (yes rfl)
   |fn a b=>exact jA (no rfl)
   |tag a b=>exact jA (no rfl)
   |lt a b c=>exact jA (no rfl)
   |get a b=>exact jA (no rfl)
   |rcd a=>exact jA (no rfl)
   |case a b=>exact jA (no rfl)
   |row a=>exact jA (no rfl)
   |op a b=>exact jA (no rfl)
theorem GO {J:It} {xs:List V} {i:Nat} {tt:TT} {te:TE} {Q:VK} {τ:St} {H1:Hp} {D:Addr} (p:V->Bool) (g:V->V) (hD:H1 D=none) (hz:xs.length<=sizeLine) (hτ:τ.set i none=τ)
  (hgo:∀k H,gP H1 H->k<xs.length->J.go k H) (hy:∀k H v H',gP H1 H->k<xs.length->J.yld k H v H'->H'=H/\xs[k]?=some v) (hst:∀H,gP H1 H->J.stop xs.length H)
  (htt:∀(k:Nat) v H R,xs[k]?=some v->gP H1 H->R (p v) H->tt (τ.set i (some v)) H R)
  (hte:∀(k:Nat) v H R,xs[k]?=some v->p v=true->gP H1 H->R (g v) H->te (τ.set i (some v)) H R)
  (hq:∀H',gP H1 H'->H' D=some (.lst ((xs.filter p).map g))->Q (.ref D) H'):LcP J i tt te Q τ H1 D:=by
 have sm:∀o,gP H1 (upd H1 D o):=fun o b u e=>by rw[gw (gr e hD)];exact e
 refine⟨fun k m σ' H2=>Y4 (m=xs.length-k) (k<=xs.length) ((∃o,σ'=τ.set i o)) (H2=upd H1 D (.lst (((xs.take k).filter p).map g))),⟨xs.length,by simp,cu _,⟨none,hτ.symm⟩,by simp⟩,?_⟩
 rintro k m σ' H2 ⟨rfl,hk,⟨o,rfl⟩,rfl⟩
 by_cases hlt:k<xs.length
 ·refine .inr ⟨hgo k _ (sm _) hlt,fun v H3 y=>?_⟩
  obtain⟨e,hv⟩:=hy k _ v H3 (sm _) hlt y
  subst e
  rw[bj]
  refine htt k v _ _ hv (sm _) ?_
  have tk:(xs.take (k+ 1)).filter p=(xs.take k).filter p++(if p v then[v]else[]):=take_succ_filter p xs k v hv
  have ll:((xs.take k).filter p).length<=k:=by
   refine ck (bo _ _) ?_
   rw[aH]
   lia
  cases hp:p v with
  |true=>
   rw[gX rfl]
   refine hte k v _ _ hv hp (sm _) ?_
   refine⟨_,gh,by rw[aC];lia,xs.length-(k+ 1),by lia,rfl,hlt,⟨some v,rfl⟩,?_⟩
   rw[qB,tk,hp,gX rfl,bc]
   rfl
  |false=>
   rw[gN eX]
   refine⟨xs.length-(k+ 1),by lia,rfl,hlt,⟨some v,rfl⟩,?_⟩
   rw[tk,hp,gN eX,aD]
 ·have e:k=xs.length:=by lia
  subst e
  refine .inl ⟨hst _ (sm _),hq _ (sm _) ?_⟩
  rw[gh,bp]
def isI:V->Bool
 | .int _=>true
 |_=>false
theorem AJ:∀ks:List Int,(ks.map V.int).filter isI=ks.map V.int
 |[]=>rfl
 |k::ks=>by rw[aB,List.filter_cons_of_pos rfl,AJ ks]
theorem Dc:∀l:List (Str×Int),(jz (l.map fdD)).filter isI=(l.map Prod.snd).map V.int
 |[]=>by simp[jz]
 |p::l=>by
  have:=Dc l
  rw[aB,jz,bK,this]
  rfl
theorem Dd:∀l:List (Str×Str×Int),(jz (l.map amD)).filter isI=(l.map fun p=>p.2.2).map V.int
 |[]=>by simp[jz]
 |p::l=>by
  have:=Dd l
  rw[aB,jz,bK,this]
  rfl
theorem Ro.pt_pl (ρ:Ro):ρ.pt.filter isI=ρ.pl.map V.int:=by
 cases ρ with
 |rcd l=>
  show(jz [.tup (l.map fdD)]).filter isI=_
  rw[jz,flV,jz,aD]
  exact Dc l
 |case k l=>
  show(jz [kD k,.tup (l.map amD)]).filter isI=_
  rw[jz,jz,jz,flV,aD,bK,Dd l]
  rfl
 |row ks=>
  show(jz [.tup (ks.map kD)]).filter isI=_
  rw[jz,flV,jz,aD,(AI ks).2.1]
  exact AJ ks
 |op s ks=>
  show(jz (ks.map kD)).filter isI=_
  rw[(AI ks).2.1]
  exact AJ ks
 |_=>rfl
theorem Ro.pt_le (ρ:Ro) (h:ρ.ok):ρ.pt.length<=10000:=by
 have:=(ρ.fl h).2.2
 cases ρ with
 |num n=>exact cu _
 |name n=>exact cu _
 |_=>exact this
theorem GP:∀(d:Dt),okF d=true->∀v∈flV d,(∃n,v= .int n)\/∃s,v= .str s:=by
 intro d
 refine Dt.rec (motive_1:=fun d=>okF d=true->∀v∈flV d,(∃n,v= .int n)\/∃s,v= .str s) (motive_2:=fun ds=>p6 ds=true->∀v∈jz ds,(∃n,v= .int n)\/∃s,v= .str s) ?_ ?_ ?_ ?_ ?_ d
 ·intro v h x hx
  rw[flV,bb]at hx
  subst hx
  cases x<;>first|exact .inl ⟨_,rfl⟩|exact .inr ⟨_,rfl⟩|simp[okF]at h
 ·intro ds ih h v hv
  rw[flV]at hv
  rw[okF]at h
  exact ih h v hv
 ·intro ds ih h
  rw[okF]at h
  cases h
 ·intro _ v hv
  rw[jz]at hv
  cases hv
 ·intro d ds h1 h2 h v hv
  rw[jz]at hv
  rw[p6,eZ]at h
  rcases ao.mp hv with hv|hv
  ·exact h1 h.1 v hv
  ·exact h2 h.2 v hv
theorem Ro.pt_is (ρ:Ro) (h:ρ.ok):∀v∈ρ.pt,(∃n,v= .int n)\/∃s,v= .str s:=by
 have h1:=(ρ.fl h).1
 have h2:=GP (.tup ρ.r) (by rw[okF];exact h1)
 rw[flV]at h2
 cases ρ with
 |num n=>intro v hv;cases hv
 |name n=>intro v hv;cases hv
 |_=>exact h2
def vf:Sp:=fun vs H Q _=>X2 fun(t:Addr) (ρ:Ro)=>Y4 (vs=[.ref t]) (Im H (.ref t) ρ.d) (ρ.ok) (∀l H',gP H H'->H l=none->H' l=some (.lst (ρ.pl.map V.int))->Q (.ref l) H')
theorem p7 (T:Txt K mg):FO P w base 6 T.d2 vf:=by
 have gD1:=wA (P:=P) (w:=w) (base:=base) T
 refine T.d2.F.rd va fun cdv A outer s H vs Q E hr h=>?_
 obtain⟨t,ρ,rfl,hi,ho,q⟩:=h
 refine⟨_,(gk (gJ (vT rfl (E5 (x:="part") rfl gB gB rfl rfl) (oU (pF T.d1 gD1 hr.m (f9 (cv 0) gf))) (fun _ _ _ _ _=>(zJ (kr (gY (r:=rIsi K) oA rfl T.z_isinstance gZ (f9 (cv 0) (f9 (pU rfl T.z_int CH) gf)))))) (fun _ _ _ _ _=>(cv 0))))),?_⟩
 have sl:=sizeLine_eq
 have lp:=ρ.pt_le ho
 refine⟨t,ρ,rfl,hi,ho,fun l H1 S1 hl e1=>⟨l,rfl,⟨_,SqL.of e1⟩,fun D hD=>?_⟩⟩
 refine GO (xs:=ρ.pt) isI id hD (by lia) rfl (fun k H S h=>Ga e1 S h) (fun k H v H' S h y=>⟨y.1,y.2 _ (SqL.of (S _ _ e1))⟩) (fun H S=>Gb e1 S) ?_ ?_ ?_
 ·intro k v H2 R hv S hR
  rcases ρ.pt_is ho v (aM hv)with⟨n,rfl⟩|⟨x,rfl⟩
  ·exact⟨_,_,_,_,true,rfl,fun _ r=>r,.int n,rfl,_,rfl,hR⟩
  ·exact⟨_,_,_,_,false,rfl,fun _ r=>r,.str x,rfl,_,rfl,hR⟩
 ·intro k v H2 R hv hp S hR
  exact hR
 ·intro H' S e
  rw[List.map_id,ρ.pt_pl]at e
  exact q D H' (S1.trans S) (S1.free hD) e
def Ro.ws:Ro->List Str
 | .rcd l=>l.map Prod.fst
 | .case _ l=>l.map Prod.fst
 |_=>[]
theorem Ro.ws_nd (ρ:Ro) (h:ρ.ok):ρ.ws.Nodup/\ρ.ws.length<=100:=by
 cases ρ with
 |rcd l=>exact⟨h.2,by show(l.map Prod.fst).length<=_;rw[aC];exact h.1⟩
 |case k l=>exact⟨h.2,by show(l.map Prod.fst).length<=_;rw[aC];exact h.1⟩
 |_=>exact⟨bX,cu _⟩
theorem nC (ρ:Ro) (h:ρ.ok) (x:Str) (hx:x∈(["rec","case","fn","let","name","num"]:List Str)):(∃s ks,ρ= .op s ks)->decide (ρ.s=x)=false:=by
 rintro⟨s,ks,rfl⟩
 have hs:s∈plain:=h.1
 show decide (s=x)=false
 simp only[plain,aj,bz,or_false]at hs hx
 rcases hs with rfl|rfl|rfl|rfl|rfl|rfl|rfl<;>rcases hx with rfl|rfl|rfl|rfl|rfl|rfl<;>decide+kernel
def Ro.isR:Ro->Bool
 | .rcd _=>true
 |_=>false
def Ro.isC:Ro->Bool
 | .case _ _=>true
 |_=>false
def Ro.isF:Ro->Bool
 | .fn _ _=>true
 |_=>false
def Ro.isL:Ro->Bool
 | .lt _ _ _=>true
 |_=>false
theorem Ro.hd (ρ:Ro) (h:ρ.ok):decide (ρ.s="rec")=ρ.isR/\decide (ρ.s="case")=ρ.isC/\decide (ρ.s="fn")=ρ.isF/\decide (ρ.s="let")=ρ.isL:=by
 cases ρ with
 |op s ks=>exact⟨nC _ h _ gB ⟨s,ks,rfl⟩,nC _ h _ gB ⟨s,ks,rfl⟩,nC _ h _ gB ⟨s,ks,rfl⟩,nC _ h _ gB ⟨s,ks,rfl⟩⟩
 |num a=>exact(show decide (("num":Str)="rec")=false/\decide (("num":Str)="case")=false/\decide (("num":Str)="fn")=false/\decide (("num":Str)="let")=false from by decide+kernel)
 |name a=>exact(show decide (("name":Str)="rec")=false/\decide (("name":Str)="case")=false/\decide (("name":Str)="fn")=false/\decide (("name":Str)="let")=false from by decide+kernel)
 |fn a b=>exact(show decide (("fn":Str)="rec")=false/\decide (("fn":Str)="case")=false/\decide (("fn":Str)="fn")=true/\decide (("fn":Str)="let")=false from by decide+kernel)
 |tag a b=>exact(show decide (("tag":Str)="rec")=false/\decide (("tag":Str)="case")=false/\decide (("tag":Str)="fn")=false/\decide (("tag":Str)="let")=false from by decide+kernel)
 |lt a b c=>exact(show decide (("let":Str)="rec")=false/\decide (("let":Str)="case")=false/\decide (("let":Str)="fn")=false/\decide (("let":Str)="let")=true from by decide+kernel)
 |get a b=>exact(show decide (("get":Str)="rec")=false/\decide (("get":Str)="case")=false/\decide (("get":Str)="fn")=false/\decide (("get":Str)="let")=false from by decide+kernel)
 |rcd a=>exact(show decide (("rec":Str)="rec")=true/\decide (("rec":Str)="case")=false/\decide (("rec":Str)="fn")=false/\decide (("rec":Str)="let")=false from by decide+kernel)
 |case a b=>exact(show decide (("case":Str)="rec")=false/\decide (("case":Str)="case")=true/\decide (("case":Str)="fn")=false/\decide (("case":Str)="let")=false from by decide+kernel)
 |row a=>exact(show decide (("row":Str)="rec")=false/\decide (("row":Str)="case")=false/\decide (("row":Str)="fn")=false/\decide (("row":Str)="let")=false from by decide+kernel)
theorem xV {a:Addr} {te:TE} {Q:VK} {τ:St} {H1:Hp} {D:Addr} {xs:List V} {α:Type} {f:α->Dt} {g:α->Str} {l:List α} (e:H1 a=some (.tup xs)) (I:Ims H1 xs (l.map f)) (hn:l.length<=100) (hD:H1 D=none) (hτ:τ.set 0 none=τ)
  (ht:∀(x:α) (v:V) H (R:VK),Im H v (f x)->R (.str (g x)) H->te (τ.set 0 (some v)) H R)
  (hq:∀H',gP H1 H'->H' D=some (.lst ((l.map g).map V.str))->Q (.ref D) H'):LcP (Itt K a) 0 sQ te Q τ H1 D:=by
 have sl:=sizeLine_eq
 have lx:=I.length
 rw[aC]at lx
 refine uR l.length (by lia) (fun ys H=>ys=((l.take ys.length).map g).map V.str) (fun xs H H' h _=>h) hD hτ (fun k H S h=>CS e S (by lia)) (fun H S=>by rw[<-lx];exact CT e S) rfl ?_ ?_
 ·intro k H v H3 ys Z S hk y hys hl hz
  obtain⟨rfl,hv⟩:=y
  have hv:=hv _ (SqT.of (S _ _ e))
  obtain⟨d,hd,him⟩:=lW I hv
  rw[aK]at hd
  obtain⟨x,hx⟩:∃x,l[k]?=some x:=⟨_,bu hk⟩
  rw[hx]at hd
  cases hd
  refine ht x v H3 Z (him.mono (gP.tk S)) (hz _ _ (gP.refl _) ?_)
  rw[aN,hl,aY,bW,hx,bc,bc,<-hl,<-hys]
  rfl
 ·intro H' ys S hys hl e'
  rw[hl,bp]at hys
  exact hq H' S (by rw[e',hys])
def tU:Sp:=fun vs H Q _=>X2 fun(t:Addr) (ρ:Ro)=>Y4 (vs=[.ref t]) (Im H (.ref t) ρ.d) (ρ.ok) (∀l H',gP H H'->H l=none->H' l=some (.lst (ρ.ws.map V.str))->Q (.ref l) H')
theorem tV (T:Txt K mg):FO P w base 1 T.d27 tU:=by
 refine T.d27.F.rd tT fun cdv A outer s H vs Q E hr h=>?_
 obtain⟨t,ρ,rfl,hi,ho,q⟩:=h
 refine⟨_,(gb (ic (gL jf (gC gG (cv 0) gj) gq)
   (gk (gJ (vT rfl (E5 (x:="field") rfl gB gB rfl rfl) (rW (gC gG (cv 0) gj)) (fun _ _ _ _ _=>nK) (fun _ _ _ _ _=>(gC gG (cv 0) gj)))))
   gE)
  (gb (ic (gL jf (gC gG (cv 0) gj) gq)
   (gk (gJ (vT rfl (E5 (x:="arm") rfl gB gB rfl rfl) (rW (gC gG (cv 0) gj)) (fun _ _ _ _ _=>nK) (fun _ _ _ _ _=>(gC gG (cv 0) gj)))))
   gE)
  (gk (gJ (hZ gf))))),?_⟩
 have sl:=sizeLine_eq
 obtain⟨h1,h2,_,_⟩:=ρ.hd ho
 cases hi with
 |@tup _ ys _ et hs=>
  cases hs with
  |@cons y _ ys _ hy hs=>
   cases hy
   refine⟨_,et,gx (gv (j:=0) rfl) ?_⟩
   dsimp only[tC,cEq,onB]
   rw[fg,h1]
   have non:ρ.ws=[]->(Fj (Ht se) {nx:=fun _ H'=>Q .non H',rt:=Q}:St->Hp->Prop) [some (.ref t)] H:=fun e=>⟨um,fun l hl=>q l _ (gm hl _) hl (by rw[gh,e];rfl)⟩
   cases ρ with
   |rcd l=>
    refine jD ?_
    cases hs with
    |cons hx _=>
     cases hx with
     |@tup ta xs _ eta hxs=>
      refine⟨_,et,gx (gv (j:=1) rfl) ⟨ta,rfl,⟨_,SqT.of eta⟩,fun D hD=>?_⟩⟩
      refine xV (f:=fdD) (g:=Prod.fst) eta hxs ho.1 hD rfl ?_ (fun H' S e=>q D H' S hD e)
      intro x v H2 R hv hR
      cases hv with
      |tup ev hvs=>
       cases hvs with
       |cons a _=>
        cases a
        exact⟨_,ev,gx (gv (j:=0) rfl) hR⟩
   |case k l=>
    refine jA ⟨_,et,gx (gv (j:=0) rfl) ?_⟩
    dsimp only[tC,cEq,onB]
    rw[fg,h2]
    refine jD ?_
    cases hs with
    |cons _ hs=>
     cases hs with
     |cons hx _=>
      cases hx with
      |@tup ta xs _ eta hxs=>
       refine⟨_,et,gx (gv (j:=2) rfl) ⟨ta,rfl,⟨_,SqT.of eta⟩,fun D hD=>?_⟩⟩
       refine xV (f:=amD) (g:=Prod.fst) eta hxs ho.1 hD rfl ?_ (fun H' S e=>q D H' S hD e)
       intro x v H2 R hv hR
       cases hv with
       |tup ev hvs=>
        cases hvs with
        |cons a _=>
         cases a
         exact⟨_,ev,gx (gv (j:=0) rfl) hR⟩
   |_=>
    refine jA ⟨_,et,gx (gv (j:=0) rfl) ?_⟩
    dsimp only[tC,cEq,onB]
    rw[fg,h2]
    exact jA (non rfl)
def exG (g:Str->Option Hm):Option (Str×Hm)->(Str->Option Hm)
 |none=>g
 |some (x,h)=>wid g x h
def Ro.ex:Ro->List (Option (Str×Hm))
 | .fn w k=>[some (w,("fn",k))]
 | .lt w a _=>[none,some (w,("let",a))]
 | .case _ l=>none::l.map fun p=>some (p.2.1,("arm",p.2.2))
 |ρ=>ρ.pl.map fun _=>none
theorem Sc.le {H:Hp} {a:Addr} {g:Str->Option Hm} {n m:Nat} (h:Sc H a g n) (l:n<=m):Sc H a g m:=by
 obtain⟨kvs,e,l',h⟩:=h
 exact⟨kvs,e,ck l' l,h⟩
theorem Sc.upd {H:Hp} {a d:Addr} {g:Str->Option Hm} {n:Nat} {kv:List (Key×V)} {o:HO} (h:Sc H a g n) (e:H d=some (.dK kv)) (ne:a≠d):Sc (L2.Internal.upd H d o) a g n:=by
 obtain⟨kvs,e1,l,h⟩:=h
 refine⟨kvs,by rw[gw ne];exact e1,l,fun w=>?_⟩
 have:=h w
 cases hg:g w with
 |none=>rw[hg]at this;exact this
 |some z=>
  rw[hg]at this
  obtain⟨t,h1,h2⟩:=this
  exact⟨t,h1,by rw[gw (ko h2 e (fun z=>nomatch z))];exact h2⟩
theorem Sc.dk {H:Hp} {a:Addr} {g:Str->Option Hm} {n:Nat} (h:Sc H a g n):∃kv,H a=some (.dK kv):=by
 obtain⟨kvs,e,_⟩:=h
 exact⟨kvs,e⟩
theorem xW {kvs:List (Key×V)} {k:Key} (v:V) (hn:(kvs.map (·.1)).Nodup):((mU kvs k v).map (·.1)).Nodup:=by
 cases q:jC kvs k with
 |none=>exact DQ v hn q
 |some x=>
  have e:(mU kvs k v).map (·.1)=kvs.map (·.1):=by
   unfold mU
   rw[kQ,q]
   rw[gX (show(some x).isSome=true from rfl),bx]
   refine bS fun p _=>?_
   show(if p.1=k then(p.1,v)else p).1=p.1
   split<;>rfl
  rw[e]
  exact hn
theorem nZ:∀(more kvs:List (Key×V)) (k:Key),(more.map (·.1)).Nodup->jC (km kvs more) k=match jC more k with|some v=>some v|none=>jC kvs k
 |[],kvs,k,_=>rfl
 |p::more,kvs,k,nd=>by
  obtain⟨h1,h2⟩:=aE.mp (show(p.1::more.map (·.1)).Nodup from nd)
  show jC (km (mU kvs p.1 p.2) more) k=_
  rw[nZ more _ k h2]
  by_cases e:p.1=k
  ·rw[jd e]
   have:jC more k=none:=by
    cases q:jC more k with
    |none=>rfl
    |some x=>exact absurd (DP q) (by rw[<-e];exact h1)
   rw[this]
   show jC (mU kvs p.1 p.2) k=some p.2
   rw[iR,gX e.symm]
  ·rw[jm e]
   cases q:jC more k with
   |some x=>rfl
   |none=>
    show jC (mU kvs p.1 p.2) k=jC kvs k
    rw[iR,gN (fun z=>e z.symm)]
def InS (W:Addr->Prop) (H:Hp) (kvs:List (Key×V)) (ρ:Ro) (g:Str->Option Hm) (n:Nat):Prop:=∀c:Int,(jC kvs (.inl c)=none/\c∉ρ.pl)\/∃(j:Nat) (e:Option (Str×Hm)) (a:Addr),W a/\ρ.pl[j]?=some c/\ρ.ex[j]?=some e/\jC kvs (.inl c)=some (.ref a)/\Sc H a (exG g e) (n+ 1)
theorem GQ {x:Str} {A B u:TS} {D:md} {σ:St} {H:Hp} {t:Addr} {ys:List V} {s:Str} {b:Bool} (hσ:σ[0]?=some (some (.ref t))) (et:H t=some (.tup (.str s::ys))) (hb:decide (s=x)=b) (k:if b=true then A {D with nx:=u D} σ H else B {D with nx:=u D} σ H):
  vw (yV (cT (tOp (cEq false) (tOp CV (cV 0) (tC (.int 0))) (tC (.str x)))) A B) u D σ H:=by
 show onV σ[0]? _
 rw[hσ]
 refine⟨_,et,gx (gv (j:=0) rfl) ?_⟩
 dsimp only[tC,cEq,onB]
 rw[fg,hb]
 exact k
theorem oO {x:Str} {A u:TS} {D:md} {σ:St} {H:Hp} {t:Addr} {ys:List V} {s:Str} (hσ:σ[0]?=some (some (.ref t))) (et:H t=some (.tup (.str s::ys))) (hb:decide (s=x)=false) (k:u D σ H):
  vw (yV (cT (tOp (cEq false) (tOp CV (cV 0) (tC (.int 0))) (tC (.str x)))) A oq) u D σ H:=GQ hσ et hb (jA k)
theorem AK {x:Str} {A B u:TS} {D:md} {σ:St} {H:Hp} {t:Addr} {ys:List V} {s:Str} (hσ:σ[0]?=some (some (.ref t))) (et:H t=some (.tup (.str s::ys))) (hb:decide (s=x)=true) (k:A {D with nx:=u D} σ H):
  vw (yV (cT (tOp (cEq false) (tOp CV (cV 0) (tC (.int 0))) (tC (.str x)))) A B) u D σ H:=GQ hσ et hb (jD k)
theorem Ro.pl_le (ρ:Ro) (h:ρ.ok):ρ.pl.length<=101:=by
 cases ρ with
 |rcd l=>show(l.map Prod.snd).length<=_;rw[aC];exact ck h.1 (by decide)
 |case k l=>show(k::l.map fun p=>p.2.2).length<=_;rw[az,aC];have:=h.1;lia
 |row ks=>exact ck h (by decide)
 |op s ks=>exact ck h.2 (by decide)
 |_=>simp[Ro.pl]
theorem AL {W:Addr->Prop} {H:Hp} {kvs:List (Key×V)} {ρ:Ro} {g:Str->Option Hm} {n:Nat} {a:Addr} (hW:W a) (hx:ρ.ex=ρ.pl.map fun _=>none) (hs:Sc H a g n) (hv:∀c:Int,jC kvs (.inl c)=if c∈ρ.pl then some (.ref a)else none):InS W H kvs ρ g n:=by
 intro c
 by_cases h:c∈ρ.pl
 ·obtain⟨j,hj⟩:=bY.mp h
  exact .inr ⟨j,none,a,hW,hj,by rw[hx,aK,hj];rfl,by rw[hv c,gX h],hs.le (cx _)⟩
 ·exact .inl ⟨by rw[hv c,gN h],h⟩
def rB:Sp:=fun vs H Q _=>X5 fun(t a:Addr) (ρ:Ro) (g:Str->Option Hm) (n:Nat)=>Y6 (vs=[.ref t,.ref a]) (Im H (.ref t) ρ.d) (ρ.ok) (Sc H a g n) (n<9000) (
 ∀d kvs H',gP H H'->H d=none->H' d=some (.dK kvs)->(kvs.map (·.1)).Nodup->kvs.length<=300->InS (fun b=>b=a\/H b=none) H' kvs ρ g n->Q (.ref d) H')
theorem rC (T:Txt K mg):FO P w base 7 T.d30 rB:=by
 have gD2:=p7 (P:=P) (w:=w) (base:=base) T
 have gD31:=sy (P:=P) (w:=w) (base:=base) T
 refine T.d30.F.rd jR fun cdv A outer s H vs Q E hr h=>?_
 have hu:=vR hr
 obtain⟨t,a,ρ,g,n,rfl,hi,ho,hsc,hn,q⟩:=h
 refine⟨_,(gb (pS (i:=2) jR.nd oy)
  (gb (ky PassesOwn.never rfl (oU (pF T.d2 gD2 hr.m (f9 (cv 0) gf))) (pN (i:=3) jR.nd)
   (gk (nG hu (cv 2) (cv 3) (cv 1) rfl)))
  (gb (ic (gL jf (gC gG (cv 0) gj) gq)
   (gk (nG hu (cv 2) (gC gG (cv 0) gj) (pF T.d31 gD31 hr.m (f9 (cv 1) (f9 (gC gG (cv 0) gj) (f9 (hI (f9 gq (f9 (gC gG (cv 0) gj) gf))) gf)))) rfl))
   gE)
  (gb (ic (gL jf (gC gG (cv 0) gj) gq)
   (gk (nG hu (cv 2) (gC gG (cv 0) gj) (pF T.d31 gD31 hr.m (f9 (cv 1) (f9 (gC gG (cv 0) gj) (f9 (hI (f9 gq (f9 (gC gG (cv 0) gj) gf))) gf)))) rfl))
   gE)
  (gb (ic (gL jf (gC gG (cv 0) gj) gq)
   (gk (ky PassesOwn.never rfl (rW (gC gG (cv 0) gj)) (pN (i:=4) jR.nd)
    (gk (nG hu (cv 2) (gC gG (cv 4) gj) (pF T.d31 gD31 hr.m (f9 (cv 1) (f9 (gC gG (cv 4) gj) (f9 (hI (f9 gq (f9 (gC gG (cv 4) gj) gf))) gf)))) rfl))))
   gE)
  (gk (gJ (cv 2)))))))),?_⟩
 have sl:=sizeLine_eq
 obtain⟨_,h2,h3,h4⟩:=ρ.hd ho
 have lp:=ρ.pl_le ho
 intro d hd
 have s1:=gm hd (.dK [])
 have ed:(upd H d (.dK [])) d=some (.dK []):=gh
 dsimp only[ia]
 generalize upd H d (.dK [])=H1 at s1 ed⊢
 have nad:a≠d:=by
  obtain⟨kv,e⟩:=hsc.dk
  exact gr e hd
 refine⟨t,ρ,rfl,hi.mono (gP.tk s1),ho,fun l H1' S1 hl e1=>⟨l,rfl,⟨_,SqL.of e1⟩,qk (xs:=ρ.pl.map V.int) (fun i σ H2=>X2 fun(o:Option V) (kvs:List (Key×V))=>Y7 (σ=[some (.ref t),some (.ref a),some (.ref d),o,none]) (gP H H2) (H2 l=some (.lst (ρ.pl.map V.int))) (H2 d=some (.dK kvs)) ((kvs.map (·.1)).Nodup) (kvs.length<=i) (∀c:Int,jC kvs (.inl c)=if c∈ρ.pl.take i then some (.ref a)else none))
  ⟨none,[],rfl,s1.trans S1,e1,S1 _ _ ed,bX,cu _,fun c=>by rw[List.take_zero,gN bz];rfl⟩ (fun i σ H2 _ ⟨_,_,_,_,e,_,_,_,_⟩=>SqL.of e) ?_ ?_⟩⟩
 ·rintro i v σ H2 hv ⟨o,kvs,rfl,S,el,ek,nd,hk,hc⟩
  rw[aK]at hv
  obtain⟨c,hcc,rfl⟩:=cN.mp hv
  have hi:=(au.mp hcc).1
  have nld:l≠d:=(gr ed hl).symm
  refine⟨d,_,rfl,yW.k (k:=Sum.inl c) ek (by lia),_,_,rfl,ig S hd _,by rw[gw nld];exact el,gh,xW _ nd,ck (iA _ _ _) (by lia),fun c'=>?_⟩
  rw[iR,bW,hcc]
  by_cases z:c'=c
  ·rw[gX (by rw[z]),gX (by simp[z])]
  ·rw[gN (fun y=>z (by injection y)),hc c']
   simp[z]
 ·rintro σ H2 ⟨o,kvs,rfl,S,el,ek,nd,hk,hc⟩
  rw[aC,bp]at hc
  rw[aC]at hk
  have hi2:=hi
  have hsc2:=hsc.same S
  have fin:∀{o3 o4:Option V} {H3:Hp} {kvs:List (Key×V)},gP H H3->H3 d=some (.dK kvs)->(kvs.map (·.1)).Nodup->kvs.length<=300->InS (fun b=>b=a\/H b=none) H3 kvs ρ g n->(Fj (cV 2) {nx:=fun _ H'=>Q .non H',rt:=Q}:St->Hp->Prop) [some (.ref t),some (.ref a),some (.ref d),o3,o4] H3:=fun S3 e3 n3 l3 i3=>q d _ _ S3 hd e3 n3 l3 i3
  cases hi2 with
  |@tup _ ys _ et0 hs=>
   have et:=S _ _ et0
   cases hs with
   |@cons y _ ys _ hy hs=>
    cases hy
    dsimp only
    cases ρ with
    |fn x k=>
     cases hs with
     |cons a1 hs=>
      cases hs with
      |cons a2 hs=>
       cases a1;cases a2;cases hs
       refine AK rfl et h3 ⟨_,et,gx (gv (j:=1) rfl) ⟨_,et,gx (gv (j:=2) rfl) ⟨ma,fun p hp=>?_⟩⟩⟩
       have sp:=gm hp (.tup [.str "fn",.int k])
       refine⟨a,p,g,n,x,("fn",k),rfl,hsc2.same sp,by lia,gh,fun b H4 S4 hb sc4=>?_⟩
       have S24:=sp.trans S4
       refine⟨_,S24 _ _ et,gx (gv (j:=2) rfl) ⟨d,_,rfl,yW.k (k:=Sum.inl k) (S24 _ _ ek) (by lia),?_⟩⟩
       have nbd:b≠d:=(gr (sp _ _ ek) hb).symm
       have et5:(upd H4 d (.dK (mU kvs (Sum.inl k) (.ref b)))) t=some (.tup (.str "fn"::[.str x,.int k])):=by rw[gw (ko (S24 _ _ et) (S24 _ _ ek) (fun z=>nomatch z))];exact S24 _ _ et
       dsimp only
       refine oO rfl et5 h4 (oO rfl et5 h2 (fin (ig (S.trans S24) hd _) gh (xW _ nd) (ck (iA _ _ _) (by lia)) fun c=>?_))
       by_cases z:c=k
       ·exact .inr ⟨0,_,b,.inr ((S.trans sp).free hb),by rw[z];rfl,rfl,by rw[iR,gX (by rw[z])],sc4.upd (S24 _ _ ek) nbd⟩
       ·exact .inl ⟨by rw[iR,gN (fun y=>z (by injection y)),hc c,gN (by simpa[Ro.pl]using z)],by simpa[Ro.pl]using z⟩
    |lt x k1 k2=>
     refine oO rfl et h3 ?_
     cases hs with
     |cons a1 hs=>
      cases hs with
      |cons a2 hs=>
       cases hs with
       |cons a3 hs=>
        cases a1;cases a2;cases a3;cases hs
        refine AK rfl et h4 ⟨_,et,gx (gv (j:=1) rfl) ⟨_,et,gx (gv (j:=2) rfl) ⟨ma,fun p hp=>?_⟩⟩⟩
        have sp:=gm hp (.tup [.str "let",.int k1])
        refine⟨a,p,g,n,x,("let",k1),rfl,hsc2.same sp,by lia,gh,fun b H4 S4 hb sc4=>?_⟩
        have S24:=sp.trans S4
        refine⟨_,S24 _ _ et,gx (gv (j:=3) rfl) ⟨d,_,rfl,yW.k (k:=Sum.inl k2) (S24 _ _ ek) (by lia),?_⟩⟩
        have nbd:b≠d:=(gr (sp _ _ ek) hb).symm
        have et5:(upd H4 d (.dK (mU kvs (Sum.inl k2) (.ref b)))) t=some (.tup (.str "let"::[.str x,.int k1,.int k2])):=by rw[gw (ko (S24 _ _ et) (S24 _ _ ek) (fun z=>nomatch z))];exact S24 _ _ et
        dsimp only
        refine oO rfl et5 h2 (fin (ig (S.trans S24) hd _) gh (xW _ nd) (ck (iA _ _ _) (by lia)) fun c=>?_)
        by_cases z:c=k2
        ·exact .inr ⟨1,_,b,.inr ((S.trans sp).free hb),by rw[z];rfl,rfl,by rw[iR,gX (by rw[z])],sc4.upd (S24 _ _ ek) nbd⟩
        ·by_cases z1:c=k1
         ·exact .inr ⟨0,_,a,.inl rfl,by rw[z1];rfl,rfl,by rw[iR,gN (fun y=>z (by injection y)),hc c,gX (by simp[Ro.pl,z1])],((hsc2.same S24).upd (S24 _ _ ek) nad).le (cx _)⟩
         ·exact .inl ⟨by rw[iR,gN (fun y=>z (by injection y)),hc c,gN (by simp[Ro.pl,z,z1])],by simp[Ro.pl,z,z1]⟩
    |case k0 l=>
     refine oO rfl et h3 (oO rfl et h4 ?_)
     cases hs with
     |cons a1 hs=>
      cases hs with
      |cons a2 hs=>
       cases a1;cases hs
       cases a2 with
       |@tup ta xs _ eta hxs=>
        have lx:=hxs.length
        rw[aC]at lx
        have hl100:l.length<=100:=ho.1
        refine AK rfl et h2 ⟨_,et,gx (gv (j:=2) rfl) ⟨ta,rfl,⟨_,SqT.of (S _ _ eta)⟩,vG (xs:=xs) (fun i σ H3=>X2 fun(o4:Option V) (kvs:List (Key×V))=>Y6 (σ=[some (.ref t),some (.ref a),some (.ref d),o,o4]) (gP H H3) (H3 d=some (.dK kvs)) ((kvs.map (·.1)).Nodup) (kvs.length<=101+i) (∀c:Int,(∃(j:Nat) (p:Str×Str×Int) (b:Addr),j<i/\l[j]?=some p/\p.2.2=c/\jC kvs (.inl c)=some (.ref b)/\(b≠d/\H b=none)/\Sc H3 b (wid g p.2.1 ("arm",c)) (n+ 1))\/((∀(j:Nat) (p:Str×Str×Int),j<i->l[j]?=some p->p.2.2≠c)/\jC kvs (.inl c)=if c∈(Ro.case k0 l).pl then some (.ref a)else none)))
         ⟨none,kvs,rfl,S,ek,nd,by lia,fun c=> .inr ⟨fun j p hj=>absurd hj (cG _),hc c⟩⟩ (fun i σ H3 _ ⟨_,_,_,S3,_,_,_,_⟩=>SqT.of (S3 _ _ eta)) ?_ ?_⟩⟩
        ·rintro i v σ H3 hv ⟨o4,kvs,rfl,S3,ek,nd,hk,hc⟩
         obtain⟨dd,hdd,him⟩:=lW hxs hv
         rw[aK]at hdd
         obtain⟨⟨tg,x,kk⟩,hp,rfl⟩:=cN.mp hdd
         have hi:=(au.mp hp).1
         cases him with
         |@tup tb _ _ eb hb=>
          cases hb with
          |cons b1 hb=>
           cases hb with
           |cons b2 hb=>
            cases hb with
            |cons b3 hb=>
             cases b1;cases b2;cases b3;cases hb
             refine⟨_,S3 _ _ eb,gx (gv (j:=1) rfl) ⟨_,S3 _ _ eb,gx (gv (j:=2) rfl) ⟨ma,fun p hp'=>?_⟩⟩⟩
             have sp:=gm hp' (.tup [.str "arm",.int kk])
             refine⟨a,p,g,n,x,("arm",kk),rfl,(hsc.same S3).same sp,by lia,gh,fun b H4 S4 hb sc4=>?_⟩
             have S34:=sp.trans S4
             refine⟨_,S34 _ _ (S3 _ _ eb),gx (gv (j:=2) rfl) ⟨d,_,rfl,yW.k (k:=Sum.inl kk) (S34 _ _ ek) (by lia),?_⟩⟩
             have nbd:b≠d:=(gr (sp _ _ ek) hb).symm
             refine⟨_,_,rfl,ig (S3.trans S34) hd _,gh,xW _ nd,ck (iA _ _ _) (by lia),fun c=>?_⟩
             by_cases z:c=kk
             ·exact .inl ⟨i,_,b,cw _,hp,z.symm,by rw[iR,gX (by rw[z])],⟨nbd,(S3.trans sp).free hb⟩,by rw[z];exact sc4.upd (S34 _ _ ek) nbd⟩
             ·rcases hc c with⟨j,p,b',c1,c2,c3,c4,c5,c6⟩|⟨c1,c2⟩
              ·exact .inl ⟨j,p,b',cA c1,c2,c3,by rw[iR,gN (fun y=>z (by injection y))];exact c4,c5,(c6.same S34).upd (S34 _ _ ek) c5.1⟩
              ·refine .inr ⟨fun j p hj hp2=>?_,by rw[iR,gN (fun y=>z (by injection y))];exact c2⟩
               by_cases e:j=i
               ·rw[e,hp]at hp2
                cases hp2
                exact fun y=>z y.symm
               ·exact c1 j p (by lia) hp2
        ·rintro σ H3 ⟨o4,kvs,rfl,S3,ek,nd,hk,hc⟩
         refine fin (o3:=o) (o4:=o4) S3 ek nd (by lia) fun c=>?_
         rcases hc c with⟨j,p,b',c1,c2,c3,c4,c5,c6⟩|⟨c1,c2⟩
         ·refine .inr ⟨j+ 1,some (p.2.1,("arm",p.2.2)),b',.inr c5.2,?_,?_,c4,?_⟩
          ·show(k0::l.map fun p=>p.2.2)[j+ 1]?=_
           rw[bA,aK,c2,<-c3]
           rfl
          ·show(none::l.map fun p=>some (p.2.1,(("arm":Str),p.2.2)))[j+ 1]?=_
           rw[bA,aK,c2]
           rfl
          ·rw[c3]
           exact c6
         ·by_cases z:c=k0
          ·exact .inr ⟨0,none,a,.inl rfl,by rw[z];rfl,rfl,by rw[c2,gX (by simp[Ro.pl,z])],(hsc.same S3).le (cx _)⟩
          ·have nm:c∉(Ro.case k0 l).pl:=fun hm=>by
            rcases aj.mp (show c∈(k0::l.map fun p=>p.2.2)from hm)with h|h
            ·exact z h
            ·obtain⟨p,hp,e⟩:=aZ.mp h
             obtain⟨j,hj⟩:=bY.mp hp
             exact c1 j p (by rw[lx];exact(au.mp hj).1) hj e
           exact .inl ⟨by rw[c2,gN nm],nm⟩
    |_=>
     exact oO rfl et h3 (oO rfl et h4 (oO rfl et h2 (fin S ek nd (by lia) (AL (.inl rfl) rfl hsc2 hc))))
theorem tW {K:PySem.W.Frag} {a:Addr} {xs:List V} {g:TG} {tb:TS} {D:md} {σ:St} {H:Hp} (Pv:Nat->St->Hp->Prop) (h0:Pv 0 σ H) (hl:∀i σ H,i<=xs.length->Pv i σ H->SqL K H a xs)
  (hs:∀(i:Nat) (x:V) (σ:St) (H:Hp) (T:Addr),xs[i]?=some x->Pv i σ H->H T=none->g (.ref T) σ (upd H T (.tup [.int (i:Int),x])) fun σ2 H2=>tb {D with nx:=Pv (i+ 1),ct:=Pv (i+ 1),bk:=D.nx} σ2 H2) (hd:∀σ H,Pv xs.length σ H->D.nx σ H):
  ∃W:Nat->Nat->St->Hp->Prop,(∃m,W 0 m σ H)/\∀i m σ H,W i m σ H->
   ((Ite K a).stop i H/\D.nx σ H)\/((Ite K a).go i H/\∃N:St->Hp->Prop,(∀σ' H',N σ' H'->∃m',m'<m/\W (i+ 1) m' σ' H')/\∀x H',(Ite K a).yld i H x H'->g x σ H' fun σ2 H2=>tb {D with nx:=N,ct:=N,bk:=D.nx} σ2 H2):=by
 refine⟨fun i m σ H=>Y3 (m=xs.length-i) (i<=xs.length) (Pv i σ H),⟨xs.length,by simp,cu _,h0⟩,?_⟩
 rintro i m σ H ⟨rfl,hi,p⟩
 have q:=hl i σ H hi p
 by_cases hlt:i<xs.length
 ·refine .inr ⟨⟨xs,xs[i],q,by simp[hlt]⟩,Pv (i+ 1),fun σ' H' p'=>⟨xs.length-(i+ 1),by lia,rfl,hlt,p'⟩,fun v H' y=>?_⟩
  obtain⟨T,x,rfl,hT,rfl,hx⟩:=y
  exact hs i x σ H T (hx xs q) p hT
 ·have e:i=xs.length:=by lia
  subst e
  exact .inl ⟨⟨xs,q,rfl⟩,hd σ H p⟩
theorem EI {f:Str} {v:V} {r:List (Str×V)}:aA f ((f,v)::r)=some v:=by
 rw[bf,show(f==f)=true by simp]
theorem EJ {f g:Str} {v:V} {r:List (Str×V)} (h:(f==g)=false):aA f ((g,v)::r)=aA f r:=by
 rw[bf,h]
def fP (n r w:Addr):List (Str×V):=[("names",.ref n),("roots",.ref r),("rows",.ref w)]
theorem xX (n r w:Addr):(fP n r w).lookup ("names":Str)=some (.ref n):=EI
theorem xY (n r w:Addr):(fP n r w).lookup ("roots":Str)=some (.ref r):=(EJ gB).trans EI
theorem tX (n r w:Addr):(fP n r w).lookup ("rows":Str)=some (.ref w):=(EJ gB).trans ((EJ gB).trans EI)
def nI (k:Nat):V:= .int (k:Int)
structure PrA (C:Addr) (H:Hp) (p n r w dx:Addr) (xs:List V) (names:List Str) (roots:List Nat) (ρs:List Ro):Prop where
 o:H p=some (.ins C dx (fP n r w))
 n:H n=some (.lst (names.map V.str))
 r:H r=some (.lst (roots.map nI))
 w:H w=some (.lst xs)
 i:Ims H xs (ρs.map Ro.d)
theorem PrA.same {C:Addr} {H H':Hp} {p n r w dx:Addr} {xs:List V} {names:List Str} {roots:List Nat} {ρs:List Ro} (h:PrA C H p n r w dx xs names roots ρs) (s:gP H H'):PrA C H' p n r w dx xs names roots ρs:=⟨s _ _ h.o,s _ _ h.n,s _ _ h.r,s _ _ h.w,h.i.mono (gP.tk s)⟩
def G0 (names:List Str):Nat->(Str->Option Hm)
 |0=>fun _=>none
 |d+ 1=>match names[d]? with
  |some x=>wid (G0 names d) x ("def",(d:Int))
  |none=>G0 names d
structure Bj (names:List Str) (roots:List Nat) (ρs:List Ro) (out:Nat->Str->Option Hm):Prop where
 nn:names.Nodup
 nl:names.length<=12
 rl:roots.length=names.length
 ok:∀ρ∈ρs,ρ.ok
 pn:ρs.length<=1000
 rlt:∀(i r:Nat),roots[i]?=some r->r<ρs.length
 root:∀(i r:Nat) (ρ:Ro),roots[i]?=some r->ρs[r]?=some ρ->out r=if ρ.isF=true then G0 names (i+ 1)else G0 names i
 kid:∀(k:Nat) (ρ:Ro) (j:Nat) (c:Int) (e:Option (Str×Hm)),ρs[k]?=some ρ->ρ.pl[j]?=some c->ρ.ex[j]?=some e->∃m:Nat,c=(m:Int)/\k<m/\out m=exG (out k) e
 reach:∀k:Nat,k<ρs.length->(∃i:Nat,roots[i]?=some k)\/∃(k':Nat) (ρ:Ro),k'<k/\ρs[k']?=some ρ/\(k:Int)∈ρ.pl
 nm:∀(k:Nat) (x:Str),ρs[k]?=some (.name x)->∃h,out k x=some h
def duo (out:Nat->Str->Option Hm) (k:Nat):Ro->Option Hm
 | .name x=>out k x
 |_=>none
def hoD:Option Hm->Dt
 |none=> .flat .non
 |some h=>hmD h
theorem tY {H:Hp} {xs:List V} {ρs:List Ro} {k:Nat} {ρ:Ro} (h:Ims H xs (ρs.map Ro.d)) (e:ρs[k]?=some ρ):∃(t:Addr) (ys:List V),xs[k]?=some (.ref t)/\H t=some (.tup (.str ρ.s::ys))/\Ims H ys ρ.r/\Im H (.ref t) ρ.d:=by
 have lx:=h.length
 rw[aC]at lx
 have hk:=(au.mp e).1
 obtain⟨d,hd,him⟩:=lW h (bu (show k<xs.length by lia))
 rw[aK,e]at hd
 cases hd
 have h0:xs[k]?=some xs[k]:=bu (by lia)
 generalize xs[k]=v at h0 him
 have him':=him
 cases him with
 |@tup t ys _ et hs=>
  cases hs with
  |cons a hs=>
   cases a
   exact⟨t,_,h0,et,hs,him'⟩
def rT (C:Addr):Sp:=fun vs H Q _=>X10 fun(p n r w dx:Addr) (xs:List V) (names:List Str) (roots:List Nat) (ρs:List Ro) (out:Nat->Str->Option Hm)=>Y4 (vs=[.ref p]) (PrA C H p n r w dx xs names roots ρs) (Bj names roots ρs out) (
 ∀d kvs H',gP H H'->H d=none->H' d=some (.dK kvs)->kvs.length<=12->(∀(i c:Nat),roots[i]?=some c->∃a,a≠d/\jC kvs (.inl (c:Int))=some (.ref a)/\Sc H' a (out c) 20)->Q (.ref d) H')
theorem rV (T:Txt K mg):FO P w base 2 T.d29 (rT T.c12.a):=by
 have gD31:=sy (P:=P) (w:=w) (base:=base) T
 refine T.d29.F.rd iH fun cdv A outer s H vs Q E hr h=>?_
 have hu:=vR hr
 obtain⟨p,n,r,w,dx,xs,names,roots,ρs,out,rfl,pr,gd,q⟩:=h
 refine⟨_,(gb (pS (i:=1) iH.nd oy)
  (gb (pS (i:=2) iH.nd oy)
  (gb (ky PassesOwn.never rfl (sU rfl T.z_enumerate (f9 (gR T.c12.cl T.n12names (cv 0)) gf)) (wZ rfl (jB (pN (i:=3) iH.nd) (jB (pN (i:=4) iH.nd) oT)))
   (gb (pS (i:=5) iH.nd (gC gS (gR T.c12.cl T.n12roots (cv 0)) (cv 3)))
   (gb (pS (i:=6) iH.nd (pF T.d31 gD31 hr.m (f9 (cv 2) (f9 (cv 4) (f9 (hI (f9 gq (f9 (cv 3) gf))) gf)))))
   (gb (nG hu (cv 1) (cv 5) (qj (gL jf (gC gG (gC gS (gR T.c12.cl T.n12rows (cv 0)) (cv 5)) gj) gq) (cv 6) (cv 2)) rfl)
   (gk (pS (i:=2) iH.nd (cv 6)))))))
  (gk (gJ (cv 1)))))),?_⟩
 have sl:=sizeLine_eq
 intro d hd
 have s1:=gm hd (.dK [])
 have ed:(upd H d (.dK [])) d=some (.dK []):=gh
 dsimp only[ia]
 generalize upd H d (.dK [])=H1 at s1 ed⊢
 intro ae hae
 have s2:=gm hae (.dK [])
 have ea:(upd H1 ae (.dK [])) ae=some (.dK []):=gh
 dsimp only[ia]
 generalize upd H1 ae (.dK [])=H2 at s2 ea⊢
 have nad:ae≠d:=(gr ed hae).symm
 have pr2:=pr.same (s1.trans s2)
 have nl:=gd.nl
 refine⟨_,⟨dx,_,pr2.o,xX _ _ _⟩,n,rfl,⟨_,SqL.of pr2.n⟩,tW (xs:=names.map V.str) (fun i σ H3=>∃(o3 o4 o5 o6:Option V) (ae:Addr) (kvs:List (Key×V)),σ=[some (.ref p),some (.ref d),some (.ref ae),o3,o4,o5,o6]/\gP H H3/\H3 d=some (.dK kvs)/\kvs.length<=i/\ae≠d/\Sc H3 ae (G0 names i) i/\∀(i' c:Nat),i'<i->roots[i']?=some c->∃a,a≠d/\jC kvs (.inl (c:Int))=some (.ref a)/\Sc H3 a (out c) 20)
  ⟨none,none,none,none,ae,[],rfl,s1.trans s2,s2 _ _ ed,cq _,nad,⟨[],ea,cq _,fun w=>rfl⟩,fun i' c h=>absurd h (cG _)⟩ (fun i σ H3 _ ⟨_,_,_,_,_,_,_,S,_⟩=>SqL.of (S _ _ pr.n)) ?_ ?_⟩
 ·rintro i v σ H3 t hx ⟨o3,o4,o5,o6,ae,kvs,rfl,S,ek,hk,nad,sca,hroots⟩ ht
  rw[aK]at hx
  obtain⟨x,hx',rfl⟩:=cN.mp hx
  clear hx
  have hx:=hx'
  have hi:=(au.mp hx).1
  have rl:=gd.rl
  obtain⟨c,hc⟩:∃c,roots[i]?=some c:=⟨_,bu (by lia)⟩
  have hcl:=gd.rlt i c hc
  obtain⟨ρ,hρ⟩:∃ρ,ρs[c]?=some ρ:=⟨_,bu hcl⟩
  have sT:=gm ht (.tup [.int (i:Int),.str x])
  refine⟨t,_,rfl,SqT.of gh,rfl,_,_,rfl,_,_,rfl,rfl,?_⟩
  have S4:=S.trans sT
  generalize upd H3 t (.tup [.int (i:Int),.str x])=H4 at sT S4
  have pr4:=pr.same S4
  have hcI:(roots.map nI)[i]?=some (.int (c:Int)):=by rw[aK,hc];rfl
  refine⟨_,⟨dx,_,pr4.o,xY _ _ _⟩,_,pr4.r,gx (gv hcI) ?_⟩
  refine⟨ma,fun pp hpp=>?_⟩
  have s5:=gm hpp (.tup [.str "def",.int (i:Int)])
  refine⟨ae,pp,G0 names i,i,x,("def",(i:Int)),rfl,(sca.same sT).same s5,by lia,gh,fun b H6 S6 hb sc6=>?_⟩
  have S36:=(sT.trans s5).trans S6
  have SH6:=S.trans S36
  have pr6:=pr.same SH6
  obtain⟨tr,ys,hxt,etr,_,_⟩:=tY pr6.i hρ
  refine⟨_,⟨dx,_,pr6.o,tX _ _ _⟩,_,pr6.w,gx (gv hxt) ⟨_,etr,gx (gv (j:=0) rfl) ?_⟩⟩
  dsimp only[tC,cEq,onB]
  obtain⟨_,_,h3,_⟩:=ρ.hd (gd.ok ρ (aM hρ))
  rw[fg,h3]
  have nbd:b≠d:=(gr (s5 _ _ (sT _ _ ek)) hb).symm
  have g1:G0 names (i+ 1)=wid (G0 names i) x ("def",(i:Int)):=by rw[G0,hx]
  have hout:=gd.root i c ρ hc hρ
  have nx:∀z:Addr,z≠d->Sc H6 z (out c) 20->∃(a:Addr) (H':Hp),V.ref d= .ref a/\yW H6 a (.int (c:Int)) (.ref z) H'/\∃(o3 o4 o5 o6:Option V) (ae:Addr) (kvs:List (Key×V)),[some (V.ref p),some (.ref d),some (.ref b),some (.int (i:Int)),some (.str x),some (.int (c:Int)),some (.ref b)]=[some (V.ref p),some (.ref d),some (.ref ae),o3,o4,o5,o6]/\gP H H'/\H' d=some (.dK kvs)/\kvs.length<=i+ 1/\ae≠d/\Sc H' ae (G0 names (i+ 1)) (i+ 1)/\∀(i' c:Nat),i'<i+ 1->roots[i']?=some c->∃a,a≠d/\jC kvs (.inl (c:Int))=some (.ref a)/\Sc H' a (out c) 20:=fun z nzd hz=>by
   have e6:=S36 _ _ ek
   refine⟨d,_,rfl,yW.k (k:=Sum.inl (c:Int)) e6 (by lia),_,_,_,_,b,_,rfl,ig SH6 hd _,gh,ck (iA _ _ _) (by lia),nbd,by rw[g1];exact sc6.upd e6 nbd,fun i' c' hi' hc'=>?_⟩
   by_cases y:c'=c
   ·rw[y]
    exact⟨z,nzd,by rw[iR,gX rfl],hz.upd e6 nzd⟩
   ·have:i'≠i:=fun z=>y (by rw[z,hc]at hc';exact(cH.inj hc').symm)
    obtain⟨a,h1,h2,h3⟩:=hroots i' c' (by lia) hc'
    exact⟨a,h1,by rw[iR,gN (fun z=>y (by injection z with z;lia))];exact h2,(h3.same S36).upd e6 h1⟩
  cases hF:ρ.isF with
  |true=>
   rw[hF,gX rfl,g1]at hout
   exact jD (nx b nbd (by rw[hout];exact sc6.le (by lia)))
  |false=>
   rw[hF,gN eX]at hout
   exact jA (nx ae nad (by rw[hout];exact(sca.same S36).le (by lia)))
 ·rintro σ H3 ⟨o3,o4,o5,o6,ae,kvs,rfl,S,ek,hk,nad,sca,hroots⟩
  rw[aC]at hk hroots
  refine q d kvs H3 S hd ek (by lia) fun i c hc=>?_
  have rl:=gd.rl
  exact hroots i c (by have:=(au.mp hc).1;lia) hc
def HoA (H:Hp) (xs:List V) (ρs:List Ro) (out:Nat->Str->Option Hm):Prop:=∀(k:Nat) (x:V) (ρ:Ro),xs[k]?=some x->ρs[k]?=some ρ->Im H x (hoD (duo out k ρ))
theorem Ro.nm_ne (ρ:Ro) (h:ρ.ok) (hn:∀x,ρ≠ .name x):ρ.s≠"name":=by
 cases ρ with
 |name x=>exact absurd rfl (hn x)
 |op s ks=>exact of_decide_eq_false (nC _ h "name" gB ⟨s,ks,rfl⟩)
 |num a=>exact(show("num":Str)≠"name" from by decide+kernel)
 |fn a b=>exact(show("fn":Str)≠"name" from by decide+kernel)
 |tag a b=>exact(show("tag":Str)≠"name" from by decide+kernel)
 |lt a b c=>exact(show("let":Str)≠"name" from by decide+kernel)
 |get a b=>exact(show("get":Str)≠"name" from by decide+kernel)
 |rcd a=>exact(show("rec":Str)≠"name" from by decide+kernel)
 |case a b=>exact(show("case":Str)≠"name" from by decide+kernel)
 |row a=>exact(show("row":Str)≠"name" from by decide+kernel)
theorem Cg {H H7:Hp} {ρ:Ro} {zs:List V} {out:Nat->Str->Option Hm} {i:Nat} {Qx:VK} (rok:ρ.ok) (hzs:Ims H zs ρ.r) (hn:∀x,ρ= .name x->∃h,out i x=some h) (key:∀y,Im H7 y (hoD (duo out i ρ))->Qx y H7):
  (ρ.s≠"name"->Qx .non H7)/\(ρ.s="name"->∃(x:Str) (h:Hm),zs=[.str x]/\out i x=some h/\∀p,H7 p=some (.tup [.str h.1,.int h.2])->Qx (.ref p) H7):=by
 have no:(∀x,ρ≠ .name x)->duo out i ρ=none->(ρ.s≠"name"->Qx .non H7)/\(ρ.s="name"->∃(x:Str) (h:Hm),zs=[.str x]/\out i x=some h/\∀p,H7 p=some (.tup [.str h.1,.int h.2])->Qx (.ref p) H7):=fun h e=>⟨fun _=>key _ (by rw[e];exact .flat rfl),fun z=>absurd z (ρ.nm_ne rok h)⟩
 cases ρ with
 |name x=>
  refine⟨fun z=>absurd rfl z,fun _=>?_⟩
  obtain⟨h,hh⟩:=hn x rfl
  cases hzs with
  |cons a b=>
   cases a;cases b
   refine⟨x,h,rfl,hh,fun p hp=>key _ ?_⟩
   show Im H7 _ (hoD (out i x))
   rw[hh]
   exact .tup hp (.cons (.flat rfl) (.cons (.flat rfl) .nil))
 |_=>exact no (fun x z=>nomatch z) rfl
theorem AM {H H7:Hp} {ρ:Ro} {zs:List V} {out:Nat->Str->Option Hm} {i:Nat} {Qx:VK} {E:XK} {t a:Addr} {n:Nat} {σ:St} (rok:ρ.ok) (hzs:Ims H zs ρ.r) (hn:∀x,ρ= .name x->∃h,out i x=some h) (et:H7 t=some (.tup (.str ρ.s::zs))) (sc:Sc H7 a (out i) n) (h4:σ[4]?=some (some (.ref t))) (h3:σ[3]?=some (some (.int (i:Int)))) (h5:σ[5]?=some (some (.ref a))) (key:∀y,Im H7 y (hoD (duo out i ρ))->Qx y H7):
  DE sA [] E (iX (cV 4) (iX (cV 3) (iX (cV 5) se))) σ H7 Qx:=by
 show onV σ[4]? _
 rw[h4]
 show onV σ[3]? _
 rw[h3]
 show onV σ[5]? _
 rw[h5]
 exact⟨t,a,(i:Int),out i,n,ρ.s,zs,rfl,et,sc,Cg rok hzs hn key⟩
theorem De {H:Hp} {l:Addr} {u o:HO} (e:H l=some u) (nt:∀zs,u≠ .tup zs):TK H (upd H l o):=fun a xs q=>by rw[gw (ko q e (fun z=>nt _ z.symm))];exact q
theorem Sc.updL {H:Hp} {a l:Addr} {g:Str->Option Hm} {n:Nat} {ys:List V} {o:HO} (h:Sc H a g n) (e:H l=some (.lst ys)):Sc (L2.Internal.upd H l o) a g n:=by
 obtain⟨kvs,e1,l',h⟩:=h
 refine⟨kvs,by rw[gw (ko e1 e (fun z=>nomatch z))];exact e1,l',fun w=>?_⟩
 have:=h w
 cases hg:g w with
 |none=>rw[hg]at this;exact this
 |some z=>
  rw[hg]at this
  obtain⟨t,h1,h2⟩:=this
  exact⟨t,h1,by rw[gw (ko h2 e (fun z=>nomatch z))];exact h2⟩
def wB (C:Addr):Sp:=fun vs H Q _=>X10 fun(p n r w dx:Addr) (xs:List V) (names:List Str) (roots:List Nat) (ρs:List Ro) (out:Nat->Str->Option Hm)=>Y4 (vs=[.ref p]) (PrA C H p n r w dx xs names roots ρs) (Bj names roots ρs out) (
 ∀l ys H',gP H H'->H l=none->H' l=some (.lst ys)->ys.length=ρs.length->HoA H' ys ρs out->Q (.ref l) H')
theorem wC (T:Txt K mg):FO P w base 8 T.d25 (wB T.c12.a):=by
 have gD26:=rA (P:=P) (w:=w) (base:=base) T
 have gD29:=rV (P:=P) (w:=w) (base:=base) T
 have gD27:=tV (P:=P) (w:=w) (base:=base) T
 have gD28:=yR (P:=P) (w:=w) (base:=base) T
 have gD30:=rC (P:=P) (w:=w) (base:=base) T
 refine T.d25.F.rd jY fun cdv A outer s H vs Q E hr h=>?_
 have hu:=vR hr
 obtain⟨p,n,r,w,dx,xs,names,roots,ρs,out,rfl,pr,gd,q⟩:=h
 refine⟨_,(gb (gK (pF T.d26 gD26 hr.m (f9 (gR T.c12.cl T.n12names (cv 0)) gf)))
  (gb (pS (i:=1) jY.nd (pF T.d29 gD29 hr.m (f9 (cv 0) gf)))
  (gb (pS (i:=2) jY.nd (hZ gf))
  (gb (ky PassesOwn.never rfl (sU rfl T.z_enumerate (f9 (gR T.c12.cl T.n12rows (cv 0)) gf)) (wZ rfl (jB (pN (i:=3) jY.nd) (jB (pN (i:=4) jY.nd) oT)))
   (gb (pS (i:=5) jY.nd (vN hu (cv 1) (cv 3)))
   (gb (gK (pF T.d26 gD26 hr.m (f9 (pF T.d27 gD27 hr.m (f9 (cv 4) gf)) gf)))
   (gb (gK (jg (jF eQ eR eS gT (PE.mono (cv 2)) (f9 (PE.mono (pF T.d28 gD28 hr.m (f9 (cv 4) (f9 (cv 3) (f9 (cv 5) gf))))) gf))))
   (gk (gK (jF PySem.F.plainAttrs_dict eN PySem.F.type_dict_update z9 (cv 1) (f9 (pF T.d30 gD30 hr.m (f9 (cv 4) (f9 (cv 5) gf))) gf))))))))
  (gk (gJ (cv 2))))))),?_⟩
 have sl:=sizeLine_eq
 have nl:=gd.nl
 have pn:=gd.pn
 refine⟨_,⟨dx,_,pr.o,xX _ _ _⟩,n,names,rfl,pr.n,gd.nn,by lia,fun H1 S1=>?_⟩
 refine⟨p,n,r,w,dx,xs,names,roots,ρs,out,rfl,pr.same S1,gd,fun d kvs H2 S2 hd ed hk hroots=>?_⟩
 refine⟨um,fun lh hlh=>?_⟩
 have s3:=gm hlh (.lst [])
 have el:(upd H2 lh (.lst [])) lh=some (.lst []):=gh
 dsimp only[ia]
 generalize upd H2 lh (.lst [])=H3 at s3 el⊢
 have S13:=(S1.trans S2).trans s3
 have hd0:H d=none:=S1.free hd
 have hl0:H lh=none:=(S1.trans S2).free hlh
 have ndl:d≠lh:=gr ed hlh
 have pr3:=pr.same S13
 have lx:=pr.i.length
 rw[aC]at lx
 refine⟨_,⟨dx,_,pr3.o,tX _ _ _⟩,w,rfl,⟨_,SqL.of pr3.w⟩,tW (xs:=xs) (fun i σ H4=>X5 fun(o3 o4 o5:Option V) (kvs:List (Key×V)) (ys:List V)=>Y8 (σ=[some (.ref p),some (.ref d),some (.ref lh),o3,o4,o5]) (gP H H4) (H4 d=some (.dK kvs)) (kvs.length<=12+ 300*i) (H4 lh=some (.lst ys)) (ys.length=i) (HoA H4 ys ρs out) (
   ∀c:Nat,((∃i':Nat,roots[i']?=some c)\/∃(k':Nat) (ρ:Ro),k'<i/\ρs[k']?=some ρ/\(c:Int)∈ρ.pl)->∃a,a≠d/\jC kvs (.inl (c:Int))=some (.ref a)/\Sc H4 a (out c) (20+c)))
  ⟨none,none,none,kvs,[],rfl,S13,s3 _ _ ed,by lia,el,rfl,fun k x ρ h=>(by cases h),fun c hc=>?_⟩ (fun i σ H4 _ ⟨_,_,_,_,_,_,S,_,_,_,_,_,_⟩=>SqL.of (S _ _ pr.w)) ?_ ?_⟩
 ·rcases hc with⟨i,hi⟩|⟨k',ρ,h,_⟩
  ·obtain⟨a,h1,h2,h3⟩:=hroots i c hi
   exact⟨a,h1,h2,(h3.same s3).le (by lia)⟩
  ·exact absurd h (cG _)
 ·rintro i v σ H4 t hx ⟨o3,o4,o5,kvs,ys,rfl,S,ek,hk,el,hyl,ho,hsc⟩ ht
  have hi:=(au.mp hx).1
  obtain⟨ρ,hρ⟩:∃ρ,ρs[i]?=some ρ:=⟨_,bu (by lia)⟩
  have rok:=gd.ok ρ (aM hρ)
  obtain⟨tr,zs,hxt,etr,hzs,him⟩:=tY pr.i hρ
  rw[hxt]at hx
  cases hx
  obtain⟨a,nad,hva,sca⟩:=hsc i (gd.reach i (by lia))
  have sT:=gm ht (.tup [.int (i:Int),.ref tr])
  refine⟨t,_,rfl,SqT.of gh,rfl,_,_,rfl,_,_,rfl,rfl,?_⟩
  have S5:=S.trans sT
  generalize upd H4 t (.tup [.int (i:Int),.ref tr])=H5 at sT S5
  have g:=xm.k (k:=(Sum.inl (i:Int):Key)) (sT _ _ ek)
  rw[hva]at g
  refine⟨d,_,rfl,g,?_⟩
  refine⟨tr,ρ,rfl,him.mono (gP.tk S5),rok,fun lw H6 S6 hlw e6=>⟨lw,ρ.ws,rfl,e6,(ρ.ws_nd rok).1,ck (ρ.ws_nd rok).2 (by decide),fun H7 S7=>?_⟩⟩
  have S47:=(sT.trans S6).trans S7
  have S07:=S.trans S47
  have el7:=S47 _ _ el
  have ek7:=S47 _ _ ek
  have sca7:=sca.same S47
  refine⟨⟨_,el7⟩,AM rok hzs (fun x e=>gd.nm i x (by rw[hρ,e])) (S07 _ _ etr) sca7 rfl rfl rfl fun y hy=>?_⟩
  refine⟨_,el7,by lia,?_⟩
  have S08:=ig (o:= .lst (ys++[y])) S07 hl0
  have tk8:TK H7 (upd H7 lh (.lst (ys++[y]))):=De el7 (fun zs z=>nomatch z)
  have ek8:(upd H7 lh (.lst (ys++[y]))) d=some (.dK kvs):=by rw[gw ndl];exact ek7
  have el8:(upd H7 lh (.lst (ys++[y]))) lh=some (.lst (ys++[y])):=gh
  have sc8:∀{z:Addr} {g:Str->Option Hm} {m:Nat},Sc H4 z g m->Sc (upd H7 lh (.lst (ys++[y]))) z g m:=fun h=>(h.same S47).updL el7
  generalize upd H7 lh (.lst (ys++[y]))=H8 at S08 tk8 ek8 el8 sc8
  refine⟨.inr (.inr (.inl ⟨rfl,.inl ⟨_,ek8⟩⟩)),tr,a,ρ,out i,20+i,rfl,him.mono (gP.tk S08),rok,sc8 sca,by lia,fun d2 kvs2 H9 S9 hd2 e9 nd9 l9 in9=>⟨d,d2,kvs,kvs2,rfl,rfl,gr ek8 hd2,S9 _ _ ek8,e9,by lia,?_⟩⟩
  have tk9:TK H9 (upd H9 d (.dK (km kvs kvs2))):=De (S9 _ _ ek8) (fun zs z=>nomatch z)
  have tkA:TK H4 (upd H9 d (.dK (km kvs kvs2))):=fun b u e=>tk9 _ _ (S9 _ _ (tk8 _ _ (S47 _ _ e)))
  refine⟨_,_,_,_,ys++[y],rfl,ig (S08.trans S9) hd0 _,gh,ck (lF _ _) (by lia),by rw[gw ndl.symm];exact S9 _ _ el8,by rw[aN,hyl];rfl,?_,?_⟩
  ·intro k x ρ' hx hρ'
   by_cases hki:k<ys.length
   ·rw[aJ hki]at hx
    exact(ho k x ρ' hx hρ').mono tkA
   ·have hk2:=(au.mp hx).1
    rw[aN,aY]at hk2
    have e:k=ys.length:=by lia
    subst e
    rw[aI (cq _),cF]at hx
    cases hx
    rw[hyl]at hρ'⊢
    rw[hρ]at hρ'
    cases hρ'
    exact hy.mono fun b u e=>tk9 _ _ (S9 _ _ (tk8 _ _ e))
  ·intro c hc
   rw[nZ _ _ _ nd9]
   rcases in9 (c:Int)with⟨h1,h2⟩|⟨j,e,a',hW,hj,he,hv,hs⟩
   ·rw[h1]
    obtain⟨a',g1,g2,g3⟩:=hsc c (by
     rcases hc with h|⟨k',ρ',k1,k2,k3⟩
     ·exact .inl h
     ·refine .inr ⟨k',ρ',?_,k2,k3⟩
      by_cases z:k'=i
      ·rw[z,hρ]at k2
       cases k2
       exact absurd k3 h2
      ·lia)
    exact⟨a',g1,g2,((sc8 g3).same S9).upd (S9 _ _ ek8) g1⟩
   ·rw[hv]
    have na:a'≠d:=by
     rcases hW with h|h
     ·rw[h];exact nad
     ·exact(gr ek8 h).symm
    obtain⟨m,e1,e2,e3⟩:=gd.kid i ρ j _ e hρ hj he
    have em:c=m:=by lia
    subst em
    exact⟨a',na,rfl,by rw[e3];exact(hs.upd (S9 _ _ ek8) na).le (by lia)⟩
 ·rintro σ H4 ⟨o3,o4,o5,kvs,ys,rfl,S,ek,hk,el,hyl,ho,hsc⟩
  exact q lh ys H4 S hl0 el (by lia) ho
mutual
inductive Vl where
 |num (n p:Int)
 |fn (b:Int) (sc:Ev) (p:Int)
 |rcd (l:Vls) (p:Int)
 |tag (t:Str) (v:Vl) (p:Int)
 |row (l:Vlr) (p:Int)
inductive Ev where
 |nil
 |cons (b:Int) (v:Vl) (sc:Ev)
inductive Vls where
 |nil
 |cons (w:Str) (v:Vl) (t:Vls)
inductive Vlr where
 |nil
 |cons (v:Vl) (t:Vlr)
end
mutual
def Vl.d:Vl->Dt
 | .num n p=> .tup [sD "num",kD n,kD p]
 | .fn b sc p=> .tup [sD "fn",.tup [kD b,sc.d],kD p]
 | .rcd l p=> .tup [sD "rec",.tup l.ds,kD p]
 | .tag t v p=> .tup [sD "tag",.tup [sD t,v.d],kD p]
 | .row l p=> .tup [sD "row",.tup l.ds,kD p]
def Ev.d:Ev->Dt
 | .nil=> .flat .non
 | .cons b v sc=> .tup [kD b,v.d,sc.d]
def Vls.ds:Vls->List Dt
 | .nil=>[]
 | .cons w v t=> .tup [sD w,v.d]::t.ds
def Vlr.ds:Vlr->List Dt
 | .nil=>[]
 | .cons v t=>v.d::t.ds
end
def Vl.s:Vl->Str
 | .num _ _=>"num"
 | .fn _ _ _=>"fn"
 | .rcd _ _=>"rec"
 | .tag _ _ _=>"tag"
 | .row _ _=>"row"
def Vl.b:Vl->Dt
 | .num n _=>kD n
 | .fn b sc _=> .tup [kD b,sc.d]
 | .rcd l _=> .tup l.ds
 | .tag t v _=> .tup [sD t,v.d]
 | .row l _=> .tup l.ds
def Vl.p:Vl->Int
 | .num _ p=>p
 | .fn _ _ p=>p
 | .rcd _ p=>p
 | .tag _ _ p=>p
 | .row _ p=>p
theorem IQ (v:Vl):v.d= .tup [sD v.s,v.b,kD v.p]:=by cases v<;>rw[Vl.d]<;>rfl
def E8:Vlr->List Vl
 | .nil=>[]
 | .cons v t=>v::E8 t
def GS:List Vl->Vlr
 |[]=> .nil
 |v::t=> .cons v (GS t)
theorem GU:∀l,E8 (GS l)=l
 |[]=>rfl
 |v::t=>congrArg (v::·) (GU t)
theorem EK:∀l:Vlr,l.ds=(E8 l).map Vl.d
 | .nil=>by rw[Vlr.ds];rfl
 | .cons v t=>by rw[Vlr.ds,EK t];rfl
inductive Stp where
 |beg (p:Int) (sc:Ev)
 |par (p:Int) (sc:Ev)
 |hand (p:Int)
def Stp.d:Stp->Dt
 | .beg p sc=> .tup [sD "begin",kD p,sc.d]
 | .par p sc=> .tup [sD "parts",kD p,sc.d]
 | .hand p=> .tup [sD "hand",kD p,.flat .non]
def meD (t:Int×Int×Int):Dt:= .tup [kD t.1,kD t.2.1,kD t.2.2]
def haD (t:Int×Int):Dt:= .tup [kD t.1,kD t.2]
structure Ms where
 bg:Nat
 en:Option Str
 me:List (Int×Int×Int)
 ha:List (Int×Int)
 de:List Vl
 st:List Stp
 rd:List Vl
def atZ {α:Type} (l:List α):Int->Option α
 | .ofNat k=>l[k]?
 | .negSucc _=>none
def oS (p:Int) (v:Vl) (s:Ms):Ms:={s with ha:=(p,v.p)::s.ha,rd:=v::s.rd}
def vg (b:Int) (sc:Ev) (p:Int) (s:Ms):Ms:={s with st:= .beg b sc:: .hand p::s.st}
def nh (v:Vl) (p k:Int) (s:Ms):Ms:={s with me:=(v.p,p,k)::s.me}
def yS:Ev->Int->Option Vl
 | .nil,_=>none
 | .cons b v sc,p=>if b=p then some v else yS sc p
def n6:Ro->List Int
 | .fn _ _=>[]
 | .lt _ a _=>[a]
 | .case k _=>[k]
 |ρ=>ρ.pl
def vh (ho:Option Hm) (p:Int) (sc:Ev):Ro->List Vl->Ms->Option Ms
 | .num n,[],s=>some (oS p (.num n p) s)
 | .name _,[],s=>match ho with
  |some h=>if h.1="def" then(atZ s.de h.2).map fun v=>oS p v s else(yS sc h.2).map fun v=>oS p v s
  |none=>none
 | .fn _ k,[],s=>some (oS p (.fn k sc p) s)
 | .tag w _,[v],s=>some (oS p (.tag w v p) s)
 | .lt _ a b,[v],s=>some (vg b (.cons a v sc) p s)
 | .get _ w,[.rcd (.cons w' v .nil) q],s=>if w'=w then some (oS p v (nh (.rcd (.cons w' v .nil) q) p 0 s))else none
 | .rcd [(w,_)],[v],s=>some (oS p (.rcd (.cons w v .nil) p) s)
 | .row _,vs,s=>some (oS p (.row (GS vs) p) s)
 | .op o _,[.fn b e q,a],s=>if o="call" then some (vg b (.cons b a e) p (nh (.fn b e q) p 0 s))else none
 | .op o _,[.row l q,.num n r,_],s=>if o="at" then(atZ (E8 l) n).map fun v=>oS p v (nh (.num n r) p 1 (nh (.row l q) p 0 s))else none
 |_,_,_=>none
inductive Wm (hm:Option Hm) (p:Int) (sc:Ev) (s:Ms):Ro->List Vl->Ms->Prop
 |num {n:Int}:Wm hm p sc s (.num n) [] (oS p (.num n p) s)
 |nameD {x:Str} {h:Hm} {v:Vl} (e:hm=some h) (hd:h.1="def") (hv:atZ s.de h.2=some v):Wm hm p sc s (.name x) [] (oS p v s)
 |nameH {x:Str} {h:Hm} {v:Vl} (e:hm=some h) (hd:h.1≠"def") (hv:yS sc h.2=some v):Wm hm p sc s (.name x) [] (oS p v s)
 |fn {x:Str} {k:Int}:Wm hm p sc s (.fn x k) [] (oS p (.fn k sc p) s)
 |tag {x:Str} {k:Int} {v:Vl}:Wm hm p sc s (.tag x k) [v] (oS p (.tag x v p) s)
 |lt {x:Str} {a b:Int} {v:Vl}:Wm hm p sc s (.lt x a b) [v] (vg b (.cons a v sc) p s)
 |get {k:Int} {w:Str} {v:Vl} {q:Int}:Wm hm p sc s (.get k w) [.rcd (.cons w v .nil) q] (oS p v (nh (.rcd (.cons w v .nil) q) p 0 s))
 |rcd {w:Str} {k:Int} {v:Vl}:Wm hm p sc s (.rcd [(w,k)]) [v] (oS p (.rcd (.cons w v .nil) p) s)
 |row {ks:List Int} {vs:List Vl}:Wm hm p sc s (.row ks) vs (oS p (.row (GS vs) p) s)
 |call {ks:List Int} {b q:Int} {e:Ev} {a:Vl}:Wm hm p sc s (.op "call" ks) [.fn b e q,a] (vg b (.cons b a e) p (nh (.fn b e q) p 0 s))
 |at {ks:List Int} {l:Vlr} {q n r:Int} {x v:Vl} (hv:atZ (E8 l) n=some v):Wm hm p sc s (.op "at" ks) [.row l q,.num n r,x] (oS p v (nh (.num n r) p 1 (nh (.row l q) p 0 s)))
theorem Df {hm:Option Hm} {p:Int} {sc:Ev} {s s':Ms} {ρ:Ro} {l:List Vl} (h:vh hm p sc ρ l s=some s'):Wm hm p sc s ρ l s':=by
 unfold vh at h
 cases ρ with
 |num n=>cases l with
  |nil=>cases h;exact .num
  |cons _ _=>cases h
 |name x=>cases l with
  |nil=>
   dsimp only at h
   split at h
   ·split at h
    ·obtain⟨v,hv,rfl⟩:=cN.mp h;exact .nameD rfl ‹_› hv
    ·obtain⟨v,hv,rfl⟩:=cN.mp h;exact .nameH rfl ‹_› hv
   ·cases h
  |cons _ _=>cases h
 |fn x k=>cases l with
  |nil=>cases h;exact .fn
  |cons _ _=>cases h
 |tag x k=>rcases l with _|⟨v,_|_⟩<;>cases h;exact .tag
 |lt x a b=>rcases l with _|⟨v,_|_⟩<;>cases h;exact .lt
 |get k w=>
  rcases l with _|⟨_|_|⟨_|⟨w',v,_|_⟩,q⟩|_|_,_|_⟩<;>try(cases h;done)
  dsimp only at h
  split at h
  ·rename_i e;subst e;cases h;exact .get
  ·cases h
 |rcd ks=>rcases ks with _|⟨⟨w,k⟩,_|_⟩<;>rcases l with _|⟨v,_|_⟩<;>cases h;exact .rcd
 |row ks=>cases h;exact .row
 |op o ks=>
  rcases l with _|⟨_|⟨b,e,q⟩|_|_|⟨l,q⟩,_|⟨a,_|⟨x,_|_⟩⟩⟩<;>try(cases h;done)
  ·dsimp only at h
   split at h
   ·rename_i e;subst e;cases h;exact .call
   ·cases h
  all_goals cases a<;>try(cases h;done)
  dsimp only at h
  split at h
  ·rename_i e;subst e;obtain⟨v,hv,rfl⟩:=cN.mp h;exact .at hv
  ·cases h
 |_=>cases h
def tkR:Nat->List Vl->List Vl->Option (List Vl×List Vl)
 |0,r,l=>some (l,r)
 |n+ 1,v::r,l=>tkR n r (v::l)
 |_+ 1,[],_=>none
def pP (ρs:List Ro) (ho:Nat->Option Hm) (s:Ms):Option Ms:=match s.st with
 |[]=>none
 | .beg p sc::r=>match atZ ρs p with
  |some ρ=>some {s with bg:=s.bg+ 1,st:=(n6 ρ).map (fun k=> .beg k sc)++ .par p sc::r}
  |none=>none
 | .par p sc::r=>match atZ ρs p with
  |some ρ=>match tkR (n6 ρ).length s.rd []with
   |some (l,rd)=>vh (ho p.toNat) p sc ρ l {s with st:=r,rd:=rd}
   |none=>none
  |none=>none
 | .hand p::r=>match s.rd with
  |v::rd=>some (oS p v {s with st:=r,rd:=rd})
  |[]=>none
def AN:List Stp->Bool
 | .beg _ _::_=>true
 |_=>false
def vi (ρs:List Ro) (ho:Nat->Option Hm) (tu:Nat) (s:Ms):Option Ms:=if AN s.st=true/\tu<=s.bg then some {s with en:=some "turns",st:=s.st.tail}else pP ρs ho s
def fMc (p h:Addr) (tu bg:Int) (en:V) (me ha de st rd:Addr):List (Str×V):=[("program",.ref p),("homes",.ref h),("turns",.int tu),("begun",.int bg),("end",en),("meets",.ref me),("had",.ref ha),("defined",.ref de),("steps",.ref st),("ready",.ref rd)]
def enV:Option Str->V
 |none=> .non
 |some s=> .str s
structure Mad where
 m:Addr
 dx:Addr
 p:Addr
 h:Addr
 me:Addr
 ha:Addr
 de:Addr
 st:Addr
 rd:Addr
def Mad.ls (A:Mad):List Addr:=[A.me,A.ha,A.de,A.st,A.rd]
structure Mc (C:Addr) (H:Hp) (A:Mad) (tu:Nat) (s:Ms):Prop where
 o:H A.m=some (.ins C A.dx (fMc A.p A.h tu s.bg (enV s.en) A.me A.ha A.de A.st A.rd))
 me:∃xs,H A.me=some (.lst xs)/\Ims H xs (s.me.reverse.map meD)
 ha:∃xs,H A.ha=some (.lst xs)/\Ims H xs (s.ha.reverse.map haD)
 de:∃xs,H A.de=some (.lst xs)/\Ims H xs (s.de.map Vl.d)
 st:∃xs,H A.st=some (.lst xs)/\Ims H xs (s.st.reverse.map Stp.d)
 rd:∃xs,H A.rd=some (.lst xs)/\Ims H xs (s.rd.reverse.map Vl.d)
 nd:A.ls.Nodup
def FM (A:Mad) (H H':Hp):Prop:=∀a o,H a=some o->a≠A.m->a∉A.ls->H' a=some o
theorem FM.refl {A:Mad} {H:Hp}:FM A H H:=fun _ _ e _ _=>e
theorem FM.trans {A:Mad} {H H1 H2:Hp} (f:FM A H H1) (g:FM A H1 H2):FM A H H2:=fun a o e n m=>g a o (f a o e n m) n m
theorem FM.same {A:Mad} {H H':Hp} (S:gP H H'):FM A H H':=fun a o e _ _=>S a o e
section
variable {C:Addr} {H H':Hp} {A:Mad} {tu:Nat} {s:Ms}
theorem Mc.out (M:Mc C H A tu s) {a:Addr} {xs:List V} (e:H a=some (.tup xs)):a≠A.m/\a∉A.ls:=by
 obtain⟨o,⟨_,e1,_⟩,⟨_,e2,_⟩,⟨_,e3,_⟩,⟨_,e4,_⟩,⟨_,e5,_⟩,_⟩:=M
 refine⟨fun z=>?_,fun z=>?_⟩
 ·rw[z,o]at e;cases e
 ·simp only[Mad.ls,aj,bz,or_false]at z
  rcases z with rfl|rfl|rfl|rfl|rfl
  ·rw[e1]at e;cases e
  ·rw[e2]at e;cases e
  ·rw[e3]at e;cases e
  ·rw[e4]at e;cases e
  ·rw[e5]at e;cases e
theorem Mc.tk (M:Mc C H A tu s) (F:FM A H H'):TK H H':=fun a xs e=>F a _ e (M.out e).1 (M.out e).2
theorem Mc.same (M:Mc C H A tu s) (S:gP H H'):Mc C H' A tu s:=by
 obtain⟨o,⟨x1,e1,i1⟩,⟨x2,e2,i2⟩,⟨x3,e3,i3⟩,⟨x4,e4,i4⟩,⟨x5,e5,i5⟩,nd⟩:=M
 have k:=gP.tk S
 exact⟨S _ _ o,⟨x1,S _ _ e1,i1.mono k⟩,⟨x2,S _ _ e2,i2.mono k⟩,⟨x3,S _ _ e3,i3.mono k⟩,⟨x4,S _ _ e4,i4.mono k⟩,⟨x5,S _ _ e5,i5.mono k⟩,nd⟩
theorem Mc.upd (M:Mc C H A tu s) {a:Addr} {xs ys:List V} (ha:a∈A.ls) (e:H a=some (.lst xs)) {s':Ms} (hb:s'.bg=s.bg) (he:s'.en=s.en)
  (h1:if a=A.me then Ims H ys (s'.me.reverse.map meD)else s'.me=s.me) (h2:if a=A.ha then Ims H ys (s'.ha.reverse.map haD)else s'.ha=s.ha) (h3:if a=A.de then Ims H ys (s'.de.map Vl.d)else s'.de=s.de)
  (h4:if a=A.st then Ims H ys (s'.st.reverse.map Stp.d)else s'.st=s.st) (h5:if a=A.rd then Ims H ys (s'.rd.reverse.map Vl.d)else s'.rd=s.rd):Mc C (upd H a (.lst ys)) A tu s'/\FM A H (upd H a (.lst ys)):=by
 have k:TK H (L2.Internal.upd H a (.lst ys)):=(xA e).tk
 have part:∀{b:Addr} {α:Type} {f:α->Dt} {l l':List α},(∃zs,H b=some (.lst zs)/\Ims H zs (l.map f))->(if a=b then Ims H ys (l'.map f)else l'=l)->∃zs,(L2.Internal.upd H a (.lst ys)) b=some (.lst zs)/\Ims (L2.Internal.upd H a (.lst ys)) zs (l'.map f):=fun{b α f l l'} ⟨zs,e0,i0⟩ h=>by
  by_cases z:a=b
  ·rw[gX z]at h
   subst z
   exact⟨ys,gh,h.mono k⟩
  ·rw[gN z]at h
   rw[h]
   exact⟨zs,by rw[gw (Ne.symm z)];exact e0,i0.mono k⟩
 obtain⟨o,p1,p2,p3,p4,p5,nd⟩:=M
 have rev:∀{b:Addr} {α:Type} {f:α->Dt} {l l':List α},(if a=b then Ims H ys (l'.reverse.map f)else l'=l)->if a=b then Ims H ys (l'.reverse.map f)else l'.reverse=l.reverse:=fun{b α f l l'} h=>by
  by_cases z:a=b
  ·rw[gX z]at h⊢;exact h
  ·rw[gN z]at h⊢;rw[h]
 refine⟨⟨?_,part p1 (rev h1),part p2 (rev h2),part p3 h3,part p4 (rev h4),part p5 (rev h5),nd⟩,fun b o' e' n m=>by rw[gw (fun z=>m (by rw[z];exact ha))];exact e'⟩
 rw[gw (fun z=>by rw[<-z,o]at e;cases e),hb,he]
 exact o
end
def Bd (n:Nat) (s:Ms):Prop:=s.me.length<=n/\s.ha.length<=n/\s.de.length<=n/\s.st.length<=n/\s.rd.length<=n
theorem Bd.mono {n m:Nat} {s:Ms} (h:Bd n s) (k:n<=m):Bd m s:=⟨ck h.1 k,ck h.2.1 k,ck h.2.2.1 k,ck h.2.2.2.1 k,ck h.2.2.2.2 k⟩
section
variable {C:Addr} {H H':Hp} {A:Mad} {tu:Nat} {s:Ms}
theorem Mc.nds (M:Mc C H A tu s):(A.me≠A.ha/\A.me≠A.de/\A.me≠A.st/\A.me≠A.rd)/\(A.ha≠A.de/\A.ha≠A.st/\A.ha≠A.rd)/\(A.de≠A.st/\A.de≠A.rd)/\A.st≠A.rd:=by
 have n:=M.nd
 simp only[Mad.ls,aE,aj,bz,or_false,not_or]at n
 exact⟨n.1,n.2.1,n.2.2.1,n.2.2.2.1⟩
theorem Mc.meP (M:Mc C H A tu s) {x:V} {t:Int×Int×Int} (ix:Im H x (meD t)):∃xs,H A.me=some (.lst xs)/\xs.length=s.me.length/\Mc C (L2.Internal.upd H A.me (.lst (xs++[x]))) A tu {s with me:=t::s.me}/\FM A H (L2.Internal.upd H A.me (.lst (xs++[x]))):=by
 obtain⟨⟨a,b,c,d⟩,_⟩:=M.nds
 obtain⟨xs,e,i⟩:=M.me
 refine⟨xs,e,by rw[i.length,aC,bH],M.upd (by simp[Mad.ls]) e rfl rfl (by rw[gX rfl,aX,bc];exact i.app (.cons ix .nil)) (by rw[gN a]) (by rw[gN b]) (by rw[gN c]) (by rw[gN d])⟩
theorem Mc.haP (M:Mc C H A tu s) {x:V} {t:Int×Int} (ix:Im H x (haD t)):∃xs,H A.ha=some (.lst xs)/\xs.length=s.ha.length/\Mc C (L2.Internal.upd H A.ha (.lst (xs++[x]))) A tu {s with ha:=t::s.ha}/\FM A H (L2.Internal.upd H A.ha (.lst (xs++[x]))):=by
 obtain⟨⟨a,_⟩,⟨b,c,d⟩,_⟩:=M.nds
 obtain⟨xs,e,i⟩:=M.ha
 refine⟨xs,e,by rw[i.length,aC,bH],M.upd (by simp[Mad.ls]) e rfl rfl (by rw[gN a.symm]) (by rw[gX rfl,aX,bc];exact i.app (.cons ix .nil)) (by rw[gN b]) (by rw[gN c]) (by rw[gN d])⟩
theorem Mc.deP (M:Mc C H A tu s) {x:V} {v:Vl} (ix:Im H x v.d):∃xs,H A.de=some (.lst xs)/\xs.length=s.de.length/\Mc C (L2.Internal.upd H A.de (.lst (xs++[x]))) A tu {s with de:=s.de++[v]}/\FM A H (L2.Internal.upd H A.de (.lst (xs++[x]))):=by
 obtain⟨⟨_,a,_⟩,⟨b,_⟩,⟨c,d⟩,_⟩:=M.nds
 obtain⟨xs,e,i⟩:=M.de
 refine⟨xs,e,by rw[i.length,aC],M.upd (by simp[Mad.ls]) e rfl rfl (by rw[gN a.symm]) (by rw[gN b.symm]) (by rw[gX rfl,bc];exact i.app (.cons ix .nil)) (by rw[gN c]) (by rw[gN d])⟩
theorem Mc.stP (M:Mc C H A tu s) {x:V} {t:Stp} (ix:Im H x t.d):∃xs,H A.st=some (.lst xs)/\xs.length=s.st.length/\Mc C (L2.Internal.upd H A.st (.lst (xs++[x]))) A tu {s with st:=t::s.st}/\FM A H (L2.Internal.upd H A.st (.lst (xs++[x]))):=by
 obtain⟨⟨_,_,a,_⟩,⟨_,b,_⟩,⟨c,_⟩,d⟩:=M.nds
 obtain⟨xs,e,i⟩:=M.st
 refine⟨xs,e,by rw[i.length,aC,bH],M.upd (by simp[Mad.ls]) e rfl rfl (by rw[gN a.symm]) (by rw[gN b.symm]) (by rw[gN c.symm]) (by rw[gX rfl,aX,bc];exact i.app (.cons ix .nil)) (by rw[gN d])⟩
theorem Mc.rdP (M:Mc C H A tu s) {x:V} {v:Vl} (ix:Im H x v.d):∃xs,H A.rd=some (.lst xs)/\xs.length=s.rd.length/\Mc C (L2.Internal.upd H A.rd (.lst (xs++[x]))) A tu {s with rd:=v::s.rd}/\FM A H (L2.Internal.upd H A.rd (.lst (xs++[x]))):=by
 obtain⟨⟨_,_,_,a⟩,⟨_,_,b⟩,⟨_,c⟩,d⟩:=M.nds
 obtain⟨xs,e,i⟩:=M.rd
 refine⟨xs,e,by rw[i.length,aC,bH],M.upd (by simp[Mad.ls]) e rfl rfl (by rw[gN a.symm]) (by rw[gN b.symm]) (by rw[gN c.symm]) (by rw[gN d.symm]) (by rw[gX rfl,aX,bc];exact i.app (.cons ix .nil))⟩
theorem qu {H:Hp} {α:Type} {f:α->Dt} {xs:List V} {l:List α} {a:α} (h:Ims H xs ((l++[a]).map f)):∃ys y,xs=ys++[y]/\Ims H ys (l.map f)/\Im H y (f a):=by
 have go:∀{ds:List Dt} {xs:List V} {d:Dt},Ims H xs (ds++[d])->∃ys v,xs=ys++[v]/\Ims H ys ds/\Im H v d:=fun{ds}=>by
  induction ds with
  |nil=>
   intro xs d h
   cases h with
   |cons h1 hs=>
    cases hs
    exact⟨[],_,rfl,.nil,h1⟩
  |cons d0 ds ih=>
   intro xs d h
   cases h with
   |cons h1 hs=>
    obtain⟨ys,v,rfl,h2,h3⟩:=ih hs
    exact⟨_::ys,v,rfl,.cons h1 h2,h3⟩
 rw[bc]at h
 exact go h
theorem Mc.stO (M:Mc C H A tu s) {t:Stp} {r:List Stp} (hs:s.st=t::r):∃xs x,H A.st=some (.lst (xs++[x]))/\Im H x t.d/\Mc C (L2.Internal.upd H A.st (.lst xs)) A tu {s with st:=r}/\FM A H (L2.Internal.upd H A.st (.lst xs)):=by
 obtain⟨⟨_,_,a,_⟩,⟨_,b,_⟩,⟨c,_⟩,d⟩:=M.nds
 obtain⟨xs,e,i⟩:=M.st
 rw[hs,aX]at i
 obtain⟨ys,y,rfl,h1,h2⟩:=qu i
 refine⟨ys,y,e,h2,M.upd (by simp[Mad.ls]) e rfl rfl (by rw[gN a.symm]) (by rw[gN b.symm]) (by rw[gN c.symm]) (by rw[gX rfl];exact h1) (by rw[gN d])⟩
theorem Mc.rdO (M:Mc C H A tu s) {v:Vl} {r:List Vl} (hs:s.rd=v::r):∃xs x,H A.rd=some (.lst (xs++[x]))/\Im H x v.d/\Mc C (L2.Internal.upd H A.rd (.lst xs)) A tu {s with rd:=r}/\FM A H (L2.Internal.upd H A.rd (.lst xs)):=by
 obtain⟨⟨_,_,_,a⟩,⟨_,_,b⟩,⟨_,c⟩,d⟩:=M.nds
 obtain⟨xs,e,i⟩:=M.rd
 rw[hs,aX]at i
 obtain⟨ys,y,rfl,h1,h2⟩:=qu i
 refine⟨ys,y,e,h2,M.upd (by simp[Mad.ls]) e rfl rfl (by rw[gN a.symm]) (by rw[gN b.symm]) (by rw[gN c.symm]) (by rw[gN d.symm]) (by rw[gX rfl];exact h1)⟩
theorem Mc.setO (M:Mc C H A tu s) (bg:Nat) (en:Option Str):Mc C (L2.Internal.upd H A.m (.ins C A.dx (fMc A.p A.h tu bg (enV en) A.me A.ha A.de A.st A.rd))) A tu {s with bg:=bg,en:=en}/\FM A H (L2.Internal.upd H A.m (.ins C A.dx (fMc A.p A.h tu bg (enV en) A.me A.ha A.de A.st A.rd))):=by
 have F:FM A H (L2.Internal.upd H A.m (.ins C A.dx (fMc A.p A.h tu bg (enV en) A.me A.ha A.de A.st A.rd))):=fun a o e n _=>by rw[gw n];exact e
 have k:=M.tk F
 obtain⟨o,⟨x1,e1,i1⟩,⟨x2,e2,i2⟩,⟨x3,e3,i3⟩,⟨x4,e4,i4⟩,⟨x5,e5,i5⟩,nd⟩:=M
 have ne:∀{b:Addr} {zs:List V},H b=some (.lst zs)->b≠A.m:=fun e z=>by rw[z,o]at e;cases e
 exact⟨⟨gh,⟨x1,by rw[gw (ne e1)];exact e1,i1.mono k⟩,⟨x2,by rw[gw (ne e2)];exact e2,i2.mono k⟩,⟨x3,by rw[gw (ne e3)];exact e3,i3.mono k⟩,⟨x4,by rw[gw (ne e4)];exact e4,i4.mono k⟩,⟨x5,by rw[gw (ne e5)];exact e5,i5.mono k⟩,nd⟩,F⟩
end
section
variable {p h me ha de st rd:Addr} {tu bg:Int} {en:V}
theorem AO:(fMc p h tu bg en me ha de st rd).lookup ("had":Str)=some (.ref ha):=by kernel_rfl
theorem vj:(fMc p h tu bg en me ha de st rd).lookup ("meets":Str)=some (.ref me):=by kernel_rfl
theorem n9:(fMc p h tu bg en me ha de st rd).lookup ("defined":Str)=some (.ref de):=by kernel_rfl
theorem kO:(fMc p h tu bg en me ha de st rd).lookup ("steps":Str)=some (.ref st):=by kernel_rfl
theorem oP:(fMc p h tu bg en me ha de st rd).lookup ("ready":Str)=some (.ref rd):=by kernel_rfl
theorem tZ:(fMc p h tu bg en me ha de st rd).lookup ("end":Str)=some en:=by kernel_rfl
theorem rD:(fMc p h tu bg en me ha de st rd).lookup ("begun":Str)=some (.int bg):=by kernel_rfl
theorem AQ:(fMc p h tu bg en me ha de st rd).lookup ("turns":Str)=some (.int tu):=by kernel_rfl
end
theorem xZ {p h me ha de st rd:Addr} {tu bg:Int} {en v:V}:lE "end" v (fMc p h tu bg en me ha de st rd)=fMc p h tu bg v me ha de st rd:=by kernel_rfl
theorem lC {H:Hp} {t:Addr} {xs:List V} {ds:List Dt} (h:H t=none) (i:Ims H xs ds):Im (L2.Internal.upd H t (.tup xs)) (.ref t) (.tup ds):= .tup gh (i.mono (gP.tk (gm h _)))
def AR (C:Addr):Sp:=fun vs H Q _=>X7 fun(A:Mad) (tu:Nat) (s:Ms) (b pl:Int) (x:V) (sc:Ev)=>Y5 (vs=[.ref A.m,.int b,x,.int pl]) (Mc C H A tu s) (Im H x sc.d) (s.st.length<10000000) (∀H',Mc C H' A tu (vg b sc pl s)->FM A H H'->Q .non H')
theorem kS (T:Txt K mg):MO P w base mg 1 T.e46 (AR T.c10.a):=by
 refine T.e46.F.rd oJ fun cdv A0 outer s0 H vs Q E hr h=>?_
 obtain⟨A,tu,s,b,pl,x,sc,rfl,M,ix,ls,q⟩:=h
 refine⟨_,(gb (gK (jg (jF eQ eR eS gT (PE.mono (gR T.c10.cl T.n10steps (cv 0))) (f9 (PE.mono (hI (f9 gq (f9 (cv 3) (f9 qC gf))))) gf))))
  (gk (gK (jg (jF eQ eR eS gT (PE.mono (gR T.c10.cl T.n10steps (cv 0))) (f9 (PE.mono (hI (f9 gq (f9 (cv 1) (f9 (cv 2) gf))))) gf)))))),?_⟩
 have sl:=sizeLine_eq
 obtain⟨xs,e,_⟩:=M.st
 refine⟨_,⟨_,_,M.o,kO⟩,⟨_,e⟩,oR,fun t ht=>?_⟩
 have S1:=gm ht (.tup [.str "hand",.int pl,.non])
 have M1:=M.same S1
 have i1:Im (L2.Internal.upd H t (.tup [.str "hand",.int pl,.non])) (.ref t) (Stp.hand pl).d:=lC ht (.cons (.flat rfl) (.cons (.flat rfl) (.cons (.flat rfl) .nil)))
 have ix1:=ix.mono (gP.tk S1)
 generalize L2.Internal.upd H t (.tup [.str "hand",.int pl,.non])=H1 at S1 M1 i1 ix1⊢
 obtain⟨xs1,e1,l1,M2,F2⟩:=M1.stP i1
 refine⟨xs1,e1,by lia,?_⟩
 have ix2:=ix1.mono (M1.tk F2)
 have F02:=(FM.same (A:=A) S1).trans F2
 dsimp only
 generalize L2.Internal.upd H1 A.st (.lst (xs1++[.ref t]))=H2 at M2 F2 F02 ix2⊢
 obtain⟨xs,e,_⟩:=M2.st
 refine⟨_,⟨_,_,M2.o,kO⟩,⟨_,e⟩,oR,fun t2 ht2=>?_⟩
 have S3:=gm ht2 (.tup [.str "begin",.int b,x])
 have M3:=M2.same S3
 have i3:Im (L2.Internal.upd H2 t2 (.tup [.str "begin",.int b,x])) (.ref t2) (Stp.beg b sc).d:=lC ht2 (.cons (.flat rfl) (.cons (.flat rfl) (.cons ix2 .nil)))
 obtain⟨xs3,e3,l3,M4,F4⟩:=M3.stP i3
 refine⟨xs3,e3,?_,q _ M4 ((F02.trans (FM.same S3)).trans F4)⟩
 rw[l3]
 show(Stp.hand pl::s.st).length<_
 rw[az]
 lia
def AS (C:Addr):Sp:=fun vs H Q _=>X6 fun(A:Mad) (tu:Nat) (s:Ms) (pl:Int) (x:V) (v:Vl)=>Y6 (vs=[.ref A.m,.int pl,x]) (Mc C H A tu s) (Im H x v.d) (s.ha.length<10000000) (s.rd.length<10000000) (∀H',Mc C H' A tu (oS pl v s)->FM A H H'->Q .non H')
theorem oQ {H:Hp} {x:V} {v:Vl} (h:Im H x v.d):∃t y,x= .ref t/\H t=some (.tup [.str v.s,y,.int v.p])/\Im H y v.b:=by
 rw[IQ]at h
 cases h with
 |tup e i=>
  cases i with
  |cons h1 i=>
   cases i with
   |cons h2 i=>
    cases i with
    |cons h3 i=>
     cases i
     cases h1 with
     |flat f1=>cases h3 with
      |flat f3=>exact⟨_,_,rfl,e,h2⟩
theorem hV (T:Txt K mg):MO P w base mg 1 T.e45 (AS T.c10.a):=by
 refine T.e45.F.rd pL fun cdv A0 outer s0 H vs Q E hr h=>?_
 obtain⟨A,tu,s,pl,x,v,rfl,M,ix,lh,lr,q⟩:=h
 refine⟨_,(gb (gK (jg (jF eQ eR eS gT (PE.mono (gR T.c10.cl T.n10had (cv 0))) (f9 (PE.mono (hI (f9 (cv 1) (f9 (gC gG (cv 2) gj) gf)))) gf))))
  (gk (gK (jg (jF eQ eR eS gT (PE.mono (gR T.c10.cl T.n10ready (cv 0))) (f9 (PE.mono (cv 2)) gf)))))),?_⟩
 have sl:=sizeLine_eq
 obtain⟨xs,e,_⟩:=M.ha
 obtain⟨t0,y,rfl,e0,iy⟩:=oQ ix
 refine⟨_,⟨_,_,M.o,AO⟩,⟨_,e⟩,_,e0,gx (gv (j:=2) rfl) ⟨ma,fun t ht=>?_⟩⟩
 have S1:=gm ht (.tup [.int pl,.int v.p])
 have M1:=M.same S1
 have i1:Im (L2.Internal.upd H t (.tup [.int pl,.int v.p])) (.ref t) (haD (pl,v.p)):=lC ht (.cons (.flat rfl) (.cons (.flat rfl) .nil))
 have ix1:=ix.mono (gP.tk S1)
 generalize L2.Internal.upd H t (.tup [.int pl,.int v.p])=H1 at S1 M1 i1 ix1⊢
 obtain⟨xs1,e1,l1,M2,F2⟩:=M1.haP i1
 refine⟨xs1,e1,by lia,?_⟩
 have ix2:=ix1.mono (M1.tk F2)
 have F02:=(FM.same (A:=A) S1).trans F2
 dsimp only
 generalize L2.Internal.upd H1 A.ha (.lst (xs1++[.ref t]))=H2 at M2 F2 F02 ix2⊢
 obtain⟨xs3,e3,l3,M4,F4⟩:=M2.rdP ix2
 exact⟨_,⟨_,_,M2.o,oP⟩,⟨_,e3⟩,xs3,e3,by rw[l3];show s.rd.length<_;lia,q _ M4 (F02.trans F4)⟩
theorem jo {p h me ha de st rd:Addr} {tu bg:Int} {en:V} {n:Str} (hn:((["program","homes","turns","begun","end","meets","had","defined","steps","ready"]:List Str).all fun x=>!(n==x))=true):(fMc p h tu bg en me ha de st rd).lookup n=none:=by
 simp only[aW,List.all_nil,Bool.and_true,eZ,Bool.not_eq_true']at hn
 obtain⟨h1,h2,h3,h4,h5,h6,h7,h8,h9,h10⟩:=hn
 simp only[fMc,bf,h1,h2,h3,h4,h5,h6,h7,h8,h9,h10,List.lookup_nil]
def GV (C:Addr):Sp:=fun vs H Q _=>X7 fun(A:Mad) (tu:Nat) (s:Ms) (x:V) (v:Vl) (pl k:Int)=>Y5 (vs=[.ref A.m,x,.int pl,.int k,.bl true]) (Mc C H A tu s) (Im H x v.d) (s.me.length<10000000) (∀H',Mc C H' A tu (nh v pl k s)->FM A H H'->Q (.bl true) H')
theorem l6 (T:Txt K mg):MO P w base mg 1 T.e47 (GV T.c10.a):=by
 refine T.e47.F.rd qf fun cdv A0 outer s0 H vs Q E hr h=>?_
 obtain⟨A,tu,s,x,v,pl,k,rfl,M,ix,lm,q⟩:=h
 refine⟨_,(gb (gK (jg (jF eQ eR eS gT (PE.mono (gR T.c10.cl T.n10meets (cv 0))) (f9 (PE.mono (hI (f9 (gC gG (cv 1) gj) (f9 (cv 2) (f9 (cv 3) gf))))) gf))))
  (gb (ic (nj (kr (cv 4)))
   (gk (i9 T.c10.cl T.n10end (jc (PE.mono (cv 0)) (PE.mono gq) rfl)))
   gE)
  (gk (gJ (cv 4))))),?_⟩
 have sl:=sizeLine_eq
 obtain⟨xs,e,_⟩:=M.me
 obtain⟨t0,y,rfl,e0,iy⟩:=oQ ix
 refine⟨_,⟨_,_,M.o,vj⟩,⟨_,e⟩,_,e0,gx (gv (j:=2) rfl) ⟨oR,fun t ht=>?_⟩⟩
 have S1:=gm ht (.tup [.int v.p,.int pl,.int k])
 have M1:=M.same S1
 have i1:Im (L2.Internal.upd H t (.tup [.int v.p,.int pl,.int k])) (.ref t) (meD (v.p,pl,k)):=lC ht (.cons (.flat rfl) (.cons (.flat rfl) (.cons (.flat rfl) .nil)))
 generalize L2.Internal.upd H t (.tup [.int v.p,.int pl,.int k])=H1 at S1 M1 i1⊢
 obtain⟨xs1,e1,l1,M2,F2⟩:=M1.meP i1
 refine⟨xs1,e1,by lia,?_⟩
 have F02:=(FM.same (A:=A) S1).trans F2
 dsimp only
 generalize L2.Internal.upd H1 A.me (.lst (xs1++[.ref t]))=H2 at M2 F2 F02⊢
 exact⟨_,rfl,jA (q _ M2 F02)⟩
def GW (C:Addr):Sp:=fun vs H Q _=>X7 fun(A:Mad) (tu:Nat) (s:Ms) (x:V) (v:Vl) (pl k:Int)=>Y5 (vs=[.ref A.m,.str v.s,x,.int pl,.int k]) (Mc C H A tu s) (Im H x v.d) (s.me.length<10000000) (∀H',Mc C H' A tu (nh v pl k s)->FM A H H'->Q (.bl true) H')
theorem kP (T:Txt K mg):MO P w base mg 2 T.e48 (GW T.c10.a):=by
 have gE47:=l6 (P:=P) (w:=w) (base:=base) T
 refine T.e48.F.rd nT fun cdv A0 outer s0 H vs Q E hr h=>?_
 obtain⟨A,tu,s,x,v,pl,k,rfl,M,ix,lm,q⟩:=h
 refine⟨_,(gk (gJ (ik (hG (PE.mono (cv 0)) T.c10.cl T.e47.me gE47 hr.m T.e47.b .nil je (f9 (cv 2) (f9 (cv 3) (f9 (cv 4) (f9 (mh jf (gC gG (cv 2) gj) (cv 1)) gf)))))))),?_⟩
 obtain⟨t0,y,rfl,e0,iy⟩:=oQ ix
 refine⟨⟨_,_,M.o,jo gB⟩,_,e0,gx (gv (j:=0) rfl) ⟨A,tu,s,_,v,pl,k,?_,M,ix,lm,q⟩⟩
 rw[fg,ir rfl]
 rfl
theorem EM {K:PySem.W.Frag} {a:Addr} {xs:List V} {g:TG} {tb:TS} {D:md} {σ:St} {H:Hp} (Pv:Nat->St->Hp->Prop) (h0:Pv 0 σ H) (hl:∀i σ H,i<=xs.length->Pv i σ H->SqL K H a xs)
  (hs:∀(i:Nat) (x:V) (σ:St) (H:Hp),i<xs.length->xs[xs.length-1-i]?=some x->Pv i σ H->g x σ H fun σ2 H2=>tb {D with nx:=Pv (i+ 1),ct:=Pv (i+ 1),bk:=D.nx} σ2 H2) (hd:∀σ H,Pv xs.length σ H->D.nx σ H):
  ∃W:Nat->Nat->St->Hp->Prop,(∃m,W 0 m σ H)/\∀i m σ H,W i m σ H->
   ((Itv K a xs.length).stop i H/\D.nx σ H)\/((Itv K a xs.length).go i H/\∃N:St->Hp->Prop,(∀σ' H',N σ' H'->∃m',m'<m/\W (i+ 1) m' σ' H')/\∀x H',(Itv K a xs.length).yld i H x H'->g x σ H' fun σ2 H2=>tb {D with nx:=N,ct:=N,bk:=D.nx} σ2 H2):=by
 refine⟨fun i m σ H=>Y3 (m=xs.length-i) (i<=xs.length) (Pv i σ H),⟨xs.length,by simp,cu _,h0⟩,?_⟩
 rintro i m σ H ⟨rfl,hi,p⟩
 have q:=hl i σ H hi p
 by_cases hlt:i<xs.length
 ·refine .inr ⟨⟨hlt,xs,q,rfl⟩,Pv (i+ 1),fun σ' H' p'=>⟨xs.length-(i+ 1),by lia,rfl,hlt,p'⟩,fun v H' y=>?_⟩
  obtain⟨rfl,hx⟩:=y
  exact hs i v σ H' hlt (hx xs q) p
 ·have e:i=xs.length:=by lia
  subst e
  exact .inl ⟨rfl,hd σ H p⟩
theorem qv:∀{n:Nat} {r l l' r':List Vl},tkR n r l=some (l',r')->n<=r.length/\l'=(r.take n).reverse++l/\r'=r.drop n
 |0,r,l,l',r',h=>by cases h;exact⟨cu _,rfl,rfl⟩
 |n+ 1,v::r,l,l',r',h=>by
  obtain⟨a,b,c⟩:=qv (n:=n) h
  exact⟨by simpa using a,by rw[b];simp,by rw[c];rfl⟩
 |n+ 1,[],l,l',r',h=>by cases h
def Mad.all (A:Mad):List Addr:=A.m::A.ls
theorem FM.get {A:Mad} {H H':Hp} (F:FM A H H') {a:Addr} {o:HO} (e:H a=some o) (n:a∉A.all):H' a=some o:=F a o e (fun z=>n (by rw[z];exact ah)) fun z=>n (ai _ z)
theorem FM.upd {A:Mad} {H H':Hp} {l:Addr} {o:HO} (F:FM A H H') (h:H l=none):FM A H (L2.Internal.upd H' l o):=fun a u e n m=>by rw[gw (gr e h)];exact F a u e n m
theorem Mc.new {C:Addr} {H:Hp} {A:Mad} {tu:Nat} {s:Ms} (M:Mc C H A tu s) {l:Addr} (h:H l=none):l∉A.all:=fun z=>by
 obtain⟨o,⟨_,e1,_⟩,⟨_,e2,_⟩,⟨_,e3,_⟩,⟨_,e4,_⟩,⟨_,e5,_⟩,_⟩:=M
 simp only[Mad.all,Mad.ls,aj,bz,or_false]at z
 rcases z with rfl|rfl|rfl|rfl|rfl|rfl
 ·rw[h]at o;cases o
 ·rw[h]at e1;cases e1
 ·rw[h]at e2;cases e2
 ·rw[h]at e3;cases e3
 ·rw[h]at e4;cases e4
 ·rw[h]at e5;cases e5
theorem Mc.oth {C:Addr} {H:Hp} {A:Mad} {tu:Nat} {s:Ms} (M:Mc C H A tu s) {l:Addr} {xs:List V} {o:HO} (h:l∉A.all) (e:H l=some (.lst xs)):Mc C (L2.Internal.upd H l o) A tu s:=by
 have k:TK H (L2.Internal.upd H l o):=(xA e).tk
 have ne:∀{b:Addr},b∈A.all->(L2.Internal.upd H l o) b=H b:=fun m=>gw fun z=>h (by rw[<-z];exact m)
 obtain⟨o,⟨x1,e1,i1⟩,⟨x2,e2,i2⟩,⟨x3,e3,i3⟩,⟨x4,e4,i4⟩,⟨x5,e5,i5⟩,nd⟩:=M
 exact⟨by rw[ne (by simp[Mad.all])];exact o,⟨x1,by rw[ne (by simp[Mad.all,Mad.ls])];exact e1,i1.mono k⟩,⟨x2,by rw[ne (by simp[Mad.all,Mad.ls])];exact e2,i2.mono k⟩,⟨x3,by rw[ne (by simp[Mad.all,Mad.ls])];exact e3,i3.mono k⟩,⟨x4,by rw[ne (by simp[Mad.all,Mad.ls])];exact e4,i4.mono k⟩,⟨x5,by rw[ne (by simp[Mad.all,Mad.ls])];exact e5,i5.mono k⟩,nd⟩
theorem AU {H:Hp}:∀{xs:List V} {ds:List Dt},Ims H xs ds->Ims H xs.reverse ds.reverse
 |_,_,.nil=> .nil
 |_,_,.cons a b=>by rw[aX,aX];exact(AU b).app (.cons a .nil)
abbrev hdT (i:Nat) (x:Str):TT:=cT (tOp (cEq false) (tOp CV (cV i) (tC (.int 0))) (tC (.str x)))
theorem yb {i:Nat} {x s:Str} {t:Addr} {ys:List V} {σ:St} {H:Hp} {k:Bool->Hp->Prop} {b:Bool} (hσ:σ[i]?=some (some (.ref t))) (et:H t=some (.tup (.str s::ys))) (e:decide (s=x)=b) (h:k b H):hdT i x σ H k:=by
 show onV σ[i]? _
 rw[hσ]
 refine⟨_,et,gx (gv (j:=0) rfl) ?_⟩
 dsimp only[tC,cEq,onB]
 rw[fg,e]
 exact h
theorem kn {i:Nat} {x s:Str} {t:Addr} {ys:List V} {σ:St} {H:Hp} {T u:TS} {D:md} (hσ:σ[i]?=some (some (.ref t))) (et:H t=some (.tup (.str s::ys))) (e:decide (s=x)=false) (h:u D σ H):vw (yV (hdT i x) T oq) u D σ H:=yb hσ et e (jA h)
theorem rE {i:Nat} {x s:Str} {t:Addr} {ys:List V} {σ:St} {H:Hp} {T u:TS} {D:md} (hσ:σ[i]?=some (some (.ref t))) (et:H t=some (.tup (.str s::ys))) (e:decide (s=x)=true) (h:T {D with nx:=u D} σ H):vw (yV (hdT i x) T oq) u D σ H:=yb hσ et e (jD h)
theorem GX {a b:Int} {H:Hp} {F:Bool->Hp->Prop} (e:¬b<=a) (h:F false H):cI0 (fun i j=> .bl (decide (j<=i))) (.int a) (.int b) H fun x H'=>onB x fun k=>F k H':=by show F (decide (b<=a)) H;rw[iI e];exact h
theorem GY {a b:Int} {H:Hp} {F:Bool->Hp->Prop} (e:b<=a) (h:F true H):cI0 (fun i j=> .bl (decide (j<=i))) (.int a) (.int b) H fun x H'=>onB x fun k=>F k H':=by show F (decide (b<=a)) H;rw[ir e];exact h
theorem rF {H:Hp} {t:Addr} {ρ:Ro} (h:Im H (.ref t) ρ.d):∃ys,H t=some (.tup (.str ρ.s::ys))/\Ims H ys ρ.r:=by
 unfold Ro.d at h
 cases h with
 |tup e i=>
  cases i with
  |cons a i=>cases a;exact⟨_,e,i⟩
theorem yc {H:Hp} {l:Addr} {ys:List V} {y:V} {Q:VK} (e:H l=some (.lst (ys++[y]))) (q:Q y (L2.Internal.upd H l (.lst ys))):JL (.ref l) [] H Q:=⟨l,_,y,rfl,rfl,e,by rw[aN,aY,Nat.add_sub_cancel,aI (cq _),cF];rfl,by rw[List.dropLast_concat];exact q⟩
inductive XTr (C:Addr) (vs:List V) (H:Hp) (Q:VK):Prop
 |mk (A:Mad) (tu:Nat) (s:Ms) (n:Nat) (l rd:List Vl) (e:vs=[.ref A.m,.int (n:Int)]) (M:Mc C H A tu s) (hn:n<=1000) (ht:tkR n s.rd []=some (l,rd)) (q:∀H' a xs,H a=none->H' a=some (.lst xs)->Ims H' xs (l.map Vl.d)->Mc C H' A tu {s with rd:=rd}->FM A H H'->Q (.ref a) H')
def IS (C:Addr):Sp:=fun vs H Q _=>XTr C vs H Q
def TrI (C:Addr) (A:Mad) (tu:Nat) (s:Ms) (n:Nat) (H:Hp) (tl:Addr) (i:Nat) (σ:St) (H2:Hp):Prop:=X2 fun(o:Option V) (xs:List V)=>Y5 (σ=[some (.ref A.m),some (.int (n:Int)),some (.ref tl),o]) (H2 tl=some (.lst xs)) (Ims H2 xs ((s.rd.take i).map Vl.d)) (Mc C H2 A tu {s with rd:=s.rd.drop i}) (FM A H H2)
theorem mK (T:Txt K mg):MO P w base mg 1 T.e44 (IS T.c10.a):=by
 refine T.e44.F.rd jj fun cdv A0 outer s0 H vs Q E hr h=>?_
 obtain⟨A,tu,s,n,l,rd,rfl,M,hn,ht,q⟩:=h
 refine⟨_,(gb (pS (i:=2) jj.nd (hZ gf))
  (gb (ky PassesOwn.never rfl (ku rfl T.z_range (f9 (cv 1) gf)) (pN (i:=3) jj.nd)
   (gk (gK (jg (jF eQ eR eS gT (PE.mono (cv 2)) (f9 (PE.mono (xo eQ eT eU xq (gR T.c10.cl T.n10ready (cv 0)))) gf))))))
  (gk (gJ (yA rfl rfl T.z_list rfl T.z_reversed (f9 (cv 2) gf)))))),?_⟩
 have sl:=sizeLine_eq
 obtain⟨t1,t2,t3⟩:=qv ht
 refine⟨um,fun tl htl=>?_⟩
 have S1:=gm htl (.lst [])
 have M1:=M.same S1
 have nt:=M.new htl
 have e1:(L2.Internal.upd H tl (.lst [])) tl=some (.lst []):=gh
 dsimp only[ia]
 refine⟨_,rfl,by lia,by lia,ot (TrI T.c10.a A tu s n H tl) ⟨none,[],rfl,e1,.nil,M1,FM.same S1⟩ ?_ ?_⟩
 ·rintro i σ H2 hi ⟨o,xs,rfl,e2,i2,M2,F2⟩
  rw[fA]at hi
  obtain⟨v,hv⟩:∃v,s.rd[i]?=some v:=⟨_,bu (by lia)⟩
  have hdr:s.rd.drop i=v::s.rd.drop (i+ 1):=by
   obtain⟨z1,z2⟩:=au.mp hv
   rw[bD z1,z2]
  obtain⟨ys,y,er,iy,M3,F3⟩:=M2.rdO hdr
  have e3:(L2.Internal.upd H2 A.rd (.lst ys)) tl=some (.lst xs):=F3.get e2 nt
  have i3:=i2.mono (M2.tk F3)
  have iy3:=iy.mono (M2.tk F3)
  have F03:=F2.trans F3
  refine⟨⟨_,e2⟩,_,⟨_,_,M2.o,oP⟩,.inl ⟨rfl,_,SqL.of er⟩,yc er ⟨xs,e3,?_,?_⟩⟩
  ·rw[i2.length,aC,aH];lia
  dsimp only
  generalize L2.Internal.upd H2 A.rd (.lst ys)=H3 at e3 i3 iy3 F03 M3⊢
  refine⟨_,_,rfl,gh,?_,M3.oth nt e3,F03.upd htl⟩
  rw[bW,hv,bc]
  exact(i3.app (.cons iy3 .nil)).mono (xA e3).tk
 ·rintro σ H2 ⟨o,xs,rfl,e2,i2,M2,F2⟩
  rw[fA]at i2 M2
  refine⟨tl,xs,rfl,SqL.of e2,fun a ha=>?_⟩
  have S3:=gm ha (.lst xs.reverse)
  refine q _ a _ ?_ gh ?_ (by rw[t3];exact M2.same S3) (F2.trans (FM.same S3))
  ·cases hh:H a with
   |none=>rfl
   |some o=>
    by_cases z:a∈A.all
    ·exact absurd z (M2.new ha)
    ·rw[F2.get hh z]at ha;cases ha
  ·rw[t2,aD,List.map_reverse]
   exact(AU i2).mono (gP.tk S3)
inductive XFp (ρ:Ro) (vs:List V) (H:Hp) (Q:VK):Prop
 |mk (t:Addr) (e:vs=[.ref t]) (it:Im H (.ref t) ρ.d) (q:∀l H',gP H H'->H l=none->H' l=some (.lst ((n6 ρ).map V.int))->Q (.ref l) H')
def IT:Sp:=fun vs H Q _=>∃ρ:Ro,ρ.ok/\XFp ρ vs H Q
theorem ny (T:Txt K mg):FO P w base 7 T.d4 IT:=by
 have gD2:=p7 (P:=P) (w:=w) (base:=base) T
 refine T.d4.F.rd rN fun cdv A0 outer s0 H vs Q E hr h=>?_
 obtain⟨ρ,ro,t,rfl,it,q⟩:=h
 refine⟨_,(gb (ic (gL jf (gC gG (cv 0) gj) gq)
   (gk (gJ (hZ gf)))
   gE)
  (gb (ic (gL jf (gC gG (cv 0) gj) gq)
   (gk (gJ (hZ (f9 (gC gG (cv 0) gj) gf))))
   gE)
  (gb (ic (gL jf (gC gG (cv 0) gj) gq)
   (gk (gJ (hZ (f9 (gC gG (cv 0) gj) gf))))
   gE)
  (gk (gJ (pF T.d2 gD2 hr.m (f9 (cv 0) gf))))))),?_⟩
 obtain⟨ys,et,iy⟩:=rF it
 obtain⟨_,hC,hF,hL⟩:=ρ.hd ro
 cases ρ with
 |fn w k=>exact rE rfl et hF ⟨um,fun l hl=>q l _ (gm hl _) hl gh⟩
 |lt w a b=>
  cases iy with
  |cons h1 iy=>
   cases iy with
   |cons h2 iy=>
    cases h2
    exact kn rfl et hF (rE rfl et hL ⟨_,et,gx (gv (j:=2) rfl) ⟨vv,fun l hl=>q l _ (gm hl _) hl gh⟩⟩)
 |case a b=>
  cases iy with
  |cons h1 iy=>
   cases h1
   exact kn rfl et hF (kn rfl et hL (rE rfl et hC ⟨_,et,gx (gv (j:=1) rfl) ⟨vv,fun l hl=>q l _ (gm hl _) hl gh⟩⟩))
 |_=>exact kn rfl et hF (kn rfl et hL (kn rfl et hC ⟨t,_,rfl,it,ro,q⟩))
structure Ctx (CP:Addr) (H:Hp) (A:Mad) (names:List Str) (roots:List Nat) (ρs:List Ro) (ho:Nat->Option Hm):Prop where
 p:∃n r w dx xs,PrA CP H A.p n r w dx xs names roots ρs/\A.p∉A.all/\n∉A.all/\r∉A.all/\w∉A.all
 h:∃hs,H A.h=some (.lst hs)/\A.h∉A.all/\∀(k:Nat) (ρ:Ro),ρs[k]?=some ρ->∃y,hs[k]?=some y/\Im H y (hoD (ho k))
 ok:∀ρ∈ρs,ρ.ok
theorem Ctx.fm {C CP:Addr} {H H':Hp} {A:Mad} {tu:Nat} {s:Ms} {names:List Str} {roots:List Nat} {ρs:List Ro} {ho:Nat->Option Hm} (c:Ctx CP H A names roots ρs ho) (M:Mc C H A tu s) (F:FM A H H'):Ctx CP H' A names roots ρs ho:=by
 have k:=M.tk F
 obtain⟨⟨n,r,w,dx,xs,pr,n1,n2,n3,n4⟩,⟨hs,e,n5,hh⟩,ok⟩:=c
 exact⟨⟨n,r,w,dx,xs,⟨F.get pr.o n1,F.get pr.n n2,F.get pr.r n3,F.get pr.w n4,pr.i.mono k⟩,n1,n2,n3,n4⟩,⟨hs,F.get e n5,n5,fun j ρ hj=>let⟨y,a,b⟩:=hh j ρ hj;⟨y,a,b.mono k⟩⟩,ok⟩
theorem oa {p h me ha de st rd:Addr} {tu bg:Int} {en:V}:(fMc p h tu bg en me ha de st rd).lookup ("program":Str)=some (.ref p):=by kernel_rfl
theorem vk {p h me ha de st rd:Addr} {tu bg:Int} {en:V}:(fMc p h tu bg en me ha de st rd).lookup ("homes":Str)=some (.ref h):=by kernel_rfl
theorem EN {p h me ha de st rd:Addr} {tu bg v:Int} {en:V}:lE "begun" (.int v) (fMc p h tu bg en me ha de st rd)=fMc p h tu v en me ha de st rd:=by kernel_rfl
theorem wD {ρ:Ro} (h:ρ.ok):(n6 ρ).length<=101:=by
 cases ρ with
 |rcd l=>have:l.length<=100:=h.1;show(l.map _).length<=_;rw[aC];lia
 |row l=>have:l.length<=100:=h;show l.length<=_;lia
 |op o l=>have:l.length<=100:=h.2;show l.length<=_;lia
 |_=>exact of_decide_eq_true rfl
theorem AV {C:Addr} {H:Hp} {A:Mad} {tu:Nat} {s:Ms} {σ:St} {j i:Nat} {m:Str} {p:Int} {x:V} {sc:Ev} {t:Stp} {D:md} (hσ:σ[0]?=some (some (.ref A.m))) (hp:σ[j]?=some (some (.int p))) (hx:σ[i]?=some (some x)) (M:Mc C H A tu s) (ix:Im H x sc.d) (ht:t.d= .tup [sD m,kD p,sc.d]) (ls:s.st.length<10000000) (k:∀H',Mc C H' A tu {s with st:=t::s.st}->FM A H H'->D.nx σ H'):
  Dv (Io (BI C "steps" (cV 0)) (DC (iX (tC (.str m)) (iX (cV j) (iX (cV i) se))))) D σ H:=by
 have sl:=sizeLine_eq
 show onV σ[0]? _
 rw[hσ]
 obtain⟨xs,e,_⟩:=M.st
 refine⟨_,⟨_,_,M.o,kO⟩,⟨_,e⟩,?_⟩
 show onV σ[j]? _
 rw[hp]
 show onV σ[i]? _
 rw[hx]
 refine⟨oR,fun a ha=>?_⟩
 have S1:=gm ha (.tup [.str m,.int p,x])
 have M1:=M.same S1
 have i1:Im (L2.Internal.upd H a (.tup [.str m,.int p,x])) (.ref a) t.d:=by rw[ht];exact lC ha (.cons (.flat rfl) (.cons (.flat rfl) (.cons ix .nil)))
 obtain⟨xs1,e1,l1,M2,F2⟩:=M1.stP i1
 exact⟨xs1,e1,by lia,k _ M2 ((FM.same S1).trans F2)⟩
inductive XBe (C CP:Addr) (vs:List V) (H:Hp) (Q:VK):Prop
 |mk (A:Mad) (tu:Nat) (s:Ms) (p:Int) (sc:Ev) (x:V) (ρ:Ro) (names:List Str) (roots:List Nat) (ρs:List Ro) (ho:Nat->Option Hm) (e:vs=[.ref A.m,.int p,x]) (M:Mc C H A tu s) (c:Ctx CP H A names roots ρs ho) (hk:tu<=s.bg\/∃k:Nat,p=k/\ρs[k]?=some ρ) (ix:Im H x sc.d) (hb:Bd 9000000 s) (q:∀H',Mc C H' A tu (if tu<=s.bg then{s with en:=some "turns"}else{s with bg:=s.bg+ 1,st:=(n6 ρ).map (fun k=> .beg k sc)++ .par p sc::s.st})->FM A H H'->Q .non H')
def IU (C CP:Addr):Sp:=fun vs H Q _=>XBe C CP vs H Q
def BgI (C:Addr) (A:Mad) (tu:Nat) (s:Ms) (k:Nat) (sc:Ev) (x:V) (ρ:Ro) (H:Hp) (lp:Addr) (i:Nat) (σ:St) (H2:Hp):Prop:=∃(o:Option V),Y5 (σ=[some (.ref A.m),some (.int (k:Int)),some x,o]) (Mc C H2 A tu {s with bg:=s.bg+ 1,st:=((n6 ρ).drop ((n6 ρ).length-i)).map (fun k=> .beg k sc)++ .par (k:Int) sc::s.st}) (Im H2 x sc.d) (FM A H H2) (H2 lp=some (.lst ((n6 ρ).map V.int)))
theorem qg (T:Txt K mg):MO P w base mg 8 T.e42 (IU T.c10.a T.c12.a):=by
 have gD4:=ny (P:=P) (w:=w) (base:=base) T
 refine T.e42.F.rd lZ fun cdv A0 outer s0 H vs Q E hr h=>?_
 obtain⟨A,tu,s,p,sc,x,ρ,names,roots,ρs,ho,rfl,M,c,hk,ix,hb,q⟩:=h
 refine⟨_,(gb (ic (gL Ij (gR T.c10.cl T.n10begun (cv 0)) (gR T.c10.cl T.n10turns (cv 0)))
   (gb (i9 T.c10.cl T.n10end (jc (PE.mono (cv 0)) (PE.mono gq) rfl))
   (gk zd))
   gE)
  (gb (uu (cv 0) gj Cz)
  (gb (gK (jg (jF eQ eR eS gT (PE.mono (gR T.c10.cl T.n10steps (cv 0))) (f9 (PE.mono (hI (f9 gq (f9 (cv 1) (f9 (cv 2) gf))))) gf))))
  (gk (ky PassesOwn.never rfl (Gf rfl T.z_reversed (f9 (pF T.d4 gD4 hr.m (f9 (gC gS (gR T.c12.cl T.n12rows (gR T.c10.cl T.n10program (cv 0))) (cv 1)) gf)) gf)) (pN (i:=3) lZ.nd)
   (gk (gK (jg (jF eQ eR eS gT (PE.mono (gR T.c10.cl T.n10steps (cv 0))) (f9 (PE.mono (hI (f9 gq (f9 (cv 3) (f9 (cv 2) gf))))) gf)))))))))),?_⟩
 have sl:=sizeLine_eq
 refine⟨_,⟨_,_,M.o,rD⟩,_,⟨_,_,M.o,AQ⟩,?_⟩
 by_cases ht:tu<=s.bg
 ·rw[gX ht]at q
  obtain⟨M3,F3⟩:=M.setO s.bg (some "turns")
  refine GY (by lia) (jD ⟨_,_,M.o,by show 10<1000;decide,?_⟩)
  rw[xZ]
  exact q _ M3 F3
 rw[gN ht]at q
 refine GX (by lia) (jA ?_)
 obtain⟨k,rfl,hk1⟩:=hk.resolve_left ht
 replace hk:=hk1
 obtain⟨M1,F1⟩:=M.setO (s.bg+ 1) s.en
 refine⟨A.m,_,_,_,_,rfl,M.o,T.c10.cl,T.n10begun,rD,?_⟩
 refine⟨_,_,rfl,rfl,_,_,M.o,by show 10<1000;decide,?_⟩
 rw[show((s.bg:Int)+ 1)=((s.bg+ 1:Nat):Int) by lia,EN]
 have ix1:=ix.mono (M.tk F1)
 have c1:=c.fm M F1
 dsimp only
 generalize L2.Internal.upd H A.m (.ins T.c10.a A.dx (fMc A.p A.h tu ((s.bg+ 1:Nat):Int) (enV s.en) A.me A.ha A.de A.st A.rd))=H1 at M1 F1 ix1 c1⊢
 have lst:=hb.2.2.2.1
 refine AV (sc:=sc) (t:= .par (k:Int) sc) (m:="parts") rfl rfl rfl M1 ix1 rfl (by show s.st.length<_;lia) fun H2 M2 F2=>?_
 have ix2:=ix1.mono (M1.tk F2)
 have F02:=F1.trans F2
 have c2:=c1.fm M1 F2
 obtain⟨n,r,w,dx,xs,pr,n1,n2,n3,n4⟩:=c2.p
 obtain⟨tr,ys,hxt,etr,_,him⟩:=tY pr.i hk
 have rok:=c.ok ρ (aM hk)
 refine⟨_,⟨_,_,M2.o,oa⟩,_,⟨_,_,pr.o,tX _ _ _⟩,_,pr.w,gx (gv hxt) ⟨ρ,rok,tr,rfl,him,fun lp H3 S3 hlp e3=>?_⟩⟩
 have M3:=M2.same S3
 have nl:=M2.new hlp
 have fl:(n6 ρ).length<=101:=wD rok
 refine⟨lp,_,rfl,SqL.of e3,EM (xs:=(n6 ρ).map V.int) (BgI T.c10.a A tu s k sc x ρ H lp) ⟨none,rfl,?_,ix2.mono (gP.tk S3),F02.trans (FM.same S3),e3⟩ (fun i σ H4 _ ⟨_,_,_,_,_,e⟩=>SqL.of e) ?_ ?_⟩
 ·rw[Nat.sub_zero,bV]
  exact M3
 ·rintro i v σ H4 hi hx ⟨o,rfl,M4,ix4,F4,e4⟩
  rw[aC]at hi hx
  rw[aK]at hx
  obtain⟨j,hj,rfl⟩:=cN.mp hx
  refine AV (sc:=sc) (t:= .beg j sc) (m:="begin") rfl rfl rfl M4 ix4 rfl ?_ fun H5 M5 F5=>⟨_,rfl,?_,ix4.mono (M4.tk F5),F4.trans F5,F5.get e4 nl⟩
  ·show(((n6 ρ).drop _).map _++_::s.st).length<_
   rw[aN,aC,az,aU]
   lia
  ·have e:(n6 ρ).drop ((n6 ρ).length-(i+ 1))=j::(n6 ρ).drop ((n6 ρ).length-i):=by
    obtain⟨z1,z2⟩:=au.mp hj
    rw[show(n6 ρ).length-(i+ 1)=(n6 ρ).length-1-i by lia,bD z1,z2,show(n6 ρ).length-1-i+ 1=(n6 ρ).length-i by lia]
   rw[e]
   exact M5
 ·rintro σ H4 ⟨o,rfl,M4,ix4,F4,e4⟩
  rw[aC,cF,bE]at M4
  exact q _ M4 F4
theorem Dg {j:Nat} {σ:St} {a b:Int} {H:Hp} {F:Bool->Hp->Prop} {c:Bool} (hj:σ[j]?=some (some (.int b))) (e:decide (a=b)=c) (h:F (!c) H):cV j σ H fun y H2=>cEq true (.int a) y H2 fun x H'=>onB x fun k=>F k H':=by show onV σ[j]? _;rw[hj];show F (xor true (decide (a=b))) H;rw[e,fh];exact h
def Ev.sz:Ev->Nat
 | .nil=>0
 | .cons _ _ sc=>sc.sz+ 1
inductive XHv (vs:List V) (H:Hp) (Q:VK):Prop
 |mk (sc:Ev) (p:Int) (v:Vl) (x:V) (e:vs=[x,.int p]) (ix:Im H x sc.d) (hv:yS sc p=some v) (q:∀y,Im H y v.d->Q y H)
def IV:Sp:=fun vs H Q _=>XHv vs H Q
theorem GZ {H:Hp} {x:V} {b:Int} {v:Vl} {sc:Ev} (h:Im H x (Ev.cons b v sc).d):∃t y z,x= .ref t/\H t=some (.tup [.int b,y,z])/\Im H y v.d/\Im H z sc.d:=by
 rw[Ev.d]at h
 cases h with
 |tup e i=>
  cases i with
  |cons h1 i=>
   cases i with
   |cons h2 i=>
    cases i with
    |cons h3 i=>
     cases i
     cases h1
     exact⟨_,_,_,rfl,e,h2,h3⟩
def HvI (x0:V) (p:Int) (v:Vl) (H:Hp) (m:Nat) (σ:St) (H2:Hp):Prop:=H2=H/\X2 fun(sc:Ev) (x:V)=>Y4 (m=sc.sz) (σ=[some x0,some (.int p),some x]) (Im H x sc.d) (yS sc p=some v)
theorem ua (T:Txt K mg):FO P w base 1 T.d5 IV:=by
 refine T.d5.F.rd lV fun cdv A0 outer s0 H vs Q E hr h=>?_
 obtain⟨sc,p,v,x,rfl,ix,hv,q⟩:=h
 refine⟨_,(gb (pS (i:=2) lV.nd (cv 0))
  (gb (mS PassesOwn.never (gL BH (gC gG (cv 2) gj) (cv 1))
   (gk (pS (i:=2) lV.nd (gC gG (cv 2) gj))))
  (gk (gJ (gC gG (cv 2) gj))))),?_⟩
 refine⟨HvI x p v H,⟨_,rfl,sc,x,rfl,rfl,ix,hv⟩,?_⟩
 rintro m σ H2 ⟨rfl,sc,y,rfl,rfl,iy,hv⟩
 cases sc with
 |nil=>cases hv
 |cons b u sc=>
  obtain⟨t,y1,z,rfl,et,i1,i2⟩:=GZ iy
  refine⟨_,et,gx (gv (j:=0) rfl) ?_⟩
  unfold yS at hv
  by_cases e:b=p
  ·rw[gX e]at hv
   cases hv
   refine Dg rfl (ir e) ?_
   exact jA ⟨_,et,gx (gv (j:=1) rfl) (q _ i1)⟩
  ·rw[gN e]at hv
   refine Dg rfl (iI e) ?_
   exact jD ⟨fun σ' H'=>HvI x p v H2 sc.sz σ' H',fun σ' H' h=>⟨_,cw _,h⟩,⟨_,et,gx (gv (j:=2) rfl) ⟨rfl,sc,z,rfl,rfl,i2,hv⟩⟩⟩
inductive XW (C CP:Addr) (U:Ro->Prop) (vs:List V) (H:Hp) (Q:VK):Prop
 |mk (A:Mad) (tu:Nat) (s s':Ms) (k:Nat) (sc:Ev) (t ps:Addr) (x:V) (xs:List V) (l:List Vl) (ρ:Ro) (names:List Str) (roots:List Nat) (ρs:List Ro) (ho:Nat->Option Hm) (e:vs=[.ref A.m,.ref t,.int (k:Int),x,.ref ps]) (M:Mc C H A tu s) (c:Ctx CP H A names roots ρs ho) (hk:ρs[k]?=some ρ) (hu:U ρ) (it:Im H (.ref t) ρ.d) (ix:Im H x sc.d) (ep:H ps=some (.lst xs)) (np:ps∉A.all) (il:Ims H xs (l.map Vl.d)) (hb:Bd 9000000 s) (hw:Wm (ho k) k sc s ρ l s') (q:∀H',Mc C H' A tu s'->FM A H H'->Q .non H')
def lq (C CP:Addr) (U:Ro->Prop):Sp:=fun vs H Q _=>XW C CP U vs H Q
theorem vm {C:Addr} {H:Hp} {A:Mad} {tu:Nat} {s:Ms} {k:Int} {a:Addr} {xs:List V} {ds:List Dt} {v:Vl} {Q:VK} (M:Mc C H A tu s) (hb:Bd 9500000 s) (ha:H a=none) (i:Ims H xs ds) (hv:v.d= .tup ds) (q:∀H',Mc C H' A tu (oS k v s)->FM A H H'->Q .non H'):AS C [.ref A.m,.int k,.ref a] (L2.Internal.upd H a (.tup xs)) Q E0:=
 have b1:=hb.2.1
 have b2:=hb.2.2.2.2
 ⟨A,tu,s,k,_,v,rfl,M.same (gm ha _),by rw[hv];exact lC ha i,by lia,by lia,fun H' M' F'=>q H' M' ((FM.same (gm ha _)).trans F')⟩
theorem rG {C:Addr} {H:Hp} {A:Mad} {tu:Nat} {s:Ms} {k:Int} {x:V} {v:Vl} {Q:VK} (M:Mc C H A tu s) (hb:Bd 9500000 s) (i:Im H x v.d) (q:∀H',Mc C H' A tu (oS k v s)->FM A H H'->Q .non H'):AS C [.ref A.m,.int k,x] H Q E0:=
 have b1:=hb.2.1
 have b2:=hb.2.2.2.2
 ⟨A,tu,s,k,_,v,rfl,M,i,by lia,by lia,q⟩
theorem Bd.le {n m:Nat} {s:Ms} (h:Bd n s) (k:autoParam (n<=m) L2.Internal.auD._auto_1):Bd m s:=h.mono k
theorem wF (T:Txt K mg):FO P w base 4 T.d6 (lq T.c10.a T.c12.a fun ρ=>∃n,ρ= .num n):=by
 have gE45:=hV (P:=P) (w:=w) (base:=base) T
 refine T.d6.F.rd wk fun cdv A0 outer s0 H vs Q E hr h=>?_
 obtain⟨A,tu,s,s',k,sc,t,ps,x,xs,l,ρ,names,roots,ρs,ho,rfl,M,c,hk,⟨n,rfl⟩,it,ix,ep,np,il,hb,hw,q⟩:=h
 refine⟨_,(gk (gK (ik (hG (PE.mono (cv 0)) T.c10.cl T.e45.me gE45 hr.m T.e45.b .nil je (f9 (cv 2) (f9 (hI (f9 gq (f9 (gC gG (cv 1) gj) (f9 (cv 2) gf)))) gf)))))),?_⟩
 obtain⟨ys,et,iy⟩:=rF it
 cases iy with
 |cons h1 iy=>
  cases h1
  cases hw
  exact⟨⟨_,_,M.o,jo gB⟩,_,et,gx (gv (j:=1) rfl) ⟨oR,fun a ha=>vm (v:= .num n k) M hb.le ha (.cons (.flat rfl) (.cons (.flat rfl) (.cons (.flat rfl) .nil))) (by rw[Vl.d];rfl) q⟩⟩
theorem yd {i:Nat} {x s:Str} {t:Addr} {ys:List V} {σ:St} {H:Hp} {T u:TS} {D:md} (hσ:σ[i]?=some (some (.ref t))) (et:H t=some (.tup (.str s::ys))) (e:decide (s=x)=false) (h:u D σ H):yV (hdT i x) T u D σ H:=yb hσ et e (jA h)
theorem AW {i:Nat} {x s:Str} {t:Addr} {ys:List V} {σ:St} {H:Hp} {T u:TS} {D:md} (hσ:σ[i]?=some (some (.ref t))) (et:H t=some (.tup (.str s::ys))) (e:decide (s=x)=true) (h:T D σ H):yV (hdT i x) T u D σ H:=yb hσ et e (jD h)
theorem Hz {H:Hp} {xs:List V} {a:Vl} (h:Ims H xs ([a].map Vl.d)):∃x,xs=[x]/\Im H x a.d:=by
 cases h with
 |cons h1 h=>cases h;exact⟨_,rfl,h1⟩
theorem ims2 {H:Hp} {xs:List V} {a b:Vl} (h:Ims H xs ([a,b].map Vl.d)):∃x y,xs=[x,y]/\Im H x a.d/\Im H y b.d:=by
 cases h with
 |cons h1 h=>
  cases h with
  |cons h2 h=>cases h;exact⟨_,_,rfl,h1,h2⟩
theorem pQ {H:Hp} {x:V} {a b:Dt} (h:Im H x (.tup [a,b])):∃t y z,x= .ref t/\H t=some (.tup [y,z])/\Im H y a/\Im H z b:=by
 cases h with
 |tup e i=>
  cases i with
  |cons h1 i=>
   cases i with
   |cons h2 i=>cases i;exact⟨_,_,_,rfl,e,h1,h2⟩
theorem mY {α:Type} {l:List α} {i:Int} {a:α} (h:atZ l i=some a):∃k:Nat,i=(k:Int)/\l[k]?=some a:=by
 cases i with
 |ofNat k=>exact⟨k,rfl,h⟩
 |negSucc k=>cases h
theorem AX {C:Addr} {H:Hp} {A:Mad} {tu:Nat} {s:Ms} {k b:Int} {a:Addr} {xs:List V} {ds:List Dt} {sc:Ev} {Q:VK} (M:Mc C H A tu s) (hb:Bd 9500000 s) (ha:H a=none) (i:Ims H xs ds) (hv:sc.d= .tup ds) (q:∀H',Mc C H' A tu (vg b sc k s)->FM A H H'->Q .non H'):AR C [.ref A.m,.int b,.ref a,.int k] (L2.Internal.upd H a (.tup xs)) Q E0:=
 have b1:=hb.2.2.2.1
 ⟨A,tu,s,b,k,_,sc,rfl,M.same (gm ha _),by rw[hv];exact lC ha i,by lia,fun H' M' F'=>q H' M' ((FM.same (gm ha _)).trans F')⟩
theorem Bd.come {v:Vl} {p k:Int} {s:Ms} (h:Bd 9000000 s):Bd 9400000 (nh v p k s):=by
 obtain⟨a,b,c,d,e⟩:=h
 exact⟨by show(_::s.me).length<=_;rw[az];lia,ck b (by decide),ck c (by decide),ck d (by decide),ck e (by decide)⟩
theorem yT (T:Txt K mg):FO P w base 4 T.d8 (lq T.c10.a T.c12.a fun ρ=>X2 fun n b=>ρ= .fn n b):=by
 have gE45:=hV (P:=P) (w:=w) (base:=base) T
 refine T.d8.F.rd yJ fun cdv A0 outer s0 H vs Q E hr h=>?_
 obtain⟨A,tu,s,s',k,sc,t,ps,x,xs,l,ρ,names,roots,ρs,ho,rfl,M,c,hk,⟨n,b,rfl⟩,it,ix,ep,np,il,hb,hw,q⟩:=h
 refine⟨_,(gk (gK (ik (hG (PE.mono (cv 0)) T.c10.cl T.e45.me gE45 hr.m T.e45.b .nil je (f9 (cv 2) (f9 (hI (f9 gq (f9 (hI (f9 (gC gG (cv 1) gj) (f9 (cv 3) gf))) (f9 (cv 2) gf)))) gf)))))),?_⟩
 obtain⟨ys,et,iy⟩:=rF it
 obtain⟨y,et⟩:∃y,H t=some (.tup [.str "fn",y,.int b]):=by
  cases iy with
  |cons h1 iy=>
   cases iy with
   |cons h2 iy=>cases h2;cases iy;exact⟨_,et⟩
 cases hw
 ·refine⟨⟨_,_,M.o,jo gB⟩,_,et,gx (gv (j:=2) rfl) ⟨ma,fun a1 h1=>⟨oR,fun a ha=>?_⟩⟩⟩
  have S1:=gm h1 (.tup [.int b,x])
  exact vm (v:= .fn b sc k) (M.same S1) hb.le ha (.cons (.flat rfl) (.cons (lC h1 (.cons (.flat rfl) (.cons ix .nil))) (.cons (.flat rfl) .nil))) (by rw[Vl.d];rfl) fun H' M' F'=>q H' M' ((FM.same S1).trans F')
theorem wG (T:Txt K mg):FO P w base 4 T.d10 (lq T.c10.a T.c12.a fun ρ=>X3 fun n a b=>ρ= .lt n a b):=by
 have gE46:=kS (P:=P) (w:=w) (base:=base) T
 refine T.d10.F.rd wm fun cdv A0 outer s0 H vs Q E hr h=>?_
 obtain⟨A,tu,s,s',k,sc,t,ps,x,xs,l,ρ,names,roots,ρs,ho,rfl,M,c,hk,⟨n,b0,b,rfl⟩,it,ix,ep,np,il,hb,hw,q⟩:=h
 refine⟨_,(gk (gK (ik (hG (PE.mono (cv 0)) T.c10.cl T.e46.me gE46 hr.m T.e46.b .nil je (f9 (gC gG (cv 1) gj) (f9 (hI (f9 (gC gG (cv 1) gj) (f9 (gC gS (cv 4) gj) (f9 (cv 3) gf)))) (f9 (cv 2) gf))))))),?_⟩
 obtain⟨ys,et,iy⟩:=rF it
 obtain⟨y,et⟩:∃y,H t=some (.tup [.str "let",y,.int b0,.int b]):=by
  cases iy with
  |cons h1 iy=>
   cases iy with
   |cons h2 iy=>
    cases h2
    cases iy with
    |cons h3 iy=>cases h3;cases iy;exact⟨_,et⟩
 cases hw with
 |@lt _ _ _ v=>
  obtain⟨y,rfl,iv⟩:=Hz il
  exact⟨⟨_,_,M.o,jo gB⟩,_,et,gx (gv (j:=3) rfl) ⟨_,et,gx (gv (j:=2) rfl) ⟨_,ep,gx (gv (j:=0) rfl) ⟨oR,fun a ha=>AX (sc:= .cons b0 v sc) M hb.le ha (.cons (.flat rfl) (.cons iv (.cons ix .nil))) (by rw[Ev.d];rfl) q⟩⟩⟩⟩
theorem wH (T:Txt K mg):FO P w base 4 T.d13 (lq T.c10.a T.c12.a fun ρ=>X2 fun n b=>ρ= .tag n b):=by
 have gE45:=hV (P:=P) (w:=w) (base:=base) T
 refine T.d13.F.rd wo fun cdv A0 outer s0 H vs Q E hr h=>?_
 obtain⟨A,tu,s,s',k,sc,t,ps,x,xs,l,ρ,names,roots,ρs,ho,rfl,M,c,hk,⟨n,b,rfl⟩,it,ix,ep,np,il,hb,hw,q⟩:=h
 refine⟨_,(gk (gK (ik (hG (PE.mono (cv 0)) T.c10.cl T.e45.me gE45 hr.m T.e45.b .nil je (f9 (cv 2) (f9 (hI (f9 gq (f9 (hI (f9 (gC gG (cv 1) gj) (f9 (gC gS (cv 4) gj) gf))) (f9 (cv 2) gf)))) gf)))))),?_⟩
 obtain⟨ys,et,iy⟩:=rF it
 obtain⟨y,et⟩:∃y,H t=some (.tup [.str "tag",.str n,y]):=by
  cases iy with
  |cons h1 iy=>
   cases h1
   cases iy with
   |cons h2 iy=>cases iy;exact⟨_,et⟩
 cases hw with
 |@tag _ _ v=>
  obtain⟨y,rfl,iv⟩:=Hz il
  refine⟨⟨_,_,M.o,jo gB⟩,_,et,gx (gv (j:=1) rfl) ⟨_,ep,gx (gv (j:=0) rfl) ⟨ma,fun a1 h1=>⟨oR,fun a ha=>?_⟩⟩⟩⟩
  have S1:=gm h1 (.tup [.str n,y])
  exact vm (v:= .tag n v k) (M.same S1) hb.le ha (.cons (.flat rfl) (.cons (lC h1 (.cons (.flat rfl) (.cons iv .nil))) (.cons (.flat rfl) .nil))) (by rw[Vl.d];rfl) fun H' M' F'=>q H' M' ((FM.same S1).trans F')
theorem vn (T:Txt K mg):FO P w base 4 T.d7 (lq T.c10.a T.c12.a fun ρ=>∃n,ρ= .name n):=by
 have gE45:=hV (P:=P) (w:=w) (base:=base) T
 have gD5:=ua (P:=P) (w:=w) (base:=base) T
 refine T.d7.F.rd pY fun cdv A0 outer s0 H vs Q E hr h=>?_
 obtain⟨A,tu,s,s',k,sc,t,ps,x,xs,l,ρ,names,roots,ρs,ho,rfl,M,c,hk,⟨n,rfl⟩,it,ix,ep,np,il,hb,hw,q⟩:=h
 refine⟨_,(gb (pS (i:=5) pY.nd (gC gS (gR T.c10.cl T.n10homes (cv 0)) (cv 2)))
  (gk (ic (gL jf (gC gG (cv 5) gj) gq)
   (gk (gK (ik (hG (PE.mono (cv 0)) T.c10.cl T.e45.me gE45 hr.m T.e45.b .nil je (f9 (cv 2) (f9 (gC gS (gR T.c10.cl T.n10defined (cv 0)) (gC gG (cv 5) gj)) gf))))))
   (gk (gK (ik (hG (PE.mono (cv 0)) T.c10.cl T.e45.me gE45 hr.m T.e45.b .nil je (f9 (cv 2) (f9 (pF T.d5 gD5 hr.m (f9 (cv 3) (f9 (gC gG (cv 5) gj) gf))) gf))))))))),?_⟩
 obtain⟨hs,eh,_,hh⟩:=c.h
 obtain⟨y,ey,iy⟩:=hh k _ hk
 cases hw with
 |@nameD _ h v e hd hv=>
  rw[e]at iy
  obtain⟨th,y1,y2,rfl,eth,i1,i2⟩:=pQ (show Im H y (.tup [.flat (.str h.1),.flat (.int h.2)])from iy)
  cases i1
  cases i2
  refine⟨_,⟨_,_,M.o,vk⟩,_,eh,gx (gv ey) ?_⟩
  dsimp only[ia]
  obtain⟨j,ej,hj⟩:=mY hv
  obtain⟨zs,ez,iz⟩:=M.de
  have lz:=iz.length
  rw[aC]at lz
  have hjl:=(au.mp hj).1
  obtain⟨d,hd',im⟩:=lW iz (bu (show j<zs.length by lia))
  rw[aK,hj]at hd'
  cases hd'
  refine AW rfl eth (ir hd) ?_
  exact⟨⟨_,_,M.o,jo gB⟩,_,⟨_,_,M.o,n9⟩,_,eth,gx (gv (j:=1) rfl) ⟨_,ez,gx (by rw[ej];exact gv (bu (show j<zs.length by lia))) (rG M hb.le im q)⟩⟩
 |@nameH _ h v e hd hv=>
  rw[e]at iy
  obtain⟨th,y1,y2,rfl,eth,i1,i2⟩:=pQ (show Im H y (.tup [.flat (.str h.1),.flat (.int h.2)])from iy)
  cases i1
  cases i2
  refine⟨_,⟨_,_,M.o,vk⟩,_,eh,gx (gv ey) ?_⟩
  dsimp only[ia]
  refine yd rfl eth (iI hd) ?_
  exact⟨⟨_,_,M.o,jo gB⟩,_,eth,gx (gv (j:=1) rfl) ⟨sc,h.2,v,x,rfl,ix,hv,fun y iy=>rG M hb.le iy q⟩⟩
theorem Bd.come2 {v:Vl} {p k:Int} {s:Ms} (h:Bd 9400000 s):Bd 9450000 (nh v p k s):=by
 obtain⟨a,b,c,d,e⟩:=h
 exact⟨by show(_::s.me).length<=_;rw[az];lia,ck b (by decide),ck c (by decide),ck d (by decide),ck e (by decide)⟩
theorem G1 {H:Hp} {x:V} {n p:Int} (h:Im H x (Vl.num n p).d):∃t,x= .ref t/\H t=some (.tup [.str "num",.int n,.int p]):=by
 obtain⟨t,y,rfl,e,i⟩:=oQ h
 cases(show Im H y (kD n)from i)
 exact⟨t,rfl,e⟩
theorem G2 {H:Hp} {x:V} {l:Vlr} {p:Int} (h:Im H x (Vl.row l p).d):∃t u zs,x= .ref t/\H t=some (.tup [.str "row",.ref u,.int p])/\H u=some (.tup zs)/\Ims H zs ((E8 l).map Vl.d):=by
 obtain⟨t,y,rfl,e,i⟩:=oQ h
 have i:Im H y (.tup l.ds):=i
 rw[EK]at i
 cases i with
 |tup e2 i2=>exact⟨t,_,_,rfl,e,e2,i2⟩
theorem Dh {H:Hp} {x:V} {w:Str} {v:Vl} {p:Int} (h:Im H x (Vl.rcd (.cons w v .nil) p).d):∃t u f z,x= .ref t/\H t=some (.tup [.str "rec",.ref u,.int p])/\H u=some (.tup [.ref f])/\H f=some (.tup [.str w,z])/\Im H z v.d:=by
 obtain⟨t,y,rfl,e,i⟩:=oQ h
 have i:Im H y (.tup (Vls.cons w v .nil).ds):=i
 rw[Vls.ds,Vls.ds]at i
 cases i with
 |tup e2 i2=>
  cases i2 with
  |cons h1 i2=>
   cases i2
   obtain⟨f,y1,y2,rfl,ef,j1,j2⟩:=pQ h1
   cases j1
   exact⟨t,_,f,_,rfl,e,e2,ef,j2⟩
theorem EO {K:PySem.W.Frag} {b l D f:Addr} {Q:VK} {H1:Hp} {y:V} {w:Str} {r:List V} {u0 v0:Option V} (eb:H1 b=some (.tup [.ref f])) (ef:H1 f=some (.tup (.str w::r))) (el:H1 l=some (.lst [y])) (hD:H1 D=none)
  (hq:∀H' t,gP H1 H'->H' D=some (.lst [.ref t])->H' t=some (.tup [.str w,y])->Q (.ref D) H'):LcG (Itzm K b l) (E4 K 2 (qD (ia 0) (qD (ia 1) E3))) (DC (iX (tOp CV (cV 0) (tC (.int 0))) (iX (cV 1) se))) Q [u0,v0] H1 D:=by
 refine⟨fun k m σ' H2=>Y4 (m=1-k) ((∃u v,σ'=[u,v])) (gP H1 H2) (((k=0/\H2 D=some (.lst []))\/(k=1/\∃t,H2 D=some (.lst [.ref t])/\H2 t=some (.tup [.str w,y])))),⟨1,rfl,⟨_,_,rfl⟩,gm hD _,.inl ⟨rfl,gh⟩⟩,?_⟩
 rintro k m σ' H2 ⟨rfl,⟨u,v,rfl⟩,S,⟨rfl,ez⟩|⟨rfl,t,ez,et⟩⟩
 ·refine .inr ⟨⟨_,_,_,_,SqT.of (S _ _ eb),SqL.of (S _ _ el),rfl,rfl⟩,?_⟩
  rintro z H3 ⟨T,x,y',rfl,hT,rfl,hx,hy⟩
  cases hx _ (SqT.of (S _ _ eb))
  cases hy _ (SqL.of (S _ _ el))
  have S3:=gm hT (.tup [.ref f,y])
  refine⟨T,_,rfl,SqT.of gh,rfl,_,_,rfl,_,_,rfl,rfl,?_⟩
  refine⟨_,S3 _ _ (S _ _ ef),gx (gv (j:=0) rfl) ⟨ma,fun t ht=>?_⟩⟩
  have S4:=gm ht (.tup [.str w,y])
  have e4:=(S3.trans S4) _ _ ez
  refine⟨[],e4,by show 0<sizeLine;decide,0,by decide,rfl,⟨_,_,rfl⟩,?_,.inr ⟨rfl,t,gh,?_⟩⟩
  ·intro q u e
   rw[gw (gr e hD)]
   exact S4 _ _ (S3 _ _ (S _ _ e))
  ·rw[gw (ko (gh (H:=upd H2 T (.tup [.ref f,y])) (a:=t) (o:= .tup [.str w,y])) e4 (fun z=>nomatch z))]
   exact gh
 ·exact .inl ⟨⟨_,_,SqT.of (S _ _ eb),SqL.of (S _ _ el),rfl⟩,hq H2 t S ez et⟩
theorem wI (T:Txt K mg):FO P w base 4 T.d14 (lq T.c10.a T.c12.a fun ρ=>∃ks,ρ= .row ks):=by
 have gE45:=hV (P:=P) (w:=w) (base:=base) T
 refine T.d14.F.rd wq fun cdv A0 outer s0 H vs Q E hr h=>?_
 obtain⟨A,tu,s,s',k,sc,t,ps,x,xs,l,ρ,names,roots,ρs,ho,rfl,M,c,hk,⟨ks,rfl⟩,it,ix,ep,np,il,hb,hw,q⟩:=h
 refine⟨_,(gk (gK (ik (hG (PE.mono (cv 0)) T.c10.cl T.e45.me gE45 hr.m T.e45.b .nil je (f9 (cv 2) (f9 (hI (f9 gq (f9 (ip iQ rfl T.z_tuple jZ (f9 (cv 4) gf)) (f9 (cv 2) gf)))) gf)))))),?_⟩
 cases hw
 refine⟨⟨_,_,M.o,jo gB⟩,ps,xs,rfl,.inl ⟨SqL.of ep,fun a1 h1=>⟨oR,fun a ha=>?_⟩⟩⟩
 have S1:=gm h1 (.tup xs)
 exact vm (v:= .row (GS l) k) (M.same S1) hb.le ha (.cons (.flat rfl) (.cons (lC h1 il) (.cons (.flat rfl) .nil))) (by rw[Vl.d,EK,GU];rfl) fun H' M' F'=>q H' M' ((FM.same S1).trans F')
theorem vo (T:Txt K mg):FO P w base 4 T.d9 (lq T.c10.a T.c12.a fun ρ=>∃ks,ρ= .op "call" ks):=by
 have gE48:=kP (P:=P) (w:=w) (base:=base) T
 have gE46:=kS (P:=P) (w:=w) (base:=base) T
 refine T.d9.F.rd pZ fun cdv A0 outer s0 H vs Q E hr h=>?_
 obtain⟨A,tu,s,s',k,sc,t,ps,x,xs,l,ρ,names,roots,ρs,ho,rfl,M,c,hk,⟨ks,rfl⟩,it,ix,ep,np,il,hb,hw,q⟩:=h
 refine⟨_,(gk (ic (kr (ik (hG (PE.mono (cv 0)) T.c10.cl T.e48.me gE48 hr.m T.e48.b .nil je (f9 gq (f9 (gC gS (cv 4) gj) (f9 (cv 2) (f9 gj gf)))))))
   (gb (pS (i:=5) pZ.nd (gC gG (gC gS (cv 4) gj) gj))
   (gk (gK (ik (hG (PE.mono (cv 0)) T.c10.cl T.e46.me gE46 hr.m T.e46.b .nil je (f9 (gC gG (cv 5) gj) (f9 (hI (f9 (gC gG (cv 5) gj) (f9 (gC gS (cv 4) gj) (f9 (gC gG (cv 5) gj) gf)))) (f9 (cv 2) gf))))))))
   gE)),?_⟩
 cases hw with
 |@call _ b pf e a=>
  obtain⟨x0,x1,rfl,i0,i1⟩:=ims2 il
  have b1:=hb.1
  refine⟨⟨_,_,M.o,jo gB⟩,_,ep,gx (gv (j:=0) rfl) ⟨A,tu,s,x0,.fn b e pf,k,0,rfl,M,i0,by lia,fun H1 M1 F1=>?_⟩⟩
  have ep1:=F1.get ep np
  have i01:=i0.mono (M.tk F1)
  have i11:=i1.mono (M.tk F1)
  obtain⟨t0,y,rfl,et,iy⟩:=oQ i01
  obtain⟨t1,y1,y2,rfl,et1,j1,j2⟩:=pQ (show Im H1 y (.tup [kD b,e.d])from iy)
  cases j1
  refine⟨_,rfl,jD ⟨_,ep1,gx (gv (j:=0) rfl) ⟨_,et,gx (gv (j:=1) rfl) ?_⟩⟩⟩
  exact⟨⟨_,_,M1.o,jo gB⟩,_,et1,gx (gv (j:=0) rfl) ⟨_,et1,gx (gv (j:=0) rfl) ⟨_,ep1,gx (gv (j:=1) rfl) ⟨_,et1,gx (gv (j:=1) rfl) ⟨oR,fun a' ha=>AX (sc:= .cons b a e) M1 hb.come.le ha (.cons (.flat rfl) (.cons i11 (.cons j2 .nil))) (by rw[Ev.d];rfl) fun H' M' F'=>q H' M' (F1.trans F')⟩⟩⟩⟩⟩
theorem wJ (T:Txt K mg):FO P w base 4 T.d11 (lq T.c10.a T.c12.a fun ρ=>∃ks,ρ= .rcd ks):=by
 have gE45:=hV (P:=P) (w:=w) (base:=base) T
 refine T.d11.F.rd rb fun cdv A0 outer s0 H vs Q E hr h=>?_
 obtain⟨A,tu,s,s',k,sc,t,ps,x,xs,l,ρ,names,roots,ρs,ho,rfl,M,c,hk,⟨ks,rfl⟩,it,ix,ep,np,il,hb,hw,q⟩:=h
 refine⟨_,(gb (Aq (j:=5) (g:=E4 K 2 (qD (ia 0) (qD (ia 1) E3))) rfl (FY (x:="field") (y:="value") rfl gB gB rfl (by decide) rfl) (D0 rfl T.z_zip (f9 (gC gG (cv 1) gj) (f9 (cv 4) gf))) (pgP rfl gB rfl rfl) (fun _ _ _ _ _=>(hI (f9 (gC gG (cv 0) gj) (f9 (cv 1) gf)))) rb.nd rfl (.inl rfl))
  (gk (gK (ik (hG (PE.mono (cv 0)) T.c10.cl T.e45.me gE45 hr.m T.e45.b .nil je (f9 (cv 2) (f9 (hI (f9 gq (f9 (ip iQ rfl T.z_tuple jZ (f9 (cv 5) gf)) (f9 (cv 2) gf)))) gf))))))),?_⟩
 cases hw with
 |@rcd w0 k0 v=>
  obtain⟨y,rfl,iv⟩:=Hz il
  obtain⟨ys,et,iy⟩:=rF it
  obtain⟨u,f,r,et,eu,ef⟩:∃u f r,H t=some (.tup [.str "rec",.ref u])/\H u=some (.tup [.ref f])/\H f=some (.tup (.str w0::r)):=by
   cases iy with
   |cons h1 iy=>
    cases iy
    cases h1 with
    |tup e2 i2=>
     cases i2 with
     |cons h2 i2=>
      cases i2
      cases h2 with
      |tup e3 i3=>
       cases i3 with
       |cons h3 i3=>cases h3;exact⟨_,_,_,et,e2,e3⟩
  refine⟨_,et,gx (gv (j:=1) rfl) ⟨u,ps,rfl,⟨_,SqT.of eu⟩,⟨_,SqL.of ep⟩,fun D hD=>?_⟩⟩
  refine EO eu ef ep hD fun H2 t2 S2 eD e2=>?_
  dsimp only[ia]
  have M2:=M.same S2
  refine⟨⟨_,_,M2.o,jo gB⟩,D,_,rfl,.inl ⟨SqL.of eD,fun a1 h1=>⟨oR,fun a ha=>?_⟩⟩⟩
  have S1:=gm h1 (.tup [.ref t2])
  exact vm (v:= .rcd (.cons w0 v .nil) k) (M2.same S1) hb.le ha (.cons (.flat rfl) (.cons (lC h1 (.cons (.tup e2 (.cons (.flat rfl) (.cons (iv.mono (gP.tk S2)) .nil))) .nil)) (.cons (.flat rfl) .nil))) (by rw[Vl.d,Vls.ds,Vls.ds];rfl) fun H' M' F'=>q H' M' ((FM.same (S2.trans S1)).trans F')
theorem wK (T:Txt K mg):FO P w base 4 T.d12 (lq T.c10.a T.c12.a fun ρ=>X2 fun k0 w0=>ρ= .get k0 w0):=by
 have gE45:=hV (P:=P) (w:=w) (base:=base) T
 have gE47:=l6 (P:=P) (w:=w) (base:=base) T
 refine T.d12.F.rd rg fun cdv A0 outer s0 H vs Q E hr h=>?_
 have hu:=vR hr
 obtain⟨A,tu,s,s',k,sc,t,ps,x,xs,l,ρ,names,roots,ρs,ho,rfl,M,c,hk,⟨k0,w0,rfl⟩,it,ix,ep,np,il,hb,hw,q⟩:=h
 refine⟨_,(gb (pS (i:=5) rg.nd (qj (gL jf (gC gG (gC gS (cv 4) gj) gj) gq) (ip (yw rfl) rfl T.z_dict zI (f9 (gC gG (gC gS (cv 4) gj) gj) gf)) oy))
  (gk (ic (kr (ik (hG (PE.mono (cv 0)) T.c10.cl T.e47.me gE47 hr.m T.e47.b .nil je (f9 (gC gS (cv 4) gj) (f9 (cv 2) (f9 gj (f9 (Fi (CA hu (gC gG (cv 1) gj) (cv 5)) rfl) gf)))))))
   (gk (gK (ik (hG (PE.mono (cv 0)) T.c10.cl T.e45.me gE45 hr.m T.e45.b .nil je (f9 (cv 2) (f9 (vN hu (cv 5) (gC gG (cv 1) gj)) gf))))))
   gE))),?_⟩
 cases hw with
 |@get _ _ v pr=>
  obtain⟨y,rfl,iv⟩:=Hz il
  obtain⟨ys,et,iy⟩:=rF it
  obtain⟨y1,et⟩:∃y1,H t=some (.tup [.str "get",y1,.str w0]):=by
   cases iy with
   |cons h1 iy=>
    cases iy with
    |cons h2 iy=>cases h2;cases iy;exact⟨_,et⟩
  obtain⟨t0,u,f,z,rfl,e0,eu,ef,iz⟩:=Dh iv
  refine⟨_,ep,gx (gv (j:=0) rfl) ⟨_,e0,gx (gv (j:=0) rfl) ?_⟩⟩
  dsimp only[tC,cEq,onB]
  rw[ir rfl]
  refine jD ⟨_,ep,gx (gv (j:=0) rfl) ⟨_,e0,gx (gv (j:=1) rfl) ⟨u,_,[(w0,z)],rfl,eu,.cons ef .nil,(by show 1<=1000;decide),fun d hd=>?_⟩⟩⟩
  have S2:=gm hd (.dK (km [] ([(w0,z)].map kf)))
  have ed:(L2.Internal.upd H d (.dK (km [] ([(w0,z)].map kf)))) d=some (.dK (km [] ([(w0,z)].map kf))):=gh
  have g0:jC (km [] ([(w0,z)].map kf)) (Sum.inr w0)=some z:=by
   rw[nZ _ _ _ (by simp),show List.map kf [(w0,z)]=[kf (w0,z)]from rfl,jd (show(kf (w0,z)).1=Sum.inr w0 from rfl)]
   rfl
  dsimp only[ia]
  generalize L2.Internal.upd H d (.dK (km [] ([(w0,z)].map kf)))=H2 at S2 ed⊢
  have M2:=M.same S2
  have g:=xm.k (k:=(Sum.inr w0:Key)) ed
  rw[g0]at g
  have b1:=hb.1
  have nd:=M.new hd
  have ep2:=S2 _ _ ep
  refine⟨⟨_,_,M2.o,jo gB⟩,_,ep2,gx (gv (j:=0) rfl) ⟨_,S2 _ _ et,gx (gv (j:=2) rfl) ⟨d,_,rfl,g,A,tu,s,_,_,k,0,rfl,M2,iv.mono (gP.tk S2),by lia,fun H3 M3 F3=>⟨_,rfl,jD ?_⟩⟩⟩⟩
  have g3:=xm.k (k:=(Sum.inr w0:Key)) (F3.get ed nd)
  rw[g0]at g3
  exact⟨⟨_,_,M3.o,jo gB⟩,_,M2.tk F3 _ _ (S2 _ _ et),gx (gv (j:=2) rfl) ⟨d,_,rfl,g3,rG M3 hb.come.le ((iz.mono (gP.tk S2)).mono (M2.tk F3)) fun H' M' F'=>q H' M' (((FM.same S2).trans F3).trans F')⟩⟩
theorem yU (T:Txt K mg):FO P w base 4 T.d15 (lq T.c10.a T.c12.a fun ρ=>∃ks,ρ= .op "at" ks):=by
 have gE45:=hV (P:=P) (w:=w) (base:=base) T
 have gE48:=kP (P:=P) (w:=w) (base:=base) T
 refine T.d15.F.rd pK fun cdv A0 outer s0 H vs Q E hr h=>?_
 obtain⟨A,tu,s,s',k,sc,t,ps,x,xs,l,ρ,names,roots,ρs,ho,rfl,M,c,hk,⟨ks,rfl⟩,it,ix,ep,np,il,hb,hw,q⟩:=h
 refine⟨_,(gk (ic (PW.pt (Ct (kr (ik (hG (PE.mono (cv 0)) T.c10.cl T.e48.me gE48 hr.m T.e48.b .nil je (f9 gq (f9 (gC gS (cv 4) gj) (f9 (cv 2) (f9 gj gf))))))) (zc (kr (ik (hG (PE.mono (cv 0)) T.c10.cl T.e48.me gE48 hr.m T.e48.b .nil je (f9 gq (f9 (gC gS (cv 4) gj) (f9 (cv 2) (f9 gj gf))))))))))
   (gb (pS (i:=5) pK.nd (gC gG (gC gS (cv 4) gj) gj))
   (gb (pS (i:=6) pK.nd (gC gG (gC gS (cv 4) gj) gj))
   (gk (gK (ik (hG (PE.mono (cv 0)) T.c10.cl T.e45.me gE45 hr.m T.e45.b .nil je (f9 (cv 2) (f9 (qj (ql vH HP gj (cv 6) (gY iG rfl T.z_len lY (f9 (cv 5) gf))) (gC gG (cv 5) (cv 6)) (gC gS (cv 4) gj)) gf))))))))
   gE)),?_⟩
 cases hw with
 |@«at» _ lr pr n pn x2 v hv=>
  obtain⟨y0,y1,y2,rfl,i0,i1,i2⟩:∃y0 y1 y2,xs=[y0,y1,y2]/\Im H y0 (Vl.row lr pr).d/\Im H y1 (Vl.num n pn).d/\Im H y2 x2.d:=by
   cases il with
   |cons h1 il=>
    cases il with
    |cons h2 il=>
     cases il with
     |cons h3 il=>cases il;exact⟨_,_,_,rfl,h1,h2,h3⟩
  have b1:=hb.1
  obtain⟨j,rfl,hj⟩:=mY hv
  refine⟨⟨_,_,M.o,jo gB⟩,_,ep,gx (gv (j:=0) rfl) ⟨A,tu,s,y0,.row lr pr,k,0,rfl,M,i0,by lia,fun H1 M1 F1=>?_⟩⟩
  have ep1:=F1.get ep np
  have b2:=(hb.come (v:= .row lr pr) (p:=k) (k:=0)).1
  refine⟨_,rfl,jD ⟨⟨_,_,M1.o,jo gB⟩,_,ep1,gx (gv (j:=1) rfl) ⟨A,tu,_,y1,.num (j:Int) pn,k,1,rfl,M1,i1.mono (M.tk F1),by lia,fun H2 M2 F2=>?_⟩⟩⟩
  have ep2:=F2.get ep1 np
  obtain⟨t0,u,zs,rfl,et0,eu,iz⟩:=G2 ((i0.mono (M.tk F1)).mono (M1.tk F2))
  obtain⟨t1,rfl,et1⟩:=G1 ((i1.mono (M.tk F1)).mono (M1.tk F2))
  have lz:=iz.length
  rw[aC]at lz
  have hjl:=(au.mp hj).1
  obtain⟨d,hd',im⟩:=lW iz (bu (show j<zs.length by lia))
  rw[aK,hj]at hd'
  cases hd'
  refine⟨_,rfl,jD ⟨_,ep2,gx (gv (j:=0) rfl) ⟨_,et0,gx (gv (j:=1) rfl) ?_⟩⟩⟩
  dsimp only[ia]
  refine⟨_,ep2,gx (gv (j:=1) rfl) ⟨_,et1,gx (gv (j:=1) rfl) ?_⟩⟩
  dsimp only[ia]
  exact⟨⟨_,_,M2.o,jo gB⟩,0,(j:Int),rfl,rfl,true,congrArg V.bl (ir (Int.natCast_nonneg j)),jD ⟨u,zs,rfl,.inr (SqT.of eu),(j:Int),(zs.length:Int),rfl,rfl,true,congrArg V.bl (ir (by lia)),jD ⟨_,eu,gx (gv (bu (show j<zs.length by lia))) (rG M2 hb.come.come2.le im fun H' M' F'=>q H' M' ((F1.trans F2).trans F'))⟩⟩⟩
inductive WkS (T:Txt K mg):Addr->Sp->Prop
 |num:WkS T T.d6.a (lq T.c10.a T.c12.a fun ρ=>∃n,ρ= .num n)
 |name:WkS T T.d7.a (lq T.c10.a T.c12.a fun ρ=>∃n,ρ= .name n)
 |fn:WkS T T.d8.a (lq T.c10.a T.c12.a fun ρ=>X2 fun n b=>ρ= .fn n b)
 |call:WkS T T.d9.a (lq T.c10.a T.c12.a fun ρ=>∃ks,ρ= .op "call" ks)
 |lt:WkS T T.d10.a (lq T.c10.a T.c12.a fun ρ=>X3 fun n a b=>ρ= .lt n a b)
 |tag:WkS T T.d13.a (lq T.c10.a T.c12.a fun ρ=>X2 fun n b=>ρ= .tag n b)
 |rcd:WkS T T.d11.a (lq T.c10.a T.c12.a fun ρ=>∃ks,ρ= .rcd ks)
 |get:WkS T T.d12.a (lq T.c10.a T.c12.a fun ρ=>X2 fun k0 w0=>ρ= .get k0 w0)
 |att:WkS T T.d15.a (lq T.c10.a T.c12.a fun ρ=>∃ks,ρ= .op "at" ks)
 |row:WkS T T.d14.a (lq T.c10.a T.c12.a fun ρ=>∃ks,ρ= .row ks)
theorem WkS.at {T:Txt K mg} {X:Cx} (e1:X.prog=P) (e2:X.w=w) (e3:X.K=K) (e4:X.mg=mg) (e5:X.base=base) {f:Addr} {sp:Sp} (h:WkS T f sp):JR X CX0 4 f sp:=by
 subst e1 e2 e3 e4 e5
 cases h with
 |num=>exact⟨_,_,wF T,T.d6.k,T.d6.b⟩
 |name=>exact⟨_,_,vn T,T.d7.k,T.d7.b⟩
 |fn=>exact⟨_,_,yT T,T.d8.k,T.d8.b⟩
 |call=>exact⟨_,_,vo T,T.d9.k,T.d9.b⟩
 |lt=>exact⟨_,_,wG T,T.d10.k,T.d10.b⟩
 |tag=>exact⟨_,_,wH T,T.d13.k,T.d13.b⟩
 |rcd=>exact⟨_,_,wJ T,T.d11.k,T.d11.b⟩
 |get=>exact⟨_,_,wK T,T.d12.k,T.d12.b⟩
 |att=>exact⟨_,_,yU T,T.d15.k,T.d15.b⟩
 |row=>exact⟨_,_,wI T,T.d14.k,T.d14.b⟩
structure Wk (P:Program) (w:World) (T:Txt K mg) where
 a:Addr
 m:mg "WORKERS"=some (.ref a)
 kvs:List (Key×V)
 kd:zQ P w K a kvs
 yes:∀{hm p sc s ρ l s'},Wm hm p sc s ρ l s'->∃f U,jC kvs (Sum.inr ρ.s)=some (.ref f)/\WkS T f (lq T.c10.a T.c12.a U)/\U ρ
inductive XWp (C CP:Addr) (vs:List V) (H:Hp) (Q:VK):Prop
 |mk (A:Mad) (tu:Nat) (s s':Ms) (k:Nat) (sc:Ev) (x:V) (ρ:Ro) (l rd:List Vl) (names:List Str) (roots:List Nat) (ρs:List Ro) (ho:Nat->Option Hm) (e:vs=[.ref A.m,.int (k:Int),x]) (M:Mc C H A tu s) (c:Ctx CP H A names roots ρs ho) (hk:ρs[k]?=some ρ) (ix:Im H x sc.d) (hb:Bd 9000000 s) (ht:tkR (n6 ρ).length s.rd []=some (l,rd)) (hw:Wm (ho k) k sc {s with rd:=rd} ρ l s') (q:∀H',Mc C H' A tu s'->FM A H H'->Q .non H')
def IW (C CP:Addr):Sp:=fun vs H Q _=>XWp C CP vs H Q
theorem mL (T:Txt K mg) (W:Wk P w T):MO P w base mg 8 T.e43 (IW T.c10.a T.c12.a):=by
 have gD4:=ny (P:=P) (w:=w) (base:=base) T
 have gE44:=mK (P:=P) (w:=w) (base:=base) T
 refine T.e43.F.rd kg fun cdv A0 outer s0 H vs Q E hr h=>?_
 obtain⟨A,tu,s,s',k,sc,x,ρ,l,rd,names,roots,ρs,ho,rfl,M,c,hk,ix,hb,ht,hw,q⟩:=h
 refine⟨_,(gb (pS (i:=3) kg.nd (gC gS (gR T.c12.cl T.n12rows (gR T.c10.cl T.n10program (cv 0))) (cv 1)))
  (gk (gK (BW (fun f sp (h:WkS T f sp)=>h.at rfl rfl rfl rfl rfl) hr.m je (zS W.kd (kj rfl W.m) (gC gG (cv 3) gj)) (f9 (cv 0) (f9 (cv 3) (f9 (cv 1) (f9 (cv 2) (f9 (ik (hG (PE.mono (cv 0)) T.c10.cl T.e44.me gE44 hr.m T.e44.b .nil je (f9 (gY iG rfl T.z_len lY (f9 (pF T.d4 gD4 hr.m (f9 (cv 3) gf)) gf)) gf))) gf))))))))),?_⟩
 obtain⟨n,r,w,dx,xs,pr,n1,n2,n3,n4⟩:=c.p
 obtain⟨tr,ys,hxt,etr,_,him⟩:=tY pr.i hk
 have rok:=c.ok ρ (aM hk)
 obtain⟨f,U,hv,hS,hU⟩:=W.yes hw
 refine⟨_,⟨_,_,M.o,oa⟩,_,⟨_,_,pr.o,tX _ _ _⟩,_,pr.w,gx (gv hxt) ?_⟩
 dsimp only[ia]
 refine⟨_,etr,gx (gv (j:=0) rfl) ⟨Sum.inr ρ.s,_,rfl,rfl,hv,f,_,rfl,hS,?_⟩⟩
 refine⟨⟨_,_,M.o,jo gB⟩,ρ,rok,tr,rfl,him,fun lp H1 S1 hlp e1=>?_⟩
 have M1:=M.same S1
 have fl:(n6 ρ).length<=101:=wD rok
 refine⟨lp,_,rfl,.inl (SqL.of e1),A,tu,s,(n6 ρ).length,l,rd,?_,M1,by lia,ht,fun H2 ps zs h0 ep iz M2 F2=>?_⟩
 ·rw[aC];rfl
 have c2:=(c.fm M (FM.same S1)).fm M1 F2
 have k2:TK H H2:=fun a xs e=>M1.tk F2 _ _ (gP.tk S1 _ _ e)
 have F02:=(FM.same (A:=A) S1).trans F2
 obtain⟨t1,_,t3⟩:=qv ht
 refine⟨A,tu,_,s',k,sc,tr,ps,x,zs,l,ρ,names,roots,ρs,ho,rfl,M2,c2,hk,hU,him.mono k2,ix.mono k2,ep,M1.new h0,iz,?_,hw,fun H' M' F'=>q H' M' (F02.trans F')⟩
 obtain⟨b1,b2,b3,b4,b5⟩:=hb
 exact⟨b1,b2,b3,b4,by show rd.length<=_;rw[t3,aU];lia⟩
structure Gw (d:Nat) (s s':Ms):Prop where
 me:s'.me.length<=s.me.length+ 2
 ha:s'.ha.length<=s.ha.length+ 1
 de:s'.de=s.de
 st:s'.st.length<=s.st.length+ 200
 rd:s'.rd.length<=s.rd.length+ 1
 bg:s'.bg=s.bg+d
theorem AY {p:Int} {v:Vl} {s s0:Ms} (h1:s.me.length<=s0.me.length+ 2) (h2:s.ha=s0.ha) (h3:s.de=s0.de) (h4:s.st=s0.st) (h5:s.rd=s0.rd) (h6:s.bg=s0.bg):Gw 0 s0 (oS p v s):=⟨h1,by show(_::s.ha).length<=_;rw[az,h2];exact cq _,h3,by show s.st.length<=_;rw[h4];lia,by show(v::s.rd).length<=_;rw[az,h5];lia,h6⟩
theorem AZ {p b:Int} {sc:Ev} {s s0:Ms} (h1:s.me.length<=s0.me.length+ 2) (h2:s.ha=s0.ha) (h3:s.de=s0.de) (h4:s.st=s0.st) (h5:s.rd=s0.rd) (h6:s.bg=s0.bg):Gw 0 s0 (vg b sc p s):=⟨h1,by show s.ha.length<=_;rw[h2];lia,h3,by show(_::_::s.st).length<=_;rw[az,az,h4];lia,by show s.rd.length<=_;rw[h5];lia,h6⟩
theorem ub {p k:Int} {v:Vl} {s:Ms}:(nh v p k s).me.length=s.me.length+ 1:=by rfl
theorem ER {p k q:Int} {v u:Vl} {s:Ms}:Gw 0 s (oS q u (nh v p k s)):=AY (by rw[ub];lia) rfl rfl rfl rfl rfl
theorem Ci {p k q b:Int} {v:Vl} {sc:Ev} {s:Ms}:Gw 0 s (vg b sc q (nh v p k s)):=AZ (by rw[ub];lia) rfl rfl rfl rfl rfl
theorem ES {hm:Option Hm} {p:Int} {sc:Ev} {ρ:Ro} {l:List Vl} {s s':Ms} (h:Wm hm p sc s ρ l s'):Gw 0 s s':=by
 have fi:∀{v:Vl},Gw 0 s (oS p v s):=AY (by lia) rfl rfl rfl rfl rfl
 cases h with
 |lt=>exact AZ (by lia) rfl rfl rfl rfl rfl
 |get=>exact ER
 |call=>exact Ci
 |«at» hv=>exact AY (by rw[ub,ub];lia) rfl rfl rfl rfl rfl
 |_=>exact fi
inductive Cj (ρs:List Ro) (ho:Nat->Option Hm) (tu:Nat):Nat->Ms->Ms->Prop
 |stop {s:Ms} (h:s.en≠none\/s.st=[]):Cj ρs ho tu 0 s s
 |step {n:Nat} {s s' s2:Ms} (h0:s.en=none) (h:vi ρs ho tu s=some s') (r:Cj ρs ho tu n s' s2):Cj ρs ho tu (n+ 1) s s2
theorem A1 {ρs:List Ro} {ho:Nat->Option Hm} {tu:Nat} {s s':Ms} (ok:∀ρ∈ρs,ρ.ok) (h:vi ρs ho tu s=some s'):Gw 0 s s'\/AN s.st=true/\Gw 1 s s':=by
 unfold vi at h
 split at h
 ·cases cH.inj h
  refine .inl ⟨by show s.me.length<=_;lia,by show s.ha.length<=_;lia,rfl,by show s.st.tail.length<=_;rw[List.length_tail];lia,by show s.rd.length<=_;lia,rfl⟩
 unfold pP at h
 cases hs:s.st with
 |nil=>rw[hs]at h;cases h
 |cons t r=>
  rw[hs]at h
  cases t with
  |beg p sc=>
   have h:(match atZ ρs p with|some ρ=>some {s with bg:=s.bg+ 1,st:=(n6 ρ).map (fun k=>Stp.beg k sc)++ .par p sc::r}|none=>none)=some s':=h
   cases e:atZ ρs p with
   |none=>rw[e]at h;cases h
   |some ρ=>
    rw[e]at h
    obtain⟨k,rfl,hk⟩:=mY e
    cases cH.inj h
    have fl:=wD (ok ρ (aM hk))
    refine .inr ⟨rfl,by show s.me.length<=_;lia,by show s.ha.length<=_;lia,rfl,by show(List.map _ _++_::r).length<=_;rw[aN,aC,az,hs,az];lia,by show s.rd.length<=_;lia,rfl⟩
  |par p sc=>
   have h:(match atZ ρs p with|some ρ=>(match tkR (n6 ρ).length s.rd []with|some (l,rd)=>vh (ho p.toNat) p sc ρ l {s with st:=r,rd:=rd}|none=>none)|none=>none)=some s':=h
   cases e:atZ ρs p with
   |none=>rw[e]at h;cases h
   |some ρ=>
    rw[e]at h
    obtain⟨k,rfl,hk⟩:=mY e
    have h:(match tkR (n6 ρ).length s.rd []with|some (l,rd)=>vh (ho (k:Int).toNat) k sc ρ l {s with st:=r,rd:=rd}|none=>none)=some s':=h
    cases et:tkR (n6 ρ).length s.rd []with
    |none=>rw[et]at h;cases h
    |some z=>
     obtain⟨l,rd⟩:=z
     rw[et]at h
     have g:=ES (Df (show vh _ _ _ _ _ _=_ from h))
     obtain⟨_,_,t3⟩:=qv et
     have g4:s'.st.length<=r.length+ 200:=g.st
     have g5:s'.rd.length<=rd.length+ 1:=g.rd
     rw[t3,aU]at g5
     exact .inl ⟨g.me,g.ha,g.de,by rw[hs,az];lia,by lia,g.bg⟩
  |hand p=>
   cases hr:s.rd with
   |nil=>rw[hr]at h;cases h
   |cons v rd=>
    rw[hr]at h
    cases cH.inj (show some (oS p v {s with st:=r,rd:=rd})=some s' from h)
    exact .inl ⟨by show s.me.length<=_;lia,by show(_::s.ha).length<=_;rw[az];lia,rfl,by show r.length<=_;rw[hs,az];lia,by show(v::rd).length<=_;rw[hr];lia,rfl⟩
theorem Gw.bd {d n:Nat} {s s':Ms} (g:Gw d s s') (b:Bd n s):Bd (n+ 200) s':=by
 obtain⟨b1,b2,b3,b4,b5⟩:=b
 have:=g.me
 have:=g.ha
 have:=g.st
 have:=g.rd
 exact⟨by lia,by lia,by rw[g.de];lia,by lia,by lia⟩
theorem A2 {ρs:List Ro} {ho:Nat->Option Hm} {tu n:Nat} {s s':Ms} (ok:∀ρ∈ρs,ρ.ok) (h:vi ρs ho tu s=some s') (b:Bd n s):Bd (n+ 200) s':=by
 rcases A1 ok h with g|⟨_,g⟩
 ·exact g.bd b
 ·exact g.bd b
theorem Di (e:Option Str):decide (enV e=V.non)=decide (e=none):=by
 cases e with
 |none=>rfl
 |some x=>rw[iI (fun z=>nomatch z),iI (fun z=>nomatch z)]
theorem G3 {H:Hp} {x:V} {t:Stp} (h:Im H x t.d):∃a y,x= .ref a/\match t with
  | .beg p sc=>H a=some (.tup [.str "begin",.int p,y])/\Im H y sc.d
  | .par p sc=>H a=some (.tup [.str "parts",.int p,y])/\Im H y sc.d
  | .hand p=>H a=some (.tup [.str "hand",.int p,y]):=by
 have go:∀{m:Str} {p:Int} {d:Dt},Im H x (.tup [sD m,kD p,d])->∃a y,x= .ref a/\H a=some (.tup [.str m,.int p,y])/\Im H y d:=fun h=>by
  cases h with
  |tup e i=>
   cases i with
   |cons h1 i=>
    cases h1
    cases i with
    |cons h2 i=>
     cases h2
     cases i with
     |cons h3 i=>cases i;exact⟨_,_,rfl,e,h3⟩
 cases t with
 |beg p sc=>obtain⟨a,y,e,h1,h2⟩:=go h;exact⟨a,y,e,h1,h2⟩
 |par p sc=>obtain⟨a,y,e,h1,h2⟩:=go h;exact⟨a,y,e,h1,h2⟩
 |hand p=>obtain⟨a,y,e,h1,h2⟩:=go h;exact⟨a,y,e,h1⟩
inductive XWs (C CP:Addr) (vs:List V) (H:Hp) (Q:VK):Prop
 |mk (A:Mad) (tu n b:Nat) (s s':Ms) (names:List Str) (roots:List Nat) (ρs:List Ro) (ho:Nat->Option Hm) (e:vs=[.ref A.m]) (M:Mc C H A tu s) (c:Ctx CP H A names roots ρs ho) (r:Cj ρs ho tu n s s') (hb:Bd b s) (hn:b+ 200*n<=9000000) (q:∀H',Mc C H' A tu s'->FM A H H'->Q .non H')
def IX (C CP:Addr):Sp:=fun vs H Q _=>XWs C CP vs H Q
def WsI (C CP:Addr) (A:Mad) (tu:Nat) (s':Ms) (ρs:List Ro) (ho:Nat->Option Hm) (H:Hp) (m:Nat) (σ:St) (H2:Hp):Prop:=X3 fun(o:Option V) (s1:Ms) (b:Nat)=>Y6 (σ=[some (.ref A.m),o]) (Mc C H2 A tu s1) (FM A H H2) (Cj ρs ho tu m s1 s') (Bd b s1) (b+ 200*m<=9000000)
theorem mM (T:Txt K mg) (W:Wk P w T):MO P w base mg 9 T.e41 (IX T.c10.a T.c12.a):=by
 have gE42:=qg (P:=P) (w:=w) (base:=base) T
 have gE43:=mL (base:=base) T W
 have gE45:=hV (P:=P) (w:=w) (base:=base) T
 refine T.e41.F.rd ke fun cdv A0 outer s0 H vs Q E hr h=>?_
 obtain⟨A,tu,n,b,s,s',names,roots,ρs,ho,rfl,M,c,r,hb,hn,q⟩:=h
 refine⟨_,(gk (mS PassesOwn.never (PW.pt (Ct (uo (Fh (gR T.c10.cl T.n10end (cv 0)))) (zc (gL Ii (gY iG rfl T.z_len lY (f9 (gR T.c10.cl T.n10steps (cv 0)) gf)) gj))))
   (gb (pS (i:=1) ke.nd (xo eQ eT eU xq (gR T.c10.cl T.n10steps (cv 0))))
   (gk (ic (gL jf (gC gG (cv 1) gj) gq)
    (gk (gK (ik (hG (PE.mono (cv 0)) T.c10.cl T.e42.me gE42 hr.m T.e42.b .nil je (f9 (gC gG (cv 1) gj) (f9 (gC gG (cv 1) gj) gf))))))
    (gk (ic (gL jf (gC gG (cv 1) gj) gq)
     (gk (gK (ik (hG (PE.mono (cv 0)) T.c10.cl T.e43.me gE43 hr.m T.e43.b .nil je (f9 (gC gG (cv 1) gj) (f9 (gC gG (cv 1) gj) gf))))))
     (gk (gK (ik (hG (PE.mono (cv 0)) T.c10.cl T.e45.me gE45 hr.m T.e45.b .nil je (f9 (gC gG (cv 1) gj) (f9 (xo eQ eT eU xq (gR T.c10.cl T.n10ready (cv 0))) gf))))))))))))),?_⟩
 refine⟨WsI T.c10.a T.c12.a A tu s' ρs ho H,⟨n,none,s,b,rfl,M,FM.refl,r,hb,hn⟩,?_⟩
 rintro m σ H2 ⟨o,s1,b,rfl,M2,F2,r,hb,hn⟩
 have c2:=c.fm M F2
 refine⟨_,⟨_,_,M2.o,tZ⟩,_,rfl,?_⟩
 rw[Di]
 cases r with
 |stop hs=>
  by_cases he:s'.en=none
  ·rw[ir he]
   have hs:=hs.resolve_left (fun z=>z he)
   obtain⟨xs,e,i⟩:=M2.st
   rw[hs]at i
   cases i
   refine jD ⟨_,⟨_,_,M2.o,kO⟩,_,_,rfl,.inl (SqL.of e),?_⟩
   dsimp only[tC,cI0,onB]
   rw[iI (show ¬(0:Int)<(([]:List V).length:Int)from fun z=>absurd z (by decide))]
   exact jA (q _ M2 F2)
  ·rw[iI he]
   exact jA (jA (q _ M2 F2))
 |@step n _ s3 _ h0 h r=>
  rw[ir h0]
  have hb3:Bd (b+ 200) s3:=A2 c.ok h hb
  have hbb:Bd 9000000 s1:=hb.mono (by lia)
  have hn3:b+ 200+ 200*n<=9000000:=by lia
  obtain⟨t,rs,hst⟩:∃t rs,s1.st=t::rs:=by
   cases e:s1.st with
   |cons t rs=>exact⟨t,rs,rfl⟩
   |nil=>
    unfold vi at h
    rw[gN (by rw[e];exact fun z=>nomatch z.1)]at h
    unfold pP at h
    rw[e]at h
    cases h
  obtain⟨xs,y,e,iy,M3,F3⟩:=M2.stO hst
  have done:∀(o:Option V) H',Mc T.c10.a H' A tu s3->FM A (L2.Internal.upd H2 A.st (.lst xs)) H'->WsI T.c10.a T.c12.a A tu s' ρs ho H n [some (.ref A.m),o] H':=fun o H' M' F'=>⟨o,s3,b+ 200,rfl,M',(F2.trans F3).trans F',r,hb3,hn3⟩
  refine jD ⟨_,⟨_,_,M2.o,kO⟩,_,_,rfl,.inl (SqL.of e),?_⟩
  dsimp only[tC,cI0,onB]
  rw[ir (show(0:Int)<((xs++[y]).length:Int) by rw[aN,aY];lia)]
  refine jD ⟨_,fun σ' H' p=>⟨n,cw _,p⟩,_,⟨_,_,M2.o,kO⟩,.inl ⟨rfl,_,SqL.of e⟩,yc e ?_⟩
  have iy3:=iy.mono (M2.tk F3)
  have c3:=c2.fm M2 F3
  dsimp only[ia]
  generalize L2.Internal.upd H2 A.st (.lst xs)=H3 at M3 F3 iy3 c3 done⊢
  have bd3:Bd 9000000 {s1 with st:=rs}:=by
   obtain⟨b1,b2,b3,b4,b5⟩:=hbb
   exact⟨b1,b2,b3,by rw[hst,az]at b4;show rs.length<=_;lia,b5⟩
  unfold vi at h
  obtain⟨a,z,rfl,hh⟩:=G3 iy3
  cases t with
  |beg p sc=>
   refine AW rfl hh.1 gB ⟨⟨_,_,M3.o,jo gB⟩,_,hh.1,gx (gv (j:=1) rfl) ⟨_,hh.1,gx (gv (j:=2) rfl) ?_⟩⟩
   by_cases ht:tu<=s1.bg
   ·rw[gX ⟨by rw[hst];rfl,ht⟩]at h
    cases cH.inj h
    refine⟨A,tu,_,p,sc,z,.num 0,names,roots,ρs,ho,rfl,M3,c3,.inl ht,hh.2,bd3,fun H' M' F'=>done _ H' ?_ F'⟩
    rw[gX (show tu<=s1.bg from ht)]at M'
    rw[hst]
    exact M'
   ·rw[gN (fun z=>ht z.2)]at h
    unfold pP at h
    rw[hst]at h
    have h:(match atZ ρs p with|some ρ=>some {s1 with bg:=s1.bg+ 1,st:=(n6 ρ).map (fun k=>Stp.beg k sc)++ .par p sc::rs}|none=>none)=some s3:=h
    cases ea:atZ ρs p with
    |none=>rw[ea]at h;cases h
    |some ρ=>
     rw[ea]at h
     cases cH.inj h
     refine⟨A,tu,_,p,sc,z,ρ,names,roots,ρs,ho,rfl,M3,c3,.inr (mY ea),hh.2,bd3,fun H' M' F'=>done _ H' ?_ F'⟩
     rw[gN (show ¬tu<=s1.bg from ht)]at M'
     exact M'
  |par p sc=>
   rw[gN (fun z=>by rw[hst]at z;exact nomatch z.1)]at h
   unfold pP at h
   rw[hst]at h
   have h:(match atZ ρs p with|some ρ=>(match tkR (n6 ρ).length s1.rd []with|some (l,rd)=>vh (ho p.toNat) p sc ρ l {s1 with st:=rs,rd:=rd}|none=>none)|none=>none)=some s3:=h
   cases ea:atZ ρs p with
   |none=>rw[ea]at h;cases h
   |some ρ=>
    rw[ea]at h
    obtain⟨k,rfl,hk⟩:=mY ea
    have h:(match tkR (n6 ρ).length s1.rd []with|some (l,rd)=>vh (ho (k:Int).toNat) k sc ρ l {s1 with st:=rs,rd:=rd}|none=>none)=some s3:=h
    cases et:tkR (n6 ρ).length s1.rd []with
    |none=>rw[et]at h;cases h
    |some zz=>
     obtain⟨l,rd⟩:=zz
     rw[et]at h
     refine yd rfl hh.1 gB (AW rfl hh.1 gB ⟨⟨_,_,M3.o,jo gB⟩,_,hh.1,gx (gv (j:=1) rfl) ⟨_,hh.1,gx (gv (j:=2) rfl) ?_⟩⟩)
     exact⟨A,tu,_,s3,k,sc,z,ρ,l,rd,names,roots,ρs,ho,rfl,M3,c3,hk,hh.2,bd3,et,Df h,fun H' M' F'=>done _ H' M' F'⟩
  |hand p=>
   rw[gN (fun z=>by rw[hst]at z;exact nomatch z.1)]at h
   unfold pP at h
   rw[hst]at h
   cases hr':s1.rd with
   |nil=>rw[hr']at h;cases h
   |cons v rd=>
    rw[hr']at h
    cases cH.inj (show some (oS p v {s1 with st:=rs,rd:=rd})=some s3 from h)
    obtain⟨xs',y',e',iv,M4,F4⟩:=M3.rdO (show({s1 with st:=rs}:Ms).rd=v::rd from hr')
    refine yd rfl hh gB (yd rfl hh gB ⟨⟨_,_,M3.o,jo gB⟩,_,hh,gx (gv (j:=1) rfl) ⟨_,⟨_,_,M3.o,oP⟩,.inl ⟨rfl,_,SqL.of e'⟩,yc e' ?_⟩⟩)
    refine rG (Q:=fun _ H'=>WsI T.c10.a T.c12.a A tu s' ρs ho H n [some (.ref A.m),some (.ref a)] H') M4 ?_ (iv.mono (M3.tk F4)) fun H' M' F'=>done _ H' M' (F4.trans F')
    obtain⟨b1,b2,b3,b4,b5⟩:=bd3
    have b5:s1.rd.length<=9000000:=b5
    rw[hr',az]at b5
    exact⟨ck b1 (by decide),ck b2 (by decide),ck b3 (by decide),ck b4 (by decide),by show rd.length<=_;lia⟩
structure MJ (C dx m:Addr) (H H':Hp) (fs:List (Str×V)) (ls:List Addr):Prop where
 o:H' m=some (.ins C dx fs)
 k:∀z o,H z=some o->z≠m->H' z=some o
 l:∀a∈ls,H' a=some (.lst [])/\H a=none
 n:ls.Nodup
 m0:m∉ls
section
variable {C dx m:Addr} {H H':Hp} {fs:List (Str×V)} {ls:List Addr}
theorem MJ.fld (j:MJ C dx m H H' fs ls) (gs:List (Str×V)):MJ C dx m H (upd H' m (.ins C dx gs)) gs ls:=⟨gh,fun z o e n=>by rw[gw n];exact j.k z o e n,fun a ha=>⟨by rw[gw (fun z=>j.m0 (by rw[<-z];exact ha))];exact(j.l a ha).1,(j.l a ha).2⟩,j.n,j.m0⟩
theorem MJ.new (j:MJ C dx m H H' fs ls) (hm:(H m).isSome=true) {a:Addr} (h:H' a=none):MJ C dx m H (upd H' a (.lst [])) fs (ls++[a]):=by
 have nm:a≠m:=fun z=>by rw[z,j.o]at h;cases h
 have h0:H a=none:=by
  cases e:H a with
  |none=>rfl
  |some o=>rw[j.k a o e nm]at h;cases h
 have nl:a∉ls:=fun z=>by rw[(j.l a z).1]at h;cases h
 refine⟨by rw[gw nm.symm];exact j.o,fun z o e n=>by rw[gw (gr e h0)];exact j.k z o e n,fun b hb=>?_,?_,fun z=>?_⟩
 ·rcases ao.mp hb with hb|hb
  ·exact⟨by rw[gw (fun z=>nl (by rw[<-z];exact hb))];exact(j.l b hb).1,(j.l b hb).2⟩
  ·rw[bb.mp hb];exact⟨gh,h0⟩
 ·rw[List.nodup_append]
  refine⟨j.n,aE.mpr ⟨(fun z=>by cases z),bX⟩,fun x hx y hy z=>nl ?_⟩
  rw[bb.mp hy]at z
  rw[<-z]
  exact hx
 ·rcases ao.mp z with z|z
  ·exact j.m0 z
  ·exact nm (bb.mp z).symm
theorem MJ.f1 (j:MJ C dx m H H' fs ls) {x:Str} {v:V} {R:Hp->Prop} (k:∀H2,MJ C dx m H H2 (lE x v fs) ls->R H2) (hl:decide (fs.length<1000)=true:=by kernel_rfl):∃d f,H' m=some (.ins C d f)/\f.length<1000/\R (upd H' m (.ins C d (lE x v f))):=⟨dx,fs,j.o,of_decide_eq_true hl,k _ (j.fld _)⟩
theorem MJ.f2 (j:MJ C dx m H H' fs ls) (hm:(H m).isSome=true) {x:Str} {R:Addr->Hp->Prop} (k:∀a H2,MJ C dx m H H2 (lE x (.ref a) fs) (ls++[a])->R a H2) (hl:decide (fs.length<1000)=true:=by kernel_rfl):0<=sizeLine/\∀a,H' a=none->∃d f,(upd H' a (.lst [])) m=some (.ins C d f)/\f.length<1000/\R a (upd (upd H' a (.lst [])) m (.ins C d (lE x (.ref a) f))):=⟨cu _,fun a h=>(j.new hm h).f1 (k a) hl⟩
theorem MJ.eq {gs:List (Str×V)} (j:MJ C dx m H H' fs ls) (e:fs=gs):MJ C dx m H H' gs ls:=e▸j
end
def s0M:Ms:=⟨0,none,[],[],[],[],[]⟩
inductive XMi (C:Addr) (vs:List V) (H:Hp) (Q:VK):Prop
 |mk (m dx p h:Addr) (tu:Int) (e:vs=[.ref m,.ref p,.ref h,.int tu]) (o:H m=some (.ins C dx [])) (q:∀H' me ha de st rd,MJ C dx m H H' (fMc p h tu 0 .non me ha de st rd) [me,ha,de,st,rd]->Q .non H')
def IY (C:Addr):Sp:=fun vs H Q _=>XMi C vs H Q
theorem oh (T:Txt K mg):MO P w base mg 1 T.e39 (IY T.c10.a):=by
 refine T.e39.F.rd nS fun cdv A0 outer s0 H vs Q E hr h=>?_
 obtain⟨m,dx,p,h,tu,rfl,o,q⟩:=h
 refine⟨_,(gb (i9 T.c10.cl T.n10program (jc (PE.mono (cv 0)) (PE.mono (cv 1)) rfl))
  (gb (i9 T.c10.cl T.n10homes (jc (PE.mono (cv 0)) (PE.mono (cv 2)) rfl))
  (gb (i9 T.c10.cl T.n10turns (jc (PE.mono (cv 0)) (PE.mono (cv 3)) rfl))
  (gb (i9 T.c10.cl T.n10begun (jc (PE.mono (cv 0)) (PE.mono gj) rfl))
  (gb (i9 T.c10.cl T.n10end (jc (PE.mono (cv 0)) (PE.mono qC) rfl))
  (gb (i9 T.c10.cl T.n10meets (jc (PE.mono (cv 0)) (PE.mono (hZ gf)) rfl))
  (gb (i9 T.c10.cl T.n10had (jc (PE.mono (cv 0)) (PE.mono (hZ gf)) rfl))
  (gb (i9 T.c10.cl T.n10defined (jc (PE.mono (cv 0)) (PE.mono (hZ gf)) rfl))
  (gb (i9 T.c10.cl T.n10steps (jc (PE.mono (cv 0)) (PE.mono (hZ gf)) rfl))
  (gk (i9 T.c10.cl T.n10ready (jc (PE.mono (cv 0)) (PE.mono (hZ gf)) rfl)))))))))))),?_⟩
 have im:(H m).isSome=true:=by rw[o];rfl
 have j0:MJ T.c10.a dx m H H [] []:=⟨o,fun _ _ e _=>e,fun a ha=>(by cases ha),bX,fun z=>(by cases z)⟩
 refine j0.f1 fun H1 j1=>j1.f1 fun H2 j2=>j2.f1 fun H3 j3=>j3.f1 fun H4 j4=>j4.f1 fun H5 j5=>?_
 refine j5.f2 im fun me H6 j6=>j6.f2 im fun ha H7 j7=>j7.f2 im fun de H8 j8=>j8.f2 im fun st H9 j9=>j9.f2 im fun rd H10 j10=>q _ me ha de st rd (j10.eq (by kernel_rfl))
def fRn (en v:V) (me ha:Addr) (bg:Int):List (Str×V):=[("end",en),("value",v),("meets",.ref me),("had",.ref ha),("begun",.int bg)]
inductive XRi (C:Addr) (vs:List V) (H:Hp) (Q:VK):Prop
 |mk (m dx me ha:Addr) (en v:V) (bg:Int) (e:vs=[.ref m,en,v,.ref me,.ref ha,.int bg]) (o:H m=some (.ins C dx [])) (q:∀H',H' m=some (.ins C dx (fRn en v me ha bg))->(∀z o,H z=some o->z≠m->H' z=some o)->Q .non H')
def G4 (C:Addr):Sp:=fun vs H Q _=>XRi C vs H Q
theorem mO (T:Txt K mg):MO P w base mg 1 T.e49 (G4 T.c11.a):=by
 refine T.e49.F.rd rj fun cdv A0 outer s0 H vs Q E hr h=>?_
 obtain⟨m,dx,me,ha,en,v,bg,rfl,o,q⟩:=h
 refine⟨_,(gb (i9 T.c11.cl T.n11end (jc (PE.mono (cv 0)) (PE.mono (cv 1)) rfl))
  (gb (i9 T.c11.cl T.n11value (jc (PE.mono (cv 0)) (PE.mono (cv 2)) rfl))
  (gb (i9 T.c11.cl T.n11meets (jc (PE.mono (cv 0)) (PE.mono (cv 3)) rfl))
  (gb (i9 T.c11.cl T.n11had (jc (PE.mono (cv 0)) (PE.mono (cv 4)) rfl))
  (gk (i9 T.c11.cl T.n11begun (jc (PE.mono (cv 0)) (PE.mono (cv 5)) rfl))))))),?_⟩
 refine⟨_,_,o,(by show 0<1000;decide),_,_,gh,(by show 1<1000;decide),_,_,gh,(by show 2<1000;decide),_,_,gh,(by show 3<1000;decide),_,_,gh,(by show 4<1000;decide),?_⟩
 refine q _ ?_ fun z o e hz=>?_
 ·rw[gh]
  exact congrArg (fun l=>some (HO.ins T.c11.a dx l)) (by kernel_rfl)
 ·rw[gw hz,gw hz,gw hz,gw hz,gw hz]
  exact e
theorem Cj.bd {ρs:List Ro} {ho:Nat->Option Hm} {tu n:Nat} {s s':Ms} (ok:∀ρ∈ρs,ρ.ok) (r:Cj ρs ho tu n s s'):∀{b:Nat},Bd b s->Bd (b+ 200*n) s':=by
 induction r with
 |stop h=>exact fun hb=>hb
 |step h0 h r ih=>exact fun hb=>(ih (A2 ok h hb)).mono (by lia)
inductive wL (ρs:List Ro) (ho:Nat->Option Hm) (tu:Nat):Nat->List Nat->Ms->Ms->Prop
 |done {s:Ms}:wL ρs ho tu 0 [] s {s with en:=some "done"}
 |next {n m r:Nat} {rs:List Nat} {s s' s2:Ms} {v:Vl} {rd:List Vl} (h:Cj ρs ho tu n {s with st:= .beg (r:Int) .nil::s.st} s') (he:s'.en=none) (hr:s'.rd=v::rd) (t:wL ρs ho tu m rs {s' with rd:=rd,de:=s'.de++[v]} s2):wL ρs ho tu (n+m+ 3) (r::rs) s s2
theorem uc {α:Type} (ys:List α) (y:α):atI (ys++[y]) (-1)=some y:=by
 unfold atI ixN
 rw[gN (by decide),aN,aY,gX (by lia),show((-1:Int)+((ys.length+ 1:Nat):Int)).toNat=ys.length by lia]
 show(ys++[y])[ys.length]?=_
 rw[aI (cq _),cF]
 rfl
inductive XPg (C CP:Addr) (vs:List V) (H:Hp) (Q:VK):Prop
 |mk (A:Mad) (tu n b:Nat) (s s':Ms) (names:List Str) (roots:List Nat) (ρs:List Ro) (ho:Nat->Option Hm) (e:vs=[.ref A.m]) (M:Mc C H A tu s) (c:Ctx CP H A names roots ρs ho) (r:wL ρs ho tu n roots s s') (hb:Bd b s) (hn:b+ 200*n<=8000000) (q:∀H',Mc C H' A tu s'->FM A H H'->Q .non H')
def IZ (C CP:Addr):Sp:=fun vs H Q _=>XPg C CP vs H Q
def PgI (C:Addr) (A:Mad) (tu:Nat) (s':Ms) (roots:List Nat) (ρs:List Ro) (ho:Nat->Option Hm) (H:Hp) (i:Nat) (σ:St) (H2:Hp):Prop:=X4 fun(o:Option V) (s1:Ms) (b m:Nat)=>Y6 (σ=[some (.ref A.m),o]) (Mc C H2 A tu s1) (FM A H H2) (wL ρs ho tu m (roots.drop i) s1 s') (Bd b s1) (b+ 200*m<=8000000)
theorem lX (T:Txt K mg) (W:Wk P w T):MO P w base mg 10 T.e40 (IZ T.c10.a T.c12.a):=by
 have gE41:=mM (base:=base) T W
 refine T.e40.F.rd jS fun cdv A0 outer s0 H vs Q E hr h=>?_
 obtain⟨A,tu,n,b,s,s',names,roots,ρs,ho,rfl,M,c,r,hb,hn,q⟩:=h
 refine⟨_,(gb (ky PassesOwn.never rfl (oU (gR T.c12.cl T.n12roots (gR T.c10.cl T.n10program (cv 0)))) (pN (i:=1) jS.nd)
   (gb (gK (jg (jF eQ eR eS gT (PE.mono (gR T.c10.cl T.n10steps (cv 0))) (f9 (PE.mono (hI (f9 gq (f9 (cv 1) (f9 qC gf))))) gf))))
   (gb (gK (ik (jl (PE.mono (cv 0)) T.c10.cl T.e41.me gE41 hr.m T.e41.b .nil je)))
   (gb (ic (uo (Du (gR T.c10.cl T.n10end (cv 0))))
    (gk zd)
    gE)
   (gk (gK (jg (jF eQ eR eS gT (PE.mono (gR T.c10.cl T.n10defined (cv 0))) (f9 (PE.mono (xo eQ eT eU xq (gR T.c10.cl T.n10ready (cv 0)))) gf)))))))))
  (gk (i9 T.c10.cl T.n10end (jc (PE.mono (cv 0)) (PE.mono gq) rfl)))),?_⟩
 have sl:=sizeLine_eq
 obtain⟨na,rl,w,dx,xs,pr,n1,n2,n3,n4⟩:=c.p
 refine⟨_,⟨_,_,M.o,oa⟩,_,⟨_,_,pr.o,xY _ _ _⟩,_,rfl,⟨_,SqL.of pr.r⟩,qk (xs:=roots.map nI) (PgI T.c10.a A tu s' roots ρs ho H) ⟨none,s,b,n,rfl,M,FM.refl,r,hb,hn⟩ (fun i σ H2 _ ⟨_,_,_,_,_,_,F,_,_,_⟩=>SqL.of (F.get pr.r n3)) ?_ ?_⟩
 ·rintro i v σ H2 hx ⟨o,s1,b,m,rfl,M2,F2,r,hb,hn⟩
  rw[aK]at hx
  obtain⟨j,hj,rfl⟩:=cN.mp hx
  have hdr:roots.drop i=j::roots.drop (i+ 1):=by
   obtain⟨z1,z2⟩:=au.mp hj
   rw[bD z1,z2]
  rw[hdr]at r
  have c2:=c.fm M F2
  obtain⟨ys,e,_⟩:=M2.st
  have b4:=hb.2.2.2.1
  have b3:=hb.2.2.1
  refine⟨_,⟨_,_,M2.o,kO⟩,⟨_,e⟩,oR,fun a ha=>?_⟩
  have S1:=gm ha (.tup [.str "begin",.int (j:Int),.non])
  have M3:=M2.same S1
  have i1:Im (L2.Internal.upd H2 a (.tup [.str "begin",.int (j:Int),.non])) (.ref a) (Stp.beg (j:Int) .nil).d:=by
   rw[Stp.d,Ev.d]
   exact lC ha (.cons (.flat rfl) (.cons (.flat rfl) (.cons (.flat rfl) .nil)))
  obtain⟨ys1,e1,l1,M4,F4⟩:=M3.stP i1
  refine⟨ys1,e1,by lia,?_⟩
  have F04:=(F2.trans (FM.same S1)).trans F4
  have c4:=(c2.fm M2 (FM.same S1)).fm M3 F4
  dsimp only[nI]
  generalize L2.Internal.upd (L2.Internal.upd H2 a (.tup [.str "begin",.int (j:Int),.non])) A.st (.lst (ys1++[.ref a]))=H4 at M4 F4 F04 c4⊢
  have hb4:Bd (b+ 1) {s1 with st:= .beg (j:Int) .nil::s1.st}:=by
   obtain⟨b1,b2,b3,b4,b5⟩:=hb
   exact⟨by show s1.me.length<=_;lia,by show s1.ha.length<=_;lia,by show s1.de.length<=_;lia,by show(_::s1.st).length<=_;rw[az];lia,by show s1.rd.length<=_;lia⟩
  cases r with
  |@next n0 m0 _ _ _ s5 _ v rd h he hr' t=>
   refine⟨⟨_,_,M4.o,jo gB⟩,A,tu,n0,b+ 1,_,s5,names,roots,ρs,ho,rfl,M4,c4,h,hb4,by lia,fun H5 M5 F5=>?_⟩
   have hb5:=h.bd c.ok hb4
   refine⟨_,⟨_,_,M5.o,tZ⟩,_,rfl,?_⟩
   rw[Di,ir he]
   obtain⟨zs,ez,_⟩:=M5.de
   obtain⟨xs',y',e',iv,M6,F6⟩:=M5.rdO hr'
   obtain⟨zs,ez6,lz,M7,F7⟩:=M6.deP (iv.mono (M5.tk F6))
   have ld:=hb5.2.2.1
   refine jA ⟨_,⟨_,_,M5.o,n9⟩,⟨_,ez⟩,_,⟨_,_,M5.o,oP⟩,.inl ⟨rfl,_,SqL.of e'⟩,yc e' ⟨zs,ez6,?_,?_⟩⟩
   ·rw[lz];show s5.de.length<_;lia
   ·refine⟨_,_,b+ 1+ 200*n0+ 1,m0,rfl,M7,((F04.trans F5).trans F6).trans F7,t,?_,by lia⟩
    obtain⟨b1,b2,b3,b4,b5⟩:=hb5
    rw[hr',az]at b5
    exact⟨by show s5.me.length<=_;lia,by show s5.ha.length<=_;lia,by show(s5.de++[v]).length<=_;rw[aN,aY];lia,by show s5.st.length<=_;lia,by show rd.length<=_;lia⟩
 ·rintro σ H2 ⟨o,s1,b,m,rfl,M2,F2,r,hb,hn⟩
  rw[aC,bV]at r
  cases r
  obtain⟨M3,F3⟩:=M2.setO s1.bg (some "done")
  refine⟨_,_,M2.o,by show 10<1000;decide,?_⟩
  rw[xZ]
  exact q _ M3 (F2.trans F3)
structure RnA (C:Addr) (H:Hp) (r:Addr) (s:Ms):Prop where
 o:∃dx v me ha,H r=some (.ins C dx (fRn (enV s.en) v me ha s.bg))/\(∃xs,H me=some (.lst xs)/\Ims H xs (s.me.reverse.map meD))/\(∃xs,H ha=some (.lst xs)/\Ims H xs (s.ha.reverse.map haD))/\(s.en≠some ("done":Str)->v= .non)/\∀u,s.en=some ("done":Str)->s.de.getLast?=some u->Im H v u.d
inductive XRn (C CP:Addr) (vs:List V) (H:Hp) (Q:VK):Prop
 |mk (p h n0 r0 w0 dx:Addr) (tu n:Nat) (xs hs:List V) (s':Ms) (names:List Str) (roots:List Nat) (ρs:List Ro) (ho:Nat->Option Hm) (e:vs=[.ref p,.ref h,.int (tu:Int)]) (pr:PrA CP H p n0 r0 w0 dx xs names roots ρs) (eh:H h=some (.lst hs)) (ih:∀(k:Nat) (ρ:Ro),ρs[k]?=some ρ->∃y,hs[k]?=some y/\Im H y (hoD (ho k))) (ok:∀ρ∈ρs,ρ.ok) (r:wL ρs ho tu n roots s0M s') (hn:200*n<=8000000) (he:∃e,s'.en=some e) (hd:s'.en=some ("done":Str)->s'.de≠[]) (q:∀r H',gP H H'->H r=none->RnA C H' r s'->Q (.ref r) H')
def I0 (C CP:Addr):Sp:=fun vs H Q _=>XRn C CP vs H Q
theorem G5 (T:Txt K mg) (W:Wk P w T):FO P w base 11 T.d16 (I0 T.c11.a T.c12.a):=by
 have gE39:=oh (P:=P) (w:=w) (base:=base) T
 have gE49:=mO (P:=P) (w:=w) (base:=base) T
 have gE40:=lX (base:=base) T W
 refine T.d16.F.rd AB fun cdv A0 outer s0 H vs Q E hr h=>?_
 obtain⟨p,h,n0,r0,w0,dx,tu,n,xs,hs,s',names,roots,ρs,ho,rfl,pr,eh,ih,ok,r,hn,⟨en,he⟩,hd,q⟩:=h
 refine⟨_,(gb (pS (i:=3) AB.nd (oV T.mk10 gE39 hr.m rfl T.c10.m T.e39.b .nil je (f9 (cv 0) (f9 (cv 1) (f9 (cv 2) gf)))))
  (gb (gK (ik (jl (PE.mono (cv 3)) T.c10.cl T.e40.me gE40 hr.m T.e40.b .nil je)))
  (gb (pS (i:=4) AB.nd (qj (gL jf (gR T.c10.cl T.n10end (cv 3)) gq) (gC gS (gR T.c10.cl T.n10defined (cv 3)) (Bq w8 gj)) qC))
  (gk (gJ (oV T.mk11 gE49 hr.m rfl T.c11.m T.e49.b .nil je (f9 (gR T.c10.cl T.n10end (cv 3)) (f9 (cv 4) (f9 (gR T.c10.cl T.n10meets (cv 3)) (f9 (gR T.c10.cl T.n10had (cv 3)) (f9 (gR T.c10.cl T.n10begun (cv 3)) gf))))))))))),?_⟩
 intro m mx hm hmx nmx
 have S0:gP H (upd (upd H mx (.own m)) m (.ins T.c10.a mx [])):=ig (ig (fun _ _ e=>e) hmx _) hm _
 refine⟨m,mx,p,h,(tu:Int),rfl,gh,fun H1 me ha de st rd j=>⟨rfl,?_⟩⟩
 have S1:gP H H1:=fun b o e=>j.k b o (S0 b o e) (gr e hm)
 have l0:∀a∈[me,ha,de,st,rd],H a=none:=fun a ha=>S0.free (j.l a ha).2
 let A:Mad:=⟨m,mx,p,h,me,ha,de,st,rd⟩
 have nal:∀{a:Addr} {o:HO},H a=some o->a∉A.all:=fun{a o} e z=>by
  rcases aj.mp z with z|z
  ·rw[z,hm]at e;cases e
  ·rw[l0 a z]at e;cases e
 have em:∀a∈[me,ha,de,st,rd],H1 a=some (.lst []):=fun a ha=>(j.l a ha).1
 have M1:Mc T.c10.a H1 A tu s0M:=⟨j.o,⟨_,em me (by simp),.nil⟩,⟨_,em ha (by simp),.nil⟩,⟨_,em de (by simp),.nil⟩,⟨_,em st (by simp),.nil⟩,⟨_,em rd (by simp),.nil⟩,j.n⟩
 have k1:=gP.tk S1
 have c1:Ctx T.c12.a H1 A names roots ρs ho:=⟨⟨n0,r0,w0,dx,xs,pr.same S1,nal pr.o,nal pr.n,nal pr.r,nal pr.w⟩,⟨hs,S1 _ _ eh,nal eh,fun k ρ e=>let⟨y,a,b⟩:=ih k ρ e;⟨y,a,b.mono k1⟩⟩,ok⟩
 dsimp only[ia]
 refine⟨⟨_,_,M1.o,jo gB⟩,A,tu,n,0,s0M,s',names,roots,ρs,ho,rfl,M1,c1,r,⟨cq _,cq _,cq _,cq _,cq _⟩,by lia,fun H2 M2 F2=>?_⟩
 have S2:gP H H2:=fun b o e=>F2.get (S1 b o e) (nal e)
 have fin:∀v,(s'.en≠some ("done":Str)->v= .non)->(∀u,s'.en=some ("done":Str)->s'.de.getLast?=some u->Im H2 v u.d)->Fj (FA T.c11.a (G4 T.c11.a) [] E0 (iX (BI T.c10.a "end" (cV 3)) (iX (cV 4) (iX (BI T.c10.a "meets" (cV 3)) (iX (BI T.c10.a "had" (cV 3)) (iX (BI T.c10.a "begun" (cV 3)) se)))))) {nx:=fun _ H'=>Q .non H',rt:=Q} [some (.ref p),some (.ref h),some (.int tu),some (.ref m),some v] H2:=fun v h1 h2=>by
  refine⟨_,⟨_,_,M2.o,tZ⟩,_,⟨_,_,M2.o,vj⟩,_,⟨_,_,M2.o,AO⟩,_,⟨_,_,M2.o,rD⟩,fun rr rx hrr hrx nrx=>?_⟩
  have S3:gP H2 (upd (upd H2 rx (.own rr)) rr (.ins T.c11.a rx [])):=ig (ig (fun _ _ e=>e) hrx _) hrr _
  refine⟨rr,rx,me,ha,enV s'.en,v,(s'.bg:Int),rfl,gh,fun H4 e4 k4=>⟨rfl,?_⟩⟩
  have S4:gP H2 H4:=fun b o e=>k4 b o (S3 b o e) (gr e hrr)
  obtain⟨xs1,e1,i1⟩:=M2.me
  obtain⟨xs2,e2,i2⟩:=M2.ha
  have tk4:=gP.tk S4
  exact q rr H4 (S2.trans S4) (S2.free hrr) ⟨rx,v,me,ha,e4,⟨xs1,S4 _ _ e1,i1.mono tk4⟩,⟨xs2,S4 _ _ e2,i2.mono tk4⟩,h1,fun u a b=>(h2 u a b).mono tk4⟩
 refine⟨_,⟨_,_,M2.o,tZ⟩,?_⟩
 by_cases hdn:s'.en=some ("done":Str)
 ·obtain⟨l,u,hl⟩:∃l u,s'.de=l++[u]:=⟨_,_,(bJ (hd hdn)).symm⟩
  obtain⟨zs,ez,iz⟩:=M2.de
  rw[hl]at iz
  obtain⟨ys,y,rfl,_,iy⟩:=qu iz
  rw[hdn]
  dsimp only[tC,cEq,onB,enV]
  rw[ir rfl]
  refine jD ⟨_,⟨_,_,M2.o,n9⟩,_,rfl,_,ez,gx (uc ys y) ?_⟩
  dsimp only[ia]
  exact fin y (fun n=>absurd hdn n) fun u' _ e=>by rw[hl,List.getLast?_concat]at e;cases e;exact iy
 ·rw[he]
  dsimp only[tC,cEq,onB,enV]
  rw[iI (fun z=>hdn (by rw[he,z]))]
  refine jA ?_
  dsimp only[ia]
  exact fin .non (fun _=>rfl) (fun u e=>absurd e hdn)
def itU (ρs:List Ro) (ho:Nat->Option Hm):Nat->Ms->Option Ms
 |0,s=>some s
 |n+ 1,s=>match s.en with
  |none=>match pP ρs ho s with
   |some s'=>itU ρs ho n s'
   |none=>none
  |some _=>none
section
variable {ρs:List Ro} {ho:Nat->Option Hm} {tu:Nat}
theorem Cn {n:Nat} {s s':Ms} (h:itU ρs ho (n+ 1) s=some s'):s.en=none/\∃s1,pP ρs ho s=some s1/\itU ρs ho n s1=some s':=by
 unfold itU at h
 cases e:s.en with
 |some x=>rw[e]at h;cases h
 |none=>
  rw[e]at h
  cases e1:pP ρs ho s with
  |none=>rw[e1]at h;cases h
  |some s1=>rw[e1]at h;exact⟨rfl,s1,rfl,h⟩
theorem G6 {s s1:Ms} (hb:AN s.st=true) (h:pP ρs ho s=some s1):s1.bg=s.bg+ 1:=by
 unfold pP at h
 cases e:s.st with
 |nil=>rw[e]at hb;cases hb
 |cons t r=>
  rw[e]at h hb
  cases t with
  |beg p sc=>
   have h:(match atZ ρs p with|some ρ=>some {s with bg:=s.bg+ 1,st:=(n6 ρ).map (fun k=>Stp.beg k sc)++ .par p sc::r}|none=>none)=some s1:=h
   cases ea:atZ ρs p with
   |none=>rw[ea]at h;cases h
   |some ρ=>rw[ea]at h;cases cH.inj h;rfl
  |par p sc=>cases hb
  |hand p=>cases hb
theorem Dj (s:Ms) (h:¬(AN s.st=true/\tu<=s.bg)):vi ρs ho tu s=pP ρs ho s:=by unfold vi;rw[gN h]
theorem Ja (ok:∀ρ∈ρs,ρ.ok) {s s1:Ms} (h:pP ρs ho s=some s1):s.bg<=s1.bg/\(AN s.st=false->s1.bg=s.bg):=by
 have e:=Dj (ρs:=ρs) (ho:=ho) (tu:=s.bg+ 1) s (fun z=>absurd z.2 (Nat.not_succ_le_self _))
 rcases A1 ok (e.trans h)with g|⟨b,g⟩
 ·have:=g.bg
  exact⟨by lia,fun _=>by lia⟩
 ·have:=g.bg
  exact⟨by lia,fun z=>by rw[b]at z;cases z⟩
theorem ud (ok:∀ρ∈ρs,ρ.ok) {s':Ms} (hs:s'.en≠none\/s'.st=[]) (ht:s'.bg<=tu):∀{n:Nat} {s:Ms},itU ρs ho n s=some s'->Cj ρs ho tu n s s'/\s.bg<=s'.bg
 |0,s,h=>by cases h;exact⟨.stop hs,cq _⟩
 |n+ 1,s,h=>by
  obtain⟨h0,s1,h1,h2⟩:=Cn h
  obtain⟨r,l⟩:=ud ok hs ht h2
  have b:=(Ja ok h1).1
  refine⟨.step h0 ((Dj s fun z=>?_).trans h1) r,by lia⟩
  have:=G6 z.1 h1
  lia
end
def exS (sc:List (Str×Hm)):Option (Str×Hm)->List (Str×Hm)
 |none=>sc
 |some e=>e::sc
def nmT (w:Str):TM.Internal.Tr:= .mk (.name w) []
def nuT (n:Int):TM.Internal.Tr:= .mk (.num n) []
def fnT (J:Str) (N:Int):TM.Internal.Tr:= .mk (.fn J) [nuT N]
def prT (J A:Str) (N:Int):Nat->TM.Internal.Tr
 |0=>fnT J N
 |1=> .mk (.op "call" 2) [.mk (.fn A) [nmT A],fnT J N]
 |2=> .mk (.get A) [.mk (.rcd [A]) [fnT J N]]
 |3=> .mk (.op "at" 3) [.mk (.row 2) [nuT 3,fnT J N],nuT 1,nuT 4]
 |4=> .mk (.lt A) [fnT J N,nmT A]
 |5=> .mk (.rcd [A]) [fnT J N]
 |6=> .mk (.tag A) [fnT J N]
 |_=> .mk (.op "call" 2) [.mk (.fn A) [fnT J N],nuT 5]
abbrev Sl:=List (Str×Hm)
def prL (J A W:Str) (N:Int):Nat->List (Ro×Sl)
 |0=>[(.fn J 1,[(W,("def",0))]),(.num N,[(J,("fn",1)),(W,("def",0))]),(.name W,[(W,("def",0))])]
 |1=>[(.op "call" [1,3],[]),(.fn A 2,[]),(.name A,[(A,("fn",2))]),(.fn J 4,[]),(.num N,[(J,("fn",4))]),(.name W,[(W,("def",0))])]
 |2=>[(.get 1 A,[]),(.rcd [(A,2)],[]),(.fn J 3,[]),(.num N,[(J,("fn",3))]),(.name W,[(W,("def",0))])]
 |3=>[(.op "at" [1,5,6],[]),(.row [2,3],[]),(.num 3,[]),(.fn J 4,[]),(.num N,[(J,("fn",4))]),(.num 1,[]),(.num 4,[]),(.name W,[(W,("def",0))])]
 |4=>[(.lt A 1 3,[]),(.fn J 2,[]),(.num N,[(J,("fn",2))]),(.name A,[(A,("let",1))]),(.name W,[(W,("def",0))])]
 |5=>[(.rcd [(A,1)],[]),(.fn J 2,[]),(.num N,[(J,("fn",2))]),(.name W,[(W,("def",0))])]
 |6=>[(.tag A 1,[]),(.fn J 2,[]),(.num N,[(J,("fn",2))]),(.name W,[(W,("def",0))])]
 |_=>[(.op "call" [1,4],[]),(.fn A 2,[]),(.fn J 3,[(A,("fn",2))]),(.num N,[(J,("fn",3)),(A,("fn",2))]),(.num 5,[]),(.name W,[(W,("def",0))])]
def rtK (k:Nat):Nat:=([2,5,4,7,4,3,3,5]:List Nat).getD k 0
def hoL:Nat->List (Option Hm)
 |0=>[none,none,some ("def",0)]
 |1=>[none,none,some ("fn",2),none,none,some ("def",0)]
 |2=>[none,none,none,none,some ("def",0)]
 |3=>[none,none,none,none,none,none,none,some ("def",0)]
 |4=>[none,none,none,some ("let",1),some ("def",0)]
 |5=>[none,none,none,some ("def",0)]
 |6=>[none,none,none,some ("def",0)]
 |_=>[none,none,none,none,none,some ("def",0)]
def hoK (k i:Nat):Option Hm:=(hoL k).getD i none
def vK (A:Str):Nat->Vl
 |0=> .fn 1 .nil 0
 |1=> .fn 4 .nil 3
 |2=> .fn 3 .nil 2
 |3=> .fn 4 .nil 3
 |4=> .fn 2 .nil 1
 |5=> .rcd (.cons A (.fn 2 .nil 1) .nil) 0
 |6=> .tag A (.fn 2 .nil 1) 0
 |_=> .fn 3 (.cons 2 (.num 5 4) .nil) 2
def prR (J A W:Str) (N:Int) (k:Nat):List Ro:=(prL J A W N k).map Prod.fst
def lkS:Sl->Str->Option Hm
 |[]=>fun _=>none
 |e::l=>wid (lkS l) e.1 e.2
def prO (J A W:Str) (N:Int) (k:Nat):Nat->Str->Option Hm:=fun i=>match(prL J A W N k)[i]? with
 |some e=>lkS e.2
 |none=>fun _=>none
theorem qh {k:Nat} (h:k<8):k=0\/k=1\/k=2\/k=3\/k=4\/k=5\/k=6\/k=7:=by lia
def gdB (L:List (Ro×Sl)) (roots:List Nat):Bool:=(aa L.length).all fun k=>match L[k]? with
 |some (ρ,_)=>ρ.pl.all (fun c=>match c with| .ofNat m=>decide (k<m)&&decide (m<L.length)| .negSucc _=>false)&&(roots.contains k||(aa k).any fun k'=>match L[k']? with|some e=>e.1.pl.contains (k:Int)|none=>false)
 |none=>false
def HA (L:List (Ro×Sl)) (sc:Sl):List Int->List (Option (Str×Hm))->Prop
 | .ofNat m::cs,e::es=>(L[m]?.map Prod.snd=some (exS sc e))/\HA L sc cs es
 |_,_=>True
def nmP (sc:Sl) (h:Option Hm):Ro->Prop
 | .name x=>lkS sc x=h/\h.isSome=true
 |_=>h=none
def gdP (L:List (Ro×Sl)):List (Ro×Sl)->List (Option Hm)->Prop
 |e::r,h::hs=>e.1.ok/\HA L e.2 e.1.pl e.1.ex/\nmP e.2 h e.1/\gdP L r hs
 |[],[]=>True
 |_,_=>False
theorem Jb (sc:Sl) (e:Option (Str×Hm)):lkS (exS sc e)=exG (lkS sc) e:=by
 cases e with
 |none=>rfl
 |some p=>rfl
theorem vp {L:List (Ro×Sl)}:∀{r:List (Ro×Sl)} {hs:List (Option Hm)},gdP L r hs->∀{i:Nat} {e:Ro×Sl},r[i]?=some e->e.1.ok/\HA L e.2 e.1.pl e.1.ex/\∃h,hs[i]?=some h/\nmP e.2 h e.1
 |a::r,h::hs,g,0,e,z=>by cases z;exact⟨g.1,g.2.1,h,rfl,g.2.2.1⟩
 |a::r,h::hs,g,i+ 1,e,z=>vp (hs:=hs) g.2.2.2 (by simpa using z)
 |[],_,_,i,e,z=>by cases z
theorem A3 {L:List (Ro×Sl)} {sc:Sl}:∀{cs:List Int} {es:List (Option (Str×Hm))},HA L sc cs es->cs.all (fun c=>match c with| .ofNat m=>true| .negSucc _=>false)=true->∀{j m:Nat} {e:Option (Str×Hm)},cs[j]?=some (m:Int)->es[j]?=some e->L[m]?.map Prod.snd=some (exS sc e)
 | .ofNat c::cs,a::es,g,_,0,m,e,h1,h2=>by cases h1;cases h2;exact g.1
 | .ofNat c::cs,a::es,g,z,j+ 1,m,e,h1,h2=>A3 (cs:=cs) (es:=es) g.2 (by simpa using z) (by simpa using h1) (by simpa using h2)
 | .negSucc c::cs,_,_,z,_,_,_,_,_=>by simp at z
 |[],_,_,_,j,m,e,h1,_=>by cases h1
 | .ofNat c::cs,[],_,_,j,m,e,_,h2=>by cases h2
open GR.Internal (Op Gp toks mz jr gQ isName WOk TAt kW)
theorem ET (x:Str):x.cps.toList.length=x.length:=by rw[fq];rfl
def A4 (w:Str):Prop:=w.cps.toList≠[]/\∀k∈w.cps.toList,k≠32/\k≠10/\k≠40/\k≠41
theorem smfg:∀c∈(GR.Internal.SM++GR.Internal.FG).cps.toList,c≠32/\c≠10/\c≠40/\c≠41:=gB
theorem mZ {w:Str} (h:GR.Internal.isName w=true):A4 w/\w.length<=12:=by
 unfold GR.Internal.isName at h
 simp only[eZ,decide_eq_true_eq]at h
 refine⟨⟨fun z=>?_,fun k hk=>smfg k (GR.Internal.allIn_mem h.2 k hk)⟩,h.1.1.1.2⟩
 have:=ET w
 rw[z]at this
 have:=h.1.1.1.1
 simp at*
 lia
theorem fgp:∀c∈GR.Internal.FG.cps.toList,c≠32/\c≠10/\c≠40/\c≠41:=gB
theorem Co {n:Int} (h0:0<=n) (h1:n<10^60):A4 (TM.Internal.numS n)/\(TM.Internal.numS n).length<=60:=by
 obtain⟨f1,f2,f3⟩:=GR.Internal.str_fig (k:=59) h0 h1
 refine⟨⟨fun z=>?_,fun k hk=>fgp k (f1 k hk)⟩,f3⟩
 obtain⟨c,r,e⟩:=GR.Internal.first_of (x:=TM.Internal.numS n) f2
 rw[z]at e
 cases e
def okW (w:Str):Prop:=w≠""/\w.length<=60/\∀c∈w.cps.toList,c<128
structure Gi (x:Str) (ts:List Str) (a b:Nat):Prop where
 op:Op x ts
 ln:x.length+ 1<=a
 wl:ts.length<=b
 ok:∀w∈ts,okW w
theorem A5 {x:Str} {n:Nat} (hp:A4 x) (hl:x.length<=n) (hn:n<=60) (ha:∀c∈x.cps.toList,c<128):Gi x [x] (n+ 1) 1:=by
 refine⟨Op.word hp.1 hp.2,by lia,cq _,fun w hw=>?_⟩
 rw[bb.mp hw]
 refine⟨fun z=>hp.1 (by rw[z];rfl),by lia,ha⟩
theorem Jc:∀c∈(GR.Internal.SM++GR.Internal.FG).cps.toList,c<128:=gB
theorem Jd:∀c∈GR.Internal.FG.cps.toList,c<128:=gB
theorem A6 {w:Str} (h:isName w=true):Gi w [w] 13 1:=by
 obtain⟨h1,h2⟩:=mZ h
 refine A5 h1 h2 (by decide) fun c hc=>Jc c ?_
 unfold isName at h
 simp only[eZ]at h
 exact GR.Internal.allIn_mem h.2 c hc
theorem G7 {n:Int} (h0:0<=n) (h1:n<10^60):Gi (TM.Internal.numS n) [TM.Internal.numS n] 61 1:=by
 obtain⟨a,b⟩:=Co h0 h1
 obtain⟨f1,_,_⟩:=GR.Internal.str_fig (k:=59) h0 h1
 exact A5 a b (by decide) fun c hc=>Jd c (f1 c hc)
def dtk (n:Str) (t:TM.Internal.Tr):List Str:=("(":Str)::"def"::n::(t.tk++[(")":Str)])
def y8:List Str->List TM.Internal.Tr->List Str
 |n::ns,t::ts=>dtk n t++y8 ns ts
 |_,_=>[]
theorem ye:∀{ns:List Str} {ts:List TM.Internal.Tr},ns.length=ts.length->(∀n∈ns,isName n=true)->TM.Internal.oks ts->(∀t∈ts,t.nest<=24)->∀(rows:List Dt) (names:List Str) (roots:List Dt),rows.length+TM.Internal.szs ts<=160->
  jr (y8 ns ts) rows names roots=some (names++ns,roots++(TM.Internal.offs ts rows.length).map TM.Internal.kD,rows++TM.Internal.rws ts rows.length)
 |[],[],_,_,_,_,rows,names,roots,_=>by
  show jr [] rows names roots=_
  rw[GR.Internal.defs_nil,TM.Internal.offs,TM.Internal.rws,aD,aS,aD,aD]
 |n::ns,t::ts,hl,hn,ho,hd,rows,names,roots,hz=>by
  rw[TM.Internal.oks]at ho
  rw[TM.Internal.szs]at hz
  have e:=TM.Internal.rd_all 24 t ho.1 (hd t ah) ((")":Str)::y8 ns ts) rows (by lia)
  have lr:(rows++t.rw rows.length).length=rows.length+t.sz:=by rw[aN,TM.Internal.Tr.rw_len]
  have h1:y8 (n::ns) (t::ts)=("(":Str)::"def"::n::(t.tk++(")":Str)::y8 ns ts):=by
   show dtk n t++y8 ns ts=_
   unfold dtk
   rw[aQ,aQ,aQ,bL]
   rfl
  rw[h1,GR.Internal.defs_yes (hn n ah) e,ye (by simpa using hl) (fun x hx=>hn x (ai _ hx)) ho.2 (fun x hx=>hd x (ai _ hx)) _ _ _ (by rw[lr];lia),lr,TM.Internal.offs,TM.Internal.rws,aB,bL,bL,bL]
  rfl
theorem Cp {ns:List Str} {ts:List TM.Internal.Tr} (hl:ns.length=ts.length) (hn:∀n∈ns,isName n=true) (ho:TM.Internal.oks ts) (hd:∀t∈ts,t.nest<=24) (hz:TM.Internal.szs ts<=160) (h1:1<=ns.length) (h12:ns.length<=12):mz (y8 ns ts)=some (ns,(TM.Internal.offs ts 0).map TM.Internal.kD,TM.Internal.rws ts 0):=by
 unfold mz
 rw[ye hl hn ho hd [] [] [] (by rw[aR,cE];exact hz)]
 show(if 1<=([]++ns).length/\([]++ns).length<=12 then _ else _)=_
 rw[bP,gX ⟨h1,h12⟩]
 rfl
theorem G8 {ws:List Str} (hl:ws.length<=30000) (h:∀w∈ws,okW w):WOk ws:=⟨hl,fun x hx=>by
 obtain⟨a,b,c⟩:=h x hx
 exact⟨a,by lia,fun k hk=>by have:=c k hk;lia⟩⟩
mutual
def gF:Dt->Bool
 | .flat v=>(match v with| .int _=>true| .str _=>true|_=>false)
 | .tup ds=>decide (ds.length<=1000)&&gFs ds
 | .lst _=>false
def gFs:List Dt->Bool
 |[]=>true
 |d::ds=>gF d&&gFs ds
end
mutual
theorem G9 {K:PySem.W.Frag} {H:Hp}:∀{x:V} {d:Dt},TAt K H x d->gF d=true->Im H x d
 |_,_,.flat h,g=> .flat (by
   rename_i v
   cases v with
   |int n=>rfl
   |str z=>rfl
   |_=>simp[gF]at g)
 |_,_,.tup h hs,g=>by
  rw[gF,eZ]at g
  exact .tup h (qw hs g.2)
theorem qw {K:PySem.W.Frag} {H:Hp}:∀{xs:List V} {ds:List Dt},kW K H xs ds->gFs ds=true->Ims H xs ds
 |_,_,.nil,_=> .nil
 |_,_,.cons h t,g=>by
  rw[gFs,eZ]at g
  exact .cons (G9 h g.1) (qw t g.2)
end
theorem Hc {H:Hp}:∀{ps:List Nat} {xs:List V},Ims H xs (ps.map TM.Internal.kD)->xs=ps.map fun k:Nat=>V.int (k:Int)
 |[],xs,h=>by cases h;rfl
 |p::ps,xs,h=>by
  rw[aB,TM.Internal.kD]at h
  cases h with
  |cons h t=>
   cases h
   rw[Hc t]
   rfl
section
variable {J A W W2:Str} {N:Int}
theorem HB {k:Nat} (h:k<8):gdP (prL J A W N k) (prL J A W N k) (hoL k):=by
 rcases qh h with rfl|rfl|rfl|rfl|rfl|rfl|rfl|rfl<;>(repeat' first|exact trivial|exact rfl|exact gX rfl|exact⟨(by show 1<=100;decide),List.pairwise_singleton _ _⟩|exact⟨gB,by decide⟩|(show(_:Nat)<=100;decide)|apply And.intro)
theorem gb_k {k:Nat} (h:k<8):gdB (prL J A W N k) [0,rtK k]=true/\(prL J A W N k).length<=1000/\(hoL k).length=(prL J A W N k).length:=by
 rcases qh h with rfl|rfl|rfl|rfl|rfl|rfl|rfl|rfl<;>exact⟨by kernel_rfl,of_decide_eq_true (by kernel_rfl),by kernel_rfl⟩
theorem rt_k {k:Nat} (h:k<8):∃e,(prL J A W N k)[0]?=some e/\(if e.1.isF=true then G0 [W,W2] 1 else G0 [W,W2] 0)=lkS e.2:=by
 rcases qh h with rfl|rfl|rfl|rfl|rfl|rfl|rfl|rfl<;>exact⟨_,rfl,by first|exact gX rfl|exact gN (fun z=>nomatch z)⟩
theorem Je {k:Nat} (h:k<8):(prL J A W N k)[rtK k]?=some ((Ro.name W,[(W,("def",0))]):Ro×Sl):=by
 rcases qh h with rfl|rfl|rfl|rfl|rfl|rfl|rfl|rfl<;>kernel_rfl
theorem sE {k i:Nat} {e:Ro×Sl} (h:(prL J A W N k)[i]?=some e):prO J A W N k i=lkS e.2:=by unfold prO;rw[h]
theorem sF {k i:Nat} {ρ:Ro} (h:(prR J A W N k)[i]?=some ρ):∃sc,(prL J A W N k)[i]?=some (ρ,sc):=by
 unfold prR at h
 rw[aK]at h
 obtain⟨e,he,rfl⟩:=cN.mp h
 exact⟨e.2,he⟩
theorem HC {k:Nat} (h:k<8):∀ρ∈prR J A W N k,ρ.ok:=fun ρ hρ=>by
 obtain⟨i,hi⟩:=bY.mp hρ
 obtain⟨sc,hs⟩:=sF hi
 exact(vp (HB h) hs).1
theorem gd_k {k:Nat} (h:k<8) (hw:W≠W2):Bj [W,W2] [0,rtK k] (prR J A W N k) (prO J A W N k):=by
 obtain⟨e,l1,l2⟩:=gb_k (J:=J) (A:=A) (W:=W) (N:=N) h
 have ll:(prR J A W N k).length=(prL J A W N k).length:=aC _
 have rt2:=Je (J:=J) (A:=A) (W:=W) (N:=N) h
 obtain⟨e0,rt0,ro0⟩:=rt_k (J:=J) (A:=A) (W:=W) (W2:=W2) (N:=N) h
 have at':∀(i:Nat) (ρ:Ro) (sc:Sl),(prL J A W N k)[i]?=some (ρ,sc)->(∀c∈ρ.pl,(match c with| .ofNat m=>decide (i<m)&&decide (m<(prL J A W N k).length)| .negSucc _=>false)=true)/\([0,rtK k].contains i||(aa i).any fun k'=>match(prL J A W N k)[k']? with|some e=>e.1.pl.contains (i:Int)|none=>false)=true:=fun i ρ sc hs=>by
  have:=bt.mp e i (af.mpr (au.mp hs).1)
  rw[hs]at this
  simp only[eZ]at this
  exact⟨fun q hq=>bt.mp this.1 q hq,this.2⟩
 refine⟨by simp[hw],by show 2<=12;decide,rfl,HC h,by lia,fun i r hr=>?_,fun i r ρ hr hρ=>?_,fun i ρ j c e' hi hc he=>?_,fun i hi=>?_,fun i x hi=>?_⟩
 ·match i,hr with
  |0,hr=>cases hr;have:=(au.mp rt0).1;lia
  |1,hr=>cases hr;have:=(au.mp rt2).1;lia
 ·obtain⟨sc,hs⟩:=sF hρ
  match i,hr with
  |0,hr=>cases hr;rw[rt0]at hs;cases hs;rw[sE rt0];exact ro0.symm
  |1,hr=>cases hr;rw[rt2]at hs;cases hs;rw[sE rt2];rfl
 ·obtain⟨sc,hs⟩:=sF hi
  obtain⟨a1,_⟩:=at' i ρ sc hs
  have:=a1 c (aM hc)
  cases c with
  |negSucc z=>cases this
  |ofNat m=>
   have this:(decide (i<m)&&decide (m<(prL J A W N k).length))=true:=this
   rw[eZ]at this
   refine⟨m,rfl,of_decide_eq_true this.1,?_⟩
   have z:=A3 (vp (HB h) hs).2.1 (bt.mpr fun c hc=>by have:=a1 c hc;cases c with|ofNat m=>rfl|negSucc z=>cases this) hc he
   obtain⟨e2,hm,z2⟩:=cN.mp z
   rw[sE hm,sE hs,z2,Jb]
 ·obtain⟨ρ,hρ⟩:∃ρ,(prR J A W N k)[i]?=some ρ:=⟨_,bu hi⟩
  obtain⟨sc,hs⟩:=sF hρ
  obtain⟨_,hk⟩:=at' i ρ sc hs
  rw[Bool.or_eq_true]at hk
  rcases hk with hk|hk
  ·have:i∈[0,rtK k]:=by simpa using hk
   rcases aj.mp this with e|e
   ·exact .inl ⟨0,by rw[e];rfl⟩
   ·exact .inl ⟨1,by rw[bb.mp e];rfl⟩
  ·obtain⟨k',h1,h2⟩:=ba.mp hk
   cases hm:(prL J A W N k)[k']? with
   |none=>rw[hm]at h2;cases h2
   |some e2=>
    rw[hm]at h2
    refine .inr ⟨k',e2.1,af.mp h1,?_,by simpa using h2⟩
    unfold prR
    rw[aK,hm]
    rfl
 ·obtain⟨sc,hs⟩:=sF hi
  obtain⟨_,_,hh,_,e1,e2⟩:=vp (HB h) hs
  rw[sE hs]
  show ∃h,lkS sc x=some h
  rw[show lkS sc x=hh from e1]
  exact cJ.mp e2
theorem ho_k {k i:Nat} {ρ:Ro} (h:k<8) (hi:(prR J A W N k)[i]?=some ρ):hoK k i=duo (prO J A W N k) i ρ:=by
 obtain⟨sc,hs⟩:=sF hi
 obtain⟨_,_,hh,z,e1⟩:=vp (HB h) hs
 have e2:hoK k i=hh:=by unfold hoK;rw[bh,z];rfl
 rw[e2]
 cases ρ with
 |name x=>show hh=prO J A W N k i x;rw[sE hs];exact(show lkS sc x=hh/\_ from e1).1.symm
 |_=>exact e1
def pj (s:Ms):Nat×Option Str×List Vl×List Stp×List Vl:=(s.bg,s.en,s.de,s.st,s.rd)
def n1K (k:Nat):Nat:=([2,9,6,12,7,4,4,9]:List Nat).getD k 0
def b1K (k:Nat):Nat:=([1,4,3,6,3,2,2,4]:List Nat).getD k 0
theorem it_k {k:Nat} (h:k<8):(itU (prR J A W N k) (hoK k) (n1K k) ⟨0,none,[],[],[],[.beg 0 .nil],[]⟩).map pj=some (b1K k,none,[],[],[vK A k]):=by
 have two:(itU (prR J A W N 2) (hoK 2) 6 ⟨0,none,[],[],[],[.beg 0 .nil],[]⟩).map pj=some (b1K 2,none,[],[],[vK A 2]):=by
  have e:itU (prR J A W N 2) (hoK 2) 6 ⟨0,none,[],[],[],[.beg 0 .nil],[]⟩=(match(if A=A then some (oS 0 (.fn 3 .nil 2) (nh (.rcd (.cons A (.fn 3 .nil 2) .nil) 1) 0 0 ⟨3,none,[],[(1,1),(2,2)],[],[],[]⟩))else none)with|some s=>some s|none=>none):=by kernel_rfl
  rw[e,gX rfl]
  rfl
 rcases qh h with rfl|rfl|rfl|rfl|rfl|rfl|rfl|rfl
 ·kernel_rfl
 ·kernel_rfl
 ·exact two
 ·kernel_rfl
 ·kernel_rfl
 ·kernel_rfl
 ·kernel_rfl
 ·kernel_rfl
theorem Jf {k bg:Nat} {me:List (Int×Int×Int)} {ha:List (Int×Int)} (h:k<8):(itU (prR J A W N k) (hoK k) 2 ⟨bg,none,me,ha,[vK A k],[.beg (rtK k:Int) .nil],[]⟩).map pj=some (bg+ 1,none,[vK A k],[],[vK A k]):=by
 rcases qh h with rfl|rfl|rfl|rfl|rfl|rfl|rfl|rfl<;>kernel_rfl
theorem Jg {k:Nat} (h:k<8):∃n s',200*n<=8000000/\wL (prR J A W N k) (hoK k) 100 n [0,rtK k] s0M s'/\s'.en=some ("done":Str)/\s'.de=[vK A k,vK A k]:=by
 obtain⟨s1,h1,e1⟩:=cN.mp (it_k (J:=J) (A:=A) (W:=W) (N:=N) h)
 obtain⟨b,en,me,ha,d,t,r⟩:=s1
 simp only[pj,Prod.mk.injEq]at e1
 obtain⟨rfl,rfl,rfl,rfl,rfl⟩:=e1
 obtain⟨s2,h2,e2⟩:=cN.mp (Jf (J:=J) (A:=A) (W:=W) (N:=N) (bg:=b1K k) (me:=me) (ha:=ha) h)
 obtain⟨b,en,me2,ha2,d,t,r⟩:=s2
 simp only[pj,Prod.mk.injEq]at e2
 obtain⟨rfl,rfl,rfl,rfl,rfl⟩:=e2
 have l:b1K k<=6/\n1K k<=12:=by rcases qh h with rfl|rfl|rfl|rfl|rfl|rfl|rfl|rfl<;>decide
 have r1:=(ud (tu:=100) (HC h) (.inr rfl) (show b1K k<=100 by lia) h1).1
 have r2:=(ud (tu:=100) (HC h) (.inr rfl) (show b1K k+ 1<=100 by lia) h2).1
 exact⟨_,_,by show 200*(n1K k+(2+ 0+ 3)+ 3)<=_;lia,.next r1 rfl rfl (.next r2 rfl rfl .done),rfl,rfl⟩
end
open GR.Internal (Op Gp toks mz jr gQ isName WOk TAt kW)
theorem JY {a:TM.Internal.Tr} (h:a.ok):TM.Internal.oks [a]:=by rw[TM.Internal.oks,TM.Internal.oks];exact⟨h,trivial⟩
theorem Jh {a b:TM.Internal.Tr} (h:a.ok) (k:b.ok):TM.Internal.oks [a,b]:=by rw[TM.Internal.oks];exact⟨h,JY k⟩
theorem A7 {w:Str} (h:isName w=true):(nmT w).ok:=by unfold nmT;rw[TM.Internal.Tr.ok,TM.Internal.oks];exact⟨h,rfl,trivial⟩
theorem A8 {n:Int} (h:0<=n/\n<10^60):(nuT n).ok:=by unfold nuT;rw[TM.Internal.Tr.ok,TM.Internal.oks];exact⟨h,rfl,trivial⟩
theorem wM {κ:TM.Internal.Kn} {a:TM.Internal.Tr} (hk:κ.ok) (e:1=κ.ar) (h:a.ok):(TM.Internal.Tr.mk κ [a]).ok:=by rw[TM.Internal.Tr.ok];exact⟨hk,e,JY h⟩
theorem Cq {κ:TM.Internal.Kn} {a b:TM.Internal.Tr} (hk:κ.ok) (e:2=κ.ar) (h:a.ok) (k:b.ok):(TM.Internal.Tr.mk κ [a,b]).ok:=by rw[TM.Internal.Tr.ok];exact⟨hk,e,Jh h k⟩
theorem oks3 {a b c:TM.Internal.Tr} (h:a.ok) (k:b.ok) (l:c.ok):TM.Internal.oks [a,b,c]:=by rw[TM.Internal.oks];exact⟨h,Jh k l⟩
section
variable {J A W:Str} {N:Int}
theorem Ji (hJ:isName J=true) (hN:0<=N/\N<10^60):(fnT J N).ok:=wM hJ rfl (A8 hN)
theorem Hd {k:Nat} (hk:k<8) (hJ:isName J=true) (hA:isName A=true) (hN:0<=N/\N<10^60):(prT J A N k).ok:=by
 have f:=Ji hJ hN
 have rc:(TM.Internal.Kn.rcd [A]).ok:=⟨by show 1<=6;decide,fun w hw=>by rw[bb.mp hw];exact hA⟩
 have cl:(TM.Internal.Kn.op "call" 2).ok:=(by decide+kernel:(("call",2):Str×Nat)∈TM.Internal.ops)
 rcases qh hk with rfl|rfl|rfl|rfl|rfl|rfl|rfl|rfl
 ·exact f
 ·exact Cq cl rfl (wM hA rfl (A7 hA)) f
 ·exact wM hA rfl (wM rc rfl f)
 ·show(TM.Internal.Tr.mk (.op "at" 3) [.mk (.row 2) [nuT 3,fnT J N],nuT 1,nuT 4]).ok
  rw[TM.Internal.Tr.ok]
  exact⟨(by decide+kernel:(("at",3):Str×Nat)∈TM.Internal.ops),rfl,oks3 (Cq (show 2<=8 by decide) rfl (A8 (by decide)) f) (A8 (by decide)) (A8 (by decide))⟩
 ·exact Cq hA rfl f (A7 hA)
 ·exact wM rc rfl f
 ·exact wM hA rfl f
 ·exact Cq cl rfl (wM hA rfl f) (A8 (by decide))
theorem JZ {k:Nat} (h:k<8):(prR J A W N k).map Ro.d=TM.Internal.rws [prT J A N k,nmT W] 0/\TM.Internal.offs [prT J A N k,nmT W] 0=[0,rtK k]/\gFs (TM.Internal.rws [prT J A N k,nmT W] 0)=true/\TM.Internal.szs [prT J A N k,nmT W]<=160/\(prT J A N k).nest<=24/\(nmT W).nest<=24:=by
 rcases qh h with rfl|rfl|rfl|rfl|rfl|rfl|rfl|rfl<;>exact⟨by kernel_rfl,by kernel_rfl,by kernel_rfl,of_decide_eq_true (by kernel_rfl),of_decide_eq_true (by kernel_rfl),of_decide_eq_true (by kernel_rfl)⟩
theorem He {W2:Str} {k:Nat} (hk:k<8) (hJ:isName J=true) (hA:isName A=true) (hW:isName W=true) (hW2:isName W2=true) (hN:0<=N/\N<10^60):mz (y8 [W,W2] [prT J A N k,nmT W])=some (([W,W2]:List Str),([0,rtK k]:List Nat).map TM.Internal.kD,(prR J A W N k).map Ro.d):=by
 obtain⟨e1,e2,_,e4,e5,e6⟩:=JZ (J:=J) (A:=A) (W:=W) (N:=N) hk
 rw[e1,<-e2]
 refine Cp rfl (fun n hn=>?_) (Jh (Hd hk hJ hA hN) (A7 hW)) (fun t ht=>?_) e4 (by show 1<=2;decide) (by show 2<=12;decide)
 ·rcases aj.mp hn with rfl|hn
  ·exact hW
  ·rw[bb.mp hn];exact hW2
 ·rcases aj.mp ht with rfl|ht
  ·exact e5
  ·rw[bb.mp ht];exact e6
end
structure Gq (x:Str) (ts:List Str) (a:Nat):Prop where
 g:Gp x ts
 l:x.length<=a
 o:∀w∈ts,okW w
theorem Gq.le {x:Str} {ts:List Str} {a b:Nat} (h:Gq x ts a) (k:autoParam (a<=b) L2.Internal.auD._auto_1):Gq x ts b:=⟨h.g,ck h.l k,h.o⟩
theorem ue {ts us:List Str} (h:∀w∈ts,okW w) (k:∀w∈us,okW w):∀w∈ts++us,okW w:=fun w hw=>(ao.mp hw).elim (h w) (k w)
def Jj (w:Str):Bool:=decide (w≠"")&&decide (w.length<=60)&&w.cps.toList.all fun c=>decide (c<128)
theorem wN {ts:List Str} (h:ts.all Jj=true):∀w∈ts,okW w:=fun w hw=>by
 have:=bt.mp h w hw
 unfold Jj at this
 simp only[eZ,decide_eq_true_eq,bt]at this
 exact⟨this.1.1,this.1.2,this.2⟩
theorem Gq.app {x y:Str} {ts us:List Str} {a b:Nat} (h:Gq x ts a) (k:Gq y us b):Gq (x++y) (ts++us) (a+b):=⟨h.g.app k.g,by rw[Str.length_append];have:=h.l;have:=k.l;lia,ue h.o k.o⟩
theorem Gq.num {x y z:Str} {ts us:List Str} {a b:Nat} {n:Int} (h:Gq x ts a) (hn:0<=n/\n<10^60) (hz:(")":Str)++y=z) (k:Gq y us b):Gq (x++TM.Internal.numS n++z) (ts++[TM.Internal.numS n]++[(")":Str)]++us) (a+ 61+b):=by
 have g:=G7 hn.1 hn.2
 rw[<-hz,<-GR.Internal.cat_assoc]
 refine⟨(h.g.app_op g.op).close.app k.g,?_,ue (ue (ue h.o g.ok) (wN gB)) k.o⟩
 rw[Str.length_append,Str.length_append,Str.length_append,show(")":Str).length=1 by decide+kernel]
 have:=h.l
 have:=k.l
 have:=g.ln
 lia
theorem jU {x:Str} {ts:List Str} {a:Nat} (h:(decide ((T1.W x.cps.toList).2=[])&&decide ((T1.W x.cps.toList).1.map GR.Internal.St1=ts)&&decide (x.length<=a)&&ts.all Jj)=true):Gq x ts a:=by
 simp only[eZ,decide_eq_true_eq]at h
 exact⟨h.1.1,h.1.2,wN h.2⟩
theorem Gq.wd {x y z:Str} {ts us:List Str} {a b:Nat} {w:Str} (h:Gq x ts a) (hw:isName w=true) (hz:(" ":Str)++y=z) (k:Gq y us b):Gq (x++w++z) (ts++[w]++us) (a+ 14+b):=by
 have g:=A6 hw
 refine⟨(h.g.app_op g.op).gap_then hz k.g,?_,ue (ue h.o g.ok) k.o⟩
 rw[<-hz,Str.length_append,Str.length_append,Str.length_append,show(" ":Str).length=1 by decide+kernel]
 have:=h.l
 have:=k.l
 have:=g.ln
 lia
theorem Gq.wc {x y z:Str} {ts us:List Str} {a b:Nat} {w:Str} (h:Gq x ts a) (hw:isName w=true) (hz:(")":Str)++y=z) (k:Gq y us b):Gq (x++w++z) (ts++[w]++[(")":Str)]++us) (a+ 14+b):=by
 have g:=A6 hw
 rw[<-hz,<-GR.Internal.cat_assoc]
 refine⟨(h.g.app_op g.op).close.app k.g,?_,ue (ue (ue h.o g.ok) (wN gB)) k.o⟩
 rw[Str.length_append,Str.length_append,Str.length_append,show(")":Str).length=1 by decide+kernel]
 have:=h.l
 have:=k.l
 have:=g.ln
 lia
def fnS (J:Str) (N:Int):Str:="(fn "++J++" "++TM.Internal.numS N++")"
def txS (J A:Str) (N:Int):Nat->Str
 |0=>fnS J N
 |1=>"(call (fn "++A++" "++A++") "++fnS J N++")"
 |2=>"(get (rec "++A++" "++fnS J N++") "++A++")"
 |3=>"(at (row 3 "++fnS J N++") 1 4)"
 |4=>"(let "++A++" "++fnS J N++" "++A++")"
 |5=>"(rec "++A++" "++fnS J N++")"
 |6=>"(tag "++A++" "++fnS J N++")"
 |_=>"(call (fn "++A++" "++fnS J N++") 5)"
def duS (A:Str):Nat->Str
 |5=>"rec "++A
 |6=>"tag "++A
 |_=>"fn"
def pgS (J A W W2:Str) (N:Int) (k:Nat):Str:="(def "++W++" "++txS J A N k++")"++"\n(def "++W2++" "++W++")"
section
variable {J A W W2:Str} {N:Int}
theorem fn_q (hJ:isName J=true) (hN:0<=N/\N<10^60):Gq (fnS J N) (fnT J N).tk 100:=by
 have e0:Gq "" [] 0:=jU gB
 have q:=((jU (x:="(fn ") (ts:=["(","fn"]) (a:=4) gB).wd hJ (z:=" ") gB e0).num hN (z:=")") gB e0
 exact q.le
theorem J0 {k:Nat} (hk:k<8) (hJ:isName J=true) (hA:isName A=true) (hN:0<=N/\N<10^60):Gq (txS J A N k) (prT J A N k).tk 300:=by
 have e0:Gq "" [] 0:=jU gB
 have e1:Gq ")" [")"] 1:=jU gB
 have es:Gq " " [] 1:=jU gB
 have f:=fn_q hJ hN
 have s:∀{x:Str} {ts:List Str} {a:Nat},Gq x ts a->Gq (x++A++" ") (ts++[A]++[]) (a+ 14+ 0):=fun h=>h.wd hA gB e0
 rcases qh hk with rfl|rfl|rfl|rfl|rfl|rfl|rfl|rfl
 ·exact f.le
 ·have q:=(((s (jU (x:="(call (fn ") (ts:=["(","call","(","fn"]) (a:=20) gB)).wc hA (z:=") ") gB es).app f).app e1
  exact q.le
 ·have q:=(((s (jU (x:="(get (rec ") (ts:=["(","get","(","rec"]) (a:=20) gB)).app f).app (jU (x:=") ") (ts:=[")"]) (a:=2) gB)).wc hA (z:=")") gB e0
  exact q.le
 ·have q:=((jU (x:="(at (row 3 ") (ts:=["(","at","(","row","3"]) (a:=20) gB).app f).app (jU (x:=") 1 4)") (ts:=[")","1","4",")"]) (a:=20) gB)
  exact q.le
 ·have q:=(((s (jU (x:="(let ") (ts:=["(","let"]) (a:=20) gB)).app f).app es).wc hA (z:=")") gB e0
  exact q.le
 ·have q:=((s (jU (x:="(rec ") (ts:=["(","rec"]) (a:=20) gB)).app f).app e1
  exact q.le
 ·have q:=((s (jU (x:="(tag ") (ts:=["(","tag"]) (a:=20) gB)).app f).app e1
  exact q.le
 ·have q:=((s (jU (x:="(call (fn ") (ts:=["(","call","(","fn"]) (a:=20) gB)).app f).app (jU (x:=") 5)") (ts:=[")","5",")"]) (a:=20) gB)
  exact q.le
theorem pg_q {k:Nat} (hk:k<8) (hJ:isName J=true) (hA:isName A=true) (hW:isName W=true) (hW2:isName W2=true) (hN:0<=N/\N<10^60):Gq (pgS J A W W2 N k) (y8 [W,W2] [prT J A N k,nmT W]) 1000:=by
 have e0:Gq "" [] 0:=jU gB
 have q:=((((((jU (x:="(def ") (ts:=["(","def"]) (a:=20) gB).wd hW (z:=" ") gB e0).app (J0 hk hJ hA hN)).app (jU (x:=")") (ts:=[")"]) (a:=1) gB)).app (jU (x:="\n(def ") (ts:=["(","def"]) (a:=20) gB)).wd hW2 (z:=" ") gB e0).wc hW (z:=")") gB e0
 have e:y8 [W,W2] [prT J A N k,nmT W]=((["(","def"]:List Str)++[W]++[]++(prT J A N k).tk++([")"]:List Str)++(["(","def"]:List Str)++[W2]++[]++[W]++[(")":Str)]++[]):=by
  show dtk W (prT J A N k)++(dtk W2 (nmT W)++[])=_
  unfold dtk
  rw[show(nmT W).tk=[W] by kernel_rfl]
  simp only[bL,aQ,bP,aD]
 rw[e]
 exact q.le
end
theorem J4:("abcdefghijklmnopqrstuvwxyz0123456789":Str).cps.toList.length=36:=gB
theorem emN (a:Int) {m:Int} (h:0<m):∃n:Nat,a%m=(n:Int)/\(n:Int)<m:=by
 have:=fD a (fE h)
 have:=fF a h
 exact⟨(a%m).toNat,by lia,by lia⟩
theorem oj (c:Nat):(⟨#[c]⟩:Str).length=1:=rfl
def sgn (k:Nat):Nat:=("abcdefghijklmnop":Str).cps.toList.getD k 0
def w1 (A B:Str) (k:Nat):Str:=A++⟨#[sgn k]⟩++B
def t7 (z:Int):Nat:=(atI ("t7":Str).cps.toList z).getD 0
def part (j:Nat):Int:=([8,4,2,1]:List Int).getD j 1
def bit (k j:Nat):Nat:=t7 ((0+(k:Int))/part j%2)
def w2 (x:Str) (k:Nat):Nat->Str
 |0=>x
 |j+ 1=>w2 x k j++⟨#[bit k j]⟩
theorem A9 {l:List Nat} {i:Nat} (h:i<l.length):atI l (0+(i:Int))=some (l.getD i 0):=by
 rw[fG,bh,bu h]
 exact gv (bu h)
theorem m7 (a b:Str):(a++b).cps.toList=a.cps.toList++b.cps.toList:=fz
theorem Jk {x:Str} {j:Int} (h0:0<=j) (h1:j<=x.length):(Txt.slice x none (some j)).cps.toList=x.cps.toList.take j.toNat:=by
 have e:Txt.slice x none (some j)=⟨((x.cps.toList.drop (0:Int).toNat).take (j-0).toNat).toArray⟩:=eq_of_beq (PyProof.Rows.slice_closes_to ⟨h0,h1⟩)
 rw[e]
 show((x.cps.toList.drop 0).take (j-0).toNat)=_
 rw[bE,Int.sub_zero]
theorem EU {x:Str} {j:Int} (h0:0<=j) (h1:j<=x.length):(Txt.slice x (some j) none).cps.toList=x.cps.toList.drop j.toNat:=by
 have e:Txt.slice x (some j) none=⟨((x.cps.toList.drop j.toNat).take ((x.cps.toList.length:Int)-j).toNat).toArray⟩:=eq_of_beq (PyProof.Rows.slice_closes_from ⟨h0,h1⟩)
 rw[e]
 show((x.cps.toList.drop j.toNat).take ((x.cps.toList.length:Int)-j).toNat)=_
 rw[bF]
 rw[aU]
 lia
theorem EV:∀c∈("abcdefghijklmnopqrstuvwxyz0123456789":Str).cps.toList,c∈(GR.Internal.SM++GR.Internal.FG).cps.toList:=gB
theorem Hf:∀c∈GR.Internal.SM.cps.toList,c∈(GR.Internal.SM++GR.Internal.FG).cps.toList:=gB
theorem EW:∀i:Nat,i<26->("abcdefghijklmnopqrstuvwxyz0123456789":Str).cps.toList.getD i 0∈GR.Internal.SM.cps.toList:=gB
def Nms (x:Str):Prop:=(∃c r,x.cps.toList=c::r/\c∈GR.Internal.SM.cps.toList)/\∀c∈x.cps.toList,c∈(GR.Internal.SM++GR.Internal.FG).cps.toList
theorem Hg:∀v∈GR.Internal.KWV,∃s:Str,v= .str s/\s.length<=4:=fun v hv=>by
 unfold GR.Internal.KWV at hv
 simp only[aj,bz,or_false]at hv
 rcases hv with rfl|rfl|rfl|rfl|rfl|rfl|rfl|rfl|rfl|rfl|rfl|rfl|rfl|rfl|rfl<;>exact⟨_,rfl,gB⟩
theorem Hh {w:Str} {l:List Nat} (e:w.cps.toList=l) (h5:5<=l.length) (h12:l.length<=12) (h0:∃c,l[0]?=some c/\c∈GR.Internal.SM.cps.toList) (ha:∀c∈l,c∈(GR.Internal.SM++GR.Internal.FG).cps.toList):GR.Internal.isName w=true:=by
 have hl:w.length=l.length:=by rw[<-e];rfl
 obtain⟨c,h0,hc⟩:=h0
 have f1:GR.Internal.firstIn w GR.Internal.SM=true:=by
  unfold GR.Internal.firstIn
  rw[e]
  cases l with
  |nil=>cases h0
  |cons d r=>cases h0;exact ir hc
 have f2:GR.Internal.allIn w (GR.Internal.SM++GR.Internal.FG)=true:=bt.mpr fun c hc=>ir (ha c (e▸hc))
 have hk:inV (.str w) GR.Internal.KWV=false:=by
  cases z:inV (.str w) GR.Internal.KWV with
  |false=>rfl
  |true=>
   unfold inV at z
   obtain⟨y,hy,q⟩:=ba.mp z
   obtain⟨s,rfl,hs⟩:=Hg y hy
   have:s=w:=by simpa[eqV]using q
   rw[this]at hs
   lia
 unfold GR.Internal.isName
 rw[hl,ir (by lia:1<=l.length),ir h12,hk,f1,f2]
 rfl
theorem Dl:∀k,k<16->sgn k∈GR.Internal.SM.cps.toList:=gB
theorem Hi:∀k:Nat,k<16->∀c∈[bit k 0,bit k 1,bit k 2,bit k 3],c∈(GR.Internal.SM++GR.Internal.FG).cps.toList:=gB
theorem Jl {x:Str} {a:Int} {k:Nat} (hx:Nms x) (h4:4<=x.length) (h11:x.length<=11) (a0:0<=a) (a1:a<=x.length) (hk:k<16):GR.Internal.isName (w1 (Txt.slice x none (some a)) (Txt.slice x (some a) none) k)=true:=by
 have hl:x.cps.toList.length=x.length:=rfl
 obtain⟨⟨c0,r,hc,hs⟩,xin⟩:=hx
 refine Hh (l:=x.cps.toList.take a.toNat++[sgn k]++x.cps.toList.drop a.toNat) (by rw[w1,m7,m7,Jk a0 a1,EU a0 a1]) ?_ ?_ ?_ ?_
 ·rw[aN,aN,aY,aH,aU];lia
 ·rw[aN,aN,aY,aH,aU];lia
 ·by_cases z:a.toNat=0
  ·rw[z];exact⟨sgn k,rfl,Dl k hk⟩
  ·refine⟨c0,?_,hs⟩
   rw[bL,aJ (by rw[aH];lia),List.getElem?_take,gX (by lia),hc]
   rfl
 ·intro d hd
  rcases ao.mp hd with hd|hd
  ·rcases ao.mp hd with hd|hd
   ·exact xin d (List.mem_of_mem_take hd)
   ·rw[bb.mp hd];exact Hf _ (Dl k hk)
  ·exact xin d (bM hd)
theorem Dm (x:Str) (k:Nat):(w2 x k 4).cps.toList=x.cps.toList++[bit k 0,bit k 1,bit k 2,bit k 3]:=by
 simp only[w2,m7,bL]
 rfl
theorem Jn {x:Str} {k:Nat} (hx:Nms x) (h8:x.length<=8) (hk:k<16):GR.Internal.isName (w2 x k 4)=true:=by
 have hl:x.cps.toList.length=x.length:=rfl
 obtain⟨⟨c0,r,hc,hs⟩,xin⟩:=hx
 refine Hh (Dm x k) ?_ ?_ ⟨c0,by rw[hc];rfl,hs⟩ ?_
 ·rw[aN,hc];show 5<=r.length+ 1+ 4;lia
 ·rw[aN];show _+ 4<=12;lia
 ·intro d hd
  rcases ao.mp hd with hd|hd
  ·exact xin d hd
  ·exact Hi k hk d hd
theorem Jo (A B:Str):w1 A B 7≠w1 A B 8:=fun e=>by
 have h:=congrArg (fun z:Str=>z.cps.toList) e
 simp only[w1,m7]at h
 have h2:=bZ (List.append_cancel_right h)
 injection h2 with h3 _
 exact absurd h3 gB
theorem Jp (x:Str):w2 x 7 4≠w2 x 8 4:=fun e=>by
 have h:=congrArg (fun z:Str=>z.cps.toList) e
 simp only[Dm]at h
 exact absurd (bZ h) gB
theorem sG {f:Nat->Str} (i:Nat):(aa (i+ 1)).map f=(aa i).map f++[f i]:=by
 rw[b6,bc]
 rfl
structure Wd (H:Hp) (l:Addr) (ws:List Str):Prop where
 e:H l=some (.lst (ws.map V.str))
 l:ws.length=16
 n:∀x∈ws,GR.Internal.isName x=true
 d:ws.getD 7 ""≠ws.getD 8 ""
def vq:Sp:=fun vs H Q _=>∃(c:Int) (m:Nat),vs=[.int c,.int (m:Int)]/\1<=m/\m<=100/\∀x:Str,x.length=m->Nms x->Q (.str x) H
theorem vt (T:Txt K mg):FO P w base 1 T.d32 vq:=by
 refine T.d32.F.rd iT fun cdv A outer s H vs Q E hr h=>?_
 obtain⟨c,m,rfl,h0,h1,q⟩:=h
 refine⟨_,(gb (pS (i:=2) iT.nd gq)
  (gb (pS (i:=3) iT.nd gq)
  (gb (ky PassesOwn.never rfl (ku rfl T.z_range (f9 (cv 1) gf)) (pN (i:=4) iT.nd)
   (gb (pS (i:=5) iT.nd gj)
   (gb (ic (gL jf (cv 4) gj)
    (gk (pS (i:=5) iT.nd gj))
    gE)
   (gb (pS (i:=3) iT.nd (gA gH (cv 3) (gC z8 (cv 2) (gA iE (cv 0) (cv 5)))))
   (gk (pS (i:=0) iT.nd (gA iK (cv 0) gj)))))))
  (gk (gJ (cv 3)))))),?_⟩
 have sl:=sizeLine_eq
 refine⟨_,rfl,by lia,by lia,ot (fun i σ H2=>∃(y:Str) (c:Int) (o o2:Option V),σ=[some (.int c),some (.int (m:Int)),some (.str "abcdefghijklmnopqrstuvwxyz0123456789"),some (.str y),o,o2]/\H2=H/\y.length=i/\(∀c∈y.cps.toList,c∈(GR.Internal.SM++GR.Internal.FG).cps.toList)/\(0<i->∃c r,y.cps.toList=c::r/\c∈GR.Internal.SM.cps.toList))
  ⟨"",c,none,none,rfl,rfl,rfl,(fun c hc=>nomatch hc),fun z=>absurd z (by decide)⟩ ?_ ?_⟩
 ·rintro i σ H2 hi ⟨y,c,o,o2,rfl,rfl,hy,ha,hf⟩
  have stp:∀n:Int,(n=26\/n=36)->(0<i\/n=26)->∃ch:Nat,atI ("abcdefghijklmnopqrstuvwxyz0123456789":Str).cps.toList (c%n)=some ch/\∃(y':Str),y++⟨#[ch]⟩=y'/\y'.length=i+ 1/\(∀c∈y'.cps.toList,c∈(GR.Internal.SM++GR.Internal.FG).cps.toList)/\∃c r,y'.cps.toList=c::r/\c∈GR.Internal.SM.cps.toList:=fun n hn hi0=>by
   have hp:(0:Int)<n:=by lia
   have a0:=fD c (fE hp)
   have a1:=fF c hp
   obtain⟨ch,e,mm⟩:=CQ ("abcdefghijklmnopqrstuvwxyz0123456789":Str).cps.toList (c%n) a0 (by rw[J4];lia)
   refine⟨ch,e,_,rfl,by rw[Str.length_append,oj,hy],fun d hd=>?_,?_⟩
   ·rw[m7]at hd
    rcases ao.mp hd with hd|hd
    ·exact ha d hd
    ·rw[bb.mp hd];exact EV _ mm
   ·rw[m7]
    rcases hi0 with z|z
    ·obtain⟨d,r,hd,hs⟩:=hf z
     exact⟨d,r++[ch],by rw[hd];rfl,hs⟩
    ·by_cases iz:0<i
     ·obtain⟨d,r,hd,hs⟩:=hf iz
      exact⟨d,r++[ch],by rw[hd];rfl,hs⟩
     ·have e0:y.cps.toList=[]:=bO (show y.length=0 by lia)
      refine⟨ch,[],by rw[e0];rfl,?_⟩
      have h26:=EW (c%n).toNat (by lia)
      have e2:=A9 (l:=("abcdefghijklmnopqrstuvwxyz0123456789":Str).cps.toList) (i:=(c%n).toNat) (by rw[J4];lia)
      rw[show(0:Int)+((c%n).toNat:Int)=c%n by lia,e]at e2
      rw[cH.inj e2]
      exact h26
  show(if(false ^^ decide ((0:Int)+(i:Int)=0))=true then _ else _)
  rw[fg]
  by_cases z:(0:Int)+(i:Int)=0
  ·rw[ir z]
   obtain⟨ch,e,y',rfl,h1',h2',h3'⟩:=stp 26 (.inl rfl) (.inr rfl)
   exact jD ⟨(by show(0:Int)<26;decide),sz gB,gx e ⟨by rw[oj];lia,⟨by decide,by decide⟩,_,_,_,_,rfl,rfl,h1',h2',fun _=>h3'⟩⟩
  ·rw[iI z]
   obtain⟨ch,e,y',rfl,h1',h2',h3'⟩:=stp 36 (.inr rfl) (.inl (by lia))
   exact jA ⟨(by show(0:Int)<36;decide),sz gB,gx e ⟨by rw[oj];lia,⟨by decide,by decide⟩,_,_,_,_,rfl,rfl,h1',h2',fun _=>h3'⟩⟩
 ·rintro σ H2 ⟨y,c,o,o2,rfl,rfl,hy,ha,hf⟩
  exact q y (by lia) ⟨hf (by lia),ha⟩
def uf:Sp:=fun vs H Q _=>∃c:Int,vs=[.int c]/\∀l ws H',gP H H'->H l=none->Wd H' l ws->Q (.ref l) H'
theorem ug (T:Txt K mg):FO P w base 2 T.d33 uf:=by
 have gD32:=vt (P:=P) (w:=w) (base:=base) T
 refine T.d33.F.rd ie fun cdv A outer s H vs Q E hr h=>?_
 obtain⟨c,rfl,q⟩:=h
 refine⟨_,(gb (pS (i:=0) ie.nd (gA iE (cv 0) (gA uS gj gj)))
  (gb (pS (i:=1) ie.nd (gA sj (gA iE (cv 0) gj) gj))
  (gb (pS (i:=2) ie.nd (hZ gf))
  (gb (ic (gL jf (gA iE (gA iK (cv 0) gj) gj) gj)
   (gb (pS (i:=3) ie.nd (pF T.d32 gD32 hr.m (f9 (gA iK (cv 0) gj) (f9 (gA sj (cv 1) gj) gf))))
   (gb (pS (i:=4) ie.nd (gA iE (gA iK (cv 0) gj) (gA sj (cv 1) gj)))
   (gb (ky PassesOwn.never rfl (ku rfl T.z_range (f9 gj gf)) (pN (i:=5) ie.nd)
    (gk (gK (jg (jF eQ eR eS gT (PE.mono (cv 2)) (f9 (PE.mono (gA gH (gA gH (mV CI (cv 3) sM (mn (cv 4))) (gC z8 gq (cv 5))) (mV CI (cv 3) (mn (cv 4)) sM))) gf))))))
   (gk (gJ (cv 2))))))
   gE)
  (gb (pS (i:=3) ie.nd (pF T.d32 gD32 hr.m (f9 (gA iK (cv 0) gj) (f9 (cv 1) gf))))
  (gb (ky PassesOwn.never rfl (ku rfl T.z_range (f9 gj gf)) (pN (i:=5) ie.nd)
   (gb (pS (i:=6) ie.nd (cv 3))
   (gb (ky PassesOwn.never rfl (oU (hZ (f9 gj (f9 gj (f9 gj (f9 gj gf)))))) (pN (i:=7) ie.nd)
    (gk (pS (i:=6) ie.nd (gA gH (cv 6) (gC z8 gq (gA iE (gA iK (cv 5) (cv 7)) gj))))))
   (gk (gK (jg (jF eQ eR eS gT (PE.mono (cv 2)) (f9 (PE.mono (cv 6)) gf))))))))
  (gk (gJ (cv 2))))))))),?_⟩
 have sl:=sizeLine_eq
 refine⟨⟨by decide,by decide,by decide⟩,(by show(0:Int)<10^(24:Int).toNat;decide+kernel),?_⟩
 dsimp only[ia]
 generalize c%10^(24:Int).toNat=c
 have s0:=fD c (show(8:Int)≠0 by decide)
 have s1:=fF c (show(0:Int)<8 by decide)
 obtain⟨m,hm⟩:∃m:Nat,c%8+ 1=(m:Int):=⟨(c%8+ 1).toNat,by lia⟩
 refine⟨(by show(0:Int)<8;decide),um,fun l hl=>?_⟩
 have S1:gP H (upd H l (.lst [])):=gm hl _
 have e1:(upd H l (.lst [])) l=some (.lst []):=gh
 dsimp only[ia]
 generalize upd H l (.lst [])=H1 at S1 e1⊢
 rw[hm]
 have fin:∀(f:Nat->Str) (H2:Hp),gP H H2->H2 l=some (.lst (((aa 16).map f).map V.str))->(∀k,k<16->GR.Internal.isName (f k)=true)->f 7≠f 8->Q (.ref l) H2:=fun f H2 S e hn hd=>q l _ H2 S hl ⟨e,by rw[aC,b9],fun x hx=>by obtain⟨k,hk,rfl⟩:=aZ.mp hx;exact hn k (af.mp hk),hd⟩
 refine⟨⟨by decide,by decide⟩,(by show(0:Int)<2;decide),?_⟩
 dsimp only[tC,cEq,onB]
 rw[fg]
 cases decide (c/8%2=0)with
 |true=>
  refine jD ⟨⟨by decide,by decide⟩,_,m+ 3,rfl,by lia,by lia,fun x hx nx=>⟨⟨by decide,by decide⟩,(by show(0:Int)<(m:Int)+ 4;lia),?_⟩⟩
  dsimp only[ia]
  have a0:=fD (c/16) (show((m:Int)+ 4)≠0 by lia)
  have a1:=fF (c/16) (show 0<((m:Int)+ 4) by lia)
  generalize c/16%((m:Int)+ 4)=at_ at a0 a1⊢
  have la:=Txt.slice_le x none (some at_)
  have lb:=Txt.slice_le x (some at_) none
  refine⟨16,rfl,by decide,by decide,ot (fun i σ H2=>∃(o:Option V),σ=[some (.int c),some (.int (m:Int)),some (.ref l),some (.str x),some (.int at_),o,none,none]/\gP H H2/\H2 l=some (.lst (((aa i).map (w1 (Txt.slice x none (some at_)) (Txt.slice x (some at_) none))).map V.str)))
   ⟨none,rfl,S1,e1⟩ ?_ ?_⟩
  ·rintro i σ H2 hi ⟨o,rfl,S,e⟩
   have hi16:i<16:=hi
   have e1:=A9 (l:=("abcdefghijklmnop":Str).cps.toList) (i:=i) (by rw[show("abcdefghijklmnop":Str).cps.toList.length=16 by decide+kernel];lia)
   refine⟨⟨_,e⟩,at_,rfl,_,rfl,by lia,sz gB,gx e1 ⟨by rw[oj];lia,at_,rfl,_,rfl,by lia,by rw[Str.length_append,oj];lia,_,e,by rw[aC,aC,b9];lia,?_⟩⟩
   refine⟨_,rfl,ig S hl _,?_⟩
   rw[gh,sG,bc]
   rfl
  ·rintro σ H2 ⟨o,rfl,S,e⟩
   exact fin _ H2 S e (fun k hk=>Jl nx (by lia) (by lia) a0 (by lia) hk) (Jo _ _)
 |false=>
  refine jA ⟨⟨by decide,by decide⟩,_,m,rfl,by lia,by lia,fun x hx nx=>?_⟩
  dsimp only[ia]
  refine⟨16,rfl,by decide,by decide,ot (fun i σ H2=>∃(o o2 o3:Option V),σ=[some (.int c),some (.int (m:Int)),some (.ref l),some (.str x),none,o,o2,o3]/\gP H H2/\H2 l=some (.lst (((aa i).map fun k=>w2 x k 4).map V.str)))
   ⟨none,none,none,rfl,S1,e1⟩ ?_ ?_⟩
  ·rintro i σ H2 hi ⟨o,o2,o3,rfl,S,e⟩
   have hi16:i<16:=hi
   refine⟨HE,fun p hp=>⟨p,rfl,⟨_,SqL.of gh⟩,?_⟩⟩
   have S2:gP H (upd H2 p (.lst [V.int 8,V.int 4,V.int 2,V.int 1])):=S.trans (gm hp _)
   have nlp:l≠p:=gr e hp
   refine qk (xs:=[V.int 8,V.int 4,V.int 2,V.int 1]) (fun j σ H3=>∃(o3:Option V),σ=[some (.int c),some (.int (m:Int)),some (.ref l),some (.str x),none,some (.int (0+(i:Int))),some (.str (w2 x i j)),o3]/\H3=upd H2 p (.lst [V.int 8,V.int 4,V.int 2,V.int 1])/\(w2 x i j).length<=100+j)
    ⟨o3,rfl,rfl,by show x.length<=_;lia⟩ (fun j σ H3 _ ⟨o4,_,e3,_⟩=>by rw[e3];exact SqL.of gh) ?_ ?_
   ·rintro j v σ H3 hv ⟨o4,rfl,rfl,hy⟩
    have hj:j<4:=(au.mp hv).1
    have hn:v= .int (part j)/\0<part j/\part j<1073741824:=by
     match j,hj,hv with
     |0,_,hv=>cases hv;exact⟨rfl,by decide,by decide⟩
     |1,_,hv=>cases hv;exact⟨rfl,by decide,by decide⟩
     |2,_,hv=>cases hv;exact⟨rfl,by decide,by decide⟩
     |3,_,hv=>cases hv;exact⟨rfl,by decide,by decide⟩
    obtain⟨rfl,n0,n1⟩:=hn
    obtain⟨ch,e1,_⟩:=CQ ("t7":Str).cps.toList ((0+(i:Int))/part j%2) (fD _ (by decide)) (by rw[show("t7":Str).cps.toList.length=2 by decide+kernel];exact fF _ (by decide))
    have ech:ch=bit i j:=by rw[bit,t7,e1];rfl
    subst ech
    exact⟨⟨n0,n1⟩,(by show(0:Int)<2;decide),sz gB,gx e1 ⟨by rw[oj];lia,_,rfl,rfl,by rw[w2,Str.length_append,oj];lia⟩⟩
   ·rintro σ H3 ⟨o4,rfl,rfl,hy⟩
    have e4:(upd H2 p (.lst [V.int 8,V.int 4,V.int 2,V.int 1])) l=some (.lst (((aa i).map fun k=>w2 x k 4).map V.str)):=by rw[gw nlp];exact e
    refine⟨⟨_,e4⟩,_,e4,by rw[aC,aC,b9];lia,?_⟩
    refine⟨_,_,_,rfl,ig S2 hl _,?_⟩
    rw[gh,sG,bc]
    rfl
  ·rintro σ H2 ⟨o,o2,o3,rfl,S,e⟩
   exact fin _ H2 S e (fun k hk=>Jn nx (by lia) hk) (Jp x)
inductive Fw (H:Hp):List V->List Str->Prop
 |nil:Fw H [] []
 |cons {f:Addr} {w:Str} {r:List V} {xs:List V} {ws:List Str} (e:H f=some (.tup (.str w::r))) (t:Fw H xs ws):Fw H (.ref f::xs) (w::ws)
theorem Fw.mono {H H':Hp} (k:TK H H'):∀{xs:List V} {ws:List Str},Fw H xs ws->Fw H' xs ws
 |_,_,.nil=> .nil
 |_,_,.cons e t=> .cons (k _ _ e) (Fw.mono k t)
theorem Fw.len {H:Hp}:∀{xs:List V} {ws:List Str},Fw H xs ws->xs.length=ws.length
 |_,_,.nil=>rfl
 |_,_,.cons e t=>congrArg Nat.succ (Fw.len t)
theorem Fw.get {H:Hp}:∀{xs:List V} {ws:List Str} {i:Nat} {v:V},Fw H xs ws->xs[i]?=some v->∃f w r,v= .ref f/\ws[i]?=some w/\H f=some (.tup (.str w::r))
 |_,_,0,_,.cons e _,h=>by cases h;exact⟨_,_,_,rfl,rfl,e⟩
 |_,_,i+ 1,_,.cons e t,h=>Fw.get (i:=i) t (by simpa using h)
inductive ShV (H:Hp):V->Str->Prop
 |num {t:Addr} {n:Int} {p:V} (e:H t=some (.tup [.str "num",.int n,p])) (hb:n.natAbs.log2<1920):ShV H (.ref t) ("num "++toString n)
 |rcd {t u:Addr} {p:V} {xs:List V} {ws:List Str} (e:H t=some (.tup [.str "rec",.ref u,p])) (eu:H u=some (.tup xs)) (h:Fw H xs ws) (hl:ws.length<=10) (hw:∀w∈ws,w.length<=60):ShV H (.ref t) (Str.join " " ("rec"::ws))
 |tag {t u:Addr} {p:V} {w:Str} {r:List V} (e:H t=some (.tup [.str "tag",.ref u,p])) (eu:H u=some (.tup (.str w::r))) (hw:w.length<=60):ShV H (.ref t) ("tag "++w)
 |row {t u:Addr} {p:V} {xs:List V} (e:H t=some (.tup [.str "row",.ref u,p])) (eu:H u=some (.tup xs)) (hl:xs.length<=1000):ShV H (.ref t) ("row "++toString (xs.length:Int))
 |fn {t:Addr} {y p:V} (e:H t=some (.tup [.str "fn",y,p])):ShV H (.ref t) "fn"
theorem rH {n:Int} (h:n.natAbs.log2<1920):(Str.ofString (toString n)).length<=4000:=by
 have e:=int_text_length_le (k:=1920) (by decide) h
 rw[ofString_length]
 lia
theorem Ba {n:Nat} (h:n<=1000):((n:Int)).natAbs.log2<1920:=by
 by_cases z:n=0
 ·subst z;decide
 ·exact cy ((Nat.log2_lt (show((n:Int)).natAbs≠0 by lia)).mpr (show((n:Int)).natAbs<2^10 by show _<1024;lia)) (by decide)
theorem Dn {ws:List Str} {b:Nat}:(∀w∈ws,w.length<=b)->(ws.map (·.length)).sum<=ws.length*b:=by
 induction ws with
 |nil=>exact fun _=>cu _
 |cons a ws ih=>
  intro h
  rw[aB,cb,az,Nat.add_mul,Nat.one_mul]
  have:=ih fun w hw=>h w (ai _ hw)
  have:=h a ah
  lia
theorem Jq {K:PySem.W.Frag} {a D:Addr} {Q:VK} {H1:Hp} {xs:List V} {ws:List Str} (e:H1 a=some (.tup xs)) (hf:Fw H1 xs ws) (hn:ws.length<=100) (hD:H1 D=none) (hq:∀H',gP H1 H'->H' D=some (.lst (ws.map V.str))->Q (.ref D) H'):LcP (Itt K a) 0 sQ (tOp CV (cV 0) (tC (.int 0))) Q [none] H1 D:=by
 have sl:=sizeLine_eq
 have lx:=hf.len
 refine uR ws.length (by lia) (fun ys _=>ys=(ws.take ys.length).map V.str) (fun _ _ _ h _=>h) hD rfl (fun k H S h=>CS e S (by lia)) (fun H S=>by rw[<-lx];exact CT e S) rfl ?_ ?_
 ·intro k H v H3 ys Z S hk y hys hl hz
  obtain⟨rfl,hv⟩:=y
  obtain⟨f,w,r,rfl,hw,ef⟩:=hf.get (hv _ (SqT.of (S _ _ e)))
  refine⟨_,S _ _ ef,gx (gv (j:=0) rfl) (hz _ _ (fun _ _ e=>e) ?_)⟩
  rw[aN,hl,aY,bW,hw,bc]
  rw[hl]at hys
  rw[<-hys]
  rfl
 ·intro H' ys S hys hl e'
  rw[hl,bp]at hys
  rw[hys]at e'
  exact hq H' S e'
def Cr:Sp:=fun vs H Q _=>∃(x:V) (z:Str),vs=[x]/\ShV H x z/\∀H',gP H H'->Q (.str z) H'
theorem nB (T:Txt K mg):FO P w base 1 T.d18 Cr:=by
 refine T.d18.F.rd rO fun cdv A0 outer s0 H vs Q E hr h=>?_
 obtain⟨x,z,rfl,h,q⟩:=h
 refine⟨_,(gb (ic (gL jf (gC gG (cv 0) gj) gq)
   (gk (gJ (gA gH gq (ip ka rfl T.z_str qI (f9 (gC gG (cv 0) gj) gf)))))
   gE)
  (gb (ic (gL jf (gC gG (cv 0) gj) gq)
   (gk (gJ (jF eP eV eW Aa gq (f9 (gA CF (hZ (f9 gq gf)) (vT rfl (E5 (x:="field") rfl gB gB rfl rfl) (rW (gC gG (cv 0) gj)) (fun _ _ _ _ _=>nK) (fun _ _ _ _ _=>(gC gG (cv 0) gj)))) gf))))
   gE)
  (gb (ic (gL jf (gC gG (cv 0) gj) gq)
   (gk (gJ (gA gH gq (gC gG (gC gG (cv 0) gj) gj))))
   gE)
  (gb (ic (gL jf (gC gG (cv 0) gj) gq)
   (gk (gJ (gA gH gq (ip ka rfl T.z_str qI (f9 (gY iG rfl T.z_len lY (f9 (gC gG (cv 0) gj) gf)) gf)))))
   gE)
  (gk (gJ gq)))))),?_⟩
 have sl:=sizeLine_eq
 cases h with
 |@num t n p e hb=>
  refine rE rfl e gB ?_
  have hl:=rH hb
  exact⟨_,e,gx (gv (j:=1) rfl) ⟨n,rfl,hb,(by rw[show("num ":Str).length=4 by decide+kernel];lia),q H (fun _ _ e=>e)⟩⟩
 |@rcd t u p xs ws e eu hf hl hw=>
  refine kn rfl e gB (rE rfl e gB ?_)
  refine⟨rfl,vv,fun l1 h1=>?_⟩
  have S1:=gm h1 (.lst [.str "rec"])
  have e1:(upd H l1 (.lst [.str "rec"])) l1=some (.lst [.str "rec"]):=gh
  dsimp only
  generalize upd H l1 (.lst [.str "rec"])=H1 at S1 e1⊢
  refine⟨_,S1 _ _ e,gx (gv (j:=1) rfl) ⟨u,rfl,⟨_,SqT.of (S1 _ _ eu)⟩,fun D hD=>?_⟩⟩
  refine Jq (S1 _ _ eu) (hf.mono (gP.tk S1)) (by lia) hD fun H2 S2 eD=>?_
  refine⟨l1,D,_,_,rfl,rfl,S2 _ _ e1,eD,by rw[aC];show 1+_<=_;lia,fun p hp=>?_⟩
  have S3:=gm hp (.lst ([.str "rec"]++ws.map V.str))
  refine⟨" ",p,"rec"::ws,rfl,rfl,SqL.of gh,?_,q _ ((S1.trans S2).trans S3)⟩
  have:=Dn hw
  rw[aB,cb,az,show("rec":Str).length=3 by decide+kernel,show(" ":Str).length=1 by decide+kernel]
  lia
 |@tag t u p w0 r e eu hw=>
  refine kn rfl e gB (kn rfl e gB (rE rfl e gB ?_))
  exact⟨_,e,gx (gv (j:=1) rfl) ⟨_,eu,gx (gv (j:=0) rfl) ⟨(by rw[show("tag ":Str).length=4 by decide+kernel];lia),q H (fun _ _ e=>e)⟩⟩⟩
 |@row t u p xs e eu hl=>
  refine kn rfl e gB (kn rfl e gB (kn rfl e gB (rE rfl e gB ?_)))
  have hb:=Ba hl
  have h2:=rH hb
  exact⟨_,e,gx (gv (j:=1) rfl) ⟨u,xs,rfl,.inr (SqT.of eu),_,rfl,hb,(by rw[show("row ":Str).length=4 by decide+kernel];lia),q H (fun _ _ e=>e)⟩⟩
 |@fn t y p e=>
  refine kn rfl e gB (kn rfl e gB (kn rfl e gB (kn rfl e gB ?_)))
  exact q H (fun _ _ e=>e)
theorem uh {en v:V} {me ha:Addr} {bg:Int}:(fRn en v me ha bg).lookup ("end":Str)=some en/\(fRn en v me ha bg).lookup ("value":Str)=some v/\(fRn en v me ha bg).lookup ("meets":Str)=some (.ref me):=⟨by kernel_rfl,by kernel_rfl,by kernel_rfl⟩
def wkD (dx:Addr) (a b c:V):HO:=yZ dx [("made",a),("used",b),("slot",c)]
def mP (C:Addr):Sp:=fun vs H Q _=>X4 fun(e:Addr) (a b c:V)=>Y3 (vs=[.ref e,a,b,c]) (H e=some (Eg e C)) (∀dx,H dx=none->dx≠e->Q .non (upd (upd H e (yY e C dx)) dx (wkD dx a b c)))
theorem mQ (T:Txt K mg):ow P w K mg base CX0 1 T.j38.a T.j38.fd ["self","made","used","slot"] (mP T.c7.a):=by
 refine T.j38.F.ok mH (fun vs H Q E h=>?_) (fun cdv A outer s H vs Q E hr h=>?_)
 ·obtain⟨e,a,b,c,rfl,_⟩:=h
  rfl
 obtain⟨e,a,b,c,rfl,he,q⟩:=h
 refine⟨_,(gb (BS rfl (cv 0) (cv 1) rfl)
  (gb (xG (cv 0) (cv 2) rfl)
  (gk (xG (cv 0) (cv 3) rfl)))),?_⟩
 refine⟨e,_,rfl,he,T.j38.xs,T.n7made,fun dx hdx hne=>⟨e,_,dx,_,rfl,by rw[gw hne.symm,gh],gh,hne,(by show 1<40;decide),T.j38.xs,T.n7used,e,_,dx,_,rfl,by rw[gw hne.symm,gw hne.symm,gh],gh,hne,(by show 2<40;decide),T.j38.xs,T.n7slot,?_⟩⟩
 have hp:lE ("slot":Str) c (lE ("used":Str) b [(("made":Str),a)])=[(("made":Str),a),(("used":Str),b),(("slot":Str),c)]:=by kernel_rfl
 have:=q dx hdx hne
 rw[hp,qB,qB]
 exact this
inductive XAn (T:Txt K mg) (vs:List V) (H:Hp) (Q:VK) (E:XK):Prop
 |mk (r dx me ha:Addr) (en:Str) (v:V) (bg:Int) (e:vs=[.ref r]) (er:H r=some (.ins T.c11.a dx (fRn (.str en) v me ha bg))) (q:(en="done"/\Q v H)\/(en="turns"/\E (.ref T.c8.a) none H)\/(en="full"/\E (.ref T.c9.a) none H)\/(en="wrong"/\∃(ms:List V) (t:Addr) (a b c:V),H me=some (.lst (ms++[.ref t]))/\H t=some (.tup [a,b,c])/\∀dz H',gP H H'->H' dz=some (wkD dz a b c)->E (.ref T.c7.a) (some dz) H'))
def Jr (T:Txt K mg):Sp:=fun vs H Q E=>XAn T vs H Q E
theorem J5 {C r dx me ha:Addr} {en x:Str} {v:V} {bg:Int} {σ:St} {H:Hp} {R:Bool->Hp->Prop} {b:Bool} (hσ:σ[0]?=some (some (.ref r))) (er:H r=some (.ins C dx (fRn (.str en) v me ha bg))) (e:decide (en=x)=b) (h:R b H):cT (tOp (cEq false) (BI C "end" (cV 0)) (tC (.str x))) σ H R:=by
 obtain⟨f1,_⟩:=uh (en:= .str en) (v:=v) (me:=me) (ha:=ha) (bg:=bg)
 show onV σ[0]? _
 rw[hσ]
 refine⟨_,⟨_,_,er,f1⟩,?_⟩
 dsimp only[tC,cEq,onB]
 rw[fg,e]
 exact h
theorem E9 {C r dx me ha:Addr} {en x:Str} {v:V} {bg:Int} {σ:St} {H:Hp} {A u:TS} {D:md} (hσ:σ[0]?=some (some (.ref r))) (er:H r=some (.ins C dx (fRn (.str en) v me ha bg))) (e:decide (en=x)=false) (h:u D σ H):vw (yV (cT (tOp (cEq false) (BI C "end" (cV 0)) (tC (.str x)))) A oq) u D σ H:=J5 hσ er e (jA h)
theorem Js {C r dx me ha:Addr} {en x:Str} {v:V} {bg:Int} {σ:St} {H:Hp} {A u:TS} {D:md} (hσ:σ[0]?=some (some (.ref r))) (er:H r=some (.ins C dx (fRn (.str en) v me ha bg))) (e:decide (en=x)=true) (h:A {D with nx:=u D} σ H):vw (yV (cT (tOp (cEq false) (BI C "end" (cV 0)) (tC (.str x)))) A oq) u D σ H:=J5 hσ er e (jD h)
theorem rJ (T:Txt K mg):ow P w K mg base (CXG P w) 3 T.d17.a T.d17.fd ["run"] (Jr T):=by
 have gJ38:=mQ (P:=P) (w:=w) (base:=base) T
 refine T.d17.F.okG vb (fun vs H Q E h=>?_) (fun cdv A0 outer s0 H vs Q E hr h=>?_)
 ·obtain⟨r,dx,me,ha,en,v,bg,rfl,_⟩:=h
  rfl
 obtain⟨r,dx,me,ha,en,v,bg,rfl,er,q⟩:=h
 refine⟨_,(gb (ic (gL jf (gR T.c11.cl T.n11end (cv 0)) gq)
   (gk (jH rfl xH T.x8 rfl T.c8.m (f9 gq gf)))
   gE)
  (gb (ic (gL jf (gR T.c11.cl T.n11end (cv 0)) gq)
   (gk (jH rfl xH T.x9 rfl T.c9.m (f9 gq gf)))
   gE)
  (gb (ic (gL jf (gR T.c11.cl T.n11end (cv 0)) gq)
   (gb (pS (i:=1) vb.nd (gC gS (gR T.c11.cl T.n11meets (cv 0)) (Bq w8 gj)))
   (gk (Am rfl rfl BU T.j38.xi gJ38 hr.m T.j38.b rfl T.c7.m (f9 (gC gG (cv 1) gj) (f9 (gC gG (cv 1) gj) (f9 (gC gG (cv 1) gj) gf))))))
   gE)
  (gk (gJ (gR T.c11.cl T.n11value (cv 0))))))),?_⟩
 obtain⟨f1,f2,f3⟩:=uh (en:= .str en) (v:=v) (me:=me) (ha:=ha) (bg:=bg)
 rcases q with⟨rfl,q⟩|⟨rfl,q⟩|⟨rfl,q⟩|⟨rfl,ms,t,a,b,c,em,et,q⟩
 ·refine E9 rfl er gB (E9 rfl er gB (E9 rfl er gB ?_))
  exact⟨_,⟨_,_,er,f2⟩,q⟩
 ·exact Js rfl er gB ⟨vv,q⟩
 ·exact E9 rfl er gB (Js rfl er gB ⟨vv,q⟩)
 ·refine E9 rfl er gB (E9 rfl er gB (Js rfl er gB ?_))
  refine⟨_,⟨_,_,er,f3⟩,_,rfl,_,em,gx (uc ms (.ref t)) ?_⟩
  dsimp only[ia]
  refine⟨_,et,gx (gv (j:=0) rfl) ⟨_,et,gx (gv (j:=1) rfl) ⟨_,et,gx (gv (j:=2) rfl) ⟨oR,fun o ho=>⟨o,a,b,c,rfl,gh,fun d hd hde=>⟨rfl,d,?_,?_⟩⟩⟩⟩⟩⟩
  ·rw[gw hde.symm,gh]
  ·have hd':H d=none:=by rw[gw hde]at hd;exact hd
   refine q d _ (fun b u hb=>?_) (by rw[sZ hde,gh])
   rw[sZ (gr hb ho),gw (gr hb hd'),gw (gr hb ho),gw (gr hb ho)]
   exact hb
theorem Bb {t u:TS} {D:md} {σ:St} {H:Hp} (σ₀:St) (N:St->Hp->Prop) (hσ:σ=σ₀) (k:∀σ' H',N σ' H'->u D σ' H') (w:∀D':md,(∀σ' H',N σ' H'->D'.nx σ' H')->t D' σ₀ H):vw t u D σ H:=by
 subst hσ
 exact w {D with nx:=u D} k
def ObO (H:Hp) (ea D:Addr):Prop:=H ea=some (BG ea (.ref D))
def ObD (H:Hp) (ea D:Addr):Prop:=∃dx,H ea=some (yC ea D dx)
def rI1 (K:PySem.W.Frag) (O:Hp->Addr->Addr->Prop):List V->Hp->VK->Prop:=fun xs H Q=>∃ea D v c b,xs=[.ref ea,v]/\(∀u,iP v u->u=c)/\O H ea D/\rL K D/\dD K (.ref D) c=some b/\Q (.bl b) H
def rIT (K:PySem.W.Frag) (O:Hp->Addr->Addr->Prop):List V->Hp->VK->Prop:=fun xs H Q=>∃(ea D tp:Addr) (cs:List Addr) (b:Bool),xs=[.ref ea,.ref tp]/\H tp=some (.tup (cs.map V.ref))/\O H ea D/\rL K D/\eB K (.ref D) (cs.map Value.ref)=some b/\Q (.bl b) H
section
variable {X:Cx} {K:PySem.W.Frag} (hK:X.K=K)
include hK
theorem HD:kT X (.builtin "isinstance") (rIT K ObO):=by subst hK;exact yE
theorem J6:kT X (.builtin "isinstance") (rIT K ObD):=by
 subst hK
 exact fun pz s σ H xs us Q I r ⟨ea,D,tp,cs,b,h1,h2,⟨dx,h3⟩,h⟩=>yD pz s σ H xs us Q I r ⟨ea,D,dx,tp,cs,b,h1,h2,h3,h⟩
theorem isE:kT X (.builtin "isinstance") (rI1 K ObO):=by subst hK;exact Ab
theorem isF:kT X (.builtin "isinstance") (rI1 K ObD):=by
 subst hK
 exact fun pz s σ H xs us Q I r ⟨ea,D,v,c,b,h1,h2,⟨dx,h3⟩,h⟩=>An pz s σ H xs us Q I r ⟨ea,D,dx,v,c,b,h1,h2,h3,h⟩
end
theorem Jt {v:V} {i:Nat} {u:TS} {D:md} {σ:St} {H:Hp} (h:u D (σ.set i (some v)) H):vw (Bo (tC v) (ia i)) u D σ H:=h
section
variable {K:PySem.W.Frag} {C c1 c2 b1 b2 b3 b4 b5:Addr}
theorem _root_.L2.Internal.Kts.two (k:Kts K C c1 c2 b1 b2 b3 b4 b5):eB K (.ref C) (([c1,c2]:List Addr).map Value.ref)=some false:=by simp only[aB,aS,eB,k.c1,k.c2,Bool.or_self]
theorem _root_.L2.Internal.Kts.five (k:Kts K C c1 c2 b1 b2 b3 b4 b5):eB K (.ref C) (([b1,b2,b3,b4,b5]:List Addr).map Value.ref)=some false:=by simp only[aB,aS,eB,k.b1,k.b2,k.b3,k.b4,k.b5,Bool.or_self]
theorem vty {z:String} (u:Value) (r:iP (.ty z) u):u= .type z:=r
theorem su {m:Str} {ea:Addr} {x0 x1 x2 x3 x5:Option V} {H:Hp} {O:Hp->Addr->Addr->Prop} {v:TS} {D:md} (hO:∀H',gP H H'->O H' ea C) (k:Kts K C c1 c2 b1 b2 b3 b4 b5) (q:∀l H',gP H H'->H' l=some (.lst [.str m,.bl true,.bl false,.bl false])->v D [x0,x1,some (.ref l),x3,some (.ref ea),x5] H'):
  vw (Bo (Ht (iX (tC (.str m)) (iX (tCB (rI1 K O) (iX (cV 4) (iX (tC (.ty "ValueError")) se))) (iX (tCB (rIT K O) (iX (cV 4) (iX (DC (iX (tC (.ref c1)) (iX (tC (.ref c2)) se))) se))) se)))) (ia 2))
   (vw (Dv (Io (cV 2) (tCB (rIT K O) (iX (cV 4) (iX (DC (iX (tC (.ref b1)) (iX (tC (.ref b2)) (iX (tC (.ref b3)) (iX (tC (.ref b4)) (iX (tC (.ref b5)) se)))))) se))))) v) D [x0,x1,x2,x3,some (.ref ea),x5] H:=by
 have sl:=sizeLine_eq
 refine⟨ea,C,_,_,true,rfl,vty,hO _ (fun _ _ e=>e),k.x,k.v,ma,fun p hp=>?_⟩
 have S1:=gm hp (.tup [.ref c1,.ref c2])
 refine⟨ea,C,p,[c1,c2],false,rfl,gh,hO _ S1,k.x,k.two,oR,fun l hl=>?_⟩
 have S2:=S1.trans (gm hl (.lst [.str m,.bl true,.bl false]))
 have e2:(upd (upd H p (.tup [.ref c1,.ref c2])) l (.lst [.str m,.bl true,.bl false])) l=some (.lst [.str m,.bl true,.bl false]):=gh
 dsimp only[ia]
 generalize upd (upd H p (.tup [.ref c1,.ref c2])) l (.lst [.str m,.bl true,.bl false])=H2 at S2 e2⊢
 refine⟨⟨_,e2⟩,zln5,fun p2 hp2=>?_⟩
 have S3:=gm hp2 (.tup [.ref b1,.ref b2,.ref b3,.ref b4,.ref b5])
 have hl0:H l=none:=by
  cases z:H l with
  |none=>rfl
  |some u=>rw[S1 _ _ z]at hl;cases hl
 exact⟨ea,C,p2,[b1,b2,b3,b4,b5],false,rfl,gh,hO _ (S2.trans S3),k.x,k.five,_,S3 _ _ e2,(by show 3<sizeLine;decide),q l _ (ig (S2.trans S3) hl0 _) gh⟩
end
inductive XRf (C:Addr) (vs:List V) (H:Hp) (Q:VK):Prop
 |mk (r lm dx me ha t:Addr) (en:Str) (bg a b c:Int) (ms:List V) (e:vs=[.ref r,.ref lm]) (er:H r=some (.ins C dx (fRn (.str en) .non me ha bg))) (he:en="turns"\/en="full"\/en="wrong") (el:H lm=some (.lst (ms++[.ref t]))) (em:H me=some (.lst (ms++[.ref t]))) (et:H t=some (.tup [.int a,.int b,.int c])) (q:∀H',gP H H'->Q (.bl true) H')
def Ju (C:Addr):Sp:=fun vs H Q _=>XRf C vs H Q
theorem rK (T:Txt K mg):FO P w base 5 T.d35 (Ju T.c11.a):=by
 have gD17:=rJ (P:=P) (w:=w) (base:=base) T
 refine T.d35.F.rd gU fun cdv A0 outer s0 H vs Q E hr h=>?_
 obtain⟨r,lm,dx,me,ha,t,en,bg,a,b,c,ms,rfl,er,he,el,em,et,q⟩:=h
 refine⟨_,(gb (pS (i:=2) gU.nd (hZ gf))
  (gb (pS (i:=3) gU.nd (gC gS (cv 1) (Bq w8 gj)))
  (gb (Ao gD17 hr.m rfl T.d17.m T.d17.k T.d17.b .nil (f9 (cv 0) gf) ⟨rfl,rfl⟩ rfl (Er (i:=4) gU.nd rfl rfl rfl T.c8.m (fun _=>
   (gb (pS (i:=2) gU.nd (hZ (f9 gq (f9 (gY (isE (K:=K) rfl) rfl T.z_isinstance gZ (f9 (cv 4) (f9 (pU rfl T.z_ValueError lG) gf))) (f9 (gY (HD (K:=K) rfl) rfl T.z_isinstance gZ (f9 (cv 4) (f9 (hI (f9 (kj rfl T.c9.m) (f9 (kj rfl T.c7.m) gf))) gf))) gf)))))
   (gk (gK (jg (jF eQ eR eS gT (PE.mono (cv 2)) (f9 (PE.mono (gY (HD (K:=K) rfl) rfl T.z_isinstance gZ (f9 (cv 4) (f9 (hI (f9 (kj rfl T.c6.m) (f9 (kj rfl T.c2.m) (f9 (kj rfl T.c4.m) (f9 (kj rfl T.c5.m) (f9 (kj rfl T.c3.m) gf)))))) gf)))) gf))))))) (Er (i:=4) gU.nd rfl rfl rfl T.c9.m (fun _=>
   (gb (pS (i:=2) gU.nd (hZ (f9 gq (f9 (gY (isE (K:=K) rfl) rfl T.z_isinstance gZ (f9 (cv 4) (f9 (pU rfl T.z_ValueError lG) gf))) (f9 (gY (HD (K:=K) rfl) rfl T.z_isinstance gZ (f9 (cv 4) (f9 (hI (f9 (kj rfl T.c8.m) (f9 (kj rfl T.c7.m) gf))) gf))) gf)))))
   (gk (gK (jg (jF eQ eR eS gT (PE.mono (cv 2)) (f9 (PE.mono (gY (HD (K:=K) rfl) rfl T.z_isinstance gZ (f9 (cv 4) (f9 (hI (f9 (kj rfl T.c6.m) (f9 (kj rfl T.c2.m) (f9 (kj rfl T.c4.m) (f9 (kj rfl T.c5.m) (f9 (kj rfl T.c3.m) gf)))))) gf)))) gf))))))) (Er (i:=4) gU.nd rfl rfl rfl T.c7.m (fun _=>
   (gb (pS (i:=2) gU.nd (hZ (f9 gq (f9 (gY (isF (K:=K) rfl) rfl T.z_isinstance gZ (f9 (cv 4) (f9 (pU rfl T.z_ValueError lG) gf))) (f9 (gY (J6 (K:=K) rfl) rfl T.z_isinstance gZ (f9 (cv 4) (f9 (hI (f9 (kj rfl T.c8.m) (f9 (kj rfl T.c9.m) gf))) gf))) gf)))))
   (gb (gK (jg (jF eQ eR eS gT (PE.mono (cv 2)) (f9 (PE.mono (gY (J6 (K:=K) rfl) rfl T.z_isinstance gZ (f9 (cv 4) (f9 (hI (f9 (kj rfl T.c6.m) (f9 (kj rfl T.c2.m) (f9 (kj rfl T.c4.m) (f9 (kj rfl T.c5.m) (f9 (kj rfl T.c3.m) gf)))))) gf)))) gf))))
   (gk (pS (i:=3) gU.nd (hI (f9 (tj (K:=K) rfl (cv 4) rfl) (f9 (tj (K:=K) rfl (cv 4) rfl) (f9 (tj (K:=K) rfl (cv 4) rfl) gf))))))))) CZ))))
  (gb (pS (i:=5) gU.nd om)
  (gb (Ao gD17 hr.m rfl T.d17.m T.d17.k T.d17.b .nil (f9 (cv 0) gf) ⟨rfl,rfl⟩ rfl (IB rfl T.c1.m (fun _=>
   (gk (pS (i:=5) gU.nd om))) CZ))
  (gk (gJ (wX (cv 5) (wX (mh (FP hr.units0) (cv 2) (hZ (f9 (gR T.c11.cl T.n11end (cv 0)) (f9 om (f9 om (f9 om gf)))))) (wW (mh (FU hr) (cv 3) (gC gS (cv 1) (Bq w8 gj))))))))))))),?_⟩
 have sl:=sizeLine_eq
 refine⟨um,fun l0 h0=>?_⟩
 have S0:=gm h0 (.lst [])
 dsimp only[ia]
 generalize upd H l0 (.lst [])=H0 at S0⊢
 refine⟨_,rfl,_,S0 _ _ el,gx (uc ms (.ref t)) ?_⟩
 dsimp only[ia]
 refine Bb [some (.ref r),some (.ref lm),some (.ref l0),some (.ref t),none,none] (fun σ' H'=>∃l t2,σ'=[some (.ref r),some (.ref lm),some (.ref l),some (.ref t2),none,none]/\gP H H'/\H' l=some (.lst [.str en,.bl true,.bl false,.bl false])/\H' t2=some (.tup [.int a,.int b,.int c])) rfl ?_ ?_
 rotate_left
 ·intro D hD
  refine⟨r,dx,me,ha,en,.non,bg,rfl,S0 _ _ er,?_⟩
  rcases he with rfl|rfl|rfl
  ·refine .inr (.inl ⟨rfl,true,T.v1,fun _ ea hea=>?_,fun z=>nomatch z⟩)
   have S1:=gm hea (BG ea (.ref T.c8.a))
   refine su (v:=oq) (fun _ S=>S _ _ gh) T.v10 fun l H' S e=>hD _ _ ⟨l,t,rfl,(S0.trans S1).trans S,e,((S0.trans S1).trans S) _ _ et⟩
  ·refine .inr (.inr (.inl ⟨rfl,false,T.v7,(fun z=>nomatch z),fun _=>⟨true,T.v2,fun _ ea hea=>?_,fun z=>nomatch z⟩⟩))
   have S1:=gm hea (BG ea (.ref T.c9.a))
   refine su (v:=oq) (fun _ S=>S _ _ gh) T.v11 fun l H' S e=>hD _ _ ⟨l,t,rfl,(S0.trans S1).trans S,e,((S0.trans S1).trans S) _ _ et⟩
  ·refine .inr (.inr (.inr ⟨rfl,ms,t,_,_,_,S0 _ _ em,S0 _ _ et,fun dz H1 S1 ed=>⟨false,T.v8,(fun z=>nomatch z),fun _=>⟨false,T.v9,(fun z=>nomatch z),fun _=>⟨true,T.v3,fun _ ea hea=>?_,fun z=>nomatch z⟩⟩⟩⟩))
   have S2:=gm hea (yC ea T.c7.a dz)
   have ee:(upd H1 ea (yC ea T.c7.a dz)) ea=some (yC ea T.c7.a dz):=gh
   refine su (O:=ObD) (fun _ S=>⟨dz,S _ _ ee⟩) T.v12 fun l H' S e=>?_
   have e3:=S _ _ ee
   have ed3:=S _ _ (S2 _ _ ed)
   refine⟨ea,_,dz,_,.int a,rfl,e3,ed3,T.v12.x,T.n7made,by kernel_rfl,ea,_,dz,_,.int b,rfl,e3,ed3,T.v12.x,T.n7used,by kernel_rfl,ea,_,dz,_,.int c,rfl,e3,ed3,T.v12.x,T.n7slot,by kernel_rfl,oR,fun t2 ht2=>?_⟩
   have S3:=gm ht2 (.tup [.int a,.int b,.int c])
   exact hD _ _ ⟨l,t2,rfl,((S0.trans S1).trans (S2.trans S)).trans S3,S3 _ _ e,gh⟩
 rintro _ H2 ⟨l,t2,rfl,S2,e2,et2⟩
 refine Jt ?_
 refine Bb [some (.ref r),some (.ref lm),some (.ref l),some (.ref t2),none,some (.bl false)] (fun σ' H'=>gP H2 H'/\σ'=[some (.ref r),some (.ref lm),some (.ref l),some (.ref t2),none,some (.bl true)]) rfl ?_ ?_
 rotate_left
 ·intro D hD
  refine⟨r,dx,me,ha,en,.non,bg,rfl,S2 _ _ er,?_⟩
  have fin:∀cls od H',gP H2 H'->eE K cls (.ref T.c1.a)=some true->hNo K T.c1.a (Bo (tC (.bl true)) (ia 5)) (fun _ _ _ _ _=>False) D [some (.ref r),some (.ref lm),some (.ref l),some (.ref t2),none,some (.bl false)] cls od H':=fun cls od H' S e=>⟨true,e,fun _=>hD _ _ ⟨S,rfl⟩,fun z=>nomatch z⟩
  rcases he with rfl|rfl|rfl
  ·exact .inr (.inl ⟨rfl,fin _ _ _ (fun _ _ e=>e) T.v4⟩)
  ·exact .inr (.inr (.inl ⟨rfl,fin _ _ _ (fun _ _ e=>e) T.v5⟩))
  ·exact .inr (.inr (.inr ⟨rfl,ms,t,_,_,_,S2 _ _ em,S2 _ _ et,fun dz H' S _=>fin _ _ _ S T.v6⟩))
 rintro _ H3 ⟨S3,rfl⟩
 have S03:=S2.trans S3
 obtain⟨f1,_⟩:=uh (en:= .str en) (v:= .non) (me:=me) (ha:=ha) (bg:=bg)
 refine⟨_,rfl,jD ⟨_,⟨_,_,S03 _ _ er,f1⟩,HE,fun l4 h4=>?_⟩⟩
 have S4:=gm h4 (.lst [.str en,.bl true,.bl false,.bl false])
 refine⟨l,l4,_,_,rfl,rfl,SqL.of (S4 _ _ (S3 _ _ e2)),SqL.of gh,rfl,rfl,?_⟩
 have ev:yX [V.str en,V.bl true,V.bl false,V.bl false] [V.str en,V.bl true,V.bl false,V.bl false]=true:=by simp[yX,eqV]
 refine⟨true,congrArg V.bl ev,jD ?_⟩
 have S5:=S03.trans S4
 have at3:∀{H5:Hp} {z:Addr},H5 z=some (.tup [.int a,.int b,.int c])->At K H5 (.ref z) (.tup [.flat (.int a),.flat (.int b),.flat (.int c)]):=fun e=> .tup (SqT.of e) (.cons (.flat rfl) (.cons (.flat rfl) (.cons (.flat rfl) .nil)))
 refine⟨_,rfl,_,S5 _ _ el,gx (uc ms (.ref t)) ⟨t2,t,_,_,rfl,rfl,at3 (S4 _ _ (S3 _ _ et2)),at3 (S5 _ _ et),by rfl,by simp[nk,iY],?_⟩⟩
 have ed:eqD (.tup [.flat (.int a),.flat (.int b),.flat (.int c)]) (.tup [.flat (.int a),.flat (.int b),.flat (.int c)])=true:=by simp[eqD,vy,eqV]
 show Q (.bl (eqD _ _)) _
 rw[ed]
 exact q _ S5
mutual
theorem EY {K:PySem.W.Frag} {H:Hp}:∀{v:V} {d:Dt},Im H v d->At K H v d
 |v,_,.flat h=> .flat (by cases v<;>first|rfl|cases h)
 |_,_,.tup h hs=> .tup (SqT.of h) (Bc hs)
theorem Bc {K:PySem.W.Frag} {H:Hp}:∀{v:List V} {d:List Dt},Ims H v d->Ats K H v d
 |_,_,.nil=> .nil
 |_,_,.cons h hs=> .cons (EY h) (Bc hs)
end
mutual
theorem Hj:∀{d:Dt},gF d=true->eqD d d=true/\qa d d=true
 | .flat v,h=>by
  cases v with
  |int n=>exact⟨by simp[eqD,eqV],by rfl⟩
  |str z=>exact⟨by simp[eqD,eqV],by rfl⟩
  |_=>simp[gF]at h
 | .tup ds,h=>by
  rw[gF,eZ]at h
  exact Dp h.2
 | .lst _,h=>by simp[gF]at h
theorem Dp:∀{ds:List Dt},gFs ds=true->vy ds ds=true/\rM ds ds=true
 |[],_=>⟨rfl,rfl⟩
 |d::ds,h=>by
  rw[gFs,eZ]at h
  obtain⟨a,b⟩:=Hj h.1
  obtain⟨c,e⟩:=Dp h.2
  rw[vy,rM,a,b,c,e]
  exact⟨rfl,rfl⟩
end
theorem Be {α:Type} {f:α->Dt} (h:∀a,gF (f a)=true):∀l:List α,gFs (l.map f)=true
 |[]=>rfl
 |a::l=>by rw[aB,gFs,h a,Be h l];rfl
theorem Bg {α:Type} {f:α->Dt} {b:Nat} (h:∀a,nk (f a)<=b):∀l:List α,iY (l.map f)<=b
 |[]=>cu _
 |a::l=>by rw[aB,iY];exact Nat.max_le.mpr ⟨h a,Bg h l⟩
def Jv (i j:Int):Prop:=i.natAbs<=10^60/\j.natAbs<=10^60
theorem J7 {i:Int} (h:i.natAbs<=10^60):Builtin.Int.intBits i<=2^20:=intBits_le_iff.mpr (cz h (cf (by decide+kernel:10^60<2^200) (Nat.pow_le_pow_right (by decide) (by decide))))
theorem EZ {X:Cx}:OpR X (binaryOp .Mult) (cI Jv fun i j=> .int (i*j)):=OpR.weak (opI fun _ _ _ _ _ _ _ hc q=>PyProof.Rows.mul_int q (IntMulOk.of_bits (J7 hc.1) (J7 hc.2))) z7
set_option exponentiation.threshold 2000 in
theorem Bh {n:Int} (h:n.natAbs<10^121):n.natAbs.log2<1920:=by
 by_cases z:n.natAbs=0
 ·rw[z];decide
 ·exact cy ((Nat.log2_lt z).mpr (cy h (by decide+kernel:10^121<2^403))) (by decide)
def fdR (p:Str×Int):Dt:= .tup [sD p.1,.tup [sD "num",kD 7,kD p.2]]
def thR (k:Nat):Dt:= .tup [sD "num",kD (k:Int),kD 5]
theorem Hk {H:Hp} {nm:Nat->Str}:∀{l:List Nat} {zs:List V},Ims H zs (l.map fun k=>fdR (nm k,(k:Int)))->Fw H zs (l.map nm)
 |[],_,h=>by cases h;exact .nil
 |k::l,_,h=>by
  rw[aB]at h
  cases h with
  |cons h t=>
   obtain⟨f,y,z,rfl,e,h1,_⟩:=pQ h
   cases h1
   exact .cons e (Hk t)
theorem Hl {K:PySem.W.Frag} {a D:Addr} {Q:VK} {H1:Hp} {n:Nat} {nm:Nat->Str} {u0 v0:Option V} (e:H1 a=some (.lst (((aa n).map nm).map V.str))) (hn:n<=100) (hD:H1 D=none) (hq:∀H' zs,gP H1 H'->H' D=some (.lst zs)->Ims H' zs ((aa n).map fun k=>fdR (nm k,(k:Int)))->Q (.ref D) H'):
  LcG (Ite K a) (E4 K 2 (qD (ia 0) (qD (ia 1) E3))) (DC (iX (cV 1) (iX (DC (iX (tC (.str "num")) (iX (tC (.int 7)) (iX (cV 0) se)))) se))) Q [u0,v0] H1 D:=by
 have sl:=sizeLine_eq
 have ln:(((aa n).map nm).map V.str).length=n:=by rw[aC,aC,b9]
 refine⟨fun k m σ' H2=>Y5 (m=n-k) (k<=n) ((∃u v,σ'=[u,v])) (gP H1 H2) (∃zs,H2 D=some (.lst zs)/\Ims H2 zs ((aa k).map fun k=>fdR (nm k,(k:Int)))),⟨n,by simp,cu _,⟨_,_,rfl⟩,gm hD _,[],gh,.nil⟩,?_⟩
 rintro k m σ' H2 ⟨rfl,hk,⟨u,v,rfl⟩,S,zs,ez,iz⟩
 by_cases hlt:k<n
 ·have hx:(((aa n).map nm).map V.str)[k]?=some (.str (nm k)):=by rw[aK,aK,List.getElem?_range hlt];rfl
  refine .inr ⟨⟨_,_,SqL.of (S _ _ e),hx⟩,?_⟩
  rintro y H3 ⟨T,x,rfl,hT,rfl,hy⟩
  have hy:=hy _ (SqL.of (S _ _ e))
  rw[hx]at hy
  cases hy
  have S3:=gm hT (.tup [.int (k:Int),.str (nm k)])
  refine⟨T,_,rfl,SqT.of gh,rfl,_,_,rfl,_,_,rfl,rfl,?_⟩
  refine⟨oR,fun t1 h1=>⟨ma,fun t2 h2=>?_⟩⟩
  have S4:=gm h1 (.tup [.str "num",.int 7,.int (k:Int)])
  have S5:=gm h2 (.tup [.str (nm k),.ref t1])
  have i2:=lC h2 (.cons (.flat rfl) (.cons (lC h1 (.cons (.flat rfl) (.cons (.flat rfl) (.cons (.flat rfl) .nil)))) .nil)) (ds:=[sD (nm k),.tup [sD "num",kD 7,kD (k:Int)]])
  have S35:=(S3.trans S4).trans S5
  have e5:=S35 _ _ ez
  have i5:=iz.mono (gP.tk S35)
  have lz:zs.length=k:=by rw[iz.length,aC,b9]
  dsimp only at i2 S35 e5 i5⊢
  generalize upd (upd (upd H2 T (.tup [.int (k:Int),.str (nm k)])) t1 (.tup [.str "num",.int 7,.int (k:Int)])) t2 (.tup [.str (nm k),.ref t1])=H5 at i2 S35 e5 i5⊢
  refine⟨zs,e5,by lia,n-(k+ 1),by lia,rfl,hlt,⟨_,_,rfl⟩,ig (S.trans S35) hD _,_,gh,?_⟩
  rw[b6,bc]
  exact(i5.app (.cons i2 .nil)).mono (xA e5).tk
 ·have e1:k=n:=by lia
  subst e1
  exact .inl ⟨⟨_,SqL.of (S _ _ e),ln.symm⟩,hq H2 zs S ez iz⟩
theorem Hn (p:Str×Int):nk (fdR p)<=2:=by simp[fdR,nk,iY,sD,kD]
theorem Ho (k:Nat):nk (thR k)<=2:=by simp[thR,nk,iY,sD,kD]
theorem Jw (p:Str×Int):gF (fdR p)=true:=by rfl
theorem Jy (k:Nat):gF (thR k)=true:=by rfl
theorem Dq {α:Type} {f:α->Dt} {z:Str} {pl:Int} {l:List α} (hl:l.length<=1000) (hg:∀a,gF (f a)=true) (hd:∀a,nk (f a)<=2):gF (.tup [sD z,.tup (l.map f),kD pl])=true/\nk (.tup [sD z,.tup (l.map f),kD pl])<=50:=by
 have a:=Bg hd l
 have b:gF (.tup (l.map f))=true:=by rw[gF,Be hg,aC,ir hl];rfl
 refine⟨?_,?_⟩
 ·rw[gF,gFs,gFs,b];rfl
 ·rw[nk,iY,iY,iY,iY,nk,sD,kD,nk,nk];lia
inductive XVa (vs:List V) (H:Hp) (Q:VK):Prop
 |mk (wl:Addr) (ws:List Str) (c:Int) (e:vs=[.ref wl,.int c]) (hw:Wd H wl ws) (h0:0<=c) (h1:c<10^64) (q:∀H' l x z d,gP H H'->H' l=some (.lst [x,.str z])->ShV H' x z->Im H' x d->gF d=true->nk d<=50->Q (.ref l) H')
def Jz:Sp:=fun vs H Q _=>XVa vs H Q
theorem ui (T:Txt K mg):FO P w base 1 T.d34 Jz:=by
 refine T.d34.F.rd iq fun cdv A0 outer s H vs Q E hr h=>?_
 obtain⟨wl,ws,c,rfl,hw,h0,h1,q⟩:=h
 refine⟨_,(gb (pS (i:=2) iq.nd (gA iE (gA iK (cv 1) gj) gj))
  (gb (pS (i:=1) iq.nd (gA iK (cv 1) gj))
  (gb (ic (gL jf (gA iE (cv 1) gj) gj)
   (gb (pS (i:=3) iq.nd (gC gS (hZ (f9 (gA iE (gA iK (cv 1) gj) gj) (f9 (gA iE (gA iK (cv 1) gj) gj) (f9 (gA iK (cv 1) gj) (f9 (gA sj (gA EZ (gA iE (gA iK (cv 1) gj) (gA uS gj gj)) (gA uS gj gj)) gj) gf))))) (gA iE (gA iK (cv 1) gj) gj)))
   (gb (pS (i:=3) iq.nd (gA CU (cv 3) (gA Gd gj (gA CU gj (gA iE (gA iK (cv 1) gj) gj)))))
   (gk (gJ (hZ (f9 (hI (f9 gq (f9 (cv 3) (f9 (cv 2) gf)))) (f9 (gA gH gq (ip ka rfl T.z_str qI (f9 (cv 3) gf))) gf)))))))
   gE)
  (gb (ic (gL jf (gA iE (cv 1) gj) gj)
   (gb (xy (j:=4) rfl (JV (x:="_law_k") ["_law_words_here","_law_c"] [("_law_words_here",0,s.heap.objs.size+ 1),("_law_c",1,s.heap.objs.size+ 2)]) (ku rfl T.z_range (f9 (gA iE (gA iK (cv 1) gj) gj) gf)) (fun _ _ _ _ _=>nK) (fun _ _ _ _ _=>(gC gS (cv 1) (gA iE (gA sj (gA iK (cv 2) gj) (cv 0)) gj))) iq.nd rfl (.inl rfl))
   (gb (pS (i:=5) iq.nd (ip iQ rfl T.z_tuple jZ (f9 (FX (g:=E4 K 2 (qD (ia 0) (qD (ia 1) E3))) rfl (FY (x:="_law_k") (y:="_law_name") rfl gB gB rfl (by decide) rfl) (sU rfl T.z_enumerate (f9 (cv 4) gf)) (pgP rfl gB rfl rfl) (fun _ _ _ _ _=>(hI (f9 (cv 1) (f9 (hI (f9 gq (f9 gj (f9 (cv 0) gf)))) gf))))) gf)))
   (gk (gJ (hZ (f9 (hI (f9 gq (f9 (cv 5) (f9 (cv 2) gf)))) (f9 (jF eP eV eW Aa gq (f9 (gA CF (hZ (f9 gq gf)) (cv 4)) gf)) gf)))))))
   gE)
  (gb (ic (gL jf (gA iE (cv 1) gj) gj)
   (gb (pS (i:=6) iq.nd (gC gS (cv 0) (gA iE (gA iK (cv 1) gj) gj)))
   (gk (gJ (hZ (f9 (hI (f9 gq (f9 (hI (f9 (cv 6) (f9 (hI (f9 gq (f9 (hI gf) (f9 gj gf)))) gf))) (f9 (cv 2) gf)))) (f9 (gA gH gq (cv 6)) gf))))))
   gE)
  (gb (pS (i:=7) iq.nd (gA iE (gA iK (cv 1) gj) gj))
  (gb (pS (i:=8) iq.nd (ip iQ rfl T.z_tuple jZ (f9 (vT rfl (E5 (x:="_law_k") rfl gB gB rfl rfl) (ku rfl T.z_range (f9 (cv 7) gf)) (fun _ _ _ _ _=>nK) (fun _ _ _ _ _=>(hI (f9 gq (f9 (cv 0) (f9 gj gf)))))) gf)))
  (gk (gJ (hZ (f9 (hI (f9 gq (f9 (cv 8) (f9 (cv 2) gf)))) (f9 (gA gH gq (ip ka rfl T.z_str qI (f9 (cv 7) gf))) gf)))))))))))),?_⟩
 have sl:=sizeLine_eq
 refine⟨⟨by decide,by decide⟩,(by show(0:Int)<160;decide),⟨by decide,by decide⟩,?_⟩
 dsimp only[ia]
 have c0:0<=c/800:=Int.ediv_nonneg h0 (by decide)
 have c1:c/800<10^64:=fH (Int.ediv_le_self _ h0) h1
 generalize c/5%160=pl
 generalize c/800=c at c0 c1⊢
 refine⟨(by show(0:Int)<4;decide),?_⟩
 dsimp only[tC,cEq,onB]
 rw[fg]
 cases decide (c%4=0)with
 |true=>
  have d0:0<=c/32:=Int.ediv_nonneg c0 (by decide)
  have d1:c/32<10^64:=fH (Int.ediv_le_self _ c0) c1
  have p60:(0:Int)<10^(60:Int).toNat:=gB
  have m0:=fD (c/32) (fE p60)
  have m1:=fF (c/32) p60
  have e60:(10:Int)^(60:Int).toNat=10^60:=rfl
  refine jD ⟨⟨by decide,by decide⟩,(by show(0:Int)<10;decide),⟨by decide,by decide⟩,(by show(0:Int)<1000;decide),⟨by decide,by decide⟩,⟨by decide,by decide⟩,⟨by decide,by decide,by decide⟩,p60,⟨by decide,by decide,by decide⟩,⟨by rw[e60]at m1;lia,gB⟩,HE,fun l0 h0=>⟨⟨by decide,by decide⟩,(by show(0:Int)<4;decide),?_⟩⟩
  obtain⟨j,hj,j1⟩:=emN (c/4) (m:=4) (by decide)
  have u0:=fD (c/32) (show(10:Int)≠0 by decide)
  have u1:=fF (c/32) (show(0:Int)<10 by decide)
  have v0:=fD (c/32) (show(1000:Int)≠0 by decide)
  have v1:=fF (c/32) (show(0:Int)<1000 by decide)
  obtain⟨n,hn,nb0,nb1⟩:∃n:Int,([V.int (c/32%10),V.int (c/32%1000),V.int (c/32),V.int (c/32%10^(60:Int).toNat*10^(60:Int).toNat+ 7)]:List V)[j]?=some (.int n)/\0<=n/\n<10^121:=by
   match j,(show j<4 by lia)with
   |0,_=>exact⟨_,rfl,u0,fJ u1 gB⟩
   |1,_=>exact⟨_,rfl,v0,fJ v1 gB⟩
   |2,_=>exact⟨_,rfl,d0,fJ d1 gB⟩
   |3,_=>
    refine⟨_,rfl,Int.add_nonneg (Int.mul_nonneg m0 (fK p60)) (by decide),?_⟩
    have z:c/32%10^(60:Int).toNat*10^(60:Int).toNat<=10^(60:Int).toNat*10^(60:Int).toNat:=Int.mul_le_mul_of_nonneg_right (fK m1) (fK p60)
    exact fH (Int.add_le_add_right z 7) gB
  have S0:=gm h0 (.lst [V.int (c/32%10),V.int (c/32%1000),V.int (c/32),V.int (c/32%10^(60:Int).toNat*10^(60:Int).toNat+ 7)])
  dsimp only
  rw[hj]
  refine⟨_,gh,gx (gv hn) ?_⟩
  dsimp only[ia]
  generalize upd H l0 _=H0 at S0⊢
  have w0:=fD (c/16) (show(2:Int)≠0 by decide)
  have w1:=fF (c/16) (show(0:Int)<2 by decide)
  refine⟨⟨by decide,by decide⟩,(by show(0:Int)<2;decide),.inl ⟨by decide,by decide⟩,.inr ⟨by lia,by lia⟩,?_⟩
  dsimp only[ia]
  have nb:(n*(1-2*(c/16%2))).natAbs<10^121:=by
   rcases(show c/16%2=0\/c/16%2=1 by lia)with z|z<;>rw[z]
   ·rw[show n*(1-2*0)=n by lia];lia
   ·rw[show n*(1-2*1)= -n by lia];lia
  generalize n*(1-2*(c/16%2))=n at nb⊢
  have lg:=Bh nb
  have ln:=rH lg
  refine⟨oR,fun t ht=>⟨n,rfl,lg,(by rw[show("num ":Str).length=4 by decide+kernel];lia),ma,fun l hl=>?_⟩⟩
  have S1:=gm ht (.tup [.str "num",.int n,.int pl])
  have S2:=gm hl (.lst [.ref t,.str ("num "++Str.ofString (toString n))])
  have et:=S2 _ _ (gh (H:=H0) (a:=t) (o:= .tup [.str "num",.int n,.int pl]))
  exact q _ l _ _ (.tup [sD "num",kD n,kD pl]) ((S0.trans S1).trans S2) gh (.num et lg) (.tup et (.cons (.flat rfl) (.cons (.flat rfl) (.cons (.flat rfl) .nil)))) (by rfl) (by simp[nk,iY,sD,kD])
 |false=>
  refine jA ⟨(by show(0:Int)<4;decide),?_⟩
  dsimp only[tC,cEq,onB]
  rw[fg]
  cases decide (c%4=1)with
  |true=>
   obtain⟨n,hn,n1⟩:=emN (c/4) (m:=7) (by decide)
   refine jD ⟨⟨by decide,by decide⟩,(by show(0:Int)<7;decide),?_⟩
   show ∃j,[V.int (c/4%7)]=[V.int j]/\_
   rw[hn]
   have nmk:∀k:Nat,∃j:Nat,(c/28+(0+(k:Int)))%16=(j:Int)/\j<16:=fun k=>by
    have a0:=fD (c/28+(0+(k:Int))) (show(16:Int)≠0 by decide)
    have a1:=fF (c/28+(0+(k:Int))) (show(0:Int)<16 by decide)
    exact⟨((c/28+(0+(k:Int)))%16).toNat,by lia,by lia⟩
   let nm:Nat->Str:=fun k=>ws.getD ((c/28+(0+(k:Int)))%16).toNat ""
   have nml:∀k,(nm k).length<=60:=fun k=>by
    obtain⟨j,e,hj⟩:=nmk k
    have hm:nm k∈ws:=by
     show ws.getD ((c/28+(0+(k:Int)))%16).toNat ""∈ws
     rw[e,fA,bh,bu (by rw[hw.l];lia)]
     exact bC _
    have:=(mZ (hw.n _ hm)).2
    lia
   refine⟨(n:Int),rfl,by lia,by lia,fun D hD=>?_⟩
   rw[fA]
   refine uR n (by lia) (fun ys _=>ys=((aa ys.length).map nm).map V.str) (fun _ _ _ h _=>h) hD rfl (fun k H S h=>h) (fun H S=>cq _) rfl ?_ ?_
   ·intro k H3 v H4 ys Z S hk y hys hl hz
    obtain⟨rfl,rfl⟩:=y
    obtain⟨j,e,hj⟩:=nmk k
    refine⟨⟨by decide,by decide⟩,(by show(0:Int)<16;decide),?_⟩
    dsimp only
    rw[e]
    refine⟨_,S _ _ hw.e,gx (gv (show(ws.map V.str)[j]?=some (.str (nm k))from ?_)) (hz _ _ (fun _ _ e=>e) ?_)⟩
    ·show _=some (V.str (ws.getD ((c/28+(0+(k:Int)))%16).toNat ""))
     rw[e,fA,aK,bh,bu (show j<ws.length by rw[hw.l];lia)]
     rfl
    ·rw[aN,hl,aY,b6,bc,bc]
     rw[hl]at hys
     rw[<-hys]
     rfl
   intro H1 ys S1 hys hl eD
   rw[hl]at hys
   subst hys
   dsimp only[ia]
   refine⟨D,rfl,⟨_,SqL.of eD⟩,fun D2 hD2=>?_⟩
   refine Hl eD (by lia) hD2 fun H2 zs S2 e2 i2=>?_
   refine⟨D2,zs,rfl,.inl ⟨SqL.of e2,fun u hu=>?_⟩⟩
   have S3:=gm hu (.tup zs)
   have eu:(upd H2 u (.tup zs)) u=some (.tup zs):=gh
   dsimp only[ia]
   have i3:=i2.mono (gP.tk S3)
   generalize upd H2 u (.tup zs)=H3 at S3 eu i3⊢
   refine⟨oR,fun t ht=>?_⟩
   have S4:=gm ht (.tup [.str "rec",.ref u,.int pl])
   have et:(upd H3 t (.tup [.str "rec",.ref u,.int pl])) t=some (.tup [.str "rec",.ref u,.int pl]):=gh
   dsimp only
   generalize upd H3 t (.tup [.str "rec",.ref u,.int pl])=H4 at S4 et⊢
   refine⟨rfl,vv,fun l1 h1=>?_⟩
   have S5:=gm h1 (.lst [.str "rec"])
   have hln:((aa n).map nm).length=n:=by rw[aC,b9]
   have eD5:=(((S2.trans S3).trans S4).trans S5) _ _ eD
   refine⟨l1,D,_,_,rfl,rfl,gh,eD5,by rw[aC,hln];show 1+_<=_;lia,fun p hp=>?_⟩
   have S6:=gm hp (.lst ([.str "rec"]++((aa n).map nm).map V.str))
   have hsum:=Dn (ws:=(aa n).map nm) (b:=60) fun w hw=>by obtain⟨k,_,rfl⟩:=aZ.mp hw;exact nml k
   refine⟨" ",p,"rec"::(aa n).map nm,rfl,rfl,SqL.of gh,?_,ma,fun l hl2=>?_⟩
   ·rw[aB,cb,az,show("rec":Str).length=3 by decide+kernel,show(" ":Str).length=1 by decide+kernel]
    rw[hln]at hsum⊢
    lia
   have S7:=gm hl2 (.lst [.ref t,.str (Str.join " " ("rec"::(aa n).map nm))])
   have S47:=(S5.trans S6).trans S7
   have et7:=S47 _ _ et
   have eu7:=S47 _ _ (S4 _ _ eu)
   have i7:=(i3.mono (gP.tk S4)).mono (gP.tk S47)
   obtain⟨g1,g2⟩:=Dq (z:="rec") (pl:=pl) (l:=aa n) (f:=fun k=>fdR (nm k,(k:Int))) (by rw[b9];lia) (fun _=>Jw _) (fun _=>Hn _)
   exact q _ l _ _ _ (((S1.trans S2).trans (S3.trans S4)).trans S47) gh (.rcd et7 eu7 (Hk i7) (by lia) fun w hw=>by obtain⟨k,_,rfl⟩:=aZ.mp hw;exact nml k) (.tup et7 (.cons (.flat rfl) (.cons (.tup eu7 i7) (.cons (.flat rfl) .nil)))) g1 g2
  |false=>
   refine jA ⟨(by show(0:Int)<4;decide),?_⟩
   dsimp only[tC,cEq,onB]
   rw[fg]
   cases decide (c%4=2)with
   |true=>
    obtain⟨j,hj,j1⟩:=emN (c/4) (m:=16) (by decide)
    have hjl:j<ws.length:=by rw[hw.l];lia
    have wl60:(ws[j]).length<=60:=by have:=(mZ (hw.n _ (bC hjl))).2;lia
    refine jD ⟨⟨by decide,by decide⟩,(by show(0:Int)<16;decide),?_⟩
    dsimp only
    rw[hj]
    refine⟨_,hw.e,gx (gv (show(ws.map V.str)[j]?=some (.str ws[j]) by rw[aK,bu hjl];rfl)) ?_⟩
    dsimp only[ia]
    refine⟨um,fun a1 h1=>⟨oR,fun a2 h2=>⟨ma,fun a3 h3=>⟨oR,fun t ht=>⟨(by rw[show("tag ":Str).length=4 by decide+kernel];lia),ma,fun l hl=>?_⟩⟩⟩⟩⟩
    have i1:=lC h1 .nil
    have i2:=lC h2 (.cons (.flat rfl) (.cons i1 (.cons (.flat rfl) .nil))) (ds:=[sD "row",.tup [],kD 3])
    have i3:=lC h3 (.cons (.flat rfl) (.cons i2 .nil)) (ds:=[sD ws[j],.tup [sD "row",.tup [],kD 3]])
    have i4:=lC ht (.cons (.flat rfl) (.cons i3 (.cons (.flat rfl) .nil))) (ds:=[sD "tag",.tup [sD ws[j],.tup [sD "row",.tup [],kD 3]],kD pl])
    have S4:=gm ht (.tup [.str "tag",.ref a3,.int pl])
    have S5:=gm hl (.lst [.ref t,.str ("tag "++ws[j])])
    have e3:=(S4.trans S5) _ _ (gh (a:=a3) (o:= .tup [.str ws[j],.ref a2]))
    have e4:=S5 _ _ (gh (a:=t) (o:= .tup [.str "tag",.ref a3,.int pl]))
    exact q _ l _ _ _ ((((gm h1 _).trans (gm h2 _)).trans (gm h3 _)).trans (S4.trans S5)) gh (.tag e4 e3 wl60) (i4.mono (gP.tk S5)) (by rfl) (by simp[nk,iY,sD,kD])
   |false=>
    obtain⟨n,hn,n1⟩:=emN (c/4) (m:=61) (by decide)
    refine jA ⟨⟨by decide,by decide⟩,(by show(0:Int)<61;decide),?_⟩
    dsimp only[ia]
    rw[hn]
    refine⟨(n:Int),rfl,by lia,by lia,fun D hD=>?_⟩
    rw[fA]
    refine uR n (by lia) (fun ys H=>Ims H ys ((aa ys.length).map thR)) (fun _ _ _ h k=>h.mono k) hD rfl (fun k H S h=>h) (fun H S=>cq _) .nil ?_ ?_
    ·intro k H3 v H4 ys Z S hk y hys hl hz
     obtain⟨rfl,rfl⟩:=y
     refine⟨oR,fun a ha=>hz _ _ (gm ha _) ?_⟩
     rw[aN,hl,aY,b6,bc]
     rw[hl]at hys
     exact(hys.mono (gP.tk (gm ha _))).app (.cons (lC ha (.cons (.flat rfl) (.cons (by rw[fG];exact .flat rfl) (.cons (.flat rfl) .nil)))) .nil)
    intro H1 ys S1 hys hl eD
    rw[hl]at hys
    refine⟨D,ys,rfl,.inl ⟨SqL.of eD,fun u hu=>?_⟩⟩
    have S2:=gm hu (.tup ys)
    have hlg:=Ba (n:=n) (by lia)
    have hnl:=rH hlg
    dsimp only[ia]
    refine⟨oR,fun t ht=>⟨_,rfl,hlg,(by rw[show("row ":Str).length=4 by decide+kernel];lia),ma,fun l hl2=>?_⟩⟩
    have S3:=gm ht (.tup [.str "row",.ref u,.int pl])
    have S4:=gm hl2 (.lst [.ref t,.str ("row "++Str.ofString (toString (n:Int)))])
    have S24:=(S2.trans S3).trans S4
    have et:=S4 _ _ (gh (a:=t) (o:= .tup [.str "row",.ref u,.int pl]))
    have eu:=(S3.trans S4) _ _ (gh (a:=u) (o:= .tup ys))
    obtain⟨g1,g2⟩:=Dq (z:="row") (pl:=pl) (l:=aa n) (f:=thR) (by rw[b9];lia) Jy Ho
    have sh:=ShV.row et eu (by lia)
    rw[hl]at sh
    exact q _ l _ _ _ (S1.trans S24) gh sh (.tup et (.cons (.flat rfl) (.cons (.tup eu (hys.mono (gP.tk S24))) (.cons (.flat rfl) .nil)))) g1 g2
theorem wO {c m n:Int} {A u:TS} {D:md} {σ:St} {H:Hp} (hσ:σ[1]?=some (some (.int c))) (hm:0<m) (e:c%m=n) (h:A {D with nx:=u D} σ H):vw (yV (cT (tOp (cEq false) (tOp (cI (fun _ j=>0<j) fun i j=> .int (i%j)) (cV 1) (tC (.int m))) (tC (.int n)))) A oq) u D σ H:=by
 show onV σ[1]? _
 rw[hσ]
 refine⟨hm,?_⟩
 dsimp only[tC,cEq,onB]
 rw[fg,ir e]
 exact jD h
theorem wQ {c m n:Int} {A u:TS} {D:md} {σ:St} {H:Hp} (hσ:σ[1]?=some (some (.int c))) (hm:0<m) (e:c%m≠n) (h:u D σ H):vw (yV (cT (tOp (cEq false) (tOp (cI (fun _ j=>0<j) fun i j=> .int (i%j)) (cV 1) (tC (.int m))) (tC (.int n)))) A oq) u D σ H:=by
 show onV σ[1]? _
 rw[hσ]
 refine⟨hm,?_⟩
 dsimp only[tC,cEq,onB]
 rw[fg,iI e]
 exact jA h
theorem vA:∀x∈(["(fn "," ",")","(call (fn ",") ","(get (rec ","(at (row 3 ",") 1 4)","(let ","(rec ","(tag ",") 5)","rec ","tag "]:List Str),x.length<=20:=gB
theorem Wd.at {H:Hp} {l:Addr} {ws:List Str} (h:Wd H l ws) {j:Nat} (hj:j<16):(ws.map V.str)[j]?=some (.str (ws.getD j ""))/\GR.Internal.isName (ws.getD j "")=true/\(ws.getD j "").length<=12:=by
 have hl:j<ws.length:=by rw[h.l];exact hj
 have e:ws.getD j ""=ws[j]:=by rw[bh,bu hl];rfl
 rw[e]
 have n:=h.n _ (bC hl)
 exact⟨by rw[aK,bu hl];rfl,n,(mZ n).2⟩
inductive XFb (vs:List V) (H:Hp) (Q:VK):Prop
 |mk (wl:Addr) (ws:List Str) (c:Int) (e:vs=[.ref wl,.int c]) (hw:Wd H wl ws) (q:∀H' l J A N k,gP H H'->H' l=some (.lst [.str (txS J A N k),.str (duS A k)])->k<8->GR.Internal.isName J=true->GR.Internal.isName A=true->0<=N/\N<10^60->Q (.ref l) H')
def JA:Sp:=fun vs H Q _=>XFb vs H Q
theorem uj (T:Txt K mg):FO P w base 1 T.d36 JA:=by
 refine T.d36.F.rd oH fun cdv A0 outer s H vs Q E hr h=>?_
 obtain⟨wl,ws,c,rfl,hw,q⟩:=h
 refine⟨_,(gb (pS (i:=2) oH.nd (gA gH (gA gH (gA gH (gA gH gq (gC gS (cv 0) (gA iE (gA iK (cv 1) gj) gj))) gq) (ip ka rfl T.z_str qI (f9 (gA iE (gA iK (cv 1) gj) (gA uS gj gj)) gf))) gq))
  (gb (ic (gL jf (gA iE (cv 1) gj) gj)
   (gk (gJ (hZ (f9 (cv 2) (f9 gq gf)))))
   gE)
  (gb (ic (gL jf (gA iE (cv 1) gj) gj)
   (gk (gJ (hZ (f9 (gA gH (gA gH (gA gH (gA gH (gA gH (gA gH gq (gC gS (cv 0) gj)) gq) (gC gS (cv 0) gj)) gq) (cv 2)) gq) (f9 gq gf)))))
   gE)
  (gb (ic (gL jf (gA iE (cv 1) gj) gj)
   (gk (gJ (hZ (f9 (gA gH (gA gH (gA gH (gA gH (gA gH (gA gH gq (gC gS (cv 0) gj)) gq) (cv 2)) gq) (gC gS (cv 0) gj)) gq) (f9 gq gf)))))
   gE)
  (gb (ic (gL jf (gA iE (cv 1) gj) gj)
   (gk (gJ (hZ (f9 (gA gH (gA gH gq (cv 2)) gq) (f9 gq gf)))))
   gE)
  (gb (ic (gL jf (gA iE (cv 1) gj) gj)
   (gk (gJ (hZ (f9 (gA gH (gA gH (gA gH (gA gH (gA gH (gA gH gq (gC gS (cv 0) gj)) gq) (cv 2)) gq) (gC gS (cv 0) gj)) gq) (f9 gq gf)))))
   gE)
  (gb (ic (gL jf (gA iE (cv 1) gj) gj)
   (gk (gJ (hZ (f9 (gA gH (gA gH (gA gH (gA gH gq (gC gS (cv 0) gj)) gq) (cv 2)) gq) (f9 (gA gH gq (gC gS (cv 0) gj)) gf)))))
   gE)
  (gb (ic (gL jf (gA iE (cv 1) gj) gj)
   (gk (gJ (hZ (f9 (gA gH (gA gH (gA gH (gA gH gq (gC gS (cv 0) gj)) gq) (cv 2)) gq) (f9 (gA gH gq (gC gS (cv 0) gj)) gf)))))
   gE)
  (gk (gJ (hZ (f9 (gA gH (gA gH (gA gH (gA gH gq (gC gS (cv 0) gj)) gq) (cv 2)) gq) (f9 gq gf))))))))))))),?_⟩
 have sl:=sizeLine_eq
 obtain⟨j,hj,j1⟩:=emN (c/16) (m:=16) (by decide)
 obtain⟨ej,nJ,lJ⟩:=hw.at (j:=j) (by lia)
 have p20:(0:Int)<10^(20:Int).toNat:=gB
 have n0:=fD (c/256) (fE p20)
 have n1:=fF (c/256) p20
 have hN:0<=c/256%10^(20:Int).toNat/\c/256%10^(20:Int).toNat<10^60:=⟨n0,fJ n1 gB⟩
 have lg:(c/256%10^(20:Int).toNat).natAbs.log2<1920:=Bh (by have e:(10:Int)^(20:Int).toNat=10^20:=rfl;rw[e]at n0 n1⊢;lia)
 have lN:=rH lg
 have z1:=vA "(fn " (by simp)
 have z2:=vA " " (by simp)
 have z3:=vA ")" (by simp)
 refine⟨⟨by decide,by decide⟩,(by show(0:Int)<16;decide),?_⟩
 dsimp only
 rw[hj]
 refine⟨_,hw.e,gx (gv ej) ⟨by lia,by simp only[Str.length_append];lia,⟨by decide,by decide⟩,⟨by decide,by decide,by decide⟩,p20,_,rfl,lg,by simp only[Str.length_append];lia,by simp only[Str.length_append];lia,?_⟩⟩
 dsimp only[ia]
 generalize ws.getD j ""=J at nJ lJ⊢
 generalize c/256%10^(20:Int).toNat=N at hN lN⊢
 have lf:(fnS J N).length<=5000:=by unfold fnS TM.Internal.numS;simp only[Str.length_append];lia
 show vw _ _ _ [some (.ref wl),some (.int c),some (.str (fnS J N))] H
 generalize hF:fnS J N=F at lf⊢
 have k0:=fD c (show(8:Int)≠0 by decide)
 have k1:=fF c (show(0:Int)<8 by decide)
 have fin:∀(k:Nat) (A:Str) (l:Addr),k<8->GR.Internal.isName A=true->H l=none->Q (.ref l) (upd H l (.lst [.str (txS J A N k),.str (duS A k)])):=fun k A l hk hA hl=>q _ l J A N k (gm hl _) gh hk nJ hA hN
 by_cases h0:c%8=0
 ·have:=fin 0 J
  rw[txS,hF]at this
  exact wO rfl (by decide) h0 ⟨ma,fun l hl=>this l (by decide) nJ hl⟩
 refine wQ rfl (by decide) h0 ?_
 by_cases h1:c%8=1
 ·obtain⟨e1,nA,lA⟩:=hw.at (j:=1) (by decide)
  have f:=fin 1 (ws.getD 1 "")
  rw[txS,hF]at f
  have z4:=vA "(call (fn " (by simp)
  have z5:=vA ") " (by simp)
  refine wO rfl (by decide) h1 ⟨_,hw.e,gx (gv (j:=1) e1) ⟨by lia,by simp only[Str.length_append];lia,_,hw.e,gx (gv (j:=1) e1) ⟨by simp only[Str.length_append];lia,by simp only[Str.length_append];lia,by simp only[Str.length_append];lia,by simp only[Str.length_append];lia,ma,fun l hl=>f l (by decide) nA hl⟩⟩⟩
 refine wQ rfl (by decide) h1 ?_
 by_cases h2:c%8=2
 ·obtain⟨e1,nA,lA⟩:=hw.at (j:=2) (by decide)
  have f:=fin 2 (ws.getD 2 "")
  rw[txS,hF]at f
  have y0:=vA "(get (rec " (by simp)
  have y1:=vA ") " (by simp)
  exact wO rfl (by decide) h2 ⟨_,hw.e,gx (gv (j:=2) e1) ⟨by lia,by simp only[Str.length_append];lia,by simp only[Str.length_append];lia,by simp only[Str.length_append];lia,_,hw.e,gx (gv (j:=2) e1) ⟨by simp only[Str.length_append];lia,by simp only[Str.length_append];lia,ma,fun l hl=>f l (by decide) nA hl⟩⟩⟩
 refine wQ rfl (by decide) h2 ?_
 by_cases h3:c%8=3
 ·have nA:=nJ
  have f:=fin 3 J
  rw[txS,hF]at f
  have y0:=vA "(at (row 3 " (by simp)
  have y1:=vA ") 1 4)" (by simp)
  exact wO rfl (by decide) h3 ⟨by lia,by simp only[Str.length_append];lia,ma,fun l hl=>f l (by decide) nA hl⟩
 refine wQ rfl (by decide) h3 ?_
 by_cases h4:c%8=4
 ·obtain⟨e1,nA,lA⟩:=hw.at (j:=3) (by decide)
  have f:=fin 4 (ws.getD 3 "")
  rw[txS,hF]at f
  have y0:=vA "(let " (by simp)
  exact wO rfl (by decide) h4 ⟨_,hw.e,gx (gv (j:=3) e1) ⟨by lia,by simp only[Str.length_append];lia,by simp only[Str.length_append];lia,by simp only[Str.length_append];lia,_,hw.e,gx (gv (j:=3) e1) ⟨by simp only[Str.length_append];lia,by simp only[Str.length_append];lia,ma,fun l hl=>f l (by decide) nA hl⟩⟩⟩
 refine wQ rfl (by decide) h4 ?_
 by_cases h5:c%8=5
 ·obtain⟨e1,nA,lA⟩:=hw.at (j:=4) (by decide)
  have f:=fin 5 (ws.getD 4 "")
  rw[txS,hF]at f
  have y0:=vA "(rec " (by simp)
  have y1:=vA "rec " (by simp)
  exact wO rfl (by decide) h5 ⟨_,hw.e,gx (gv (j:=4) e1) ⟨by lia,by simp only[Str.length_append];lia,by simp only[Str.length_append];lia,by simp only[Str.length_append];lia,_,hw.e,gx (gv (j:=4) e1) ⟨by lia,ma,fun l hl=>f l (by decide) nA hl⟩⟩⟩
 refine wQ rfl (by decide) h5 ?_
 by_cases h6:c%8=6
 ·obtain⟨e1,nA,lA⟩:=hw.at (j:=5) (by decide)
  have f:=fin 6 (ws.getD 5 "")
  rw[txS,hF]at f
  have y0:=vA "(tag " (by simp)
  have y1:=vA "tag " (by simp)
  exact wO rfl (by decide) h6 ⟨_,hw.e,gx (gv (j:=5) e1) ⟨by lia,by simp only[Str.length_append];lia,by simp only[Str.length_append];lia,by simp only[Str.length_append];lia,_,hw.e,gx (gv (j:=5) e1) ⟨by lia,ma,fun l hl=>f l (by decide) nA hl⟩⟩⟩
 refine wQ rfl (by decide) h6 ?_
 obtain⟨e1,nA,lA⟩:=hw.at (j:=6) (by decide)
 have f:=fin 7 (ws.getD 6 "")
 rw[show txS J (ws.getD 6 "") N 7="(call (fn "++ws.getD 6 ""++" "++fnS J N++") 5)" from rfl,hF]at f
 have y0:=vA "(call (fn " (by simp)
 have y1:=vA ") 5)" (by simp)
 exact⟨_,hw.e,gx (gv (j:=6) e1) ⟨by lia,by simp only[Str.length_append];lia,by simp only[Str.length_append];lia,by simp only[Str.length_append];lia,ma,fun l hl=>f l (by decide) nA hl⟩⟩
open GR.Internal (kW)
theorem sh_k {H:Hp} {x:V} {A:Str} {k:Nat} (hk:k<8) (hA:GR.Internal.isName A=true) (h:Im H x (vK A k).d):∃t,x= .ref t/\ShV H x (duS A k):=by
 obtain⟨t,y,rfl,e,i⟩:=oQ h
 have fn:∀{b:Int} {sc:Ev} {p:Int},vK A k= .fn b sc p->duS A k="fn"->ShV H (.ref t) (duS A k):=fun e1 e2=>by
  rw[e1]at e
  rw[e2]
  exact .fn e
 refine⟨t,rfl,?_⟩
 rcases qh hk with rfl|rfl|rfl|rfl|rfl|rfl|rfl|rfl
 ·exact fn rfl rfl
 ·exact fn rfl rfl
 ·exact fn rfl rfl
 ·exact fn rfl rfl
 ·exact fn rfl rfl
 ·obtain⟨t',u,f,z,e',e0,eu,ef,_⟩:=Dh h
  cases e'
  have l12:=(mZ hA).2
  have:=ShV.rcd e0 eu (.cons ef .nil) (by show 1<=10;decide) (fun w hw=>by rw[bb.mp hw];lia)
  have e2:Str.join " " ["rec",A]="rec "++A:=by
   show("rec":Str)++" "++A=_
   rw[show("rec":Str)++" "="rec " by decide+kernel]
  rw[e2]at this
  exact this
 ·obtain⟨u,y1,y2,rfl,eu,h1,_⟩:=pQ (show Im H y (.tup [sD A,_])from i)
  cases h1
  have l12:=(mZ hA).2
  exact .tag e eu (by lia)
 ·exact fn rfl rfl
theorem neCS {σ:St} {a b:Str} {H:Hp} {F:Bool->Hp->Prop} (e:a=b) (h:F false H):tC (.str b) σ H fun y H2=>cEq true (.str a) y H2 fun x H'=>onB x fun k=>F k H':=by show F (xor true (decide (a=b))) H;rw[ir e];exact h
theorem dl_k {J A W W2:Str} {N:Int} {k:Nat} (h:k<8):(y8 [W,W2] [prT J A N k,nmT W]).length<=30000:=by
 rcases qh h with rfl|rfl|rfl|rfl|rfl|rfl|rfl|rfl<;>exact of_decide_eq_true (by kernel_rfl)
inductive XFs (vs:List V) (H:Hp) (Q:VK):Prop
 |mk (wl:Addr) (ws:List Str) (c:Int) (e:vs=[.ref wl,.int c]) (hw:Wd H wl ws) (q:∀H',gP H H'->Q (.bl true) H')
def JB:Sp:=fun vs H Q _=>XFs vs H Q
theorem qi (T:Txt K mg) (D:Dk P w K mg) (W:Wk P w T):FO P w base 149 T.d37 JB:=by
 have g1:=yO (P:=P) (w:=w) (base:=base) T
 have g2:=yP T g1
 have g3:=vd T g1
 have ga:=rp (P:=P) (w:=w) (base:=base) T
 have g4:=rR (P:=P) (w:=w) (base:=base) T ga
 have gc:=rS (P:=P) (w:=w) (base:=base) T
 have gp:=nV T g4
 have gn:=nX T g4 g2
 have ge:=AG T D ga g4 gp gn g2 g3 gc 24
 have gD23:=EG T (wy T) (oM T) ga gp gn ge gc (nY T)
 have gD25:=wC (P:=P) (w:=w) (base:=base) T
 have gD16:=G5 (base:=base) T W
 have gD17:=rJ (P:=P) (w:=w) (base:=base) T
 have gD18:=nB (P:=P) (w:=w) (base:=base) T
 have gD36:=uj (P:=P) (w:=w) (base:=base) T
 clear g1 g2 g3 ga g4 gc gp gn ge
 refine T.d37.F.rd iC fun cdv A0 outer s H vs Q E hr h=>?_
 obtain⟨wl,ws,c,rfl,hw,q⟩:=h
 refine⟨_,(gb (zf (pF T.d36 gD36 hr.m (f9 (cv 0) (f9 (cv 1) gf))) (CW rfl (jB (pN (i:=2) iC.nd) (jB (pN (i:=3) iC.nd) oT))))
  (gb (pS (i:=4) iC.nd (gA gH (gA gH (gA gH (gA gH gq (gC gS (cv 0) gj)) gq) (cv 2)) gq))
  (gb (pS (i:=5) iC.nd (ml gD23 hr.m rfl T.d23.m T.d23.k T.d23.b .nil Ic (f9 (gA gH (gA gH (gA gH (gA gH (gA gH (cv 4) gq) (gC gS (cv 0) gj)) gq) (gC gS (cv 0) gj)) gq) gf)))
  (gb (pS (i:=6) iC.nd (pF T.d16 gD16 hr.m (f9 (cv 5) (f9 (pF T.d25 gD25 hr.m (f9 (cv 5) gf)) (f9 gj gf)))))
  (gb (ic (PW.pt (Bm (gL BH (gR T.c11.cl T.n11end (cv 6)) gq) (wU (nj (kr (gY oA rfl T.z_isinstance gZ (f9 (gR T.c11.cl T.n11value (cv 6)) (f9 (pU rfl T.z_tuple jZ) gf))))))))
   (gk (gJ om))
   gE)
  (gb (pS (i:=7) iC.nd (pF T.d18 gD18 hr.m (f9 (ml gD17 hr.m rfl T.d17.m T.d17.k T.d17.b .nil C0 (f9 (cv 6) gf)) gf)))
  (gk (gJ (wX (gY oA rfl T.z_isinstance gZ (f9 (cv 7) (f9 (pU rfl T.z_str qI) gf))) (wW (mh jf (cv 7) (cv 3)))))))))))),?_⟩
 have sl:=sizeLine_eq
 obtain⟨e7,n7,l7⟩:=hw.at (j:=7) (by decide)
 obtain⟨e8,n8,l8⟩:=hw.at (j:=8) (by decide)
 have hne:=hw.d
 refine⟨wl,ws,c,rfl,hw,fun H1 l J A N k S1 el hk nJ nA hN=>?_⟩
 have tq:=J0 hk nJ nA hN
 have pq:=pg_q hk nJ nA n7 n8 hN
 have y1:("(def ":Str).length=5:=gB
 have y2:(" ":Str).length=1:=gB
 have y3:(")":Str).length=1:=gB
 have y4:("\n(def ":Str).length=6:=gB
 have lx:=tq.l
 refine⟨l,_,rfl,SqL.of el,rfl,_,_,rfl,_,_,rfl,rfl,?_⟩
 refine⟨_,S1 _ _ hw.e,gx (gv (j:=7) e7) ⟨by lia,by simp only[Str.length_append];lia,by simp only[Str.length_append];lia,by simp only[Str.length_append];lia,?_⟩⟩
 dsimp only[ia]
 refine⟨by simp only[Str.length_append];lia,_,S1 _ _ hw.e,gx (gv (j:=8) e8) ⟨by simp only[Str.length_append];lia,by simp only[Str.length_append];lia,_,S1 _ _ hw.e,gx (gv (j:=7) e7) ⟨by simp only[Str.length_append];lia,by simp only[Str.length_append];lia,?_⟩⟩⟩
 generalize ws.getD 7 ""=W7 at n7 n8 hne pq⊢
 generalize ws.getD 8 ""=W8 at n8 hne pq⊢
 have et:GR.Internal.toks (pgS J A W7 W8 N k)=y8 [W7,W8] [prT J A N k,nmT W7]:=pq.g.op
 obtain⟨w1,w2,w3,_⟩:=JZ (J:=J) (A:=A) (W:=W7) (N:=N) hk
 have rd:=He hk nJ nA n7 n8 hN
 rw[<-et]at rd
 refine⟨_,GR.Internal.toks (pgS J A W7 W8 N k),rfl,ck pq.l (by decide),GR.Internal.toks_v _,by rw[et];exact G8 (dl_k hk) pq.o,fun names roots rows g nl tl rl rtv rwv H5 hread S5 _ _ _ pr tr tw=>?_,fun hno=>absurd (rd.symm.trans hno) (by simp)⟩
 rw[rd]at hread
 obtain⟨rfl,rfl,rfl⟩:([W7,W8]:List Str)=names/\([0,rtK k]:List Nat).map TM.Internal.kD=roots/\(prR J A W7 N k).map Ro.d=rows:=by
  have:=cH.inj hread
  exact⟨congrArg Prod.fst this,congrArg (fun x=>x.2.1) this,congrArg (fun x=>x.2.2) this⟩
 have ertv:=Hc (qw tr (by rfl))
 have erwv:=qw tw (by rw[w1];exact w3)
 obtain⟨dx,ob⟩:=pr.ob
 have prr:=pr.rt
 rw[ertv]at prr
 have prA:PrA T.c12.a H5 g nl tl rl dx rwv [W7,W8] [0,rtK k] (prR J A W7 N k):=⟨ob,pr.nm,prr,pr.rw,erwv⟩
 dsimp only[ia]
 have gd:=gd_k (J:=J) (A:=A) (W:=W7) (W2:=W8) (N:=N) hk hne
 obtain⟨m,s',hm,rP,en,ede⟩:=Jg (J:=J) (A:=A) (W:=W7) (N:=N) hk
 refine⟨g,nl,tl,rl,dx,rwv,_,_,_,_,rfl,prA,gd,fun lh2 ys H6 S6 _ el6 ly hoa=>?_⟩
 refine⟨g,lh2,nl,tl,rl,dx,100,m,rwv,ys,s',_,_,_,hoK k,rfl,prA.same S6,el6,fun i ρ hi=>?_,HC hk,rP,hm,⟨_,en⟩,(fun _=>by rw[ede];exact fun z=>nomatch z),fun r H7 S7 _ ra=>?_⟩
 ·have hil:=(au.mp hi).1
  obtain⟨y,hy⟩:∃y,ys[i]?=some y:=⟨_,bu (by lia)⟩
  exact⟨y,hy,by rw[ho_k hk hi];exact hoa i y ρ hy hi⟩
 obtain⟨dx',v,me,ha,er,_,_,_,hv2⟩:=ra.o
 have iv:=hv2 (vK A k) en (by rw[ede];rfl)
 rw[en]at er
 have er:H7 r=some (.ins T.c11.a dx' (fRn (.str "done") v me ha s'.bg)):=er
 obtain⟨f1,f2,_⟩:=uh (en:= .str "done") (v:=v) (me:=me) (ha:=ha) (bg:=s'.bg)
 obtain⟨t,rfl,shv⟩:=sh_k hk nA iv
 obtain⟨t',y,e',et',_⟩:=oQ iv
 cases e'
 dsimp only[ia]
 refine⟨_,⟨_,_,er,f1⟩,?_⟩
 refine neCS rfl ?_
 refine jA ⟨_,⟨_,_,er,f2⟩,?_⟩
 refine⟨_,_,_,_,true,rfl,fun _ r=>r,.tup et',rfl,_,rfl,jA ?_⟩
 dsimp only[oq]
 refine⟨r,dx',me,ha,"done",.ref t,s'.bg,rfl,er,.inl ⟨rfl,.ref t,duS A k,rfl,shv,fun H8 S8=>?_⟩⟩
 dsimp only[ia]
 refine⟨_,_,_,_,true,rfl,fun _ r=>r,.str _,rfl,_,rfl,jD ?_⟩
 show Q (.bl (false ^^ decide (duS A k=duS A k))) H8
 rw[fg,ir rfl]
 exact q H8 ((((S1.trans S5).trans S6).trans S7).trans S8)
theorem uk (ns:List Int) (lo hi:Option Int):∃ms:List Int,sN (ns.map V.int) lo hi=ms.map V.int/\ms.length<=ns.length:=by
 refine⟨(ns.drop (HT.Internal.sIx (ns.map V.int).length 0 lo)).take (HT.Internal.sIx (ns.map V.int).length (ns.map V.int).length hi-HT.Internal.sIx (ns.map V.int).length 0 lo),?_,?_⟩
 ·unfold sN
  rw[<-List.map_drop,<-List.map_take]
 ·rw[aH,aU]
  lia
theorem im3 {H:Hp} {x:V} {a b c:Int} (h:Im H x (.tup [kD a,kD b,kD c])):∃t,x= .ref t/\H t=some (.tup [.int a,.int b,.int c]):=by
 cases h with
 |tup e i=>
  cases i with
  |cons h1 i=>
   cases i with
   |cons h2 i=>
    cases i with
    |cons h3 i=>cases i;cases h1;cases h2;cases h3;exact⟨_,rfl,e⟩
theorem E1 {f:Addr} {fd:FuncData} (T:Txt K mg) (D:Dk P w K mg) (W:Wk P w T) (F:Fun K "law" "law" tP f fd):ow P w K mg base CX0 150 f fd ["_law_script"] (xT K):=by
 have gD33:=ug (P:=P) (w:=w) (base:=base) T
 have gD34:=ui (P:=P) (w:=w) (base:=base) T
 have gD35:=rK (P:=P) (w:=w) (base:=base) T
 have gD37:=qi (base:=base) T D W
 have gD17:=rJ (P:=P) (w:=w) (base:=base) T
 have gD18:=nB (P:=P) (w:=w) (base:=base) T
 have gE49:=mO (P:=P) (w:=w) (base:=base) T
 refine F.rd nu fun cdv A outer s H vs Q E hr h=>?_
 obtain⟨ad,ns,rfl,hsq,hlen,q⟩:=h
 refine⟨_,(gb (pS (i:=1) nu.nd (pF T.d33 gD33 hr.m (f9 (gY (uP rfl) rfl T.z_sum CG (f9 (mV vP (cv 0) sM (mn gj)) gf)) gf)))
  (gb (ic (nj (kr (pF T.d37 gD37 hr.m (f9 (cv 1) (f9 (gY (uP rfl) rfl T.z_sum CG (f9 (mV vP (cv 0) (mn gj) (mn gj)) gf)) gf)))))
   (gk (gJ om))
   gE)
  (gb (ky PassesOwn.never rfl (sU rfl T.z_enumerate (f9 (mV vP (cv 0) (mn gj) (mn gj)) gf)) (wZ rfl (jB (pN (i:=2) nu.nd) (jB (pN (i:=3) nu.nd) oT)))
   (gb (pS (i:=4) nu.nd (gA iE (cv 3) (gA uS gj gj)))
   (gb (zf (pF T.d34 gD34 hr.m (f9 (cv 1) (f9 (cv 4) gf))) (CW rfl (jB (pN (i:=5) nu.nd) (jB (pN (i:=6) nu.nd) oT))))
   (gb (pS (i:=7) nu.nd (pF T.d18 gD18 hr.m (f9 (cv 5) gf)))
   (gb (ic (PW.pt (Bm (nj (kr (gY oA rfl T.z_isinstance gZ (f9 (cv 7) (f9 (pU rfl T.z_str qI) gf))))) (wU (gL BH (cv 7) (cv 6)))))
    (gk (gJ om))
    gE)
   (gb (xy (j:=8) rfl (JV (x:="_law_k") ["_law_c"] [("_law_c",4,s.heap.objs.size+ 1)]) (ku rfl T.z_range (f9 (gA sj gj (gA iE (cv 2) gj)) gf)) (fun _ _ _ _ _=>nK) (fun _ _ _ _ _=>(hI (f9 (gA iE (gA iK (cv 1) gj) gj) (f9 (cv 0) (f9 (gA iE (gA iK (cv 1) gj) gj) gf))))) nu.nd rfl (.inl rfl))
   (gb (ic (gL (FV hr) (ml gD17 hr.m rfl T.d17.m T.d17.k T.d17.b .nil C0 (f9 (oV T.mk11 gE49 hr.m rfl T.c11.m T.e49.b .nil je (f9 gq (f9 (cv 5) (f9 (ip pT rfl T.z_list vS (f9 (cv 8) gf)) (f9 (hZ gf) (f9 (cv 2) gf)))))) gf)) (cv 5))
    (gk (gJ om))
    gE)
   (gb (pS (i:=9) nu.nd (gC gS (hZ (f9 gq (f9 gq (f9 gq gf)))) (gA iE (gA iK (cv 4) gj) gj)))
   (gk (ic (nj (kr (pF T.d35 gD35 hr.m (f9 (oV T.mk11 gE49 hr.m rfl T.c11.m T.e49.b .nil je (f9 (cv 9) (f9 qC (f9 (ip pT rfl T.z_list vS (f9 (cv 8) gf)) (f9 (hZ gf) (f9 (cv 2) gf)))))) (f9 (cv 8) gf)))))
    (gk (gJ om))
    gE))))))))))
  (gk (gJ om))))),?_⟩
 have sl:=sizeLine_eq
 obtain⟨ks0,ek0,_⟩:=uk ns none (some 1)
 obtain⟨ks1,ek1,_⟩:=uk ns (some 1) (some 2)
 obtain⟨ks2,ek2,lk2⟩:=uk ns (some 1) (some 81)
 refine⟨_,rfl,ad,_,rfl,hsq,fun c1 hc1=>⟨c1,ks0,rfl,SqL.of (by rw[gh,ek0]),fun n0=>?_⟩⟩
 have S1:=gm hc1 (.lst (sN (ns.map V.int) none (some 1)))
 dsimp only
 generalize upd H c1 (.lst (sN (ns.map V.int) none (some 1)))=H1 at S1⊢
 refine⟨n0,rfl,fun wl ws H2 S2 _ hw=>?_⟩
 dsimp only[ia]
 have S02:=S1.trans S2
 refine⟨_,rfl,_,rfl,ad,_,rfl,S02.seq hsq,fun c3 hc3=>⟨c3,ks1,rfl,SqL.of (by rw[gh,ek1]),fun n1=>?_⟩⟩
 have S3:=gm hc3 (.lst (sN (ns.map V.int) (some 1) (some 2)))
 dsimp only
 generalize upd H2 c3 (.lst (sN (ns.map V.int) (some 1) (some 2)))=H3 at S3⊢
 refine⟨wl,ws,n1,rfl,⟨S3 _ _ hw.e,hw.l,hw.n,hw.d⟩,fun H4 S4=>⟨_,rfl,jA ?_⟩⟩
 have S04:=(S02.trans S3).trans S4
 have hw4:Wd H4 wl ws:=⟨(S3.trans S4) _ _ hw.e,hw.l,hw.n,hw.d⟩
 dsimp only[oq]
 refine⟨_,rfl,_,rfl,ad,_,rfl,S04.seq hsq,fun la hla=>⟨la,rfl,⟨_,SqL.of gh⟩,?_⟩⟩
 have S5:=gm hla (.lst (sN (ns.map V.int) (some 1) (some 81)))
 have ela:(upd H4 la (.lst (sN (ns.map V.int) (some 1) (some 81)))) la=some (.lst (ks2.map V.int)):=by rw[gh,ek2]
 have hw5:Wd (upd H4 la (.lst (sN (ns.map V.int) (some 1) (some 81)))) wl ws:=⟨S5 _ _ hw4.e,hw.l,hw.n,hw.d⟩
 generalize upd H4 la (.lst (sN (ns.map V.int) (some 1) (some 81)))=H5 at S5 ela hw5⊢
 refine tW (xs:=ks2.map V.int) (fun i σ H6=>X8 fun o2 o3 o4 o5 o6 o7 o8 o9=>σ=[some (.ref ad),some (.ref wl),o2,o3,o4,o5,o6,o7,o8,o9]/\gP H5 H6) ⟨_,_,_,_,_,_,_,_,rfl,fun _ _ e=>e⟩ (fun i σ H6 _ ⟨_,_,_,_,_,_,_,_,_,S⟩=>SqL.of (S _ _ ela)) ?_ ?_
 rotate_left
 ·rintro σ H6 ⟨o2,o3,o4,o5,o6,o7,o8,o9,rfl,S⟩
  exact q _
 rintro i x σ H6 Tp hx ⟨o2,o3,o4,o5,o6,o7,o8,o9,rfl,S6⟩ hTp
 rw[aK]at hx
 obtain⟨cell,_,rfl⟩:=cN.mp hx
 have S7:=gm hTp (.tup [.int (i:Int),.int cell])
 refine⟨Tp,_,rfl,SqT.of gh,rfl,_,_,rfl,_,_,rfl,rfl,?_⟩
 generalize upd H6 Tp (.tup [.int (i:Int),.int cell])=H7 at S7⊢
 have p64:(0:Int)<10^(64:Int).toNat:=gB
 refine⟨⟨by decide,by decide,by decide⟩,p64,?_⟩
 have c0:=fD cell (fE p64)
 have c1':cell%10^(64:Int).toNat<10^64:=fF cell p64
 dsimp only[ia]
 generalize cell%10^(64:Int).toNat=c at c0 c1'⊢
 have S57:=S6.trans S7
 refine⟨wl,ws,c,rfl,⟨S57 _ _ hw5.e,hw.l,hw.n,hw.d⟩,c0,c1',fun H8 lv xv z d S8 elv shv imv gd dd=>?_⟩
 refine⟨lv,_,rfl,SqL.of elv,rfl,_,_,rfl,_,_,rfl,rfl,?_⟩
 refine⟨xv,z,rfl,shv,fun H9 S9=>?_⟩
 dsimp only[ia]
 refine⟨_,_,_,_,true,rfl,fun _ r=>r,.str _,rfl,_,rfl,jA ?_⟩
 show(if(true ^^ decide (z=z))=true then _ else _)
 rw[ir rfl]
 refine jA ?_
 dsimp only[oq]
 obtain⟨m,hm,hm1,hm3⟩:∃m:Nat,1+(i:Int)%3=(m+ 1:Nat)/\(1:Int)+(i:Int)%3=((m+ 1:Nat):Int)/\m<3:=⟨i%3,by lia,by lia,by lia⟩
 refine⟨(by show(0:Int)<3;decide),_,rfl,by lia,by lia,fun lm hlm=>?_⟩
 rw[hm1,fA]
 refine uR (m+ 1) (by lia) (fun ys H=>Ims H ys ((aa ys.length).map fun k:Nat=> .tup [kD (c/7%160),kD (k:Int),kD (c/3%2)])) (fun _ _ _ h k=>h.mono k) hlm rfl (fun k H S h=>h) (fun H S=>cq _) .nil ?_ ?_
 ·intro k Ha v Hb ys Z S hk y hys hl hz
  obtain⟨rfl,rfl⟩:=y
  refine⟨⟨by decide,by decide⟩,(by show(0:Int)<160;decide),⟨by decide,by decide⟩,(by show(0:Int)<2;decide),oR,fun a ha=>hz _ _ (gm ha _) ?_⟩
  rw[aN,hl,aY,b6,bc]
  rw[hl]at hys
  exact(hys.mono (gP.tk (gm ha _))).app (.cons (lC ha (.cons (.flat rfl) (.cons (by rw[fG];exact .flat rfl) (.cons (.flat rfl) .nil)))) .nil)
 intro H10 ys S10 hys hl elm
 rw[hl,b6]at hys
 obtain⟨ms,y,rfl,_,iy⟩:=qu hys
 obtain⟨tm,rfl,etm⟩:=im3 iy
 dsimp only[ia]
 refine⟨lm,_,rfl,.inl (SqL.of elm),fun l1 h1=>?_⟩
 have S11:=gm h1 (.lst (ms++[.ref tm]))
 dsimp only
 generalize upd H10 l1 (.lst (ms++[.ref tm]))=H11 at S11⊢
 refine⟨um,fun l2 h2=>?_⟩
 have S12:=gm h2 (.lst [])
 dsimp only
 generalize upd H11 l2 (.lst [])=H12 at S12⊢
 intro rr rx hrr hrx nrx
 have S13:gP H12 (upd (upd H12 rx (.own rr)) rr (.ins T.c11.a rx [])):=ig (ig (fun _ _ e=>e) hrx _) hrr _
 refine⟨rr,rx,l1,l2,.str "done",xv,(i:Int),rfl,gh,fun H14 e14 k14=>⟨rfl,?_⟩⟩
 have S14:gP H12 H14:=fun b o e=>k14 b o (S13 b o e) (gr e hrr)
 refine⟨rr,rx,l1,l2,"done",xv,(i:Int),rfl,e14,.inl ⟨rfl,?_⟩⟩
 have S9E:=((S9.trans S10).trans (S11.trans S12)).trans S14
 obtain⟨tv,rfl⟩:∃tv,xv= .ref tv:=by cases shv<;>exact⟨_,rfl⟩
 have im14:=imv.mono (gP.tk S9E)
 obtain⟨ge,gc⟩:=Hj gd
 refine⟨tv,tv,d,d,rfl,rfl,EY im14,EY im14,gc,by lia,?_⟩
 dsimp only
 rw[show(if true=true then !eqD d d else eqD d d)=false by rw[gX rfl,ge];rfl]
 dsimp only[onB]
 refine jA ?_
 dsimp only[oq]
 refine⟨oR,fun l3 h3=>⟨⟨by decide,by decide⟩,(by show(0:Int)<3;decide),?_⟩⟩
 obtain⟨j,hj,j1⟩:=emN (c/11) (m:=3) (by decide)
 obtain⟨en,hen,ten⟩:∃en:Str,([V.str "turns",V.str "wrong",V.str "full"]:List V)[j]?=some (.str en)/\(en="turns"\/en="full"\/en="wrong"):=by
  match j,(show j<3 by lia)with
  |0,_=>exact⟨_,rfl,.inl rfl⟩
  |1,_=>exact⟨_,rfl,.inr (.inr rfl)⟩
  |2,_=>exact⟨_,rfl,.inr (.inl rfl)⟩
 dsimp only
 rw[hj]
 have S15:=gm h3 (.lst [.str "turns",.str "wrong",.str "full"])
 refine⟨_,gh,gx (gv hen) ?_⟩
 dsimp only[ia]
 generalize upd H14 l3 (.lst [.str "turns",.str "wrong",.str "full"])=H15 at S15⊢
 have S10F:=((S11.trans S12).trans S14).trans S15
 refine⟨lm,_,rfl,.inl (SqL.of (S10F _ _ elm)),fun l4 h4=>?_⟩
 have S16:=gm h4 (.lst (ms++[.ref tm]))
 have e16:(upd H15 l4 (.lst (ms++[.ref tm]))) l4=some (.lst (ms++[.ref tm])):=gh
 dsimp only
 generalize upd H15 l4 (.lst (ms++[.ref tm]))=H16 at S16 e16⊢
 refine⟨um,fun l5 h5=>?_⟩
 have S17:=gm h5 (.lst [])
 dsimp only
 generalize upd H16 l5 (.lst [])=H17 at S17⊢
 intro rs ry hrs hry nry
 have S18:gP H17 (upd (upd H17 ry (.own rs)) rs (.ins T.c11.a ry [])):=ig (ig (fun _ _ e=>e) hry _) hrs _
 refine⟨rs,ry,l4,l5,.str en,.non,(i:Int),rfl,gh,fun H19 e19 k19=>⟨rfl,?_⟩⟩
 have S19:gP H17 H19:=fun b o e=>k19 b o (S18 b o e) (gr e hrs)
 have S10G:=((S10F.trans S16).trans S17).trans S19
 refine⟨rs,lm,ry,l4,l5,tm,en,(i:Int),_,_,_,ms,rfl,e19,ten,S10G _ _ elm,(S17.trans S19) _ _ e16,S10G _ _ etm,fun H20 S20=>⟨_,rfl,jA ?_⟩⟩
 exact⟨_,_,_,_,_,_,_,_,rfl,(((S57.trans S8).trans S9).trans S10).trans (S10G.trans S20)⟩
open GR.Internal (stP stT)
abbrev Lt:=List (Str×Tok×Addr)
abbrev Lt.kv (l:Lt):List (Key×V):=l.map fun p=>(Sum.inr p.1,V.ref p.2.2)
inductive Al (K:PySem.W.Frag):Lt->List (Str×List Bool)->Prop
 |nil:Al K [] []
 |cons {k:Str} {t:Tok} {q:Addr} {ps:List Bool} {l:Lt} {s:List (Str×List Bool)} (h:∀H:Hp,SqT K H q (ps.map pV)) (r:Al K l s):Al K ((k,t,q)::l) ((k,ps)::s)
theorem Al.go {K:PySem.W.Frag} {h:Str}:∀{l:Lt} {s:List (Str×List Bool)},Al K l s->((s.find? fun p=>decide (p.1=h))=none->jC l.kv (Sum.inr h)=none)/\∀ps,(s.find? fun p=>decide (p.1=h)).map (·.2)=some ps->∃q,jC l.kv (Sum.inr h)=some (.ref q)/\∀H:Hp,SqT K H q (ps.map pV)
 |_,_,.nil=>⟨fun _=>rfl,fun _ e=>(nomatch e)⟩
 |(k,t,q)::l,_,.cons x r=>by
  obtain⟨a,b⟩:=Al.go (h:=h) r
  rw[aO]
  by_cases e:k=h
  ·subst e
   rw[ir rfl,Lt.kv,aB,jd rfl]
   exact⟨(fun z=>nomatch z),fun ps z=>by cases z;exact⟨q,rfl,x⟩⟩
  ·rw[iI e,Lt.kv,aB,jm (fun z=>e (Sum.inr.inj z))]
   exact⟨a,b⟩
def vL {P:Program} {w:World} {K:PySem.W.Frag} {mg:Str->Option Value} {a:Addr} {n:Nat} {es:Array DictEntry} {l:Lt} (m:mg "STEADY_FORMS"=some (.ref a)) (ha:(a==sysModules)=false) (hl:K.lookup a=some ⟨.type "dict",none,.dict es n,#[]⟩) (he:es.toList=l.map fun p=>⟨PyData.keyHash w.params p.1,.str p.1 p.2.1,.ref p.2.2⟩) (hn:(l.map (·.1)).Nodup) (h:Al K l stT):Dk P w K mg:=⟨a,m,l.kv,xw ha hl he hn,fun k e=>by unfold stP at e;exact h.go.1 (Option.map_eq_none_iff.mp e),fun k ps e=>by unfold stP at e;exact h.go.2 ps e⟩
def JC {P:Program} {w:World} {K:PySem.W.Frag} {mg:Str->Option Value} (T:Txt K mg) {a:Addr} {n:Nat} {es:Array DictEntry} {t_num t_name t_fn t_call t_let t_rec t_get t_tag t_case t_row t_at t_join t_size t_add t_sub t_less:Tok} {q_case q_join q_size q_add q_sub q_less:Addr} (m:mg "WORKERS"=some (.ref a)) (ha:(a==sysModules)=false) (hl:K.lookup a=some ⟨.type "dict",none,.dict es n,#[]⟩) (he:es.toList=([("num",t_num,T.d6.a),("name",t_name,T.d7.a),("fn",t_fn,T.d8.a),("call",t_call,T.d9.a),("let",t_let,T.d10.a),("rec",t_rec,T.d11.a),("get",t_get,T.d12.a),("tag",t_tag,T.d13.a),("case",t_case,q_case),("row",t_row,T.d14.a),("at",t_at,T.d15.a),("join",t_join,q_join),("size",t_size,q_size),("add",t_add,q_add),("sub",t_sub,q_sub),("less",t_less,q_less)]:Lt).map fun p=>⟨PyData.keyHash w.params p.1,.str p.1 p.2.1,.ref p.2.2⟩):Wk P w T:=⟨a,m,_,xw ha hl he (by show(["num","name","fn","call","let","rec","get","tag","case","row","at","join","size","add","sub","less"]:List Str).Nodup;decide+kernel),fun hw=>by
  cases hw with
  |num=>exact⟨_,_,by kernel_rfl,.num,_,rfl⟩
  |nameD _ _ _=>exact⟨_,_,by kernel_rfl,.name,_,rfl⟩
  |nameH _ _ _=>exact⟨_,_,by kernel_rfl,.name,_,rfl⟩
  |fn=>exact⟨_,_,by kernel_rfl,.fn,_,_,rfl⟩
  |tag=>exact⟨_,_,by kernel_rfl,.tag,_,_,rfl⟩
  |lt=>exact⟨_,_,by kernel_rfl,.lt,_,_,_,rfl⟩
  |get=>exact⟨_,_,by kernel_rfl,.get,_,_,rfl⟩
  |rcd=>exact⟨_,_,by kernel_rfl,.rcd,_,rfl⟩
  |row=>exact⟨_,_,by kernel_rfl,.row,_,rfl⟩
  |call=>exact⟨_,_,by kernel_rfl,.call,_,rfl⟩
  |«at» _=>exact⟨_,_,by kernel_rfl,.att,_,rfl⟩⟩
end K66.Internal
structure PySem.W.Fast:Prop where
 (tw16949155258063362597 tw6552737306633272108 tw13863211635573578583 tw992963529589281033 tw11892815529001197126 tw620237976009191567 tw18420595660069490097 tw4352312263347511469 tw6970726429899967231 tw17956828007670500698 tw17644811445894438183 tw17502171468885942727 tw6502775795046409940 tw4237412659682770843 tw6327048850730566134 tw13537963094034467703 tw13367508357541636247 tw1247474107889062057 tw15771725961991742206 tw563833884655778241 tw4823149928383538880 tw11550649515389542465 tw3721662723292945031 tw9864742893231675529 tw14197279191098155405 tw15402009303025247025 tw430750977251894225 tw5079063177069673345 tw204823983754181928 tw11920052041978795514 tw9696181185559172545 tw13233722253444703876 tw17724141172353696910 tw11055049954265824048 tw10662019321208979932 tw1504788056311578462 tw7244574371103797444 tw8639331629950531829 tw16905058305849557254 tw13209696664677283266 tw13139731248049590986 tw9357647586455561830 tw5687783335413365930 tw302532181990504003 tw14887657773251959126 tw10661833561696816355 tw13705155001470169621 tw10450217578909515120 tw716613842622046733 tw213164947585394765 tw1319501003754641378 tw15773707567597916136 tw9044042789112751332 tw8475959754529629613 tw6451617945734694333 tw15379680487264420028 tw203374565517633917 tw14111604431403553224 tw13155560769961824182 tw16959991821776868561 tw16440256541284386999 tw5408805678643393004 tw8247025763425719830 tw3373653902912892601 tw4374546804506763198 tw11958075928956107519 tw11135356166030529283 tw15830987327607987994 tw10737057102739467910 tw12862052037868987635 tw5822038173059341823 tw4713989717022248522 tw2830544350202207198 tw14373516551377280257 tw10577907264775274938 tw601797217223640760 tw5229162827495208197 tw8998041652732812369 tw4693658268765308993 tw16660280507629263355 tw8463786331894640614 tw15520535190590337535 tw6155647286654166205 tw9291446760671814061 tw15988394996021575706 tw11262204819260307043 tw15381654537465836721 tw15008007799906416894 tw17912661496940859926 tw13581478138867021514 tw16605917500373033828 tw16520869046484029655 tw17853267834011382615 tw11956893216673753613 tw14882314616195968878 tw5839335576642804525 tw10545892299787972945 tw5009455364776409150 tw15362813258712343451 tw2581942890754216230 tw9643018014342210778 tw73855909727474664 tw9307211260735730264 tw12778125060643298192 tw1806382656515156216 tw15439546198233824448 tw13577511294204784504 tw5205505967826052092 tw2532181627400113842 tw13907096911036043675 tw13953194806440812341 tw7387968096251046082 tw13912976374870448082 tw10417198831167060217 tw4563186731766170661 tw16056468108199462398 tw2646794068156433383 tw15212747934298651579 tw2350380700599052610 tw294468978219766322 tw15097450016249099734 tw1333962033955290242 tw13194415211513518489 tw16208244273152405923 tw16279441008921653584 tw10763090357855852232 tw6285942138185797702 tw11011595077772849110 tw14300778366924920152 tw17577865021654678117 tw6741135160781896719 tw9537810269218152072 tw13110417657069509662 tw11678760049926726687 tw3228940821975395651 tw14537477834617203614 tw14411535363065094917 tw7323533075737854492 tw2738442792027889430 tw5950726949149933329 tw18249175098369702519 tw1649586041719300084 tw17157639822374337369 tw7510353228389296175 tw1877197176832500040 tw2861095796129608633 tw11725803870946595565 tw15628382560997443341 tw83331251266942041 tw7107906480413883975 tw6863993184233881022 tw13565752758707487081 tw14675880668874192728 tw8985795989415484015 tw17881657299450403130 tw5486345998204935074 tw252259857510039234 tw2964782019306179936 tw6837823961685283899 tw10312095446161307257 tw7119133002550665316 tw8795127615992151792 tw15250107762789344339 tw13057781168964218907 tw12761835495074742687 tw2088569816444793445 tw8309127300380090449 tw3433373744829494094 tw6749313098509769672 tw11381228029065768889 tw6445926584018620091 tw240890691935477909 tw16854540833186864917 tw9906556626055355979 tw4863240898364042037 tw4213727967097019393 tw4871688914216211162 tw5689205880973018882 tw11581395583940641158 tw4663914168504211100 tw3922437583628852547 tw14246192203864664866 tw7181431662984527574 tw2911688298636769778 tw15471156524689980875 tw11879931844370075703 tw17102993148137096195 tw3772747635306038139 tw5816644487236345357 tw15609468429096042689 tw1330502264670911974 tw13754380455005392908 tw14731136488897156074 tw3680969024479275482 tw1632656847429383813 tw9129926285428666040 tw17795407342900041092 tw2512261183953514716 tw14846993039075211485 tw13449308328582942304 tw3515892126221365193 tw4707964422125555213 tw14252468461971903988 tw5953126223580457156 tw6553888058689703146 tw7388135186423472712 tw1069014100728617552 tw7019945312361257374 tw10893129247500943616 tw13809467300593619479 tw15705937749390516588 tw7757880767064145556 tw14996402068092866083 tw2494211801558467916 tw16820074887829747587 tw11845689565443519215 tw8136289103766374522 tw4887426338211949677 tw4834782585540361199 tw5612704729506226131 tw13810819657286428089 tw4816270983240010884 tw4020616471110588261 tw16524968252344592143 tw3507421935499456946 tw11363174111385313960 tw8395882277049693769 tw12253184447068015676 tw6954182625147693213 tw1321706662973633351 tw1014927106184515246 tw6190013668214407999 tw16840247895138948957 tw18410539726115679651 tw5585900371665089297 tw16097706834488172946 tw16999828903897120159 tw6450352133215389126 tw10234311012258753853 tw15176556877992556182 tw4760634609225146454 tw1433817556931832061 tw13049128789369878997 tw649081129449953943 tw11485209686782131568 tw6211276923465130084 tw8708671279863335553 tw9169082076156137222 tw5713879611426656035 tw14860247954080261005 tw15268151829819379885 tw8845811532624641591 tw17864413536746381838 tw970996448099919988 tw16533363987074467914 tw11643423197210023343 tw10539097529796054881 tw13594890119217530520 tw15055965794157501627 tw2717706597697066148 tw14822470351690950298 tw10359112630476522918 tw2977406983723702424:True)
namespace K66.Internal
open PySem L2.Internal
theorem all_mk {l:PySem.W.OpenLaw} {w:World} {K:PySem.W.Frag} {h:Heap} {mg:Str->Option Value} {fa fL:Addr} (X:K.In h) (G:h.Ns mainGlobals mg) (hfa:mg "law"=some (.ref fa))
  {u1:Tok} {u2:Tok} {u3:Tok} {p4:Addr} {w4_0 w4_1 w4_2 w4_3 w4_4 w4_5 w4_6 w4_7 w4_8 w4_9 w4_10 w4_11 w4_12 w4_13 w4_14:Tok} {od4:Option Addr} {n4:Nat} {sl4:Array (Option Value)} {u5:Tok} {u6:Tok} {u7:Tok} {u8:Tok} {u9:Tok} {u10:Tok} {u11:Tok} {u12:Tok}
  {pW:Addr} {nW:Nat} {tW0 tW1 tW2 tW3 tW4 tW5 tW6 tW7 tW8 tW9 tW10 tW11 tW12 tW13 tW14 tW15:Tok} {fW0 fW1 fW2 fW3 fW4 fW5 fW6 fW7 fW8 fW9 fW10 fW11 fW12 fW13 fW14 fW15:Addr}
  {pD:Addr} {nD:Nat} {tD1 tD2 tD3 tD4 tD5 tD6 tD7 tD8 tD9 tD10 tD11:Tok} {qD1 qD2 qD3 qD4 qD5 qD6 qD7 qD8 qD9 qD10 qD11:Addr} {odD1:Option Addr} {nD1:Nat} {slD1:Array (Option Value)} {uD1_0 uD1_1:Tok} {odD2:Option Addr} {nD2:Nat} {slD2:Array (Option Value)} {uD2_0 uD2_1:Tok} {odD3:Option Addr} {nD3:Nat} {slD3:Array (Option Value)} {uD3_0 uD3_1 uD3_2:Tok} {odD4:Option Addr} {nD4:Nat} {slD4:Array (Option Value)} {uD4_0 uD4_1:Tok} {odD5:Option Addr} {nD5:Nat} {slD5:Array (Option Value)} {uD5_0 uD5_1:Tok} {odD6:Option Addr} {nD6:Nat} {slD6:Array (Option Value)} {uD6_0 uD6_1 uD6_2:Tok} {odD7:Option Addr} {nD7:Nat} {slD7:Array (Option Value)} {uD7_0 uD7_1:Tok} {odD8:Option Addr} {nD8:Nat} {slD8:Array (Option Value)} {uD8_0:Tok} {odD9:Option Addr} {nD9:Nat} {slD9:Array (Option Value)} {uD9_0 uD9_1:Tok} {odD10:Option Addr} {nD10:Nat} {slD10:Array (Option Value)} {uD10_0 uD10_1:Tok} {odD11:Option Addr} {nD11:Nat} {slD11:Array (Option Value)} {uD11_0 uD11_1:Tok}
  {fU C1 C2 C3 C4 C5 C6 C7 C8 C9 C10 C11 C12 C13:Addr} {odL anL:Option Addr} {slL:Array (Option Value)} {ocL kVL dcL pmL cdL ctL:Value}
  (g1:dZ K mainGlobals "MOST_JOINED"=some (some (.int 60 u1)))
  (g2:dZ K mainGlobals "LETTERS"=some (some (.str "abcdefghijklmnopqrstuvwxyz" u2)))
  (g3:dZ K mainGlobals "FIGURES"=some (some (.str "0123456789" u3)))
  (g4:dZ K mainGlobals "KEPT_WORDS"=some (some (.ref p4)))
  (h4:K.lookup p4=some ⟨.type "tuple",od4,.seq #[.str "def" w4_0,.str "fn" w4_1,.str "call" w4_2,.str "let" w4_3,.str "rec" w4_4,.str "get" w4_5,.str "tag" w4_6,.str "case" w4_7,.str "row" w4_8,.str "at" w4_9,.str "join" w4_10,.str "size" w4_11,.str "add" w4_12,.str "sub" w4_13,.str "less" w4_14] n4,sl4⟩)
  (g5:dZ K mainGlobals "MOST_FIGURES"=some (some (.int 60 u5)))
  (g6:dZ K mainGlobals "MOST_SIGNS"=some (some (.int 12 u6)))
  (g7:dZ K mainGlobals "MOST_DEFINITIONS"=some (some (.int 12 u7)))
  (g8:dZ K mainGlobals "MOST_FIELDS"=some (some (.int 6 u8)))
  (g9:dZ K mainGlobals "MOST_ARMS"=some (some (.int 6 u9)))
  (g10:dZ K mainGlobals "MOST_THINGS"=some (some (.int 8 u10)))
  (g11:dZ K mainGlobals "MOST_PLACES"=some (some (.int 160 u11)))
  (g12:dZ K mainGlobals "MOST_NEST"=some (some (.int 24 u12)))
  (a1:Fm K "parts_of" pd)
  (a2:Fm K "places_in" nM)
  (a3:Fm K "flat" Az)
  (a4:Fm K "first_parts" lP)
  (a5:Fm K "held_value" mC)
  (a6:Fm K "work_num" ph)
  (a7:Fm K "work_name" nN)
  (a8:Fm K "work_fn" qU)
  (a9:Fm K "work_call" nO)
  (a10:Fm K "work_let" pk)
  (a11:Fm K "work_rec" pA)
  (a12:Fm K "work_get" pB)
  (a13:Fm K "work_tag" pE)
  (a14:Fm K "work_row" pG)
  (a15:Fm K "work_at" qV)
  (a16:Fm K "run" EB)
  (a17:Fm K "answer" tO)
  (a18:Fm K "shown_value" lQ)
  (a19:Fm K "words_of" pH)
  (a20:Fm K "is_name" qW)
  (a21:Fm K "is_number" nP)
  (a22:Fm K "made_of" qX)
  (a23:Fm K "read" AA)
  (a24:Fm K "check_count" lR)
  (a25:Fm K "homes_of" pI)
  (a26:Fm K "refuse_twice" kX)
  (a27:Fm K "words_once" mD)
  (a28:Fm K "home_of" qY)
  (a29:Fm K "root_scopes" lT)
  (a30:Fm K "inner_scopes" kY)
  (a31:Fm K "widened" qZ)
  (a32:Fm K "_law_stem" nQ)
  (a33:Fm K "_law_words" mE)
  (a34:Fm K "_law_value" mF)
  (a35:Fm K "_law_refused" kZ)
  (a36:Fm K "_law_fn_by" mG)
  (a37:Fm K "_law_fn_shown" kE)
  (c1:dZ K mainGlobals "FlowError"=some (some (.ref C1)))
  (c2:dZ K mainGlobals "BadText"=some (some (.ref C2)))
  (x2:dQ K C2 [.type "ValueError",.type "Exception",.type "BaseException",.type "object"] "ValueError.__new__"=true)
  (c3:dZ K mainGlobals "Twice"=some (some (.ref C3)))
  (c4:dZ K mainGlobals "NoName"=some (some (.ref C4)))
  (c5:dZ K mainGlobals "TooHeavy"=some (some (.ref C5)))
  (c6:dZ K mainGlobals "BadPaper"=some (some (.ref C6)))
  (c7:dZ K mainGlobals "WrongKind"=some (some (.ref C7)))
  (j38:Jm K C7 "WrongKind.__init__" js)
  (n7made:da K (.ref C7) "made"=some none)
  (n7used:da K (.ref C7) "used"=some none)
  (n7slot:da K (.ref C7) "slot"=some none)
  (c8:dZ K mainGlobals "OutOfTurns"=some (some (.ref C8)))
  (x8:dQ K C8 [.type "ValueError",.type "Exception",.type "BaseException",.type "object"] "ValueError.__new__"=true)
  (c9:dZ K mainGlobals "RowFull"=some (some (.ref C9)))
  (x9:dQ K C9 [.type "ValueError",.type "Exception",.type "BaseException",.type "object"] "ValueError.__new__"=true)
  (c10:Cm K "Machine" C10)
  (n10program:da K (.ref C10) "program"=some none)
  (n10homes:da K (.ref C10) "homes"=some none)
  (n10turns:da K (.ref C10) "turns"=some none)
  (n10begun:da K (.ref C10) "begun"=some none)
  (n10end:da K (.ref C10) "end"=some none)
  (n10meets:da K (.ref C10) "meets"=some none)
  (n10had:da K (.ref C10) "had"=some none)
  (n10defined:da K (.ref C10) "defined"=some none)
  (n10steps:da K (.ref C10) "steps"=some none)
  (n10ready:da K (.ref C10) "ready"=some none)
  (e39:Mm K C10 "__init__" "Machine.__init__" jJ)
  (e40:Mm K C10 "work_program" "Machine.work_program" jb)
  (e41:Mm K C10 "work_steps" "Machine.work_steps" jt)
  (e42:Mm K C10 "begin" "Machine.begin" kF)
  (e43:Mm K C10 "work_parts" "Machine.work_parts" ju)
  (e44:Mm K C10 "take_ready" "Machine.take_ready" jv)
  (e45:Mm K C10 "finish" "Machine.finish" kl)
  (e46:Mm K C10 "go_into" "Machine.go_into" jV)
  (e47:Mm K C10 "comes" "Machine.comes" kG)
  (e48:Mm K C10 "comes_as" "Machine.comes_as" jK)
  (c11:Cm K "Run" C11)
  (n11end:da K (.ref C11) "end"=some none)
  (n11value:da K (.ref C11) "value"=some none)
  (n11meets:da K (.ref C11) "meets"=some none)
  (n11had:da K (.ref C11) "had"=some none)
  (n11begun:da K (.ref C11) "begun"=some none)
  (e49:Mm K C11 "__init__" "Run.__init__" k9)
  (c12:Cm K "Program" C12)
  (n12names:da K (.ref C12) "names"=some none)
  (n12roots:da K (.ref C12) "roots"=some none)
  (n12rows:da K (.ref C12) "rows"=some none)
  (e50:Mm K C12 "__init__" "Program.__init__" jL)
  (c13:Cm K "Reader" C13)
  (n13words:da K (.ref C13) "words"=some none)
  (n13taken:da K (.ref C13) "taken"=some none)
  (n13rows:da K (.ref C13) "rows"=some none)
  (e51:Mm K C13 "__init__" "Reader.__init__" jW)
  (e52:Mm K C13 "ahead" "Reader.ahead" lj)
  (e53:Mm K C13 "take" "Reader.take" lU)
  (e54:Mm K C13 "pass_over" "Reader.pass_over" jM)
  (e55:Mm K C13 "take_name" "Reader.take_name" jN)
  (e56:Mm K C13 "take_expr" "Reader.take_expr" jO)
  (e57:Mm K C13 "take_row" "Reader.take_row" jX)
  (e58:Mm K C13 "take_form" "Reader.take_form" jP)
  (e59:Mm K C13 "take_steady" "Reader.take_steady" jw)
  (e60:Mm K C13 "take_fields" "Reader.take_fields" jx)
  (e61:Mm K C13 "take_arms" "Reader.take_arms" jQ)
  (e62:Mm K C13 "take_things" "Reader.take_things" jy)
  (v1:eE K (.ref C8) (.ref C8)=some true)
  (v2:eE K (.ref C9) (.ref C9)=some true)
  (v3:eE K (.ref C7) (.ref C7)=some true)
  (v4:eE K (.ref C8) (.ref C1)=some true)
  (v5:eE K (.ref C9) (.ref C1)=some true)
  (v6:eE K (.ref C7) (.ref C1)=some true)
  (v7:eE K (.ref C9) (.ref C8)=some false)
  (v8:eE K (.ref C7) (.ref C8)=some false)
  (v9:eE K (.ref C7) (.ref C9)=some false)
  (v10:Kts K C8 C9 C7 C6 C2 C4 C5 C3)
  (v11:Kts K C9 C8 C7 C6 C2 C4 C5 C3)
  (v12:Kts K C7 C8 C9 C6 C2 C4 C5 C3)
  (z_ValueError:dZ K mainGlobals "ValueError"=some none)
  (z_all:dZ K mainGlobals "all"=some none)
  (z_dict:dZ K mainGlobals "dict"=some none)
  (z_enumerate:dZ K mainGlobals "enumerate"=some none)
  (z_int:dZ K mainGlobals "int"=some none)
  (z_isinstance:dZ K mainGlobals "isinstance"=some none)
  (z_len:dZ K mainGlobals "len"=some none)
  (z_list:dZ K mainGlobals "list"=some none)
  (z_range:dZ K mainGlobals "range"=some none)
  (z_reversed:dZ K mainGlobals "reversed"=some none)
  (z_str:dZ K mainGlobals "str"=some none)
  (z_sum:dZ K mainGlobals "sum"=some none)
  (z_tuple:dZ K mainGlobals "tuple"=some none)
  (z_zip:dZ K mainGlobals "zip"=some none)
  (w0:dZ K mainGlobals "work_num"=some (some (.ref fW0)))
  (w1:dZ K mainGlobals "work_name"=some (some (.ref fW1)))
  (w2:dZ K mainGlobals "work_fn"=some (some (.ref fW2)))
  (w3:dZ K mainGlobals "work_call"=some (some (.ref fW3)))
  (w4:dZ K mainGlobals "work_let"=some (some (.ref fW4)))
  (w5:dZ K mainGlobals "work_rec"=some (some (.ref fW5)))
  (w6:dZ K mainGlobals "work_get"=some (some (.ref fW6)))
  (w7:dZ K mainGlobals "work_tag"=some (some (.ref fW7)))
  (w9:dZ K mainGlobals "work_row"=some (some (.ref fW9)))
  (w10:dZ K mainGlobals "work_at"=some (some (.ref fW10)))
  (gW:dZ K mainGlobals "WORKERS"=some (some (.ref pW)))
  (sW:(pW==sysModules)=false)
  (hW:K.lookup pW=some ⟨.type "dict",none,.dict #[⟨PyData.keyHash w.params "num",.str "num" tW0,.ref fW0⟩,⟨PyData.keyHash w.params "name",.str "name" tW1,.ref fW1⟩,⟨PyData.keyHash w.params "fn",.str "fn" tW2,.ref fW2⟩,⟨PyData.keyHash w.params "call",.str "call" tW3,.ref fW3⟩,⟨PyData.keyHash w.params "let",.str "let" tW4,.ref fW4⟩,⟨PyData.keyHash w.params "rec",.str "rec" tW5,.ref fW5⟩,⟨PyData.keyHash w.params "get",.str "get" tW6,.ref fW6⟩,⟨PyData.keyHash w.params "tag",.str "tag" tW7,.ref fW7⟩,⟨PyData.keyHash w.params "case",.str "case" tW8,.ref fW8⟩,⟨PyData.keyHash w.params "row",.str "row" tW9,.ref fW9⟩,⟨PyData.keyHash w.params "at",.str "at" tW10,.ref fW10⟩,⟨PyData.keyHash w.params "join",.str "join" tW11,.ref fW11⟩,⟨PyData.keyHash w.params "size",.str "size" tW12,.ref fW12⟩,⟨PyData.keyHash w.params "add",.str "add" tW13,.ref fW13⟩,⟨PyData.keyHash w.params "sub",.str "sub" tW14,.ref fW14⟩,⟨PyData.keyHash w.params "less",.str "less" tW15,.ref fW15⟩] nW,#[]⟩)
  (gD:dZ K mainGlobals "STEADY_FORMS"=some (some (.ref pD)))
  (sD:(pD==sysModules)=false)
  (hD:K.lookup pD=some ⟨.type "dict",none,.dict #[⟨PyData.keyHash w.params "fn",.str "fn" tD1,.ref qD1⟩,⟨PyData.keyHash w.params "call",.str "call" tD2,.ref qD2⟩,⟨PyData.keyHash w.params "let",.str "let" tD3,.ref qD3⟩,⟨PyData.keyHash w.params "get",.str "get" tD4,.ref qD4⟩,⟨PyData.keyHash w.params "tag",.str "tag" tD5,.ref qD5⟩,⟨PyData.keyHash w.params "at",.str "at" tD6,.ref qD6⟩,⟨PyData.keyHash w.params "join",.str "join" tD7,.ref qD7⟩,⟨PyData.keyHash w.params "size",.str "size" tD8,.ref qD8⟩,⟨PyData.keyHash w.params "add",.str "add" tD9,.ref qD9⟩,⟨PyData.keyHash w.params "sub",.str "sub" tD10,.ref qD10⟩,⟨PyData.keyHash w.params "less",.str "less" tD11,.ref qD11⟩] nD,#[]⟩)
  (hD1:K.lookup qD1=some ⟨.type "tuple",odD1,.seq #[.str "name" uD1_0,.str "expr" uD1_1] nD1,slD1⟩)
  (hD2:K.lookup qD2=some ⟨.type "tuple",odD2,.seq #[.str "expr" uD2_0,.str "expr" uD2_1] nD2,slD2⟩)
  (hD3:K.lookup qD3=some ⟨.type "tuple",odD3,.seq #[.str "name" uD3_0,.str "expr" uD3_1,.str "expr" uD3_2] nD3,slD3⟩)
  (hD4:K.lookup qD4=some ⟨.type "tuple",odD4,.seq #[.str "expr" uD4_0,.str "name" uD4_1] nD4,slD4⟩)
  (hD5:K.lookup qD5=some ⟨.type "tuple",odD5,.seq #[.str "name" uD5_0,.str "expr" uD5_1] nD5,slD5⟩)
  (hD6:K.lookup qD6=some ⟨.type "tuple",odD6,.seq #[.str "expr" uD6_0,.str "expr" uD6_1,.str "expr" uD6_2] nD6,slD6⟩)
  (hD7:K.lookup qD7=some ⟨.type "tuple",odD7,.seq #[.str "expr" uD7_0,.str "expr" uD7_1] nD7,slD7⟩)
  (hD8:K.lookup qD8=some ⟨.type "tuple",odD8,.seq #[.str "expr" uD8_0] nD8,slD8⟩)
  (hD9:K.lookup qD9=some ⟨.type "tuple",odD9,.seq #[.str "expr" uD9_0,.str "expr" uD9_1] nD9,slD9⟩)
  (hD10:K.lookup qD10=some ⟨.type "tuple",odD10,.seq #[.str "expr" uD10_0,.str "expr" uD10_1] nD10,slD10⟩)
  (hD11:K.lookup qD11=some ⟨.type "tuple",odD11,.seq #[.str "expr" uD11_0,.str "expr" uD11_1] nD11,slD11⟩)
  (aL:dZ K mainGlobals "law"=some (some (.ref fL))) (lL:K.lookup fL=some ⟨ocL,odL,.func (dM "law" "law" (kU tP) (jG tP) (gu tP) .none kVL dcL pmL anL cdL ctL),slL⟩) (cL:dN K cdL "law"=true) (kL:dC K (.ref fL)=true):
  ∃fd:FuncData,(∀(s:Shared) (v:Value),BindsTo s fd ⟨[v],[]⟩ [("_law_script",v)])/\∀base:Heap,K.In base->base.Ns mainGlobals mg->ow l.prog w K mg base CX0 150 fa fd ["_law_script"] (xT K):=by
 have e:=hfa.symm.trans (eF X G aL)
 cases e
 have T:Txt K mg:=⟨u1,eF X G g1,u2,eF X G g2,u3,eF X G g3,p4,eF X G g4,fun _=> .inr ⟨_,_,_,h4,rfl,rfl,HF,(.cons ⟨_,rfl⟩ (.cons ⟨_,rfl⟩ (.cons ⟨_,rfl⟩ (.cons ⟨_,rfl⟩ (.cons ⟨_,rfl⟩ (.cons ⟨_,rfl⟩ (.cons ⟨_,rfl⟩ (.cons ⟨_,rfl⟩ (.cons ⟨_,rfl⟩ (.cons ⟨_,rfl⟩ (.cons ⟨_,rfl⟩ (.cons ⟨_,rfl⟩ (.cons ⟨_,rfl⟩ (.cons ⟨_,rfl⟩ (.cons ⟨_,rfl⟩ .nil)))))))))))))))⟩,u5,eF X G g5,u6,eF X G g6,u7,eF X G g7,u8,eF X G g8,u9,eF X G g9,u10,eF X G g10,u11,eF X G g11,u12,eF X G g12,a1.x X G,a2.x X G,a3.x X G,a4.x X G,a5.x X G,a6.x X G,a7.x X G,a8.x X G,a9.x X G,a10.x X G,a11.x X G,a12.x X G,a13.x X G,a14.x X G,a15.x X G,a16.x X G,a17.x X G,a18.x X G,a19.x X G,a20.x X G,a21.x X G,a22.x X G,a23.x X G,a24.x X G,a25.x X G,a26.x X G,a27.x X G,a28.x X G,a29.x X G,a30.x X G,a31.x X G,a32.x X G,a33.x X G,a34.x X G,a35.x X G,a36.x X G,a37.x X G,⟨C1,eF X G c1⟩,⟨C2,eF X G c2⟩,x2,⟨C3,eF X G c3⟩,⟨C4,eF X G c4⟩,⟨C5,eF X G c5⟩,⟨C6,eF X G c6⟩,⟨C7,eF X G c7⟩,j38.x,n7made,n7used,n7slot,⟨C8,eF X G c8⟩,x8,⟨C9,eF X G c9⟩,x9,c10.x X G,n10program,n10homes,n10turns,n10begun,n10end,n10meets,n10had,n10defined,n10steps,n10ready,e39.x,c10.k e39.x,e40.x,e41.x,e42.x,e43.x,e44.x,e45.x,e46.x,e47.x,e48.x,c11.x X G,n11end,n11value,n11meets,n11had,n11begun,e49.x,c11.k e49.x,c12.x X G,n12names,n12roots,n12rows,e50.x,c12.k e50.x,c13.x X G,n13words,n13taken,n13rows,e51.x,c13.k e51.x,e52.x,e53.x,e54.x,e55.x,e56.x,e57.x,e58.x,e59.x,e60.x,e61.x,e62.x,v1,v2,v3,v4,v5,v6,v7,v8,v9,v10,v11,v12,eG X G z_ValueError,eG X G z_all,eG X G z_dict,eG X G z_enumerate,eG X G z_int,eG X G z_isinstance,eG X G z_len,eG X G z_list,eG X G z_range,eG X G z_reversed,eG X G z_str,eG X G z_sum,eG X G z_tuple,eG X G z_zip⟩
 have z:=(eF X G w0).symm.trans T.d6.m
 cases z
 have z:=(eF X G w1).symm.trans T.d7.m
 cases z
 have z:=(eF X G w2).symm.trans T.d8.m
 cases z
 have z:=(eF X G w3).symm.trans T.d9.m
 cases z
 have z:=(eF X G w4).symm.trans T.d10.m
 cases z
 have z:=(eF X G w5).symm.trans T.d11.m
 cases z
 have z:=(eF X G w6).symm.trans T.d12.m
 cases z
 have z:=(eF X G w7).symm.trans T.d13.m
 cases z
 have z:=(eF X G w9).symm.trans T.d14.m
 cases z
 have z:=(eF X G w10).symm.trans T.d15.m
 cases z
 exact⟨dM "law" "law" (kU tP) (jG tP) (gu tP) .none kVL dcL pmL anL cdL ctL,fun s v=> .of_eq rfl,fun base _ _=>E1 T (vL (l:=[("fn",tD1,qD1),("call",tD2,qD2),("let",tD3,qD3),("get",tD4,qD4),("tag",tD5,qD5),("at",tD6,qD6),("join",tD7,qD7),("size",tD8,qD8),("add",tD9,qD9),("sub",tD10,qD10),("less",tD11,qD11)]) (eF X G gD) sD hD rfl (by show(["fn","call","let","get","tag","at","join","size","add","sub","less"]:List Str).Nodup;decide+kernel) (.cons (fun _=> .inr ⟨_,_,_,hD1,rfl,rfl,ma,(.cons ⟨_,rfl⟩ (.cons ⟨_,rfl⟩ .nil))⟩)<| .cons (fun _=> .inr ⟨_,_,_,hD2,rfl,rfl,ma,(.cons ⟨_,rfl⟩ (.cons ⟨_,rfl⟩ .nil))⟩)<| .cons (fun _=> .inr ⟨_,_,_,hD3,rfl,rfl,oR,(.cons ⟨_,rfl⟩ (.cons ⟨_,rfl⟩ (.cons ⟨_,rfl⟩ .nil)))⟩)<| .cons (fun _=> .inr ⟨_,_,_,hD4,rfl,rfl,ma,(.cons ⟨_,rfl⟩ (.cons ⟨_,rfl⟩ .nil))⟩)<| .cons (fun _=> .inr ⟨_,_,_,hD5,rfl,rfl,ma,(.cons ⟨_,rfl⟩ (.cons ⟨_,rfl⟩ .nil))⟩)<| .cons (fun _=> .inr ⟨_,_,_,hD6,rfl,rfl,oR,(.cons ⟨_,rfl⟩ (.cons ⟨_,rfl⟩ (.cons ⟨_,rfl⟩ .nil)))⟩)<| .cons (fun _=> .inr ⟨_,_,_,hD7,rfl,rfl,ma,(.cons ⟨_,rfl⟩ (.cons ⟨_,rfl⟩ .nil))⟩)<| .cons (fun _=> .inr ⟨_,_,_,hD8,rfl,rfl,vv,(.cons ⟨_,rfl⟩ .nil)⟩)<| .cons (fun _=> .inr ⟨_,_,_,hD9,rfl,rfl,ma,(.cons ⟨_,rfl⟩ (.cons ⟨_,rfl⟩ .nil))⟩)<| .cons (fun _=> .inr ⟨_,_,_,hD10,rfl,rfl,ma,(.cons ⟨_,rfl⟩ (.cons ⟨_,rfl⟩ .nil))⟩)<| .cons (fun _=> .inr ⟨_,_,_,hD11,rfl,rfl,ma,(.cons ⟨_,rfl⟩ (.cons ⟨_,rfl⟩ .nil))⟩)<| .nil)) (JC T (eF X G gW) sW hW rfl) (qH (st:=tP) lL cL kL)⟩
theorem walk {l:PySem.W.OpenLaw} {q:Program} {loose:List Str} {XP:(Str->Option Value)->Heap->Prop} {YP:World->Heap->Prop} {d:DefRec} {K:Params->PySem.W.Frag} (hn:l.most=some 63) (hdf:d.params.defaults=[])
  (hY:∀(w:World) (h:Heap),YP w h->(K w.params).In h)
  (F:∀(w:World) (mg:Str->Option Value) (fa:Addr) (h:Heap),(K w.params).In h->h.Ns mainGlobals mg->mg d.name=some (.ref fa)->
   ∃fd:FuncData,(∀(s:Shared) (u:Value),BindsTo s fd ⟨[u],[]⟩ [("_law_script",u)])/\∀base:Heap,(K w.params).In base->base.Ns mainGlobals mg->ow l.prog w (K w.params) mg base CX0 150 fa fd ["_law_script"] (xT (K w.params))):
  PySem.W.WalkO q loose XP YP l.row.toRowW d [] (fun f vs=>PySem.call f vs):=
 L2.Internal.walk_of (n:=63) (k:=150) (x:="_law_script") (CX:=fun _=>CX0) (sp:=fun w=>xT (K w.params)) hn (by decide) hdf ⟨rfl,by decide,by decide⟩ hY F (fun _ _ a ns hl _ hS=>⟨a,ns,rfl,hS,hl,fun _=>rfl⟩) fun _ _ _ _ _ z=>z
end K66.Internal
open PySem PySem.W PyProof.Rows
set_option maxRecDepth 100000 in
set_option maxHeartbeats 0 in
theorem PySem.Challenge.cw_flowkinds_k66_answers_shown_holds : PySem.Challenge.rw_flowkinds_k66_answers_shown.Holds := by
 w_on; o_law; k_head; (case hw => w_witness2)
 k_fill
 refine K66.Internal.walk (l := PySem.Challenge.rw_flowkinds_k66_answers_shown) rfl rfl (fun w h Y => PySem.W.kIn_of Y) ?F
 case F =>
  intro w mg fa h KX G hmg
  apply K66.Internal.all_mk KX G hmg
  all_goals first | (apply K66.Internal.Jm.mk <;> first | k_is | kernel_rfl | rfl) | (apply K66.Internal.Fm.mk <;> k_is) | (apply K66.Internal.Mm.mk <;> k_is) | (apply K66.Internal.Cm.mk <;> k_is) | k_is | kts_exm | kit_is | k_exc | rfl | (constructor <;> first | kit_is | (constructor <;> k_is))
