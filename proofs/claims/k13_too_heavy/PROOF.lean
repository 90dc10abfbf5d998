import PyProof.Rows.All
import Wide.All
import OpenK.AllK
import Wide.FinOn
import Lean
import PyProof.EqAt
import PyProof.EqKinds
import PyProof.TupleCall
import PyProof.NeKinds
import PySem.Challenge.RW_flowkinds_k13_too_heavy
set_option Elab.async false
set_option linter.all false
set_option maxRecDepth 100000
set_option maxHeartbeats 4000000
set_option genInjectivity false
set_option genSizeOf false
set_option bootstrap.genMatcherCode false
set_option compiler.extract_closed false
open List renaming all_cons→aY,all_eq_true→bw,all_map→bu,any_cons→aR,any_eq_true→bf,append_assoc→a8,append_cancel_left→b5,append_nil→aE,cons_append→aS,cons_ne_nil→bN,drop_eq_getElem_cons→bO,eq_nil_of_length_eq_zero→bS,eq_of_mem_replicate→cN,ext_getElem?→bE,filterMap_cons→ag,filter_append→bM,filter_cons_of_neg→cy,filter_cons_of_pos→cj,filter_eq_nil_iff→cu,filter_eq_self→bV,find?_cons→aQ,flatten_cons→a7,getD_eq_getElem?_getD→bo,getElem?_append_left→aK,getElem?_append_right→aJ,getElem?_cons_succ→bC,getElem?_cons_zero→b7,getElem?_eq_getElem→bx,getElem?_eq_none→bF,getElem?_eq_none_iff→cJ,getElem?_eq_some_iff→au,getElem?_map→aM,getElem?_modify→cw,getElem?_range→cH,getElem?_set_ne→aw,getElem?_set_self→av,getElem?_take→b6,getElem?_toArray→bH,getElem_mem→bD,getLast?_append→cA,getLast?_eq_getElem?→cz,head?_drop→bX,headD_eq_head?_getD→bW,length_append→aO,length_cons→aA,length_drop→aW,length_eq_zero_iff→bL,length_filter_le→bq,length_map→aD,length_nil→aT,length_range→cb,length_replicate→aP,length_reverse→bG,length_set→aX,length_singleton→a9,length_take→aI,length_zip→bT,lookup→aB,lookup_cons→bj,map_append→bh,map_congr_left→bU,map_cons→aC,map_map→bA,map_nil→aU,map_replicate→cK,mem_append→ao,mem_append_left→aq,mem_append_right→az,mem_cons→aj,mem_cons_of_mem→ai,mem_cons_self→ah,mem_filterMap→ay,mem_iff_getElem?→bI,mem_map→bb,mem_map_of_mem→cQ,mem_of_find?_eq_some→bY,mem_of_getElem?→aN,mem_of_mem_drop→bP,mem_of_mem_take→b9,mem_range→af,mem_replicate→cm,mem_reverse→cD,mem_singleton→bg,mem_singleton_self→cG,nil_append→ba,nodup_cons→aF,not_mem_nil→bB,of_mem_zip→aG,pairwise_append→cB,pairwise_iff_getElem→cC,pairwise_lt_range→b4,pairwise_singleton→cF,range→aa,range'→cq,range'_succ→cx,range_succ→b8,range_succ_eq_map→bt,replicate→aH,replicate_succ→a6,replicate_succ'→cM,replicate_zero→cP,reverse_cons→aZ,set_set→bp,singleton_append→bQ,size_toArray→aV,sum_append→bK,sum_cons→cE,sum_replicate_nat→cO,take_add_one→bJ,take_append_drop→cf,take_length→br,take_of_length_le→bZ,take_succ_cons→cg,take_zero→ck,zip→bz,zip_cons_cons→bR
open Nat renaming add_assoc→dA,le_of_eq→c9,le_of_lt→cY,le_refl→c7,le_succ→dc,le_trans→cX,lt_irrefl→cU,lt_of_le_of_lt→de,lt_of_lt_of_le→cR,lt_succ_of_lt→df,lt_succ_self→da,ne_of_gt→cZ,ne_of_lt→cW,not_lt_zero→dy,sub_self→dw,toDigits→dh,toDigits_append_toDigits→dj,toDigits_of_lt_base→di,zero_add→du,zero_le→c8
open Option renaming isSome_iff_exists→dC,isSome_map→dE,map_eq_some_iff→dF,map_some→dD,some→dB
open PySem.W renaming any_some→dZ,callWith_K→eK,cellsFrom_some→eM,clsIn→eW,codeIn→eO,codeRec_of→eP,emptyDict→d9,excIn→eR,exmOne→fc,findIn→dR,fnOf→eN,funFrames_hide→eQ,handedIn→dS,hasDictIn→dQ,hideAll→dI,hideAll_get→dJ,hideAll_none→dN,instObj→dG,isFn→dW,isNs_of_in→eS,keepIn→eA,kia_one→eG,kitAny→ff,kitOne→eF,kitx_dict→eJ,kitx_list→eI,lookIn→dO,looks_clsIn→d6,looks_findIn→eg,looks_subIn→eV,makesIn→d7,methodCall_KW→eL,methodObj→dH,mg_none_of→fh,mg_of→fg,mroIn→eE,nsIn→eX,nsOkIn→eY,of_hideAll→dM,plainGet→dP,plainGet_of→dU,plainOver→dX,specialIn→eu,subIn→eU,tailIn→eZ,tail_of_in→eT,takerIn→dY,takesIn→eB
open PySem.F renaming args_tuple_add_2→ft,entry_tuple_add→fq,excBase_ValueError→fu,plainAttrs_list→fD,plainAttrs_str→fC,slot_dict_getitem→fi,slot_dict_update→fz,slot_list_append→fE,slot_list_extend→fG,slot_str_join→fJ,slot_tuple_add→fj,store_ValueError→fA,type_list_append→fF,type_list_extend→fH,type_str_join→fK
open Bool renaming and_eq_true→fV,eq_iff_iff→fO,false_ne_true→fN,false_or→fS,false_xor→fW,true_and→fX,true_or→fQ
open Array renaming getElem?_eq_getElem→f9,getElem?_toList→fZ,length_toList→fY,toList_append→gb
open Int renaming emod_lt_of_pos→gm,emod_nonneg→gj,eq_ofNat_of_zero_le→gh,le_refl→gg,toNat_natCast→gf
open PySem.Heap renaming get?_none_of_le→gu,get?_push_of_some→gv,get?_push_size→gr,get?_update_other→gy,get?_update_self→gx,lt_size→gq,size_push→gw
open PyProof.Rows renaming callWith_type1→gz,slot_tuple_getitem→gA
noncomputable section
namespace L2.Internal
theorem auR (h:True=True:=by rfl):True:=trivial
theorem auD (h:True:=by decide):True:=trivial
theorem auI (h:True->True=True:=by intro _;rfl):True:=trivial
theorem auL (h:True=True\/True:=by first|exact .inl rfl|exact .inr rfl|assumption):True:=trivial
open PySem PySem.Spec PyProof.Rows
abbrev Key:=Sum Int Str
def wb:Key->Value->Bool
 | .inl k,v=>Value.isInt k v
 | .inr x,v=>Value.isStrOf x v
def keyH (w:World):Key->Int
 | .inl k=>hashInt k
 | .inr x=>hashStr w x
theorem jg:∀{k:Key} {v:Value},wb k v=true->(∃i t,k=Sum.inl i/\v=Value.int i t)\/(∃x t,k=Sum.inr x/\v=Value.str x t)
 | .inl i,v,h=>by
  obtain⟨t,e⟩:=Value.isInt_shape (k:=i) (v:=v) h
  exact .inl ⟨i,t,rfl,e⟩
 | .inr x,v,h=>by
  obtain⟨t,e⟩:=Value.isStrOf_shape (x:=x) (v:=v) h
  exact .inr ⟨x,t,rfl,e⟩
theorem xr (i:Int) (t:Tok):wb (.inl i) (.int i t)=true:=by simp[wb,Value.isInt]
theorem oR (x:Str) (t:Tok):wb (.inr x) (.str x t)=true:=by simp[wb,Value.isStrOf]
theorem Dw (a b:Int):decide ((Sum.inl a:Key)=Sum.inl b)=(a==b):=by
 by_cases e:a=b
 ·subst e;simp
 ·have h:¬(Sum.inl a:Key)=Sum.inl b:=fun q=>e (Sum.inl.inj q)
  rw[decide_eq_false h]
  exact(beq_eq_false_iff_ne.mpr e).symm
theorem Dy (a b:Str):decide ((Sum.inr a:Key)=Sum.inr b)=decide (a=b):=by
 by_cases e:a=b
 ·subst e;simp
 ·have h:¬(Sum.inr a:Key)=Sum.inr b:=fun q=>e (Sum.inr.inj q)
  rw[decide_eq_false h,decide_eq_false e]
theorem Dz (a:Int) (b:Str):decide ((Sum.inl a:Key)=Sum.inr b)=false:=decide_eq_false (fun q=>nomatch q)
theorem DA (a:Str) (b:Int):decide ((Sum.inr a:Key)=Sum.inl b)=false:=decide_eq_false (fun q=>nomatch q)
def jQ (prog:Program) (w:World):PySem.KeyKind prog w Key where
 is:=wb
 hash:=keyH w
 inj:=fun v a b ha hb=>by
  rcases jg ha with⟨i,t,rfl,rfl⟩|⟨x,t,rfl,rfl⟩
  ·rcases jg hb with⟨j,u,rfl,e⟩|⟨y,u,rfl,e⟩
   ·injection e with e1 _;rw[e1]
   ·exact nomatch e
  ·rcases jg hb with⟨j,u,rfl,e⟩|⟨y,u,rfl,e⟩
   ·exact nomatch e
   ·injection e with e1 _;rw[e1]
 byValue:=fun k v h=>by
  rcases jg h with⟨i,t,rfl,rfl⟩|⟨x,t,rfl,rfl⟩<;>rfl
 pyHash:=fun hv h=>by
  rcases jg hv with⟨i,t,rfl,rfl⟩|⟨x,t,rfl,rfl⟩
  ·exact wpAny_pyHash_int h
  ·exact wpAny_pyHash_str h
 eqBool:=fun hu hv h=>by
  rcases jg hu with⟨i,t,rfl,rfl⟩|⟨x,t,rfl,rfl⟩
  ·rcases jg hv with⟨j,u,rfl,rfl⟩|⟨y,u,rfl,rfl⟩
   ·rw[Dw]at h;exact wpAny_eqBool_int h
   ·rw[Dz]at h;exact SeqAt.EqAt.int_str i t y u _ _ _ _ h
  ·rcases jg hv with⟨j,u,rfl,rfl⟩|⟨y,u,rfl,rfl⟩
   ·rw[DA]at h;exact SeqAt.EqAt.str_int x t j u _ _ _ _ h
   ·rw[Dy]at h;exact wpAny_eqBool_str h
 «strs»:=fun k x t v h=>by
  rcases jg h with⟨i,u,rfl,e⟩|⟨y,u,rfl,e⟩
  ·exact nomatch e
  ·injection e with e1 _
   subst e1
   cases v<;>rfl
theorem ud (prog:Program) (w:World) (i:Int) (t:Tok):(jQ prog w).is (.inl i) (.int i t)=true:=xr i t
theorem ue (prog:Program) (w:World) (x:Str) (t:Tok):(jQ prog w).is (.inr x) (.str x t)=true:=oR x t
end L2.Internal
namespace L2.Internal
open PySem PySem.Spec PyProof.Rows
set_option genInjectivity true in
inductive V where
 |non|bl (b:Bool)|int (i:Int)|str (x:Str)|byt (b:Array UInt8)|flt (b:UInt64)|ref (a:Addr)|ty (n:String)
 deriving DecidableEq
def jq:V->Value->Prop
 | .non,u=>u=Value.none
 | .bl b,u=>u=Value.bool b
 | .int i,u=>∃t,u=Value.int i t
 | .str x,u=>∃t,u=Value.str x t
 | .byt b,u=>∃t,u=Value.bytes b t
 | .flt b,u=>∃t,u=Value.float b t
 | .ref a,u=>u=Value.ref a
 | .ty n,u=>u=Value.type n
abbrev iV:List V->List Value->Prop:=Paired jq
theorem iV.length {xs:List V} {us:List Value} (r:iV xs us):xs.length=us.length:=Paired.length r
theorem iV.get:∀{xs:List V} {us:List Value} {i:Nat} {x:V},iV xs us->xs[i]?=some x->∃u,us[i]?=some u/\jq x u
 |_,_,_,_,.nil,e=>by simp at e
 |_,_,0,_,.cons r _,e=>by simp at e;subst e;exact⟨_,rfl,r⟩
 |_,_,i+ 1,x,.cons _ t,e=>by
  obtain⟨u,h1,h2⟩:=iV.get (i:=i) (x:=x) t (by simpa using e)
  exact⟨u,by simpa using h1,h2⟩
theorem iV.set {x:V} {u:Value} (r:jq x u):∀{xs:List V} {us:List Value} (i:Nat),iV xs us->iV (xs.set i x) (us.set i u)
 |_,_,_,.nil=> .nil
 |_,_,0,.cons _ t=> .cons r t
 |_,_,i+ 1,.cons q t=> .cons q (iV.set r i t)
theorem iV.append:∀{xs ys:List V} {us ws:List Value},iV xs us->iV ys ws->iV (xs++ys) (us++ws)
 |_,_,_,_,.nil,s=>s
 |_,_,_,_,.cons r t,s=> .cons r (iV.append t s)
theorem iV.take:∀{xs:List V} {us:List Value} (n:Nat),iV xs us->iV (xs.take n) (us.take n)
 |_,_,0,_=> .nil
 |_,_,_+ 1,.nil=> .nil
 |_,_,n+ 1,.cons r t=> .cons r (iV.take n t)
theorem iV.drop:∀{xs:List V} {us:List Value} (n:Nat),iV xs us->iV (xs.drop n) (us.drop n)
 |_,_,0,r=>r
 |_,_,_+ 1,.nil=> .nil
 |_,_,n+ 1,.cons _ t=>iV.drop n t
def qk:Option V->Option Value->Prop
 |some v,some u=>jq v u
 |none,none=>True
 |_,_=>False
def KV {κ:Type}:List (κ×V)->List (κ×Value)->Prop:=Paired fun(p:κ×V) (q:κ×Value)=>p.1=q.1/\jq p.2 q.2
def kV:Key->V
 | .inl i=> .int i
 | .inr x=> .str x
inductive HO where
 |lst (xs:List V)
 |tup (xs:List V)
 |dK (kvs:List (Key×V))|dT (kvs:List (List Key×V))
 |set (S:Int->Bool) (n:Nat)
 |ins (C dx:Addr) (fs:List (Str×V))
 |own (x:Addr)
 |xd (fs:List (Str×V))
 |met (f x:Addr)
 |rng (lo hi:Int)
 |frz (o:Obj) (u:HO)
 |tbl (ps:Array Value)
 |ext (φ:Heap->Prop)
abbrev Hp:=Addr->Option HO
def xj (h:Heap) (a:Addr) (items:Array Value):Prop:=∃o,h.get? a=some o/\o.cls= .type "tuple"/\∃n,o.data= .seq items n/\o.dict=none
theorem xj.tup {h:Heap} {a:Addr} {items:Array Value}:xj h a items->IsTup h a items
 |⟨o,h1,h2,n,h3,_⟩=>⟨o,h1,h2,n,h3⟩
theorem xj.lt {h:Heap} {a:Addr} {items:Array Value} (p:xj h a items):a<h.objs.size:=by
 obtain⟨o,e,_⟩:=p
 exact gq e
theorem xj.new (h:Heap) (items:Array Value):xj (h.push {cls:= .type "tuple",data:= .seq items}) h.objs.size items:=⟨_,gr _ rfl,rfl,_,rfl,rfl⟩
def upd (H:Hp) (a:Addr) (o:HO):Hp:=fun b=>if b=a then some o else H b
theorem gE {H:Hp} {a:Addr} {o:HO}:upd H a o a=some o:=by unfold upd;rw[if_pos rfl]
theorem gM {H:Hp} {a b:Addr} {o:HO} (h:b≠a):upd H a o b=H b:=by unfold upd;rw[if_neg h]
theorem xt {H:Hp} {a:Addr} {o u:HO}:upd (upd H a o) a u=upd H a u:=by
 funext b;unfold upd;split<;>rfl
theorem kU {H:Hp} {a b:Addr} {o u:HO} (h:H a=some o) (h':H b=some u) (d:o≠u):a≠b:=by
 intro e;subst e;rw[h]at h';exact d (dB.inj h')
theorem gL {H:Hp} {a b:Addr} {o:HO} (h:H a=some o) (h':H b=none):a≠b:=by
 intro e;subst e;rw[h]at h';cases h'
section
variable (P:Program) (w:World)
def jd (H:Hp) (h:Heap) (a:Addr):HO->Prop
 | .lst xs=>xs.length<=sizeLine/\∃(its:List Value) (n:Nat),iV xs its/\h.get? a=some {cls:= .type "list",data:= .seq its.toArray n}
 | .tup xs=>xs.length<=sizeLine/\∃its:List Value,iV xs its/\xj h a its.toArray
 | .dK kvs=>kvs.length<=sizeLine/\(a==sysModules)=false/\∃vs,KV kvs vs/\h.DictOf (jQ P w) a vs
 | .dT kvs=>kvs.length<=sizeLine/\(a==sysModules)=false/\∃xs:List (List Key×Addr×Value),
   Paired (fun(p:List Key×V) (q:List Key×Addr×Value)=>p.1=q.1/\H q.2.1=some (.tup (p.1.map kV))/\jq p.2 q.2.2) kvs xs/\
   ∃o es ep,h.get? a=some o/\o.ExactDict/\o.data= .dict es ep/\es.toList=xs.map (entryOfKey (tupleKind (jQ P w)))/\(xs.map (·.1)).Nodup
 | .set S n=>h.SetOf (intKind P w) a S n
 | .ins C dx fs=>H dx=some (.own a)/\fs.length<=1000/\dx≠a/\h.get? a=some (dG C dx)/\
   ∃mA,h.Ns1 dx mA/\(∀f,qk (fs.lookup f) (mA f))/\PySem.Within mA (fs.map (·.1))
 | .own _=>∃o,h.get? a=some o
 | .xd fs=>∃mA,h.Ns1 a mA/\∀f,qk (fs.lookup f) (mA f)
 | .rng lo hi=>∃t u v,h.get? a=some {cls:= .type "range",data:= .fields #[.int lo t,.int hi u,.int 1 v]}
 | .frz o u=>h.get? a=some o/\jd H h a u
 | .tbl ps=>h.get? a=some {cls:= .none,data:= .fields ps}
 | .met f x=>h.get? a=some (dH (.ref f) (.ref x))
 | .ext φ=>φ h/\(∃o,h.get? a=some o)/\∀h1 h2:Heap,φ h1->(∀o,h1.get? a=some o->h2.get? a=some o)->φ h2
def HOk (H:Hp) (h:Heap):Prop:=∀a o,H a=some o->jd P w H h a o
end
section
variable {P:Program} {w:World} {H H':Hp} {h h':Heap} {a:Addr} {o:HO}
theorem jd.lt (x:jd P w H h a o):a<h.objs.size:=by
 cases o with
 |lst xs=>obtain⟨_,_,_,_,e⟩:=x;exact gq e
 |tup xs=>obtain⟨_,_,_,p⟩:=x;exact p.lt
 |dK kvs=>obtain⟨_,_,_,_,o,_,_,e,_⟩:=x;exact gq e
 |dT kvs=>obtain⟨_,_,_,_,o,_,_,e,_⟩:=x;exact gq e
 |set S n=>obtain⟨o,_,_,_,e,_⟩:=x;exact gq e
 |ins C dx fs=>obtain⟨_,_,_,e,_⟩:=x;exact gq e
 |own y=>obtain⟨_,e⟩:=x;exact gq e
 |xd fs=>obtain⟨_,⟨_,_,_,e,_⟩,_⟩:=x;exact gq e
 |rng lo hi=>obtain⟨_,_,_,e⟩:=x;exact gq e
 |frz ob u=>obtain⟨e,_⟩:=x;exact gq e
 |tbl ps=>exact gq (show h.get? a=some _ from x)
 |met f y=>exact gq (show h.get? a=some _ from x)
 |ext φ=>obtain⟨_,⟨_,e⟩,_⟩:=x;exact gq e
theorem Paired.mapP {α β:Type} {F G:α->β->Prop}:∀{l₁:List α} {l₂:List β},Paired F l₁ l₂->(∀a b,F a b->G a b)->Paired G l₁ l₂
 |_,_,.nil,_=> .nil
 |_,_,.cons r t,f=> .cons (f _ _ r) (Paired.mapP t f)
theorem jd.stay (x:jd P w H h a o) (k:∀b u,(b=a\/H b=some (.own a))->h.get? b=some u->h'.get? b=some u)
  (ho:∀b,H b=some (.own a)->H' b=some (.own a)) (ht:∀b xs,H b=some (.tup xs)->H' b=some (.tup xs)):jd P w H' h' a o:=by
 induction o with
 |lst xs=>obtain⟨z,its,n,r,e⟩:=x;exact⟨z,its,n,r,k _ _ (.inl rfl) e⟩
 |tup xs=>obtain⟨z,its,r,ob,e,c⟩:=x;exact⟨z,its,r,ob,k _ _ (.inl rfl) e,c⟩
 |dK kvs=>obtain⟨z,y,vs,r,ob,es,ep,e,c⟩:=x;exact⟨z,y,vs,r,ob,es,ep,k _ _ (.inl rfl) e,c⟩
 |dT kvs=>
  obtain⟨z,y,xs,r,ob,es,ep,e,c⟩:=x
  exact⟨z,y,xs,Paired.mapP r fun p q z=>⟨z.1,ht _ _ z.2.1,z.2.2⟩,ob,es,ep,k _ _ (.inl rfl) e,c⟩
 |set S n=>obtain⟨ob,es,ep,t,e,c⟩:=x;exact⟨ob,es,ep,t,k _ _ (.inl rfl) e,c⟩
 |ins C dx fs=>
  obtain⟨d,z,ne,e,mA,⟨od,es,ep,e2,c⟩,r⟩:=x
  exact⟨ho _ d,z,ne,k _ _ (.inl rfl) e,mA,⟨od,es,ep,k _ _ (.inr d) e2,c⟩,r⟩
 |own y=>obtain⟨ob,e⟩:=x;exact⟨ob,k _ _ (.inl rfl) e⟩
 |xd fs=>obtain⟨mA,⟨od,es,ep,e,c⟩,r⟩:=x;exact⟨mA,⟨od,es,ep,k _ _ (.inl rfl) e,c⟩,r⟩
 |rng lo hi=>obtain⟨t,u,v,e⟩:=x;exact⟨t,u,v,k _ _ (.inl rfl) e⟩
 |frz ob u ih=>obtain⟨e,q⟩:=x;exact⟨k _ _ (.inl rfl) e,ih q⟩
 |tbl ps=>
  have e:h.get? a=some {cls:= .none,data:= .fields ps}:=x
  show h'.get? a=some {cls:= .none,data:= .fields ps}
  exact k a _ (.inl rfl) e
 |met f y=>
  have e:h.get? a=some (dH (.ref f) (.ref y)):=x
  show h'.get? a=some (dH (.ref f) (.ref y))
  exact k a _ (.inl rfl) e
 |ext φ=>obtain⟨p,⟨o,e⟩,st⟩:=x;exact⟨st _ _ p fun o q=>k _ _ (.inl rfl) q,⟨o,k _ _ (.inl rfl) e⟩,st⟩
theorem HOk.lt (x:HOk P w H h) (e:H a=some o):a<h.objs.size:=(x a o e).lt
theorem HOk.fresh (x:HOk P w H h) (e:h.objs.size<=a):H a=none:=by
 cases q:H a with
 |none=>rfl
 |some u=>exact absurd (cR (x.lt q) e) (cU _)
theorem HOk.kept (x:HOk P w H h) (k:∀b u,h.get? b=some u->h'.get? b=some u):HOk P w H h':=fun a o e=>
 (x a o e).stay (fun b u _ q=>k b u q) (fun _ q=>q) fun _ _ q=>q
theorem HOk.laid (x:HOk P w H h) (k:∀b u,h.get? b=some u->h'.get? b=some u) (hp:h.objs.size<=a) (new:jd P w (upd H a o) h' a o):HOk P w (upd H a o) h':=fun b u e=>by
 have hn:=x.fresh hp
 by_cases hb:b=a
 ·subst hb;rw[gE]at e;cases e;exact new
 ·rw[gM hb]at e
  exact(x b u e).stay (fun c v _ q=>k c v q) (fun c q=>by rw[gM (gL q hn)];exact q) fun c xs q=>by rw[gM (gL q hn)];exact q
end
def Rd (H:Hp) (a:Addr) (u:HO):Prop:=H a=some u\/∃o,H a=some (.frz o u)
theorem Rd.ok {P:Program} {w:World} {H:Hp} {h:Heap} {a:Addr} {u:HO} (r:Rd H a u) (x:HOk P w H h):jd P w H h a u:=by
 rcases r with r|⟨o,r⟩
 ·exact x a u r
 ·obtain⟨_,q⟩:=x a _ r
  exact q
def Mut:Option HO->Prop
 |some (.lst _)=>True
 |some (.dK _)=>True
 |some (.dT _)=>True
 |some (.set _ _)=>True
 |some (.ins _ _ _)=>True
 |some (.ext _)=>True
 |_=>False
section
variable {P:Program} {w:World} {H:Hp} {h h':Heap} {x e:Addr} {o':HO}
theorem HOk.write (ok:HOk P w H h) (mu:Mut (H x)) (he:e=x\/H e=some (.own x)) (k:∀b u,b≠e->h.get? b=some u->h'.get? b=some u) (heo:∃u,h'.get? e=some u)
  (new:jd P w (upd H x o') h' x o'):HOk P w (upd H x o') h':=fun b u q=>by
 have nown:∀c y,H c=some (.own y)->c≠x:=fun c y r z=>by subst z;rw[r]at mu;exact mu
 have ntup:∀c xs,H c=some (.tup xs)->c≠x:=fun c xs r z=>by subst z;rw[r]at mu;exact mu
 by_cases hb:b=x
 ·subst hb;rw[gE]at q;cases q;exact new
 ·rw[gM hb]at q
  by_cases hbe:b=e
  ·have q':H b=some (.own x):=by
    rcases he with z|z
    ·exact absurd (hbe.trans z) hb
    ·rw[hbe];exact z
   rw[q]at q';cases q'
   obtain⟨v,hv⟩:=heo
   exact⟨v,by rw[hbe];exact hv⟩
  ·refine(ok b u q).stay (fun c v hc r=>k c v ?_ r) (fun c r=>by rw[gM (nown c b r)];exact r) fun c xs r=>by rw[gM (ntup c xs r)];exact r
   rcases hc with rfl|hc
   ·exact hbe
   ·rintro rfl
    rcases he with z|z
    ·exact nown c b hc z
    ·rw[hc]at z;cases z;exact hb rfl
end
structure Un (fs ex:List Addr) (H H':Hp) (h h':Heap):Prop where
 keep:∀b o,h.get? b=some o->H b=none->b∉fs->b∉ex->h'.get? b=some o
 slot:∀b o,h.get? b=some o->H b=none->b∈fs->b∉ex->∃sl,h'.get? b=some {o with slots:=sl}
 free:∀b o,h.get? b=some o->H b=none->b∉ex->H' b=none
 there:∀b o,h.get? b=some o->b∉ex->∃o',h'.get? b=some o'
 tups:∀b xs,H b=some (.tup xs)->H' b=some (.tup xs)
 frzs:∀b o u,H b=some (.frz o u)->H' b=some (.frz o u)
 tbls:∀b ps,H b=some (.tbl ps)->∃more,H' b=some (.tbl (ps++more))
section
variable {fs fs' ex ex':List Addr} {H H1 H2:Hp} {h h1 h2 h':Heap} {a x e:Addr} {o:HO}
theorem Un.any (u:Un fs ex H H1 h h1) {b:Addr} {ob:Obj} (q:h.get? b=some ob) (n:H b=none) (hx:b∉ex):∃sl,h1.get? b=some {ob with slots:=sl}:=by
 by_cases hb:b∈fs
 ·exact u.slot b ob q n hb hx
 ·exact⟨ob.slots,u.keep b ob q n hb hx⟩
theorem Un.trans (a:Un fs ex H H1 h h1) (b:Un fs ex H1 H2 h1 h2):Un fs ex H H2 h h2 where
 keep:=fun c ob q n hc hx=>b.keep c ob (a.keep c ob q n hc hx) (a.free c ob q n hx) hc hx
 slot:=fun c ob q n hc hx=>by
  obtain⟨sl,e1⟩:=a.slot c ob q n hc hx
  obtain⟨sl',e2⟩:=b.slot c _ e1 (a.free c ob q n hx) hc hx
  exact⟨sl',e2⟩
 free:=fun c ob q n hx=>by
  obtain⟨o',e1⟩:=a.there c ob q hx
  exact b.free c o' e1 (a.free c ob q n hx) hx
 there:=fun c ob q hx=>by
  obtain⟨o',e1⟩:=a.there c ob q hx
  exact b.there c o' e1 hx
 tups:=fun c xs q=>b.tups c xs (a.tups c xs q)
 frzs:=fun c ob xs q=>b.frzs c ob xs (a.frzs c ob xs q)
 tbls:=fun c ps q=>by
  obtain⟨m1,e1⟩:=a.tbls c ps q
  obtain⟨m2,e2⟩:=b.tbls c _ e1
  exact⟨m1++m2,by rw[e2,Array.append_assoc]⟩
theorem Un.kept (k:∀b u,h.get? b=some u->h'.get? b=some u):Un fs ex H H h h':=
 ⟨fun b ob q _ _ _=>k b ob q,fun b ob q _ _ _=>⟨ob.slots,k b ob q⟩,fun _ _ _ n _=>n,fun b ob q _=>⟨ob,k b ob q⟩,fun _ _ q=>q,fun _ _ _ q=>q,fun _ ps q=>⟨#[],by rw[q];simp⟩⟩
theorem Un.refl:Un fs ex H H h h:=Un.kept fun _ _ q=>q
theorem Un.laid (k:∀b u,h.get? b=some u->h'.get? b=some u) (hp:h.objs.size<=a) (hn:H a=none):Un fs ex H (upd H a o) h h' where
 keep:=fun b u q _ _ _=>k b u q
 slot:=fun b u q _ _ _=>⟨u.slots,k b u q⟩
 free:=fun b u q n _=>by rw[gM (cW (cR (gq q) hp))];exact n
 there:=fun b u q _=>⟨u,k b u q⟩
 tups:=fun b xs q=>by rw[gM (gL q hn)];exact q
 frzs:=fun b u xs q=>by rw[gM (gL q hn)];exact q
 tbls:=fun b ps q=>⟨#[],by rw[gM (gL q hn),q];simp⟩
theorem Un.write (mu:Mut (H x)) (he:e=x\/H e=some (.own x)) (k:∀b u,b≠e->h.get? b=some u->h'.get? b=some u) (heo:∃u,h'.get? e=some u):Un fs ex H (upd H x o) h h':=by
 have hx:∀b,H b=none->b≠x:=fun b n z=>by subst z;rw[n]at mu;exact mu
 have hb:∀b,H b=none->b≠e:=fun b n z=>by
  subst z
  rcases he with r|r
  ·exact hx b n r
  ·rw[n]at r;cases r
 have hm:∀b u,H b=some u->¬Mut (some u)->b≠x:=fun b u q nm z=>by subst z;rw[q]at mu;exact nm mu
 refine⟨fun b u q n _ _=>k b u (hb b n) q,fun b u q n _ _=>⟨u.slots,k b u (hb b n) q⟩,fun b u q n _=>by rw[gM (hx b n)];exact n,fun b u q _=>?_,
  fun b xs q=>by rw[gM (hm b _ q fun z=>z)];exact q,fun b u xs q=>by rw[gM (hm b _ q fun z=>z)];exact q,fun b ps q=>⟨#[],by rw[gM (hm b _ q fun z=>z),q];simp⟩⟩
 by_cases hbe:b=e
 ·subst hbe;exact heo
 ·exact⟨u,k b u hbe q⟩
end
def trk (h:Heap) (H:Hp):List Addr:=(aa h.objs.size).filter fun a=>(H a).isSome
def zA (h:Heap) (H:Hp):Heap:=dI h (trk h H)
theorem xu (h:Heap) (H:Hp):(zA h H).objs.size=h.objs.size:=PySem.W.hideAll_size _ _
theorem zB {h:Heap} {H:Hp} {b:Addr} {o:Obj} (e:h.get? b=some o) (n:H b=none):(zA h H).get? b=some o:=
 dJ _ e fun hm=>by
  have q:(H b).isSome=true:=(List.mem_filter.mp hm).2
  rw[n]at q;simp at q
theorem BB {h:Heap} {H:Hp} {b:Addr} {o:Obj} (e:(zA h H).get? b=some o):h.get? b=some o/\H b=none:=by
 have e':h.get? b=some o:=dM (trk h H) e
 refine⟨e',?_⟩
 cases q:H b with
 |none=>rfl
 |some x=>
  have hm:b∈trk h H:=List.mem_filter.mpr ⟨af.mpr (gq e'),by simp[q]⟩
  have z:(zA h H).get? b=none:=dN (trk h H) hm
  rw[z]at e;cases e
structure Mod (K:PySem.W.Frag) (mg:Str->Option Value) (base:Heap):Prop where
 kin:K.In base
 glob:base.Ns mainGlobals mg
 blt:∃mb,base.Ns builtinsNs mb/\∀x:Str,x≠"__name__"->mb x=bootBuiltins x
 nolimit:base.NoLimit
structure Cx where
 prog:Program
 w:World
 K:PySem.W.Frag
 mg:Str->Option Value
 base:Heap
 A:Around
 N:List Str
 s₀:Shared
 H₀:Hp
 env:Env
 outer:List Env
 stack:List Env
 ex:List Addr
 fn:Str->Bool
 calm:Bool
 pn:List (Addr×Obj)
 xe:Value->Shared->Prop
def frs (l:List Env):List Addr:=l.filterMap (·.frame)
abbrev Cx.fs (X:Cx):List Addr:=frs X.outer
def Vis (sc:Scope) (x:Str):Prop:=sc.names.lookup x=some .local\/sc.names.lookup x=some .cell\/sc.names.lookup x=some .free
def Loc (sc:Scope) (x:Str):Prop:=sc.names.lookup x=some .local\/sc.names.lookup x=some .cell
def Look (env:Env) (h:Heap) (m:Str->Option Value) (x:Str) (u:Value):Prop:=
 (env.kindOf x=some .local/\m x=some u)\/((env.kindOf x=some .cell\/env.kindOf x=some .free)/\∃c,env.cells.lookup x=some c/\h.IsCell c (some u))
structure Cx.Ok (X:Cx):Prop where
 mod:Mod X.K X.mg X.base
 kind:X.env.scope.kind= .function
 glob:X.env.globals=mainGlobals
 blt:X.env.builtins=builtinsNs
 above:X.s₀.heap.objs.size<=X.env.locals
 inj:∀x y c,X.env.cells.lookup x=some c->X.env.cells.lookup y=some c->x=y
 has:∀x,(X.env.kindOf x=some .cell\/X.env.kindOf x=some .free)->∃c,X.env.cells.lookup x=some c
 cab:∀x c,X.fn x=true->X.env.cells.lookup x=some c->X.s₀.heap.objs.size<=c
 hd:X.calm=true->X.A.handled=none
 frames:X.A.frames=some X.stack
 stk:X.stack=X.outer\/(X.stack=X.env::X.outer/\X.env.frame=some X.env.locals)
 exf:∀b∈X.ex,b≠X.env.locals/\∀x c,X.env.cells.lookup x=some c->c≠b
 bs:∀b o,X.base.get? b=some o->X.s₀.heap.get? b=some o/\X.H₀ b=none
 bsz:X.base.objs.size<=X.s₀.heap.objs.size
 noex:∀b o,X.base.get? b=some o->b∉X.ex
 exfs:∀b∈X.ex,b∉X.fs
 funs:X.s₀.heap.FunFrames X.base X.outer
 frf:∀b∈X.fs,X.H₀ b=none
structure Inv (X:Cx) (pins:List (Addr×Obj)) (σ:List (Option V)) (H:Hp) (s:Shared):Prop where
 ok:X.Ok
 os:s.os=X.s₀.os
 bare:AllBare s.gens
 base:Un X.fs X.ex X.H₀ H X.s₀.heap s.heap
 loc:∃m,s.heap.Ns X.env.locals m/\∀(i:Nat) (x:Str) (v:V),X.N[i]?=some x->σ[i]?=some (some v)->Vis X.env.scope x->∃u,jq v u/\Look X.env s.heap m x u
 cell:∀x c,X.env.cells.lookup x=some c->∃v,s.heap.IsCell c v
 free:H X.env.locals=none
 freeC:∀x c,X.env.cells.lookup x=some c->H c=none
 pin:∀p∈X.pn++pins,s.heap.get? p.1=some p.2/\H p.1=none/\p.1≠X.env.locals/\p.1∉X.fs/\∀v,p.2.data≠ .cell v
 hok:HOk X.prog X.w H s.heap
 len:σ.length=X.N.length
section
variable {X:Cx} {pins:List (Addr×Obj)} {σ:List (Option V)} {H H':Hp} {s:Shared} {h':Heap}
theorem Cx.Ok.nofr (ok:X.Ok) {b:Addr} {o:Obj} (e:X.base.get? b=some o):b∉X.fs:=fun hb=>by
 have:=(ok.funs.mem hb).1
 rw[e]at this;cases this
theorem Inv.bs (I:Inv X pins σ H s):∀b o,X.base.get? b=some o->s.heap.get? b=some o/\H b=none:=fun b o e=>
 ⟨I.base.keep b o (I.ok.bs b o e).1 (I.ok.bs b o e).2 (I.ok.nofr e) (I.ok.noex b o e),I.base.free b o (I.ok.bs b o e).1 (I.ok.bs b o e).2 (I.ok.noex b o e)⟩
theorem Inv.bk (I:Inv X pins σ H s):∀b o,X.base.get? b=some o->s.heap.get? b=some o:=fun b o e=>(I.bs b o e).1
theorem Inv.mod (I:Inv X pins σ H s):Mod X.K X.mg X.base:=I.ok.mod
theorem Inv.kIn (I:Inv X pins σ H s):X.K.In s.heap:=I.ok.mod.kin.keeps I.bk
theorem Inv.lt (I:Inv X pins σ H s):X.env.locals<s.heap.objs.size:=let⟨_,hn,_⟩:=I.loc;hn.lt
theorem Inv.sz (I:Inv X pins σ H s):X.s₀.heap.objs.size<=s.heap.objs.size:=cX I.ok.above (cY I.lt)
theorem Inv.nofs (I:Inv X pins σ H s) {a:Addr} (h:s.heap.objs.size<=a):a∉X.fs:=fun hb=>by
 obtain⟨_,o,ho,_⟩:=I.ok.funs.mem hb
 exact absurd (cR (gq ho) (cX I.sz h)) (cU _)
theorem Inv.cne (I:Inv X pins σ H s):∀x c,X.env.cells.lookup x=some c->c≠X.env.locals:=fun x c e z=>by
 obtain⟨v,o,ho,hd⟩:=I.cell x c e
 obtain⟨m,⟨o',es,ep,ho',hd',_⟩,_⟩:=I.loc
 rw[z,ho']at ho;cases ho;rw[hd']at hd;cases hd
theorem Inv.funs (I:Inv X pins σ H s):s.heap.FunFrames X.base X.outer:=by
 have all:∀(l:List Env),(∀b∈frs l,b∈X.fs)->X.s₀.heap.FunFrames X.base l->s.heap.FunFrames X.base l:=by
  intro l
  induction l with
  |nil=>intro _ _;trivial
  |cons env r ih=>
   intro hs hl
   obtain⟨hk,⟨L,o,hf,hn,ho,hd⟩,hr⟩:=hl
   have hL:L∈X.fs:=hs L (by unfold frs;rw[ag,hf];exact ah)
   obtain⟨sl,e⟩:=I.base.slot L o ho (I.ok.frf L hL) hL fun z=>I.ok.exfs L z hL
   exact⟨hk,⟨L,_,hf,hn,e,hd⟩,ih (fun b hb=>hs b (by unfold frs;rw[ag,hf];exact ai _ hb)) hr⟩
 exact all X.outer (fun _ hb=>hb) I.ok.funs
theorem Inv.stack (I:Inv X pins σ H s):s.heap.FunFrames X.base X.stack:=by
 rcases I.ok.stk with e|⟨e,hf⟩
 ·rw[e];exact I.funs
 ·rw[e]
  obtain⟨m,hn,_⟩:=I.loc
  refine .cons (by rw[I.ok.kind];decide) hf hn ?_ I.funs
  exact gu (cX I.ok.bsz I.ok.above)
theorem Inv.stkSub (I:Inv X pins σ H s):∀b∈frs X.stack,b∈X.env.locals::X.fs:=fun b hb=>by
 rcases I.ok.stk with e|⟨e,hf⟩
 ·rw[e]at hb;exact ai _ hb
 ·rw[e]at hb
  unfold frs at hb
  rw[ag,hf]at hb
  exact hb
theorem Inv.stkFree (I:Inv X pins σ H s):∀b∈frs X.stack,H b=none:=fun b hb=>by
 rcases aj.mp (I.stkSub b hb)with e|hb
 ·rw[e];exact I.free
 ·obtain⟨_,o,ho,_⟩:=I.ok.funs.mem hb
  exact I.base.free b o ho (I.ok.frf b hb) fun z=>I.ok.exfs b z hb
theorem Inv.step {g':Array GenState} {t':Nat} {d':Drawn} {ch:List Addr} (I:Inv X pins σ H s)
  (hch:∀b∈ch,(b∈X.ex\/X.s₀.heap.objs.size<=b)/\b≠X.env.locals/\(∀x c,X.env.cells.lookup x=some c->c≠b)/\∀p∈X.pn++pins,p.1≠b)
  (keep:∀b o,b≠X.env.locals->b∉X.fs->b∉ch->s.heap.get? b=some o->H b=none->h'.get? b=some o)
  (slot:∀b o,b≠X.env.locals->b∈X.fs->b∉ch->s.heap.get? b=some o->H b=none->∃sl,h'.get? b=some {o with slots:=sl}) (free:∀b o,b∉ch->s.heap.get? b=some o->H b=none->H' b=none)
  (there:∀b o,b∉ch->s.heap.get? b=some o->∃o',h'.get? b=some o')
  (tups:∀b xs,H b=some (.tup xs)->H' b=some (.tup xs)) (frzs:∀b o u,H b=some (.frz o u)->H' b=some (.frz o u)) (tbls:∀b ps,H b=some (.tbl ps)->∃more,H' b=some (.tbl (ps++more)))
  (ns:∀m,s.heap.Ns X.env.locals m->h'.Ns X.env.locals m) (hok:HOk X.prog X.w H' h') (hg:AllBare g'):
  Inv X pins σ H' {s with heap:=h',gens:=g',drawn:=d',toks:=t'}:=by
 have neL:∀b o,X.s₀.heap.get? b=some o->b≠X.env.locals:=fun b o e=>cW (cR (gq e) I.ok.above)
 have neC:∀b o,X.s₀.heap.get? b=some o->b∉X.ex->b∉ch:=fun b o e hx hb=>by
  rcases(hch b hb).1 with z|z
  ·exact hx z
  ·exact absurd (cR (gq e) z) (cU _)
 have cellK:∀x c,X.env.cells.lookup x=some c->∀v,s.heap.IsCell c v->h'.IsCell c v:=fun x c e v ⟨o,ho,hd⟩=>by
  have nch:c∉ch:=fun z=>(hch c z).2.2.1 x c e rfl
  by_cases hc:c∈X.fs
  ·obtain⟨sl,q⟩:=slot c o (I.cne x c e) hc nch ho (I.freeC x c e)
   exact⟨_,q,hd⟩
  ·exact⟨o,keep c o (I.cne x c e) hc nch ho (I.freeC x c e),hd⟩
 refine⟨I.ok,I.os,hg,⟨fun b o e n hb hx=>?_,fun b o e n hb hx=>?_,fun b o e n hx=>?_,fun b o e hx=>?_,fun b xs e=>tups b xs (I.base.tups b xs e),fun b o xs e=>frzs b o xs (I.base.frzs b o xs e),fun b ps e=>?_⟩,?_,fun x c e=>?_,?_,fun x c e=>?_,fun p hp=>?_,hok,I.len⟩
 ·exact keep b o (neL b o e) hb (neC b o e hx) (I.base.keep b o e n hb hx) (I.base.free b o e n hx)
 ·obtain⟨sl,e1⟩:=I.base.slot b o e n hb hx
  obtain⟨sl',e2⟩:=slot b _ (neL b o e) hb (neC b o e hx) e1 (I.base.free b o e n hx)
  exact⟨sl',e2⟩
 ·obtain⟨o',e1⟩:=I.base.there b o e hx
  exact free b o' (neC b o e hx) e1 (I.base.free b o e n hx)
 ·obtain⟨o',e1⟩:=I.base.there b o e hx
  exact there b o' (neC b o e hx) e1
 ·obtain⟨m1,e1⟩:=I.base.tbls b ps e
  obtain⟨m2,e2⟩:=tbls b _ e1
  exact⟨m1++m2,by rw[e2,Array.append_assoc]⟩
 ·obtain⟨m,hn,hl⟩:=I.loc
  refine⟨m,ns m hn,fun i x v e1 e2 e3=>?_⟩
  obtain⟨u,r,l⟩:=hl i x v e1 e2 e3
  refine⟨u,r,?_⟩
  rcases l with l|⟨k,c,e,z⟩
  ·exact .inl l
  ·exact .inr ⟨k,c,e,cellK x c e _ z⟩
 ·obtain⟨v,z⟩:=I.cell x c e
  exact⟨v,cellK x c e v z⟩
 ·obtain⟨m,⟨o,_,_,ho,_⟩,_⟩:=I.loc
  exact free _ o (fun z=>(hch _ z).2.1 rfl) ho I.free
 ·obtain⟨v,o,ho,hd⟩:=I.cell x c e
  exact free c o (fun z=>(hch c z).2.2.1 x c e rfl) ho (I.freeC x c e)
 ·obtain⟨e,n,ne,nf,d⟩:=I.pin p hp
  have nch:p.1∉ch:=fun z=>(hch p.1 z).2.2.2 p hp rfl
  exact⟨keep p.1 p.2 ne nf nch e n,free p.1 p.2 nch e n,ne,nf,d⟩
theorem Inv.un {t':Nat} (I:Inv X pins σ H s) (u:Un X.fs [] H H' s.heap h') (hok:HOk X.prog X.w H' h'):Inv X pins σ H' {s with heap:=h',toks:=t'}:=by
 obtain⟨m,⟨o,es,ep,ho,r⟩,_⟩:=id I.loc
 obtain⟨sl,hL⟩:=u.any ho I.free (by simp)
 exact I.step (g':=s.gens) (d':=s.drawn) (ch:=[]) (fun _ z=>nomatch z) (fun b o _ hb _ e n=>u.keep b o e n hb (by simp)) (fun b o _ hb _ e n=>u.slot b o e n hb (by simp)) (fun b o _ e n=>u.free b o e n (by simp)) (fun b o _ e=>u.there b o e (by simp)) u.tups u.frzs u.tbls (fun m' hm=>by
  obtain⟨o',es',ep',ho',r'⟩:=hm
  rw[ho]at ho';cases ho'
  exact⟨_,es',ep',hL,r'⟩) hok I.bare
theorem Inv.call {g':Array GenState} {t':Nat} {d':Drawn} {ch:List Addr} (I:Inv X pins σ H s) (u:Un (frs X.stack) ch H H' s.heap h') (hok:HOk X.prog X.w H' h') (hg:AllBare g')
  (hch:∀b∈ch,(b∈X.ex\/X.s₀.heap.objs.size<=b)/\b≠X.env.locals/\(∀x c,X.env.cells.lookup x=some c->c≠b)/\∀p∈X.pn++pins,p.1≠b):
  Inv X pins σ H' {s with heap:=h',gens:=g',drawn:=d',toks:=t'}:=by
 obtain⟨m,⟨o,es,ep,ho,r⟩,_⟩:=id I.loc
 obtain⟨sl,hL⟩:=u.any ho I.free fun z=>(hch _ z).2.1 rfl
 exact I.step (ch:=ch) hch (fun b o hL hb hc e n=>u.keep b o e n (fun z=>(aj.mp (I.stkSub b z)).elim hL hb) hc) (fun b o _ _ hc e n=>u.any e n hc) (fun b o hc e n=>u.free b o e n hc) (fun b o hc e=>u.there b o e hc) u.tups u.frzs u.tbls (fun m' hm=>by
  obtain⟨o',es',ep',ho',r'⟩:=hm
  rw[ho]at ho';cases ho'
  exact⟨_,es',ep',hL,r'⟩) hok hg
theorem Inv.turned {t':Nat} {it:Addr} (I:Inv X pins σ H s) (k:∀b o,b≠it->s.heap.get? b=some o->h'.get? b=some o) (hn:H it=none) (hL:it≠X.env.locals)
  (h1:it∈X.ex\/X.s₀.heap.objs.size<=it) (h2:∀x c,X.env.cells.lookup x=some c->c≠it) (h3:∀p∈X.pn++pins,p.1≠it):Inv X pins σ H {s with heap:=h',toks:=t'}:=by
 have nit:∀b u,H b=some u->b≠it:=fun b u e z=>by rw[z,hn]at e;cases e
 refine I.step (g':=s.gens) (d':=s.drawn) (ch:=[it]) (fun b hb=>?_) (fun b o _ _ hc e _=>k b o (fun z=>hc (by simp[z])) e) (fun b o _ _ hc e _=>⟨o.slots,k b o (fun z=>hc (by simp[z])) e⟩) (fun _ _ _ _ n=>n)
  (fun b o hc e=>⟨o,k b o (fun z=>hc (by simp[z])) e⟩) (fun _ _ e=>e) (fun _ _ _ e=>e) (fun b ps e=>⟨#[],by rw[e];simp⟩) (fun m hm=>?_) (fun b u e=>?_) I.bare
 ·have e:b=it:=by simpa using hb
  subst e
  exact⟨h1,hL,h2,h3⟩
 ·obtain⟨o,es,ep,ho,r⟩:=hm
  exact⟨o,es,ep,k _ o (Ne.symm hL) ho,r⟩
 ·refine(I.hok b u e).stay (fun c v hc q=>k c v ?_ q) (fun _ q=>q) fun _ _ q=>q
  rcases hc with z|z
  ·rw[z];exact nit b u e
  ·exact nit c _ z
theorem Inv.tok (I:Inv X pins σ H s) (t:Nat):Inv X pins σ H {s with toks:=t}:=I.un (h':=s.heap) (t':=t) Un.refl I.hok
theorem Inv.kept {t':Nat} (I:Inv X pins σ H s) (k:∀b u,s.heap.get? b=some u->h'.get? b=some u):Inv X pins σ H {s with heap:=h',toks:=t'}:=I.un (Un.kept k) (I.hok.kept k)
theorem Inv.laid {a:Addr} {o:HO} {t':Nat} (I:Inv X pins σ H s) (k:∀b u,s.heap.get? b=some u->h'.get? b=some u) (hp:s.heap.objs.size<=a) (new:jd X.prog X.w (upd H a o) h' a o):
  Inv X pins σ (upd H a o) {s with heap:=h',toks:=t'}:=I.un (Un.laid k hp (I.hok.fresh hp)) (I.hok.laid k hp new)
theorem Inv.write {x e:Addr} {o:HO} {t':Nat} (I:Inv X pins σ H s) (mu:Mut (H x)) (he:e=x\/H e=some (.own x)) (k:∀b u,b≠e->s.heap.get? b=some u->h'.get? b=some u) (heo:∃u,h'.get? e=some u)
  (new:jd X.prog X.w (upd H x o) h' x o):Inv X pins σ (upd H x o) {s with heap:=h',toks:=t'}:=I.un (Un.write mu he k heo) (I.hok.write mu he k heo new)
theorem Inv.pins_of {pins':List (Addr×Obj)} (I:Inv X pins σ H s) (h:∀p∈pins',s.heap.get? p.1=some p.2/\H p.1=none/\p.1≠X.env.locals/\p.1∉X.fs/\∀v,p.2.data≠ .cell v):Inv X pins' σ H s:=
 ⟨I.ok,I.os,I.bare,I.base,I.loc,I.cell,I.free,I.freeC,fun p hp=>(ao.mp hp).elim (fun z=>I.pin p (aq _ z)) (h p),I.hok,I.len⟩
theorem qO {N:List Str} (hN:N.Nodup) {i j:Nat} {x:Str} (a:N[i]?=some x) (b:N[j]?=some x):i=j:=by
 obtain⟨h1,e1⟩:=au.mp a
 obtain⟨h2,e2⟩:=au.mp b
 exact(List.getElem_inj hN).mp (e1.trans e2.symm)
theorem xw {M:Model} {A:Around} {E:Value->Shared->Prop} {i:Nat} {x:Str} {v:V} {u:Value} {Q:Unit->Shared->Prop} (I:Inv X pins σ H s) (hN:X.N.Nodup) (hi:X.N[i]?=some x) (hx:Loc X.env.scope x) (r:jq v u)
  (h:∀s',Inv X pins (σ.set i (some v)) H s'->(∃a,Heap.SameBut a s.heap s'.heap/\(a=X.env.locals\/X.env.cells.lookup x=some a))->Q () s') (hf:autoParam (X.fn x=true\/X.env.scope.names.lookup x=some .local) L2.Internal.auL._auto_1):wpAny M A (storeName X.env x u) Q E s:=by
 obtain⟨m,hn,hl⟩:=id I.loc
 have hcls:(X.env.scope.kind== .class||(X.env.scope.kind== .module&&X.env.locals !=X.env.globals))=false:=by rw[I.ok.kind];rfl
 have hiσ:i<σ.length:=by rw[I.len];exact(au.mp hi).1
 have cne:=I.cne
 have tracked:∀{a:Addr} {h':Heap},(∃o,s.heap.get? a=some o/\H a=none)->Heap.SameBut a s.heap h'->HOk X.prog X.w H h':=fun{a h'} ha hs b ob e=>by
  obtain⟨_,_,hfree⟩:=ha
  refine(I.hok b ob e).stay (fun c w' hc q=>(hs.2 c ?_).trans q) (fun _ q=>q) fun _ _ q=>q
  rintro rfl
  rcases hc with rfl|hc
  ·rw[hfree]at e;cases e
  ·rw[hfree]at hc;cases hc
 rcases hx with hk|hk
 ·refine wpAny_storeName_local hk hn (fun h' hn' hs=>?_) hcls
  obtain⟨oL,_,_,hoL,_⟩:=id hn
  refine h _ ⟨I.ok,I.os,I.bare,⟨fun b o e n hb hx=>?_,fun b o e n hb hx=>?_,I.base.free,fun b o e hx=>?_,I.base.tups,I.base.frzs,I.base.tbls⟩,⟨_,hn',fun j y v' e1 e2 e3=>?_⟩,fun y c e=>?_,I.free,I.freeC,fun p hp=>?_,tracked ⟨oL,hoL,I.free⟩ hs,by simpa using I.len⟩ ⟨_,hs,.inl rfl⟩
  ·exact(hs.2 b (cW (cR (gq e) I.ok.above))).trans (I.base.keep b o e n hb hx)
  ·obtain⟨sl,e1⟩:=I.base.slot b o e n hb hx
   exact⟨sl,(hs.2 b (cW (cR (gq e) I.ok.above))).trans e1⟩
  ·obtain⟨o',e1⟩:=I.base.there b o e hx
   exact⟨o',(hs.2 b (cW (cR (gq e) I.ok.above))).trans e1⟩
  ·by_cases hj:j=i
   ·subst hj
    rw[hi]at e1;cases e1
    rw[av hiσ]at e2
    cases e2
    exact⟨u,r,.inl ⟨hk,by simp⟩⟩
   ·rw[aw (Ne.symm hj)]at e2
    obtain⟨u',r',q⟩:=hl j y v' e1 e2 e3
    refine⟨u',r',?_⟩
    rcases q with⟨k,e⟩|⟨k,c,e,z⟩
    ·refine .inl ⟨k,?_⟩
     have:y≠x:=fun e=>hj (qO hN e1 (e▸hi))
     simp[this,e]
    ·exact .inr ⟨k,c,e,z.sameBut hs (cne y c e)⟩
  ·obtain⟨w',z⟩:=I.cell y c e
   exact⟨w',z.sameBut hs (cne y c e)⟩
  ·obtain⟨e,n,ne,nf,d⟩:=I.pin p hp
   exact⟨(hs.2 p.1 ne).trans e,n,ne,nf,d⟩
 ·have hfn:X.fn x=true:=by
   rcases hf with z|z
   ·exact z
   ·rw[z]at hk;cases hk
  obtain⟨c,hc⟩:=I.ok.has x (.inl hk)
  obtain⟨w',z⟩:=I.cell x c hc
  refine wpAny_storeName_cell I.ok.kind hk hc z (fun h' hc' hs=>?_)
  obtain⟨oc,hoc,hocd⟩:=id z
  refine h {s with heap:=h'} ⟨I.ok,I.os,I.bare,⟨fun b o e n hb hx=>?_,fun b o e n hb hx=>?_,I.base.free,fun b o e hx=>?_,I.base.tups,I.base.frzs,I.base.tbls⟩,⟨m,hn.sameBut hs (Ne.symm (cne x c hc)),fun j y v' e1 e2 e3=>?_⟩,fun y c' e=>?_,I.free,I.freeC,fun p hp=>?_,tracked ⟨oc,hoc,I.freeC x c hc⟩ hs,by simpa using I.len⟩ ⟨c,hs,.inr hc⟩
  ·exact(hs.2 b (cW (cR (gq e) (I.ok.cab x c hfn hc)))).trans (I.base.keep b o e n hb hx)
  ·obtain⟨sl,e1⟩:=I.base.slot b o e n hb hx
   exact⟨sl,(hs.2 b (cW (cR (gq e) (I.ok.cab x c hfn hc)))).trans e1⟩
  ·obtain⟨o',e1⟩:=I.base.there b o e hx
   exact⟨o',(hs.2 b (cW (cR (gq e) (I.ok.cab x c hfn hc)))).trans e1⟩
  ·by_cases hj:j=i
   ·subst hj
    rw[hi]at e1;cases e1
    rw[av hiσ]at e2
    cases e2
    exact⟨u,r,.inr ⟨.inl hk,c,hc,hc'⟩⟩
   ·rw[aw (Ne.symm hj)]at e2
    obtain⟨u',r',q⟩:=hl j y v' e1 e2 e3
    refine⟨u',r',?_⟩
    rcases q with q|⟨k,c',e,z'⟩
    ·exact .inl q
    ·refine .inr ⟨k,c',e,z'.sameBut hs ?_⟩
     rintro rfl
     exact hj (qO hN e1 (I.ok.inj _ _ _ e hc▸hi))
  ·by_cases hcc:c'=c
   ·subst hcc;exact⟨_,hc'⟩
   ·obtain⟨w2,z2⟩:=I.cell y c' e
    exact⟨w2,z2.sameBut hs hcc⟩
  ·obtain⟨e,n,ne,nf,d⟩:=I.pin p hp
   refine⟨(hs.2 p.1 ?_).trans e,n,ne,nf,d⟩
   intro q
   rw[q,hoc]at e
   have q':oc=p.2:=dB.inj e
   exact d w' (by rw[<-q'];exact hocd)
theorem lN {M:Model} {A:Around} {E:Value->Shared->Prop} {i:Nat} {x:Str} {v:V} {u:Value} {Q:Unit->Shared->Prop} (I:Inv X pins σ H s) (hN:X.N.Nodup) (hi:X.N[i]?=some x) (hx:Loc X.env.scope x) (r:jq v u)
  (h:∀s',Inv X pins (σ.set i (some v)) H s'->Q () s') (hf:autoParam (X.fn x=true\/X.env.scope.names.lookup x=some .local) L2.Internal.auL._auto_1):wpAny M A (storeName X.env x u) Q E s:=
 xw I hN hi hx r (fun s' I' _=>h s' I') hf
theorem Inv.call' {s':Shared} {ch:List Addr} (I:Inv X pins σ H s) (ho:s'.os=s.os) (u:Un (frs X.stack) ch H H' s.heap s'.heap) (hok:HOk X.prog X.w H' s'.heap) (hg:AllBare s'.gens)
  (hch:∀b∈ch,(b∈X.ex\/X.s₀.heap.objs.size<=b)/\b≠X.env.locals/\(∀x c,X.env.cells.lookup x=some c->c≠b)/\∀p∈X.pn++pins,p.1≠b):Inv X pins σ H' s':=by
 obtain⟨h',g',d',t',o'⟩:=s'
 have e:o'=s.os:=ho
 subst e
 exact I.call (g':=g') (t':=t') (d':=d') u hok hg hch
end
abbrev XK:=Value->Option Addr->Hp->Prop
abbrev St:=List (Option V)
abbrev VK:=V->Hp->Prop
abbrev TE:=St->Hp->VK->Prop
abbrev TT:=St->Hp->(Bool->Hp->Prop)->Prop
abbrev TA:=St->Hp->(List V->Hp->Prop)->Prop
structure nY where
 nx:St->Hp->Prop
 rt:VK
 bk:St->Hp->Prop:=fun _ _=>False
 ct:St->Hp->Prop:=fun _ _=>False
abbrev TS:=nY->St->Hp->Prop
def EP (X:Cx) (pins:List (Addr×Obj)) (σ:St) (Q:VK) (u:Value) (s':Shared):Prop:=∃v H',Inv X pins σ H' s'/\jq v u/\Q v H'
def TP (X:Cx) (pins:List (Addr×Obj)) (σ:St) (Q:Bool->Hp->Prop) (b:Bool) (s':Shared):Prop:=∃H',Inv X pins σ H' s'/\Q b H'
def AP (X:Cx) (pins:List (Addr×Obj)) (σ:St) (Q:List V->Hp->Prop) (us:List Value) (s':Shared):Prop:=∃vs H',Inv X pins σ H' s'/\iV vs us/\Q vs H'
def SP (X:Cx) (pins:List (Addr×Obj)) (D:nY) (f:Flow) (s':Shared):Prop:=
 match f with
 | .next=>∃σ' H',Inv X pins σ' H' s'/\D.nx σ' H'
 | .brk=>∃σ' H',Inv X pins σ' H' s'/\D.bk σ' H'
 | .cont=>∃σ' H',Inv X pins σ' H' s'/\D.ct σ' H'
 | .ret u=>∃v σ' H',Inv X pins σ' H' s'/\jq v u/\D.rt v H'
def PE (X:Cx) (e:Expr) (t:TE):Prop:=
 ∀(pins:List (Addr×Obj)) (s:Shared) (σ:St) (H:Hp) (Q:VK),Inv X pins σ H s->t σ H Q->wpAny (model X.prog X.w) X.A (eval e X.env) (EP X pins σ Q) X.xe s
def PT (X:Cx) (e:Expr) (t:TT):Prop:=
 ∀(pins:List (Addr×Obj)) (s:Shared) (σ:St) (H:Hp) (Q:Bool->Hp->Prop),Inv X pins σ H s->t σ H Q->wpAny (model X.prog X.w) X.A (isTrue e X.env (eval e X.env)) (TP X pins σ Q) X.xe s
def PW (X:Cx) (e:Expr) (t:TT):Prop:=
 ∀(whole:Sem Value) (pins:List (Addr×Obj)) (s:Shared) (σ:St) (H:Hp) (Q:Bool->Hp->Prop),Inv X pins σ H s->t σ H Q->wpAny (model X.prog X.w) X.A (isTrue e X.env whole) (TP X pins σ Q) X.xe s
theorem PW.pt {X:Cx} {e:Expr} {t:TT} (h:PW X e t):PT X e t:=h _
def PA (X:Cx) (es:List Expr) (t:TA):Prop:=
 ∀(pos:Pos) (pins:List (Addr×Obj)) (s:Shared) (σ:St) (H:Hp) (Q:List V->Hp->Prop),Inv X pins σ H s->t σ H Q->wpAny (model X.prog X.w) X.A (spliced (backTo pos (starEach es X.env))) (AP X pins σ Q) X.xe s
def PS (X:Cx) (st:Stmt) (t:TS):Prop:=
 ∀(pins:List (Addr×Obj)) (s:Shared) (σ:St) (H:Hp) (D:nY),Inv X pins σ H s->t D σ H->wpAny (model X.prog X.w) X.A (exec st X.env) (SP X pins D) X.xe s
def PSs (X:Cx) (st:List Stmt) (t:TS):Prop:=
 ∀(pins:List (Addr×Obj)) (s:Shared) (σ:St) (H:Hp) (D:nY),Inv X pins σ H s->t D σ H->wpAny (model X.prog X.w) X.A (execs st X.env) (SP X pins D) X.xe s
theorem thn {α:Type} {t:Sem α} {Q Q':α->Shared->Prop} {M:Model} {A:Around} {E:Value->Shared->Prop} {s:Shared} (h:wpAny M A t Q E s) (hQ:∀a s,Q a s->Q' a s):wpAny M A t Q' E s:=wpAny_mono h hQ fun _ _ x=>x
section
variable {X:Cx}
def Dm (i:Nat):TE:=fun σ H Q=>∃v,σ[i]?=some (some v)/\Q v H
def tC (v:V):TE:=fun _ H Q=>Q v H
theorem DB {i:Nat} {x:Str} {pos:Pos} (hN:X.N[i]?=some x) (hv:Vis X.env.scope x) (hd:autoParam ((x==("__debug__":Str))=false) L2.Internal.auD._auto_1) (hcd:autoParam ((x==("__classdict__":Str))=false) L2.Internal.auD._auto_1):PE X (.Name x pos) (Dm i):=by
 intro pins s σ H Q I h
 obtain⟨v,e,h⟩:=h
 obtain⟨m,hn,hl⟩:=I.loc
 obtain⟨u,r,l⟩:=hl i x v hN e hv
 have fin:EP X pins σ Q u s:=⟨v,H,I,r,h⟩
 rcases l with⟨hk,hm⟩|⟨hk,c,hc,hcell⟩
 ·exact wpAny_Name (wpAny_loadName_local I.ok.kind hk hn hm fin) hd
 ·rcases hk with hk|hk
  ·exact wpAny_Name (wpAny_loadName_cell I.ok.kind hk hc hcell fin) hd
  ·exact wpAny_Name (wpAny_loadName_free I.ok.kind hk hc hcell fin hcd) hd
theorem gH {i j pos}:PE X (.Constant (.int i) j pos) (tC (.int i)):=fun _ _ _ H _ I h=>wpAny_Constant_int ⟨.int i,H,I.tok _,⟨_,rfl⟩,h⟩
theorem uf {b j pos}:PE X (.Constant (.bool b) j pos) (tC (.bl b)):=fun _ _ _ H _ I h=>Constant_bool ⟨.bl b,H,I,rfl,h⟩
theorem ve {j pos}:PE X (.Constant .none j pos) (tC .non):=fun _ _ _ H _ I h=>Constant_none ⟨.non,H,I,rfl,h⟩
theorem gP {x j pos}:PE X (.Constant (.str x) j pos) (tC (.str x)):=fun _ _ _ H _ I h=>Calls.Constant_str ⟨.str x,H,I.tok _,⟨_,rfl⟩,h⟩
def Gl (X:Cx) (x:Str):Prop:=X.env.kindOf x=some .globalImplicit
theorem m4 {E:Value->Shared->Prop} {pins:List (Addr×Obj)} {s:Shared} {σ:St} {H:Hp} {x:Str} {u:Value} {pos:Pos} {Q:Value->Shared->Prop} (I:Inv X pins σ H s) (hg:Gl X x) (hm:X.mg x=some u) (h:Q u s)
  (hd:autoParam ((x==("__debug__":Str))=false) L2.Internal.auD._auto_1):wpAny (model X.prog X.w) X.A (eval (.Name x pos) X.env) Q E s:=
 Calls.Name_function_global I.ok.kind hg (Calls.loadGlobal_global (by rw[I.ok.glob];exact I.mod.glob.keeps I.bk) hm h) hd
theorem oS {E:Value->Shared->Prop} {pins:List (Addr×Obj)} {s:Shared} {σ:St} {H:Hp} {x:Str} {u:Value} {pos:Pos} {Q:Value->Shared->Prop} (I:Inv X pins σ H s) (hg:Gl X x) (hm:X.mg x=none) (hv:bootBuiltins x=some u) (h:Q u s)
  (hn:autoParam (x≠"__name__") L2.Internal.auD._auto_1) (hd:autoParam ((x==("__debug__":Str))=false) L2.Internal.auD._auto_1):wpAny (model X.prog X.w) X.A (eval (.Name x pos) X.env) Q E s:=by
 obtain⟨mb,h1,h2⟩:=I.mod.blt
 exact Calls.Name_function_global I.ok.kind hg (Calls.loadGlobal_builtin (by rw[I.ok.glob];exact I.mod.glob.keeps I.bk) hm (by rw[I.ok.blt];exact h1.keeps I.bk) ((h2 x hn).trans hv) h) hd
theorem ug {x:Str} {v:V} {u:Value} {pos:Pos} (hg:Gl X x) (hm:X.mg x=some u) (r:jq v u) (hd:autoParam ((x==("__debug__":Str))=false) L2.Internal.auD._auto_1):PE X (.Name x pos) (tC v):=
 fun _ _ _ H _ I h=>m4 I hg hm ⟨v,H,I,r,h⟩ hd
theorem BC {x:Str} {v:V} {u:Value} {pos:Pos} (hg:Gl X x) (hm:X.mg x=none) (hv:bootBuiltins x=some u) (r:jq v u) (hn:autoParam (x≠"__name__") L2.Internal.auD._auto_1) (hd:autoParam ((x==("__debug__":Str))=false) L2.Internal.auD._auto_1):PE X (.Name x pos) (tC v):=
 fun _ _ _ H _ I h=>oS I hg hm hv ⟨v,H,I,r,h⟩ hn hd
variable {a b:Expr} {ta tb:TE} {pos:Pos}
def PC (X:Cx) (op:CmpOp) (a b:Expr) (t:TE):Prop:=
 ∀(pins:List (Addr×Obj)) (s:Shared) (σ:St) (H:Hp) (Q:VK),Inv X pins σ H s->t σ H Q->
  wpAny (model X.prog X.w) X.A (eval a X.env) (fun v s₁=>wpAny (model X.prog X.w) X.A (eval b X.env) (fun u s₂=>wpAny (model X.prog X.w) X.A (compareOp op v u) (EP X pins σ Q) X.xe s₂) X.xe s₁) X.xe s
theorem zC (b:Expr) {op:CmpOp} (h:op≠ .In) (h2:op≠ .NotIn):behindInMarks op b=false:=by
 have e1:(op==CmpOp.In)=false:=by cases op<;>first|rfl|exact absurd rfl h
 have e2:(op==CmpOp.NotIn)=false:=by cases op<;>first|rfl|exact absurd rfl h2
 cases b<;>simp[behindInMarks,e1,e2]
def tIsN (ta:TE):TE:=fun σ H Q=>ta σ H fun x H1=>Q (.bl (decide (x= .non))) H1
def FE (ta:TE):TE:=fun σ H Q=>ta σ H fun x H1=>Q (.bl (!decide (x= .non))) H1
theorem jq.none_iff {x:V} {v:Value} (r:jq x v):(v==Value.none)=decide (x= .non):=by
 cases x with
 |non=>cases r;rfl
 |bl _=>cases r;rfl
 |int _=>obtain⟨t,rfl⟩:=r;rfl
 |str _=>obtain⟨t,rfl⟩:=r;rfl
 |byt _=>obtain⟨t,rfl⟩:=r;rfl
 |flt _=>obtain⟨t,rfl⟩:=r;rfl
 |ref _=>cases r;rfl
 |ty _=>cases r;rfl
theorem DC {j pos'} (ha:PE X a ta):PC X .Is a (.Constant .none j pos') (tIsN ta):=by
 intro pins s σ H Q I h
 refine thn (ha pins s σ H _ I h) fun v s1 ⟨x,H1,I1,r1,q1⟩=>?_
 exact Constant_none (is_none_gen ⟨.bl _,H1,I1,by rw[r1.none_iff];rfl,q1⟩)
theorem BD {j pos'} (ha:PE X a ta):PC X .IsNot a (.Constant .none j pos') (FE ta):=by
 intro pins s σ H Q I h
 refine thn (ha pins s σ H _ I h) fun v s1 ⟨x,H1,I1,r1,q1⟩=>?_
 exact Constant_none (isnot_none_gen ⟨.bl _,H1,I1,by rw[r1.none_iff];rfl,q1⟩)
def tB (t:TE):TT:=fun σ H Q=>t σ H fun x H1=>∃c,x= .bl c/\Q c H1
theorem sf {op:CmpOp} {t:TE} (h:PC X op a b t) (h1:behindInMarks op b=false:=by first|exact zC _ (by decide) (by decide)|rfl):PT X (.Compare a [op] [b] pos) (tB t):=by
 intro pins s σ H Q I hw
 refine wpAny_isTrue_Compare1 (thn (h pins s σ H _ I hw) fun v s1 h1=>thn h1 fun u s2 h2=>thn h2 fun c s3 ⟨x,H1,I1,r1,q1⟩=>?_) h1
 obtain⟨d,rfl,q⟩:=q1
 cases r1
 exact wpAny_truthy_bool ⟨H1,I1,q⟩
theorem lT {e:Expr} {t:TE} (h:PE X e t) (he:autoParam (∀whole,isTrue e X.env whole=(do let v<-whole;standAt e.pos;holding [v] (truthy v))) L2.Internal.auI._auto_1):PT X e (tB t):=by
 intro pins s σ H Q I hw
 refine isTrue_plain (thn (h pins s σ H _ I hw) fun v s1 ⟨x,H1,I1,r1,q1⟩=>?_) (he _)
 obtain⟨d,rfl,q⟩:=q1
 cases r1
 exact wpAny_truthy_bool ⟨H1,I1,q⟩
variable {tA tB':TT} {rest:List Expr}
def GO (t u:TT):TT:=fun σ H Q=>t σ H fun c H1=>if c=true then u σ H1 Q else Q false H1
def tOr (t u:TT):TT:=fun σ H Q=>t σ H fun c H1=>if c=true then Q true H1 else u σ H1 Q
def tNot (t:TT):TT:=fun σ H Q=>t σ H fun c H1=>Q (!c) H1
theorem oT (ha:PT X a tA):PW X (.BoolOp .And [a] pos) tA:=by
 intro wh pins s σ H Q I h
 refine isTrue_and (thn (ha pins s σ H Q I h) fun c s1 e=>?_)
 cases c with
 |true=>exact isTrue_and_nil e
 |false=>exact e
theorem sh (ha:PT X a tA):PW X (.BoolOp .Or [a] pos) tA:=by
 intro wh pins s σ H Q I h
 refine isTrue_or (thn (ha pins s σ H Q I h) fun c s1 e=>?_)
 cases c with
 |false=>exact isTrue_or_nil e
 |true=>exact e
theorem ql (ha:PT X a tA) (hb:PW X (.BoolOp .And (b::rest) pos) tB'):PW X (.BoolOp .And (a::b::rest) pos) (GO tA tB'):=by
 intro wh pins s σ H Q I h
 refine isTrue_and (thn (ha pins s σ H _ I h) fun c s1 ⟨H1,I1,q1⟩=>?_)
 cases c with
 |true=>exact hb wh pins s1 σ H1 Q I1 q1
 |false=>exact⟨H1,I1,q1⟩
theorem wc (ha:PT X a tA) (hb:PW X (.BoolOp .Or (b::rest) pos) tB'):PW X (.BoolOp .Or (a::b::rest) pos) (tOr tA tB'):=by
 intro wh pins s σ H Q I h
 refine isTrue_or (thn (ha pins s σ H _ I h) fun c s1 ⟨H1,I1,q1⟩=>?_)
 cases c with
 |true=>exact⟨H1,I1,q1⟩
 |false=>exact hb wh pins s1 σ H1 Q I1 q1
theorem nB (ha:PT X a tA):PT X (.UnaryOp .Not a pos) (tNot tA):=by
 intro pins s σ H Q I h
 exact isTrue_not (ha pins s σ H (fun c H1=>Q (!c) H1) I h)
def FF (ta tb:TE):TE:=fun σ H Q=>ta σ H fun x H1=>∃c,x= .bl c/\if c=true then tb σ H1 Q else Q (.bl false) H1
def tOrV (ta tb:TE):TE:=fun σ H Q=>ta σ H fun x H1=>∃c,x= .bl c/\if c=true then Q (.bl true) H1 else tb σ H1 Q
theorem vg {op} {t:TE} (h:PE X a t):PE X (.BoolOp op [a] pos) t:=fun pins s σ H Q I hw=>BoolOp_one (h pins s σ H Q I hw)
theorem xx (ha:PE X a ta) (hb:PE X (.BoolOp .And (b::rest) pos) tb):PE X (.BoolOp .And (a::b::rest) pos) (FF ta tb):=by
 intro pins s σ H Q I h
 refine BoolOp_and (thn (ha pins s σ H _ I h) fun v s1 ⟨x,H1,I1,r1,q1⟩=>?_)
 obtain⟨c,rfl,q1⟩:=q1
 cases r1
 refine wpAny_truthy_bool ?_
 cases c with
 |true=>exact hb pins s1 σ H1 Q I1 q1
 |false=>exact⟨.bl false,H1,I1,rfl,q1⟩
theorem DD (ha:PE X a ta) (hb:PE X (.BoolOp .Or (b::rest) pos) tb):PE X (.BoolOp .Or (a::b::rest) pos) (tOrV ta tb):=by
 intro pins s σ H Q I h
 refine BoolOp_or (thn (ha pins s σ H _ I h) fun v s1 ⟨x,H1,I1,r1,q1⟩=>?_)
 obtain⟨c,rfl,q1⟩:=q1
 cases r1
 refine wpAny_truthy_bool ?_
 cases c with
 |false=>exact hb pins s1 σ H1 Q I1 q1
 |true=>exact⟨.bl true,H1,I1,rfl,q1⟩
def tIf (t:TT) (ta tb:TE):TE:=fun σ H Q=>t σ H fun c H1=>if c=true then ta σ H1 Q else tb σ H1 Q
theorem zD {c:Expr} (hc:PT X c tA) (ha:PE X a ta) (hb:PE X b tb):PE X (.IfExp c a b pos) (tIf tA ta tb):=by
 intro pins s σ H Q I h
 refine wpAny_IfExp (thn (hc pins s σ H _ I h) fun d s1 ⟨H1,I1,q1⟩=>?_)
 cases d with
 |true=>exact ha pins s1 σ H1 Q I1 q1
 |false=>exact hb pins s1 σ H1 Q I1 q1
end
def SqL (K:PySem.W.Frag) (H:Hp) (a:Addr) (xs:List V):Prop:=
 Rd H a (.lst xs)\/
  ∃(o:Obj) (its:Array Value) (n:Nat),K.lookup a=some o/\o.cls= .type "list"/\o.dict=none/\o.data= .seq its n/\its.size<=sizeLine/\iV xs its.toList
def SqT (K:PySem.W.Frag) (H:Hp) (a:Addr) (xs:List V):Prop:=
 Rd H a (.tup xs)\/
  ∃(o:Obj) (its:Array Value) (n:Nat),K.lookup a=some o/\o.cls= .type "tuple"/\o.data= .seq its n/\its.size<=sizeLine/\iV xs its.toList
def absV:Value->Option V
 | .none=>some .non
 | .bool b=>some (.bl b)
 | .int i _=>some (.int i)
 | .str x _=>some (.str x)
 | .bytes b _=>some (.byt b)
 | .float b _=>some (.flt b)
 | .ref a=>some (.ref a)
 | .type n=>some (.ty n)
 |_=>none
theorem jq.abs {x:V} {u:Value} (r:jq x u):absV u=some x:=by
 cases x with
 |non=>cases r;rfl
 |bl _=>cases r;rfl
 |int _=>obtain⟨t,rfl⟩:=r;rfl
 |str _=>obtain⟨t,rfl⟩:=r;rfl
 |byt _=>obtain⟨t,rfl⟩:=r;rfl
 |flt _=>obtain⟨t,rfl⟩:=r;rfl
 |ref _=>cases r;rfl
 |ty _=>cases r;rfl
theorem jq.inj {x y:V} {u:Value} (r:jq x u) (q:jq y u):x=y:=dB.inj (r.abs.symm.trans q.abs)
theorem iV.inj:∀{xs ys:List V} {us:List Value},iV xs us->iV ys us->xs=ys
 |_,_,_,.nil,.nil=>rfl
 |_,_,_,.cons r t,.cons r' t'=>by rw[r.inj r',iV.inj t t']
section
variable {X:Cx} {pins:List (Addr×Obj)} {σ:St} {H:Hp} {s:Shared} {a:Addr} {xs ys:List V}
theorem SqL.of {K:PySem.W.Frag} (h:H a=some (.lst xs)):SqL K H a xs:= .inl (.inl h)
theorem SqT.of {K:PySem.W.Frag} (h:H a=some (.tup xs)):SqT K H a xs:= .inl (.inl h)
theorem Inv.list (I:Inv X pins σ H s) (h:SqL X.K H a xs):∃its:List Value,iV xs its/\PlainL s.heap a its.toArray/\xs.length<=sizeLine:=by
 rcases h with h|⟨o,its,n,hk,hc,hd,hs,hz,r⟩
 ·obtain⟨z,its,n,r,e⟩:=h.ok I.hok
  exact⟨its,r,⟨_,n,e,rfl,rfl,rfl⟩,z⟩
 ·refine⟨its.toList,r,⟨o,n,I.kIn a o hk,hc,hd,by simpa using hs⟩,?_⟩
  have e:=r.length
  simp only[fY]at e
  lia
theorem Inv.tuple (I:Inv X pins σ H s) (h:SqT X.K H a xs):∃its:List Value,iV xs its/\IsTup s.heap a its.toArray/\xs.length<=sizeLine:=by
 rcases h with h|⟨o,its,n,hk,hc,hs,hz,r⟩
 ·obtain⟨z,its,r,p⟩:=h.ok I.hok
  exact⟨its,r,p.tup,z⟩
 ·refine⟨its.toList,r,⟨o,I.kIn a o hk,hc,n,by simpa using hs⟩,?_⟩
  have e:=r.length
  simp only[fY]at e
  lia
theorem Inv.list_inj (I:Inv X pins σ H s) (h:SqL X.K H a xs) (h':SqL X.K H a ys):xs=ys:=by
 obtain⟨its,r,⟨o,n,e,_,_,d⟩,_⟩:=I.list h
 obtain⟨its',r',⟨o',n',e',_,_,d'⟩,_⟩:=I.list h'
 rw[e]at e';cases e'
 rw[d]at d'
 injection d' with d1 _
 have:its=its':=by simpa using congrArg Array.toList d1
 subst this
 exact r.inj r'
theorem Inv.tuple_inj (I:Inv X pins σ H s) (h:SqT X.K H a xs) (h':SqT X.K H a ys):xs=ys:=by
 obtain⟨its,r,⟨o,e,_,n,d⟩,_⟩:=I.tuple h
 obtain⟨its',r',⟨o',e',_,n',d'⟩,_⟩:=I.tuple h'
 rw[e]at e';cases e'
 rw[d]at d'
 injection d' with d1 _
 have:its=its':=by simpa using congrArg Array.toList d1
 subst this
 exact r.inj r'
end
abbrev Cx.wish (X:Cx) (E:Value->Shared->Prop):Cx:={X with xe:=E}
abbrev Cx.nox (X:Cx):Cx:=X.wish fun _ _=>False
theorem Cx.Ok.wish {X:Cx} (ok:X.Ok) (E:Value->Shared->Prop):(X.wish E).Ok:=
 ⟨ok.mod,ok.kind,ok.glob,ok.blt,ok.above,ok.inj,ok.has,ok.cab,ok.hd,ok.frames,ok.stk,ok.exf,ok.bs,ok.bsz,ok.noex,ok.exfs,ok.funs,ok.frf⟩
theorem Cx.Ok.unwish {X:Cx} {E:Value->Shared->Prop} (ok:(X.wish E).Ok):X.Ok:=
 ⟨ok.mod,ok.kind,ok.glob,ok.blt,ok.above,ok.inj,ok.has,ok.cab,ok.hd,ok.frames,ok.stk,ok.exf,ok.bs,ok.bsz,ok.noex,ok.exfs,ok.funs,ok.frf⟩
section
variable {X:Cx} {pins:List (Addr×Obj)} {σ:St} {H:Hp} {s:Shared} {E:Value->Shared->Prop}
theorem Inv.wish (I:Inv X pins σ H s) (E:Value->Shared->Prop):Inv (X.wish E) pins σ H s:=⟨I.ok.wish E,I.os,I.bare,I.base,I.loc,I.cell,I.free,I.freeC,I.pin,I.hok,I.len⟩
theorem Inv.unwish (I:Inv (X.wish E) pins σ H s):Inv X pins σ H s:=⟨I.ok.unwish,I.os,I.bare,I.base,I.loc,I.cell,I.free,I.freeC,I.pin,I.hok,I.len⟩
theorem SP.unwish {D:nY} {f:Flow} {s':Shared} (h:SP (X.wish E) pins D f s'):SP X pins D f s':=by
 cases f with
 |next=>obtain⟨σ',H',I,q⟩:=h;exact⟨σ',H',I.unwish,q⟩
 |brk=>obtain⟨σ',H',I,q⟩:=h;exact⟨σ',H',I.unwish,q⟩
 |cont=>obtain⟨σ',H',I,q⟩:=h;exact⟨σ',H',I.unwish,q⟩
 |ret u=>obtain⟨v,σ',H',I,r,q⟩:=h;exact⟨v,σ',H',I.unwish,r,q⟩
theorem PSs.nox {st:List Stmt} {t:TS} (h:PSs X.nox st t):PSs X st t:=fun pins s σ H D I hw=>
 wpAny_mono (h pins s σ H D (I.wish _) hw) (fun _ _ q=>q.unwish) fun _ _ z=>False.elim z
end
section
variable {X:Cx} {st:Stmt} {rest:List Stmt} {t u:TS} {e:Expr} {te:TE} {pos:Pos}
def si:TS:=fun D σ H=>D.nx σ H
def xk (t u:TS):TS:=fun D σ H=>t {D with nx:=u D} σ H
theorem ib:PSs X [] si:=fun _ _ σ H _ I h=>wpAny_execs_nil ⟨σ,H,I,h⟩
theorem gC (h1:PS X st t) (h2:PSs X rest u):PSs X (st::rest) (xk t u):=by
 intro pins s σ H D I h
 refine wpAny_execs_cons (thn (h1 pins s σ H {D with nx:=u D} I h) fun f s1 q=>?_)
 cases f with
 |next=>
  obtain⟨σ',H',I',q⟩:=q
  exact h2 pins s1 σ' H' D I' q
 |ret v=>exact q
 |brk=>exact q
 |cont=>exact q
theorem gK (h1:PS X st t):PSs X [st] t:=by
 intro pins s σ H D I h
 refine wpAny_execs_cons (thn (h1 pins s σ H D I h) fun f s1 q=>?_)
 cases f with
 |next=>exact wpAny_execs_nil q
 |ret v=>exact q
 |brk=>exact q
 |cont=>exact q
theorem Inv.quiet {pins:List (Addr×Obj)} {σ:St} {H:Hp} {s:Shared} (I:Inv X pins σ H s):interactive X.env=false:=by simp[interactive,I.ok.kind]
def FH (te:TE):TS:=fun D σ H=>te σ H fun _ H1=>D.nx σ H1
theorem iu (he:PE X e te) (hs:autoParam (swapsWith e none pos.line X.env=pure false) L2.Internal.auR._auto_1):PS X (.Expr e pos) (FH te):=by
 intro pins s σ H D I h
 exact wpAny_Expr_any (thn (he pins s σ H _ I h) fun v s1 ⟨x,H1,I1,r1,q1⟩=>⟨σ,H1,I1,q1⟩) I.quiet hs
def Fu (te:TE):TS:=fun D σ H=>te σ H D.rt
theorem hV (he:PE X e te):PS X (.Return (some e) pos) (Fu te):=by
 intro pins s σ H D I h
 exact wpAny_Return_some (thn (he pins s σ H _ I h) fun v s1 ⟨x,H1,I1,r1,q1⟩=>⟨x,σ,H1,I1,r1,q1⟩)
def we (c:TT) (t u:TS):TS:=fun D σ H=>c σ H fun b H1=>if b=true then t D σ H1 else u D σ H1
theorem iU {c:Expr} {a b:List Stmt} {tc:TT} (hc:PT X c tc) (ha:PSs X a t) (hb:PSs X b u):PS X (.If c a b pos) (we tc t u):=by
 intro pins s σ H D I h
 refine wpAny_If (thn (hc pins s σ H _ I h) fun d s1 ⟨H1,I1,q1⟩=>?_)
 cases d with
 |true=>exact ha pins s1 σ H1 D I1 q1
 |false=>exact hb pins s1 σ H1 D I1 q1
def AV:TS:=fun _ _ _=>False
theorem vh:PS X st AV:=fun _ _ _ _ _ _ h=>h.elim
theorem xy {sts:List Stmt}:PSs X sts AV:=fun _ _ _ _ _ _ h=>h.elim
end
abbrev TG:=V->St->Hp->(St->Hp->Prop)->Prop
abbrev TGs:=List V->St->Hp->(St->Hp->Prop)->Prop
def PG (X:Cx) (target:Expr) (t:TG):Prop:=
 ∀(pins:List (Addr×Obj)) (s:Shared) (σ:St) (H:Hp) (v:V) (u:Value) (Q:St->Hp->Prop),Inv X pins σ H s->jq v u->t v σ H Q->
  wpAny (model X.prog X.w) X.A (assign target X.env u) (fun _ s'=>∃σ' H',Inv X pins σ' H' s'/\Q σ' H') X.xe s
def PGs (X:Cx) (ts:List Expr) (t:TGs):Prop:=
 ∀(pins:List (Addr×Obj)) (s:Shared) (σ:St) (H:Hp) (vs:List V) (us:List Value) (Q:St->Hp->Prop),Inv X pins σ H s->iV vs us->t vs σ H Q->
  wpAny (model X.prog X.w) X.A (assignInOrder ((assignEach ts X.env).map (·.2)) us) (fun _ s'=>∃σ' H',Inv X pins σ' H' s'/\Q σ' H') X.xe s
abbrev FI:=V->V->V->Hp->(Hp->Prop)->Prop
def GP (X:Cx) (t:FI):Prop:=
 ∀(pins:List (Addr×Obj)) (s:Shared) (σ:St) (H:Hp) (o i v:V) (ov iv u:Value) (Q:Hp->Prop),Inv X pins σ H s->jq o ov->jq i iv->jq v u->t o i v H Q->
  wpAny (model X.prog X.w) X.A (setItem ov iv u) (fun _ s'=>∃H',Inv X pins σ H' s'/\Q H') X.xe s
section
variable {X:Cx} {pos:Pos}
def iW (i:Nat):TG:=fun v σ H Q=>Q (σ.set i (some v)) H
theorem jt {i:Nat} {x:Str} (hN:X.N.Nodup) (hi:X.N[i]?=some x) (hx:Loc X.env.scope x) (hf:autoParam (X.fn x=true\/X.env.scope.names.lookup x=some .local) L2.Internal.auL._auto_1):PG X (.Name x pos) (iW i):=by
 intro pins s σ H v u Q I r h
 exact wpAny_assign_Name (lN I hN hi hx r (fun s' I'=>⟨_,H,I',h⟩) hf)
def gNil:TGs:=fun vs σ H Q=>vs=[]/\Q σ H
def FJ (t:TG) (u:TGs):TGs:=fun vs σ H Q=>∃v r,vs=v::r/\t v σ H fun σ' H'=>u r σ' H' Q
theorem qP:PGs X [] gNil:=by
 intro pins s σ H vs us Q I r h
 obtain⟨e,h⟩:=h
 subst e
 cases r
 exact assignInOrder_nil ⟨σ,H,I,h⟩
theorem lO {e:Expr} {es:List Expr} {t:TG} {u:TGs} (h1:PG X e t) (h2:PGs X es u)
  (hs:autoParam ((assignEach (e::es) X.env).map (·.2)=assign e X.env::(assignEach es X.env).map (·.2)) L2.Internal.auR._auto_1):PGs X (e::es) (FJ t u):=by
 intro pins s σ H vs us Q I r h
 obtain⟨v,vr,e1,h⟩:=h
 subst e1
 cases r with
 |cons r rr=>
  rw[hs]
  refine assignInOrder_cons (thn (h1 pins s σ H _ _ _ I r h) fun _ s1 ⟨σ1,H1,I1,q1⟩=>?_)
  exact h2 pins s1 σ1 H1 _ _ Q I1 rr q1
def gTup (K:PySem.W.Frag) (n:Nat) (t:TGs):TG:=fun v σ H Q=>∃a xs,v= .ref a/\SqT K H a xs/\xs.length=n/\t xs σ H Q
theorem vi {es:List Expr} {k:Nat} {t:TGs} {n:Nat} (hc:X.calm=true) (h:PGs X es t)
  (hn:autoParam ((assignEach es X.env).length=n) L2.Internal.auR._auto_1) (hst:autoParam ((assignEach es X.env).findIdx? (·.1)=none) L2.Internal.auR._auto_1):PG X (.Tuple es k pos) (gTup X.K n t):=by
 intro pins s σ H v u Q I r hw
 obtain⟨a,xs,e1,hq,hl,hw⟩:=hw
 subst e1
 cases r
 obtain⟨its,rv,ht,hz⟩:=I.tuple hq
 refine assign_Tuple_tuple (I.ok.hd hc) ht (by simp[hn,<-hl,rv.length]) hst fun h' hx=>?_
 have I1:Inv X pins σ H {s with heap:=h'}:=I.kept (t':=s.toks) fun b o e=>hx b o (cW (gq e)) e
 exact h pins _ σ H xs _ Q I1 (by simpa using rv) hw
def gSub (to ti:TE) (t:FI):TG:=fun v σ H Q=>to σ H fun o H1=>ti σ H1 fun i H2=>t o i v H2 fun H3=>Q σ H3
theorem AW {o i:Expr} {to ti:TE} {t:FI} (ho:PE X o to) (hi:PE X i ti) (hs:GP X t)
  (ha:∀v,assign (.Subscript o i pos) X.env v=(do
   let ov<-holding [v] (eval o X.env)
   let iv<-holding [v,ov] (eval i X.env)
   standAt pos
   holding [v,ov,iv] (setItem ov iv v)
   release [v,ov,iv] []):=by intro _;rfl):PG X (.Subscript o i pos) (gSub to ti t):=by
 intro pins s σ H v u Q I r h
 rw[ha]
 refine wpAny_bind (wpAny_holding (thn (ho pins s σ H _ I h) fun ov s1 ⟨x,H1,I1,r1,q1⟩=>?_))
 refine wpAny_bind (wpAny_holding (thn (hi pins s1 σ H1 _ I1 q1) fun iv s2 ⟨y,H2,I2,r2,q2⟩=>?_))
 refine wpAny_bind (wpAny_standAt (wpAny_bind (wpAny_holding (thn (hs pins s2 σ H2 x y v ov iv u _ I2 r1 r2 r q2) fun _ s3 ⟨H3,I3,q3⟩=>?_))))
 exact wpAny_release ⟨σ,H3,I3,q3⟩
def DE (te:TE) (g:TG):TS:=fun D σ H=>te σ H fun x H1=>g x σ H1 D.nx
theorem xA {tg e:Expr} {te:TE} {g:TG} (he:PE X e te) (hg:PG X tg g) (hs:autoParam (swapsWithSole [tg] e pos.line X.env=pure false) L2.Internal.auR._auto_1) (hw:autoParam (swappedStores [tg] e X.env=pure none) L2.Internal.auR._auto_1)
  (h1:autoParam ((assignEach [tg] X.env).map (·.2)=[assign tg X.env]) L2.Internal.auR._auto_1):PS X (.Assign [tg] e pos) (DE te g):=by
 intro pins s σ H D I h
 refine wpAny_Assign_stores (thn (he pins s σ H _ I h) fun v s1 ⟨x,H1,I1,r1,q1⟩=>?_) hs hw
 rw[h1]
 exact thn (hg pins s1 σ H1 x v _ I1 r1 q1) fun _ s2 q=>q
theorem gR {i:Nat} {x:Str} {e:Expr} {te:TE} {pos':Pos} (hN:X.N.Nodup) (hi:X.N[i]?=some x) (hx:Loc X.env.scope x) (he:PE X e te) (hs:autoParam (swapsWith e (some (.Name x pos')) pos.line X.env=pure false) L2.Internal.auR._auto_1) (hf:autoParam (X.fn x=true\/X.env.scope.names.lookup x=some .local) L2.Internal.auL._auto_1):
  PS X (.Assign [.Name x pos'] e pos) (DE te (iW i)):=by
 intro pins s σ H D I h
 refine wpAny_Assign_Name (thn (he pins s σ H _ I h) fun v s1 ⟨y,H1,I1,r1,q1⟩=>?_) hs
 exact lN I1 hN hi hx r1 (fun s2 I2=>⟨_,H1,I2,q1⟩) hf
end
section
variable {X:Cx} {pos:Pos}
def xB (c:TT) (tb:TS):TS:=fun D σ H=>∃W:Nat->St->Hp->Prop,(∃m,W m σ H)/\∀m σ H,W m σ H->
 c σ H fun b H1=>if b=true then ∃N:St->Hp->Prop,(∀σ' H',N σ' H'->∃m',m'<m/\W m' σ' H')/\tb {D with nx:=N,ct:=N,bk:=D.nx} σ H1 else D.nx σ H1
theorem mK {c:Expr} {body:List Stmt} {tc:TT} {tb:TS} (hp:PassesOwn (model X.prog X.w) X.A X.env X.xe) (hc:PT X c tc) (hb:PSs X body tb):PS X (.While c body [] pos) (xB tc tb):=by
 intro pins s σ H D I h
 obtain⟨W,⟨m0,w0⟩,turn⟩:=h
 refine wpAny_While (codeAny_whileLoop (fun n s'=>∃σ' H',Inv X pins σ' H' s'/\W n σ' H') ?_ m0 ⟨σ,H,I,w0⟩)
 rintro n s1 ⟨σ1,H1,I1,w1⟩
 refine wpAny_passesOwn hp (thn (hc pins s1 σ1 H1 _ I1 (turn n σ1 H1 w1)) fun b s2 ⟨H2,I2,q2⟩=>?_)
 cases b with
 |true=>
  obtain⟨N,hN,q2⟩:=q2
  rw[if_pos rfl]
  refine wpAny_passesOwn hp (thn (hb pins s2 σ1 H2 _ I2 q2) fun f s3 q3=>?_)
  cases f with
  |next=>
   obtain⟨σ3,H3,I3,n3⟩:=q3
   obtain⟨m',hm,w3⟩:=hN σ3 H3 n3
   exact⟨m',hm,σ3,H3,I3,w3⟩
  |cont=>
   obtain⟨σ3,H3,I3,n3⟩:=q3
   obtain⟨m',hm,w3⟩:=hN σ3 H3 n3
   exact⟨m',hm,σ3,H3,I3,w3⟩
  |brk=>exact q3
  |ret v=>exact q3
 |false=>
  rw[if_neg fN]
  exact wpAny_execs_nil ⟨σ1,H2,I2,q2⟩
end
structure It where
 go:Nat->Hp->Prop
 yld:Nat->Hp->V->Hp->Prop
 stop:Nat->Hp->Prop
def wg (X:Cx) (pins:List (Addr×Obj)) (H:Hp) (b:Addr):Prop:=
 H b=none/\b≠X.env.locals/\b∉X.fs/\(b∈X.ex\/X.s₀.heap.objs.size<=b)/\(∀x c,X.env.cells.lookup x=some c->c≠b)/\∀p∈X.pn++pins,p.1≠b
theorem Inv.fpOk {X:Cx} {pins:List (Addr×Obj)} {σ:St} {H H':Hp} {s:Shared} {b:Addr} (I:Inv X pins σ H s) (hb:s.heap.objs.size<=b) (hn:H' b=none):wg X pins H' b:=by
 refine⟨hn,cZ (cR I.lt hb),I.nofs hb,.inr (cX I.sz hb),fun x c e z=>?_,fun p hp z=>?_⟩
 ·obtain⟨v,q⟩:=I.cell x c e
  exact absurd (cR q.lt (by rw[z];exact hb)) (cU _)
 ·exact absurd (cR (gq (I.pin p hp).1) (by rw[z];exact hb)) (cU _)
structure Dn (P:Program) (w:World) (K:PySem.W.Frag) (tg:Expr) (J:It) (fp:List Addr) (it:Addr) (tn:Nat->Heap->Prop):Prop where
 mem:it∈fp
 obj:∀i h,tn i h->∀b∈fp,∃o,h.get? b=some o/\∀v,o.data≠ .cell v
 keep:∀i h h',tn i h->(∀b∈fp,∀o,h.get? b=some o->h'.get? b=some o)->tn i h'
 item:∀(X:Cx),X.prog=P->X.w=w->X.K=K->X.calm=true->∀(i:Nat) (pins:List (Addr×Obj)) (s:Shared) (σ:St) (H:Hp) (E:Value->Shared->Prop),Inv X pins σ H s->(∀b∈fp,wg X pins H b)->tn i s.heap->J.go i H->
  wpAny (model P w) X.A (pyNext (.ref it)) (fun r s1=>∃u,r=some u/\
   wpAny (model P w) X.A (letOwnedTupleGo tg (.ref it) u) (fun _ s2=>∃x H',Inv X pins σ H' s2/\jq x u/\J.yld i H x H'/\tn (i+ 1) s2.heap/\∀b∈fp,H' b=none) E s1) E s
 done:∀(X:Cx),X.prog=P->X.w=w->X.K=K->X.calm=true->∀(i:Nat) (pins:List (Addr×Obj)) (s:Shared) (σ:St) (H:Hp) (E:Value->Shared->Prop),Inv X pins σ H s->(∀b∈fp,wg X pins H b)->tn i s.heap->J.stop i H->
  wpAny (model P w) X.A (pyNext (.ref it)) (fun r s1=>r=none/\Inv X pins σ H s1) E s
 self:∀(A:Around) (i:Nat) (s:Shared) (Q:Value->Shared->Prop) (E:Value->Shared->Prop),tn i s.heap->Q (.ref it) s->wpAny (model P w) A (pyIter (.ref it)) Q E s
abbrev TI:=St->Hp->(It->Hp->Prop)->Prop
def PIE (X:Cx) (pins:List (Addr×Obj)) (σ:St) (tg:Expr) (R:It->Hp->Prop) (itv:Value) (s2:Shared):Prop:=
 ∃(it:Addr) (fp:List Addr) (tn:Nat->Heap->Prop) (J:It) (H':Hp),itv= .ref it/\Inv X pins σ H' s2/\Dn X.prog X.w X.K tg J fp it tn/\tn 0 s2.heap/\(∀b∈fp,wg X pins H' b)/\R J H'
def PI (X:Cx) (tg iter:Expr) (wi:TI):Prop:=
 ∀(pins:List (Addr×Obj)) (s:Shared) (σ:St) (H:Hp) (R:It->Hp->Prop),Inv X pins σ H s->wi σ H R->
  wpAny (model X.prog X.w) X.A (eval iter X.env) (fun v s1=>wpAny (model X.prog X.w) X.A (pyIter v) (PIE X pins σ tg R) X.xe s1) X.xe s
theorem zE {M : Model} {A : Around} {E : Value -> Shared -> Prop} {s : Shared} {tg : Expr} {it : Addr} {u : Value} {o : Obj} {n : String} {vs : Array Value} {Q : Unit -> Shared -> Prop} (ho : s.heap.get? it = some o) (hc : o.cls = .type n) (hd : o.data = .fields vs)
  (hn : ["enumerate", "zip", "dict_itemiterator", "dict_reverseitemiterator", "odict_iterator", "itertools.zip_longest", "itertools.pairwise"].contains n = false) (hQ : Q () s) : wpAny M A (letOwnedTupleGo tg (.ref it) u) Q E s := by
 unfold letOwnedTupleGo
 cases tg <;> first
  | exact wpAny_pure hQ
  | (cases u <;> first
    | exact wpAny_pure hQ
    | (refine wpAny_bind (wpAny_load ho ?_)
       rw [hc, hd]
       show wpAny M A (if (["enumerate", "zip", "dict_itemiterator", "dict_reverseitemiterator", "odict_iterator", "itertools.zip_longest", "itertools.pairwise"].contains n && vs[0]? == some (rawInt _)) = true then _ else _) Q E s
       rw [if_neg (by intro h; rw [hn, Bool.false_and] at h; cases h)]
       exact wpAny_pure hQ))
def Itl (K:PySem.W.Frag) (a:Addr):It:=
 ⟨fun i H=>∃xs x,SqL K H a xs/\xs[i]?=some x,fun i H x H'=>H'=H/\∀xs,SqL K H a xs->xs[i]?=some x,fun i H=>∃xs,SqL K H a xs/\xs.length<=i⟩
def Itt (K:PySem.W.Frag) (a:Addr):It:=
 ⟨fun i H=>∃xs x,SqT K H a xs/\xs[i]?=some x,fun i H x H'=>H'=H/\∀xs,SqT K H a xs->xs[i]?=some x,fun i H=>∃xs,SqT K H a xs/\xs.length<=i⟩
def Itr (lo:Int) (n:Nat):It:=⟨fun i _=>i<n,fun i H x H'=>H'=H/\x= .int (lo+i),fun i _=>n<=i⟩
theorem xC {P:Program} {w:World} {K:PySem.W.Frag} {tg:Expr} (a it:Addr):Dn P w K tg (Itl K a) [it] it (fun i h=>h.IsListIter it a i) where
 mem:=by simp
 obj:=fun i h st b hb=>by
  have e:b=it:=by simpa using hb
  subst e
  obtain⟨o,e,c,d⟩:=st
  exact⟨o,e,fun v z=>by rw[d]at z;cases z⟩
 keep:=fun i h h' st k=>st.at fun o e=>k it (by simp) o e
 item:=by
  intro X hP hw hK hc i pins s σ H E I hf st hg
  subst hP hw hK
  obtain⟨xs,x,hq,hx⟩:=hg
  obtain⟨its,rv,p,hz⟩:=I.list hq
  obtain⟨u,hu,ru⟩:=rv.get hx
  obtain⟨f0,f1,f2,f3,f4,f5⟩:=hf it (by simp)
  refine wpAny_pyNext_list_item st p.isList (x:=u) (by simpa using hu) fun h' st' sb=>?_
  have I1:Inv X pins σ H {s with heap:=h'}:=I.turned (t':=s.toks) (fun b o hb e=>(sb.2 b hb).trans e) f0 f1 f3 f4 f5
  obtain⟨o,e,c,d⟩:=id st'
  exact⟨u,rfl,zE (s:={s with heap:=h'}) e c d (by decide) ⟨x,H,I1,ru,⟨rfl,fun ys hy=>by rw[I.list_inj hy hq];exact hx⟩,st',fun b hb=>(hf b hb).1⟩⟩
 done:=by
  intro X hP hw hK hc i pins s σ H E I hf st hg
  subst hP hw hK
  obtain⟨xs,hq,hx⟩:=hg
  obtain⟨its,rv,p,hz⟩:=I.list hq
  obtain⟨f0,f1,f2,f3,f4,f5⟩:=hf it (by simp)
  have hl:=rv.length
  exact wpAny_pyNext_list_end (I.ok.hd hc) st p.isList (by simp;lia) fun h' eb=>⟨rfl,I.turned (t':=s.toks) (fun b o hb e=>eb b o hb e) f0 f1 f3 f4 f5⟩
 self:=fun _ _ _ _ _ st h=>wpAny_pyIter_listiter st h
theorem wj {P:Program} {w:World} {K:PySem.W.Frag} {tg:Expr} (a it:Addr):Dn P w K tg (Itt K a) [it] it (fun i h=>h.IsTupleIter it a i) where
 mem:=by simp
 obj:=fun i h st b hb=>by
  have e:b=it:=by simpa using hb
  subst e
  obtain⟨o,e,c,d⟩:=st
  exact⟨o,e,fun v z=>by rw[d]at z;cases z⟩
 keep:=fun i h h' st k=>st.at fun o e=>k it (by simp) o e
 item:=by
  intro X hP hw hK hc i pins s σ H E I hf st hg
  subst hP hw hK
  obtain⟨xs,x,hq,hx⟩:=hg
  obtain⟨its,rv,p,hz⟩:=I.tuple hq
  obtain⟨u,hu,ru⟩:=rv.get hx
  obtain⟨f0,f1,f2,f3,f4,f5⟩:=hf it (by simp)
  refine wpAny_pyNext_tuple_item st (show s.heap.IsTuple a its.toArray from p) (x:=u) (by simpa using hu) fun h' st' sb=>?_
  have I1:Inv X pins σ H {s with heap:=h'}:=I.turned (t':=s.toks) (fun b o hb e=>(sb.2 b hb).trans e) f0 f1 f3 f4 f5
  obtain⟨o,e,c,d⟩:=id st'
  exact⟨u,rfl,zE (s:={s with heap:=h'}) e c d (by decide) ⟨x,H,I1,ru,⟨rfl,fun ys hy=>by rw[I.tuple_inj hy hq];exact hx⟩,st',fun b hb=>(hf b hb).1⟩⟩
 done:=by
  intro X hP hw hK hc i pins s σ H E I hf st hg
  subst hP hw hK
  obtain⟨xs,hq,hx⟩:=hg
  obtain⟨its,rv,p,hz⟩:=I.tuple hq
  obtain⟨f0,f1,f2,f3,f4,f5⟩:=hf it (by simp)
  have hl:=rv.length
  exact wpAny_pyNext_tuple_end (I.ok.hd hc) st (show s.heap.IsTuple a its.toArray from p) (by simp;lia) fun h' eb=>⟨rfl,I.turned (t':=s.toks) (fun b o hb e=>eb b o hb e) f0 f1 f3 f4 f5⟩
 self:=fun _ _ _ _ _ st h=>wpAny_pyIter_tupleiter st h
theorem wm {P:Program} {w:World} {K:PySem.W.Frag} {tg:Expr} (it:Addr) (lo:Int) (n:Nat):Dn P w K tg (Itr lo n) [it] it (fun i h=>IsRangeIter h it (lo+(i:Nat)*1) ((n:Int)-(i:Nat)) 1) where
 mem:=by simp
 obj:=fun i h st b hb=>by
  have e:b=it:=by simpa using hb
  subst e
  exact⟨_,st,fun v z=>by
   have z':Data.fields _=Data.cell v:=z
   cases z'⟩
 keep:=fun i h h' st k=>k it (by simp) _ st
 item:=by
  intro X hP hw hK hc i pins s σ H E I hf st hg
  subst hP hw hK
  obtain⟨f0,f1,f2,f3,f4,f5⟩:=hf it (by simp)
  have W:=Walks.range (prog:=X.prog) (w:=X.w) (I.ok.hd hc) it lo 1 n
  refine W.item i s _ _ hg st fun v h' tk hv st' kk=>?_
  obtain⟨t,rfl⟩:=hv
  have I1:Inv X pins σ H {s with heap:=h',toks:=tk}:=I.turned (fun b o hb e=>kk b o (by simpa using hb) e) f0 f1 f3 f4 f5
  refine⟨_,rfl,zE (s:={s with heap:=h',toks:=tk}) (n:="range_iterator") st' rfl rfl (by decide) ⟨.int (lo+i),H,I1,⟨t,?_⟩,⟨rfl,rfl⟩,st',fun b hb=>(hf b hb).1⟩⟩
  rw[Int.mul_one]
 done:=by
  intro X hP hw hK hc i pins s σ H E I hf st hg
  subst hP hw hK
  obtain⟨f0,f1,f2,f3,f4,f5⟩:=hf it (by simp)
  exact wpAny_pyNext_range_end (I.ok.hd hc) st (by have:n<=i:=hg;lia) fun h' eb=>⟨rfl,I.turned (t':=s.toks) (fun b o hb e=>eb b o hb e) f0 f1 f3 f4 f5⟩
 self:=fun _ _ _ _ _ st h=>wpAny_pyIter_rangeiter st h
section
variable {X:Cx} {tg:Expr}
def FL (K:PySem.W.Frag) (tl:TE):TI:=fun σ H R=>tl σ H fun x H1=>∃a,x= .ref a/\(∃xs,SqL K H1 a xs)/\R (Itl K a) H1
def iTup (K:PySem.W.Frag) (tl:TE):TI:=fun σ H R=>tl σ H fun x H1=>∃a,x= .ref a/\(∃xs,SqT K H1 a xs)/\R (Itt K a) H1
theorem jR {l:Expr} {tl:TE} (hl:PE X l tl):PI X tg l (FL X.K tl):=by
 intro pins s σ H R I h
 refine thn (hl pins s σ H _ I h) fun v s1 ⟨x,H1,I1,r1,q1⟩=>?_
 obtain⟨a,e,⟨xs,hq⟩,q⟩:=q1
 subst e
 cases r1
 obtain⟨its,rv,p,hz⟩:=I1.list hq
 refine wpAny_pyIter_list p.isList ?_
 refine⟨s1.heap.objs.size,[s1.heap.objs.size],_,_,H1,rfl,I1.kept (t':=s1.toks) fun b o e=>gv _ e,xC a _,⟨_,gr _ rfl,rfl,rfl⟩,fun b hb=>?_,q⟩
 have e:b=s1.heap.objs.size:=by simpa using hb
 subst e
 exact I1.fpOk (c7 _) (I1.hok.fresh (c7 _))
theorem sj {l:Expr} {tl:TE} (hl:PE X l tl):PI X tg l (iTup X.K tl):=by
 intro pins s σ H R I h
 refine thn (hl pins s σ H _ I h) fun v s1 ⟨x,H1,I1,r1,q1⟩=>?_
 obtain⟨a,e,⟨xs,hq⟩,q⟩:=q1
 subst e
 cases r1
 obtain⟨its,rv,p,hz⟩:=I1.tuple hq
 refine wpAny_pyIter_tuple (show s1.heap.IsTuple a its.toArray from p) ?_
 refine⟨s1.heap.objs.size,[s1.heap.objs.size],_,_,H1,rfl,I1.kept (t':=s1.toks) fun b o e=>gv _ e,wj a _,⟨_,gr _ rfl,rfl,rfl⟩,fun b hb=>?_,q⟩
 have e:b=s1.heap.objs.size:=by simpa using hb
 subst e
 exact I1.fpOk (c7 _) (I1.hok.fresh (c7 _))
theorem zF {pins:List (Addr×Obj)} {σ:St} {H:Hp} {s:Shared} {R:It->Hp->Prop} {E:Value->Shared->Prop} {lo hi:Int} {t u v:Tok} {tk:Nat} (I:Inv X pins σ H s) (h1: -(2^62)<=lo) (h2:lo<2^62) (h3: -(2^62)<=hi) (h4:hi<2^62)
  (q:R (Itr lo (hi-lo).toNat) H):wpAny (model X.prog X.w) X.A (pyIter (.ref s.heap.objs.size)) (PIE X pins σ tg R) E {s with heap:=s.heap.push {cls:= .type "range",data:= .fields #[.int lo t,.int hi u,.int 1 v]},toks:=tk}:=by
 refine wpAny_pyIter_range (IsRange.new ..) (small_one h1 h2 h3 h4) ?_
 have I1:Inv X pins σ H {s with heap:=s.heap.push {cls:= .type "range",data:= .fields #[.int lo t,.int hi u,.int 1 v]},toks:=tk}:=I.kept fun b o e=>gv _ e
 refine⟨(s.heap.push {cls:= .type "range",data:= .fields #[.int lo t,.int hi u,.int 1 v]}).objs.size,[(s.heap.push {cls:= .type "range",data:= .fields #[.int lo t,.int hi u,.int 1 v]}).objs.size],_,_,H,rfl,
  I1.kept (t':=tk) fun b o e=>gv _ e,wm _ lo (hi-lo).toNat,?_,fun b hb=>?_,q⟩
 ·have e1:lo+((0:Nat):Int)*1=lo:=by simp
  have e2:(((hi-lo).toNat:Nat):Int)-((0:Nat):Int)=Builtin.Range.rangeSize lo hi 1:=by rw[rangeSize_one];split<;>lia
  show IsRangeIter _ _ (lo+((0:Nat):Int)*1) ((((hi-lo).toNat:Nat):Int)-((0:Nat):Int)) 1
  rw[e1,e2]
  exact gr _ rfl
 ·have e:b=(s.heap.push {cls:= .type "range",data:= .fields #[.int lo t,.int hi u,.int 1 v]}).objs.size:=by simpa using hb
  subst e
  exact I1.fpOk (c7 _) (I1.hok.fresh (c7 _))
def FN (ta:TA):TI:=fun σ H R=>ta σ H fun vs H1=>∃j:Int,vs=[.int j]/\-(2^62)<=j/\j<2^62/\R (Itr 0 j.toNat) H1
theorem nE {a:Expr} {ta:TA} {p pos:Pos} (hg:Gl X "range") (hm:X.mg "range"=none) (ha:PA X [a] ta) (hs:autoParam (starEach [a] X.env=[(false,eval a X.env)]) L2.Internal.auR._auto_1):PI X tg (.Call (.Name "range" p) [a] [] pos) (FN ta):=by
 intro pins s σ H R I h
 refine Call_ (oS I hg hm boot_range (gz (thn (ha pos pins s σ H _ I h) fun us s1 ⟨vs,H1,I1,r1,q1⟩=>?_) hs rfl))
 obtain⟨j,e,q1,q2,q⟩:=q1
 subst e
 cases r1 with
 |cons r rr=>
  cases rr
  obtain⟨t,rfl⟩:=r
  exact call_range_1 (zF I1 (by lia) (by lia) q1 q2 (by simpa using q))
def tFor (wi:TI) (g:TG) (tb:TS):TS:=fun D σ H=>wi σ H fun J H1=>∃W:Nat->Nat->St->Hp->Prop,(∃m,W 0 m σ H1)/\∀i m σ H,W i m σ H->
 (J.stop i H/\D.nx σ H)\/(J.go i H/\∃N:St->Hp->Prop,(∀σ' H',N σ' H'->∃m',m'<m/\W (i+ 1) m' σ' H')/\∀x H',J.yld i H x H'->g x σ H' fun σ2 H2=>tb {D with nx:=N,ct:=N,bk:=D.nx} σ2 H2)
def qm (fp:List Addr) (h:Heap):List (Addr×Obj):=fp.filterMap fun b=>(h.get? b).map fun o=>(b,o)
theorem kT {fp:List Addr} {h:Heap} {b:Addr} {o:Obj} (hb:b∈fp) (e:h.get? b=some o):(b,o)∈qm fp h:=ay.mpr ⟨b,hb,by rw[e];rfl⟩
theorem xD {fp:List Addr} {h:Heap} {p:Addr×Obj} (hp:p∈qm fp h):p.1∈fp/\h.get? p.1=some p.2:=by
 obtain⟨b,hb,e⟩:=ay.mp hp
 cases q:h.get? b with
 |none=>rw[q]at e;cases e
 |some o=>
  rw[q]at e
  have e':(b,o)=p:=dB.inj e
  subst e'
  exact⟨hb,q⟩
theorem Inv.pinned {pins:List (Addr×Obj)} {σ:St} {H:Hp} {s:Shared} {fp:List Addr} (I:Inv X pins σ H s) (hf:∀b∈fp,wg X pins H b) (ho:∀b∈fp,∃o,s.heap.get? b=some o/\∀v,o.data≠ .cell v):Inv X (pins++qm fp s.heap) σ H s:=
 I.pins_of fun p hp=>(ao.mp hp).elim (fun z=>I.pin p (az _ z)) fun z=>by
  obtain⟨hb,e⟩:=xD z
  obtain⟨f0,f1,f2,_⟩:=hf p.1 hb
  obtain⟨o,e',d⟩:=ho p.1 hb
  rw[e]at e';cases e'
  exact⟨e,f0,f1,f2,d⟩
theorem Inv.unpinned {pins pl:List (Addr×Obj)} {σ:St} {H:Hp} {s:Shared} (I:Inv X (pins++pl) σ H s):Inv X pins σ H s:=I.pins_of fun p hp=>I.pin p (az _ (aq _ hp))
theorem lU {iter:Expr} {body:List Stmt} {wi:TI} {g:TG} {tb:TS} {pos:Pos} (hp:PassesOwn (model X.prog X.w) X.A X.env X.xe) (hc:X.calm=true) (hi:PI X tg iter wi) (hg:PG X tg g) (hb:PSs X body tb)
  (hs:autoParam (∀x,foldedSetIterable iter X.env x=pure x) L2.Internal.auI._auto_1):PS X (.For tg iter body [] pos) (tFor wi g tb):=by
 intro pins s σ H D I h
 refine wpAny_For (thn (hi pins s σ H _ I h) fun v s1 h1=>thn h1 fun itv s2 h2=>?_) hs
 obtain⟨it,fp,tn,J,H2,e,I2,T,st2,f2,W,⟨m0,w0⟩,turn⟩:=h2
 subst e
 have stat:∀{H':Hp},(∀b∈fp,H' b=none)->∀b∈fp,wg X pins H' b:=fun hn b hb=>⟨hn b hb,(f2 b hb).2⟩
 refine codeAny_forLoop_any (fun n s'=>∃i σ' H',Inv X pins σ' H' s'/\tn i s'.heap/\(∀b∈fp,H' b=none)/\W i n σ' H') ?_ m0 ⟨0,σ,H2,I2,st2,fun b hb=>(f2 b hb).1,w0⟩
 rintro n s3 ⟨i,σ3,H3,I3,st3,fr3,w3⟩
 rcases turn i n σ3 H3 w3 with⟨stop,qn⟩|⟨go,N,hN,step⟩
 ·refine wpAny_passesOwn hp (thn (T.done X rfl rfl rfl hc i pins s3 σ3 H3 X.xe I3 (stat fr3) st3 stop) fun r s4 ⟨hr,I4⟩=>?_)
  subst hr
  exact wpAny_execs_nil ⟨σ3,H3,I4,qn⟩
 ·refine wpAny_passesOwn hp (thn (T.item X rfl rfl rfl hc i pins s3 σ3 H3 X.xe I3 (stat fr3) st3 go) fun r s4 ⟨u,hr,h4⟩=>?_)
  subst hr
  refine wpAny_passesOwn hp (thn h4 fun _ s5 ⟨x,H5,I5,r5,y5,st5,fr5⟩=>?_)
  have I5':=I5.pinned (stat fr5) (T.obj _ _ st5)
  refine wpAny_passesOwn hp (thn (hg _ s5 σ3 H5 x u _ I5' r5 (step x H5 y5)) fun _ s6 ⟨σ6,H6,I6,q6⟩=>?_)
  refine wpAny_passesOwn hp (thn (hb _ s6 σ6 H6 _ I6 q6) fun f s7 q7=>?_)
  have again:∀{σ7:St} {H7:Hp},Inv X (pins++qm fp s5.heap) σ7 H7 s7->N σ7 H7->∃m,m<n/\∃i σ' H',Inv X pins σ' H' s7/\tn i s7.heap/\(∀b∈fp,H' b=none)/\W i m σ' H':=fun{σ7 H7} I7 n7=>by
   obtain⟨m',hm,w7⟩:=hN σ7 H7 n7
   refine⟨m',hm,i+ 1,σ7,H7,I7.unpinned,T.keep _ _ _ st5 fun b hb o e=>(I7.pin (b,o) (az _ (az _ (kT hb e)))).1,fun b hb=>?_,w7⟩
   obtain⟨o,e,d⟩:=T.obj _ _ st5 b hb
   exact(I7.pin (b,o) (az _ (az _ (kT hb e)))).2.1
  cases f with
  |next=>obtain⟨σ7,H7,I7,n7⟩:=q7;exact again I7 n7
  |cont=>obtain⟨σ7,H7,I7,n7⟩:=q7;exact again I7 n7
  |brk=>obtain⟨σ7,H7,I7,q7⟩:=q7;exact⟨σ7,H7,I7.unpinned,q7⟩
  |ret v=>obtain⟨x7,σ7,H7,I7,r7,q7⟩:=q7;exact⟨x7,σ7,H7,I7.unpinned,r7,q7⟩
end
theorem nF {K:PySem.W.Frag} {a:Addr} {xs:List V} {g:TG} {tb:TS} {D:nY} {σ:St} {H:Hp} (Pv:Nat->St->Hp->Prop) (h0:Pv 0 σ H) (hl:∀i σ H,i<=xs.length->Pv i σ H->SqL K H a xs)
  (hs:∀i x σ H,xs[i]?=some x->Pv i σ H->g x σ H fun σ2 H2=>tb {D with nx:=Pv (i+ 1),ct:=Pv (i+ 1),bk:=D.nx} σ2 H2) (hd:∀σ H,Pv xs.length σ H->D.nx σ H):
  ∃W:Nat->Nat->St->Hp->Prop,(∃m,W 0 m σ H)/\∀i m σ H,W i m σ H->
   ((Itl K a).stop i H/\D.nx σ H)\/((Itl K a).go i H/\∃N:St->Hp->Prop,(∀σ' H',N σ' H'->∃m',m'<m/\W (i+ 1) m' σ' H')/\∀x H',(Itl K a).yld i H x H'->g x σ H' fun σ2 H2=>tb {D with nx:=N,ct:=N,bk:=D.nx} σ2 H2):=by
 refine⟨fun i m σ H=>m=xs.length-i/\i<=xs.length/\Pv i σ H,⟨xs.length,by simp,c8 _,h0⟩,?_⟩
 rintro i m σ H ⟨rfl,hi,p⟩
 have q:=hl i σ H hi p
 by_cases hlt:i<xs.length
 ·refine .inr ⟨⟨xs,xs[i],q,by simp[hlt]⟩,Pv (i+ 1),fun σ' H' p'=>⟨xs.length-(i+ 1),by lia,rfl,hlt,p'⟩,fun x H' y=>?_⟩
  obtain⟨e,y⟩:=y
  subst e
  exact hs i x σ _ (y xs q) p
 ·have e:i=xs.length:=by lia
  subst e
  exact .inl ⟨⟨xs,q,c7 _⟩,hd σ H p⟩
theorem uh {K:PySem.W.Frag} {a:Addr} {xs:List V} {g:TG} {tb:TS} {D:nY} {σ:St} {H:Hp} (Pv:Nat->St->Hp->Prop) (h0:Pv 0 σ H) (hl:∀i σ H,i<=xs.length->Pv i σ H->SqT K H a xs)
  (hs:∀i x σ H,xs[i]?=some x->Pv i σ H->g x σ H fun σ2 H2=>tb {D with nx:=Pv (i+ 1),ct:=Pv (i+ 1),bk:=D.nx} σ2 H2) (hd:∀σ H,Pv xs.length σ H->D.nx σ H):
  ∃W:Nat->Nat->St->Hp->Prop,(∃m,W 0 m σ H)/\∀i m σ H,W i m σ H->
   ((Itt K a).stop i H/\D.nx σ H)\/((Itt K a).go i H/\∃N:St->Hp->Prop,(∀σ' H',N σ' H'->∃m',m'<m/\W (i+ 1) m' σ' H')/\∀x H',(Itt K a).yld i H x H'->g x σ H' fun σ2 H2=>tb {D with nx:=N,ct:=N,bk:=D.nx} σ2 H2):=by
 refine⟨fun i m σ H=>m=xs.length-i/\i<=xs.length/\Pv i σ H,⟨xs.length,by simp,c8 _,h0⟩,?_⟩
 rintro i m σ H ⟨rfl,hi,p⟩
 have q:=hl i σ H hi p
 by_cases hlt:i<xs.length
 ·refine .inr ⟨⟨xs,xs[i],q,by simp[hlt]⟩,Pv (i+ 1),fun σ' H' p'=>⟨xs.length-(i+ 1),by lia,rfl,hlt,p'⟩,fun x H' y=>?_⟩
  obtain⟨e,y⟩:=y
  subst e
  exact hs i x σ _ (y xs q) p
 ·have e:i=xs.length:=by lia
  subst e
  exact .inl ⟨⟨xs,q,c7 _⟩,hd σ H p⟩
theorem sq {lo:Int} {n:Nat} {g:TG} {tb:TS} {D:nY} {σ:St} {H:Hp} (Pv:Nat->St->Hp->Prop) (h0:Pv 0 σ H)
  (hs:∀i σ H,i<n->Pv i σ H->g (.int (lo+i)) σ H fun σ2 H2=>tb {D with nx:=Pv (i+ 1),ct:=Pv (i+ 1),bk:=D.nx} σ2 H2) (hd:∀σ H,Pv n σ H->D.nx σ H):
  ∃W:Nat->Nat->St->Hp->Prop,(∃m,W 0 m σ H)/\∀i m σ H,W i m σ H->
   ((Itr lo n).stop i H/\D.nx σ H)\/((Itr lo n).go i H/\∃N:St->Hp->Prop,(∀σ' H',N σ' H'->∃m',m'<m/\W (i+ 1) m' σ' H')/\∀x H',(Itr lo n).yld i H x H'->g x σ H' fun σ2 H2=>tb {D with nx:=N,ct:=N,bk:=D.nx} σ2 H2):=by
 refine⟨fun i m σ H=>m=n-i/\i<=n/\Pv i σ H,⟨n,by simp,c8 _,h0⟩,?_⟩
 rintro i m σ H ⟨rfl,hi,p⟩
 by_cases hlt:i<n
 ·refine .inr ⟨hlt,Pv (i+ 1),fun σ' H' p'=>⟨n-(i+ 1),by lia,rfl,hlt,p'⟩,fun x H' y=>?_⟩
  obtain⟨e,y⟩:=y
  subst e y
  exact hs i σ _ hlt p
 ·have e:i=n:=by lia
  subst e
  exact .inl ⟨c7 _,hd σ H p⟩
abbrev R2:=V->V->Hp->VK->Prop
def OpR (X:Cx) (f:Value->Value->Sem Value) (r:R2):Prop:=
 ∀(pins:List (Addr×Obj)) (s:Shared) (σ:St) (H:Hp) (x y:V) (v u:Value) (Q:VK),Inv X pins σ H s->jq x v->jq y u->r x y H Q->
  wpAny (model X.prog X.w) X.A (f v u) (EP X pins σ Q) X.xe s
def mf (X:Cx) (f:Value) (r:List V->Hp->VK->Prop):Prop:=
 ∀(pins:List (Addr×Obj)) (s:Shared) (σ:St) (H:Hp) (xs:List V) (us:List Value) (Q:VK),Inv X pins σ H s->iV xs us->r xs H Q->
  wpAny (model X.prog X.w) X.A (call f us) (EP X pins σ Q) X.xe s
def tOp (r:R2) (ta tb:TE):TE:=fun σ H Q=>ta σ H fun x H1=>tb σ H1 fun y H2=>r x y H2 Q
def rI (C:Int->Int->Prop) (g:Int->Int->V):R2:=fun x y H Q=>∃i j,x= .int i/\y= .int j/\C i j/\Q (g i j) H
def rI0 (g:Int->Int->V):R2:=fun x y H Q=>∃i j,x= .int i/\y= .int j/\Q (g i j) H
section
variable {X:Cx} {a b c:Expr} {ta tb tc:TE} {pos:Pos}
theorem FO (ha:PE X a ta) (hb:PE X b tb) {pins:List (Addr×Obj)} {s:Shared} {σ:St} {H:Hp} {R:V->V->Hp->Prop} (I:Inv X pins σ H s)
  (h:ta σ H fun x H1=>tb σ H1 fun y H2=>R x y H2) {Q:Value->Shared->Prop} {f:Value->Value->Sem Value}
  (hf:∀v u s2 x y H2,Inv X pins σ H2 s2->jq x v->jq y u->R x y H2->wpAny (model X.prog X.w) X.A (f v u) Q X.xe s2):
  wpAny (model X.prog X.w) X.A (eval a X.env) (fun v s₁=>wpAny (model X.prog X.w) X.A (eval b X.env) (fun u s₂=>wpAny (model X.prog X.w) X.A (f v u) Q X.xe s₂) X.xe s₁) X.xe s:=by
 refine thn (ha pins s σ H _ I h) fun v s1 ⟨x,H1,I1,r1,q1⟩=>?_
 refine thn (hb pins s1 σ H1 _ I1 q1) fun u s2 ⟨y,H2,I2,r2,q2⟩=>?_
 exact hf v u s2 x y H2 I2 r1 r2 q2
theorem gY {op:Operator} {r:R2} (ho:OpR X (binaryOp op) r) (ha:PE X a ta) (hb:PE X b tb):PE X (.BinOp a op b pos) (tOp r ta tb):=by
 intro pins s σ H Q I h
 exact wpAny_BinOp (FO ha hb I h fun v u s2 x y H2 I2 rx ry q=>ho pins s2 σ H2 x y v u Q I2 rx ry q)
theorem opI {f:Value->Value->Sem Value} {C:Int->Int->Prop} {g:Int->Int->Int}
  (rule:∀(i j:Int) (t u:Tok) (s:Shared) (Q:Value->Shared->Prop) (E:Value->Shared->Prop),C i j->Q (.int (g i j) s.toks) {s with toks:=s.toks+ 1}->wpAny (model X.prog X.w) X.A (f (.int i t) (.int j u)) Q E s):
  OpR X f (rI C fun i j=> .int (g i j)):=by
 intro pins s σ H x y v u Q I rx ry h
 obtain⟨i,j,rfl,rfl,hc,q⟩:=h
 obtain⟨t,rfl⟩:=rx
 obtain⟨t',rfl⟩:=ry
 exact rule i j t t' s _ _ hc ⟨.int (g i j),H,I.tok _,⟨_,rfl⟩,q⟩
theorem GQ {f:Value->Value->Sem Value} {g:Int->Int->Int}
  (rule:∀(i j:Int) (t u:Tok) (s:Shared) (Q:Value->Shared->Prop) (E:Value->Shared->Prop),Q (.int (g i j) s.toks) {s with toks:=s.toks+ 1}->wpAny (model X.prog X.w) X.A (f (.int i t) (.int j u)) Q E s):
  OpR X f (rI0 fun i j=> .int (g i j)):=by
 intro pins s σ H x y v u Q I rx ry h
 obtain⟨i,j,rfl,rfl,q⟩:=h
 obtain⟨t,rfl⟩:=rx
 obtain⟨t',rfl⟩:=ry
 exact rule i j t t' s _ _ ⟨.int (g i j),H,I.tok _,⟨_,rfl⟩,q⟩
theorem FP {f:Value->Value->Sem Value} {g:Int->Int->Bool}
  (rule:∀(i j:Int) (t u:Tok) (s:Shared) (Q:Value->Shared->Prop) (E:Value->Shared->Prop),Q (.bool (g i j)) s->wpAny (model X.prog X.w) X.A (f (.int i t) (.int j u)) Q E s):
  OpR X f (rI0 fun i j=> .bl (g i j)):=by
 intro pins s σ H x y v u Q I rx ry h
 obtain⟨i,j,rfl,rfl,q⟩:=h
 obtain⟨t,rfl⟩:=rx
 obtain⟨t',rfl⟩:=ry
 exact rule i j t t' s _ _ ⟨.bl (g i j),H,I,rfl,q⟩
def GS (i j:Int):Prop:=0<j/\j<1073741824
def GU (i j:Int):Prop:=0<=j/\j<=1000000/\i.natAbs<2^64
def Fv (i j:Int):Prop:=(-(2^64)<i/\i<2^64)\/(-(2^64)<j/\j<2^64)
theorem Fv.ok {i j:Int} (h:Fv i j):IntMulOk i j:=by
 rcases h with⟨h1,h2⟩|⟨h1,h2⟩
 ·exact .of_left (intBits_le_64 h1 h2)
 ·exact .of_right (intBits_le_64 h1 h2)
theorem AX:OpR X (binaryOp .Add) (rI0 fun i j=> .int (i+j)):=GQ fun _ _ _ _ _ _ _ q=>add_int q
theorem DF:OpR X (binaryOp .Sub) (rI0 fun i j=> .int (i-j)):=GQ fun _ _ _ _ _ _ _ q=>sub_int q
theorem DG:OpR X (binaryOp .Mult) (rI Fv fun i j=> .int (i*j)):=opI fun _ _ _ _ _ _ _ hc q=>mul_int q hc.ok
theorem BE:OpR X (binaryOp .FloorDiv) (rI GS fun i j=> .int (i/j)):=opI fun i j _ _ _ _ _ hc q=>by
 have h1:(0:Int)<j:=hc.1
 have h2:j<1073741824:=hc.2
 exact floordiv_int (by lia) (by rw[Int.fdiv_eq_ediv_of_nonneg i (by lia)];exact q) (.inl (PyProof.noPylong_small (by lia)))
theorem DH:OpR X (binaryOp .Mod) (rI (fun _ j=>0<j) fun i j=> .int (i%j)):=opI fun i j _ _ _ _ _ hc q=>by
 have h1:(0:Int)<j:=hc
 exact mod_int' (by lia) (by rw[Int.fmod_eq_emod_of_nonneg i (by lia)];exact q)
theorem DI:OpR X (binaryOp .Pow) (rI GU fun i j=> .int (i^j.toNat)):=opI fun _ _ _ _ _ _ _ hc q=>pow_int_small hc.1 hc.2.1 hc.2.2 q
end
def GV:V->V->Bool
 | .non,.non=>true| .non,.int _=>true| .int _,.non=>true| .non,.bl _=>true| .bl _,.non=>true| .non,.str _=>true| .str _,.non=>true
 | .int _,.int _=>true| .bl _,.bl _=>true| .str _,.str _=>true| .byt _,.byt _=>true
 | .int _,.str _=>true| .str _,.int _=>true| .bl _,.str _=>true| .str _,.bl _=>true
 |_,_=>false
def rEq:R2:=fun x y H Q=>GV x y=true/\Q (.bl (decide (x=y))) H
def rNe:R2:=fun x y H Q=>GV x y=true/\Q (.bl (!decide (x=y))) H
theorem xE {i j:Int}:decide (V.int i=V.int j)=(i==j):=by
 rw[fO]
 simp
theorem AY {i j:Bool}:decide (V.bl i=V.bl j)=(i==j):=by
 rw[fO]
 simp
theorem xF {i j:Str}:decide (V.str i=V.str j)=(i==j):=by
 rw[fO]
 simp
theorem xG {i j:Array UInt8}:decide (V.byt i=V.byt j)=(i.toList==j.toList):=by
 rw[fO]
 cases i
 cases j
 simp
section
variable {X:Cx} {a b c:Expr} {ta tb tc:TE} {pos:Pos}
theorem iP {pins:List (Addr×Obj)} {σ:St} {H:Hp} {s:Shared} {Q:VK} {k k':Bool} (I:Inv X pins σ H s) (q:Q (.bl k) H) (e:k=k'):EP X pins σ Q (.bool k') s:=by
 subst e
 exact⟨.bl k,H,I,rfl,q⟩
theorem qQ:OpR X (compareOp .Eq) rEq:=by
 intro pins s σ H x y v u Q I rx ry h
 obtain⟨hs,q⟩:=h
 cases x with
 |non=>
  cases rx
  cases y with
  |non=>cases ry;exact PySem.EqNone.eq_none_none (iP I q (by simp))
  |bl j=>cases ry;exact PySem.EqNone.eq_none_bool (iP I q (by simp))
  |int j=>obtain⟨t',rfl⟩:=ry;exact PySem.EqNone.eq_none_int (iP I q (by simp))
  |str j=>obtain⟨t',rfl⟩:=ry;exact PySem.EqNone.eq_none_str (iP I q (by simp))
  |_=>exact absurd (show false=true from hs) fN
 |bl i=>
  cases rx
  cases y with
  |non=>cases ry;exact PySem.EqNone.eq_bool_none (iP I q (by simp))
  |bl j=>cases ry;exact eq_bool (iP I q AY)
  |str j=>obtain⟨t',rfl⟩:=ry;exact PySem.EqMixed.eq_bool_str (iP I q (by simp))
  |_=>exact absurd (show false=true from hs) fN
 |int i=>
  obtain⟨t,rfl⟩:=rx
  cases y with
  |non=>cases ry;exact PySem.EqNone.eq_int_none (iP I q (by simp))
  |int j=>obtain⟨t',rfl⟩:=ry;exact eq_int (iP I q xE)
  |str j=>obtain⟨t',rfl⟩:=ry;exact PySem.EqMixed.eq_int_str (iP I q (by simp))
  |_=>exact absurd (show false=true from hs) fN
 |str i=>
  obtain⟨t,rfl⟩:=rx
  cases y with
  |non=>cases ry;exact PySem.EqNone.eq_str_none (iP I q (by simp))
  |bl j=>cases ry;exact PySem.EqMixed.eq_str_bool (iP I q (by simp))
  |int j=>obtain⟨t',rfl⟩:=ry;exact PySem.EqMixed.eq_str_int (iP I q (by simp))
  |str j=>obtain⟨t',rfl⟩:=ry;exact eq_str (iP I q xF)
  |_=>exact absurd (show false=true from hs) fN
 |byt i=>
  obtain⟨t,rfl⟩:=rx
  cases y with
  |byt j=>obtain⟨t',rfl⟩:=ry;exact PySem.W.eq_bytes (iP I q xG)
  |_=>exact absurd (show false=true from hs) fN
 |_=>cases y<;>exact absurd (show false=true from hs) fN
theorem m5:OpR X (compareOp .NotEq) rNe:=by
 intro pins s σ H x y v u Q I rx ry h
 obtain⟨hs,q⟩:=h
 cases x with
 |non=>
  cases rx
  cases y with
  |non=>cases ry;exact PySem.EqNone.ne_none_none (iP I q (by simp))
  |bl j=>cases ry;exact PySem.EqNone.ne_none_bool (iP I q (by simp))
  |int j=>obtain⟨t',rfl⟩:=ry;exact PySem.EqNone.ne_none_int (iP I q (by simp))
  |str j=>obtain⟨t',rfl⟩:=ry;exact PySem.EqNone.ne_none_str (iP I q (by simp))
  |_=>exact absurd (show false=true from hs) fN
 |bl i=>
  cases rx
  cases y with
  |non=>cases ry;exact PySem.EqNone.ne_bool_none (iP I q (by simp))
  |bl j=>cases ry;exact ne_bool (iP I q (congrArg not AY))
  |str j=>obtain⟨t',rfl⟩:=ry;exact PySem.EqMixed.ne_bool_str (iP I q (by simp))
  |_=>exact absurd (show false=true from hs) fN
 |int i=>
  obtain⟨t,rfl⟩:=rx
  cases y with
  |non=>cases ry;exact PySem.EqNone.ne_int_none (iP I q (by simp))
  |int j=>obtain⟨t',rfl⟩:=ry;exact ne_int (iP I q (congrArg not xE))
  |str j=>obtain⟨t',rfl⟩:=ry;exact PySem.EqMixed.ne_int_str (iP I q (by simp))
  |_=>exact absurd (show false=true from hs) fN
 |str i=>
  obtain⟨t,rfl⟩:=rx
  cases y with
  |non=>cases ry;exact PySem.EqNone.ne_str_none (iP I q (by simp))
  |bl j=>cases ry;exact PySem.EqMixed.ne_str_bool (iP I q (by simp))
  |int j=>obtain⟨t',rfl⟩:=ry;exact PySem.EqMixed.ne_str_int (iP I q (by simp))
  |str j=>obtain⟨t',rfl⟩:=ry;exact ne_str (iP I q (congrArg not xF))
  |_=>exact absurd (show false=true from hs) fN
 |byt i=>
  obtain⟨t,rfl⟩:=rx
  cases y with
  |byt j=>obtain⟨t',rfl⟩:=ry;exact PySem.W.ne_bytes (iP I q (congrArg not xG))
  |_=>exact absurd (show false=true from hs) fN
 |_=>cases y<;>exact absurd (show false=true from hs) fN
theorem FQ:OpR X (compareOp .Lt) (rI0 fun i j=> .bl (decide (i<j))):=FP fun _ _ _ _ _ _ _ q=>lt_int q
theorem wo:OpR X (compareOp .LtE) (rI0 fun i j=> .bl (decide (i<=j))):=FP fun _ _ _ _ _ _ _ q=>le_int q
theorem BF:OpR X (compareOp .Gt) (rI0 fun i j=> .bl (decide (j<i))):=FP fun _ _ _ _ _ _ _ q=>gt_int q
theorem sr:OpR X (compareOp .In) (fun x y H Q=>∃i j,x= .str i/\y= .str j/\Q (.bl (!(Builtin.Str.occurrences j i 0 j.length 1).isEmpty)) H):=by
 intro pins s σ H x y v u Q I rx ry h
 obtain⟨i,j,rfl,rfl,q⟩:=h
 obtain⟨t,rfl⟩:=rx
 obtain⟨t',rfl⟩:=ry
 exact in_str (iP I q rfl)
theorem ic (b:Expr) {op:CmpOp} (h:autoParam (op≠ .In) L2.Internal.auD._auto_1) (h2:autoParam (op≠ .NotIn) L2.Internal.auD._auto_1):behindInMarks op b=false:=by
 have e1:(op==CmpOp.In)=false:=by cases op<;>first|rfl|exact absurd rfl h
 have e2:(op==CmpOp.NotIn)=false:=by cases op<;>first|rfl|exact absurd rfl h2
 cases b<;>simp[behindInMarks,e1,e2]
theorem lX {op:CmpOp} {r:R2} (ho:OpR X (compareOp op) r) (ha:PE X a ta) (hb:PE X b tb) (hm:behindInMarks op b=false):PE X (.Compare a [op] [b] pos) (tOp r ta tb):=by
 intro pins s σ H Q I h
 exact wpAny_Compare1 (FO ha hb I h fun v u s2 x y H2 I2 rx ry q=>ho pins s2 σ H2 x y v u Q I2 rx ry q) hm
def DJ (t:TE):TT:=fun σ H Q=>t σ H fun x H'=>∃k,x= .bl k/\Q k H'
theorem ju {op:CmpOp} {r:R2} (ho:OpR X (compareOp op) r) (ha:PE X a ta) (hb:PE X b tb) (hm:behindInMarks op b=false):PT X (.Compare a [op] [b] pos) (DJ (tOp r ta tb)):=by
 intro pins s σ H Q I h
 refine wpAny_isTrue_Compare1 (thn (ha pins s σ H _ I h) fun v s1 ⟨x,H1,I1,r1,q1⟩=>thn (hb pins s1 σ H1 _ I1 q1) fun u s2 ⟨y,H2,I2,r2,q2⟩=>
  thn (ho pins s2 σ H2 x y v u _ I2 r1 r2 q2) fun c s3 ⟨z,H3,I3,r3,k,e,q3⟩=>?_) hm
 subst e
 cases r3
 exact wpAny_truthy_bool ⟨H3,I3,q3⟩
def DM (r r':R2) (ta tb tc:TE):TE:=fun σ H Q=>ta σ H fun x H1=>tb σ H1 fun y H2=>r x y H2 fun z H3=>∃k,z= .bl k/\
 (if k=true then tc σ H3 fun w' H4=>r' y w' H4 Q else Q (.bl false) H3)
theorem qR {op op':CmpOp} {r r':R2} (ho:OpR X (compareOp op) r) (ho':OpR X (compareOp op') r') (ha:PE X a ta) (hb:PE X b tb) (hc:PE X c tc)
  (hm:lastMarks [op,op'] [b,c]=false:=by with_unfolding_all rfl):PT X (.Compare a [op,op'] [b,c] pos) (DJ (DM r r' ta tb tc)):=by
 intro pins s σ H Q I h
 refine isTrue_chain (thn (ha pins s σ H _ I h) fun v s1 ⟨x,H1,I1,r1,q1⟩=>test_link (thn (hb pins s1 σ H1 _ I1 q1) fun u s2 ⟨y,H2,I2,r2,q2⟩=>
  thn (ho pins s2 σ H2 x y v u _ I2 r1 r2 q2) fun d s3 ⟨z,H3,I3,r3,k,e,q3⟩=>?_)) hm
 subst e
 cases r3
 refine wpAny_truthy_bool ?_
 cases k with
 |false=>
  obtain⟨k',e',q'⟩:=q3
  cases e'
  exact ite_ff ⟨H3,I3,q'⟩
 |true=>
  refine ite_tt (test_last (thn (hc pins s3 σ H3 _ I3 q3) fun w' s4 ⟨z',H4,I4,r4,q4⟩=>thn (ho' pins s4 σ H4 y z' u w' _ I4 r2 r4 q4) fun d' s5 ⟨z2,H5,I5,r5,k2,e2,q5⟩=>?_))
  subst e2
  cases r5
  exact wpAny_truthy_bool ⟨H5,I5,q5⟩
theorem qo:(sizeLine:Nat)<2^63:=by rw[sizeLine_eq];decide
theorem qp:OpR X (binaryOp .Add) (fun x y H Q=>∃i j,x= .str i/\y= .str j/\i.length+j.length<=sizeLine/\Q (.str (i++j)) H):=by
 intro pins s σ H x y v u Q I rx ry h
 obtain⟨i,j,rfl,rfl,hz,q⟩:=h
 obtain⟨t,rfl⟩:=rx
 obtain⟨t',rfl⟩:=ry
 exact add_str (fun t' tk=>⟨.str (i++j),H,I.tok _,⟨_,rfl⟩,q⟩) hz
theorem mj {x:V} {us:List Value} (r:iV [x] us):∃u,us=[u]/\jq x u:=by
 cases r with
 |cons r1 r2=>cases r2;exact⟨_,rfl,r1⟩
theorem xH {x y:V} {us:List Value} (r:iV [x,y] us):∃u w',us=[u,w']/\jq x u/\jq y w':=by
 cases r with
 |cons r1 r2=>
  cases r2 with
  |cons r3 r4=>cases r4;exact⟨_,_,rfl,r1,r3⟩
theorem xI (hc:X.calm=true):mf X (.builtin "max") (fun xs H Q=>∃i j,xs=[.int i,.int j]/\Q (.int (if j>i then j else i)) H):=by
 intro pins s σ H xs us Q I r h
 obtain⟨i,j,rfl,q⟩:=h
 obtain⟨u,w',rfl,⟨t,rfl⟩,⟨t',rfl⟩⟩:=xH r
 refine max_two_ints (I.ok.hd hc) fun h' tk k=>⟨_,H,I.kept k,?_,q⟩
 by_cases hj:j>i
 ·rw[if_pos hj,if_pos hj];exact⟨_,rfl⟩
 ·rw[if_neg hj,if_neg hj];exact⟨_,rfl⟩
theorem xJ (hc:X.calm=true):mf X (.builtin "min") (fun xs H Q=>∃i j,xs=[.int i,.int j]/\Q (.int (if j<i then j else i)) H):=by
 intro pins s σ H xs us Q I r h
 obtain⟨i,j,rfl,q⟩:=h
 obtain⟨u,w',rfl,⟨t,rfl⟩,⟨t',rfl⟩⟩:=xH r
 refine min_two_ints (I.ok.hd hc) fun h' tk k=>⟨_,H,I.kept k,?_,q⟩
 by_cases hj:j<i
 ·rw[if_pos hj,if_pos hj];exact⟨_,rfl⟩
 ·rw[if_neg hj,if_neg hj];exact⟨_,rfl⟩
theorem xK:mf X (.type "int") (fun xs H Q=>(∃i,xs=[.int i]/\Q (.int i) H)\/∃k,xs=[.bl k]/\Q (.int (if k then 1 else 0)) H):=by
 intro pins s σ H xs us Q I r h
 rcases h with⟨i,rfl,q⟩|⟨k,rfl,q⟩
 ·obtain⟨u,rfl,t,rfl⟩:=mj r
  exact call_int_int ⟨.int i,H,I,⟨_,rfl⟩,q⟩
 ·obtain⟨u,rfl,r1⟩:=mj r
  cases r1
  exact call_int_bool ⟨.int (if k then 1 else 0),H,I.tok _,⟨_,rfl⟩,q⟩
theorem su:mf X (.type "str") (fun xs H Q=>∃i,xs=[.int i]/\i.natAbs.log2<1920/\Q (.str (toString i)) H):=by
 intro pins s σ H xs us Q I r h
 obtain⟨i,rfl,hz,q⟩:=h
 obtain⟨u,rfl,t,rfl⟩:=mj r
 exact PySem.P.str_of_int hz ⟨.str _,H,I.tok _,⟨_,rfl⟩,q⟩
end
structure BG (h:Heap) (x dx C:Addr) (mA:Str->Option Value):Prop where
 obj:h.get? x=some (dG C dx)
 ns:h.Ns1 dx mA
 ne:dx≠x
theorem xM {h:Heap} {dx:Addr} {mA:Str->Option Value} (n:h.Ns1 dx mA):∃od,h.get? dx=some od/\∀name,dO name od=some (mA name):=by
 obtain⟨o,es,ep,ho,hd,hk,_,hm⟩:=n
 refine⟨o,ho,fun name=>?_⟩
 have e:=hm name
 unfold nsFind findBy at e
 rw[<-Array.find?_toList]at e
 unfold dO
 rw[hd]
 dsimp only
 split
 ·rename_i y q
  rw[q]at e
  exact congrArg some e
 ·rename_i q
  rw[q]at e
  have a:es.toList.any (·.refKey)=false:=by
   rw[List.any_eq_false]
   intro y hy
   obtain⟨z,t,hkey⟩:=hk y (Array.mem_toList_iff.mp hy)
   simp[DictEntry.refKey,hkey]
  have a':¬es.toList.any (·.refKey)=true:=by rw[a];exact fN
  rw[if_neg a']
  exact congrArg some e
theorem BG.look {h:Heap} {x dx C:Addr} {mA:Str->Option Value} (I:BG h x dx C mA):∃od,PySem.W.InstAt h x (dG C dx) C (some od)/\∀name,dO name od=some (mA name):=
 let⟨od,ho,hl⟩:=xM I.ns
 ⟨od,⟨I.obj,rfl,rfl,ho⟩,hl⟩
section
variable {prog:Program} {w:World} {A:Around} {E:Value->Shared->Prop} {s:Shared} {K:PySem.W.Frag} {x dx C f:Addr} {mA:Str->Option Value} {name:Str} {v:Value}
theorem BH {expr:Bool} {Q:Value->Shared->Prop} (X:K.In s.heap) (I:BG s.heap x dx C mA) (hg:dP K C name=true) (hh:dQ K C=true)
  (ha:dR K (.ref C) name=some none) (hv:mA name=some v) (hv':dS v=true) (h:Q v {s with toks:=s.toks+ 1}):
  wpAny (model prog w) A (getAttr (.ref x) name expr) Q E s:=by
 obtain⟨od,J,hl⟩:=I.look
 exact PySem.W.get_value X J (dU hg).1 (PySem.W.findObj_own hh ha rfl (by rw[hl,hv])) hv' h
theorem zG {pl:Sem Bool} {Q:Value×List Value->Shared->Prop} (X:K.In s.heap) (I:BG s.heap x dx C mA) (hg:dP K C name=true)
  (hf:dR K (.ref C) name=some (some (.ref f))) (ht:dW K (.ref f)=true) (hv:mA name=none) (h:Q (.ref f,[.ref x]) s):
  wpAny (model prog w) A (getMethod (.ref x) name pl) Q E s:=by
 obtain⟨od,J,hl⟩:=I.look
 exact PySem.W.method_fn X J (dU hg).1 (dU hg).2 hf (beq_iff_eq.mp ht) (by show(dO name od).map (·.isSome)=some false;rw[hl,hv];rfl) h
theorem BI {ns:List Str} {Q:Unit->Shared->Prop} (X:K.In s.heap) (I:BG s.heap x dx C mA)
  (hs:dR K (.ref C) "__setattr__"=some (some (.builtin "object.__setattr__"))) (hp:dX K C=true) (ht:dY K C name=some none) (hh:dQ K C=true)
  (hw:PySem.Within mA ns) (hsz:ns.length<=sizeLine)
  (h:∀h',BG h' x dx C (fun y=>if y=name then some v else mA y)->Heap.SameBut dx s.heap h'->Q () {s with heap:=h',toks:=s.toks+ 2}):
  wpAny (model prog w) A (setAttr (.ref x) name v) Q E s:=by
 obtain⟨od,J,hl⟩:=I.look
 refine PySem.W.set_plain X J hs (PySem.W.osa_open (s:={s with toks:=s.toks+ 1}) (r:=none) X J hp ht fun b=>?_)
 obtain⟨cd,hc,hd'⟩:=dZ hh
 have hx:s.heap.get? x=some ⟨.ref C,some dx,.plain,#[]⟩:=I.obj
 refine wpAny_bind (wpAny_pure (wpAny_bind (wpAny_bind (wpAny_loadPart hx (wpAny_bind (PySem.W.Looks.here (s:={s with toks:=s.toks+ 1}) (d6 X hc) ?_))))))
 rw[hd']
 refine wpAny_pure (a:=some dx) (wpAny_bind (wpAny_pure (wpAny_bind ?_)))
 refine wpAny_nsSet1 (s:={s with toks:=s.toks+ 1}) I.ns fun h' hn2 hs2=>?_
 obtain⟨oD,esD,epD,hoD,hdD,hcD⟩:=hn2.count (PySem.Within.cons name v hw)
 refine wpAny_bind (wpAny_lookBehind hoD (by rw[hdD];exact pastItsLine_dict (cX hcD (by rw[aA];lia))) ?_)
 exact wpAny_pure (h _ ⟨(hs2.2 _ (Ne.symm I.ne)).trans I.obj,hn2,I.ne⟩ hs2)
theorem zH {R:Result->Shared->Prop} {vs:List Value} {kw:List (Str×Value)} (X:K.In s.heap) (hm:d7 K C=true)
  (hi:dR K (.ref C) "__init__"=some (some (.ref f))) (hf:PySem.W.typeIn K (.ref f)=some (.type "function"))
  (h:codeAny (model prog w) (A.under (.builtin "type.__call__" ⟨.ref C::vs,kw⟩)) (.call (.ref f) ⟨.ref (s.heap.objs.size+ 1)::vs,kw⟩) (PySem.W.InitBack (s.heap.objs.size+ 1) R)
   {s with heap:=(s.heap.push d9).push (dG C s.heap.objs.size)}):
  codeAny (model prog w) A (.call (.ref C) ⟨vs,kw⟩) R s:=by
 obtain⟨hh,g,d,t,os⟩:=s
 exact PySem.W.make_core (PySem.W.makes_of X hm) (eg X hi) (fun self=>PySem.W.bind_fn X self hf) (.inl rfl) h
end
def nZ (f:Str) (v:V):List (Str×V)->List (Str×V)
 |[]=>[(f,v)]
 |(g,x)::r=>if g=f then(g,v)::r else(g,x)::nZ f v r
theorem oU (f g:Str) (v:V):∀fs:List (Str×V),(nZ f v fs).lookup g=if g=f then some v else fs.lookup g
 |[]=>by
  show aB g [(f,v)]=_
  by_cases h:g=f
  ·have hb:(g==f)=true:=beq_iff_eq.mpr h
   simp only[aB,hb,if_pos h]
  ·have hb:(g==f)=false:=beq_eq_false_iff_ne.mpr h
   simp only[aB,hb,if_neg h]
 |(k,x)::r=>by
  have ih:=oU f g v r
  rw[show nZ f v ((k,x)::r)=(if k=f then(k,v)::r else(k,x)::nZ f v r)from rfl]
  by_cases hk:k=f
  ·rw[if_pos hk]
   by_cases h:g=k
   ·have hb:(g==k)=true:=beq_iff_eq.mpr h
    simp only[aB,hb,if_pos (h.trans hk)]
   ·have hb:(g==k)=false:=beq_eq_false_iff_ne.mpr h
    simp only[aB,hb,if_neg (fun e:g=f=>h (e.trans hk.symm))]
  ·rw[if_neg hk]
   by_cases h:g=k
   ·have hb:(g==k)=true:=beq_iff_eq.mpr h
    simp only[aB,hb,if_neg (fun e:g=f=>hk (h.symm.trans e))]
   ·have hb:(g==k)=false:=beq_eq_false_iff_ne.mpr h
    simp only[aB,hb]
    exact ih
theorem oV (f:Str) (v:V):∀fs:List (Str×V),f∈(nZ f v fs).map (·.1)/\∀g,g∈fs.map (·.1)->g∈(nZ f v fs).map (·.1)
 |[]=>⟨by simp[nZ],fun g h=>by simp at h⟩
 |(k,x)::r=>by
  obtain⟨i1,i2⟩:=oV f v r
  rw[show nZ f v ((k,x)::r)=(if k=f then(k,v)::r else(k,x)::nZ f v r)from rfl]
  by_cases hk:k=f
  ·rw[if_pos hk]
   subst hk
   exact⟨by simp,fun g h=>by simpa using h⟩
  ·rw[if_neg hk]
   refine⟨?_,fun g h=>?_⟩
   ·rw[aC]
    exact ai _ i1
   ·rw[aC]at h⊢
    rcases aj.mp h with e|e
    ·exact aj.mpr (.inl e)
    ·exact ai _ (i2 g e)
theorem oW (f:Str) (v:V):∀fs:List (Str×V),(nZ f v fs).length<=fs.length+ 1
 |[]=>by simp[nZ]
 |(k,x)::r=>by
  have ih:=oW f v r
  rw[show nZ f v ((k,x)::r)=(if k=f then(k,v)::r else(k,x)::nZ f v r)from rfl]
  by_cases hk:k=f
  ·rw[if_pos hk,aA,aA];lia
  ·rw[if_neg hk,aA,aA];lia
theorem qk.some_of {v:V} {o:Option Value} (r:qk (some v) o):∃u,o=some u/\jq v u:=by
 cases o with
 |none=>exact(show False from r).elim
 |some u=>exact⟨u,rfl,r⟩
theorem qk.none_of {o:Option Value} (r:qk none o):o=none:=by
 cases o with
 |none=>rfl
 |some u=>exact(show False from r).elim
theorem sv {v:V} {u:Value} (r:jq v u):dS u=true:=by
 cases v with
 |non=>cases(show u=Value.none from r);rfl
 |bl b=>cases(show u=Value.bool b from r);rfl
 |int i=>obtain⟨t,e⟩:=(show ∃t,u=Value.int i t from r);cases e;rfl
 |str x=>obtain⟨t,e⟩:=(show ∃t,u=Value.str x t from r);cases e;rfl
 |byt b=>obtain⟨t,e⟩:=(show ∃t,u=Value.bytes b t from r);cases e;rfl
 |flt b=>obtain⟨t,e⟩:=(show ∃t,u=Value.float b t from r);cases e;rfl
 |ref a=>cases(show u=Value.ref a from r);rfl
 |ty n=>cases(show u=Value.type n from r);rfl
section
variable {P:Program} {w:World} {H H':Hp} {h h':Heap} {a C dx:Addr} {fs fs':List (Str×V)}
theorem qS (hok:HOk P w H h) (e:H a=some (.ins C dx fs)):∃mA,BG h a dx C mA/\(∀f,qk (fs.lookup f) (mA f))/\PySem.Within mA (fs.map (·.1))/\fs.length<=1000/\H dx=some (.own a):=by
 obtain⟨d,z,ne,ob,mA,n,r,q⟩:=(show jd P w H h a (.ins C dx fs)from hok a _ e)
 exact⟨mA,⟨ob,n,ne⟩,r,q,z,d⟩
end
structure Cls (K:PySem.W.Frag) (C:Addr):Prop where
 pg:dP K C Str.empty=true
 hd:dQ K C=true
 po:dX K C=true
 sa:dR K (.ref C) "__setattr__"=some (some (.builtin "object.__setattr__"))
theorem Cls.get {K:PySem.W.Frag} {C:Addr} (c:Cls K C) (f:Str):dP K C f=true:=c.pg
def lP (K:PySem.W.Frag) (C:Addr) (f:Str):Prop:=dR K (.ref C) f=some none
theorem lP.taker {K:PySem.W.Frag} {C:Addr} {f:Str} (n:lP K C f):dY K C f=some none:=by
 unfold dY
 rw[show dR K (.ref C) f=some none from n]
 rfl
structure Con (K:PySem.W.Frag) (C:Addr) (f:Str) (v:V) (u:Value):Prop where
 at_:dR K (.ref C) f=some (some u)
 rel:jq v u
 get:eu K u "__get__"=some none
 cp:PySem.W.copiedNames.contains f=false
structure vj (K:PySem.W.Frag) (C:Addr) (m:Str) (f:Addr):Prop where
 at_:dR K (.ref C) m=some (some (.ref f))
 fn:dW K (.ref f)=true
 kp:eA K (.ref f)=true
section
variable {X:Cx} {pins:List (Addr×Obj)} {σ:St} {H:Hp} {s:Shared} {a C dx:Addr} {fs:List (Str×V)} {f:Str} {v:V} {A:Around} {E:Value->Shared->Prop}
theorem qq {b:Bool} {Q:Value->Shared->Prop} (I:Inv X pins σ H s) (e:H a=some (.ins C dx fs)) (c:Cls X.K C) (n:lP X.K C f) (l:fs.lookup f=some v)
  (h:∀u s',Inv X pins σ H s'->jq v u->Q u s'):wpAny (model X.prog X.w) A (getAttr (.ref a) f b) Q E s:=by
 obtain⟨mA,O,r,_,_,_⟩:=qS I.hok e
 obtain⟨u,hu,ru⟩:=qk.some_of (v:=v) (o:=mA f) (by rw[<-l];exact r f)
 exact BH I.kIn O (c.get f) c.hd n hu (sv ru) (h u _ (I.tok _) ru)
theorem qr {m:Str} {g:Addr} {pl:Sem Bool} {Q:Value×List Value->Shared->Prop} (I:Inv X pins σ H s) (e:H a=some (.ins C dx fs)) (c:Cls X.K C) (k:vj X.K C m g) (l:fs.lookup m=none)
  (h:Q (.ref g,[.ref a]) s):wpAny (model X.prog X.w) A (getMethod (.ref a) m pl) Q E s:=by
 obtain⟨mA,O,r,_,_,_⟩:=qS I.hok e
 have hn:mA m=none:=qk.none_of (by rw[<-l];exact r m)
 exact zG I.kIn O (c.get m) k.at_ k.fn hn h
theorem qt {y:V} {u:Value} {Q:Unit->Shared->Prop} (I:Inv X pins σ H s) (e:H a=some (.ins C dx fs)) (c:Cls X.K C) (n:lP X.K C f) (hl:fs.length<1000) (ry:jq y u)
  (h:∀s',Inv X pins σ (upd H a (.ins C dx (nZ f y fs))) s'->Q () s'):wpAny (model X.prog X.w) A (setAttr (.ref a) f u) Q E s:=by
 obtain⟨mA,O,r,wi,_,ho⟩:=qS I.hok e
 have hz:(fs.map (·.1)).length<=sizeLine:=by rw[aD,sizeLine_eq];lia
 refine BI I.kIn O c.sa c.po n.taker c.hd wi hz fun h' O' sb=>h _ ?_
 have hd:∃o,h'.get? dx=some o:=let⟨o,_,_,e',_⟩:=O'.ns;⟨o,e'⟩
 refine I.write (x:=a) (e:=dx) (by rw[e];exact True.intro) (.inr ho) (fun b q hb z=>(sb.2 b hb).trans z) hd ?_
 refine⟨by rw[gM O.ne];exact ho,?_,O.ne,O'.obj,_,O'.ns,fun g=>?_,fun g hg=>?_⟩
 ·have:=oW f y fs;lia
 ·show qk ((nZ f y fs).lookup g) (if g=f then some u else mA g)
  rw[oU]
  by_cases q:g=f
  ·rw[if_pos q,if_pos q];exact ry
  ·rw[if_neg q,if_neg q];exact r g
 ·by_cases q:g=f
  ·rw[q];exact(oV f y fs).1
  ·refine(oV f y fs).2 g (wi g fun z=>hg ?_)
   show(if g=f then some u else mA g)=none
   rw[if_neg q];exact z
theorem Inv.made (I:Inv X pins σ H s):Inv X pins σ (upd (upd H s.heap.objs.size (.own (s.heap.objs.size+ 1))) (s.heap.objs.size+ 1) (.ins C s.heap.objs.size []))
  {s with heap:=(s.heap.push d9).push (dG C s.heap.objs.size)}:=by
 have e1:(s.heap.push d9).get? s.heap.objs.size=some d9:=gr s.heap rfl
 have e2:((s.heap.push d9).push (dG C s.heap.objs.size)).get? (s.heap.objs.size+ 1)=some (dG C s.heap.objs.size):=by
  have:=gr (s.heap.push d9) (o:=dG C s.heap.objs.size) rfl
  rwa[gw]at this
 have e3:(s.heap.push d9).Ns s.heap.objs.size (fun _=>none):=⟨d9,#[],_,e1,rfl,(fun e he=>absurd he (by simp)),fun _=>rfl⟩
 have I1:=I.laid (a:=s.heap.objs.size) (o:= .own (s.heap.objs.size+ 1)) (h':=s.heap.push d9) (t':=s.toks) (fun b u q=>gv _ q) (c7 _) ⟨_,e1⟩
 refine I1.laid (a:=s.heap.objs.size+ 1) (o:= .ins C s.heap.objs.size []) (t':=s.toks) (fun b u q=>gv _ q) (c9 (gw _ _)) ?_
 have ne:s.heap.objs.size≠s.heap.objs.size+ 1:=cW (da _)
 refine⟨by rw[gM ne,gE],c8 _,ne,e2,fun _=>none,(Heap.Ns1.of_empty e3).at fun o q=>gv _ q,fun _=>True.intro,fun y hy=>absurd rfl hy⟩
theorem xN {prog:Program} {w:World} {env:Env} {e:Expr} {f:Str} {pos:Pos} {s:Shared} {Q:Value->Shared->Prop} (hb:attributeBase e f env (eval e env)=eval e env)
  (h:wpAny (model prog w) A (eval e env) (fun o s₁=>wpAny (model prog w) A (getAttr o f true) Q E s₁) E s):wpAny (model prog w) A (eval (.Attribute e f pos) env) Q E s:=
 Attribute_any_ h (by rw[arm_eval_Attribute,hb])
end
def tFld (K:PySem.W.Frag) (ta:TE) (f:Str):TE:=fun σ H Q=>ta σ H fun x H1=>∃a C dx fs v,x= .ref a/\H1 a=some (.ins C dx fs)/\Cls K C/\lP K C f/\fs.lookup f=some v/\Q v H1
def sFld (K:PySem.W.Frag) (ta tv:TE) (f:Str):TS:=fun D σ H=>tv σ H fun y H1=>ta σ H1 fun x H2=>∃a C dx fs,x= .ref a/\H2 a=some (.ins C dx fs)/\Cls K C/\lP K C f/\fs.length<1000/\
 D.nx σ (upd H2 a (.ins C dx (nZ f y fs)))
def GW (X:Cx) (op:Operator) (rd:V->V->Hp->VK->Prop):Prop:=
 ∀(pins:List (Addr×Obj)) (s:Shared) (σ:St) (H:Hp) (x y:V) (u v:Value) (Q:VK),Inv X pins σ H s->jq x u->jq y v->rd x y H Q->wpAny (model X.prog X.w) X.A (inplaceOp op u v) (EP X pins σ Q) X.xe s
def BJ (K:PySem.W.Frag) (ta tv:TE) (rd:V->V->Hp->VK->Prop) (f:Str):TS:=fun D σ H=>ta σ H fun x H1=>∃a C dx fs v,x= .ref a/\H1 a=some (.ins C dx fs)/\Cls K C/\lP K C f/\fs.lookup f=some v/\
 tv σ H1 fun y H2=>rd v y H2 fun z H3=>∃dx' fs',H3 a=some (.ins C dx' fs')/\fs'.length<1000/\D.nx σ (upd H3 a (.ins C dx' (nZ f z fs')))
section
variable {X:Cx} {o e value:Expr} {f:Str} {pos pos' tpos:Pos} {ta tv:TE}
theorem nG (he:PE X e ta) (hb:attributeBase e f X.env (eval e X.env)=eval e X.env):PE X (.Attribute e f pos) (tFld X.K ta f):=by
 intro pins s σ H Q I h
 refine xN hb (thn (he pins s σ H _ I h) fun u s1 ⟨x,H1,I1,rx,a,C,dx,fs,v,ex,ea,c,n,l,q⟩=>?_)
 subst ex
 obtain rfl:u=Value.ref a:=rx
 exact qq I1 ea c n l fun u' s2 I2 ru=>⟨v,H1,I2,ru,q⟩
theorem qu (ha:PE X o ta) (hv:PE X value tv) (hs:swapsWith value (some (.Attribute o f pos')) pos.line X.env=pure false):PS X (.Assign [.Attribute o f pos'] value pos) (sFld X.K ta tv f):=by
 intro pins s σ H D I h
 refine plainObj_wpAny_Assign_Attribute (thn (hv pins s σ H _ I h) fun u s1 ⟨y,H1,I1,ry,q⟩=>thn (ha pins s1 σ H1 _ I1 q) fun ov s2 ⟨x,H2,I2,rx,a,C,dx,fs,ex,ea,c,n,l,q2⟩=>?_) hs
 subst ex
 obtain rfl:ov=Value.ref a:=rx
 exact qt I2 ea c n l ry fun s3 I3=>⟨σ,_,I3,q2⟩
theorem xO {op:Operator} {rd:V->V->Hp->VK->Prop} (ha:PE X o ta) (hv:PE X value tv) (hop:GW X op rd):PS X (.AugAssign (.Attribute o f tpos) op value pos) (BJ X.K ta tv rd f):=by
 intro pins s σ H D I h
 refine wpAny_AugAssign_AttributeAny (thn (ha pins s σ H _ I h) fun ov s1 ⟨x,H1,I1,rx,a,C,dx,fs,v,ex,ea,c,n,l,q⟩=>?_)
 subst ex
 obtain rfl:ov=Value.ref a:=rx
 refine qq I1 ea c n l fun u s2 I2 ru=>thn (hv pins s2 σ H1 _ I2 q) fun w3 s3 ⟨y,H2,I3,ry,q3⟩=>thn (hop pins s3 σ H2 v y u w3 _ I3 ru ry q3) fun w4 s4 ⟨z,H3,I4,rz,dx',fs',ea',l',q4⟩=>?_
 exact qt I4 ea' c n l' rz fun s5 I5=>⟨σ,_,I5,q4⟩
def rAdd:V->V->Hp->VK->Prop:=fun x y H Q=>∃i j,x= .int i/\y= .int j/\Q (.int (i+j)) H
theorem DN:GW X .Add rAdd:=by
 rintro pins s σ H x y u v Q I rx ry ⟨i,j,rfl,rfl,q⟩
 obtain⟨t,rfl⟩:=(show ∃t,u=Value.int i t from rx)
 obtain⟨t',rfl⟩:=(show ∃t',v=Value.int j t' from ry)
 exact PyProof.Rows.iadd_int ⟨.int (i+j),H,I.tok _,⟨_,rfl⟩,q⟩
end
section
variable {X:Cx} {pins:List (Addr×Obj)} {σ:St} {H:Hp} {s:Shared} {A:Around} {E:Value->Shared->Prop} {Q:Value->Shared->Prop} {c:Value} {b:Bool}
inductive ub (K:PySem.W.Frag) (H:Hp):V->Value->Prop where
 |non:ub K H .non (.type "NoneType")
 |bl (x:Bool):ub K H (.bl x) (.type "bool")
 |int (i:Int):ub K H (.int i) (.type "int")
 |str (x:Str):ub K H (.str x) (.type "str")
 |flt (x:UInt64):ub K H (.flt x) (.type "float")
 |lst {a:Addr} {xs:List V} (e:H a=some (.lst xs)):ub K H (.ref a) (.type "list")
 |frz {a:Addr} {o:Obj} {xs:List V} (e:H a=some (.frz o (.lst xs))):ub K H (.ref a) (.type "list")
 |tup {a:Addr} {xs:List V} (e:H a=some (.tup xs)):ub K H (.ref a) (.type "tuple")
 |dK {a:Addr} {kvs:List (Key×V)} (e:H a=some (.dK kvs)):ub K H (.ref a) (.type "dict")
 |dT {a:Addr} {kvs:List (List Key×V)} (e:H a=some (.dT kvs)):ub K H (.ref a) (.type "dict")
 |ins {a C dx:Addr} {fs:List (Str×V)} (e:H a=some (.ins C dx fs)) (cl:Cls K C) (ha:dR K (.ref C) "__class__"=some (some (.builtin "object.__class__")))
   (hn:eu K (.builtin "object.__class__") "__get__"=some (some (.builtin "getset_descriptor.__get__"))) (htk:eB K (.builtin "object.__class__")=some true)
   (hm:eE K C (.type "object")=some true):ub K H (.ref a) (.ref C)
theorem xP {x:V} {u t:Value} (I:Inv X pins σ H s) (rx:jq x u) (ty:ub X.K H x t) (e:eF X.K t c=some b) (h:∀tk,Q (.bool b) {s with toks:=tk}):
  wpAny (model X.prog X.w) A (call (.builtin "isinstance") [u,c]) Q E s:=by
 cases ty with
 |non=>cases(show u=Value.none from rx);exact eG PySem.W.kitx_none I.kIn True.intro e (fun z=>nomatch z) h
 |bl y=>cases(show u=Value.bool y from rx);exact eG PySem.W.kitx_bool I.kIn True.intro e (fun z=>nomatch z) h
 |int i=>obtain⟨t,q⟩:=(show ∃t,u=Value.int i t from rx);cases q;exact eG PySem.W.kitx_int I.kIn True.intro e (fun z=>nomatch z) h
 |str y=>obtain⟨t,q⟩:=(show ∃t,u=Value.str y t from rx);cases q;exact eG PySem.W.kitx_str I.kIn True.intro e (fun z=>nomatch z) h
 |flt y=>obtain⟨t,q⟩:=(show ∃t,u=Value.float y t from rx);cases q;exact eG PySem.W.kitx_float I.kIn True.intro e (fun z=>nomatch z) h
 |@lst a xs ea=>
  cases(show u=Value.ref a from rx)
  obtain⟨_,_,n,_,h1⟩:=(show jd X.prog X.w H s.heap a (.lst xs)from I.hok a _ ea)
  exact eG eI I.kIn ⟨_,h1,rfl⟩ e (fun z=>nomatch z) h
 |@frz a ob xs ea=>
  cases(show u=Value.ref a from rx)
  obtain⟨_,_,_,n,_,h1⟩:=(show jd X.prog X.w H s.heap a (.frz ob (.lst xs))from I.hok a _ ea)
  exact eG eI I.kIn ⟨_,h1,rfl⟩ e (fun z=>nomatch z) h
 |@tup a xs ea=>
  cases(show u=Value.ref a from rx)
  obtain⟨_,_,_,p⟩:=(show jd X.prog X.w H s.heap a (.tup xs)from I.hok a _ ea)
  obtain⟨o,h1,h2,_⟩:=p
  exact eG PySem.W.kitx_tuple I.kIn ⟨o,h1,h2⟩ e (fun z=>nomatch z) h
 |@dK a kvs ea=>
  cases(show u=Value.ref a from rx)
  obtain⟨_,_,vs,_,p⟩:=(show jd X.prog X.w H s.heap a (.dK kvs)from I.hok a _ ea)
  obtain⟨o,es,ep,h1,h2,_⟩:=p
  exact eG eJ I.kIn ⟨o,h1,h2.1⟩ e (fun z=>nomatch z) h
 |@dT a kvs ea=>
  cases(show u=Value.ref a from rx)
  obtain⟨_,_,xs,_,o,es,ep,h1,h2,_⟩:=(show jd X.prog X.w H s.heap a (.dT kvs)from I.hok a _ ea)
  exact eG eJ I.kIn ⟨o,h1,h2.1⟩ e (fun z=>nomatch z) h
 |@ins a C dx fs ea cl ha hn htk hm=>
  cases(show u=Value.ref a from rx)
  obtain⟨mA,O,_⟩:=qS I.hok ea
  obtain⟨od,J,_⟩:=O.look
  exact eG (PySem.W.kitx_own (cl.get _) cl.hd ha hn htk hm) I.kIn J e (fun z=>nomatch z) h
end
structure mU (k:Nat) (A:Around):Prop where
 hd:A.handled=none
 dp:A.depth+ 3*k+ 5<recursionLimit
 un:A.units+ 16*k+ 200<cLine
theorem mU.mono {j k:Nat} {A:Around} (r:mU k A) (h:j<=k):mU j A:=⟨r.hd,by have:=r.dp;lia,by have:=r.un;lia⟩
theorem mU.deeper {k:Nat} {A:Around} (r:mU (k+ 1) A) (env:Env):mU k (A.deeper env):=
 ⟨r.hd,by have:=r.dp;show A.depth+ 1+ 3*k+ 5<_;lia,by have:=r.un;show A.units+ 3+ 16*k+ 200<_;lia⟩
theorem wu {A:Around} {C:Addr} {us:List Value} {kw:List (Str×Value)}:(A.under (.builtin "type.__call__" ⟨.ref C::us,kw⟩)).depth=A.depth+ 1:=by
 first|rfl|simp[Around.under,Code.weight,Code.isCreation,Code.isGuard,Code.isCaller,Code.frames,Code.isFrame,guardIds]
theorem wx {A:Around} {C:Addr} {us:List Value} {kw:List (Str×Value)}:(A.under (.builtin "type.__call__" ⟨.ref C::us,kw⟩)).units=A.units+ 1:=by
 first|rfl|simp[Around.under,Code.cUnits,Code.frames,Code.isFrame]
theorem mU.make {k:Nat} {A:Around} (r:mU (k+ 1) A) (C:Addr) (us:List Value) (kw:List (Str×Value)):mU k (A.under (.builtin "type.__call__" ⟨.ref C::us,kw⟩)):=
 ⟨r.hd,by have:=r.dp;rw[wu];lia,by have:=r.un;rw[wx];lia⟩
theorem mU.depth {k:Nat} {A:Around} (r:mU k A):A.depth<recursionLimit:=by have:=r.dp;lia
theorem mU.units {k:Nat} {A:Around} (r:mU k A):A.units+ 64<cLine:=by have:=r.un;lia
theorem mU.units0 {k:Nat} {A:Around} (r:mU k A):A.units<cLine:=by have:=r.un;lia
def zI:TA:=fun _ H Q=>Q [] H
def ui (ta:TE) (tr:TA):TA:=fun σ H Q=>ta σ H fun x H1=>tr σ H1 fun xs H2=>Q (x::xs) H2
section
variable {X:Cx} {e:Expr} {es:List Expr} {te:TE} {t:TA} {pos:Pos}
theorem gG:PA X [] zI:=fun _ _ _ _ H Q I h=>Calls.spliced_nil ⟨[],H,I,.nil,h⟩
theorem gB (ha:PE X e te) (hr:PA X es t) (hs:autoParam (starEach (e::es) X.env=(false,eval e X.env)::starEach es X.env) L2.Internal.auR._auto_1):PA X (e::es) (ui te t):=by
 intro pos pins s σ H Q I h
 rw[hs]
 show wpAny _ _ (spliced ((false,eval e X.env)::backTo pos (starEach es X.env))) _ _ s
 refine Calls.spliced_cons (thn (ha pins s σ H _ I h) fun u s1 ⟨x,H1,I1,r1,q1⟩=>?_)
 exact thn (hr pos pins s1 σ H1 _ I1 q1) fun us s2 ⟨xs,H2,I2,r2,q2⟩=>⟨x::xs,H2,I2,.cons r1 r2,q2⟩
def tTup (t:TA):TE:=fun σ H Q=>t σ H fun xs H1=>xs.length<=sizeLine/\∀p,H1 p=none->Q (.ref p) (upd H1 p (.tup xs))
def FR (t:TA):TE:=fun σ H Q=>t σ H fun xs H1=>xs.length<=sizeLine/\∀p,H1 p=none->Q (.ref p) (upd H1 p (.lst xs))
theorem kO {x1} (h:PA X es t):PE X (.Tuple es x1 pos) (tTup t):=by
 intro pins s σ H Q I hq
 refine wpAny_Tuple_spliced (thn (h pos pins s σ H _ I hq) fun us s1 ⟨xs,H1,I1,r,z,q⟩=>⟨by rw[<-r.length];exact z,?_⟩)
 have hf:H1 s1.heap.objs.size=none:=I1.hok.fresh (c7 _)
 refine⟨.ref s1.heap.objs.size,upd H1 s1.heap.objs.size (.tup xs),I1.laid (t':=s1.toks) (fun b u e=>gv _ e) (c7 _) ?_,rfl,q _ hf⟩
 exact⟨z,us,r,⟨_,gr _ rfl,rfl,_,rfl,rfl⟩⟩
theorem iL (h:PA X es t):PE X (.List es pos) (FR t):=by
 intro pins s σ H Q I hq
 refine wpAny_List_spliced (thn (h pos pins s σ H _ I hq) fun us s1 ⟨xs,H1,I1,r,z,q⟩=>⟨by rw[<-r.length];exact z,?_⟩)
 have hf:H1 s1.heap.objs.size=none:=I1.hok.fresh (c7 _)
 refine⟨.ref s1.heap.objs.size,upd H1 s1.heap.objs.size (.lst xs),I1.laid (t':=s1.toks) (fun b u e=>gv _ e) (c7 _) ?_,rfl,q _ hf⟩
 exact⟨z,us,0,r,gr _ rfl⟩
end
abbrev Sp:=List V->Hp->VK->XK->Prop
abbrev CXT:=List Env->Hp->Shared->XK->Value->Shared->Prop
structure BK (P:Program) (w:World) (K:PySem.W.Frag) (mg:Str->Option Value) (base:Heap) (A:Around) (outer:List Env) (s:Shared) (H:Hp):Prop where
 frames:A.frames=some outer
 mod:Mod K mg base
 bs:∀b o,base.get? b=some o->s.heap.get? b=some o/\H b=none
 bsz:base.objs.size<=s.heap.objs.size
 funs:s.heap.FunFrames base outer
 frf:∀b∈frs outer,H b=none
 hok:HOk P w H s.heap
 bare:AllBare s.gens
def CE (outer:List Env) (P:Program) (w:World) (H:Hp) (s:Shared) (Q:VK) (u:Value) (s':Shared):Prop:=
 ∃v H',s'.os=s.os/\AllBare s'.gens/\Un (frs outer) [] H H' s.heap s'.heap/\HOk P w H' s'.heap/\jq v u/\Q v H'
def CR (CX:CXT) (outer:List Env) (P:Program) (w:World) (H:Hp) (s:Shared) (Q:VK) (E:XK) (r:Result) (s':Shared):Prop:=
 match r with
 | .ok (.ret u)=>CE outer P w H s Q u s'
 | .ok _=>False
 | .error e=>CX outer H s E e s'
structure iK (P:Program) (w:World) (K:PySem.W.Frag) (mg:Str->Option Value) (base:Heap) (CX:CXT) (k:Nat) (f:Addr) (fd:FuncData) (ps:List Str) (sp:Sp):Prop where
 len:∀vs H Q E,sp vs H Q E->vs.length=ps.length
 run:∀(A:Around) (outer:List Env) (s:Shared) (H:Hp) (args:Args) (us:List Value) (vs:List V) (Q:VK) (E:XK),mU k A->BK P w K mg base A outer s H->BindsTo s fd args (ps.zip us)->iV vs us->sp vs H Q E->
  codeAny (model P w) A (.call (.ref f) args) (CR CX outer P w H s Q E) s
theorem BK.make {P:Program} {w:World} {K:PySem.W.Frag} {mg:Str->Option Value} {base:Heap} {A:Around} {outer:List Env} {s:Shared} {H:Hp} (e:BK P w K mg base A outer s H) (C:Addr) (us:List Value) (kw:List (Str×Value)):
  BK P w K mg base (A.under (.builtin "type.__call__" ⟨.ref C::us,kw⟩)) outer s H:=⟨by first|exact e.frames|(simpa[Around.under,Code.envs,Code.isFrame,pushEnvs]using e.frames),e.mod,e.bs,e.bsz,e.funs,e.frf,e.hok,e.bare⟩
section
variable {X:Cx} {pins:List (Addr×Obj)} {σ:St} {H:Hp} {s s':Shared}
theorem Inv.env0 (I:Inv X pins σ H s):BK X.prog X.w X.K X.mg X.base X.A X.stack s H:=
 ⟨I.ok.frames,I.ok.mod,I.bs,cX I.ok.bsz I.sz,I.stack,I.stkFree,I.hok,I.bare⟩
theorem Inv.after {Q:VK} {u:Value} (I:Inv X pins σ H s) (h:CE X.stack X.prog X.w H s Q u s'):EP X pins σ Q u s':=by
 obtain⟨v,H',os,bare,un,hok,r,q⟩:=h
 obtain⟨hh,g,d,t,os'⟩:=s'
 obtain rfl:os'=s.os:=os
 exact⟨v,H',I.call (h':=hh) (g':=g) (d':=d) (t':=t) (ch:=[]) un hok bare (fun b z=>absurd z (by simp)),r,q⟩
end
def DO (sp:Sp) (dvs:List V) (E:XK) (t:TA):TE:=fun σ H Q=>t σ H fun vs H1=>sp (vs++dvs) H1 Q E
def DP (C:Addr) (m:Str) (sp:Sp) (dvs:List V) (E:XK) (ta:TE) (t:TA):TE:=fun σ H Q=>ta σ H fun x H1=>∃a dx fs,x= .ref a/\H1 a=some (.ins C dx fs)/\fs.lookup m=none/\
 t σ H1 fun vs H2=>sp (x::(vs++dvs)) H2 Q E
def FT (C:Addr) (sp:Sp) (dvs:List V) (E:XK) (t:TA):TE:=fun σ H Q=>t σ H fun vs H1=>∀x dx,H1 x=none->H1 dx=none->dx≠x->
 sp (.ref x::(vs++dvs)) (upd (upd H1 dx (.own x)) x (.ins C dx [])) (fun v H2=>v= .non/\Q (.ref x) H2) E
def iH (K:PySem.W.Frag) (fd:FuncData) (ps:List Str) (ds:List Value):Prop:=
 ∀(s:Shared) (us:List Value),K.In s.heap->(us++ds).length=ps.length->BindsTo s fd ⟨us,[]⟩ (ps.zip (us++ds))
theorem iH.all {K:PySem.W.Frag} {fd:FuncData} {ps:List Str} (h:∀us:List Value,us.length=ps.length->bindArgs fd ⟨us,[]⟩=pure (ps.zip us)):iH K fd ps []:=fun s us _ hl=>by
 rw[aE]at hl⊢
 exact .of_eq (h us hl)
def nH (CX:CXT) (X:Cx) (E:XK):Prop:=∀(pins:List (Addr×Obj)) (σ:St) (H:Hp) (s:Shared) (e:Value) (s':Shared),Inv X pins σ H s->CX X.stack H s E e s'->X.xe e s'
section
variable {X:Cx} {CX:CXT} {k:Nat} {f C:Addr} {fd:FuncData} {ps:List Str} {sp:Sp} {dvs:List V} {ds:List Value} {E:XK} {x m:Str} {p pos apos:Pos} {e o:Expr} {es:List Expr} {ta:TE} {t:TA}
theorem xQ {pins:List (Addr×Obj)} {σ:St} {H:Hp} {s:Shared} {Q:VK} {us:List Value} {vs:List V} (F:iK X.prog X.w X.K X.mg X.base CX k f fd ps sp) (hr:mU k X.A) (hb:iH X.K fd ps ds) (hd:iV dvs ds) (hx:nH CX X E)
  (I:Inv X pins σ H s) (r:iV vs us) (h:sp (vs++dvs) H Q E):wpAny (model X.prog X.w) X.A (call (.ref f) us) (EP X pins σ Q) X.xe s:=by
 have r2:iV (vs++dvs) (us++ds):=r.append hd
 have hl:(us++ds).length=ps.length:=by rw[<-r2.length];exact F.len _ _ _ _ h
 refine wpAny_call (codeAny_mono (F.run X.A X.stack s H ⟨us,[]⟩ (us++ds) (vs++dvs) Q E hr I.env0 (hb s us I.kIn hl) r2 h) fun r s' hq=>?_)
 cases r with
 |error e=>exact hx pins σ H s e s' I hq
 |ok fl=>
  cases fl with
  |ret u=>exact I.after hq
  |next=>exact False.elim hq
  |brk=>exact False.elim hq
  |cont=>exact False.elim hq
theorem ia (F:iK X.prog X.w X.K X.mg X.base CX k f fd ps sp) (hr:mU k X.A) (hg:Gl X x) (hm:X.mg x=some (.ref f)) (hk:eA X.K (.ref f)=true) (hb:iH X.K fd ps ds) (hd:iV dvs ds) (hx:nH CX X E)
  (ha:PA X (e::es) t) (hdb:autoParam ((x==("__debug__":Str))=false) L2.Internal.auD._auto_1) (he:autoParam (starEach (e::es) X.env=(false,eval e X.env)::starEach es X.env) L2.Internal.auR._auto_1) (hpl:autoParam ((backTo pos (starEach es X.env)).any (·.1)=false) L2.Internal.auR._auto_1):
  PE X (.Call (.Name x p) (e::es) [] pos) (DO sp dvs E t):=by
 intro pins s σ H Q I h
 refine wpAny_Call_Name_kw (m4 I hg hm ?_ hdb)
 refine eK (h₀:=X.base) I.ok.mod.kin hk (thn (ha pos pins s σ H _ I h) fun us s1 ⟨vs,H1,I1,r,q⟩=>⟨I1.kIn,?_⟩) he hpl
 exact xQ F hr hb hd hx I1 r q
theorem jH {pl:Sem Bool} (he:PE X o ta) (c:Cls X.K C) (hm:vj X.K C m f) (F:iK X.prog X.w X.K X.mg X.base CX k f fd ps sp) (hr:mU k X.A) (hb:iH X.K fd ps ds) (hd:iV dvs ds) (hx:nH CX X E) (ha:PA X (e::es) t)
  (hst:autoParam (starEach (e::es) X.env=(false,eval e X.env)::starEach es X.env) L2.Internal.auR._auto_1) (hpl:autoParam ((backTo pos (starEach es X.env)).any (·.1)=false) L2.Internal.auR._auto_1)
  (ht:eval (.Call (.Attribute o m apos) (e::es) [] pos) X.env=(do
   let ov<-eval o X.env
   standAt apos.atName
   let(f,first)<-holding [ov] (getMethod ov m pl)
   callWith pos f first (backTo pos (starEach (e::es) X.env)) (backToKw pos (keywordEach [] X.env))):=by rfl):
  PE X (.Call (.Attribute o m apos) (e::es) [] pos) (DP C m sp dvs E ta t):=by
 intro pins s σ H Q I h
 refine eL (pl:=pl) (thn (he pins s σ H _ I h) fun u s1 ⟨x,H1,I1,rx,a,dx,fs,ex,ea,l,q⟩=>?_) ht
 subst ex
 obtain rfl:u=Value.ref a:=rx
 refine qr I1 ea c hm l ?_
 refine eK (first:=[.ref a]) (h₀:=X.base) I.ok.mod.kin hm.kp (thn (ha pos pins s1 σ H1 _ I1 q) fun us s2 ⟨vs,H2,I2,r,q2⟩=>⟨I2.kIn,?_⟩) hst hpl
 exact xQ (us:= .ref a::us) (vs:= .ref a::vs) F hr hb hd hx I2 (.cons rfl r) q2
theorem j7 {pl:Sem Bool} (he:PE X o ta) (c:Cls X.K C) (hm:vj X.K C m f) (F:iK X.prog X.w X.K X.mg X.base CX k f fd ps sp) (hr:mU k X.A) (hb:iH X.K fd ps ds) (hd:iV dvs ds) (hx:nH CX X E)
  (ht:eval (.Call (.Attribute o m apos) [] [] pos) X.env=(do
   let ov<-eval o X.env
   standAt apos.atName
   let(f,first)<-holding [ov] (getMethod ov m pl)
   callWith pos f first (backTo pos (starEach [] X.env)) (backToKw pos (keywordEach [] X.env))):=by rfl):
  PE X (.Call (.Attribute o m apos) [] [] pos) (DP C m sp dvs E ta zI):=by
 intro pins s σ H Q I h
 refine eL (pl:=pl) (thn (he pins s σ H _ I h) fun u s1 ⟨x,H1,I1,rx,a,dx,fs,ex,ea,l,q⟩=>?_) ht
 subst ex
 obtain rfl:u=Value.ref a:=rx
 refine qr I1 ea c hm l ?_
 exact PySem.W.callWith_K0 (first:=[.ref a]) I1.kIn hm.kp (xQ (us:=[.ref a]) (vs:=[.ref a]) F hr hb hd hx I1 (.cons rfl .nil) q)
structure Mk (K:PySem.W.Frag) (C f:Addr):Prop where
 makes:d7 K C=true
 init:dR K (.ref C) "__init__"=some (some (.ref f))
 fn:dW K (.ref f)=true
 kp:eA K (.ref C)=true
theorem zJ {pins:List (Addr×Obj)} {σ:St} {H:Hp} {s:Shared} {Q:VK} {us:List Value} {vs:List V} (M:Mk X.K C f) (F:iK X.prog X.w X.K X.mg X.base CX k f fd ps sp) (hr:mU (k+ 1) X.A) (hb:iH X.K fd ps ds) (hd:iV dvs ds)
  (hx:nH CX X E) (I:Inv X pins σ H s) (r:iV vs us)
  (h:∀x dx,H x=none->H dx=none->dx≠x->sp (.ref x::(vs++dvs)) (upd (upd H dx (.own x)) x (.ins C dx [])) (fun v H2=>v= .non/\Q (.ref x) H2) E):
  wpAny (model X.prog X.w) X.A (call (.ref C) us) (EP X pins σ Q) X.xe s:=by
 have hq:=h (s.heap.objs.size+ 1) s.heap.objs.size (I.hok.fresh (dc _)) (I.hok.fresh (c7 _)) (cW (da _))
 have I2:=Inv.made (C:=C) I
 have r2:iV (V.ref (s.heap.objs.size+ 1)::(vs++dvs)) (Value.ref (s.heap.objs.size+ 1)::(us++ds)):= .cons rfl (r.append hd)
 have hl:(Value.ref (s.heap.objs.size+ 1)::us++ds).length=ps.length:=by
  have e:=r2.length
  rw[F.len _ _ _ _ hq]at e
  exact e.symm
 refine wpAny_call (zH (f:=f) I.kIn M.makes M.init (beq_iff_eq.mp M.fn) (codeAny_mono (F.run _ X.stack _ _ ⟨Value.ref (s.heap.objs.size+ 1)::us,[]⟩ (Value.ref (s.heap.objs.size+ 1)::(us++ds)) _ _ E (hr.make C us [])
  (I2.env0.make C us []) (hb _ (Value.ref (s.heap.objs.size+ 1)::us) I2.kIn hl) r2 hq) fun r s' hq'=>?_))
 cases r with
 |error e=>exact hx pins σ _ _ e s' I2 hq'
 |ok fl=>
  cases fl with
  |ret u=>
   obtain⟨v,H',I3,rv,ev,q3⟩:=I2.after hq'
   subst ev
   exact⟨rv,⟨V.ref (s.heap.objs.size+ 1),H',I3,rfl,q3⟩⟩
  |next=>exact False.elim hq'
  |brk=>exact False.elim hq'
  |cont=>exact False.elim hq'
theorem xR (M:Mk X.K C f) (F:iK X.prog X.w X.K X.mg X.base CX k f fd ps sp) (hr:mU (k+ 1) X.A) (hg:Gl X x) (hm:X.mg x=some (.ref C)) (hb:iH X.K fd ps ds) (hd:iV dvs ds) (hx:nH CX X E)
  (ha:PA X (e::es) t) (hdb:autoParam ((x==("__debug__":Str))=false) L2.Internal.auD._auto_1) (he:autoParam (starEach (e::es) X.env=(false,eval e X.env)::starEach es X.env) L2.Internal.auR._auto_1) (hpl:autoParam ((backTo pos (starEach es X.env)).any (·.1)=false) L2.Internal.auR._auto_1):
  PE X (.Call (.Name x p) (e::es) [] pos) (FT C sp dvs E t):=by
 intro pins s σ H Q I h
 refine wpAny_Call_Name_kw (m4 I hg hm ?_ hdb)
 refine eK (h₀:=X.base) I.ok.mod.kin M.kp (thn (ha pos pins s σ H _ I h) fun us s1 ⟨vs,H1,I1,r,q⟩=>⟨I1.kIn,?_⟩) he hpl
 exact zJ M F hr hb hd hx I1 r q
end
section
variable {X:Cx} {CX:CXT} {k:Nat} {f C:Addr} {fd:FuncData} {ps ks:List Str} {sp:Sp} {E:XK} {x m:Str} {p pos apos kpos:Pos} {e o:Expr} {es:List Expr} {kws:List Keyword} {te ta:TE} {t tk:TA} {nm:Option Str}
structure GX (K:PySem.W.Frag) (fd:FuncData) (ps ks:List Str) (g:List Value->List Value->List Value) (gV:List V->List V->List V):Prop where
 to:∀(s:Shared) (us ws:List Value),K.In s.heap->(g us ws).length=ps.length->BindsTo s fd ⟨us,ks.zip ws⟩ (ps.zip (g us ws))
 rel:∀{vs:List V} {us:List Value} {zs:List V} {ws:List Value},iV vs us->iV zs ws->iV (gV vs zs) (g us ws)
variable {g:List Value->List Value->List Value} {gV:List V->List V->List V}
end
structure gZ (N P:List Str) (sc:Scope):Prop where
 kind:sc.kind= .function
 co:sc.isCoroutine=false
 gen:sc.isGenerator=false
 nd:N.Nodup
 pre:N.take P.length=P
 par:∀x∈P,sc.names.lookup x=some .local\/sc.names.lookup x=some .cell
 nofree:∀y∈sc.names,y.2≠ .free
theorem sx {kindOf:Str->Option NameKind} {x:Str}:∀{binds:List (Str×Value)} {m:Str->Option Value},(∀v,(x,v)∉binds)->bindL kindOf binds m x=m x
 |[],_,_=>rfl
 |(n,v)::r,m,h=>by
  unfold bindL
  rw[sx fun w hw=>h w (ai _ hw)]
  split
  ·have:x≠n:=by rintro rfl;exact h v ah
   simp[this]
  ·rfl
theorem sy {kindOf:Str->Option NameKind} {x:Str}:∀{binds:List (Str×Value)} {m:Str->Option Value},(∀v,(x,v)∉binds)->bindC kindOf binds m x=m x
 |[],_,_=>rfl
 |(n,v)::r,m,h=>by
  unfold bindC
  rw[sy fun w hw=>h w (ai _ hw)]
  split
  ·rfl
  ·have:x≠n:=by rintro rfl;exact h v ah
   simp[this]
theorem sA {kindOf:Str->Option NameKind} {x:Str} {v:Value}:∀{P:List Str} {vs:List Value} {i:Nat} {m:Str->Option Value},P.Nodup->P[i]?=some x->vs[i]?=some v->kindOf x=some .local->
  bindL kindOf (P.zip vs) m x=some v
 |[],_,_,_,_,h,_,_=>by simp at h
 |_::_,[],_,_,_,_,h,_=>by simp at h
 |p::P,w::vs,0,m,nd,h1,h2,hk=>by
  simp at h1 h2;subst h1;subst h2
  show bindL kindOf ((p,w)::P.zip vs) m p=_
  unfold bindL
  rw[sx fun v hv=>(aF.mp nd).1 (aG hv).1,if_pos hk]
  simp
 |p::P,w::vs,i+ 1,m,nd,h1,h2,hk=>by
  show bindL kindOf ((p,w)::P.zip vs) m x=_
  unfold bindL
  exact sA (i:=i) (aF.mp nd).2 (by simpa using h1) (by simpa using h2) hk
theorem sC {kindOf:Str->Option NameKind} {x:Str} {v:Value}:∀{P:List Str} {vs:List Value} {i:Nat} {m:Str->Option Value},P.Nodup->P[i]?=some x->vs[i]?=some v->kindOf x≠some .local->
  bindC kindOf (P.zip vs) m x=some v
 |[],_,_,_,_,h,_,_=>by simp at h
 |_::_,[],_,_,_,_,h,_=>by simp at h
 |p::P,w::vs,0,m,nd,h1,h2,hk=>by
  simp at h1 h2;subst h1;subst h2
  show bindC kindOf ((p,w)::P.zip vs) m p=_
  unfold bindC
  rw[sy fun v hv=>(aF.mp nd).1 (aG hv).1,if_neg hk]
  simp
 |p::P,w::vs,i+ 1,m,nd,h1,h2,hk=>by
  show bindC kindOf ((p,w)::P.zip vs) m x=_
  unfold bindC
  exact sC (i:=i) (aF.mp nd).2 (by simpa using h1) (by simpa using h2) hk
def start (N:List Str) (vs:List V):St:=vs.map some++aH (N.length-vs.length) none
def sd (CX:CXT) (P:Program) (w:World) (K:PySem.W.Frag) (mg:Str->Option Value) (base:Heap) (N:List Str) (qual:Str) (scope:Scope) (f:Addr) (cd:Value) (A:Around) (outer:List Env) (s:Shared) (H:Hp) (E:XK):Cx where
 prog:=P
 w:=w
 K:=K
 mg:=mg
 base:=base
 A:=A.deeper (envOfC qual scope s.heap.objs.size f cd)
 N:=N
 s₀:=s
 H₀:=H
 env:=envOfC qual scope s.heap.objs.size f cd
 outer:=outer
 stack:=envOfC qual scope s.heap.objs.size f cd::outer
 ex:=[]
 calm:=true
 fn:=fun _=>true
 pn:=[]
 xe:=fun e s'=>wpAny (model P w) (A.deeper (envOfC qual scope s.heap.objs.size f cd)) (leaving (envOfC qual scope s.heap.objs.size f cd) e) (fun _ s''=>CX outer H s E e s'') (fun e' s''=>CX outer H s E e' s'') s'
theorem vk {sc:Scope} {n:Nat} {x:Str} (h:sc.names.lookup x=some .cell):∃c,(cellsFrom n sc.names []).lookup x=some c:=by
 have q:=eM sc.names n [] (.inl h)
 exact dC.mp q
theorem sE {CX:CXT} {P:Program} {w:World} {K:PySem.W.Frag} {mg:Str->Option Value} {base:Heap} {N ps:List Str} {qual:Str} {scope:Scope} {f:Addr} {cd:Value} {A:Around} {outer:List Env} {s s1:Shared} {H:Hp} {E:XK} {us:List Value} {vs:List V}
  (S:gZ N ps scope) (hd:A.handled=none) (e0:BK P w K mg base A outer s H) (hl:vs.length=ps.length) (r:iV vs us)
  (x:InCallC s s.heap.objs.size (bindL (envOfC qual scope s.heap.objs.size f cd).kindOf (ps.zip us) fun _=>none) (cellsFrom (s.heap.objs.size+ 1) scope.names []) (bindC (envOfC qual scope s.heap.objs.size f cd).kindOf (ps.zip us) fun _=>none) s1):
  Inv (sd CX P w K mg base N qual scope f cd A outer s H E) [] (start N vs) H s1:=by
 have hpl:ps.length<=N.length:=by have:=congrArg List.length S.pre;rw[aI]at this;lia
 obtain⟨h1,tk,rfl,hk⟩:=x.done
 have noA:∀b:Addr,b∉(sd CX P w K mg base N qual scope f cd A outer s H E).ex:=fun b z=>absurd (show b∈([]:List Addr)from z) (by simp)
 refine⟨⟨e0.mod,S.kind,rfl,rfl,c7 _,fun y z c h1 h2=>?_,fun y hy=>?_,fun y c _ h=>?_,fun _=>hd,Around.frames_deeper e0.frames,.inr ⟨rfl,rfl⟩,fun b z=>absurd z (noA b),e0.bs,e0.bsz,fun b _ _=>noA b,fun b z=>absurd z (noA b),e0.funs,e0.frf⟩,
  rfl,e0.bare,Un.kept hk,⟨_,x.toInCall.ns,fun i y v h1 h2 h3=>?_⟩,fun y c h=>⟨_,x.cell y c h⟩,e0.hok.fresh (c7 _),fun y c h=>?_,fun p hp=>absurd (show p∈([]:List (Addr×Obj))from hp) (by simp),e0.hok.kept hk,?_⟩
 ·exact name_of_addr x.apart (PySem.mem_of_lookup h1) (PySem.mem_of_lookup h2)
 ·have hy:scope.names.lookup y=some .cell\/scope.names.lookup y=some .free:=hy
  rcases hy with hy|hy
  ·exact vk hy
  ·exact absurd rfl (S.nofree _ (PySem.mem_of_lookup hy))
 ·exact cY (x.above y c (PySem.mem_of_lookup h))
 ·have hi:i<vs.length:=by
   unfold start at h2
   by_cases hi:i<vs.length
   ·exact hi
   ·rw[aJ (by simpa using hi)]at h2
    rw[List.getElem?_replicate]at h2
    split at h2<;>cases h2
  have ha:vs[i]?=some v:=by
   unfold start at h2
   rw[aK (by simpa using hi),aM]at h2
   cases e:vs[i]? with
   |none=>rw[e]at h2;cases h2
   |some a=>rw[e]at h2;cases h2;rfl
  obtain⟨u,hu,rv⟩:=r.get ha
  have hp:ps[i]?=some y:=by
   rw[<-S.pre,List.getElem?_take_of_lt (by lia)];exact h1
  have ndP:ps.Nodup:=by rw[<-S.pre];exact S.nd.sublist (List.take_sublist _ _)
  refine⟨u,rv,?_⟩
  rcases S.par y (aN hp)with k|k
  ·exact .inl ⟨k,sA ndP hp hu k⟩
  ·obtain⟨c,e⟩:=vk (n:=s.heap.objs.size+ 1) k
   refine .inr ⟨.inl k,c,e,?_⟩
   have q:=x.cell y c e
   rw[sC ndP hp hu (by show scope.names.lookup y≠_;rw[k];decide)]at q
   exact q
 ·exact e0.hok.fresh (cY (x.above y c (PySem.mem_of_lookup h)))
 ·unfold start
  show _=N.length
  rw[aO,aD,aP]
  lia
theorem BL {CX:CXT} {P:Program} {w:World} {K:PySem.W.Frag} {mg:Str->Option Value} {base:Heap} {k:Nat} {f:Addr} {name qual:Str} {params:Arguments} {body:List Stmt} {scope:Scope} {dV kV doc pm cdv ct oc:Value} {an od:Option Addr}
  {osl:Array (Option Value)} {N ps:List Str} {sp:Sp} (lk:K.lookup f=some ⟨oc,od,.func (eN name qual params body scope dV kV doc pm an cdv ct),osl⟩) (hcd:eO K cdv qual=true) (S:gZ N ps scope)
  (len:∀vs H Q E,sp vs H Q E->vs.length=ps.length)
  (hbody:∀(A:Around) (outer:List Env) (s:Shared) (H:Hp) (vs:List V) (Q:VK) (E:XK),mU k (A.deeper (envOfC qual scope s.heap.objs.size f cdv))->sp vs H Q E->
   ∃t,PSs (sd CX P w K mg base N qual scope f cdv A outer s H E) body t/\t {nx:=fun _ H'=>Q .non H',rt:=Q} (start N vs) H):
  iK P w K mg base CX (k+ 1) f (eN name qual params body scope dV kV doc pm an cdv ct) ps sp:=by
 refine⟨len,fun A outer s H args us vs Q E hr e0 hb r hsp=>?_⟩
 have hl:=len _ _ _ _ hsp
 have KX:K.In s.heap:=e0.mod.kin.keeps fun b o e=>(e0.bs b o e).1
 have lim:s.heap.NoLimit:=e0.mod.nolimit.keeps fun b o e=>(e0.bs b o e).1
 have hkind:∀y∈ps.zip us,scope.names.lookup y.1=some .local\/(scope.names.lookup y.1=some .cell/\((cellsFrom (s.heap.objs.size+ 1) scope.names []).lookup y.1).isSome=true):=fun⟨n,v⟩ hy=>by
  rcases S.par n (aG hy).1 with q|q
  ·exact .inl q
  ·exact .inr ⟨q,eM _ _ _ (.inl q)⟩
 refine codeAny_call_function hr.depth (KX _ _ lk) rfl S.co S.gen rfl (eP KX hcd) (hb _ _ _ _ ?_)
 refine wpAny_newFunctionEnv_cells S.kind hkind fun env he s1 x=>?_
 subst he
 refine⟨lim.keeps x.toInCall.keep,codeAny_func ?_⟩
 obtain⟨t,ht,hq⟩:=hbody A outer s H vs Q E (hr.deeper _) hsp
 have I:Inv (sd CX P w K mg base N qual scope f cdv A outer s H E) [] (start N vs) H s1:=sE S hr.hd e0 hl r x
 refine wpAny_mono (ht [] s1 (start N vs) H _ I hq) (fun fl s' hs=>?_) fun e s' hs=>hs
 have fin:∀{σ':St} {H':Hp} {v:V} {u:Value},Inv (sd CX P w K mg base N qual scope f cdv A outer s H E) [] σ' H' s'->jq v u->Q v H'->CE outer P w H s Q u s':=
  fun{σ' H' v u} J rv q=>⟨v,H',J.os,J.bare,J.base,J.hok,rv,q⟩
 cases fl with
 |ret u=>
  obtain⟨v,σ',H',J,rv,q⟩:=hs
  exact fin J rv q
 |next=>
  obtain⟨σ',H',J,q⟩:=hs
  exact fin (v:=V.non) (u:=Value.none) J rfl q
 |brk=>
  obtain⟨_,_,_,q⟩:=hs
  exact False.elim q
 |cont=>
  obtain⟨_,_,_,q⟩:=hs
  exact False.elim q
section
variable {X:Cx} {x:Str} {p pos:Pos} {e:Expr} {es:List Expr} {t:TA} {id T:String} {r:List V->Hp->VK->Prop}
def tCB (r:List V->Hp->VK->Prop) (t:TA):TE:=fun σ H Q=>t σ H fun vs H1=>r vs H1 Q
theorem gS (hc:mf X (.builtin id) r) (hg:Gl X x) (hm:X.mg x=none) (hv:bootBuiltins x=some (.builtin id)) (ha:PA X (e::es) t) (hn:autoParam (x≠"__name__") L2.Internal.auD._auto_1) (hdb:autoParam ((x==("__debug__":Str))=false) L2.Internal.auD._auto_1)
  (he:autoParam (starEach (e::es) X.env=(false,eval e X.env)::starEach es X.env) L2.Internal.auR._auto_1) (hpl:autoParam ((backTo pos (starEach es X.env)).any (·.1)=false) L2.Internal.auR._auto_1):PE X (.Call (.Name x p) (e::es) [] pos) (tCB r t):=by
 intro pins s σ H Q I h
 refine wpAny_Call_Name_kw (oS I hg hm hv ?_ hn hdb)
 exact PyProof.Rows.callWith_builtin1 (thn (ha pos pins s σ H _ I h) fun us s1 ⟨vs,H1,I1,r1,q1⟩=>hc pins s1 σ H1 vs us Q I1 r1 q1) he hpl
theorem kG (hc:mf X (.type T) r) (hg:Gl X x) (hm:X.mg x=none) (hv:bootBuiltins x=some (.type T)) (ha:PA X (e::es) t) (hn:autoParam (x≠"__name__") L2.Internal.auD._auto_1) (hdb:autoParam ((x==("__debug__":Str))=false) L2.Internal.auD._auto_1)
  (he:autoParam (starEach (e::es) X.env=(false,eval e X.env)::starEach es X.env) L2.Internal.auR._auto_1) (hpl:autoParam ((backTo pos (starEach es X.env)).any (·.1)=false) L2.Internal.auR._auto_1):PE X (.Call (.Name x p) (e::es) [] pos) (tCB r t):=by
 intro pins s σ H Q I h
 refine wpAny_Call_Name_kw (oS I hg hm hv ?_ hn hdb)
 exact gz (thn (ha pos pins s σ H _ I h) fun us s1 ⟨vs,H1,I1,r1,q1⟩=>hc pins s1 σ H1 vs us Q I1 r1 q1) he hpl
end
section
variable {κ:Type} [DecidableEq κ]
def jL (kvs:List (κ×V)) (k:κ):Option V:=(kvs.find? fun kv=>decide (kv.1=k)).map (·.2)
def nz (kvs:List (κ×V)) (k:κ) (v:V):List (κ×V):=
 if(kvs.any fun kv=>decide (kv.1=k))=true then kvs.map (fun kv=>if kv.1=k then(kv.1,v)else kv)else kvs++[(k,v)]
theorem jM {p:κ×V} {r:List (κ×V)} {k:κ} (e:p.1=k):jL (p::r) k=some p.2:=by simp[jL,aQ,e]
theorem jN {p:κ×V} {r:List (κ×V)} {k:κ} (e:¬p.1=k):jL (p::r) k=jL r k:=by simp[jL,aQ,e]
theorem lQ (k:κ):∀kvs:List (κ×V),(kvs.any fun kv=>decide (kv.1=k))=(jL kvs k).isSome
 |[]=>rfl
 |p::r=>by
  rw[aR]
  by_cases e:p.1=k
  ·simp only[jM e,decide_eq_true e,fQ,Option.isSome_some]
  ·rw[jN e,decide_eq_false e,fS];exact lQ k r
theorem vm (k j:κ) (y:V):∀kvs:List (κ×V),jL (kvs.map fun kv=>if kv.1=k then(kv.1,y)else kv) j=(jL kvs j).map fun x=>if j=k then y else x
 |[]=>rfl
 |p::r=>by
  have ih:=vm k j y r
  rw[aC]
  by_cases h:p.1=k
  ·rw[if_pos h]
   by_cases e:p.1=j
   ·rw[jM (p:=(p.1,y)) e,jM e,dD,if_pos (e.symm.trans h)]
   ·rw[jN (p:=(p.1,y)) e,jN e,ih]
  ·rw[if_neg h]
   by_cases e:p.1=j
   ·rw[jM (p:=p) e,jM e,dD,if_neg (fun z=>h (e.trans z))]
   ·rw[jN (p:=p) e,jN e,ih]
theorem sF (k j:κ) (y:V):∀kvs:List (κ×V),jL kvs k=none->jL (kvs++[(k,y)]) j=if j=k then some y else jL kvs j
 |[],_=>by
  by_cases e:k=j
  ·rw[if_pos e.symm];exact jM (p:=(k,y)) e
  ·rw[if_neg (fun z=>e z.symm)];exact jN (p:=(k,y)) e
 |p::r,hn=>by
  rw[aS]
  have hk:¬p.1=k:=fun z=>by rw[jM z]at hn;cases hn
  rw[jN hk]at hn
  have ih:=sF k j y r hn
  by_cases e:p.1=j
  ·rw[jM e,jM e,if_neg (fun z=>hk (e.trans z))]
  ·rw[jN e,jN e,ih]
theorem jb (kvs:List (κ×V)) (k j:κ) (y:V):jL (nz kvs k y) j=if j=k then some y else jL kvs j:=by
 unfold nz
 by_cases a:(kvs.any fun kv=>decide (kv.1=k))=true
 ·rw[if_pos a,vm]
  rw[lQ]at a
  by_cases e:j=k
  ·obtain⟨x,hx⟩:=dC.mp a
   rw[if_pos e,e,hx,dD,if_pos rfl]
  ·rw[if_neg e]
   cases jL kvs j with
   |none=>rfl
   |some x=>rw[dD,if_neg e]
 ·rw[if_neg a]
  refine sF k j y kvs ?_
  rw[lQ]at a
  cases q:jL kvs k with
  |none=>rfl
  |some x=>rw[q]at a;exact(a rfl).elim
theorem i0 (kvs:List (κ×V)) (k:κ) (v:V):(nz kvs k v).length<=kvs.length+ 1:=by
 unfold nz
 split
 ·rw[aD];lia
 ·rw[aO,aA,aT];lia
theorem zK {kvs:List (κ×V)} {k:κ} (v:V) (h:jL kvs k=none):nz kvs k v=kvs++[(k,v)]:=by
 unfold nz
 rw[lQ,h]
 exact if_neg (by decide)
theorem qk.isSome_eq {o:Option V} {u:Option Value} (r:qk o u):o.isSome=u.isSome:=by
 cases o with
 |none=>cases u with
  |none=>rfl
  |some _=>exact(show False from r).elim
 |some _=>cases u with
  |none=>exact(show False from r).elim
  |some _=>rfl
theorem KV.val {kvs:List (κ×V)} {vs:List (κ×Value)} (r:KV kvs vs) (k:κ):qk (jL kvs k) (valueAt vs k):=by
 unfold KV at r
 induction r with
 |nil=>exact True.intro
 |@cons p q ps qs h t ih=>
  obtain⟨h1,h2⟩:=h
  by_cases e:p.1=k
  ·have e':q.1=k:=h1.symm.trans e
   have b:valueAt (q::qs) k=some q.2:=by simp[valueAt,aQ,e']
   rw[jM e,b];exact h2
  ·have e':¬q.1=k:=fun z=>e (h1.trans z)
   have b:valueAt (q::qs) k=valueAt qs k:=by simp[valueAt,aQ,e']
   rw[jN e,b];exact ih
theorem KV.any {kvs:List (κ×V)} {vs:List (κ×Value)} (r:KV kvs vs) (k:κ):(kvs.any fun kv=>decide (kv.1=k))=vs.any fun kv=>decide (kv.1=k):=by
 unfold KV at r
 induction r with
 |nil=>rfl
 |cons h t ih=>rw[aR,aR,ih,h.1]
theorem KV.repl {kvs:List (κ×V)} {vs:List (κ×Value)} (r:KV kvs vs) (k:κ) {y:V} {u:Value} (ry:jq y u):
  KV (kvs.map fun kv=>if kv.1=k then(kv.1,y)else kv) (vs.map fun kv=>if kv.1=k then(kv.1,u)else kv):=by
 unfold KV at r⊢
 induction r with
 |nil=>exact .nil
 |@cons p q ps qs h t ih=>
  rw[aC,aC]
  refine .cons ?_ ih
  obtain⟨h1,h2⟩:=h
  by_cases e:p.1=k
  ·rw[if_pos e,if_pos (h1.symm.trans e)];exact⟨h1,ry⟩
  ·rw[if_neg e,if_neg (fun z=>e (h1.trans z))];exact⟨h1,h2⟩
theorem KV.put {kvs:List (κ×V)} {vs:List (κ×Value)} (r:KV kvs vs) (k:κ) {y:V} {u:Value} (ry:jq y u):KV (nz kvs k y) (stored vs k u):=by
 unfold nz stored
 rw[r.any k]
 by_cases e:(vs.any fun kv=>decide (kv.1=k))=true
 ·rw[if_pos e,if_pos e];exact r.repl k ry
 ·rw[if_neg e,if_neg e];exact Paired.snoc r ⟨rfl,ry⟩
theorem KV.length {kvs:List (κ×V)} {vs:List (κ×Value)} (r:KV kvs vs):kvs.length=vs.length:=Paired.length r
end
theorem uj {P:Program} {w:World} {k:Key} {u:Value} (r:jq (kV k) u):(jQ P w).is k u=true:=by
 cases k with
 |inl i=>obtain⟨t,e⟩:=(show ∃t,u=Value.int i t from r);subst e;exact ud P w i t
 |inr x=>obtain⟨t,e⟩:=(show ∃t,u=Value.str x t from r);subst e;exact ue P w x t
theorem sG {P:Program} {w:World}:∀{ks:List Key} {us:List Value},iV (ks.map kV) us->ItemsAre (jQ P w) ks us
 |[],_,r=>by rw[aU]at r;cases r;exact .nil
 |k::ks,_,r=>by
  rw[aC]at r
  cases r with
  |cons h t=>exact .cons (uj h) (sG t)
abbrev KT (H:Hp):List (List Key×V)->List (List Key×Addr×Value)->Prop:=Paired fun p q=>p.1=q.1/\H q.2.1=some (.tup (p.1.map kV))/\jq p.2 q.2.2
theorem KT.val {H:Hp} {kvs:List (List Key×V)} {xs:List (List Key×Addr×Value)} (r:KT H kvs xs) (k:List Key):qk (jL kvs k) ((atKey xs k).map (·.2)):=by
 induction r with
 |nil=>exact True.intro
 |@cons p q ps qs h t ih=>
  obtain⟨h1,_,h2⟩:=h
  by_cases e:p.1=k
  ·have e':q.1=k:=h1.symm.trans e
   have b:atKey (q::qs) k=some q.2:=by simp[atKey,aQ,e']
   rw[jM e,b];exact h2
  ·have e':¬q.1=k:=fun z=>e (h1.trans z)
   have b:atKey (q::qs) k=atKey qs k:=by simp[atKey,aQ,e']
   rw[jN e,b];exact ih
theorem KT.repl {H:Hp} {kvs:List (List Key×V)} {xs:List (List Key×Addr×Value)} (r:KT H kvs xs) (k:List Key) {y:V} {u:Value} (ry:jq y u):
  KT H (kvs.map fun kv=>if kv.1=k then(kv.1,y)else kv) (xs.map (putAt k u)):=by
 induction r with
 |nil=>exact .nil
 |@cons p q ps qs h t ih=>
  rw[aC,aC]
  refine .cons ?_ ih
  obtain⟨h1,h2,h3⟩:=h
  unfold putAt
  by_cases e:p.1=k
  ·rw[if_pos e,if_pos (h1.symm.trans e)];exact⟨h1,h2,ry⟩
  ·rw[if_neg e,if_neg (fun z=>e (h1.trans z))];exact⟨h1,h2,h3⟩
theorem KT.put {H:Hp} {kvs:List (List Key×V)} {xs:List (List Key×Addr×Value)} (r:KT H kvs xs) (k:List Key) {b:Addr} {y:V} {u:Value} (hb:H b=some (.tup (k.map kV))) (ry:jq y u):
  KT H (nz kvs k y) (storedH xs k b u):=by
 have e:(kvs.any fun kv=>decide (kv.1=k))=(atKey xs k).isSome:=by
  rw[lQ,(r.val k).isSome_eq,dE]
 unfold nz storedH
 rw[e]
 by_cases q:(atKey xs k).isSome=true
 ·rw[if_pos q,if_pos q];exact r.repl k ry
 ·rw[if_neg q,if_neg q];exact Paired.snoc r ⟨rfl,hb,ry⟩
theorem KT.keeps {H H':Hp} {kvs:List (List Key×V)} {xs:List (List Key×Addr×Value)} (r:KT H kvs xs) (ht:∀b ys,H b=some (.tup ys)->H' b=some (.tup ys)):KT H' kvs xs:=
 Paired.mapP r fun _ _ z=>⟨z.1,ht _ _ z.2.1,z.2.2⟩
section
variable {P:Program} {w:World} {H:Hp} {h:Heap} {a:Addr}
theorem DQ {u:HO} (ok:HOk P w H h) (e:Rd H a u):jd P w H h a u:=e.ok ok
theorem xS {kvs:List (Key×V)} (ok:HOk P w H h) (e:Rd H a (.dK kvs)):kvs.length<=sizeLine/\(a==sysModules)=false/\∃vs,KV kvs vs/\h.DictOf (jQ P w) a vs:=
 show jd P w H h a (.dK kvs)from DQ ok e
theorem wy {kvs:List (Key×V)} (ok:HOk P w H h) (e:H a=some (.dK kvs)):kvs.length<=sizeLine/\(a==sysModules)=false/\∃vs,KV kvs vs/\h.DictOf (jQ P w) a vs:=xS ok (.inl e)
theorem sH {ks:List Key} (ok:HOk P w H h) (e:H a=some (.tup (ks.map kV))):(tupleKind (jQ P w)).is h ks a:=by
 obtain⟨_,its,r,o,h1,h2,n,h3,_⟩:=(show jd P w H h a (.tup (ks.map kV))from ok a _ e)
 exact⟨o,its.toArray,n,h1,h2,h3,by simpa using sG r⟩
theorem xT {kvs:List (List Key×V)} (ok:HOk P w H h) (e:Rd H a (.dT kvs)):kvs.length<=sizeLine/\(a==sysModules)=false/\
  ∃xs,KT H kvs xs/\h.DictOfH (tupleKind (jQ P w)) a xs:=by
 obtain⟨z,y,xs,r,o,es,ep,h1,h2,h3,h4,h5⟩:=(show jd P w H h a (.dT kvs)from DQ ok e)
 refine⟨z,y,xs,r,o,es,ep,h1,h2,h3,h4,fun x hx=>?_,h5⟩
 have all:∀{l:List (List Key×V)} {m:List (List Key×Addr×Value)},KT H l m->∀x∈m,(tupleKind (jQ P w)).is h x.1 x.2.1:=by
  intro l m q
  induction q with
  |nil=>intro x hx;exact nomatch hx
  |@cons p q ps qs hq t ih=>
   intro x hx
   rcases aj.mp hx with e|hx
   ·subst e
    exact sH ok (by rw[<-hq.1];exact hq.2.1)
   ·exact ih x hx
 exact all r x hx
theorem FU {kvs:List (List Key×V)} (ok:HOk P w H h) (e:H a=some (.dT kvs)):kvs.length<=sizeLine/\(a==sysModules)=false/\
  ∃xs,KT H kvs xs/\h.DictOfH (tupleKind (jQ P w)) a xs:=xT ok (.inl e)
end
def xm (H:Hp) (a:Addr) (y:V) (r:Option V):Prop:=
 (∃kvs k,Rd H a (.dK kvs)/\y=kV k/\r=jL kvs k)\/∃kvs k b,Rd H a (.dT kvs)/\y= .ref b/\H b=some (.tup (k.map kV))/\r=jL kvs k
def xn (H:Hp) (a:Addr) (y v:V) (H':Hp):Prop:=
 (∃kvs k,H a=some (.dK kvs)/\y=kV k/\kvs.length<sizeLine/\H'=upd H a (.dK (nz kvs k v)))\/
 ∃kvs k b,H a=some (.dT kvs)/\y= .ref b/\H b=some (.tup (k.map kV))/\kvs.length<sizeLine/\H'=upd H a (.dT (nz kvs k v))
theorem xm.k {H:Hp} {a:Addr} {kvs:List (Key×V)} {k:Key} (e:H a=some (.dK kvs)):xm H a (kV k) (jL kvs k):= .inl ⟨kvs,k,.inl e,rfl,rfl⟩
theorem xn.k {H:Hp} {a:Addr} {kvs:List (Key×V)} {k:Key} {v:V} (e:H a=some (.dK kvs)) (hl:kvs.length<sizeLine):xn H a (kV k) v (upd H a (.dK (nz kvs k v))):= .inl ⟨kvs,k,e,rfl,hl,rfl⟩
section
variable {X:Cx} {pins:List (Addr×Obj)} {σ:St} {H:Hp} {s:Shared} {a:Addr} {y v:V} {u r:Value} {o:Option V} {A:Around} {E:Value->Shared->Prop}
theorem Inv.big (I:Inv X pins σ H s):sysModules<s.heap.objs.size:=by
 have h:mainGlobals<s.heap.objs.size:=(I.mod.glob.keeps I.bk).lt
 exact Nat.lt_trans (by decide) h
theorem xU {Q:Value->Shared->Prop} (hu:A.units+ 1<cLine) (I:Inv X pins σ H s) (g:xm H a y (some v)) (ry:jq y u) (h:∀w' s',Inv X pins σ H s'->jq v w'->Q w' s'):
  wpAny (model X.prog X.w) A (getItem (.ref a) u) Q E s:=by
 rcases g with⟨kvs,k,e,ey,l⟩|⟨kvs,k,b,e,ey,eb,l⟩
 ·subst ey
  obtain⟨z,hd,vs,rel,dd⟩:=xS I.hok e
  obtain⟨w',hw,rw'⟩:=qk.some_of (v:=v) (o:=valueAt vs k) (by rw[l];exact rel.val k)
  exact wpAny_getItem_of (uj ry) dd.mapOf hw (h w' _ (I.tok _) rw')
 ·subst ey
  cases(show u=Value.ref b from ry)
  obtain⟨z,hd,xs,rel,dd⟩:=xT I.hok e
  obtain⟨w',hw,rw'⟩:=qk.some_of (v:=v) (o:=(atKey xs k).map (·.2)) (by rw[l];exact rel.val k)
  obtain⟨p,hp,hp2⟩:=dF.mp hw
  refine wpAny_getItem_heap (tupleKind_room_in1 hu) (sH I.hok eb) dd hp ?_
  rw[hp2]
  exact h w' _ (I.tok _) rw'
theorem d_in {Q:Value->Shared->Prop} (hu:A.units+ 1<cLine) (I:Inv X pins σ H s) (g:xm H a y o) (ry:jq y u) (h:∀s',Inv X pins σ H s'->Q (.bool o.isSome) s'):
  wpAny (model X.prog X.w) A (compareOp .In u (.ref a)) Q E s:=by
 rcases g with⟨kvs,k,e,ey,l⟩|⟨kvs,k,b,e,ey,eb,l⟩
 ·subst ey
  obtain⟨z,hd,vs,rel,dd⟩:=xS I.hok e
  refine wpAny_in_of (uj ry) hd dd.mapOf ?_
  rw[<-(rel.val k).isSome_eq,<-l]
  exact h _ (I.tok _)
 ·subst ey
  cases(show u=Value.ref b from ry)
  obtain⟨z,hd,xs,rel,dd⟩:=xT I.hok e
  refine wpAny_in_heap (tupleKind_room_in1 hu) (sH I.hok eb) hd dd ?_
  have q:=(rel.val k).isSome_eq
  rw[dE]at q
  rw[<-q,<-l]
  exact h _ (I.tok _)
theorem BM {Q:Value->Shared->Prop} (hu:A.units+ 1<cLine) (I:Inv X pins σ H s) (g:xm H a y o) (ry:jq y u) (h:∀s',Inv X pins σ H s'->Q (.bool (!o.isSome)) s'):
  wpAny (model X.prog X.w) A (compareOp .NotIn u (.ref a)) Q E s:=by
 rcases g with⟨kvs,k,e,ey,l⟩|⟨kvs,k,b,e,ey,eb,l⟩
 ·subst ey
  obtain⟨z,hd,vs,rel,dd⟩:=xS I.hok e
  refine wpAny_notIn_of (uj ry) hd dd.mapOf ?_
  rw[<-(rel.val k).isSome_eq,<-l]
  exact h _ (I.tok _)
 ·subst ey
  cases(show u=Value.ref b from ry)
  obtain⟨z,hd,xs,rel,dd⟩:=xT I.hok e
  refine wpAny_notIn_heap (tupleKind_room_in1 hu) (sH I.hok eb) hd dd ?_
  have q:=(rel.val k).isSome_eq
  rw[dE]at q
  rw[<-q,<-l]
  exact h _ (I.tok _)
theorem uk {h':Heap} {t':Nat} {ob:HO} (I:Inv X pins σ H s) (mu:Mut (H a)) (hs:Heap.SameBut a s.heap h') (he:∃q,h'.get? a=some q) (new:jd X.prog X.w (upd H a ob) h' a ob):
  Inv X pins σ (upd H a ob) {s with heap:=h',toks:=t'}:=
 I.write (x:=a) (e:=a) mu (.inl rfl) (fun b q hb z=>(hs.2 b hb).trans z) he new
theorem xV {P:Program} {w:World} {H':Hp} {h':Heap} {kvs:List (Key×V)} {vs:List (Key×Value)} (z:kvs.length<=sizeLine) (hd:(a==sysModules)=false) (rel:KV kvs vs) (dd:h'.DictOf (jQ P w) a vs):
  jd P w H' h' a (.dK kvs):=⟨z,hd,vs,rel,dd⟩
theorem xW {H':Hp} {Q:Unit->Shared->Prop} (hu:A.units+ 1<cLine) (I:Inv X pins σ H s) (g:xn H a y v H') (ry:jq y u) (rv:jq v r) (h:∀s',Inv X pins σ H' s'->Q () s'):
  wpAny (model X.prog X.w) A (setItem (.ref a) u r) Q E s:=by
 rcases g with⟨kvs,k,e,ey,l,eH⟩|⟨kvs,k,b,e,ey,eb,l,eH⟩
 ·subst ey eH
  obtain⟨z,hd,vs,rel,dd⟩:=wy I.hok e
  have hz:vs.length<=sizeLine:=by rw[<-rel.length];exact z
  have hl:(nz kvs k v).length<=sizeLine:=by have:=i0 kvs k v;lia
  refine wpAny_setItem_pairs (hsz:=hz) (uj ry) dd fun h' dd' hs=>h _ ?_
  have he:∃q,h'.get? a=some q:=let⟨q,_,_,hq,_⟩:=dd';⟨q,hq⟩
  exact uk I (by rw[e];exact True.intro) hs he (xV hl hd (rel.put k rv) dd')
 ·subst ey eH
  cases(show u=Value.ref b from ry)
  obtain⟨z,hd,xs,rel,dd⟩:=FU I.hok e
  have hz:xs.length<=sizeLine:=by rw[<-Paired.length rel];exact z
  have hl:(nz kvs k v).length<=sizeLine:=by have:=i0 kvs k v;lia
  refine wpAny_setItem_heap (hsz:=hz) (tupleKind_room_in1 hu) (sH I.hok eb) dd fun h' dd' hs=>h _ ?_
  obtain⟨q,es,ep,hq,h2,h3,h4,_,h5⟩:=dd'
  refine uk I (by rw[e];exact True.intro) hs ⟨q,hq⟩ ⟨hl,hd,_,(rel.put k eb rv).keeps fun c ys ec=>?_,q,es,ep,hq,h2,h3,h4,h5⟩
  rw[gM (kU ec e (fun z=>nomatch z))]
  exact ec
end
section
variable {X:Cx} {pins:List (Addr×Obj)} {σ:St} {H:Hp} {s:Shared} {a:Addr} {kvs:List (Key×V)} {k:Key} {u:Value} {A:Around} {E:Value->Shared->Prop}
end
def FV (i:Expr):Prop:=∀ov iv,subscripted i false ov iv=operate [ov,iv] (getItem ov iv)
theorem xX {prog:Program} {w:World} {A:Around} {E:Value->Shared->Prop} {s:Shared} {env:Env} {value slice:Expr} {pos:Pos} {T id:String} {Q:Value->Shared->Prop}
  (hl:typeLookup (.type T) "__getitem__"=pure (some (.builtin id))) (hs:FV slice)
  (h:wpAny (model prog w) A (eval value env) (fun o s₁=>wpAny (model prog w) A (eval slice env) (fun i s₂=>s₂.TypeIs o T/\wpAny (model prog w) A (getItem o i) Q E s₂) E s₁) E s):
  wpAny (model prog w) A (eval (.Subscript value slice pos) env) Q E s:=by
 refine Subscript_ (wpAny_mono h (fun o s₁ h₁=>wpAny_mono h₁ (fun i s₂ h₂=>?_) fun _ _ x=>x) fun _ _ x=>x)
 obtain⟨hT,h₂⟩:=h₂
 unfold subscriptTail
 refine wpAny_bind ?_
 rw[getitemInPython_of_ne hT.not_modules]
 refine wpAny_bind (wpAny_specialOf hT hl ?_)
 have fin:wpAny (model prog w) A (subscripted slice false o i) (fun r s₃=>wpAny (model prog w) A (letTemporaryGo value o r >>= fun _=>pure r) Q E s₃) E s₂:=by
  rw[hs o i]
  exact wpAny_operating (wpAny_mono h₂ (fun r s₃ h₃=>wpAny_bind (wpAny_letTemporaryGo (wpAny_pure h₃))) fun _ _ x=>x)
 first
  |exact wpAny_pure (wpAny_bind fin)
  |exact wpAny_bind (wpAny_pure (wpAny_bind fin))
  |exact wpAny_bind fin
theorem um {X:Cx} {pins:List (Addr×Obj)} {σ:St} {H:Hp} {s:Shared} {a:Addr} {y:V} {o:Option V} (I:Inv X pins σ H s) (g:xm H a y o):s.TypeIs (.ref a) "dict":=by
 rcases g with⟨kvs,k,e,_,_⟩|⟨kvs,k,b,e,_,_,_⟩
 ·obtain⟨_,_,vs,_,dd⟩:=xS I.hok e
  exact dd.typeIs
 ·obtain⟨_,_,xs,_,dd⟩:=xT I.hok e
  exact dd.typeIs
def FW (td ty:TE):TE:=fun σ H Q=>td σ H fun x H1=>ty σ H1 fun y H2=>∃a v,x= .ref a/\xm H2 a y (some v)/\Q v H2
def tDIn (ty td:TE):TE:=fun σ H Q=>ty σ H fun y H1=>td σ H1 fun x H2=>∃a o,x= .ref a/\xm H2 a y o/\Q (.bl o.isSome) H2
def BN (ty td:TE):TE:=fun σ H Q=>ty σ H fun y H1=>td σ H1 fun x H2=>∃a o,x= .ref a/\xm H2 a y o/\Q (.bl (!o.isSome)) H2
def FX (td ty tv:TE):TS:=fun D σ H=>tv σ H fun v H1=>td σ H1 fun x H2=>ty σ H2 fun y H3=>∃a H4,x= .ref a/\xn H3 a y v H4/\D.nx σ H4
section
variable {X:Cx} {o i e value:Expr} {pos pos' tpos:Pos} {td ty tv:TE}
theorem xY (hu:X.A.units+ 1<cLine) (ho:PE X o td) (hi:PE X i ty) (hs:FV i):PE X (.Subscript o i pos) (FW td ty):=by
 intro pins s σ H Q I h
 refine xX fi.lookup hs (thn (ho pins s σ H _ I h) fun u s1 ⟨x,H1,I1,rx,q1⟩=>thn (hi pins s1 σ H1 _ I1 q1) fun iv s2 ⟨y,H2,I2,ry,a,v,ex,g,q2⟩=>?_)
 subst ex
 obtain rfl:u=Value.ref a:=rx
 exact⟨um I2 g,xU hu I2 g ry fun w' s3 I3 rw'=>⟨v,H2,I3,rw',q2⟩⟩
theorem DR (hu:X.A.units+ 1<cLine) (hi:PE X i ty) (ho:PE X o td):PC X .In i o (tDIn ty td):=by
 intro pins s σ H Q I h
 refine thn (hi pins s σ H _ I h) fun iv s1 ⟨y,H1,I1,ry,q1⟩=>thn (ho pins s1 σ H1 _ I1 q1) fun u s2 ⟨x,H2,I2,rx,a,ov,ex,g,q2⟩=>?_
 subst ex
 obtain rfl:u=Value.ref a:=rx
 exact d_in hu I2 g ry fun s3 I3=>⟨.bl ov.isSome,H2,I3,rfl,q2⟩
theorem xZ (hu:X.A.units+ 1<cLine) (hi:PE X i ty) (ho:PE X o td):PC X .NotIn i o (BN ty td):=by
 intro pins s σ H Q I h
 refine thn (hi pins s σ H _ I h) fun iv s1 ⟨y,H1,I1,ry,q1⟩=>thn (ho pins s1 σ H1 _ I1 q1) fun u s2 ⟨x,H2,I2,rx,a,ov,ex,g,q2⟩=>?_
 subst ex
 obtain rfl:u=Value.ref a:=rx
 exact BM hu I2 g ry fun s3 I3=>⟨.bl (!ov.isSome),H2,I3,rfl,q2⟩
theorem m7 (hu:X.A.units+ 1<cLine) (ho:PE X o td) (hi:PE X i ty) (hv:PE X value tv) (hs:swapsWith value (some (.Subscript o i pos')) pos.line X.env=pure false):
  PS X (.Assign [.Subscript o i pos'] value pos) (FX td ty tv):=by
 intro pins s σ H D I h
 refine wpAny_Assign_Subscript (thn (hv pins s σ H _ I h) fun r s1 ⟨v,H1,I1,rv,q1⟩=>thn (ho pins s1 σ H1 _ I1 q1) fun u s2 ⟨x,H2,I2,rx,q2⟩=>thn (hi pins s2 σ H2 _ I2 q2) fun iv s3 ⟨y,H3,I3,ry,a,H4,ex,g,q3⟩=>?_) hs
 subst ex
 obtain rfl:u=Value.ref a:=rx
 exact xW hu I3 g ry rv fun s4 I4=>⟨σ,H4,I4,q3⟩
end
theorem zL {P:Program} {w:World} {H:Hp} (h:Heap) (hb:sysModules<h.objs.size):jd P w H (h.push {cls:= .type "dict",data:= .dict #[]}) h.objs.size (.dK []):=
 ⟨c8 _,beq_eq_false_iff_ne.mpr (Ne.symm (cW hb)),[],.nil,Heap.DictOf.new h⟩
def DS:TE:=fun _ H Q=>∀p,H p=none->Q (.ref p) (upd H p (.dK []))
section
variable {X:Cx} {pos:Pos}
theorem oF:PE X (.Dict [] [] pos) DS:=fun pins s σ H Q I h=>
 wpAny_Dict_empty ⟨.ref s.heap.objs.size,_,I.laid (a:=s.heap.objs.size) (o:= .dK []) (t':=s.toks) (fun _ _ q=>gv _ q) (c7 _) (zL s.heap I.big),rfl,h _ (I.hok.fresh (c7 _))⟩
end
def nJ (kvs more:List (Key×V)):List (Key×V):=more.foldl (fun acc kv=>nz acc kv.1 kv.2) kvs
theorem KV.merge:∀{more:List (Key×V)} {rs:List (Key×Value)} {kvs:List (Key×V)} {vs:List (Key×Value)},KV more rs->KV kvs vs->KV (nJ kvs more) (merged vs rs):=by
 intro more rs kvs vs r
 unfold KV at r
 induction r generalizing kvs vs with
 |nil=>intro q;exact q
 |@cons p q ps qs h t ih=>
  intro r0
  have e:KV (nz kvs p.1 p.2) (stored vs q.1 q.2):=by
   have:=r0.put p.1 h.2
   rw[<-h.1];exact this
  exact ih e
theorem lY:∀(more kvs:List (Key×V)),(nJ kvs more).length<=kvs.length+more.length
 |[],kvs=>by show kvs.length<=kvs.length+ 0;lia
 |p::r,kvs=>by
  have h1:=lY r (nz kvs p.1 p.2)
  have h2:=i0 kvs p.1 p.2
  show(nJ (nz kvs p.1 p.2) r).length<=_
  rw[aA];lia
structure M1 (X:Cx) (o:Expr) (m:Str) (apos:Pos) (e:Expr) (cpos:Pos):Prop where
 base:attributeBase o m X.env (eval o X.env)=eval o X.env
 few:((backTo cpos (starEach [e] X.env)).all (fun x=>!x.1)&&(backToKw cpos (keywordEach [] X.env)).all (fun x=>x.1.isSome)
  &&decide (([e]:List Expr).length+([]:List Keyword).length+(if([]:List Keyword).isEmpty then 0 else 1)<30))=true
 line:(apos.endLine==cpos.line)=true
 trees:backTo cpos (starEach [e] X.env)=[(false,eval e X.env)]
structure M2 (X:Cx) (o:Expr) (m:Str) (apos:Pos) (e f:Expr) (cpos:Pos):Prop where
 base:attributeBase o m X.env (eval o X.env)=eval o X.env
 few:((backTo cpos (starEach [e,f] X.env)).all (fun x=>!x.1)&&(backToKw cpos (keywordEach [] X.env)).all (fun x=>x.1.isSome)
  &&decide (([e,f]:List Expr).length+([]:List Keyword).length+(if([]:List Keyword).isEmpty then 0 else 1)<30))=true
 line:(apos.endLine==cpos.line)=true
 trees:backTo cpos (starEach [e,f] X.env)=[(false,eval e X.env),(false,eval f X.env)]
section
variable {X:Cx} {pins:List (Addr×Obj)} {σ:St} {H:Hp} {s:Shared} {a:Addr} {y d:V} {u r:Value} {o:Option V} {A:Around} {E:Value->Shared->Prop}
end
section
variable {X:Cx} {o e f:Expr} {apos cpos:Pos} {td ty tx:TE}
end
section
variable {X:Cx} {pins:List (Addr×Obj)} {σ:St} {H:Hp} {s:Shared} {a:Addr} {kvs:List (Key×V)} {A:Around} {E:Value->Shared->Prop}
end
section
variable {X:Cx} {pins:List (Addr×Obj)} {σ:St} {H:Hp} {s:Shared} {a:Addr} {y:V} {u:Value} {A:Around} {E:Value->Shared->Prop}
end
end L2.Internal
namespace HT.Internal
open PySem PyProof.Rows
section
open PySem.SeqAt
open PySem.AutoSeq1 (wpAny_loadPart')
open PySem.MeetsSeq PySem.MeetsSeq2 PySem.MeetsSeq3
end
section
variable {prog:Program} {w:World} {A:Around} {E:Value->Shared->Prop} {s:Shared}
theorem cat_tup {t b:Addr} {vs ws:List Value} {Q:Value->Shared->Prop} (ht:IsTup s.heap t vs.toArray) (hb:IsTup s.heap b ws.toArray) (hv:vs≠[])
  (h1:ws=[]->Q (.ref t) s) (h2:ws≠[]->Q (.ref s.heap.objs.size) {s with heap:=s.heap.push {cls:= .type "tuple",data:= .seq (vs++ws).toArray}})
  (hsz:vs.length+ws.length<=sizeLine):wpAny (model prog w) A (binaryOp .Add (.ref t) (.ref b)) Q E s:=by
 obtain⟨⟨cls,dd,data,sl⟩,ho,hc,n,hd⟩:=id ht
 obtain⟨⟨cls2,dd2,data2,sl2⟩,ho2,hc2,n2,hd2⟩:=id hb
 simp only at hc hd hc2 hd2
 subst hc hd hc2 hd2
 have e:vs.toArray++ws.toArray=(vs++ws).toArray:=by simp
 by_cases hw:ws=[]
 ·exact concat_meets ⟨_,ho,rfl⟩ ⟨_,ho2,rfl⟩ noFill_tuple_add seq_tuple_add fj fq (ft _ _)
   (tuple_addW1 t b vs.toArray ws.toArray n n2 dd dd2 sl sl2 (by simpa using hv) (by simp[hw])) ⟨ho,ho2,h1 hw⟩
 ·refine concat_meets ⟨_,ho,rfl⟩ ⟨_,ho2,rfl⟩ noFill_tuple_add seq_tuple_add fj fq (ft _ _)
   (tuple_addW2 t b vs.toArray ws.toArray n n2 dd dd2 sl sl2 (by simpa using hv) (by simpa using hw) (by rw[aV,aV];exact hsz)) ⟨ho,ho2,?_⟩
  rw[e]
  exact h2 hw
def sIx (n d:Nat):Option Int->Nat
 |none=>d
 |some v=>if v<0 then(v+(n:Int)).toNat else min v.toNat n
theorem sIx_none (n d:Nat):sIx n d none=d:=rfl
theorem sIx_nat (n d k:Nat):sIx n d (some (k:Int))=min k n:=by
 show(if(k:Int)<0 then((k:Int)+(n:Int)).toNat else min (k:Int).toNat n)=min k n
 rw[if_neg (by lia),gf]
theorem DT (n d:Nat) (hd:d<=n) (o:Option Int):sIx n d o<=n:=by
 cases o with
 |none=>exact hd
 |some v=>
  show(if v<0 then(v+(n:Int)).toNat else min v.toNat n)<=n
  by_cases hv:v<0
  ·rw[if_pos hv];lia
  ·rw[if_neg hv];exact Nat.min_le_right _ _
theorem yb (v:Int) (n d:Nat):(if v<0 then max (v+(n:Int)) 0 else min v (n:Int))=((sIx n d (some v):Nat):Int):=by
 show(if v<0 then max (v+(n:Int)) 0 else min v (n:Int))=(((if v<0 then(v+(n:Int)).toNat else min v.toNat n):Nat):Int)
 by_cases hv:v<0
 ·simp only[if_pos hv];lia
 ·simp only[if_neg hv];lia
theorem wz (lo hi:Option Int) (n:Nat):Builtin.Slice.sliceAdjust lo hi 1 (n:Int)=(((sIx n 0 lo:Nat):Int),((sIx n n hi:Nat):Int)):=by
 have h1:¬((1:Int)<0):=by lia
 unfold Builtin.Slice.sliceAdjust
 simp only[h1,if_false]
 refine Prod.ext ?_ ?_
 ·cases lo with
  |none=>rfl
  |some v=>exact yb v n 0
 ·cases hi with
  |none=>rfl
  |some v=>exact yb v n n
theorem wA (i j:Nat):Builtin.Slice.slicePlaces (i:Int) (j:Int) 1=j-i:=by
 unfold Builtin.Slice.slicePlaces
 have h1:(1:Int)>0:=by lia
 simp only[h1,if_true,Int.ediv_one]
 split<;>lia
theorem qv {v:Value} {o:Option Int} {Q:Option Int->Shared->Prop} (p:IsPart v o) (h:Q o s):wpAny (model prog w) A (Builtin.Slice.slicePartIndex v) Q E s:=by
 cases p with
 |none=>exact slicePart_none h
 |int i t=>exact slicePart_int h
theorem oA {sl:Addr} {vl vu:Value} {lo hi:Option Int} {n:Nat} {Q:Int×Int×Nat->Shared->Prop} (hs:s.heap.IsSliceOf sl vl vu .none) (pl:IsPart vl lo) (pu:IsPart vu hi)
  (h:Q (((sIx n 0 lo:Nat):Int),1,sIx n n hi-sIx n 0 lo) s):wpAny (model prog w) A (Builtin.Slice.sliceApplied (.ref sl) (pure (n:Int))) Q E s:=by
 obtain⟨os,hos,hcs,hds⟩:=id hs
 unfold Builtin.Slice.sliceApplied Builtin.Slice.sliceFields
 refine wpAny_bind (wpAny_bind (wpAny_field hos hds (x:=vl) rfl (wpAny_bind (wpAny_field hos hds (x:=vu) rfl (wpAny_bind (wpAny_field hos hds (x:= .none) rfl (wpAny_pure ?_)))))))
 refine wpAny_bind (slicePart_none ?_)
 show wpAny _ _ (if((1:Int)==0)=true then _ else _) _ _ s
 rw[if_neg (by decide)]
 refine wpAny_bind (qv pl (wpAny_bind (qv pu (wpAny_bind (wpAny_pure ?_)))))
 show wpAny _ _ (match Builtin.Slice.sliceAdjust lo hi 1 (n:Int)with|(lo,hi)=>pure (lo,(1:Int),Builtin.Slice.slicePlaces lo hi 1)) _ _ s
 rw[wz lo hi n]
 show wpAny _ _ (pure (((sIx n 0 lo:Nat):Int),(1:Int),Builtin.Slice.slicePlaces ((sIx n 0 lo:Nat):Int) ((sIx n n hi:Nat):Int) 1)) _ _ s
 rw[wA]
 exact wpAny_pure h
theorem zM (xs:Array Value) (i k:Nat):((aa k).filterMap fun(m:Nat)=>xs[((i:Int)+(m:Int)*1).toNat]?).toArray=((xs.toList.drop i).take k).toArray:=by
 have e:(fun(m:Nat)=>xs[((i:Int)+(m:Int)*1).toNat]?)=fun m=>xs[i+m]?:=by
  funext m
  have:((i:Int)+(m:Int)*1).toNat=i+m:=by lia
  rw[this]
 rw[e]
 have:=pick_run xs i k
 rw[List.filterMap_map]at this
 have e2:((fun x=>xs[x]?)∘fun x=>i+x)=fun m=>xs[i+m]?:=rfl
 rw[e2]at this
 rw[this]
theorem getItem_tuple_cut {t sl:Addr} {items:Array Value} {vl vu:Value} {lo hi:Option Int} {Q:Value->Shared->Prop} (ht:IsTup s.heap t items) (hs:s.heap.IsSliceOf sl vl vu .none) (pl:IsPart vl lo) (pu:IsPart vu hi)
  (hw:¬(sIx items.size 0 lo=0/\sIx items.size items.size hi=items.size))
  (h:Q (.ref s.heap.objs.size) {s with heap:=s.heap.push {cls:= .type "tuple",data:= .seq ((items.toList.drop (sIx items.size 0 lo)).take (sIx items.size items.size hi-sIx items.size 0 lo)).toArray}})
  (hsz:items.size<=sizeLine):wpAny (model prog w) A (getItem (.ref t) (.ref sl)) Q E s:=by
 have htake:sizeOk (.seq ((items.toList.drop (sIx items.size 0 lo)).take (sIx items.size items.size hi-sIx items.size 0 lo)).toArray):=by
  show((items.toList.drop (sIx items.size 0 lo)).take (sIx items.size items.size hi-sIx items.size 0 lo)).toArray.size<=sizeLine
  rw[aV,aI,aW,fY]
  lia
 have hj:sIx items.size items.size hi<=items.size:=DT _ _ (c7 _) hi
 obtain⟨os,hos,hcs,hds⟩:=id hs
 have hTs:s.TypeIs (.ref sl) "slice":=⟨os,hos,hcs⟩
 unfold getItem
 try with_reducible refine wpAny_holding ?_
 first|refine wpAny_bind (wpAny_pure ?_)|skip
 refine wpAny_bind (wpAny_sequenceKey ht.typeIs (by decide) ?_)
 refine wpAny_bind (wpAny_callSpecial?_slot (name:=Str.ofString "__getitem__") ht.typeIs gA
  (wpAny_call_entry gA ht.typeIs entry_tuple_getitem ?_ (args_tuple_getitem _ _)))
 show wpAny _ _ (Builtin.Tuple.tupleItemsOf (.ref t) >>= _) _ _ s
 refine wpAny_bind (tupleItemsOf_ ht ?_)
 refine wpAny_bind (wpAny_typeOf hTs ?_)
 rw[if_pos (by decide)]
 refine wpAny_bind (oA hs pl pu ?_)
 have hno:¬((((sIx items.size 0 lo:Nat):Int)==0&&(1:Int)==1&&(sIx items.size items.size hi-sIx items.size 0 lo)==items.size)=true):=by
  intro q
  rw[fV,fV]at q
  have q1:((sIx items.size 0 lo:Nat):Int)=0:=eq_of_beq q.1.1
  have q2:sIx items.size items.size hi-sIx items.size 0 lo=items.size:=eq_of_beq q.2
  exact hw ⟨by lia,by lia⟩
 show wpAny _ _ (if(((sIx items.size 0 lo:Nat):Int)==0&&(1:Int)==1&&(sIx items.size items.size hi-sIx items.size 0 lo)==items.size)=true then _ else _) _ _ s
 rw[if_neg hno,zM]
 first
  |exact wpAny_bind (m:=Builtin.Tuple.tupleExact _) (wpAny_newObj_type (wpAny_pure ⟨_,rfl,wpAny_pure h⟩) htake)
  |exact wpAny_bind (m:=Builtin.Tuple.tupleExact _) (wpAny_newObj_type (wpAny_bind (wpAny_pure (wpAny_pure ⟨_,rfl,wpAny_pure h⟩))) htake)
  |exact wpAny_bind (wpAny_bind (m:=Builtin.Tuple.tupleExact _) (wpAny_newObj_type (wpAny_pure (wpAny_pure ⟨_,rfl,wpAny_pure h⟩)) htake))
  |exact wpAny_bind (wpAny_bind (m:=Builtin.Tuple.tupleExact _) (wpAny_newObj_type (wpAny_pure ⟨_,rfl,wpAny_pure h⟩) htake))
end
end HT.Internal
namespace L2.Internal
open PySem PySem.Spec PyProof.Rows
abbrev TO:=St->Hp->(Option Int->Hp->Prop)->Prop
def PO (X:Cx) (e:Option Expr) (t:TO):Prop:=
 ∀(pins:List (Addr×Obj)) (s:Shared) (σ:St) (H:Hp) (Q:Option Int->Hp->Prop),Inv X pins σ H s->t σ H Q->
  wpAny (model X.prog X.w) X.A (evalPart e X.env) (fun u s'=>∃o H',Inv X pins σ H' s'/\IsPart u o/\Q o H') X.xe s
def BP:TO:=fun _ H Q=>Q none H
def FY (t:TE):TO:=fun σ H Q=>t σ H fun x H1=>∃i,x= .int i/\Q (some i) H1
theorem n5 {ns:List Int}:∀{us:List Value},iV (ns.map V.int) us->IntsAre us ns:=by
 induction ns with
 |nil=>intro us r;rw[aU]at r;cases r;exact .nil
 |cons n ns ih=>
  intro us r
  rw[aC]at r
  cases r with
  |cons r1 r2=>
   obtain⟨t,e⟩:=r1
   subst e
   exact .cons n t (ih r2)
section
variable {X:Cx} {e:Expr} {te:TE} {lo hi:Option Expr} {tl th:TO} {pos p2:Pos}
theorem lZ:PO X none BP:=by
 intro pins s σ H Q I h
 rw[evalPart_none]
 exact wpAny_pure ⟨none,H,I,.none,h⟩
theorem kW (h:PE X e te):PO X (some e) (FY te):=by
 intro pins s σ H Q I hw
 rw[evalPart_some]
 refine thn (h pins s σ H _ I hw) fun u s1 ⟨x,H1,I1,r1,q1⟩=>?_
 obtain⟨i,rfl,q⟩:=q1
 obtain⟨t,rfl⟩:=r1
 exact⟨some i,H1,I1,.int i t,q⟩
def SlR (X:Cx) (r:V->Option Int->Option Int->Hp->VK->Prop):Prop:=
 ∀(pins:List (Addr×Obj)) (s:Shared) (σ:St) (H:Hp) (x:V) (v vl vu:Value) (lo hi:Option Int) (sl:Addr) (Q:VK),Inv X pins σ H s->jq x v->s.heap.IsSliceOf sl vl vu .none->IsPart vl lo->IsPart vu hi->r x lo hi H Q->
  ∃T id,typeLookup (.type T) "__getitem__"=pure (some (.builtin id))/\s.TypeIs v T/\wpAny (model X.prog X.w) X.A (getItem v (.ref sl)) (EP X pins σ Q) X.xe s
def tSl (r:V->Option Int->Option Int->Hp->VK->Prop) (te:TE) (tl th:TO):TE:=fun σ H Q=>te σ H fun x H1=>tl σ H1 fun l H2=>th σ H2 fun u H3=>r x l u H3 Q
theorem kC {r:V->Option Int->Option Int->Hp->VK->Prop} (hr:SlR X r) (he:PE X e te) (hl:PO X lo tl) (hu:PO X hi th):PE X (.Subscript e (.Slice lo hi none p2) pos) (tSl r te tl th):=by
 intro pins s σ H Q I h
 refine Subscript_ (thn (he pins s σ H _ I h) fun v s1 ⟨x,H1,I1,r1,q1⟩=>?_)
 refine wpAny_Slice (thn (hl pins s1 σ H1 _ I1 q1) fun vl s2 ⟨l,H2,I2,pl,q2⟩=>thn (hu pins s2 σ H2 _ I2 q2) fun vu s3 ⟨u,H3,I3,pu,q3⟩=>?_)
 rw[evalPart_none]
 refine wpAny_pure ?_
 have I4:Inv X pins σ H3 {s3 with heap:=s3.heap.push {cls:= .type "slice",data:= .fields #[vl,vu,.none]}}:=I3.kept (t':=s3.toks) fun b ob q=>gv _ q
 obtain⟨T,id,hT,ht,hg⟩:=hr pins {s3 with heap:=s3.heap.push {cls:= .type "slice",data:= .fields #[vl,vu,.none]}} σ H3 x v vl vu l u s3.heap.objs.size Q I4 r1 (Heap.IsSliceOf.new ..) pl pu q3
 show wpAny (model X.prog X.w) X.A (subscriptTail e (.Slice lo hi none p2) v (.ref s3.heap.objs.size)) (EP X pins σ Q) X.xe {s3 with heap:=s3.heap.push {cls:= .type "slice",data:= .fields #[vl,vu,.none]}}
 exact tail_any (ops:=[.ref s3.heap.objs.size,v]) ht hT hg (by with_unfolding_all rfl)
def sI (xs:List V) (lo hi:Option Int):List V:=(xs.drop (HT.Internal.sIx xs.length 0 lo)).take (HT.Internal.sIx xs.length xs.length hi-HT.Internal.sIx xs.length 0 lo)
theorem oX (xs:List V) (lo hi:Option Int):(sI xs lo hi).length<=xs.length:=by
 unfold sI
 rw[aI,aW]
 lia
def rSlT (K:PySem.W.Frag):V->Option Int->Option Int->Hp->VK->Prop:=fun x lo hi H Q=>∃a xs,x= .ref a/\SqT K H a xs/\
 ¬(HT.Internal.sIx xs.length 0 lo=0/\HT.Internal.sIx xs.length xs.length hi=xs.length)/\∀p,H p=none->Q (.ref p) (upd H p (.tup (sI xs lo hi)))
theorem DU:SlR X (rSlT X.K):=by
 intro pins s σ H x v vl vu lo hi sl Q I rx hs pl pu h
 obtain⟨a,xs,rfl,hx,hw,q⟩:=h
 cases rx
 obtain⟨its,r,ht,hz⟩:=I.tuple hx
 have hlen:its.toArray.size=xs.length:=by rw[aV];exact r.length.symm
 refine⟨"tuple",_,gA.lookup,ht.typeIs,?_⟩
 refine HT.Internal.getItem_tuple_cut ht hs pl pu (by rw[hlen];exact hw) ?_ (by rw[hlen];exact hz)
 rw[hlen]
 refine⟨.ref s.heap.objs.size,_,I.laid (t':=s.toks) (o:= .tup (sI xs lo hi)) (fun b ob q=>gv _ q) (c7 _) ?_,rfl,q _ (I.hok.fresh (c7 _))⟩
 exact⟨cX (oX xs lo hi) hz,_,(r.drop (HT.Internal.sIx xs.length 0 lo)).take (HT.Internal.sIx xs.length xs.length hi-HT.Internal.sIx xs.length 0 lo),xj.new _ _⟩
def FZ (K:PySem.W.Frag):R2:=fun x y H Q=>∃a b xs ys,x= .ref a/\y= .ref b/\SqT K H a xs/\SqT K H b ys/\xs≠[]/\xs.length+ys.length<=sizeLine/\
 (ys=[]->Q (.ref a) H)/\(ys≠[]->∀p,H p=none->Q (.ref p) (upd H p (.tup (xs++ys))))
theorem iV.nil_iff {xs:List V} {us:List Value} (r:iV xs us):us=[]↔xs=[]:=by
 cases r with
 |nil=>simp
 |cons _ _=>simp
theorem BQ:OpR X (binaryOp .Add) (FZ X.K):=by
 intro pins s σ H x y v u Q I rx ry h
 obtain⟨a,b,xs,ys,rfl,rfl,ha,hb,hx,hz,q1,q2⟩:=h
 cases rx
 cases ry
 obtain⟨its,r1,p1,_⟩:=I.tuple ha
 obtain⟨its2,r2,p2,_⟩:=I.tuple hb
 refine HT.Internal.cat_tup p1 p2 (fun z=>hx (r1.nil_iff.mp z)) (fun z=>⟨.ref a,H,I,rfl,q1 (r2.nil_iff.mp z)⟩) (fun z=>?_) (by rw[<-r1.length,<-r2.length];exact hz)
 refine⟨.ref s.heap.objs.size,_,I.laid (t':=s.toks) (o:= .tup (xs++ys)) (fun b ob q=>gv _ q) (c7 _) ?_,rfl,q2 (fun w=>z (r2.nil_iff.mpr w)) _ (I.hok.fresh (c7 _))⟩
 exact⟨by rw[aO];exact hz,_,r1.append r2,xj.new _ _⟩
end
def ixN (n:Nat) (i:Int):Option Nat:=if 0<=i then(if i<n then some i.toNat else none)else if-(n:Int)<=i then some (i+n).toNat else none
def atI {α:Type} (xs:List α) (i:Int):Option α:=(ixN xs.length i).bind fun j=>xs[j]?
theorem yc {n:Nat} {i:Int} {j:Nat} (h:ixN n i=some j):seqIndex? i n=some j/\j<n/\-(n:Int)<=i/\i<n:=by
 unfold ixN at h
 by_cases h0:0<=i
 ·rw[if_pos h0]at h
  by_cases h1:i<n
  ·rw[if_pos h1]at h
   have e:i.toNat=j:=dB.inj h
   exact⟨by rw[seqIndex_of h0 h1,e],by lia,by lia,h1⟩
  ·rw[if_neg h1]at h;cases h
 ·rw[if_neg h0]at h
  by_cases h1: -(n:Int)<=i
  ·rw[if_pos h1]at h
   have e:(i+n).toNat=j:=dB.inj h
   exact⟨by rw[seqIndex_neg (by lia) h1,e],by lia,h1,by lia⟩
  ·rw[if_neg h1]at h;cases h
theorem uo {α:Type} {xs:List α} {i:Int} {v:α} (h:atI xs i=some v):∃j,seqIndex? i xs.length=some j/\xs[j]?=some v/\j<xs.length/\-(xs.length:Int)<=i/\i<xs.length:=by
 unfold atI at h
 cases e:ixN xs.length i with
 |none=>rw[e]at h;cases h
 |some j=>
  rw[e]at h
  obtain⟨h1,h2,h3,h4⟩:=yc e
  exact⟨j,h1,h,h2,h3,h4⟩
theorem gN {α:Type} {xs:List α} {j:Nat} {v:α} (h:xs[j]?=some v):atI xs (j:Int)=some v:=by
 have hj:j<xs.length:=(au.mp h).1
 have e:ixN xs.length (j:Int)=some j:=by
  unfold ixN
  rw[if_pos (by lia),if_pos (by lia)];simp
 unfold atI;rw[e];exact h
def BR (b:Expr):Prop:=∀o i,subscripted b false o i=operate [o,i] (getItem o i)
def IxR (X:Cx) (r:R2):Prop:=
 ∀(value slice:Expr) (pins:List (Addr×Obj)) (s:Shared) (σ:St) (H:Hp) (x y:V) (v u:Value) (Q:VK),Inv X pins σ H s->jq x v->jq y u->r x y H Q->
  subscripted slice false v u=operate [v,u] (getItem v u)->wpAny (model X.prog X.w) X.A (subscriptTail value slice v u) (EP X pins σ Q) X.xe s
def MtR (X:Cx) (id:String) (r:V->List V->Hp->VK->Prop):Prop:=
 ∀(pins:List (Addr×Obj)) (s:Shared) (σ:St) (H:Hp) (x:V) (xs:List V) (v:Value) (us:List Value) (Q:VK),Inv X pins σ H s->jq x v->iV xs us->r x xs H Q->
  wpAny (model X.prog X.w) X.A (call (.builtin id) (v::us)) (EP X pins σ Q) X.xe s
section
variable {X:Cx} {a b:Expr} {ta tb:TE} {pos:Pos}
theorem hU {r:R2} (hr:IxR X r) (ha:PE X a ta) (hb:PE X b tb) (hs:BR b):PE X (.Subscript a b pos) (tOp r ta tb):=by
 intro pins s σ H Q I h
 exact Subscript_ (FO ha hb I h fun v u s2 x y H2 I2 rx ry q=>hr a b pins s2 σ H2 x y v u Q I2 rx ry q (hs _ _))
def rIxL (K:PySem.W.Frag):R2:=fun x y H Q=>∃p xs i v,x= .ref p/\y= .int i/\SqL K H p xs/\atI xs i=some v/\Q v H
def rIxT (K:PySem.W.Frag):R2:=fun x y H Q=>∃p xs i v,x= .ref p/\y= .int i/\SqT K H p xs/\atI xs i=some v/\Q v H
def rIxS:R2:=fun x y H Q=>∃z i c,x= .str z/\y= .int i/\z.length<=sizeLine/\atI z.cps.toList i=some c/\Q (.str ⟨#[c]⟩) H
theorem yd:IxR X (rIxL X.K):=by
 intro value slice pins s σ H x y v u Q I rx ry h hs
 obtain⟨p,xs,i,z,rfl,rfl,hq,he,q⟩:=h
 cases rx
 obtain⟨t,rfl⟩:=ry
 obtain⟨its,r,pl,hz⟩:=I.list hq
 obtain⟨j,h1,h2,h3,h4,h5⟩:=uo he
 obtain⟨w,ew,rw'⟩:=r.get h2
 have hl:=r.length
 have hn:=qo
 have fin:EP X pins σ Q w s:=⟨z,H,I,rw',q⟩
 by_cases h0:0<=i
 ·have hj:i.toNat=j:=by
   rw[seqIndex_of h0 h5]at h1
   exact dB.inj h1
  exact item_listR pl.isList h0 (by lia) (by rw[hj];simpa using ew) fin hs
 ·have hj:(i+(its.toArray.size:Int)).toNat=j:=by
   rw[seqIndex_neg (by lia) h4]at h1
   rw[aV,<-hl]
   exact dB.inj h1
  exact subscriptTail_builtinR (x:=w) pl.isList.typeIs slot_list_getitem.lookup
   (wpAny_getItem_list_neg (Q:=fun r s'=>r=w/\EP X pins σ Q r s') pl.isList (by lia) (by rw[aV]<;>lia) (by lia) (by rw[hj];simpa using ew) ⟨rfl,fin⟩) hs
theorem DV:IxR X (rIxT X.K):=by
 intro value slice pins s σ H x y v u Q I rx ry h hs
 obtain⟨p,xs,i,z,rfl,rfl,hq,he,q⟩:=h
 cases rx
 obtain⟨t,rfl⟩:=ry
 obtain⟨its,r,pl,hz⟩:=I.tuple hq
 obtain⟨j,h1,h2,h3,h4,h5⟩:=uo he
 obtain⟨w,ew,rw'⟩:=r.get h2
 have hl:=r.length
 have hn:=qo
 have fin:EP X pins σ Q w s:=⟨z,H,I,rw',q⟩
 exact subscriptTail_builtinR (x:=w) pl.typeIs slot_tuple_getitem.lookup
  (getItem_tuple (j:=j) (Q:=fun r s'=>r=w/\EP X pins σ Q r s') pl (by lia) (by lia) (by rw[aV,<-hl];exact h1) (by simpa using ew) ⟨rfl,fin⟩) hs
theorem ye:IxR X rIxS:=by
 intro value slice pins s σ H x y v u Q I rx ry h hs
 obtain⟨z,i,c,rfl,rfl,hz,he,q⟩:=h
 obtain⟨t,rfl⟩:=rx
 obtain⟨t',rfl⟩:=ry
 obtain⟨j,h1,h2,h3,h4,h5⟩:=uo he
 have hl:z.cps.toList.length=z.length:=by simp[Str.length]
 rw[hl]at h1 h4 h5
 have hn:=qo
 exact tail_any (typeIs_str s z t) slot_str_getitem.lookup (getItem_str (c:=c) (by
  have e1:decide (i< -(2^63:Int))=false:=decide_eq_false (by lia)
  have e2:decide (i≥2^63)=false:=decide_eq_false (by lia)
  rw[e1,e2,Bool.or_false]) (by rw[h1];simpa using h2) ⟨.str ⟨#[c]⟩,H,I.tok _,⟨_,rfl⟩,q⟩) hs
theorem wC (its:List Value) (n j:Nat) (u:Value):Obj.mapSeq (·.setIfInBounds j u) {cls:= .type "list",data:= .seq its.toArray n}={cls:= .type "list",data:= .seq (its.set j u).toArray n}:=by
 simp[Obj.mapSeq]
theorem Inv.lst {pins:List (Addr×Obj)} {σ:St} {H:Hp} {s:Shared} {p:Addr} {xs:List V} (I:Inv X pins σ H s) (h:H p=some (.lst xs)):
  ∃(its:List Value) (n:Nat),iV xs its/\s.heap.get? p=some {cls:= .type "list",data:= .seq its.toArray n}/\xs.length<=sizeLine:=by
 obtain⟨z,its,n,r,e⟩:=I.hok p _ h
 exact⟨its,n,r,e,z⟩
theorem Inv.lstUpd {pins:List (Addr×Obj)} {σ:St} {H:Hp} {s:Shared} {p:Addr} {xs ys:List V} {its its':List Value} {n n':Nat} {f:Obj->Obj} (I:Inv X pins σ H s) (h:H p=some (.lst xs))
  (ho:s.heap.get? p=some {cls:= .type "list",data:= .seq its.toArray n}) (hf:f {cls:= .type "list",data:= .seq its.toArray n}={cls:= .type "list",data:= .seq its'.toArray n'}) (r:iV ys its') (hz:ys.length<=sizeLine) (t:Nat):
  Inv X pins σ (upd H p (.lst ys)) {s with heap:=s.heap.update p f,toks:=t}:=by
 have e:(s.heap.update p f).get? p=some {cls:= .type "list",data:= .seq its'.toArray n'}:=by
  rw[gx f ho (by rw[hf]<;>rfl),hf]
 refine I.write (x:=p) (e:=p) (by rw[h];trivial) (.inl rfl) (fun b u hb q=>(gy _ _ (Ne.symm hb)).trans q) ⟨_,e⟩ ?_
 exact⟨hz,its',n',r,e⟩
def F0:V->V->V->Hp->(Hp->Prop)->Prop:=fun o i v H Q=>∃p xs k j,o= .ref p/\i= .int k/\H p=some (.lst xs)/\ixN xs.length k=some j/\Q (upd H p (.lst (xs.set j v)))
theorem vn:GP X F0:=by
 intro pins s σ H o i v ov iv u Q I ro ri rv h
 obtain⟨p,xs,k,j,rfl,rfl,hp,hj,q⟩:=h
 cases ro
 obtain⟨t,rfl⟩:=ri
 obtain⟨its,n,r,ho,hz⟩:=I.lst hp
 obtain⟨h1,h2,h3,h4⟩:=yc hj
 have hl:=r.length
 have hn:=qo
 have I':Inv X pins σ (upd H p (.lst (xs.set j v))) {s with heap:=s.heap.update p (Obj.mapSeq (·.setIfInBounds j u))}:=
  I.lstUpd hp ho (wC its n j u) (r.set rv j) (by rw[aX];exact hz) s.toks
 by_cases h0:0<=k
 ·have hk:k.toNat=j:=by
   rw[seqIndex_of h0 h4]at h1
   exact dB.inj h1
  exact PySem.W.ki_setAt ho h0 (by lia) (by rw[aV,<-hl];exact h4) (by rw[hk];exact⟨_,I',q⟩)
 ·have hk:(k+(its.toArray.size:Int)).toNat=j:=by
   rw[seqIndex_neg (by lia) h3]at h1
   rw[aV,<-hl]
   exact dB.inj h1
  exact PySem.W.ki_setBack ho (by lia) (by rw[aV,<-hl];exact h3) (by lia) (by rw[hk];exact⟨_,I',q⟩)
theorem sJ (lo hi:Option Int) (n:Nat):(sliceBounds lo hi none n).1=((HT.Internal.sIx n 0 lo:Nat):Int)/\(sliceBounds lo hi none n).2.1=((HT.Internal.sIx n n hi:Nat):Int)/\(sliceBounds lo hi none n).2.2=1:=by
 refine⟨?_,?_,rfl⟩
 ·cases lo with
  |none=>simp[sliceBounds,HT.Internal.sIx]
  |some i=>
   simp only[sliceBounds,HT.Internal.sIx,Option.getD_none,show(1:Int)>0 by decide,if_true]
   by_cases h:i<0
   ·simp only[h,if_true]<;>lia
   ·simp only[h,if_false]<;>lia
 ·cases hi with
  |none=>simp[sliceBounds,HT.Internal.sIx]
  |some i=>
   simp only[sliceBounds,HT.Internal.sIx,Option.getD_none,show(1:Int)>0 by decide,if_true]
   by_cases h:i<0
   ·simp only[h,if_true]<;>lia
   ·simp only[h,if_false]<;>lia
theorem qT (its:List Value) (lo hi:Option Int):slicePick its.toArray lo hi none=((its.drop (HT.Internal.sIx its.length 0 lo)).take (HT.Internal.sIx its.length its.length hi-HT.Internal.sIx its.length 0 lo)).toArray:=by
 obtain⟨h1,h2,h3⟩:=sJ lo hi its.toArray.size
 unfold slicePick
 rw[h1,h2,h3]
 simp only[sliceRange_one,pick_run,aV]<;>rfl
def rSlL (K:PySem.W.Frag):V->Option Int->Option Int->Hp->VK->Prop:=fun x lo hi H Q=>∃a xs,x= .ref a/\SqL K H a xs/\∀p,H p=none->Q (.ref p) (upd H p (.lst (sI xs lo hi)))
theorem uq:SlR X (rSlL X.K):=by
 intro pins s σ H x v vl vu lo hi sl Q I rx hs pl pu h
 obtain⟨a,xs,rfl,hx,q⟩:=h
 cases rx
 obtain⟨its,r,ht,hz⟩:=I.list hx
 have hlen:=r.length
 refine⟨"list",_,slot_list_getitem.lookup,ht.isList.typeIs,?_⟩
 refine wpAny_getItem_list_slice ht.isList hs pl pu .none (by simp) ?_ (by rw[aV]<;>lia)
 rw[qT,<-hlen]
 refine⟨.ref s.heap.objs.size,_,I.laid (t':=s.toks) (o:= .lst (sI xs lo hi)) (fun b ob q=>gv _ q) (c7 _) ?_,rfl,q _ (I.hok.fresh (c7 _))⟩
 exact⟨cX (oX xs lo hi) hz,_,0,(r.drop (HT.Internal.sIx xs.length 0 lo)).take (HT.Internal.sIx xs.length xs.length hi-HT.Internal.sIx xs.length 0 lo),gr _ rfl⟩
def m8:V->Bool
 | .non=>true
 | .bl _=>true
 | .int _=>true
 | .str _=>true
 |_=>false
def eqV:V->V->Bool
 | .non,.non=>true
 | .bl a,.bl b=>a==b
 | .bl a,.int b=>(if a then 1 else 0)==b
 | .int a,.bl b=>a==(if b then 1 else 0)
 | .int a,.int b=>a==b
 | .str a,.str b=>a==b
 |_,_=>false
theorem AZ {A:Around} {s:Shared} {y x:V} {u v:Value} (ry:jq y u) (rx:jq x v) (fy:m8 y=true) (fx:m8 x=true):SeqAt.EqAt A s u v (eqV y x):=by
 cases y with
 |non=>
  cases ry
  cases x with
  |non=>cases rx;exact SeqAt.EqAt.same _
  |bl b=>cases rx;exact SeqAt.EqAt.none_bool b
  |int b=>obtain⟨t,rfl⟩:=rx;exact SeqAt.EqAt.none_int b t
  |str b=>obtain⟨t,rfl⟩:=rx;exact SeqAt.EqAt.none_str b t
  |_=>exact absurd (show false=true from fx) fN
 |bl a=>
  cases ry
  cases x with
  |non=>cases rx;exact SeqAt.EqAt.bool_none a
  |bl b=>cases rx;exact SeqAt.EqAt.bool_bool a b
  |int b=>obtain⟨t,rfl⟩:=rx;exact SeqAt.EqAt.bool_int a b t
  |str b=>obtain⟨t,rfl⟩:=rx;exact SeqAt.EqAt.bool_str a b t
  |_=>exact absurd (show false=true from fx) fN
 |int a=>
  obtain⟨t',rfl⟩:=ry
  cases x with
  |non=>cases rx;exact SeqAt.EqAt.int_none a t'
  |bl b=>cases rx;exact SeqAt.EqAt.int_bool a t' b
  |int b=>obtain⟨t,rfl⟩:=rx;exact SeqAt.EqAt.int_int a t' b t
  |str b=>obtain⟨t,rfl⟩:=rx;exact SeqAt.EqAt.int_str a t' b t
  |_=>exact absurd (show false=true from fx) fN
 |str a=>
  obtain⟨t',rfl⟩:=ry
  cases x with
  |non=>cases rx;exact SeqAt.EqAt.str_none a t'
  |bl b=>cases rx;exact SeqAt.EqAt.str_bool a t' b
  |int b=>obtain⟨t,rfl⟩:=rx;exact SeqAt.EqAt.str_int a t' b t
  |str b=>obtain⟨t,rfl⟩:=rx;exact SeqAt.EqAt.str_str a t' b t
  |_=>exact absurd (show false=true from fx) fN
 |_=>exact absurd (show false=true from fy) fN
def eqU (x:V) (u:Value):Bool:=match u with
 | .none=>eqV .non x
 | .bool b=>eqV (.bl b) x
 | .int i _=>eqV (.int i) x
 | .str z _=>eqV (.str z) x
 |_=>false
theorem A0 {x y:V} {u:Value} (r:jq y u) (f:m8 y=true):eqU x u=eqV y x:=by
 cases y with
 |non=>cases r;rfl
 |bl b=>cases r;rfl
 |int i=>obtain⟨t,rfl⟩:=r;rfl
 |str z=>obtain⟨t,rfl⟩:=r;rfl
 |_=>exact absurd (show false=true from f) fN
theorem ur {x:V}:∀{xs:List V} {us:List Value},iV xs us->xs.all m8=true->us.any (eqU x)=xs.any fun y=>eqV y x
 |_,_,.nil,_=>rfl
 |y::xs,u::us,.cons r t,f=>by
  rw[aY,fV]at f
  rw[aR,aR,A0 r f.1,ur t f.2]
theorem qU {A:Around} {s:Shared} {x:V} {v:Value} (rx:jq x v) (fx:m8 x=true):∀{xs:List V} {us:List Value},iV xs us->xs.all m8=true->∀u∈us,SeqAt.EqAt A s u v (eqU x u)
 |_,_,.nil,_=>fun u hu=>by cases hu
 |y::xs,u::us,.cons r t,f=>fun u' hu=>by
  rw[aY,fV]at f
  rcases aj.mp hu with rfl|hu
  ·rw[A0 r f.1];exact AZ r rx f.1 fx
  ·exact qU rx fx t f.2 u' hu
def inV (x:V) (xs:List V):Bool:=xs.any fun y=>eqV y x
def rIn (K:PySem.W.Frag) (neg:Bool):R2:=fun x y H Q=>∃p xs,y= .ref p/\(SqL K H p xs\/SqT K H p xs)/\m8 x=true/\xs.all m8=true/\Q (.bl (if neg then !inV x xs else inV x xs)) H
theorem sL:OpR X (compareOp .In) (rIn X.K false):=by
 intro pins s σ H x y v u Q I rx ry h
 obtain⟨p,xs,rfl,hq,fx,fs,q⟩:=h
 cases ry
 rcases hq with hq|hq
 ·obtain⟨its,r,pl,hz⟩:=I.list hq
  refine SeqAt.in_listAt (eqU x) pl.isList (fun w hw=>qU rx fx r fs w (by simpa using hw)) ⟨.bl _,H,I,rfl,?_⟩
  rw[show its.toArray.any (eqU x)=its.any (eqU x) by simp,ur r fs]
  exact q
 ·obtain⟨its,r,pl,hz⟩:=I.tuple hq
  refine SeqAt.in_tupleAt (eqU x) pl (fun w hw=>qU rx fx r fs w (by simpa using hw)) ⟨.bl _,H,I,rfl,?_⟩
  rw[show its.toArray.any (eqU x)=its.any (eqU x) by simp,ur r fs]
  exact q
theorem hJ:mf X (.builtin "len") (fun xs H Q=>∃p ys,xs=[.ref p]/\(SqL X.K H p ys\/SqT X.K H p ys)/\Q (.int ys.length) H):=by
 intro pins s σ H xs us Q I r h
 obtain⟨p,ys,rfl,hq,q⟩:=h
 obtain⟨u,rfl,rx⟩:=mj r
 cases rx
 have hn:=qo
 rcases hq with hq|hq
 ·obtain⟨its,r',pl,hz⟩:=I.list hq
  have hlen:=r'.length
  exact Calls.call_len_list pl.isList (by simp only[aV]<;>lia) ⟨.int ys.length,H,I.tok _,⟨s.toks+ 1,by rw[aV,hlen]⟩,q⟩
 ·obtain⟨its,r',pl,hz⟩:=I.tuple hq
  have hlen:=r'.length
  exact len_tuple pl (by simp only[aV]<;>lia) ⟨.int ys.length,H,I.tok _,⟨s.toks+ 1,by rw[aV,hlen]⟩,q⟩
theorem oq:mf X (.builtin "len") (fun xs H Q=>∃z,xs=[.str z]/\z.length<=sizeLine/\Q (.int z.length) H):=by
 intro pins s σ H xs us Q I r h
 obtain⟨z,rfl,hz,q⟩:=h
 obtain⟨u,rfl,t,rfl⟩:=mj r
 have hn:=qo
 exact len_str (by lia) ⟨.int z.length,H,I.tok _,⟨_,rfl⟩,q⟩
theorem kQ:mf X (.type "tuple") (fun xs H Q=>∃p ys,xs=[.ref p]/\((SqL X.K H p ys/\∀l,H l=none->Q (.ref l) (upd H l (.tup ys)))\/(SqT X.K H p ys/\Q (.ref p) H))):=by
 intro pins s σ H xs us Q I r h
 obtain⟨p,ys,rfl,h⟩:=h
 obtain⟨u,rfl,rx⟩:=mj r
 cases rx
 rcases h with⟨hq,q⟩|⟨hq,q⟩
 ·obtain⟨its,r',pl,hz⟩:=I.list hq
  have hlen:=r'.length
  refine call_tuple_list pl.isList (fun h' kp=>?_) (by simp only[aV]<;>lia)
  have I1:Inv X pins σ H {s with heap:=h'}:=I.kept (t':=s.toks) kp
  have I2:Inv X pins σ (upd H h'.objs.size (.tup ys)) {s with heap:=h'.push {cls:= .type "tuple",data:= .seq its.toArray}}:=
   I1.laid (t':=s.toks) (fun b o e=>gv _ e) (c7 _) (show jd X.prog X.w _ _ _ (.tup ys)from⟨hz,its,r',xj.new _ _⟩)
  exact⟨.ref h'.objs.size,_,I2,rfl,q _ (I1.hok.fresh (c7 _))⟩
 ·obtain⟨its,r',pl,hz⟩:=I.tuple hq
  exact call_tuple_same pl ⟨.ref p,H,I,rfl,q⟩
def tyV (K:PySem.W.Frag) (T:String) (x:V) (H:Hp):Prop:=match x with
 | .str _=>T="str"
 | .int _=>T="int"
 | .ref p=>(T="list"/\∃xs,SqL K H p xs)\/(T="tuple"/\∃o,K.lookup p=some o/\o.cls= .type "tuple"/\o.dict=none)\/
   (T="dict"/\((∃kvs,H p=some (.dK kvs))\/∃kvs,H p=some (.dT kvs)))\/(T="set"/\∃S n,H p=some (.set S n))
 |_=>False
theorem A1 {pins:List (Addr×Obj)} {σ:St} {H:Hp} {s:Shared} {T:String} {x:V} {v:Value} (I:Inv X pins σ H s) (r:jq x v) (ty:tyV X.K T x H):
  s.TypeIs v T/\∀a,v= .ref a->∃ob,s.heap.get? a=some ob/\ob.dict=none:=by
 cases x with
 |str z=>
  obtain⟨t,rfl⟩:=r
  cases(show T="str" from ty)
  exact⟨typeIs_str s z t,fun _ e=>nomatch e⟩
 |int i=>
  obtain⟨t,rfl⟩:=r
  cases(show T="int" from ty)
  exact⟨typeIs_int s i t,fun _ e=>nomatch e⟩
 |ref p=>
  cases r
  rcases ty with⟨rfl,xs,hq⟩|⟨rfl,o,hk,hc,hd⟩|⟨rfl,hk⟩|⟨rfl,S,n,hk⟩
  ·obtain⟨its,_,pl,_⟩:=I.list hq
   refine⟨pl.isList.typeIs,fun a e=>?_⟩
   cases e
   obtain⟨o,n,e,c,hd,_⟩:=pl
   exact⟨o,e,hd⟩
  ·refine⟨⟨o,I.kIn p o hk,hc⟩,fun a e=>?_⟩
   cases e
   exact⟨o,I.kIn _ o hk,hd⟩
  ·have z:∃o,s.heap.get? p=some o/\o.ExactDict:=by
    rcases hk with⟨kvs,hk⟩|⟨kvs,hk⟩
    ·obtain⟨_,_,_,_,o,_,_,e,ex,_⟩:=I.hok p _ hk
     exact⟨o,e,ex⟩
    ·obtain⟨_,_,_,_,o,_,_,e,ex,_⟩:=I.hok p _ hk
     exact⟨o,e,ex⟩
   obtain⟨o,e,ex⟩:=z
   refine⟨⟨o,e,ex.1⟩,fun a e2=>?_⟩
   cases e2
   exact⟨o,e,ex.2.1⟩
  ·obtain⟨o,_,_,_,e,ex,_⟩:=I.hok p _ hk
   refine⟨⟨o,e,ex.1⟩,fun a e2=>?_⟩
   cases e2
   exact⟨o,e,ex.2.1⟩
 |_=>exact False.elim ty
def tBM0 (K:PySem.W.Frag) (T:String) (r:V->List V->Hp->VK->Prop) (to:TE):TE:=fun σ H Q=>to σ H fun x H1=>tyV K T x H1/\r x [] H1 Q
def tBM (K:PySem.W.Frag) (T:String) (r:V->List V->Hp->VK->Prop) (to:TE) (t:TA):TE:=fun σ H Q=>to σ H fun x H1=>tyV K T x H1/\t σ H1 fun xs H2=>r x xs H2 Q
variable {o e:Expr} {es:List Expr} {to:TE} {t:TA} {name:Str} {apos cpos:Pos} {T id:String} {r:V->List V->Hp->VK->Prop}
theorem DW (pa:PlainAttrs T) (slot:Slot T name id) (hty:typeOf (.builtin id)=pure (.type "method_descriptor")) (hm:MtR X id r) (ho:PE X o to)
  (hbase:autoParam (attributeBase o name X.env (eval o X.env)=eval o X.env) L2.Internal.auR._auto_1) (hline:autoParam ((apos.endLine==cpos.line)=true) L2.Internal.auR._auto_1):PE X (.Call (.Attribute o name apos) [] [] cpos) (tBM0 X.K T r to):=by
 intro pins s σ H Q I h
 refine wpAny_Call_method0_late hbase hline (thn (ho pins s σ H _ I h) fun v s1 ⟨x,H1,I1,r1,ty,q1⟩=>?_)
 obtain⟨h1,h2⟩:=A1 I1 r1 ty
 exact⟨T,id,pa,slot,hty,h1,h2,Calls.callWith_builtin rfl (PySem.evalArgs_none (hm pins s1 σ H1 x [] v [] Q I1 r1 .nil q1))⟩
theorem lK (pa:PlainAttrs T) (slot:Slot T name id) (hty:typeOf (.builtin id)=pure (.type "method_descriptor")) (hm:MtR X id r) (ho:PE X o to) (ha:PA X (e::es) t)
  (hbase:autoParam (attributeBase o name X.env (eval o X.env)=eval o X.env) L2.Internal.auR._auto_1)
  (hfew:((backTo cpos (starEach (e::es) X.env)).all (fun x=>!x.1)&&(backToKw cpos (keywordEach [] X.env)).all (fun x=>x.1.isSome)
   &&decide ((e::es).length+([]:List Keyword).length+(if([]:List Keyword).isEmpty then 0 else 1)<30))=true:=by rfl)
  (hline:autoParam ((apos.endLine==cpos.line)=true) L2.Internal.auR._auto_1) (hs:autoParam (starEach (e::es) X.env=(false,eval e X.env)::starEach es X.env) L2.Internal.auR._auto_1) (hplain:autoParam ((backTo cpos (starEach es X.env)).any (·.1)=false) L2.Internal.auR._auto_1):
  PE X (.Call (.Attribute o name apos) (e::es) [] cpos) (tBM X.K T r to t):=by
 intro pins s σ H Q I h
 refine wpAny_Call_method_late hbase hfew hline rfl (thn (ho pins s σ H _ I h) fun v s1 ⟨x,H1,I1,r1,ty,q1⟩=>?_)
 obtain⟨h1,h2⟩:=A1 I1 r1 ty
 refine⟨T,id,pa,slot,hty,h1,h2,?_⟩
 have hA:=ha cpos pins s1 σ H1 _ I1 q1
 rw[hs]at hA⊢
 refine Calls.callWith_builtin (by show(false||(backTo cpos (starEach es X.env)).any (·.1))=false;rw[hplain]<;>rfl) (Calls.evalArgs_plain ?_)
 exact thn hA fun us s2 ⟨vs,H2,I2,r2,q2⟩=>hm pins s2 σ H2 x vs v us Q I2 r1 r2 q2
end
def MtM (X:Cx) (id:String) (r:V->List V->Hp->VK->Prop):Prop:=
 ∀(pins:List (Addr×Obj)) (s:Shared) (σ:St) (H:Hp) (x:V) (xs:List V) (v:Value) (us:List Value) (Q:VK),Inv X pins σ H s->jq x v->iV xs us->r x xs H Q->
  wpAny (model X.prog X.w) X.A (call (.builtin id) (v::us)) (EP X pins σ Q) X.xe s
theorem iV.one:∀{x:V} {us:List Value},iV [x] us->∃u,us=[u]/\jq x u
 |_,_,.cons r .nil=>⟨_,rfl,r⟩
theorem iV.zero:∀{us:List Value},iV [] us->us=[]
 |_,.nil=>rfl
theorem iV.dropLast {xs:List V} {us:List Value} (h:iV xs us):iV xs.dropLast us.dropLast:=by
 induction h with
 |nil=>exact .nil
 |cons r t ih=>
  cases t with
  |nil=>exact .nil
  |cons q t'=>exact .cons r ih
theorem iV.reverse {xs:List V} {us:List Value} (h:iV xs us):iV xs.reverse us.reverse:=by
 induction h with
 |nil=>exact .nil
 |cons r t ih=>rw[aZ,aZ];exact iV.append ih (.cons r .nil)
theorem iV.rep {xs:List V} {us:List Value} (h:iV xs us):∀k:Nat,iV (aH k xs).flatten (aH k us).flatten
 |0=> .nil
 |k+ 1=>by
  rw[a6,a6,a7,a7]
  exact iV.append h (iV.rep h k)
theorem wD {α:Type} (l:List α):l.eraseIdx (l.length-1)=l.dropLast:=by
 induction l with
 |nil=>rfl
 |cons a r ih=>
  cases r with
  |nil=>rfl
  |cons b r=>
   have e:(a::b::r).length-1=((b::r).length-1)+ 1:=by
    have h1:(a::b::r).length=r.length+ 2:=rfl
    have h2:(b::r).length=r.length+ 1:=rfl
    lia
   rw[e,List.eraseIdx_cons_succ,ih]
   all_goals rfl
theorem sM (its:List Value):∀(k:Nat) (acc:List Value),
  List.foldl (fun x1 x2=>x1++x2) acc.toArray (aH k its.toArray)=(acc++(aH k its).flatten).toArray
 |0,acc=>by simp
 |k+ 1,acc=>by
  have e:acc.toArray++its.toArray=(acc++its).toArray:=by simp
  have e2:(acc++its)++(aH k its).flatten=acc++(aH (k+ 1) its).flatten:=by
   rw[a6,a7,a8]
  rw[<-e2,<-sM its k (acc++its),<-e,a6,List.foldl_cons]
section
variable {X:Cx} {pins:List (Addr×Obj)} {σ:St} {H:Hp} {s:Shared} {l b:Addr} {xs ys zs:List V}
theorem Inv.lset {its its':List Value} {n:Nat} {f:Array Value->Array Value} {t':Nat} (I:Inv X pins σ H s) (hH:H l=some (.lst xs))
  (e:s.heap.get? l=some {cls:= .type "list",data:= .seq its.toArray n}) (hf:f its.toArray=its'.toArray) (hv:iV ys its') (hz:ys.length<=sizeLine):
  Inv X pins σ (upd H l (.lst ys)) {s with heap:=s.heap.update l (Obj.mapSeq f),toks:=t'}:=by
 have q:=PySem.IsL.update e f
 rw[hf]at q
 refine I.write (x:=l) (e:=l) (by rw[hH];exact trivial) (.inl rfl) (fun b' u hb hu=>(gy s.heap (Obj.mapSeq f) (Ne.symm hb)).trans hu) ⟨_,q⟩ ?_
 exact⟨hz,its',_,hv,q⟩
theorem Inv.lnew {its:List Value} {t':Nat} (I:Inv X pins σ H s) (hv:iV ys its) (hz:ys.length<=sizeLine):
  Inv X pins σ (upd H s.heap.objs.size (.lst ys)) {s with heap:=s.heap.push {cls:= .type "list",data:= .seq its.toArray},toks:=t'}:=
 I.laid (fun _ _ q=>gv _ q) (c7 _) ⟨hz,its,0,hv,gr _ rfl⟩
theorem Inv.fresh (I:Inv X pins σ H s):H s.heap.objs.size=none:=I.hok.fresh (c7 _)
theorem Inv.lstM (I:Inv X pins σ H s) (hH:H l=some (.lst xs)):xs.length<=sizeLine/\∃(its:List Value) (n:Nat),iV xs its/\xs.length=its.length/\s.heap.get? l=some {cls:= .type "list",data:= .seq its.toArray n}:=by
 obtain⟨z,its,n,r,e⟩:=I.hok l _ hH
 exact⟨z,its,n,r,r.length,e⟩
theorem vo {n:Nat} (h:n<=sizeLine):Builtin.List.listTooLong n=false:=by
 unfold Builtin.List.listTooLong
 exact decide_eq_false (by lia)
end
section
variable {X:Cx}
def yf:V->List V->Hp->VK->Prop:=fun x vs H Q=>∃l xs y,x= .ref l/\vs=[y]/\H l=some (.lst xs)/\xs.length<sizeLine/\Q .non (upd H l (.lst (xs++[y])))
theorem iD:MtM X "list.append" yf:=by
 intro pins s σ H x vs v us Q I rx rv h
 obtain⟨l,xs,y,rfl,rfl,hH,hz,q⟩:=h
 cases rx
 obtain⟨u,rfl,ru⟩:=rv.one
 obtain⟨z,its,n,r,hl,e⟩:=I.lstM hH
 refine call_meets F.slot_list_append ⟨_,e,rfl⟩ F.entry_list_append (F.args_list_append_2 _ _) (PySem.list_append l its.toArray n u (by rw[aV];lia)) ⟨e,?_⟩
 refine⟨.non,_,I.lset (its':=its++[u]) hH e (by simp) (r.append (.cons ru .nil)) ?_,rfl,q⟩
 rw[aO,a9]
 lia
def BS:V->List V->Hp->VK->Prop:=fun x vs H Q=>∃l b xs zs,x= .ref l/\vs=[.ref b]/\H l=some (.lst xs)/\H b=some (.lst zs)/\xs.length+zs.length<=sizeLine/\Q .non (upd H l (.lst (xs++zs)))
theorem sN:MtM X "list.extend" BS:=by
 intro pins s σ H x vs v us Q I rx rv h
 obtain⟨l,b,xs,zs,rfl,rfl,hH,hB,hz,q⟩:=h
 cases rx
 obtain⟨u,rfl,ru⟩:=rv.one
 cases ru
 obtain⟨z,its,n,r,hl,e⟩:=I.lstM hH
 obtain⟨z2,its2,n2,r2,hl2,e2⟩:=I.lstM hB
 have hsz:its.toArray.size+its2.toArray.size<=sizeLine:=by rw[aV,aV];lia
 have hlong:¬(!its.toArray.isEmpty&&Builtin.List.listTooLong (its.toArray.size+its2.toArray.size))=true:=by
  rw[vo hsz,Bool.and_false]
  exact fN
 refine call_meets F.slot_list_extend ⟨_,e,rfl⟩ F.entry_list_extend (F.args_list_extend_2 _ _)
  (AutoSeq1.list_extend_list_list_0 l its.toArray n b its2.toArray n2 hlong (by rw[aV];lia) (by lia)) ⟨e,e2,?_⟩
 refine⟨.non,_,I.lset (its':=its++its2) hH e (by simp) (r.append r2) ?_,rfl,q⟩
 rw[aO]
 lia
def rPop:V->List V->Hp->VK->Prop:=fun x vs H Q=>∃l xs y,x= .ref l/\vs=[]/\H l=some (.lst xs)/\xs[xs.length-1]?=some y/\Q y (upd H l (.lst xs.dropLast))
theorem DY:MtM X "list.pop" rPop:=by
 intro pins s σ H x vs v us Q I rx rv h
 obtain⟨l,xs,y,rfl,rfl,hH,hy,q⟩:=h
 cases rx
 have hus:=rv.zero
 subst hus
 obtain⟨z,its,n,r,hl,e⟩:=I.lstM hH
 obtain⟨u,hu,ru⟩:=r.get hy
 have hy':its.toArray[its.toArray.size-1]?=some u:=by
  show its.toArray[its.length-1]?=some u
  rw[<-fZ,<-hl]
  exact hu
 refine call_meets F.slot_list_pop ⟨_,e,rfl⟩ F.entry_list_pop (F.args_list_pop_1 _) (MeetsSeq.list_pop_last l its.toArray n u hy' (by rw[aV];lia)) ⟨e,?_⟩
 refine⟨y,_,I.lset (its':=its.dropLast) hH e ?_ r.dropLast ?_,ru,q⟩
 ·show its.toArray.eraseIdxIfInBounds (its.toArray.size-1)=its.dropLast.toArray
  rw[aV,List.eraseIdxIfInBounds_toArray,wD]
 ·rw[List.length_dropLast]
  lia
def rCat:R2:=fun x y H Q=>∃l b xs zs,x= .ref l/\y= .ref b/\H l=some (.lst xs)/\H b=some (.lst zs)/\xs.length+zs.length<=sizeLine/\∀p,H p=none->Q (.ref p) (upd H p (.lst (xs++zs)))
theorem sO:OpR X (binaryOp .Add) rCat:=by
 intro pins s σ H x y v u Q I rx ry h
 obtain⟨l,b,xs,zs,rfl,rfl,hH,hB,hz,q⟩:=h
 cases rx
 cases ry
 obtain⟨z,its,n,r,hl,e⟩:=I.lstM hH
 obtain⟨z2,its2,n2,r2,hl2,e2⟩:=I.lstM hB
 refine PySem.P.add_list e e2 ?_ (by rw[aV,aV];lia)
 have ea:its.toArray++its2.toArray=(its++its2).toArray:=by simp
 rw[ea]
 exact⟨.ref _,_,I.lnew (t':=s.toks) (r.append r2) (by rw[aO];lia),rfl,q _ I.fresh⟩
def rRep:R2:=fun x y H Q=>∃l k xs,x= .ref l/\y= .int k/\H l=some (.lst xs)/\-(2^63)<=k/\k<2^63/\xs.length*k.toNat<=sizeLine/\
 ∀p,H p=none->Q (.ref p) (upd H p (.lst (aH k.toNat xs).flatten))
theorem BU {α:Type} (xs:List α) (k:Nat):(aH k xs).flatten.length=k*xs.length:=by
 induction k with
 |zero=>simp
 |succ k ih=>rw[a6,a7,aO,ih,Nat.succ_mul,Nat.add_comm]
theorem DZ:OpR X (binaryOp .Mult) rRep:=by
 intro pins s σ H x y v u Q I rx ry h
 obtain⟨l,k,xs,rfl,rfl,hH,h1,h2,hz,q⟩:=h
 cases rx
 obtain⟨t,rfl⟩:=ry
 obtain⟨z,its,n,r,hl,e⟩:=I.lstM hH
 have hlen:its.toArray.size*k.toNat<=sizeLine:=by rw[aV,<-hl];exact hz
 have hcap:¬its.toArray.size*k.toNat>(2^63-1)/8:=by
  have:(sizeLine:Nat)<=(2^63-1)/8:=by decide
  lia
 have hfit:¬(!Builtin.List.listFitsIndex k)=true:=by
  rw[fitsIndex_both h1 h2]
  exact fN
 have hlong:¬Builtin.List.listTooLong (its.toArray.size*k.toNat)=true:=by
  rw[vo hlen]
  exact fN
 have hnew:List.foldl (fun x1 x2=>x1++x2) #[] (aH (if its.toArray.isEmpty=true then 0 else k.toNat) its.toArray)=(aH k.toNat its).flatten.toArray:=by
  have f0:∀m:Nat,List.foldl (fun x1 x2=>x1++x2) #[] (aH m its.toArray)=(aH m its).flatten.toArray:=fun m=>by
   have:=sM its m []
   rw[ba]at this
   exact this
  rw[f0]
  cases its with
  |nil=>simp
  |cons a r'=>rw[if_neg (by simp)]
 refine wpAny_binaryOp_repeat_ref (T:="list") (U:="int") (by decide) ⟨_,e,rfl⟩ (fun s'=>typeIs_int s' k t) noFill_list_mul F.fills_int_mul F.slot_int_rmul repeat_list F.slot_int_index.lookup
  (call_meets F.slot_int_rmul (typeIs_int s k t) F.entry_int_rmul (F.args_int_rmul_2 _ _) (int___rmul___int_list k t l its.toArray n)
   ⟨e,rfl,⟨_,e,rfl⟩,call_meets F.slot_list_mul ⟨_,e,rfl⟩ F.entry_list_mul (F.args_list_mul_2 _ _) (AutoListH.list___mul___list_int_3 l its.toArray n k t hfit hcap hlong) ⟨e,?_⟩⟩)
 rw[hnew]
 exact⟨.ref _,_,I.lnew (t':=s.toks) (r.rep k.toNat) (by rw[BU,Nat.mul_comm];exact hz),rfl,q _ I.fresh⟩
end
section
variable {prog:Program} {w:World} {A:Around} {E:Value->Shared->Prop} {s:Shared}
set_option maxRecDepth 100000 in
end
section
variable {X:Cx}
end
end L2.Internal
namespace Att.Internal
open PySem PySem.W PySem.Calls PyProof.Rows
theorem oY {P:Params} {h:Heap}:∀(ns:List Int) (vs:List Value),WellAll P h vs (ns.map WData.int)->IntsAre vs ns:=by
 intro ns
 induction ns with
 |nil=>
  intro vs w
  rw[aU]at w
  cases w
  exact .nil
 |cons n ns ih=>
  intro vs w
  rw[aC]at w
  cases w with
  |cons a b=>
   cases a
   exact .cons _ _ (ih _ b)
theorem yg {l:OpenLaw} {n:Nat} (hn:l.most=some n) {P:Params} {h:Heap} {args:List WData} {vals:List Value}
  (hpre:l.row.toRowW.claim.pre args=true) (hwl:WellAll P h vals args):
  ∃a vs ns,vals=[Value.ref a]/\args=[WData.list (ns.map WData.int)]/\h.get? a=some {cls:= .type "list",data:= .seq vs.toArray}/\IntsAre vs ns/\ns.length<=n:=by
 have hsh:WShape.hasAll [] args [.list .int]=true:=(pre_splitW hpre).1
 have hc:l.pre.holds [] {args:=args}=true:=(pre_splitW hpre).2
 obtain⟨d,r,rfl,h1,h2⟩:=hasAllW_cons hsh
 obtain rfl:=hasAllW_nil h2
 obtain⟨xs,rfl,h3⟩:=hasW_list h1
 obtain⟨ns,rfl⟩:=items_int h3
 have hlen:ns.length<=n:=by
  unfold OpenLaw.pre at hc
  have h4:(WTm.not (.lt (.lit (.int (n:Int))) (.len (.arg 0)))).holds [] {args:=[.list (ns.map .int)]}=true:=by
   have h4:=(holds_andW hc).1
   rw[hn]at h4
   exact h4
  have h5:=condW_of h4 (w_not (w_lt w_lit (w_len_list (w_arg rfl))))
  rw[aD]at h5
  refine Nat.le_of_not_lt fun q=>?_
  have q':(n:Int)<((ns.length:Nat):Int):=by lia
  first
   |(rw[decide_eq_true q']at h5;exact absurd h5 (by decide))
   |(simp at h5;lia)
 cases hwl with
 |cons w1 w2=>
  cases w2
  cases w1 with
  |list ho hall=>exact⟨_,_,ns,rfl,rfl,ho,oY ns _ hall,hlen⟩
theorem yh (l:OpenLaw) (args:List WData):l.row.toRowW.claim.post args (.bool true) args=true:=
 postW_of (r:=l.row.toRowW) (X:=(true==true))
  (show WShape.has [] (.bool true) .bool=true by first|rfl|decide|simp[WShape.has,WShape.arms,WShape.armsAll])
  (show(WTm.eq .res (.lit (.bool true))).value [] {args:=args,res:=some (.bool true),after:=args}=some (.bool (true==true))from w_eq_bool (w_res rfl) w_lit) rfl
theorem attach_call {l:OpenLaw} {n:Nat} {q:Program} {loose:List Str} {XP:(Str->Option Value)->Heap->Prop} {YP:World->Heap->Prop} {d:DefRec}
  (hn:l.most=some n) (hdf:d.params.defaults=[])
  (call:∀(w:World) (s₀ s₁:Shared) (mg mb:Str->Option Value) (fa:Addr) (o:Obj) (pm cd doc:Value) (a:Addr) (vs:List Value) (ns:List Int),
   Ground q loose [] XP w s₀ mg mb s₁.heap->YP w s₁.heap->
   s₁.heap.get? fa=some o->o.data= .func (docDef d.name d.params d.body d.scope pm cd doc)->s₁.heap.CodeRec cd d.name->mg d.name=some (.ref fa)->
   s₁.heap.get? a=some {cls:= .type "list",data:= .seq vs.toArray}->IntsAre vs ns->ns.length<=n->s₁.gens=#[]->
   codeAny (model l.prog w) callerA (.call (.ref fa) ⟨[.ref a],[]⟩) (fun r s'=>r= .ok (.ret (.bool true))/\OldK s₁.heap s'.heap/\s'.os=s₁.os/\AllBare s'.gens) s₁):
  WalkO q loose XP YP l.row.toRowW d [] (fun f vs=>PySem.call f vs):=by
 intro w s₀ s₁ mg mb G Y fa o pm cd doc dV kV ho hd hcd hD hmg hg args vals as hpre hlay hrd hwl hlo
 obtain rfl:dV= .none:=Dflts.none hD hdf
 obtain rfl:kV= .none:=Dflts.noKw hD
 obtain⟨a,vs,ns,rfl,rfl,hobj,hints,hlen⟩:=yg hn hpre hwl
 refine enter_call (codeAny_mono (call w s₀ s₁ mg mb fa o pm cd doc a vs ns G Y ho (fd_plain hd) hcd hmg hobj hints hlen hg) fun r s' hq=>?_)
 obtain⟨rfl,h2,h3,h4⟩:=hq
 exact⟨.inl ⟨.bool true,.bool true,[],rfl,fun _=>rfl,.bool true,yh l _,fun _=>⟨List.Pairwise.nil,fun _ hm=>(nomatch hm)⟩⟩,h2,h3,h4⟩
section
variable {prog:Program} {w:World} {A:Around} {E:Value->Shared->Prop} {s:Shared} {K:Frag}
end
end Att.Internal
namespace L2.Internal
open PySem PySem.Spec PyProof.Rows
theorem sP:∀{vs:List Value} {ns:List Int},IntsAre vs ns->iV (ns.map V.int) vs
 |_,_,.nil=> .nil
 |_,_,.cons n t h=> .cons ⟨t,rfl⟩ (sP h)
def F1 (H:Hp):Prop:=∀b,H b=none\/∃o xs,H b=some (.frz o (.lst xs))
theorem zN {P:Program} {w:World} {K:PySem.W.Frag} {mg mb:Str->Option Value} {CX:CXT} {k:Nat} {fa a:Addr} {fd:FuncData} {x:Str} {sp:Sp} {s₁:Shared} {vs:List Value} {ns:List Int}
  (KX:K.In s₁.heap) (hns:s₁.heap.Ns mainGlobals mg) (hb:s₁.heap.Ns builtinsNs mb) (hbb:∀x:Str,x≠"__name__"->mb x=bootBuiltins x) (hlim:s₁.heap.NoLimit) (hg:s₁.gens=#[])
  (ha:s₁.heap.get? a=some {cls:= .type "list",data:= .seq vs.toArray}) (hi:IntsAre vs ns) (hl:ns.length<=sizeLine) (hr:mU k callerA)
  (F:∀base:Heap,K.In base->base.Ns mainGlobals mg->iK P w K mg base CX k fa fd [x] sp) (hbind:∀(s:Shared) (u:Value),BindsTo s fd ⟨[u],[]⟩ [(x,u)])
  (hsp:∀H:Hp,F1 H->SqL K H a (ns.map V.int)->sp [.ref a] H (fun v _=>v= .bl true) fun _ _ _=>False)
  (hCX:∀H e s',CX [] H s₁ (fun _ _ _=>False) e s'->False):
  codeAny (model P w) callerA (.call (.ref fa) ⟨[.ref a],[]⟩) (fun r s'=>r= .ok (.ret (.bool true))/\OldK s₁.heap s'.heap/\s'.os=s₁.os/\AllBare s'.gens) s₁:=by
 have rv:=sP hi
 have lenV:=hi.length
 have core:∀H:Hp,F1 H->SqL K H a (ns.map V.int)->HOk P w H s₁.heap->(∀b,H b≠none->b=a)->(H a≠none->K.lookup a=none)->
   codeAny (model P w) callerA (.call (.ref fa) ⟨[.ref a],[]⟩) (fun r s'=>r= .ok (.ret (.bool true))/\OldK s₁.heap s'.heap/\s'.os=s₁.os/\AllBare s'.gens) s₁:=by
  intro H hO hS hok hA hK
  have base_of:∀{b:Addr} {o:Obj},s₁.heap.get? b=some o->H b=none->(zA s₁.heap H).get? b=some o:=fun e n=>zB e n
  have noA:∀{b:Addr} {o:Obj} {es:Array DictEntry} {ep:Nat},s₁.heap.get? b=some o->o.data= .dict es ep->H b=none:=fun{b o es ep} e d=>by
   cases q:H b with
   |none=>rfl
   |some u=>
    have e':b=a:=hA b (by rw[q];simp)
    subst e'
    rw[ha]at e;cases e
    have d':Data.seq vs.toArray _=Data.dict es ep:=d
    cases d'
  have nsK:∀{b:Addr} {m:Str->Option Value},s₁.heap.Ns b m->(zA s₁.heap H).Ns b m:=fun{b m} ⟨o,es,ep,e,d,r⟩=>⟨o,es,ep,base_of e (noA e d),d,r⟩
  have hKb:K.In (zA s₁.heap H):=fun b o e=>base_of (KX b o e) (by
   cases q:H b with
   |none=>rfl
   |some u=>
    have e':b=a:=hA b (by rw[q];simp)
    subst e'
    rw[hK (by rw[q];simp)]at e;cases e)
  have hM:Mod K mg (zA s₁.heap H):=⟨hKb,nsK hns,⟨mb,nsK hb,hbb⟩,let⟨mc,h1,h2⟩:=hlim;⟨mc,nsK h1,h2⟩⟩
  have e0:BK P w K mg (zA s₁.heap H) callerA [] s₁ H:=⟨rfl,hM,fun b o e=>BB e,c9 (xu _ _),trivial,fun b hb=>absurd (show b∈([]:List Addr)from hb) (by simp),hok,.of_eq hg⟩
  refine codeAny_mono ((F _ hKb (nsK hns)).run callerA [] s₁ H ⟨[.ref a],[]⟩ [.ref a] [.ref a] _ _ hr e0 (hbind s₁ (.ref a)) (.cons rfl .nil) (hsp H hO hS)) fun r s' h=>?_
  cases r with
  |error e=>exact(hCX H e s' h).elim
  |ok fl=>
   cases fl with
   |next=>exact False.elim h
   |brk=>exact False.elim h
   |cont=>exact False.elim h
   |ret u=>
    obtain⟨v,H',os,bare,un,hok',r',q⟩:=h
    have q':v= .bl true:=q
    subst q'
    obtain rfl:u=Value.bool true:=r'
    refine⟨rfl,OldK.of_keep fun b o e=>?_,os,bare⟩
    cases q:H b with
    |none=>exact un.keep b o e q (by intro z;exact absurd (show b∈([]:List Addr)from z) (by simp)) (by simp)
    |some u=>
     rcases hO b with z|⟨ob,xs,z⟩
     ·rw[q]at z;cases z
     ·have z2:=un.frzs b ob _ z
      obtain⟨e1,_⟩:=hok b _ z
      obtain⟨e2,_⟩:=hok' b _ z2
      rw[e]at e1;cases e1
      exact e2
 cases hk:K.lookup a with
 |some o=>
  have e:=KX a o hk
  rw[ha]at e
  cases e
  refine core (fun _=>none) (fun _=> .inl rfl) (.inr ⟨_,vs.toArray,_,hk,rfl,rfl,rfl,by rw[aV,lenV];exact hl,by simpa using rv⟩) (fun b u z=>by have z':(none:Option HO)=some u:=z;cases z') (fun b z=>absurd rfl z) fun z=>absurd rfl z
 |none=>
  refine core (fun b=>if b=a then some (.frz {cls:= .type "list",data:= .seq vs.toArray} (.lst (ns.map V.int)))else none) (fun b=>?_) (.inl (.inr ⟨{cls:= .type "list",data:= .seq vs.toArray},if_pos rfl⟩)) (fun b u z=>?_) (fun b z=>?_) fun _=>hk
  ·by_cases hb:b=a
   ·exact .inr ⟨_,_,if_pos hb⟩
   ·exact .inl (if_neg hb)
  ·by_cases hb:b=a
   ·have z':=(if_pos hb).symm.trans z
    cases z'
    subst hb
    exact⟨ha,by rw[aD];exact hl,vs,_,rv,ha⟩
   ·have z':=(if_neg hb).symm.trans z
    cases z'
  ·by_cases hb:b=a
   ·exact hb
   ·exact absurd (if_neg hb) z
theorem walk_of {l:PySem.W.OpenLaw} {n k:Nat} {q:Program} {loose:List Str} {XP:(Str->Option Value)->Heap->Prop} {YP:World->Heap->Prop} {d:DefRec} {K:Params->PySem.W.Frag} {CX:World->CXT} {sp:World->Sp} {x:Str}
  (hn:l.most=some n) (hn2:n<=sizeLine) (hdf:d.params.defaults=[]) (hr:mU k callerA)
  (hY:∀(w:World) (h:Heap),YP w h->(K w.params).In h)
  (F:∀(w:World) (mg:Str->Option Value) (fa:Addr) (h:Heap),(K w.params).In h->h.Ns mainGlobals mg->mg d.name=some (.ref fa)->
   ∃fd:FuncData,(∀(s:Shared) (u:Value),BindsTo s fd ⟨[u],[]⟩ [(x,u)])/\
    ∀base:Heap,(K w.params).In base->base.Ns mainGlobals mg->iK l.prog w (K w.params) mg base (CX w) k fa fd [x] (sp w))
  (hsp:∀(w:World) (H:Hp) (a:Addr) (ns:List Int),ns.length<=n->F1 H->SqL (K w.params) H a (ns.map V.int)->sp w [.ref a] H (fun v _=>v= .bl true) fun _ _ _=>False)
  (hCX:∀(w:World) (H:Hp) (s:Shared) (e:Value) (s':Shared),CX w [] H s (fun _ _ _=>False) e s'->False):
  PySem.W.WalkO q loose XP YP l.row.toRowW d [] (fun f vs=>PySem.call f vs):=by
 refine Att.Internal.attach_call hn hdf fun w s₀ s₁ mg mb fa o pm cd doc a vs ns G Y ho hd hcd hmg hobj hints hlen hg=>?_
 have KX:=hY w _ Y
 obtain⟨fd,hb,hF⟩:=F w mg fa _ KX G.T.g hmg
 exact zN KX G.T.g G.T.b G.T.builtins G.T.nolimit hg hobj hints (cX hlen hn2) hr hF hb (fun H hO hS=>hsp w H a ns hlen hO hS) fun H e s'=>hCX w H s₁ e s'
def j8 (s:Stmt) (j:Nat):Stmt:=match s with
 | .ClassDef _ _ _ body _ _ _ _ _ _ _=>body.getD j (.Pass ⟨0,0,0,0⟩)
 |_=> .Pass ⟨0,0,0,0⟩
def hG (s:Stmt):Arguments:=match s with
 | .FunctionDef _ a _ _ _ _ _ _ _ _=>a
 |_=>{posonlyargs:=[],args:=[],vararg:=none,kwonlyargs:=[],kw_defaults:=[],kwarg:=none,defaults:=[]}
def gW (s:Stmt):List Stmt:=match s with
 | .FunctionDef _ _ b _ _ _ _ _ _ _=>b
 |_=>[]
def gI (s:Stmt):Scope:=match s with
 | .FunctionDef _ _ _ _ _ _ sc _ _ _=>sc
 |_=>{kind:= .function,names:=[],isGenerator:=false,isCoroutine:=false}
abbrev CX0:CXT:=fun _ _ _ _ _ _=>False
abbrev E0:XK:=fun _ _ _=>False
theorem iX {X:Cx}:nH CX0 X E0:=fun _ _ _ _ _ _ _ h=>h.elim
structure Fun (K:PySem.W.Frag) (x qual:Str) (st:Stmt) (f:Addr) (fd:FuncData):Prop where
 ex:∃(oc:Value) (od:Option Addr) (kV doc pm:Value) (an:Option Addr) (cdv ct:Value) (osl:Array (Option Value)),
  fd=eN x qual (hG st) (gW st) (gI st) .none kV doc pm an cdv ct/\K.lookup f=some ⟨oc,od,.func fd,osl⟩/\eO K cdv qual=true
 kp:eA K (.ref f)=true
section
variable {P:Program} {w:World} {K:PySem.W.Frag} {mg:Str->Option Value} {base:Heap}
theorem Fun.ok {x qual:Str} {st:Stmt} {f:Addr} {fd:FuncData} {N ps:List Str} {k:Nat} {sp:Sp} (F:Fun K x qual st f fd) (S:gZ N ps (gI st)) (len:∀vs H Q E,sp vs H Q E->vs.length=ps.length)
  (hbody:∀(cdv:Value) (A:Around) (outer:List Env) (s:Shared) (H:Hp) (vs:List V) (Q:VK) (E:XK),mU k (A.deeper (envOfC qual (gI st) s.heap.objs.size f cdv))->sp vs H Q E->
   ∃t,PSs (sd CX0 P w K mg base N qual (gI st) f cdv A outer s H E).nox (gW st) t/\t {nx:=fun _ H'=>Q .non H',rt:=Q} (start N vs) H):iK P w K mg base CX0 (k+ 1) f fd ps sp:=by
 obtain⟨oc,od,kV,doc,pm,an,cdv,ct,osl,rfl,lk,hcd⟩:=F.ex
 refine BL lk hcd S len fun A outer s H vs Q E hr hsp=>?_
 obtain⟨t,h,q⟩:=hbody cdv A outer s H vs Q E hr hsp
 exact⟨t,h.nox,q⟩
theorem Fun.binds {x qual:Str} {st:Stmt} {f:Addr} {fd:FuncData} {ps:List Str} (F:Fun K x qual st f fd)
  (h:∀(kV doc pm:Value) (an:Option Addr) (cdv ct:Value) (us:List Value),us.length=ps.length->bindArgs (eN x qual (hG st) (gW st) (gI st) .none kV doc pm an cdv ct) ⟨us,[]⟩=pure (ps.zip us)):iH K fd ps []:=by
 obtain⟨oc,od,kV,doc,pm,an,cdv,ct,osl,rfl,lk,hcd⟩:=F.ex
 exact .all (h kV doc pm an cdv ct)
theorem gQ {x qual:Str} {st:Stmt} {f:Addr} {oc:Value} {od an:Option Addr} {osl:Array (Option Value)} {kV doc pm cdv ct:Value} (l:K.lookup f=some ⟨oc,od,.func (eN x qual (hG st) (gW st) (gI st) .none kV doc pm an cdv ct),osl⟩)
  (c:eO K cdv qual=true) (k:eA K (.ref f)=true):Fun K x qual st f (eN x qual (hG st) (gW st) (gI st) .none kV doc pm an cdv ct):=⟨⟨oc,od,kV,doc,pm,an,cdv,ct,osl,rfl,l,c⟩,k⟩
end
theorem wF {A:Around} {k:Nat} (hr:mU k A):A.units+ 1<cLine:=de (Nat.add_le_add_left (by decide:1<=64) _) hr.units
section
variable {X:Cx}
theorem pv (i:Nat) {x:Str} {pos:Pos} (hN:autoParam (X.N[i]?=some x) L2.Internal.auR._auto_1) (hv:Vis X.env.scope x:=by first|exact Or.inl rfl|exact Or.inr (.inl rfl)|exact Or.inr (.inr rfl)) (hd:autoParam ((x==("__debug__":Str))=false) L2.Internal.auD._auto_1)
  (hcd:autoParam ((x==("__classdict__":Str))=false) L2.Internal.auD._auto_1):PE X (.Name x pos) (Dm i):=DB hN hv hd hcd
end
theorem jO {A B:Prop} (h:B):if false=true then A else B:=by
 rw[if_neg fN]
 exact h
theorem kE {A B:Prop} (h:A):if true=true then A else B:=by
 rw[if_pos rfl]
 exact h
theorem Fw {c A B:Prop} [Decidable c] (h1:c->A) (h2:¬c->B):if c then A else B:=by
 by_cases h:c
 ·rw[if_pos h]
  exact h1 h
 ·rw[if_neg h]
  exact h2 h
theorem F2 {c A B:Prop} [Decidable c] (hc:c) (h:B):if(!decide c)=true then A else B:=by
 rw[decide_eq_true hc]
 exact jO h
def gT (H H':Hp):Prop:=∀b o,H b=some o->H' b=some o
theorem gT.refl (H:Hp):gT H H:=fun _ _ h=>h
theorem gT.trans {H H1 H2:Hp} (a:gT H H1) (b:gT H1 H2):gT H H2:=fun c o h=>b c o (a c o h)
theorem gT.free {H H':Hp} (e:gT H H') {l:Addr} (h:H' l=Option.none):H l=Option.none:=by
 cases q:H l with
 |none=>rfl
 |some o=>
  rw[e l o q]at h
  cases h
theorem gT.seq {K:PySem.W.Frag} {H H':Hp} {a:Addr} {xs:List V} (e:gT H H') (h:SqL K H a xs):SqL K H' a xs:=by
 rcases h with(h|⟨o,h⟩)|h
 ·exact .inl (.inl (e _ _ h))
 ·exact .inl (.inr ⟨o,e _ _ h⟩)
 ·exact .inr h
section
variable {X:Cx}
end
section
variable {κ:Type} [DecidableEq κ]
theorem zO {kvs:List (κ×V)} {k:κ} (h:jL kvs k=none):¬k∈kvs.map (·.1):=by
 intro m
 obtain⟨p,hp,e⟩:=bb.mp m
 have q:(kvs.any fun kv=>decide (kv.1=k))=true:=bf.mpr ⟨p,hp,decide_eq_true e⟩
 rw[lQ,h]at q
 exact absurd q (by simp)
theorem BV {kvs:List (κ×V)} {k:κ} {v:V} (h:jL kvs k=some v):k∈kvs.map (·.1):=by
 have q:(kvs.any fun kv=>decide (kv.1=k))=true:=by
  rw[lQ,h]
  all_goals rfl
 obtain⟨p,hp,e⟩:=bf.mp q
 exact bb.mpr ⟨p,hp,of_decide_eq_true e⟩
theorem yi:∀{l:List κ} {k:κ},l.Nodup->¬k∈l->(l++[k]).Nodup
 |[],k,_,_=>by simp
 |a::r,k,h,hk=>by
  obtain⟨h1,h2⟩:=aF.mp h
  show(a::(r++[k])).Nodup
  refine aF.mpr ⟨fun m=>?_,yi h2 fun m=>hk (aj.mpr (Or.inr m))⟩
  rcases ao.mp m with q|q
  ·exact h1 q
  ·exact hk (aj.mpr (Or.inl (bg.mp q).symm))
theorem BW {kvs:List (κ×V)} {k:κ} (v:V) (hn:(kvs.map (·.1)).Nodup) (h:jL kvs k=none):((nz kvs k v).map (·.1)).Nodup:=by
 rw[zK v h,bh]
 exact yi hn (zO h)
end
section
variable {X:Cx}
theorem n9 {x:Str} {i:Int} {t:Tok} {pos:Pos} (hg:Gl X x) (hm:X.mg x=some (.int i t)) (hd:autoParam ((x==("__debug__":Str))=false) L2.Internal.auD._auto_1):PE X (.Name x pos) (tC (.int i)):=ug hg hm (show jq (.int i) _ from⟨t,rfl⟩) hd
theorem zP {x y:Str} {t:Tok} {pos:Pos} (hg:Gl X x) (hm:X.mg x=some (.str y t)) (hd:autoParam ((x==("__debug__":Str))=false) L2.Internal.auD._auto_1):PE X (.Name x pos) (tC (.str y)):=ug hg hm (show jq (.str y) _ from⟨t,rfl⟩) hd
theorem oZ {x:Str} {a:Addr} {pos:Pos} (hg:Gl X x) (hm:X.mg x=some (.ref a)) (hd:autoParam ((x==("__debug__":Str))=false) L2.Internal.auD._auto_1):PE X (.Name x pos) (tC (.ref a)):=ug hg hm (show jq (.ref a) _ from rfl) hd
theorem pd {x:Str} {n:String} {pos:Pos} (hg:Gl X x) (hm:X.mg x=none) (hv:bootBuiltins x=some (.type n)) (hn:autoParam (x≠"__name__") L2.Internal.auD._auto_1) (hd:autoParam ((x==("__debug__":Str))=false) L2.Internal.auD._auto_1):PE X (.Name x pos) (tC (.ty n)):=BC hg hm hv (show jq (.ty n) _ from rfl) hn hd
end
theorem jG:bootBuiltins "len"=some (.builtin "len"):=by decide+kernel
theorem D0:bootBuiltins "all"=some (.builtin "all"):=by decide+kernel
theorem sQ:bootBuiltins "sum"=some (.builtin "sum"):=by decide+kernel
theorem iG:bootBuiltins "isinstance"=some (.builtin "isinstance"):=by decide+kernel
theorem vp:bootBuiltins "int"=some (.type "int"):=by decide+kernel
theorem A2:bootBuiltins "str"=some (.type "str"):=by decide+kernel
theorem BX:bootBuiltins "bool"=some (.type "bool"):=by decide+kernel
theorem yj:bootBuiltins "list"=some (.type "list"):=by decide+kernel
theorem nK:bootBuiltins "tuple"=some (.type "tuple"):=by decide+kernel
theorem BY:bootBuiltins "dict"=some (.type "dict"):=by decide+kernel
theorem qV:bootBuiltins "ValueError"=some (.type "ValueError"):=by decide+kernel
def Its (x:Str):It:=⟨fun i _=>i<x.cps.size,fun i H v H'=>H'=H/\∃c,x.cps[i]?=some c/\v= .str ⟨#[c]⟩,fun i _=>i=x.cps.size⟩
theorem vq {P:Program} {w:World} {K:PySem.W.Frag} {tg:Expr} (it:Addr) (T:String) (x:Str) (t:Tok)
  (hT:["enumerate","zip","dict_itemiterator","dict_reverseitemiterator","odict_iterator","itertools.zip_longest","itertools.pairwise"].contains T=false)
  (W:∀A:Around,A.handled=none->Walks P w A it [it] [it] x.cps.size (SignAt x) (fun i h=>h.IsStrIter it T x t i))
  (hself:∀(A:Around) (i:Nat) (s:Shared) (Q:Value->Shared->Prop) (E:Value->Shared->Prop),s.heap.IsStrIter it T x t i->Q (.ref it) s->wpAny (model P w) A (pyIter (.ref it)) Q E s):
  Dn P w K tg (Its x) [it] it (fun i h=>h.IsStrIter it T x t i) where
 mem:=by simp
 obj:=fun i h st b hb=>by
  have e:b=it:=by simpa using hb
  subst e
  obtain⟨o,e,c,d⟩:=st
  exact⟨o,e,fun v z=>by rw[d]at z;cases z⟩
 keep:=fun i h h' st k=>by
  obtain⟨o,e,r⟩:=st
  exact⟨o,k it (by simp) o e,r⟩
 item:=by
  intro X hP hw hK hc i pins s σ H E I hf st hg
  subst hP hw hK
  obtain⟨f0,f1,f2,f3,f4,f5⟩:=hf it (by simp)
  refine(W X.A (I.ok.hd hc)).item i s _ _ hg st fun v h' tk hv st' kk=>?_
  obtain⟨c,u,hc',rfl⟩:=hv
  have I1:Inv X pins σ H {s with heap:=h',toks:=tk}:=I.turned (fun b o hb e=>kk b o (by simpa using hb) e) f0 f1 f3 f4 f5
  obtain⟨o,e,c1,d⟩:=id st'
  exact⟨_,rfl,zE (s:={s with heap:=h',toks:=tk}) e c1 d hT ⟨.str ⟨#[c]⟩,H,I1,⟨u,rfl⟩,⟨rfl,c,hc',rfl⟩,st',fun b hb=>(hf b hb).1⟩⟩
 done:=by
  intro X hP hw hK hc i pins s σ H E I hf st hg
  subst hP hw hK
  obtain⟨f0,f1,f2,f3,f4,f5⟩:=hf it (by simp)
  have hg':i=x.cps.size:=hg
  subst hg'
  exact(W X.A (I.ok.hd hc)).done s _ _ st fun h' tk kk=>⟨rfl,I.turned (fun b o hb e=>kk b o (by simpa using hb) e) f0 f1 f3 f4 f5⟩
 self:=fun A i s Q E st h=>hself A i s Q E st h
section
variable {X:Cx} {tg:Expr}
def iStr (tl:TE):TI:=fun σ H R=>tl σ H fun v H1=>∃x,v= .str x/\R (Its x) H1
theorem D1 {l:Expr} {tl:TE} (hl:PE X l tl):PI X tg l (iStr tl):=by
 intro pins s σ H R I h
 refine thn (hl pins s σ H _ I h) fun v s1 ⟨y,H1,I1,r1,q1⟩=>?_
 obtain⟨x,e,q⟩:=q1
 subst e
 obtain⟨t,rfl⟩:=r1
 have fp:∀b∈[s1.heap.objs.size],wg X pins H1 b:=fun b hb=>by
  have e:b=s1.heap.objs.size:=by simpa using hb
  subst e
  exact I1.fpOk (c7 _) (I1.hok.fresh (c7 _))
 cases ha:x.cps.all (·<128)
 ·refine wpAny_pyIter_wide ha ?_
  exact⟨s1.heap.objs.size,[s1.heap.objs.size],_,_,H1,rfl,I1.kept (t':=s1.toks) fun b o e=>gv _ e,
   vq _ "str_iterator" x t (by decide) (fun A hA=>Walks.strWide hA _ x t) (fun _ _ _ _ _ st h=>wpAny_pyIter_striter_wide st h),⟨_,gr _ rfl,rfl,rfl⟩,fp,q⟩
 ·refine wpAny_pyIter_ascii ha ?_
  exact⟨s1.heap.objs.size,[s1.heap.objs.size],_,_,H1,rfl,I1.kept (t':=s1.toks) fun b o e=>gv _ e,
   vq _ "str_ascii_iterator" x t (by decide) (fun A hA=>Walks.strAscii hA _ x t) (fun _ _ _ _ _ st h=>wpAny_pyIter_striter_ascii st h),⟨_,gr _ rfl,rfl,rfl⟩,fp,q⟩
end
def blk (X:Cx) (N:List Str) (scope:Scope) (cl:List (Str×Addr)) (C:Addr) (s₀:Shared) (H₀:Hp) (ex:List Addr) (pins:List (Addr×Obj)):Cx:=
 {X with N:=N,s₀:=s₀,H₀:=H₀,env:=compEnvC scope cl C X.env,outer:=X.stack,stack:=X.stack,ex:=ex,fn:=fun _=>false,pn:=X.pn++pins,xe:=fun _ _=>False}
def PTs (X:Cx) (cs:List Expr) (t:TT):Prop:=
 ∀(pins:List (Addr×Obj)) (s:Shared) (σ:St) (H:Hp) (Q:Bool->Hp->Prop),Inv X pins σ H s->t σ H Q->
  wpAny (model X.prog X.w) X.A (forIn cs true fun c r=>if r=true then do let ok<-isTrue c X.env (eval c X.env);pure (ForInStep.yield ok)else pure (ForInStep.yield r)) (TP X pins σ Q) X.xe s
def m9:TT:=fun _ H Q=>Q true H
theorem kM {X:Cx}:PTs X [] m9:=fun pins s σ H Q I h=>wpAny_pure ⟨H,I,h⟩
theorem uu {X:Cx} {c:Expr} {t:TT} (h:PT X c t):PTs X [c] t:=fun pins s σ H Q I hw=>wpAny_tests_one (h pins s σ H Q I hw)
structure wG (X:Cx) (N:List Str) (scope:Scope) (cl:List (Str×Addr)) (f:St->St) (i:Nat) (x:Str):Prop where
 kind:scope.kind= .function
 cell:∀y∈scope.names,y.2≠ .cell
 names:∀y∈scope.names,y.2= .local->scope.names.lookup y.1=some .local
 clos:closureFor scope X.env=pure cl
 lk:∀y c,cl.lookup y=some c->X.env.cells.lookup y=some c
 has:∀y,((relabel scope X.env).names.lookup y=some .cell\/(relabel scope X.env).names.lookup y=some .free)->∃c,cl.lookup y=some c
 nd:N.Nodup
 ix:N[i]?=some x
 loc:scope.names.lookup x=some .local
 len:∀σ,σ.length=X.N.length->(f σ).length=N.length
 val:∀(σ:St) (k:Nat) (y:Str) (v:V),N[k]?=some y->(f σ)[k]?=some (some v)->∃j:Nat,X.N[j]?=some y/\σ[j]?=some (some v)/\X.env.scope.names.lookup y=some .cell/\(relabel scope X.env).names.lookup y=some .cell
theorem yk {X:Cx} {N:List Str} {scope:Scope} {cl:List (Str×Addr)} {f:St->St} {i:Nat} {x:Str} (B:wG X N scope cl f i x) {pins:List (Addr×Obj)} {σ:St} {H:Hp} {s:Shared} {h₁:Heap} {tk:Nat} {m:Str->Option Value} {ex:List Addr}
  (I:Inv X pins σ H s) (hex:∀b∈ex,wg X pins H b/\b<s.heap.objs.size) (keep:∀b o,s.heap.get? b=some o->h₁.get? b=some o) (hn:h₁.Ns s.heap.objs.size m):
  Inv (blk X N scope cl s.heap.objs.size s H ex pins) [] (f σ) H {s with heap:=h₁,toks:=tk}:=by
 have nst:∀b,b≠X.env.locals->b∉X.fs->b∉frs X.stack:=fun b h1 h2 hb=>(aj.mp (I.stkSub b hb)).elim h1 h2
 have ltC:∀y c,X.env.cells.lookup y=some c->c<s.heap.objs.size:=fun y c e=>by
  obtain⟨v,o,ho,_⟩:=I.cell y c e
  exact gq ho
 refine⟨⟨I.ok.mod,B.kind,I.ok.glob,I.ok.blt,c7 _,fun y z c h1 h2=>I.ok.inj y z c (B.lk y c h1) (B.lk z c h2),fun y hy=>B.has y hy,fun y c h=>(nomatch h),I.ok.hd,I.ok.frames,.inl rfl,fun b hb=>?_,I.bs,cX I.ok.bsz I.sz,fun b o e hb=>?_,fun b hb=>?_,I.stack,I.stkFree⟩,
  rfl,I.bare,Un.kept keep,⟨m,hn,fun k y v e1 e2 e3=>?_⟩,fun y c e=>?_,I.hok.fresh (c7 _),fun y c e=>I.freeC y c (B.lk y c e),fun p hp=>?_,I.hok.kept keep,B.len σ I.len⟩
 ·obtain⟨⟨_,_,_,_,hc,_⟩,lt⟩:=hex b hb
  exact⟨cW lt,fun y c e=>hc y c (B.lk y c e)⟩
 ·obtain⟨⟨_,_,_,h4,_,_⟩,_⟩:=hex b hb
  rcases h4 with z|z
  ·exact I.ok.noex b o e z
  ·exact absurd (cR (gq (I.ok.bs b o e).1) z) (cU _)
 ·obtain⟨⟨_,h2,h3,_,_,_⟩,_⟩:=hex b hb
  exact nst b h2 h3
 ·obtain⟨j,h1,h2,h3,h4⟩:=B.val σ k y v e1 e2
  obtain⟨m',_,hl⟩:=I.loc
  obtain⟨u,r,l⟩:=hl j y v h1 h2 (.inr (.inl h3))
  refine⟨u,r,?_⟩
  rcases l with⟨hk,_⟩|⟨_,c,hc,z⟩
  ·have hk':X.env.scope.names.lookup y=some .local:=hk
   rw[h3]at hk'
   cases hk'
  ·obtain⟨c',hc'⟩:=B.has y (.inl h4)
   have e:c'=c:=dB.inj ((B.lk y c' hc').symm.trans hc)
   subst e
   obtain⟨o,ho,hd⟩:=z
   exact .inr ⟨.inl h4,c',hc',o,keep _ o ho,hd⟩
 ·obtain⟨v,o,ho,hd⟩:=I.cell y c (B.lk y c e)
  exact⟨v,o,keep _ o ho,hd⟩
 ·rw[aE]at hp
  obtain⟨e,n,ne,nf,d⟩:=I.pin p hp
  exact⟨keep _ _ e,n,cW (gq e),nst _ ne nf,d⟩
theorem i4 {env:Env}:∀{names:List (Str×NameKind)} {x:Str} {k:NameKind},
  (names.map fun(n,k)=>if(k==NameKind.free&&env.scope.kind== .function&&env.kindOf n==some .cell)then(n,NameKind.cell)else(n,k)).lookup x=some k->
  ∃k0,names.lookup x=some k0/\(k=k0\/(k0= .free/\k= .cell))
 |[],_,_,h=>by simp at h
 |(n,k0)::r,x,k,h=>by
  have ih:=@i4 env r x k
  have h:aB x ((if(k0==NameKind.free&&env.scope.kind== .function&&env.kindOf n==some .cell)=true then(n,NameKind.cell)else(n,k0))::(r.map fun(n,k)=>if(k==NameKind.free&&env.scope.kind== .function&&env.kindOf n==some .cell)then(n,NameKind.cell)else(n,k)))=some k:=h
  cases hx:x==n with
  |true=>
   by_cases hc:(k0==NameKind.free&&env.scope.kind== .function&&env.kindOf n==some .cell)=true
   ·rw[if_pos hc]at h
    simp only[bj,hx]at h⊢
    have hf:k0= .free:=by
     have hc':=hc
     simp only[fV]at hc'
     exact eq_of_beq hc'.1.1
    exact⟨k0,rfl,.inr ⟨hf,(dB.inj h).symm⟩⟩
   ·rw[if_neg hc]at h
    simp only[bj,hx]at h⊢
    exact⟨k0,rfl,.inl (dB.inj h).symm⟩
  |false=>
   have h2:(r.map fun(n,k)=>if(k==NameKind.free&&env.scope.kind== .function&&env.kindOf n==some .cell)then(n,NameKind.cell)else(n,k)).lookup x=some k:=by
    by_cases hc:(k0==NameKind.free&&env.scope.kind== .function&&env.kindOf n==some .cell)=true
    ·rw[if_pos hc]at h;simp only[bj,hx]at h;exact h
    ·rw[if_neg hc]at h;simp only[bj,hx]at h;exact h
   obtain⟨k1,e1,e2⟩:=ih h2
   exact⟨k1,by simp only[bj,hx];exact e1,e2⟩
theorem jS {env:Env} (hk:env.scope.kind= .function):∀{names:List (Str×NameKind)} {x:Str},env.scope.names.lookup x=some .cell->names.lookup x=some .free->
  (names.map fun(n,k)=>if(k==NameKind.free&&env.scope.kind== .function&&env.kindOf n==some .cell)then(n,NameKind.cell)else(n,k)).lookup x=some .cell
 |[],_,_,h=>by simp at h
 |(n,k0)::r,x,hc,h=>by
  have ih:=@jS env hk r x hc
  show aB x ((if(k0==NameKind.free&&env.scope.kind== .function&&env.kindOf n==some .cell)=true then(n,NameKind.cell)else(n,k0))::_)=_
  cases hx:x==n with
  |true=>
   simp only[bj,hx]at h
   cases h
   have e:x=n:=eq_of_beq hx
   have hc':env.kindOf n=some .cell:=by rw[<-e];exact hc
   simp[bj,hx,hk,hc']
  |false=>
   simp only[bj,hx]at h
   by_cases hq:(k0==NameKind.free&&env.scope.kind== .function&&env.kindOf n==some .cell)=true
   ·rw[if_pos hq];simp only[bj,hx];exact ih h
   ·rw[if_neg hq];simp only[bj,hx];exact ih h
theorem ym {X:Cx} {scope:Scope} {x:Str} (hk:scope.kind= .function) (hn:∀p∈scope.names,p.2≠ .cell/\p.2≠ .free) (hl:∀y∈scope.names,y.2= .local->scope.names.lookup y.1=some .local)
  (hx:scope.names.lookup x=some .local) (hc:closureFor scope X.env=pure []):wG X [x] scope [] (fun _=>[none]) 0 x where
 kind:=hk
 cell:=fun y hy=>(hn y hy).1
 names:=hl
 clos:=hc
 lk:=fun y c h=>by simp at h
 has:=fun y h=>by
  rcases h with h|h
  ·obtain⟨k0,e,z⟩:=i4 h
   have m:=hn _ (PySem.mem_of_lookup e)
   rcases z with z|⟨z,_⟩
   ·exact absurd z.symm m.1
   ·exact absurd z m.2
  ·obtain⟨k0,e,z⟩:=i4 h
   have m:=hn _ (PySem.mem_of_lookup e)
   rcases z with z|⟨z,_⟩
   ·exact absurd z.symm m.2
   ·exact absurd z m.2
 nd:=by simp
 ix:=rfl
 loc:=hx
 len:=fun _ _=>rfl
 val:=fun σ k y v h1 h2=>by
  cases k with
  |zero=>simp at h2
  |succ k=>simp at h2
theorem blk1 {X:Cx} {scope:Scope} {x y:Str} {j:Nat} {c0:Addr} (hk:scope.kind= .function) (hn:∀p∈scope.names,p.2≠ .cell/\(p.2= .free->p.1=y)) (hl:∀y∈scope.names,y.2= .local->scope.names.lookup y.1=some .local)
  (hx:scope.names.lookup x=some .local) (hy:scope.names.lookup y=some .free) (hc:closureFor scope X.env=pure [(y,c0)]) (hc0:X.env.cells.lookup y=some c0) (hok:X.env.scope.kind= .function) (hyo:X.env.scope.names.lookup y=some .cell)
  (hj:X.N[j]?=some y):wG X [x,y] scope [(y,c0)] (fun σ=>[none,σ.getD j none]) 0 x where
 kind:=hk
 cell:=fun y hy=>(hn y hy).1
 names:=hl
 clos:=hc
 lk:=fun z c h=>by
  cases e:z==y with
  |true=>
   simp only[bj,e]at h
   have ez:z=y:=eq_of_beq e
   rw[ez,hc0]
   exact h
  |false=>simp only[bj,e,List.lookup_nil]at h;cases h
 has:=fun z h=>by
  have ez:z=y:=by
   rcases h with h|h
   ·obtain⟨k0,e,q⟩:=i4 h
    have m:=hn _ (PySem.mem_of_lookup e)
    rcases q with q|⟨q,_⟩
    ·exact absurd q.symm m.1
    ·exact m.2 q
   ·obtain⟨k0,e,q⟩:=i4 h
    have m:=hn _ (PySem.mem_of_lookup e)
    rcases q with q|⟨q,_⟩
    ·exact m.2 q.symm
    ·exact m.2 q
  exact⟨c0,by rw[ez];simp[bj]⟩
 nd:=by
  have e:x≠y:=fun e=>by rw[e,hy]at hx;cases hx
  simp[e]
 ix:=rfl
 loc:=hx
 len:=fun _ _=>rfl
 val:=fun σ k z v h1 h2=>by
  cases k with
  |zero=>simp at h2
  |succ k=>
   cases k with
   |zero=>
    have ez:z=y:=by simpa using h1.symm
    subst ez
    have e:σ.getD j none=some v:=by simpa using h2
    rw[bo]at e
    refine⟨j,hj,?_,hyo,jS hok hyo hy⟩
    cases q:σ[j]? with
    |none=>rw[q]at e;cases e
    |some o=>rw[q]at e;exact congrArg some e
   |succ k=>simp at h2
def LcP (J:It) (i:Nat) (tt:TT) (te:TE) (Q:VK) (τ:St) (H1:Hp) (D:Addr):Prop:=
 ∃W:Nat->Nat->St->Hp->Prop,(∃m,W 0 m τ (upd H1 D (.lst [])))/\∀k m σ' H2,W k m σ' H2->
  (J.stop k H2/\Q (.ref D) H2)\/(J.go k H2/\∀v H3,J.yld k H2 v H3->tt (σ'.set i (some v)) H3 fun ok H4=>if ok=true
   then te (σ'.set i (some v)) H4 fun y H5=>∃xs,H5 D=some (.lst xs)/\xs.length<sizeLine/\∃m',m'<m/\W (k+ 1) m' (σ'.set i (some v)) (upd H5 D (.lst (xs++[y])))
   else ∃m',m'<m/\W (k+ 1) m' (σ'.set i (some v)) H4)
def tLC (wi:TI) (f:St->St) (i:Nat) (tt:TT) (te:TE):TE:=fun σ H Q=>wi σ H fun J H1=>∀D,H1 D=none->LcP J i tt te Q (f σ) H1 D
theorem oa {X:Cx} {elt iter:Expr} {x:Str} {px:Pos} {ifs:List Expr} {scope:Scope} {pos:Pos} {N:List Str} {cl:List (Str×Addr)} {f:St->St} {i:Nat} {wi:TI} {tt:TT} {te:TE}
  (hc:X.calm=true) (B:wG X N scope cl f i x) (hi:PI X (.Name x px) iter wi)
  (htt:∀C s₀ H₀ ex pins,PTs (blk X N scope cl C s₀ H₀ ex pins) ifs tt) (hte:∀C s₀ H₀ ex pins,PE (blk X N scope cl C s₀ H₀ ex pins) elt te)
  (hs:autoParam (∀x,foldedSetIterable iter X.env x=pure x) L2.Internal.auI._auto_1):PE X (.ListComp elt [⟨.Name x px,iter,ifs,0⟩] scope pos) (tLC wi f i tt te):=by
 intro pins s σ H Q I h
 rw[eval_ListComp]
 refine wpAny_comprehension_free (use:=none) rfl hs B.clos B.kind B.names (thn (hi pins s σ H _ I h) fun xv s1 h1=>thn h1 fun itv s2 h2=>?_)
 obtain⟨it,fp,tn,J,H2,rfl,I2,T,st2,f2,q⟩:=h2
 have hD:H2 s2.heap.objs.size=none:=I2.fresh
 obtain⟨W,⟨m0,w0⟩,turn⟩:=q _ hD
 refine wpAny_newObj_type (wpAny_newFunctionEnv B.cell (by intro y hy;simp at hy) (fun h₁ hns₁ hsb₁=>?_) B.kind)
 have I3:Inv X pins σ (upd H2 s2.heap.objs.size (.lst [])) {s2 with heap:=s2.heap.push {cls:= .type "list",data:= .seq ([]:List Value).toArray}}:=I2.lnew (its:=[]) (ys:=[]) (t':=s2.toks) .nil (c8 _)
 have lt2:∀b∈fp,b<s2.heap.objs.size:=fun b hb=>by
  obtain⟨o,ho,_⟩:=T.obj _ _ st2 b hb
  exact gq ho
 have fp3:∀b∈fp,wg X pins (upd H2 s2.heap.objs.size (.lst [])) b:=fun b hb=>by
  refine⟨?_,(f2 b hb).2⟩
  rw[gM (cW (lt2 b hb))]
  exact(f2 b hb).1
 generalize hs3:({s2 with heap:=s2.heap.push {cls:= .type "list",data:= .seq ([]:List Value).toArray}}:Shared)=s3 at I3 hns₁ hsb₁⊢
 have eh:s2.heap.push {cls:= .type "list",data:= .seq ([]:List Value).toArray}=s3.heap:=by rw[<-hs3]
 have lt3:∀b∈fp,b<s3.heap.objs.size:=fun b hb=>by
  rw[<-eh,gw]
  exact df (lt2 b hb)
 have old:∀b o,s3.heap.get? b=some o->h₁.get? b=some o:=fun b o e=>hsb₁.extBut b o (cW (gq e)) (gv _ e)
 have I4:=yk (tk:=s3.toks+([]:List (Str×Value)).length) B I3 (ex:=fp) (fun b hb=>⟨fp3 b hb,lt3 b hb⟩) old hns₁
 have st4:tn 0 h₁:=T.keep _ _ _ st2 fun b _ o e=>old b o (by rw[<-eh];exact gv _ e)
 have fpB:∀{H':Hp},(∀b∈fp,H' b=none)->∀b∈fp,wg (blk X N scope cl s3.heap.objs.size s3 (upd H2 s2.heap.objs.size (.lst [])) fp pins) [] H' b:=fun{H'} hn b hb=>by
  obtain⟨_,g2,g3,g4,g5,g6⟩:=f2 b hb
  refine⟨hn b hb,cW (lt3 b hb),fun z=>(aj.mp (I3.stkSub b z)).elim g2 g3,.inl hb,fun y c e=>g5 y c (B.lk y c e),fun p hp=>?_⟩
  rw[aE]at hp
  exact g6 p hp
 have loop:∀s4:Shared,s4={s3 with heap:=h₁,toks:=s3.toks+([]:List (Str×Value)).length}->
   codeAny (model X.prog X.w) X.A (.compLoop (.ListComp elt [⟨.Name x px,iter,ifs,0⟩] scope pos) 0 (.ref it) (.ref s2.heap.objs.size) (compEnvC scope cl s3.heap.objs.size X.env))
    (compPost (model X.prog X.w) X.A X.xe none (EP X pins σ Q) (.ref s2.heap.objs.size) s3.heap.objs.size) s4:=by
  rintro s4 rfl
  refine codeAny_compLoop_tests (I:=fun n s'=>∃k σ' H',Inv (blk X N scope cl s3.heap.objs.size s3 (upd H2 s2.heap.objs.size (.lst [])) fp pins) [] σ' H' s'/\tn k s'.heap/\(∀b∈fp,H' b=none)/\W k n σ' H') ?_ m0
   ⟨0,f σ,_,I4,st4,fun b hb=>(fp3 b hb).1,w0⟩
  rintro n s5 ⟨k,σ5,H5,I5,st5,fr5,w5⟩
  rcases turn k n σ5 H5 w5 with⟨stop,qn⟩|⟨go,step⟩
  ·refine wpAny_mono (T.done (blk X N scope cl s3.heap.objs.size s3 (upd H2 s2.heap.objs.size (.lst [])) fp pins) rfl rfl rfl hc k [] s5 σ5 H5 _ I5 (fpB fr5) st5 stop) (fun r s6 h6=>?_) fun _ _ z=>z
   obtain⟨hr,I6⟩:=h6
   subst hr
   obtain⟨m6,hn6,_⟩:=id I6.loc
   refine⟨m6,hn6,fun h' sb=>?_⟩
   have nC:∀b o,s3.heap.get? b=some o->b≠s3.heap.objs.size:=fun b o e=>cW (gq e)
   have u6:Un (frs X.stack) fp (upd H2 s2.heap.objs.size (.lst [])) H5 s3.heap s6.heap:=I6.base
   have u7:Un (frs X.stack) fp (upd H2 s2.heap.objs.size (.lst [])) H5 s3.heap h':=
    ⟨fun b o e z1 z2 z3=>(sb.2 b (nC b o e)).trans (u6.keep b o e z1 z2 z3),fun b o e z1 z2 z3=>by
     obtain⟨sl,e1⟩:=u6.slot b o e z1 z2 z3
     exact⟨sl,(sb.2 b (nC b o e)).trans e1⟩,u6.free,fun b o e z=>by
     obtain⟨o',e1⟩:=u6.there b o e z
     exact⟨o',(sb.2 b (nC b o e)).trans e1⟩,u6.tups,u6.frzs,u6.tbls⟩
   have hok7:HOk X.prog X.w H5 h':=fun b o e=>(I6.hok b o e).stay (fun c w' hcc e1=>(sb.2 c (fun z=>by
     have fr:H5 s3.heap.objs.size=none:=I6.free
     rcases hcc with y|y
     ·rw[<-y,z,fr]at e;cases e
     ·rw[z,fr]at y;cases y)).trans e1) (fun _ z=>z) fun _ _ z=>z
   have I7:Inv X pins σ H5 {s6 with heap:=h'}:=I3.call' (s':={s6 with heap:=h'}) (ch:=fp) I6.os u7 hok7 I6.bare fun b hb=>by
    obtain⟨_,g2,g3,g4,g5,g6⟩:=f2 b hb
    exact⟨g4,g2,g5,g6⟩
   exact⟨.ref s2.heap.objs.size,H5,I7,rfl,qn⟩
  ·refine wpAny_mono (T.item (blk X N scope cl s3.heap.objs.size s3 (upd H2 s2.heap.objs.size (.lst [])) fp pins) rfl rfl rfl hc k [] s5 σ5 H5 _ I5 (fpB fr5) st5 go) (fun r s6 h6=>?_) fun _ _ z=>z
   obtain⟨u,hr,h6⟩:=h6
   subst hr
   show wpAny _ _ (pure () >>= fun _=>assign (.Name x px) (compEnvC scope cl s3.heap.objs.size X.env) u) _ _ s6
   refine wpAny_bind (wpAny_mono (show wpAny _ _ (pure ()) _ _ s6 from h6) (fun _ s7 h7=>?_) fun _ _ z=>z)
   obtain⟨v,H7,I7,r7,y7,st7,fr7⟩:=h7
   have I7':=I7.pinned (fpB fr7) (T.obj _ _ st7)
   refine wpAny_assign_Name (lN (X:=blk X N scope cl s3.heap.objs.size s3 (upd H2 s2.heap.objs.size (.lst [])) fp pins) I7' B.nd B.ix (.inl (lookup_relabel_local B.loc)) r7 (fun s8 I8=>?_) (.inr (lookup_relabel_local B.loc)))
   have back:∀{σ9:St} {H9:Hp} {s9:Shared},Inv (blk X N scope cl s3.heap.objs.size s3 (upd H2 s2.heap.objs.size (.lst [])) fp pins) ([]++qm fp s7.heap) σ9 H9 s9->(∃m',m'<n/\W (k+ 1) m' σ9 H9)->
     ∃m',m'<n/\∃k σ' H',Inv (blk X N scope cl s3.heap.objs.size s3 (upd H2 s2.heap.objs.size (.lst [])) fp pins) [] σ' H' s9/\tn k s9.heap/\(∀b∈fp,H' b=none)/\W k m' σ' H':=fun{σ9 H9 s9} I9 q9=>by
    obtain⟨m',hm,w9⟩:=q9
    refine⟨m',hm,k+ 1,σ9,H9,I9.unpinned,T.keep _ _ _ st7 fun b hb o e=>(I9.pin (b,o) (az _ (az _ (kT hb e)))).1,fun b hb=>?_,w9⟩
    obtain⟨o,e,d⟩:=T.obj _ _ st7 b hb
    exact(I9.pin (b,o) (az _ (az _ (kT hb e)))).2.1
   refine wpAny_mono (htt _ _ _ _ _ _ s8 _ H7 _ I8 (step v H7 y7)) (fun ok s9 h9=>?_) fun _ _ z=>False.elim z
   obtain⟨H9,I9,q9⟩:=h9
   cases ok with
   |false=>
    rw[if_neg fN]
    rw[if_neg fN]at q9
    exact back I9 q9
   |true=>
    rw[if_pos rfl]
    rw[if_pos rfl]at q9
    refine wpAny_mono (hte _ _ _ _ _ _ s9 _ H9 _ I9 q9) (fun y s10 h10=>?_) fun _ _ z=>False.elim z
    obtain⟨v10,H10,I10,r10,xs,hx10,hz,q10⟩:=h10
    refine wpAny_mono (iD (X:=blk X N scope cl s3.heap.objs.size s3 (upd H2 s2.heap.objs.size (.lst [])) fp pins) _ s10 _ H10 (.ref s2.heap.objs.size) [v10] _ [y] (fun _ H11=>H11=upd H10 s2.heap.objs.size (.lst (xs++[v10]))) I10 rfl (.cons r10 .nil) ⟨_,xs,v10,rfl,rfl,hx10,hz,rfl⟩) (fun _ s11 h11=>?_) fun _ _ z=>False.elim z
    obtain⟨_,H11,I11,_,e11⟩:=h11
    subst e11
    exact back I11 q10
 exact codeAny_compStart_list (loop _ rfl) (T.self _ 0 _ _ _ st4 (loop _ rfl))
theorem yn {J:It} {xs:List V} {i:Nat} {tt:TT} {te:TE} {Q:VK} {τ:St} {H1:Hp} {D:Addr} (p:V->Bool) (g:V->V) (hD:H1 D=none) (hz:xs.length<=sizeLine) (hτ:τ.set i none=τ)
  (hgo:∀k H,gT H1 H->k<xs.length->J.go k H) (hy:∀k H v H',gT H1 H->J.yld k H v H'->H'=H/\xs[k]?=some v) (hst:∀H,gT H1 H->J.stop xs.length H)
  (htt:∀(k:Nat) v H R,xs[k]?=some v->gT H1 H->R (p v) H->tt (τ.set i (some v)) H R)
  (hte:∀(k:Nat) v H R,xs[k]?=some v->p v=true->gT H1 H->R (g v) H->te (τ.set i (some v)) H R)
  (hq:∀H',gT H1 H'->H' D=some (.lst ((xs.filter p).map g))->Q (.ref D) H'):LcP J i tt te Q τ H1 D:=by
 have sm:∀o,gT H1 (upd H1 D o):=fun o b u e=>by rw[gM (gL e hD)];exact e
 refine⟨fun k m σ' H2=>m=xs.length-k/\k<=xs.length/\(∃o,σ'=τ.set i o)/\H2=upd H1 D (.lst (((xs.take k).filter p).map g)),⟨xs.length,by simp,c8 _,⟨none,hτ.symm⟩,by simp⟩,?_⟩
 rintro k m σ' H2 ⟨rfl,hk,⟨o,rfl⟩,rfl⟩
 by_cases hlt:k<xs.length
 ·refine .inr ⟨hgo k _ (sm _) hlt,fun v H3 y=>?_⟩
  obtain⟨e,hv⟩:=hy k _ v H3 (sm _) y
  subst e
  rw[bp]
  refine htt k v _ _ hv (sm _) ?_
  have tk:(xs.take (k+ 1)).filter p=(xs.take k).filter p++(if p v then[v]else[]):=take_succ_filter p xs k v hv
  have ll:((xs.take k).filter p).length<=k:=by
   refine cX (bq _ _) ?_
   rw[aI]
   lia
  cases hp:p v with
  |true=>
   rw[if_pos rfl]
   refine hte k v _ _ hv hp (sm _) ?_
   refine⟨_,gE,by rw[aD];lia,xs.length-(k+ 1),by lia,rfl,hlt,⟨some v,rfl⟩,?_⟩
   rw[xt,tk,hp,if_pos rfl,bh]
   rfl
  |false=>
   rw[if_neg fN]
   refine⟨xs.length-(k+ 1),by lia,rfl,hlt,⟨some v,rfl⟩,?_⟩
   rw[tk,hp,if_neg fN,aE]
 ·have e:k=xs.length:=by lia
  subst e
  refine .inl ⟨hst _ (sm _),hq _ (sm _) ?_⟩
  rw[gE,br]
section
variable {X:Cx}
theorem zQ {bs:List Bool}:∀{us:List Value},iV (bs.map V.bl) us->us=bs.map Value.bool:=by
 induction bs with
 |nil=>intro us r;rw[aU]at r;cases r;rfl
 |cons n ns ih=>
  intro us r
  rw[aC]at r
  cases r with
  |cons r1 r2=>
   cases(show _=Value.bool n from r1)
   rw[ih r2]
   rfl
theorem wH (bs:List Bool):((aa bs.length).all fun i=>(bs[i]?).getD true)=bs.all id:=by
 induction bs with
 |nil=>rfl
 |cons b r ih=>
  rw[aA,bt,aY,bu,aY,<-ih]
  rfl
theorem wI {h h':Heap} {o:Obj} (hk:∀b x,b∉[h.objs.size]->(h.push o).get? b=some x->h'.get? b=some x):∀b x,h.get? b=some x->h'.get? b=some x:=
 fun b x e=>hk b x (fun hm=>by rw[bg.mp hm]at e;exact cU _ (gq e)) (gv _ e)
theorem zR (hc:X.calm=true):mf X (.builtin "all") (fun xs H Q=>∃(a:Addr) (bs:List Bool),xs=[.ref a]/\SqL X.K H a (bs.map V.bl)/\Q (.bl (bs.all id)) H):=by
 intro pins s σ H xs us Q I r h
 obtain⟨a,bs,rfl,ha,q⟩:=h
 obtain⟨u,rfl,ru⟩:=mj r
 cases ru
 obtain⟨its,rv,pl,hz⟩:=I.list ha
 have ei:=zQ rv
 subst ei
 have hl:s.heap.IsList a (bs.map Value.bool).toArray:=pl.isList
 have hlt:a<s.heap.objs.size:=by obtain⟨_,e,_⟩:=hl;exact gq e
 refine call_all_walk (wpAny_pyIter_list hl ?_)
 refine⟨s.heap.objs.size,[s.heap.objs.size,a],[s.heap.objs.size],(bs.map Value.bool).toArray.size,_,_,fun i=>(bs[i]?).getD true,rfl,Walks.list (A:=X.A.in1) (I.ok.hd hc) _ a (cW hlt) (bs.map Value.bool).toArray,
  ⟨⟨_,gr _ rfl,rfl,rfl⟩,hl.push _⟩,fun i v s' Q' E' hP hQ=>?_,fun h' tk hk=>?_⟩
 ·have hv:(bs.map Value.bool)[i]?=some v:=by simpa using hP
  rw[aM]at hv
  cases e:bs[i]? with
  |none=>rw[e]at hv;cases hv
  |some b=>
   rw[e]at hv
   have e2:v=Value.bool b:=(dB.inj hv).symm
   subst e2
   simp only[e,Option.getD_some]at hQ
   exact wpAny_truthy_bool hQ
 ·have e:((aa (bs.map Value.bool).toArray.size).all fun i=>(bs[i]?).getD true)=bs.all id:=by
   rw[aV,aD];exact wH bs
  rw[e]
  exact⟨.bl (bs.all id),H,I.kept (wI hk),rfl,q⟩
def rSlS:V->Option Int->Option Int->Hp->VK->Prop:=fun x lo hi H Q=>∃z,x= .str z/\z.length<=sizeLine/\Q (.str (Txt.slice z lo hi)) H
theorem qw:SlR X rSlS:=by
 intro pins s σ H x v vl vu lo hi sl Q I rx hs pl pu h
 obtain⟨z,rfl,hz,q⟩:=h
 obtain⟨t,rfl⟩:=rx
 refine⟨"str",_,F.slot_str_getitem.lookup,typeIs_str _ _ _,?_⟩
 have fin:∀t' k,EP X pins σ Q (.str (Txt.slice z lo hi) t') {s with toks:=k}:=fun t' k=>⟨.str _,H,I.tok k,⟨t',rfl⟩,q⟩
 cases pl with
 |none=>
  cases pu with
  |none=>exact wpAny_getItem_str_slice (l:=none) (u:=none) (st:=none) hs rfl (post_val_or_str ⟨cX (Txt.slice_le z _ _) hz,fun t' k=>fin t' k⟩)
  |int j u=>exact wpAny_getItem_str_slice (l:=none) (u:=some (j,u)) (st:=none) hs rfl (post_val_or_str ⟨cX (Txt.slice_le z _ _) hz,fun t' k=>fin t' k⟩)
 |int i u'=>
  cases pu with
  |none=>exact wpAny_getItem_str_slice (l:=some (i,u')) (u:=none) (st:=none) hs rfl (post_val_or_str ⟨cX (Txt.slice_le z _ _) hz,fun t' k=>fin t' k⟩)
  |int j u=>exact wpAny_getItem_str_slice (l:=some (i,u')) (u:=some (j,u)) (st:=none) hs rfl (post_val_or_str ⟨cX (Txt.slice_le z _ _) hz,fun t' k=>fin t' k⟩)
theorem mL:mf X (.builtin "isinstance") (fun xs H Q=>∃x v c t b,xs=[x,v]/\(∀u,jq v u->u=c)/\ub X.K H x t/\eF X.K t c=some b/\Q (.bl b) H):=by
 intro pins s σ H xs us Q I r h
 obtain⟨x,v,c,t,b,rfl,hc,ht,hk,q⟩:=h
 obtain⟨u,u',rfl,ru,ru'⟩:=xH r
 cases hc u' ru'
 exact xP I ru ht hk fun tk=>⟨.bl b,H,I.tok tk,rfl,q⟩
end
section
variable {X:Cx}
def wJ:List V->List V->Bool
 |[],[]=>true
 |x::xs,y::ys=>eqV x y&&wJ xs ys
 |_,_=>false
theorem qy:∀(xs ys:List V),xs.length=ys.length->((aa xs.length).all fun j=>match xs[j]?,ys[j]? with|some a,some b=>eqV a b|_,_=>false)=wJ xs ys
 |[],[],_=>rfl
 |x::xs,y::ys,h=>by
  have h':xs.length=ys.length:=by simpa using h
  have ih:=qy xs ys h'
  rw[aA,bt,aY,bu]
  show(eqV x y&&_)=(eqV x y&&wJ xs ys)
  rw[<-ih]
  rfl
 |[],_::_,h=>by simp at h
 |_::_,[],h=>by simp at h
theorem vt:∀(xs ys:List V),xs.length≠ys.length->wJ xs ys=false
 |[],[],h=>absurd rfl h
 |x::xs,y::ys,h=>by
  have h':xs.length≠ys.length:=fun e=>h (by simp[e])
  show(eqV x y&&wJ xs ys)=false
  rw[vt xs ys h',Bool.and_false]
 |[],_::_,_=>rfl
 |_::_,[],_=>rfl
def rEqL (K:PySem.W.Frag) (neg:Bool):R2:=fun x y H Q=>∃a b xs ys,x= .ref a/\y= .ref b/\SqL K H a xs/\SqL K H b ys/\xs.all m8=true/\ys.all m8=true/\Q (.bl (if neg then !wJ xs ys else wJ xs ys)) H
theorem yo {xs:List V} (h:xs.all m8=true) {j:Nat} {x:V} (e:xs[j]?=some x):m8 x=true:=bw.mp h x (aN e)
theorem D2 (hu:X.A.units<cLine):OpR X (compareOp .Eq) (rEqL X.K false):=by
 intro pins s σ H x y v u Q I rx ry h
 obtain⟨a,b,xs,ys,rfl,rfl,ha,hb,fa,fb,q⟩:=h
 cases rx
 cases ry
 obtain⟨its,rv,pl,hz⟩:=I.list ha
 obtain⟨its2,rv2,pl2,hz2⟩:=I.list hb
 have l1:=rv.length
 have l2:=rv2.length
 by_cases hl:xs.length=ys.length
 ·refine SeqAt.eq_listAt (e:=fun j=>match xs[j]?,ys[j]? with|some a,some b=>eqV a b|_,_=>false) pl.isList pl2.isList (by simp only[aV];lia) hu (fun j h1 h2=>?_) ?_
  ·have h1':j<xs.length:=by simp only[aV]at h1;lia
   have h2':j<ys.length:=by simp only[aV]at h2;lia
   obtain⟨w1,e1,r1⟩:=rv.get (bx h1')
   obtain⟨w2,e2,r2⟩:=rv2.get (bx h2')
   have g1:its.toArray[j]=w1:=by
    have z:=(au.mp e1).2
    simpa using z
   have g2:its2.toArray[j]=w2:=by
    have z:=(au.mp e2).2
    simpa using z
   rw[g1,g2]
   simp only[bx h1',bx h2']
   exact AZ r1 r2 (yo fa (bx h1')) (yo fb (bx h2'))
  ·have e:((aa its.toArray.size).all fun j=>match xs[j]?,ys[j]? with|some a,some b=>eqV a b|_,_=>false)=wJ xs ys:=by
    rw[aV,<-l1]
    exact qy xs ys hl
   rw[e]
   exact⟨.bl (wJ xs ys),H,I,rfl,q⟩
 ·refine SeqAt.eq_list_lengthsAt pl.isList pl2.isList (by simp only[aV,bne_iff_ne,ne_eq];lia) hu ?_
  refine⟨.bl false,H,I,rfl,?_⟩
  have e:=vt xs ys hl
  have q':Q (.bl (wJ xs ys)) H:=q
  rw[e]at q'
  exact q'
open Builtin Builtin.Str in
theorem D3 {prog:Program} {w:World} {A:Around} {E:Value->Shared->Prop} {s:Shared} {x y:Str} {t u:Tok} {Q:Value->Shared->Prop} (hy:(y.length==0)=false)
  (h:∀l k,l.map (·.1)=Txt.split x y->Q (.ref s.heap.objs.size) {s with heap:=s.heap.push {cls:= .type "list",data:= .seq (strValues l).toArray},toks:=k}) (hsz:x.length+ 2<=sizeLine):
  wpAny (model prog w) A (call (.builtin "str.split") [.str x t,.str y u]) Q E s:=by
 have hn:(partsBetween x (occurrences x y 0 x.length (x.length+ 1)) y.length).length<=sizeLine:=by
  have e1:=StrLaws.occ_length_le x y 0 x.length (x.length+ 1)
  rw[length_partsBetween];lia
 cases h1:(decide (x.length<y.length)||decide (strKind x<strKind y))
 ·cases hf:(occurrences x y 0 x.length (x.length+ 1)).isEmpty
  ·refine call_meets F.slot_str_split (typeIs_str _ _ _) F.entry_str_split (F.args_str_split_2 _ _) (meets_str_split_sep x y t u h1 hy hf (by lia) hn) ?_
   show wants Q E _ {s with toks:=_,heap:=s.heap.push {cls:= .type "list",data:= .seq (strsFrom s.toks (partsBetween x (occurrences x y 0 x.length (x.length+ 1)) y.length)).toArray}}
   rw[strsFrom_eq]
   exact h (numbered s.toks _) _ ((numbered_texts _ _).trans ((if_neg (ne_true_of_eq_false h1)).trans (if_neg (ne_true_of_eq_false hf))).symm)
  ·exact call_meets F.slot_str_split (typeIs_str _ _ _) F.entry_str_split (F.args_str_split_2 _ _) (meets_str_split_not_found x y t u h1 hy hf)
    (h [(x,t)] s.toks ((if_neg (ne_true_of_eq_false h1)).trans (if_pos hf)).symm)
 ·exact call_meets F.slot_str_split (typeIs_str _ _ _) F.entry_str_split (F.args_str_split_2 _ _) (meets_str_split_cannot_occur x y t u h1)
   (h [(x,t)] s.toks (if_pos h1).symm)
theorem sR:∀l:List (Str×Tok),iV ((l.map (·.1)).map V.str) (strValues l)
 |[]=> .nil
 |p::r=> .cons ⟨p.2,rfl⟩ (sR r)
theorem pf (x y:Str):(Txt.split x y).length<=x.length+ 2:=by
 unfold Txt.split
 split
 ·show 1<=_;lia
 ·split
  ·show 1<=_;lia
  ·have e1:=StrLaws.occ_length_le x y 0 x.length (x.length+ 1)
   rw[length_partsBetween];lia
def D4:V->List V->Hp->VK->Prop:=fun x xs H Q=>∃z y,x= .str z/\xs=[.str y]/\(y.length==0)=false/\z.length+ 2<=sizeLine/\∀l,H l=none->Q (.ref l) (upd H l (.lst ((Txt.split z y).map V.str)))
theorem zS:MtR X "str.split" D4:=by
 intro pins s σ H x xs v us Q I rx rs h
 obtain⟨z,y,rfl,rfl,hy,hz,q⟩:=h
 obtain⟨t,rfl⟩:=rx
 obtain⟨u,rfl,ru⟩:=mj rs
 obtain⟨t',rfl⟩:=ru
 refine D3 hy (fun l k hl=>?_) hz
 have hv:=sR l
 rw[hl]at hv
 exact⟨.ref s.heap.objs.size,_,I.lnew hv (by rw[aD];exact cX (pf z y) hz),rfl,q _ I.fresh⟩
def PE1 (X:Cx) (e:Expr) (t:TE):Prop:=
 ∀(pins:List (Addr×Obj)) (s:Shared) (σ:St) (H:Hp) (Q:VK),Inv X pins σ H s->1<=s.toks->t σ H Q->wpAny (model X.prog X.w) X.A (eval e X.env) (fun u s'=>1<=s'.toks/\EP X pins σ Q u s') X.xe s
theorem PE.one {e:Expr} {t:TE} (h:PE X e t):PE1 X e t:=fun pins s σ H Q I ht hw=>wpAny_mono (wpAny_toks_of ht (h pins s σ H Q I hw)) (fun _ _ z=>z) fun _ _ z=>z.2
def F3 (to:TE) (y z:Str):TE:=fun σ H Q=>to σ H fun v H1=>∃x,v= .str x/\x.length+(x.length+ 1)*z.length<=16777216/\Q (.str (Txt.replace x y z)) H1
theorem qW {o:Expr} {to:TE} {y z:Str} {k1 k2 p1 p2 apos cpos} (ho:PE1 X o to) (hyz:(y==z)=false)
  (hbase:autoParam (attributeBase o "replace" X.env (eval o X.env)=eval o X.env) L2.Internal.auR._auto_1)
  (hfew:((backTo cpos (starEach [.Constant (.str y) k1 p1,.Constant (.str z) k2 p2] X.env)).all (fun x=>!x.1)&&(backToKw cpos (keywordEach [] X.env)).all (fun x=>x.1.isSome)
   &&decide (([.Constant (.str y) k1 p1,.Constant (.str z) k2 p2]:List Expr).length+([]:List Keyword).length+(if([]:List Keyword).isEmpty then 0 else 1)<30))=true:=by rfl)
  (hline:autoParam ((apos.endLine==cpos.line)=true) L2.Internal.auR._auto_1):PE1 X (.Call (.Attribute o "replace" apos) [.Constant (.str y) k1 p1,.Constant (.str z) k2 p2] [] cpos) (F3 to y z):=by
 intro pins s σ H Q I ht h
 refine wpAny_Call_method_late hbase hfew hline rfl (thn (ho pins s σ H _ I ht h) fun v s1 q1=>?_)
 obtain⟨ht1,v1,H1,I1,r1,x,rfl,hb,q⟩:=q1
 obtain⟨t,rfl⟩:=r1
 refine⟨"str","str.replace",F.plainAttrs_str,F.slot_str_replace,F.type_str_replace,typeIs_str _ _ _,(fun _ e=>nomatch e),?_⟩
 refine Calls.callWith_builtin rfl (Calls.evalArgs_plain ?_)
 show wpAny _ _ (spliced ((false,eval (.Constant (.str y) k1 p1) X.env)::backTo cpos (starEach [.Constant (.str z) k2 p2] X.env))) _ _ s1
 refine Calls.spliced_cons (Calls.Constant_str ?_)
 show wpAny _ _ (spliced ((false,eval (.Constant (.str z) k2 p2) X.env)::backTo cpos (starEach [] X.env))) _ _ _
 refine Calls.spliced_cons (Calls.Constant_str (Calls.spliced_nil ?_))
 refine wpAny_mono (wpAny_toks_of (n:=1) (by show 1<=s1.toks+ 1+ 1;lia) (SC.replace (Q:=EP X pins σ Q) (E:=X.xe) (u:=s1.toks) (v:=s1.toks+ 1) (Nat.pos_iff_ne_zero.mp ht1) (Nat.succ_ne_zero _) (cW (da _)) hyz hb fun t' k=>⟨.str _,H1,?_,⟨t',rfl⟩,q⟩)) (fun _ _ z=>z) fun _ _ z=>z.2
 exact I1.tok k
def Dp (X:Cx) (st:List Stmt) (t:TS):Prop:=
 ∀(pins:List (Addr×Obj)) (s:Shared) (σ:St) (H:Hp) (D:nY),Inv X pins σ H s->1<=s.toks->t D σ H->wpAny (model X.prog X.w) X.A (execs st X.env) (SP X pins D) X.xe s
theorem zT {i:Nat} {x:Str} {e:Expr} {te:TE} {pos pos':Pos} {rest:List Stmt} {u:TS} (hN:X.N.Nodup) (hi:X.N[i]?=some x) (hx:Loc X.env.scope x) (he:PE1 X e te) (hr:PSs X rest u)
  (hs:autoParam (swapsWith e (some (.Name x pos')) pos.line X.env=pure false) L2.Internal.auR._auto_1) (hf:autoParam (X.fn x=true\/X.env.scope.names.lookup x=some .local) L2.Internal.auL._auto_1):
  Dp X (.Assign [.Name x pos'] e pos::rest) (xk (DE te (iW i)) u):=by
 intro pins s σ H D I ht h
 refine wpAny_execs_cons (wpAny_Assign_Name (thn (he pins s σ H _ I ht h) fun v s1 q1=>?_) hs)
 obtain⟨_,y,H1,I1,r1,q⟩:=q1
 exact lN I1 hN hi hx r1 (fun s2 I2=>hr pins s2 _ H1 D I2 q) hf
theorem Dp.nox {st:List Stmt} {t:TS} (h:Dp X.nox st t):Dp X st t:=fun pins s σ H D I ht hw=>
 wpAny_mono (h pins s σ H D (I.wish _) ht hw) (fun _ _ q=>q.unwish) fun _ _ z=>False.elim z
end
theorem D5 {CX:CXT} {P:Program} {w:World} {K:PySem.W.Frag} {mg:Str->Option Value} {base:Heap} {k:Nat} {f:Addr} {name qual p:Str} {params:Arguments} {body:List Stmt} {scope:Scope} {dV kV doc pm cdv ct oc:Value} {an od:Option Addr}
  {osl:Array (Option Value)} {N:List Str} {sp:Sp} (lk:K.lookup f=some ⟨oc,od,.func (eN name qual params body scope dV kV doc pm an cdv ct),osl⟩) (hcd:eO K cdv qual=true) (S:gZ N [p] scope)
  (nc:∀x∈scope.names,x.2≠ .cell) (nc2:∀n,cellsFrom n scope.names []=[]) (len:∀vs H Q E,sp vs H Q E->vs.length=1)
  (hbody:∀(A:Around) (outer:List Env) (s:Shared) (H:Hp) (vs:List V) (Q:VK) (E:XK),mU k (A.deeper (envOfC qual scope s.heap.objs.size f cdv))->sp vs H Q E->
   ∃t,Dp (sd CX P w K mg base N qual scope f cdv A outer s H E) body t/\t {nx:=fun _ H'=>Q .non H',rt:=Q} (start N vs) H):
  iK P w K mg base CX (k+ 1) f (eN name qual params body scope dV kV doc pm an cdv ct) [p] sp:=by
 refine⟨len,fun A outer s H args us vs Q E hr e0 hb r hsp=>?_⟩
 have hl:=len _ _ _ _ hsp
 have hul:us.length=1:=by rw[<-r.length];exact hl
 obtain⟨u,rfl⟩:∃u,us=[u]:=by
  match us,hul with
  |[u],_=>exact⟨u,rfl⟩
 have KX:K.In s.heap:=e0.mod.kin.keeps fun b o e=>(e0.bs b o e).1
 have lim:s.heap.NoLimit:=e0.mod.nolimit.keeps fun b o e=>(e0.bs b o e).1
 have hpl:scope.names.lookup p=some .local:=by
  rcases S.par p (by simp)with q|q
  ·exact q
  ·exact absurd rfl (nc _ (PySem.mem_of_lookup q))
 refine codeAny_call_function hr.depth (KX _ _ lk) rfl S.co S.gen rfl (eP KX hcd) (hb _ _ _ _ ?_)
 refine wpAny_newFunctionEnv nc (fun x hx=>?_) (fun h' hn hs=>?_) S.kind
 ·have e:x=(p,u):=by simpa using hx
  rw[e]
  exact hpl
 have keep:∀b o,s.heap.get? b=some o->h'.get? b=some o:=fun b o e=>hs.extBut b o (cW (gq e)) (gv _ e)
 refine⟨lim.keeps keep,codeAny_func ?_⟩
 obtain⟨t,ht,hq⟩:=hbody A outer s H vs Q E (hr.deeper _) hsp
 have em:(fun x=>(bz [p] [u]).reverse.lookup x)=bindL (envOfC qual scope s.heap.objs.size f cdv).kindOf (bz [p] [u]) fun _=>none:=by
  funext x
  show(match x==p with|true=>some u|false=>none)=(if(envOfC qual scope s.heap.objs.size f cdv).kindOf p=some .local then fun y=>if y=p then some u else none else fun _=>none) x
  rw[if_pos (show(envOfC qual scope s.heap.objs.size f cdv).kindOf p=some .local from hpl)]
  cases e:x==p with
  |true=>rw[if_pos (eq_of_beq e)]
  |false=>rw[if_neg (ne_of_beq_false e)]
 have x:InCallC s s.heap.objs.size (bindL (envOfC qual scope s.heap.objs.size f cdv).kindOf (bz [p] [u]) fun _=>none) (cellsFrom (s.heap.objs.size+ 1) scope.names []) (bindC (envOfC qual scope s.heap.objs.size f cdv).kindOf (bz [p] [u]) fun _=>none)
   {s with heap:=h',toks:=s.toks+(bz [p] [u]).length}:=by
  rw[nc2]
  refine⟨⟨⟨h',_,rfl⟩,?_,keep,c7 _⟩,fun n c e=>by simp at e,List.Pairwise.nil,fun n c e=>by simp at e⟩
  rw[<-em]
  exact hn
 have I:Inv (sd CX P w K mg base N qual scope f cdv A outer s H E) [] (start N vs) H {s with heap:=h',toks:=s.toks+(bz [p] [u]).length}:=sE S hr.hd e0 hl r x
 have eenv:newEnv (eN name qual params body scope dV kV doc pm an cdv ct).scope s.heap.objs.size (eN name qual params body scope dV kV doc pm an cdv ct).globals (eN name qual params body scope dV kV doc pm an cdv ct).closure
   ((eN name qual params body scope dV kV doc pm an cdv ct).qualname++".<locals>.") (some f) (eN name qual params body scope dV kV doc pm an cdv ct).code none (eN name qual params body scope dV kV doc pm an cdv ct).builtins=envOfC qual scope s.heap.objs.size f cdv:=by
  unfold envOfC
  rw[nc2]
  rfl
 rw[eenv]
 have go:=ht [] _ (start N vs) H _ I (by show 1<=s.toks+ 1;lia) hq
 refine wpAny_mono go (fun fl s' hs=>?_) fun e s' hs=>hs
 have fin:∀{σ':St} {H':Hp} {v:V} {u:Value},Inv (sd CX P w K mg base N qual scope f cdv A outer s H E) [] σ' H' s'->jq v u->Q v H'->CE outer P w H s Q u s':=
  fun{σ' H' v u} J rv q=>⟨v,H',J.os,J.bare,J.base,J.hok,rv,q⟩
 cases fl with
 |ret u=>
  obtain⟨v,σ',H',J,rv,q⟩:=hs
  exact fin J rv q
 |next=>
  obtain⟨σ',H',J,q⟩:=hs
  exact fin (v:=V.non) (u:=Value.none) J rfl q
 |brk=>
  obtain⟨_,_,_,q⟩:=hs
  exact False.elim q
 |cont=>
  obtain⟨_,_,_,q⟩:=hs
  exact False.elim q
section
variable {X:Cx} {st:Stmt} {rest:List Stmt} {t u:TS}
end
section
variable {P:Program} {w:World} {H H':Hp} {h h':Heap} {a:Addr} {o:HO}
theorem jd.there (x:jd P w H h a o):∃ob,h.get? a=some ob:=by
 cases o with
 |lst xs=>obtain⟨_,_,_,_,e⟩:=x;exact⟨_,e⟩
 |tup xs=>obtain⟨_,_,_,⟨ob,e,_⟩⟩:=x;exact⟨ob,e⟩
 |dK kvs=>obtain⟨_,_,_,_,ob,_,_,e,_⟩:=x;exact⟨ob,e⟩
 |dT kvs=>obtain⟨_,_,_,_,ob,_,_,e,_⟩:=x;exact⟨ob,e⟩
 |set S n=>obtain⟨ob,_,_,_,e,_⟩:=x;exact⟨ob,e⟩
 |ins C dx fs=>obtain⟨_,_,_,e,_⟩:=x;exact⟨_,e⟩
 |own y=>exact x
 |xd fs=>obtain⟨_,⟨ob,_,_,e,_⟩,_⟩:=x;exact⟨ob,e⟩
 |rng lo hi=>obtain⟨_,_,_,e⟩:=x;exact⟨_,e⟩
 |frz ob u=>obtain⟨e,_⟩:=x;exact⟨_,e⟩
 |tbl ps=>exact⟨_,x⟩
 |met f y=>exact⟨_,x⟩
 |ext φ=>exact x.2.1
end
structure Fl (P:Program) (w:World) (outer:List Env) (H:Hp) (s:Shared) (B:Heap) (H':Hp) (s':Shared):Prop where
 os:s'.os=s.os
 bare:AllBare s'.gens
 un:Un (frs outer) [] H H' s.heap s'.heap
 hok:HOk P w H' s'.heap
 stay:B.StaysIn s'.heap
 trk:∀b u,H' b=some u->∃o,B.get? b=some o
 old:∀b o,s.heap.get? b=some o->b∉frs outer->∃o',B.get? b=some o'
def CXE (P:Program) (w:World):CXT:=fun outer H s E e s'=>∃(ea:Addr) (cls a0:Value) (B:Heap) (H':Hp),e= .ref ea/\Fl P w outer H s B H' s'/\Heap.FlyingW B outer ea cls a0 s'.heap/\E cls none H'
section
variable {X:Cx} {pins:List (Addr×Obj)} {σ:St} {H H':Hp} {s s':Shared} {B h:Heap}
theorem Inv.nst (I:Inv X pins σ H s) {b:Addr} (h1:b≠X.env.locals) (h2:b∉X.fs):b∉frs X.stack:=fun hb=>(aj.mp (I.stkSub b hb)).elim h1 h2
theorem Inv.oldNe (I:Inv X pins σ H s) {b:Addr} {o:Obj} (e:X.s₀.heap.get? b=some o):b≠X.env.locals:=cW (cR (gq e) I.ok.above)
theorem Inv.flown (I:Inv X pins σ H s) (F:Fl X.prog X.w X.stack H s B H' s') (st:B.StaysIn h) (up:s'.heap.UpToSlots h):Inv X pins σ H' {s' with heap:=h}:=by
 have J:Inv X pins σ H' s':=I.call' (ch:=[]) F.os F.un F.hok F.bare (fun b hb=>nomatch hb)
 have ex:∀b o o0,s'.heap.get? b=some o->s.heap.get? b=some o0->b∉frs X.stack->h.get? b=some o:=fun b o o0 e e0 hb=>by
  obtain⟨o1,e1⟩:=F.old b o0 e0 hb
  have e2:=F.stay b o1 e1
  rw[e]at e2
  cases e2
  exact st b o e1
 have fr:∀b o,b∈frs X.stack->s'.heap.get? b=some o->∃sl,h.get? b=some {o with slots:=sl}:=fun b o hb e=>by
  obtain⟨_,o1,e1,hd⟩:=J.stack.mem hb
  rw[e]at e1
  cases e1
  exact up b o e hd
 have cellK:∀c v,s'.heap.IsCell c v->h.IsCell c v:=fun c v ⟨o,ho,hd⟩=>by
  obtain⟨sl,e⟩:=up c o ho (fun vs z=>by rw[hd]at z;cases z)
  exact⟨_,e,hd⟩
 refine⟨J.ok,J.os,J.bare,⟨fun b o e n hf hx=>?_,fun b o e n hf hx=>?_,J.base.free,fun b o e hx=>?_,J.base.tups,J.base.frzs,J.base.tbls⟩,?_,fun y c e=>?_,J.free,J.freeC,fun p hp=>?_,fun b u e=>?_,J.len⟩
 ·exact ex b o o (J.base.keep b o e n hf hx) (I.base.keep b o e n hf hx) (I.nst (I.oldNe e) hf)
 ·obtain⟨sl,e1⟩:=J.base.slot b o e n hf hx
  obtain⟨_,o1,e2,hd⟩:=J.funs.mem hf
  rw[e1]at e2
  cases e2
  obtain⟨sl',e3⟩:=up b _ e1 hd
  exact⟨sl',e3⟩
 ·obtain⟨o',e1⟩:=J.base.there b o e hx
  by_cases hb:b∈frs X.stack
  ·obtain⟨sl,e2⟩:=fr b o' hb e1
   exact⟨_,e2⟩
  ·obtain⟨o0,e0⟩:=I.base.there b o e hx
   exact⟨o',ex b o' o0 e1 e0 hb⟩
 ·obtain⟨m,hn,hl⟩:=J.loc
  refine⟨m,up.ns hn,fun i x v e1 e2 e3=>?_⟩
  obtain⟨u,r,l⟩:=hl i x v e1 e2 e3
  refine⟨u,r,?_⟩
  rcases l with l|⟨k,c,e,z⟩
  ·exact .inl l
  ·exact .inr ⟨k,c,e,cellK _ _ z⟩
 ·obtain⟨v,z⟩:=J.cell y c e
  exact⟨v,cellK _ _ z⟩
 ·obtain⟨e,n,ne,nf,d⟩:=J.pin p hp
  exact⟨ex p.1 p.2 p.2 e (I.pin p hp).1 (I.nst ne nf),n,ne,nf,d⟩
 ·refine(J.hok b u e).stay (fun c v hc q=>?_) (fun _ z=>z) fun _ _ z=>z
  have tr:∃u',H' c=some u':=by
   rcases hc with z|z
   ·rw[z];exact⟨u,e⟩
   ·exact⟨_,z⟩
  obtain⟨u',hu⟩:=tr
  obtain⟨o1,e1⟩:=F.trk c u' hu
  have e2:=F.stay c o1 e1
  rw[q]at e2
  cases e2
  exact st c v e1
theorem Inv.track {ea:Addr} {o:HO} (I:Inv X pins σ H s) (hn:H ea=none) (h0:X.s₀.heap.get? ea=none) (hL:ea≠X.env.locals) (hC:∀x c,X.env.cells.lookup x=some c->c≠ea) (hP:∀p∈X.pn++pins,p.1≠ea)
  (new:jd X.prog X.w (upd H ea o) s.heap ea o):Inv X pins σ (upd H ea o) s:=by
 have ne:∀b u,H b=some u->b≠ea:=fun b u e z=>by rw[z,hn]at e;cases e
 refine⟨I.ok,I.os,I.bare,⟨I.base.keep,I.base.slot,fun b ob e n hx=>?_,I.base.there,fun b xs e=>?_,fun b ob u e=>?_,fun b ps e=>?_⟩,I.loc,I.cell,?_,fun x c e=>?_,fun p hp=>?_,fun b u e=>?_,I.len⟩
 ·rw[gM (fun z=>by rw[z,h0]at e;cases e)]
  exact I.base.free b ob e n hx
 ·have e1:=I.base.tups b xs e
  rw[gM (ne b _ e1)]
  exact e1
 ·have e1:=I.base.frzs b ob u e
  rw[gM (ne b _ e1)]
  exact e1
 ·obtain⟨more,e1⟩:=I.base.tbls b ps e
  exact⟨more,by rw[gM (ne b _ e1)];exact e1⟩
 ·rw[gM (Ne.symm hL)]
  exact I.free
 ·rw[gM (hC x c e)]
  exact I.freeC x c e
 ·obtain⟨e,n,n2,nf,d⟩:=I.pin p hp
  exact⟨e,by rw[gM (hP p hp)];exact n,n2,nf,d⟩
 ·by_cases hb:b=ea
  ·subst hb
   rw[gE]at e
   cases e
   exact new
  ·rw[gM hb]at e
   exact(I.hok b u e).stay (fun _ _ _ q=>q) (fun c z=>by rw[gM (ne c _ z)];exact z) fun c xs z=>by rw[gM (ne c _ z)];exact z
theorem yp {M:Model} {A:Around} {E:Value->Shared->Prop} {i:Nat} {x:Str} {pos:Pos} {Q:Unit->Shared->Prop} (I:Inv X pins σ H s) (hN:X.N.Nodup) (hi:X.N[i]?=some x) (hx:X.env.scope.names.lookup x=some .local)
  (h:∀s',Inv X pins (σ.set i none) H s'->Q () s'):wpAny M A (do bindName X.env x .none;unbindBehindTheSuite X.env x pos) Q E s:=by
 obtain⟨m,hn,hl⟩:=id I.loc
 have hcls:(X.env.scope.kind== .class||(X.env.scope.kind== .module&&X.env.locals !=X.env.globals))=false:=by rw[I.ok.kind];rfl
 refine wpAny_nameGoes_keeps hx hn hcls fun h' v hn' hs=>?_
 have old:∀b o,X.s₀.heap.get? b=some o->h'.get? b=s.heap.get? b:=fun b o e=>hs.2 b (I.oldNe e)
 have tr:∀b u,H b=some u->h'.get? b=s.heap.get? b:=fun b u e=>hs.2 b (fun z=>by rw[z,I.free]at e;cases e)
 refine h _ ⟨I.ok,I.os,I.bare,⟨fun b o e n hf hx'=>?_,fun b o e n hf hx'=>?_,I.base.free,fun b o e hx'=>?_,I.base.tups,I.base.frzs,I.base.tbls⟩,⟨_,hn',fun j y v' e1 e2 e3=>?_⟩,fun y c e=>?_,I.free,I.freeC,fun p hp=>?_,fun b u e=>?_,by simpa using I.len⟩
 ·show h'.get? b=_
  rw[old b o e]
  exact I.base.keep b o e n hf hx'
 ·show ∃sl,h'.get? b=_
  rw[old b o e]
  exact I.base.slot b o e n hf hx'
 ·show ∃o',h'.get? b=_
  rw[old b o e]
  exact I.base.there b o e hx'
 ·have hj:j≠i:=fun z=>by
   rw[z]at e2
   have hiσ:i<σ.length:=by rw[I.len];exact(au.mp hi).1
   rw[av hiσ]at e2
   cases e2
  rw[aw (Ne.symm hj)]at e2
  obtain⟨u,r,q⟩:=hl j y v' e1 e2 e3
  refine⟨u,r,?_⟩
  rcases q with⟨k,e⟩|⟨k,c,e,z⟩
  ·have yx:y≠x:=fun e=>hj (qO hN e1 (e▸hi))
   exact .inl ⟨k,by show(if y=x then v else m y)=some u;rw[if_neg yx];exact e⟩
  ·exact .inr ⟨k,c,e,z.sameBut hs (I.cne y c e)⟩
 ·obtain⟨w',z⟩:=I.cell y c e
  exact⟨w',z.sameBut hs (I.cne y c e)⟩
 ·obtain⟨e,n,ne,nf,d⟩:=I.pin p hp
  exact⟨(hs.2 p.1 ne).trans e,n,ne,nf,d⟩
 ·refine(I.hok b u e).stay (fun c v hc q=>?_) (fun _ z=>z) fun _ _ z=>z
  show h'.get? c=_
  rcases hc with z|z
  ·rw[z]at q⊢
   rw[tr b u e]
   exact q
  ·rw[tr c _ z]
   exact q
end
section
variable {P:Program} {w:World} {K:PySem.W.Frag} {mg:Str->Option Value} {base:Heap} {N:List Str} {qual:Str} {scope:Scope} {f:Addr} {cd:Value} {A:Around} {outer:List Env} {s₀:Shared} {H₀:Hp} {E:XK}
theorem kH:nH (CXE P w) (sd (CXE P w) P w K mg base N qual scope f cd A outer s₀ H₀ E) E:=by
 intro pins σ H s e s' I hx
 obtain⟨ea,cls,a0,B,H',rfl,F,fl,q⟩:=hx
 show wpAny _ _ (leaving _ (.ref ea)) _ _ s'
 refine wpAny_leaves_onW (outer:=outer) I.ok.frames rfl fl fun h' fl' up=>?_
 have J:=I.flown F fl'.1 up
 refine⟨ea,cls,a0,B,H',rfl,⟨J.os,J.bare,J.base,J.hok,fl'.1,F.trk,fun b o e hb=>?_⟩,fl',q⟩
 obtain⟨o1,e1⟩:=I.base.there b o e (fun z=>nomatch z)
 exact F.old b o1 e1 (I.nst (I.oldNe e) hb)
theorem D6 {pins:List (Addr×Obj)} {σ:St} {H:Hp} {s:Shared} {h':Heap} {ea:Addr} {cls:Value} {vs:List Value}
  (I:Inv (sd (CXE P w) P w K mg base N qual scope f cd A outer s₀ H₀ E) pins σ H s) (hx:Heap.MadeExcOf s.heap h' ea cls vs) (q:E cls none H):
  (sd (CXE P w) P w K mg base N qual scope f cd A outer s₀ H₀ E).xe (.ref ea) {s with heap:=h'}:=by
 generalize hX:sd (CXE P w) P w K mg base N qual scope f cd A outer s₀ H₀ E=X at I
 have hst:X.stack=envOfC qual scope s₀.heap.objs.size f cd::outer:=by rw[<-hX];rfl
 have B1:∀b o,s.heap.get? b=some o->b∉frs X.stack->(dI s.heap (frs X.stack)).get? b=some o:=fun b o e hb=>dJ _ e hb
 have F:Fl X.prog X.w X.stack H s (dI s.heap (frs X.stack)) H {s with heap:=h'}:=by
  refine⟨rfl,I.bare,Un.kept hx.keeps,I.hok.kept hx.keeps,fun b o e=>hx.keeps b o (dM _ e),fun b u e=>?_,fun b o e hb=>⟨o,B1 b o e hb⟩⟩
  obtain⟨ob,eo⟩:=(I.hok b u e).there
  exact⟨ob,B1 b ob eo fun hb=>by rw[I.stkFree b hb]at e;cases e⟩
 have fr:s.heap.FunFrames (dI s.heap (frs X.stack)) X.stack:=eQ I.stack fun env he a ha=>ay.mpr ⟨env,he,ha⟩
 have hA:X.A.frames=some X.stack:=I.ok.frames
 rw[hst]at fr hA F B1
 subst hX
 show wpAny _ _ (leaving _ (.ref ea)) _ _ _
 refine wpAny_leaves_madeW (outer:=outer) hA rfl (fun b o e=>dM _ e) fr hx fun h'' t fl _ _ up=>?_
 have J:=I.flown F fl.1 up
 refine⟨ea,cls,_,_,H,rfl,⟨J.os,J.bare,J.base,J.hok,fl.1,F.trk,fun b o e hb=>?_⟩,fl,q⟩
 obtain⟨o1,e1⟩:=I.base.there b o e (fun z=>nomatch z)
 exact F.old b o1 e1 (I.nst (I.oldNe e) hb)
end
theorem BZ {K:PySem.W.Frag} {h:Heap} {C:Addr} {bmB:List Value} {newId:String} (hk:K.In h) (z:eR K C bmB newId=true):
  ∃bm N nm q bs hdct sn sub ab col dd k0 k1 k2 k3 k5 mN,h.get? C=some (excClassObj nm q C N bs bm hdct sn sub ab col dd k0 k1 k2 k3 k5 newId)/\h.Ns N mN/\mN "__init__"=none/\OwnTail h bmB bm:=by
 unfold eR at z
 split at z
 case h_2=>cases z
 rename_i d1 c1 l1 look
 split at z
 case h_2=>cases z
 rename_i C1 tail a0 a1 a2 a3 nid a5 hmro hslots
 simp only[fV,beq_iff_eq,Bool.not_eq_true']at z
 obtain⟨⟨⟨⟨⟨rfl,rfl⟩,z3⟩,z4⟩,z5⟩,z6⟩:=z
 obtain⟨x1,x2,x3,x4,x5,x6,x7,x8,x9,x10,x11⟩:=c1
 dsimp only at hmro z3 z5 z6
 subst hmro z3
 obtain⟨ll⟩:=l1
 have hll:ll=[a0,a1,a2,a3,some (.builtin nid),a5]:=hslots
 subst hll
 exact⟨tail,x4,x1,x5,x2,x6,x7,x8,x9,x10,d1,a0,a1,a2,a3,a5,_,hk _ _ look,.of_isNs (eS hk z5),PySem.W.nsMap_none_of_in hk z5 z6,eT hk z4⟩
def A3:List Value:=[.type "ValueError",.type "Exception",.type "BaseException",.type "object"]
abbrev Dq (K:PySem.W.Frag) (C:Addr):Prop:=eR K C A3 "ValueError.__new__"=true
section
variable {X:Cx} {C:Addr} {E:XK} {x:Str} {np cpos pos:Pos} {e:Expr} {es:List Expr} {t:TA}
def A4 (X:Cx) (E:XK):Prop:=∀(pins:List (Addr×Obj)) (σ:St) (H:Hp) (s:Shared) (h':Heap) (ea:Addr) (cls:Value) (vs:List Value),Inv X pins σ H s->Heap.MadeExcOf s.heap h' ea cls vs->E cls none H->X.xe (.ref ea) {s with heap:=h'}
theorem l5 {P:Program} {w:World} {K:PySem.W.Frag} {mg:Str->Option Value} {base:Heap} {N:List Str} {qual:Str} {scope:Scope} {f:Addr} {cd:Value} {A:Around} {outer:List Env} {s₀:Shared} {H₀:Hp} {E:XK}:
  A4 (sd (CXE P w) P w K mg base N qual scope f cd A outer s₀ H₀ E) E:=fun _ _ _ _ _ _ _ _ I hx q=>D6 I hx q
def A5 (C:Addr) (E:XK) (t:TA):TS:=fun _ σ H=>t σ H fun vs H1=>vs.length<=sizeLine/\E (.ref C) none H1
theorem kR (hc:X.calm=true) (hl:A4 X E) (xc:Dq X.K C) (hg:Gl X x) (hm:X.mg x=some (.ref C)) (ha:PA X (e::es) t) (hst:autoParam (starEach (e::es) X.env=(false,eval e X.env)::starEach es X.env) L2.Internal.auR._auto_1)
  (hpl:autoParam ((backTo cpos (starEach es X.env)).any (·.1)=false) L2.Internal.auR._auto_1) (hd:autoParam ((x==("__debug__":Str))=false) L2.Internal.auD._auto_1):PS X (.Raise (some (.Call (.Name x np) (e::es) [] cpos)) none pos) (A5 C E t):=by
 intro pins s σ H D I h
 obtain⟨tl,N,nm,q,bs,hdct,sn,sub,ab,col,dd,k0,k1,k2,k3,k5,mN,hC,hN,hni,T⟩:=BZ I.mod.kin xc
 have kp:∀{s1:Shared} {H1:Hp},Inv X pins σ H1 s1->∀b o,X.base.get? b=some o->s1.heap.get? b=some o:=fun I1=>I1.bk
 refine wpAny_Raise_call_subT (C:=C) (nm:=nm) (q:=q) (N:=N) (bs:=bs) (bm:=tl) (hdct:=hdct) (sn:=sn) (sub:=sub) (ab:=ab) (col:=col) (dd:=dd) (k0:=k0) (k1:=k1) (k2:=k2) (k3:=k3) (k5:=k5)
  fu (mN:=mN) (T.hasType fu.hasBase) (I.ok.hd hc) ?_ hni (m4 I hg hm ⟨rfl,?_⟩ hd)
 ·rw[hst]
  show(false||(backTo cpos (starEach es X.env)).any (·.1))=false
  rw[hpl]
  rfl
 have h2:=ha cpos pins s σ H _ I h
 rw[hst]at h2⊢
 refine Calls.evalArgs_plain (wpAny_mono h2 (fun us s1 h3=>?_) fun _ _ z=>z)
 obtain⟨vs,H1,I1,r,hz,q1⟩:=h3
 refine⟨rfl,by rw[<-r.length];exact hz,kp I1 _ _ hC,hN.keeps (kp I1),T.keeps (kp I1),fun h' ea hx=>hl pins σ H1 s1 h' ea _ us I1 hx q1⟩
end
section
variable {P:Program} {w:World} {K:PySem.W.Frag} {mg:Str->Option Value} {base:Heap}
theorem Fun.okE {x qual:Str} {st:Stmt} {f:Addr} {fd:FuncData} {N ps:List Str} {k:Nat} {sp:Sp} (F:Fun K x qual st f fd) (S:gZ N ps (gI st)) (len:∀vs H Q E,sp vs H Q E->vs.length=ps.length)
  (hbody:∀(cdv:Value) (A:Around) (outer:List Env) (s:Shared) (H:Hp) (vs:List V) (Q:VK) (E:XK),mU k (A.deeper (envOfC qual (gI st) s.heap.objs.size f cdv))->sp vs H Q E->
   ∃t,PSs (sd (CXE P w) P w K mg base N qual (gI st) f cdv A outer s H E) (gW st) t/\t {nx:=fun _ H'=>Q .non H',rt:=Q} (start N vs) H):iK P w K mg base (CXE P w) (k+ 1) f fd ps sp:=by
 obtain⟨oc,od,kV,doc,pm,an,cdv,ct,osl,efd,lk,hcd⟩:=F.ex
 subst efd
 exact BL lk hcd S len (fun A outer s H vs Q E hr h=>hbody cdv A outer s H vs Q E hr h)
end
abbrev Cx.hand (X:Cx) (ea:Addr):Cx:={X with A:=X.A.mark (some (.ref ea)),calm:=false,xe:=fun _ _=>False}
section
variable {X:Cx} {pins:List (Addr×Obj)} {σ:St} {H:Hp} {s:Shared}
theorem Inv.hand (I:Inv X pins σ H s) (ea:Addr):Inv (X.hand ea) pins σ H s:=
 ⟨⟨I.ok.mod,I.ok.kind,I.ok.glob,I.ok.blt,I.ok.above,I.ok.inj,I.ok.has,I.ok.cab,(fun z=>nomatch z),I.ok.frames,I.ok.stk,I.ok.exf,I.ok.bs,I.ok.bsz,I.ok.noex,I.ok.exfs,I.ok.funs,I.ok.frf⟩,I.os,I.bare,I.base,I.loc,I.cell,I.free,I.freeC,I.pin,I.hok,I.len⟩
theorem Inv.unhand {ea:Addr} (I:Inv (X.hand ea) pins σ H s) (ok:X.Ok):Inv X pins σ H s:=
 ⟨ok,I.os,I.bare,I.base,I.loc,I.cell,I.free,I.freeC,I.pin,I.hok,I.len⟩
end
section
variable {X:Cx} {CX:CXT} {k:Nat} {f Y:Addr} {fd:FuncData} {ps:List Str} {sp:Sp} {dvs:List V} {ds:List Value} {E:XK} {x y n:Str} {p pos pos' py hpos tpos:Pos} {e:Expr} {es:List Expr} {t:TA} {b₀:Stmt} {body:List Stmt} {tb:TS} {i:Nat}
theorem B0 {E':Value->Shared->Prop} {pins:List (Addr×Obj)} {σ:St} {H:Hp} {s:Shared} {Q:VK} {us:List Value} {vs:List V} (F:iK X.prog X.w X.K X.mg X.base CX k f fd ps sp) (hr:mU k X.A) (hb:iH X.K fd ps ds) (hd:iV dvs ds)
  (hx:∀e s',CX X.stack H s E e s'->E' e s') (I:Inv X pins σ H s) (r:iV vs us) (h:sp (vs++dvs) H Q E):wpAny (model X.prog X.w) X.A (call (.ref f) us) (EP X pins σ Q) E' s:=by
 have r2:iV (vs++dvs) (us++ds):=r.append hd
 have hl:(us++ds).length=ps.length:=by rw[<-r2.length];exact F.len _ _ _ _ h
 refine wpAny_call (codeAny_mono (F.run X.A X.stack s H ⟨us,[]⟩ (us++ds) (vs++dvs) Q E hr I.env0 (hb s us I.kIn hl) r2 h) fun r s' hq=>?_)
 cases r with
 |error e=>exact hx e s' hq
 |ok fl=>
  cases fl with
  |ret u=>exact I.after hq
  |next=>exact False.elim hq
  |brk=>exact False.elim hq
  |cont=>exact False.elim hq
end
section
variable {X:Cx} {e:Expr} {es:List Expr} {te:TE} {pos:Pos}
def tFV (te:TE):TE:=fun σ H Q=>te σ H fun v H1=>(∃x,v= .str x/\x.length<=sizeLine/\Q (.str x) H1)\/∃i:Int,v= .int i/\i.natAbs.log2<1920/\Q (.str (toString i)) H1
theorem uw (he:PE X e te):PE X (.FormattedValue e (-1) none pos) (tFV te):=by
 intro pins s σ H Q I h
 refine wpAny_FormattedValue_plain (thn (he pins s σ H _ I h) fun u s1 ⟨v,H1,I1,r,q⟩=>?_)
 rcases q with⟨x,rfl,hz,q⟩|⟨i,rfl,hl,q⟩
 ·obtain⟨t,rfl⟩:=r
  exact formatField_str (fun t' tk=>⟨.str x,H1,I1.tok tk,⟨t',rfl⟩,q⟩) hz
 ·obtain⟨t,rfl⟩:=r
  exact wpAny_formatField_int hl ⟨.str _,H1,I1.tok _,⟨_,rfl⟩,q⟩
def tFVr (te:TE):TE:=fun σ H Q=>te σ H fun v H1=>∃x,v= .str x/\(reprText x).length<=sizeLine/\Q (.str (reprText x)) H1
theorem sS (he:PE X e te):PE X (.FormattedValue e 114 none pos) (tFVr te):=by
 intro pins s σ H Q I h
 refine wpAny_FormattedValue_repr (thn (he pins s σ H _ I h) fun u s1 ⟨v,H1,I1,r,q⟩=>?_)
 obtain⟨x,rfl,hz,q⟩:=q
 obtain⟨t,rfl⟩:=r
 exact wpAny_pyReprObj_str (formatField_str (fun t' tk=>⟨.str _,H1,I1.tok tk,⟨t',rfl⟩,q⟩) hz) hz
def PJ (X:Cx) (es:List Expr) (t:Str->TE):Prop:=
 ∀(pins:List (Addr×Obj)) (s:Shared) (σ:St) (H:Hp) (Q:VK) (acc:Str),Inv X pins σ H s->t acc σ H Q->wpAny (model X.prog X.w) X.A (joinParts acc (evalEach es X.env)) (EP X pins σ Q) X.xe s
def tJ0:Str->TE:=fun acc _ H Q=>acc.length<=sizeLine/\Q (.str acc) H
def tJ (te:TE) (t:Str->TE):Str->TE:=fun acc σ H Q=>te σ H fun v H1=>∃y,v= .str y/\(acc++y).length<=sizeLine/\t (acc++y) σ H1 Q
theorem ot:PJ X [] tJ0:=fun pins s σ H Q acc I h=>joinParts_nil ⟨.str acc,H,I.tok _,⟨_,rfl⟩,h.2⟩ h.1
theorem iM {t:Str->TE} (he:PE X e te) (hr:PJ X es t):PJ X (e::es) (tJ te t):=by
 intro pins s σ H Q acc I h
 refine joinParts_cons (thn (he pins s σ H _ I h) fun u s1 ⟨v,H1,I1,r,q⟩=>?_)
 obtain⟨y,rfl,hz,q⟩:=q
 obtain⟨t',rfl⟩:=r
 exact⟨hz,hr pins s1 σ H1 Q _ I1 q⟩
theorem mn {e2:Expr} {t:Str->TE} (h:PJ X (e::e2::es) t):PE X (.JoinedStr (e::e2::es) pos) (t Str.empty):=fun pins s σ H Q I hw=>JoinedStr_many (h pins s σ H Q _ I hw)
end
theorem F4 {P:Program} {w:World} {X:Cx}:nH (CXE P w) X E0:=fun _ _ _ _ _ _ _ h=>by
 obtain⟨_,_,_,_,_,_,_,_,z⟩:=h
 exact z.elim
section
variable {X:Cx}
theorem sU:mf X (.type "int") (fun xs H Q=>∃x n,xs=[.str x]/\intText? x=some n/\x.length<=640/\Q (.int n) H):=by
 intro pins s σ H xs us Q I r h
 obtain⟨x,n,rfl,hn,hl,q⟩:=h
 obtain⟨u,rfl,rx⟩:=mj r
 obtain⟨t,rfl⟩:=rx
 exact PySem.W.KIN.call_text hn hl ⟨.int n,H,I.tok _,⟨_,rfl⟩,q⟩
end
inductive Dt where
 |flat (v:V)
 |tup (l:List Dt)
 |lst (l:List Dt)
mutual
inductive At (K:PySem.W.Frag) (H:Hp):V->Dt->Prop where
 |flat {v:V} (h:m8 v=true):At K H v (.flat v)
 |tup {a:Addr} {xs:List V} {ds:List Dt} (h:SqT K H a xs) (hs:Ats K H xs ds):At K H (.ref a) (.tup ds)
 |lst {a:Addr} {xs:List V} {ds:List Dt} (h:SqL K H a xs) (hs:Ats K H xs ds):At K H (.ref a) (.lst ds)
inductive Ats (K:PySem.W.Frag) (H:Hp):List V->List Dt->Prop where
 |nil:Ats K H [] []
 |cons {x:V} {d:Dt} {xs:List V} {ds:List Dt} (h:At K H x d) (hs:Ats K H xs ds):Ats K H (x::xs) (d::ds)
end
mutual
def A6:Dt->Nat
 | .flat _=>0
 | .tup l=>ki l+ 1
 | .lst l=>ki l+ 1
def ki:List Dt->Nat
 |[]=>0
 |x::xs=>max (A6 x) (ki xs)
end
theorem Ats.get {K:PySem.W.Frag} {H:Hp}:∀{xs:List V} {ds:List Dt} {j:Nat} {x:V},Ats K H xs ds->xs[j]?=some x->∃d,ds[j]?=some d/\At K H x d
 |_,_,0,_,.cons h _,e=>⟨_,rfl,by cases e;exact h⟩
 |_,_,j+ 1,_,.cons _ t,e=>Ats.get (j:=j) t e
 |_,_,_,_,.nil,e=>by simp at e
theorem depDs_get:∀{l:List Dt} {j:Nat} {a:Dt},l[j]?=some a->A6 a<=ki l
 |x::xs,0,a,e=>by cases e;rw[ki];exact Nat.le_max_left ..
 |x::xs,j+ 1,a,e=>by rw[ki];exact cX (depDs_get (j:=j) e) (Nat.le_max_right ..)
 |[],_,_,e=>by simp at e
section
variable {X:Cx} {pins:List (Addr×Obj)} {σ:St} {H:Hp} {s:Shared}
end
section
variable {X:Cx}
end
def zU (P:Program) (w:World) (K:PySem.W.Frag) (a:Addr) (kvs:List (Key×V)):Prop:=(a==sysModules)=false/\∃vs,KV kvs vs/\∀h:Heap,K.In h->h.DictOf (jQ P w) a vs
theorem zV {P:Program} {w:World} {K:PySem.W.Frag} {a:Addr} {es:Array DictEntry} {n:Nat} {l:List (Str×Tok×Addr)} (ha:(a==sysModules)=false) (hl:K.lookup a=some ⟨.type "dict",none,.dict es n,#[]⟩)
  (he:es.toList=l.map fun p=>⟨PyData.keyHash w.params p.1,.str p.1 p.2.1,.ref p.2.2⟩) (hn:(l.map (·.1)).Nodup):zU P w K a (l.map fun p=>(Sum.inr p.1,V.ref p.2.2)):=by
 refine⟨ha,l.map fun p=>(Sum.inr p.1,Value.ref p.2.2),?_,fun h hk=>?_⟩
 ·clear he hn
  induction l with
  |nil=>exact .nil
  |cons p r ih=>exact .cons ⟨rfl,rfl⟩ ih
 ·refine⟨_,es,n,hk _ _ hl,⟨rfl,rfl,rfl⟩,rfl,fun e hm=>?_,?_,?_⟩
  ·have hm':e∈es.toList:=by simpa using hm
   rw[he]at hm'
   obtain⟨p,_,rfl⟩:=bb.mp hm'
   exact⟨Sum.inr p.1,oR p.1 p.2.1,rfl⟩
  ·rw[he]
   clear he hn
   induction l with
   |nil=>exact .nil
   |cons p r ih=>exact .cons (oR p.1 p.2.1) rfl ih
  ·rw[bA]
   have e:(List.map ((fun(x:Key×Value)=>x.1)∘fun(p:Str×Tok×Addr)=>((Sum.inr p.1:Key),Value.ref p.2.2)) l)=(l.map (·.1)).map (Sum.inr:Str->Key):=by
    rw[bA]
    rfl
   rw[e]
   exact List.Pairwise.map _ (fun a b h z=>h (Sum.inr.inj z)) hn
def B2 (a:Addr) (kvs:List (Key×V)) (ty td:TE):TE:=fun σ H Q=>ty σ H fun y H1=>td σ H1 fun x H2=>∃k,x= .ref a/\y=kV k/\Q (.bl (!(jL kvs k).isSome)) H2
def F5 (a:Addr) (kvs:List (Key×V)) (td ty:TE):TE:=fun σ H Q=>td σ H fun x H1=>ty σ H1 fun y H2=>∃k v,x= .ref a/\y=kV k/\jL kvs k=some v/\Q v H2
section
variable {X:Cx} {o i:Expr} {pos:Pos} {td ty:TE} {a:Addr} {kvs:List (Key×V)}
theorem yq (d:zU X.prog X.w X.K a kvs) (hi:PE X i ty) (ho:PE X o td):PC X .NotIn i o (B2 a kvs ty td):=by
 intro pins s σ H Q I h
 refine thn (hi pins s σ H _ I h) fun iv s1 ⟨y,H1,I1,ry,q1⟩=>thn (ho pins s1 σ H1 _ I1 q1) fun u s2 ⟨x,H2,I2,rx,k,ex,ey,q2⟩=>?_
 subst ex ey
 obtain rfl:u=Value.ref a:=rx
 obtain⟨hs,vs,rel,dd⟩:=d
 refine wpAny_notIn_of (uj ry) hs (dd _ I2.kIn).mapOf ?_
 rw[<-(rel.val k).isSome_eq]
 exact⟨.bl _,H2,I2.tok _,rfl,q2⟩
theorem B3 (d:zU X.prog X.w X.K a kvs) (ho:PE X o td) (hi:PE X i ty) (hs:FV i):PE X (.Subscript o i pos) (F5 a kvs td ty):=by
 intro pins s σ H Q I h
 refine xX fi.lookup hs (thn (ho pins s σ H _ I h) fun u s1 ⟨x,H1,I1,rx,q1⟩=>thn (hi pins s1 σ H1 _ I1 q1) fun iv s2 ⟨y,H2,I2,ry,k,v,ex,ey,hv,q2⟩=>?_)
 subst ex ey
 obtain rfl:u=Value.ref a:=rx
 obtain⟨_,vs,rel,dd⟩:=d
 obtain⟨w',hw,rw'⟩:=qk.some_of (v:=v) (o:=valueAt vs k) (by rw[<-hv];exact rel.val k)
 exact⟨(dd _ I2.kIn).typeIs,wpAny_getItem_of (uj ry) (dd _ I2.kIn).mapOf hw ⟨v,H2,I2.tok _,rw',q2⟩⟩
end
section
variable {X:Cx}
end
section
variable {X:Cx} {k:Nat} {f Y:Addr} {fd:FuncData} {ps:List Str} {sp:Sp} {dvs:List V} {ds:List Value} {x y n:Str} {p pos pos' py hpos tpos pn:Pos} {e:Expr} {es:List Expr} {t:TA} {b₀:Stmt} {body:List Stmt} {tb:TS} {i:Nat}
end
end L2.Internal
namespace L2.Internal
theorem D7:PySem.bootBuiltins "min"=some (.builtin "min"):=by decide+kernel
end L2.Internal
namespace L2.Internal
open PySem PySem.Spec PyProof.Rows
section
variable {X:Cx} {pins:List (Addr×Obj)} {σ:St} {H:Hp} {s:Shared} {h':Heap}
theorem Inv.turnedL {t':Nat} {ch:List Addr} (I:Inv X pins σ H s) (k:∀b o,b∉ch->s.heap.get? b=some o->h'.get? b=some o) (hf:∀b∈ch,wg X pins H b):Inv X pins σ H {s with heap:=h',toks:=t'}:=by
 have nit:∀b u,H b=some u->b∉ch:=fun b u e z=>by
  have q:=(hf b z).1
  rw[q]at e;cases e
 refine I.step (g':=s.gens) (d':=s.drawn) (ch:=ch) (fun b hb=>?_) (fun b o _ _ hc e _=>k b o hc e) (fun b o _ _ hc e _=>⟨o.slots,k b o hc e⟩) (fun _ _ _ _ n=>n)
  (fun b o hc e=>⟨o,k b o hc e⟩) (fun _ _ e=>e) (fun _ _ _ e=>e) (fun b ps e=>⟨#[],by rw[e];simp⟩) (fun m hm=>?_) (fun b u e=>?_) I.bare
 ·obtain⟨_,f1,_,f3,f4,f5⟩:=hf b hb
  exact⟨f3,f1,f4,f5⟩
 ·obtain⟨o,es,ep,ho,r⟩:=hm
  exact⟨o,es,ep,k _ o (fun z=>(hf _ z).2.1 rfl) ho,r⟩
 ·refine(I.hok b u e).stay (fun c v hc q=>k c v ?_ q) (fun _ q=>q) fun _ _ q=>q
  rcases hc with z|z
  ·rw[z];exact nit b u e
  ·exact nit c _ z
theorem Inv.pairNew {T:Addr} {h:Heap} {tk:Nat} {ux uy:Value} {x y:V} (I:Inv X pins σ H s) (hT:s.heap.objs.size<=T) (J:Inv X pins σ H {s with heap:=h,toks:=tk}) (ht:xj h T #[ux,uy]) (rx:jq x ux) (ry:jq y uy):
  H T=none/\Inv X pins σ (upd H T (.tup [x,y])) {s with heap:=h,toks:=tk}:=by
 have f:=I.fpOk (H':=H) hT (I.hok.fresh hT)
 refine⟨f.1,J.track f.1 ?_ f.2.1 f.2.2.2.2.1 f.2.2.2.2.2 ⟨by show 2<=sizeLine;decide,[ux,uy],.cons rx (.cons ry .nil),ht⟩⟩
 cases q:X.s₀.heap.get? T with
 |none=>rfl
 |some o=>exact absurd (cR (gq q) (cX I.sz hT)) (cU _)
end
theorem sV:bootBuiltins "enumerate"=some (.type "enumerate"):=by decide+kernel
theorem SqL.old {X:Cx} {pins:List (Addr×Obj)} {σ:St} {H:Hp} {s:Shared} {a:Addr} {xs:List V} (I:Inv X pins σ H s) (h:SqL X.K H a xs):a<s.heap.objs.size:=by
 obtain⟨its,_,p,_⟩:=I.list h
 obtain⟨o,e,_⟩:=p.isList
 exact gq e
section
variable {X:Cx}
end
def Ite (K:PySem.W.Frag) (a:Addr):It:=
 ⟨fun i H=>∃xs x,SqL K H a xs/\xs[i]?=some x,
   fun i H v H'=>∃T x,v= .ref T/\H T=none/\H'=upd H T (.tup [.int (i:Int),x])/\∀xs,SqL K H a xs->xs[i]?=some x,
   fun i H=>∃xs,SqL K H a xs/\i=xs.length⟩
def ESt (e it a:Addr) (i:Nat) (h:Heap):Prop:=(∃old,IsEnum h e it i old)/\h.IsListIter it a i
theorem yr {P:Program} {w:World} {K:PySem.W.Frag} {es:List Expr} {kk:Nat} {tp:Pos} {a e it:Addr} (h1:e≠it) (h2:a≠e) (h3:a≠it):Dn P w K (.Tuple es kk tp) (Ite K a) [e,it] e (ESt e it a) where
 mem:=by simp
 obj:=fun i h st c hc=>by
  obtain⟨⟨old,g1⟩,⟨o4,g4,_,d4⟩⟩:=st
  simp only[aj,bB,or_false]at hc
  rcases hc with q|q<;>subst q
  ·exact⟨_,g1,fun v q=>nomatch q⟩
  ·exact⟨_,g4,fun v q=>by rw[d4]at q;cases q⟩
 keep:=fun i h h' st k=>by
  obtain⟨⟨old,g1⟩,g4⟩:=st
  exact⟨⟨old,k e (by simp) _ g1⟩,g4.at fun o q=>k it (by simp) o q⟩
 item:=by
  intro X hP hw hK hc i pins s σ H E I hf st hg
  subst hP hw hK
  obtain⟨xs,x,qx,ex⟩:=hg
  obtain⟨i1s,r1,p1,z1⟩:=I.list qx
  obtain⟨g1,g4⟩:=st
  obtain⟨old,g1'⟩:=g1
  obtain⟨ux,hux,rr1⟩:=r1.get ex
  have lte:e<s.heap.objs.size:=gq g1'
  refine wpAny_pyNext_enum_item g1' g4 p1.isList (x:=ux) (by simpa using hux) h1 fun k1 ho hit' hT hsz hk=>?_
  have kk1:∀c o,c∉[e,it]->s.heap.get? c=some o->k1.get? c=some o:=fun c o hc q=>hk c o (fun z=>hc (by simp[z])) (fun z=>hc (by simp[z])) q
  have J1:Inv X pins σ H {s with heap:=k1,toks:=s.toks+ 1}:=I.turnedL kk1 hf
  refine⟨.ref s.heap.objs.size,rfl,wpAny_letOwnedTupleGo_enum ho fun k2 he' sb=>?_⟩
  have J2:Inv X pins σ H {s with heap:=k2,toks:=s.toks+ 1}:=Inv.turnedL (s:={s with heap:=k1,toks:=s.toks+ 1}) (h':=k2) (t':=s.toks+ 1) (ch:=[e]) J1 (fun c o hc q=>(sb.2 c (fun z=>hc (by simp[z]))).trans q) fun c hc=>hf c (by simp only[aj,bB,or_false]at hc⊢;simp[hc])
  have ht2:xj k2 s.heap.objs.size #[.int i s.toks,ux]:=⟨_,(sb.2 _ (cZ lte)).trans hT,rfl,_,rfl,rfl⟩
  obtain⟨fT,J3⟩:=I.pairNew (x:= .int (i:Int)) (c7 _) J2 ht2 ⟨s.toks,rfl⟩ rr1
  refine⟨.ref s.heap.objs.size,_,J3,rfl,⟨_,x,rfl,fT,rfl,fun l hl=>by rw[I.list_inj hl qx];exact ex⟩,⟨⟨_,by simpa using he'⟩,hit'.at fun o y=>(sb.2 it h1.symm).trans y⟩,fun c hc=>?_⟩
  rw[gM (fun q=>?_)]
  ·exact(hf c hc).1
  ·have lt:c<s.heap.objs.size:=by
    obtain⟨o4,e4,_⟩:=g4
    simp only[aj,bB,or_false]at hc
    rcases hc with q|q<;>subst q
    ·exact lte
    ·exact gq e4
   exact absurd lt (by rw[q];exact cU _)
 done:=by
  intro X hP hw hK hc i pins s σ H E I hf st hg
  subst hP hw hK
  obtain⟨xs,qx,ei⟩:=hg
  obtain⟨i1s,r1,p1,z1⟩:=I.list qx
  obtain⟨g1,g4⟩:=st
  have W:=WalksT.enumerate (prog:=X.prog) (w:=X.w) (I.ok.hd hc) e it a h1 h2 h3 i1s.toArray
  have l1:=r1.length
  have q:i=i1s.toArray.size:=by simp only[aV];lia
  subst q
  exact W.done s _ _ ⟨g1,g4,p1.isList⟩ fun h1 tk hk=>⟨rfl,I.turnedL hk hf⟩
 self:=fun _ _ _ _ _ st h=>by
  obtain⟨⟨old,g1⟩,_⟩:=st
  exact wpAny_pyIter_enum g1 h
def F6 (K:PySem.W.Frag) (ta:TA):TI:=fun σ H R=>ta σ H fun vs H1=>∃a,vs=[.ref a]/\(∃xs,SqL K H1 a xs)/\R (Ite K a) H1
section
variable {X:Cx}
theorem uA {es:List Expr} {kk:Nat} {tp:Pos} {a:Expr} {ta:TA} {p pos:Pos} (hg:Gl X "enumerate") (hm:X.mg "enumerate"=none) (ha:PA X [a] ta) (hs:autoParam (starEach [a] X.env=[(false,eval a X.env)]) L2.Internal.auR._auto_1):
  PI X (.Tuple es kk tp) (.Call (.Name "enumerate" p) [a] [] pos) (F6 X.K ta):=by
 intro pins s σ H R I h
 refine Call_ (oS I hg hm sV (gz (thn (ha pos pins s σ H _ I h) fun us s1 ⟨vs,H1,I1,r1,q1⟩=>?_) hs rfl))
 obtain⟨l1,e,⟨xs,q1⟩,q⟩:=q1
 subst e
 obtain⟨u,rfl,ru⟩:=mj r1
 cases ru
 obtain⟨i1s,w1,p1,z1⟩:=I1.list q1
 have o1:@LT.lt Nat _ l1 s1.heap.objs.size:=SqL.old I1 q1
 refine call_enumerate_list p1.isList fun h1 hE hi1 hsz hk=>wpAny_pyIter_enum hE ?_
 refine⟨_,_,_,_,H1,rfl,I1.kept (t':=s1.toks) hk,yr (fun(h:@Eq Nat _ _)=>by lia) (fun(h:@Eq Nat _ _)=>by lia) (fun(h:@Eq Nat _ _)=>by lia),⟨⟨_,hE⟩,hi1⟩,fun c hc=>?_,q⟩
 have ge:s1.heap.objs.size<=c:=by
  simp only[aj,bB,or_false]at hc
  rcases hc with h|h<;>rw[h]<;>first|exact c7 _|exact Nat.le_add_right _ _
 exact I1.fpOk ge (I1.hok.fresh ge)
end
theorem qz {z:Str}:∀{cap:List (Str×Nat×Addr)},z∈cap.map (·.1)->∃c,(cap.map fun p=>(p.1,p.2.2)).lookup z=some c
 |[],h=>by simp at h
 |p::r,h=>by
  cases e:z==p.1 with
  |true=>exact⟨p.2.2,by simp only[aC,bj,e]⟩
  |false=>
   have q:z∈r.map (·.1):=by
    rcases aj.mp h with y|y
    ·rw[y]at e;simp at e
    ·exact y
   obtain⟨c,hc⟩:=qz q
   exact⟨c,by simp only[aC,bj,e];exact hc⟩
theorem F7 {X:Cx} {scope:Scope} {x:Str} (ns:List Str) (cap:List (Str×Nat×Addr)) (hns:cap.map (·.1)=ns) (hk:scope.kind= .function) (hn:∀p∈scope.names,p.2≠ .cell/\(p.2= .free->p.1∈ns)) (hl:∀y∈scope.names,y.2= .local->scope.names.lookup y.1=some .local)
  (hx:scope.names.lookup x=some .local) (hnd:(x::ns).Nodup) (hc:closureFor scope X.env=pure (cap.map fun p=>(p.1,p.2.2))) (hok:X.env.scope.kind= .function)
  (h:∀p∈cap,scope.names.lookup p.1=some .free/\X.env.cells.lookup p.1=some p.2.2/\X.env.scope.names.lookup p.1=some .cell/\X.N[p.2.1]?=some p.1):
  wG X (x::ns) scope (cap.map fun p=>(p.1,p.2.2)) (fun σ=>none::cap.map fun p=>σ.getD p.2.1 none) 0 x where
 kind:=hk
 cell:=fun y hy=>(hn y hy).1
 names:=hl
 clos:=hc
 lk:=fun z c q=>by
  have m:=PySem.mem_of_lookup q
  obtain⟨p,hp,e⟩:=bb.mp m
  cases e
  exact(h p hp).2.1
 has:=fun z q=>by
  refine qz ?_
  rw[hns]
  rcases q with q|q
  ·obtain⟨k0,e,q⟩:=i4 q
   have m:=hn _ (PySem.mem_of_lookup e)
   rcases q with q|⟨q,_⟩
   ·exact absurd q.symm m.1
   ·exact m.2 q
  ·obtain⟨k0,e,q⟩:=i4 q
   have m:=hn _ (PySem.mem_of_lookup e)
   rcases q with q|⟨q,_⟩
   ·exact m.2 q.symm
   ·exact m.2 q
 nd:=hnd
 ix:=rfl
 loc:=hx
 len:=fun _ _=>by simp[<-hns]
 val:=fun σ k z v h1 h2=>by
  cases k with
  |zero=>simp at h2
  |succ k=>
   rw[<-hns,bC,aM]at h1
   rw[bC,aM]at h2
   cases e:cap[k]? with
   |none=>rw[e]at h1;cases h1
   |some p=>
    rw[e]at h1 h2
    have ez:p.1=z:=dB.inj h1
    have ev:σ.getD p.2.1 none=some v:=dB.inj h2
    subst ez
    obtain⟨a1,a2,a3,a4⟩:=h p (aN e)
    rw[bo]at ev
    refine⟨p.2.1,a4,?_,a3,jS hok a3 a1⟩
    cases q:σ[p.2.1]? with
    |none=>rw[q]at ev;cases ev
    |some o=>rw[q]at ev;exact congrArg some ev
section
variable {X:Cx}
end
structure ClsM (K:PySem.W.Frag) (C:Addr) (m:Str) (f:Addr):Prop where
 ga:eu K (.ref C) "__getattribute__"=some (some (.builtin "type.__getattribute__"))
 rd:∃mc,PySem.W.readsIn K C mc=true/\PySem.W.findCls K (.ref C) mc m=some (.val (.ref f))
 kp:eA K (.ref f)=true
section
variable {X:Cx} {CX:CXT} {k:Nat} {f C:Addr} {fd:FuncData} {ps:List Str} {sp:Sp} {dvs:List V} {ds:List Value} {E:XK} {m:Str} {pos apos:Pos} {e o:Expr} {es:List Expr} {t:TA}
end
section
variable {X:Cx}
theorem A7:bootBuiltins "max"=some (.builtin "max"):=by decide+kernel
theorem sW (hc:X.calm=true):mf X (.builtin "sum") (fun xs H Q=>∃(a:Addr) (ns:List Int),xs=[.ref a]/\SqL X.K H a (ns.map V.int)/\∀n,Q (.int n) H):=by
 intro pins s σ H xs us Q I r h
 obtain⟨a,ns,rfl,hq,q⟩:=h
 obtain⟨u,rfl,ru⟩:=mj r
 cases ru
 obtain⟨its,rv,p,hz⟩:=I.list hq
 obtain⟨zs,e⟩:=(n5 rv).allInts.items
 have l:=p.isList
 rw[e]at l
 exact sum_intListG (I.ok.hd hc) l fun h' tk t' hk=>⟨.int _,H,I.kept (t':=tk) hk,⟨_,rfl⟩,q _⟩
end
theorem vv {X:Cx} {elt iter:Expr} {x y:Str} {j:Nat} {py spos:Pos} {px:Pos} {ifs:List Expr} {scope:Scope} {pos:Pos} {N:List Str} {cl:List (Str×Addr)} {f:St->St} {i:Nat} {wi:TI} {tt:TT} {te:TE}
  (hc:X.calm=true) (B:wG X N scope cl f i x) (hi:PI X (.Name x px) iter wi)
  (htt:∀C s₀ H₀ ex pins,PTs (blk X N scope cl C s₀ H₀ ex pins) ifs tt) (hte:∀C s₀ H₀ ex pins,PE (blk X N scope cl C s₀ H₀ ex pins) elt te)
  (hN:X.N.Nodup) (hj:X.N[j]?=some y) (hy:Loc X.env.scope y) (hsw:autoParam (swapsWith (.ListComp elt [⟨.Name x px,iter,ifs,0⟩] scope pos) (some (.Name y py)) spos.line X.env=pure true) L2.Internal.auR._auto_1) (hs:autoParam (∀x,foldedSetIterable iter X.env x=pure x) L2.Internal.auI._auto_1)
  (hf:autoParam (X.fn y=true\/X.env.scope.names.lookup y=some .local) L2.Internal.auL._auto_1):PS X (.Assign [.Name y py] (.ListComp elt [⟨.Name x px,iter,ifs,0⟩] scope pos) spos) (DE (tLC wi f i tt te) (iW j)):=by
 intro pins s σ H En I h
 rw[exec_Assign_Name_used _ _ _ _ hsw]
 refine wpAny_bind (wpAny_standAt (wpAny_bind ?_))
 show wpAny _ X.A (do let _<-comprehension (.ListComp elt [⟨.Name x px,iter,ifs,0⟩] scope pos) scope X.env _ (newList []) false (eval iter X.env) (some (assign (.Name y py) X.env))) _ _ s
 refine wpAny_bind (wpAny_mono (wpAny_comprehension_free (use:=some (assign (.Name y py) X.env)) (Q:=fun _ s'=>SP X pins En .next s') rfl hs B.clos B.kind B.names (thn (hi pins s σ H _ I h) fun xv s1 h1=>thn h1 fun itv s2 h2=>?_)) (fun _ s' hq=>wpAny_pure (wpAny_pure hq)) fun _ _ e=>e)
 obtain⟨it,fp,tn,J,H2,rfl,I2,T,st2,f2,q⟩:=h2
 have hD:H2 s2.heap.objs.size=none:=I2.fresh
 obtain⟨W,⟨m0,w0⟩,turn⟩:=q _ hD
 refine wpAny_newObj_type (wpAny_newFunctionEnv B.cell (by intro y hy;simp at hy) (fun h₁ hns₁ hsb₁=>?_) B.kind)
 have I3:Inv X pins σ (upd H2 s2.heap.objs.size (.lst [])) {s2 with heap:=s2.heap.push {cls:= .type "list",data:= .seq ([]:List Value).toArray}}:=I2.lnew (its:=[]) (ys:=[]) (t':=s2.toks) .nil (c8 _)
 have lt2:∀b∈fp,b<s2.heap.objs.size:=fun b hb=>by
  obtain⟨o,ho,_⟩:=T.obj _ _ st2 b hb
  exact gq ho
 have fp3:∀b∈fp,wg X pins (upd H2 s2.heap.objs.size (.lst [])) b:=fun b hb=>by
  refine⟨?_,(f2 b hb).2⟩
  rw[gM (cW (lt2 b hb))]
  exact(f2 b hb).1
 generalize hs3:({s2 with heap:=s2.heap.push {cls:= .type "list",data:= .seq ([]:List Value).toArray}}:Shared)=s3 at I3 hns₁ hsb₁⊢
 have eh:s2.heap.push {cls:= .type "list",data:= .seq ([]:List Value).toArray}=s3.heap:=by rw[<-hs3]
 have lt3:∀b∈fp,b<s3.heap.objs.size:=fun b hb=>by
  rw[<-eh,gw]
  exact df (lt2 b hb)
 have old:∀b o,s3.heap.get? b=some o->h₁.get? b=some o:=fun b o e=>hsb₁.extBut b o (cW (gq e)) (gv _ e)
 have I4:=yk (tk:=s3.toks+([]:List (Str×Value)).length) B I3 (ex:=fp) (fun b hb=>⟨fp3 b hb,lt3 b hb⟩) old hns₁
 have st4:tn 0 h₁:=T.keep _ _ _ st2 fun b _ o e=>old b o (by rw[<-eh];exact gv _ e)
 have fpB:∀{H':Hp},(∀b∈fp,H' b=none)->∀b∈fp,wg (blk X N scope cl s3.heap.objs.size s3 (upd H2 s2.heap.objs.size (.lst [])) fp pins) [] H' b:=fun{H'} hn b hb=>by
  obtain⟨_,g2,g3,g4,g5,g6⟩:=f2 b hb
  refine⟨hn b hb,cW (lt3 b hb),fun z=>(aj.mp (I3.stkSub b z)).elim g2 g3,.inl hb,fun y c e=>g5 y c (B.lk y c e),fun p hp=>?_⟩
  rw[aE]at hp
  exact g6 p hp
 have loop:∀s4:Shared,s4={s3 with heap:=h₁,toks:=s3.toks+([]:List (Str×Value)).length}->
   codeAny (model X.prog X.w) X.A (.compLoop (.ListComp elt [⟨.Name x px,iter,ifs,0⟩] scope pos) 0 (.ref it) (.ref s2.heap.objs.size) (compEnvC scope cl s3.heap.objs.size X.env))
    (compPost (model X.prog X.w) X.A X.xe (some (assign (.Name y py) X.env)) (fun _ s'=>SP X pins En .next s') (.ref s2.heap.objs.size) s3.heap.objs.size) s4:=by
  rintro s4 rfl
  refine codeAny_compLoop_tests (I:=fun n s'=>∃k σ' H',Inv (blk X N scope cl s3.heap.objs.size s3 (upd H2 s2.heap.objs.size (.lst [])) fp pins) [] σ' H' s'/\tn k s'.heap/\(∀b∈fp,H' b=none)/\W k n σ' H') ?_ m0
   ⟨0,f σ,_,I4,st4,fun b hb=>(fp3 b hb).1,w0⟩
  rintro n s5 ⟨k,σ5,H5,I5,st5,fr5,w5⟩
  rcases turn k n σ5 H5 w5 with⟨stop,qn⟩|⟨go,step⟩
  ·refine wpAny_mono (T.done (blk X N scope cl s3.heap.objs.size s3 (upd H2 s2.heap.objs.size (.lst [])) fp pins) rfl rfl rfl hc k [] s5 σ5 H5 _ I5 (fpB fr5) st5 stop) (fun r s6 h6=>?_) fun _ _ z=>z
   obtain⟨hr,I6⟩:=h6
   subst hr
   obtain⟨m6,hn6,_⟩:=id I6.loc
   have I7:Inv X pins σ H5 s6:=I3.call' (s':=s6) (ch:=fp) I6.os I6.base I6.hok I6.bare fun b hb=>by
    obtain⟨_,g2,g3,g4,g5,g6⟩:=f2 b hb
    exact⟨g4,g2,g5,g6⟩
   obtain⟨oC,es,ep,hoC,hdC,hkC⟩:=id hn6
   have hCL:s3.heap.objs.size≠X.env.locals:=cZ I3.lt
   have I8:Inv X (pins++[(s3.heap.objs.size,oC)]) σ H5 s6:=I7.pins_of fun p hp=>(ao.mp hp).elim (fun z=>I7.pin p (az _ z)) fun z=>by
    have ez:p=(s3.heap.objs.size,oC):=by simpa using z
    subst ez
    exact⟨hoC,I6.free,hCL,I3.nofs (c7 _),fun v q=>by rw[hdC]at q;cases q⟩
   show wpAny _ X.A (assign (.Name y py) X.env (.ref s2.heap.objs.size)) _ _ s6
   refine wpAny_assign_Name (lN (X:=X) I8 hN hj hy (v:= .ref s2.heap.objs.size) rfl (fun s7 I9=>?_) hf)
   have pC:=I9.pin (s3.heap.objs.size,oC) (az _ (az _ (by simp)))
   refine⟨m6,⟨oC,es,ep,pC.1,hdC,hkC⟩,fun h' sb=>?_⟩
   refine⟨σ.set j (some (.ref s2.heap.objs.size)),H5,?_,qn⟩
   exact Inv.turned (h':=h') (t':=s7.toks) (it:=s3.heap.objs.size) I9.unpinned (fun b o hb e=>(sb.2 b hb).trans e) pC.2.1 hCL (.inr I3.sz) (fun z c e q=>by
    obtain⟨v,q2⟩:=I3.cell z c e
    exact absurd (q▸q2.lt) (cU _)) fun p hp q=>absurd (q▸gq (I3.pin p hp).1) (cU _)
  ·refine wpAny_mono (T.item (blk X N scope cl s3.heap.objs.size s3 (upd H2 s2.heap.objs.size (.lst [])) fp pins) rfl rfl rfl hc k [] s5 σ5 H5 _ I5 (fpB fr5) st5 go) (fun r s6 h6=>?_) fun _ _ z=>z
   obtain⟨u,hr,h6⟩:=h6
   subst hr
   show wpAny _ _ (pure () >>= fun _=>assign (.Name x px) (compEnvC scope cl s3.heap.objs.size X.env) u) _ _ s6
   refine wpAny_bind (wpAny_mono (show wpAny _ _ (pure ()) _ _ s6 from h6) (fun _ s7 h7=>?_) fun _ _ z=>z)
   obtain⟨v,H7,I7,r7,y7,st7,fr7⟩:=h7
   have I7':=I7.pinned (fpB fr7) (T.obj _ _ st7)
   refine wpAny_assign_Name (lN (X:=blk X N scope cl s3.heap.objs.size s3 (upd H2 s2.heap.objs.size (.lst [])) fp pins) I7' B.nd B.ix (.inl (lookup_relabel_local B.loc)) r7 (fun s8 I8=>?_) (.inr (lookup_relabel_local B.loc)))
   have back:∀{σ9:St} {H9:Hp} {s9:Shared},Inv (blk X N scope cl s3.heap.objs.size s3 (upd H2 s2.heap.objs.size (.lst [])) fp pins) ([]++qm fp s7.heap) σ9 H9 s9->(∃m',m'<n/\W (k+ 1) m' σ9 H9)->
     ∃m',m'<n/\∃k σ' H',Inv (blk X N scope cl s3.heap.objs.size s3 (upd H2 s2.heap.objs.size (.lst [])) fp pins) [] σ' H' s9/\tn k s9.heap/\(∀b∈fp,H' b=none)/\W k m' σ' H':=fun{σ9 H9 s9} I9 q9=>by
    obtain⟨m',hm,w9⟩:=q9
    refine⟨m',hm,k+ 1,σ9,H9,I9.unpinned,T.keep _ _ _ st7 fun b hb o e=>(I9.pin (b,o) (az _ (az _ (kT hb e)))).1,fun b hb=>?_,w9⟩
    obtain⟨o,e,d⟩:=T.obj _ _ st7 b hb
    exact(I9.pin (b,o) (az _ (az _ (kT hb e)))).2.1
   refine wpAny_mono (htt _ _ _ _ _ _ s8 _ H7 _ I8 (step v H7 y7)) (fun ok s9 h9=>?_) fun _ _ z=>False.elim z
   obtain⟨H9,I9,q9⟩:=h9
   cases ok with
   |false=>
    rw[if_neg fN]
    rw[if_neg fN]at q9
    exact back I9 q9
   |true=>
    rw[if_pos rfl]
    rw[if_pos rfl]at q9
    refine wpAny_mono (hte _ _ _ _ _ _ s9 _ H9 _ I9 q9) (fun y s10 h10=>?_) fun _ _ z=>False.elim z
    obtain⟨v10,H10,I10,r10,xs,hx10,hz,q10⟩:=h10
    refine wpAny_mono (iD (X:=blk X N scope cl s3.heap.objs.size s3 (upd H2 s2.heap.objs.size (.lst [])) fp pins) _ s10 _ H10 (.ref s2.heap.objs.size) [v10] _ [y] (fun _ H11=>H11=upd H10 s2.heap.objs.size (.lst (xs++[v10]))) I10 rfl (.cons r10 .nil) ⟨_,xs,v10,rfl,rfl,hx10,hz,rfl⟩) (fun _ s11 h11=>?_) fun _ _ z=>False.elim z
    obtain⟨_,H11,I11,_,e11⟩:=h11
    subst e11
    exact back I11 q10
 exact codeAny_compStart_list (loop _ rfl) (T.self _ 0 _ _ _ st4 (loop _ rfl))
section
variable {prog:Program} {w:World} {A:Around} {E:Value->Shared->Prop} {s:Shared}
end
section
variable {prog:Program} {w:World} {A:Around} {E:Value->Shared->Prop} {s:Shared}
end
section
variable {X:Cx}
end
section
variable {prog:Program} {w:World} {A:Around} {E:Value->Shared->Prop} {s:Shared}
end
inductive Prs (H:Hp):List V->List (Str×V)->Prop
 |nil:Prs H [] []
 |cons {a:Addr} {p:Str×V} {l:List V} {m:List (Str×V)}:H a=some (.tup [.str p.1,p.2])->Prs H l m->Prs H (.ref a::l) (p::m)
section
variable {X:Cx} {pins:List (Addr×Obj)} {σ:St} {H:Hp} {d it t:Addr} {vs:List V} {A:Around} {R:Result->Shared->Prop}
end
section
variable {X:Cx}
end
end L2.Internal
namespace BO.Internal
open PySem L2.Internal
def rIsi (K:PySem.W.Frag):List V->Hp->VK->Prop:=fun xs H Q=>∃x v c t b,xs=[x,v]/\(∀u,jq v u->u=c)/\ub K H x t/\eF K t c=some b/\Q (.bl b) H
theorem sz {n:Nat} (h:n<=100000):n<=sizeLine:=cX h (by decide)
theorem gJ {H:Hp} {p:Addr} (h:H p=none) (o:HO):gT H (upd H p o):=fun b u q=>by rw[gM (gL q h)];exact q
theorem A8 {α:Type} (l:List α) (i:Int) (h0:0<=i) (h1:i<(l.length:Int)):∃c,atI l i=some c/\c∈l:=by
 have e:i=((i.toNat:Nat):Int):=by lia
 have hi:i.toNat<l.length:=by lia
 refine⟨l[i.toNat],?_,bD hi⟩
 have z:atI l ((i.toNat:Nat):Int)=some l[i.toNat]:=gN (bx hi)
 rw[<-e]at z
 exact z
def flN:V->Bool
 | .non=>true
 | .int _=>true
 | .str _=>true
 |_=>false
mutual
inductive Im (H:Hp):V->Dt->Prop where
 |flat {v:V} (h:flN v=true):Im H v (.flat v)
 |tup {a:Addr} {xs:List V} {ds:List Dt} (h:H a=some (.tup xs)) (hs:Ims H xs ds):Im H (.ref a) (.tup ds)
inductive Ims (H:Hp):List V->List Dt->Prop where
 |nil:Ims H [] []
 |cons {x:V} {d:Dt} {xs:List V} {ds:List Dt} (h:Im H x d) (hs:Ims H xs ds):Ims H (x::xs) (d::ds)
end
mutual
inductive Dta (H:Hp):V->Dt->Prop where
 |flat {v:V} (h:flN v=true):Dta H v (.flat v)
 |tup {a:Addr} {xs:List V} {ds:List Dt} (h:H a=some (.tup xs)) (hs:mh H xs ds):Dta H (.ref a) (.tup ds)
 |lst {a:Addr} {xs:List V} {ds:List Dt} (h:H a=some (.lst xs)) (hs:mh H xs ds):Dta H (.ref a) (.lst ds)
inductive mh (H:Hp):List V->List Dt->Prop where
 |nil:mh H [] []
 |cons {x:V} {d:Dt} {xs:List V} {ds:List Dt} (h:Dta H x d) (hs:mh H xs ds):mh H (x::xs) (d::ds)
end
def TK (H H':Hp):Prop:=∀a xs,H a=some (.tup xs)->H' a=some (.tup xs)
theorem gT.tk {H H':Hp} (s:gT H H'):TK H H':=fun a xs e=>s a _ e
mutual
theorem Im.mono {H H':Hp} (k:TK H H'):∀{v:V} {d:Dt},Im H v d->Im H' v d
 |_,_,.flat h=> .flat h
 |_,_,.tup h hs=> .tup (k _ _ h) (Ims.mono k hs)
theorem Ims.mono {H H':Hp} (k:TK H H'):∀{v:List V} {d:List Dt},Ims H v d->Ims H' v d
 |_,_,.nil=> .nil
 |_,_,.cons h hs=> .cons (Im.mono k h) (Ims.mono k hs)
end
mutual
theorem Dta.same {H H':Hp} (k:gT H H'):∀{v:V} {d:Dt},Dta H v d->Dta H' v d
 |_,_,.flat h=> .flat h
 |_,_,.tup h hs=> .tup (k _ _ h) (mh.same k hs)
 |_,_,.lst h hs=> .lst (k _ _ h) (mh.same k hs)
theorem mh.same {H H':Hp} (k:gT H H'):∀{v:List V} {d:List Dt},mh H v d->mh H' v d
 |_,_,.nil=> .nil
 |_,_,.cons h hs=> .cons (Dta.same k h) (mh.same k hs)
end
theorem mh.length {H:Hp}:∀{xs:List V} {ds:List Dt},mh H xs ds->xs.length=ds.length
 |_,_,.nil=>rfl
 |_,_,.cons _ t=>by rw[aA,aA,mh.length t]
theorem Ims.length {H:Hp}:∀{xs:List V} {ds:List Dt},Ims H xs ds->xs.length=ds.length
 |_,_,.nil=>rfl
 |_,_,.cons _ t=>by rw[aA,aA,Ims.length t]
theorem mh.get {H:Hp}:∀{xs:List V} {ds:List Dt} {j:Nat} {x:V},mh H xs ds->xs[j]?=some x->∃d,ds[j]?=some d/\Dta H x d
 |_,_,0,_,.cons h _,e=>⟨_,rfl,by cases e;exact h⟩
 |_,_,j+ 1,_,.cons _ t,e=>by
  rw[bC]at e
  obtain⟨d,e1,e2⟩:=mh.get t e
  exact⟨d,by rw[bC];exact e1,e2⟩
inductive xo {α β:Type} (F:α->β->Prop):List α->List β->Prop
 |nil:xo F [] []
 |cons {a:α} {b:β} {l:List α} {m:List β}:F a b->xo F l m->xo F (a::l) (b::m)
theorem xo.imp {α β:Type} {F G:α->β->Prop} (f:∀a b,F a b->G a b):∀{l:List α} {m:List β},xo F l m->xo G l m
 |_,_,.nil=> .nil
 |_,_,.cons h t=> .cons (f _ _ h) (xo.imp f t)
theorem xo.get {α β:Type} {F:α->β->Prop}:∀{l:List α} {m:List β} {j:Nat} {x:α},xo F l m->l[j]?=some x->∃y,m[j]?=some y/\F x y
 |_,_,0,_,.cons h _,e=>⟨_,rfl,by cases e;exact h⟩
 |_,_,j+ 1,_,.cons _ t,e=>by
  rw[bC]at e
  obtain⟨d,e1,e2⟩:=xo.get t e
  exact⟨d,by rw[bC];exact e1,e2⟩
mutual
def okD:Dt->Prop
 | .flat _=>True
 | .tup l=>l.length<=100000/\F8 l
 | .lst l=>l.length<=100000/\F8 l
def F8:List Dt->Prop
 |[]=>True
 |x::xs=>okD x/\F8 xs
end
def prL (p:Str×Int):Dt:= .tup [.flat (.str p.1),.flat (.int p.2)]
def prD (l:List (Str×Int)):Dt:= .tup (l.map prL)
inductive Us where
 |num (a p s:Int)
 |call (a p s x y:Int)
 |take (a p s:Int) (l:List (Str×Int))
 |case (a p s:Int) (l:List (Str×Int))
 |row (a p s x:Int)
def hdD (n:Str) (a p s:Int):List Dt:=[.flat (.str n),.flat (.int a),.flat (.int p),.flat (.int s)]
def Us.d:Us->Dt
 | .num a p s=> .tup (hdD "num" a p s)
 | .call a p s x y=> .tup (hdD "call" a p s++[.flat (.int x),.flat (.int y)])
 | .take a p s l=> .tup (hdD "take" a p s++[prD l])
 | .case a p s l=> .tup (hdD "case" a p s++[prD l])
 | .row a p s x=> .tup (hdD "row" a p s++[.flat (.int x)])
structure Mkg where
 s:Str
 f:Dt
 a:Int
 p:Int
def Mkg.d (m:Mkg):Dt:= .tup [.flat (.str m.s),m.f,.flat (.int m.a),.flat (.int m.p)]
def fU (a p s:V):List (Str×V):=[("at",a),("place",p),("slot",s)]
def fU1 (n:Str) (a p s x:V):List (Str×V):=[("at",a),("place",p),("slot",s),(n,x)]
def fU2 (a p s x y:V):List (Str×V):=[("at",a),("place",p),("slot",s),("arg",x),("out",y)]
def fM (s f a p:V):List (Str×V):=[("shape",s),("parts",f),("at",a),("place",p)]
def fB (p0 p1 p2 p3:Addr) (r:V):List (Str×V):=[("points",.ref p0),("makes",.ref p1),("uses",.ref p2),("flows",.ref p3),("root",r)]
structure Cs where
 M:Addr
 N:Addr
 C:Addr
 T:Addr
 K:Addr
 R:Addr
 B:Addr
def D8 (c:Cs) (H:Hp) (v:V):Us->Prop
 | .num a p s=>∃x dx,v= .ref x/\H x=some (.ins c.N dx (fU (.int a) (.int p) (.int s)))
 | .call a p s y z=>∃x dx,v= .ref x/\H x=some (.ins c.C dx (fU2 (.int a) (.int p) (.int s) (.int y) (.int z)))
 | .take a p s l=>∃x dx f,v= .ref x/\H x=some (.ins c.T dx (fU1 "fields" (.int a) (.int p) (.int s) f))/\Im H f (prD l)/\l.length<=10
 | .case a p s l=>∃x dx f,v= .ref x/\H x=some (.ins c.K dx (fU1 "arms" (.int a) (.int p) (.int s) f))/\Im H f (prD l)/\l.length<=10
 | .row a p s y=>∃x dx,v= .ref x/\H x=some (.ins c.R dx (fU1 "out" (.int a) (.int p) (.int s) (.int y)))
def D9 (c:Cs) (H:Hp) (v:V) (m:Mkg):Prop:=∃x dx f,v= .ref x/\H x=some (.ins c.M dx (fM (.str m.s) f (.int m.a) (.int m.p)))/\Im H f m.f/\A6 m.f<=2/\okD m.f
def Fz:HO->Prop
 | .tup _=>True
 | .ins _ _ fs=>fs.length≠5\/∃v r,fs=(("at":Str),v)::r
 |_=>False
def FK (H H':Hp):Prop:=∀a o,H a=some o->Fz o->H' a=some o
theorem FK.tk {H H':Hp} (k:FK H H'):TK H H':=fun a xs e=>k a _ e trivial
theorem FK.trans {H H1 H2:Hp} (a:FK H H1) (b:FK H1 H2):FK H H2:=fun c o e f=>b c o (a c o e f) f
theorem D8.mono {c:Cs} {H H':Hp} {v:V} (k:FK H H'):∀{u:Us},D8 c H v u->D8 c H' v u
 | .num _ _ _,⟨x,dx,e,h⟩=>⟨x,dx,e,k _ _ h (.inr ⟨_,_,rfl⟩)⟩
 | .call _ _ _ _ _,⟨x,dx,e,h⟩=>⟨x,dx,e,k _ _ h (.inr ⟨_,_,rfl⟩)⟩
 | .take _ _ _ _,⟨x,dx,f,e,h,i,n⟩=>⟨x,dx,f,e,k _ _ h (.inr ⟨_,_,rfl⟩),i.mono k.tk,n⟩
 | .case _ _ _ _,⟨x,dx,f,e,h,i,n⟩=>⟨x,dx,f,e,k _ _ h (.inr ⟨_,_,rfl⟩),i.mono k.tk,n⟩
 | .row _ _ _ _,⟨x,dx,e,h⟩=>⟨x,dx,e,k _ _ h (.inr ⟨_,_,rfl⟩)⟩
theorem D9.mono {c:Cs} {H H':Hp} {v:V} {m:Mkg} (k:FK H H'):D9 c H v m->D9 c H' v m
 |⟨x,dx,f,e,h,i,d⟩=>⟨x,dx,f,e,k _ _ h (.inl (by show 4≠5;decide)),i.mono k.tk,d⟩
theorem vw {J:It} {i:Nat} {te:TE} {Q:VK} {τ:St} {H1:Hp} {D:Addr} (n:Nat) (hn:n<sizeLine) (R:List V->Hp->Prop) (hR:∀xs H H',R xs H->TK H H'->R xs H') (hD:H1 D=none) (hτ:τ.set i none=τ)
  (hgo:∀k H,gT H1 H->k<n->J.go k H) (hst:∀H,gT H1 H->J.stop n H) (h0:R [] H1)
  (step:∀k H v H3 xs (Z:VK),gT H1 H->k<n->J.yld k H v H3->R xs H->xs.length=k->(∀y H5,gT H H5->R (xs++[y]) H5->Z y H5)->te (τ.set i (some v)) H3 Z)
  (hq:∀H' xs,gT H1 H'->R xs H'->xs.length=n->H' D=some (.lst xs)->Q (.ref D) H'):LcP J i m9 te Q τ H1 D:=by
 have nd:∀(H5:Hp) (xs ys:List V),H5 D=some (.lst xs)->TK H5 (upd H5 D (.lst ys)):=fun H5 xs ys e a zs q=>by rw[gM (kU q e (fun z=>nomatch z))];exact q
 have up:∀{H:Hp} (o:HO),gT H1 H->gT H1 (upd H D o):=fun{H} o S b u e=>by rw[gM (gL e hD)];exact S b u e
 refine⟨fun k m σ' H2=>m=n-k/\k<=n/\(∃o,σ'=τ.set i o)/\gT H1 H2/\∃xs,H2 D=some (.lst xs)/\xs.length=k/\R xs H2,⟨n,by simp,c8 _,⟨none,hτ.symm⟩,gJ hD _,[],gE,rfl,hR _ _ _ h0 (gT.tk (gJ hD _))⟩,?_⟩
 rintro k m σ' H2 ⟨rfl,hk,⟨o,rfl⟩,S,xs,e,hl,hr⟩
 by_cases hlt:k<n
 ·refine .inr ⟨hgo k H2 S hlt,fun v H3 y=>?_⟩
  rw[bp]
  refine step k H2 v H3 xs _ S hlt y hr hl fun y H5 S5 r5=>?_
  refine⟨xs,S5 D _ e,by lia,n-(k+ 1),by lia,rfl,hlt,⟨some v,rfl⟩,up _ (S.trans S5),xs++[y],gE,by rw[aO,hl];rfl,hR _ _ _ r5 (nd H5 _ _ (S5 D _ e))⟩
 ·have e1:k=n:=by lia
  subst e1
  exact .inl ⟨hst H2 S,hq H2 xs S hr hl e⟩
theorem qA {K:PySem.W.Frag} {a:Addr} {xs:List V} {k:Nat} {H1 H:Hp} (e:H1 a=some (.lst xs)) (S:gT H1 H) (h:k<xs.length):(Itl K a).go k H:=⟨xs,xs[k],SqL.of (S a _ e),bx h⟩
theorem qB {K:PySem.W.Frag} {a:Addr} {xs:List V} {H1 H:Hp} (e:H1 a=some (.lst xs)) (S:gT H1 H):(Itl K a).stop xs.length H:=⟨xs,SqL.of (S a _ e),c7 _⟩
theorem Ea {K:PySem.W.Frag} {a:Addr} {xs:List V} {k:Nat} {H1 H:Hp} (e:H1 a=some (.tup xs)) (S:gT H1 H) (h:k<xs.length):(Itt K a).go k H:=⟨xs,xs[k],SqT.of (S a _ e),bx h⟩
theorem Eb {K:PySem.W.Frag} {a:Addr} {xs:List V} {H1 H:Hp} (e:H1 a=some (.tup xs)) (S:gT H1 H):(Itt K a).stop xs.length H:=⟨xs,SqT.of (S a _ e),c7 _⟩
inductive Ls (H:Hp):List Addr->List (List V)->Prop
 |nil:Ls H [] []
 |cons {a:Addr} {c:List V} {l:List Addr} {m:List (List V)}:H a=some (.lst c)->Ls H l m->Ls H (a::l) (c::m)
theorem Ls.frame {H H':Hp} {M:List Addr} (k:∀a o,H a=some o->a∉M->H' a=some o):∀{l:List Addr} {m:List (List V)},Ls H l m->(∀a∈l,a∉M)->Ls H' l m
 |_,_,.nil,_=> .nil
 |_,_,.cons (a:=a) h t,n=> .cons (k _ _ h (n a (by simp))) (Ls.frame k t fun b hb=>n b (by simp[hb]))
theorem Ls.get {H:Hp}:∀{l:List Addr} {m:List (List V)} {i:Nat} {a:Addr},Ls H l m->l[i]?=some a->∃c,m[i]?=some c/\H a=some (.lst c)
 |_,_,0,_,.cons h _,e=>⟨_,rfl,by cases e;exact h⟩
 |_,_,j+ 1,_,.cons _ t,e=>by
  rw[bC]at e
  obtain⟨d,e1,e2⟩:=Ls.get t e
  exact⟨d,by rw[bC];exact e1,e2⟩
structure Sd where
 b:Addr
 dx:Addr
 p0:Addr
 p1:Addr
 p2:Addr
 p3:Addr
 d:Addr
 q0:Addr
 q1:Addr
 q2:Addr
 q3:Addr
def Sd.ls (S:Sd):List Addr:=[S.p0,S.p1,S.p2,S.p3,S.d,S.q0,S.q1,S.q2,S.q3]
structure Bd where
 pts:List Int
 mks:List Mkg
 uss:List Us
 fls:List (Int×Int)
 root:Int
def flD (p:Int×Int):Dt:= .tup [.flat (.int p.1),.flat (.int p.2)]
structure BSx (c:Cs) (H:Hp) (S:Sd) (E D:Bd):Prop where
 nd:S.ls.Nodup
 ob:H S.b=some (.ins c.B S.dx (fB S.p0 S.p1 S.p2 S.p3 (.int D.root)))
 st:∃mv uv fv mv' uv' fv':List V,Ls H S.ls [D.pts.map V.int,mv,uv,fv,[.ref S.q0,.ref S.q1,.ref S.q2,.ref S.q3,.int E.root],E.pts.map V.int,mv',uv',fv']/\
  xo (D9 c H) mv D.mks/\xo (D8 c H) uv D.uss/\Ims H fv (D.fls.map flD)/\Ims H mv' (E.mks.map Mkg.d)/\Ims H uv' (E.uss.map Us.d)/\Ims H fv' (E.fls.map flD)
theorem Ls.at {H:Hp} {l:List Addr} {m:List (List V)} (L:Ls H l m) {i:Nat} {a:Addr} {c:List V} (h1:l[i]?=some a) (h2:m[i]?=some c):H a=some (.lst c):=by
 obtain⟨d,e1,e2⟩:=L.get h1
 rw[h2]at e1
 cases e1
 exact e2
theorem Ec {H:Hp} {a:Addr} {xs:List V} {o:HO} (h:H a=some (.lst xs)):FK H (upd H a o):=fun b u e f=>by
 rw[gM (kU e h (fun z=>by rw[z]at f;exact f))]
 exact e
section
variable {c:Cs} {H H':Hp} {S:Sd} {E D:Bd}
theorem BSx.frame {M:List Addr} (B:BSx c H S E D) (k:∀a o,H a=some o->a∉M->H' a=some o) (hb:S.b∉M) (hl:∀a∈S.ls,a∉M) (fk:FK H H'):BSx c H' S E D:=by
 obtain⟨nd,ob,mv,uv,fv,mv',uv',fv',L,h1,h2,h3,h4,h5,h6⟩:=B
 exact⟨nd,k _ _ ob hb,mv,uv,fv,mv',uv',fv',L.frame k hl,h1.imp fun _ _=>D9.mono fk,h2.imp fun _ _=>D8.mono fk,h3.mono fk.tk,h4.mono fk.tk,h5.mono fk.tk,h6.mono fk.tk⟩
end
theorem BSx.hl {c:Cs} {H:Hp} {S:Sd} {E D:Bd} {l:Addr} {xs:List V} {o:HO} (B:BSx c H S E D) (hn:l∉S.ls) (e:H l=some (.lst xs)):BSx c (upd H l o) S E D:=by
 refine B.frame (M:=[l]) (fun a u q n=>?_) (fun z=>?_) (fun a ha z=>?_) (Ec e)
 ·rw[gM (fun z=>n (by simp[z]))];exact q
 ·have z':S.b=l:=by simpa using z
  have q:=B.ob
  rw[z',e]at q
  cases q
 ·have z':a=l:=by simpa using z
  rw[z']at ha
  exact hn ha
def Frm (M:List Addr) (H H':Hp):Prop:=∀a o,H a=some o->a∉M->H' a=some o
theorem Frm.trans {M:List Addr} {H H1 H2:Hp} (a:Frm M H H1) (b:Frm M H1 H2):Frm M H H2:=fun c o e n=>b c o (a c o e n) n
def lk:List (Str×Int)->Str->Option Int
 |[],_=>none
 |p::t,w=>if p.1=w then some p.2 else lk t w
inductive Mf where
 |num
 |fn (x y:Int)
 |rcd (l:List (Str×Int))
 |tag (w:Str) (x:Int)
 |row (x:Int)
 |any
def Mf.s:Mf->Str
 | .num=>"num"
 | .fn _ _=>"fn"
 | .rcd _=>"rec"
 | .tag _ _=>"tag"
 | .row _=>"row"
 | .any=>"any"
def Mf.f:Mf->Dt
 | .num=> .tup []
 | .fn x y=> .tup [.flat (.int x),.flat (.int y)]
 | .rcd l=>prD l
 | .tag w x=> .tup [.flat (.str w),.flat (.int x)]
 | .row x=> .tup [.flat (.int x)]
 | .any=> .tup []
def fnd (m:List (Str×Int)) (p:Str×Int):Option (Int×Int):=(lk m p.1).map fun x=>(x,p.2)
def taken (l m:List (Str×Int)):Option (List (Int×Int)):=if(l.filterMap (fnd m)).length=l.length then some (l.filterMap (fnd m))else none
end BO.Internal
namespace L2.Internal
open PySem PySem.Spec PyProof.Rows
section
variable {X:Cx} {e a b o f:Expr} {st:Stmt} {ta tb td ty tx to:TE} {pos apos cpos:Pos}
theorem PE.weak {t t':TE} (h:PE X e t) (m:∀σ H Q,t' σ H Q->t σ H Q):PE X e t':=fun pins s σ H Q I q=>h pins s σ H Q I (m σ H Q q)
theorem PT.weak {t t':TT} (h:PT X e t) (m:∀σ H Q,t' σ H Q->t σ H Q):PT X e t':=fun pins s σ H Q I q=>h pins s σ H Q I (m σ H Q q)
theorem OpR.weak {g:Value->Value->Sem Value} {r r':R2} (h:OpR X g r) (m:∀x y H Q,r' x y H Q->r x y H Q):OpR X g r':=fun pins s σ H x y v u Q I rx ry q=>h pins s σ H x y v u Q I rx ry (m x y H Q q)
theorem IxR.weak {r r':R2} (h:IxR X r) (m:∀x y H Q,r' x y H Q->r x y H Q):IxR X r':=fun value slice pins s σ H x y v u Q I rx ry q hs=>h value slice pins s σ H x y v u Q I rx ry (m x y H Q q) hs
def mT (t:TE):TE:=fun σ H Q=>∃Q0:VK,t σ H Q0/\∀x H1,Q0 x H1->Q x H1
theorem PE.mono {t:TE} (h:PE X e t):PE X e (mT t):=fun pins s σ H Q I ⟨Q0,h0,m⟩=>thn (h pins s σ H Q0 I h0) fun v s1 ⟨x,H1,I1,r1,q1⟩=>⟨x,H1,I1,r1,m x H1 q1⟩
def mR (r:R2):R2:=fun x y H Q=>∃Q0:VK,r x y H Q0/\∀x H1,Q0 x H1->Q x H1
theorem OpR.mono {g:Value->Value->Sem Value} {r:R2} (h:OpR X g r):OpR X g (mR r):=fun pins s σ H x y v u Q I rx ry ⟨Q0,h0,m⟩=>thn (h pins s σ H x y v u Q0 I rx ry h0) fun v s1 ⟨x,H1,I1,r1,q1⟩=>⟨x,H1,I1,r1,m x H1 q1⟩
def onV:Option (Option V)->(V->Prop)->Prop
 |some (some v),k=>k v
 |_,_=>False
def onS {α:Type}:Option α->(α->Prop)->Prop
 |some v,k=>k v
 |none,_=>False
theorem gO {α:Type} {x:Option α} {v:α} {k:α->Prop} (h:x=some v) (q:k v):onS x k:=by rw[h];exact q
theorem yt {α:Type} {x:Option α} {k:α->Prop} (h:onS x k):∃v,x=some v/\k v:=by
 cases x with
 |none=>exact h.elim
 |some v=>exact⟨v,rfl,h⟩
def cV (i:Nat):TE:=fun σ H Q=>onV σ[i]? fun v=>Q v H
theorem cv (i:Nat) {x:Str} {pos:Pos} (hN:autoParam (X.N[i]?=some x) L2.Internal.auR._auto_1) (hv:Vis X.env.scope x:=by first|exact Or.inl rfl|exact Or.inr (.inl rfl)|exact Or.inr (.inr rfl)) (hd:autoParam ((x==("__debug__":Str))=false) L2.Internal.auD._auto_1)
  (hcd:autoParam ((x==("__classdict__":Str))=false) L2.Internal.auD._auto_1):PE X (.Name x pos) (cV i):=(pv i hN hv hd hcd).weak fun σ H Q h=>by
 unfold cV at h
 cases q:σ[i]? with
 |none=>rw[q]at h;exact h.elim
 |some o=>
  rw[q]at h
  cases o with
  |none=>exact h.elim
  |some v=>exact⟨v,q,h⟩
def cI0 (g:Int->Int->V):R2:=fun x y H Q=>match x,y with
 | .int i,.int j=>Q (g i j) H
 |_,_=>False
def cI (C:Int->Int->Prop) (g:Int->Int->V):R2:=fun x y H Q=>match x,y with
 | .int i,.int j=>C i j/\Q (g i j) H
 |_,_=>False
theorem vx {g:Int->Int->V}:∀x y H Q,cI0 g x y H Q->rI0 g x y H Q:=fun x y H Q h=>by
 unfold cI0 at h
 split at h
 ·exact⟨_,_,rfl,rfl,h⟩
 ·exact h.elim
theorem zW {C:Int->Int->Prop} {g:Int->Int->V}:∀x y H Q,cI C g x y H Q->rI C g x y H Q:=fun x y H Q h=>by
 unfold cI at h
 split at h
 ·exact⟨_,_,rfl,rfl,h.1,h.2⟩
 ·exact h.elim
theorem jf:OpR X (binaryOp .Add) (cI0 fun i j=> .int (i+j)):=AX.weak vx
theorem qC:OpR X (binaryOp .Sub) (cI0 fun i j=> .int (i-j)):=DF.weak vx
theorem Ed:OpR X (binaryOp .Mult) (cI Fv fun i j=> .int (i*j)):=DG.weak zW
theorem l6:OpR X (binaryOp .FloorDiv) (cI GS fun i j=> .int (i/j)):=BE.weak zW
theorem j4:OpR X (binaryOp .Mod) (cI (fun _ j=>0<j) fun i j=> .int (i%j)):=DH.weak zW
theorem sX:OpR X (binaryOp .Pow) (cI GU fun i j=> .int (i^j.toNat)):=DI.weak zW
theorem uB:OpR X (compareOp .Lt) (cI0 fun i j=> .bl (decide (i<j))):=FQ.weak vx
theorem ph:OpR X (compareOp .Gt) (cI0 fun i j=> .bl (decide (j<i))):=BF.weak vx
def cEq (n:Bool):R2:=fun x y H Q=>match x,y with
 | .int i,.int j=>Q (.bl (xor n (decide (i=j)))) H
 | .str i,.str j=>Q (.bl (xor n (decide (i=j)))) H
 |_,_=>False
theorem GY {i j:Str}:decide (V.str i=V.str j)=decide (i=j):=by
 rw[fO]
 simp
theorem GZ {i j:Int}:decide (V.int i=V.int j)=decide (i=j):=by
 rw[fO]
 simp
theorem og:OpR X (compareOp .Eq) (cEq false):=qQ.weak fun x y H Q h=>by
 unfold cEq at h
 split at h
 ·refine⟨rfl,?_⟩;rw[GZ];rw[fW]at h;exact h
 ·refine⟨rfl,?_⟩;rw[GY];rw[fW]at h;exact h
 ·exact h.elim
theorem Ee:OpR X (compareOp .NotEq) (cEq true):=m5.weak fun x y H Q h=>by
 unfold cEq at h
 split at h
 ·refine⟨rfl,?_⟩;rw[GZ];rw[Bool.true_xor]at h;exact h
 ·refine⟨rfl,?_⟩;rw[GY];rw[Bool.true_xor]at h;exact h
 ·exact h.elim
def onB:V->(Bool->Prop)->Prop
 | .bl k,q=>q k
 |_,_=>False
theorem Ef {x:V} {k:Bool->Prop} (h:onB x k):∃c,x= .bl c/\k c:=by
 cases x<;>first|exact⟨_,rfl,h⟩|exact h.elim
def cT (t:TE):TT:=fun σ H Q=>t σ H fun x H'=>onB x fun k=>Q k H'
theorem ie {op:CmpOp} {r:R2} (ho:OpR X (compareOp op) r) (ha:PE X a ta) (hb:PE X b tb) (hm:behindInMarks op b=false):PT X (.Compare a [op] [b] pos) (cT (tOp r ta tb)):=
 (ju ho.mono ha.mono hb.mono hm).weak fun σ H Q h=>⟨_,h,fun x H1 h1=>⟨_,h1,fun y H2 h2=>⟨_,h2,fun z H' h3=>Ef h3⟩⟩⟩
def G1:R2:=fun x y H Q=>match x,y with
 | .ref p,.int i=>∃xs,H p=some (.lst xs)/\onS (atI xs i) fun v=>Q v H
 |_,_=>False
def Eg:R2:=fun x y H Q=>match x,y with
 | .ref p,.int i=>∃xs,H p=some (.tup xs)/\onS (atI xs i) fun v=>Q v H
 |_,_=>False
def G2:R2:=fun x y H Q=>match x,y with
 | .str z,.int i=>z.length<=sizeLine/\onS (atI z.cps.toList i) fun c=>Q (.str ⟨#[c]⟩) H
 |_,_=>False
theorem gX:IxR X G1:=yd.weak fun x y H Q h=>by
 unfold G1 at h
 split at h
 ·obtain⟨xs,e,h⟩:=h
  obtain⟨v,ev,h⟩:=yt h
  exact⟨_,xs,_,v,rfl,rfl,SqL.of e,ev,h⟩
 ·exact h.elim
theorem iY:IxR X Eg:=DV.weak fun x y H Q h=>by
 unfold Eg at h
 split at h
 ·obtain⟨xs,e,h⟩:=h
  obtain⟨v,ev,h⟩:=yt h
  exact⟨_,xs,_,v,rfl,rfl,SqT.of e,ev,h⟩
 ·exact h.elim
theorem nL:IxR X G2:=ye.weak fun x y H Q h=>by
 unfold G2 at h
 split at h
 ·obtain⟨e,h⟩:=h
  obtain⟨v,ev,h⟩:=yt h
  exact⟨_,_,v,rfl,rfl,e,ev,h⟩
 ·exact h.elim
def Fd (H:Hp) (a C:Addr) (f:Str) (v:V):Prop:=∃dx fs,H a=some (.ins C dx fs)/\fs.lookup f=some v
def cFld (C:Addr) (f:Str) (ta:TE):TE:=fun σ H Q=>ta σ H fun x H1=>match x with
 | .ref a=>∃v,Fd H1 a C f v/\Q v H1
 |_=>False
theorem jT {C:Addr} {f:Str} (c:Cls X.K C) (n:lP X.K C f) (he:PE X e ta) (hb:autoParam (attributeBase e f X.env (eval e X.env)=eval e X.env) L2.Internal.auR._auto_1):PE X (.Attribute e f pos) (cFld C f ta):=
 (nG he.mono hb).weak fun σ H Q h=>⟨_,h,fun x H1 h1=>by
  cases x with
  |ref a=>
   obtain⟨v,⟨dx,fs,ea,ev⟩,q⟩:=h1
   exact⟨a,C,dx,fs,v,rfl,ea,c,n,ev,q⟩
  |_=>exact h1.elim⟩
def cS:R2:=fun x y H Q=>match x,y with
 | .str i,.str j=>i.length+j.length<=sizeLine/\Q (.str (i++j)) H
 |_,_=>False
theorem iQ:OpR X (binaryOp .Add) cS:=qp.weak fun x y H Q h=>by
 unfold cS at h
 split at h
 ·exact⟨_,_,rfl,rfl,h.1,h.2⟩
 ·exact h.elim
def cApp (to ta:TE):TE:=fun σ H Q=>to σ H fun x H1=>match x with
 | .ref l=>(∃xs,H1 l=some (.lst xs))/\ta σ H1 fun y H2=>∃xs,H2 l=some (.lst xs)/\xs.length<sizeLine/\Q .non (upd H2 l (.lst (xs++[y])))
 |_=>False
theorem mq (h:PE X e (tBM X.K "list" yf (mT to) (ui (mT ta) zI))):PE X e (cApp to ta):=h.weak fun σ H Q h=>⟨_,h,fun x H1 h1=>by
  cases x with
  |ref l=>
   obtain⟨⟨xs,e⟩,q⟩:=h1
   exact⟨.inl ⟨rfl,xs,SqL.of e⟩,_,q,fun y H2 ⟨xs,e,hl,q2⟩=>⟨l,xs,y,rfl,rfl,e,hl,q2⟩⟩
  |_=>exact h1.elim⟩
end
end L2.Internal
namespace BO.Internal
open PySem L2.Internal
def wd:Bool->Str
 |true=>"goes"
 |false=>"here"
structure Rw where
 w:Bool
 a:Int
 b:Int
 y:Option (Int×Int)
def Rw.k (r:Rw):List Key:=[.inr (wd r.w),.inl r.a,.inl r.b]
def whyD:Option (Int×Int)->Dt
 |none=> .flat .non
 |some p=>flD p
def Rw.d (r:Rw):Dt:= .tup [.flat (.str (wd r.w)),.flat (.int r.a),.flat (.int r.b),whyD r.y]
structure DL (H:Hp) (d:Addr) (L:List Addr) (f:Int->List V) (k:Nat):Prop where
 ex:∃kvs:List (Key×V),H d=some (.dK kvs)/\kvs.length<=k/\(∀p,jL kvs (.inl p)=none->f p=[])/\
  (∀p v,jL kvs (.inl p)=some v->∃l,l∈L/\v= .ref l/\H l=some (.lst (f p)))/\(∀p q v,jL kvs (.inl p)=some v->jL kvs (.inl q)=some v->p=q)
def putf (f:Int->List V) (p:Int) (x:V):Int->List V:=fun q=>if q=p then f p++[x]else f q
structure Sda (H:Hp) (d:Addr) (L:List Addr) (f:Int->List V) (k:Nat) (p:Int) (l:Addr) (H1:Hp):Prop where
 here:H1 l=some (.lst (f p))
 fin:∀H2 x,gT H1 H2->∃L',(∀a∈L',a∈L\/a=l)/\DL (upd H2 l (.lst (f p++[x]))) d L' (putf f p x) (k+ 1)
 fr:∀a o,H a=some o->a≠d->H1 a=some o
 own:l∈L\/H l=none
theorem DL.get {H:Hp} {d:Addr} {L:List Addr} {f:Int->List V} {k:Nat} (W:DL H d L f k) (p:Int) {z:Addr} (hz:H z=none):
  ∃kvs l,(upd H z (.lst [])) d=some (.dK kvs)/\(jL kvs (.inl p)).getD (.ref z)= .ref l/\(upd H z (.lst [])) l=some (.lst (f p))/\(l∈L\/H l=none):=by
 obtain⟨kvs,e,hl,h1,h2,h3⟩:=W
 have s:=gJ hz (.lst [])
 cases ev:jL kvs (.inl p)with
 |none=>exact⟨kvs,z,s _ _ e,by rw[ev];rfl,by rw[h1 p ev];exact gE,.inr hz⟩
 |some v=>
  obtain⟨l,m,rfl,el⟩:=h2 p v ev
  exact⟨kvs,l,s _ _ e,by rw[ev];rfl,s _ _ el,.inl m⟩
open Classical in
def putR (R:List Rw) (ρ:Rw):List Rw:=if ρ.k∈R.map Rw.k then R else R++[ρ]
def putsR (R l:List Rw):List Rw:=l.foldl putR R
end BO.Internal
namespace L2.Internal
open PySem PySem.Spec PyProof.Rows
section
variable {X:Cx}
end
theorem uC:bootBuiltins "reversed"=some (.type "reversed"):=by first|rfl|decide+kernel
section
variable {X:Cx}
theorem wK:mf X (.type "dict") (fun xs H Q=>∃(d:Addr) (kvs:List (Key×V)),xs=[.ref d]/\H d=some (.dK kvs)/\∀p,H p=none->Q (.ref p) (upd H p (.dK kvs))):=by
 intro pins s σ H xs us Q I r h
 obtain⟨d,kvs,rfl,hd,q⟩:=h
 obtain⟨u,rfl,ru⟩:=mj r
 cases ru
 obtain⟨z,hS,vs,rel,dd⟩:=wy I.hok hd
 refine kt_call_dict hS dd (by rw[<-rel.length];exact z) fun h' dd' sb=>?_
 have fr:H s.heap.objs.size=none:=I.fresh
 refine⟨.ref s.heap.objs.size,_,?_,rfl,q _ fr⟩
 refine I.laid (fun b o e=>(sb.2 b (cW (gq e))).trans (gv _ e)) (c7 _) (xV z ?_ rel dd')
 have hb:=I.big
 show(s.heap.objs.size==sysModules)=false
 rw[beq_eq_false_iff_ne]
 exact cZ hb
theorem yu:MtR X "dict.update" (fun x xs H Q=>∃d o kvs more,x= .ref d/\xs=[.ref o]/\d≠o/\H d=some (.dK kvs)/\H o=some (.dK more)/\kvs.length+more.length<=sizeLine/\Q .non (upd H d (.dK (nJ kvs more)))):=by
 intro pins s σ H x xs v us Q I rx rs h
 obtain⟨d,o,kvs,more,rfl,rfl,hne,hd,ho,hl,q⟩:=h
 cases rx
 obtain⟨u,rfl,ru⟩:=mj rs
 cases ru
 obtain⟨z1,s1,vs,rel,dd⟩:=wy I.hok hd
 obtain⟨z2,s2,ws,rel2,dd2⟩:=wy I.hok ho
 refine call_meetsIn fz dd.typeIs PySem.F.entry_dict_update (PySem.F.args_dict_update_2 _ _) (meets_dict_update (jQ X.prog X.w) d o hne s2) ⟨vs,ws,dd,dd2,by rw[<-rel.length,<-rel2.length];exact hl,fun h' dd' _ sb=>?_⟩
 have he:∃q,h'.get? d=some q:=let⟨q,_,_,hq,_⟩:=dd';⟨q,hq⟩
 have hl':(nJ kvs more).length<=sizeLine:=cX (lY more kvs) hl
 exact⟨.non,_,uk (t':=s.toks) I (by rw[hd];exact True.intro) sb he (xV hl' s1 (rel2.merge rel) dd'),rfl,q⟩
end
section
variable {X:Cx}
end
section
variable {X:Cx} {pins:List (Addr×Obj)} {σ:St} {H:Hp} {s:Shared}
end
section
variable {prog:Program} {w:World} {A:Around} {R:Result->Shared->Prop} {I:Addr} {fp wr:List Addr} {n:Nat} {P:Nat->Value->Prop} {St:Nat->Heap->Prop}
end
section
variable {prog:Program} {w:World} {A:Around} {E:Value->Shared->Prop} {s:Shared} {l:Addr} {xs:Array (Int×Tok)}
end
section
variable {X:Cx}
end
section
variable {X:Cx}
end
theorem wL:typeLookup (.type "list_reverseiterator") "__len__"=pure none:=by rw[typeLookup_type,builtinLookup_eq_fast];kernel_rfl
theorem zX:typeLookup (.type "list_reverseiterator") "__length_hint__"=pure (some (.builtin "list_reverseiterator.__length_hint__")):=by rw[typeLookup_type,builtinLookup_eq_fast];kernel_rfl
section
variable {prog:Program} {w:World} {A:Around} {s:Shared}
theorem zY {E:Value->Shared->Prop} {it l:Addr} {i:Int} {Q:Bool->Shared->Prop} (hit:s.heap.IsRevIter it l i) (h:Q false s):wpAny (model prog w) A (Builtin.List.listLengthHint (.ref it)) Q E s:=by
 unfold Builtin.List.listLengthHint
 refine wpAny_bind (wpAny_specialOf hit.typeIs wL ?_)
 show wpAny _ _ (specialOf (Value.ref it) (Str.ofString "__length_hint__") >>= _) _ _ _
 refine wpAny_bind (wpAny_specialOf hit.typeIs zX ?_)
 generalize hid:("list_reverseiterator.__length_hint__":String)=idr
 wp_delta
 rw[show splitId idr=some ("list_reverseiterator","__length_hint__")from by subst hid;decide+kernel]
 subst hid
 refine wpAny_bind (wpAny_isInstance (T:="list_reverseiterator") (b:=true) hit.typeIs (by rw[isSubtype_type];kernel_rfl) ?_)
 refine wpAny_ite_split (fun hz=>absurd hz (by decide)) (fun _=>?_)
 refine wpAny_ite_split (fun _=>?_) (fun hz=>absurd (by decide+kernel) hz)
 exact wpAny_ite_split (fun hz=>absurd hz (by decide)) (fun _=>wpAny_pure h)
theorem wM {R:Result->Shared->Prop} {it l:Addr} {items:Array Value} (hh:A.handled=none) (hit:s.heap.IsRevIter it l ((items.size:Int)-1)) (hl:s.heap.IsList l items) (hne:l≠it) (hz:items.size<=sizeLine) (D:Addr) (res:Value) (c0:Nat)
  (hD:s.heap.get? D=some {cls:= .type "list",data:= .seq #[] c0}) (hDi:D≠it) (hDl:D≠l)
  (hR:∀h2 tk acc c2,(∀b o,b≠D->b≠it->s.heap.get? b=some o->h2.get? b=some o)->h2.get? D=some {cls:= .type "list",dict:=none,data:= .seq acc c2,slots:=#[]}->
   ItemsOf (fun i v=>items[items.size-1-i]?=some v) acc items.size->R (.ok (.ret res)) {s with heap:=h2,toks:=tk}):
  wpAny (model prog w) A.in1 (Builtin.List.listExtendWith (.ref D) (.ref it) res)
   (fun fin s'=>match fin with| .done f=>R (.ok f) s'| .again c'=>c'.quiet=true/\codeAny (model prog w) A c' R s') (fun e s'=>R (.error e) s') s:=by
 have W:=(Walks.listRev (prog:=prog) (w:=w) (A:=A.in1) hh it l hne items).toS
 unfold Builtin.List.listExtendWith
 refine wpAny_bind (wpAny_typeOf hit.typeIs ?_)
 have h1:Builtin.List.listSameRef (.ref D) (.ref it)=false:=by simp[Builtin.List.listSameRef,hDi]
 have h2:(Value.type "list_reverseiterator"==Value.type "list")=false:=by decide
 have h3:(Value.type "list_reverseiterator"==Value.type "tuple")=false:=by decide
 simp only[h1,h2,h3,Bool.or_false,Bool.false_eq_true,if_false]
 refine wpAny_bind (wpAny_pyIter_revIter hit ?_)
 refine wpAny_bind (wpAny_holding (zY hit ?_))
 refine wpAny_ite_split (fun hz=>absurd hz (by decide)) (fun _=>?_)
 refine wpAny_pure ⟨plainId_quiet F.plain_extend_loop _,codeAny_extend_loopS W hz D (fun hm=>?_) res items.size 0 _ #[] c0 rfl (c8 _) ⟨c8 _,by simpa using hit,hl⟩ hD (ItemsOf.nil _) fun s' acc c2 hm hS hacc=>?_⟩
 ·rcases aj.mp hm with e|hm
  ·exact hDi e
  ·exact hDl (bg.mp hm)
 ·rw[Moved.eq_with hm]
  refine hR s'.heap s'.toks acc c2 (fun b o hb hb2 e=>hm.heap b o (fun hmem=>?_) e) hS hacc
  rcases aj.mp hmem with e'|hmem
  ·exact hb e'
  ·exact hb2 (bg.mp hmem)
theorem qX {E:Value->Shared->Prop} {Q:Value->Shared->Prop} {it l:Addr} {items:Array Value} (hh:A.handled=none) (hit:s.heap.IsRevIter it l ((items.size:Int)-1)) (hl:s.heap.IsList l items) (hne:l≠it) (hz:items.size<=sizeLine)
  (hQ:∀h2 tk acc c2,(∀b o,b≠it->s.heap.get? b=some o->h2.get? b=some o)->h2.get? s.heap.objs.size=some {cls:= .type "list",dict:=none,data:= .seq acc c2,slots:=#[]}->
   ItemsOf (fun i v=>items[items.size-1-i]?=some v) acc items.size->Q (.ref s.heap.objs.size) {s with heap:=h2,toks:=tk}):
  wpAny (model prog w) A (call (.type "list") [.ref it]) Q E s:=by
 have hi:it<s.heap.objs.size:=by obtain⟨o,e,_⟩:=hit;exact gq e
 have hll:l<s.heap.objs.size:=by obtain⟨o,e,_⟩:=hl;exact gq e
 refine callType_codes (Q₁:=fun obj s₁=>obj= .ref s.heap.objs.size/\s₁={s with heap:=s.heap.push {cls:= .type "list",data:= .seq #[]}}) F.called_list (F.typeCall_list_1 _) F.entry_list_init (code_list_new _ ⟨rfl,rfl⟩) fun obj s1 h1=>?_
 obtain⟨rfl,rfl⟩:=h1
 have hS:(s.heap.push {cls:= .type "list",data:= .seq #[]}).get? s.heap.objs.size=some {cls:= .type "list",data:= .seq #[]}:=gr _ rfl
 have hit1:(s.heap.push {cls:= .type "list",data:= .seq #[]}).IsRevIter it l ((items.size:Int)-1):=hit.at fun o e=>gv _ e
 have hl1:(s.heap.push {cls:= .type "list",data:= .seq #[]}).IsList l items:=hl.push _
 refine⟨⟨_,hS,rfl⟩,F.args_list_init_2 _ _,?_⟩
 show wpAny _ A.in1.in1 (do let old<-Builtin.List.listItems (.ref s.heap.objs.size);Builtin.List.listUpdate (.ref s.heap.objs.size) (fun _=>#[]);letGo old.toList.reverse;Builtin.List.listExtendWith (.ref s.heap.objs.size) (.ref it) .none) _ _ _
 refine wpAny_bind ?_
 unfold Builtin.List.listItems
 refine wpAny_bind (wpAny_seqItems hS rfl (wpAny_pure ?_))
 show wpAny _ A.in1.in1 (updateSeq s.heap.objs.size (fun _=>#[]) >>= fun _=>letGo (#[]:Array Value).toList.reverse >>= fun _=>Builtin.List.listExtendWith (.ref s.heap.objs.size) (.ref it) .none) _ _ _
 refine wpAny_bind (wpAny_updateSeq hS rfl ?_)
 have hS2:=gx (Obj.mapSeq (fun _=>(#[]:Array Value))) hS rfl
 refine wpAny_bind (wpAny_letGo ?_)
 have ni:s.heap.objs.size≠it:=cZ hi
 have nl:s.heap.objs.size≠l:=cZ hll
 refine wM (A:=A.in1) hh (hit1.at fun o e=>(gy _ _ ni).trans e) (hl1.at fun o e=>(gy _ _ nl).trans e) hne hz _ .none _ hS2 ni nl fun h2 tk acc c2 hk hD hacc=>?_
 exact⟨rfl,hQ h2 tk acc c2 (fun b o hb e=>hk b o (cW (gq e)) hb ((gy _ _ (cZ (gq e))).trans (gv _ e))) hD hacc⟩
end
section
variable {X:Cx}
def tLR (K:PySem.W.Frag) (ta:TA):TE:=fun σ H Q=>ta σ H fun vs H1=>∃a xs,vs=[.ref a]/\SqL K H1 a xs/\∀l,H1 l=none->Q (.ref l) (upd H1 l (.lst xs.reverse))
theorem wN {a:Expr} {ta:TA} {p pos p2 pos2:Pos} (hc:X.calm=true) (hg:Gl X "list") (hm:X.mg "list"=none) (hg2:Gl X "reversed") (hm2:X.mg "reversed"=none) (ha:PA X [a] ta)
  (hs:autoParam (starEach [a] X.env=[(false,eval a X.env)]) L2.Internal.auR._auto_1) (hs2:autoParam (starEach [.Call (.Name "reversed" p2) [a] [] pos2] X.env=[(false,eval (.Call (.Name "reversed" p2) [a] [] pos2) X.env)]) L2.Internal.auR._auto_1):
  PE X (.Call (.Name "list" p) [.Call (.Name "reversed" p2) [a] [] pos2] [] pos) (tLR X.K ta):=by
 intro pins s σ H Q I h
 refine wpAny_Call_Name_kw (oS I hg hm yj ?_ (by decide) (by decide))
 refine gz ?_ hs2 rfl
 rw[hs2]
 refine Calls.spliced_cons ?_
 refine Call_ (oS I hg2 hm2 uC (gz (thn (ha pos2 pins s σ H _ I h) fun us s1 ⟨vs,H1,I1,r1,q1⟩=>?_) hs rfl))
 obtain⟨l1,xs,e,hq,q⟩:=q1
 subst e
 obtain⟨u,rfl,ru⟩:=mj r1
 cases ru
 obtain⟨i1s,w1,p1,z1⟩:=I1.list hq
 have hlen:=w1.length
 refine call_reversed_list p1.isList ?_
 refine Calls.spliced_nil ?_
 have st:(s1.heap.push (revObj l1 ((i1s.toArray.size:Int)-1))).IsRevIter s1.heap.objs.size l1 ((i1s.toArray.size:Int)-1):=⟨_,gr _ rfl,rfl,rfl⟩
 have hlt:l1<s1.heap.objs.size:=by obtain⟨o,e,_⟩:=p1.isList;exact gq e
 refine qX (I1.ok.hd hc) st (p1.isList.push _) (cW hlt) (by rw[aV];lia) fun h2 tk acc c2 hk hD hacc=>?_
 have kp:∀b o,s1.heap.get? b=some o->h2.get? b=some o:=fun b o e=>hk b o (cW (gq e)) (gv _ e)
 have sz:(s1.heap.push (revObj l1 ((i1s.toArray.size:Int)-1))).objs.size=s1.heap.objs.size+ 1:=gw ..
 have hv:iV xs.reverse acc.toList:=by
  have e2:acc.toList=i1s.reverse:=by
   refine bE fun j=>?_
   by_cases hj:j<acc.size
   ·have h3:=hacc.2 j acc[j] (f9 hj)
    have hs3:acc.size=i1s.length:=by have h9:=hacc.1;simpa using h9
    rw[aV]at h3
    rw[List.getElem?_reverse (show j<i1s.length by lia)]
    rw[fZ,f9 hj,<-h3]
    simp
   ·have h4:acc.size=i1s.length:=by
     have h9:=hacc.1
     simpa using h9
    rw[bF (by simpa using hj),bF (by rw[bG];lia)]
  rw[e2]
  exact w1.reverse
 refine⟨.ref (s1.heap.objs.size+ 1),_,?_,by rw[sz];rfl,q (s1.heap.objs.size+ 1) (I1.hok.fresh (dc _))⟩
 refine I1.laid (a:=s1.heap.objs.size+ 1) (t':=tk) kp (dc _) ⟨by rw[bG];exact z1,acc.toList,c2,hv,?_⟩
 rw[<-sz]
 simpa using hD
end
end L2.Internal
namespace L2.Internal
open PySem PySem.Spec PyProof.Rows PySem.W
section
variable {prog:Program} {w:World} {A:Around} {E:Value->Shared->Prop} {s:Shared}
end
section
variable {X:Cx}
end
section
variable {fs ex:List Addr} {H H':Hp} {h h':Heap}
end
section
variable {X:Cx} {pins:List (Addr×Obj)} {σ:St} {H H':Hp} {s:Shared} {h':Heap}
end
section
variable {X:Cx}
end
end L2.Internal
namespace L2.Internal
open PySem PySem.Spec PyProof.Rows
section
variable {X:Cx} {pins:List (Addr×Obj)} {σ:St} {H:Hp} {s:Shared}
end
section
variable {X:Cx}
end
section
open PySem.SeqAt
open PySem.AutoSeq1 (wpAny_loadPart')
open PySem.MeetsSeq PySem.MeetsSeq2 PySem.MeetsSeq3
end
section
variable {X:Cx}
end
theorem pj (f:Nat->Int):∀n,argBest (fun i j=>decide (f i>f j)) n<=n/\∀k,k<=n->f k<=f (argBest (fun i j=>decide (f i>f j)) n)
 |0=>⟨c7 _,fun k hk=>by
   have:k=0:=by lia
   subst this
   exact gg _⟩
 |n+ 1=>by
  obtain⟨h1,h2⟩:=pj f n
  rw[argBest]
  by_cases h:f (n+ 1)>f (argBest (fun i j=>decide (f i>f j)) n)
  ·rw[if_pos (decide_eq_true h)]
   refine⟨c7 _,fun k hk=>?_⟩
   by_cases e:k=n+ 1
   ·rw[e];exact gg _
   ·have:=h2 k (by lia)
    lia
  ·rw[if_neg (by simpa using h)]
   refine⟨by lia,fun k hk=>?_⟩
   by_cases e:k=n+ 1
   ·rw[e];lia
   ·exact h2 k (by lia)
section
variable {X:Cx}
theorem yv (hc:X.calm=true):mf X (.builtin "max") (fun xs H Q=>∃(a:Addr) (ns:List Int),xs=[.ref a]/\SqL X.K H a (ns.map V.int)/\ns≠[]/\∀n,n∈ns->(∀m∈ns,m<=n)->Q (.int n) H):=by
 intro pins s σ H xs us Q I r h
 obtain⟨a,ns,rfl,hq,hn,q⟩:=h
 obtain⟨u,rfl,ru⟩:=mj r
 cases ru
 obtain⟨its,rv,p,hz⟩:=I.list hq
 obtain⟨zs,e⟩:=(n5 rv).allInts.items
 have l:=p.isList
 have hlen:=rv.length
 rw[aD]at hlen
 have hsz:zs.size=ns.length:=by
  have h1:=congrArg Array.size e
  simp only[intItems,aV,Array.size_map]at h1
  lia
 have hnum:∀j,j<ns.length->numAt zs j=ns.getD j 0:=fun j hj=>by
  have h1:its.toArray[j]?=(intItems zs)[j]?:=by rw[e]
  obtain⟨v,hv,rv'⟩:=rv.get (show(ns.map V.int)[j]?=some (.int ns[j]) by rw[aM,bx hj];rfl)
  obtain⟨t,rfl⟩:=rv'
  rw[bH,hv]at h1
  obtain⟨t2,e2⟩:=intItems_at h1.symm
  injection e2 with e2 _
  rw[<-e2,bo,bx hj]
  rfl
 have e3:0<ns.length:=List.length_pos_iff.mpr hn
 rw[e]at l
 refine max_intList (I.ok.hd hc) l (by lia) fun v h' tk hv hk=>?_
 obtain⟨t,rfl⟩:=intItems_at hv
 obtain⟨b1,b2⟩:=pj (numAt zs) (zs.size-1)
 refine⟨.int _,H,I.kept (t':=tk) hk,⟨_,rfl⟩,q _ ?_ fun m hm=>?_⟩
 ·rw[hnum _ (by lia),bo,bx (by lia)]
  exact bD _
 ·obtain⟨j,hj⟩:=bI.mp hm
  have hjl:=(au.mp hj).1
  have:=b2 j (by lia)
  rw[hnum j hjl,bo,hj]at this
  exact this
end
section
variable {X:Cx}
end
theorem qD:∀{ys:List Str} {its:List Value},iV (ys.map V.str) its->∃l:List (Str×Tok),its=strValues l/\l.map (·.1)=ys
 |[],its,h=>by
  cases its with
  |nil=>exact⟨[],rfl,rfl⟩
  |cons a b=>exact absurd h.length (by simp)
 |y::ys,its,h=>by
  cases its with
  |nil=>exact absurd h.length (by simp)
  |cons u its=>
   obtain⟨t,rfl⟩:∃t,u= .str y t:=by
    obtain⟨v,hv,r⟩:=h.get (i:=0) (show((y::ys).map V.str)[0]?=some (.str y)from rfl)
    cases hv
    exact r
   obtain⟨l,e1,e2⟩:=qD (ys:=ys) (its:=its) (by
    cases h with
    |cons _ h=>exact h)
   exact⟨(y,t)::l,by rw[e1];rfl,by rw[aC,e2]⟩
section
variable {X:Cx}
def F9 (K:PySem.W.Frag):V->List V->Hp->VK->Prop:=fun x xs H Q=>∃(z:Str) (a:Addr) (ys:List Str),x= .str z/\xs=[.ref a]/\SqL K H a (ys.map V.str)/\(ys.map (·.length)).sum+ys.length*z.length<=sizeLine/\Q (.str (Str.join z ys)) H
theorem yw:MtR X "str.join" (F9 X.K):=by
 intro pins s σ H x xs v us Q I rx rs h
 obtain⟨z,a,ys,rfl,rfl,hq,hz,q⟩:=h
 obtain⟨t,rfl⟩:=rx
 obtain⟨u,rfl,ru⟩:=mj rs
 cases ru
 obtain⟨its,rv,p,_⟩:=I.list hq
 obtain⟨l,e1,e2⟩:=qD rv
 have hl:=p.isList
 rw[e1]at hl
 refine SC.join hl e2 ?_ fun t' k=>?_
 ·unfold JoinOk
  rw[StrLaws.joinTotal]
  have:¬(ys.map (·.length)).sum+ys.length*z.length>sizeLine:=by lia
  show(!Builtin.Str.tooLong _)=true
  unfold Builtin.Str.tooLong
  rw[decide_eq_false this]
  rfl
 ·have e:Txt.join z ys=Str.join z ys:=StrLaws.glued_eq_join z ys
  rw[e]
  exact⟨.str _,H,I.tok k,⟨_,rfl⟩,q⟩
end
section
variable {X:Cx}
end
section
variable {X:Cx}
end
section
variable {prog:Program} {w:World} {A:Around} {E:Value->Shared->Prop} {h:Heap} {g:Array GenState} {d:Drawn} {t:Nat} {os:OsState} {a D:Addr} {o:Obj} {K:PySem.W.Frag}
structure sY (K:PySem.W.Frag) (D:Addr):Prop where
 ga:dR K (.ref D) "__getattribute__"=some (some (.builtin "BaseException.__getattribute__"))
 gn:dR K (.ref D) "__getattr__"=some none
 cl:dR K (.ref D) "__class__"=some (some (.builtin "object.__class__"))
 sb:eU K (.ref D) (.type "BaseException")=some true
 so:eU K (.ref D) (.type "object")=some true
 is:dQ K D=true
theorem Eh {R:Result->Shared->Prop} (X:K.In h) (C:sY K D) (hx:h.get? a=some o) (hc:o.cls= .ref D) (hq:R (.ok (.ret (.ref D))) ⟨h,g,d,t,os⟩):
  codeAny (model prog w) A (.call (.builtin "getset_descriptor.__get__") ⟨[.builtin "object.__class__",.ref a,.ref D],[]⟩) R ⟨h,g,d,t,os⟩:=by
 have hT5:(⟨h,g,d,t,os⟩:Shared).TypeIs (.builtin "object.__class__") "getset_descriptor":=F.typeOf_object_class
 have L:=eV (M:=model prog w) X C.so
 refine codeAny_call_builtin F.slot_gs_get.plain F.entry_gs_get (F.slot_gs_get.check _ _ _ _ _ _ _ _ hT5 (F.args_gs_get _ _ _) ?_)
 repeat(any_goals(first|assumption|(with_reducible refine wpAny_loadPart_at hx ?_;rw[hc])|(rw[F.owner_object_class])|(with_reducible refine L.at ?_)|wp_step))
 refine⟨Code.quiet_builtin _ (by decide+kernel),codeAny_builtin F.entry_object_class ?_⟩
 repeat(any_goals(first|assumption|(with_reducible refine wpAny_loadPart_at hx ?_;rw[hc])|wp_step))
theorem zZ {tk:Tok} {Q:Fin->Shared->Prop} (X:K.In h) (C:sY K D) (hx:h.get? a=some o) (hc:o.cls= .ref D) (hq:Q (.done (.ret (.ref D))) ⟨h,g,d,t,os⟩):
  wpAny (model prog w) A (Builtin.«object.__getattribute__» ⟨[.ref a,.str "__class__" tk],[]⟩) Q E ⟨h,g,d,t,os⟩:=by
 have hT5:(⟨h,g,d,t,os⟩:Shared).TypeIs (.builtin "object.__class__") "getset_descriptor":=F.typeOf_object_class
 have f5:=F.typeOf_object_class
 have f6:=F.slot_gs_get.lookup
 have f7:=F.slot_gs_set.lookup
 have L:=eg (M:=model prog w) X C.cl
 repeat(any_goals(first|assumption|(with_reducible refine wpAny_loadPart_at hx ?_;rw[hc])|(with_reducible refine L.at ?_)|wp_step))
 refine Eh X C hx hc ?_
 repeat(any_goals(first|assumption|wp_step))
theorem vy {M:Model} {nameV:Value} {Q:Unit->Shared->Prop} (X:K.In h) (C:sY K D) (hx:h.get? a=some o) (hc:o.cls= .ref D) (hq:Q () ⟨h,g,d,t,os⟩):wpAny M A (checkBuiltinCall "BaseException.__getattribute__" ⟨[.ref a,nameV],[]⟩) Q E ⟨h,g,d,t,os⟩:=by
 have hk:builtinKind "BaseException.__getattribute__"=some .slot:=by decide+kernel
 have hsplit:splitId "BaseException.__getattribute__"=some ("BaseException","__getattribute__"):=by decide+kernel
 have ha:=F.args_bexc_ga (.ref a) nameV
 have L:=eV (M:=M) X C.sb
 simp only[checkBuiltinCall,hk,hsplit]
 refine wpAny_bind ?_
 ·unfold isInstance
  repeat(first|(with_reducible refine wpAny_loadPart_at hx ?_;rw[hc])|(with_reducible refine L.at ?_)|wp_step)
  exact hq
theorem B4 {tk:Tok} {R:Result->Shared->Prop} (X:K.In h) (C:sY K D) (hx:h.get? a=some o) (hc:o.cls= .ref D) (hq:R (.ok (.ret (.ref D))) ⟨h,g,d,t,os⟩):
  codeAny (model prog w) A (.call (.builtin "BaseException.__getattribute__") ⟨[.ref a,.str "__class__" tk],[]⟩) R ⟨h,g,d,t,os⟩:=
 codeAny_call_builtin F.excAttr_ValueError.ga.plain F.entry_bexc_ga (vy X C hx hc (zZ X C hx hc hq))
theorem Ga {tk:Tok} {fill expr:Bool} {Q:Value->Shared->Prop} (X:K.In h) (C:sY K D) (hx:h.get? a=some o) (hc:o.cls= .ref D) (hq:Q (.ref D) ⟨h,g,d,t,os⟩):
  wpAny (model prog w) A (getAttrBy (.ref a) (.str "__class__" tk) fill expr) Q E ⟨h,g,d,t,os⟩:=by
 have f3:=F.excAttr_ValueError.ga.bind (.ref a)
 have hx0:(expr&&onTheHeap (Value.builtin "BaseException.__getattribute__"))=false:=by cases expr<;>rfl
 have hx2:(Value.builtin "BaseException.__getattribute__"==Value.builtin "object.__getattribute__")=false:=by decide+kernel
 have hx1:(onTheHeap (Value.ref D)&&Value.builtin "BaseException.__getattribute__"==Value.builtin "object.__getattribute__")=false:=by rw[hx2];rfl
 have L1:=eg (M:=model prog w) X C.ga
 have L2.Internal:=eg (M:=model prog w) X C.gn
 repeat(any_goals(first|assumption|(with_reducible refine wpAny_loadPart_at hx ?_;rw[hc])|(with_reducible refine L1.at ?_)|(with_reducible refine L2.Internal.at ?_)|wp_step))
 refine B4 X C hx hc ?_
 repeat(any_goals(first|assumption|wp_step))
theorem B5 {Q:Option Value->Shared->Prop} (X:K.In h) (C:sY K D) (hx:h.get? a=some o) (hc:o.cls= .ref D) (hq:Q (some (.ref D)) ⟨h,g,d,t+ 1,os⟩):wpAny (model prog w) A (getAttr? (.ref a) "__class__") Q E ⟨h,g,d,t,os⟩:=by
 unfold getAttr? getAttrBy?
 repeat(any_goals(first|assumption|with_reducible apply Ga X C hx hc|wp_step))
theorem vz (C:sY K D):PySem.W.KitX K (.ref a) (.ref D) (fun h=>∃o,h.get? a=some o/\o.cls= .ref D) where
 ty:=fun M h _ ⟨o,e,c⟩=>by
  have z:PySem.W.Looks M h (typeOf (.ref a)) o.cls:=(PySem.W.Looks.ld e).andThen .now
  rw[c]at z
  exact z
 it:=fun _ _ X _=>by
  obtain⟨cd,hc,_⟩:=dZ C.is
  unfold eW at hc
  split at hc
  ·rename_i c' d' cd' sl' ho
   intro A' Q' E' s' k q
   unfold isType loadHead
   exact wpAny_bind (wpAny_loadPart (k _ _ (X _ _ ho)) (wpAny_pure q))
  ·cases hc
 ne:=fun h tp dd its n sl X htp=>by
  obtain⟨cd,hc,_⟩:=dZ C.is
  refine Bool.eq_false_iff.mpr fun q=>?_
  have e:D=tp:=Value.ref.inj (beq_iff_eq.mp q)
  subst e
  unfold eW at hc
  split at hc
  ·rename_i c' d' cd' sl' ho
   have z:=(X _ _ ho).symm.trans htp
   cases z
  ·cases hc
 ca:=fun{_ _ _ _ _ s} X ⟨o,e,c⟩ k=>by
  obtain⟨h,g,d,t,os⟩:=s
  exact B5 X C e c k
end
section
variable {X:Cx}
end
open Sem (wp)
def DK (h h':Heap):Prop:=∀b o,h.get? b=some o->∃o',h'.get? b=some o'/\o'.dict=o.dict/\o'.cls=o.cls
theorem DK.refl (h:Heap):DK h h:=fun _ o e=>⟨o,e,rfl,rfl⟩
theorem DK.trans {h h1 h2:Heap} (a:DK h h1) (b:DK h1 h2):DK h h2:=fun x o e=>by
 obtain⟨o1,e1,d1,c1⟩:=a x o e
 obtain⟨o2,e2,d2,c2⟩:=b x o1 e1
 exact⟨o2,e2,d2.trans d1,c2.trans c1⟩
def Gb (f:Obj->Obj):Prop:=∀o,(f o).dict=o.dict/\(f o).cls=o.cls/\(o.isFreed=false->(f o).isFreed=false)
theorem DK.upd {h:Heap} {a:Addr} {f:Obj->Obj} (m:Gb f):DK h (h.update a f):=fun b o e=>by
 by_cases q:a=b
 ·subst q
  exact⟨f o,gx f e ((m o).2.2 (Heap.get?_some_iff.mp e).2),(m o).1,(m o).2.1⟩
 ·exact⟨o,(gy _ f q).trans e,rfl,rfl⟩
theorem DK.push {h:Heap} (o:Obj):DK h (h.push o):=fun b u e=>⟨u,gv _ e,rfl,rfl⟩
def lV {α:Type}:Sem α->Prop
 | .pure _=>True
 | .raise _=>True
 | .unsupported _=>True
 | .finish _=>True
 | .rule _ k=>lV (k ())
 | .at _ k=>lV (k ())
 | .load _ _ k=>∀o,lV (k o)
 | .update _ _ f k=>Gb f/\lV (k ())
 | .loadIfAlive _ k=>∀o,lV (k o)
 | .point _ k=>lV (k ())
 | .alloc _ k=>∀a,lV (k a)
 | .fresh k=>∀a,lV (k a)
 | .ask k=>∀a,lV (k a)
 | .stack k=>∀a,lV (k a)
 | .handled _ k=>∀a,lV (k a)
 |_=>False
theorem yy {α β:Type} {f:α->Sem β} (hf:∀a,lV (f a)):∀{t:Sem α},lV t->lV (t.bind f):=by
 intro t
 induction t with
 |pure a=>intro _;exact hf a
 |raise e=>intro _;trivial
 |unsupported e=>intro _;trivial
 |finish e=>intro _;trivial
 |rule t k ih=>exact fun h=>ih () h
 |«at» p k ih=>exact fun h=>ih () h
 |load a p k ih=>exact fun h o=>ih o (h o)
 |update a p g k ih=>exact fun h=>⟨h.1,ih () h.2⟩
 |loadIfAlive a k ih=>exact fun h o=>ih o (h o)
 |point l k ih=>exact fun h=>ih () h
 |alloc o k ih=>exact fun h a=>ih a (h a)
 |fresh k ih=>exact fun h a=>ih a (h a)
 |ask k ih=>exact fun h a=>ih a (h a)
 |stack k ih=>exact fun h a=>ih a (h a)
 |handled o k ih=>exact fun h a=>ih a (h a)
 |_=>intro h;exact absurd h (by unfold lV;exact fun z=>z)
theorem B6 {α:Type} {M:Model} {Γ:PySem.Ctx} {t:Sem α}:lV t->∀{Q:α->Pos->Shared->Prop} {E:Value->Pos->Shared->Prop} {p:Pos} {s:Shared},wp M Γ t Q E p s->wp M Γ t (fun a q s'=>Q a q s'/\DK s.heap s'.heap) (fun e q s'=>E e q s'/\DK s.heap s'.heap) p s:=by
 induction t with
 |pure a=>intro _ Q E p s h;rw[wp]at h⊢;exact⟨h,DK.refl _⟩
 |raise e=>intro _ Q E p s h;rw[wp]at h⊢;exact⟨h,DK.refl _⟩
 |unsupported e=>intro _ Q E p s h;rw[wp]at h;exact h.elim
 |finish e=>intro _ Q E p s h;rw[wp]at h;exact h.elim
 |rule t k ih=>intro m Q E p s h;rw[wp]at h⊢;exact ih () m h
 |«at» p' k ih=>intro m Q E p s h;rw[wp]at h⊢;exact ih () m h
 |load a pp k ih=>intro m Q E p s h;rw[wp]at h⊢;obtain⟨o,e,h⟩:=h;exact⟨o,e,ih o (m o) h⟩
 |update a pp g k ih=>
  intro m Q E p s h
  rw[wp]at h⊢
  refine⟨h.1,?_⟩
  have z:=ih () m.2 h.2
  have d:DK s.heap (s.heap.update a g):=DK.upd m.1
  exact Sem.wp_mono _ _ _ (fun a q s' x=>⟨x.1,d.trans x.2⟩) (fun a q s' x=>⟨x.1,d.trans x.2⟩) _ _ z
 |loadIfAlive a k ih=>intro m Q E p s h;rw[wp]at h⊢;exact ih _ (m _) h
 |point l k ih=>intro m Q E p s h;rw[wp]at h⊢;exact ih () m h
 |alloc o k ih=>
  intro m Q E p s h
  rw[wp]at h⊢
  have z:=ih _ (m _) h
  have d:DK s.heap (s.heap.push o):=DK.push o
  exact Sem.wp_mono _ _ _ (fun a q s' x=>⟨x.1,d.trans x.2⟩) (fun a q s' x=>⟨x.1,d.trans x.2⟩) _ _ z
 |fresh k ih=>intro m Q E p s h;rw[wp]at h⊢;exact ih _ (m _) h
 |ask k ih=>intro m Q E p s h;rw[wp]at h⊢;exact ih _ (m _) h
 |stack k ih=>intro m Q E p s h;rw[wp]at h⊢;exact ih _ (m _) h
 |handled o k ih=>intro m Q E p s h;rw[wp]at h⊢;exact ih _ (m _) h
 |_=>intro h;exact absurd h (by unfold lV;exact fun z=>z)
theorem oG {α:Type} {M:Model} {A:Around} {t:Sem α} {Q:α->Shared->Prop} {E:Value->Shared->Prop} {s:Shared} (T:lV t) (h:wpAny M A t Q E s):wpAny M A t (fun a s'=>Q a s'/\DK s.heap s'.heap) (fun e s'=>E e s'/\DK s.heap s'.heap) s:=fun Γ p hΓ=>B6 T (h Γ p hΓ)
theorem iI {α β:Type} {t:Sem α} {f:α->Sem β} (h:lV t) (hf:∀a,lV (f a)):lV (t >>= f):=yy hf h
theorem j9 {α:Type} (a:α):lV (pure a:Sem α):=trivial
theorem nM {α:Type} (x:String):lV (unsupported x:Sem α):=trivial
theorem uD (a:Addr):lV (load a):=fun _=>trivial
theorem qY:lV stack:=fun _=>trivial
theorem yz (v:Value):lV (fieldsOf v):=by
 unfold fieldsOf
 split
 ·refine iI (uD _) fun o=>?_
  split
  ·exact j9 _
  ·exact nM _
 ·exact nM _
theorem nN (v:Value) (i:Nat):lV (field v i):=by
 unfold field
 refine iI (yz _) fun vs=>?_
 split
 ·exact j9 _
 ·exact nM _
theorem uE (f:Array Value->Array Value):Gb (Obj.mapFields f):=fun o=>by
 obtain⟨c,d,dt,sl⟩:=o
 cases dt<;>exact⟨rfl,rfl,fun h=>h⟩
theorem l8 (v:Value) (i:Nat) (x:Value):lV (setField v i x):=by
 unfold setField
 split
 ·unfold updateField
  refine iI (uD _) fun o=>?_
  split
  ·split
   ·exact⟨uE _,trivial⟩
   ·exact nM _
  ·exact nM _
 ·exact nM _
theorem mr (e:Value) (o:Option Addr):lV (setFlight e o):=by
 unfold setFlight
 refine iI (nN _ _) fun tb=>?_
 split
 ·exact l8 _ _ _
 ·exact j9 _
theorem yA (env:Env) (outer:List Env):lV (behindIsImport env outer):=by
 unfold behindIsImport
 repeat(first|exact j9 _|exact nN _ _|refine iI (nN _ _) fun _=>?_|split)
theorem yB:lV underTheClaimsCaller:=iI qY fun _=>j9 _
theorem B7 (env:Env) (b:Bool) (l:List Env):lV (keptBack env b l):=by
 cases l with
 |nil=>
  simp only[keptBack]
  split
  ·exact j9 _
  ·exact iI yB fun _=>j9 _
 |cons c l=>exact j9 _
theorem vA:∀l:List Env,lV (readyFrames l)
 |[]=>trivial
 |env::outer=>by
  unfold readyFrames
  split
  ·refine iI (uD _) fun o=>?_
   split
   ·exact j9 _
   ·refine iI (yA _ _) fun b=>iI (B7 _ _ _) fun bk=>iI ⟨fun o=>⟨rfl,rfl,fun h=>?_⟩,trivial⟩ fun _=>vA outer
    obtain⟨c,d,dt,sl⟩:=o
    cases dt<;>exact h
  ·exact nM _
theorem uF (l:List Env):lV (frameObject l):=by
 cases l with
 |nil=>trivial
 |cons e l=>exact iI (vA _) fun _=>j9 _
theorem B8:lV frameEnvs:=iI qY fun _=>j9 _
theorem qE (env:Env):lV (PySem.frameOf env):=by
 unfold PySem.frameOf
 refine iI B8 fun l=>iI (uF _) fun o=>?_
 split
 ·exact j9 _
 ·exact nM _
theorem vB (f:Addr) (b:Bool):lV (entryPlaceOf f b):=by
 unfold entryPlaceOf
 refine iI qY fun acts=>?_
 split<;>exact j9 _
theorem B9 (ty:String) (xs:Array Value):lV (newObj (.type ty) (.fields xs)):=by
 unfold newObj
 dsimp only
 split
 ·trivial
 ·exact fun _=>trivial
theorem vC (a b c d e:Value) (l:List Value):lV (EntryCells.newEntry a b c d e l):=B9 _ _
theorem yC (e:Value) (env:Env):lV (noteFrame e env):=by
 unfold noteFrame
 split
 ·refine iI (nN _ _) fun head=>?_
  split
  ·refine iI (nN _ _) fun x=>?_
   split
   ·exact j9 _
   ·exact iI (l8 _ _ _) fun _=>iI (qE _) fun _=>iI (vB _ _) fun _=>iI (vC _ _ _ _ _ _) fun _=>l8 _ _ _
  ·exact iI (qE _) fun _=>iI (vB _ _) fun _=>iI (vC _ _ _ _ _ _) fun _=>l8 _ _ _
 ·exact nM _
theorem wO (env:Env) (e:Value):lV (leaving env e):=iI (yC _ _) fun _=>mr _ _
section
variable {prog:Program} {w:World} {A:Around} {E:Value->Shared->Prop} {h:Heap} {g:Array GenState} {d:Drawn} {t:Nat} {os:OsState} {a D dx:Addr} {o:Obj} {K:PySem.W.Frag} {name:Str} {v:Value} {mA:Str->Option Value}
theorem A9 {K:PySem.W.Frag} {D:Addr} {h:Heap} (X:K.In h) (z:dQ K D=true):∃oc cd,h.get? D=some oc/\oc.data= .cls cd/\cd.hasDict=true:=by
 obtain⟨cd,hc,hh⟩:=dZ z
 unfold eW at hc
 split at hc
 ·rename_i c' d' cd' sl' ho
  cases hc
  exact⟨_,_,X _ _ ho,rfl,hh⟩
 ·cases hc
theorem z8 {tk:Tok} {Q:Fin->Shared->Prop} (X:K.In h) (C:sY K D) (hn:dR K (.ref D) name=some none) (hx:h.get? a=some o) (hc:o.cls= .ref D) (hdt:∀c,o.data≠ .cls c) (hd:o.dict=some dx) (hN:h.Ns dx mA) (hv:mA name=some v) (hq:Q (.done (.ret v)) ⟨h,g,d,t,os⟩):
  wpAny (model prog w) A (Builtin.«object.__getattribute__» ⟨[.ref a,.str name tk],[]⟩) Q E ⟨h,g,d,t,os⟩:=by
 have L:=eg (M:=model prog w) X hn
 repeat(any_goals(first|assumption|(with_reducible refine wpAny_loadPart_at hx ?_;first|rw[hc]|rw[hd])|(with_reducible refine L.at ?_)|wp_step))
 split
 ·rename_i c z
  exact absurd z (hdt c)
 obtain⟨oc,cd,eD,hcd,hdc⟩:=A9 X C.is
 unfold instanceDict
 repeat(any_goals(first|assumption|(with_reducible refine wpAny_loadPart_at hx ?_;rw[hc])|(with_reducible refine wpAny_load eD ?_;rw[hcd])|wp_step))
 rw[hd]
 repeat(any_goals(first|assumption|(with_reducible refine wpAny_nsGet hN ?_;rw[hv])|wp_step))
theorem Ca {tk:Tok} {R:Result->Shared->Prop} (X:K.In h) (C:sY K D) (hn:dR K (.ref D) name=some none) (hx:h.get? a=some o) (hc:o.cls= .ref D) (hdt:∀c,o.data≠ .cls c) (hd:o.dict=some dx) (hN:h.Ns dx mA) (hv:mA name=some v) (hq:R (.ok (.ret v)) ⟨h,g,d,t,os⟩):
  codeAny (model prog w) A (.call (.builtin "BaseException.__getattribute__") ⟨[.ref a,.str name tk],[]⟩) R ⟨h,g,d,t,os⟩:=
 codeAny_call_builtin F.excAttr_ValueError.ga.plain F.entry_bexc_ga (vy X C hx hc (z8 X C hn hx hc hdt hd hN hv hq))
theorem Gd {tk:Tok} {fill expr:Bool} {Q:Value->Shared->Prop} (X:K.In h) (C:sY K D) (hn:dR K (.ref D) name=some none) (hx:h.get? a=some o) (hc:o.cls= .ref D) (hdt:∀c,o.data≠ .cls c) (hd:o.dict=some dx) (hN:h.Ns dx mA) (hv:mA name=some v) (hh:dS v=true) (hq:Q v ⟨h,g,d,t,os⟩):
  wpAny (model prog w) A (getAttrBy (.ref a) (.str name tk) fill expr) Q E ⟨h,g,d,t,os⟩:=by
 have f3:=F.excAttr_ValueError.ga.bind (.ref a)
 have hx0:(expr&&onTheHeap (Value.builtin "BaseException.__getattribute__"))=false:=by cases expr<;>rfl
 have hx2:(Value.builtin "BaseException.__getattribute__"==Value.builtin "object.__getattribute__")=false:=by decide+kernel
 have hx1:(onTheHeap (Value.ref D)&&Value.builtin "BaseException.__getattribute__"==Value.builtin "object.__getattribute__")=false:=by rw[hx2];rfl
 have L1:=eg (M:=model prog w) X C.ga
 have L2.Internal:=eg (M:=model prog w) X C.gn
 repeat(any_goals(first|assumption|(with_reducible refine wpAny_loadPart_at hx ?_;rw[hc])|(with_reducible refine L1.at ?_)|(with_reducible refine L2.Internal.at ?_)|wp_step))
 refine Ca X C hn hx hc hdt hd hN hv ?_
 exact PySem.W.handed_on hh hq
theorem Cb {expr:Bool} {Q:Value->Shared->Prop} (X:K.In h) (C:sY K D) (hn:dR K (.ref D) name=some none) (hx:h.get? a=some o) (hc:o.cls= .ref D) (hdt:∀c,o.data≠ .cls c) (hd:o.dict=some dx) (hN:h.Ns dx mA) (hv:mA name=some v) (hh:dS v=true) (hq:Q v ⟨h,g,d,t+ 1,os⟩):
  wpAny (model prog w) A (getAttr (.ref a) name expr) Q E ⟨h,g,d,t,os⟩:=by
 unfold getAttr
 repeat(any_goals(first|assumption|with_reducible apply Gd X C hn hx hc hdt hd hN hv hh|wp_step))
end
open Builtin Builtin.ObjectAttr
section
variable {prog:Program} {w:World} {A:Around} {E:Value->Shared->Prop} {h:Heap} {g:Array GenState} {d:Drawn} {t:Nat} {os:OsState} {a D dx:Addr} {o:Obj} {K:PySem.W.Frag} {name:Str} {v:Value} {mA:Str->Option Value} {cd:ClassData} {vs:Array Value}
structure Dr (K:PySem.W.Frag) (D:Addr):Prop where
 xc:sY K D
 sa:dR K (.ref D) "__setattr__"=some (some (.builtin "object.__setattr__"))
 mro:∃cd,eW K D=some cd/\cd.hasDict=true/\∀self,refuseLoop self "__setattr__" cd.mro=pure ()
theorem Cc {tk:Tok} {R:Result->Shared->Prop} (X:K.In h) (C:Dr K D) (hn:dR K (.ref D) name=some none) (hx:h.get? a=some o) (hc:o.cls= .ref D) (hdt:o.data= .fields vs) (hd:o.dict=none)
  (hq:∀h' tk',h'.get? a=some {o with dict:=some h.objs.size}->h'.Ns1 h.objs.size (fun y=>if y=name then some v else none)->(∀b ob,b≠a->h.get? b=some ob->h'.get? b=some ob)->R (.ok (.ret .none)) ⟨h',g,d,tk',os⟩):
  codeAny (model prog w) A (.call (.builtin "object.__setattr__") ⟨[.ref a,.str name tk,v],[]⟩) R ⟨h,g,d,t,os⟩:=by
 obtain⟨cd,hcd,hdc,hr⟩:=C.mro
 have SF:=fA
 have LT:∀M:Model,PySem.W.Looks M h (typeOf (.ref a)) (.ref D):=fun M=>by
  have z:PySem.W.Looks M h (typeOf (.ref a)) o.cls:=(PySem.W.Looks.ld hx).andThen .now
  rw[hc]at z
  exact z
 have sub:PySem.W.Looks (model prog w) h (isInstance (.ref a) (.type "object")) true:=(LT _).andThen (eV X C.xc.so)
 refine codeAny_call_builtin SF.slot.plain SF.entry (@PySem.W.check_slot (model prog w) _ _ ⟨h,g,d,t,os⟩ "object.__setattr__" "object" "__setattr__" (.ref a) [.str name tk,v] [] _ SF.kind SF.split sub (SF.args (.ref a) (.str name tk) v) ?_)
 have hm:PySem.W.Looks (model prog w) h (mroOf (.ref D)) cd.mro:=(d6 X hcd).andThen .now
 rw[PySem.W.osa_eq,refuse_eq]
 refine wpAny_bind (wpAny_bind ((LT _).here (wpAny_bind (hm.here ?_))))
 rw[hr]
 refine wpAny_pure (wpAny_bind ((LT _).here (wpAny_bind ((eg X hn).here (wpAny_bind (wpAny_pure ?_))))))
 obtain⟨oc,cd',eD,hcd',hdc'⟩:=A9 X C.xc.is
 show wpAny _ _ (storeInOwnDict (.ref a) (.ref D) (.str name tk) name v false) _ _ _
 unfold storeInOwnDict ownDictForStores
 repeat(any_goals(first|assumption|(with_reducible refine wpAny_loadPart_at hx ?_;rw[hc])|(with_reducible refine wpAny_load eD ?_;rw[hcd'])|wp_step))
 rw[hd]
 dsimp only
 rw[if_neg (show ¬(!true||!typeHasDict (Value.ref D))=true from by simp[typeHasDict]),hdt]
 have ea:a≠h.objs.size:=cW (gq hx)
 have e1:(h.push {cls:= .type "dict",data:= .dict #[]}).get? a=some o:=gv _ hx
 refine wpAny_bind (wpAny_alloc' (wpAny_bind (wpAny_update' e1 ?_)))
 generalize hh:(h.push {cls:= .type "dict",data:= .dict #[]}).update a (fun o=>{cls:=o.cls,dict:=some h.objs.size,data:=o.data,slots:=o.slots})=h2
 have fo:({cls:=o.cls,dict:=some h.objs.size,data:=o.data,slots:=o.slots}:Obj).isFreed=false:=by
  obtain⟨q1,q2,q3,q4⟩:=o
  dsimp only at hdt
  rw[hdt]
  rfl
 have g1:h2.get? a=some {cls:=o.cls,dict:=some h.objs.size,data:=o.data,slots:=o.slots}:=by rw[<-hh];exact gx _ e1 fo
 have g2:h2.get? h.objs.size=some {cls:= .type "dict",data:= .dict #[]}:=by rw[<-hh,gy _ _ ea];exact gr _ rfl
 have g3:∀b ob,b≠a->h.get? b=some ob->h2.get? b=some ob:=fun b ob n q=>by rw[<-hh,gy _ _ n.symm];exact gv _ q
 have n1:h2.Ns h.objs.size (fun _=>none):=⟨_,#[],_,g2,rfl,fun e he=>absurd he (by simp),fun _=>rfl⟩
 refine wpAny_pure (a:=some h.objs.size) ?_
 show wpAny _ _ (storeInDict h.objs.size (.str name tk) name v) _ _ _
 unfold storeInDict newKeyGuard
 refine wpAny_bind (wpAny_pure (wpAny_bind (wpAny_nsSet1 (Heap.Ns1.of_empty n1) fun h3 n3 sb=>?_)))
 obtain⟨oD,es,ep,k1,k2,k3⟩:=n3.count (Within.cons name v Within.nil)
 refine wpAny_bind (wpAny_lookBehind k1 (by rw[k2];exact pastItsLine_dict (cX k3 (by rw[sizeLine_eq,aA,aT];lia))) ?_)
 refine wpAny_pure (hq h3 _ ?_ ?_ fun b ob n q=>(sb.2 b (cW (gq q))).trans (g3 b ob n q))
 ·rw[sb.2 a ea,g1]
 ·exact n3
theorem Cd {Q:Unit->Shared->Prop} (X:K.In h) (C:Dr K D) (hn:dR K (.ref D) name=some none) (hx:h.get? a=some o) (hc:o.cls= .ref D) (hdt:o.data= .fields vs) (hd:o.dict=none)
  (hq:∀h' tk',h'.get? a=some {o with dict:=some h.objs.size}->h'.Ns1 h.objs.size (fun y=>if y=name then some v else none)->(∀b ob,b≠a->h.get? b=some ob->h'.get? b=some ob)->Q () ⟨h',g,d,tk',os⟩):
  wpAny (model prog w) A (setAttr (.ref a) name v) Q E ⟨h,g,d,t,os⟩:=by
 have f3:=fA.slot.bind (.ref a)
 have L:=eg (M:=model prog w) X C.sa
 unfold setAttr callSpecial? specialOf
 repeat(any_goals(first|assumption|(with_reducible refine wpAny_loadPart_at hx ?_;rw[hc])|(with_reducible refine L.at ?_)|wp_step))
 refine Cc X C hn hx hc hdt hd fun h' tk' k1 k2 k3=>?_
 repeat(any_goals(first|assumption|wp_step))
 exact hq h' tk' k1 k2 k3
end
section
variable {prog:Program} {w:World} {A:Around} {E:Value->Shared->Prop} {h:Heap} {g:Array GenState} {d:Drawn} {t:Nat} {os:OsState}
variable {nm q:Str} {C N:Addr} {bs bm bmB:List Value} {hdct:Bool} {sn:List Str} {sub:List Value} {ab:Bool} {col:Option Bool} {dd:Option Addr} {k0 k1 k2 k3 k5:Option Value} {B newId initId:String}
theorem Ce {mN:Str->Option Value} {rest:List Value} {fI:Addr} {oI:Obj} {Q:Fin->Shared->Prop} (F:ExcBaseFacts B newId initId bmB) (T:OwnTail h bmB bm)
  (eC:h.get? C=some (excClassObj nm q C N bs bm hdct sn sub ab col dd k0 k1 k2 k3 k5 newId)) (hn:h.Ns N mN) (hi:mN "__init__"=some (.ref fI)) (ho:h.get? fI=some oI) (hf:oI.cls= .type "function") (hl:rest.length<=sizeLine)
  (hq:∀h' e,Heap.MadeExcOf h h' e (.ref C) rest->wpAny (model prog w) A (call (.ref fI) (.ref e::rest)) (fun r s'=>r= .none/\Q (.done (.ret (.ref e))) s') E ⟨h',g,d,t,os⟩):
  wpAny (model prog w) A (Builtin.«type.__call__» ⟨.ref C::rest,[]⟩) Q E ⟨h,g,d,t,os⟩:=by
 repeat(first|with_reducible refine wpAny_loadPart_at eC ?_|with_reducible refine wpAny_madeBy_exc eC ?_|wp_step)
 refine codeAny_call_builtin_code (Code.quiet_builtin _ F.quiet) (wpAny_check_new_subT F T eC (codeAny_exc_new_subT F T eC ?_ hl))
 have up:∀b u,h.get? b=some u->((h.push {cls:= .type "tuple",data:= .seq rest.toArray}).push {cls:= .ref C,data:= .fields #[.ref h.objs.size,.none,.none,.none,.bool false,.none]}).get? b=some u:=fun b u e=>gv _ (gv _ e)
 have ee:((h.push {cls:= .type "tuple",data:= .seq rest.toArray}).push {cls:= .ref C,data:= .fields #[.ref h.objs.size,.none,.none,.none,.bool false,.none]}).get? (h.objs.size+ 1)=some {cls:= .ref C,data:= .fields #[.ref h.objs.size,.none,.none,.none,.bool false,.none]}:=by
  have z:=gr (h.push {cls:= .type "tuple",data:= .seq rest.toArray}) (o:={cls:= .ref C,data:= .fields #[.ref h.objs.size,.none,.none,.none,.bool false,.none]}) rfl
  rwa[gw]at z
 have et:((h.push {cls:= .type "tuple",data:= .seq rest.toArray}).push {cls:= .ref C,data:= .fields #[.ref h.objs.size,.none,.none,.none,.bool false,.none]}).get? h.objs.size=some {cls:= .type "tuple",data:= .seq rest.toArray}:=gv _ (gr _ rfl)
 show wpAny _ _ _ _ _ _
 generalize hg:(h.push {cls:= .type "tuple",data:= .seq rest.toArray}).push {cls:= .ref C,data:= .fields #[.ref h.objs.size,.none,.none,.none,.bool false,.none]}=h2 at up ee et
 have n2:h2.Ns N mN:=by
  obtain⟨o,es,ep,e,r⟩:=hn
  exact⟨o,es,ep,up _ _ e,r⟩
 have cc:(Value.ref C::bm).contains (.ref C)=true:=by simp
 unfold isInstance
 repeat(first|with_reducible refine wpAny_loadPart_at ee ?_|(with_reducible refine wpAny_isSubtype_exc (up _ _ eC) ?_;rw[cc])|wp_step)
 show wpAny _ _ (typeLookup (Value.ref C) _) _ _ _
 refine wpAny_typeLookup_tail (up _ _ eC) n2 (T.keeps up) F.mroIs F.init.lookup ?_
 rw[hi]
 refine wpAny_holding (wpAny_bind ?_);unfold bindSpecial
 refine wpAny_bind (wpAny_typeOf (T:="function") ⟨_,up _ _ ho,hf⟩ ?_)
 rw[if_pos (by decide)]
 refine wpAny_pure (wpAny_bind (wpAny_mono (hq h2 (h.objs.size+ 1) ⟨up,gu (dc _),h.objs.size,ee,gu (c7 _),et⟩) (fun r s' hr=>?_) fun _ _ z=>z))
 obtain⟨rfl,hQ⟩:=hr
 wp_walk
 exact hQ
theorem Cf {mN:Str->Option Value} {rest:List Value} {fI:Addr} {oI:Obj} {Q:Value->Shared->Prop} (F:ExcBaseFacts B newId initId bmB) (T:OwnTail h bmB bm)
  (eC:h.get? C=some (excClassObj nm q C N bs bm hdct sn sub ab col dd k0 k1 k2 k3 k5 newId)) (hn:h.Ns N mN) (hi:mN "__init__"=some (.ref fI)) (ho:h.get? fI=some oI) (hf:oI.cls= .type "function") (hl:rest.length<=sizeLine)
  (hq:∀h' e,Heap.MadeExcOf h h' e (.ref C) rest->wpAny (model prog w) (A.under (.builtin "type.__call__" ⟨.ref C::rest,[]⟩)) (call (.ref fI) (.ref e::rest)) (fun r s'=>r= .none/\Q (.ref e) s') E ⟨h',g,d,t,os⟩):
  wpAny (model prog w) A (call (.ref C) rest) Q E ⟨h,g,d,t,os⟩:=by
 have f1:=tc_lookup
 have f2:=tc_bind (.ref C)
 have ty:(⟨h,g,d,t,os⟩:Shared).TypeIs (.ref C) "type":=⟨_,eC,rfl⟩
 refine wpAny_call (codeAny_of_tree ?_)
 show wpAny _ _ (callAny (Value.ref C) _) _ _ _
 repeat(any_goals(first|assumption|with_reducible refine wpAny_loadPart_at eC ?_|wp_step))
 refine⟨rfl,?_⟩
 exact codeAny_call_builtin_at (Code.quiet_builtin _ (by decide+kernel)) entry_typeCall (wpAny_check_type_call_sub eC (Ce F T eC hn hi ho hf hl fun h' e hm=>hq h' e hm))
end
section
variable {prog:Program} {w:World} {A:Around} {E:Value->Shared->Prop} {s:Shared} {env:Env}
variable {nm q:Str} {C N:Addr} {bs bm bmB:List Value} {hdct:Bool} {sn:List Str} {sub:List Value} {ab:Bool} {col:Option Bool} {dd:Option Addr} {k0 k1 k2 k3 k5:Option Value} {B newId initId:String}
theorem Cg {x:Sem Value} {Q:Flow->Shared->Prop} (hb:bm.contains (.type "BaseException")=true) (hh:A.handled=none)
  (h:wpAny (model prog w) A x (fun v s1=>∃e oe,v= .ref e/\s1.heap.get? C=some (excClassObj nm q C N bs bm hdct sn sub ab col dd k0 k1 k2 k3 k5 newId)/\s1.heap.get? e=some oe/\oe.cls= .ref C/\(∃vs,oe.data= .fields vs/\vs[1]?=some .none)/\E (.ref e) s1) E s):
  wpAny (model prog w) A (raiseStmt env (some x) none) Q E s:=by
 have hB:(Value.ref C::bm).contains (.type "BaseException")=true:=by rw[List.contains_cons,hb];exact Bool.or_true _
 unfold raiseStmt
 refine wpAny_bind (wpAny_mono h (fun v s1 h1=>?_) fun _ _ z=>z)
 obtain⟨e,oe,rfl,eC,he,hc,⟨vs,hv,h1⟩,hE⟩:=h1
 obtain⟨hp,g,d,tk,os⟩:=s1
 obtain⟨oc,od,odt,osl⟩:=oe
 dsimp only at hc hv
 subst hc hv
 repeat(first|with_reducible refine wpAny_loadPart_at he ?_|with_reducible refine wpAny_loadPart_at eC ?_|(with_reducible refine wpAny_isSubtype_exc eC ?_;rw[hB])|wp_step)
 rw[h1]
 refine wpAny_pure ?_
 rw[if_neg (by decide)]
 exact wpAny_pure (wpAny_raiseNew_none hh hE)
theorem z9 {mN:Str->Option Value} {x:Str} {np cpos pos:Pos} {args:List Expr} {Q:Flow->Shared->Prop} {fI:Addr} (F:ExcBaseFacts B newId initId bmB)
  (hb:bm.contains (.type "BaseException")=true) (hh:A.handled=none) (hp:(backTo cpos (starEach args env)).any (·.1)=false) (hi:mN "__init__"=some (.ref fI))
  (h:wpAny (model prog w) A (eval (.Name x np) env) (fun f s1=>f= .ref C/\wpAny (model prog w) A (evalArgs (.ref C) true (backTo cpos (starEach args env)) [])
   (fun a s2=>a.kw=[]/\a.pos.length<=sizeLine/\s2.heap.get? C=some (excClassObj nm q C N bs bm hdct sn sub ab col dd k0 k1 k2 k3 k5 newId)/\s2.heap.Ns N mN/\OwnTail s2.heap bmB bm/\(∃oI,s2.heap.get? fI=some oI/\oI.cls= .type "function")/\
    ∀h' e,Heap.MadeExcOf s2.heap h' e (.ref C) a.pos->wpAny (model prog w) (A.under (.builtin "type.__call__" ⟨.ref C::a.pos,[]⟩)) (call (.ref fI) (.ref e::a.pos)) (fun r s3=>r= .none/\s3.heap.get? C=some (excClassObj nm q C N bs bm hdct sn sub ab col dd k0 k1 k2 k3 k5 newId)/\(∃oe,s3.heap.get? e=some oe/\oe.cls= .ref C/\∃vs,oe.data= .fields vs/\vs[1]?=some .none)/\E (.ref e) s3) E {s2 with heap:=h'}) E s1) E s):
  wpAny (model prog w) A (exec (.Raise (some (.Call (.Name x np) args [] cpos)) none pos) env) Q E s:=by
 rw[arm_exec_Raise]
 refine wpAny_bind (wpAny_standAt (Cg (C:=C) (nm:=nm) (q:=q) (N:=N) (bs:=bs) (bm:=bm) (hdct:=hdct) (sn:=sn) (sub:=sub) (ab:=ab) (col:=col) (dd:=dd) (k0:=k0) (k1:=k1) (k2:=k2) (k3:=k3) (k5:=k5) (newId:=newId) hb hh ?_))
 refine wpAny_bind (wpAny_mono (wpAny_Call_ofName (wpAny_mono h (fun f s1 h1=>?_) fun _ _ z=>z)) (fun v s3 h3=>wpAny_bind (wpAny_standAt (wpAny_pure h3))) fun _ _ z=>z)
 obtain⟨rfl,h1⟩:=h1
 unfold callWith
 refine wpAny_bind (wpAny_holding (wpAny_mono h1 (fun a s2 h2=>wpAny_bind (wpAny_standAt ?_)) fun _ _ z=>z))
 obtain⟨ap,ak⟩:=a
 obtain⟨hk,hl,eC,hn,T,⟨oI,e1,e2⟩,h2⟩:=h2
 obtain rfl:ak=[]:=hk
 obtain⟨hp2,g,d,tk,os⟩:=s2
 simp only[hp]
 refine wpAny_bind (wpAny_keeperOf_exc eC ?_)
 refine wpAny_bind (Cf F T eC hn hi e1 e2 hl fun h' e hm=>wpAny_mono (h2 h' e hm) (fun r s3 z=>⟨z.1,?_⟩) fun _ _ z=>z)
 obtain⟨_,z1,⟨oe,z2,z3,z4⟩,z5⟩:=z
 exact wpAny_bind (wpAny_holding (wpAny_point (wpAny_pure ⟨e,oe,rfl,z1,z2,z3,z4,z5⟩)))
end
def Ci (a C:Addr):HO:= .ext fun h=>∃o vs,h.get? a=some o/\o.cls= .ref C/\o.dict=none/\o.data= .fields vs/\vs[1]?=some .none/\∃a0,vs[0]?=some a0
def Aa (a C dx:Addr):HO:= .ext fun h=>∃o vs,h.get? a=some o/\o.cls= .ref C/\o.dict=some dx/\o.data= .fields vs/\vs[1]?=some .none/\∃a0,vs[0]?=some a0
def xp (a C dx:Addr):HO:= .ext fun h=>∃o vs,h.get? a=some o/\o.cls= .ref C/\o.dict=some dx/\o.data= .fields vs
def Ab (dx:Addr) (fs:List (Str×V)):HO:= .ext fun h=>fs.length<=50/\∃mA,h.Ns1 dx mA/\(∀f,qk (fs.lookup f) (mA f))/\Within mA (fs.map (·.1))
section
variable {P:Program} {w:World} {H:Hp} {h:Heap} {a C dx:Addr}
theorem Cj {o:Obj} {vs:Array Value} {a0:Value} (e:h.get? a=some o) (c:o.cls= .ref C) (d:o.dict=none) (t:o.data= .fields vs) (n:vs[1]?=some .none) (z:vs[0]?=some a0):jd P w H h a (Ci a C):=
 ⟨⟨o,vs,e,c,d,t,n,a0,z⟩,⟨o,e⟩,fun h1 h2 ⟨o1,v1,e1,r⟩ k=>⟨o1,v1,k o1 e1,r⟩⟩
theorem Ck {o:Obj} {vs:Array Value} {a0:Value} (e:h.get? a=some o) (c:o.cls= .ref C) (d:o.dict=some dx) (t:o.data= .fields vs) (n:vs[1]?=some .none) (z:vs[0]?=some a0):jd P w H h a (Aa a C dx):=
 ⟨⟨o,vs,e,c,d,t,n,a0,z⟩,⟨o,e⟩,fun h1 h2 ⟨o1,v1,e1,r⟩ k=>⟨o1,v1,k o1 e1,r⟩⟩
theorem Cm {o:Obj} {vs:Array Value} (e:h.get? a=some o) (c:o.cls= .ref C) (d:o.dict=some dx) (t:o.data= .fields vs):jd P w H h a (xp a C dx):=
 ⟨⟨o,vs,e,c,d,t⟩,⟨o,e⟩,fun h1 h2 ⟨o1,v1,e1,r⟩ k=>⟨o1,v1,k o1 e1,r⟩⟩
theorem Cn {fs:List (Str×V)} {mA:Str->Option Value} (hl:fs.length<=50) (n:h.Ns1 dx mA) (r:∀f,qk (fs.lookup f) (mA f)) (wi:Within mA (fs.map (·.1))):jd P w H h dx (Ab dx fs):=by
 refine⟨⟨hl,mA,n,r,wi⟩,?_,fun h1 h2 ⟨hl,m1,n1,r1,w1⟩ k=>⟨hl,m1,?_,r1,w1⟩⟩
 ·obtain⟨o,es,ep,e,_⟩:=n
  exact⟨o,e⟩
 ·obtain⟨o,es,ep,e,z⟩:=n1
  exact⟨o,es,ep,k o e,z⟩
end
section
variable {X:Cx} {pins:List (Addr×Obj)} {σ:St} {H:Hp} {s:Shared} {A:Around} {E:Value->Shared->Prop} {a C dx:Addr} {f:Str} {fs:List (Str×V)}
theorem Inv.newAddr (I:Inv X pins σ H s) {b:Addr} (hb:s.heap.get? b=none):X.s₀.heap.get? b=none/\b≠X.env.locals/\(∀x c,X.env.cells.lookup x=some c->c≠b)/\(∀p∈X.pn++pins,p.1≠b)\/b∈X.ex:=by
 by_cases hx:b∈X.ex
 ·exact .inr hx
 refine .inl ⟨?_,?_,?_,?_⟩
 ·cases z:X.s₀.heap.get? b with
  |none=>rfl
  |some o=>
   obtain⟨o1,e1⟩:=I.base.there b o z hx
   rw[hb]at e1
   cases e1
 ·intro z
  obtain⟨m,⟨o,_,_,ho,_⟩,_⟩:=I.loc
  rw[<-z,hb]at ho
  cases ho
 ·intro x c e z
  obtain⟨v,o,ho,_⟩:=I.cell x c e
  rw[z,hb]at ho
  cases ho
 ·intro p hp z
  have e:=(I.pin p hp).1
  rw[z,hb]at e
  cases e
theorem Ge {y:V} {u:Value} {Q:Unit->Shared->Prop} (I:Inv X pins σ H s) (hex:X.ex=[]) (e:H a=some (Ci a C)) (c:Dr X.K C) (n:dR X.K (.ref C) f=some none) (ry:jq y u)
  (h:∀dx s',H dx=none->dx≠a->Inv X pins σ (upd (upd H a (Aa a C dx)) dx (Ab dx [(f,y)])) s'->Q () s'):wpAny (model X.prog X.w) A (setAttr (.ref a) f u) Q E s:=by
 obtain⟨⟨o,vs,eo,ec,ed,et,en,a0,e0⟩,_,_⟩:=(show jd X.prog X.w H s.heap a (Ci a C)from I.hok a _ e)
 obtain⟨hp,g,d,t,os⟩:=s
 have fr:H hp.objs.size=none:=I.hok.fresh (c7 _)
 refine Cd I.kIn c n eo ec et ed fun h' tk' k1 k2 k3=>?_
 have na:hp.objs.size≠a:=(cW (gq eo)).symm
 have hn:hp.get? hp.objs.size=none:=gu (c7 _)
 have I1:Inv X pins σ (upd H a (Aa a C hp.objs.size)) ⟨h',g,d,tk',os⟩:=I.write (x:=a) (e:=a) (by rw[e];exact True.intro) (.inl rfl) (fun b q hb z=>k3 b q hb z) ⟨_,k1⟩ (Ck k1 ec rfl et en e0)
 rcases I.newAddr hn with⟨z1,z2,z3,z4⟩|z
 ·refine h hp.objs.size _ fr na (I1.track (by rw[gM na];exact fr) z1 z2 z3 z4 (Cn (by show 1<=50;decide) k2 (fun g=>?_) ?_))
  ·show qk (aB g [(f,y)]) (if g=f then some u else none)
   by_cases q:g=f
   ·subst q
    rw[if_pos rfl,bj,beq_self_eq_true]
    exact ry
   ·rw[if_neg q,bj,show(g==f)=false from beq_eq_false_iff_ne.mpr q]
    trivial
  ·exact Within.cons f u Within.nil
 ·rw[hex]at z;cases z
theorem getx {v:V} {ex:Bool} {Q:Value->Shared->Prop} (I:Inv X pins σ H s) (e:H a=some (xp a C dx)) (ed:H dx=some (Ab dx fs)) (c:sY X.K C) (n:dR X.K (.ref C) f=some none) (l:fs.lookup f=some v)
  (h:∀u s',Inv X pins σ H s'->jq v u->Q u s'):wpAny (model X.prog X.w) A (getAttr (.ref a) f ex) Q E s:=by
 obtain⟨⟨o,vs,eo,ec,edd,et⟩,_,_⟩:=(show jd X.prog X.w H s.heap a (xp a C dx)from I.hok a _ e)
 obtain⟨⟨_,mA,nA,r,wi⟩,_,_⟩:=(show jd X.prog X.w H s.heap dx (Ab dx fs)from I.hok dx _ ed)
 obtain⟨hp,g,d,t,os⟩:=s
 have rf:=r f
 rw[l]at rf
 obtain⟨u,hu,ru⟩:∃u,mA f=some u/\jq v u:=by
  cases z:mA f with
  |none=>rw[z]at rf;exact rf.elim
  |some u=>rw[z]at rf;exact⟨u,rfl,rf⟩
 exact Cb I.kIn c n eo ec (fun c z=>by rw[et]at z;cases z) edd nA.ns hu (sv ru) (h u _ (I.tok _) ru)
end
section
variable {X:Cx} {o value e:Expr} {ta tv:TE} {f:Str} {pos pos':Pos}
def Ei (K:PySem.W.Frag) (ta tv:TE) (f:Str):TS:=fun D σ H=>tv σ H fun y H1=>ta σ H1 fun x H2=>∃a C,x= .ref a/\H2 a=some (Ci a C)/\Dr K C/\dR K (.ref C) f=some none/\∀dx,H2 dx=none->dx≠a->D.nx σ (upd (upd H2 a (Aa a C dx)) dx (Ab dx [(f,y)]))
theorem Ac (hex:X.ex=[]) (ha:PE X o ta) (hv:PE X value tv) (hs:swapsWith value (some (.Attribute o f pos')) pos.line X.env=pure false):PS X (.Assign [.Attribute o f pos'] value pos) (Ei X.K ta tv f):=by
 intro pins s σ H D I h
 refine plainObj_wpAny_Assign_Attribute (thn (hv pins s σ H _ I h) fun u s1 ⟨y,H1,I1,ry,q⟩=>thn (ha pins s1 σ H1 _ I1 q) fun ov s2 ⟨x,H2,I2,rx,a,C,ex,ea,c,n,q2⟩=>?_) hs
 subst ex
 obtain rfl:ov=Value.ref a:=rx
 exact Ge I2 hex ea c n ry fun dx s3 h1 h2 I3=>⟨σ,_,I3,q2 dx h1 h2⟩
def Gf (K:PySem.W.Frag) (ta:TE) (f:Str):TE:=fun σ H Q=>ta σ H fun x H1=>∃a C dx fs v,x= .ref a/\H1 a=some (xp a C dx)/\H1 dx=some (Ab dx fs)/\sY K C/\dR K (.ref C) f=some none/\fs.lookup f=some v/\Q v H1
theorem yD (he:PE X e ta) (hb:attributeBase e f X.env (eval e X.env)=eval e X.env):PE X (.Attribute e f pos) (Gf X.K ta f):=by
 intro pins s σ H Q I h
 refine xN hb (thn (he pins s σ H _ I h) fun u s1 ⟨x,H1,I1,rx,a,C,dx,fs,v,ex,ea,ed,c,n,l,q⟩=>?_)
 subst ex
 obtain rfl:u=Value.ref a:=rx
 exact getx I1 ea ed c n l fun u' s2 I2 ru=>⟨v,H1,I2,ru,q⟩
end
def CXF (P:Program) (w:World):CXT:=fun outer H s E e s'=>∃(ea:Addr) (cls a0:Value) (B:Heap) (H':Hp) (dx:Addr),e= .ref ea/\Fl P w outer H s B H' s'/\Heap.FlyingW B outer ea cls a0 s'.heap/\(∃o,s'.heap.get? ea=some o/\o.dict=some dx)/\E cls (some dx) H'
def dr (H:Hp) (a:Addr):Hp:=fun b=>if b=a then none else H b
theorem qZ {H:Hp} {a b:Addr} (h:b≠a):dr H a b=H b:=if_neg h
theorem yE {H:Hp} {a:Addr}:dr H a a=none:=if_pos rfl
theorem yF {H:Hp} {a b:Addr} {u:HO} (h:dr H a b=some u):b≠a/\H b=some u:=by
 by_cases z:b=a
 ·rw[z,yE]at h;cases h
 ·rw[qZ z]at h;exact⟨z,h⟩
theorem Ej {P:Program} {w:World} {H:Hp} {h:Heap} {a:Addr} {φ:Heap->Prop} (ok:HOk P w H h) (ha:H a=some (.ext φ)):HOk P w (dr H a) h:=fun b u e=>by
 obtain⟨n,e⟩:=yF e
 refine(ok b u e).stay (fun _ _ _ q=>q) (fun c q=>?_) fun c xs q=>?_
 ·rw[qZ (fun z=>by rw[z,ha]at q;cases q)];exact q
 ·rw[qZ (fun z=>by rw[z,ha]at q;cases q)];exact q
theorem Gg {fs ex:List Addr} {H H':Hp} {h h':Heap} {a:Addr} {φ:Heap->Prop} (u:Un fs ex H H' h h') (ha:H' a=some (.ext φ)):Un fs ex H (dr H' a) h h':=by
 refine⟨u.keep,u.slot,fun b o e n hx=>?_,u.there,fun b xs q=>?_,fun b o x q=>?_,fun b ps q=>?_⟩
 ·have:=u.free b o e n hx
  by_cases z:b=a
  ·rw[z,yE]
  ·rw[qZ z];exact this
 ·have q:=u.tups b xs q
  rw[qZ (fun z=>by rw[z,ha]at q;cases q)];exact q
 ·have q:=u.frzs b o x q
  rw[qZ (fun z=>by rw[z,ha]at q;cases q)];exact q
 ·obtain⟨m,q⟩:=u.tbls b ps q
  exact⟨m,by rw[qZ (fun z=>by rw[z,ha]at q;cases q)];exact q⟩
section
variable {P:Program} {w:World} {K:PySem.W.Frag} {mg:Str->Option Value} {base:Heap} {N:List Str} {qual:Str} {scope:Scope} {f:Addr} {cd:Value} {A:Around} {outer:List Env} {s₀:Shared} {H₀:Hp} {E:XK}
def yG (X:Cx) (E:XK):Prop:=∀(pins:List (Addr×Obj)) (σ:St) (H1:Hp) (s1:Shared) (H3:Hp) (s3:Shared) (e C dx:Addr),Inv X pins σ H1 s1->s1.heap.get? e=none->s3.os=s1.os->AllBare s3.gens->Un (frs X.stack) [] H1 H3 s1.heap s3.heap->HOk X.prog X.w H3 s3.heap->H3 e=some (Aa e C dx)->E (.ref C) (some dx) (dr H3 e)->X.xe (.ref e) s3
theorem Co:yG (sd (CXF P w) P w K mg base N qual scope f cd A outer s₀ H₀ E) E:=by
 intro pins σ H1 s1 H3 s3 e C dx I hn hos hba hun hok he q
 generalize hX:sd (CXF P w) P w K mg base N qual scope f cd A outer s₀ H₀ E=X at I hun hok
 have hst:X.stack=envOfC qual scope s₀.heap.objs.size f cd::outer:=by rw[<-hX];rfl
 obtain⟨⟨oe,vs,eo,ec,ed,et,en,a0,e0⟩,_,_⟩:=(show jd X.prog X.w H3 s3.heap e (Aa e C dx)from hok e _ he)
 have un':=Gg hun he
 have hok':=Ej hok he
 have J:Inv X pins σ (dr H3 e) s3:=I.call' (ch:=[]) hos un' hok' hba (fun b hb=>nomatch hb)
 have B1:∀b o,s3.heap.get? b=some o->b≠e->b∉frs X.stack->(dI s3.heap (e::frs X.stack)).get? b=some o:=fun b o x hb hf=>dJ _ x fun z=>by
  rcases aj.mp z with z|z
  ·exact hb z
  ·exact hf z
 have F:Fl X.prog X.w X.stack H1 s1 (dI s3.heap (e::frs X.stack)) (dr H3 e) s3:=by
  refine⟨hos,hba,un',hok',fun b o x=>dM _ x,fun b u x=>?_,fun b o x hb=>?_⟩
  ·obtain⟨ob,eb⟩:=(hok' b u x).there
   exact⟨ob,B1 b ob eb (yF x).1 fun z=>by rw[J.stkFree b z]at x;cases x⟩
  ·obtain⟨o',x'⟩:=un'.there b o x (fun z=>nomatch z)
   exact⟨o',B1 b o' x' (fun z=>by rw[z,hn]at x;cases x) hb⟩
 have fr:s3.heap.FunFrames (dI s3.heap (e::frs X.stack)) X.stack:=eQ J.stack fun env he a ha=>ai _ (ay.mpr ⟨env,he,ha⟩)
 have hA:X.A.frames=some X.stack:=I.ok.frames
 rw[hst]at fr hA F B1
 subst hX
 show wpAny _ _ (leaving _ (.ref e)) _ _ _
 refine wpAny_mono (oG (wO _ _) (wpAny_leaving_firstW (a0:=a0) hA fr rfl eo (fun b o x=>dM _ x) (dN _ ah) et en e0 (Q:=fun _ s'=>∃h',s'={s3 with heap:=h'}/\Heap.LeftW (dI s3.heap (e::frs (envOfC qual scope s₀.heap.objs.size f cd::outer))) (envOfC qual scope s₀.heap.objs.size f cd::outer) e oe.cls a0 s3.heap h') (E:=fun _ _=>False) fun h' hL=>⟨h',rfl,hL⟩)) (fun _ s' z=>?_) fun _ _ z=>z.1.elim
 obtain⟨⟨h',rfl,hL⟩,dk⟩:=z
 obtain⟨k1,⟨_,_,k2⟩,k3,k4⟩:=hL
 have J2:=I.flown F k1 (h:=h') k4
 obtain⟨o',eo',ed',_⟩:=dk e oe eo
 refine⟨e,oe.cls,a0,_,dr H3 e,dx,rfl,⟨J2.os,J2.bare,J2.base,J2.hok,k1,F.trk,fun b o x hb=>?_⟩,⟨k1,dN _ ah,k2,k3⟩,⟨o',eo',ed'.trans ed⟩,by rw[ec];exact q⟩
 obtain⟨o1,e1⟩:=I.base.there b o x (fun z=>nomatch z)
 exact F.old b o1 e1 (I.nst (I.oldNe x) hb)
end
theorem Cp {K:PySem.W.Frag} {h:Heap} {N:Addr} {m:Str->Option Value} {n:Str} {v:Value} (X:K.In h) (G:h.Ns N m) (z:eX K N n=some (some v)):m n=some v:=by
 obtain⟨ob,en,ep,eo,ed,_,ef⟩:=G
 unfold eX at z
 split at z
 case h_2=>cases z
 rename_i c1 d1 en' n1 sl1 lk
 have g:=X _ _ lk
 rw[eo]at g
 cases g
 cases ed
 split at z
 ·rename_i e1 fe
  cases z
  rw[<-ef]
  unfold nsFind findBy
  rw[<-Array.find?_toList,fe]
  rfl
 ·split at z<;>cases z
theorem Ek {fs:List Addr} {H:Hp} {h h':Heap} {a:Addr} {o:HO} (k:∀b u,h.get? b=some u->h'.get? b=some u) (hn:H a=none) (ha:h.get? a=none):Un fs [] H (upd H a o) h h':=by
 refine⟨fun b u q _ _ _=>k b u q,fun b u q _ _ _=>⟨u.slots,k b u q⟩,fun b u q n _=>?_,fun b u q _=>⟨u,k b u q⟩,fun b xs q=>?_,fun b u xs q=>?_,fun b ps q=>?_⟩
 ·rw[gM (fun z=>by rw[z,ha]at q;cases q)];exact n
 ·rw[gM (gL q hn)];exact q
 ·rw[gM (gL q hn)];exact q
 ·exact⟨#[],by rw[gM (gL q hn),q];simp⟩
structure Gh (K:PySem.W.Frag) (C fI:Addr):Prop where
 at_:∃bm N nm q bs hdct sn sub ab col dd k0 k1 k2 k3 k5,K.lookup C=some (excClassObj nm q C N bs bm hdct sn sub ab col dd k0 k1 k2 k3 k5 "ValueError.__new__")/\eY K N=true/\eX K N "__init__"=some (some (.ref fI))/\eZ K A3 bm=true
 fn:∃oI,K.lookup fI=some oI/\oI.cls= .type "function"
section
variable {X:Cx} {C fI:Addr} {E:XK} {x:Str} {np cpos pos:Pos} {e:Expr} {es:List Expr} {t:TA} {k:Nat} {fd:FuncData} {ps:List Str} {sp:Sp}
def Cq (C:Addr) (sp:Sp) (E:XK) (t:TA):TS:=fun _ σ H=>t σ H fun vs H1=>vs.length<=sizeLine/\∀e,H1 e=none->sp (.ref e::vs) (upd H1 e (Ci e C)) (fun v H3=>v= .non/\∃dx,H3 e=some (Aa e C dx)/\E (.ref C) (some dx) (dr H3 e)) fun _ _ _=>False
theorem yH (hc:X.calm=true) (hex:X.ex=[]) (hl:yG X E) (xi:Gh X.K C fI) (F:iK X.prog X.w X.K X.mg X.base CX0 k fI fd ps sp) (hr:mU (k+ 1) X.A) (hb:iH X.K fd ps []) (hg:Gl X x) (hm:X.mg x=some (.ref C)) (ha:PA X (e::es) t)
  (hst:autoParam (starEach (e::es) X.env=(false,eval e X.env)::starEach es X.env) L2.Internal.auR._auto_1) (hpl:autoParam ((backTo cpos (starEach es X.env)).any (·.1)=false) L2.Internal.auR._auto_1) (hd:autoParam ((x==("__debug__":Str))=false) L2.Internal.auD._auto_1):
  PS X (.Raise (some (.Call (.Name x np) (e::es) [] cpos)) none pos) (Cq C sp E t):=by
 intro pins s σ H D I h
 obtain⟨bm,N,nm,q,bs,hdct,sn,sub,ab,col,dd,k0,k1,k2,k3,k5,lk,no,ni,tl⟩:=xi.at_
 obtain⟨oI,lI,cI⟩:=xi.fn
 have kB:X.K.In X.base:=I.mod.kin
 have kp:∀{s1:Shared} {H1:Hp},Inv X pins σ H1 s1->∀b o,X.base.get? b=some o->s1.heap.get? b=some o:=fun I1=>I1.bk
 have NB:X.base.Ns N (X.base.nsMap N):= .of_isNs (eS kB no)
 have TB:OwnTail X.base A3 bm:=eT kB tl
 refine z9 (C:=C) (nm:=nm) (q:=q) (N:=N) (bs:=bs) (bm:=bm) (hdct:=hdct) (sn:=sn) (sub:=sub) (ab:=ab) (col:=col) (dd:=dd) (k0:=k0) (k1:=k1) (k2:=k2) (k3:=k3) (k5:=k5) (fI:=fI) (mN:=X.base.nsMap N)
  fu (TB.hasType fu.hasBase) (I.ok.hd hc) ?_ (Cp kB NB ni) (m4 I hg hm ⟨rfl,?_⟩ hd)
 ·rw[hst]
  show(false||(backTo cpos (starEach es X.env)).any (·.1))=false
  rw[hpl]
  rfl
 have h2:=ha cpos pins s σ H _ I h
 rw[hst]at h2⊢
 refine Calls.evalArgs_plain (wpAny_mono h2 (fun us s1 h3=>?_) fun _ _ z=>z)
 obtain⟨vs,H1,I1,r,hz,q1⟩:=h3
 refine⟨rfl,by rw[<-r.length];exact hz,kp I1 _ _ (kB _ _ lk),NB.keeps (kp I1),TB.keeps (kp I1),⟨oI,kp I1 _ _ (kB _ _ lI),cI⟩,fun h' ea mx=>?_⟩
 obtain⟨tt,et,tn,te⟩:=mx.there
 have hn1:H1 ea=none:=by
  cases z:H1 ea with
  |none=>rfl
  |some u=>
   obtain⟨ob,eb⟩:=(I1.hok ea u z).there
   rw[mx.new]at eb
   cases eb
 obtain⟨z1,z2,z3,z4⟩:X.s₀.heap.get? ea=none/\ea≠X.env.locals/\(∀x c,X.env.cells.lookup x=some c->c≠ea)/\∀p∈X.pn++pins,p.1≠ea:=by
  rcases I1.newAddr mx.new with z|z
  ·exact z
  ·rw[hex]at z;cases z
 have I2:Inv X pins σ (upd H1 ea (Ci ea C)) {s1 with heap:=h',toks:=s1.toks}:=(I1.kept (t':=s1.toks) mx.keeps).track hn1 z1 z2 z3 z4 (Cj et rfl rfl rfl rfl rfl)
 have hq:=q1 ea hn1
 have r2:iV (V.ref ea::vs) (Value.ref ea::us):= .cons rfl r
 have hlen:(Value.ref ea::us).length=ps.length:=by rw[<-r2.length];exact F.len _ _ _ _ hq
 refine wpAny_call (codeAny_mono (F.run _ X.stack _ _ ⟨Value.ref ea::us,[]⟩ (Value.ref ea::us) _ _ _ (hr.make C us []) (I2.env0.make C us []) (by have z:=hb {s1 with heap:=h',toks:=s1.toks} (Value.ref ea::us) I2.kIn (by rw[aE];exact hlen);rw[aE]at z;exact z) r2 hq) fun rr s3 hq'=>?_)
 cases rr with
 |error ev=>exact hq'.elim
 |ok fl=>
  cases fl with
  |next=>exact False.elim hq'
  |brk=>exact False.elim hq'
  |cont=>exact False.elim hq'
  |ret u=>
   obtain⟨v,H3,o3,b3,un3,hok3,rv,ev,dx,e3,q3⟩:=hq'
   subst ev
   have un13:Un (frs X.stack) [] H1 H3 s1.heap s3.heap:=(Ek mx.keeps hn1 mx.new).trans un3
   have J3:Inv X pins σ H3 s3:=I1.call' (ch:=[]) o3 un13 hok3 b3 (fun b hb=>nomatch hb)
   obtain⟨⟨oe,ws,eo,ec,ed,et3,en,a0,e0⟩,_,_⟩:=(show jd X.prog X.w H3 s3.heap ea (Aa ea C dx)from hok3 ea _ e3)
   exact⟨rv,kp J3 _ _ (kB _ _ lk),⟨oe,eo,ec,ws,et3,en⟩,hl pins σ H1 s1 H3 s3 ea C dx I1 mx.new o3 b3 un13 hok3 e3 q3⟩
end
section
variable {X:Cx} {Y:Addr} {y n:Str} {py hpos:Pos} {b₀:Stmt} {body:List Stmt} {tb:TS} {i:Nat}
def Ba (K:PySem.W.Frag) (Y:Addr) (i:Nat) (tb:TS) (D:nY) (σ:St):XK:=fun cls od H2=>∃C dx,cls= .ref C/\od=some dx/\fc K cls (.ref Y)=some true/\
 ∀ea,H2 ea=none->tb {nx:=fun σ' H'=>D.nx (σ'.set i none) H',rt:=D.rt,bk:=fun σ' H'=>D.bk (σ'.set i none) H',ct:=fun σ' H'=>D.ct (σ'.set i none) H'} (σ.set i (some (.ref ea))) (upd H2 ea (xp ea C dx))
theorem Cr {pins:List (Addr×Obj)} {σ:St} {H:Hp} {s s':Shared} {D:nY} {ev:Value} (hN:X.N.Nodup) (hi:X.N[i]?=some n) (hn:X.env.scope.names.lookup n=some .local) (hgY:Gl X y) (hmY:X.mg y=some (.ref Y)) (hy:(y==("__debug__":Str))=false)
  (hfr:X.stack=X.env::X.outer/\X.env.frame=some X.env.locals) (hex:X.ex=[]) (hb:∀ea,PSs (X.hand ea) (b₀::body) tb) (I:Inv X pins σ H s) (hx:CXF X.prog X.w X.stack H s (Ba X.K Y i tb D σ) ev s'):
  wpAny (model X.prog X.w) X.A (noteFrame ev X.env) (fun _ s2=>wpAny (model X.prog X.w) X.A (setFlight ev none) (fun _ s3=>wpAny (model X.prog X.w) X.A (handleBy ev X.env [.ExceptHandler (some (.Name y py)) (some n) (b₀::body) hpos]) (SP X pins D) X.xe s3) X.xe s2) X.xe s':=by
 obtain⟨ea,cls,a0,B,H',dx,rfl,F,fl,⟨ob,eob,edb⟩,C,dx2,rfl,hdx,hm,q⟩:=hx
 obtain rfl:dx2=dx:=(dB.inj hdx).symm
 have hA:X.A.frames=some (X.env::X.outer):=by rw[<-hfr.1];exact I.ok.frames
 have fl':=fl
 rw[hfr.1]at fl'
 refine wpAny_mono (oG (yC _ _) (wpAny_looks_onW (outer:=X.outer) (Q:=fun _ s2=>∃h4,s2={s' with heap:=h4}/\Heap.HeldW B (X.env::X.outer) ea (.ref C) a0 X.env.locals h4/\s'.heap.UpToSlots h4) (E:=fun _ _=>False) hA hfr.2 fl' fun h4 a b=>⟨h4,rfl,a,b⟩)) (fun _ s2 z=>?_) fun _ _ z=>z.1.elim
 obtain⟨⟨h4,rfl,held4,up4⟩,dk4⟩:=z
 refine wpAny_mono (oG (mr _ _) (wpAny_landsW (Q:=fun _ s3=>∃h5,s3={s' with heap:=h5}/\Heap.FlyingW B (X.env::X.outer) ea (.ref C) a0 h5/\h4.UpToSlots h5) (E:=fun _ _=>False) held4 fun h5 a b=>⟨h5,rfl,a,b⟩)) (fun _ s3 z=>?_) fun _ _ z=>z.1.elim
 obtain⟨⟨h5,rfl,fl5,up5⟩,dk5⟩:=z
 have I5:=I.flown F fl5.1 (up4.trans up5)
 obtain⟨ob5,eo5,ec5⟩:=fl5.there
 have LT:PySem.W.Looks (model X.prog X.w) h5 (typeOf (.ref ea)) (.ref C):=by
  have z:PySem.W.Looks (model X.prog X.w) h5 (typeOf (.ref ea)) ob5.cls:=(PySem.W.Looks.ld eo5).andThen .now
  rw[ec5]at z
  exact z
 refine wpAny_handleBy_cons (codeAny_handlers_test (m4 (X:=X.hand ea) (I5.hand ea) hgY hmY ?_ hy)) (by intro z;cases z)
 refine(PySem.W.exm_one I5.kIn LT hm) _ _ _ _ (fun _ _ z=>z) ?_
 refine codeAny_handlers_suite_as ?_
 refine wpAny_mono (oG (mr _ _) (lands_againW (Q:=fun _ s6=>∃h6,s6={s' with heap:=h6}/\Heap.FlyingW B (X.env::X.outer) ea (.ref C) a0 h6/\h5.UpToSlots h6) (E:=fun _ _=>False) fl5 fun h6 a b=>⟨h6,rfl,a,b⟩)) (fun _ s6 z=>?_) fun _ _ z=>z.1.elim
 obtain⟨⟨h6,rfl,fl6,up6⟩,dk6⟩:=z
 have I6:=I.flown F fl6.1 ((up4.trans up5).trans up6)
 obtain⟨oe,ws,eo6,ec6,ed6,_⟩:=fl6.first
 have edd:oe.dict=some dx2:=by
  obtain⟨o6,x6,y6,_⟩:=(dk4.trans (dk5.trans dk6)) ea ob eob
  have x6:h6.get? ea=some o6:=x6
  rw[eo6]at x6
  cases x6
  exact y6.trans edb
 have Bn:B.get? ea=none:=fl6.2.1
 have hn':H' ea=none:=by
  cases z:H' ea with
  |none=>rfl
  |some u=>
   obtain⟨o1,e1⟩:=F.trk ea u z
   rw[Bn]at e1
   cases e1
 have nfr:ea∉frs X.stack:=fun z=>by
  obtain⟨_,o1,e1,hd⟩:=I6.stack.mem z
  have e2:h6.get? ea=some o1:=e1
  rw[eo6]at e2
  cases e2
  exact hd ws ed6
 have olds:s.heap.get? ea=none:=by
  cases z:s.heap.get? ea with
  |none=>rfl
  |some o=>
   obtain⟨o1,e1⟩:=F.old ea o z nfr
   rw[Bn]at e1
   cases e1
 obtain⟨z1,z2,z3,z4⟩:X.s₀.heap.get? ea=none/\ea≠X.env.locals/\(∀x c,X.env.cells.lookup x=some c->c≠ea)/\∀p∈X.pn++pins,p.1≠ea:=by
  rcases I.newAddr olds with z|z
  ·exact z
  ·rw[hex]at z;cases z
 have I7:Inv X pins σ (upd H' ea (xp ea C dx2)) {s' with heap:=h6}:=I6.track hn' z1 z2 z3 z4 (Cm eo6 ec6 edd ed6)
 refine lN (X:=X.hand ea) (i:=i) (v:= .ref ea) (I7.hand ea) hN hi (.inl hn) rfl (fun s8 I8=>?_) (.inr hn)
 refine wpAny_mono (hb ea pins s8 _ _ _ I8 (q ea hn')) (fun fw s9 h9=>?_) fun _ _ z=>z.elim
 have fin:∀{σ9:St} {H9:Hp} (Z:Shared->Prop),Inv (X.hand ea) pins σ9 H9 s9->(∀s10,Inv X pins (σ9.set i none) H9 s10->Z s10)->wpAny (model X.prog X.w) X.A (do bindName X.env n .none;unbindBehindTheSuite X.env n hpos) (fun _ s10=>Z s10) X.xe s9:=
  fun Z I9 hz=>yp (I9.unhand I.ok) hN hi hn hz
 cases fw with
 |next=>
  obtain⟨σ9,H9,I9,q9⟩:=h9
  exact fin (fun s10=>SP X pins D .next s10) I9 fun s10 I10=>⟨_,H9,I10,q9⟩
 |brk=>
  obtain⟨σ9,H9,I9,q9⟩:=h9
  exact fin (fun s10=>SP X pins D .brk s10) I9 fun s10 I10=>⟨_,H9,I10,q9⟩
 |cont=>
  obtain⟨σ9,H9,I9,q9⟩:=h9
  exact fin (fun s10=>SP X pins D .cont s10) I9 fun s10 I10=>⟨_,H9,I10,q9⟩
 |ret u=>
  obtain⟨v9,σ9,H9,I9,r9,q9⟩:=h9
  exact fin (fun s10=>SP X pins D (.ret u) s10) I9 fun s10 I10=>⟨v9,_,H9,I10,r9,q9⟩
variable {k j:Nat} {f:Addr} {fd:FuncData} {ps:List Str} {sp:Sp} {dvs:List V} {ds:List Value} {x v:Str} {p pv pos pos' tpos:Pos} {e:Expr} {es:List Expr} {t:TA}
def Ad (K:PySem.W.Frag) (Y:Addr) (sp:Sp) (dvs:List V) (j i:Nat) (t:TA) (tb:TS):TS:=fun D σ H=>t σ H fun vs H1=>sp (vs++dvs) H1 (fun u H2=>D.nx (σ.set j (some u)) H2) (Ba K Y i tb D σ)
end
open Builtin Builtin.ObjectAttr
theorem pk {K:PySem.W.Frag} (self:Value):∀{l:List Value},eZ K A3 l=true->refuseLoop self "__setattr__" l=pure ()
 |[],z=>by cases(beq_iff_eq.mp z:A3=[])
 |v::r,z=>by
  unfold eZ at z
  rcases Bool.or_eq_true_iff.mp z with q|q
  ·rw[beq_iff_eq.mp q]
   exact fA.passes self
  ·split at q
   ·rename_i A
    rw[refuseLoop_ref]
    split at q
    ·rename_i c d cd sl lk
     rw[fV]at q
     exact pk self q.2
    ·cases q
   ·cases q
section
variable {K:PySem.W.Frag} {C fI N:Addr} {nm q:Str} {bs bm:List Value} {sn:List Str} {sub:List Value} {ab:Bool} {col:Option Bool} {dd:Option Addr} {k0 k1 k2 k3 k5:Option Value} {oI:Obj}
theorem El (lk:K.lookup C=some (excClassObj nm q C N bs bm true sn sub ab col dd k0 k1 k2 k3 k5 "ValueError.__new__")) (tl:eZ K A3 bm=true) (xc:sY K C) (sa:dR K (.ref C) "__setattr__"=some (some (.builtin "object.__setattr__"))):Dr K C:=by
 refine⟨xc,sa,_,by unfold eW;rw[lk],rfl,fun self=>?_⟩
 show refuseLoop self "__setattr__" (.ref C::bm)=pure ()
 rw[refuseLoop_ref]
 exact pk self tl
theorem Em (lk:K.lookup C=some (excClassObj nm q C N bs bm true sn sub ab col dd k0 k1 k2 k3 k5 "ValueError.__new__")) (no:eY K N=true) (ni:eX K N "__init__"=some (some (.ref fI))) (tl:eZ K A3 bm=true) (lI:K.lookup fI=some oI) (cI:oI.cls= .type "function"):Gh K C fI:=
 ⟨⟨bm,N,nm,q,bs,true,sn,sub,ab,col,dd,k0,k1,k2,k3,k5,lk,no,ni,tl⟩,⟨oI,lI,cI⟩⟩
end
section
variable {P:Program} {w:World} {K:PySem.W.Frag} {mg:Str->Option Value} {base:Heap}
theorem Fun.okF {x qual:Str} {st:Stmt} {f:Addr} {fd:FuncData} {N ps:List Str} {k:Nat} {sp:Sp} (F:Fun K x qual st f fd) (S:gZ N ps (gI st)) (len:∀vs H Q E,sp vs H Q E->vs.length=ps.length)
  (hbody:∀(cdv:Value) (A:Around) (outer:List Env) (s:Shared) (H:Hp) (vs:List V) (Q:VK) (E:XK),mU k (A.deeper (envOfC qual (gI st) s.heap.objs.size f cdv))->sp vs H Q E->
   ∃t,PSs (sd (CXF P w) P w K mg base N qual (gI st) f cdv A outer s H E) (gW st) t/\t {nx:=fun _ H'=>Q .non H',rt:=Q} (start N vs) H):iK P w K mg base (CXF P w) (k+ 1) f fd ps sp:=by
 obtain⟨oc,od,kV,doc,pm,an,cdv,ct,osl,efd,lk,hcd⟩:=F.ex
 subst efd
 exact BL lk hcd S len (fun A outer s H vs Q E hr h=>hbody cdv A outer s H vs Q E hr h)
end
section
variable {prog:Program} {w:World} {A:Around} {E:Value->Shared->Prop} {s:Shared}
end
section
variable {X:Cx}
end
section
variable {X:Cx}
theorem pq (hc:X.calm=true):mf X (.builtin "sum") (fun xs H Q=>∃(a:Addr) (ns:List Int),xs=[.ref a]/\SqL X.K H a (ns.map V.int)/\Q (.int ns.sum) H):=by
 intro pins s σ H xs us Q I r h
 obtain⟨a,ns,rfl,hq,q⟩:=h
 obtain⟨u,rfl,ru⟩:=mj r
 cases ru
 obtain⟨its,rv,p,hz⟩:=I.list hq
 obtain⟨zs,e⟩:=(n5 rv).allInts.items
 have l:=p.isList
 rw[e]at l
 have hn:∀j,numAt zs j=ns.getD j 0:=fun j=>by
  have h1:its.toArray[j]?=(intItems zs)[j]?:=by rw[e]
  by_cases hj:j<ns.length
  ·obtain⟨v,hv,rv'⟩:=rv.get (show(ns.map V.int)[j]?=some (.int ns[j]) by rw[aM,bx hj];rfl)
   obtain⟨t,rfl⟩:=rv'
   rw[bH,hv]at h1
   obtain⟨t2,e2⟩:=intItems_at h1.symm
   injection e2 with e2 _
   rw[<-e2,bo,bx hj]
   rfl
  ·have hlen:=rv.length
   rw[aD]at hlen
   rw[bH,bF (by lia)]at h1
   have h2:zs[j]?=none:=by
    simp only[intItems,Array.getElem?_map]at h1
    cases h3:zs[j]? with
    |none=>rfl
    |some z=>rw[h3]at h1;cases h1
   rw[bo,bF (by lia)]
   simp[numAt,h2]
 have hsz:zs.size=ns.length:=by
  have h1:=congrArg Array.size e
  simp only[intItems,aV,Array.size_map]at h1
  have hlen:=rv.length
  rw[aD]at hlen
  lia
 have pre:∀j,j<=ns.length->preSum (numAt zs) j=(ns.take j).sum:=fun j=>by
  induction j with
  |zero=>intro _;simp[preSum]
  |succ j ih=>
   intro hj
   rw[preSum,ih (by lia),hn,bJ,bx (show j<ns.length by lia),bK,bo,bx (show j<ns.length by lia)]
   simp
 refine sum_intListG (I.ok.hd hc) l fun h2 tk t2 hk=>⟨.int ns.sum,H,I.kept (t':=tk) hk,⟨t2,?_⟩,q⟩
 rw[hsz,pre ns.length (c7 _),br]
end
section
variable {P:Program} {w:World} {K:PySem.W.Frag} {mg:Str->Option Value} {base:Heap} {N:List Str} {qual:Str} {scope:Scope} {f:Addr} {cd:Value} {A:Around} {outer:List Env} {s₀:Shared} {H₀:Hp} {E:XK}
end
section
variable {X:Cx} {i:Nat} {Y:Addr} {y n:Str} {py hpos:Pos} {b₀:Stmt} {body:List Stmt} {tb:TS}
variable {k:Nat} {f:Addr} {fd:FuncData} {ps:List Str} {sp:Sp} {dvs:List V} {ds:List Value} {x:Str} {p pos pos' tpos:Pos} {e:Expr} {es:List Expr} {t:TA}
theorem sZ:mf X (.builtin "isinstance") (fun xs H Q=>∃ea D dx v c b,xs=[.ref ea,v]/\(∀u,jq v u->u=c)/\H ea=some (xp ea D dx)/\sY X.K D/\eF X.K (.ref D) c=some b/\Q (.bl b) H):=by
 intro pins s σ H xs us Q I r h
 obtain⟨ea,D,dx,v,c,b,rfl,hc,he,C,hk,q⟩:=h
 obtain⟨u,u',rfl,ru,ru'⟩:=xH r
 cases hc u' ru'
 cases ru
 obtain⟨⟨o,vs,eo,ec,_,_⟩,_,_⟩:=(show jd X.prog X.w H s.heap ea (xp ea D dx)from I.hok ea _ he)
 exact eG (vz C) I.kIn ⟨o,eo,ec⟩ hk (fun z=>nomatch z) fun tk=>⟨.bl b,H,I.tok tk,rfl,q⟩
end
theorem yI:∀{cs:List Addr} {us:List Value},iV (cs.map V.ref) us->us=cs.map Value.ref
 |[],_,.nil=>rfl
 |c::cs,_,.cons h hs=>by
  rw[yI hs]
  cases(show _=Value.ref c from h)
  rfl
section
variable {X:Cx}
theorem qF:mf X (.builtin "isinstance") (fun xs H Q=>∃(ea D dx tp:Addr) (cs:List Addr) (b:Bool),xs=[.ref ea,.ref tp]/\H tp=some (.tup (cs.map V.ref))/\H ea=some (xp ea D dx)/\sY X.K D/\ff X.K (.ref D) (cs.map Value.ref)=some b/\Q (.bl b) H):=by
 intro pins s σ H xs us Q I r h
 obtain⟨ea,D,dx,tp,cs,b,rfl,htp,he,C,hk,q⟩:=h
 obtain⟨u,u',rfl,ru,ru'⟩:=xH r
 cases ru
 cases ru'
 obtain⟨_,its,rv,o,ho,hc,n,hd,_⟩:=(show jd X.prog X.w H s.heap tp (.tup (cs.map V.ref))from I.hok tp _ htp)
 cases yI rv
 obtain⟨oc,od,odt,osl⟩:=o
 cases(show oc=_ from hc)
 cases(show odt=_ from hd)
 obtain⟨⟨o2,vs,eo,ec,_,_⟩,_,_⟩:=(show jd X.prog X.w H s.heap ea (xp ea D dx)from I.hok ea _ he)
 exact PySem.W.kia_tup (vz C) I.kIn ⟨o2,eo,ec⟩ ho hk (fun z=>nomatch z) fun tk=>⟨.bl b,H,I.tok tk,rfl,q⟩
end
section
variable {X:Cx} {Y:Addr} {y n:Str} {py hpos:Pos} {b₀:Stmt} {body:List Stmt} {tb:TS} {i:Nat}
variable {k j:Nat} {f:Addr} {fd:FuncData} {ps:List Str} {sp:Sp} {dvs:List V} {ds:List Value} {x v:Str} {p pv pos pos' tpos:Pos} {e:Expr} {es:List Expr} {t:TA}
theorem wQ (F:iK X.prog X.w X.K X.mg X.base (CXF X.prog X.w) k f fd ps sp) (hr:mU k X.A) (hg:Gl X x) (hm:X.mg x=some (.ref f)) (hk:eA X.K (.ref f)=true) (hbd:iH X.K fd ps ds) (hd:iV dvs ds)
  (ha:PA X.nox (e::es) t) (hN:X.N.Nodup) (hj:X.N[j]?=some v) (hv:Loc X.env.scope v) (hi:X.N[i]?=some n) (hn:X.env.scope.names.lookup n=some .local) (hgY:Gl X y) (hmY:X.mg y=some (.ref Y))
  (hfr:X.stack=X.env::X.outer/\X.env.frame=some X.env.locals) (hex:X.ex=[]) (hb:∀ea,PSs (X.hand ea) (b₀::body) tb)
  (hdb:autoParam ((x==("__debug__":Str))=false) L2.Internal.auD._auto_1) (hdy:autoParam ((y==("__debug__":Str))=false) L2.Internal.auD._auto_1) (he:autoParam (starEach (e::es) X.env=(false,eval e X.env)::starEach es X.env) L2.Internal.auR._auto_1) (hpl:autoParam ((backTo pos (starEach es X.env)).any (·.1)=false) L2.Internal.auR._auto_1)
  (hs:autoParam (swapsWith (.Call (.Name x p) (e::es) [] pos) (some (.Name v pv)) pos'.line X.env=pure false) L2.Internal.auR._auto_1) (hf:autoParam (X.fn v=true\/X.env.scope.names.lookup v=some .local) L2.Internal.auL._auto_1):
  PS X (.Try [.Assign [.Name v pv] (.Call (.Name x p) (e::es) [] pos) pos'] [.ExceptHandler (some (.Name y py)) (some n) (b₀::body) hpos] [] [] tpos) (Ad X.K Y sp dvs j i t tb):=by
 intro pins s σ H D I h
 refine wpAny_Try_except (wpAny_execs_cons (wpAny_Assign_Name (wpAny_Call_Name_kw (m4 I hg hm ?_ hdb)) hs))
 refine eK (h₀:=X.base) I.ok.mod.kin hk (wpAny_mono (ha pos pins s σ H _ (I.wish _) h) (fun us s1 ⟨vs,H1,I1,r,q⟩=>⟨I1.kIn,?_⟩) fun _ _ z=>z.elim) he hpl
 have I1':Inv X pins σ H1 s1:=I1.unwish
 refine wpAny_mono (B0 F hr hbd hd (fun ev s' hx=>Cr (py:=py) (hpos:=hpos) hN hi hn hgY hmY hdy hfr hex hb I1' hx) I1' r q) (fun u s2 ⟨v2,H2,I2,r2,q2⟩=>?_) fun _ _ z=>z
 exact lN I2 hN hj hv r2 (fun s3 I3=>wpAny_execs_nil (wpAny_execs_nil ⟨_,H2,I3,q2⟩)) hf
end
end L2.Internal
namespace T1
open PySem
def sub (c:Nat) (z:List Nat) (l:List Nat):List Nat:=l.flatMap fun k=>if k=c then z else[k]
theorem mM (c:Nat) (z a b:List Nat):sub c z (a++b)=sub c z a++sub c z b:=List.flatMap_append ..
theorem rg (c:Nat) (z:List Nat):∀l:List Nat,¬c∈l->sub c z l=l
 |[],_=>rfl
 |k::r,h=>by
  have h1:¬k=c:=fun e=>h (e▸ah ..)
  have h2:¬c∈r:=fun m=>h (ai _ m)
  show(if k=c then z else[k])++sub c z r=k::r
  rw[if_neg h1,rg c z r h2]
  rfl
theorem Cu (c:Nat) (z:List Nat):sub c z [c]=z:=by simp[sub]
theorem vD (c:Nat) (z:Str):∀parts:List Str,(∀p∈parts,¬c∈p.cps.toList)->sub c z.cps.toList (Str.join ⟨#[c]⟩ parts).cps.toList=(Str.join z parts).cps.toList
 |[],_=>rfl
 |[p],h=>rg c _ _ (h p (bg.mpr rfl))
 |p::q::r,h=>by
  have ih:=vD c z (q::r) fun a ha=>h a (ai _ ha)
  show sub c z.cps.toList (p++⟨#[c]⟩++Str.join ⟨#[c]⟩ (q::r)).cps.toList=(p++z++Str.join z (q::r)).cps.toList
  simp only[Str.cps_append,gb]
  rw[mM,mM,ih,rg c _ _ (h p (ah ..))]
  have e:sub c z.cps.toList [c]=z.cps.toList:=Cu c _
  rw[e]
def cut (c:Nat):List Nat->List (List Nat)
 |[]=>[[]]
 |k::r=>if k=c then[]::cut c r else match cut c r with
  |h::t=>(k::h)::t
  |[]=>[[k]]
theorem vE (c:Nat):∀l:List Nat,¬c∈l->cut c l=[l]
 |[],_=>rfl
 |k::r,h=>by
  have h1:¬k=c:=fun e=>h (e▸ah ..)
  have h2:¬c∈r:=fun m=>h (ai _ m)
  unfold cut
  rw[if_neg h1,vE c r h2]
theorem vF (c:Nat):∀(p r:List Nat),¬c∈p->cut c (p++c::r)=p::cut c r
 |[],r,_=>by show(if c=c then[]::cut c r else _)=_;rw[if_pos rfl]
 |k::p,r,h=>by
  have h1:¬k=c:=fun e=>h (e▸ah ..)
  have h2:¬c∈p:=fun m=>h (ai _ m)
  show(if k=c then _ else match cut c (p++c::r)with|h::t=>(k::h)::t|[]=>[[k]])=_
  rw[if_neg h1,vF c p r h2]
theorem vG (c:Nat):∀parts:List Str,parts≠[]->(∀p∈parts,¬c∈p.cps.toList)->cut c (Str.join ⟨#[c]⟩ parts).cps.toList=parts.map (·.cps.toList)
 |[],h,_=>absurd rfl h
 |[p],_,h=>vE c _ (h p (bg.mpr rfl))
 |p::q::r,_,h=>by
  have ih:=vG c (q::r) (by simp) fun a ha=>h a (ai _ ha)
  show cut c (p++⟨#[c]⟩++Str.join ⟨#[c]⟩ (q::r)).cps.toList=_
  simp only[Str.cps_append,gb]
  have e:p.cps.toList++[c]++(Str.join ⟨#[c]⟩ (q::r)).cps.toList=p.cps.toList++c::(Str.join ⟨#[c]⟩ (q::r)).cps.toList:=by simp
  show cut c (p.cps.toList++[c]++(Str.join ⟨#[c]⟩ (q::r)).cps.toList)=_
  rw[e,vF c _ _ (h p (ah ..)),ih]
  rfl
def step (a:List (List Nat)×List Nat) (k:Nat):List (List Nat)×List Nat:=
 if k=32 then(if a.2=[]then(a.1,[])else(a.1++[a.2],[]))else(a.1,a.2++[k])
def vH (l:List Nat):List (List Nat)×List Nat:=l.foldl step ([],[])
def all (a:List (List Nat)×List Nat):List (List Nat):=if a.2=[]then a.1 else a.1++[a.2]
theorem pz (a b:List Nat):vH (a++b)=b.foldl step (vH a):=by unfold vH;rw[List.foldl_append]
theorem yJ (c:Nat):∀l,cut c l≠[]
 |[]=>by simp[cut]
 |k::r=>by
  unfold cut
  split
  ·simp
  ·split<;>simp
theorem qG (c:Nat):∀l,cut c (l++[c])=cut c l++[[]]
 |[]=>by simp[cut]
 |k::r=>by
  have ih:=qG c r
  show(if k=c then[]::cut c (r++[c])else match cut c (r++[c])with|h::t=>(k::h)::t|[]=>[[k]])=(if k=c then[]::cut c r else match cut c r with|h::t=>(k::h)::t|[]=>[[k]])++[[]]
  rw[ih]
  split
  ·rfl
  ·cases e:cut c r with
   |nil=>exact absurd e (yJ c r)
   |cons h t=>rfl
theorem oH (c:Nat) {k:Nat} (hk:¬k=c):∀l (A:List (List Nat)) (b:List Nat),cut c l=A++[b]->cut c (l++[k])=A++[b++[k]]
 |[],A,b,h=>by
  have e:A=[]/\b=[]:=by
   cases A with
   |nil=>
    have h':[[]]=[b]:=h
    injection h' with h1 _
    exact⟨rfl,h1.symm⟩
   |cons x A=>
    have h':[[]]=x::(A++[b]):=h
    injection h' with _ h2
    simp at h2
  obtain⟨rfl,rfl⟩:=e
  show(if k=c then _ else match cut c []with|h::t=>(k::h)::t|[]=>[[k]])=_
  rw[if_neg hk]
  rfl
 |x::r,A,b,h=>by
  have h:(if x=c then[]::cut c r else match cut c r with|h::t=>(x::h)::t|[]=>[[x]])=A++[b]:=h
  show(if x=c then[]::cut c (r++[k])else match cut c (r++[k])with|h::t=>(x::h)::t|[]=>[[x]])=A++[b++[k]]
  by_cases e:x=c
  ·rw[if_pos e]at h⊢
   cases A with
   |nil=>
    have h':[]::cut c r=[b]:=h
    injection h' with _ h2
    exact absurd h2 (yJ c r)
   |cons y A=>
    have h':[]::cut c r=y::(A++[b]):=h
    injection h' with h1 h2
    rw[oH c hk r A b h2,<-h1]
    rfl
  ·rw[if_neg e]at h⊢
   cases q:cut c r with
   |nil=>exact absurd q (yJ c r)
   |cons g t=>
    rw[q]at h
    have h:(x::g)::t=A++[b]:=h
    cases A with
    |nil=>
     have h':(x::g)::t=[b]:=h
     injection h' with h1 h2
     rw[oH c hk r [] g (by rw[q,h2];rfl),<-h1]
     rfl
    |cons y A=>
     have h':(x::g)::t=y::(A++[b]):=h
     injection h' with h1 h2
     rw[oH c hk r (g::A) b (by rw[q,h2];rfl),<-h1]
     rfl
theorem Ae (l:List Nat):∃A,cut 32 l=A++[(vH l).2]/\A.filter (fun p=>decide (p≠[]))=(vH l).1:=by
 suffices H:∀n (l:List Nat),l.length=n->∃A,cut 32 l=A++[(vH l).2]/\A.filter (fun p=>decide (p≠[]))=(vH l).1 from H _ l rfl
 intro n
 induction n with
 |zero=>
  intro l h
  have e:l=[]:=bL.mp h
  subst e
  exact⟨[],rfl,rfl⟩
 |succ n ih=>
  intro l h
  obtain⟨m,k,rfl⟩:∃m k,l=m++[k]:=by
   have hne:l≠[]:=by intro e;rw[e]at h;simp at h
   exact⟨l.dropLast,l.getLast hne,(List.dropLast_concat_getLast hne).symm⟩
  obtain⟨A,h1,h2⟩:=ih m (by simp at h;exact h)
  rw[pz]
  show ∃A,cut 32 (m++[k])=A++[(step (vH m) k).2]/\A.filter (fun p=>decide (p≠[]))=(step (vH m) k).1
  by_cases e:k=32
  ·subst e
   refine⟨A++[(vH m).2],?_,?_⟩
   ·rw[qG,h1]
    unfold step
    rw[if_pos rfl]
    split<;>rfl
   ·rw[bM,h2]
    unfold step
    rw[if_pos rfl]
    by_cases e2:(vH m).2=[]
    ·rw[if_pos e2,e2];simp
    ·rw[if_neg e2];simp[e2]
  ·refine⟨A,?_,?_⟩
   ·unfold step
    rw[if_neg e]
    exact oH 32 e m A _ h1
   ·unfold step
    rw[if_neg e]
    exact h2
theorem words_cut (l:List Nat):(cut 32 l).filter (fun p=>decide (p≠[]))=all (vH l):=by
 obtain⟨A,h1,h2⟩:=Ae l
 rw[h1,bM,h2]
 unfold all
 by_cases e:(vH l).2=[]
 ·rw[if_pos e,e];simp
 ·rw[if_neg e];simp[e]
def ex (k:Nat):List Nat:=if k=40 then[32,40,32]else if k=41 then[32,41,32]else if k=10 then[32]else[k]
def spaced (l:List Nat):List Nat:=l.flatMap ex
theorem rh (a b:List Nat):spaced (a++b)=spaced a++spaced b:=List.flatMap_append ..
theorem spaced_sub:∀l:List Nat,sub 10 [32] (sub 41 [32,41,32] (sub 40 [32,40,32] l))=spaced l
 |[]=>rfl
 |k::r=>by
  have ih:=spaced_sub r
  have e:∀(c:Nat) (z:List Nat) (l:List Nat) (k:Nat),sub c z (k::l)=(if k=c then z else[k])++sub c z l:=fun _ _ _ _=>rfl
  have e2:spaced (k::r)=ex k++spaced r:=rfl
  rw[e,mM,mM,ih,e2]
  congr 1
  unfold ex
  by_cases h1:k=40
  ·rw[if_pos h1,if_pos h1];rfl
  ·rw[if_neg h1,if_neg h1]
   by_cases h2:k=41
   ·rw[if_pos h2,h2];rfl
   ·rw[if_neg h2,e,if_neg h2]
    show sub 10 [32] ([k]++[])=_
    rw[aE,e]
    by_cases h3:k=10
    ·rw[if_pos h3];rfl
    ·rw[if_neg h3];rfl
def W (l:List Nat):List (List Nat)×List Nat:=vH (spaced l)
theorem oJ (a b:List Nat):W (a++b)=(spaced b).foldl step (W a):=by unfold W;rw[rh,pz]
theorem W_gap (a:List Nat) {k:Nat} (hk:k=32\/k=10):W (a++[k])=(all (W a),[]):=by
 rw[oJ]
 have e:spaced [k]=[32]:=by rcases hk with e|e<;>subst e<;>rfl
 rw[e]
 show step (W a) 32=_
 unfold step all
 rw[if_pos rfl]
 split<;>rfl
theorem yK (a:List Nat) {k:Nat} (hk:k=40\/k=41):W (a++[k])=(all (W a)++[[k]],[]):=by
 rw[oJ]
 have e:spaced [k]=[32,k,32]:=by rcases hk with e|e<;>subst e<;>rfl
 have n32:¬k=32:=by lia
 rw[e]
 show step (step (step (W a) 32) k) 32=_
 have e1:step (W a) 32=(all (W a),[]):=by
  unfold step all
  rw[if_pos rfl]
  split<;>rfl
 rw[e1]
 show(if(32:Nat)=32 then(if(step (all (W a),[]) k).2=[]then((step (all (W a),[]) k).1,[])else((step (all (W a),[]) k).1++[(step (all (W a),[]) k).2],[]))else _)=_
 have e2:step (all (W a),[]) k=(all (W a),[k]):=by unfold step;rw[if_neg n32];rfl
 rw[if_pos rfl,e2]
 rfl
theorem Gj (a:List Nat):∀p:List Nat,(∀k∈p,k≠32/\k≠10/\k≠40/\k≠41)->W (a++p)=((W a).1,(W a).2++p):=by
 intro p hp
 rw[oJ]
 have e:spaced p=p:=by
  induction p with
  |nil=>rfl
  |cons k r ih=>
   obtain⟨h1,h2,h3,h4⟩:=hp k (ah ..)
   have e2:spaced (k::r)=ex k++spaced r:=rfl
   rw[e2,ih fun x hx=>hp x (ai _ hx)]
   unfold ex
   rw[if_neg h3,if_neg h4,if_neg h2]
   rfl
 rw[e]
 generalize W a=b
 induction p generalizing b with
 |nil=>show b=_;rw[aE]
 |cons k r ih=>
  obtain⟨h1,h2,h3,h4⟩:=hp k (ah ..)
  show r.foldl step (step b k)=_
  have e1:step b k=(b.1,b.2++[k]):=by unfold step;rw[if_neg h1]
  have e3:spaced r=r:=by
   have e2:spaced (k::r)=ex k++spaced r:=rfl
   have e4:ex k=[k]:=by unfold ex;rw[if_neg h3,if_neg h4,if_neg h2]
   rw[e2,e4]at e
   injection e
  rw[e1,ih (fun x hx=>hp x (ai _ hx)) e3]
  simp
open Builtin Builtin.Str
theorem replace_codes (x z:Str) (c:Nat):(Txt.replace x ⟨#[c]⟩ z).cps.toList=sub c z.cps.toList x.cps.toList:=by
 rw[StrLaws.replace_one,<-vD c z _ (StrLaws.split_free x c),StrLaws.join_split]
theorem Af (x y:Str):Txt.split x y≠[]:=by
 unfold Txt.split
 split
 ·simp
 ·split
  ·simp
  ·rename_i h
   cases e:occurrences x y 0 x.length (x.length+ 1)with
   |nil=>rw[e]at h;exact absurd rfl h
   |cons a r=>simp[partsBetween]
theorem split_codes (x:Str) (c:Nat):(Txt.split x ⟨#[c]⟩).map (·.cps.toList)=cut c x.cps.toList:=by
 have h:=vG c (Txt.split x ⟨#[c]⟩) (Af x _) (StrLaws.split_free x c)
 rw[StrLaws.join_split]at h
 exact h.symm
theorem flat_len (f:Nat->List Nat) (n:Nat) (h:∀k,(f k).length<=n):∀l:List Nat,(l.flatMap f).length<=n*l.length
 |[]=>by simp
 |k::r=>by
  rw[List.flatMap_cons,aO,aA]
  have h1:=h k
  have h2:=flat_len f n h r
  rw[Nat.mul_succ]
  lia
theorem str_ext {x y:Str} (h:x.cps.toList=y.cps.toList):x=y:=by
 obtain⟨a⟩:=x
 obtain⟨b⟩:=y
 have e:a=b:=Array.toList_inj.mp h
 rw[e]
theorem len_codes (x:Str):x.cps.toList.length=x.length:=by rw[fY];rfl
theorem dig_len:∀(k m:Nat),m<10^(k+ 1)->(dh 10 m).length<=k+ 1:=by
 intro k
 induction k with
 |zero=>
  intro m h
  rw[di (by simpa using h)]
  exact c7 _
 |succ k ih=>
  intro m h
  by_cases h10:m<10
  ·rw[di h10]
   show 1<=_
   lia
  ·have hm:m%10<10:=Nat.mod_lt m (by decide)
   have t:dh 10 (m/10)++dh 10 (m%10)=dh 10 (10*(m/10)+m%10):=dj (by decide) (by lia) hm
   rw[Nat.div_add_mod]at t
   rw[<-t,aO,di hm]
   have hq:m/10<10^(k+ 1):=by
    rw[Nat.div_lt_iff_lt_mul (by decide)]
    rw[Nat.pow_succ]at h
    exact h
   have:=ih (m/10) hq
   show _+ 1<=_
   lia
end T1
namespace GR.Internal
open PySem L2.Internal
theorem sz {n:Nat} (h:n<=100000):n<=sizeLine:=cX h (by decide)
theorem gJ {H:Hp} {p:Addr} (h:H p=none) (o:HO):gT H (upd H p o):=fun b u q=>by rw[gM (gL q h)];exact q
def wV (w:List Nat):V:= .str ⟨w.toArray⟩
def pA (l:List Nat):List V:=(T1.all (T1.W l)).map wV
theorem wR (l:List Nat):pA l=((T1.all (T1.W l)).map fun w=>(⟨w.toArray⟩:Str)).map V.str:=by
 unfold pA
 rw[bA]
 rfl
def KWV:List V:=[.str "def",.str "fn",.str "call",.str "let",.str "rec",.str "get",.str "tag",.str "case",.str "row",.str "at",.str "join",.str "size",.str "add",.str "sub",.str "less"]
def SM:Str:="abcdefghijklmnopqrstuvwxyz"
def FG:Str:="0123456789"
def allIn (x y:Str):Bool:=x.cps.toList.all fun c=>decide (c∈y.cps.toList)
def firstIn (x y:Str):Bool:=match x.cps.toList with
 |[]=>false
 |c::_=>decide (c∈y.cps.toList)
def isName (x:Str):Bool:=decide (1<=x.length)&&decide (x.length<=12)&&!inV (.str x) KWV&&firstIn x SM&&allIn x (SM++FG)
theorem first_of {x:Str} (h:1<=x.length):∃c r,x.cps.toList=c::r:=by
 have e:=T1.len_codes x
 cases q:x.cps.toList with
 |nil=>rw[q]at e;simp at e;lia
 |cons c r=>exact⟨c,r,rfl⟩
theorem at0 {c:Nat} {r:List Nat}:atI (c::r) (0:Int)=some c:=gN (j:=0) rfl
def pB (x:Str):Bool:=match x.cps.toList with
 |[]=>false
 |c::_=>c==48
def jD (x:Str):Bool:=decide (1<=x.length)&&decide (x.length<=60)&&allIn x FG&&(!pB x||decide (x="0"))
def tj (x:Str):Int:=(intText? x).getD 0
theorem Cv (c:Nat):decide (V.str ⟨#[c]⟩=V.str "0")=(c==48):=by
 by_cases h:c=48
 ·subst h
  rfl
 ·have h1:¬V.str ⟨#[c]⟩=V.str "0":=fun z=>by
   injection z with z
   have e:(⟨#[c]⟩:Str).cps.toList=("0":Str).cps.toList:=by rw[z]
   have e2:[c]=[48]:=e
   injection e2 with e3 _
   exact h e3
  rw[decide_eq_false h1]
  exact(beq_eq_false_iff_ne.mpr h).symm
theorem vI:∀c∈FG.cps.toList,48<=c/\c<=57:=by decide+kernel
theorem allIn_mem {x y:Str} (h:allIn x y=true):∀c∈x.cps.toList,c∈y.cps.toList:=fun c hc=>of_decide_eq_true (bw.mp h c hc)
theorem wU {x:Str} (h1:1<=x.length) (h2:x.length<=100) (h:allIn x FG=true):intText? x=some (tj x):=by
 have hd:PySem.NumText.AllDigits x.cps.toList:=fun c hc=>vI c (allIn_mem h c hc)
 have hne:x.cps.toList≠[]:=by
  obtain⟨c,r,e⟩:=first_of h1
  rw[e]
  exact bN _ _
 have e:=PySem.intText_digits hd hne (by lia)
 unfold tj
 rw[e]
 rfl
theorem pE {x:Str} (h:jD x=true):1<=x.length/\x.length<=60/\allIn x FG=true:=by
 unfold jD at h
 simp only[fV,decide_eq_true_eq]at h
 exact⟨h.1.1.1,h.1.1.2,h.1.2⟩
theorem Cw {n j:Nat} (h:j<n):ixN n (j:Int)=some j:=by
 unfold ixN
 rw[if_pos (by lia),if_pos (by lia)]
 simp
def fR (wl:Addr) (k:Int) (rl:Addr):List (Str×V):=[("words",.ref wl),("taken",.int k),("rows",.ref rl)]
theorem Gk (wl:Addr) (k:Int) (rl:Addr):nZ "rows" (.ref rl) (nZ "taken" (.int k) (nZ "words" (.ref wl) []))=fR wl k rl:=by
 have h1:¬(("words":Str)="taken"):=by decide+kernel
 have h2:¬(("words":Str)="rows"):=by decide+kernel
 have h3:¬(("taken":Str)="rows"):=by decide+kernel
 simp only[nZ,if_neg h1,if_neg h2,if_neg h3,fR]
theorem Eo (wl:Addr) (k j:Int) (rl:Addr):nZ "taken" (.int j) (fR wl k rl)=fR wl j rl:=by
 have h1:¬(("words":Str)="taken"):=by decide+kernel
 simp only[nZ,fR,if_neg h1,if_pos]
theorem vJ (wl:Addr) (k:Int) (rl:Addr):(fR wl k rl).lookup ("words":Str)=some (.ref wl):=by
 unfold fR
 rw[bj,show(("words":Str)=="words")=true by decide+kernel]
theorem rj (wl:Addr) (k:Int) (rl:Addr):(fR wl k rl).lookup ("taken":Str)=some (.int k):=by
 unfold fR
 rw[bj,show(("taken":Str)=="words")=false by decide+kernel,bj,show(("taken":Str)=="taken")=true by decide+kernel]
theorem rk (wl:Addr) (k:Int) (rl:Addr):(fR wl k rl).lookup ("rows":Str)=some (.ref rl):=by
 unfold fR
 rw[bj,show(("rows":Str)=="words")=false by decide+kernel,bj,show(("rows":Str)=="taken")=false by decide+kernel,bj,show(("rows":Str)=="rows")=true by decide+kernel]
theorem Ag (wl:Addr) (k:Int) (rl:Addr) {m:Str} (h1:(m=="words")=false) (h2:(m=="taken")=false) (h3:(m=="rows")=false):(fR wl k rl).lookup m=none:=by
 unfold fR
 rw[bj,h1,bj,h2,bj,h3]
 rfl
structure nO (C:Addr) (H:Hp) (p dx wl rl:Addr) (ws:List Str) (k:Nat) (rows:List V):Prop where
 ob:H p=some (.ins C dx (fR wl (k:Int) rl))
 wd:H wl=some (.lst (ws.map V.str))
 rw:H rl=some (.lst rows)
 ne:wl≠rl
structure WOk (ws:List Str):Prop where
 len:ws.length<=30000
 one:∀x∈ws,x≠""/\x.length<=30000/\∀c∈x.cps.toList,c<16^8
theorem nP {ws:List Str} (W:WOk ws) {x:Str} (h:x∈ws):(reprText x).length<=300002:=by
 obtain⟨_,h1,h2⟩:=W.one x h
 have:=StrLaws.reprText_len x h2
 lia
theorem Fx {a:Str} (h:a.length<=300002):(Str.empty++a).length<=sizeLine:=by
 have sl:sizeLine=16777216:=sizeLine_eq
 rw[Str.length_append]
 show 0+_<=_
 lia
theorem Cy {a b:Str} (h:a.length<=300002) (h2:b.length<=100):(Str.empty++a++b).length<=sizeLine:=by
 have sl:sizeLine=16777216:=sizeLine_eq
 rw[Str.length_append,Str.length_append]
 show 0+_+_<=_
 lia
theorem cat3 {a b c:Str} (h:a.length<=300002) (h2:b.length<=100) (h3:c.length<=300002):(Str.empty++a++b++c).length<=sizeLine:=by
 have sl:sizeLine=16777216:=sizeLine_eq
 rw[Str.length_append,Str.length_append,Str.length_append]
 show 0+_+_+_<=_
 lia
theorem G3 {a b c d:Str} (h:a.length<=300002) (h2:b.length<=100) (h3:c.length<=300002) (h4:d.length<=100):(Str.empty++a++b++c++d).length<=sizeLine:=by
 have sl:sizeLine=16777216:=sizeLine_eq
 rw[Str.length_append,Str.length_append,Str.length_append,Str.length_append]
 show 0+_+_+_+_<=_
 lia
def fP (a b c:Addr):List (Str×V):=[("names",.ref a),("roots",.ref b),("rows",.ref c)]
theorem Gm (a b c:Addr):nZ "rows" (.ref c) (nZ "roots" (.ref b) (nZ "names" (.ref a) []))=fP a b c:=by
 have h1:¬(("names":Str)="roots"):=by decide+kernel
 have h2:¬(("names":Str)="rows"):=by decide+kernel
 have h3:¬(("roots":Str)="rows"):=by decide+kernel
 simp only[nZ,if_neg h1,if_neg h2,if_neg h3,fP]
theorem Gn {c:Nat} (h1:48<=c) (h2:c<=57):c∈FG.cps.toList:=by
 have e:FG.cps.toList=[48,49,50,51,52,53,54,55,56,57]:=by decide+kernel
 rw[e]
 have:c=48\/c=49\/c=50\/c=51\/c=52\/c=53\/c=54\/c=55\/c=56\/c=57:=by lia
 rcases this with rfl|rfl|rfl|rfl|rfl|rfl|rfl|rfl|rfl|rfl<;>decide
theorem str_fig {n:Int} {k:Nat} (h0:0<=n) (h1:n<10^(k+ 1)):(∀c∈(PySem.Str.ofString (toString n)).cps.toList,c∈FG.cps.toList)/\1<=(PySem.Str.ofString (toString n)).length/\(PySem.Str.ofString (toString n)).length<=k+ 1:=by
 obtain⟨m,rfl⟩:=gh h0
 have hm:m<10^(k+ 1):=by
  have z:((m:Nat):Int)<((10^(k+ 1):Nat):Int):=by rw[Int.natCast_pow];exact h1
  exact Int.ofNat_lt.mp z
 have e:=PySem.W.KIN.signs_num m
 have el:=T1.len_codes (PySem.Str.ofString (toString ((m:Nat):Int)))
 rw[e,aD]at el
 refine⟨fun c hc=>?_,?_,?_⟩
 ·rw[e]at hc
  obtain⟨ch,hch,rfl⟩:=bb.mp hc
  obtain⟨r1,r2⟩:=PyProof.Rows.digit_range (Nat.isDigit_of_mem_toDigits (by decide) (by decide) hch)
  exact Gn r1 r2
 ·have z:=PySem.toDigits_len_ge 10 m
  lia
 ·have z:=T1.dig_len k m hm
  lia
theorem Ep {n:Int} (h0:0<=n) (h1:n<10^70):n.natAbs.log2<1920:=by
 by_cases hz:n.natAbs=0
 ·rw[hz]
  decide
 ·rw[Nat.log2_lt hz]
  have a:n.natAbs<10^70:=by lia
  exact Nat.lt_trans a (by decide+kernel)
theorem ka (x y:Str):(x++y).cps.toList=x.cps.toList++y.cps.toList:=by rw[Str.cps_append,gb]
theorem nO.ne1 {C p dx wl rl:Addr} {H:Hp} {ws:List Str} {k:Nat} {rows:List V} (R:nO C H p dx wl rl ws k rows):p≠wl:=kU R.ob R.wd (fun z=>nomatch z)
theorem nO.ne2 {C p dx wl rl:Addr} {H:Hp} {ws:List Str} {k:Nat} {rows:List V} (R:nO C H p dx wl rl ws k rows):p≠rl:=kU R.ob R.rw (fun z=>nomatch z)
theorem nO.next {C p dx wl rl:Addr} {H:Hp} {ws:List Str} {k:Nat} {rows:List V} (R:nO C H p dx wl rl ws k rows) (j:Nat):nO C (upd H p (.ins C dx (fR wl (j:Int) rl))) p dx wl rl ws j rows:=
 ⟨gE,by rw[gM (Ne.symm R.ne1)];exact R.wd,by rw[gM (Ne.symm R.ne2)];exact R.rw,R.ne⟩
theorem nO.same {C p dx wl rl:Addr} {H H':Hp} {ws:List Str} {k:Nat} {rows:List V} (R:nO C H p dx wl rl ws k rows) (S:gT H H'):nO C H' p dx wl rl ws k rows:=⟨S _ _ R.ob,S _ _ R.wd,S _ _ R.rw,R.ne⟩
theorem tn0 {σ:St} {H:Hp} {Q:List V->Hp->Prop} (h:Q [] H):zI σ H Q:=h
theorem tc1 {v:V} {σ:St} {H:Hp} {Q:List V->Hp->Prop} (h:Q [v] H):ui (tC v) zI σ H Q:=h
theorem iN (wl:Addr) (k:Int) (rl:Addr) (m:Str) (h:m="ahead"\/m="pass_over"\/m="take_name"\/m="take_expr"\/m="take"\/m="take_row"\/m="take_steady"\/m="take_fields"\/m="take_arms"\/m="take_things"\/m="take_form"):(fR wl k rl).lookup m=none:=by
 rcases h with rfl|rfl|rfl|rfl|rfl|rfl|rfl|rfl|rfl|rfl|rfl<;>exact Ag _ _ _ (by decide+kernel) (by decide+kernel) (by decide+kernel)
theorem rm {H H':Hp} {p:Addr} (o:HO) (h:H p=none) (S:gT H H'):gT H (upd H' p o):=fun b u e=>by rw[gM (gL e h)];exact S b u e
abbrev Rs:=List Str×List Dt
def gU (pe:List Str->List Dt->Option Rs):List Bool->List Dt->List Str->List Dt->Option (List Dt×Rs)
 |[],acc,ws,rows=>some (acc,ws,rows)
 |true::ps,acc,ws,rows=>match ws with
  |[]=>none
  |x::r=>if isName x=true then gU pe ps (acc++[.flat (.str x)]) r rows else none
 |false::ps,acc,ws,rows=>match pe ws rows with
  |none=>none
  |some (r,rows')=>gU pe ps (acc++[.flat (.int (rows.length:Int))]) r rows'
def jh (item:List Str->List Dt->Option (Dt×Rs)) (ws:List Str) (rows acc:List Dt):Option (List Dt×Rs):=
 if ws.head?=some ")" then some (acc,ws,rows)else match item ws rows with
  |none=>none
  |some (d,r,rows')=>if h:r.length<ws.length then jh item r rows' (acc++[d])else none
termination_by ws.length
def je (pe:List Str->List Dt->Option Rs) (ps:List Bool) (ws:List Str) (rows:List Dt):Option (Dt×Rs):=match gU pe ps [] ws rows with
 |none=>none
 |some (ds,r)=>some (.tup ds,r)
def kX (pe:List Str->List Dt->Option Rs) (ws:List Str) (rows:List Dt):Option (Dt×Rs):=match pe ws rows with
 |none=>none
 |some r=>some (.flat (.int (rows.length:Int)),r)
def chk (lo hi:Nat) (o:Option (List Dt×Rs)):Option (List Dt×Rs):=match o with
 |none=>none
 |some (l,r)=>if lo<=l.length/\l.length<=hi then some (l,r)else none
def stT:List (Str×List Bool):=[("fn",[true,false]),("call",[false,false]),("let",[true,false,false]),("get",[false,true]),("tag",[true,false]),("at",[false,false,false]),
 ("join",[false,false]),("size",[false]),("add",[false,false]),("sub",[false,false]),("less",[false,false])]
def stP (h:Str):Option (List Bool):=(stT.find? fun p=>decide (p.1=h)).map (·.2)
def jv (pe:List Str->List Dt->Option Rs) (h:Str) (ws:List Str) (rows:List Dt):Option (List Dt×Rs):=
 if h="rec" then match chk 0 6 (jh (je pe [true,false]) ws rows [])with
  |none=>none
  |some (l,r)=>some ([.flat (.str "rec"),.tup l],r)
 else if h="case" then match pe ws rows with
  |none=>none
  |some (r1,rows1)=>match chk 1 6 (jh (je pe [true,true,false]) r1 rows1 [])with
   |none=>none
   |some (l,r)=>some ([.flat (.str "case"),.flat (.int (rows.length:Int)),.tup l],r)
 else if h="row" then match chk 0 8 (jh (kX pe) ws rows [])with
  |none=>none
  |some (l,r)=>some ([.flat (.str "row"),.tup l],r)
 else match stP h with
  |none=>none
  |some ps=>match gU pe ps [] ws rows with
   |none=>none
   |some (ds,r)=>some (.flat (.str h)::ds,r)
def mw (o:Option (List Dt×Rs)):Option (List Dt×Rs):=match o with
 |none=>none
 |some (ds,r,rows)=>match r with
  |[]=>none
  |y::r'=>if y=")" then some (ds,r',rows)else none
def qH (pe:List Str->List Dt->Option Rs) (ws:List Str) (rows:List Dt):Option (List Dt×Rs):=match ws with
 |[]=>none
 |x::r=>if jD x=true then some ([.flat (.str "num"),.flat (.int (tj x))],r,rows)
  else if isName x=true then some ([.flat (.str "name"),.flat (.str x)],r,rows)
  else if x="(" then(match r with
   |[]=>none
   |h::r2=>mw (jv pe h r2 rows))
  else none
def hI:Nat->List Str->List Dt->Option Rs
 |0,_,_=>none
 |f+ 1,ws,rows=>if rows.length=160 then none else match qH (hI f) ws (rows++[.flat .non])with
  |none=>none
  |some (ds,r,rows')=>some (r,rows'.set rows.length (.tup ds))
def jJ (ws:List Str) (rows:List Dt) (names:List Str) (roots:List Dt):Option (List Str×List Dt×List Dt):=match ws with
 |[]=>some (names,roots,rows)
 |[_]=>none
 |[_,_]=>none
 |a::b::c::r=>if a="("/\b="def"/\isName c=true then(match hI 24 r rows with
   |none=>none
   |some (r2,rows2)=>match r2 with
    |[]=>none
    |y::r3=>if y=")" then(if h:r3.length<r.length+ 3 then jJ r3 rows2 (names++[c]) (roots++[.flat (.int (rows.length:Int))])else none)else none)else none
termination_by ws.length
decreasing_by simp_wf;lia
def mV (ws:List Str):Option (List Str×List Dt×List Dt):=match jJ ws [] [] []with
 |none=>none
 |some (n,r,rows)=>if 1<=n.length/\n.length<=12 then some (n,r,rows)else none
structure oB (ws:List Str) (rows:List Dt) (r:Rs):Prop where
 le:r.1.length<=ws.length
 up:rows.length<=r.2.length
 most:rows.length<=160->r.2.length<=160
 suf:∃u,ws=u++r.1
theorem oB.refl (ws:List Str) (rows:List Dt):oB ws rows (ws,rows):=⟨c7 _,c7 _,fun h=>h,[],rfl⟩
theorem oB.trans {ws:List Str} {rows:List Dt} {r s:Rs} (a:oB ws rows r) (b:oB r.1 r.2 s):oB ws rows s:=by
 obtain⟨u,e⟩:=a.suf
 obtain⟨v,e'⟩:=b.suf
 exact⟨cX b.le a.le,cX a.up b.up,fun h=>b.most (a.most h),u++v,by rw[a8,<-e',<-e]⟩
theorem oB.drop {x:Str} {r:List Str} {rows:List Dt}:oB (x::r) rows (r,rows):=⟨dc _,c7 _,fun h=>h,[x],rfl⟩
def zz (pe:List Str->List Dt->Option Rs):Prop:=∀ws rows r,pe ws rows=some r->oB ws rows r/\r.1.length<ws.length/\rows.length<r.2.length
theorem kY {pe:List Str->List Dt->Option Rs} (g:zz pe):∀(ps:List Bool) (acc:List Dt) (ws:List Str) (rows ds:List Dt) (r:Rs),gU pe ps acc ws rows=some (ds,r)->oB ws rows r/\(ps≠[]->r.1.length<ws.length)/\ds.length=acc.length+ps.length
 |[],acc,ws,rows,ds,r,h=>by
  rw[gU]at h
  cases h
  exact⟨oB.refl _ _,fun z=>absurd rfl z,rfl⟩
 |true::ps,acc,[],rows,ds,r,h=>by
  rw[gU]at h
  cases h
 |true::ps,acc,x::ws,rows,ds,r,h=>by
  rw[gU]at h
  split at h
  ·obtain⟨s,_,l⟩:=kY g ps _ _ _ _ _ h
   have s':=(oB.drop (x:=x)).trans s
   refine⟨s',fun _=>?_,?_⟩
   ·have:=s.le
    simp only[aA]
    lia
   ·simp only[aO,aA,aT]at l⊢
    lia
  ·cases h
 |false::ps,acc,ws,rows,ds,r,h=>by
  rw[gU]at h
  split at h
  ·cases h
  ·rename_i r1 rows1 e
   obtain⟨s1,lt,_⟩:=g _ _ _ e
   obtain⟨s,_,l⟩:=kY g ps _ _ _ _ _ h
   refine⟨s1.trans s,fun _=>de s.le lt,?_⟩
   simp only[aO,aA,aT]at l⊢
   lia
def tm (item:List Str->List Dt->Option (Dt×Rs)):Prop:=∀ws rows d r,item ws rows=some (d,r)->oB ws rows r/\r.1.length<ws.length
theorem lW {pe:List Str->List Dt->Option Rs} (g:zz pe) (ps:List Bool) (h:ps≠[]):tm (je pe ps):=by
 intro ws rows d r e
 unfold je at e
 split at e
 ·cases e
 ·rename_i ds r' e'
  cases e
  obtain⟨s,l,_⟩:=kY g ps _ _ _ _ _ e'
  exact⟨s,l h⟩
theorem oh {pe:List Str->List Dt->Option Rs} (g:zz pe):tm (kX pe):=by
 intro ws rows d r e
 unfold kX at e
 split at e
 ·cases e
 ·rename_i r' e'
  cases e
  obtain⟨s,l,_⟩:=g _ _ _ e'
  exact⟨s,l⟩
theorem oi {item:List Str->List Dt->Option (Dt×Rs)} (g:tm item) (ws:List Str) (rows acc:List Dt) (h:ws.head?≠some ")"):
  jh item ws rows acc=match item ws rows with
   |none=>none
   |some (d,r,rows')=>jh item r rows' (acc++[d]):=by
 rw[jh,if_neg h]
 cases e:item ws rows with
 |none=>rfl
 |some x=>
  obtain⟨d,r,rows'⟩:=x
  have l:=(g _ _ _ _ e).2
  show(if h:r.length<ws.length then _ else _)=_
  rw[dif_pos l]
theorem ma {item:List Str->List Dt->Option (Dt×Rs)} (ws:List Str) (rows acc:List Dt) (h:ws.head?=some ")"):jh item ws rows acc=some (acc,ws,rows):=by
 rw[jh,if_pos h]
theorem pF {item:List Str->List Dt->Option (Dt×Rs)} (g:tm item):∀(n:Nat) (ws:List Str) (rows acc l:List Dt) (r:Rs),ws.length<=n->jh item ws rows acc=some (l,r)->oB ws rows r:=by
 intro n
 induction n with
 |zero=>
  intro ws rows acc l r hn h
  by_cases hh:ws.head?=some ")"
  ·rw[ma _ _ _ hh]at h
   cases h
   exact oB.refl _ _
  ·rw[oi g _ _ _ hh]at h
   split at h
   ·cases h
   ·rename_i d r' rows' e
    have l:=(g _ _ _ _ e).2
    lia
 |succ n ih=>
  intro ws rows acc l r hn h
  by_cases hh:ws.head?=some ")"
  ·rw[ma _ _ _ hh]at h
   cases h
   exact oB.refl _ _
  ·rw[oi g _ _ _ hh]at h
   split at h
   ·cases h
   ·rename_i d r' rows' e
    obtain⟨s,lt⟩:=g _ _ _ _ e
    exact s.trans (ih _ _ _ _ _ (by lia) h)
theorem rq {lo hi:Nat} {o:Option (List Dt×Rs)} {l:List Dt} {r:Rs} (h:chk lo hi o=some (l,r)):o=some (l,r)/\lo<=l.length/\l.length<=hi:=by
 unfold chk at h
 split at h
 ·cases h
 ·split at h
  ·cases h
   rename_i z
   exact⟨rfl,z⟩
  ·cases h
theorem yL {pe:List Str->List Dt->Option Rs} (g:zz pe) {h:Str} {ws:List Str} {rows ds:List Dt} {r:Rs} (e:jv pe h ws rows=some (ds,r)):oB ws rows r:=by
 unfold jv at e
 split at e
 ·split at e
  ·cases e
  ·rename_i l r' e'
   cases e
   exact pF (lW g _ (by simp)) _ _ _ _ _ _ (c7 _) (rq e').1
 split at e
 ·split at e
  ·cases e
  ·rename_i r1 rows1 e1
   split at e
   ·cases e
   ·rename_i l r' e'
    cases e
    exact(g _ _ _ e1).1.trans (pF (lW g _ (by simp)) _ _ _ _ _ _ (c7 _) (rq e').1)
 split at e
 ·split at e
  ·cases e
  ·rename_i l r' e'
   cases e
   exact pF (oh g) _ _ _ _ _ _ (c7 _) (rq e').1
 split at e
 ·cases e
 ·split at e
  ·cases e
  ·rename_i ds' r' e'
   cases e
   exact(kY g _ _ _ _ _ _ e').1
theorem wW {o:Option (List Dt×Rs)} {ds:List Dt} {r:Rs} {ws:List Str} {rows:List Dt} (h:∀ds' r',o=some (ds',r')->oB ws rows r') (e:mw o=some (ds,r)):oB ws rows r:=by
 unfold mw at e
 split at e
 ·cases e
 ·rename_i ds' r' rows'
  split at e
  ·cases e
  ·split at e
   ·cases e
    exact(h _ _ rfl).trans oB.drop
   ·cases e
theorem vK {pe:List Str->List Dt->Option Rs} (g:zz pe) {ws:List Str} {rows ds:List Dt} {r:Rs} (e:qH pe ws rows=some (ds,r)):oB ws rows r/\r.1.length<ws.length:=by
 unfold qH at e
 split at e
 ·cases e
 ·rename_i x ws'
  split at e
  ·cases e
   exact⟨oB.drop,da _⟩
  split at e
  ·cases e
   exact⟨oB.drop,da _⟩
  split at e
  ·split at e
   ·cases e
   ·rename_i hh h r2
    have s:=wW (fun ds' r' z=>yL g z) e
    have s2:=(oB.drop (x:=h)).trans s
    exact⟨(oB.drop (x:=x)).trans s2,de s2.le (da _)⟩
  ·cases e
theorem jw:∀f:Nat,zz (hI f)
 |0=>fun ws rows r e=>by rw[hI]at e;cases e
 |f+ 1=>fun ws rows r e=>by
  rw[hI]at e
  split at e
  ·cases e
  ·rename_i hne
   split at e
   ·cases e
   ·rename_i ds r' rows' e'
    cases e
    obtain⟨s,lt⟩:=vK (jw f) e'
    have up:=s.up
    simp only[aO,aA,aT]at up
    refine⟨⟨s.le,?_,fun h=>?_,s.suf⟩,lt,?_⟩
    ·show rows.length<=(rows'.set _ _).length
     rw[aX]
     lia
    ·show(rows'.set _ _).length<=160
     rw[aX]
     refine s.most ?_
     simp only[aO,aA,aT]
     lia
    ·show rows.length<(rows'.set _ _).length
     rw[aX]
     lia
section
variable {pe:List Str->List Dt->Option Rs} {x:Str} {r:List Str} {rows:List Dt}
theorem uG (h:jD x=true):qH pe (x::r) rows=some ([.flat (.str "num"),.flat (.int (tj x))],r,rows):=by unfold qH;exact if_pos h
theorem rA (h1:¬jD x=true) (h:isName x=true):qH pe (x::r) rows=some ([.flat (.str "name"),.flat (.str x)],r,rows):=by unfold qH;exact(if_neg h1).trans (if_pos h)
theorem Er (h1:¬jD x=true) (h2:¬isName x=true) (h:¬x="("):qH pe (x::r) rows=none:=by unfold qH;exact(if_neg h1).trans ((if_neg h2).trans (if_neg h))
theorem uH {y:Str} (h1:¬jD x=true) (h2:¬isName x=true) (h:x="("):qH pe (x::y::r) rows=mw (jv pe y r rows):=by unfold qH;exact(if_neg h1).trans ((if_neg h2).trans (if_pos h))
theorem Ah (h1:¬jD x=true) (h2:¬isName x=true) (h:x="("):qH pe [x] rows=none:=by unfold qH;exact(if_neg h1).trans ((if_neg h2).trans (if_pos h))
end
section
variable {rows:List Dt} {names:List Str} {roots:List Dt}
theorem defs_nil:jJ [] rows names roots=some (names,roots,rows):=by rw[jJ]
theorem Ai {ws:List Str} (h0:ws≠[]) (h:ws.head?≠some "("):jJ ws rows names roots=none:=by
 match ws,h0,h with
 |[_],_,_=>rw[jJ]
 |[_,_],_,_=>rw[jJ]
 |a::b::c::r,_,h=>
  rw[jJ,if_neg]
  exact fun z=>h (congrArg some z.1)
theorem Aj {r:List Str} (h:r.head?≠some "def"):jJ ("("::r) rows names roots=none:=by
 match r,h with
 |[],_=>rw[jJ]
 |[_],_=>rw[jJ]
 |b::c::r,h=>
  rw[jJ,if_neg]
  exact fun z=>h (congrArg some z.2.1)
theorem Ak {r:List Str} (h:∀x r',r=x::r'->isName x=false):jJ ("("::"def"::r) rows names roots=none:=by
 match r,h with
 |[],_=>rw[jJ]
 |c::r,h=>
  rw[jJ,if_neg]
  intro z
  have:=h c r rfl
  rw[z.2.2]at this
  cases this
theorem Al {c:Str} {r:List Str} (hc:isName c=true) (e:hI 24 r rows=none):jJ ("("::"def"::c::r) rows names roots=none:=by
 rw[jJ,if_pos ⟨rfl,rfl,hc⟩,e]
theorem Am {c:Str} {r r2:List Str} {rows2:List Dt} (hc:isName c=true) (e:hI 24 r rows=some (r2,rows2)) (h:r2.head?≠some ")"):jJ ("("::"def"::c::r) rows names roots=none:=by
 rw[jJ,if_pos ⟨rfl,rfl,hc⟩,e]
 match r2,h with
 |[],_=>rfl
 |y::r3,h=>exact if_neg fun z=>h (congrArg some z)
theorem defs_yes {c:Str} {r r3:List Str} {rows2:List Dt} (hc:isName c=true) (e:hI 24 r rows=some ((")":Str)::r3,rows2)):jJ ("("::"def"::c::r) rows names roots=jJ r3 rows2 (names++[c]) (roots++[.flat (.int (rows.length:Int))]):=by
 rw[jJ,if_pos ⟨rfl,rfl,hc⟩,e]
 have l:((")":Str)::r3).length<r.length:=(jw 24 _ _ _ e).2.1
 have l2:r3.length<r.length+ 3:=by
  rw[aA]at l
  lia
 show(if(")":Str)=")" then(if h:r3.length<r.length+ 3 then _ else _)else _)=_
 rw[if_pos rfl,dif_pos l2]
end
mutual
inductive TAt (K:PySem.W.Frag) (H:Hp):V->Dt->Prop where
 |flat {v:V} (h:m8 v=true):TAt K H v (.flat v)
 |tup {a:Addr} {xs:List V} {ds:List Dt} (h:H a=some (.tup xs)) (hs:lM K H xs ds):TAt K H (.ref a) (.tup ds)
inductive lM (K:PySem.W.Frag) (H:Hp):List V->List Dt->Prop where
 |nil:lM K H [] []
 |cons {x:V} {d:Dt} {xs:List V} {ds:List Dt} (h:TAt K H x d) (hs:lM K H xs ds):lM K H (x::xs) (d::ds)
end
section
variable {K:PySem.W.Frag} {H H':Hp}
mutual
theorem TAt.mono (k:∀a xs,H a=some (.tup xs)->H' a=some (.tup xs)):∀{x:V} {d:Dt},TAt K H x d->TAt K H' x d
 |_,_,.flat h=> .flat h
 |_,_,.tup h hs=> .tup (k _ _ h) (lM.mono k hs)
theorem lM.mono (k:∀a xs,H a=some (.tup xs)->H' a=some (.tup xs)):∀{xs:List V} {ds:List Dt},lM K H xs ds->lM K H' xs ds
 |_,_,.nil=> .nil
 |_,_,.cons h hs=> .cons (TAt.mono k h) (lM.mono k hs)
end
mutual
theorem TAt.at:∀{x:V} {d:Dt},TAt K H x d->At K H x d
 |_,_,.flat h=> .flat h
 |_,_,.tup h hs=> .tup (.inl (.inl h)) (lM.ats hs)
theorem lM.ats:∀{xs:List V} {ds:List Dt},lM K H xs ds->Ats K H xs ds
 |_,_,.nil=> .nil
 |_,_,.cons h hs=> .cons (TAt.at h) (lM.ats hs)
end
theorem lM.length:∀{xs:List V} {ds:List Dt},lM K H xs ds->xs.length=ds.length
 |_,_,.nil=>rfl
 |_,_,.cons _ t=>by rw[aA,aA,lM.length t]
theorem lM.app:∀{xs ys:List V} {ds es:List Dt},lM K H xs ds->lM K H ys es->lM K H (xs++ys) (ds++es)
 |_,_,_,_,.nil,q=>q
 |_,_,_,_,.cons h t,q=> .cons h (lM.app t q)
theorem lM.snoc {xs:List V} {ds:List Dt} {x:V} {d:Dt} (a:lM K H xs ds) (b:TAt K H x d):lM K H (xs++[x]) (ds++[d]):=a.app (.cons b .nil)
theorem lM.set:∀{xs:List V} {ds:List Dt} {x:V} {d:Dt} (j:Nat),lM K H xs ds->TAt K H x d->lM K H (xs.set j x) (ds.set j d)
 |_,_,_,_,_,.nil,_=> .nil
 |_,_,_,_,0,.cons _ t,q=> .cons q t
 |_,_,_,_,j+ 1,.cons h t,q=> .cons h (lM.set j t q)
end
def K2 (p q:Addr) (H H':Hp):Prop:=∀b o,H b=some o->b≠p->b≠q->H' b=some o
theorem K2.refl (p q:Addr) (H:Hp):K2 p q H H:=fun _ _ e _ _=>e
theorem K2.trans {p q:Addr} {H H1 H2:Hp} (a:K2 p q H H1) (b:K2 p q H1 H2):K2 p q H H2:=fun c o e h1 h2=>b c o (a c o e h1 h2) h1 h2
theorem gT.k2 {p q:Addr} {H H':Hp} (s:gT H H'):K2 p q H H':=fun b o e _ _=>s b o e
theorem K2.upd1 {p q:Addr} {H H':Hp} (k:K2 p q H H') (o:HO):K2 p q H (upd H' p o):=fun b u e h1 h2=>by rw[gM h1];exact k b u e h1 h2
theorem K2.upd2 {p q:Addr} {H H':Hp} (k:K2 p q H H') (o:HO):K2 p q H (upd H' q o):=fun b u e h1 h2=>by rw[gM h2];exact k b u e h1 h2
theorem K2.sqT {K:PySem.W.Frag} {p q:Addr} {H H':Hp} {o1 o2:HO} (k:K2 p q H H') (h1:H p=some o1) (h2:H q=some o2) (n1:∀xs,o1≠ .tup xs/\∀o,o1≠ .frz o (.tup xs)) (n2:∀xs,o2≠ .tup xs/\∀o,o2≠ .frz o (.tup xs)) {a:Addr} {xs:List V} (s:SqT K H a xs):SqT K H' a xs:=by
 rcases s with s|s
 ·refine .inl ?_
  rcases s with s|⟨o,s⟩
  ·exact .inl (k _ _ s (kU s h1 (Ne.symm (n1 xs).1)) (kU s h2 (Ne.symm (n2 xs).1)))
  ·exact .inr ⟨o,k _ _ s (kU s h1 (Ne.symm ((n1 xs).2 o))) (kU s h2 (Ne.symm ((n2 xs).2 o)))⟩
 ·exact .inr s
def RS (K:PySem.W.Frag) (C:Addr) (H:Hp) (p dx wl rl:Addr) (ws rest:List Str) (rows:List Dt):Prop:=
 ∃k rv,nO C H p dx wl rl ws k rv/\ws.drop k=rest/\k<=ws.length/\lM K H rv rows
section
variable {K:PySem.W.Frag} {C p dx wl rl:Addr} {H H':Hp} {ws rest:List Str} {rows:List Dt}
theorem nO.sqT {k:Nat} {rv:List V} (R:nO C H p dx wl rl ws k rv) (kk:K2 p rl H H') {a:Addr} {xs:List V} (s:SqT K H a xs):SqT K H' a xs:=
 kk.sqT R.ob R.rw (fun _=>⟨(fun z=>nomatch z),fun _ z=>nomatch z⟩) (fun _=>⟨(fun z=>nomatch z),fun _ z=>nomatch z⟩) s
theorem nO.tpT {k:Nat} {rv:List V} (R:nO C H p dx wl rl ws k rv) (kk:K2 p rl H H') {a:Addr} {xs:List V} (s:H a=some (.tup xs)):H' a=some (.tup xs):=
 kk _ _ s (kU s R.ob (fun z=>nomatch z)) (kU s R.rw (fun z=>nomatch z))
theorem RS.tat (R:RS K C H p dx wl rl ws rest rows) (kk:K2 p rl H H') {x:V} {d:Dt} (t:TAt K H x d):TAt K H' x d:=by
 obtain⟨k,rv,R,_⟩:=R
 exact t.mono fun a xs s=>nO.tpT R kk s
theorem RS.tats (R:RS K C H p dx wl rl ws rest rows) (kk:K2 p rl H H') {xs:List V} {ds:List Dt} (t:lM K H xs ds):lM K H' xs ds:=by
 obtain⟨k,rv,R,_⟩:=R
 exact t.mono fun a xs s=>nO.tpT R kk s
theorem RS.same (R:RS K C H p dx wl rl ws rest rows) (s:gT H H'):RS K C H' p dx wl rl ws rest rows:=by
 obtain⟨k,rv,R,h1,h2,h3⟩:=R
 exact⟨k,rv,⟨s _ _ R.ob,s _ _ R.wd,s _ _ R.rw,R.ne⟩,h1,h2,h3.mono fun a xs t=>nO.tpT R (gT.k2 s) t⟩
theorem RS.other {a:Addr} {l:List V} {o:HO} (R:RS K C H p dx wl rl ws rest rows) (ha:H a=some (.lst l)) (n1:a≠p) (n2:a≠wl) (n3:a≠rl):RS K C (upd H a o) p dx wl rl ws rest rows:=by
 obtain⟨k,rv,R,h1,h2,h3⟩:=R
 refine⟨k,rv,⟨by rw[gM (Ne.symm n1)];exact R.ob,by rw[gM (Ne.symm n2)];exact R.wd,by rw[gM (Ne.symm n3)];exact R.rw,R.ne⟩,h1,h2,h3.mono fun b xs t=>?_⟩
 rw[gM (kU t ha (fun z=>nomatch z))]
 exact t
theorem lM.other {a:Addr} {l:List V} {o:HO} (ha:H a=some (.lst l)) {xs:List V} {ds:List Dt} (t:lM K H xs ds):lM K (upd H a o) xs ds:=t.mono fun b xs t=>by
 rw[gM (kU t ha (fun z=>nomatch z))]
 exact t
theorem kZ {k:Nat} {x:Str} {r:List Str} (h:ws.drop k=x::r):ws[k]?=some x/\ws.drop (k+ 1)=r/\k<ws.length:=by
 have hk:k<ws.length:=by
  by_cases z:k<ws.length
  ·exact z
  ·rw[List.drop_of_length_le (by lia)]at h
   cases h
 rw[bO hk]at h
 injection h with h1 h2
 exact⟨by rw[bx hk,h1],h2,hk⟩
theorem rB {k:Nat} (h:ws.drop k=[]):ws[k]?=none:=by
 rw[List.drop_eq_nil_iff]at h
 exact bF h
theorem RS.len (R:RS K C H p dx wl rl ws rest rows):∃rv,H rl=some (.lst rv)/\rv.length=rows.length:=by
 obtain⟨k,rv,R,_,_,t⟩:=R
 exact⟨rv,R.rw,t.length⟩
theorem RS.mem (R:RS K C H p dx wl rl ws rest rows):∀x∈rest,x∈ws:=by
 obtain⟨k,rv,_,h,_⟩:=R
 intro x hx
 rw[<-h]at hx
 exact bP hx
theorem RS.short (R:RS K C H p dx wl rl ws rest rows):rest.length<=ws.length:=by
 obtain⟨k,rv,_,h,_⟩:=R
 rw[<-h,aW]
 lia
theorem RS.ob (R:RS K C H p dx wl rl ws rest rows):∃k:Int,H p=some (.ins C dx (fR wl k rl)):=by
 obtain⟨k,rv,R,_⟩:=R
 exact⟨_,R.ob⟩
theorem tu {H:Hp} {a b:Addr} {l xs:List V} {o:HO} (ha:H a=some (.lst l)) (t:SqT K H b xs):SqT K (upd H a o) b xs:=by
 rcases t with t|t
 ·refine .inl ?_
  rcases t with t|⟨o',t⟩
  ·exact .inl (by rw[gM (kU t ha (fun z=>nomatch z))];exact t)
  ·exact .inr ⟨o',by rw[gM (kU t ha (fun z=>nomatch z))];exact t⟩
 ·exact .inr t
theorem RS.sqt (R:RS K C H p dx wl rl ws rest rows) (kk:K2 p rl H H') {a:Addr} {xs:List V} (t:SqT K H a xs):SqT K H' a xs:=by
 obtain⟨k,rv,R,_⟩:=R
 exact nO.sqT R kk t
theorem tD {p q a:Addr} {H H':Hp} {o:HO} (ha:H a=none) (k:K2 p q H H'):K2 p q H (upd H' a o):=fun b u e h1 h2=>by rw[gM (gL e ha)];exact k b u e h1 h2
theorem RS.apart {fl:Addr} (R:RS K C H p dx wl rl ws rest rows) (hfl:H fl=none):fl≠p/\fl≠rl/\fl≠wl:=by
 obtain⟨k,rv,R,_⟩:=R
 exact⟨Ne.symm (gL R.ob hfl),Ne.symm (gL R.rw hfl),Ne.symm (gL R.wd hfl)⟩
end
abbrev Pe:=List Str->List Dt->Option Rs
def Rd (p:Pe) (ok:Bool) (n:Nat) (ts:List Str):Prop:=∀(rest:List Str) (rows:List Dt),rows.length<=160->
 (ok=true->rows.length+n<=160->∃rows',p (ts++rest) rows=some (rest,rows')/\rows'.length=rows.length+n)/\(¬(ok=true/\rows.length+n<=160)->p (ts++rest) rows=none)
def SRd (pe:Pe) (ps:List Bool) (ok:Bool) (n:Nat) (ts:List Str):Prop:=∀(acc:List Dt) (rest:List Str) (rows:List Dt),rows.length<=160->
 (ok=true->rows.length+n<=160->∃ds rows',gU pe ps acc (ts++rest) rows=some (ds,rest,rows')/\rows'.length=rows.length+n)/\(¬(ok=true/\rows.length+n<=160)->gU pe ps acc (ts++rest) rows=none)
theorem SRd.nil {pe:Pe}:SRd pe [] true 0 []:=fun acc rest rows h=>⟨fun _ _=>⟨acc,rows,by rw[gU];rfl,rfl⟩,fun z=>absurd ⟨rfl,h⟩ z⟩
theorem SRd.name {pe:Pe} {ps:List Bool} {ok:Bool} {n:Nat} {ts:List Str} {x:Str} (hx:isName x=true) (r:SRd pe ps ok n ts):SRd pe (true::ps) ok n (x::ts):=fun acc rest rows h=>by
 have e:gU pe (true::ps) acc (x::ts++rest) rows=gU pe ps (acc++[.flat (.str x)]) (ts++rest) rows:=by
  rw[aS,gU,if_pos hx]
 rw[e]
 exact r _ rest rows h
theorem SRd.expr {pe:Pe} {ps:List Bool} {ok1 ok2:Bool} {n1 n2:Nat} {t1 t2:List Str} (a:Rd pe ok1 n1 t1) (r:SRd pe ps ok2 n2 t2):SRd pe (false::ps) (ok1&&ok2) (n1+n2) (t1++t2):=fun acc rest rows h=>by
 have ea:t1++t2++rest=t1++(t2++rest):=a8 ..
 obtain⟨y,no⟩:=a (t2++rest) rows h
 rw[ea]
 by_cases h1:ok1=true/\rows.length+n1<=160
 ·obtain⟨rows1,e1,l1⟩:=y h1.1 h1.2
  have e:gU pe (false::ps) acc (t1++(t2++rest)) rows=gU pe ps (acc++[.flat (.int (rows.length:Int))]) (t2++rest) rows1:=by rw[gU,e1]
  rw[e]
  obtain⟨y2,no2⟩:=r (acc++[.flat (.int (rows.length:Int))]) rest rows1 (by lia)
  refine⟨fun ho hn=>?_,fun z=>no2 fun z2=>z ⟨by rw[h1.1,z2.1];rfl,by lia⟩⟩
  rw[h1.1,fX]at ho
  obtain⟨ds,rows',e2,l2⟩:=y2 ho (by lia)
  exact⟨ds,rows',e2,by lia⟩
 ·have e1:=no h1
  refine⟨fun ho hn=>absurd ⟨(fV _ _▸ho).1,by lia⟩ h1,fun _=>by rw[gU,e1]⟩
def MRd (item:List Str->List Dt->Option (Dt×Rs)) (ok:Bool) (n m:Nat) (ts:List Str):Prop:=∀(acc:List Dt) (rest:List Str) (rows:List Dt),rows.length<=160->
 (ok=true->rows.length+n<=160->∃ds rows',jh item (ts++(")":Str)::rest) rows acc=some (ds,(")":Str)::rest,rows')/\ds.length=acc.length+m/\rows'.length=rows.length+n)/\(¬(ok=true/\rows.length+n<=160)->jh item (ts++(")":Str)::rest) rows acc=none)
theorem MRd.nil {item:List Str->List Dt->Option (Dt×Rs)}:MRd item true 0 0 []:=fun acc rest rows h=>⟨fun _ _=>⟨acc,rows,ma _ _ _ rfl,rfl,rfl⟩,fun z=>absurd ⟨rfl,h⟩ z⟩
theorem MRd.cons {item:List Str->List Dt->Option (Dt×Rs)} (g:tm item) {ok1 ok2:Bool} {n1 n2 m:Nat} {t1 t2:List Str} {x:Str} {t:List Str} (ht:t1=x::t) (hx:x≠")")
  (a:∀(rest:List Str) (rows:List Dt),rows.length<=160->(ok1=true->rows.length+n1<=160->∃d rows',item (t1++rest) rows=some (d,rest,rows')/\rows'.length=rows.length+n1)/\(¬(ok1=true/\rows.length+n1<=160)->item (t1++rest) rows=none))
  (r:MRd item ok2 n2 m t2):MRd item (ok1&&ok2) (n1+n2) (m+ 1) (t1++t2):=fun acc rest rows h=>by
 have ea:t1++t2++(")":Str)::rest=t1++(t2++(")":Str)::rest):=a8 ..
 have hh:(t1++(t2++(")":Str)::rest)).head?≠some ")":=by
  rw[ht]
  exact fun z=>hx (dB.inj z)
 obtain⟨y,no⟩:=a (t2++(")":Str)::rest) rows h
 rw[ea,oi g _ _ _ hh]
 by_cases h1:ok1=true/\rows.length+n1<=160
 ·obtain⟨d,rows1,e1,l1⟩:=y h1.1 h1.2
  rw[e1]
  obtain⟨y2,no2⟩:=r (acc++[d]) rest rows1 (by lia)
  refine⟨fun ho hn=>?_,fun z=>no2 fun z2=>z ⟨by rw[h1.1,z2.1];rfl,by lia⟩⟩
  rw[h1.1,fX]at ho
  obtain⟨ds,rows',e2,l2,l3⟩:=y2 ho (by lia)
  refine⟨ds,rows',e2,?_,by lia⟩
  rw[aO]at l2
  have:[d].length=1:=rfl
  lia
 ·rw[no h1]
  exact⟨fun ho hn=>absurd ⟨(fV _ _▸ho).1,by lia⟩ h1,fun _=>rfl⟩
theorem Es {pe:Pe} {ps:List Bool} {ok:Bool} {n:Nat} {ts:List Str} (s:SRd pe ps ok n ts):∀(rest:List Str) (rows:List Dt),rows.length<=160->(ok=true->rows.length+n<=160->∃d rows',je pe ps (ts++rest) rows=some (d,rest,rows')/\rows'.length=rows.length+n)/\(¬(ok=true/\rows.length+n<=160)->je pe ps (ts++rest) rows=none):=fun rest rows h=>by
 obtain⟨y,no⟩:=s [] rest rows h
 refine⟨fun ho hn=>?_,fun z=>by rw[je,no z]⟩
 obtain⟨ds,rows',e,l⟩:=y ho hn
 exact⟨_,rows',by rw[je,e],l⟩
theorem Et {pe:Pe} {ok:Bool} {n:Nat} {ts:List Str} (s:Rd pe ok n ts):∀(rest:List Str) (rows:List Dt),rows.length<=160->(ok=true->rows.length+n<=160->∃d rows',kX pe (ts++rest) rows=some (d,rest,rows')/\rows'.length=rows.length+n)/\(¬(ok=true/\rows.length+n<=160)->kX pe (ts++rest) rows=none):=fun rest rows h=>by
 obtain⟨y,no⟩:=s rest rows h
 refine⟨fun ho hn=>?_,fun z=>by rw[kX,no z]⟩
 obtain⟨rows',e,l⟩:=y ho hn
 exact⟨_,rows',by rw[kX,e],l⟩
def FRd (pe:Pe) (h:Str) (ok:Bool) (n:Nat) (ts:List Str):Prop:=∀(rest:List Str) (rows:List Dt),rows.length<=160->
 (ok=true->rows.length+n<=160->∃ds rows',jv pe h (ts++(")":Str)::rest) rows=some (ds,(")":Str)::rest,rows')/\rows'.length=rows.length+n)/\(¬(ok=true/\rows.length+n<=160)->jv pe h (ts++(")":Str)::rest) rows=none)
theorem FRd.steady {pe:Pe} {h:Str} {ps:List Bool} {ok:Bool} {n:Nat} {ts:List Str} (h1:¬h="rec") (h2:¬h="case") (h3:¬h="row") (hp:stP h=some ps) (s:SRd pe ps ok n ts):FRd pe h ok n ts:=fun rest rows hr=>by
 have e:jv pe h (ts++(")":Str)::rest) rows=match gU pe ps [] (ts++(")":Str)::rest) rows with
   |none=>none
   |some (ds,r)=>some (.flat (.str h)::ds,r):=by
  rw[jv,if_neg h1,if_neg h2,if_neg h3,hp]
  all_goals rfl
 obtain⟨y,no⟩:=s [] ((")":Str)::rest) rows hr
 refine⟨fun ho hn=>?_,fun z=>by rw[e,no z]⟩
 obtain⟨ds,rows',e2,l⟩:=y ho hn
 exact⟨_,rows',by rw[e,e2],l⟩
theorem FRd.rowd {pe:Pe} {ok:Bool} {n m:Nat} {ts:List Str} (s:MRd (kX pe) ok n m ts):FRd pe "row" (ok&&decide (m<=8)) n ts:=fun rest rows hr=>by
 have e:jv pe "row" (ts++(")":Str)::rest) rows=match chk 0 8 (jh (kX pe) (ts++(")":Str)::rest) rows [])with
  |none=>none
  |some (l,r)=>some ([.flat (.str "row"),.tup l],r):=by rw[jv,if_neg (by decide+kernel),if_neg (by decide+kernel),if_pos rfl]<;>rfl
 obtain⟨y,no⟩:=s [] rest rows hr
 by_cases h1:ok=true/\rows.length+n<=160
 ·obtain⟨ds,rows',e2,l2,l3⟩:=y h1.1 h1.2
  have l2':ds.length=m:=l2.trans (du m)
  by_cases hm:m<=8
  ·refine⟨fun _ _=>⟨_,rows',by rw[e,e2,chk,if_pos (by lia)],l3⟩,fun z=>absurd ⟨by rw[h1.1,decide_eq_true hm];rfl,h1.2⟩ z⟩
  ·refine⟨fun z=>(by rw[h1.1,decide_eq_false hm]at z;cases z),fun _=>by rw[e,e2,chk,if_neg (by lia)]⟩
 ·exact⟨fun z hn=>absurd ⟨(fV _ _▸z).1,hn⟩ h1,fun _=>by rw[e,no h1];rfl⟩
theorem FRd.cased {pe:Pe} {ok1 ok:Bool} {n1 n m:Nat} {t1 ts:List Str} (a:Rd pe ok1 n1 t1) (s:MRd (je pe [true,true,false]) ok n m ts):FRd pe "case" (ok1&&ok&&decide (1<=m/\m<=6)) (n1+n) (t1++ts):=fun rest rows hr=>by
 have ea:t1++ts++(")":Str)::rest=t1++(ts++(")":Str)::rest):=a8 ..
 rw[ea]
 have e:jv pe "case" (t1++(ts++(")":Str)::rest)) rows=match pe (t1++(ts++(")":Str)::rest)) rows with
  |none=>none
  |some (r1,rows1)=>match chk 1 6 (jh (je pe [true,true,false]) r1 rows1 [])with
   |none=>none
   |some (l,r)=>some ([.flat (.str "case"),.flat (.int (rows.length:Int)),.tup l],r):=by rw[jv,if_neg (by decide+kernel),if_pos rfl]<;>rfl
 obtain⟨ya,na⟩:=a (ts++(")":Str)::rest) rows hr
 by_cases h0:ok1=true/\rows.length+n1<=160
 ·obtain⟨rows1,e1,l1⟩:=ya h0.1 h0.2
  obtain⟨y,no⟩:=s [] rest rows1 (by lia)
  have e':jv pe "case" (t1++(ts++(")":Str)::rest)) rows=match chk 1 6 (jh (je pe [true,true,false]) (ts++(")":Str)::rest) rows1 [])with
   |none=>none
   |some (l,r)=>some ([.flat (.str "case"),.flat (.int (rows.length:Int)),.tup l],r):=by rw[e,e1]
  by_cases h1:ok=true/\rows1.length+n<=160
  ·obtain⟨ds,rows',e2,l2,l3⟩:=y h1.1 h1.2
   have l2':ds.length=m:=l2.trans (du m)
   by_cases hm:1<=m/\m<=6
   ·refine⟨fun _ _=>⟨_,rows',by rw[e',e2,chk,if_pos (by lia)],by lia⟩,fun z=>absurd ⟨by rw[h0.1,h1.1,decide_eq_true hm];rfl,by lia⟩ z⟩
   ·refine⟨fun z=>(by rw[h0.1,h1.1,decide_eq_false hm]at z;cases z),fun _=>by rw[e',e2,chk,if_neg (by lia)]⟩
  ·refine⟨fun z hn=>absurd ⟨?_,by lia⟩ h1,fun _=>by rw[e',no h1];rfl⟩
   simp only[fV]at z
   exact z.1.2
 ·refine⟨fun z hn=>absurd ⟨?_,by lia⟩ h0,fun _=>by rw[e,na h0]⟩
  simp only[fV]at z
  exact z.1.1
theorem oK:¬jD "("=true/\¬isName "("=true:=by decide+kernel
theorem Rd.form {f:Nat} {h:Str} {ok:Bool} {n:Nat} {ts:List Str} (s:FRd (hI f) h ok n ts):Rd (hI (f+ 1)) ok (n+ 1) (("(":Str)::h::(ts++[(")":Str)])):=fun rest rows hr=>by
 have ea:(("(":Str)::h::(ts++[(")":Str)]))++rest=("(":Str)::h::(ts++(")":Str)::rest):=by simp
 rw[ea]
 by_cases h160:rows.length=160
 ·exact⟨fun _ hn=>absurd hn (by lia),fun _=>by rw[hI,if_pos h160]⟩
 ·have lr:(rows++[Dt.flat .non]).length=rows.length+ 1:=by rw[aO];rfl
  have er:qH (hI f) (("(":Str)::h::(ts++(")":Str)::rest)) (rows++[.flat .non])=mw (jv (hI f) h (ts++(")":Str)::rest) (rows++[.flat .non])):=uH oK.1 oK.2 rfl
  obtain⟨y,no⟩:=s rest (rows++[.flat .non]) (by lia)
  refine⟨fun ho hn=>?_,fun z=>?_⟩
  ·obtain⟨ds,rows',e,l⟩:=y ho (by lia)
   refine⟨rows'.set rows.length (.tup ds),?_,by rw[aX];lia⟩
   rw[hI,if_neg h160,er,e,show mw (some (ds,(")":Str)::rest,rows'))=some (ds,rest,rows') by unfold mw;exact if_pos rfl]
  ·rw[hI,if_neg h160,er,no fun z2=>z ⟨z2.1,by lia⟩]
   rfl
theorem Rd.zero {n:Nat} {ts:List Str}:Rd (hI 0) false n ts:=fun rest rows hr=>⟨fun z=>(by cases z),fun _=>by rw[hI]⟩
theorem Rd.word {f:Nat} {x:Str} (hx:jD x=true\/isName x=true):Rd (hI (f+ 1)) true 1 [x]:=fun rest rows hr=>by
 by_cases h160:rows.length=160
 ·exact⟨fun _ hn=>absurd hn (by lia),fun _=>by rw[hI,if_pos h160]⟩
 ·refine⟨fun _ _=>?_,fun z=>absurd ⟨rfl,by lia⟩ z⟩
  have lr:(rows++[Dt.flat .non]).length=rows.length+ 1:=by rw[aO];rfl
  by_cases h1:jD x=true
  ·refine⟨_,by rw[hI,if_neg h160];rw[bQ,uG h1],by rw[aX];lia⟩
  ·have h2:isName x=true:=hx.resolve_left h1
   refine⟨_,by rw[hI,if_neg h160];rw[bQ,rA h1 h2],by rw[aX];lia⟩
structure Ex (d n:Nat) (ts:List Str):Prop where
 pos:1<=d
 hd:∃x t,ts=x::t/\x≠")"
 rd:∀f,f<=24->Rd (hI f) (decide (d<=f)) n ts
theorem Ex.word {x:Str} (hx:jD x=true\/isName x=true) (hc:x≠")"):Ex 1 1 [x]:=⟨c7 _,⟨x,[],rfl,hc⟩,fun f _=>by
 cases f with
 |zero=>exact Rd.zero
 |succ f=>
  rw[decide_eq_true (show 1<=f+ 1 by lia)]
  exact Rd.word hx⟩
theorem Eu:("(":Str)≠")":=by decide+kernel
theorem Ex.form {d n:Nat} {h:Str} {ts:List Str} (hd:1<=d) (s:∀f,f<=23->∃ok,FRd (hI f) h ok n ts/\ok=decide (d<=f+ 1)):Ex d (n+ 1) (("(":Str)::h::(ts++[(")":Str)])):=⟨hd,⟨_,_,rfl,Eu⟩,fun f hf=>by
 cases f with
 |zero=>
  rw[decide_eq_false (show ¬d<=0 by lia)]
  exact Rd.zero
 |succ f=>
  obtain⟨ok,r,e⟩:=s f (by lia)
  rw[<-e]
  exact Rd.form r⟩
def DRd (ok:Bool) (n m:Nat) (ts:List Str):Prop:=∀(rest:List Str) (rows:List Dt) (names:List Str) (roots:List Dt),rows.length<=160->
 (ok=true->rows.length+n<=160->∃rows' names' roots',jJ (ts++rest) rows names roots=jJ rest rows' names' roots'/\rows'.length=rows.length+n/\names'.length=names.length+m)/\(¬(ok=true/\rows.length+n<=160)->jJ (ts++rest) rows names roots=none)
theorem DRd.nil:DRd true 0 0 []:=fun rest rows names roots h=>⟨fun _ _=>⟨rows,names,roots,rfl,rfl,rfl⟩,fun z=>absurd ⟨rfl,h⟩ z⟩
theorem DRd.read {ok:Bool} {n m:Nat} {ts:List Str} (a:DRd ok n m ts):
  (ok=true->n<=160->1<=m->m<=12->∃names roots rows,mV ts=some (names,roots,rows)/\rows.length=n)/\(¬(ok=true/\n<=160/\1<=m/\m<=12)->mV ts=none):=by
 obtain⟨y,no⟩:=a [] [] [] [] (c8 _)
 rw[aE]at y no
 have l0:([]:List Dt).length=0:=rfl
 have l1:([]:List Str).length=0:=rfl
 by_cases h1:ok=true/\([]:List Dt).length+n<=160
 ·obtain⟨rows,names,roots,e,l,k⟩:=y h1.1 h1.2
  rw[defs_nil]at e
  by_cases h2:1<=m/\m<=12
  ·refine⟨fun _ _ _ _=>⟨names,roots,rows,by rw[mV,e];exact if_pos (by lia),by lia⟩,fun z=>absurd ⟨h1.1,by lia,h2⟩ z⟩
  ·exact⟨fun _ _ z1 z2=>absurd ⟨z1,z2⟩ h2,fun _=>by rw[mV,e];exact if_neg (by lia)⟩
 ·exact⟨fun ho hn _ _=>absurd ⟨ho,by lia⟩ h1,fun _=>by rw[mV,no h1]⟩
end GR.Internal
namespace GR.Internal
open PySem L2.Internal T1
def St1 (w:List Nat):Str:=⟨w.toArray⟩
def toks (x:Str):List Str:=(all (W x.cps.toList)).map St1
theorem toks_v (x:Str):pA x.cps.toList=(toks x).map V.str:=wR _
theorem rC:∀(s:List Nat) (p:List (List Nat)) (c:List Nat),s.foldl step (p,c)=(p++(s.foldl step ([],c)).1,(s.foldl step ([],c)).2)
 |[],p,c=>by simp
 |k::s,p,c=>by
  have e1:(k::s).foldl step (p,c)=s.foldl step (step (p,c) k):=rfl
  have e2:(k::s).foldl step ([],c)=s.foldl step (step ([],c) k):=rfl
  rw[e1,e2]
  have e3:step (p,c) k=(p++(step ([],c) k).1,(step ([],c) k).2):=by
   unfold T1.step
   split
   ·split<;>simp
   ·simp
  rw[e3]
  generalize step ([],c) k=q
  obtain⟨q1,q2⟩:=q
  rw[rC s (p++q1) q2,rC s q1 q2,a8]
theorem vL {a b:List Nat} (h:(W a).2=[]):W (a++b)=((W a).1++(W b).1,(W b).2):=by
 rw[oJ]
 have e:W a=((W a).1,[]):=by rw[<-h]
 rw[e,rC]
 rfl
def Gp (x:Str) (ts:List Str):Prop:=(W x.cps.toList).2=[]/\(W x.cps.toList).1.map St1=ts
def Op (x:Str) (ts:List Str):Prop:=toks x=ts
theorem Gp.op {x:Str} {ts:List Str} (h:Gp x ts):Op x ts:=by
 unfold Op toks all
 rw[if_pos h.1,h.2]
theorem Gp.app {x y:Str} {ts us:List Str} (h:Gp x ts) (k:Gp y us):Gp (x++y) (ts++us):=by
 unfold Gp
 rw[ka,vL h.1]
 exact⟨k.1,by rw[bh,h.2,k.2]⟩
theorem Gp.app_op {x y:Str} {ts us:List Str} (h:Gp x ts) (k:Op y us):Op (x++y) (ts++us):=by
 unfold Op toks at*
 rw[ka,vL h.1,<-h.2,<-k]
 unfold all
 by_cases z:(W y.cps.toList).2=[]
 ·rw[if_pos z,if_pos z,bh]
 ·rw[if_neg z,if_neg z]
  simp only[bh,a8]
theorem Op.close {x:Str} {ts:List Str} (h:Op x ts):Gp (x++")") (ts++[(")":Str)]):=by
 unfold Gp
 have e:(x++")").cps.toList=x.cps.toList++[41]:=ka x ")"
 rw[e,yK _ (.inr rfl)]
 refine⟨rfl,?_⟩
 rw[bh]
 exact congrArg (·++[(")":Str)]) h
theorem Op.gap {x:Str} {ts:List Str} (h:Op x ts):Gp (x++" ") ts:=by
 unfold Gp
 have e:(x++" ").cps.toList=x.cps.toList++[32]:=ka x " "
 rw[e,W_gap _ (.inl rfl)]
 exact⟨rfl,h⟩
theorem tE (x y z:Str):x++y++z=x++(y++z):=T1.str_ext (by rw[ka,ka,ka,ka,a8])
theorem Op.word {x:Str} (h0:x.cps.toList≠[]) (h:∀k∈x.cps.toList,k≠32/\k≠10/\k≠40/\k≠41):Op x [x]:=by
 unfold Op toks
 have e:W x.cps.toList=([],x.cps.toList):=Gj [] x.cps.toList h
 rw[e]
 show(if x.cps.toList=[]then _ else _:List (List Nat)).map St1=_
 rw[if_neg h0]
 show[St1 x.cps.toList]=[x]
 exact congrArg (fun z=>[z]) (T1.str_ext rfl)
theorem tF:∀m:Nat,0<m->(dh 10 m).head?≠some '0'
 |m,h=>by
  by_cases h10:m<10
  ·rw[di h10]
   have:m=1\/m=2\/m=3\/m=4\/m=5\/m=6\/m=7\/m=8\/m=9:=by lia
   rcases this with rfl|rfl|rfl|rfl|rfl|rfl|rfl|rfl|rfl<;>decide
  ·have hm:m%10<10:=Nat.mod_lt m (by decide)
   have t:dh 10 (m/10)++dh 10 (m%10)=dh 10 (10*(m/10)+m%10):=dj (by decide) (by lia) hm
   rw[Nat.div_add_mod]at t
   have ih:=tF (m/10) (by lia)
   rw[<-t]
   cases e:dh 10 (m/10)with
   |nil=>
    have:=PySem.toDigits_len_ge 10 (m/10)
    rw[e]at this
    simp at this
   |cons a r=>
    rw[e]at ih
    exact ih
termination_by m=>m
theorem num_is {n:Int} {k:Nat} (h0:0<=n) (h1:n<10^(k+ 1)) (hk:k+ 1<=60):jD (PySem.Str.ofString (toString n))=true:=by
 obtain⟨f1,f2,f3⟩:=str_fig h0 h1
 obtain⟨m,rfl⟩:=gh h0
 have e:=PySem.W.KIN.signs_num m
 unfold jD
 have z:(!pB (PySem.Str.ofString (toString ((m:Nat):Int)))||decide (PySem.Str.ofString (toString ((m:Nat):Int))="0"))=true:=by
  by_cases hm:m=0
  ·subst hm
   decide+kernel
  ·have d:=tF m (by lia)
   have:pB (PySem.Str.ofString (toString ((m:Nat):Int)))=false:=by
    unfold pB
    rw[e]
    cases q:dh 10 m with
    |nil=>rfl
    |cons a r=>
     rw[q]at d
     show(a.toNat==48)=false
     refine beq_eq_false_iff_ne.mpr fun w=>d ?_
     show some a=some '0'
     exact congrArg some (Char.toNat_inj.mp w)
   rw[this]
   rfl
 rw[z,decide_eq_true f2,decide_eq_true (show _<=60 by lia)]
 simp only[fX,Bool.and_true]
 exact bw.mpr fun c hc=>decide_eq_true (f1 c hc)
structure EX (x:Str) (d n L:Nat):Prop where
 asc:∀c∈x.cps.toList,c<128
 len:x.length<=L
 ex:∃ts,Op x ts/\Ex d n ts
section
variable {d n:Nat} {ts:List Str}
theorem z0:jD "0"=true\/isName "0"=true:=by decide+kernel
theorem ex0:Ex 1 1 (["0"]:List Str):=Ex.word z0 (by decide+kernel)
theorem Cz (f:Nat):(decide (d<=f)&&true)=decide (d+ 1<=f+ 1):=by simp
theorem Gq (h:1<=d) (f:Nat):(decide (1<=f)&&(decide (d<=f)&&true))=decide (d+ 1<=f+ 1):=by
 by_cases z:d<=f<;>simp[z]<;>lia
theorem Gr (h:1<=d) (f:Nat):(decide (d<=f)&&(decide (1<=f)&&true))=decide (d+ 1<=f+ 1):=by
 by_cases z:d<=f<;>simp[z]<;>lia
theorem Ex.tag {h c:Str} (hh:h="tag"\/h="fn") (hc:isName c=true) (x:Ex d n ts):Ex (d+ 1) (n+ 1) ((["(",h,c]:List Str)++ts++([")"]:List Str)):=by
 have hp:stP h=some [true,false]/\¬h="rec"/\¬h="case"/\¬h="row":=by rcases hh with rfl|rfl<;>decide+kernel
 have z:=Ex.form (d:=d+ 1) (n:=n+ 0) (h:=h) (ts:=c::(ts++[])) (by lia) fun f hf=>⟨_,FRd.steady hp.2.1 hp.2.2.1 hp.2.2.2 hp.1 (SRd.name hc (SRd.expr (x.rd f (by lia)) SRd.nil)),Cz f⟩
 simpa using z
theorem Ex.get {c:Str} (hc:isName c=true) (x:Ex d n ts):Ex (d+ 1) (n+ 1) ((["(","get"]:List Str)++ts++([c,")"]:List Str)):=by
 have hp:stP "get"=some [false,true]/\¬("get":Str)="rec"/\¬("get":Str)="case"/\¬("get":Str)="row":=by decide+kernel
 have z:=Ex.form (d:=d+ 1) (n:=n+ 0) (h:="get") (ts:=ts++[c]) (by lia) fun f hf=>⟨_,FRd.steady hp.2.1 hp.2.2.1 hp.2.2.2 hp.1 (SRd.expr (x.rd f (by lia)) (SRd.name hc SRd.nil)),Cz f⟩
 simpa using z
theorem Ex.size (x:Ex d n ts):Ex (d+ 1) (n+ 1) ((["(","size"]:List Str)++ts++([")"]:List Str)):=by
 have hp:stP "size"=some [false]/\¬("size":Str)="rec"/\¬("size":Str)="case"/\¬("size":Str)="row":=by decide+kernel
 have z:=Ex.form (d:=d+ 1) (n:=n+ 0) (h:="size") (ts:=ts++[]) (by lia) fun f hf=>⟨_,FRd.steady hp.2.1 hp.2.2.1 hp.2.2.2 hp.1 (SRd.expr (x.rd f (by lia)) SRd.nil),Cz f⟩
 simpa using z
theorem Ex.add {c:Str} (hc:Ex 1 1 [c]) (x:Ex d n ts):Ex (d+ 1) (n+ 2) ((["(","add",c]:List Str)++ts++([")"]:List Str)):=by
 have hp:stP "add"=some [false,false]/\¬("add":Str)="rec"/\¬("add":Str)="case"/\¬("add":Str)="row":=by decide+kernel
 have z:=Ex.form (d:=d+ 1) (n:=1+(n+ 0)) (h:="add") (ts:=[c]++(ts++[])) (by lia) fun f hf=>⟨_,FRd.steady hp.2.1 hp.2.2.1 hp.2.2.2 hp.1 (SRd.expr (hc.rd f (by lia)) (SRd.expr (x.rd f (by lia)) SRd.nil)),Gq x.pos f⟩
 rw[show n+ 2=1+(n+ 0)+ 1 by lia]
 simpa using z
theorem Ex.call (x:Ex d n ts):Ex (d+ 1) (n+ 2) ((["(","call"]:List Str)++ts++(["0",")"]:List Str)):=by
 have hp:stP "call"=some [false,false]/\¬("call":Str)="rec"/\¬("call":Str)="case"/\¬("call":Str)="row":=by decide+kernel
 have z:=Ex.form (d:=d+ 1) (n:=n+(1+ 0)) (h:="call") (ts:=ts++((["0"]:List Str)++[])) (by lia) fun f hf=>⟨_,FRd.steady hp.2.1 hp.2.2.1 hp.2.2.2 hp.1 (SRd.expr (x.rd f (by lia)) (SRd.expr (ex0.rd f (by lia)) SRd.nil)),Gr x.pos f⟩
 simpa using z
end
instance {x:Str} {ts:List Str}:Decidable (Gp x ts):=inferInstanceAs (Decidable (_/\_))
instance {x:Str} {ts:List Str}:Decidable (Op x ts):=inferInstanceAs (Decidable (_=_))
theorem nmA:isName "a"=true/\isName "t"=true/\isName "x"=true/\isName "b"=true:=by decide+kernel
section
variable {d n:Nat} {ts:List Str}
end
def Gs (l:List Str):List Str:=l.flatMap fun c=>[c,"x","x"]
theorem nm_ne {c:Str} (h:isName c=true):c≠")":=fun z=>by
 rw[z]at h
 exact absurd h (by decide+kernel)
theorem G4 {f:Nat} (hf:f<=24):∀l:List Str,(∀c∈l,isName c=true)->MRd (je (hI f) [true,true,false]) (decide (l=[]\/1<=f)) l.length l.length (Gs l)
 |[],_=>by
  rw[decide_eq_true (.inl rfl)]
  exact MRd.nil
 |c::l,h=>by
  have hc:=h c (ah ..)
  have ex1:Ex 1 1 ["x"]:=Ex.word (by decide+kernel) (by decide+kernel)
  have z:=MRd.cons (lW (jw f) _ (by simp)) rfl (nm_ne hc) (Es (SRd.name hc (SRd.name nmA.2.2.1 (SRd.expr (ex1.rd f hf) SRd.nil)))) (G4 hf l fun c hc=>h c (ai _ hc))
  have e:(decide (1<=f)&&true&&decide (l=[]\/1<=f))=decide (c::l=[]\/1<=f):=by
   by_cases q:1<=f<;>simp[q]
  rw[e,show 1+ 0+l.length=l.length+ 1 by lia]at z
  exact z
theorem G5 {f:Nat} (hf:f<=24) {c:Str} (hc:jD c=true) (hn:c≠")"):∀m:Nat,MRd (kX (hI f)) (decide (m=0\/1<=f)) m m (aH m c)
 |0=>by
  rw[decide_eq_true (.inl rfl)]
  exact MRd.nil
 |m+ 1=>by
  have ex1:Ex 1 1 [c]:=Ex.word (.inl hc) hn
  have z:=MRd.cons (oh (jw f)) rfl hn (Et (ex1.rd f hf)) (G5 hf hc hn m)
  have e:(decide (1<=f)&&decide (m=0\/1<=f))=decide (m+ 1=0\/1<=f):=by
   by_cases q:1<=f<;>simp[q]
  rw[e,show 1+m=m+ 1 by lia]at z
  exact z
def dRec (m:Nat):Nat:=if m=0 then 1 else if m<=6 then 2 else 25
def yM (m:Nat):Nat:=if 1<=m/\m<=6 then 2 else 25
def Fy (m:Nat):Nat:=if m=0 then 1 else if m<=8 then 2 else 25
theorem Ex.cases {l:List Str} (h:∀c∈l,isName c=true):Ex (yM l.length) (l.length+ 2) (("(":Str)::("case":Str)::("0":Str)::(Gs l++[(")":Str)])):=by
 have hd:1<=yM l.length:=by unfold yM;split<;>decide
 have z:=Ex.form (d:=yM l.length) (n:=1+l.length) (h:="case") (ts:=(["0"]:List Str)++Gs l) hd fun f hf=>⟨_,FRd.cased (ex0.rd f (by lia)) (G4 (by lia) l h),by
  unfold yM
  cases l with
  |nil=>simp;lia
  |cons c l=>
   simp only[aA]
   by_cases q:l.length+ 1<=6<;>simp[q]<;>lia⟩
 rw[show l.length+ 2=1+l.length+ 1 by lia]
 simpa using z
theorem Ex.rows {c:Str} (hc:jD c=true) (hn:c≠")") (m:Nat):Ex (Fy m) (m+ 1) (("(":Str)::("row":Str)::(aH m c++[(")":Str)])):=by
 have hd:1<=Fy m:=by unfold Fy;split<;>first|exact c7 _|(split<;>decide)
 refine Ex.form hd fun f hf=>⟨_,FRd.rowd (G5 (by lia) hc hn m),?_⟩
 unfold Fy
 by_cases z:m=0
 ·subst z
  simp
 ·by_cases q:m<=8<;>simp[q,z]<;>lia
def Ap (x:Str) (ts:List Str):Prop:=∀y us,Op y us->Op (y++x) (us++ts)
theorem Ap.nil:Ap "" []:=fun y us h=>by
 have e:y++""=y:=T1.str_ext (by rw[ka];exact aE _)
 rw[e,aE]
 exact h
theorem Ap.word {x w z:Str} {ts:List Str} (h:Ap x ts) (hz:z=" "++w) (hw:Op w [w]):Ap (x++z) (ts++[w]):=fun y us o=>by
 rw[hz,<-tE,<-tE,<-a8]
 exact(h y us o).gap.app_op hw
structure PGm (x:Str) (due:Bool) (n:Nat):Prop where
 asc:∀c∈x.cps.toList,c<128
 len:x.length<=9999
 yes:due=true->∃names roots rows,mV (toks x)=some (names,roots,rows)/\rows.length=n
 no:due=false->mV (toks x)=none
structure DX (x:Str) (ok:Bool) (n m L:Nat):Prop where
 asc:∀c∈x.cps.toList,c<128
 len:x.length<=L
 rd:∃ts,Gp x ts/\DRd ok n m ts
structure Wr (h t:Str) (k:Nat):Prop where
 hl:h.length<=15
 tl:t.length<=5
 k3:k<=3
 on:∀x d n L,EX x d n L->EX (h++x++t) (d+ 1) (n+k) (L+ 20)
end GR.Internal
namespace TM.Internal
open PySem L2.Internal GR.Internal
inductive Kn
 |num (n:Int)
 |name (w:Str)
 |fn (w:Str)
 |tag (w:Str)
 |lt (w:Str)
 |get (w:Str)
 |rcd (l:List Str)
 |case (l:List (Str×Str))
 |row (m:Nat)
 |op (s:Str) (m:Nat)
inductive Tr
 |mk (κ:Kn) (ks:List Tr)
def ops:List (Str×Nat):=[("call",2),("at",3),("join",2),("size",1),("add",2),("sub",2),("less",2)]
def Kn.ar:Kn->Nat
 | .num _=>0
 | .name _=>0
 | .fn _=>1
 | .tag _=>1
 | .lt _=>2
 | .get _=>1
 | .rcd l=>l.length
 | .case l=>l.length+ 1
 | .row m=>m
 | .op _ m=>m
def numS (n:Int):Str:=PySem.Str.ofString (toString n)
def Kn.ok:Kn->Prop
 | .num n=>0<=n/\n<10^60
 | .name w=>isName w=true
 | .fn w=>isName w=true
 | .tag w=>isName w=true
 | .lt w=>isName w=true
 | .get w=>isName w=true
 | .rcd l=>l.length<=6/\∀w∈l,isName w=true
 | .case l=>1<=l.length/\l.length<=6/\∀p∈l,isName p.1=true/\isName p.2=true
 | .row m=>m<=8
 | .op s m=>(s,m)∈ops
mutual
def Tr.sz:Tr->Nat
 | .mk _ ks=>1+szs ks
def szs:List Tr->Nat
 |[]=>0
 |t::ts=>t.sz+szs ts
end
mutual
def Tr.nest:Tr->Nat
 | .mk _ ks=>1+nests ks
def nests:List Tr->Nat
 |[]=>0
 |t::ts=>max t.nest (nests ts)
end
mutual
def Tr.ok:Tr->Prop
 | .mk κ ks=>κ.ok/\ks.length=κ.ar/\oks ks
def oks:List Tr->Prop
 |[]=>True
 |t::ts=>t.ok/\oks ts
end
def wv1:List Str->List (List Str)->List Str
 |w::l,k::ks=>w::(k++wv1 l ks)
 |_,_=>[]
def wv2:List (Str×Str)->List (List Str)->List Str
 |p::l,k::ks=>p.1::p.2::(k++wv2 l ks)
 |_,_=>[]
def Kn.ws:Kn->List (List Str)->List Str
 | .fn w,ks=>w::ks.flatten
 | .tag w,ks=>w::ks.flatten
 | .lt w,ks=>w::ks.flatten
 | .get w,ks=>ks.flatten++[w]
 | .rcd l,ks=>wv1 l ks
 | .case l,k::ks=>k++wv2 l ks
 |_,ks=>ks.flatten
def Kn.s:Kn->Str
 | .num _=>"num"
 | .name _=>"name"
 | .fn _=>"fn"
 | .tag _=>"tag"
 | .lt _=>"let"
 | .get _=>"get"
 | .rcd _=>"rec"
 | .case _=>"case"
 | .row _=>"row"
 | .op s _=>s
def Kn.tk (κ:Kn) (ks:List (List Str)):List Str:=match κ with
 | .num n=>[numS n]
 | .name w=>[w]
 |κ=>("(":Str)::κ.s::(κ.ws ks++[(")":Str)])
mutual
def Tr.tk:Tr->List Str
 | .mk κ ks=>κ.tk (tks ks)
def tks:List Tr->List (List Str)
 |[]=>[]
 |t::ts=>t.tk::tks ts
end
def sD (s:Str):Dt:= .flat (.str s)
def kD (k:Nat):Dt:= .flat (.int (k:Int))
def Kn.rw (κ:Kn) (ps:List Nat):List Dt:=match κ,ps with
 | .num n,_=>[sD "num",.flat (.int n)]
 | .name w,_=>[sD "name",sD w]
 | .fn w,ps=>sD "fn"::sD w::ps.map kD
 | .tag w,ps=>sD "tag"::sD w::ps.map kD
 | .lt w,ps=>sD "let"::sD w::ps.map kD
 | .get w,ps=>sD "get"::(ps.map kD++[sD w])
 | .rcd l,ps=>[sD "rec",.tup ((l.zip ps).map fun p=> .tup [sD p.1,kD p.2])]
 | .case l,p::ps=>[sD "case",kD p,.tup ((l.zip ps).map fun p=> .tup [sD p.1.1,sD p.1.2,kD p.2])]
 | .case _,[]=>[]
 | .row _,ps=>[sD "row",.tup (ps.map kD)]
 | .op s _,ps=>sD s::ps.map kD
def offs:List Tr->Nat->List Nat
 |[],_=>[]
 |t::ts,p=>p::offs ts (p+t.sz)
mutual
def Tr.rw:Tr->Nat->List Dt
 | .mk κ ks,p=> .tup (κ.rw (offs ks (p+ 1)))::rws ks (p+ 1)
def rws:List Tr->Nat->List Dt
 |[],_=>[]
 |t::ts,p=>t.rw p++rws ts (p+t.sz)
end
theorem offs_len:∀(ts:List Tr) (p:Nat),(offs ts p).length=ts.length
 |[],_=>rfl
 |t::ts,p=>by rw[offs,aA,aA,offs_len ts]
mutual
theorem Tr.rw_len:∀(t:Tr) (p:Nat),(t.rw p).length=t.sz
 | .mk κ ks,p=>by rw[Tr.rw,aA,yN ks,Tr.sz];lia
theorem yN:∀(ts:List Tr) (p:Nat),(rws ts p).length=szs ts
 |[],_=>by rw[rws,szs];rfl
 |t::ts,p=>by rw[rws,szs,aO,Tr.rw_len t,yN ts]
end
theorem An:isName ")"=false/\jD ")"=false:=by decide+kernel
theorem uI {w:Str} (h:isName w=true):w≠")":=fun z=>by rw[z,An.1]at h;cases h
def RdT (pe:Pe) (t:Tr):Prop:=∀(rest:List Str) (rows:List Dt),rows.length+t.sz<=160->pe (t.tk++rest) rows=some (rest,rows++t.rw rows.length)
def Ew (pe:Pe) (ts:List Tr):Prop:=∀t∈ts,RdT pe t
theorem pG {pe:Pe} {ps:List Bool} {acc rows:List Dt} {x:Str} {r:List Str} (h:isName x=true):gU pe (true::ps) acc (x::r) rows=gU pe ps (acc++[sD x]) r rows:=by
 rw[gU]
 exact if_pos h
theorem yO {pe:Pe} {ps:List Bool} {acc rows rows':List Dt} {ws r:List Str} (h:pe ws rows=some (r,rows')):gU pe (false::ps) acc ws rows=gU pe ps (acc++[kD rows.length]) r rows':=by
 rw[gU,h]
 rfl
theorem oM {pe:Pe}:∀(ts:List Tr),Ew pe ts->∀(ps:List Bool) (acc:List Dt) (rest:List Str) (rows:List Dt),rows.length+szs ts<=160->
  gU pe (aH ts.length false++ps) acc ((tks ts).flatten++rest) rows=gU pe ps (acc++(offs ts rows.length).map kD) rest (rows++rws ts rows.length)
 |[],_,ps,acc,rest,rows,_=>by simp[tks,offs,rws]
 |t::ts,h,ps,acc,rest,rows,hl=>by
  rw[szs]at hl
  have h1:=h t ah ((tks ts).flatten++rest) rows (by lia)
  rw[tks,a7,a8,aA,a6,aS,gU,h1]
  dsimp only
  have hlen:(rows++t.rw rows.length).length=rows.length+t.sz:=by rw[aO,Tr.rw_len]
  rw[oM ts (fun x hx=>h x (ai _ hx)) ps _ rest _ (by rw[hlen];lia),hlen,offs,rws,aC,a8,a8]
  rfl
theorem CA:∀(t:Tr),t.ok->∃x r,t.tk=x::r/\x≠")"
 | .mk κ ks,h=>by
  rw[Tr.ok]at h
  rw[Tr.tk]
  cases κ with
  |num n=>
   refine⟨_,_,rfl,fun z=>?_⟩
   have hf:=str_fig (k:=59) h.1.1 h.1.2
   have:(41:Nat)∈(numS n).cps.toList:=by rw[z];decide+kernel
   have:=hf.1 41 this
   exact absurd this (by decide+kernel)
  |name w=>exact⟨_,_,rfl,uI h.1⟩
  |_=>exact⟨_,_,rfl,by decide+kernel⟩
theorem uJ {item:List Str->List Dt->Option (Dt×Rs)} {ws r:List Str} {rows rows' acc:List Dt} {d:Dt} (h:∃x r,ws=x::r/\x≠(")":Str)) (hi:item ws rows=some (d,r,rows')) (hl:r.length<ws.length):jh item ws rows acc=jh item r rows' (acc++[d]):=by
 obtain⟨x,r0,rfl,hx⟩:=h
 have h':¬(x::r0).head?=some (")":Str):=fun z=>hx (dB.inj z)
 rw[jh]
 refine(if_neg h').trans ?_
 rw[hi]
 exact dif_pos hl
theorem pH {item:List Str->List Dt->Option (Dt×Rs)} {r:List Str} {rows acc:List Dt}:jh item ((")":Str)::r) rows acc=some (acc,(")":Str)::r,rows):=ma _ _ _ rfl
theorem tG {pe:Pe}:∀(ts:List Tr),Ew pe ts->oks ts->∀(acc:List Dt) (rest:List Str) (rows:List Dt),rows.length+szs ts<=160->
  jh (kX pe) ((tks ts).flatten++(")":Str)::rest) rows acc=some (acc++(offs ts rows.length).map kD,(")":Str)::rest,rows++rws ts rows.length)
 |[],_,_,acc,rest,rows,_=>by
  show jh _ ((")":Str)::rest) rows acc=_
  rw[pH]
  simp[offs,rws]
 |t::ts,h,ho,acc,rest,rows,hl=>by
  rw[szs]at hl
  rw[oks]at ho
  obtain⟨x,r,ex,hx⟩:=CA t ho.1
  have h1:=h t ah ((tks ts).flatten++(")":Str)::rest) rows (by lia)
  have hlen:(rows++t.rw rows.length).length=rows.length+t.sz:=by rw[aO,Tr.rw_len]
  rw[tks,a7,a8]
  rw[uJ (d:=kD rows.length) (r:=(tks ts).flatten++(")":Str)::rest) (rows':=rows++t.rw rows.length) ⟨x,_,by rw[ex];rfl,hx⟩ (by unfold kX;rw[h1];rfl) (by rw[ex,aS,aA,aO (as:=r)];lia),tG ts (fun x hx=>h x (ai _ hx)) ho.2 _ rest _ (by rw[hlen];lia),hlen,offs,rws,aC,a8,a8]
  rfl
theorem pI {pe:Pe}:∀(l:List Str) (ts:List Tr),l.length=ts.length->(∀w∈l,isName w=true)->Ew pe ts->∀(acc:List Dt) (rest:List Str) (rows:List Dt),rows.length+szs ts<=160->
  jh (je pe [true,false]) (wv1 l (tks ts)++(")":Str)::rest) rows acc=some (acc++(l.zip (offs ts rows.length)).map (fun p=> .tup [sD p.1,kD p.2]),(")":Str)::rest,rows++rws ts rows.length)
 |[],[],_,_,_,acc,rest,rows,_=>by
  show jh _ ((")":Str)::rest) rows acc=_
  rw[pH]
  simp[offs,rws]
 |w::l,t::ts,hl0,hw,h,acc,rest,rows,hl=>by
  rw[szs]at hl
  have h1:=h t ah (wv1 l (tks ts)++(")":Str)::rest) rows (by lia)
  have hn:=hw w ah
  have hlen:(rows++t.rw rows.length).length=rows.length+t.sz:=by rw[aO,Tr.rw_len]
  rw[tks,wv1,aS,a8]
  have hi:je pe [true,false] (w::(t.tk++(wv1 l (tks ts)++(")":Str)::rest))) rows=some (.tup [sD w,kD rows.length],wv1 l (tks ts)++(")":Str)::rest,rows++t.rw rows.length):=by
   have e:gU pe [true,false] [] (w::(t.tk++(wv1 l (tks ts)++(")":Str)::rest))) rows=some ([sD w,kD rows.length],wv1 l (tks ts)++(")":Str)::rest,rows++t.rw rows.length):=by
    rw[pG hn,yO h1]
    rfl
   unfold je
   rw[e]
  rw[uJ ⟨_,_,rfl,uI hn⟩ hi (by simp only[aA,aO];lia),pI l ts (by simpa using hl0) (fun x hx=>hw x (ai _ hx)) (fun x hx=>h x (ai _ hx)) _ rest _ (by rw[hlen];lia),hlen,offs,rws,bR,aC,a8,a8]
  rfl
theorem tH {pe:Pe}:∀(l:List (Str×Str)) (ts:List Tr),l.length=ts.length->(∀p∈l,isName p.1=true/\isName p.2=true)->Ew pe ts->∀(acc:List Dt) (rest:List Str) (rows:List Dt),rows.length+szs ts<=160->
  jh (je pe [true,true,false]) (wv2 l (tks ts)++(")":Str)::rest) rows acc=some (acc++(l.zip (offs ts rows.length)).map (fun p=> .tup [sD p.1.1,sD p.1.2,kD p.2]),(")":Str)::rest,rows++rws ts rows.length)
 |[],[],_,_,_,acc,rest,rows,_=>by
  show jh _ ((")":Str)::rest) rows acc=_
  rw[pH]
  simp[offs,rws]
 |w::l,t::ts,hl0,hw,h,acc,rest,rows,hl=>by
  rw[szs]at hl
  have h1:=h t ah (wv2 l (tks ts)++(")":Str)::rest) rows (by lia)
  obtain⟨hn,hn2⟩:=hw w ah
  have hlen:(rows++t.rw rows.length).length=rows.length+t.sz:=by rw[aO,Tr.rw_len]
  rw[tks,wv2,aS,aS,a8]
  have hi:je pe [true,true,false] (w.1::w.2::(t.tk++(wv2 l (tks ts)++(")":Str)::rest))) rows=some (.tup [sD w.1,sD w.2,kD rows.length],wv2 l (tks ts)++(")":Str)::rest,rows++t.rw rows.length):=by
   have e:gU pe [true,true,false] [] (w.1::w.2::(t.tk++(wv2 l (tks ts)++(")":Str)::rest))) rows=some ([sD w.1,sD w.2,kD rows.length],wv2 l (tks ts)++(")":Str)::rest,rows++t.rw rows.length):=by
    rw[pG hn,pG hn2,yO h1]
    rfl
   unfold je
   rw[e]
  rw[uJ ⟨_,_,rfl,uI hn⟩ hi (by simp only[aA,aO];lia),tH l ts (by simpa using hl0) (fun x hx=>hw x (ai _ hx)) (fun x hx=>h x (ai _ hx)) _ rest _ (by rw[hlen];lia),hlen,offs,rws,bR,aC,a8,a8]
  rfl
theorem yP {rows more:List Dt} {x y:Dt}:(rows++[x]++more).set rows.length y=rows++y::more:=by
 rw[a8,List.set_append_right _ _ (c7 _),dw]
 rfl
theorem my {f:Nat} {h:Str} {ws rest:List Str} {rows ds more:List Dt} (hr:rows.length<160) (hf:jv (hI f) h (ws++(")":Str)::rest) (rows++[.flat .non])=some (ds,(")":Str)::rest,rows++[.flat .non]++more)):
  hI (f+ 1) (("(":Str)::h::(ws++[(")":Str)])++rest) rows=some (rest,rows++ .tup ds::more):=by
 rw[hI,if_neg (by lia)]
 show(match qH (hI f) (("(":Str)::h::((ws++[(")":Str)])++rest)) (rows++[Dt.flat .non])with|none=>none|some (ds,r,rows')=>some (r,rows'.set rows.length (Dt.tup ds)))=_
 rw[uH oK.1 oK.2 rfl,a8]
 show(match mw (jv (hI f) h (ws++(")":Str)::rest) (rows++[Dt.flat .non]))with|none=>none|some (ds,r,rows')=>some (r,rows'.set rows.length (Dt.tup ds)))=_
 rw[hf]
 show(match(if(")":Str)=")" then some (ds,rest,rows++[Dt.flat .non]++more)else none)with|none=>none|some (ds,r,rows')=>some (r,rows'.set rows.length (Dt.tup ds)))=_
 rw[if_pos rfl]
 show some (rest,(rows++[Dt.flat .non]++more).set rows.length (Dt.tup ds))=_
 rw[yP]
theorem nh {pe:Pe} {h:Str} {ps:List Bool} {ws r:List Str} {rows ds rows':List Dt} (h1:¬h="rec") (h2:¬h="case") (h3:¬h="row") (hp:stP h=some ps) (s:gU pe ps [] ws rows=some (ds,r,rows')):jv pe h ws rows=some (sD h::ds,r,rows'):=by
 unfold jv
 rw[if_neg h1,if_neg h2,if_neg h3,hp]
 dsimp only
 rw[s]
 rfl
theorem Ey:∀p∈ops,stP p.1=some (aH p.2 false)/\¬p.1="rec"/\¬p.1="case"/\¬p.1="row":=by decide+kernel
theorem num_is {n:Int} (h0:0<=n) (h1:n<10^60):jD (numS n)=true/\tj (numS n)=n:=by
 refine⟨GR.Internal.num_is (k:=59) h0 h1 (by decide),?_⟩
 obtain⟨f1,f2,f3⟩:=str_fig (k:=59) h0 h1
 have hd:PySem.NumText.AllDigits (numS n).cps.toList:=fun c hc=>vI c (f1 c hc)
 have hne:(numS n).cps.toList≠[]:=by
  obtain⟨c,r,e⟩:=first_of (x:=numS n) f2
  rw[e]
  exact bN _ _
 have hl:(numS n).length<=60:=f3
 have e:=PySem.intText_digits hd hne (by lia)
 unfold tj
 rw[e]
 obtain⟨m,rfl⟩:=gh h0
 unfold numS
 rw[PySem.W.KIN.signs_num,PySem.W.KIN.val_back]
 rfl
theorem Gu:∀c∈SM.cps.toList,¬c∈FG.cps.toList:=by decide+kernel
theorem CC {w:Str} (h:isName w=true):¬jD w=true:=fun z=>by
 obtain⟨z1,_,z3⟩:=pE z
 obtain⟨c,r,ec⟩:=first_of z1
 unfold isName at h
 simp only[fV]at h
 have hf:=h.1.2
 unfold firstIn at hf
 rw[ec]at hf
 exact Gu c (of_decide_eq_true hf) (allIn_mem z3 c (by rw[ec];exact ah))
theorem rd_all:∀(f:Nat) (t:Tr),t.ok->t.nest<=f->RdT (hI f) t
 |0,.mk κ ks,_,hn=>by rw[Tr.nest]at hn;lia
 |f+ 1,.mk κ ks,ho,hn=>by
  intro rest rows hl
  rw[Tr.ok]at ho
  rw[Tr.nest]at hn
  rw[Tr.sz]at hl
  obtain⟨h1,h2,h3⟩:=ho
  have ih:Ew (hI f) ks:=by
   intro t ht
   have:t.ok/\t.nest<=nests ks:=by
    clear hl h1 h2
    induction ks with
    |nil=>cases ht
    |cons x xs ih=>
     rw[oks]at h3
     rw[nests]at hn⊢
     rcases aj.mp ht with e|e
     ·subst e
      exact⟨h3.1,Nat.le_max_left _ _⟩
     ·have:=ih (by lia) h3.2 e
      exact⟨this.1,by lia⟩
   exact rd_all f t this.1 (by lia)
  have r1:(rows++[Dt.flat .non]).length=rows.length+ 1:=by rw[aO];rfl
  have hs:∀(s:Str) (ps:List Bool),ps=aH ks.length false->stP s=some ps->(¬s="rec"/\¬s="case"/\¬s="row")->jv (hI f) s ((tks ks).flatten++(")":Str)::rest) (rows++[.flat .non])=some (sD s::(offs ks (rows.length+ 1)).map kD,(")":Str)::rest,rows++[.flat .non]++rws ks (rows.length+ 1)):=fun s ps e1 e2 e3=>by
   refine nh e3.1 e3.2.1 e3.2.2 e2 ?_
   have:=oM ks ih [] [] ((")":Str)::rest) (rows++[.flat .non]) (by rw[r1];lia)
   rw[aE]at this
   rw[e1,this,r1,gU]
   rfl
  have hn1:∀(s w:Str),isName w=true->stP s=some (true::aH ks.length false)->(¬s="rec"/\¬s="case"/\¬s="row")->jv (hI f) s (w::(tks ks).flatten++(")":Str)::rest) (rows++[.flat .non])=some (sD s::sD w::(offs ks (rows.length+ 1)).map kD,(")":Str)::rest,rows++[.flat .non]++rws ks (rows.length+ 1)):=fun s w hw e2 e3=>by
   refine nh e3.1 e3.2.1 e3.2.2 e2 ?_
   rw[aS,pG hw]
   have:=oM ks ih [] [sD w] ((")":Str)::rest) (rows++[.flat .non]) (by rw[r1];lia)
   rw[aE]at this
   show gU (hI f) (aH ks.length false) [sD w] _ _=_
   rw[this,r1,gU]
   rfl
  rw[Tr.tk,Tr.rw]
  cases κ with
  |num n=>
   have e:ks=[]:=bS h2
   subst e
   obtain⟨n1,n2⟩:=num_is h1.1 h1.2
   rw[hI,if_neg (by lia)]
   show(match qH (hI f) (numS n::rest) (rows++[Dt.flat .non])with|none=>none|some (ds,r,rows')=>some (r,rows'.set rows.length (Dt.tup ds)))=_
   rw[uG n1,n2]
   show some (rest,(rows++[Dt.flat .non]).set rows.length (Dt.tup _))=_
   have:=yP (rows:=rows) (more:=[]) (x:=Dt.flat .non) (y:=Dt.tup [Dt.flat (.str "num"),Dt.flat (.int n)])
   rw[aE]at this
   rw[this]
   rfl
  |name w=>
   have e:ks=[]:=bS h2
   subst e
   have hw:isName w=true:=h1
   have hnn:¬jD w=true:=CC hw
   rw[hI,if_neg (by lia)]
   show(match qH (hI f) (w::rest) (rows++[Dt.flat .non])with|none=>none|some (ds,r,rows')=>some (r,rows'.set rows.length (Dt.tup ds)))=_
   rw[rA hnn hw]
   show some (rest,(rows++[Dt.flat .non]).set rows.length (Dt.tup _))=_
   have:=yP (rows:=rows) (more:=[]) (x:=Dt.flat .non) (y:=Dt.tup [Dt.flat (.str "name"),Dt.flat (.str w)])
   rw[aE]at this
   rw[this]
   rfl
  |fn w=>exact my (by lia) (hn1 "fn" w h1 (by rw[h2];exact(show stP "fn"=some (true::aH 1 false)from by decide+kernel)) (by decide+kernel))
  |tag w=>exact my (by lia) (hn1 "tag" w h1 (by rw[h2];exact(show stP "tag"=some (true::aH 1 false)from by decide+kernel)) (by decide+kernel))
  |lt w=>exact my (by lia) (hn1 "let" w h1 (by rw[h2];exact(show stP "let"=some (true::aH 2 false)from by decide+kernel)) (by decide+kernel))
  |get w=>
   refine my (by lia) ?_
   refine nh (h:="get") (by decide+kernel) (by decide+kernel) (by decide+kernel) (show stP "get"=some (aH ks.length false++[true]) by rw[h2];exact(show stP "get"=some (aH 1 false++[true])from by decide+kernel)) ?_
   have:=oM ks ih [true] [] (w::(")":Str)::rest) (rows++[.flat .non]) (by rw[r1];lia)
   show gU (hI f) _ [] (((tks ks).flatten++[w])++(")":Str)::rest) _=_
   rw[a8]
   show gU (hI f) _ [] ((tks ks).flatten++(w::(")":Str)::rest)) _=_
   rw[this,r1,pG (show isName w=true from h1),gU]
   rfl
  |rcd l=>
   refine my (by lia) ?_
   have:=pI l ks h2.symm h1.2 ih [] rest (rows++[.flat .non]) (by rw[r1];lia)
   show jv (hI f) "rec" _ _=_
   unfold jv
   rw[if_pos rfl]
   show(match chk 0 6 (jh (je (hI f) [true,false]) (wv1 l (tks ks)++(")":Str)::rest) (rows++[Dt.flat .non]) [])with|none=>none|some (l,r)=>some ([Dt.flat (.str "rec"),Dt.tup l],r))=_
   rw[this,r1]
   unfold chk
   dsimp only
   rw[if_pos ⟨c8 _,by rw[ba,aD,bT];have:=h1.1;lia⟩]
   rfl
  |row m=>
   refine my (by lia) ?_
   have:=tG ks ih h3 [] rest (rows++[.flat .non]) (by rw[r1];lia)
   show jv (hI f) "row" _ _=_
   unfold jv
   rw[if_neg (by decide+kernel),if_neg (by decide+kernel),if_pos rfl]
   show(match chk 0 8 (jh (kX (hI f)) ((tks ks).flatten++(")":Str)::rest) (rows++[Dt.flat .non]) [])with|none=>none|some (l,r)=>some ([Dt.flat (.str "row"),Dt.tup l],r))=_
   rw[this,r1]
   unfold chk
   dsimp only
   have h8:m<=8:=h1
   have hk:ks.length=m:=h2
   rw[if_pos ⟨c8 _,by rw[ba,aD,offs_len];lia⟩]
   rfl
  |op s m=>
   obtain⟨e1,e2⟩:=Ey (s,m) h1
   exact my (by lia) (hs s _ (by rw[h2];rfl) e1 e2)
  |case l=>
   cases ks with
   |nil=>exact absurd h2 (by simp[Kn.ar])
   |cons t ts=>
    have hl2:l.length=ts.length:=by simpa[Kn.ar]using h2.symm
    refine my (by lia) ?_
    rw[szs]at hl
    have hlen:(rows++[Dt.flat .non]++t.rw (rows.length+ 1)).length=rows.length+ 1+t.sz:=by rw[aO,Tr.rw_len,r1]
    have a1:=ih t ah (wv2 l (tks ts)++(")":Str)::rest) (rows++[.flat .non]) (by rw[r1];lia)
    rw[r1]at a1
    have a2:=tH l ts hl2 h1.2.2 (fun x hx=>ih x (ai _ hx)) [] rest (rows++[.flat .non]++t.rw (rows.length+ 1)) (by rw[hlen];lia)
    show jv (hI f) "case" _ _=_
    unfold jv
    rw[if_neg (by decide+kernel),if_pos rfl]
    show(match hI f ((t.tk++wv2 l (tks ts))++(")":Str)::rest) (rows++[Dt.flat .non])with|none=>none|some (r1,rows1)=>match chk 1 6 (jh (je (hI f) [true,true,false]) r1 rows1 [])with|none=>none|some (l,r)=>some ([Dt.flat (.str "case"),Dt.flat (.int ((rows++[Dt.flat .non]).length:Int)),Dt.tup l],r))=_
    rw[a8,a1]
    dsimp only
    rw[a2,hlen]
    unfold chk
    dsimp only
    rw[if_pos ⟨by rw[ba,aD,bT,offs_len];have:=h1.1;lia,by rw[ba,aD,bT];have:=h1.2.1;lia⟩,r1]
    show some ([sD "case",kD (rows.length+ 1),Dt.tup _],(")":Str)::rest,rows++[Dt.flat .non]++t.rw (rows.length+ 1)++rws ts (rows.length+ 1+t.sz))=_
    rw[rws,offs,a8]
    rfl
end TM.Internal
namespace K13.Internal
open PySem L2.Internal
theorem l0 {P:List Value->Prop} (h:P []):∀us:List Value,us.length=0->P us:=fun us e=>by rw[bS e];exact h
theorem lS {n:Nat} {P:List Value->Prop} (h:∀a,∀us:List Value,us.length=n->P (a::us)):∀us:List Value,us.length=n+ 1->P us:=fun us e=>by
 cases us with
 |nil=>cases e
 |cons a t=>exact h a t (Nat.succ.inj e)
def top (i:Nat):Stmt:=PySem.Challenge.pw_flowkinds_k13_too_heavy.main.body.getD i (.Pass ⟨0,0,0,0⟩)
abbrev kj:Stmt:=top 11
abbrev jU:Stmt:=top 12
abbrev pJ:Stmt:=top 13
abbrev jV:Stmt:=top 14
abbrev jx:Stmt:=top 17
abbrev jy:Stmt:=top 18
abbrev jW:Stmt:=top 19
abbrev km:Stmt:=top 21
abbrev i5:Stmt:=top 22
abbrev jz:Stmt:=top 23
abbrev k9:Stmt:=top 24
abbrev jj:Stmt:=top 25
abbrev i6:Stmt:=top 26
abbrev lg:Stmt:=top 27
abbrev ko:Stmt:=top 42
abbrev lz:Stmt:=top 43
abbrev jX:Stmt:=top 44
abbrev lA:Stmt:=top 45
abbrev pK:Stmt:=top 46
abbrev jk:Stmt:=top 47
abbrev jY:Stmt:=top 50
abbrev jA:Stmt:=top 51
abbrev ku:Stmt:=top 52
abbrev ky:Stmt:=top 53
abbrev jm:Stmt:=top 54
abbrev jB:Stmt:=top 55
abbrev jZ:Stmt:=top 56
abbrev rD:Stmt:=top 57
abbrev ir:Stmt:=j8 (top 5) 0
abbrev iw:Stmt:=j8 (top 41) 0
abbrev iE:Stmt:=j8 (top 48) 0
abbrev i8:Stmt:=j8 (top 48) 1
abbrev jo:Stmt:=j8 (top 48) 2
abbrev iy:Stmt:=j8 (top 48) 3
abbrev iz:Stmt:=j8 (top 48) 4
abbrev iA:Stmt:=j8 (top 48) 5
abbrev iF:Stmt:=j8 (top 48) 6
abbrev iB:Stmt:=j8 (top 48) 7
abbrev ij:Stmt:=j8 (top 48) 8
abbrev ik:Stmt:=j8 (top 48) 9
abbrev iC:Stmt:=j8 (top 48) 10
abbrev ip:Stmt:=j8 (top 48) 11
set_option genInjectivity false in
set_option genSizeOf false in
structure Txt (K:PySem.W.Frag) (mg:Str->Option Value) where
 t_MOST_WEIGHT:Tok
 m_MOST_WEIGHT:mg "MOST_WEIGHT"=some (.int 60 t_MOST_WEIGHT)
 t_LETTERS:Tok
 m_LETTERS:mg "LETTERS"=some (.str "abcdefghijklmnopqrstuvwxyz" t_LETTERS)
 t_FIGURES:Tok
 m_FIGURES:mg "FIGURES"=some (.str "0123456789" t_FIGURES)
 a_KEPT_WORDS:Addr
 m_KEPT_WORDS:mg "KEPT_WORDS"=some (.ref a_KEPT_WORDS)
 q_KEPT_WORDS:∀H:Hp,SqT K H a_KEPT_WORDS [V.str "def",V.str "fn",V.str "call",V.str "let",V.str "rec",V.str "get",V.str "tag",V.str "case",V.str "row",V.str "at",V.str "join",V.str "size",V.str "add",V.str "sub",V.str "less"]
 t_MOST_FIGURES:Tok
 m_MOST_FIGURES:mg "MOST_FIGURES"=some (.int 60 t_MOST_FIGURES)
 t_MOST_SIGNS:Tok
 m_MOST_SIGNS:mg "MOST_SIGNS"=some (.int 12 t_MOST_SIGNS)
 t_MOST_DEFINITIONS:Tok
 m_MOST_DEFINITIONS:mg "MOST_DEFINITIONS"=some (.int 12 t_MOST_DEFINITIONS)
 t_MOST_FIELDS:Tok
 m_MOST_FIELDS:mg "MOST_FIELDS"=some (.int 6 t_MOST_FIELDS)
 t_MOST_ARMS:Tok
 m_MOST_ARMS:mg "MOST_ARMS"=some (.int 6 t_MOST_ARMS)
 t_MOST_THINGS:Tok
 m_MOST_THINGS:mg "MOST_THINGS"=some (.int 8 t_MOST_THINGS)
 t_MOST_PLACES:Tok
 m_MOST_PLACES:mg "MOST_PLACES"=some (.int 160 t_MOST_PLACES)
 t_MOST_NEST:Tok
 m_MOST_NEST:mg "MOST_NEST"=some (.int 24 t_MOST_NEST)
 a_parts_of:Addr
 fd_parts_of:FuncData
 F_parts_of:Fun K "parts_of" "parts_of" kj a_parts_of fd_parts_of
 b_parts_of:iH K fd_parts_of ["row"] []
 m_parts_of:mg "parts_of"=some (.ref a_parts_of)
 k_parts_of:eA K (.ref a_parts_of)=true
 a_places_in:Addr
 fd_places_in:FuncData
 F_places_in:Fun K "places_in" "places_in" jU a_places_in fd_places_in
 b_places_in:iH K fd_places_in ["row"] []
 m_places_in:mg "places_in"=some (.ref a_places_in)
 k_places_in:eA K (.ref a_places_in)=true
 a_flat:Addr
 fd_flat:FuncData
 F_flat:Fun K "flat" "flat" pJ a_flat fd_flat
 b_flat:iH K fd_flat ["parts"] []
 m_flat:mg "flat"=some (.ref a_flat)
 k_flat:eA K (.ref a_flat)=true
 a_stands_in:Addr
 fd_stands_in:FuncData
 F_stands_in:Fun K "stands_in" "stands_in" jV a_stands_in fd_stands_in
 b_stands_in:iH K fd_stands_in ["program","place","number"] []
 m_stands_in:mg "stands_in"=some (.ref a_stands_in)
 k_stands_in:eA K (.ref a_stands_in)=true
 a_weights_of:Addr
 fd_weights_of:FuncData
 F_weights_of:Fun K "weights_of" "weights_of" jx a_weights_of fd_weights_of
 b_weights_of:iH K fd_weights_of ["program","homes"] []
 m_weights_of:mg "weights_of"=some (.ref a_weights_of)
 k_weights_of:eA K (.ref a_weights_of)=true
 a_inside_out:Addr
 fd_inside_out:FuncData
 F_inside_out:Fun K "inside_out" "inside_out" jy a_inside_out fd_inside_out
 b_inside_out:iH K fd_inside_out ["rows","root"] []
 m_inside_out:mg "inside_out"=some (.ref a_inside_out)
 k_inside_out:eA K (.ref a_inside_out)=true
 a_weight_of:Addr
 fd_weight_of:FuncData
 F_weight_of:Fun K "weight_of" "weight_of" jW a_weight_of fd_weight_of
 b_weight_of:iH K fd_weight_of ["program","homes","place","weights"] []
 m_weight_of:mg "weight_of"=some (.ref a_weight_of)
 k_weight_of:eA K (.ref a_weight_of)=true
 a_homes_of:Addr
 fd_homes_of:FuncData
 F_homes_of:Fun K "homes_of" "homes_of" km a_homes_of fd_homes_of
 b_homes_of:iH K fd_homes_of ["program"] []
 m_homes_of:mg "homes_of"=some (.ref a_homes_of)
 k_homes_of:eA K (.ref a_homes_of)=true
 a_refuse_twice:Addr
 fd_refuse_twice:FuncData
 F_refuse_twice:Fun K "refuse_twice" "refuse_twice" i5 a_refuse_twice fd_refuse_twice
 b_refuse_twice:iH K fd_refuse_twice ["words"] []
 m_refuse_twice:mg "refuse_twice"=some (.ref a_refuse_twice)
 k_refuse_twice:eA K (.ref a_refuse_twice)=true
 a_words_once:Addr
 fd_words_once:FuncData
 F_words_once:Fun K "words_once" "words_once" jz a_words_once fd_words_once
 b_words_once:iH K fd_words_once ["row"] []
 m_words_once:mg "words_once"=some (.ref a_words_once)
 k_words_once:eA K (.ref a_words_once)=true
 a_home_of:Addr
 fd_home_of:FuncData
 F_home_of:Fun K "home_of" "home_of" k9 a_home_of fd_home_of
 b_home_of:iH K fd_home_of ["row","place","scope"] []
 m_home_of:mg "home_of"=some (.ref a_home_of)
 k_home_of:eA K (.ref a_home_of)=true
 a_root_scopes:Addr
 fd_root_scopes:FuncData
 F_root_scopes:Fun K "root_scopes" "root_scopes" jj a_root_scopes fd_root_scopes
 b_root_scopes:iH K fd_root_scopes ["program"] []
 m_root_scopes:mg "root_scopes"=some (.ref a_root_scopes)
 k_root_scopes:eA K (.ref a_root_scopes)=true
 a_inner_scopes:Addr
 fd_inner_scopes:FuncData
 F_inner_scopes:Fun K "inner_scopes" "inner_scopes" i6 a_inner_scopes fd_inner_scopes
 b_inner_scopes:iH K fd_inner_scopes ["row","scope"] []
 m_inner_scopes:mg "inner_scopes"=some (.ref a_inner_scopes)
 k_inner_scopes:eA K (.ref a_inner_scopes)=true
 a_widened:Addr
 fd_widened:FuncData
 F_widened:Fun K "widened" "widened" lg a_widened fd_widened
 b_widened:iH K fd_widened ["scope","name","home"] []
 m_widened:mg "widened"=some (.ref a_widened)
 k_widened:eA K (.ref a_widened)=true
 a_words_of:Addr
 fd_words_of:FuncData
 F_words_of:Fun K "words_of" "words_of" ko a_words_of fd_words_of
 b_words_of:iH K fd_words_of ["text"] []
 m_words_of:mg "words_of"=some (.ref a_words_of)
 k_words_of:eA K (.ref a_words_of)=true
 a_is_name:Addr
 fd_is_name:FuncData
 F_is_name:Fun K "is_name" "is_name" lz a_is_name fd_is_name
 b_is_name:iH K fd_is_name ["word"] []
 m_is_name:mg "is_name"=some (.ref a_is_name)
 k_is_name:eA K (.ref a_is_name)=true
 a_is_number:Addr
 fd_is_number:FuncData
 F_is_number:Fun K "is_number" "is_number" jX a_is_number fd_is_number
 b_is_number:iH K fd_is_number ["word"] []
 m_is_number:mg "is_number"=some (.ref a_is_number)
 k_is_number:eA K (.ref a_is_number)=true
 a_made_of:Addr
 fd_made_of:FuncData
 F_made_of:Fun K "made_of" "made_of" lA a_made_of fd_made_of
 b_made_of:iH K fd_made_of ["word","signs"] []
 m_made_of:mg "made_of"=some (.ref a_made_of)
 k_made_of:eA K (.ref a_made_of)=true
 a_read:Addr
 fd_read:FuncData
 F_read:Fun K "read" "read" pK a_read fd_read
 b_read:iH K fd_read ["text"] []
 m_read:mg "read"=some (.ref a_read)
 k_read:eA K (.ref a_read)=true
 a_check_count:Addr
 fd_check_count:FuncData
 F_check_count:Fun K "check_count" "check_count" jk a_check_count fd_check_count
 b_check_count:iH K fd_check_count ["what","count","least","most"] []
 m_check_count:mg "check_count"=some (.ref a_check_count)
 k_check_count:eA K (.ref a_check_count)=true
 a_stem:Addr
 fd_stem:FuncData
 F_stem:Fun K "_law_stem" "_law_stem" jY a_stem fd_stem
 b_stem:iH K fd_stem ["_law_cell","_law_size"] []
 m_stem:mg "_law_stem"=some (.ref a_stem)
 k_stem:eA K (.ref a_stem)=true
 a_words:Addr
 fd_words:FuncData
 F_words:Fun K "_law_words" "_law_words" jA a_words fd_words
 b_words:iH K fd_words ["_law_cell"] []
 m_words:mg "_law_words"=some (.ref a_words)
 k_words:eA K (.ref a_words)=true
 a_row:Addr
 fd_row:FuncData
 F_row:Fun K "_law_row" "_law_row" ku a_row fd_row
 b_row:iH K fd_row ["_law_things"] []
 m_row:mg "_law_row"=some (.ref a_row)
 k_row:eA K (.ref a_row)=true
 a_let:Addr
 fd_let:FuncData
 F_let:Fun K "_law_let" "_law_let" ky a_let fd_let
 b_let:iH K fd_let ["_law_word","_law_things","_law_times"] []
 m_let:mg "_law_let"=some (.ref a_let)
 k_let:eA K (.ref a_let)=true
 a_filler:Addr
 fd_filler:FuncData
 F_filler:Fun K "_law_filler" "_law_filler" jm a_filler fd_filler
 b_filler:iH K fd_filler ["_law_weight"] []
 m_filler:mg "_law_filler"=some (.ref a_filler)
 k_filler:eA K (.ref a_filler)=true
 a_grown:Addr
 fd_grown:FuncData
 F_grown:Fun K "_law_grown" "_law_grown" jB a_grown fd_grown
 b_grown:iH K fd_grown ["_law_words_here","_law_made","_law_things","_law_cell","_law_room"] []
 m_grown:mg "_law_grown"=some (.ref a_grown)
 k_grown:eA K (.ref a_grown)=true
 a_text:Addr
 fd_text:FuncData
 F_text:Fun K "_law_text" "_law_text" jZ a_text fd_text
 b_text:iH K fd_text ["_law_words_here","_law_seed","_law_cells"] []
 m_text:mg "_law_text"=some (.ref a_text)
 k_text:eA K (.ref a_text)=true
 a_FlowError:Addr
 m_FlowError:mg "FlowError"=some (.ref a_FlowError)
 x_FlowError:Dq K a_FlowError
 a_BadText:Addr
 m_BadText:mg "BadText"=some (.ref a_BadText)
 x_BadText:Dq K a_BadText
 a_Twice:Addr
 m_Twice:mg "Twice"=some (.ref a_Twice)
 a_NoName:Addr
 m_NoName:mg "NoName"=some (.ref a_NoName)
 a_TooHeavy:Addr
 m_TooHeavy:mg "TooHeavy"=some (.ref a_TooHeavy)
 a_TooHeavy___init__:Addr
 fd_TooHeavy___init__:FuncData
 F_TooHeavy___init__:Fun K "__init__" "TooHeavy.__init__" ir a_TooHeavy___init__ fd_TooHeavy___init__
 b_TooHeavy___init__:iH K fd_TooHeavy___init__ ["self","word"] []
 xi_TooHeavy:Gh K a_TooHeavy a_TooHeavy___init__
 xs_TooHeavy:Dr K a_TooHeavy
 xf_TooHeavy_word:dR K (.ref a_TooHeavy) "word"=some none
 a_BadPaper:Addr
 m_BadPaper:mg "BadPaper"=some (.ref a_BadPaper)
 x_BadPaper:Dq K a_BadPaper
 a_WrongKind:Addr
 m_WrongKind:mg "WrongKind"=some (.ref a_WrongKind)
 a_OutOfTurns:Addr
 m_OutOfTurns:mg "OutOfTurns"=some (.ref a_OutOfTurns)
 x_OutOfTurns:Dq K a_OutOfTurns
 a_RowFull:Addr
 m_RowFull:mg "RowFull"=some (.ref a_RowFull)
 x_RowFull:Dq K a_RowFull
 a_Program:Addr
 m_Program:mg "Program"=some (.ref a_Program)
 cl_Program:Cls K a_Program
 ty_Program:∀(H:Hp) (a dx:Addr) (fs:List (Str×V)),H a=some (.ins a_Program dx fs)->ub K H (.ref a) (.ref a_Program)
 n_Program_names:lP K a_Program "names"
 n_Program_roots:lP K a_Program "roots"
 n_Program_rows:lP K a_Program "rows"
 a_Program___init__:Addr
 fd_Program___init__:FuncData
 F_Program___init__:Fun K "__init__" "Program.__init__" iw a_Program___init__ fd_Program___init__
 b_Program___init__:iH K fd_Program___init__ ["self","names","roots","rows"] []
 mk_Program:Mk K a_Program a_Program___init__
 a_Reader:Addr
 m_Reader:mg "Reader"=some (.ref a_Reader)
 cl_Reader:Cls K a_Reader
 ty_Reader:∀(H:Hp) (a dx:Addr) (fs:List (Str×V)),H a=some (.ins a_Reader dx fs)->ub K H (.ref a) (.ref a_Reader)
 n_Reader_words:lP K a_Reader "words"
 n_Reader_taken:lP K a_Reader "taken"
 n_Reader_rows:lP K a_Reader "rows"
 a_Reader___init__:Addr
 fd_Reader___init__:FuncData
 F_Reader___init__:Fun K "__init__" "Reader.__init__" iE a_Reader___init__ fd_Reader___init__
 b_Reader___init__:iH K fd_Reader___init__ ["self","words"] []
 mk_Reader:Mk K a_Reader a_Reader___init__
 a_Reader_ahead:Addr
 fd_Reader_ahead:FuncData
 F_Reader_ahead:Fun K "ahead" "Reader.ahead" i8 a_Reader_ahead fd_Reader_ahead
 b_Reader_ahead:iH K fd_Reader_ahead ["self"] []
 me_Reader_ahead:vj K a_Reader "ahead" a_Reader_ahead
 a_Reader_take:Addr
 fd_Reader_take:FuncData
 F_Reader_take:Fun K "take" "Reader.take" jo a_Reader_take fd_Reader_take
 b_Reader_take:iH K fd_Reader_take ["self"] []
 me_Reader_take:vj K a_Reader "take" a_Reader_take
 a_Reader_pass_over:Addr
 fd_Reader_pass_over:FuncData
 F_Reader_pass_over:Fun K "pass_over" "Reader.pass_over" iy a_Reader_pass_over fd_Reader_pass_over
 b_Reader_pass_over:iH K fd_Reader_pass_over ["self","wanted"] []
 me_Reader_pass_over:vj K a_Reader "pass_over" a_Reader_pass_over
 a_Reader_take_name:Addr
 fd_Reader_take_name:FuncData
 F_Reader_take_name:Fun K "take_name" "Reader.take_name" iz a_Reader_take_name fd_Reader_take_name
 b_Reader_take_name:iH K fd_Reader_take_name ["self"] []
 me_Reader_take_name:vj K a_Reader "take_name" a_Reader_take_name
 a_Reader_take_expr:Addr
 fd_Reader_take_expr:FuncData
 F_Reader_take_expr:Fun K "take_expr" "Reader.take_expr" iA a_Reader_take_expr fd_Reader_take_expr
 b_Reader_take_expr:iH K fd_Reader_take_expr ["self","depth"] []
 me_Reader_take_expr:vj K a_Reader "take_expr" a_Reader_take_expr
 a_Reader_take_row:Addr
 fd_Reader_take_row:FuncData
 F_Reader_take_row:Fun K "take_row" "Reader.take_row" iF a_Reader_take_row fd_Reader_take_row
 b_Reader_take_row:iH K fd_Reader_take_row ["self","depth"] []
 me_Reader_take_row:vj K a_Reader "take_row" a_Reader_take_row
 a_Reader_take_form:Addr
 fd_Reader_take_form:FuncData
 F_Reader_take_form:Fun K "take_form" "Reader.take_form" iB a_Reader_take_form fd_Reader_take_form
 b_Reader_take_form:iH K fd_Reader_take_form ["self","head","depth"] []
 me_Reader_take_form:vj K a_Reader "take_form" a_Reader_take_form
 a_Reader_take_steady:Addr
 fd_Reader_take_steady:FuncData
 F_Reader_take_steady:Fun K "take_steady" "Reader.take_steady" ij a_Reader_take_steady fd_Reader_take_steady
 b_Reader_take_steady:iH K fd_Reader_take_steady ["self","parts","depth"] []
 me_Reader_take_steady:vj K a_Reader "take_steady" a_Reader_take_steady
 a_Reader_take_fields:Addr
 fd_Reader_take_fields:FuncData
 F_Reader_take_fields:Fun K "take_fields" "Reader.take_fields" ik a_Reader_take_fields fd_Reader_take_fields
 b_Reader_take_fields:iH K fd_Reader_take_fields ["self","depth"] []
 me_Reader_take_fields:vj K a_Reader "take_fields" a_Reader_take_fields
 a_Reader_take_arms:Addr
 fd_Reader_take_arms:FuncData
 F_Reader_take_arms:Fun K "take_arms" "Reader.take_arms" iC a_Reader_take_arms fd_Reader_take_arms
 b_Reader_take_arms:iH K fd_Reader_take_arms ["self","depth"] []
 me_Reader_take_arms:vj K a_Reader "take_arms" a_Reader_take_arms
 a_Reader_take_things:Addr
 fd_Reader_take_things:FuncData
 F_Reader_take_things:Fun K "take_things" "Reader.take_things" ip a_Reader_take_things fd_Reader_take_things
 b_Reader_take_things:iH K fd_Reader_take_things ["self","depth"] []
 me_Reader_take_things:vj K a_Reader "take_things" a_Reader_take_things
 e_BadText_BadText:fc K (.ref a_BadText) (.ref a_BadText)=some true
 e_TooHeavy_FlowError:fc K (.ref a_TooHeavy) (.ref a_FlowError)=some true
 i_TooHeavy_TooHeavy:eF K (.ref a_TooHeavy) (.ref a_TooHeavy)=some true
 i_TooHeavy_ValueError:eF K (.ref a_TooHeavy) (.type "ValueError")=some true
 i_TooHeavy_BadPaper:eF K (.ref a_TooHeavy) (.ref a_BadPaper)=some false
 i_TooHeavy_BadText:eF K (.ref a_TooHeavy) (.ref a_BadText)=some false
 i_TooHeavy_NoName:eF K (.ref a_TooHeavy) (.ref a_NoName)=some false
 i_TooHeavy_Twice:eF K (.ref a_TooHeavy) (.ref a_Twice)=some false
 i_TooHeavy_OutOfTurns:eF K (.ref a_TooHeavy) (.ref a_OutOfTurns)=some false
 i_TooHeavy_RowFull:eF K (.ref a_TooHeavy) (.ref a_RowFull)=some false
 i_TooHeavy_WrongKind:eF K (.ref a_TooHeavy) (.ref a_WrongKind)=some false
 z_ValueError:mg "ValueError"=none
 z_all:mg "all"=none
 z_bool:mg "bool"=none
 z_dict:mg "dict"=none
 z_enumerate:mg "enumerate"=none
 z_int:mg "int"=none
 z_isinstance:mg "isinstance"=none
 z_len:mg "len"=none
 z_list:mg "list"=none
 z_max:mg "max"=none
 z_min:mg "min"=none
 z_range:mg "range"=none
 z_reversed:mg "reversed"=none
 z_str:mg "str"=none
 z_sum:mg "sum"=none
 z_tuple:mg "tuple"=none
theorem uK:gZ ["row"] ["row"] (gI kj):=⟨rfl,rfl,rfl,by decide+kernel,rfl,by decide+kernel,by decide+kernel⟩
theorem tI:gZ ["row"] ["row"] (gI jU):=⟨rfl,rfl,rfl,by decide+kernel,rfl,by decide+kernel,by decide+kernel⟩
theorem rE:gZ ["parts","found","part"] ["parts"] (gI pJ):=⟨rfl,rfl,rfl,by decide+kernel,rfl,by decide+kernel,by decide+kernel⟩
theorem ou:gZ ["program","place","number","behind"] ["program","place","number"] (gI jV):=⟨rfl,rfl,rfl,by decide+kernel,rfl,by decide+kernel,by decide+kernel⟩
theorem kc:gZ ["program","homes","weights","number","root","place"] ["program","homes"] (gI jx):=⟨rfl,rfl,rfl,by decide+kernel,rfl,by decide+kernel,by decide+kernel⟩
theorem kS:gZ ["rows","root","found","ahead","place"] ["rows","root"] (gI jy):=⟨rfl,rfl,rfl,by decide+kernel,rfl,by decide+kernel,by decide+kernel⟩
theorem ow:gZ ["program","homes","place","weights","home"] ["program","homes","place","weights"] (gI jW):=⟨rfl,rfl,rfl,by decide+kernel,rfl,by decide+kernel,by decide+kernel⟩
theorem kA:gZ ["program","scopes","homes","place","row","scope"] ["program"] (gI km):=⟨rfl,rfl,rfl,by decide+kernel,rfl,by decide+kernel,by decide+kernel⟩
theorem lB:gZ ["words","seen","word"] ["words"] (gI i5):=⟨rfl,rfl,rfl,by decide+kernel,rfl,by decide+kernel,by decide+kernel⟩
theorem rF:gZ ["row"] ["row"] (gI jz):=⟨rfl,rfl,rfl,by decide+kernel,rfl,by decide+kernel,by decide+kernel⟩
theorem wX:gZ ["row","place","scope"] ["row","place","scope"] (gI k9):=⟨rfl,rfl,rfl,by decide+kernel,rfl,by decide+kernel,by decide+kernel⟩
theorem iO:gZ ["program","scopes","earlier","number","name","root","later"] ["program"] (gI jj):=⟨rfl,rfl,rfl,by decide+kernel,rfl,by decide+kernel,by decide+kernel⟩
theorem ke:gZ ["row","scope","scopes","place","arm"] ["row","scope"] (gI i6):=⟨rfl,rfl,rfl,by decide+kernel,rfl,by decide+kernel,by decide+kernel⟩
theorem qI:gZ ["scope","name","home","wider"] ["scope","name","home"] (gI lg):=⟨rfl,rfl,rfl,by decide+kernel,rfl,by decide+kernel,by decide+kernel⟩
theorem pL:gZ ["text","spaced"] ["text"] (gI ko):=⟨rfl,rfl,rfl,by decide+kernel,rfl,by decide+kernel,by decide+kernel⟩
theorem wY:gZ ["word"] ["word"] (gI lz):=⟨rfl,rfl,rfl,by decide+kernel,rfl,by decide+kernel,by decide+kernel⟩
theorem tK:gZ ["word"] ["word"] (gI jX):=⟨rfl,rfl,rfl,by decide+kernel,rfl,by decide+kernel,by decide+kernel⟩
theorem wZ:gZ ["word","signs"] ["word","signs"] (gI lA):=⟨rfl,rfl,rfl,by decide+kernel,rfl,by decide+kernel,by decide+kernel⟩
theorem rG:gZ ["text","reader","names","roots"] ["text"] (gI pK):=⟨rfl,rfl,rfl,by decide+kernel,rfl,by decide+kernel,by decide+kernel⟩
theorem qb:gZ ["what","count","least","most"] ["what","count","least","most"] (gI jk):=⟨rfl,rfl,rfl,by decide+kernel,rfl,by decide+kernel,by decide+kernel⟩
theorem j5:gZ ["_law_cell","_law_size","_law_signs","_law_stem_here","_law_k"] ["_law_cell","_law_size"] (gI jY):=⟨rfl,rfl,rfl,by decide+kernel,rfl,by decide+kernel,by decide+kernel⟩
theorem ig:gZ ["_law_cell","_law_size","_law_manner","_law_stem_here","_law_place","_law_words_here","_law_k","_law_word"] ["_law_cell"] (gI jA):=⟨rfl,rfl,rfl,by decide+kernel,rfl,by decide+kernel,by decide+kernel⟩
theorem lC:gZ ["_law_things","_law_words_here","_law_weight","_law_places","_law_nest"] ["_law_things"] (gI ku):=⟨rfl,rfl,rfl,by decide+kernel,rfl,by decide+kernel,by decide+kernel⟩
theorem lD:gZ ["_law_word","_law_things","_law_times","_law_bound","_law_name","_law_body","_law_shown"] ["_law_word","_law_things","_law_times"] (gI ky):=⟨rfl,rfl,rfl,by decide+kernel,rfl,by decide+kernel,by decide+kernel⟩
theorem kF:gZ ["_law_weight","_law_thing","_law_more"] ["_law_weight"] (gI jm):=⟨rfl,rfl,rfl,by decide+kernel,rfl,by decide+kernel,by decide+kernel⟩
theorem jE:gZ ["_law_words_here","_law_made","_law_things","_law_cell","_law_room","_law_op","_law_arg","_law_told","_law_new"] ["_law_words_here","_law_made","_law_things","_law_cell","_law_room"] (gI jB):=⟨rfl,rfl,rfl,by decide+kernel,rfl,by decide+kernel,by decide+kernel⟩
theorem iq:gZ ["_law_words_here","_law_seed","_law_cells","_law_made","_law_texts","_law_things","_law_done","_law_cell","_law_row_here","_law_goal"] ["_law_words_here","_law_seed","_law_cells"] (gI jZ):=⟨rfl,rfl,rfl,by decide+kernel,rfl,by decide+kernel,by decide+kernel⟩
theorem mz:gZ ["_law_script","_law_text_here","_law_made","_law_program","_law_heavy","_law_caught","_law_found","error","_law_told","_law_one"] ["_law_script"] (gI rD):=⟨rfl,rfl,rfl,by decide+kernel,rfl,by decide+kernel,by decide+kernel⟩
theorem mW:gZ ["self","word"] ["self","word"] (gI ir):=⟨rfl,rfl,rfl,by decide+kernel,rfl,by decide+kernel,by decide+kernel⟩
theorem nj:gZ ["self","names","roots","rows"] ["self","names","roots","rows"] (gI iw):=⟨rfl,rfl,rfl,by decide+kernel,rfl,by decide+kernel,by decide+kernel⟩
theorem nQ:gZ ["self","words"] ["self","words"] (gI iE):=⟨rfl,rfl,rfl,by decide+kernel,rfl,by decide+kernel,by decide+kernel⟩
theorem pM:gZ ["self"] ["self"] (gI i8):=⟨rfl,rfl,rfl,by decide+kernel,rfl,by decide+kernel,by decide+kernel⟩
theorem mZ:gZ ["self","word"] ["self"] (gI jo):=⟨rfl,rfl,rfl,by decide+kernel,rfl,by decide+kernel,by decide+kernel⟩
theorem lE:gZ ["self","wanted","word"] ["self","wanted"] (gI iy):=⟨rfl,rfl,rfl,by decide+kernel,rfl,by decide+kernel,by decide+kernel⟩
theorem lF:gZ ["self","word"] ["self"] (gI iz):=⟨rfl,rfl,rfl,by decide+kernel,rfl,by decide+kernel,by decide+kernel⟩
theorem j2:gZ ["self","depth","place"] ["self","depth"] (gI iA):=⟨rfl,rfl,rfl,by decide+kernel,rfl,by decide+kernel,by decide+kernel⟩
theorem kf:gZ ["self","depth","word","row"] ["self","depth"] (gI iF):=⟨rfl,rfl,rfl,by decide+kernel,rfl,by decide+kernel,by decide+kernel⟩
theorem lG:gZ ["self","head","depth","subject"] ["self","head","depth"] (gI iB):=⟨rfl,rfl,rfl,by decide+kernel,rfl,by decide+kernel,by decide+kernel⟩
theorem jC:gZ ["self","parts","depth","found","part"] ["self","parts","depth"] (gI ij):=⟨rfl,rfl,rfl,by decide+kernel,rfl,by decide+kernel,by decide+kernel⟩
theorem kI:gZ ["self","depth","found"] ["self","depth"] (gI ik):=⟨rfl,rfl,rfl,by decide+kernel,rfl,by decide+kernel,by decide+kernel⟩
theorem lH:gZ ["self","depth","found"] ["self","depth"] (gI iC):=⟨rfl,rfl,rfl,by decide+kernel,rfl,by decide+kernel,by decide+kernel⟩
theorem kJ:gZ ["self","depth","found"] ["self","depth"] (gI ip):=⟨rfl,rfl,rfl,by decide+kernel,rfl,by decide+kernel,by decide+kernel⟩
def vM (K:PySem.W.Frag):Sp:=fun vs H Q _=>∃(a:Addr) (ns:List Int),vs=[.ref a]/\SqL K H a (ns.map V.int)/\ns.length<=63/\∀H',Q (.bl true) H'
end K13.Internal
namespace K13.Internal
open PySem L2.Internal GR.Internal
def pN:Sp:=fun vs H Q _=>∃x:Str,vs=[.str x]/\x.length<=30000/\∀(p:Addr) (H':Hp),gT H H'->H p=none->H' p=some (.lst (pA x.cps.toList))->Q (.ref p) H'
abbrev r1 (x:Str):Str:=Txt.replace x "(" " ( "
abbrev r2 (x:Str):Str:=Txt.replace (r1 x) ")" " ) "
abbrev r3 (x:Str):Str:=Txt.replace (r2 x) "\n" " "
theorem c1 (x:Str):(r1 x).cps.toList=T1.sub 40 [32,40,32] x.cps.toList:=T1.replace_codes x " ( " 40
theorem c2 (x:Str):(r2 x).cps.toList=T1.sub 41 [32,41,32] (T1.sub 40 [32,40,32] x.cps.toList):=by
 rw[<-c1]
 exact T1.replace_codes (r1 x) " ) " 41
theorem c3 (x:Str):(r3 x).cps.toList=T1.spaced x.cps.toList:=by
 rw[<-T1.spaced_sub,<-c2]
 exact T1.replace_codes (r2 x) " " 10
theorem uL (c:Nat) (z:List Nat) (n:Nat) (h1:1<=n) (h:z.length<=n) (l:List Nat):(T1.sub c z l).length<=n*l.length:=T1.flat_len _ n (fun k=>by split;exact h;exact h1) l
theorem l1 (x:Str):(r1 x).length<=3*x.length:=by
 rw[<-T1.len_codes,<-T1.len_codes,c1]
 exact uL _ _ 3 (by decide) (by decide) _
theorem l2 (x:Str):(r2 x).length<=9*x.length:=by
 have h:=l1 x
 have e:(r2 x).length<=3*(r1 x).length:=by
  rw[<-T1.len_codes,<-T1.len_codes,c2,c1]
  exact uL _ _ 3 (by decide) (by decide) _
 lia
theorem l3 (x:Str):(r3 x).length<=9*x.length:=by
 have h:=l2 x
 have e:(r3 x).length<=1*(r2 x).length:=by
  rw[<-T1.len_codes,<-T1.len_codes]
  have e3:(r3 x).cps.toList=T1.sub 10 [32] (r2 x).cps.toList:=T1.replace_codes (r2 x) " " 10
  rw[e3]
  exact uL _ _ 1 (by decide) (by decide) _
 lia
def ne0:V->Bool:=fun v=>!decide (v=V.str "")
theorem uM (x:Str):(((Txt.split (r3 x) " ").map V.str).filter ne0).map id=pA x.cps.toList:=by
 have e:=T1.split_codes (r3 x) 32
 rw[c3]at e
 have e2:T1.all (T1.W x.cps.toList)=((Txt.split (r3 x) ⟨#[32]⟩).map (·.cps.toList)).filter fun p=>decide (p≠[]):=by
  rw[e,T1.words_cut]
  rfl
 unfold pA
 rw[e2,List.map_id,List.filter_map,List.filter_map,bA]
 show((Txt.split (r3 x) ⟨#[32]⟩).filter (ne0∘V.str)).map V.str=_
 have ef:(ne0∘V.str)=((fun p=>decide (p≠[]))∘fun(y:Str)=>y.cps.toList):=by
  funext y
  show(!decide (V.str y=V.str ""))=decide (y.cps.toList≠[])
  by_cases h:y=("":Str)
  ·subst h
   rfl
  ·have h1:¬V.str y=V.str "":=fun z=>h (by injection z)
   have h2:y.cps.toList≠[]:=fun z=>h (T1.str_ext z)
   rw[decide_eq_false h1,decide_eq_true h2]
   rfl
 rw[ef]
 refine bU fun y _=>?_
 show V.str y=V.str ⟨y.cps.toList.toArray⟩
 rw[Array.toArray_toList]
theorem uN (T:Txt K mg):iK P w K mg base CX0 1 T.a_words_of T.fd_words_of ["text"] pN:=by
 obtain⟨oc,od,kV,doc,pm,an,cdv,ct,osl,efd,lk,hcd⟩:=T.F_words_of.ex
 rw[efd]at lk⊢
 refine D5 lk hcd pL (by decide+kernel) (fun n=>rfl) (fun vs H Q E h=>?_) (fun A outer s H vs Q E hr h=>?_)
 ·obtain⟨x,rfl,_⟩:=h
  rfl
 obtain⟨x,rfl,hx,q⟩:=h
 refine⟨_,Dp.nox (zT (i:=1) pL.nd rfl (.inl rfl) (qW (qW (qW (PE.one (pv 0)) (by decide+kernel)) (by decide+kernel)) (by decide+kernel))
  (gK (hV (oa rfl (ym (x:="word") rfl (by decide+kernel) (by decide+kernel) rfl rfl) (jR (lK fC PySem.F.slot_str_split PySem.F.type_str_split zS (pv 1) (gB gP gG))) (fun _ _ _ _ _=>(uu (ju m5 (pv 0) gP (ic _)))) (fun _ _ _ _ _=>(pv 0)))))),?_⟩
 have h1:=l1 x
 have h2:=l2 x
 have h3:=l3 x
 have z3:(" ( ":Str).length=3:=by decide+kernel
 have z3':(" ) ":Str).length=3:=by decide+kernel
 have z1:(" ":Str).length=1:=by decide+kernel
 refine⟨_,rfl,x,rfl,(by rw[z3];lia),r1 x,rfl,(by rw[z3'];lia),r2 x,rfl,(by rw[z1];lia),?_⟩
 refine⟨_,rfl,rfl,r3 x," ",rfl,rfl,rfl,(by have e:sizeLine=16777216:=sizeLine_eq;lia),fun p hp=>⟨p,rfl,⟨_,SqL.of gE⟩,fun D hD=>?_⟩⟩
 have sp:gT H (upd H p (.lst ((Txt.split (r3 x) " ").map V.str))):=gJ hp _
 have hl:=pf (r3 x) " "
 refine yn (xs:=(Txt.split (r3 x) " ").map V.str) ne0 id hD ?_ ?_ ?_ ?_ ?_ ?_ ?_ ?_
 ·rw[aD]
  have e:sizeLine=16777216:=sizeLine_eq
  lia
 ·rfl
 ·intro k H' hs hk
  exact⟨_,_,SqL.of (hs _ _ gE),bx hk⟩
 ·intro k H' v H'' hs hv
  obtain⟨e,z⟩:=hv
  exact⟨e,z _ (SqL.of (hs _ _ gE))⟩
 ·intro H' hs
  exact⟨_,SqL.of (hs _ _ gE),c7 _⟩
 ·intro k v H' R hv _ r
  obtain⟨y,rfl⟩:∃y,v=V.str y:=by
   rw[aM]at hv
   obtain⟨y,_,e⟩:=dF.mp hv
   exact⟨y,e.symm⟩
  exact⟨_,rfl,rfl,_,rfl,r⟩
 ·intro k v H' R hv _ _ r
  exact⟨_,rfl,r⟩
 ·intro H' hs hl'
  refine q D H' (sp.trans hs) (sp.free hD) ?_
  rw[hl',uM]
def oj:Sp:=fun vs H Q _=>∃x y:Str,vs=[.str x,.str y]/\x.length<=30000/\∀H',gT H H'->Q (.bl (allIn x y)) H'
theorem w6 (T:Txt K mg):iK P w K mg base CX0 1 T.a_made_of T.fd_made_of ["word","signs"] oj:=by
 refine T.F_made_of.ok wZ (fun vs H Q E h=>?_) (fun cdv A outer s H vs Q E hr h=>?_)
 ·obtain⟨x,y,rfl,_⟩:=h
  rfl
 obtain⟨x,y,rfl,hx,q⟩:=h
 refine⟨_,(gK (hV (gS (zR rfl) rfl T.z_all D0 (gB (oa rfl (blk1 (x:="sign") (y:="signs") (j:=1) (c0:=s.heap.objs.size+ 1) rfl (by decide+kernel) (by decide+kernel) rfl rfl rfl rfl rfl rfl rfl) (D1 (pv 0)) (fun _ _ _ _ _=>kM) (fun _ _ _ _ _=>(lX sr (pv 0) (pv 1) rfl))) gG)))),?_⟩
 refine⟨_,rfl,x,rfl,fun D hD=>?_⟩
 have sl:sizeLine=16777216:=sizeLine_eq
 have ll:=T1.len_codes x
 have sz':x.cps.size=x.cps.toList.length:=(fY).symm
 refine yn (xs:=x.cps.toList.map fun c=>V.str ⟨#[c]⟩) (fun _=>true) (fun v=>match v with| .str z=> .bl (!(Builtin.Str.occurrences y z 0 y.length 1).isEmpty)|_=> .non) hD ?_ ?_ ?_ ?_ ?_ ?_ ?_ ?_
 ·rw[aD]
  lia
 ·rfl
 ·intro k H' hs hk
  rw[aD]at hk
  show k<x.cps.size
  lia
 ·intro k H' v H'' hs hv
  obtain⟨e,c,hc,rfl⟩:=hv
  refine⟨e,?_⟩
  rw[aM,fZ,hc]
  rfl
 ·intro H' hs
  show _=x.cps.size
  rw[aD]
  lia
 ·intro k v H' R hv _ r
  exact r
 ·intro k v H' R hv _ _ r
  rw[aM]at hv
  obtain⟨c,_,rfl⟩:=dF.mp hv
  exact⟨_,rfl,_,rfl,_,_,rfl,rfl,r⟩
 ·intro H' hs hl
  refine⟨D,x.cps.toList.map fun c=>decide (c∈y.cps.toList),rfl,SqL.of ?_,?_⟩
  ·rw[hl,bV.mpr (fun _ _=>rfl),bA,bA]
   refine congrArg (fun l=>some (HO.lst l)) (bU fun c _=>?_)
   show V.bl _=V.bl _
   rw[StrLaws.found_one]
  ·have e:(x.cps.toList.map fun c=>decide (c∈y.cps.toList)).all id=allIn x y:=by
    rw[bu]
    rfl
   rw[e]
   exact q H' hs
def mO:Sp:=fun vs H Q _=>∃x:Str,vs=[.str x]/\x.length<=30000/\∀H',gT H H'->Q (.bl (isName x)) H'
theorem w8 (T:Txt K mg) (G_made_of:iK P w K mg base CX0 1 T.a_made_of T.fd_made_of ["word","signs"] oj):iK P w K mg base CX0 2 T.a_is_name T.fd_is_name ["word"] mO:=by
 refine T.F_is_name.ok wY (fun vs H Q E h=>?_) (fun cdv A outer s H vs Q E hr h=>?_)
 ·obtain⟨x,rfl,_⟩:=h
  rfl
 obtain⟨x,rfl,hx,q⟩:=h
 refine⟨_,(gC (iU (PW.pt (wc (nB (qR wo wo gH (gS oq rfl T.z_len jG (gB (pv 0) gG)) (n9 rfl T.m_MOST_SIGNS))) (sh (ju sL (pv 0) (oZ rfl T.m_KEPT_WORDS) rfl))))
   (gK (hV uf))
   ib)
  (gK (hV (xx (lX sr (hU ye (pv 0) gH (fun _ _=>rfl)) (zP rfl T.m_LETTERS) rfl) (vg (ia G_made_of (hr.mono (by decide)) rfl T.m_made_of T.k_made_of T.b_made_of .nil iX (gB (pv 0) (gB (gY qp (zP rfl T.m_LETTERS) (zP rfl T.m_FIGURES)) gG)))))))),?_⟩
 have sl:sizeLine=16777216:=sizeLine_eq
 refine⟨_,rfl,x,rfl,by lia,_,_,rfl,rfl,_,rfl,?_⟩
 refine Fw (fun c1=>?_) (fun c1=>?_)
 ·have h1:1<=x.length:=by
   have z:=of_decide_eq_true c1
   lia
  refine⟨_,_,rfl,rfl,_,rfl,?_⟩
  by_cases c2:x.length<=12
  ·rw[show decide ((x.length:Int)<=12)=true from decide_eq_true (by lia)]
   refine jO ⟨_,rfl,T.a_KEPT_WORDS,KWV,rfl,.inr (T.q_KEPT_WORDS H),rfl,rfl,_,rfl,?_⟩
   show if inV (.str x) KWV=true then _ else _
   cases ek:inV (.str x) KWV with
   |true=>
    refine kE ?_
    have e:isName x=false:=by unfold isName;rw[ek];simp
    rw[<-e]
    exact q H (gT.refl H)
   |false=>
    refine jO ?_
    obtain⟨c,r,ec⟩:=first_of h1
    refine⟨_,rfl,x,_,c,rfl,rfl,by lia,by rw[ec];exact at0,_,_,rfl,rfl,_,rfl,?_⟩
    have ef:(!(Builtin.Str.occurrences ("abcdefghijklmnopqrstuvwxyz":Str) ⟨#[c]⟩ 0 ("abcdefghijklmnopqrstuvwxyz":Str).length 1).isEmpty)=firstIn x SM:=by
     rw[StrLaws.found_one]
     unfold firstIn
     rw[ec]
     rfl
    rw[ef]
    cases e1:firstIn x SM with
    |false=>
     refine jO ?_
     have e:isName x=false:=by unfold isName;rw[e1];simp
     rw[<-e]
     exact q H (gT.refl H)
    |true=>
     refine kE ⟨_,rfl,_,_,rfl,rfl,?_,_,_,rfl,?_,fun H' hs=>?_⟩
     ·exact cX (show(26:Nat)+ 10<=100 by decide) (sz (c7 _)|>cX (by decide))
     ·lia
     ·have e:isName x=allIn x (SM++FG):=by
       unfold isName
       rw[e1,ek,decide_eq_true h1,decide_eq_true c2]
       rfl
      have q':=q H' hs
      rw[e]at q'
      exact q'
  ·rw[show decide ((x.length:Int)<=12)=false from decide_eq_false (by lia)]
   refine kE ?_
   have e:isName x=false:=by unfold isName;rw[decide_eq_false c2];simp
   show if true=true then _ else _
   refine kE ?_
   rw[<-e]
   exact q H (gT.refl H)
 ·have h1:¬1<=x.length:=by
   intro z
   exact c1 (decide_eq_true (by lia))
  refine⟨_,rfl,kE ?_⟩
  show if true=true then _ else _
  refine kE ?_
  have e:isName x=false:=by unfold isName;rw[decide_eq_false h1];simp
  rw[<-e]
  exact q H (gT.refl H)
def mB:Sp:=fun vs H Q _=>∃x:Str,vs=[.str x]/\x.length<=30000/\∀H',gT H H'->Q (.bl (jD x)) H'
theorem tL (T:Txt K mg) (G_made_of:iK P w K mg base CX0 1 T.a_made_of T.fd_made_of ["word","signs"] oj):iK P w K mg base CX0 2 T.a_is_number T.fd_is_number ["word"] mB:=by
 refine T.F_is_number.ok tK (fun vs H Q E h=>?_) (fun cdv A outer s H vs Q E hr h=>?_)
 ·obtain⟨x,rfl,_⟩:=h
  rfl
 obtain⟨x,rfl,hx,q⟩:=h
 refine⟨_,(gC (iU (PW.pt (wc (nB (qR wo wo gH (gS oq rfl T.z_len jG (gB (pv 0) gG)) (n9 rfl T.m_MOST_FIGURES))) (sh (nB (lT (ia G_made_of (hr.mono (by decide)) rfl T.m_made_of T.k_made_of T.b_made_of .nil iX (gB (pv 0) (gB (zP rfl T.m_FIGURES) gG))))))))
   (gK (hV uf))
   ib)
  (gK (hV (DD (lX m5 (hU ye (pv 0) gH (fun _ _=>rfl)) gP (ic _)) (vg (lX qQ (pv 0) gP (ic _))))))),?_⟩
 have sl:sizeLine=16777216:=sizeLine_eq
 refine⟨_,rfl,x,rfl,by lia,_,_,rfl,rfl,_,rfl,?_⟩
 refine Fw (fun c1=>?_) (fun c1=>?_)
 ·have h1:1<=x.length:=by
   have z:=of_decide_eq_true c1
   lia
  refine⟨_,_,rfl,rfl,_,rfl,?_⟩
  by_cases c2:x.length<=60
  ·rw[show decide ((x.length:Int)<=60)=true from decide_eq_true (by lia)]
   refine jO ⟨_,rfl,x,_,rfl,hx,fun H' hs=>⟨_,rfl,?_⟩⟩
   show if(!allIn x FG)=true then _ else _
   cases e1:allIn x FG with
   |false=>
    refine kE ?_
    have e:jD x=false:=by unfold jD;rw[e1];simp
    rw[<-e]
    exact q H' hs
   |true=>
    refine jO ?_
    obtain⟨c,r,ec⟩:=first_of h1
    refine⟨_,rfl,x,_,c,rfl,rfl,by lia,by rw[ec];exact at0,rfl,_,rfl,?_⟩
    have ef:pB x=(c==48):=by unfold pB;rw[ec]
    rw[Cv,<-ef]
    cases e2:pB x with
    |false=>
     refine kE ?_
     have e:jD x=true:=by
      unfold jD
      rw[e1,e2,decide_eq_true h1,decide_eq_true c2]
      rfl
     rw[<-e]
     exact q H' hs
    |true=>
     refine jO ⟨_,rfl,rfl,?_⟩
     have e:jD x=decide (V.str x=V.str "0"):=by
      unfold jD
      rw[e1,e2,decide_eq_true h1,decide_eq_true c2]
      by_cases h0:x="0"
      ·subst h0
       rfl
      ·have h1:¬V.str x=V.str "0":=fun z=>h0 (by injection z)
       rw[decide_eq_false h0,decide_eq_false h1]
       rfl
     rw[<-e]
     exact q H' hs
  ·rw[show decide ((x.length:Int)<=60)=false from decide_eq_false (by lia)]
   refine kE ?_
   have e:jD x=false:=by unfold jD;rw[decide_eq_false c2];simp
   show if true=true then _ else _
   refine kE ?_
   rw[<-e]
   exact q H (gT.refl H)
 ·have h1:¬1<=x.length:=by
   intro z
   exact c1 (decide_eq_true (by lia))
  refine⟨_,rfl,kE ?_⟩
  show if true=true then _ else _
  refine kE ?_
  have e:jD x=false:=by unfold jD;rw[decide_eq_false h1];simp
  rw[<-e]
  exact q H (gT.refl H)
def lR (C:Addr):Sp:=fun vs H Q _=>∃(p dx wl:Addr) (ws:List Str),vs=[.ref p,.ref wl]/\H p=some (.ins C dx [])/\H wl=some (.lst (ws.map V.str))/\∀(rl:Addr) (H':Hp),H rl=none->nO C H' p dx wl rl ws 0 []->(∀b o,H b=some o->b≠p->H' b=some o)->Q .non H'
theorem nR (T:Txt K mg):iK P w K mg base CX0 1 T.a_Reader___init__ T.fd_Reader___init__ ["self","words"] (lR T.a_Reader):=by
 refine T.F_Reader___init__.ok nQ (fun vs H Q E h=>?_) (fun cdv A outer s H vs Q E hr h=>?_)
 ·obtain⟨p,dx,wl,ws,rfl,_⟩:=h
  rfl
 obtain⟨p,dx,wl,ws,rfl,hp,hw,k⟩:=h
 refine⟨_,(gC (qu (pv 0) (pv 1) rfl)
  (gC (qu (pv 0) gH rfl)
  (gK (qu (pv 0) (iL gG) rfl)))),?_⟩
 have pw:wl≠p:=kU hw hp (fun z=>nomatch z)
 refine⟨_,rfl,_,rfl,p,T.a_Reader,dx,[],rfl,hp,T.cl_Reader,T.n_Reader_words,(by show 0<1000;decide),?_⟩
 refine⟨_,rfl,p,T.a_Reader,dx,_,rfl,gE,T.cl_Reader,T.n_Reader_taken,(by show 1<1000;decide),?_⟩
 refine⟨(by show 0<=sizeLine;decide),fun rl hrl=>?_⟩
 have nrl:p≠rl:=gL gE hrl
 rw[gM (Ne.symm nrl),gM (Ne.symm nrl)]at hrl
 refine⟨_,rfl,p,T.a_Reader,dx,_,rfl,by rw[gM nrl];exact gE,T.cl_Reader,T.n_Reader_rows,(by show 2<1000;decide),?_⟩
 have wrl:wl≠rl:=gL hw hrl
 refine k rl _ hrl ⟨?_,?_,?_,wrl⟩ fun b o e hb=>?_
 ·rw[gE]
  exact congrArg (fun l=>some (HO.ins T.a_Reader dx l)) (Gk wl 0 rl)
 ·rw[gM pw,gM wrl,gM pw,gM pw]
  exact hw
 ·rw[gM (Ne.symm nrl)]
  exact gE
 ·rw[gM hb,gM (gL e hrl),gM hb,gM hb]
  exact e
def iJ (C:Addr):Sp:=fun vs H Q _=>∃(p dx wl rl:Addr) (ws:List Str) (k:Nat) (rows:List V),vs=[.ref p]/\nO C H p dx wl rl ws k rows/\WOk ws/\k<=ws.length/\Q (.str (ws.getD k "")) H
theorem pO (T:Txt K mg):iK P w K mg base CX0 1 T.a_Reader_ahead T.fd_Reader_ahead ["self"] (iJ T.a_Reader):=by
 refine T.F_Reader_ahead.ok pM (fun vs H Q E h=>?_) (fun cdv A outer s H vs Q E hr h=>?_)
 ·obtain⟨p,dx,wl,rl,ws,k,rows,rfl,_⟩:=h
  rfl
 obtain⟨p,dx,wl,rl,ws,k,rows,rfl,R,W,hk,q⟩:=h
 refine⟨_,(gC (iU (ju qQ (nG (pv 0) rfl) (gS hJ rfl T.z_len jG (gB (nG (pv 0) rfl) gG)) (ic _))
   (gK (hV gP))
   ib)
  (gK (hV (hU yd (nG (pv 0) rfl) (nG (pv 0) rfl) (fun _ _=>rfl))))),?_⟩
 refine⟨_,rfl,p,_,dx,_,_,rfl,R.ob,T.cl_Reader,T.n_Reader_taken,rj _ _ _,_,rfl,p,_,dx,_,_,rfl,R.ob,T.cl_Reader,T.n_Reader_words,vJ _ _ _,wl,_,rfl,.inl (SqL.of R.wd),rfl,_,rfl,Fw (fun c=>?_) (fun c=>?_)⟩
 ·have z:=of_decide_eq_true c
  injection z with z
  rw[aD]at z
  have e:ws.getD k ""="":=by
   rw[bo,bF (by lia)]
   rfl
  rw[e]at q
  exact q
 ·have hlt:k<ws.length:=by
   by_cases z:k<ws.length
   ·exact z
   ·refine absurd (decide_eq_true ?_) c
    rw[aD]
    exact congrArg V.int (by lia)
  have e:ws.getD k ""=ws[k]:=by
   rw[bo,bx hlt]
   rfl
  rw[e]at q
  refine⟨_,rfl,p,_,dx,_,_,rfl,R.ob,T.cl_Reader,T.n_Reader_words,vJ _ _ _,_,rfl,p,_,dx,_,_,rfl,R.ob,T.cl_Reader,T.n_Reader_taken,rj _ _ _,wl,_,_,_,rfl,rfl,SqL.of R.wd,gN (j:=k) (v:= .str ws[k]) ?_,q⟩
  rw[aM,bx hlt]
  rfl
def jr (C CB:Addr):Sp:=fun vs H Q E=>∃(p dx wl rl:Addr) (ws:List Str) (k:Nat) (rows:List V),vs=[.ref p]/\nO C H p dx wl rl ws k rows/\WOk ws/\k<=ws.length/\
 (∀x,ws[k]?=some x->Q (.str x) (upd H p (.ins C dx (fR wl ((k+ 1:Nat):Int) rl))))/\(ws[k]?=none->E (.ref CB) none H)
theorem qd (T:Txt K mg) (G_Reader_ahead:iK P w K mg base CX0 1 T.a_Reader_ahead T.fd_Reader_ahead ["self"] (iJ T.a_Reader)):iK P w K mg base (CXE P w) 2 T.a_Reader_take T.fd_Reader_take ["self"] (jr T.a_Reader T.a_BadText):=by
 refine T.F_Reader_take.okE mZ (fun vs H Q E h=>?_) (fun cdv A outer s H vs Q E hr h=>?_)
 ·obtain⟨p,dx,wl,rl,ws,k,rows,rfl,_⟩:=h
  rfl
 obtain⟨p,dx,wl,rl,ws,k,rows,rfl,R,W,hk,q,qe⟩:=h
 refine⟨_,(gC (gR (i:=1) mZ.nd rfl (.inl rfl) (j7 (pv 0) T.cl_Reader T.me_Reader_ahead G_Reader_ahead (hr.mono (by decide)) T.b_Reader_ahead .nil iX))
  (gC (iU (ju qQ (pv 1) gP (ic _))
   (gK (kR rfl l5 T.x_BadText rfl T.m_BadText (gB gP gG)))
   ib)
  (gC (xO (pv 0) gH DN)
  (gK (hV (pv 1)))))),?_⟩
 refine⟨_,rfl,p,dx,_,rfl,R.ob,Ag _ _ _ (by decide+kernel) (by decide+kernel) (by decide+kernel),p,dx,wl,rl,ws,k,rows,rfl,R,W,hk,?_⟩
 refine⟨_,rfl,rfl,_,rfl,Fw (fun c=>?_) (fun c=>?_)⟩
 ·refine⟨(by show 1<=sizeLine;decide),qe ?_⟩
  cases e:ws[k]? with
  |none=>rfl
  |some x=>
   have z:=of_decide_eq_true c
   injection z with z
   rw[bo,e]at z
   exact absurd z (W.one x (aN e)).1
 ·cases e:ws[k]? with
  |none=>
   refine absurd (decide_eq_true (congrArg V.str ?_)) c
   rw[bo,e]
   rfl
  |some x=>
   have ex:ws.getD k ""=x:=by rw[bo,e];rfl
   rw[ex]
   refine⟨_,rfl,p,_,dx,_,_,rfl,R.ob,T.cl_Reader,T.n_Reader_taken,rj _ _ _,_,_,rfl,rfl,dx,_,R.ob,(by show 3<1000;decide),_,rfl,?_⟩
   have q':=q x e
   rw[<-Eo wl (k:Int) _ rl]at q'
   exact q'
def iR (C CB:Addr):Sp:=fun vs H Q E=>∃(p dx wl rl:Addr) (ws:List Str) (k:Nat) (rows:List V) (y:Str),vs=[.ref p,.str y]/\nO C H p dx wl rl ws k rows/\WOk ws/\k<=ws.length/\(reprText y).length<=300002/\
 (ws[k]?=some y->Q .non (upd H p (.ins C dx (fR wl ((k+ 1:Nat):Int) rl))))/\(ws[k]?=none->E (.ref CB) none H)/\(∀x,ws[k]?=some x->x≠y->E (.ref CB) none (upd H p (.ins C dx (fR wl ((k+ 1:Nat):Int) rl))))
theorem nq (T:Txt K mg) (G_Reader_take:iK P w K mg base (CXE P w) 2 T.a_Reader_take T.fd_Reader_take ["self"] (jr T.a_Reader T.a_BadText)):iK P w K mg base (CXE P w) 3 T.a_Reader_pass_over T.fd_Reader_pass_over ["self","wanted"] (iR T.a_Reader T.a_BadText):=by
 refine T.F_Reader_pass_over.okE lE (fun vs H Q E h=>?_) (fun cdv A outer s H vs Q E hr h=>?_)
 ·obtain⟨p,dx,wl,rl,ws,k,rows,y,rfl,_⟩:=h
  rfl
 obtain⟨p,dx,wl,rl,ws,k,rows,y,rfl,R,W,hk,hy,q,qe,qx⟩:=h
 refine⟨_,(gC (gR (i:=2) lE.nd rfl (.inl rfl) (j7 (pv 0) T.cl_Reader T.me_Reader_take G_Reader_take (hr.mono (by decide)) T.b_Reader_take .nil kH))
  (gK (iU (ju m5 (pv 2) (pv 1) (ic _))
   (gK (kR rfl l5 T.x_BadText rfl T.m_BadText (gB (mn (iM (sS (pv 2)) (iM gP (iM (sS (pv 1)) (iM gP ot))))) gG)))
   ib))),?_⟩
 have sl:sizeLine=16777216:=sizeLine_eq
 refine⟨_,rfl,p,dx,_,rfl,R.ob,Ag _ _ _ (by decide+kernel) (by decide+kernel) (by decide+kernel),p,dx,wl,rl,ws,k,rows,rfl,R,W,hk,fun x hx=>?_,qe⟩
 refine⟨_,rfl,_,rfl,rfl,_,rfl,?_⟩
 by_cases e:x=y
 ·subst e
  exact F2 rfl (q hx)
 ·have ne:¬V.str x=V.str y:=fun z=>e (by injection z)
  rw[decide_eq_false ne]
  have hr:=nP W (aN hx)
  refine kE ⟨_,rfl,x,rfl,by lia,_,rfl,?_,_,rfl,?_,_,rfl,y,rfl,by lia,_,rfl,?_,_,rfl,?_,?_,(by show 1<=sizeLine;decide),qx x hx e⟩
  ·exact Fx hr
  ·exact Cy hr (by decide+kernel)
  ·exact cat3 hr (by decide+kernel) hy
  ·exact G3 hr (by decide+kernel) hy (by decide+kernel)
  ·exact G3 hr (by decide+kernel) hy (by decide+kernel)
def iS (C CB:Addr):Sp:=fun vs H Q E=>∃(p dx wl rl:Addr) (ws:List Str) (k:Nat) (rows:List V),vs=[.ref p]/\nO C H p dx wl rl ws k rows/\WOk ws/\k<=ws.length/\
 (∀x H',ws[k]?=some x->isName x=true->gT (upd H p (.ins C dx (fR wl ((k+ 1:Nat):Int) rl))) H'->Q (.str x) H')/\(ws[k]?=none->E (.ref CB) none H)/\
 (∀x H',ws[k]?=some x->isName x=false->gT (upd H p (.ins C dx (fR wl ((k+ 1:Nat):Int) rl))) H'->E (.ref CB) none H')
theorem nu (T:Txt K mg) (G_Reader_take:iK P w K mg base (CXE P w) 2 T.a_Reader_take T.fd_Reader_take ["self"] (jr T.a_Reader T.a_BadText)) (G_is_name:iK P w K mg base CX0 2 T.a_is_name T.fd_is_name ["word"] mO):
  iK P w K mg base (CXE P w) 3 T.a_Reader_take_name T.fd_Reader_take_name ["self"] (iS T.a_Reader T.a_BadText):=by
 refine T.F_Reader_take_name.okE lF (fun vs H Q E h=>?_) (fun cdv A outer s H vs Q E hr h=>?_)
 ·obtain⟨p,dx,wl,rl,ws,k,rows,rfl,_⟩:=h
  rfl
 obtain⟨p,dx,wl,rl,ws,k,rows,rfl,R,W,hk,q,qe,qx⟩:=h
 refine⟨_,(gC (gR (i:=1) lF.nd rfl (.inl rfl) (j7 (pv 0) T.cl_Reader T.me_Reader_take G_Reader_take (hr.mono (by decide)) T.b_Reader_take .nil kH))
  (gC (iU (nB (lT (ia G_is_name (hr.mono (by decide)) rfl T.m_is_name T.k_is_name T.b_is_name .nil iX (gB (pv 1) gG))))
   (gK (kR rfl l5 T.x_BadText rfl T.m_BadText (gB (mn (iM (sS (pv 1)) (iM gP ot))) gG)))
   ib)
  (gK (hV (pv 1))))),?_⟩
 have sl:sizeLine=16777216:=sizeLine_eq
 refine⟨_,rfl,p,dx,_,rfl,R.ob,Ag _ _ _ (by decide+kernel) (by decide+kernel) (by decide+kernel),p,dx,wl,rl,ws,k,rows,rfl,R,W,hk,fun x hx=>?_,qe⟩
 have hm:=aN hx
 refine⟨_,rfl,x,rfl,(W.one x hm).2.1,fun H' hs=>⟨_,rfl,?_⟩⟩
 cases e:isName x with
 |true=>exact jO ⟨_,rfl,q x H' hx e hs⟩
 |false=>
  have hr:=nP W hm
  refine kE ⟨_,rfl,x,rfl,by lia,_,rfl,?_,_,rfl,?_,?_,(by show 1<=sizeLine;decide),qx x H' hx e hs⟩
  ·exact Fx hr
  ·exact Cy hr (by decide+kernel)
  ·exact Cy hr (by decide+kernel)
section
variable {C CB p dx wl rl:Addr} {H:Hp} {ws rest:List Str} {rows:List Dt} {Q:VK} {E:XK}
theorem Ao (R:RS K C H p dx wl rl ws rest rows) (W:WOk ws) (q:Q (.str (rest.headD "")) H):iJ C [.ref p] H Q E:=by
 obtain⟨k,rv,R,h1,h2,h3⟩:=R
 refine⟨p,dx,wl,rl,ws,k,rv,rfl,R,W,h2,?_⟩
 have e:ws.getD k ""=rest.headD "":=by
  rw[<-h1,bo,bW,bX]
 rw[e]
 exact q
theorem RS.step1 {k:Nat} {rv:List V} {x:Str} {r:List Str} {H':Hp} (R:nO C H p dx wl rl ws k rv) (h1:ws.drop k=x::r) (h3:lM K H rv rows) (s:gT (upd H p (.ins C dx (fR wl ((k+ 1:Nat):Int) rl))) H'):RS K C H' p dx wl rl ws r rows/\K2 p rl H H':=by
 obtain⟨e1,e2,e3⟩:=kZ h1
 have kk:K2 p rl H H':=(K2.upd1 (K2.refl p rl H) _).trans (gT.k2 s)
 exact⟨⟨k+ 1,rv,(R.next (k+ 1)).same s,e2,by lia,h3.mono fun a xs t=>nO.tpT R kk t⟩,kk⟩
theorem Ez (R:RS K C H p dx wl rl ws rest rows) (W:WOk ws) (q:∀x r H',rest=x::r->RS K C H' p dx wl rl ws r rows->K2 p rl H H'->Q (.str x) H') (qe:rest=[]->E (.ref CB) none H):jr C CB [.ref p] H Q E:=by
 obtain⟨k,rv,R,h1,h2,h3⟩:=R
 refine⟨p,dx,wl,rl,ws,k,rv,rfl,R,W,h2,fun x hx=>?_,fun hx=>?_⟩
 ·cases e:rest with
  |nil=>
   rw[e]at h1
   rw[rB h1]at hx
   cases hx
  |cons y r=>
   rw[e]at h1
   have ey:y=x:=dB.inj ((kZ h1).1.symm.trans hx)
   subst ey
   obtain⟨a,b⟩:=RS.step1 R h1 h3 (gT.refl _)
   exact q y r _ e a b
 ·cases e:rest with
  |nil=>exact qe e
  |cons y r=>
   rw[e]at h1
   rw[(kZ h1).1]at hx
   cases hx
theorem Aq {y:Str} (R:RS K C H p dx wl rl ws rest rows) (W:WOk ws) (hy:(reprText y).length<=300002) (q:∀r H',rest=y::r->RS K C H' p dx wl rl ws r rows->K2 p rl H H'->Q .non H') (qe:rest.head?≠some y->∀H',K2 p rl H H'->E (.ref CB) none H'):iR C CB [.ref p,.str y] H Q E:=by
 obtain⟨k,rv,R,h1,h2,h3⟩:=R
 refine⟨p,dx,wl,rl,ws,k,rv,y,rfl,R,W,h2,hy,fun hx=>?_,fun hx=>?_,fun x hx ne=>?_⟩
 ·cases e:rest with
  |nil=>
   rw[e]at h1
   rw[rB h1]at hx
   cases hx
  |cons z r=>
   rw[e]at h1
   have ey:z=y:=dB.inj ((kZ h1).1.symm.trans hx)
   subst ey
   obtain⟨a,b⟩:=RS.step1 R h1 h3 (gT.refl _)
   exact q r _ e a b
 ·refine qe (fun z=>?_) H (K2.refl _ _ _)
  rw[<-h1,bX,hx]at z
  cases z
 ·refine qe (fun z=>?_) _ (K2.upd1 (K2.refl _ _ _) _)
  rw[<-h1,bX,hx]at z
  exact ne (dB.inj z)
theorem EA (R:RS K C H p dx wl rl ws rest rows) (W:WOk ws) (q:∀x r H',rest=x::r->isName x=true->RS K C H' p dx wl rl ws r rows->K2 p rl H H'->Q (.str x) H') (qe:(∀x r,rest=x::r->isName x=false)->∀H',K2 p rl H H'->E (.ref CB) none H'):iS C CB [.ref p] H Q E:=by
 obtain⟨k,rv,R,h1,h2,h3⟩:=R
 refine⟨p,dx,wl,rl,ws,k,rv,rfl,R,W,h2,fun x H' hx hn s=>?_,fun hx=>?_,fun x H' hx hn s=>?_⟩
 ·cases e:rest with
  |nil=>
   rw[e]at h1
   rw[rB h1]at hx
   cases hx
  |cons z r=>
   rw[e]at h1
   have ey:z=x:=dB.inj ((kZ h1).1.symm.trans hx)
   subst ey
   obtain⟨a,b⟩:=RS.step1 R h1 h3 s
   exact q z r _ e hn a b
 ·refine qe (fun x r e=>?_) H (K2.refl _ _ _)
  rw[e]at h1
  rw[(kZ h1).1]at hx
  cases hx
 ·refine qe (fun y r e=>?_) H' ((K2.upd1 (K2.refl _ _ _) _).trans (gT.k2 s))
  rw[e]at h1
  have ey:y=x:=dB.inj ((kZ h1).1.symm.trans hx)
  rw[ey]
  exact hn
end
def js (CB:Addr):Sp:=fun vs H Q E=>∃(x:Str) (n a b:Nat),vs=[.str x,.int n,.int a,.int b]/\x.length<=100/\n<=100000/\a<=100/\b<=100/\(a<=n/\n<=b->Q .non H)/\(¬(a<=n/\n<=b)->E (.ref CB) none H)
theorem nS {n:Nat} (h:n<=100000):(n:Int).natAbs.log2<1920/\(PySem.Str.ofString (toString (n:Int))).length<=6:=by
 have s70:(100000:Int)<10^70:=by decide+kernel
 refine⟨Ep (by lia) (by lia),?_⟩
 have z:=(str_fig (n:=(n:Int)) (k:=5) (by lia) (by
  have e:(10:Int)^(5+ 1)=1000000:=by decide+kernel
  rw[e]
  lia)).2.2
 exact z
theorem qf (T:Txt K mg):iK P w K mg base (CXE P w) 1 T.a_check_count T.fd_check_count ["what","count","least","most"] (js T.a_BadText):=by
 refine T.F_check_count.okE qb (fun vs H Q E h=>?_) (fun cdv A outer s H vs Q E hr h=>?_)
 ·obtain⟨x,n,a,b,rfl,_⟩:=h
  rfl
 obtain⟨x,n,a,b,rfl,hx,hn,ha,hb,q,qe⟩:=h
 refine⟨_,(gK (iU (nB (qR wo wo (pv 2) (pv 1) (pv 3)))
   (gK (kR rfl l5 T.x_BadText rfl T.m_BadText (gB (mn (iM (uw (pv 1)) (iM gP (iM (uw (pv 0)) (iM gP (iM (uw (pv 2)) (iM gP (iM (uw (pv 3)) (iM gP ot))))))))) gG)))
   ib)),?_⟩
 have sl:sizeLine=16777216:=sizeLine_eq
 have nn:=nS hn
 have na:=nS (show a<=100000 by lia)
 have nb:=nS (show b<=100000 by lia)
 have fail:¬(a<=n/\n<=b)->A5 T.a_BadText E (ui ((tJ (tFV (Dm 1)) (tJ (tC (V.str " ")) (tJ (tFV (Dm 0)) (tJ (tC (V.str ": ")) (tJ (tFV (Dm 2)) (tJ (tC (V.str " to ")) (tJ (tFV (Dm 3)) (tJ (tC (V.str " may be")) tJ0)))))))) Str.empty) zI) {nx:=fun _ H'=>Q .non H',rt:=Q} [some (.str x),some (.int n),some (.int a),some (.int b)] H:=fun hz=>by
  refine⟨_,rfl,.inr ⟨_,rfl,nn.1,_,rfl,?_,_,rfl,?_,_,rfl,.inl ⟨x,rfl,by lia,_,rfl,?_,_,rfl,?_,_,rfl,.inr ⟨_,rfl,na.1,_,rfl,?_,_,rfl,?_,_,rfl,.inr ⟨_,rfl,nb.1,_,rfl,?_,_,rfl,?_,?_,(by show 1<=sizeLine;decide),qe hz⟩⟩⟩⟩⟩
  all_goals
   simp only[Str.length_append]
   have e0:Str.empty.length=0:=rfl
   have e1:(" ":Str).length=1:=by decide+kernel
   have e2:(": ":Str).length=2:=by decide+kernel
   have e3:(" to ":Str).length=4:=by decide+kernel
   have e4:(" may be":Str).length=7:=by decide+kernel
   lia
 refine⟨_,rfl,_,rfl,_,_,rfl,rfl,_,rfl,?_⟩
 by_cases h1:a<=n
 ·rw[show decide ((a:Int)<=(n:Int))=true from decide_eq_true (by lia)]
  refine kE ⟨_,rfl,_,_,rfl,rfl,_,rfl,?_⟩
  by_cases h2:n<=b
  ·rw[show decide ((n:Int)<=(b:Int))=true from decide_eq_true (by lia)]
   exact jO (q ⟨h1,h2⟩)
  ·rw[show decide ((n:Int)<=(b:Int))=false from decide_eq_false (by lia)]
   exact kE (fail fun z=>h2 z.2)
 ·rw[show decide ((a:Int)<=(n:Int))=false from decide_eq_false (by lia)]
  exact jO ⟨_,rfl,kE (fail fun z=>h1 z.1)⟩
def CD (K:PySem.W.Frag) (C CB:Addr) (f:Nat):Sp:=fun vs H Q E=>∃(p dx wl rl:Addr) (ws rest:List Str) (rows:List Dt),vs=[.ref p,.int (25-(f:Int))]/\RS K C H p dx wl rl ws rest rows/\WOk ws/\rows.length<=160/\
 (∀r rows' H',hI f rest rows=some (r,rows')->RS K C H' p dx wl rl ws r rows'->K2 p rl H H'->Q (.int (rows.length:Int)) H')/\(hI f rest rows=none->∀H',K2 p rl H H'->E (.ref CB) none H')
def pV (b:Bool):V:=if b then .str "name" else .str "expr"
def FA (K:PySem.W.Frag) (C CB:Addr) (f:Nat):Sp:=fun vs H Q E=>∃(p dx wl rl pt:Addr) (ws rest:List Str) (rows:List Dt) (ps:List Bool),vs=[.ref p,.ref pt,.int (25-(f:Int))]/\RS K C H p dx wl rl ws rest rows/\WOk ws/\rows.length<=160/\SqT K H pt (ps.map pV)/\ps.length<=3/\
 (∀ds r rows' t H',gU (hI f) ps [] rest rows=some (ds,r,rows')->RS K C H' p dx wl rl ws r rows'->K2 p rl H H'->TAt K H' (.ref t) (.tup ds)->Q (.ref t) H')/\(gU (hI f) ps [] rest rows=none->∀H',K2 p rl H H'->E (.ref CB) none H')
def Ds (K:PySem.W.Frag) (C CB:Addr) (f:Nat) (item:List Str->List Dt->Option (Dt×Rs)) (lo hi:Nat):Sp:=fun vs H Q E=>∃(p dx wl rl:Addr) (ws rest:List Str) (rows:List Dt),vs=[.ref p,.int (25-(f:Int))]/\RS K C H p dx wl rl ws rest rows/\WOk ws/\rows.length<=160/\
 (∀l r rows' t H',chk lo hi (jh item rest rows [])=some (l,r,rows')->RS K C H' p dx wl rl ws r rows'->K2 p rl H H'->TAt K H' (.ref t) (.tup l)->Q (.ref t) H')/\(chk lo hi (jh item rest rows [])=none->∀H',K2 p rl H H'->E (.ref CB) none H')
theorem yQ (T:Txt K mg) (f:Nat)
  (G_Reader_take_name:iK P w K mg base (CXE P w) 3 T.a_Reader_take_name T.fd_Reader_take_name ["self"] (iS T.a_Reader T.a_BadText))
  (G_Reader_take_expr:iK P w K mg base (CXE P w) (5*f+ 5) T.a_Reader_take_expr T.fd_Reader_take_expr ["self","depth"] (CD K T.a_Reader T.a_BadText f)):
  iK P w K mg base (CXE P w) (5*f+ 6) T.a_Reader_take_steady T.fd_Reader_take_steady ["self","parts","depth"] (FA K T.a_Reader T.a_BadText f):=by
 refine T.F_Reader_take_steady.okE jC (fun vs H Q E h=>?_) (fun cdv A outer s H vs Q E hr h=>?_)
 ·obtain⟨p,dx,wl,rl,pt,ws,rest,rows,ps,rfl,_⟩:=h
  rfl
 obtain⟨p,dx,wl,rl,pt,ws,rest,rows,ps,rfl,R,W,hrows,hpt,hps,q,qe⟩:=h
 refine⟨_,(gC (gR (i:=3) jC.nd rfl (.inl rfl) (iL gG))
  (gC (lU PassesOwn.leaving rfl (sj (pv 1)) (jt (i:=4) jC.nd rfl (.inl rfl))
   (gK (iU (ju qQ (pv 4) gP (ic _))
    (gK (iu (lK fD fE fF iD (pv 3) (gB (j7 (pv 0) T.cl_Reader T.me_Reader_take_name G_Reader_take_name (hr.mono (by lia)) T.b_Reader_take_name .nil kH) gG))))
    (gK (iu (lK fD fE fF iD (pv 3) (gB (jH (pv 0) T.cl_Reader T.me_Reader_take_expr G_Reader_take_expr (hr.mono (by lia)) T.b_Reader_take_expr .nil kH (gB (pv 2) gG)) gG)))))))
  (gK (hV (kG kQ rfl T.z_tuple nK (gB (pv 3) gG)))))),?_⟩
 have sl:sizeLine=16777216:=sizeLine_eq
 refine⟨(by show 0<=sizeLine;decide),fun fl hfl=>?_⟩
 have ep:=jw f
 have R0:=R.same (gJ hfl (.lst []))
 have fp:fl≠p:=by
  obtain⟨k,hk⟩:=R.ob
  exact Ne.symm (gL hk hfl)
 have frl:fl≠rl:=by
  obtain⟨rv,hk,_⟩:=R.len
  exact Ne.symm (gL hk hfl)
 have fwl:fl≠wl:=by
  obtain⟨k,rv,R',_⟩:=R
  exact Ne.symm (gL R'.wd hfl)
 have hpt0:SqT K (upd H fl (.lst [])) pt (ps.map pV):=by
  rcases hpt with t|t
  ·refine .inl ?_
   rcases t with t|⟨o',t⟩
   ·exact .inl (by rw[gM (gL t hfl)];exact t)
   ·exact .inr ⟨o',by rw[gM (gL t hfl)];exact t⟩
  ·exact .inr t
 refine⟨_,rfl,pt,rfl,⟨_,hpt0⟩,uh (K:=K) (a:=pt) (xs:=ps.map pV) (fun i σ H2=>∃(o:Option V) (acc:List Dt) (fv:List V) (rest2:List Str) (rows2:List Dt),
   σ=[some (.ref p),some (.ref pt),some (.int (25-(f:Int))),some (.ref fl),o]/\SqT K H2 pt (ps.map pV)/\RS K T.a_Reader H2 p dx wl rl ws rest2 rows2/\K2 p rl H H2/\H2 fl=some (.lst fv)/\lM K H2 fv acc/\acc.length=i/\rows2.length<=160/\
   gU (hI f) ps [] rest rows=gU (hI f) (ps.drop i) acc rest2 rows2)
  ⟨none,[],[],rest,rows,rfl,hpt0,R0,gT.k2 (gJ hfl _),gE,.nil,rfl,hrows,rfl⟩ (fun i σ H2 _ ⟨_,_,_,_,_,_,z,_⟩=>z) ?_ ?_⟩
 ·rintro i y σ H2 hi ⟨o,acc,fv,rest2,rows2,rfl,hpt2,R2,k2,hfl2,tf,hacc,hr2,heq⟩
  rw[aM]at hi
  obtain⟨b,hb,rfl⟩:=dF.mp hi
  have hlt:i<ps.length:=(au.mp hb).1
  have ed:ps.drop i=b::ps.drop (i+ 1):=by
   rw[bO hlt]
   rw[(au.mp hb).2]
  rw[ed]at heq
  have lf:fv.length<sizeLine:=by rw[tf.length];lia
  cases b with
  |true=>
   refine⟨_,rfl,rfl,_,rfl,?_⟩
   rw[show decide (pV true=V.str "name")=true by decide+kernel]
   obtain⟨k',hk⟩:=R2.ob
   refine kE ⟨_,rfl,.inl ⟨rfl,_,SqL.of hfl2⟩,_,rfl,p,dx,_,rfl,hk,iN _ _ _ _ (by simp),?_⟩
   refine tn0 ?_
   refine EA R2 W (fun x r H3 e hn R3 k3=>?_) (fun hno H3 k3=>?_)
   ·have h3:H3 fl=some (.lst fv):=k3 _ _ hfl2 fp frl
    refine⟨fl,fv,_,rfl,rfl,h3,lf,_,acc++[.flat (.str x)],fv++[.str x],r,rows2,rfl,tu h3 (R2.sqt k3 hpt2),R3.other h3 fp fwl frl,tD hfl (k2.trans k3),gE,((R2.tats k3 tf).snoc (.flat rfl)).other h3,(by rw[aO,hacc];rfl),hr2,?_⟩
    rw[heq,e,gU,if_pos hn]
   ·refine qe ?_ H3 (k2.trans k3)
    rw[heq]
    cases rest2 with
    |nil=>rw[gU]
    |cons x r=>rw[gU,if_neg (by rw[hno x r rfl];exact fN)]
  |false=>
   refine⟨_,rfl,rfl,_,rfl,?_⟩
   rw[show decide (pV false=V.str "name")=false by decide+kernel]
   obtain⟨k',hk⟩:=R2.ob
   refine jO ⟨_,rfl,.inl ⟨rfl,_,SqL.of hfl2⟩,_,rfl,p,dx,_,rfl,hk,iN _ _ _ _ (by simp),_,rfl,p,dx,wl,rl,ws,rest2,rows2,rfl,R2,W,hr2,fun r rows' H3 e R3 k3=>?_,fun e H3 k3=>?_⟩
   ·have h3:H3 fl=some (.lst fv):=k3 _ _ hfl2 fp frl
    refine⟨fl,fv,_,rfl,rfl,h3,lf,_,acc++[.flat (.int (rows2.length:Int))],fv++[.int (rows2.length:Int)],r,rows',rfl,tu h3 (R2.sqt k3 hpt2),R3.other h3 fp fwl frl,tD hfl (k2.trans k3),gE,((R2.tats k3 tf).snoc (.flat rfl)).other h3,(by rw[aO,hacc];rfl),(ep _ _ _ e).1.most hr2,?_⟩
    rw[heq,gU,e]
   ·refine qe ?_ H3 (k2.trans k3)
    rw[heq,gU,e]
 ·rintro σ H2 ⟨o,acc,fv,rest2,rows2,rfl,hpt2,R2,k2,hfl2,tf,hacc,hr2,heq⟩
  rw[aD,List.drop_length,gU]at heq
  refine⟨_,rfl,fl,fv,rfl,.inl ⟨SqL.of hfl2,fun t ht=>?_⟩⟩
  have s:=gJ ht (.tup fv)
  exact q acc rest2 rows2 t _ heq (R2.same s) (k2.trans (gT.k2 s)) (.tup gE (R2.tats (gT.k2 s) tf))
theorem yR (T:Txt K mg) (f:Nat)
  (G_Reader_ahead:iK P w K mg base CX0 1 T.a_Reader_ahead T.fd_Reader_ahead ["self"] (iJ T.a_Reader))
  (G_Reader_take_steady:iK P w K mg base (CXE P w) (5*f+ 6) T.a_Reader_take_steady T.fd_Reader_take_steady ["self","parts","depth"] (FA K T.a_Reader T.a_BadText f))
  (G_check_count:iK P w K mg base (CXE P w) 1 T.a_check_count T.fd_check_count ["what","count","least","most"] (js T.a_BadText)):
  iK P w K mg base (CXE P w) (5*f+ 7) T.a_Reader_take_fields T.fd_Reader_take_fields ["self","depth"] (Ds K T.a_Reader T.a_BadText f (je (hI f) [true,false]) 0 6):=by
 refine T.F_Reader_take_fields.okE kI (fun vs H Q E h=>?_) (fun cdv A outer s H vs Q E hr h=>?_)
 ·obtain⟨p,dx,wl,rl,ws,rest,rows,rfl,_⟩:=h
  rfl
 obtain⟨p,dx,wl,rl,ws,rest,rows,rfl,R,W,hrows,q,qe⟩:=h
 refine⟨_,(gC (gR (i:=2) kI.nd rfl (.inl rfl) (iL gG))
  (gC (mK PassesOwn.leaving (ju m5 (j7 (pv 0) T.cl_Reader T.me_Reader_ahead G_Reader_ahead (hr.mono (by lia)) T.b_Reader_ahead .nil iX) gP (ic _))
   (gK (iu (lK fD fE fF iD (pv 2) (gB (jH (pv 0) T.cl_Reader T.me_Reader_take_steady G_Reader_take_steady (hr.mono (by lia)) T.b_Reader_take_steady .nil kH (gB (kO (gB gP (gB gP gG))) (gB (pv 1) gG))) gG)))))
  (gC (iu (ia G_check_count (hr.mono (by lia)) rfl T.m_check_count T.k_check_count T.b_check_count .nil kH (gB gP (gB (gS hJ rfl T.z_len jG (gB (pv 2) gG)) (gB gH (gB (n9 rfl T.m_MOST_FIELDS) gG))))))
  (gK (hV (kG kQ rfl T.z_tuple nK (gB (pv 2) gG))))))),?_⟩
 have sl:sizeLine=16777216:=sizeLine_eq
 refine⟨(by show 0<=sizeLine;decide),fun fl hfl=>?_⟩
 have ep:=jw f
 have gi:tm (je (hI f) [true,false]):=lW ep _ (by simp)
 have R0:=R.same (gJ hfl (.lst []))
 obtain⟨fp,frl,fwl⟩:=R.apart hfl
 have hs0:=R.short
 have hs1:=W.len
 refine⟨fun m σ H2=>∃(acc:List Dt) (fv:List V) (rest2:List Str) (rows2:List Dt),m=rest2.length/\σ=[some (.ref p),some (.int (25-(f:Int))),some (.ref fl)]/\RS K T.a_Reader H2 p dx wl rl ws rest2 rows2/\K2 p rl H H2/\H2 fl=some (.lst fv)/\lM K H2 fv acc/\acc.length+rest2.length<=30000/\rows2.length<=160/\
   jh (je (hI f) [true,false]) rest rows []=jh (je (hI f) [true,false]) rest2 rows2 acc,
  ⟨_,[],[],rest,rows,rfl,rfl,R0,gT.k2 (gJ hfl _),gE,.nil,(by show 0+_<=_;lia),hrows,rfl⟩,?_⟩
 rintro m σ H2 ⟨acc,fv,rest2,rows2,rfl,rfl,R2,k2,hfl2,tf,hlen,hr2,heq⟩
 have tl:=tf.length
 have lf:fv.length<sizeLine:=by lia
 obtain⟨k',hk⟩:=R2.ob
 refine⟨_,rfl,p,dx,_,rfl,hk,iN _ _ _ _ (.inl rfl),?_⟩
 refine tn0 ?_
 refine Ao R2 W ?_
 refine⟨rfl,_,rfl,?_⟩
 by_cases hh:rest2.head?=some ")"
 ·have e1:rest2.headD ""=")":=by rw[bW,hh];rfl
  rw[e1,show(decide (V.str ")"=V.str ")"))=true by decide+kernel]
  refine jO ?_
  rw[ma _ _ _ hh]at heq
  refine⟨_,rfl,fl,fv,rfl,.inl (SqL.of hfl2),"fields",fv.length,0,6,rfl,by decide+kernel,by lia,by decide,by decide,fun hc=>?_,fun hc=>?_⟩
  ·refine⟨_,rfl,fl,fv,rfl,.inl ⟨SqL.of hfl2,fun t ht=>?_⟩⟩
   have s:=gJ ht (.tup fv)
   refine q acc rest2 rows2 t _ ?_ (R2.same s) (k2.trans (gT.k2 s)) (.tup gE (R2.tats (gT.k2 s) tf))
   rw[heq,chk,if_pos (by rw[<-tl];exact hc)]
  ·refine qe ?_ H2 k2
   rw[heq,chk,if_neg (by rw[<-tl];exact hc)]
 ·have e1:¬V.str (rest2.headD "")=V.str ")":=fun z=>by
   injection z with z
   cases rest2 with
   |nil=>exact absurd z (by decide+kernel)
   |cons a r=>exact hh (congrArg some z)
  rw[decide_eq_false e1]
  have hm:=oi gi rest2 rows2 acc hh
  refine kE ⟨_,fun σ' H' z=>z,?_⟩
  refine⟨_,rfl,.inl ⟨rfl,_,SqL.of hfl2⟩,_,rfl,p,dx,_,rfl,hk,iN _ _ _ _ (by simp),(by show 2<=sizeLine;decide),fun pt hpt=>?_⟩
  have s3:=gJ hpt (.tup [.str "name",.str "expr"])
  have R3:=R2.same s3
  refine⟨_,rfl,p,dx,wl,rl,pt,ws,rest2,rows2,[true,false],rfl,R3,W,hr2,.inl (.inl gE),by decide,fun ds r rows' t H4 e R4 k4 ht=>?_,fun e H4 k4=>?_⟩
  ·have h4:H4 fl=some (.lst fv):=k4 _ _ (s3 _ _ hfl2) fp frl
   have ei:(je (hI f) [true,false]) rest2 rows2=some (.tup ds,r,rows'):=by rw[je,e]
   obtain⟨st,lt⟩:=gi _ _ _ _ ei
   refine⟨fl,fv,_,rfl,rfl,h4,lf,r.length,lt,acc++[.tup ds],fv++[.ref t],r,rows',rfl,rfl,R4.other h4 fp fwl frl,tD hfl (k2.trans ((gT.k2 s3).trans k4)),gE,((R2.tats ((gT.k2 s3).trans k4) tf).snoc ht).other h4,(by rw[aO];have lt':r.length<rest2.length:=lt;show acc.length+ 1+_<=_;lia),st.most hr2,?_⟩
   rw[heq,hm,ei]
  ·refine qe ?_ H4 (k2.trans ((gT.k2 s3).trans k4))
   rw[heq,hm,show(je (hI f) [true,false]) rest2 rows2=none by rw[je,e]]
   rfl
theorem CF (T:Txt K mg) (f:Nat)
  (G_Reader_ahead:iK P w K mg base CX0 1 T.a_Reader_ahead T.fd_Reader_ahead ["self"] (iJ T.a_Reader))
  (G_Reader_take_steady:iK P w K mg base (CXE P w) (5*f+ 6) T.a_Reader_take_steady T.fd_Reader_take_steady ["self","parts","depth"] (FA K T.a_Reader T.a_BadText f))
  (G_check_count:iK P w K mg base (CXE P w) 1 T.a_check_count T.fd_check_count ["what","count","least","most"] (js T.a_BadText)):
  iK P w K mg base (CXE P w) (5*f+ 7) T.a_Reader_take_arms T.fd_Reader_take_arms ["self","depth"] (Ds K T.a_Reader T.a_BadText f (je (hI f) [true,true,false]) 1 6):=by
 refine T.F_Reader_take_arms.okE lH (fun vs H Q E h=>?_) (fun cdv A outer s H vs Q E hr h=>?_)
 ·obtain⟨p,dx,wl,rl,ws,rest,rows,rfl,_⟩:=h
  rfl
 obtain⟨p,dx,wl,rl,ws,rest,rows,rfl,R,W,hrows,q,qe⟩:=h
 refine⟨_,(gC (gR (i:=2) lH.nd rfl (.inl rfl) (iL gG))
  (gC (mK PassesOwn.leaving (ju m5 (j7 (pv 0) T.cl_Reader T.me_Reader_ahead G_Reader_ahead (hr.mono (by lia)) T.b_Reader_ahead .nil iX) gP (ic _))
   (gK (iu (lK fD fE fF iD (pv 2) (gB (jH (pv 0) T.cl_Reader T.me_Reader_take_steady G_Reader_take_steady (hr.mono (by lia)) T.b_Reader_take_steady .nil kH (gB (kO (gB gP (gB gP (gB gP gG)))) (gB (pv 1) gG))) gG)))))
  (gC (iu (ia G_check_count (hr.mono (by lia)) rfl T.m_check_count T.k_check_count T.b_check_count .nil kH (gB gP (gB (gS hJ rfl T.z_len jG (gB (pv 2) gG)) (gB gH (gB (n9 rfl T.m_MOST_ARMS) gG))))))
  (gK (hV (kG kQ rfl T.z_tuple nK (gB (pv 2) gG))))))),?_⟩
 have sl:sizeLine=16777216:=sizeLine_eq
 refine⟨(by show 0<=sizeLine;decide),fun fl hfl=>?_⟩
 have ep:=jw f
 have gi:tm (je (hI f) [true,true,false]):=lW ep _ (by simp)
 have R0:=R.same (gJ hfl (.lst []))
 obtain⟨fp,frl,fwl⟩:=R.apart hfl
 have hs0:=R.short
 have hs1:=W.len
 refine⟨fun m σ H2=>∃(acc:List Dt) (fv:List V) (rest2:List Str) (rows2:List Dt),m=rest2.length/\σ=[some (.ref p),some (.int (25-(f:Int))),some (.ref fl)]/\RS K T.a_Reader H2 p dx wl rl ws rest2 rows2/\K2 p rl H H2/\H2 fl=some (.lst fv)/\lM K H2 fv acc/\acc.length+rest2.length<=30000/\rows2.length<=160/\
   jh (je (hI f) [true,true,false]) rest rows []=jh (je (hI f) [true,true,false]) rest2 rows2 acc,
  ⟨_,[],[],rest,rows,rfl,rfl,R0,gT.k2 (gJ hfl _),gE,.nil,(by show 0+_<=_;lia),hrows,rfl⟩,?_⟩
 rintro m σ H2 ⟨acc,fv,rest2,rows2,rfl,rfl,R2,k2,hfl2,tf,hlen,hr2,heq⟩
 have tl:=tf.length
 have lf:fv.length<sizeLine:=by lia
 obtain⟨k',hk⟩:=R2.ob
 refine⟨_,rfl,p,dx,_,rfl,hk,iN _ _ _ _ (.inl rfl),?_⟩
 refine tn0 ?_
 refine Ao R2 W ?_
 refine⟨rfl,_,rfl,?_⟩
 by_cases hh:rest2.head?=some ")"
 ·have e1:rest2.headD ""=")":=by rw[bW,hh];rfl
  rw[e1,show(decide (V.str ")"=V.str ")"))=true by decide+kernel]
  refine jO ?_
  rw[ma _ _ _ hh]at heq
  refine⟨_,rfl,fl,fv,rfl,.inl (SqL.of hfl2),"arms",fv.length,1,6,rfl,by decide+kernel,by lia,by decide,by decide,fun hc=>?_,fun hc=>?_⟩
  ·refine⟨_,rfl,fl,fv,rfl,.inl ⟨SqL.of hfl2,fun t ht=>?_⟩⟩
   have s:=gJ ht (.tup fv)
   refine q acc rest2 rows2 t _ ?_ (R2.same s) (k2.trans (gT.k2 s)) (.tup gE (R2.tats (gT.k2 s) tf))
   rw[heq,chk,if_pos (by rw[<-tl];exact hc)]
  ·refine qe ?_ H2 k2
   rw[heq,chk,if_neg (by rw[<-tl];exact hc)]
 ·have e1:¬V.str (rest2.headD "")=V.str ")":=fun z=>by
   injection z with z
   cases rest2 with
   |nil=>exact absurd z (by decide+kernel)
   |cons a r=>exact hh (congrArg some z)
  rw[decide_eq_false e1]
  have hm:=oi gi rest2 rows2 acc hh
  refine kE ⟨_,fun σ' H' z=>z,?_⟩
  refine⟨_,rfl,.inl ⟨rfl,_,SqL.of hfl2⟩,_,rfl,p,dx,_,rfl,hk,iN _ _ _ _ (by simp),(by show 3<=sizeLine;decide),fun pt hpt=>?_⟩
  have s3:=gJ hpt (.tup [.str "name",.str "name",.str "expr"])
  have R3:=R2.same s3
  refine⟨_,rfl,p,dx,wl,rl,pt,ws,rest2,rows2,[true,true,false],rfl,R3,W,hr2,.inl (.inl gE),by decide,fun ds r rows' t H4 e R4 k4 ht=>?_,fun e H4 k4=>?_⟩
  ·have h4:H4 fl=some (.lst fv):=k4 _ _ (s3 _ _ hfl2) fp frl
   have ei:(je (hI f) [true,true,false]) rest2 rows2=some (.tup ds,r,rows'):=by rw[je,e]
   obtain⟨st,lt⟩:=gi _ _ _ _ ei
   refine⟨fl,fv,_,rfl,rfl,h4,lf,r.length,lt,acc++[.tup ds],fv++[.ref t],r,rows',rfl,rfl,R4.other h4 fp fwl frl,tD hfl (k2.trans ((gT.k2 s3).trans k4)),gE,((R2.tats ((gT.k2 s3).trans k4) tf).snoc ht).other h4,(by rw[aO];have lt':r.length<rest2.length:=lt;show acc.length+ 1+_<=_;lia),st.most hr2,?_⟩
   rw[heq,hm,ei]
  ·refine qe ?_ H4 (k2.trans ((gT.k2 s3).trans k4))
   rw[heq,hm,show(je (hI f) [true,true,false]) rest2 rows2=none by rw[je,e]]
   rfl
theorem yS (T:Txt K mg) (f:Nat)
  (G_Reader_ahead:iK P w K mg base CX0 1 T.a_Reader_ahead T.fd_Reader_ahead ["self"] (iJ T.a_Reader))
  (G_Reader_take_expr:iK P w K mg base (CXE P w) (5*f+ 5) T.a_Reader_take_expr T.fd_Reader_take_expr ["self","depth"] (CD K T.a_Reader T.a_BadText f))
  (G_check_count:iK P w K mg base (CXE P w) 1 T.a_check_count T.fd_check_count ["what","count","least","most"] (js T.a_BadText)):
  iK P w K mg base (CXE P w) (5*f+ 7) T.a_Reader_take_things T.fd_Reader_take_things ["self","depth"] (Ds K T.a_Reader T.a_BadText f (kX (hI f)) 0 8):=by
 refine T.F_Reader_take_things.okE kJ (fun vs H Q E h=>?_) (fun cdv A outer s H vs Q E hr h=>?_)
 ·obtain⟨p,dx,wl,rl,ws,rest,rows,rfl,_⟩:=h
  rfl
 obtain⟨p,dx,wl,rl,ws,rest,rows,rfl,R,W,hrows,q,qe⟩:=h
 refine⟨_,(gC (gR (i:=2) kJ.nd rfl (.inl rfl) (iL gG))
  (gC (mK PassesOwn.leaving (ju m5 (j7 (pv 0) T.cl_Reader T.me_Reader_ahead G_Reader_ahead (hr.mono (by lia)) T.b_Reader_ahead .nil iX) gP (ic _))
   (gK (iu (lK fD fE fF iD (pv 2) (gB (jH (pv 0) T.cl_Reader T.me_Reader_take_expr G_Reader_take_expr (hr.mono (by lia)) T.b_Reader_take_expr .nil kH (gB (pv 1) gG)) gG)))))
  (gC (iu (ia G_check_count (hr.mono (by lia)) rfl T.m_check_count T.k_check_count T.b_check_count .nil kH (gB gP (gB (gS hJ rfl T.z_len jG (gB (pv 2) gG)) (gB gH (gB (n9 rfl T.m_MOST_THINGS) gG))))))
  (gK (hV (kG kQ rfl T.z_tuple nK (gB (pv 2) gG))))))),?_⟩
 have sl:sizeLine=16777216:=sizeLine_eq
 refine⟨(by show 0<=sizeLine;decide),fun fl hfl=>?_⟩
 have ep:=jw f
 have gi:tm (kX (hI f)):=oh ep
 have R0:=R.same (gJ hfl (.lst []))
 obtain⟨fp,frl,fwl⟩:=R.apart hfl
 have hs0:=R.short
 have hs1:=W.len
 refine⟨fun m σ H2=>∃(acc:List Dt) (fv:List V) (rest2:List Str) (rows2:List Dt),m=rest2.length/\σ=[some (.ref p),some (.int (25-(f:Int))),some (.ref fl)]/\RS K T.a_Reader H2 p dx wl rl ws rest2 rows2/\K2 p rl H H2/\H2 fl=some (.lst fv)/\lM K H2 fv acc/\acc.length+rest2.length<=30000/\rows2.length<=160/\
   jh (kX (hI f)) rest rows []=jh (kX (hI f)) rest2 rows2 acc,
  ⟨_,[],[],rest,rows,rfl,rfl,R0,gT.k2 (gJ hfl _),gE,.nil,(by show 0+_<=_;lia),hrows,rfl⟩,?_⟩
 rintro m σ H2 ⟨acc,fv,rest2,rows2,rfl,rfl,R2,k2,hfl2,tf,hlen,hr2,heq⟩
 have tl:=tf.length
 have lf:fv.length<sizeLine:=by lia
 obtain⟨k',hk⟩:=R2.ob
 refine⟨_,rfl,p,dx,_,rfl,hk,iN _ _ _ _ (.inl rfl),?_⟩
 refine tn0 ?_
 refine Ao R2 W ?_
 refine⟨rfl,_,rfl,?_⟩
 by_cases hh:rest2.head?=some ")"
 ·have e1:rest2.headD ""=")":=by rw[bW,hh];rfl
  rw[e1,show(decide (V.str ")"=V.str ")"))=true by decide+kernel]
  refine jO ?_
  rw[ma _ _ _ hh]at heq
  refine⟨_,rfl,fl,fv,rfl,.inl (SqL.of hfl2),"things",fv.length,0,8,rfl,by decide+kernel,by lia,by decide,by decide,fun hc=>?_,fun hc=>?_⟩
  ·refine⟨_,rfl,fl,fv,rfl,.inl ⟨SqL.of hfl2,fun t ht=>?_⟩⟩
   have s:=gJ ht (.tup fv)
   refine q acc rest2 rows2 t _ ?_ (R2.same s) (k2.trans (gT.k2 s)) (.tup gE (R2.tats (gT.k2 s) tf))
   rw[heq,chk,if_pos (by rw[<-tl];exact hc)]
  ·refine qe ?_ H2 k2
   rw[heq,chk,if_neg (by rw[<-tl];exact hc)]
 ·have e1:¬V.str (rest2.headD "")=V.str ")":=fun z=>by
   injection z with z
   cases rest2 with
   |nil=>exact absurd z (by decide+kernel)
   |cons a r=>exact hh (congrArg some z)
  rw[decide_eq_false e1]
  have hm:=oi gi rest2 rows2 acc hh
  refine kE ⟨_,fun σ' H' z=>z,?_⟩
  refine⟨_,rfl,.inl ⟨rfl,_,SqL.of hfl2⟩,_,rfl,p,dx,_,rfl,hk,iN _ _ _ _ (by simp),_,rfl,p,dx,wl,rl,ws,rest2,rows2,rfl,R2,W,hr2,fun r rows' H4 e R4 k4=>?_,fun e H4 k4=>?_⟩
  ·have h4:H4 fl=some (.lst fv):=k4 _ _ hfl2 fp frl
   have ei:(kX (hI f)) rest2 rows2=some (.flat (.int (rows2.length:Int)),r,rows'):=by rw[kX,e]
   obtain⟨st,lt⟩:=gi _ _ _ _ ei
   refine⟨fl,fv,_,rfl,rfl,h4,lf,r.length,lt,acc++[.flat (.int (rows2.length:Int))],fv++[.int (rows2.length:Int)],r,rows',rfl,rfl,R4.other h4 fp fwl frl,tD hfl (k2.trans k4),gE,((R2.tats k4 tf).snoc (.flat rfl)).other h4,(by rw[aO];have lt':r.length<rest2.length:=lt;show acc.length+ 1+_<=_;lia),st.most hr2,?_⟩
   rw[heq,hm,ei]
  ·refine qe ?_ H4 (k2.trans k4)
   rw[heq,hm,show(kX (hI f)) rest2 rows2=none by rw[kX,e]]
   rfl
structure Dk (P:Program) (w:World) (K:PySem.W.Frag) (mg:Str->Option Value) where
 a:Addr
 m:mg "STEADY_FORMS"=some (.ref a)
 kvs:List (Key×V)
 kd:zU P w K a kvs
 no:∀h,stP h=none->jL kvs (Sum.inr h)=none
 yes:∀h ps,stP h=some ps->∃q,jL kvs (Sum.inr h)=some (.ref q)/\∀H:Hp,SqT K H q (ps.map pV)
theorem Ar {h:Str} {ps:List Bool} (e:stP h=some ps):ps≠[]/\ps.length<=3:=by
 unfold stP at e
 obtain⟨p,hp,rfl⟩:=dF.mp e
 have hm:=bY hp
 clear hp e
 have z:∀p∈stT,p.2≠[]/\p.2.length<=3:=by decide+kernel
 exact z p hm
def G6 (K:PySem.W.Frag) (C CB:Addr) (f:Nat):Sp:=fun vs H Q E=>∃(p dx wl rl:Addr) (ws rest:List Str) (rows:List Dt) (h:Str),vs=[.ref p,.str h,.int (25-(f:Int))]/\RS K C H p dx wl rl ws rest rows/\WOk ws/\rows.length<=160/\h∈ws/\
 (∀ds r rows' t H',jv (hI f) h rest rows=some (ds,r,rows')->RS K C H' p dx wl rl ws r rows'->K2 p rl H H'->TAt K H' (.ref t) (.tup ds)->Q (.ref t) H')/\(jv (hI f) h rest rows=none->∀H',K2 p rl H H'->E (.ref CB) none H')
theorem CG (T:Txt K mg) (D:Dk P w K mg) (f:Nat)
  (G_Reader_take_expr:iK P w K mg base (CXE P w) (5*f+ 5) T.a_Reader_take_expr T.fd_Reader_take_expr ["self","depth"] (CD K T.a_Reader T.a_BadText f))
  (G_Reader_take_steady:iK P w K mg base (CXE P w) (5*f+ 6) T.a_Reader_take_steady T.fd_Reader_take_steady ["self","parts","depth"] (FA K T.a_Reader T.a_BadText f))
  (G_Reader_take_fields:iK P w K mg base (CXE P w) (5*f+ 7) T.a_Reader_take_fields T.fd_Reader_take_fields ["self","depth"] (Ds K T.a_Reader T.a_BadText f (je (hI f) [true,false]) 0 6))
  (G_Reader_take_arms:iK P w K mg base (CXE P w) (5*f+ 7) T.a_Reader_take_arms T.fd_Reader_take_arms ["self","depth"] (Ds K T.a_Reader T.a_BadText f (je (hI f) [true,true,false]) 1 6))
  (G_Reader_take_things:iK P w K mg base (CXE P w) (5*f+ 7) T.a_Reader_take_things T.fd_Reader_take_things ["self","depth"] (Ds K T.a_Reader T.a_BadText f (kX (hI f)) 0 8)):
  iK P w K mg base (CXE P w) (5*f+ 8) T.a_Reader_take_form T.fd_Reader_take_form ["self","head","depth"] (G6 K T.a_Reader T.a_BadText f):=by
 refine T.F_Reader_take_form.okE lG (fun vs H Q E h=>?_) (fun cdv A outer s H vs Q E hr h=>?_)
 ·obtain⟨p,dx,wl,rl,ws,rest,rows,h,rfl,_⟩:=h
  rfl
 obtain⟨p,dx,wl,rl,ws,rest,rows,h,rfl,R,W,hrows,hm,q,qe⟩:=h
 refine⟨_,(gC (iU (ju qQ (pv 1) gP (ic _))
   (gK (hV (kO (gB gP (gB (jH (pv 0) T.cl_Reader T.me_Reader_take_fields G_Reader_take_fields (hr.mono (by lia)) T.b_Reader_take_fields .nil kH (gB (pv 2) gG)) gG)))))
   ib)
  (gC (iU (ju qQ (pv 1) gP (ic _))
   (gC (gR (i:=3) lG.nd rfl (.inl rfl) (jH (pv 0) T.cl_Reader T.me_Reader_take_expr G_Reader_take_expr (hr.mono (by lia)) T.b_Reader_take_expr .nil kH (gB (pv 2) gG)))
   (gK (hV (kO (gB gP (gB (pv 3) (gB (jH (pv 0) T.cl_Reader T.me_Reader_take_arms G_Reader_take_arms (hr.mono (by lia)) T.b_Reader_take_arms .nil kH (gB (pv 2) gG)) gG)))))))
   ib)
  (gC (iU (ju qQ (pv 1) gP (ic _))
   (gK (hV (kO (gB gP (gB (jH (pv 0) T.cl_Reader T.me_Reader_take_things G_Reader_take_things (hr.mono (by lia)) T.b_Reader_take_things .nil kH (gB (pv 2) gG)) gG)))))
   ib)
  (gC (iU (sf (yq D.kd (pv 1) (oZ rfl D.m)) rfl)
   (gK (kR rfl l5 T.x_BadText rfl T.m_BadText (gB (mn (iM (sS (pv 1)) (iM gP ot))) gG)))
   ib)
  (gK (hV (gY BQ (kO (gB (pv 1) gG)) (jH (pv 0) T.cl_Reader T.me_Reader_take_steady G_Reader_take_steady (hr.mono (by lia)) T.b_Reader_take_steady .nil kH (gB (B3 D.kd (oZ rfl D.m) (pv 1) (fun _ _=>rfl)) (gB (pv 2) gG)))))))))),?_⟩
 have sl:sizeLine=16777216:=sizeLine_eq
 have ep:=jw f
 obtain⟨k',hk⟩:=R.ob
 refine⟨_,rfl,rfl,_,rfl,?_⟩
 by_cases h1:h="rec"
 ·subst h1
  rw[show decide (V.str "rec"=V.str "rec")=true by decide+kernel]
  have ef:jv (hI f) "rec" rest rows=match chk 0 6 (jh (je (hI f) [true,false]) rest rows [])with
   |none=>none
   |some (l,r)=>some ([.flat (.str "rec"),.tup l],r):=by rw[jv,if_pos rfl]<;>rfl
  refine kE ⟨_,rfl,p,dx,_,rfl,hk,iN _ _ _ _ (by simp),_,rfl,p,dx,wl,rl,ws,rest,rows,rfl,R,W,hrows,fun l r rows' t H1 e R1 k1 ht=>?_,fun e H1 k1=>?_⟩
  ·refine⟨(by show 2<=sizeLine;decide),fun u hu=>?_⟩
   have s:=gJ hu (.tup [.str "rec",.ref t])
   refine q _ r rows' u _ (by rw[ef,e]) (R1.same s) (k1.trans (gT.k2 s)) (.tup gE (.cons (.flat rfl) (.cons (R1.tat (gT.k2 s) ht) .nil)))
  ·exact qe (by rw[ef,e]) H1 k1
 rw[decide_eq_false (fun z:V.str h=V.str "rec"=>h1 (by injection z))]
 refine jO ⟨_,rfl,rfl,_,rfl,?_⟩
 by_cases h2:h="case"
 ·subst h2
  rw[show decide (V.str "case"=V.str "case")=true by decide+kernel]
  have ef:jv (hI f) "case" rest rows=match hI f rest rows with
   |none=>none
   |some (r1,rows1)=>match chk 1 6 (jh (je (hI f) [true,true,false]) r1 rows1 [])with
    |none=>none
    |some (l,r)=>some ([.flat (.str "case"),.flat (.int (rows.length:Int)),.tup l],r):=by rw[jv,if_neg h1,if_pos rfl]<;>rfl
  refine kE ⟨_,rfl,p,dx,_,rfl,hk,iN _ _ _ _ (by simp),_,rfl,p,dx,wl,rl,ws,rest,rows,rfl,R,W,hrows,fun r1 rows1 H1 e1 R1 k1=>?_,fun e1 H1 k1=>?_⟩
  ·obtain⟨k1',hk1⟩:=R1.ob
   refine⟨_,rfl,_,rfl,p,dx,_,rfl,hk1,iN _ _ _ _ (by simp),_,rfl,p,dx,wl,rl,ws,r1,rows1,rfl,R1,W,(ep _ _ _ e1).1.most hrows,fun l r rows' t H2 e R2 k2 ht=>?_,fun e H2 k2=>?_⟩
   ·refine⟨(by show 3<=sizeLine;decide),fun u hu=>?_⟩
    have s:=gJ hu (.tup [.str "case",.int (rows.length:Int),.ref t])
    refine q _ r rows' u _ (by rw[ef,e1];show(match chk 1 6 _ with|none=>none|some (l,r)=>_)=_;rw[e]) (R2.same s) ((k1.trans k2).trans (gT.k2 s)) (.tup gE (.cons (.flat rfl) (.cons (.flat rfl) (.cons (R2.tat (gT.k2 s) ht) .nil))))
   ·exact qe (by rw[ef,e1];show(match chk 1 6 _ with|none=>none|some (l,r)=>_)=_;rw[e]) H2 (k1.trans k2)
  ·exact qe (by rw[ef,e1]) H1 k1
 rw[decide_eq_false (fun z:V.str h=V.str "case"=>h2 (by injection z))]
 refine jO ⟨_,rfl,rfl,_,rfl,?_⟩
 by_cases h3:h="row"
 ·subst h3
  rw[show decide (V.str "row"=V.str "row")=true by decide+kernel]
  have ef:jv (hI f) "row" rest rows=match chk 0 8 (jh (kX (hI f)) rest rows [])with
   |none=>none
   |some (l,r)=>some ([.flat (.str "row"),.tup l],r):=by rw[jv,if_neg h1,if_neg h2,if_pos rfl]<;>rfl
  refine kE ⟨_,rfl,p,dx,_,rfl,hk,iN _ _ _ _ (by simp),_,rfl,p,dx,wl,rl,ws,rest,rows,rfl,R,W,hrows,fun l r rows' t H1 e R1 k1 ht=>?_,fun e H1 k1=>?_⟩
  ·refine⟨(by show 2<=sizeLine;decide),fun u hu=>?_⟩
   have s:=gJ hu (.tup [.str "row",.ref t])
   refine q _ r rows' u _ (by rw[ef,e]) (R1.same s) (k1.trans (gT.k2 s)) (.tup gE (.cons (.flat rfl) (.cons (R1.tat (gT.k2 s) ht) .nil)))
  ·exact qe (by rw[ef,e]) H1 k1
 rw[decide_eq_false (fun z:V.str h=V.str "row"=>h3 (by injection z))]
 have ef:jv (hI f) h rest rows=match stP h with
  |none=>none
  |some ps=>match gU (hI f) ps [] rest rows with
   |none=>none
   |some (ds,r)=>some (.flat (.str h)::ds,r):=by rw[jv,if_neg h1,if_neg h2,if_neg h3]<;>rfl
 refine jO ⟨_,rfl,Sum.inr h,rfl,rfl,_,rfl,?_⟩
 cases e4:stP h with
 |none=>
  rw[D.no h e4]
  have hrp:=nP W hm
  refine kE ⟨_,rfl,h,rfl,by lia,_,rfl,Fx hrp,_,rfl,Cy hrp (by decide+kernel),Cy hrp (by decide+kernel),(by show 1<=sizeLine;decide),qe (by rw[ef,e4]) H (K2.refl _ _ _)⟩
 |some ps=>
  obtain⟨dq,ev,hq⟩:=D.yes h ps e4
  obtain⟨ne,le⟩:=Ar e4
  rw[ev]
  refine jO ⟨_,rfl,(by show 1<=sizeLine;decide),fun t1 ht1=>?_⟩
  have s1:=gJ ht1 (.tup [.str h])
  have R1:=R.same s1
  obtain⟨k1',hk1⟩:=R1.ob
  refine⟨_,rfl,p,dx,_,rfl,hk1,iN _ _ _ _ (by simp),_,rfl,Sum.inr h,_,rfl,rfl,ev,_,rfl,p,dx,wl,rl,dq,ws,rest,rows,ps,rfl,R1,W,hrows,hq _,le,fun ds r rows' t H2 e R2 k2 ht=>?_,fun e H2 k2=>?_⟩
  ·cases ht with
   |tup hsq hts=>
    rename_i xs
    have l1:=(kY ep _ _ _ _ _ _ e).2.2
    have l2:=hts.length
    have hne:xs≠[]:=fun z=>by
     rw[z]at l2
     rw[<-l2]at l1
     have:ps.length=0:=by simpa using l1.symm
     exact ne (bL.mp this)
    have ht2:SqT K H2 t1 [.str h]:=R1.sqt k2 (.inl (.inl gE))
    refine⟨t1,t,[.str h],xs,rfl,rfl,ht2,.inl (.inl hsq),(fun z=>nomatch z),(by
     have:([]:List Dt).length=0:=rfl
     show 1+xs.length<=_
     lia),fun z=>absurd z hne,fun _ u hu=>?_⟩
    have s:=gJ hu (.tup ([.str h]++xs))
    refine q _ r rows' u _ (by rw[ef,e4];show(match gU _ _ _ _ _ with|none=>none|some (ds,r)=>_)=_;rw[e]) (R2.same s) (((gT.k2 s1).trans k2).trans (gT.k2 s)) (.tup gE (.cons (.flat rfl) (R2.tats (gT.k2 s) hts)))
  ·exact qe (by rw[ef,e4];show(match gU _ _ _ _ _ with|none=>none|some (ds,r)=>_)=_;rw[e]) H2 ((gT.k2 s1).trans k2)
theorem As:(reprText ")").length<=300002:=by decide+kernel
def G7 (K:PySem.W.Frag) (C CB:Addr) (f:Nat):Sp:=fun vs H Q E=>∃(p dx wl rl:Addr) (ws rest:List Str) (rows:List Dt),vs=[.ref p,.int (25-((f+ 1:Nat):Int))]/\RS K C H p dx wl rl ws rest rows/\WOk ws/\rows.length<=160/\
 (∀ds r rows' t H',qH (hI f) rest rows=some (ds,r,rows')->RS K C H' p dx wl rl ws r rows'->K2 p rl H H'->TAt K H' (.ref t) (.tup ds)->Q (.ref t) H')/\(qH (hI f) rest rows=none->∀H',K2 p rl H H'->E (.ref CB) none H')
theorem EB (T:Txt K mg) (f:Nat)
  (G_Reader_take:iK P w K mg base (CXE P w) 2 T.a_Reader_take T.fd_Reader_take ["self"] (jr T.a_Reader T.a_BadText))
  (G_Reader_pass_over:iK P w K mg base (CXE P w) 3 T.a_Reader_pass_over T.fd_Reader_pass_over ["self","wanted"] (iR T.a_Reader T.a_BadText))
  (G_is_name:iK P w K mg base CX0 2 T.a_is_name T.fd_is_name ["word"] mO)
  (G_is_number:iK P w K mg base CX0 2 T.a_is_number T.fd_is_number ["word"] mB)
  (G_Reader_take_form:iK P w K mg base (CXE P w) (5*f+ 8) T.a_Reader_take_form T.fd_Reader_take_form ["self","head","depth"] (G6 K T.a_Reader T.a_BadText f)):
  iK P w K mg base (CXE P w) (5*f+ 9) T.a_Reader_take_row T.fd_Reader_take_row ["self","depth"] (G7 K T.a_Reader T.a_BadText f):=by
 refine T.F_Reader_take_row.okE kf (fun vs H Q E h=>?_) (fun cdv A outer s H vs Q E hr h=>?_)
 ·obtain⟨p,dx,wl,rl,ws,rest,rows,rfl,_⟩:=h
  rfl
 obtain⟨p,dx,wl,rl,ws,rest,rows,rfl,R,W,hrows,q,qe⟩:=h
 refine⟨_,(gC (gR (i:=2) kf.nd rfl (.inl rfl) (j7 (pv 0) T.cl_Reader T.me_Reader_take G_Reader_take (hr.mono (by lia)) T.b_Reader_take .nil kH))
  (gC (iU (lT (ia G_is_number (hr.mono (by lia)) rfl T.m_is_number T.k_is_number T.b_is_number .nil iX (gB (pv 2) gG)))
   (gK (hV (kO (gB gP (gB (kG sU rfl T.z_int vp (gB (pv 2) gG)) gG)))))
   ib)
  (gC (iU (lT (ia G_is_name (hr.mono (by lia)) rfl T.m_is_name T.k_is_name T.b_is_name .nil iX (gB (pv 2) gG)))
   (gK (hV (kO (gB gP (gB (pv 2) gG)))))
   ib)
  (gC (iU (ju m5 (pv 2) gP (ic _))
   (gK (kR rfl l5 T.x_BadText rfl T.m_BadText (gB (mn (iM (sS (pv 2)) (iM gP ot))) gG)))
   ib)
  (gC (gR (i:=3) kf.nd rfl (.inl rfl) (jH (pv 0) T.cl_Reader T.me_Reader_take_form G_Reader_take_form (hr.mono (by lia)) T.b_Reader_take_form .nil kH (gB (j7 (pv 0) T.cl_Reader T.me_Reader_take G_Reader_take (hr.mono (by lia)) T.b_Reader_take .nil kH) (gB (gY AX (pv 1) gH) gG))))
  (gC (iu (jH (pv 0) T.cl_Reader T.me_Reader_pass_over G_Reader_pass_over (hr.mono (by lia)) T.b_Reader_pass_over .nil kH (gB gP gG)))
  (gK (hV (pv 3))))))))),?_⟩
 have sl:sizeLine=16777216:=sizeLine_eq
 obtain⟨k',hk⟩:=R.ob
 refine⟨_,rfl,p,dx,_,rfl,hk,iN _ _ _ _ (by simp),?_⟩
 refine tn0 ?_
 refine Ez R W (fun x r H1 e R1 k1=>?_) (fun e=>qe (by rw[e];rfl) H (K2.refl _ _ _))
 have hx:x∈ws:=R.mem x (by rw[e];exact ah ..)
 have xl:=(W.one x hx).2.1
 refine⟨_,rfl,x,rfl,xl,fun H2 s2=>⟨_,rfl,?_⟩⟩
 have R2:=R1.same s2
 have k2:=k1.trans (gT.k2 (p:=p) (q:=rl) s2)
 cases e1:jD x with
 |true=>
  obtain⟨n1,n2,n3⟩:=pE e1
  refine kE ⟨_,rfl,x,tj x,rfl,wU n1 (by lia) n3,by lia,(by show 2<=sizeLine;decide),fun t ht=>?_⟩
  have s:=gJ ht (.tup [.str "num",.int (tj x)])
  exact q _ r rows t _ (by rw[e];exact uG e1) (R2.same s) (k2.trans (gT.k2 s)) (.tup gE (.cons (.flat rfl) (.cons (.flat rfl) .nil)))
 |false=>
  have f1:¬jD x=true:=by rw[e1];exact fN
  refine jO ⟨_,rfl,x,rfl,xl,fun H3 s3=>⟨_,rfl,?_⟩⟩
  have R3:=R2.same s3
  have k3:=k2.trans (gT.k2 (p:=p) (q:=rl) s3)
  cases e2:isName x with
  |true=>
   refine kE ⟨_,rfl,(by show 2<=sizeLine;decide),fun t ht=>?_⟩
   have s:=gJ ht (.tup [.str "name",.str x])
   exact q _ r rows t _ (by rw[e];exact rA f1 e2) (R3.same s) (k3.trans (gT.k2 s)) (.tup gE (.cons (.flat rfl) (.cons (.flat rfl) .nil)))
  |false=>
   have f2:¬isName x=true:=by rw[e2];exact fN
   refine jO ⟨_,rfl,rfl,_,rfl,?_⟩
   by_cases h3:x="("
   ·rw[decide_eq_true (congrArg V.str h3)]
    obtain⟨k3',hk3⟩:=R3.ob
    refine jO ⟨_,rfl,p,dx,_,rfl,hk3,iN _ _ _ _ (by simp),_,rfl,p,dx,_,rfl,hk3,iN _ _ _ _ (by simp),?_⟩
    refine tn0 ?_
    refine Ez R3 W (fun h r2 H4 e4 R4 k4=>?_) (fun e4=>qe (by rw[e,e4];exact Ah f1 f2 h3) H3 k3)
    have hh:h∈ws:=R3.mem h (by rw[e4];exact ah ..)
    have er':qH (hI f) rest rows=mw (jv (hI f) h r2 rows):=by rw[e,e4];exact uH f1 f2 h3
    refine⟨_,rfl,_,_,rfl,rfl,p,dx,wl,rl,ws,r2,rows,h,(by
     show[V.ref p,V.str h,V.int (25-((f+ 1:Nat):Int)+ 1)]=_
     rw[show(25-((f+ 1:Nat):Int)+ 1)=25-(f:Int) by lia]),R4,W,hrows,hh,fun ds r3 rows' t H5 e5 R5 k5 ht=>?_,fun e5 H5 k5=>?_⟩
    ·obtain⟨k5',hk5⟩:=R5.ob
     refine⟨_,rfl,p,dx,_,rfl,hk5,iN _ _ _ _ (by simp),?_⟩
     refine tc1 ?_
     refine Aq R5 W As (fun r4 H6 e6 R6 k6=>?_) (fun ne H6 k6=>?_)
     ·refine⟨_,rfl,q ds r4 rows' t H6 ?_ R6 (((k3.trans k4).trans k5).trans k6) (R5.tat k6 ht)⟩
      rw[er',e5,e6]
      unfold mw
      exact if_pos rfl
     ·refine qe ?_ H6 (((k3.trans k4).trans k5).trans k6)
      rw[er',e5]
      unfold mw
      cases r3 with
      |nil=>rfl
      |cons y r4=>
       refine if_neg fun z=>ne ?_
       rw[z]
       rfl
    ·exact qe (by rw[er',e5];rfl) H5 ((k3.trans k4).trans k5)
   ·rw[decide_eq_false (fun z:V.str x=V.str "("=>h3 (by injection z))]
    have hrp:=nP W hx
    refine kE ⟨_,rfl,x,rfl,by lia,_,rfl,Fx hrp,_,rfl,Cy hrp (by decide+kernel),Cy hrp (by decide+kernel),(by show 1<=sizeLine;decide),qe ?_ H3 k3⟩
    rw[e]
    exact Er f1 f2 h3
theorem Au (T:Txt K mg):iK P w K mg base (CXE P w) 5 T.a_Reader_take_expr T.fd_Reader_take_expr ["self","depth"] (CD K T.a_Reader T.a_BadText 0):=by
 refine T.F_Reader_take_expr.okE j2 (fun vs H Q E h=>?_) (fun cdv A outer s H vs Q E hr h=>?_)
 ·obtain⟨p,dx,wl,rl,ws,rest,rows,rfl,_⟩:=h
  rfl
 obtain⟨p,dx,wl,rl,ws,rest,rows,rfl,R,W,hrows,q,qe⟩:=h
 refine⟨_,(gC (iU (ju BF (pv 1) (n9 rfl T.m_MOST_NEST) (ic _))
   (gK (kR rfl l5 T.x_BadText rfl T.m_BadText (gB (mn (iM gP (iM (uw (n9 rfl T.m_MOST_NEST)) ot))) gG)))
   ib)
  xy),?_⟩
 have sl:sizeLine=16777216:=sizeLine_eq
 have nn:=nS (show 24<=100000 by decide)
 refine⟨_,rfl,_,_,rfl,rfl,_,rfl,kE ?_⟩
 refine⟨_,rfl,?_,.inr ⟨_,rfl,nn.1,_,rfl,?_,?_,(by show 1<=sizeLine;decide),qe rfl H (K2.refl _ _ _)⟩⟩
 all_goals
  simp only[Str.length_append]
  have e0:Str.empty.length=0:=rfl
  have e1:("a nest above ":Str).length=13:=by decide+kernel
  have e2:(PySem.Str.ofString (toString (24:Int))).length<=6:=nn.2
  try lia
theorem Av (T:Txt K mg) (f:Nat)
  (G_Reader_take_row:iK P w K mg base (CXE P w) (5*f+ 9) T.a_Reader_take_row T.fd_Reader_take_row ["self","depth"] (G7 K T.a_Reader T.a_BadText f)):
  iK P w K mg base (CXE P w) (5*(f+ 1)+ 5) T.a_Reader_take_expr T.fd_Reader_take_expr ["self","depth"] (CD K T.a_Reader T.a_BadText (f+ 1)):=by
 refine T.F_Reader_take_expr.okE (k:=5*f+ 9) j2 (fun vs H Q E h=>?_) (fun cdv A outer s H vs Q E hr h=>?_)
 ·obtain⟨p,dx,wl,rl,ws,rest,rows,rfl,_⟩:=h
  rfl
 obtain⟨p,dx,wl,rl,ws,rest,rows,rfl,R,W,hrows,q,qe⟩:=h
 refine⟨_,(gC (iU (ju BF (pv 1) (n9 rfl T.m_MOST_NEST) (ic _))
   (gK (kR rfl l5 T.x_BadText rfl T.m_BadText (gB (mn (iM gP (iM (uw (n9 rfl T.m_MOST_NEST)) ot))) gG)))
   ib)
  (gC (gR (i:=2) j2.nd rfl (.inl rfl) (gS hJ rfl T.z_len jG (gB (nG (pv 0) rfl) gG)))
  (gC (iU (ju qQ (pv 2) (n9 rfl T.m_MOST_PLACES) (ic _))
   (gK (kR rfl l5 T.x_BadText rfl T.m_BadText (gB (mn (iM gP (iM (uw (n9 rfl T.m_MOST_PLACES)) (iM gP ot)))) gG)))
   ib)
  (gC (iu (lK fD fE fF iD (nG (pv 0) rfl) (gB ve gG)))
  (gC (xA (jH (pv 0) T.cl_Reader T.me_Reader_take_row G_Reader_take_row (hr.mono (by lia)) T.b_Reader_take_row .nil kH (gB (pv 1) gG)) (AW (nG (pv 0) rfl) (pv 2) vn))
  (gK (hV (pv 2)))))))),?_⟩
 have sl:sizeLine=16777216:=sizeLine_eq
 have nn:=nS (show 160<=100000 by decide)
 obtain⟨k,rv,R',h1,h2,h3⟩:=R
 have tl:=h3.length
 refine⟨_,rfl,_,_,rfl,rfl,_,rfl,?_⟩
 rw[decide_eq_false (by lia)]
 refine jO ⟨_,rfl,p,_,dx,_,_,rfl,R'.ob,T.cl_Reader,T.n_Reader_rows,rk _ _ _,rl,_,rfl,.inl (SqL.of R'.rw),?_⟩
 refine⟨_,rfl,rfl,_,rfl,?_⟩
 by_cases h160:rows.length=160
 ·rw[decide_eq_true (show V.int ((rv.length:Nat):Int)=V.int 160 by rw[tl,h160];rfl)]
  refine kE ⟨_,rfl,?_,.inr ⟨_,rfl,nn.1,_,rfl,?_,_,rfl,?_,?_,(by show 1<=sizeLine;decide),qe (by rw[hI,if_pos h160]) H (K2.refl _ _ _)⟩⟩
  all_goals
   simp only[Str.length_append]
   have e0:Str.empty.length=0:=rfl
   have e1:("more than ":Str).length=10:=by decide+kernel
   have e3:(" places":Str).length=7:=by decide+kernel
   have e2:(PySem.Str.ofString (toString (160:Int))).length<=6:=nn.2
   try lia
 ·rw[decide_eq_false (show ¬V.int ((rv.length:Nat):Int)=V.int 160 from fun z=>by injection z with z;lia)]
  refine jO ⟨_,rfl,p,_,dx,_,_,rfl,R'.ob,T.cl_Reader,T.n_Reader_rows,rk _ _ _,.inl ⟨rfl,_,SqL.of R'.rw⟩,rl,_,_,rfl,rfl,R'.rw,by lia,?_⟩
  have npr:=R'.ne2
  have nwr:=R'.ne
  have R1':nO T.a_Reader (upd H rl (.lst (rv++[.non]))) p dx wl rl ws k (rv++[.non]):=⟨by rw[gM npr];exact R'.ob,by rw[gM nwr];exact R'.wd,gE,nwr⟩
  have R1:RS K T.a_Reader (upd H rl (.lst (rv++[.non]))) p dx wl rl ws rest (rows++[.flat .non]):=⟨k,_,R1',h1,h2,(h3.snoc (.flat rfl)).other R'.rw⟩
  have k1:K2 p rl H (upd H rl (.lst (rv++[.non]))):=(K2.refl p rl H).upd2 _
  have lr:(rows++[Dt.flat .non]).length=rows.length+ 1:=by rw[aO];rfl
  refine⟨_,rfl,p,dx,_,rfl,R1'.ob,iN _ _ _ _ (by simp),_,rfl,p,dx,wl,rl,ws,rest,_,rfl,R1,W,by lia,fun ds r rows' t H2 e R2 k2 ht=>?_,fun e H2 k2=>?_⟩
  ·have up:=(vK (jw f) e).1.up
   obtain⟨kk,rv2,R2',g1,g2,g3⟩:=R2
   have tl2:=g3.length
   have lt:rows.length<rv2.length:=by
    have up':(rows++[Dt.flat .non]).length<=rows'.length:=up
    lia
   refine⟨_,rfl,p,_,dx,_,_,rfl,R2'.ob,T.cl_Reader,T.n_Reader_rows,rk _ _ _,_,rfl,rl,_,_,rv.length,rfl,rfl,R2'.rw,Cw (by lia),?_⟩
   refine⟨_,rfl,?_⟩
   rw[tl]
   refine q r (rows'.set rows.length (.tup ds)) _ ?_ ⟨kk,_,⟨?_,?_,gE,nwr⟩,g1,g2,(lM.set _ g3 ht).other R2'.rw⟩ ((k1.trans k2).upd2 _)
   ·rw[hI,if_neg h160,e]
   ·rw[gM npr]
    exact R2'.ob
   ·rw[gM nwr]
    exact R2'.wd
  ·refine qe ?_ H2 (k1.trans k2)
   rw[hI,if_neg h160,e]
theorem yT (T:Txt K mg) (D:Dk P w K mg)
  (G_Reader_ahead:iK P w K mg base CX0 1 T.a_Reader_ahead T.fd_Reader_ahead ["self"] (iJ T.a_Reader))
  (G_Reader_take:iK P w K mg base (CXE P w) 2 T.a_Reader_take T.fd_Reader_take ["self"] (jr T.a_Reader T.a_BadText))
  (G_Reader_pass_over:iK P w K mg base (CXE P w) 3 T.a_Reader_pass_over T.fd_Reader_pass_over ["self","wanted"] (iR T.a_Reader T.a_BadText))
  (G_Reader_take_name:iK P w K mg base (CXE P w) 3 T.a_Reader_take_name T.fd_Reader_take_name ["self"] (iS T.a_Reader T.a_BadText))
  (G_is_name:iK P w K mg base CX0 2 T.a_is_name T.fd_is_name ["word"] mO)
  (G_is_number:iK P w K mg base CX0 2 T.a_is_number T.fd_is_number ["word"] mB)
  (G_check_count:iK P w K mg base (CXE P w) 1 T.a_check_count T.fd_check_count ["what","count","least","most"] (js T.a_BadText)):
  ∀f,iK P w K mg base (CXE P w) (5*f+ 5) T.a_Reader_take_expr T.fd_Reader_take_expr ["self","depth"] (CD K T.a_Reader T.a_BadText f)
 |0=>Au T
 |f+ 1=>by
  have g:=yT T D G_Reader_ahead G_Reader_take G_Reader_pass_over G_Reader_take_name G_is_name G_is_number G_check_count f
  have gs:=yQ T f G_Reader_take_name g
  exact Av T f (EB T f G_Reader_take G_Reader_pass_over G_is_name G_is_number
   (CG T D f g gs (yR T f G_Reader_ahead gs G_check_count) (CF T f G_Reader_ahead gs G_check_count) (yS T f G_Reader_ahead g G_check_count)))
theorem Aw:(reprText "(").length<=300002/\(reprText "def").length<=300002/\(reprText ")").length<=300002:=by decide+kernel
def lJ (C:Addr):Sp:=fun vs H Q _=>∃(p dx a b c:Addr),vs=[.ref p,.ref a,.ref b,.ref c]/\H p=some (.ins C dx [])/\∀H',H' p=some (.ins C dx (fP a b c))->(∀z o,H z=some o->z≠p->H' z=some o)->Q .non H'
theorem nv (T:Txt K mg):iK P w K mg base CX0 1 T.a_Program___init__ T.fd_Program___init__ ["self","names","roots","rows"] (lJ T.a_Program):=by
 refine T.F_Program___init__.ok nj (fun vs H Q E h=>?_) (fun cdv A outer s H vs Q E hr h=>?_)
 ·obtain⟨p,dx,a,b,c,rfl,_⟩:=h
  rfl
 obtain⟨p,dx,a,b,c,rfl,hp,k⟩:=h
 refine⟨_,(gC (qu (pv 0) (pv 1) rfl)
  (gC (qu (pv 0) (pv 2) rfl)
  (gK (qu (pv 0) (pv 3) rfl)))),?_⟩
 refine⟨_,rfl,_,rfl,p,T.a_Program,dx,[],rfl,hp,T.cl_Program,T.n_Program_names,(by show 0<1000;decide),?_⟩
 refine⟨_,rfl,_,rfl,p,T.a_Program,dx,_,rfl,gE,T.cl_Program,T.n_Program_roots,(by show 1<1000;decide),?_⟩
 refine⟨_,rfl,_,rfl,p,T.a_Program,dx,_,rfl,gE,T.cl_Program,T.n_Program_rows,(by show 2<1000;decide),?_⟩
 refine k _ ?_ fun z o e hz=>?_
 ·rw[gE]
  exact congrArg (fun l=>some (HO.ins T.a_Program dx l)) (Gm a b c)
 ·rw[gM hz,gM hz,gM hz]
  exact e
structure PrAt (C:Addr) (H:Hp) (g:Addr) (nl tl rl:Addr) (names roots rows:List V):Prop where
 ob:∃dx,H g=some (.ins C dx (fP nl tl rl))
 nm:H nl=some (.lst names)
 rt:H tl=some (.lst roots)
 rw:H rl=some (.lst rows)
 n1:nl≠tl
 n2:nl≠rl
 n3:tl≠rl
def CH (K:PySem.W.Frag) (C CB:Addr):Sp:=fun vs H Q E=>∃(x:Str) (ws:List Str),vs=[.str x]/\x.length<=30000/\pA x.cps.toList=ws.map V.str/\WOk ws/\
 (∀names roots rows g nl tl rl rtv rwv H',mV ws=some (names,roots,rows)->gT H H'->H nl=none->H tl=none->H rl=none->PrAt C H' g nl tl rl (names.map V.str) rtv rwv->lM K H' rtv roots->lM K H' rwv rows->Q (.ref g) H')/\(mV ws=none->∀H',gT H H'->E (.ref CB) none H')
theorem om {p rl:Addr} {H H1 H2:Hp} (np:H p=none) (nr:H rl=none) (s:gT H H1) (k:K2 p rl H1 H2):gT H H2:=fun b o e=>k b o (s b o e) (gL e np) (gL e nr)
theorem CI (T:Txt K mg) (G_words_of:iK P w K mg base CX0 1 T.a_words_of T.fd_words_of ["text"] pN) (G_Reader___init__:iK P w K mg base CX0 1 T.a_Reader___init__ T.fd_Reader___init__ ["self","words"] (lR T.a_Reader))
  (G_Reader_ahead:iK P w K mg base CX0 1 T.a_Reader_ahead T.fd_Reader_ahead ["self"] (iJ T.a_Reader))
  (G_Reader_pass_over:iK P w K mg base (CXE P w) 3 T.a_Reader_pass_over T.fd_Reader_pass_over ["self","wanted"] (iR T.a_Reader T.a_BadText))
  (G_Reader_take_name:iK P w K mg base (CXE P w) 3 T.a_Reader_take_name T.fd_Reader_take_name ["self"] (iS T.a_Reader T.a_BadText))
  (G_Reader_take_expr:iK P w K mg base (CXE P w) (5*24+ 5) T.a_Reader_take_expr T.fd_Reader_take_expr ["self","depth"] (CD K T.a_Reader T.a_BadText 24))
  (G_check_count:iK P w K mg base (CXE P w) 1 T.a_check_count T.fd_check_count ["what","count","least","most"] (js T.a_BadText))
  (G_Program___init__:iK P w K mg base CX0 1 T.a_Program___init__ T.fd_Program___init__ ["self","names","roots","rows"] (lJ T.a_Program)):
  iK P w K mg base (CXE P w) 126 T.a_read T.fd_read ["text"] (CH K T.a_Program T.a_BadText):=by
 refine T.F_read.okE rG (fun vs H Q E h=>?_) (fun cdv A outer s H vs Q E hr h=>?_)
 ·obtain⟨x,ws,rfl,_⟩:=h
  rfl
 obtain⟨x,ws,rfl,hx,hw,W,q,qe⟩:=h
 refine⟨_,(gC (gR (i:=1) rG.nd rfl (.inl rfl) (xR T.mk_Reader G_Reader___init__ (hr.mono (by lia)) rfl T.m_Reader T.b_Reader___init__ .nil iX (gB (ia G_words_of (hr.mono (by lia)) rfl T.m_words_of T.k_words_of T.b_words_of .nil iX (gB (pv 0) gG)) gG)))
  (gC (gR (i:=2) rG.nd rfl (.inl rfl) (iL gG))
  (gC (gR (i:=3) rG.nd rfl (.inl rfl) (iL gG))
  (gC (mK PassesOwn.leaving (ju m5 (j7 (pv 1) T.cl_Reader T.me_Reader_ahead G_Reader_ahead (hr.mono (by lia)) T.b_Reader_ahead .nil iX) gP (ic _))
   (gC (iu (jH (pv 1) T.cl_Reader T.me_Reader_pass_over G_Reader_pass_over (hr.mono (by lia)) T.b_Reader_pass_over .nil kH (gB gP gG)))
   (gC (iu (jH (pv 1) T.cl_Reader T.me_Reader_pass_over G_Reader_pass_over (hr.mono (by lia)) T.b_Reader_pass_over .nil kH (gB gP gG)))
   (gC (iu (lK fD fE fF iD (pv 2) (gB (j7 (pv 1) T.cl_Reader T.me_Reader_take_name G_Reader_take_name (hr.mono (by lia)) T.b_Reader_take_name .nil kH) gG)))
   (gC (iu (lK fD fE fF iD (pv 3) (gB (jH (pv 1) T.cl_Reader T.me_Reader_take_expr G_Reader_take_expr (hr.mono (by lia)) T.b_Reader_take_expr .nil kH (gB gH gG)) gG)))
   (gK (iu (jH (pv 1) T.cl_Reader T.me_Reader_pass_over G_Reader_pass_over (hr.mono (by lia)) T.b_Reader_pass_over .nil kH (gB gP gG)))))))))
  (gC (iu (ia G_check_count (hr.mono (by lia)) rfl T.m_check_count T.k_check_count T.b_check_count .nil kH (gB gP (gB (gS hJ rfl T.z_len jG (gB (pv 2) gG)) (gB gH (gB (n9 rfl T.m_MOST_DEFINITIONS) gG))))))
  (gK (hV (xR T.mk_Program G_Program___init__ (hr.mono (by lia)) rfl T.m_Program T.b_Program___init__ .nil iX (gB (pv 2) (gB (pv 3) (gB (nG (pv 1) rfl) gG))))))))))),?_⟩
 have sl:sizeLine=16777216:=sizeLine_eq
 obtain⟨rp1,rp2,rp3⟩:=Aw
 refine⟨_,rfl,x,rfl,hx,fun wl H1 s1 nwl hwl p dx np ndx nex=>?_⟩
 rw[hw]at hwl
 have wp:wl≠p:=gL hwl np
 have wdx:wl≠dx:=gL hwl ndx
 refine⟨p,dx,wl,ws,rfl,gE,by rw[gM wp,gM wdx];exact hwl,fun rl H2 nrl R2 keep=>⟨rfl,?_⟩⟩
 have np0:H p=none:=s1.free np
 have S1:gT H (upd (upd H1 dx (.own p)) p (.ins T.a_Reader dx [])):=rm _ np0 (rm _ (s1.free ndx) s1)
 have nr0:H rl=none:=S1.free nrl
 have S2:gT H H2:=fun b o e=>keep b o (S1 b o e) (gL e np0)
 refine⟨(by show 0<=sizeLine;decide),fun nl hnl=>⟨(by show 0<=sizeLine;decide),fun tl htl=>?_⟩⟩
 have nn0:H nl=none:=S2.free hnl
 have S3:gT H (upd H2 nl (.lst [])):=S2.trans (gJ hnl _)
 have nt0:H tl=none:=S3.free htl
 have S4:gT H (upd (upd H2 nl (.lst [])) tl (.lst [])):=S3.trans (gJ htl _)
 have R4':=(R2.same (gJ hnl (.lst []))).same (gJ htl (.lst []))
 have R4:RS K T.a_Reader (upd (upd H2 nl (.lst [])) tl (.lst [])) p dx wl rl ws ws []:=⟨0,[],R4',rfl,c8 _,.nil⟩
 have ntn:nl≠tl:=gL gE htl
 have hN4:upd (upd H2 nl (.lst [])) tl (.lst []) nl=some (.lst []):=by rw[gM ntn];exact gE
 have hT4:upd (upd H2 nl (.lst [])) tl (.lst []) tl=some (.lst []):=gE
 have pn:nl≠p:=Ne.symm (gL R2.ob hnl)
 have rn:nl≠rl:=Ne.symm (gL R2.rw hnl)
 have pt:tl≠p:=Ne.symm (gL (R2.same (gJ hnl (.lst []))).ob htl)
 have rt:tl≠rl:=Ne.symm (gL (R2.same (gJ hnl (.lst []))).rw htl)
 have wn:nl≠wl:=Ne.symm (gL R2.wd hnl)
 have wt:tl≠wl:=Ne.symm (gL (R2.same (gJ hnl (.lst []))).wd htl)
 have FD:=W.len
 have ra:mV ws=match jJ ws [] [] []with
  |none=>none
  |some (n,r,rows)=>if 1<=n.length/\n.length<=12 then some (n,r,rows)else none:=by rw[mV]<;>rfl
 generalize hH4:upd (upd H2 nl (.lst [])) tl (.lst [])=H4 at R4 S4 hN4 hT4
 refine⟨fun m σ H5=>∃(names:List Str) (roots:List Dt) (rtv:List V) (rest:List Str) (rows:List Dt),m=rest.length/\σ=[some (.str x),some (.ref p),some (.ref nl),some (.ref tl)]/\RS K T.a_Reader H5 p dx wl rl ws rest rows/\gT H H5/\H5 nl=some (.lst (names.map V.str))/\H5 tl=some (.lst rtv)/\lM K H5 rtv roots/\names.length+rest.length<=30000/\roots.length=names.length/\rows.length<=160/\jJ ws [] [] []=jJ rest rows names roots,
  ⟨_,[],[],[],ws,[],rfl,rfl,R4,S4,hN4,hT4,.nil,(by show 0+_<=_;lia),rfl,c8 _,rfl⟩,?_⟩
 rintro m σ H5 ⟨names,roots,rtv,rest,rows,rfl,rfl,R5,S5,hN5,hT5,ht5,hlen,hlr,hrows,heq⟩
 obtain⟨k5,hk5⟩:=R5.ob
 have lroot:=ht5.length
 refine⟨_,rfl,p,dx,_,rfl,hk5,iN _ _ _ _ (.inl rfl),?_⟩
 refine tn0 ?_
 refine Ao R5 W ?_
 refine⟨rfl,_,rfl,?_⟩
 by_cases hnil:rest=[]
 ·subst hnil
  rw[show decide (V.str (([]:List Str).headD "")=V.str "")=true by decide+kernel]
  rw[defs_nil]at heq
  rw[heq]at ra
  have ra':mV ws=if 1<=names.length/\names.length<=12 then some (names,roots,rows)else none:=ra
  have lm:(names.map V.str).length=names.length:=aD ..
  refine jO ⟨_,rfl,nl,_,rfl,.inl (SqL.of hN5),"definitions",(names.map V.str).length,1,12,rfl,by decide+kernel,by lia,by decide,by decide,fun hc=>?_,fun hc=>?_⟩
  ·rw[lm]at hc
   rw[if_pos hc]at ra'
   refine⟨_,rfl,_,rfl,_,rfl,p,_,dx,_,_,rfl,hk5,T.cl_Reader,T.n_Reader_rows,rk _ _ _,fun g dg ng ndg neg=>?_⟩
   refine⟨g,dg,nl,tl,rl,rfl,gE,fun H6 hg keep6=>⟨rfl,?_⟩⟩
   have k6:gT H5 H6:=fun b o e=>keep6 b o (by rw[gM (gL e ng),gM (gL e ndg)];exact e) (gL e ng)
   obtain⟨k,rv,R5',h1,h2,h3⟩:=R5
   have kk:K2 p rl H5 H6:=gT.k2 k6
   exact q names roots rows g nl tl rl rtv rv H6 ra' (S5.trans k6) nn0 nt0 nr0 ⟨⟨dg,hg⟩,k6 _ _ hN5,k6 _ _ hT5,k6 _ _ R5'.rw,ntn,rn,rt⟩ (ht5.mono fun a xs t=>nO.tpT R5' kk t) (h3.mono fun a xs t=>nO.tpT R5' kk t)
  ·rw[lm]at hc
   rw[if_neg hc]at ra'
   exact qe ra' H5 S5
 ·have e1:¬V.str (rest.headD "")=V.str "":=fun z=>by
   injection z with z
   cases rest with
   |nil=>exact hnil rfl
   |cons a r=>exact(W.one a (R5.mem a (ah ..))).1 z
  rw[decide_eq_false e1]
  have fail:∀{H':Hp},jJ rest rows names roots=none->K2 p rl H5 H'->E (.ref T.a_BadText) none H':=fun{H'} z k=>by
   refine qe ?_ H' (om np0 nr0 S5 k)
   rw[ra,heq,z]
  refine kE ⟨_,fun σ' H' z=>z,?_⟩
  refine⟨_,rfl,p,dx,_,rfl,hk5,iN _ _ _ _ (by simp),?_⟩
  refine tc1 ?_
  refine Aq R5 W rp1 (fun r1 H6 e6 R6 k6=>?_) (fun ne H6 k6=>fail (Ai hnil ne) k6)
  subst e6
  obtain⟨k6',hk6⟩:=R6.ob
  refine⟨_,rfl,p,dx,_,rfl,hk6,iN _ _ _ _ (by simp),?_⟩
  refine tc1 ?_
  refine Aq R6 W rp2 (fun r2 H7 e7 R7 k7=>?_) (fun ne H7 k7=>fail (Aj ne) (k6.trans k7))
  subst e7
  have kk7:=k6.trans k7
  have hN7:H7 nl=some (.lst (names.map V.str)):=kk7 _ _ hN5 pn rn
  obtain⟨k7',hk7⟩:=R7.ob
  refine⟨_,rfl,.inl ⟨rfl,_,SqL.of hN7⟩,_,rfl,p,dx,_,rfl,hk7,iN _ _ _ _ (by simp),?_⟩
  refine tn0 ?_
  refine EA R7 W (fun c r3 H8 e8 hc R8 k8=>?_) (fun hno H8 k8=>fail (Ak hno) (kk7.trans k8))
  subst e8
  have kk8:=kk7.trans k8
  have hN8:H8 nl=some (.lst (names.map V.str)):=kk8 _ _ hN5 pn rn
  have hT8:H8 tl=some (.lst rtv):=kk8 _ _ hT5 pt rt
  simp only[aA]at hlen
  refine⟨nl,_,_,rfl,rfl,hN8,(by rw[aD];lia),?_⟩
  have R9:=R8.other (o:= .lst (names.map V.str++[.str c])) hN8 pn wn rn
  have S8:=om np0 nr0 S5 kk8
  have S9:gT H (upd H8 nl (.lst (names.map V.str++[.str c]))):=rm _ nn0 S8
  have hT9:upd H8 nl (.lst (names.map V.str++[.str c])) tl=some (.lst rtv):=by rw[gM (Ne.symm ntn)];exact hT8
  have ht9:=(R5.tats kk8 ht5).other (o:= .lst (names.map V.str++[.str c])) hN8
  obtain⟨k9',hk9⟩:=R9.ob
  refine⟨_,rfl,.inl ⟨rfl,_,SqL.of hT9⟩,_,rfl,p,dx,_,rfl,hk9,iN _ _ _ _ (by simp),?_⟩
  refine tc1 ?_
  refine⟨p,dx,wl,rl,ws,r3,rows,rfl,R9,W,hrows,fun r4 rows4 H10 e10 R10 k10=>?_,fun e10 H10 k10=>?_⟩
  ·have hN10:H10 nl=some (.lst (names.map V.str++[.str c])):=k10 _ _ gE pn rn
   have hT10:H10 tl=some (.lst rtv):=k10 _ _ hT9 pt rt
   have S10:=om np0 nr0 S9 k10
   obtain⟨st,lt,_⟩:=jw 24 _ _ _ e10
   refine⟨tl,_,_,rfl,rfl,hT10,(by lia),?_⟩
   have R11:=R10.other (o:= .lst (rtv++[.int (rows.length:Int)])) hT10 pt wt rt
   have ht11:=((R9.tats k10 ht9).snoc (.flat (v:= .int (rows.length:Int)) rfl)).other (o:= .lst (rtv++[.int (rows.length:Int)])) hT10
   have hN11:upd H10 tl (.lst (rtv++[.int (rows.length:Int)])) nl=some (.lst (names.map V.str++[.str c])):=by rw[gM ntn];exact hN10
   have S11:gT H (upd H10 tl (.lst (rtv++[.int (rows.length:Int)]))):=rm _ nt0 S10
   obtain⟨k11',hk11⟩:=R11.ob
   refine⟨_,rfl,p,dx,_,rfl,hk11,iN _ _ _ _ (by simp),?_⟩
   refine tc1 ?_
   refine Aq R11 W rp3 (fun r5 H12 e12 R12 k12=>?_) (fun ne H12 k12=>?_)
   ·subst e12
    have lt':r5.length+ 1<r3.length:=lt
    refine⟨r5.length,(by simp only[aA];lia),names++[c],roots++[.flat (.int (rows.length:Int))],_,r5,rows4,rfl,rfl,R12,om np0 nr0 S11 k12,?_,k12 _ _ gE pt rt,R11.tats k12 ht11,?_,?_,st.most hrows,?_⟩
    ·rw[bh]
     exact k12 _ _ hN11 pn rn
    ·rw[aO]
     show names.length+ 1+_<=_
     lia
    ·rw[aO,aO,hlr]
     rfl
    ·rw[heq,defs_yes hc e10]
   ·refine qe ?_ H12 (om np0 nr0 S11 k12)
    rw[ra,heq,Am hc e10 ne]
  ·refine qe ?_ H10 (om np0 nr0 S9 k10)
   rw[ra,heq,Al hc e10]
end K13.Internal
namespace K13.Internal
open PySem L2.Internal BO.Internal
seal L2.Internal.PE L2.Internal.PA L2.Internal.PS L2.Internal.PSs L2.Internal.PT L2.Internal.PI
theorem jc {H H2:Hp} {l:Addr} (s:gT H H2) (h:H l=none) (o:HO):gT H (upd H2 l o):=fun b u e=>by rw[gM (gL e h)];exact s b u e
theorem Ax {x:Str} {j:Int} (h0:0<=j) (h1:j<=x.length):(Txt.slice x none (some j)).cps.toList=x.cps.toList.take j.toNat:=by
 have e:Txt.slice x none (some j)=⟨((x.cps.toList.drop (0:Int).toNat).take (j-0).toNat).toArray⟩:=eq_of_beq (PyProof.Rows.slice_closes_to ⟨h0,h1⟩)
 rw[e]
 show((x.cps.toList.drop 0).take (j-0).toNat)=_
 rw[List.drop_zero,Int.sub_zero]
theorem yU {x:Str} {j:Int} (h0:0<=j) (h1:j<=x.length):(Txt.slice x (some j) none).cps.toList=x.cps.toList.drop j.toNat:=by
 have e:Txt.slice x (some j) none=⟨((x.cps.toList.drop j.toNat).take ((x.cps.toList.length:Int)-j).toNat).toArray⟩:=eq_of_beq (PyProof.Rows.slice_closes_from ⟨h0,h1⟩)
 rw[e]
 show((x.cps.toList.drop j.toNat).take ((x.cps.toList.length:Int)-j).toNat)=_
 rw[bZ]
 rw[aW]
 omega
theorem G8:("abcdefghijklmnopqrstuvwxyz0123456789":Str).cps.toList.length=36:=by decide+kernel
theorem j3 (c:Nat):(⟨#[c]⟩:Str).length=1:=rfl
def sgn (k:Nat):Nat:=("abcdefghijklmnop":Str).cps.toList.getD k 0
def w1 (A B:Str) (k:Nat):Str:=A++⟨#[sgn k]⟩++B
def t7 (z:Int):Nat:=(atI ("t7":Str).cps.toList z).getD 0
def w2 (x:Str) (k:Nat):Str:=x++⟨#[t7 ((0+(k:Int))%2)]⟩++⟨#[t7 ((0+(k:Int))/2%2)]⟩++⟨#[t7 ((0+(k:Int))/4%2)]⟩++⟨#[t7 ((0+(k:Int))/8)]⟩
def w3 (x:Str) (c:Nat) (k:Nat):Str:=if 7<k then(⟨#[c]⟩:Str)++Txt.slice (Txt.slice x none (some (5+(0+(k:Int))%8))) (some 1) none else Txt.slice x none (some (5+(0+(k:Int))%8))
theorem yV {l:List Nat} {i:Nat} (h:i<l.length):atI l (0+(i:Int))=some (l.getD i 0):=by
 rw[Int.zero_add,bo,bx h]
 exact gN (bx h)
theorem jP (a b:Str):(a++b).cps.toList=a.cps.toList++b.cps.toList:=gb
theorem CJ:∀c∈("abcdefghijklmnopqrstuvwxyz0123456789":Str).cps.toList,c∈(GR.Internal.SM++GR.Internal.FG).cps.toList:=by decide+kernel
theorem Bb:∀c∈GR.Internal.SM.cps.toList,c∈(GR.Internal.SM++GR.Internal.FG).cps.toList:=by decide+kernel
theorem CK:∀i:Nat,i<26->("abcdefghijklmnopqrstuvwxyz0123456789":Str).cps.toList.getD i 0∈GR.Internal.SM.cps.toList:=by decide+kernel
def Nms (x:Str):Prop:=(∃c r,x.cps.toList=c::r/\c∈GR.Internal.SM.cps.toList)/\∀c∈x.cps.toList,c∈(GR.Internal.SM++GR.Internal.FG).cps.toList
theorem EC:∀v∈GR.Internal.KWV,∃s:Str,v= .str s/\s.length<=4:=fun v hv=>by
 unfold GR.Internal.KWV at hv
 simp only[aj,bB,or_false]at hv
 rcases hv with rfl|rfl|rfl|rfl|rfl|rfl|rfl|rfl|rfl|rfl|rfl|rfl|rfl|rfl|rfl<;>exact⟨_,rfl,by decide+kernel⟩
theorem CL {w:Str} {l:List Nat} (e:w.cps.toList=l) (h5:5<=l.length) (h12:l.length<=12) (h0:∃c,l[0]?=some c/\c∈GR.Internal.SM.cps.toList) (ha:∀c∈l,c∈(GR.Internal.SM++GR.Internal.FG).cps.toList):GR.Internal.isName w=true:=by
 have hl:w.length=l.length:=by rw[<-e];rfl
 obtain⟨c,h0,hc⟩:=h0
 have f1:GR.Internal.firstIn w GR.Internal.SM=true:=by
  unfold GR.Internal.firstIn
  rw[e]
  cases l with
  |nil=>cases h0
  |cons d r=>cases h0;exact decide_eq_true hc
 have f2:GR.Internal.allIn w (GR.Internal.SM++GR.Internal.FG)=true:=bw.mpr fun c hc=>decide_eq_true (ha c (e▸hc))
 have hk:inV (.str w) GR.Internal.KWV=false:=by
  cases z:inV (.str w) GR.Internal.KWV with
  |false=>rfl
  |true=>
   unfold inV at z
   obtain⟨y,hy,q⟩:=bf.mp z
   obtain⟨s,rfl,hs⟩:=EC y hy
   have:s=w:=by simpa[eqV]using q
   rw[this]at hs
   omega
 unfold GR.Internal.isName
 rw[hl,decide_eq_true (by omega:1<=l.length),decide_eq_true h12,hk,f1,f2]
 rfl
theorem Bc:∀k,k<16->sgn k∈GR.Internal.SM.cps.toList:=by decide+kernel
theorem Gv:∀k:Nat,k<16->∀c∈[t7 ((0+(k:Int))%2),t7 ((0+(k:Int))/2%2),t7 ((0+(k:Int))/4%2),t7 ((0+(k:Int))/8)],c∈(GR.Internal.SM++GR.Internal.FG).cps.toList:=by decide+kernel
theorem pP {f:Nat->Str} (h:∀a,a<16->∀b,b<16->a≠b->f a≠f b):((aa 16).map f).Nodup:=by
 rw[List.Nodup,List.pairwise_map]
 refine List.Pairwise.imp_of_mem (fun{a b} ha hb hlt=>?_) b4
 exact h a (af.mp ha) b (af.mp hb) (cW hlt)
theorem ED:∀a,a<16->∀b,b<16->a≠b->sgn a≠sgn b:=by decide+kernel
theorem EE:∀a:Nat,a<16->∀b:Nat,b<16->a≠b->[t7 ((0+(a:Int))%2),t7 ((0+(a:Int))/2%2),t7 ((0+(a:Int))/4%2),t7 ((0+(a:Int))/8)]≠[t7 ((0+(b:Int))%2),t7 ((0+(b:Int))/2%2),t7 ((0+(b:Int))/4%2),t7 ((0+(b:Int))/8)]:=by decide+kernel
theorem Ay (A B:Str):((aa 16).map (w1 A B)).Nodup:=pP fun a ha b hb hn e=>by
 have h:=congrArg (fun z:Str=>z.cps.toList) e
 simp only[w1,jP]at h
 have h2:=b5 (List.append_cancel_right h)
 injection h2 with h3 _
 exact ED a ha b hb hn h3
theorem Az (x:Str):((aa 16).map (w2 x)).Nodup:=pP fun a ha b hb hn e=>by
 have h:=congrArg (fun z:Str=>z.cps.toList) e
 simp only[w2,jP,a8]at h
 have h2:=b5 h
 exact EE a ha b hb hn h2
theorem tM {x:Str} {c k:Nat} (hx:x.length=12):(w3 x c k).cps.toList=if 7<k then c::(x.cps.toList.take (5+k%8)).drop 1 else x.cps.toList.take (5+k%8):=by
 have e:(5+(0+(k:Int))%8)=((5+k%8:Nat):Int):=by omega
 have a1:(Txt.slice x none (some (5+(0+(k:Int))%8))).cps.toList=x.cps.toList.take (5+k%8):=by
  rw[e,Ax (by omega) (by omega),gf]
 unfold w3
 by_cases h:7<k
 ·rw[if_pos h,if_pos h,jP,yU (by decide) (by
   have hx':x.cps.toList.length=12:=hx
   show(1:Int)<=((Txt.slice x none (some (5+(0+(k:Int))%8))).cps.toList.length:Nat)
   rw[a1,aI,hx']
   omega),a1]
  rfl
 ·rw[if_neg h,if_neg h,a1]
theorem Be {x:Str} {c k:Nat} (hx:x.length=12):(w3 x c k).cps.toList.length=5+k%8:=by
 have hx':x.cps.toList.length=12:=hx
 rw[tM hx]
 by_cases h:7<k
 ·rw[if_pos h,aA,aW,aI,hx']
  omega
 ·rw[if_neg h,aI,hx']
  omega
theorem AA {x:Str} {c c0:Nat} (hx:x.length=12) (h0:x.cps.toList[0]?=some c0) (hc:c≠c0):((aa 16).map (w3 x c)).Nodup:=pP fun a ha b hb hn e=>by
 have h:=congrArg (fun z:Str=>z.cps.toList) e
 have hl:=congrArg List.length h
 simp only[Be hx]at hl
 have hd:=congrArg (fun z:List Nat=>z[0]?) h
 simp only[tM hx]at hd
 have t0:∀n:Nat,(x.cps.toList.take (5+n%8))[0]?=some c0:=fun n=>by
  rw[b6,if_pos (by omega)]
  exact h0
 by_cases h1:7<a
 ·by_cases h2:7<b
  ·omega
  ·rw[if_pos h1,if_neg h2,t0,b7]at hd
   exact hc (dB.inj hd)
 ·by_cases h2:7<b
  ·rw[if_neg h1,if_pos h2,t0,b7]at hd
   exact hc (dB.inj hd).symm
  ·omega
theorem xf {f:Nat->Str} (i:Nat):(aa (i+ 1)).map f=(aa i).map f++[f i]:=by
 rw[b8,bh]
 rfl
def Wd (H:Hp) (l:Addr) (ws:List Str):Prop:=H l=some (.lst (ws.map V.str))/\ws.length=16/\ws.Nodup/\∀x∈ws,GR.Internal.isName x=true
theorem Gw {j:Nat} {M n:Int} {σ:St} {H:Hp} {Q:Bool->Hp->Prop} (hv:σ[j]?=some (some (.int M))) (h:M=n) (q:Q true H):cT (tOp (cEq false) (cV j) (tC (.int n))) σ H Q:=by
 show onV σ[j]? _
 rw[hv]
 show Q (false ^^ decide (M=n)) H
 rw[decide_eq_true h]
 exact q
theorem Gx {j:Nat} {M n:Int} {σ:St} {H:Hp} {Q:Bool->Hp->Prop} (hv:σ[j]?=some (some (.int M))) (h:M≠n) (q:Q false H):cT (tOp (cEq false) (cV j) (tC (.int n))) σ H Q:=by
 show onV σ[j]? _
 rw[hv]
 show Q (false ^^ decide (M=n)) H
 rw[decide_eq_false h]
 exact q
theorem cTG {j:Nat} {M n:Int} {σ:St} {H:Hp} {Q:Bool->Hp->Prop} (hv:σ[j]?=some (some (.int M))) (q:Q (decide (n<M)) H):cT (tOp (cI0 fun i j=>V.bl (decide (j<i))) (cV j) (tC (.int n))) σ H Q:=by
 show onV σ[j]? _
 rw[hv]
 exact q
theorem EF {j:Nat} {M n:Int} {A B:TS} {D:nY} {σ:St} {H:Hp} (hv:σ[j]?=some (some (.int M))) (h:M=n) (q:A D σ H):we (cT (tOp (cEq false) (cV j) (tC (.int n)))) A B D σ H:=Gw hv h (kE q)
theorem EG {j:Nat} {M n:Int} {A B:TS} {D:nY} {σ:St} {H:Hp} (hv:σ[j]?=some (some (.int M))) (h:M≠n) (q:B D σ H):we (cT (tOp (cEq false) (cV j) (tC (.int n)))) A B D σ H:=Gx hv h (jO q)
theorem Gy {j:Nat} {M n:Int} {A B:TS} {D:nY} {σ:St} {H:Hp} (hv:σ[j]?=some (some (.int M))) (h:n<M) (q:A D σ H):we (cT (tOp (cI0 fun i j=>V.bl (decide (j<i))) (cV j) (tC (.int n)))) A B D σ H:=cTG hv (by rw[decide_eq_true h];exact kE q)
theorem Gz {j:Nat} {M n:Int} {A B:TS} {D:nY} {σ:St} {H:Hp} (hv:σ[j]?=some (some (.int M))) (h:¬n<M) (q:B D σ H):we (cT (tOp (cI0 fun i j=>V.bl (decide (j<i))) (cV j) (tC (.int n)))) A B D σ H:=cTG hv (by rw[decide_eq_false h];exact jO q)
theorem EH {j:Nat} {M n:Int} {A B u:TS} {D:nY} {σ:St} {H:Hp} (hv:σ[j]?=some (some (.int M))) (h:M=n) (q:A {D with nx:=u D} σ H):xk (we (cT (tOp (cEq false) (cV j) (tC (.int n)))) A B) u D σ H:=EF hv h q
theorem EI {j:Nat} {M n:Int} {A B u:TS} {D:nY} {σ:St} {H:Hp} (hv:σ[j]?=some (some (.int M))) (h:M≠n) (q:B {D with nx:=u D} σ H):xk (we (cT (tOp (cEq false) (cV j) (tC (.int n)))) A B) u D σ H:=EG hv h q
def tN:Sp:=fun vs H Q _=>∃(c:Int) (m:Nat),vs=[.int c,.int (m:Int)]/\1<=m/\m<=100/\∀x:Str,x.length=m->Nms x->Q (.str x) H
theorem tO (T:Txt K mg):iK P w K mg base CX0 1 T.a_stem T.fd_stem ["_law_cell","_law_size"] tN:=by
 refine T.F_stem.ok j5 (fun vs H Q E h=>?_) (fun cdv A outer s H vs Q E hr h=>?_)
 ·obtain⟨c,m,rfl,_⟩:=h
  rfl
 obtain⟨c,m,rfl,h0,h1,q⟩:=h
 refine⟨_,(gC (gR (i:=2) j5.nd rfl (.inl rfl) gP)
  (gC (gR (i:=3) j5.nd rfl (.inl rfl) (hU nL (cv 2) (gY j4 (cv 0) gH) (fun _ _=>rfl)))
  (gC (lU PassesOwn.never rfl (nE rfl T.z_range (gB (gY qC (cv 1) gH) gG)) (jt (i:=4) j5.nd rfl (.inl rfl))
   (gC (gR (i:=0) j5.nd rfl (.inl rfl) (gY l6 (cv 0) gH))
   (gK (gR (i:=3) j5.nd rfl (.inl rfl) (gY iQ (cv 3) (hU nL (cv 2) (gY j4 (cv 0) gH) (fun _ _=>rfl)))))))
  (gK (hV (cv 3)))))),?_⟩
 have sl:sizeLine=16777216:=sizeLine_eq
 have step:∀(c n:Int),(n=26\/n=36)->∃ch:Nat,atI ("abcdefghijklmnopqrstuvwxyz0123456789":Str).cps.toList (c%n)=some ch/\ch∈(GR.Internal.SM++GR.Internal.FG).cps.toList/\(n=26->ch∈GR.Internal.SM.cps.toList):=fun c n hn=>by
  have hp:(0:Int)<n:=by omega
  have a0:=gj c (Int.ne_of_gt hp)
  have a1:=gm c hp
  obtain⟨ch,e,mm⟩:=A8 ("abcdefghijklmnopqrstuvwxyz0123456789":Str).cps.toList (c%n) a0 (by rw[G8];omega)
  refine⟨ch,e,CJ _ mm,fun z=>?_⟩
  have h26:=CK (c%n).toNat (by omega)
  have e2:=yV (l:=("abcdefghijklmnopqrstuvwxyz0123456789":Str).cps.toList) (i:=(c%n).toNat) (by rw[G8];omega)
  rw[show(0:Int)+((c%n).toNat:Int)=c%n by omega,e]at e2
  rw[dB.inj e2]
  exact h26
 obtain⟨ch,e,mm,m26⟩:=step c 26 (.inl rfl)
 refine⟨(by show(0:Int)<26;decide),sz (by decide+kernel),gO e ⟨_,rfl,by omega,by omega,sq (fun i σ H2=>∃(y:Str) (c:Int) (o:Option V),σ=[some (.int c),some (.int (m:Int)),some (.str "abcdefghijklmnopqrstuvwxyz0123456789"),some (.str y),o]/\H2=H/\y.length=i+ 1/\Nms y)
  ⟨_,c,none,rfl,rfl,rfl,⟨ch,[],rfl,m26 rfl⟩,fun d hd=>by rw[bg.mp hd];exact mm⟩ ?_ ?_⟩⟩
 ·rintro i σ H2 hi ⟨y,c,o,rfl,rfl,hy,⟨d,r,hd,hd'⟩,hz⟩
  obtain⟨ch,e,mm,_⟩:=step (c/36) 36 (.inr rfl)
  exact⟨⟨by decide,by decide⟩,(by show(0:Int)<36;decide),sz (by decide+kernel),gO e ⟨by rw[j3];omega,_,_,_,rfl,rfl,by rw[Str.length_append,j3];omega,⟨d,r++[ch],by rw[jP,hd];rfl,hd'⟩,fun c hc=>by
   rw[jP]at hc
   rcases ao.mp hc with hc|hc
   ·exact hz c hc
   ·rw[bg.mp hc];exact mm⟩⟩
 ·rintro σ H2 ⟨y,c,o,rfl,rfl,hy,hz⟩
  exact q y (by omega) hz
def rH:Sp:=fun vs H Q _=>∃c:Int,vs=[.int c]/\∀l ws H',gT H H'->H l=none->Wd H' l ws->Q (.ref l) H'
theorem rJ (T:Txt K mg):iK P w K mg base CX0 2 T.a_words T.fd_words ["_law_cell"] rH:=by
 have G_stem:=tO (P:=P) (w:=w) (base:=base) T
 refine T.F_words.ok ig (fun vs H Q E h=>?_) (fun cdv A outer s H vs Q E hr h=>?_)
 ·obtain⟨c,rfl,_⟩:=h
  rfl
 obtain⟨c,rfl,q⟩:=h
 refine⟨_,(gC (gR (i:=0) ig.nd rfl (.inl rfl) (gY j4 (gY Ed (gY jf (gY j4 (cv 0) (gY sX gH gH)) gH) gH) (gY jf (gY sX gH gH) gH)))
  (gC (gR (i:=1) ig.nd rfl (.inl rfl) (gY jf (gY j4 (cv 0) gH) gH))
  (gC (gR (i:=2) ig.nd rfl (.inl rfl) (gY j4 (gY l6 (cv 0) gH) gH))
  (gC (gR (i:=3) ig.nd rfl (.inl rfl) (ia G_stem (hr.mono (by decide)) rfl T.m_stem T.k_stem T.b_stem .nil iX (gB (gY l6 (cv 0) gH) (gB gH gG))))
  (gC (gR (i:=4) ig.nd rfl (.inl rfl) (gY j4 (gY l6 (cv 0) gH) (gY jf (cv 1) gH)))
  (gC (gR (i:=5) ig.nd rfl (.inl rfl) (iL gG))
  (gC (lU PassesOwn.never rfl (nE rfl T.z_range (gB gH gG)) (jt (i:=6) ig.nd rfl (.inl rfl))
   (gC (gR (i:=7) ig.nd rfl (.inl rfl) (kC qw (cv 3) lZ (kW (cv 1))))
   (gC (iU (ie og (cv 2) gH (ic _))
    (gK (gR (i:=7) ig.nd rfl (.inl rfl) (gY iQ (gY iQ (kC qw (cv 7) lZ (kW (cv 4))) (hU nL gP (cv 6) (fun _ _=>rfl))) (kC qw (cv 7) (kW (cv 4)) lZ))))
    (gK (iU (ie og (cv 2) gH (ic _))
     (gC (gR (i:=7) ig.nd rfl (.inl rfl) (gY iQ (gY iQ (kC qw (cv 7) lZ (kW (gY qC (cv 1) gH))) (hU nL gP (gY j4 (cv 6) gH) (fun _ _=>rfl))) (hU nL gP (gY j4 (gY l6 (cv 6) gH) gH) (fun _ _=>rfl))))
     (gK (gR (i:=7) ig.nd rfl (.inl rfl) (gY iQ (gY iQ (cv 7) (hU nL gP (gY j4 (gY l6 (cv 6) gH) gH) (fun _ _=>rfl))) (hU nL gP (gY l6 (cv 6) gH) (fun _ _=>rfl))))))
     (gC (gR (i:=7) ig.nd rfl (.inl rfl) (kC qw (cv 3) lZ (kW (gY jf gH (gY j4 (cv 6) gH)))))
     (gK (iU (ie ph (cv 6) gH (ic _))
      (gK (gR (i:=7) ig.nd rfl (.inl rfl) (gY iQ (hU nL gP (kG xK rfl T.z_int vp (gB (lX og (hU nL (cv 3) gH (fun _ _=>rfl)) gP (ic _)) gG)) (fun _ _=>rfl)) (kC qw (cv 7) (kW gH) lZ))))
      ib))))))
   (gK (iu (mq (lK fD fE fF iD (PE.mono (cv 5)) (gB (PE.mono (cv 7)) gG))))))))
  (gK (hV (cv 5)))))))))),?_⟩
 have sl:sizeLine=16777216:=sizeLine_eq
 refine⟨⟨by decide,by decide,by decide⟩,(by show(0:Int)<10^(24:Int).toNat;decide+kernel),.inr ⟨by decide,by decide⟩,⟨by decide,by decide,by decide⟩,(by show(0:Int)<10^(24:Int).toNat+ 7;decide+kernel),?_⟩
 dsimp only[iW]
 generalize(c%10^(24:Int).toNat+ 5)*7046029254386353131%(10^(24:Int).toNat+ 7)=c
 refine⟨(by show(0:Int)<8;decide),⟨by decide,by decide⟩,(by show(0:Int)<3;decide),⟨by decide,by decide⟩,_,12,rfl,by decide,by decide,fun x hx nx=>⟨⟨by decide,by decide⟩,?_⟩⟩
 have s0:=gj c (show(8:Int)≠0 by decide)
 have s1:=gm c (show(0:Int)<8 by decide)
 have hxl:x.cps.toList.length=12:=hx
 obtain⟨c0,hc0⟩:∃c0,x.cps.toList[0]?=some c0:=⟨_,bx (by omega)⟩
 refine⟨(by show(0:Int)<c%8+ 4+ 1;omega),(by show 0<=sizeLine;decide),fun l hl=>?_⟩
 have S1:gT H (upd H l (.lst [])):=gJ hl _
 have e1:(upd H l (.lst [])) l=some (.lst []):=gE
 dsimp only[iW]
 generalize upd H l (.lst [])=H1 at S1 e1⊢
 obtain⟨sz_,hsz⟩:∃z,z=c%8+ 4:=⟨_,rfl⟩
 obtain⟨at_,hat⟩:∃z,z=c/24%(c%8+ 4+ 1):=⟨_,rfl⟩
 obtain⟨M,hM⟩:∃z,z=c/8%3:=⟨_,rfl⟩
 rw[<-hat,<-hsz,<-hM]
 obtain⟨cc,hcc,hne,ccs⟩:∃cc:Nat,atI ("ab":Str).cps.toList (if(false ^^ decide ((⟨#[c0]⟩:Str)=("a":Str)))=true then 1 else 0)=some cc/\cc≠c0/\cc∈GR.Internal.SM.cps.toList:=by
  by_cases z:(⟨#[c0]⟩:Str)=("a":Str)
  ·rw[decide_eq_true z]
   refine⟨98,by decide+kernel,fun w=>?_,by decide+kernel⟩
   rw[<-w]at z
   exact absurd z (by decide+kernel)
  ·rw[decide_eq_false z]
   refine⟨97,by decide+kernel,fun w=>z ?_,by decide+kernel⟩
   rw[<-w]
   decide+kernel
 let f:Nat->Str:=if M=0 then w1 (Txt.slice (Txt.slice x none (some sz_)) none (some at_)) (Txt.slice (Txt.slice x none (some sz_)) (some at_) none)else if M=1 then w2 (Txt.slice (Txt.slice x none (some sz_)) none (some (sz_-3)))else w3 x cc
 have lb0:=Txt.slice_le x none (some sz_)
 have lb1:=Txt.slice_le (Txt.slice x none (some sz_)) none (some at_)
 have lb2:=Txt.slice_le (Txt.slice x none (some sz_)) (some at_) none
 have lb3:=Txt.slice_le (Txt.slice x none (some sz_)) none (some (sz_-3))
 have fnd:((aa 16).map f).Nodup:=by
  show((aa 16).map (if M=0 then _ else if M=1 then _ else _)).Nodup
  by_cases h:M=0
  ·rw[if_pos h];exact Ay _ _
  ·rw[if_neg h]
   by_cases h':M=1
   ·rw[if_pos h'];exact Az _
   ·rw[if_neg h'];exact AA hx hc0 hne
 have a0:0<=at_:=by rw[hat];exact gj _ (by omega)
 have a1:at_<c%8+ 4+ 1:=by rw[hat];exact gm _ (by omega)
 have xz:(Txt.slice x none (some sz_)).cps.toList=x.cps.toList.take sz_.toNat:=Ax (by omega) (by rw[hx];omega)
 have xl:(Txt.slice x none (some sz_)).length=sz_.toNat:=by
  show(Txt.slice x none (some sz_)).cps.toList.length=_
  rw[xz,aI]
  omega
 have xa:=Ax (x:=Txt.slice x none (some sz_)) a0 (by rw[xl];omega)
 have xb:=yU (x:=Txt.slice x none (some sz_)) a0 (by rw[xl];omega)
 have xc:=Ax (x:=Txt.slice x none (some sz_)) (j:=sz_-3) (by omega) (by rw[xl];omega)
 rw[xz]at xa xb xc
 have x0s:c0∈GR.Internal.SM.cps.toList:=by
  obtain⟨⟨d,r,hd,hd'⟩,_⟩:=nx
  rw[hd]at hc0
  cases hc0
  exact hd'
 have xin:=nx.2
 have fnm:∀k,k<16->GR.Internal.isName (f k)=true:=fun k hk=>by
  show GR.Internal.isName ((if M=0 then _ else if M=1 then _ else _:Nat->Str) k)=true
  by_cases h:M=0
  ·rw[if_pos h]
   refine CL (l:=(x.cps.toList.take sz_.toNat).take at_.toNat++[sgn k]++(x.cps.toList.take sz_.toNat).drop at_.toNat) (by rw[w1,jP,jP,xa,xb]) ?_ ?_ ?_ ?_
   ·rw[aO,aO,a9,aI,aW,aI];omega
   ·rw[aO,aO,a9,aI,aW,aI];omega
   ·by_cases z:at_.toNat=0
    ·rw[z];exact⟨sgn k,rfl,Bc k hk⟩
    ·refine⟨c0,?_,x0s⟩
     rw[a8,aK (by rw[aI,aI];omega),b6,if_pos (by omega),b6,if_pos (by omega)]
     exact hc0
   ·intro d hd
    rcases ao.mp hd with hd|hd
    ·rcases ao.mp hd with hd|hd
     ·exact xin d (b9 (b9 hd))
     ·rw[bg.mp hd];exact Bb _ (Bc k hk)
    ·exact xin d (b9 (bP hd))
  ·rw[if_neg h]
   by_cases h':M=1
   ·rw[if_pos h']
    refine CL (l:=(x.cps.toList.take sz_.toNat).take (sz_-3).toNat++[t7 ((0+(k:Int))%2),t7 ((0+(k:Int))/2%2),t7 ((0+(k:Int))/4%2),t7 ((0+(k:Int))/8)]) (by rw[w2,jP,jP,jP,jP,xc,a8,a8,a8];rfl) ?_ ?_ ?_ ?_
    ·rw[aO,aI,aI];show 5<=_+ 4;omega
    ·rw[aO,aI,aI];show _+ 4<=12;omega
    ·refine⟨c0,?_,x0s⟩
     rw[aK (by rw[aI,aI];omega),b6,if_pos (by omega),b6,if_pos (by omega)]
     exact hc0
    ·intro d hd
     rcases ao.mp hd with hd|hd
     ·exact xin d (b9 (b9 hd))
     ·exact Gv k hk d hd
   ·rw[if_neg h']
    have l3:=Be (c:=cc) (k:=k) hx
    refine CL (tM hx) (by rw[<-tM hx,l3];omega) (by rw[<-tM hx,l3];omega) ?_ ?_
    ·by_cases h7:7<k
     ·rw[if_pos h7];exact⟨cc,rfl,ccs⟩
     ·rw[if_neg h7]
      exact⟨c0,by rw[b6,if_pos (by omega)];exact hc0,x0s⟩
    ·intro d hd
     by_cases h7:7<k
     ·rw[if_pos h7]at hd
      rcases aj.mp hd with rfl|hd
      ·exact Bb _ ccs
      ·exact xin d (b9 (bP hd))
     ·rw[if_neg h7]at hd
      exact xin d (b9 hd)
 refine⟨16,rfl,by decide,by decide,sq (fun i σ H2=>∃(o6 o7:Option V),σ=[some (.int c),some (.int sz_),some (.int M),some (.str x),some (.int at_),some (.ref l),o6,o7]/\gT H H2/\H2 l=some (.lst (((aa i).map f).map V.str)))
  ⟨none,none,rfl,S1,e1⟩ ?_ ?_⟩
 ·rintro i σ H2 hi ⟨o6,o7,rfl,S,e⟩
  have hi16:i<16:=hi
  have ap:∀wd:Str,wd=f i->(∃xs,H2 l=some (.lst xs))/\∃xs,H2 l=some (.lst xs)/\xs.length<sizeLine/\∃(o6 o7:Option V),[some (V.int c),some (.int sz_),some (.int M),some (.str x),some (.int at_),some (.ref l),some (.int (0+(i:Int))),some (.str wd)]=[some (V.int c),some (.int sz_),some (.int M),some (.str x),some (.int at_),some (.ref l),o6,o7]/\gT H (upd H2 l (.lst (xs++[.str wd])))/\(upd H2 l (.lst (xs++[.str wd]))) l=some (.lst (((aa (i+ 1)).map f).map V.str)):=fun wd hw=>by
   refine⟨⟨_,e⟩,_,e,by rw[aD,aD,cb];omega,_,_,rfl,jc S hl _,?_⟩
   rw[gE,xf,bh,hw]
   rfl
  refine⟨sz_,rfl,x,rfl,by omega,?_⟩
  dsimp only[iW]
  by_cases h:M=0
  ·have hf:f i=w1 (Txt.slice (Txt.slice x none (some sz_)) none (some at_)) (Txt.slice (Txt.slice x none (some sz_)) (some at_) none) i:=by
    show(if M=0 then _ else if M=1 then _ else _:Nat->Str) i=_
    rw[if_pos h]
   have e2:=yV (l:=("abcdefghijklmnop":Str).cps.toList) (i:=i) (by rw[show("abcdefghijklmnop":Str).cps.toList.length=16 by decide+kernel];omega)
   refine EH rfl h ⟨at_,rfl,_,rfl,by omega,sz (by decide+kernel),gO e2 ⟨by rw[j3];omega,at_,rfl,_,rfl,by omega,by rw[Str.length_append,j3];omega,?_⟩⟩
   exact ap _ hf.symm
  ·refine EI rfl h ?_
   by_cases h':M=1
   ·have hf:f i=w2 (Txt.slice (Txt.slice x none (some sz_)) none (some (sz_-3))) i:=by
     show(if M=0 then _ else if M=1 then _ else _:Nat->Str) i=_
     rw[if_neg h,if_pos h']
    have tt:∀z:Int,0<=z->z<2->atI ("t7":Str).cps.toList z=some (t7 z):=fun z z0 z1=>by
     obtain⟨ch,e1,_⟩:=A8 ("t7":Str).cps.toList z z0 (by rw[show("t7":Str).cps.toList.length=2 by decide+kernel];exact z1)
     rw[t7,e1]
     rfl
    have a1:=tt ((0+(i:Int))%2) (by omega) (by omega)
    have a2:=tt ((0+(i:Int))/2%2) (by omega) (by omega)
    have a3:=tt ((0+(i:Int))/4%2) (by omega) (by omega)
    have a4:=tt ((0+(i:Int))/8) (by omega) (by omega)
    have p2:(0:Int)<2:=by decide
    have z7:("t7":Str).length<=sizeLine:=sz (by decide+kernel)
    refine EF rfl h' ⟨sz_-3,rfl,_,rfl,by omega,p2,z7,gO a1 ⟨by rw[j3];omega,⟨by decide,by decide⟩,p2,z7,gO a2 ⟨by rw[Str.length_append,j3,j3];omega,⟨by decide,by decide⟩,p2,z7,gO a3 ⟨by rw[Str.length_append,Str.length_append,j3,j3,j3];omega,⟨by decide,by decide⟩,z7,gO a4 ⟨by rw[Str.length_append,Str.length_append,Str.length_append,j3,j3,j3,j3];omega,?_⟩⟩⟩⟩⟩
    exact ap _ hf.symm
   ·have hf:f i=w3 x cc i:=by
     show(if M=0 then _ else if M=1 then _ else _:Nat->Str) i=_
     rw[if_neg h,if_neg h']
    have lb4:=Txt.slice_le x none (some (5+(0+(i:Int))%8))
    have lb5:=Txt.slice_le (Txt.slice x none (some (5+(0+(i:Int))%8))) (some 1) none
    refine EG rfl h' ⟨(by show(0:Int)<8;decide),5+(0+(i:Int))%8,rfl,x,rfl,by omega,?_⟩
    dsimp only[iW]
    by_cases h7:7<i
    ·refine Gy rfl (show(7:Int)<0+(i:Int) by omega) ⟨by omega,gO (gN hc0) (.inr ⟨_,rfl,sz (by decide+kernel),gO hcc ⟨1,rfl,_,rfl,by omega,by rw[j3];omega,?_⟩⟩)⟩
     exact ap _ (by rw[hf,w3,if_pos h7])
    ·exact Gz rfl (show ¬(7:Int)<0+(i:Int) by omega) (ap _ (by rw[hf,w3,if_neg h7]))
 ·rintro σ H2 ⟨o6,o7,rfl,S,e⟩
  exact q l _ H2 S hl ⟨e,by rw[aD,cb];rfl,fnd,fun y hy=>by obtain⟨k,hk,rfl⟩:=bb.mp hy;exact fnm k (af.mp hk)⟩
abbrev Hm:=Str×Int
def hmD (h:Hm):Dt:= .tup [.flat (.str h.1),.flat (.int h.2)]
def Sc (H:Hp) (a:Addr) (g:Str->Option Hm) (n:Nat):Prop:=∃kvs:List (Key×V),H a=some (.dK kvs)/\kvs.length<=n/\∀w:Str,match g w with
 |none=>jL kvs (.inr w)=none
 |some h=>∃t,jL kvs (.inr w)=some (.ref t)/\H t=some (.tup [.str h.1,.int h.2])
theorem Sc.same {H H':Hp} {a:Addr} {g:Str->Option Hm} {n:Nat} (h:Sc H a g n) (s:gT H H'):Sc H' a g n:=by
 obtain⟨kvs,e,l,h⟩:=h
 refine⟨kvs,s _ _ e,l,fun w=>?_⟩
 have:=h w
 cases hg:g w with
 |none=>rw[hg]at this;exact this
 |some z=>
  rw[hg]at this
  obtain⟨t,h1,h2⟩:=this
  exact⟨t,h1,s _ _ h2⟩
def wid (g:Str->Option Hm) (x:Str) (h:Hm):Str->Option Hm:=fun w=>if w=x then some h else g w
def xg:Sp:=fun vs H Q _=>∃(a t:Addr) (g:Str->Option Hm) (n:Nat) (x:Str) (h:Hm),vs=[.ref a,.str x,.ref t]/\Sc H a g n/\n<10000/\H t=some (.tup [.str h.1,.int h.2])/\∀b H',gT H H'->H b=none->Sc H' b (wid g x h) (n+ 1)->Q (.ref b) H'
theorem qJ (T:Txt K mg):iK P w K mg base CX0 1 T.a_widened T.fd_widened ["scope","name","home"] xg:=by
 refine T.F_widened.ok qI (fun vs H Q E h=>?_) (fun cdv A outer s H vs Q E hr h=>?_)
 ·obtain⟨a,t,g,n,x,h,rfl,_⟩:=h
  rfl
 have hu:=wF hr
 obtain⟨a,t,g,n,x,h,rfl,⟨kvs,e,l,hk⟩,hn,et,q⟩:=h
 refine⟨_,(gC (gR (i:=3) qI.nd rfl (.inl rfl) (kG wK rfl T.z_dict BY (gB (cv 0) gG)))
  (gC (m7 hu (cv 3) (cv 1) (cv 2) rfl)
  (gK (hV (cv 3))))),?_⟩
 have sl:sizeLine=16777216:=sizeLine_eq
 refine⟨a,kvs,rfl,e,fun b hb=>?_⟩
 have s1:=gJ hb (.dK kvs)
 have eb:(upd H b (.dK kvs)) b=some (.dK kvs):=gE
 dsimp only[iW]
 refine⟨b,_,rfl,xn.k (k:=Sum.inr x) eb (by lia),?_⟩
 have tk:∀{y:Addr} {xs:List V},H y=some (.tup xs)->(upd (upd H b (.dK kvs)) b (.dK (nz kvs (Sum.inr x) (.ref t)))) y=some (.tup xs):=fun{y xs} ey=>by rw[gM (kU (s1 _ _ ey) eb (fun h=>nomatch h))];exact s1 _ _ ey
 refine q b _ (jc s1 hb _) hb ⟨_,gE,cX (i0 _ _ _) (by lia),fun w=>?_⟩
 unfold wid
 by_cases hw:w=x
 ·rw[if_pos hw]
  exact⟨t,by rw[jb,if_pos (by rw[hw])],tk et⟩
 ·rw[if_neg hw]
  have hh:=hk w
  have hv:jL (nz kvs (Sum.inr x) (.ref t)) (.inr w)=jL kvs (.inr w):=by rw[jb,if_neg (fun z=>hw (by injection z))]
  cases hg:g w with
  |none=>rw[hg]at hh;exact hv.trans hh
  |some z=>
   rw[hg]at hh
   obtain⟨t',h1,h2⟩:=hh
   exact⟨t',hv.trans h1,tk h2⟩
def pQ:Sp:=fun vs H Q _=>∃(a:Addr) (ws:List Str),vs=[.ref a]/\H a=some (.lst (ws.map V.str))/\ws.Nodup/\ws.length<=10000/\∀H',gT H H'->Q .non H'
theorem pR (T:Txt K mg):iK P w K mg base CX0 1 T.a_refuse_twice T.fd_refuse_twice ["words"] pQ:=by
 refine T.F_refuse_twice.ok lB (fun vs H Q E h=>?_) (fun cdv A outer s H vs Q E hr h=>?_)
 ·obtain⟨a,ws,rfl,_⟩:=h
  rfl
 have hu:=wF hr
 obtain⟨a,ws,rfl,e,nd,hl,q⟩:=h
 refine⟨_,(gC (gR (i:=1) lB.nd rfl (.inl rfl) oF)
  (gK (lU PassesOwn.never rfl (jR (cv 0)) (jt (i:=2) lB.nd rfl (.inl rfl))
   (gC (iU (sf (DR hu (cv 2) (cv 1)) rfl)
    (gK vh)
    ib)
   (gK (m7 hu (cv 1) (cv 2) uf rfl)))))),?_⟩
 have sl:sizeLine=16777216:=sizeLine_eq
 intro d hd
 have s1:=gJ hd (.dK [])
 have ed:(upd H d (.dK [])) d=some (.dK []):=gE
 dsimp only[iW]
 generalize upd H d (.dK [])=H1 at s1 ed⊢
 refine⟨a,rfl,⟨_,SqL.of (s1 _ _ e)⟩,nF (xs:=ws.map V.str) (fun i σ H2=>∃(o:Option V) (kvs:List (Key×V)),σ=[some (.ref a),some (.ref d),o]/\gT H H2/\H2 d=some (.dK kvs)/\kvs.length<=i/\∀w:Str,w∉ws.take i->jL kvs (.inr w)=none)
  ⟨none,[],rfl,s1,ed,c8 _,fun _ _=>rfl⟩ (fun i σ H2 _ ⟨_,_,_,S,_⟩=>SqL.of (S _ _ e)) ?_ ?_⟩
 ·rintro i v σ H2 hv ⟨o,kvs,rfl,S,ek,hk,hn⟩
  have hi:=(au.mp hv).1
  rw[aD]at hi
  rw[aM]at hv
  obtain⟨x,hx⟩:∃x,ws[i]?=some x:=⟨_,bx hi⟩
  rw[hx]at hv
  cases hv
  have hxn:x∉ws.take i:=fun hm=>by
   have h1:(ws.take i++ws.drop i).Nodup:=by rw[cf];exact nd
   rw[List.nodup_append]at h1
   obtain⟨z1,z2⟩:=au.mp hx
   exact h1.2.2 _ hm _ (by rw[bO z1,z2];simp) rfl
  have g:=xm.k (k:=(Sum.inr x:Key)) ek
  rw[hn x hxn]at g
  refine⟨d,none,rfl,g,_,rfl,jO ?_⟩
  refine⟨d,_,rfl,xn.k (k:=Sum.inr x) ek (by lia),_,_,rfl,jc S hd _,gE,cX (i0 _ _ _) (by lia),fun w hw=>?_⟩
  rw[jb]
  rw[bJ,hx]at hw
  have h1:w≠x:=fun z=>hw (by simp[z])
  rw[if_neg (fun z=>h1 (by injection z))]
  exact hn w fun z=>hw (aq _ z)
 ·rintro σ H2 ⟨o,kvs,rfl,S,_⟩
  exact q H2 S
def qK:Sp:=fun vs H Q _=>∃(t a:Addr) (k:Int) (g:Str->Option Hm) (n:Nat) (s:Str) (r:List V),vs=[.ref t,.int k,.ref a]/\H t=some (.tup (.str s::r))/\Sc H a g n/\(s≠"name"->Q .non H)/\(s="name"->∃(x:Str) (h:Hm),r=[.str x]/\g x=some h/\∀p,H p=some (.tup [.str h.1,.int h.2])->Q (.ref p) H)
theorem xh (T:Txt K mg):iK P w K mg base CX0 1 T.a_home_of T.fd_home_of ["row","place","scope"] qK:=by
 refine T.F_home_of.ok wX (fun vs H Q E h=>?_) (fun cdv A outer s H vs Q E hr h=>?_)
 ·obtain⟨t,a,k,g,n,s,r,rfl,_⟩:=h
  rfl
 have hu:=wF hr
 obtain⟨t,a,k,g,n,s',r,rfl,et,⟨kvs,e,l,hk⟩,q1,q2⟩:=h
 refine⟨_,(gC (iU (ie Ee (hU iY (cv 0) gH (fun _ _=>rfl)) gP (ic _))
   (gK (hV ve))
   ib)
  (gC (iU (sf (xZ hu (hU iY (cv 0) gH (fun _ _=>rfl)) (cv 2)) rfl)
   (gK vh)
   ib)
  (gK (hV (xY hu (cv 2) (hU iY (cv 0) gH (fun _ _=>rfl)) (fun _ _=>rfl)))))),?_⟩
 refine⟨_,et,gO (gN (j:=0) rfl) ?_⟩
 dsimp only[tC,cEq,onB]
 by_cases hs:s'="name"
 ·obtain⟨x,h,rfl,hg,q⟩:=q2 hs
  rw[decide_eq_true hs]
  have hh:=hk x
  rw[hg]at hh
  obtain⟨p,h1,h2⟩:=hh
  have g:=xm.k (k:=(Sum.inr x:Key)) e
  rw[h1]at g
  exact jO ⟨_,et,gO (gN (j:=1) rfl) ⟨a,_,rfl,g,_,rfl,jO ⟨_,et,gO (gN (j:=1) rfl) ⟨a,_,rfl,g,q p h2⟩⟩⟩⟩
 ·rw[decide_eq_false hs]
  exact kE (q1 hs)
mutual
def flV:Dt->List V
 | .flat v=>[v]
 | .tup ds=>jI ds
 | .lst _=>[]
def jI:List Dt->List V
 |[]=>[]
 |d::ds=>flV d++jI ds
end
mutual
def okF:Dt->Bool
 | .flat v=>(match v with| .int _=>true| .str _=>true|_=>false)
 | .tup ds=>ox ds
 | .lst _=>false
def ox:List Dt->Bool
 |[]=>true
 |d::ds=>okF d&&ox ds
end
theorem tP:∀(l:List Dt) (d:Dt),jI (l++[d])=jI l++flV d
 |[],d=>by simp[jI]
 |a::l,d=>by rw[aS,jI,jI,tP l d,a8]
theorem vN:∀{l:List Dt} {i:Nat} {d:Dt},ox l=true->l[i]?=some d->okF d=true
 |a::l,0,d,h,e=>by cases e;rw[ox,fV]at h;exact h.1
 |a::l,i+ 1,d,h,e=>by rw[ox,fV]at h;rw[bC]at e;exact vN h.2 e
theorem mC:∀(l:List Dt) (i:Nat),(jI (l.take i)).length<=(jI l).length
 |[],i=>by simp[jI]
 |a::l,0=>by simp[jI]
 |a::l,i+ 1=>by
  rw[cg,jI,jI,aO,aO]
  have:=mC l i
  lia
theorem qL:∀{l:List Dt} {i:Nat} {d:Dt},l[i]?=some d->(flV d).length<=(jI l).length
 |a::l,0,d,e=>by cases e;rw[jI,aO];lia
 |a::l,i+ 1,d,e=>by
  rw[bC]at e
  have:=qL e
  rw[jI,aO]
  lia
theorem mP {H:Hp}:∀{xs:List V} {ds:List Dt} {j:Nat} {x:V},Ims H xs ds->xs[j]?=some x->∃d,ds[j]?=some d/\Im H x d
 |_,_,0,_,.cons h _,e=>⟨_,rfl,by cases e;exact h⟩
 |_,_,j+ 1,_,.cons _ t,e=>by
  rw[bC]at e
  obtain⟨d,e1,e2⟩:=mP t e
  exact⟨d,by rw[bC];exact e1,e2⟩
def yW (n:Nat):Sp:=fun vs H Q _=>∃(t:Addr) (xs:List V) (ds:List Dt),vs=[.ref t]/\H t=some (.tup xs)/\Ims H xs ds/\ox ds=true/\ki ds<n/\(jI ds).length<=10000/\∀l H',gT H H'->H l=none->H' l=some (.lst (jI ds))->Q (.ref l) H'
theorem CN (T:Txt K mg):∀n:Nat,iK P w K mg base CX0 (n+ 1) T.a_flat T.fd_flat ["parts"] (yW n):=by
 intro n
 induction n with
 |zero=>
  refine T.F_flat.ok rE (fun vs H Q E h=>?_) (fun cdv A outer s H vs Q E hr h=>?_)
  ·obtain⟨t,xs,ds,rfl,_⟩:=h
   rfl
  obtain⟨t,xs,ds,rfl,et,hx,hok,hd,hl,q⟩:=h
  exact absurd hd (dy _)
 |succ n ih=>
  have G_flat:=ih
  refine T.F_flat.ok rE (fun vs H Q E h=>?_) (fun cdv A outer s H vs Q E hr h=>?_)
  ·obtain⟨t,xs,ds,rfl,_⟩:=h
   rfl
  obtain⟨t,xs,ds,rfl,et,hx,hok,hd,hl,q⟩:=h
  refine⟨_,(gC (gR (i:=1) rE.nd rfl (.inl rfl) (iL gG))
  (gC (lU PassesOwn.never rfl (sj (cv 0)) (jt (i:=2) rE.nd rfl (.inl rfl))
   (gK (iU (lT (gS mL rfl T.z_isinstance iG (gB (cv 2) (gB (pd rfl T.z_tuple nK) gG))))
    (gK (iu (lK fD fG fH sN (cv 1) (gB (ia G_flat (hr.mono (by lia)) rfl T.m_flat T.k_flat T.b_flat .nil iX (gB (cv 2) gG)) gG))))
    (gK (iu (mq (lK fD fE fF iD (PE.mono (cv 1)) (gB (PE.mono (cv 2)) gG))))))))
  (gK (hV (cv 1))))),?_⟩
  have sl:sizeLine=16777216:=sizeLine_eq
  have lx:=hx.length
  refine⟨(by show 0<=sizeLine;decide),fun f hf=>?_⟩
  have s1:=gJ hf (.lst [])
  have e1:(upd H f (.lst [])) f=some (.lst []):=gE
  dsimp only[iW]
  generalize upd H f (.lst [])=H1 at s1 e1⊢
  refine⟨t,rfl,⟨_,SqT.of (s1 _ _ et)⟩,uh (xs:=xs) (fun i σ H2=>∃(o:Option V),σ=[some (.ref t),some (.ref f),o]/\gT H H2/\H2 f=some (.lst (jI (ds.take i)))) ⟨none,rfl,s1,by simpa[jI]using e1⟩ (fun i σ H2 _ ⟨_,_,S,_⟩=>SqT.of (S _ _ et)) ?_ ?_⟩
  ·rintro i v σ H2 hv ⟨o,rfl,S,e⟩
   obtain⟨d,hdi,him⟩:=mP hx hv
   have him2:=him.mono (gT.tk S)
   have hok1:=vN hok hdi
   have tl:=mC ds i
   have gl:=qL hdi
   have nxt:jI (ds.take (i+ 1))=jI (ds.take i)++flV d:=by rw[bJ,hdi];exact tP _ _
   cases him2 with
   |flat hfl=>
    rw[flV]at nxt gl
    have ap:(∃xs,H2 f=some (.lst xs))/\∃xs,H2 f=some (.lst xs)/\xs.length<sizeLine/\∃(o:Option V),[some (V.ref t),some (V.ref f),some v]=[some (V.ref t),some (.ref f),o]/\gT H (upd H2 f (.lst (xs++[v])))/\(upd H2 f (.lst (xs++[v]))) f=some (.lst (jI (ds.take (i+ 1)))):=
     ⟨⟨_,e⟩,_,e,by lia,_,rfl,jc S hf _,by rw[gE,nxt]⟩
    cases v with
    |int n=>exact⟨_,_,_,_,false,rfl,fun _ r=>r,.int n,rfl,_,rfl,jO ap⟩
    |str x=>exact⟨_,_,_,_,false,rfl,fun _ r=>r,.str x,rfl,_,rfl,jO ap⟩
    |_=>simp[okF]at hok1
   |@tup a ys es ha hs=>
    rw[flV]at nxt gl
    rw[okF]at hok1
    have hdd:=L2.Internal.depDs_get hdi
    rw[A6]at hdd
    refine⟨_,_,_,_,true,rfl,fun _ r=>r,.tup ha,rfl,_,rfl,kE ⟨.inl ⟨rfl,_,SqL.of e⟩,a,ys,es,rfl,ha,hs,hok1,by lia,by lia,fun l H3 S3 hl3 e3=>?_⟩⟩
    refine⟨f,l,_,_,rfl,rfl,S3 _ _ e,e3,?_,_,rfl,jc (S.trans S3) hf _,by rw[gE,nxt]⟩
    have h1:(jI (ds.take (i+ 1))).length<=(jI ds).length:=mC ds (i+ 1)
    rw[nxt,aO]at h1
    lia
  ·rintro σ H2 ⟨o,rfl,S,e⟩
   rw[bZ (by lia)]at e
   exact q f H2 S hf e
inductive Ro
 |num (n:Int)
 |name (w:Str)
 |fn (w:Str) (k:Int)
 |tag (w:Str) (k:Int)
 |lt (w:Str) (a b:Int)
 |get (k:Int) (w:Str)
 |rcd (l:List (Str×Int))
 |case (k:Int) (l:List (Str×Str×Int))
 |row (ks:List Int)
 |op (s:Str) (ks:List Int)
def kD (k:Int):Dt:= .flat (.int k)
def sD (s:Str):Dt:= .flat (.str s)
def fdD (p:Str×Int):Dt:= .tup [sD p.1,kD p.2]
def amD (p:Str×Str×Int):Dt:= .tup [sD p.1,sD p.2.1,kD p.2.2]
def Ro.s:Ro->Str
 | .num _=>"num"
 | .name _=>"name"
 | .fn _ _=>"fn"
 | .tag _ _=>"tag"
 | .lt _ _ _=>"let"
 | .get _ _=>"get"
 | .rcd _=>"rec"
 | .case _ _=>"case"
 | .row _=>"row"
 | .op s _=>s
def Ro.r:Ro->List Dt
 | .num n=>[kD n]
 | .name w=>[sD w]
 | .fn w k=>[sD w,kD k]
 | .tag w k=>[sD w,kD k]
 | .lt w a b=>[sD w,kD a,kD b]
 | .get k w=>[kD k,sD w]
 | .rcd l=>[.tup (l.map fdD)]
 | .case k l=>[kD k,.tup (l.map amD)]
 | .row ks=>[.tup (ks.map kD)]
 | .op _ ks=>ks.map kD
def Ro.d (ρ:Ro):Dt:= .tup (sD ρ.s::ρ.r)
def plain:List Str:=["size","at","call","join","add","sub","less"]
def Ro.ok:Ro->Prop
 | .rcd l=>l.length<=100/\(l.map Prod.fst).Nodup
 | .case _ l=>l.length<=100/\(l.map Prod.fst).Nodup
 | .row ks=>ks.length<=100
 | .op s ks=>s∈plain/\ks.length<=100
 |_=>True
def Ro.pl:Ro->List Int
 | .num _=>[]
 | .name _=>[]
 | .fn _ k=>[k]
 | .tag _ k=>[k]
 | .lt _ a b=>[a,b]
 | .get k _=>[k]
 | .rcd l=>l.map Prod.snd
 | .case k l=>k::l.map fun p=>p.2.2
 | .row ks=>ks
 | .op _ ks=>ks
def Ro.pt:Ro->List V
 | .num _=>[]
 | .name _=>[]
 |ρ=>jI ρ.r
theorem yX:∀ks:List Int,ox (ks.map kD)=true/\jI (ks.map kD)=ks.map V.int/\ki (ks.map kD)=0
 |[]=>⟨by simp[ox],by simp[jI],by simp[ki]⟩
 |k::ks=>by
  obtain⟨h1,h2,h3⟩:=yX ks
  refine⟨?_,?_,?_⟩
  ·rw[aC,ox,h1];rfl
  ·rw[aC,jI,h2];rfl
  ·rw[aC,ki,h3];rfl
theorem EJ:∀l:List (Str×Int),ox (l.map fdD)=true/\(jI (l.map fdD)).length=2*l.length/\ki (l.map fdD)<=1
 |[]=>⟨by simp[ox],by simp[jI],by simp[ki]⟩
 |k::ks=>by
  obtain⟨h1,h2,h3⟩:=EJ ks
  refine⟨?_,?_,?_⟩
  ·rw[aC,ox,h1];rfl
  ·rw[aC,jI,aO,h2];show 2+_=_;rw[aA];lia
  ·rw[aC,ki];exact Nat.max_le.mpr ⟨c7 1,h3⟩
theorem EK:∀l:List (Str×Str×Int),ox (l.map amD)=true/\(jI (l.map amD)).length=3*l.length/\ki (l.map amD)<=1
 |[]=>⟨by simp[ox],by simp[jI],by simp[ki]⟩
 |k::ks=>by
  obtain⟨h1,h2,h3⟩:=EK ks
  refine⟨?_,?_,?_⟩
  ·rw[aC,ox,h1];rfl
  ·rw[aC,jI,aO,h2];show 3+_=_;rw[aA];lia
  ·rw[aC,ki];exact Nat.max_le.mpr ⟨c7 1,h3⟩
theorem Ro.fl (ρ:Ro) (h:ρ.ok):ox ρ.r=true/\ki ρ.r<3/\(jI ρ.r).length<=10000:=by
 cases ρ with
 |rcd l=>
  obtain⟨h1,h2,h3⟩:=EJ l
  have hl:l.length<=100:=h.1
  refine⟨?_,?_,?_⟩
  ·show ox [.tup (l.map fdD)]=true
   rw[ox,okF,h1,ox];rfl
  ·show ki [.tup (l.map fdD)]<3
   rw[ki,A6,ki];lia
  ·show(jI [.tup (l.map fdD)]).length<=_
   rw[jI,flV,jI,aE,h2];lia
 |case k l=>
  obtain⟨h1,h2,h3⟩:=EK l
  have hl:l.length<=100:=h.1
  refine⟨?_,?_,?_⟩
  ·show ox [kD k,.tup (l.map amD)]=true
   simp[ox,okF,kD,h1]
  ·show ki [kD k,.tup (l.map amD)]<3
   simp only[ki,A6,kD];lia
  ·show(jI [kD k,.tup (l.map amD)]).length<=_
   simp only[jI,flV,kD,aE,aO,h2,a9];lia
 |row ks=>
  obtain⟨h1,h2,h3⟩:=yX ks
  have hl:ks.length<=100:=h
  refine⟨?_,?_,?_⟩
  ·show ox [.tup (ks.map kD)]=true
   rw[ox,okF,h1,ox];rfl
  ·show ki [.tup (ks.map kD)]<3
   rw[ki,A6,ki,h3];lia
  ·show(jI [.tup (ks.map kD)]).length<=_
   rw[jI,flV,jI,aE,h2,aD];lia
 |op s ks=>
  obtain⟨h1,h2,h3⟩:=yX ks
  have hl:ks.length<=100:=h.2
  exact⟨h1,by show ki (ks.map kD)<3;lia,by show(jI (ks.map kD)).length<=_;rw[h2,aD];lia⟩
 |_=>exact⟨rfl,by simp[Ro.r,kD,sD,ki,A6],by simp[Ro.r,kD,sD,jI,flV]⟩
theorem GA (y:V) (ys:List V):sI (y::ys) (some 1) none=ys/\¬(HT.Internal.sIx (y::ys).length 0 (some 1)=0/\HT.Internal.sIx (y::ys).length (y::ys).length none=(y::ys).length):=by
 have e:HT.Internal.sIx (y::ys).length 0 (some 1)=1:=by
  show HT.Internal.sIx (y::ys).length 0 (some ((1:Nat):Int))=1
  rw[HT.Internal.sIx_nat,aA]
  lia
 refine⟨?_,fun h=>by rw[e]at h;exact absurd h.1 (by decide)⟩
 unfold sI
 rw[e,HT.Internal.sIx_none,List.drop_succ_cons,List.drop_zero,aA,Nat.add_sub_cancel,br]
theorem GB (ρ:Ro) (h:ρ.ok):inV (.str ρ.s) [.str "num",.str "name"]=(match ρ with| .num _=>true| .name _=>true|_=>false):=by
 cases ρ with
 |op s ks=>
  have hs:s∈plain:=h.1
  show inV (.str s) _=false
  simp only[plain,aj,bB,or_false]at hs
  rcases hs with rfl|rfl|rfl|rfl|rfl|rfl|rfl<;>decide+kernel
 |_=>simp only[Ro.s];decide+kernel
def uO:Sp:=fun vs H Q _=>∃(t:Addr) (ρ:Ro),vs=[.ref t]/\Im H (.ref t) ρ.d/\ρ.ok/\∀l H',gT H H'->H l=none->H' l=some (.lst ρ.pt)->Q (.ref l) H'
theorem uP (T:Txt K mg):iK P w K mg base CX0 5 T.a_parts_of T.fd_parts_of ["row"] uO:=by
 have G_flat:=CN (P:=P) (w:=w) (base:=base) T 3
 refine T.F_parts_of.ok uK (fun vs H Q E h=>?_) (fun cdv A outer s H vs Q E hr h=>?_)
 ·obtain⟨t,ρ,rfl,_⟩:=h
  rfl
 obtain⟨t,ρ,rfl,hi,ho,q⟩:=h
 refine⟨_,(gC (iU (ie sL (hU iY (cv 0) gH (fun _ _=>rfl)) (kO (gB gP (gB gP gG))) rfl)
   (gK (hV (iL gG)))
   ib)
  (gK (hV (ia G_flat (hr.mono (by decide)) rfl T.m_flat T.k_flat T.b_flat .nil iX (gB (kC DU (cv 0) (kW gH) lZ) gG))))),?_⟩
 have sl:sizeLine=16777216:=sizeLine_eq
 obtain⟨f1,f2,f3⟩:=ρ.fl ho
 cases hi with
 |@tup _ ys _ et hs=>
  cases hs with
  |@cons y _ ys _ h1 hs=>
   cases h1
   refine⟨_,et,gO (gN (j:=0) rfl) ?_⟩
   refine⟨(by show 2<=sizeLine;decide),fun p hp=>⟨p,[.str "num",.str "name"],rfl,.inr (SqT.of gE),rfl,rfl,?_⟩⟩
   have s1:=gJ hp (.tup [.str "num",.str "name"])
   generalize upd H p (.tup [.str "num",.str "name"])=H1 at s1⊢
   dsimp only[onB]
   rw[show(if false=true then !inV (.str ρ.s) [.str "num",.str "name"]else inV (.str ρ.s) [.str "num",.str "name"])=_ from GB ρ ho]
   have yes:ρ.pt=[]->(Fu (FR zI) {nx:=fun _ H'=>Q .non H',rt:=Q}:St->Hp->Prop) [some (.ref t)] H1:=fun e=>⟨(by show 0<=sizeLine;decide),fun l hl=>q l _ (s1.trans (gJ hl _)) (s1.free hl) (by rw[gE,e])⟩
   have no:ρ.pt=jI ρ.r->∃n:Int,V.int 1= .int n/\∃a xs,V.ref t= .ref a/\SqT K H1 a xs/\¬(HT.Internal.sIx xs.length 0 (some n)=0/\HT.Internal.sIx xs.length xs.length none=xs.length)/\∀pc,H1 pc=none->yW 3 [.ref pc] (upd H1 pc (.tup (sI xs (some n) none))) Q E:=fun e=>by
    obtain⟨c1,c2⟩:=GA (.str ρ.s) ys
    refine⟨1,rfl,t,_,rfl,SqT.of (s1 _ _ et),c2,fun pc hpc=>?_⟩
    rw[c1]
    have s2:=gJ hpc (.tup ys)
    exact⟨pc,ys,ρ.r,rfl,gE,hs.mono (gT.tk (s1.trans s2)),f1,f2,f3,fun l H' S hl e'=>q l H' ((s1.trans s2).trans S) ((s1.trans s2).free hl) (by rw[e',e])⟩
   cases ρ with
   |num n=>exact kE (yes rfl)
   |name n=>exact kE (yes rfl)
   |fn a b=>exact jO (no rfl)
   |tag a b=>exact jO (no rfl)
   |lt a b c=>exact jO (no rfl)
   |get a b=>exact jO (no rfl)
   |rcd a=>exact jO (no rfl)
   |case a b=>exact jO (no rfl)
   |row a=>exact jO (no rfl)
   |op a b=>exact jO (no rfl)
theorem EL {J:It} {xs:List V} {i:Nat} {tt:TT} {te:TE} {Q:VK} {τ:St} {H1:Hp} {D:Addr} (p:V->Bool) (g:V->V) (hD:H1 D=none) (hz:xs.length<=sizeLine) (hτ:τ.set i none=τ)
  (hgo:∀k H,gT H1 H->k<xs.length->J.go k H) (hy:∀k H v H',gT H1 H->k<xs.length->J.yld k H v H'->H'=H/\xs[k]?=some v) (hst:∀H,gT H1 H->J.stop xs.length H)
  (htt:∀(k:Nat) v H R,xs[k]?=some v->gT H1 H->R (p v) H->tt (τ.set i (some v)) H R)
  (hte:∀(k:Nat) v H R,xs[k]?=some v->p v=true->gT H1 H->R (g v) H->te (τ.set i (some v)) H R)
  (hq:∀H',gT H1 H'->H' D=some (.lst ((xs.filter p).map g))->Q (.ref D) H'):LcP J i tt te Q τ H1 D:=by
 have sm:∀o,gT H1 (upd H1 D o):=fun o b u e=>by rw[gM (gL e hD)];exact e
 refine⟨fun k m σ' H2=>m=xs.length-k/\k<=xs.length/\(∃o,σ'=τ.set i o)/\H2=upd H1 D (.lst (((xs.take k).filter p).map g)),⟨xs.length,by simp,c8 _,⟨none,hτ.symm⟩,by simp⟩,?_⟩
 rintro k m σ' H2 ⟨rfl,hk,⟨o,rfl⟩,rfl⟩
 by_cases hlt:k<xs.length
 ·refine .inr ⟨hgo k _ (sm _) hlt,fun v H3 y=>?_⟩
  obtain⟨e,hv⟩:=hy k _ v H3 (sm _) hlt y
  subst e
  rw[bp]
  refine htt k v _ _ hv (sm _) ?_
  have tk:(xs.take (k+ 1)).filter p=(xs.take k).filter p++(if p v then[v]else[]):=take_succ_filter p xs k v hv
  have ll:((xs.take k).filter p).length<=k:=by
   refine cX (bq _ _) ?_
   rw[aI]
   lia
  cases hp:p v with
  |true=>
   rw[if_pos rfl]
   refine hte k v _ _ hv hp (sm _) ?_
   refine⟨_,gE,by rw[aD];lia,xs.length-(k+ 1),by lia,rfl,hlt,⟨some v,rfl⟩,?_⟩
   rw[xt,tk,hp,if_pos rfl,bh]
   rfl
  |false=>
   rw[if_neg fN]
   refine⟨xs.length-(k+ 1),by lia,rfl,hlt,⟨some v,rfl⟩,?_⟩
   rw[tk,hp,if_neg fN,aE]
 ·have e:k=xs.length:=by lia
  subst e
  refine .inl ⟨hst _ (sm _),hq _ (sm _) ?_⟩
  rw[gE,br]
def isI:V->Bool
 | .int _=>true
 |_=>false
theorem yY:∀ks:List Int,(ks.map V.int).filter isI=ks.map V.int
 |[]=>rfl
 |k::ks=>by rw[aC,cj rfl,yY ks]
theorem Bf:∀l:List (Str×Int),(jI (l.map fdD)).filter isI=(l.map Prod.snd).map V.int
 |[]=>by simp[jI]
 |p::l=>by
  have:=Bf l
  rw[aC,jI,bM,this]
  rfl
theorem Bg:∀l:List (Str×Str×Int),(jI (l.map amD)).filter isI=(l.map fun p=>p.2.2).map V.int
 |[]=>by simp[jI]
 |p::l=>by
  have:=Bg l
  rw[aC,jI,bM,this]
  rfl
theorem Ro.pt_pl (ρ:Ro):ρ.pt.filter isI=ρ.pl.map V.int:=by
 cases ρ with
 |rcd l=>
  show(jI [.tup (l.map fdD)]).filter isI=_
  rw[jI,flV,jI,aE]
  exact Bf l
 |case k l=>
  show(jI [kD k,.tup (l.map amD)]).filter isI=_
  rw[jI,jI,jI,flV,aE,bM,Bg l]
  rfl
 |row ks=>
  show(jI [.tup (ks.map kD)]).filter isI=_
  rw[jI,flV,jI,aE,(yX ks).2.1]
  exact yY ks
 |op s ks=>
  show(jI (ks.map kD)).filter isI=_
  rw[(yX ks).2.1]
  exact yY ks
 |_=>rfl
theorem Ro.pt_le (ρ:Ro) (h:ρ.ok):ρ.pt.length<=10000:=by
 have:=(ρ.fl h).2.2
 cases ρ with
 |num n=>exact c8 _
 |name n=>exact c8 _
 |_=>exact this
theorem EM:∀(d:Dt),okF d=true->∀v∈flV d,(∃n,v= .int n)\/∃s,v= .str s:=by
 intro d
 refine Dt.rec (motive_1:=fun d=>okF d=true->∀v∈flV d,(∃n,v= .int n)\/∃s,v= .str s) (motive_2:=fun ds=>ox ds=true->∀v∈jI ds,(∃n,v= .int n)\/∃s,v= .str s) ?_ ?_ ?_ ?_ ?_ d
 ·intro v h x hx
  rw[flV,bg]at hx
  subst hx
  cases x<;>first|exact .inl ⟨_,rfl⟩|exact .inr ⟨_,rfl⟩|simp[okF]at h
 ·intro ds ih h v hv
  rw[flV]at hv
  rw[okF]at h
  exact ih h v hv
 ·intro ds ih h
  rw[okF]at h
  cases h
 ·intro _ v hv
  rw[jI]at hv
  cases hv
 ·intro d ds h1 h2 h v hv
  rw[jI]at hv
  rw[ox,fV]at h
  rcases ao.mp hv with hv|hv
  ·exact h1 h.1 v hv
  ·exact h2 h.2 v hv
theorem Ro.pt_is (ρ:Ro) (h:ρ.ok):∀v∈ρ.pt,(∃n,v= .int n)\/∃s,v= .str s:=by
 have h1:=(ρ.fl h).1
 have h2:=EM (.tup ρ.r) (by rw[okF];exact h1)
 rw[flV]at h2
 cases ρ with
 |num n=>intro v hv;cases hv
 |name n=>intro v hv;cases hv
 |_=>exact h2
def tQ:Sp:=fun vs H Q _=>∃(t:Addr) (ρ:Ro),vs=[.ref t]/\Im H (.ref t) ρ.d/\ρ.ok/\∀l H',gT H H'->H l=none->H' l=some (.lst (ρ.pl.map V.int))->Q (.ref l) H'
theorem mD (T:Txt K mg):iK P w K mg base CX0 6 T.a_places_in T.fd_places_in ["row"] tQ:=by
 have G_parts_of:=uP (P:=P) (w:=w) (base:=base) T
 refine T.F_places_in.ok tI (fun vs H Q E h=>?_) (fun cdv A outer s H vs Q E hr h=>?_)
 ·obtain⟨t,ρ,rfl,_⟩:=h
  rfl
 obtain⟨t,ρ,rfl,hi,ho,q⟩:=h
 refine⟨_,(gK (hV (oa rfl (ym (x:="part") rfl (by decide+kernel) (by decide+kernel) rfl rfl) (jR (ia G_parts_of (hr.mono (by decide)) rfl T.m_parts_of T.k_parts_of T.b_parts_of .nil iX (gB (cv 0) gG))) (fun _ _ _ _ _=>(uu (lT (gS (r:=rIsi K) mL rfl T.z_isinstance iG (gB (cv 0) (gB (pd rfl T.z_int vp) gG)))))) (fun _ _ _ _ _=>(cv 0))))),?_⟩
 have sl:sizeLine=16777216:=sizeLine_eq
 have lp:=ρ.pt_le ho
 refine⟨t,ρ,rfl,hi,ho,fun l H1 S1 hl e1=>⟨l,rfl,⟨_,SqL.of e1⟩,fun D hD=>?_⟩⟩
 refine EL (xs:=ρ.pt) isI id hD (by lia) rfl (fun k H S h=>qA e1 S h) (fun k H v H' S h y=>⟨y.1,y.2 _ (SqL.of (S _ _ e1))⟩) (fun H S=>qB e1 S) ?_ ?_ ?_
 ·intro k v H2 R hv S hR
  rcases ρ.pt_is ho v (aN hv)with⟨n,rfl⟩|⟨x,rfl⟩
  ·exact⟨_,_,_,_,true,rfl,fun _ r=>r,.int n,rfl,_,rfl,hR⟩
  ·exact⟨_,_,_,_,false,rfl,fun _ r=>r,.str x,rfl,_,rfl,hR⟩
 ·intro k v H2 R hv hp S hR
  exact hR
 ·intro H' S e
  rw[List.map_id,ρ.pt_pl]at e
  exact q D H' (S1.trans S) (S1.free hD) e
def Ro.ws:Ro->List Str
 | .rcd l=>l.map Prod.fst
 | .case _ l=>l.map Prod.fst
 |_=>[]
theorem Ro.ws_nd (ρ:Ro) (h:ρ.ok):ρ.ws.Nodup/\ρ.ws.length<=100:=by
 cases ρ with
 |rcd l=>exact⟨h.2,by show(l.map Prod.fst).length<=_;rw[aD];exact h.1⟩
 |case k l=>exact⟨h.2,by show(l.map Prod.fst).length<=_;rw[aD];exact h.1⟩
 |_=>exact⟨List.nodup_nil,c8 _⟩
theorem m5 (ρ:Ro) (h:ρ.ok) (x:Str) (hx:x∈(["rec","case","fn","let","name","num"]:List Str)):(∃s ks,ρ= .op s ks)->decide (ρ.s=x)=false:=by
 rintro⟨s,ks,rfl⟩
 have hs:s∈plain:=h.1
 show decide (s=x)=false
 simp only[plain,aj,bB,or_false]at hs hx
 rcases hs with rfl|rfl|rfl|rfl|rfl|rfl|rfl<;>rcases hx with rfl|rfl|rfl|rfl|rfl|rfl<;>decide+kernel
def Ro.isR:Ro->Bool
 | .rcd _=>true
 |_=>false
def Ro.isC:Ro->Bool
 | .case _ _=>true
 |_=>false
def Ro.isF:Ro->Bool
 | .fn _ _=>true
 |_=>false
def Ro.isL:Ro->Bool
 | .lt _ _ _=>true
 |_=>false
theorem Ro.hd (ρ:Ro) (h:ρ.ok):decide (ρ.s="rec")=ρ.isR/\decide (ρ.s="case")=ρ.isC/\decide (ρ.s="fn")=ρ.isF/\decide (ρ.s="let")=ρ.isL:=by
 cases ρ with
 |op s ks=>exact⟨m5 _ h _ (by decide+kernel) ⟨s,ks,rfl⟩,m5 _ h _ (by decide+kernel) ⟨s,ks,rfl⟩,m5 _ h _ (by decide+kernel) ⟨s,ks,rfl⟩,m5 _ h _ (by decide+kernel) ⟨s,ks,rfl⟩⟩
 |num a=>exact(show decide (("num":Str)="rec")=false/\decide (("num":Str)="case")=false/\decide (("num":Str)="fn")=false/\decide (("num":Str)="let")=false from by decide+kernel)
 |name a=>exact(show decide (("name":Str)="rec")=false/\decide (("name":Str)="case")=false/\decide (("name":Str)="fn")=false/\decide (("name":Str)="let")=false from by decide+kernel)
 |fn a b=>exact(show decide (("fn":Str)="rec")=false/\decide (("fn":Str)="case")=false/\decide (("fn":Str)="fn")=true/\decide (("fn":Str)="let")=false from by decide+kernel)
 |tag a b=>exact(show decide (("tag":Str)="rec")=false/\decide (("tag":Str)="case")=false/\decide (("tag":Str)="fn")=false/\decide (("tag":Str)="let")=false from by decide+kernel)
 |lt a b c=>exact(show decide (("let":Str)="rec")=false/\decide (("let":Str)="case")=false/\decide (("let":Str)="fn")=false/\decide (("let":Str)="let")=true from by decide+kernel)
 |get a b=>exact(show decide (("get":Str)="rec")=false/\decide (("get":Str)="case")=false/\decide (("get":Str)="fn")=false/\decide (("get":Str)="let")=false from by decide+kernel)
 |rcd a=>exact(show decide (("rec":Str)="rec")=true/\decide (("rec":Str)="case")=false/\decide (("rec":Str)="fn")=false/\decide (("rec":Str)="let")=false from by decide+kernel)
 |case a b=>exact(show decide (("case":Str)="rec")=false/\decide (("case":Str)="case")=true/\decide (("case":Str)="fn")=false/\decide (("case":Str)="let")=false from by decide+kernel)
 |row a=>exact(show decide (("row":Str)="rec")=false/\decide (("row":Str)="case")=false/\decide (("row":Str)="fn")=false/\decide (("row":Str)="let")=false from by decide+kernel)
theorem vO {a:Addr} {te:TE} {Q:VK} {τ:St} {H1:Hp} {D:Addr} {xs:List V} {α:Type} {f:α->Dt} {g:α->Str} {l:List α} (e:H1 a=some (.tup xs)) (I:Ims H1 xs (l.map f)) (hn:l.length<=100) (hD:H1 D=none) (hτ:τ.set 0 none=τ)
  (ht:∀(x:α) (v:V) H (R:VK),Im H v (f x)->R (.str (g x)) H->te (τ.set 0 (some v)) H R)
  (hq:∀H',gT H1 H'->H' D=some (.lst ((l.map g).map V.str))->Q (.ref D) H'):LcP (Itt K a) 0 m9 te Q τ H1 D:=by
 have sl:sizeLine=16777216:=sizeLine_eq
 have lx:=I.length
 rw[aD]at lx
 refine vw l.length (by lia) (fun ys H=>ys=((l.take ys.length).map g).map V.str) (fun xs H H' h _=>h) hD hτ (fun k H S h=>Ea e S (by lia)) (fun H S=>by rw[<-lx];exact Eb e S) rfl ?_ ?_
 ·intro k H v H3 ys Z S hk y hys hl hz
  obtain⟨rfl,hv⟩:=y
  have hv:=hv _ (SqT.of (S _ _ e))
  obtain⟨d,hd,him⟩:=mP I hv
  rw[aM]at hd
  obtain⟨x,hx⟩:∃x,l[k]?=some x:=⟨_,bx hk⟩
  rw[hx]at hd
  cases hd
  refine ht x v H3 Z (him.mono (gT.tk S)) (hz _ _ (gT.refl _) ?_)
  rw[aO,hl,a9,bJ,hx,bh,bh,<-hl,<-hys]
  rfl
 ·intro H' ys S hys hl e'
  rw[hl,br]at hys
  exact hq H' S (by rw[e',hys])
def rK:Sp:=fun vs H Q _=>∃(t:Addr) (ρ:Ro),vs=[.ref t]/\Im H (.ref t) ρ.d/\ρ.ok/\∀l H',gT H H'->H l=none->H' l=some (.lst (ρ.ws.map V.str))->Q (.ref l) H'
theorem rL (T:Txt K mg):iK P w K mg base CX0 1 T.a_words_once T.fd_words_once ["row"] rK:=by
 refine T.F_words_once.ok rF (fun vs H Q E h=>?_) (fun cdv A outer s H vs Q E hr h=>?_)
 ·obtain⟨t,ρ,rfl,_⟩:=h
  rfl
 obtain⟨t,ρ,rfl,hi,ho,q⟩:=h
 refine⟨_,(gC (iU (ie og (hU iY (cv 0) gH (fun _ _=>rfl)) gP (ic _))
   (gK (hV (oa rfl (ym (x:="field") rfl (by decide+kernel) (by decide+kernel) rfl rfl) (sj (hU iY (cv 0) gH (fun _ _=>rfl))) (fun _ _ _ _ _=>kM) (fun _ _ _ _ _=>(hU iY (cv 0) gH (fun _ _=>rfl))))))
   ib)
  (gC (iU (ie og (hU iY (cv 0) gH (fun _ _=>rfl)) gP (ic _))
   (gK (hV (oa rfl (ym (x:="arm") rfl (by decide+kernel) (by decide+kernel) rfl rfl) (sj (hU iY (cv 0) gH (fun _ _=>rfl))) (fun _ _ _ _ _=>kM) (fun _ _ _ _ _=>(hU iY (cv 0) gH (fun _ _=>rfl))))))
   ib)
  (gK (hV (iL gG))))),?_⟩
 have sl:sizeLine=16777216:=sizeLine_eq
 obtain⟨h1,h2,_,_⟩:=ρ.hd ho
 cases hi with
 |@tup _ ys _ et hs=>
  cases hs with
  |@cons y _ ys _ hy hs=>
   cases hy
   refine⟨_,et,gO (gN (j:=0) rfl) ?_⟩
   dsimp only[tC,cEq,onB]
   rw[fW,h1]
   have non:ρ.ws=[]->(Fu (FR zI) {nx:=fun _ H'=>Q .non H',rt:=Q}:St->Hp->Prop) [some (.ref t)] H:=fun e=>⟨(by show 0<=sizeLine;decide),fun l hl=>q l _ (gJ hl _) hl (by rw[gE,e];rfl)⟩
   cases ρ with
   |rcd l=>
    refine kE ?_
    cases hs with
    |cons hx _=>
     cases hx with
     |@tup ta xs _ eta hxs=>
      refine⟨_,et,gO (gN (j:=1) rfl) ⟨ta,rfl,⟨_,SqT.of eta⟩,fun D hD=>?_⟩⟩
      refine vO (f:=fdD) (g:=Prod.fst) eta hxs ho.1 hD rfl ?_ (fun H' S e=>q D H' S hD e)
      intro x v H2 R hv hR
      cases hv with
      |tup ev hvs=>
       cases hvs with
       |cons a _=>
        cases a
        exact⟨_,ev,gO (gN (j:=0) rfl) hR⟩
   |case k l=>
    refine jO ⟨_,et,gO (gN (j:=0) rfl) ?_⟩
    dsimp only[tC,cEq,onB]
    rw[fW,h2]
    refine kE ?_
    cases hs with
    |cons _ hs=>
     cases hs with
     |cons hx _=>
      cases hx with
      |@tup ta xs _ eta hxs=>
       refine⟨_,et,gO (gN (j:=2) rfl) ⟨ta,rfl,⟨_,SqT.of eta⟩,fun D hD=>?_⟩⟩
       refine vO (f:=amD) (g:=Prod.fst) eta hxs ho.1 hD rfl ?_ (fun H' S e=>q D H' S hD e)
       intro x v H2 R hv hR
       cases hv with
       |tup ev hvs=>
        cases hvs with
        |cons a _=>
         cases a
         exact⟨_,ev,gO (gN (j:=0) rfl) hR⟩
   |_=>
    refine jO ⟨_,et,gO (gN (j:=0) rfl) ?_⟩
    dsimp only[tC,cEq,onB]
    rw[fW,h2]
    exact jO (non rfl)
def exG (g:Str->Option Hm):Option (Str×Hm)->(Str->Option Hm)
 |none=>g
 |some (x,h)=>wid g x h
def Ro.ex:Ro->List (Option (Str×Hm))
 | .fn w k=>[some (w,("fn",k))]
 | .lt w a _=>[none,some (w,("let",a))]
 | .case _ l=>none::l.map fun p=>some (p.2.1,("arm",p.2.2))
 |ρ=>ρ.pl.map fun _=>none
theorem Sc.le {H:Hp} {a:Addr} {g:Str->Option Hm} {n m:Nat} (h:Sc H a g n) (l:n<=m):Sc H a g m:=by
 obtain⟨kvs,e,l',h⟩:=h
 exact⟨kvs,e,cX l' l,h⟩
theorem Sc.upd {H:Hp} {a d:Addr} {g:Str->Option Hm} {n:Nat} {kv:List (Key×V)} {o:HO} (h:Sc H a g n) (e:H d=some (.dK kv)) (ne:a≠d):Sc (L2.Internal.upd H d o) a g n:=by
 obtain⟨kvs,e1,l,h⟩:=h
 refine⟨kvs,by rw[gM ne];exact e1,l,fun w=>?_⟩
 have:=h w
 cases hg:g w with
 |none=>rw[hg]at this;exact this
 |some z=>
  rw[hg]at this
  obtain⟨t,h1,h2⟩:=this
  exact⟨t,h1,by rw[gM (kU h2 e (fun z=>nomatch z))];exact h2⟩
theorem Sc.dk {H:Hp} {a:Addr} {g:Str->Option Hm} {n:Nat} (h:Sc H a g n):∃kv,H a=some (.dK kv):=by
 obtain⟨kvs,e,_⟩:=h
 exact⟨kvs,e⟩
theorem vP {kvs:List (Key×V)} {k:Key} (v:V) (hn:(kvs.map (·.1)).Nodup):((nz kvs k v).map (·.1)).Nodup:=by
 cases q:jL kvs k with
 |none=>exact BW v hn q
 |some x=>
  have e:(nz kvs k v).map (·.1)=kvs.map (·.1):=by
   unfold nz
   rw[lQ,q]
   rw[if_pos (show(some x).isSome=true from rfl),bA]
   refine bU fun p _=>?_
   show(if p.1=k then(p.1,v)else p).1=p.1
   split<;>rfl
  rw[e]
  exact hn
theorem pS:∀(more kvs:List (Key×V)) (k:Key),(more.map (·.1)).Nodup->jL (nJ kvs more) k=match jL more k with|some v=>some v|none=>jL kvs k
 |[],kvs,k,_=>rfl
 |p::more,kvs,k,nd=>by
  obtain⟨h1,h2⟩:=aF.mp (show(p.1::more.map (·.1)).Nodup from nd)
  show jL (nJ (nz kvs p.1 p.2) more) k=_
  rw[pS more _ k h2]
  by_cases e:p.1=k
  ·rw[jM e]
   have:jL more k=none:=by
    cases q:jL more k with
    |none=>rfl
    |some x=>exact absurd (BV q) (by rw[<-e];exact h1)
   rw[this]
   show jL (nz kvs p.1 p.2) k=some p.2
   rw[jb,if_pos e.symm]
  ·rw[jN e]
   cases q:jL more k with
   |some x=>rfl
   |none=>
    show jL (nz kvs p.1 p.2) k=jL kvs k
    rw[jb,if_neg (fun z=>e z.symm)]
def InS (W:Addr->Prop) (H:Hp) (kvs:List (Key×V)) (ρ:Ro) (g:Str->Option Hm) (n:Nat):Prop:=∀c:Int,(jL kvs (.inl c)=none/\c∉ρ.pl)\/∃(j:Nat) (e:Option (Str×Hm)) (a:Addr),W a/\ρ.pl[j]?=some c/\ρ.ex[j]?=some e/\jL kvs (.inl c)=some (.ref a)/\Sc H a (exG g e) (n+ 1)
theorem EN {x:Str} {A B u:TS} {D:nY} {σ:St} {H:Hp} {t:Addr} {ys:List V} {s:Str} {b:Bool} (hσ:σ[0]?=some (some (.ref t))) (et:H t=some (.tup (.str s::ys))) (hb:decide (s=x)=b) (k:if b=true then A {D with nx:=u D} σ H else B {D with nx:=u D} σ H):
  xk (we (cT (tOp (cEq false) (tOp Eg (cV 0) (tC (.int 0))) (tC (.str x)))) A B) u D σ H:=by
 show onV σ[0]? _
 rw[hσ]
 refine⟨_,et,gO (gN (j:=0) rfl) ?_⟩
 dsimp only[tC,cEq,onB]
 rw[fW,hb]
 exact k
theorem nT {x:Str} {A u:TS} {D:nY} {σ:St} {H:Hp} {t:Addr} {ys:List V} {s:Str} (hσ:σ[0]?=some (some (.ref t))) (et:H t=some (.tup (.str s::ys))) (hb:decide (s=x)=false) (k:u D σ H):
  xk (we (cT (tOp (cEq false) (tOp Eg (cV 0) (tC (.int 0))) (tC (.str x)))) A si) u D σ H:=EN hσ et hb (jO k)
theorem yZ {x:Str} {A B u:TS} {D:nY} {σ:St} {H:Hp} {t:Addr} {ys:List V} {s:Str} (hσ:σ[0]?=some (some (.ref t))) (et:H t=some (.tup (.str s::ys))) (hb:decide (s=x)=true) (k:A {D with nx:=u D} σ H):
  xk (we (cT (tOp (cEq false) (tOp Eg (cV 0) (tC (.int 0))) (tC (.str x)))) A B) u D σ H:=EN hσ et hb (kE k)
theorem Ro.pl_le (ρ:Ro) (h:ρ.ok):ρ.pl.length<=101:=by
 cases ρ with
 |rcd l=>show(l.map Prod.snd).length<=_;rw[aD];exact cX h.1 (by decide)
 |case k l=>show(k::l.map fun p=>p.2.2).length<=_;rw[aA,aD];have:=h.1;lia
 |row ks=>exact cX h (by decide)
 |op s ks=>exact cX h.2 (by decide)
 |_=>simp[Ro.pl]
theorem y0 {W:Addr->Prop} {H:Hp} {kvs:List (Key×V)} {ρ:Ro} {g:Str->Option Hm} {n:Nat} {a:Addr} (hW:W a) (hx:ρ.ex=ρ.pl.map fun _=>none) (hs:Sc H a g n) (hv:∀c:Int,jL kvs (.inl c)=if c∈ρ.pl then some (.ref a)else none):InS W H kvs ρ g n:=by
 intro c
 by_cases h:c∈ρ.pl
 ·obtain⟨j,hj⟩:=bI.mp h
  exact .inr ⟨j,none,a,hW,hj,by rw[hx,aM,hj];rfl,by rw[hv c,if_pos h],hs.le (dc _)⟩
 ·exact .inl ⟨by rw[hv c,if_neg h],h⟩
def pT:Sp:=fun vs H Q _=>∃(t a:Addr) (ρ:Ro) (g:Str->Option Hm) (n:Nat),vs=[.ref t,.ref a]/\Im H (.ref t) ρ.d/\ρ.ok/\Sc H a g n/\n<9000/\
 ∀d kvs H',gT H H'->H d=none->H' d=some (.dK kvs)->(kvs.map (·.1)).Nodup->kvs.length<=300->InS (fun b=>b=a\/H b=none) H' kvs ρ g n->Q (.ref d) H'
theorem pU (T:Txt K mg):iK P w K mg base CX0 7 T.a_inner_scopes T.fd_inner_scopes ["row","scope"] pT:=by
 have G_places_in:=mD (P:=P) (w:=w) (base:=base) T
 have G_widened:=qJ (P:=P) (w:=w) (base:=base) T
 refine T.F_inner_scopes.ok ke (fun vs H Q E h=>?_) (fun cdv A outer s H vs Q E hr h=>?_)
 ·obtain⟨t,a,ρ,g,n,rfl,_⟩:=h
  rfl
 have hu:=wF hr
 obtain⟨t,a,ρ,g,n,rfl,hi,ho,hsc,hn,q⟩:=h
 refine⟨_,(gC (gR (i:=2) ke.nd rfl (.inl rfl) oF)
  (gC (lU PassesOwn.never rfl (jR (ia G_places_in (hr.mono (by decide)) rfl T.m_places_in T.k_places_in T.b_places_in .nil iX (gB (cv 0) gG))) (jt (i:=3) ke.nd rfl (.inl rfl))
   (gK (m7 hu (cv 2) (cv 3) (cv 1) rfl)))
  (gC (iU (ie og (hU iY (cv 0) gH (fun _ _=>rfl)) gP (ic _))
   (gK (m7 hu (cv 2) (hU iY (cv 0) gH (fun _ _=>rfl)) (ia G_widened (hr.mono (by decide)) rfl T.m_widened T.k_widened T.b_widened .nil iX (gB (cv 1) (gB (hU iY (cv 0) gH (fun _ _=>rfl)) (gB (kO (gB gP (gB (hU iY (cv 0) gH (fun _ _=>rfl)) gG))) gG)))) rfl))
   ib)
  (gC (iU (ie og (hU iY (cv 0) gH (fun _ _=>rfl)) gP (ic _))
   (gK (m7 hu (cv 2) (hU iY (cv 0) gH (fun _ _=>rfl)) (ia G_widened (hr.mono (by decide)) rfl T.m_widened T.k_widened T.b_widened .nil iX (gB (cv 1) (gB (hU iY (cv 0) gH (fun _ _=>rfl)) (gB (kO (gB gP (gB (hU iY (cv 0) gH (fun _ _=>rfl)) gG))) gG)))) rfl))
   ib)
  (gC (iU (ie og (hU iY (cv 0) gH (fun _ _=>rfl)) gP (ic _))
   (gK (lU PassesOwn.never rfl (sj (hU iY (cv 0) gH (fun _ _=>rfl))) (jt (i:=4) ke.nd rfl (.inl rfl))
    (gK (m7 hu (cv 2) (hU iY (cv 4) gH (fun _ _=>rfl)) (ia G_widened (hr.mono (by decide)) rfl T.m_widened T.k_widened T.b_widened .nil iX (gB (cv 1) (gB (hU iY (cv 4) gH (fun _ _=>rfl)) (gB (kO (gB gP (gB (hU iY (cv 4) gH (fun _ _=>rfl)) gG))) gG)))) rfl))))
   ib)
  (gK (hV (cv 2)))))))),?_⟩
 have sl:sizeLine=16777216:=sizeLine_eq
 obtain⟨_,h2,h3,h4⟩:=ρ.hd ho
 have lp:=ρ.pl_le ho
 intro d hd
 have s1:=gJ hd (.dK [])
 have ed:(upd H d (.dK [])) d=some (.dK []):=gE
 dsimp only[iW]
 generalize upd H d (.dK [])=H1 at s1 ed⊢
 have nad:a≠d:=by
  obtain⟨kv,e⟩:=hsc.dk
  exact gL e hd
 refine⟨t,ρ,rfl,hi.mono (gT.tk s1),ho,fun l H1' S1 hl e1=>⟨l,rfl,⟨_,SqL.of e1⟩,nF (xs:=ρ.pl.map V.int) (fun i σ H2=>∃(o:Option V) (kvs:List (Key×V)),σ=[some (.ref t),some (.ref a),some (.ref d),o,none]/\gT H H2/\H2 l=some (.lst (ρ.pl.map V.int))/\H2 d=some (.dK kvs)/\(kvs.map (·.1)).Nodup/\kvs.length<=i/\∀c:Int,jL kvs (.inl c)=if c∈ρ.pl.take i then some (.ref a)else none)
  ⟨none,[],rfl,s1.trans S1,e1,S1 _ _ ed,List.nodup_nil,c8 _,fun c=>by rw[ck,if_neg bB];rfl⟩ (fun i σ H2 _ ⟨_,_,_,_,e,_⟩=>SqL.of e) ?_ ?_⟩⟩
 ·rintro i v σ H2 hv ⟨o,kvs,rfl,S,el,ek,nd,hk,hc⟩
  rw[aM]at hv
  obtain⟨c,hcc,rfl⟩:=dF.mp hv
  have hi:=(au.mp hcc).1
  have nld:l≠d:=(gL ed hl).symm
  refine⟨d,_,rfl,xn.k (k:=Sum.inl c) ek (by lia),_,_,rfl,jc S hd _,by rw[gM nld];exact el,gE,vP _ nd,cX (i0 _ _ _) (by lia),fun c'=>?_⟩
  rw[jb,bJ,hcc]
  by_cases z:c'=c
  ·rw[if_pos (by rw[z]),if_pos (by simp[z])]
  ·rw[if_neg (fun y=>z (by injection y)),hc c']
   simp[z]
 ·rintro σ H2 ⟨o,kvs,rfl,S,el,ek,nd,hk,hc⟩
  rw[aD,br]at hc
  rw[aD]at hk
  have hi2:=hi
  have hsc2:=hsc.same S
  have fin:∀{o3 o4:Option V} {H3:Hp} {kvs:List (Key×V)},gT H H3->H3 d=some (.dK kvs)->(kvs.map (·.1)).Nodup->kvs.length<=300->InS (fun b=>b=a\/H b=none) H3 kvs ρ g n->(Fu (cV 2) {nx:=fun _ H'=>Q .non H',rt:=Q}:St->Hp->Prop) [some (.ref t),some (.ref a),some (.ref d),o3,o4] H3:=fun S3 e3 n3 l3 i3=>q d _ _ S3 hd e3 n3 l3 i3
  cases hi2 with
  |@tup _ ys _ et0 hs=>
   have et:=S _ _ et0
   cases hs with
   |@cons y _ ys _ hy hs=>
    cases hy
    dsimp only
    cases ρ with
    |fn x k=>
     cases hs with
     |cons a1 hs=>
      cases hs with
      |cons a2 hs=>
       cases a1;cases a2;cases hs
       refine yZ rfl et h3 ⟨_,et,gO (gN (j:=1) rfl) ⟨_,et,gO (gN (j:=2) rfl) ⟨(by show 2<=sizeLine;decide),fun p hp=>?_⟩⟩⟩
       have sp:=gJ hp (.tup [.str "fn",.int k])
       refine⟨a,p,g,n,x,("fn",k),rfl,hsc2.same sp,by lia,gE,fun b H4 S4 hb sc4=>?_⟩
       have S24:=sp.trans S4
       refine⟨_,S24 _ _ et,gO (gN (j:=2) rfl) ⟨d,_,rfl,xn.k (k:=Sum.inl k) (S24 _ _ ek) (by lia),?_⟩⟩
       have nbd:b≠d:=(gL (sp _ _ ek) hb).symm
       have et5:(upd H4 d (.dK (nz kvs (Sum.inl k) (.ref b)))) t=some (.tup (.str "fn"::[.str x,.int k])):=by rw[gM (kU (S24 _ _ et) (S24 _ _ ek) (fun z=>nomatch z))];exact S24 _ _ et
       dsimp only
       refine nT rfl et5 h4 (nT rfl et5 h2 (fin (jc (S.trans S24) hd _) gE (vP _ nd) (cX (i0 _ _ _) (by lia)) fun c=>?_))
       by_cases z:c=k
       ·exact .inr ⟨0,_,b,.inr ((S.trans sp).free hb),by rw[z];rfl,rfl,by rw[jb,if_pos (by rw[z])],sc4.upd (S24 _ _ ek) nbd⟩
       ·exact .inl ⟨by rw[jb,if_neg (fun y=>z (by injection y)),hc c,if_neg (by simpa[Ro.pl]using z)],by simpa[Ro.pl]using z⟩
    |lt x k1 k2=>
     refine nT rfl et h3 ?_
     cases hs with
     |cons a1 hs=>
      cases hs with
      |cons a2 hs=>
       cases hs with
       |cons a3 hs=>
        cases a1;cases a2;cases a3;cases hs
        refine yZ rfl et h4 ⟨_,et,gO (gN (j:=1) rfl) ⟨_,et,gO (gN (j:=2) rfl) ⟨(by show 2<=sizeLine;decide),fun p hp=>?_⟩⟩⟩
        have sp:=gJ hp (.tup [.str "let",.int k1])
        refine⟨a,p,g,n,x,("let",k1),rfl,hsc2.same sp,by lia,gE,fun b H4 S4 hb sc4=>?_⟩
        have S24:=sp.trans S4
        refine⟨_,S24 _ _ et,gO (gN (j:=3) rfl) ⟨d,_,rfl,xn.k (k:=Sum.inl k2) (S24 _ _ ek) (by lia),?_⟩⟩
        have nbd:b≠d:=(gL (sp _ _ ek) hb).symm
        have et5:(upd H4 d (.dK (nz kvs (Sum.inl k2) (.ref b)))) t=some (.tup (.str "let"::[.str x,.int k1,.int k2])):=by rw[gM (kU (S24 _ _ et) (S24 _ _ ek) (fun z=>nomatch z))];exact S24 _ _ et
        dsimp only
        refine nT rfl et5 h2 (fin (jc (S.trans S24) hd _) gE (vP _ nd) (cX (i0 _ _ _) (by lia)) fun c=>?_)
        by_cases z:c=k2
        ·exact .inr ⟨1,_,b,.inr ((S.trans sp).free hb),by rw[z];rfl,rfl,by rw[jb,if_pos (by rw[z])],sc4.upd (S24 _ _ ek) nbd⟩
        ·by_cases z1:c=k1
         ·exact .inr ⟨0,_,a,.inl rfl,by rw[z1];rfl,rfl,by rw[jb,if_neg (fun y=>z (by injection y)),hc c,if_pos (by simp[Ro.pl,z1])],((hsc2.same S24).upd (S24 _ _ ek) nad).le (dc _)⟩
         ·exact .inl ⟨by rw[jb,if_neg (fun y=>z (by injection y)),hc c,if_neg (by simp[Ro.pl,z,z1])],by simp[Ro.pl,z,z1]⟩
    |case k0 l=>
     refine nT rfl et h3 (nT rfl et h4 ?_)
     cases hs with
     |cons a1 hs=>
      cases hs with
      |cons a2 hs=>
       cases a1;cases hs
       cases a2 with
       |@tup ta xs _ eta hxs=>
        have lx:=hxs.length
        rw[aD]at lx
        have hl100:l.length<=100:=ho.1
        refine yZ rfl et h2 ⟨_,et,gO (gN (j:=2) rfl) ⟨ta,rfl,⟨_,SqT.of (S _ _ eta)⟩,uh (xs:=xs) (fun i σ H3=>∃(o4:Option V) (kvs:List (Key×V)),σ=[some (.ref t),some (.ref a),some (.ref d),o,o4]/\gT H H3/\H3 d=some (.dK kvs)/\(kvs.map (·.1)).Nodup/\kvs.length<=101+i/\∀c:Int,(∃(j:Nat) (p:Str×Str×Int) (b:Addr),j<i/\l[j]?=some p/\p.2.2=c/\jL kvs (.inl c)=some (.ref b)/\(b≠d/\H b=none)/\Sc H3 b (wid g p.2.1 ("arm",c)) (n+ 1))\/((∀(j:Nat) (p:Str×Str×Int),j<i->l[j]?=some p->p.2.2≠c)/\jL kvs (.inl c)=if c∈(Ro.case k0 l).pl then some (.ref a)else none))
         ⟨none,kvs,rfl,S,ek,nd,by lia,fun c=> .inr ⟨fun j p hj=>absurd hj (dy _),hc c⟩⟩ (fun i σ H3 _ ⟨_,_,_,S3,_⟩=>SqT.of (S3 _ _ eta)) ?_ ?_⟩⟩
        ·rintro i v σ H3 hv ⟨o4,kvs,rfl,S3,ek,nd,hk,hc⟩
         obtain⟨dd,hdd,him⟩:=mP hxs hv
         rw[aM]at hdd
         obtain⟨⟨tg,x,kk⟩,hp,rfl⟩:=dF.mp hdd
         have hi:=(au.mp hp).1
         cases him with
         |@tup tb _ _ eb hb=>
          cases hb with
          |cons b1 hb=>
           cases hb with
           |cons b2 hb=>
            cases hb with
            |cons b3 hb=>
             cases b1;cases b2;cases b3;cases hb
             refine⟨_,S3 _ _ eb,gO (gN (j:=1) rfl) ⟨_,S3 _ _ eb,gO (gN (j:=2) rfl) ⟨(by show 2<=sizeLine;decide),fun p hp'=>?_⟩⟩⟩
             have sp:=gJ hp' (.tup [.str "arm",.int kk])
             refine⟨a,p,g,n,x,("arm",kk),rfl,(hsc.same S3).same sp,by lia,gE,fun b H4 S4 hb sc4=>?_⟩
             have S34:=sp.trans S4
             refine⟨_,S34 _ _ (S3 _ _ eb),gO (gN (j:=2) rfl) ⟨d,_,rfl,xn.k (k:=Sum.inl kk) (S34 _ _ ek) (by lia),?_⟩⟩
             have nbd:b≠d:=(gL (sp _ _ ek) hb).symm
             refine⟨_,_,rfl,jc (S3.trans S34) hd _,gE,vP _ nd,cX (i0 _ _ _) (by lia),fun c=>?_⟩
             by_cases z:c=kk
             ·exact .inl ⟨i,_,b,da _,hp,z.symm,by rw[jb,if_pos (by rw[z])],⟨nbd,(S3.trans sp).free hb⟩,by rw[z];exact sc4.upd (S34 _ _ ek) nbd⟩
             ·rcases hc c with⟨j,p,b',c1,c2,c3,c4,c5,c6⟩|⟨c1,c2⟩
              ·exact .inl ⟨j,p,b',df c1,c2,c3,by rw[jb,if_neg (fun y=>z (by injection y))];exact c4,c5,(c6.same S34).upd (S34 _ _ ek) c5.1⟩
              ·refine .inr ⟨fun j p hj hp2=>?_,by rw[jb,if_neg (fun y=>z (by injection y))];exact c2⟩
               by_cases e:j=i
               ·rw[e,hp]at hp2
                cases hp2
                exact fun y=>z y.symm
               ·exact c1 j p (by lia) hp2
        ·rintro σ H3 ⟨o4,kvs,rfl,S3,ek,nd,hk,hc⟩
         refine fin (o3:=o) (o4:=o4) S3 ek nd (by lia) fun c=>?_
         rcases hc c with⟨j,p,b',c1,c2,c3,c4,c5,c6⟩|⟨c1,c2⟩
         ·refine .inr ⟨j+ 1,some (p.2.1,("arm",p.2.2)),b',.inr c5.2,?_,?_,c4,?_⟩
          ·show(k0::l.map fun p=>p.2.2)[j+ 1]?=_
           rw[bC,aM,c2,<-c3]
           rfl
          ·show(none::l.map fun p=>some (p.2.1,(("arm":Str),p.2.2)))[j+ 1]?=_
           rw[bC,aM,c2]
           rfl
          ·rw[c3]
           exact c6
         ·by_cases z:c=k0
          ·exact .inr ⟨0,none,a,.inl rfl,by rw[z];rfl,rfl,by rw[c2,if_pos (by simp[Ro.pl,z])],(hsc.same S3).le (dc _)⟩
          ·have nm:c∉(Ro.case k0 l).pl:=fun hm=>by
            rcases aj.mp (show c∈(k0::l.map fun p=>p.2.2)from hm)with h|h
            ·exact z h
            ·obtain⟨p,hp,e⟩:=bb.mp h
             obtain⟨j,hj⟩:=bI.mp hp
             exact c1 j p (by rw[lx];exact(au.mp hj).1) hj e
           exact .inl ⟨by rw[c2,if_neg nm],nm⟩
    |_=>
     exact nT rfl et h3 (nT rfl et h4 (nT rfl et h2 (fin S ek nd (by lia) (y0 (.inl rfl) rfl hsc2 hc))))
theorem rM {K:PySem.W.Frag} {a:Addr} {xs:List V} {g:TG} {tb:TS} {D:nY} {σ:St} {H:Hp} (Pv:Nat->St->Hp->Prop) (h0:Pv 0 σ H) (hl:∀i σ H,i<=xs.length->Pv i σ H->SqL K H a xs)
  (hs:∀(i:Nat) (x:V) (σ:St) (H:Hp) (T:Addr),xs[i]?=some x->Pv i σ H->H T=none->g (.ref T) σ (upd H T (.tup [.int (i:Int),x])) fun σ2 H2=>tb {D with nx:=Pv (i+ 1),ct:=Pv (i+ 1),bk:=D.nx} σ2 H2) (hd:∀σ H,Pv xs.length σ H->D.nx σ H):
  ∃W:Nat->Nat->St->Hp->Prop,(∃m,W 0 m σ H)/\∀i m σ H,W i m σ H->
   ((Ite K a).stop i H/\D.nx σ H)\/((Ite K a).go i H/\∃N:St->Hp->Prop,(∀σ' H',N σ' H'->∃m',m'<m/\W (i+ 1) m' σ' H')/\∀x H',(Ite K a).yld i H x H'->g x σ H' fun σ2 H2=>tb {D with nx:=N,ct:=N,bk:=D.nx} σ2 H2):=by
 refine⟨fun i m σ H=>m=xs.length-i/\i<=xs.length/\Pv i σ H,⟨xs.length,by simp,c8 _,h0⟩,?_⟩
 rintro i m σ H ⟨rfl,hi,p⟩
 have q:=hl i σ H hi p
 by_cases hlt:i<xs.length
 ·refine .inr ⟨⟨xs,xs[i],q,by simp[hlt]⟩,Pv (i+ 1),fun σ' H' p'=>⟨xs.length-(i+ 1),by lia,rfl,hlt,p'⟩,fun v H' y=>?_⟩
  obtain⟨T,x,rfl,hT,rfl,hx⟩:=y
  exact hs i x σ H T (hx xs q) p hT
 ·have e:i=xs.length:=by lia
  subst e
  exact .inl ⟨⟨xs,q,rfl⟩,hd σ H p⟩
theorem AB {f:Str} {v:V} {r:List (Str×V)}:aB f ((f,v)::r)=some v:=by
 rw[bj,show(f==f)=true by simp]
theorem CO {f g:Str} {v:V} {r:List (Str×V)} (h:(f==g)=false):aB f ((g,v)::r)=aB f r:=by
 rw[bj,h]
def fP (n r w:Addr):List (Str×V):=[("names",.ref n),("roots",.ref r),("rows",.ref w)]
theorem rN (n r w:Addr):(fP n r w).lookup ("names":Str)=some (.ref n):=AB
theorem mQ (n r w:Addr):(fP n r w).lookup ("roots":Str)=some (.ref r):=(CO (by decide+kernel)).trans AB
theorem oo (n r w:Addr):(fP n r w).lookup ("rows":Str)=some (.ref w):=(CO (by decide+kernel)).trans ((CO (by decide+kernel)).trans AB)
def nI (k:Nat):V:= .int (k:Int)
structure PrA (C:Addr) (H:Hp) (p n r w dx:Addr) (xs:List V) (names:List Str) (roots:List Nat) (ρs:List Ro):Prop where
 o:H p=some (.ins C dx (fP n r w))
 n:H n=some (.lst (names.map V.str))
 r:H r=some (.lst (roots.map nI))
 w:H w=some (.lst xs)
 i:Ims H xs (ρs.map Ro.d)
theorem PrA.same {C:Addr} {H H':Hp} {p n r w dx:Addr} {xs:List V} {names:List Str} {roots:List Nat} {ρs:List Ro} (h:PrA C H p n r w dx xs names roots ρs) (s:gT H H'):PrA C H' p n r w dx xs names roots ρs:=⟨s _ _ h.o,s _ _ h.n,s _ _ h.r,s _ _ h.w,h.i.mono (gT.tk s)⟩
def G0 (names:List Str):Nat->(Str->Option Hm)
 |0=>fun _=>none
 |d+ 1=>match names[d]? with
  |some x=>wid (G0 names d) x ("def",(d:Int))
  |none=>G0 names d
structure zz (names:List Str) (roots:List Nat) (ρs:List Ro) (out:Nat->Str->Option Hm):Prop where
 nn:names.Nodup
 nl:names.length<=12
 rl:roots.length=names.length
 ok:∀ρ∈ρs,ρ.ok
 pn:ρs.length<=1000
 rlt:∀(i r:Nat),roots[i]?=some r->r<ρs.length
 root:∀(i r:Nat) (ρ:Ro),roots[i]?=some r->ρs[r]?=some ρ->out r=if ρ.isF=true then G0 names (i+ 1)else G0 names i
 kid:∀(k:Nat) (ρ:Ro) (j:Nat) (c:Int) (e:Option (Str×Hm)),ρs[k]?=some ρ->ρ.pl[j]?=some c->ρ.ex[j]?=some e->∃m:Nat,c=(m:Int)/\k<m/\out m=exG (out k) e
 reach:∀k:Nat,k<ρs.length->(∃i:Nat,roots[i]?=some k)\/∃(k':Nat) (ρ:Ro),k'<k/\ρs[k']?=some ρ/\(k:Int)∈ρ.pl
 nm:∀(k:Nat) (x:Str),ρs[k]?=some (.name x)->∃h,out k x=some h
def duo (out:Nat->Str->Option Hm) (k:Nat):Ro->Option Hm
 | .name x=>out k x
 |_=>none
def hoD:Option Hm->Dt
 |none=> .flat .non
 |some h=>hmD h
theorem uQ {H:Hp} {xs:List V} {ρs:List Ro} {k:Nat} {ρ:Ro} (h:Ims H xs (ρs.map Ro.d)) (e:ρs[k]?=some ρ):∃(t:Addr) (ys:List V),xs[k]?=some (.ref t)/\H t=some (.tup (.str ρ.s::ys))/\Ims H ys ρ.r/\Im H (.ref t) ρ.d:=by
 have lx:=h.length
 rw[aD]at lx
 have hk:=(au.mp e).1
 obtain⟨d,hd,him⟩:=mP h (bx (show k<xs.length by lia))
 rw[aM,e]at hd
 cases hd
 have h0:xs[k]?=some xs[k]:=bx (by lia)
 generalize xs[k]=v at h0 him
 have him':=him
 cases him with
 |@tup t ys _ et hs=>
  cases hs with
  |cons a hs=>
   cases a
   exact⟨t,_,h0,et,hs,him'⟩
def qg (C:Addr):Sp:=fun vs H Q _=>∃(p n r w dx:Addr) (xs:List V) (names:List Str) (roots:List Nat) (ρs:List Ro) (out:Nat->Str->Option Hm),vs=[.ref p]/\PrA C H p n r w dx xs names roots ρs/\zz names roots ρs out/\
 ∀d kvs H',gT H H'->H d=none->H' d=some (.dK kvs)->kvs.length<=12->(∀(i c:Nat),roots[i]?=some c->∃a,a≠d/\jL kvs (.inl (c:Int))=some (.ref a)/\Sc H' a (out c) 20)->Q (.ref d) H'
theorem qh (T:Txt K mg):iK P w K mg base CX0 2 T.a_root_scopes T.fd_root_scopes ["program"] (qg T.a_Program):=by
 have G_widened:=qJ (P:=P) (w:=w) (base:=base) T
 refine T.F_root_scopes.ok iO (fun vs H Q E h=>?_) (fun cdv A outer s H vs Q E hr h=>?_)
 ·obtain⟨p,n,r,w,dx,xs,names,roots,ρs,out,rfl,_⟩:=h
  rfl
 have hu:=wF hr
 obtain⟨p,n,r,w,dx,xs,names,roots,ρs,out,rfl,pr,gd,q⟩:=h
 refine⟨_,(gC (gR (i:=1) iO.nd rfl (.inl rfl) oF)
  (gC (gR (i:=2) iO.nd rfl (.inl rfl) oF)
  (gC (lU PassesOwn.never rfl (uA rfl T.z_enumerate (gB (jT T.cl_Program T.n_Program_names (cv 0)) gG)) (vi rfl (lO (jt (i:=3) iO.nd rfl (.inl rfl)) (lO (jt (i:=4) iO.nd rfl (.inl rfl)) qP)))
   (gC (gR (i:=5) iO.nd rfl (.inl rfl) (hU gX (jT T.cl_Program T.n_Program_roots (cv 0)) (cv 3) (fun _ _=>rfl)))
   (gC (gR (i:=6) iO.nd rfl (.inl rfl) (ia G_widened (hr.mono (by decide)) rfl T.m_widened T.k_widened T.b_widened .nil iX (gB (cv 2) (gB (cv 4) (gB (kO (gB gP (gB (cv 3) gG))) gG)))))
   (gC (m7 hu (cv 1) (cv 5) (zD (ie og (hU iY (hU gX (jT T.cl_Program T.n_Program_rows (cv 0)) (cv 5) (fun _ _=>rfl)) gH (fun _ _=>rfl)) gP (ic _)) (cv 6) (cv 2)) rfl)
   (gK (gR (i:=2) iO.nd rfl (.inl rfl) (cv 6)))))))
  (gK (hV (cv 1)))))),?_⟩
 have sl:sizeLine=16777216:=sizeLine_eq
 intro d hd
 have s1:=gJ hd (.dK [])
 have ed:(upd H d (.dK [])) d=some (.dK []):=gE
 dsimp only[iW]
 generalize upd H d (.dK [])=H1 at s1 ed⊢
 intro ae hae
 have s2:=gJ hae (.dK [])
 have ea:(upd H1 ae (.dK [])) ae=some (.dK []):=gE
 dsimp only[iW]
 generalize upd H1 ae (.dK [])=H2 at s2 ea⊢
 have nad:ae≠d:=(gL ed hae).symm
 have pr2:=pr.same (s1.trans s2)
 have nl:=gd.nl
 refine⟨_,⟨dx,_,pr2.o,rN _ _ _⟩,n,rfl,⟨_,SqL.of pr2.n⟩,rM (xs:=names.map V.str) (fun i σ H3=>∃(o3 o4 o5 o6:Option V) (ae:Addr) (kvs:List (Key×V)),σ=[some (.ref p),some (.ref d),some (.ref ae),o3,o4,o5,o6]/\gT H H3/\H3 d=some (.dK kvs)/\kvs.length<=i/\ae≠d/\Sc H3 ae (G0 names i) i/\∀(i' c:Nat),i'<i->roots[i']?=some c->∃a,a≠d/\jL kvs (.inl (c:Int))=some (.ref a)/\Sc H3 a (out c) 20)
  ⟨none,none,none,none,ae,[],rfl,s1.trans s2,s2 _ _ ed,c7 _,nad,⟨[],ea,c7 _,fun w=>rfl⟩,fun i' c h=>absurd h (dy _)⟩ (fun i σ H3 _ ⟨_,_,_,_,_,_,_,S,_⟩=>SqL.of (S _ _ pr.n)) ?_ ?_⟩
 ·rintro i v σ H3 t hx ⟨o3,o4,o5,o6,ae,kvs,rfl,S,ek,hk,nad,sca,hroots⟩ ht
  rw[aM]at hx
  obtain⟨x,hx',rfl⟩:=dF.mp hx
  clear hx
  have hx:=hx'
  have hi:=(au.mp hx).1
  have rl:=gd.rl
  obtain⟨c,hc⟩:∃c,roots[i]?=some c:=⟨_,bx (by lia)⟩
  have hcl:=gd.rlt i c hc
  obtain⟨ρ,hρ⟩:∃ρ,ρs[c]?=some ρ:=⟨_,bx hcl⟩
  have sT:=gJ ht (.tup [.int (i:Int),.str x])
  refine⟨t,_,rfl,SqT.of gE,rfl,_,_,rfl,_,_,rfl,rfl,?_⟩
  have S4:=S.trans sT
  generalize upd H3 t (.tup [.int (i:Int),.str x])=H4 at sT S4
  have pr4:=pr.same S4
  have hcI:(roots.map nI)[i]?=some (.int (c:Int)):=by rw[aM,hc];rfl
  refine⟨_,⟨dx,_,pr4.o,mQ _ _ _⟩,_,pr4.r,gO (gN hcI) ?_⟩
  refine⟨(by show 2<=sizeLine;decide),fun pp hpp=>?_⟩
  have s5:=gJ hpp (.tup [.str "def",.int (i:Int)])
  refine⟨ae,pp,G0 names i,i,x,("def",(i:Int)),rfl,(sca.same sT).same s5,by lia,gE,fun b H6 S6 hb sc6=>?_⟩
  have S36:=(sT.trans s5).trans S6
  have SH6:=S.trans S36
  have pr6:=pr.same SH6
  obtain⟨tr,ys,hxt,etr,_,_⟩:=uQ pr6.i hρ
  refine⟨_,⟨dx,_,pr6.o,oo _ _ _⟩,_,pr6.w,gO (gN hxt) ⟨_,etr,gO (gN (j:=0) rfl) ?_⟩⟩
  dsimp only[tC,cEq,onB]
  obtain⟨_,_,h3,_⟩:=ρ.hd (gd.ok ρ (aN hρ))
  rw[fW,h3]
  have nbd:b≠d:=(gL (s5 _ _ (sT _ _ ek)) hb).symm
  have g1:G0 names (i+ 1)=wid (G0 names i) x ("def",(i:Int)):=by rw[G0,hx]
  have hout:=gd.root i c ρ hc hρ
  have nx:∀z:Addr,z≠d->Sc H6 z (out c) 20->∃(a:Addr) (H':Hp),V.ref d= .ref a/\xn H6 a (.int (c:Int)) (.ref z) H'/\∃(o3 o4 o5 o6:Option V) (ae:Addr) (kvs:List (Key×V)),[some (V.ref p),some (.ref d),some (.ref b),some (.int (i:Int)),some (.str x),some (.int (c:Int)),some (.ref b)]=[some (V.ref p),some (.ref d),some (.ref ae),o3,o4,o5,o6]/\gT H H'/\H' d=some (.dK kvs)/\kvs.length<=i+ 1/\ae≠d/\Sc H' ae (G0 names (i+ 1)) (i+ 1)/\∀(i' c:Nat),i'<i+ 1->roots[i']?=some c->∃a,a≠d/\jL kvs (.inl (c:Int))=some (.ref a)/\Sc H' a (out c) 20:=fun z nzd hz=>by
   have e6:=S36 _ _ ek
   refine⟨d,_,rfl,xn.k (k:=Sum.inl (c:Int)) e6 (by lia),_,_,_,_,b,_,rfl,jc SH6 hd _,gE,cX (i0 _ _ _) (by lia),nbd,by rw[g1];exact sc6.upd e6 nbd,fun i' c' hi' hc'=>?_⟩
   by_cases y:c'=c
   ·rw[y]
    exact⟨z,nzd,by rw[jb,if_pos rfl],hz.upd e6 nzd⟩
   ·have:i'≠i:=fun z=>y (by rw[z,hc]at hc';exact(dB.inj hc').symm)
    obtain⟨a,h1,h2,h3⟩:=hroots i' c' (by lia) hc'
    exact⟨a,h1,by rw[jb,if_neg (fun z=>y (by injection z with z;lia))];exact h2,(h3.same S36).upd e6 h1⟩
  cases hF:ρ.isF with
  |true=>
   rw[hF,if_pos rfl,g1]at hout
   exact kE (nx b nbd (by rw[hout];exact sc6.le (by lia)))
  |false=>
   rw[hF,if_neg fN]at hout
   exact jO (nx ae nad (by rw[hout];exact(sca.same S36).le (by lia)))
 ·rintro σ H3 ⟨o3,o4,o5,o6,ae,kvs,rfl,S,ek,hk,nad,sca,hroots⟩
  rw[aD]at hk hroots
  refine q d kvs H3 S hd ek (by lia) fun i c hc=>?_
  have rl:=gd.rl
  exact hroots i c (by have:=(au.mp hc).1;lia) hc
def HoA (H:Hp) (xs:List V) (ρs:List Ro) (out:Nat->Str->Option Hm):Prop:=∀(k:Nat) (x:V) (ρ:Ro),xs[k]?=some x->ρs[k]?=some ρ->Im H x (hoD (duo out k ρ))
theorem Ro.nm_ne (ρ:Ro) (h:ρ.ok) (hn:∀x,ρ≠ .name x):ρ.s≠"name":=by
 cases ρ with
 |name x=>exact absurd rfl (hn x)
 |op s ks=>exact of_decide_eq_false (m5 _ h "name" (by decide+kernel) ⟨s,ks,rfl⟩)
 |num a=>exact(show("num":Str)≠"name" from by decide+kernel)
 |fn a b=>exact(show("fn":Str)≠"name" from by decide+kernel)
 |tag a b=>exact(show("tag":Str)≠"name" from by decide+kernel)
 |lt a b c=>exact(show("let":Str)≠"name" from by decide+kernel)
 |get a b=>exact(show("get":Str)≠"name" from by decide+kernel)
 |rcd a=>exact(show("rec":Str)≠"name" from by decide+kernel)
 |case a b=>exact(show("case":Str)≠"name" from by decide+kernel)
 |row a=>exact(show("row":Str)≠"name" from by decide+kernel)
theorem AD {H H7:Hp} {ρ:Ro} {zs:List V} {out:Nat->Str->Option Hm} {i:Nat} {Qx:VK} (rok:ρ.ok) (hzs:Ims H zs ρ.r) (hn:∀x,ρ= .name x->∃h,out i x=some h) (key:∀y,Im H7 y (hoD (duo out i ρ))->Qx y H7):
  (ρ.s≠"name"->Qx .non H7)/\(ρ.s="name"->∃(x:Str) (h:Hm),zs=[.str x]/\out i x=some h/\∀p,H7 p=some (.tup [.str h.1,.int h.2])->Qx (.ref p) H7):=by
 have no:(∀x,ρ≠ .name x)->duo out i ρ=none->(ρ.s≠"name"->Qx .non H7)/\(ρ.s="name"->∃(x:Str) (h:Hm),zs=[.str x]/\out i x=some h/\∀p,H7 p=some (.tup [.str h.1,.int h.2])->Qx (.ref p) H7):=fun h e=>⟨fun _=>key _ (by rw[e];exact .flat rfl),fun z=>absurd z (ρ.nm_ne rok h)⟩
 cases ρ with
 |name x=>
  refine⟨fun z=>absurd rfl z,fun _=>?_⟩
  obtain⟨h,hh⟩:=hn x rfl
  cases hzs with
  |cons a b=>
   cases a;cases b
   refine⟨x,h,rfl,hh,fun p hp=>key _ ?_⟩
   show Im H7 _ (hoD (out i x))
   rw[hh]
   exact .tup hp (.cons (.flat rfl) (.cons (.flat rfl) .nil))
 |_=>exact no (fun x z=>nomatch z) rfl
theorem y1 {H H7:Hp} {ρ:Ro} {zs:List V} {out:Nat->Str->Option Hm} {i:Nat} {Qx:VK} {E:XK} {t a:Addr} {n:Nat} {σ:St} (rok:ρ.ok) (hzs:Ims H zs ρ.r) (hn:∀x,ρ= .name x->∃h,out i x=some h) (et:H7 t=some (.tup (.str ρ.s::zs))) (sc:Sc H7 a (out i) n) (h4:σ[4]?=some (some (.ref t))) (h3:σ[3]?=some (some (.int (i:Int)))) (h5:σ[5]?=some (some (.ref a))) (key:∀y,Im H7 y (hoD (duo out i ρ))->Qx y H7):
  DO qK [] E (ui (cV 4) (ui (cV 3) (ui (cV 5) zI))) σ H7 Qx:=by
 show onV σ[4]? _
 rw[h4]
 show onV σ[3]? _
 rw[h3]
 show onV σ[5]? _
 rw[h5]
 exact⟨t,a,(i:Int),out i,n,ρ.s,zs,rfl,et,sc,AD rok hzs hn key⟩
theorem Bh {H:Hp} {l:Addr} {u o:HO} (e:H l=some u) (nt:∀zs,u≠ .tup zs):TK H (upd H l o):=fun a xs q=>by rw[gM (kU q e (fun z=>nt _ z.symm))];exact q
theorem Sc.updL {H:Hp} {a l:Addr} {g:Str->Option Hm} {n:Nat} {ys:List V} {o:HO} (h:Sc H a g n) (e:H l=some (.lst ys)):Sc (L2.Internal.upd H l o) a g n:=by
 obtain⟨kvs,e1,l',h⟩:=h
 refine⟨kvs,by rw[gM (kU e1 e (fun z=>nomatch z))];exact e1,l',fun w=>?_⟩
 have:=h w
 cases hg:g w with
 |none=>rw[hg]at this;exact this
 |some z=>
  rw[hg]at this
  obtain⟨t,h1,h2⟩:=this
  exact⟨t,h1,by rw[gM (kU h2 e (fun z=>nomatch z))];exact h2⟩
def uR (C:Addr):Sp:=fun vs H Q _=>∃(p n r w dx:Addr) (xs:List V) (names:List Str) (roots:List Nat) (ρs:List Ro) (out:Nat->Str->Option Hm),vs=[.ref p]/\PrA C H p n r w dx xs names roots ρs/\zz names roots ρs out/\
 ∀l ys H',gT H H'->H l=none->H' l=some (.lst ys)->ys.length=ρs.length->HoA H' ys ρs out->Q (.ref l) H'
theorem uS (T:Txt K mg):iK P w K mg base CX0 8 T.a_homes_of T.fd_homes_of ["program"] (uR T.a_Program):=by
 have G_refuse_twice:=pR (P:=P) (w:=w) (base:=base) T
 have G_root_scopes:=qh (P:=P) (w:=w) (base:=base) T
 have G_words_once:=rL (P:=P) (w:=w) (base:=base) T
 have G_home_of:=xh (P:=P) (w:=w) (base:=base) T
 have G_inner_scopes:=pU (P:=P) (w:=w) (base:=base) T
 refine T.F_homes_of.ok kA (fun vs H Q E h=>?_) (fun cdv A outer s H vs Q E hr h=>?_)
 ·obtain⟨p,n,r,w,dx,xs,names,roots,ρs,out,rfl,_⟩:=h
  rfl
 have hu:=wF hr
 obtain⟨p,n,r,w,dx,xs,names,roots,ρs,out,rfl,pr,gd,q⟩:=h
 refine⟨_,(gC (iu (ia G_refuse_twice (hr.mono (by decide)) rfl T.m_refuse_twice T.k_refuse_twice T.b_refuse_twice .nil iX (gB (jT T.cl_Program T.n_Program_names (cv 0)) gG)))
  (gC (gR (i:=1) kA.nd rfl (.inl rfl) (ia G_root_scopes (hr.mono (by decide)) rfl T.m_root_scopes T.k_root_scopes T.b_root_scopes .nil iX (gB (cv 0) gG)))
  (gC (gR (i:=2) kA.nd rfl (.inl rfl) (iL gG))
  (gC (lU PassesOwn.never rfl (uA rfl T.z_enumerate (gB (jT T.cl_Program T.n_Program_rows (cv 0)) gG)) (vi rfl (lO (jt (i:=3) kA.nd rfl (.inl rfl)) (lO (jt (i:=4) kA.nd rfl (.inl rfl)) qP)))
   (gC (gR (i:=5) kA.nd rfl (.inl rfl) (xY hu (cv 1) (cv 3) (fun _ _=>rfl)))
   (gC (iu (ia G_refuse_twice (hr.mono (by decide)) rfl T.m_refuse_twice T.k_refuse_twice T.b_refuse_twice .nil iX (gB (ia G_words_once (hr.mono (by decide)) rfl T.m_words_once T.k_words_once T.b_words_once .nil iX (gB (cv 4) gG)) gG)))
   (gC (iu (mq (lK fD fE fF iD (PE.mono (cv 2)) (gB (PE.mono (ia G_home_of (hr.mono (by decide)) rfl T.m_home_of T.k_home_of T.b_home_of .nil iX (gB (cv 4) (gB (cv 3) (gB (cv 5) gG))))) gG))))
   (gK (iu (lK PySem.F.plainAttrs_dict fz PySem.F.type_dict_update yu (cv 1) (gB (ia G_inner_scopes (hr.mono (by decide)) rfl T.m_inner_scopes T.k_inner_scopes T.b_inner_scopes .nil iX (gB (cv 4) (gB (cv 5) gG))) gG))))))))
  (gK (hV (cv 2))))))),?_⟩
 have sl:sizeLine=16777216:=sizeLine_eq
 have nl:=gd.nl
 have pn:=gd.pn
 refine⟨_,⟨dx,_,pr.o,rN _ _ _⟩,n,names,rfl,pr.n,gd.nn,by lia,fun H1 S1=>?_⟩
 refine⟨p,n,r,w,dx,xs,names,roots,ρs,out,rfl,pr.same S1,gd,fun d kvs H2 S2 hd ed hk hroots=>?_⟩
 refine⟨(by show 0<=sizeLine;decide),fun lh hlh=>?_⟩
 have s3:=gJ hlh (.lst [])
 have el:(upd H2 lh (.lst [])) lh=some (.lst []):=gE
 dsimp only[iW]
 generalize upd H2 lh (.lst [])=H3 at s3 el⊢
 have S13:=(S1.trans S2).trans s3
 have hd0:H d=none:=S1.free hd
 have hl0:H lh=none:=(S1.trans S2).free hlh
 have ndl:d≠lh:=gL ed hlh
 have pr3:=pr.same S13
 have lx:=pr.i.length
 rw[aD]at lx
 refine⟨_,⟨dx,_,pr3.o,oo _ _ _⟩,w,rfl,⟨_,SqL.of pr3.w⟩,rM (xs:=xs) (fun i σ H4=>∃(o3 o4 o5:Option V) (kvs:List (Key×V)) (ys:List V),σ=[some (.ref p),some (.ref d),some (.ref lh),o3,o4,o5]/\gT H H4/\H4 d=some (.dK kvs)/\kvs.length<=12+ 300*i/\H4 lh=some (.lst ys)/\ys.length=i/\HoA H4 ys ρs out/\
   ∀c:Nat,((∃i':Nat,roots[i']?=some c)\/∃(k':Nat) (ρ:Ro),k'<i/\ρs[k']?=some ρ/\(c:Int)∈ρ.pl)->∃a,a≠d/\jL kvs (.inl (c:Int))=some (.ref a)/\Sc H4 a (out c) (20+c))
  ⟨none,none,none,kvs,[],rfl,S13,s3 _ _ ed,by lia,el,rfl,fun k x ρ h=>(by cases h),fun c hc=>?_⟩ (fun i σ H4 _ ⟨_,_,_,_,_,_,S,_⟩=>SqL.of (S _ _ pr.w)) ?_ ?_⟩
 ·rcases hc with⟨i,hi⟩|⟨k',ρ,h,_⟩
  ·obtain⟨a,h1,h2,h3⟩:=hroots i c hi
   exact⟨a,h1,h2,(h3.same s3).le (by lia)⟩
  ·exact absurd h (dy _)
 ·rintro i v σ H4 t hx ⟨o3,o4,o5,kvs,ys,rfl,S,ek,hk,el,hyl,ho,hsc⟩ ht
  have hi:=(au.mp hx).1
  obtain⟨ρ,hρ⟩:∃ρ,ρs[i]?=some ρ:=⟨_,bx (by lia)⟩
  have rok:=gd.ok ρ (aN hρ)
  obtain⟨tr,zs,hxt,etr,hzs,him⟩:=uQ pr.i hρ
  rw[hxt]at hx
  cases hx
  obtain⟨a,nad,hva,sca⟩:=hsc i (gd.reach i (by lia))
  have sT:=gJ ht (.tup [.int (i:Int),.ref tr])
  refine⟨t,_,rfl,SqT.of gE,rfl,_,_,rfl,_,_,rfl,rfl,?_⟩
  have S5:=S.trans sT
  generalize upd H4 t (.tup [.int (i:Int),.ref tr])=H5 at sT S5
  have g:=xm.k (k:=(Sum.inl (i:Int):Key)) (sT _ _ ek)
  rw[hva]at g
  refine⟨d,_,rfl,g,?_⟩
  refine⟨tr,ρ,rfl,him.mono (gT.tk S5),rok,fun lw H6 S6 hlw e6=>⟨lw,ρ.ws,rfl,e6,(ρ.ws_nd rok).1,cX (ρ.ws_nd rok).2 (by decide),fun H7 S7=>?_⟩⟩
  have S47:=(sT.trans S6).trans S7
  have S07:=S.trans S47
  have el7:=S47 _ _ el
  have ek7:=S47 _ _ ek
  have sca7:=sca.same S47
  refine⟨⟨_,el7⟩,y1 rok hzs (fun x e=>gd.nm i x (by rw[hρ,e])) (S07 _ _ etr) sca7 rfl rfl rfl fun y hy=>?_⟩
  refine⟨_,el7,by lia,?_⟩
  have S08:=jc (o:= .lst (ys++[y])) S07 hl0
  have tk8:TK H7 (upd H7 lh (.lst (ys++[y]))):=Bh el7 (fun zs z=>nomatch z)
  have ek8:(upd H7 lh (.lst (ys++[y]))) d=some (.dK kvs):=by rw[gM ndl];exact ek7
  have el8:(upd H7 lh (.lst (ys++[y]))) lh=some (.lst (ys++[y])):=gE
  have sc8:∀{z:Addr} {g:Str->Option Hm} {m:Nat},Sc H4 z g m->Sc (upd H7 lh (.lst (ys++[y]))) z g m:=fun h=>(h.same S47).updL el7
  generalize upd H7 lh (.lst (ys++[y]))=H8 at S08 tk8 ek8 el8 sc8
  refine⟨.inr (.inr (.inl ⟨rfl,.inl ⟨_,ek8⟩⟩)),tr,a,ρ,out i,20+i,rfl,him.mono (gT.tk S08),rok,sc8 sca,by lia,fun d2 kvs2 H9 S9 hd2 e9 nd9 l9 in9=>⟨d,d2,kvs,kvs2,rfl,rfl,gL ek8 hd2,S9 _ _ ek8,e9,by lia,?_⟩⟩
  have tk9:TK H9 (upd H9 d (.dK (nJ kvs kvs2))):=Bh (S9 _ _ ek8) (fun zs z=>nomatch z)
  have tkA:TK H4 (upd H9 d (.dK (nJ kvs kvs2))):=fun b u e=>tk9 _ _ (S9 _ _ (tk8 _ _ (S47 _ _ e)))
  refine⟨_,_,_,_,ys++[y],rfl,jc (S08.trans S9) hd0 _,gE,cX (lY _ _) (by lia),by rw[gM ndl.symm];exact S9 _ _ el8,by rw[aO,hyl];rfl,?_,?_⟩
  ·intro k x ρ' hx hρ'
   by_cases hki:k<ys.length
   ·rw[aK hki]at hx
    exact(ho k x ρ' hx hρ').mono tkA
   ·have hk2:=(au.mp hx).1
    rw[aO,a9]at hk2
    have e:k=ys.length:=by lia
    subst e
    rw[aJ (c7 _),dw]at hx
    cases hx
    rw[hyl]at hρ'⊢
    rw[hρ]at hρ'
    cases hρ'
    exact hy.mono fun b u e=>tk9 _ _ (S9 _ _ (tk8 _ _ e))
  ·intro c hc
   rw[pS _ _ _ nd9]
   rcases in9 (c:Int)with⟨h1,h2⟩|⟨j,e,a',hW,hj,he,hv,hs⟩
   ·rw[h1]
    obtain⟨a',g1,g2,g3⟩:=hsc c (by
     rcases hc with h|⟨k',ρ',k1,k2,k3⟩
     ·exact .inl h
     ·refine .inr ⟨k',ρ',?_,k2,k3⟩
      by_cases z:k'=i
      ·rw[z,hρ]at k2
       cases k2
       exact absurd k3 h2
      ·lia)
    exact⟨a',g1,g2,((sc8 g3).same S9).upd (S9 _ _ ek8) g1⟩
   ·rw[hv]
    have na:a'≠d:=by
     rcases hW with h|h
     ·rw[h];exact nad
     ·exact(gL ek8 h).symm
    obtain⟨m,e1,e2,e3⟩:=gd.kid i ρ j _ e hρ hj he
    have em:c=m:=by lia
    subst em
    exact⟨a',na,rfl,by rw[e3];exact(hs.upd (S9 _ _ ek8) na).le (by lia)⟩
 ·rintro σ H4 ⟨o3,o4,o5,kvs,ys,rfl,S,ek,hk,el,hyl,ho,hsc⟩
  exact q lh ys H4 S hl0 el (by lia) ho
inductive Kn
 |num (n:Int)
 |name (w:Str)
 |fn (w:Str)
 |tag (w:Str)
 |lt (w:Str)
 |get (w:Str)
 |rcd (l:List Str)
 |case (l:List (Str×Str))
 |row (m:Nat)
 |op (s:Str) (m:Nat)
def Kn.s:Kn->Str
 | .num _=>"num"
 | .name _=>"name"
 | .fn _=>"fn"
 | .tag _=>"tag"
 | .lt _=>"let"
 | .get _=>"get"
 | .rcd _=>"rec"
 | .case _=>"case"
 | .row _=>"row"
 | .op s _=>s
def agD (p:Str×Str):Dt:= .tup [sD p.1,sD p.2]
def Kn.mo:Kn->Dt
 | .num n=>kD n
 | .name w=>sD w
 | .fn w=>sD w
 | .tag w=>sD w
 | .lt w=>sD w
 | .get w=>sD w
 | .rcd l=> .lst (l.map sD)
 | .case l=> .lst (l.map agD)
 | .row _=>sD ""
 | .op _ _=>sD ""
abbrev Hol:=Option Str×Str
def hoV:Option Str->V
 |none=> .non
 |some w=> .str w
def hlD (h:Hol):Dt:= .lst [.flat (hoV h.1),sD h.2]
def p0:Hol:=(none,"")
def Kn.ho:Kn->List Hol
 | .num _=>[]
 | .name _=>[]
 | .fn w=>[(some w,"fn")]
 | .tag _=>[p0]
 | .lt w=>[p0,(some w,"let")]
 | .get _=>[p0]
 | .rcd l=>l.map fun _=>p0
 | .case l=>p0::l.map fun p=>(some p.2,"arm")
 | .row m=>aH m p0
 | .op _ m=>aH m p0
def Kn.d (κ:Kn):Dt:= .lst [sD κ.s,κ.mo,.lst (κ.ho.map hlD)]
def Kn.ok:Kn->Prop
 | .rcd l=>l.length<=100/\l.Nodup
 | .case l=>l.length<=100/\(l.map Prod.fst).Nodup
 | .row m=>m<=100
 | .op s m=>s∈plain/\m<=100
 |_=>True
def mkR:Kn->List Int->Ro
 | .num n,_=> .num n
 | .name w,_=> .name w
 | .fn w,ks=> .fn w (ks.getD 0 0)
 | .tag w,ks=> .tag w (ks.getD 0 0)
 | .lt w,ks=> .lt w (ks.getD 0 0) (ks.getD 1 0)
 | .get w,ks=> .get (ks.getD 0 0) w
 | .rcd l,ks=> .rcd (l.zip ks)
 | .case l,ks=> .case (ks.getD 0 0) ((l.zip ks.tail).map fun p=>(p.1.1,p.1.2,p.2))
 | .row _,ks=> .row ks
 | .op s _,ks=> .op s ks
theorem Kn.ho_le (κ:Kn) (h:κ.ok):κ.ho.length<=101:=by
 cases κ with
 |rcd l=>show(l.map fun _=>p0).length<=_;rw[aD];exact cX h.1 (by decide)
 |case l=>show(p0::l.map fun p=>((some p.2,"arm"):Hol)).length<=_;rw[aA,aD];have:=h.1;lia
 |row m=>show(aH m p0).length<=_;rw[aP];exact cX h (by decide)
 |op s m=>show(aH m p0).length<=_;rw[aP];exact cX h.2 (by decide)
 |_=>simp[Kn.ho]
theorem mE {α β:Type}:∀(l:List α) (m:List β),l.length=m.length->(l.zip m).map Prod.snd=m
 |[],[],_=>rfl
 |a::l,b::m,h=>by rw[bR,aC,mE l m (by simpa using h)]
theorem mF {α β:Type}:∀(l:List α) (m:List β),l.length=m.length->(l.zip m).map Prod.fst=l
 |[],[],_=>rfl
 |a::l,b::m,h=>by rw[bR,aC,mF l m (by simpa using h)]
theorem Bi {κ:Kn} {ks:List Int} (h:κ.ok) (hl:ks.length=κ.ho.length):(mkR κ ks).ok:=by
 cases κ with
 |rcd l=>
  have hl':ks.length=l.length:=by rw[hl];show(l.map fun _=>p0).length=_;rw[aD]
  show(l.zip ks).length<=100/\((l.zip ks).map Prod.fst).Nodup
  rw[mF _ _ hl'.symm,bT]
  exact⟨by have:=h.1;lia,h.2⟩
 |case l=>
  have hl':ks.tail.length=l.length:=by rw[List.length_tail,hl];show(p0::l.map fun p=>((some p.2,"arm"):Hol)).length-1=_;rw[aA,aD];lia
  show((l.zip ks.tail).map fun p=>(p.1.1,p.1.2,p.2)).length<=100/\(((l.zip ks.tail).map fun p=>(p.1.1,p.1.2,p.2)).map Prod.fst).Nodup
  have e:((l.zip ks.tail).map fun p=>(p.1.1,p.1.2,p.2)).map Prod.fst=l.map Prod.fst:=by
   rw[bA]
   show(l.zip ks.tail).map (Prod.fst∘Prod.fst)=_
   rw[<-bA,mF _ _ hl'.symm]
  rw[e,aD,bT]
  exact⟨by have:=h.1;lia,h.2⟩
 |row m=>show ks.length<=100;rw[hl];show(aH m p0).length<=_;rw[aP];exact h
 |op s m=>refine⟨h.1,?_⟩;show ks.length<=100;rw[hl];show(aH m p0).length<=_;rw[aP];exact h.2
 |_=>trivial
theorem CP {ks:List Int} (h:ks.length=1):ks=[ks.getD 0 0]:=by
 match ks,h with
 |[a],_=>rfl
theorem GC {ks:List Int} (h:ks.length=2):ks=[ks.getD 0 0,ks.getD 1 0]:=by
 match ks,h with
 |[a,b],_=>rfl
theorem GD {ks:List Int} {n:Nat} (h:ks.length=n+ 1):ks=ks.getD 0 0::ks.tail:=by
 match ks,h with
 |a::r,_=>rfl
theorem vQ {κ:Kn} {ks:List Int} (hl:ks.length=κ.ho.length):(mkR κ ks).pl=ks:=by
 cases κ with
 |num n=>match ks,hl with|[],_=>rfl
 |name n=>match ks,hl with|[],_=>rfl
 |fn w=>exact(CP hl).symm
 |tag w=>exact(CP hl).symm
 |get w=>exact(CP hl).symm
 |lt w=>exact(GC hl).symm
 |rcd l=>
  have hl':ks.length=l.length:=by rw[hl];show(l.map fun _=>p0).length=_;rw[aD]
  exact mE _ _ hl'.symm
 |case l=>
  have hl0:ks.length=l.length+ 1:=by rw[hl];show(p0::l.map fun p=>((some p.2,"arm"):Hol)).length=_;rw[aA,aD]
  have hl':l.length=ks.tail.length:=by rw[List.length_tail,hl0];lia
  show ks.getD 0 0::(((l.zip ks.tail).map fun p=>(p.1.1,p.1.2,p.2)).map fun p=>p.2.2)=ks
  rw[bA]
  show ks.getD 0 0::((l.zip ks.tail).map Prod.snd)=ks
  rw[mE _ _ hl',<-GD hl0]
 |row m=>rfl
 |op s m=>rfl
def hoX (f q:Int):Hol->Option (Str×Hm)
 |(none,_)=>none
 |(some w,how)=>some (w,(how,if how=("let":Str)then f else q))
theorem EO {κ:Kn} {ks:List Int} (hl:ks.length=κ.ho.length) (j:Nat) (c:Int) (e:Option (Str×Hm)) (hc:ks[j]?=some c) (he:(mkR κ ks).ex[j]?=some e):∃h,κ.ho[j]?=some h/\e=hoX (ks.getD 0 0) c h:=by
 have pl:=vQ hl
 have gen:(∀h∈κ.ho,h=p0)->((mkR κ ks).ex=(mkR κ ks).pl.map fun _=>none)->∃h,κ.ho[j]?=some h/\e=hoX (ks.getD 0 0) c h:=fun h1 h2=>by
  rw[h2,pl,aM,hc]at he
  have hj:=(au.mp hc).1
  obtain⟨h,hh⟩:∃h,κ.ho[j]?=some h:=⟨_,bx (by lia)⟩
  refine⟨h,hh,?_⟩
  rw[h1 h (aN hh)]
  exact(dB.inj he).symm
 cases κ with
 |num n=>match ks,hl with|[],_=>cases hc
 |name n=>match ks,hl with|[],_=>cases hc
 |tag w=>exact gen (by intro h hh;exact bg.mp hh) rfl
 |get w=>exact gen (by intro h hh;exact bg.mp hh) rfl
 |rcd l=>exact gen (by intro h hh;obtain⟨_,_,rfl⟩:=bb.mp hh;rfl) rfl
 |row m=>exact gen (by intro h hh;exact(cm.mp hh).2) rfl
 |op s m=>exact gen (by intro h hh;exact(cm.mp hh).2) rfl
 |fn w=>
  match ks,hl,j with
  |[a],_,0=>
   cases hc;cases he
   refine⟨_,rfl,?_⟩
   show some (w,(("fn":Str),c))=some (w,(("fn":Str),if("fn":Str)="let" then c else c))
   rw[if_neg (by decide+kernel)]
  |[a],_,j+ 1=>cases hc
 |lt w=>
  match ks,hl,j with
  |[a,b],_,0=>cases hc;cases he;exact⟨_,rfl,rfl⟩
  |[a,b],_,1=>
   cases hc;cases he
   refine⟨_,rfl,?_⟩
   show some (w,(("let":Str),a))=some (w,(("let":Str),if("let":Str)="let" then a else c))
   rw[if_pos rfl]
  |[a,b],_,j+ 2=>cases hc
 |case l=>
  have hl0:ks.length=l.length+ 1:=by rw[hl];show(p0::l.map fun p=>((some p.2,"arm"):Hol)).length=_;rw[aA,aD]
  match ks,hl0,j with
  |a::ks,hl0,0=>cases hc;cases he;exact⟨_,rfl,rfl⟩
  |a::ks,hl0,j+ 1=>
   rw[bC]at hc
   have he':(none::((l.zip ks).map fun p=>(p.1.1,p.1.2,p.2)).map fun p=>(some (p.2.1,("arm",p.2.2)):Option (Str×Hm)))[j+ 1]?=some e:=he
   rw[bC,bA,aM]at he'
   have hj:=(au.mp hc).1
   rw[aA]at hl0
   obtain⟨p,hp⟩:∃p,l[j]?=some p:=⟨_,bx (by lia)⟩
   have hz:(l.zip ks)[j]?=some (p,c):=by rw[List.getElem?_zip_eq_some];exact⟨hp,hc⟩
   rw[hz]at he'
   refine⟨(some p.2,"arm"),?_,?_⟩
   ·show(p0::l.map fun p=>((some p.2,"arm"):Hol))[j+ 1]?=_
    rw[bC,aM,hp]
    rfl
   ·have e':e=some (p.2,(("arm":Str),c)):=(dB.inj he').symm
    rw[e']
    show some (p.2,(("arm":Str),c))=some (p.2,(("arm":Str),if("arm":Str)="let" then(a::ks).getD 0 0 else c))
    rw[if_neg (by decide+kernel)]
theorem CQ (κ:Kn) (ks:List Int):(mkR κ ks).isF=(match κ with| .fn _=>true|_=>false):=by cases κ<;>rfl
def look (l:List (Str×Hm)):Str->Option Hm:=l.foldl (fun g p=>wid g p.1 p.2) (fun _=>none)
theorem mG (l:List (Str×Hm)) (p:Str×Hm):look (l++[p])=wid (look l) p.1 p.2:=by
 unfold look
 rw[List.foldl_append]
 rfl
theorem tR:∀(l:List (Str×Hm)) (g:Str->Option Hm) (w:Str),(w∈l.map Prod.fst\/∃h,g w=some h)->∃h,(l.foldl (fun g p=>wid g p.1 p.2) g) w=some h
 |[],g,w,h=>by
  rcases h with h|h
  ·cases h
  ·exact h
 |p::l,g,w,h=>by
  refine tR l (wid g p.1 p.2) w ?_
  by_cases e:w=p.1
  ·exact .inr ⟨p.2,by unfold wid;rw[if_pos e]⟩
  ·rcases h with h|⟨x,h⟩
   ·rcases aj.mp (show w∈p.1::l.map Prod.fst from h)with h|h
    ·exact absurd h e
    ·exact .inl h
   ·exact .inr ⟨x,by unfold wid;rw[if_neg e];exact h⟩
theorem AE (l:List (Str×Hm)) (w:Str) (h:w∈l.map Prod.fst):∃h,look l w=some h:=tR l _ w (.inl h)
def exL (f q:Int) (h:Hol):List (Str×Hm):=match hoX f q h with
 |none=>[]
 |some p=>[p]
theorem CS (l:List (Str×Hm)) (f q:Int) (h:Hol):look (l++exL f q h)=exG (look l) (hoX f q h):=by
 unfold exL
 cases hoX f q h with
 |none=>rw[aE];rfl
 |some p=>rw[mG];rfl
def defs (names:List Str) (i:Nat):List (Str×Hm):=(aa i).map fun d=>(names.getD d "",(("def":Str),(d:Int)))
theorem nU (names:List Str):∀i,i<=names.length->look (defs names i)=G0 names i
 |0,_=>rfl
 |i+ 1,h=>by
  unfold defs
  rw[b8,bh]
  show look (defs names i++[(names.getD i "",(("def":Str),(i:Int)))])=_
  rw[mG,nU names i (by lia),G0,bo,bx (show i<names.length by lia)]
  rfl
theorem rO (names more:List Str) (i:Nat) (h:i<=names.length):defs (names++more) i=defs names i:=by
 unfold defs
 refine bU fun d hd=>?_
 have:=af.mp hd
 rw[bo,bo,aK (by lia)]
structure Nd where
 κ:Kn
 kids:List Nat
 out:List (Str×Hm)
structure Td where
 held:List (Str×Hm)
 ho:Hol
 par:Int
 dep:Int
 ix:Nat
def Nd.isF (nd:Nd):Bool:=match nd.κ with
 | .fn _=>true
 |_=>false
def vR (κ:Kn) (out:List (Str×Hm)) (n:Nat) (dep:Int):List Td:=κ.ho.zipIdx.map fun p=>⟨out,p.1,(n:Int),dep,p.2⟩
theorem oN (κ:Kn) (out:List (Str×Hm)) (n:Nat) (dep:Int):(vR κ out n dep).length=κ.ho.length:=by unfold vR;rw[aD,List.length_zipIdx]
theorem y3 (κ:Kn) (out:List (Str×Hm)) (n:Nat) (dep:Int):(vR κ out n dep).map (·.ix)=cq 0 κ.ho.length:=by
 unfold vR
 rw[bA]
 show κ.ho.zipIdx.map Prod.snd=_
 exact List.zipIdx_map_snd ..
theorem jF {κ:Kn} {out:List (Str×Hm)} {n:Nat} {dep:Int} {t:Td} (h:t∈vR κ out n dep):t.par=(n:Int)/\t.held=out/\κ.ho[t.ix]?=some t.ho:=by
 obtain⟨p,hp,rfl⟩:=bb.mp h
 obtain⟨a,b⟩:=p
 have:=List.mem_zipIdx_iff_getElem?.mp hp
 exact⟨rfl,rfl,this⟩
def onP (p:Nat) (t:Td):Bool:=decide (t.par=(p:Int))
structure MI0 (names:List Str) (roots:List Nat) (L:List Nd) (T:List Td):Prop where
 nl:names.length<=12
 rl:roots.length=names.length
 sz:L.length+T.length<=150
 ok:∀nd∈L,nd.κ.ok
 seg:∀(p:Nat) (nd:Nd),L[p]?=some nd->(T.filter (onP p)).map (·.ix)=cq nd.kids.length (nd.κ.ho.length-nd.kids.length)/\nd.kids.length<=nd.κ.ho.length
 tds:∀t∈T,∃(p:Nat) (nd:Nd),t.par=(p:Int)/\L[p]?=some nd/\nd.κ.ho[t.ix]?=some t.ho/\t.held=nd.out
 fst:∀(p:Nat) (nd:Nd),L[p]?=some nd->(nd.kids≠[]->nd.kids[0]?=some (p+ 1))/\(nd.kids=[]->nd.κ.ho≠[]->p+ 1=L.length/\∃t T',T=t::T'/\t.par=(p:Int))
 kid:∀(p:Nat) (nd:Nd) (j c:Nat),L[p]?=some nd->nd.kids[j]?=some c->p<c/\∃(h:Hol) (ndc:Nd),nd.κ.ho[j]?=some h/\L[c]?=some ndc/\ndc.out=nd.out++exL ((p+ 1:Nat):Int) (c:Int) h
 reach:∀k,k<L.length->(∃i:Nat,roots[i]?=some k)\/∃(p:Nat) (nd:Nd),p<k/\L[p]?=some nd/\k∈nd.kids
 root:∀(i r:Nat),roots[i]?=some r->∃nd:Nd,L[r]?=some nd/\nd.out=defs names i++(if nd.isF=true then[(names.getD i "",(("def":Str),(i:Int)))]else[])
 nm:∀(k:Nat) (nd:Nd) (w:Str),L[k]?=some nd->nd.κ= .name w->w∈nd.out.map Prod.fst
theorem MI0.nil:MI0 [] [] [] [] where
 nl:=by decide
 rl:=rfl
 sz:=by decide
 ok:=fun nd h=>by cases h
 seg:=fun p nd h=>by cases h
 tds:=fun t h=>by cases h
 fst:=fun p nd h=>by cases h
 kid:=fun p nd j c h=>by cases h
 reach:=fun k h=>absurd h (dy _)
 root:=fun i r h=>by cases h
 nm:=fun k nd w h=>by cases h
theorem y4 {κ:Kn} {out:List (Str×Hm)} {n:Nat} {dep:Int} (p:Nat):(vR κ out n dep).filter (onP p)=if p=n then vR κ out n dep else[]:=by
 by_cases h:p=n
 ·rw[if_pos h]
  refine bV.mpr fun t ht=>?_
  exact decide_eq_true (by rw[(jF ht).1,h])
 ·rw[if_neg h]
  refine cu.mpr fun t ht=>?_
  have:¬t.par=(p:Int):=by rw[(jF ht).1];lia
  simp[onP,this]
theorem MI0.rootStep {names:List Str} {roots:List Nat} {L:List Nd} {κ:Kn} {x:Str} {dep:Int} (m:MI0 names roots L []) (hx:names.length<12) (hL:L.length<=140) (ok:κ.ok) (h8:κ.ho.length<=8) (hn:∀w,κ= .name w->w∈(defs names names.length).map Prod.fst) {out:List (Str×Hm)}
  (ho:out=defs names names.length++(if(Nd.mk κ [] []).isF=true then[(x,(("def":Str),(names.length:Int)))]else[])):MI0 (names++[x]) (roots++[L.length]) (L++[⟨κ,[],out⟩]) (vR κ out L.length dep) where
 nl:=by rw[aO,a9];lia
 rl:=by rw[aO,aO,m.rl];rfl
 sz:=by rw[aO,a9,oN];lia
 ok:=fun nd h=>by
  rcases ao.mp h with h|h
  ·exact m.ok nd h
  ·rw[bg]at h;subst h;exact ok
 seg:=fun p nd h=>by
  rw[y4]
  by_cases hp:p<L.length
  ·rw[aK hp]at h
   rw[if_neg (by lia)]
   exact m.seg p nd h
  ·have e:p=L.length:=by
    have:=(au.mp h).1
    rw[aO,a9]at this
    lia
   subst e
   rw[aJ (c7 _),dw]at h
   cases h
   rw[if_pos rfl,y3]
   exact⟨rfl,c8 _⟩
 tds:=fun t ht=>by
  obtain⟨h1,h2,h3⟩:=jF ht
  exact⟨L.length,_,h1,by rw[aJ (c7 _),dw];rfl,h3,h2⟩
 fst:=fun p nd h=>by
  by_cases hp:p<L.length
  ·rw[aK hp]at h
   refine⟨(m.fst p nd h).1,fun h1 h2=>?_⟩
   obtain⟨_,t,T',e,_⟩:=(m.fst p nd h).2 h1 h2
   cases e
  ·have e:p=L.length:=by
    have:=(au.mp h).1
    rw[aO,a9]at this
    lia
   subst e
   rw[aJ (c7 _),dw]at h
   cases h
   refine⟨fun z=>absurd rfl z,fun _ h2=>⟨by rw[aO];rfl,?_⟩⟩
   have hl:=oN κ out L.length dep
   cases hT:vR κ out L.length dep with
   |nil=>rw[hT]at hl;exact absurd (bS hl.symm) h2
   |cons t T'=>exact⟨t,T',rfl,(jF (by rw[hT];exact ah)).1⟩
 kid:=fun p nd j c h hj=>by
  by_cases hp:p<L.length
  ·rw[aK hp]at h
   obtain⟨h1,h',ndc,h2,h3,h4⟩:=m.kid p nd j c h hj
   exact⟨h1,h',ndc,h2,by rw[aK (au.mp h3).1];exact h3,h4⟩
  ·have e:p=L.length:=by
    have:=(au.mp h).1
    rw[aO,a9]at this
    lia
   subst e
   rw[aJ (c7 _),dw]at h
   cases h
   cases hj
 reach:=fun k hk=>by
  rw[aO,a9]at hk
  by_cases e:k<L.length
  ·rcases m.reach k e with⟨i,hi⟩|⟨p,nd,h1,h2,h3⟩
   ·exact .inl ⟨i,by rw[aK (au.mp hi).1];exact hi⟩
   ·exact .inr ⟨p,nd,h1,by rw[aK (by lia)];exact h2,h3⟩
  ·have e:k=L.length:=by lia
   subst e
   exact .inl ⟨roots.length,by rw[aJ (c7 _),dw];rfl⟩
 root:=fun i r h=>by
  by_cases hi:i<roots.length
  ·rw[aK hi]at h
   obtain⟨nd,h1,h2⟩:=m.root i r h
   have rl:=m.rl
   refine⟨nd,by rw[aK (au.mp h1).1];exact h1,?_⟩
   rw[h2,rO _ _ _ (by lia),bo,bo,aK (by lia)]
  ·have e:i=roots.length:=by
    have:=(au.mp h).1
    rw[aO,a9]at this
    lia
   subst e
   rw[aJ (c7 _),dw]at h
   cases h
   refine⟨_,by rw[aJ (c7 _),dw];rfl,?_⟩
   show out=_
   rw[ho,m.rl,rO _ _ _ (c7 _),bo,aJ (c7 _),dw]
   rfl
 nm:=fun k nd w h e=>by
  by_cases hp:k<L.length
  ·rw[aK hp]at h
   exact m.nm k nd w h e
  ·have e':k=L.length:=by
    have:=(au.mp h).1
    rw[aO,a9]at this
    lia
   subst e'
   rw[aJ (c7 _),dw]at h
   cases h
   have e:κ= .name w:=e
   show w∈out.map Prod.fst
   rw[ho,bh]
   exact aq _ (hn w e)
def oy (L:List Nd) (p n:Nat):List Nd:=L.modify p fun nd=>⟨nd.κ,nd.kids++[n],nd.out⟩
theorem iZ (L:List Nd) (p n:Nat):(oy L p n).length=L.length:=List.length_modify ..
theorem mS {L:List Nd} {p n k:Nat} {nd:Nd} (h:(oy L p n)[k]?=some nd):∃nd0,L[k]?=some nd0/\nd=if k=p then⟨nd0.κ,nd0.kids++[n],nd0.out⟩else nd0:=by
 unfold oy at h
 rw[cw]at h
 obtain⟨nd0,h1,h2⟩:=dF.mp h
 refine⟨nd0,h1,?_⟩
 rw[<-h2]
 by_cases e:k=p
 ·rw[if_pos e,if_pos e.symm]
 ·rw[if_neg e,if_neg (fun z=>e z.symm)]
theorem rP {L:List Nd} {p n k:Nat} {nd0:Nd} (h:L[k]?=some nd0):(oy L p n)[k]?=some (if k=p then⟨nd0.κ,nd0.kids++[n],nd0.out⟩else nd0):=by
 unfold oy
 rw[cw,h]
 show some (if p=k then _ else _)=_
 by_cases e:k=p
 ·rw[if_pos e,if_pos e.symm]
 ·rw[if_neg e,if_neg (fun z=>e z.symm)]
theorem nV {L:List Nd} {p n k:Nat} {nd0:Nd} (h:L[k]?=some nd0):∃nd,(oy L p n)[k]?=some nd/\nd.out=nd0.out/\nd.κ=nd0.κ/\(∀j∈nd0.kids,j∈nd.kids):=by
 refine⟨_,rP h,?_⟩
 split
 ·exact⟨rfl,rfl,fun j hj=>aq _ hj⟩
 ·exact⟨rfl,rfl,fun j hj=>hj⟩
theorem MI0.kidStep {names:List Str} {roots:List Nat} {L:List Nd} {T:List Td} {t:Td} {κ:Kn} {dep:Int} {p:Nat} {nd:Nd} (m:MI0 names roots L (t::T)) (tp:t.par=(p:Int)) (hp:L[p]?=some nd) (ok:κ.ok) (h8:κ.ho.length<=8) (hr:κ.ho≠[]->L.length+T.length<=141) {out:List (Str×Hm)}
  (ho:out=t.held++exL ((p+ 1:Nat):Int) (L.length:Int) t.ho) (hn:∀w,κ= .name w->w∈out.map Prod.fst):MI0 names roots (oy L p L.length++[⟨κ,[],out⟩]) (vR κ out L.length dep++T):=by
 have plt:=(au.mp hp).1
 obtain⟨p',nd',tp',hp',htix,hth⟩:=m.tds t ah
 have e:p'=p:=by lia
 subst e
 rw[hp]at hp'
 cases hp'
 have hseg:=m.seg p' nd hp
 rw[cj (show onP p' t=true from decide_eq_true tp),aC]at hseg
 have hix:t.ix=nd.kids.length/\nd.kids.length<nd.κ.ho.length/\(T.filter (onP p')).map (·.ix)=cq (nd.kids.length+ 1) (nd.κ.ho.length-(nd.kids.length+ 1)):=by
  have h1:=hseg.1
  cases hd:nd.κ.ho.length-nd.kids.length with
  |zero=>rw[hd]at h1;cases h1
  |succ z=>
   rw[hd,cx]at h1
   injection h1 with h2 h3
   refine⟨h2,by lia,?_⟩
   rw[h3]
   congr 1
   lia
 obtain⟨ix1,ix2,ix3⟩:=hix
 have last:∀{q:Nat} {x:Nd},(oy L p' L.length++[(⟨κ,[],out⟩:Nd)])[q]?=some x->(q<L.length/\(oy L p' L.length)[q]?=some x)\/(q=L.length/\x=⟨κ,[],out⟩):=fun{q x} h=>by
  by_cases hq:q<L.length
  ·rw[aK (by rw[iZ];exact hq)]at h
   exact .inl ⟨hq,h⟩
  ·have:=(au.mp h).1
   rw[aO,a9,iZ]at this
   have e:q=L.length:=by lia
   rw[e,aJ (by rw[iZ];exact c7 _),iZ,dw]at h
   exact .inr ⟨e,(dB.inj h).symm⟩
 have here:(oy L p' L.length++[(⟨κ,[],out⟩:Nd)])[L.length]?=some ⟨κ,[],out⟩:=by rw[aJ (by rw[iZ];exact c7 _),iZ,dw];rfl
 have left:∀{q:Nat} {x:Nd},(oy L p' L.length)[q]?=some x->(oy L p' L.length++[(⟨κ,[],out⟩:Nd)])[q]?=some x:=fun{q x} h=>by rw[aK (au.mp h).1];exact h
 have tl:∀u∈T,∃(q:Nat) (x:Nd),u.par=(q:Int)/\q<L.length/\L[q]?=some x/\x.κ.ho[u.ix]?=some u.ho/\u.held=x.out:=fun u hu=>by
  obtain⟨q,x,h1,h2,h3,h4⟩:=m.tds u (ai _ hu)
  exact⟨q,x,h1,(au.mp h2).1,h2,h3,h4⟩
 have msz:=m.sz
 rw[aA]at msz
 refine{nl:=m.nl,rl:=m.rl,sz:=?_,ok:=?_,seg:=?_,tds:=?_,fst:=?_,kid:=?_,reach:=?_,root:=?_,nm:=?_}
 ·rw[aO,aO,iZ,oN,a9]
  by_cases z:κ.ho=[]
  ·rw[z];show L.length+ 1+(0+T.length)<=150;lia
  ·have:=hr z;lia
 ·intro x hx
  rcases ao.mp hx with hx|hx
  ·obtain⟨q,hq⟩:=bI.mp hx
   obtain⟨x0,h1,h2⟩:=mS hq
   have:=m.ok x0 (aN h1)
   rw[h2]
   split
   ·exact this
   ·exact this
  ·rw[bg]at hx;subst hx;exact ok
 ·intro q x hx
  rw[bM,y4,bh]
  rcases last hx with⟨hq,hx⟩|⟨hq,rfl⟩
  ·rw[if_neg (by lia),aU,ba]
   obtain⟨x0,h1,h2⟩:=mS hx
   by_cases e:q=p'
   ·rw[if_pos e]at h2
    subst e
    rw[hp]at h1
    cases h1
    rw[h2]
    show _=cq (nd.kids++[L.length]).length (nd.κ.ho.length-(nd.kids++[L.length]).length)/\(nd.kids++[L.length]).length<=nd.κ.ho.length
    rw[aO,a9]
    exact⟨ix3,ix2⟩
   ·rw[if_neg e]at h2
    subst h2
    have:=m.seg q x h1
    rw[cy (show ¬onP q t=true from by simp[onP,tp];lia)]at this
    exact this
  ·subst hq
   rw[if_pos rfl,y3]
   have:T.filter (onP L.length)=[]:=cu.mpr fun u hu=>by
    obtain⟨q,x,h1,h2,_⟩:=tl u hu
    have:¬u.par=(L.length:Int):=by lia
    simp[onP,this]
   rw[this,aU,aE]
   exact⟨rfl,c8 _⟩
 ·intro u hu
  rcases ao.mp hu with hu|hu
  ·obtain⟨h1,h2,h3⟩:=jF hu
   exact⟨L.length,_,h1,here,h3,h2⟩
  ·obtain⟨q,x,h1,h2,h3,h4,h5⟩:=tl u hu
   obtain⟨x',g1,g2,g3,_⟩:=nV (p:=p') (n:=L.length) h3
   exact⟨q,x',h1,left g1,by rw[g3];exact h4,by rw[g2];exact h5⟩
 ·intro q x hx
  rcases last hx with⟨hq,hx⟩|⟨hq,rfl⟩
  ·obtain⟨x0,h1,h2⟩:=mS hx
   have f0:=m.fst q x0 h1
   by_cases e:q=p'
   ·rw[if_pos e]at h2
    subst e
    rw[hp]at h1
    cases h1
    rw[h2]
    refine⟨fun _=>?_,fun z=>absurd z (by simp)⟩
    show(nd.kids++[L.length])[0]?=some (q+ 1)
    cases hk:nd.kids with
    |nil=>
     have hne:nd.κ.ho≠[]:=fun z=>by rw[z]at ix2;exact absurd ix2 (dy _)
     rw[(f0.2 hk hne).1]
     rfl
    |cons a r=>
     have:=f0.1 (by rw[hk];exact bN _ _)
     rw[hk]at this
     exact this
   ·rw[if_neg e]at h2
    subst h2
    refine⟨f0.1,fun g1 g2=>?_⟩
    obtain⟨g3,t',T',g4,g5⟩:=f0.2 g1 g2
    injection g4 with g6 g7
    rw[<-g6,tp]at g5
    lia
  ·subst hq
   refine⟨fun z=>absurd rfl z,fun _ h2=>⟨by rw[aO,iZ];rfl,?_⟩⟩
   have hl:=oN κ out L.length dep
   cases hT:vR κ out L.length dep with
   |nil=>rw[hT]at hl;exact absurd (bS hl.symm) h2
   |cons t T'=>exact⟨t,T'++T,rfl,(jF (by rw[hT];exact ah)).1⟩
 ·intro q x j c hx hj
  rcases last hx with⟨hq,hx⟩|⟨hq,rfl⟩
  ·obtain⟨x0,h1,h2⟩:=mS hx
   have old:x0.kids[j]?=some c->q<c/\∃(h:Hol) (ndc:Nd),x0.κ.ho[j]?=some h/\(oy L p' L.length++[(⟨κ,[],out⟩:Nd)])[c]?=some ndc/\ndc.out=x0.out++exL ((q+ 1:Nat):Int) (c:Int) h:=fun z=>by
    obtain⟨g1,h,ndc,g2,g3,g4⟩:=m.kid q x0 j c h1 z
    obtain⟨x',g5,g6,_,_⟩:=nV (p:=p') (n:=L.length) g3
    exact⟨g1,h,x',g2,left g5,by rw[g6];exact g4⟩
   by_cases e:q=p'
   ·rw[if_pos e]at h2
    subst e
    rw[hp]at h1
    cases h1
    subst h2
    have hj:(nd.kids++[L.length])[j]?=some c:=hj
    show q<c/\∃(h:Hol) (ndc:Nd),nd.κ.ho[j]?=some h/\_/\ndc.out=nd.out++exL ((q+ 1:Nat):Int) (c:Int) h
    by_cases hjl:j<nd.kids.length
    ·rw[aK hjl]at hj
     exact old hj
    ·have:=(au.mp hj).1
     rw[aO,a9]at this
     have ej:j=nd.kids.length:=by lia
     subst ej
     rw[aJ (c7 _),dw]at hj
     cases hj
     exact⟨plt,t.ho,_,by rw[<-ix1];exact htix,here,by show out=_;rw[ho,hth]⟩
   ·rw[if_neg e]at h2
    subst h2
    exact old hj
  ·cases hj
 ·intro k hk
  rw[aO,a9,iZ]at hk
  by_cases e:k<L.length
  ·rcases m.reach k e with h|⟨q,x,h1,h2,h3⟩
   ·exact .inl h
   ·obtain⟨x',g5,_,_,g6⟩:=nV (p:=p') (n:=L.length) h2
    exact .inr ⟨q,x',h1,left g5,g6 _ h3⟩
  ·have e:k=L.length:=by lia
   subst e
   refine .inr ⟨p',_,plt,left (rP hp),?_⟩
   rw[if_pos rfl]
   exact az _ (bg.mpr rfl)
 ·intro i r hr
  obtain⟨x,h1,h2⟩:=m.root i r hr
  obtain⟨x',g5,g6,g7,_⟩:=nV (p:=p') (n:=L.length) h1
  refine⟨x',left g5,?_⟩
  rw[g6,h2]
  unfold Nd.isF
  rw[g7]
 ·intro k x w hx e
  rcases last hx with⟨hq,hx⟩|⟨hq,rfl⟩
  ·obtain⟨x0,h1,h2⟩:=mS hx
   have:x0.κ= .name w:=by
    rw[h2]at e
    by_cases z:k=p'
    ·rw[if_pos z]at e;exact e
    ·rw[if_neg z]at e;exact e
   have h3:=m.nm k x0 w h1 this
   rw[h2]
   split
   ·exact h3
   ·exact h3
  ·exact hn w e
def Nd.ro (nd:Nd):Ro:=mkR nd.κ (nd.kids.map fun k:Nat=>(k:Int))
def CT (L:List Nd) (k:Nat):Str->Option Hm:=match L[k]? with
 |some nd=>look nd.out
 |none=>fun _=>none
theorem pW {L:List Nd} {k:Nat} {nd:Nd} (h:L[k]?=some nd):CT L k=look nd.out:=by unfold CT;rw[h]
theorem MI0.full {names:List Str} {roots:List Nat} {L:List Nd} (m:MI0 names roots L []) {k:Nat} {nd:Nd} (h:L[k]?=some nd):nd.kids.length=nd.κ.ho.length:=by
 obtain⟨h1,h2⟩:=m.seg k nd h
 have h3:([]:List Nat)=cq nd.kids.length (nd.κ.ho.length-nd.kids.length):=h1
 have:=congrArg List.length h3
 rw[List.length_range',aT]at this
 lia
theorem MI0.good {names:List Str} {roots:List Nat} {L:List Nd} (m:MI0 names roots L []) (nn:names.Nodup):zz names roots (L.map Nd.ro) (CT L) where
 nn:=nn
 nl:=m.nl
 rl:=m.rl
 ok:=fun ρ h=>by
  obtain⟨nd,h1,rfl⟩:=bb.mp h
  obtain⟨k,hk⟩:=bI.mp h1
  exact Bi (m.ok nd h1) (by rw[aD];exact m.full hk)
 pn:=by rw[aD];have:=m.sz;lia
 rlt:=fun i r h=>by
  obtain⟨nd,h1,_⟩:=m.root i r h
  rw[aD]
  exact(au.mp h1).1
 root:=fun i r ρ h hρ=>by
  obtain⟨nd,h1,h2⟩:=m.root i r h
  rw[aM,h1]at hρ
  cases hρ
  have hi:=(au.mp h).1
  have rl:=m.rl
  rw[pW h1,h2]
  have e:nd.ro.isF=nd.isF:=by unfold Nd.ro;rw[CQ];rfl
  rw[e]
  cases nd.isF with
  |true=>
   rw[if_pos rfl,if_pos rfl,mG,nU names i (by lia),G0,bo,bx (show i<names.length by lia)]
   rfl
  |false=>rw[if_neg fN,if_neg fN,aE,nU names i (by lia)]
 kid:=fun k ρ j c e hρ hj he=>by
  rw[aM]at hρ
  obtain⟨nd,h1,rfl⟩:=dF.mp hρ
  have fl:=m.full h1
  have fl':(nd.kids.map fun k:Nat=>(k:Int)).length=nd.κ.ho.length:=by rw[aD];exact fl
  have hj':=hj
  unfold Nd.ro at hj' he
  rw[vQ fl']at hj'
  obtain⟨h,g1,g2⟩:=EO fl' j c e hj' he
  rw[aM]at hj'
  obtain⟨cn,g3,rfl⟩:=dF.mp hj'
  obtain⟨g4,h',ndc,g5,g6,g7⟩:=m.kid k nd j cn h1 g3
  rw[g1]at g5
  cases g5
  refine⟨cn,rfl,g4,?_⟩
  rw[pW g6,pW h1,g7,CS,g2]
  have hne:nd.kids≠[]:=fun z=>by rw[z]at g3;cases g3
  have f0:=(m.fst k nd h1).1 hne
  have:(nd.kids.map fun k:Nat=>(k:Int)).getD 0 0=((k+ 1:Nat):Int):=by
   rw[bo,aM,f0]
   rfl
  rw[this]
 reach:=fun k hk=>by
  rw[aD]at hk
  rcases m.reach k hk with h|⟨p,nd,h1,h2,h3⟩
  ·exact .inl h
  ·refine .inr ⟨p,nd.ro,h1,by rw[aM,h2];rfl,?_⟩
   unfold Nd.ro
   rw[vQ (by rw[aD];exact m.full h2)]
   exact bb.mpr ⟨k,h3,rfl⟩
 nm:=fun k x h=>by
  rw[aM]at h
  obtain⟨nd,h1,h2⟩:=dF.mp h
  have:nd.κ= .name x:=by
   unfold Nd.ro at h2
   cases hk:nd.κ<;>rw[hk]at h2<;>first|(injection h2 with h3;rw[h3])|cases h2
  rw[pW h1]
  exact AE _ _ (m.nm k nd x h1 this)
def j6 (L:List Nd) (p:Nat):Option Nat:=match L[p]? with
 |some nd=>nd.kids.getLast?
 |none=>none
theorem nW {L:List Nd} {p:Nat} {nd:Nd} (h:L[p]?=some nd):j6 L p=nd.kids.getLast?:=by unfold j6;rw[h]
theorem rQ {L:List Nd} {p c:Nat} (h:j6 L p=some c):p<L.length:=by
 unfold j6 at h
 split at h
 ·rename_i nd e
  exact(au.mp e).1
 ·cases h
inductive LK (L:List Nd) (a:Nat):Nat->Prop
 |refl:LK L a a
 |step {b c:Nat}:LK L a b->j6 L b=some c->LK L a c
def Up (L:List Nd):Prop:=∀p c,j6 L p=some c->p<c/\c<L.length
theorem LK.le {L:List Nd} (u:Up L) {a b:Nat} (h:LK L a b):a<=b:=by
 induction h with
 |refl=>exact c7 _
 |step _ e ih=>have:=(u _ _ e).1;lia
theorem LK.trans {L:List Nd} {a b c:Nat} (h:LK L a b) (g:LK L b c):LK L a c:=by
 induction g with
 |refl=>exact h
 |step _ e ih=>exact .step ih e
theorem LK.head {L:List Nd} {a b:Nat} (h:LK L a b):a=b\/∃c,j6 L a=some c/\LK L c b:=by
 induction h with
 |refl=>exact .inl rfl
 |step h e ih=>
  rcases ih with rfl|⟨c,h1,h2⟩
  ·exact .inr ⟨_,e,.refl⟩
  ·exact .inr ⟨c,h1,.step h2 e⟩
theorem LK.lin {L:List Nd} {p x y:Nat} (h:LK L p x) (g:LK L p y):LK L x y\/LK L y x:=by
 induction h with
 |refl=>exact .inl g
 |step h e ih=>
  rcases ih with ih|ih
  ·rcases ih.head with rfl|⟨c,h1,h2⟩
   ·exact .inr (.step .refl e)
   ·rw[e]at h1
    cases h1
    exact .inl h2
  ·exact .inr (.step ih e)
theorem LK.stay {L L':List Nd} (u:Up L) {p:Nat} (hs:∀b,b≠p->b<L.length->j6 L' b=j6 L b) {a b:Nat} (h:LK L a b) (n:¬(LK L a p/\LK L p b/\p≠b)):LK L' a b:=by
 induction h with
 |refl=>exact .refl
 |@step b c h e ih=>
  have bc:=(u _ _ e).1
  have hb:b≠p:=fun z=>n ⟨z▸h,z▸ .step .refl e,by lia⟩
  refine .step (ih fun⟨h1,h2,h3⟩=>n ⟨h1,.step h2 e,fun z=>?_⟩) (by rw[hs b hb (rQ e)];exact e)
  have:=h2.le u
  lia
theorem LK.mono {L L':List Nd} (hs:∀b,b<L.length->j6 L' b=j6 L b) {a b:Nat} (h:LK L a b):LK L' a b:=by
 induction h with
 |refl=>exact .refl
 |step h e ih=>exact .step ih (by rw[hs _ (rQ e)];exact e)
def Du (L:List Nd) (k:Nat):Prop:=∃nd:Nd,L[k]?=some nd/\nd.κ.ho=[]
def To (L:List Nd) (c e:Nat):Prop:=∃b:Nat,e=b+ 1/\LK L c b/\Du L b
structure MI (names:List Str) (roots:List Nat) (L:List Nd) (T:List Td):Prop extends MI0 names roots L T where
 ch:T.Pairwise fun t u=>∀p q:Nat,t.par=(p:Int)->u.par=(q:Int)->LK L q p
 lt:∀t∈T,∀p:Nat,t.par=(p:Int)->∃b:Nat,L.length=b+ 1/\LK L p b
 rt:∀r,roots.getLast?=some r->(∃b:Nat,L.length=b+ 1/\LK L r b)/\∀t∈T,∀p:Nat,t.par=(p:Int)->LK L r p
 i1:∀(p:Nat) (nd:Nd) (j c c':Nat),L[p]?=some nd->nd.kids[j]?=some c->nd.kids[j+ 1]?=some c'->To L c c'
 i2:∀(i r r':Nat),roots[i]?=some r->roots[i+ 1]?=some r'->To L r r'
 i3:∀r,roots[0]?=some r->r=0
theorem MI0.up {names:List Str} {roots:List Nat} {L:List Nd} {T:List Td} (m:MI0 names roots L T):Up L:=fun p c h=>by
 have hp:=rQ h
 rw[nW (bx hp)]at h
 rw[cz]at h
 obtain⟨h1,_,ndc,_,h2,_⟩:=m.kid p _ _ c (bx hp) h
 exact⟨h1,(au.mp h2).1⟩
theorem MI.nil:MI [] [] [] [] where
 toMI0:=MI0.nil
 ch:= .nil
 lt:=fun t h=>by cases h
 rt:=fun r h=>by cases h
 i1:=fun p nd j c c' h=>by cases h
 i2:=fun i r r' h=>by cases h
 i3:=fun r h=>by cases h
theorem MI0.nokid {names:List Str} {roots:List Nat} {L:List Nd} {T:List Td} (m:MI0 names roots L T) {b:Nat} {x:Nd} (hb:L.length=b+ 1) (hx:L[b]?=some x):x.kids=[]:=by
 cases hk:x.kids with
 |nil=>rfl
 |cons c cs=>
  obtain⟨h1,_,ndc,_,h2,_⟩:=m.kid b x 0 c hx (by rw[hk];rfl)
  have:=(au.mp h2).1
  lia
theorem pX {names:List Str} {roots:List Nat} {L:List Nd} {T:List Td} (m:MI0 names roots L T) {b:Nat} (h:Du L b):j6 L b=none:=by
 obtain⟨nd,h1,h2⟩:=h
 have:=(m.seg b nd h1).2
 rw[h2]at this
 rw[nW h1,bS (Nat.le_zero.mp this)]
 rfl
theorem y8 {κ:Kn} {out:List (Str×Hm)} {n:Nat} {dep:Int} {L:List Nd}:(vR κ out n dep).Pairwise fun t u=>∀p q:Nat,t.par=(p:Int)->u.par=(q:Int)->LK L q p:=
 List.Pairwise.imp_of_mem (R:=fun _ _=>True) (fun{t u} ht hu _ p q hp hq=>by
  have h1:=(jF ht).1
  have h2:=(jF hu).1
  have:p=q:=by lia
  rw[this]
  exact .refl) (List.pairwise_of_forall fun _ _=>trivial)
theorem MI.rootStep {names:List Str} {roots:List Nat} {L:List Nd} {κ:Kn} {x:Str} {dep:Int} (m:MI names roots L []) (hx:names.length<12) (hL:L.length<=140) (ok:κ.ok) (h8:κ.ho.length<=8) (hn:∀w,κ= .name w->w∈(defs names names.length).map Prod.fst) {out:List (Str×Hm)}
  (ho:out=defs names names.length++(if(Nd.mk κ [] []).isF=true then[(x,(("def":Str),(names.length:Int)))]else[])):MI (names++[x]) (roots++[L.length]) (L++[⟨κ,[],out⟩]) (vR κ out L.length dep):=by
 have hs:∀b,b<L.length->j6 (L++[(⟨κ,[],out⟩:Nd)]) b=j6 L b:=fun b hb=>by unfold j6;rw[aK hb]
 have lf:∀{b},Du L b->Du (L++[(⟨κ,[],out⟩:Nd)]) b:=fun{b} ⟨nd,h1,h2⟩=>⟨nd,by rw[aK (au.mp h1).1];exact h1,h2⟩
 have tt:∀{c e},To L c e->To (L++[(⟨κ,[],out⟩:Nd)]) c e:=fun{c e} ⟨b,h1,h2,h3⟩=>⟨b,h1,h2.mono hs,lf h3⟩
 refine⟨MI0.rootStep m.toMI0 hx hL ok h8 hn ho,y8,fun t ht p hp=>?_,fun r hr=>?_,fun p nd j c c' hp hc hc'=>?_,fun i r r' hr hr'=>?_,fun r hr=>?_⟩
 ·have:=(jF ht).1
  have e:p=L.length:=by lia
  exact⟨L.length,by rw[aO];rfl,by rw[e];exact .refl⟩
 ·rw[cA]at hr
  cases hr
  refine⟨⟨L.length,by rw[aO];rfl,.refl⟩,fun t ht p hp=>?_⟩
  have:=(jF ht).1
  have e:p=L.length:=by lia
  rw[e]
  exact .refl
 ·by_cases hp':p<L.length
  ·rw[aK hp']at hp
   exact tt (m.i1 p nd j c c' hp hc hc')
  ·have:=(au.mp hp).1
   rw[aO,a9]at this
   have e:p=L.length:=by lia
   rw[e,aJ (c7 _),dw]at hp
   cases hp
   cases hc
 ·by_cases hi:i+ 1<roots.length
  ·rw[aK (by lia)]at hr
   rw[aK hi]at hr'
   exact tt (m.i2 i r r' hr hr')
  ·have:=(au.mp hr').1
   rw[aO,a9]at this
   have e:i+ 1=roots.length:=by lia
   rw[e,aJ (c7 _),dw]at hr'
   cases hr'
   rw[aK (by lia)]at hr
   obtain⟨⟨b,hb,hk⟩,_⟩:=m.rt r (by rw[cz,<-e];exact hr)
   have bl:b<L.length:=by lia
   refine tt ⟨b,hb,hk,L[b],bx bl,?_⟩
   cases hq:L[b].κ.ho with
   |nil=>rfl
   |cons h hs=>
    obtain⟨_,t,T',e,_⟩:=(m.fst b _ (bx bl)).2 (m.nokid hb (bx bl)) (by rw[hq];exact fun z=>nomatch z)
    cases e
 ·cases hq:roots with
  |nil=>
   rw[hq]at hr
   cases hr
   cases hL':L with
   |nil=>rfl
   |cons y ys=>
    rcases m.reach 0 (by rw[hL'];exact Nat.succ_pos _)with⟨i,hi⟩|⟨p,nd,h,_⟩
    ·rw[hq]at hi;cases hi
    ·exact absurd h (dy _)
  |cons r0 rs=>
   rw[hq]at hr
   exact m.i3 r (by rw[hq];exact hr)
theorem MI.kidStep {names:List Str} {roots:List Nat} {L:List Nd} {T:List Td} {t:Td} {κ:Kn} {dep:Int} {p:Nat} {nd:Nd} (m:MI names roots L (t::T)) (tp:t.par=(p:Int)) (hp:L[p]?=some nd) (ok:κ.ok) (h8:κ.ho.length<=8) (hr:κ.ho≠[]->L.length+T.length<=141) {out:List (Str×Hm)}
  (ho:out=t.held++exL ((p+ 1:Nat):Int) (L.length:Int) t.ho) (hn:∀w,κ= .name w->w∈out.map Prod.fst):MI names roots (oy L p L.length++[⟨κ,[],out⟩]) (vR κ out L.length dep++T):=by
 have u:=m.up
 have plt:=(au.mp hp).1
 obtain⟨b0,hb0,kb0⟩:=m.lt t ah p tp
 have ch:=List.pairwise_cons.mp m.ch
 have len:(oy L p L.length++[(⟨κ,[],out⟩:Nd)]).length=L.length+ 1:=by rw[aO,iZ];rfl
 have hs:∀b,b≠p->b<L.length->j6 (oy L p L.length++[(⟨κ,[],out⟩:Nd)]) b=j6 L b:=fun b hb hl=>by
  unfold j6
  rw[aK (by rw[iZ];exact hl),rP (bx hl),if_neg hb,bx hl]
 have hpn:j6 (oy L p L.length++[(⟨κ,[],out⟩:Nd)]) p=some L.length:=by
  unfold j6
  rw[aK (by rw[iZ];exact plt),rP hp,if_pos rfl]
  show(nd.kids++[L.length]).getLast?=_
  rw[cA]
  rfl
 have lf:∀{b},Du L b->Du (oy L p L.length++[(⟨κ,[],out⟩:Nd)]) b:=fun{b} ⟨x,h1,h2⟩=>by
  have hl:=(au.mp h1).1
  obtain⟨x',g1,_,g3,_⟩:=nV (p:=p) (n:=L.length) h1
  exact⟨x',by rw[aK (by rw[iZ];exact hl)];exact g1,by rw[g3];exact h2⟩
 have tt:∀{c e},To L c e->e<L.length->To (oy L p L.length++[(⟨κ,[],out⟩:Nd)]) c e:=fun{c e} ⟨b,h1,h2,h3⟩ he=>by
  refine⟨b,h1,h2.stay u hs fun⟨_,g2,g3⟩=>?_,lf h3⟩
  rcases g2.lin kb0 with z|z
  ·rcases z.head with z|⟨c',z,_⟩
   ·lia
   ·rw[pX m.toMI0 h3]at z;cases z
  ·have:=z.le u
   lia
 have toP:∀{q},LK L q p->LK (oy L p L.length++[(⟨κ,[],out⟩:Nd)]) q L.length:=fun{q} h=> .step (h.stay u hs fun z=>z.2.2 rfl) hpn
 refine⟨MI0.kidStep m.toMI0 tp hp ok h8 hr ho hn,?_,fun s hs' q hq=>?_,fun r hr'=>?_,fun q x j c c' hq hc hc'=>?_,fun i r r' hr1 hr2=>?_,m.i3⟩
 ·refine cB.mpr ⟨y8,?_,fun a ha s hs' p' q hp' hq=>?_⟩
  ·refine List.Pairwise.imp_of_mem (fun{a s} ha hs' h p' q hp' hq=>?_) ch.2
   refine(h p' q hp' hq).stay u hs fun⟨_,g2,g3⟩=>g3 ?_
   have h1:=(ch.1 a ha p p' tp hp').le u
   have h2:=g2.le u
   lia
  ·have:=(jF ha).1
   have e:p'=L.length:=by lia
   rw[e]
   exact toP (ch.1 s hs' p q tp hq)
 ·refine⟨L.length,len,?_⟩
  rcases ao.mp hs' with h|h
  ·have:=(jF h).1
   have e:q=L.length:=by lia
   rw[e]
   exact .refl
  ·exact toP (ch.1 s h p q tp hq)
 ·obtain⟨_,h2⟩:=m.rt r hr'
  have rp:=h2 t ah p tp
  refine⟨⟨L.length,len,toP rp⟩,fun s hs' q hq=>?_⟩
  rcases ao.mp hs' with h|h
  ·have:=(jF h).1
   have e:q=L.length:=by lia
   rw[e]
   exact toP rp
  ·refine(h2 s (ai _ h) q hq).stay u hs fun⟨_,g2,g3⟩=>g3 ?_
   have h1:=(ch.1 s h p q tp hq).le u
   have h2:=g2.le u
   lia
 ·by_cases hql:q<L.length
  ·rw[aK (by rw[iZ];exact hql)]at hq
   obtain⟨x0,h1,h2⟩:=mS hq
   by_cases e:q=p
   ·rw[if_pos e]at h2
    subst e
    rw[hp]at h1
    cases h1
    rw[h2]at hc hc'
    have hc:(nd.kids++[L.length])[j]?=some c:=hc
    have hc':(nd.kids++[L.length])[j+ 1]?=some c':=hc'
    by_cases hj:j+ 1<nd.kids.length
    ·rw[aK (by lia)]at hc
     rw[aK hj]at hc'
     obtain⟨_,_,ndc,_,g,_⟩:=m.kid q nd (j+ 1) c' hp hc'
     exact tt (m.i1 q nd j c c' hp hc hc') (au.mp g).1
    ·have:=(au.mp hc').1
     rw[aO,a9]at this
     have ej:j+ 1=nd.kids.length:=by lia
     rw[ej,aJ (c7 _),dw]at hc'
     cases hc'
     rw[aK (by lia)]at hc
     have lc:j6 L q=some c:=by
      rw[nW hp,cz,<-ej]
      exact hc
     have qc:=u _ _ lc
     have bl:b0<L.length:=by lia
     rcases kb0.head with z|⟨c0,z1,z2⟩
     ·lia
     ·rw[lc]at z1
      cases z1
      refine⟨b0,hb0,z2.stay u hs fun⟨g1,_,_⟩=>?_,lf ⟨L[b0],bx bl,?_⟩⟩
      ·have:=g1.le u
       lia
      ·cases hh:L[b0].κ.ho with
       |nil=>rfl
       |cons h hs=>
        obtain⟨_,t0,T',e,e2⟩:=(m.fst b0 _ (bx bl)).2 (m.nokid hb0 (bx bl)) (by rw[hh];exact fun z=>nomatch z)
        cases e
        have:q=b0:=by lia
        lia
   ·rw[if_neg e]at h2
    subst h2
    obtain⟨_,_,ndc,_,g,_⟩:=m.kid q x (j+ 1) c' h1 hc'
    exact tt (m.i1 q x j c c' h1 hc hc') (au.mp g).1
  ·have:=(au.mp hq).1
   rw[len]at this
   have e:q=L.length:=by lia
   rw[e,aJ (by rw[iZ];exact c7 _),iZ,dw]at hq
   cases hq
   cases hc
 ·obtain⟨ndr,g,_⟩:=m.root (i+ 1) r' hr2
  exact tt (m.i2 i r r' hr1 hr2) (au.mp g).1
def AF (κ:Kn) (hd:List (Str×Hm)):Option Hm:=match κ with
 | .name w=>look hd w
 |_=>none
theorem y9 {t:TT} {A B u:TS} {D:nY} {σ:St} {H:Hp} (Pm:St->Hp->Prop) (b:Bool) (ht:∀R:Bool->Hp->Prop,R b H->t σ H R) (hA:b=true->∀N:St->Hp->Prop,(∀σ' H',Pm σ' H'->N σ' H')->A {D with nx:=N} σ H)
  (hB:b=false->∀N:St->Hp->Prop,(∀σ' H',Pm σ' H'->N σ' H')->B {D with nx:=N} σ H) (k:∀σ' H',Pm σ' H'->u D σ' H'):xk (we t A B) u D σ H:=by
 refine ht _ ?_
 cases b with
 |true=>exact kE (hA rfl _ k)
 |false=>exact jO (hB rfl _ k)
theorem Kn.ho_ok {κ:Kn} {h:Hol} (hm:h∈κ.ho):h=p0\/∃w how,h=(some w,how)/\(how="fn"\/how="let"\/how="arm"):=by
 cases κ with
 |num n=>cases hm
 |name n=>cases hm
 |fn w=>exact .inr ⟨w,_,bg.mp hm,.inl rfl⟩
 |tag w=>exact .inl (bg.mp hm)
 |get w=>exact .inl (bg.mp hm)
 |lt w=>
  rcases aj.mp (show h∈[p0,(some w,"let")]from hm)with e|e
  ·exact .inl e
  ·exact .inr ⟨w,_,bg.mp e,.inr (.inl rfl)⟩
 |rcd l=>obtain⟨_,_,rfl⟩:=bb.mp hm;exact .inl rfl
 |case l=>
  rcases aj.mp (show h∈(p0::l.map fun p=>((some p.2,"arm"):Hol))from hm)with e|e
  ·exact .inl e
  ·obtain⟨p,_,rfl⟩:=bb.mp e
   exact .inr ⟨p.2,_,rfl,.inr (.inr rfl)⟩
 |row m=>exact .inl (cm.mp hm).2
 |op s m=>exact .inl (cm.mp hm).2
def enF (L:List Nd):Nat->Nat->Nat
 |0,p=>p+ 1
 |f+ 1,p=>match j6 L p with
  |none=>p+ 1
  |some c=>enF L f c
def en (L:List Nd) (p:Nat):Nat:=enF L L.length p
theorem Bj {L:List Nd} (u:Up L) {b:Nat} (hb:j6 L b=none):∀(f p:Nat),LK L p b->b-p<=f->enF L f p=b+ 1
 |0,p,h,hf=>by
  have:=h.le u
  have e:p=b:=by lia
  rw[e]
  rfl
 |f+ 1,p,h,hf=>by
  unfold enF
  rcases h.head with rfl|⟨c,h1,h2⟩
  ·rw[hb]
  ·rw[h1]
   have:=(u _ _ h1).1
   exact Bj u hb f c h2 (by lia)
theorem uT {L:List Nd} (u:Up L) {p b:Nat} (h:LK L p b) (hb:j6 L b=none) (hl:b<L.length):en L p=b+ 1:=Bj u hb _ p h (by lia)
theorem CU {L:List Nd} (u:Up L):∀(m p:Nat),L.length-p<=m->p<L.length->∃b,LK L p b/\j6 L b=none/\b<L.length
 |0,p,h,hp=>by lia
 |m+ 1,p,h,hp=>by
  cases hk:j6 L p with
  |none=>exact⟨p,.refl,hk,hp⟩
  |some c=>
   have:=u _ _ hk
   obtain⟨b,h1,h2,h3⟩:=CU u m c (by lia) this.2
   exact⟨b,(LK.step .refl hk).trans h1,h2,h3⟩
theorem rR {L:List Nd} (u:Up L) {p:Nat} (hp:p<L.length):p<en L p/\en L p<=L.length:=by
 obtain⟨b,h1,h2,h3⟩:=CU u _ p (c7 _) hp
 rw[uT u h1 h2 h3]
 have:=h1.le u
 lia
theorem za {L:List Nd} (u:Up L) {p:Nat} (hp:p<L.length) (h:j6 L p=none):en L p=p+ 1:=uT u .refl h hp
theorem CV {L:List Nd} (u:Up L) {p c:Nat} (h:j6 L p=some c):en L p=en L c:=by
 obtain⟨b,h1,h2,h3⟩:=CU u _ c (c7 _) (u _ _ h).2
 rw[uT u h1 h2 h3,uT u ((LK.step .refl h).trans h1) h2 h3]
def Chn (E:Nat->Nat):List Nat->Nat->Nat->Prop
 |[],a,e=>a=e
 |c::cs,a,e=>c=a/\Chn E cs (E c) e
theorem zb (E:Nat->Nat) (e:Nat):∀(cs:List Nat) (a:Nat),(∀(j c c':Nat),cs[j]?=some c->cs[j+ 1]?=some c'->c'=E c)->(∀c,cs.getLast?=some c->E c=e)->(cs=[]->a=e)->(∀c,cs[0]?=some c->c=a)->Chn E cs a e
 |[],a,_,_,h3,_=>h3 rfl
 |c::cs,a,h1,h2,_,h4=>by
  refine⟨h4 c rfl,zb E e cs (E c) (fun j x y hx hy=>h1 (j+ 1) x y hx hy) (fun x hx=>h2 x ?_) (fun z=>h2 c (by rw[z];rfl)) (fun x hx=>h1 0 c x rfl hx)⟩
  cases cs with
  |nil=>cases hx
  |cons y ys=>rw[List.getLast?_cons_cons];exact hx
theorem Chn.sum {E:Nat->Nat} (S:Nat->Int):∀{cs:List Nat} {a e:Nat},Chn E cs a e->(cs.map fun c=>S (E c)-S c).foldr (·+·) 0=S e-S a
 |[],a,e,h=>by
  cases h
  show(0:Int)=_
  lia
 |c::cs,a,e,⟨h1,h2⟩=>by
  have:=Chn.sum S h2
  show S (E c)-S c+(cs.map fun c=>S (E c)-S c).foldr (·+·) 0=_
  rw[this,h1]
  lia
theorem Chn.le {E:Nat->Nat}:∀{cs:List Nat} {a e:Nat},Chn E cs a e->(∀c∈cs,c<E c)->a<=e/\∀c∈cs,a<=c/\E c<=e
 |[],a,e,h,_=>⟨by cases h;exact c7 _,fun c z=>by cases z⟩
 |c::cs,a,e,⟨h1,h2⟩,hl=>by
  obtain⟨g1,g2⟩:=Chn.le h2 fun x hx=>hl x (ai _ hx)
  have:=hl c ah
  refine⟨by lia,fun x hx=>?_⟩
  rcases aj.mp hx with rfl|hx
  ·lia
  ·have:=g2 x hx
   lia
theorem Chn.pw {E:Nat->Nat}:∀{cs:List Nat} {a e:Nat},Chn E cs a e->(∀c∈cs,c<E c)->cs.Pairwise fun c d=>E c<=d
 |[],a,e,h,_=> .nil
 |c::cs,a,e,⟨h1,h2⟩,hl=>by
  have hl':=fun x hx=>hl x (ai _ hx)
  exact .cons (fun x hx=>((Chn.le h2 hl').2 x hx).1) (Chn.pw h2 hl')
theorem Chn.cov {E:Nat->Nat}:∀{cs:List Nat} {a e x:Nat},Chn E cs a e->(∀c∈cs,c<E c)->a<=x->x<e->∃c∈cs,c<=x/\x<E c
 |[],a,e,x,h,_,h1,h2=>by
  have h:a=e:=h
  lia
 |c::cs,a,e,x,⟨h1,h2⟩,hl,h3,h4=>by
  by_cases z:x<E c
  ·exact⟨c,ah,by lia,z⟩
  ·obtain⟨d,d1,d2⟩:=Chn.cov h2 (fun x hx=>hl x (ai _ hx)) (by lia) h4
   exact⟨d,ai _ d1,d2⟩
section
variable {names:List Str} {roots:List Nat} {L:List Nd}
theorem MI.to (m:MI names roots L []) {c e:Nat} (h:To L c e):e=en L c:=by
 obtain⟨b,h1,h2,h3⟩:=h
 have h4:=pX m.toMI0 h3
 obtain⟨nd,h5,_⟩:=h3
 rw[uT m.up h2 h4 (au.mp h5).1]
 exact h1
theorem MI.kids (m:MI names roots L []) {p:Nat} {nd:Nd} (h:L[p]?=some nd):Chn (en L) nd.kids (p+ 1) (en L p):=by
 have hp:=(au.mp h).1
 have hk:=nW h
 refine zb _ _ _ _ (fun j c c' h1 h2=>m.to (m.i1 p nd j c c' h h1 h2)) (fun c hc=>?_) (fun z=>?_) (fun c hc=>?_)
 ·rw[hc]at hk
  exact(CV m.up hk).symm
 ·rw[z]at hk
  exact(za m.up hp hk).symm
 ·have:=(m.fst p nd h).1 (fun z=>by rw[z]at hc;cases hc)
  rw[hc]at this
  exact dB.inj this
theorem MI.kidL (m:MI names roots L []) {p:Nat} {nd:Nd} (h:L[p]?=some nd):∀c∈nd.kids,c<L.length/\c<en L c:=fun c hc=>by
 obtain⟨j,hj⟩:=bI.mp hc
 obtain⟨_,_,ndc,_,g,_⟩:=m.kid p nd j c h hj
 have:=(au.mp g).1
 exact⟨this,(rR m.up this).1⟩
theorem MI.rootL (m:MI names roots L []):∀r∈roots,r<L.length/\r<en L r:=fun r hr=>by
 obtain⟨j,hj⟩:=bI.mp hr
 obtain⟨ndc,g,_⟩:=m.root j r hj
 have:=(au.mp g).1
 exact⟨this,(rR m.up this).1⟩
theorem MI.lastLeaf (m:MI names roots L []) {b:Nat} (hb:L.length=b+ 1):j6 L b=none:=by
 have bl:b<L.length:=by lia
 rw[nW (bx bl),m.nokid hb (bx bl)]
 rfl
theorem MI.rootsC (m:MI names roots L []):Chn (en L) roots 0 L.length:=by
 refine zb _ _ _ _ (fun j c c' h1 h2=>m.to (m.i2 j c c' h1 h2)) (fun c hc=>?_) (fun z=>?_) (fun c hc=>m.i3 c hc)
 ·obtain⟨⟨b,h1,h2⟩,_⟩:=m.rt c hc
  rw[uT m.up h2 (m.lastLeaf h1) (by lia),h1]
 ·cases hL:L with
  |nil=>rfl
  |cons y ys=>
   rcases m.reach 0 (by rw[hL];exact Nat.succ_pos _)with⟨i,hi⟩|⟨p,nd,h,_⟩
   ·rw[z]at hi;cases hi
   ·exact absurd h (dy _)
theorem MI.rootS (m:MI names roots L []) {i j r s:Nat} (hi:roots[i]?=some r) (hj:roots[j]?=some s) (h:i<j):en L r<=s:=by
 have:=m.rootsC.pw fun c hc=>(m.rootL c hc).2
 have hj':=(au.mp hj).1
 have:=cC.mp this i j (by lia) hj' h
 rw[bx (by lia)]at hi
 rw[bx hj']at hj
 rw[dB.inj hi,dB.inj hj]at this
 exact this
theorem MI.rootM (m:MI names roots L []) {i j r s:Nat} (hi:roots[i]?=some r) (hj:roots[j]?=some s) (h:i<j):r<s:=by
 have:=m.rootS hi hj h
 have:=(m.rootL r (aN hi)).2
 lia
theorem zc (w:Str) (h:Hm):∀l:List (Str×Hm),look l.reverse w=some h->(w,h)∈l
 |[],e=>by cases e
 |p::l,e=>by
  rw[aZ,mG]at e
  unfold wid at e
  by_cases z:w=p.1
  ·rw[if_pos z]at e
   cases e
   rw[z]
   exact ah
  ·rw[if_neg z]at e
   exact ai _ (zc w h l e)
theorem AG {w:Str} {h:Hm} {l:List (Str×Hm)} (e:look l w=some h):(w,h)∈l:=by
 have:=zc w h l.reverse (by rw[List.reverse_reverse];exact e)
 exact cD.mp this
def Dv (roots:List Nat) (L:List Nd) (k:Nat) (h:Hm):Prop:=(h.1="let"->∃q:Nat,h.2=(q:Int)/\q<k/\en L q<=k)/\(h.1="def"->∃(d r:Nat),h.2=(d:Int)/\roots[d]?=some r/\r<=k)
theorem Dv.le {k k':Nat} {h:Hm} (z:Dv roots L k h) (l:k<=k'):Dv roots L k' h:=
 ⟨fun e=>let⟨q,h1,h2,h3⟩:=z.1 e;⟨q,h1,by lia,by lia⟩,fun e=>let⟨d,r,h1,h2,h3⟩:=z.2 e;⟨d,r,h1,h2,by lia⟩⟩
theorem ER {κ:Kn} {j:Nat} {w:Str} (h:κ.ho[j]?=some (some w,("let":Str))):j=1/\∃w,κ= .lt w:=by
 have hm:=aN h
 have n1:¬(("fn":Str)="let"):=by decide+kernel
 have n2:¬(("arm":Str)="let"):=by decide+kernel
 cases κ with
 |lt a=>
  match j,h with
  |0,h=>cases h
  |1,h=>exact⟨rfl,a,rfl⟩
  |j+ 2,h=>cases h
 |num a=>cases hm
 |name a=>cases hm
 |fn a=>
  rw[Kn.ho,bg]at hm
  exact absurd (congrArg Prod.snd hm).symm n1
 |tag a=>
  rw[Kn.ho,bg]at hm
  cases hm
 |get a=>
  rw[Kn.ho,bg]at hm
  cases hm
 |rcd l=>
  obtain⟨_,_,z⟩:=bb.mp hm
  cases z
 |case l=>
  rcases aj.mp hm with z|z
  ·cases z
  ·obtain⟨_,_,z⟩:=bb.mp z
   exact absurd (congrArg Prod.snd z) n2
 |row n=>cases(cm.mp hm).2
 |op s n=>cases(cm.mp hm).2
theorem MI.outOk (m:MI names roots L []):∀(n k:Nat),k<n->∀nd:Nd,L[k]?=some nd->∀p∈nd.out,Dv roots L k p.2
 |0,k,h=>absurd h (dy _)
 |n+ 1,k,hk=>fun nd hnd p hp=>by
  have kl:=(au.mp hnd).1
  rcases m.reach k kl with⟨i,hi⟩|⟨q,ndq,h1,h2,h3⟩
  ·obtain⟨nd',g1,g2⟩:=m.root i k hi
   rw[hnd]at g1
   cases g1
   have il:=(au.mp hi).1
   have key:∀d:Nat,d<=i->Dv roots L k (("def":Str),(d:Int)):=fun d hd=>by
    refine⟨fun z=>absurd z (show ¬(("def":Str)="let")from by decide+kernel),fun _=>⟨d,roots[d]'(by lia),rfl,bx (by lia),?_⟩⟩
    by_cases e:d=i
    ·subst e
     rw[bx il]at hi
     exact c9 (dB.inj hi)
    ·exact cY (m.rootM (bx (by lia)) hi (by lia))
   rw[g2]at hp
   rcases ao.mp hp with hp|hp
   ·unfold defs at hp
    obtain⟨d,hd,rfl⟩:=bb.mp hp
    have:=af.mp hd
    exact key d (by lia)
   ·by_cases hf:nd.isF=true
    ·rw[if_pos hf,bg]at hp
     rw[hp]
     exact key i (c7 _)
    ·rw[if_neg hf]at hp
     cases hp
  ·obtain⟨j,hj⟩:=bI.mp h3
   obtain⟨h4,h,ndc,h5,h6,h7⟩:=m.kid q ndq j k h2 hj
   rw[hnd]at h6
   cases h6
   rw[h7]at hp
   rcases ao.mp hp with hp|hp
   ·exact(m.outOk n q (by lia) ndq h2 p hp).le (by lia)
   ·unfold exL at hp
    obtain⟨o,how⟩:=h
    cases o with
    |none=>cases hp
    |some w=>
     have hp:p∈[((w,(how,if how=("let":Str)then(((q+ 1:Nat)):Int)else(k:Int))):Str×Hm)]:=hp
     rw[bg]at hp
     rw[hp]
     refine⟨fun z=>?_,fun z=>?_⟩
     ·have z:how="let":=z
      subst z
      obtain⟨rfl,w',hw⟩:=ER h5
      have hh:=m.toMI0.full h2
      have h0:=(m.fst q ndq h2).1 (fun z=>by rw[z]at hj;cases hj)
      have:=m.to (m.i1 q ndq 0 (q+ 1) k h2 h0 hj)
      have b:=rR m.up (show q+ 1<L.length from(m.kidL h2 _ (aN h0)).1)
      exact⟨q+ 1,(show(if("let":Str)="let" then(((q+ 1:Nat)):Int)else(k:Int))=((q+ 1:Nat):Int)from if_pos rfl),by lia,by lia⟩
     ·have z:how="def":=z
      have hm:=aN h5
      rcases Kn.ho_ok hm with e|⟨w2,how2,e,e2⟩
      ·cases e
      ·cases e
       rw[z]at e2
       exact absurd e2 (by decide+kernel)
end
def uU (L:List Nd) (k:Nat):Option Hm:=match L[k]? with
 |some nd=>AF nd.κ nd.out
 |none=>none
theorem rS {L:List Nd} {k:Nat} {nd:Nd} (h:L[k]?=some nd):uU L k=AF nd.κ nd.out:=by unfold uU;rw[h]
def uV (roots:List Nat):Nat->Nat
 |0=>0
 |p+ 1=>if p∈roots then uV roots p+ 1 else uV roots p
section
variable {names:List Str} {roots:List Nat} {L:List Nd}
theorem MI.cnt (m:MI names roots L []):∀p d:Nat,d<uV roots p↔∃r,roots[d]?=some r/\r<p
 |0,d=>⟨fun h=>absurd h (dy _),fun⟨r,_,h⟩=>absurd h (dy _)⟩
 |p+ 1,d=>by
  have ih:=m.cnt p
  unfold uV
  by_cases hp:p∈roots
  ·rw[if_pos hp]
   obtain⟨e,he⟩:=bI.mp hp
   have el:=(au.mp he).1
   have c1:∀d,d<uV roots p↔d<e:=fun d=>by
    rw[ih d]
    constructor
    ·rintro⟨r,h1,h2⟩
     by_cases z:d<e
     ·exact z
     ·by_cases z2:d=e
      ·rw[z2,he]at h1;cases h1;lia
      ·have:=m.rootM he h1 (by lia)
       lia
    ·intro h
     exact⟨roots[d]'(by lia),bx (by lia),m.rootM (bx (by lia)) he h⟩
   have c2:uV roots p=e:=by
    have h1:=c1 e
    have h2:=c1 (uV roots p)
    lia
   rw[c2]
   constructor
   ·intro h
    by_cases z:d=e
    ·exact⟨p,by rw[z];exact he,by lia⟩
    ·obtain⟨r,h1,h2⟩:=(ih d).mp ((c1 d).mpr (by lia))
     exact⟨r,h1,by lia⟩
   ·rintro⟨r,h1,h2⟩
    by_cases z:d<=e
    ·lia
    ·have:=m.rootM he h1 (by lia)
     lia
  ·rw[if_neg hp,ih d]
   constructor
   ·rintro⟨r,h1,h2⟩;exact⟨r,h1,by lia⟩
   ·rintro⟨r,h1,h2⟩
    refine⟨r,h1,?_⟩
    have:r≠p:=fun z=>hp (z▸aN h1)
    lia
def al (roots:List Nat) (L:List Nd) (S:Nat->Int) (p:Nat):Int:=match uU L p with
 |none=>1
 |some h=>if h.1="let" then 1+S (en L h.2.toNat)-S h.2.toNat else if h.1="def"/\h.2<(uV roots (p+ 1):Int)-1 then 1+S (en L (roots.getD h.2.toNat 0))-S (roots.getD h.2.toNat 0)else 1
def SS (roots:List Nat) (L:List Nd):Nat->Nat->Int
 |0,_=>0
 |p+ 1,k=>if k<=p then SS roots L p k else SS roots L p p+al roots L (SS roots L p) p
def Sx (roots:List Nat) (L:List Nd) (k:Nat):Int:=SS roots L k k
theorem ES:∀{p k:Nat},k<=p->SS roots L p k=Sx roots L k
 |0,k,h=>by
  have:k=0:=by lia
  rw[this]
  rfl
 |p+ 1,k,h=>by
  by_cases z:k<=p
  ·show(if k<=p then _ else _)=_
   rw[if_pos z]
   exact ES z
  ·have:k=p+ 1:=by lia
   rw[this]
   rfl
def Wt (roots:List Nat) (L:List Nd) (p:Nat):Int:=Sx roots L (en L p)-Sx roots L p
theorem MI.due (m:MI names roots L []) {p:Nat} {h:Hm} (e:uU L p=some h):p<L.length/\j6 L p=none/\Dv roots L p h:=by
 unfold uU at e
 split at e
 ·rename_i nd hnd
  have pl:=(au.mp hnd).1
  unfold AF at e
  split at e
  ·rename_i w hw
   refine⟨pl,pX m.toMI0 ⟨nd,hnd,by rw[hw];rfl⟩,?_⟩
   exact m.outOk (p+ 1) p (da _) nd hnd _ (AG e)
  ·cases e
 ·cases e
theorem MI.ahead (m:MI names roots L []) {p d r:Nat} (hd:roots[d]?=some r) (hc:(d:Int)<(uV roots (p+ 1):Int)-1):en L r<=p/\∃r',roots[d+ 1]?=some r'/\r'<=p:=by
 obtain⟨r',h1,h2⟩:=(m.cnt (p+ 1) (d+ 1)).mp (by lia)
 have:=m.rootS hd h1 (da _)
 exact⟨by lia,r',h1,by lia⟩
theorem rT {l:List Nat} {d r:Nat} (h:l[d]?=some r):l.getD d 0=r:=by rw[bo,h];rfl
theorem MI.al_eq (m:MI names roots L []) {S S':Nat->Int} {p:Nat} (hS:∀k,k<=p->S k=S' k):al roots L S p=al roots L S' p:=by
 unfold al
 cases e:uU L p with
 |none=>rfl
 |some h=>
  obtain⟨pl,_,h1,h2⟩:=m.due e
  dsimp only
  by_cases z1:h.1="let"
  ·obtain⟨q,e1,e2,e3⟩:=h1 z1
   rw[if_pos z1,if_pos z1,e1,gf,hS _ e3,hS _ (by lia)]
  ·rw[if_neg z1,if_neg z1]
   by_cases z2:h.1="def"/\h.2<(uV roots (p+ 1):Int)-1
   ·obtain⟨d,r,e1,e2,e3⟩:=h2 z2.1
    have z3:=z2.2
    rw[e1]at z3
    obtain⟨e4,_⟩:=m.ahead e2 z3
    rw[if_pos z2,if_pos z2,e1,gf,rT e2,hS _ e4,hS _ e3]
   ·rw[if_neg z2,if_neg z2]
theorem MI.Sx_succ (m:MI names roots L []) (p:Nat):Sx roots L (p+ 1)=Sx roots L p+al roots L (Sx roots L) p:=by
 show(if p+ 1<=p then _ else _)=_
 rw[if_neg (by lia),m.al_eq fun k hk=>ES hk]
 rfl
theorem MI.Wt_none (m:MI names roots L []) {p:Nat} {nd:Nd} (h:L[p]?=some nd) (hd:uU L p=none):Wt roots L p=1+(nd.kids.map (Wt roots L)).sum:=by
 have hk:=m.kids h
 have:=hk.sum (Sx roots L)
 have e:(nd.kids.map (Wt roots L)).sum=Sx roots L (en L p)-Sx roots L (p+ 1):=this
 have e2:al roots L (Sx roots L) p=1:=by unfold al;rw[hd]
 rw[e,m.Sx_succ,e2]
 unfold Wt
 lia
theorem MI.Wt_some (m:MI names roots L []) {p:Nat} {h:Hm} (hd:uU L p=some h):Wt roots L p=al roots L (Sx roots L) p:=by
 obtain⟨pl,h1,_⟩:=m.due hd
 unfold Wt
 rw[za m.up pl h1,m.Sx_succ]
 lia
theorem MI.rootN (m:MI names roots L []) {i r:Nat} (hi:roots[i]?=some r):(∀r',roots[i+ 1]?=some r'->r'=en L r)/\(i+ 1=roots.length->en L r=L.length):=by
 refine⟨fun r' h=>m.to (m.i2 i r r' hi h),fun h=>?_⟩
 obtain⟨⟨b,h1,h2⟩,_⟩:=m.rt r (by rw[cz,<-h];exact hi)
 rw[uT m.up h2 (m.lastLeaf h1) (by lia),h1]
def Bef (L:List Nd) (y x:Nat):Prop:=en L y<en L x\/(en L y=en L x/\x<y)
theorem Bef.trans {x y z:Nat} (h:Bef L x y) (g:Bef L y z):Bef L x z:=by
 unfold Bef at*
 lia
theorem Bef.asym {x y:Nat} (h:Bef L x y) (g:Bef L y x):False:=by
 unfold Bef at*
 lia
structure PO (L:List Nd) (r:Nat) (found ahead:List Nat):Prop where
 fp:found.Pairwise fun x y=>Bef L y x
 fa:∀x∈found,∀a∈ahead,Bef L a x
 ap:ahead.Pairwise fun a b=>en L a<=b
 cov:∀x,(x∈found\/∃a∈ahead,a<=x/\x<en L a)↔r<=x/\x<en L r
 al:∀a∈ahead,a<L.length/\en L a<=en L r
 fl:∀x∈found,x<L.length/\en L x<=en L r
 sz:found.length+(ahead.map fun a=>en L a-a).sum=en L r-r
theorem Chn.sumN {E:Nat->Nat}:∀{cs:List Nat} {a e:Nat},Chn E cs a e->(∀c∈cs,c<E c)->(cs.map fun c=>E c-c).sum=e-a
 |[],a,e,h,_=>by
  have h:a=e:=h
  rw[h,dw]
  rfl
 |c::cs,a,e,⟨h1,h2⟩,hl=>by
  have hl':=fun x hx=>hl x (ai _ hx)
  have:=Chn.sumN h2 hl'
  have:=hl c ah
  have:=(Chn.le h2 hl').1
  rw[aC,cE]
  lia
theorem PO.start {r:Nat} (hr:r<L.length) (u:Up L):PO L r [] [r]:=by
 have:=rR u hr
 refine⟨.nil,fun x h=>(by cases h),cF _ _,fun x=>⟨?_,?_⟩,fun a ha=>?_,fun x h=>(by cases h),?_⟩
 ·rintro(h|⟨a,ha,h⟩)
  ·cases h
  ·rw[bg]at ha
   rw[ha]at h
   exact h
 ·intro h
  exact .inr ⟨r,cG _,h⟩
 ·rw[bg]at ha
  rw[ha]
  exact⟨hr,c7 _⟩
 ·show 0+((en L r-r)+ 0)=_
  lia
theorem PO.step (m:MI names roots L []) {r x:Nat} {found as:List Nat} {nd:Nd} (h:PO L r found (as++[x])) (hx:L[x]?=some nd):PO L r (found++[x]) (as++nd.kids):=by
 have hk:=m.kids hx
 have hl:=m.kidL hx
 have hl':=fun c hc=>(hl c hc).2
 have le:=hk.le hl'
 have xa:x∈as++[x]:=az _ (cG _)
 have ap:=cB.mp h.ap
 have xl:=h.al x xa
 have bd:=rR m.up xl.1
 have kb:∀c∈nd.kids,Bef L c x:=fun c hc=>by
  have:=le.2 c hc
  unfold Bef
  lia
 have ax:∀a∈as,en L a<=x:=fun a ha=>ap.2.2 a ha x (cG _)
 refine⟨cB.mpr ⟨h.fp,cF _ _,fun y hy z hz=>?_⟩,fun y hy a ha=>?_,cB.mpr ⟨ap.1,hk.pw hl',fun a ha c hc=>?_⟩,fun y=>?_,fun a ha=>?_,fun y hy=>?_,?_⟩
 ·rw[bg]at hz
  rw[hz]
  exact h.fa y hy x xa
 ·rcases ao.mp hy with hy|hy
  ·rcases ao.mp ha with ha|ha
   ·exact h.fa y hy a (aq _ ha)
   ·exact(kb a ha).trans (h.fa y hy x xa)
  ·rw[bg]at hy
   rw[hy]
   rcases ao.mp ha with ha|ha
   ·have:=ax a ha
    exact .inl (by lia)
   ·exact kb a ha
 ·have:=ax a ha
  have:=le.2 c hc
  lia
 ·rw[<-h.cov y]
  constructor
  ·rintro(hy|⟨a,ha,h1⟩)
   ·rcases ao.mp hy with hy|hy
    ·exact .inl hy
    ·rw[bg]at hy
     rw[hy]
     exact .inr ⟨x,xa,c7 _,bd.1⟩
   ·rcases ao.mp ha with ha|ha
    ·exact .inr ⟨a,aq _ ha,h1⟩
    ·have:=le.2 a ha
     exact .inr ⟨x,xa,by lia,by lia⟩
  ·rintro(hy|⟨a,ha,h1⟩)
   ·exact .inl (aq _ hy)
   ·rcases ao.mp ha with ha|ha
    ·exact .inr ⟨a,aq _ ha,h1⟩
    ·rw[bg]at ha
     rw[ha]at h1
     by_cases e:y=x
     ·exact .inl (by rw[e];exact az _ (cG _))
     ·obtain⟨c,h2,h3⟩:=hk.cov hl' (show x+ 1<=y by lia) h1.2
      exact .inr ⟨c,az _ h2,h3⟩
 ·rcases ao.mp ha with ha|ha
  ·exact h.al a (aq _ ha)
  ·have:=le.2 a ha
   exact⟨(hl a ha).1,by lia⟩
 ·rcases ao.mp hy with hy|hy
  ·exact h.fl y hy
  ·rw[bg]at hy
   rw[hy]
   exact xl
 ·have s1:=h.sz
  have s2:=hk.sumN hl'
  have:=le.1
  rw[bh,bK,List.map_singleton,List.sum_singleton]at s1
  rw[bh,bK,s2,aO,a9]
  lia
structure AH (L:List Nd) (r:Nat) (ps:List Nat):Prop where
 pw:ps.Pairwise (Bef L)
 mem:∀x,x∈ps↔r<=x/\x<en L r
 le:∀x∈ps,x<L.length/\en L x<=en L r
 sz:ps.length<=L.length
theorem PO.post {r:Nat} {found:List Nat} (h:PO L r found []) (hr:r<L.length) (u:Up L):AH L r found.reverse:=by
 have:=rR u hr
 refine⟨List.pairwise_reverse.mpr h.fp,fun x=>?_,fun x hx=>h.fl x (cD.mp hx),?_⟩
 ·rw[cD,<-h.cov x]
  exact⟨.inl,fun z=>z.elim id fun⟨a,ha,_⟩=>by cases ha⟩
 ·have:=h.sz
  rw[bG]
  lia
theorem AH.bef {r:Nat} {ps:List Nat} (h:AH L r ps) {j p x:Nat} (hp:ps[j]?=some p) (hx:x∈ps) (b:Bef L x p):x∈ps.take j:=by
 obtain⟨i,hi⟩:=bI.mp hx
 have jl:=(au.mp hp).1
 have il:=(au.mp hi).1
 have pw:=cC.mp h.pw
 have ei:=(au.mp hi).2
 have ej:=(au.mp hp).2
 by_cases z:i<j
 ·exact bI.mpr ⟨i,by rw[b6,if_pos z];exact hi⟩
 ·by_cases z2:i=j
  ·subst z2
   rw[hp]at hi
   cases hi
   exact(b.asym b).elim
  ·have:=pw j i jl il (by lia)
   rw[ei,ej]at this
   exact(b.asym this).elim
def Don (roots:List Nat) (L:List Nd) (r:Nat) (ps:List Nat) (vs:List Int):Prop:=vs.length=L.length/\∀x,(x<r\/x∈ps)->vs[x]?=some (Wt roots L x)
theorem Don.kids (m:MI names roots L []) {r j p:Nat} {ps:List Nat} {vs:List Int} {nd:Nd} (P:AH L r ps) (D:Don roots L r (ps.take j) vs) (hp:ps[j]?=some p) (h:L[p]?=some nd):∀c∈nd.kids,vs[c]?=some (Wt roots L c):=fun c hc=>by
 have hk:=m.kids h
 have le:=(hk.le fun c hc=>(m.kidL h c hc).2).2 c hc
 have pm:=(P.mem p).mp (aN hp)
 have pe:=(P.le p (aN hp)).2
 have cl:=m.kidL h c hc
 refine D.2 c (.inr (P.bef hp ((P.mem c).mpr ⟨by lia,by lia⟩) ?_))
 unfold Bef
 lia
theorem Don.lets (m:MI names roots L []) {r j p q:Nat} {ps:List Nat} {vs:List Int} (P:AH L r ps) (D:Don roots L r (ps.take j) vs) (hp:ps[j]?=some p) (h1:q<p) (h2:en L q<=p):vs[q]?=some (Wt roots L q):=by
 have pm:=(P.mem p).mp (aN hp)
 have pl:=(P.le p (aN hp)).1
 have pb:=rR m.up pl
 by_cases z:q<r
 ·exact D.2 q (.inl z)
 ·refine D.2 q (.inr (P.bef hp ((P.mem q).mpr ⟨by lia,by lia⟩) ?_))
  unfold Bef
  lia
theorem Don.defs (m:MI names roots L []) {r j p i d s:Nat} {ps:List Nat} {vs:List Int} (hi:roots[i]?=some r) (P:AH L r ps) (D:Don roots L r (ps.take j) vs) (hp:ps[j]?=some p) (hd:roots[d]?=some s) {r':Nat} (h1:roots[d+ 1]?=some r') (h2:r'<=p):vs[s]?=some (Wt roots L s):=by
 have pm:=(P.mem p).mp (aN hp)
 refine D.2 s (.inl ?_)
 by_cases z:d<i
 ·exact m.rootM hd hi z
 ·have:=m.rootS hi h1 (by lia)
  lia
theorem Don.put {r j p:Nat} {ps:List Nat} {vs:List Int} (D:Don roots L r (ps.take j) vs) (hp:ps[j]?=some p) (pl:p<L.length):Don roots L r (ps.take (j+ 1)) (vs.set p (Wt roots L p)):=by
 refine⟨by rw[aX];exact D.1,fun x hx=>?_⟩
 rw[List.getElem?_set]
 by_cases e:p=x
 ·rw[if_pos e,if_pos (by rw[D.1];exact pl),e]
 ·rw[if_neg e]
  refine D.2 x ?_
  rcases hx with hx|hx
  ·exact .inl hx
  ·rw[bJ,hp]at hx
   rcases ao.mp hx with hx|hx
   ·exact .inr hx
   ·have:x=p:=bg.mp hx
    exact absurd this.symm e
theorem Don.all {r:Nat} {ps:List Nat} {vs:List Int} (P:AH L r ps) (D:Don roots L r ps vs):Don roots L (en L r) [] vs:=⟨D.1,fun x hx=>by
 rcases hx with hx|hx
 ·refine D.2 x ?_
  by_cases z:x<r
  ·exact .inl z
  ·exact .inr ((P.mem x).mpr ⟨by lia,hx⟩)
 ·cases hx⟩
theorem Don.whole {vs:List Int} (D:Don roots L L.length [] vs):vs=(aa L.length).map (Wt roots L):=by
 refine bE fun k=>?_
 rw[aM]
 by_cases hk:k<L.length
 ·rw[D.2 k (.inl hk),cH hk]
  rfl
 ·rw[bF (by rw[D.1];lia),bF (by rw[cb];lia)]
  rfl
end
theorem tS {c:TT} {tb u:TS} {D:nY} {σ:St} {H:Hp} (N:St->Hp->Prop) (k:∀σ' H',N σ' H'->u D σ' H') (w:∀Nx:St->Hp->Prop,(∀σ' H',N σ' H'->Nx σ' H')->xB c tb {D with nx:=Nx} σ H):xk (xB c tb) u D σ H:=w _ k
theorem MI.stands {names:List Str} {roots:List Nat} {L:List Nd} (m:MI names roots L []) {d r:Nat} (k:Nat) (hd:roots[d]?=some r):(decide (d+ 1=roots.length)||decide (k<roots.getD (d+ 1) 0))=!(decide ((d:Int)<(uV roots (k+ 1):Int)-1)):=by
 have dl:=(au.mp hd).1
 have c:=m.cnt (k+ 1) (d+ 1)
 by_cases e:d+ 1=roots.length
 ·rw[decide_eq_true e,fQ,decide_eq_false,Bool.not_false]
  intro z
  obtain⟨r',h1,_⟩:=c.mp (by lia)
  have:=(au.mp h1).1
  lia
 ·rw[decide_eq_false e,fS]
  have h1:roots[d+ 1]?=some (roots[d+ 1]'(by lia)):=bx (by lia)
  rw[rT h1]
  by_cases z:k<roots[d+ 1]'(by lia)
  ·rw[decide_eq_true z,decide_eq_false,Bool.not_false]
   intro y
   obtain⟨r',h2,h3⟩:=c.mp (by lia)
   rw[h1]at h2
   cases h2
   lia
  ·have:=c.mpr ⟨_,h1,by lia⟩
   rw[decide_eq_false z,decide_eq_true (show(d:Int)<(uV roots (k+ 1):Int)-1 by lia),Bool.not_true]
theorem zd {f:Nat->Nat}:∀{l:List Nat},(∀a∈l,1<=f a)->l.length<=(l.map f).sum
 |[],_=>c7 _
 |a::l,h=>by
  have:=zd fun b hb=>h b (ai _ hb)
  have:=h a ah
  rw[aA,aC,cE]
  lia
theorem ET {names:List Str} {roots:List Nat} {L:List Nd} (m:MI names roots L []) {k:Nat} {nd:Nd} (h:L[k]?=some nd):nd.ro.ok/\nd.ro.pl.map V.int=nd.kids.map nI/\nd.kids.length<=101:=by
 have fl:=m.toMI0.full h
 have fl':(nd.kids.map fun k:Nat=>(k:Int)).length=nd.κ.ho.length:=by rw[aD];exact fl
 refine⟨Bi (m.ok nd (aN h)) fl',?_,by rw[fl];exact nd.κ.ho_le (m.ok nd (aN h))⟩
 unfold Nd.ro
 rw[vQ fl',bA]
 rfl
theorem ze {H:Hp} {xs:List V} {L:List Nd} {k:Nat} {nd:Nd} (h:Ims H xs (L.map fun nd=>nd.ro.d)) (e:L[k]?=some nd):∃t:Addr,xs[k]?=some (.ref t)/\Im H (.ref t) nd.ro.d:=by
 have h':Ims H xs ((L.map Nd.ro).map Ro.d):=by rw[bA];exact h
 obtain⟨t,_,h1,_,_,h2⟩:=uQ h' (show(L.map Nd.ro)[k]?=some nd.ro by rw[aM,e];rfl)
 exact⟨t,h1,h2⟩
def tT (C:Addr):Sp:=fun vs H Q _=>∃(p n r w dx:Addr) (roots:List Nat) (k d:Nat),vs=[.ref p,.int (k:Int),.int (d:Int)]/\H p=some (.ins C dx (fP n r w))/\H r=some (.lst (roots.map nI))/\d<roots.length/\Q (.bl (decide (d+ 1=roots.length)||decide (k<roots.getD (d+ 1) 0))) H
theorem tU (T:Txt K mg):iK P w K mg base CX0 1 T.a_stands_in T.fd_stands_in ["program","place","number"] (tT T.a_Program):=by
 refine T.F_stands_in.ok ou (fun vs H Q E h=>?_) (fun cdv A outer s H vs Q E hr h=>?_)
 ·obtain⟨p,n,r,w,dx,roots,k,d,rfl,_⟩:=h
  rfl
 obtain⟨p,n,r,w,dx,roots,k,d,rfl,eo,er,hd,q⟩:=h
 refine⟨_,(gC (gR (i:=3) ou.nd rfl (.inl rfl) (gY jf (cv 2) gH))
  (gK (hV (DD (lX og (cv 3) (gS hJ rfl T.z_len jG (gB (jT T.cl_Program T.n_Program_roots (cv 0)) gG)) (ic _)) (vg (lX uB (cv 1) (hU gX (jT T.cl_Program T.n_Program_roots (cv 0)) (cv 3) (fun _ _=>rfl)) (ic _))))))),?_⟩
 refine⟨_,⟨dx,_,eo,mQ _ _ _⟩,r,_,rfl,.inl (SqL.of er),_,rfl,?_⟩
 show if(false ^^ decide ((d:Int)+ 1=(((roots.map nI).length:Nat):Int)))=true then _ else _
 rw[fW,aD,show decide ((d:Int)+ 1=(roots.length:Int))=decide (d+ 1=roots.length)from decide_eq_decide.mpr (by lia)]
 by_cases e:d+ 1=roots.length
 ·rw[decide_eq_true e]at q⊢
  rw[fQ]at q
  exact kE q
 ·rw[decide_eq_false e]at q⊢
  rw[fS]at q
  have h1:roots[d+ 1]?=some (roots[d+ 1]'(by lia)):=bx (by lia)
  rw[rT h1]at q
  refine jO ⟨_,⟨dx,_,eo,mQ _ _ _⟩,_,er,gO (v:=nI (roots[d+ 1]'(by lia))) (gN (j:=d+ 1) (by rw[aM,h1];rfl)) ?_⟩
  show Q (.bl (decide ((k:Int)<((roots[d+ 1]'(by lia):Nat):Int)))) H
  rw[show decide ((k:Int)<((roots[d+ 1]'(by lia):Nat):Int))=decide (k<roots[d+ 1]'(by lia))from decide_eq_decide.mpr (by lia)]
  exact q
def rU:Sp:=fun vs H Q _=>∃(w:Addr) (xs:List V) (names:List Str) (roots:List Nat) (L:List Nd) (r:Nat),vs=[.ref w,.int (r:Int)]/\MI names roots L []/\r<L.length/\H w=some (.lst xs)/\Ims H xs (L.map fun nd=>nd.ro.d)/\
 ∀l ps H',gT H H'->H l=none->H' l=some (.lst (ps.map nI))->AH L r ps->Q (.ref l) H'
theorem rV (T:Txt K mg):iK P w K mg base CX0 7 T.a_inside_out T.fd_inside_out ["rows","root"] rU:=by
 have G_places_in:=mD (P:=P) (w:=w) (base:=base) T
 refine T.F_inside_out.ok kS (fun vs H Q E h=>?_) (fun cdv A outer s H vs Q E hr h=>?_)
 ·obtain⟨w,xs,names,roots,L,r,rfl,_⟩:=h
  rfl
 obtain⟨w,xs,names,roots,L,r,rfl,mi,hr0,ew,ims,q⟩:=h
 refine⟨_,(gC (gR (i:=2) kS.nd rfl (.inl rfl) (iL gG))
  (gC (gR (i:=3) kS.nd rfl (.inl rfl) (iL (gB (cv 1) gG)))
  (gC (mK PassesOwn.never (ie ph (gS hJ rfl T.z_len jG (gB (cv 3) gG)) gH (ic _))
   (gC (gR (i:=4) kS.nd rfl (.inl rfl) (DW fD PySem.F.slot_list_pop PySem.F.type_list_pop DY (cv 3)))
   (gC (iu (mq (lK fD fE fF iD (PE.mono (cv 2)) (gB (PE.mono (cv 4)) gG))))
   (gK (iu (lK fD fG fH sN (cv 3) (gB (ia G_places_in (hr.mono (by decide)) rfl T.m_places_in T.k_places_in T.b_places_in .nil iX (gB (hU gX (cv 0) (cv 4) (fun _ _=>rfl)) gG)) gG)))))))
  (gK (hV (wN rfl rfl T.z_list rfl T.z_reversed (gB (cv 2) gG))))))),?_⟩
 have sl:sizeLine=16777216:=sizeLine_eq
 have Ll:=mi.sz
 have rb:=rR mi.up hr0
 refine⟨(by show 0<=sizeLine;decide),fun lf h1=>?_⟩
 have s1:=gJ h1 (.lst [])
 have e1:(upd H lf (.lst [])) lf=some (.lst []):=gE
 dsimp only[iW]
 generalize upd H lf (.lst [])=H1 at s1 e1⊢
 refine⟨(by show 1<=sizeLine;decide),fun la h2=>?_⟩
 have s2:=gJ h2 (.lst [.int (r:Int)])
 have e2:(upd H1 la (.lst [.int (r:Int)])) la=some (.lst [.int (r:Int)]):=gE
 dsimp only[iW]
 generalize upd H1 la (.lst [.int (r:Int)])=H2 at s2 e2⊢
 have ne:lf≠la:=gL e1 h2
 refine tS (fun σ H3=>∃(found:List Nat) (o4:Option V),σ=[some (.ref w),some (.int (r:Int)),some (.ref lf),some (.ref la),o4]/\PO L r found []/\H3 lf=some (.lst (found.map nI))/\gT H H3) ?_ ?_
 ·rintro σ H3 ⟨found,o4,rfl,po,ef,S⟩
  refine⟨lf,_,rfl,SqL.of ef,fun l hl=>?_⟩
  exact q l found.reverse _ (S.trans (gJ hl _)) (S.free hl) (by rw[gE,List.map_reverse]) (po.post hr0 mi.up)
 ·intro Nx hNx
  refine⟨fun m σ H3=>∃(found ahead:List Nat) (o4:Option V),σ=[some (.ref w),some (.int (r:Int)),some (.ref lf),some (.ref la),o4]/\PO L r found ahead/\H3 lf=some (.lst (found.map nI))/\H3 la=some (.lst (ahead.map nI))/\gT H H3/\m=200-found.length,
   ⟨200,[],[r],none,rfl,PO.start hr0 mi.up,s2 _ _ e1,e2,s1.trans s2,rfl⟩,?_⟩
  rintro m σ H3 ⟨found,ahead,o4,rfl,po,ef,ea,S,rfl⟩
  have sz:=po.sz
  refine⟨la,_,rfl,.inl (SqL.of ea),?_⟩
  show if decide ((0:Int)<(((ahead.map nI).length:Nat):Int))=true then _ else _
  rw[aD]
  rcases List.eq_nil_or_concat ahead with rfl|⟨as,x,rfl⟩
  ·exact jO (hNx _ _ ⟨found,o4,rfl,po,ef,S⟩)
  rw[List.concat_eq_append]at po ea sz⊢
  rw[decide_eq_true (by rw[aO,a9];lia)]
  have xl:=(po.al x (az _ (cG _))).1
  obtain⟨nd,hnd⟩:∃nd,L[x]?=some nd:=⟨_,bx xl⟩
  have po':=po.step mi hnd
  have sz':=po'.sz
  rw[aO,a9]at sz'
  obtain⟨rok,rpl,rkl⟩:=ET mi hnd
  refine kE ⟨fun σ H4=>∃(o4:Option V),σ=[some (.ref w),some (.int (r:Int)),some (.ref lf),some (.ref la),o4]/\H4 lf=some (.lst ((found++[x]).map nI))/\H4 la=some (.lst ((as++nd.kids).map nI))/\gT H H4,?_,?_⟩
  ·rintro σ' H4 ⟨o4,rfl,ef4,ea4,S4⟩
   exact⟨200-(found++[x]).length,by rw[aO,a9];lia,found++[x],as++nd.kids,o4,rfl,po',ef4,ea4,S4,rfl⟩
  ·refine⟨.inl ⟨rfl,_,SqL.of ea⟩,la,_,nI x,rfl,rfl,ea,?_,?_⟩
   ·rw[aD,aO,a9,Nat.add_sub_cancel,aM,aJ (c7 _),dw]
    rfl
   have ed:((as++[x]).map nI).dropLast=as.map nI:=by rw[bh];exact List.dropLast_concat
   rw[ed]
   have fl:H lf=none:=h1
   have al:H la=none:=s1.free h2
   have S4:gT H (upd H3 la (.lst (as.map nI))):=jc S al _
   have ef4:(upd H3 la (.lst (as.map nI))) lf=some (.lst (found.map nI)):=by rw[gM ne];exact ef
   have ea4:(upd H3 la (.lst (as.map nI))) la=some (.lst (as.map nI)):=gE
   dsimp only[iW]
   generalize upd H3 la (.lst (as.map nI))=H4 at S4 ef4 ea4⊢
   refine⟨⟨_,ef4⟩,_,ef4,by rw[aD];lia,?_⟩
   have S5:gT H (upd H4 lf (.lst (found.map nI++[nI x]))):=jc S4 fl _
   have ef5:(upd H4 lf (.lst (found.map nI++[nI x]))) lf=some (.lst ((found++[x]).map nI)):=by rw[gE,bh];rfl
   have ea5:(upd H4 lf (.lst (found.map nI++[nI x]))) la=some (.lst (as.map nI)):=by rw[gM ne.symm];exact ea4
   dsimp only
   generalize upd H4 lf (.lst (found.map nI++[nI x]))=H5 at S5 ef5 ea5⊢
   obtain⟨t,ht,it⟩:=ze ims hnd
   refine⟨.inl ⟨rfl,_,SqL.of ea5⟩,_,S5 _ _ ew,gO (gN (j:=x) ht) ⟨t,nd.ro,rfl,it.mono (gT.tk S5),rok,fun l H6 S6 hl e6=>?_⟩⟩
   rw[rpl]at e6
   refine⟨la,l,_,_,rfl,rfl,S6 _ _ ea5,e6,?_,_,rfl,?_,?_,?_⟩
   ·rw[aD,aD]
    have:=zd (f:=fun a=>en L a-a) (l:=as++[x]) fun a ha=>by
     have:=rR mi.up (po.al a ha).1
     lia
    rw[aO,a9]at this
    lia
   ·rw[gM ne];exact S6 _ _ ef5
   ·rw[gE,bh]
   ·exact jc (S5.trans S6) al _
theorem EU {H:Hp} {v:V} {h:Hm} (i:Im H v (hmD h)):∃t,v= .ref t/\H t=some (.tup [.str h.1,.int h.2]):=by
 unfold hmD at i
 cases i with
 |@tup t xs _ et hs=>
  cases hs with
  |cons a hs=>
   cases hs with
   |cons b hs=>
    cases a;cases b;cases hs
    exact⟨t,rfl,et⟩
theorem EV {H:Hp} {us:List V} {L:List Nd} {k:Nat} (h:Ims H us (L.map fun nd=>hoD (AF nd.κ nd.out))) (hk:k<L.length):∃v,us[k]?=some v/\Im H v (hoD (uU L k)):=by
 have lu:=h.length
 rw[aD]at lu
 obtain⟨d,hd,him⟩:=mP h (bx (show k<us.length by lia))
 rw[aM,bx hk]at hd
 cases hd
 refine⟨_,bx (by lia),?_⟩
 rw[rS (bx hk)]
 exact him
theorem Bk {roots:List Nat} {L:List Nd} {S:Nat->Int} {p q:Nat} {h:Hm} (e:uU L p=some h) (h1:h.1="let") (h2:h.2=(q:Int)):al roots L S p=1+(S (en L q)-S q):=by
 unfold al
 rw[e]
 dsimp only
 rw[if_pos h1,h2,gf]
 lia
theorem Bl {roots:List Nat} {L:List Nd} {S:Nat->Int} {p d r:Nat} {h:Hm} (e:uU L p=some h) (h1:h.1="def") (h2:h.2=(d:Int)) (hd:roots[d]?=some r) (hc:(d:Int)<(uV roots (p+ 1):Int)-1):al roots L S p=1+(S (en L r)-S r):=by
 unfold al
 rw[e]
 dsimp only
 rw[if_neg (by rw[h1];decide+kernel),if_pos ⟨h1,by rw[h2];exact hc⟩,h2,gf,rT hd]
 lia
theorem Bm {roots:List Nat} {L:List Nd} {S:Nat->Int} {p:Nat} {h:Hm} (e:uU L p=some h) (h1:¬h.1="let") (h2:¬(h.1="def"/\h.2<(uV roots (p+ 1):Int)-1)):al roots L S p=1:=by
 unfold al
 rw[e]
 dsimp only
 rw[if_neg h1,if_neg h2]
def tV (C:Addr):Sp:=fun vs H Q _=>∃(p n r w dx hl wl:Addr) (xs us:List V) (names:List Str) (roots:List Nat) (L:List Nd) (ws:List Int) (i rt j k:Nat) (ps:List Nat),vs=[.ref p,.ref hl,.int (k:Int),.ref wl]/\MI names roots L []/\
 H p=some (.ins C dx (fP n r w))/\H r=some (.lst (roots.map nI))/\H w=some (.lst xs)/\Ims H xs (L.map fun nd=>nd.ro.d)/\H hl=some (.lst us)/\Ims H us (L.map fun nd=>hoD (AF nd.κ nd.out))/\H wl=some (.lst (ws.map V.int))/\
 roots[i]?=some rt/\AH L rt ps/\Don roots L rt (ps.take j) ws/\ps[j]?=some k/\∀H',gT H H'->Q (.int (Wt roots L k)) H'
theorem tW (T:Txt K mg):iK P w K mg base CX0 7 T.a_weight_of T.fd_weight_of ["program","homes","place","weights"] (tV T.a_Program):=by
 have G_places_in:=mD (P:=P) (w:=w) (base:=base) T
 have G_stands_in:=tU (P:=P) (w:=w) (base:=base) T
 refine T.F_weight_of.ok ow (fun vs H Q E h=>?_) (fun cdv A outer s H vs Q E hr h=>?_)
 ·obtain⟨p,n,r,w,dx,hl,wl,xs,us,names,roots,L,ws,i,rt,j,k,ps,rfl,_⟩:=h
  rfl
 obtain⟨p,n,r,w,dx,hl,wl,xs,us,names,roots,L,ws,i,rt,j,k,ps,rfl,mi,eo,er,ew,ims,eh,imu,el,hi,po,don,hk,q⟩:=h
 refine⟨_,(gC (gR (i:=4) ow.nd rfl (.inl rfl) (hU gX (cv 1) (cv 2) (fun _ _=>rfl)))
  (gC (iU (sf (DC (cv 4)))
   (gK (hV (gY jf gH (gS (pq rfl) rfl T.z_sum sQ (gB (oa rfl (F7 (x:="inner") ["weights"] [("weights",3,s.heap.objs.size+ 1)] rfl rfl (by decide+kernel) (by decide+kernel) rfl (by decide+kernel) rfl rfl (by intro p hp;simp only[aj,bB,or_false]at hp;rcases hp with rfl<;>exact⟨rfl,rfl,rfl,rfl⟩)) (jR (ia G_places_in (hr.mono (by decide)) rfl T.m_places_in T.k_places_in T.b_places_in .nil iX (gB (hU gX (jT T.cl_Program T.n_Program_rows (cv 0)) (cv 2) (fun _ _=>rfl)) gG))) (fun _ _ _ _ _=>kM) (fun _ _ _ _ _=>(hU gX (cv 1) (cv 0) (fun _ _=>rfl)))) gG)))))
   ib)
  (gC (iU (ie og (hU iY (cv 4) gH (fun _ _=>rfl)) gP (ic _))
   (gK (hV (gY jf gH (hU gX (cv 3) (hU iY (cv 4) gH (fun _ _=>rfl)) (fun _ _=>rfl)))))
   ib)
  (gC (iU (PW.pt (ql (ie og (hU iY (cv 4) gH (fun _ _=>rfl)) gP (ic _)) (oT (nB (lT (ia G_stands_in (hr.mono (by decide)) rfl T.m_stands_in T.k_stands_in T.b_stands_in .nil iX (gB (cv 0) (gB (cv 2) (gB (hU iY (cv 4) gH (fun _ _=>rfl)) gG)))))))))
   (gK (hV (gY jf gH (hU gX (cv 3) (hU gX (jT T.cl_Program T.n_Program_roots (cv 0)) (hU iY (cv 4) gH (fun _ _=>rfl)) (fun _ _=>rfl)) (fun _ _=>rfl)))))
   ib)
  (gK (hV gH)))))),?_⟩
 have sl:sizeLine=16777216:=sizeLine_eq
 have kl:=(po.le k (aN hk)).1
 obtain⟨nd,hnd⟩:∃nd,L[k]?=some nd:=⟨_,bx kl⟩
 obtain⟨v,hv,iv⟩:=EV imu kl
 have at_w:∀{c:Nat},ws[c]?=some (Wt roots L c)->atI (ws.map V.int) (c:Int)=some (.int (Wt roots L c)):=fun{c} h=>gN (by rw[aM,h];rfl)
 refine⟨_,eh,gO (gN hv) ?_⟩
 dsimp only[iW]
 cases hd:uU L k with
 |none=>
  rw[hd]at iv
  cases iv
  refine⟨_,rfl,?_⟩
  rw[decide_eq_true rfl]
  obtain⟨rok,rpl,rkl⟩:=ET mi hnd
  obtain⟨t,ht,it⟩:=ze ims hnd
  refine kE ⟨_,⟨dx,_,eo,oo _ _ _⟩,_,ew,gO (gN ht) ⟨t,nd.ro,rfl,it,rok,fun l H1 S1 hl e1=>⟨l,rfl,⟨_,SqL.of e1⟩,fun D hD=>?_⟩⟩⟩
  rw[rpl]at e1
  have kids:=don.kids mi po hk hnd
  refine vw nd.kids.length (by lia) (fun xs _=>xs=(nd.kids.take xs.length).map fun c=>V.int (Wt roots L c)) (fun xs H H' h tk=>h) hD rfl (fun k H S h=>qA e1 S (by rw[aD];exact h)) (fun H S=>?_) rfl ?_ ?_
  ·have:=qB (K:=K) e1 S
   rw[aD]at this
   exact this
  ·intro z H2 v H3 xs Z S hz y hx hxl hZ
   obtain⟨rfl,hy⟩:=y
   have hv:=hy _ (SqL.of (S _ _ e1))
   rw[aM,bx hz]at hv
   cases hv
   refine⟨_,(S1.trans S) _ _ el,gO (at_w (kids _ (bD hz))) (hZ _ _ (gT.refl _) ?_)⟩
   rw[hxl]at hx
   rw[aO,a9,hxl,bJ,bx hz,bh,<-hx]
   rfl
  ·intro H2 xs S hx hxl e2
   rw[hxl,br]at hx
   refine⟨D,nd.kids.map (Wt roots L),rfl,SqL.of (by rw[e2,hx,bA];rfl),?_⟩
   have:=q H2 (S1.trans S)
   rw[mi.Wt_none hnd hd]at this
   exact this
 |some h=>
  rw[hd]at iv
  obtain⟨t,rfl,et⟩:=EU iv
  obtain⟨_,_,o1,o2⟩:=mi.due hd
  have wk:=mi.Wt_some hd
  refine⟨_,rfl,?_⟩
  rw[decide_eq_false (fun z=>nomatch z)]
  refine jO ⟨_,et,gO (gN (j:=0) rfl) ?_⟩
  dsimp only[tC,cEq,onB]
  rw[fW]
  by_cases z1:h.1="let"
  ·rw[decide_eq_true z1]
   obtain⟨c,c1,c2,c3⟩:=o1 z1
   have:=don.lets mi po hk c2 c3
   refine kE ⟨_,et,gO (gN (j:=1) rfl) ?_⟩
   rw[c1]
   refine⟨_,el,gO (at_w this) ?_⟩
   have:=q H (gT.refl _)
   rw[wk,Bk hd z1 c1]at this
   exact this
  ·rw[decide_eq_false z1]
   refine jO ⟨_,et,gO (gN (j:=0) rfl) ?_⟩
   dsimp only[tC,cEq,onB]
   rw[fW]
   by_cases z2:h.1="def"
   ·rw[decide_eq_true z2]
    obtain⟨d,s,c1,c2,c3⟩:=o2 z2
    refine kE ⟨_,et,gO (gN (j:=1) rfl) ?_⟩
    rw[c1]
    refine⟨p,n,r,w,dx,roots,k,d,rfl,eo,er,(au.mp c2).1,_,rfl,?_⟩
    dsimp only
    rw[mi.stands k c2,Bool.not_not]
    by_cases z3:(d:Int)<(uV roots (k+ 1):Int)-1
    ·rw[decide_eq_true z3]
     obtain⟨_,r',g1,g2⟩:=mi.ahead c2 z3
     have:=don.defs mi hi po hk c2 g1 g2
     refine kE ⟨_,⟨dx,_,eo,mQ _ _ _⟩,_,et,gO (gN (j:=1) rfl) ?_⟩
     rw[c1]
     refine⟨_,er,gO (v:=nI s) (gN (by rw[aM,c2];rfl)) ⟨_,el,gO (at_w this) ?_⟩⟩
     have:=q H (gT.refl _)
     rw[wk,Bl hd z2 c1 c2 z3]at this
     exact this
    ·rw[decide_eq_false z3]
     refine jO ?_
     have:=q H (gT.refl _)
     rw[wk,Bm hd z1 (fun z=>z3 (by rw[<-c1];exact z.2))]at this
     exact this
   ·rw[decide_eq_false z2]
    refine jO (jO ?_)
    have:=q H (gT.refl _)
    rw[wk,Bm hd z1 (fun z=>z2 z.1)]at this
    exact this
theorem EW {n j:Nat} (h:j<n):ixN n (j:Int)=some j:=by
 unfold ixN
 rw[if_pos (by lia),if_pos (by lia),gf]
theorem AI (ws:List Int) (k:Nat) (z:Int):(ws.map V.int).set k (.int z)=(ws.set k z).map V.int:=(List.map_set ..).symm
def bnd (roots:List Nat) (L:List Nd) (i:Nat):Nat:=match roots[i]? with
 |some r=>r
 |none=>L.length
theorem MI.bnd0 {names:List Str} {roots:List Nat} {L:List Nd} (m:MI names roots L []):bnd roots L 0=0:=by
 unfold bnd
 cases h:roots[0]? with
 |some r=>exact m.i3 r h
 |none=>
  have c:=m.rootsC
  have:roots=[]:=bS (Nat.le_zero.mp (cJ.mp h))
  rw[this]at c
  exact c.symm
theorem EY {roots:List Nat} {L:List Nd} {i r:Nat} (h:roots[i]?=some r):bnd roots L i=r:=by unfold bnd;rw[h]
theorem MI.bndS {names:List Str} {roots:List Nat} {L:List Nd} (m:MI names roots L []) {i r:Nat} (h:roots[i]?=some r):bnd roots L (i+ 1)=en L r:=by
 obtain⟨h1,h2⟩:=m.rootN h
 have il:=(au.mp h).1
 unfold bnd
 cases h':roots[i+ 1]? with
 |some r'=>exact h1 r' h'
 |none=>
  have:=cJ.mp h'
  exact(h2 (by lia)).symm
theorem CW {roots:List Nat} {L:List Nd}:bnd roots L roots.length=L.length:=by
 unfold bnd
 rw[bF (c7 _)]
def mX (C:Addr):Sp:=fun vs H Q _=>∃(e:Addr) (x:Str),vs=[.ref e,.str x]/\H e=some (Ci e C)/\∀dx,H dx=none->dx≠e->Q .non (upd (upd H e (Aa e C dx)) dx (Ab dx [("word",.str x)]))
theorem mY (T:Txt K mg):iK P w K mg base CX0 1 T.a_TooHeavy___init__ T.fd_TooHeavy___init__ ["self","word"] (mX T.a_TooHeavy):=by
 refine T.F_TooHeavy___init__.ok mW (fun vs H Q E h=>?_) (fun cdv A outer s H vs Q E hr h=>?_)
 ·obtain⟨e,x,rfl,_⟩:=h
  rfl
 obtain⟨e,x,rfl,he,q⟩:=h
 refine⟨_,(gK (Ac rfl (cv 0) (cv 1) rfl)),?_⟩
 exact⟨e,_,rfl,he,T.xs_TooHeavy,T.xf_TooHeavy_word,q⟩
def rW (C Ct:Addr):Sp:=fun vs H Q E=>∃(p n r w dx hl:Addr) (xs us:List V) (names:List Str) (roots:List Nat) (L:List Nd),vs=[.ref p,.ref hl]/\MI names roots L []/\
 H p=some (.ins C dx (fP n r w))/\H n=some (.lst (names.map V.str))/\H r=some (.lst (roots.map nI))/\H w=some (.lst xs)/\Ims H xs (L.map fun nd=>nd.ro.d)/\H hl=some (.lst us)/\Ims H us (L.map fun nd=>hoD (AF nd.κ nd.out))/\
 ((∀i s:Nat,roots[i]?=some s->Wt roots L s<=60)->∀l H',gT H H'->H l=none->H' l=some (.lst (((aa L.length).map (Wt roots L)).map V.int))->Q (.ref l) H')/\
 (∀(i s:Nat) (x:Str),roots[i]?=some s->names[i]?=some x->60<Wt roots L s->(∀j s:Nat,j<i->roots[j]?=some s->Wt roots L s<=60)->∀dx H',gT H H'->H' dx=some (Ab dx [("word",.str x)])->E (.ref Ct) (some dx) H')
theorem rX (T:Txt K mg):iK P w K mg base (CXF P w) 8 T.a_weights_of T.fd_weights_of ["program","homes"] (rW T.a_Program T.a_TooHeavy):=by
 have G_inside_out:=rV (P:=P) (w:=w) (base:=base) T
 have G_weight_of:=tW (P:=P) (w:=w) (base:=base) T
 have G_TooHeavy___init__:=mY (P:=P) (w:=w) (base:=base) T
 refine T.F_weights_of.okF kc (fun vs H Q E h=>?_) (fun cdv A outer s H vs Q E hr h=>?_)
 ·obtain⟨p,n,r,w,dx,hl,xs,us,names,roots,L,rfl,_⟩:=h
  rfl
 obtain⟨p,n,r,w,dx,hl,xs,us,names,roots,L,rfl,mi,eo,en0,er,ew,ims,eh,imu,q1,q2⟩:=h
 refine⟨_,(gC (gR (i:=2) kc.nd rfl (.inl rfl) (gY DZ (iL (gB gH gG)) (gS hJ rfl T.z_len jG (gB (jT T.cl_Program T.n_Program_rows (cv 0)) gG))))
  (gC (lU PassesOwn.leaving rfl (uA rfl T.z_enumerate (gB (jT T.cl_Program T.n_Program_roots (cv 0)) gG)) (vi rfl (lO (jt (i:=3) kc.nd rfl (.inl rfl)) (lO (jt (i:=4) kc.nd rfl (.inl rfl)) qP)))
   (gC (lU PassesOwn.leaving rfl (jR (ia G_inside_out (hr.mono (by decide)) rfl T.m_inside_out T.k_inside_out T.b_inside_out .nil iX (gB (jT T.cl_Program T.n_Program_rows (cv 0)) (gB (cv 4) gG)))) (jt (i:=5) kc.nd rfl (.inl rfl))
    (gK (xA (ia G_weight_of (hr.mono (by decide)) rfl T.m_weight_of T.k_weight_of T.b_weight_of .nil iX (gB (cv 0) (gB (cv 1) (gB (cv 5) (gB (cv 2) gG))))) (AW (cv 2) (cv 5) vn))))
   (gK (iU (ie ph (hU gX (cv 2) (cv 4) (fun _ _=>rfl)) (n9 rfl T.m_MOST_WEIGHT) (ic _))
    (gK (yH rfl rfl Co T.xi_TooHeavy G_TooHeavy___init__ (hr.mono (by decide)) T.b_TooHeavy___init__ rfl T.m_TooHeavy (gB (hU gX (jT T.cl_Program T.n_Program_names (cv 0)) (cv 3) (fun _ _=>rfl)) gG)))
    ib))))
  (gK (hV (cv 2))))),?_⟩
 have sl:sizeLine=16777216:=sizeLine_eq
 have Ll:=mi.sz
 have lx:=ims.length
 rw[aD]at lx
 refine⟨(by show 1<=sizeLine;decide),fun l0 h0=>?_⟩
 have s0:=gJ h0 (.lst [.int 0])
 have e0:(upd H l0 (.lst [.int 0])) l0=some (.lst [.int 0]):=gE
 generalize upd H l0 (.lst [.int 0])=H0 at s0 e0⊢
 refine⟨_,⟨dx,_,s0 _ _ eo,oo _ _ _⟩,w,_,rfl,.inl (SqL.of (s0 _ _ ew)),l0,_,_,rfl,rfl,e0,by lia,by lia,?_,fun wl h1=>?_⟩
 ·show 1*((xs.length:Int)).toNat<=sizeLine
  lia
 have s1:=gJ h1 (.lst (aH (xs.length:Int).toNat [V.int 0]).flatten)
 have e1:(upd H0 wl (.lst (aH (xs.length:Int).toNat [V.int 0]).flatten)) wl=some (.lst ((aH L.length (0:Int)).map V.int)):=by rw[gE,List.flatten_replicate_singleton,cK,gf,lx]
 dsimp only[iW]
 generalize upd H0 wl (.lst (aH (xs.length:Int).toNat [V.int 0]).flatten)=H1 at s1 e1⊢
 have S01:=s0.trans s1
 have wn:H wl=none:=s0.free h1
 refine⟨_,⟨dx,_,S01 _ _ eo,mQ _ _ _⟩,r,rfl,⟨_,SqL.of (S01 _ _ er)⟩,rM (xs:=roots.map nI) (fun i σ H2=>∃(ws:List Int) (o3 o4 o5:Option V),σ=[some (.ref p),some (.ref hl),some (.ref wl),o3,o4,o5]/\gT H H2/\H2 wl=some (.lst (ws.map V.int))/\Don roots L (bnd roots L i) [] ws/\∀j s:Nat,j<i->roots[j]?=some s->Wt roots L s<=60)
  ⟨_,none,none,none,rfl,S01,e1,⟨aP ..,fun x hx=>?_⟩,fun j s h=>absurd h (dy _)⟩ (fun i σ H2 _ ⟨_,_,_,_,_,S,_⟩=>SqL.of (S _ _ er)) ?_ ?_⟩
 ·rw[mi.bnd0]at hx
  rcases hx with hx|hx
  ·exact absurd hx (dy _)
  ·cases hx
 ·rintro i v σ H2 t hx ⟨ws,o3,o4,o5,rfl,S,el,don,light⟩ ht
  rw[aM]at hx
  obtain⟨rt,hrt,rfl⟩:=dF.mp hx
  have rl:=mi.rootL rt (aN hrt)
  have sT:=gJ ht (.tup [.int (i:Int),nI rt])
  refine⟨t,_,rfl,SqT.of gE,rfl,_,_,rfl,_,_,rfl,rfl,?_⟩
  have S3:=S.trans sT
  have el3:=sT _ _ el
  generalize upd H2 t (.tup [.int (i:Int),nI rt])=H3 at sT S3 el3⊢
  rw[EY hrt]at don
  refine⟨_,⟨dx,_,S3 _ _ eo,oo _ _ _⟩,w,xs,names,roots,L,rt,rfl,mi,rl.1,S3 _ _ ew,ims.mono (gT.tk S3),fun l ps H4 S4 hl4 e4 post=>?_⟩
  have nl:l≠wl:=(gL el3 hl4).symm
  have S34:=S3.trans S4
  refine⟨l,rfl,⟨_,SqL.of e4⟩,nF (xs:=ps.map nI) (fun j σ H5=>∃(ws:List Int) (o5:Option V),σ=[some (.ref p),some (.ref hl),some (.ref wl),some (.int (i:Int)),some (.int (rt:Int)),o5]/\gT H H5/\H5 l=some (.lst (ps.map nI))/\H5 wl=some (.lst (ws.map V.int))/\Don roots L rt (ps.take j) ws)
   ⟨ws,o5,rfl,S34,e4,S4 _ _ el3,don⟩ (fun j σ H5 _ ⟨_,_,_,_,e,_⟩=>SqL.of e) ?_ ?_⟩
  ·rintro j v σ H5 hv ⟨ws,o5,rfl,S5,el5,ew5,don5⟩
   rw[aM]at hv
   obtain⟨k,hk,rfl⟩:=dF.mp hv
   have kl:=(post.le k (aN hk)).1
   refine⟨p,n,r,w,dx,hl,wl,xs,us,names,roots,L,ws,i,rt,j,k,ps,rfl,mi,S5 _ _ eo,S5 _ _ er,S5 _ _ ew,ims.mono (gT.tk S5),S5 _ _ eh,imu.mono (gT.tk S5),ew5,hrt,post,don5,hk,fun H6 S6=>?_⟩
   refine⟨wl,_,_,k,rfl,rfl,S6 _ _ ew5,EW (by rw[aD,don5.1];exact kl),ws.set k (Wt roots L k),_,rfl,jc (S5.trans S6) wn _,?_,?_,don5.put hk kl⟩
   ·rw[gM nl];exact S6 _ _ el5
   ·rw[gE,AI]
  ·rintro σ H5 ⟨ws,o5,rfl,S5,el5,ew5,don5⟩
   rw[aD,bZ (c7 _)]at don5
   have don6:=don5.all post
   have hw:ws[rt]?=some (Wt roots L rt):=don6.2 rt (.inl rl.2)
   refine⟨_,ew5,gO (gN (by rw[aM,hw];rfl)) ?_⟩
   show if decide ((60:Int)<Wt roots L rt)=true then _ else _
   by_cases z:60<Wt roots L rt
   ·rw[decide_eq_true z]
    have il:=(au.mp hrt).1
    have rn:=mi.rl
    obtain⟨x,hx'⟩:∃x,names[i]?=some x:=⟨_,bx (by lia)⟩
    refine kE ⟨_,⟨dx,_,S5 _ _ eo,rN _ _ _⟩,_,S5 _ _ en0,gO (v:= .str x) (gN (by rw[aM,hx'];rfl)) ⟨(by show 1<=sizeLine;decide),fun e he=>⟨e,x,rfl,gE,fun d hd hde=>⟨rfl,d,?_,?_⟩⟩⟩⟩
    ·rw[gM hde.symm,gE]
    ·have he':=S5.free he
     have hd':H5 d=none:=by rw[gM hde]at hd;exact hd
     have hd'':=S5.free hd'
     refine q2 i rt x hrt hx' z light d _ (fun b u hb=>?_) (by rw[qZ hde,gE])
     rw[qZ (gL hb he'),gM (gL hb hd''),gM (gL hb he'),gM (gL hb he')]
     exact S5 b u hb
   ·rw[decide_eq_false z]
    refine jO ⟨ws,_,_,_,rfl,S5,ew5,?_,fun j s hj hs=>?_⟩
    ·rw[mi.bndS hrt]
     exact don6
    ·by_cases ji:j=i
     ·rw[ji,hrt]at hs
      cases hs
      lia
     ·exact light j s (by lia) hs
 ·rintro σ H2 ⟨ws,o3,o4,o5,rfl,S,el,don,light⟩
  rw[aD,CW]at don
  rw[aD]at light
  rw[don.whole]at el
  exact q1 (fun i s h=>light i s (au.mp h).1 h) wl H2 S wn el
structure Itm where
 x:Str
 w:Int
 s:Nat
 n:Nat
def Itm.v (t:Itm):List V:=[.str t.x,.int t.w,.int (t.s:Int),.int (t.n:Int)]
def Itm.d (t:Itm):Dt:= .lst [sD t.x,kD t.w,kD (t.s:Int),kD (t.n:Int)]
theorem CY {H:Hp} {v:V} {t:Itm} (h:Dta H v t.d):∃e,v= .ref e/\H e=some (.lst t.v):=by
 unfold Itm.d sD kD at h
 cases h with
 |lst he hs=>
  cases hs with
  |cons h1 hs=>cases hs with
   |cons h2 hs=>cases hs with
    |cons h3 hs=>cases hs with
     |cons h4 hs=>
      cases hs
      cases h1;cases h2;cases h3;cases h4
      exact⟨_,rfl,he⟩
theorem qM {H:Hp} {e:Addr} {t:Itm} (h:H e=some (.lst t.v)):Dta H (.ref e) t.d:= .lst h (.cons (.flat rfl) (.cons (.flat rfl) (.cons (.flat rfl) (.cons (.flat rfl) .nil))))
theorem vS {K:PySem.W.Frag} {H1:Hp} {l:Addr} {ps:List V} {ts:List Itm} {i:Nat} {te:TE} {Q:VK} {τ:St} {D:Addr} (f:Itm->V) (ep:H1 l=some (.lst ps)) (dps:mh H1 ps (ts.map Itm.d)) (hl:ts.length<=1000) (hD:H1 D=none) (hτ:τ.set i none=τ)
  (step:∀(e:Addr) (t:Itm) (H:Hp) (Z:VK),gT H1 H->H e=some (.lst t.v)->Z (f t) H->te (τ.set i (some (.ref e))) H Z)
  (hq:∀H',gT H1 H'->H' D=some (.lst (ts.map f))->Q (.ref D) H'):LcP (Itl K l) i m9 te Q τ H1 D:=by
 have lp:=dps.length
 rw[aD]at lp
 have sl:sizeLine=16777216:=sizeLine_eq
 refine vw ps.length (by lia) (fun ys _=>ys=(ts.take ys.length).map f) (fun ys H H' h _=>h) hD hτ (fun k H S h=>qA ep S h) (fun H S=>qB ep S) rfl ?_ ?_
 ·intro k H2 v H3 ys Z S hk y hy hyl hZ
  obtain⟨rfl,hv⟩:=y
  have hv:=hv _ (SqL.of (S _ _ ep))
  obtain⟨d,hd,dv⟩:=dps.get hv
  rw[aM]at hd
  obtain⟨t,ht,rfl⟩:=dF.mp hd
  obtain⟨e,rfl,he⟩:=CY dv
  refine step e t _ _ S (S _ _ he) (hZ _ _ (gT.refl _) ?_)
  rw[aO,a9,bJ,hyl,ht,bh]
  rw[hyl]at hy
  rw[<-hy]
  rfl
 ·intro H' ys S hy hyl e
  rw[hyl,bZ (by lia)]at hy
  rw[hy]at e
  exact hq H' S e
def jn (l:List Str):Str:=Str.join " " l
theorem uW {x:Str} {l:List Str} (h:l≠[]):jn (x::l)=x++" "++jn l:=by
 cases l with
 |nil=>exact absurd rfl h
 |cons y l=>rfl
theorem Bo (x:Str):jn [x]=x:=rfl
theorem AJ:∀ys:List Str,(jn ys).length<=(ys.map (·.length)).sum+ys.length
 |[]=>by show(0:Nat)<=_;exact c8 _
 |[y]=>by rw[Bo];simp
 |y::u::ys=>by
  have ih:=AJ (u::ys)
  have h1:(" ":Str).length=1:=by decide+kernel
  rw[uW (by simp),Str.length_append,Str.length_append,h1]
  rw[aC,cE,aA]
  lia
def mxs:List Nat->Nat
 |[]=>0
 |n::l=>max n (mxs l)
theorem Bp:∀{l:List Nat} {m:Nat},m∈l->m<=mxs l
 |n::l,m,h=>by
  rw[mxs]
  rcases aj.mp h with rfl|h
  ·lia
  ·have:=Bp h
   lia
theorem zf:∀{l:List Nat},l≠[]->mxs l∈l
 |[n],_=>by rw[mxs,mxs];simp
 |n::m::l,_=>by
  have ih:=zf (l:=m::l) (by simp)
  rw[mxs]
  by_cases h:n<=mxs (m::l)
  ·rw[Nat.max_eq_right h];exact ai _ ih
  ·rw[Nat.max_eq_left (by lia)];exact ah
def rwx (ts:List Itm):List Str:="(row"::ts.map (·.x)
def i9 (ts:List Itm):Itm:=⟨jn (rwx ts)++")",1+(ts.map (·.w)).sum,1+(ts.map (·.s)).sum,1+mxs (ts.map (·.n))⟩
theorem vT:∀l:List Nat,(l.map fun n:Nat=>(n:Int)).sum=((l.sum:Nat):Int)
 |[]=>rfl
 |n::l=>by rw[aC,cE,cE,vT l];lia
theorem vU {α:Type} {f:α->Nat} {m:Nat}:∀{l:List α},(∀y∈l,f y<=m)->(l.map f).sum<=m*l.length
 |[],_=>by simp
 |a::l,h=>by
  rw[aC,cE,aA]
  have h1:=h a ah
  have h2:=vU (l:=l) fun y hy=>h y (ai _ hy)
  rw[Nat.mul_succ]
  lia
theorem CZ {l:List Nat} {n:Int} (h1:n∈((0:Int)::l.map fun m:Nat=>(m:Int))) (h2:∀m∈((0:Int)::l.map fun m:Nat=>(m:Int)),m<=n):n=((mxs l:Nat):Int):=by
 have a:((mxs l:Nat):Int)<=n:=by
  cases l with
  |nil=>exact h2 0 ah
  |cons x l=>exact h2 _ (ai _ (bb.mpr ⟨_,zf (by simp),rfl⟩))
 rcases aj.mp h1 with rfl|h1
 ·lia
 ·obtain⟨m,hm,rfl⟩:=bb.mp h1
  have:=Bp hm
  lia
def uX:Sp:=fun vs H Q _=>∃(l:Addr) (ps:List V) (ts:List Itm),vs=[.ref l]/\H l=some (.lst ps)/\mh H ps (ts.map Itm.d)/\ts.length<=100/\(∀t∈ts,t.x.length<=30000)/\
 ∀r H',gT H H'->H r=none->H' r=some (.lst (i9 ts).v)->Q (.ref r) H'
theorem ny (T:Txt K mg):iK P w K mg base CX0 1 T.a_row T.fd_row ["_law_things"] uX:=by
 refine T.F_row.ok lC (fun vs H Q E h=>?_) (fun cdv A outer s H vs Q E hr h=>?_)
 ·obtain⟨l,ps,ts,rfl,_⟩:=h
  rfl
 obtain⟨l,ps,ts,rfl,el,dt,hl,hx,q⟩:=h
 refine⟨_,(gC (gR (i:=1) lC.nd rfl (.inl rfl) (gY sO (iL (gB gP gG)) (oa rfl (ym (x:="_law_thing") rfl (by decide+kernel) (by decide+kernel) rfl rfl) (jR (cv 0)) (fun _ _ _ _ _=>kM) (fun _ _ _ _ _=>(hU gX (cv 0) gH (fun _ _=>rfl))))))
  (gC (gR (i:=2) lC.nd rfl (.inl rfl) (gY jf gH (gS (pq rfl) rfl T.z_sum sQ (gB (oa rfl (ym (x:="_law_thing") rfl (by decide+kernel) (by decide+kernel) rfl rfl) (jR (cv 0)) (fun _ _ _ _ _=>kM) (fun _ _ _ _ _=>(hU gX (cv 0) gH (fun _ _=>rfl)))) gG))))
  (gC (gR (i:=3) lC.nd rfl (.inl rfl) (gY jf gH (gS (pq rfl) rfl T.z_sum sQ (gB (oa rfl (ym (x:="_law_thing") rfl (by decide+kernel) (by decide+kernel) rfl rfl) (jR (cv 0)) (fun _ _ _ _ _=>kM) (fun _ _ _ _ _=>(hU gX (cv 0) gH (fun _ _=>rfl)))) gG))))
  (gC (gR (i:=4) lC.nd rfl (.inl rfl) (gY jf gH (gS (yv rfl) rfl T.z_max A7 (gB (gY sO (iL (gB gH gG)) (oa rfl (ym (x:="_law_thing") rfl (by decide+kernel) (by decide+kernel) rfl rfl) (jR (cv 0)) (fun _ _ _ _ _=>kM) (fun _ _ _ _ _=>(hU gX (cv 0) gH (fun _ _=>rfl))))) gG))))
  (gK (hV (iL (gB (gY iQ (lK fC fJ fK yw gP (gB (cv 1) gG)) gP) (gB (cv 2) (gB (cv 3) (gB (cv 4) gG))))))))))),?_⟩
 have sl:sizeLine=16777216:=sizeLine_eq
 refine⟨(by show 1<=sizeLine;decide),fun p hp=>?_⟩
 have s1:=gJ hp (.lst [.str "(row"])
 have e1:(upd H p (.lst [.str "(row"])) p=some (.lst [.str "(row"]):=gE
 generalize upd H p (.lst [.str "(row"])=H1 at s1 e1⊢
 refine⟨l,rfl,⟨_,SqL.of (s1 _ _ el)⟩,fun D hD=>vS (fun t=> .str t.x) (s1 _ _ el) (dt.same s1) (by lia) hD rfl (fun e t H Z _ he hZ=>⟨_,he,gO (gN (j:=0) rfl) hZ⟩) fun H2 s2 eD=>?_⟩
 have S2:=s1.trans s2
 refine⟨p,D,_,_,rfl,rfl,s2 _ _ e1,eD,by rw[aD];show 1+_<=_;lia,fun a ha=>?_⟩
 have s3:=gJ ha (.lst ([V.str "(row"]++ts.map fun t=>V.str t.x))
 have e3:(upd H2 a (.lst ([V.str "(row"]++ts.map fun t=>V.str t.x))) a=some (.lst ((rwx ts).map V.str)):=by
  rw[gE,rwx,aC,bA]
  rfl
 have S3:=S2.trans s3
 dsimp only[iW]
 generalize upd H2 a (.lst ([V.str "(row"]++ts.map fun t=>V.str t.x))=H3 at s3 e3 S3⊢
 refine⟨l,rfl,⟨_,SqL.of (S3 _ _ el)⟩,fun D hD=>vS (fun t=> .int t.w) (S3 _ _ el) (dt.same S3) (by lia) hD rfl (fun e t H Z _ he hZ=>⟨_,he,gO (gN (j:=1) rfl) hZ⟩) fun H4 s4 eD=>?_⟩
 refine⟨D,ts.map (·.w),rfl,SqL.of (by rw[eD,bA];rfl),?_⟩
 have S4:=S3.trans s4
 dsimp only[iW]
 refine⟨l,rfl,⟨_,SqL.of (S4 _ _ el)⟩,fun D hD=>vS (fun t=> .int (t.s:Int)) (S4 _ _ el) (dt.same S4) (by lia) hD rfl (fun e t H Z _ he hZ=>⟨_,he,gO (gN (j:=2) rfl) hZ⟩) fun H5 s5 eD=>?_⟩
 refine⟨D,(ts.map (·.s)).map fun n:Nat=>(n:Int),rfl,SqL.of (by rw[eD,bA,bA];rfl),?_⟩
 rw[vT]
 have S5:=S4.trans s5
 dsimp only[iW]
 refine⟨(by show 1<=sizeLine;decide),fun p2 hp2=>?_⟩
 have s6:=gJ hp2 (.lst [.int 0])
 have e6:(upd H5 p2 (.lst [.int 0])) p2=some (.lst [.int 0]):=gE
 have S6:=S5.trans s6
 generalize upd H5 p2 (.lst [.int 0])=H6 at s6 e6 S6⊢
 refine⟨l,rfl,⟨_,SqL.of (S6 _ _ el)⟩,fun D hD=>vS (fun t=> .int (t.n:Int)) (S6 _ _ el) (dt.same S6) (by lia) hD rfl (fun e t H Z _ he hZ=>⟨_,he,gO (gN (j:=3) rfl) hZ⟩) fun H7 s7 eD=>?_⟩
 refine⟨p2,D,_,_,rfl,rfl,s7 _ _ e6,eD,by rw[aD];show 1+_<=_;lia,fun a2 ha2=>?_⟩
 have s8:=gJ ha2 (.lst ([V.int 0]++ts.map fun t=>V.int (t.n:Int)))
 have e8:(upd H7 a2 (.lst ([V.int 0]++ts.map fun t=>V.int (t.n:Int)))) a2=some (.lst (((0:Int)::(ts.map (·.n)).map fun m:Nat=>(m:Int)).map V.int)):=by
  rw[gE,aC,bA,bA]
  rfl
 have S8:=(S6.trans s7).trans s8
 generalize upd H7 a2 (.lst ([V.int 0]++ts.map fun t=>V.int (t.n:Int)))=H8 at s8 e8 S8⊢
 refine⟨a2,_,rfl,SqL.of e8,by simp,fun n n1 n2=>?_⟩
 obtain rfl:=CZ n1 n2
 dsimp only[iW]
 have ea:H8 a=some (.lst ((rwx ts).map V.str)):=s8 _ _ (s7 _ _ (s6 _ _ (s5 _ _ (s4 _ _ e3))))
 have lsum:((rwx ts).map (·.length)).sum<=30000*(ts.length+ 1):=by
  have:=vU (f:=(·.length)) (m:=30000) (l:=rwx ts) fun y hy=>by
   rcases aj.mp hy with rfl|hy
   ·decide+kernel
   ·obtain⟨t,ht,rfl⟩:=bb.mp hy
    exact hx t ht
  rw[rwx,aA,aD]at this
  exact this
 have l1:(" ":Str).length=1:=by decide+kernel
 have rl:(rwx ts).length=ts.length+ 1:=by rw[rwx,aA,aD]
 have lj:=AJ (rwx ts)
 have lp:(")":Str).length=1:=by decide+kernel
 refine⟨rfl," ",a,rwx ts,rfl,rfl,SqL.of ea,by rw[l1];lia,?_⟩
 refine⟨by show(jn (rwx ts)).length+(")":Str).length<=sizeLine;lia,(by show 4<=sizeLine;decide),fun r hr'=>?_⟩
 have ev:([V.str (jn (rwx ts)++")"),V.int (1+(ts.map (·.w)).sum),V.int (1+((ts.map (·.s)).sum:Nat)),V.int (1+(mxs (ts.map (·.n)):Nat))]:List V)=(i9 ts).v:=by
  unfold i9 Itm.v
  dsimp only
  rw[Int.natCast_add,Int.natCast_add]
  rfl
 have s9:=gJ hr' (.lst [V.str (jn (rwx ts)++")"),V.int (1+(ts.map (·.w)).sum),V.int (1+((ts.map (·.s)).sum:Nat)),V.int (1+(mxs (ts.map (·.n)):Nat))])
 exact q r _ (S8.trans s9) (S8.free hr') (by rw[<-ev];exact gE)
def FrD (D:Addr) (H H':Hp):Prop:=∀a o,H a=some o->a≠D->H' a=some o
theorem C0 {J:It} {i:Nat} {te:TE} {Q:VK} {τ:St} {H1:Hp} {D:Addr} (n:Nat) (hn:n<sizeLine) (R:List V->Hp->Prop) (hR:∀xs H H',R xs H->FrD D H H'->R xs H') (hD:H1 D=none) (hτ:τ.set i none=τ)
  (hgo:∀k H,gT H1 H->k<n->J.go k H) (hst:∀H,gT H1 H->J.stop n H) (h0:R [] H1)
  (step:∀k H v H3 xs (Z:VK),gT H1 H->k<n->J.yld k H v H3->R xs H->xs.length=k->H D=some (.lst xs)->(∀y H5,gT H H5->R (xs++[y]) H5->Z y H5)->te (τ.set i (some v)) H3 Z)
  (hq:∀H' xs,gT H1 H'->R xs H'->xs.length=n->H' D=some (.lst xs)->Q (.ref D) H'):LcP J i m9 te Q τ H1 D:=by
 have nd:∀(H5:Hp) (o:HO),FrD D H5 (upd H5 D o):=fun H5 o a u e n=>by rw[gM n];exact e
 have up:∀{H:Hp} (o:HO),gT H1 H->gT H1 (upd H D o):=fun{H} o S b u e=>by rw[gM (gL e hD)];exact S b u e
 refine⟨fun k m σ' H2=>m=n-k/\k<=n/\(∃o,σ'=τ.set i o)/\gT H1 H2/\∃xs,H2 D=some (.lst xs)/\xs.length=k/\R xs H2,⟨n,by simp,c8 _,⟨none,hτ.symm⟩,gJ hD _,[],gE,rfl,hR _ _ _ h0 (nd _ _)⟩,?_⟩
 rintro k m σ' H2 ⟨rfl,hk,⟨o,rfl⟩,S,xs,e,hl,hr⟩
 by_cases hlt:k<n
 ·refine .inr ⟨hgo k H2 S hlt,fun v H3 y=>?_⟩
  rw[bp]
  refine step k H2 v H3 xs _ S hlt y hr hl e fun y H5 S5 r5=>?_
  refine⟨xs,S5 D _ e,by lia,n-(k+ 1),by lia,rfl,hlt,⟨some v,rfl⟩,up _ (S.trans S5),xs++[y],gE,by rw[aO,hl];rfl,hR _ _ _ r5 (nd H5 _)⟩
 ·have e1:k=n:=by lia
  subst e1
  exact .inl ⟨hst H2 S,hq H2 xs S hr hl e⟩
def oz (H:Hp) (M:List Addr):Hp:=fun a=>if a∈M then none else H a
theorem kN {H:Hp} {M:List Addr} {a:Addr} {u:HO} (h:a∉M) (e:H a=some u):oz H M a=some u:=by unfold oz;rw[if_neg h];exact e
theorem nX {H:Hp} {M:List Addr} {a:Addr} {u:HO} (e:oz H M a=some u):a∉M/\H a=some u:=by
 unfold oz at e
 by_cases h:a∈M
 ·rw[if_pos h]at e;cases e
 ·rw[if_neg h]at e;exact⟨h,e⟩
theorem kh {H:Hp} {M:List Addr}:gT (oz H M) H:=fun b u e=>(nX e).2
theorem kK {H H':Hp} {M:List Addr} (s:gT H H'):gT (oz H M) (oz H' M):=fun b u e=>kN (nX e).1 (s _ _ (nX e).2)
theorem vV {H:Hp} {M:List Addr} {l:Addr} {o:HO} (h:l∈M):gT (oz H M) (oz (upd H l o) M):=fun b u e=>by
 obtain⟨h1,h2⟩:=nX e
 have:b≠l:=fun z=>h1 (z▸h)
 exact kN h1 (by rw[gM this];exact h2)
theorem EZ {n:Nat} {v:V} {i:Nat} {te:TE} {Q:VK} {τ:St} {H1:Hp} {D:Addr} (hn:n<sizeLine) (hD:H1 D=none) (hτ:τ.set i none=τ)
  (step:∀(y:V) (H:Hp) (Z:VK),gT H1 H->Z v H->te (τ.set i (some y)) H Z)
  (hq:∀H',gT H1 H'->H' D=some (.lst (aH n v))->Q (.ref D) H'):LcP (Itr 0 n) i m9 te Q τ H1 D:=by
 refine vw n hn (fun ys _=>ys=aH ys.length v) (fun ys H H' h _=>h) hD hτ (fun k H _ h=>h) (fun H _=>c7 _) rfl ?_ ?_
 ·intro k H2 u H3 ys Z S hk y hy hyl hZ
  obtain⟨rfl,rfl⟩:=y
  refine step _ _ _ S (hZ _ _ (gT.refl _) ?_)
  rw[aO,a9,cM,<-hy]
 ·intro H' ys S hy hyl e
  rw[hyl]at hy
  rw[hy]at e
  exact hq H' S e
theorem mH {H:Hp}:∀{xs:List V} {ds:List Dt} {x:V} {d:Dt},mh H xs ds->Dta H x d->mh H (xs++[x]) (ds++[d])
 |_,_,_,_,.nil,h=> .cons h .nil
 |_,_,_,_,.cons a t,h=> .cons a (mH t h)
theorem vW {H:Hp} {v:V} {d:Dt} (h:Dta H v d):∀n:Nat,mh H (aH n v) (aH n d)
 |0=> .nil
 |n+ 1=> .cons h (vW h n)
theorem C2 {n:Nat} {t:Itm} {i:Nat} {te:TE} {Q:VK} {τ:St} {H1:Hp} {D:Addr} (hn:n<sizeLine) (hD:H1 D=none) (hτ:τ.set i none=τ)
  (step:∀(y:V) (H:Hp) (Z:VK),(∀r,H r=none->Z (.ref r) (upd H r (.lst t.v)))->te (τ.set i (some y)) H Z)
  (hq:∀H' ys,gT H1 H'->H' D=some (.lst ys)->mh H' ys ((aH n t).map Itm.d)->Q (.ref D) H'):LcP (Itr 0 n) i m9 te Q τ H1 D:=by
 have fm:∀{H H':Hp},FrD D H H'->gT (oz H [D]) (oz H' [D]):=fun{H H'} f b u e=>by
  obtain⟨h1,h2⟩:=nX e
  exact kN h1 (f b u h2 fun z=>h1 (z▸cG _))
 refine C0 n hn (fun ys H=>mh (oz H [D]) ys ((aH ys.length t).map Itm.d)) (fun ys H H' h f=>h.same (fm f)) hD hτ (fun k H _ h=>h) (fun H _=>c7 _) .nil ?_ ?_
 ·intro k H2 u H3 ys Z S hk y hy hyl eD hZ
  obtain⟨rfl,rfl⟩:=y
  refine step _ _ _ fun r hr=>hZ _ _ (gJ hr _) ?_
  have hrD:r≠D:=(fun z=>by rw[z,eD]at hr;cases hr)
  rw[aO,a9,cM,bh]
  refine mH (hy.same (kK (gJ hr _))) (qM (kN (fun z=>hrD (bg.mp z)) gE))
 ·intro H' ys S hy hyl e
  rw[hyl]at hy
  exact hq H' ys S e (hy.same kh)
def C3 (w:Str) (ts:List Itm) (m:Nat):Itm:=⟨"(let "++w++" "++(i9 ts).x++" "++(i9 (aH m ⟨w,1+(i9 ts).w,1,1⟩)).x++")",1+(i9 ts).w+(i9 (aH m ⟨w,1+(i9 ts).w,1,1⟩)).w,1+(i9 ts).s+(i9 (aH m ⟨w,1+(i9 ts).w,1,1⟩)).s,1+max (i9 ts).n (i9 (aH m ⟨w,1+(i9 ts).w,1,1⟩)).n⟩
theorem xq:("(let ":Str).length=5/\(" ":Str).length=1/\(")":Str).length=1/\("(row":Str).length=4:=by decide+kernel
theorem vX (ts:List Itm) {m:Nat} (h:∀t∈ts,t.x.length<=m):(i9 ts).x.length<=6+(m+ 1)*ts.length:=by
 obtain⟨_,_,l3,l4⟩:=xq
 have h1:=AJ (rwx ts)
 have h2:=vU (f:=fun t:Itm=>t.x.length) h
 show(jn (rwx ts)++")").length<=_
 rw[Str.length_append,l3]
 have h3:((rwx ts).map (·.length)).sum=4+(ts.map fun t:Itm=>t.x.length).sum:=by rw[rwx,aC,cE,l4,bA];rfl
 have h4:(rwx ts).length=ts.length+ 1:=by rw[rwx,aA,aD]
 rw[Nat.add_mul]
 lia
inductive Qt
 |num (n:Int)
 |dn (d:Nat)
 |row (ks:List Qt)
 |lt (j:Nat) (ks:List Qt) (m:Nat)
mutual
def Qt.itm (ws:List Str) (W:List Int):Qt->Itm
 | .num n=>⟨TM.Internal.numS n,1,1,1⟩
 | .dn d=>⟨ws.getD (3+d) "",1+W.getD d 0,1,1⟩
 | .row ks=>i9 (jK ws W ks)
 | .lt j ks m=>C3 (ws.getD j "") (jK ws W ks) m
def jK (ws:List Str) (W:List Int):List Qt->List Itm
 |[]=>[]
 |k::ks=>k.itm ws W::jK ws W ks
end
theorem iT (ws:List Str) (W:List Int):∀ks,jK ws W ks=ks.map (Qt.itm ws W)
 |[]=>by rw[jK];rfl
 |k::ks=>by rw[jK,iT ws W ks];rfl
inductive Fl:Qt->Nat->Nat->Prop
 |zero:Fl (.num 0) 1 1
 |row {q:Qt} {w n k:Nat}:Fl q w n->k<=7->Fl (.row (q::aH k (.num 7))) (w+ 1+k) (n+ 1)
def uY:Sp:=fun vs H Q _=>∃(wd:Str) (l:Addr) (m:Nat) (ps:List V) (ts:List Itm),vs=[.str wd,.ref l,.int (m:Int)]/\H l=some (.lst ps)/\mh H ps (ts.map Itm.d)/\ts.length<=100/\(∀t∈ts,t.x.length<=30000)/\m<=100/\wd.length<=300/\
 ∀r H',gT H H'->H r=none->H' r=some (.lst (C3 wd ts m).v)->Q (.ref r) H'
theorem uZ (T:Txt K mg):iK P w K mg base CX0 2 T.a_let T.fd_let ["_law_word","_law_things","_law_times"] uY:=by
 have G_row:=ny (P:=P) (w:=w) (base:=base) T
 refine T.F_let.ok lD (fun vs H Q E h=>?_) (fun cdv A outer s H vs Q E hr h=>?_)
 ·obtain⟨wd,l,m,ps,ts,rfl,_⟩:=h
  rfl
 obtain⟨wd,l,m,ps,ts,rfl,el,dt,hl,hx,hm,hw,q⟩:=h
 refine⟨_,(gC (gR (i:=3) lD.nd rfl (.inl rfl) (ia G_row (hr.mono (by decide)) rfl T.m_row T.k_row T.b_row .nil iX (gB (cv 1) gG)))
  (gC (gR (i:=4) lD.nd rfl (.inr rfl) (iL (gB (cv 0) (gB (gY jf gH (hU gX (cv 3) gH (fun _ _=>rfl))) (gB gH (gB gH gG))))))
  (gC (gR (i:=5) lD.nd rfl (.inl rfl) (ia G_row (hr.mono (by decide)) rfl T.m_row T.k_row T.b_row .nil iX (gB (oa rfl (F7 (x:="_law_k") ["_law_name"] [("_law_name",4,s.heap.objs.size+ 1)] rfl rfl (by decide+kernel) (by decide+kernel) rfl (by decide+kernel) rfl rfl (by intro p hp;simp only[aj,bB,or_false]at hp;rcases hp with rfl<;>exact⟨rfl,rfl,rfl,rfl⟩)) (nE rfl T.z_range (gB (cv 2) gG)) (fun _ _ _ _ _=>kM) (fun _ _ _ _ _=>(cv 1))) gG)))
  (gC (gR (i:=6) lD.nd rfl (.inl rfl) (gY iQ (gY iQ (gY iQ (gY iQ (gY iQ (gY iQ gP (cv 0)) gP) (hU gX (cv 3) gH (fun _ _=>rfl))) gP) (hU gX (cv 5) gH (fun _ _=>rfl))) gP))
  (gK (hV (iL (gB (cv 6) (gB (gY jf (gY jf gH (hU gX (cv 3) gH (fun _ _=>rfl))) (hU gX (cv 5) gH (fun _ _=>rfl))) (gB (gY jf (gY jf gH (hU gX (cv 3) gH (fun _ _=>rfl))) (hU gX (cv 5) gH (fun _ _=>rfl))) (gB (gY jf gH (gS (xI rfl) rfl T.z_max A7 (gB (hU gX (cv 3) gH (fun _ _=>rfl)) (gB (hU gX (cv 5) gH (fun _ _=>rfl)) gG)))) gG))))))))))),?_⟩
 have sl:sizeLine=16777216:=sizeLine_eq
 obtain⟨l1,l2,l3,l4⟩:=xq
 have lr:=vX ts hx
 refine⟨l,ps,ts,rfl,el,dt,hl,hx,fun b H1 s1 hb eb=>?_⟩
 dsimp only[iW]
 refine⟨_,eb,gO (gN (j:=1) rfl) ⟨(by show 4<=sizeLine;decide),fun nm hnm=>?_⟩⟩
 have s2:=gJ hnm (.lst [V.str wd,V.int (1+(i9 ts).w),V.int 1,V.int 1])
 have e2:(upd H1 nm (.lst [V.str wd,V.int (1+(i9 ts).w),V.int 1,V.int 1])) nm=some (.lst (Itm.v ⟨wd,1+(i9 ts).w,1,1⟩)):=gE
 have S2:=s1.trans s2
 dsimp only[iW]
 generalize upd H1 nm (.lst [V.str wd,V.int (1+(i9 ts).w),V.int 1,V.int 1])=H2 at s2 e2 S2⊢
 refine⟨(m:Int),rfl,by lia,by lia,fun D hD=>EZ (n:=m) (v:= .ref nm) (by lia) hD rfl (fun y H Z _ hZ=>hZ) fun H3 s3 eD=>?_⟩
 have S3:=S2.trans s3
 have d3:mh H3 (aH m (V.ref nm)) ((aH m (⟨wd,1+(i9 ts).w,1,1⟩:Itm)).map Itm.d):=by
  rw[cK]
  exact vW (qM (s3 _ _ e2)) m
 refine⟨D,_,_,rfl,eD,d3,by rw[aP];exact hm,fun t ht=>by rw[cN ht];show wd.length<=30000;lia,fun c H4 s4 hc ec=>?_⟩
 have eb4:=s4 _ _ (s3 _ _ (s2 _ _ eb))
 have S4:=S3.trans s4
 have lc:=vX (aH m (⟨wd,1+(i9 ts).w,1,1⟩:Itm)) (m:=300) fun t ht=>by rw[cN ht];exact hw
 rw[aP]at lc
 have lr2:(i9 ts).x.length<=3000200:=by lia
 have lc2:(i9 (aH m (⟨wd,1+(i9 ts).w,1,1⟩:Itm))).x.length<=30200:=by lia
 dsimp only[iW]
 refine⟨by show("(let ":Str).length+wd.length<=sizeLine;lia,by show("(let "++wd).length+(" ":Str).length<=sizeLine;rw[Str.length_append];lia,_,eb4,gO (gN (j:=0) rfl) ⟨by show("(let "++wd++" ").length+(i9 ts).x.length<=sizeLine;rw[Str.length_append,Str.length_append];lia,by show("(let "++wd++" "++(i9 ts).x).length+(" ":Str).length<=sizeLine;rw[Str.length_append,Str.length_append,Str.length_append];lia,_,ec,gO (gN (j:=0) rfl) ⟨by show("(let "++wd++" "++(i9 ts).x++" ").length+(i9 (aH m (⟨wd,1+(i9 ts).w,1,1⟩:Itm))).x.length<=sizeLine;rw[Str.length_append,Str.length_append,Str.length_append,Str.length_append];lia,by show("(let "++wd++" "++(i9 ts).x++" "++(i9 (aH m (⟨wd,1+(i9 ts).w,1,1⟩:Itm))).x).length+(")":Str).length<=sizeLine;rw[Str.length_append,Str.length_append,Str.length_append,Str.length_append,Str.length_append];lia,?_⟩⟩⟩
 dsimp only[iW]
 refine⟨_,eb4,gO (gN (j:=1) rfl) ⟨_,ec,gO (gN (j:=1) rfl) ⟨_,eb4,gO (gN (j:=2) rfl) ⟨_,ec,gO (gN (j:=2) rfl) ⟨_,eb4,gO (gN (j:=3) rfl) ⟨_,ec,gO (gN (j:=3) rfl) ⟨_,_,rfl,(by show 4<=sizeLine;decide),fun r hr'=>?_⟩⟩⟩⟩⟩⟩⟩
 have ev:([V.str ("(let "++wd++" "++(i9 ts).x++" "++(i9 (aH m ⟨wd,1+(i9 ts).w,1,1⟩)).x++")"),V.int (1+(i9 ts).w+(i9 (aH m ⟨wd,1+(i9 ts).w,1,1⟩)).w),V.int (1+((i9 ts).s:Int)+((i9 (aH m ⟨wd,1+(i9 ts).w,1,1⟩)).s:Int)),V.int (1+(if((i9 (aH m ⟨wd,1+(i9 ts).w,1,1⟩)).n:Int)>((i9 ts).n:Int)then((i9 (aH m ⟨wd,1+(i9 ts).w,1,1⟩)).n:Int)else((i9 ts).n:Int)))]:List V)=(C3 wd ts m).v:=by
  generalize hc:i9 (aH m ⟨wd,1+(i9 ts).w,1,1⟩)=c0
  have h1:1+((i9 ts).s:Int)+(c0.s:Int)=((1+(i9 ts).s+c0.s:Nat):Int):=by lia
  have h2:1+(if(c0.n:Int)>((i9 ts).n:Int)then(c0.n:Int)else((i9 ts).n:Int))=((1+max (i9 ts).n c0.n:Nat):Int):=by split<;>lia
  rw[h1,h2,<-hc]
  rfl
 exact q r _ (S4.trans (gJ hr' _)) (S4.free hr') (by rw[<-ev];exact gE)
def i7:Itm:=⟨"7",1,1,1⟩
theorem oE (ws:List Str) (W:List Int):(Qt.num 7).itm ws W=i7/\(Qt.num 0).itm ws W=⟨"0",1,1,1⟩:=by
 rw[Qt.itm,Qt.itm]
 have h:TM.Internal.numS 7="7"/\TM.Internal.numS 0="0":=by decide+kernel
 rw[h.1,h.2]
 exact⟨rfl,rfl⟩
theorem zg (k:Nat) (z:Int):(aH k z).sum=k*z:=by
 induction k with
 |zero=>simp
 |succ k ih=>rw[a6,cE,ih];rw[Int.natCast_succ,Int.add_mul];lia
theorem Fl.wt {q:Qt} {w n:Nat} (h:Fl q w n) (ws:List Str) (W:List Int):(q.itm ws W).w=(w:Int):=by
 induction h with
 |zero=>rw[(oE ws W).2];rfl
 |@row q w n k h hk ih=>
  rw[Qt.itm,jK,iT,cK,(oE ws W).1]
  show 1+((q.itm ws W).w::(aH k i7).map (·.w)).sum=_
  rw[cE,ih,cK,zg]
  show 1+((w:Int)+(k:Int)*1)=_
  lia
theorem Fl.len {q:Qt} {w n:Nat} (h:Fl q w n) (ws:List Str) (W:List Int):(q.itm ws W).x.length<=30*w:=by
 induction h with
 |zero=>rw[(oE ws W).2];show("0":Str).length<=30;decide+kernel
 |@row q w n k h hk ih=>
  obtain⟨l1,l2,l3,l4⟩:=xq
  have l7:("7":Str).length=1:=by decide+kernel
  rw[Qt.itm,jK,iT,cK,(oE ws W).1]
  show(jn (rwx (q.itm ws W::aH k i7))++")").length<=_
  have h1:=AJ (rwx (q.itm ws W::aH k i7))
  have h2:((rwx (q.itm ws W::aH k i7)).map (·.length)).sum=4+((q.itm ws W).x.length+k):=by
   rw[rwx,aC,aC,aC,cE,cE,l4,cK,cK,cO]
   show 4+((q.itm ws W).x.length+k*("7":Str).length)=_
   rw[l7,Nat.mul_one]
  have h3:(rwx (q.itm ws W::aH k i7)).length=k+ 2:=by rw[rwx,aA,aD,aA,aP]
  rw[Str.length_append,l3]
  lia
def qi:Sp:=fun vs H Q _=>∃(z:Nat),vs=[.int (z:Int)]/\1<=z/\z<=100/\
 ∀r (q:Qt) (n:Nat) H',Fl q z n->8*n<=z+ 14->gT H H'->H r=none->H' r=some (.lst (q.itm [] []).v)->Q (.ref r) H'
theorem qj (T:Txt K mg):iK P w K mg base CX0 2 T.a_filler T.fd_filler ["_law_weight"] qi:=by
 have G_row:=ny (P:=P) (w:=w) (base:=base) T
 refine T.F_filler.ok kF (fun vs H Q E h=>?_) (fun cdv A outer s H vs Q E hr h=>?_)
 ·obtain⟨z,rfl,_⟩:=h
  rfl
 obtain⟨z,rfl,z1,z2,q⟩:=h
 refine⟨_,(gC (gR (i:=1) kF.nd rfl (.inl rfl) (iL (gB gP (gB gH (gB gH (gB gH gG))))))
  (gC (mK PassesOwn.never (ie uB (hU gX (cv 1) gH (fun _ _=>rfl)) (cv 0) (ic _))
   (gC (gR (i:=2) kF.nd rfl (.inl rfl) (gS (xJ rfl) rfl T.z_min D7 (gB gH (gB (gY qC (gY qC (cv 0) (hU gX (cv 1) gH (fun _ _=>rfl))) gH) gG))))
   (gK (gR (i:=1) kF.nd rfl (.inl rfl) (ia G_row (hr.mono (by decide)) rfl T.m_row T.k_row T.b_row .nil iX (gB (gY sO (iL (gB (cv 1) gG)) (oa rfl (ym (x:="_law_k") rfl (by decide+kernel) (by decide+kernel) rfl rfl) (nE rfl T.z_range (gB (cv 2) gG)) (fun _ _ _ _ _=>kM) (fun _ _ _ _ _=>(iL (gB gP (gB gH (gB gH (gB gH gG)))))))) gG))))))
  (gK (hV (cv 1))))),?_⟩
 have sl:sizeLine=16777216:=sizeLine_eq
 refine⟨(by show 4<=sizeLine;decide),fun t0 ht0=>?_⟩
 have s1:=gJ ht0 (.lst [.str "0",.int 1,.int 1,.int 1])
 have e1:(upd H t0 (.lst [.str "0",.int 1,.int 1,.int 1])) t0=some (.lst ((Qt.num 0).itm [] []).v):=by rw[(oE [] []).2];exact gE
 dsimp only[iW]
 generalize upd H t0 (.lst [.str "0",.int 1,.int 1,.int 1])=H1 at s1 e1⊢
 refine tS (fun σ H3=>∃(t:Addr) (o2:Option V) (q:Qt) (n:Nat),σ=[some (.int (z:Int)),some (.ref t),o2]/\Fl q z n/\8*n<=z+ 14/\gT H H3/\H t=none/\H3 t=some (.lst (q.itm [] []).v)) ?_ ?_
 ·rintro σ H3 ⟨t,o2,k,n,rfl,fl,hn,S,ht,et⟩
  exact q t k n H3 fl hn S ht et
 ·intro Nx hNx
  refine⟨fun m σ H3=>∃(t:Addr) (o2:Option V) (q:Qt) (u n:Nat),σ=[some (.int (z:Int)),some (.ref t),o2]/\Fl q u n/\u<=z/\(8*n=u+ 7\/(u=z/\8*n<=u+ 14))/\gT H H3/\H t=none/\H3 t=some (.lst (q.itm [] []).v)/\m=z-u,
   ⟨z-1,t0,none,.num 0,1,1,rfl,.zero,z1,.inl rfl,s1,ht0,e1,rfl⟩,?_⟩
  rintro m σ H3 ⟨t,o2,k,u,n,rfl,fl,uz,hn,S,ht,et,rfl⟩
  have hw:=fl.wt [] []
  refine⟨_,et,gO (gN (j:=1) rfl) ?_⟩
  show if decide ((k.itm [] []).w<(z:Int))=true then _ else _
  rw[hw]
  by_cases hlt:u<z
  ·rw[decide_eq_true (by lia)]
   have hn:8*n=u+ 7:=by lia
   have hlen:=fl.len [] []
   refine kE ⟨fun σ H4=>∃(t:Addr) (o2:Option V) (q:Qt) (u' n:Nat),σ=[some (.int (z:Int)),some (.ref t),o2]/\Fl q u' n/\u'<=z/\(8*n=u'+ 7\/(u'=z/\8*n<=u'+ 14))/\gT H H4/\H t=none/\H4 t=some (.lst (q.itm [] []).v)/\u<u',?_,?_⟩
   ·rintro σ H4 ⟨t,o2,q,u',n,rfl,a,b,c,d,e,f,g⟩
    exact⟨z-u',by lia,t,o2,q,u',n,rfl,a,b,c,d,e,f,rfl⟩
   refine⟨_,et,gO (gN (j:=1) rfl) ⟨_,_,rfl,?_⟩⟩
   dsimp only[iW]
   rw[hw]
   obtain⟨kk,hk,k7,kz,kd⟩:∃kk:Nat,(if(z:Int)-(u:Int)-1<7 then(z:Int)-(u:Int)-1 else 7)=(kk:Int)/\kk<=7/\u+ 1+kk<=z/\(kk=7\/u+ 1+kk=z):=by
    by_cases h7:(z:Int)-(u:Int)-1<7
    ·exact⟨z-u-1,by rw[if_pos h7];lia,by lia,by lia,.inr (by lia)⟩
    ·exact⟨7,by rw[if_neg h7];rfl,c7 _,by lia,.inl rfl⟩
   rw[hk]
   refine⟨(by show 1<=sizeLine;decide),fun p hp=>?_⟩
   have s4:=gJ hp (.lst [.ref t])
   have e4:(upd H3 p (.lst [.ref t])) p=some (.lst [.ref t]):=gE
   have S4:=S.trans s4
   generalize upd H3 p (.lst [.ref t])=H4 at s4 e4 S4⊢
   refine⟨(kk:Int),rfl,by lia,by lia,fun D hD=>C2 (n:=kk) (t:=i7) (by lia) hD rfl (fun y H Z hZ=>⟨(by show 4<=sizeLine;decide),fun r hr=>hZ r hr⟩) fun H5 ys s5 eD dys=>?_⟩
   have ly:=dys.length
   rw[aD,aP]at ly
   refine⟨p,D,_,_,rfl,rfl,s5 _ _ e4,eD,by show 1+ys.length<=sizeLine;lia,fun a ha=>?_⟩
   have s6:=gJ ha (.lst ([.ref t]++ys))
   have e6:(upd H5 a (.lst ([.ref t]++ys))) a=some (.lst (.ref t::ys)):=gE
   have S6:=(S4.trans s5).trans s6
   generalize upd H5 a (.lst ([.ref t]++ys))=H6 at s6 e6 S6⊢
   refine⟨a,.ref t::ys,k.itm [] []::aH kk i7,rfl,e6,.cons (qM (s6 _ _ (s5 _ _ (s4 _ _ et)))) (dys.same s6),by rw[aA,aP];lia,fun x hx=>?_,fun r H7 s7 hr7 er=>?_⟩
   ·rcases aj.mp hx with rfl|hx
    ·lia
    ·rw[cN hx];show("7":Str).length<=30000;decide+kernel
   ·refine⟨r,_,.row (k::aH kk (.num 7)),u+ 1+kk,n+ 1,rfl,.row fl k7,kz,by lia,S6.trans s7,S6.free hr7,?_,by lia⟩
    rw[er,Qt.itm,jK,iT,cK,(oE [] []).1]
  ·rw[decide_eq_false (by lia)]
   have e:u=z:=by lia
   subst e
   exact jO (hNx _ _ ⟨t,o2,k,n,rfl,fl,by lia,S,ht,et⟩)
theorem E1 {t1 t2:TT} {σ:St} {H:Hp} {R:Bool->Hp->Prop} (b1 b2:Bool) (h1:∀R:Bool->Hp->Prop,R b1 H->t1 σ H R) (h2:∀R:Bool->Hp->Prop,R b2 H->t2 σ H R) (k:R (b1&&b2) H):GO t1 t2 σ H R:=by
 refine h1 _ ?_
 cases b1 with
 |true=>exact kE (h2 _ k)
 |false=>exact jO k
theorem ifc {A B u:TS} {D:nY} {σ:St} {H:Hp} {t:TT} (b:Bool) (ht:∀R:Bool->Hp->Prop,R b H->t σ H R) (k:if b=true then A {D with nx:=u D} σ H else B {D with nx:=u D} σ H):xk (we t A B) u D σ H:=ht _ k
theorem E2 {n:Int} (h0:0<=n) (h1:n<10^60):n.natAbs.log2<1920:=by
 by_cases hz:n.natAbs=0
 ·rw[hz];decide+kernel
 ·rw[Nat.log2_lt hz]
  have h2:n.natAbs<10^60:=by lia
  have h3:(10:Nat)^60<=2^200:=by decide+kernel
  have h4:(2:Nat)^200<=2^1920:=Nat.pow_le_pow_right (by decide) (by decide)
  lia
theorem wat {ws:List Str} {z:Int} {n:Nat} (hl:ws.length=n) (h0:0<=z) (h1:z<(n:Int)):atI (ws.map V.str) z=some (.str (ws.getD z.toNat "")):=by
 obtain⟨k,rfl⟩:=gh h0
 have hk:k<ws.length:=by lia
 refine gN ?_
 rw[aM,bx hk]
 show some (V.str ws[k])=some (.str (ws.getD k ""))
 rw[bo,bx hk]
 rfl
def mdv (ws:List Str) (W:List Int) (i:Nat):List V:=[.str (ws.getD (3+i) ""),.int (W.getD i 0)]
def mdD (ws:List Str) (W:List Int):List Dt:=(aa W.length).map fun i=> .lst [sD (ws.getD (3+i) ""),kD (W.getD i 0)]
theorem AK {H:Hp} {mv:List V} {ws:List Str} {W:List Int} {i:Nat} (h:mh H mv (mdD ws W)) (hi:i<W.length):∃e,mv[i]?=some (.ref e)/\H e=some (.lst (mdv ws W i)):=by
 have hl:=h.length
 unfold mdD at hl
 rw[aD,cb]at hl
 have hv:mv[i]?=some (mv[i]'(by lia)):=bx _
 obtain⟨d,hd,dv⟩:=h.get hv
 unfold mdD at hd
 rw[aM,cH hi]at hd
 cases hd
 unfold sD kD at dv
 generalize mv[i]'(by lia)=v at hv dv
 cases dv with
 |lst he hs=>
  cases hs with
  |cons h1 hs=>cases hs with
   |cons h2 hs=>
    cases hs
    cases h1;cases h2
    exact⟨_,hv,he⟩
def Lf (W:List Int) (q:Qt):Prop:=(∃n,q= .num n/\0<=n/\n<10^60)\/∃d,q= .dn d/\d<W.length
def Gro (W:List Int) (room:Int) (qs qs':List Qt):Prop:=qs'=qs\/(∃q,qs'=qs++[q]/\qs.length<7/\1<room/\Lf W q)\/∃j m,j<3/\m<=3/\qs'=[.lt j qs m]/\12<room
theorem Bq {H:Hp} {M:List Addr} (hM:∀a∈M,∃o,H a=some o) {r:Addr} (h:H r=none):r∉M:=fun z=>by
 obtain⟨o,ho⟩:=hM r z
 rw[h]at ho
 cases ho
def rY:Sp:=fun vs H Q _=>∃(M:List Addr) (wl ml l:Addr) (cell room:Int) (ws:List Str) (W:List Int) (mv ps:List V) (qs:List Qt),vs=[.ref wl,.ref ml,.ref l,.int cell,.int room]/\(∀a∈M,∃o,H a=some o)/\Wd H wl ws/\H ml=some (.lst mv)/\mh (oz H M) mv (mdD ws W)/\W.length<=12/\
 (oz H M) l=some (.lst ps)/\mh (oz H M) ps ((qs.map (Qt.itm ws W)).map Itm.d)/\qs.length<=8/\(∀q∈qs,(q.itm ws W).x.length<=30000)/\0<=cell/\
 ∀r ps' qs' H',gT H H'->Gro W room qs qs'->(oz H' M) r=some (.lst ps')->mh (oz H' M) ps' ((qs'.map (Qt.itm ws W)).map Itm.d)->Q (.ref r) H'
theorem rZ (T:Txt K mg):iK P w K mg base CX0 3 T.a_grown T.fd_grown ["_law_words_here","_law_made","_law_things","_law_cell","_law_room"] rY:=by
 have G_let:=uZ (P:=P) (w:=w) (base:=base) T
 refine T.F_grown.ok jE (fun vs H Q E h=>?_) (fun cdv A outer s H vs Q E hr h=>?_)
 ·obtain⟨M,wl,ml,l,cell,room,ws,W,mv,ps,qs,rfl,_⟩:=h
  rfl
 obtain⟨M,wl,ml,l,cell,room,ws,W,mv,ps,qs,rfl,hM,wd,em,dm,hW,el,dt,hl,hx,c0,q⟩:=h
 refine⟨_,(gC (gR (i:=5) jE.nd rfl (.inl rfl) (gY j4 (cv 3) gH))
  (gC (gR (i:=6) jE.nd rfl (.inl rfl) (gY l6 (cv 3) gH))
  (gC (iU (PW.pt (ql (ie ph (cv 5) gH (ic _)) (oT (ie ph (cv 4) gH (ic _)))))
   (gK (hV (iL (gB (ia G_let (hr.mono (by decide)) rfl T.m_let T.k_let T.b_let .nil iX (gB (hU gX (cv 0) (gY j4 (cv 6) gH) (fun _ _=>rfl)) (gB (cv 2) (gB (gY j4 (gY l6 (cv 6) gH) gH) gG)))) gG))))
   ib)
  (gC (iU (PW.pt (ql (ie ph (cv 5) gH (ic _)) (oT (ie ph (gS hJ rfl T.z_len jG (gB (cv 1) gG)) gH (ic _)))))
   (gC (gR (i:=7) jE.nd rfl (.inl rfl) (hU gX (cv 1) (gY j4 (cv 6) (gS hJ rfl T.z_len jG (gB (cv 1) gG))) (fun _ _=>rfl)))
   (gK (gR (i:=8) jE.nd rfl (.inl rfl) (iL (gB (hU gX (cv 7) gH (fun _ _=>rfl)) (gB (gY jf gH (hU gX (cv 7) gH (fun _ _=>rfl))) (gB gH (gB gH gG))))))))
   (gK (gR (i:=8) jE.nd rfl (.inl rfl) (iL (gB (kG su rfl T.z_str A2 (gB (gY j4 (cv 6) (gY sX gH gH)) gG)) (gB gH (gB gH (gB gH gG))))))))
  (gC (iU (PW.pt (ql (ie uB (gS hJ rfl T.z_len jG (gB (cv 2) gG)) gH (ic _)) (oT (ie ph (cv 4) gH (ic _)))))
   (gK (hV (gY sO (cv 2) (iL (gB (cv 8) gG)))))
   ib)
  (gK (hV (cv 2)))))))),?_⟩
 have sl:sizeLine=16777216:=sizeLine_eq
 refine⟨(by show(0:Int)<8;decide),⟨by decide,by decide⟩,?_⟩
 dsimp only[iW]
 have o0:0<=cell%8:=gj _ (by decide)
 have a0:0<=cell/8:=Int.ediv_nonneg c0 (by decide)
 generalize cell%8=op at o0⊢
 generalize cell/8=arg at a0⊢
 have el':=kh _ _ el
 have dt':=dt.same kh
 have lps:=dt.length
 rw[aD,aD]at lps
 refine ifc (decide (4<op)&&decide (12<room)) (fun R h=>E1 _ _ (fun R h=>h) (fun R h=>h) h) ?_
 by_cases hb:(decide (4<op)&&decide (12<room))=true
 ·rw[if_pos hb]
  rw[fV,decide_eq_true_eq,decide_eq_true_eq]at hb
  have j0:0<=arg%3:=gj _ (by decide)
  have j1:arg%3<3:=gm _ (by decide)
  have m0:0<=arg/3%4:=gj _ (by decide)
  have m1:arg/3%4<4:=gm _ (by decide)
  have hm:arg/3%4=(((arg/3%4).toNat:Nat):Int):=by lia
  have wn:=wd.2.2.2 (ws.getD (arg%3).toNat "") (by
   have:(arg%3).toNat<ws.length:=by rw[wd.2.1];lia
   rw[bo,bx this]
   exact bD _)
  have wl12:(ws.getD (arg%3).toNat "").length<=12:=by
   unfold GR.Internal.isName at wn
   simp only[fV,decide_eq_true_eq]at wn
   exact wn.1.1.1.2
  refine⟨(by show(0:Int)<3;decide),_,wd.1,gO (wat wd.2.1 j0 (by lia)) ⟨⟨by decide,by decide⟩,(by show(0:Int)<4;decide),?_⟩⟩
  refine⟨ws.getD (arg%3).toNat "",l,(arg/3%4).toNat,ps,qs.map (Qt.itm ws W),(by show[V.str _,V.ref l,V.int (arg/3%4)]=[_,_,V.int ((arg/3%4).toNat:Int)];rw[Int.toNat_of_nonneg m0]),el',dt',by rw[aD];lia,fun t ht=>by obtain⟨k,hk,rfl⟩:=bb.mp ht;exact hx k hk,by lia,by lia,fun r H1 s1 hr1 er=>?_⟩
  refine⟨(by show 1<=sizeLine;decide),fun p hp=>?_⟩
  have s2:=gJ hp (.lst [.ref r])
  have S2:=s1.trans s2
  refine q p [.ref r] [.lt (arg%3).toNat qs (arg/3%4).toNat] _ S2 (.inr (.inr ⟨_,_,by lia,by lia,rfl,hb.2⟩)) (kN (Bq hM (s1.free hp)) gE) (.cons (qM (kN (Bq hM hr1) ?_)) .nil)
  rw[Qt.itm,iT]
  exact s2 _ _ er
 rw[if_neg hb]
 dsimp only[si]
 refine y9 (fun σ' H'=>∃(o7:Option V) (nw:Addr) (k:Qt),σ'=[some (.ref wl),some (.ref ml),some (.ref l),some (.int cell),some (.int room),some (.int op),some (.int arg),o7,some (.ref nw)]/\gT H H'/\H nw=none/\H' nw=some (.lst (k.itm ws W).v)/\Lf W k) (decide (1<op)&&decide (0<(mv.length:Int))) ?_ ?_ ?_ ?_
 ·intro R h
  refine E1 (decide (1<op)) (decide (0<(mv.length:Int))) ?_ ?_ h
  ·exact fun R h=>h
  ·exact fun R h=>⟨ml,_,rfl,.inl (SqL.of em),h⟩
 ·intro hb2 N hN
  rw[fV,decide_eq_true_eq,decide_eq_true_eq]at hb2
  have lm:=dm.length
  unfold mdD at lm
  rw[aD,cb]at lm
  have d0:0<=arg%(mv.length:Int):=gj _ (by lia)
  have d1:arg%(mv.length:Int)<(mv.length:Int):=gm _ hb2.2
  obtain⟨e,he,ee⟩:=AK dm (i:=(arg%(mv.length:Int)).toNat) (by lia)
  have ee:=kh _ _ ee
  have hat:atI mv (arg%(mv.length:Int))=some (.ref e):=by
   have:=gN he
   rwa[Int.toNat_of_nonneg d0]at this
  refine⟨ml,_,rfl,.inl (SqL.of em),hb2.2,_,em,gO hat ?_⟩
  dsimp only[iW]
  refine⟨_,ee,gO (gN (j:=0) rfl) ⟨_,ee,gO (gN (j:=1) rfl) ⟨(by show 4<=sizeLine;decide),fun nw hnw=>hN _ _ ⟨_,nw,.dn (arg%(mv.length:Int)).toNat,rfl,gJ hnw _,hnw,by rw[Qt.itm];exact gE,.inr ⟨_,rfl,by lia⟩⟩⟩⟩⟩
 ·intro hb2 N hN
  have n0:0<=arg%10^(60:Int).toNat:=gj _ (by decide+kernel)
  have n1:arg%10^(60:Int).toNat<10^60:=gm _ (by decide+kernel)
  refine⟨⟨by decide,by decide,by decide⟩,(by show(0:Int)<10^(60:Int).toNat;decide+kernel),_,rfl,E2 n0 n1,(by show 4<=sizeLine;decide),fun nw hnw=>hN _ _ ⟨none,nw,.num (arg%10^(60:Int).toNat),rfl,gJ hnw _,hnw,by rw[Qt.itm];exact gE,.inl ⟨_,rfl,n0,n1⟩⟩⟩
 ·rintro σ' H1 ⟨o7,nw,k,rfl,S1,hnw,enw,lf⟩
  refine ifc (decide ((ps.length:Int)<7)&&decide (1<room)) ?_ ?_
  ·intro R h
   refine E1 (decide ((ps.length:Int)<7)) (decide (1<room)) ?_ ?_ h
   ·exact fun R h=>⟨l,_,rfl,.inl (SqL.of (S1 _ _ el')),h⟩
   ·exact fun R h=>h
  by_cases hb:(decide ((ps.length:Int)<7)&&decide (1<room))=true
  ·rw[if_pos hb]
   rw[fV,decide_eq_true_eq,decide_eq_true_eq]at hb
   refine⟨(by show 1<=sizeLine;decide),fun p hp=>?_⟩
   have s2:=gJ hp (.lst [.ref nw])
   have S2:=S1.trans s2
   refine⟨l,p,_,_,rfl,rfl,S2 _ _ el',gE,by show ps.length+ 1<=sizeLine;lia,fun a ha=>?_⟩
   have s3:=gJ ha (.lst (ps++[.ref nw]))
   have S3:=S2.trans s3
   refine q a (ps++[.ref nw]) (qs++[k]) _ S3 (.inr (.inl ⟨k,rfl,by lia,hb.2,lf⟩)) (kN (Bq hM (S2.free ha)) gE) ?_
   rw[bh,bh]
   exact mH (dt.same (kK S3)) (qM (kN (Bq hM hnw) (s3 _ _ (s2 _ _ enw))))
  ·rw[if_neg hb]
   dsimp only[si]
   exact q l ps qs H1 S1 (.inl rfl) (kK S1 _ _ el) (dt.same (kK S1))
open GR.Internal (Op Gp isName)
theorem C4 (x:Str):x.cps.toList.length=x.length:=by rw[fY];rfl
def zh (w:Str):Prop:=w.cps.toList≠[]/\∀k∈w.cps.toList,k≠32/\k≠10/\k≠40/\k≠41
theorem smfg:∀c∈(GR.Internal.SM++GR.Internal.FG).cps.toList,c≠32/\c≠10/\c≠40/\c≠41:=by decide+kernel
theorem AL {w:Str} (h:GR.Internal.isName w=true):zh w/\w.length<=12:=by
 unfold GR.Internal.isName at h
 simp only[fV,decide_eq_true_eq]at h
 refine⟨⟨fun z=>?_,fun k hk=>smfg k (GR.Internal.allIn_mem h.2 k hk)⟩,h.1.1.1.2⟩
 have:=C4 w
 rw[z]at this
 have:=h.1.1.1.1
 simp at*
 lia
theorem fgp:∀c∈GR.Internal.FG.cps.toList,c≠32/\c≠10/\c≠40/\c≠41:=by decide+kernel
theorem AM {n:Int} (h0:0<=n) (h1:n<10^60):zh (TM.Internal.numS n)/\(TM.Internal.numS n).length<=60:=by
 obtain⟨f1,f2,f3⟩:=GR.Internal.str_fig (k:=59) h0 h1
 refine⟨⟨fun z=>?_,fun k hk=>fgp k (f1 k hk)⟩,f3⟩
 obtain⟨c,r,e⟩:=GR.Internal.first_of (x:=TM.Internal.numS n) f2
 rw[z]at e
 cases e
def okW (w:Str):Prop:=w≠""/\w.length<=60/\∀c∈w.cps.toList,c<128
structure Gi (x:Str) (ts:List Str) (a b:Nat):Prop where
 op:Op x ts
 ln:x.length+ 1<=a
 wl:ts.length<=b
 ok:∀w∈ts,okW w
inductive Gl:List Str->List Str->Nat->Nat->Prop
 |nil:Gl [] [] 0 0
 |cons {x:Str} {ts xs us:List Str} {a b c d:Nat} (h:Gi x ts a b) (t:Gl xs us c d):Gl (x::xs) (ts++us) (a+c) (b+d)
theorem Gl.jn {xs ts:List Str} {a b:Nat} (h:Gl xs ts a b) (hn:xs≠[]):Gi (jn xs) ts a b:=by
 induction h with
 |nil=>exact absurd rfl hn
 |@cons x ts xs us a b c d h t ih=>
  cases xs with
  |nil=>
   cases t
   rw[aE,Bo]
   exact h
  |cons y ys=>
   have k:=ih (by simp)
   refine⟨?_,?_,?_,fun w hw=>?_⟩
   ·rw[uW (by simp)]
    exact h.op.gap.app_op k.op
   ·rw[uW (by simp),Str.length_append,Str.length_append,xq.2.1]
    have:=h.ln
    have:=k.ln
    lia
   ·rw[aO]
    have:=h.wl
    have:=k.wl
    lia
   ·rcases ao.mp hw with hw|hw
    ·exact h.ok w hw
    ·exact k.ok w hw
theorem zi {x:Str} {n:Nat} (hp:zh x) (hl:x.length<=n) (hn:n<=60) (ha:∀c∈x.cps.toList,c<128):Gi x [x] (n+ 1) 1:=by
 refine⟨Op.word hp.1 hp.2,by lia,c7 _,fun w hw=>?_⟩
 rw[bg.mp hw]
 refine⟨fun z=>hp.1 (by rw[z];rfl),by lia,ha⟩
theorem GF:∀c∈(GR.Internal.SM++GR.Internal.FG).cps.toList,c<128:=by decide+kernel
theorem GG:∀c∈GR.Internal.FG.cps.toList,c<128:=by decide+kernel
theorem r6 {w:Str} (h:isName w=true):Gi w [w] 13 1:=by
 obtain⟨h1,h2⟩:=AL h
 refine zi h1 h2 (by decide) fun c hc=>GF c ?_
 unfold isName at h
 simp only[fV]at h
 exact GR.Internal.allIn_mem h.2 c hc
theorem E3 {n:Int} (h0:0<=n) (h1:n<10^60):Gi (TM.Internal.numS n) [TM.Internal.numS n] 61 1:=by
 obtain⟨a,b⟩:=AM h0 h1
 obtain⟨f1,_,_⟩:=GR.Internal.str_fig (k:=59) h0 h1
 exact zi a b (by decide) fun c hc=>GG c (f1 c hc)
theorem tX:okW "("/\okW ")"/\okW "row"/\okW "let"/\okW "def":=by unfold okW;decide+kernel
theorem E4:Gi "(row" ["(","row"] 5 2:=⟨by unfold Op GR.Internal.toks;decide+kernel,by rw[xq.2.2.2];decide,c7 _,fun w hw=>by
 rcases aj.mp hw with rfl|hw
 ·exact tX.1
 ·rw[bg.mp hw];exact tX.2.2.1⟩
theorem vY {x:Str} {ts:List Str} {a b:Nat} (h:Gi x ts a b):Gi (x++")") (ts++[(")":Str)]) (a+ 1) (b+ 1):=by
 refine⟨h.op.close.op,?_,?_,fun w hw=>?_⟩
 ·rw[Str.length_append,xq.2.2.1];have:=h.ln;lia
 ·rw[aO];have:=h.wl;show _+ 1<=_;lia
 ·rcases ao.mp hw with hw|hw
  ·exact h.ok w hw
  ·rw[bg.mp hw];exact tX.2.1
theorem zj {x y:Str} {ts us:List Str} {a b c d:Nat} (h:Gi x ts a b) (k:Gi y us c d):Gi (x++" "++y) (ts++us) (a+c) (b+d):=by
 refine⟨h.op.gap.app_op k.op,?_,?_,fun w hw=>?_⟩
 ·rw[Str.length_append,Str.length_append,xq.2.1];have:=h.ln;have:=k.ln;lia
 ·rw[aO];have:=h.wl;have:=k.wl;lia
 ·rcases ao.mp hw with hw|hw
  ·exact h.ok w hw
  ·exact k.ok w hw
theorem E5:Gp "(let " ["(","let"]:=by unfold Gp;decide+kernel
theorem E6 {w:Str} (h:isName w=true):Gi ("(let "++w) ["(","let",w] 18 3:=by
 have g:=r6 h
 refine⟨E5.app_op g.op,?_,c7 _,fun z hz=>?_⟩
 ·rw[Str.length_append,xq.1];have:=g.ln;lia
 ·rcases aj.mp hz with rfl|hz
  ·exact tX.1
  ·rcases aj.mp hz with rfl|hz
   ·exact tX.2.2.2.1
   ·exact g.ok z hz
mutual
def Qt.tr (ws:List Str):Qt->TM.Internal.Tr
 | .num n=> .mk (.num n) []
 | .dn d=> .mk (.name (ws.getD (3+d) "")) []
 | .row ks=> .mk (.row ks.length) (trs ws ks)
 | .lt j ks m=> .mk (.lt (ws.getD j "")) [.mk (.row ks.length) (trs ws ks),.mk (.row m) (aH m (.mk (.name (ws.getD j "")) []))]
def trs (ws:List Str):List Qt->List TM.Internal.Tr
 |[]=>[]
 |k::ks=>k.tr ws::trs ws ks
end
mutual
def Qt.gd (n:Nat):Qt->Prop
 | .num k=>0<=k/\k<10^60
 | .dn d=>d<n
 | .row ks=>ks.length<=8/\gds n ks
 | .lt j ks m=>j<3/\ks.length<=8/\m<=3/\gds n ks
def gds (n:Nat):List Qt->Prop
 |[]=>True
 |k::ks=>k.gd n/\gds n ks
end
theorem me (ws:List Str):∀ks,(trs ws ks).length=ks.length
 |[]=>by rw[trs];rfl
 |k::ks=>by rw[trs,aA,aA,me ws ks]
structure Ws (ws:List Str):Prop where
 l:ws.length=16
 nd:ws.Nodup
 nm:∀x∈ws,isName x=true
theorem Ws.at {ws:List Str} (h:Ws ws) {i:Nat} (hi:i<16):ws[i]?=some (ws.getD i "")/\isName (ws.getD i "")=true:=by
 have:i<ws.length:=by rw[h.l];exact hi
 have e:ws.getD i ""=ws[i]:=by rw[bo,bx this];rfl
 rw[e]
 exact⟨bx this,h.nm _ (bD _)⟩
structure Kq (ws:List Str) (W:List Int) (x:Itm) (t:TM.Internal.Tr):Prop where
 gi:Gi x.x t.tk (70*t.sz) (8*t.sz)
 s:x.s=t.sz
 n:x.n=t.nest
 ok:t.ok
structure Ks (ws:List Str) (W:List Int) (xs:List Itm) (ts:List TM.Internal.Tr):Prop where
 gl:∃a b,Gl (xs.map (·.x)) (TM.Internal.tks ts).flatten a b/\a<=70*TM.Internal.szs ts/\b<=8*TM.Internal.szs ts
 s:(xs.map (·.s)).sum=TM.Internal.szs ts
 n:mxs (xs.map (·.n))=TM.Internal.nests ts
 ok:TM.Internal.oks ts
 l:xs.length=ts.length
theorem Ks.nil {ws:List Str} {W:List Int}:Ks ws W [] []:=⟨⟨0,0,by rw[TM.Internal.tks];exact .nil,c8 _,c8 _⟩,by rw[TM.Internal.szs];rfl,by rw[TM.Internal.nests];rfl,by rw[TM.Internal.oks];trivial,rfl⟩
theorem Ks.cons {ws:List Str} {W:List Int} {x:Itm} {t:TM.Internal.Tr} {xs:List Itm} {ts:List TM.Internal.Tr} (h:Kq ws W x t) (k:Ks ws W xs ts):Ks ws W (x::xs) (t::ts):=by
 obtain⟨a,b,g,ha,hb⟩:=k.gl
 refine⟨⟨_,_,by rw[TM.Internal.tks];exact .cons h.gi g,by rw[TM.Internal.szs];lia,by rw[TM.Internal.szs];lia⟩,?_,?_,?_,?_⟩
 ·rw[aC,cE,k.s,h.s,TM.Internal.szs]
 ·rw[aC,mxs,k.n,h.n,TM.Internal.nests]
 ·rw[TM.Internal.oks];exact⟨h.ok,k.ok⟩
 ·rw[aA,aA,k.l]
theorem Ks.row {ws:List Str} {W:List Int} {xs:List Itm} {ts:List TM.Internal.Tr} (k:Ks ws W xs ts) (h8:ts.length<=8):Kq ws W (i9 xs) (.mk (.row ts.length) ts):=by
 obtain⟨a,b,g,ha,hb⟩:=k.gl
 have g2:=vY ((Gl.cons E4 g).jn (by simp))
 refine⟨⟨?_,?_,?_,?_⟩,?_,?_,?_⟩
 ·have:=g2.op
  rw[TM.Internal.Tr.tk]
  exact this
 ·have:=g2.ln;rw[TM.Internal.Tr.sz];show(jn (rwx xs)++")").length+ 1<=_;unfold rwx;lia
 ·have:=g2.wl;rw[TM.Internal.Tr.tk,TM.Internal.Tr.sz];show([("(":Str),"row"]++(TM.Internal.tks ts).flatten++[(")":Str)]).length<=_;lia
 ·have:=g2.ok;rw[TM.Internal.Tr.tk];exact this
 ·rw[TM.Internal.Tr.sz,<-k.s];rfl
 ·rw[TM.Internal.Tr.nest,<-k.n];rfl
 ·rw[TM.Internal.Tr.ok];exact⟨h8,rfl,k.ok⟩
theorem zk {ws:List Str} {W:List Int} {w:Str} {z:Int} (h:isName w=true):Kq ws W ⟨w,z,1,1⟩ (.mk (.name w) []):=by
 have g:=r6 h
 have e:(TM.Internal.Tr.mk (.name w) []).sz=1/\(TM.Internal.Tr.mk (.name w) []).nest=1:=by rw[TM.Internal.Tr.sz,TM.Internal.Tr.nest,TM.Internal.szs,TM.Internal.nests];exact⟨rfl,rfl⟩
 refine⟨⟨by rw[TM.Internal.Tr.tk];exact g.op,by rw[e.1];have:=g.ln;show w.length+ 1<=_;lia,by rw[e.1,TM.Internal.Tr.tk];show 1<=8;decide,by rw[TM.Internal.Tr.tk];exact g.ok⟩,e.1.symm,e.2.symm,by rw[TM.Internal.Tr.ok,TM.Internal.oks];exact⟨h,rfl,trivial⟩⟩
theorem Br {ws:List Str} {W:List Int} {x:Itm} {t:TM.Internal.Tr} (h:Kq ws W x t):∀m,Ks ws W (aH m x) (aH m t)
 |0=> .nil
 |m+ 1=> .cons h (Br h m)
mutual
theorem kq {ws:List Str} (hw:Ws ws) {W:List Int} {n:Nat} (hn:n<=12):∀q:Qt,q.gd n->Kq ws W (q.itm ws W) (q.tr ws)
 | .num k,h=>by
  rw[Qt.gd]at h
  rw[Qt.itm,Qt.tr]
  have g:=E3 h.1 h.2
  have e:(TM.Internal.Tr.mk (.num k) []).sz=1/\(TM.Internal.Tr.mk (.num k) []).nest=1:=by rw[TM.Internal.Tr.sz,TM.Internal.Tr.nest,TM.Internal.szs,TM.Internal.nests];exact⟨rfl,rfl⟩
  exact⟨⟨by rw[TM.Internal.Tr.tk];exact g.op,by rw[e.1];have:=g.ln;show(TM.Internal.numS k).length+ 1<=_;lia,by rw[e.1,TM.Internal.Tr.tk];show 1<=8;decide,by rw[TM.Internal.Tr.tk];exact g.ok⟩,e.1.symm,e.2.symm,by rw[TM.Internal.Tr.ok,TM.Internal.oks];exact⟨h,rfl,trivial⟩⟩
 | .dn d,h=>by
  rw[Qt.gd]at h
  rw[Qt.itm,Qt.tr]
  exact zk (hw.at (by lia)).2
 | .row ks,h=>by
  rw[Qt.gd]at h
  rw[Qt.itm,Qt.tr,<-me ws ks]
  exact(kqs hw hn ks h.2).row (by rw[me];exact h.1)
 | .lt j ks m,h=>by
  rw[Qt.gd]at h
  rw[Qt.itm,Qt.tr,<-me ws ks]
  have hj:=(hw.at (i:=j) (by lia)).2
  have hE:=(kqs hw hn (W:=W) ks h.2.2.2).row (by rw[me];exact h.2.1)
  have hB:=(Br (ws:=ws) (W:=W) (zk (z:=1+(i9 (jK ws W ks)).w) hj) m).row (by rw[aP];lia)
  rw[aP]at hB
  have g:=vY (zj (zj (E6 hj) hE.gi) hB.gi)
  have z:∀a b:TM.Internal.Tr,(TM.Internal.Tr.mk (.lt (ws.getD j "")) [a,b]).sz=1+(a.sz+b.sz)/\(TM.Internal.Tr.mk (.lt (ws.getD j "")) [a,b]).nest=1+max a.nest b.nest/\(TM.Internal.Tr.mk (.lt (ws.getD j "")) [a,b]).tk=[("(":Str),"let",ws.getD j ""]++a.tk++b.tk++[(")":Str)]:=fun a b=>by
   rw[TM.Internal.Tr.sz,TM.Internal.szs,TM.Internal.szs,TM.Internal.szs,TM.Internal.Tr.nest,TM.Internal.nests,TM.Internal.nests,TM.Internal.nests,TM.Internal.Tr.tk,TM.Internal.tks,TM.Internal.tks,TM.Internal.tks]
   refine⟨rfl,by lia,?_⟩
   show("(":Str)::"let"::(ws.getD j ""::[a.tk,b.tk].flatten++[(")":Str)])=_
   simp
  obtain⟨z1,z2,z3⟩:=z (.mk (.row (trs ws ks).length) (trs ws ks)) (.mk (.row m) (aH m (.mk (.name (ws.getD j "")) [])))
  refine⟨⟨?_,?_,?_,?_⟩,?_,?_,?_⟩
  ·rw[z3];exact g.op
  ·rw[z1];exact cX g.ln (by lia)
  ·rw[z1,z3];have:=g.wl;lia
  ·rw[z3];exact g.ok
  ·rw[z1];show 1+(i9 _).s+(i9 _).s=_;rw[hE.s,hB.s,dA]
  ·rw[z2];show 1+max (i9 _).n (i9 _).n=_;rw[hE.n,hB.n]
  ·rw[TM.Internal.Tr.ok,TM.Internal.oks,TM.Internal.oks,TM.Internal.oks];exact⟨hj,rfl,hE.ok,hB.ok,trivial⟩
theorem kqs {ws:List Str} (hw:Ws ws) {W:List Int} {n:Nat} (hn:n<=12):∀qs:List Qt,gds n qs->Ks ws W (jK ws W qs) (trs ws qs)
 |[],_=>by rw[jK,trs];exact .nil
 |q::qs,h=>by
  rw[gds]at h
  rw[jK,trs]
  exact .cons (kq hw hn q h.1) (kqs hw hn qs h.2)
end
mutual
theorem C5 {ws:List Str} {W X:List Int}:∀q:Qt,q.gd W.length->q.itm ws (W++X)=q.itm ws W
 | .num k,h=>by rw[Qt.itm,Qt.itm]
 | .dn d,h=>by
  rw[Qt.gd]at h
  have e:(W++X).getD d 0=W.getD d 0:=by rw[bo,aK h,<-bo]
  rw[Qt.itm,Qt.itm,e]
 | .row ks,h=>by rw[Qt.gd]at h;rw[Qt.itm,Qt.itm,oO ks h.2]
 | .lt j ks m,h=>by rw[Qt.gd]at h;rw[Qt.itm,Qt.itm,oO ks h.2.2.2]
theorem oO {ws:List Str} {W X:List Int}:∀qs:List Qt,gds W.length qs->jK ws (W++X) qs=jK ws W qs
 |[],_=>by rw[jK,jK]
 |q::qs,h=>by rw[gds]at h;rw[jK,jK,C5 q h.1,oO qs h.2]
end
mutual
theorem C6 {n m:Nat} (h:n<=m):∀q:Qt,q.gd n->q.gd m
 | .num k,g=>by rw[Qt.gd]at g⊢;exact g
 | .dn d,g=>by rw[Qt.gd]at g⊢;lia
 | .row ks,g=>by rw[Qt.gd]at g⊢;exact⟨g.1,oP h ks g.2⟩
 | .lt j ks k,g=>by rw[Qt.gd]at g⊢;exact⟨g.1,g.2.1,g.2.2.1,oP h ks g.2.2.2⟩
theorem oP {n m:Nat} (h:n<=m):∀qs:List Qt,gds n qs->gds m qs
 |[],_=>by rw[gds];trivial
 |q::qs,g=>by rw[gds]at g⊢;exact⟨C6 h q g.1,oP h qs g.2⟩
end
theorem u0 {n:Nat}:∀{a b:List Qt},gds n a->gds n b->gds n (a++b)
 |[],b,_,h=>h
 |q::a,b,g,h=>by rw[gds]at g;rw[aS,gds];exact⟨g.1,u0 g.2 h⟩
theorem zm {n:Nat} {q:Qt} (h:q.gd n):∀k,gds n (aH k q)
 |0=>by rw[cP,gds];trivial
 |k+ 1=>by rw[a6,gds];exact⟨h,zm h k⟩
theorem u4 {n:Nat} {q:Qt} (h:q.gd n):gds n [q]:=by rw[gds,gds];exact⟨h,trivial⟩
theorem pY {xs:List Itm} (h:∀x∈xs,(x.s:Int)<=x.w):((i9 xs).s:Int)<=(i9 xs).w:=by
 show((1+(xs.map (·.s)).sum:Nat):Int)<=1+(xs.map (·.w)).sum
 have:(((xs.map (·.s)).sum:Nat):Int)<=(xs.map (·.w)).sum:=by
  induction xs with
  |nil=>exact gg _
  |cons x xs ih=>
   have h1:=h x ah
   have h2:=ih fun y hy=>h y (ai _ hy)
   rw[aC,cE,aC,cE]
   lia
 lia
mutual
theorem E7 {ws:List Str} {W:List Int} (hW:∀z∈W,0<=z):∀q:Qt,((q.itm ws W).s:Int)<=(q.itm ws W).w
 | .num k=>by rw[Qt.itm];exact gg _
 | .dn d=>by
  rw[Qt.itm]
  show(1:Int)<=1+W.getD d 0
  have:0<=W.getD d 0:=by
   rw[bo]
   cases h:W[d]? with
   |none=>exact gg _
   |some z=>exact hW z (aN h)
  lia
 | .row ks=>by rw[Qt.itm];exact pY (pZ hW ks)
 | .lt j ks m=>by
  rw[Qt.itm]
  have h1:=pY (pZ (ws:=ws) hW ks)
  have h2:=pY (xs:=aH m (⟨ws.getD j "",1+(i9 (jK ws W ks)).w,1,1⟩:Itm)) fun x hx=>by
   rw[cN hx]
   show(1:Int)<=1+(i9 (jK ws W ks)).w
   lia
  show((1+(i9 _).s+(i9 _).s:Nat):Int)<=1+(i9 _).w+(i9 _).w
  lia
theorem pZ {ws:List Str} {W:List Int} (hW:∀z∈W,0<=z):∀qs:List Qt,∀x∈jK ws W qs,(x.s:Int)<=x.w
 |[],x,h=>by rw[jK]at h;cases h
 |q::qs,x,h=>by
  rw[jK]at h
  rcases aj.mp h with rfl|h
  ·exact E7 hW q
  ·exact pZ hW qs x h
end
theorem Fl.itm {q:Qt} {w n:Nat} (h:Fl q w n) (ws:List Str) (W:List Int):q.itm ws W=q.itm [] []:=by
 induction h with
 |zero=>rw[(oE ws W).2,(oE [] []).2]
 |@row q w n k h hk ih=>rw[Qt.itm,Qt.itm,jK,jK,ih,iT,iT,cK,cK,(oE ws W).1,(oE [] []).1]
theorem Fl.gd {q:Qt} {w n:Nat} (h:Fl q w n) (m:Nat):q.gd m:=by
 induction h with
 |zero=>rw[Qt.gd];decide+kernel
 |@row q w n k h hk ih=>
  rw[Qt.gd,gds]
  exact⟨by rw[aA,aP];lia,ih,zm (by rw[Qt.gd];decide+kernel) k⟩
theorem Fl.sn {q:Qt} {w n:Nat} (h:Fl q w n) (ws:List Str) (W:List Int):(q.itm ws W).s=w/\(q.itm ws W).n=n:=by
 induction h with
 |zero=>rw[(oE ws W).2];exact⟨rfl,rfl⟩
 |@row q w n k h hk ih=>
  rw[Qt.itm,jK,iT,cK,(oE ws W).1]
  have hn:∀k,mxs ((aH k i7).map (·.n))<=1:=fun k=>by
   induction k with
   |zero=>show(0:Nat)<=1;decide
   |succ k ih=>rw[a6,aC,mxs];show max 1 _<=1;lia
  have n1:1<=n:=by cases h<;>lia
  have:=hn k
  refine⟨?_,?_⟩
  ·show 1+((q.itm ws W).s::(aH k i7).map (·.s)).sum=_
   rw[cE,ih.1,cK,cO]
   show 1+(w+k*1)=_
   lia
  ·show 1+mxs ((q.itm ws W).n::(aH k i7).map (·.n))=_
   rw[mxs,ih.2]
   lia
def ja (ws:List Str) (W:List Int) (qs:List Qt):Itm:=i9 (jK ws W qs)
def dfS (n x:Str):Str:="(def "++n++" "++x++")"
theorem vZ:("(def ":Str).length=5/\("\n":Str).length=1:=by decide+kernel
def trQ (ws:List Str) (qs:List Qt):TM.Internal.Tr:= .mk (.row qs.length) (trs ws qs)
theorem tY {ws:List Str} (hw:Ws ws) {W:List Int} {n:Nat} (hn:n<=12) {qs:List Qt} (h:gds n qs) (h8:qs.length<=8):Kq ws W (ja ws W qs) (trQ ws qs):=by
 have:=(kqs hw hn (W:=W) qs h).row (by rw[me];exact h8)
 rw[me]at this
 exact this
structure Md (ws:List Str) (W:List Int) (ds:List (List Qt)) (dn:Nat) (txs:List Str):Prop where
 l:ds.length=W.length
 tl:txs.length=W.length
 ix:∀(i:Nat) (qs:List Qt),ds[i]?=some qs->gds i qs/\qs.length<=8/\W[i]?=some (ja ws W qs).w/\(ja ws W qs).n<=24/\txs[i]?=some (dfS (ws.getD (3+i) "") (ja ws W qs).x)
 pos:∀z∈W,0<=z
 sm:TM.Internal.szs (ds.map (trQ ws))=dn
theorem Md.nil {ws:List Str}:Md ws [] [] 0 []:=⟨rfl,rfl,fun i qs h=>(by cases h),fun z h=>(by cases h),by rw[aU,TM.Internal.szs]⟩
theorem r8:∀a b:List TM.Internal.Tr,TM.Internal.szs (a++b)=TM.Internal.szs a+TM.Internal.szs b
 |[],b=>by rw[ba,TM.Internal.szs,du]
 |x::a,b=>by rw[aS,TM.Internal.szs,TM.Internal.szs,r8 a b,dA]
theorem Md.step {ws:List Str} {W:List Int} {ds:List (List Qt)} {dn:Nat} {txs:List Str} (hw:Ws ws) (m:Md ws W ds dn txs) (h12:W.length<=12) {qs:List Qt} (g:gds W.length qs) (h8:qs.length<=8) (hn:(ja ws W qs).n<=24):
  Md ws (W++[(ja ws W qs).w]) (ds++[qs]) (dn+(ja ws W qs).s) (txs++[dfS (ws.getD (3+W.length) "") (ja ws W qs).x]):=by
 have ext:∀{qs:List Qt},gds W.length qs->∀X,ja ws (W++X) qs=ja ws W qs:=fun g X=>by unfold ja;rw[oO _ g]
 have l:=m.l
 have tl:=m.tl
 refine⟨by rw[aO,aO,l];rfl,by rw[aO,aO,tl];rfl,fun i k h=>?_,fun z hz=>?_,?_⟩
 ·by_cases hi:i<ds.length
  ·rw[aK hi]at h
   obtain⟨a,b,c,d,e⟩:=m.ix i k h
   rw[ext (oP (by lia) k a)]
   exact⟨a,b,by rw[aK (by lia)];exact c,d,by rw[aK (by lia)];exact e⟩
  ·have hl:=(au.mp h).1
   rw[aO,a9]at hl
   have e:i=ds.length:=by lia
   rw[e,aJ (c7 _),dw]at h
   cases h
   rw[ext g]
   refine⟨by rw[e,l];exact g,h8,?_,hn,?_⟩
   ·rw[e,l,aJ (c7 _),dw];rfl
   ·rw[e,l,<-tl,aJ (c7 _),dw];rfl
 ·rcases ao.mp hz with hz|hz
  ·exact m.pos z hz
  ·rw[bg.mp hz]
   have:=pY (pZ (ws:=ws) m.pos qs)
   have:0<=((i9 (jK ws W qs)).s:Int):=Int.natCast_nonneg _
   show 0<=(i9 (jK ws W qs)).w
   lia
 ·rw[bh,r8,m.sm,aC,aU,TM.Internal.szs,TM.Internal.szs,(tY hw (n:=W.length) h12 (W:=W) g h8).s,Nat.add_zero]
structure Th (ws:List Str) (W:List Int) (qs:List Qt):Prop where
 g:gds W.length qs
 l:qs.length<=7
 s:(ja ws W qs).s<=69
 n:(ja ws W qs).n<=19
theorem Th.nil {ws:List Str} {W:List Int}:Th ws W []:=⟨by rw[gds];trivial,c8 _,by unfold ja;rw[jK];show 1<=69;decide,by unfold ja;rw[jK];show 1<=19;decide⟩
theorem AN (ws:List Str) (W:List Int) (a b:List Qt):jK ws W (a++b)=jK ws W a++jK ws W b:=by rw[iT,iT,iT,bh]
theorem zo:∀a b:List Nat,mxs (a++b)=max (mxs a) (mxs b)
 |[],b=>by rw[ba,mxs];lia
 |x::a,b=>by rw[aS,mxs,mxs,zo a b];lia
theorem p7 (ws:List Str) (W:List Int) (qs:List Qt) (q:Qt):(ja ws W (qs++[q])).s=(ja ws W qs).s+(q.itm ws W).s/\(ja ws W (qs++[q])).n=max (ja ws W qs).n (1+(q.itm ws W).n)/\(ja ws W (qs++[q])).w=(ja ws W qs).w+(q.itm ws W).w:=by
 unfold ja
 rw[AN,jK,jK]
 refine⟨?_,?_,?_⟩
 ·show 1+((jK ws W qs++[q.itm ws W]).map (·.s)).sum=1+((jK ws W qs).map (·.s)).sum+_
  rw[bh,bK]
  simp
  lia
 ·show 1+mxs ((jK ws W qs++[q.itm ws W]).map (·.n))=max (1+mxs ((jK ws W qs).map (·.n))) _
  rw[bh,zo]
  show 1+max _ (max (q.itm ws W).n 0)=_
  lia
 ·show 1+((jK ws W qs++[q.itm ws W]).map (·.w)).sum=1+((jK ws W qs).map (·.w)).sum+_
  rw[bh,bK]
  simp
  lia
theorem E8 (m:Nat) (w:Str) (z:Int):(i9 (aH m ⟨w,z,1,1⟩)).s=1+m/\(i9 (aH m ⟨w,z,1,1⟩)).n<=2:=by
 refine⟨?_,?_⟩
 ·show 1+((aH m (⟨w,z,1,1⟩:Itm)).map (·.s)).sum=_
  rw[cK,cO]
  show 1+m*1=_
  lia
 ·show 1+mxs ((aH m (⟨w,z,1,1⟩:Itm)).map (·.n))<=2
  have:∀m,mxs ((aH m (⟨w,z,1,1⟩:Itm)).map (·.n))<=1:=fun m=>by
   induction m with
   |zero=>show(0:Nat)<=1;decide
   |succ k ih=>rw[a6,aC,mxs];show max 1 _<=1;lia
  have:=this m
  lia
theorem Th.gro {ws:List Str} {W:List Int} {qs qs':List Qt} (h:Th ws W qs) (g:Gro W (70-((ja ws W qs).s:Int)) qs qs') (hn:(ja ws W qs).n<18):Th ws W qs':=by
 rcases g with rfl|⟨q,rfl,h7,h1,lf⟩|⟨j,m,hj,hm,rfl,h12⟩
 ·exact h
 ·obtain⟨a,b,_⟩:=p7 ws W qs q
  have e:(q.itm ws W).s=1/\(q.itm ws W).n=1/\q.gd W.length:=by
   rcases lf with⟨n,rfl,g0,g1⟩|⟨d,rfl,hd⟩
   ·rw[Qt.itm,Qt.gd];exact⟨rfl,rfl,g0,g1⟩
   ·rw[Qt.itm,Qt.gd];exact⟨rfl,rfl,hd⟩
  refine⟨u0 h.g (u4 e.2.2),by rw[aO,a9];lia,?_,?_⟩
  ·rw[a,e.1];lia
  ·rw[b,e.2.1];lia
 ·have e:=E8 m (ws.getD j "") (1+(i9 (jK ws W qs)).w)
  have hs:((Qt.lt j qs m).itm ws W).s=1+(ja ws W qs).s+(1+m):=by rw[Qt.itm];show 1+(i9 _).s+(i9 _).s=_;rw[e.1];rfl
  have hn':((Qt.lt j qs m).itm ws W).n<=1+max (ja ws W qs).n 2:=by rw[Qt.itm];show 1+max (i9 _).n (i9 _).n<=_;have:=e.2;unfold ja;lia
  obtain⟨a,b,_⟩:=p7 ws W [] (.lt j qs m)
  rw[ba]at a b
  have z:(ja ws W []).s=1/\(ja ws W []).n=1:=by unfold ja;rw[jK];exact⟨rfl,rfl⟩
  refine⟨u4 (by rw[Qt.gd];exact⟨hj,by have:=h.l;lia,hm,h.g⟩),by show 1<=7;decide,?_,?_⟩
  ·rw[a,z.1,hs];lia
  ·rw[b,z.2];lia
theorem C7 (ws:List Str) (W:List Int) (qs:List Qt):(qs.map (Qt.itm ws W)).map Itm.d=(jK ws W qs).map Itm.d:=by rw[iT]
theorem kx {ws:List Str} (hw:Ws ws) {W:List Int} {n:Nat} (hn:n<=12):∀{qs:List Qt},gds n qs->∀q∈qs,(q.itm ws W).x.length<=70*(q.itm ws W).s/\(q.itm ws W).s<=(ja ws W qs).s
 |[],_,q,h=>by cases h
 |k::ks,g,q,h=>by
  rw[gds]at g
  have e:(ja ws W (k::ks)).s=(k.itm ws W).s+(ja ws W ks).s:=by
   unfold ja
   rw[jK]
   show 1+((k.itm ws W).s::(jK ws W ks).map (·.s)).sum=_+(1+((jK ws W ks).map (·.s)).sum)
   rw[cE]
   lia
  rw[e]
  rcases aj.mp h with rfl|h
  ·have:=kq hw hn (W:=W) q g.1
   have h1:=this.gi.ln
   rw[this.s]
   lia
  ·obtain⟨a,b⟩:=kx hw hn g.2 q h
   exact⟨a,by lia⟩
theorem zp:∀{ts:List TM.Internal.Tr} {t:TM.Internal.Tr},t∈ts->t.sz<=TM.Internal.szs ts
 |x::ts,t,h=>by
  rw[TM.Internal.szs]
  rcases aj.mp h with rfl|h
  ·lia
  ·have:=zp h
   lia
theorem AO {ws:List Str} {W:List Int} {z:Int}:mdD ws (W++[z])=mdD ws W++[.lst [sD (ws.getD (3+W.length) ""),kD z]]:=by
 unfold mdD
 rw[aO,a9,b8,bh]
 have e:∀i∈aa W.length,(W++[z]).getD i 0=W.getD i 0:=fun i hi=>by
  have:=af.mp hi
  rw[bo,aK this,<-bo]
 have e2:(W++[z]).getD W.length 0=z:=by rw[bo,aJ (c7 _),dw];rfl
 rw[bU fun i hi=>by rw[e i hi],aC,aU,e2]
theorem ifs {A B:TS} {D:nY} {σ:St} {H:Hp} {t:TT} (b:Bool) (ht:∀R:Bool->Hp->Prop,R b H->t σ H R) (k:if b=true then A D σ H else B D σ H):we t A B D σ H:=ht _ k
theorem FC {ws:List Str} (hw:Ws ws) {z:Int} {n:Nat} (hn:n<13) (e:z=3+(n:Int)):atI (ws.map V.str) z=some (.str (ws.getD (3+n) "")):=by
 rw[wat hw.l (by lia) (by lia),e,show(3+(n:Int)).toNat=3+n by lia]
theorem FD {ws:List Str} (hw:Ws ws) {n:Nat} (hn:n<13):(ws.getD (3+n) "").length<=12:=by
 have:=(hw.at (i:=3+n) (by lia)).2
 have:=(r6 this).ln
 lia
structure Tx (H0 H:Hp) (ml tl l:Addr) (ws:List Str) (W:List Int) (ds:List (List Qt)) (dn:Nat) (txs:List Str) (mv ps:List V) (qs:List Qt):Prop where
 S:gT H0 H
 em:H ml=some (.lst mv)
 et:H tl=some (.lst (txs.map V.str))
 dm:mh (oz H [ml,tl]) mv (mdD ws W)
 el:(oz H [ml,tl]) l=some (.lst ps)
 dt:mh (oz H [ml,tl]) ps ((qs.map (Qt.itm ws W)).map Itm.d)
 md:Md ws W ds dn txs
 th:Th ws W qs
theorem Tx.M {H0 H:Hp} {ml tl l:Addr} {ws:List Str} {W:List Int} {ds:List (List Qt)} {dn:Nat} {txs:List Str} {mv ps:List V} {qs:List Qt} (t:Tx H0 H ml tl l ws W ds dn txs mv ps qs):∀a∈[ml,tl],∃o,H a=some o:=fun a ha=>by
 rcases aj.mp ha with rfl|ha
 ·exact⟨_,t.em⟩
 ·rw[bg.mp ha];exact⟨_,t.et⟩
theorem Tx.same {H0 H H':Hp} {ml tl l:Addr} {ws:List Str} {W:List Int} {ds:List (List Qt)} {dn:Nat} {txs:List Str} {mv ps:List V} {qs:List Qt} (t:Tx H0 H ml tl l ws W ds dn txs mv ps qs) (s:gT H H'):Tx H0 H' ml tl l ws W ds dn txs mv ps qs:=
 ⟨t.S.trans s,s _ _ t.em,s _ _ t.et,t.dm.same (kK s),kK s _ _ t.el,t.dt.same (kK s),t.md,t.th⟩
theorem Tx.put {H0 H:Hp} {ml tl l:Addr} {ws:List Str} {W:List Int} {ds:List (List Qt)} {dn:Nat} {txs:List Str} {mv ps:List V} {qs ks:List Qt} (hw:Ws ws) (t:Tx H0 H ml tl l ws W ds dn txs mv ps qs) (ne:ml≠tl) (h0:H0 ml=none) (h0':H0 tl=none) (h12:W.length<=12) (g:gds W.length ks) (h8:ks.length<=8) (hn:(ja ws W ks).n<=24)
  {e:Addr} (he:(oz H [ml,tl]) e=some (.lst [.str (ws.getD (3+W.length) ""),.int (ja ws W ks).w])) {x:Str} (hx:x=dfS (ws.getD (3+W.length) "") (ja ws W ks).x):
  let H':=upd (upd H ml (.lst (mv++[.ref e]))) tl (.lst (txs.map V.str++[.str x]))
  gT H0 H'/\H' ml=some (.lst (mv++[.ref e]))/\H' tl=some (.lst ((txs++[x]).map V.str))/\gT (oz H [ml,tl]) (oz H' [ml,tl])/\mh (oz H' [ml,tl]) (mv++[.ref e]) (mdD ws (W++[(ja ws W ks).w]))/\Md ws (W++[(ja ws W ks).w]) (ds++[ks]) (dn+(ja ws W ks).s) (txs++[x]):=by
 intro H'
 have sm:gT (oz H [ml,tl]) (oz H' [ml,tl]):=fun b u z=>vV (ai _ (cG _)) _ _ (vV ah _ _ z)
 refine⟨fun c u z=>?_,?_,?_,sm,?_,?_⟩
 ·show(upd (upd H ml _) tl _) c=_
  rw[gM (gL z h0'),gM (gL z h0)]
  exact t.S _ _ z
 ·show(upd (upd H ml _) tl _) ml=_
  rw[gM ne,gE]
 ·show(upd (upd H ml _) tl _) tl=_
  rw[gE,bh]
  rfl
 ·rw[AO]
  exact mH (t.dm.same sm) (.lst (sm _ _ he) (.cons (.flat rfl) (.cons (.flat rfl) .nil)))
 ·rw[hx]
  exact t.md.step hw h12 g h8 hn
def tZ:Sp:=fun vs H Q _=>∃(wl C:Addr) (seed:Int) (ws:List Str) (cs:List Int),vs=[.ref wl,.int seed,.ref C]/\Wd H wl ws/\0<=seed/\H C=some (.lst (cs.map V.int))/\cs.length<=100/\
 ∀t ml H' W ds dn txs mv,gT H H'->H' t=some (.tup [.str (Str.join "\n" txs),.ref ml])->H' ml=some (.lst mv)->mh H' mv (mdD ws W)->Md ws W ds dn txs->1<=W.length->W.length<=12->dn<=140->Q (.ref t) H'
theorem ua (T:Txt K mg):iK P w K mg base CX0 4 T.a_text T.fd_text ["_law_words_here","_law_seed","_law_cells"] tZ:=by
 have G_row:=ny (P:=P) (w:=w) (base:=base) T
 have G_grown:=rZ (P:=P) (w:=w) (base:=base) T
 have G_filler:=qj (P:=P) (w:=w) (base:=base) T
 refine T.F_text.ok iq (fun vs H Q E h=>?_) (fun cdv A outer s H vs Q E hr h=>?_)
 ·obtain⟨wl,C,seed,ws,cs,rfl,_⟩:=h
  rfl
 obtain⟨wl,C,seed,ws,cs,rfl,wd,s0,eC,hcs,q⟩:=h
 refine⟨_,(gC (gR (i:=3) iq.nd rfl (.inl rfl) (iL gG))
  (gC (gR (i:=4) iq.nd rfl (.inl rfl) (iL gG))
  (gC (gR (i:=5) iq.nd rfl (.inl rfl) (iL gG))
  (gC (gR (i:=6) iq.nd rfl (.inl rfl) gH)
  (gC (lU PassesOwn.never rfl (jR (cv 2)) (jt (i:=7) iq.nd rfl (.inl rfl))
   (gC (gR (i:=7) iq.nd rfl (.inl rfl) (gY j4 (cv 7) (gY sX gH gH)))
   (gC (gR (i:=8) iq.nd rfl (.inl rfl) (ia G_row (hr.mono (by decide)) rfl T.m_row T.k_row T.b_row .nil iX (gB (cv 5) gG)))
   (gK (iU (PW.pt (ql (ie ph (gY j4 (cv 7) gH) gH (ic _)) (ql (ie uB (gS hJ rfl T.z_len jG (gB (cv 3) gG)) gH (ic _)) (oT (ie uB (gY jf (cv 6) (hU gX (cv 8) gH (fun _ _=>rfl))) gH (ic _))))))
    (gC (iu (mq (lK fD fE fF iD (PE.mono (cv 3)) (gB (PE.mono (iL (gB (hU gX (cv 0) (gY jf gH (gS hJ rfl T.z_len jG (gB (cv 3) gG))) (fun _ _=>rfl)) (gB (hU gX (cv 8) gH (fun _ _=>rfl)) gG)))) gG))))
    (gC (iu (mq (lK fD fE fF iD (PE.mono (cv 4)) (gB (PE.mono (gY iQ (gY iQ (gY iQ (gY iQ gP (hU gX (cv 0) (gY jf gH (gS hJ rfl T.z_len jG (gB (cv 3) gG))) (fun _ _=>rfl))) gP) (hU gX (cv 8) gH (fun _ _=>rfl))) gP)) gG))))
    (gC (gR (i:=6) iq.nd rfl (.inl rfl) (gY jf (cv 6) (hU gX (cv 8) gH (fun _ _=>rfl))))
    (gK (gR (i:=5) iq.nd rfl (.inl rfl) (iL gG))))))
    (gK (iU (ie uB (hU gX (cv 8) gH (fun _ _=>rfl)) gH (ic _))
     (gK (gR (i:=5) iq.nd rfl (.inl rfl) (ia G_grown (hr.mono (by decide)) rfl T.m_grown T.k_grown T.b_grown .nil iX (gB (cv 0) (gB (cv 3) (gB (cv 5) (gB (cv 7) (gB (gY qC gH (hU gX (cv 8) gH (fun _ _=>rfl))) gG))))))))
     ib)))))))
  (gC (gR (i:=8) iq.nd rfl (.inl rfl) (ia G_row (hr.mono (by decide)) rfl T.m_row T.k_row T.b_row .nil iX (gB (cv 5) gG)))
  (gC (gR (i:=9) iq.nd rfl (.inl rfl) (gY jf gH (gY j4 (cv 1) gH)))
  (gC (iU (ie uB (hU gX (cv 8) gH (fun _ _=>rfl)) (cv 9) (ic _))
   (gK (gR (i:=8) iq.nd rfl (.inl rfl) (ia G_row (hr.mono (by decide)) rfl T.m_row T.k_row T.b_row .nil iX (gB (gY sO (cv 5) (iL (gB (ia G_filler (hr.mono (by decide)) rfl T.m_filler T.k_filler T.b_filler .nil iX (gB (gY qC (cv 9) (hU gX (cv 8) gH (fun _ _=>rfl))) gG)) gG))) gG))))
   ib)
  (gC (iu (mq (lK fD fE fF iD (PE.mono (cv 3)) (gB (PE.mono (iL (gB (hU gX (cv 0) (gY jf gH (gS hJ rfl T.z_len jG (gB (cv 3) gG))) (fun _ _=>rfl)) (gB (hU gX (cv 8) gH (fun _ _=>rfl)) gG)))) gG))))
  (gC (iu (mq (lK fD fE fF iD (PE.mono (cv 4)) (gB (PE.mono (gY iQ (gY iQ (gY iQ (gY iQ gP (hU gX (cv 0) (gY jf gH (gS hJ rfl T.z_len jG (gB (cv 3) gG))) (fun _ _=>rfl))) gP) (hU gX (cv 8) gH (fun _ _=>rfl))) gP)) gG))))
  (gK (hV (kO (gB (lK fC fJ fK yw gP (gB (cv 4) gG)) (gB (cv 3) gG))))))))))))))),?_⟩
 have sl:sizeLine=16777216:=sizeLine_eq
 have hw:Ws ws:=⟨wd.2.1,wd.2.2.1,wd.2.2.2⟩
 refine⟨(by show 0<=sizeLine;decide),fun ml hml=>?_⟩
 have s1:=gJ hml (.lst [])
 have e1:(upd H ml (.lst [])) ml=some (.lst []):=gE
 dsimp only[iW]
 generalize upd H ml (.lst [])=H1 at s1 e1⊢
 refine⟨(by show 0<=sizeLine;decide),fun tl htl=>?_⟩
 have s2:=gJ htl (.lst [])
 have e2:(upd H1 tl (.lst [])) tl=some (.lst []):=gE
 have nmt:ml≠tl:=gL e1 htl
 have htl0:H tl=none:=s1.free htl
 dsimp only[iW]
 generalize upd H1 tl (.lst [])=H2 at s2 e2⊢
 refine⟨(by show 0<=sizeLine;decide),fun l0 hl0=>?_⟩
 have s3:=gJ hl0 (.lst [])
 have e3:(upd H2 l0 (.lst [])) l0=some (.lst []):=gE
 have n3:l0∉[ml,tl]:=fun z=>by
  rcases aj.mp z with z|z
  ·rw[z,s2 _ _ e1]at hl0;cases hl0
  ·rw[bg.mp z,e2]at hl0;cases hl0
 dsimp only[iW]
 generalize upd H2 l0 (.lst [])=H3 at s3 e3⊢
 have tx0:Tx H H3 ml tl l0 ws [] [] 0 [] [] [] []:=⟨(s1.trans s2).trans s3,s3 _ _ (s2 _ _ e1),s3 _ _ e2,.nil,kN n3 e3,.nil,.nil,.nil⟩
 have CM:∀{H':Hp},gT H H'->H' C=some (.lst (cs.map V.int)):=fun S=>S _ _ eC
 refine⟨C,rfl,⟨_,SqL.of (CM tx0.S)⟩,nF (xs:=cs.map V.int) (fun i σ H4=>∃(o7 o8:Option V) (l:Addr) (W:List Int) (ds:List (List Qt)) (dn:Nat) (txs:List Str) (mv ps:List V) (qs:List Qt),σ=[some (.ref wl),some (.int seed),some (.ref C),some (.ref ml),some (.ref tl),some (.ref l),some (.int (dn:Int)),o7,o8,none]/\Tx H H4 ml tl l ws W ds dn txs mv ps qs/\W.length<=11/\dn<=69)
  ⟨none,none,l0,[],[],0,[],[],[],[],rfl,tx0,by decide,by decide⟩ (fun i σ H4 _ ⟨_,_,_,_,_,_,_,_,_,_,_,t,_⟩=>SqL.of (CM t.S)) ?_ ?_⟩
 ·rintro i v σ H4 hv ⟨o7,o8,l,W,ds,dn,txs,mv,ps,qs,rfl,t,hW,hdn⟩
  rw[aM]at hv
  obtain⟨cell,hc,rfl⟩:=dF.mp hv
  dsimp only[iW]
  refine⟨⟨by decide,by decide,by decide⟩,(by show(0:Int)<10^(64:Int).toNat;decide+kernel),?_⟩
  dsimp only[iW]
  have c0:0<=cell%10^(64:Int).toNat:=gj _ (by decide+kernel)
  generalize cell%10^(64:Int).toNat=c at c0⊢
  have kxx:=fun q hq=>kx hw (n:=W.length) (by lia) (W:=W) t.th.g q hq
  have xl:∀q∈qs,(q.itm ws W).x.length<=30000:=fun q hq=>by
   obtain⟨a,b⟩:=kxx q hq
   have:=t.th.s
   lia
  refine⟨l,ps,jK ws W qs,rfl,kh _ _ t.el,by rw[<-C7];exact t.dt.same kh,by rw[iT,aD];have:=t.th.l;lia,fun x hx=>by rw[iT]at hx;obtain⟨k,hk,rfl⟩:=bb.mp hx;exact xl k hk,fun r H5 s5 hr5 er=>?_⟩
  have er:H5 r=some (.lst (ja ws W qs).v):=er
  have t5:=t.same s5
  have lmv:=t5.dm.length
  unfold mdD at lmv
  rw[aD,cb]at lmv
  dsimp only[iW]
  have kr:=tY hw (n:=W.length) (by lia) (W:=W) t.th.g (by have:=t.th.l;lia)
  have krl:=kr.gi.ln
  rw[<-kr.s]at krl
  have ths:=t.th.s
  have wd5:=(t5.S) _ _ wd.1
  refine ifs (decide (55<c%64)&&(decide ((mv.length:Int)<11)&&decide ((dn:Int)+((ja ws W qs).s:Int)<70))) ?_ ?_
  ·intro R h
   refine E1 (decide (55<c%64)) (decide ((mv.length:Int)<11)&&decide ((dn:Int)+((ja ws W qs).s:Int)<70)) ?_ ?_ h
   ·exact fun R h=>⟨(by show(0:Int)<64;decide),h⟩
   ·intro R h
    refine E1 (decide ((mv.length:Int)<11)) (decide ((dn:Int)+((ja ws W qs).s:Int)<70)) ?_ ?_ h
    ·exact fun R h=>⟨ml,_,rfl,.inl (SqL.of t5.em),h⟩
    ·exact fun R h=>⟨_,er,gO (gN (j:=2) rfl) h⟩
  by_cases hb:(decide (55<c%64)&&(decide ((mv.length:Int)<11)&&decide ((dn:Int)+((ja ws W qs).s:Int)<70)))=true
  ·rw[if_pos hb]
   rw[fV,fV,decide_eq_true_eq,decide_eq_true_eq,decide_eq_true_eq]at hb
   refine⟨⟨_,t5.em⟩,ml,_,rfl,.inl (SqL.of t5.em),_,wd5,gO (FC hw (n:=W.length) (by lia) (by show 3+(mv.length:Int)=_;lia)) ⟨_,er,gO (gN (j:=1) rfl) ⟨(by show 2<=sizeLine;decide),fun e he=>?_⟩⟩⟩
   have s6:=gJ he (.lst [.str (ws.getD (3+W.length) ""),.int (ja ws W qs).w])
   have e6:(upd H5 e (.lst [.str (ws.getD (3+W.length) ""),.int (ja ws W qs).w])) e=some (.lst [.str (ws.getD (3+W.length) ""),.int (ja ws W qs).w]):=gE
   have t6:=t5.same s6
   have n6:=Bq t5.M he
   have er6:=s6 _ _ er
   have wd6:=s6 _ _ wd5
   show ∃xs,(upd H5 e (.lst [.str (ws.getD (3+W.length) ""),.int (ja ws W qs).w])) ml=some (.lst xs)/\_
   generalize upd H5 e (.lst [.str (ws.getD (3+W.length) ""),.int (ja ws W qs).w])=H6 at s6 e6 t6 er6 wd6⊢
   obtain⟨p1,p2,p3,p4,p5,p6⟩:=t6.put hw nmt hml htl0 (by lia) t.th.g (by have:=t.th.l;lia) (by have:=t.th.n;lia) (kN n6 e6) rfl
   have rml:r≠ml:=fun z=>by rw[z,t.em]at hr5;cases hr5
   have wml:wl≠ml:=fun z=>by have:=wd.1;rw[z,hml]at this;cases this
   have lx:=FD hw (n:=W.length) (by lia)
   obtain⟨d5,d1⟩:=vZ
   obtain⟨_,l2,l3,_⟩:=xq
   refine⟨mv,t6.em,by lia,?_⟩
   refine⟨⟨_,by rw[gM nmt.symm];exact t6.et⟩,ml,_,rfl,.inl (SqL.of gE),_,by rw[gM wml];exact wd6,gO (FC hw (n:=W.length) (by lia) (by show 2+((mv++[V.ref e]).length:Int)=_;rw[aO,a9];lia)) ⟨by show("(def ":Str).length+_<=sizeLine;lia,by show("(def "++ws.getD (3+W.length) "").length+(" ":Str).length<=sizeLine;rw[Str.length_append];lia,(ja ws W qs).v,by rw[gM rml];exact er6,gO (gN (j:=0) rfl) ⟨by show("(def "++ws.getD (3+W.length) ""++" ").length+(ja ws W qs).x.length<=sizeLine;rw[Str.length_append,Str.length_append];lia,by show("(def "++ws.getD (3+W.length) ""++" "++(ja ws W qs).x).length+(")":Str).length<=sizeLine;rw[Str.length_append,Str.length_append,Str.length_append];lia,txs.map V.str,by rw[gM nmt.symm];exact t6.et,by rw[aD,t.md.tl];lia,?_⟩⟩⟩
   have rtl:r≠tl:=fun z=>by rw[z,t.et]at hr5;cases hr5
   refine⟨(ja ws W qs).v,by rw[gM rtl,gM rml];exact er6,gO (gN (j:=2) rfl) ?_⟩
   dsimp only[iW]
   refine⟨(by show 0<=sizeLine;decide),fun l2 hl2=>?_⟩
   have s8:gT (upd (upd H6 ml (.lst (mv++[.ref e]))) tl (.lst (txs.map V.str++[.str (dfS (ws.getD (3+W.length) "") (ja ws W qs).x)]))) (upd (upd (upd H6 ml (.lst (mv++[.ref e]))) tl (.lst (txs.map V.str++[.str (dfS (ws.getD (3+W.length) "") (ja ws W qs).x)]))) l2 (.lst [])):=gJ hl2 _
   have n8:l2∉[ml,tl]:=fun z=>by
    rcases aj.mp z with z|z
    ·rw[z]at hl2;exact nomatch(p2.symm.trans hl2)
    ·rw[bg.mp z]at hl2;exact nomatch(p3.symm.trans hl2)
   exact⟨_,_,l2,W++[(ja ws W qs).w],ds++[qs],dn+(ja ws W qs).s,txs++[dfS (ws.getD (3+W.length) "") (ja ws W qs).x],mv++[V.ref e],[],[],rfl,⟨p1.trans s8,s8 _ _ p2,s8 _ _ p3,p5.same (kK s8),kN n8 gE,.nil,p6,.nil⟩,by rw[aO,a9];lia,by lia⟩
  ·rw[if_neg hb]
   refine ifs (decide (((ja ws W qs).n:Int)<18)) ?_ ?_
   ·exact fun R h=>⟨_,er,gO (gN (j:=3) rfl) h⟩
   by_cases hb2:decide (((ja ws W qs).n:Int)<18)=true
   ·rw[if_pos hb2]
    rw[decide_eq_true_eq]at hb2
    refine⟨_,er,gO (gN (j:=2) rfl) ⟨[ml,tl],wl,ml,l,c,70-((ja ws W qs).s:Int),ws,W,mv,ps,qs,rfl,t5.M,⟨wd5,wd.2⟩,t5.em,t5.dm,by lia,t5.el,t5.dt,by have:=t.th.l;lia,xl,c0,fun r2 ps2 qs2 H6 s6 gro el6 dt6=>?_⟩⟩
    have t6:=t5.same s6
    exact⟨_,_,r2,W,ds,dn,txs,mv,ps2,qs2,rfl,⟨t6.S,t6.em,t6.et,t6.dm,el6,dt6,t6.md,t.th.gro gro (by lia)⟩,hW,hdn⟩
   ·rw[if_neg hb2]
    exact⟨_,_,l,W,ds,dn,txs,mv,ps,qs,rfl,t5,hW,hdn⟩
 ·rintro σ H4 ⟨o7,o8,l,W,ds,dn,txs,mv,ps,qs,rfl,t,hW,hdn⟩
  have kxx:=fun q hq=>kx hw (n:=W.length) (by lia) (W:=W) t.th.g q hq
  have ths:=t.th.s
  have thl:=t.th.l
  have xl:∀q∈qs,(q.itm ws W).x.length<=30000:=fun q hq=>by
   obtain⟨a,b⟩:=kxx q hq
   lia
  refine⟨l,ps,jK ws W qs,rfl,kh _ _ t.el,by rw[<-C7];exact t.dt.same kh,by rw[iT,aD];lia,fun x hx=>by rw[iT]at hx;obtain⟨k,hk,rfl⟩:=bb.mp hx;exact xl k hk,fun r H5 s5 hr5 er=>?_⟩
  have er:H5 r=some (.lst (ja ws W qs).v):=er
  have t5:=t.same s5
  dsimp only[iW]
  refine⟨(by show(0:Int)<8;decide),?_⟩
  dsimp only[iW]
  have g0:0<=seed%8:=gj _ (by decide)
  have g1:seed%8<8:=gm _ (by decide)
  have wsz:=pY (pZ (ws:=ws) t.md.pos qs)
  have wsz:((ja ws W qs).s:Int)<=(ja ws W qs).w:=wsz
  have s1':1<=(ja ws W qs).s:=by show 1<=1+_;lia
  refine y9 (fun σ' H'=>∃(r:Addr) (ks:List Qt),σ'=[some (.ref wl),some (.int seed),some (.ref C),some (.ref ml),some (.ref tl),some (.ref l),some (.int (dn:Int)),o7,some (.ref r),some (.int (57+seed%8))]/\Tx H H' ml tl l ws W ds dn txs mv ps qs/\r∉[ml,tl]/\H' r=some (.lst (ja ws W ks).v)/\gds W.length ks/\ks.length<=8/\(ja ws W ks).n<=24/\(ja ws W ks).s<=70) (decide ((ja ws W qs).w<57+seed%8)) ?_ ?_ ?_ ?_
  ·exact fun R h=>⟨_,er,gO (gN (j:=1) rfl) h⟩
  ·intro hb N hN
   rw[decide_eq_true_eq]at hb
   obtain⟨z,hz⟩:∃z:Nat,57+seed%8-(ja ws W qs).w=(z:Int):=⟨(57+seed%8-(ja ws W qs).w).toNat,by lia⟩
   refine⟨_,er,gO (gN (j:=1) rfl) ⟨z,by show[V.int (57+seed%8-(ja ws W qs).w)]=_;rw[hz],by lia,by lia,fun f k n H6 fl hn s6 hf ef=>?_⟩⟩
   refine⟨(by show 1<=sizeLine;decide),fun p hp=>?_⟩
   have s7:=gJ hp (.lst [.ref f])
   have e7:(upd H6 p (.lst [.ref f])) p=some (.lst [.ref f]):=gE
   have t7:=(t5.same s6).same s7
   have ef7:=s7 _ _ ef
   generalize upd H6 p (.lst [.ref f])=H7 at s7 e7 t7 ef7⊢
   have lps:=t.dt.length
   rw[aD,aD]at lps
   refine⟨l,p,_,_,rfl,rfl,kh _ _ t7.el,e7,by show ps.length+ 1<=sizeLine;lia,fun a ha=>?_⟩
   have s8:=gJ ha (.lst (ps++[.ref f]))
   have e8:(upd H7 a (.lst (ps++[.ref f]))) a=some (.lst (ps++[.ref f])):=gE
   have t8:=t7.same s8
   have ef8:=s8 _ _ ef7
   generalize upd H7 a (.lst (ps++[.ref f]))=H8 at s8 e8 t8 ef8⊢
   have fsn:=fl.sn ws W
   have fw:=fl.wt ws W
   obtain⟨b1,b2,b3⟩:=p7 ws W qs k
   have gk:gds W.length (qs++[k]):=u0 t.th.g (u4 (fl.gd _))
   have d8:mh H8 (ps++[.ref f]) ((jK ws W (qs++[k])).map Itm.d):=by
    rw[<-C7,bh,bh]
    exact mH (t8.dt.same kh) (qM (by rw[fl.itm ws W];exact ef8))
   refine⟨a,_,jK ws W (qs++[k]),rfl,e8,d8,by rw[iT,aD,aO,a9];lia,fun x hx=>?_,fun r2 H9 s9 hr9 er9=>hN _ _ ⟨r2,qs++[k],rfl,t8.same s9,Bq t8.M hr9,er9,gk,by rw[aO,a9];lia,?_,?_⟩⟩
   ·rw[iT]at hx
    obtain⟨y,hy,rfl⟩:=bb.mp hx
    rcases ao.mp hy with hy|hy
    ·exact xl y hy
    ·rw[bg.mp hy]
     have:=fl.len ws W
     lia
   ·rw[b2,fsn.2];have:=t.th.n;lia
   ·rw[b1,fsn.1];lia
  ·intro hb N hN
   exact hN _ _ ⟨r,qs,rfl,t5,Bq t.M hr5,er,t.th.g,by lia,by have:=t.th.n;lia,by lia⟩
  ·rintro σ' H5 ⟨r,ks,rfl,t5,nr,er,gk,lk,nk,sk⟩
   have lmv:=t5.dm.length
   unfold mdD at lmv
   rw[aD,cb]at lmv
   have kr:=tY hw (n:=W.length) (by lia) (W:=W) gk lk
   have krl:=kr.gi.ln
   rw[<-kr.s]at krl
   have wd5:=(t5.S) _ _ wd.1
   refine⟨⟨_,t5.em⟩,ml,_,rfl,.inl (SqL.of t5.em),_,wd5,gO (FC hw (n:=W.length) (by lia) (by show 3+(mv.length:Int)=_;lia)) ⟨_,er,gO (gN (j:=1) rfl) ⟨(by show 2<=sizeLine;decide),fun e he=>?_⟩⟩⟩
   have s6:=gJ he (.lst [.str (ws.getD (3+W.length) ""),.int (ja ws W ks).w])
   have e6:(upd H5 e (.lst [.str (ws.getD (3+W.length) ""),.int (ja ws W ks).w])) e=some (.lst [.str (ws.getD (3+W.length) ""),.int (ja ws W ks).w]):=gE
   have t6:=t5.same s6
   have n6:=Bq t5.M he
   have er6:=s6 _ _ er
   have wd6:=s6 _ _ wd5
   show ∃xs,(upd H5 e (.lst [.str (ws.getD (3+W.length) ""),.int (ja ws W ks).w])) ml=some (.lst xs)/\_
   generalize upd H5 e (.lst [.str (ws.getD (3+W.length) ""),.int (ja ws W ks).w])=H6 at s6 e6 t6 er6 wd6⊢
   obtain⟨p1,p2,p3,p4,p5,p6⟩:=t6.put hw nmt hml htl0 (by lia) gk lk nk (kN n6 e6) rfl
   have rml:r≠ml:=fun z=>nr (z▸ah)
   have wml:wl≠ml:=fun z=>by have:=wd.1;rw[z,hml]at this;cases this
   have lx:=FD hw (n:=W.length) (by lia)
   obtain⟨d5,d1⟩:=vZ
   obtain⟨_,l2,l3,_⟩:=xq
   refine⟨mv,t6.em,by lia,?_⟩
   refine⟨⟨_,by rw[gM nmt.symm];exact t6.et⟩,ml,_,rfl,.inl (SqL.of gE),_,by rw[gM wml];exact wd6,gO (FC hw (n:=W.length) (by lia) (by show 2+((mv++[V.ref e]).length:Int)=_;rw[aO,a9];lia)) ⟨by show("(def ":Str).length+_<=sizeLine;lia,by show("(def "++ws.getD (3+W.length) "").length+(" ":Str).length<=sizeLine;rw[Str.length_append];lia,(ja ws W ks).v,by rw[gM rml];exact er6,gO (gN (j:=0) rfl) ⟨by show("(def "++ws.getD (3+W.length) ""++" ").length+(ja ws W ks).x.length<=sizeLine;rw[Str.length_append,Str.length_append];lia,by show("(def "++ws.getD (3+W.length) ""++" "++(ja ws W ks).x).length+(")":Str).length<=sizeLine;rw[Str.length_append,Str.length_append,Str.length_append];lia,txs.map V.str,by rw[gM nmt.symm];exact t6.et,by rw[aD,t.md.tl];lia,?_⟩⟩⟩
   have tln:=t.md.tl
   have bound:∀y∈txs++[dfS (ws.getD (3+W.length) "") (ja ws W ks).x],y.length<=30000:=fun y hy=>by
    obtain⟨i,hi⟩:=bI.mp hy
    have il:=(au.mp hi).1
    have dl:=p6.l
    rw[p6.tl,<-dl]at il
    have hd:=bx il
    obtain⟨a,b,c,d,e⟩:=p6.ix i _ hd
    have i12:i<13:=by rw[dl,aO,a9]at il;lia
    have kz:=tY hw (n:=i) (by lia) (W:=W++[(ja ws W ks).w]) a b
    have kzl:=kz.gi.ln
    have zs:(trQ ws ((ds++[ks])[i]'il)).sz<=TM.Internal.szs ((ds++[ks]).map (trQ ws)):=zp (cQ (bD _))
    rw[p6.sm]at zs
    rw[hi]at e
    rw[dB.inj e]
    have:=FD hw i12
    unfold dfS
    rw[Str.length_append,Str.length_append,Str.length_append,Str.length_append]
    lia
   have lsum:=vU (f:=fun y:Str=>y.length) bound
   rw[aO,a9]at lsum
   refine⟨rfl,"\n",tl,_,rfl,rfl,SqL.of p3,by rw[d1,aO,a9];lia,(by show 2<=sizeLine;decide),fun tt htt=>?_⟩
   have s9:=gJ htt (.tup [.str (Str.join "\n" (txs++[dfS (ws.getD (3+W.length) "") (ja ws W ks).x])),.ref ml])
   exact q tt ml _ _ _ _ _ _ (p1.trans s9) gE (s9 _ _ p2) (p5.same (fun b u z=>s9 _ _ (kh _ _ z))) p6 (by rw[aO];show 1<=_+ 1;lia) (by rw[aO];show _+ 1<=12;lia) (by lia)
open GR.Internal (Op Gp toks mV jJ hI isName WOk TAt lM)
def dtk (n:Str) (t:TM.Internal.Tr):List Str:=("(":Str)::"def"::n::(t.tk++[(")":Str)])
def AQ:List Str->List TM.Internal.Tr->List Str
 |n::ns,t::ts=>dtk n t++AQ ns ts
 |_,_=>[]
theorem v3:∀{ns:List Str} {ts:List TM.Internal.Tr},ns.length=ts.length->(∀n∈ns,isName n=true)->TM.Internal.oks ts->(∀t∈ts,t.nest<=24)->∀(rows:List Dt) (names:List Str) (roots:List Dt),rows.length+TM.Internal.szs ts<=160->
  jJ (AQ ns ts) rows names roots=some (names++ns,roots++(TM.Internal.offs ts rows.length).map TM.Internal.kD,rows++TM.Internal.rws ts rows.length)
 |[],[],_,_,_,_,rows,names,roots,_=>by
  show jJ [] rows names roots=_
  rw[GR.Internal.defs_nil,TM.Internal.offs,TM.Internal.rws,aE,aU,aE,aE]
 |n::ns,t::ts,hl,hn,ho,hd,rows,names,roots,hz=>by
  rw[TM.Internal.oks]at ho
  rw[TM.Internal.szs]at hz
  have e:=TM.Internal.rd_all 24 t ho.1 (hd t ah) ((")":Str)::AQ ns ts) rows (by lia)
  have lr:(rows++t.rw rows.length).length=rows.length+t.sz:=by rw[aO,TM.Internal.Tr.rw_len]
  have h1:AQ (n::ns) (t::ts)=("(":Str)::"def"::n::(t.tk++(")":Str)::AQ ns ts):=by
   show dtk n t++AQ ns ts=_
   unfold dtk
   rw[aS,aS,aS,a8]
   rfl
  rw[h1,GR.Internal.defs_yes (hn n ah) e,v3 (by simpa using hl) (fun x hx=>hn x (ai _ hx)) ho.2 (fun x hx=>hd x (ai _ hx)) _ _ _ (by rw[lr];lia),lr,TM.Internal.offs,TM.Internal.rws,aC,a8,a8,a8]
  rfl
theorem AR {ns:List Str} {ts:List TM.Internal.Tr} (hl:ns.length=ts.length) (hn:∀n∈ns,isName n=true) (ho:TM.Internal.oks ts) (hd:∀t∈ts,t.nest<=24) (hz:TM.Internal.szs ts<=160) (h1:1<=ns.length) (h12:ns.length<=12):mV (AQ ns ts)=some (ns,(TM.Internal.offs ts 0).map TM.Internal.kD,TM.Internal.rws ts 0):=by
 unfold mV
 rw[v3 hl hn ho hd [] [] [] (by rw[aT,du];exact hz)]
 show(if 1<=([]++ns).length/\([]++ns).length<=12 then _ else _)=_
 rw[ba,if_pos ⟨h1,h12⟩]
 rfl
theorem GH:Gp "(def " ["(","def"]:=by unfold Gp;decide+kernel
theorem GI {x:Str} {ts:List Str} (h:Gp x ts):Gp (x++"\n") ts:=by
 have e:(x++"\n").cps.toList=x.cps.toList++[10]:=jP x "\n"
 unfold Gp at*
 rw[e,T1.W_gap _ (.inr rfl)]
 refine⟨rfl,?_⟩
 have h2:T1.all (T1.W x.cps.toList)=(T1.W x.cps.toList).1:=by unfold T1.all;rw[if_pos h.1]
 show(T1.all (T1.W x.cps.toList)).map _=ts
 rw[h2]
 exact h.2
theorem E9 {ws:List Str} (hl:ws.length<=30000) (h:∀w∈ws,okW w):WOk ws:=⟨hl,fun x hx=>by
 obtain⟨a,b,c⟩:=h x hx
 exact⟨a,by lia,fun k hk=>by have:=c k hk;lia⟩⟩
mutual
def gF:Dt->Bool
 | .flat v=>(match v with| .int _=>true| .str _=>true|_=>false)
 | .tup ds=>decide (ds.length<=1000)&&gFs ds
 | .lst _=>false
def gFs:List Dt->Bool
 |[]=>true
 |d::ds=>gF d&&gFs ds
end
theorem va:∀{a b:List Dt},gFs a=true->gFs b=true->gFs (a++b)=true
 |[],_,_,h=>h
 |x::a,b,h,h'=>by rw[gFs,fV]at h;rw[aS,gFs,h.1,va h.2 h'];rfl
theorem C8:∀ps:List Nat,gFs (ps.map TM.Internal.kD)=true
 |[]=>by rw[aU,gFs]
 |k::ps=>by rw[aC,gFs,C8 ps];rfl
theorem Fb:∀l:List (Str×Nat),gFs (l.map fun p=>Dt.tup [TM.Internal.sD p.1,TM.Internal.kD p.2])=true
 |[]=>by rw[aU,gFs]
 |k::l=>by rw[aC,gFs,Fb l];rfl
theorem Fc:∀l:List ((Str×Str)×Nat),gFs (l.map fun p=>Dt.tup [TM.Internal.sD p.1.1,TM.Internal.sD p.1.2,TM.Internal.kD p.2])=true
 |[]=>by rw[aU,gFs]
 |k::l=>by rw[aC,gFs,Fc l];rfl
theorem p8 {ds:List Dt} (h:ds.length<=1000) (g:gFs ds=true):gF (.tup ds)=true:=by rw[gF,decide_eq_true h,g];rfl
theorem kP {d:Dt} {ds:List Dt} (h:gF d=true) (g:gFs ds=true):gFs (d::ds)=true:=by rw[gFs,h,g];rfl
theorem GJ {κ:TM.Internal.Kn} {ps:List Nat} (hp:ps.length<=100):gF (.tup (κ.rw ps))=true:=by
 have lk:(ps.map TM.Internal.kD).length=ps.length:=aD _
 have k1:=C8 ps
 have s1:∀s:Str,gF (TM.Internal.sD s)=true:=fun s=>rfl
 cases κ with
 |num n=>rfl
 |name w=>rfl
 |fn w=>exact p8 (by show(ps.map TM.Internal.kD).length+ 1+ 1<=1000;lia) (kP (s1 _) (kP (s1 _) k1))
 |tag w=>exact p8 (by show(ps.map TM.Internal.kD).length+ 1+ 1<=1000;lia) (kP (s1 _) (kP (s1 _) k1))
 |lt w=>exact p8 (by show(ps.map TM.Internal.kD).length+ 1+ 1<=1000;lia) (kP (s1 _) (kP (s1 _) k1))
 |get w=>exact p8 (by show(ps.map TM.Internal.kD++[TM.Internal.sD w]).length+ 1<=1000;rw[aO,lk];show ps.length+ 1+ 1<=1000;lia) (kP (s1 _) (va k1 rfl))
 |rcd l=>exact p8 (by show 2<=1000;decide) (kP (s1 _) (kP (p8 (by rw[aD,bT];lia) (Fb _)) rfl))
 |case l=>
  cases ps with
  |nil=>rfl
  |cons p ps=>
   rw[aA]at hp
   exact p8 (by show 3<=1000;decide) (kP (s1 _) (kP rfl (kP (p8 (by rw[aD,bT];lia) (Fc _)) rfl)))
 |row m=>exact p8 (by show 2<=1000;decide) (kP (s1 _) (kP (p8 (by rw[lk];lia) k1) rfl))
 |op s m=>exact p8 (by show(ps.map TM.Internal.kD).length+ 1<=1000;lia) (kP (s1 _) k1)
mutual
theorem Fe {K:PySem.W.Frag} {H:Hp}:∀{x:V} {d:Dt},TAt K H x d->gF d=true->Im H x d
 |_,_,.flat h,g=> .flat (by
   rename_i v
   cases v with
   |int n=>rfl
   |str z=>rfl
   |_=>simp[gF]at g)
 |_,_,.tup h hs,g=>by
  rw[gF,fV]at g
  exact .tup h (oQ hs g.2)
theorem oQ {K:PySem.W.Frag} {H:Hp}:∀{xs:List V} {ds:List Dt},lM K H xs ds->gFs ds=true->Ims H xs ds
 |_,_,.nil,_=> .nil
 |_,_,.cons h t,g=>by
  rw[gFs,fV]at g
  exact .cons (Fe h g.1) (oQ t g.2)
end
theorem Ff {H:Hp}:∀{ps:List Nat} {xs:List V},Ims H xs (ps.map TM.Internal.kD)->xs=ps.map fun k:Nat=>V.int (k:Int)
 |[],xs,h=>by cases h;rfl
 |p::ps,xs,h=>by
  rw[aC,TM.Internal.kD]at h
  cases h with
  |cons h t=>
   cases h
   rw[Ff t]
   rfl
theorem Fg:∀p∈TM.Internal.ops,p.1.length<=100/\p.2<=3:=by decide+kernel
theorem GK {κ:TM.Internal.Kn} {ks:List TM.Internal.Tr} (h:(TM.Internal.Tr.mk κ ks).ok):ks.length<=100:=by
 rw[TM.Internal.Tr.ok]at h
 obtain⟨h1,h2,_⟩:=h
 rw[h2]
 cases κ with
 |rcd l=>have:l.length<=6:=h1.1;show l.length<=100;lia
 |case l=>have:l.length<=6:=h1.2.1;show l.length+ 1<=100;lia
 |row m=>have:m<=8:=h1;show m<=100;lia
 |op s m=>have:m<=3:=(Fg (s,m) h1).2;show m<=100;lia
 |num n=>show 0<=100;lia
 |name w=>show 0<=100;lia
 |fn w=>show 1<=100;lia
 |tag w=>show 1<=100;lia
 |lt w=>show 2<=100;lia
 |get w=>show 1<=100;lia
mutual
theorem g_rw:∀(t:TM.Internal.Tr) (p:Nat),t.ok->gFs (t.rw p)=true
 | .mk κ ks,p,h=>by
  have hl:=GK h
  rw[TM.Internal.Tr.ok]at h
  rw[TM.Internal.Tr.rw]
  exact kP (GJ (by rw[TM.Internal.offs_len];exact hl)) (C9 ks (p+ 1) h.2.2)
theorem C9:∀(ts:List TM.Internal.Tr) (p:Nat),TM.Internal.oks ts->gFs (TM.Internal.rws ts p)=true
 |[],p,_=>by rw[TM.Internal.rws,gFs]
 |t::ts,p,h=>by
  rw[TM.Internal.oks]at h
  rw[TM.Internal.rws]
  exact va (g_rw t p h.1) (C9 ts _ h.2)
end
abbrev Df:=Str×Str×TM.Internal.Tr
structure GL (p:Df):Prop where
 nm:isName p.1=true
 gi:Gi p.2.1 p.2.2.tk (70*p.2.2.sz) (8*p.2.2.sz)
def dwr (l:List Df):Str:=Str.join "\n" (l.map fun p=>dfS p.1 p.2.1)
def Bs (l:List Df):List Str:=AQ (l.map fun p=>p.1) (l.map fun p=>p.2.2)
theorem Fh {p:Df} (h:GL p):Gp (dfS p.1 p.2.1) (dtk p.1 p.2.2)/\(dfS p.1 p.2.1).length<=20+ 70*p.2.2.sz/\(dtk p.1 p.2.2).length<=4+ 8*p.2.2.sz/\∀w∈dtk p.1 p.2.2,okW w:=by
 have gn:=r6 h.nm
 have kg:=h.gi
 refine⟨((GH.app_op gn.op).gap.app_op kg.op).close,?_,?_,fun w hw=>?_⟩
 ·have h1:=gn.ln
  have h2:=kg.ln
  unfold dfS
  rw[Str.length_append,Str.length_append,Str.length_append,Str.length_append,vZ.1,xq.2.1,xq.2.2.1]
  lia
 ·have:=kg.wl
  unfold dtk
  rw[aA,aA,aA,aO,a9]
  lia
 ·unfold dtk at hw
  rcases aj.mp hw with e|hw
  ·rw[e];exact tX.1
  ·rcases aj.mp hw with e|hw
   ·rw[e];exact tX.2.2.2.2
   ·rcases aj.mp hw with e|hw
    ·rw[e];exact gn.ok p.1 (bg.mpr rfl)
    ·rcases ao.mp hw with hw|hw
     ·exact kg.ok w hw
     ·rw[bg.mp hw];exact tX.2.1
def dsz (l:List Df):Nat:=TM.Internal.szs (l.map fun p=>p.2.2)
theorem Bt:∀{l:List Df},(∀p∈l,GL p)->Gp (dwr l) (Bs l)/\(dwr l).length<=21*l.length+ 70*dsz l/\(Bs l).length<=4*l.length+ 8*dsz l/\∀w∈Bs l,okW w
 |[],_=>⟨by unfold Gp dwr;decide+kernel,c8 _,c8 _,fun w hw=>by cases hw⟩
 |[p],h=>by
  obtain⟨a,b,c,d⟩:=Fh (h p ah)
  have e1:Bs [p]=dtk p.1 p.2.2:=by show dtk p.1 p.2.2++[]=_;rw[aE]
  have e2:dsz [p]=p.2.2.sz:=by show TM.Internal.szs [p.2.2]=_;rw[TM.Internal.szs,TM.Internal.szs];rfl
  rw[e1,e2]
  exact⟨a,by show(dfS p.1 p.2.1).length<=21*1+_;lia,by show _<=4*1+_;lia,d⟩
 |p::p'::l,h=>by
  obtain⟨a,b,c,d⟩:=Fh (h p ah)
  obtain⟨a',b',c',d'⟩:=Bt (l:=p'::l) fun x hx=>h x (ai _ hx)
  have e1:Bs (p::p'::l)=dtk p.1 p.2.2++Bs (p'::l):=rfl
  have e2:dwr (p::p'::l)=dfS p.1 p.2.1++"\n"++dwr (p'::l):=rfl
  have e3:dsz (p::p'::l)=p.2.2.sz+dsz (p'::l):=by show TM.Internal.szs (p.2.2::_)=_;rw[TM.Internal.szs];rfl
  rw[e1,e2,e3]
  refine⟨(GI a).app a',?_,?_,fun w hw=>?_⟩
  ·rw[Str.length_append,Str.length_append,vZ.2,aA]
   lia
  ·rw[aO,aA]
   lia
  ·rcases ao.mp hw with hw|hw
   ·exact d w hw
   ·exact d' w hw
def nms (ws:List Str) (n:Nat):List Str:=(aa n).map fun i=>ws.getD (3+i) ""
def dfl (ws:List Str) (W:List Int) (ds:List (List Qt)):List Df:=(aa W.length).map fun i=>(ws.getD (3+i) "",(ja ws W (ds.getD i [])).x,trQ ws (ds.getD i []))
section
variable {ws:List Str} {W:List Int} {ds:List (List Qt)} {dn:Nat} {txs:List Str}
theorem Md.at (m:Md ws W ds dn txs) {i:Nat} (hi:i<W.length):ds[i]?=some (ds.getD i []):=by
 have:=m.l
 rw[bo,bx (by lia)]
 rfl
theorem Md.txt (m:Md ws W ds dn txs):txs=(dfl ws W ds).map fun p=>dfS p.1 p.2.1:=by
 have tl:=m.tl
 refine bE fun i=>?_
 by_cases hi:i<W.length
 ·rw[(m.ix i _ (m.at hi)).2.2.2.2,dfl,bA,aM,cH hi]
  rfl
 ·rw[bF (by lia),bF (by rw[aD,dfl,aD,cb];lia)]
theorem Md.trs (m:Md ws W ds dn txs):(dfl ws W ds).map (fun p=>p.2.2)=ds.map (trQ ws):=by
 have l:=m.l
 refine bE fun i=>?_
 by_cases hi:i<W.length
 ·rw[dfl,bA,aM,cH hi,aM,m.at hi]
  rfl
 ·rw[bF (by rw[aD,dfl,aD,cb];lia),bF (by rw[aD];lia)]
theorem Dc:(dfl ws W ds).map (fun p=>p.1)=nms ws W.length:=by rw[dfl,bA];rfl
theorem Md.dok (hw:Ws ws) (m:Md ws W ds dn txs) (h12:W.length<=12):∀p∈dfl ws W ds,GL p/\p.2.2.ok/\p.2.2.nest<=24:=fun p hp=>by
 obtain⟨i,hi,rfl⟩:=bb.mp hp
 have hi:=af.mp hi
 obtain⟨a,b,c,d,e⟩:=m.ix i _ (m.at hi)
 have k:=tY hw (n:=i) (by lia) (W:=W) a b
 exact⟨⟨(hw.at (i:=3+i) (by lia)).2,k.gi⟩,k.ok,by rw[<-k.n];exact d⟩
theorem Bu:∀{ts:List TM.Internal.Tr},(∀t∈ts,t.ok)->TM.Internal.oks ts
 |[],_=>by rw[TM.Internal.oks];trivial
 |t::ts,h=>by rw[TM.Internal.oks];exact⟨h t ah,Bu fun x hx=>h x (ai _ hx)⟩
theorem Md.read (hw:Ws ws) (m:Md ws W ds dn txs) (h1:1<=W.length) (h12:W.length<=12) (hd:dn<=140):
  (Str.join "\n" txs).length<=30000/\WOk (toks (Str.join "\n" txs))/\mV (toks (Str.join "\n" txs))=some (nms ws W.length,(TM.Internal.offs (ds.map (trQ ws)) 0).map TM.Internal.kD,TM.Internal.rws (ds.map (trQ ws)) 0)/\TM.Internal.oks (ds.map (trQ ws)):=by
 have ok:=m.dok hw h12
 obtain⟨a,b,c,d⟩:=Bt fun p hp=>(ok p hp).1
 have e:Str.join "\n" txs=dwr (dfl ws W ds):=by rw[m.txt];rfl
 have ez:dsz (dfl ws W ds)=dn:=by unfold dsz;rw[m.trs,m.sm]
 have el:(dfl ws W ds).length=W.length:=by rw[dfl,aD,cb]
 have et:toks (dwr (dfl ws W ds))=AQ (nms ws W.length) (ds.map (trQ ws)):=by
  have:=a.op
  unfold Bs at this
  rw[Dc,m.trs]at this
  exact this
 have oks:TM.Internal.oks (ds.map (trQ ws)):=by rw[<-m.trs];exact Bu fun t ht=>by obtain⟨p,hp,rfl⟩:=bb.mp ht;exact(ok p hp).2.1
 have nl:(nms ws W.length).length=W.length:=by rw[nms,aD,cb]
 rw[e]
 refine⟨by lia,?_,?_,oks⟩
 ·rw[show toks (dwr (dfl ws W ds))=Bs (dfl ws W ds)from a.op]
  exact E9 (by lia) d
 ·rw[et]
  refine AR (by rw[nl,aD,m.l]) (fun n hn=>?_) oks (fun t ht=>?_) (by rw[m.sm];lia) (by lia) (by lia)
  ·obtain⟨i,hi,rfl⟩:=bb.mp hn
   exact(hw.at (i:=3+i) (by have:=af.mp hi;lia)).2
  ·rw[<-m.trs]at ht
   obtain⟨p,hp,rfl⟩:=bb.mp ht
   exact(ok p hp).2.2
end
def kn:TM.Internal.Kn->Kn
 | .num n=> .num n
 | .name w=> .name w
 | .row m=> .row m
 | .lt w=> .lt w
 |_=> .num 0
def knS:TM.Internal.Kn->Prop
 | .num _=>True
 | .name _=>True
 | .row m=>m<=8
 | .lt _=>True
 |_=>False
mutual
def Sm:TM.Internal.Tr->Prop
 | .mk κ ks=>knS κ/\ks.length=(kn κ).ho.length/\Sms ks
def Sms:List TM.Internal.Tr->Prop
 |[]=>True
 |t::ts=>Sm t/\Sms ts
end
mutual
def nds:TM.Internal.Tr->Nat->List (Str×Hm)->List Nd
 | .mk κ ks,p,out=>⟨kn κ,TM.Internal.offs ks (p+ 1),out⟩::se ks (kn κ).ho (p+ 1) (p+ 1) out
def se:List TM.Internal.Tr->List Hol->Nat->Nat->List (Str×Hm)->List Nd
 |[],_,_,_,_=>[]
 |t::ts,hs,f,q,out=>nds t q (out++exL (f:Int) (q:Int) (hs.headD p0))++se ts hs.tail f (q+t.sz) out
end
def hwd (h:Hol):List Str:=match h.1 with
 |none=>[]
 |some w=>[w]
mutual
def Scp:TM.Internal.Tr->List Str->Prop
 | .mk κ ks,sc=>(∀w,κ= .name w->w∈sc)/\uc ks (kn κ).ho sc
def uc:List TM.Internal.Tr->List Hol->List Str->Prop
 |[],_,_=>True
 |t::ts,hs,sc=>Scp t (sc++hwd (hs.headD p0))/\uc ts hs.tail sc
end
theorem Dd (f q:Int) (h:Hol):(exL f q h).map Prod.fst=hwd h:=by
 obtain⟨a,b⟩:=h
 cases a<;>rfl
mutual
theorem mI:∀(t:TM.Internal.Tr) (p:Nat) (out:List (Str×Hm)),(nds t p out).length=t.sz
 | .mk κ ks,p,out=>by rw[nds,aA,v5,TM.Internal.Tr.sz];lia
theorem v5:∀(ts:List TM.Internal.Tr) (hs:List Hol) (f q:Nat) (out:List (Str×Hm)),(se ts hs f q out).length=TM.Internal.szs ts
 |[],hs,f,q,out=>by rw[se,TM.Internal.szs];rfl
 |t::ts,hs,f,q,out=>by rw[se,aO,mI,v5,TM.Internal.szs]
end
theorem Fi:∀t:TM.Internal.Tr,1<=t.sz
 | .mk κ ks=>by rw[TM.Internal.Tr.sz];lia
theorem zq:∀ts:List TM.Internal.Tr,ts.length<=TM.Internal.szs ts
 |[]=>c8 _
 |t::ts=>by rw[TM.Internal.szs,aA];have:=zq ts;have:=Fi t;lia
theorem Fj {κ:TM.Internal.Kn} (h:knS κ):(kn κ).ok/\(kn κ).ho.length<=8:=by
 cases κ with
 |num n=>exact⟨trivial,c8 _⟩
 |name w=>exact⟨trivial,c8 _⟩
 |row m=>
  have h:m<=8:=h
  exact⟨by show m<=100;lia,by show(aH m p0).length<=8;rw[aP];exact h⟩
 |lt w=>exact⟨trivial,by show 2<=8;decide⟩
 |_=>exact h.elim
theorem De {κ:TM.Internal.Kn} {w:Str} (h:knS κ) (e:kn κ= .name w):κ= .name w:=by
 cases κ with
 |name v=>cases e;rfl
 |num n=>cases e
 |row m=>cases e
 |lt v=>cases e
 |_=>exact h.elim
theorem AS (A B:List Nd) (κ:Kn) (done:List Nat) (out:List (Str×Hm)) (q:Nat):oy (A++⟨κ,done,out⟩::B) A.length q=A++⟨κ,done++[q],out⟩::B:=by
 refine bE fun k=>?_
 unfold oy
 rw[cw]
 by_cases h:k<A.length
 ·rw[aK h,aK h]
  cases A[k]? with
  |none=>rfl
  |some x=>show some (if A.length=k then _ else _)=_;rw[if_neg (by lia)]
 ·rw[aJ (by lia),aJ (by lia)]
  cases e:k-A.length with
  |zero=>show some (if A.length=k then _ else _)=_;rw[if_pos (by lia)];rfl
  |succ z=>
   rw[bC,bC]
   cases B[z]? with
   |none=>rfl
   |some x=>show some (if A.length=k then _ else _)=_;rw[if_neg (by lia)]
section
variable {names:List Str} {roots:List Nat}
mutual
theorem place:∀(t:TM.Internal.Tr),Sm t->∀{L:List Nd} {T:List Td} {td:Td} {p:Nat} {nd:Nd} {out:List (Str×Hm)},MI names roots L (td::T)->td.par=(p:Int)->L[p]?=some nd->out=td.held++exL ((p+ 1:Nat):Int) (L.length:Int) td.ho->Scp t (out.map Prod.fst)->L.length+t.sz+T.length<=141->MI names roots (oy L p L.length++nds t L.length out) T
 | .mk κ ks,sm,L,T,td,p,nd,out,m,tp,hp,ho,sc,hs=>by
  rw[Sm]at sm
  rw[Scp]at sc
  rw[TM.Internal.Tr.sz]at hs
  obtain⟨kok,k8⟩:=Fj sm.1
  have m2:=m.kidStep (κ:=kn κ) (dep:=0) tp hp kok k8 (fun _=>by lia) ho (fun w e=>sc.1 w (De sm.1 e))
  have la:(oy L p L.length).length=L.length:=iZ _ _ _
  have m3:=vb ks sm.2.2 (A:=oy L p L.length) (B:=[]) (κ:=kn κ) (done:=[]) (out:=out) (hs:=(kn κ).ho) (T0:=T) (dep:=0) sm.2.1 (by rw[la];exact m2) sc.2 (by rw[aO,la];show L.length+ 1+_+_<=141;lia)
  have lb:(oy L p L.length++[(⟨kn κ,[],out⟩:Nd)]).length=L.length+ 1:=by rw[aO,la];rfl
  rw[lb,la,ba,ba]at m3
  rw[nds]
  exact m3
theorem vb:∀(ks:List TM.Internal.Tr),Sms ks->∀{A B:List Nd} {κ:Kn} {done:List Nat} {out:List (Str×Hm)} {hs:List Hol} {T0:List Td} {dep:Int},ks.length=hs.length->MI names roots (A++⟨κ,done,out⟩::B) ((hs.zipIdx done.length).map (fun p=>(⟨out,p.1,(A.length:Int),dep,p.2⟩:Td))++T0)->uc ks hs (out.map Prod.fst)->(A++(⟨κ,done,out⟩:Nd)::B).length+TM.Internal.szs ks+T0.length<=141->
  MI names roots (A++⟨κ,done++TM.Internal.offs ks (A++(⟨κ,done,out⟩:Nd)::B).length,out⟩::(B++se ks hs (A.length+ 1) (A++(⟨κ,done,out⟩:Nd)::B).length out)) T0
 |[],_,A,B,κ,done,out,hs,T0,dep,hl,m,sc,hz=>by
  have e:hs=[]:=bS hl.symm
  subst e
  rw[TM.Internal.offs,se,aE,aE]
  exact m
 |t::ts,sm,A,B,κ,done,out,hs,T0,dep,hl,m,sc,hz=>by
  cases hs with
  |nil=>cases hl
  |cons h hs=>
   rw[Sms]at sm
   rw[uc]at sc
   rw[TM.Internal.szs]at hz
   rw[List.zipIdx_cons,aC,aS]at m
   have lts:=zq ts
   have hl':ts.length=hs.length:=by simpa using hl
   have hp:(A++(⟨κ,done,out⟩:Nd)::B)[A.length]?=some ⟨κ,done,out⟩:=by rw[aJ (c7 _),dw];rfl
   have m2:=place t sm.1 m rfl hp rfl (by rw[bh,Dd];exact sc.1) (by rw[aO (as:=List.map _ _),aD,List.length_zipIdx];lia)
   rw[AS,a8,aS]at m2
   generalize hq:(A++(⟨κ,done,out⟩:Nd)::B).length=q at*
   have lq:(A++(⟨κ,done++[q],out⟩:Nd)::(B++nds t q (out++exL ((A.length+ 1:Nat):Int) (q:Int) h))).length=q+t.sz:=by
    rw[<-hq,aO,aO,aA,aA,aO,mI]
    lia
   have m3:=vb ts sm.2 (A:=A) (B:=B++nds t q (out++exL ((A.length+ 1:Nat):Int) (q:Int) h)) (κ:=κ) (done:=done++[q]) (out:=out) (hs:=hs) (T0:=T0) (dep:=dep) hl' (by rw[aO,a9];exact m2) sc.2 (by rw[lq];lia)
   rw[lq]at m3
   rw[TM.Internal.offs,se]
   rw[a8,bQ,a8]at m3
   exact m3
end
end
def ndP (ns:List Str):List TM.Internal.Tr->Nat->Nat->List Nd
 |[],_,_=>[]
 |t::ts,i,p=>nds t p (defs ns i)++ndP ns ts (i+ 1) (p+t.sz)
theorem v7 (ns:List Str) (t:TM.Internal.Tr):∀(ts:List TM.Internal.Tr) (i p:Nat),ndP ns (ts++[t]) i p=ndP ns ts i p++nds t (p+TM.Internal.szs ts) (defs ns (i+ts.length))
 |[],i,p=>by rw[ba,ndP,ndP,ndP,TM.Internal.szs,aE];rfl
 |x::ts,i,p=>by
  rw[aS,ndP,ndP,v7 ns t ts,a8,TM.Internal.szs,aA,dA,show i+ 1+ts.length=i+(ts.length+ 1) by lia]
theorem zr (ns:List Str):∀(ts:List TM.Internal.Tr) (i p:Nat),(ndP ns ts i p).length=TM.Internal.szs ts
 |[],i,p=>by rw[ndP,TM.Internal.szs];rfl
 |x::ts,i,p=>by rw[ndP,aO,mI,zr ns ts,TM.Internal.szs]
theorem vd:∀(ts:List TM.Internal.Tr) (p k:Nat),k<ts.length->(TM.Internal.offs ts p)[k]?=some (p+TM.Internal.szs (ts.take k))
 |t::ts,p,0,_=>by rw[TM.Internal.offs,ck,TM.Internal.szs];rfl
 |t::ts,p,k+ 1,h=>by
  rw[TM.Internal.offs,bC,vd ts _ k (by simpa using h),cg,TM.Internal.szs,dA]
theorem AU (ts:List TM.Internal.Tr) (k:Nat):TM.Internal.szs (ts.take k)<=TM.Internal.szs ts:=by
 have:=r8 (ts.take k) (ts.drop k)
 rw[cf]at this
 lia
theorem Bv {ns:List Str} {ts:List TM.Internal.Tr} (h12:ns.length<=12) (hl:ns.length=ts.length) (hz:TM.Internal.szs ts<=140) (hr:∀k t,ts[k]?=some t->Sm t/\(∃m ks,t= .mk (.row m) ks)/\Scp t ((defs ns k).map Prod.fst)):
  ∀k,k<=ts.length->MI (ns.take k) ((TM.Internal.offs ts 0).take k) (ndP ns (ts.take k) 0 0) []
 |0,_=>by rw[ck,ck,ck,ndP];exact MI.nil
 |k+ 1,hk=>by
  have m:=Bv h12 hl hz hr k (by lia)
  have ht:ts[k]?=some (ts[k]'(by lia)):=bx _
  have hn:ns[k]?=some (ns[k]'(by lia)):=bx _
  generalize ts[k]'(by lia)=t at ht
  generalize ns[k]'(by lia)=x at hn
  obtain⟨sm,⟨mm,ks,rfl⟩,sc⟩:=hr k t ht
  have e1:ts.take (k+ 1)=ts.take k++[.mk (.row mm) ks]:=by rw[bJ,ht];rfl
  have e2:ns.take (k+ 1)=ns.take k++[x]:=by rw[bJ,hn];rfl
  have e3:(TM.Internal.offs ts 0).take (k+ 1)=(TM.Internal.offs ts 0).take k++[TM.Internal.szs (ts.take k)]:=by rw[bJ,vd ts 0 k (by lia),du];rfl
  have ll:(ndP ns (ts.take k) 0 0).length=TM.Internal.szs (ts.take k):=zr _ _ _ _
  have hz2:=AU ts (k+ 1)
  rw[e1,r8,TM.Internal.szs,TM.Internal.szs,TM.Internal.Tr.sz]at hz2
  have nl:(ns.take k).length=k:=by rw[aI];lia
  have ed:defs (ns.take k) k=defs ns k:=by
   have:=rO (ns.take k) (ns.drop k) k (by lia)
   rw[cf]at this
   exact this.symm
  rw[Sm]at sm
  rw[Scp]at sc
  obtain⟨kok,k8⟩:=Fj sm.1
  have m2:=MI.rootStep (κ:=kn (.row mm)) (x:=x) (dep:=0) (out:=defs ns k) m (by lia) (by lia) kok k8 (fun w e=>nomatch e) (by rw[nl,ed];show _=_++[];rw[aE])
  have m3:=vb ks sm.2.2 (A:=ndP ns (ts.take k) 0 0) (B:=[]) (κ:=kn (.row mm)) (done:=[]) (out:=defs ns k) (hs:=(kn (.row mm)).ho) (T0:=[]) (dep:=0) sm.2.1 (by rw[aE];exact m2) sc.2 (by rw[aO,ll];show _+ 1+_+ 0<=141;lia)
  have lb:(ndP ns (ts.take k) 0 0++[(⟨kn (.row mm),[],defs ns k⟩:Nd)]).length=TM.Internal.szs (ts.take k)+ 1:=by rw[aO,ll];rfl
  rw[lb,ba,ba,ll]at m3
  have lt:(ts.take k).length=k:=by rw[aI];lia
  rw[e1,e2,e3,v7,du,du,lt,nds]
  exact m3
theorem Fm {κ:TM.Internal.Kn} {ps:List Nat} {out:List (Str×Hm)} (h:knS κ) (hl:ps.length=(kn κ).ho.length):(Nd.mk (kn κ) ps out).ro.d= .tup (κ.rw ps):=by
 cases κ with
 |num n=>rfl
 |name w=>rfl
 |row m=>
  show Dt.tup [sD "row",.tup ((ps.map fun k:Nat=>(k:Int)).map kD)]=_
  rw[bA]
  rfl
 |lt w=>
  have hl:ps.length=2:=hl
  match ps,hl with
  |[a,b],_=>rfl
 |_=>exact h.elim
mutual
theorem Bw:∀(t:TM.Internal.Tr) (p:Nat) (out:List (Str×Hm)),Sm t->(nds t p out).map (fun nd=>nd.ro.d)=t.rw p
 | .mk κ ks,p,out,h=>by
  rw[Sm]at h
  rw[nds,aC,TM.Internal.Tr.rw,zt ks _ _ _ _ h.2.2,Fm h.1 (by rw[TM.Internal.offs_len];exact h.2.1)]
theorem zt:∀(ts:List TM.Internal.Tr) (hs:List Hol) (f q:Nat) (out:List (Str×Hm)),Sms ts->(se ts hs f q out).map (fun nd=>nd.ro.d)=TM.Internal.rws ts q
 |[],hs,f,q,out,h=>by rw[se,TM.Internal.rws];rfl
 |t::ts,hs,f,q,out,h=>by
  rw[Sms]at h
  rw[se,bh,Bw t _ _ h.1,zt ts _ _ _ _ h.2,TM.Internal.rws]
end
theorem Bx (ns:List Str):∀(ts:List TM.Internal.Tr) (i p:Nat),(∀t∈ts,Sm t)->(ndP ns ts i p).map (fun nd=>nd.ro.d)=TM.Internal.rws ts p
 |[],i,p,_=>by rw[ndP,TM.Internal.rws];rfl
 |t::ts,i,p,h=>by rw[ndP,bh,Bw t _ _ (h t ah),Bx ns ts _ _ fun x hx=>h x (ai _ hx),TM.Internal.rws]
def Seg (L:List Nd) (p:Nat) (l:List Nd):Prop:=∀i nd,l[i]?=some nd->L[p+i]?=some nd
theorem Seg.hd {L:List Nd} {p:Nat} {x:Nd} {l:List Nd} (h:Seg L p (x::l)):L[p]?=some x:=h 0 x rfl
theorem Seg.tl {L:List Nd} {p:Nat} {x:Nd} {l:List Nd} (h:Seg L p (x::l)):Seg L (p+ 1) l:=fun i nd e=>by
 have:=h (i+ 1) nd (by rw[bC];exact e)
 rwa[show p+(i+ 1)=p+ 1+i by lia]at this
theorem Seg.l {L:List Nd} {p:Nat} {a b:List Nd} (h:Seg L p (a++b)):Seg L p a:=fun i nd e=>h i nd (by rw[aK (au.mp e).1];exact e)
theorem Seg.r {L:List Nd} {p:Nat} {a b:List Nd} (h:Seg L p (a++b)):Seg L (p+a.length) b:=fun i nd e=>by
 have:=h (a.length+i) nd (by rw[aJ (by lia),Nat.add_sub_cancel_left];exact e)
 rwa[<-dA]at this
section
variable {names:List Str} {roots:List Nat} {L:List Nd}
theorem p9 (m:MI names roots L []) {p:Nat} {κ:Kn} {ks:List Nat} {out:List (Str×Hm)} (h:L[p]?=some ⟨κ,ks,out⟩) (hk:∀w,κ≠ .name w):Wt roots L p=1+(ks.map (Wt roots L)).sum:=by
 refine m.Wt_none h ?_
 rw[rS h]
 cases κ with
 |name w=>exact absurd rfl (hk w)
 |_=>rfl
theorem By {w:Str} {out:List (Str×Hm)} {z:Int} (hz:∀c,L[c]?=some ⟨.name w,[],out⟩->Wt roots L c=z):∀(m f q:Nat),Seg L q (se (aH m (.mk (.name w) [])) (aH m p0) f q out)->((TM.Internal.offs (aH m (.mk (.name w) [])) q).map (Wt roots L)).sum=m*z
 |0,f,q,_=>by rw[cP,TM.Internal.offs];simp
 |m+ 1,f,q,h=>by
  have s1:(TM.Internal.Tr.mk (.name w) []).sz=1:=by rw[TM.Internal.Tr.sz,TM.Internal.szs]
  rw[a6,a6,se]at h
  have h1:=h.l
  have h2:=h.r
  rw[mI,s1]at h2
  rw[nds]at h1
  have h1:=h1.hd
  rw[TM.Internal.offs]at h1
  have h1:L[q]?=some ⟨.name w,[],out++[]⟩:=h1
  rw[aE]at h1
  rw[a6,TM.Internal.offs,aC,cE,hz q h1,s1,By hz m f (q+ 1) h2,Int.natCast_succ,Int.add_mul,Int.one_mul,Int.add_comm]
variable {ws:List Str} {W:List Int} {out:List (Str×Hm)} {i r0:Nat}
mutual
theorem wq (m:MI names roots L []) (hr:roots[i]?=some r0) (hW:∀d,d<i->∃r,roots[d]?=some r/\Wt roots L r=W.getD d 0) (ho:∀d,d<i->look out (ws.getD (3+d) "")=some (("def":Str),(d:Int))):∀(q:Qt) (p:Nat),q.gd i->r0<=p->Seg L p (nds (q.tr ws) p out)->Wt roots L p=(q.itm ws W).w
 | .num n,p,g,hp,h=>by
  rw[Qt.tr,nds,TM.Internal.offs]at h
  rw[Qt.itm,p9 m h.hd (fun w e=>nomatch e)]
  simp
 | .dn d,p,g,hp,h=>by
  rw[Qt.gd]at g
  rw[Qt.tr,nds,TM.Internal.offs]at h
  have hd:=h.hd
  have due:uU L p=some (("def":Str),(d:Int)):=by rw[rS hd];exact ho d g
  obtain⟨r,hr1,hw⟩:=hW d g
  have ci:=(m.cnt (p+ 1) i).mpr ⟨r0,hr,by lia⟩
  rw[Qt.itm,m.Wt_some due,Bl due rfl rfl hr1 (by lia)]
  show 1+Wt roots L r=1+W.getD d 0
  rw[hw]
 | .row ks,p,g,hp,h=>by
  rw[Qt.gd]at g
  rw[Qt.tr,nds]at h
  rw[Qt.itm,p9 m h.hd (fun w e=>nomatch e)]
  show _=1+((jK ws W ks).map (·.w)).sum
  rw[wqs m hr hW ho ks ks.length (p+ 1) (p+ 1) g.2 (by lia) h.tl]
 | .lt j ks k,p,g,hp,h=>by
  rw[Qt.gd]at g
  rw[Qt.tr,nds]at h
  have h0:=h.hd
  have h1:=h.tl
  rw[se,se,se]at h1
  have hE:=h1.l
  have hB:=h1.r.l
  rw[mI]at hB
  have e0:(kn (TM.Internal.Kn.lt (ws.getD j ""))).ho.headD p0=p0:=rfl
  have e1:(kn (TM.Internal.Kn.lt (ws.getD j ""))).ho.tail.headD p0=(some (ws.getD j ""),("let":Str)):=rfl
  rw[e0]at hE
  rw[e1]at hB
  have hE:Seg L (p+ 1) (nds (.mk (.row ks.length) (trs ws ks)) (p+ 1) (out++[])):=hE
  rw[aE,nds]at hE
  have wE:Wt roots L (p+ 1)=(i9 (jK ws W ks)).w:=by
   rw[p9 m hE.hd (fun w e=>nomatch e)]
   show _=1+((jK ws W ks).map (·.w)).sum
   rw[wqs m hr hW ho ks ks.length (p+ 1+ 1) (p+ 1+ 1) g.2.2.2 (by lia) hE.tl]
  have hB:Seg L (p+ 1+(TM.Internal.Tr.mk (.row ks.length) (trs ws ks)).sz) (nds (.mk (.row k) (aH k (.mk (.name (ws.getD j "")) []))) (p+ 1+(TM.Internal.Tr.mk (.row ks.length) (trs ws ks)).sz) (out++[(ws.getD j "",(("let":Str),((p+ 1:Nat):Int)))])):=hB
  rw[nds]at hB
  have wB:Wt roots L (p+ 1+(TM.Internal.Tr.mk (.row ks.length) (trs ws ks)).sz)=1+k*(1+(i9 (jK ws W ks)).w):=by
   rw[p9 m hB.hd (fun w e=>nomatch e)]
   rw[By (z:=1+(i9 (jK ws W ks)).w) (fun c hc=>?_) k _ _ hB.tl]
   have due:uU L c=some (("let":Str),((p+ 1:Nat):Int)):=by
    rw[rS hc]
    show look (out++[(ws.getD j "",(("let":Str),((p+ 1:Nat):Int)))]) (ws.getD j "")=_
    rw[mG]
    unfold wid
    rw[if_pos rfl]
   rw[m.Wt_some due,Bk due rfl rfl]
   show 1+Wt roots L (p+ 1)=_
   rw[wE]
  rw[Qt.itm,p9 m h0 (fun w e=>nomatch e),TM.Internal.offs,TM.Internal.offs,TM.Internal.offs,aC,aC,aU,cE,cE,List.sum_nil,wE,wB]
  show _=1+(i9 (jK ws W ks)).w+(1+((aH k (⟨ws.getD j "",1+(i9 (jK ws W ks)).w,1,1⟩:Itm)).map (·.w)).sum)
  rw[cK,zg]
  show _=1+(i9 (jK ws W ks)).w+(1+(k:Int)*(1+(i9 (jK ws W ks)).w))
  lia
theorem wqs (m:MI names roots L []) (hr:roots[i]?=some r0) (hW:∀d,d<i->∃r,roots[d]?=some r/\Wt roots L r=W.getD d 0) (ho:∀d,d<i->look out (ws.getD (3+d) "")=some (("def":Str),(d:Int))):∀(qs:List Qt) (n f q:Nat),gds i qs->r0<=q->Seg L q (se (trs ws qs) (aH n p0) f q out)->((TM.Internal.offs (trs ws qs) q).map (Wt roots L)).sum=((jK ws W qs).map (·.w)).sum
 |[],n,f,q,_,_,_=>by rw[trs,TM.Internal.offs,jK];rfl
 |k::ks,n,f,q,g,hq,h=>by
  rw[gds]at g
  rw[trs,se]at h
  have e0:(aH n p0).headD p0=p0:=by cases n<;>rfl
  have e1:(aH n p0).tail=aH (n-1) p0:=by cases n<;>rfl
  rw[e0,e1]at h
  have h1:=h.l
  have h2:=h.r
  rw[mI]at h2
  have h1:Seg L q (nds (k.tr ws) q (out++[])):=h1
  rw[aE]at h1
  rw[trs,TM.Internal.offs,jK,aC,cE,aC,cE,wq m hr hW ho k q g.1 hq h1,wqs m hr hW ho ks (n-1) f _ g.2 (by lia) h2]
end
end
mutual
theorem Dg {ws:List Str} {n:Nat}:∀q:Qt,q.gd n->Sm (q.tr ws)
 | .num k,g=>by rw[Qt.tr,Sm,Sms];exact⟨trivial,rfl,trivial⟩
 | .dn d,g=>by rw[Qt.tr,Sm,Sms];exact⟨trivial,rfl,trivial⟩
 | .row ks,g=>by
  rw[Qt.gd]at g
  rw[Qt.tr,Sm]
  exact⟨g.1,by rw[me];exact(aP ..).symm,zu ks g.2⟩
 | .lt j ks m,g=>by
  rw[Qt.gd]at g
  rw[Qt.tr,Sm,Sms,Sms,Sms,Sm,Sm]
  have rp:∀m,Sms (aH m (.mk (.name (ws.getD j "")) [])):=fun m=>by
   induction m with
   |zero=>rw[cP,Sms];trivial
   |succ m ih=>rw[a6,Sms,Sm,Sms];exact⟨⟨trivial,rfl,trivial⟩,ih⟩
  refine⟨trivial,rfl,⟨g.2.1,by rw[me];exact(aP ..).symm,zu ks g.2.2.2⟩,⟨?_,by rw[aP];exact(aP ..).symm,rp m⟩,trivial⟩
  show m<=8
  lia
theorem zu {ws:List Str} {n:Nat}:∀qs:List Qt,gds n qs->Sms (trs ws qs)
 |[],_=>by rw[trs,Sms];trivial
 |q::qs,g=>by rw[gds]at g;rw[trs,Sms];exact⟨Dg q g.1,zu qs g.2⟩
end
mutual
theorem Fn {ws:List Str} {n:Nat} {sc:List Str} (h:∀d,d<n->ws.getD (3+d) ""∈sc):∀q:Qt,q.gd n->Scp (q.tr ws) sc
 | .num k,g=>by rw[Qt.tr,Scp,uc];exact⟨(fun w e=>nomatch e),trivial⟩
 | .dn d,g=>by
  rw[Qt.gd]at g
  rw[Qt.tr,Scp,uc]
  exact⟨fun w e=>by cases e;exact h d g,trivial⟩
 | .row ks,g=>by
  rw[Qt.gd]at g
  rw[Qt.tr,Scp]
  exact⟨(fun w e=>nomatch e),zv h ks ks.length g.2⟩
 | .lt j ks m,g=>by
  rw[Qt.gd]at g
  rw[Qt.tr,Scp,uc,uc,uc,Scp,Scp]
  have rp:∀(m n:Nat),uc (aH m (.mk (.name (ws.getD j "")) [])) (aH n p0) (sc++[ws.getD j ""]):=fun m=>by
   induction m with
   |zero=>intro n;rw[cP,uc];trivial
   |succ m ih=>
    intro n
    have e0:(aH n p0).headD p0=p0:=by cases n<;>rfl
    have e1:(aH n p0).tail=aH (n-1) p0:=by cases n<;>rfl
    rw[a6,uc,Scp,uc,e0,e1]
    exact⟨⟨fun w e=>by cases e;exact aq _ (az _ (cG _)),trivial⟩,ih _⟩
  refine⟨(fun w e=>nomatch e),⟨(fun w e=>nomatch e),?_⟩,⟨(fun w e=>nomatch e),rp m m⟩,trivial⟩
  have:=zv (sc:=sc++[]) (fun d hd=>aq _ (h d hd)) ks ks.length g.2.2.2
  exact this
theorem zv {ws:List Str} {n:Nat} {sc:List Str} (h:∀d,d<n->ws.getD (3+d) ""∈sc):∀(qs:List Qt) (k:Nat),gds n qs->uc (trs ws qs) (aH k p0) sc
 |[],k,_=>by rw[trs,uc];trivial
 |q::qs,k,g=>by
  rw[gds]at g
  have e0:(aH k p0).headD p0=p0:=by cases k<;>rfl
  have e1:(aH k p0).tail=aH (k-1) p0:=by cases k<;>rfl
  rw[trs,uc,e0,e1]
  exact⟨Fn (sc:=sc++[]) (fun d hd=>aq _ (h d hd)) q g.1,zv h qs _ g.2⟩
end
theorem zw (ns:List Str):∀(ts:List TM.Internal.Tr) (i p k:Nat) (t:TM.Internal.Tr),ts[k]?=some t->Seg (ndP ns ts i p) (TM.Internal.szs (ts.take k)) (nds t (p+TM.Internal.szs (ts.take k)) (defs ns (i+k)))
 |x::ts,i,p,0,t,h=>by
  cases h
  rw[ndP,ck,TM.Internal.szs]
  exact fun j nd e=>by
   have e:(nds x p (defs ns i))[j]?=some nd:=e
   rw[du,aK (au.mp e).1]
   exact e
 |x::ts,i,p,k+ 1,t,h=>by
  have ih:=zw ns ts (i+ 1) (p+x.sz) k t h
  rw[ndP,cg,TM.Internal.szs]
  intro j nd e
  rw[aJ (by rw[mI];lia),mI,show x.sz+TM.Internal.szs (ts.take k)+j-x.sz=TM.Internal.szs (ts.take k)+j by lia]
  exact ih j nd (by rw[show p+x.sz+TM.Internal.szs (ts.take k)=p+(x.sz+TM.Internal.szs (ts.take k)) by lia,show i+ 1+k=i+(k+ 1) by lia];exact e)
theorem Fo {ns:List Str} (nd:ns.Nodup):∀(i d:Nat),d<i->i<=ns.length->G0 ns i (ns.getD d "")=some (("def":Str),(d:Int))
 |i+ 1,d,h,hi=>by
  have hn:ns[i]?=some (ns[i]'(by lia)):=bx _
  have hd:ns[d]?=some (ns.getD d ""):=by rw[bo,bx (by lia)];rfl
  rw[G0,hn]
  show wid (G0 ns i) _ _ (ns.getD d "")=_
  unfold wid
  by_cases e:d=i
  ·subst e
   rw[if_pos (by rw[hd]at hn;exact dB.inj hn)]
  ·rw[if_neg (fun z=>e ((List.getElem?_inj (by lia) nd).mp (hd.trans (by rw[z];exact hn.symm)))),Fo nd i d (by lia) (by lia)]
theorem zx {ws:List Str} {n d:Nat} (h:d<n):(nms ws n).getD d ""=ws.getD (3+d) ""/\(nms ws n)[d]?=some (ws.getD (3+d) ""):=by
 have e:(nms ws n)[d]?=some (ws.getD (3+d) ""):=by rw[nms,aM,cH h];rfl
 exact⟨by rw[bo,e];rfl,e⟩
theorem Bz {ws:List Str} (hw:Ws ws) {n:Nat} (hn:n<=13):(nms ws n).Nodup:=by
 rw[nms,List.Nodup,List.pairwise_map]
 refine List.Pairwise.imp_of_mem (fun{a b} ha hb hlt e=>?_) b4
 have ha:=af.mp ha
 have hb:=af.mp hb
 have h1:=(hw.at (i:=3+a) (by lia)).1
 have h2:=(hw.at (i:=3+b) (by lia)).1
 have:=(List.getElem?_inj (by rw[hw.l];lia) hw.nd).mp (h1.trans (by rw[e];exact h2.symm))
 lia
theorem Md.prog {ws:List Str} {W:List Int} {ds:List (List Qt)} {dn:Nat} {txs:List Str} (hw:Ws ws) (m:Md ws W ds dn txs) (h12:W.length<=12) (hd:dn<=140):
  MI (nms ws W.length) (TM.Internal.offs (ds.map (trQ ws)) 0) (ndP (nms ws W.length) (ds.map (trQ ws)) 0 0) []/\(ndP (nms ws W.length) (ds.map (trQ ws)) 0 0).map (fun nd=>nd.ro.d)=TM.Internal.rws (ds.map (trQ ws)) 0/\
  ∀i,i<W.length->∃r,(TM.Internal.offs (ds.map (trQ ws)) 0)[i]?=some r/\Wt (TM.Internal.offs (ds.map (trQ ws)) 0) (ndP (nms ws W.length) (ds.map (trQ ws)) 0 0) r=W.getD i 0:=by
 have l:=m.l
 have nl:(nms ws W.length).length=W.length:=by rw[nms,aD,cb]
 have tl:(ds.map (trQ ws)).length=W.length:=by rw[aD,l]
 have gdk:∀{k:Nat} {qs:List Qt},ds[k]?=some qs->(Qt.row qs).gd k:=fun{k qs} h=>by
  obtain⟨a,b,_⟩:=m.ix k qs h
  rw[Qt.gd]
  exact⟨b,a⟩
 have etr:∀qs,(Qt.row qs).tr ws=trQ ws qs:=fun qs=>by rw[Qt.tr];rfl
 have mm:=Bv (ns:=nms ws W.length) (ts:=ds.map (trQ ws)) (by lia) (by lia) (by rw[m.sm];exact hd) (fun k t ht=>by
  rw[aM]at ht
  obtain⟨qs,hq,rfl⟩:=dF.mp ht
  have hk:=(au.mp hq).1
  refine⟨by rw[<-etr];exact Dg _ (gdk hq),⟨_,_,rfl⟩,?_⟩
  rw[<-etr]
  refine Fn (fun d h=>?_) _ (gdk hq)
  unfold defs
  rw[bA]
  exact bb.mpr ⟨d,af.mpr h,(zx (by lia)).1⟩) W.length (by lia)
 rw[bZ (by lia),bZ (by rw[TM.Internal.offs_len];lia),bZ (by lia)]at mm
 refine⟨mm,Bx _ _ _ _ fun t ht=>?_,?_⟩
 ·obtain⟨qs,hq,rfl⟩:=bb.mp ht
  obtain⟨k,hk⟩:=bI.mp hq
  rw[<-etr]
  exact Dg _ (gdk hk)
 ·have key:∀n i,i<n->i<W.length->∃r,(TM.Internal.offs (ds.map (trQ ws)) 0)[i]?=some r/\Wt (TM.Internal.offs (ds.map (trQ ws)) 0) (ndP (nms ws W.length) (ds.map (trQ ws)) 0 0) r=W.getD i 0:=fun n=>by
   induction n with
   |zero=>intro i h;lia
   |succ n ih=>
    intro i hi hiW
    have hq:=m.at hiW
    obtain⟨_,_,hwt,_,_⟩:=m.ix i _ hq
    have ht:(ds.map (trQ ws))[i]?=some (trQ ws (ds.getD i [])):=by rw[aM,hq];rfl
    have ho:=vd (ds.map (trQ ws)) 0 i (by lia)
    have sg:=zw (nms ws W.length) (ds.map (trQ ws)) 0 0 i _ ht
    rw[du]at ho
    rw[du,du]at sg
    refine⟨_,ho,?_⟩
    have:=wq (W:=W) (ws:=ws) mm ho (fun d h=>ih d (by lia) (by lia)) (fun d h=>by
     rw[nU (nms ws W.length) i (by rw[nl];lia),<-(zx (ws:=ws) (n:=W.length) (d:=d) (by lia)).1]
     exact Fo (Bz hw (n:=W.length) (by lia)) i d h (by rw[nl];lia)) (.row (ds.getD i [])) _ (gdk hq) (c7 _) (by rw[etr];exact sg)
    have e2:W.getD i 0=(ja ws W (ds.getD i [])).w:=by unfold List.getD;rw[hwt];rfl
    rw[this,Qt.itm,e2]
    rfl
  exact fun i h=>key (i+ 1) i (by lia) h
open GR.Internal (stP stT)
theorem v8 (ns:List Int) (lo hi:Option Int):∃ms:List Int,sI (ns.map V.int) lo hi=ms.map V.int/\ms.length<=ns.length:=by
 refine⟨(ns.drop (HT.Internal.sIx (ns.map V.int).length 0 lo)).take (HT.Internal.sIx (ns.map V.int).length (ns.map V.int).length hi-HT.Internal.sIx (ns.map V.int).length 0 lo),?_,?_⟩
 ·unfold sI
  rw[<-List.map_drop,<-List.map_take]
 ·rw[aI,aW]
  lia
theorem qa (f:Nat->Bool) (G:Nat->V):∀m k:Nat,((∀d,k<=d->d<k+m->f d=false)/\((cq k m).filter f).map G=[])\/∃i,k<=i/\i<k+m/\f i=true/\(∀j,k<=j->j<i->f j=false)/\∃rest,((cq k m).filter f).map G=G i::rest
 |0,k=> .inl ⟨fun d h1 h2=>by lia,rfl⟩
 |m+ 1,k=>by
  rw[cx]
  cases hk:f k with
  |true=>
   rw[cj hk]
   exact .inr ⟨k,c7 _,by lia,hk,fun j h1 h2=>by lia,_,rfl⟩
  |false=>
   rw[cy (by rw[hk];exact fN)]
   rcases qa f G m (k+ 1)with⟨h1,h2⟩|⟨i,h1,h2,h3,h4,h5⟩
   ·refine .inl ⟨fun d g1 g2=>?_,h2⟩
    by_cases e:d=k
    ·rw[e];exact hk
    ·exact h1 d (by lia) (by lia)
   ·refine .inr ⟨i,by lia,by lia,h3,fun j g1 g2=>?_,h5⟩
    by_cases e:j=k
    ·rw[e];exact hk
    ·exact h4 j (by lia) g2
theorem Dh {t u:TS} {D:nY} {σ:St} {H:Hp} (σ₀:St) (N:St->Hp->Prop) (hσ:σ=σ₀) (k:∀σ' H',N σ' H'->u D σ' H') (w:∀D':nY,(∀σ' H',N σ' H'->D'.nx σ' H')->t D' σ₀ H):xk t u D σ H:=by
 subst hσ
 exact w {D with nx:=u D} k
theorem wa:∀l:List Int,wJ (l.map V.int) (l.map V.int)=true
 |[]=>by simp[wJ]
 |x::l=>by
  have:=wa l
  simp[wJ,eqV]at this⊢
  first|exact this|trivial
theorem Fp {v:V} {i:Nat} {u:TS} {D:nY} {σ:St} {H:Hp} (h:u D (σ.set i (some v)) H):xk (DE (tC v) (iW i)) u D σ H:=h
theorem G9 {K:PySem.W.Frag} {t:Value} {a b c:Addr} (h1:eF K t (.ref a)=some false) (h2:eF K t (.ref b)=some false) (h3:eF K t (.ref c)=some false):ff K t ([a,b,c].map Value.ref)=some false:=by
 show ff K t [.ref a,.ref b,.ref c]=_
 unfold ff
 rw[h1]
 dsimp only
 unfold ff
 rw[h2]
 dsimp only
 unfold ff
 rw[h3]
 rfl
theorem mJ {l:List (Str×Tok×Addr)}:(l.map (·.1)).Nodup->∀x∈l,jL (l.map fun p=>((Sum.inr p.1:Key),V.ref p.2.2)) (Sum.inr x.1)=some (.ref x.2.2):=by
 induction l with
 |nil=>exact fun _ x hx=>nomatch hx
 |cons y r ih=>
  intro hn x hx
  rw[aC,aF]at hn
  unfold jL
  rw[aC,aQ]
  rcases aj.mp hx with e|hm
  ·subst e
   rw[decide_eq_true rfl]
   rfl
  ·have ne:¬(Sum.inr y.1:Key)=Sum.inr x.1:=fun z=>hn.1 (by rw[Sum.inr.inj z];exact cQ hm)
   rw[decide_eq_false ne]
   exact ih hn.2 x hm
theorem Fq {l:List (Str×Tok×Addr)} {h:Str} (hn:h∉l.map (·.1)):jL (l.map fun p=>((Sum.inr p.1:Key),V.ref p.2.2)) (Sum.inr h)=none:=by
 unfold jL
 rw[Option.map_eq_none_iff,List.find?_eq_none]
 intro kv hkv z
 obtain⟨p,hp,rfl⟩:=bb.mp hkv
 have e:(Sum.inr p.1:Key)=Sum.inr h:=of_decide_eq_true z
 exact hn (by rw[<-Sum.inr.inj e];exact cQ hp)
def wy {P:Program} {w:World} {K:PySem.W.Frag} {mg:Str->Option Value} {a:Addr} {n:Nat} {t1 t2 t3 t4 t5 t6 t7 t8 t9 t10 t11:Tok} {q1 q2 q3 q4 q5 q6 q7 q8 q9 q10 q11:Addr} (m:mg "STEADY_FORMS"=some (.ref a)) (ha:(a==sysModules)=false) (hl:K.lookup a=some ⟨.type "dict",none,.dict #[⟨PyData.keyHash w.params "fn",.str "fn" t1,.ref q1⟩,⟨PyData.keyHash w.params "call",.str "call" t2,.ref q2⟩,⟨PyData.keyHash w.params "let",.str "let" t3,.ref q3⟩,⟨PyData.keyHash w.params "get",.str "get" t4,.ref q4⟩,⟨PyData.keyHash w.params "tag",.str "tag" t5,.ref q5⟩,⟨PyData.keyHash w.params "at",.str "at" t6,.ref q6⟩,⟨PyData.keyHash w.params "join",.str "join" t7,.ref q7⟩,⟨PyData.keyHash w.params "size",.str "size" t8,.ref q8⟩,⟨PyData.keyHash w.params "add",.str "add" t9,.ref q9⟩,⟨PyData.keyHash w.params "sub",.str "sub" t10,.ref q10⟩,⟨PyData.keyHash w.params "less",.str "less" t11,.ref q11⟩] n,#[]⟩)
  (h1:∀H:Hp,SqT K H q1 [V.str "name",V.str "expr"]) (h2:∀H:Hp,SqT K H q2 [V.str "expr",V.str "expr"]) (h3:∀H:Hp,SqT K H q3 [V.str "name",V.str "expr",V.str "expr"]) (h4:∀H:Hp,SqT K H q4 [V.str "expr",V.str "name"]) (h5:∀H:Hp,SqT K H q5 [V.str "name",V.str "expr"]) (h6:∀H:Hp,SqT K H q6 [V.str "expr",V.str "expr",V.str "expr"]) (h7:∀H:Hp,SqT K H q7 [V.str "expr",V.str "expr"]) (h8:∀H:Hp,SqT K H q8 [V.str "expr"]) (h9:∀H:Hp,SqT K H q9 [V.str "expr",V.str "expr"]) (h10:∀H:Hp,SqT K H q10 [V.str "expr",V.str "expr"]) (h11:∀H:Hp,SqT K H q11 [V.str "expr",V.str "expr"]):Dk P w K mg where
 a:=a
 m:=m
 kvs:=([("fn",t1,q1),("call",t2,q2),("let",t3,q3),("get",t4,q4),("tag",t5,q5),("at",t6,q6),("join",t7,q7),("size",t8,q8),("add",t9,q9),("sub",t10,q10),("less",t11,q11)]:List (Str×Tok×Addr)).map fun p=>((Sum.inr p.1:Key),V.ref p.2.2)
 kd:=zV ha hl rfl (by show(["fn","call","let","get","tag","at","join","size","add","sub","less"]:List Str).Nodup;decide+kernel)
 no:=fun h e=>Fq (l:=[("fn",t1,q1),("call",t2,q2),("let",t3,q3),("get",t4,q4),("tag",t5,q5),("at",t6,q6),("join",t7,q7),("size",t8,q8),("add",t9,q9),("sub",t10,q10),("less",t11,q11)]) (by
  show h∉(["fn","call","let","get","tag","at","join","size","add","sub","less"]:List Str)
  intro z
  have e1:∀k∈(["fn","call","let","get","tag","at","join","size","add","sub","less"]:List Str),stP k≠none:=by decide+kernel
  exact e1 h z e)
 yes:=fun h ps e=>by
  have hn:(([("fn",t1,q1),("call",t2,q2),("let",t3,q3),("get",t4,q4),("tag",t5,q5),("at",t6,q6),("join",t7,q7),("size",t8,q8),("add",t9,q9),("sub",t10,q10),("less",t11,q11)]:List (Str×Tok×Addr)).map (·.1)).Nodup:=by show(["fn","call","let","get","tag","at","join","size","add","sub","less"]:List Str).Nodup;decide+kernel
  unfold stP at e
  obtain⟨p,hp,rfl⟩:=dF.mp e
  have hm:=bY hp
  have hh:p.1=h:=of_decide_eq_true (List.find?_some (p:=fun p:Str×List Bool=>decide (p.1=h)) hp)
  subst hh
  clear hp e
  unfold stT at hm
  simp only[aj,bB,or_false]at hm
  rcases hm with rfl|rfl|rfl|rfl|rfl|rfl|rfl|rfl|rfl|rfl|rfl
  ·exact⟨q1,mJ hn ("fn",t1,q1) (ah ..),h1⟩
  ·exact⟨q2,mJ hn ("call",t2,q2) (ai _ (ah ..)),h2⟩
  ·exact⟨q3,mJ hn ("let",t3,q3) (ai _ (ai _ (ah ..))),h3⟩
  ·exact⟨q4,mJ hn ("get",t4,q4) (ai _ (ai _ (ai _ (ah ..)))),h4⟩
  ·exact⟨q5,mJ hn ("tag",t5,q5) (ai _ (ai _ (ai _ (ai _ (ah ..))))),h5⟩
  ·exact⟨q6,mJ hn ("at",t6,q6) (ai _ (ai _ (ai _ (ai _ (ai _ (ah ..)))))),h6⟩
  ·exact⟨q7,mJ hn ("join",t7,q7) (ai _ (ai _ (ai _ (ai _ (ai _ (ai _ (ah ..))))))),h7⟩
  ·exact⟨q8,mJ hn ("size",t8,q8) (ai _ (ai _ (ai _ (ai _ (ai _ (ai _ (ai _ (ah ..)))))))),h8⟩
  ·exact⟨q9,mJ hn ("add",t9,q9) (ai _ (ai _ (ai _ (ai _ (ai _ (ai _ (ai _ (ai _ (ah ..))))))))),h9⟩
  ·exact⟨q10,mJ hn ("sub",t10,q10) (ai _ (ai _ (ai _ (ai _ (ai _ (ai _ (ai _ (ai _ (ai _ (ah ..)))))))))),h10⟩
  ·exact⟨q11,mJ hn ("less",t11,q11) (ai _ (ai _ (ai _ (ai _ (ai _ (ai _ (ai _ (ai _ (ai _ (ai _ (ah ..))))))))))),h11⟩
theorem Fs {L:List Nd} {k:Nat} {nd:Nd} (h:L[k]?=some nd):duo (CT L) k nd.ro=AF nd.κ nd.out:=by
 unfold Nd.ro AF
 cases hk:nd.κ with
 |name w=>show CT L k w=_;rw[pW h]
 |_=>rfl
theorem BA {H:Hp}:∀{ys:List V} {ds:List Dt},ys.length=ds.length->(∀(k:Nat) x d,ys[k]?=some x->ds[k]?=some d->Im H x d)->Ims H ys ds
 |[],[],_,_=> .nil
 |y::ys,d::ds,h,f=> .cons (f 0 y d rfl rfl) (BA (by simpa using h) fun k x d' h1 h2=>f (k+ 1) x d' h1 h2)
theorem Di {H:Hp} {ys:List V} {L:List Nd} (hl:ys.length=(L.map Nd.ro).length) (h:HoA H ys (L.map Nd.ro) (CT L)):Ims H ys (L.map fun nd=>hoD (AF nd.κ nd.out)):=by
 rw[aD]at hl
 refine BA (by rw[aD];exact hl) fun k x d hx hd=>?_
 rw[aM]at hd
 obtain⟨nd,hnd,rfl⟩:=dF.mp hd
 have:=h k x nd.ro hx (by rw[aM,hnd];rfl)
 rw[Fs hnd]at this
 exact this
theorem kit4 {K:PySem.W.Frag} {t:Value} {a b c d:Addr} (h0:eF K t (.ref a)=some false) (h1:eF K t (.ref b)=some false) (h2:eF K t (.ref c)=some false) (h3:eF K t (.ref d)=some false):ff K t ([a,b,c,d].map Value.ref)=some false:=by
 show ff K t [.ref a,.ref b,.ref c,.ref d]=_
 unfold ff
 rw[h0]
 exact G9 h1 h2 h3
def wOf (H:Hp) (v:V):Int:=match v with
 | .ref e=>(match H e with
  |some (.lst [_,.int w])=>w
  |_=>0)
 |_=>0
def nOf (H:Hp) (v:V):V:=match v with
 | .ref e=>(match H e with
  |some (.lst (x::_))=>x
  |_=> .non)
 |_=> .non
theorem qN {H:Hp} {e:Addr} {x:V} {w:Int} (h:H e=some (.lst [x,.int w])):wOf H (.ref e)=w/\nOf H (.ref e)=x:=by
 constructor
 ·show(match H e with
   |some (.lst [_,.int w])=>w
   |_=>(0:Int))=w
  rw[h]
 ·show(match H e with
   |some (.lst (x::_))=>x
   |_=>V.non)=x
  rw[h]
theorem zy {p:V->Bool} {g:V->V} {f:Nat->Bool} {G:Nat->V}:∀(l:List V) (k:Nat),(∀i v,l[i]?=some v->p v=f (k+i)/\g v=G (k+i))->(l.filter p).map g=((cq k l.length).filter f).map G
 |[],k,_=>rfl
 |v::l,k,h=>by
  have h0:=h 0 v rfl
  have ih:=zy l (k+ 1) fun i v hv=>by
   have:=h (i+ 1) v (by rw[bC];exact hv)
   rwa[show k+(i+ 1)=k+ 1+i by lia]at this
  rw[aA,cx]
  cases hp:f k with
  |true=>rw[cj (by rw[h0.1];exact hp),cj hp,aC,aC,ih,h0.2];rfl
  |false=>rw[cy (by rw[h0.1,Nat.add_zero,hp];exact fN),cy (by rw[hp];exact fN),ih]
def hvL (ws:List Str) (W:List Int):List V:=((cq 0 W.length).filter fun i=>decide (60<W.getD i 0)).map fun i=>V.str (ws.getD (3+i) "")
theorem GN {H:Hp} {mv:List V} {ws:List Str} {W:List Int} (dm:mh H mv (mdD ws W)):(mv.filter fun v=>decide (60<wOf H v)).map (nOf H)=hvL ws W:=by
 have hl:=dm.length
 unfold mdD at hl
 rw[aD,cb]at hl
 unfold hvL
 rw[<-hl]
 refine zy mv 0 fun i v hv=>?_
 have hi:=(au.mp hv).1
 obtain⟨e,he,ee⟩:=AK dm (i:=i) (by lia)
 rw[hv]at he
 cases he
 rw[du,(qN ee).1,(qN ee).2]
 exact⟨rfl,rfl⟩
theorem Ft (ws:List Str) (W:List Int):((∀i,i<W.length->W.getD i 0<=60)/\hvL ws W=[])\/∃(i:Nat) (rest:List V),i<W.length/\60<W.getD i 0/\(∀j,j<i->W.getD j 0<=60)/\hvL ws W= .str (ws.getD (3+i) "")::rest:=by
 unfold hvL
 rcases qa (fun i=>decide (60<W.getD i 0)) (fun i=>V.str (ws.getD (3+i) "")) W.length 0 with⟨h1,h2⟩|⟨i,h1,h2,h3,h4,rest,h5⟩
 ·refine .inl ⟨fun i hi=>?_,h2⟩
  have:=of_decide_eq_false (h1 i (c8 _) (by lia))
  lia
 ·refine .inr ⟨i,rest,by lia,of_decide_eq_true h3,fun j hj=>?_,h5⟩
  have:=of_decide_eq_false (h4 j (c8 _) hj)
  lia
theorem Dj {H:Hp} {mv:List V} {ws:List Str} {W:List Int} (dm:mh H mv (mdD ws W)):∀(i:Nat) (v:V),mv[i]?=some v->∃e,v= .ref e/\H e=some (.lst (mdv ws W i))/\i<W.length:=fun i v hv=>by
 have hl:=dm.length
 unfold mdD at hl
 rw[aD,cb]at hl
 have hi:=(au.mp hv).1
 obtain⟨e,he,ee⟩:=AK dm (i:=i) (by lia)
 rw[hv]at he
 exact⟨e,dB.inj he,ee,by lia⟩
theorem Dl {f:Addr} {fd:FuncData} (T:Txt K mg) (D:Dk P w K mg) (F:Fun K "law" "law" rD f fd):iK P w K mg base CX0 150 f fd ["_law_script"] (vM K):=by
 have g1:=w6 (P:=P) (w:=w) (base:=base) T
 have g2:=w8 T g1
 have g3:=tL T g1
 have ga:=pO (P:=P) (w:=w) (base:=base) T
 have g4:=qd (P:=P) (w:=w) (base:=base) T ga
 have gc:=qf (P:=P) (w:=w) (base:=base) T
 have gp:=nq T g4
 have gn:=nu T g4 g2
 have ge:=yT T D ga g4 gp gn g2 g3 gc 24
 have G_read:=CI T (uN T) (nR T) ga gp gn ge gc (nv T)
 have G_words:=rJ (P:=P) (w:=w) (base:=base) T
 have G_text:=ua (P:=P) (w:=w) (base:=base) T
 have G_weights_of:=rX (P:=P) (w:=w) (base:=base) T
 have G_homes_of:=uS (P:=P) (w:=w) (base:=base) T
 clear g1 g2 g3 ga g4 gc gp gn ge
 refine F.ok mz (fun vs H Q E h=>?_) (fun cdv A outer s H vs Q E hr h=>?_)
 ·obtain⟨a,ns,rfl,_⟩:=h
  rfl
 obtain⟨ad,ns,rfl,hsq,hlen,q⟩:=h
 refine⟨_,(gC (xA (ia G_text (hr.mono (by decide)) rfl T.m_text T.k_text T.b_text .nil iX (gB (ia G_words (hr.mono (by decide)) rfl T.m_words T.k_words T.b_words .nil iX (gB (gS (sW rfl) rfl T.z_sum sQ (gB (kC uq (cv 0) lZ (kW gH)) gG)) gG)) (gB (gY j4 (gS (sW rfl) rfl T.z_sum sQ (gB (kC uq (cv 0) lZ (kW gH)) gG)) (gY sX gH gH)) (gB (kC uq (cv 0) (kW gH) (kW gH)) gG)))) (vi rfl (lO (jt (i:=1) mz.nd rfl (.inl rfl)) (lO (jt (i:=2) mz.nd rfl (.inl rfl)) qP))))
  (gC (gR (i:=3) mz.nd rfl (.inl rfl) (ia G_read (hr.mono (by decide)) rfl T.m_read T.k_read T.b_read .nil F4 (gB (cv 1) gG)))
  (gC (vv (j:=4) rfl (ym (x:="_law_one") rfl (by decide+kernel) (by decide+kernel) rfl rfl) (jR (cv 2)) (fun _ _ _ _ _=>(uu (ie ph (hU gX (cv 0) gH (fun _ _=>rfl)) gH (ic _)))) (fun _ _ _ _ _=>(hU gX (cv 0) gH (fun _ _=>rfl))) mz.nd rfl (.inl rfl))
  (gC (gR (i:=5) mz.nd rfl (.inl rfl) ve)
  (gC (gR (i:=6) mz.nd rfl (.inr rfl) ve)
  (gC (wQ G_weights_of (hr.mono (by decide)) rfl T.m_weights_of T.k_weights_of T.b_weights_of .nil (gB (cv 3) (gB (ia G_homes_of (hr.mono (by decide)) rfl T.m_homes_of T.k_homes_of T.b_homes_of .nil iX (gB (cv 3) gG)) gG)) (j:=6) (i:=7) mz.nd rfl (.inr rfl) rfl rfl rfl T.m_FlowError ⟨rfl,rfl⟩ rfl (fun _=>
   (gK (gR (i:=5) mz.nd rfl (.inl rfl) (cv 7)))))
  (gC (iU (ie ph (gS hJ rfl T.z_len jG (gB (cv 4) gG)) gH (ic _))
   (gC (iU (PW.pt (wc (nB (lT (gS sZ rfl T.z_isinstance iG (gB (cv 5) (gB (oZ rfl T.m_TooHeavy) gG))))) (sh (lT (gS qF rfl T.z_isinstance iG (gB (cv 5) (gB (kO (gB (oZ rfl T.m_BadPaper) (gB (oZ rfl T.m_BadText) (gB (oZ rfl T.m_NoName) (gB (oZ rfl T.m_Twice) gG))))) gG)))))))
    (gK (hV uf))
    ib)
   (gC (iU (lT (gS qF rfl T.z_isinstance iG (gB (cv 5) (gB (kO (gB (oZ rfl T.m_OutOfTurns) (gB (oZ rfl T.m_RowFull) (gB (oZ rfl T.m_WrongKind) gG)))) gG))))
    (gK (hV uf))
    ib)
   (gK (hV (xx (gS sZ rfl T.z_isinstance iG (gB (cv 5) (gB (pd rfl T.z_ValueError qV) gG))) (xx (gS mL rfl T.z_isinstance iG (gB (yD (cv 5) rfl) (gB (pd rfl T.z_str A2) gG))) (vg (lX og (yD (cv 5) rfl) (hU gX (cv 4) gH (fun _ _=>rfl)) (ic _)))))))))
   ib)
  (gC (iU (PW.pt (wc (sf (BD (cv 5))) (wc (nB (lT (gS mL rfl T.z_isinstance iG (gB (cv 6) (gB (pd rfl T.z_list yj) gG))))) (sh (ie Ee (gS hJ rfl T.z_len jG (gB (cv 6) gG)) (gS hJ rfl T.z_len jG (gB (jT T.cl_Program T.n_Program_rows (cv 3)) gG)) (ic _))))))
   (gK (hV uf))
   ib)
  (gC (vv (j:=8) rfl (F7 (x:="_law_root") ["_law_found"] [("_law_found",6,s.heap.objs.size+ 1)] rfl rfl (by decide+kernel) (by decide+kernel) rfl (by decide+kernel) rfl rfl (by intro p hp;simp only[aj,bB,or_false]at hp;rcases hp with rfl<;>exact⟨rfl,rfl,rfl,rfl⟩)) (jR (jT T.cl_Program T.n_Program_roots (cv 3))) (fun _ _ _ _ _=>kM) (fun _ _ _ _ _=>(hU gX (cv 1) (cv 0) (fun _ _=>rfl))) mz.nd rfl (.inl rfl))
  (gC (lU PassesOwn.never rfl (jR (cv 8)) (jt (i:=9) mz.nd rfl (.inl rfl))
   (gK (iU (PW.pt (wc (nB (lT (gS mL rfl T.z_isinstance iG (gB (cv 9) (gB (pd rfl T.z_int vp) gG))))) (sh (lT (gS mL rfl T.z_isinstance iG (gB (cv 9) (gB (pd rfl T.z_bool BX) gG)))))))
    (gK (hV uf))
    ib)))
  (gK (hV (lX (D2 hr.units0) (cv 8) (oa rfl (ym (x:="_law_one") rfl (by decide+kernel) (by decide+kernel) rfl rfl) (jR (cv 2)) (fun _ _ _ _ _=>kM) (fun _ _ _ _ _=>(hU gX (cv 0) gH (fun _ _=>rfl)))) (ic _)))))))))))))),?_⟩
 have sl:sizeLine=16777216:=sizeLine_eq
 obtain⟨ks0,ek0,_⟩:=v8 ns none (some 1)
 obtain⟨ks1,ek1,lk1⟩:=v8 ns (some 1) (some 90)
 refine⟨_,rfl,ad,_,rfl,hsq,fun c1 hc1=>⟨c1,ks0,rfl,SqL.of (by rw[gE,ek0]),fun n0=>⟨n0,rfl,fun wl ws H1 S1 _ wd=>?_⟩⟩⟩
 have S1:=(gJ hc1 (.lst (sI (ns.map V.int) none (some 1)))).trans S1
 refine⟨_,rfl,ad,_,rfl,S1.seq hsq,fun c2 hc2=>⟨c2,ks0,rfl,SqL.of (by rw[gE,ek0]),fun n1=>⟨⟨by decide,by decide,by decide⟩,(by show(0:Int)<10^(9:Int).toNat;decide+kernel),?_⟩⟩⟩
 have s2:=gJ hc2 (.lst (sI (ns.map V.int) none (some 1)))
 generalize upd H1 c2 (.lst (sI (ns.map V.int) none (some 1)))=H2 at s2⊢
 have sd0:0<=n1%10^(9:Int).toNat:=gj _ (by decide+kernel)
 have S2:=S1.trans s2
 refine⟨1,rfl,90,rfl,ad,_,rfl,S2.seq hsq,fun c3 hc3=>?_⟩
 have s3:=gJ hc3 (.lst (sI (ns.map V.int) (some 1) (some 90)))
 have e3:(upd H2 c3 (.lst (sI (ns.map V.int) (some 1) (some 90)))) c3=some (.lst (ks1.map V.int)):=by rw[gE,ek1]
 generalize upd H2 c3 (.lst (sI (ns.map V.int) (some 1) (some 90)))=H3 at s3 e3⊢
 have hw:Ws ws:=⟨wd.2.1,wd.2.2.1,wd.2.2.2⟩
 refine⟨wl,c3,n1%10^(9:Int).toNat,ws,ks1,rfl,⟨s3 _ _ (s2 _ _ wd.1),wd.2⟩,sd0,e3,by lia,fun t ml H4 W ds dn txs mv S4 et em dm md h1 h12 hd=>?_⟩
 obtain⟨tlen,twok,tread,toks⟩:=md.read hw h1 h12 hd
 obtain⟨mi,mrows,mwt⟩:=md.prog hw h12 hd
 refine⟨t,_,rfl,SqT.of et,rfl,_,_,rfl,_,_,rfl,rfl,?_⟩
 refine⟨_,GR.Internal.toks (Str.join "\n" txs),rfl,tlen,GR.Internal.toks_v _,twok,fun names roots rows g nl tl rl rtv rwv H5 hread S5 _ _ _ pr tr tw=>?_,fun hno=>absurd (tread.symm.trans hno) (by simp)⟩
 rw[tread]at hread
 obtain⟨rfl,rfl,rfl⟩:nms ws W.length=names/\(TM.Internal.offs (ds.map (trQ ws)) 0).map TM.Internal.kD=roots/\TM.Internal.rws (ds.map (trQ ws)) 0=rows:=by
  have:=dB.inj hread
  exact⟨congrArg Prod.fst this,congrArg (fun x=>x.2.1) this,congrArg (fun x=>x.2.2) this⟩
 have ertv:=Ff (oQ tr (C8 _))
 have erwv:=oQ tw (C9 _ 0 toks)
 rw[<-mrows]at erwv
 obtain⟨dx,ob⟩:=pr.ob
 generalize hL:ndP (nms ws W.length) (ds.map (trQ ws)) 0 0=L at mi mwt erwv
 generalize hR:TM.Internal.offs (ds.map (trQ ws)) 0=roots at mi mwt ertv
 have prn:=pr.nm
 have prr:=pr.rt
 have prw:=pr.rw
 rw[ertv]at prr
 clear tr tw hread tread pr ertv
 dsimp only[iW]
 have dm5:=dm.same S5
 have lmv:=dm.length
 unfold mdD at lmv
 rw[aD,cb]at lmv
 refine⟨ml,rfl,⟨_,SqL.of (S5 _ _ em)⟩,fun lh hlh=>yn (xs:=mv) (fun v=>decide (60<wOf H5 v)) (nOf H5) hlh (by lia) rfl (fun k H S h=>qA (S5 _ _ em) S h) (fun k H v H' S y=>?_) (fun H S=>qB (S5 _ _ em) S) ?_ ?_ ?_⟩
 ·obtain⟨rfl,hv⟩:=y
  exact⟨rfl,hv _ (SqL.of (S _ _ (S5 _ _ em)))⟩
 ·intro k v H6 R hv S hR
  obtain⟨e,rfl,ee,hk⟩:=Dj dm5 k v hv
  rw[(qN ee).1]at hR
  exact⟨_,S _ _ ee,gO (gN (j:=1) rfl) hR⟩
 ·intro k v H6 R hv _ S hR
  obtain⟨e,rfl,ee,hk⟩:=Dj dm5 k v hv
  rw[(qN ee).2]at hR
  exact⟨_,S _ _ ee,gO (gN (j:=0) rfl) hR⟩
 intro H6 S6 elh
 rw[GN dm5]at elh
 dsimp only[iW]
 have S56:=S5.trans S6
 have nn:(nms ws W.length).Nodup:=Bz hw (by lia)
 have nln:(nms ws W.length).length=W.length:=by rw[nms,aD,cb]
 have rl':=mi.rl
 rw[nln]at rl'
 have Ll:=mi.sz
 have fx:=S6 _ _ ob
 have fn:=S6 _ _ prn
 have fr:=S6 _ _ prr
 have fw:=S6 _ _ prw
 have imx:=erwv.mono (gT.tk S6)
 have wt_of:∀{i s:Nat},roots[i]?=some s->i<W.length/\Wt roots L s=W.getD i 0:=fun{i s} h=>by
  have hi:=(au.mp h).1
  obtain⟨r,h1,h2⟩:=mwt i (by lia)
  rw[h]at h1
  cases h1
  exact⟨by lia,h2⟩
 have em6:=S56 _ _ em
 have dm6:=dm5.same S6
 refine Fp (Fp (Dh [some (.ref ad),some (.str (Str.join "\n" txs)),some (.ref ml),some (.ref g),some (.ref lh),some .non,some .non,none,none,none] (fun σ H7=>∃vc vf:V,σ=[some (.ref ad),some (.str (Str.join "\n" txs)),some (.ref ml),some (.ref g),some (.ref lh),some vc,some vf,none,none,none]/\gT H6 H7/\
  ((hvL ws W=[]/\vc= .non/\∃lf,vf= .ref lf/\H7 lf=some (.lst (((aa L.length).map (Wt roots L)).map V.int)))\/
    ∃(ea dz:Addr) (y:Str) (rest:List V),hvL ws W= .str y::rest/\vc= .ref ea/\H7 ea=some (xp ea T.a_TooHeavy dz)/\H7 dz=some (Ab dz [("word",.str y)]))) rfl ?_ ?_))
 ·rintro σ H7 ⟨vc,vf,rfl,S7,cs⟩
  have elh7:=S7 _ _ elh
  refine⟨lh,_,rfl,.inl (SqL.of elh7),?_⟩
  show if decide ((0:Int)<(((hvL ws W).length:Nat):Int))=true then _ else _
  rcases cs with⟨h0,rfl,lf,rfl,elf⟩|⟨ea,dz,y,rest,h0,rfl,eea,edz⟩
  ·rw[h0]
   refine jO ?_
   dsimp only[si]
   have lrw:=imx.length
   rw[aD]at lrw
   have fx7:=S7 _ _ fx
   have fr7:=S7 _ _ fr
   have fw7:=S7 _ _ fw
   refine⟨_,rfl,?_⟩
   show if(!decide (V.non=V.non))=true then _ else _
   rw[decide_eq_true rfl]
   refine jO ⟨_,_,_,_,true,rfl,fun _ r=>r,.lst elf,rfl,_,rfl,jO ?_⟩
   refine⟨lf,_,rfl,.inl (SqL.of elf),_,⟨dx,_,fx7,oo _ _ _⟩,rl,_,rfl,.inl (SqL.of fw7),?_⟩
   show(if(true ^^ decide ((((((aa L.length).map (Wt roots L)).map V.int).length:Nat):Int)=((rwv.length:Nat):Int)))=true then _ else _)
   rw[decide_eq_true (by rw[aD,aD,cb,lrw])]
   refine jO ?_
   dsimp only[si]
   have rtL:∀{k s:Nat},roots[k]?=some s->s<L.length:=fun h=>(mi.rootL _ (aN h)).1
   refine⟨_,⟨dx,_,fx7,mQ _ _ _⟩,tl,rfl,⟨_,SqL.of fr7⟩,fun lt hlt=>yn (xs:=roots.map nI) (fun _=>true) (fun v=>match v with| .int s=> .int (Wt roots L s.toNat)|v=>v) hlt (by rw[aD];lia) rfl (fun k H S h=>qA fr7 S h) (fun k H v H' S y=>?_) (fun H S=>qB fr7 S) (fun k v H R hv S hR=>hR) ?_ ?_⟩
   ·obtain⟨rfl,hv⟩:=y
    exact⟨rfl,hv _ (SqL.of (S _ _ fr7))⟩
   ·intro k v H8 R hv _ S hR
    rw[aM]at hv
    obtain⟨z,hz,rfl⟩:=dF.mp hv
    have zl:=rtL hz
    refine⟨_,S _ _ elf,gO (v:= .int (Wt roots L z)) (gN (by rw[aM,aM,cH zl];rfl)) ?_⟩
    exact hR
   intro H8 S8 elt
   have et8:H8 lt=some (.lst (W.map V.int)):=by
    rw[elt,bV.mpr (fun _ _=>rfl),bA]
    congr 2
    refine bE fun k=>?_
    rw[aM,aM]
    by_cases hk:k<W.length
    ·obtain⟨r,h1,h2⟩:=mwt k hk
     rw[h1,bx hk]
     show some (V.int (Wt roots L r))=some (V.int W[k])
     rw[h2,bo,bx hk]
     rfl
    ·rw[bF (by lia),bF (by lia)]
     rfl
   dsimp only[iW]
   refine⟨lt,rfl,⟨_,SqL.of et8⟩,nF (xs:=W.map V.int) (fun i σ H9=>∃o9:Option V,σ=[some (.ref ad),some (.str (Str.join "\n" txs)),some (.ref ml),some (.ref g),some (.ref lh),some .non,some (.ref lf),none,some (.ref lt),o9]/\H9=H8) ⟨none,rfl,rfl⟩ (fun i σ H9 _ ⟨_,_,e⟩=>by rw[e];exact SqL.of et8) ?_ ?_⟩
   ·rintro i x σ H9 hx ⟨o9,rfl,rfl⟩
    rw[aM]at hx
    obtain⟨z,hz,rfl⟩:=dF.mp hx
    refine⟨_,_,_,_,true,rfl,fun _ r=>r,.int _,rfl,_,rfl,jO ?_⟩
    refine⟨_,_,_,_,false,rfl,fun _ r=>r,.int _,rfl,_,rfl,jO ?_⟩
    exact⟨_,rfl,rfl⟩
   ·rintro σ H9 ⟨o9,rfl,rfl⟩
    have S69:=S7.trans S8
    have em9:=S69 _ _ em6
    have dm9:=dm6.same S69
    refine⟨ml,rfl,⟨_,SqL.of em9⟩,fun ld hld=>yn (xs:=mv) (fun _=>true) (fun v=> .int (wOf H9 v)) hld (by lia) rfl (fun k H S h=>qA em9 S h) (fun k H v H' S y=>?_) (fun H S=>qB em9 S) (fun k v H R hv S hR=>hR) ?_ ?_⟩
    ·obtain⟨rfl,hv⟩:=y
     exact⟨rfl,hv _ (SqL.of (S _ _ em9))⟩
    ·intro k v H10 R hv _ S hR
     obtain⟨e,rfl,ee,hk⟩:=Dj dm9 k v hv
     rw[(qN ee).1]at hR
     exact⟨_,S _ _ ee,gO (gN (j:=1) rfl) hR⟩
    intro H10 S10 eld
    have ed:H10 ld=some (.lst (W.map V.int)):=by
     rw[eld,bV.mpr (fun _ _=>rfl)]
     congr 2
     refine bE fun k=>?_
     rw[aM,aM]
     by_cases hk:k<W.length
     ·obtain⟨e,he,ee⟩:=AK dm9 hk
      rw[he,bx hk]
      show some (V.int (wOf H9 (.ref e)))=some (V.int W[k])
      rw[(qN ee).1,bo,bx hk]
      rfl
     ·rw[bF (by lia),bF (by lia)]
      rfl
    have fa:(W.map V.int).all m8=true:=by
     rw[bu]
     exact bw.mpr fun _ _=>rfl
    refine⟨lt,ld,_,_,rfl,rfl,SqL.of (S10 _ _ et8),SqL.of ed,fa,fa,?_⟩
    rw[if_neg fN,wa]
    exact q H10
  ·rw[h0]at elh7
   rw[h0,decide_eq_true (by rw[aA];lia)]
   have wd:aB ("word":Str) [(("word":Str),V.str y)]=some (.str y):=AB
   refine kE ⟨ea,T.a_TooHeavy,dz,_,_,true,rfl,fun _ r=>r,eea,T.xs_TooHeavy.xc,T.i_TooHeavy_TooHeavy,_,rfl,jO ?_⟩
   refine⟨(by show 4<=sizeLine;decide),fun tp htp=>⟨ea,T.a_TooHeavy,dz,tp,[T.a_BadPaper,T.a_BadText,T.a_NoName,T.a_Twice],false,rfl,gE,gJ htp _ _ _ eea,T.xs_TooHeavy.xc,kit4 T.i_TooHeavy_BadPaper T.i_TooHeavy_BadText T.i_TooHeavy_NoName T.i_TooHeavy_Twice,_,rfl,jO ?_⟩⟩
   have t1:=gJ htp (.tup [.ref T.a_BadPaper,.ref T.a_BadText,.ref T.a_NoName,.ref T.a_Twice])
   dsimp only[si]
   generalize upd H7 tp (.tup [.ref T.a_BadPaper,.ref T.a_BadText,.ref T.a_NoName,.ref T.a_Twice])=H8 at t1⊢
   refine⟨(by show 3<=sizeLine;decide),fun tq htq=>⟨ea,T.a_TooHeavy,dz,tq,[T.a_OutOfTurns,T.a_RowFull,T.a_WrongKind],false,rfl,gE,gJ htq _ _ _ (t1 _ _ eea),T.xs_TooHeavy.xc,G9 T.i_TooHeavy_OutOfTurns T.i_TooHeavy_RowFull T.i_TooHeavy_WrongKind,_,rfl,jO ?_⟩⟩
   have t2:=gJ htq (.tup [.ref T.a_OutOfTurns,.ref T.a_RowFull,.ref T.a_WrongKind])
   dsimp only[si]
   generalize upd H8 tq (.tup [.ref T.a_OutOfTurns,.ref T.a_RowFull,.ref T.a_WrongKind])=H9 at t2⊢
   have t12:=t1.trans t2
   refine⟨ea,T.a_TooHeavy,dz,_,_,true,rfl,fun _ r=>r,t12 _ _ eea,T.xs_TooHeavy.xc,T.i_TooHeavy_ValueError,_,rfl,kE ?_⟩
   refine⟨ea,T.a_TooHeavy,dz,_,.str y,rfl,t12 _ _ eea,t12 _ _ edz,T.xs_TooHeavy.xc,T.xf_TooHeavy_word,wd,_,_,_,_,true,rfl,fun _ r=>r,.str _,rfl,_,rfl,kE ?_⟩
   refine⟨ea,T.a_TooHeavy,dz,_,.str y,rfl,t12 _ _ eea,t12 _ _ edz,T.xs_TooHeavy.xc,T.xf_TooHeavy_word,wd,_,t12 _ _ elh7,gO (gN (j:=0) rfl) ?_⟩
   show Q (.bl (false ^^ decide (y=y))) H9
   rw[decide_eq_true rfl]
   exact q H9
 ·intro Dx hNx
  refine⟨g,nl,tl,rl,dx,rwv,nms ws W.length,roots,L.map Nd.ro,CT L,rfl,⟨fx,fn,fr,fw,by rw[bA];exact imx⟩,mi.toMI0.good nn,fun lo ys H7 S7 hlo elo yl hoa=>?_⟩
  refine⟨g,nl,tl,rl,dx,lo,rwv,ys,nms ws W.length,roots,L,rfl,mi,S7 _ _ fx,S7 _ _ fn,S7 _ _ fr,S7 _ _ fw,imx.mono (gT.tk S7),elo,Di yl hoa,fun light lf H8 S8 hlf elf=>?_,fun i s y hs hy heavy light dz H8 S8 edz=>?_⟩
  ·rcases Ft ws W with⟨_,h0⟩|⟨i,rest,h1,h2,h3,h4⟩
   ·exact hNx _ _ ⟨_,_,rfl,S7.trans S8,.inl ⟨h0,rfl,lf,rfl,elf⟩⟩
   ·obtain⟨r,g1,g2⟩:=mwt i h1
    have:=light i r g1
    lia
  ·refine⟨_,dz,rfl,rfl,T.e_TooHeavy_FlowError,fun ea hea=>?_⟩
   have s9:=gJ hea (xp ea T.a_TooHeavy dz)
   obtain⟨hiW,hwi⟩:=wt_of hs
   rcases Ft ws W with⟨h0,_⟩|⟨i',rest,h1,h2,h3,h4⟩
   ·have:=h0 i hiW
    lia
   ·have ii:i'=i:=by
     by_cases z:i'<i
     ·obtain⟨r,g1,g2⟩:=mwt i' h1
      have:=light i' r z g1
      lia
     ·by_cases z2:i<i'
      ·have:=h3 i z2
       lia
      ·lia
    subst ii
    rw[(zx hiW).2]at hy
    cases hy
    exact hNx _ _ ⟨_,_,rfl,(S7.trans S8).trans s9,.inr ⟨ea,dz,_,rest,h4,rfl,gE,s9 _ _ edz⟩⟩
end K13.Internal
namespace PySem.W.Fast
def tw16912564260918499181:=0
def tw2080979466563200400:=0
def tw3483822732471132225:=0
def tw11054269537959206261:=0
def tw1670435709550645604:=0
def tw12355820467483488330:=0
def tw1507256790180129109:=0
def tw14270305985290703281:=0
def tw3723233707007733557:=0
def tw8632549028565589696:=0
def tw4919467690021138796:=0
def tw11772119497908372821:=0
def tw5795121357056410599:=0
def tw13600979292264086208:=0
def tw9011442922771304826:=0
def tw15736161187761011936:=0
def tw15134323210550242525:=0
def tw12398175987586246456:=0
def tw10143004767587114291:=0
def tw14489580150010508920:=0
def tw1621443093357623843:=0
def tw11613548090280880147:=0
def tw4956284433888571227:=0
def tw9564044727162247772:=0
def tw13077881633332686567:=0
def tw5477559584743703292:=0
def tw6104380998771623473:=0
def tw8914680304867932116:=0
def tw1448742199974612141:=0
def tw8584815480632570034:=0
def tw17509079535321389830:=0
def tw8272973120885316458:=0
def tw296998169741871092:=0
def tw5224296033544945709:=0
def tw3891365164475200400:=0
def tw6925866506687668372:=0
def tw4296413061536152869:=0
def tw4150453621715126285:=0
def tw11832096315283440682:=0
def tw6033795269290920243:=0
def tw15411350579943739858:=0
def tw17023498173484556207:=0
def tw12378211054466520125:=0
def tw6170874116493770344:=0
def tw4641038626208440741:=0
def tw18256065644622070020:=0
def tw12820073633220646017:=0
def tw13047447835173121264:=0
def tw14742460616832294631:=0
def tw13278107050013810145:=0
def tw12258186964647426266:=0
def tw3684305594484049274:=0
def tw1743069351796879138:=0
def tw1590589772415824401:=0
def tw13266266482749941135:=0
def tw9284728431172291131:=0
def tw7202625018073240104:=0
def tw2463688155205908848:=0
def tw2016277135460320283:=0
def tw11366127224520546320:=0
def tw16347533589120555862:=0
def tw11207941388860430380:=0
def tw8319259515784683086:=0
def tw8008481975579008980:=0
def tw17335028798581259996:=0
def tw4552996810848723838:=0
def tw10735865017313163356:=0
def tw15979059276189682414:=0
def tw9671132220049404114:=0
def tw3918361390804470713:=0
def tw1775329204604080805:=0
def tw17886797231142071624:=0
def tw7410854685043194604:=0
def tw6970647329672767832:=0
def tw9869688924614470331:=0
def tw12487545203195090673:=0
def tw8476776316097825438:=0
def tw9422171067024706912:=0
def tw4634173511290641520:=0
def tw2841216666672894193:=0
def tw18300157255632163587:=0
def tw14977339933492465525:=0
def tw1811705816119796281:=0
def tw17917909980659440325:=0
def tw3231049049365524045:=0
def tw5047266249716493430:=0
def tw11901471686873841324:=0
def tw3771693307043713376:=0
def tw6292535274439265988:=0
def tw3933021538742204435:=0
def tw6584030621681362423:=0
def tw9383841927001420972:=0
def tw9518259344795776553:=0
def tw3401731649532729759:=0
def tw8293895270012024317:=0
def tw10015258155782395974:=0
def tw5713650307436732263:=0
def tw18051927201359767443:=0
def tw5575522429224565098:=0
def tw9887007236020925524:=0
def tw15180749553469604521:=0
def tw15990729542333307374:=0
def tw2543535944145531114:=0
def tw5222991941943479316:=0
def tw1097618378696098271:=0
def tw13917134428581811048:=0
def tw5766961248726315402:=0
def tw12997383323647057685:=0
def tw6348148231006819:=0
def tw10066853801527592889:=0
def tw9329891492290319985:=0
def tw6152145968593809385:=0
def tw17611926358203614842:=0
def tw10234527566819749374:=0
def tw10401449147732176035:=0
def tw8286861330468081407:=0
def tw964808202572382093:=0
def tw7208141956935619765:=0
def tw17033729747539036961:=0
def tw12637927932466652231:=0
def tw8723739564466931350:=0
def tw1986733593853128761:=0
def tw10240697258114444089:=0
def tw657577019380516159:=0
def tw5185004508718438148:=0
def tw11640489024968070898:=0
def tw7454687271889103901:=0
def tw1775162793979478891:=0
def tw12508072602555484047:=0
def tw4712891291898283024:=0
def tw11578623760631275514:=0
def tw2261693752907558947:=0
def tw2843261162168988098:=0
def tw1376840688634008258:=0
def tw4549913956292076554:=0
def tw14458729615951592692:=0
def tw6872695264649166176:=0
def tw6115833848110036416:=0
def tw6354214506011097720:=0
def tw13183979082449059667:=0
def tw1641327487972967872:=0
def tw18087542615577208255:=0
def tw4871291131493993997:=0
def tw11977704743020623493:=0
def tw17475853952724972388:=0
def tw9882363289683994937:=0
def tw11817045297886796838:=0
def tw7982973967062819645:=0
def tw3179131991989151577:=0
def tw10990539986646932251:=0
def tw8839063549414469119:=0
def tw6557667489584235885:=0
end PySem.W.Fast
namespace K13.Internal
open PySem L2.Internal
theorem all_mk {l:PySem.W.OpenLaw} {w:World} {K:PySem.W.Frag} {h:Heap} {mg:Str->Option Value} {fa fL:Addr} (X:K.In h) (G:h.Ns mainGlobals mg) (hfa:mg "law"=some (.ref fa))
  {u1 u2 u3 w4_0 w4_1 w4_2 w4_3 w4_4 w4_5 w4_6 w4_7 w4_8 w4_9 w4_10 w4_11 w4_12 w4_13 w4_14 u5 u6 u7 u8 u9 u10 u11 u12 tD1 tD2 tD3 tD4 tD5 tD6 tD7 tD8 tD9 tD10 tD11 uD1_0 uD1_1 uD2_0 uD2_1 uD3_0 uD3_1 uD3_2 uD4_0 uD4_1 uD5_0 uD5_1 uD6_0 uD6_1 uD6_2 uD7_0 uD7_1 uD8_0 uD9_0 uD9_1 uD10_0 uD10_1 uD11_0 uD11_1:Tok} {p4 f13 f14 f15 f16 f17 f18 f19 f20 f21 f22 f23 f24 f25 f26 f27 f28 f29 f30 f31 f32 f33 f34 f35 f36 f37 f38 f39 C40 C41 C42 C43 C44 f45 xN44 C46 C47 C48 C49 C50 f51 C52 f53 f54 f55 f56 f57 f58 f59 f60 f61 f62 f63 f64 pD qD1 qD2 qD3 qD4 qD5 qD6 qD7 qD8 qD9 qD10 qD11:Addr} {od4 od13 an13 od14 an14 od15 an15 od16 an16 od17 an17 od18 an18 od19 an19 od20 an20 od21 an21 od22 an22 od23 an23 od24 an24 od25 an25 od26 an26 od27 an27 od28 an28 od29 an29 od30 an30 od31 an31 od32 an32 od33 an33 od34 an34 od35 an35 od36 an36 od37 an37 od38 an38 od39 an39 od45 an45 xd44 od51 an51 od53 an53 od54 an54 od55 an55 od56 an56 od57 an57 od58 an58 od59 an59 od60 an60 od61 an61 od62 an62 od63 an63 od64 an64 odD1 odD2 odD3 odD4 odD5 odD6 odD7 odD8 odD9 odD10 odD11 odL anL:Option Addr} {n4 nD nD1 nD2 nD3 nD4 nD5 nD6 nD7 nD8 nD9 nD10 nD11:Nat} {sl4 sl13 sl14 sl15 sl16 sl17 sl18 sl19 sl20 sl21 sl22 sl23 sl24 sl25 sl26 sl27 sl28 sl29 sl30 sl31 sl32 sl33 sl34 sl35 sl36 sl37 sl38 sl39 sl45 sl51 sl53 sl54 sl55 sl56 sl57 sl58 sl59 sl60 sl61 sl62 sl63 sl64 slD1 slD2 slD3 slD4 slD5 slD6 slD7 slD8 slD9 slD10 slD11 slL:Array (Option Value)} {oc13 kV13 dc13 pm13 cd13 ct13 oc14 kV14 dc14 pm14 cd14 ct14 oc15 kV15 dc15 pm15 cd15 ct15 oc16 kV16 dc16 pm16 cd16 ct16 oc17 kV17 dc17 pm17 cd17 ct17 oc18 kV18 dc18 pm18 cd18 ct18 oc19 kV19 dc19 pm19 cd19 ct19 oc20 kV20 dc20 pm20 cd20 ct20 oc21 kV21 dc21 pm21 cd21 ct21 oc22 kV22 dc22 pm22 cd22 ct22 oc23 kV23 dc23 pm23 cd23 ct23 oc24 kV24 dc24 pm24 cd24 ct24 oc25 kV25 dc25 pm25 cd25 ct25 oc26 kV26 dc26 pm26 cd26 ct26 oc27 kV27 dc27 pm27 cd27 ct27 oc28 kV28 dc28 pm28 cd28 ct28 oc29 kV29 dc29 pm29 cd29 ct29 oc30 kV30 dc30 pm30 cd30 ct30 oc31 kV31 dc31 pm31 cd31 ct31 oc32 kV32 dc32 pm32 cd32 ct32 oc33 kV33 dc33 pm33 cd33 ct33 oc34 kV34 dc34 pm34 cd34 ct34 oc35 kV35 dc35 pm35 cd35 ct35 oc36 kV36 dc36 pm36 cd36 ct36 oc37 kV37 dc37 pm37 cd37 ct37 oc38 kV38 dc38 pm38 cd38 ct38 oc39 kV39 dc39 pm39 cd39 ct39 oc45 kV45 dc45 pm45 cd45 ct45 oc51 kV51 dc51 pm51 cd51 ct51 oc53 kV53 dc53 pm53 cd53 ct53 oc54 kV54 dc54 pm54 cd54 ct54 oc55 kV55 dc55 pm55 cd55 ct55 oc56 kV56 dc56 pm56 cd56 ct56 oc57 kV57 dc57 pm57 cd57 ct57 oc58 kV58 dc58 pm58 cd58 ct58 oc59 kV59 dc59 pm59 cd59 ct59 oc60 kV60 dc60 pm60 cd60 ct60 oc61 kV61 dc61 pm61 cd61 ct61 oc62 kV62 dc62 pm62 cd62 ct62 oc63 kV63 dc63 pm63 cd63 ct63 oc64 kV64 dc64 pm64 cd64 ct64 ocL kVL dcL pmL cdL ctL:Value} {xn44 xq44:Str} {xb44 xm44 xu44:List Value} {xs44:List Str} {xa44:Bool} {xo44:Option Bool} {xk44_0 xk44_1 xk44_2 xk44_3 xk44_5:Option Value}
  (g1:eX K mainGlobals "MOST_WEIGHT"=some (some (.int 60 u1)))
  (g2:eX K mainGlobals "LETTERS"=some (some (.str "abcdefghijklmnopqrstuvwxyz" u2)))
  (g3:eX K mainGlobals "FIGURES"=some (some (.str "0123456789" u3)))
  (g4:eX K mainGlobals "KEPT_WORDS"=some (some (.ref p4)))
  (h4:K.lookup p4=some ⟨.type "tuple",od4,.seq #[.str "def" w4_0,.str "fn" w4_1,.str "call" w4_2,.str "let" w4_3,.str "rec" w4_4,.str "get" w4_5,.str "tag" w4_6,.str "case" w4_7,.str "row" w4_8,.str "at" w4_9,.str "join" w4_10,.str "size" w4_11,.str "add" w4_12,.str "sub" w4_13,.str "less" w4_14] n4,sl4⟩)
  (g5:eX K mainGlobals "MOST_FIGURES"=some (some (.int 60 u5)))
  (g6:eX K mainGlobals "MOST_SIGNS"=some (some (.int 12 u6)))
  (g7:eX K mainGlobals "MOST_DEFINITIONS"=some (some (.int 12 u7)))
  (g8:eX K mainGlobals "MOST_FIELDS"=some (some (.int 6 u8)))
  (g9:eX K mainGlobals "MOST_ARMS"=some (some (.int 6 u9)))
  (g10:eX K mainGlobals "MOST_THINGS"=some (some (.int 8 u10)))
  (g11:eX K mainGlobals "MOST_PLACES"=some (some (.int 160 u11)))
  (g12:eX K mainGlobals "MOST_NEST"=some (some (.int 24 u12)))
  (a13:eX K mainGlobals "parts_of"=some (some (.ref f13)))
  (l13:K.lookup f13=some ⟨oc13,od13,.func (eN "parts_of" "parts_of" (hG kj) (gW kj) (gI kj) .none kV13 dc13 pm13 an13 cd13 ct13),sl13⟩)
  (c13:eO K cd13 "parts_of"=true)
  (k13:eA K (.ref f13)=true)
  (a14:eX K mainGlobals "places_in"=some (some (.ref f14)))
  (l14:K.lookup f14=some ⟨oc14,od14,.func (eN "places_in" "places_in" (hG jU) (gW jU) (gI jU) .none kV14 dc14 pm14 an14 cd14 ct14),sl14⟩)
  (c14:eO K cd14 "places_in"=true)
  (k14:eA K (.ref f14)=true)
  (a15:eX K mainGlobals "flat"=some (some (.ref f15)))
  (l15:K.lookup f15=some ⟨oc15,od15,.func (eN "flat" "flat" (hG pJ) (gW pJ) (gI pJ) .none kV15 dc15 pm15 an15 cd15 ct15),sl15⟩)
  (c15:eO K cd15 "flat"=true)
  (k15:eA K (.ref f15)=true)
  (a16:eX K mainGlobals "stands_in"=some (some (.ref f16)))
  (l16:K.lookup f16=some ⟨oc16,od16,.func (eN "stands_in" "stands_in" (hG jV) (gW jV) (gI jV) .none kV16 dc16 pm16 an16 cd16 ct16),sl16⟩)
  (c16:eO K cd16 "stands_in"=true)
  (k16:eA K (.ref f16)=true)
  (a17:eX K mainGlobals "weights_of"=some (some (.ref f17)))
  (l17:K.lookup f17=some ⟨oc17,od17,.func (eN "weights_of" "weights_of" (hG jx) (gW jx) (gI jx) .none kV17 dc17 pm17 an17 cd17 ct17),sl17⟩)
  (c17:eO K cd17 "weights_of"=true)
  (k17:eA K (.ref f17)=true)
  (a18:eX K mainGlobals "inside_out"=some (some (.ref f18)))
  (l18:K.lookup f18=some ⟨oc18,od18,.func (eN "inside_out" "inside_out" (hG jy) (gW jy) (gI jy) .none kV18 dc18 pm18 an18 cd18 ct18),sl18⟩)
  (c18:eO K cd18 "inside_out"=true)
  (k18:eA K (.ref f18)=true)
  (a19:eX K mainGlobals "weight_of"=some (some (.ref f19)))
  (l19:K.lookup f19=some ⟨oc19,od19,.func (eN "weight_of" "weight_of" (hG jW) (gW jW) (gI jW) .none kV19 dc19 pm19 an19 cd19 ct19),sl19⟩)
  (c19:eO K cd19 "weight_of"=true)
  (k19:eA K (.ref f19)=true)
  (a20:eX K mainGlobals "homes_of"=some (some (.ref f20)))
  (l20:K.lookup f20=some ⟨oc20,od20,.func (eN "homes_of" "homes_of" (hG km) (gW km) (gI km) .none kV20 dc20 pm20 an20 cd20 ct20),sl20⟩)
  (c20:eO K cd20 "homes_of"=true)
  (k20:eA K (.ref f20)=true)
  (a21:eX K mainGlobals "refuse_twice"=some (some (.ref f21)))
  (l21:K.lookup f21=some ⟨oc21,od21,.func (eN "refuse_twice" "refuse_twice" (hG i5) (gW i5) (gI i5) .none kV21 dc21 pm21 an21 cd21 ct21),sl21⟩)
  (c21:eO K cd21 "refuse_twice"=true)
  (k21:eA K (.ref f21)=true)
  (a22:eX K mainGlobals "words_once"=some (some (.ref f22)))
  (l22:K.lookup f22=some ⟨oc22,od22,.func (eN "words_once" "words_once" (hG jz) (gW jz) (gI jz) .none kV22 dc22 pm22 an22 cd22 ct22),sl22⟩)
  (c22:eO K cd22 "words_once"=true)
  (k22:eA K (.ref f22)=true)
  (a23:eX K mainGlobals "home_of"=some (some (.ref f23)))
  (l23:K.lookup f23=some ⟨oc23,od23,.func (eN "home_of" "home_of" (hG k9) (gW k9) (gI k9) .none kV23 dc23 pm23 an23 cd23 ct23),sl23⟩)
  (c23:eO K cd23 "home_of"=true)
  (k23:eA K (.ref f23)=true)
  (a24:eX K mainGlobals "root_scopes"=some (some (.ref f24)))
  (l24:K.lookup f24=some ⟨oc24,od24,.func (eN "root_scopes" "root_scopes" (hG jj) (gW jj) (gI jj) .none kV24 dc24 pm24 an24 cd24 ct24),sl24⟩)
  (c24:eO K cd24 "root_scopes"=true)
  (k24:eA K (.ref f24)=true)
  (a25:eX K mainGlobals "inner_scopes"=some (some (.ref f25)))
  (l25:K.lookup f25=some ⟨oc25,od25,.func (eN "inner_scopes" "inner_scopes" (hG i6) (gW i6) (gI i6) .none kV25 dc25 pm25 an25 cd25 ct25),sl25⟩)
  (c25:eO K cd25 "inner_scopes"=true)
  (k25:eA K (.ref f25)=true)
  (a26:eX K mainGlobals "widened"=some (some (.ref f26)))
  (l26:K.lookup f26=some ⟨oc26,od26,.func (eN "widened" "widened" (hG lg) (gW lg) (gI lg) .none kV26 dc26 pm26 an26 cd26 ct26),sl26⟩)
  (c26:eO K cd26 "widened"=true)
  (k26:eA K (.ref f26)=true)
  (a27:eX K mainGlobals "words_of"=some (some (.ref f27)))
  (l27:K.lookup f27=some ⟨oc27,od27,.func (eN "words_of" "words_of" (hG ko) (gW ko) (gI ko) .none kV27 dc27 pm27 an27 cd27 ct27),sl27⟩)
  (c27:eO K cd27 "words_of"=true)
  (k27:eA K (.ref f27)=true)
  (a28:eX K mainGlobals "is_name"=some (some (.ref f28)))
  (l28:K.lookup f28=some ⟨oc28,od28,.func (eN "is_name" "is_name" (hG lz) (gW lz) (gI lz) .none kV28 dc28 pm28 an28 cd28 ct28),sl28⟩)
  (c28:eO K cd28 "is_name"=true)
  (k28:eA K (.ref f28)=true)
  (a29:eX K mainGlobals "is_number"=some (some (.ref f29)))
  (l29:K.lookup f29=some ⟨oc29,od29,.func (eN "is_number" "is_number" (hG jX) (gW jX) (gI jX) .none kV29 dc29 pm29 an29 cd29 ct29),sl29⟩)
  (c29:eO K cd29 "is_number"=true)
  (k29:eA K (.ref f29)=true)
  (a30:eX K mainGlobals "made_of"=some (some (.ref f30)))
  (l30:K.lookup f30=some ⟨oc30,od30,.func (eN "made_of" "made_of" (hG lA) (gW lA) (gI lA) .none kV30 dc30 pm30 an30 cd30 ct30),sl30⟩)
  (c30:eO K cd30 "made_of"=true)
  (k30:eA K (.ref f30)=true)
  (a31:eX K mainGlobals "read"=some (some (.ref f31)))
  (l31:K.lookup f31=some ⟨oc31,od31,.func (eN "read" "read" (hG pK) (gW pK) (gI pK) .none kV31 dc31 pm31 an31 cd31 ct31),sl31⟩)
  (c31:eO K cd31 "read"=true)
  (k31:eA K (.ref f31)=true)
  (a32:eX K mainGlobals "check_count"=some (some (.ref f32)))
  (l32:K.lookup f32=some ⟨oc32,od32,.func (eN "check_count" "check_count" (hG jk) (gW jk) (gI jk) .none kV32 dc32 pm32 an32 cd32 ct32),sl32⟩)
  (c32:eO K cd32 "check_count"=true)
  (k32:eA K (.ref f32)=true)
  (a33:eX K mainGlobals "_law_stem"=some (some (.ref f33)))
  (l33:K.lookup f33=some ⟨oc33,od33,.func (eN "_law_stem" "_law_stem" (hG jY) (gW jY) (gI jY) .none kV33 dc33 pm33 an33 cd33 ct33),sl33⟩)
  (c33:eO K cd33 "_law_stem"=true)
  (k33:eA K (.ref f33)=true)
  (a34:eX K mainGlobals "_law_words"=some (some (.ref f34)))
  (l34:K.lookup f34=some ⟨oc34,od34,.func (eN "_law_words" "_law_words" (hG jA) (gW jA) (gI jA) .none kV34 dc34 pm34 an34 cd34 ct34),sl34⟩)
  (c34:eO K cd34 "_law_words"=true)
  (k34:eA K (.ref f34)=true)
  (a35:eX K mainGlobals "_law_row"=some (some (.ref f35)))
  (l35:K.lookup f35=some ⟨oc35,od35,.func (eN "_law_row" "_law_row" (hG ku) (gW ku) (gI ku) .none kV35 dc35 pm35 an35 cd35 ct35),sl35⟩)
  (c35:eO K cd35 "_law_row"=true)
  (k35:eA K (.ref f35)=true)
  (a36:eX K mainGlobals "_law_let"=some (some (.ref f36)))
  (l36:K.lookup f36=some ⟨oc36,od36,.func (eN "_law_let" "_law_let" (hG ky) (gW ky) (gI ky) .none kV36 dc36 pm36 an36 cd36 ct36),sl36⟩)
  (c36:eO K cd36 "_law_let"=true)
  (k36:eA K (.ref f36)=true)
  (a37:eX K mainGlobals "_law_filler"=some (some (.ref f37)))
  (l37:K.lookup f37=some ⟨oc37,od37,.func (eN "_law_filler" "_law_filler" (hG jm) (gW jm) (gI jm) .none kV37 dc37 pm37 an37 cd37 ct37),sl37⟩)
  (c37:eO K cd37 "_law_filler"=true)
  (k37:eA K (.ref f37)=true)
  (a38:eX K mainGlobals "_law_grown"=some (some (.ref f38)))
  (l38:K.lookup f38=some ⟨oc38,od38,.func (eN "_law_grown" "_law_grown" (hG jB) (gW jB) (gI jB) .none kV38 dc38 pm38 an38 cd38 ct38),sl38⟩)
  (c38:eO K cd38 "_law_grown"=true)
  (k38:eA K (.ref f38)=true)
  (a39:eX K mainGlobals "_law_text"=some (some (.ref f39)))
  (l39:K.lookup f39=some ⟨oc39,od39,.func (eN "_law_text" "_law_text" (hG jZ) (gW jZ) (gI jZ) .none kV39 dc39 pm39 an39 cd39 ct39),sl39⟩)
  (c39:eO K cd39 "_law_text"=true)
  (k39:eA K (.ref f39)=true)
  (a40:eX K mainGlobals "FlowError"=some (some (.ref C40)))
  (x40:eR K C40 [.type "ValueError",.type "Exception",.type "BaseException",.type "object"] "ValueError.__new__"=true)
  (a41:eX K mainGlobals "BadText"=some (some (.ref C41)))
  (x41:eR K C41 [.type "ValueError",.type "Exception",.type "BaseException",.type "object"] "ValueError.__new__"=true)
  (a42:eX K mainGlobals "Twice"=some (some (.ref C42)))
  (a43:eX K mainGlobals "NoName"=some (some (.ref C43)))
  (a44:eX K mainGlobals "TooHeavy"=some (some (.ref C44)))
  (xl44:K.lookup C44=some ⟨.type "type",xd44,.cls ⟨xn44,xb44,.ref C44::xm44,xN44,xq44,true,xs44,xu44,xa44,xo44,false⟩,#[xk44_0,xk44_1,xk44_2,xk44_3,some (.builtin "ValueError.__new__"),xk44_5]⟩)
  (xi44:eX K xN44 "__init__"=some (some (.ref f45)))
  (l45:K.lookup f45=some ⟨oc45,od45,.func (eN "__init__" "TooHeavy.__init__" (hG ir) (gW ir) (gI ir) .none kV45 dc45 pm45 an45 cd45 ct45),sl45⟩)
  (c45:eO K cd45 "TooHeavy.__init__"=true)
  (k45:eA K (.ref f45)=true)
  (xz44:eY K xN44=true)
  (xt44:eZ K A3 xm44=true)
  (xp44:oc45= .type "function")
  (xj44:dR K (.ref C44) "__setattr__"=some (some (.builtin "object.__setattr__")))
  (xya44:dR K (.ref C44) "__getattribute__"=some (some (.builtin "BaseException.__getattribute__")))
  (xyb44:dR K (.ref C44) "__getattr__"=some none)
  (xyc44:dR K (.ref C44) "__class__"=some (some (.builtin "object.__class__")))
  (xyd44:eU K (.ref C44) (.type "BaseException")=some true)
  (xye44:eU K (.ref C44) (.type "object")=some true)
  (xyf44:dQ K C44=true)
  (xf44_word:dR K (.ref C44) "word"=some none)
  (a46:eX K mainGlobals "BadPaper"=some (some (.ref C46)))
  (x46:eR K C46 [.type "ValueError",.type "Exception",.type "BaseException",.type "object"] "ValueError.__new__"=true)
  (a47:eX K mainGlobals "WrongKind"=some (some (.ref C47)))
  (a48:eX K mainGlobals "OutOfTurns"=some (some (.ref C48)))
  (x48:eR K C48 [.type "ValueError",.type "Exception",.type "BaseException",.type "object"] "ValueError.__new__"=true)
  (a49:eX K mainGlobals "RowFull"=some (some (.ref C49)))
  (x49:eR K C49 [.type "ValueError",.type "Exception",.type "BaseException",.type "object"] "ValueError.__new__"=true)
  (a50:eX K mainGlobals "Program"=some (some (.ref C50)))
  (pg50:dP K C50 Str.empty=true)
  (hd50:dQ K C50=true)
  (po50:dX K C50=true)
  (sa50:dR K (.ref C50) "__setattr__"=some (some (.builtin "object.__setattr__")))
  (t1_50:dR K (.ref C50) "__class__"=some (some (.builtin "object.__class__")))
  (t2_50:eu K (.builtin "object.__class__") "__get__"=some (some (.builtin "getset_descriptor.__get__")))
  (t3_50:eB K (.builtin "object.__class__")=some true)
  (t4_50:eE K C50 (.type "object")=some true)
  (n50_names:dR K (.ref C50) "names"=some none)
  (n50_roots:dR K (.ref C50) "roots"=some none)
  (n50_rows:dR K (.ref C50) "rows"=some none)
  (i51:dR K (.ref C50) "__init__"=some (some (.ref f51)))
  (j51:dW K (.ref f51)=true)
  (l51:K.lookup f51=some ⟨oc51,od51,.func (eN "__init__" "Program.__init__" (hG iw) (gW iw) (gI iw) .none kV51 dc51 pm51 an51 cd51 ct51),sl51⟩)
  (c51:eO K cd51 "Program.__init__"=true)
  (k51:eA K (.ref f51)=true)
  (mk50:d7 K C50=true)
  (kc50:eA K (.ref C50)=true)
  (a52:eX K mainGlobals "Reader"=some (some (.ref C52)))
  (pg52:dP K C52 Str.empty=true)
  (hd52:dQ K C52=true)
  (po52:dX K C52=true)
  (sa52:dR K (.ref C52) "__setattr__"=some (some (.builtin "object.__setattr__")))
  (t1_52:dR K (.ref C52) "__class__"=some (some (.builtin "object.__class__")))
  (t2_52:eu K (.builtin "object.__class__") "__get__"=some (some (.builtin "getset_descriptor.__get__")))
  (t3_52:eB K (.builtin "object.__class__")=some true)
  (t4_52:eE K C52 (.type "object")=some true)
  (n52_words:dR K (.ref C52) "words"=some none)
  (n52_taken:dR K (.ref C52) "taken"=some none)
  (n52_rows:dR K (.ref C52) "rows"=some none)
  (i53:dR K (.ref C52) "__init__"=some (some (.ref f53)))
  (j53:dW K (.ref f53)=true)
  (l53:K.lookup f53=some ⟨oc53,od53,.func (eN "__init__" "Reader.__init__" (hG iE) (gW iE) (gI iE) .none kV53 dc53 pm53 an53 cd53 ct53),sl53⟩)
  (c53:eO K cd53 "Reader.__init__"=true)
  (k53:eA K (.ref f53)=true)
  (mk52:d7 K C52=true)
  (kc52:eA K (.ref C52)=true)
  (i54:dR K (.ref C52) "ahead"=some (some (.ref f54)))
  (j54:dW K (.ref f54)=true)
  (l54:K.lookup f54=some ⟨oc54,od54,.func (eN "ahead" "Reader.ahead" (hG i8) (gW i8) (gI i8) .none kV54 dc54 pm54 an54 cd54 ct54),sl54⟩)
  (c54:eO K cd54 "Reader.ahead"=true)
  (k54:eA K (.ref f54)=true)
  (i55:dR K (.ref C52) "take"=some (some (.ref f55)))
  (j55:dW K (.ref f55)=true)
  (l55:K.lookup f55=some ⟨oc55,od55,.func (eN "take" "Reader.take" (hG jo) (gW jo) (gI jo) .none kV55 dc55 pm55 an55 cd55 ct55),sl55⟩)
  (c55:eO K cd55 "Reader.take"=true)
  (k55:eA K (.ref f55)=true)
  (i56:dR K (.ref C52) "pass_over"=some (some (.ref f56)))
  (j56:dW K (.ref f56)=true)
  (l56:K.lookup f56=some ⟨oc56,od56,.func (eN "pass_over" "Reader.pass_over" (hG iy) (gW iy) (gI iy) .none kV56 dc56 pm56 an56 cd56 ct56),sl56⟩)
  (c56:eO K cd56 "Reader.pass_over"=true)
  (k56:eA K (.ref f56)=true)
  (i57:dR K (.ref C52) "take_name"=some (some (.ref f57)))
  (j57:dW K (.ref f57)=true)
  (l57:K.lookup f57=some ⟨oc57,od57,.func (eN "take_name" "Reader.take_name" (hG iz) (gW iz) (gI iz) .none kV57 dc57 pm57 an57 cd57 ct57),sl57⟩)
  (c57:eO K cd57 "Reader.take_name"=true)
  (k57:eA K (.ref f57)=true)
  (i58:dR K (.ref C52) "take_expr"=some (some (.ref f58)))
  (j58:dW K (.ref f58)=true)
  (l58:K.lookup f58=some ⟨oc58,od58,.func (eN "take_expr" "Reader.take_expr" (hG iA) (gW iA) (gI iA) .none kV58 dc58 pm58 an58 cd58 ct58),sl58⟩)
  (c58:eO K cd58 "Reader.take_expr"=true)
  (k58:eA K (.ref f58)=true)
  (i59:dR K (.ref C52) "take_row"=some (some (.ref f59)))
  (j59:dW K (.ref f59)=true)
  (l59:K.lookup f59=some ⟨oc59,od59,.func (eN "take_row" "Reader.take_row" (hG iF) (gW iF) (gI iF) .none kV59 dc59 pm59 an59 cd59 ct59),sl59⟩)
  (c59:eO K cd59 "Reader.take_row"=true)
  (k59:eA K (.ref f59)=true)
  (i60:dR K (.ref C52) "take_form"=some (some (.ref f60)))
  (j60:dW K (.ref f60)=true)
  (l60:K.lookup f60=some ⟨oc60,od60,.func (eN "take_form" "Reader.take_form" (hG iB) (gW iB) (gI iB) .none kV60 dc60 pm60 an60 cd60 ct60),sl60⟩)
  (c60:eO K cd60 "Reader.take_form"=true)
  (k60:eA K (.ref f60)=true)
  (i61:dR K (.ref C52) "take_steady"=some (some (.ref f61)))
  (j61:dW K (.ref f61)=true)
  (l61:K.lookup f61=some ⟨oc61,od61,.func (eN "take_steady" "Reader.take_steady" (hG ij) (gW ij) (gI ij) .none kV61 dc61 pm61 an61 cd61 ct61),sl61⟩)
  (c61:eO K cd61 "Reader.take_steady"=true)
  (k61:eA K (.ref f61)=true)
  (i62:dR K (.ref C52) "take_fields"=some (some (.ref f62)))
  (j62:dW K (.ref f62)=true)
  (l62:K.lookup f62=some ⟨oc62,od62,.func (eN "take_fields" "Reader.take_fields" (hG ik) (gW ik) (gI ik) .none kV62 dc62 pm62 an62 cd62 ct62),sl62⟩)
  (c62:eO K cd62 "Reader.take_fields"=true)
  (k62:eA K (.ref f62)=true)
  (i63:dR K (.ref C52) "take_arms"=some (some (.ref f63)))
  (j63:dW K (.ref f63)=true)
  (l63:K.lookup f63=some ⟨oc63,od63,.func (eN "take_arms" "Reader.take_arms" (hG iC) (gW iC) (gI iC) .none kV63 dc63 pm63 an63 cd63 ct63),sl63⟩)
  (c63:eO K cd63 "Reader.take_arms"=true)
  (k63:eA K (.ref f63)=true)
  (i64:dR K (.ref C52) "take_things"=some (some (.ref f64)))
  (j64:dW K (.ref f64)=true)
  (l64:K.lookup f64=some ⟨oc64,od64,.func (eN "take_things" "Reader.take_things" (hG ip) (gW ip) (gI ip) .none kV64 dc64 pm64 an64 cd64 ct64),sl64⟩)
  (c64:eO K cd64 "Reader.take_things"=true)
  (k64:eA K (.ref f64)=true)
  (e_BadText_BadText:fc K (.ref C41) (.ref C41)=some true)
  (e_TooHeavy_FlowError:fc K (.ref C44) (.ref C40)=some true)
  (i_TooHeavy_TooHeavy:eF K (.ref C44) (.ref C44)=some true)
  (i_TooHeavy_ValueError:eF K (.ref C44) (.type "ValueError")=some true)
  (i_TooHeavy_BadPaper:eF K (.ref C44) (.ref C46)=some false)
  (i_TooHeavy_BadText:eF K (.ref C44) (.ref C41)=some false)
  (i_TooHeavy_NoName:eF K (.ref C44) (.ref C43)=some false)
  (i_TooHeavy_Twice:eF K (.ref C44) (.ref C42)=some false)
  (i_TooHeavy_OutOfTurns:eF K (.ref C44) (.ref C48)=some false)
  (i_TooHeavy_RowFull:eF K (.ref C44) (.ref C49)=some false)
  (i_TooHeavy_WrongKind:eF K (.ref C44) (.ref C47)=some false)
  (z_ValueError:eX K mainGlobals "ValueError"=some none)
  (z_all:eX K mainGlobals "all"=some none)
  (z_bool:eX K mainGlobals "bool"=some none)
  (z_dict:eX K mainGlobals "dict"=some none)
  (z_enumerate:eX K mainGlobals "enumerate"=some none)
  (z_int:eX K mainGlobals "int"=some none)
  (z_isinstance:eX K mainGlobals "isinstance"=some none)
  (z_len:eX K mainGlobals "len"=some none)
  (z_list:eX K mainGlobals "list"=some none)
  (z_max:eX K mainGlobals "max"=some none)
  (z_min:eX K mainGlobals "min"=some none)
  (z_range:eX K mainGlobals "range"=some none)
  (z_reversed:eX K mainGlobals "reversed"=some none)
  (z_str:eX K mainGlobals "str"=some none)
  (z_sum:eX K mainGlobals "sum"=some none)
  (z_tuple:eX K mainGlobals "tuple"=some none)
  (gD:eX K mainGlobals "STEADY_FORMS"=some (some (.ref pD)))
  (sD:(pD==sysModules)=false)
  (hD:K.lookup pD=some ⟨.type "dict",none,.dict #[⟨PyData.keyHash w.params "fn",.str "fn" tD1,.ref qD1⟩,⟨PyData.keyHash w.params "call",.str "call" tD2,.ref qD2⟩,⟨PyData.keyHash w.params "let",.str "let" tD3,.ref qD3⟩,⟨PyData.keyHash w.params "get",.str "get" tD4,.ref qD4⟩,⟨PyData.keyHash w.params "tag",.str "tag" tD5,.ref qD5⟩,⟨PyData.keyHash w.params "at",.str "at" tD6,.ref qD6⟩,⟨PyData.keyHash w.params "join",.str "join" tD7,.ref qD7⟩,⟨PyData.keyHash w.params "size",.str "size" tD8,.ref qD8⟩,⟨PyData.keyHash w.params "add",.str "add" tD9,.ref qD9⟩,⟨PyData.keyHash w.params "sub",.str "sub" tD10,.ref qD10⟩,⟨PyData.keyHash w.params "less",.str "less" tD11,.ref qD11⟩] nD,#[]⟩)
  (hD1:K.lookup qD1=some ⟨.type "tuple",odD1,.seq #[.str "name" uD1_0,.str "expr" uD1_1] nD1,slD1⟩)
  (hD2:K.lookup qD2=some ⟨.type "tuple",odD2,.seq #[.str "expr" uD2_0,.str "expr" uD2_1] nD2,slD2⟩)
  (hD3:K.lookup qD3=some ⟨.type "tuple",odD3,.seq #[.str "name" uD3_0,.str "expr" uD3_1,.str "expr" uD3_2] nD3,slD3⟩)
  (hD4:K.lookup qD4=some ⟨.type "tuple",odD4,.seq #[.str "expr" uD4_0,.str "name" uD4_1] nD4,slD4⟩)
  (hD5:K.lookup qD5=some ⟨.type "tuple",odD5,.seq #[.str "name" uD5_0,.str "expr" uD5_1] nD5,slD5⟩)
  (hD6:K.lookup qD6=some ⟨.type "tuple",odD6,.seq #[.str "expr" uD6_0,.str "expr" uD6_1,.str "expr" uD6_2] nD6,slD6⟩)
  (hD7:K.lookup qD7=some ⟨.type "tuple",odD7,.seq #[.str "expr" uD7_0,.str "expr" uD7_1] nD7,slD7⟩)
  (hD8:K.lookup qD8=some ⟨.type "tuple",odD8,.seq #[.str "expr" uD8_0] nD8,slD8⟩)
  (hD9:K.lookup qD9=some ⟨.type "tuple",odD9,.seq #[.str "expr" uD9_0,.str "expr" uD9_1] nD9,slD9⟩)
  (hD10:K.lookup qD10=some ⟨.type "tuple",odD10,.seq #[.str "expr" uD10_0,.str "expr" uD10_1] nD10,slD10⟩)
  (hD11:K.lookup qD11=some ⟨.type "tuple",odD11,.seq #[.str "expr" uD11_0,.str "expr" uD11_1] nD11,slD11⟩)
  (aL:eX K mainGlobals "law"=some (some (.ref fL))) (lL:K.lookup fL=some ⟨ocL,odL,.func (eN "law" "law" (hG rD) (gW rD) (gI rD) .none kVL dcL pmL anL cdL ctL),slL⟩) (cL:eO K cdL "law"=true) (kL:eA K (.ref fL)=true):
  ∃fd:FuncData,(∀(s:Shared) (v:Value),BindsTo s fd ⟨[v],[]⟩ [("_law_script",v)])/\∀base:Heap,K.In base->base.Ns mainGlobals mg->iK l.prog w K mg base CX0 150 fa fd ["_law_script"] (vM K):=by
 have e:=hfa.symm.trans (fg X G aL)
 cases e
 have T:Txt K mg:=⟨u1,fg X G g1,
  u2,fg X G g2,
  u3,fg X G g3,
  p4,fg X G g4,fun _=> .inr ⟨_,_,_,h4,rfl,rfl,(by show 15<=sizeLine;decide),(.cons ⟨_,rfl⟩ (.cons ⟨_,rfl⟩ (.cons ⟨_,rfl⟩ (.cons ⟨_,rfl⟩ (.cons ⟨_,rfl⟩ (.cons ⟨_,rfl⟩ (.cons ⟨_,rfl⟩ (.cons ⟨_,rfl⟩ (.cons ⟨_,rfl⟩ (.cons ⟨_,rfl⟩ (.cons ⟨_,rfl⟩ (.cons ⟨_,rfl⟩ (.cons ⟨_,rfl⟩ (.cons ⟨_,rfl⟩ (.cons ⟨_,rfl⟩ .nil)))))))))))))))⟩,
  u5,fg X G g5,
  u6,fg X G g6,
  u7,fg X G g7,
  u8,fg X G g8,
  u9,fg X G g9,
  u10,fg X G g10,
  u11,fg X G g11,
  u12,fg X G g12,
  f13,_,gQ (st:=kj) l13 c13 k13,(gQ (st:=kj) l13 c13 k13).binds (ps:=["row"]) (fun _ _ _ _ _ _=>lS (fun _=>l0 rfl)),fg X G a13,k13,
  f14,_,gQ (st:=jU) l14 c14 k14,(gQ (st:=jU) l14 c14 k14).binds (ps:=["row"]) (fun _ _ _ _ _ _=>lS (fun _=>l0 rfl)),fg X G a14,k14,
  f15,_,gQ (st:=pJ) l15 c15 k15,(gQ (st:=pJ) l15 c15 k15).binds (ps:=["parts"]) (fun _ _ _ _ _ _=>lS (fun _=>l0 rfl)),fg X G a15,k15,
  f16,_,gQ (st:=jV) l16 c16 k16,(gQ (st:=jV) l16 c16 k16).binds (ps:=["program","place","number"]) (fun _ _ _ _ _ _=>lS (fun _=>lS (fun _=>lS (fun _=>l0 rfl)))),fg X G a16,k16,
  f17,_,gQ (st:=jx) l17 c17 k17,(gQ (st:=jx) l17 c17 k17).binds (ps:=["program","homes"]) (fun _ _ _ _ _ _=>lS (fun _=>lS (fun _=>l0 rfl))),fg X G a17,k17,
  f18,_,gQ (st:=jy) l18 c18 k18,(gQ (st:=jy) l18 c18 k18).binds (ps:=["rows","root"]) (fun _ _ _ _ _ _=>lS (fun _=>lS (fun _=>l0 rfl))),fg X G a18,k18,
  f19,_,gQ (st:=jW) l19 c19 k19,(gQ (st:=jW) l19 c19 k19).binds (ps:=["program","homes","place","weights"]) (fun _ _ _ _ _ _=>lS (fun _=>lS (fun _=>lS (fun _=>lS (fun _=>l0 rfl))))),fg X G a19,k19,
  f20,_,gQ (st:=km) l20 c20 k20,(gQ (st:=km) l20 c20 k20).binds (ps:=["program"]) (fun _ _ _ _ _ _=>lS (fun _=>l0 rfl)),fg X G a20,k20,
  f21,_,gQ (st:=i5) l21 c21 k21,(gQ (st:=i5) l21 c21 k21).binds (ps:=["words"]) (fun _ _ _ _ _ _=>lS (fun _=>l0 rfl)),fg X G a21,k21,
  f22,_,gQ (st:=jz) l22 c22 k22,(gQ (st:=jz) l22 c22 k22).binds (ps:=["row"]) (fun _ _ _ _ _ _=>lS (fun _=>l0 rfl)),fg X G a22,k22,
  f23,_,gQ (st:=k9) l23 c23 k23,(gQ (st:=k9) l23 c23 k23).binds (ps:=["row","place","scope"]) (fun _ _ _ _ _ _=>lS (fun _=>lS (fun _=>lS (fun _=>l0 rfl)))),fg X G a23,k23,
  f24,_,gQ (st:=jj) l24 c24 k24,(gQ (st:=jj) l24 c24 k24).binds (ps:=["program"]) (fun _ _ _ _ _ _=>lS (fun _=>l0 rfl)),fg X G a24,k24,
  f25,_,gQ (st:=i6) l25 c25 k25,(gQ (st:=i6) l25 c25 k25).binds (ps:=["row","scope"]) (fun _ _ _ _ _ _=>lS (fun _=>lS (fun _=>l0 rfl))),fg X G a25,k25,
  f26,_,gQ (st:=lg) l26 c26 k26,(gQ (st:=lg) l26 c26 k26).binds (ps:=["scope","name","home"]) (fun _ _ _ _ _ _=>lS (fun _=>lS (fun _=>lS (fun _=>l0 rfl)))),fg X G a26,k26,
  f27,_,gQ (st:=ko) l27 c27 k27,(gQ (st:=ko) l27 c27 k27).binds (ps:=["text"]) (fun _ _ _ _ _ _=>lS (fun _=>l0 rfl)),fg X G a27,k27,
  f28,_,gQ (st:=lz) l28 c28 k28,(gQ (st:=lz) l28 c28 k28).binds (ps:=["word"]) (fun _ _ _ _ _ _=>lS (fun _=>l0 rfl)),fg X G a28,k28,
  f29,_,gQ (st:=jX) l29 c29 k29,(gQ (st:=jX) l29 c29 k29).binds (ps:=["word"]) (fun _ _ _ _ _ _=>lS (fun _=>l0 rfl)),fg X G a29,k29,
  f30,_,gQ (st:=lA) l30 c30 k30,(gQ (st:=lA) l30 c30 k30).binds (ps:=["word","signs"]) (fun _ _ _ _ _ _=>lS (fun _=>lS (fun _=>l0 rfl))),fg X G a30,k30,
  f31,_,gQ (st:=pK) l31 c31 k31,(gQ (st:=pK) l31 c31 k31).binds (ps:=["text"]) (fun _ _ _ _ _ _=>lS (fun _=>l0 rfl)),fg X G a31,k31,
  f32,_,gQ (st:=jk) l32 c32 k32,(gQ (st:=jk) l32 c32 k32).binds (ps:=["what","count","least","most"]) (fun _ _ _ _ _ _=>lS (fun _=>lS (fun _=>lS (fun _=>lS (fun _=>l0 rfl))))),fg X G a32,k32,
  f33,_,gQ (st:=jY) l33 c33 k33,(gQ (st:=jY) l33 c33 k33).binds (ps:=["_law_cell","_law_size"]) (fun _ _ _ _ _ _=>lS (fun _=>lS (fun _=>l0 rfl))),fg X G a33,k33,
  f34,_,gQ (st:=jA) l34 c34 k34,(gQ (st:=jA) l34 c34 k34).binds (ps:=["_law_cell"]) (fun _ _ _ _ _ _=>lS (fun _=>l0 rfl)),fg X G a34,k34,
  f35,_,gQ (st:=ku) l35 c35 k35,(gQ (st:=ku) l35 c35 k35).binds (ps:=["_law_things"]) (fun _ _ _ _ _ _=>lS (fun _=>l0 rfl)),fg X G a35,k35,
  f36,_,gQ (st:=ky) l36 c36 k36,(gQ (st:=ky) l36 c36 k36).binds (ps:=["_law_word","_law_things","_law_times"]) (fun _ _ _ _ _ _=>lS (fun _=>lS (fun _=>lS (fun _=>l0 rfl)))),fg X G a36,k36,
  f37,_,gQ (st:=jm) l37 c37 k37,(gQ (st:=jm) l37 c37 k37).binds (ps:=["_law_weight"]) (fun _ _ _ _ _ _=>lS (fun _=>l0 rfl)),fg X G a37,k37,
  f38,_,gQ (st:=jB) l38 c38 k38,(gQ (st:=jB) l38 c38 k38).binds (ps:=["_law_words_here","_law_made","_law_things","_law_cell","_law_room"]) (fun _ _ _ _ _ _=>lS (fun _=>lS (fun _=>lS (fun _=>lS (fun _=>lS (fun _=>l0 rfl)))))),fg X G a38,k38,
  f39,_,gQ (st:=jZ) l39 c39 k39,(gQ (st:=jZ) l39 c39 k39).binds (ps:=["_law_words_here","_law_seed","_law_cells"]) (fun _ _ _ _ _ _=>lS (fun _=>lS (fun _=>lS (fun _=>l0 rfl)))),fg X G a39,k39,
  C40,fg X G a40,x40,
  C41,fg X G a41,x41,
  C42,fg X G a42,
  C43,fg X G a43,
  C44,fg X G a44,f45,_,gQ (st:=ir) l45 c45 k45,(gQ (st:=ir) l45 c45 k45).binds (ps:=["self","word"]) (fun _ _ _ _ _ _=>lS (fun _=>lS (fun _=>l0 rfl))),Em xl44 xz44 xi44 xt44 l45 xp44,El xl44 xt44 ⟨xya44,xyb44,xyc44,xyd44,xye44,xyf44⟩ xj44,xf44_word,
  C46,fg X G a46,x46,
  C47,fg X G a47,
  C48,fg X G a48,x48,
  C49,fg X G a49,x49,
  C50,fg X G a50,⟨pg50,hd50,po50,sa50⟩,fun _ _ _ _ e=> .ins e ⟨pg50,hd50,po50,sa50⟩ t1_50 t2_50 t3_50 t4_50,n50_names,n50_roots,n50_rows,f51,_,gQ (st:=iw) l51 c51 k51,(gQ (st:=iw) l51 c51 k51).binds (ps:=["self","names","roots","rows"]) (fun _ _ _ _ _ _=>lS (fun _=>lS (fun _=>lS (fun _=>lS (fun _=>l0 rfl))))),⟨mk50,i51,j51,kc50⟩,
  C52,fg X G a52,⟨pg52,hd52,po52,sa52⟩,fun _ _ _ _ e=> .ins e ⟨pg52,hd52,po52,sa52⟩ t1_52 t2_52 t3_52 t4_52,n52_words,n52_taken,n52_rows,f53,_,gQ (st:=iE) l53 c53 k53,(gQ (st:=iE) l53 c53 k53).binds (ps:=["self","words"]) (fun _ _ _ _ _ _=>lS (fun _=>lS (fun _=>l0 rfl))),⟨mk52,i53,j53,kc52⟩,f54,_,gQ (st:=i8) l54 c54 k54,(gQ (st:=i8) l54 c54 k54).binds (ps:=["self"]) (fun _ _ _ _ _ _=>lS (fun _=>l0 rfl)),⟨i54,j54,k54⟩,f55,_,gQ (st:=jo) l55 c55 k55,(gQ (st:=jo) l55 c55 k55).binds (ps:=["self"]) (fun _ _ _ _ _ _=>lS (fun _=>l0 rfl)),⟨i55,j55,k55⟩,f56,_,gQ (st:=iy) l56 c56 k56,(gQ (st:=iy) l56 c56 k56).binds (ps:=["self","wanted"]) (fun _ _ _ _ _ _=>lS (fun _=>lS (fun _=>l0 rfl))),⟨i56,j56,k56⟩,f57,_,gQ (st:=iz) l57 c57 k57,(gQ (st:=iz) l57 c57 k57).binds (ps:=["self"]) (fun _ _ _ _ _ _=>lS (fun _=>l0 rfl)),⟨i57,j57,k57⟩,f58,_,gQ (st:=iA) l58 c58 k58,(gQ (st:=iA) l58 c58 k58).binds (ps:=["self","depth"]) (fun _ _ _ _ _ _=>lS (fun _=>lS (fun _=>l0 rfl))),⟨i58,j58,k58⟩,f59,_,gQ (st:=iF) l59 c59 k59,(gQ (st:=iF) l59 c59 k59).binds (ps:=["self","depth"]) (fun _ _ _ _ _ _=>lS (fun _=>lS (fun _=>l0 rfl))),⟨i59,j59,k59⟩,f60,_,gQ (st:=iB) l60 c60 k60,(gQ (st:=iB) l60 c60 k60).binds (ps:=["self","head","depth"]) (fun _ _ _ _ _ _=>lS (fun _=>lS (fun _=>lS (fun _=>l0 rfl)))),⟨i60,j60,k60⟩,f61,_,gQ (st:=ij) l61 c61 k61,(gQ (st:=ij) l61 c61 k61).binds (ps:=["self","parts","depth"]) (fun _ _ _ _ _ _=>lS (fun _=>lS (fun _=>lS (fun _=>l0 rfl)))),⟨i61,j61,k61⟩,f62,_,gQ (st:=ik) l62 c62 k62,(gQ (st:=ik) l62 c62 k62).binds (ps:=["self","depth"]) (fun _ _ _ _ _ _=>lS (fun _=>lS (fun _=>l0 rfl))),⟨i62,j62,k62⟩,f63,_,gQ (st:=iC) l63 c63 k63,(gQ (st:=iC) l63 c63 k63).binds (ps:=["self","depth"]) (fun _ _ _ _ _ _=>lS (fun _=>lS (fun _=>l0 rfl))),⟨i63,j63,k63⟩,f64,_,gQ (st:=ip) l64 c64 k64,(gQ (st:=ip) l64 c64 k64).binds (ps:=["self","depth"]) (fun _ _ _ _ _ _=>lS (fun _=>lS (fun _=>l0 rfl))),⟨i64,j64,k64⟩,
  e_BadText_BadText,
  e_TooHeavy_FlowError,
  i_TooHeavy_TooHeavy,
  i_TooHeavy_ValueError,
  i_TooHeavy_BadPaper,
  i_TooHeavy_BadText,
  i_TooHeavy_NoName,
  i_TooHeavy_Twice,
  i_TooHeavy_OutOfTurns,
  i_TooHeavy_RowFull,
  i_TooHeavy_WrongKind,
  fh X G z_ValueError,
  fh X G z_all,
  fh X G z_bool,
  fh X G z_dict,
  fh X G z_enumerate,
  fh X G z_int,
  fh X G z_isinstance,
  fh X G z_len,
  fh X G z_list,
  fh X G z_max,
  fh X G z_min,
  fh X G z_range,
  fh X G z_reversed,
  fh X G z_str,
  fh X G z_sum,
  fh X G z_tuple⟩
 exact⟨eN "law" "law" (hG rD) (gW rD) (gI rD) .none kVL dcL pmL anL cdL ctL,fun s v=> .of_eq rfl,fun base _ _=>Dl T (wy (fg X G gD) sD hD (fun _=> .inr ⟨_,_,_,hD1,rfl,rfl,(by show 2<=sizeLine;decide),(.cons ⟨_,rfl⟩ (.cons ⟨_,rfl⟩ .nil))⟩) (fun _=> .inr ⟨_,_,_,hD2,rfl,rfl,(by show 2<=sizeLine;decide),(.cons ⟨_,rfl⟩ (.cons ⟨_,rfl⟩ .nil))⟩) (fun _=> .inr ⟨_,_,_,hD3,rfl,rfl,(by show 3<=sizeLine;decide),(.cons ⟨_,rfl⟩ (.cons ⟨_,rfl⟩ (.cons ⟨_,rfl⟩ .nil)))⟩) (fun _=> .inr ⟨_,_,_,hD4,rfl,rfl,(by show 2<=sizeLine;decide),(.cons ⟨_,rfl⟩ (.cons ⟨_,rfl⟩ .nil))⟩) (fun _=> .inr ⟨_,_,_,hD5,rfl,rfl,(by show 2<=sizeLine;decide),(.cons ⟨_,rfl⟩ (.cons ⟨_,rfl⟩ .nil))⟩) (fun _=> .inr ⟨_,_,_,hD6,rfl,rfl,(by show 3<=sizeLine;decide),(.cons ⟨_,rfl⟩ (.cons ⟨_,rfl⟩ (.cons ⟨_,rfl⟩ .nil)))⟩) (fun _=> .inr ⟨_,_,_,hD7,rfl,rfl,(by show 2<=sizeLine;decide),(.cons ⟨_,rfl⟩ (.cons ⟨_,rfl⟩ .nil))⟩) (fun _=> .inr ⟨_,_,_,hD8,rfl,rfl,(by show 1<=sizeLine;decide),(.cons ⟨_,rfl⟩ .nil)⟩) (fun _=> .inr ⟨_,_,_,hD9,rfl,rfl,(by show 2<=sizeLine;decide),(.cons ⟨_,rfl⟩ (.cons ⟨_,rfl⟩ .nil))⟩) (fun _=> .inr ⟨_,_,_,hD10,rfl,rfl,(by show 2<=sizeLine;decide),(.cons ⟨_,rfl⟩ (.cons ⟨_,rfl⟩ .nil))⟩) (fun _=> .inr ⟨_,_,_,hD11,rfl,rfl,(by show 2<=sizeLine;decide),(.cons ⟨_,rfl⟩ (.cons ⟨_,rfl⟩ .nil))⟩)) (gQ (st:=rD) lL cL kL)⟩
theorem walk {l:PySem.W.OpenLaw} {q:Program} {loose:List Str} {XP:(Str->Option Value)->Heap->Prop} {YP:World->Heap->Prop} {d:DefRec} {K:Params->PySem.W.Frag} (hn:l.most=some 63) (hdf:d.params.defaults=[])
  (hY:∀(w:World) (h:Heap),YP w h->(K w.params).In h)
  (F:∀(w:World) (mg:Str->Option Value) (fa:Addr) (h:Heap),(K w.params).In h->h.Ns mainGlobals mg->mg d.name=some (.ref fa)->
   ∃fd:FuncData,(∀(s:Shared) (u:Value),BindsTo s fd ⟨[u],[]⟩ [("_law_script",u)])/\∀base:Heap,(K w.params).In base->base.Ns mainGlobals mg->iK l.prog w (K w.params) mg base CX0 150 fa fd ["_law_script"] (vM (K w.params))):
  PySem.W.WalkO q loose XP YP l.row.toRowW d [] (fun f vs=>PySem.call f vs):=
 L2.Internal.walk_of (n:=63) (k:=150) (x:="_law_script") (CX:=fun _=>CX0) (sp:=fun w=>vM (K w.params)) hn (by decide) hdf ⟨rfl,by decide,by decide⟩ hY F (fun _ _ a ns hl _ hS=>⟨a,ns,rfl,hS,hl,fun _=>rfl⟩) fun _ _ _ _ _ z=>z
end K13.Internal
open PySem PySem.W PyProof.Rows
set_option maxRecDepth 100000 in
set_option maxHeartbeats 0 in
theorem PySem.Challenge.cw_flowkinds_k13_too_heavy_holds : PySem.Challenge.rw_flowkinds_k13_too_heavy.Holds := by
 w_on; o_law; k_head; (case hw => w_witness2)
 k_fill
 refine K13.Internal.walk (l := PySem.Challenge.rw_flowkinds_k13_too_heavy) rfl rfl (fun w h Y => PySem.W.kIn_of Y) ?F
 case F =>
  intro w mg fa h KX G hmg
  apply K13.Internal.all_mk KX G hmg
  all_goals first | k_is | k_exc | kit_is | kts_exm | kernel_rfl | rfl
