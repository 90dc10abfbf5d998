import PyProof.Rows.All
import Wide.All
import OpenK.AllK
import Wide.FinOn
import Lean
import PyProof.EqAt
import PyProof.EqKinds
import PyProof.TupleCall
import PyProof.NeKinds
import PySem.Challenge.RW_flowkinds_k56_bears_goes_on
set_option Elab.async false
set_option linter.all false
set_option maxRecDepth 100000
set_option maxHeartbeats 4000000
set_option genInjectivity false
set_option genSizeOf false
set_option bootstrap.genMatcherCode false
set_option compiler.extract_closed false
theorem iT {c:Prop} {h:Decidable c} (hnc:¬c) {α:Sort u} {t e:α}:(ite c t e)=e:=if_neg hnc
theorem ja {c:Prop} {h:Decidable c} (hc:c) {α:Sort u} {t e:α}:(ite c t e)=t:=if_pos hc
theorem jJ {p:Prop} [Decidable p] (h:p):decide p=true:=decide_eq_true h
theorem jR {p:Prop} [Decidable p] (h:¬p):decide p=false:=decide_eq_false h
theorem iJ {p:Prop} (h:p:=by decide+kernel):p:=h
theorem sr:0<=PySem.sizeLine:=by decide
theorem vd:1<=PySem.sizeLine:=by decide
theorem jM:2<=PySem.sizeLine:=by decide
theorem sW:3<=PySem.sizeLine:=by decide
theorem Ju:4<=PySem.sizeLine:=by decide
theorem zln5:5<=PySem.sizeLine:=by decide
theorem zln6:6<=PySem.sizeLine:=by decide
theorem zln8:8<=PySem.sizeLine:=by decide
theorem zln9:9<=PySem.sizeLine:=by decide
open List renaming all_cons→bf,any_cons→aT,append_assoc→bD,append_nil→aF,cons_append→aU,drop_of_length_le→cm,eq_nil_of_length_eq_zero→bU,eq_of_mem_replicate→cg,filterMap→bz,filterMap_cons→ag,find?_cons→aS,forall_mem_cons→bV,getD_eq_getElem?_getD→br,getElem?_append_left→aN,getElem?_append_right→aM,getElem?_concat_length→bY,getElem?_cons_succ→bq,getElem?_eq_getElem→bj,getElem?_eq_none→bF,getElem?_eq_some_iff→aq,getElem?_map→aO,getElem?_range→bL,getElem?_set_ne→ax,getElem?_set_self→aw,getElem?_toArray→bu,getElem?_zip_eq_some→bO,getElem_inj→ar,getElem_mem→bw,length→aJ,length_append→aQ,length_cons→aB,length_drop→aX,length_dropLast→aZ,length_filter_le→bC,length_map→aE,length_range→b6,length_replicate→aR,length_set→cc,length_singleton→aY,length_take→aK,lookup→aC,lookup_cons→ba,map_append→bB,map_cons→aD,map_map→bZ,map_nil→aV,mem_append→ak,mem_append_left→ao,mem_append_right→az,mem_cons→aj,mem_cons_of_mem→ai,mem_cons_self→ah,mem_filter→ab,mem_filterMap→ay,mem_iff_getElem?→bN,mem_map→bp,mem_map_of_mem→bQ,mem_of_find?_eq_some→bM,mem_of_getElem?→aP,mem_of_mem_drop→cn,mem_of_mem_take→bI,mem_or_eq_of_mem_set→cf,mem_range→ae,mem_reverse→ck,mem_singleton→bh,nil_append→bR,nodup_append→bW,nodup_cons→aG,nodup_nil→aW,not_mem_nil→bo,of_mem_zip→aH,pairwise_lt_range→cb,pairwise_map→bP,range→aa,range_succ→bA,range_succ_eq_map→bc,replicate→aI,replicate_succ'→b9,size_toArray→aA,sum_append→bG,sum_cons→bH,take_add_one→bE,take_append_drop→bS,take_append_of_le_length→bX,take_length→bJ,take_of_length_le→cj,take_zero→bT,toArray→bK
open Nat renaming le_add_right→cH,le_of_eq→cD,le_of_lt→cz,le_refl→cB,le_succ→cF,le_succ_of_le→cM,le_trans→cy,lt_irrefl→cw,lt_of_lt_of_le→cq,lt_succ_of_lt→cG,lt_succ_self→cE,min_eq_left→cQ,mul_le_mul_right→cP,ne_of_gt→cA,ne_of_lt→cx,not_lt_zero→cK,sub_self→cO,succ_le_succ→cJ,zero_add→cN,zero_le→cC
open Option renaming isSome_iff_exists→cU,isSome_map→cX,map_eq_some_iff→cY,map_some→cW,some→cR
open PySem.W renaming callWith_K→dO,cellsFrom_some→dQ,codeIn→dS,emptyDict→dC,findIn→dq,fnOf→dR,hasDictIn→dj,instObj→cZ,isFn→dt,keepIn→dE,kia_one→dF,kia_tup→dU,kitx_bool→dH,kitx_dict→dN,kitx_float→dI,kitx_list→dJ,kitx_none→dG,kitx_tuple→dM,lookIn→dh,makesIn→dB,methodCall_KW→dP,methodObj→df,mg_none_of→dY,mg_of→dX,nsIn→dW,plainGet→di,plainGet_of→dr,plainOver→dw,specialIn→dD,takerIn→dA
open PySem.F renaming args_dict_get_3→eB,entry_dict_get→ee,plainAttrs_dict→eC,plainAttrs_list→eI,slot_dict_get→dZ,slot_dict_items→eG,slot_dict_setdefault→eE,slot_list_append→eJ,slot_list_pop→eN,type_dict_items→eL,type_list_append→eK,type_list_pop→eO
open Bool renaming and_eq_true→eR,eq_iff_iff→eQ,false_eq_true→eV,false_ne_true→eP,false_xor→eS
open Array renaming getElem?_toList→eX,length_toList→eW,perm_iff_toList_perm→eY
open Int renaming emod_lt_of_pos→fj,emod_nonneg→fc,lt_of_lt_of_le→e7,toNat_natCast→eZ,toNat_of_nonneg→ft,zero_add→fw
open PySem.Heap renaming get?_push_of_some→fF,get?_push_size→fE,get?_update_other→fH,get?_update_self→fI,lt_size→fC,size_push→fG
open PyProof.Rows renaming callWith_type1→fJ,envOfC→fN,slot_tuple_getitem→fK
open PySem renaming Addr→fO,Around→gf,Expr→gS,FuncData→gu,Program→f9,Scope→gQ,Shared→fR,Stmt→gR,Value→fQ,World→gm,backTo→gN,behindInMarks→gH,binaryOp→gw,bootBuiltins→gx,cLine→gP,closureFor→gX,compareOp→gv,foldedSetIterable→gG,mainGlobals→gr,model→f7,sizeLine→fY,sizeLine_eq→fZ,starEach→gn,sysModules→gM,wpAny→f6,wpAny_Call_Name_kw→gL,wpAny_bind→fV,wpAny_call_entry→gE,wpAny_field→gy,wpAny_holding→gD,wpAny_mono→fX,wpAny_newObj_type→gA,wpAny_passesOwn→gT,wpAny_pure→fW,wpAny_rule→gU,wpAny_seqItems→gC,wpAny_setField_rec→gJ,wpAny_truthy_bool→gF,wpAny_typeOf→gW
noncomputable section
namespace L2.Internal
theorem auR (h:True=True:=by rfl):True:=trivial
theorem auD (h:True:=by decide):True:=trivial
theorem auI (h:True->True=True:=by intro _;rfl):True:=trivial
theorem auL (h:True=True\/True:=by first|exact .inl rfl|exact .inr rfl|assumption):True:=trivial
open PySem PySem.Spec PyProof.Rows
abbrev Key:=Sum Int Str
def yT:Key->fQ->Bool
 | .inl k,v=>Value.isInt k v
 | .inr x,v=>Value.isStrOf x v
def keyH (w:gm):Key->Int
 | .inl k=>hashInt k
 | .inr x=>hashStr w x
theorem ju:∀{k:Key} {v:fQ},yT k v=true->(∃i t,k=Sum.inl i/\v=Value.int i t)\/(∃x t,k=Sum.inr x/\v=Value.str x t)
 | .inl i,v,h=>by
  obtain⟨t,e⟩:=Value.isInt_shape (k:=i) (v:=v) h
  exact .inl ⟨i,t,rfl,e⟩
 | .inr x,v,h=>by
  obtain⟨t,e⟩:=Value.isStrOf_shape (x:=x) (v:=v) h
  exact .inr ⟨x,t,rfl,e⟩
theorem zE (i:Int) (t:Tok):yT (.inl i) (.int i t)=true:=by simp[yT,Value.isInt]
theorem zF (x:Str) (t:Tok):yT (.inr x) (.str x t)=true:=by simp[yT,Value.isStrOf]
theorem Gh (a b:Int):decide ((Sum.inl a:Key)=Sum.inl b)=(a==b):=by
 by_cases e:a=b
 ·subst e;simp
 ·have h:¬(Sum.inl a:Key)=Sum.inl b:=fun q=>e (Sum.inl.inj q)
  rw[jR h]
  exact(beq_eq_false_iff_ne.mpr e).symm
theorem Gi (a b:Str):decide ((Sum.inr a:Key)=Sum.inr b)=decide (a=b):=by
 by_cases e:a=b
 ·subst e;simp
 ·have h:¬(Sum.inr a:Key)=Sum.inr b:=fun q=>e (Sum.inr.inj q)
  rw[jR h,jR e]
theorem Gj (a:Int) (b:Str):decide ((Sum.inl a:Key)=Sum.inr b)=false:=jR (fun q=>nomatch q)
theorem Gk (a:Str) (b:Int):decide ((Sum.inr a:Key)=Sum.inl b)=false:=jR (fun q=>nomatch q)
def jF (prog:f9) (w:gm):PySem.KeyKind prog w Key where
 is:=yT
 hash:=keyH w
 inj:=fun v a b ha hb=>by
  rcases ju ha with⟨i,t,rfl,rfl⟩|⟨x,t,rfl,rfl⟩
  ·rcases ju hb with⟨j,u,rfl,e⟩|⟨y,u,rfl,e⟩
   ·injection e with e1 _;rw[e1]
   ·exact nomatch e
  ·rcases ju hb with⟨j,u,rfl,e⟩|⟨y,u,rfl,e⟩
   ·exact nomatch e
   ·injection e with e1 _;rw[e1]
 byValue:=fun k v h=>by
  rcases ju h with⟨i,t,rfl,rfl⟩|⟨x,t,rfl,rfl⟩<;>rfl
 pyHash:=fun hv h=>by
  rcases ju hv with⟨i,t,rfl,rfl⟩|⟨x,t,rfl,rfl⟩
  ·exact wpAny_pyHash_int h
  ·exact wpAny_pyHash_str h
 eqBool:=fun hu hv h=>by
  rcases ju hu with⟨i,t,rfl,rfl⟩|⟨x,t,rfl,rfl⟩
  ·rcases ju hv with⟨j,u,rfl,rfl⟩|⟨y,u,rfl,rfl⟩
   ·rw[Gh]at h;exact wpAny_eqBool_int h
   ·rw[Gj]at h;exact SeqAt.EqAt.int_str i t y u _ _ _ _ h
  ·rcases ju hv with⟨j,u,rfl,rfl⟩|⟨y,u,rfl,rfl⟩
   ·rw[Gk]at h;exact SeqAt.EqAt.str_int x t j u _ _ _ _ h
   ·rw[Gi]at h;exact wpAny_eqBool_str h
 «strs»:=fun k x t v h=>by
  rcases ju h with⟨i,u,rfl,e⟩|⟨y,u,rfl,e⟩
  ·exact nomatch e
  ·injection e with e1 _
   subst e1
   cases v<;>rfl
theorem wo (prog:f9) (w:gm) (i:Int) (t:Tok):(jF prog w).is (.inl i) (.int i t)=true:=zE i t
theorem wq (prog:f9) (w:gm) (x:Str) (t:Tok):(jF prog w).is (.inr x) (.str x t)=true:=zF x t
end L2.Internal
namespace L2.Internal
open PySem PySem.Spec PyProof.Rows
set_option genInjectivity true in
inductive V where
 |non|bl (b:Bool)|int (i:Int)|str (x:Str)|byt (b:Array UInt8)|flt (b:UInt64)|ref (a:fO)|ty (n:String)
 deriving DecidableEq
def jx:V->fQ->Prop
 | .non,u=>u=Value.none
 | .bl b,u=>u=Value.bool b
 | .int i,u=>∃t,u=Value.int i t
 | .str x,u=>∃t,u=Value.str x t
 | .byt b,u=>∃t,u=Value.bytes b t
 | .flt b,u=>∃t,u=Value.float b t
 | .ref a,u=>u=Value.ref a
 | .ty n,u=>u=Value.type n
abbrev jI:List V->List fQ->Prop:=Paired jx
theorem jI.length {xs:List V} {us:List fQ} (r:jI xs us):xs.length=us.length:=Paired.length r
theorem jI.get:∀{xs:List V} {us:List fQ} {i:Nat} {x:V},jI xs us->xs[i]?=some x->∃u,us[i]?=some u/\jx x u
 |_,_,_,_,.nil,e=>by simp at e
 |_,_,0,_,.cons r _,e=>by simp at e;subst e;exact⟨_,rfl,r⟩
 |_,_,i+ 1,x,.cons _ t,e=>by
  obtain⟨u,h1,h2⟩:=jI.get (i:=i) (x:=x) t (by simpa using e)
  exact⟨u,by simpa using h1,h2⟩
theorem jI.append:∀{xs ys:List V} {us ws:List fQ},jI xs us->jI ys ws->jI (xs++ys) (us++ws)
 |_,_,_,_,.nil,s=>s
 |_,_,_,_,.cons r t,s=> .cons r (jI.append t s)
theorem jI.take:∀{xs:List V} {us:List fQ} (n:Nat),jI xs us->jI (xs.take n) (us.take n)
 |_,_,0,_=> .nil
 |_,_,_+ 1,.nil=> .nil
 |_,_,n+ 1,.cons r t=> .cons r (jI.take n t)
theorem jI.drop:∀{xs:List V} {us:List fQ} (n:Nat),jI xs us->jI (xs.drop n) (us.drop n)
 |_,_,0,r=>r
 |_,_,_+ 1,.nil=> .nil
 |_,_,n+ 1,.cons _ t=>jI.drop n t
def ve:Option V->Option fQ->Prop
 |some v,some u=>jx v u
 |none,none=>True
 |_,_=>False
def KV {κ:Type}:List (κ×V)->List (κ×fQ)->Prop:=Paired fun(p:κ×V) (q:κ×fQ)=>p.1=q.1/\jx p.2 q.2
def kV:Key->V
 | .inl i=> .int i
 | .inr x=> .str x
inductive HO where
 |lst (xs:List V)
 |tup (xs:List V)
 |dK (kvs:List (Key×V))|dT (kvs:List (List Key×V))
 |set (S:Int->Bool) (n:Nat)
 |ins (C dx:fO) (fs:List (Str×V))
 |own (x:fO)
 |xd (fs:List (Str×V))
 |met (f x:fO)
 |rng (lo hi:Int)
 |frz (o:Obj) (u:HO)
 |tbl (ps:Array fQ)
 |ext (φ:Heap->Prop)
abbrev Hp:=fO->Option HO
def yU (h:Heap) (a:fO) (items:Array fQ):Prop:=∃o,h.get? a=some o/\o.cls= .type "tuple"/\∃n,o.data= .seq items n/\o.dict=none
theorem yU.tup {h:Heap} {a:fO} {items:Array fQ}:yU h a items->IsTup h a items
 |⟨o,h1,h2,n,h3,_⟩=>⟨o,h1,h2,n,h3⟩
theorem yU.lt {h:Heap} {a:fO} {items:Array fQ} (p:yU h a items):a<h.objs.size:=by
 obtain⟨o,e,_⟩:=p
 exact fC e
theorem yU.new (h:Heap) (items:Array fQ):yU (h.push {cls:= .type "tuple",data:= .seq items}) h.objs.size items:=⟨_,fE _ rfl,rfl,_,rfl,rfl⟩
def upd (H:Hp) (a:fO) (o:HO):Hp:=fun b=>if b=a then some o else H b
theorem hG {H:Hp} {a:fO} {o:HO}:upd H a o a=some o:=by unfold upd;rw[ja rfl]
theorem hX {H:Hp} {a b:fO} {o:HO} (h:b≠a):upd H a o b=H b:=by unfold upd;rw[iT h]
theorem jk {H:Hp} {a:fO} {o u:HO}:upd (upd H a o) a u=upd H a u:=by
 funext b;unfold upd;split<;>rfl
theorem iX {H:Hp} {a b:fO} {o u:HO} (h:H a=some o) (h':H b=some u) (d:o≠u):a≠b:=by
 intro e;subst e;rw[h]at h';exact d (cR.inj h')
theorem ie {H:Hp} {a b:fO} {o:HO} (h:H a=some o) (h':H b=none):a≠b:=by
 intro e;subst e;rw[h]at h';cases h'
section
variable (P:f9) (w:gm)
def jG (H:Hp) (h:Heap) (a:fO):HO->Prop
 | .lst xs=>xs.length<=fY/\∃(its:List fQ) (n:Nat),jI xs its/\h.get? a=some {cls:= .type "list",data:= .seq its.toArray n}
 | .tup xs=>xs.length<=fY/\∃its:List fQ,jI xs its/\yU h a its.toArray
 | .dK kvs=>kvs.length<=fY/\(a==gM)=false/\∃vs,KV kvs vs/\h.DictOf (jF P w) a vs
 | .dT kvs=>kvs.length<=fY/\(a==gM)=false/\∃xs:List (List Key×fO×fQ),
   Paired (fun(p:List Key×V) (q:List Key×fO×fQ)=>p.1=q.1/\H q.2.1=some (.tup (p.1.map kV))/\jx p.2 q.2.2) kvs xs/\
   ∃o es ep,h.get? a=some o/\o.ExactDict/\o.data= .dict es ep/\es.toList=xs.map (entryOfKey (tupleKind (jF P w)))/\(xs.map (·.1)).Nodup
 | .set S n=>h.SetOf (intKind P w) a S n
 | .ins C dx fs=>H dx=some (.own a)/\fs.length<=1000/\dx≠a/\h.get? a=some (cZ C dx)/\
   ∃mA,h.Ns1 dx mA/\(∀f,ve (fs.lookup f) (mA f))/\PySem.Within mA (fs.map (·.1))
 | .own _=>∃o,h.get? a=some o
 | .xd fs=>∃mA,h.Ns1 a mA/\∀f,ve (fs.lookup f) (mA f)
 | .rng lo hi=>∃t u v,h.get? a=some {cls:= .type "range",data:= .fields #[.int lo t,.int hi u,.int 1 v]}
 | .frz o u=>h.get? a=some o/\jG H h a u
 | .tbl ps=>h.get? a=some {cls:= .none,data:= .fields ps}
 | .met f x=>h.get? a=some (df (.ref f) (.ref x))
 | .ext φ=>φ h/\(∃o,h.get? a=some o)/\∀h1 h2:Heap,φ h1->(∀o,h1.get? a=some o->h2.get? a=some o)->φ h2
def HOk (H:Hp) (h:Heap):Prop:=∀a o,H a=some o->jG P w H h a o
end
section
variable {P:f9} {w:gm} {H H':Hp} {h h':Heap} {a:fO} {o:HO}
theorem jG.lt (x:jG P w H h a o):a<h.objs.size:=by
 cases o with
 |lst xs=>obtain⟨_,_,_,_,e⟩:=x;exact fC e
 |tup xs=>obtain⟨_,_,_,p⟩:=x;exact p.lt
 |dK kvs=>obtain⟨_,_,_,_,o,_,_,e,_⟩:=x;exact fC e
 |dT kvs=>obtain⟨_,_,_,_,o,_,_,e,_⟩:=x;exact fC e
 |set S n=>obtain⟨o,_,_,_,e,_⟩:=x;exact fC e
 |ins C dx fs=>obtain⟨_,_,_,e,_⟩:=x;exact fC e
 |own y=>obtain⟨_,e⟩:=x;exact fC e
 |xd fs=>obtain⟨_,⟨_,_,_,e,_⟩,_⟩:=x;exact fC e
 |rng lo hi=>obtain⟨_,_,_,e⟩:=x;exact fC e
 |frz ob u=>obtain⟨e,_⟩:=x;exact fC e
 |tbl ps=>exact fC (show h.get? a=some _ from x)
 |met f y=>exact fC (show h.get? a=some _ from x)
 |ext φ=>obtain⟨_,⟨_,e⟩,_⟩:=x;exact fC e
theorem Paired.mapP {α β:Type} {F G:α->β->Prop}:∀{l₁:List α} {l₂:List β},Paired F l₁ l₂->(∀a b,F a b->G a b)->Paired G l₁ l₂
 |_,_,.nil,_=> .nil
 |_,_,.cons r t,f=> .cons (f _ _ r) (Paired.mapP t f)
theorem jG.stay (x:jG P w H h a o) (k:∀b u,(b=a\/H b=some (.own a))->h.get? b=some u->h'.get? b=some u)
  (ho:∀b,H b=some (.own a)->H' b=some (.own a)) (ht:∀b xs,H b=some (.tup xs)->H' b=some (.tup xs)):jG P w H' h' a o:=by
 induction o with
 |lst xs=>obtain⟨z,its,n,r,e⟩:=x;exact⟨z,its,n,r,k _ _ (.inl rfl) e⟩
 |tup xs=>obtain⟨z,its,r,ob,e,c⟩:=x;exact⟨z,its,r,ob,k _ _ (.inl rfl) e,c⟩
 |dK kvs=>obtain⟨z,y,vs,r,ob,es,ep,e,c⟩:=x;exact⟨z,y,vs,r,ob,es,ep,k _ _ (.inl rfl) e,c⟩
 |dT kvs=>
  obtain⟨z,y,xs,r,ob,es,ep,e,c⟩:=x
  exact⟨z,y,xs,Paired.mapP r fun p q z=>⟨z.1,ht _ _ z.2.1,z.2.2⟩,ob,es,ep,k _ _ (.inl rfl) e,c⟩
 |set S n=>obtain⟨ob,es,ep,t,e,c⟩:=x;exact⟨ob,es,ep,t,k _ _ (.inl rfl) e,c⟩
 |ins C dx fs=>
  obtain⟨d,z,ne,e,mA,⟨od,es,ep,e2,c⟩,r⟩:=x
  exact⟨ho _ d,z,ne,k _ _ (.inl rfl) e,mA,⟨od,es,ep,k _ _ (.inr d) e2,c⟩,r⟩
 |own y=>obtain⟨ob,e⟩:=x;exact⟨ob,k _ _ (.inl rfl) e⟩
 |xd fs=>obtain⟨mA,⟨od,es,ep,e,c⟩,r⟩:=x;exact⟨mA,⟨od,es,ep,k _ _ (.inl rfl) e,c⟩,r⟩
 |rng lo hi=>obtain⟨t,u,v,e⟩:=x;exact⟨t,u,v,k _ _ (.inl rfl) e⟩
 |frz ob u ih=>obtain⟨e,q⟩:=x;exact⟨k _ _ (.inl rfl) e,ih q⟩
 |tbl ps=>
  have e:h.get? a=some {cls:= .none,data:= .fields ps}:=x
  show h'.get? a=some {cls:= .none,data:= .fields ps}
  exact k a _ (.inl rfl) e
 |met f y=>
  have e:h.get? a=some (df (.ref f) (.ref y)):=x
  show h'.get? a=some (df (.ref f) (.ref y))
  exact k a _ (.inl rfl) e
 |ext φ=>obtain⟨p,⟨o,e⟩,st⟩:=x;exact⟨st _ _ p fun o q=>k _ _ (.inl rfl) q,⟨o,k _ _ (.inl rfl) e⟩,st⟩
theorem HOk.lt (x:HOk P w H h) (e:H a=some o):a<h.objs.size:=(x a o e).lt
theorem HOk.fresh (x:HOk P w H h) (e:h.objs.size<=a):H a=none:=by
 cases q:H a with
 |none=>rfl
 |some u=>exact absurd (cq (x.lt q) e) (cw _)
theorem HOk.kept (x:HOk P w H h) (k:∀b u,h.get? b=some u->h'.get? b=some u):HOk P w H h':=fun a o e=>
 (x a o e).stay (fun b u _ q=>k b u q) (fun _ q=>q) fun _ _ q=>q
theorem HOk.laid (x:HOk P w H h) (k:∀b u,h.get? b=some u->h'.get? b=some u) (hp:h.objs.size<=a) (new:jG P w (upd H a o) h' a o):HOk P w (upd H a o) h':=fun b u e=>by
 have hn:=x.fresh hp
 by_cases hb:b=a
 ·subst hb;rw[hG]at e;cases e;exact new
 ·rw[hX hb]at e
  exact(x b u e).stay (fun c v _ q=>k c v q) (fun c q=>by rw[hX (ie q hn)];exact q) fun c xs q=>by rw[hX (ie q hn)];exact q
end
def Rd (H:Hp) (a:fO) (u:HO):Prop:=H a=some u\/∃o,H a=some (.frz o u)
theorem Rd.ok {P:f9} {w:gm} {H:Hp} {h:Heap} {a:fO} {u:HO} (r:Rd H a u) (x:HOk P w H h):jG P w H h a u:=by
 rcases r with r|⟨o,r⟩
 ·exact x a u r
 ·obtain⟨_,q⟩:=x a _ r
  exact q
def Mut:Option HO->Prop
 |some (.lst _)=>True
 |some (.dK _)=>True
 |some (.dT _)=>True
 |some (.set _ _)=>True
 |some (.ins _ _ _)=>True
 |some (.ext _)=>True
 |_=>False
section
variable {P:f9} {w:gm} {H:Hp} {h h':Heap} {x e:fO} {o':HO}
theorem HOk.write (ok:HOk P w H h) (mu:Mut (H x)) (he:e=x\/H e=some (.own x)) (k:∀b u,b≠e->h.get? b=some u->h'.get? b=some u) (heo:∃u,h'.get? e=some u)
  (new:jG P w (upd H x o') h' x o'):HOk P w (upd H x o') h':=fun b u q=>by
 have nown:∀c y,H c=some (.own y)->c≠x:=fun c y r z=>by subst z;rw[r]at mu;exact mu
 have ntup:∀c xs,H c=some (.tup xs)->c≠x:=fun c xs r z=>by subst z;rw[r]at mu;exact mu
 by_cases hb:b=x
 ·subst hb;rw[hG]at q;cases q;exact new
 ·rw[hX hb]at q
  by_cases hbe:b=e
  ·have q':H b=some (.own x):=by
    rcases he with z|z
    ·exact absurd (hbe.trans z) hb
    ·rw[hbe];exact z
   rw[q]at q';cases q'
   obtain⟨v,hv⟩:=heo
   exact⟨v,by rw[hbe];exact hv⟩
  ·refine(ok b u q).stay (fun c v hc r=>k c v ?_ r) (fun c r=>by rw[hX (nown c b r)];exact r) fun c xs r=>by rw[hX (ntup c xs r)];exact r
   rcases hc with rfl|hc
   ·exact hbe
   ·rintro rfl
    rcases he with z|z
    ·exact nown c b hc z
    ·rw[hc]at z;cases z;exact hb rfl
end
structure Un (fs ex:List fO) (H H':Hp) (h h':Heap):Prop where
 keep:∀b o,h.get? b=some o->H b=none->b∉fs->b∉ex->h'.get? b=some o
 slot:∀b o,h.get? b=some o->H b=none->b∈fs->b∉ex->∃sl,h'.get? b=some {o with slots:=sl}
 free:∀b o,h.get? b=some o->H b=none->b∉ex->H' b=none
 there:∀b o,h.get? b=some o->b∉ex->∃o',h'.get? b=some o'
 tups:∀b xs,H b=some (.tup xs)->H' b=some (.tup xs)
 frzs:∀b o u,H b=some (.frz o u)->H' b=some (.frz o u)
 tbls:∀b ps,H b=some (.tbl ps)->∃more,H' b=some (.tbl (ps++more))
section
variable {fs fs' ex ex':List fO} {H H1 H2:Hp} {h h1 h2 h':Heap} {a x e:fO} {o:HO}
theorem Un.any (u:Un fs ex H H1 h h1) {b:fO} {ob:Obj} (q:h.get? b=some ob) (n:H b=none) (hx:b∉ex):∃sl,h1.get? b=some {ob with slots:=sl}:=by
 by_cases hb:b∈fs
 ·exact u.slot b ob q n hb hx
 ·exact⟨ob.slots,u.keep b ob q n hb hx⟩
theorem Un.trans (a:Un fs ex H H1 h h1) (b:Un fs ex H1 H2 h1 h2):Un fs ex H H2 h h2 where
 keep:=fun c ob q n hc hx=>b.keep c ob (a.keep c ob q n hc hx) (a.free c ob q n hx) hc hx
 slot:=fun c ob q n hc hx=>by
  obtain⟨sl,e1⟩:=a.slot c ob q n hc hx
  obtain⟨sl',e2⟩:=b.slot c _ e1 (a.free c ob q n hx) hc hx
  exact⟨sl',e2⟩
 free:=fun c ob q n hx=>by
  obtain⟨o',e1⟩:=a.there c ob q hx
  exact b.free c o' e1 (a.free c ob q n hx) hx
 there:=fun c ob q hx=>by
  obtain⟨o',e1⟩:=a.there c ob q hx
  exact b.there c o' e1 hx
 tups:=fun c xs q=>b.tups c xs (a.tups c xs q)
 frzs:=fun c ob xs q=>b.frzs c ob xs (a.frzs c ob xs q)
 tbls:=fun c ps q=>by
  obtain⟨m1,e1⟩:=a.tbls c ps q
  obtain⟨m2,e2⟩:=b.tbls c _ e1
  exact⟨m1++m2,by rw[e2,Array.append_assoc]⟩
theorem Un.kept (k:∀b u,h.get? b=some u->h'.get? b=some u):Un fs ex H H h h':=
 ⟨fun b ob q _ _ _=>k b ob q,fun b ob q _ _ _=>⟨ob.slots,k b ob q⟩,fun _ _ _ n _=>n,fun b ob q _=>⟨ob,k b ob q⟩,fun _ _ q=>q,fun _ _ _ q=>q,fun _ ps q=>⟨#[],by rw[q];simp⟩⟩
theorem Un.refl:Un fs ex H H h h:=Un.kept fun _ _ q=>q
theorem Un.laid (k:∀b u,h.get? b=some u->h'.get? b=some u) (hp:h.objs.size<=a) (hn:H a=none):Un fs ex H (upd H a o) h h' where
 keep:=fun b u q _ _ _=>k b u q
 slot:=fun b u q _ _ _=>⟨u.slots,k b u q⟩
 free:=fun b u q n _=>by rw[hX (cx (cq (fC q) hp))];exact n
 there:=fun b u q _=>⟨u,k b u q⟩
 tups:=fun b xs q=>by rw[hX (ie q hn)];exact q
 frzs:=fun b u xs q=>by rw[hX (ie q hn)];exact q
 tbls:=fun b ps q=>⟨#[],by rw[hX (ie q hn),q];simp⟩
theorem Un.write (mu:Mut (H x)) (he:e=x\/H e=some (.own x)) (k:∀b u,b≠e->h.get? b=some u->h'.get? b=some u) (heo:∃u,h'.get? e=some u):Un fs ex H (upd H x o) h h':=by
 have hx:∀b,H b=none->b≠x:=fun b n z=>by subst z;rw[n]at mu;exact mu
 have hb:∀b,H b=none->b≠e:=fun b n z=>by
  subst z
  rcases he with r|r
  ·exact hx b n r
  ·rw[n]at r;cases r
 have hm:∀b u,H b=some u->¬Mut (some u)->b≠x:=fun b u q nm z=>by subst z;rw[q]at mu;exact nm mu
 refine⟨fun b u q n _ _=>k b u (hb b n) q,fun b u q n _ _=>⟨u.slots,k b u (hb b n) q⟩,fun b u q n _=>by rw[hX (hx b n)];exact n,fun b u q _=>?_,
  fun b xs q=>by rw[hX (hm b _ q fun z=>z)];exact q,fun b u xs q=>by rw[hX (hm b _ q fun z=>z)];exact q,fun b ps q=>⟨#[],by rw[hX (hm b _ q fun z=>z),q];simp⟩⟩
 by_cases hbe:b=e
 ·subst hbe;exact heo
 ·exact⟨u,k b u hbe q⟩
end
def trk (h:Heap) (H:Hp):List fO:=(aa h.objs.size).filter fun a=>(H a).isSome
def BY (h:Heap) (H:Hp):Heap:=PySem.W.hideAll h (trk h H)
theorem zG (h:Heap) (H:Hp):(BY h H).objs.size=h.objs.size:=PySem.W.hideAll_size _ _
theorem BZ {h:Heap} {H:Hp} {b:fO} {o:Obj} (e:h.get? b=some o) (n:H b=none):(BY h H).get? b=some o:=
 PySem.W.hideAll_get _ e fun hm=>by
  have q:(H b).isSome=true:=(ab.mp hm).2
  rw[n]at q;simp at q
theorem Ew {h:Heap} {H:Hp} {b:fO} {o:Obj} (e:(BY h H).get? b=some o):h.get? b=some o/\H b=none:=by
 have e':h.get? b=some o:=PySem.W.of_hideAll (trk h H) e
 refine⟨e',?_⟩
 cases q:H b with
 |none=>rfl
 |some x=>
  have hm:b∈trk h H:=ab.mpr ⟨ae.mpr (fC e'),by simp[q]⟩
  have z:(BY h H).get? b=none:=PySem.W.hideAll_none (trk h H) hm
  rw[z]at e;cases e
structure Mod (K:PySem.W.Frag) (mg:Str->Option fQ) (base:Heap):Prop where
 kin:K.In base
 glob:base.Ns gr mg
 blt:∃mb,base.Ns builtinsNs mb/\∀x:Str,x≠"__name__"->mb x=gx x
 nolimit:base.NoLimit
structure Cx where
 prog:f9
 w:gm
 K:PySem.W.Frag
 mg:Str->Option fQ
 base:Heap
 A:gf
 N:List Str
 s₀:fR
 H₀:Hp
 env:Env
 outer:List Env
 stack:List Env
 ex:List fO
 fn:Str->Bool
 calm:Bool
 pn:List (fO×Obj)
 xe:fQ->fR->Prop
def frs (l:List Env):List fO:=l.filterMap (·.frame)
abbrev Cx.fs (X:Cx):List fO:=frs X.outer
def Vis (sc:gQ) (x:Str):Prop:=sc.names.lookup x=some .local\/sc.names.lookup x=some .cell\/sc.names.lookup x=some .free
def Loc (sc:gQ) (x:Str):Prop:=sc.names.lookup x=some .local\/sc.names.lookup x=some .cell
def Look (env:Env) (h:Heap) (m:Str->Option fQ) (x:Str) (u:fQ):Prop:=
 (env.kindOf x=some .local/\m x=some u)\/((env.kindOf x=some .cell\/env.kindOf x=some .free)/\∃c,env.cells.lookup x=some c/\h.IsCell c (some u))
structure Cx.Ok (X:Cx):Prop where
 mod:Mod X.K X.mg X.base
 kind:X.env.scope.kind= .function
 glob:X.env.globals=gr
 blt:X.env.builtins=builtinsNs
 above:X.s₀.heap.objs.size<=X.env.locals
 inj:∀x y c,X.env.cells.lookup x=some c->X.env.cells.lookup y=some c->x=y
 has:∀x,(X.env.kindOf x=some .cell\/X.env.kindOf x=some .free)->∃c,X.env.cells.lookup x=some c
 cab:∀x c,X.fn x=true->X.env.cells.lookup x=some c->X.s₀.heap.objs.size<=c
 hd:X.calm=true->X.A.handled=none
 frames:X.A.frames=some X.stack
 stk:X.stack=X.outer\/(X.stack=X.env::X.outer/\X.env.frame=some X.env.locals)
 exf:∀b∈X.ex,b≠X.env.locals/\∀x c,X.env.cells.lookup x=some c->c≠b
 bs:∀b o,X.base.get? b=some o->X.s₀.heap.get? b=some o/\X.H₀ b=none
 bsz:X.base.objs.size<=X.s₀.heap.objs.size
 noex:∀b o,X.base.get? b=some o->b∉X.ex
 exfs:∀b∈X.ex,b∉X.fs
 funs:X.s₀.heap.FunFrames X.base X.outer
 frf:∀b∈X.fs,X.H₀ b=none
structure Inv (X:Cx) (pz:List (fO×Obj)) (σ:List (Option V)) (H:Hp) (s:fR):Prop where
 ok:X.Ok
 os:s.os=X.s₀.os
 bare:AllBare s.gens
 base:Un X.fs X.ex X.H₀ H X.s₀.heap s.heap
 loc:∃m,s.heap.Ns X.env.locals m/\∀(i:Nat) (x:Str) (v:V),X.N[i]?=some x->σ[i]?=some (some v)->Vis X.env.scope x->∃u,jx v u/\Look X.env s.heap m x u
 cell:∀x c,X.env.cells.lookup x=some c->∃v,s.heap.IsCell c v
 free:H X.env.locals=none
 freeC:∀x c,X.env.cells.lookup x=some c->H c=none
 pin:∀p∈X.pn++pz,s.heap.get? p.1=some p.2/\H p.1=none/\p.1≠X.env.locals/\p.1∉X.fs/\∀v,p.2.data≠ .cell v
 hok:HOk X.prog X.w H s.heap
 len:σ.length=X.N.length
section
variable {X:Cx} {pz:List (fO×Obj)} {σ:List (Option V)} {H H':Hp} {s:fR} {h':Heap}
theorem Cx.Ok.nofr (ok:X.Ok) {b:fO} {o:Obj} (e:X.base.get? b=some o):b∉X.fs:=fun hb=>by
 have:=(ok.funs.mem hb).1
 rw[e]at this;cases this
theorem Inv.bs (I:Inv X pz σ H s):∀b o,X.base.get? b=some o->s.heap.get? b=some o/\H b=none:=fun b o e=>
 ⟨I.base.keep b o (I.ok.bs b o e).1 (I.ok.bs b o e).2 (I.ok.nofr e) (I.ok.noex b o e),I.base.free b o (I.ok.bs b o e).1 (I.ok.bs b o e).2 (I.ok.noex b o e)⟩
theorem Inv.bk (I:Inv X pz σ H s):∀b o,X.base.get? b=some o->s.heap.get? b=some o:=fun b o e=>(I.bs b o e).1
theorem Inv.mod (I:Inv X pz σ H s):Mod X.K X.mg X.base:=I.ok.mod
theorem Inv.kIn (I:Inv X pz σ H s):X.K.In s.heap:=I.ok.mod.kin.keeps I.bk
theorem Inv.lt (I:Inv X pz σ H s):X.env.locals<s.heap.objs.size:=let⟨_,hn,_⟩:=I.loc;hn.lt
theorem Inv.sz (I:Inv X pz σ H s):X.s₀.heap.objs.size<=s.heap.objs.size:=cy I.ok.above (cz I.lt)
theorem Inv.nofs (I:Inv X pz σ H s) {a:fO} (h:s.heap.objs.size<=a):a∉X.fs:=fun hb=>by
 obtain⟨_,o,ho,_⟩:=I.ok.funs.mem hb
 exact absurd (cq (fC ho) (cy I.sz h)) (cw _)
theorem Inv.cne (I:Inv X pz σ H s):∀x c,X.env.cells.lookup x=some c->c≠X.env.locals:=fun x c e z=>by
 obtain⟨v,o,ho,hd⟩:=I.cell x c e
 obtain⟨m,⟨o',es,ep,ho',hd',_⟩,_⟩:=I.loc
 rw[z,ho']at ho;cases ho;rw[hd']at hd;cases hd
theorem Inv.funs (I:Inv X pz σ H s):s.heap.FunFrames X.base X.outer:=by
 have all:∀(l:List Env),(∀b∈frs l,b∈X.fs)->X.s₀.heap.FunFrames X.base l->s.heap.FunFrames X.base l:=by
  intro l
  induction l with
  |nil=>intro _ _;trivial
  |cons env r ih=>
   intro hs hl
   obtain⟨hk,⟨L,o,hf,hn,ho,hd⟩,hr⟩:=hl
   have hL:L∈X.fs:=hs L (by unfold frs;rw[ag,hf];exact ah)
   obtain⟨sl,e⟩:=I.base.slot L o ho (I.ok.frf L hL) hL fun z=>I.ok.exfs L z hL
   exact⟨hk,⟨L,_,hf,hn,e,hd⟩,ih (fun b hb=>hs b (by unfold frs;rw[ag,hf];exact ai _ hb)) hr⟩
 exact all X.outer (fun _ hb=>hb) I.ok.funs
theorem Inv.stack (I:Inv X pz σ H s):s.heap.FunFrames X.base X.stack:=by
 rcases I.ok.stk with e|⟨e,hf⟩
 ·rw[e];exact I.funs
 ·rw[e]
  obtain⟨m,hn,_⟩:=I.loc
  refine .cons (by rw[I.ok.kind];decide) hf hn ?_ I.funs
  exact Heap.get?_none_of_le (cy I.ok.bsz I.ok.above)
theorem Inv.stkSub (I:Inv X pz σ H s):∀b∈frs X.stack,b∈X.env.locals::X.fs:=fun b hb=>by
 rcases I.ok.stk with e|⟨e,hf⟩
 ·rw[e]at hb;exact ai _ hb
 ·rw[e]at hb
  unfold frs at hb
  rw[ag,hf]at hb
  exact hb
theorem Inv.stkFree (I:Inv X pz σ H s):∀b∈frs X.stack,H b=none:=fun b hb=>by
 rcases aj.mp (I.stkSub b hb)with e|hb
 ·rw[e];exact I.free
 ·obtain⟨_,o,ho,_⟩:=I.ok.funs.mem hb
  exact I.base.free b o ho (I.ok.frf b hb) fun z=>I.ok.exfs b z hb
theorem Inv.step {g':Array GenState} {t':Nat} {d':Drawn} {ch:List fO} (I:Inv X pz σ H s)
  (hch:∀b∈ch,(b∈X.ex\/X.s₀.heap.objs.size<=b)/\b≠X.env.locals/\(∀x c,X.env.cells.lookup x=some c->c≠b)/\∀p∈X.pn++pz,p.1≠b)
  (keep:∀b o,b≠X.env.locals->b∉X.fs->b∉ch->s.heap.get? b=some o->H b=none->h'.get? b=some o)
  (slot:∀b o,b≠X.env.locals->b∈X.fs->b∉ch->s.heap.get? b=some o->H b=none->∃sl,h'.get? b=some {o with slots:=sl}) (free:∀b o,b∉ch->s.heap.get? b=some o->H b=none->H' b=none)
  (there:∀b o,b∉ch->s.heap.get? b=some o->∃o',h'.get? b=some o')
  (tups:∀b xs,H b=some (.tup xs)->H' b=some (.tup xs)) (frzs:∀b o u,H b=some (.frz o u)->H' b=some (.frz o u)) (tbls:∀b ps,H b=some (.tbl ps)->∃more,H' b=some (.tbl (ps++more)))
  (ns:∀m,s.heap.Ns X.env.locals m->h'.Ns X.env.locals m) (hok:HOk X.prog X.w H' h') (hg:AllBare g'):
  Inv X pz σ H' {s with heap:=h',gens:=g',drawn:=d',toks:=t'}:=by
 have neL:∀b o,X.s₀.heap.get? b=some o->b≠X.env.locals:=fun b o e=>cx (cq (fC e) I.ok.above)
 have neC:∀b o,X.s₀.heap.get? b=some o->b∉X.ex->b∉ch:=fun b o e hx hb=>by
  rcases(hch b hb).1 with z|z
  ·exact hx z
  ·exact absurd (cq (fC e) z) (cw _)
 have cellK:∀x c,X.env.cells.lookup x=some c->∀v,s.heap.IsCell c v->h'.IsCell c v:=fun x c e v ⟨o,ho,hd⟩=>by
  have nch:c∉ch:=fun z=>(hch c z).2.2.1 x c e rfl
  by_cases hc:c∈X.fs
  ·obtain⟨sl,q⟩:=slot c o (I.cne x c e) hc nch ho (I.freeC x c e)
   exact⟨_,q,hd⟩
  ·exact⟨o,keep c o (I.cne x c e) hc nch ho (I.freeC x c e),hd⟩
 refine⟨I.ok,I.os,hg,⟨fun b o e n hb hx=>?_,fun b o e n hb hx=>?_,fun b o e n hx=>?_,fun b o e hx=>?_,fun b xs e=>tups b xs (I.base.tups b xs e),fun b o xs e=>frzs b o xs (I.base.frzs b o xs e),fun b ps e=>?_⟩,?_,fun x c e=>?_,?_,fun x c e=>?_,fun p hp=>?_,hok,I.len⟩
 ·exact keep b o (neL b o e) hb (neC b o e hx) (I.base.keep b o e n hb hx) (I.base.free b o e n hx)
 ·obtain⟨sl,e1⟩:=I.base.slot b o e n hb hx
  obtain⟨sl',e2⟩:=slot b _ (neL b o e) hb (neC b o e hx) e1 (I.base.free b o e n hx)
  exact⟨sl',e2⟩
 ·obtain⟨o',e1⟩:=I.base.there b o e hx
  exact free b o' (neC b o e hx) e1 (I.base.free b o e n hx)
 ·obtain⟨o',e1⟩:=I.base.there b o e hx
  exact there b o' (neC b o e hx) e1
 ·obtain⟨m1,e1⟩:=I.base.tbls b ps e
  obtain⟨m2,e2⟩:=tbls b _ e1
  exact⟨m1++m2,by rw[e2,Array.append_assoc]⟩
 ·obtain⟨m,hn,hl⟩:=I.loc
  refine⟨m,ns m hn,fun i x v e1 e2 e3=>?_⟩
  obtain⟨u,r,l⟩:=hl i x v e1 e2 e3
  refine⟨u,r,?_⟩
  rcases l with l|⟨k,c,e,z⟩
  ·exact .inl l
  ·exact .inr ⟨k,c,e,cellK x c e _ z⟩
 ·obtain⟨v,z⟩:=I.cell x c e
  exact⟨v,cellK x c e v z⟩
 ·obtain⟨m,⟨o,_,_,ho,_⟩,_⟩:=I.loc
  exact free _ o (fun z=>(hch _ z).2.1 rfl) ho I.free
 ·obtain⟨v,o,ho,hd⟩:=I.cell x c e
  exact free c o (fun z=>(hch c z).2.2.1 x c e rfl) ho (I.freeC x c e)
 ·obtain⟨e,n,ne,nf,d⟩:=I.pin p hp
  have nch:p.1∉ch:=fun z=>(hch p.1 z).2.2.2 p hp rfl
  exact⟨keep p.1 p.2 ne nf nch e n,free p.1 p.2 nch e n,ne,nf,d⟩
theorem Inv.un {t':Nat} (I:Inv X pz σ H s) (u:Un X.fs [] H H' s.heap h') (hok:HOk X.prog X.w H' h'):Inv X pz σ H' {s with heap:=h',toks:=t'}:=by
 obtain⟨m,⟨o,es,ep,ho,r⟩,_⟩:=id I.loc
 obtain⟨sl,hL⟩:=u.any ho I.free (by simp)
 exact I.step (g':=s.gens) (d':=s.drawn) (ch:=[]) (fun _ z=>nomatch z) (fun b o _ hb _ e n=>u.keep b o e n hb (by simp)) (fun b o _ hb _ e n=>u.slot b o e n hb (by simp)) (fun b o _ e n=>u.free b o e n (by simp)) (fun b o _ e=>u.there b o e (by simp)) u.tups u.frzs u.tbls (fun m' hm=>by
  obtain⟨o',es',ep',ho',r'⟩:=hm
  rw[ho]at ho';cases ho'
  exact⟨_,es',ep',hL,r'⟩) hok I.bare
theorem Inv.call {g':Array GenState} {t':Nat} {d':Drawn} {ch:List fO} (I:Inv X pz σ H s) (u:Un (frs X.stack) ch H H' s.heap h') (hok:HOk X.prog X.w H' h') (hg:AllBare g')
  (hch:∀b∈ch,(b∈X.ex\/X.s₀.heap.objs.size<=b)/\b≠X.env.locals/\(∀x c,X.env.cells.lookup x=some c->c≠b)/\∀p∈X.pn++pz,p.1≠b):
  Inv X pz σ H' {s with heap:=h',gens:=g',drawn:=d',toks:=t'}:=by
 obtain⟨m,⟨o,es,ep,ho,r⟩,_⟩:=id I.loc
 obtain⟨sl,hL⟩:=u.any ho I.free fun z=>(hch _ z).2.1 rfl
 exact I.step (ch:=ch) hch (fun b o hL hb hc e n=>u.keep b o e n (fun z=>(aj.mp (I.stkSub b z)).elim hL hb) hc) (fun b o _ _ hc e n=>u.any e n hc) (fun b o hc e n=>u.free b o e n hc) (fun b o hc e=>u.there b o e hc) u.tups u.frzs u.tbls (fun m' hm=>by
  obtain⟨o',es',ep',ho',r'⟩:=hm
  rw[ho]at ho';cases ho'
  exact⟨_,es',ep',hL,r'⟩) hok hg
theorem Inv.turned {t':Nat} {it:fO} (I:Inv X pz σ H s) (k:∀b o,b≠it->s.heap.get? b=some o->h'.get? b=some o) (hn:H it=none) (hL:it≠X.env.locals)
  (h1:it∈X.ex\/X.s₀.heap.objs.size<=it) (h2:∀x c,X.env.cells.lookup x=some c->c≠it) (h3:∀p∈X.pn++pz,p.1≠it):Inv X pz σ H {s with heap:=h',toks:=t'}:=by
 have nit:∀b u,H b=some u->b≠it:=fun b u e z=>by rw[z,hn]at e;cases e
 refine I.step (g':=s.gens) (d':=s.drawn) (ch:=[it]) (fun b hb=>?_) (fun b o _ _ hc e _=>k b o (fun z=>hc (by simp[z])) e) (fun b o _ _ hc e _=>⟨o.slots,k b o (fun z=>hc (by simp[z])) e⟩) (fun _ _ _ _ n=>n)
  (fun b o hc e=>⟨o,k b o (fun z=>hc (by simp[z])) e⟩) (fun _ _ e=>e) (fun _ _ _ e=>e) (fun b ps e=>⟨#[],by rw[e];simp⟩) (fun m hm=>?_) (fun b u e=>?_) I.bare
 ·have e:b=it:=by simpa using hb
  subst e
  exact⟨h1,hL,h2,h3⟩
 ·obtain⟨o,es,ep,ho,r⟩:=hm
  exact⟨o,es,ep,k _ o (Ne.symm hL) ho,r⟩
 ·refine(I.hok b u e).stay (fun c v hc q=>k c v ?_ q) (fun _ q=>q) fun _ _ q=>q
  rcases hc with z|z
  ·rw[z];exact nit b u e
  ·exact nit c _ z
theorem Inv.tok (I:Inv X pz σ H s) (t:Nat):Inv X pz σ H {s with toks:=t}:=I.un (h':=s.heap) (t':=t) Un.refl I.hok
theorem Inv.kept {t':Nat} (I:Inv X pz σ H s) (k:∀b u,s.heap.get? b=some u->h'.get? b=some u):Inv X pz σ H {s with heap:=h',toks:=t'}:=I.un (Un.kept k) (I.hok.kept k)
theorem Inv.laid {a:fO} {o:HO} {t':Nat} (I:Inv X pz σ H s) (k:∀b u,s.heap.get? b=some u->h'.get? b=some u) (hp:s.heap.objs.size<=a) (new:jG X.prog X.w (upd H a o) h' a o):
  Inv X pz σ (upd H a o) {s with heap:=h',toks:=t'}:=I.un (Un.laid k hp (I.hok.fresh hp)) (I.hok.laid k hp new)
theorem Inv.write {x e:fO} {o:HO} {t':Nat} (I:Inv X pz σ H s) (mu:Mut (H x)) (he:e=x\/H e=some (.own x)) (k:∀b u,b≠e->s.heap.get? b=some u->h'.get? b=some u) (heo:∃u,h'.get? e=some u)
  (new:jG X.prog X.w (upd H x o) h' x o):Inv X pz σ (upd H x o) {s with heap:=h',toks:=t'}:=I.un (Un.write mu he k heo) (I.hok.write mu he k heo new)
theorem Inv.pins_of {pins':List (fO×Obj)} (I:Inv X pz σ H s) (h:∀p∈pins',s.heap.get? p.1=some p.2/\H p.1=none/\p.1≠X.env.locals/\p.1∉X.fs/\∀v,p.2.data≠ .cell v):Inv X pins' σ H s:=
 ⟨I.ok,I.os,I.bare,I.base,I.loc,I.cell,I.free,I.freeC,fun p hp=>(ak.mp hp).elim (fun z=>I.pin p (ao _ z)) (h p),I.hok,I.len⟩
theorem xD {N:List Str} (hN:N.Nodup) {i j:Nat} {x:Str} (a:N[i]?=some x) (b:N[j]?=some x):i=j:=by
 obtain⟨h1,e1⟩:=aq.mp a
 obtain⟨h2,e2⟩:=aq.mp b
 exact(ar hN).mp (e1.trans e2.symm)
theorem zH {M:Model} {A:gf} {E:fQ->fR->Prop} {i:Nat} {x:Str} {v:V} {u:fQ} {Q:Unit->fR->Prop} (I:Inv X pz σ H s) (hN:X.N.Nodup) (hi:X.N[i]?=some x) (hx:Loc X.env.scope x) (r:jx v u)
  (h:∀s',Inv X pz (σ.set i (some v)) H s'->(∃a,Heap.SameBut a s.heap s'.heap/\(a=X.env.locals\/X.env.cells.lookup x=some a))->Q () s') (hf:autoParam (X.fn x=true\/X.env.scope.names.lookup x=some .local) L2.Internal.auL._auto_1):f6 M A (storeName X.env x u) Q E s:=by
 obtain⟨m,hn,hl⟩:=id I.loc
 have hcls:(X.env.scope.kind== .class||(X.env.scope.kind== .module&&X.env.locals !=X.env.globals))=false:=by rw[I.ok.kind];rfl
 have hiσ:i<σ.length:=by rw[I.len];exact(aq.mp hi).1
 have cne:=I.cne
 have tracked:∀{a:fO} {h':Heap},(∃o,s.heap.get? a=some o/\H a=none)->Heap.SameBut a s.heap h'->HOk X.prog X.w H h':=fun{a h'} ha hs b ob e=>by
  obtain⟨_,_,hfree⟩:=ha
  refine(I.hok b ob e).stay (fun c w' hc q=>(hs.2 c ?_).trans q) (fun _ q=>q) fun _ _ q=>q
  rintro rfl
  rcases hc with rfl|hc
  ·rw[hfree]at e;cases e
  ·rw[hfree]at hc;cases hc
 rcases hx with hk|hk
 ·refine wpAny_storeName_local hk hn (fun h' hn' hs=>?_) hcls
  obtain⟨oL,_,_,hoL,_⟩:=id hn
  refine h _ ⟨I.ok,I.os,I.bare,⟨fun b o e n hb hx=>?_,fun b o e n hb hx=>?_,I.base.free,fun b o e hx=>?_,I.base.tups,I.base.frzs,I.base.tbls⟩,⟨_,hn',fun j y v' e1 e2 e3=>?_⟩,fun y c e=>?_,I.free,I.freeC,fun p hp=>?_,tracked ⟨oL,hoL,I.free⟩ hs,by simpa using I.len⟩ ⟨_,hs,.inl rfl⟩
  ·exact(hs.2 b (cx (cq (fC e) I.ok.above))).trans (I.base.keep b o e n hb hx)
  ·obtain⟨sl,e1⟩:=I.base.slot b o e n hb hx
   exact⟨sl,(hs.2 b (cx (cq (fC e) I.ok.above))).trans e1⟩
  ·obtain⟨o',e1⟩:=I.base.there b o e hx
   exact⟨o',(hs.2 b (cx (cq (fC e) I.ok.above))).trans e1⟩
  ·by_cases hj:j=i
   ·subst hj
    rw[hi]at e1;cases e1
    rw[aw hiσ]at e2
    cases e2
    exact⟨u,r,.inl ⟨hk,by simp⟩⟩
   ·rw[ax (Ne.symm hj)]at e2
    obtain⟨u',r',q⟩:=hl j y v' e1 e2 e3
    refine⟨u',r',?_⟩
    rcases q with⟨k,e⟩|⟨k,c,e,z⟩
    ·refine .inl ⟨k,?_⟩
     have:y≠x:=fun e=>hj (xD hN e1 (e▸hi))
     simp[this,e]
    ·exact .inr ⟨k,c,e,z.sameBut hs (cne y c e)⟩
  ·obtain⟨w',z⟩:=I.cell y c e
   exact⟨w',z.sameBut hs (cne y c e)⟩
  ·obtain⟨e,n,ne,nf,d⟩:=I.pin p hp
   exact⟨(hs.2 p.1 ne).trans e,n,ne,nf,d⟩
 ·have hfn:X.fn x=true:=by
   rcases hf with z|z
   ·exact z
   ·rw[z]at hk;cases hk
  obtain⟨c,hc⟩:=I.ok.has x (.inl hk)
  obtain⟨w',z⟩:=I.cell x c hc
  refine wpAny_storeName_cell I.ok.kind hk hc z (fun h' hc' hs=>?_)
  obtain⟨oc,hoc,hocd⟩:=id z
  refine h {s with heap:=h'} ⟨I.ok,I.os,I.bare,⟨fun b o e n hb hx=>?_,fun b o e n hb hx=>?_,I.base.free,fun b o e hx=>?_,I.base.tups,I.base.frzs,I.base.tbls⟩,⟨m,hn.sameBut hs (Ne.symm (cne x c hc)),fun j y v' e1 e2 e3=>?_⟩,fun y c' e=>?_,I.free,I.freeC,fun p hp=>?_,tracked ⟨oc,hoc,I.freeC x c hc⟩ hs,by simpa using I.len⟩ ⟨c,hs,.inr hc⟩
  ·exact(hs.2 b (cx (cq (fC e) (I.ok.cab x c hfn hc)))).trans (I.base.keep b o e n hb hx)
  ·obtain⟨sl,e1⟩:=I.base.slot b o e n hb hx
   exact⟨sl,(hs.2 b (cx (cq (fC e) (I.ok.cab x c hfn hc)))).trans e1⟩
  ·obtain⟨o',e1⟩:=I.base.there b o e hx
   exact⟨o',(hs.2 b (cx (cq (fC e) (I.ok.cab x c hfn hc)))).trans e1⟩
  ·by_cases hj:j=i
   ·subst hj
    rw[hi]at e1;cases e1
    rw[aw hiσ]at e2
    cases e2
    exact⟨u,r,.inr ⟨.inl hk,c,hc,hc'⟩⟩
   ·rw[ax (Ne.symm hj)]at e2
    obtain⟨u',r',q⟩:=hl j y v' e1 e2 e3
    refine⟨u',r',?_⟩
    rcases q with q|⟨k,c',e,z'⟩
    ·exact .inl q
    ·refine .inr ⟨k,c',e,z'.sameBut hs ?_⟩
     rintro rfl
     exact hj (xD hN e1 (I.ok.inj _ _ _ e hc▸hi))
  ·by_cases hcc:c'=c
   ·subst hcc;exact⟨_,hc'⟩
   ·obtain⟨w2,z2⟩:=I.cell y c' e
    exact⟨w2,z2.sameBut hs hcc⟩
  ·obtain⟨e,n,ne,nf,d⟩:=I.pin p hp
   refine⟨(hs.2 p.1 ?_).trans e,n,ne,nf,d⟩
   intro q
   rw[q,hoc]at e
   have q':oc=p.2:=cR.inj e
   exact d w' (by rw[<-q'];exact hocd)
theorem ot {M:Model} {A:gf} {E:fQ->fR->Prop} {i:Nat} {x:Str} {v:V} {u:fQ} {Q:Unit->fR->Prop} (I:Inv X pz σ H s) (hN:X.N.Nodup) (hi:X.N[i]?=some x) (hx:Loc X.env.scope x) (r:jx v u)
  (h:∀s',Inv X pz (σ.set i (some v)) H s'->Q () s') (hf:autoParam (X.fn x=true\/X.env.scope.names.lookup x=some .local) L2.Internal.auL._auto_1):f6 M A (storeName X.env x u) Q E s:=
 zH I hN hi hx r (fun s' I' _=>h s' I') hf
theorem Inv.call' {s':fR} {ch:List fO} (I:Inv X pz σ H s) (ho:s'.os=s.os) (u:Un (frs X.stack) ch H H' s.heap s'.heap) (hok:HOk X.prog X.w H' s'.heap) (hg:AllBare s'.gens)
  (hch:∀b∈ch,(b∈X.ex\/X.s₀.heap.objs.size<=b)/\b≠X.env.locals/\(∀x c,X.env.cells.lookup x=some c->c≠b)/\∀p∈X.pn++pz,p.1≠b):Inv X pz σ H' s':=by
 obtain⟨h',g',d',t',o'⟩:=s'
 have e:o'=s.os:=ho
 subst e
 exact I.call (g':=g') (t':=t') (d':=d') u hok hg hch
end
abbrev XK:=fQ->Option fO->Hp->Prop
abbrev St:=List (Option V)
abbrev VK:=V->Hp->Prop
abbrev TE:=St->Hp->VK->Prop
abbrev TT:=St->Hp->(Bool->Hp->Prop)->Prop
abbrev TA:=St->Hp->(List V->Hp->Prop)->Prop
structure qb where
 nx:St->Hp->Prop
 rt:VK
 bk:St->Hp->Prop:=fun _ _=>False
 ct:St->Hp->Prop:=fun _ _=>False
abbrev TS:=qb->St->Hp->Prop
def EP (X:Cx) (pz:List (fO×Obj)) (σ:St) (Q:VK) (u:fQ) (s':fR):Prop:=∃v H',Inv X pz σ H' s'/\jx v u/\Q v H'
def TP (X:Cx) (pz:List (fO×Obj)) (σ:St) (Q:Bool->Hp->Prop) (b:Bool) (s':fR):Prop:=∃H',Inv X pz σ H' s'/\Q b H'
def AP (X:Cx) (pz:List (fO×Obj)) (σ:St) (Q:List V->Hp->Prop) (us:List fQ) (s':fR):Prop:=∃vs H',Inv X pz σ H' s'/\jI vs us/\Q vs H'
def SP (X:Cx) (pz:List (fO×Obj)) (D:qb) (f:Flow) (s':fR):Prop:=
 match f with
 | .next=>∃σ' H',Inv X pz σ' H' s'/\D.nx σ' H'
 | .brk=>∃σ' H',Inv X pz σ' H' s'/\D.bk σ' H'
 | .cont=>∃σ' H',Inv X pz σ' H' s'/\D.ct σ' H'
 | .ret u=>∃v σ' H',Inv X pz σ' H' s'/\jx v u/\D.rt v H'
def PE (X:Cx) (e:gS) (t:TE):Prop:=
 ∀(pz:List (fO×Obj)) (s:fR) (σ:St) (H:Hp) (Q:VK),Inv X pz σ H s->t σ H Q->f6 (f7 X.prog X.w) X.A (eval e X.env) (EP X pz σ Q) X.xe s
def PT (X:Cx) (e:gS) (t:TT):Prop:=
 ∀(pz:List (fO×Obj)) (s:fR) (σ:St) (H:Hp) (Q:Bool->Hp->Prop),Inv X pz σ H s->t σ H Q->f6 (f7 X.prog X.w) X.A (isTrue e X.env (eval e X.env)) (TP X pz σ Q) X.xe s
def PW (X:Cx) (e:gS) (t:TT):Prop:=
 ∀(whole:Sem fQ) (pz:List (fO×Obj)) (s:fR) (σ:St) (H:Hp) (Q:Bool->Hp->Prop),Inv X pz σ H s->t σ H Q->f6 (f7 X.prog X.w) X.A (isTrue e X.env whole) (TP X pz σ Q) X.xe s
theorem PW.pt {X:Cx} {e:gS} {t:TT} (h:PW X e t):PT X e t:=h _
def PA (X:Cx) (es:List gS) (t:TA):Prop:=
 ∀(pos:Pos) (pz:List (fO×Obj)) (s:fR) (σ:St) (H:Hp) (Q:List V->Hp->Prop),Inv X pz σ H s->t σ H Q->f6 (f7 X.prog X.w) X.A (spliced (gN pos (gn es X.env))) (AP X pz σ Q) X.xe s
def PS (X:Cx) (st:gR) (t:TS):Prop:=
 ∀(pz:List (fO×Obj)) (s:fR) (σ:St) (H:Hp) (D:qb),Inv X pz σ H s->t D σ H->f6 (f7 X.prog X.w) X.A (exec st X.env) (SP X pz D) X.xe s
def PSs (X:Cx) (st:List gR) (t:TS):Prop:=
 ∀(pz:List (fO×Obj)) (s:fR) (σ:St) (H:Hp) (D:qb),Inv X pz σ H s->t D σ H->f6 (f7 X.prog X.w) X.A (execs st X.env) (SP X pz D) X.xe s
theorem thn {α:Type} {t:Sem α} {Q Q':α->fR->Prop} {M:Model} {A:gf} {E:fQ->fR->Prop} {s:fR} (h:f6 M A t Q E s) (hQ:∀a s,Q a s->Q' a s):f6 M A t Q' E s:=fX h hQ fun _ _ x=>x
section
variable {X:Cx}
def Jv (i:Nat):TE:=fun σ H Q=>∃v,σ[i]?=some (some v)/\Q v H
def tC (v:V):TE:=fun _ H Q=>Q v H
theorem Gm {i:Nat} {x:Str} {pos:Pos} (hN:X.N[i]?=some x) (hv:Vis X.env.scope x) (hd:autoParam ((x==("__debug__":Str))=false) L2.Internal.auD._auto_1) (hcd:autoParam ((x==("__classdict__":Str))=false) L2.Internal.auD._auto_1):PE X (.Name x pos) (Jv i):=by
 intro pz s σ H Q I h
 obtain⟨v,e,h⟩:=h
 obtain⟨m,hn,hl⟩:=I.loc
 obtain⟨u,r,l⟩:=hl i x v hN e hv
 have fin:EP X pz σ Q u s:=⟨v,H,I,r,h⟩
 rcases l with⟨hk,hm⟩|⟨hk,c,hc,hcell⟩
 ·exact wpAny_Name (wpAny_loadName_local I.ok.kind hk hn hm fin) hd
 ·rcases hk with hk|hk
  ·exact wpAny_Name (wpAny_loadName_cell I.ok.kind hk hc hcell fin) hd
  ·exact wpAny_Name (wpAny_loadName_free I.ok.kind hk hc hcell fin hcd) hd
theorem hV {i j pos}:PE X (.Constant (.int i) j pos) (tC (.int i)):=fun _ _ _ H _ I h=>wpAny_Constant_int ⟨.int i,H,I.tok _,⟨_,rfl⟩,h⟩
theorem sA {b j pos}:PE X (.Constant (.bool b) j pos) (tC (.bl b)):=fun _ _ _ H _ I h=>Constant_bool ⟨.bl b,H,I,rfl,h⟩
theorem pB {j pos}:PE X (.Constant .none j pos) (tC .non):=fun _ _ _ H _ I h=>Constant_none ⟨.non,H,I,rfl,h⟩
theorem iC {x j pos}:PE X (.Constant (.str x) j pos) (tC (.str x)):=fun _ _ _ H _ I h=>Calls.Constant_str ⟨.str x,H,I.tok _,⟨_,rfl⟩,h⟩
def Gl (X:Cx) (x:Str):Prop:=X.env.kindOf x=some .globalImplicit
theorem tV {E:fQ->fR->Prop} {pz:List (fO×Obj)} {s:fR} {σ:St} {H:Hp} {x:Str} {u:fQ} {pos:Pos} {Q:fQ->fR->Prop} (I:Inv X pz σ H s) (hg:Gl X x) (hm:X.mg x=some u) (h:Q u s)
  (hd:autoParam ((x==("__debug__":Str))=false) L2.Internal.auD._auto_1):f6 (f7 X.prog X.w) X.A (eval (.Name x pos) X.env) Q E s:=
 Calls.Name_function_global I.ok.kind hg (Calls.loadGlobal_global (by rw[I.ok.glob];exact I.mod.glob.keeps I.bk) hm h) hd
theorem qB {E:fQ->fR->Prop} {pz:List (fO×Obj)} {s:fR} {σ:St} {H:Hp} {x:Str} {u:fQ} {pos:Pos} {Q:fQ->fR->Prop} (I:Inv X pz σ H s) (hg:Gl X x) (hm:X.mg x=none) (hv:gx x=some u) (h:Q u s)
  (hn:autoParam (x≠"__name__") L2.Internal.auD._auto_1) (hd:autoParam ((x==("__debug__":Str))=false) L2.Internal.auD._auto_1):f6 (f7 X.prog X.w) X.A (eval (.Name x pos) X.env) Q E s:=by
 obtain⟨mb,h1,h2⟩:=I.mod.blt
 exact Calls.Name_function_global I.ok.kind hg (Calls.loadGlobal_builtin (by rw[I.ok.glob];exact I.mod.glob.keeps I.bk) hm (by rw[I.ok.blt];exact h1.keeps I.bk) ((h2 x hn).trans hv) h) hd
theorem Ex {x:Str} {v:V} {u:fQ} {pos:Pos} (hg:Gl X x) (hm:X.mg x=some u) (r:jx v u) (hd:autoParam ((x==("__debug__":Str))=false) L2.Internal.auD._auto_1):PE X (.Name x pos) (tC v):=
 fun _ _ _ H _ I h=>tV I hg hm ⟨v,H,I,r,h⟩ hd
theorem Ey {x:Str} {v:V} {u:fQ} {pos:Pos} (hg:Gl X x) (hm:X.mg x=none) (hv:gx x=some u) (r:jx v u) (hn:autoParam (x≠"__name__") L2.Internal.auD._auto_1) (hd:autoParam ((x==("__debug__":Str))=false) L2.Internal.auD._auto_1):PE X (.Name x pos) (tC v):=
 fun _ _ _ H _ I h=>qB I hg hm hv ⟨v,H,I,r,h⟩ hn hd
variable {a b:gS} {ta tb:TE} {pos:Pos}
def PC (X:Cx) (op:CmpOp) (a b:gS) (t:TE):Prop:=
 ∀(pz:List (fO×Obj)) (s:fR) (σ:St) (H:Hp) (Q:VK),Inv X pz σ H s->t σ H Q->
  f6 (f7 X.prog X.w) X.A (eval a X.env) (fun v s₁=>f6 (f7 X.prog X.w) X.A (eval b X.env) (fun u s₂=>f6 (f7 X.prog X.w) X.A (gv op v u) (EP X pz σ Q) X.xe s₂) X.xe s₁) X.xe s
theorem xE (b:gS) {op:CmpOp} (h:op≠ .In) (h2:op≠ .NotIn):gH op b=false:=by
 have e1:(op==CmpOp.In)=false:=by cases op<;>first|rfl|exact absurd rfl h
 have e2:(op==CmpOp.NotIn)=false:=by cases op<;>first|rfl|exact absurd rfl h2
 cases b<;>simp[gH,e1,e2]
def tIsN (ta:TE):TE:=fun σ H Q=>ta σ H fun x H1=>Q (.bl (decide (x= .non))) H1
theorem jx.none_iff {x:V} {v:fQ} (r:jx x v):(v==Value.none)=decide (x= .non):=by
 cases x with
 |non=>cases r;rfl
 |bl _=>cases r;rfl
 |int _=>obtain⟨t,rfl⟩:=r;rfl
 |str _=>obtain⟨t,rfl⟩:=r;rfl
 |byt _=>obtain⟨t,rfl⟩:=r;rfl
 |flt _=>obtain⟨t,rfl⟩:=r;rfl
 |ref _=>cases r;rfl
 |ty _=>cases r;rfl
theorem zI {j pos'} (ha:PE X a ta):PC X .Is a (.Constant .none j pos') (tIsN ta):=by
 intro pz s σ H Q I h
 refine thn (ha pz s σ H _ I h) fun v s1 ⟨x,H1,I1,r1,q1⟩=>?_
 exact Constant_none (is_none_gen ⟨.bl _,H1,I1,by rw[r1.none_iff];rfl,q1⟩)
def tB (t:TE):TT:=fun σ H Q=>t σ H fun x H1=>∃c,x= .bl c/\Q c H1
theorem DA {op:CmpOp} {t:TE} (h:PC X op a b t) (h1:gH op b=false:=by first|exact xE _ (by decide) (by decide)|rfl):PE X (.Compare a [op] [b] pos) t:=fun pz s σ H Q I hw=>wpAny_Compare1 (h pz s σ H Q I hw) h1
theorem vh {op:CmpOp} {t:TE} (h:PC X op a b t) (h1:gH op b=false:=by first|exact xE _ (by decide) (by decide)|rfl):PT X (.Compare a [op] [b] pos) (tB t):=by
 intro pz s σ H Q I hw
 refine wpAny_isTrue_Compare1 (thn (h pz s σ H _ I hw) fun v s1 h1=>thn h1 fun u s2 h2=>thn h2 fun c s3 ⟨x,H1,I1,r1,q1⟩=>?_) h1
 obtain⟨d,rfl,q⟩:=q1
 cases r1
 exact gF ⟨H1,I1,q⟩
theorem vi {e:gS} {t:TE} (h:PE X e t) (he:autoParam (∀whole,isTrue e X.env whole=(do let v<-whole;standAt e.pos;holding [v] (truthy v))) L2.Internal.auI._auto_1):PT X e (tB t):=by
 intro pz s σ H Q I hw
 refine isTrue_plain (thn (h pz s σ H _ I hw) fun v s1 ⟨x,H1,I1,r1,q1⟩=>?_) (he _)
 obtain⟨d,rfl,q⟩:=q1
 cases r1
 exact gF ⟨H1,I1,q⟩
variable {tA tB':TT} {rest:List gS}
def HN (t u:TT):TT:=fun σ H Q=>t σ H fun c H1=>if c=true then u σ H1 Q else Q false H1
def tOr (t u:TT):TT:=fun σ H Q=>t σ H fun c H1=>if c=true then Q true H1 else u σ H1 Q
def tNot (t:TT):TT:=fun σ H Q=>t σ H fun c H1=>Q (!c) H1
theorem wt (ha:PT X a tA):PW X (.BoolOp .And [a] pos) tA:=by
 intro wh pz s σ H Q I h
 refine isTrue_and (thn (ha pz s σ H Q I h) fun c s1 e=>?_)
 cases c with
 |true=>exact isTrue_and_nil e
 |false=>exact e
theorem oF (ha:PT X a tA):PW X (.BoolOp .Or [a] pos) tA:=by
 intro wh pz s σ H Q I h
 refine isTrue_or (thn (ha pz s σ H Q I h) fun c s1 e=>?_)
 cases c with
 |false=>exact isTrue_or_nil e
 |true=>exact e
theorem xF (ha:PT X a tA) (hb:PW X (.BoolOp .And (b::rest) pos) tB'):PW X (.BoolOp .And (a::b::rest) pos) (HN tA tB'):=by
 intro wh pz s σ H Q I h
 refine isTrue_and (thn (ha pz s σ H _ I h) fun c s1 ⟨H1,I1,q1⟩=>?_)
 cases c with
 |true=>exact hb wh pz s1 σ H1 Q I1 q1
 |false=>exact⟨H1,I1,q1⟩
theorem sC (ha:PT X a tA) (hb:PW X (.BoolOp .Or (b::rest) pos) tB'):PW X (.BoolOp .Or (a::b::rest) pos) (tOr tA tB'):=by
 intro wh pz s σ H Q I h
 refine isTrue_or (thn (ha pz s σ H _ I h) fun c s1 ⟨H1,I1,q1⟩=>?_)
 cases c with
 |true=>exact⟨H1,I1,q1⟩
 |false=>exact hb wh pz s1 σ H1 Q I1 q1
theorem DB (ha:PT X a tA):PT X (.UnaryOp .Not a pos) (tNot tA):=by
 intro pz s σ H Q I h
 exact isTrue_not (ha pz s σ H (fun c H1=>Q (!c) H1) I h)
def HV (ta tb:TE):TE:=fun σ H Q=>ta σ H fun x H1=>∃c,x= .bl c/\if c=true then tb σ H1 Q else Q (.bl false) H1
def HW (ta:TE):TE:=fun σ H Q=>ta σ H fun x H1=>∃c,x= .bl c/\Q (.bl (!c)) H1
theorem zJ {op} {t:TE} (h:PE X a t):PE X (.BoolOp op [a] pos) t:=fun pz s σ H Q I hw=>BoolOp_one (h pz s σ H Q I hw)
theorem xG (ha:PE X a ta) (hb:PE X (.BoolOp .And (b::rest) pos) tb):PE X (.BoolOp .And (a::b::rest) pos) (HV ta tb):=by
 intro pz s σ H Q I h
 refine BoolOp_and (thn (ha pz s σ H _ I h) fun v s1 ⟨x,H1,I1,r1,q1⟩=>?_)
 obtain⟨c,rfl,q1⟩:=q1
 cases r1
 refine gF ?_
 cases c with
 |true=>exact hb pz s1 σ H1 Q I1 q1
 |false=>exact⟨.bl false,H1,I1,rfl,q1⟩
theorem Gn (ha:PE X a ta):PE X (.UnaryOp .Not a pos) (HW ta):=by
 intro pz s σ H Q I h
 refine UnaryOp_ (thn (ha pz s σ H _ I h) fun v s1 ⟨x,H1,I1,r1,q1⟩=>?_)
 obtain⟨c,rfl,q1⟩:=q1
 cases r1
 exact not_of (gF ⟨.bl (!c),H1,I1,rfl,q1⟩)
def tIf (t:TT) (ta tb:TE):TE:=fun σ H Q=>t σ H fun c H1=>if c=true then ta σ H1 Q else tb σ H1 Q
theorem tW {c:gS} (hc:PT X c tA) (ha:PE X a ta) (hb:PE X b tb):PE X (.IfExp c a b pos) (tIf tA ta tb):=by
 intro pz s σ H Q I h
 refine wpAny_IfExp (thn (hc pz s σ H _ I h) fun d s1 ⟨H1,I1,q1⟩=>?_)
 cases d with
 |true=>exact ha pz s1 σ H1 Q I1 q1
 |false=>exact hb pz s1 σ H1 Q I1 q1
end
def SqL (K:PySem.W.Frag) (H:Hp) (a:fO) (xs:List V):Prop:=
 Rd H a (.lst xs)\/
  ∃(o:Obj) (its:Array fQ) (n:Nat),K.lookup a=some o/\o.cls= .type "list"/\o.dict=none/\o.data= .seq its n/\its.size<=fY/\jI xs its.toList
def SqT (K:PySem.W.Frag) (H:Hp) (a:fO) (xs:List V):Prop:=
 Rd H a (.tup xs)\/
  ∃(o:Obj) (its:Array fQ) (n:Nat),K.lookup a=some o/\o.cls= .type "tuple"/\o.data= .seq its n/\its.size<=fY/\jI xs its.toList
def absV:fQ->Option V
 | .none=>some .non
 | .bool b=>some (.bl b)
 | .int i _=>some (.int i)
 | .str x _=>some (.str x)
 | .bytes b _=>some (.byt b)
 | .float b _=>some (.flt b)
 | .ref a=>some (.ref a)
 | .type n=>some (.ty n)
 |_=>none
theorem jx.abs {x:V} {u:fQ} (r:jx x u):absV u=some x:=by
 cases x with
 |non=>cases r;rfl
 |bl _=>cases r;rfl
 |int _=>obtain⟨t,rfl⟩:=r;rfl
 |str _=>obtain⟨t,rfl⟩:=r;rfl
 |byt _=>obtain⟨t,rfl⟩:=r;rfl
 |flt _=>obtain⟨t,rfl⟩:=r;rfl
 |ref _=>cases r;rfl
 |ty _=>cases r;rfl
theorem jx.inj {x y:V} {u:fQ} (r:jx x u) (q:jx y u):x=y:=cR.inj (r.abs.symm.trans q.abs)
theorem jI.inj:∀{xs ys:List V} {us:List fQ},jI xs us->jI ys us->xs=ys
 |_,_,_,.nil,.nil=>rfl
 |_,_,_,.cons r t,.cons r' t'=>by rw[r.inj r',jI.inj t t']
section
variable {X:Cx} {pz:List (fO×Obj)} {σ:St} {H:Hp} {s:fR} {a:fO} {xs ys:List V}
theorem SqL.of {K:PySem.W.Frag} (h:H a=some (.lst xs)):SqL K H a xs:= .inl (.inl h)
theorem SqT.of {K:PySem.W.Frag} (h:H a=some (.tup xs)):SqT K H a xs:= .inl (.inl h)
theorem Inv.list (I:Inv X pz σ H s) (h:SqL X.K H a xs):∃its:List fQ,jI xs its/\PlainL s.heap a its.toArray/\xs.length<=fY:=by
 rcases h with h|⟨o,its,n,hk,hc,hd,hs,hz,r⟩
 ·obtain⟨z,its,n,r,e⟩:=h.ok I.hok
  exact⟨its,r,⟨_,n,e,rfl,rfl,rfl⟩,z⟩
 ·refine⟨its.toList,r,⟨o,n,I.kIn a o hk,hc,hd,by simpa using hs⟩,?_⟩
  have e:=r.length
  simp only[eW]at e
  lia
theorem Inv.tuple (I:Inv X pz σ H s) (h:SqT X.K H a xs):∃its:List fQ,jI xs its/\IsTup s.heap a its.toArray/\xs.length<=fY:=by
 rcases h with h|⟨o,its,n,hk,hc,hs,hz,r⟩
 ·obtain⟨z,its,r,p⟩:=h.ok I.hok
  exact⟨its,r,p.tup,z⟩
 ·refine⟨its.toList,r,⟨o,I.kIn a o hk,hc,n,by simpa using hs⟩,?_⟩
  have e:=r.length
  simp only[eW]at e
  lia
theorem Inv.list_inj (I:Inv X pz σ H s) (h:SqL X.K H a xs) (h':SqL X.K H a ys):xs=ys:=by
 obtain⟨its,r,⟨o,n,e,_,_,d⟩,_⟩:=I.list h
 obtain⟨its',r',⟨o',n',e',_,_,d'⟩,_⟩:=I.list h'
 rw[e]at e';cases e'
 rw[d]at d'
 injection d' with d1 _
 have:its=its':=by simpa using congrArg Array.toList d1
 subst this
 exact r.inj r'
theorem Inv.tuple_inj (I:Inv X pz σ H s) (h:SqT X.K H a xs) (h':SqT X.K H a ys):xs=ys:=by
 obtain⟨its,r,⟨o,e,_,n,d⟩,_⟩:=I.tuple h
 obtain⟨its',r',⟨o',e',_,n',d'⟩,_⟩:=I.tuple h'
 rw[e]at e';cases e'
 rw[d]at d'
 injection d' with d1 _
 have:its=its':=by simpa using congrArg Array.toList d1
 subst this
 exact r.inj r'
end
abbrev Cx.wish (X:Cx) (E:fQ->fR->Prop):Cx:={X with xe:=E}
abbrev Cx.nox (X:Cx):Cx:=X.wish fun _ _=>False
theorem Cx.Ok.wish {X:Cx} (ok:X.Ok) (E:fQ->fR->Prop):(X.wish E).Ok:=
 ⟨ok.mod,ok.kind,ok.glob,ok.blt,ok.above,ok.inj,ok.has,ok.cab,ok.hd,ok.frames,ok.stk,ok.exf,ok.bs,ok.bsz,ok.noex,ok.exfs,ok.funs,ok.frf⟩
theorem Cx.Ok.unwish {X:Cx} {E:fQ->fR->Prop} (ok:(X.wish E).Ok):X.Ok:=
 ⟨ok.mod,ok.kind,ok.glob,ok.blt,ok.above,ok.inj,ok.has,ok.cab,ok.hd,ok.frames,ok.stk,ok.exf,ok.bs,ok.bsz,ok.noex,ok.exfs,ok.funs,ok.frf⟩
section
variable {X:Cx} {pz:List (fO×Obj)} {σ:St} {H:Hp} {s:fR} {E:fQ->fR->Prop}
theorem Inv.wish (I:Inv X pz σ H s) (E:fQ->fR->Prop):Inv (X.wish E) pz σ H s:=⟨I.ok.wish E,I.os,I.bare,I.base,I.loc,I.cell,I.free,I.freeC,I.pin,I.hok,I.len⟩
theorem Inv.unwish (I:Inv (X.wish E) pz σ H s):Inv X pz σ H s:=⟨I.ok.unwish,I.os,I.bare,I.base,I.loc,I.cell,I.free,I.freeC,I.pin,I.hok,I.len⟩
theorem SP.unwish {D:qb} {f:Flow} {s':fR} (h:SP (X.wish E) pz D f s'):SP X pz D f s':=by
 cases f with
 |next=>obtain⟨σ',H',I,q⟩:=h;exact⟨σ',H',I.unwish,q⟩
 |brk=>obtain⟨σ',H',I,q⟩:=h;exact⟨σ',H',I.unwish,q⟩
 |cont=>obtain⟨σ',H',I,q⟩:=h;exact⟨σ',H',I.unwish,q⟩
 |ret u=>obtain⟨v,σ',H',I,r,q⟩:=h;exact⟨v,σ',H',I.unwish,r,q⟩
theorem PSs.nox {st:List gR} {t:TS} (h:PSs X.nox st t):PSs X st t:=fun pz s σ H D I hw=>
 fX (h pz s σ H D (I.wish _) hw) (fun _ _ q=>q.unwish) fun _ _ z=>False.elim z
end
section
variable {X:Cx} {st:gR} {rest:List gR} {t u:TS} {e:gS} {te:TE} {pos:Pos}
def oA:TS:=fun D σ H=>D.nx σ H
def sX (t u:TS):TS:=fun D σ H=>t {D with nx:=u D} σ H
theorem iM:PSs X [] oA:=fun _ _ σ H _ I h=>wpAny_execs_nil ⟨σ,H,I,h⟩
theorem hW (h1:PS X st t) (h2:PSs X rest u):PSs X (st::rest) (sX t u):=by
 intro pz s σ H D I h
 refine wpAny_execs_cons (thn (h1 pz s σ H {D with nx:=u D} I h) fun f s1 q=>?_)
 cases f with
 |next=>
  obtain⟨σ',H',I',q⟩:=q
  exact h2 pz s1 σ' H' D I' q
 |ret v=>exact q
 |brk=>exact q
 |cont=>exact q
theorem hZ (h1:PS X st t):PSs X [st] t:=by
 intro pz s σ H D I h
 refine wpAny_execs_cons (thn (h1 pz s σ H D I h) fun f s1 q=>?_)
 cases f with
 |next=>exact wpAny_execs_nil q
 |ret v=>exact q
 |brk=>exact q
 |cont=>exact q
theorem Inv.quiet {pz:List (fO×Obj)} {σ:St} {H:Hp} {s:fR} (I:Inv X pz σ H s):interactive X.env=false:=by simp[interactive,I.ok.kind]
def zK (te:TE):TS:=fun D σ H=>te σ H fun _ H1=>D.nx σ H1
theorem iS (he:PE X e te) (hs:autoParam (swapsWith e none pos.line X.env=pure false) L2.Internal.auR._auto_1):PS X (.Expr e pos) (zK te):=by
 intro pz s σ H D I h
 exact wpAny_Expr_any (thn (he pz s σ H _ I h) fun v s1 ⟨x,H1,I1,r1,q1⟩=>⟨σ,H1,I1,q1⟩) I.quiet hs
def tRet (te:TE):TS:=fun D σ H=>te σ H D.rt
theorem iH (he:PE X e te):PS X (.Return (some e) pos) (tRet te):=by
 intro pz s σ H D I h
 exact wpAny_Return_some (thn (he pz s σ H _ I h) fun v s1 ⟨x,H1,I1,r1,q1⟩=>⟨x,σ,H1,I1,r1,q1⟩)
def tX (c:TT) (t u:TS):TS:=fun D σ H=>c σ H fun b H1=>if b=true then t D σ H1 else u D σ H1
theorem iY {c:gS} {a b:List gR} {tc:TT} (hc:PT X c tc) (ha:PSs X a t) (hb:PSs X b u):PS X (.If c a b pos) (tX tc t u):=by
 intro pz s σ H D I h
 refine wpAny_If (thn (hc pz s σ H _ I h) fun d s1 ⟨H1,I1,q1⟩=>?_)
 cases d with
 |true=>exact ha pz s1 σ H1 D I1 q1
 |false=>exact hb pz s1 σ H1 D I1 q1
end
abbrev TG:=V->St->Hp->(St->Hp->Prop)->Prop
abbrev TGs:=List V->St->Hp->(St->Hp->Prop)->Prop
def PG (X:Cx) (target:gS) (t:TG):Prop:=
 ∀(pz:List (fO×Obj)) (s:fR) (σ:St) (H:Hp) (v:V) (u:fQ) (Q:St->Hp->Prop),Inv X pz σ H s->jx v u->t v σ H Q->
  f6 (f7 X.prog X.w) X.A (assign target X.env u) (fun _ s'=>∃σ' H',Inv X pz σ' H' s'/\Q σ' H') X.xe s
def PGs (X:Cx) (ts:List gS) (t:TGs):Prop:=
 ∀(pz:List (fO×Obj)) (s:fR) (σ:St) (H:Hp) (vs:List V) (us:List fQ) (Q:St->Hp->Prop),Inv X pz σ H s->jI vs us->t vs σ H Q->
  f6 (f7 X.prog X.w) X.A (assignInOrder ((assignEach ts X.env).map (·.2)) us) (fun _ s'=>∃σ' H',Inv X pz σ' H' s'/\Q σ' H') X.xe s
abbrev TIp:=V->V->Hp->VK->Prop
def PIp (X:Cx) (op:Operator) (t:TIp):Prop:=
 ∀(pz:List (fO×Obj)) (s:fR) (σ:St) (H:Hp) (x y:V) (v u:fQ) (Q:VK),Inv X pz σ H s->jx x v->jx y u->t x y H Q->
  f6 (f7 X.prog X.w) X.A (inplaceOp op v u) (EP X pz σ Q) X.xe s
section
variable {X:Cx} {pos:Pos}
def iO (i:Nat):TG:=fun v σ H Q=>Q (σ.set i (some v)) H
theorem wu {i:Nat} {x:Str} (hN:X.N.Nodup) (hi:X.N[i]?=some x) (hx:Loc X.env.scope x) (hf:autoParam (X.fn x=true\/X.env.scope.names.lookup x=some .local) L2.Internal.auL._auto_1):PG X (.Name x pos) (iO i):=by
 intro pz s σ H v u Q I r h
 exact wpAny_assign_Name (ot I hN hi hx r (fun s' I'=>⟨_,H,I',h⟩) hf)
def zL:TGs:=fun vs σ H Q=>vs=[]/\Q σ H
def mi (t:TG) (u:TGs):TGs:=fun vs σ H Q=>∃v r,vs=v::r/\t v σ H fun σ' H'=>u r σ' H' Q
theorem qc:PGs X [] zL:=by
 intro pz s σ H vs us Q I r h
 obtain⟨e,h⟩:=h
 subst e
 cases r
 exact assignInOrder_nil ⟨σ,H,I,h⟩
theorem ke {e:gS} {es:List gS} {t:TG} {u:TGs} (h1:PG X e t) (h2:PGs X es u)
  (hs:autoParam ((assignEach (e::es) X.env).map (·.2)=assign e X.env::(assignEach es X.env).map (·.2)) L2.Internal.auR._auto_1):PGs X (e::es) (mi t u):=by
 intro pz s σ H vs us Q I r h
 obtain⟨v,vr,e1,h⟩:=h
 subst e1
 cases r with
 |cons r rr=>
  rw[hs]
  refine assignInOrder_cons (thn (h1 pz s σ H _ _ _ I r h) fun _ s1 ⟨σ1,H1,I1,q1⟩=>?_)
  exact h2 pz s1 σ1 H1 _ _ Q I1 rr q1
def zM (K:PySem.W.Frag) (n:Nat) (t:TGs):TG:=fun v σ H Q=>∃a xs,v= .ref a/\SqT K H a xs/\xs.length=n/\t xs σ H Q
theorem sY {es:List gS} {k:Nat} {t:TGs} {n:Nat} (hc:X.calm=true) (h:PGs X es t)
  (hn:autoParam ((assignEach es X.env).length=n) L2.Internal.auR._auto_1) (hst:autoParam ((assignEach es X.env).findIdx? (·.1)=none) L2.Internal.auR._auto_1):PG X (.Tuple es k pos) (zM X.K n t):=by
 intro pz s σ H v u Q I r hw
 obtain⟨a,xs,e1,hq,hl,hw⟩:=hw
 subst e1
 cases r
 obtain⟨its,rv,ht,hz⟩:=I.tuple hq
 refine assign_Tuple_tuple (I.ok.hd hc) ht (by simp[hn,<-hl,rv.length]) hst fun h' hx=>?_
 have I1:Inv X pz σ H {s with heap:=h'}:=I.kept (t':=s.toks) fun b o e=>hx b o (cx (fC e)) e
 exact h pz _ σ H xs _ Q I1 (by simpa using rv) hw
def Gp (te:TE) (g:TG):TS:=fun D σ H=>te σ H fun x H1=>g x σ H1 D.nx
theorem Gq {i:Nat} {x:Str} {e:gS} {te:TE} {pos':Pos} (hN:X.N.Nodup) (hi:X.N[i]?=some x) (hx:Loc X.env.scope x) (he:PE X e te) (hs:autoParam (swapsWith e (some (.Name x pos')) pos.line X.env=pure false) L2.Internal.auR._auto_1) (hf:autoParam (X.fn x=true\/X.env.scope.names.lookup x=some .local) L2.Internal.auL._auto_1):
  PS X (.Assign [.Name x pos'] e pos) (Gp te (iO i)):=by
 intro pz s σ H D I h
 refine wpAny_Assign_Name (thn (he pz s σ H _ I h) fun v s1 ⟨y,H1,I1,r1,q1⟩=>?_) hs
 exact ot I1 hN hi hx r1 (fun s2 I2=>⟨_,H1,I2,q1⟩) hf
def tAug (i:Nat) (te:TE) (ti:TIp):TS:=fun D σ H=>∃x,σ[i]?=some (some x)/\te σ H fun y H1=>ti x y H1 fun z H2=>D.nx (σ.set i (some z)) H2
theorem Gr {i:Nat} {x:Str} {e:gS} {te:TE} {op:Operator} {ti:TIp} {pos':Pos} (hN:X.N.Nodup) (hi:X.N[i]?=some x) (hx:Loc X.env.scope x) (he:PE X e te) (ho:PIp X op ti) (hf:autoParam (X.fn x=true\/X.env.scope.names.lookup x=some .local) L2.Internal.auL._auto_1):
  PS X (.AugAssign (.Name x pos') op e pos) (tAug i te ti):=by
 intro pz s σ H D I h
 obtain⟨v,e1,h⟩:=h
 obtain⟨m,hn,hl⟩:=I.loc
 have vis:Vis X.env.scope x:=by rcases hx with k|k;exact .inl k;exact .inr (.inl k)
 obtain⟨u,r,l⟩:=hl i x v hi e1 vis
 refine wpAny_AugAssign_Name ?_
 have go:f6 (f7 X.prog X.w) X.A (eval e X.env) (fun w s₂=>f6 (f7 X.prog X.w) X.A (inplaceOp op u w) (fun r s₃=>f6 (f7 X.prog X.w) X.A (storeName X.env x r) (fun _=>SP X pz D .next) X.xe s₃) X.xe s₂) X.xe s:=by
  refine thn (he pz s σ H _ I h) fun w s1 ⟨y,H1,I1,r1,q1⟩=>?_
  refine thn (ho pz s1 σ H1 v y u w _ I1 r r1 q1) fun z s2 ⟨zv,H2,I2,r2,q2⟩=>?_
  exact ot I2 hN hi hx r2 (fun s3 I3=>⟨_,H2,I3,q2⟩) hf
 rcases l with⟨hk,hm⟩|⟨hk,c,hc,hcell⟩
 ·exact wpAny_loadName_local I.ok.kind hk hn hm go
 ·rcases hk with hk|hk
  ·exact wpAny_loadName_cell I.ok.kind hk hc hcell go
  ·rcases hx with k|k
   ·have:X.env.scope.names.lookup x=some .free:=hk
    rw[k]at this;cases this
   ·have:X.env.scope.names.lookup x=some .free:=hk
    rw[k]at this;cases this
def ipI (f:Int->Int->Int):TIp:=fun x y H Q=>∃i j,x= .int i/\y= .int j/\Q (.int (f i j)) H
theorem Gu:PIp X .Add (ipI fun i j=>i+j):=by
 intro pz s σ H x y v u Q I r1 r2 h
 obtain⟨i,j,e1,e2,q⟩:=h
 subst e1;subst e2
 obtain⟨t,rfl⟩:=r1
 obtain⟨t',rfl⟩:=r2
 exact iadd_int ⟨.int _,H,I.tok _,⟨_,rfl⟩,q⟩
end
section
variable {X:Cx} {pos:Pos}
def Gv (c:TT) (tb:TS):TS:=fun D σ H=>∃W:Nat->St->Hp->Prop,(∃m,W m σ H)/\∀m σ H,W m σ H->
 c σ H fun b H1=>if b=true then ∃N:St->Hp->Prop,(∀σ' H',N σ' H'->∃m',m'<m/\W m' σ' H')/\tb {D with nx:=N,ct:=N,bk:=D.nx} σ H1 else D.nx σ H1
theorem xH {c:gS} {body:List gR} {tc:TT} {tb:TS} (hp:PassesOwn (f7 X.prog X.w) X.A X.env X.xe) (hc:PT X c tc) (hb:PSs X body tb):PS X (.While c body [] pos) (Gv tc tb):=by
 intro pz s σ H D I h
 obtain⟨W,⟨m0,w0⟩,turn⟩:=h
 refine wpAny_While (codeAny_whileLoop (fun n s'=>∃σ' H',Inv X pz σ' H' s'/\W n σ' H') ?_ m0 ⟨σ,H,I,w0⟩)
 rintro n s1 ⟨σ1,H1,I1,w1⟩
 refine gT hp (thn (hc pz s1 σ1 H1 _ I1 (turn n σ1 H1 w1)) fun b s2 ⟨H2,I2,q2⟩=>?_)
 cases b with
 |true=>
  obtain⟨N,hN,q2⟩:=q2
  rw[ja rfl]
  refine gT hp (thn (hb pz s2 σ1 H2 _ I2 q2) fun f s3 q3=>?_)
  cases f with
  |next=>
   obtain⟨σ3,H3,I3,n3⟩:=q3
   obtain⟨m',hm,w3⟩:=hN σ3 H3 n3
   exact⟨m',hm,σ3,H3,I3,w3⟩
  |cont=>
   obtain⟨σ3,H3,I3,n3⟩:=q3
   obtain⟨m',hm,w3⟩:=hN σ3 H3 n3
   exact⟨m',hm,σ3,H3,I3,w3⟩
  |brk=>exact q3
  |ret v=>exact q3
 |false=>
  rw[iT eP]
  exact wpAny_execs_nil ⟨σ1,H2,I2,q2⟩
end
structure It where
 go:Nat->Hp->Prop
 yld:Nat->Hp->V->Hp->Prop
 stop:Nat->Hp->Prop
def wj (X:Cx) (pz:List (fO×Obj)) (H:Hp) (b:fO):Prop:=
 H b=none/\b≠X.env.locals/\b∉X.fs/\(b∈X.ex\/X.s₀.heap.objs.size<=b)/\(∀x c,X.env.cells.lookup x=some c->c≠b)/\∀p∈X.pn++pz,p.1≠b
theorem Inv.fpOk {X:Cx} {pz:List (fO×Obj)} {σ:St} {H H':Hp} {s:fR} {b:fO} (I:Inv X pz σ H s) (hb:s.heap.objs.size<=b) (hn:H' b=none):wj X pz H' b:=by
 refine⟨hn,cA (cq I.lt hb),I.nofs hb,.inr (cy I.sz hb),fun x c e z=>?_,fun p hp z=>?_⟩
 ·obtain⟨v,q⟩:=I.cell x c e
  exact absurd (cq q.lt (by rw[z];exact hb)) (cw _)
 ·exact absurd (cq (fC (I.pin p hp).1) (by rw[z];exact hb)) (cw _)
structure DC (P:f9) (w:gm) (K:PySem.W.Frag) (tg:gS) (J:It) (fp:List fO) (it:fO) (tn:Nat->Heap->Prop):Prop where
 mem:it∈fp
 obj:∀i h,tn i h->∀b∈fp,∃o,h.get? b=some o/\∀v,o.data≠ .cell v
 keep:∀i h h',tn i h->(∀b∈fp,∀o,h.get? b=some o->h'.get? b=some o)->tn i h'
 item:∀(X:Cx),X.prog=P->X.w=w->X.K=K->X.calm=true->∀(i:Nat) (pz:List (fO×Obj)) (s:fR) (σ:St) (H:Hp) (E:fQ->fR->Prop),Inv X pz σ H s->(∀b∈fp,wj X pz H b)->tn i s.heap->J.go i H->
  f6 (f7 P w) X.A (pyNext (.ref it)) (fun r s1=>∃u,r=some u/\
   f6 (f7 P w) X.A (letOwnedTupleGo tg (.ref it) u) (fun _ s2=>∃x H',Inv X pz σ H' s2/\jx x u/\J.yld i H x H'/\tn (i+ 1) s2.heap/\∀b∈fp,H' b=none) E s1) E s
 done:∀(X:Cx),X.prog=P->X.w=w->X.K=K->X.calm=true->∀(i:Nat) (pz:List (fO×Obj)) (s:fR) (σ:St) (H:Hp) (E:fQ->fR->Prop),Inv X pz σ H s->(∀b∈fp,wj X pz H b)->tn i s.heap->J.stop i H->
  f6 (f7 P w) X.A (pyNext (.ref it)) (fun r s1=>r=none/\Inv X pz σ H s1) E s
 self:∀(A:gf) (i:Nat) (s:fR) (Q:fQ->fR->Prop) (E:fQ->fR->Prop),tn i s.heap->Q (.ref it) s->f6 (f7 P w) A (pyIter (.ref it)) Q E s
abbrev TI:=St->Hp->(It->Hp->Prop)->Prop
def PIE (X:Cx) (pz:List (fO×Obj)) (σ:St) (tg:gS) (R:It->Hp->Prop) (itv:fQ) (s2:fR):Prop:=
 ∃(it:fO) (fp:List fO) (tn:Nat->Heap->Prop) (J:It) (H':Hp),itv= .ref it/\Inv X pz σ H' s2/\DC X.prog X.w X.K tg J fp it tn/\tn 0 s2.heap/\(∀b∈fp,wj X pz H' b)/\R J H'
def PI (X:Cx) (tg iter:gS) (wi:TI):Prop:=
 ∀(pz:List (fO×Obj)) (s:fR) (σ:St) (H:Hp) (R:It->Hp->Prop),Inv X pz σ H s->wi σ H R->
  f6 (f7 X.prog X.w) X.A (eval iter X.env) (fun v s1=>f6 (f7 X.prog X.w) X.A (pyIter v) (PIE X pz σ tg R) X.xe s1) X.xe s
theorem Ca {M : Model} {A : gf} {E : fQ -> fR -> Prop} {s : fR} {tg : gS} {it : fO} {u : fQ} {o : Obj} {n : String} {vs : Array fQ} {Q : Unit -> fR -> Prop} (ho : s.heap.get? it = some o) (hc : o.cls = .type n) (hd : o.data = .fields vs)
  (hn : ["enumerate", "zip", "dict_itemiterator", "dict_reverseitemiterator", "odict_iterator", "itertools.zip_longest", "itertools.pairwise"].contains n = false) (hQ : Q () s) : f6 M A (letOwnedTupleGo tg (.ref it) u) Q E s := by
 unfold letOwnedTupleGo
 cases tg <;> first
  | exact fW hQ
  | (cases u <;> first
    | exact fW hQ
    | (refine fV (wpAny_load ho ?_)
       rw [hc, hd]
       show f6 M A (if (["enumerate", "zip", "dict_itemiterator", "dict_reverseitemiterator", "odict_iterator", "itertools.zip_longest", "itertools.pairwise"].contains n && vs[0]? == some (rawInt _)) = true then _ else _) Q E s
       rw [iT (by intro h; rw [hn, Bool.false_and] at h; cases h)]
       exact fW hQ))
def Itl (K:PySem.W.Frag) (a:fO):It:=
 ⟨fun i H=>∃xs x,SqL K H a xs/\xs[i]?=some x,fun i H x H'=>H'=H/\∀xs,SqL K H a xs->xs[i]?=some x,fun i H=>∃xs,SqL K H a xs/\xs.length<=i⟩
def Itt (K:PySem.W.Frag) (a:fO):It:=
 ⟨fun i H=>∃xs x,SqT K H a xs/\xs[i]?=some x,fun i H x H'=>H'=H/\∀xs,SqT K H a xs->xs[i]?=some x,fun i H=>∃xs,SqT K H a xs/\xs.length<=i⟩
def Itr (lo:Int) (n:Nat):It:=⟨fun i _=>i<n,fun i H x H'=>H'=H/\x= .int (lo+i),fun i _=>n<=i⟩
theorem zN {P:f9} {w:gm} {K:PySem.W.Frag} {tg:gS} (a it:fO):DC P w K tg (Itl K a) [it] it (fun i h=>h.IsListIter it a i) where
 mem:=by simp
 obj:=fun i h st b hb=>by
  have e:b=it:=by simpa using hb
  subst e
  obtain⟨o,e,c,d⟩:=st
  exact⟨o,e,fun v z=>by rw[d]at z;cases z⟩
 keep:=fun i h h' st k=>st.at fun o e=>k it (by simp) o e
 item:=by
  intro X hP hw hK hc i pz s σ H E I hf st hg
  subst hP hw hK
  obtain⟨xs,x,hq,hx⟩:=hg
  obtain⟨its,rv,p,hz⟩:=I.list hq
  obtain⟨u,hu,ru⟩:=rv.get hx
  obtain⟨f0,f1,f2,f3,f4,f5⟩:=hf it (by simp)
  refine wpAny_pyNext_list_item st p.isList (x:=u) (by simpa using hu) fun h' st' sb=>?_
  have I1:Inv X pz σ H {s with heap:=h'}:=I.turned (t':=s.toks) (fun b o hb e=>(sb.2 b hb).trans e) f0 f1 f3 f4 f5
  obtain⟨o,e,c,d⟩:=id st'
  exact⟨u,rfl,Ca (s:={s with heap:=h'}) e c d (by decide) ⟨x,H,I1,ru,⟨rfl,fun ys hy=>by rw[I.list_inj hy hq];exact hx⟩,st',fun b hb=>(hf b hb).1⟩⟩
 done:=by
  intro X hP hw hK hc i pz s σ H E I hf st hg
  subst hP hw hK
  obtain⟨xs,hq,hx⟩:=hg
  obtain⟨its,rv,p,hz⟩:=I.list hq
  obtain⟨f0,f1,f2,f3,f4,f5⟩:=hf it (by simp)
  have hl:=rv.length
  exact wpAny_pyNext_list_end (I.ok.hd hc) st p.isList (by simp;lia) fun h' eb=>⟨rfl,I.turned (t':=s.toks) (fun b o hb e=>eb b o hb e) f0 f1 f3 f4 f5⟩
 self:=fun _ _ _ _ _ st h=>wpAny_pyIter_listiter st h
theorem yV {P:f9} {w:gm} {K:PySem.W.Frag} {tg:gS} (a it:fO):DC P w K tg (Itt K a) [it] it (fun i h=>h.IsTupleIter it a i) where
 mem:=by simp
 obj:=fun i h st b hb=>by
  have e:b=it:=by simpa using hb
  subst e
  obtain⟨o,e,c,d⟩:=st
  exact⟨o,e,fun v z=>by rw[d]at z;cases z⟩
 keep:=fun i h h' st k=>st.at fun o e=>k it (by simp) o e
 item:=by
  intro X hP hw hK hc i pz s σ H E I hf st hg
  subst hP hw hK
  obtain⟨xs,x,hq,hx⟩:=hg
  obtain⟨its,rv,p,hz⟩:=I.tuple hq
  obtain⟨u,hu,ru⟩:=rv.get hx
  obtain⟨f0,f1,f2,f3,f4,f5⟩:=hf it (by simp)
  refine wpAny_pyNext_tuple_item st (show s.heap.IsTuple a its.toArray from p) (x:=u) (by simpa using hu) fun h' st' sb=>?_
  have I1:Inv X pz σ H {s with heap:=h'}:=I.turned (t':=s.toks) (fun b o hb e=>(sb.2 b hb).trans e) f0 f1 f3 f4 f5
  obtain⟨o,e,c,d⟩:=id st'
  exact⟨u,rfl,Ca (s:={s with heap:=h'}) e c d (by decide) ⟨x,H,I1,ru,⟨rfl,fun ys hy=>by rw[I.tuple_inj hy hq];exact hx⟩,st',fun b hb=>(hf b hb).1⟩⟩
 done:=by
  intro X hP hw hK hc i pz s σ H E I hf st hg
  subst hP hw hK
  obtain⟨xs,hq,hx⟩:=hg
  obtain⟨its,rv,p,hz⟩:=I.tuple hq
  obtain⟨f0,f1,f2,f3,f4,f5⟩:=hf it (by simp)
  have hl:=rv.length
  exact wpAny_pyNext_tuple_end (I.ok.hd hc) st (show s.heap.IsTuple a its.toArray from p) (by simp;lia) fun h' eb=>⟨rfl,I.turned (t':=s.toks) (fun b o hb e=>eb b o hb e) f0 f1 f3 f4 f5⟩
 self:=fun _ _ _ _ _ st h=>wpAny_pyIter_tupleiter st h
theorem yW {P:f9} {w:gm} {K:PySem.W.Frag} {tg:gS} (it:fO) (lo:Int) (n:Nat):DC P w K tg (Itr lo n) [it] it (fun i h=>IsRangeIter h it (lo+(i:Nat)*1) ((n:Int)-(i:Nat)) 1) where
 mem:=by simp
 obj:=fun i h st b hb=>by
  have e:b=it:=by simpa using hb
  subst e
  exact⟨_,st,fun v z=>by
   have z':Data.fields _=Data.cell v:=z
   cases z'⟩
 keep:=fun i h h' st k=>k it (by simp) _ st
 item:=by
  intro X hP hw hK hc i pz s σ H E I hf st hg
  subst hP hw hK
  obtain⟨f0,f1,f2,f3,f4,f5⟩:=hf it (by simp)
  have W:=Walks.range (prog:=X.prog) (w:=X.w) (I.ok.hd hc) it lo 1 n
  refine W.item i s _ _ hg st fun v h' tk hv st' kk=>?_
  obtain⟨t,rfl⟩:=hv
  have I1:Inv X pz σ H {s with heap:=h',toks:=tk}:=I.turned (fun b o hb e=>kk b o (by simpa using hb) e) f0 f1 f3 f4 f5
  refine⟨_,rfl,Ca (s:={s with heap:=h',toks:=tk}) (n:="range_iterator") st' rfl rfl (by decide) ⟨.int (lo+i),H,I1,⟨t,?_⟩,⟨rfl,rfl⟩,st',fun b hb=>(hf b hb).1⟩⟩
  rw[Int.mul_one]
 done:=by
  intro X hP hw hK hc i pz s σ H E I hf st hg
  subst hP hw hK
  obtain⟨f0,f1,f2,f3,f4,f5⟩:=hf it (by simp)
  exact wpAny_pyNext_range_end (I.ok.hd hc) st (by have:n<=i:=hg;lia) fun h' eb=>⟨rfl,I.turned (t':=s.toks) (fun b o hb e=>eb b o hb e) f0 f1 f3 f4 f5⟩
 self:=fun _ _ _ _ _ st h=>wpAny_pyIter_rangeiter st h
section
variable {X:Cx} {tg:gS}
def HY (K:PySem.W.Frag) (tl:TE):TI:=fun σ H R=>tl σ H fun x H1=>∃a,x= .ref a/\(∃xs,SqL K H1 a xs)/\R (Itl K a) H1
def iTup (K:PySem.W.Frag) (tl:TE):TI:=fun σ H R=>tl σ H fun x H1=>∃a,x= .ref a/\(∃xs,SqT K H1 a xs)/\R (Itt K a) H1
theorem j3 {l:gS} {tl:TE} (hl:PE X l tl):PI X tg l (HY X.K tl):=by
 intro pz s σ H R I h
 refine thn (hl pz s σ H _ I h) fun v s1 ⟨x,H1,I1,r1,q1⟩=>?_
 obtain⟨a,e,⟨xs,hq⟩,q⟩:=q1
 subst e
 cases r1
 obtain⟨its,rv,p,hz⟩:=I1.list hq
 refine wpAny_pyIter_list p.isList ?_
 refine⟨s1.heap.objs.size,[s1.heap.objs.size],_,_,H1,rfl,I1.kept (t':=s1.toks) fun b o e=>fF _ e,zN a _,⟨_,fE _ rfl,rfl,rfl⟩,fun b hb=>?_,q⟩
 have e:b=s1.heap.objs.size:=by simpa using hb
 subst e
 exact I1.fpOk (cB _) (I1.hok.fresh (cB _))
theorem lE {l:gS} {tl:TE} (hl:PE X l tl):PI X tg l (iTup X.K tl):=by
 intro pz s σ H R I h
 refine thn (hl pz s σ H _ I h) fun v s1 ⟨x,H1,I1,r1,q1⟩=>?_
 obtain⟨a,e,⟨xs,hq⟩,q⟩:=q1
 subst e
 cases r1
 obtain⟨its,rv,p,hz⟩:=I1.tuple hq
 refine wpAny_pyIter_tuple (show s1.heap.IsTuple a its.toArray from p) ?_
 refine⟨s1.heap.objs.size,[s1.heap.objs.size],_,_,H1,rfl,I1.kept (t':=s1.toks) fun b o e=>fF _ e,yV a _,⟨_,fE _ rfl,rfl,rfl⟩,fun b hb=>?_,q⟩
 have e:b=s1.heap.objs.size:=by simpa using hb
 subst e
 exact I1.fpOk (cB _) (I1.hok.fresh (cB _))
theorem Cb {pz:List (fO×Obj)} {σ:St} {H:Hp} {s:fR} {R:It->Hp->Prop} {E:fQ->fR->Prop} {lo hi:Int} {t u v:Tok} {tk:Nat} (I:Inv X pz σ H s) (h1: -(2^62)<=lo) (h2:lo<2^62) (h3: -(2^62)<=hi) (h4:hi<2^62)
  (q:R (Itr lo (hi-lo).toNat) H):f6 (f7 X.prog X.w) X.A (pyIter (.ref s.heap.objs.size)) (PIE X pz σ tg R) E {s with heap:=s.heap.push {cls:= .type "range",data:= .fields #[.int lo t,.int hi u,.int 1 v]},toks:=tk}:=by
 refine wpAny_pyIter_range (IsRange.new ..) (small_one h1 h2 h3 h4) ?_
 have I1:Inv X pz σ H {s with heap:=s.heap.push {cls:= .type "range",data:= .fields #[.int lo t,.int hi u,.int 1 v]},toks:=tk}:=I.kept fun b o e=>fF _ e
 refine⟨(s.heap.push {cls:= .type "range",data:= .fields #[.int lo t,.int hi u,.int 1 v]}).objs.size,[(s.heap.push {cls:= .type "range",data:= .fields #[.int lo t,.int hi u,.int 1 v]}).objs.size],_,_,H,rfl,
  I1.kept (t':=tk) fun b o e=>fF _ e,yW _ lo (hi-lo).toNat,?_,fun b hb=>?_,q⟩
 ·have e1:lo+((0:Nat):Int)*1=lo:=by simp
  have e2:(((hi-lo).toNat:Nat):Int)-((0:Nat):Int)=Builtin.Range.rangeSize lo hi 1:=by rw[rangeSize_one];split<;>lia
  show IsRangeIter _ _ (lo+((0:Nat):Int)*1) ((((hi-lo).toNat:Nat):Int)-((0:Nat):Int)) 1
  rw[e1,e2]
  exact fE _ rfl
 ·have e:b=(s.heap.push {cls:= .type "range",data:= .fields #[.int lo t,.int hi u,.int 1 v]}).objs.size:=by simpa using hb
  subst e
  exact I1.fpOk (cB _) (I1.hok.fresh (cB _))
def HZ (ta:TA):TI:=fun σ H R=>ta σ H fun vs H1=>∃j:Int,vs=[.int j]/\-(2^62)<=j/\j<2^62/\R (Itr 0 j.toNat) H1
theorem jS {a:gS} {ta:TA} {p pos:Pos} (hg:Gl X "range") (hm:X.mg "range"=none) (ha:PA X [a] ta) (hs:autoParam (gn [a] X.env=[(false,eval a X.env)]) L2.Internal.auR._auto_1):PI X tg (.Call (.Name "range" p) [a] [] pos) (HZ ta):=by
 intro pz s σ H R I h
 refine Call_ (qB I hg hm boot_range (fJ (thn (ha pos pz s σ H _ I h) fun us s1 ⟨vs,H1,I1,r1,q1⟩=>?_) hs rfl))
 obtain⟨j,e,q1,q2,q⟩:=q1
 subst e
 cases r1 with
 |cons r rr=>
  cases rr
  obtain⟨t,rfl⟩:=r
  exact call_range_1 (Cb I1 (by lia) (by lia) q1 q2 (by simpa using q))
def tFor (wi:TI) (g:TG) (tb:TS):TS:=fun D σ H=>wi σ H fun J H1=>∃W:Nat->Nat->St->Hp->Prop,(∃m,W 0 m σ H1)/\∀i m σ H,W i m σ H->
 (J.stop i H/\D.nx σ H)\/(J.go i H/\∃N:St->Hp->Prop,(∀σ' H',N σ' H'->∃m',m'<m/\W (i+ 1) m' σ' H')/\∀x H',J.yld i H x H'->g x σ H' fun σ2 H2=>tb {D with nx:=N,ct:=N,bk:=D.nx} σ2 H2)
def sZ (fp:List fO) (h:Heap):List (fO×Obj):=fp.filterMap fun b=>(h.get? b).map fun o=>(b,o)
theorem lC {fp:List fO} {h:Heap} {b:fO} {o:Obj} (hb:b∈fp) (e:h.get? b=some o):(b,o)∈sZ fp h:=ay.mpr ⟨b,hb,by rw[e];rfl⟩
theorem zO {fp:List fO} {h:Heap} {p:fO×Obj} (hp:p∈sZ fp h):p.1∈fp/\h.get? p.1=some p.2:=by
 obtain⟨b,hb,e⟩:=ay.mp hp
 cases q:h.get? b with
 |none=>rw[q]at e;cases e
 |some o=>
  rw[q]at e
  have e':(b,o)=p:=cR.inj e
  subst e'
  exact⟨hb,q⟩
theorem Inv.pinned {pz:List (fO×Obj)} {σ:St} {H:Hp} {s:fR} {fp:List fO} (I:Inv X pz σ H s) (hf:∀b∈fp,wj X pz H b) (ho:∀b∈fp,∃o,s.heap.get? b=some o/\∀v,o.data≠ .cell v):Inv X (pz++sZ fp s.heap) σ H s:=
 I.pins_of fun p hp=>(ak.mp hp).elim (fun z=>I.pin p (az _ z)) fun z=>by
  obtain⟨hb,e⟩:=zO z
  obtain⟨f0,f1,f2,_⟩:=hf p.1 hb
  obtain⟨o,e',d⟩:=ho p.1 hb
  rw[e]at e';cases e'
  exact⟨e,f0,f1,f2,d⟩
theorem Inv.unpinned {pz pl:List (fO×Obj)} {σ:St} {H:Hp} {s:fR} (I:Inv X (pz++pl) σ H s):Inv X pz σ H s:=I.pins_of fun p hp=>I.pin p (az _ (ao _ hp))
theorem jN {iter:gS} {body:List gR} {wi:TI} {g:TG} {tb:TS} {pos:Pos} (hp:PassesOwn (f7 X.prog X.w) X.A X.env X.xe) (hc:X.calm=true) (hi:PI X tg iter wi) (hg:PG X tg g) (hb:PSs X body tb)
  (hs:autoParam (∀x,gG iter X.env x=pure x) L2.Internal.auI._auto_1):PS X (.For tg iter body [] pos) (tFor wi g tb):=by
 intro pz s σ H D I h
 refine wpAny_For (thn (hi pz s σ H _ I h) fun v s1 h1=>thn h1 fun itv s2 h2=>?_) hs
 obtain⟨it,fp,tn,J,H2,e,I2,T,st2,f2,W,⟨m0,w0⟩,turn⟩:=h2
 subst e
 have stat:∀{H':Hp},(∀b∈fp,H' b=none)->∀b∈fp,wj X pz H' b:=fun hn b hb=>⟨hn b hb,(f2 b hb).2⟩
 refine codeAny_forLoop_any (fun n s'=>∃i σ' H',Inv X pz σ' H' s'/\tn i s'.heap/\(∀b∈fp,H' b=none)/\W i n σ' H') ?_ m0 ⟨0,σ,H2,I2,st2,fun b hb=>(f2 b hb).1,w0⟩
 rintro n s3 ⟨i,σ3,H3,I3,st3,fr3,w3⟩
 rcases turn i n σ3 H3 w3 with⟨stop,qn⟩|⟨go,N,hN,step⟩
 ·refine gT hp (thn (T.done X rfl rfl rfl hc i pz s3 σ3 H3 X.xe I3 (stat fr3) st3 stop) fun r s4 ⟨hr,I4⟩=>?_)
  subst hr
  exact wpAny_execs_nil ⟨σ3,H3,I4,qn⟩
 ·refine gT hp (thn (T.item X rfl rfl rfl hc i pz s3 σ3 H3 X.xe I3 (stat fr3) st3 go) fun r s4 ⟨u,hr,h4⟩=>?_)
  subst hr
  refine gT hp (thn h4 fun _ s5 ⟨x,H5,I5,r5,y5,st5,fr5⟩=>?_)
  have I5':=I5.pinned (stat fr5) (T.obj _ _ st5)
  refine gT hp (thn (hg _ s5 σ3 H5 x u _ I5' r5 (step x H5 y5)) fun _ s6 ⟨σ6,H6,I6,q6⟩=>?_)
  refine gT hp (thn (hb _ s6 σ6 H6 _ I6 q6) fun f s7 q7=>?_)
  have again:∀{σ7:St} {H7:Hp},Inv X (pz++sZ fp s5.heap) σ7 H7 s7->N σ7 H7->∃m,m<n/\∃i σ' H',Inv X pz σ' H' s7/\tn i s7.heap/\(∀b∈fp,H' b=none)/\W i m σ' H':=fun{σ7 H7} I7 n7=>by
   obtain⟨m',hm,w7⟩:=hN σ7 H7 n7
   refine⟨m',hm,i+ 1,σ7,H7,I7.unpinned,T.keep _ _ _ st5 fun b hb o e=>(I7.pin (b,o) (az _ (az _ (lC hb e)))).1,fun b hb=>?_,w7⟩
   obtain⟨o,e,d⟩:=T.obj _ _ st5 b hb
   exact(I7.pin (b,o) (az _ (az _ (lC hb e)))).2.1
  cases f with
  |next=>obtain⟨σ7,H7,I7,n7⟩:=q7;exact again I7 n7
  |cont=>obtain⟨σ7,H7,I7,n7⟩:=q7;exact again I7 n7
  |brk=>obtain⟨σ7,H7,I7,q7⟩:=q7;exact⟨σ7,H7,I7.unpinned,q7⟩
  |ret v=>obtain⟨x7,σ7,H7,I7,r7,q7⟩:=q7;exact⟨x7,σ7,H7,I7.unpinned,r7,q7⟩
end
theorem lq {K:PySem.W.Frag} {a:fO} {xs:List V} {g:TG} {tb:TS} {D:qb} {σ:St} {H:Hp} (Pv:Nat->St->Hp->Prop) (h0:Pv 0 σ H) (hl:∀i σ H,i<=xs.length->Pv i σ H->SqL K H a xs)
  (hs:∀i x σ H,xs[i]?=some x->Pv i σ H->g x σ H fun σ2 H2=>tb {D with nx:=Pv (i+ 1),ct:=Pv (i+ 1),bk:=D.nx} σ2 H2) (hd:∀σ H,Pv xs.length σ H->D.nx σ H):
  ∃W:Nat->Nat->St->Hp->Prop,(∃m,W 0 m σ H)/\∀i m σ H,W i m σ H->
   ((Itl K a).stop i H/\D.nx σ H)\/((Itl K a).go i H/\∃N:St->Hp->Prop,(∀σ' H',N σ' H'->∃m',m'<m/\W (i+ 1) m' σ' H')/\∀x H',(Itl K a).yld i H x H'->g x σ H' fun σ2 H2=>tb {D with nx:=N,ct:=N,bk:=D.nx} σ2 H2):=by
 refine⟨fun i m σ H=>m=xs.length-i/\i<=xs.length/\Pv i σ H,⟨xs.length,by simp,cC _,h0⟩,?_⟩
 rintro i m σ H ⟨rfl,hi,p⟩
 have q:=hl i σ H hi p
 by_cases hlt:i<xs.length
 ·refine .inr ⟨⟨xs,xs[i],q,by simp[hlt]⟩,Pv (i+ 1),fun σ' H' p'=>⟨xs.length-(i+ 1),by lia,rfl,hlt,p'⟩,fun x H' y=>?_⟩
  obtain⟨e,y⟩:=y
  subst e
  exact hs i x σ _ (y xs q) p
 ·have e:i=xs.length:=by lia
  subst e
  exact .inl ⟨⟨xs,q,cB _⟩,hd σ H p⟩
theorem qZ {K:PySem.W.Frag} {a:fO} {xs:List V} {g:TG} {tb:TS} {D:qb} {σ:St} {H:Hp} (Pv:Nat->St->Hp->Prop) (h0:Pv 0 σ H) (hl:∀i σ H,i<=xs.length->Pv i σ H->SqT K H a xs)
  (hs:∀i x σ H,xs[i]?=some x->Pv i σ H->g x σ H fun σ2 H2=>tb {D with nx:=Pv (i+ 1),ct:=Pv (i+ 1),bk:=D.nx} σ2 H2) (hd:∀σ H,Pv xs.length σ H->D.nx σ H):
  ∃W:Nat->Nat->St->Hp->Prop,(∃m,W 0 m σ H)/\∀i m σ H,W i m σ H->
   ((Itt K a).stop i H/\D.nx σ H)\/((Itt K a).go i H/\∃N:St->Hp->Prop,(∀σ' H',N σ' H'->∃m',m'<m/\W (i+ 1) m' σ' H')/\∀x H',(Itt K a).yld i H x H'->g x σ H' fun σ2 H2=>tb {D with nx:=N,ct:=N,bk:=D.nx} σ2 H2):=by
 refine⟨fun i m σ H=>m=xs.length-i/\i<=xs.length/\Pv i σ H,⟨xs.length,by simp,cC _,h0⟩,?_⟩
 rintro i m σ H ⟨rfl,hi,p⟩
 have q:=hl i σ H hi p
 by_cases hlt:i<xs.length
 ·refine .inr ⟨⟨xs,xs[i],q,by simp[hlt]⟩,Pv (i+ 1),fun σ' H' p'=>⟨xs.length-(i+ 1),by lia,rfl,hlt,p'⟩,fun x H' y=>?_⟩
  obtain⟨e,y⟩:=y
  subst e
  exact hs i x σ _ (y xs q) p
 ·have e:i=xs.length:=by lia
  subst e
  exact .inl ⟨⟨xs,q,cB _⟩,hd σ H p⟩
theorem ra {lo:Int} {n:Nat} {g:TG} {tb:TS} {D:qb} {σ:St} {H:Hp} (Pv:Nat->St->Hp->Prop) (h0:Pv 0 σ H)
  (hs:∀i σ H,i<n->Pv i σ H->g (.int (lo+i)) σ H fun σ2 H2=>tb {D with nx:=Pv (i+ 1),ct:=Pv (i+ 1),bk:=D.nx} σ2 H2) (hd:∀σ H,Pv n σ H->D.nx σ H):
  ∃W:Nat->Nat->St->Hp->Prop,(∃m,W 0 m σ H)/\∀i m σ H,W i m σ H->
   ((Itr lo n).stop i H/\D.nx σ H)\/((Itr lo n).go i H/\∃N:St->Hp->Prop,(∀σ' H',N σ' H'->∃m',m'<m/\W (i+ 1) m' σ' H')/\∀x H',(Itr lo n).yld i H x H'->g x σ H' fun σ2 H2=>tb {D with nx:=N,ct:=N,bk:=D.nx} σ2 H2):=by
 refine⟨fun i m σ H=>m=n-i/\i<=n/\Pv i σ H,⟨n,by simp,cC _,h0⟩,?_⟩
 rintro i m σ H ⟨rfl,hi,p⟩
 by_cases hlt:i<n
 ·refine .inr ⟨hlt,Pv (i+ 1),fun σ' H' p'=>⟨n-(i+ 1),by lia,rfl,hlt,p'⟩,fun x H' y=>?_⟩
  obtain⟨e,y⟩:=y
  subst e y
  exact hs i σ _ hlt p
 ·have e:i=n:=by lia
  subst e
  exact .inl ⟨cB _,hd σ H p⟩
abbrev R2:=V->V->Hp->VK->Prop
def OpR (X:Cx) (f:fQ->fQ->Sem fQ) (r:R2):Prop:=
 ∀(pz:List (fO×Obj)) (s:fR) (σ:St) (H:Hp) (x y:V) (v u:fQ) (Q:VK),Inv X pz σ H s->jx x v->jx y u->r x y H Q->
  f6 (f7 X.prog X.w) X.A (f v u) (EP X pz σ Q) X.xe s
def UnR (X:Cx) (f:fQ->Sem fQ) (r:V->Hp->VK->Prop):Prop:=
 ∀(pz:List (fO×Obj)) (s:fR) (σ:St) (H:Hp) (x:V) (v:fQ) (Q:VK),Inv X pz σ H s->jx x v->r x H Q->
  f6 (f7 X.prog X.w) X.A (f v) (EP X pz σ Q) X.xe s
def m9 (X:Cx) (f:fQ) (r:List V->Hp->VK->Prop):Prop:=
 ∀(pz:List (fO×Obj)) (s:fR) (σ:St) (H:Hp) (xs:List V) (us:List fQ) (Q:VK),Inv X pz σ H s->jI xs us->r xs H Q->
  f6 (f7 X.prog X.w) X.A (call f us) (EP X pz σ Q) X.xe s
def tOp (r:R2) (ta tb:TE):TE:=fun σ H Q=>ta σ H fun x H1=>tb σ H1 fun y H2=>r x y H2 Q
def tUn (r:V->Hp->VK->Prop) (ta:TE):TE:=fun σ H Q=>ta σ H fun x H1=>r x H1 Q
def rI (C:Int->Int->Prop) (g:Int->Int->V):R2:=fun x y H Q=>∃i j,x= .int i/\y= .int j/\C i j/\Q (g i j) H
def rI0 (g:Int->Int->V):R2:=fun x y H Q=>∃i j,x= .int i/\y= .int j/\Q (g i j) H
def rU (g:Int->V):V->Hp->VK->Prop:=fun x H Q=>∃i,x= .int i/\Q (g i) H
section
variable {X:Cx} {a b c:gS} {ta tb tc:TE} {pos:Pos}
theorem Ia (ha:PE X a ta) (hb:PE X b tb) {pz:List (fO×Obj)} {s:fR} {σ:St} {H:Hp} {R:V->V->Hp->Prop} (I:Inv X pz σ H s)
  (h:ta σ H fun x H1=>tb σ H1 fun y H2=>R x y H2) {Q:fQ->fR->Prop} {f:fQ->fQ->Sem fQ}
  (hf:∀v u s2 x y H2,Inv X pz σ H2 s2->jx x v->jx y u->R x y H2->f6 (f7 X.prog X.w) X.A (f v u) Q X.xe s2):
  f6 (f7 X.prog X.w) X.A (eval a X.env) (fun v s₁=>f6 (f7 X.prog X.w) X.A (eval b X.env) (fun u s₂=>f6 (f7 X.prog X.w) X.A (f v u) Q X.xe s₂) X.xe s₁) X.xe s:=by
 refine thn (ha pz s σ H _ I h) fun v s1 ⟨x,H1,I1,r1,q1⟩=>?_
 refine thn (hb pz s1 σ H1 _ I1 q1) fun u s2 ⟨y,H2,I2,r2,q2⟩=>?_
 exact hf v u s2 x y H2 I2 r1 r2 q2
theorem iK {op:Operator} {r:R2} (ho:OpR X (gw op) r) (ha:PE X a ta) (hb:PE X b tb):PE X (.BinOp a op b pos) (tOp r ta tb):=by
 intro pz s σ H Q I h
 exact wpAny_BinOp (Ia ha hb I h fun v u s2 x y H2 I2 rx ry q=>ho pz s2 σ H2 x y v u Q I2 rx ry q)
theorem Ib {op:UnaryOp} {r:V->Hp->VK->Prop} (ho:UnR X (unaryOp op) r) (ha:PE X a ta):PE X (.UnaryOp op a pos) (tUn r ta):=by
 intro pz s σ H Q I h
 exact UnaryOp_ (thn (ha pz s σ H _ I h) fun v s1 ⟨x,H1,I1,r1,q1⟩=>ho pz s1 σ H1 x v Q I1 r1 q1)
theorem opI {f:fQ->fQ->Sem fQ} {C:Int->Int->Prop} {g:Int->Int->Int}
  (rule:∀(i j:Int) (t u:Tok) (s:fR) (Q:fQ->fR->Prop) (E:fQ->fR->Prop),C i j->Q (.int (g i j) s.toks) {s with toks:=s.toks+ 1}->f6 (f7 X.prog X.w) X.A (f (.int i t) (.int j u)) Q E s):
  OpR X f (rI C fun i j=> .int (g i j)):=by
 intro pz s σ H x y v u Q I rx ry h
 obtain⟨i,j,rfl,rfl,hc,q⟩:=h
 obtain⟨t,rfl⟩:=rx
 obtain⟨t',rfl⟩:=ry
 exact rule i j t t' s _ _ hc ⟨.int (g i j),H,I.tok _,⟨_,rfl⟩,q⟩
theorem Jw {f:fQ->fQ->Sem fQ} {g:Int->Int->Int}
  (rule:∀(i j:Int) (t u:Tok) (s:fR) (Q:fQ->fR->Prop) (E:fQ->fR->Prop),Q (.int (g i j) s.toks) {s with toks:=s.toks+ 1}->f6 (f7 X.prog X.w) X.A (f (.int i t) (.int j u)) Q E s):
  OpR X f (rI0 fun i j=> .int (g i j)):=by
 intro pz s σ H x y v u Q I rx ry h
 obtain⟨i,j,rfl,rfl,q⟩:=h
 obtain⟨t,rfl⟩:=rx
 obtain⟨t',rfl⟩:=ry
 exact rule i j t t' s _ _ ⟨.int (g i j),H,I.tok _,⟨_,rfl⟩,q⟩
theorem Jx {f:fQ->fQ->Sem fQ} {g:Int->Int->Bool}
  (rule:∀(i j:Int) (t u:Tok) (s:fR) (Q:fQ->fR->Prop) (E:fQ->fR->Prop),Q (.bool (g i j)) s->f6 (f7 X.prog X.w) X.A (f (.int i t) (.int j u)) Q E s):
  OpR X f (rI0 fun i j=> .bl (g i j)):=by
 intro pz s σ H x y v u Q I rx ry h
 obtain⟨i,j,rfl,rfl,q⟩:=h
 obtain⟨t,rfl⟩:=rx
 obtain⟨t',rfl⟩:=ry
 exact rule i j t t' s _ _ ⟨.bl (g i j),H,I,rfl,q⟩
def Jy (i j:Int):Prop:=0<j/\j<1073741824
def Jz (i j:Int):Prop:=0<=j/\j<=1000000/\i.natAbs<2^64
def HP (i j:Int):Prop:=(-(2^64)<i/\i<2^64)\/(-(2^64)<j/\j<2^64)
theorem HP.ok {i j:Int} (h:HP i j):IntMulOk i j:=by
 rcases h with⟨h1,h2⟩|⟨h1,h2⟩
 ·exact .of_left (intBits_le_64 h1 h2)
 ·exact .of_right (intBits_le_64 h1 h2)
theorem zP:OpR X (gw .Add) (rI0 fun i j=> .int (i+j)):=Jw fun _ _ _ _ _ _ _ q=>add_int q
theorem DE:OpR X (gw .Sub) (rI0 fun i j=> .int (i-j)):=Jw fun _ _ _ _ _ _ _ q=>sub_int q
theorem xI:OpR X (gw .Mult) (rI HP fun i j=> .int (i*j)):=opI fun _ _ _ _ _ _ _ hc q=>mul_int q hc.ok
theorem Ez:OpR X (gw .FloorDiv) (rI Jy fun i j=> .int (i/j)):=opI fun i j _ _ _ _ _ hc q=>by
 have h1:(0:Int)<j:=hc.1
 have h2:j<1073741824:=hc.2
 exact floordiv_int (by lia) (by rw[Int.fdiv_eq_ediv_of_nonneg i (by lia)];exact q) (.inl (PyProof.noPylong_small (by lia)))
theorem zQ:OpR X (gw .Mod) (rI (fun _ j=>0<j) fun i j=> .int (i%j)):=opI fun i j _ _ _ _ _ hc q=>by
 have h1:(0:Int)<j:=hc
 exact mod_int' (by lia) (by rw[Int.fmod_eq_emod_of_nonneg i (by lia)];exact q)
theorem DF:OpR X (gw .Pow) (rI Jz fun i j=> .int (i^j.toNat)):=opI fun _ _ _ _ _ _ _ hc q=>pow_int_small hc.1 hc.2.1 hc.2.2 q
theorem unI {f:fQ->Sem fQ} {g:Int->Int}
  (rule:∀(i:Int) (t:Tok) (s:fR) (Q:fQ->fR->Prop) (E:fQ->fR->Prop),Q (.int (g i) s.toks) {s with toks:=s.toks+ 1}->f6 (f7 X.prog X.w) X.A (f (.int i t)) Q E s):
  UnR X f (rU fun i=> .int (g i)):=by
 intro pz s σ H x v Q I rx h
 obtain⟨i,rfl,q⟩:=h
 obtain⟨t,rfl⟩:=rx
 exact rule i t s _ _ ⟨.int (g i),H,I.tok _,⟨_,rfl⟩,q⟩
theorem Gw:UnR X (unaryOp .USub) (rU fun i=> .int (-i)):=unI fun _ _ _ _ _ q=>neg_int q
end
def JA:V->V->Bool
 | .non,.non=>true| .non,.int _=>true| .int _,.non=>true| .non,.bl _=>true| .bl _,.non=>true| .non,.str _=>true| .str _,.non=>true
 | .int _,.int _=>true| .bl _,.bl _=>true| .str _,.str _=>true| .byt _,.byt _=>true
 | .int _,.str _=>true| .str _,.int _=>true| .bl _,.str _=>true| .str _,.bl _=>true
 |_,_=>false
def rEq:R2:=fun x y H Q=>JA x y=true/\Q (.bl (decide (x=y))) H
def rNe:R2:=fun x y H Q=>JA x y=true/\Q (.bl (!decide (x=y))) H
theorem zR {i j:Int}:decide (V.int i=V.int j)=(i==j):=by
 rw[eQ]
 simp
theorem DG {i j:Bool}:decide (V.bl i=V.bl j)=(i==j):=by
 rw[eQ]
 simp
theorem zS {i j:Str}:decide (V.str i=V.str j)=(i==j):=by
 rw[eQ]
 simp
theorem zT {i j:Array UInt8}:decide (V.byt i=V.byt j)=(i.toList==j.toList):=by
 rw[eQ]
 cases i
 cases j
 simp
section
variable {X:Cx} {a b c:gS} {ta tb tc:TE} {pos:Pos}
theorem jv {pz:List (fO×Obj)} {σ:St} {H:Hp} {s:fR} {Q:VK} {k k':Bool} (I:Inv X pz σ H s) (q:Q (.bl k) H) (e:k=k'):EP X pz σ Q (.bool k') s:=by
 subst e
 exact⟨.bl k,H,I,rfl,q⟩
theorem zU:OpR X (gv .Eq) rEq:=by
 intro pz s σ H x y v u Q I rx ry h
 obtain⟨hs,q⟩:=h
 cases x with
 |non=>
  cases rx
  cases y with
  |non=>cases ry;exact PySem.EqNone.eq_none_none (jv I q (by simp))
  |bl j=>cases ry;exact PySem.EqNone.eq_none_bool (jv I q (by simp))
  |int j=>obtain⟨t',rfl⟩:=ry;exact PySem.EqNone.eq_none_int (jv I q (by simp))
  |str j=>obtain⟨t',rfl⟩:=ry;exact PySem.EqNone.eq_none_str (jv I q (by simp))
  |_=>exact absurd (show false=true from hs) eP
 |bl i=>
  cases rx
  cases y with
  |non=>cases ry;exact PySem.EqNone.eq_bool_none (jv I q (by simp))
  |bl j=>cases ry;exact eq_bool (jv I q DG)
  |str j=>obtain⟨t',rfl⟩:=ry;exact PySem.EqMixed.eq_bool_str (jv I q (by simp))
  |_=>exact absurd (show false=true from hs) eP
 |int i=>
  obtain⟨t,rfl⟩:=rx
  cases y with
  |non=>cases ry;exact PySem.EqNone.eq_int_none (jv I q (by simp))
  |int j=>obtain⟨t',rfl⟩:=ry;exact eq_int (jv I q zR)
  |str j=>obtain⟨t',rfl⟩:=ry;exact PySem.EqMixed.eq_int_str (jv I q (by simp))
  |_=>exact absurd (show false=true from hs) eP
 |str i=>
  obtain⟨t,rfl⟩:=rx
  cases y with
  |non=>cases ry;exact PySem.EqNone.eq_str_none (jv I q (by simp))
  |bl j=>cases ry;exact PySem.EqMixed.eq_str_bool (jv I q (by simp))
  |int j=>obtain⟨t',rfl⟩:=ry;exact PySem.EqMixed.eq_str_int (jv I q (by simp))
  |str j=>obtain⟨t',rfl⟩:=ry;exact eq_str (jv I q zS)
  |_=>exact absurd (show false=true from hs) eP
 |byt i=>
  obtain⟨t,rfl⟩:=rx
  cases y with
  |byt j=>obtain⟨t',rfl⟩:=ry;exact PySem.W.eq_bytes (jv I q zT)
  |_=>exact absurd (show false=true from hs) eP
 |_=>cases y<;>exact absurd (show false=true from hs) eP
theorem wx:OpR X (gv .NotEq) rNe:=by
 intro pz s σ H x y v u Q I rx ry h
 obtain⟨hs,q⟩:=h
 cases x with
 |non=>
  cases rx
  cases y with
  |non=>cases ry;exact PySem.EqNone.ne_none_none (jv I q (by simp))
  |bl j=>cases ry;exact PySem.EqNone.ne_none_bool (jv I q (by simp))
  |int j=>obtain⟨t',rfl⟩:=ry;exact PySem.EqNone.ne_none_int (jv I q (by simp))
  |str j=>obtain⟨t',rfl⟩:=ry;exact PySem.EqNone.ne_none_str (jv I q (by simp))
  |_=>exact absurd (show false=true from hs) eP
 |bl i=>
  cases rx
  cases y with
  |non=>cases ry;exact PySem.EqNone.ne_bool_none (jv I q (by simp))
  |bl j=>cases ry;exact ne_bool (jv I q (congrArg not DG))
  |str j=>obtain⟨t',rfl⟩:=ry;exact PySem.EqMixed.ne_bool_str (jv I q (by simp))
  |_=>exact absurd (show false=true from hs) eP
 |int i=>
  obtain⟨t,rfl⟩:=rx
  cases y with
  |non=>cases ry;exact PySem.EqNone.ne_int_none (jv I q (by simp))
  |int j=>obtain⟨t',rfl⟩:=ry;exact ne_int (jv I q (congrArg not zR))
  |str j=>obtain⟨t',rfl⟩:=ry;exact PySem.EqMixed.ne_int_str (jv I q (by simp))
  |_=>exact absurd (show false=true from hs) eP
 |str i=>
  obtain⟨t,rfl⟩:=rx
  cases y with
  |non=>cases ry;exact PySem.EqNone.ne_str_none (jv I q (by simp))
  |bl j=>cases ry;exact PySem.EqMixed.ne_str_bool (jv I q (by simp))
  |int j=>obtain⟨t',rfl⟩:=ry;exact PySem.EqMixed.ne_str_int (jv I q (by simp))
  |str j=>obtain⟨t',rfl⟩:=ry;exact ne_str (jv I q (congrArg not zS))
  |_=>exact absurd (show false=true from hs) eP
 |byt i=>
  obtain⟨t,rfl⟩:=rx
  cases y with
  |byt j=>obtain⟨t',rfl⟩:=ry;exact PySem.W.ne_bytes (jv I q (congrArg not zT))
  |_=>exact absurd (show false=true from hs) eP
 |_=>cases y<;>exact absurd (show false=true from hs) eP
theorem Ic:OpR X (gv .Lt) (rI0 fun i j=> .bl (decide (i<j))):=Jx fun _ _ _ _ _ _ _ q=>lt_int q
theorem Ie:OpR X (gv .Gt) (rI0 fun i j=> .bl (decide (j<i))):=Jx fun _ _ _ _ _ _ _ q=>gt_int q
theorem zV (b:gS) {op:CmpOp} (h:autoParam (op≠ .In) L2.Internal.auD._auto_1) (h2:autoParam (op≠ .NotIn) L2.Internal.auD._auto_1):gH op b=false:=by
 have e1:(op==CmpOp.In)=false:=by cases op<;>first|rfl|exact absurd rfl h
 have e2:(op==CmpOp.NotIn)=false:=by cases op<;>first|rfl|exact absurd rfl h2
 cases b<;>simp[gH,e1,e2]
theorem nc {op:CmpOp} {r:R2} (ho:OpR X (gv op) r) (ha:PE X a ta) (hb:PE X b tb) (hm:gH op b=false:=by exact zV _):PE X (.Compare a [op] [b] pos) (tOp r ta tb):=by
 intro pz s σ H Q I h
 exact wpAny_Compare1 (Ia ha hb I h fun v u s2 x y H2 I2 rx ry q=>ho pz s2 σ H2 x y v u Q I2 rx ry q) hm
def Ig (t:TE):TT:=fun σ H Q=>t σ H fun x H'=>∃k,x= .bl k/\Q k H'
theorem oN {op:CmpOp} {r:R2} (ho:OpR X (gv op) r) (ha:PE X a ta) (hb:PE X b tb) (hm:gH op b=false:=by exact zV _):PT X (.Compare a [op] [b] pos) (Ig (tOp r ta tb)):=by
 intro pz s σ H Q I h
 refine wpAny_isTrue_Compare1 (thn (ha pz s σ H _ I h) fun v s1 ⟨x,H1,I1,r1,q1⟩=>thn (hb pz s1 σ H1 _ I1 q1) fun u s2 ⟨y,H2,I2,r2,q2⟩=>
  thn (ho pz s2 σ H2 x y v u _ I2 r1 r2 q2) fun c s3 ⟨z,H3,I3,r3,k,e,q3⟩=>?_) hm
 subst e
 cases r3
 exact gF ⟨H3,I3,q3⟩
theorem tf:(fY:Nat)<2^63:=by rw[fZ];decide
theorem yX:OpR X (gw .Add) (fun x y H Q=>∃i j,x= .str i/\y= .str j/\i.length+j.length<=fY/\Q (.str (i++j)) H):=by
 intro pz s σ H x y v u Q I rx ry h
 obtain⟨i,j,rfl,rfl,hz,q⟩:=h
 obtain⟨t,rfl⟩:=rx
 obtain⟨t',rfl⟩:=ry
 exact add_str (fun t' tk=>⟨.str (i++j),H,I.tok _,⟨_,rfl⟩,q⟩) hz
theorem nj {x:V} {us:List fQ} (r:jI [x] us):∃u,us=[u]/\jx x u:=by
 cases r with
 |cons r1 r2=>cases r2;exact⟨_,rfl,r1⟩
theorem yY {x y:V} {us:List fQ} (r:jI [x,y] us):∃u w',us=[u,w']/\jx x u/\jx y w':=by
 cases r with
 |cons r1 r2=>
  cases r2 with
  |cons r3 r4=>cases r4;exact⟨_,_,rfl,r1,r3⟩
theorem zW (hc:X.calm=true):m9 X (.builtin "max") (fun xs H Q=>∃i j,xs=[.int i,.int j]/\Q (.int (if j>i then j else i)) H):=by
 intro pz s σ H xs us Q I r h
 obtain⟨i,j,rfl,q⟩:=h
 obtain⟨u,w',rfl,⟨t,rfl⟩,⟨t',rfl⟩⟩:=yY r
 refine max_two_ints (I.ok.hd hc) fun h' tk k=>⟨_,H,I.kept k,?_,q⟩
 by_cases hj:j>i
 ·rw[ja hj,ja hj];exact⟨_,rfl⟩
 ·rw[iT hj,iT hj];exact⟨_,rfl⟩
theorem vj:m9 X (.type "int") (fun xs H Q=>(∃i,xs=[.int i]/\Q (.int i) H)\/∃k,xs=[.bl k]/\Q (.int (if k then 1 else 0)) H):=by
 intro pz s σ H xs us Q I r h
 rcases h with⟨i,rfl,q⟩|⟨k,rfl,q⟩
 ·obtain⟨u,rfl,t,rfl⟩:=nj r
  exact call_int_int ⟨.int i,H,I,⟨_,rfl⟩,q⟩
 ·obtain⟨u,rfl,r1⟩:=nj r
  cases r1
  exact call_int_bool ⟨.int (if k then 1 else 0),H,I.tok _,⟨_,rfl⟩,q⟩
def Ih (K:PySem.W.Frag) (x:V) (H:Hp) (n:Nat):Prop:=
 match x with
 | .str y=>y.length<=fY/\n=y.length
 | .byt y=>y.size<=fY/\n=y.size
 | .ref p=>(∃xs,SqL K H p xs/\n=xs.length)\/∃xs,SqT K H p xs/\n=xs.length
 |_=>False
theorem xJ:m9 X (.builtin "len") (fun xs H Q=>∃x n,xs=[x]/\Ih X.K x H n/\Q (.int n) H):=by
 intro pz s σ H xs us Q I r h
 obtain⟨x,n,rfl,e,q⟩:=h
 obtain⟨u,rfl,rx⟩:=nj r
 have hl:=tf
 have hs:fY=16777216:=fZ
 cases x with
 |str y=>
  obtain⟨t,rfl⟩:=rx
  obtain⟨hy,e'⟩:y.length<=fY/\n=y.length:=e
  subst e'
  exact len_str (by lia) ⟨.int _,H,I.tok _,⟨_,rfl⟩,q⟩
 |byt y=>
  obtain⟨t,rfl⟩:=rx
  obtain⟨hy,e'⟩:y.size<=fY/\n=y.size:=e
  subst e'
  exact PySem.W.len_bytes (by lia) ⟨.int _,H,I.tok _,⟨_,rfl⟩,q⟩
 |ref p=>
  cases rx
  have e':(∃xs,SqL X.K H p xs/\n=xs.length)\/∃xs,SqT X.K H p xs/\n=xs.length:=e
  rcases e' with⟨xs,hx,e'⟩|⟨xs,hx,e'⟩
  ·subst e'
   obtain⟨its,r',pl,hz⟩:=I.list hx
   have hlen:=r'.length
   exact Calls.call_len_list pl.isList (by simp only[aA];lia) ⟨.int xs.length,H,I.tok _,⟨_,by simp only[aA];rw[hlen]⟩,q⟩
  ·subst e'
   obtain⟨its,r',pl,hz⟩:=I.tuple hx
   have hlen:=r'.length
   exact len_tuple pl (by simp only[aA];lia) ⟨.int xs.length,H,I.tok _,⟨_,by simp only[aA];rw[hlen]⟩,q⟩
 |_=>exact(show False from e).elim
end
structure EA (h:Heap) (x dx C:fO) (mA:Str->Option fQ):Prop where
 obj:h.get? x=some (cZ C dx)
 ns:h.Ns1 dx mA
 ne:dx≠x
theorem zX {h:Heap} {dx:fO} {mA:Str->Option fQ} (n:h.Ns1 dx mA):∃od,h.get? dx=some od/\∀name,dh name od=some (mA name):=by
 obtain⟨o,es,ep,ho,hd,hk,_,hm⟩:=n
 refine⟨o,ho,fun name=>?_⟩
 have e:=hm name
 unfold nsFind findBy at e
 rw[<-Array.find?_toList]at e
 unfold dh
 rw[hd]
 dsimp only
 split
 ·rename_i y q
  rw[q]at e
  exact congrArg some e
 ·rename_i q
  rw[q]at e
  have a:es.toList.any (·.refKey)=false:=by
   rw[List.any_eq_false]
   intro y hy
   obtain⟨z,t,hkey⟩:=hk y (Array.mem_toList_iff.mp hy)
   simp[DictEntry.refKey,hkey]
  have a':¬es.toList.any (·.refKey)=true:=by rw[a];exact eP
  rw[iT a']
  exact congrArg some e
theorem EA.look {h:Heap} {x dx C:fO} {mA:Str->Option fQ} (I:EA h x dx C mA):∃od,PySem.W.InstAt h x (cZ C dx) C (some od)/\∀name,dh name od=some (mA name):=
 let⟨od,ho,hl⟩:=zX I.ns
 ⟨od,⟨I.obj,rfl,rfl,ho⟩,hl⟩
section
variable {prog:f9} {w:gm} {A:gf} {E:fQ->fR->Prop} {s:fR} {K:PySem.W.Frag} {x dx C f:fO} {mA:Str->Option fQ} {name:Str} {v:fQ}
theorem EB {expr:Bool} {Q:fQ->fR->Prop} (X:K.In s.heap) (I:EA s.heap x dx C mA) (hg:di K C name=true) (hh:dj K C=true)
  (ha:dq K (.ref C) name=some none) (hv:mA name=some v) (hv':PySem.W.handedIn v=true) (h:Q v {s with toks:=s.toks+ 1}):
  f6 (f7 prog w) A (getAttr (.ref x) name expr) Q E s:=by
 obtain⟨od,J,hl⟩:=I.look
 exact PySem.W.get_value X J (dr hg).1 (PySem.W.findObj_own hh ha rfl (by rw[hl,hv])) hv' h
theorem Cc {pl:Sem Bool} {Q:fQ×List fQ->fR->Prop} (X:K.In s.heap) (I:EA s.heap x dx C mA) (hg:di K C name=true)
  (hf:dq K (.ref C) name=some (some (.ref f))) (ht:dt K (.ref f)=true) (hv:mA name=none) (h:Q (.ref f,[.ref x]) s):
  f6 (f7 prog w) A (getMethod (.ref x) name pl) Q E s:=by
 obtain⟨od,J,hl⟩:=I.look
 exact PySem.W.method_fn X J (dr hg).1 (dr hg).2 hf (beq_iff_eq.mp ht) (by show(dh name od).map (·.isSome)=some false;rw[hl,hv];rfl) h
theorem EC {ns:List Str} {Q:Unit->fR->Prop} (X:K.In s.heap) (I:EA s.heap x dx C mA)
  (hs:dq K (.ref C) "__setattr__"=some (some (.builtin "object.__setattr__"))) (hp:dw K C=true) (ht:dA K C name=some none) (hh:dj K C=true)
  (hw:PySem.Within mA ns) (hsz:ns.length<=fY)
  (h:∀h',EA h' x dx C (fun y=>if y=name then some v else mA y)->Heap.SameBut dx s.heap h'->Q () {s with heap:=h',toks:=s.toks+ 2}):
  f6 (f7 prog w) A (setAttr (.ref x) name v) Q E s:=by
 obtain⟨od,J,hl⟩:=I.look
 refine PySem.W.set_plain X J hs (PySem.W.osa_open (s:={s with toks:=s.toks+ 1}) (r:=none) X J hp ht fun b=>?_)
 obtain⟨cd,hc,hd'⟩:=PySem.W.any_some hh
 have hx:s.heap.get? x=some ⟨.ref C,some dx,.plain,#[]⟩:=I.obj
 refine fV (fW (fV (fV (wpAny_loadPart hx (fV (PySem.W.Looks.here (s:={s with toks:=s.toks+ 1}) (PySem.W.looks_clsIn X hc) ?_))))))
 rw[hd']
 refine fW (a:=some dx) (fV (fW (fV ?_)))
 refine wpAny_nsSet1 (s:={s with toks:=s.toks+ 1}) I.ns fun h' hn2 hs2=>?_
 obtain⟨oD,esD,epD,hoD,hdD,hcD⟩:=hn2.count (PySem.Within.cons name v hw)
 refine fV (wpAny_lookBehind hoD (by rw[hdD];exact pastItsLine_dict (cy hcD (by rw[aB];lia))) ?_)
 exact fW (h _ ⟨(hs2.2 _ (Ne.symm I.ne)).trans I.obj,hn2,I.ne⟩ hs2)
theorem Cd {R:Result->fR->Prop} {vs:List fQ} {kw:List (Str×fQ)} (X:K.In s.heap) (hm:dB K C=true)
  (hi:dq K (.ref C) "__init__"=some (some (.ref f))) (hf:PySem.W.typeIn K (.ref f)=some (.type "function"))
  (h:codeAny (f7 prog w) (A.under (.builtin "type.__call__" ⟨.ref C::vs,kw⟩)) (.call (.ref f) ⟨.ref (s.heap.objs.size+ 1)::vs,kw⟩) (PySem.W.InitBack (s.heap.objs.size+ 1) R)
   {s with heap:=(s.heap.push dC).push (cZ C s.heap.objs.size)}):
  codeAny (f7 prog w) A (.call (.ref C) ⟨vs,kw⟩) R s:=by
 obtain⟨hh,g,d,t,os⟩:=s
 exact PySem.W.make_core (PySem.W.makes_of X hm) (PySem.W.looks_findIn X hi) (fun self=>PySem.W.bind_fn X self hf) (.inl rfl) h
end
def lZ (f:Str) (v:V):List (Str×V)->List (Str×V)
 |[]=>[(f,v)]
 |(g,x)::r=>if g=f then(g,v)::r else(g,x)::lZ f v r
theorem rf (f g:Str) (v:V):∀fs:List (Str×V),(lZ f v fs).lookup g=if g=f then some v else fs.lookup g
 |[]=>by
  show aC g [(f,v)]=_
  by_cases h:g=f
  ·have hb:(g==f)=true:=beq_iff_eq.mpr h
   simp only[aC,hb,ja h]
  ·have hb:(g==f)=false:=beq_eq_false_iff_ne.mpr h
   simp only[aC,hb,iT h]
 |(k,x)::r=>by
  have ih:=rf f g v r
  rw[show lZ f v ((k,x)::r)=(if k=f then(k,v)::r else(k,x)::lZ f v r)from rfl]
  by_cases hk:k=f
  ·rw[ja hk]
   by_cases h:g=k
   ·have hb:(g==k)=true:=beq_iff_eq.mpr h
    simp only[aC,hb,ja (h.trans hk)]
   ·have hb:(g==k)=false:=beq_eq_false_iff_ne.mpr h
    simp only[aC,hb,iT (fun e:g=f=>h (e.trans hk.symm))]
  ·rw[iT hk]
   by_cases h:g=k
   ·have hb:(g==k)=true:=beq_iff_eq.mpr h
    simp only[aC,hb,iT (fun e:g=f=>hk (h.symm.trans e))]
   ·have hb:(g==k)=false:=beq_eq_false_iff_ne.mpr h
    simp only[aC,hb]
    exact ih
theorem rg (f:Str) (v:V):∀fs:List (Str×V),f∈(lZ f v fs).map (·.1)/\∀g,g∈fs.map (·.1)->g∈(lZ f v fs).map (·.1)
 |[]=>⟨by simp[lZ],fun g h=>by simp at h⟩
 |(k,x)::r=>by
  obtain⟨i1,i2⟩:=rg f v r
  rw[show lZ f v ((k,x)::r)=(if k=f then(k,v)::r else(k,x)::lZ f v r)from rfl]
  by_cases hk:k=f
  ·rw[ja hk]
   subst hk
   exact⟨by simp,fun g h=>by simpa using h⟩
  ·rw[iT hk]
   refine⟨?_,fun g h=>?_⟩
   ·rw[aD]
    exact ai _ i1
   ·rw[aD]at h⊢
    rcases aj.mp h with e|e
    ·exact aj.mpr (.inl e)
    ·exact ai _ (i2 g e)
theorem oO (f:Str) (v:V):∀fs:List (Str×V),(lZ f v fs).length<=fs.length+ 1
 |[]=>by simp[lZ]
 |(k,x)::r=>by
  have ih:=oO f v r
  rw[show lZ f v ((k,x)::r)=(if k=f then(k,v)::r else(k,x)::lZ f v r)from rfl]
  by_cases hk:k=f
  ·rw[ja hk,aB,aB];lia
  ·rw[iT hk,aB,aB];lia
theorem ve.some_of {v:V} {o:Option fQ} (r:ve (some v) o):∃u,o=some u/\jx v u:=by
 cases o with
 |none=>exact(show False from r).elim
 |some u=>exact⟨u,rfl,r⟩
theorem ve.none_of {o:Option fQ} (r:ve none o):o=none:=by
 cases o with
 |none=>rfl
 |some u=>exact(show False from r).elim
theorem zY {v:V} {u:fQ} (r:jx v u):PySem.W.handedIn u=true:=by
 cases v with
 |non=>cases(show u=Value.none from r);rfl
 |bl b=>cases(show u=Value.bool b from r);rfl
 |int i=>obtain⟨t,e⟩:=(show ∃t,u=Value.int i t from r);cases e;rfl
 |str x=>obtain⟨t,e⟩:=(show ∃t,u=Value.str x t from r);cases e;rfl
 |byt b=>obtain⟨t,e⟩:=(show ∃t,u=Value.bytes b t from r);cases e;rfl
 |flt b=>obtain⟨t,e⟩:=(show ∃t,u=Value.float b t from r);cases e;rfl
 |ref a=>cases(show u=Value.ref a from r);rfl
 |ty n=>cases(show u=Value.type n from r);rfl
section
variable {P:f9} {w:gm} {H H':Hp} {h h':Heap} {a C dx:fO} {fs fs':List (Str×V)}
theorem rh (hok:HOk P w H h) (e:H a=some (.ins C dx fs)):∃mA,EA h a dx C mA/\(∀f,ve (fs.lookup f) (mA f))/\PySem.Within mA (fs.map (·.1))/\fs.length<=1000/\H dx=some (.own a):=by
 obtain⟨d,z,ne,ob,mA,n,r,q⟩:=(show jG P w H h a (.ins C dx fs)from hok a _ e)
 exact⟨mA,⟨ob,n,ne⟩,r,q,z,d⟩
end
structure Cls (K:PySem.W.Frag) (C:fO):Prop where
 pg:di K C Str.empty=true
 hd:dj K C=true
 po:dw K C=true
 sa:dq K (.ref C) "__setattr__"=some (some (.builtin "object.__setattr__"))
theorem Cls.get {K:PySem.W.Frag} {C:fO} (c:Cls K C) (f:Str):di K C f=true:=c.pg
def iU (K:PySem.W.Frag) (C:fO) (f:Str):Prop:=dq K (.ref C) f=some none
theorem iU.taker {K:PySem.W.Frag} {C:fO} {f:Str} (n:iU K C f):dA K C f=some none:=by
 unfold dA
 rw[show dq K (.ref C) f=some none from n]
 rfl
structure Con (K:PySem.W.Frag) (C:fO) (f:Str) (v:V) (u:fQ):Prop where
 at_:dq K (.ref C) f=some (some u)
 rel:jx v u
 get:dD K u "__get__"=some none
 cp:PySem.W.copiedNames.contains f=false
structure Ii (K:PySem.W.Frag) (C:fO) (m:Str) (f:fO):Prop where
 at_:dq K (.ref C) m=some (some (.ref f))
 fn:dt K (.ref f)=true
 kp:dE K (.ref f)=true
section
variable {X:Cx} {pz:List (fO×Obj)} {σ:St} {H:Hp} {s:fR} {a C dx:fO} {fs:List (Str×V)} {f:Str} {v:V} {A:gf} {E:fQ->fR->Prop}
theorem yZ {b:Bool} {Q:fQ->fR->Prop} (I:Inv X pz σ H s) (e:H a=some (.ins C dx fs)) (c:Cls X.K C) (n:iU X.K C f) (l:fs.lookup f=some v)
  (h:∀u s',Inv X pz σ H s'->jx v u->Q u s'):f6 (f7 X.prog X.w) A (getAttr (.ref a) f b) Q E s:=by
 obtain⟨mA,O,r,_,_,_⟩:=rh I.hok e
 obtain⟨u,hu,ru⟩:=ve.some_of (v:=v) (o:=mA f) (by rw[<-l];exact r f)
 exact EB I.kIn O (c.get f) c.hd n hu (zY ru) (h u _ (I.tok _) ru)
theorem y0 {m:Str} {g:fO} {pl:Sem Bool} {Q:fQ×List fQ->fR->Prop} (I:Inv X pz σ H s) (e:H a=some (.ins C dx fs)) (c:Cls X.K C) (k:Ii X.K C m g) (l:fs.lookup m=none)
  (h:Q (.ref g,[.ref a]) s):f6 (f7 X.prog X.w) A (getMethod (.ref a) m pl) Q E s:=by
 obtain⟨mA,O,r,_,_,_⟩:=rh I.hok e
 have hn:mA m=none:=ve.none_of (by rw[<-l];exact r m)
 exact Cc I.kIn O (c.get m) k.at_ k.fn hn h
theorem y4 {y:V} {u:fQ} {Q:Unit->fR->Prop} (I:Inv X pz σ H s) (e:H a=some (.ins C dx fs)) (c:Cls X.K C) (n:iU X.K C f) (hl:fs.length<1000) (ry:jx y u)
  (h:∀s',Inv X pz σ (upd H a (.ins C dx (lZ f y fs))) s'->Q () s'):f6 (f7 X.prog X.w) A (setAttr (.ref a) f u) Q E s:=by
 obtain⟨mA,O,r,wi,_,ho⟩:=rh I.hok e
 have hz:(fs.map (·.1)).length<=fY:=by rw[aE,fZ];lia
 refine EC I.kIn O c.sa c.po n.taker c.hd wi hz fun h' O' sb=>h _ ?_
 have hd:∃o,h'.get? dx=some o:=let⟨o,_,_,e',_⟩:=O'.ns;⟨o,e'⟩
 refine I.write (x:=a) (e:=dx) (by rw[e];exact True.intro) (.inr ho) (fun b q hb z=>(sb.2 b hb).trans z) hd ?_
 refine⟨by rw[hX O.ne];exact ho,?_,O.ne,O'.obj,_,O'.ns,fun g=>?_,fun g hg=>?_⟩
 ·have:=oO f y fs;lia
 ·show ve ((lZ f y fs).lookup g) (if g=f then some u else mA g)
  rw[rf]
  by_cases q:g=f
  ·rw[ja q,ja q];exact ry
  ·rw[iT q,iT q];exact r g
 ·by_cases q:g=f
  ·rw[q];exact(rg f y fs).1
  ·refine(rg f y fs).2 g (wi g fun z=>hg ?_)
   show(if g=f then some u else mA g)=none
   rw[iT q];exact z
theorem Inv.made (I:Inv X pz σ H s):Inv X pz σ (upd (upd H s.heap.objs.size (.own (s.heap.objs.size+ 1))) (s.heap.objs.size+ 1) (.ins C s.heap.objs.size []))
  {s with heap:=(s.heap.push dC).push (cZ C s.heap.objs.size)}:=by
 have e1:(s.heap.push dC).get? s.heap.objs.size=some dC:=fE s.heap rfl
 have e2:((s.heap.push dC).push (cZ C s.heap.objs.size)).get? (s.heap.objs.size+ 1)=some (cZ C s.heap.objs.size):=by
  have:=fE (s.heap.push dC) (o:=cZ C s.heap.objs.size) rfl
  rwa[fG]at this
 have e3:(s.heap.push dC).Ns s.heap.objs.size (fun _=>none):=⟨dC,#[],_,e1,rfl,(fun e he=>absurd he (by simp)),fun _=>rfl⟩
 have I1:=I.laid (a:=s.heap.objs.size) (o:= .own (s.heap.objs.size+ 1)) (h':=s.heap.push dC) (t':=s.toks) (fun b u q=>fF _ q) (cB _) ⟨_,e1⟩
 refine I1.laid (a:=s.heap.objs.size+ 1) (o:= .ins C s.heap.objs.size []) (t':=s.toks) (fun b u q=>fF _ q) (cD (fG _ _)) ?_
 have ne:s.heap.objs.size≠s.heap.objs.size+ 1:=cx (cE _)
 refine⟨by rw[hX ne,hG],cC _,ne,e2,fun _=>none,(Heap.Ns1.of_empty e3).at fun o q=>fF _ q,fun _=>True.intro,fun y hy=>absurd rfl hy⟩
theorem ED {prog:f9} {w:gm} {env:Env} {e:gS} {f:Str} {pos:Pos} {s:fR} {Q:fQ->fR->Prop} (hb:attributeBase e f env (eval e env)=eval e env)
  (h:f6 (f7 prog w) A (eval e env) (fun o s₁=>f6 (f7 prog w) A (getAttr o f true) Q E s₁) E s):f6 (f7 prog w) A (eval (.Attribute e f pos) env) Q E s:=
 Attribute_any_ h (by rw[arm_eval_Attribute,hb])
end
def tFld (K:PySem.W.Frag) (ta:TE) (f:Str):TE:=fun σ H Q=>ta σ H fun x H1=>∃a C dx fs v,x= .ref a/\H1 a=some (.ins C dx fs)/\Cls K C/\iU K C f/\fs.lookup f=some v/\Q v H1
def JB (K:PySem.W.Frag) (ta tv:TE) (f:Str):TS:=fun D σ H=>tv σ H fun y H1=>ta σ H1 fun x H2=>∃a C dx fs,x= .ref a/\H2 a=some (.ins C dx fs)/\Cls K C/\iU K C f/\fs.length<1000/\
 D.nx σ (upd H2 a (.ins C dx (lZ f y fs)))
section
variable {X:Cx} {o e value:gS} {f:Str} {pos pos' tpos:Pos} {ta tv:TE}
theorem jK (he:PE X e ta) (hb:attributeBase e f X.env (eval e X.env)=eval e X.env):PE X (.Attribute e f pos) (tFld X.K ta f):=by
 intro pz s σ H Q I h
 refine ED hb (thn (he pz s σ H _ I h) fun u s1 ⟨x,H1,I1,rx,a,C,dx,fs,v,ex,ea,c,n,l,q⟩=>?_)
 subst ex
 obtain rfl:u=Value.ref a:=rx
 exact yZ I1 ea c n l fun u' s2 I2 ru=>⟨v,H1,I2,ru,q⟩
theorem jy (ha:PE X o ta) (hv:PE X value tv) (hs:swapsWith value (some (.Attribute o f pos')) pos.line X.env=pure false):PS X (.Assign [.Attribute o f pos'] value pos) (JB X.K ta tv f):=by
 intro pz s σ H D I h
 refine plainObj_wpAny_Assign_Attribute (thn (hv pz s σ H _ I h) fun u s1 ⟨y,H1,I1,ry,q⟩=>thn (ha pz s1 σ H1 _ I1 q) fun ov s2 ⟨x,H2,I2,rx,a,C,dx,fs,ex,ea,c,n,l,q2⟩=>?_) hs
 subst ex
 obtain rfl:ov=Value.ref a:=rx
 exact y4 I2 ea c n l ry fun s3 I3=>⟨σ,_,I3,q2⟩
end
section
variable {X:Cx} {pz:List (fO×Obj)} {σ:St} {H:Hp} {s:fR} {A:gf} {E:fQ->fR->Prop} {Q:fQ->fR->Prop} {c:fQ} {b:Bool}
inductive wy (K:PySem.W.Frag) (H:Hp):V->fQ->Prop where
 |non:wy K H .non (.type "NoneType")
 |bl (x:Bool):wy K H (.bl x) (.type "bool")
 |int (i:Int):wy K H (.int i) (.type "int")
 |str (x:Str):wy K H (.str x) (.type "str")
 |flt (x:UInt64):wy K H (.flt x) (.type "float")
 |lst {a:fO} {xs:List V} (e:H a=some (.lst xs)):wy K H (.ref a) (.type "list")
 |frz {a:fO} {o:Obj} {xs:List V} (e:H a=some (.frz o (.lst xs))):wy K H (.ref a) (.type "list")
 |tup {a:fO} {xs:List V} (e:H a=some (.tup xs)):wy K H (.ref a) (.type "tuple")
 |dK {a:fO} {kvs:List (Key×V)} (e:H a=some (.dK kvs)):wy K H (.ref a) (.type "dict")
 |dT {a:fO} {kvs:List (List Key×V)} (e:H a=some (.dT kvs)):wy K H (.ref a) (.type "dict")
 |ins {a C dx:fO} {fs:List (Str×V)} (e:H a=some (.ins C dx fs)) (cl:Cls K C) (ha:dq K (.ref C) "__class__"=some (some (.builtin "object.__class__")))
   (hn:dD K (.builtin "object.__class__") "__get__"=some (some (.builtin "getset_descriptor.__get__"))) (htk:PySem.W.takesIn K (.builtin "object.__class__")=some true)
   (hm:PySem.W.mroIn K C (.type "object")=some true):wy K H (.ref a) (.ref C)
theorem zZ {x:V} {u t:fQ} (I:Inv X pz σ H s) (rx:jx x u) (ty:wy X.K H x t) (e:PySem.W.kitOne X.K t c=some b) (h:∀tk,Q (.bool b) {s with toks:=tk}):
  f6 (f7 X.prog X.w) A (call (.builtin "isinstance") [u,c]) Q E s:=by
 cases ty with
 |non=>cases(show u=Value.none from rx);exact dF dG I.kIn True.intro e (fun z=>nomatch z) h
 |bl y=>cases(show u=Value.bool y from rx);exact dF dH I.kIn True.intro e (fun z=>nomatch z) h
 |int i=>obtain⟨t,q⟩:=(show ∃t,u=Value.int i t from rx);cases q;exact dF PySem.W.kitx_int I.kIn True.intro e (fun z=>nomatch z) h
 |str y=>obtain⟨t,q⟩:=(show ∃t,u=Value.str y t from rx);cases q;exact dF PySem.W.kitx_str I.kIn True.intro e (fun z=>nomatch z) h
 |flt y=>obtain⟨t,q⟩:=(show ∃t,u=Value.float y t from rx);cases q;exact dF dI I.kIn True.intro e (fun z=>nomatch z) h
 |@lst a xs ea=>
  cases(show u=Value.ref a from rx)
  obtain⟨_,_,n,_,h1⟩:=(show jG X.prog X.w H s.heap a (.lst xs)from I.hok a _ ea)
  exact dF dJ I.kIn ⟨_,h1,rfl⟩ e (fun z=>nomatch z) h
 |@frz a ob xs ea=>
  cases(show u=Value.ref a from rx)
  obtain⟨_,_,_,n,_,h1⟩:=(show jG X.prog X.w H s.heap a (.frz ob (.lst xs))from I.hok a _ ea)
  exact dF dJ I.kIn ⟨_,h1,rfl⟩ e (fun z=>nomatch z) h
 |@tup a xs ea=>
  cases(show u=Value.ref a from rx)
  obtain⟨_,_,_,p⟩:=(show jG X.prog X.w H s.heap a (.tup xs)from I.hok a _ ea)
  obtain⟨o,h1,h2,_⟩:=p
  exact dF dM I.kIn ⟨o,h1,h2⟩ e (fun z=>nomatch z) h
 |@dK a kvs ea=>
  cases(show u=Value.ref a from rx)
  obtain⟨_,_,vs,_,p⟩:=(show jG X.prog X.w H s.heap a (.dK kvs)from I.hok a _ ea)
  obtain⟨o,es,ep,h1,h2,_⟩:=p
  exact dF dN I.kIn ⟨o,h1,h2.1⟩ e (fun z=>nomatch z) h
 |@dT a kvs ea=>
  cases(show u=Value.ref a from rx)
  obtain⟨_,_,xs,_,o,es,ep,h1,h2,_⟩:=(show jG X.prog X.w H s.heap a (.dT kvs)from I.hok a _ ea)
  exact dF dN I.kIn ⟨o,h1,h2.1⟩ e (fun z=>nomatch z) h
 |@ins a C dx fs ea cl ha hn htk hm=>
  cases(show u=Value.ref a from rx)
  obtain⟨mA,O,_⟩:=rh I.hok ea
  obtain⟨od,J,_⟩:=O.look
  exact dF (PySem.W.kitx_own (cl.get _) cl.hd ha hn htk hm) I.kIn J e (fun z=>nomatch z) h
end
structure ou (k:Nat) (A:gf):Prop where
 hd:A.handled=none
 dp:A.depth+ 3*k+ 5<recursionLimit
 un:A.units+ 16*k+ 200<gP
theorem ou.mono {j k:Nat} {A:gf} (r:ou k A) (h:j<=k):ou j A:=⟨r.hd,by have:=r.dp;lia,by have:=r.un;lia⟩
theorem ou.m {j k:Nat} {A:gf} (r:ou k A) (h:autoParam (j<=k) L2.Internal.auD._auto_1):ou j A:=r.mono h
theorem ou.deeper {k:Nat} {A:gf} (r:ou (k+ 1) A) (env:Env):ou k (A.deeper env):=
 ⟨r.hd,by have:=r.dp;show A.depth+ 1+ 3*k+ 5<_;lia,by have:=r.un;show A.units+ 3+ 16*k+ 200<_;lia⟩
theorem y6 {A:gf} {C:fO} {us:List fQ} {kw:List (Str×fQ)}:(A.under (.builtin "type.__call__" ⟨.ref C::us,kw⟩)).depth=A.depth+ 1:=by
 first|rfl|simp[Around.under,Code.weight,Code.isCreation,Code.isGuard,Code.isCaller,Code.frames,Code.isFrame,guardIds]
theorem y8 {A:gf} {C:fO} {us:List fQ} {kw:List (Str×fQ)}:(A.under (.builtin "type.__call__" ⟨.ref C::us,kw⟩)).units=A.units+ 1:=by
 first|rfl|simp[Around.under,Code.cUnits,Code.frames,Code.isFrame]
theorem ou.make {k:Nat} {A:gf} (r:ou (k+ 1) A) (C:fO) (us:List fQ) (kw:List (Str×fQ)):ou k (A.under (.builtin "type.__call__" ⟨.ref C::us,kw⟩)):=
 ⟨r.hd,by have:=r.dp;rw[y6];lia,by have:=r.un;rw[y8];lia⟩
theorem ou.depth {k:Nat} {A:gf} (r:ou k A):A.depth<recursionLimit:=by have:=r.dp;lia
theorem ou.units {k:Nat} {A:gf} (r:ou k A):A.units+ 64<gP:=by have:=r.un;lia
def DH:TA:=fun _ H Q=>Q [] H
def wA (ta:TE) (tr:TA):TA:=fun σ H Q=>ta σ H fun x H1=>tr σ H1 fun xs H2=>Q (x::xs) H2
section
variable {X:Cx} {e:gS} {es:List gS} {te:TE} {t:TA} {pos:Pos}
theorem hI:PA X [] DH:=fun _ _ _ _ H Q I h=>Calls.spliced_nil ⟨[],H,I,.nil,h⟩
theorem gY (ha:PE X e te) (hr:PA X es t) (hs:autoParam (gn (e::es) X.env=(false,eval e X.env)::gn es X.env) L2.Internal.auR._auto_1):PA X (e::es) (wA te t):=by
 intro pos pz s σ H Q I h
 rw[hs]
 show f6 _ _ (spliced ((false,eval e X.env)::gN pos (gn es X.env))) _ _ s
 refine Calls.spliced_cons (thn (ha pz s σ H _ I h) fun u s1 ⟨x,H1,I1,r1,q1⟩=>?_)
 exact thn (hr pos pz s1 σ H1 _ I1 q1) fun us s2 ⟨xs,H2,I2,r2,q2⟩=>⟨x::xs,H2,I2,.cons r1 r2,q2⟩
def HQ (t:TA):TE:=fun σ H Q=>t σ H fun xs H1=>xs.length<=fY/\∀p,H1 p=none->Q (.ref p) (upd H1 p (.tup xs))
def Ij (t:TA):TE:=fun σ H Q=>t σ H fun xs H1=>xs.length<=fY/\∀p,H1 p=none->Q (.ref p) (upd H1 p (.lst xs))
theorem iF {x1} (h:PA X es t):PE X (.Tuple es x1 pos) (HQ t):=by
 intro pz s σ H Q I hq
 refine wpAny_Tuple_spliced (thn (h pos pz s σ H _ I hq) fun us s1 ⟨xs,H1,I1,r,z,q⟩=>⟨by rw[<-r.length];exact z,?_⟩)
 have hf:H1 s1.heap.objs.size=none:=I1.hok.fresh (cB _)
 refine⟨.ref s1.heap.objs.size,upd H1 s1.heap.objs.size (.tup xs),I1.laid (t':=s1.toks) (fun b u e=>fF _ e) (cB _) ?_,rfl,q _ hf⟩
 exact⟨z,us,r,⟨_,fE _ rfl,rfl,_,rfl,rfl⟩⟩
theorem iZ (h:PA X es t):PE X (.List es pos) (Ij t):=by
 intro pz s σ H Q I hq
 refine wpAny_List_spliced (thn (h pos pz s σ H _ I hq) fun us s1 ⟨xs,H1,I1,r,z,q⟩=>⟨by rw[<-r.length];exact z,?_⟩)
 have hf:H1 s1.heap.objs.size=none:=I1.hok.fresh (cB _)
 refine⟨.ref s1.heap.objs.size,upd H1 s1.heap.objs.size (.lst xs),I1.laid (t':=s1.toks) (fun b u e=>fF _ e) (cB _) ?_,rfl,q _ hf⟩
 exact⟨z,us,0,r,fE _ rfl⟩
end
abbrev Sp:=List V->Hp->VK->XK->Prop
abbrev CXT:=List Env->Hp->fR->XK->fQ->fR->Prop
structure EE (P:f9) (w:gm) (K:PySem.W.Frag) (mg:Str->Option fQ) (base:Heap) (A:gf) (outer:List Env) (s:fR) (H:Hp):Prop where
 frames:A.frames=some outer
 mod:Mod K mg base
 bs:∀b o,base.get? b=some o->s.heap.get? b=some o/\H b=none
 bsz:base.objs.size<=s.heap.objs.size
 funs:s.heap.FunFrames base outer
 frf:∀b∈frs outer,H b=none
 hok:HOk P w H s.heap
 bare:AllBare s.gens
def CE (outer:List Env) (P:f9) (w:gm) (H:Hp) (s:fR) (Q:VK) (u:fQ) (s':fR):Prop:=
 ∃v H',s'.os=s.os/\AllBare s'.gens/\Un (frs outer) [] H H' s.heap s'.heap/\HOk P w H' s'.heap/\jx v u/\Q v H'
def CR (CX:CXT) (outer:List Env) (P:f9) (w:gm) (H:Hp) (s:fR) (Q:VK) (E:XK) (r:Result) (s':fR):Prop:=
 match r with
 | .ok (.ret u)=>CE outer P w H s Q u s'
 | .ok _=>False
 | .error e=>CX outer H s E e s'
structure vf (P:f9) (w:gm) (K:PySem.W.Frag) (mg:Str->Option fQ) (base:Heap) (CX:CXT) (k:Nat) (f:fO) (fd:gu) (ps:List Str) (sp:Sp):Prop where
 len:∀vs H Q E,sp vs H Q E->vs.length=ps.length
 run:∀(A:gf) (outer:List Env) (s:fR) (H:Hp) (args:Args) (us:List fQ) (vs:List V) (Q:VK) (E:XK),ou k A->EE P w K mg base A outer s H->BindsTo s fd args (ps.zip us)->jI vs us->sp vs H Q E->
  codeAny (f7 P w) A (.call (.ref f) args) (CR CX outer P w H s Q E) s
theorem EE.make {P:f9} {w:gm} {K:PySem.W.Frag} {mg:Str->Option fQ} {base:Heap} {A:gf} {outer:List Env} {s:fR} {H:Hp} (e:EE P w K mg base A outer s H) (C:fO) (us:List fQ) (kw:List (Str×fQ)):
  EE P w K mg base (A.under (.builtin "type.__call__" ⟨.ref C::us,kw⟩)) outer s H:=⟨by first|exact e.frames|(simpa[Around.under,Code.envs,Code.isFrame,pushEnvs]using e.frames),e.mod,e.bs,e.bsz,e.funs,e.frf,e.hok,e.bare⟩
section
variable {X:Cx} {pz:List (fO×Obj)} {σ:St} {H:Hp} {s s':fR}
theorem Inv.env0 (I:Inv X pz σ H s):EE X.prog X.w X.K X.mg X.base X.A X.stack s H:=
 ⟨I.ok.frames,I.ok.mod,I.bs,cy I.ok.bsz I.sz,I.stack,I.stkFree,I.hok,I.bare⟩
theorem Inv.after {Q:VK} {u:fQ} (I:Inv X pz σ H s) (h:CE X.stack X.prog X.w H s Q u s'):EP X pz σ Q u s':=by
 obtain⟨v,H',os,bare,un,hok,r,q⟩:=h
 obtain⟨hh,g,d,t,os'⟩:=s'
 obtain rfl:os'=s.os:=os
 exact⟨v,H',I.call (h':=hh) (g':=g) (d':=d) (t':=t) (ch:=[]) un hok bare (fun b z=>absurd z (by simp)),r,q⟩
end
def Ce (sp:Sp) (dvs:List V) (E:XK) (t:TA):TE:=fun σ H Q=>t σ H fun vs H1=>sp (vs++dvs) H1 Q E
def Gx (C:fO) (m:Str) (sp:Sp) (dvs:List V) (E:XK) (ta:TE) (t:TA):TE:=fun σ H Q=>ta σ H fun x H1=>∃a dx fs,x= .ref a/\H1 a=some (.ins C dx fs)/\fs.lookup m=none/\
 t σ H1 fun vs H2=>sp (x::(vs++dvs)) H2 Q E
def Gy (C:fO) (sp:Sp) (dvs:List V) (E:XK) (t:TA):TE:=fun σ H Q=>t σ H fun vs H1=>∀x dx,H1 x=none->H1 dx=none->dx≠x->
 sp (.ref x::(vs++dvs)) (upd (upd H1 dx (.own x)) x (.ins C dx [])) (fun v H2=>v= .non/\Q (.ref x) H2) E
def qK (K:PySem.W.Frag) (fd:gu) (ps:List Str) (ds:List fQ):Prop:=
 ∀(s:fR) (us:List fQ),K.In s.heap->(us++ds).length=ps.length->BindsTo s fd ⟨us,[]⟩ (ps.zip (us++ds))
theorem qK.all {K:PySem.W.Frag} {fd:gu} {ps:List Str} (h:∀us:List fQ,us.length=ps.length->bindArgs fd ⟨us,[]⟩=pure (ps.zip us)):qK K fd ps []:=fun s us _ hl=>by
 rw[aF]at hl⊢
 exact .of_eq (h us hl)
def qC (CX:CXT) (X:Cx) (E:XK):Prop:=∀(pz:List (fO×Obj)) (σ:St) (H:Hp) (s:fR) (e:fQ) (s':fR),Inv X pz σ H s->CX X.stack H s E e s'->X.xe e s'
section
variable {X:Cx} {CX:CXT} {k:Nat} {f C:fO} {fd:gu} {ps:List Str} {sp:Sp} {dvs:List V} {ds:List fQ} {E:XK} {x m:Str} {p pos apos:Pos} {e o:gS} {es:List gS} {ta:TE} {t:TA}
theorem z9 {pz:List (fO×Obj)} {σ:St} {H:Hp} {s:fR} {Q:VK} {us:List fQ} {vs:List V} (F:vf X.prog X.w X.K X.mg X.base CX k f fd ps sp) (hr:ou k X.A) (hb:qK X.K fd ps ds) (hd:jI dvs ds) (hx:qC CX X E)
  (I:Inv X pz σ H s) (r:jI vs us) (h:sp (vs++dvs) H Q E):f6 (f7 X.prog X.w) X.A (call (.ref f) us) (EP X pz σ Q) X.xe s:=by
 have r2:jI (vs++dvs) (us++ds):=r.append hd
 have hl:(us++ds).length=ps.length:=by rw[<-r2.length];exact F.len _ _ _ _ h
 refine wpAny_call (codeAny_mono (F.run X.A X.stack s H ⟨us,[]⟩ (us++ds) (vs++dvs) Q E hr I.env0 (hb s us I.kIn hl) r2 h) fun r s' hq=>?_)
 cases r with
 |error e=>exact hx pz σ H s e s' I hq
 |ok fl=>
  cases fl with
  |ret u=>exact I.after hq
  |next=>exact False.elim hq
  |brk=>exact False.elim hq
  |cont=>exact False.elim hq
theorem EF (F:vf X.prog X.w X.K X.mg X.base CX k f fd ps sp) (hr:ou k X.A) (hg:Gl X x) (hm:X.mg x=some (.ref f)) (hk:dE X.K (.ref f)=true) (hb:qK X.K fd ps ds) (hd:jI dvs ds) (hx:qC CX X E)
  (ha:PA X (e::es) t) (hdb:autoParam ((x==("__debug__":Str))=false) L2.Internal.auD._auto_1) (he:autoParam (gn (e::es) X.env=(false,eval e X.env)::gn es X.env) L2.Internal.auR._auto_1) (hpl:autoParam ((gN pos (gn es X.env)).any (·.1)=false) L2.Internal.auR._auto_1):
  PE X (.Call (.Name x p) (e::es) [] pos) (Ce sp dvs E t):=by
 intro pz s σ H Q I h
 refine gL (tV I hg hm ?_ hdb)
 refine dO (h₀:=X.base) I.ok.mod.kin hk (thn (ha pos pz s σ H _ I h) fun us s1 ⟨vs,H1,I1,r,q⟩=>⟨I1.kIn,?_⟩) he hpl
 exact z9 F hr hb hd hx I1 r q
theorem i7 {pl:Sem Bool} (he:PE X o ta) (c:Cls X.K C) (hm:Ii X.K C m f) (F:vf X.prog X.w X.K X.mg X.base CX k f fd ps sp) (hr:ou k X.A) (hb:qK X.K fd ps ds) (hd:jI dvs ds) (hx:qC CX X E) (ha:PA X (e::es) t)
  (hst:autoParam (gn (e::es) X.env=(false,eval e X.env)::gn es X.env) L2.Internal.auR._auto_1) (hpl:autoParam ((gN pos (gn es X.env)).any (·.1)=false) L2.Internal.auR._auto_1)
  (ht:eval (.Call (.Attribute o m apos) (e::es) [] pos) X.env=(do
   let ov<-eval o X.env
   standAt apos.atName
   let(f,first)<-holding [ov] (getMethod ov m pl)
   callWith pos f first (gN pos (gn (e::es) X.env)) (backToKw pos (keywordEach [] X.env))):=by rfl):
  PE X (.Call (.Attribute o m apos) (e::es) [] pos) (Gx C m sp dvs E ta t):=by
 intro pz s σ H Q I h
 refine dP (pl:=pl) (thn (he pz s σ H _ I h) fun u s1 ⟨x,H1,I1,rx,a,dx,fs,ex,ea,l,q⟩=>?_) ht
 subst ex
 obtain rfl:u=Value.ref a:=rx
 refine y0 I1 ea c hm l ?_
 refine dO (first:=[.ref a]) (h₀:=X.base) I.ok.mod.kin hm.kp (thn (ha pos pz s1 σ H1 _ I1 q) fun us s2 ⟨vs,H2,I2,r,q2⟩=>⟨I2.kIn,?_⟩) hst hpl
 exact z9 (us:= .ref a::us) (vs:= .ref a::vs) F hr hb hd hx I2 (.cons rfl r) q2
structure Mk (K:PySem.W.Frag) (C f:fO):Prop where
 makes:dB K C=true
 init:dq K (.ref C) "__init__"=some (some (.ref f))
 fn:dt K (.ref f)=true
 kp:dE K (.ref C)=true
theorem xK {pz:List (fO×Obj)} {σ:St} {H:Hp} {s:fR} {Q:VK} {us:List fQ} {vs:List V} (M:Mk X.K C f) (F:vf X.prog X.w X.K X.mg X.base CX k f fd ps sp) (hr:ou (k+ 1) X.A) (hb:qK X.K fd ps ds) (hd:jI dvs ds)
  (hx:qC CX X E) (I:Inv X pz σ H s) (r:jI vs us)
  (h:∀x dx,H x=none->H dx=none->dx≠x->sp (.ref x::(vs++dvs)) (upd (upd H dx (.own x)) x (.ins C dx [])) (fun v H2=>v= .non/\Q (.ref x) H2) E):
  f6 (f7 X.prog X.w) X.A (call (.ref C) us) (EP X pz σ Q) X.xe s:=by
 have hq:=h (s.heap.objs.size+ 1) s.heap.objs.size (I.hok.fresh (cF _)) (I.hok.fresh (cB _)) (cx (cE _))
 have I2:=Inv.made (C:=C) I
 have r2:jI (V.ref (s.heap.objs.size+ 1)::(vs++dvs)) (Value.ref (s.heap.objs.size+ 1)::(us++ds)):= .cons rfl (r.append hd)
 have hl:(Value.ref (s.heap.objs.size+ 1)::us++ds).length=ps.length:=by
  have e:=r2.length
  rw[F.len _ _ _ _ hq]at e
  exact e.symm
 refine wpAny_call (Cd (f:=f) I.kIn M.makes M.init (beq_iff_eq.mp M.fn) (codeAny_mono (F.run _ X.stack _ _ ⟨Value.ref (s.heap.objs.size+ 1)::us,[]⟩ (Value.ref (s.heap.objs.size+ 1)::(us++ds)) _ _ E (hr.make C us [])
  (I2.env0.make C us []) (hb _ (Value.ref (s.heap.objs.size+ 1)::us) I2.kIn hl) r2 hq) fun r s' hq'=>?_))
 cases r with
 |error e=>exact hx pz σ _ _ e s' I2 hq'
 |ok fl=>
  cases fl with
  |ret u=>
   obtain⟨v,H',I3,rv,ev,q3⟩:=I2.after hq'
   subst ev
   exact⟨rv,⟨V.ref (s.heap.objs.size+ 1),H',I3,rfl,q3⟩⟩
  |next=>exact False.elim hq'
  |brk=>exact False.elim hq'
  |cont=>exact False.elim hq'
theorem ku (M:Mk X.K C f) (F:vf X.prog X.w X.K X.mg X.base CX k f fd ps sp) (hr:ou (k+ 1) X.A) (hg:Gl X x) (hm:X.mg x=some (.ref C)) (hb:qK X.K fd ps ds) (hd:jI dvs ds) (hx:qC CX X E)
  (ha:PA X (e::es) t) (hdb:autoParam ((x==("__debug__":Str))=false) L2.Internal.auD._auto_1) (he:autoParam (gn (e::es) X.env=(false,eval e X.env)::gn es X.env) L2.Internal.auR._auto_1) (hpl:autoParam ((gN pos (gn es X.env)).any (·.1)=false) L2.Internal.auR._auto_1):
  PE X (.Call (.Name x p) (e::es) [] pos) (Gy C sp dvs E t):=by
 intro pz s σ H Q I h
 refine gL (tV I hg hm ?_ hdb)
 refine dO (h₀:=X.base) I.ok.mod.kin M.kp (thn (ha pos pz s σ H _ I h) fun us s1 ⟨vs,H1,I1,r,q⟩=>⟨I1.kIn,?_⟩) he hpl
 exact xK M F hr hb hd hx I1 r q
theorem Cf (M:Mk X.K C f) (F:vf X.prog X.w X.K X.mg X.base CX k f fd ps sp) (hr:ou (k+ 1) X.A) (hg:Gl X x) (hm:X.mg x=some (.ref C)) (hb:qK X.K fd ps ds) (hd:jI dvs ds) (hx:qC CX X E)
  (hdb:autoParam ((x==("__debug__":Str))=false) L2.Internal.auD._auto_1):PE X (.Call (.Name x p) [] [] pos) (Gy C sp dvs E DH):=by
 intro pz s σ H Q I h
 refine gL (tV I hg hm ?_ hdb)
 exact PySem.W.callWith_K0 I.kIn M.kp (xK (us:=[]) M F hr hb hd hx I .nil h)
end
section
variable {X:Cx} {CX:CXT} {k:Nat} {f C:fO} {fd:gu} {ps ks:List Str} {sp:Sp} {E:XK} {x m:Str} {p pos apos kpos:Pos} {e o:gS} {es:List gS} {kws:List Keyword} {te ta:TE} {t tk:TA} {nm:Option Str}
structure JC (K:PySem.W.Frag) (fd:gu) (ps ks:List Str) (g:List fQ->List fQ->List fQ) (gV:List V->List V->List V):Prop where
 to:∀(s:fR) (us ws:List fQ),K.In s.heap->(g us ws).length=ps.length->BindsTo s fd ⟨us,ks.zip ws⟩ (ps.zip (g us ws))
 rel:∀{vs:List V} {us:List fQ} {zs:List V} {ws:List fQ},jI vs us->jI zs ws->jI (gV vs zs) (g us ws)
variable {g:List fQ->List fQ->List fQ} {gV:List V->List V->List V}
end
structure iL (N P:List Str) (sc:gQ):Prop where
 kind:sc.kind= .function
 co:sc.isCoroutine=false
 gen:sc.isGenerator=false
 nd:N.Nodup
 pre:N.take P.length=P
 par:∀x∈P,sc.names.lookup x=some .local\/sc.names.lookup x=some .cell
 nofree:∀y∈sc.names,y.2≠ .free
theorem vk {kindOf:Str->Option NameKind} {x:Str}:∀{binds:List (Str×fQ)} {m:Str->Option fQ},(∀v,(x,v)∉binds)->bindL kindOf binds m x=m x
 |[],_,_=>rfl
 |(n,v)::r,m,h=>by
  unfold bindL
  rw[vk fun w hw=>h w (ai _ hw)]
  split
  ·have:x≠n:=by rintro rfl;exact h v ah
   simp[this]
  ·rfl
theorem vm {kindOf:Str->Option NameKind} {x:Str}:∀{binds:List (Str×fQ)} {m:Str->Option fQ},(∀v,(x,v)∉binds)->bindC kindOf binds m x=m x
 |[],_,_=>rfl
 |(n,v)::r,m,h=>by
  unfold bindC
  rw[vm fun w hw=>h w (ai _ hw)]
  split
  ·rfl
  ·have:x≠n:=by rintro rfl;exact h v ah
   simp[this]
theorem vn {kindOf:Str->Option NameKind} {x:Str} {v:fQ}:∀{P:List Str} {vs:List fQ} {i:Nat} {m:Str->Option fQ},P.Nodup->P[i]?=some x->vs[i]?=some v->kindOf x=some .local->
  bindL kindOf (P.zip vs) m x=some v
 |[],_,_,_,_,h,_,_=>by simp at h
 |_::_,[],_,_,_,_,h,_=>by simp at h
 |p::P,w::vs,0,m,nd,h1,h2,hk=>by
  simp at h1 h2;subst h1;subst h2
  show bindL kindOf ((p,w)::P.zip vs) m p=_
  unfold bindL
  rw[vk fun v hv=>(aG.mp nd).1 (aH hv).1,ja hk]
  simp
 |p::P,w::vs,i+ 1,m,nd,h1,h2,hk=>by
  show bindL kindOf ((p,w)::P.zip vs) m x=_
  unfold bindL
  exact vn (i:=i) (aG.mp nd).2 (by simpa using h1) (by simpa using h2) hk
theorem vo {kindOf:Str->Option NameKind} {x:Str} {v:fQ}:∀{P:List Str} {vs:List fQ} {i:Nat} {m:Str->Option fQ},P.Nodup->P[i]?=some x->vs[i]?=some v->kindOf x≠some .local->
  bindC kindOf (P.zip vs) m x=some v
 |[],_,_,_,_,h,_,_=>by simp at h
 |_::_,[],_,_,_,_,h,_=>by simp at h
 |p::P,w::vs,0,m,nd,h1,h2,hk=>by
  simp at h1 h2;subst h1;subst h2
  show bindC kindOf ((p,w)::P.zip vs) m p=_
  unfold bindC
  rw[vm fun v hv=>(aG.mp nd).1 (aH hv).1,iT hk]
  simp
 |p::P,w::vs,i+ 1,m,nd,h1,h2,hk=>by
  show bindC kindOf ((p,w)::P.zip vs) m x=_
  unfold bindC
  exact vo (i:=i) (aG.mp nd).2 (by simpa using h1) (by simpa using h2) hk
def tY (N:List Str) (vs:List V):St:=vs.map some++aI (N.length-vs.length) none
def EG (CX:CXT) (P:f9) (w:gm) (K:PySem.W.Frag) (mg:Str->Option fQ) (base:Heap) (N:List Str) (qual:Str) (scope:gQ) (f:fO) (cd:fQ) (A:gf) (outer:List Env) (s:fR) (H:Hp) (E:XK):Cx where
 prog:=P
 w:=w
 K:=K
 mg:=mg
 base:=base
 A:=A.deeper (envOfC qual scope s.heap.objs.size f cd)
 N:=N
 s₀:=s
 H₀:=H
 env:=envOfC qual scope s.heap.objs.size f cd
 outer:=outer
 stack:=envOfC qual scope s.heap.objs.size f cd::outer
 ex:=[]
 calm:=true
 fn:=fun _=>true
 pn:=[]
 xe:=fun e s'=>f6 (f7 P w) (A.deeper (envOfC qual scope s.heap.objs.size f cd)) (leaving (envOfC qual scope s.heap.objs.size f cd) e) (fun _ s''=>CX outer H s E e s'') (fun e' s''=>CX outer H s E e' s'') s'
theorem xM {sc:gQ} {n:Nat} {x:Str} (h:sc.names.lookup x=some .cell):∃c,(cellsFrom n sc.names []).lookup x=some c:=by
 have q:=dQ sc.names n [] (.inl h)
 exact cU.mp q
theorem Aa {CX:CXT} {P:f9} {w:gm} {K:PySem.W.Frag} {mg:Str->Option fQ} {base:Heap} {N ps:List Str} {qual:Str} {scope:gQ} {f:fO} {cd:fQ} {A:gf} {outer:List Env} {s s1:fR} {H:Hp} {E:XK} {us:List fQ} {vs:List V}
  (S:iL N ps scope) (hd:A.handled=none) (e0:EE P w K mg base A outer s H) (hl:vs.length=ps.length) (r:jI vs us)
  (x:InCallC s s.heap.objs.size (bindL (envOfC qual scope s.heap.objs.size f cd).kindOf (ps.zip us) fun _=>none) (cellsFrom (s.heap.objs.size+ 1) scope.names []) (bindC (envOfC qual scope s.heap.objs.size f cd).kindOf (ps.zip us) fun _=>none) s1):
  Inv (EG CX P w K mg base N qual scope f cd A outer s H E) [] (tY N vs) H s1:=by
 have hpl:ps.length<=N.length:=by have:=congrArg aJ S.pre;rw[aK]at this;lia
 obtain⟨h1,tk,rfl,hk⟩:=x.done
 have noA:∀b:fO,b∉(EG CX P w K mg base N qual scope f cd A outer s H E).ex:=fun b z=>absurd (show b∈([]:List fO)from z) (by simp)
 refine⟨⟨e0.mod,S.kind,rfl,rfl,cB _,fun y z c h1 h2=>?_,fun y hy=>?_,fun y c _ h=>?_,fun _=>hd,Around.frames_deeper e0.frames,.inr ⟨rfl,rfl⟩,fun b z=>absurd z (noA b),e0.bs,e0.bsz,fun b _ _=>noA b,fun b z=>absurd z (noA b),e0.funs,e0.frf⟩,
  rfl,e0.bare,Un.kept hk,⟨_,x.toInCall.ns,fun i y v h1 h2 h3=>?_⟩,fun y c h=>⟨_,x.cell y c h⟩,e0.hok.fresh (cB _),fun y c h=>?_,fun p hp=>absurd (show p∈([]:List (fO×Obj))from hp) (by simp),e0.hok.kept hk,?_⟩
 ·exact name_of_addr x.apart (PySem.mem_of_lookup h1) (PySem.mem_of_lookup h2)
 ·have hy:scope.names.lookup y=some .cell\/scope.names.lookup y=some .free:=hy
  rcases hy with hy|hy
  ·exact xM hy
  ·exact absurd rfl (S.nofree _ (PySem.mem_of_lookup hy))
 ·exact cz (x.above y c (PySem.mem_of_lookup h))
 ·have hi:i<vs.length:=by
   unfold tY at h2
   by_cases hi:i<vs.length
   ·exact hi
   ·rw[aM (by simpa using hi)]at h2
    rw[List.getElem?_replicate]at h2
    split at h2<;>cases h2
  have ha:vs[i]?=some v:=by
   unfold tY at h2
   rw[aN (by simpa using hi),aO]at h2
   cases e:vs[i]? with
   |none=>rw[e]at h2;cases h2
   |some a=>rw[e]at h2;cases h2;rfl
  obtain⟨u,hu,rv⟩:=r.get ha
  have hp:ps[i]?=some y:=by
   rw[<-S.pre,List.getElem?_take_of_lt (by lia)];exact h1
  have ndP:ps.Nodup:=by rw[<-S.pre];exact S.nd.sublist (List.take_sublist _ _)
  refine⟨u,rv,?_⟩
  rcases S.par y (aP hp)with k|k
  ·exact .inl ⟨k,vn ndP hp hu k⟩
  ·obtain⟨c,e⟩:=xM (n:=s.heap.objs.size+ 1) k
   refine .inr ⟨.inl k,c,e,?_⟩
   have q:=x.cell y c e
   rw[vo ndP hp hu (by show scope.names.lookup y≠_;rw[k];decide)]at q
   exact q
 ·exact e0.hok.fresh (cz (x.above y c (PySem.mem_of_lookup h)))
 ·unfold tY
  show _=N.length
  rw[aQ,aE,aR]
  lia
theorem Ik {CX:CXT} {P:f9} {w:gm} {K:PySem.W.Frag} {mg:Str->Option fQ} {base:Heap} {k:Nat} {f:fO} {name qual:Str} {params:Arguments} {body:List gR} {scope:gQ} {dV kV doc pm cdv ct oc:fQ} {an od:Option fO}
  {osl:Array (Option fQ)} {N ps:List Str} {sp:Sp} (lk:K.lookup f=some ⟨oc,od,.func (dR name qual params body scope dV kV doc pm an cdv ct),osl⟩) (hcd:dS K cdv qual=true) (S:iL N ps scope)
  (len:∀vs H Q E,sp vs H Q E->vs.length=ps.length)
  (hbody:∀(A:gf) (outer:List Env) (s:fR) (H:Hp) (vs:List V) (Q:VK) (E:XK),ou k (A.deeper (envOfC qual scope s.heap.objs.size f cdv))->sp vs H Q E->
   ∃t,PSs (EG CX P w K mg base N qual scope f cdv A outer s H E) body t/\t {nx:=fun _ H'=>Q .non H',rt:=Q} (tY N vs) H):
  vf P w K mg base CX (k+ 1) f (dR name qual params body scope dV kV doc pm an cdv ct) ps sp:=by
 refine⟨len,fun A outer s H args us vs Q E hr e0 hb r hsp=>?_⟩
 have hl:=len _ _ _ _ hsp
 have KX:K.In s.heap:=e0.mod.kin.keeps fun b o e=>(e0.bs b o e).1
 have lim:s.heap.NoLimit:=e0.mod.nolimit.keeps fun b o e=>(e0.bs b o e).1
 have hkind:∀y∈ps.zip us,scope.names.lookup y.1=some .local\/(scope.names.lookup y.1=some .cell/\((cellsFrom (s.heap.objs.size+ 1) scope.names []).lookup y.1).isSome=true):=fun⟨n,v⟩ hy=>by
  rcases S.par n (aH hy).1 with q|q
  ·exact .inl q
  ·exact .inr ⟨q,dQ _ _ _ (.inl q)⟩
 refine codeAny_call_function hr.depth (KX _ _ lk) rfl S.co S.gen rfl (PySem.W.codeRec_of KX hcd) (hb _ _ _ _ ?_)
 refine wpAny_newFunctionEnv_cells S.kind hkind fun env he s1 x=>?_
 subst he
 refine⟨lim.keeps x.toInCall.keep,codeAny_func ?_⟩
 obtain⟨t,ht,hq⟩:=hbody A outer s H vs Q E (hr.deeper _) hsp
 have I:Inv (EG CX P w K mg base N qual scope f cdv A outer s H E) [] (tY N vs) H s1:=Aa S hr.hd e0 hl r x
 refine fX (ht [] s1 (tY N vs) H _ I hq) (fun fl s' hs=>?_) fun e s' hs=>hs
 have fin:∀{σ':St} {H':Hp} {v:V} {u:fQ},Inv (EG CX P w K mg base N qual scope f cdv A outer s H E) [] σ' H' s'->jx v u->Q v H'->CE outer P w H s Q u s':=
  fun{σ' H' v u} J rv q=>⟨v,H',J.os,J.bare,J.base,J.hok,rv,q⟩
 cases fl with
 |ret u=>
  obtain⟨v,σ',H',J,rv,q⟩:=hs
  exact fin J rv q
 |next=>
  obtain⟨σ',H',J,q⟩:=hs
  exact fin (v:=V.non) (u:=Value.none) J rfl q
 |brk=>
  obtain⟨_,_,_,q⟩:=hs
  exact False.elim q
 |cont=>
  obtain⟨_,_,_,q⟩:=hs
  exact False.elim q
section
variable {X:Cx} {x:Str} {p pos:Pos} {e:gS} {es:List gS} {t:TA} {id T:String} {r:List V->Hp->VK->Prop}
def tCB (r:List V->Hp->VK->Prop) (t:TA):TE:=fun σ H Q=>t σ H fun vs H1=>r vs H1 Q
theorem iN (hc:m9 X (.builtin id) r) (hg:Gl X x) (hm:X.mg x=none) (hv:gx x=some (.builtin id)) (ha:PA X (e::es) t) (hn:autoParam (x≠"__name__") L2.Internal.auD._auto_1) (hdb:autoParam ((x==("__debug__":Str))=false) L2.Internal.auD._auto_1)
  (he:autoParam (gn (e::es) X.env=(false,eval e X.env)::gn es X.env) L2.Internal.auR._auto_1) (hpl:autoParam ((gN pos (gn es X.env)).any (·.1)=false) L2.Internal.auR._auto_1):PE X (.Call (.Name x p) (e::es) [] pos) (tCB r t):=by
 intro pz s σ H Q I h
 refine gL (qB I hg hm hv ?_ hn hdb)
 exact PyProof.Rows.callWith_builtin1 (thn (ha pos pz s σ H _ I h) fun us s1 ⟨vs,H1,I1,r1,q1⟩=>hc pz s1 σ H1 vs us Q I1 r1 q1) he hpl
theorem jd (hc:m9 X (.type T) r) (hg:Gl X x) (hm:X.mg x=none) (hv:gx x=some (.type T)) (ha:PA X (e::es) t) (hn:autoParam (x≠"__name__") L2.Internal.auD._auto_1) (hdb:autoParam ((x==("__debug__":Str))=false) L2.Internal.auD._auto_1)
  (he:autoParam (gn (e::es) X.env=(false,eval e X.env)::gn es X.env) L2.Internal.auR._auto_1) (hpl:autoParam ((gN pos (gn es X.env)).any (·.1)=false) L2.Internal.auR._auto_1):PE X (.Call (.Name x p) (e::es) [] pos) (tCB r t):=by
 intro pz s σ H Q I h
 refine gL (qB I hg hm hv ?_ hn hdb)
 exact fJ (thn (ha pos pz s σ H _ I h) fun us s1 ⟨vs,H1,I1,r1,q1⟩=>hc pz s1 σ H1 vs us Q I1 r1 q1) he hpl
end
section
variable {κ:Type} [DecidableEq κ]
def ky (kvs:List (κ×V)) (k:κ):Option V:=(kvs.find? fun kv=>decide (kv.1=k)).map (·.2)
def lF (kvs:List (κ×V)) (k:κ) (v:V):List (κ×V):=
 if(kvs.any fun kv=>decide (kv.1=k))=true then kvs.map (fun kv=>if kv.1=k then(kv.1,v)else kv)else kvs++[(k,v)]
theorem ki {p:κ×V} {r:List (κ×V)} {k:κ} (e:p.1=k):ky (p::r) k=some p.2:=by simp[ky,aS,e]
theorem jY {p:κ×V} {r:List (κ×V)} {k:κ} (e:¬p.1=k):ky (p::r) k=ky r k:=by simp[ky,aS,e]
theorem pE (k:κ):∀kvs:List (κ×V),(kvs.any fun kv=>decide (kv.1=k))=(ky kvs k).isSome
 |[]=>rfl
 |p::r=>by
  rw[aT]
  by_cases e:p.1=k
  ·simp only[ki e,jJ e,Bool.true_or,Option.isSome_some]
  ·rw[jY e,jR e,Bool.false_or];exact pE k r
theorem xN (k j:κ) (y:V):∀kvs:List (κ×V),ky (kvs.map fun kv=>if kv.1=k then(kv.1,y)else kv) j=(ky kvs j).map fun x=>if j=k then y else x
 |[]=>rfl
 |p::r=>by
  have ih:=xN k j y r
  rw[aD]
  by_cases h:p.1=k
  ·rw[ja h]
   by_cases e:p.1=j
   ·rw[ki (p:=(p.1,y)) e,ki e,cW,ja (e.symm.trans h)]
   ·rw[jY (p:=(p.1,y)) e,jY e,ih]
  ·rw[iT h]
   by_cases e:p.1=j
   ·rw[ki (p:=p) e,ki e,cW,iT (fun z=>h (e.trans z))]
   ·rw[jY (p:=p) e,jY e,ih]
theorem vp (k j:κ) (y:V):∀kvs:List (κ×V),ky kvs k=none->ky (kvs++[(k,y)]) j=if j=k then some y else ky kvs j
 |[],_=>by
  by_cases e:k=j
  ·rw[ja e.symm];exact ki (p:=(k,y)) e
  ·rw[iT (fun z=>e z.symm)];exact jY (p:=(k,y)) e
 |p::r,hn=>by
  rw[aU]
  have hk:¬p.1=k:=fun z=>by rw[ki z]at hn;cases hn
  rw[jY hk]at hn
  have ih:=vp k j y r hn
  by_cases e:p.1=j
  ·rw[ki e,ki e,iT (fun z=>hk (e.trans z))]
  ·rw[jY e,jY e,ih]
theorem pG (kvs:List (κ×V)) (k j:κ) (y:V):ky (lF kvs k y) j=if j=k then some y else ky kvs j:=by
 unfold lF
 by_cases a:(kvs.any fun kv=>decide (kv.1=k))=true
 ·rw[ja a,xN]
  rw[pE]at a
  by_cases e:j=k
  ·obtain⟨x,hx⟩:=cU.mp a
   rw[ja e,e,hx,cW,ja rfl]
  ·rw[iT e]
   cases ky kvs j with
   |none=>rfl
   |some x=>rw[cW,iT e]
 ·rw[iT a]
  refine vp k j y kvs ?_
  rw[pE]at a
  cases q:ky kvs k with
  |none=>rfl
  |some x=>rw[q]at a;exact(a rfl).elim
theorem jT (kvs:List (κ×V)) (k:κ) (v:V):(lF kvs k v).length<=kvs.length+ 1:=by
 unfold lF
 split
 ·rw[aE];lia
 ·rw[aQ,aB,List.length_nil];lia
theorem ve.isSome_eq {o:Option V} {u:Option fQ} (r:ve o u):o.isSome=u.isSome:=by
 cases o with
 |none=>cases u with
  |none=>rfl
  |some _=>exact(show False from r).elim
 |some _=>cases u with
  |none=>exact(show False from r).elim
  |some _=>rfl
theorem ve.getD {o:Option V} {u:Option fQ} {d:V} {d':fQ} (r:ve o u) (rd:jx d d'):jx (o.getD d) (u.getD d'):=by
 cases o with
 |none=>cases u with
  |none=>exact rd
  |some _=>exact(show False from r).elim
 |some _=>cases u with
  |none=>exact(show False from r).elim
  |some _=>exact r
theorem KV.val {kvs:List (κ×V)} {vs:List (κ×fQ)} (r:KV kvs vs) (k:κ):ve (ky kvs k) (valueAt vs k):=by
 unfold KV at r
 induction r with
 |nil=>exact True.intro
 |@cons p q ps qs h t ih=>
  obtain⟨h1,h2⟩:=h
  by_cases e:p.1=k
  ·have e':q.1=k:=h1.symm.trans e
   have b:valueAt (q::qs) k=some q.2:=by simp[valueAt,aS,e']
   rw[ki e,b];exact h2
  ·have e':¬q.1=k:=fun z=>e (h1.trans z)
   have b:valueAt (q::qs) k=valueAt qs k:=by simp[valueAt,aS,e']
   rw[jY e,b];exact ih
theorem KV.any {kvs:List (κ×V)} {vs:List (κ×fQ)} (r:KV kvs vs) (k:κ):(kvs.any fun kv=>decide (kv.1=k))=vs.any fun kv=>decide (kv.1=k):=by
 unfold KV at r
 induction r with
 |nil=>rfl
 |cons h t ih=>rw[aT,aT,ih,h.1]
theorem KV.repl {kvs:List (κ×V)} {vs:List (κ×fQ)} (r:KV kvs vs) (k:κ) {y:V} {u:fQ} (ry:jx y u):
  KV (kvs.map fun kv=>if kv.1=k then(kv.1,y)else kv) (vs.map fun kv=>if kv.1=k then(kv.1,u)else kv):=by
 unfold KV at r⊢
 induction r with
 |nil=>exact .nil
 |@cons p q ps qs h t ih=>
  rw[aD,aD]
  refine .cons ?_ ih
  obtain⟨h1,h2⟩:=h
  by_cases e:p.1=k
  ·rw[ja e,ja (h1.symm.trans e)];exact⟨h1,ry⟩
  ·rw[iT e,iT (fun z=>e (h1.trans z))];exact⟨h1,h2⟩
theorem KV.put {kvs:List (κ×V)} {vs:List (κ×fQ)} (r:KV kvs vs) (k:κ) {y:V} {u:fQ} (ry:jx y u):KV (lF kvs k y) (stored vs k u):=by
 unfold lF stored
 rw[r.any k]
 by_cases e:(vs.any fun kv=>decide (kv.1=k))=true
 ·rw[ja e,ja e];exact r.repl k ry
 ·rw[iT e,iT e];exact Paired.snoc r ⟨rfl,ry⟩
theorem KV.length {kvs:List (κ×V)} {vs:List (κ×fQ)} (r:KV kvs vs):kvs.length=vs.length:=Paired.length r
end
theorem vq {P:f9} {w:gm} {k:Key} {u:fQ} (r:jx (kV k) u):(jF P w).is k u=true:=by
 cases k with
 |inl i=>obtain⟨t,e⟩:=(show ∃t,u=Value.int i t from r);subst e;exact wo P w i t
 |inr x=>obtain⟨t,e⟩:=(show ∃t,u=Value.str x t from r);subst e;exact wq P w x t
theorem vt {P:f9} {w:gm}:∀{ks:List Key} {us:List fQ},jI (ks.map kV) us->ItemsAre (jF P w) ks us
 |[],_,r=>by rw[aV]at r;cases r;exact .nil
 |k::ks,_,r=>by
  rw[aD]at r
  cases r with
  |cons h t=>exact .cons (vq h) (vt t)
abbrev KT (H:Hp):List (List Key×V)->List (List Key×fO×fQ)->Prop:=Paired fun p q=>p.1=q.1/\H q.2.1=some (.tup (p.1.map kV))/\jx p.2 q.2.2
theorem KT.val {H:Hp} {kvs:List (List Key×V)} {xs:List (List Key×fO×fQ)} (r:KT H kvs xs) (k:List Key):ve (ky kvs k) ((atKey xs k).map (·.2)):=by
 induction r with
 |nil=>exact True.intro
 |@cons p q ps qs h t ih=>
  obtain⟨h1,_,h2⟩:=h
  by_cases e:p.1=k
  ·have e':q.1=k:=h1.symm.trans e
   have b:atKey (q::qs) k=some q.2:=by simp[atKey,aS,e']
   rw[ki e,b];exact h2
  ·have e':¬q.1=k:=fun z=>e (h1.trans z)
   have b:atKey (q::qs) k=atKey qs k:=by simp[atKey,aS,e']
   rw[jY e,b];exact ih
theorem KT.repl {H:Hp} {kvs:List (List Key×V)} {xs:List (List Key×fO×fQ)} (r:KT H kvs xs) (k:List Key) {y:V} {u:fQ} (ry:jx y u):
  KT H (kvs.map fun kv=>if kv.1=k then(kv.1,y)else kv) (xs.map (putAt k u)):=by
 induction r with
 |nil=>exact .nil
 |@cons p q ps qs h t ih=>
  rw[aD,aD]
  refine .cons ?_ ih
  obtain⟨h1,h2,h3⟩:=h
  unfold putAt
  by_cases e:p.1=k
  ·rw[ja e,ja (h1.symm.trans e)];exact⟨h1,h2,ry⟩
  ·rw[iT e,iT (fun z=>e (h1.trans z))];exact⟨h1,h2,h3⟩
theorem KT.put {H:Hp} {kvs:List (List Key×V)} {xs:List (List Key×fO×fQ)} (r:KT H kvs xs) (k:List Key) {b:fO} {y:V} {u:fQ} (hb:H b=some (.tup (k.map kV))) (ry:jx y u):
  KT H (lF kvs k y) (storedH xs k b u):=by
 have e:(kvs.any fun kv=>decide (kv.1=k))=(atKey xs k).isSome:=by
  rw[pE,(r.val k).isSome_eq,cX]
 unfold lF storedH
 rw[e]
 by_cases q:(atKey xs k).isSome=true
 ·rw[ja q,ja q];exact r.repl k ry
 ·rw[iT q,iT q];exact Paired.snoc r ⟨rfl,hb,ry⟩
theorem KT.keeps {H H':Hp} {kvs:List (List Key×V)} {xs:List (List Key×fO×fQ)} (r:KT H kvs xs) (ht:∀b ys,H b=some (.tup ys)->H' b=some (.tup ys)):KT H' kvs xs:=
 Paired.mapP r fun _ _ z=>⟨z.1,ht _ _ z.2.1,z.2.2⟩
section
variable {P:f9} {w:gm} {H:Hp} {h:Heap} {a:fO}
theorem Gz {u:HO} (ok:HOk P w H h) (e:Rd H a u):jG P w H h a u:=e.ok ok
theorem wB {kvs:List (Key×V)} (ok:HOk P w H h) (e:Rd H a (.dK kvs)):kvs.length<=fY/\(a==gM)=false/\∃vs,KV kvs vs/\h.DictOf (jF P w) a vs:=
 show jG P w H h a (.dK kvs)from Gz ok e
theorem EH {kvs:List (Key×V)} (ok:HOk P w H h) (e:H a=some (.dK kvs)):kvs.length<=fY/\(a==gM)=false/\∃vs,KV kvs vs/\h.DictOf (jF P w) a vs:=wB ok (.inl e)
theorem tq {ks:List Key} (ok:HOk P w H h) (e:H a=some (.tup (ks.map kV))):(tupleKind (jF P w)).is h ks a:=by
 obtain⟨_,its,r,o,h1,h2,n,h3,_⟩:=(show jG P w H h a (.tup (ks.map kV))from ok a _ e)
 exact⟨o,its.toArray,n,h1,h2,h3,by simpa using vt r⟩
theorem wC {kvs:List (List Key×V)} (ok:HOk P w H h) (e:Rd H a (.dT kvs)):kvs.length<=fY/\(a==gM)=false/\
  ∃xs,KT H kvs xs/\h.DictOfH (tupleKind (jF P w)) a xs:=by
 obtain⟨z,y,xs,r,o,es,ep,h1,h2,h3,h4,h5⟩:=(show jG P w H h a (.dT kvs)from Gz ok e)
 refine⟨z,y,xs,r,o,es,ep,h1,h2,h3,h4,fun x hx=>?_,h5⟩
 have all:∀{l:List (List Key×V)} {m:List (List Key×fO×fQ)},KT H l m->∀x∈m,(tupleKind (jF P w)).is h x.1 x.2.1:=by
  intro l m q
  induction q with
  |nil=>intro x hx;exact nomatch hx
  |@cons p q ps qs hq t ih=>
   intro x hx
   rcases aj.mp hx with e|hx
   ·subst e
    exact tq ok (by rw[<-hq.1];exact hq.2.1)
   ·exact ih x hx
 exact all r x hx
theorem Il {kvs:List (List Key×V)} (ok:HOk P w H h) (e:H a=some (.dT kvs)):kvs.length<=fY/\(a==gM)=false/\
  ∃xs,KT H kvs xs/\h.DictOfH (tupleKind (jF P w)) a xs:=wC ok (.inl e)
end
def qL (H:Hp) (a:fO) (y:V) (r:Option V):Prop:=
 (∃kvs k,Rd H a (.dK kvs)/\y=kV k/\r=ky kvs k)\/∃kvs k b,Rd H a (.dT kvs)/\y= .ref b/\H b=some (.tup (k.map kV))/\r=ky kvs k
def Cg (H:Hp) (a:fO) (y v:V) (H':Hp):Prop:=
 (∃kvs k,H a=some (.dK kvs)/\y=kV k/\kvs.length<fY/\H'=upd H a (.dK (lF kvs k v)))\/
 ∃kvs k b,H a=some (.dT kvs)/\y= .ref b/\H b=some (.tup (k.map kV))/\kvs.length<fY/\H'=upd H a (.dT (lF kvs k v))
theorem qL.k {H:Hp} {a:fO} {kvs:List (Key×V)} {k:Key} (e:H a=some (.dK kvs)):qL H a (kV k) (ky kvs k):= .inl ⟨kvs,k,.inl e,rfl,rfl⟩
theorem qL.t {H:Hp} {a b:fO} {kvs:List (List Key×V)} {k:List Key} (e:H a=some (.dT kvs)) (eb:H b=some (.tup (k.map kV))):qL H a (.ref b) (ky kvs k):= .inr ⟨kvs,k,b,.inl e,rfl,eb,rfl⟩
theorem Cg.k {H:Hp} {a:fO} {kvs:List (Key×V)} {k:Key} {v:V} (e:H a=some (.dK kvs)) (hl:kvs.length<fY):Cg H a (kV k) v (upd H a (.dK (lF kvs k v))):= .inl ⟨kvs,k,e,rfl,hl,rfl⟩
theorem Cg.t {H:Hp} {a b:fO} {kvs:List (List Key×V)} {k:List Key} {v:V} (e:H a=some (.dT kvs)) (eb:H b=some (.tup (k.map kV))) (hl:kvs.length<fY):
  Cg H a (.ref b) v (upd H a (.dT (lF kvs k v))):= .inr ⟨kvs,k,b,e,rfl,eb,hl,rfl⟩
section
variable {X:Cx} {pz:List (fO×Obj)} {σ:St} {H:Hp} {s:fR} {a:fO} {y v:V} {u r:fQ} {o:Option V} {A:gf} {E:fQ->fR->Prop}
theorem Inv.big (I:Inv X pz σ H s):gM<s.heap.objs.size:=by
 have h:gr<s.heap.objs.size:=(I.mod.glob.keeps I.bk).lt
 exact Nat.lt_trans (by decide) h
theorem Ab {Q:fQ->fR->Prop} (hu:A.units+ 1<gP) (I:Inv X pz σ H s) (g:qL H a y (some v)) (ry:jx y u) (h:∀w' s',Inv X pz σ H s'->jx v w'->Q w' s'):
  f6 (f7 X.prog X.w) A (getItem (.ref a) u) Q E s:=by
 rcases g with⟨kvs,k,e,ey,l⟩|⟨kvs,k,b,e,ey,eb,l⟩
 ·subst ey
  obtain⟨z,hd,vs,rel,dd⟩:=wB I.hok e
  obtain⟨w',hw,rw'⟩:=ve.some_of (v:=v) (o:=valueAt vs k) (by rw[l];exact rel.val k)
  exact wpAny_getItem_of (vq ry) dd.mapOf hw (h w' _ (I.tok _) rw')
 ·subst ey
  cases(show u=Value.ref b from ry)
  obtain⟨z,hd,xs,rel,dd⟩:=wC I.hok e
  obtain⟨w',hw,rw'⟩:=ve.some_of (v:=v) (o:=(atKey xs k).map (·.2)) (by rw[l];exact rel.val k)
  obtain⟨p,hp,hp2⟩:=cY.mp hw
  refine wpAny_getItem_heap (tupleKind_room_in1 hu) (tq I.hok eb) dd hp ?_
  rw[hp2]
  exact h w' _ (I.tok _) rw'
theorem d_in {Q:fQ->fR->Prop} (hu:A.units+ 1<gP) (I:Inv X pz σ H s) (g:qL H a y o) (ry:jx y u) (h:∀s',Inv X pz σ H s'->Q (.bool o.isSome) s'):
  f6 (f7 X.prog X.w) A (gv .In u (.ref a)) Q E s:=by
 rcases g with⟨kvs,k,e,ey,l⟩|⟨kvs,k,b,e,ey,eb,l⟩
 ·subst ey
  obtain⟨z,hd,vs,rel,dd⟩:=wB I.hok e
  refine wpAny_in_of (vq ry) hd dd.mapOf ?_
  rw[<-(rel.val k).isSome_eq,<-l]
  exact h _ (I.tok _)
 ·subst ey
  cases(show u=Value.ref b from ry)
  obtain⟨z,hd,xs,rel,dd⟩:=wC I.hok e
  refine wpAny_in_heap (tupleKind_room_in1 hu) (tq I.hok eb) hd dd ?_
  have q:=(rel.val k).isSome_eq
  rw[cX]at q
  rw[<-q,<-l]
  exact h _ (I.tok _)
theorem EI {Q:fQ->fR->Prop} (hu:A.units+ 1<gP) (I:Inv X pz σ H s) (g:qL H a y o) (ry:jx y u) (h:∀s',Inv X pz σ H s'->Q (.bool (!o.isSome)) s'):
  f6 (f7 X.prog X.w) A (gv .NotIn u (.ref a)) Q E s:=by
 rcases g with⟨kvs,k,e,ey,l⟩|⟨kvs,k,b,e,ey,eb,l⟩
 ·subst ey
  obtain⟨z,hd,vs,rel,dd⟩:=wB I.hok e
  refine wpAny_notIn_of (vq ry) hd dd.mapOf ?_
  rw[<-(rel.val k).isSome_eq,<-l]
  exact h _ (I.tok _)
 ·subst ey
  cases(show u=Value.ref b from ry)
  obtain⟨z,hd,xs,rel,dd⟩:=wC I.hok e
  refine wpAny_notIn_heap (tupleKind_room_in1 hu) (tq I.hok eb) hd dd ?_
  have q:=(rel.val k).isSome_eq
  rw[cX]at q
  rw[<-q,<-l]
  exact h _ (I.tok _)
theorem tZ {h':Heap} {t':Nat} {ob:HO} (I:Inv X pz σ H s) (mu:Mut (H a)) (hs:Heap.SameBut a s.heap h') (he:∃q,h'.get? a=some q) (new:jG X.prog X.w (upd H a ob) h' a ob):
  Inv X pz σ (upd H a ob) {s with heap:=h',toks:=t'}:=
 I.write (x:=a) (e:=a) mu (.inl rfl) (fun b q hb z=>(hs.2 b hb).trans z) he new
theorem xO {P:f9} {w:gm} {H':Hp} {h':Heap} {kvs:List (Key×V)} {vs:List (Key×fQ)} (z:kvs.length<=fY) (hd:(a==gM)=false) (rel:KV kvs vs) (dd:h'.DictOf (jF P w) a vs):
  jG P w H' h' a (.dK kvs):=⟨z,hd,vs,rel,dd⟩
theorem Ac {H':Hp} {Q:Unit->fR->Prop} (hu:A.units+ 1<gP) (I:Inv X pz σ H s) (g:Cg H a y v H') (ry:jx y u) (rv:jx v r) (h:∀s',Inv X pz σ H' s'->Q () s'):
  f6 (f7 X.prog X.w) A (setItem (.ref a) u r) Q E s:=by
 rcases g with⟨kvs,k,e,ey,l,eH⟩|⟨kvs,k,b,e,ey,eb,l,eH⟩
 ·subst ey eH
  obtain⟨z,hd,vs,rel,dd⟩:=EH I.hok e
  have hz:vs.length<=fY:=by rw[<-rel.length];exact z
  have hl:(lF kvs k v).length<=fY:=by have:=jT kvs k v;lia
  refine wpAny_setItem_pairs (hsz:=hz) (vq ry) dd fun h' dd' hs=>h _ ?_
  have he:∃q,h'.get? a=some q:=let⟨q,_,_,hq,_⟩:=dd';⟨q,hq⟩
  exact tZ I (by rw[e];exact True.intro) hs he (xO hl hd (rel.put k rv) dd')
 ·subst ey eH
  cases(show u=Value.ref b from ry)
  obtain⟨z,hd,xs,rel,dd⟩:=Il I.hok e
  have hz:xs.length<=fY:=by rw[<-Paired.length rel];exact z
  have hl:(lF kvs k v).length<=fY:=by have:=jT kvs k v;lia
  refine wpAny_setItem_heap (hsz:=hz) (tupleKind_room_in1 hu) (tq I.hok eb) dd fun h' dd' hs=>h _ ?_
  obtain⟨q,es,ep,hq,h2,h3,h4,_,h5⟩:=dd'
  refine tZ I (by rw[e];exact True.intro) hs ⟨q,hq⟩ ⟨hl,hd,_,(rel.put k eb rv).keeps fun c ys ec=>?_,q,es,ep,hq,h2,h3,h4,h5⟩
  rw[hX (iX ec e (fun z=>nomatch z))]
  exact ec
end
section
variable {X:Cx} {pz:List (fO×Obj)} {σ:St} {H:Hp} {s:fR} {a:fO} {kvs:List (Key×V)} {k:Key} {u:fQ} {A:gf} {E:fQ->fR->Prop}
end
def JD (i:gS):Prop:=∀ov iv,subscripted i false ov iv=operate [ov,iv] (getItem ov iv)
theorem EJ {prog:f9} {w:gm} {A:gf} {E:fQ->fR->Prop} {s:fR} {env:Env} {value slice:gS} {pos:Pos} {T id:String} {Q:fQ->fR->Prop}
  (hl:typeLookup (.type T) "__getitem__"=pure (some (.builtin id))) (hs:JD slice)
  (h:f6 (f7 prog w) A (eval value env) (fun o s₁=>f6 (f7 prog w) A (eval slice env) (fun i s₂=>s₂.TypeIs o T/\f6 (f7 prog w) A (getItem o i) Q E s₂) E s₁) E s):
  f6 (f7 prog w) A (eval (.Subscript value slice pos) env) Q E s:=by
 refine Subscript_ (fX h (fun o s₁ h₁=>fX h₁ (fun i s₂ h₂=>?_) fun _ _ x=>x) fun _ _ x=>x)
 obtain⟨hT,h₂⟩:=h₂
 unfold subscriptTail
 refine fV ?_
 rw[getitemInPython_of_ne hT.not_modules]
 refine fV (wpAny_specialOf hT hl ?_)
 have fin:f6 (f7 prog w) A (subscripted slice false o i) (fun r s₃=>f6 (f7 prog w) A (letTemporaryGo value o r >>= fun _=>pure r) Q E s₃) E s₂:=by
  rw[hs o i]
  exact wpAny_operating (fX h₂ (fun r s₃ h₃=>fV (wpAny_letTemporaryGo (fW h₃))) fun _ _ x=>x)
 first
  |exact fW (fV fin)
  |exact fV (fW (fV fin))
  |exact fV fin
theorem wD {X:Cx} {pz:List (fO×Obj)} {σ:St} {H:Hp} {s:fR} {a:fO} {y:V} {o:Option V} (I:Inv X pz σ H s) (g:qL H a y o):s.TypeIs (.ref a) "dict":=by
 rcases g with⟨kvs,k,e,_,_⟩|⟨kvs,k,b,e,_,_,_⟩
 ·obtain⟨_,_,vs,_,dd⟩:=wB I.hok e
  exact dd.typeIs
 ·obtain⟨_,_,xs,_,dd⟩:=wC I.hok e
  exact dd.typeIs
def Io (td ty:TE):TE:=fun σ H Q=>td σ H fun x H1=>ty σ H1 fun y H2=>∃a v,x= .ref a/\qL H2 a y (some v)/\Q v H2
def tDIn (ty td:TE):TE:=fun σ H Q=>ty σ H fun y H1=>td σ H1 fun x H2=>∃a o,x= .ref a/\qL H2 a y o/\Q (.bl o.isSome) H2
def EK (ty td:TE):TE:=fun σ H Q=>ty σ H fun y H1=>td σ H1 fun x H2=>∃a o,x= .ref a/\qL H2 a y o/\Q (.bl (!o.isSome)) H2
def Ip (td ty tv:TE):TS:=fun D σ H=>tv σ H fun v H1=>td σ H1 fun x H2=>ty σ H2 fun y H3=>∃a H4,x= .ref a/\Cg H3 a y v H4/\D.nx σ H4
section
variable {X:Cx} {o i e value:gS} {pos pos' tpos:Pos} {td ty tv:TE}
theorem t7 (hu:X.A.units+ 1<gP) (ho:PE X o td) (hi:PE X i ty) (hs:JD i:=by exact fun _ _=>rfl):PE X (.Subscript o i pos) (Io td ty):=by
 intro pz s σ H Q I h
 refine EJ PySem.F.slot_dict_getitem.lookup hs (thn (ho pz s σ H _ I h) fun u s1 ⟨x,H1,I1,rx,q1⟩=>thn (hi pz s1 σ H1 _ I1 q1) fun iv s2 ⟨y,H2,I2,ry,a,v,ex,g,q2⟩=>?_)
 subst ex
 obtain rfl:u=Value.ref a:=rx
 exact⟨wD I2 g,Ab hu I2 g ry fun w' s3 I3 rw'=>⟨v,H2,I3,rw',q2⟩⟩
theorem GA (hu:X.A.units+ 1<gP) (hi:PE X i ty) (ho:PE X o td):PC X .In i o (tDIn ty td):=by
 intro pz s σ H Q I h
 refine thn (hi pz s σ H _ I h) fun iv s1 ⟨y,H1,I1,ry,q1⟩=>thn (ho pz s1 σ H1 _ I1 q1) fun u s2 ⟨x,H2,I2,rx,a,ov,ex,g,q2⟩=>?_
 subst ex
 obtain rfl:u=Value.ref a:=rx
 exact d_in hu I2 g ry fun s3 I3=>⟨.bl ov.isSome,H2,I3,rfl,q2⟩
theorem rj (hu:X.A.units+ 1<gP) (hi:PE X i ty) (ho:PE X o td):PC X .NotIn i o (EK ty td):=by
 intro pz s σ H Q I h
 refine thn (hi pz s σ H _ I h) fun iv s1 ⟨y,H1,I1,ry,q1⟩=>thn (ho pz s1 σ H1 _ I1 q1) fun u s2 ⟨x,H2,I2,rx,a,ov,ex,g,q2⟩=>?_
 subst ex
 obtain rfl:u=Value.ref a:=rx
 exact EI hu I2 g ry fun s3 I3=>⟨.bl (!ov.isSome),H2,I3,rfl,q2⟩
theorem wF (hu:X.A.units+ 1<gP) (ho:PE X o td) (hi:PE X i ty) (hv:PE X value tv) (hs:swapsWith value (some (.Subscript o i pos')) pos.line X.env=pure false):
  PS X (.Assign [.Subscript o i pos'] value pos) (Ip td ty tv):=by
 intro pz s σ H D I h
 refine wpAny_Assign_Subscript (thn (hv pz s σ H _ I h) fun r s1 ⟨v,H1,I1,rv,q1⟩=>thn (ho pz s1 σ H1 _ I1 q1) fun u s2 ⟨x,H2,I2,rx,q2⟩=>thn (hi pz s2 σ H2 _ I2 q2) fun iv s3 ⟨y,H3,I3,ry,a,H4,ex,g,q3⟩=>?_) hs
 subst ex
 obtain rfl:u=Value.ref a:=rx
 exact Ac hu I3 g ry rv fun s4 I4=>⟨σ,H4,I4,q3⟩
end
theorem Ci {P:f9} {w:gm} {H:Hp} (h:Heap) (hb:gM<h.objs.size):jG P w H (h.push {cls:= .type "dict",data:= .dict #[]}) h.objs.size (.dK []):=
 ⟨cC _,beq_eq_false_iff_ne.mpr (Ne.symm (cx hb)),[],.nil,Heap.DictOf.new h⟩
theorem Cj {P:f9} {w:gm} {H:Hp} (h:Heap) (hb:gM<h.objs.size):jG P w H (h.push {cls:= .type "dict",data:= .dict #[]}) h.objs.size (.dT []):=
 ⟨cC _,beq_eq_false_iff_ne.mpr (Ne.symm (cx hb)),[],.nil,_,#[],0,fE _ rfl,⟨rfl,rfl,rfl⟩,rfl,rfl,aW⟩
def GB:TE:=fun _ H Q=>∀p,H p=none->Q (.ref p) (upd H p (.dK []))
def GC:TE:=fun _ H Q=>∀p,H p=none->Q (.ref p) (upd H p (.dT []))
section
variable {X:Cx} {pos:Pos}
theorem pH:PE X (.Dict [] [] pos) GB:=fun pz s σ H Q I h=>
 wpAny_Dict_empty ⟨.ref s.heap.objs.size,_,I.laid (a:=s.heap.objs.size) (o:= .dK []) (t':=s.toks) (fun _ _ q=>fF _ q) (cB _) (Ci s.heap I.big),rfl,h _ (I.hok.fresh (cB _))⟩
theorem Cn:PE X (.Dict [] [] pos) GC:=fun pz s σ H Q I h=>
 wpAny_Dict_empty ⟨.ref s.heap.objs.size,_,I.laid (a:=s.heap.objs.size) (o:= .dT []) (t':=s.toks) (fun _ _ q=>fF _ q) (cB _) (Cj s.heap I.big),rfl,h _ (I.hok.fresh (cB _))⟩
end
def jU (kvs more:List (Key×V)):List (Key×V):=more.foldl (fun acc kv=>lF acc kv.1 kv.2) kvs
structure M1 (X:Cx) (o:gS) (m:Str) (apos:Pos) (e:gS) (cpos:Pos):Prop where
 base:attributeBase o m X.env (eval o X.env)=eval o X.env
 few:((gN cpos (gn [e] X.env)).all (fun x=>!x.1)&&(backToKw cpos (keywordEach [] X.env)).all (fun x=>x.1.isSome)
  &&decide (([e]:List gS).length+([]:List Keyword).length+(if([]:List Keyword).isEmpty then 0 else 1)<30))=true
 line:(apos.endLine==cpos.line)=true
 trees:gN cpos (gn [e] X.env)=[(false,eval e X.env)]
structure M2 (X:Cx) (o:gS) (m:Str) (apos:Pos) (e f:gS) (cpos:Pos):Prop where
 base:attributeBase o m X.env (eval o X.env)=eval o X.env
 few:((gN cpos (gn [e,f] X.env)).all (fun x=>!x.1)&&(backToKw cpos (keywordEach [] X.env)).all (fun x=>x.1.isSome)
  &&decide (([e,f]:List gS).length+([]:List Keyword).length+(if([]:List Keyword).isEmpty then 0 else 1)<30))=true
 line:(apos.endLine==cpos.line)=true
 trees:gN cpos (gn [e,f] X.env)=[(false,eval e X.env),(false,eval f X.env)]
def IsD (H:Hp) (a:fO):Prop:=(∃kvs,Rd H a (.dK kvs))\/∃kvs,Rd H a (.dT kvs)
theorem DI {X:Cx} {pz:List (fO×Obj)} {σ:St} {H:Hp} {s:fR} {a:fO} (I:Inv X pz σ H s) (d:IsD H a):
  s.TypeIs (.ref a) "dict"/\(∀b,Value.ref a= .ref b->∃ob,s.heap.get? b=some ob/\ob.dict=none)/\(a==gM)=false:=by
 rcases d with⟨kvs,e⟩|⟨kvs,e⟩
 ·obtain⟨_,hd,vs,_,dd⟩:=wB I.hok e
  refine⟨dd.typeIs,fun b q=>?_,hd⟩
  cases q
  obtain⟨ob,_,_,h1,h2,_⟩:=dd
  exact⟨ob,h1,h2.2.1⟩
 ·obtain⟨_,hd,xs,_,dd⟩:=wC I.hok e
  refine⟨dd.typeIs,fun b q=>?_,hd⟩
  cases q
  obtain⟨ob,_,_,h1,h2,_⟩:=dd
  exact⟨ob,h1,h2.2.1⟩
section
variable {X:Cx} {pz:List (fO×Obj)} {σ:St} {H:Hp} {s:fR} {a:fO} {y d:V} {u r:fQ} {o:Option V} {A:gf} {E:fQ->fR->Prop}
theorem GD {Q:fQ->fR->Prop} (hu:A.units+ 1<gP) (I:Inv X pz σ H s) (g:qL H a y o) (ry:jx y u) (rd:jx d r) (h:∀w' s',Inv X pz σ H s'->jx (o.getD d) w'->Q w' s'):
  f6 (f7 X.prog X.w) A (call (.builtin "dict.get") [.ref a,u,r]) Q E s:=by
 rcases g with⟨kvs,k,e,ey,l⟩|⟨kvs,k,b,e,ey,eb,l⟩
 ·subst ey
  obtain⟨z,hd,vs,rel,dd⟩:=wB I.hok e
  refine call_meetsIn dZ dd.typeIs ee (eB _ _ _) (meets_dict_get_default (jF X.prog X.w) a (vq ry) hd r) ⟨_,dd.mapOf,h _ _ (I.tok _) ?_⟩
  rw[l]
  exact(rel.val k).getD rd
 ·subst ey
  cases(show u=Value.ref b from ry)
  obtain⟨z,hd,xs,rel,dd⟩:=wC I.hok e
  refine call_meetsIn dZ dd.typeIs ee (eB _ _ _) (meetsH_dict_get_default (tupleKind (jF X.prog X.w)) a b hd r) ⟨tupleKind_room_in1 hu,k,xs,tq I.hok eb,dd,h _ _ (I.tok _) ?_⟩
  rw[l]
  exact(rel.val k).getD rd
end
def GF (td ty tx:TE):TE:=fun σ H Q=>td σ H fun x H1=>∃a,x= .ref a/\IsD H1 a/\ty σ H1 fun y H2=>tx σ H2 fun z H3=>∃o,qL H3 a y o/\Q (o.getD z) H3
section
variable {X:Cx} {o e f:gS} {apos cpos:Pos} {td ty tx:TE}
theorem t8 (hu:X.A.units+ 1<gP) (ho:PE X o td) (he:PE X e ty) (hf:PE X f tx) (m:M2 X o "get" apos e f cpos):PE X (.Call (.Attribute o "get" apos) [e,f] [] cpos) (GF td ty tx):=by
 intro pz s σ H Q I h
 refine wpAny_Call_method m.base m.few m.line eC dZ PySem.F.type_dict_get (thn (ho pz s σ H _ I h) fun u s1 ⟨x,H1,I1,rx,a,ex,d,q1⟩=>?_)
 subst ex
 obtain rfl:u=Value.ref a:=rx
 obtain⟨t1,t2,_⟩:=DI I1 d
 refine⟨t1,t2,?_⟩
 rw[m.trees]
 refine Calls.callWith_builtin rfl (Calls.evalArgs_plain (Calls.spliced_cons (thn (he pz s1 σ H1 _ I1 q1) fun iv s2 ⟨y,H2,I2,ry,q2⟩=>
  Calls.spliced_cons (thn (hf pz s2 σ H2 _ I2 q2) fun fv s3 ⟨z,H3,I3,rz,ov,g,q3⟩=>Calls.spliced_nil ?_))))
 exact GD hu I3 g ry rz fun w' s4 I4 rw'=>⟨_,H3,I4,rw',q3⟩
end
section
variable {X:Cx} {pz:List (fO×Obj)} {σ:St} {H:Hp} {s:fR} {a:fO} {kvs:List (Key×V)} {A:gf} {E:fQ->fR->Prop}
end
section
variable {X:Cx} {pz:List (fO×Obj)} {σ:St} {H:Hp} {s:fR} {a:fO} {y:V} {u:fQ} {A:gf} {E:fQ->fR->Prop}
end
end L2.Internal
namespace HT.Internal
open PySem PyProof.Rows
section
open PySem.SeqAt
open PySem.AutoSeq1 (wpAny_loadPart')
open PySem.MeetsSeq PySem.MeetsSeq2 PySem.MeetsSeq3
end
section
variable {prog:f9} {w:gm} {A:gf} {E:fQ->fR->Prop} {s:fR}
def sIx (n d:Nat):Option Int->Nat
 |none=>d
 |some v=>if v<0 then(v+(n:Int)).toNat else min v.toNat n
theorem sIx_none (n d:Nat):sIx n d none=d:=rfl
theorem sIx_nat (n d k:Nat):sIx n d (some (k:Int))=min k n:=by
 show(if(k:Int)<0 then((k:Int)+(n:Int)).toNat else min (k:Int).toNat n)=min k n
 rw[iT (by lia),eZ]
theorem GG (n d:Nat) (hd:d<=n) (o:Option Int):sIx n d o<=n:=by
 cases o with
 |none=>exact hd
 |some v=>
  show(if v<0 then(v+(n:Int)).toNat else min v.toNat n)<=n
  by_cases hv:v<0
  ·rw[ja hv];lia
  ·rw[iT hv];exact Nat.min_le_right _ _
theorem Ae (v:Int) (n d:Nat):(if v<0 then max (v+(n:Int)) 0 else min v (n:Int))=((sIx n d (some v):Nat):Int):=by
 show(if v<0 then max (v+(n:Int)) 0 else min v (n:Int))=(((if v<0 then(v+(n:Int)).toNat else min v.toNat n):Nat):Int)
 by_cases hv:v<0
 ·simp only[ja hv];lia
 ·simp only[iT hv];lia
theorem y9 (lo hi:Option Int) (n:Nat):Builtin.Slice.sliceAdjust lo hi 1 (n:Int)=(((sIx n 0 lo:Nat):Int),((sIx n n hi:Nat):Int)):=by
 have h1:¬((1:Int)<0):=by lia
 unfold Builtin.Slice.sliceAdjust
 simp only[h1,if_false]
 refine Prod.ext ?_ ?_
 ·cases lo with
  |none=>rfl
  |some v=>exact Ae v n 0
 ·cases hi with
  |none=>rfl
  |some v=>exact Ae v n n
theorem za (i j:Nat):Builtin.Slice.slicePlaces (i:Int) (j:Int) 1=j-i:=by
 unfold Builtin.Slice.slicePlaces
 have h1:(1:Int)>0:=by lia
 simp only[h1,if_true,Int.ediv_one]
 split<;>lia
theorem tD {v:fQ} {o:Option Int} {Q:Option Int->fR->Prop} (p:IsPart v o) (h:Q o s):f6 (f7 prog w) A (Builtin.Slice.slicePartIndex v) Q E s:=by
 cases p with
 |none=>exact slicePart_none h
 |int i t=>exact slicePart_int h
theorem mW {sl:fO} {vl vu:fQ} {lo hi:Option Int} {n:Nat} {Q:Int×Int×Nat->fR->Prop} (hs:s.heap.IsSliceOf sl vl vu .none) (pl:IsPart vl lo) (pu:IsPart vu hi)
  (h:Q (((sIx n 0 lo:Nat):Int),1,sIx n n hi-sIx n 0 lo) s):f6 (f7 prog w) A (Builtin.Slice.sliceApplied (.ref sl) (pure (n:Int))) Q E s:=by
 obtain⟨os,hos,hcs,hds⟩:=id hs
 unfold Builtin.Slice.sliceApplied Builtin.Slice.sliceFields
 refine fV (fV (gy hos hds (x:=vl) rfl (fV (gy hos hds (x:=vu) rfl (fV (gy hos hds (x:= .none) rfl (fW ?_)))))))
 refine fV (slicePart_none ?_)
 show f6 _ _ (if((1:Int)==0)=true then _ else _) _ _ s
 rw[iT (by decide)]
 refine fV (tD pl (fV (tD pu (fV (fW ?_)))))
 show f6 _ _ (match Builtin.Slice.sliceAdjust lo hi 1 (n:Int)with|(lo,hi)=>pure (lo,(1:Int),Builtin.Slice.slicePlaces lo hi 1)) _ _ s
 rw[y9 lo hi n]
 show f6 _ _ (pure (((sIx n 0 lo:Nat):Int),(1:Int),Builtin.Slice.slicePlaces ((sIx n 0 lo:Nat):Int) ((sIx n n hi:Nat):Int) 1)) _ _ s
 rw[za]
 exact fW h
theorem Co (xs:Array fQ) (i k:Nat):((aa k).filterMap fun(m:Nat)=>xs[((i:Int)+(m:Int)*1).toNat]?).toArray=((xs.toList.drop i).take k).toArray:=by
 have e:(fun(m:Nat)=>xs[((i:Int)+(m:Int)*1).toNat]?)=fun m=>xs[i+m]?:=by
  funext m
  have:((i:Int)+(m:Int)*1).toNat=i+m:=by lia
  rw[this]
 rw[e]
 have:=pick_run xs i k
 rw[List.filterMap_map]at this
 have e2:((fun x=>xs[x]?)∘fun x=>i+x)=fun m=>xs[i+m]?:=rfl
 rw[e2]at this
 rw[this]
theorem getItem_tuple_cut {t sl:fO} {items:Array fQ} {vl vu:fQ} {lo hi:Option Int} {Q:fQ->fR->Prop} (ht:IsTup s.heap t items) (hs:s.heap.IsSliceOf sl vl vu .none) (pl:IsPart vl lo) (pu:IsPart vu hi)
  (hw:¬(sIx items.size 0 lo=0/\sIx items.size items.size hi=items.size))
  (h:Q (.ref s.heap.objs.size) {s with heap:=s.heap.push {cls:= .type "tuple",data:= .seq ((items.toList.drop (sIx items.size 0 lo)).take (sIx items.size items.size hi-sIx items.size 0 lo)).toArray}})
  (hsz:items.size<=fY):f6 (f7 prog w) A (getItem (.ref t) (.ref sl)) Q E s:=by
 have htake:sizeOk (.seq ((items.toList.drop (sIx items.size 0 lo)).take (sIx items.size items.size hi-sIx items.size 0 lo)).toArray):=by
  show((items.toList.drop (sIx items.size 0 lo)).take (sIx items.size items.size hi-sIx items.size 0 lo)).toArray.size<=fY
  rw[aA,aK,aX,eW]
  lia
 have hj:sIx items.size items.size hi<=items.size:=GG _ _ (cB _) hi
 obtain⟨os,hos,hcs,hds⟩:=id hs
 have hTs:s.TypeIs (.ref sl) "slice":=⟨os,hos,hcs⟩
 unfold getItem
 try with_reducible refine gD ?_
 first|refine fV (fW ?_)|skip
 refine fV (wpAny_sequenceKey ht.typeIs (by decide) ?_)
 refine fV (wpAny_callSpecial?_slot (name:=Str.ofString "__getitem__") ht.typeIs fK
  (gE fK ht.typeIs entry_tuple_getitem ?_ (args_tuple_getitem _ _)))
 show f6 _ _ (Builtin.Tuple.tupleItemsOf (.ref t) >>= _) _ _ s
 refine fV (tupleItemsOf_ ht ?_)
 refine fV (gW hTs ?_)
 rw[ja (by decide)]
 refine fV (mW hs pl pu ?_)
 have hno:¬((((sIx items.size 0 lo:Nat):Int)==0&&(1:Int)==1&&(sIx items.size items.size hi-sIx items.size 0 lo)==items.size)=true):=by
  intro q
  rw[eR,eR]at q
  have q1:((sIx items.size 0 lo:Nat):Int)=0:=eq_of_beq q.1.1
  have q2:sIx items.size items.size hi-sIx items.size 0 lo=items.size:=eq_of_beq q.2
  exact hw ⟨by lia,by lia⟩
 show f6 _ _ (if(((sIx items.size 0 lo:Nat):Int)==0&&(1:Int)==1&&(sIx items.size items.size hi-sIx items.size 0 lo)==items.size)=true then _ else _) _ _ s
 rw[iT hno,Co]
 first
  |exact fV (m:=Builtin.Tuple.tupleExact _) (gA (fW ⟨_,rfl,fW h⟩) htake)
  |exact fV (m:=Builtin.Tuple.tupleExact _) (gA (fV (fW (fW ⟨_,rfl,fW h⟩))) htake)
  |exact fV (fV (m:=Builtin.Tuple.tupleExact _) (gA (fW (fW ⟨_,rfl,fW h⟩)) htake))
  |exact fV (fV (m:=Builtin.Tuple.tupleExact _) (gA (fW ⟨_,rfl,fW h⟩) htake))
end
end HT.Internal
namespace L2.Internal
open PySem PySem.Spec PyProof.Rows
abbrev TO:=St->Hp->(Option Int->Hp->Prop)->Prop
def PO (X:Cx) (e:Option gS) (t:TO):Prop:=
 ∀(pz:List (fO×Obj)) (s:fR) (σ:St) (H:Hp) (Q:Option Int->Hp->Prop),Inv X pz σ H s->t σ H Q->
  f6 (f7 X.prog X.w) X.A (evalPart e X.env) (fun u s'=>∃o H',Inv X pz σ H' s'/\IsPart u o/\Q o H') X.xe s
def Af:TO:=fun _ H Q=>Q none H
def Iq (t:TE):TO:=fun σ H Q=>t σ H fun x H1=>∃i,x= .int i/\Q (some i) H1
theorem qd {ns:List Int}:∀{us:List fQ},jI (ns.map V.int) us->IntsAre us ns:=by
 induction ns with
 |nil=>intro us r;rw[aV]at r;cases r;exact .nil
 |cons n ns ih=>
  intro us r
  rw[aD]at r
  cases r with
  |cons r1 r2=>
   obtain⟨t,e⟩:=r1
   subst e
   exact .cons n t (ih r2)
section
variable {X:Cx} {e:gS} {te:TE} {lo hi:Option gS} {tl th:TO} {pos p2:Pos}
theorem nq:PO X none Af:=by
 intro pz s σ H Q I h
 rw[evalPart_none]
 exact fW ⟨none,H,I,.none,h⟩
theorem kY (h:PE X e te):PO X (some e) (Iq te):=by
 intro pz s σ H Q I hw
 rw[evalPart_some]
 refine thn (h pz s σ H _ I hw) fun u s1 ⟨x,H1,I1,r1,q1⟩=>?_
 obtain⟨i,rfl,q⟩:=q1
 obtain⟨t,rfl⟩:=r1
 exact⟨some i,H1,I1,.int i t,q⟩
def SlR (X:Cx) (r:V->Option Int->Option Int->Hp->VK->Prop):Prop:=
 ∀(pz:List (fO×Obj)) (s:fR) (σ:St) (H:Hp) (x:V) (v vl vu:fQ) (lo hi:Option Int) (sl:fO) (Q:VK),Inv X pz σ H s->jx x v->s.heap.IsSliceOf sl vl vu .none->IsPart vl lo->IsPart vu hi->r x lo hi H Q->
  ∃T id,typeLookup (.type T) "__getitem__"=pure (some (.builtin id))/\s.TypeIs v T/\f6 (f7 X.prog X.w) X.A (getItem v (.ref sl)) (EP X pz σ Q) X.xe s
def tSl (r:V->Option Int->Option Int->Hp->VK->Prop) (te:TE) (tl th:TO):TE:=fun σ H Q=>te σ H fun x H1=>tl σ H1 fun l H2=>th σ H2 fun u H3=>r x l u H3 Q
theorem kQ {r:V->Option Int->Option Int->Hp->VK->Prop} (hr:SlR X r) (he:PE X e te) (hl:PO X lo tl) (hu:PO X hi th):PE X (.Subscript e (.Slice lo hi none p2) pos) (tSl r te tl th):=by
 intro pz s σ H Q I h
 refine Subscript_ (thn (he pz s σ H _ I h) fun v s1 ⟨x,H1,I1,r1,q1⟩=>?_)
 refine wpAny_Slice (thn (hl pz s1 σ H1 _ I1 q1) fun vl s2 ⟨l,H2,I2,pl,q2⟩=>thn (hu pz s2 σ H2 _ I2 q2) fun vu s3 ⟨u,H3,I3,pu,q3⟩=>?_)
 rw[evalPart_none]
 refine fW ?_
 have I4:Inv X pz σ H3 {s3 with heap:=s3.heap.push {cls:= .type "slice",data:= .fields #[vl,vu,.none]}}:=I3.kept (t':=s3.toks) fun b ob q=>fF _ q
 obtain⟨T,id,hT,ht,hg⟩:=hr pz {s3 with heap:=s3.heap.push {cls:= .type "slice",data:= .fields #[vl,vu,.none]}} σ H3 x v vl vu l u s3.heap.objs.size Q I4 r1 (Heap.IsSliceOf.new ..) pl pu q3
 show f6 (f7 X.prog X.w) X.A (subscriptTail e (.Slice lo hi none p2) v (.ref s3.heap.objs.size)) (EP X pz σ Q) X.xe {s3 with heap:=s3.heap.push {cls:= .type "slice",data:= .fields #[vl,vu,.none]}}
 exact tail_any (ops:=[.ref s3.heap.objs.size,v]) ht hT hg (by with_unfolding_all rfl)
def qM (xs:List V) (lo hi:Option Int):List V:=(xs.drop (HT.Internal.sIx xs.length 0 lo)).take (HT.Internal.sIx xs.length xs.length hi-HT.Internal.sIx xs.length 0 lo)
theorem rm (xs:List V) (lo hi:Option Int):(qM xs lo hi).length<=xs.length:=by
 unfold qM
 rw[aK,aX]
 lia
def rSlT (K:PySem.W.Frag):V->Option Int->Option Int->Hp->VK->Prop:=fun x lo hi H Q=>∃a xs,x= .ref a/\SqT K H a xs/\
 ¬(HT.Internal.sIx xs.length 0 lo=0/\HT.Internal.sIx xs.length xs.length hi=xs.length)/\∀p,H p=none->Q (.ref p) (upd H p (.tup (qM xs lo hi)))
theorem GH:SlR X (rSlT X.K):=by
 intro pz s σ H x v vl vu lo hi sl Q I rx hs pl pu h
 obtain⟨a,xs,rfl,hx,hw,q⟩:=h
 cases rx
 obtain⟨its,r,ht,hz⟩:=I.tuple hx
 have hlen:its.toArray.size=xs.length:=by rw[aA];exact r.length.symm
 refine⟨"tuple",_,fK.lookup,ht.typeIs,?_⟩
 refine HT.Internal.getItem_tuple_cut ht hs pl pu (by rw[hlen];exact hw) ?_ (by rw[hlen];exact hz)
 rw[hlen]
 refine⟨.ref s.heap.objs.size,_,I.laid (t':=s.toks) (o:= .tup (qM xs lo hi)) (fun b ob q=>fF _ q) (cB _) ?_,rfl,q _ (I.hok.fresh (cB _))⟩
 exact⟨cy (rm xs lo hi) hz,_,(r.drop (HT.Internal.sIx xs.length 0 lo)).take (HT.Internal.sIx xs.length xs.length hi-HT.Internal.sIx xs.length 0 lo),yU.new _ _⟩
end
def ixN (n:Nat) (i:Int):Option Nat:=if 0<=i then(if i<n then some i.toNat else none)else if-(n:Int)<=i then some (i+n).toNat else none
def atI {α:Type} (xs:List α) (i:Int):Option α:=(ixN xs.length i).bind fun j=>xs[j]?
theorem EM {n:Nat} {i:Int} {j:Nat} (h:ixN n i=some j):seqIndex? i n=some j/\j<n/\-(n:Int)<=i/\i<n:=by
 unfold ixN at h
 by_cases h0:0<=i
 ·rw[ja h0]at h
  by_cases h1:i<n
  ·rw[ja h1]at h
   have e:i.toNat=j:=cR.inj h
   exact⟨by rw[seqIndex_of h0 h1,e],by lia,by lia,h1⟩
  ·rw[iT h1]at h;cases h
 ·rw[iT h0]at h
  by_cases h1: -(n:Int)<=i
  ·rw[ja h1]at h
   have e:(i+n).toNat=j:=cR.inj h
   exact⟨by rw[seqIndex_neg (by lia) h1,e],by lia,h1,by lia⟩
  ·rw[iT h1]at h;cases h
theorem wG {α:Type} {xs:List α} {i:Int} {v:α} (h:atI xs i=some v):∃j,seqIndex? i xs.length=some j/\xs[j]?=some v/\j<xs.length/\-(xs.length:Int)<=i/\i<xs.length:=by
 unfold atI at h
 cases e:ixN xs.length i with
 |none=>rw[e]at h;cases h
 |some j=>
  rw[e]at h
  obtain⟨h1,h2,h3,h4⟩:=EM e
  exact⟨j,h1,h,h2,h3,h4⟩
theorem ic {α:Type} {xs:List α} {j:Nat} {v:α} (h:xs[j]?=some v):atI xs (j:Int)=some v:=by
 have hj:j<xs.length:=(aq.mp h).1
 have e:ixN xs.length (j:Int)=some j:=by
  unfold ixN
  rw[ja (by lia),ja (by lia)];simp
 unfold atI;rw[e];exact h
theorem Cp {α:Type} (xs:List α) (v:α):atI (xs++[v]) (-1)=some v:=by
 have hl:(xs++[v]).length=xs.length+ 1:=by simp
 have e:ixN (xs++[v]).length (-1)=some xs.length:=by
  unfold ixN
  rw[hl,iT (by decide),ja (by lia)]
  congr 1
  lia
 unfold atI
 rw[e]
 show(xs++[v])[xs.length]?=some v
 simp
def EN (b:gS):Prop:=∀o i,subscripted b false o i=operate [o,i] (getItem o i)
def IxR (X:Cx) (r:R2):Prop:=
 ∀(value slice:gS) (pz:List (fO×Obj)) (s:fR) (σ:St) (H:Hp) (x y:V) (v u:fQ) (Q:VK),Inv X pz σ H s->jx x v->jx y u->r x y H Q->
  subscripted slice false v u=operate [v,u] (getItem v u)->f6 (f7 X.prog X.w) X.A (subscriptTail value slice v u) (EP X pz σ Q) X.xe s
def MtR (X:Cx) (id:String) (r:V->List V->Hp->VK->Prop):Prop:=
 ∀(pz:List (fO×Obj)) (s:fR) (σ:St) (H:Hp) (x:V) (xs:List V) (v:fQ) (us:List fQ) (Q:VK),Inv X pz σ H s->jx x v->jI xs us->r x xs H Q->
  f6 (f7 X.prog X.w) X.A (call (.builtin id) (v::us)) (EP X pz σ Q) X.xe s
section
variable {X:Cx} {a b:gS} {ta tb:TE} {pos:Pos}
theorem iq {r:R2} (hr:IxR X r) (ha:PE X a ta) (hb:PE X b tb) (hs:EN b:=by exact fun _ _=>rfl):PE X (.Subscript a b pos) (tOp r ta tb):=by
 intro pz s σ H Q I h
 exact Subscript_ (Ia ha hb I h fun v u s2 x y H2 I2 rx ry q=>hr a b pz s2 σ H2 x y v u Q I2 rx ry q (hs _ _))
def rIxL (K:PySem.W.Frag):R2:=fun x y H Q=>∃p xs i v,x= .ref p/\y= .int i/\SqL K H p xs/\atI xs i=some v/\Q v H
def rIxT (K:PySem.W.Frag):R2:=fun x y H Q=>∃p xs i v,x= .ref p/\y= .int i/\SqT K H p xs/\atI xs i=some v/\Q v H
def rIxS:R2:=fun x y H Q=>∃z i c,x= .str z/\y= .int i/\z.length<=fY/\atI z.cps.toList i=some c/\Q (.str ⟨#[c]⟩) H
theorem EO:IxR X (rIxL X.K):=by
 intro value slice pz s σ H x y v u Q I rx ry h hs
 obtain⟨p,xs,i,z,rfl,rfl,hq,he,q⟩:=h
 cases rx
 obtain⟨t,rfl⟩:=ry
 obtain⟨its,r,pl,hz⟩:=I.list hq
 obtain⟨j,h1,h2,h3,h4,h5⟩:=wG he
 obtain⟨w,ew,rw'⟩:=r.get h2
 have hl:=r.length
 have hn:=tf
 have fin:EP X pz σ Q w s:=⟨z,H,I,rw',q⟩
 by_cases h0:0<=i
 ·have hj:i.toNat=j:=by
   rw[seqIndex_of h0 h5]at h1
   exact cR.inj h1
  exact item_listR pl.isList h0 (by lia) (by rw[hj];simpa using ew) fin hs
 ·have hj:(i+(its.toArray.size:Int)).toNat=j:=by
   rw[seqIndex_neg (by lia) h4]at h1
   rw[aA,<-hl]
   exact cR.inj h1
  exact subscriptTail_builtinR (x:=w) pl.isList.typeIs slot_list_getitem.lookup
   (wpAny_getItem_list_neg (Q:=fun r s'=>r=w/\EP X pz σ Q r s') pl.isList (by lia) (by rw[aA]<;>lia) (by lia) (by rw[hj];simpa using ew) ⟨rfl,fin⟩) hs
theorem oG:IxR X (rIxT X.K):=by
 intro value slice pz s σ H x y v u Q I rx ry h hs
 obtain⟨p,xs,i,z,rfl,rfl,hq,he,q⟩:=h
 cases rx
 obtain⟨t,rfl⟩:=ry
 obtain⟨its,r,pl,hz⟩:=I.tuple hq
 obtain⟨j,h1,h2,h3,h4,h5⟩:=wG he
 obtain⟨w,ew,rw'⟩:=r.get h2
 have hl:=r.length
 have hn:=tf
 have fin:EP X pz σ Q w s:=⟨z,H,I,rw',q⟩
 exact subscriptTail_builtinR (x:=w) pl.typeIs slot_tuple_getitem.lookup
  (getItem_tuple (j:=j) (Q:=fun r s'=>r=w/\EP X pz σ Q r s') pl (by lia) (by lia) (by rw[aA,<-hl];exact h1) (by simpa using ew) ⟨rfl,fin⟩) hs
theorem GI:IxR X rIxS:=by
 intro value slice pz s σ H x y v u Q I rx ry h hs
 obtain⟨z,i,c,rfl,rfl,hz,he,q⟩:=h
 obtain⟨t,rfl⟩:=rx
 obtain⟨t',rfl⟩:=ry
 obtain⟨j,h1,h2,h3,h4,h5⟩:=wG he
 have hl:z.cps.toList.length=z.length:=by simp[Str.length]
 rw[hl]at h1 h4 h5
 have hn:=tf
 exact tail_any (typeIs_str s z t) slot_str_getitem.lookup (getItem_str (c:=c) (by
  have e1:decide (i< -(2^63:Int))=false:=jR (by lia)
  have e2:decide (i≥2^63)=false:=jR (by lia)
  rw[e1,e2,Bool.or_false]) (by rw[h1];simpa using h2) ⟨.str ⟨#[c]⟩,H,I.tok _,⟨_,rfl⟩,q⟩) hs
theorem vv (lo hi:Option Int) (n:Nat):(sliceBounds lo hi none n).1=((HT.Internal.sIx n 0 lo:Nat):Int)/\(sliceBounds lo hi none n).2.1=((HT.Internal.sIx n n hi:Nat):Int)/\(sliceBounds lo hi none n).2.2=1:=by
 refine⟨?_,?_,rfl⟩
 ·cases lo with
  |none=>simp[sliceBounds,HT.Internal.sIx]
  |some i=>
   simp only[sliceBounds,HT.Internal.sIx,Option.getD_none,show(1:Int)>0 by decide,if_true]
   by_cases h:i<0
   ·simp only[h,if_true]<;>lia
   ·simp only[h,if_false]<;>lia
 ·cases hi with
  |none=>simp[sliceBounds,HT.Internal.sIx]
  |some i=>
   simp only[sliceBounds,HT.Internal.sIx,Option.getD_none,show(1:Int)>0 by decide,if_true]
   by_cases h:i<0
   ·simp only[h,if_true]<;>lia
   ·simp only[h,if_false]<;>lia
theorem t9 (its:List fQ) (lo hi:Option Int):slicePick its.toArray lo hi none=((its.drop (HT.Internal.sIx its.length 0 lo)).take (HT.Internal.sIx its.length its.length hi-HT.Internal.sIx its.length 0 lo)).toArray:=by
 obtain⟨h1,h2,h3⟩:=vv lo hi its.toArray.size
 unfold slicePick
 rw[h1,h2,h3]
 simp only[sliceRange_one,pick_run,aA]<;>rfl
def rSlL (K:PySem.W.Frag):V->Option Int->Option Int->Hp->VK->Prop:=fun x lo hi H Q=>∃a xs,x= .ref a/\SqL K H a xs/\∀p,H p=none->Q (.ref p) (upd H p (.lst (qM xs lo hi)))
theorem ub:SlR X (rSlL X.K):=by
 intro pz s σ H x v vl vu lo hi sl Q I rx hs pl pu h
 obtain⟨a,xs,rfl,hx,q⟩:=h
 cases rx
 obtain⟨its,r,ht,hz⟩:=I.list hx
 have hlen:=r.length
 refine⟨"list",_,slot_list_getitem.lookup,ht.isList.typeIs,?_⟩
 refine wpAny_getItem_list_slice ht.isList hs pl pu .none (by simp) ?_ (by rw[aA]<;>lia)
 rw[t9,<-hlen]
 refine⟨.ref s.heap.objs.size,_,I.laid (t':=s.toks) (o:= .lst (qM xs lo hi)) (fun b ob q=>fF _ q) (cB _) ?_,rfl,q _ (I.hok.fresh (cB _))⟩
 exact⟨cy (rm xs lo hi) hz,_,0,(r.drop (HT.Internal.sIx xs.length 0 lo)).take (HT.Internal.sIx xs.length xs.length hi-HT.Internal.sIx xs.length 0 lo),fE _ rfl⟩
def Ag:V->Bool
 | .non=>true
 | .bl _=>true
 | .int _=>true
 | .str _=>true
 |_=>false
def eqV:V->V->Bool
 | .non,.non=>true
 | .bl a,.bl b=>a==b
 | .bl a,.int b=>(if a then 1 else 0)==b
 | .int a,.bl b=>a==(if b then 1 else 0)
 | .int a,.int b=>a==b
 | .str a,.str b=>a==b
 |_,_=>false
theorem xP {A:gf} {s:fR} {y x:V} {u v:fQ} (ry:jx y u) (rx:jx x v) (fy:Ag y=true) (fx:Ag x=true):SeqAt.EqAt A s u v (eqV y x):=by
 cases y with
 |non=>
  cases ry
  cases x with
  |non=>cases rx;exact SeqAt.EqAt.same _
  |bl b=>cases rx;exact SeqAt.EqAt.none_bool b
  |int b=>obtain⟨t,rfl⟩:=rx;exact SeqAt.EqAt.none_int b t
  |str b=>obtain⟨t,rfl⟩:=rx;exact SeqAt.EqAt.none_str b t
  |_=>exact absurd (show false=true from fx) eP
 |bl a=>
  cases ry
  cases x with
  |non=>cases rx;exact SeqAt.EqAt.bool_none a
  |bl b=>cases rx;exact SeqAt.EqAt.bool_bool a b
  |int b=>obtain⟨t,rfl⟩:=rx;exact SeqAt.EqAt.bool_int a b t
  |str b=>obtain⟨t,rfl⟩:=rx;exact SeqAt.EqAt.bool_str a b t
  |_=>exact absurd (show false=true from fx) eP
 |int a=>
  obtain⟨t',rfl⟩:=ry
  cases x with
  |non=>cases rx;exact SeqAt.EqAt.int_none a t'
  |bl b=>cases rx;exact SeqAt.EqAt.int_bool a t' b
  |int b=>obtain⟨t,rfl⟩:=rx;exact SeqAt.EqAt.int_int a t' b t
  |str b=>obtain⟨t,rfl⟩:=rx;exact SeqAt.EqAt.int_str a t' b t
  |_=>exact absurd (show false=true from fx) eP
 |str a=>
  obtain⟨t',rfl⟩:=ry
  cases x with
  |non=>cases rx;exact SeqAt.EqAt.str_none a t'
  |bl b=>cases rx;exact SeqAt.EqAt.str_bool a t' b
  |int b=>obtain⟨t,rfl⟩:=rx;exact SeqAt.EqAt.str_int a t' b t
  |str b=>obtain⟨t,rfl⟩:=rx;exact SeqAt.EqAt.str_str a t' b t
  |_=>exact absurd (show false=true from fx) eP
 |_=>exact absurd (show false=true from fy) eP
theorem iP:m9 X (.builtin "len") (fun xs H Q=>∃p ys,xs=[.ref p]/\(SqL X.K H p ys\/SqT X.K H p ys)/\Q (.int ys.length) H):=by
 intro pz s σ H xs us Q I r h
 obtain⟨p,ys,rfl,hq,q⟩:=h
 obtain⟨u,rfl,rx⟩:=nj r
 cases rx
 have hn:=tf
 rcases hq with hq|hq
 ·obtain⟨its,r',pl,hz⟩:=I.list hq
  have hlen:=r'.length
  exact Calls.call_len_list pl.isList (by simp only[aA]<;>lia) ⟨.int ys.length,H,I.tok _,⟨s.toks+ 1,by rw[aA,hlen]⟩,q⟩
 ·obtain⟨its,r',pl,hz⟩:=I.tuple hq
  have hlen:=r'.length
  exact len_tuple pl (by simp only[aA]<;>lia) ⟨.int ys.length,H,I.tok _,⟨s.toks+ 1,by rw[aA,hlen]⟩,q⟩
theorem qD:m9 X (.builtin "len") (fun xs H Q=>∃z,xs=[.str z]/\z.length<=fY/\Q (.int z.length) H):=by
 intro pz s σ H xs us Q I r h
 obtain⟨z,rfl,hz,q⟩:=h
 obtain⟨u,rfl,t,rfl⟩:=nj r
 have hn:=tf
 exact len_str (by lia) ⟨.int z.length,H,I.tok _,⟨_,rfl⟩,q⟩
theorem nv:m9 X (.type "list") (fun xs H Q=>∃p ys,xs=[.ref p]/\(SqL X.K H p ys\/SqT X.K H p ys)/\∀l,H l=none->Q (.ref l) (upd H l (.lst ys))):=by
 intro pz s σ H xs us Q I r h
 obtain⟨p,ys,rfl,hq,q⟩:=h
 obtain⟨u,rfl,rx⟩:=nj r
 cases rx
 have fin:∀(its:List fQ),jI ys its->ys.length<=fY->∀(h':Heap) (c':Nat),(∀b o',s.heap.get? b=some o'->h'.get? b=some o')->
   h'.get? s.heap.objs.size=some {cls:= .type "list",dict:=none,data:= .seq its.toArray c',slots:=#[]}->EP X pz σ Q (.ref s.heap.objs.size) {s with heap:=h'}:=fun its r' hz h' c' kp e=>
  ⟨.ref s.heap.objs.size,_,I.laid (t':=s.toks) kp (cB _) (show jG X.prog X.w _ h' _ (.lst ys)from⟨hz,its,c',r',e⟩),rfl,q _ (I.hok.fresh (cB _))⟩
 rcases hq with hq|hq
 ·obtain⟨its,r',pl,hz⟩:=I.list hq
  have hlen:=r'.length
  obtain⟨o,ho,hc,n,hd⟩:=pl.isList
  exact call_list_seq p (.inl rfl) ho hc hd (fun h' c' kp e=>fin its r' hz h' c' kp e) (by simp only[aA]<;>lia)
 ·obtain⟨its,r',pl,hz⟩:=I.tuple hq
  have hlen:=r'.length
  obtain⟨o,ho,hc,n,hd⟩:=pl
  exact call_list_seq p (.inr rfl) ho hc hd (fun h' c' kp e=>fin its r' hz h' c' kp e) (by simp only[aA]<;>lia)
theorem jg:m9 X (.type "tuple") (fun xs H Q=>∃p ys,xs=[.ref p]/\((SqL X.K H p ys/\∀l,H l=none->Q (.ref l) (upd H l (.tup ys)))\/(SqT X.K H p ys/\Q (.ref p) H))):=by
 intro pz s σ H xs us Q I r h
 obtain⟨p,ys,rfl,h⟩:=h
 obtain⟨u,rfl,rx⟩:=nj r
 cases rx
 rcases h with⟨hq,q⟩|⟨hq,q⟩
 ·obtain⟨its,r',pl,hz⟩:=I.list hq
  have hlen:=r'.length
  refine call_tuple_list pl.isList (fun h' kp=>?_) (by simp only[aA]<;>lia)
  have I1:Inv X pz σ H {s with heap:=h'}:=I.kept (t':=s.toks) kp
  have I2:Inv X pz σ (upd H h'.objs.size (.tup ys)) {s with heap:=h'.push {cls:= .type "tuple",data:= .seq its.toArray}}:=
   I1.laid (t':=s.toks) (fun b o e=>fF _ e) (cB _) (show jG X.prog X.w _ _ _ (.tup ys)from⟨hz,its,r',yU.new _ _⟩)
  exact⟨.ref h'.objs.size,_,I2,rfl,q _ (I1.hok.fresh (cB _))⟩
 ·obtain⟨its,r',pl,hz⟩:=I.tuple hq
  exact call_tuple_same pl ⟨.ref p,H,I,rfl,q⟩
def tyV (K:PySem.W.Frag) (T:String) (x:V) (H:Hp):Prop:=match x with
 | .str _=>T="str"
 | .int _=>T="int"
 | .ref p=>(T="list"/\∃xs,SqL K H p xs)\/(T="tuple"/\∃o,K.lookup p=some o/\o.cls= .type "tuple"/\o.dict=none)\/
   (T="dict"/\((∃kvs,H p=some (.dK kvs))\/∃kvs,H p=some (.dT kvs)))\/(T="set"/\∃S n,H p=some (.set S n))
 |_=>False
theorem DJ {pz:List (fO×Obj)} {σ:St} {H:Hp} {s:fR} {T:String} {x:V} {v:fQ} (I:Inv X pz σ H s) (r:jx x v) (ty:tyV X.K T x H):
  s.TypeIs v T/\∀a,v= .ref a->∃ob,s.heap.get? a=some ob/\ob.dict=none:=by
 cases x with
 |str z=>
  obtain⟨t,rfl⟩:=r
  cases(show T="str" from ty)
  exact⟨typeIs_str s z t,fun _ e=>nomatch e⟩
 |int i=>
  obtain⟨t,rfl⟩:=r
  cases(show T="int" from ty)
  exact⟨typeIs_int s i t,fun _ e=>nomatch e⟩
 |ref p=>
  cases r
  rcases ty with⟨rfl,xs,hq⟩|⟨rfl,o,hk,hc,hd⟩|⟨rfl,hk⟩|⟨rfl,S,n,hk⟩
  ·obtain⟨its,_,pl,_⟩:=I.list hq
   refine⟨pl.isList.typeIs,fun a e=>?_⟩
   cases e
   obtain⟨o,n,e,c,hd,_⟩:=pl
   exact⟨o,e,hd⟩
  ·refine⟨⟨o,I.kIn p o hk,hc⟩,fun a e=>?_⟩
   cases e
   exact⟨o,I.kIn _ o hk,hd⟩
  ·have z:∃o,s.heap.get? p=some o/\o.ExactDict:=by
    rcases hk with⟨kvs,hk⟩|⟨kvs,hk⟩
    ·obtain⟨_,_,_,_,o,_,_,e,ex,_⟩:=I.hok p _ hk
     exact⟨o,e,ex⟩
    ·obtain⟨_,_,_,_,o,_,_,e,ex,_⟩:=I.hok p _ hk
     exact⟨o,e,ex⟩
   obtain⟨o,e,ex⟩:=z
   refine⟨⟨o,e,ex.1⟩,fun a e2=>?_⟩
   cases e2
   exact⟨o,e,ex.2.1⟩
  ·obtain⟨o,_,_,_,e,ex,_⟩:=I.hok p _ hk
   refine⟨⟨o,e,ex.1⟩,fun a e2=>?_⟩
   cases e2
   exact⟨o,e,ex.2.1⟩
 |_=>exact False.elim ty
def tBM0 (K:PySem.W.Frag) (T:String) (r:V->List V->Hp->VK->Prop) (to:TE):TE:=fun σ H Q=>to σ H fun x H1=>tyV K T x H1/\r x [] H1 Q
def tBM (K:PySem.W.Frag) (T:String) (r:V->List V->Hp->VK->Prop) (to:TE) (t:TA):TE:=fun σ H Q=>to σ H fun x H1=>tyV K T x H1/\t σ H1 fun xs H2=>r x xs H2 Q
variable {o e:gS} {es:List gS} {to:TE} {t:TA} {name:Str} {apos cpos:Pos} {T id:String} {r:V->List V->Hp->VK->Prop}
theorem xQ (pa:PlainAttrs T) (slot:Slot T name id) (hty:typeOf (.builtin id)=pure (.type "method_descriptor")) (hm:MtR X id r) (ho:PE X o to)
  (hbase:autoParam (attributeBase o name X.env (eval o X.env)=eval o X.env) L2.Internal.auR._auto_1) (hline:autoParam ((apos.endLine==cpos.line)=true) L2.Internal.auR._auto_1):PE X (.Call (.Attribute o name apos) [] [] cpos) (tBM0 X.K T r to):=by
 intro pz s σ H Q I h
 refine wpAny_Call_method0_late hbase hline (thn (ho pz s σ H _ I h) fun v s1 ⟨x,H1,I1,r1,ty,q1⟩=>?_)
 obtain⟨h1,h2⟩:=DJ I1 r1 ty
 exact⟨T,id,pa,slot,hty,h1,h2,Calls.callWith_builtin rfl (PySem.evalArgs_none (hm pz s1 σ H1 x [] v [] Q I1 r1 .nil q1))⟩
theorem ny (pa:PlainAttrs T) (slot:Slot T name id) (hty:typeOf (.builtin id)=pure (.type "method_descriptor")) (hm:MtR X id r) (ho:PE X o to) (ha:PA X (e::es) t)
  (hbase:autoParam (attributeBase o name X.env (eval o X.env)=eval o X.env) L2.Internal.auR._auto_1)
  (hfew:((gN cpos (gn (e::es) X.env)).all (fun x=>!x.1)&&(backToKw cpos (keywordEach [] X.env)).all (fun x=>x.1.isSome)
   &&decide ((e::es).length+([]:List Keyword).length+(if([]:List Keyword).isEmpty then 0 else 1)<30))=true:=by rfl)
  (hline:autoParam ((apos.endLine==cpos.line)=true) L2.Internal.auR._auto_1) (hs:autoParam (gn (e::es) X.env=(false,eval e X.env)::gn es X.env) L2.Internal.auR._auto_1) (hplain:autoParam ((gN cpos (gn es X.env)).any (·.1)=false) L2.Internal.auR._auto_1):
  PE X (.Call (.Attribute o name apos) (e::es) [] cpos) (tBM X.K T r to t):=by
 intro pz s σ H Q I h
 refine wpAny_Call_method_late hbase hfew hline rfl (thn (ho pz s σ H _ I h) fun v s1 ⟨x,H1,I1,r1,ty,q1⟩=>?_)
 obtain⟨h1,h2⟩:=DJ I1 r1 ty
 refine⟨T,id,pa,slot,hty,h1,h2,?_⟩
 have hA:=ha cpos pz s1 σ H1 _ I1 q1
 rw[hs]at hA⊢
 refine Calls.callWith_builtin (by show(false||(gN cpos (gn es X.env)).any (·.1))=false;rw[hplain]<;>rfl) (Calls.evalArgs_plain ?_)
 exact thn hA fun us s2 ⟨vs,H2,I2,r2,q2⟩=>hm pz s2 σ H2 x vs v us Q I2 r1 r2 q2
end
def MtM (X:Cx) (id:String) (r:V->List V->Hp->VK->Prop):Prop:=
 ∀(pz:List (fO×Obj)) (s:fR) (σ:St) (H:Hp) (x:V) (xs:List V) (v:fQ) (us:List fQ) (Q:VK),Inv X pz σ H s->jx x v->jI xs us->r x xs H Q->
  f6 (f7 X.prog X.w) X.A (call (.builtin id) (v::us)) (EP X pz σ Q) X.xe s
theorem jI.one:∀{x:V} {us:List fQ},jI [x] us->∃u,us=[u]/\jx x u
 |_,_,.cons r .nil=>⟨_,rfl,r⟩
theorem jI.zero:∀{us:List fQ},jI [] us->us=[]
 |_,.nil=>rfl
theorem jI.dropLast {xs:List V} {us:List fQ} (h:jI xs us):jI xs.dropLast us.dropLast:=by
 induction h with
 |nil=>exact .nil
 |cons r t ih=>
  cases t with
  |nil=>exact .nil
  |cons q t'=>exact .cons r ih
theorem zb {α:Type} (l:List α):l.eraseIdx (l.length-1)=l.dropLast:=by
 induction l with
 |nil=>rfl
 |cons a r ih=>
  cases r with
  |nil=>rfl
  |cons b r=>
   have e:(a::b::r).length-1=((b::r).length-1)+ 1:=by
    have h1:(a::b::r).length=r.length+ 2:=rfl
    have h2:(b::r).length=r.length+ 1:=rfl
    lia
   rw[e,List.eraseIdx_cons_succ,ih]
   all_goals rfl
section
variable {X:Cx} {pz:List (fO×Obj)} {σ:St} {H:Hp} {s:fR} {l b:fO} {xs ys zs:List V}
theorem Inv.lset {its its':List fQ} {n:Nat} {f:Array fQ->Array fQ} {t':Nat} (I:Inv X pz σ H s) (hH:H l=some (.lst xs))
  (e:s.heap.get? l=some {cls:= .type "list",data:= .seq its.toArray n}) (hf:f its.toArray=its'.toArray) (hv:jI ys its') (hz:ys.length<=fY):
  Inv X pz σ (upd H l (.lst ys)) {s with heap:=s.heap.update l (Obj.mapSeq f),toks:=t'}:=by
 have q:=PySem.IsL.update e f
 rw[hf]at q
 refine I.write (x:=l) (e:=l) (by rw[hH];exact trivial) (.inl rfl) (fun b' u hb hu=>(fH s.heap (Obj.mapSeq f) (Ne.symm hb)).trans hu) ⟨_,q⟩ ?_
 exact⟨hz,its',_,hv,q⟩
theorem Inv.lnew {its:List fQ} {t':Nat} (I:Inv X pz σ H s) (hv:jI ys its) (hz:ys.length<=fY):
  Inv X pz σ (upd H s.heap.objs.size (.lst ys)) {s with heap:=s.heap.push {cls:= .type "list",data:= .seq its.toArray},toks:=t'}:=
 I.laid (fun _ _ q=>fF _ q) (cB _) ⟨hz,its,0,hv,fE _ rfl⟩
theorem Inv.fresh (I:Inv X pz σ H s):H s.heap.objs.size=none:=I.hok.fresh (cB _)
theorem Inv.lstM (I:Inv X pz σ H s) (hH:H l=some (.lst xs)):xs.length<=fY/\∃(its:List fQ) (n:Nat),jI xs its/\xs.length=its.length/\s.heap.get? l=some {cls:= .type "list",data:= .seq its.toArray n}:=by
 obtain⟨z,its,n,r,e⟩:=I.hok l _ hH
 exact⟨z,its,n,r,r.length,e⟩
end
section
variable {X:Cx}
def Ah:V->List V->Hp->VK->Prop:=fun x vs H Q=>∃l xs y,x= .ref l/\vs=[y]/\H l=some (.lst xs)/\xs.length<fY/\Q .non (upd H l (.lst (xs++[y])))
theorem jh:MtM X "list.append" Ah:=by
 intro pz s σ H x vs v us Q I rx rv h
 obtain⟨l,xs,y,rfl,rfl,hH,hz,q⟩:=h
 cases rx
 obtain⟨u,rfl,ru⟩:=rv.one
 obtain⟨z,its,n,r,hl,e⟩:=I.lstM hH
 refine call_meets F.slot_list_append ⟨_,e,rfl⟩ F.entry_list_append (F.args_list_append_2 _ _) (PySem.list_append l its.toArray n u (by rw[aA];lia)) ⟨e,?_⟩
 refine⟨.non,_,I.lset (its':=its++[u]) hH e (by simp) (r.append (.cons ru .nil)) ?_,rfl,q⟩
 rw[aQ,aY]
 lia
def rPop:V->List V->Hp->VK->Prop:=fun x vs H Q=>∃l xs y,x= .ref l/\vs=[]/\H l=some (.lst xs)/\xs[xs.length-1]?=some y/\Q y (upd H l (.lst xs.dropLast))
theorem DK:MtM X "list.pop" rPop:=by
 intro pz s σ H x vs v us Q I rx rv h
 obtain⟨l,xs,y,rfl,rfl,hH,hy,q⟩:=h
 cases rx
 have hus:=rv.zero
 subst hus
 obtain⟨z,its,n,r,hl,e⟩:=I.lstM hH
 obtain⟨u,hu,ru⟩:=r.get hy
 have hy':its.toArray[its.toArray.size-1]?=some u:=by
  show its.toArray[its.length-1]?=some u
  rw[<-eX,<-hl]
  exact hu
 refine call_meets F.slot_list_pop ⟨_,e,rfl⟩ F.entry_list_pop (F.args_list_pop_1 _) (MeetsSeq.list_pop_last l its.toArray n u hy' (by rw[aA];lia)) ⟨e,?_⟩
 refine⟨y,_,I.lset (its':=its.dropLast) hH e ?_ r.dropLast ?_,ru,q⟩
 ·show its.toArray.eraseIdxIfInBounds (its.toArray.size-1)=its.dropLast.toArray
  rw[aA,List.eraseIdxIfInBounds_toArray,zb]
 ·rw[aZ]
  lia
def rCat:R2:=fun x y H Q=>∃l b xs zs,x= .ref l/\y= .ref b/\H l=some (.lst xs)/\H b=some (.lst zs)/\xs.length+zs.length<=fY/\∀p,H p=none->Q (.ref p) (upd H p (.lst (xs++zs)))
theorem qE:OpR X (gw .Add) rCat:=by
 intro pz s σ H x y v u Q I rx ry h
 obtain⟨l,b,xs,zs,rfl,rfl,hH,hB,hz,q⟩:=h
 cases rx
 cases ry
 obtain⟨z,its,n,r,hl,e⟩:=I.lstM hH
 obtain⟨z2,its2,n2,r2,hl2,e2⟩:=I.lstM hB
 refine PySem.P.add_list e e2 ?_ (by rw[aA,aA];lia)
 have ea:its.toArray++its2.toArray=(its++its2).toArray:=by simp
 rw[ea]
 exact⟨.ref _,_,I.lnew (t':=s.toks) (r.append r2) (by rw[aQ];lia),rfl,q _ I.fresh⟩
end
section
variable {prog:f9} {w:gm} {A:gf} {E:fQ->fR->Prop} {s:fR}
set_option maxRecDepth 100000 in
end
section
variable {X:Cx}
end
end L2.Internal
namespace Att.Internal
open PySem PySem.W PySem.Calls PyProof.Rows
theorem rn {P:Params} {h:Heap}:∀(ns:List Int) (vs:List fQ),WellAll P h vs (ns.map WData.int)->IntsAre vs ns:=by
 intro ns
 induction ns with
 |nil=>
  intro vs w
  rw[aV]at w
  cases w
  exact .nil
 |cons n ns ih=>
  intro vs w
  rw[aD]at w
  cases w with
  |cons a b=>
   cases a
   exact .cons _ _ (ih _ b)
theorem Ai {l:OpenLaw} {n:Nat} (hn:l.most=some n) {P:Params} {h:Heap} {args:List WData} {vals:List fQ}
  (hpre:l.row.toRowW.claim.pre args=true) (hwl:WellAll P h vals args):
  ∃a vs ns,vals=[Value.ref a]/\args=[WData.list (ns.map WData.int)]/\h.get? a=some {cls:= .type "list",data:= .seq vs.toArray}/\IntsAre vs ns/\ns.length<=n:=by
 have hsh:WShape.hasAll [] args [.list .int]=true:=(pre_splitW hpre).1
 have hc:l.pre.holds [] {args:=args}=true:=(pre_splitW hpre).2
 obtain⟨d,r,rfl,h1,h2⟩:=hasAllW_cons hsh
 obtain rfl:=hasAllW_nil h2
 obtain⟨xs,rfl,h3⟩:=hasW_list h1
 obtain⟨ns,rfl⟩:=items_int h3
 have hlen:ns.length<=n:=by
  unfold OpenLaw.pre at hc
  have h4:(WTm.not (.lt (.lit (.int (n:Int))) (.len (.arg 0)))).holds [] {args:=[.list (ns.map .int)]}=true:=by
   have h4:=(holds_andW hc).1
   rw[hn]at h4
   exact h4
  have h5:=condW_of h4 (w_not (w_lt w_lit (w_len_list (w_arg rfl))))
  rw[aE]at h5
  refine Nat.le_of_not_lt fun q=>?_
  have q':(n:Int)<((ns.length:Nat):Int):=by lia
  first
   |(rw[jJ q']at h5;exact absurd h5 (by decide))
   |(simp at h5;lia)
 cases hwl with
 |cons w1 w2=>
  cases w2
  cases w1 with
  |list ho hall=>exact⟨_,_,ns,rfl,rfl,ho,rn ns _ hall,hlen⟩
theorem Aj (l:OpenLaw) (args:List WData):l.row.toRowW.claim.post args (.bool true) args=true:=
 postW_of (r:=l.row.toRowW) (X:=(true==true))
  (show WShape.has [] (.bool true) .bool=true by first|rfl|decide|simp[WShape.has,WShape.arms,WShape.armsAll])
  (show(WTm.eq .res (.lit (.bool true))).value [] {args:=args,res:=some (.bool true),after:=args}=some (.bool (true==true))from w_eq_bool (w_res rfl) w_lit) rfl
theorem attach_call {l:OpenLaw} {n:Nat} {q:f9} {loose:List Str} {XP:(Str->Option fQ)->Heap->Prop} {YP:gm->Heap->Prop} {d:DefRec}
  (hn:l.most=some n) (hdf:d.params.defaults=[])
  (call:∀(w:gm) (s₀ s₁:fR) (mg mb:Str->Option fQ) (fa:fO) (o:Obj) (pm cd doc:fQ) (a:fO) (vs:List fQ) (ns:List Int),
   Ground q loose [] XP w s₀ mg mb s₁.heap->YP w s₁.heap->
   s₁.heap.get? fa=some o->o.data= .func (docDef d.name d.params d.body d.scope pm cd doc)->s₁.heap.CodeRec cd d.name->mg d.name=some (.ref fa)->
   s₁.heap.get? a=some {cls:= .type "list",data:= .seq vs.toArray}->IntsAre vs ns->ns.length<=n->s₁.gens=#[]->
   codeAny (f7 l.prog w) callerA (.call (.ref fa) ⟨[.ref a],[]⟩) (fun r s'=>r= .ok (.ret (.bool true))/\OldK s₁.heap s'.heap/\s'.os=s₁.os/\AllBare s'.gens) s₁):
  WalkO q loose XP YP l.row.toRowW d [] (fun f vs=>PySem.call f vs):=by
 intro w s₀ s₁ mg mb G Y fa o pm cd doc dV kV ho hd hcd hD hmg hg args vals as hpre hlay hrd hwl hlo
 obtain rfl:dV= .none:=Dflts.none hD hdf
 obtain rfl:kV= .none:=Dflts.noKw hD
 obtain⟨a,vs,ns,rfl,rfl,hobj,hints,hlen⟩:=Ai hn hpre hwl
 refine enter_call (codeAny_mono (call w s₀ s₁ mg mb fa o pm cd doc a vs ns G Y ho (fd_plain hd) hcd hmg hobj hints hlen hg) fun r s' hq=>?_)
 obtain⟨rfl,h2,h3,h4⟩:=hq
 exact⟨.inl ⟨.bool true,.bool true,[],rfl,fun _=>rfl,.bool true,Aj l _,fun _=>⟨List.Pairwise.nil,fun _ hm=>(nomatch hm)⟩⟩,h2,h3,h4⟩
section
variable {prog:f9} {w:gm} {A:gf} {E:fQ->fR->Prop} {s:fR} {K:Frag}
end
end Att.Internal
namespace L2.Internal
open PySem PySem.Spec PyProof.Rows
theorem vw:∀{vs:List fQ} {ns:List Int},IntsAre vs ns->jI (ns.map V.int) vs
 |_,_,.nil=> .nil
 |_,_,.cons n t h=> .cons ⟨t,rfl⟩ (vw h)
def Ir (H:Hp):Prop:=∀b,H b=none\/∃o xs,H b=some (.frz o (.lst xs))
theorem Cq {P:f9} {w:gm} {K:PySem.W.Frag} {mg mb:Str->Option fQ} {CX:CXT} {k:Nat} {fa a:fO} {fd:gu} {x:Str} {sp:Sp} {s₁:fR} {vs:List fQ} {ns:List Int}
  (KX:K.In s₁.heap) (hns:s₁.heap.Ns gr mg) (hb:s₁.heap.Ns builtinsNs mb) (hbb:∀x:Str,x≠"__name__"->mb x=gx x) (hlim:s₁.heap.NoLimit) (hg:s₁.gens=#[])
  (ha:s₁.heap.get? a=some {cls:= .type "list",data:= .seq vs.toArray}) (hi:IntsAre vs ns) (hl:ns.length<=fY) (hr:ou k callerA)
  (F:∀base:Heap,K.In base->base.Ns gr mg->vf P w K mg base CX k fa fd [x] sp) (hbind:∀(s:fR) (u:fQ),BindsTo s fd ⟨[u],[]⟩ [(x,u)])
  (hsp:∀H:Hp,Ir H->SqL K H a (ns.map V.int)->sp [.ref a] H (fun v _=>v= .bl true) fun _ _ _=>False)
  (hCX:∀H e s',CX [] H s₁ (fun _ _ _=>False) e s'->False):
  codeAny (f7 P w) callerA (.call (.ref fa) ⟨[.ref a],[]⟩) (fun r s'=>r= .ok (.ret (.bool true))/\OldK s₁.heap s'.heap/\s'.os=s₁.os/\AllBare s'.gens) s₁:=by
 have rv:=vw hi
 have lenV:=hi.length
 have core:∀H:Hp,Ir H->SqL K H a (ns.map V.int)->HOk P w H s₁.heap->(∀b,H b≠none->b=a)->(H a≠none->K.lookup a=none)->
   codeAny (f7 P w) callerA (.call (.ref fa) ⟨[.ref a],[]⟩) (fun r s'=>r= .ok (.ret (.bool true))/\OldK s₁.heap s'.heap/\s'.os=s₁.os/\AllBare s'.gens) s₁:=by
  intro H hO hS hok hA hK
  have base_of:∀{b:fO} {o:Obj},s₁.heap.get? b=some o->H b=none->(BY s₁.heap H).get? b=some o:=fun e n=>BZ e n
  have noA:∀{b:fO} {o:Obj} {es:Array DictEntry} {ep:Nat},s₁.heap.get? b=some o->o.data= .dict es ep->H b=none:=fun{b o es ep} e d=>by
   cases q:H b with
   |none=>rfl
   |some u=>
    have e':b=a:=hA b (by rw[q];simp)
    subst e'
    rw[ha]at e;cases e
    have d':Data.seq vs.toArray _=Data.dict es ep:=d
    cases d'
  have nsK:∀{b:fO} {m:Str->Option fQ},s₁.heap.Ns b m->(BY s₁.heap H).Ns b m:=fun{b m} ⟨o,es,ep,e,d,r⟩=>⟨o,es,ep,base_of e (noA e d),d,r⟩
  have hKb:K.In (BY s₁.heap H):=fun b o e=>base_of (KX b o e) (by
   cases q:H b with
   |none=>rfl
   |some u=>
    have e':b=a:=hA b (by rw[q];simp)
    subst e'
    rw[hK (by rw[q];simp)]at e;cases e)
  have hM:Mod K mg (BY s₁.heap H):=⟨hKb,nsK hns,⟨mb,nsK hb,hbb⟩,let⟨mc,h1,h2⟩:=hlim;⟨mc,nsK h1,h2⟩⟩
  have e0:EE P w K mg (BY s₁.heap H) callerA [] s₁ H:=⟨rfl,hM,fun b o e=>Ew e,cD (zG _ _),trivial,fun b hb=>absurd (show b∈([]:List fO)from hb) (by simp),hok,.of_eq hg⟩
  refine codeAny_mono ((F _ hKb (nsK hns)).run callerA [] s₁ H ⟨[.ref a],[]⟩ [.ref a] [.ref a] _ _ hr e0 (hbind s₁ (.ref a)) (.cons rfl .nil) (hsp H hO hS)) fun r s' h=>?_
  cases r with
  |error e=>exact(hCX H e s' h).elim
  |ok fl=>
   cases fl with
   |next=>exact False.elim h
   |brk=>exact False.elim h
   |cont=>exact False.elim h
   |ret u=>
    obtain⟨v,H',os,bare,un,hok',r',q⟩:=h
    have q':v= .bl true:=q
    subst q'
    obtain rfl:u=Value.bool true:=r'
    refine⟨rfl,OldK.of_keep fun b o e=>?_,os,bare⟩
    cases q:H b with
    |none=>exact un.keep b o e q (by intro z;exact absurd (show b∈([]:List fO)from z) (by simp)) (by simp)
    |some u=>
     rcases hO b with z|⟨ob,xs,z⟩
     ·rw[q]at z;cases z
     ·have z2:=un.frzs b ob _ z
      obtain⟨e1,_⟩:=hok b _ z
      obtain⟨e2,_⟩:=hok' b _ z2
      rw[e]at e1;cases e1
      exact e2
 cases hk:K.lookup a with
 |some o=>
  have e:=KX a o hk
  rw[ha]at e
  cases e
  refine core (fun _=>none) (fun _=> .inl rfl) (.inr ⟨_,vs.toArray,_,hk,rfl,rfl,rfl,by rw[aA,lenV];exact hl,by simpa using rv⟩) (fun b u z=>by have z':(none:Option HO)=some u:=z;cases z') (fun b z=>absurd rfl z) fun z=>absurd rfl z
 |none=>
  refine core (fun b=>if b=a then some (.frz {cls:= .type "list",data:= .seq vs.toArray} (.lst (ns.map V.int)))else none) (fun b=>?_) (.inl (.inr ⟨{cls:= .type "list",data:= .seq vs.toArray},ja rfl⟩)) (fun b u z=>?_) (fun b z=>?_) fun _=>hk
  ·by_cases hb:b=a
   ·exact .inr ⟨_,_,ja hb⟩
   ·exact .inl (iT hb)
  ·by_cases hb:b=a
   ·have z':=(ja hb).symm.trans z
    cases z'
    subst hb
    exact⟨ha,by rw[aE];exact hl,vs,_,rv,ha⟩
   ·have z':=(iT hb).symm.trans z
    cases z'
  ·by_cases hb:b=a
   ·exact hb
   ·exact absurd (iT hb) z
theorem walk_of {l:PySem.W.OpenLaw} {n k:Nat} {q:f9} {loose:List Str} {XP:(Str->Option fQ)->Heap->Prop} {YP:gm->Heap->Prop} {d:DefRec} {K:Params->PySem.W.Frag} {CX:gm->CXT} {sp:gm->Sp} {x:Str}
  (hn:l.most=some n) (hn2:n<=fY) (hdf:d.params.defaults=[]) (hr:ou k callerA)
  (hY:∀(w:gm) (h:Heap),YP w h->(K w.params).In h)
  (F:∀(w:gm) (mg:Str->Option fQ) (fa:fO) (h:Heap),(K w.params).In h->h.Ns gr mg->mg d.name=some (.ref fa)->
   ∃fd:gu,(∀(s:fR) (u:fQ),BindsTo s fd ⟨[u],[]⟩ [(x,u)])/\
    ∀base:Heap,(K w.params).In base->base.Ns gr mg->vf l.prog w (K w.params) mg base (CX w) k fa fd [x] (sp w))
  (hsp:∀(w:gm) (H:Hp) (a:fO) (ns:List Int),ns.length<=n->Ir H->SqL (K w.params) H a (ns.map V.int)->sp w [.ref a] H (fun v _=>v= .bl true) fun _ _ _=>False)
  (hCX:∀(w:gm) (H:Hp) (s:fR) (e:fQ) (s':fR),CX w [] H s (fun _ _ _=>False) e s'->False):
  PySem.W.WalkO q loose XP YP l.row.toRowW d [] (fun f vs=>PySem.call f vs):=by
 refine Att.Internal.attach_call hn hdf fun w s₀ s₁ mg mb fa o pm cd doc a vs ns G Y ho hd hcd hmg hobj hints hlen hg=>?_
 have KX:=hY w _ Y
 obtain⟨fd,hb,hF⟩:=F w mg fa _ KX G.T.g hmg
 exact Cq KX G.T.g G.T.b G.T.builtins G.T.nolimit hg hobj hints (cy hlen hn2) hr hF hb (fun H hO hS=>hsp w H a ns hlen hO hS) fun H e s'=>hCX w H s₁ e s'
def jr (s:gR) (j:Nat):gR:=match s with
 | .ClassDef _ _ _ body _ _ _ _ _ _ _=>body.getD j (.Pass ⟨0,0,0,0⟩)
 |_=> .Pass ⟨0,0,0,0⟩
def mG (s:gR):Arguments:=match s with
 | .FunctionDef _ a _ _ _ _ _ _ _ _=>a
 |_=>{posonlyargs:=[],args:=[],vararg:=none,kwonlyargs:=[],kw_defaults:=[],kwarg:=none,defaults:=[]}
def lG (s:gR):List gR:=match s with
 | .FunctionDef _ _ b _ _ _ _ _ _ _=>b
 |_=>[]
def iB (s:gR):gQ:=match s with
 | .FunctionDef _ _ _ _ _ _ sc _ _ _=>sc
 |_=>{kind:= .function,names:=[],isGenerator:=false,isCoroutine:=false}
abbrev CX0:CXT:=fun _ _ _ _ _ _=>False
abbrev E0:XK:=fun _ _ _=>False
theorem jq {X:Cx}:qC CX0 X E0:=fun _ _ _ _ _ _ _ h=>h.elim
structure Fun (K:PySem.W.Frag) (x qual:Str) (st:gR) (f:fO) (fd:gu):Prop where
 ex:∃(oc:fQ) (od:Option fO) (kV doc pm:fQ) (an:Option fO) (cdv ct:fQ) (osl:Array (Option fQ)),
  fd=dR x qual (mG st) (lG st) (iB st) .none kV doc pm an cdv ct/\K.lookup f=some ⟨oc,od,.func fd,osl⟩/\dS K cdv qual=true
 kp:dE K (.ref f)=true
section
variable {P:f9} {w:gm} {K:PySem.W.Frag} {mg:Str->Option fQ} {base:Heap}
theorem Fun.ok {x qual:Str} {st:gR} {f:fO} {fd:gu} {N ps:List Str} {k:Nat} {sp:Sp} (F:Fun K x qual st f fd) (S:iL N ps (iB st)) (len:∀vs H Q E,sp vs H Q E->vs.length=ps.length)
  (hbody:∀(cdv:fQ) (A:gf) (outer:List Env) (s:fR) (H:Hp) (vs:List V) (Q:VK) (E:XK),ou k (A.deeper (envOfC qual (iB st) s.heap.objs.size f cdv))->sp vs H Q E->
   ∃t,PSs (EG CX0 P w K mg base N qual (iB st) f cdv A outer s H E).nox (lG st) t/\t {nx:=fun _ H'=>Q .non H',rt:=Q} (tY N vs) H):vf P w K mg base CX0 (k+ 1) f fd ps sp:=by
 obtain⟨oc,od,kV,doc,pm,an,cdv,ct,osl,rfl,lk,hcd⟩:=F.ex
 refine Ik lk hcd S len fun A outer s H vs Q E hr hsp=>?_
 obtain⟨t,h,q⟩:=hbody cdv A outer s H vs Q E hr hsp
 exact⟨t,h.nox,q⟩
theorem Fun.binds {x qual:Str} {st:gR} {f:fO} {fd:gu} {ps:List Str} (F:Fun K x qual st f fd)
  (h:∀(kV doc pm:fQ) (an:Option fO) (cdv ct:fQ) (us:List fQ),us.length=ps.length->bindArgs (dR x qual (mG st) (lG st) (iB st) .none kV doc pm an cdv ct) ⟨us,[]⟩=pure (ps.zip us)):qK K fd ps []:=by
 obtain⟨oc,od,kV,doc,pm,an,cdv,ct,osl,rfl,lk,hcd⟩:=F.ex
 exact .all (h kV doc pm an cdv ct)
theorem vy {x qual:Str} {st:gR} {f:fO} {oc:fQ} {od an:Option fO} {osl:Array (Option fQ)} {kV doc pm cdv ct:fQ} (l:K.lookup f=some ⟨oc,od,.func (dR x qual (mG st) (lG st) (iB st) .none kV doc pm an cdv ct),osl⟩)
  (c:dS K cdv qual=true) (k:dE K (.ref f)=true):Fun K x qual st f (dR x qual (mG st) (lG st) (iB st) .none kV doc pm an cdv ct):=⟨⟨oc,od,kV,doc,pm,an,cdv,ct,osl,rfl,l,c⟩,k⟩
end
theorem vz {A:gf} {k:Nat} (hr:ou k A):A.units+ 1<gP:=Nat.lt_of_le_of_lt (Nat.add_le_add_left (by decide:1<=64) _) hr.units
section
variable {X:Cx}
theorem pv (i:Nat) {x:Str} {pos:Pos} (hN:autoParam (X.N[i]?=some x) L2.Internal.auR._auto_1) (hv:Vis X.env.scope x:=by first|exact Or.inl rfl|exact Or.inr (.inl rfl)|exact Or.inr (.inr rfl)) (hd:autoParam ((x==("__debug__":Str))=false) L2.Internal.auD._auto_1)
  (hcd:autoParam ((x==("__classdict__":Str))=false) L2.Internal.auD._auto_1):PE X (.Name x pos) (Jv i):=Gm hN hv hd hcd
end
theorem lD {A B:Prop} (h:B):if false=true then A else B:=by
 rw[iT eP]
 exact h
theorem mj {A B:Prop} (h:A):if true=true then A else B:=by
 rw[ja rfl]
 exact h
theorem sE {c A B:Prop} [Decidable c] (h1:c->A) (h2:¬c->B):if c then A else B:=by
 by_cases h:c
 ·rw[ja h]
  exact h1 h
 ·rw[iT h]
  exact h2 h
def iE (H H':Hp):Prop:=∀b o,H b=some o->H' b=some o
theorem iE.refl (H:Hp):iE H H:=fun _ _ h=>h
theorem iE.trans {H H1 H2:Hp} (a:iE H H1) (b:iE H1 H2):iE H H2:=fun c o h=>b c o (a c o h)
theorem iE.free {H H':Hp} (e:iE H H') {l:fO} (h:H' l=Option.none):H l=Option.none:=by
 cases q:H l with
 |none=>rfl
 |some o=>
  rw[e l o q]at h
  cases h
theorem iE.seq {K:PySem.W.Frag} {H H':Hp} {a:fO} {xs:List V} (e:iE H H') (h:SqL K H a xs):SqL K H' a xs:=by
 rcases h with(h|⟨o,h⟩)|h
 ·exact .inl (.inl (e _ _ h))
 ·exact .inl (.inr ⟨o,e _ _ h⟩)
 ·exact .inr h
section
variable {X:Cx}
end
section
variable {κ:Type} [DecidableEq κ]
end
section
variable {X:Cx}
theorem Cr {x:Str} {a:fO} {pos:Pos} (hg:Gl X x) (hm:X.mg x=some (.ref a)) (hd:autoParam ((x==("__debug__":Str))=false) L2.Internal.auD._auto_1):PE X (.Name x pos) (tC (.ref a)):=Ex hg hm (show jx (.ref a) _ from rfl) hd
theorem oH {x:Str} {n:String} {pos:Pos} (hg:Gl X x) (hm:X.mg x=none) (hv:gx x=some (.type n)) (hn:autoParam (x≠"__name__") L2.Internal.auD._auto_1) (hd:autoParam ((x==("__debug__":Str))=false) L2.Internal.auD._auto_1):PE X (.Name x pos) (tC (.ty n)):=Ey hg hm hv (show jx (.ty n) _ from rfl) hn hd
end
theorem jO:gx "len"=some (.builtin "len"):=iJ
theorem DM:gx "all"=some (.builtin "all"):=iJ
theorem DN:gx "sum"=some (.builtin "sum"):=iJ
theorem jz:gx "isinstance"=some (.builtin "isinstance"):=iJ
theorem Ak:gx "int"=some (.type "int"):=iJ
theorem DO:gx "str"=some (.type "str"):=iJ
theorem ER:gx "bool"=some (.type "bool"):=iJ
theorem oP:gx "list"=some (.type "list"):=iJ
theorem jZ:gx "tuple"=some (.type "tuple"):=iJ
theorem uc:gx "dict"=some (.type "dict"):=iJ
def Al:List gS->Option (List Str)
 |[]=>some []
 | .Constant (.str x) _ _::r=>(Al r).map (x::·)
 |_=>none
def GJ (xs:List Str):TA:=fun _ H Q=>Q (xs.map V.str) H
theorem ES {X:Cx} {es:List gS}:∀{xs:List Str},Al es=some xs->PA X es (GJ xs):=by
 induction es with
 |nil=>
  intro xs h
  have e:xs=[]:=(cR.inj h).symm
  subst e
  exact hI
 |cons c r ih=>
  intro xs h
  unfold Al at h
  split at h
  ·cases ‹_=[]›
  ·rename_i x k p r' e'
   cases e'
   obtain⟨ys,hy,e⟩:=cY.mp h
   subst e
   intro pos pz s σ H Q I q
   exact gY (te:=tC (.str x)) (t:=GJ ys) iC (ih hy) rfl pos pz s σ H Q I q
  ·cases h
def Its (x:Str):It:=⟨fun i _=>i<x.cps.size,fun i H v H'=>H'=H/\∃c,x.cps[i]?=some c/\v= .str ⟨#[c]⟩,fun i _=>i=x.cps.size⟩
theorem xR {P:f9} {w:gm} {K:PySem.W.Frag} {tg:gS} (it:fO) (T:String) (x:Str) (t:Tok)
  (hT:["enumerate","zip","dict_itemiterator","dict_reverseitemiterator","odict_iterator","itertools.zip_longest","itertools.pairwise"].contains T=false)
  (W:∀A:gf,A.handled=none->Walks P w A it [it] [it] x.cps.size (SignAt x) (fun i h=>h.IsStrIter it T x t i))
  (hself:∀(A:gf) (i:Nat) (s:fR) (Q:fQ->fR->Prop) (E:fQ->fR->Prop),s.heap.IsStrIter it T x t i->Q (.ref it) s->f6 (f7 P w) A (pyIter (.ref it)) Q E s):
  DC P w K tg (Its x) [it] it (fun i h=>h.IsStrIter it T x t i) where
 mem:=by simp
 obj:=fun i h st b hb=>by
  have e:b=it:=by simpa using hb
  subst e
  obtain⟨o,e,c,d⟩:=st
  exact⟨o,e,fun v z=>by rw[d]at z;cases z⟩
 keep:=fun i h h' st k=>by
  obtain⟨o,e,r⟩:=st
  exact⟨o,k it (by simp) o e,r⟩
 item:=by
  intro X hP hw hK hc i pz s σ H E I hf st hg
  subst hP hw hK
  obtain⟨f0,f1,f2,f3,f4,f5⟩:=hf it (by simp)
  refine(W X.A (I.ok.hd hc)).item i s _ _ hg st fun v h' tk hv st' kk=>?_
  obtain⟨c,u,hc',rfl⟩:=hv
  have I1:Inv X pz σ H {s with heap:=h',toks:=tk}:=I.turned (fun b o hb e=>kk b o (by simpa using hb) e) f0 f1 f3 f4 f5
  obtain⟨o,e,c1,d⟩:=id st'
  exact⟨_,rfl,Ca (s:={s with heap:=h',toks:=tk}) e c1 d hT ⟨.str ⟨#[c]⟩,H,I1,⟨u,rfl⟩,⟨rfl,c,hc',rfl⟩,st',fun b hb=>(hf b hb).1⟩⟩
 done:=by
  intro X hP hw hK hc i pz s σ H E I hf st hg
  subst hP hw hK
  obtain⟨f0,f1,f2,f3,f4,f5⟩:=hf it (by simp)
  have hg':i=x.cps.size:=hg
  subst hg'
  exact(W X.A (I.ok.hd hc)).done s _ _ st fun h' tk kk=>⟨rfl,I.turned (fun b o hb e=>kk b o (by simpa using hb) e) f0 f1 f3 f4 f5⟩
 self:=fun A i s Q E st h=>hself A i s Q E st h
section
variable {X:Cx} {tg:gS}
def iStr (tl:TE):TI:=fun σ H R=>tl σ H fun v H1=>∃x,v= .str x/\R (Its x) H1
theorem GK {l:gS} {tl:TE} (hl:PE X l tl):PI X tg l (iStr tl):=by
 intro pz s σ H R I h
 refine thn (hl pz s σ H _ I h) fun v s1 ⟨y,H1,I1,r1,q1⟩=>?_
 obtain⟨x,e,q⟩:=q1
 subst e
 obtain⟨t,rfl⟩:=r1
 have fp:∀b∈[s1.heap.objs.size],wj X pz H1 b:=fun b hb=>by
  have e:b=s1.heap.objs.size:=by simpa using hb
  subst e
  exact I1.fpOk (cB _) (I1.hok.fresh (cB _))
 cases ha:x.cps.all (·<128)
 ·refine wpAny_pyIter_wide ha ?_
  exact⟨s1.heap.objs.size,[s1.heap.objs.size],_,_,H1,rfl,I1.kept (t':=s1.toks) fun b o e=>fF _ e,
   xR _ "str_iterator" x t (by decide) (fun A hA=>Walks.strWide hA _ x t) (fun _ _ _ _ _ st h=>wpAny_pyIter_striter_wide st h),⟨_,fE _ rfl,rfl,rfl⟩,fp,q⟩
 ·refine wpAny_pyIter_ascii ha ?_
  exact⟨s1.heap.objs.size,[s1.heap.objs.size],_,_,H1,rfl,I1.kept (t':=s1.toks) fun b o e=>fF _ e,
   xR _ "str_ascii_iterator" x t (by decide) (fun A hA=>Walks.strAscii hA _ x t) (fun _ _ _ _ _ st h=>wpAny_pyIter_striter_ascii st h),⟨_,fE _ rfl,rfl,rfl⟩,fp,q⟩
end
def blk (X:Cx) (N:List Str) (scope:gQ) (cl:List (Str×fO)) (C:fO) (s₀:fR) (H₀:Hp) (ex:List fO) (pz:List (fO×Obj)):Cx:=
 {X with N:=N,s₀:=s₀,H₀:=H₀,env:=compEnvC scope cl C X.env,outer:=X.stack,stack:=X.stack,ex:=ex,fn:=fun _=>false,pn:=X.pn++pz,xe:=fun _ _=>False}
def PTs (X:Cx) (cs:List gS) (t:TT):Prop:=
 ∀(pz:List (fO×Obj)) (s:fR) (σ:St) (H:Hp) (Q:Bool->Hp->Prop),Inv X pz σ H s->t σ H Q->
  f6 (f7 X.prog X.w) X.A (forIn cs true fun c r=>if r=true then do let ok<-isTrue c X.env (eval c X.env);pure (ForInStep.yield ok)else pure (ForInStep.yield r)) (TP X pz σ Q) X.xe s
def rp:TT:=fun _ H Q=>Q true H
theorem jL {X:Cx}:PTs X [] rp:=fun pz s σ H Q I h=>fW ⟨H,I,h⟩
structure qe (X:Cx) (N:List Str) (scope:gQ) (cl:List (Str×fO)) (f:St->St) (i:Nat) (x:Str):Prop where
 kind:scope.kind= .function
 cell:∀y∈scope.names,y.2≠ .cell
 names:∀y∈scope.names,y.2= .local->scope.names.lookup y.1=some .local
 clos:gX scope X.env=pure cl
 lk:∀y c,cl.lookup y=some c->X.env.cells.lookup y=some c
 has:∀y,((relabel scope X.env).names.lookup y=some .cell\/(relabel scope X.env).names.lookup y=some .free)->∃c,cl.lookup y=some c
 nd:N.Nodup
 ix:N[i]?=some x
 loc:scope.names.lookup x=some .local
 len:∀σ,σ.length=X.N.length->(f σ).length=N.length
 val:∀(σ:St) (k:Nat) (y:Str) (v:V),N[k]?=some y->(f σ)[k]?=some (some v)->∃j:Nat,X.N[j]?=some y/\σ[j]?=some (some v)/\X.env.scope.names.lookup y=some .cell/\(relabel scope X.env).names.lookup y=some .cell
theorem Am {X:Cx} {N:List Str} {scope:gQ} {cl:List (Str×fO)} {f:St->St} {i:Nat} {x:Str} (B:qe X N scope cl f i x) {pz:List (fO×Obj)} {σ:St} {H:Hp} {s:fR} {h₁:Heap} {tk:Nat} {m:Str->Option fQ} {ex:List fO}
  (I:Inv X pz σ H s) (hex:∀b∈ex,wj X pz H b/\b<s.heap.objs.size) (keep:∀b o,s.heap.get? b=some o->h₁.get? b=some o) (hn:h₁.Ns s.heap.objs.size m):
  Inv (blk X N scope cl s.heap.objs.size s H ex pz) [] (f σ) H {s with heap:=h₁,toks:=tk}:=by
 have nst:∀b,b≠X.env.locals->b∉X.fs->b∉frs X.stack:=fun b h1 h2 hb=>(aj.mp (I.stkSub b hb)).elim h1 h2
 have ltC:∀y c,X.env.cells.lookup y=some c->c<s.heap.objs.size:=fun y c e=>by
  obtain⟨v,o,ho,_⟩:=I.cell y c e
  exact fC ho
 refine⟨⟨I.ok.mod,B.kind,I.ok.glob,I.ok.blt,cB _,fun y z c h1 h2=>I.ok.inj y z c (B.lk y c h1) (B.lk z c h2),fun y hy=>B.has y hy,fun y c h=>(nomatch h),I.ok.hd,I.ok.frames,.inl rfl,fun b hb=>?_,I.bs,cy I.ok.bsz I.sz,fun b o e hb=>?_,fun b hb=>?_,I.stack,I.stkFree⟩,
  rfl,I.bare,Un.kept keep,⟨m,hn,fun k y v e1 e2 e3=>?_⟩,fun y c e=>?_,I.hok.fresh (cB _),fun y c e=>I.freeC y c (B.lk y c e),fun p hp=>?_,I.hok.kept keep,B.len σ I.len⟩
 ·obtain⟨⟨_,_,_,_,hc,_⟩,lt⟩:=hex b hb
  exact⟨cx lt,fun y c e=>hc y c (B.lk y c e)⟩
 ·obtain⟨⟨_,_,_,h4,_,_⟩,_⟩:=hex b hb
  rcases h4 with z|z
  ·exact I.ok.noex b o e z
  ·exact absurd (cq (fC (I.ok.bs b o e).1) z) (cw _)
 ·obtain⟨⟨_,h2,h3,_,_,_⟩,_⟩:=hex b hb
  exact nst b h2 h3
 ·obtain⟨j,h1,h2,h3,h4⟩:=B.val σ k y v e1 e2
  obtain⟨m',_,hl⟩:=I.loc
  obtain⟨u,r,l⟩:=hl j y v h1 h2 (.inr (.inl h3))
  refine⟨u,r,?_⟩
  rcases l with⟨hk,_⟩|⟨_,c,hc,z⟩
  ·have hk':X.env.scope.names.lookup y=some .local:=hk
   rw[h3]at hk'
   cases hk'
  ·obtain⟨c',hc'⟩:=B.has y (.inl h4)
   have e:c'=c:=cR.inj ((B.lk y c' hc').symm.trans hc)
   subst e
   obtain⟨o,ho,hd⟩:=z
   exact .inr ⟨.inl h4,c',hc',o,keep _ o ho,hd⟩
 ·obtain⟨v,o,ho,hd⟩:=I.cell y c (B.lk y c e)
  exact⟨v,o,keep _ o ho,hd⟩
 ·rw[aF]at hp
  obtain⟨e,n,ne,nf,d⟩:=I.pin p hp
  exact⟨keep _ _ e,n,cx (fC e),nst _ ne nf,d⟩
theorem jn {env:Env}:∀{names:List (Str×NameKind)} {x:Str} {k:NameKind},
  (names.map fun(n,k)=>if(k==NameKind.free&&env.scope.kind== .function&&env.kindOf n==some .cell)then(n,NameKind.cell)else(n,k)).lookup x=some k->
  ∃k0,names.lookup x=some k0/\(k=k0\/(k0= .free/\k= .cell))
 |[],_,_,h=>by simp at h
 |(n,k0)::r,x,k,h=>by
  have ih:=@jn env r x k
  have h:aC x ((if(k0==NameKind.free&&env.scope.kind== .function&&env.kindOf n==some .cell)=true then(n,NameKind.cell)else(n,k0))::(r.map fun(n,k)=>if(k==NameKind.free&&env.scope.kind== .function&&env.kindOf n==some .cell)then(n,NameKind.cell)else(n,k)))=some k:=h
  cases hx:x==n with
  |true=>
   by_cases hc:(k0==NameKind.free&&env.scope.kind== .function&&env.kindOf n==some .cell)=true
   ·rw[ja hc]at h
    simp only[ba,hx]at h⊢
    have hf:k0= .free:=by
     have hc':=hc
     simp only[eR]at hc'
     exact eq_of_beq hc'.1.1
    exact⟨k0,rfl,.inr ⟨hf,(cR.inj h).symm⟩⟩
   ·rw[iT hc]at h
    simp only[ba,hx]at h⊢
    exact⟨k0,rfl,.inl (cR.inj h).symm⟩
  |false=>
   have h2:(r.map fun(n,k)=>if(k==NameKind.free&&env.scope.kind== .function&&env.kindOf n==some .cell)then(n,NameKind.cell)else(n,k)).lookup x=some k:=by
    by_cases hc:(k0==NameKind.free&&env.scope.kind== .function&&env.kindOf n==some .cell)=true
    ·rw[ja hc]at h;simp only[ba,hx]at h;exact h
    ·rw[iT hc]at h;simp only[ba,hx]at h;exact h
   obtain⟨k1,e1,e2⟩:=ih h2
   exact⟨k1,by simp only[ba,hx];exact e1,e2⟩
theorem km {env:Env} (hk:env.scope.kind= .function):∀{names:List (Str×NameKind)} {x:Str},env.scope.names.lookup x=some .cell->names.lookup x=some .free->
  (names.map fun(n,k)=>if(k==NameKind.free&&env.scope.kind== .function&&env.kindOf n==some .cell)then(n,NameKind.cell)else(n,k)).lookup x=some .cell
 |[],_,_,h=>by simp at h
 |(n,k0)::r,x,hc,h=>by
  have ih:=@km env hk r x hc
  show aC x ((if(k0==NameKind.free&&env.scope.kind== .function&&env.kindOf n==some .cell)=true then(n,NameKind.cell)else(n,k0))::_)=_
  cases hx:x==n with
  |true=>
   simp only[ba,hx]at h
   cases h
   have e:x=n:=eq_of_beq hx
   have hc':env.kindOf n=some .cell:=by rw[<-e];exact hc
   simp[ba,hx,hk,hc']
  |false=>
   simp only[ba,hx]at h
   by_cases hq:(k0==NameKind.free&&env.scope.kind== .function&&env.kindOf n==some .cell)=true
   ·rw[ja hq];simp only[ba,hx];exact ih h
   ·rw[iT hq];simp only[ba,hx];exact ih h
theorem Ge {X:Cx} {scope:gQ} {x:Str} (hk:scope.kind= .function) (hn:∀p∈scope.names,p.2≠ .cell/\p.2≠ .free) (hl:∀y∈scope.names,y.2= .local->scope.names.lookup y.1=some .local)
  (hx:scope.names.lookup x=some .local) (hc:gX scope X.env=pure []):qe X [x] scope [] (fun _=>[none]) 0 x where
 kind:=hk
 cell:=fun y hy=>(hn y hy).1
 names:=hl
 clos:=hc
 lk:=fun y c h=>by simp at h
 has:=fun y h=>by
  rcases h with h|h
  ·obtain⟨k0,e,z⟩:=jn h
   have m:=hn _ (PySem.mem_of_lookup e)
   rcases z with z|⟨z,_⟩
   ·exact absurd z.symm m.1
   ·exact absurd z m.2
  ·obtain⟨k0,e,z⟩:=jn h
   have m:=hn _ (PySem.mem_of_lookup e)
   rcases z with z|⟨z,_⟩
   ·exact absurd z.symm m.2
   ·exact absurd z m.2
 nd:=by simp
 ix:=rfl
 loc:=hx
 len:=fun _ _=>rfl
 val:=fun σ k y v h1 h2=>by
  cases k with
  |zero=>simp at h2
  |succ k=>simp at h2
def LcP (J:It) (i:Nat) (tt:TT) (te:TE) (Q:VK) (τ:St) (H1:Hp) (D:fO):Prop:=
 ∃W:Nat->Nat->St->Hp->Prop,(∃m,W 0 m τ (upd H1 D (.lst [])))/\∀k m σ' H2,W k m σ' H2->
  (J.stop k H2/\Q (.ref D) H2)\/(J.go k H2/\∀v H3,J.yld k H2 v H3->tt (σ'.set i (some v)) H3 fun ok H4=>if ok=true
   then te (σ'.set i (some v)) H4 fun y H5=>∃xs,H5 D=some (.lst xs)/\xs.length<fY/\∃m',m'<m/\W (k+ 1) m' (σ'.set i (some v)) (upd H5 D (.lst (xs++[y])))
   else ∃m',m'<m/\W (k+ 1) m' (σ'.set i (some v)) H4)
def tLC (wi:TI) (f:St->St) (i:Nat) (tt:TT) (te:TE):TE:=fun σ H Q=>wi σ H fun J H1=>∀D,H1 D=none->LcP J i tt te Q (f σ) H1 D
theorem An {X:Cx} {elt iter:gS} {x:Str} {px:Pos} {ifs:List gS} {scope:gQ} {pos pos':Pos} {N:List Str} {cl:List (Str×fO)} {f:St->St} {i:Nat} {wi:TI} {tt:TT} {te:TE} {use:Option (fQ->Sem Unit)} {Qp:fQ->fR->Prop}
  {pz:List (fO×Obj)} {s:fR} {σ:St} {H:Hp} {Q:VK}
  (hc:X.calm=true) (B:qe X N scope cl f i x) (hi:PI X (.Name x px) iter wi)
  (htt:∀C s₀ H₀ ex pz,PTs (blk X N scope cl C s₀ H₀ ex pz) ifs tt) (hte:∀C s₀ H₀ ex pz,PE (blk X N scope cl C s₀ H₀ ex pz) elt te)
  (hs:∀x,gG iter X.env x=pure x) (I:Inv X pz σ H s) (h:tLC wi f i tt te σ H Q)
  (fin:∀(fl:Flow) (s3 s6:fR) (H3 H5:Hp) (d:fO) (m:Str->Option fQ),Inv X pz σ H3 s3->Inv X pz σ H5 s6->H5 s3.heap.objs.size=none->s6.heap.Ns s3.heap.objs.size m->Q (.ref d) H5->
   compPost (f7 X.prog X.w) X.A X.xe use Qp (.ref d) s3.heap.objs.size (.ok fl) s6):
  f6 (f7 X.prog X.w) X.A (comprehension (.ListComp elt [⟨.Name x px,iter,ifs,0⟩] scope pos) scope X.env pos' (newList []) false (eval iter X.env) use) Qp X.xe s:=by
 refine wpAny_comprehension_free (use:=use) rfl hs B.clos B.kind B.names (thn (hi pz s σ H _ I h) fun xv s1 h1=>thn h1 fun itv s2 h2=>?_)
 obtain⟨it,fp,tn,J,H2,rfl,I2,T,st2,f2,q⟩:=h2
 have hD:H2 s2.heap.objs.size=none:=I2.fresh
 obtain⟨W,⟨m0,w0⟩,turn⟩:=q _ hD
 refine gA (wpAny_newFunctionEnv B.cell (by intro y hy;simp at hy) (fun h₁ hns₁ hsb₁=>?_) B.kind)
 have I3:Inv X pz σ (upd H2 s2.heap.objs.size (.lst [])) {s2 with heap:=s2.heap.push {cls:= .type "list",data:= .seq ([]:List fQ).toArray}}:=I2.lnew (its:=[]) (ys:=[]) (t':=s2.toks) .nil (cC _)
 have lt2:∀b∈fp,b<s2.heap.objs.size:=fun b hb=>by
  obtain⟨o,ho,_⟩:=T.obj _ _ st2 b hb
  exact fC ho
 have fp3:∀b∈fp,wj X pz (upd H2 s2.heap.objs.size (.lst [])) b:=fun b hb=>by
  refine⟨?_,(f2 b hb).2⟩
  rw[hX (cx (lt2 b hb))]
  exact(f2 b hb).1
 generalize hs3:({s2 with heap:=s2.heap.push {cls:= .type "list",data:= .seq ([]:List fQ).toArray}}:fR)=s3 at I3 hns₁ hsb₁⊢
 have eh:s2.heap.push {cls:= .type "list",data:= .seq ([]:List fQ).toArray}=s3.heap:=by rw[<-hs3]
 have lt3:∀b∈fp,b<s3.heap.objs.size:=fun b hb=>by
  rw[<-eh,fG]
  exact cG (lt2 b hb)
 have old:∀b o,s3.heap.get? b=some o->h₁.get? b=some o:=fun b o e=>hsb₁.extBut b o (cx (fC e)) (fF _ e)
 have I4:=Am (tk:=s3.toks+([]:List (Str×fQ)).length) B I3 (ex:=fp) (fun b hb=>⟨fp3 b hb,lt3 b hb⟩) old hns₁
 have st4:tn 0 h₁:=T.keep _ _ _ st2 fun b _ o e=>old b o (by rw[<-eh];exact fF _ e)
 have fpB:∀{H':Hp},(∀b∈fp,H' b=none)->∀b∈fp,wj (blk X N scope cl s3.heap.objs.size s3 (upd H2 s2.heap.objs.size (.lst [])) fp pz) [] H' b:=fun{H'} hn b hb=>by
  obtain⟨_,g2,g3,g4,g5,g6⟩:=f2 b hb
  refine⟨hn b hb,cx (lt3 b hb),fun z=>(aj.mp (I3.stkSub b z)).elim g2 g3,.inl hb,fun y c e=>g5 y c (B.lk y c e),fun p hp=>?_⟩
  rw[aF]at hp
  exact g6 p hp
 have loop:∀s4:fR,s4={s3 with heap:=h₁,toks:=s3.toks+([]:List (Str×fQ)).length}->
   codeAny (f7 X.prog X.w) X.A (.compLoop (.ListComp elt [⟨.Name x px,iter,ifs,0⟩] scope pos) 0 (.ref it) (.ref s2.heap.objs.size) (compEnvC scope cl s3.heap.objs.size X.env))
    (compPost (f7 X.prog X.w) X.A X.xe use Qp (.ref s2.heap.objs.size) s3.heap.objs.size) s4:=by
  rintro s4 rfl
  refine codeAny_compLoop_tests (I:=fun n s'=>∃k σ' H',Inv (blk X N scope cl s3.heap.objs.size s3 (upd H2 s2.heap.objs.size (.lst [])) fp pz) [] σ' H' s'/\tn k s'.heap/\(∀b∈fp,H' b=none)/\W k n σ' H') ?_ m0
   ⟨0,f σ,_,I4,st4,fun b hb=>(fp3 b hb).1,w0⟩
  rintro n s5 ⟨k,σ5,H5,I5,st5,fr5,w5⟩
  rcases turn k n σ5 H5 w5 with⟨stop,qn⟩|⟨go,step⟩
  ·refine fX (T.done (blk X N scope cl s3.heap.objs.size s3 (upd H2 s2.heap.objs.size (.lst [])) fp pz) rfl rfl rfl hc k [] s5 σ5 H5 _ I5 (fpB fr5) st5 stop) (fun r s6 h6=>?_) fun _ _ z=>z
   obtain⟨hr,I6⟩:=h6
   subst hr
   obtain⟨m6,hn6,_⟩:=id I6.loc
   have I7:Inv X pz σ H5 s6:=I3.call' (s':=s6) (ch:=fp) I6.os I6.base I6.hok I6.bare fun b hb=>by
    obtain⟨_,g2,g3,g4,g5,g6⟩:=f2 b hb
    exact⟨g4,g2,g5,g6⟩
   exact fin _ s3 s6 _ H5 _ m6 I3 I7 I6.free hn6 qn
  ·refine fX (T.item (blk X N scope cl s3.heap.objs.size s3 (upd H2 s2.heap.objs.size (.lst [])) fp pz) rfl rfl rfl hc k [] s5 σ5 H5 _ I5 (fpB fr5) st5 go) (fun r s6 h6=>?_) fun _ _ z=>z
   obtain⟨u,hr,h6⟩:=h6
   subst hr
   show f6 _ _ (pure () >>= fun _=>assign (.Name x px) (compEnvC scope cl s3.heap.objs.size X.env) u) _ _ s6
   refine fV (fX (show f6 _ _ (pure ()) _ _ s6 from h6) (fun _ s7 h7=>?_) fun _ _ z=>z)
   obtain⟨v,H7,I7,r7,y7,st7,fr7⟩:=h7
   have I7':=I7.pinned (fpB fr7) (T.obj _ _ st7)
   refine wpAny_assign_Name (ot (X:=blk X N scope cl s3.heap.objs.size s3 (upd H2 s2.heap.objs.size (.lst [])) fp pz) I7' B.nd B.ix (.inl (lookup_relabel_local B.loc)) r7 (fun s8 I8=>?_) (.inr (lookup_relabel_local B.loc)))
   have back:∀{σ9:St} {H9:Hp} {s9:fR},Inv (blk X N scope cl s3.heap.objs.size s3 (upd H2 s2.heap.objs.size (.lst [])) fp pz) ([]++sZ fp s7.heap) σ9 H9 s9->(∃m',m'<n/\W (k+ 1) m' σ9 H9)->
     ∃m',m'<n/\∃k σ' H',Inv (blk X N scope cl s3.heap.objs.size s3 (upd H2 s2.heap.objs.size (.lst [])) fp pz) [] σ' H' s9/\tn k s9.heap/\(∀b∈fp,H' b=none)/\W k m' σ' H':=fun{σ9 H9 s9} I9 q9=>by
    obtain⟨m',hm,w9⟩:=q9
    refine⟨m',hm,k+ 1,σ9,H9,I9.unpinned,T.keep _ _ _ st7 fun b hb o e=>(I9.pin (b,o) (az _ (az _ (lC hb e)))).1,fun b hb=>?_,w9⟩
    obtain⟨o,e,d⟩:=T.obj _ _ st7 b hb
    exact(I9.pin (b,o) (az _ (az _ (lC hb e)))).2.1
   refine fX (htt _ _ _ _ _ _ s8 _ H7 _ I8 (step v H7 y7)) (fun ok s9 h9=>?_) fun _ _ z=>False.elim z
   obtain⟨H9,I9,q9⟩:=h9
   cases ok with
   |false=>
    rw[iT eP]
    rw[iT eP]at q9
    exact back I9 q9
   |true=>
    rw[ja rfl]
    rw[ja rfl]at q9
    refine fX (hte _ _ _ _ _ _ s9 _ H9 _ I9 q9) (fun y s10 h10=>?_) fun _ _ z=>False.elim z
    obtain⟨v10,H10,I10,r10,xs,hx10,hz,q10⟩:=h10
    refine fX (jh (X:=blk X N scope cl s3.heap.objs.size s3 (upd H2 s2.heap.objs.size (.lst [])) fp pz) _ s10 _ H10 (.ref s2.heap.objs.size) [v10] _ [y] (fun _ H11=>H11=upd H10 s2.heap.objs.size (.lst (xs++[v10]))) I10 rfl (.cons r10 .nil) ⟨_,xs,v10,rfl,rfl,hx10,hz,rfl⟩) (fun _ s11 h11=>?_) fun _ _ z=>False.elim z
    obtain⟨_,H11,I11,_,e11⟩:=h11
    subst e11
    exact back I11 q10
 exact codeAny_compStart_list (loop _ rfl) (T.self _ 0 _ _ _ st4 (loop _ rfl))
theorem qf {X:Cx} {elt iter:gS} {x:Str} {px:Pos} {ifs:List gS} {scope:gQ} {pos:Pos} {N:List Str} {cl:List (Str×fO)} {f:St->St} {i:Nat} {wi:TI} {tt:TT} {te:TE}
  (hc:X.calm=true) (B:qe X N scope cl f i x) (hi:PI X (.Name x px) iter wi)
  (htt:∀C s₀ H₀ ex pz,PTs (blk X N scope cl C s₀ H₀ ex pz) ifs tt) (hte:∀C s₀ H₀ ex pz,PE (blk X N scope cl C s₀ H₀ ex pz) elt te)
  (hs:autoParam (∀x,gG iter X.env x=pure x) L2.Internal.auI._auto_1):PE X (.ListComp elt [⟨.Name x px,iter,ifs,0⟩] scope pos) (tLC wi f i tt te):=by
 intro pz s σ H Q I h
 rw[eval_ListComp]
 refine An hc B hi htt hte hs I h fun fl s3 s6 H3 H5 d m I3 I7 fr hn qn=>?_
 refine⟨m,hn,fun h' sb=>⟨.ref d,H5,?_,rfl,qn⟩⟩
 exact Inv.turned (h':=h') (t':=s6.toks) (it:=s3.heap.objs.size) I7 (fun b o hb e=>(sb.2 b hb).trans e) fr (cA I3.lt) (.inr I3.sz) (fun z c e q=>by
  obtain⟨v,q2⟩:=I3.cell z c e
  exact absurd (q▸q2.lt) (cw _)) fun p hp q=>absurd (q▸fC (I3.pin p hp).1) (cw _)
section
variable {X:Cx}
theorem Ct {bs:List Bool}:∀{us:List fQ},jI (bs.map V.bl) us->us=bs.map Value.bool:=by
 induction bs with
 |nil=>intro us r;rw[aV]at r;cases r;rfl
 |cons n ns ih=>
  intro us r
  rw[aD]at r
  cases r with
  |cons r1 r2=>
   cases(show _=Value.bool n from r1)
   rw[ih r2]
   rfl
theorem zc (bs:List Bool):((aa bs.length).all fun i=>(bs[i]?).getD true)=bs.all id:=by
 induction bs with
 |nil=>rfl
 |cons b r ih=>
  rw[aB,bc,bf,List.all_map,bf,<-ih]
  rfl
theorem zd {h h':Heap} {o:Obj} (hk:∀b x,b∉[h.objs.size]->(h.push o).get? b=some x->h'.get? b=some x):∀b x,h.get? b=some x->h'.get? b=some x:=
 fun b x e=>hk b x (fun hm=>by rw[bh.mp hm]at e;exact cw _ (fC e)) (fF _ e)
theorem xS (hc:X.calm=true):m9 X (.builtin "all") (fun xs H Q=>∃(a:fO) (bs:List Bool),xs=[.ref a]/\SqL X.K H a (bs.map V.bl)/\Q (.bl (bs.all id)) H):=by
 intro pz s σ H xs us Q I r h
 obtain⟨a,bs,rfl,ha,q⟩:=h
 obtain⟨u,rfl,ru⟩:=nj r
 cases ru
 obtain⟨its,rv,pl,hz⟩:=I.list ha
 have ei:=Ct rv
 subst ei
 have hl:s.heap.IsList a (bs.map Value.bool).toArray:=pl.isList
 have hlt:a<s.heap.objs.size:=by obtain⟨_,e,_⟩:=hl;exact fC e
 refine call_all_walk (wpAny_pyIter_list hl ?_)
 refine⟨s.heap.objs.size,[s.heap.objs.size,a],[s.heap.objs.size],(bs.map Value.bool).toArray.size,_,_,fun i=>(bs[i]?).getD true,rfl,Walks.list (A:=X.A.in1) (I.ok.hd hc) _ a (cx hlt) (bs.map Value.bool).toArray,
  ⟨⟨_,fE _ rfl,rfl,rfl⟩,hl.push _⟩,fun i v s' Q' E' hP hQ=>?_,fun h' tk hk=>?_⟩
 ·have hv:(bs.map Value.bool)[i]?=some v:=by simpa using hP
  rw[aO]at hv
  cases e:bs[i]? with
  |none=>rw[e]at hv;cases hv
  |some b=>
   rw[e]at hv
   have e2:v=Value.bool b:=(cR.inj hv).symm
   subst e2
   simp only[e,Option.getD_some]at hQ
   exact gF hQ
 ·have e:((aa (bs.map Value.bool).toArray.size).all fun i=>(bs[i]?).getD true)=bs.all id:=by
   rw[aA,aE];exact zc bs
  rw[e]
  exact⟨.bl (bs.all id),H,I.kept (zd hk),rfl,q⟩
def rSlS:V->Option Int->Option Int->Hp->VK->Prop:=fun x lo hi H Q=>∃z,x= .str z/\z.length<=fY/\Q (.str (Txt.slice z lo hi)) H
theorem DP:SlR X rSlS:=by
 intro pz s σ H x v vl vu lo hi sl Q I rx hs pl pu h
 obtain⟨z,rfl,hz,q⟩:=h
 obtain⟨t,rfl⟩:=rx
 refine⟨"str",_,F.slot_str_getitem.lookup,typeIs_str _ _ _,?_⟩
 have fin:∀t' k,EP X pz σ Q (.str (Txt.slice z lo hi) t') {s with toks:=k}:=fun t' k=>⟨.str _,H,I.tok k,⟨t',rfl⟩,q⟩
 cases pl with
 |none=>
  cases pu with
  |none=>exact wpAny_getItem_str_slice (l:=none) (u:=none) (st:=none) hs rfl (post_val_or_str ⟨cy (Txt.slice_le z _ _) hz,fun t' k=>fin t' k⟩)
  |int j u=>exact wpAny_getItem_str_slice (l:=none) (u:=some (j,u)) (st:=none) hs rfl (post_val_or_str ⟨cy (Txt.slice_le z _ _) hz,fun t' k=>fin t' k⟩)
 |int i u'=>
  cases pu with
  |none=>exact wpAny_getItem_str_slice (l:=some (i,u')) (u:=none) (st:=none) hs rfl (post_val_or_str ⟨cy (Txt.slice_le z _ _) hz,fun t' k=>fin t' k⟩)
  |int j u=>exact wpAny_getItem_str_slice (l:=some (i,u')) (u:=some (j,u)) (st:=none) hs rfl (post_val_or_str ⟨cy (Txt.slice_le z _ _) hz,fun t' k=>fin t' k⟩)
theorem ow:m9 X (.builtin "isinstance") (fun xs H Q=>∃x v c t b,xs=[x,v]/\(∀u,jx v u->u=c)/\wy X.K H x t/\PySem.W.kitOne X.K t c=some b/\Q (.bl b) H):=by
 intro pz s σ H xs us Q I r h
 obtain⟨x,v,c,t,b,rfl,hc,ht,hk,q⟩:=h
 obtain⟨u,u',rfl,ru,ru'⟩:=yY r
 cases hc u' ru'
 exact zZ I ru ht hk fun tk=>⟨.bl b,H,I.tok tk,rfl,q⟩
end
section
variable {X:Cx}
open Builtin Builtin.Str in
def PE1 (X:Cx) (e:gS) (t:TE):Prop:=
 ∀(pz:List (fO×Obj)) (s:fR) (σ:St) (H:Hp) (Q:VK),Inv X pz σ H s->1<=s.toks->t σ H Q->f6 (f7 X.prog X.w) X.A (eval e X.env) (fun u s'=>1<=s'.toks/\EP X pz σ Q u s') X.xe s
theorem PE.one {e:gS} {t:TE} (h:PE X e t):PE1 X e t:=fun pz s σ H Q I ht hw=>fX (wpAny_toks_of ht (h pz s σ H Q I hw)) (fun _ _ z=>z) fun _ _ z=>z.2
end
section
variable {X:Cx} {st:gR} {rest:List gR} {t u:TS}
end
section
variable {P:f9} {w:gm} {H H':Hp} {h h':Heap} {a:fO} {o:HO}
theorem jG.there (x:jG P w H h a o):∃ob,h.get? a=some ob:=by
 cases o with
 |lst xs=>obtain⟨_,_,_,_,e⟩:=x;exact⟨_,e⟩
 |tup xs=>obtain⟨_,_,_,⟨ob,e,_⟩⟩:=x;exact⟨ob,e⟩
 |dK kvs=>obtain⟨_,_,_,_,ob,_,_,e,_⟩:=x;exact⟨ob,e⟩
 |dT kvs=>obtain⟨_,_,_,_,ob,_,_,e,_⟩:=x;exact⟨ob,e⟩
 |set S n=>obtain⟨ob,_,_,_,e,_⟩:=x;exact⟨ob,e⟩
 |ins C dx fs=>obtain⟨_,_,_,e,_⟩:=x;exact⟨_,e⟩
 |own y=>exact x
 |xd fs=>obtain⟨_,⟨ob,_,_,e,_⟩,_⟩:=x;exact⟨ob,e⟩
 |rng lo hi=>obtain⟨_,_,_,e⟩:=x;exact⟨_,e⟩
 |frz ob u=>obtain⟨e,_⟩:=x;exact⟨_,e⟩
 |tbl ps=>exact⟨_,x⟩
 |met f y=>exact⟨_,x⟩
 |ext φ=>exact x.2.1
end
structure Fl (P:f9) (w:gm) (outer:List Env) (H:Hp) (s:fR) (B:Heap) (H':Hp) (s':fR):Prop where
 os:s'.os=s.os
 bare:AllBare s'.gens
 un:Un (frs outer) [] H H' s.heap s'.heap
 hok:HOk P w H' s'.heap
 stay:B.StaysIn s'.heap
 trk:∀b u,H' b=some u->∃o,B.get? b=some o
 old:∀b o,s.heap.get? b=some o->b∉frs outer->∃o',B.get? b=some o'
section
variable {X:Cx} {pz:List (fO×Obj)} {σ:St} {H H':Hp} {s s':fR} {B h:Heap}
theorem Inv.track {ea:fO} {o:HO} (I:Inv X pz σ H s) (hn:H ea=none) (h0:X.s₀.heap.get? ea=none) (hL:ea≠X.env.locals) (hC:∀x c,X.env.cells.lookup x=some c->c≠ea) (hP:∀p∈X.pn++pz,p.1≠ea)
  (new:jG X.prog X.w (upd H ea o) s.heap ea o):Inv X pz σ (upd H ea o) s:=by
 have ne:∀b u,H b=some u->b≠ea:=fun b u e z=>by rw[z,hn]at e;cases e
 refine⟨I.ok,I.os,I.bare,⟨I.base.keep,I.base.slot,fun b ob e n hx=>?_,I.base.there,fun b xs e=>?_,fun b ob u e=>?_,fun b ps e=>?_⟩,I.loc,I.cell,?_,fun x c e=>?_,fun p hp=>?_,fun b u e=>?_,I.len⟩
 ·rw[hX (fun z=>by rw[z,h0]at e;cases e)]
  exact I.base.free b ob e n hx
 ·have e1:=I.base.tups b xs e
  rw[hX (ne b _ e1)]
  exact e1
 ·have e1:=I.base.frzs b ob u e
  rw[hX (ne b _ e1)]
  exact e1
 ·obtain⟨more,e1⟩:=I.base.tbls b ps e
  exact⟨more,by rw[hX (ne b _ e1)];exact e1⟩
 ·rw[hX (Ne.symm hL)]
  exact I.free
 ·rw[hX (hC x c e)]
  exact I.freeC x c e
 ·obtain⟨e,n,n2,nf,d⟩:=I.pin p hp
  exact⟨e,by rw[hX (hP p hp)];exact n,n2,nf,d⟩
 ·by_cases hb:b=ea
  ·subst hb
   rw[hG]at e
   cases e
   exact new
  ·rw[hX hb]at e
   exact(I.hok b u e).stay (fun _ _ _ q=>q) (fun c z=>by rw[hX (ne c _ z)];exact z) fun c xs z=>by rw[hX (ne c _ z)];exact z
end
section
variable {P:f9} {w:gm} {K:PySem.W.Frag} {mg:Str->Option fQ} {base:Heap} {N:List Str} {qual:Str} {scope:gQ} {f:fO} {cd:fQ} {A:gf} {outer:List Env} {s₀:fR} {H₀:Hp} {E:XK}
end
section
variable {X:Cx} {C:fO} {E:XK} {x:Str} {np cpos pos:Pos} {e:gS} {es:List gS} {t:TA}
end
section
variable {P:f9} {w:gm} {K:PySem.W.Frag} {mg:Str->Option fQ} {base:Heap}
end
section
variable {X:Cx} {pz:List (fO×Obj)} {σ:St} {H:Hp} {s:fR}
end
section
variable {X:Cx} {CX:CXT} {k:Nat} {f Y:fO} {fd:gu} {ps:List Str} {sp:Sp} {dvs:List V} {ds:List fQ} {E:XK} {x y n:Str} {p pos pos' py hpos tpos:Pos} {e:gS} {es:List gS} {t:TA} {b₀:gR} {body:List gR} {tb:TS} {i:Nat}
end
section
variable {X:Cx} {e:gS} {es:List gS} {te:TE} {pos:Pos}
end
section
variable {X:Cx}
end
inductive Dt where
 |flat (v:V)
 |tup (l:List Dt)
 |lst (l:List Dt)
mutual
inductive At (K:PySem.W.Frag) (H:Hp):V->Dt->Prop where
 |flat {v:V} (h:Ag v=true):At K H v (.flat v)
 |tup {a:fO} {xs:List V} {ds:List Dt} (h:SqT K H a xs) (hs:Ats K H xs ds):At K H (.ref a) (.tup ds)
 |lst {a:fO} {xs:List V} {ds:List Dt} (h:SqL K H a xs) (hs:Ats K H xs ds):At K H (.ref a) (.lst ds)
inductive Ats (K:PySem.W.Frag) (H:Hp):List V->List Dt->Prop where
 |nil:Ats K H [] []
 |cons {x:V} {d:Dt} {xs:List V} {ds:List Dt} (h:At K H x d) (hs:Ats K H xs ds):Ats K H (x::xs) (d::ds)
end
mutual
def eqD:Dt->Dt->Bool
 | .flat a,.flat b=>eqV a b
 | .tup l,.tup m=>rq l m
 | .lst l,.lst m=>rq l m
 |_,_=>false
def rq:List Dt->List Dt->Bool
 |[],[]=>true
 |x::xs,y::ys=>eqD x y&&rq xs ys
 |_,_=>false
end
mutual
def qa:Dt->Dt->Bool
 | .flat _,.flat _=>true
 | .tup l,.tup m=>rA l m
 | .lst l,.lst m=>if l.length=m.length then rA l m else true
 |_,_=>false
def rA:List Dt->List Dt->Bool
 |x::xs,y::ys=>qa x y&&rA xs ys
 |_,_=>true
end
mutual
def jQ:Dt->Nat
 | .flat _=>0
 | .tup l=>jA l+ 1
 | .lst l=>jA l+ 1
def jA:List Dt->Nat
 |[]=>0
 |x::xs=>max (jQ x) (jA xs)
end
theorem Ats.length {K:PySem.W.Frag} {H:Hp}:∀{xs:List V} {ds:List Dt},Ats K H xs ds->xs.length=ds.length
 |_,_,.nil=>rfl
 |_,_,.cons _ t=>by rw[aB,aB,Ats.length t]
theorem Ats.get {K:PySem.W.Frag} {H:Hp}:∀{xs:List V} {ds:List Dt} {j:Nat} {x:V},Ats K H xs ds->xs[j]?=some x->∃d,ds[j]?=some d/\At K H x d
 |_,_,0,_,.cons h _,e=>⟨_,rfl,by cases e;exact h⟩
 |_,_,j+ 1,_,.cons _ t,e=>Ats.get (j:=j) t e
 |_,_,_,_,.nil,e=>by simp at e
theorem ud:∀(l m:List Dt),l.length≠m.length->rq l m=false
 |[],[],h=>absurd rfl h
 |x::xs,y::ys,h=>by
  rw[rq,ud xs ys (fun e=>h (by rw[aB,aB,e])),Bool.and_false]
 |[],y::ys,_=>by rw[rq];all_goals simp
 |x::xs,[],_=>by rw[rq];all_goals simp
def zf (l m:List Dt) (j:Nat):Bool:=match l[j]?,m[j]? with
 |some a,some b=>eqD a b
 |_,_=>false
theorem qg:∀(l m:List Dt),l.length=m.length->((aa l.length).all fun j=>zf l m j)=rq l m
 |[],[],_=>by rw[rq];rfl
 |x::xs,y::ys,h=>by
  have ih:=qg xs ys (by simpa using h)
  rw[aB,bc,bf,List.all_map,rq,<-ih]
  rfl
 |[],_::_,h=>by simp at h
 |_::_,[],h=>by simp at h
theorem nC:∀{l m:List Dt} {j:Nat} {a b:Dt},rA l m=true->l[j]?=some a->m[j]?=some b->qa a b=true
 |x::xs,y::ys,0,a,b,h,e1,e2=>by
  rw[rA,eR]at h
  cases e1
  cases e2
  exact h.1
 |x::xs,y::ys,j+ 1,a,b,h,e1,e2=>by
  rw[rA,eR]at h
  exact nC (j:=j) h.2 e1 e2
 |[],_,_,_,_,_,e1,_=>by simp at e1
 |_::_,[],_,_,_,_,_,e2=>by simp at e2
theorem depDs_get:∀{l:List Dt} {j:Nat} {a:Dt},l[j]?=some a->jQ a<=jA l
 |x::xs,0,a,e=>by cases e;rw[jA];exact Nat.le_max_left ..
 |x::xs,j+ 1,a,e=>by rw[jA];exact cy (depDs_get (j:=j) e) (Nat.le_max_right ..)
 |[],_,_,e=>by simp at e
theorem vA {v:V} (h:Ag v=true):eqV v v=true:=by
 cases v with
 |non=>rfl
 |bl b=>show(b==b)=true;simp
 |int i=>show(i==i)=true;simp
 |str x=>show(x==x)=true;simp
 |_=>exact absurd h eP
section
variable {X:Cx} {pz:List (fO×Obj)} {σ:St} {H:Hp} {s:fR}
mutual
theorem At.same (I:Inv X pz σ H s):∀{x:V} {d e:Dt},At X.K H x d->At X.K H x e->qa d e=true->eqD d e=true
 |_,_,_,.flat h,.flat _,_=>by rw[eqD];exact vA h
 |_,_,_,.tup h hs,.tup h' hs',c=>by
  have e:=I.tuple_inj h h'
  subst e
  rw[qa]at c
  rw[eqD]
  exact Ats.same I hs hs' c
 |_,_,_,.lst h hs,.lst h' hs',c=>by
  have e:=I.list_inj h h'
  subst e
  rw[qa,ja (hs.length.symm.trans hs'.length)]at c
  rw[eqD]
  exact Ats.same I hs hs' c
 |_,_,_,.flat h,.tup _ _,_=>absurd h eP
 |_,_,_,.flat h,.lst _ _,_=>absurd h eP
 |_,_,_,.tup _ _,.flat h,_=>absurd h eP
 |_,_,_,.lst _ _,.flat h,_=>absurd h eP
 |_,_,_,.tup _ _,.lst _ _,c=>by simp[qa]at c
 |_,_,_,.lst _ _,.tup _ _,c=>by simp[qa]at c
theorem Ats.same (I:Inv X pz σ H s):∀{xs:List V} {l m:List Dt},Ats X.K H xs l->Ats X.K H xs m->rA l m=true->rq l m=true
 |_,_,_,.nil,.nil,_=>by rw[rq]
 |_,_,_,.cons h t,.cons h' t',c=>by
  rw[rA,eR]at c
  rw[rq,At.same I h h' c.1,Ats.same I t t' c.2]
  rfl
end
def Els (K:PySem.W.Frag) (H:Hp) (A:gf) (s:fR) (ds es:List Dt):Prop:=
 ∀(j:Nat) (d1 d2:Dt) (x y:V) (u v:fQ),ds[j]?=some d1->es[j]?=some d2->jx x u->jx y v->At K H x d1->At K H y d2->SeqAt.EqAt A s u v (eqD d1 d2)
theorem els {A:gf} {xs ys:List V} {its its2:List fQ} {ds es:List Dt} (r:jI xs its) (r2:jI ys its2) (hs:Ats X.K H xs ds) (hs':Ats X.K H ys es) (EL:Els X.K H A s ds es):
  ∀j (h1:j<its.toArray.size) (h2:j<its2.toArray.size),SeqAt.EqAt A s its.toArray[j] its2.toArray[j] (zf ds es j):=fun j h1 h2=>by
 have l1:=r.length
 have l2:=r2.length
 have h1':j<xs.length:=by simp only[aA]at h1;lia
 have h2':j<ys.length:=by simp only[aA]at h2;lia
 obtain⟨w1,e1,q1⟩:=r.get (bj h1')
 obtain⟨w2,e2,q2⟩:=r2.get (bj h2')
 obtain⟨d1,f1,p1⟩:=hs.get (bj h1')
 obtain⟨d2,f2,p2⟩:=hs'.get (bj h2')
 have g1:its.toArray[j]=w1:=by simpa using(aq.mp e1).2
 have g2:its2.toArray[j]=w2:=by simpa using(aq.mp e2).2
 have ed:zf ds es j=eqD d1 d2:=by unfold zf;rw[f1,f2]
 rw[g1,g2,ed]
 exact EL j d1 d2 _ _ _ _ f1 f2 q1 q2 p1 p2
theorem ET {ds es:List Dt} {n m:Nat} (h1:n=ds.length) (h2:m=es.length):((aa (min n m)).all (zf ds es)&&n==m)=eqD (.tup ds) (.tup es):=by
 subst h1 h2
 rw[eqD]
 by_cases hl:ds.length=es.length
 ·rw[<-qg ds es hl,<-hl,Nat.min_self]
  simp
 ·rw[ud ds es hl,beq_eq_false_iff_ne.mpr hl,Bool.and_false]
theorem EU {ds es:List Dt} {n:Nat} (h1:n=ds.length) (h:ds.length=es.length):((aa n).all (zf ds es))=eqD (.lst ds) (.lst es):=by
 subst h1
 rw[eqD,<-qg ds es h]
theorem Ao {A:gf} {a b:fO} {xs ys:List V} {ds es:List Dt} (I:Inv X pz σ H s) (h:SqT X.K H a xs) (hs:Ats X.K H xs ds) (h':SqT X.K H b ys) (hs':Ats X.K H ys es) (hu:A.units<gP) (EL:Els X.K H A.in1 s ds es):
  SeqAt.RcAt A s (.ref a) (.ref b) (eqD (.tup ds) (.tup es))/\SeqAt.RcNeAt A s (.ref a) (.ref b) (!eqD (.tup ds) (.tup es)):=by
 obtain⟨its,r,pl,_⟩:=I.tuple h
 obtain⟨its2,r2,pl2,_⟩:=I.tuple h'
 have e:=els r r2 hs hs' EL
 have l1:its.toArray.size=ds.length:=by rw[aA,<-r.length,hs.length]
 have l2:its2.toArray.size=es.length:=by rw[aA,<-r2.length,hs'.length]
 have k1:=SeqAt.RcAt.tuples (A:=A) (s:=s) pl pl2 hu e
 have k2:=SeqAt.RcNeAt.tuples (A:=A) (s:=s) pl pl2 hu e
 rw[ET l1 l2]at k1 k2
 exact⟨k1,k2⟩
theorem DQ {A:gf} {a b:fO} {xs ys:List V} {ds es:List Dt} (I:Inv X pz σ H s) (h:SqL X.K H a xs) (hs:Ats X.K H xs ds) (h':SqL X.K H b ys) (hs':Ats X.K H ys es) (hu:A.units<gP) (EL:ds.length=es.length->Els X.K H A.in1 s ds es):
  SeqAt.RcAt A s (.ref a) (.ref b) (eqD (.lst ds) (.lst es))/\SeqAt.RcNeAt A s (.ref a) (.ref b) (!eqD (.lst ds) (.lst es)):=by
 obtain⟨its,r,pl,_⟩:=I.list h
 obtain⟨its2,r2,pl2,_⟩:=I.list h'
 have l1:its.toArray.size=ds.length:=by rw[aA,<-r.length,hs.length]
 have l2:its2.toArray.size=es.length:=by rw[aA,<-r2.length,hs'.length]
 by_cases hl:ds.length=es.length
 ·have e:=els r r2 hs hs' (EL hl)
  have k1:=SeqAt.RcAt.lists (A:=A) (s:=s) pl.isList pl2.isList (by rw[l1,l2,hl]) hu e
  have k2:=SeqAt.RcNeAt.lists (A:=A) (s:=s) pl.isList pl2.isList (by rw[l1,l2,hl]) hu e
  rw[EU l1 hl]at k1 k2
  exact⟨k1,k2⟩
 ·have hne:(its.toArray.size !=its2.toArray.size)=true:=by rw[l1,l2];exact bne_iff_ne.mpr hl
  have k1:=SeqAt.RcAt.lists_lengths (A:=A) (s:=s) pl.isList pl2.isList hne hu
  have k2:=SeqAt.RcNeAt.lists_lengths (A:=A) (s:=s) pl.isList pl2.isList hne hu
  rw[eqD,ud ds es hl]
  exact⟨k1,k2⟩
theorem DR (I:Inv X pz σ H s):∀(n:Nat) (A:gf) {x y:V} {u v:fQ} {d e:Dt},jx x u->jx y v->At X.K H x d->At X.K H y e->qa d e=true->jQ d<=n->A.units+n<gP->SeqAt.EqAt A s u v (eqD d e):=by
 intro n
 induction n with
 |zero=>
  intro A x y u v d e rx ry hx hy c hd hu
  cases hx with
  |flat h=>
   cases hy with
   |flat h'=>rw[eqD];exact xP rx ry h h'
   |tup _ _=>simp[qa]at c
   |lst _ _=>simp[qa]at c
  |tup _ _=>rw[jQ]at hd;lia
  |lst _ _=>rw[jQ]at hd;lia
 |succ n ih=>
  intro A x y u v d e rx ry hx hy c hd hu
  cases hx with
  |flat h=>
   cases hy with
   |flat h'=>rw[eqD];exact xP rx ry h h'
   |tup _ _=>simp[qa]at c
   |lst _ _=>simp[qa]at c
  |@tup a xs ds h hs=>
   cases hy with
   |flat _=>simp[qa]at c
   |lst _ _=>simp[qa]at c
   |@tup b ys es h' hs'=>
    cases rx
    cases ry
    by_cases hab:a=b
    ·subst hab
     rw[At.same I (.tup h hs) (.tup h' hs') c]
     exact SeqAt.EqAt.same _
    ·rw[qa]at c
     rw[jQ]at hd
     refine SeqAt.EqAt.of_refs hab (Ao I h hs h' hs' (by lia) fun j d1 d2 x y u v f1 f2 q1 q2 p1 p2=>?_).1
     exact ih A.in1 q1 q2 p1 p2 (nC c f1 f2) (cy (depDs_get f1) (by lia)) (by show A.units+ 1+n<gP;lia)
  |@lst a xs ds h hs=>
   cases hy with
   |flat _=>simp[qa]at c
   |tup _ _=>simp[qa]at c
   |@lst b ys es h' hs'=>
    cases rx
    cases ry
    by_cases hab:a=b
    ·subst hab
     rw[At.same I (.lst h hs) (.lst h' hs') c]
     exact SeqAt.EqAt.same _
    ·rw[jQ]at hd
     refine SeqAt.EqAt.of_refs hab (DQ I h hs h' hs' (by lia) fun hl j d1 d2 x y u v f1 f2 q1 q2 p1 p2=>?_).1
     rw[qa,ja hl]at c
     exact ih A.in1 q1 q2 p1 p2 (nC c f1 f2) (cy (depDs_get f1) (by lia)) (by show A.units+ 1+n<gP;lia)
def rEqD (K:PySem.W.Frag) (neg:Bool):R2:=fun x y H Q=>∃a b d e,x= .ref a/\y= .ref b/\At K H x d/\At K H y e/\qa d e=true/\jQ d<=150/\Q (.bl (if neg then !eqD d e else eqD d e)) H
theorem rcD (I:Inv X pz σ H s) {A:gf} {a b:fO} {d e:Dt} (hx:At X.K H (.ref a) d) (hy:At X.K H (.ref b) e) (c:qa d e=true) (hd:jQ d<=150) (hu:A.units+ 151<gP):
  SeqAt.RcAt A s (.ref a) (.ref b) (eqD d e)/\SeqAt.RcNeAt A s (.ref a) (.ref b) (!eqD d e):=by
 cases hx with
 |flat h=>exact absurd h eP
 |@tup a xs ds h hs=>
  cases hy with
  |flat h=>exact absurd h eP
  |lst _ _=>simp[qa]at c
  |@tup b ys es h' hs'=>
   rw[qa]at c
   rw[jQ]at hd
   refine Ao I h hs h' hs' (by lia) fun j d1 d2 x y u v f1 f2 q1 q2 p1 p2=>?_
   exact DR I 150 A.in1 q1 q2 p1 p2 (nC c f1 f2) (cy (depDs_get f1) (by lia)) (by show A.units+ 1+ 150<gP;lia)
 |@lst a xs ds h hs=>
  cases hy with
  |flat h=>exact absurd h eP
  |tup _ _=>simp[qa]at c
  |@lst b ys es h' hs'=>
   rw[jQ]at hd
   refine DQ I h hs h' hs' (by lia) fun hl j d1 d2 x y u v f1 f2 q1 q2 p1 p2=>?_
   rw[qa,ja hl]at c
   exact DR I 150 A.in1 q1 q2 p1 p2 (nC c f1 f2) (cy (depDs_get f1) (by lia)) (by show A.units+ 1+ 150<gP;lia)
end
section
variable {X:Cx}
theorem GL {k:Nat} (hr:ou k X.A):OpR X (gv .NotEq) (rEqD X.K true):=by
 intro pz s σ H x y v u Q I rx ry h
 obtain⟨a,b,d,e,rfl,rfl,hx,hy,c,hd,q⟩:=h
 cases rx
 cases ry
 have hu:=hr.un
 exact(rcD I hx hy c hd (by lia)).2 _ _ _ _ ⟨.bl _,H,I,rfl,q⟩
end
section
variable {X:Cx} {o i:gS} {pos:Pos} {td ty:TE} {a:fO} {kvs:List (Key×V)}
end
section
variable {X:Cx}
end
section
variable {X:Cx} {k:Nat} {f Y:fO} {fd:gu} {ps:List Str} {sp:Sp} {dvs:List V} {ds:List fQ} {x y n:Str} {p pos pos' py hpos tpos pn:Pos} {e:gS} {es:List gS} {t:TA} {b₀:gR} {body:List gR} {tb:TS} {i:Nat}
end
end L2.Internal
namespace L2.Internal
end L2.Internal
namespace L2.Internal
open PySem PySem.Spec PyProof.Rows
section
variable {X:Cx} {pz:List (fO×Obj)} {σ:St} {H:Hp} {s:fR} {h':Heap}
theorem Inv.turnedL {t':Nat} {ch:List fO} (I:Inv X pz σ H s) (k:∀b o,b∉ch->s.heap.get? b=some o->h'.get? b=some o) (hf:∀b∈ch,wj X pz H b):Inv X pz σ H {s with heap:=h',toks:=t'}:=by
 have nit:∀b u,H b=some u->b∉ch:=fun b u e z=>by
  have q:=(hf b z).1
  rw[q]at e;cases e
 refine I.step (g':=s.gens) (d':=s.drawn) (ch:=ch) (fun b hb=>?_) (fun b o _ _ hc e _=>k b o hc e) (fun b o _ _ hc e _=>⟨o.slots,k b o hc e⟩) (fun _ _ _ _ n=>n)
  (fun b o hc e=>⟨o,k b o hc e⟩) (fun _ _ e=>e) (fun _ _ _ e=>e) (fun b ps e=>⟨#[],by rw[e];simp⟩) (fun m hm=>?_) (fun b u e=>?_) I.bare
 ·obtain⟨_,f1,_,f3,f4,f5⟩:=hf b hb
  exact⟨f3,f1,f4,f5⟩
 ·obtain⟨o,es,ep,ho,r⟩:=hm
  exact⟨o,es,ep,k _ o (fun z=>(hf _ z).2.1 rfl) ho,r⟩
 ·refine(I.hok b u e).stay (fun c v hc q=>k c v ?_ q) (fun _ q=>q) fun _ _ q=>q
  rcases hc with z|z
  ·rw[z];exact nit b u e
  ·exact nit c _ z
theorem Inv.pairNew {T:fO} {h:Heap} {tk:Nat} {ux uy:fQ} {x y:V} (I:Inv X pz σ H s) (hT:s.heap.objs.size<=T) (J:Inv X pz σ H {s with heap:=h,toks:=tk}) (ht:yU h T #[ux,uy]) (rx:jx x ux) (ry:jx y uy):
  H T=none/\Inv X pz σ (upd H T (.tup [x,y])) {s with heap:=h,toks:=tk}:=by
 have f:=I.fpOk (H':=H) hT (I.hok.fresh hT)
 refine⟨f.1,J.track f.1 ?_ f.2.1 f.2.2.2.2.1 f.2.2.2.2.2 ⟨by show 2<=fY;decide,[ux,uy],.cons rx (.cons ry .nil),ht⟩⟩
 cases q:X.s₀.heap.get? T with
 |none=>rfl
 |some o=>exact absurd (cq (fC q) (cy I.sz hT)) (cw _)
end
def Itz (K:PySem.W.Frag) (a b:fO):It:=
 ⟨fun i H=>∃xs ys x y,SqL K H a xs/\SqL K H b ys/\xs[i]?=some x/\ys[i]?=some y,
   fun i H v H'=>∃T x y,v= .ref T/\H T=none/\H'=upd H T (.tup [x,y])/\(∀xs,SqL K H a xs->xs[i]?=some x)/\∀ys,SqL K H b ys->ys[i]?=some y,
   fun i H=>∃xs ys,SqL K H a xs/\SqL K H b ys/\i=min xs.length ys.length⟩
def ZSt (z TI TO i1 i2 a b:fO) (i:Nat) (h:Heap):Prop:=IsZip h z TI TO .none/\IsPair h TI (.ref i1) (.ref i2)/\(∃u v,IsPair h TO u v)/\h.IsListIter i1 a i/\h.IsListIter i2 b i
theorem Cu {P:f9} {w:gm} {K:PySem.W.Frag} {es:List gS} {kk:Nat} {tp:Pos} {a b z TI TO i1 i2:fO} (D:ZipApart z TI TO i1 i2 a b):DC P w K (.Tuple es kk tp) (Itz K a b) [z,TI,TO,i1,i2] z (ZSt z TI TO i1 i2 a b) where
 mem:=by simp
 obj:=fun i h st c hc=>by
  obtain⟨g1,g2,⟨u,v,g3⟩,⟨o4,g4,_,d4⟩,⟨o5,g5,_,d5⟩⟩:=st
  simp only[aj,bo,or_false]at hc
  rcases hc with e|e|e|e|e<;>subst e
  ·exact⟨_,g1,fun v q=>nomatch q⟩
  ·exact⟨_,g2,fun v q=>nomatch q⟩
  ·exact⟨_,g3,fun v q=>nomatch q⟩
  ·exact⟨_,g4,fun v q=>by rw[d4]at q;cases q⟩
  ·exact⟨_,g5,fun v q=>by rw[d5]at q;cases q⟩
 keep:=fun i h h' st k=>by
  obtain⟨g1,g2,⟨u,v,g3⟩,g4,g5⟩:=st
  exact⟨k z (by simp) _ g1,k TI (by simp) _ g2,⟨u,v,k TO (by simp) _ g3⟩,g4.at fun o e=>k i1 (by simp) o e,g5.at fun o e=>k i2 (by simp) o e⟩
 item:=by
  intro X hP hw hK hc i pz s σ H E I hf st hg
  subst hP hw hK
  obtain⟨xs,ys,x,y,qx,qy,ex,ey⟩:=hg
  obtain⟨i1s,r1,p1,z1⟩:=I.list qx
  obtain⟨i2s,r2,p2,z2⟩:=I.list qy
  obtain⟨g1,g2,g3,g4,g5⟩:=st
  obtain⟨u3,v3,g3'⟩:=g3
  obtain⟨ux,hux,rr1⟩:=r1.get ex
  obtain⟨uy,huy,rr2⟩:=r2.get ey
  have hw:∀c∈[z,TO,i1,i2],wj X pz H c:=fun c hc=>hf c (by simp only[aj,bo,or_false]at hc⊢;rcases hc with h|h|h|h<;>simp[h])
  refine wpAny_pyNext_zip_item D g1 g2 g3' g4 g5 p1.isList p2.isList (x:=ux) (y:=uy) (by simpa using hux) (by simpa using huy) fun h1 a1 a2 a3 a4 a5 a6 hk=>?_
  have kk1:∀c o,c∉[z,TO,i1,i2]->s.heap.get? c=some o->h1.get? c=some o:=fun c o hc e=>hk c o (fun q=>hc (by simp[q])) (fun q=>hc (by simp[q])) (fun q=>hc (by simp[q])) (fun q=>hc (by simp[q])) e
  have J1:Inv X pz σ H {s with heap:=h1,toks:=s.toks}:=I.turnedL kk1 hw
  refine⟨.ref s.heap.objs.size,rfl,wpAny_letOwnedTupleGo_zip a1 fun h2 a1' sb=>?_⟩
  have J2:Inv X pz σ H {s with heap:=h2,toks:=s.toks}:=Inv.turnedL (s:={s with heap:=h1,toks:=s.toks}) (h':=h2) (t':=s.toks) (ch:=[z]) J1 (fun c o hc e=>sb.extBut _ _ (fun q=>hc (by simp[q])) e) fun c hc=>hf c (by simp only[aj,bo,or_false]at hc⊢;simp[hc])
  have zlt:z<s.heap.objs.size:=fC g1
  have ht2:yU h2 s.heap.objs.size #[ux,uy]:=⟨_,sb.extBut _ _ (cA zlt) a5,rfl,_,rfl,rfl⟩
  obtain⟨fT,J3⟩:=I.pairNew (cB _) J2 ht2 rr1 rr2
  refine⟨.ref s.heap.objs.size,_,J3,rfl,⟨_,x,y,rfl,fT,rfl,fun l hl=>by rw[I.list_inj hl qx];exact ex,fun l hl=>by rw[I.list_inj hl qy];exact ey⟩,
   ⟨a1',sb.extBut _ _ D.TIz (hk _ _ D.TIz D.TITO D.TIi1 D.TIi2 g2),⟨_,_,sb.extBut _ _ D.TOz a2⟩,a3.extBut sb.extBut D.i1z,a4.extBut sb.extBut D.i2z⟩,fun c hc=>?_⟩
  rw[hX (fun q=>?_)]
  ·exact(hf c hc).1
  ·have lt:c<s.heap.objs.size:=by
    obtain⟨o4,e4,_⟩:=g4
    obtain⟨o5,e5,_⟩:=g5
    simp only[aj,bo,or_false]at hc
    rcases hc with e|e|e|e|e<;>subst e
    ·exact fC g1
    ·exact fC g2
    ·exact fC g3'
    ·exact fC e4
    ·exact fC e5
   exact absurd lt (by rw[q];exact cw _)
 done:=by
  intro X hP hw hK hc i pz s σ H E I hf st hg
  subst hP hw hK
  obtain⟨xs,ys,qx,qy,ei⟩:=hg
  obtain⟨i1s,r1,p1,z1⟩:=I.list qx
  obtain⟨i2s,r2,p2,z2⟩:=I.list qy
  obtain⟨g1,g2,g3,g4,g5⟩:=st
  have W:=WalksT.zip2 (prog:=X.prog) (w:=X.w) (I.ok.hd hc) z TI TO i1 i2 a b D i1s.toArray i2s.toArray
  have l1:=r1.length
  have l2:=r2.length
  have e:i=min i1s.toArray.size i2s.toArray.size:=by simp only[aA];lia
  subst e
  exact W.done s _ _ ⟨g1,g2,g3,g4,g5,p1.isList,p2.isList⟩ fun h1 tk hk=>⟨rfl,I.turnedL hk fun c hc=>hf c (by simp only[aj,bo,or_false]at hc⊢;rcases hc with h|h|h|h<;>simp[h])⟩
 self:=fun _ _ _ _ _ st h=>wpAny_pyIter_zip st.1 h
theorem DS:gx "zip"=some (.type "zip"):=iJ
theorem vB:gx "enumerate"=some (.type "enumerate"):=iJ
theorem SqL.old {X:Cx} {pz:List (fO×Obj)} {σ:St} {H:Hp} {s:fR} {a:fO} {xs:List V} (I:Inv X pz σ H s) (h:SqL X.K H a xs):a<s.heap.objs.size:=by
 obtain⟨its,_,p,_⟩:=I.list h
 obtain⟨o,e,_⟩:=p.isList
 exact fC e
def iZip (K:PySem.W.Frag) (ta:TA):TI:=fun σ H R=>ta σ H fun vs H1=>∃a b,vs=[.ref a,.ref b]/\(∃xs,SqL K H1 a xs)/\(∃ys,SqL K H1 b ys)/\R (Itz K a b) H1
section
variable {X:Cx}
theorem Ap {es:List gS} {kk:Nat} {tp:Pos} {a b:gS} {ta:TA} {p pos:Pos} (hg:Gl X "zip") (hm:X.mg "zip"=none) (ha:PA X [a,b] ta) (hs:autoParam (gn [a,b] X.env=[(false,eval a X.env),(false,eval b X.env)]) L2.Internal.auR._auto_1) (hs2:autoParam (gn [b] X.env=[(false,eval b X.env)]) L2.Internal.auR._auto_1):
  PI X (.Tuple es kk tp) (.Call (.Name "zip" p) [a,b] [] pos) (iZip X.K ta):=by
 intro pz s σ H R I h
 refine Call_ (qB I hg hm DS (fJ (thn (ha pos pz s σ H _ I h) fun us s1 ⟨vs,H1,I1,r1,q1⟩=>?_) (by rw[hs,hs2]) (by rw[hs2];rfl)))
 obtain⟨l1,l2,e,⟨xs,q1⟩,⟨ys,q2⟩,q⟩:=q1
 subst e
 obtain⟨u,v,rfl,ru,rv⟩:=yY r1
 cases ru
 cases rv
 obtain⟨i1s,w1,p1,z1⟩:=I1.list q1
 obtain⟨i2s,w2,p2,z2⟩:=I1.list q2
 have o1:@LT.lt Nat _ l1 s1.heap.objs.size:=SqL.old I1 q1
 have o2:@LT.lt Nat _ l2 s1.heap.objs.size:=SqL.old I1 q2
 refine call_zip_2 p1.isList p2.isList fun h1 hz hTI hTO hi1 hi2 hsz hk=>wpAny_pyIter_zip hz ?_
 have D:ZipApart (s1.heap.objs.size+ 4) (s1.heap.objs.size+ 2) (s1.heap.objs.size+ 3) s1.heap.objs.size (s1.heap.objs.size+ 1) l1 l2:=by constructor<;>exact fun(h:@Eq Nat _ _)=>by lia
 refine⟨_,_,_,_,H1,rfl,I1.kept (t':=s1.toks) hk,Cu D,⟨hz,hTI,⟨_,_,hTO⟩,hi1,hi2⟩,fun c hc=>?_,q⟩
 have ge:s1.heap.objs.size<=c:=by
  simp only[aj,bo,or_false]at hc
  rcases hc with h|h|h|h|h<;>rw[h]<;>first|exact cB _|exact cH _ _
 exact I1.fpOk ge (I1.hok.fresh ge)
end
def Ite (K:PySem.W.Frag) (a:fO):It:=
 ⟨fun i H=>∃xs x,SqL K H a xs/\xs[i]?=some x,
   fun i H v H'=>∃T x,v= .ref T/\H T=none/\H'=upd H T (.tup [.int (i:Int),x])/\∀xs,SqL K H a xs->xs[i]?=some x,
   fun i H=>∃xs,SqL K H a xs/\i=xs.length⟩
def ESt (e it a:fO) (i:Nat) (h:Heap):Prop:=(∃old,IsEnum h e it i old)/\h.IsListIter it a i
theorem Aq {P:f9} {w:gm} {K:PySem.W.Frag} {es:List gS} {kk:Nat} {tp:Pos} {a e it:fO} (h1:e≠it) (h2:a≠e) (h3:a≠it):DC P w K (.Tuple es kk tp) (Ite K a) [e,it] e (ESt e it a) where
 mem:=by simp
 obj:=fun i h st c hc=>by
  obtain⟨⟨old,g1⟩,⟨o4,g4,_,d4⟩⟩:=st
  simp only[aj,bo,or_false]at hc
  rcases hc with q|q<;>subst q
  ·exact⟨_,g1,fun v q=>nomatch q⟩
  ·exact⟨_,g4,fun v q=>by rw[d4]at q;cases q⟩
 keep:=fun i h h' st k=>by
  obtain⟨⟨old,g1⟩,g4⟩:=st
  exact⟨⟨old,k e (by simp) _ g1⟩,g4.at fun o q=>k it (by simp) o q⟩
 item:=by
  intro X hP hw hK hc i pz s σ H E I hf st hg
  subst hP hw hK
  obtain⟨xs,x,qx,ex⟩:=hg
  obtain⟨i1s,r1,p1,z1⟩:=I.list qx
  obtain⟨g1,g4⟩:=st
  obtain⟨old,g1'⟩:=g1
  obtain⟨ux,hux,rr1⟩:=r1.get ex
  have lte:e<s.heap.objs.size:=fC g1'
  refine wpAny_pyNext_enum_item g1' g4 p1.isList (x:=ux) (by simpa using hux) h1 fun k1 ho hit' hT hsz hk=>?_
  have kk1:∀c o,c∉[e,it]->s.heap.get? c=some o->k1.get? c=some o:=fun c o hc q=>hk c o (fun z=>hc (by simp[z])) (fun z=>hc (by simp[z])) q
  have J1:Inv X pz σ H {s with heap:=k1,toks:=s.toks+ 1}:=I.turnedL kk1 hf
  refine⟨.ref s.heap.objs.size,rfl,wpAny_letOwnedTupleGo_enum ho fun k2 he' sb=>?_⟩
  have J2:Inv X pz σ H {s with heap:=k2,toks:=s.toks+ 1}:=Inv.turnedL (s:={s with heap:=k1,toks:=s.toks+ 1}) (h':=k2) (t':=s.toks+ 1) (ch:=[e]) J1 (fun c o hc q=>(sb.2 c (fun z=>hc (by simp[z]))).trans q) fun c hc=>hf c (by simp only[aj,bo,or_false]at hc⊢;simp[hc])
  have ht2:yU k2 s.heap.objs.size #[.int i s.toks,ux]:=⟨_,(sb.2 _ (cA lte)).trans hT,rfl,_,rfl,rfl⟩
  obtain⟨fT,J3⟩:=I.pairNew (x:= .int (i:Int)) (cB _) J2 ht2 ⟨s.toks,rfl⟩ rr1
  refine⟨.ref s.heap.objs.size,_,J3,rfl,⟨_,x,rfl,fT,rfl,fun l hl=>by rw[I.list_inj hl qx];exact ex⟩,⟨⟨_,by simpa using he'⟩,hit'.at fun o y=>(sb.2 it h1.symm).trans y⟩,fun c hc=>?_⟩
  rw[hX (fun q=>?_)]
  ·exact(hf c hc).1
  ·have lt:c<s.heap.objs.size:=by
    obtain⟨o4,e4,_⟩:=g4
    simp only[aj,bo,or_false]at hc
    rcases hc with q|q<;>subst q
    ·exact lte
    ·exact fC e4
   exact absurd lt (by rw[q];exact cw _)
 done:=by
  intro X hP hw hK hc i pz s σ H E I hf st hg
  subst hP hw hK
  obtain⟨xs,qx,ei⟩:=hg
  obtain⟨i1s,r1,p1,z1⟩:=I.list qx
  obtain⟨g1,g4⟩:=st
  have W:=WalksT.enumerate (prog:=X.prog) (w:=X.w) (I.ok.hd hc) e it a h1 h2 h3 i1s.toArray
  have l1:=r1.length
  have q:i=i1s.toArray.size:=by simp only[aA];lia
  subst q
  exact W.done s _ _ ⟨g1,g4,p1.isList⟩ fun h1 tk hk=>⟨rfl,I.turnedL hk hf⟩
 self:=fun _ _ _ _ _ st h=>by
  obtain⟨⟨old,g1⟩,_⟩:=st
  exact wpAny_pyIter_enum g1 h
def Iu (K:PySem.W.Frag) (ta:TA):TI:=fun σ H R=>ta σ H fun vs H1=>∃a,vs=[.ref a]/\(∃xs,SqL K H1 a xs)/\R (Ite K a) H1
section
variable {X:Cx}
theorem wH {es:List gS} {kk:Nat} {tp:Pos} {a:gS} {ta:TA} {p pos:Pos} (hg:Gl X "enumerate") (hm:X.mg "enumerate"=none) (ha:PA X [a] ta) (hs:autoParam (gn [a] X.env=[(false,eval a X.env)]) L2.Internal.auR._auto_1):
  PI X (.Tuple es kk tp) (.Call (.Name "enumerate" p) [a] [] pos) (Iu X.K ta):=by
 intro pz s σ H R I h
 refine Call_ (qB I hg hm vB (fJ (thn (ha pos pz s σ H _ I h) fun us s1 ⟨vs,H1,I1,r1,q1⟩=>?_) hs rfl))
 obtain⟨l1,e,⟨xs,q1⟩,q⟩:=q1
 subst e
 obtain⟨u,rfl,ru⟩:=nj r1
 cases ru
 obtain⟨i1s,w1,p1,z1⟩:=I1.list q1
 have o1:@LT.lt Nat _ l1 s1.heap.objs.size:=SqL.old I1 q1
 refine call_enumerate_list p1.isList fun h1 hE hi1 hsz hk=>wpAny_pyIter_enum hE ?_
 refine⟨_,_,_,_,H1,rfl,I1.kept (t':=s1.toks) hk,Aq (fun(h:@Eq Nat _ _)=>by lia) (fun(h:@Eq Nat _ _)=>by lia) (fun(h:@Eq Nat _ _)=>by lia),⟨⟨_,hE⟩,hi1⟩,fun c hc=>?_,q⟩
 have ge:s1.heap.objs.size<=c:=by
  simp only[aj,bo,or_false]at hc
  rcases hc with h|h<;>rw[h]<;>first|exact cB _|exact cH _ _
 exact I1.fpOk ge (I1.hok.fresh ge)
end
def LcG (J:It) (g:TG) (te:TE) (Q:VK) (τ:St) (H1:Hp) (D:fO):Prop:=
 ∃W:Nat->Nat->St->Hp->Prop,(∃m,W 0 m τ (upd H1 D (.lst [])))/\∀k m σ' H2,W k m σ' H2->
  (J.stop k H2/\Q (.ref D) H2)\/(J.go k H2/\∀v H3,J.yld k H2 v H3->g v σ' H3 fun σ4 H4=>te σ4 H4 fun y H5=>∃xs,H5 D=some (.lst xs)/\xs.length<fY/\∃m',m'<m/\W (k+ 1) m' σ4 (upd H5 D (.lst (xs++[y]))))
def tLG (wi:TI) (f:St->St) (g:TG) (te:TE):TE:=fun σ H Q=>wi σ H fun J H1=>∀D,H1 D=none->LcG J g te Q (f σ) H1 D
theorem xT {X:Cx} {elt iter:gS} {es:List gS} {kk:Nat} {tp:Pos} {x:Str} {scope:gQ} {pos pos':Pos} {N:List Str} {cl:List (Str×fO)} {f:St->St} {i:Nat} {wi:TI} {g:TG} {te:TE} {use:Option (fQ->Sem Unit)} {Qp:fQ->fR->Prop}
  {pz:List (fO×Obj)} {s:fR} {σ:St} {H:Hp} {Q:VK}
  (hc:X.calm=true) (B:qe X N scope cl f i x) (hi:PI X (.Tuple es kk tp) iter wi)
  (hg:∀C s₀ H₀ ex pz,PG (blk X N scope cl C s₀ H₀ ex pz) (.Tuple es kk tp) g) (hte:∀C s₀ H₀ ex pz,PE (blk X N scope cl C s₀ H₀ ex pz) elt te)
  (hs:∀x,gG iter X.env x=pure x) (I:Inv X pz σ H s) (h:tLG wi f g te σ H Q)
  (fin:∀(fl:Flow) (s3 s6:fR) (H3 H5:Hp) (d:fO) (m:Str->Option fQ),Inv X pz σ H3 s3->Inv X pz σ H5 s6->H5 s3.heap.objs.size=none->s6.heap.Ns s3.heap.objs.size m->Q (.ref d) H5->
   compPost (f7 X.prog X.w) X.A X.xe use Qp (.ref d) s3.heap.objs.size (.ok fl) s6):
  f6 (f7 X.prog X.w) X.A (comprehension (.ListComp elt [⟨.Tuple es kk tp,iter,[],0⟩] scope pos) scope X.env pos' (newList []) false (eval iter X.env) use) Qp X.xe s:=by
 refine wpAny_comprehension_free (use:=use) rfl hs B.clos B.kind B.names (thn (hi pz s σ H _ I h) fun xv s1 h1=>thn h1 fun itv s2 h2=>?_)
 obtain⟨it,fp,tn,J,H2,rfl,I2,T,st2,f2,q⟩:=h2
 have hD:H2 s2.heap.objs.size=none:=I2.fresh
 obtain⟨W,⟨m0,w0⟩,turn⟩:=q _ hD
 refine gA (wpAny_newFunctionEnv B.cell (by intro y hy;simp at hy) (fun h₁ hns₁ hsb₁=>?_) B.kind)
 have I3:Inv X pz σ (upd H2 s2.heap.objs.size (.lst [])) {s2 with heap:=s2.heap.push {cls:= .type "list",data:= .seq ([]:List fQ).toArray}}:=I2.lnew (its:=[]) (ys:=[]) (t':=s2.toks) .nil (cC _)
 have lt2:∀b∈fp,b<s2.heap.objs.size:=fun b hb=>by
  obtain⟨o,ho,_⟩:=T.obj _ _ st2 b hb
  exact fC ho
 have fp3:∀b∈fp,wj X pz (upd H2 s2.heap.objs.size (.lst [])) b:=fun b hb=>by
  refine⟨?_,(f2 b hb).2⟩
  rw[hX (cx (lt2 b hb))]
  exact(f2 b hb).1
 generalize hs3:({s2 with heap:=s2.heap.push {cls:= .type "list",data:= .seq ([]:List fQ).toArray}}:fR)=s3 at I3 hns₁ hsb₁⊢
 have eh:s2.heap.push {cls:= .type "list",data:= .seq ([]:List fQ).toArray}=s3.heap:=by rw[<-hs3]
 have lt3:∀b∈fp,b<s3.heap.objs.size:=fun b hb=>by
  rw[<-eh,fG]
  exact cG (lt2 b hb)
 have old:∀b o,s3.heap.get? b=some o->h₁.get? b=some o:=fun b o e=>hsb₁.extBut b o (cx (fC e)) (fF _ e)
 have I4:=Am (tk:=s3.toks+([]:List (Str×fQ)).length) B I3 (ex:=fp) (fun b hb=>⟨fp3 b hb,lt3 b hb⟩) old hns₁
 have st4:tn 0 h₁:=T.keep _ _ _ st2 fun b _ o e=>old b o (by rw[<-eh];exact fF _ e)
 have fpB:∀{H':Hp},(∀b∈fp,H' b=none)->∀b∈fp,wj (blk X N scope cl s3.heap.objs.size s3 (upd H2 s2.heap.objs.size (.lst [])) fp pz) [] H' b:=fun{H'} hn b hb=>by
  obtain⟨_,g2,g3,g4,g5,g6⟩:=f2 b hb
  refine⟨hn b hb,cx (lt3 b hb),fun z=>(aj.mp (I3.stkSub b z)).elim g2 g3,.inl hb,fun y c e=>g5 y c (B.lk y c e),fun p hp=>?_⟩
  rw[aF]at hp
  exact g6 p hp
 have loop:∀s4:fR,s4={s3 with heap:=h₁,toks:=s3.toks+([]:List (Str×fQ)).length}->
   codeAny (f7 X.prog X.w) X.A (.compLoop (.ListComp elt [⟨.Tuple es kk tp,iter,[],0⟩] scope pos) 0 (.ref it) (.ref s2.heap.objs.size) (compEnvC scope cl s3.heap.objs.size X.env))
    (compPost (f7 X.prog X.w) X.A X.xe use Qp (.ref s2.heap.objs.size) s3.heap.objs.size) s4:=by
  rintro s4 rfl
  refine PyProof.Rows.LCp.codeAny_compLoop_pair (I:=fun n s'=>∃k σ' H',Inv (blk X N scope cl s3.heap.objs.size s3 (upd H2 s2.heap.objs.size (.lst [])) fp pz) [] σ' H' s'/\tn k s'.heap/\(∀b∈fp,H' b=none)/\W k n σ' H') ?_ m0
   ⟨0,f σ,_,I4,st4,fun b hb=>(fp3 b hb).1,w0⟩
  rintro n s5 ⟨k,σ5,H5,I5,st5,fr5,w5⟩
  rcases turn k n σ5 H5 w5 with⟨stop,qn⟩|⟨go,step⟩
  ·refine fX (T.done (blk X N scope cl s3.heap.objs.size s3 (upd H2 s2.heap.objs.size (.lst [])) fp pz) rfl rfl rfl hc k [] s5 σ5 H5 _ I5 (fpB fr5) st5 stop) (fun r s6 h6=>?_) fun _ _ z=>z
   obtain⟨hr,I6⟩:=h6
   subst hr
   obtain⟨m6,hn6,_⟩:=id I6.loc
   have I7:Inv X pz σ H5 s6:=I3.call' (s':=s6) (ch:=fp) I6.os I6.base I6.hok I6.bare fun b hb=>by
    obtain⟨_,g2,g3,g4,g5,g6⟩:=f2 b hb
    exact⟨g4,g2,g5,g6⟩
   exact fin _ s3 s6 _ H5 _ m6 I3 I7 I6.free hn6 qn
  ·refine fX (T.item (blk X N scope cl s3.heap.objs.size s3 (upd H2 s2.heap.objs.size (.lst [])) fp pz) rfl rfl rfl hc k [] s5 σ5 H5 _ I5 (fpB fr5) st5 go) (fun r s6 h6=>?_) fun _ _ z=>z
   obtain⟨u,hr,h6⟩:=h6
   subst hr
   refine fX h6 (fun _ s7 h7=>?_) fun _ _ z=>z
   obtain⟨v,H7,I7,r7,y7,st7,fr7⟩:=h7
   have I7':=I7.pinned (fpB fr7) (T.obj _ _ st7)
   have back:∀{σ9:St} {H9:Hp} {s9:fR},Inv (blk X N scope cl s3.heap.objs.size s3 (upd H2 s2.heap.objs.size (.lst [])) fp pz) ([]++sZ fp s7.heap) σ9 H9 s9->(∃m',m'<n/\W (k+ 1) m' σ9 H9)->
     ∃m',m'<n/\∃k σ' H',Inv (blk X N scope cl s3.heap.objs.size s3 (upd H2 s2.heap.objs.size (.lst [])) fp pz) [] σ' H' s9/\tn k s9.heap/\(∀b∈fp,H' b=none)/\W k m' σ' H':=fun{σ9 H9 s9} I9 q9=>by
    obtain⟨m',hm,w9⟩:=q9
    refine⟨m',hm,k+ 1,σ9,H9,I9.unpinned,T.keep _ _ _ st7 fun b hb o e=>(I9.pin (b,o) (az _ (az _ (lC hb e)))).1,fun b hb=>?_,w9⟩
    obtain⟨o,e,d⟩:=T.obj _ _ st7 b hb
    exact(I9.pin (b,o) (az _ (az _ (lC hb e)))).2.1
   refine fX (hg s3.heap.objs.size s3 (upd H2 s2.heap.objs.size (.lst [])) fp pz _ s7 σ5 H7 v u _ I7' r7 (step v H7 y7)) (fun _ s8 h8=>?_) fun _ _ z=>False.elim z
   obtain⟨σ8,H8,I8,q8⟩:=h8
   refine fX (hte _ _ _ _ _ _ s8 _ H8 _ I8 q8) (fun y s10 h10=>?_) fun _ _ z=>False.elim z
   obtain⟨v10,H10,I10,r10,xs,hx10,hz,q10⟩:=h10
   refine fX (jh (X:=blk X N scope cl s3.heap.objs.size s3 (upd H2 s2.heap.objs.size (.lst [])) fp pz) _ s10 _ H10 (.ref s2.heap.objs.size) [v10] _ [y] (fun _ H11=>H11=upd H10 s2.heap.objs.size (.lst (xs++[v10]))) I10 rfl (.cons r10 .nil) ⟨_,xs,v10,rfl,rfl,hx10,hz,rfl⟩) (fun _ s11 h11=>?_) fun _ _ z=>False.elim z
   obtain⟨_,H11,I11,_,e11⟩:=h11
   subst e11
   exact back I11 q10
 exact codeAny_compStart_list (loop _ rfl) (T.self _ 0 _ _ _ st4 (loop _ rfl))
theorem tE {X:Cx} {elt iter:gS} {x:Str} {es:List gS} {kk:Nat} {tp:Pos} {scope:gQ} {pos:Pos} {N:List Str} {cl:List (Str×fO)} {f:St->St} {i:Nat} {wi:TI} {g:TG} {te:TE}
  (hc:X.calm=true) (B:qe X N scope cl f i x) (hi:PI X (.Tuple es kk tp) iter wi)
  (hg:∀C s₀ H₀ ex pz,PG (blk X N scope cl C s₀ H₀ ex pz) (.Tuple es kk tp) g) (hte:∀C s₀ H₀ ex pz,PE (blk X N scope cl C s₀ H₀ ex pz) elt te)
  (hs:autoParam (∀x,gG iter X.env x=pure x) L2.Internal.auI._auto_1):PE X (.ListComp elt [⟨.Tuple es kk tp,iter,[],0⟩] scope pos) (tLG wi f g te):=by
 intro pz s σ H Q I h
 rw[eval_ListComp]
 refine xT hc B hi hg hte hs I h fun fl s3 s6 H3 H5 d m I3 I7 fr hn qn=>?_
 refine⟨m,hn,fun h' sb=>⟨.ref d,H5,?_,rfl,qn⟩⟩
 exact Inv.turned (h':=h') (t':=s6.toks) (it:=s3.heap.objs.size) I7 (fun b o hb e=>(sb.2 b hb).trans e) fr (cA I3.lt) (.inr I3.sz) (fun z c e q=>by
  obtain⟨v,q2⟩:=I3.cell z c e
  exact absurd (q▸q2.lt) (cw _)) fun p hp q=>absurd (q▸fC (I3.pin p hp).1) (cw _)
theorem Iv {X:Cx} {scope:gQ} {x y:Str} (hk:scope.kind= .function) (hn:∀p∈scope.names,p.2≠ .cell/\p.2≠ .free) (hl:∀y∈scope.names,y.2= .local->scope.names.lookup y.1=some .local)
  (hx:scope.names.lookup x=some .local) (hxy:[x,y].Nodup) (hc:gX scope X.env=pure []):qe X [x,y] scope [] (fun _=>[none,none]) 0 x where
 kind:=hk
 cell:=fun y hy=>(hn y hy).1
 names:=hl
 clos:=hc
 lk:=fun y c h=>by simp at h
 has:=fun y h=>by
  rcases h with h|h
  ·obtain⟨k0,e,z⟩:=jn h
   have m:=hn _ (PySem.mem_of_lookup e)
   rcases z with z|⟨z,_⟩
   ·exact absurd z.symm m.1
   ·exact absurd z m.2
  ·obtain⟨k0,e,z⟩:=jn h
   have m:=hn _ (PySem.mem_of_lookup e)
   rcases z with z|⟨z,_⟩
   ·exact absurd z.symm m.2
   ·exact absurd z m.2
 nd:=hxy
 ix:=rfl
 loc:=hx
 len:=fun _ _=>rfl
 val:=fun σ k y v h1 h2=>by
  match k with
  |0=>simp at h2
  |1=>simp at h2
  |k+ 2=>simp at h2
theorem qh {z:Str}:∀{cap:List (Str×Nat×fO)},z∈cap.map (·.1)->∃c,(cap.map fun p=>(p.1,p.2.2)).lookup z=some c
 |[],h=>by simp at h
 |p::r,h=>by
  cases e:z==p.1 with
  |true=>exact⟨p.2.2,by simp only[aD,ba,e]⟩
  |false=>
   have q:z∈r.map (·.1):=by
    rcases aj.mp h with y|y
    ·rw[y]at e;simp at e
    ·exact y
   obtain⟨c,hc⟩:=qh q
   exact⟨c,by simp only[aD,ba,e];exact hc⟩
theorem blkC {X:Cx} {scope:gQ} {x:Str} (ns:List Str) (cap:List (Str×Nat×fO)) (hns:cap.map (·.1)=ns) (hk:scope.kind= .function) (hn:∀p∈scope.names,p.2≠ .cell/\(p.2= .free->p.1∈ns)) (hl:∀y∈scope.names,y.2= .local->scope.names.lookup y.1=some .local)
  (hx:scope.names.lookup x=some .local) (hnd:(x::ns).Nodup) (hc:gX scope X.env=pure (cap.map fun p=>(p.1,p.2.2))) (hok:X.env.scope.kind= .function)
  (h:∀p∈cap,scope.names.lookup p.1=some .free/\X.env.cells.lookup p.1=some p.2.2/\X.env.scope.names.lookup p.1=some .cell/\X.N[p.2.1]?=some p.1):
  qe X (x::ns) scope (cap.map fun p=>(p.1,p.2.2)) (fun σ=>none::cap.map fun p=>σ.getD p.2.1 none) 0 x where
 kind:=hk
 cell:=fun y hy=>(hn y hy).1
 names:=hl
 clos:=hc
 lk:=fun z c q=>by
  have m:=PySem.mem_of_lookup q
  obtain⟨p,hp,e⟩:=bp.mp m
  cases e
  exact(h p hp).2.1
 has:=fun z q=>by
  refine qh ?_
  rw[hns]
  rcases q with q|q
  ·obtain⟨k0,e,q⟩:=jn q
   have m:=hn _ (PySem.mem_of_lookup e)
   rcases q with q|⟨q,_⟩
   ·exact absurd q.symm m.1
   ·exact m.2 q
  ·obtain⟨k0,e,q⟩:=jn q
   have m:=hn _ (PySem.mem_of_lookup e)
   rcases q with q|⟨q,_⟩
   ·exact m.2 q.symm
   ·exact m.2 q
 nd:=hnd
 ix:=rfl
 loc:=hx
 len:=fun _ _=>by simp[<-hns]
 val:=fun σ k z v h1 h2=>by
  cases k with
  |zero=>simp at h2
  |succ k=>
   rw[<-hns,bq,aO]at h1
   rw[bq,aO]at h2
   cases e:cap[k]? with
   |none=>rw[e]at h1;cases h1
   |some p=>
    rw[e]at h1 h2
    have ez:p.1=z:=cR.inj h1
    have ev:σ.getD p.2.1 none=some v:=cR.inj h2
    subst ez
    obtain⟨a1,a2,a3,a4⟩:=h p (aP e)
    rw[br]at ev
    refine⟨p.2.1,a4,?_,a3,km hok a3 a1⟩
    cases q:σ[p.2.1]? with
    |none=>rw[q]at ev;cases ev
    |some o=>rw[q]at ev;exact congrArg some ev
theorem DT:∀{cs:List String} {us:List fQ},jI (cs.map V.ty) us->us=cs.map Value.type
 |[],_,.nil=>rfl
 |c::cs,_,.cons h r=>by
  cases(show _=Value.type c from h)
  rw[DT r];rfl
section
variable {X:Cx}
theorem vC:m9 X (.builtin "isinstance") (fun xs H Q=>∃(x:V) (tp:fO) (cs:List String) (t:fQ) (b:Bool),xs=[x,.ref tp]/\H tp=some (.tup (cs.map V.ty))/\wy X.K H x t/\PySem.W.kitAny X.K t (cs.map Value.type)=some b/\Q (.bl b) H):=by
 intro pz s σ H xs us Q I r h
 obtain⟨x,tp,cs,t,b,rfl,htp,ty,e,q⟩:=h
 obtain⟨u,u',rfl,rx,ru'⟩:=yY r
 cases ru'
 obtain⟨_,its,rv,o,ho,hc,n,hd,_⟩:=(show jG X.prog X.w H s.heap tp (.tup (cs.map V.ty))from I.hok tp _ htp)
 cases DT rv
 obtain⟨oc,od,odt,osl⟩:=o
 cases(show oc=_ from hc)
 cases(show odt=_ from hd)
 have fin:∀tk,EP X pz σ Q (.bool b) {s with toks:=tk}:=fun tk=>⟨.bl b,H,I.tok tk,rfl,q⟩
 cases ty with
 |non=>cases(show u=Value.none from rx);exact dU dG I.kIn True.intro ho e (fun z=>nomatch z) fin
 |bl y=>cases(show u=Value.bool y from rx);exact dU dH I.kIn True.intro ho e (fun z=>nomatch z) fin
 |int i=>obtain⟨t,q⟩:=(show ∃t,u=Value.int i t from rx);cases q;exact dU PySem.W.kitx_int I.kIn True.intro ho e (fun z=>nomatch z) fin
 |str y=>obtain⟨t,q⟩:=(show ∃t,u=Value.str y t from rx);cases q;exact dU PySem.W.kitx_str I.kIn True.intro ho e (fun z=>nomatch z) fin
 |flt y=>obtain⟨t,q⟩:=(show ∃t,u=Value.float y t from rx);cases q;exact dU dI I.kIn True.intro ho e (fun z=>nomatch z) fin
 |@lst a xs ea=>
  cases(show u=Value.ref a from rx)
  obtain⟨_,_,n,_,h1⟩:=(show jG X.prog X.w H s.heap a (.lst xs)from I.hok a _ ea)
  exact dU dJ I.kIn ⟨_,h1,rfl⟩ ho e (fun z=>nomatch z) fin
 |@frz a ob xs ea=>
  cases(show u=Value.ref a from rx)
  obtain⟨_,_,_,n,_,h1⟩:=(show jG X.prog X.w H s.heap a (.frz ob (.lst xs))from I.hok a _ ea)
  exact dU dJ I.kIn ⟨_,h1,rfl⟩ ho e (fun z=>nomatch z) fin
 |@tup a xs ea=>
  cases(show u=Value.ref a from rx)
  obtain⟨_,_,_,p⟩:=(show jG X.prog X.w H s.heap a (.tup xs)from I.hok a _ ea)
  obtain⟨o,h1,h2,_⟩:=p
  exact dU dM I.kIn ⟨o,h1,h2⟩ ho e (fun z=>nomatch z) fin
 |@dK a kvs ea=>
  cases(show u=Value.ref a from rx)
  obtain⟨_,_,vs,_,p⟩:=(show jG X.prog X.w H s.heap a (.dK kvs)from I.hok a _ ea)
  obtain⟨o,es,ep,h1,h2,_⟩:=p
  exact dU dN I.kIn ⟨o,h1,h2.1⟩ ho e (fun z=>nomatch z) fin
 |@dT a kvs ea=>
  cases(show u=Value.ref a from rx)
  obtain⟨_,_,xs,_,o,es,ep,h1,h2,_⟩:=(show jG X.prog X.w H s.heap a (.dT kvs)from I.hok a _ ea)
  exact dU dN I.kIn ⟨o,h1,h2.1⟩ ho e (fun z=>nomatch z) fin
 |@ins a C dx fs ea cl ha hn htk hm=>
  cases(show u=Value.ref a from rx)
  obtain⟨mA,O,_⟩:=rh I.hok ea
  obtain⟨od,J,_⟩:=O.look
  exact dU (PySem.W.kitx_own (cl.get _) cl.hd ha hn htk hm) I.kIn J ho e (fun z=>nomatch z) fin
end
structure JE (K:PySem.W.Frag) (C:fO) (m:Str) (f:fO):Prop where
 ga:dD K (.ref C) "__getattribute__"=some (some (.builtin "type.__getattribute__"))
 rd:∃mc,PySem.W.readsIn K C mc=true/\PySem.W.findCls K (.ref C) mc m=some (.val (.ref f))
 kp:dE K (.ref f)=true
section
variable {X:Cx} {CX:CXT} {k:Nat} {f C:fO} {fd:gu} {ps:List Str} {sp:Sp} {dvs:List V} {ds:List fQ} {E:XK} {m:Str} {pos apos:Pos} {e o:gS} {es:List gS} {t:TA}
theorem ue {pl:Sem Bool} (he:PE X o (tC (.ref C))) (c:JE X.K C m f) (F:vf X.prog X.w X.K X.mg X.base CX k f fd ps sp) (hr:ou k X.A) (hb:qK X.K fd ps ds) (hd:jI dvs ds) (hx:qC CX X E) (ha:PA X (e::es) t)
  (hst:autoParam (gn (e::es) X.env=(false,eval e X.env)::gn es X.env) L2.Internal.auR._auto_1) (hpl:autoParam ((gN pos (gn es X.env)).any (·.1)=false) L2.Internal.auR._auto_1)
  (ht:eval (.Call (.Attribute o m apos) (e::es) [] pos) X.env=(do
   let ov<-eval o X.env
   standAt apos.atName
   let(f,first)<-holding [ov] (getMethod ov m pl)
   callWith pos f first (gN pos (gn (e::es) X.env)) (backToKw pos (keywordEach [] X.env))):=by rfl):
  PE X (.Call (.Attribute o m apos) (e::es) [] pos) (Ce sp dvs E t):=by
 intro pz s σ H Q I h
 refine dP (pl:=pl) (thn (he pz s σ H (fun v H1=>v= .ref C/\Ce sp dvs E t σ H1 Q) I ⟨rfl,h⟩) fun u s1 ⟨x,H1,I1,rx,ex,q⟩=>?_) ht
 subst ex
 obtain rfl:u=Value.ref C:=rx
 obtain⟨mc,hr1,hf⟩:=c.rd
 refine PySem.W.method_cls I1.kIn c.ga (PySem.W.cls_value I1.kIn hr1 hf rfl ?_)
 refine dO (first:=[]) (h₀:=X.base) I.ok.mod.kin c.kp (thn (ha pos pz _ σ H1 _ (I1.tok (s1.toks+ 1)) q) fun us s2 ⟨vs,H2,I2,r,q2⟩=>⟨I2.kIn,?_⟩) hst hpl
 exact z9 (us:=us) (vs:=vs) F hr hb hd hx I2 r q2
theorem PE.or {X:Cx} {e:gS} {t u:TE} (h:PE X e t) (h':PE X e u):PE X e (fun σ H Q=>t σ H Q\/u σ H Q):=fun pz s σ H Q I hw=>hw.elim (h pz s σ H Q I) (h' pz s σ H Q I)
theorem PI.or {X:Cx} {tg e:gS} {t u:TI} (h:PI X tg e t) (h':PI X tg e u):PI X tg e (fun σ H R=>t σ H R\/u σ H R):=fun pz s σ H R I hw=>hw.elim (h pz s σ H R I) (h' pz s σ H R I)
end
section
variable {X:Cx}
theorem DU:gx "max"=some (.builtin "max"):=iJ
theorem Ar (hc:X.calm=true):m9 X (.builtin "sum") (fun xs H Q=>∃(a:fO) (ns:List Int),xs=[.ref a]/\SqL X.K H a (ns.map V.int)/\∀n,Q (.int n) H):=by
 intro pz s σ H xs us Q I r h
 obtain⟨a,ns,rfl,hq,q⟩:=h
 obtain⟨u,rfl,ru⟩:=nj r
 cases ru
 obtain⟨its,rv,p,hz⟩:=I.list hq
 obtain⟨zs,e⟩:=(qd rv).allInts.items
 have l:=p.isList
 rw[e]at l
 exact sum_intListG (I.ok.hd hc) l fun h' tk t' hk=>⟨.int _,H,I.kept (t':=tk) hk,⟨_,rfl⟩,q _⟩
end
theorem pJ {X:Cx} {elt iter:gS} {x y:Str} {j:Nat} {py spos:Pos} {px:Pos} {ifs:List gS} {scope:gQ} {pos:Pos} {N:List Str} {cl:List (Str×fO)} {f:St->St} {i:Nat} {wi:TI} {tt:TT} {te:TE}
  (hc:X.calm=true) (B:qe X N scope cl f i x) (hi:PI X (.Name x px) iter wi)
  (htt:∀C s₀ H₀ ex pz,PTs (blk X N scope cl C s₀ H₀ ex pz) ifs tt) (hte:∀C s₀ H₀ ex pz,PE (blk X N scope cl C s₀ H₀ ex pz) elt te)
  (hN:X.N.Nodup) (hj:X.N[j]?=some y) (hy:Loc X.env.scope y) (hsw:autoParam (swapsWith (.ListComp elt [⟨.Name x px,iter,ifs,0⟩] scope pos) (some (.Name y py)) spos.line X.env=pure true) L2.Internal.auR._auto_1) (hs:autoParam (∀x,gG iter X.env x=pure x) L2.Internal.auI._auto_1)
  (hf:autoParam (X.fn y=true\/X.env.scope.names.lookup y=some .local) L2.Internal.auL._auto_1):PS X (.Assign [.Name y py] (.ListComp elt [⟨.Name x px,iter,ifs,0⟩] scope pos) spos) (Gp (tLC wi f i tt te) (iO j)):=by
 intro pz s σ H En I h
 rw[exec_Assign_Name_used _ _ _ _ hsw]
 refine fV (wpAny_standAt (fV ?_))
 show f6 _ X.A (do let _<-comprehension (.ListComp elt [⟨.Name x px,iter,ifs,0⟩] scope pos) scope X.env _ (newList []) false (eval iter X.env) (some (assign (.Name y py) X.env))) _ _ s
 refine fV (fX (An (Qp:=fun _ s'=>SP X pz En .next s') hc B hi htt hte hs I h fun fl s3 s6 H3 H5 d m6 I3 I7 fr hn6 qn=>?_) (fun _ s' hq=>fW (fW hq)) fun _ _ e=>e)
 obtain⟨oC,es,ep,hoC,hdC,hkC⟩:=id hn6
 have hCL:s3.heap.objs.size≠X.env.locals:=cA I3.lt
 have I8:Inv X (pz++[(s3.heap.objs.size,oC)]) σ H5 s6:=I7.pins_of fun p hp=>(ak.mp hp).elim (fun z=>I7.pin p (az _ z)) fun z=>by
  have ez:p=(s3.heap.objs.size,oC):=by simpa using z
  subst ez
  exact⟨hoC,fr,hCL,I3.nofs (cB _),fun v q=>by rw[hdC]at q;cases q⟩
 show f6 _ X.A (assign (.Name y py) X.env (.ref d)) _ _ s6
 refine wpAny_assign_Name (ot (X:=X) I8 hN hj hy (v:= .ref d) rfl (fun s7 I9=>?_) hf)
 have pC:=I9.pin (s3.heap.objs.size,oC) (az _ (az _ (by simp)))
 refine⟨m6,⟨oC,es,ep,pC.1,hdC,hkC⟩,fun h' sb=>?_⟩
 refine⟨σ.set j (some (.ref d)),H5,?_,qn⟩
 exact Inv.turned (h':=h') (t':=s7.toks) (it:=s3.heap.objs.size) I9.unpinned (fun b o hb e=>(sb.2 b hb).trans e) pC.2.1 hCL (.inr I3.sz) (fun z c e q=>by
  obtain⟨v,q2⟩:=I3.cell z c e
  exact absurd (q▸q2.lt) (cw _)) fun p hp q=>absurd (q▸fC (I3.pin p hp).1) (cw _)
section
variable {prog:f9} {w:gm} {A:gf} {E:fQ->fR->Prop} {s:fR}
theorem As {j t:fO} {i:Nat} {its} {x:fQ} {Q:fQ->fR->Prop} (g:s.heap.IsTupleIter j t i) (d:s.heap.IsTuple t its) (e:its[i]?=some x)
  (k:∀h',h'.IsTupleIter j t (i+ 1)->Heap.SameBut j s.heap h'->Q x {s with heap:=h'}):f6 (f7 prog w) A (Builtin.SmallTypes.nextOf (.ref j)) Q E s:=by
 obtain⟨og,gg,gc,gd⟩:=id g
 obtain⟨od,dd,_,dn,de⟩:=d
 unfold Builtin.SmallTypes.nextOf
 refine fV (wpAny_callSpecial?_slot (name:=Str.ofString "__next__") g.typeIs F.slot_tuple_iterator_next (gE F.slot_tuple_iterator_next g.typeIs F.entry_tuple_iterator_next ?_ (F.args_tuple_iterator_next_1 _)))
 show f6 _ _ (field (.ref j) 0 >>= _) _ _ s
 refine fV (gy gg gd (x:= .ref t) rfl ?_)
 show f6 _ _ (if(Value.ref t==Value.none)=true then _ else _) _ _ s
 rw[iT (show ¬((Value.ref t==Value.none)=true)from fun q=>nomatch q)]
 show f6 _ _ (field (.ref j) 1 >>= _) _ _ s
 refine fV (gy gg gd (x:= .int i 0) rfl ?_)
 refine fV (gC dd de ?_)
 simp only[eZ,e]
 refine fV (wpAny_setField gg gd (by simp) (fW ⟨x,rfl,fW (k _ ?_ (Heap.SameBut.update ..))⟩))
 exact⟨_,fI _ gg (Obj.isFreed_of_fields (Obj.data_mapFields gd _)),(Obj.cls_mapFields ..).trans gc,by rw[Obj.data_mapFields gd];simp[rawInt]⟩
theorem tF {j t:fO} {i:Nat} {its} {Q:fQ->fR->Prop} (hh:A.handled=none) (g:s.heap.IsTupleIter j t i) (d:s.heap.IsTuple t its) (e:its[i]?=none)
  (k:∀h' x,Heap.ExtBut j s.heap h'->(∃o,h'.get? x=some o/\o.cls= .type "StopIteration")->E (.ref x) {s with heap:=h'}):f6 (f7 prog w) A (Builtin.SmallTypes.nextOf (.ref j)) Q E s:=by
 obtain⟨og,gg,gc,gd⟩:=id g
 obtain⟨od,dd,_,dn,de⟩:=d
 unfold Builtin.SmallTypes.nextOf
 refine fV (wpAny_callSpecial?_slot (name:=Str.ofString "__next__") g.typeIs F.slot_tuple_iterator_next (gE F.slot_tuple_iterator_next g.typeIs F.entry_tuple_iterator_next ?_ (F.args_tuple_iterator_next_1 _)))
 show f6 _ _ (field (.ref j) 0 >>= _) _ _ s
 refine fV (gy gg gd (x:= .ref t) rfl ?_)
 show f6 _ _ (if(Value.ref t==Value.none)=true then _ else _) _ _ s
 rw[iT (show ¬((Value.ref t==Value.none)=true)from fun q=>nomatch q)]
 show f6 _ _ (field (.ref j) 1 >>= _) _ _ s
 refine fV (gy gg gd (x:= .int i 0) rfl ?_)
 refine fV (gC dd de ?_)
 simp only[eZ,e]
 refine fV (gU (fV (wpAny_setField gg gd (by simp) ?_)))
 show f6 _ _ (newExc (.type "StopIteration") [] >>= _) _ _ _
 refine fV ?_
 simp only[newExc,newTuple]
 refine fV (gA ?_ (by size_fits))
 refine fV (m:=firstArgMember _ _) (wpAny_of_eq (a:=Value.none) (by first|rfl|(unfold firstArgMember;rfl)) ?_)
 refine gA ?_ (by size_fits)
 simp only[raiseNew]
 refine fV (wpAny_handled ?_)
 first|rw[hh]|rw[show A.in1.handled=none from hh]
 exact fV (fW (wpAny_throw (k _ _ (((Heap.SameBut.update ..).extBut.push _).push _) ⟨_,fE _ rfl,rfl⟩)))
theorem EV {z TI TO j1 j2 t1 t2:fO} {k1 k2:Nat} {xs ys:Array fQ} {x y a b:fQ} {Q:fQ->fR->Prop} (D:ZipApart z TI TO j1 j2 t1 t2)
  (gz:IsZip s.heap z TI TO .none) (gI:IsPair s.heap TI (.ref j1) (.ref j2)) (gO:IsPair s.heap TO a b)
  (g1:s.heap.IsTupleIter j1 t1 k1) (g2:s.heap.IsTupleIter j2 t2 k2) (d1:s.heap.IsTuple t1 xs) (d2:s.heap.IsTuple t2 ys) (ex:xs[k1]?=some x) (ey:ys[k2]?=some y)
  (k:∀h',IsZip h' z TI TO (rawInt s.heap.objs.size)->IsPair h' TO x y->h'.IsTupleIter j1 t1 (k1+ 1)->h'.IsTupleIter j2 t2 (k2+ 1)->IsPair h' s.heap.objs.size x y->h'.objs.size=s.heap.objs.size+ 1->
   (∀c o,c≠z->c≠TO->c≠j1->c≠j2->s.heap.get? c=some o->h'.get? c=some o)->Q (.ref s.heap.objs.size) {s with heap:=h'}):
  f6 (f7 prog w) A (Builtin.«zip.__next__» ⟨[.ref z],[]⟩) (fun fin s'=>∃v,fin= .done (.ret v)/\Q v s') E s:=by
 show f6 _ _ (field (.ref z) 2 >>= _) _ _ _
 refine fV (gy gz rfl (x:= .bool false) rfl ?_)
 show f6 _ _ (field (.ref z) 3 >>= _) _ _ _
 refine fV (gy gz rfl (x:= .ref TI) rfl ?_)
 refine fV (gC gI rfl ?_)
 show f6 _ _ (Builtin.SmallTypes.ownedTupleIsFree (.ref z) >>= _) _ _ _
 refine fV ?_
 unfold Builtin.SmallTypes.ownedTupleIsFree
 refine fV (gy gz rfl (x:= .none) rfl (fW ?_))
 simp only[if_true]
 refine fV (gU (fV (gy gz rfl (x:= .ref TO) rfl ?_)))
 refine fV (gJ gz (by simp) fun q1 gz1 b1=>?_)
 replace gz1:IsZip q1 z TI TO .ellipsis:=gz1
 refine fV ?_
 simp only[List.zipIdx_cons,List.zipIdx_nil,List.forIn_cons,List.forIn_nil]
 refine fV (fV (wpAny_onRaise ?_))
 show f6 _ _ (Builtin.SmallTypes.nextOf (.ref j1) >>= _) _ _ _
 refine fV (As (g1.extBut b1.extBut D.i1z) (d1.extBut b1.extBut D.l1z) ex fun q2 g12 b2=>fW ?_)
 have gO2:IsPair q2 TO a b:=b2.extBut _ _ D.TOi1 (b1.extBut _ _ D.TOz gO)
 refine fV (gC gO2 rfl (fV (wpAny_updateSeq_pair gO2 fun q3 gO3 b3=>?_)))
 replace gO3:IsPair q3 TO x b:=gO3
 refine fV (wpAny_letGo (fW (fV (fV (wpAny_onRaise ?_)))))
 show f6 _ _ (Builtin.SmallTypes.nextOf (.ref j2) >>= _) _ _ _
 refine fV (As (((g2.extBut b1.extBut D.i2z).extBut b2.extBut D.i12.symm).extBut b3.extBut D.TOi2.symm) (((d2.extBut b1.extBut D.l2z).extBut b2.extBut D.l2i1).extBut b3.extBut D.l2TO) ey fun q4 g24 b4=>fW ?_)
 have gO4:IsPair q4 TO x b:=b4.extBut _ _ D.TOi2 gO3
 refine fV (gC gO4 rfl (fV (wpAny_updateSeq_pair gO4 fun q5 gO5 b5=>?_)))
 replace gO5:IsPair q5 TO x y:=gO5
 refine fV (wpAny_letGo (fW (fW (fV (gC gO5 rfl (fV (wpAny_newTuple ?_)))))))
 have sz:q5.objs.size=s.heap.objs.size:=by rw[b5.1,b4.1,b3.1,b2.1,b1.1]
 have gz5:IsZip q5 z TI TO .ellipsis:=b5.extBut _ _ D.TOz.symm (b4.extBut _ _ D.i2z.symm (b3.extBut _ _ D.TOz.symm (b2.extBut _ _ D.i1z.symm gz1)))
 have kp5:∀c o,c≠z->c≠TO->c≠j1->c≠j2->s.heap.get? c=some o->q5.get? c=some o:=fun c o n1 n2 n3 n4 e=>
  b5.extBut _ _ n2 (b4.extBut _ _ n4 (b3.extBut _ _ n2 (b2.extBut _ _ n3 (b1.extBut _ _ n1 e))))
 have g15:q5.IsTupleIter j1 t1 (k1+ 1):=((g12.extBut b3.extBut D.TOi1.symm).extBut b4.extBut D.i12).extBut b5.extBut D.TOi1.symm
 have g25:q5.IsTupleIter j2 t2 (k2+ 1):=g24.extBut b5.extBut D.TOi2.symm
 have zlt:z<q5.objs.size:=fC gz5
 show f6 _ _ (Builtin.SmallTypes.ownedTupleHandOut (.ref z) (.ref q5.objs.size) >>= _) _ _ _
 refine fV ?_
 unfold Builtin.SmallTypes.ownedTupleHandOut
 have gz6:IsZip (q5.push {cls:= .type "tuple",data:= .seq #[x,y]}) z TI TO .ellipsis:=fF _ gz5
 refine fV (gJ gz6 (by simp) fun q7 gz7 b7=>?_)
 replace gz7:IsZip q7 z TI TO (rawInt q5.objs.size):=gz7
 refine gJ gz7 (by simp) fun q8 gz8 b8=>?_
 replace gz8:IsZip q8 z TI TO (rawInt q5.objs.size):=gz8
 have up:∀c o,c≠z->q5.get? c=some o->q8.get? c=some o:=fun c o n1 e=>b8.extBut _ _ n1 (b7.extBut _ _ n1 (fF _ e))
 have gT8:IsPair q8 q5.objs.size x y:=b8.extBut _ _ (cA zlt) (b7.extBut _ _ (cA zlt) (fE _ rfl))
 have sz8:q8.objs.size=q5.objs.size+ 1:=by rw[b8.1,b7.1,fG]
 rw[sz]at gz8 gT8 sz8
 refine fW ⟨_,rfl,?_⟩
 show Q (.ref q5.objs.size) _
 rw[sz]
 refine k q8 gz8 (up _ _ D.TOz gO5) ?_ ?_ gT8 sz8 fun c o n1 n2 n3 n4 e=>up c o n1 (kp5 c o n1 n2 n3 n4 e)
 ·obtain⟨o,e,r⟩:=g15;exact⟨o,up _ o D.i1z e,r⟩
 ·obtain⟨o,e,r⟩:=g25;exact⟨o,up _ o D.i2z e,r⟩
theorem GN {z TI TO j1 j2 t1 t2:fO} {k1 k2:Nat} {xs ys:Array fQ} {a b:fQ} {Q:Fin->fR->Prop} (hh:A.handled=none) (D:ZipApart z TI TO j1 j2 t1 t2)
  (gz:IsZip s.heap z TI TO .none) (gI:IsPair s.heap TI (.ref j1) (.ref j2)) (gO:IsPair s.heap TO a b)
  (g1:s.heap.IsTupleIter j1 t1 k1) (g2:s.heap.IsTupleIter j2 t2 k2) (d1:s.heap.IsTuple t1 xs) (d2:s.heap.IsTuple t2 ys) (hend:xs[k1]?=none\/ys[k2]?=none)
  (k:∀h' e,(∀c o,c≠z->c≠TO->c≠j1->c≠j2->s.heap.get? c=some o->h'.get? c=some o)->(∃o,h'.get? e=some o/\o.cls= .type "StopIteration")->E (.ref e) {s with heap:=h'}):
  f6 (f7 prog w) A (Builtin.«zip.__next__» ⟨[.ref z],[]⟩) Q E s:=by
 show f6 _ _ (field (.ref z) 2 >>= _) _ _ _
 refine fV (gy gz rfl (x:= .bool false) rfl ?_)
 show f6 _ _ (field (.ref z) 3 >>= _) _ _ _
 refine fV (gy gz rfl (x:= .ref TI) rfl ?_)
 refine fV (gC gI rfl ?_)
 show f6 _ _ (Builtin.SmallTypes.ownedTupleIsFree (.ref z) >>= _) _ _ _
 refine fV ?_
 unfold Builtin.SmallTypes.ownedTupleIsFree
 refine fV (gy gz rfl (x:= .none) rfl (fW ?_))
 simp only[if_true]
 refine fV (gU (fV (gy gz rfl (x:= .ref TO) rfl ?_)))
 refine fV (gJ gz (by simp) fun q1 gz1 b1=>?_)
 replace gz1:IsZip q1 z TI TO .ellipsis:=gz1
 refine fV ?_
 simp only[List.zipIdx_cons,List.zipIdx_nil,List.forIn_cons,List.forIn_nil]
 refine fV (fV (wpAny_onRaise ?_))
 show f6 _ _ (Builtin.SmallTypes.nextOf (.ref j1) >>= _) _ _ _
 cases ex:xs[k1]? with
 |none=>
  refine fV (tF hh (g1.extBut b1.extBut D.i1z) (d1.extBut b1.extBut D.l1z) ex fun q2 e b2 he=>?_)
  obtain⟨oe,hoe,hce⟩:=he
  have gz2:IsZip q2 z TI TO .ellipsis:=b2 _ _ D.i1z.symm gz1
  have nz:e≠z:=fun q=>by subst q;rw[gz2]at hoe;cases hoe;simp at hce
  refine gJ gz2 (by simp) fun q3 _ b3=>k q3 e (fun c o n1 _ n3 _ q=>b3.extBut _ _ n1 (b2 _ _ n3 (b1.extBut _ _ n1 q))) ⟨oe,b3.extBut _ _ nz hoe,hce⟩
 |some x=>
  have ey:ys[k2]?=none:=hend.elim (fun q=>by rw[ex]at q;cases q) id
  refine fV (As (g1.extBut b1.extBut D.i1z) (d1.extBut b1.extBut D.l1z) ex fun q2 g12 b2=>fW ?_)
  have gO2:IsPair q2 TO a b:=b2.extBut _ _ D.TOi1 (b1.extBut _ _ D.TOz gO)
  refine fV (gC gO2 rfl (fV (wpAny_updateSeq_pair gO2 fun q3 gO3 b3=>?_)))
  refine fV (wpAny_letGo (fW (fV (fV (wpAny_onRaise ?_)))))
  show f6 _ _ (Builtin.SmallTypes.nextOf (.ref j2) >>= _) _ _ _
  refine fV (tF hh (((g2.extBut b1.extBut D.i2z).extBut b2.extBut D.i12.symm).extBut b3.extBut D.TOi2.symm) (((d2.extBut b1.extBut D.l2z).extBut b2.extBut D.l2i1).extBut b3.extBut D.l2TO) ey fun q4 e b4 he=>?_)
  obtain⟨oe,hoe,hce⟩:=he
  have gz4:IsZip q4 z TI TO .ellipsis:=b4 _ _ D.i2z.symm (b3.extBut _ _ D.TOz.symm (b2.extBut _ _ D.i1z.symm gz1))
  have nz:e≠z:=fun q=>by subst q;rw[gz4]at hoe;cases hoe;simp at hce
  refine gJ gz4 (by simp) fun q5 _ b5=>k q5 e (fun c o n1 n2 n3 n4 q=>b5.extBut _ _ n1 (b4 _ _ n4 (b3.extBut _ _ n2 (b2.extBut _ _ n3 (b1.extBut _ _ n1 q))))) ⟨oe,b5.extBut _ _ nz hoe,hce⟩
theorem Au {z TI TO j1 j2 t1 t2:fO} {k1 k2:Nat} {xs ys:Array fQ} {x y a b:fQ} {Q:Option fQ->fR->Prop} (D:ZipApart z TI TO j1 j2 t1 t2)
  (gz:IsZip s.heap z TI TO .none) (gI:IsPair s.heap TI (.ref j1) (.ref j2)) (gO:IsPair s.heap TO a b)
  (g1:s.heap.IsTupleIter j1 t1 k1) (g2:s.heap.IsTupleIter j2 t2 k2) (d1:s.heap.IsTuple t1 xs) (d2:s.heap.IsTuple t2 ys) (ex:xs[k1]?=some x) (ey:ys[k2]?=some y)
  (k:∀h',IsZip h' z TI TO (rawInt s.heap.objs.size)->IsPair h' TO x y->h'.IsTupleIter j1 t1 (k1+ 1)->h'.IsTupleIter j2 t2 (k2+ 1)->IsPair h' s.heap.objs.size x y->h'.objs.size=s.heap.objs.size+ 1->
   (∀c o,c≠z->c≠TO->c≠j1->c≠j2->s.heap.get? c=some o->h'.get? c=some o)->Q (some (.ref s.heap.objs.size)) {s with heap:=h'}):
  f6 (f7 prog w) A (pyNext (.ref z)) Q E s:=by
 have tz:s.TypeIs (.ref z) "zip":=⟨_,gz,rfl⟩
 unfold pyNext
 exact fV (wpAny_attempt (wpAny_callSpecial?_slot (name:=Str.ofString "__next__") tz F.slot_zip_next (gE F.slot_zip_next tz F.entry_zip_next
   (EV D gz gI gO g1 g2 d1 d2 ex ey fun h' a1 a2 a3 a4 a5 a6 a7=>fW (k h' a1 a2 a3 a4 a5 a6 a7)) (F.args_zip_next_1 _))))
theorem uf {z TI TO j1 j2 t1 t2:fO} {k1 k2:Nat} {xs ys:Array fQ} {a b:fQ} {Q:Option fQ->fR->Prop} (hh:A.handled=none) (D:ZipApart z TI TO j1 j2 t1 t2)
  (gz:IsZip s.heap z TI TO .none) (gI:IsPair s.heap TI (.ref j1) (.ref j2)) (gO:IsPair s.heap TO a b)
  (g1:s.heap.IsTupleIter j1 t1 k1) (g2:s.heap.IsTupleIter j2 t2 k2) (d1:s.heap.IsTuple t1 xs) (d2:s.heap.IsTuple t2 ys) (hend:xs[k1]?=none\/ys[k2]?=none)
  (k:∀h',(∀c o,c≠z->c≠TO->c≠j1->c≠j2->s.heap.get? c=some o->h'.get? c=some o)->Q none {s with heap:=h'}):f6 (f7 prog w) A (pyNext (.ref z)) Q E s:=by
 have tz:s.TypeIs (.ref z) "zip":=⟨_,gz,rfl⟩
 unfold pyNext
 refine fV (wpAny_attempt (wpAny_callSpecial?_slot (name:=Str.ofString "__next__") tz F.slot_zip_next (gE F.slot_zip_next tz F.entry_zip_next (GN hh D gz gI gO g1 g2 d1 d2 hend fun h' e kp he=>?_) (F.args_zip_next_1 _))))
 obtain⟨o,ho,hc⟩:=he
 exact fV (wpAny_isInstance (T:="StopIteration") (b:=true) ⟨o,ho,hc⟩ isSubtype_stop (fW (k _ kp)))
end
abbrev zt1 (h:Heap) (t1:fO):Heap:=h.push {cls:= .type "tuple_iterator",data:= .fields #[.ref t1,.int 0 0]}
abbrev zt2 (h:Heap) (t1 t2:fO):Heap:=(zt1 h t1).push {cls:= .type "tuple_iterator",data:= .fields #[.ref t2,.int 0 0]}
abbrev zt3 (h:Heap) (t1 t2:fO):Heap:=(zt2 h t1 t2).push {cls:= .type "tuple",data:= .seq #[.ref h.objs.size,.ref (zt1 h t1).objs.size]}
abbrev zt4 (h:Heap) (t1 t2:fO):Heap:=(zt3 h t1 t2).push {cls:= .type "tuple",data:= .seq #[.none,.none]}
abbrev zt5 (h:Heap) (t1 t2:fO):Heap:=(zt4 h t1 t2).push {cls:= .type "zip",data:= .fields #[.none,.bool false,.bool false,.ref (zt2 h t1 t2).objs.size,.ref (zt3 h t1 t2).objs.size]}
theorem GO (t1 t2:fO) (xs ys:Array fQ):Meets (Builtin.«zip.__new__» ⟨[.type "zip",.ref t1,.ref t2],[]⟩) (fun _ R s=>s.heap.IsTuple t1 xs/\s.heap.IsTuple t2 ys/\R (.ok (.ret (.ref (zt4 s.heap t1 t2).objs.size))) {s with heap:=zt5 s.heap t1 t2}):=
 .of_wp fun prog w A R s h=>by
  obtain⟨hp,g,d,tk,os⟩:=s;obtain⟨d1,d2,h⟩:=h
  have hsub:=sub_zip
  have dd1:Heap.IsTuple (Shared.heap ⟨hp,g,d,tk,os⟩) t1 xs:=d1
  have dd2:Heap.IsTuple (Shared.heap ⟨hp.push {cls:= .type "tuple_iterator",data:= .fields #[.ref t1,.int 0 0]},g,d,tk,os⟩) t2 ys:=Heap.IsTuple.push d2 _
  wp_walk using wpAny_pyIter_tuple dd1,wpAny_pyIter_tuple dd2
  exact⟨_,rfl,h⟩
section
variable {prog:f9} {w:gm} {A:gf} {E:fQ->fR->Prop} {s:fR}
theorem Av {t1 t2:fO} {xs ys:Array fQ} {Q:fQ->fR->Prop} (d1:s.heap.IsTuple t1 xs) (d2:s.heap.IsTuple t2 ys)
  (k:∀h',IsZip h' (s.heap.objs.size+ 4) (s.heap.objs.size+ 2) (s.heap.objs.size+ 3) .none->IsPair h' (s.heap.objs.size+ 2) (.ref s.heap.objs.size) (.ref (s.heap.objs.size+ 1))->
   IsPair h' (s.heap.objs.size+ 3) .none .none->h'.IsTupleIter s.heap.objs.size t1 0->h'.IsTupleIter (s.heap.objs.size+ 1) t2 0->(∀c o,s.heap.get? c=some o->h'.get? c=some o)->Q (.ref (s.heap.objs.size+ 4)) {s with heap:=h'}):
  f6 (f7 prog w) A (call (.type "zip") [.ref t1,.ref t2]) Q E s:=by
 refine callType_new F.called_zip (by decide) (F.typeCall_zip_2 _ _) (F.newCall_zip_2 _ _) (fun obj=>F.args_object_init_3 obj _ _) F.entry_zip_new (GO t1 t2 xs ys) ⟨d1,d2,?_⟩
 have z1:(zt1 s.heap t1).objs.size=s.heap.objs.size+ 1:=fG ..
 have z2:(zt2 s.heap t1 t2).objs.size=s.heap.objs.size+ 2:=by rw[fG,z1]
 have z3:(zt3 s.heap t1 t2).objs.size=s.heap.objs.size+ 3:=by rw[fG,z2]
 have z4:(zt4 s.heap t1 t2).objs.size=s.heap.objs.size+ 4:=by rw[fG,z3]
 have m5:(zt5 s.heap t1 t2).get? (zt4 s.heap t1 t2).objs.size=some _:=fE _ rfl
 have m4:(zt5 s.heap t1 t2).get? (zt3 s.heap t1 t2).objs.size=some _:=fF _ (fE _ rfl)
 have m3:(zt5 s.heap t1 t2).get? (zt2 s.heap t1 t2).objs.size=some _:=fF _ (fF _ (fE _ rfl))
 have m2:(zt5 s.heap t1 t2).get? (zt1 s.heap t1).objs.size=some _:=fF _ (fF _ (fF _ (fE _ rfl)))
 have m1:(zt5 s.heap t1 t2).get? s.heap.objs.size=some _:=fF _ (fF _ (fF _ (fF _ (fE _ rfl))))
 show _/\_
 rw[z2,z3,z4]at m5
 rw[z1,z2]at m3
 rw[z3]at m4
 rw[z1]at m2
 rw[z4]
 exact⟨⟨_,m5,rfl⟩,k _ m5 m3 m4 ⟨_,m1,rfl,rfl⟩ ⟨_,m2,rfl,rfl⟩ fun c o q=>fF _ (fF _ (fF _ (fF _ (fF _ q))))⟩
end
def JF (K:PySem.W.Frag) (a b:fO):It:=
 ⟨fun i H=>∃xs ys x y,SqT K H a xs/\SqT K H b ys/\xs[i]?=some x/\ys[i]?=some y,
   fun i H v H'=>∃T x y,v= .ref T/\H T=none/\H'=upd H T (.tup [x,y])/\(∀xs,SqT K H a xs->xs[i]?=some x)/\∀ys,SqT K H b ys->ys[i]?=some y,
   fun i H=>∃xs ys,SqT K H a xs/\SqT K H b ys/\i=min xs.length ys.length⟩
def ZTSt (z TI TO i1 i2 a b:fO) (i:Nat) (h:Heap):Prop:=IsZip h z TI TO .none/\IsPair h TI (.ref i1) (.ref i2)/\(∃u v,IsPair h TO u v)/\h.IsTupleIter i1 a i/\h.IsTupleIter i2 b i
theorem Aw {P:f9} {w:gm} {K:PySem.W.Frag} {es:List gS} {kk:Nat} {tp:Pos} {a b z TI TO i1 i2:fO} (D:ZipApart z TI TO i1 i2 a b):DC P w K (.Tuple es kk tp) (JF K a b) [z,TI,TO,i1,i2] z (ZTSt z TI TO i1 i2 a b) where
 mem:=by simp
 obj:=fun i h st c hc=>by
  obtain⟨g1,g2,⟨u,v,g3⟩,⟨o4,g4,_,d4⟩,⟨o5,g5,_,d5⟩⟩:=st
  simp only[aj,bo,or_false]at hc
  rcases hc with e|e|e|e|e<;>subst e
  ·exact⟨_,g1,fun v q=>nomatch q⟩
  ·exact⟨_,g2,fun v q=>nomatch q⟩
  ·exact⟨_,g3,fun v q=>nomatch q⟩
  ·exact⟨_,g4,fun v q=>by rw[d4]at q;cases q⟩
  ·exact⟨_,g5,fun v q=>by rw[d5]at q;cases q⟩
 keep:=fun i h h' st k=>by
  obtain⟨g1,g2,⟨u,v,g3⟩,⟨o4,g4,r4⟩,⟨o5,g5,r5⟩⟩:=st
  exact⟨k z (by simp) _ g1,k TI (by simp) _ g2,⟨u,v,k TO (by simp) _ g3⟩,⟨o4,k i1 (by simp) o4 g4,r4⟩,⟨o5,k i2 (by simp) o5 g5,r5⟩⟩
 item:=by
  intro X hP hw hK hc i pz s σ H E I hf st hg
  subst hP hw hK
  obtain⟨xs,ys,x,y,qx,qy,ex,ey⟩:=hg
  obtain⟨i1s,r1,p1,z1⟩:=I.tuple qx
  obtain⟨i2s,r2,p2,z2⟩:=I.tuple qy
  obtain⟨g1,g2,⟨u,v,g3⟩,g4,g5⟩:=st
  obtain⟨ux,hux,rr1⟩:=r1.get ex
  obtain⟨uy,huy,rr2⟩:=r2.get ey
  have hw:∀c∈[z,TO,i1,i2],wj X pz H c:=fun c hc=>hf c (by simp only[aj,bo,or_false]at hc⊢;first|(rcases hc with h|h|h|h<;>simp[h])|simp[hc])
  refine Au D g1 g2 g3 g4 g5 (show s.heap.IsTuple a i1s.toArray from p1) (show s.heap.IsTuple b i2s.toArray from p2) (x:=ux) (y:=uy) (by simpa using hux) (by simpa using huy) fun h1 a1 a2 a3 a4 a5 a6 hk=>?_
  have kk1:∀c o,c∉[z,TO,i1,i2]->s.heap.get? c=some o->h1.get? c=some o:=fun c o hc e=>hk c o (fun q=>hc (by simp[q])) (fun q=>hc (by simp[q])) (fun q=>hc (by simp[q])) (fun q=>hc (by simp[q])) e
  have J1:Inv X pz σ H {s with heap:=h1,toks:=s.toks}:=I.turnedL kk1 hw
  refine⟨.ref s.heap.objs.size,rfl,wpAny_letOwnedTupleGo_zip a1 fun h2 a1' sb=>?_⟩
  have J2:Inv X pz σ H {s with heap:=h2,toks:=s.toks}:=Inv.turnedL (s:={s with heap:=h1,toks:=s.toks}) (h':=h2) (t':=s.toks) (ch:=[z]) J1 (fun c o hc e=>sb.extBut _ _ (fun q=>hc (by simp[q])) e) fun c hc=>hf c (by simp only[aj,bo,or_false]at hc⊢;first|(rcases hc with h|h|h|h<;>simp[h])|simp[hc])
  have zlt:z<s.heap.objs.size:=fC g1
  have ht2:yU h2 s.heap.objs.size #[ux,uy]:=⟨_,sb.extBut _ _ (cA zlt) a5,rfl,_,rfl,rfl⟩
  obtain⟨fT,J3⟩:=I.pairNew (cB _) J2 ht2 rr1 rr2
  refine⟨.ref s.heap.objs.size,_,J3,rfl,⟨_,x,y,rfl,fT,rfl,fun l hl=>by rw[I.tuple_inj hl qx];exact ex,fun l hl=>by rw[I.tuple_inj hl qy];exact ey⟩,
   ⟨a1',sb.extBut _ _ D.TIz (hk _ _ D.TIz D.TITO D.TIi1 D.TIi2 g2),⟨_,_,sb.extBut _ _ D.TOz a2⟩,a3.extBut sb.extBut D.i1z,a4.extBut sb.extBut D.i2z⟩,fun c hc=>?_⟩
  rw[hX (fun q=>?_)]
  ·exact(hf c hc).1
  ·have lt:c<s.heap.objs.size:=by
    obtain⟨o4,e4,_⟩:=g4
    obtain⟨o5,e5,_⟩:=g5
    simp only[aj,bo,or_false]at hc
    rcases hc with e|e|e|e|e<;>subst e
    ·exact fC g1
    ·exact fC g2
    ·exact fC g3
    ·exact fC e4
    ·exact fC e5
   exact absurd lt (by rw[q];exact cw _)
 done:=by
  intro X hP hw hK hc i pz s σ H E I hf st hg
  subst hP hw hK
  obtain⟨xs,ys,qx,qy,ei⟩:=hg
  obtain⟨i1s,r1,p1,z1⟩:=I.tuple qx
  obtain⟨i2s,r2,p2,z2⟩:=I.tuple qy
  obtain⟨g1,g2,⟨u,v,g3⟩,g4,g5⟩:=st
  have l1:=r1.length
  have l2:=r2.length
  refine uf (I.ok.hd hc) D g1 g2 g3 g4 g5 (show s.heap.IsTuple a i1s.toArray from p1) (show s.heap.IsTuple b i2s.toArray from p2) ?_ fun h1 hk=>⟨rfl,I.turnedL (t':=s.toks) (ch:=[z,TO,i1,i2]) (fun c o hc e=>hk c o (fun q=>hc (by simp[q])) (fun q=>hc (by simp[q])) (fun q=>hc (by simp[q])) (fun q=>hc (by simp[q])) e) fun c hc=>hf c (by simp only[aj,bo,or_false]at hc⊢;first|(rcases hc with h|h|h|h<;>simp[h])|simp[hc])⟩
  simp only[bu,List.getElem?_eq_none_iff]
  lia
 self:=fun _ _ _ _ _ st h=>wpAny_pyIter_zip st.1 h
theorem SqT.old {X:Cx} {pz:List (fO×Obj)} {σ:St} {H:Hp} {s:fR} {a:fO} {xs:List V} (I:Inv X pz σ H s) (h:SqT X.K H a xs):a<s.heap.objs.size:=by
 obtain⟨its,_,p,_⟩:=I.tuple h
 obtain⟨o,e,_⟩:=p
 exact fC e
def Iw (K:PySem.W.Frag) (ta:TA):TI:=fun σ H R=>ta σ H fun vs H1=>∃a b,vs=[.ref a,.ref b]/\(∃xs,SqT K H1 a xs)/\(∃ys,SqT K H1 b ys)/\R (JF K a b) H1
section
variable {X:Cx}
theorem EW {es:List gS} {kk:Nat} {tp:Pos} {a b:gS} {ta:TA} {p pos:Pos} (hg:Gl X "zip") (hm:X.mg "zip"=none) (ha:PA X [a,b] ta) (hs:autoParam (gn [a,b] X.env=[(false,eval a X.env),(false,eval b X.env)]) L2.Internal.auR._auto_1) (hs2:autoParam (gn [b] X.env=[(false,eval b X.env)]) L2.Internal.auR._auto_1):
  PI X (.Tuple es kk tp) (.Call (.Name "zip" p) [a,b] [] pos) (Iw X.K ta):=by
 intro pz s σ H R I h
 refine Call_ (qB I hg hm DS (fJ (thn (ha pos pz s σ H _ I h) fun us s1 ⟨vs,H1,I1,r1,q1⟩=>?_) (by rw[hs,hs2]) (by rw[hs2];rfl)))
 obtain⟨l1,l2,e,⟨xs,q1⟩,⟨ys,q2⟩,q⟩:=q1
 subst e
 obtain⟨u,v,rfl,ru,rv⟩:=yY r1
 cases ru
 cases rv
 obtain⟨i1s,w1,p1,z1⟩:=I1.tuple q1
 obtain⟨i2s,w2,p2,z2⟩:=I1.tuple q2
 have o1:@LT.lt Nat _ l1 s1.heap.objs.size:=SqT.old I1 q1
 have o2:@LT.lt Nat _ l2 s1.heap.objs.size:=SqT.old I1 q2
 refine Av (show s1.heap.IsTuple l1 i1s.toArray from p1) (show s1.heap.IsTuple l2 i2s.toArray from p2) fun h1 hz hTI hTO hi1 hi2 hk=>wpAny_pyIter_zip hz ?_
 have D:ZipApart (s1.heap.objs.size+ 4) (s1.heap.objs.size+ 2) (s1.heap.objs.size+ 3) s1.heap.objs.size (s1.heap.objs.size+ 1) l1 l2:=by constructor<;>exact fun(h:@Eq Nat _ _)=>by lia
 refine⟨_,_,_,_,H1,rfl,I1.kept (t':=s1.toks) hk,Aw D,⟨hz,hTI,⟨_,_,hTO⟩,hi1,hi2⟩,fun c hc=>?_,q⟩
 have ge:s1.heap.objs.size<=c:=by
  simp only[aj,bo,or_false]at hc
  rcases hc with h|h|h|h|h<;>rw[h]<;>first|exact cB _|exact cH _ _
 exact I1.fpOk ge (I1.hok.fresh ge)
end
theorem zg:typeLookup (.type "tuple") "keys"=pure none:=by rw[typeLookup_type,builtinLookup_eq_fast];kernel_rfl
section
variable {prog:f9} {w:gm} {A:gf} {E:fQ->fR->Prop} {s:fR}
theorem EX {a:fO} {xs:Array fQ} {k:Nat} {sl:Array (Option fQ)} {Q:Option fQ->fR->Prop} (hx:s.heap.get? a=some {cls:= .type "tuple",dict:=none,data:= .seq xs k,slots:=sl}) (hA:A.handled=none)
  (q:∀h' tk,(∀b o,s.heap.get? b=some o->h'.get? b=some o)->Q none {s with heap:=h',toks:=tk}):f6 (f7 prog w) A (getAttr? (.ref a) "keys") Q E s:=by
 obtain⟨hp,g,d,tk,os⟩:=s
 have hT:∀tk',(⟨hp,g,d,tk',os⟩:fR).TypeIs (.ref a) "tuple":=fun _=>⟨_,hx,rfl⟩
 have f1:=sub_AttributeError
 have f3:=F.slot_tuple_getattribute.lookup
 have f4:=F.slot_tuple_getattribute.bind (.ref a)
 have f5:=am_tuple_getattr_none
 unfold getAttr? getAttrBy? getAttrBy
 repeat(any_goals(first|assumption|exact hT _|((with_reducible show f6 _ _ (call (Value.builtin "tuple.__getattribute__") _ _) _ _ _);refine call_meets F.slot_tuple_getattribute (hT _) am_entry_tuple_getattribute (F.args_tuple_getattribute_2 _ _) (meets_getattribute_miss_tuple a xs k sl "keys" _ zg iJ iJ) ⟨hx,hA,fun h' tk' e hx'=>?_⟩)|wp_step))
 obtain⟨t',u',he⟩:=hx'.there
 show f6 _ _ (getattributeRaised _ _ _ _ _ _ _) _ _ _
 unfold getattributeRaised
 repeat(any_goals(first|assumption|wp_step))
 exact q h' tk' hx'.keeps
end
inductive Prs (H:Hp):List V->List (Str×V)->Prop
 |nil:Prs H [] []
 |cons {a:fO} {p:Str×V} {l:List V} {m:List (Str×V)}:H a=some (.tup [.str p.1,p.2])->Prs H l m->Prs H (.ref a::l) (p::m)
theorem oI:entryFor table "dict.update.loop"=some Builtin.«dict.update.loop»:=entryFor_of_tree (by kernel_rfl)
def kf (p:Str×V):Key×V:=(Sum.inr p.1,p.2)
section
variable {X:Cx} {pz:List (fO×Obj)} {σ:St} {H:Hp} {d it t:fO} {vs:List V} {A:gf} {R:Result->fR->Prop}
theorem vD (hA:A.handled=none) (hd:H d=none) (ht:H t=some (.tup vs)):∀(rest:List (Str×V)) (ys:List V) (i:Nat) (acc:List (Key×V)) (s:fR),
  Inv X pz σ (upd H d (.dK acc)) s->wj X pz (upd H d (.dK acc)) it->s.heap.IsTupleIter it t i->vs.drop i=ys->Prs H ys rest->acc.length+rest.length<=1000->
  (∀s',Inv X pz σ (upd H d (.dK (jU acc (rest.map kf)))) s'->R (.ok (.ret .none)) s')->
  codeAny (f7 X.prog X.w) A (.builtin "dict.update.loop" ⟨[.ref d,.ref it,.int (i:Int) 0,.none],[]⟩) R s
 |[],ys,i,acc,s,I,f,st,ey,hp,hn,k=>by
  cases hp
  have ht':(upd H d (.dK acc)) t=some (.tup vs):=by rw[hX (ie ht hd)];exact ht
  obtain⟨its,rv,p,hz⟩:=I.tuple (SqT.of ht')
  obtain⟨f0,f1,f2,f3,f4,f5⟩:=f
  have hl:=rv.length
  have hi:vs.length<=i:=List.drop_eq_nil_iff.mp ey
  refine codeAny_builtin oI ?_
  unfold Builtin.«dict.update.loop»
  show f6 _ _ (pyNext (.ref it) >>= _) _ _ s
  refine fV (wpAny_pyNext_tuple_end (by exact hA) st (show s.heap.IsTuple t its.toArray from p) (by simp;lia) fun h' eb=>?_)
  have I1:Inv X pz σ (upd H d (.dK acc)) {s with heap:=h'}:=I.turned (t':=s.toks) (fun b o hb e=>eb b o hb e) f0 f1 f3 f4 f5
  exact fV (fW (fW (k _ I1)))
 |pr::rest,ys,i,acc,s,I,f,st,ey,hp0,hn,k=>by
  obtain⟨a,l,rfl,ha,hp⟩:∃a l,ys= .ref a::l/\H a=some (.tup [.str pr.1,pr.2])/\Prs H l rest:=by
   cases hp0 with
   |cons h1 h2=>exact⟨_,_,rfl,h1,h2⟩
  have ht':(upd H d (.dK acc)) t=some (.tup vs):=by rw[hX (ie ht hd)];exact ht
  have ha':(upd H d (.dK acc)) a=some (.tup [.str pr.1,pr.2]):=by rw[hX (ie ha hd)];exact ha
  obtain⟨its,rv,p,hz⟩:=I.tuple (SqT.of ht')
  have ff:=f
  obtain⟨f0,f1,f2,f3,f4,f5⟩:=f
  have hvi:vs[i]?=some (.ref a):=by
   have:=congrArg (·[0]?) ey
   simpa using this
  obtain⟨u,hu,ru⟩:=rv.get hvi
  cases ru
  refine codeAny_builtin oI ?_
  unfold Builtin.«dict.update.loop»
  show f6 _ _ (pyNext (.ref it) >>= _) _ _ s
  refine fV (wpAny_pyNext_tuple_item st (show s.heap.IsTuple t its.toArray from p) (x:= .ref a) (by simpa using hu) fun h' st' sb=>?_)
  have I1:Inv X pz σ (upd H d (.dK acc)) {s with heap:=h'}:=I.turned (t':=s.toks) (fun b o hb e=>(sb.2 b hb).trans e) f0 f1 f3 f4 f5
  obtain⟨its2,rv2,⟨ob,hob,hoc,on,hod⟩,_⟩:=I1.tuple (SqT.of ha')
  obtain⟨kx,vx,rfl,⟨tk,rfl⟩,rvx⟩:=yY rv2
  obtain⟨z,hds,vs2,rel,dd⟩:=EH I1.hok (show(upd H d (.dK acc)) d=some (.dK acc)from hG)
  refine fV (gD (fV (wpAny_tryCatch ?_)))
  unfold Builtin.Dict.pairItems
  refine fV (gW (T:="tuple") ⟨ob,hob,hoc⟩ ?_)
  rw[ja (by decide)]
  refine fV (gC hob hod ?_)
  refine fW ?_
  show f6 _ _ (holding [Value.str pr.1 tk,vx] (dictSet d (.str pr.1 tk) vx)) _ _ _
  have hv2:vs2.length<=fY:=by rw[<-rel.length];exact z
  have hn':acc.length+(rest.length+ 1)<=1000:=hn
  have hl:(lF acc (Sum.inr pr.1) pr.2).length<=1000:=by have:=jT acc (Sum.inr pr.1) pr.2;lia
  have hl2:(lF acc (Sum.inr pr.1) pr.2).length+rest.length<=1000:=by have:=jT acc (Sum.inr pr.1) pr.2;lia
  refine gD (wpAny_dictSet_pairs (hsz:=hv2) (k:=(Sum.inr pr.1:Key)) (vq (k:=(Sum.inr pr.1:Key)) (show jx (kV (Sum.inr pr.1)) _ from⟨tk,rfl⟩)) dd fun h2 dd2 sb2=>?_)
  have he:∃q,h2.get? d=some q:=let⟨q,_,_,hq,_⟩:=dd2;⟨q,hq⟩
  have I2:=tZ (t':=s.toks+ 1) I1 (by rw[hG];exact True.intro) sb2 he (xO (kvs:=lF acc (Sum.inr pr.1) pr.2) (cy hl (by decide)) hds (rel.put (Sum.inr pr.1) rvx) dd2)
  rw[jk]at I2
  have hid:it≠d:=fun e=>by rw[e,hG]at f0;exact nomatch f0
  obtain⟨oi,hoi,ri⟩:=st'
  have st2:h2.IsTupleIter it t (i+ 1):=⟨oi,(sb2.2 it hid).trans hoi,ri⟩
  refine fW ⟨Code.quiet_builtin _ iJ,?_⟩
  have ey2:vs.drop (i+ 1)=l:=by rw[<-List.tail_drop,ey];rfl
  exact vD hA hd ht rest l (i+ 1) (lF acc (Sum.inr pr.1) pr.2) _ I2 ⟨by rw[hX hid]at f0⊢;exact f0,f1,f2,f3,f4,f5⟩ st2 ey2 hp hl2 k
end
section
variable {X:Cx}
theorem ox (hc:X.calm=true):m9 X (.type "dict") (fun xs H Q=>∃(t:fO) (vs:List V) (kvs:List (Str×V)),xs=[.ref t]/\H t=some (.tup vs)/\Prs H vs kvs/\kvs.length<=1000/\∀d,H d=none->Q (.ref d) (upd H d (.dK (jU [] (kvs.map kf))))):=by
 intro pz s σ H xs us Q I r h
 obtain⟨t,vs,kvs,rfl,ht,hp,hn,q⟩:=h
 obtain⟨u,rfl,ru⟩:=nj r
 cases ru
 obtain⟨_,its,rv,o,ho,hcl,n,hd,hdd⟩:=(show jG X.prog X.w H s.heap t (.tup vs)from I.hok t _ ht)
 obtain⟨oc,od,odt,osl⟩:=o
 cases(show oc=_ from hcl)
 cases(show odt=_ from hd)
 cases(show od=_ from hdd)
 refine callType_codes (Q₁:=fun obj s₁=>obj= .ref s.heap.objs.size/\s₁={s with heap:=s.heap.push {cls:= .type "dict",data:= .dict #[]}}) F.kt_called_dict (F.kt_typeCall_dict_1 _) F.entry_dict_init (kt_code_dict_new _ ⟨rfl,rfl⟩) ?_
 rintro obj s₁ ⟨rfl,rfl⟩
 have hnew:(s.heap.push {cls:= .type "dict",data:= .dict #[]}).DictOf (jF X.prog X.w) s.heap.objs.size []:=Heap.DictOf.new s.heap
 refine⟨hnew.typeIs,F.args_dict_init_2 _ _,?_⟩
 unfold Builtin.«dict.__init__»
 refine fV ?_
 unfold Builtin.Dict.selfAndRest
 refine fV (wpAny_notOrdered_dict hnew.typeIs ?_)
 show f6 _ _ (pure (s.heap.objs.size,[Value.ref t])) _ _ _
 refine fW ?_
 show f6 _ _ (Builtin.Dict.updateFrom "dict.__init__" s.heap.objs.size (.ref t) [] .none) _ _ _
 unfold Builtin.Dict.updateFrom
 have ho1:=fF {cls:= .type "dict",data:= .dict #[]} ho
 refine fV (gW (T:="tuple") ⟨_,ho1,rfl⟩ ?_)
 rw[ja (by decide)]
 refine fV (EX ho1 (by exact I.ok.hd hc) fun h1 tk1 kp1=>?_)
 rw[ja (by rfl)]
 refine fV (gU ?_)
 have I1:Inv X pz σ (upd H s.heap.objs.size (.dK [])) {s with heap:=h1,toks:=tk1}:=by
  refine I.laid (fun b u e=>kp1 b u (fF _ e)) (cB _) (xO (by decide) ?_ .nil ?_)
  ·have hb:=I.big
   exact beq_false_of_ne (cA hb)
  ·obtain⟨o,es,ep,ho,r⟩:=hnew
   exact⟨o,es,ep,kp1 _ _ ho,r⟩
 have ho2:h1.IsTuple t its.toArray:=⟨_,kp1 _ _ ho1,rfl,n,rfl⟩
 refine fV (wpAny_pyIter_tuple (show({s with heap:=h1,toks:=tk1}:fR).heap.IsTuple t its.toArray from ho2) ?_)
 have f:=I1.fpOk (cB _) (I1.hok.fresh (cB _))
 have I2:Inv X pz σ (upd H s.heap.objs.size (.dK [])) {s with heap:=h1.push {cls:= .type "tuple_iterator",data:= .fields #[.ref t,.int 0 0]},toks:=tk1}:=I1.kept (t':=tk1) fun b o e=>fF _ e
 refine fW ⟨Code.quiet_builtin _ iJ,?_⟩
 refine vD (A:=X.A.in1) (by exact I.ok.hd hc) (I.hok.fresh (cB _)) ht kvs vs 0 [] _ I2 f ⟨_,fE _ rfl,rfl,rfl⟩ rfl hp (by simpa using hn) fun s' J=>?_
 exact⟨rfl,.ref s.heap.objs.size,_,J,rfl,q _ (I.hok.fresh (cB _))⟩
end
end L2.Internal
namespace BO.Internal
open PySem L2.Internal
theorem sz {n:Nat} (h:n<=100000):n<=fY:=cy h (by decide)
theorem gZ {H:Hp} {p:fO} (h:H p=none) (o:HO):iE H (upd H p o):=fun b u q=>by rw[hX (ie q h)];exact q
theorem vE {α:Type} (l:List α) (i:Int) (h0:0<=i) (h1:i<(l.length:Int)):∃c,atI l i=some c/\c∈l:=by
 have e:i=((i.toNat:Nat):Int):=by lia
 have hi:i.toNat<l.length:=by lia
 refine⟨l[i.toNat],?_,bw hi⟩
 have z:atI l ((i.toNat:Nat):Int)=some l[i.toNat]:=ic (bj hi)
 rw[<-e]at z
 exact z
def flN:V->Bool
 | .non=>true
 | .int _=>true
 | .str _=>true
 |_=>false
mutual
inductive Im (H:Hp):V->Dt->Prop where
 |flat {v:V} (h:flN v=true):Im H v (.flat v)
 |tup {a:fO} {xs:List V} {ds:List Dt} (h:H a=some (.tup xs)) (hs:Ims H xs ds):Im H (.ref a) (.tup ds)
inductive Ims (H:Hp):List V->List Dt->Prop where
 |nil:Ims H [] []
 |cons {x:V} {d:Dt} {xs:List V} {ds:List Dt} (h:Im H x d) (hs:Ims H xs ds):Ims H (x::xs) (d::ds)
end
mutual
inductive Dta (H:Hp):V->Dt->Prop where
 |flat {v:V} (h:flN v=true):Dta H v (.flat v)
 |tup {a:fO} {xs:List V} {ds:List Dt} (h:H a=some (.tup xs)) (hs:tG H xs ds):Dta H (.ref a) (.tup ds)
 |lst {a:fO} {xs:List V} {ds:List Dt} (h:H a=some (.lst xs)) (hs:tG H xs ds):Dta H (.ref a) (.lst ds)
inductive tG (H:Hp):List V->List Dt->Prop where
 |nil:tG H [] []
 |cons {x:V} {d:Dt} {xs:List V} {ds:List Dt} (h:Dta H x d) (hs:tG H xs ds):tG H (x::xs) (d::ds)
end
def TK (H H':Hp):Prop:=∀a xs,H a=some (.tup xs)->H' a=some (.tup xs)
theorem iE.tk {H H':Hp} (s:iE H H'):TK H H':=fun a xs e=>s a _ e
mutual
theorem Im.mono {H H':Hp} (k:TK H H'):∀{v:V} {d:Dt},Im H v d->Im H' v d
 |_,_,.flat h=> .flat h
 |_,_,.tup h hs=> .tup (k _ _ h) (Ims.mono k hs)
theorem Ims.mono {H H':Hp} (k:TK H H'):∀{v:List V} {d:List Dt},Ims H v d->Ims H' v d
 |_,_,.nil=> .nil
 |_,_,.cons h hs=> .cons (Im.mono k h) (Ims.mono k hs)
end
mutual
theorem Im.da {H:Hp}:∀{v:V} {d:Dt},Im H v d->Dta H v d
 |_,_,.flat h=> .flat h
 |_,_,.tup h hs=> .tup h (Ims.das hs)
theorem Ims.das {H:Hp}:∀{v:List V} {d:List Dt},Ims H v d->tG H v d
 |_,_,.nil=> .nil
 |_,_,.cons h hs=> .cons (Im.da h) (Ims.das hs)
end
mutual
theorem Dta.same {H H':Hp} (k:iE H H'):∀{v:V} {d:Dt},Dta H v d->Dta H' v d
 |_,_,.flat h=> .flat h
 |_,_,.tup h hs=> .tup (k _ _ h) (tG.same k hs)
 |_,_,.lst h hs=> .lst (k _ _ h) (tG.same k hs)
theorem tG.same {H H':Hp} (k:iE H H'):∀{v:List V} {d:List Dt},tG H v d->tG H' v d
 |_,_,.nil=> .nil
 |_,_,.cons h hs=> .cons (Dta.same k h) (tG.same k hs)
end
theorem tG.length {H:Hp}:∀{xs:List V} {ds:List Dt},tG H xs ds->xs.length=ds.length
 |_,_,.nil=>rfl
 |_,_,.cons _ t=>by rw[aB,aB,tG.length t]
theorem Ims.length {H:Hp}:∀{xs:List V} {ds:List Dt},Ims H xs ds->xs.length=ds.length
 |_,_,.nil=>rfl
 |_,_,.cons _ t=>by rw[aB,aB,Ims.length t]
theorem tG.get {H:Hp}:∀{xs:List V} {ds:List Dt} {j:Nat} {x:V},tG H xs ds->xs[j]?=some x->∃d,ds[j]?=some d/\Dta H x d
 |_,_,0,_,.cons h _,e=>⟨_,rfl,by cases e;exact h⟩
 |_,_,j+ 1,_,.cons _ t,e=>by
  rw[bq]at e
  obtain⟨d,e1,e2⟩:=tG.get t e
  exact⟨d,by rw[bq];exact e1,e2⟩
theorem depDs_get:∀{l:List Dt} {j:Nat} {a:Dt},l[j]?=some a->jQ a<=jA l
 |x::xs,0,a,h=>by
  cases h
  exact Nat.le_max_left _ _
 |x::xs,j+ 1,a,h=>by
  rw[bq]at h
  exact cy (depDs_get h) (Nat.le_max_right _ _)
theorem Ims.app {H:Hp}:∀{xs ys:List V} {ds es:List Dt},Ims H xs ds->Ims H ys es->Ims H (xs++ys) (ds++es)
 |_,_,_,_,.nil,h=>h
 |_,_,_,_,.cons a b,h=> .cons a (Ims.app b h)
inductive All2 {α β:Type} (F:α->β->Prop):List α->List β->Prop
 |nil:All2 F [] []
 |cons {a:α} {b:β} {l:List α} {m:List β}:F a b->All2 F l m->All2 F (a::l) (b::m)
theorem All2.imp {α β:Type} {F G:α->β->Prop} (f:∀a b,F a b->G a b):∀{l:List α} {m:List β},All2 F l m->All2 G l m
 |_,_,.nil=> .nil
 |_,_,.cons h t=> .cons (f _ _ h) (All2.imp f t)
theorem All2.snoc {α β:Type} {F:α->β->Prop} {a:α} {b:β} (h:F a b):∀{l:List α} {m:List β},All2 F l m->All2 F (l++[a]) (m++[b])
 |_,_,.nil=> .cons h .nil
 |_,_,.cons x t=> .cons x (All2.snoc h t)
theorem All2.length {α β:Type} {F:α->β->Prop}:∀{l:List α} {m:List β},All2 F l m->l.length=m.length
 |_,_,.nil=>rfl
 |_,_,.cons _ t=>by rw[aB,aB,All2.length t]
theorem All2.get {α β:Type} {F:α->β->Prop}:∀{l:List α} {m:List β} {j:Nat} {x:α},All2 F l m->l[j]?=some x->∃y,m[j]?=some y/\F x y
 |_,_,0,_,.cons h _,e=>⟨_,rfl,by cases e;exact h⟩
 |_,_,j+ 1,_,.cons _ t,e=>by
  rw[bq]at e
  obtain⟨d,e1,e2⟩:=All2.get t e
  exact⟨d,by rw[bq];exact e1,e2⟩
mutual
def okD:Dt->Prop
 | .flat _=>True
 | .tup l=>l.length<=100000/\vF l
 | .lst l=>l.length<=100000/\vF l
def vF:List Dt->Prop
 |[]=>True
 |x::xs=>okD x/\vF xs
end
theorem ug:∀{l:List Dt} {j:Nat} {a:Dt},vF l->l[j]?=some a->okD a
 |x::xs,0,a,o,h=>by
  cases h
  exact o.1
 |x::xs,j+ 1,a,o,h=>by
  rw[bq]at h
  exact ug o.2 h
theorem l7 {α:Type} {f:α->Dt}:∀{l:List α},(∀x∈l,okD (f x))->vF (l.map f)
 |[],_=>trivial
 |x::xs,h=>⟨h x (by simp),l7 fun y hy=>h y (by simp[hy])⟩
theorem lH {α:Type} {f:α->Dt} {n:Nat}:∀{l:List α},(∀x∈l,jQ (f x)<=n)->jA (l.map f)<=n
 |[],_=>cC _
 |x::xs,h=>Nat.max_le.mpr ⟨h x (by simp),lH fun y hy=>h y (by simp[hy])⟩
def prL (p:Str×Int):Dt:= .tup [.flat (.str p.1),.flat (.int p.2)]
def prD (l:List (Str×Int)):Dt:= .tup (l.map prL)
inductive Us where
 |num (a p s:Int)
 |call (a p s x y:Int)
 |take (a p s:Int) (l:List (Str×Int))
 |case (a p s:Int) (l:List (Str×Int))
 |row (a p s x:Int)
def hdD (n:Str) (a p s:Int):List Dt:=[.flat (.str n),.flat (.int a),.flat (.int p),.flat (.int s)]
def Us.d:Us->Dt
 | .num a p s=> .tup (hdD "num" a p s)
 | .call a p s x y=> .tup (hdD "call" a p s++[.flat (.int x),.flat (.int y)])
 | .take a p s l=> .tup (hdD "take" a p s++[prD l])
 | .case a p s l=> .tup (hdD "case" a p s++[prD l])
 | .row a p s x=> .tup (hdD "row" a p s++[.flat (.int x)])
structure Mkg where
 s:Str
 f:Dt
 a:Int
 p:Int
def Mkg.d (m:Mkg):Dt:= .tup [.flat (.str m.s),m.f,.flat (.int m.a),.flat (.int m.p)]
theorem Ax (l:List (Str×Int)):jQ (prD l)<=2:=by
 have h:∀l:List (Str×Int),jA (l.map prL)<=1:=by
  intro l
  induction l with
  |nil=>exact cC _
  |cons x t ih=>exact Nat.max_le.mpr ⟨by simp[prL,jQ,jA],ih⟩
 exact cJ (h l)
theorem DV {l:List (Str×Int)} (h:l.length<=10):okD (prD l):=⟨by rw[aE];lia,l7 fun x _=>⟨by show 2<=100000;decide,trivial,trivial,trivial⟩⟩
def fU (a p s:V):List (Str×V):=[("at",a),("place",p),("slot",s)]
def fU1 (n:Str) (a p s x:V):List (Str×V):=[("at",a),("place",p),("slot",s),(n,x)]
def fU2 (a p s x y:V):List (Str×V):=[("at",a),("place",p),("slot",s),("arg",x),("out",y)]
def fM (s f a p:V):List (Str×V):=[("shape",s),("parts",f),("at",a),("place",p)]
def fB (p0 p1 p2 p3:fO) (r:V):List (Str×V):=[("points",.ref p0),("makes",.ref p1),("uses",.ref p2),("flows",.ref p3),("root",r)]
structure Cs where
 M:fO
 N:fO
 C:fO
 T:fO
 K:fO
 R:fO
 B:fO
def UsAt (c:Cs) (H:Hp) (v:V):Us->Prop
 | .num a p s=>∃x dx,v= .ref x/\H x=some (.ins c.N dx (fU (.int a) (.int p) (.int s)))
 | .call a p s y z=>∃x dx,v= .ref x/\H x=some (.ins c.C dx (fU2 (.int a) (.int p) (.int s) (.int y) (.int z)))
 | .take a p s l=>∃x dx f,v= .ref x/\H x=some (.ins c.T dx (fU1 "fields" (.int a) (.int p) (.int s) f))/\Im H f (prD l)/\l.length<=10
 | .case a p s l=>∃x dx f,v= .ref x/\H x=some (.ins c.K dx (fU1 "arms" (.int a) (.int p) (.int s) f))/\Im H f (prD l)/\l.length<=10
 | .row a p s y=>∃x dx,v= .ref x/\H x=some (.ins c.R dx (fU1 "out" (.int a) (.int p) (.int s) (.int y)))
def qF (c:Cs) (H:Hp) (v:V) (m:Mkg):Prop:=∃x dx f,v= .ref x/\H x=some (.ins c.M dx (fM (.str m.s) f (.int m.a) (.int m.p)))/\Im H f m.f/\jQ m.f<=2/\okD m.f
def Fz:HO->Prop
 | .tup _=>True
 | .ins _ _ fs=>fs.length≠5\/∃v r,fs=(("at":Str),v)::r
 |_=>False
def FK (H H':Hp):Prop:=∀a o,H a=some o->Fz o->H' a=some o
theorem FK.tk {H H':Hp} (k:FK H H'):TK H H':=fun a xs e=>k a _ e trivial
theorem iE.fk {H H':Hp} (s:iE H H'):FK H H':=fun a o e _=>s a o e
theorem FK.trans {H H1 H2:Hp} (a:FK H H1) (b:FK H1 H2):FK H H2:=fun c o e f=>b c o (a c o e f) f
theorem UsAt.mono {c:Cs} {H H':Hp} {v:V} (k:FK H H'):∀{u:Us},UsAt c H v u->UsAt c H' v u
 | .num _ _ _,⟨x,dx,e,h⟩=>⟨x,dx,e,k _ _ h (.inr ⟨_,_,rfl⟩)⟩
 | .call _ _ _ _ _,⟨x,dx,e,h⟩=>⟨x,dx,e,k _ _ h (.inr ⟨_,_,rfl⟩)⟩
 | .take _ _ _ _,⟨x,dx,f,e,h,i,n⟩=>⟨x,dx,f,e,k _ _ h (.inr ⟨_,_,rfl⟩),i.mono k.tk,n⟩
 | .case _ _ _ _,⟨x,dx,f,e,h,i,n⟩=>⟨x,dx,f,e,k _ _ h (.inr ⟨_,_,rfl⟩),i.mono k.tk,n⟩
 | .row _ _ _ _,⟨x,dx,e,h⟩=>⟨x,dx,e,k _ _ h (.inr ⟨_,_,rfl⟩)⟩
theorem qF.mono {c:Cs} {H H':Hp} {v:V} {m:Mkg} (k:FK H H'):qF c H v m->qF c H' v m
 |⟨x,dx,f,e,h,i,d⟩=>⟨x,dx,f,e,k _ _ h (.inl (by show 4≠5;decide)),i.mono k.tk,d⟩
theorem my {J:It} {i:Nat} {te:TE} {Q:VK} {τ:St} {H1:Hp} {D:fO} (n:Nat) (hn:n<fY) (R:List V->Hp->Prop) (hR:∀xs H H',R xs H->TK H H'->R xs H') (hD:H1 D=none) (hτ:τ.set i none=τ)
  (hgo:∀k H,iE H1 H->k<n->J.go k H) (hst:∀H,iE H1 H->J.stop n H) (h0:R [] H1)
  (step:∀k H v H3 xs (Z:VK),iE H1 H->k<n->J.yld k H v H3->R xs H->xs.length=k->(∀y H5,iE H H5->R (xs++[y]) H5->Z y H5)->te (τ.set i (some v)) H3 Z)
  (hq:∀H' xs,iE H1 H'->R xs H'->xs.length=n->H' D=some (.lst xs)->Q (.ref D) H'):LcP J i rp te Q τ H1 D:=by
 have nd:∀(H5:Hp) (xs ys:List V),H5 D=some (.lst xs)->TK H5 (upd H5 D (.lst ys)):=fun H5 xs ys e a zs q=>by rw[hX (iX q e (fun z=>nomatch z))];exact q
 have up:∀{H:Hp} (o:HO),iE H1 H->iE H1 (upd H D o):=fun{H} o S b u e=>by rw[hX (ie e hD)];exact S b u e
 refine⟨fun k m σ' H2=>m=n-k/\k<=n/\(∃o,σ'=τ.set i o)/\iE H1 H2/\∃xs,H2 D=some (.lst xs)/\xs.length=k/\R xs H2,⟨n,by simp,cC _,⟨none,hτ.symm⟩,gZ hD _,[],hG,rfl,hR _ _ _ h0 (iE.tk (gZ hD _))⟩,?_⟩
 rintro k m σ' H2 ⟨rfl,hk,⟨o,rfl⟩,S,xs,e,hl,hr⟩
 by_cases hlt:k<n
 ·refine .inr ⟨hgo k H2 S hlt,fun v H3 y=>?_⟩
  rw[List.set_set]
  refine step k H2 v H3 xs _ S hlt y hr hl fun y H5 S5 r5=>?_
  refine⟨xs,S5 D _ e,by lia,n-(k+ 1),by lia,rfl,hlt,⟨some v,rfl⟩,up _ (S.trans S5),xs++[y],hG,by rw[aQ,hl];rfl,hR _ _ _ r5 (nd H5 _ _ (S5 D _ e))⟩
 ·have e1:k=n:=by lia
  subst e1
  exact .inl ⟨hst H2 S,hq H2 xs S hr hl e⟩
theorem tH {K:PySem.W.Frag} {a:fO} {xs:List V} {k:Nat} {H1 H:Hp} (e:H1 a=some (.lst xs)) (S:iE H1 H) (h:k<xs.length):(Itl K a).go k H:=⟨xs,xs[k],SqL.of (S a _ e),bj h⟩
theorem tI {K:PySem.W.Frag} {a:fO} {xs:List V} {H1 H:Hp} (e:H1 a=some (.lst xs)) (S:iE H1 H):(Itl K a).stop xs.length H:=⟨xs,SqL.of (S a _ e),cB _⟩
theorem xU {K:PySem.W.Frag} {a:fO} {xs:List V} {k:Nat} {H1 H:Hp} (e:H1 a=some (.tup xs)) (S:iE H1 H) (h:k<xs.length):(Itt K a).go k H:=⟨xs,xs[k],SqT.of (S a _ e),bj h⟩
theorem xV {K:PySem.W.Frag} {a:fO} {xs:List V} {H1 H:Hp} (e:H1 a=some (.tup xs)) (S:iE H1 H):(Itt K a).stop xs.length H:=⟨xs,SqT.of (S a _ e),cB _⟩
inductive Ls (H:Hp):List fO->List (List V)->Prop
 |nil:Ls H [] []
 |cons {a:fO} {c:List V} {l:List fO} {m:List (List V)}:H a=some (.lst c)->Ls H l m->Ls H (a::l) (c::m)
theorem Ls.other {H:Hp} {b:fO} {o:HO}:∀{l:List fO} {m:List (List V)},Ls H l m->b∉l->Ls (upd H b o) l m
 |_,_,.nil,_=> .nil
 |_,_,.cons (a:=a) h t,n=> .cons (by rw[hX (fun z=>n (by simp[z]))];exact h) (Ls.other t fun z=>n (by simp[z]))
theorem Ls.frame {H H':Hp} {M:List fO} (k:∀a o,H a=some o->a∉M->H' a=some o):∀{l:List fO} {m:List (List V)},Ls H l m->(∀a∈l,a∉M)->Ls H' l m
 |_,_,.nil,_=> .nil
 |_,_,.cons (a:=a) h t,n=> .cons (k _ _ h (n a (by simp))) (Ls.frame k t fun b hb=>n b (by simp[hb]))
theorem Ls.get {H:Hp}:∀{l:List fO} {m:List (List V)} {i:Nat} {a:fO},Ls H l m->l[i]?=some a->∃c,m[i]?=some c/\H a=some (.lst c)
 |_,_,0,_,.cons h _,e=>⟨_,rfl,by cases e;exact h⟩
 |_,_,j+ 1,_,.cons _ t,e=>by
  rw[bq]at e
  obtain⟨d,e1,e2⟩:=Ls.get t e
  exact⟨d,by rw[bq];exact e1,e2⟩
theorem Ls.put {H:Hp} {c:List V}:∀{l:List fO} {m:List (List V)} {i:Nat} {a:fO},Ls H l m->l.Nodup->l[i]?=some a->Ls (upd H a (.lst c)) l (m.set i c)
 |_,_,0,_,.cons h t,n,e=>by
  cases e
  exact .cons hG (t.other (aG.mp n).1)
 |_,_,j+ 1,a,.cons (a:=b) h t,n,e=>by
  rw[bq]at e
  have nb:b≠a:=fun z=>(aG.mp n).1 (by rw[z];exact aP e)
  exact .cons (by rw[hX nb];exact h) (Ls.put t (aG.mp n).2 e)
structure Sd where
 b:fO
 dx:fO
 p0:fO
 p1:fO
 p2:fO
 p3:fO
 d:fO
 q0:fO
 q1:fO
 q2:fO
 q3:fO
def Sd.ls (S:Sd):List fO:=[S.p0,S.p1,S.p2,S.p3,S.d,S.q0,S.q1,S.q2,S.q3]
structure Bd where
 pts:List Int
 mks:List Mkg
 uss:List Us
 fls:List (Int×Int)
 root:Int
def flD (p:Int×Int):Dt:= .tup [.flat (.int p.1),.flat (.int p.2)]
structure BSx (c:Cs) (H:Hp) (S:Sd) (E D:Bd):Prop where
 nd:S.ls.Nodup
 ob:H S.b=some (.ins c.B S.dx (fB S.p0 S.p1 S.p2 S.p3 (.int D.root)))
 st:∃mv uv fv mv' uv' fv':List V,Ls H S.ls [D.pts.map V.int,mv,uv,fv,[.ref S.q0,.ref S.q1,.ref S.q2,.ref S.q3,.int E.root],E.pts.map V.int,mv',uv',fv']/\
  All2 (qF c H) mv D.mks/\All2 (UsAt c H) uv D.uss/\Ims H fv (D.fls.map flD)/\Ims H mv' (E.mks.map Mkg.d)/\Ims H uv' (E.uss.map Us.d)/\Ims H fv' (E.fls.map flD)
theorem Ls.at {H:Hp} {l:List fO} {m:List (List V)} (L:Ls H l m) {i:Nat} {a:fO} {c:List V} (h1:l[i]?=some a) (h2:m[i]?=some c):H a=some (.lst c):=by
 obtain⟨d,e1,e2⟩:=L.get h1
 rw[h2]at e1
 cases e1
 exact e2
theorem jP {H:Hp} {a:fO} {xs:List V} {o:HO} (h:H a=some (.lst xs)):FK H (upd H a o):=fun b u e f=>by
 rw[hX (iX e h (fun z=>by rw[z]at f;exact f))]
 exact e
theorem xW {H:Hp} {a C dx p0 p1 p2 p3:fO} {r:V} {o:HO} (h:H a=some (.ins C dx (fB p0 p1 p2 p3 r))):FK H (upd H a o):=fun b u e f=>by
 rw[hX (iX e h (fun z=>by
  rw[z]at f
  rcases f with f|⟨v,r,f⟩
  ·exact f rfl
  ·injection f with f _
   injection f with f _
   exact absurd f iJ))]
 exact e
section
variable {c:Cs} {H H':Hp} {S:Sd} {E D:Bd}
theorem BSx.frame {M:List fO} (B:BSx c H S E D) (k:∀a o,H a=some o->a∉M->H' a=some o) (hb:S.b∉M) (hl:∀a∈S.ls,a∉M) (fk:FK H H'):BSx c H' S E D:=by
 obtain⟨nd,ob,mv,uv,fv,mv',uv',fv',L,h1,h2,h3,h4,h5,h6⟩:=B
 exact⟨nd,k _ _ ob hb,mv,uv,fv,mv',uv',fv',L.frame k hl,h1.imp fun _ _=>qF.mono fk,h2.imp fun _ _=>UsAt.mono fk,h3.mono fk.tk,h4.mono fk.tk,h5.mono fk.tk,h6.mono fk.tk⟩
end
theorem BSx.hl {c:Cs} {H:Hp} {S:Sd} {E D:Bd} {l:fO} {xs:List V} {o:HO} (B:BSx c H S E D) (hn:l∉S.ls) (e:H l=some (.lst xs)):BSx c (upd H l o) S E D:=by
 refine B.frame (M:=[l]) (fun a u q n=>?_) (fun z=>?_) (fun a ha z=>?_) (jP e)
 ·rw[hX (fun z=>n (by simp[z]))];exact q
 ·have z':S.b=l:=by simpa using z
  have q:=B.ob
  rw[z',e]at q
  cases q
 ·have z':a=l:=by simpa using z
  rw[z']at ha
  exact hn ha
def Frm (M:List fO) (H H':Hp):Prop:=∀a o,H a=some o->a∉M->H' a=some o
theorem Frm.trans {M:List fO} {H H1 H2:Hp} (a:Frm M H H1) (b:Frm M H1 H2):Frm M H H2:=fun c o e n=>b c o (a c o e n) n
theorem Frm.same {M:List fO} {H H':Hp} (s:iE H H'):Frm M H H':=fun a o e _=>s a o e
theorem Frm.upd {M:List fO} {H:Hp} {a:fO} {o:HO} (h:a∈M):Frm M H (upd H a o):=fun b u e n=>by rw[hX (fun z=>n (by rw[z];exact h))];exact e
def lk:List (Str×Int)->Str->Option Int
 |[],_=>none
 |p::t,w=>if p.1=w then some p.2 else lk t w
def pI (p:Str×Int):Str×V:=(p.1,.int p.2)
def xX (l:List (Str×Int)):Prop:=(l.map Prod.fst).Nodup
theorem Ay:∀{l:List (Str×Int)} {w:Str},w∉l.map Prod.fst->lk l w=none
 |[],_,_=>rfl
 |p::t,w,h=>by
  rw[aD,aj,not_or]at h
  rw[lk,iT (fun z=>h.1 z.symm)]
  exact Ay h.2
theorem qi:∀(l:List (Str×Int)) (acc:List (Key×V)) (w:Str),xX l->ky (jU acc ((l.map pI).map kf)) (Sum.inr w)=match lk l w with
  |some i=>some (.int i)
  |none=>ky acc (Sum.inr w)
 |[],_,_,_=>rfl
 |p::t,acc,w,h=>by
  obtain⟨h1,h2⟩:=aG.mp (show(p.1::t.map Prod.fst).Nodup from h)
  show ky (jU (lF acc (Sum.inr p.1) (.int p.2)) ((t.map pI).map kf)) (Sum.inr w)=_
  rw[qi t _ w h2,pG,lk]
  by_cases e:p.1=w
  ·rw[ja e,Ay (by rw[<-e];exact h1)]
   rw[ja (by rw[e])]
  ·rw[iT e]
   rw[iT (fun z=>e (by injection z with z;exact z.symm))]
inductive Mf where
 |num
 |fn (x y:Int)
 |rcd (l:List (Str×Int))
 |tag (w:Str) (x:Int)
 |row (x:Int)
 |any
def Mf.s:Mf->Str
 | .num=>"num"
 | .fn _ _=>"fn"
 | .rcd _=>"rec"
 | .tag _ _=>"tag"
 | .row _=>"row"
 | .any=>"any"
def Mf.f:Mf->Dt
 | .num=> .tup []
 | .fn x y=> .tup [.flat (.int x),.flat (.int y)]
 | .rcd l=>prD l
 | .tag w x=> .tup [.flat (.str w),.flat (.int x)]
 | .row x=> .tup [.flat (.int x)]
 | .any=> .tup []
def Mf.ok:Mf->Prop
 | .rcd l=>l.length<=10/\xX l
 |_=>True
def mkg (m:Mf) (a p:Int):Mkg:=⟨m.s,m.f,a,p⟩
def Us.dist:Us->Prop
 | .take _ _ _ l=>xX l
 | .case _ _ _ l=>xX l
 |_=>True
def fnd (m:List (Str×Int)) (p:Str×Int):Option (Int×Int):=(lk m p.1).map fun x=>(x,p.2)
def uh (l m:List (Str×Int)):Option (List (Int×Int)):=if(l.filterMap (fnd m)).length=l.length then some (l.filterMap (fnd m))else none
def lI:Us->Mf->Option (List (Int×Int))
 | .num _ _ _,.num=>some []
 | .call _ _ _ x y,.fn a b=>some [(x,a),(b,y)]
 | .take _ _ _ l,.rcd m=>uh l m
 | .case _ _ _ l,.tag w x=>(lk l w).map fun y=>[(x,y)]
 | .row _ _ _ y,.row x=>some [(x,y)]
 |_,_=>none
def mtD:Option (List (Int×Int))->Dt
 |none=> .flat .non
 |some l=> .lst (l.map flD)
theorem tJ {l m:List (Str×Int)} {p:Str×Int} (h:p∈l) (e:lk m p.1=none):uh l m=none:=by
 have:∀l:List (Str×Int),p∈l->(l.filterMap (fnd m)).length<l.length:=by
  intro l
  induction l with
  |nil=>intro h;simp at h
  |cons a t ih=>
   intro h
   have hle:=List.length_filterMap_le (fnd m) t
   rw[ag]
   rcases aj.mp h with z|z
   ·have:fnd m a=none:=by rw[<-z,fnd,e];rfl
    rw[this]
    show(bz (fnd m) t).length<t.length+ 1
    lia
   ·have:=ih z
    cases fnd m a with
    |none=>show(bz (fnd m) t).length<t.length+ 1;lia
    |some q=>show(bz (fnd m) t).length+ 1<t.length+ 1;lia
 rw[uh,iT (cx (this l h))]
theorem EY {H:Hp}:∀{xs:List V} {l:List (Str×Int)},Ims H xs (l.map prL)->Prs H xs (l.map pI)
 |_,[],.nil=> .nil
 |_,p::t,.cons h hs=>by
  cases h with
  |tup e es=>
   cases es with
   |cons h1 es=>
    cases h1
    cases es with
    |cons h2 es=>
     cases h2
     cases es
     exact .cons e (EY hs)
theorem l8 {H:Hp}:∀{xs:List V} {ps:List (Str×Int)} {k:Nat} {v:V},Ims H xs (ps.map prL)->xs[k]?=some v->∃p t,ps[k]?=some p/\v= .ref t/\H t=some (.tup [.str p.1,.int p.2])
 |_,[],_,_,.nil,e=>by simp at e
 |_,p::ps,0,v,.cons h _,e=>by
  cases e
  cases h with
  |tup e es=>
   cases es with
   |cons h1 es=>
    cases h1
    cases es with
    |cons h2 es=>
     cases h2
     cases es
     exact⟨p,_,rfl,rfl,e⟩
 |_,p::ps,k+ 1,v,.cons _ t,e=>by
  rw[bq]at e
  obtain⟨q,u,e1,e2⟩:=l8 t e
  exact⟨q,u,by rw[bq];exact e1,e2⟩
end BO.Internal
namespace L2.Internal
open PySem PySem.Spec PyProof.Rows
section
variable {X:Cx} {e a b o f:gS} {st:gR} {ta tb td ty tx to:TE} {pos apos cpos:Pos}
theorem PE.weak {t t':TE} (h:PE X e t) (m:∀σ H Q,t' σ H Q->t σ H Q):PE X e t':=fun pz s σ H Q I q=>h pz s σ H Q I (m σ H Q q)
theorem PT.weak {t t':TT} (h:PT X e t) (m:∀σ H Q,t' σ H Q->t σ H Q):PT X e t':=fun pz s σ H Q I q=>h pz s σ H Q I (m σ H Q q)
theorem PS.weak {t t':TS} (h:PS X st t) (m:∀D σ H,t' D σ H->t D σ H):PS X st t':=fun pz s σ H D I q=>h pz s σ H D I (m D σ H q)
theorem OpR.weak {g:fQ->fQ->Sem fQ} {r r':R2} (h:OpR X g r) (m:∀x y H Q,r' x y H Q->r x y H Q):OpR X g r':=fun pz s σ H x y v u Q I rx ry q=>h pz s σ H x y v u Q I rx ry (m x y H Q q)
theorem IxR.weak {r r':R2} (h:IxR X r) (m:∀x y H Q,r' x y H Q->r x y H Q):IxR X r':=fun value slice pz s σ H x y v u Q I rx ry q hs=>h value slice pz s σ H x y v u Q I rx ry (m x y H Q q) hs
def mT (t:TE):TE:=fun σ H Q=>∃Q0:VK,t σ H Q0/\∀x H1,Q0 x H1->Q x H1
theorem PE.mono {t:TE} (h:PE X e t):PE X e (mT t):=fun pz s σ H Q I ⟨Q0,h0,m⟩=>thn (h pz s σ H Q0 I h0) fun v s1 ⟨x,H1,I1,r1,q1⟩=>⟨x,H1,I1,r1,m x H1 q1⟩
def mR (r:R2):R2:=fun x y H Q=>∃Q0:VK,r x y H Q0/\∀x H1,Q0 x H1->Q x H1
theorem OpR.mono {g:fQ->fQ->Sem fQ} {r:R2} (h:OpR X g r):OpR X g (mR r):=fun pz s σ H x y v u Q I rx ry ⟨Q0,h0,m⟩=>thn (h pz s σ H x y v u Q0 I rx ry h0) fun v s1 ⟨x,H1,I1,r1,q1⟩=>⟨x,H1,I1,r1,m x H1 q1⟩
def onV:Option (Option V)->(V->Prop)->Prop
 |some (some v),k=>k v
 |_,_=>False
def onS {α:Type}:Option α->(α->Prop)->Prop
 |some v,k=>k v
 |none,_=>False
theorem ig {α:Type} {x:Option α} {v:α} {k:α->Prop} (h:x=some v) (q:k v):onS x k:=by rw[h];exact q
theorem Az {α:Type} {x:Option α} {k:α->Prop} (h:onS x k):∃v,x=some v/\k v:=by
 cases x with
 |none=>exact h.elim
 |some v=>exact⟨v,rfl,h⟩
def cV (i:Nat):TE:=fun σ H Q=>onV σ[i]? fun v=>Q v H
theorem cv (i:Nat) {x:Str} {pos:Pos} (hN:autoParam (X.N[i]?=some x) L2.Internal.auR._auto_1) (hv:Vis X.env.scope x:=by first|exact Or.inl rfl|exact Or.inr (.inl rfl)|exact Or.inr (.inr rfl)) (hd:autoParam ((x==("__debug__":Str))=false) L2.Internal.auD._auto_1)
  (hcd:autoParam ((x==("__classdict__":Str))=false) L2.Internal.auD._auto_1):PE X (.Name x pos) (cV i):=(pv i hN hv hd hcd).weak fun σ H Q h=>by
 unfold cV at h
 cases q:σ[i]? with
 |none=>rw[q]at h;exact h.elim
 |some o=>
  rw[q]at h
  cases o with
  |none=>exact h.elim
  |some v=>exact⟨v,q,h⟩
def cI0 (g:Int->Int->V):R2:=fun x y H Q=>match x,y with
 | .int i,.int j=>Q (g i j) H
 |_,_=>False
def cI (C:Int->Int->Prop) (g:Int->Int->V):R2:=fun x y H Q=>match x,y with
 | .int i,.int j=>C i j/\Q (g i j) H
 |_,_=>False
theorem xY {g:Int->Int->V}:∀x y H Q,cI0 g x y H Q->rI0 g x y H Q:=fun x y H Q h=>by
 unfold cI0 at h
 split at h
 ·exact⟨_,_,rfl,rfl,h⟩
 ·exact h.elim
theorem Cv {C:Int->Int->Prop} {g:Int->Int->V}:∀x y H Q,cI C g x y H Q->rI C g x y H Q:=fun x y H Q h=>by
 unfold cI at h
 split at h
 ·exact⟨_,_,rfl,rfl,h.1,h.2⟩
 ·exact h.elim
theorem kq:OpR X (gw .Add) (cI0 fun i j=> .int (i+j)):=zP.weak xY
theorem l9:OpR X (gw .Sub) (cI0 fun i j=> .int (i-j)):=DE.weak xY
theorem vG:OpR X (gw .Mult) (cI HP fun i j=> .int (i*j)):=xI.weak Cv
theorem jB:OpR X (gw .FloorDiv) (cI Jy fun i j=> .int (i/j)):=Ez.weak Cv
theorem ji:OpR X (gw .Mod) (cI (fun _ j=>0<j) fun i j=> .int (i%j)):=zQ.weak Cv
theorem xZ:OpR X (gw .Pow) (cI Jz fun i j=> .int (i^j.toNat)):=DF.weak Cv
theorem Cw:OpR X (gv .Lt) (cI0 fun i j=> .bl (decide (i<j))):=Ic.weak xY
theorem EZ:OpR X (gv .Gt) (cI0 fun i j=> .bl (decide (j<i))):=Ie.weak xY
def cEq (n:Bool):R2:=fun x y H Q=>match x,y with
 | .int i,.int j=>Q (.bl (xor n (decide (i=j)))) H
 | .str i,.str j=>Q (.bl (xor n (decide (i=j)))) H
 |_,_=>False
theorem JG {i j:Str}:decide (V.str i=V.str j)=decide (i=j):=by
 rw[eQ]
 simp
theorem JH {i j:Int}:decide (V.int i=V.int j)=decide (i=j):=by
 rw[eQ]
 simp
theorem jc:OpR X (gv .Eq) (cEq false):=zU.weak fun x y H Q h=>by
 unfold cEq at h
 split at h
 ·refine⟨rfl,?_⟩;rw[JH];rw[eS]at h;exact h
 ·refine⟨rfl,?_⟩;rw[JG];rw[eS]at h;exact h
 ·exact h.elim
theorem GP:OpR X (gv .NotEq) (cEq true):=wx.weak fun x y H Q h=>by
 unfold cEq at h
 split at h
 ·refine⟨rfl,?_⟩;rw[JH];rw[Bool.true_xor]at h;exact h
 ·refine⟨rfl,?_⟩;rw[JG];rw[Bool.true_xor]at h;exact h
 ·exact h.elim
def onB:V->(Bool->Prop)->Prop
 | .bl k,q=>q k
 |_,_=>False
theorem GQ {x:V} {k:Bool->Prop} (h:onB x k):∃c,x= .bl c/\k c:=by
 cases x<;>first|exact⟨_,rfl,h⟩|exact h.elim
def cT (t:TE):TT:=fun σ H Q=>t σ H fun x H'=>onB x fun k=>Q k H'
theorem iw {op:CmpOp} {r:R2} (ho:OpR X (gv op) r) (ha:PE X a ta) (hb:PE X b tb) (hm:gH op b=false:=by exact zV _):PT X (.Compare a [op] [b] pos) (cT (tOp r ta tb)):=
 (oN ho.mono ha.mono hb.mono hm).weak fun σ H Q h=>⟨_,h,fun x H1 h1=>⟨_,h1,fun y H2 h2=>⟨_,h2,fun z H' h3=>GQ h3⟩⟩⟩
def Iy:R2:=fun x y H Q=>match x,y with
 | .ref p,.int i=>∃xs,H p=some (.lst xs)/\onS (atI xs i) fun v=>Q v H
 |_,_=>False
def AA:R2:=fun x y H Q=>match x,y with
 | .ref p,.int i=>∃xs,H p=some (.tup xs)/\onS (atI xs i) fun v=>Q v H
 |_,_=>False
def JI:R2:=fun x y H Q=>match x,y with
 | .str z,.int i=>z.length<=fY/\onS (atI z.cps.toList i) fun c=>Q (.str ⟨#[c]⟩) H
 |_,_=>False
theorem iG:IxR X Iy:=EO.weak fun x y H Q h=>by
 unfold Iy at h
 split at h
 ·obtain⟨xs,e,h⟩:=h
  obtain⟨v,ev,h⟩:=Az h
  exact⟨_,xs,_,v,rfl,rfl,SqL.of e,ev,h⟩
 ·exact h.elim
theorem iA:IxR X AA:=oG.weak fun x y H Q h=>by
 unfold AA at h
 split at h
 ·obtain⟨xs,e,h⟩:=h
  obtain⟨v,ev,h⟩:=Az h
  exact⟨_,xs,_,v,rfl,rfl,SqT.of e,ev,h⟩
 ·exact h.elim
theorem GR:IxR X JI:=GI.weak fun x y H Q h=>by
 unfold JI at h
 split at h
 ·obtain⟨e,h⟩:=h
  obtain⟨v,ev,h⟩:=Az h
  exact⟨_,_,v,rfl,rfl,e,ev,h⟩
 ·exact h.elim
def Fd (H:Hp) (a C:fO) (f:Str) (v:V):Prop:=∃dx fs,H a=some (.ins C dx fs)/\fs.lookup f=some v
def Nf (H:Hp) (a C:fO) (m:Str):Prop:=∃dx fs,H a=some (.ins C dx fs)/\fs.lookup m=none
def cFld (C:fO) (f:Str) (ta:TE):TE:=fun σ H Q=>ta σ H fun x H1=>match x with
 | .ref a=>∃v,Fd H1 a C f v/\Q v H1
 |_=>False
theorem iQ {C:fO} {f:Str} (c:Cls X.K C) (n:iU X.K C f) (he:PE X e ta) (hb:autoParam (attributeBase e f X.env (eval e X.env)=eval e X.env) L2.Internal.auR._auto_1):PE X (.Attribute e f pos) (cFld C f ta):=
 (jK he.mono hb).weak fun σ H Q h=>⟨_,h,fun x H1 h1=>by
  cases x with
  |ref a=>
   obtain⟨v,⟨dx,fs,ea,ev⟩,q⟩:=h1
   exact⟨a,C,dx,fs,v,rfl,ea,c,n,ev,q⟩
  |_=>exact h1.elim⟩
def Iz (C:fO) (m:Str) (sp:Sp) (dvs:List V) (E:XK) (ta:TE) (t:TA):TE:=fun σ H Q=>ta σ H fun x H1=>match x with
 | .ref a=>Nf H1 a C m/\t σ H1 fun vs H2=>sp (.ref a::(vs++dvs)) H2 Q E
 |_=>False
theorem iV {C:fO} {m:Str} {sp:Sp} {dvs:List V} {E:XK} {t:TA} (h:PE X e (Gx C m sp dvs E (mT ta) t)):PE X e (Iz C m sp dvs E ta t):=h.weak fun σ H Q h=>⟨_,h,fun x H1 h1=>by
  cases x with
  |ref a=>
   obtain⟨⟨dx,fs,ea,l⟩,q⟩:=h1
   exact⟨a,dx,fs,rfl,ea,l,q⟩
  |_=>exact h1.elim⟩
def IA (C:fO) (f:Str) (ta tv:TE):TS:=fun D σ H=>tv σ H fun y H1=>ta σ H1 fun x H2=>match x with
 | .ref a=>∃dx fs,H2 a=some (.ins C dx fs)/\fs.length<1000/\D.nx σ (upd H2 a (.ins C dx (lZ f y fs)))
 |_=>False
theorem mH {C:fO} {f:Str} {tv:TE} (c:Cls X.K C) (n:iU X.K C f) (h:PS X st (JB X.K (mT ta) (mT tv) f)):PS X st (IA C f ta tv):=h.weak fun D σ H h=>⟨_,h,fun y H1 h1=>⟨_,h1,fun x H2 h2=>by
  cases x with
  |ref a=>
   obtain⟨dx,fs,ea,l,q⟩:=h2
   exact⟨a,C,dx,fs,rfl,ea,c,n,l,q⟩
  |_=>exact h2.elim⟩⟩
def cS:R2:=fun x y H Q=>match x,y with
 | .str i,.str j=>i.length+j.length<=fY/\Q (.str (i++j)) H
 |_,_=>False
theorem AB:OpR X (gw .Add) cS:=yX.weak fun x y H Q h=>by
 unfold cS at h
 split at h
 ·exact⟨_,_,rfl,rfl,h.1,h.2⟩
 ·exact h.elim
def IB (td ty tx:TE):TE:=fun σ H Q=>td σ H fun x H1=>∃a,x= .ref a/\IsD H1 a/\ty σ H1 fun y H2=>tx σ H2 fun z H3=>∃kvs k,H3 a=some (.dK kvs)/\y=kV k/\kvs.length<fY/\
 (∀v,ky kvs k=some v->Q v H3)/\(ky kvs k=none->Q z (upd H3 a (.dK (lF kvs k z))))
theorem Cy {pz:List (fO×Obj)} {σ:St} {H:Hp} {s:fR} {a:fO} {kvs:List (Key×V)} {k:Key} {d:V} {u r:fQ} {A:gf} {E:fQ->fR->Prop} {Q:fQ->fR->Prop} (I:Inv X pz σ H s) (e:H a=some (.dK kvs)) (ry:jx (kV k) u) (rd:jx d r) (hl:kvs.length<fY)
  (h1:∀v w' s',ky kvs k=some v->Inv X pz σ H s'->jx v w'->Q w' s') (h2:ky kvs k=none->∀s',Inv X pz σ (upd H a (.dK (lF kvs k d))) s'->Q r s'):
  f6 (f7 X.prog X.w) A (call (.builtin "dict.setdefault") [.ref a,u,r]) Q E s:=by
 obtain⟨z,hd,vs,rel,dd⟩:=EH I.hok e
 refine call_meetsIn eE dd.typeIs PySem.F.entry_dict_setdefault (PySem.F.args_dict_setdefault_3 _ _ _) (kt_meets_setdefault (jF X.prog X.w) a (vq ry) hd r) ⟨vs,dd,by rw[<-rel.length];exact z,fun v hv=>?_,fun hn h' dd' hs=>?_⟩
 ·have q:=rel.val k
  rw[hv]at q
  cases e2:ky kvs k with
  |none=>rw[e2]at q;exact q.elim
  |some v'=>rw[e2]at q;exact h1 v' _ _ e2 (I.tok _) q
 ·have q:=rel.val k
  rw[hn]at q
  cases e2:ky kvs k with
  |some v'=>rw[e2]at q;exact q.elim
  |none=>
   have hl':(lF kvs k d).length<=fY:=by have:=jT kvs k d;lia
   have he:∃q,h'.get? a=some q:=let⟨q,_,_,hq,_⟩:=dd';⟨q,hq⟩
   exact h2 e2 _ (tZ I (by rw[e];exact True.intro) hs he (xO hl' hd (rel.put k rd) dd'))
theorem ui (ho:PE X o td) (he:PE X e ty) (hf:PE X f tx) (m:M2 X o "setdefault" apos e f cpos):PE X (.Call (.Attribute o "setdefault" apos) [e,f] [] cpos) (IB td ty tx):=by
 intro pz s σ H Q I h
 refine wpAny_Call_method m.base m.few m.line eC eE PySem.F.type_dict_setdefault (thn (ho pz s σ H _ I h) fun u s1 ⟨x,H1,I1,rx,a,ex,d,q1⟩=>?_)
 subst ex
 obtain rfl:u=Value.ref a:=rx
 obtain⟨t1,t2,_⟩:=DI I1 d
 refine⟨t1,t2,?_⟩
 rw[m.trees]
 refine Calls.callWith_builtin rfl (Calls.evalArgs_plain (Calls.spliced_cons (thn (he pz s1 σ H1 _ I1 q1) fun iv s2 ⟨y,H2,I2,ry,q2⟩=>
  Calls.spliced_cons (thn (hf pz s2 σ H2 _ I2 q2) fun fv s3 ⟨z,H3,I3,rz,kvs,k,e3,ey,hl,q3,q4⟩=>Calls.spliced_nil ?_))))
 subst ey
 exact Cy I3 e3 ry rz hl (fun v w' s4 ev I4 rw'=>⟨v,H3,I4,rw',q3 v ev⟩) (fun hn s4 I4=>⟨z,_,I4,rz,q4 hn⟩)
def GS (to ta:TE):TE:=fun σ H Q=>to σ H fun x H1=>match x with
 | .ref l=>(∃xs,H1 l=some (.lst xs))/\ta σ H1 fun y H2=>∃xs,H2 l=some (.lst xs)/\xs.length<fY/\Q .non (upd H2 l (.lst (xs++[y])))
 |_=>False
theorem lJ (h:PE X e (tBM X.K "list" Ah (mT to) (wA (mT ta) DH))):PE X e (GS to ta):=h.weak fun σ H Q h=>⟨_,h,fun x H1 h1=>by
  cases x with
  |ref l=>
   obtain⟨⟨xs,e⟩,q⟩:=h1
   exact⟨.inl ⟨rfl,xs,SqL.of e⟩,_,q,fun y H2 ⟨xs,e,hl,q2⟩=>⟨l,xs,y,rfl,rfl,e,hl,q2⟩⟩
  |_=>exact h1.elim⟩
end
end L2.Internal
namespace BO.Internal
open PySem L2.Internal
theorem uj:∀(n:Nat) (l:List Nat),l.Nodup->(∀x∈l,x<n)->l.length<=n
 |0,[],_,_=>cB _
 |0,a::_,_,h=>absurd (h a (by simp)) (cK _)
 |n+ 1,l,d,h=>by
  by_cases m:n∈l
  ·have e:=List.length_erase_of_mem m
   have ih:=uj n (l.erase n) (d.erase n) fun x hx=>by
    have:=(List.Nodup.mem_erase_iff d).mp hx
    have:=h x this.2
    omega
   omega
  ·have ih:=uj n l d fun x hx=>by
    have:=h x hx
    have:x≠n:=fun z=>m (z▸hx)
    omega
   omega
def wd:Bool->Str
 |true=>"goes"
 |false=>"here"
structure Rw where
 w:Bool
 a:Int
 b:Int
 y:Option (Int×Int)
def Rw.k (r:Rw):List Key:=[.inr (wd r.w),.inl r.a,.inl r.b]
def Gf:Option (Int×Int)->Dt
 |none=> .flat .non
 |some p=>flD p
def Rw.d (r:Rw):Dt:= .tup [.flat (.str (wd r.w)),.flat (.int r.a),.flat (.int r.b),Gf r.y]
def Rw.ok (N M:Int) (r:Rw):Prop:=0<=r.a/\(r.a<match r.w with|true=>N|false=>M)/\0<=r.b/\r.b<N
def Rw.c (r:Rw):Nat:=(match r.w with|true=>0|false=>4096)+r.a.toNat*64+r.b.toNat
theorem vH {α β:Type} {f:α->β}:∀{l:List α},(l.map f).Nodup->∀{g:α->Nat},(∀x∈l,∀y∈l,g x=g y->f x=f y)->(l.map g).Nodup
 |[],_,_,_=>aW
 |a::t,h,g,k=>by
  rw[aD,aG]at h⊢
  refine⟨fun m=>?_,vH h.2 fun x hx y hy=>k x (by simp[hx]) y (by simp[hy])⟩
  obtain⟨y,hy,e⟩:=bp.mp m
  exact h.1 (bp.mpr ⟨y,hy,k y (by simp[hy]) a (by simp) e⟩)
def ixn (A:Nat->Option Int) (p:Int) (n:Nat):List Int:=((aa n).filter fun j=>decide (A j=some p)).map fun j=>((j:Nat):Int)
theorem CA {A:Nat->Option Int} {p:Int} {n:Nat}:ixn A p (n+ 1)=ixn A p n++if A n=some p then[(n:Int)]else[]:=by
 unfold ixn
 rw[bA,List.filter_append,bB]
 congr 1
 by_cases h:A n=some p
 ·rw[ja h];simp[h]
 ·rw[iT h];simp[h]
theorem wI {A:Nat->Option Int} {p:Int} {n:Nat}:(ixn A p n).length<=n:=by
 unfold ixn
 rw[aE]
 exact cy (bC _ _) (by simp)
theorem wJ {A:Nat->Option Int} {p:Int} {n:Nat} {x:Int} (h:x∈ixn A p n):∃j:Nat,x=j/\j<n/\A j=some p:=by
 unfold ixn at h
 obtain⟨j,hj,rfl⟩:=bp.mp h
 rw[ab]at hj
 exact⟨j,rfl,ae.mp hj.1,of_decide_eq_true hj.2⟩
def bdn (A:Nat->Option Int) (q:Int->Bool) (p k:Int) (n:Nat):List (Int×Int):=((ixn A p n).filter q).map fun j=>(k,j)
theorem E1 {A:Nat->Option Int} {q:Int->Bool} {p k:Int} {n:Nat}:(bdn A q p k n).length<=n:=by
 unfold bdn
 rw[aE]
 exact cy (bC _ _) wI
def kH (f:Rw->Int->List (Int×Int)) (R:List Rw):Nat->List (Int×Int)
 |0=>[]
 |n+ 1=>kH f R n++match R[n]? with
  |some r=>f r n
  |none=>[]
theorem rB {f:Rw->Int->List (Int×Int)} {R S:List Rw}:∀{n:Nat},n<=R.length->kH f (R++S) n=kH f R n
 |0,_=>rfl
 |n+ 1,h=>by
  rw[kH,kH,rB (Nat.le_of_succ_le h),aN h]
theorem rC {f:Rw->Int->List (Int×Int)} {R:List Rw} {n:Nat} {r:Rw} (h:R[n]?=some r):kH f R (n+ 1)=kH f R n++f r n:=by
 rw[kH,h]
structure DL (H:Hp) (d:fO) (L:List fO) (f:Int->List V) (k:Nat):Prop where
 ex:∃kvs:List (Key×V),H d=some (.dK kvs)/\kvs.length<=k/\(∀p,ky kvs (.inl p)=none->f p=[])/\
  (∀p v,ky kvs (.inl p)=some v->∃l,l∈L/\v= .ref l/\H l=some (.lst (f p)))/\(∀p q v,ky kvs (.inl p)=some v->ky kvs (.inl q)=some v->p=q)
def BX (f:Int->List V) (p:Int) (x:V):Int->List V:=fun q=>if q=p then f p++[x]else f q
structure Sda (H:Hp) (d:fO) (L:List fO) (f:Int->List V) (k:Nat) (p:Int) (l:fO) (H1:Hp):Prop where
 here:H1 l=some (.lst (f p))
 fin:∀H2 x,iE H1 H2->∃L',(∀a∈L',a∈L\/a=l)/\DL (upd H2 l (.lst (f p++[x]))) d L' (BX f p x) (k+ 1)
 fr:∀a o,H a=some o->a≠d->H1 a=some o
 own:l∈L\/H l=none
theorem DL.same {H H':Hp} {d:fO} {L:List fO} {f:Int->List V} {k:Nat} (W:DL H d L f k) (s:∀a o,H a=some o->a=d\/a∈L->H' a=some o):DL H' d L f k:=by
 obtain⟨kvs,e,hl,h1,h2,h3⟩:=W
 exact⟨kvs,s _ _ e (.inl rfl),hl,h1,fun p v hv=>by obtain⟨l,m,rfl,el⟩:=h2 p v hv;exact⟨l,m,rfl,s _ _ el (.inr m)⟩,h3⟩
theorem DL.keep {H H':Hp} {d:fO} {L:List fO} {f:Int->List V} {k:Nat} (W:DL H d L f k) (hd:∀kvs,H d=some (.dK kvs)->H' d=some (.dK kvs)) (hl:∀a l,a∈L->H a=some (.lst l)->H' a=some (.lst l)):DL H' d L f k:=by
 obtain⟨kvs,e,hn,h1,h2,h3⟩:=W
 exact⟨kvs,hd _ e,hn,h1,fun p v hv=>by obtain⟨l,m,rfl,el⟩:=h2 p v hv;exact⟨l,m,rfl,hl _ _ m el⟩,h3⟩
theorem DL.get {H:Hp} {d:fO} {L:List fO} {f:Int->List V} {k:Nat} (W:DL H d L f k) (p:Int) {z:fO} (hz:H z=none):
  ∃kvs l,(upd H z (.lst [])) d=some (.dK kvs)/\(ky kvs (.inl p)).getD (.ref z)= .ref l/\(upd H z (.lst [])) l=some (.lst (f p))/\(l∈L\/H l=none):=by
 obtain⟨kvs,e,hl,h1,h2,h3⟩:=W
 have s:=gZ hz (.lst [])
 cases ev:ky kvs (.inl p)with
 |none=>exact⟨kvs,z,s _ _ e,by rw[ev];rfl,by rw[h1 p ev];exact hG,.inr hz⟩
 |some v=>
  obtain⟨l,m,rfl,el⟩:=h2 p v ev
  exact⟨kvs,l,s _ _ e,by rw[ev];rfl,s _ _ el,.inl m⟩
theorem DL.sda {H:Hp} {d:fO} {L:List fO} {f:Int->List V} {k:Nat} (W:DL H d L f k) (p:Int) {z:fO} (hz:H z=none):
  ∃kvs,(upd H z (.lst [])) d=some (.dK kvs)/\kvs.length<=k/\
   (∀v,ky kvs (.inl p)=some v->∃l,v= .ref l/\Sda H d L f k p l (upd H z (.lst [])))/\
   (ky kvs (.inl p)=none->Sda H d L f k p z (upd (upd H z (.lst [])) d (.dK (lF kvs (.inl p) (.ref z))))):=by
 obtain⟨kvs,e,hl,h1,h2,h3⟩:=W
 have s:=gZ hz (.lst [])
 have dz:d≠z:=ie e hz
 refine⟨kvs,s _ _ e,hl,fun v hv=>?_,fun hn=>?_⟩
 ·obtain⟨l,m,rfl,el⟩:=h2 p v hv
  refine⟨l,rfl,s _ _ el,fun H2 x S=>⟨L,fun a ha=> .inl ha,kvs,?_,cM hl,fun q hq=>?_,fun q v hv'=>?_,h3⟩,fun a o ea _=>s _ _ ea,.inl m⟩
  ·rw[hX (iX e el (fun z=>nomatch z))]
   exact S _ _ (s _ _ e)
  ·have:q≠p:=fun z=>by rw[z,hv]at hq;cases hq
   rw[BX,iT this]
   exact h1 q hq
  ·obtain⟨l',m',rfl,el'⟩:=h2 q v hv'
   refine⟨l',m',rfl,?_⟩
   by_cases z:q=p
   ·subst z
    rw[hv]at hv'
    cases hv'
    rw[BX,ja rfl]
    exact hG
   ·have:l'≠l:=fun w=>z (h3 q p (.ref l') hv' (by rw[w];exact hv))
    rw[BX,iT z,hX this]
    exact S _ _ (s _ _ el')
 ·have ez:(upd (upd H z (.lst [])) d (.dK (lF kvs (.inl p) (.ref z)))) z=some (.lst []):=by rw[hX dz.symm];exact hG
  refine⟨by rw[ez,h1 p hn],fun H2 x S=>⟨z::L,fun a ha=>?_,lF kvs (.inl p) (.ref z),?_,?_,fun q hq=>?_,fun q v hv'=>?_,fun q1 q2 v e1 e2=>?_⟩,fun a o ea n=>by rw[hX n];exact s _ _ ea,.inr hz⟩
  ·rcases aj.mp ha with rfl|ha
   ·exact .inr rfl
   ·exact .inl ha
  ·rw[hX dz]
   exact S _ _ hG
  ·have:=jT kvs (.inl p) (.ref z)
   omega
  ·rw[pG]at hq
   by_cases w:q=p
   ·rw[ja (by rw[w])]at hq;cases hq
   ·rw[iT (fun y=>w (by injection y))]at hq
    rw[BX,iT w]
    exact h1 q hq
  ·rw[pG]at hv'
   by_cases w:q=p
   ·rw[ja (by rw[w])]at hv'
    cases hv'
    exact⟨z,by simp,rfl,by rw[BX,ja w];exact hG⟩
   ·rw[iT (fun y=>w (by injection y))]at hv'
    obtain⟨l',m',rfl,el'⟩:=h2 q v hv'
    refine⟨l',by simp[m'],rfl,?_⟩
    rw[BX,iT w,hX (ie el' hz)]
    refine S _ _ ?_
    rw[hX (iX el' e (fun z=>nomatch z))]
    exact s _ _ el'
  ·rw[pG]at e1 e2
   have no:∀q,ky kvs (.inl q)≠some (.ref z):=fun q y=>by
    obtain⟨l',_,w,el'⟩:=h2 q _ y
    cases w
    rw[hz]at el'
    cases el'
   by_cases w1:q1=p
   ·by_cases w2:q2=p
    ·rw[w1,w2]
    ·rw[ja (by rw[w1])]at e1
     cases e1
     rw[iT (fun y=>w2 (by injection y))]at e2
     exact absurd e2 (no q2)
   ·by_cases w2:q2=p
    ·rw[ja (by rw[w2])]at e2
     cases e2
     rw[iT (fun y=>w1 (by injection y))]at e1
     exact absurd e1 (no q1)
    ·rw[iT (fun y=>w1 (by injection y))]at e1
     rw[iT (fun y=>w2 (by injection y))]at e2
     exact h3 q1 q2 v e1 e2
open Classical in
def vI (R:List Rw) (ρ:Rw):List Rw:=if ρ.k∈R.map Rw.k then R else R++[ρ]
def kJ (R l:List Rw):List Rw:=l.foldl vI R
theorem mB (R l:List Rw) (ρ:Rw):kJ R (l++[ρ])=vI (kJ R l) ρ:=by
 unfold kJ
 rw[List.foldl_append]
 rfl
theorem ya (R:List Rw) (ρ:Rw):∃more,vI R ρ=R++more:=by
 unfold vI
 split
 ·exact⟨[],(aF _).symm⟩
 ·exact⟨[ρ],rfl⟩
theorem lK:∀(l R:List Rw),∃more,kJ R l=R++more
 |[],R=>⟨[],(aF _).symm⟩
 |ρ::l,R=>by
  obtain⟨m1,e1⟩:=ya R ρ
  obtain⟨m2,e2⟩:=lK l (vI R ρ)
  refine⟨m1++m2,?_⟩
  show kJ (vI R ρ) l=_
  rw[e2,e1,bD]
def qV (p:Int) (r:Rw) (n:Int):List (Int×Int):=if r.w=true/\r.a=p then[(n,r.b)]else[]
def sv (p:Int) (r:Rw) (n:Int):List (Int×Int):=if r.w=false/\r.b=p then[(n,r.a)]else[]
theorem uk {f:Rw->Int->List (Int×Int)} {R:List Rw} {x:Int×Int}:∀{k:Nat},x∈kH f R k->∃(n:Nat) (r:Rw),n<k/\R[n]?=some r/\x∈f r n
 |0,h=>by cases h
 |k+ 1,h=>by
  rw[kH]at h
  rcases ak.mp h with h|h
  ·obtain⟨n,r,h1,h2,h3⟩:=uk h
   exact⟨n,r,cG h1,h2,h3⟩
  ·cases e:R[k]? with
   |none=>rw[e]at h;cases h
   |some r=>rw[e]at h;exact⟨k,r,cE k,e,h⟩
theorem AD {R:List Rw} {p:Int} {k:Nat} {x:Int×Int} (h:x∈kH (qV p) R k):∃(n:Nat) (y:Option (Int×Int)),x.1=(n:Int)/\n<k/\R[n]?=some ⟨true,p,x.2,y⟩:=by
 obtain⟨n,⟨w,a,b,y⟩,h1,h2,h3⟩:=uk h
 unfold qV at h3
 split at h3
 ·rename_i z
  simp only[bh]at h3
  subst h3
  obtain⟨z1,z2⟩:=z
  dsimp only at z1 z2
  subst z1 z2
  exact⟨n,y,rfl,h1,h2⟩
 ·cases h3
theorem AE {R:List Rw} {p:Int} {k:Nat} {x:Int×Int} (h:x∈kH (sv p) R k):∃(n:Nat) (y:Option (Int×Int)),x.1=(n:Int)/\n<k/\R[n]?=some ⟨false,x.2,p,y⟩:=by
 obtain⟨n,⟨w,a,b,y⟩,h1,h2,h3⟩:=uk h
 unfold sv at h3
 split at h3
 ·rename_i z
  simp only[bh]at h3
  subst h3
  obtain⟨z1,z2⟩:=z
  dsimp only at z1 z2
  subst z1 z2
  exact⟨n,y,rfl,h1,h2⟩
 ·cases h3
theorem qW {α β:Type} {f:α->β} {l:List α} {i:Nat} {x:α} (h:l[i]?=some x):(l.take (i+ 1)).map f=(l.take i).map f++[f x]:=by
 rw[bE,h,bB]
 rfl
end BO.Internal
namespace L2.Internal
open PySem PySem.Spec PyProof.Rows
section
variable {X:Cx}
theorem yb:∀{xs:List V} {us:List fQ} {u:fQ},jI xs us->u∈us->∃(j:Nat) (x:V),xs[j]?=some x/\jx x u
 |_,_,_,.nil,h=>by cases h
 |x::xs,v::us,u,.cons r t,h=>by
  rcases aj.mp h with e|h
  ·subst e;exact⟨0,x,rfl,r⟩
  ·obtain⟨j,y,e,r'⟩:=yb t h
   exact⟨j+ 1,y,e,r'⟩
end
section
variable {X:Cx}
theorem pK:gx "sorted"=some (.builtin "sorted"):=iJ
theorem AF:∀{ss:List Str} {us:List fQ},jI (ss.map V.str) us->StrsAre us ss
 |[],_,.nil=> .nil
 |x::ss,_,.cons h r=>by
  obtain⟨t,e⟩:=h
  cases e
  exact .cons x t (AF r)
theorem vJ:∀{ss:List Str} {us:List fQ},StrsAre us ss->jI (ss.map V.str) us
 |_,_,.nil=> .nil
 |_,_,.cons y t r=> .cons ⟨t,rfl⟩ (vJ r)
theorem vK:m9 X (.builtin "sorted") (fun xs H Q=>∃(a:fO) (ss:List Str),xs=[.ref a]/\SqL X.K H a (ss.map V.str)/\ss.length<64/\∀(l:fO) (ss':List Str),H l=none->ss'.Perm ss->sortedS ss'=true->Q (.ref l) (upd H l (.lst (ss'.map V.str)))):=by
 intro pz s σ H xs us Q I r h
 obtain⟨a,ss,rfl,hq,hlen,q⟩:=h
 obtain⟨u,rfl,ru⟩:=nj r
 cases ru
 obtain⟨its,rv,p,hz⟩:=I.list hq
 have l1:=rv.length
 rw[aE]at l1
 refine sorted_strs p.isList (AF rv) (by lia) fun out ss' a1 a2 a3=>?_
 obtain⟨e,he⟩:=sortedAll_at s.heap its out
 have l2:=a2.length_eq
 have v2:=vJ a1
 refine⟨.ref (s.heap.objs.size+ 1),_,I.laid (t':=s.toks) (a:=s.heap.objs.size+ 1) (o:= .lst (ss'.map V.str)) (fun _ _=>sortedAll_old) (cF _) ⟨?_,out.toList,e,v2,he⟩,rfl,q _ ss' (I.hok.fresh (cF _)) a2 a3⟩
 rw[aE]at hz⊢
 lia
theorem IC {scope:gQ} {x y:Str} (ns:List Str) (cap:List (Str×Nat×fO)) (hns:cap.map (·.1)=ns) (hk:scope.kind= .function) (hn:∀p∈scope.names,p.2≠ .cell/\(p.2= .free->p.1∈ns)) (hl:∀y∈scope.names,y.2= .local->scope.names.lookup y.1=some .local)
  (hx:scope.names.lookup x=some .local) (hnd:(x::y::ns).Nodup) (hc:gX scope X.env=pure (cap.map fun p=>(p.1,p.2.2))) (hok:X.env.scope.kind= .function)
  (h:∀p∈cap,scope.names.lookup p.1=some .free/\X.env.cells.lookup p.1=some p.2.2/\X.env.scope.names.lookup p.1=some .cell/\X.N[p.2.1]?=some p.1):
  qe X (x::y::ns) scope (cap.map fun p=>(p.1,p.2.2)) (fun σ=>none::none::cap.map fun p=>σ.getD p.2.1 none) 0 x where
 kind:=hk
 cell:=fun y hy=>(hn y hy).1
 names:=hl
 clos:=hc
 lk:=fun z c q=>by
  obtain⟨p,hp,e⟩:=bp.mp (PySem.mem_of_lookup q)
  cases e
  exact(h p hp).2.1
 has:=fun z q=>by
  refine qh ?_
  rw[hns]
  rcases q with q|q
  ·obtain⟨k0,e,q⟩:=jn q
   have m:=hn _ (PySem.mem_of_lookup e)
   rcases q with q|⟨q,_⟩
   ·exact absurd q.symm m.1
   ·exact m.2 q
  ·obtain⟨k0,e,q⟩:=jn q
   have m:=hn _ (PySem.mem_of_lookup e)
   rcases q with q|⟨q,_⟩
   ·exact m.2 q.symm
   ·exact m.2 q
 nd:=hnd
 ix:=rfl
 loc:=hx
 len:=fun _ _=>by simp[<-hns]
 val:=fun σ k z v h1 h2=>by
  match k with
  |0=>simp at h2
  |1=>simp at h2
  |k+ 2=>
   rw[<-hns,bq,bq,aO]at h1
   rw[bq,bq,aO]at h2
   cases e:cap[k]? with
   |none=>rw[e]at h1;cases h1
   |some p=>
    rw[e]at h1 h2
    have ez:p.1=z:=cR.inj h1
    have ev:σ.getD p.2.1 none=some v:=cR.inj h2
    subst ez
    obtain⟨a1,a2,a3,a4⟩:=h p (aP e)
    rw[br]at ev
    refine⟨p.2.1,a4,?_,a3,km hok a3 a1⟩
    cases q:σ[p.2.1]? with
    |none=>rw[q]at ev;cases ev
    |some o=>rw[q]at ev;exact congrArg some ev
end
section
variable {X:Cx} {pz:List (fO×Obj)} {σ:St} {H:Hp} {s:fR}
end
theorem AG (a v:fQ):argsOk "max" ⟨[a],[(Str.ofString "default",v)]⟩:=by unfold argsOk;kernel_rfl
section
variable {prog:f9} {w:gm} {A:gf} {R:Result->fR->Prop} {I:fO} {fp wr:List fO} {n:Nat} {P:Nat->fQ->Prop} {St:Nat->Heap->Prop}
theorem AH (W:Walks prog w A.in1 I fp wr n P St) (bt:Nat->Nat->Bool) (hcmp:CmpOf prog w A.in1 .Gt P bt) (B:fO) (hBf:B∉fp) (nm:Str) (d:fQ):
  ∀(k j:Nat) (t:fR) (old:Array fQ) (c:Nat),n-j=k->j<=n->St j t.heap->(old=#[]\/∃i v,P i v/\old=#[v,v])->
  t.heap.get? B=some {cls:= .type "list",dict:=none,data:= .seq old c,slots:=#[]}->
  (∀v h2 tk,(v=d\/∃i,P i v)->(∀b o,b∉wr->b≠B->t.heap.get? b=some o->h2.get? b=some o)->R (.ok (.ret v)) {t with heap:=h2,toks:=tk})->
  codeAny (f7 prog w) A (.builtin "max.loop" ⟨[.ref I,.none,.ref B],[(nm,d)]⟩) R t:=by
 have hBw:B∉wr:=fun h=>hBf (W.sub _ h)
 have hnm:(toString "max"++toString ".loop":String)="max.loop":=by decide
 intro k
 induction k with
 |zero=>
  intro j t old c hk hj st ho gB q
  have e0:j=n:=by lia
  refine codeAny_builtin F.entry_max_loop ?_
  rw[Around.under_plainId F.plain_max_loop _]
  show f6 _ A.in1 (seqItems? (.ref B) >>= _) _ _ t
  refine fV (gC gB rfl ?_)
  show f6 _ A.in1 (tryCatch (pyNext (.ref I)) _ >>= _) _ _ t
  refine fV (wpAny_tryCatch (W.done t _ _ (e0▸st) fun h2 tk kp=>?_))
  rcases ho with rfl|⟨i,v,hP,rfl⟩
  ·show f6 _ A.in1 (rule _ >>= _) _ _ _
   refine fV (gU (fW ?_))
   exact q d h2 tk (.inl rfl) fun b o hb _ e=>kp b o hb e
  ·have gB2:=kp B _ hBw gB
   show f6 _ A.in1 (updateSeq B (fun _=>#[]) >>= _) _ _ _
   refine fV (wpAny_updateSeq gB2 rfl (fV (wpAny_letGo (fW ?_))))
   exact q v _ tk (.inr ⟨i,hP⟩) fun b o hb hn e=>(fH _ _ (Ne.symm hn)).trans (kp b o hb e)
 |succ k ih=>
  intro j t old c hk hj st ho gB q
  have hlt:j<n:=by lia
  refine codeAny_builtin F.entry_max_loop ?_
  rw[Around.under_plainId F.plain_max_loop _]
  show f6 _ A.in1 (seqItems? (.ref B) >>= _) _ _ t
  refine fV (gC gB rfl ?_)
  show f6 _ A.in1 (tryCatch (pyNext (.ref I)) _ >>= _) _ _ t
  refine fV (wpAny_tryCatch (W.item j t _ _ hlt st fun x h2 tk hP st2 kp=>?_))
  have gB2:=kp B _ hBw gB
  have oth:∀{b:fO},b∈fp->B≠b:=fun hb e=>hBf (by rw[e];exact hb)
  rcases ho with rfl|⟨i,v,hPv,rfl⟩
  ·show f6 _ A.in1 (updateSeq B (fun _=>#[x,x]) >>= _) _ _ _
   refine fV (wpAny_updateSeq gB2 rfl ?_)
   rw[hnm]
   refine fW ⟨plainId_quiet F.plain_max_loop _,ih (j+ 1) _ #[x,x] _ (by lia) hlt (W.frame _ _ _ st2 fun b hb o e=>(fH _ _ (oth hb)).trans e) (.inr ⟨j,x,hP,rfl⟩) (fI _ gB2 rfl) fun v2 h3 tk3 hv kp3=>?_⟩
   exact q v2 h3 tk3 hv fun b o hb hn e=>kp3 b o hb hn ((fH _ _ (Ne.symm hn)).trans (kp b o hb e))
  ·show f6 _ A.in1 (tryCatch (holding [x,x] (richCompare .Gt x v >>= _)) _ >>= _) _ _ _
   refine fV (wpAny_tryCatch (gD (fV (hcmp j i x v _ _ _ hP hPv ?_))))
   refine fV (gD (gF ?_))
   refine fV (wpAny_letGo (fW ?_))
   cases hb:bt j i with
   |true=>
    simp only[if_true]
    refine fV (wpAny_updateSeq gB2 rfl (fV (wpAny_letGo ?_)))
    rw[hnm]
    refine fW ⟨plainId_quiet F.plain_max_loop _,ih (j+ 1) _ #[x,x] _ (by lia) hlt (W.frame _ _ _ st2 fun b hb o e=>(fH _ _ (oth hb)).trans e) (.inr ⟨j,x,hP,rfl⟩) (fI _ gB2 rfl) fun v2 h3 tk3 hv kp3=>?_⟩
    exact q v2 h3 tk3 hv fun b o hb hn e=>kp3 b o hb hn ((fH _ _ (Ne.symm hn)).trans (kp b o hb e))
   |false=>
    simp only[eV,if_false]
    refine fV (wpAny_letGo ?_)
    rw[hnm]
    refine fW ⟨plainId_quiet F.plain_max_loop _,ih (j+ 1) _ #[v,v] c (by lia) hlt st2 (.inr ⟨i,v,hPv,rfl⟩) gB2 fun v2 h3 tk3 hv kp3=>?_⟩
    exact q v2 h3 tk3 hv fun b o hb hn e=>kp3 b o hb hn (kp b o hb e)
end
section
variable {prog:f9} {w:gm} {A:gf} {E:fQ->fR->Prop} {s:fR} {l:fO} {xs:Array (Int×Tok)}
theorem AI {d:fQ} {Q:fQ->fR->Prop} (hh:A.handled=none) (hl:s.heap.IsList l (intItems xs))
  (h:∀v h2 tk,(v=d\/∃(i:Int) (t:Tok),v= .int i t)->(∀b o,s.heap.get? b=some o->h2.get? b=some o)->Q v {s with heap:=h2,toks:=tk}):
  f6 (f7 prog w) A (call (.builtin "max") [.ref l] [(Str.ofString "default",d)]) Q E s:=by
 have hnm:(toString "max"++toString ".loop":String)="max.loop":=by decide
 refine PyProof.Rows.kmk_tree F.kind_max F.plain_max F.entry_max (AG _ _) ?_
 show f6 _ A.in1 (Builtin.Builtins.bindParams "max" ["key","default"] 0 ⟨[],[(Str.ofString "default",d)]⟩ >>= _) _ _ s
 refine fV (wpAny_of_eq (show Builtin.Builtins.bindParams "max" ["key","default"] 0 ⟨[],[(Str.ofString "default",d)]⟩=pure [none,some d]from rfl) ?_)
 refine fV (fW ?_)
 refine fV (iter_intList hl fun s2 e st hfp hlI=>?_)
 subst e
 refine fV (gA ?_)
 rw[hnm]
 have W:=Walks.list (prog:=prog) (w:=w) (A:=A.in1) hh s.heap.objs.size l hlI (intItems xs)
 refine fW ⟨plainId_quiet F.plain_max_loop _,AH W _ (CmpOf.ints_gt (numAt xs) (fun _ _=>intItems_at)) _ (fun hm=>cw _ (hfp _ hm)) _ d _ 0 _ #[] 0 rfl (cC _) (W.frame _ _ _ st fun b _ o e=>fF _ e) (.inl rfl) (fE _ rfl) fun v h2 tk hv kp=>?_⟩
 refine h v h2 tk ?_ (old_kept fun b o hb e=>kp b o hb (cx (fC e)) (fF _ e))
 rcases hv with hv|⟨i,hv⟩
 ·exact .inl hv
 ·obtain⟨t,rfl⟩:=intItems_at hv
  exact .inr ⟨_,t,rfl⟩
end
section
variable {X:Cx}
def ID (K:PySem.W.Frag) (ta:TA) (td:TE):TE:=fun σ H Q=>ta σ H fun vs H1=>td σ H1 fun x H2=>∃(a:fO) (ns:List Int) (i:Int),vs=[.ref a]/\x= .int i/\SqL K H2 a (ns.map V.int)/\∀n,Q (.int n) H2
theorem E2 {e d:gS} {p kp pos:Pos} {ta:TA} {td:TE} (hc:X.calm=true) (hg:Gl X "max") (hm:X.mg "max"=none) (ha:PA X [e] ta) (hd:PE X d td) (he:autoParam (gN pos (gn [e] X.env)=(false,eval e X.env)::gN pos (gn [] X.env)) L2.Internal.auR._auto_1):
  PE X (.Call (.Name "max" p) [e] [⟨some "default",d,kp⟩] pos) (ID X.K ta td):=by
 intro pz s σ H Q I h
 refine gL (qB I hg hm DU ?_ (by decide) (by decide))
 refine callWith_kw (thn (ha pos pz s σ H _ I h) fun us s1 ⟨vs,H1,I1,r1,q1⟩=>?_) he (by rw[he];rfl)
 refine kws_cons (thn (hd pz s1 σ H1 _ I1 q1) fun u s2 ⟨x,H2,I2,rx,a,ns,i,e1,e2,hq,q2⟩=>?_)
 subst e1 e2
 refine kws_nil ?_
 obtain⟨v0,rfl,rv0⟩:=nj r1
 cases rv0
 obtain⟨its,rv,pl,hz⟩:=I2.list hq
 obtain⟨zs,ez⟩:=(qd rv).allInts.items
 have il:=pl.isList
 rw[ez]at il
 obtain⟨t,rfl⟩:=rx
 refine AI (I2.ok.hd hc) il fun v h2 tk hv hk=>?_
 rcases hv with rfl|⟨j,t2,rfl⟩
 ·exact⟨.int i,H2,I2.kept (t':=tk) hk,⟨t,rfl⟩,q2 i⟩
 ·exact⟨.int j,H2,I2.kept (t':=tk) hk,⟨t2,rfl⟩,q2 j⟩
end
section
variable {X:Cx}
theorem AJ (hc:X.calm=true):m9 X (.builtin "sum") (fun xs H Q=>∃(a:fO) (ns:List Int),xs=[.ref a]/\SqL X.K H a (ns.map V.int)/\ns.length<=100/\(∀n∈ns,0<=n/\n<=1000)/\Q (.int ns.sum) H):=by
 intro pz s σ H xs us Q I r h
 obtain⟨a,ns,rfl,hq,hl,hb,q⟩:=h
 obtain⟨u,rfl,ru⟩:=nj r
 cases ru
 obtain⟨its,rv,p,hz⟩:=I.list hq
 obtain⟨zs,e⟩:=(qd rv).allInts.items
 have l:=p.isList
 rw[e]at l
 have hn:∀j,numAt zs j=ns.getD j 0:=fun j=>by
  have h1:its.toArray[j]?=(intItems zs)[j]?:=by rw[e]
  by_cases hj:j<ns.length
  ·obtain⟨v,hv,rv'⟩:=rv.get (show(ns.map V.int)[j]?=some (.int ns[j]) by rw[aO,bj hj];rfl)
   obtain⟨t,rfl⟩:=rv'
   rw[bu,hv]at h1
   obtain⟨t2,e2⟩:=intItems_at h1.symm
   injection e2 with e2 _
   rw[<-e2,br,bj hj]
   rfl
  ·have hlen:=rv.length
   rw[aE]at hlen
   rw[bu,bF (by lia)]at h1
   have h2:zs[j]?=none:=by
    simp only[intItems,Array.getElem?_map]at h1
    cases h3:zs[j]? with
    |none=>rfl
    |some z=>rw[h3]at h1;cases h1
   rw[br,bF (by lia)]
   simp[numAt,h2]
 have hsz:zs.size=ns.length:=by
  have h1:=congrArg Array.size e
  simp only[intItems,aA,Array.size_map]at h1
  have hlen:=rv.length
  rw[aE]at hlen
  lia
 have pre:∀j,j<=ns.length->preSum (numAt zs) j=(ns.take j).sum:=fun j=>by
  induction j with
  |zero=>intro _;simp[preSum]
  |succ j ih=>
   intro hj
   rw[preSum,ih (by lia),hn,bE,bj (show j<ns.length by lia),bG,br,bj (show j<ns.length by lia)]
   simp
 have bnd:∀l:List Int,(∀n∈l,0<=n/\n<=1000)->0<=l.sum/\l.sum<=1000*(l.length:Int):=fun l=>by
  induction l with
  |nil=>intro _;simp
  |cons x l ih=>
   intro h
   have h1:=h x (by simp)
   have h2:=ih fun n hn=>h n (by simp[hn])
   rw[bH,aB]
   lia
 refine sum_intList (I.ok.hd hc) l (fun j hj=>?_) fun h2 tk t2 hk=>⟨.int ns.sum,H,I.kept (t':=tk) hk,⟨t2,?_⟩,q⟩
 ·rw[hsz]at hj
  have b1:=hb (ns.getD j 0) (by rw[br,bj hj];exact bw hj)
  have b2:=bnd (ns.take (j+ 1)) fun n hm=>hb n (bI hm)
  have b3:(ns.take (j+ 1)).length<=100:=by rw[aK];lia
  rw[hn,pre (j+ 1) hj]
  constructor<;>constructor<;>lia
 ·rw[hsz,pre ns.length (cB _),bJ]
end
end L2.Internal
namespace L2.Internal
open PySem PySem.Spec PyProof.Rows PySem.W
def KG {α:Type} (n:Nat) (P:α->Prop):KasT α->Prop
 | .ret a=>P a
 | .ask i j k=>i<n/\j<n/\∀b,KG n P (k b)
theorem KG.bind {α β:Type} {n:Nat} {P:α->Prop} {R:β->Prop} {f:α->KasT β}:∀(t:KasT α),KG n P t->(∀a,P a->KG n R (f a))->KG n R (t.bind f)
 | .ret a,h,g=>g a h
 | .ask _ _ k,h,g=>⟨h.1,h.2.1,fun b=>KG.bind (k b) (h.2.2 b) g⟩
theorem KG.wp {α:Type} {n:Nat} {P:α->Prop} {cmp:Nat->Nat->(Bool->fR->Prop)->fR->Prop} {Q:α->fR->Prop} {s:fR} (hc:∀i j C,i<n->j<n->(∀b,C b s)->cmp i j C s) (hq:∀a,P a->Q a s):
  ∀(t:KasT α),KG n P t->t.kasWp cmp Q s
 | .ret a,h=>hq a h
 | .ask i j k,h=>hc i j _ h.1 h.2.1 fun b=>KG.wp hc hq (k b) (h.2.2 b)
def PmN (n:Nat) (p:Array Nat):Prop:=p.Perm (bK (aa n))
theorem PmN.lt {n:Nat} {p:Array Nat} (h:PmN n p) (h0:0<n) (k:Nat):p.getD k 0<n:=by
 rw[Array.getD]
 split
 ·rename_i hk
  have m:p[k]∈p.toList:=by simp
  have:=(eY.mp h).mem_iff.mp m
  simpa using this
 ·exact h0
theorem PmN.rev {n:Nat} {p:Array Nat} (h:PmN n p) (i j:Nat):PmN n (kas_rev p i j):=(mirror_perm p i j _).trans h
theorem AK {n:Nat} {p:Array Nat} (h:PmN n p) (h0:0<n):∀f m,KG n (fun _=>True) (kas_asc p f m)
 |0,_=>trivial
 |f+ 1,m=>⟨h.lt h0 _,h.lt h0 _,fun b=>by
  cases b with
  |true=>exact trivial
  |false=>exact AK h h0 f (m+ 1)⟩
theorem um {n:Nat} (h0:0<n):∀f p m q,PmN n p->KG n (fun r=>PmN n r.1) (kas_desc f p m q)
 |0,_,_,_,h=>h
 |f+ 1,p,m,q,h=>⟨h.lt h0 _,h.lt h0 _,fun b=>by
  cases b with
  |true=>
   dsimp only
   rw[ja rfl]
   by_cases hq:q>0
   ·rw[ja hq];exact um h0 f _ _ _ (h.rev _ _)
   ·rw[iT hq];exact um h0 f _ _ _ h
  |false=>
   dsimp only
   rw[iT eP]
   refine⟨h.lt h0 _,h.lt h0 _,fun d=>?_⟩
   cases d with
   |true=>exact h
   |false=>exact um h0 f _ _ _ h⟩
theorem AL {n:Nat} (h0:0<n) {m r:Nat} {p:Array Nat} (h:PmN n p):KG n (fun r=>PmN n r.2) (kas_tail3 m r p):=
 KG.bind _ (AK (h.rev _ _) h0 _ _) fun _ _=>h.rev _ _
theorem AM {n:Nat} (h0:0<n) {m r:Nat} {p:Array Nat} (h:PmN n p):KG n (fun r=>PmN n r.2) (kas_descPart m r p):=by
 refine KG.bind _ (um h0 _ _ _ _ h) fun a ha=>?_
 by_cases hq:a.2.2>0
 ·rw[ja hq];exact AL h0 (ha.rev _ _)
 ·rw[iT hq];exact AL h0 ha
theorem CB {n:Nat} (h0:0<n) {r:Nat} {p:Array Nat} (h:PmN n p):KG n (fun r=>PmN n r.2) (kas_count r p):=by
 refine KG.bind _ (AK h h0 _ _) fun a _=>?_
 by_cases h1:(a==r)=true
 ·rw[ja h1];exact h
 ·rw[iT h1]
  by_cases h2:a>1
  ·rw[ja h2]
   refine⟨h.lt h0 _,h.lt h0 _,fun b=>?_⟩
   cases b with
   |true=>exact h
   |false=>exact AM h0 (h.rev _ _)
  ·rw[iT h2];exact AM h0 h
theorem uq {n:Nat} {p:Array Nat} (h:PmN n p) (h0:0<n) (k:Nat):∀f l r,KG n (fun _=>True) (kas_place p k f l r)
 |0,_,_=>trivial
 |f+ 1,l,r=>by
  rw[kas_place]
  by_cases hl:l≥r
  ·rw[ja hl];exact trivial
  ·rw[iT hl]
   refine⟨h.lt h0 _,h.lt h0 _,fun b=>?_⟩
   cases b with
   |true=>exact uq h h0 k f _ _
   |false=>exact uq h h0 k f _ _
theorem DW {n:Nat} (h0:0<n):∀f p k,PmN n p->KG n (PmN n) (kas_bin f p k)
 |0,_,_,h=>h
 |f+ 1,p,k,h=>KG.bind _ (uq h h0 k k 0 k) fun l _=>DW h0 f _ _ ((bubble_perm p k (k-l)).trans h)
theorem E3 {n:Nat} (h0:0<n):KG n (PmN n) (kas_sort n):=by
 refine KG.bind _ (CB h0 (Array.Perm.refl _)) fun r hr=>?_
 by_cases h:r.1<n
 ·rw[ja h];exact DW h0 _ _ _ hr
 ·rw[iT h];exact hr
theorem GU {n:Nat} {p:Array Nat} (h:PmN n p) {vs:List fQ} (hv:vs.length=n):(p.toList.map fun i=>vs.getD i Value.none).Perm vs:=by
 have h1:=(eY.mp h).map fun i=>vs.getD i Value.none
 have e:(aa n).map (fun i=>vs.getD i Value.none)=vs:=by
  apply List.ext_getElem?
  intro i
  rw[aO]
  by_cases hi:i<n
  ·rw[bL hi]
   have h':i<vs.length:=by lia
   simp[bj h']
  ·rw[bF (by simp;lia),bF (by lia)]
   rfl
 rw[show(bK (aa n)).toList=aa n from rfl,e]at h1
 exact h1
section
variable {prog:f9} {w:gm} {A:gf} {E:fQ->fR->Prop} {s:fR}
def pL (prog:f9) (w:gm) (A:gf) (vs:List fQ) (s:fR):Prop:=
 ∃κ,(∀(Q:SortKind->fR->Prop) (E:fQ->fR->Prop),Q κ s->f6 (f7 prog w) A (keyKind' vs.toArray) Q E s)/\∀i j C,i<vs.length->j<vs.length->(∀b,C b s)->kas_ask prog w A κ vs i j C s
theorem vL {a:fO} {vs:List fQ} {n:Nat} {P:PySem.Fin->fR->Prop} (ho:s.heap.get? a=some (seqObj "list" vs.toArray n)) (h2:2<=vs.length) (h64:vs.length<64)
  (hk:∀h',(∀b o,b≠a->s.heap.get? b=some o->h'.get? b=some o)->pL prog w A vs {s with heap:=h'})
  (hq:∀out:List fQ,out.Perm vs->P (.done (.ret .none)) {s with heap:=sortedHeap s.heap a vs (bK out)}):f6 (f7 prog w) A (Builtin.«list.sort» ⟨[.ref a],[]⟩) P E s:=by
 have lt:a<s.heap.objs.size:=fC ho
 obtain⟨e1,g1⟩:∃e1,(s.heap.update a (Obj.mapSeq fun _=>(#[]:Array fQ))).get? a=some (seqObj "list" #[] e1):=⟨_,get?_update_seq ho fun _=>#[]⟩
 have old:∀b o,b≠a->s.heap.get? b=some o->(((s.heap.update a (Obj.mapSeq fun _=>(#[]:Array fQ))).push (seqObj "tuple" vs.toArray 0)).push (seqObj "list" #[] 0)).get? b=some o:=fun b o nb e=>
  fF _ (fF _ ((Heap.get?_update_ne _ _ _ _ nb).trans e))
 have g2:(((s.heap.update a (Obj.mapSeq fun _=>(#[]:Array fQ))).push (seqObj "tuple" vs.toArray 0)).push (seqObj "list" #[] 0)).get? a=some (seqObj "list" #[] e1):=fF _ (fF _ g1)
 obtain⟨κ,k1,k2⟩:=hk _ old
 rw[list_sort_plain]
 refine fV (listItems_at ho rfl (fV (listUpdate_at ho rfl ?_ (by rw[aA,fZ];lia) (cC _))))
 refine fV (seqEpoch_at g1 rfl (fV (wpAny_newTuple ?_ (by show vs.length<=_;rw[fZ];lia))))
 refine fV (wpAny_newList (gD ?_) (cC _))
 dsimp only
 have n2:¬vs.toArray.size<2:=by rw[aA];lia
 rw[iT n2,iT n2]
 refine fV (k1 _ _ ?_)
 refine fV (fX (kat_run (vs:=vs) (ks:=vs) (κ:=κ) (G:=fun p s'=>PmN vs.length p/\s'=_) (Q:=fun st' s'=>∃p:Array Nat,PmN vs.length p/\arrOf st'=p.map (kas_item (vs.toArray.zip vs.toArray))/\failedOf st'=none/\s'=_) rfl h2 h64 (fun p st' s' _ b1 b2 b3=>⟨p,b3.1,b1,b2,b3.2⟩)
  (KG.wp k2 (fun p hp=>⟨hp,rfl⟩) _ (E3 (by lia)))) ?_ fun _ _ e=>e)
 rintro⟨⟨⟩,st'⟩ s' ⟨p,hp,har,hf,rfl⟩
 dsimp only
 rw[kat_snds rfl har]
 have po:=GU hp (vs:=vs) rfl
 have hz:(bK (p.toList.map fun i=>vs.getD i Value.none)).size=vs.length:=by rw[aA];exact po.length_eq
 refine fV (seqEpoch_at g2 rfl (fV (listUpdate_at g2 rfl ?_ (cC _) (by rw[hz,fZ];lia))))
 rw[hf]
 simp only[bne_self_eq_false,eV,if_false]
 exact fW (hq _ po)
theorem vM {a:fO} {vs:List fQ} {n:Nat} {P:PySem.Fin->fR->Prop} (ho:s.heap.get? a=some (seqObj "list" vs.toArray n)) (h2:vs.length<2)
  (hq:P (.done (.ret .none)) {s with heap:=sortedHeap s.heap a vs (bK vs)}):f6 (f7 prog w) A (Builtin.«list.sort» ⟨[.ref a],[]⟩) P E s:=by
 obtain⟨e1,g1⟩:∃e1,(s.heap.update a (Obj.mapSeq fun _=>(#[]:Array fQ))).get? a=some (seqObj "list" #[] e1):=⟨_,get?_update_seq ho fun _=>#[]⟩
 have g2:(((s.heap.update a (Obj.mapSeq fun _=>(#[]:Array fQ))).push (seqObj "tuple" vs.toArray 0)).push (seqObj "list" #[] 0)).get? a=some (seqObj "list" #[] e1):=fF _ (fF _ g1)
 rw[list_sort_plain]
 refine fV (listItems_at ho rfl (fV (listUpdate_at ho rfl ?_ (by rw[aA,fZ];lia) (cC _))))
 refine fV (seqEpoch_at g1 rfl (fV (wpAny_newTuple ?_ (by show vs.length<=_;rw[fZ];lia))))
 refine fV (wpAny_newList (gD ?_) (cC _))
 dsimp only
 have n2:vs.toArray.size<2:=by rw[aA];lia
 rw[ja n2,ja n2]
 refine fV (fW ?_)
 rw[StateT.run_pure]
 refine fV (fW ?_)
 dsimp only
 have ez:(arrOf (SortSt.mk' general' (vs.toArray.zip vs.toArray) #[] 7 none)).map (·.2)=bK vs:=by
  show(vs.toArray.zip vs.toArray).map (·.2)=_
  apply Array.toList_inj.mp
  simp[List.map_snd_zip]
 refine fV (seqEpoch_at g2 rfl (fV (listUpdate_at g2 rfl ?_ (cC _) (by rw[Array.size_map];show(vs.toArray.zip vs.toArray).size<=_;rw[fZ];simp;lia))))
 simp only[bne_self_eq_false,eV,if_false]
 refine fW ?_
 rw[show(fun _:Array fQ=>(arrOf (SortSt.mk' general' (vs.toArray.zip vs.toArray) #[] 7 none)).map (·.2))=fun _=>bK vs from funext fun _=>ez]
 exact hq
theorem zh {l:fO} {vs:List fQ} {Q:fQ->fR->Prop} (hl:s.heap.IsList l vs.toArray) (h64:vs.length<64)
  (hk:2<=vs.length->∀h',(∀b o,s.heap.get? b=some o->h'.get? b=some o)->pL prog w A.in1.in1 vs {s with heap:=h'})
  (hq:∀out:List fQ,out.Perm vs->Q (.ref (s.heap.objs.size+ 1)) {s with heap:=sortedAll s.heap vs (bK out)}):f6 (f7 prog w) A (call (.builtin "sorted") [.ref l]) Q E s:=by
 refine Calls.call_function_entry kind_sorted plain_sorted entry_sorted (args_sorted1 _) ?_
 unfold Builtin.«sorted»
 refine fV (m:=checkCount "sorted" 1 1 _) (fW (fV (collect_list hl ?_ (by rw[fZ];lia))))
 refine fV (wpAny_newList ?_ (by rw[fZ];lia))
 have z1:((s.heap.push (seqObj "list" #[] 0)).update s.heap.objs.size (Obj.mapSeq (·++vs.toArray))).objs.size=s.heap.objs.size+ 1:=by rw[Heap.size_update,size_push']
 have g1:(((s.heap.push (seqObj "list" #[] 0)).update s.heap.objs.size (Obj.mapSeq (·++vs.toArray))).push (seqObj "list" vs.toArray 0)).get? (s.heap.objs.size+ 1)=some (seqObj "list" vs.toArray 0):=by
  rw[<-z1]
  exact fE _ rfl
 have old:∀b o,s.heap.get? b=some o->(((s.heap.push (seqObj "list" #[] 0)).update s.heap.objs.size (Obj.mapSeq (·++vs.toArray))).push (seqObj "list" vs.toArray 0)).get? b=some o:=fun b o e=>
  fF _ ((Heap.get?_update_ne _ _ _ _ (cx (fC e))).trans (fF _ e))
 show f6 _ _ _ _ _ {s with heap:=((s.heap.push (seqObj "list" #[] 0)).update s.heap.objs.size (Obj.mapSeq (·++vs.toArray))).push (seqObj "list" vs.toArray 0)}
 rw[z1]
 refine fV (gD (gE slot_list_sort ⟨_,g1,rfl⟩ entry_list_sort ?body (args_list_sort _)))
 case body=>
  by_cases h2:2<=vs.length
  ·exact vL g1 h2 h64 (fun h' k=>hk h2 h' fun b o e=>k b o (cx (cG (fC e))) (old b o e)) fun out po=>⟨_,rfl,fW ⟨_,rfl,hq out po⟩⟩
  ·exact vM g1 (by lia) ⟨_,rfl,fW ⟨_,rfl,hq vs (List.Perm.refl _)⟩⟩
def IE (S:Bool) (x:fQ):Prop:=if S=true then ∃z t,x= .str z t else ∃z t,x= .int z t
def zi (h:Heap) (v:fQ):Prop:=∃t o n i k j tk,v= .ref t/\h.get? t=some o/\o.cls= .type "tuple"/\o.data= .seq #[.int i k,.int j tk] n
def GV (ks:List Str) (h:Heap) (i:Nat) (v:fQ):Prop:=∃t o n z tk y,v= .ref t/\h.get? t=some o/\o.cls= .type "tuple"/\o.data= .seq #[.str z tk,y] n/\ks[i]?=some z/\((∃j k,y= .int j k)\/∃a,y= .ref a)
theorem vN {S:Bool} {h:Heap}:∀vs:List fQ,(∀v∈vs,∃t o n x y,v= .ref t/\h.get? t=some o/\o.cls= .type "tuple"/\o.data= .seq #[x,y] n/\IE S x)->∃fs,KatTups h vs fs/\fs.length=vs.length/\∀f∈fs,IE S f
 |[],_=>⟨[],.nil,rfl,fun f hf=>by cases hf⟩
 |v::vs,hv=>by
  obtain⟨fs,h1,h2,h3⟩:=vN vs fun u hu=>hv u (by simp[hu])
  obtain⟨t,o,n,x,y,rfl,e1,e2,e3,kx⟩:=hv v (by simp)
  refine⟨x::fs,.cons e1 e2 e3 rfl h1,by simp[h2],fun f hf=>?_⟩
  rcases aj.mp hf with rfl|hf
  ·exact kx
  ·exact h3 f hf
def tyS (S:Bool):fQ:=if S=true then .type "str" else .type "int"
theorem rD {S:Bool} {vs:List fQ} (h2:2<=vs.length) (hv:∀v∈vs,∃t o n x y,v= .ref t/\s.heap.get? t=some o/\o.cls= .type "tuple"/\o.data= .seq #[x,y] n/\IE S x)
  (hk:∀i j C,i<vs.length->j<vs.length->(∀b,C b s)->kas_ask prog w A (tuples' true) vs i j C s):pL prog w A vs s:=by
 obtain⟨fs,t,lf,kf⟩:=vN vs hv
 have eT:(tyS S !=Value.type "tuple")=true:=by cases S<;>decide
 refine⟨tuples' true,fun Q E q=>?_,hk⟩
 refine kat_kind (T:=tyS S) t (by lia) (fun v hv'=>?_) (by cases S<;>decide) (by rw[eT];exact q)
 have k:=kf v hv'
 cases S with
 |true=>obtain⟨z,t,rfl⟩:=k;exact Looks.of_pure rfl
 |false=>obtain⟨z,t,rfl⟩:=k;exact Looks.of_pure rfl
theorem sG {vs:List fQ} (h2:2<=vs.length) (hv:∀v∈vs,zi s.heap v):pL prog w A vs s:=by
 refine rD (S:=false) h2 (fun v h=>?_) fun i j C hi hj hc=>?_
 ·obtain⟨t,o,n,i,k,j,tk,e,e1,e2,e3⟩:=hv v h
  exact⟨t,o,n,_,_,e,e1,e2,e3,⟨i,k,rfl⟩⟩
 ·unfold kas_ask
  have gi:vs.getD i Value.none=vs[i]:=by simp[hi]
  have gj:vs.getD j Value.none=vs[j]:=by simp[hj]
  rw[gi,gj]
  obtain⟨a1,o1,n1,x1,t1,j1,k1,e1,f1,_,d1⟩:=hv _ (bw hi)
  obtain⟨a2,o2,n2,x2,t2,j2,k2,e2,f2,_,d2⟩:=hv _ (bw hj)
  rw[e1,e2]
  refine kat_lt f1 d1 f2 d2 ?_
  show KatLex prog w A true _ C [(.int x1 t1,.int x2 t2),(.int j1 k1,.int j2 k2)] 0 s
  refine kat_cons (wpAny_eqBool_int (kat_go (fun _=>kat_yes (kat_cons (wpAny_eqBool_int (kat_go (fun _=>kat_yes (kat_nil (hc _))) fun _=>kat_no ?_)))) fun _=>kat_no ?_))
  ·exact kat_one _ _ (lt_int (hc _))
  ·exact oneLt_int (hc _)
theorem wK {a:fO} {C:Bool->fR->Prop} {E:fQ->fR->Prop} (hc:C true s):f6 (f7 prog w) A (eqBool (.ref a) (.ref a)) C E s:=by
 unfold eqBool
 refine gD ?_
 rw[ja (by simp)]
 exact fV (gU (fW hc))
theorem ur {ks:List Str} (nd:ks.Nodup) {vs:List fQ} (h2:2<=vs.length) (hv:∀i (hi:i<vs.length),GV ks s.heap i vs[i]):pL prog w A vs s:=by
 refine rD (S:=true) h2 (fun v h=>?_) fun i j C hi hj hc=>?_
 ·obtain⟨i,hi,rfl⟩:=List.mem_iff_getElem.mp h
  obtain⟨t,o,n,z,tk,y,e,e1,e2,e3,_⟩:=hv i hi
  exact⟨t,o,n,_,_,e,e1,e2,e3,⟨z,tk,rfl⟩⟩
 ·unfold kas_ask
  have gi:vs.getD i Value.none=vs[i]:=by simp[hi]
  have gj:vs.getD j Value.none=vs[j]:=by simp[hj]
  rw[gi,gj]
  obtain⟨a1,o1,n1,z1,t1,y1,e1,f1,_,d1,g1,w1⟩:=hv i hi
  obtain⟨a2,o2,n2,z2,t2,y2,e2,f2,_,d2,g2,_⟩:=hv j hj
  rw[e1,e2]
  refine kat_lt f1 d1 f2 d2 ?_
  show KatLex prog w A true _ C [(.str z1 t1,.str z2 t2),(y1,y2)] 0 s
  refine kat_cons (eqBool_str (kat_go (fun h=>kat_yes (kat_cons ?_)) fun _=>kat_no (oneLt_str (hc _))))
  have ez:z1=z2:=by simpa using h
  subst ez
  have ij:i=j:=by
   obtain⟨l1,m1⟩:=aq.mp g1
   obtain⟨l2,m2⟩:=aq.mp g2
   exact(ar nd).mp (m1.trans m2.symm)
  subst ij
  rw[e1]at e2
  cases e2
  rw[f1]at f2
  cases f2
  rw[d1]at d2
  cases d2
  rcases w1 with⟨n,k,rfl⟩|⟨a,rfl⟩
  ·refine wpAny_eqBool_int (kat_go (fun _=>kat_yes (kat_nil (hc _))) fun h=>absurd h (by simp))
  ·exact wK (kat_yes (kat_nil (hc _)))
end
section
variable {X:Cx}
def GW (H:Hp) (v:V):Prop:=∃t i j,v= .ref t/\H t=some (.tup [.int i,.int j])
theorem GX {x y:V} {us:List fQ} (h:jI [x,y] us):∃u w,us=[u,w]/\jx x u/\jx y w:=by
 cases h with
 |cons h1 h=>
  cases h with
  |cons h2 h=>
   cases h
   exact⟨_,_,rfl,h1,h2⟩
theorem CC {pz:List (fO×Obj)} {σ:St} {H:Hp} {s:fR} (I:Inv X pz σ H s) {v:V} {u:fQ} (r:jx v u) (h:GW H v):zi s.heap u:=by
 obtain⟨t,x,j,rfl,e⟩:=h
 cases r
 obtain⟨_,its,rv,o,g,c,n,d,_⟩:=I.hok t _ e
 obtain⟨u1,u2,rfl,r1,r2⟩:=GX rv
 obtain⟨tk,rfl⟩:=r2
 obtain⟨t',rfl⟩:=r1
 exact⟨t,o,n,_,_,j,tk,rfl,g,c,d⟩
theorem zi.keep {h h':Heap} {v:fQ} (p:zi h v) (k:∀b o,h.get? b=some o->h'.get? b=some o):zi h' v:=by
 obtain⟨t,o,n,x,y,j,tk,e,e1,r⟩:=p
 exact⟨t,o,n,x,y,j,tk,e,k _ _ e1,r⟩
theorem vO:∀{xs:List V} {us:List fQ},jI xs us->∀u∈us,∃x∈xs,jx x u
 |_,_,.nil,u,h=>by cases h
 |_,_,.cons h r,u,hu=>by
  rcases aj.mp hu with rfl|hu
  ·exact⟨_,ah,h⟩
  ·obtain⟨x,hx,e⟩:=vO r u hu
   exact⟨x,ai _ hx,e⟩
theorem AN {us us':List fQ} (p:us'.Perm us):∀{xs:List V},jI xs us->∃xs',xs'.Perm xs/\jI xs' us':=by
 induction p with
 |nil=>intro xs h;exact⟨xs,.refl _,h⟩
 |cons x _ ih=>
  intro xs h
  cases h with
  |cons h r=>
   obtain⟨xs',p',r'⟩:=ih r
   exact⟨_,p'.cons _,.cons h r'⟩
 |swap x y l=>
  intro xs h
  cases h with
  |cons h1 r=>
   cases r with
   |cons h2 r=>exact⟨_,.swap _ _ _,.cons h2 (.cons h1 r)⟩
 |trans _ _ ih1 ih2=>
  intro xs h
  obtain⟨x1,p1,r1⟩:=ih2 h
  obtain⟨x2,p2,r2⟩:=ih1 r1
  exact⟨x2,p2.trans p1,r2⟩
theorem vP:m9 X (.builtin "sorted") (fun xs H Q=>∃(a:fO) (ts:List V),xs=[.ref a]/\SqL X.K H a ts/\ts.length<64/\(∀v∈ts,GW H v)/\∀(l:fO) (ts':List V),H l=none->ts'.Perm ts->Q (.ref l) (upd H l (.lst ts'))):=by
 intro pz s σ H xs us Q I r h
 obtain⟨a,ts,rfl,hq,hlen,hp,q⟩:=h
 obtain⟨u,rfl,ru⟩:=nj r
 cases ru
 obtain⟨its,rv,p,hz⟩:=I.list hq
 have l1:=rv.length
 have pv:∀v∈its,zi s.heap v:=fun v hv=>by
  obtain⟨x,hx,e⟩:=vO rv v hv
  exact CC I e (hp x hx)
 refine zh p.isList (by lia) (fun h2 h' k=>sG h2 fun v hv=>(pv v hv).keep k) fun out po=>?_
 obtain⟨e,he⟩:=sortedAll_at s.heap its (bK out)
 obtain⟨ts',p',r'⟩:=AN po rv
 refine⟨.ref (s.heap.objs.size+ 1),_,I.laid (t':=s.toks) (a:=s.heap.objs.size+ 1) (o:= .lst ts') (fun _ _=>sortedAll_old) (cF _) ⟨?_,out,e,r',he⟩,rfl,q _ ts' (I.hok.fresh (cF _)) p'⟩
 rw[p'.length_eq]
 exact hz
end
section
variable {fs ex:List fO} {H H':Hp} {h h':Heap}
theorem Un.more (k:∀b u,h.get? b=some u->h'.get? b=some u) (S:∀b o,H b=some o->H' b=some o) (n:∀b u,h.get? b=some u->H b=none->H' b=none):Un fs ex H H' h h' where
 keep:=fun b u q _ _ _=>k b u q
 slot:=fun b u q _ _ _=>⟨u.slots,k b u q⟩
 free:=fun b u q e _=>n b u q e
 there:=fun b u q _=>⟨u,k b u q⟩
 tups:=fun b xs q=>S _ _ q
 frzs:=fun b u xs q=>S _ _ q
 tbls:=fun b ps q=>⟨#[],by rw[S _ _ q];simp⟩
end
section
variable {X:Cx} {pz:List (fO×Obj)} {σ:St} {H H':Hp} {s:fR} {h':Heap}
theorem Inv.more {t':Nat} (I:Inv X pz σ H s) (k:∀b u,s.heap.get? b=some u->h'.get? b=some u) (S:∀b o,H b=some o->H' b=some o) (n:∀b u,s.heap.get? b=some u->H b=none->H' b=none)
  (new:∀b o,H' b=some o->H b=none->jG X.prog X.w H' h' b o):Inv X pz σ H' {s with heap:=h',toks:=t'}:=
 I.un (Un.more k S n) fun b o e=>by
  cases hb:H b with
  |none=>exact new b o e hb
  |some u=>
   have e2:=S b u hb
   rw[e]at e2
   cases e2
   exact(I.hok b o hb).stay (fun c v _ q=>k c v q) (fun c q=>S _ _ q) fun c xs q=>S _ _ q
end
section
variable {X:Cx}
theorem yc:MtR X "dict.items" (fun x xs H Q=>∃d kvs,x= .ref d/\xs=[]/\H d=some (.dK kvs)/\∀r,H r=none->Q (.ref r) (upd H r (.ext fun h=>h.IsItemsView r d))):=by
 intro pz s σ H x xs v us Q I rx r h
 obtain⟨d,kvs,rfl,rfl,e,q⟩:=h
 cases rx
 cases r
 obtain⟨hz,hs,vs,hv,hD⟩:=I.hok d _ e
 refine call_meetsIn eG hD.typeIs PySem.F.entry_dict_items (PySem.F.args_dict_items_1 _) (meets_dict_items (jF _ _) d hs) ⟨⟨vs,hD⟩,?_⟩
 refine⟨.ref s.heap.objs.size,_,I.laid (t':=s.toks) (a:=s.heap.objs.size) (o:= .ext fun h=>h.IsItemsView s.heap.objs.size d) (fun _ _ g=>fF _ g) (cB _) ⟨⟨_,fE _ rfl,rfl,rfl⟩,⟨_,fE _ rfl⟩,fun h1 h2 z k=>?_⟩,rfl,q _ (I.hok.fresh (cB _))⟩
 obtain⟨o,g,c⟩:=z
 exact⟨o,k _ g,c⟩
def itT (p:Key×V):HO:= .tup [kV p.1,p.2]
def DX (H:Hp) (as:List fO) (kvs:List (Key×V)):Hp:=fun b=>match(as.zip kvs).find? (fun p=>decide (p.1=b))with
 |some p=>some (itT p.2)
 |none=>H b
theorem wL {H:Hp} {as:List fO} {kvs:List (Key×V)} {b:fO} (h:b∉as):DX H as kvs b=H b:=by
 unfold DX
 cases e:(as.zip kvs).find? (fun p=>decide (p.1=b))with
 |none=>rfl
 |some p=>
  have h1:=List.find?_some e
  have h2:=bM e
  have h3:=(aH h2).1
  rw[of_decide_eq_true h1]at h3
  exact absurd h3 h
theorem AO {H:Hp}:∀{as:List fO} {kvs:List (Key×V)} {j:Nat} {a:fO} {p:Key×V},as.Nodup->as[j]?=some a->kvs[j]?=some p->DX H as kvs a=some (itT p)
 |[],_,j,_,_,_,h,_=>by simp at h
 |_::_,[],j,_,_,_,_,h=>by simp at h
 |b::as,q::kvs,0,a,p,_,h1,h2=>by
  cases h1
  cases h2
  unfold DX
  rw[List.zip_cons_cons,List.find?_cons_of_pos (by simp)]
 |b::as,q::kvs,j+ 1,a,p,n,h1,h2=>by
  rw[bq]at h1 h2
  rw[aG]at n
  have ih:=AO (H:=H) n.2 h1 h2
  have ne:b≠a:=fun z=>n.1 (z▸aP h1)
  unfold DX at ih⊢
  rw[List.zip_cons_cons,List.find?_cons_of_neg (by simp[ne])]
  exact ih
theorem E4 {H:Hp} {as:List fO} {kvs:List (Key×V)} {b:fO} {o:HO} (e:DX H as kvs b=some o) (n:H b=none):∃(j:Nat) (p:Key×V),as[j]?=some b/\kvs[j]?=some p/\o=itT p:=by
 unfold DX at e
 cases h:(as.zip kvs).find? (fun p=>decide (p.1=b))with
 |none=>rw[h]at e;rw[n]at e;cases e
 |some p=>
  rw[h]at e
  cases e
  have h0:=List.find?_some h
  have h1:p.1=b:=of_decide_eq_true h0
  obtain⟨j,hj⟩:=bN.mp (bM h)
  rw[bO]at hj
  exact⟨j,p.2,by rw[<-h1];exact hj.1,hj.2,rfl⟩
theorem E5:∀{kvs:List (Key×V)} {vs:List (Key×fQ)} {j:Nat} {p:Key×V},KV kvs vs->kvs[j]?=some p->∃q,vs[j]?=some q/\p.1=q.1/\jx p.2 q.2
 |_,_,0,p,.cons h _,e=>by cases e;exact⟨_,rfl,h⟩
 |_,_,j+ 1,p,.cons _ r,e=>by
  rw[bq]at e
  obtain⟨q,h1,h2⟩:=E5 (show KV _ _ from r) e
  exact⟨q,by rw[bq];exact h1,h2⟩
 |_,_,j,p,.nil,e=>by simp at e
theorem DY:∀{kvs:List (Key×V)} {vs:List (Key×fQ)},KV kvs vs->kvs.length=vs.length
 |_,_,.nil=>rfl
 |_,_,.cons _ r=>congrArg (·+ 1) (DY (show KV _ _ from r))
theorem zj:∀{l:List Nat},l.Pairwise (·<·)->l.Nodup:=fun h=>h.imp fun z=>cx z
theorem vQ:∀as:List fO,jI (as.map V.ref) (as.map Value.ref)
 |[]=> .nil
 |a::as=> .cons rfl (vQ as)
theorem rE {α β:Type} {f:α->β} {us vs:List β} (p:us.Perm vs):∀as:List α,vs=as.map f->∃bs:List α,us=bs.map f/\bs.Perm as:=by
 induction p with
 |nil=>
  intro as e
  exact⟨as,e,.refl _⟩
 |cons x _ ih=>
  intro as e
  cases as with
  |nil=>cases e
  |cons a t=>
   rw[aD,List.cons.injEq]at e
   obtain⟨bs,h1,h2⟩:=ih t e.2
   exact⟨a::bs,by rw[h1,e.1];rfl,h2.cons _⟩
 |swap x y l=>
  intro as e
  cases as with
  |nil=>cases e
  |cons a t=>
   cases t with
   |nil=>cases e
   |cons c t=>
    rw[aD,aD,List.cons.injEq,List.cons.injEq]at e
    exact⟨c::a::t,by rw[e.1,e.2.1,e.2.2];rfl,.swap _ _ _⟩
 |trans _ _ ih1 ih2=>
  intro as e
  obtain⟨bs,h1,h2⟩:=ih2 as e
  obtain⟨cs,h3,h4⟩:=ih1 bs h1
  exact⟨cs,h3,h4.trans h2⟩
theorem qG (hc:X.calm=true):m9 X (.builtin "sorted") (fun xs H Q=>∃(r d:fO) (kvs:List (Key×V)),xs=[.ref r]/\H r=some (.ext fun h=>h.IsItemsView r d)/\H d=some (.dK kvs)/\kvs.length<64/\(∀p∈kvs,(∃z,p.1= .inr z)/\((∃j,p.2= .int j)\/∃a,p.2= .ref a))/\(kvs.map Prod.fst).Nodup/\
  ∀(H':Hp) (l:fO) (bs:List fO) (ps:List (Key×V)),iE H H'->H l=none->H' l=some (.lst (bs.map V.ref))->ps.Perm kvs->bs.length=ps.length->(∀(j:Nat) (b:fO) (p:Key×V),bs[j]?=some b->ps[j]?=some p->H' b=some (itT p))->Q (.ref l) H'):=by
 intro pz s σ H xs us Q I rx h
 obtain⟨r,d,kvs,rfl,er,ed,hlen,hk,hnd,q⟩:=h
 obtain⟨u,rfl,ru⟩:=nj rx
 cases ru
 obtain⟨hv,_⟩:=I.hok r _ er
 obtain⟨hz,hs,vs,kv,o,es,ep,g1,g2,g3,g4⟩:=I.hok d _ ed
 have lv:=DY kv
 have hh:X.A.in1.handled=none:=I.ok.hd hc
 refine Calls.call_function_entry kind_sorted plain_sorted entry_sorted (args_sorted1 _) ?_
 unfold Builtin.«sorted»
 refine fV (m:=checkCount "sorted" 1 1 _) (fW ?_)
 refine fV (kdx_collect (A:=X.A.in1) (knd:=jF X.prog X.w) (kvs:=vs) (ep:=ep) hh hv ⟨o,es,g1,g2,g3,g4⟩ (by rw[<-lv];exact hz) fun h1 tk as kp la G=>?_)
 refine fV (wpAny_newList ?_ (by rw[aE,fZ];lia))
 have g:(h1.push {cls:= .type "list",data:= .seq (as.map Value.ref).toArray}).get? h1.objs.size=some (seqObj "list" (as.map Value.ref).toArray 0):=fE _ rfl
 have pv:∀i (hi:i<(as.map Value.ref).length),GV (kvs.map fun p=>match p.1 with| .inr z=>z| .inl _=>"") h1 i (as.map Value.ref)[i]:=fun j hi=>by
  rw[aE]at hi
  obtain⟨key,k,x,e1,e2,e3⟩:=G.pairs j as[j] (bj hi)
  have hj':j<kvs.length:=by lia
  obtain⟨⟨k',x'⟩,f1,f2,f3⟩:=E5 kv (bj hj')
  rw[e1]at f1
  cases f1
  obtain⟨⟨z,f4⟩,f5⟩:=hk _ (bw hj')
  rcases ju e2 with⟨i,t,z1,z2⟩|⟨y,t,z1,z2⟩
  ·dsimp only at f2
   rw[f4]at f2
   rw[<-f2]at z1
   cases z1
  ·subst z2
   refine⟨as[j],_,0,y,t,_,List.getElem_map _,e3,rfl,rfl,?_,?_⟩
   ·rw[aO,bj hj']
    dsimp only at f2
    rw[cW,f2,z1]
   ·rcases f5 with⟨n,f5⟩|⟨b,f5⟩
    ·rw[f5]at f3
     obtain⟨t',rfl⟩:=f3
     exact .inl ⟨n,t',rfl⟩
    ·rw[f5]at f3
     cases f3
     exact .inr ⟨b,rfl⟩
 have ndk:(kvs.map fun p=>match p.1 with| .inr z=>z| .inl _=>"").Nodup:=by
  rw[List.Nodup,bP]at hnd⊢
  refine List.Pairwise.imp_of_mem (fun{a b} ha hb h e=>h ?_) hnd
  obtain⟨⟨z,h1⟩,_⟩:=hk a ha
  obtain⟨⟨y,h2⟩,_⟩:=hk b hb
  rw[h1,h2]at e
  rw[h1,h2]
  exact congrArg _ e
 have nB:∀b u,s.heap.get? b=some u->b≠h1.objs.size:=fun b u e=>cx (fC (kp b u e))
 have kp2:∀b u,s.heap.get? b=some u->(h1.push {cls:= .type "list",data:= .seq (as.map Value.ref).toArray}).get? b=some u:=fun b u e=>fF _ (kp b u e)
 have HB:H h1.objs.size=none:=by
  cases e:H h1.objs.size with
  |none=>rfl
  |some o=>
   have z:=(I.hok _ _ e).lt
   have:∃u,s.heap.get? h1.objs.size=some u:=(I.hok _ _ e).there
   obtain⟨u,eu⟩:=this
   exact absurd rfl (nB _ u eu)
 have Has:∀a∈as,H a=none:=fun a ha=>I.hok.fresh (cz (G.above a ha))
 have nas:h1.objs.size∉as:=fun z=>by
  have:=G.there z
  exact absurd this (cw _)
 have nd:=zj G.rise
 have fin:∀out:List fQ,out.Perm (as.map Value.ref)->EP X pz σ Q (.ref h1.objs.size) {s with heap:=sortedHeap (h1.push {cls:= .type "list",data:= .seq (as.map Value.ref).toArray}) h1.objs.size (as.map Value.ref) (bK out),toks:=tk}:=fun out po=>by
  obtain⟨bs,rfl,pb⟩:=rE po as rfl
  have lz:as.length=kvs.length:=by lia
  obtain⟨qs,e1,pq⟩:=rE pb (as.zip kvs) (List.map_fst_zip (by lia)).symm
  have pp:(qs.map Prod.snd).Perm kvs:=by
   have:=pq.map Prod.snd
   rwa[List.map_snd_zip (by lia)]at this
  obtain⟨e,he⟩:=sortedHeap_at (out:=bK (bs.map Value.ref)) g
  have oldh:∀b u,b≠h1.objs.size->(h1.push {cls:= .type "list",data:= .seq (as.map Value.ref).toArray}).get? b=some u->(sortedHeap (h1.push {cls:= .type "list",data:= .seq (as.map Value.ref).toArray}) h1.objs.size (as.map Value.ref) (bK (bs.map Value.ref))).get? b=some u:=fun b u nb eb=>by
   rw[sortedHeap_old nb (fC eb)]
   exact eb
  have mem:∀{a:fO},a∈bs->a∈as:=fun{a} h=>pb.mem_iff.mp h
  refine⟨.ref h1.objs.size,upd (DX H as kvs) h1.objs.size (.lst (bs.map V.ref)),?_,rfl,?_⟩
  ·refine I.more (t':=tk) (fun b u eb=>oldh b u (nB b u eb) (kp2 b u eb)) (fun b o eb=>?_) (fun b u eb hb=>?_) fun b o eb hb=>?_
   ·have n1:b∉as:=fun z=>by rw[Has b z]at eb;cases eb
    have n2:b≠h1.objs.size:=fun z=>by rw[z,HB]at eb;cases eb
    rw[hX n2,wL n1]
    exact eb
   ·have n1:b∉as:=fun z=>absurd (fC eb) (Nat.not_lt.mpr (cz (G.above b z)))
    rw[hX (nB b u eb),wL n1]
    exact hb
   ·by_cases z:b=h1.objs.size
    ·rw[z,hG]at eb
     cases eb
     rw[z]
     refine⟨?_,bs.map Value.ref,e,vQ bs,he⟩
     rw[aE,pb.length_eq,fZ]
     lia
    ·rw[hX z]at eb
     obtain⟨j,p,h1',h2',rfl⟩:=E4 eb hb
     obtain⟨key,k,x,f1,f2,f3⟩:=G.pairs j b h1'
     obtain⟨w',y1,y2,y3⟩:=E5 kv h2'
     rw[f1]at y1
     cases y1
     refine⟨(by show 2<=fY;rw[fZ];lia),[key,x],.cons ?_ (.cons y3 .nil),_,oldh b _ z (fF _ f3),rfl,0,rfl,rfl⟩
     dsimp only at y2
     rw[y2]
     rcases ju f2 with⟨i,t,z1,z2⟩|⟨y,t,z1,z2⟩
     ·rw[z1,z2];exact⟨t,rfl⟩
     ·rw[z1,z2];exact⟨t,rfl⟩
  ·refine q _ _ bs (qs.map Prod.snd) (fun b o eb=>?_) HB hG pp (by rw[e1,aE,aE]) fun j b p hb hp=>?_
   ·have n1:b∉as:=fun z=>by rw[Has b z]at eb;cases eb
    have n2:b≠h1.objs.size:=fun z=>by rw[z,HB]at eb;cases eb
    rw[hX n2,wL n1]
    exact eb
   ·have mb:=mem (aP hb)
    rw[hX (show b≠h1.objs.size from fun z=>nas (z▸mb))]
    rw[e1,aO]at hb
    rw[aO]at hp
    cases eq:qs[j]? with
    |none=>rw[eq]at hb;cases hb
    |some w'=>
     rw[eq]at hb hp
     cases hb
     cases hp
     obtain⟨i,hi⟩:=bN.mp (pq.mem_iff.mp (aP eq))
     rw[bO]at hi
     exact AO nd hi.1 hi.2
 refine fV (gD (gE slot_list_sort ⟨_,g,rfl⟩ entry_list_sort ?body (args_list_sort _)))
 case body=>
  by_cases h2:2<=(as.map Value.ref).length
  ·exact vL g h2 (by rw[aE];lia) (fun h' k=>ur ndk h2 fun i hi=>by
    obtain⟨t,o',n,z,tk',y,e0,e1,r'⟩:=pv i hi
    exact⟨t,o',n,z,tk',y,e0,k _ _ (cx (fC e1)) (fF _ e1),r'⟩) fun out po=>⟨_,rfl,fW ⟨_,rfl,fin out po⟩⟩
  ·exact vM g (by lia) ⟨_,rfl,fW ⟨_,rfl,fin _ (List.Perm.refl _)⟩⟩
end
end L2.Internal
namespace L2.Internal
open PySem PySem.Spec PyProof.Rows
mutual
def nlD:Dt->Bool
 | .flat _=>true
 | .tup l=>yd l
 | .lst _=>false
def yd:List Dt->Bool
 |[]=>true
 |x::xs=>nlD x&&yd xs
end
theorem uu:∀{l:List Dt} {j:Nat} {a:Dt},yd l=true->l[j]?=some a->nlD a=true
 |x::xs,0,a,h,e=>by
  cases e
  rw[yd,eR]at h
  exact h.1
 |x::xs,j+ 1,a,h,e=>by
  rw[yd,eR]at h
  exact uu h.2 e
 |[],j,a,_,e=>by simp at e
section
variable {X:Cx} {pz:List (fO×Obj)} {σ:St} {H:Hp} {s:fR}
mutual
theorem AQ (I:Inv X pz σ H s):∀{x:V} {d e:Dt},At X.K H x d->At X.K H x e->nlD d=true->nlD e=true->eqD d e=true
 |_,_,_,.flat h,.flat _,_,_=>by rw[eqD];exact vA h
 |_,_,_,.tup h hs,.tup h' hs',n,n'=>by
  have e:=I.tuple_inj h h'
  subst e
  rw[nlD]at n n'
  rw[eqD]
  exact ye I hs hs' n n'
 |_,_,_,.flat h,.tup _ _,_,_=>absurd h eP
 |_,_,_,.tup _ _,.flat h,_,_=>absurd h eP
 |_,_,_,.lst _ _,_,n,_=>by rw[nlD]at n;cases n
 |_,_,_,_,.lst _ _,_,n=>by rw[nlD]at n;cases n
theorem ye (I:Inv X pz σ H s):∀{xs:List V} {l m:List Dt},Ats X.K H xs l->Ats X.K H xs m->yd l=true->yd m=true->rq l m=true
 |_,_,_,.nil,.nil,_,_=>by rw[rq]
 |_,_,_,.cons h t,.cons h' t',n,n'=>by
  rw[yd,eR]at n n'
  rw[rq,AQ I h h' n.1 n'.1,ye I t t' n.2 n'.2]
  rfl
end
theorem oQ {A:gf} (I:Inv X pz σ H s) {x:V} {u:fQ} {b:fO} {ys:List V} (r:jx x u) (hx:Ag x=true) (h:SqT X.K H b ys) (hu:A.units<gP):SeqAt.EqAt A s u (.ref b) false/\SeqAt.EqAt A s (.ref b) u false:=by
 obtain⟨its,_,pl,_⟩:=I.tuple h
 cases x with
 |non=>cases r;exact⟨.none_tuple pl hu,.tuple_none pl hu⟩
 |bl k=>cases r;exact⟨.bool_tuple _ pl hu,.tuple_bool _ pl hu⟩
 |int i=>obtain⟨t,rfl⟩:=r;exact⟨.int_tuple _ _ pl hu,.tuple_int _ _ pl hu⟩
 |str z=>obtain⟨t,rfl⟩:=r;exact⟨.str_tuple _ _ pl hu,.tuple_str _ _ pl hu⟩
 |_=>cases hx
theorem GY (I:Inv X pz σ H s):∀(n:Nat) (A:gf) {x y:V} {u v:fQ} {d e:Dt},jx x u->jx y v->At X.K H x d->At X.K H y e->nlD d=true->nlD e=true->jQ d<=n->A.units+n<gP->SeqAt.EqAt A s u v (eqD d e):=by
 intro n
 induction n with
 |zero=>
  intro A x y u v d e rx ry hx hy n1 n2 hd hu
  cases hx with
  |flat h=>
   cases hy with
   |flat h'=>rw[eqD];exact xP rx ry h h'
   |tup h' _=>cases ry;simp only[eqD];exact(oQ I rx h h' (by lia)).1
   |lst _ _=>rw[nlD]at n2;cases n2
  |tup _ _=>rw[jQ]at hd;lia
  |lst _ _=>rw[jQ]at hd;lia
 |succ n ih=>
  intro A x y u v d e rx ry hx hy n1 n2 hd hu
  cases hx with
  |flat h=>
   cases hy with
   |flat h'=>rw[eqD];exact xP rx ry h h'
   |tup h' _=>cases ry;simp only[eqD];exact(oQ I rx h h' (by lia)).1
   |lst _ _=>rw[nlD]at n2;cases n2
  |lst _ _=>rw[nlD]at n1;cases n1
  |@tup a xs ds h hs=>
   cases hy with
   |flat h'=>cases rx;simp only[eqD];exact(oQ I ry h' h (by lia)).2
   |lst _ _=>rw[nlD]at n2;cases n2
   |@tup b ys es h' hs'=>
    cases rx
    cases ry
    by_cases hab:a=b
    ·subst hab
     rw[AQ I (.tup h hs) (.tup h' hs') n1 n2]
     exact SeqAt.EqAt.same _
    ·rw[jQ]at hd
     rw[nlD]at n1 n2
     refine SeqAt.EqAt.of_refs hab (Ao I h hs h' hs' (by lia) fun j d1 d2 x y u v f1 f2 q1 q2 p1 p2=>?_).1
     exact ih A.in1 q1 q2 p1 p2 (uu n1 f1) (uu n2 f2) (cy (depDs_get f1) (by lia)) (by show A.units+ 1+n<gP;lia)
end
section
variable {X:Cx}
def GZ (K:PySem.W.Frag):R2:=fun x y H Q=>∃p xs ds d,y= .ref p/\SqL K H p xs/\Ats K H xs ds/\At K H x d/\nlD d=true/\(∀e∈ds,nlD e=true/\jQ e<=100)/\∀b:Bool,Q (.bl b) H
theorem AR {k:Nat} (hr:ou k X.A):OpR X (gv .NotIn) (GZ X.K):=by
 intro pz s σ H x y v u Q I rx ry h
 obtain⟨p,xs,ds,d,rfl,hq,hs,hx,nd,hc,q⟩:=h
 cases ry
 have hu:=hr.un
 obtain⟨its,r,pl,hz⟩:=I.list hq
 have one:∀{j:Nat} {z:V} {w:fQ},xs[j]?=some z->jx z w->∃e,ds[j]?=some e/\SeqAt.EqAt X.A.in1 s w v (eqD e d):=fun{j z w} hz rz=>by
  obtain⟨e,he,ha⟩:=hs.get hz
  have:=hc e (aP he)
  exact⟨e,he,GY I 100 X.A.in1 rz rx ha hx this.1 nd this.2 (by show X.A.units+ 1+ 100<gP;lia)⟩
 let E:fQ->Prop:=fun w=>∃(j:Nat) (z:V) (e:Dt),xs[j]?=some z/\jx z w/\ds[j]?=some e/\eqD e d=true
 haveI:DecidablePred E:=fun _=>Classical.propDecidable _
 refine SeqAt.notIn_listAt (fun w=>decide (E w)) pl.isList (fun w hw=>?_) ⟨.bl _,H,I,rfl,q _⟩
 by_cases hE:E w
 ·obtain⟨j,z,e,h1,h2,h3,h4⟩:=id hE
  obtain⟨e',h5,h6⟩:=one h1 h2
  rw[h3]at h5
  cases h5
  rw[h4]at h6
  show SeqAt.EqAt _ _ _ _ (decide (E w))
  rw[jJ hE]
  exact h6
 ·obtain⟨j,z,h1,h2⟩:=yb r (by simpa using hw)
  obtain⟨e',h5,h6⟩:=one h1 h2
  have hz':eqD e' d=false:=by
   cases h:eqD e' d with
   |false=>rfl
   |true=>exact absurd ⟨j,z,e',h1,h2,h5,h⟩ hE
  rw[hz']at h6
  show SeqAt.EqAt _ _ _ _ (decide (E w))
  rw[jR hE]
  exact h6
end
structure JJ (X:Cx) (N:List Str) (scope:gQ) (cl:List (Str×fO)) (f:St->St) (i:Nat) (x:Str):Prop where
 kind:scope.kind= .function
 cell:∀n acc,cellsFrom n scope.names acc=(x,n)::acc
 push:∀h:Heap,pushCells h scope.names=h.push {cls:= .type "cell",data:= .cell none}
 names:∀y∈scope.names,y.2= .local->scope.names.lookup y.1=some .local
 clos:gX scope X.env=pure cl
 lk:∀y c,cl.lookup y=some c->X.env.cells.lookup y=some c
 has:∀y,((relabel scope X.env).names.lookup y=some .cell\/(relabel scope X.env).names.lookup y=some .free)->y=x\/∃c,cl.lookup y=some c
 nd:N.Nodup
 ix:N[i]?=some x
 loc:(relabel scope X.env).names.lookup x=some .cell
 len:∀σ,σ.length=X.N.length->(f σ).length=N.length
 val:∀(σ:St) (k:Nat) (y:Str) (v:V),N[k]?=some y->(f σ)[k]?=some (some v)->y≠x/\∃j:Nat,X.N[j]?=some y/\σ[j]?=some (some v)/\X.env.scope.names.lookup y=some .cell/\(relabel scope X.env).names.lookup y=some .cell
def E6:R2:=fun x y H Q=>match x,y with
 | .bl a,.bl b=>Q (.bl (a !=b)) H
 |_,_=>False
theorem rF {X:Cx}:OpR X (gv .IsNot) E6:=fun pz s σ H x y v u Q I r1 r2 h=>by
 unfold E6 at h
 split at h
 ·cases r1
  cases r2
  exact isnot_bool ⟨.bl _,H,I,rfl,h⟩
 ·exact h.elim
theorem tK:∀{ys:List Str} {its:List fQ},jI (ys.map V.str) its->∃l:List (Str×Tok),its=strValues l/\l.map (·.1)=ys
 |[],its,h=>by
  cases its with
  |nil=>exact⟨[],rfl,rfl⟩
  |cons a b=>exact absurd h.length (by simp)
 |y::ys,its,h=>by
  cases its with
  |nil=>exact absurd h.length (by simp)
  |cons u its=>
   obtain⟨t,rfl⟩:∃t,u= .str y t:=by
    obtain⟨v,hv,r⟩:=h.get (i:=0) (show((y::ys).map V.str)[0]?=some (.str y)from rfl)
    cases hv
    exact r
   obtain⟨l,e1,e2⟩:=tK (ys:=ys) (its:=its) (by
    cases h with
    |cons _ h=>exact h)
   exact⟨(y,t)::l,by rw[e1];rfl,by rw[aD,e2]⟩
section
variable {X:Cx}
def IF (K:PySem.W.Frag):V->List V->Hp->VK->Prop:=fun x xs H Q=>∃(z:Str) (a:fO) (ys:List Str),x= .str z/\xs=[.ref a]/\SqL K H a (ys.map V.str)/\(ys.map (·.length)).sum+ys.length*z.length<=fY/\Q (.str (Str.join z ys)) H
theorem E7:MtR X "str.join" (IF X.K):=by
 intro pz s σ H x xs v us Q I rx rs h
 obtain⟨z,a,ys,rfl,rfl,hq,hz,q⟩:=h
 obtain⟨t,rfl⟩:=rx
 obtain⟨u,rfl,ru⟩:=nj rs
 cases ru
 obtain⟨its,rv,p,_⟩:=I.list hq
 obtain⟨l,e1,e2⟩:=tK rv
 have hl:=p.isList
 rw[e1]at hl
 refine SC.join hl e2 ?_ fun t' k=>?_
 ·unfold JoinOk
  rw[StrLaws.joinTotal]
  have:¬(ys.map (·.length)).sum+ys.length*z.length>fY:=by lia
  show(!Builtin.Str.tooLong _)=true
  unfold Builtin.Str.tooLong
  rw[jR this]
  rfl
 ·have e:Txt.join z ys=Str.join z ys:=StrLaws.glued_eq_join z ys
  rw[e]
  exact⟨.str _,H,I.tok k,⟨_,rfl⟩,q⟩
end
section
variable {X:Cx}
end
end L2.Internal
namespace HT.Internal
open PySem PySem.Spec PyProof.Rows L2.Internal
section
variable {prog:f9} {w:gm} {A:gf} {E:fQ->fR->Prop} {s:fR}
theorem getItem_tuple_whole {t sl:fO} {items:Array fQ} {vl vu:fQ} {lo hi:Option Int} {Q:fQ->fR->Prop} (ht:IsTup s.heap t items) (hs:s.heap.IsSliceOf sl vl vu .none) (pl:IsPart vl lo) (pu:IsPart vu hi)
  (hw:sIx items.size 0 lo=0/\sIx items.size items.size hi=items.size) (h:Q (.ref t) s):f6 (f7 prog w) A (getItem (.ref t) (.ref sl)) Q E s:=by
 obtain⟨os,hos,hcs,hds⟩:=id hs
 have hTs:s.TypeIs (.ref sl) "slice":=⟨os,hos,hcs⟩
 unfold getItem
 try with_reducible refine gD ?_
 first|refine fV (fW ?_)|skip
 refine fV (wpAny_sequenceKey ht.typeIs (by decide) ?_)
 refine fV (wpAny_callSpecial?_slot (name:=Str.ofString "__getitem__") ht.typeIs fK
  (gE fK ht.typeIs entry_tuple_getitem ?_ (args_tuple_getitem _ _)))
 show f6 _ _ (Builtin.Tuple.tupleItemsOf (.ref t) >>= _) _ _ s
 refine fV (tupleItemsOf_ ht ?_)
 refine fV (gW hTs ?_)
 rw[ja (by decide)]
 refine fV (mW hs pl pu ?_)
 show f6 _ _ (if(((sIx items.size 0 lo:Nat):Int)==0&&(1:Int)==1&&(sIx items.size items.size hi-sIx items.size 0 lo)==items.size)=true then _ else _) _ _ s
 rw[hw.1,hw.2,ja (by simp)]
 refine fV ?_
 unfold Builtin.Tuple.tupleIsExact
 refine fV (gW ht.typeIs (fW ?_))
 rw[ja (by decide)]
 exact fV (gU (fW ⟨_,rfl,fW h⟩))
end
end HT.Internal
namespace L2.Internal
open PySem PySem.Spec PyProof.Rows
section
variable {X:Cx}
def IG (K:PySem.W.Frag):V->Option Int->Option Int->Hp->VK->Prop:=fun x lo hi H Q=>∃a xs,x= .ref a/\SqT K H a xs/\(qM xs lo hi=xs->Q (.ref a) H)/\∀p,H p=none->Q (.ref p) (upd H p (.tup (qM xs lo hi)))
theorem uw:SlR X (IG X.K):=by
 intro pz s σ H x v vl vu lo hi sl Q I rx hs pl pu h
 obtain⟨a,xs,rfl,hx,q1,q2⟩:=h
 by_cases hw:HT.Internal.sIx xs.length 0 lo=0/\HT.Internal.sIx xs.length xs.length hi=xs.length
 ·cases rx
  obtain⟨its,r,ht,hz⟩:=I.tuple hx
  have hlen:its.toArray.size=xs.length:=by rw[aA];exact r.length.symm
  refine⟨"tuple",_,fK.lookup,ht.typeIs,?_⟩
  refine HT.Internal.getItem_tuple_whole ht hs pl pu (by rw[hlen];exact hw) ⟨.ref a,_,I,rfl,q1 ?_⟩
  unfold qM
  rw[hw.1,hw.2,List.drop_zero,Nat.sub_zero,bJ]
 ·exact GH pz s σ H _ v vl vu lo hi sl Q I rx hs pl pu ⟨a,xs,rfl,hx,hw,q2⟩
end
theorem AS {X:Cx} {elt iter:gS} {x y:Str} {j:Nat} {py spos:Pos} {es:List gS} {kk:Nat} {tp:Pos} {scope:gQ} {pos:Pos} {N:List Str} {cl:List (Str×fO)} {f:St->St} {i:Nat} {wi:TI} {g:TG} {te:TE}
  (hc:X.calm=true) (B:qe X N scope cl f i x) (hi:PI X (.Tuple es kk tp) iter wi)
  (hg:∀C s₀ H₀ ex pz,PG (blk X N scope cl C s₀ H₀ ex pz) (.Tuple es kk tp) g) (hte:∀C s₀ H₀ ex pz,PE (blk X N scope cl C s₀ H₀ ex pz) elt te)
  (hN:X.N.Nodup) (hj:X.N[j]?=some y) (hy:Loc X.env.scope y) (hsw:autoParam (swapsWith (.ListComp elt [⟨.Tuple es kk tp,iter,[],0⟩] scope pos) (some (.Name y py)) spos.line X.env=pure true) L2.Internal.auR._auto_1) (hs:autoParam (∀x,gG iter X.env x=pure x) L2.Internal.auI._auto_1)
  (hf:autoParam (X.fn y=true\/X.env.scope.names.lookup y=some .local) L2.Internal.auL._auto_1):PS X (.Assign [.Name y py] (.ListComp elt [⟨.Tuple es kk tp,iter,[],0⟩] scope pos) spos) (Gp (tLG wi f g te) (iO j)):=by
 intro pz s σ H En I h
 rw[exec_Assign_Name_used _ _ _ _ hsw]
 refine fV (wpAny_standAt (fV ?_))
 show f6 _ X.A (do let _<-comprehension (.ListComp elt [⟨.Tuple es kk tp,iter,[],0⟩] scope pos) scope X.env _ (newList []) false (eval iter X.env) (some (assign (.Name y py) X.env))) _ _ s
 refine fV (fX (xT (Qp:=fun _ s'=>SP X pz En .next s') hc B hi hg hte hs I h fun fl s3 s6 H3 H5 d m6 I3 I7 fr hn6 qn=>?_) (fun _ s' hq=>fW (fW hq)) fun _ _ e=>e)
 obtain⟨oC,es,ep,hoC,hdC,hkC⟩:=id hn6
 have hCL:s3.heap.objs.size≠X.env.locals:=cA I3.lt
 have I8:Inv X (pz++[(s3.heap.objs.size,oC)]) σ H5 s6:=I7.pins_of fun p hp=>(ak.mp hp).elim (fun z=>I7.pin p (az _ z)) fun z=>by
  have ez:p=(s3.heap.objs.size,oC):=by simpa using z
  subst ez
  exact⟨hoC,fr,hCL,I3.nofs (cB _),fun v q=>by rw[hdC]at q;cases q⟩
 show f6 _ X.A (assign (.Name y py) X.env (.ref d)) _ _ s6
 refine wpAny_assign_Name (ot (X:=X) I8 hN hj hy (v:= .ref d) rfl (fun s7 I9=>?_) hf)
 have pC:=I9.pin (s3.heap.objs.size,oC) (az _ (az _ (by simp)))
 refine⟨m6,⟨oC,es,ep,pC.1,hdC,hkC⟩,fun h' sb=>?_⟩
 refine⟨σ.set j (some (.ref d)),H5,?_,qn⟩
 exact Inv.turned (h':=h') (t':=s7.toks) (it:=s3.heap.objs.size) I9.unpinned (fun b o hb e=>(sb.2 b hb).trans e) pC.2.1 hCL (.inr I3.sz) (fun z c e q=>by
  obtain⟨v,q2⟩:=I3.cell z c e
  exact absurd (q▸q2.lt) (cw _)) fun p hp q=>absurd (q▸fC (I3.pin p hp).1) (cw _)
end L2.Internal
set_option maxHeartbeats 1000000
namespace KK.Internal
open PySem L2.Internal BO.Internal
mutual
inductive Kd where
 |any
 |num
 |fn (a b:Kd)
 |rcd (l:Kds)
 |ch (l:Kds)
 |row (a:Kd)
inductive Kds where
 |nil
 |cons (w:Str) (k:Kd) (t:Kds)
end
def sD (s:Str):Dt:= .flat (.str s)
mutual
def Kd.d:Kd->Dt
 | .any=> .tup [sD "any"]
 | .num=> .tup [sD "num"]
 | .fn a b=> .tup [sD "fn",a.d,b.d]
 | .rcd l=> .tup [sD "rec",.tup l.ds]
 | .ch l=> .tup [sD "choice",.tup l.ds]
 | .row a=> .tup [sD "row",a.d]
def Kds.ds:Kds->List Dt
 | .nil=>[]
 | .cons w k t=> .tup [sD w,k.d]::t.ds
end
mutual
def Kd.sz:Kd->Nat
 | .any=>1
 | .num=>1
 | .fn a b=>a.sz+b.sz+ 1
 | .rcd l=>l.sz+ 1
 | .ch l=>l.sz+ 1
 | .row a=>a.sz+ 1
def Kds.sz:Kds->Nat
 | .nil=>0
 | .cons _ k t=>k.sz+t.sz
end
def Kds.toL:Kds->List (Str×Kd)
 | .nil=>[]
 | .cons w k t=>(w,k)::t.toL
mutual
def Kd.ok:Kd->Prop
 | .any=>True
 | .num=>True
 | .fn a b=>a.ok/\b.ok
 | .rcd l=>l.ok/\(l.toL.map Prod.fst).Nodup/\l.toL.length<=10/\∀p∈l.toL,p.1.length<=300
 | .ch l=>l.ok/\(l.toL.map Prod.fst).Nodup/\l.toL.length<=10/\∀p∈l.toL,p.1.length<=300
 | .row a=>a.ok
def Kds.ok:Kds->Prop
 | .nil=>True
 | .cons _ k t=>k.ok/\t.ok
end
def ofL:List (Str×Kd)->Kds
 |[]=> .nil
 |p::t=> .cons p.1 p.2 (ofL t)
theorem jV:∀l,(ofL l).toL=l
 |[]=>rfl
 |p::t=>by rw[ofL,Kds.toL,jV t]
def fD (p:Str×Kd):Dt:= .tup [sD p.1,p.2.d]
theorem tL:∀l:Kds,l.ds=l.toL.map fD
 | .nil=>by rw[Kds.ds,Kds.toL];rfl
 | .cons w k t=>by rw[Kds.ds,Kds.toL,aD,tL t];rfl
def szL:List (Str×Kd)->Nat
 |[]=>0
 |p::t=>p.2.sz+szL t
theorem mC:∀l:Kds,l.sz=szL l.toL
 | .nil=>by rw[Kds.sz,Kds.toL,szL]
 | .cons w k t=>by rw[Kds.sz,Kds.toL,szL,mC t]
theorem lM:∀l:Kds,l.ok↔∀p∈l.toL,p.2.ok
 | .nil=>by simp[Kds.ok,Kds.toL]
 | .cons w k t=>by simp[Kds.ok,Kds.toL,lM t]
theorem uz:∀{l:List (Str×Kd)} {p:Str×Kd},p∈l->p.2.sz<=szL l
 |q::t,p,h=>by
  rw[szL]
  rcases aj.mp h with rfl|h
  ·lia
  ·have:=uz h;lia
 |[],_,h=>by cases h
theorem iR:∀a:Kd,0<a.sz:=fun a=>by cases a<;>simp only[Kd.sz]<;>lia
mutual
theorem AU:∀a:Kd,jQ a.d<=3*a.sz
 | .any=>by simp[Kd.d,Kd.sz,jQ,jA,sD]
 | .num=>by simp[Kd.d,Kd.sz,jQ,jA,sD]
 | .fn a b=>by
  have h1:=AU a
  have h2:=AU b
  simp only[Kd.d,Kd.sz,jQ,jA,sD]
  lia
 | .rcd l=>by
  have h1:=AV l
  simp only[Kd.d,Kd.sz,jQ,jA,sD]
  lia
 | .ch l=>by
  have h1:=AV l
  simp only[Kd.d,Kd.sz,jQ,jA,sD]
  lia
 | .row a=>by
  have h1:=AU a
  simp only[Kd.d,Kd.sz,jQ,jA,sD]
  lia
theorem AV:∀l:Kds,jA l.ds<=3*l.sz+ 1
 | .nil=>by simp[Kds.ds,jA]
 | .cons w k t=>by
  have h1:=AU k
  have h2:=AV t
  simp only[Kds.ds,Kds.sz,jQ,jA,sD]
  lia
end
def Kd.tag:Kd->Str
 | .any=>"any"
 | .num=>"num"
 | .fn _ _=>"fn"
 | .rcd _=>"rec"
 | .ch _=>"choice"
 | .row _=>"row"
def Kd.rest:Kd->List Dt
 | .any=>[]
 | .num=>[]
 | .fn a b=>[a.d,b.d]
 | .rcd l=>[.tup l.ds]
 | .ch l=>[.tup l.ds]
 | .row a=>[a.d]
theorem HR (a:Kd):a.d= .tup (sD a.tag::a.rest):=by cases a<;>rw[Kd.d]<;>rfl
def nD:Kd->Bool
 | .any=>true
 |_=>false
def sy:Kd->Bool
 | .ch .nil=>true
 |_=>false
def noD:Dt:= .tup [sD "choice",.tup []]
theorem G0 (a:Kd):∃l,a.d= .tup l:=⟨_,HR a⟩
theorem G1 (a:Kd):qa a.d noD=true:=by
 cases a with
 |fn a b=>
  obtain⟨l,e⟩:=G0 a
  simp[Kd.d,noD,qa,rA,sD,e]
 |row a=>
  obtain⟨l,e⟩:=G0 a
  simp[Kd.d,noD,qa,rA,sD,e]
 |_=>simp[Kd.d,noD,qa,rA,sD]
theorem IH (a:Kd):eqD a.d noD=sy a:=by
 have ns:∀{x y:Str},x≠y->eqV (V.str x) (V.str y)=false:=fun{x y} h=>by simp[eqV,h]
 cases a with
 |any=>simp[Kd.d,noD,eqD,rq,sD,sy]
 |num=>simp[Kd.d,noD,eqD,rq,sD,sy]
 |fn a b=>simp[Kd.d,noD,eqD,rq,sD,sy,ns (show("fn":Str)≠"choice" by decide+kernel)]
 |rcd l=>simp[Kd.d,noD,eqD,rq,sD,sy,ns (show("rec":Str)≠"choice" by decide+kernel)]
 |row a=>simp[Kd.d,noD,eqD,rq,sD,sy,ns (show("row":Str)≠"choice" by decide+kernel)]
 |ch l=>
  cases l with
  |nil=>simp[Kd.d,Kds.ds,noD,eqD,rq,sD,sy,eqV]
  |cons w k t=>simp[Kd.d,Kds.ds,noD,eqD,rq,sD,sy]
def lkK:List (Str×Kd)->Str->Option Kd
 |[],_=>none
 |p::t,x=>if p.1=x then some p.2 else lkK t x
theorem qj:∀{l:List (Str×Kd)} {x:Str} {k:Kd},lkK l x=some k->(x,k)∈l
 |p::t,x,k,h=>by
  rw[lkK]at h
  by_cases e:p.1=x
  ·rw[ja e]at h
   cases h
   subst e
   exact ah
  ·rw[iT e]at h
   exact ai _ (qj h)
 |[],_,_,h=>by cases h
theorem rG:∀{l:List (Str×Kd)} {p:Str×Kd},(l.map Prod.fst).Nodup->p∈l->lkK l p.1=some p.2
 |q::t,p,hn,h=>by
  rw[aD,aG]at hn
  rw[lkK]
  rcases aj.mp h with rfl|h
  ·rw[ja rfl]
  ·rw[iT (fun e=>hn.1 (by rw[e];exact bQ h))]
   exact rG hn.2 h
 |[],_,_,h=>by cases h
def fz (l:List (Str×Kd)) (x:Str):Nat:=match lkK l x with
 |some k=>k.sz
 |none=>0
theorem E8 (p:Str×Kd) (t:List (Str×Kd)) (x:Str):fz (p::t) x=if p.1=x then p.2.sz else fz t x:=by
 unfold fz
 rw[lkK]
 by_cases e:p.1=x
 ·rw[ja e,ja e]
 ·rw[iT e,iT e]
def wM:List Nat->Nat
 |[]=>0
 |n::t=>n+wM t
theorem vR:∀(l:List (Str×Kd)) (W:List Str),W.Nodup->wM (W.map (fz l))<=szL l
 |[],W,_=>by
  have:∀W:List Str,wM (W.map (fz []))=0:=fun W=>by
   induction W with
   |nil=>rfl
   |cons w W ih=>rw[aD,wM,ih];rfl
  rw[this]
  exact cC _
 |p::t,W,hn=>by
  have ih:=vR t
  have key:∀W:List Str,W.Nodup->wM (W.map (fz (p::t)))<=p.2.sz+wM (W.map (fz t))/\(p.1∉W->wM (W.map (fz (p::t)))=wM (W.map (fz t))):=fun W=>by
   induction W with
   |nil=>intro _;exact⟨by simp[wM],fun _=>rfl⟩
   |cons w W ih2=>
    intro hn
    rw[aG]at hn
    obtain⟨h1,h2⟩:=ih2 hn.2
    rw[aD,aD,wM,wM,E8]
    by_cases e:p.1=w
    ·rw[ja e]
     refine⟨?_,fun h=>absurd (by rw[e];exact ah) h⟩
     have:=h2 (by rw[e];exact hn.1)
     lia
    ·rw[iT e]
     refine⟨by lia,fun h=>?_⟩
     have:=h2 (fun hm=>h (ai _ hm))
     lia
  have:=(key W hn).1
  have:=ih W hn
  rw[szL]
  lia
def pbw (l m:List (Str×Kd)):List (Str×Kd)->Option (List (Kd×Kd))
 |[]=>some []
 |p::t=>match lkK l p.1,lkK m p.1 with
  |some a,some b=>(pbw l m t).map ((a,b)::·)
  |_,_=>none
def szp:List (Kd×Kd)->Nat
 |[]=>0
 |p::t=>p.1.sz+p.2.sz+szp t
theorem uA:∀l m,szp (l++m)=szp l+szp m
 |[],m=>by rw[bR,szp];lia
 |p::t,m=>by rw[aU,szp,szp,uA t m];lia
theorem wN:∀l,szp l.reverse=szp l
 |[]=>rfl
 |p::t=>by rw[List.reverse_cons,uA,wN t,szp,szp,szp];lia
theorem oR:∀l,l.length<=szp l
 |[]=>cB _
 |p::t=>by
  have:=oR t
  have:=iR p.1
  rw[aB,szp]
  lia
theorem AW {l m:List (Str×Kd)}:∀{W:List (Str×Kd)} {r:List (Kd×Kd)},pbw l m W=some r->szp r=wM ((W.map Prod.fst).map (fz l))+wM ((W.map Prod.fst).map (fz m))
 |[],r,h=>by cases h;rfl
 |p::t,r,h=>by
  rw[pbw]at h
  cases e1:lkK l p.1 with
  |none=>rw[e1]at h;cases h
  |some a=>
   cases e2:lkK m p.1 with
   |none=>rw[e1,e2]at h;cases h
   |some b=>
    rw[e1,e2]at h
    cases e3:pbw l m t with
    |none=>rw[e3]at h;cases h
    |some r'=>
     rw[e3]at h
     cases h
     have ih:=AW e3
     have z1:fz l p.1=a.sz:=by unfold fz;rw[e1]
     have z2:fz m p.1=b.sz:=by unfold fz;rw[e2]
     show szp ((a,b)::r')=_
     rw[szp,ih,aD,aD,aD,wM,wM,z1,z2]
     dsimp only
     lia
theorem AX {l m:List (Str×Kd)}:∀{W:List (Str×Kd)} {r:List (Kd×Kd)},pbw l m W=some r->∀p∈r,(∃w,(w,p.1)∈l)/\∃w,(w,p.2)∈m
 |[],r,h=>by cases h;intro p hp;cases hp
 |q::t,r,h=>by
  rw[pbw]at h
  cases e1:lkK l q.1 with
  |none=>rw[e1]at h;cases h
  |some a=>
   cases e2:lkK m q.1 with
   |none=>rw[e1,e2]at h;cases h
   |some b=>
    rw[e1,e2]at h
    cases e3:pbw l m t with
    |none=>rw[e3]at h;cases h
    |some r'=>
     rw[e3]at h
     cases h
     intro p hp
     rcases aj.mp hp with rfl|hp
     ·exact⟨⟨_,qj e1⟩,⟨_,qj e2⟩⟩
     ·exact AX e3 p hp
def pw2:Kd->Kd->Option (List (Kd×Kd))
 | .num,.num=>some []
 | .fn a b,.fn c d=>some [(c,a),(b,d)]
 | .rcd l,.rcd m=>pbw l.toL m.toL m.toL
 | .ch l,.ch m=>pbw l.toL m.toL l.toL
 | .row a,.row b=>some [(a,b)]
 |_,_=>none
def pw (a b:Kd):Option (List (Kd×Kd)):=if(nD b||sy a)=true then some []else pw2 a b
def G (a:Kd):Prop:=a.ok/\a.sz<=40
theorem E9 {a b:Kd} {l:List (Kd×Kd)} (h:pw a b=some l) (ha:a.ok) (hb:b.ok):szp l<a.sz+b.sz:=by
 have p1:=iR a
 have p2:=iR b
 unfold pw at h
 split at h
 ·cases h
  simp only[szp]
  lia
 ·unfold pw2 at h
  split at h
  ·cases h;simp only[szp];lia
  ·cases h;simp only[szp,Kd.sz];lia
  ·have h1:=AW h
   rw[Kd.ok]at ha hb
   rename_i l m _
   have h2:=vR l.toL _ hb.2.1
   have h3:=vR m.toL _ hb.2.1
   simp only[Kd.sz,mC]
   lia
  ·have h1:=AW h
   rw[Kd.ok]at ha hb
   rename_i l m _
   have h2:=vR l.toL _ ha.2.1
   have h3:=vR m.toL _ ha.2.1
   simp only[Kd.sz,mC]
   lia
  ·cases h;simp only[szp,Kd.sz];lia
  ·cases h
theorem AY {a b:Kd} {l:List (Kd×Kd)} (h:pw a b=some l) (ga:G a) (gb:G b):∀p∈l,G p.1/\G p.2:=by
 obtain⟨oa,sa⟩:=ga
 obtain⟨ob,sb⟩:=gb
 unfold pw at h
 split at h
 ·cases h;intro p hp;cases hp
 ·unfold pw2 at h
  have fl:∀{l m:Kds} {W r:List _},l.ok->m.ok->l.sz<=40->m.sz<=40->pbw l.toL m.toL W=some r->∀p∈r,G p.1/\G p.2:=fun{l m W r} h1 h2 h3 h4 h p hp=>by
   obtain⟨⟨w1,m1⟩,⟨w2,m2⟩⟩:=AX h p hp
   rw[mC]at h3 h4
   exact⟨⟨(lM l).mp h1 _ m1,cy (uz m1) h3⟩,⟨(lM m).mp h2 _ m2,cy (uz m2) h4⟩⟩
  split at h
  ·cases h;intro p hp;cases hp
  ·cases h
   rw[Kd.ok]at oa ob
   simp only[Kd.sz]at sa sb
   intro p hp
   simp only[aj,bo,or_false]at hp
   rcases hp with rfl|rfl
   ·exact⟨⟨ob.1,by dsimp only;lia⟩,⟨oa.1,by dsimp only;lia⟩⟩
   ·exact⟨⟨oa.2,by dsimp only;lia⟩,⟨ob.2,by dsimp only;lia⟩⟩
  ·rw[Kd.ok]at oa ob
   simp only[Kd.sz]at sa sb
   exact fl oa.1 ob.1 (by lia) (by lia) h
  ·rw[Kd.ok]at oa ob
   simp only[Kd.sz]at sa sb
   exact fl oa.1 ob.1 (by lia) (by lia) h
  ·cases h
   rw[Kd.ok]at oa ob
   simp only[Kd.sz]at sa sb
   intro p hp
   simp only[aj,bo,or_false]at hp
   subst hp
   exact⟨⟨oa,by dsimp only;lia⟩,⟨ob,by dsimp only;lia⟩⟩
  ·cases h
def CD:Nat->List (Kd×Kd)->Bool
 |0,_=>true
 |_+ 1,[]=>true
 |f+ 1,p::st=>match pw p.1 p.2 with
  |none=>false
  |some l=>CD f (l.reverse++st)
def und (a b:Kd):Bool:=CD (a.sz+b.sz) [(a,b)]
def pD (p:Kd×Kd):Dt:= .tup [p.1.d,p.2.d]
theorem DZ {H:Hp} {v:V} {a:Kd} (h:Im H v a.d):∃t xs,v= .ref t/\H t=some (.tup (.str a.tag::xs))/\Ims H xs a.rest:=by
 rw[HR]at h
 cases h with
 |tup e hs=>
  cases hs with
  |cons h1 hs=>
   cases h1
   exact⟨_,_,rfl,e,hs⟩
mutual
theorem CF {K:PySem.W.Frag} {H:Hp}:∀{v:V} {d:Dt},Im H v d->At K H v d
 |v,_,.flat h=> .flat (by cases v<;>first|rfl|cases h)
 |_,_,.tup h hs=> .tup (SqT.of h) (wO hs)
theorem wO {K:PySem.W.Frag} {H:Hp}:∀{v:List V} {d:List Dt},Ims H v d->Ats K H v d
 |_,_,.nil=> .nil
 |_,_,.cons h t=> .cons (CF h) (wO t)
end
def lkP:List (Str×V)->Str->Option V
 |[],_=>none
 |p::t,x=>if p.1=x then some p.2 else lkP t x
theorem yf:∀{l:List (Str×V)} {x:Str},x∉l.map Prod.fst->lkP l x=none
 |[],_,_=>rfl
 |p::t,x,h=>by
  rw[aD,aj,not_or]at h
  rw[lkP,iT (fun e=>h.1 e.symm),yf h.2]
theorem rH:∀(l:List (Str×V)) (acc:List (Key×V)) (w:Str),(l.map Prod.fst).Nodup->ky (jU acc (l.map kf)) (Sum.inr w)=match lkP l w with
  |some v=>some v
  |none=>ky acc (Sum.inr w)
 |[],_,_,_=>rfl
 |p::t,acc,w,h=>by
  obtain⟨h1,h2⟩:=aG.mp (show(p.1::t.map Prod.fst).Nodup from h)
  show ky (jU (lF acc (Sum.inr p.1) p.2) (t.map kf)) (Sum.inr w)=_
  rw[rH t _ w h2,pG,lkP]
  by_cases e:p.1=w
  ·rw[ja e,yf (by rw[<-e];exact h1)]
   rw[ja (by rw[e])]
  ·rw[iT e]
   rw[iT (fun z=>e (by injection z with z;exact z.symm))]
theorem fld {H:Hp} {v:V} {p:Str×Kd} (h:Im H v (fD p)):∃t x,v= .ref t/\H t=some (.tup [.str p.1,x])/\Im H x p.2.d:=by
 unfold fD at h
 cases h with
 |tup e hs=>
  cases hs with
  |cons h1 hs=>
   cases h1
   cases hs with
   |cons h2 hs=>
    cases hs
    exact⟨_,_,rfl,e,h2⟩
theorem II {H:Hp}:∀{ys:List V} {l:List (Str×Kd)},Ims H ys (l.map fD)->∃ps:List (Str×V),Prs H ys ps/\ps.map Prod.fst=l.map Prod.fst/\∀w,match lkK l w with
  |some k=>∃v,lkP ps w=some v/\Im H v k.d
  |none=>lkP ps w=none
 |_,[],.nil=>⟨[],.nil,rfl,fun w=>by rw[lkK];rfl⟩
 |_,p::t,.cons h hs=>by
  obtain⟨a,x,rfl,e,hx⟩:=fld h
  obtain⟨ps,h1,h2,h3⟩:=II hs
  refine⟨(p.1,x)::ps,.cons e h1,by rw[aD,aD,h2],fun w=>?_⟩
  rw[lkK,lkP]
  by_cases ew:p.1=w
  ·rw[ja ew,ja ew]
   exact⟨x,rfl,hx⟩
  ·rw[iT ew,iT ew]
   exact h3 w
def DKd (H:Hp) (d:fO) (l:List (Str×Kd)):Prop:=∃kvs,H d=some (.dK kvs)/\∀w,match lkK l w with
  |some k=>∃v,ky kvs (Sum.inr w)=some v/\Im H v k.d
  |none=>ky kvs (Sum.inr w)=none
theorem DKd.same {H H':Hp} {d:fO} {l:List (Str×Kd)} (h:DKd H d l) (S:iE H H'):DKd H' d l:=by
 obtain⟨kvs,e,f⟩:=h
 refine⟨kvs,S _ _ e,fun w=>?_⟩
 have:=f w
 cases ek:lkK l w with
 |none=>rw[ek]at this;exact this
 |some k=>
  rw[ek]at this
  obtain⟨v,h1,h2⟩:=this
  exact⟨v,h1,h2.mono (iE.tk S)⟩
theorem DKd.new {H:Hp} {d:fO} {l:List (Str×Kd)} {ps:List (Str×V)} (hd:H d=none) (hn:(l.map Prod.fst).Nodup) (h2:ps.map Prod.fst=l.map Prod.fst) (h3:∀w,match lkK l w with
  |some k=>∃v,lkP ps w=some v/\Im H v k.d
  |none=>lkP ps w=none):DKd (upd H d (.dK (jU [] (ps.map kf)))) d l:=by
 refine⟨_,hG,fun w=>?_⟩
 have:=h3 w
 have hm:=rH ps [] w (by rw[h2];exact hn)
 cases ek:lkK l w with
 |none=>
  rw[ek]at this
  rw[this]at hm
  exact hm
 |some k=>
  rw[ek]at this
  obtain⟨v,h4,h5⟩:=this
  rw[h4]at hm
  exact⟨v,hm,h5.mono (iE.tk (gZ hd _))⟩
theorem DKd.some {H:Hp} {d:fO} {l:List (Str×Kd)} {w:Str} {k:Kd} (h:DKd H d l) (e:lkK l w=some k):∃v,qL H d (.str w) (some v)/\Im H v k.d:=by
 obtain⟨kvs,e1,f⟩:=h
 have:=f w
 rw[e]at this
 obtain⟨v,h1,h2⟩:=this
 exact⟨v,by rw[<-h1];exact qL.k (k:=(Sum.inr w:Key)) e1,h2⟩
theorem DKd.none {H:Hp} {d:fO} {l:List (Str×Kd)} {w:Str} (h:DKd H d l) (e:lkK l w=none):qL H d (.str w) none:=by
 obtain⟨kvs,e1,f⟩:=h
 have:=f w
 rw[e]at this
 rw[<-this]
 exact qL.k (k:=(Sum.inr w:Key)) e1
theorem wQ (l m:List (Str×Kd)):∀A B,pbw l m (A++B)=(pbw l m A).bind fun r=>(pbw l m B).map (r++·)
 |[],B=>by
  rw[bR,pbw]
  cases pbw l m B<;>rfl
 |p::t,B=>by
  rw[aU,pbw,pbw,wQ l m t B]
  cases lkK l p.1 with
  |none=>rfl
  |some a=>
   cases lkK m p.1 with
   |none=>rfl
   |some b=>
    cases pbw l m t with
    |none=>rfl
    |some r=>cases pbw l m B<;>rfl
theorem yg {l m A:List (Str×Kd)} {p:Str×Kd} {r:List (Kd×Kd)} {a b:Kd} (h:pbw l m A=some r) (h1:lkK l p.1=some a) (h2:lkK m p.1=some b):pbw l m (A++[p])=some (r++[(a,b)]):=by
 rw[wQ,h,pbw,h1,h2,pbw]
 rfl
theorem AZ {l m W:List (Str×Kd)} {i:Nat} {p:Str×Kd} (hp:W[i]?=some p) (h:lkK l p.1=none\/lkK m p.1=none):pbw l m W=none:=by
 have hi:=(aq.mp hp).1
 have e:W=W.take i++(p::W.drop (i+ 1)):=by
  rw[<-(aq.mp hp).2,<-List.drop_eq_getElem_cons hi,bS]
 rw[e,wQ]
 have:pbw l m (p::W.drop (i+ 1))=none:=by
  rw[pbw]
  rcases h with h|h
  ·rw[h]
  ·rw[h]
   cases lkK l p.1<;>rfl
 rw[this]
 cases pbw l m (W.take i)<;>rfl
theorem Ims.atK {H:Hp}:∀{xs:List V} {ds:List Dt} {k:Nat} {v:V},Ims H xs ds->xs[k]?=some v->∃d,ds[k]?=some d/\Im H v d
 |_,_,0,_,.cons h _,e=>by cases e;exact⟨_,rfl,h⟩
 |_,_,k+ 1,_,.cons _ t,e=>Ims.atK (k:=k) t e
theorem yh {H:Hp} {xs:List V} {l:List (Str×Kd)} {k:Nat} {v:V} (h:Ims H xs (l.map fD)) (e:xs[k]?=some v):∃p t x,l[k]?=some p/\v= .ref t/\H t=some (.tup [.str p.1,x])/\Im H x p.2.d:=by
 obtain⟨d,ed,hd⟩:=Ims.atK h e
 rw[aO]at ed
 cases ep:l[k]? with
 |none=>rw[ep]at ed;cases ed
 |some p=>
  rw[ep]at ed
  cases ed
  obtain⟨t,x,h1,h2,h3⟩:=fld hd
  exact⟨p,t,x,rfl,h1,h2,h3⟩
theorem iI {H:Hp} {t:fO} {xs:List V} {ds:List Dt} (h:H t=none) (i:Ims H xs ds):Im (upd H t (.tup xs)) (.ref t) (.tup ds):= .tup hG (i.mono (iE.tk (gZ h _)))
theorem mD {H H2:Hp} {l:fO} (s:iE H H2) (h:H l=none) (o:HO):iE H (upd H2 l o):=fun b u e=>by rw[hX (ie e h)];exact s b u e
theorem rJ:∀l:List (Str×Kd),l.length<=szL l
 |[]=>cB _
 |p::t=>by
  have:=rJ t
  have:=iR p.2
  rw[aB,szL]
  lia
def A1 (K:PySem.W.Frag):List V->Hp->VK->Prop:=fun xs H Q=>∃p ys,xs=[.ref p]/\((SqL K H p ys/\∀l,H l=none->Q (.ref l) (upd H l (.tup ys)))\/(SqT K H p ys/\Q (.ref p) H))
theorem qX {K:PySem.W.Frag} {a:fO} {te:TE} {Q:VK} {H1:Hp} {D:fO} {xs:List V} {l:List (Str×Kd)} {u0 u1:Option V} {rest:St} (e:H1 a=some (.tup xs)) (I:Ims H1 xs (l.map fD)) (hn:xs.length<fY) (hD:H1 D=none)
  (R:List V->Nat->Hp->Prop) (hR:∀zs k H H',R zs k H->TK H H'->R zs k H') (h0:R [] 0 H1)
  (step:∀k H p x zs (Z:VK),iE H1 H->l[k]?=some p->Im H x p.2.d->R zs k H->zs.length=k->(∀y H5,iE H H5->R (zs++[y]) (k+ 1) H5->Z y H5)->te (some (.str p.1)::some x::rest) H Z)
  (hq:∀H' zs,iE H1 H'->R zs l.length H'->zs.length=l.length->H' D=some (.lst zs)->Q (.ref D) H'):LcG (Itt K a) (zM K 2 (mi (iO 0) (mi (iO 1) zL))) te Q (u0::u1::rest) H1 D:=by
 have nd:∀(H5:Hp) (xs ys:List V),H5 D=some (.lst xs)->TK H5 (upd H5 D (.lst ys)):=fun H5 xs ys e b zs q=>by rw[hX (iX q e (fun z=>nomatch z))];exact q
 have lx:=I.length
 rw[aE]at lx
 refine⟨fun k m σ' H2=>m=xs.length-k/\k<=xs.length/\(∃u v,σ'=u::v::rest)/\iE H1 H2/\∃zs,H2 D=some (.lst zs)/\zs.length=k/\R zs k H2,⟨xs.length,by simp,cC _,⟨_,_,rfl⟩,gZ hD _,[],hG,rfl,hR _ _ _ _ h0 (iE.tk (gZ hD _))⟩,?_⟩
 rintro k m σ' H2 ⟨rfl,hk,⟨u,v,rfl⟩,S,zs,ez,lz,hz⟩
 by_cases hlt:k<xs.length
 ·refine .inr ⟨xU e S hlt,?_⟩
  rintro y H3 ⟨rfl,hy⟩
  obtain⟨p,t,x,hp,rfl,et,hx⟩:=yh (I.mono (iE.tk S)) (hy xs (SqT.of (S _ _ e)))
  refine⟨t,_,rfl,SqT.of et,rfl,_,_,rfl,_,_,rfl,rfl,?_⟩
  refine step k _ p x zs _ S hp hx hz lz fun y H5 S5 r5=>?_
  refine⟨zs,S5 D _ ez,by lia,xs.length-(k+ 1),by lia,rfl,hlt,⟨_,_,rfl⟩,mD (S.trans S5) hD _,zs++[y],hG,by rw[aQ,lz];rfl,hR _ _ _ _ r5 (nd H5 _ _ (S5 D _ ez))⟩
 ·have e1:k=xs.length:=by lia
  subst e1
  exact .inl ⟨xV e S,hq H2 zs S (by rw[<-lx];exact hz) (by lia) ez⟩
end KK.Internal
set_option maxHeartbeats 1000000
namespace KK.Internal
open PySem L2.Internal BO.Internal
def iD (n:Int):Dt:= .flat (.int n)
def ptB (D:Bd):Bd:={D with pts:=D.pts++[0]}
def mkB (D:Bd) (s:Str) (f:Dt) (a:Int):Bd:={D with mks:=D.mks++[⟨s,f,a,0⟩]}
def usB (D:Bd) (u:Us):Bd:={D with uss:=D.uss++[u]}
mutual
def low:Kd->Bd->Bd
 | .any,D=>mkB (ptB D) "any" (.tup []) D.pts.length
 | .num,D=>mkB (ptB D) "num" (.tup []) D.pts.length
 | .fn a b,D=>mkB (low b (upp a (ptB D))) "fn" (.tup [iD (ptB D).pts.length,iD (upp a (ptB D)).pts.length]) D.pts.length
 | .rcd l,D=>mkB (tM l (ptB D)).1 "rec" (prD (tM l (ptB D)).2) D.pts.length
 | .ch l,D=>yi l D.pts.length (ptB D)
 | .row a,D=>mkB (low a (ptB D)) "row" (.tup [iD (ptB D).pts.length]) D.pts.length
def upp:Kd->Bd->Bd
 | .any,D=>ptB D
 | .num,D=>usB (ptB D) (.num D.pts.length 0 0)
 | .fn a b,D=>usB (upp b (low a (ptB D))) (.call D.pts.length 0 0 (ptB D).pts.length (low a (ptB D)).pts.length)
 | .rcd l,D=>usB (qN l (ptB D)).1 (.take D.pts.length 0 0 (qN l (ptB D)).2)
 | .ch l,D=>usB (qN l (ptB D)).1 (.case D.pts.length 0 0 (qN l (ptB D)).2)
 | .row a,D=>usB (upp a (ptB D)) (.row D.pts.length 0 0 (ptB D).pts.length)
def tM:Kds->Bd->Bd×List (Str×Int)
 | .nil,D=>(D,[])
 | .cons w k t,D=>((tM t (low k D)).1,(w,(D.pts.length:Int))::(tM t (low k D)).2)
def qN:Kds->Bd->Bd×List (Str×Int)
 | .nil,D=>(D,[])
 | .cons w k t,D=>((qN t (upp k D)).1,(w,(D.pts.length:Int))::(qN t (upp k D)).2)
def yi:Kds->Int->Bd->Bd
 | .nil,_,D=>D
 | .cons w k t,a,D=>yi t a (mkB (low k D) "tag" (.tup [sD w,iD D.pts.length]) a)
end
def tN:List (Str×Kd)->Bd->Bd×List (Str×Int)
 |[],D=>(D,[])
 |p::t,D=>((tN t (low p.2 D)).1,(p.1,(D.pts.length:Int))::(tN t (low p.2 D)).2)
def rK:List (Str×Kd)->Bd->Bd×List (Str×Int)
 |[],D=>(D,[])
 |p::t,D=>((rK t (upp p.2 D)).1,(p.1,(D.pts.length:Int))::(rK t (upp p.2 D)).2)
def wR:List (Str×Kd)->Int->Bd->Bd
 |[],_,D=>D
 |p::t,a,D=>wR t a (mkB (low p.2 D) "tag" (.tup [sD p.1,iD D.pts.length]) a)
theorem D6:∀(l:Kds) (D:Bd),tM l D=tN l.toL D
 | .nil,D=>by rw[tM,Kds.toL,tN]
 | .cons w k t,D=>by rw[tM,Kds.toL,tN,D6 t]
theorem A2:∀(l:Kds) (D:Bd),qN l D=rK l.toL D
 | .nil,D=>by rw[qN,Kds.toL,rK]
 | .cons w k t,D=>by rw[qN,Kds.toL,rK,A2 t]
theorem D7:∀(l:Kds) (a:Int) (D:Bd),yi l a D=wR l.toL a D
 | .nil,a,D=>by rw[yi,Kds.toL,wR]
 | .cons w k t,a,D=>by rw[yi,Kds.toL,wR,D7 t]
theorem rL:∀(l:List (Str×Kd)) (p:Str×Kd) (D:Bd),tN (l++[p]) D=(low p.2 (tN l D).1,(tN l D).2++[(p.1,((tN l D).1.pts.length:Int))])
 |[],p,D=>rfl
 |q::t,p,D=>by rw[aU,tN,rL t p,tN];rfl
theorem rM:∀(l:List (Str×Kd)) (p:Str×Kd) (D:Bd),rK (l++[p]) D=(upp p.2 (rK l D).1,(rK l D).2++[(p.1,((rK l D).1.pts.length:Int))])
 |[],p,D=>rfl
 |q::t,p,D=>by rw[aU,rK,rM t p,rK];rfl
theorem vS:∀(l:List (Str×Kd)) (p:Str×Kd) (a:Int) (D:Bd),wR (l++[p]) a D=mkB (low p.2 (wR l a D)) "tag" (.tup [sD p.1,iD (wR l a D).pts.length]) a
 |[],p,a,D=>rfl
 |q::t,p,a,D=>by rw[aU,wR,vS t p a,wR]
theorem yj:∀(l:List (Str×Kd)) (D:Bd),(tN l D).2.length=l.length
 |[],D=>rfl
 |p::t,D=>by rw[tN,aB,aB,yj t]
theorem uB:∀(l:List (Str×Kd)) (D:Bd),(rK l D).2.length=l.length
 |[],D=>rfl
 |p::t,D=>by rw[rK,aB,aB,uB t]
def Sm (D:Bd) (n:Nat):Prop:=D.pts.length<=n/\D.mks.length<=n/\D.uss.length<=n
theorem Sm.pt {D:Bd} {n:Nat} (h:Sm D n):Sm (ptB D) (n+ 1):=by
 obtain⟨h1,h2,h3⟩:=h
 refine⟨?_,cM h2,cM h3⟩
 show(D.pts++[0]).length<=n+ 1
 rw[aQ]
 exact cJ h1
theorem Sm.mono {D:Bd} {n m:Nat} (h:Sm D n) (hn:n<=m):Sm D m:=⟨cy h.1 hn,cy h.2.1 hn,cy h.2.2 hn⟩
mutual
theorem nE:∀(k:Kd) (D:Bd) (n:Nat),Sm D n->Sm (low k D) (n+(3*k.sz-1))
 | .any,D,n,h=>by
  have h1:=h.pt
  rw[low,Kd.sz]
  exact⟨by show(ptB D).pts.length<=_;have:=h1.1;lia,by show((ptB D).mks++[_]).length<=_;rw[aQ,aY];have:=h.2.1;show D.mks.length+ 1<=_;lia,by show D.uss.length<=_;have:=h.2.2;lia⟩
 | .num,D,n,h=>by
  have h1:=h.pt
  rw[low,Kd.sz]
  exact⟨by show(ptB D).pts.length<=_;have:=h1.1;lia,by show((ptB D).mks++[_]).length<=_;rw[aQ,aY];have:=h.2.1;show D.mks.length+ 1<=_;lia,by show D.uss.length<=_;have:=h.2.2;lia⟩
 | .fn a b,D,n,h=>by
  have h1:=qH a _ _ h.pt
  have h2:=nE b _ _ h1
  have pa:=iR a
  have pb:=iR b
  rw[low,Kd.sz]
  exact⟨by show(low b (upp a (ptB D))).pts.length<=_;have:=h2.1;lia,by show((low b (upp a (ptB D))).mks++[_]).length<=_;rw[aQ,aY];have:=h2.2.1;lia,by show(low b (upp a (ptB D))).uss.length<=_;have:=h2.2.2;lia⟩
 | .rcd l,D,n,h=>by
  have h2:=A3 l _ _ h.pt
  rw[low,Kd.sz]
  exact⟨by show(tM l (ptB D)).1.pts.length<=_;have:=h2.1;lia,by show((tM l (ptB D)).1.mks++[_]).length<=_;rw[aQ,aY];have:=h2.2.1;lia,by show(tM l (ptB D)).1.uss.length<=_;have:=h2.2.2;lia⟩
 | .ch l,D,n,h=>by
  rw[low,Kd.sz]
  exact(A4 l D.pts.length _ _ h.pt).mono (by lia)
 | .row a,D,n,h=>by
  have h2:=nE a _ _ h.pt
  have pa:=iR a
  rw[low,Kd.sz]
  exact⟨by show(low a (ptB D)).pts.length<=_;have:=h2.1;lia,by show((low a (ptB D)).mks++[_]).length<=_;rw[aQ,aY];have:=h2.2.1;lia,by show(low a (ptB D)).uss.length<=_;have:=h2.2.2;lia⟩
theorem qH:∀(k:Kd) (D:Bd) (n:Nat),Sm D n->Sm (upp k D) (n+(3*k.sz-1))
 | .any,D,n,h=>by rw[upp,Kd.sz];exact h.pt.mono (by lia)
 | .num,D,n,h=>by
  have h1:=h.pt
  rw[upp,Kd.sz]
  exact⟨by show(ptB D).pts.length<=_;have:=h1.1;lia,by show D.mks.length<=_;have:=h.2.1;lia,by show(D.uss++[_]).length<=_;rw[aQ,aY];have:=h.2.2;lia⟩
 | .fn a b,D,n,h=>by
  have h1:=nE a _ _ h.pt
  have h2:=qH b _ _ h1
  have pa:=iR a
  have pb:=iR b
  rw[upp,Kd.sz]
  exact⟨by show(upp b (low a (ptB D))).pts.length<=_;have:=h2.1;lia,by show(upp b (low a (ptB D))).mks.length<=_;have:=h2.2.1;lia,by show((upp b (low a (ptB D))).uss++[_]).length<=_;rw[aQ,aY];have:=h2.2.2;lia⟩
 | .rcd l,D,n,h=>by
  have h2:=wU l _ _ h.pt
  rw[upp,Kd.sz]
  exact⟨by show(qN l (ptB D)).1.pts.length<=_;have:=h2.1;lia,by show(qN l (ptB D)).1.mks.length<=_;have:=h2.2.1;lia,by show((qN l (ptB D)).1.uss++[_]).length<=_;rw[aQ,aY];have:=h2.2.2;lia⟩
 | .ch l,D,n,h=>by
  have h2:=wU l _ _ h.pt
  rw[upp,Kd.sz]
  exact⟨by show(qN l (ptB D)).1.pts.length<=_;have:=h2.1;lia,by show(qN l (ptB D)).1.mks.length<=_;have:=h2.2.1;lia,by show((qN l (ptB D)).1.uss++[_]).length<=_;rw[aQ,aY];have:=h2.2.2;lia⟩
 | .row a,D,n,h=>by
  have h2:=qH a _ _ h.pt
  have pa:=iR a
  rw[upp,Kd.sz]
  exact⟨by show(upp a (ptB D)).pts.length<=_;have:=h2.1;lia,by show(upp a (ptB D)).mks.length<=_;have:=h2.2.1;lia,by show((upp a (ptB D)).uss++[_]).length<=_;rw[aQ,aY];have:=h2.2.2;lia⟩
theorem A3:∀(l:Kds) (D:Bd) (n:Nat),Sm D n->Sm (tM l D).1 (n+ 3*l.sz)
 | .nil,D,n,h=>by rw[tM,Kds.sz];exact h.mono (by lia)
 | .cons w k t,D,n,h=>by
  have pk:=iR k
  rw[tM,Kds.sz]
  exact(A3 t _ _ (nE k _ _ h)).mono (by lia)
theorem wU:∀(l:Kds) (D:Bd) (n:Nat),Sm D n->Sm (qN l D).1 (n+ 3*l.sz)
 | .nil,D,n,h=>by rw[qN,Kds.sz];exact h.mono (by lia)
 | .cons w k t,D,n,h=>by
  have pk:=iR k
  rw[qN,Kds.sz]
  exact(wU t _ _ (qH k _ _ h)).mono (by lia)
theorem A4:∀(l:Kds) (a:Int) (D:Bd) (n:Nat),Sm D n->Sm (yi l a D) (n+ 3*l.sz)
 | .nil,a,D,n,h=>by rw[yi,Kds.sz];exact h.mono (by lia)
 | .cons w k t,a,D,n,h=>by
  have h2:=nE k D n h
  have hp:=iR k
  rw[yi,Kds.sz]
  have h3:Sm (mkB (low k D) "tag" (.tup [sD w,iD D.pts.length]) a) (n+ 3*k.sz):=by
   refine⟨by show(low k D).pts.length<=_;have:=h2.1;lia,?_,by show(low k D).uss.length<=_;have:=h2.2.2;lia⟩
   show((low k D).mks++[_]).length<=_
   rw[aQ,aY]
   have:=h2.2.1
   lia
  exact(A4 t a _ _ h3).mono (by lia)
end
theorem wV:∀(l:List (Str×Kd)) (D:Bd) (n:Nat),Sm D n->Sm (tN l D).1 (n+ 3*szL l)
 |[],D,n,h=>by rw[tN,szL];exact h.mono (by lia)
 |p::t,D,n,h=>by
  have pk:=iR p.2
  rw[tN,szL]
  exact(wV t _ _ (nE p.2 _ _ h)).mono (by lia)
theorem uC:∀(l:List (Str×Kd)) (D:Bd) (n:Nat),Sm D n->Sm (rK l D).1 (n+ 3*szL l)
 |[],D,n,h=>by rw[rK,szL];exact h.mono (by lia)
 |p::t,D,n,h=>by
  have pk:=iR p.2
  rw[rK,szL]
  exact(uC t _ _ (qH p.2 _ _ h)).mono (by lia)
theorem A5:∀(l:List (Str×Kd)) (a:Int) (D:Bd) (n:Nat),Sm D n->Sm (wR l a D) (n+ 3*szL l)
 |[],a,D,n,h=>by rw[wR,szL];exact h.mono (by lia)
 |p::t,a,D,n,h=>by
  have h2:=nE p.2 D n h
  have hp:=iR p.2
  rw[wR,szL]
  have h3:Sm (mkB (low p.2 D) "tag" (.tup [sD p.1,iD D.pts.length]) a) (n+ 3*p.2.sz):=by
   refine⟨by show(low p.2 D).pts.length<=_;have:=h2.1;lia,?_,by show(low p.2 D).uss.length<=_;have:=h2.2.2;lia⟩
   show((low p.2 D).mks++[_]).length<=_
   rw[aQ,aY]
   have:=h2.2.1
   lia
  exact(A5 t a _ _ h3).mono (by lia)
theorem yk:∀{l:List (Str×Kd)} {i:Nat} {p:Str×Kd},l[i]?=some p->szL (l.take i)+p.2.sz<=szL l
 |[],i,p,h=>by simp at h
 |q::t,0,p,h=>by cases h;rw[bT,szL,szL];lia
 |q::t,i+ 1,p,h=>by
  have:=yk (l:=t) (i:=i) h
  rw[List.take_succ_cons,szL,szL]
  lia
structure Ad where
 b:fO
 bx:fO
 p0:fO
 p1:fO
 p2:fO
 p3:fO
def Ad.ls (A:Ad):List fO:=[A.p0,A.p1,A.p2,A.p3]
structure Bq (c:Cs) (H:Hp) (A:Ad) (r:V) (D:Bd):Prop where
 b:H A.b=some (.ins c.B A.bx (fB A.p0 A.p1 A.p2 A.p3 r))
 e0:H A.p0=some (.lst (D.pts.map V.int))
 e1:∃mv,H A.p1=some (.lst mv)/\All2 (qF c H) mv D.mks
 e2:∃uv,H A.p2=some (.lst uv)/\All2 (UsAt c H) uv D.uss
 e3:H A.p3=some (.lst [])
 nd:A.ls.Nodup
structure Dq (H:Hp) (A:Ad) (D:Bd):Prop where
 b:H A.b=some (.lst [.ref A.p0,.ref A.p1,.ref A.p2,.ref A.p3])
 nb:A.b∉A.ls
 e0:H A.p0=some (.lst (D.pts.map V.int))
 e1:∃mv,H A.p1=some (.lst mv)/\Ims H mv (D.mks.map Mkg.d)
 e2:∃uv,H A.p2=some (.lst uv)/\Ims H uv (D.uss.map Us.d)
 e3:H A.p3=some (.lst [])
 nd:A.ls.Nodup
def FB (A:Ad) (H H':Hp):Prop:=(∀a o,H a=some o->a∉A.ls->H' a=some o)/\FK H H'
theorem FB.same {A:Ad} {H H':Hp} (s:iE H H'):FB A H H':=⟨fun a o e _=>s a o e,iE.fk s⟩
theorem FB.trans {A:Ad} {H H1 H2:Hp} (a:FB A H H1) (b:FB A H1 H2):FB A H H2:=⟨fun c o e n=>b.1 c o (a.1 c o e n) n,a.2.trans b.2⟩
theorem FB.upd {A:Ad} {H:Hp} {a:fO} {xs ys:List V} (h:a∈A.ls) (e:H a=some (.lst xs)):FB A H (upd H a (.lst ys)):=⟨fun b o q n=>by rw[hX (fun z=>n (by rw[z];exact h))];exact q,jP e⟩
theorem Ad.ne {A:Ad} (h:A.ls.Nodup):A.p0≠A.p1/\A.p0≠A.p2/\A.p0≠A.p3/\A.p1≠A.p2/\A.p1≠A.p3/\A.p2≠A.p3:=by
 simp only[Ad.ls,aG,aj,bo,or_false,not_or]at h
 exact⟨h.1.1,h.1.2.1,h.1.2.2,h.2.1.1,h.2.1.2,h.2.2.1⟩
section
variable {c:Cs} {H H':Hp} {A:Ad} {r:V} {D:Bd}
theorem Bq.us (B:Bq c H A r D) {uv:List V} {x:V} {u:Us} (e:H A.p2=some (.lst uv)) (hx:UsAt c H x u):Bq c (upd H A.p2 (.lst (uv++[x]))) A r {D with uss:=D.uss++[u]}:=by
 obtain⟨b,e0,⟨mv,m1,m2⟩,⟨uv',u1,u2⟩,e3,nd⟩:=B
 rw[e]at u1
 cases u1
 have k:=jP (o:= .lst (uv++[x])) e
 obtain⟨_,n2,_,n4,_,n6⟩:=Ad.ne nd
 exact⟨by rw[hX (iX b e (fun h=>nomatch h))];exact b,by rw[hX n2];exact e0,⟨mv,by rw[hX n4];exact m1,m2.imp fun _ _=>qF.mono k⟩,⟨_,hG,.snoc (hx.mono k) (u2.imp fun _ _=>UsAt.mono k)⟩,by rw[hX (Ne.symm n6)];exact e3,nd⟩
theorem Bq.root (B:Bq c H A r D) (v:V):Bq c (upd H A.b (.ins c.B A.bx (fB A.p0 A.p1 A.p2 A.p3 v))) A v D:=by
 obtain⟨b,e0,⟨mv,m1,m2⟩,⟨uv,u1,u2⟩,e3,nd⟩:=B
 have k:=xW (o:= .ins c.B A.bx (fB A.p0 A.p1 A.p2 A.p3 v)) b
 have ne:∀{a:fO} {xs:List V},H a=some (.lst xs)->a≠A.b:=fun e=>iX e b (fun h=>nomatch h)
 exact⟨hG,by rw[hX (ne e0)];exact e0,⟨mv,by rw[hX (ne m1)];exact m1,m2.imp fun _ _=>qF.mono k⟩,⟨uv,by rw[hX (ne u1)];exact u1,u2.imp fun _ _=>UsAt.mono k⟩,by rw[hX (ne e3)];exact e3,nd⟩
theorem Dq.nbs (B:Dq H A D):A.b≠A.p0/\A.b≠A.p1/\A.b≠A.p2:=by
 have n:=B.nb
 simp only[Ad.ls,aj,bo,or_false,not_or]at n
 exact⟨n.1,n.2.1,n.2.2.1⟩
theorem Dq.us (B:Dq H A D) {uv:List V} {x:V} {u:Us} (e:H A.p2=some (.lst uv)) (hx:Im H x u.d):Dq (upd H A.p2 (.lst (uv++[x]))) A {D with uss:=D.uss++[u]}:=by
 obtain⟨_,_,nb2⟩:=B.nbs
 obtain⟨b,nb,e0,⟨mv,m1,m2⟩,⟨uv',u1,u2⟩,e3,nd⟩:=B
 rw[e]at u1
 cases u1
 have k:=(jP (o:= .lst (uv++[x])) e).tk
 obtain⟨_,n2,_,n4,_,n6⟩:=Ad.ne nd
 exact⟨by rw[hX nb2];exact b,nb,by rw[hX n2];exact e0,⟨mv,by rw[hX n4];exact m1,m2.mono k⟩,⟨_,hG,by rw[bB];exact(u2.mono k).app (.cons (hx.mono k) .nil)⟩,by rw[hX (Ne.symm n6)];exact e3,nd⟩
end
theorem A6 {K:PySem.W.Frag} {a:fO} {te:TE} {Q:VK} {H1:Hp} {D:fO} {xs:List V} {l:List (Str×Kd)} {rest:St} (e:H1 a=some (.tup xs)) (I:Ims H1 xs (l.map fD)) (hn:xs.length<fY)
  (R:Nat->List V->Hp->Prop) (hT:∀k zs H,R k zs H->TK H1 H) (hR:∀k zs H ys ys',R k zs H->H D=some (.lst ys)->R k zs (upd H D (.lst ys'))) (h0:R 0 [] (upd H1 D (.lst [])))
  (step:∀k H p t x zs (Z:VK),R k zs H->H D=some (.lst zs)->l[k]?=some p->H t=some (.tup [.str p.1,x])->Im H x p.2.d->(∀y H5,H5 D=some (.lst zs)->R (k+ 1) (zs++[y]) H5->Z y H5)->te (some (.ref t)::rest) H Z)
  (hq:∀H' zs,R l.length zs H'->zs.length=l.length->H' D=some (.lst zs)->Q (.ref D) H'):LcP (Itt K a) 0 rp te Q (none::rest) H1 D:=by
 have lx:=I.length
 rw[aE]at lx
 refine⟨fun k m σ' H2=>m=xs.length-k/\k<=xs.length/\(∃u,σ'=u::rest)/\∃zs,H2 D=some (.lst zs)/\zs.length=k/\R k zs H2,⟨xs.length,by simp,cC _,⟨_,rfl⟩,[],hG,rfl,h0⟩,?_⟩
 rintro k m σ' H2 ⟨rfl,hk,⟨u,rfl⟩,zs,ez,lz,hz⟩
 have ea:=hT _ _ _ hz _ _ e
 by_cases hlt:k<xs.length
 ·refine .inr ⟨⟨xs,xs[k],SqT.of ea,bj hlt⟩,?_⟩
  rintro y H3 ⟨rfl,hy⟩
  obtain⟨p,t,x,hp,rfl,et,hx⟩:=yh (I.mono (hT _ _ _ hz)) (hy xs (SqT.of ea))
  show te (some (.ref t)::rest) _ _
  refine step k _ p t x zs _ hz ez hp et hx fun y H5 e5 r5=>?_
  exact⟨zs,e5,by lia,xs.length-(k+ 1),by lia,rfl,hlt,⟨_,rfl⟩,zs++[y],hG,by rw[aQ,lz];rfl,hR _ _ _ _ _ r5 e5⟩
 ·have e1:k=xs.length:=by lia
  subst e1
  exact .inl ⟨⟨xs,SqT.of ea,cB _⟩,hq H2 zs (by rw[<-lx];exact hz) (by lia) ez⟩
end KK.Internal
set_option maxHeartbeats 1000000
namespace KK.Internal
open PySem L2.Internal BO.Internal
structure Bw (c:Cs) (H:Hp) (A:Ad) (r:V) (D:Bd):Prop where
 b:H A.b=some (.ins c.B A.bx (fB A.p0 A.p1 A.p2 A.p3 r))
 e0:H A.p0=some (.lst (D.pts.map V.int))
 e1:∃mv,H A.p1=some (.lst mv)/\All2 (qF c H) mv D.mks
 e2:∃uv,H A.p2=some (.lst uv)/\All2 (UsAt c H) uv D.uss
 e3:∃fv,H A.p3=some (.lst fv)/\Ims H fv (D.fls.map flD)
 nd:A.ls.Nodup
structure Dw (H:Hp) (A:Ad) (D:Bd):Prop where
 b:H A.b=some (.lst [.ref A.p0,.ref A.p1,.ref A.p2,.ref A.p3])
 nb:A.b∉A.ls
 e0:H A.p0=some (.lst (D.pts.map V.int))
 e1:∃mv,H A.p1=some (.lst mv)/\Ims H mv (D.mks.map Mkg.d)
 e2:∃uv,H A.p2=some (.lst uv)/\Ims H uv (D.uss.map Us.d)
 e3:∃fv,H A.p3=some (.lst fv)/\Ims H fv (D.fls.map flD)
 nd:A.ls.Nodup
section
variable {c:Cs} {H H':Hp} {A:Ad} {r:V} {D:Bd}
theorem Bw.same (B:Bw c H A r D) (s:iE H H'):Bw c H' A r D:=by
 obtain⟨b,e0,⟨mv,m1,m2⟩,⟨uv,u1,u2⟩,⟨fv,g1,g2⟩,nd⟩:=B
 exact⟨s _ _ b,s _ _ e0,⟨mv,s _ _ m1,m2.imp fun _ _=>qF.mono (iE.fk s)⟩,⟨uv,s _ _ u1,u2.imp fun _ _=>UsAt.mono (iE.fk s)⟩,⟨fv,s _ _ g1,g2.mono (iE.tk s)⟩,nd⟩
theorem Bw.other (B:Bw c H A r D) {a:fO} {xs ys:List V} (e:H a=some (.lst xs)) (n:a∉A.ls):Bw c (upd H a (.lst ys)) A r D:=by
 obtain⟨b,e0,⟨mv,m1,m2⟩,⟨uv,u1,u2⟩,⟨fv,g1,g2⟩,nd⟩:=B
 have k:=jP (o:= .lst ys) e
 simp only[Ad.ls,aj,bo,or_false,not_or]at n
 exact⟨by rw[hX (iX b e (fun h=>nomatch h))];exact b,by rw[hX (Ne.symm n.1)];exact e0,⟨mv,by rw[hX (Ne.symm n.2.1)];exact m1,m2.imp fun _ _=>qF.mono k⟩,⟨uv,by rw[hX (Ne.symm n.2.2.1)];exact u1,u2.imp fun _ _=>UsAt.mono k⟩,⟨fv,by rw[hX (Ne.symm n.2.2.2)];exact g1,g2.mono k.tk⟩,nd⟩
theorem Bw.pt (B:Bw c H A r D) (v:Int):Bw c (upd H A.p0 (.lst (D.pts.map V.int++[.int v]))) A r {D with pts:=D.pts++[v]}:=by
 obtain⟨b,e0,⟨mv,m1,m2⟩,⟨uv,u1,u2⟩,⟨fv,g1,g2⟩,nd⟩:=B
 have k:=jP (o:= .lst (D.pts.map V.int++[.int v])) e0
 obtain⟨n1,n2,n3,_⟩:=Ad.ne nd
 exact⟨by rw[hX (iX b e0 (fun h=>nomatch h))];exact b,by rw[hG,bB];rfl,⟨mv,by rw[hX (Ne.symm n1)];exact m1,m2.imp fun _ _=>qF.mono k⟩,⟨uv,by rw[hX (Ne.symm n2)];exact u1,u2.imp fun _ _=>UsAt.mono k⟩,⟨fv,by rw[hX (Ne.symm n3)];exact g1,g2.mono k.tk⟩,nd⟩
theorem Bw.addM (B:Bw c H A r D) {mv:List V} {x:V} {m:Mkg} (e:H A.p1=some (.lst mv)) (hx:qF c H x m):Bw c (upd H A.p1 (.lst (mv++[x]))) A r {D with mks:=D.mks++[m]}:=by
 obtain⟨b,e0,⟨mv',m1,m2⟩,⟨uv,u1,u2⟩,⟨fv,g1,g2⟩,nd⟩:=B
 rw[e]at m1
 cases m1
 have k:=jP (o:= .lst (mv++[x])) e
 obtain⟨n1,_,_,n4,n5,_⟩:=Ad.ne nd
 exact⟨by rw[hX (iX b e (fun h=>nomatch h))];exact b,by rw[hX n1];exact e0,⟨_,hG,.snoc (hx.mono k) (m2.imp fun _ _=>qF.mono k)⟩,⟨uv,by rw[hX (Ne.symm n4)];exact u1,u2.imp fun _ _=>UsAt.mono k⟩,⟨fv,by rw[hX (Ne.symm n5)];exact g1,g2.mono k.tk⟩,nd⟩
theorem Bw.us (B:Bw c H A r D) {uv:List V} {x:V} {u:Us} (e:H A.p2=some (.lst uv)) (hx:UsAt c H x u):Bw c (upd H A.p2 (.lst (uv++[x]))) A r {D with uss:=D.uss++[u]}:=by
 obtain⟨b,e0,⟨mv,m1,m2⟩,⟨uv',u1,u2⟩,⟨fv,g1,g2⟩,nd⟩:=B
 rw[e]at u1
 cases u1
 have k:=jP (o:= .lst (uv++[x])) e
 obtain⟨_,n2,_,n4,_,n6⟩:=Ad.ne nd
 exact⟨by rw[hX (iX b e (fun h=>nomatch h))];exact b,by rw[hX n2];exact e0,⟨mv,by rw[hX n4];exact m1,m2.imp fun _ _=>qF.mono k⟩,⟨_,hG,.snoc (hx.mono k) (u2.imp fun _ _=>UsAt.mono k)⟩,⟨fv,by rw[hX (Ne.symm n6)];exact g1,g2.mono k.tk⟩,nd⟩
theorem Bw.root (B:Bw c H A r D) (v:V):Bw c (upd H A.b (.ins c.B A.bx (fB A.p0 A.p1 A.p2 A.p3 v))) A v D:=by
 obtain⟨b,e0,⟨mv,m1,m2⟩,⟨uv,u1,u2⟩,⟨fv,g1,g2⟩,nd⟩:=B
 have k:=xW (o:= .ins c.B A.bx (fB A.p0 A.p1 A.p2 A.p3 v)) b
 have ne:∀{a:fO} {xs:List V},H a=some (.lst xs)->a≠A.b:=fun e=>iX e b (fun h=>nomatch h)
 exact⟨hG,by rw[hX (ne e0)];exact e0,⟨mv,by rw[hX (ne m1)];exact m1,m2.imp fun _ _=>qF.mono k⟩,⟨uv,by rw[hX (ne u1)];exact u1,u2.imp fun _ _=>UsAt.mono k⟩,⟨fv,by rw[hX (ne g1)];exact g1,g2.mono k.tk⟩,nd⟩
theorem Dw.nbs (B:Dw H A D):A.b≠A.p0/\A.b≠A.p1/\A.b≠A.p2:=by
 have n:=B.nb
 simp only[Ad.ls,aj,bo,or_false,not_or]at n
 exact⟨n.1,n.2.1,n.2.2.1⟩
theorem Dw.us (B:Dw H A D) {uv:List V} {x:V} {u:Us} (e:H A.p2=some (.lst uv)) (hx:Im H x u.d):Dw (upd H A.p2 (.lst (uv++[x]))) A {D with uss:=D.uss++[u]}:=by
 obtain⟨_,_,nb2⟩:=B.nbs
 obtain⟨b,nb,e0,⟨mv,m1,m2⟩,⟨uv',u1,u2⟩,⟨fv,g1,g2⟩,nd⟩:=B
 rw[e]at u1
 cases u1
 have k:=(jP (o:= .lst (uv++[x])) e).tk
 obtain⟨_,n2,_,n4,_,n6⟩:=Ad.ne nd
 exact⟨by rw[hX nb2];exact b,nb,by rw[hX n2];exact e0,⟨mv,by rw[hX n4];exact m1,m2.mono k⟩,⟨_,hG,by rw[bB];exact(u2.mono k).app (.cons (hx.mono k) .nil)⟩,⟨fv,by rw[hX (Ne.symm n6)];exact g1,g2.mono k⟩,nd⟩
end
theorem Bw.fl {c:Cs} {H:Hp} {A:Ad} {r:V} {D:Bd} (B:Bw c H A r D) {fv:List V} {x:V} {p:Int×Int} (e:H A.p3=some (.lst fv)) (hx:Im H x (flD p)):Bw c (upd H A.p3 (.lst (fv++[x]))) A r {D with fls:=D.fls++[p]}:=by
 obtain⟨b,e0,⟨mv,m1,m2⟩,⟨uv,u1,u2⟩,⟨fv',g1,g2⟩,nd⟩:=B
 rw[e]at g1
 cases g1
 have k:=jP (o:= .lst (fv++[x])) e
 obtain⟨_,_,n3,_,n5,n6⟩:=Ad.ne nd
 exact⟨by rw[hX (iX b e (fun h=>nomatch h))];exact b,by rw[hX n3];exact e0,⟨mv,by rw[hX n5];exact m1,m2.imp fun _ _=>qF.mono k⟩,⟨uv,by rw[hX n6];exact u1,u2.imp fun _ _=>UsAt.mono k⟩,⟨_,hG,by rw[bB];exact(g2.mono k.tk).app (.cons (hx.mono k.tk) .nil)⟩,nd⟩
theorem Bw.out {c:Cs} {H:Hp} {A:Ad} {r:V} {D:Bd} (B:Bw c H A r D) {a:fO} (h:H a=none):a∉A.ls:=fun m=>by
 obtain⟨b,e0,⟨mv,m1,m2⟩,⟨uv,u1,u2⟩,⟨fv,e3,_⟩,nd⟩:=B
 simp only[Ad.ls,aj,bo,or_false]at m
 rcases m with rfl|rfl|rfl|rfl
 ·rw[h]at e0;cases e0
 ·rw[h]at m1;cases m1
 ·rw[h]at u1;cases u1
 ·rw[h]at e3;cases e3
theorem Dw.out {H:Hp} {A:Ad} {D:Bd} (B:Dw H A D) {a:fO} (h:H a=none):a∉A.ls:=fun m=>by
 obtain⟨b,nb,e0,⟨mv,m1,m2⟩,⟨uv,u1,u2⟩,⟨fv,e3,_⟩,nd⟩:=B
 simp only[Ad.ls,aj,bo,or_false]at m
 rcases m with rfl|rfl|rfl|rfl
 ·rw[h]at e0;cases e0
 ·rw[h]at m1;cases m1
 ·rw[h]at u1;cases u1
 ·rw[h]at e3;cases e3
inductive Pm where
 |num
 |any
 |fn (i o:Nat)
 |rcd (l:List (Str×Nat))
 |tag (w:Str) (o:Nat)
 |row (o:Nat)
inductive Pu where
 |num
 |call (o i:Nat)
 |take (l:List (Str×Nat))
 |case (l:List (Str×Nat))
 |row (i:Nat)
def mvL (b:Nat) (l:List (Str×Nat)):List (Str×Int):=l.map fun p=>(p.1,(b:Int)+(p.2:Int))
def nI (n:Nat):Dt:=iD (n:Int)
def prN (l:List (Str×Nat)):Dt:= .tup (l.map fun p=> .tup [sD p.1,nI p.2])
def Pm.sh:Pm->Str
 | .num=>"num"
 | .any=>"any"
 | .fn _ _=>"fn"
 | .rcd _=>"rec"
 | .tag _ _=>"tag"
 | .row _=>"row"
def Pm.rest:Pm->List Dt
 | .num=>[]
 | .any=>[]
 | .fn i o=>[nI i,nI o]
 | .rcd l=>[prN l]
 | .tag w o=>[sD w,nI o]
 | .row o=>[nI o]
def Pm.d (m:Pm):Dt:= .tup (sD m.sh::m.rest)
def Pm.ok (no ni:Nat):Pm->Prop
 | .fn i o=>i<ni/\o<no
 | .rcd l=>l.length<=4/\∀p∈l,p.2<no
 | .tag _ o=>o<no
 | .row o=>o<no
 |_=>True
def Pm.parts (b i:Nat):Pm->Dt
 | .num=> .tup []
 | .any=> .tup []
 | .fn x o=> .tup [iD ((i:Int)+(x:Int)),iD ((b:Int)+(o:Int))]
 | .rcd l=>prD (mvL b l)
 | .tag w o=> .tup [sD w,iD ((b:Int)+(o:Int))]
 | .row o=> .tup [iD ((b:Int)+(o:Int))]
def Pu.sh:Pu->Str
 | .num=>"num"
 | .call _ _=>"call"
 | .take _=>"take"
 | .case _=>"case"
 | .row _=>"row"
def Pu.rest:Pu->List Dt
 | .num=>[]
 | .call o i=>[nI o,nI i]
 | .take l=>[prN l]
 | .case l=>[prN l]
 | .row i=>[nI i]
def Pu.d (u:Pu):Dt:= .tup (sD u.sh::u.rest)
def Pu.ok (no ni:Nat):Pu->Prop
 | .num=>True
 | .call o i=>o<no/\i<ni
 | .take l=>l.length<=4/\∀p∈l,p.2<ni
 | .case l=>l.length<=4/\∀p∈l,p.2<ni
 | .row i=>i<ni
def Pu.us (b i:Nat) (a p:Int):Pu->Us
 | .num=> .num a p 0
 | .call o x=> .call a p 0 ((b:Int)+(o:Int)) ((i:Int)+(x:Int))
 | .take l=> .take a p 0 (mvL i l)
 | .case l=> .case a p 0 (mvL i l)
 | .row x=> .row a p 0 ((i:Int)+(x:Int))
structure Pp where
 outs:List (List Pm)
 ins:List (List Pu)
 fls:List (Nat×Nat)
structure Pp.ok (P:Pp):Prop where
 o1:1<=P.outs.length
 o8:P.outs.length<=8
 i8:P.ins.length<=8
 om:∀l∈P.outs,l.length<=64/\∀m∈l,m.ok P.outs.length P.ins.length
 iu:∀l∈P.ins,l.length<=64/\∀u∈l,u.ok P.outs.length P.ins.length
 ff:P.fls.length<=64/\∀p∈P.fls,p.1<P.ins.length/\p.2<P.outs.length
def mkO (b i:Nat) (p:Int) (k:Nat) (l:List Pm):List Mkg:=l.map fun m=>⟨m.sh,m.parts b i,(b:Int)+(k:Int),p⟩
def usO (b i:Nat) (p:Int) (k:Nat) (l:List Pu):List Us:=l.map (Pu.us b i ((i:Int)+(k:Int)) p)
def mkA (b i:Nat) (p:Int):Nat->List (List Pm)->List Mkg
 |_,[]=>[]
 |k,l::t=>mkO b i p k l++mkA b i p (k+ 1) t
def usA (b i:Nat) (p:Int):Nat->List (List Pu)->List Us
 |_,[]=>[]
 |k,l::t=>usO b i p k l++usA b i p (k+ 1) t
theorem yl (b i:Nat) (p:Int):∀(k:Nat) (l:List (List Pm)) (x:List Pm),mkA b i p k (l++[x])=mkA b i p k l++mkO b i p (k+l.length) x
 |k,[],x=>by simp[mkA]
 |k,y::t,x=>by
  rw[aU,mkA,yl b i p (k+ 1) t x,mkA,aB,bD,show k+ 1+t.length=k+(t.length+ 1) by lia]
theorem ym (b i:Nat) (p:Int):∀(k:Nat) (l:List (List Pu)) (x:List Pu),usA b i p k (l++[x])=usA b i p k l++usO b i p (k+l.length) x
 |k,[],x=>by simp[usA]
 |k,y::t,x=>by
  rw[aU,usA,ym b i p (k+ 1) t x,usA,aB,bD,show k+ 1+t.length=k+(t.length+ 1) by lia]
theorem A7 (b i:Nat) (p:Int):∀(k:Nat) (l:List (List Pm)),(∀x∈l,x.length<=64)->(mkA b i p k l).length<=64*l.length
 |k,[],_=>by simp[mkA]
 |k,y::t,h=>by
  have h1:=h y (by simp)
  have h2:=A7 b i p (k+ 1) t fun x hx=>h x (by simp[hx])
  rw[mkA,aQ,mkO,aE,aB]
  lia
theorem A8 (b i:Nat) (p:Int):∀(k:Nat) (l:List (List Pu)),(∀x∈l,x.length<=64)->(usA b i p k l).length<=64*l.length
 |k,[],_=>by simp[usA]
 |k,y::t,h=>by
  have h1:=h y (by simp)
  have h2:=A8 b i p (k+ 1) t fun x hx=>h x (by simp[hx])
  rw[usA,aQ,usO,aE,aB]
  lia
def flF (b i:Nat) (p:Nat×Nat):Int×Int:=((i:Int)+(p.1:Int),(b:Int)+(p.2:Int))
def sH (P:Pp) (pl:Int) (D:Bd):Bd:=
 {D with
  pts:=D.pts++aI (P.outs.length+P.ins.length) pl
  mks:=D.mks++mkA D.pts.length (D.pts.length+P.outs.length) pl 0 P.outs
  uss:=D.uss++usA D.pts.length (D.pts.length+P.outs.length) pl 0 P.ins
  fls:=D.fls++P.fls.map (flF D.pts.length (D.pts.length+P.outs.length))}
end KK.Internal
set_option maxHeartbeats 1000000
namespace SM.Internal
open PySem L2.Internal BO.Internal KK.Internal
def uat:Us->Int
 | .num a _ _=>a
 | .call a _ _ _ _=>a
 | .take a _ _ _=>a
 | .case a _ _ _=>a
 | .row a _ _ _=>a
inductive Ft (M:Mf->Int->Prop) (U:Us->Prop) (F:Int->Int->Prop):Option Mf->Int->Int->Prop
 |fl {p q:Int}:F p q->Ft M U F none p q
 |he {x:Mf} {p:Int}:M x p->Ft M U F (some x) 0 p
 |mv {x:Mf} {p q:Int}:Ft M U F (some x) 0 p->Ft M U F none p q->Ft M U F (some x) 0 q
 |us {x:Mf} {u:Us} {l:List (Int×Int)} {c:Int×Int}:Ft M U F (some x) 0 (uat u)->U u->lI u x=some l->c∈l->Ft M U F none c.1 c.2
structure Sim (M':Mf->Int->Prop) (U':Us->Prop) (F':Int->Int->Prop) (M:Mf->Int->Prop) (U:Us->Prop) (F:Int->Int->Prop) (f:Int->Option Int) (R:Mf->Mf->Prop):Prop where
 fl:∀{p' q'},F' p' q'->∃p q,f p'=some p/\f q'=some q/\F p q
 ma:∀{x' p' p},M' x' p'->f p'=some p->∃x,R x' x/\M x p
 un:∀{x' u'},U' u'->M' x' (uat u')->∃p,f (uat u')=some p
 me:∀{u' p x' x},U' u'->f (uat u')=some p->R x' x->(∀u,U u->uat u=p->lI u x≠none)->
  ∃l',lI u' x'=some l'/\∀c∈l',∃a b,f c.1=some a/\f c.2=some b/\∃u l,U u/\uat u=p/\lI u x=some l/\(a,b)∈l
def Inv (M' M:Mf->Int->Prop) (U:Us->Prop) (F:Int->Int->Prop) (f:Int->Option Int) (R:Mf->Mf->Prop):Option Mf->Int->Int->Prop
 |none,p',q'=>∃p q,f p'=some p/\f q'=some q/\Ft M U F none p q
 |some x',_,p'=>(M' x' p'\/∃p,f p'=some p)/\∀p,f p'=some p->∃x,R x' x/\Ft M U F (some x) 0 p
variable {M' M:Mf->Int->Prop} {U' U:Us->Prop} {F' F:Int->Int->Prop} {f:Int->Option Int} {R:Mf->Mf->Prop}
theorem met (S:Sim M' U' F' M U F f R) (nb:∀x u,Ft M U F (some x) 0 (uat u)->U u->lI u x≠none) {x':Mf} {u':Us} (i:Inv M' M U F f R (some x') 0 (uat u')) (hu:U' u'):
  ∃p x l',f (uat u')=some p/\Ft M U F (some x) 0 p/\lI u' x'=some l'/\∀c∈l',∃a b,f c.1=some a/\f c.2=some b/\∃u l,U u/\uat u=p/\lI u x=some l/\(a,b)∈l:=by
 have⟨p,hp⟩:∃p,f (uat u')=some p:=i.1.elim (fun h=>S.un hu h) id
 obtain⟨x,r,hx⟩:=i.2 p hp
 obtain⟨l',e,h⟩:=S.me hu hp r fun u h1 h2=>nb x u (by rw[h2];exact hx) h1
 exact⟨p,x,l',hp,hx,e,h⟩
theorem inv (S:Sim M' U' F' M U F f R) (nb:∀x u,Ft M U F (some x) 0 (uat u)->U u->lI u x≠none) {t:Option Mf} {p' q':Int} (h:Ft M' U' F' t p' q'):Inv M' M U F f R t p' q':=by
 induction h with
 |fl h=>
  obtain⟨p,q,e1,e2,g⟩:=S.fl h
  exact⟨p,q,e1,e2,.fl g⟩
 |he h=>
  refine⟨.inl h,fun p e=>?_⟩
  obtain⟨x,r,g⟩:=S.ma h e
  exact⟨x,r,.he g⟩
 |mv _ _ i1 i2=>
  obtain⟨p,q,e1,e2,g⟩:=i2
  obtain⟨x,r,hx⟩:=i1.2 p e1
  refine⟨.inr ⟨q,e2⟩,fun q1 e=>?_⟩
  obtain rfl:q=q1:=by rw[e2]at e;exact cR.inj e
  exact⟨x,r,.mv hx g⟩
 |us _ hu hm hc i=>
  obtain⟨p,x,l',hp,hx,e,h⟩:=met S nb i hu
  obtain rfl:=cR.inj (hm.symm.trans e)
  obtain⟨a,b,ea,eb,u,l,h1,h2,h3,h4⟩:=h _ hc
  exact⟨a,b,ea,eb,.us (c:=(a,b)) (by rw[h2];exact hx) h1 h3 h4⟩
theorem sim (S:Sim M' U' F' M U F f R) (nb:∀x u,Ft M U F (some x) 0 (uat u)->U u->lI u x≠none) (x':Mf) (u':Us) (h:Ft M' U' F' (some x') 0 (uat u')) (hu:U' u'):lI u' x'≠none:=by
 obtain⟨_,_,l',_,_,e,_⟩:=met S nb (inv S nb h) hu
 rw[e]
 exact fun h=>nomatch h
end SM.Internal
set_option maxHeartbeats 1000000
namespace SM.Internal
open PySem L2.Internal BO.Internal KK.Internal
def atK:List (Str×Kd)->Str->Nat->Option (Kd×Nat)
 |[],_,_=>none
 |p::t,w,n=>if p.1=w then some (p.2,n)else atK t w (n+p.2.sz)
abbrev Nd:=Bool×Kd×Kd×Nat
mutual
def g:Bool->Kd->Kd->Nat->Nat->Option Nd
 |u,L,K,n,0=>some (u,L,K,n)
 |u,.fn a' b',.fn a b,n,x+ 1=>if x<a'.sz then g (!u) a' a (n+ 1) x else g u b' b (n+ 1+a.sz) (x-a'.sz)
 |u,.row a',.row a,n,x+ 1=>g u a' a (n+ 1) x
 |u,.rcd l',.rcd l,n,x+ 1=>gs u l' l.toL (n+ 1) x
 |u,.ch l',.ch l,n,x+ 1=>gs u l' l.toL (n+ 1) x
 |_,_,_,_,_=>none
def gs:Bool->Kds->List (Str×Kd)->Nat->Nat->Option Nd
 |_,.nil,_,_,_=>none
 |u,.cons w k' t,l,n,x=>if x<k'.sz then(match atK l w n with
   |some (k,m)=>g u k' k m x
   |none=>none)else gs u t l n (x-k'.sz)
end
theorem g0 (u:Bool) (L K:Kd) (n:Nat):g u L K n 0=some (u,L,K,n):=by
 cases L<;>simp[g]
mutual
theorem vT:∀(L:Kd) {u:Bool} {K:Kd} {n x:Nat} {v:Bool} {L1 K1:Kd} {m:Nat},g u L K n x=some (v,L1,K1,m)->x+L1.sz<=L.sz/\∀y,y<L1.sz->g u L K n (x+y)=g v L1 K1 m y
 |L,u,K,n,0,v,L1,K1,m,h=>by
  rw[g0]at h
  cases h
  exact⟨by lia,fun y _=>by rw[cN]⟩
 | .fn a' b',u,.fn a b,n,x+ 1,v,L1,K1,m,h=>by
  rw[g]at h
  rw[Kd.sz]
  by_cases c:x<a'.sz
  ·rw[ja c]at h
   obtain⟨h1,h2⟩:=vT a' h
   refine⟨by lia,fun y hy=>?_⟩
   rw[show x+ 1+y=(x+y)+ 1 by lia,g,ja (by lia)]
   exact h2 y hy
  ·rw[iT c]at h
   obtain⟨h1,h2⟩:=vT b' h
   refine⟨by lia,fun y hy=>?_⟩
   rw[show x+ 1+y=(x+y)+ 1 by lia,g,iT (by lia),show x+y-a'.sz=x-a'.sz+y by lia]
   exact h2 y hy
 | .row a',u,.row a,n,x+ 1,v,L1,K1,m,h=>by
  rw[g]at h
  rw[Kd.sz]
  obtain⟨h1,h2⟩:=vT a' h
  refine⟨by lia,fun y hy=>?_⟩
  rw[show x+ 1+y=(x+y)+ 1 by lia,g]
  exact h2 y hy
 | .rcd l',u,.rcd l,n,x+ 1,v,L1,K1,m,h=>by
  rw[g]at h
  rw[Kd.sz]
  obtain⟨h1,h2⟩:=wW l' h
  refine⟨by lia,fun y hy=>?_⟩
  rw[show x+ 1+y=(x+y)+ 1 by lia,g]
  exact h2 y hy
 | .ch l',u,.ch l,n,x+ 1,v,L1,K1,m,h=>by
  rw[g]at h
  rw[Kd.sz]
  obtain⟨h1,h2⟩:=wW l' h
  refine⟨by lia,fun y hy=>?_⟩
  rw[show x+ 1+y=(x+y)+ 1 by lia,g]
  exact h2 y hy
 | .any,u,K,n,x+ 1,v,L1,K1,m,h=>by simp[g]at h
 | .num,u,K,n,x+ 1,v,L1,K1,m,h=>by simp[g]at h
 | .fn _ _,u,.any,n,x+ 1,v,L1,K1,m,h=>by simp[g]at h
 | .fn _ _,u,.num,n,x+ 1,v,L1,K1,m,h=>by simp[g]at h
 | .fn _ _,u,.rcd _,n,x+ 1,v,L1,K1,m,h=>by simp[g]at h
 | .fn _ _,u,.ch _,n,x+ 1,v,L1,K1,m,h=>by simp[g]at h
 | .fn _ _,u,.row _,n,x+ 1,v,L1,K1,m,h=>by simp[g]at h
 | .row _,u,.any,n,x+ 1,v,L1,K1,m,h=>by simp[g]at h
 | .row _,u,.num,n,x+ 1,v,L1,K1,m,h=>by simp[g]at h
 | .row _,u,.rcd _,n,x+ 1,v,L1,K1,m,h=>by simp[g]at h
 | .row _,u,.ch _,n,x+ 1,v,L1,K1,m,h=>by simp[g]at h
 | .row _,u,.fn _ _,n,x+ 1,v,L1,K1,m,h=>by simp[g]at h
 | .rcd _,u,.any,n,x+ 1,v,L1,K1,m,h=>by simp[g]at h
 | .rcd _,u,.num,n,x+ 1,v,L1,K1,m,h=>by simp[g]at h
 | .rcd _,u,.row _,n,x+ 1,v,L1,K1,m,h=>by simp[g]at h
 | .rcd _,u,.ch _,n,x+ 1,v,L1,K1,m,h=>by simp[g]at h
 | .rcd _,u,.fn _ _,n,x+ 1,v,L1,K1,m,h=>by simp[g]at h
 | .ch _,u,.any,n,x+ 1,v,L1,K1,m,h=>by simp[g]at h
 | .ch _,u,.num,n,x+ 1,v,L1,K1,m,h=>by simp[g]at h
 | .ch _,u,.row _,n,x+ 1,v,L1,K1,m,h=>by simp[g]at h
 | .ch _,u,.rcd _,n,x+ 1,v,L1,K1,m,h=>by simp[g]at h
 | .ch _,u,.fn _ _,n,x+ 1,v,L1,K1,m,h=>by simp[g]at h
termination_by structural L=>L
theorem wW:∀(l':Kds) {u:Bool} {l:List (Str×Kd)} {n x:Nat} {v:Bool} {L1 K1:Kd} {m:Nat},gs u l' l n x=some (v,L1,K1,m)->x+L1.sz<=l'.sz/\∀y,y<L1.sz->gs u l' l n (x+y)=g v L1 K1 m y
 | .nil,u,l,n,x,v,L1,K1,m,h=>by rw[gs]at h;cases h
 | .cons w k' t,u,l,n,x,v,L1,K1,m,h=>by
  rw[gs]at h
  rw[Kds.sz]
  by_cases c:x<k'.sz
  ·rw[ja c]at h
   split at h
   ·rename_i k m1 e
    obtain⟨h1,h2⟩:=vT k' h
    refine⟨by lia,fun y hy=>?_⟩
    rw[gs,ja (by lia),e]
    exact h2 y hy
   ·cases h
  ·rw[iT c]at h
   obtain⟨h1,h2⟩:=wW t h
   refine⟨by lia,fun y hy=>?_⟩
   rw[gs,iT (by lia),show x+y-k'.sz=x-k'.sz+y by lia]
   exact h2 y hy
termination_by structural l=>l
end
end SM.Internal
set_option maxHeartbeats 1000000
namespace SM.Internal
open PySem L2.Internal BO.Internal KK.Internal
section
variable (f:Int->Option Int)
def Sh:Mf->Mf->Prop
 |_,.any=>True
 | .num,.num=>True
 | .fn a' b',.fn a b=>f a'=some a/\f b'=some b
 | .rcd l',.rcd l=>∀w i,lk l w=some i->∃i',lk l' w=some i'/\f i'=some i
 | .tag w' i',.tag w i=>w'=w/\f i'=some i
 | .row i',.row i=>f i'=some i
 |_,_=>False
def Su:Us->Us->Prop
 | .num _ _ _,.num _ _ _=>True
 | .call _ _ _ x' y',.call _ _ _ x y=>f x'=some x/\f y'=some y
 | .take _ _ _ l',.take _ _ _ l=>∀p∈l',∃i,(p.1,i)∈l/\f p.2=some i
 | .case _ _ _ l',.case _ _ _ l=>∀w i,lk l w=some i->∃i',lk l' w=some i'/\f i'=some i
 | .row _ _ _ y',.row _ _ _ y=>f y'=some y
 |_,_=>False
end
theorem yn {l m:List (Str×Int)} (h:∀p∈l,lk m p.1≠none):uh l m=some (l.filterMap (fnd m)):=by
 have:∀l:List (Str×Int),(∀p∈l,lk m p.1≠none)->(l.filterMap (fnd m)).length=l.length:=by
  intro l
  induction l with
  |nil=>intro _;rfl
  |cons a t ih=>
   intro h
   have h1:=h a (by simp)
   cases e:lk m a.1 with
   |none=>exact absurd e h1
   |some x=>
    have:fnd m a=some (x,a.2):=by rw[fnd,e];rfl
    rw[ag,this]
    show(bz (fnd m) t).length+ 1=t.length+ 1
    rw[ih fun p hp=>h p (by simp[hp])]
 rw[uh,ja (this l h)]
theorem CG {l m:List (Str×Int)} {r:List (Int×Int)} (h:uh l m=some r):(∀p∈l,lk m p.1≠none)/\r=l.filterMap (fnd m):=by
 have k:∀p∈l,lk m p.1≠none:=fun p hp e=>by
  rw[tJ hp e]at h
  cases h
 rw[yn k]at h
 exact⟨k,(cR.inj h).symm⟩
theorem IJ {f:Int->Option Int} {u' u:Us} {x' x:Mf} {l:List (Int×Int)} (hs:Sh f x' x) (hu:Su f u' u) (h:lI u x=some l):∃l',lI u' x'=some l'/\∀c∈l',∃a b,f c.1=some a/\f c.2=some b/\(a,b)∈l:=by
 cases u with
 |num a p s=>
  cases x<;>simp only[lI]at h<;>try cases h
  cases u'<;>simp only[Su]at hu
  cases x'<;>simp only[Sh]at hs
  exact⟨[],rfl,fun c hc=>by cases hc⟩
 |call a p s x1 y1=>
  cases x<;>simp only[lI]at h<;>try cases h
  cases u'<;>simp only[Su]at hu
  cases x'<;>simp only[Sh]at hs
  refine⟨_,rfl,fun c hc=>?_⟩
  rcases aj.mp hc with rfl|hc
  ·exact⟨_,_,hu.1,hs.1,by simp⟩
  ·obtain rfl:=bh.mp hc
   exact⟨_,_,hs.2,hu.2,by simp⟩
 |row a p s y1=>
  cases x<;>simp only[lI]at h<;>try cases h
  cases u'<;>simp only[Su]at hu
  cases x'<;>simp only[Sh]at hs
  refine⟨_,rfl,fun c hc=>?_⟩
  obtain rfl:=bh.mp hc
  exact⟨_,_,hs,hu,by simp⟩
 |case a p s m=>
  cases x<;>simp only[lI]at h<;>try cases h
  rename_i w i
  cases u'<;>simp only[Su]at hu
  cases x'<;>simp only[Sh]at hs
  obtain⟨rfl,hi⟩:=hs
  rename_i l1 w1 i1
  cases e:lk m w1 with
  |none=>rw[e]at h;cases h
  |some j=>
   rw[e]at h
   cases h
   obtain⟨j',e1,e2⟩:=hu _ _ e
   refine⟨[(i1,j')],by rw[lI,e1];rfl,fun c hc=>?_⟩
   obtain rfl:=bh.mp hc
   exact⟨_,_,hi,e2,by simp⟩
 |take a p s m=>
  cases x<;>simp only[lI]at h<;>try cases h
  rename_i r
  cases u'<;>simp only[Su]at hu
  rename_i l1
  cases x'<;>simp only[Sh]at hs
  rename_i r1
  obtain⟨k,rfl⟩:=CG h
  have go:∀p∈l1,∃i j j',(p.1,i)∈m/\f p.2=some i/\lk r p.1=some j/\lk r1 p.1=some j'/\f j'=some j:=fun p hp=>by
   obtain⟨i,h1,h2⟩:=hu p hp
   have:=k _ h1
   cases e:lk r p.1 with
   |none=>exact absurd e this
   |some j=>
    obtain⟨j',h3,h4⟩:=hs _ _ e
    exact⟨i,j,j',h1,h2,rfl,h3,h4⟩
  refine⟨_,yn fun p hp=>?_,fun c hc=>?_⟩
  ·obtain⟨i,j,j',_,_,_,h3,_⟩:=go p hp
   rw[h3]
   exact fun h=>nomatch h
  ·obtain⟨p,hp,e⟩:=ay.mp hc
   obtain⟨i,j,j',h1,h2,h3,h4,h5⟩:=go p hp
   rw[fnd,h4]at e
   cases e
   exact⟨j,i,h5,h2,ay.mpr ⟨_,h1,by rw[fnd,h3];rfl⟩⟩
def UR (U:Us->Prop) (f:Int->Option Int) (u':Us) (p:Int):Prop:=∃u,U u/\uat u=p/\(Su f u' u\/∀x,lI u x=none)
theorem UR.me {U:Us->Prop} {f:Int->Option Int} {u':Us} {p:Int} {x' x:Mf} (h:UR U f u' p) (hs:Sh f x' x) (nb:∀u,U u->uat u=p->lI u x≠none):
  ∃l',lI u' x'=some l'/\∀c∈l',∃a b,f c.1=some a/\f c.2=some b/\∃u l,U u/\uat u=p/\lI u x=some l/\(a,b)∈l:=by
 obtain⟨u,h1,h2,h3⟩:=h
 cases e:lI u x with
 |none=>exact absurd e (nb u h1 h2)
 |some l=>
  rcases h3 with h3|h3
  ·obtain⟨l',e',k⟩:=IJ hs h3 e
   refine⟨l',e',fun c hc=>?_⟩
   obtain⟨a,b,ea,eb,m⟩:=k c hc
   exact⟨a,b,ea,eb,u,l,h1,h2,e,m⟩
  ·rw[h3]at e
   cases e
end SM.Internal
set_option maxHeartbeats 1000000
namespace SM.Internal
open PySem L2.Internal BO.Internal KK.Internal
def vg:List (Str×Kd)->Nat->List (Str×Kd×Nat)
 |[],_=>[]
 |p::t,n=>(p.1,p.2,n)::vg t (n+p.2.sz)
def offs (l:List (Str×Kd)) (n:Nat):List (Str×Int):=(vg l n).map fun q=>(q.1,(q.2.2:Int))
theorem uE:∀(l:List (Str×Kd)) (w:Str) (n:Nat),lk (offs l n) w=(atK l w n).map fun q=>(q.2:Int)
 |[],_,_=>rfl
 |p::t,w,n=>by
  show lk ((p.1,(n:Int))::offs t (n+p.2.sz)) w=_
  rw[lk,atK]
  by_cases e:p.1=w
  ·rw[ja e,ja e];rfl
  ·rw[iT e,iT e];exact uE t w _
theorem wX:∀(l:List (Str×Kd)) (w:Str) (n:Nat),lkK l w=(atK l w n).map Prod.fst
 |[],_,_=>rfl
 |p::t,w,n=>by
  rw[lkK,atK]
  by_cases e:p.1=w
  ·rw[ja e,ja e];rfl
  ·rw[iT e,iT e];exact wX t w _
theorem off3_mem:∀{l:List (Str×Kd)} {n:Nat} {q:Str×Kd×Nat},q∈vg l n->(q.1,q.2.1)∈l
 |p::t,n,q,h=>by
  rcases aj.mp h with rfl|h
  ·exact ah
  ·exact ai _ (off3_mem h)
theorem nF:∀{l:List (Str×Kd)} {w:Str} {n:Nat} {q:Kd×Nat},atK l w n=some q->(w,q.1,q.2)∈vg l n
 |p::t,w,n,q,h=>by
  rw[atK]at h
  by_cases e:p.1=w
  ·rw[ja e]at h;cases h;rw[<-e];exact ah
  ·rw[iT e]at h;exact ai _ (nF h)
theorem G2 {u:Bool} {l:List (Str×Kd)} {n:Nat} {w:Str} {k' k:Kd} {m:Nat} (e:atK l w n=some (k,m)):∀{l':Kds} {c o:Nat},(w,k',o)∈vg l'.toL c->c<=o/\o-c<l'.sz/\gs u l' l n (o-c)=some (u,k',k,m)
 | .cons v j t,c,o,h=>by
  rw[Kds.toL]at h
  rcases aj.mp h with z|h
  ·cases z
   refine⟨cB _,?_,?_⟩
   ·have:=iR j;rw[Kds.sz];lia
   ·rw[cO,gs,ja (iR _),e]
    exact g0 _ _ _ _
  ·obtain⟨h1,h2,h3⟩:=G2 (c:=c+j.sz) e h
   refine⟨by lia,by rw[Kds.sz];lia,?_⟩
   rw[gs,iT (by lia),show o-c-j.sz=o-(c+j.sz) by lia]
   exact h3
 | .nil,c,o,h=>by cases h
def leF:Nat->Kd->Kd->Prop
 |0,_,_=>False
 |n+ 1,a,b=>∃l,pw a b=some l/\∀p∈l,leF n p.1 p.2
def Le (a b:Kd):Prop:=∃n,leF n a b
theorem Le.un {a b:Kd} (h:Le a b):∃l,pw a b=some l/\∀p∈l,Le p.1 p.2:=by
 obtain⟨n,h⟩:=h
 cases n with
 |zero=>exact h.elim
 |succ n=>
  obtain⟨l,e,k⟩:=h
  exact⟨l,e,fun p hp=>⟨n,k p hp⟩⟩
def Rel (u:Bool) (L K:Kd):Prop:=if u=true then Le K L else Le L K
theorem Le.fn {a b c d:Kd} (h:Le (.fn a b) (.fn c d)):Le c a/\Le b d:=by
 obtain⟨l,e,k⟩:=h.un
 have:l=[(c,a),(b,d)]:=by simpa[pw,nD,sy,pw2]using e.symm
 subst this
 exact⟨k (c,a) (by simp),k (b,d) (by simp)⟩
theorem Le.row {a b:Kd} (h:Le (.row a) (.row b)):Le a b:=by
 obtain⟨l,e,k⟩:=h.un
 have:l=[(a,b)]:=by simpa[pw,nD,sy,pw2]using e.symm
 subst this
 exact k (a,b) (by simp)
theorem wY {l m:List (Str×Kd)}:∀{W:List (Str×Kd)} {r:List (Kd×Kd)},pbw l m W=some r->∀p∈W,∃a b,lkK l p.1=some a/\lkK m p.1=some b/\(a,b)∈r
 |q::t,r,h,p,hp=>by
  rw[pbw]at h
  cases e1:lkK l q.1 with
  |none=>rw[e1]at h;cases h
  |some a=>
   cases e2:lkK m q.1 with
   |none=>rw[e1,e2]at h;cases h
   |some b=>
    rw[e1,e2]at h
    cases e3:pbw l m t with
    |none=>simp[e3]at h
    |some s=>
     simp only[e3,cW,cR.injEq]at h
     subst h
     rcases aj.mp hp with rfl|hp
     ·exact⟨a,b,e1,e2,ah⟩
     ·obtain⟨a1,b1,h1,h2,h3⟩:=wY e3 p hp
      exact⟨a1,b1,h1,h2,ai _ h3⟩
theorem Le.rcd {l m:Kds} (h:Le (.rcd l) (.rcd m)):∀p∈m.toL,∃a b,lkK l.toL p.1=some a/\lkK m.toL p.1=some b/\Le a b:=fun p hp=>by
 obtain⟨r,e,k⟩:=h.un
 have:pbw l.toL m.toL m.toL=some r:=by simpa[pw,nD,sy,pw2]using e
 obtain⟨a,b,h1,h2,h3⟩:=wY this p hp
 exact⟨a,b,h1,h2,k _ h3⟩
theorem Le.ch {l m:Kds} (h:Le (.ch l) (.ch m)):∀p∈l.toL,∃a b,lkK l.toL p.1=some a/\lkK m.toL p.1=some b/\Le a b:=fun p hp=>by
 obtain⟨r,e,k⟩:=h.un
 have:pbw l.toL m.toL l.toL=some r:=by
  cases l with
  |nil=>cases hp
  |cons v j t=>simpa[pw,nD,sy,pw2]using e
 obtain⟨a,b,h1,h2,h3⟩:=wY this p hp
 exact⟨a,b,h1,h2,k _ h3⟩
end SM.Internal
set_option maxHeartbeats 1000000
namespace SM.Internal
open PySem L2.Internal BO.Internal KK.Internal
theorem Rel.fn {u:Bool} {a b a' b':Kd} (h:Rel u (.fn a' b') (.fn a b)):Rel (!u) a' a/\Rel u b' b:=by
 cases u<;>simp only[Rel,Bool.not_true,Bool.not_false,if_true,if_false,eV]at h⊢<;>exact h.fn
theorem Rel.row {u:Bool} {a a':Kd} (h:Rel u (.row a') (.row a)):Rel u a' a:=by
 cases u<;>simp only[Rel,if_true,if_false,eV]at h⊢<;>exact h.row
def nds (l:Kds):Prop:=(l.toL.map Prod.fst).Nodup
def IK (u:Bool) (l':Kds) (l:List (Str×Kd)):Prop:=∀w k' k,(w,k')∈l'.toL->lkK l w=some k->Rel u k' k
theorem Rel.rcd {u:Bool} {l l':Kds} (hn:nds l') (h:Rel u (.rcd l') (.rcd l)):IK u l' l.toL:=fun w k' k h1 h2=>by
 have e1:=rG hn h1
 cases u<;>simp only[Rel,if_true,if_false,eV]at h⊢
 ·obtain⟨a,b,h3,h4,h5⟩:=h.rcd _ (qj h2)
  cases e1.symm.trans h3
  cases h2.symm.trans h4
  exact h5
 ·obtain⟨a,b,h3,h4,h5⟩:=h.rcd _ h1
  cases e1.symm.trans h4
  cases h2.symm.trans h3
  exact h5
theorem Rel.ch {u:Bool} {l l':Kds} (hn:nds l') (h:Rel u (.ch l') (.ch l)):IK u l' l.toL:=fun w k' k h1 h2=>by
 have e1:=rG hn h1
 cases u<;>simp only[Rel,if_true,if_false,eV]at h⊢
 ·obtain⟨a,b,h3,h4,h5⟩:=h.ch _ h1
  cases e1.symm.trans h3
  cases h2.symm.trans h4
  exact h5
 ·obtain⟨a,b,h3,h4,h5⟩:=h.ch _ (qj h2)
  cases e1.symm.trans h4
  cases h2.symm.trans h3
  exact h5
theorem G3 {l:Kds} {w:Str} {k:Kd} (h:l.ok) (e:lkK l.toL w=some k):k.ok:=(lM l).mp h _ (qj e)
mutual
theorem zk:∀(L:Kd) {u:Bool} {K:Kd} {n x:Nat} {q:Nd},L.ok->K.ok->Rel u L K->g u L K n x=some q->q.2.1.ok/\q.2.2.1.ok/\Rel q.1 q.2.1 q.2.2.1
 |L,u,K,n,0,q,hL,hK,r,h=>by
  rw[g0]at h
  cases h
  exact⟨hL,hK,r⟩
 | .fn a' b',u,K,n,x+ 1,q,hL,hK,r,h=>by
  cases K with
  |fn a b=>
   rw[g]at h
   rw[Kd.ok]at hL hK
   split at h
   ·exact zk a' hL.1 hK.1 r.fn.1 h
   ·exact zk b' hL.2 hK.2 r.fn.2 h
  |_=>simp[g]at h
 | .row a',u,K,n,x+ 1,q,hL,hK,r,h=>by
  cases K with
  |row a=>
   rw[g]at h
   rw[Kd.ok]at hL hK
   exact zk a' hL hK r.row h
  |_=>simp[g]at h
 | .rcd l',u,K,n,x+ 1,q,hL,hK,r,h=>by
  cases K with
  |rcd l=>
   rw[g]at h
   rw[Kd.ok]at hL hK
   exact A9 l' hL.1 (fun w k e=>G3 hK.1 e) (r.rcd hL.2.1) h
  |_=>simp[g]at h
 | .ch l',u,K,n,x+ 1,q,hL,hK,r,h=>by
  cases K with
  |ch l=>
   rw[g]at h
   rw[Kd.ok]at hL hK
   exact A9 l' hL.1 (fun w k e=>G3 hK.1 e) (r.ch hL.2.1) h
  |_=>simp[g]at h
 | .any,u,K,n,x+ 1,q,_,_,_,h=>by simp[g]at h
 | .num,u,K,n,x+ 1,q,_,_,_,h=>by simp[g]at h
theorem A9:∀(l':Kds) {u:Bool} {l:List (Str×Kd)} {n x:Nat} {q:Nd},l'.ok->(∀w k,lkK l w=some k->k.ok)->IK u l' l->gs u l' l n x=some q->q.2.1.ok/\q.2.2.1.ok/\Rel q.1 q.2.1 q.2.2.1
 | .nil,u,l,n,x,q,_,_,_,h=>by rw[gs]at h;cases h
 | .cons w k' t,u,l,n,x,q,hl,hk,r,h=>by
  rw[gs]at h
  rw[Kds.ok]at hl
  split at h
  ·split at h
   ·rename_i k m e
    have e1:lkK l w=some k:=by rw[wX l w n,e];rfl
    exact zk k' hl.1 (hk _ _ e1) (r w k' k (by rw[Kds.toL];exact ah) e1) h
   ·cases h
  ·exact A9 t hl.2 hk (fun w1 k1 k2 h1 h2=>r w1 k1 k2 (by rw[Kds.toL];exact ai _ h1) h2) h
end
def mkOf:Kd->Nat->List Mf
 | .any,_=>[.any]
 | .num,_=>[.num]
 | .fn a b,n=>[.fn ((n+ 1:Nat):Int) ((n+ 1+a.sz:Nat):Int)]
 | .rcd l,n=>[.rcd (offs l.toL (n+ 1))]
 | .ch l,n=>(vg l.toL (n+ 1)).map fun q=> .tag q.1 (q.2.2:Int)
 | .row a,n=>[.row ((n+ 1:Nat):Int)]
def usOf:Kd->Nat->List Us
 | .any,_=>[]
 | .num,n=>[.num n 0 0]
 | .fn a b,n=>[.call n 0 0 ((n+ 1:Nat):Int) ((n+ 1+a.sz:Nat):Int)]
 | .rcd l,n=>[.take n 0 0 (offs l.toL (n+ 1))]
 | .ch l,n=>[.case n 0 0 (offs l.toL (n+ 1))]
 | .row a,n=>[.row n 0 0 ((n+ 1:Nat):Int)]
def Kn (f:Int->Option Int) (u:Bool) (L K:Kd) (n m:Nat):Prop:=∀z q,z<L.sz->g u L K m z=some q->f ((n+z:Nat):Int)=some (q.2.2.2:Int)
theorem Kn.fld {f:Int->Option Int} {u:Bool} {l' l:Kds} {n m:Nat} (h:∀z q,z<l'.sz->gs u l' l.toL (m+ 1) z=some q->f ((n+(z+ 1):Nat):Int)=some (q.2.2.2:Int)) {w:Str} {k' k:Kd} {o' o:Nat} (h1:(w,k',o')∈vg l'.toL (n+ 1)) (h2:atK l.toL w (m+ 1)=some (k,o)):f (o':Int)=some (o:Int):=by
 obtain⟨e1,e2,e3⟩:=G2 (u:=u) h2 h1
 have:=h _ _ e2 e3
 rw[show n+(o'-(n+ 1)+ 1)=o' by lia]at this
 exact this
theorem Kn.rcd {f:Int->Option Int} {u:Bool} {l' l:Kds} {n m:Nat} (h:Kn f u (.rcd l') (.rcd l) n m) {w:Str} {k' k:Kd} {o' o:Nat} (h1:(w,k',o')∈vg l'.toL (n+ 1)) (h2:atK l.toL w (m+ 1)=some (k,o)):f (o':Int)=some (o:Int):=
 Kn.fld (u:=u) (fun z q hz e=>h (z+ 1) q (by rw[Kd.sz];lia) (by rw[g];exact e)) h1 h2
theorem Kn.ch {f:Int->Option Int} {u:Bool} {l' l:Kds} {n m:Nat} (h:Kn f u (.ch l') (.ch l) n m) {w:Str} {k' k:Kd} {o' o:Nat} (h1:(w,k',o')∈vg l'.toL (n+ 1)) (h2:atK l.toL w (m+ 1)=some (k,o)):f (o':Int)=some (o:Int):=
 Kn.fld (u:=u) (fun z q hz e=>h (z+ 1) q (by rw[Kd.sz];lia) (by rw[g];exact e)) h1 h2
theorem Kn.fn {f:Int->Option Int} {u:Bool} {a b a' b':Kd} {n m:Nat} (h:Kn f u (.fn a' b') (.fn a b) n m):f ((n+ 1:Nat):Int)=some ((m+ 1:Nat):Int)/\f ((n+ 1+a'.sz:Nat):Int)=some ((m+ 1+a.sz:Nat):Int):=by
 have p1:=iR a'
 have p2:=iR b'
 refine⟨h 1 _ (by rw[Kd.sz];lia) (by rw[g,ja p1];exact g0 _ _ _ _),?_⟩
 have:=h (a'.sz+ 1) _ (by rw[Kd.sz];lia) (by rw[g,iT (by lia),cO];exact g0 _ _ _ _)
 rw[show n+(a'.sz+ 1)=n+ 1+a'.sz by lia]at this
 exact this
theorem Kn.row {f:Int->Option Int} {u:Bool} {a a':Kd} {n m:Nat} (h:Kn f u (.row a') (.row a) n m):f ((n+ 1:Nat):Int)=some ((m+ 1:Nat):Int):=
 h 1 _ (by have:=iR a';rw[Kd.sz];lia) (by rw[g];exact g0 _ _ _ _)
end SM.Internal
set_option maxHeartbeats 1000000
namespace SM.Internal
open PySem L2.Internal BO.Internal KK.Internal
theorem Le.pw {a b:Kd} (h:Le a b):nD b=true\/sy a=true\/pw2 a b≠none:=by
 obtain⟨l,e,_⟩:=h.un
 rw[KK.Internal.pw]at e
 split at e
 ·rename_i c
  rw[Bool.or_eq_true]at c
  exact c.elim .inl fun c=> .inr (.inl c)
 ·exact .inr (.inr (by rw[e];exact fun h=>nomatch h))
theorem zo {l:List (Str×Kd)} {w:Str} {k:Kd} (n:Nat) (h:lkK l w=some k):∃o,atK l w n=some (k,o):=by
 rw[wX l w n]at h
 cases e:atK l w n with
 |none=>rw[e]at h;cases h
 |some q=>
  rw[e]at h
  cases h
  exact⟨q.2,rfl⟩
theorem D8 {l:List (Str×Kd)} {w:Str} {n:Nat} {i:Int} (h:lk (offs l n) w=some i):∃k o,atK l w n=some (k,o)/\i=(o:Int):=by
 rw[uE]at h
 cases e:atK l w n with
 |none=>rw[e]at h;cases h
 |some q=>
  rw[e]at h
  cases h
  exact⟨q.1,q.2,rfl,rfl⟩
theorem Fb {f:Int->Option Int} {L K:Kd} {n m:Nat} (r:Le L K) (k:Kn f false L K n m):∀x'∈mkOf L n,∃x∈mkOf K m,Sh f x' x:=fun x' hx=>by
 rcases r.pw with c|c|c
 ·cases K<;>simp only[nD,eV]at c
  exact⟨.any,bh.mpr rfl,by cases x'<;>simp only[Sh]⟩
 ·cases L with
  |ch l=>
   cases l with
   |nil=>cases hx
   |cons _ _ _=>simp[sy]at c
  |_=>simp[sy]at c
 ·cases L<;>cases K<;>simp only[pw2,ne_eq,not_true_eq_false]at c
  ·obtain rfl:=bh.mp hx
   exact⟨.num,bh.mpr rfl,trivial⟩
  ·obtain rfl:=bh.mp hx
   exact⟨_,bh.mpr rfl,k.fn⟩
  ·obtain rfl:=bh.mp hx
   refine⟨_,bh.mpr rfl,fun w i e=>?_⟩
   obtain⟨j,o,e1,rfl⟩:=D8 e
   obtain⟨a,b,h1,h2,_⟩:=r.rcd _ (off3_mem (nF e1))
   obtain⟨o',e2⟩:=zo (n+ 1) h1
   exact⟨(o':Int),by rw[uE,e2];rfl,k.rcd (nF e2) e1⟩
  ·obtain⟨q,hq,rfl⟩:=bp.mp hx
   obtain⟨a,b,h1,h2,_⟩:=r.ch _ (off3_mem hq)
   obtain⟨o,e2⟩:=zo (m+ 1) h2
   exact⟨.tag q.1 (o:Int),bp.mpr ⟨_,nF e2,rfl⟩,rfl,k.ch hq e2⟩
  ·obtain rfl:=bh.mp hx
   exact⟨_,bh.mpr rfl,k.row⟩
theorem Fc {f:Int->Option Int} {L K:Kd} {n m:Nat} (r:Le K L) (k:Kn f true L K n m):∀u'∈usOf L n,∃u∈usOf K m,uat u=(m:Int)/\(Su f u' u\/∀x,lI u x=none):=fun u' hx=>by
 rcases r.pw with c|c|c
 ·cases L<;>simp only[nD,eV]at c
  cases hx
 ·cases K with
  |ch l=>
   cases l with
   |nil=>exact⟨_,bh.mpr rfl,rfl,.inr fun x=>by cases x<;>rfl⟩
   |cons _ _ _=>simp[sy]at c
  |_=>simp[sy]at c
 ·cases L<;>cases K<;>simp only[pw2,ne_eq,not_true_eq_false]at c
  ·obtain rfl:=bh.mp hx
   exact⟨_,bh.mpr rfl,rfl,.inl trivial⟩
  ·obtain rfl:=bh.mp hx
   exact⟨_,bh.mpr rfl,rfl,.inl k.fn⟩
  ·obtain rfl:=bh.mp hx
   refine⟨_,bh.mpr rfl,rfl,.inl fun p hp=>?_⟩
   obtain⟨q,hq,rfl⟩:=bp.mp hp
   obtain⟨a,b,h1,h2,_⟩:=r.rcd _ (off3_mem hq)
   obtain⟨o,e2⟩:=zo (m+ 1) h1
   exact⟨(o:Int),bp.mpr ⟨_,nF e2,rfl⟩,k.rcd hq e2⟩
  ·obtain rfl:=bh.mp hx
   refine⟨_,bh.mpr rfl,rfl,.inl fun w i e=>?_⟩
   obtain⟨j,o,e1,rfl⟩:=D8 e
   obtain⟨a,b,h1,h2,_⟩:=r.ch _ (off3_mem (nF e1))
   obtain⟨o',e2⟩:=zo (n+ 1) h2
   exact⟨(o':Int),by rw[uE,e2];rfl,k.ch (nF e2) e1⟩
  ·obtain rfl:=bh.mp hx
   exact⟨_,bh.mpr rfl,rfl,.inl k.row⟩
end SM.Internal
set_option maxHeartbeats 1000000
namespace SM.Internal
open PySem L2.Internal BO.Internal KK.Internal
inductive Nn:Bool->Kd->Nat->Bool->Kd->Nat->Prop
 |here {u L n}:Nn u L n u L n
 |fa {u a b n v k m}:Nn (!u) a (n+ 1) v k m->Nn u (.fn a b) n v k m
 |fb {u a b n v k m}:Nn u b (n+ 1+a.sz) v k m->Nn u (.fn a b) n v k m
 |rw {u a n v k m}:Nn u a (n+ 1) v k m->Nn u (.row a) n v k m
 |rc {u l n w k1 o v k m}:(w,k1,o)∈vg l.toL (n+ 1)->Nn u k1 o v k m->Nn u (.rcd l) n v k m
 |ch {u l n w k1 o v k m}:(w,k1,o)∈vg l.toL (n+ 1)->Nn u k1 o v k m->Nn u (.ch l) n v k m
mutual
theorem Gg:∀(L:Kd) {u:Bool} {K:Kd} {n x:Nat} {q:Nd},g u L K n x=some q->Nn u K n q.1 q.2.2.1 q.2.2.2
 |L,u,K,n,0,q,h=>by
  rw[g0]at h
  cases h
  exact .here
 | .fn a' b',u,K,n,x+ 1,q,h=>by
  cases K with
  |fn a b=>
   rw[g]at h
   split at h
   ·exact .fa (Gg a' h)
   ·exact .fb (Gg b' h)
  |_=>simp[g]at h
 | .row a',u,K,n,x+ 1,q,h=>by
  cases K with
  |row a=>
   rw[g]at h
   exact .rw (Gg a' h)
  |_=>simp[g]at h
 | .rcd l',u,K,n,x+ 1,q,h=>by
  cases K with
  |rcd l=>
   rw[g]at h
   obtain⟨w,k,o,h1,h2⟩:=Fe l' h
   exact .rc h1 h2
  |_=>simp[g]at h
 | .ch l',u,K,n,x+ 1,q,h=>by
  cases K with
  |ch l=>
   rw[g]at h
   obtain⟨w,k,o,h1,h2⟩:=Fe l' h
   exact .ch h1 h2
  |_=>simp[g]at h
 | .any,u,K,n,x+ 1,q,h=>by simp[g]at h
 | .num,u,K,n,x+ 1,q,h=>by simp[g]at h
theorem Fe:∀(l':Kds) {u:Bool} {l:List (Str×Kd)} {n x:Nat} {q:Nd},gs u l' l n x=some q->∃w k o,(w,k,o)∈vg l n/\Nn u k o q.1 q.2.2.1 q.2.2.2
 | .nil,u,l,n,x,q,h=>by rw[gs]at h;cases h
 | .cons w k' t,u,l,n,x,q,h=>by
  rw[gs]at h
  split at h
  ·split at h
   ·rename_i k m e
    exact⟨w,k,m,nF e,Gg k' h⟩
   ·cases h
  ·exact Fe t h
end
theorem off3_le:∀{l:Kds} {c:Nat} {w:Str} {k:Kd} {o:Nat},(w,k,o)∈vg l.toL c->c<=o/\o+k.sz<=c+l.sz
 | .cons v j t,c,w,k,o,h=>by
  rw[Kds.toL]at h
  rw[Kds.sz]
  rcases aj.mp h with z|h
  ·cases z;show c<=c/\c+j.sz<=_;lia
  ·have:c+j.sz<=o/\o+k.sz<=c+j.sz+t.sz:=off3_le h
   lia
theorem Nn.le {u:Bool} {L:Kd} {n:Nat} {v:Bool} {k:Kd} {m:Nat} (h:Nn u L n v k m):n<=m/\m+k.sz<=n+L.sz:=by
 induction h with
 |here=>lia
 |fa _ i=>rw[Kd.sz];lia
 |fb _ i=>rw[Kd.sz];lia
 |rw _ i=>rw[Kd.sz];lia
 |rc h _ i=>have:=off3_le h;rw[Kd.sz];lia
 |ch h _ i=>have:=off3_le h;rw[Kd.sz];lia
theorem Ba {u:Bool} {l:List (Str×Kd)} {n:Nat} {w:Str} {k':Kd} {z:Nat} (hz:z<k'.sz):∀{l':Kds} {c o:Nat},(w,k',o)∈vg l'.toL c->gs u l' l n (o-c+z)=match atK l w n with
  |some (k,m)=>g u k' k m z
  |none=>none
 | .cons v j t,c,o,h=>by
  rw[Kds.toL]at h
  rcases aj.mp h with e|h
  ·cases e
   rw[cO,cN,gs,ja hz]<;>rfl
  ·have h0:c+j.sz<=o/\o+k'.sz<=c+j.sz+t.sz:=off3_le h
   have h1:=Ba (u:=u) (l:=l) (n:=n) hz (c:=c+j.sz) h
   rw[gs,iT (by lia),show o-c+z-j.sz=o-(c+j.sz)+z by lia]
   exact h1
theorem IL {u:Bool} {L:Kd} {n:Nat} {v:Bool} {k:Kd} {m:Nat} (h:Nn u L n v k m):∀{K:Kd} {c:Nat} {q:Nd},g u L K c (m-n)=some q->q.1=v/\q.2.1=k:=by
 induction h with
 |here=>
  intro K c q h
  rw[cO,g0]at h
  cases h
  exact⟨rfl,rfl⟩
 |@fa u a b n v k m h i=>
  intro K c q e
  have h1:=h.le
  have h2:=iR k
  rw[show m-n=(m-(n+ 1))+ 1 by lia]at e
  cases K with
  |fn a1 b1=>
   rw[g,ja (by lia)]at e
   exact i e
  |_=>simp[g]at e
 |@fb u a b n v k m h i=>
  intro K c q e
  have h1:=h.le
  have h2:=iR k
  rw[show m-n=(m-(n+ 1))+ 1 by lia]at e
  cases K with
  |fn a1 b1=>
   rw[g,iT (by lia),show m-(n+ 1)-a.sz=m-(n+ 1+a.sz) by lia]at e
   exact i e
  |_=>simp[g]at e
 |@rw u a n v k m h i=>
  intro K c q e
  have h1:=h.le
  rw[show m-n=(m-(n+ 1))+ 1 by lia]at e
  cases K with
  |row a1=>
   rw[g]at e
   exact i e
  |_=>simp[g]at e
 |@rc u l n w k1 o v k m ho h i=>
  intro K c q e
  have h1:=h.le
  have h2:=iR k
  have h3:=off3_le ho
  rw[show m-n=(o-(n+ 1)+(m-o))+ 1 by lia]at e
  cases K with
  |rcd l1=>
   rw[g,Ba (by lia) ho]at e
   split at e
   ·exact i e
   ·cases e
  |_=>simp[g]at e
 |@ch u l n w k1 o v k m ho h i=>
  intro K c q e
  have h1:=h.le
  have h2:=iR k
  have h3:=off3_le ho
  rw[show m-n=(o-(n+ 1)+(m-o))+ 1 by lia]at e
  cases K with
  |ch l1=>
   rw[g,Ba (by lia) ho]at e
   split at e
   ·exact i e
   ·cases e
  |_=>simp[g]at e
end SM.Internal
set_option maxHeartbeats 1000000
namespace SM.Internal
open PySem L2.Internal BO.Internal KK.Internal
def KN (u:Bool) (L:Kd) (n:Nat) (v:Bool) (Q:Kd->Nat->Prop):Prop:=∃k m,Nn u L n v k m/\Q k m
section
variable {u:Bool} {a b:Kd} {l:Kds} {n:Nat} {v:Bool} {Q:Kd->Nat->Prop}
theorem kn_any:KN u .any n v Q↔(u=v/\Q .any n):=⟨fun⟨k,m,h,q⟩=>by cases h;exact⟨rfl,q⟩,fun⟨e,q⟩=>by cases e;exact⟨_,_,.here,q⟩⟩
theorem yo:KN u .num n v Q↔(u=v/\Q .num n):=⟨fun⟨k,m,h,q⟩=>by cases h;exact⟨rfl,q⟩,fun⟨e,q⟩=>by cases e;exact⟨_,_,.here,q⟩⟩
theorem CH:KN u (.fn a b) n v Q↔((KN (!u) a (n+ 1) v Q\/KN u b (n+ 1+a.sz) v Q)\/(u=v/\Q (.fn a b) n)):=by
 constructor
 ·rintro⟨k,m,h,q⟩
  cases h with
  |here=>exact .inr ⟨rfl,q⟩
  |fa h=>exact .inl (.inl ⟨_,_,h,q⟩)
  |fb h=>exact .inl (.inr ⟨_,_,h,q⟩)
 ·rintro((⟨k,m,h,q⟩|⟨k,m,h,q⟩)|⟨e,q⟩)
  ·exact⟨_,_,.fa h,q⟩
  ·exact⟨_,_,.fb h,q⟩
  ·cases e;exact⟨_,_,.here,q⟩
theorem yp:KN u (.row a) n v Q↔(KN u a (n+ 1) v Q\/(u=v/\Q (.row a) n)):=by
 constructor
 ·rintro⟨k,m,h,q⟩
  cases h with
  |here=>exact .inr ⟨rfl,q⟩
  |rw h=>exact .inl ⟨_,_,h,q⟩
 ·rintro(⟨k,m,h,q⟩|⟨e,q⟩)
  ·exact⟨_,_,.rw h,q⟩
  ·cases e;exact⟨_,_,.here,q⟩
def KF (u:Bool) (l:List (Str×Kd)) (n:Nat) (v:Bool) (Q:Kd->Nat->Prop):Prop:=∃w k o,(w,k,o)∈vg l n/\KN u k o v Q
theorem yq:KN u (.rcd l) n v Q↔(KF u l.toL (n+ 1) v Q\/(u=v/\Q (.rcd l) n)):=by
 constructor
 ·rintro⟨k,m,h,q⟩
  cases h with
  |here=>exact .inr ⟨rfl,q⟩
  |rc h1 h=>exact .inl ⟨_,_,_,h1,_,_,h,q⟩
 ·rintro(⟨_,_,_,h1,k,m,h,q⟩|⟨e,q⟩)
  ·exact⟨_,_,.rc h1 h,q⟩
  ·cases e;exact⟨_,_,.here,q⟩
theorem CI:KN u (.ch l) n v Q↔(KF u l.toL (n+ 1) v Q\/(u=v/\Q (.ch l) n)):=by
 constructor
 ·rintro⟨k,m,h,q⟩
  cases h with
  |here=>exact .inr ⟨rfl,q⟩
  |ch h1 h=>exact .inl ⟨_,_,_,h1,_,_,h,q⟩
 ·rintro(⟨_,_,_,h1,k,m,h,q⟩|⟨e,q⟩)
  ·exact⟨_,_,.ch h1 h,q⟩
  ·cases e;exact⟨_,_,.here,q⟩
theorem qk {w:Str} {k:Kd} {t:List (Str×Kd)}:KF u ((w,k)::t) n v Q↔(KN u k n v Q\/KF u t (n+k.sz) v Q):=by
 constructor
 ·rintro⟨w1,k1,o,h,q⟩
  rcases aj.mp h with e|h
  ·cases e;exact .inl q
  ·exact .inr ⟨_,_,_,h,q⟩
 ·rintro(q|⟨w1,k1,o,h,q⟩)
  ·exact⟨w,k,n,ah,q⟩
  ·exact⟨w1,k1,o,ai _ h,q⟩
theorem tO:KF u [] n v Q↔False:=⟨fun⟨_,_,_,h,_⟩=>(by cases h),False.elim⟩
end
def QM (x:Mf) (p:Int) (k:Kd) (m:Nat):Prop:=x∈mkOf k m/\p=(m:Int)
def QU (y:Us) (k:Kd) (m:Nat):Prop:=y∈usOf k m
structure oS (D D':Bd) (s:Nat) (M:Mf->Int->Prop) (U:Us->Prop):Prop where
 ms:∃ms:List (Mf×Int),D'.mks=D.mks++ms.map (fun q=>mkg q.1 q.2 0)/\∀x p,(x,p)∈ms↔M x p
 us:∃us:List Us,D'.uss=D.uss++us/\∀y,y∈us↔U y
 pts:D'.pts.length=D.pts.length+s
 fls:D'.fls=D.fls
namespace oS
variable {D D1 D2:Bd} {s s1 s2:Nat} {M M1 M2:Mf->Int->Prop} {U U1 U2:Us->Prop}
theorem nil:oS D D 0 (fun _ _=>False) (fun _=>False):=⟨⟨[],by simp,by simp⟩,⟨[],by simp,by simp⟩,rfl,rfl⟩
theorem pt:oS D (ptB D) 1 (fun _ _=>False) (fun _=>False):=⟨⟨[],by simp[ptB],by simp⟩,⟨[],by simp[ptB],by simp⟩,by simp[ptB],rfl⟩
theorem app (h1:oS D D1 s1 M1 U1) (h2:oS D1 D2 s2 M2 U2):oS D D2 (s1+s2) (fun x p=>M1 x p\/M2 x p) (fun y=>U1 y\/U2 y):=by
 obtain⟨⟨m1,e1,k1⟩,⟨u1,f1,g1⟩,p1,q1⟩:=h1
 obtain⟨⟨m2,e2,k2⟩,⟨u2,f2,g2⟩,p2,q2⟩:=h2
 exact⟨⟨m1++m2,by rw[e2,e1,bB,bD],fun x p=>by rw[ak,k1,k2]⟩,⟨u1++u2,by rw[f2,f1,bD],fun y=>by rw[ak,g1,g2]⟩,by rw[p2,p1,Nat.add_assoc],q2.trans q1⟩
theorem mak (h1:oS D D1 s M U) (m:Mf) (a:Int):oS D (mkB D1 m.s m.f a) s (fun x p=>M x p\/(x=m/\p=a)) U:=by
 obtain⟨⟨m1,e1,k1⟩,⟨u1,f1,g1⟩,p1,q1⟩:=h1
 refine⟨⟨m1++[(m,a)],?_,fun x p=>by rw[ak,k1,bh,Prod.mk.injEq]⟩,⟨u1,f1,g1⟩,p1,q1⟩
 rw[bB,<-bD,<-e1]
 rfl
theorem use (h1:oS D D1 s M U) (u:Us):oS D (usB D1 u) s M (fun y=>U y\/y=u):=by
 obtain⟨⟨m1,e1,k1⟩,⟨u1,f1,g1⟩,p1,q1⟩:=h1
 refine⟨⟨m1,e1,k1⟩,⟨u1++[u],?_,fun y=>by rw[ak,g1,bh]⟩,p1,q1⟩
 rw[<-bD,<-f1]
 rfl
theorem as (h:oS D D1 s M U) (e:s=s1) (hm:∀x p,M x p↔M1 x p) (hu:∀y,U y↔U1 y):oS D D1 s1 M1 U1:=by
 obtain⟨⟨m1,e1,k1⟩,⟨u1,f1,g1⟩,p1,q1⟩:=h
 exact⟨⟨m1,e1,fun x p=>(k1 x p).trans (hm x p)⟩,⟨u1,f1,fun y=>(g1 y).trans (hu y)⟩,e▸p1,q1⟩
end oS
abbrev LyK (u:Bool) (k:Kd) (D D':Bd):Prop:=oS D D' k.sz (fun x p=>KN u k D.pts.length false (QM x p)) (fun y=>KN u k D.pts.length true (QU y))
abbrev LyF (u:Bool) (l:Kds) (D D':Bd):Prop:=oS D D' l.sz (fun x p=>KF u l.toL D.pts.length false (QM x p)) (fun y=>KF u l.toL D.pts.length true (QU y))
theorem ptL (D:Bd):(ptB D).pts.length=D.pts.length+ 1:=by simp[ptB]
mutual
theorem ql:∀(k:Kd) (D:Bd),LyK false k D (low k D)
 | .any,D=>by
  rw[low]
  exact(oS.pt.mak .any D.pts.length).as (by rw[Kd.sz]) (fun x p=>by rw[kn_any];simp[QM,mkOf]) (fun y=>by rw[kn_any];simp)
 | .num,D=>by
  rw[low]
  exact(oS.pt.mak .num D.pts.length).as (by rw[Kd.sz]) (fun x p=>by rw[yo];simp[QM,mkOf]) (fun y=>by rw[yo];simp)
 | .fn a b,D=>by
  rw[low]
  have h1:=lay_upp a (ptB D)
  have h2:=ql b (upp a (ptB D))
  have e1:=h1.pts
  rw[LyK,e1,ptL]at h2
  rw[LyK,ptL]at h1
  rw[e1,ptL]
  exact((oS.pt.app (h1.app h2)).mak (.fn _ _) D.pts.length).as (by rw[Kd.sz];lia) (fun x p=>by rw[CH];simp[QM,mkOf]) (fun y=>by rw[CH];simp)
 | .rcd l,D=>by
  rw[low]
  obtain⟨h1,e⟩:=yr l (ptB D)
  rw[ptL]at e
  rw[LyF,ptL]at h1
  rw[e]
  exact((oS.pt.app h1).mak (.rcd _) D.pts.length).as (by rw[Kd.sz];lia) (fun x p=>by rw[yq];simp[QM,mkOf]) (fun y=>by rw[yq];simp)
 | .ch l,D=>by
  rw[low]
  have h1:=yt l D.pts.length (ptB D)
  rw[ptL]at h1
  exact(oS.pt.app h1).as (by rw[Kd.sz];lia) (fun x p=>by rw[CI];simp[QM,mkOf]) (fun y=>by rw[CI];simp)
 | .row a,D=>by
  rw[low]
  have h1:=ql a (ptB D)
  rw[LyK,ptL]at h1
  rw[ptL]
  exact((oS.pt.app h1).mak (.row _) D.pts.length).as (by rw[Kd.sz];lia) (fun x p=>by rw[yp];simp[QM,mkOf]) (fun y=>by rw[yp];simp)
theorem lay_upp:∀(k:Kd) (D:Bd),LyK true k D (upp k D)
 | .any,D=>by
  rw[upp]
  exact oS.pt.as (by rw[Kd.sz]) (fun x p=>by rw[kn_any];simp) (fun y=>by rw[kn_any];simp[QU,usOf])
 | .num,D=>by
  rw[upp]
  exact(oS.pt.use _).as (by rw[Kd.sz]) (fun x p=>by rw[yo];simp) (fun y=>by rw[yo];simp[QU,usOf])
 | .fn a b,D=>by
  rw[upp]
  have h1:=ql a (ptB D)
  have h2:=lay_upp b (low a (ptB D))
  have e1:=h1.pts
  rw[LyK,e1,ptL]at h2
  rw[LyK,ptL]at h1
  rw[e1,ptL]
  exact((oS.pt.app (h1.app h2)).use _).as (by rw[Kd.sz];lia) (fun x p=>by rw[CH];simp) (fun y=>by rw[CH];simp[QU,usOf])
 | .rcd l,D=>by
  rw[upp]
  obtain⟨h1,e⟩:=uF l (ptB D)
  rw[ptL]at e
  rw[LyF,ptL]at h1
  rw[e]
  exact((oS.pt.app h1).use _).as (by rw[Kd.sz];lia) (fun x p=>by rw[yq];simp) (fun y=>by rw[yq];simp[QU,usOf])
 | .ch l,D=>by
  rw[upp]
  obtain⟨h1,e⟩:=uF l (ptB D)
  rw[ptL]at e
  rw[LyF,ptL]at h1
  rw[e]
  exact((oS.pt.app h1).use _).as (by rw[Kd.sz];lia) (fun x p=>by rw[CI];simp) (fun y=>by rw[CI];simp[QU,usOf])
 | .row a,D=>by
  rw[upp]
  have h1:=lay_upp a (ptB D)
  rw[LyK,ptL]at h1
  rw[ptL]
  exact((oS.pt.app h1).use _).as (by rw[Kd.sz];lia) (fun x p=>by rw[yp];simp) (fun y=>by rw[yp];simp[QU,usOf])
theorem yr:∀(l:Kds) (D:Bd),LyF false l D (tM l D).1/\(tM l D).2=offs l.toL D.pts.length
 | .nil,D=>by
  rw[tM,Kds.toL]
  exact⟨oS.nil.as (by rw[Kds.sz]) (fun x p=>tO.symm) (fun y=>tO.symm),rfl⟩
 | .cons w k t,D=>by
  rw[tM]
  have h1:=ql k D
  obtain⟨h2,e⟩:=yr t (low k D)
  rw[h1.pts]at e
  rw[LyF,h1.pts]at h2
  refine⟨(h1.app h2).as (by rw[Kds.sz]) (fun x p=>by rw[Kds.toL,qk]) (fun y=>by rw[Kds.toL,qk]),?_⟩
  rw[e,Kds.toL]
  rfl
theorem uF:∀(l:Kds) (D:Bd),LyF true l D (qN l D).1/\(qN l D).2=offs l.toL D.pts.length
 | .nil,D=>by
  rw[qN,Kds.toL]
  exact⟨oS.nil.as (by rw[Kds.sz]) (fun x p=>tO.symm) (fun y=>tO.symm),rfl⟩
 | .cons w k t,D=>by
  rw[qN]
  have h1:=lay_upp k D
  obtain⟨h2,e⟩:=uF t (upp k D)
  rw[h1.pts]at e
  rw[LyF,h1.pts]at h2
  refine⟨(h1.app h2).as (by rw[Kds.sz]) (fun x p=>by rw[Kds.toL,qk]) (fun y=>by rw[Kds.toL,qk]),?_⟩
  rw[e,Kds.toL]
  rfl
theorem yt:∀(l:Kds) (a:Int) (D:Bd),oS D (yi l a D) l.sz (fun x p=>KF false l.toL D.pts.length false (QM x p)\/(x∈(vg l.toL D.pts.length).map (fun q=>Mf.tag q.1 (q.2.2:Int))/\p=a)) (fun y=>KF false l.toL D.pts.length true (QU y))
 | .nil,a,D=>by
  rw[yi,Kds.toL]
  exact oS.nil.as (by rw[Kds.sz]) (fun x p=>by rw[tO];simp[vg]) (fun y=>tO.symm)
 | .cons w k t,a,D=>by
  rw[yi]
  have h1:=(ql k D).mak (.tag w D.pts.length) a
  have h2:=yt t a (mkB (low k D) "tag" (.tup [sD w,iD D.pts.length]) a)
  have e:(mkB (low k D) "tag" (.tup [sD w,iD D.pts.length]) a).pts.length=D.pts.length+k.sz:=(ql k D).pts
  rw[e]at h2
  refine(h1.app h2).as (by rw[Kds.sz]) (fun x p=>?_) (fun y=>by rw[Kds.toL,qk])
  rw[Kds.toL,qk,vg,aD,aj]
  constructor
  ·rintro((h|h)|(h|h))
   ·exact .inl (.inl h)
   ·exact .inr ⟨.inl h.1,h.2⟩
   ·exact .inl (.inr h)
   ·exact .inr ⟨.inr h.1,h.2⟩
  ·rintro((h|h)|⟨h|h,e⟩)
   ·exact .inl (.inl h)
   ·exact .inr (.inl h)
   ·exact .inl (.inr ⟨h,e⟩)
   ·exact .inr (.inr ⟨h,e⟩)
end
end SM.Internal
set_option maxHeartbeats 1000000
namespace SM.Internal
open PySem L2.Internal BO.Internal KK.Internal
def pIn (N p:Int):Prop:=0<=p/\p<N
def mIn (N:Int):Mf->Prop
 | .fn a b=>pIn N a/\pIn N b
 | .rcd l=>∀q∈l,pIn N q.2
 | .tag _ a=>pIn N a
 | .row a=>pIn N a
 |_=>True
def uIn (N:Int):Us->Prop
 | .num a _ _=>pIn N a
 | .call a _ _ x y=>pIn N a/\pIn N x/\pIn N y
 | .take a _ _ l=>pIn N a/\∀q∈l,pIn N q.2
 | .case a _ _ l=>pIn N a/\∀q∈l,pIn N q.2
 | .row a _ _ y=>pIn N a/\pIn N y
theorem Fg:∀{l:List (Str×Int)} {w:Str} {i:Int},lk l w=some i->(w,i)∈l
 |p::t,w,i,h=>by
  rw[lk]at h
  by_cases e:p.1=w
  ·rw[ja e]at h;cases h;rw[<-e];exact ah
  ·rw[iT e]at h;exact ai _ (Fg h)
section
variable {f:Int->Option Int} {N:Int} (hf:∀p,pIn N p->f p=some p)
include hf
theorem Fh {x:Mf} (h:mIn N x):Sh f x x:=by
 cases x with
 |num=>trivial
 |any=>trivial
 |fn a b=>exact⟨hf _ h.1,hf _ h.2⟩
 |rcd l=>exact fun w i e=>⟨i,e,hf _ (h _ (Fg e))⟩
 |tag w a=>exact⟨rfl,hf _ h⟩
 |row a=>exact hf _ h
theorem Fi {u:Us} (h:uIn N u):Su f u u:=by
 cases u with
 |num=>trivial
 |call a p s x y=>exact⟨hf _ h.2.1,hf _ h.2.2⟩
 |take a p s l=>exact fun q hq=>⟨q.2,hq,hf _ (h.2 _ hq)⟩
 |case a p s l=>exact fun w i e=>⟨i,e,hf _ (h.2 _ (Fg e))⟩
 |row a p s y=>exact hf _ h.2
end
theorem uIn.at {N:Int} {u:Us} (h:uIn N u):pIn N (uat u):=by
 cases u with
 |num=>exact h
 |_=>exact h.1
theorem G4 {k:Kd} {m:Nat} {u:Us} (h:u∈usOf k m):uat u=(m:Int):=by
 cases k with
 |any=>cases h
 |_=>obtain rfl:=bh.mp h;rfl
theorem Fj {u:Bool} {L:Kd} {n:Nat} {v:Bool} {k:Kd} {m:Nat} (h:Nn u L n v k m):L.ok->∀c,∃c',g u L L c (m-n)=some (v,k,k,c'):=by
 induction h with
 |here=>exact fun _ c=>⟨c,by rw[cO,g0]⟩
 |@fa u a b n v k m h i=>
  intro ok c
  rw[Kd.ok]at ok
  have h1:=h.le
  have h2:=iR k
  rw[show m-n=(m-(n+ 1))+ 1 by lia,g,ja (by lia)]
  exact i ok.1 _
 |@fb u a b n v k m h i=>
  intro ok c
  rw[Kd.ok]at ok
  have h1:=h.le
  have h2:=iR k
  rw[show m-n=(m-(n+ 1))+ 1 by lia,g,iT (by lia),show m-(n+ 1)-a.sz=m-(n+ 1+a.sz) by lia]
  exact i ok.2 _
 |@rw u a n v k m h i=>
  intro ok c
  rw[Kd.ok]at ok
  have h1:=h.le
  rw[show m-n=(m-(n+ 1))+ 1 by lia,g]
  exact i ok _
 |@rc u l n w k1 o v k m ho h i=>
  intro ok c
  rw[Kd.ok]at ok
  have h1:=h.le
  have h2:=iR k
  have h3:=off3_le ho
  rw[show m-n=(o-(n+ 1)+(m-o))+ 1 by lia,g,Ba (by lia) ho]
  have e:=rG ok.2.1 (off3_mem ho)
  obtain⟨o2,e2⟩:=zo (c+ 1) e
  rw[e2]
  exact i ((lM l).mp ok.1 _ (off3_mem ho)) _
 |@ch u l n w k1 o v k m ho h i=>
  intro ok c
  rw[Kd.ok]at ok
  have h1:=h.le
  have h2:=iR k
  have h3:=off3_le ho
  rw[show m-n=(o-(n+ 1)+(m-o))+ 1 by lia,g,Ba (by lia) ho]
  have e:=rG ok.2.1 (off3_mem ho)
  obtain⟨o2,e2⟩:=zo (c+ 1) e
  rw[e2]
  exact i ((lM l).mp ok.1 _ (off3_mem ho)) _
def fp (L K:Kd) (n:Nat) (p:Int):Option Int:=if p<(n:Int)then some p else(g true L K n (p-n).toNat).map fun q=>(q.2.2.2:Int)
theorem G5 {L K:Kd} {n m:Nat} (h:n<=m) {p:Int} (e:fp L K n (m:Int)=some p):∃q,g true L K n (m-n)=some q/\p=(q.2.2.2:Int):=by
 rw[fp,iT (by lia),show((m:Int)-(n:Int)).toNat=m-n by lia]at e
 cases z:g true L K n (m-n)with
 |none=>rw[z]at e;cases e
 |some q=>rw[z]at e;cases e;exact⟨q,rfl,rfl⟩
theorem G6 {L K:Kd} {n m:Nat} (h:n<=m) {v:Bool} {k k1:Kd} {c:Nat} (e:g true L K n (m-n)=some (v,k,k1,c)):Kn (fp L K n) v k k1 m c:=fun z q hz ez=>by
 have:=(vT L e).2 z hz
 rw[fp,iT (by lia),show(((m+z:Nat):Int)-(n:Int)).toNat=m-n+z by lia,this,ez]
 rfl
theorem goes_on {n:Nat} {L K:Kd} (hL:L.ok) (hK:K.ok) (le:Le K L) {PM:Mf->Int->Prop} {PU:Us->Prop} {PF:Int->Int->Prop} (hn:0<n) (hM:∀x p,PM x p->mIn n x/\pIn n p) (hU:∀u,PU u->uIn n u) (hF:∀p q,PF p q->pIn n p/\pIn n q)
  {M:Kd->Mf->Int->Prop} (eM:∀k x p,M k x p↔(PM x p\/KN true k n false (QM x p))) {U:Kd->Us->Prop} (eU:∀k u,U k u↔(PU u\/KN true k n true (QU u))) {F:Int->Int->Prop} (eF:∀p q,F p q↔(PF p q\/(p=0/\q=(n:Int)))):
  Sim (M L) (U L) F (M K) (U K) F (fp L K n) (Sh (fp L K n)):=by
 have hf:∀p,pIn n p->fp L K n p=some p:=fun p h=>ja h.2
 have r0:Rel true L K:=le
 refine⟨fun{p' q'} h=>?_,fun{x' p' p} h e=>?_,fun{x' u'} h1 h2=>?_,fun{u' p x' x} h1 h2 h3 h4=>?_⟩
 ·rcases(eF _ _).mp h with h|⟨rfl,rfl⟩
  ·have:=hF _ _ h
   exact⟨_,_,hf _ this.1,hf _ this.2,(eF _ _).mpr (.inl h)⟩
  ·refine⟨0,n,hf 0 ⟨by lia,by lia⟩,?_,(eF _ _).mpr (.inr ⟨rfl,rfl⟩)⟩
   rw[fp,iT (by lia),Int.sub_self]
   show(g true L K n 0).map _=_
   rw[g0]
   rfl
 ·rcases(eM _ _ _).mp h with h|⟨k,m,hk,hx,rfl⟩
  ·have:=hM _ _ h
   cases(hf _ this.2).symm.trans e
   exact⟨x',Fh hf this.1,(eM _ _ _).mpr (.inl h)⟩
  ·have l:=hk.le.1
   obtain⟨⟨v,k1,k2,c⟩,e1,rfl⟩:=G5 l e
   obtain⟨rfl,rfl⟩:=IL hk e1
   obtain⟨_,_,r⟩:=zk L hL hK r0 e1
   obtain⟨x,hx2,s⟩:=Fb r (G6 l e1) x' hx
   exact⟨x,s,(eM _ _ _).mpr (.inr ⟨k2,c,Gg L e1,hx2,rfl⟩)⟩
 ·rcases(eU _ _).mp h1 with h|⟨k,m,h,hx⟩
  ·exact⟨_,hf _ (hU _ h).at⟩
  ·have l:=h.le.1
   rw[G4 hx]at h2⊢
   rcases(eM _ _ _).mp h2 with h'|⟨k',m',h',_,e⟩
   ·have:=(hM _ _ h').2.2
    lia
   ·obtain rfl:m=m':=by lia
    obtain⟨c,z⟩:=Fj h hL n
    cases(IL h' z).1
 ·rcases(eU _ _).mp h1 with h|⟨k,m,h,hx⟩
  ·have:=hU _ h
   cases(hf _ this.at).symm.trans h2
   exact UR.me ⟨u',(eU _ _).mpr (.inl h),rfl,.inl (Fi hf this)⟩ h3 h4
  ·have l:=h.le.1
   rw[G4 hx]at h2
   obtain⟨⟨v,k1,k2,c⟩,e1,rfl⟩:=G5 l h2
   obtain⟨rfl,rfl⟩:=IL h e1
   obtain⟨_,_,r⟩:=zk L hL hK r0 e1
   obtain⟨u,hu,ha,s⟩:=Fc r (G6 l e1) u' hx
   exact UR.me ⟨u,(eU _ _).mpr (.inr ⟨k2,c,Gg L e1,hu⟩),ha,s⟩ h3 h4
end SM.Internal
namespace K56.Internal
open PySem L2.Internal
theorem l0 {P:List fQ->Prop} (h:P []):∀us:List fQ,us.length=0->P us:=fun us e=>by rw[bU e];exact h
theorem lS {n:Nat} {P:List fQ->Prop} (h:∀a,∀us:List fQ,us.length=n->P (a::us)):∀us:List fQ,us.length=n+ 1->P us:=fun us e=>by
 cases us with
 |nil=>cases e
 |cons a t=>exact h a t (Nat.succ.inj e)
def top (i:Nat):gR:=PySem.Challenge.pw_flowkinds_k56_bears_goes_on.main.body.getD i (.Pass ⟨0,0,0,0⟩)
variable {K:PySem.W.Frag} {mg:Str->Option fQ} {n q:Str} {st:gR} {ps:List Str} {C:fO} {h:Heap}
inductive Fm (K:PySem.W.Frag) (n:Str) (st:gR):Prop
 |mk {f:fO} {od an:Option fO} {sl:Array (Option fQ)} {oc kV dc pm cd ct:fQ} (a:dW K gr n=some (some (.ref f))) (l:K.lookup f=some ⟨oc,od,.func (dR n n (mG st) (lG st) (iB st) .none kV dc pm an cd ct),sl⟩) (c:dS K cd n=true) (k:dE K (.ref f)=true)
inductive Mm (K:PySem.W.Frag) (C:fO) (n q:Str) (st:gR):Prop
 |mk {f:fO} {od an:Option fO} {sl:Array (Option fQ)} {oc kV dc pm cd ct:fQ} (i:dq K (.ref C) n=some (some (.ref f))) (j:dt K (.ref f)=true) (l:K.lookup f=some ⟨oc,od,.func (dR n q (mG st) (lG st) (iB st) .none kV dc pm an cd ct),sl⟩) (c:dS K cd q=true) (k:dE K (.ref f)=true)
structure Cm (K:PySem.W.Frag) (n:Str) (C:fO):Prop where
 a:dW K gr n=some (some (.ref C))
 pg:di K C Str.empty=true
 hd:dj K C=true
 po:dw K C=true
 sa:dq K (.ref C) "__setattr__"=some (some (.builtin "object.__setattr__"))
 t1:dq K (.ref C) "__class__"=some (some (.builtin "object.__class__"))
 t2:dD K (.builtin "object.__class__") "__get__"=some (some (.builtin "getset_descriptor.__get__"))
 t3:PySem.W.takesIn K (.builtin "object.__class__")=some true
 t4:PySem.W.mroIn K C (.type "object")=some true
 ms:dB K C=true
 kc:dE K (.ref C)=true
structure Fx (K:PySem.W.Frag) (mg:Str->Option fQ) (n:Str) (st:gR) (ps:List Str) where
 a:fO
 fd:gu
 F:Fun K n n st a fd
 b:qK K fd ps []
 m:mg n=some (.ref a)
 k:dE K (.ref a)=true
structure Mx (K:PySem.W.Frag) (C:fO) (n q:Str) (st:gR) (ps:List Str) where
 a:fO
 fd:gu
 F:Fun K n q st a fd
 b:qK K fd ps []
 me:Ii K C n a
structure Ck (K:PySem.W.Frag) (mg:Str->Option fQ) (n:Str) where
 a:fO
 m:mg n=some (.ref a)
 cl:Cls K a
 ty:∀(H:Hp) (x dx:fO) (fs:List (Str×V)),H x=some (.ins a dx fs)->wy K H (.ref x) (.ref a)
def Bf (n q:Str) (st:gR) (ps:List Str):Prop:=∀(kV doc pm:fQ) (an:Option fO) (cdv ct:fQ) (us:List fQ),us.length=ps.length->bindArgs (dR n q (mG st) (lG st) (iB st) .none kV doc pm an cdv ct) ⟨us,[]⟩=pure (ps.zip us)
def Fm.x (X:K.In h) (G:h.Ns gr mg) (a:Fm K n st) (hb:Bf n n st ps:=by intro _ _ _ _ _ _;repeat(first|exact l0 rfl|refine lS fun _=>?_)):Fx K mg n st ps:=Classical.choice (by
 obtain⟨a,l,c,k⟩:=a
 exact⟨⟨_,_,vy l c k,(vy l c k).binds hb,dX X G a,k⟩⟩)
def Mm.x (a:Mm K C n q st) (hb:Bf n q st ps:=by intro _ _ _ _ _ _;repeat(first|exact l0 rfl|refine lS fun _=>?_)):Mx K C n q st ps:=Classical.choice (by
 obtain⟨i,j,l,c,k⟩:=a
 exact⟨⟨_,_,vy l c k,(vy l c k).binds hb,⟨i,j,k⟩⟩⟩)
def Cm.x (X:K.In h) (G:h.Ns gr mg) (a:Cm K n C):Ck K mg n:=⟨C,dX X G a.a,⟨a.pg,a.hd,a.po,a.sa⟩,fun _ _ _ _ e=> .ins e ⟨a.pg,a.hd,a.po,a.sa⟩ a.t1 a.t2 a.t3 a.t4⟩
theorem sf {x:Option (Option fQ)} {a b:fO} (h1:x=some (some (.ref a))) (h2:x=some (some (.ref b))):a=b:=by rw[h1]at h2;cases h2;rfl
theorem Cm.k (a:Cm K n C) (x:Mx K C "__init__" q st ps):Mk K C x.a:=⟨a.ms,x.me.at_,x.me.fn,a.kc⟩
abbrev FO (P:f9) (w:gm) (base:Heap) (k:Nat) (x:Fx K mg n st ps) (sp:Sp):Prop:=vf P w K mg base CX0 k x.a x.fd ps sp
abbrev MO (P:f9) (w:gm) (base:Heap) (mg:Str->Option fQ) (k:Nat) (x:Mx K C n q st ps) (sp:Sp):Prop:=vf P w K mg base CX0 k x.a x.fd ps sp
abbrev lN:gR:=top 10
abbrev uG:gR:=top 13
abbrev nG:gR:=top 14
abbrev nH:gR:=top 15
abbrev qm:gR:=top 16
abbrev mI:gR:=top 17
abbrev rN:gR:=top 20
abbrev wZ:gR:=top 23
abbrev w4:gR:=top 24
abbrev uH:gR:=top 25
abbrev w6:gR:=top 26
abbrev nJ:gR:=top 28
abbrev nK:gR:=top 29
abbrev qo:gR:=top 30
abbrev oT:gR:=top 31
abbrev qp:gR:=top 32
abbrev mJ:gR:=top 33
abbrev oU:gR:=top 34
abbrev mm:gR:=top 35
abbrev lO:gR:=top 36
abbrev mK:gR:=top 37
abbrev nM:gR:=top 38
abbrev nN:gR:=top 39
abbrev lP:gR:=top 40
abbrev mn:gR:=top 41
abbrev nO:gR:=top 42
abbrev nQ:gR:=top 43
abbrev uI:gR:=top 44
abbrev lQ:gR:=jr (top 2) 0
abbrev kR:gR:=jr (top 3) 0
abbrev nR:gR:=jr (top 4) 0
abbrev kz:gR:=jr (top 5) 0
abbrev mL:gR:=jr (top 5) 1
abbrev kA:gR:=jr (top 6) 0
abbrev lA:gR:=jr (top 6) 1
abbrev kB:gR:=jr (top 7) 0
abbrev lB:gR:=jr (top 7) 1
abbrev kK:gR:=jr (top 8) 0
abbrev nS:gR:=jr (top 8) 1
abbrev kZ:gR:=jr (top 9) 0
abbrev mM:gR:=jr (top 9) 1
abbrev nT:gR:=jr (top 9) 2
abbrev oV:gR:=jr (top 9) 3
abbrev nU:gR:=jr (top 9) 4
abbrev lg:gR:=jr (top 12) 0
abbrev mq:gR:=jr (top 19) 0
abbrev ko:gR:=jr (top 21) 0
abbrev mr:gR:=jr (top 21) 1
abbrev lR:gR:=jr (top 21) 2
abbrev j4:gR:=jr (top 21) 3
abbrev j5:gR:=jr (top 21) 4
abbrev j6:gR:=jr (top 21) 5
abbrev j7:gR:=jr (top 21) 6
theorem scK {N ps:List Str} {s:gQ} (h:iL N ps s:=by constructor<;>first|rfl|decide+kernel):iL N ps s:=h
set_option genInjectivity false in
set_option genSizeOf false in
structure Txt (K:PySem.W.Frag) (mg:Str->Option fQ) where
 d1:Fx K mg "uses_by_point" lN ["board"]
 d2:Fx K mg "pasted" uG ["board","paper","place"]
 d3:Fx K mg "new_points" nG ["board","count","place"]
 d4:Fx K mg "parts_made" nH ["making","outs","ins"]
 d5:Fx K mg "use_made" qm ["one","at","place","outs","ins"]
 d6:Fx K mg "with_points" mI ["pairs","points"]
 d7:Fx K mg "settled" rN ["board"]
 d8:Fx K mg "lower" wZ ["board","kind"]
 d9:Fx K mg "upper" w4 ["board","kind"]
 d10:Fx K mg "uppers" uH ["board","members"]
 d11:Fx K mg "bears" w6 ["paper","kind"]
 d12:Fx K mg "_law_words" nJ ["_law_cell"]
 d13:Fx K mg "_law_alike" nK ["_law_found","_law_due"]
 d14:Fx K mg "_law_mix" qo ["_law_cell","_law_k"]
 d15:Fx K mg "_law_leaf" oT ["_law_c"]
 d16:Fx K mg "_law_pop" qp ["_law_stack"]
 d17:Fx K mg "_law_fields" mJ ["_law_words_here","_law_stack","_law_shape","_law_c"]
 d18:Fx K mg "_law_knit" oU ["_law_words_here","_law_stack","_law_c"]
 d19:Fx K mg "_law_triples" mm ["_law_words_here","_law_cells","_law_nest","_law_size"]
 d20:Fx K mg "_law_words_by" lO ["_law_words_here","_law_c","_law_many","_law_size"]
 d21:Fx K mg "_law_making" mK ["_law_words_here","_law_c","_law_outs","_law_ins"]
 d22:Fx K mg "_law_using" nM ["_law_words_here","_law_c","_law_outs","_law_ins"]
 d23:Fx K mg "_law_paper" nN ["_law_words_here","_law_first","_law_cells"]
 d24:Fx K mg "_law_kind_out" lP ["_law_paper_here","_law_at","_law_deep"]
 d25:Fx K mg "_law_kind_in" mn ["_law_paper_here","_law_at","_law_deep"]
 d26:Fx K mg "_law_wider" nO ["_law_kind","_law_c","_law_side"]
 d27:Fx K mg "_law_below" nQ ["_law_one","_law_other"]
 c1:Ck K mg "Make"
 n1shape:iU K c1.a "shape"
 n1parts:iU K c1.a "parts"
 n1at:iU K c1.a "at"
 n1place:iU K c1.a "place"
 e28:Mx K c1.a "__init__" "Make.__init__" lQ ["self","shape","parts","at","place"]
 mk1:Mk K c1.a e28.a
 c2:Ck K mg "Use"
 n2at:iU K c2.a "at"
 n2place:iU K c2.a "place"
 n2slot:iU K c2.a "slot"
 e29:Mx K c2.a "__init__" "Use.__init__" kR ["self","at","place","slot"]
 cm29:JE K c2.a "__init__" e29.a
 mk2:Mk K c2.a e29.a
 c3:Ck K mg "NumUse"
 n3at:iU K c3.a "at"
 n3place:iU K c3.a "place"
 n3slot:iU K c3.a "slot"
 e30:Mx K c3.a "met" "NumUse.met" nR ["self","make"]
 mk3:Mk K c3.a e29.a
 c4:Ck K mg "CallUse"
 n4arg:iU K c4.a "arg"
 n4out:iU K c4.a "out"
 n4at:iU K c4.a "at"
 n4place:iU K c4.a "place"
 n4slot:iU K c4.a "slot"
 e31:Mx K c4.a "__init__" "CallUse.__init__" kz ["self","at","place","slot","arg","out"]
 mk4:Mk K c4.a e31.a
 e32:Mx K c4.a "met" "CallUse.met" mL ["self","make"]
 c5:Ck K mg "TakeUse"
 n5fields:iU K c5.a "fields"
 n5at:iU K c5.a "at"
 n5place:iU K c5.a "place"
 n5slot:iU K c5.a "slot"
 e33:Mx K c5.a "__init__" "TakeUse.__init__" kA ["self","at","place","slot","fields"]
 mk5:Mk K c5.a e33.a
 e34:Mx K c5.a "met" "TakeUse.met" lA ["self","make"]
 c6:Ck K mg "CaseUse"
 n6arms:iU K c6.a "arms"
 n6at:iU K c6.a "at"
 n6place:iU K c6.a "place"
 n6slot:iU K c6.a "slot"
 e35:Mx K c6.a "__init__" "CaseUse.__init__" kB ["self","at","place","slot","arms"]
 mk6:Mk K c6.a e35.a
 e36:Mx K c6.a "met" "CaseUse.met" lB ["self","make"]
 c7:Ck K mg "RowUse"
 n7out:iU K c7.a "out"
 n7at:iU K c7.a "at"
 n7place:iU K c7.a "place"
 n7slot:iU K c7.a "slot"
 e37:Mx K c7.a "__init__" "RowUse.__init__" kK ["self","at","place","slot","out"]
 mk7:Mk K c7.a e37.a
 e38:Mx K c7.a "met" "RowUse.met" nS ["self","make"]
 c8:Ck K mg "Board"
 n8points:iU K c8.a "points"
 n8makes:iU K c8.a "makes"
 n8uses:iU K c8.a "uses"
 n8flows:iU K c8.a "flows"
 n8root:iU K c8.a "root"
 e39:Mx K c8.a "__init__" "Board.__init__" kZ ["self"]
 mk8:Mk K c8.a e39.a
 e40:Mx K c8.a "point" "Board.point" mM ["self","place"]
 e41:Mx K c8.a "make" "Board.make" nT ["self","shape","parts","at","place"]
 e42:Mx K c8.a "use" "Board.use" oV ["self","one"]
 e43:Mx K c8.a "flow" "Board.flow" nU ["self","p","q"]
 c9:Ck K mg "Paper"
 n9outs:iU K c9.a "outs"
 n9ins:iU K c9.a "ins"
 n9flows:iU K c9.a "flows"
 e44:Mx K c9.a "__init__" "Paper.__init__" lg ["self","outs","ins","flows"]
 mk9:Mk K c9.a e44.a
 c10:Ck K mg "Log"
 n10rows:iU K c10.a "rows"
 n10bads:iU K c10.a "bads"
 e45:Mx K c10.a "__init__" "Log.__init__" mq ["self","rows","bads"]
 mk10:Mk K c10.a e45.a
 c11:Ck K mg "Settling"
 n11board:iU K c11.a "board"
 n11uses_at:iU K c11.a "uses_at"
 n11rows:iU K c11.a "rows"
 n11bads:iU K c11.a "bads"
 n11known:iU K c11.a "known"
 n11goes:iU K c11.a "goes"
 n11heres:iU K c11.a "heres"
 e46:Mx K c11.a "__init__" "Settling.__init__" ko ["self","board"]
 mk11:Mk K c11.a e46.a
 e47:Mx K c11.a "put" "Settling.put" mr ["self","word","first","second","why"]
 e48:Mx K c11.a "work" "Settling.work" lR ["self","number"]
 e49:Mx K c11.a "work_goes" "Settling.work_goes" j4 ["self","number","p","q"]
 e50:Mx K c11.a "work_uses" "Settling.work_uses" j5 ["self","number","m","p"]
 e51:Mx K c11.a "put_flows" "Settling.put_flows" j6 ["self","flows","why"]
 e52:Mx K c11.a "work_here" "Settling.work_here" j7 ["self","number","m","p"]
 z_all:mg "all"=none
 z_bool:mg "bool"=none
 z_dict:mg "dict"=none
 z_enumerate:mg "enumerate"=none
 z_int:mg "int"=none
 z_isinstance:mg "isinstance"=none
 z_len:mg "len"=none
 z_list:mg "list"=none
 z_max:mg "max"=none
 z_range:mg "range"=none
 z_sorted:mg "sorted"=none
 z_str:mg "str"=none
 z_sum:mg "sum"=none
 z_tuple:mg "tuple"=none
 z_zip:mg "zip"=none
theorem kj:iL ["board","found","number","one"] ["board"] (iB lN):=scK
theorem j8:iL ["board","paper","place","outs","ins","at","makings","making","uses","one","flow"] ["board","paper","place"] (iB uG):=scK
theorem mN:iL ["board","count","place","points","number"] ["board","count","place"] (iB nG):=scK
theorem uJ:iL ["making","outs","ins"] ["making","outs","ins"] (iB nH):=scK
theorem w8:iL ["one","at","place","outs","ins"] ["one","at","place","outs","ins"] (iB qm):=scK
theorem sI:iL ["pairs","points"] ["pairs","points"] (iB mI):=scK
theorem kM:iL ["board","settling","flow","number","make","worked"] ["board"] (iB rN):=scK
theorem pM:iL ["board","kind","at","arg","arm"] ["board","kind"] (iB wZ):=scK
theorem qY:iL ["board","kind","at","arg"] ["board","kind"] (iB w4):=scK
theorem Bb:iL ["board","members"] ["board","members"] (iB uH):=scK
theorem uK:iL ["paper","kind","board","root"] ["paper","kind"] (iB w6):=scK
theorem kC:iL ["_law_cell","_law_signs","_law_stem","_law_at"] ["_law_cell"] (iB nJ):=scK
theorem pO:iL ["_law_found","_law_due"] ["_law_found","_law_due"] (iB nK):=scK
theorem xa:iL ["_law_cell","_law_k"] ["_law_cell","_law_k"] (iB qo):=scK
theorem nV:iL ["_law_c","_law_least","_law_rows"] ["_law_c"] (iB oT):=scK
theorem xc:iL ["_law_stack"] ["_law_stack"] (iB qp):=scK
theorem je:iL ["_law_words_here","_law_stack","_law_shape","_law_c","_law_chosen","_law_parts","_law_rows","_law_k","_law_word","_law_level","_law_j","_law_side","_law_nest"] ["_law_words_here","_law_stack","_law_shape","_law_c"] (iB mJ):=scK
theorem kr:iL ["_law_words_here","_law_stack","_law_c","_law_op","_law_one","_law_other","_law_kinds","_law_part"] ["_law_words_here","_law_stack","_law_c"] (iB oU):=scK
theorem jC:iL ["_law_words_here","_law_cells","_law_nest","_law_size","_law_stack","_law_cell","_law_c","_law_new"] ["_law_words_here","_law_cells","_law_nest","_law_size"] (iB mm):=scK
theorem lh:iL ["_law_words_here","_law_c","_law_many","_law_size","_law_held","_law_k"] ["_law_words_here","_law_c","_law_many","_law_size"] (iB lO):=scK
theorem mw:iL ["_law_words_here","_law_c","_law_outs","_law_ins","_law_shape","_law_one"] ["_law_words_here","_law_c","_law_outs","_law_ins"] (iB mK):=scK
theorem mO:iL ["_law_words_here","_law_c","_law_outs","_law_ins","_law_shape","_law_one"] ["_law_words_here","_law_c","_law_outs","_law_ins"] (iB nM):=scK
theorem jb:iL ["_law_words_here","_law_first","_law_cells","_law_outs","_law_ins","_law_flows","_law_cell","_law_c","_law_side","_law_one"] ["_law_words_here","_law_first","_law_cells"] (iB nN):=scK
theorem jw:iL ["_law_paper_here","_law_at","_law_deep","_law_made","_law_one","_law_held","_law_tag"] ["_law_paper_here","_law_at","_law_deep"] (iB lP):=scK
theorem jW:iL ["_law_paper_here","_law_at","_law_deep","_law_used","_law_one","_law_parts"] ["_law_paper_here","_law_at","_law_deep"] (iB mn):=scK
theorem kD:iL ["_law_kind","_law_c","_law_side","_law_cut","_law_parts"] ["_law_kind","_law_c","_law_side"] (iB nO):=scK
theorem jo:iL ["_law_one","_law_other","_law_todo","_law_pair","_law_less","_law_more","_law_wanted","_law_there"] ["_law_one","_law_other"] (iB nQ):=scK
theorem mX:iL ["_law_script","_law_first","_law_words_here","_law_drawn","_law_paper_here","_law_kind","_law_wider_here","_law_rows","_law_kinds","_law_found","_law_k","_law_n"] ["_law_script"] (iB uI):=scK
theorem qO:iL ["self","shape","parts","at","place"] ["self","shape","parts","at","place"] (iB lQ):=scK
theorem rO:iL ["self","at","place","slot"] ["self","at","place","slot"] (iB kR):=scK
theorem uL:iL ["self","make"] ["self","make"] (iB nR):=scK
theorem oW:iL ["self","at","place","slot","arg","out"] ["self","at","place","slot","arg","out"] (iB kz):=scK
theorem sJ:iL ["self","make"] ["self","make"] (iB mL):=scK
theorem oX:iL ["self","at","place","slot","fields"] ["self","at","place","slot","fields"] (iB kA):=scK
theorem kS:iL ["self","make","made","flows","field"] ["self","make"] (iB lA):=scK
theorem oY:iL ["self","at","place","slot","arms"] ["self","at","place","slot","arms"] (iB kB):=scK
theorem oJ:iL ["self","make","arms"] ["self","make"] (iB lB):=scK
theorem pP:iL ["self","at","place","slot","out"] ["self","at","place","slot","out"] (iB kK):=scK
theorem uM:iL ["self","make"] ["self","make"] (iB nS):=scK
theorem qr:iL ["self"] ["self"] (iB kZ):=scK
theorem sL:iL ["self","place"] ["self","place"] (iB mM):=scK
theorem uN:iL ["self","shape","parts","at","place"] ["self","shape","parts","at","place"] (iB nT):=scK
theorem vU:iL ["self","one"] ["self","one"] (iB oV):=scK
theorem uO:iL ["self","p","q"] ["self","p","q"] (iB nU):=scK
theorem qt:iL ["self","outs","ins","flows"] ["self","outs","ins","flows"] (iB lg):=scK
theorem rP:iL ["self","rows","bads"] ["self","rows","bads"] (iB mq):=scK
theorem oB:iL ["self","board"] ["self","board"] (iB ko):=scK
theorem nW:iL ["self","word","first","second","why","beginning"] ["self","word","first","second","why"] (iB mr):=scK
theorem mY:iL ["self","number","row"] ["self","number"] (iB lR):=scK
theorem kU:iL ["self","number","p","q","here"] ["self","number","p","q"] (iB j4):=scK
theorem jX:iL ["self","number","m","p","u","flows"] ["self","number","m","p"] (iB j5):=scK
theorem kW:iL ["self","flows","why","flow"] ["self","flows","why"] (iB j6):=scK
theorem kX:iL ["self","number","m","p","going"] ["self","number","m","p"] (iB j7):=scK
def yu (K:PySem.W.Frag):Sp:=fun vs H Q _=>∃(a:fO) (ns:List Int),vs=[.ref a]/\SqL K H a (ns.map V.int)/\ns.length<=63/\∀H',Q (.bl true) H'
theorem _root_.L2.Internal.Fun.rd {P:f9} {w:gm} {base:Heap} {f:fO} {fd:gu} {N:List Str} {k:Nat} {sp:Sp} (F:Fun K n q st f fd) (S:iL N ps (iB st)) (hbody:∀(cdv:fQ) (A:gf) (outer:List Env) (s:fR) (H:Hp) (vs:List V) (Q:VK) (E:XK),ou k (A.deeper (fN q (iB st) s.heap.objs.size f cdv))->sp vs H Q E->∃t,PSs (EG CX0 P w K mg base N q (iB st) f cdv A outer s H E).nox (lG st) t/\t {nx:=fun _ H'=>Q .non H',rt:=Q} (tY N vs) H) (len:∀vs H Q E,sp vs H Q E->vs.length=ps.length:=by intro _ _ _ _ h;repeat(first|(obtain⟨rfl,_⟩:=h;rfl)|(cases h;rename_i h))):vf P w K mg base CX0 (k+ 1) f fd ps sp:=F.ok S len hbody
section
variable {X:Cx}
theorem pF {e:gS} {es:List gS} {pos p:Pos} {k:Nat} {sp:Sp} {t:TA} (x:Fx X.K X.mg n st ps) (F:vf X.prog X.w X.K X.mg X.base CX0 k x.a x.fd ps sp) (hr:ou k X.A) (ha:PA X (e::es) t) (hg:Gl X n:=by exact rfl) (hdb:autoParam ((n==("__debug__":Str))=false) L2.Internal.auD._auto_1) (he:autoParam (gn (e::es) X.env=(false,eval e X.env)::gn es X.env) L2.Internal.auR._auto_1) (hpl:autoParam ((gN pos (gn es X.env)).any (·.1)=false) L2.Internal.auR._auto_1):PE X (.Call (.Name n p) (e::es) [] pos) (Ce sp [] E0 t):=EF F hr hg x.m x.k x.b .nil jq ha hdb he hpl
theorem pS {i:Nat} {x:Str} {e:gS} {te:TE} {pos pos':Pos} (hN:X.N.Nodup) (he:PE X e te) (hi:autoParam (X.N[i]?=some x) L2.Internal.auR._auto_1) (hx:Loc X.env.scope x:=by first|exact .inl rfl|exact .inr rfl) (hs:autoParam (swapsWith e (some (.Name x pos')) pos.line X.env=pure false) L2.Internal.auR._auto_1) (hf:autoParam (X.fn x=true\/X.env.scope.names.lookup x=some .local) L2.Internal.auL._auto_1):PS X (.Assign [.Name x pos'] e pos) (Gp te (iO i)):=Gq hN hi hx he hs hf
theorem pN {i:Nat} {x:Str} {pos:Pos} (hN:X.N.Nodup) (hi:autoParam (X.N[i]?=some x) L2.Internal.auR._auto_1) (hx:Loc X.env.scope x:=by first|exact .inl rfl|exact .inr rfl) (hf:autoParam (X.fn x=true\/X.env.scope.names.lookup x=some .local) L2.Internal.auL._auto_1):PG X (.Name x pos) (iO i):=wu hN hi hx hf
theorem zB {scope:gQ} {x:Str} (ns:List Str) (cap:List (Str×Nat×fO)) (hns:autoParam (cap.map (·.1)=ns) L2.Internal.auR._auto_1) (hk:autoParam (scope.kind= .function) L2.Internal.auR._auto_1) (hn:∀p∈scope.names,p.2≠ .cell/\(p.2= .free->p.1∈ns):=by decide+kernel) (hl:∀y∈scope.names,y.2= .local->scope.names.lookup y.1=some .local:=by decide+kernel)
  (hx:autoParam (scope.names.lookup x=some .local) L2.Internal.auR._auto_1) (hnd:(x::ns).Nodup:=by decide+kernel) (hc:autoParam (gX scope X.env=pure (cap.map fun p=>(p.1,p.2.2))) L2.Internal.auR._auto_1) (hok:autoParam (X.env.scope.kind= .function) L2.Internal.auR._auto_1)
  (h:∀p∈cap,scope.names.lookup p.1=some .free/\X.env.cells.lookup p.1=some p.2.2/\X.env.scope.names.lookup p.1=some .cell/\X.N[p.2.1]?=some p.1:=by repeat(first|refine bV.mpr ⟨⟨rfl,rfl,rfl,rfl⟩,?_⟩|exact fun _ h=>absurd h bo)):
  qe X (x::ns) scope (cap.map fun p=>(p.1,p.2.2)) (fun σ=>none::cap.map fun p=>σ.getD p.2.1 none) 0 x:=blkC ns cap hns hk hn hl hx hnd hc hok h
theorem zq {scope:gQ} {x y:Str} (ns:List Str) (cap:List (Str×Nat×fO)) (hns:autoParam (cap.map (·.1)=ns) L2.Internal.auR._auto_1) (hk:autoParam (scope.kind= .function) L2.Internal.auR._auto_1) (hn:∀p∈scope.names,p.2≠ .cell/\(p.2= .free->p.1∈ns):=by decide+kernel) (hl:∀y∈scope.names,y.2= .local->scope.names.lookup y.1=some .local:=by decide+kernel)
  (hx:autoParam (scope.names.lookup x=some .local) L2.Internal.auR._auto_1) (hnd:(x::y::ns).Nodup:=by decide+kernel) (hc:autoParam (gX scope X.env=pure (cap.map fun p=>(p.1,p.2.2))) L2.Internal.auR._auto_1) (hok:autoParam (X.env.scope.kind= .function) L2.Internal.auR._auto_1)
  (h:∀p∈cap,scope.names.lookup p.1=some .free/\X.env.cells.lookup p.1=some p.2.2/\X.env.scope.names.lookup p.1=some .cell/\X.N[p.2.1]?=some p.1:=by repeat(first|refine bV.mpr ⟨⟨rfl,rfl,rfl,rfl⟩,?_⟩|exact fun _ h=>absurd h bo)):
  qe X (x::y::ns) scope (cap.map fun p=>(p.1,p.2.2)) (fun σ=>none::none::cap.map fun p=>σ.getD p.2.1 none) 0 x:=IC ns cap hns hk hn hl hx hnd hc hok h
theorem pgP {scope:gQ} {cl:List (Str×fO)} {x y:Str} {ns:List Str} {px py tp:Pos} {kk:Nat} (hc:X.calm=true) (nd:(x::y::ns).Nodup) (hx:scope.names.lookup x=some .local) (hy:scope.names.lookup y=some .local) (C:fO) (s₀:fR) (H₀:Hp) (ex:List fO) (pz:List (fO×Obj)):PG (blk X (x::y::ns) scope cl C s₀ H₀ ex pz) (.Tuple [.Name x px,.Name y py] kk tp) (zM X.K 2 (mi (iO 0) (mi (iO 1) zL))):=
 sY (n:=2) (X:=blk X (x::y::ns) scope cl C s₀ H₀ ex pz) hc (ke (wu (X:=blk X (x::y::ns) scope cl C s₀ H₀ ex pz) (i:=0) nd rfl (.inl (lookup_relabel_local hx)) (.inr (lookup_relabel_local hx))) (ke (wu (X:=blk X (x::y::ns) scope cl C s₀ H₀ ex pz) (i:=1) nd rfl (.inl (lookup_relabel_local hy)) (.inr (lookup_relabel_local hy))) qc))
end
end K56.Internal
inductive X2 {a0 a1:Type} (p:a0->a1->Prop):Prop
 |mk x0 x1:p x0 x1->X2 p
inductive X3 {a0 a1 a2:Type} (p:a0->a1->a2->Prop):Prop
 |mk x0 x1 x2:p x0 x1 x2->X3 p
inductive X4 {a0 a1 a2 a3:Type} (p:a0->a1->a2->a3->Prop):Prop
 |mk x0 x1 x2 x3:p x0 x1 x2 x3->X4 p
inductive X5 {a0 a1 a2 a3 a4:Type} (p:a0->a1->a2->a3->a4->Prop):Prop
 |mk x0 x1 x2 x3 x4:p x0 x1 x2 x3 x4->X5 p
inductive X6 {a0 a1 a2 a3 a4 a5:Type} (p:a0->a1->a2->a3->a4->a5->Prop):Prop
 |mk x0 x1 x2 x3 x4 x5:p x0 x1 x2 x3 x4 x5->X6 p
inductive X7 {a0 a1 a2 a3 a4 a5 a6:Type} (p:a0->a1->a2->a3->a4->a5->a6->Prop):Prop
 |mk x0 x1 x2 x3 x4 x5 x6:p x0 x1 x2 x3 x4 x5 x6->X7 p
inductive X8 {a0 a1 a2 a3 a4 a5 a6 a7:Type} (p:a0->a1->a2->a3->a4->a5->a6->a7->Prop):Prop
 |mk x0 x1 x2 x3 x4 x5 x6 x7:p x0 x1 x2 x3 x4 x5 x6 x7->X8 p
inductive X9 {a0 a1 a2 a3 a4 a5 a6 a7 a8:Type} (p:a0->a1->a2->a3->a4->a5->a6->a7->a8->Prop):Prop
 |mk x0 x1 x2 x3 x4 x5 x6 x7 x8:p x0 x1 x2 x3 x4 x5 x6 x7 x8->X9 p
inductive X10 {a0 a1 a2 a3 a4 a5 a6 a7 a8 a9:Type} (p:a0->a1->a2->a3->a4->a5->a6->a7->a8->a9->Prop):Prop
 |mk x0 x1 x2 x3 x4 x5 x6 x7 x8 x9:p x0 x1 x2 x3 x4 x5 x6 x7 x8 x9->X10 p
inductive X11 {a0 a1 a2 a3 a4 a5 a6 a7 a8 a9 a10:Type} (p:a0->a1->a2->a3->a4->a5->a6->a7->a8->a9->a10->Prop):Prop
 |mk x0 x1 x2 x3 x4 x5 x6 x7 x8 x9 x10:p x0 x1 x2 x3 x4 x5 x6 x7 x8 x9 x10->X11 p
inductive X12 {a0 a1 a2 a3 a4 a5 a6 a7 a8 a9 a10 a11:Type} (p:a0->a1->a2->a3->a4->a5->a6->a7->a8->a9->a10->a11->Prop):Prop
 |mk x0 x1 x2 x3 x4 x5 x6 x7 x8 x9 x10 x11:p x0 x1 x2 x3 x4 x5 x6 x7 x8 x9 x10 x11->X12 p
inductive X13 {a0 a1 a2 a3 a4 a5 a6 a7 a8 a9 a10 a11 a12:Type} (p:a0->a1->a2->a3->a4->a5->a6->a7->a8->a9->a10->a11->a12->Prop):Prop
 |mk x0 x1 x2 x3 x4 x5 x6 x7 x8 x9 x10 x11 x12:p x0 x1 x2 x3 x4 x5 x6 x7 x8 x9 x10 x11 x12->X13 p
inductive X14 {a0 a1 a2 a3 a4 a5 a6 a7 a8 a9 a10 a11 a12 a13:Type} (p:a0->a1->a2->a3->a4->a5->a6->a7->a8->a9->a10->a11->a12->a13->Prop):Prop
 |mk x0 x1 x2 x3 x4 x5 x6 x7 x8 x9 x10 x11 x12 x13:p x0 x1 x2 x3 x4 x5 x6 x7 x8 x9 x10 x11 x12 x13->X14 p
structure Y3 (a0 a1 a2:Prop):Prop where mk::
 (h0:a0) (h1:a1) (h2:a2)
structure Y4 (a0 a1 a2 a3:Prop):Prop where mk::
 (h0:a0) (h1:a1) (h2:a2) (h3:a3)
structure Y5 (a0 a1 a2 a3 a4:Prop):Prop where mk::
 (h0:a0) (h1:a1) (h2:a2) (h3:a3) (h4:a4)
structure Y6 (a0 a1 a2 a3 a4 a5:Prop):Prop where mk::
 (h0:a0) (h1:a1) (h2:a2) (h3:a3) (h4:a4) (h5:a5)
structure Y7 (a0 a1 a2 a3 a4 a5 a6:Prop):Prop where mk::
 (h0:a0) (h1:a1) (h2:a2) (h3:a3) (h4:a4) (h5:a5) (h6:a6)
structure Y8 (a0 a1 a2 a3 a4 a5 a6 a7:Prop):Prop where mk::
 (h0:a0) (h1:a1) (h2:a2) (h3:a3) (h4:a4) (h5:a5) (h6:a6) (h7:a7)
structure Y9 (a0 a1 a2 a3 a4 a5 a6 a7 a8:Prop):Prop where mk::
 (h0:a0) (h1:a1) (h2:a2) (h3:a3) (h4:a4) (h5:a5) (h6:a6) (h7:a7) (h8:a8)
structure Y10 (a0 a1 a2 a3 a4 a5 a6 a7 a8 a9:Prop):Prop where mk::
 (h0:a0) (h1:a1) (h2:a2) (h3:a3) (h4:a4) (h5:a5) (h6:a6) (h7:a7) (h8:a8) (h9:a9)
structure Y11 (a0 a1 a2 a3 a4 a5 a6 a7 a8 a9 a10:Prop):Prop where mk::
 (h0:a0) (h1:a1) (h2:a2) (h3:a3) (h4:a4) (h5:a5) (h6:a6) (h7:a7) (h8:a8) (h9:a9) (h10:a10)
namespace K56.Internal
open PySem L2.Internal BO.Internal KK.Internal
seal L2.Internal.PE L2.Internal.PA L2.Internal.PS L2.Internal.PSs L2.Internal.PT L2.Internal.PI
theorem yv {H H2:Hp} {l:fO} (s:iE H H2) (h:H l=none) (o:HO):iE H (upd H2 l o):=fun b u e=>by rw[hX (ie e h)];exact s b u e
theorem IM (a p s:V):lZ "slot" s (lZ "place" p (lZ "at" a []))=fU a p s:=by
 have h1:¬("at":Str)="place":=iJ
 have h2:¬("at":Str)="slot":=iJ
 have h3:¬("place":Str)="slot":=iJ
 simp only[lZ,iT h1,iT h2,iT h3,fU]
theorem Bc (n:Str) (a p s x:V) (h1:¬("at":Str)=n) (h2:¬("place":Str)=n) (h3:¬("slot":Str)=n):lZ n x (fU a p s)=fU1 n a p s x:=by
 simp only[lZ,fU,iT h1,iT h2,iT h3,fU1]
theorem G7 (a p s x y:V):lZ "out" y (lZ "arg" x (fU a p s))=fU2 a p s x y:=by
 have h1:¬("at":Str)="arg":=iJ
 have h2:¬("place":Str)="arg":=iJ
 have h3:¬("slot":Str)="arg":=iJ
 have h4:¬("at":Str)="out":=iJ
 have h5:¬("place":Str)="out":=iJ
 have h6:¬("slot":Str)="out":=iJ
 have h7:¬("arg":Str)="out":=iJ
 simp only[lZ,fU,iT h1,iT h2,iT h3,iT h4,iT h5,iT h6,iT h7,fU2]
theorem IP (s f a p:V):lZ "place" p (lZ "at" a (lZ "parts" f (lZ "shape" s [])))=fM s f a p:=by
 have h1:¬("shape":Str)="parts":=iJ
 have h2:¬("shape":Str)="at":=iJ
 have h3:¬("shape":Str)="place":=iJ
 have h4:¬("parts":Str)="at":=iJ
 have h5:¬("parts":Str)="place":=iJ
 have h6:¬("at":Str)="place":=iJ
 simp only[lZ,iT h1,iT h2,iT h3,iT h4,iT h5,iT h6,fM]
theorem jH {f:Str} {v:V} {fs:List (Str×V)} {n:Nat} (h:fs.length<n):(lZ f v fs).length<n+ 1:=Nat.lt_of_le_of_lt (oO f v fs) (Nat.succ_lt_succ h)
theorem IQ (a p s:V):(fU a p s).lookup ("at":Str)=some (a):=by kernel_rfl
theorem Be (a p s:V):(fU a p s).lookup ("met":Str)=none:=by kernel_rfl
theorem G8 (a p s x y:V):(fU2 a p s x y).lookup ("at":Str)=some (a):=by kernel_rfl
theorem Fn (a p s x y:V):(fU2 a p s x y).lookup ("arg":Str)=some (x):=by kernel_rfl
theorem Fo (a p s x y:V):(fU2 a p s x y).lookup ("out":Str)=some (y):=by kernel_rfl
theorem zr (a p s x y:V):(fU2 a p s x y).lookup ("met":Str)=none:=by kernel_rfl
theorem pQ (s f a p:V):(fM s f a p).lookup ("shape":Str)=some (s):=by kernel_rfl
theorem mP (s f a p:V):(fM s f a p).lookup ("parts":Str)=some (f):=by kernel_rfl
theorem IS (s f a p:V):(fM s f a p).lookup ("at":Str)=some (a):=by kernel_rfl
theorem Fp (a p s x:V):(fU1 "fields" a p s x).lookup ("at":Str)=some (a):=by kernel_rfl
theorem xg (a p s x:V):(fU1 "fields" a p s x).lookup ("fields":Str)=some (x):=by kernel_rfl
theorem xh (a p s x:V):(fU1 "fields" a p s x).lookup ("met":Str)=none:=by kernel_rfl
theorem Fq (a p s x:V):(fU1 "arms" a p s x).lookup ("at":Str)=some (a):=by kernel_rfl
theorem Bg (a p s x:V):(fU1 "arms" a p s x).lookup ("arms":Str)=some (x):=by kernel_rfl
theorem xj (a p s x:V):(fU1 "arms" a p s x).lookup ("met":Str)=none:=by kernel_rfl
theorem Fs (a p s x:V):(fU1 "out" a p s x).lookup ("at":Str)=some (a):=by kernel_rfl
theorem CJ (a p s x:V):(fU1 "out" a p s x).lookup ("out":Str)=some (x):=by kernel_rfl
theorem xk (a p s x:V):(fU1 "out" a p s x).lookup ("met":Str)=none:=by kernel_rfl
def rQ (K:PySem.W.Frag):Sp:=fun vs H Q _=>X6 fun(x C dx:fO) (a p s:V)=>Y7 (vs=[.ref x,a,p,s]) (H x=some (.ins C dx [])) (Cls K C) (iU K C "at") (iU K C "place") (iU K C "slot") (Q .non (upd H x (.ins C dx (fU a p s))))
theorem jD (T:Txt K mg):MO P w base mg 1 T.e29 (rQ K):=by
 refine T.e29.F.rd rO fun cdv A outer s H vs Q E hr h=>?_
 obtain⟨x,C,dx,a,p,sl,rfl,hx,cl,n1,n2,n3,q⟩:=h
 refine⟨_,(hW (jy (pv 0) (pv 1) rfl)
  (hW (jy (pv 0) (pv 2) rfl)
  (hZ (jy (pv 0) (pv 3) rfl)))),?_⟩
 refine⟨_,rfl,_,rfl,x,C,dx,[],rfl,hx,cl,n1,(by show 0<1000;decide),?_⟩
 refine⟨_,rfl,_,rfl,x,C,dx,_,rfl,hG,cl,n2,(by show 1<1000;decide),?_⟩
 refine⟨_,rfl,_,rfl,x,C,dx,_,rfl,hG,cl,n3,jH (jH (by show 0<998;decide)),?_⟩
 rw[jk,jk,IM]
 exact q
def oZ (C:fO):Sp:=fun vs H Q _=>X7 fun(x dx:fO) (a p s y z:V)=>Y3 (vs=[.ref x,a,p,s,y,z]) (H x=some (.ins C dx [])) (Q .non (upd H x (.ins C dx (fU2 a p s y z))))
theorem lT (T:Txt K mg):MO P w base mg 2 T.e31 (oZ T.c4.a):=by
 have gE29:=jD (P:=P) (w:=w) (base:=base) T
 refine T.e31.F.rd oW fun cdv A outer s H vs Q E hr h=>?_
 obtain⟨x,dx,a,p,sl,y,z,rfl,hx,q⟩:=h
 refine⟨_,(hW (iS (ue (Cr rfl T.c2.m) T.cm29 gE29 hr.m T.e29.b .nil jq (gY (pv 0) (gY (pv 1) (gY (pv 2) (gY (pv 3) hI))))))
  (hW (jy (pv 0) (pv 4) rfl)
  (hZ (jy (pv 0) (pv 5) rfl)))),?_⟩
 refine⟨_,rfl,_,rfl,_,rfl,_,rfl,x,_,dx,a,p,sl,rfl,hx,T.c4.cl,T.n4at,T.n4place,T.n4slot,?_⟩
 refine⟨_,rfl,_,rfl,x,_,dx,_,rfl,hG,T.c4.cl,T.n4arg,(by show 3<1000;decide),?_⟩
 refine⟨_,rfl,_,rfl,x,_,dx,_,rfl,hG,T.c4.cl,T.n4out,jH (by show 3<999;decide),?_⟩
 rw[jk,jk,G7]
 exact q
def Fu (C:fO) (n:Str):Sp:=fun vs H Q _=>X6 fun(x dx:fO) (a p s y:V)=>Y3 (vs=[.ref x,a,p,s,y]) (H x=some (.ins C dx [])) (Q .non (upd H x (.ins C dx (fU1 n a p s y))))
theorem lU (T:Txt K mg):MO P w base mg 2 T.e33 (Fu T.c5.a "fields"):=by
 have gE29:=jD (P:=P) (w:=w) (base:=base) T
 refine T.e33.F.rd oX fun cdv A outer s H vs Q E hr h=>?_
 obtain⟨x,dx,a,p,sl,y,rfl,hx,q⟩:=h
 refine⟨_,(hW (iS (ue (Cr rfl T.c2.m) T.cm29 gE29 hr.m T.e29.b .nil jq (gY (pv 0) (gY (pv 1) (gY (pv 2) (gY (pv 3) hI))))))
  (hZ (jy (pv 0) (pv 4) rfl))),?_⟩
 refine⟨_,rfl,_,rfl,_,rfl,_,rfl,x,_,dx,a,p,sl,rfl,hx,T.c5.cl,T.n5at,T.n5place,T.n5slot,?_⟩
 refine⟨_,rfl,_,rfl,x,_,dx,_,rfl,hG,T.c5.cl,T.n5fields,(by show 3<1000;decide),?_⟩
 rw[jk,Bc "fields" a p sl y iJ iJ iJ]
 exact q
theorem lV (T:Txt K mg):MO P w base mg 2 T.e35 (Fu T.c6.a "arms"):=by
 have gE29:=jD (P:=P) (w:=w) (base:=base) T
 refine T.e35.F.rd oY fun cdv A outer s H vs Q E hr h=>?_
 obtain⟨x,dx,a,p,sl,y,rfl,hx,q⟩:=h
 refine⟨_,(hW (iS (ue (Cr rfl T.c2.m) T.cm29 gE29 hr.m T.e29.b .nil jq (gY (pv 0) (gY (pv 1) (gY (pv 2) (gY (pv 3) hI))))))
  (hZ (jy (pv 0) (pv 4) rfl))),?_⟩
 refine⟨_,rfl,_,rfl,_,rfl,_,rfl,x,_,dx,a,p,sl,rfl,hx,T.c6.cl,T.n6at,T.n6place,T.n6slot,?_⟩
 refine⟨_,rfl,_,rfl,x,_,dx,_,rfl,hG,T.c6.cl,T.n6arms,(by show 3<1000;decide),?_⟩
 rw[jk,Bc "arms" a p sl y iJ iJ iJ]
 exact q
theorem md (T:Txt K mg):MO P w base mg 2 T.e37 (Fu T.c7.a "out"):=by
 have gE29:=jD (P:=P) (w:=w) (base:=base) T
 refine T.e37.F.rd pP fun cdv A outer s H vs Q E hr h=>?_
 obtain⟨x,dx,a,p,sl,y,rfl,hx,q⟩:=h
 refine⟨_,(hW (iS (ue (Cr rfl T.c2.m) T.cm29 gE29 hr.m T.e29.b .nil jq (gY (pv 0) (gY (pv 1) (gY (pv 2) (gY (pv 3) hI))))))
  (hZ (jy (pv 0) (pv 4) rfl))),?_⟩
 refine⟨_,rfl,_,rfl,_,rfl,_,rfl,x,_,dx,a,p,sl,rfl,hx,T.c7.cl,T.n7at,T.n7place,T.n7slot,?_⟩
 refine⟨_,rfl,_,rfl,x,_,dx,_,rfl,hG,T.c7.cl,T.n7out,(by show 3<1000;decide),?_⟩
 rw[jk,Bc "out" a p sl y iJ iJ iJ]
 exact q
def qP (C:fO):Sp:=fun vs H Q _=>X6 fun(x dx:fO) (s f a p:V)=>Y3 (vs=[.ref x,s,f,a,p]) (H x=some (.ins C dx [])) (Q .non (upd H x (.ins C dx (fM s f a p))))
theorem qQ (T:Txt K mg):MO P w base mg 1 T.e28 (qP T.c1.a):=by
 refine T.e28.F.rd qO fun cdv A outer s H vs Q E hr h=>?_
 obtain⟨x,dx,sh,f,a,p,rfl,hx,q⟩:=h
 refine⟨_,(hW (jy (pv 0) (pv 1) rfl)
  (hW (jy (pv 0) (pv 2) rfl)
  (hW (jy (pv 0) (pv 3) rfl)
  (hZ (jy (pv 0) (pv 4) rfl))))),?_⟩
 refine⟨_,rfl,_,rfl,x,_,dx,[],rfl,hx,T.c1.cl,T.n1shape,(by show 0<1000;decide),?_⟩
 refine⟨_,rfl,_,rfl,x,_,dx,_,rfl,hG,T.c1.cl,T.n1parts,(by show 1<1000;decide),?_⟩
 refine⟨_,rfl,_,rfl,x,_,dx,_,rfl,hG,T.c1.cl,T.n1at,jH (jH (by show 0<998;decide)),?_⟩
 refine⟨_,rfl,_,rfl,x,_,dx,_,rfl,hG,T.c1.cl,T.n1place,jH (jH (jH (by show 0<997;decide))),?_⟩
 rw[jk,jk,jk,IP]
 exact q
def cs (T:Txt K mg):Cs:=⟨T.c1.a,T.c3.a,T.c4.a,T.c5.a,T.c6.a,T.c7.a,T.c8.a⟩
theorem ns {x y:Str} (h:x≠y):decide (V.str x=V.str y)=false:=jR fun z=>by injection z with z;exact h z
theorem Mf.is_num {m:Mf} (h:m.s="num"):m= .num:=by
 cases m<;>first|rfl|exact absurd h (by simp only[Mf.s];decide+kernel)
theorem Mf.is_fn {m:Mf} (h:m.s="fn"):∃x y,m= .fn x y:=by
 cases m<;>first|exact⟨_,_,rfl⟩|exact absurd h (by simp only[Mf.s];decide+kernel)
theorem Mf.is_rcd {m:Mf} (h:m.s="rec"):∃l,m= .rcd l:=by
 cases m<;>first|exact⟨_,rfl⟩|exact absurd h (by simp only[Mf.s];decide+kernel)
theorem Mf.is_tag {m:Mf} (h:m.s="tag"):∃x y,m= .tag x y:=by
 cases m<;>first|exact⟨_,_,rfl⟩|exact absurd h (by simp only[Mf.s];decide+kernel)
theorem Mf.is_row {m:Mf} (h:m.s="row"):∃x,m= .row x:=by
 cases m<;>first|exact⟨_,rfl⟩|exact absurd h (by simp only[Mf.s];decide+kernel)
theorem G9 {a p s:Int} {m:Mf} (h:m.s≠"num"):lI (.num a p s) m=none:=by
 cases m<;>first|rfl|exact absurd rfl h
theorem IT {a p s x y:Int} {m:Mf} (h:m.s≠"fn"):lI (.call a p s x y) m=none:=by
 cases m<;>first|rfl|exact absurd rfl h
theorem Ha {a p s:Int} {l:List (Str×Int)} {m:Mf} (h:m.s≠"rec"):lI (.take a p s l) m=none:=by
 cases m<;>first|rfl|exact absurd rfl h
theorem Hb {a p s:Int} {l:List (Str×Int)} {m:Mf} (h:m.s≠"tag"):lI (.case a p s l) m=none:=by
 cases m<;>first|rfl|exact absurd rfl h
theorem Hd {a p s x:Int} {m:Mf} (h:m.s≠"row"):lI (.row a p s x) m=none:=by
 cases m<;>first|rfl|exact absurd rfl h
def vV (c:Cs) (f:Us->Prop):Sp:=fun vs H Q _=>X6 fun(xv mv:V) (u:Us) (m:Mf) (ma mp:Int)=>Y7 (vs=[xv,mv]) (f u) (u.dist) (UsAt c H xv u) (qF c H mv (mkg m ma mp)) (m.ok) (∀v H',iE H H'->Dta H' v (mtD (lI u m))->Q v H')
theorem oK {H:Hp} {f:V} {l:List Dt} (h:Im H f (.tup l)):∃t xs,f= .ref t/\H t=some (.tup xs)/\Ims H xs l:=by
 cases h with
 |tup e hs=>exact⟨_,_,rfl,e,hs⟩
theorem JK {H:Hp} {xs:List V} {i:V} (h:Ims H xs [.flat i]):xs=[i]:=by
 cases h with
 |cons h hs=>cases h;cases hs;rfl
theorem IU {H:Hp} {xs:List V} {i j:V} (h:Ims H xs [.flat i,.flat j]):xs=[i,j]:=by
 cases h with
 |cons h hs=>
  cases h
  rw[JK hs]
theorem uP (T:Txt K mg):MO P w base mg 1 T.e30 (vV (cs T) fun u=>X3 fun a p s=>u= .num a p s):=by
 refine T.e30.F.rd uL fun cdv A outer s H vs Q E hr h=>?_
 obtain⟨xv,mv,u,m,ma,mp,rfl,⟨a,p,sl,rfl⟩,hd,⟨x,dx,rfl,hx⟩,⟨xm,dxm,f,rfl,hm,hf,_,_⟩,mo,q⟩:=h
 refine⟨_,(hW (iY (oN wx (jK (pv 1) rfl) iC)
   (hZ (iH pB))
   iM)
  (hZ (iH (iZ hI)))),?_⟩
 refine⟨_,rfl,xm,_,dxm,_,_,rfl,hm,T.c1.cl,T.n1shape,pQ _ _ _ _,rfl,_,rfl,?_⟩
 by_cases e:m.s="num"
 ·rw[show decide (V.str (mkg m ma mp).s=V.str "num")=true from jJ (congrArg V.str e)]
  obtain rfl:=Mf.is_num e
  exact lD ⟨sr,fun l hl=>q _ _ (gZ hl _) (.lst hG .nil)⟩
 ·rw[show decide (V.str (mkg m ma mp).s=V.str "num")=false from ns e]
  exact mj (q .non H (iE.refl _) (by rw[G9 e];exact .flat rfl))
theorem sM (T:Txt K mg):MO P w base mg 1 T.e32 (vV (cs T) fun u=>X5 fun a p s x y=>u= .call a p s x y):=by
 refine T.e32.F.rd sJ fun cdv A outer s H vs Q E hr h=>?_
 obtain⟨xv,mv,u,m,ma,mp,rfl,⟨a,p,sl,y,z,rfl⟩,hd,⟨x,dx,rfl,hx⟩,⟨xm,dxm,f,rfl,hm,hf,_,_⟩,mo,q⟩:=h
 refine⟨_,(hW (iY (oN wx (jK (pv 1) rfl) iC)
   (hZ (iH pB))
   iM)
  (hZ (iH (iZ (gY (iF (gY (jK (pv 0) rfl) (gY (iq oG (jK (pv 1) rfl) hV) hI))) (gY (iF (gY (iq oG (jK (pv 1) rfl) hV) (gY (jK (pv 0) rfl) hI))) hI)))))),?_⟩
 refine⟨_,rfl,xm,_,dxm,_,_,rfl,hm,T.c1.cl,T.n1shape,pQ _ _ _ _,rfl,_,rfl,?_⟩
 by_cases e:m.s="fn"
 ·rw[show decide (V.str (mkg m ma mp).s=V.str "fn")=true from jJ (congrArg V.str e)]
  obtain⟨u,v,rfl⟩:=Mf.is_fn e
  obtain⟨t,xs,rfl,et,hs⟩:=oK hf
  obtain rfl:=IU hs
  refine lD ⟨_,rfl,x,_,dx,_,_,rfl,hx,T.c4.cl,T.n4arg,Fn _ _ _ _ _,_,rfl,xm,_,dxm,_,_,rfl,hm,T.c1.cl,T.n1parts,mP _ _ _ _,t,_,_,_,rfl,rfl,SqT.of et,ic (j:=0) rfl,jM,fun t1 h1=>?_⟩
  have S1:=gZ h1 (.tup [.int y,.int u])
  refine⟨_,rfl,xm,_,dxm,_,_,rfl,S1 _ _ hm,T.c1.cl,T.n1parts,mP _ _ _ _,t,_,_,_,rfl,rfl,SqT.of (S1 _ _ et),ic (j:=1) rfl,_,rfl,x,_,dx,_,_,rfl,S1 _ _ hx,T.c4.cl,T.n4out,Fo _ _ _ _ _,jM,fun t2 h2=>?_⟩
  have S2:=gZ h2 (.tup [.int v,.int z])
  refine⟨jM,fun l hl=>?_⟩
  have S3:=gZ hl (.lst [.ref t1,.ref t2])
  refine q _ _ ((S1.trans S2).trans S3) (.lst hG (.cons (.tup (S3 _ _ (S2 _ _ hG)) (.cons (.flat rfl) (.cons (.flat rfl) .nil))) (.cons (.tup (S3 _ _ hG) (.cons (.flat rfl) (.cons (.flat rfl) .nil))) .nil)))
 ·rw[show decide (V.str (mkg m ma mp).s=V.str "fn")=false from ns e]
  exact mj (q .non H (iE.refl _) (by rw[IT e];exact .flat rfl))
theorem uQ (T:Txt K mg):MO P w base mg 1 T.e38 (vV (cs T) fun u=>X4 fun a p s x=>u= .row a p s x):=by
 refine T.e38.F.rd uM fun cdv A outer s H vs Q E hr h=>?_
 obtain⟨xv,mv,u,m,ma,mp,rfl,⟨a,p,sl,y,rfl⟩,hd,⟨x,dx,rfl,hx⟩,⟨xm,dxm,f,rfl,hm,hf,_,_⟩,mo,q⟩:=h
 refine⟨_,(hW (iY (oN wx (jK (pv 1) rfl) iC)
   (hZ (iH pB))
   iM)
  (hZ (iH (iZ (gY (iF (gY (iq oG (jK (pv 1) rfl) hV) (gY (jK (pv 0) rfl) hI))) hI))))),?_⟩
 refine⟨_,rfl,xm,_,dxm,_,_,rfl,hm,T.c1.cl,T.n1shape,pQ _ _ _ _,rfl,_,rfl,?_⟩
 by_cases e:m.s="row"
 ·rw[show decide (V.str (mkg m ma mp).s=V.str "row")=true from jJ (congrArg V.str e)]
  obtain⟨u,rfl⟩:=Mf.is_row e
  obtain⟨t,xs,rfl,et,hs⟩:=oK hf
  obtain rfl:=JK hs
  refine lD ⟨_,rfl,xm,_,dxm,_,_,rfl,hm,T.c1.cl,T.n1parts,mP _ _ _ _,t,_,_,_,rfl,rfl,SqT.of et,ic (j:=0) rfl,_,rfl,x,_,dx,_,_,rfl,hx,T.c7.cl,T.n7out,CJ _ _ _ _,jM,fun t1 h1=>?_⟩
  refine⟨vd,fun l hl=>?_⟩
  have S1:=gZ h1 (.tup [.int u,.int y])
  have S3:=gZ hl (.lst [.ref t1])
  refine q _ _ (S1.trans S3) (.lst hG (.cons (.tup (S3 _ _ hG) (.cons (.flat rfl) (.cons (.flat rfl) .nil))) .nil))
 ·rw[show decide (V.str (mkg m ma mp).s=V.str "row")=false from ns e]
  exact mj (q .non H (iE.refl _) (by rw[Hd e];exact .flat rfl))
theorem sO (T:Txt K mg):MO P w base mg 1 T.e36 (vV (cs T) fun u=>X4 fun a p s l=>u= .case a p s l):=by
 refine T.e36.F.rd oJ fun cdv A outer s H vs Q E hr h=>?_
 have hu:(A.deeper (fN "CaseUse.met" (iB lB) s.heap.objs.size T.e36.a cdv)).units+ 1<gP:=by have:=hr.un;lia
 obtain⟨xv,mv,u,m,ma,mp,rfl,⟨a,p,sl,l,rfl⟩,hd,⟨x,dx,g,rfl,hx,hg,hl⟩,⟨xm,dxm,f,rfl,hm,hf,_,_⟩,mo,q⟩:=h
 refine⟨_,(hW (iY (oN wx (jK (pv 1) rfl) iC)
   (hZ (iH pB))
   iM)
  (hW (pS (i:=2) oJ.nd (jd (ox rfl) rfl T.z_dict uc (gY (jK (pv 0) rfl) hI)))
  (hW (iY (vh (rj hu (iq oG (jK (pv 1) rfl) hV) (pv 2)) rfl)
   (hZ (iH pB))
   iM)
  (hZ (iH (iZ (gY (iF (gY (iq oG (jK (pv 1) rfl) hV) (gY (t7 hu (pv 2) (iq oG (jK (pv 1) rfl) hV)) hI))) hI))))))),?_⟩
 refine⟨_,rfl,xm,_,dxm,_,_,rfl,hm,T.c1.cl,T.n1shape,pQ _ _ _ _,rfl,_,rfl,?_⟩
 by_cases e:m.s="tag"
 ·rw[show decide (V.str (mkg m ma mp).s=V.str "tag")=true from jJ (congrArg V.str e)]
  obtain⟨u,v,rfl⟩:=Mf.is_tag e
  obtain⟨t,xs,rfl,et,hs⟩:=oK hf
  obtain rfl:=IU hs
  obtain⟨tg,ys,rfl,eg,hys⟩:=oK hg
  refine lD ⟨_,rfl,x,_,dx,_,_,rfl,hx,T.c6.cl,T.n6arms,Bg _ _ _ _,tg,ys,_,rfl,eg,EY hys,by rw[aE];lia,fun d hd2=>?_⟩
  have S1:=gZ hd2 (.dK (jU [] ((l.map pI).map kf)))
  have ev:=qi l [] u hd
  have dg:∀{H5:Hp},H5 d=some (.dK (jU [] ((l.map pI).map kf)))->qL H5 d (.str u) (ky (jU [] ((l.map pI).map kf)) (Sum.inr u)):=fun h5=>qL.k (k:=(Sum.inr u:Key)) h5
  refine⟨_,rfl,xm,_,dxm,_,_,rfl,S1 _ _ hm,T.c1.cl,T.n1parts,mP _ _ _ _,t,_,_,_,rfl,rfl,SqT.of (S1 _ _ et),ic (j:=0) rfl,_,rfl,d,_,rfl,dg hG,_,rfl,?_⟩
  cases ek:lk l u with
  |none=>
   rw[ev,ek]
   exact mj (q .non _ S1 (by rw[lI,ek];exact .flat rfl))
  |some i=>
   replace ev:ky (jU [] ((l.map pI).map kf)) (Sum.inr u)=some (.int i):=by rw[ev,ek]
   rw[ev]
   refine lD ⟨_,rfl,xm,_,dxm,_,_,rfl,S1 _ _ hm,T.c1.cl,T.n1parts,mP _ _ _ _,t,_,_,_,rfl,rfl,SqT.of (S1 _ _ et),ic (j:=1) rfl,_,rfl,_,rfl,xm,_,dxm,_,_,rfl,S1 _ _ hm,T.c1.cl,T.n1parts,mP _ _ _ _,t,_,_,_,rfl,rfl,SqT.of (S1 _ _ et),ic (j:=0) rfl,d,.int i,rfl,(by rw[<-ev];exact dg hG),jM,fun t1 h1=>?_⟩
   refine⟨vd,fun l2 hl2=>?_⟩
   have S2:=gZ h1 (.tup [.int v,.int i])
   have S3:=gZ hl2 (.lst [.ref t1])
   refine q _ _ ((S1.trans S2).trans S3) ?_
   rw[lI,ek]
   exact .lst hG (.cons (.tup (S3 _ _ hG) (.cons (.flat rfl) (.cons (.flat rfl) .nil))) .nil)
 ·rw[show decide (V.str (mkg m ma mp).s=V.str "tag")=false from ns e]
  exact mj (q .non H (iE.refl _) (by rw[Hb e];exact .flat rfl))
theorem zt {l m:List (Str×Int)} {k:Nat} {p:Str×Int} {x:Int} (e:l[k]?=some p) (ek:lk m p.1=some x):(l.take (k+ 1)).filterMap (fnd m)=(l.take k).filterMap (fnd m)++[(x,p.2)]:=by
 rw[bE,e,Option.toList,List.filterMap_append]
 have:fnd m p=some (x,p.2):=by rw[fnd,ek];rfl
 simp[this]
theorem sP (T:Txt K mg):MO P w base mg 1 T.e34 (vV (cs T) fun u=>X4 fun a p s l=>u= .take a p s l):=by
 refine T.e34.F.rd kS fun cdv A outer s H vs Q E hr h=>?_
 have hu:(A.deeper (fN "TakeUse.met" (iB lA) s.heap.objs.size T.e34.a cdv)).units+ 1<gP:=by have:=hr.un;lia
 obtain⟨xv,mv,u,m,ma,mp,rfl,⟨a,p,sl,l,rfl⟩,hd,⟨x,dx,g,rfl,hx,hg,hl⟩,⟨xm,dxm,f,rfl,hm,hf,_,_⟩,mo,q⟩:=h
 refine⟨_,(hW (iY (oN wx (jK (pv 1) rfl) iC)
   (hZ (iH pB))
   iM)
  (hW (pS (i:=2) kS.nd (jd (ox rfl) rfl T.z_dict uc (gY (jK (pv 1) rfl) hI)))
  (hW (pS (i:=3) kS.nd (iZ hI))
  (hW (jN PassesOwn.never rfl (lE (jK (pv 0) rfl)) (pN (i:=4) kS.nd)
   (hW (iY (vh (rj hu (iq oG (pv 4) hV) (pv 2)) rfl)
    (hZ (iH pB))
    iM)
   (hZ (iS (ny eI eJ eK jh (pv 3) (gY (iF (gY (t7 hu (pv 2) (iq oG (pv 4) hV)) (gY (iq oG (pv 4) hV) hI))) hI))))))
  (hZ (iH (pv 3))))))),?_⟩
 have sl:=fZ
 refine⟨_,rfl,xm,_,dxm,_,_,rfl,hm,T.c1.cl,T.n1shape,pQ _ _ _ _,rfl,_,rfl,?_⟩
 by_cases e:m.s="rec"
 ·rw[show decide (V.str (mkg m ma mp).s=V.str "rec")=true from jJ (congrArg V.str e)]
  obtain⟨m,rfl⟩:=Mf.is_rcd e
  obtain⟨t,xs,rfl,et,hs⟩:=oK hf
  obtain⟨tg,ys,rfl,eg,hys⟩:=oK hg
  have ly:=hys.length
  rw[aE]at ly
  refine lD ⟨_,rfl,xm,_,dxm,_,_,rfl,hm,T.c1.cl,T.n1parts,mP _ _ _ _,t,xs,_,rfl,et,EY hs,by rw[aE];have:=mo.1;lia,fun d hd2=>?_⟩
  have S1:=gZ hd2 (.dK (jU [] ((m.map pI).map kf)))
  have ed:(upd H d (.dK (jU [] ((m.map pI).map kf)))) d=some (.dK (jU [] ((m.map pI).map kf))):=hG
  generalize upd H d (.dK (jU [] ((m.map pI).map kf)))=H1 at S1 ed
  refine⟨sr,fun fl hfl=>?_⟩
  have S2:=S1.trans (gZ hfl (.lst []))
  have fr:H fl=none:=by
   cases h:H fl with
   |none=>rfl
   |some o=>rw[S1 _ _ h]at hfl;cases hfl
  have ed2:=gZ hfl (.lst []) _ _ ed
  refine⟨_,rfl,x,_,dx,_,_,rfl,S2 _ _ hx,T.c5.cl,T.n5fields,xg _ _ _ _,tg,rfl,⟨_,SqT.of (S2 _ _ eg)⟩,qZ (xs:=ys) (fun i σ H2=>X2 fun(o:Option V) (zs:List V)=>Y6 (σ=[some (.ref x),some (.ref xm),some (.ref d),some (.ref fl),o]) (iE H H2) (H2 d=some (.dK (jU [] ((m.map pI).map kf)))) (H2 fl=some (.lst zs)) (zs.length=i) (Ims H2 zs (((l.take i).filterMap (fnd m)).map flD)))
   ⟨none,[],rfl,S2,ed2,hG,rfl,.nil⟩ (fun i σ H2 _ ⟨_,_,_,S,_,_,_,_⟩=>SqT.of (S _ _ eg)) ?_ ?_⟩
  ·rintro i v σ H2 hv ⟨o,zs,rfl,S,hd3,hf3,hzl,hz⟩
   have hi:i<ys.length:=(aq.mp hv).1
   obtain⟨pr,tt,e1,rfl,e2⟩:=l8 (hys.mono (iE.tk S)) hv
   have ev:=qi m [] pr.1 mo.2
   have dg:∀{H5:Hp},H5 d=some (.dK (jU [] ((m.map pI).map kf)))->qL H5 d (.str pr.1) (ky (jU [] ((m.map pI).map kf)) (Sum.inr pr.1)):=fun h5=>qL.k (k:=(Sum.inr pr.1:Key)) h5
   refine⟨_,rfl,tt,_,_,_,rfl,rfl,SqT.of e2,ic (j:=0) rfl,_,rfl,d,_,rfl,dg hd3,_,rfl,?_⟩
   cases ek:lk m pr.1 with
   |none=>
    rw[ev,ek]
    exact mj (q .non _ S (by rw[lI,tJ (aP e1) ek];exact .flat rfl))
   |some z=>
    replace ev:ky (jU [] ((m.map pI).map kf)) (Sum.inr pr.1)=some (.int z):=by rw[ev,ek]
    rw[ev]
    refine lD ⟨_,rfl,.inl ⟨rfl,_,SqL.of hf3⟩,_,rfl,_,rfl,tt,_,_,_,rfl,rfl,SqT.of e2,ic (j:=0) rfl,d,.int z,rfl,(by rw[<-ev];exact dg hd3),_,rfl,tt,_,_,_,rfl,rfl,SqT.of e2,ic (j:=1) rfl,jM,fun t1 h1=>?_⟩
    have S3:=gZ h1 (.tup [.int z,.int pr.2])
    have hf4:=S3 _ _ hf3
    refine⟨fl,_,_,rfl,rfl,hf4,by lia,?_⟩
    have nd:d≠fl:=iX hd3 hf3 (fun z=>nomatch z)
    refine⟨_,zs++[.ref t1],rfl,yv (S.trans S3) fr _,by rw[hX nd];exact S3 _ _ hd3,hG,by rw[aQ,hzl];rfl,?_⟩
    rw[zt e1 ek,bB]
    have k4:=jP (o:= .lst (zs++[.ref t1])) hf4
    exact((hz.mono (iE.tk S3)).mono k4.tk).app (.cons (.tup (k4.tk _ _ hG) (.cons (.flat rfl) (.cons (.flat rfl) .nil))) .nil)
  ·rintro σ H2 ⟨o,zs,rfl,S,hd3,hf3,hzl,hz⟩
   have lz:=hz.length
   rw[aE,ly,bJ]at lz
   rw[ly,bJ]at hz
   refine⟨_,rfl,q _ _ S ?_⟩
   rw[lI,uh,ja (by lia)]
   exact .lst hf3 hz.das
 ·rw[show decide (V.str (mkg m ma mp).s=V.str "rec")=false from ns e]
  exact mj (q .non H (iE.refl _) (by rw[Ha e];exact .flat rfl))
theorem IV (p0 p1 p2 p3:fO) (r:V):lZ "root" r (lZ "flows" (.ref p3) (lZ "uses" (.ref p2) (lZ "makes" (.ref p1) (lZ "points" (.ref p0) []))))=fB p0 p1 p2 p3 r:=by
 have h1:¬("points":Str)="root":=iJ
 have h2:¬("makes":Str)="root":=iJ
 have h3:¬("uses":Str)="root":=iJ
 have h4:¬("flows":Str)="root":=iJ
 have h5:¬("points":Str)="flows":=iJ
 have h6:¬("makes":Str)="flows":=iJ
 have h7:¬("uses":Str)="flows":=iJ
 have h8:¬("points":Str)="uses":=iJ
 have h9:¬("makes":Str)="uses":=iJ
 have h10:¬("points":Str)="makes":=iJ
 simp only[lZ,fB,iT h1,iT h2,iT h3,iT h4,iT h5,iT h6,iT h7,iT h8,iT h9,iT h10]
theorem iW {H:Hp} {x dx:fO} {o:HO} (hx:H x=none) (hd:H dx=none):iE H (upd (upd H dx (.own x)) x o):=fun b u e=>by
 rw[hX (ie e hx),hX (ie e hd)];exact e
theorem vW (p0 p1 p2 p3:fO) (r:V):(fB p0 p1 p2 p3 r).lookup ("points":Str)=some (.ref p0):=by kernel_rfl
theorem mQ (p0 p1 p2 p3:fO) (r:V):(fB p0 p1 p2 p3 r).lookup ("makes":Str)=some (.ref p1):=by kernel_rfl
theorem ph (p0 p1 p2 p3:fO) (r:V):(fB p0 p1 p2 p3 r).lookup ("uses":Str)=some (.ref p2):=by kernel_rfl
theorem yw (p0 p1 p2 p3:fO) (r:V):(fB p0 p1 p2 p3 r).lookup ("flows":Str)=some (.ref p3):=by kernel_rfl
theorem pj (p0 p1 p2 p3:fO) (r:V):(fB p0 p1 p2 p3 r).lookup ("point":Str)=none:=by kernel_rfl
theorem kN (p0 p1 p2 p3:fO) (r:V):(fB p0 p1 p2 p3 r).lookup ("make":Str)=none:=by kernel_rfl
theorem mE (p0 p1 p2 p3:fO) (r:V):(fB p0 p1 p2 p3 r).lookup ("use":Str)=none:=by kernel_rfl
theorem tP (p0 p1 p2 p3:fO) (r:V):(fB p0 p1 p2 p3 r).lookup ("flow":Str)=none:=by kernel_rfl
def qu (C:fO):Sp:=fun vs H Q _=>X2 fun(x dx:fO)=>Y3 (vs=[.ref x]) (H x=some (.ins C dx [])) (∀(p0 p1 p2 p3:fO) (H':Hp),(∀a∈[p0,p1,p2,p3],H a=none)->[p0,p1,p2,p3].Nodup->H' x=some (.ins C dx (fB p0 p1 p2 p3 (.int 0)))->Ls H' [p0,p1,p2,p3] [[],[],[],[]]->(∀b o,H b=some o->b≠x->H' b=some o)->Q .non H')
theorem qv (T:Txt K mg):MO P w base mg 1 T.e39 (qu T.c8.a):=by
 refine T.e39.F.rd qr fun cdv A outer s H vs Q E hr h=>?_
 obtain⟨x,dx,rfl,hx,q⟩:=h
 refine⟨_,(hW (jy (pv 0) (iZ hI) rfl)
  (hW (jy (pv 0) (iZ hI) rfl)
  (hW (jy (pv 0) (iZ hI) rfl)
  (hW (jy (pv 0) (iZ hI) rfl)
  (hZ (jy (pv 0) hV rfl)))))),?_⟩
 have z0:(0:Nat)<=fY:=by decide
 refine⟨z0,fun p0 h0=>⟨_,rfl,x,_,dx,_,rfl,(by rw[hX (ie hx h0)];exact hx),T.c8.cl,T.n8points,(by show 0<1000;decide),?_⟩⟩
 refine⟨z0,fun p1 h1=>⟨_,rfl,x,_,dx,_,rfl,(by rw[hX (ie hG h1)];exact hG),T.c8.cl,T.n8makes,(by show 1<1000;decide),?_⟩⟩
 refine⟨z0,fun p2 h2=>⟨_,rfl,x,_,dx,_,rfl,(by rw[hX (ie hG h2)];exact hG),T.c8.cl,T.n8uses,jH (jH (by show 0<998;decide)),?_⟩⟩
 refine⟨z0,fun p3 h3=>⟨_,rfl,x,_,dx,_,rfl,(by rw[hX (ie hG h3)];exact hG),T.c8.cl,T.n8flows,jH (jH (jH (by show 0<997;decide))),?_⟩⟩
 refine⟨_,rfl,x,_,dx,_,rfl,hG,T.c8.cl,T.n8root,jH (jH (jH (jH (by show 0<996;decide)))),?_⟩
 have n0:x≠p0:=ie hx h0
 have n1:x≠p1:=ie hG h1
 have n2:x≠p2:=ie hG h2
 have n3:x≠p3:=ie hG h3
 have d10:p0≠p1:=ie (by rw[hX (Ne.symm n0)];exact hG) h1
 have d20:p0≠p2:=ie (by rw[hX (Ne.symm n0),hX d10,hX (Ne.symm n0)];exact hG) h2
 have d21:p1≠p2:=ie (by rw[hX (Ne.symm n1)];exact hG) h2
 have d30:p0≠p3:=ie (by rw[hX (Ne.symm n0),hX d20,hX (Ne.symm n0),hX d10,hX (Ne.symm n0)];exact hG) h3
 have d31:p1≠p3:=ie (by rw[hX (Ne.symm n1),hX d21,hX (Ne.symm n1)];exact hG) h3
 have d32:p2≠p3:=ie (by rw[hX (Ne.symm n2)];exact hG) h3
 rw[hX (Ne.symm n1),hX (Ne.symm d10)]at h1
 rw[hX (Ne.symm n2),hX (Ne.symm d21),hX (Ne.symm n2),hX (Ne.symm d20)]at h2
 rw[hX (Ne.symm n3),hX (Ne.symm d32),hX (Ne.symm n3),hX (Ne.symm d31),hX (Ne.symm n3),hX (Ne.symm d30)]at h3
 refine q p0 p1 p2 p3 _ ?_ ?_ ?_ ?_ ?_
 ·intro a ha
  simp only[aj,bo,or_false]at ha
  rcases ha with e|e|e|e<;>rw[e]<;>assumption
 ·simp only[aG,aj,bo,or_false,not_or]
  exact⟨⟨d10,d20,d30⟩,⟨d21,d31⟩,d32,fun z=>z,aW⟩
 ·rw[hG,IV]
 ·refine .cons ?_ (.cons ?_ (.cons ?_ (.cons ?_ .nil)))
  ·rw[hX (Ne.symm n0),hX (Ne.symm n0),hX d30,hX (Ne.symm n0),hX d20,hX (Ne.symm n0),hX d10,hX (Ne.symm n0)];exact hG
  ·rw[hX (Ne.symm n1),hX (Ne.symm n1),hX d31,hX (Ne.symm n1),hX d21,hX (Ne.symm n1)];exact hG
  ·rw[hX (Ne.symm n2),hX (Ne.symm n2),hX d32,hX (Ne.symm n2)];exact hG
  ·rw[hX (Ne.symm n3),hX (Ne.symm n3)];exact hG
 ·intro b o e hb
  rw[hX hb,hX hb,hX (ie e h3),hX hb,hX (ie e h2),hX hb,hX (ie e h1),hX hb,hX (ie e h0)]
  exact e
def sQ (C:fO):Sp:=fun vs H Q _=>X9 fun(x dx p0 p1 p2 p3:fO) (r v:V) (xs:List V)=>Y5 (vs=[.ref x,v]) (H x=some (.ins C dx (fB p0 p1 p2 p3 r))) (H p0=some (.lst xs)) (xs.length<fY) (Q (.int xs.length) (upd H p0 (.lst (xs++[v]))))
theorem mx (T:Txt K mg):MO P w base mg 1 T.e40 (sQ T.c8.a):=by
 refine T.e40.F.rd sL fun cdv A outer s H vs Q E hr h=>?_
 obtain⟨x,dx,p0,p1,p2,p3,r,v,xs,rfl,hx,h0,hl,q⟩:=h
 refine⟨_,(hW (iS (ny eI eJ eK jh (jK (pv 0) rfl) (gY (pv 1) hI)))
  (hZ (iH (iK DE (iN iP rfl T.z_len jO (gY (jK (pv 0) rfl) hI)) hV)))),?_⟩
 refine⟨_,rfl,x,_,dx,_,_,rfl,hx,T.c8.cl,T.n8points,vW _ _ _ _ _,.inl ⟨rfl,_,SqL.of h0⟩,_,rfl,p0,_,_,rfl,rfl,h0,hl,?_⟩
 have hx2:(upd H p0 (.lst (xs++[v]))) x=some (.ins T.c8.a dx (fB p0 p1 p2 p3 r)):=by rw[hX (iX hx h0 (fun z=>nomatch z))];exact hx
 refine⟨_,rfl,x,_,dx,_,_,rfl,hx2,T.c8.cl,T.n8points,vW _ _ _ _ _,p0,_,rfl,.inl (SqL.of hG),_,_,rfl,rfl,?_⟩
 show Q (V.int (((xs++[v]).length:Int)-1)) _
 rw[aQ,show(((xs.length+[v].length:Nat):Int)-1)=(xs.length:Int) by simp]
 exact q
def pR (C M:fO):Sp:=fun vs H Q _=>X12 fun(x dx p0 p1 p2 p3:fO) (r s f a p:V) (xs:List V)=>Y5 (vs=[.ref x,s,f,a,p]) (H x=some (.ins C dx (fB p0 p1 p2 p3 r))) (H p1=some (.lst xs)) (xs.length<fY) (∀m dm,H m=none->H dm=none->Q .non (upd (upd (upd H dm (.own m)) m (.ins M dm (fM s f a p))) p1 (.lst (xs++[.ref m]))))
theorem pT (T:Txt K mg):MO P w base mg 3 T.e41 (pR T.c8.a T.c1.a):=by
 have gE28:=qQ (P:=P) (w:=w) (base:=base) T
 refine T.e41.F.rd uN fun cdv A outer s H vs Q E hr h=>?_
 obtain⟨x,dx,p0,p1,p2,p3,r,sh,f,a,p,xs,rfl,hx,h0,hl,q⟩:=h
 refine⟨_,(hZ (iS (ny eI eJ eK jh (jK (pv 0) rfl) (gY (ku T.mk1 gE28 hr.m rfl T.c1.m T.e28.b .nil jq (gY (pv 1) (gY (pv 2) (gY (pv 3) (gY (pv 4) hI))))) hI)))),?_⟩
 refine⟨_,rfl,x,_,dx,_,_,rfl,hx,T.c8.cl,T.n8makes,mQ _ _ _ _ _,.inl ⟨rfl,_,SqL.of h0⟩,_,rfl,_,rfl,_,rfl,_,rfl,fun m dm hm hdm nm=>?_⟩
 refine⟨m,dm,_,_,_,_,rfl,hG,rfl,?_⟩
 rw[jk]
 have h1:(upd (upd H dm (.own m)) m (.ins T.c1.a dm (fM sh f a p))) p1=some (.lst xs):=iW hm hdm _ _ h0
 exact⟨p1,_,_,rfl,rfl,h1,hl,q m dm hm hdm⟩
def qI (C:fO):Sp:=fun vs H Q _=>X9 fun(x dx p0 p1 p2 p3:fO) (r v:V) (xs:List V)=>Y5 (vs=[.ref x,v]) (H x=some (.ins C dx (fB p0 p1 p2 p3 r))) (H p2=some (.lst xs)) (xs.length<fY) (Q .non (upd H p2 (.lst (xs++[v]))))
theorem qJ (T:Txt K mg):MO P w base mg 1 T.e42 (qI T.c8.a):=by
 refine T.e42.F.rd vU fun cdv A outer s H vs Q E hr h=>?_
 obtain⟨x,dx,p0,p1,p2,p3,r,v,xs,rfl,hx,h0,hl,q⟩:=h
 refine⟨_,(hZ (iS (ny eI eJ eK jh (jK (pv 0) rfl) (gY (pv 1) hI)))),?_⟩
 exact⟨_,rfl,x,_,dx,_,_,rfl,hx,T.c8.cl,T.n8uses,ph _ _ _ _ _,.inl ⟨rfl,_,SqL.of h0⟩,_,rfl,p2,_,_,rfl,rfl,h0,hl,q⟩
def uR (C:fO):Sp:=fun vs H Q _=>X10 fun(x dx p0 p1 p2 p3:fO) (r v u:V) (xs:List V)=>Y5 (vs=[.ref x,v,u]) (H x=some (.ins C dx (fB p0 p1 p2 p3 r))) (H p3=some (.lst xs)) (xs.length<fY) (∀t,H t=none->Q .non (upd (upd H t (.tup [v,u])) p3 (.lst (xs++[.ref t]))))
theorem pU (T:Txt K mg):MO P w base mg 1 T.e43 (uR T.c8.a):=by
 refine T.e43.F.rd uO fun cdv A outer s H vs Q E hr h=>?_
 obtain⟨x,dx,p0,p1,p2,p3,r,v,u,xs,rfl,hx,h0,hl,q⟩:=h
 refine⟨_,(hZ (iS (ny eI eJ eK jh (jK (pv 0) rfl) (gY (iF (gY (pv 1) (gY (pv 2) hI))) hI)))),?_⟩
 refine⟨_,rfl,x,_,dx,_,_,rfl,hx,T.c8.cl,T.n8flows,yw _ _ _ _ _,.inl ⟨rfl,_,SqL.of h0⟩,_,rfl,_,rfl,jM,fun t ht=>?_⟩
 exact⟨p3,_,_,rfl,rfl,gZ ht _ _ _ h0,hl,q t ht⟩
theorem uS {K:PySem.W.Frag} {a:fO} {xs:List V} {g:TG} {tb:TS} {D:qb} {σ:St} {H:Hp} (Pv:Nat->St->Hp->Prop) (h0:Pv 0 σ H) (hl:∀i σ H,i<=xs.length->Pv i σ H->SqL K H a xs)
  (hs:∀(i:Nat) (x:V) (σ:St) (H:Hp) (T:fO),xs[i]?=some x->Pv i σ H->H T=none->g (.ref T) σ (upd H T (.tup [.int (i:Int),x])) fun σ2 H2=>tb {D with nx:=Pv (i+ 1),ct:=Pv (i+ 1),bk:=D.nx} σ2 H2) (hd:∀σ H,Pv xs.length σ H->D.nx σ H):
  ∃W:Nat->Nat->St->Hp->Prop,(∃m,W 0 m σ H)/\∀i m σ H,W i m σ H->
   ((Ite K a).stop i H/\D.nx σ H)\/((Ite K a).go i H/\∃N:St->Hp->Prop,(∀σ' H',N σ' H'->∃m',m'<m/\W (i+ 1) m' σ' H')/\∀x H',(Ite K a).yld i H x H'->g x σ H' fun σ2 H2=>tb {D with nx:=N,ct:=N,bk:=D.nx} σ2 H2):=by
 refine⟨fun i m σ H=>Y3 (m=xs.length-i) (i<=xs.length) (Pv i σ H),⟨xs.length,by simp,cC _,h0⟩,?_⟩
 rintro i m σ H ⟨rfl,hi,p⟩
 have q:=hl i σ H hi p
 by_cases hlt:i<xs.length
 ·refine .inr ⟨⟨xs,xs[i],q,by simp[hlt]⟩,Pv (i+ 1),fun σ' H' p'=>⟨xs.length-(i+ 1),by lia,rfl,hlt,p'⟩,fun v H' y=>?_⟩
  obtain⟨T,x,rfl,hT,rfl,hx⟩:=y
  exact hs i x σ H T (hx xs q) p hT
 ·have e:i=xs.length:=by lia
  subst e
  exact .inl ⟨⟨xs,q,rfl⟩,hd σ H p⟩
theorem xl {f:Str} {v:V} {r:List (Str×V)}:aC f ((f,v)::r)=some v:=by
 rw[ba,show(f==f)=true by simp]
theorem kI {f g:Str} {v:V} {r:List (Str×V)} (h:(f==g)=false):aC f ((g,v)::r)=aC f r:=by
 rw[ba,h]
theorem mh {f:Str} {v:V}:∀{fs:List (Str×V)} (ns:List Str),fs.map Prod.fst=ns->f∉ns->lZ f v fs=fs++[(f,v)]
 |[],_,_,_=>rfl
 |p::t,_,rfl,h=>by
  rw[aD,aj,not_or]at h
  have:¬p.1=f:=fun z=>h.1 z.symm
  simp only[lZ,iT this,aU]
  rw[mh _ rfl h.2]
def fS (b ua r bd kn g h:fO):List (Str×V):=[("board",.ref b),("uses_at",.ref ua),("rows",.ref r),("bads",.ref bd),("known",.ref kn),("goes",.ref g),("heres",.ref h)]
def fL (r bd:fO):List (Str×V):=[("rows",.ref r),("bads",.ref bd)]
def _root_.BO.Internal.Us.at:Us->Int
 | .num a _ _=>a
 | .call a _ _ _ _=>a
 | .take a _ _ _=>a
 | .case a _ _ _=>a
 | .row a _ _ _=>a
def atU (us:List Us) (j:Nat):Option Int:=(us[j]?).map Us.at
theorem He (T:Txt K mg) {H:Hp} {v:V} {u:Us} (h:UsAt (cs T) H v u):∃x C dx fs,v= .ref x/\H x=some (.ins C dx fs)/\Cls K C/\iU K C "at"/\fs.lookup ("at":Str)=some (.int u.at):=by
 cases u with
 |num a p s=>obtain⟨x,dx,rfl,e⟩:=h;exact⟨x,_,dx,_,rfl,e,T.c3.cl,T.n3at,IQ _ _ _⟩
 |call a p s y z=>obtain⟨x,dx,rfl,e⟩:=h;exact⟨x,_,dx,_,rfl,e,T.c4.cl,T.n4at,G8 _ _ _ _ _⟩
 |take a p s l=>obtain⟨x,dx,f,rfl,e,_⟩:=h;exact⟨x,_,dx,_,rfl,e,T.c5.cl,T.n5at,Fp _ _ _ _⟩
 |case a p s l=>obtain⟨x,dx,f,rfl,e,_⟩:=h;exact⟨x,_,dx,_,rfl,e,T.c6.cl,T.n6at,Fq _ _ _ _⟩
 |row a p s y=>obtain⟨x,dx,rfl,e⟩:=h;exact⟨x,_,dx,_,rfl,e,T.c7.cl,T.n7at,Fs _ _ _ _⟩
def ixv (us:List Us) (n:Nat) (p:Int):List V:=(ixn (atU us) p n).map V.int
theorem Fv {us:List Us} {i:Nat} {u:Us} (h:us[i]?=some u):BX (ixv us i) u.at (.int (i:Int))=ixv us (i+ 1):=by
 funext q
 have e:atU us i=some u.at:=by rw[atU,h];rfl
 unfold BX ixv
 rw[CA,e]
 by_cases z:q=u.at
 ·rw[ja z,ja (by rw[z]),z,bB];rfl
 ·rw[iT z,iT (fun y=>z (cR.inj y).symm),aF]
def qR (c:Cs):Sp:=fun vs H Q _=>X9 fun(b dx p0 p1 p2 p3:fO) (r:V) (uv:List V) (us:List Us)=>Y6 (vs=[.ref b]) (H b=some (.ins c.B dx (fB p0 p1 p2 p3 r))) (H p2=some (.lst uv)) (All2 (UsAt c H) uv us) (us.length<=1000) (
 ∀d L H',iE H H'->H d=none->(∀a∈L,H a=none/\∃o,H' a=some o)->DL H' d L (ixv us us.length) us.length->Q (.ref d) H')
theorem qS (T:Txt K mg):FO P w base 1 T.d1 (qR (cs T)):=by
 refine T.d1.F.rd kj fun cdv A outer s H vs Q E hr h=>?_
 obtain⟨b,dx,p0,p1,p2,p3,r,uv,us,rfl,hb,h2,hU,hn,q⟩:=h
 refine⟨_,(hW (pS (i:=1) kj.nd pH)
  (hW (jN PassesOwn.never rfl (wH rfl T.z_enumerate (gY (iQ T.c8.cl T.n8uses (cv 0)) hI)) (sY rfl (ke (pN (i:=2) kj.nd) (ke (pN (i:=3) kj.nd) qc)))
   (hZ (iS (lJ (ny eI eJ eK jh (PE.mono (ui (cv 1) (jK (cv 3) rfl) (iZ hI) ⟨rfl,rfl,rfl,rfl⟩)) (gY (PE.mono (cv 2)) hI))))))
  (hZ (iH (cv 1))))),?_⟩
 have sl:=fZ
 intro d hd
 have s1:=gZ hd (.dK [])
 refine⟨_,⟨dx,_,s1 _ _ hb,ph _ _ _ _ _⟩,p2,rfl,⟨_,SqL.of (s1 _ _ h2)⟩,uS (xs:=uv) (fun i σ H2=>∃(o2 o3:Option V) (L:List fO),σ=[some (.ref b),some (.ref d),o2,o3]/\iE H H2/\(∀a∈L,H a=none/\∃o,H2 a=some o)/\DL H2 d L (ixv us i) i)
  ⟨none,none,[],rfl,s1,fun a ha=>absurd ha (bo),[],hG,cC _,fun p _=>rfl,fun p v e=>(by cases e),fun p q v e=>(by cases e)⟩ (fun i σ H2 _ ⟨_,_,_,_,S,_⟩=>SqL.of (S _ _ h2)) ?_ ?_⟩
 ·rintro i x σ H2 t hx ⟨o2,o3,L,rfl,S,hL,W⟩ ht
  have hi:=(aq.mp hx).1
  have hlen:=hU.length
  obtain⟨u,hu',hux⟩:=hU.get hx
  have sT:=gZ ht (.tup [.int (i:Int),x])
  refine⟨t,_,rfl,SqT.of hG,rfl,_,_,rfl,_,_,rfl,rfl,?_⟩
  have W1:DL (upd H2 t (.tup [.int (i:Int),x])) d L (ixv us i) i:=W.same fun a o e _=>sT _ _ e
  have S1:iE H (upd H2 t (.tup [.int (i:Int),x])):=S.trans sT
  generalize upd H2 t (.tup [.int (i:Int),x])=H3 at W1 S1 sT⊢
  obtain⟨xu,C,dxu,fs,rfl,exu,cl,na,el⟩:=He T (hux.mono (iE.fk S1))
  refine⟨d,rfl,.inl (by obtain⟨kvs,e,_⟩:=W1;exact⟨kvs,.inl e⟩),xu,C,dxu,fs,_,rfl,exu,cl,na,el,sr,fun z hz=>?_⟩
  obtain⟨kvs,ek,hl,c1,c2⟩:=W1.sda u.at hz
  have fin:∀(l:fO) (H4:Hp),Sda H3 d L (ixv us i) i u.at l H4->∃xs,H4 l=some (.lst xs)/\xs.length<fY/\∃(o2 o3:Option V) (L:List fO),[some (V.ref b),some (V.ref d),some (V.int (i:Int)),some (V.ref xu)]=[some (.ref b),some (.ref d),o2,o3]/\iE H (upd H4 l (.lst (xs++[V.int (i:Int)])))/\(∀a∈L,H a=none/\∃o,(upd H4 l (.lst (xs++[V.int (i:Int)]))) a=some o)/\DL (upd H4 l (.lst (xs++[V.int (i:Int)]))) d L (ixv us (i+ 1)) (i+ 1):=fun l H4 A=>by
   obtain⟨L',hL',W'⟩:=A.fin H4 (.int (i:Int)) (iE.refl _)
   have nl:H l=none:=by
    rcases A.own with m|m
    ·exact(hL l m).1
    ·cases e:H l with
     |none=>rfl
     |some o=>rw[S1 _ _ e]at m;cases m
   have dn:∀a o,H a=some o->a≠d:=fun a o e z=>by rw[z,hd]at e;cases e
   refine⟨_,A.here,?_,_,_,L',rfl,fun a o e=>?_,fun a ha=>?_,?_⟩
   ·unfold ixv
    rw[aE]
    have:=wI (A:=atU us) (p:=u.at) (n:=i)
    lia
   ·rw[hX (fun z=>by rw[z,nl]at e;cases e)]
    exact A.fr a o (S1 _ _ e) (dn a o e)
   ·by_cases y:a=l
    ·rw[y];exact⟨nl,_,hG⟩
    ·rcases hL' a ha with m|m
     ·obtain⟨o,eo⟩:=(hL a m).2
      by_cases z:a=d
      ·rw[z];obtain⟨kv,ekv,_⟩:=W';exact⟨hd,_,ekv⟩
      ·exact⟨(hL a m).1,o,by rw[hX y];exact A.fr a o (sT _ _ eo) z⟩
     ·exact absurd m y
   ·rw[Fv hu']at W'
    exact W'
  refine⟨kvs,Sum.inl u.at,ek,rfl,by lia,fun v hv=>?_,fun hnone=>?_⟩
  ·obtain⟨l,rfl,A⟩:=c1 v hv
   exact⟨⟨_,A.here⟩,fin l _ A⟩
  ·have A:=c2 hnone
   exact⟨⟨_,A.here⟩,fin z _ A⟩
 ·rintro σ H2 ⟨o2,o3,L,rfl,S,hL,W⟩
  rw[hU.length]at W
  exact q d L H2 S hd hL W
def rR (C:fO):Sp:=fun vs H Q _=>X4 fun(x dx r bd:fO)=>Y3 (vs=[.ref x,.ref r,.ref bd]) (H x=some (.ins C dx [])) (Q .non (upd H x (.ins C dx (fL r bd))))
theorem rS (T:Txt K mg):MO P w base mg 1 T.e45 (rR T.c10.a):=by
 refine T.e45.F.rd rP fun cdv A outer s H vs Q E hr h=>?_
 obtain⟨x,dx,r,bd,rfl,hx,q⟩:=h
 refine⟨_,(hW (mH T.c10.cl T.n10rows (jy (PE.mono (cv 0)) (PE.mono (cv 1)) rfl))
  (hZ (mH T.c10.cl T.n10bads (jy (PE.mono (cv 0)) (PE.mono (cv 2)) rfl)))),?_⟩
 refine⟨dx,_,hx,(by show 0<1000;decide),dx,_,hG,(by show 1<1000;decide),?_⟩
 rw[jk,mh ["rows"] rfl iJ]
 exact q
theorem wm {t u:TS} {D:qb} {σ:St} {H:Hp} (h:∀n,u D=n->t {D with nx:=n} σ H):sX t u D σ H:=h _ rfl
theorem CK {N M:Int} {l:List Rw} (hN:N<=128) (hM:M<=128) (d:(l.map Rw.k).Nodup) (h:∀r∈l,r.ok N M):l.length<=32768:=by
 have z:∀r∈l,0<=r.a/\r.a<128/\0<=r.b/\r.b<128:=fun r hr=>by
  obtain⟨h1,h2,h3,h4⟩:=h r hr
  cases e:r.w<;>rw[e]at h2<;>dsimp only at h2<;>lia
 have:=uj 32768 (l.map fun r=>(match r.w with|true=>0|false=>16384)+r.a.toNat*128+r.b.toNat) (vH d fun x hx y hy e=>?_) fun c hc=>?_
 ·rw[aE]at this;exact this
 ·have a1:=z x hx
  have a2:=z y hy
  have w:x.w=y.w:=by
   cases e1:x.w<;>cases e2:y.w<;>rw[e1,e2]at e<;>dsimp only at e<;>first|rfl|lia
  rw[w]at e
  have:x.a=y.a/\x.b=y.b:=by
   cases e2:y.w<;>rw[e2]at e<;>dsimp only at e<;>lia
  rw[Rw.k,Rw.k,w,this.1,this.2]
 ·obtain⟨r,hr,rfl⟩:=bp.mp hc
  have a1:=z r hr
  cases e:r.w<;>dsimp only<;>lia
def InR (N x:Int):Prop:=0<=x/\x<N
def _root_.BO.Internal.Mf.rng (N:Int):Mf->Prop
 | .fn x y=>InR N x/\InR N y
 | .rcd l=>∀p∈l,InR N p.2
 | .tag _ x=>InR N x
 | .row x=>InR N x
 |_=>True
def _root_.BO.Internal.Us.rng (N:Int):Us->Prop
 | .call _ _ _ x y=>InR N x/\InR N y
 | .take _ _ _ l=>∀p∈l,InR N p.2
 | .case _ _ _ l=>∀p∈l,InR N p.2
 | .row _ _ _ x=>InR N x
 | .num _ _ _=>True
theorem Bh {N:Int}:∀{l:List (Str×Int)} {w:Str} {x:Int},(∀p∈l,InR N p.2)->lk l w=some x->InR N x
 |[],_,_,_,e=>by cases e
 |p::t,w,x,h,e=>by
  rw[lk]at e
  by_cases z:p.1=w
  ·rw[ja z]at e;cases e;exact h p (by simp)
  ·rw[iT z]at e;exact Bh (fun q hq=>h q (by simp[hq])) e
theorem CL {N:Int} {u:Us} {m:Mf} {l:List (Int×Int)} (hu:u.rng N) (hm:m.rng N) (e:lI u m=some l):∀p∈l,InR N p.1/\InR N p.2:=by
 cases u with
 |num a p s=>cases m<;>cases e;simp
 |call a p s x y=>
  cases m<;>cases e
  intro p hp
  simp only[aj,bo,or_false]at hp
  rcases hp with rfl|rfl
  ·exact⟨hu.1,hm.1⟩
  ·exact⟨hm.2,hu.2⟩
 |take a p s l'=>
  cases m<;>try(cases e;done)
  rename_i k
  change uh l' k=some l at e
  unfold uh at e
  split at e
  ·cases e
   intro p hp
   obtain⟨q,hq,e⟩:=ay.mp hp
   unfold fnd at e
   cases z:lk k q.1 with
   |none=>rw[z]at e;cases e
   |some x=>rw[z]at e;cases e;exact⟨Bh hm z,hu q hq⟩
  ·cases e
 |case a p s l'=>
  cases m<;>try(cases e;done)
  rename_i w x
  change (lk l' w).map _=some l at e
  cases z:lk l' w with
  |none=>rw[z]at e;cases e
  |some y=>
   rw[z]at e
   cases e
   intro p hp
   simp only[aj,bo,or_false]at hp
   subst hp
   exact⟨hm,Bh hu z⟩
 |row a p s x=>
  cases m<;>cases e
  intro p hp
  simp only[aj,bo,or_false]at hp
  subst hp
  exact⟨hm,hu⟩
structure Mk3 where
 f:Mf
 a:Int
 p:Int
def M3 (c:Cs) (H:Hp) (v:V) (m:Mk3):Prop:=qF c H v (mkg m.f m.a m.p)
structure Dat (N:Int) (ms:List Mk3) (us:List Us) (fs:List (Int×Int)):Prop where
 n0:0<N
 n1:N<=128
 lm:ms.length<=128
 lu:us.length<=128
 lf:fs.length<=128
 mo:∀m∈ms,m.f.ok/\m.f.rng N/\InR N m.a
 uo:∀u∈us,u.dist/\u.rng N
 fo:∀p∈fs,InR N p.1/\InR N p.2
structure Sx where
 s:fO
 dx:fO
 b:fO
 bx:fO
 p0:fO
 p1:fO
 p2:fO
 p3:fO
 ua:fO
 r:fO
 bd:fO
 kn:fO
 g:fO
 h:fO
 Lu:List fO
structure rT (c:Cs) (S:fO) (H0:Hp) (x:Sx) (ms:List Mk3) (us:List Us):Prop where
 s:H0 x.s=some (.ins S x.dx (fS x.b x.ua x.r x.bd x.kn x.g x.h))
 b:H0 x.b=some (.ins c.B x.bx (fB x.p0 x.p1 x.p2 x.p3 (.int 0)))
 m:∃mv,H0 x.p1=some (.lst mv)/\All2 (M3 c H0) mv ms
 u:∃uv,H0 x.p2=some (.lst uv)/\All2 (UsAt c H0) uv us
 ua:DL H0 x.ua x.Lu (ixv us us.length) us.length
 r:∃l,H0 x.r=some (.lst l)
 bd:∃l,H0 x.bd=some (.lst l)
 kn:∃l,H0 x.kn=some (.dT l)
 g:∃l,H0 x.g=some (.dK l)
 h:∃l,H0 x.h=some (.dK l)
 n1:x.r≠x.bd
 n2:x.g≠x.h
 n3:x.ua≠x.g
 n4:x.ua≠x.h
 n5:x.p1≠x.r
 n6:x.p1≠x.bd
 n7:x.p2≠x.r
 n8:x.p2≠x.bd
 n9:∀a∈x.Lu,a≠x.r/\a≠x.bd
structure Two (H0 H:Hp) (d e:fO) (N M:Int->List (Int×Int)) (k:Nat) (Ld Le:List fO) (fd fe:Int->List V):Prop where
 d:DL H d Ld fd k
 e:DL H e Le fe k
 d0:∀a∈Ld,H0 a=none/\∃o,H a=some o
 e0:∀a∈Le,H0 a=none/\∃o,H a=some o
 ap:∀a∈Ld,a∉Le
 dv:∀p,(fd p).length<=k/\Ims H (fd p) ((N p).map flD)
 ev:∀p,(fe p).length<=k/\Ims H (fe p) ((M p).map flD)
theorem Two.swap {H0 H:Hp} {d e:fO} {N M:Int->List (Int×Int)} {k:Nat} {Ld Le:List fO} {fd fe:Int->List V} (W:Two H0 H d e N M k Ld Le fd fe):Two H0 H e d M N k Le Ld fe fd:=
 ⟨W.e,W.d,W.e0,W.d0,fun a h1 h2=>W.ap a h2 h1,W.ev,W.dv⟩
theorem Two.frame {H0 H H':Hp} {d e:fO} {N M:Int->List (Int×Int)} {k:Nat} {Ld Le:List fO} {fd fe:Int->List V} (W:Two H0 H d e N M k Ld Le fd fe) (s:∀a o,H a=some o->(a=d\/a=e\/H0 a=none)->H' a=some o) (tk:TK H H'):Two H0 H' d e N M k Ld Le fd fe:=
 ⟨W.d.same fun a o h m=>s a o h (m.elim .inl fun m=> .inr (.inr (W.d0 a m).1)),W.e.same fun a o h m=>s a o h (m.elim (fun z=> .inr (.inl z)) fun m=> .inr (.inr (W.e0 a m).1)),
  fun a m=>⟨(W.d0 a m).1,let⟨o,h⟩:=(W.d0 a m).2;⟨o,s a o h (.inr (.inr (W.d0 a m).1))⟩⟩,fun a m=>⟨(W.e0 a m).1,let⟨o,h⟩:=(W.e0 a m).2;⟨o,s a o h (.inr (.inr (W.e0 a m).1))⟩⟩,W.ap,
  fun p=>⟨(W.dv p).1,(W.dv p).2.mono tk⟩,fun p=>⟨(W.ev p).1,(W.ev p).2.mono tk⟩⟩
structure Go2 (H0 H:Hp) (d e:fO) (N M:Int->List (Int×Int)) (k:Nat) (p:Int) (l:fO) (H1:Hp):Prop where
 l0:H0 l=none
 fr:∀a o,H a=some o->a≠d->H1 a=some o
 go:∃xs,H1 l=some (.lst xs)/\xs.length<=k/\∀n q t (N2:Int->List (Int×Int)),(∀p2,N2 p2=if p2=p then N p++[(n,q)]else N p2)->H1 t=none->∃Ld Le fd fe,Two H0 (upd (upd H1 t (.tup [.int n,.int q])) l (.lst (xs++[.ref t]))) d e N2 M (k+ 1) Ld Le fd fe
theorem Two.add {H0 H:Hp} {d e:fO} {N M:Int->List (Int×Int)} {k:Nat} {Ld Le:List fO} {fd fe:Int->List V} (W:Two H0 H d e N M k Ld Le fd fe) (p:Int) {z:fO} (hz:H z=none) (n0:∀a,H a=none->H0 a=none) (d1:∃o,H0 d=some o) (e1:∃o,H0 e=some o) (de:d≠e):
  ∃kvs,(upd H z (.lst [])) d=some (.dK kvs)/\kvs.length<=k/\(∀v,ky kvs (.inl p)=some v->∃l,v= .ref l/\Go2 H0 H d e N M k p l (upd H z (.lst [])))/\
   (ky kvs (.inl p)=none->Go2 H0 H d e N M k p z (upd (upd H z (.lst [])) d (.dK (lF kvs (.inl p) (.ref z))))):=by
 have key:∀(l:fO) (H1:Hp),Sda H d Ld fd k p l H1->(∃y,H1 d=some (.dK y))->Go2 H0 H d e N M k p l H1:=fun l H1 A ⟨y,hd1⟩=>by
  have l0:H0 l=none:=by
   rcases A.own with m|m
   ·exact(W.d0 l m).1
   ·exact n0 l m
  refine⟨l0,A.fr,fd p,A.here,(W.dv p).1,fun n q t N2 hq ht=>?_⟩
  obtain⟨L',hL',D'⟩:=A.fin (upd H1 t (.tup [.int n,.int q])) (.ref t) (gZ ht _)
  have tl:t≠l:=fun h=>by rw[h,A.here]at ht;cases ht
  have mv:∀a o,H a=some o->a≠d->a≠l->(upd (upd H1 t (.tup [.int n,.int q])) l (.lst (fd p++[.ref t]))) a=some o:=fun a o h n1 n2=>by
   have:=A.fr a o h n1
   rw[hX n2,hX (ie this ht)]
   exact this
  have nd:∀a,H0 a=none->a≠d:=fun a h z=>by obtain⟨o,h1⟩:=d1;rw[z,h1]at h;cases h
  have el:∀a,a∈Le->a≠l:=fun a m z=>by
   rcases A.own with w|w
   ·exact W.ap l w (z▸m)
   ·obtain⟨o,h⟩:=(W.e0 a m).2;rw[z,w]at h;cases h
  have tk:TK H (upd (upd H1 t (.tup [.int n,.int q])) l (.lst (fd p++[.ref t]))):=fun a xs h=>by
   obtain⟨kvs,ek,_⟩:=W.d
   have a1:a≠d:=iX h ek (fun h=>nomatch h)
   exact mv a _ h a1 (iX (A.fr a _ h a1) A.here (fun h=>nomatch h))
  have e2:e≠l:=fun z=>by obtain⟨o,h⟩:=e1;rw[z,l0]at h;cases h
  refine⟨L',Le,_,fe,D',?_,fun a m=>?_,fun a m=>?_,fun a m1 m2=>?_,fun p2=>?_,fun p2=>⟨cM (W.ev p2).1,(W.ev p2).2.mono tk⟩⟩
  ·obtain⟨kvs,h1,h2,h3⟩:=W.e.same fun a o h m=>mv a o h (m.elim (fun z=>z▸de.symm) fun m=>nd a (W.e0 a m).1) (m.elim (fun z=>z▸e2) (el a))
   exact⟨kvs,h1,cM h2,h3⟩
  ·by_cases z:a=l
   ·exact⟨z▸l0,_,by rw[z];exact hG⟩
   ·rcases hL' a m with m|m
    ·obtain⟨o,h⟩:=(W.d0 a m).2
     exact⟨(W.d0 a m).1,o,mv a o h (nd a (W.d0 a m).1) z⟩
    ·exact absurd m z
  ·obtain⟨o,h⟩:=(W.e0 a m).2
   exact⟨(W.e0 a m).1,o,mv a o h (nd a (W.e0 a m).1) (el a m)⟩
  ·rcases hL' a m1 with m|m
   ·exact W.ap a m m2
   ·exact el a m2 m
  ·unfold BX
   by_cases z:p2=p
   ·rw[ja z,hq p2,ja z,bB]
    exact⟨by rw[aQ];exact cJ (W.dv p).1,((W.dv p).2.mono tk).app (.cons (.tup (by rw[hX tl];exact hG) (.cons (.flat rfl) (.cons (.flat rfl) .nil))) .nil)⟩
   ·rw[iT z,hq p2,iT z]
    exact⟨cM (W.dv p2).1,(W.dv p2).2.mono tk⟩
 obtain⟨kvs,h1,h2,h3,h4⟩:=W.d.sda p hz
 exact⟨kvs,h1,h2,fun v hv=>let⟨l,h,A⟩:=h3 v hv;⟨l,h,key l _ A ⟨_,h1⟩⟩,fun hn=>key z _ (h4 hn) ⟨_,hG⟩⟩
structure Stt (H0 H:Hp) (x:Sx) (N M:Int) (R:List Rw) (B:List (Int×Int)) (k:Nat):Prop where
 keep:∀a o,H0 a=some o->a≠x.r->a≠x.bd->a≠x.kn->a≠x.g->a≠x.h->H a=some o
 r:∃rv,H x.r=some (.lst rv)/\Ims H rv (R.map Rw.d)
 bd:∃bv,H x.bd=some (.lst bv)/\Ims H bv (B.map flD)
 kn:H x.kn=some (.dT (R.map fun r=>(r.k,V.bl true)))
 gh:∃Lg Lh fg fh,Two H0 H x.g x.h (fun p=>kH (qV p) R k) (fun p=>kH (sv p) R k) k Lg Lh fg fh
 nd:(R.map Rw.k).Nodup
 ok:∀r∈R,r.ok N M
 kl:k<=R.length
def Fr2 (x:Sx) (H H':Hp):Prop:=∀a o,H a=some o->a≠x.r->a≠x.kn->H' a=some o
theorem Fr2.refl (x:Sx) (H:Hp):Fr2 x H H:=fun _ _ e _ _=>e
theorem Fr2.trans {x:Sx} {H H1 H2:Hp} (a:Fr2 x H H1) (b:Fr2 x H1 H2):Fr2 x H H2:=fun c o e n m=>b c o (a c o e n m) n m
theorem Fr2.of {x:Sx} {H H':Hp} (s:iE H H'):Fr2 x H H':=fun a o e _ _=>s a o e
section
variable {c:Cs} {S:fO} {H0 H H':Hp} {x:Sx} {N M:Int} {R:List Rw} {B:List (Int×Int)} {k:Nat} {ms:List Mk3} {us:List Us}
theorem Stt.same (t:Stt H0 H x N M R B k) (s:iE H H'):Stt H0 H' x N M R B k:=by
 obtain⟨keep,⟨rv,r1,r2⟩,⟨bv,b1,b2⟩,kn,⟨Lg,Lh,fg,fh,W⟩,nd,ok,kl⟩:=t
 have tk:TK H H':=iE.tk s
 exact⟨fun a o e n1 n2 n3 n4 n5=>s _ _ (keep a o e n1 n2 n3 n4 n5),⟨rv,s _ _ r1,r2.mono tk⟩,⟨bv,s _ _ b1,b2.mono tk⟩,s _ _ kn,
  ⟨Lg,Lh,fg,fh,W.frame (fun a o e _=>s _ _ e) tk⟩,nd,ok,kl⟩
theorem rT.fix (z:rT c S H0 x ms us) (t:Stt H0 H x N M R B k) {a:fO} {o:HO} (e:H0 a=some o) (h1:∀l,o≠ .lst l) (h2:∀l,o≠ .dT l) (h3:∀l,o≠ .dK l):H a=some o:=by
 obtain⟨_,er⟩:=z.r
 obtain⟨_,eb⟩:=z.bd
 obtain⟨_,ek⟩:=z.kn
 obtain⟨_,eg⟩:=z.g
 obtain⟨_,eh⟩:=z.h
 exact t.keep a o e (iX e er (h1 _)) (iX e eb (h1 _)) (iX e ek (h2 _)) (iX e eg (h3 _)) (iX e eh (h3 _))
theorem rT.hs (z:rT c S H0 x ms us) (t:Stt H0 H x N M R B k):H x.s=some (.ins S x.dx (fS x.b x.ua x.r x.bd x.kn x.g x.h)):=z.fix t z.s (fun _ h=>nomatch h) (fun _ h=>nomatch h) (fun _ h=>nomatch h)
theorem rT.hb (z:rT c S H0 x ms us) (t:Stt H0 H x N M R B k):H x.b=some (.ins c.B x.bx (fB x.p0 x.p1 x.p2 x.p3 (.int 0))):=z.fix t z.b (fun _ h=>nomatch h) (fun _ h=>nomatch h) (fun _ h=>nomatch h)
theorem rT.lst (z:rT c S H0 x ms us) (t:Stt H0 H x N M R B k) {a:fO} {l:List V} (e:H0 a=some (.lst l)) (n1:a≠x.r) (n2:a≠x.bd):H a=some (.lst l):=by
 obtain⟨_,ek⟩:=z.kn
 obtain⟨_,eg⟩:=z.g
 obtain⟨_,eh⟩:=z.h
 exact t.keep a _ e n1 n2 (iX e ek (fun h=>nomatch h)) (iX e eg (fun h=>nomatch h)) (iX e eh (fun h=>nomatch h))
theorem rT.fk (z:rT c S H0 x ms us) (t:Stt H0 H x N M R B k):FK H0 H:=fun a o e f=>z.fix t e (fun l h=>by rw[h]at f;exact f) (fun l h=>by rw[h]at f;exact f) (fun l h=>by rw[h]at f;exact f)
theorem Stt.len (t:Stt H0 H x N M R B k) (hN:N<=128) (hM:M<=128):R.length<=32768:=CK hN hM t.nd t.ok
theorem uT:∀{R:List Rw} {q:List Key},ky (R.map fun r=>(r.k,V.bl true)) q=none->q∉R.map Rw.k
 |[],_,_=>by simp
 |r::R,q,h=>by
  rw[aD]at h
  by_cases e:r.k=q
  ·rw[ki (p:=(r.k,V.bl true)) e]at h;cases h
  ·rw[jY (p:=(r.k,V.bl true)) e]at h
   rw[aD,aj,not_or]
   exact⟨fun z=>e z.symm,uT h⟩
theorem CM {R:List Rw} {q:List Key} {v:V} (h:ky (R.map fun r=>(r.k,V.bl true)) q=some v):q∈R.map Rw.k:=by
 induction R with
 |nil=>cases h
 |cons r R ih=>
  rw[aD]at h
  by_cases e:r.k=q
  ·rw[aD,e];exact ah
  ·rw[jY (p:=(r.k,V.bl true)) e]at h
   rw[aD]
   exact ai _ (ih h)
theorem CN {R:List Rw} {ρ:Rw} (h:ky (R.map fun r=>(r.k,V.bl true)) ρ.k=none):lF (R.map fun r=>(r.k,V.bl true)) ρ.k (.bl true)=(R++[ρ]).map fun r=>(r.k,V.bl true):=by
 unfold lF
 rw[iT (by rw[pE,h];exact eP),bB]
 rfl
theorem Stt.put (z:rT c S H0 x ms us) (t:Stt H0 H x N M R B k) {ρ:Rw} {wv:V} {tb t2:fO} {rv:List V} (hw:Im H wv (Gf ρ.y)) (ok:ρ.ok N M) (hn:ky (R.map fun r=>(r.k,V.bl true)) ρ.k=none) (hr:H x.r=some (.lst rv))
  (htb:H tb=none) (h2:(upd (upd H tb (.tup (ρ.k.map kV))) x.kn (.dT (lF (R.map fun r=>(r.k,V.bl true)) ρ.k (.bl true)))) t2=none):
  Stt H0 (upd (upd (upd (upd H tb (.tup (ρ.k.map kV))) x.kn (.dT (lF (R.map fun r=>(r.k,V.bl true)) ρ.k (.bl true)))) t2 (.tup [.str (wd ρ.w),.int ρ.a,.int ρ.b,wv])) x.r (.lst (rv++[.ref t2]))) x N M (R++[ρ]) B k/\
  Fr2 x H (upd (upd (upd (upd H tb (.tup (ρ.k.map kV))) x.kn (.dT (lF (R.map fun r=>(r.k,V.bl true)) ρ.k (.bl true)))) t2 (.tup [.str (wd ρ.w),.int ρ.a,.int ρ.b,wv])) x.r (.lst (rv++[.ref t2]))):=by
 have s1:=gZ htb (.tup (ρ.k.map kV))
 have t1:=t.same s1
 have hr1:=s1 _ _ hr
 have hw1:Im _ wv (Gf ρ.y):=hw.mono (iE.tk s1)
 generalize upd H tb (.tup (ρ.k.map kV))=H1 at s1 t1 hr1 hw1 h2⊢
 have hk1:=t1.kn
 have rk:x.r≠x.kn:=iX hr1 hk1 (fun h=>nomatch h)
 have F:Fr2 x H (upd (upd (upd H1 x.kn (.dT (lF (R.map fun r=>(r.k,V.bl true)) ρ.k (.bl true)))) t2 (.tup [.str (wd ρ.w),.int ρ.a,.int ρ.b,wv])) x.r (.lst (rv++[.ref t2]))):=fun a o e n1 n2=>by
  have e2:(upd H1 x.kn (.dT (lF (R.map fun r=>(r.k,V.bl true)) ρ.k (.bl true)))) a=some o:=by rw[hX n2];exact s1 _ _ e
  rw[hX n1,hX (ie e2 h2)]
  exact e2
 refine⟨?_,F⟩
 have er:(upd (upd H1 x.kn (.dT (lF (R.map fun r=>(r.k,V.bl true)) ρ.k (.bl true)))) t2 (.tup [.str (wd ρ.w),.int ρ.a,.int ρ.b,wv])) t2=some (.tup [.str (wd ρ.w),.int ρ.a,.int ρ.b,wv]):=hG
 obtain⟨keep,⟨rv',r1,r2⟩,⟨bv,b1,b2⟩,kn,⟨Lg,Lh,fg,fh,W⟩,nd,okk,kl⟩:=t
 rw[hr]at r1
 cases r1
 obtain⟨_,Er⟩:=z.r
 obtain⟨_,Eb⟩:=z.bd
 obtain⟨_,Ek⟩:=z.kn
 obtain⟨_,Eg⟩:=z.g
 obtain⟨_,Eh⟩:=z.h
 have tk:TK H (upd (upd (upd H1 x.kn (.dT (lF (R.map fun r=>(r.k,V.bl true)) ρ.k (.bl true)))) t2 (.tup [.str (wd ρ.w),.int ρ.a,.int ρ.b,wv])) x.r (.lst (rv++[.ref t2]))):=fun a xs e=>F a _ e (iX e hr (fun h=>nomatch h)) (iX e kn (fun h=>nomatch h))
 have eg:(fun p=>kH (qV p) R k)=fun p=>kH (qV p) (R++[ρ]) k:=funext fun p=>(rB kl).symm
 have eh:(fun p=>kH (sv p) R k)=fun p=>kH (sv p) (R++[ρ]) k:=funext fun p=>(rB kl).symm
 have t2r:t2≠x.r:=fun h=>by rw[h,hX rk,hr1]at h2;cases h2
 refine⟨fun a o e n1 n2 n3 n4 n5=>F a o (keep a o e n1 n2 n3 n4 n5) n1 n3,⟨_,hG,?_⟩,⟨bv,F _ _ b1 (Ne.symm z.n1) (iX Eb Ek (fun h=>nomatch h)),b2.mono tk⟩,?_,⟨Lg,Lh,fg,fh,eg▸eh▸W.frame (fun a o e m=>F a o e (fun h=>?_) (fun h=>?_)) tk⟩,?_,?_,by rw[aQ];lia⟩
 ·rw[bB]
  refine(r2.mono tk).app (.cons (.tup (by rw[hX t2r];exact er) (.cons (.flat rfl) (.cons (.flat rfl) (.cons (.flat rfl) (.cons (hw.mono tk) .nil))))) .nil)
 ·rw[hX (Ne.symm rk),hX (fun h=>by rw[<-h,hG]at h2;cases h2),hG,CN hn]
 ·rcases m with m|m|m
  ·rw[h]at m;exact absurd (show some (HO.lst _)=some (HO.dK _) by rw[<-Er,m,Eg]) (fun h=>nomatch h)
  ·rw[h]at m;exact absurd (show some (HO.lst _)=some (HO.dK _) by rw[<-Er,m,Eh]) (fun h=>nomatch h)
  ·rw[h,Er]at m;cases m
 ·rcases m with m|m|m
  ·rw[h]at m;exact absurd (show some (HO.dT _)=some (HO.dK _) by rw[<-Ek,m,Eg]) (fun h=>nomatch h)
  ·rw[h]at m;exact absurd (show some (HO.dT _)=some (HO.dK _) by rw[<-Ek,m,Eh]) (fun h=>nomatch h)
  ·rw[h,Ek]at m;cases m
 ·rw[bB,bW]
  refine⟨nd,by simp,fun a ha b hb e=>?_⟩
  simp only[aD,aV,bh]at hb
  exact uT hn (by rw[<-hb,<-e];exact ha)
 ·intro r hr
  rcases ak.mp hr with h|h
  ·exact okk r h
  ·simp only[bh]at h
   rw[h]
   exact ok
end
theorem kT (b ua r bd kn g h:fO):(fS b ua r bd kn g h).lookup ("board":Str)=some (.ref b):=xl
theorem zu (b ua r bd kn g h:fO):(fS b ua r bd kn g h).lookup ("uses_at":Str)=some (.ref ua):=(kI iJ).trans xl
theorem uU (b ua r bd kn g h:fO):(fS b ua r bd kn g h).lookup ("rows":Str)=some (.ref r):=(kI iJ).trans ((kI iJ).trans xl)
theorem Bi (b ua r bd kn g h:fO):(fS b ua r bd kn g h).lookup ("bads":Str)=some (.ref bd):=(kI iJ).trans ((kI iJ).trans ((kI iJ).trans xl))
theorem yx (b ua r bd kn g h:fO):(fS b ua r bd kn g h).lookup ("known":Str)=some (.ref kn):=(kI iJ).trans ((kI iJ).trans ((kI iJ).trans ((kI iJ).trans xl)))
theorem Bj (b ua r bd kn g h:fO):(fS b ua r bd kn g h).lookup ("goes":Str)=some (.ref g):=(kI iJ).trans ((kI iJ).trans ((kI iJ).trans ((kI iJ).trans ((kI iJ).trans xl))))
theorem yz (b ua r bd kn g h:fO):(fS b ua r bd kn g h).lookup ("heres":Str)=some (.ref h):=(kI iJ).trans ((kI iJ).trans ((kI iJ).trans ((kI iJ).trans ((kI iJ).trans ((kI iJ).trans xl)))))
theorem sR (m:Str) (b ua r bd kn g h:fO) (q:m∉(["board","uses_at","rows","bads","known","goes","heres"]:List Str)):(fS b ua r bd kn g h).lookup m=none:=by
 simp only[aj,bo,or_false,not_or]at q
 obtain⟨q1,q2,q3,q4,q5,q6,q7⟩:=q
 have f:∀{a b:Str},¬a=b->(a==b)=false:=fun{a b} h=>by simp[h]
 exact(kI (f q1)).trans ((kI (f q2)).trans ((kI (f q3)).trans ((kI (f q4)).trans ((kI (f q5)).trans ((kI (f q6)).trans ((kI (f q7)).trans rfl))))))
def Hf (c:Cs) (S:fO):Sp:=fun vs H Q _=>X11 fun(H0:Hp) (x:Sx) (N M:Int) (ms:List Mk3) (us:List Us) (R:List Rw) (B:List (Int×Int)) (k:Nat) (ρ:Rw) (wv:V)=>Y8 (vs=[.ref x.s,.str (wd ρ.w),.int ρ.a,.int ρ.b,wv]) (rT c S H0 x ms us) (Stt H0 H x N M R B k) (N<=128) (M<=128) (Im H wv (Gf ρ.y)) (ρ.ok N M) (
 ∀H',Stt H0 H' x N M (vI R ρ) B k->Fr2 x H H'->Q .non H')
theorem kE (T:Txt K mg):MO P w base mg 1 T.e47 (Hf (cs T) T.c11.a):=by
 refine T.e47.F.rd nW fun cdv A outer s H vs Q E hr h=>?_
 obtain⟨H0,x,N,M,ms,us,R,B,k,ρ,wv,rfl,z,t,hN,hM,hw,ok,q⟩:=h
 have hu:=vz hr
 refine⟨_,(hW (pS (i:=5) nW.nd (iF (gY (cv 1) (gY (cv 2) (gY (cv 3) hI)))))
  (hZ (iY (vh (rj hu (cv 5) (iQ T.c11.cl T.n11known (cv 0))) rfl)
   (hW (wF hu (iQ T.c11.cl T.n11known (cv 0)) (cv 5) sA rfl)
   (hZ (iS (lJ (ny eI eJ eK jh (PE.mono (iQ T.c11.cl T.n11rows (cv 0))) (gY (PE.mono (iF (gY (cv 1) (gY (cv 2) (gY (cv 3) (gY (cv 4) hI)))))) hI))))))
   iM))),?_⟩
 have sl:=fZ
 have hlen:=t.len hN hM
 refine⟨sW,fun tb hb=>?_⟩
 have s1:iE H (upd H tb (.tup (ρ.k.map kV))):=gZ hb _
 have t1:=t.same s1
 have hs1:=z.hs t1
 have hk1:=t1.kn
 refine⟨_,⟨_,_,hs1,yx _ _ _ _ _ _ _⟩,x.kn,_,rfl,qL.t (k:=ρ.k) hk1 hG,_,rfl,?_⟩
 cases e:ky (R.map fun r=>(r.k,V.bl true)) ρ.k with
 |some v=>exact lD (q _ (by unfold vI;rw[ja (CM e)];exact t1) (.of s1))
 |none=>
  obtain⟨rv,hrv,hrl⟩:=t.r
  have hl:rv.length<=32768:=by rw[hrl.length,aE];exact hlen
  refine mj ⟨_,⟨_,_,hs1,yx _ _ _ _ _ _ _⟩,x.kn,_,rfl,Cg.t (k:=ρ.k) hk1 hG (by rw[aE];lia),?_⟩
  have rk:x.r≠x.kn:=iX (s1 _ _ hrv) hk1 (fun h=>nomatch h)
  have hr2:(upd (upd H tb (.tup (ρ.k.map kV))) x.kn (.dT (lF (R.map fun r=>(r.k,V.bl true)) ρ.k (.bl true)))) x.r=some (.lst rv):=by rw[hX rk];exact s1 _ _ hrv
  refine⟨_,⟨_,_,by rw[hX (iX hs1 hk1 (fun h=>nomatch h))];exact hs1,uU _ _ _ _ _ _ _⟩,⟨_,hr2⟩,Ju,fun t2 h2=>?_⟩
  refine⟨rv,gZ h2 _ _ _ hr2,by lia,?_⟩
  obtain⟨t4,f4⟩:=t.put z (ρ:=ρ) (wv:=wv) hw ok e hrv hb h2
  exact q _ (by unfold vI;rw[iT (uT e)];exact t4) f4
section
variable {c:Cs} {S:fO} {H0 H H':Hp} {x:Sx} {N M:Int} {R:List Rw} {B:List (Int×Int)} {k:Nat} {ms:List Mk3} {us:List Us}
theorem Stt.n0 (t:Stt H0 H x N M R B k):∀a,H a=none->H0 a=none:=fun a h=>by
 cases e:H0 a with
 |none=>rfl
 |some o=>
  obtain⟨rv,r1,_⟩:=t.r
  obtain⟨bv,b1,_⟩:=t.bd
  obtain⟨Lg,Lh,fg,fh,W⟩:=t.gh
  obtain⟨kg,g1,_⟩:=W.d
  obtain⟨kh,h1,_⟩:=W.e
  by_cases m1:a=x.r
  ·rw[m1,r1]at h;cases h
  by_cases m2:a=x.bd
  ·rw[m2,b1]at h;cases h
  by_cases m3:a=x.kn
  ·rw[m3,t.kn]at h;cases h
  by_cases m4:a=x.g
  ·rw[m4,g1]at h;cases h
  by_cases m5:a=x.h
  ·rw[m5,h1]at h;cases h
  rw[t.keep a o e m1 m2 m3 m4 m5]at h
  cases h
def Gs (H0:Hp) (x:Sx) (N M:Int) (R:List Rw) (B:List (Int×Int)) (k:Nat) (q:Int) (l:fO) (H1:Hp):Prop:=∃xs,Y3 (H1 l=some (.lst xs)) (xs.length<=k) (∀t,H1 t=none->Stt H0 (upd (upd H1 t (.tup [.int (k:Int),.int q])) l (.lst (xs++[.ref t]))) x N M R B (k+ 1))
theorem Stt.goG (z:rT c S H0 x ms us) (t:Stt H0 H x N M R B k) {p q:Int} {y:Option (Int×Int)} (hrow:R[k]?=some ⟨true,p,q,y⟩) {zz:fO} (hz:H zz=none):∃kvs,(upd H zz (.lst [])) x.g=some (.dK kvs)/\kvs.length<=k/\
  (∀v,ky kvs (.inl p)=some v->∃l,v= .ref l/\Gs H0 x N M R B k q l (upd H zz (.lst [])))/\(ky kvs (.inl p)=none->Gs H0 x N M R B k q zz (upd (upd H zz (.lst [])) x.g (.dK (lF kvs (.inl p) (.ref zz))))):=by
 obtain⟨Lg,Lh,fg,fh,W⟩:=t.gh
 obtain⟨_,Er⟩:=z.r
 obtain⟨_,Eb⟩:=z.bd
 obtain⟨_,Ek⟩:=z.kn
 obtain⟨_,Eg⟩:=z.g
 obtain⟨_,Eh⟩:=z.h
 have n0:=t.n0
 have oth:(fun p=>kH (sv p) R k)=fun p=>kH (sv p) R (k+ 1):=funext fun p=>by
  rw[rC hrow]
  unfold sv
  rw[iT (fun h=>Bool.noConfusion h.1),aF]
 obtain⟨dk,edk,_⟩:=W.d
 have key:∀(l:fO) (H1:Hp),Go2 H0 H x.g x.h (fun p=>kH (qV p) R k) (fun p=>kH (sv p) R k) k p l H1->Gs H0 x N M R B k q l H1:=fun l H1 A=>by
  obtain⟨xs,el,hx,go⟩:=A.go
  refine⟨xs,el,hx,fun tt ht=>?_⟩
  have hN:∀p2,kH (qV p2) R (k+ 1)=if p2=p then kH (qV p) R k++[((k:Int),q)]else kH (qV p2) R k:=fun p2=>by
   rw[rC hrow]
   unfold qV
   by_cases z:p2=p
   ·subst z;rw[ja rfl,ja ⟨rfl,rfl⟩]
   ·rw[iT z,iT (fun h=>z h.2.symm),aF]
  obtain⟨Ld,Le,fd,fe,W'⟩:=go (k:Int) q tt (fun p2=>kH (qV p2) R (k+ 1)) hN ht
  have mv:∀a o u,H0 a=some u->H a=some o->a≠x.g->(upd (upd H1 tt (.tup [.int (k:Int),.int q])) l (.lst (xs++[.ref tt]))) a=some o:=fun a o u e0 e n1=>by
   have:=A.fr a o e n1
   rw[hX (fun h=>by rw[h,A.l0]at e0;cases e0),hX (ie this ht)]
   exact this
  have tk:TK H (upd (upd H1 tt (.tup [.int (k:Int),.int q])) l (.lst (xs++[.ref tt]))):=fun a ys e=>by
   have:=A.fr a _ e (iX e edk (fun h=>nomatch h))
   rw[hX (iX this el (fun h=>nomatch h)),hX (ie this ht)]
   exact this
  obtain⟨rv,r1,r2⟩:=t.r
  obtain⟨bv,b1,b2⟩:=t.bd
  exact⟨fun a o e m1 m2 m3 m4 m5=>mv a o o e (t.keep a o e m1 m2 m3 m4 m5) m4,⟨rv,mv _ _ _ Er r1 (iX Er Eg (fun h=>nomatch h)),r2.mono tk⟩,⟨bv,mv _ _ _ Eb b1 (iX Eb Eg (fun h=>nomatch h)),b2.mono tk⟩,mv _ _ _ Ek t.kn (iX Ek Eg (fun h=>nomatch h)),⟨_,_,_,_,oth▸W'⟩,t.nd,t.ok,(aq.mp hrow).1⟩
 obtain⟨kvs,h1,h2,h3,h4⟩:=Two.add W p hz n0 ⟨_,Eg⟩ ⟨_,Eh⟩ z.n2
 exact⟨kvs,h1,h2,fun v hv=>let⟨l,h,A⟩:=h3 v hv;⟨l,h,key l _ A⟩,fun hn=>key zz _ (h4 hn)⟩
theorem Stt.goH (z:rT c S H0 x ms us) (t:Stt H0 H x N M R B k) {p q:Int} {y:Option (Int×Int)} (hrow:R[k]?=some ⟨false,q,p,y⟩) {zz:fO} (hz:H zz=none):∃kvs,(upd H zz (.lst [])) x.h=some (.dK kvs)/\kvs.length<=k/\
  (∀v,ky kvs (.inl p)=some v->∃l,v= .ref l/\Gs H0 x N M R B k q l (upd H zz (.lst [])))/\(ky kvs (.inl p)=none->Gs H0 x N M R B k q zz (upd (upd H zz (.lst [])) x.h (.dK (lF kvs (.inl p) (.ref zz))))):=by
 obtain⟨Lg,Lh,fg,fh,W⟩:=t.gh
 obtain⟨_,Er⟩:=z.r
 obtain⟨_,Eb⟩:=z.bd
 obtain⟨_,Ek⟩:=z.kn
 obtain⟨_,Eg⟩:=z.g
 obtain⟨_,Eh⟩:=z.h
 have n0:=t.n0
 have oth:(fun p=>kH (qV p) R k)=fun p=>kH (qV p) R (k+ 1):=funext fun p=>by
  rw[rC hrow]
  unfold qV
  rw[iT (fun h=>Bool.noConfusion h.1),aF]
 obtain⟨dk,edk,_⟩:=W.swap.d
 have key:∀(l:fO) (H1:Hp),Go2 H0 H x.h x.g (fun p=>kH (sv p) R k) (fun p=>kH (qV p) R k) k p l H1->Gs H0 x N M R B k q l H1:=fun l H1 A=>by
  obtain⟨xs,el,hx,go⟩:=A.go
  refine⟨xs,el,hx,fun tt ht=>?_⟩
  have hN:∀p2,kH (sv p2) R (k+ 1)=if p2=p then kH (sv p) R k++[((k:Int),q)]else kH (sv p2) R k:=fun p2=>by
   rw[rC hrow]
   unfold sv
   by_cases z:p2=p
   ·subst z;rw[ja rfl,ja ⟨rfl,rfl⟩]
   ·rw[iT z,iT (fun h=>z h.2.symm),aF]
  obtain⟨Ld,Le,fd,fe,W'⟩:=go (k:Int) q tt (fun p2=>kH (sv p2) R (k+ 1)) hN ht
  have mv:∀a o u,H0 a=some u->H a=some o->a≠x.h->(upd (upd H1 tt (.tup [.int (k:Int),.int q])) l (.lst (xs++[.ref tt]))) a=some o:=fun a o u e0 e n1=>by
   have:=A.fr a o e n1
   rw[hX (fun h=>by rw[h,A.l0]at e0;cases e0),hX (ie this ht)]
   exact this
  have tk:TK H (upd (upd H1 tt (.tup [.int (k:Int),.int q])) l (.lst (xs++[.ref tt]))):=fun a ys e=>by
   have:=A.fr a _ e (iX e edk (fun h=>nomatch h))
   rw[hX (iX this el (fun h=>nomatch h)),hX (ie this ht)]
   exact this
  obtain⟨rv,r1,r2⟩:=t.r
  obtain⟨bv,b1,b2⟩:=t.bd
  exact⟨fun a o e m1 m2 m3 m4 m5=>mv a o o e (t.keep a o e m1 m2 m3 m4 m5) m5,⟨rv,mv _ _ _ Er r1 (iX Er Eh (fun h=>nomatch h)),r2.mono tk⟩,⟨bv,mv _ _ _ Eb b1 (iX Eb Eh (fun h=>nomatch h)),b2.mono tk⟩,mv _ _ _ Ek t.kn (iX Ek Eh (fun h=>nomatch h)),⟨_,_,_,_,oth▸W'.swap⟩,t.nd,t.ok,(aq.mp hrow).1⟩
 obtain⟨kvs,h1,h2,h3,h4⟩:=Two.add W.swap p hz n0 ⟨_,Eh⟩ ⟨_,Eg⟩ (Ne.symm z.n2)
 exact⟨kvs,h1,h2,fun v hv=>let⟨l,h,A⟩:=h3 v hv;⟨l,h,key l _ A⟩,fun hn=>key zz _ (h4 hn)⟩
end
theorem vX {H:Hp}:∀{fv:List V} {l:List (Int×Int)} {i:Nat} {v:V},Ims H fv (l.map flD)->fv[i]?=some v->∃p t,l[i]?=some p/\v= .ref t/\H t=some (.tup [.int p.1,.int p.2])
 |_,[],_,_,.nil,e=>by simp at e
 |_,p::ps,0,v,.cons h _,e=>by
  cases e
  obtain⟨t,xs,rfl,e,hs⟩:=oK h
  obtain rfl:=IU hs
  exact⟨p,t,rfl,rfl,e⟩
 |_,p::ps,i+ 1,v,.cons _ t,e=>by
  rw[bq]at e
  obtain⟨q,u,e1,e2⟩:=vX t e
  exact⟨q,u,by rw[bq];exact e1,e2⟩
def vY (c:Cs) (S:fO):Sp:=fun vs H Q _=>X14 fun(H0:Hp) (x:Sx) (N M:Int) (ms:List Mk3) (us:List Us) (R:List Rw) (B:List (Int×Int)) (k:Nat) (f:fO) (fv:List V) (l:List (Int×Int)) (y:Option (Int×Int)) (wv:V)=>Y11 (vs=[.ref x.s,.ref f,wv]) (rT c S H0 x ms us) (Stt H0 H x N M R B k) (N<=128) (M<=128) (
 H f=some (.lst fv)) (Ims H fv (l.map flD)) (f≠x.r) ((∀p∈l,InR N p.1/\InR N p.2)) (Im H wv (Gf y)) (∀H',Stt H0 H' x N M (kJ R (l.map fun p=>⟨true,p.1,p.2,y⟩)) B k->Fr2 x H H'->Q .non H')
theorem nX (T:Txt K mg):MO P w base mg 2 T.e51 (vY (cs T) T.c11.a):=by
 have gE47:=kE (P:=P) (w:=w) (base:=base) T
 refine T.e51.F.rd kW fun cdv A outer s H vs Q E hr h=>?_
 obtain⟨H0,x,N,M,ms,us,R,B,k,f,fv,l,y,wv,rfl,z,t,hN,hM,hf,hl,nr,hin,hw,q⟩:=h
 refine⟨_,(hZ (jN PassesOwn.never rfl (j3 (cv 1)) (pN (i:=3) kW.nd)
   (hZ (iS (iV (i7 (PE.mono (cv 0)) T.c11.cl T.e47.me gE47 hr.m T.e47.b .nil jq (gY iC (gY (iq iA (cv 3) hV) (gY (iq iA (cv 3) hV) (gY (cv 2) hI)))))))))),?_⟩
 have nk:f≠x.kn:=iX hf t.kn (fun h=>nomatch h)
 obtain⟨rv,hrv,_⟩:=t.r
 refine⟨f,rfl,⟨_,SqL.of hf⟩,lq (xs:=fv) (fun i σ H2=>∃(o:Option V),Y3 (σ=[some (.ref x.s),some (.ref f),some wv,o]) (Stt H0 H2 x N M (kJ R ((l.take i).map fun p=>⟨true,p.1,p.2,y⟩)) B k) (Fr2 x H H2))
  ⟨none,rfl,t,.refl _ _⟩ (fun i σ H2 _ ⟨_,_,_,F⟩=>SqL.of (F _ _ hf nr nk)) ?_ ?_⟩
 ·rintro i v σ H2 hv ⟨o,rfl,t2,F⟩
  obtain⟨p,tt,hp,rfl,et⟩:=vX hl hv
  have tk:TK H H2:=fun a xs e=>F a _ e (iX e hrv (fun h=>nomatch h)) (iX e t.kn (fun h=>nomatch h))
  have et2:=tk _ _ et
  have hpm:=hin p (aP hp)
  refine⟨⟨_,_,z.hs t2,sR "put" _ _ _ _ _ _ _ iJ⟩,_,et2,_,et2,?_⟩
  refine⟨H0,x,N,M,ms,us,_,B,k,⟨true,p.1,p.2,y⟩,wv,rfl,z,t2,hN,hM,hw.mono tk,⟨hpm.1.1,hpm.1.2,hpm.2.1,hpm.2.2⟩,fun H' t' F'=>⟨_,rfl,?_,F.trans F'⟩⟩
  rw[qW hp,mB]
  exact t'
 ·rintro σ H2 ⟨o,rfl,t2,F⟩
  refine q H2 ?_ F
  have:=hl.length
  rw[aE]at this
  rw[this,bJ]at t2
  exact t2
def IW (c:Cs) (S:fO):Sp:=fun vs H Q _=>X12 fun(H0:Hp) (x:Sx) (N M:Int) (ms:List Mk3) (us:List Us) (R:List Rw) (B:List (Int×Int)) (k:Nat) (p q:Int) (y:Option (Int×Int))=>Y8 (vs=[.ref x.s,.int (k:Int),.int p,.int q]) (rT c S H0 x ms us) (Stt H0 H x N M R B k) (N<=128) (M<=128) (k<=32768) (R[k]?=some ⟨true,p,q,y⟩) (∀H',Stt H0 H' x N M (kJ R ((kH (sv p) R k).map fun h=>(⟨false,h.2,q,some (h.1,(k:Int))⟩:Rw))) B (k+ 1)->Q .non H')
theorem nY (T:Txt K mg):MO P w base mg 2 T.e49 (IW (cs T) T.c11.a):=by
 have gE47:=kE (P:=P) (w:=w) (base:=base) T
 refine T.e49.F.rd kU fun cdv A outer s H vs Q E hr h=>?_
 obtain⟨H0,x,N,M,ms,us,R,B,k,p,q,y,rfl,z,t,hN,hM,hk,hrow,fin⟩:=h
 have hq:=t.ok _ (aP hrow)
 have hu:=vz hr
 refine⟨_,(hW (jN PassesOwn.never rfl (j3 (t8 hu (iQ T.c11.cl T.n11heres (cv 0)) (cv 2) (iZ hI) ⟨rfl,rfl,rfl,rfl⟩)) (pN (i:=4) kU.nd)
   (hZ (iS (iV (i7 (PE.mono (cv 0)) T.c11.cl T.e47.me gE47 hr.m T.e47.b .nil jq (gY iC (gY (iq iA (cv 4) hV) (gY (cv 3) (gY (iF (gY (iq iA (cv 4) hV) (gY (cv 1) hI))) hI)))))))))
  (hZ (iS (lJ (ny eI eJ eK jh (PE.mono (ui (iQ T.c11.cl T.n11goes (cv 0)) (cv 2) (iZ hI) ⟨rfl,rfl,rfl,rfl⟩)) (gY (PE.mono (iF (gY (cv 1) (gY (cv 3) hI)))) hI)))))),?_⟩
 have sl:=fZ
 obtain⟨Lg,Lh,fg,fh,W⟩:=t.gh
 obtain⟨rv,hrv,_⟩:=t.r
 obtain⟨_,Er⟩:=z.r
 refine⟨_,⟨_,_,z.hs t,yz _ _ _ _ _ _ _⟩,x.h,rfl,.inl (by obtain⟨kvs,e,_⟩:=W.e;exact⟨kvs,.inl e⟩),sr,fun zz hz=>?_⟩
 obtain⟨kvs,l,ek,eg,hl,own⟩:=W.e.get p hz
 have s1:=gZ hz (.lst [])
 have t1:=t.same s1
 have nr:l≠x.r:=fun h=>by
  rcases own with m|m
  ·rw[h]at m;rw[(W.e0 _ m).1]at Er;cases Er
  ·rw[h,hrv]at m;cases m
 have nk:l≠x.kn:=iX hl t1.kn (fun h=>nomatch h)
 refine⟨_,qL.k (k:=Sum.inl p) ek,l,eg,⟨_,SqL.of hl⟩,lq (xs:=fh p) (fun i σ H2=>∃(o:Option V),Y3 (σ=[some (.ref x.s),some (.int (k:Int)),some (.int p),some (.int q),o]) (Stt H0 H2 x N M (kJ R (((kH (sv p) R k).take i).map fun h=>(⟨false,h.2,q,some (h.1,(k:Int))⟩:Rw))) B k) (Fr2 x (upd H zz (.lst [])) H2))
  ⟨none,rfl,t1,.refl _ _⟩ (fun i σ H2 _ ⟨_,_,_,F⟩=>SqL.of (F _ _ hl nr nk)) ?_ ?_⟩
 ·rintro i v σ H2 hv ⟨o,rfl,t2,F⟩
  obtain⟨hh,tt,hp,rfl,et⟩:=vX (W.ev p).2 hv
  obtain⟨nn,yy,en,hn,hrr⟩:=AE (aP hp)
  have oo:=t.ok _ (aP hrr)
  have et2:=F _ _ (s1 _ _ et) (iX et hrv (fun h=>nomatch h)) (iX et t.kn (fun h=>nomatch h))
  refine⟨⟨_,_,z.hs t2,sR "put" _ _ _ _ _ _ _ iJ⟩,_,et2,_,et2,jM,fun tw hw=>?_⟩
  refine⟨H0,x,N,M,ms,us,_,B,k,⟨false,hh.2,q,some (hh.1,(k:Int))⟩,.ref tw,rfl,z,t2.same (gZ hw _),hN,hM,.tup hG (.cons (.flat rfl) (.cons (.flat rfl) .nil)),⟨oo.1,oo.2.1,hq.2.2.1,hq.2.2.2⟩,fun H' t' F'=>⟨_,rfl,?_,F.trans ((Fr2.of (gZ hw _)).trans F')⟩⟩
  rw[qW hp,mB]
  exact t'
 ·rintro σ H2 ⟨o,rfl,t2,F⟩
  have hln:=(W.ev p).2.length
  rw[aE]at hln
  rw[hln,bJ]at t2
  obtain⟨more,em⟩:=lK ((kH (sv p) R k).map fun h=>(⟨false,h.2,q,some (h.1,(k:Int))⟩:Rw)) R
  have hrow2:(kJ R ((kH (sv p) R k).map fun h=>(⟨false,h.2,q,some (h.1,(k:Int))⟩:Rw)))[k]?=some ⟨true,p,q,y⟩:=by rw[em,aN (aq.mp hrow).1];exact hrow
  obtain⟨Lg2,Lh2,fg2,fh2,W2⟩:=t2.gh
  refine⟨_,⟨_,_,z.hs t2,Bj _ _ _ _ _ _ _⟩,x.g,rfl,.inl (by obtain⟨kvs,e,_⟩:=W2.d;exact⟨kvs,.inl e⟩),sr,fun z2 hz2=>?_⟩
  obtain⟨kvs2,ek2,hl2,c1,c2⟩:=t2.goG z hrow2 hz2
  refine⟨kvs2,Sum.inl p,ek2,rfl,by lia,fun v hv=>?_,fun hn=>?_⟩
  ·obtain⟨l2,rfl,xs,el,hx,go⟩:=c1 v hv
   exact⟨⟨xs,el⟩,jM,fun tt ht=>⟨xs,gZ ht _ _ _ el,by lia,fin _ (go tt ht)⟩⟩
  ·obtain⟨xs,el,hx,go⟩:=c2 hn
   exact⟨⟨xs,el⟩,jM,fun tt ht=>⟨xs,gZ ht _ _ _ el,by lia,fin _ (go tt ht)⟩⟩
def IX (c:Cs) (S:fO):Sp:=fun vs H Q _=>X12 fun(H0:Hp) (x:Sx) (N M:Int) (ms:List Mk3) (us:List Us) (R:List Rw) (B:List (Int×Int)) (k:Nat) (p q:Int) (y:Option (Int×Int))=>Y8 (vs=[.ref x.s,.int (k:Int),.int q,.int p]) (rT c S H0 x ms us) (Stt H0 H x N M R B k) (N<=128) (M<=128) (k<=32768) (R[k]?=some ⟨false,q,p,y⟩) (∀H',Stt H0 H' x N M (kJ R ((kH (qV p) R k).map fun h=>(⟨false,q,h.2,some ((k:Int),h.1)⟩:Rw))) B (k+ 1)->Q .non H')
theorem nZ (T:Txt K mg):MO P w base mg 2 T.e52 (IX (cs T) T.c11.a):=by
 have gE47:=kE (P:=P) (w:=w) (base:=base) T
 refine T.e52.F.rd kX fun cdv A outer s H vs Q E hr h=>?_
 obtain⟨H0,x,N,M,ms,us,R,B,k,p,q,y,rfl,z,t,hN,hM,hk,hrow,fin⟩:=h
 have hq:=t.ok _ (aP hrow)
 have hu:=vz hr
 refine⟨_,(hW (jN PassesOwn.never rfl (j3 (t8 hu (iQ T.c11.cl T.n11goes (cv 0)) (cv 3) (iZ hI) ⟨rfl,rfl,rfl,rfl⟩)) (pN (i:=4) kX.nd)
   (hZ (iS (iV (i7 (PE.mono (cv 0)) T.c11.cl T.e47.me gE47 hr.m T.e47.b .nil jq (gY iC (gY (cv 2) (gY (iq iA (cv 4) hV) (gY (iF (gY (cv 1) (gY (iq iA (cv 4) hV) hI))) hI)))))))))
  (hZ (iS (lJ (ny eI eJ eK jh (PE.mono (ui (iQ T.c11.cl T.n11heres (cv 0)) (cv 3) (iZ hI) ⟨rfl,rfl,rfl,rfl⟩)) (gY (PE.mono (iF (gY (cv 1) (gY (cv 2) hI)))) hI)))))),?_⟩
 have sl:=fZ
 obtain⟨Lg,Lh,fg,fh,W⟩:=t.gh
 obtain⟨rv,hrv,_⟩:=t.r
 obtain⟨_,Er⟩:=z.r
 refine⟨_,⟨_,_,z.hs t,Bj _ _ _ _ _ _ _⟩,x.g,rfl,.inl (by obtain⟨kvs,e,_⟩:=W.d;exact⟨kvs,.inl e⟩),sr,fun zz hz=>?_⟩
 obtain⟨kvs,l,ek,eg,hl,own⟩:=W.d.get p hz
 have s1:=gZ hz (.lst [])
 have t1:=t.same s1
 have nr:l≠x.r:=fun h=>by
  rcases own with m|m
  ·rw[h]at m;rw[(W.d0 _ m).1]at Er;cases Er
  ·rw[h,hrv]at m;cases m
 have nk:l≠x.kn:=iX hl t1.kn (fun h=>nomatch h)
 refine⟨_,qL.k (k:=Sum.inl p) ek,l,eg,⟨_,SqL.of hl⟩,lq (xs:=fg p) (fun i σ H2=>∃(o:Option V),Y3 (σ=[some (.ref x.s),some (.int (k:Int)),some (.int q),some (.int p),o]) (Stt H0 H2 x N M (kJ R (((kH (qV p) R k).take i).map fun h=>(⟨false,q,h.2,some ((k:Int),h.1)⟩:Rw))) B k) (Fr2 x (upd H zz (.lst [])) H2))
  ⟨none,rfl,t1,.refl _ _⟩ (fun i σ H2 _ ⟨_,_,_,F⟩=>SqL.of (F _ _ hl nr nk)) ?_ ?_⟩
 ·rintro i v σ H2 hv ⟨o,rfl,t2,F⟩
  obtain⟨hh,tt,hp,rfl,et⟩:=vX (W.dv p).2 hv
  obtain⟨nn,yy,en,hn,hrr⟩:=AD (aP hp)
  have oo:=t.ok _ (aP hrr)
  have et2:=F _ _ (s1 _ _ et) (iX et hrv (fun h=>nomatch h)) (iX et t.kn (fun h=>nomatch h))
  refine⟨⟨_,_,z.hs t2,sR "put" _ _ _ _ _ _ _ iJ⟩,_,et2,_,et2,jM,fun tw hw=>?_⟩
  refine⟨H0,x,N,M,ms,us,_,B,k,⟨false,q,hh.2,some ((k:Int),hh.1)⟩,.ref tw,rfl,z,t2.same (gZ hw _),hN,hM,.tup hG (.cons (.flat rfl) (.cons (.flat rfl) .nil)),⟨hq.1,hq.2.1,oo.2.2.1,oo.2.2.2⟩,fun H' t' F'=>⟨_,rfl,?_,F.trans ((Fr2.of (gZ hw _)).trans F')⟩⟩
  rw[qW hp,mB]
  exact t'
 ·rintro σ H2 ⟨o,rfl,t2,F⟩
  have hln:=(W.dv p).2.length
  rw[aE]at hln
  rw[hln,bJ]at t2
  obtain⟨more,em⟩:=lK ((kH (qV p) R k).map fun h=>(⟨false,q,h.2,some ((k:Int),h.1)⟩:Rw)) R
  have hrow2:(kJ R ((kH (qV p) R k).map fun h=>(⟨false,q,h.2,some ((k:Int),h.1)⟩:Rw)))[k]?=some ⟨false,q,p,y⟩:=by rw[em,aN (aq.mp hrow).1];exact hrow
  obtain⟨Lg2,Lh2,fg2,fh2,W2⟩:=t2.gh
  refine⟨_,⟨_,_,z.hs t2,yz _ _ _ _ _ _ _⟩,x.h,rfl,.inl (by obtain⟨kvs,e,_⟩:=W2.e;exact⟨kvs,.inl e⟩),sr,fun z2 hz2=>?_⟩
  obtain⟨kvs2,ek2,hl2,c1,c2⟩:=t2.goH z hrow2 hz2
  refine⟨kvs2,Sum.inl p,ek2,rfl,by lia,fun v hv=>?_,fun hn=>?_⟩
  ·obtain⟨l2,rfl,xs,el,hx,go⟩:=c1 v hv
   exact⟨⟨xs,el⟩,jM,fun tt ht=>⟨xs,gZ ht _ _ _ el,by lia,fin _ (go tt ht)⟩⟩
  ·obtain⟨xs,el,hx,go⟩:=c2 hn
   exact⟨⟨xs,el⟩,jM,fun tt ht=>⟨xs,gZ ht _ _ _ el,by lia,fin _ (go tt ht)⟩⟩
def nmB (us:List Us) (ms:List Mk3) (m j:Int):Bool:=match us[j.toNat]?,ms[m.toNat]? with
 |some u,some k=>(lI u k.f).isNone
 |_,_=>false
def zC (us:List Us) (ms:List Mk3) (ρ:Rw) (k:Int):List (Int×Int):=match ρ.w with
 |true=>[]
 |false=>bdn (atU us) (nmB us ms ρ.a) ρ.b k us.length
def yA (us:List Us) (ms:List Mk3) (m n:Int) (R:List Rw) (j:Int):List Rw:=match us[j.toNat]?,ms[m.toNat]? with
 |some u,some mk=>(match lI u mk.f with
  |none=>R
  |some l=>kJ R (l.map fun p=>⟨true,p.1,p.2,some (n,j)⟩))
 |_,_=>R
def qw (us:List Us) (ms:List Mk3) (m n:Int) (R:List Rw) (L:List Int):List Rw:=L.foldl (yA us ms m n) R
theorem yB (us:List Us) (ms:List Mk3) (m n:Int) (R:List Rw) (j:Int):∃more,yA us ms m n R j=R++more:=by
 unfold yA
 split
 ·split
  ·exact⟨[],(aF _).symm⟩
  ·exact lK _ _
 ·exact⟨[],(aF _).symm⟩
theorem mF (us:List Us) (ms:List Mk3) (m n:Int):∀(L:List Int) (R:List Rw),∃more,qw us ms m n R L=R++more
 |[],R=>⟨[],(aF _).symm⟩
 |j::L,R=>by
  obtain⟨m1,e1⟩:=yB us ms m n R j
  obtain⟨m2,e2⟩:=mF us ms m n L (yA us ms m n R j)
  refine⟨m1++m2,?_⟩
  show qw us ms m n (yA us ms m n R j) L=_
  rw[e2,e1,bD]
theorem tQ {us:List Us} {ms:List Mk3} {m n:Int} {R:List Rw} {L:List Int} {i:Nat} {j:Int} (h:L[i]?=some j):qw us ms m n R (L.take (i+ 1))=yA us ms m n (qw us ms m n R (L.take i)) j:=by
 rw[bE,h]
 unfold qw
 rw[List.foldl_append]
 rfl
def rV (us:List Us) (ms:List Mk3) (R:List Rw) (k:Nat) (ρ:Rw):List Rw:=match ρ.w with
 |true=>kJ R ((kH (sv ρ.a) R k).map fun h=>(⟨false,h.2,ρ.b,some (h.1,(k:Int))⟩:Rw))
 |false=>kJ (qw us ms ρ.a (k:Int) R (ixn (atU us) ρ.b us.length)) ((kH (qV ρ.b) R k).map fun h=>(⟨false,ρ.a,h.2,some ((k:Int),h.1)⟩:Rw))
theorem vZ (us:List Us) (ms:List Mk3) (R:List Rw) (k:Nat) (ρ:Rw):∃more,rV us ms R k ρ=R++more:=by
 unfold rV
 split
 ·exact lK _ _
 ·obtain⟨m1,e1⟩:=mF us ms ρ.a (k:Int) (ixn (atU us) ρ.b us.length) R
  obtain⟨m2,e2⟩:=lK ((kH (qV ρ.b) R k).map fun h=>(⟨false,ρ.a,h.2,some ((k:Int),h.1)⟩:Rw)) (qw us ms ρ.a (k:Int) R (ixn (atU us) ρ.b us.length))
  exact⟨m1++m2,by rw[e2,e1,bD]⟩
theorem v5 {L:List Int} {q:Int->Bool} {n:Int} {i:Nat} {j:Int} (h:L[i]?=some j):((L.take (i+ 1)).filter q).map (fun j=>(n,j))=((L.take i).filter q).map (fun j=>(n,j))++if q j=true then[(n,j)]else[]:=by
 rw[bE,h,Option.toList,List.filter_append,bB]
 congr 1
 by_cases e:q j=true
 ·rw[ja e];simp[e]
 ·rw[iT e];simp[e]
theorem Bk {H:Hp}:∀{fv:List V} {l:List (Int×Int)},tG H fv (l.map flD)->Ims H fv (l.map flD)
 |_,[],.nil=> .nil
 |_,p::t,.cons h hs=>by
  refine .cons ?_ (Bk hs)
  cases h with
  |tup e es=>
   cases es with
   |cons h1 es=>
    cases h1
    cases es with
    |cons h2 es=>
     cases h2
     cases es
     exact .tup e (.cons (.flat rfl) (.cons (.flat rfl) .nil))
theorem IY {H:Hp} {rv:List V} {R:List Rw} {l:List (Int×Int)} (h1:Ims H rv (R.map Rw.d)) (h2:Ims H rv (l.map flD)) (hR:R≠[]):False:=by
 cases R with
 |nil=>exact hR rfl
 |cons r R=>
  cases h1 with
  |cons a _=>
   cases l with
   |nil=>cases h2
   |cons p l=>
    cases h2 with
    |cons b _=>
     obtain⟨t,xs,rfl,e,hs⟩:=oK a
     obtain⟨t',xs',e',e2,hs'⟩:=oK b
     cases e'
     rw[e]at e2
     cases e2
     have y1:=hs.length
     have y2:=hs'.length
     rw[y1]at y2
     simp at y2
theorem Hg {te:TE} {i:Nat} {D:qb} {σ:St} {H:Hp} {u:TS} (R:V->Hp->Prop) (ht:∀Q:VK,(∀v H1,R v H1->Q v H1)->te σ H Q) (h:∀v H1,R v H1->u D (σ.set i (some v)) H1):sX (Gp te (iO i)) u D σ H:=ht _ h
theorem D9 {H:Hp}:∀{rv:List V} {R:List Rw} {i:Nat} {ρ:Rw},Ims H rv (R.map Rw.d)->R[i]?=some ρ->∃t wv,rv[i]?=some (.ref t)/\H t=some (.tup [.str (wd ρ.w),.int ρ.a,.int ρ.b,wv])/\Im H wv (Gf ρ.y)
 |_,[],_,_,_,e=>by simp at e
 |_,r::R,0,ρ,.cons h _,e=>by
  cases e
  obtain⟨t,xs,rfl,e,hs⟩:=oK h
  cases hs with
  |cons h1 hs=>
   cases h1
   cases hs with
   |cons h2 hs=>
    cases h2
    cases hs with
    |cons h3 hs=>
     cases h3
     cases hs with
     |cons h4 hs=>cases hs;exact⟨t,_,rfl,e,h4⟩
 |_,r::R,i+ 1,ρ,.cons _ t,e=>by
  rw[bq]at e
  obtain⟨q,u,e1,e2⟩:=D9 t e
  exact⟨q,u,by rw[bq];exact e1,e2⟩
section
variable {c:Cs} {S:fO} {H0 H H':Hp} {x:Sx} {N M:Int} {R:List Rw} {B:List (Int×Int)} {k:Nat} {ms:List Mk3} {us:List Us}
theorem rT.uaH (z:rT c S H0 x ms us) (t:Stt H0 H x N M R B k):DL H x.ua x.Lu (ixv us us.length) us.length:=by
 obtain⟨_,Er⟩:=z.r
 obtain⟨_,Eb⟩:=z.bd
 obtain⟨_,Ek⟩:=z.kn
 exact z.ua.keep (fun kvs e=>t.keep _ _ e (iX e Er (fun h=>nomatch h)) (iX e Eb (fun h=>nomatch h)) (iX e Ek (fun h=>nomatch h)) z.n3 z.n4) (fun a l m e=>z.lst t e (z.n9 a m).1 (z.n9 a m).2)
def Fr3 (x:Sx) (H H':Hp):Prop:=∀a o,H a=some o->a≠x.r->a≠x.kn->a≠x.bd->H' a=some o
theorem Stt.bad (z:rT c S H0 x ms us) (t:Stt H0 H x N M R B k) {n u:Int} {tt:fO} {bv:List V} (hb:H x.bd=some (.lst bv)) (ht:H tt=none):
  Stt H0 (upd (upd H tt (.tup [.int n,.int u])) x.bd (.lst (bv++[.ref tt]))) x N M R (B++[(n,u)]) k:=by
 have s1:=gZ ht (.tup [.int n,.int u])
 have e1:(upd H tt (.tup [.int n,.int u])) tt=some (.tup [.int n,.int u]):=hG
 have t1:=t.same s1
 have hb1:=s1 _ _ hb
 generalize upd H tt (.tup [.int n,.int u])=H1 at s1 t1 hb1 e1⊢
 obtain⟨keep,⟨rv,r1,r2⟩,⟨bv',b1,b2⟩,kn,⟨Lg,Lh,fg,fh,W⟩,nd,ok,kl⟩:=t1
 rw[hb1]at b1
 cases b1
 obtain⟨_,Eb⟩:=z.bd
 obtain⟨_,Eg⟩:=z.g
 obtain⟨_,Eh⟩:=z.h
 have F:∀a o,H1 a=some o->a≠x.bd->(upd H1 x.bd (.lst (bv++[.ref tt]))) a=some o:=fun a o e m=>by rw[hX m];exact e
 have tk:TK H1 (upd H1 x.bd (.lst (bv++[.ref tt]))):=fun a xs e=>F a _ e (iX e hb1 (fun h=>nomatch h))
 refine⟨fun a o e m1 m2 m3 m4 m5=>F a o (keep a o e m1 m2 m3 m4 m5) m2,⟨rv,F _ _ r1 z.n1,r2.mono tk⟩,⟨_,hG,?_⟩,F _ _ kn (iX kn hb1 (fun h=>nomatch h)),⟨Lg,Lh,fg,fh,W.frame (fun a o e m=>F a o e (fun h=>?_)) tk⟩,nd,ok,kl⟩
 ·rw[bB]
  exact(b2.mono tk).app (.cons (.tup (tk _ _ e1) (.cons (.flat rfl) (.cons (.flat rfl) .nil))) .nil)
 ·rcases m with m|m|m
  ·rw[h]at m;exact absurd (show some (HO.lst _)=some (HO.dK _) by rw[<-Eb,m,Eg]) (fun h=>nomatch h)
  ·rw[h]at m;exact absurd (show some (HO.lst _)=some (HO.dK _) by rw[<-Eb,m,Eh]) (fun h=>nomatch h)
  ·rw[h,Eb]at m;cases m
end
def IZ (c:Cs) (S:fO):Sp:=fun vs H Q _=>X12 fun(H0:Hp) (x:Sx) (N:Int) (ms:List Mk3) (us:List Us) (fs:List (Int×Int)) (R:List Rw) (B:List (Int×Int)) (k:Nat) (n p:Int) (m:Nat)=>Y8 (vs=[.ref x.s,.int n,.int (m:Int),.int p]) (rT c S H0 x ms us) (Stt H0 H x N ms.length R B k) (Dat N ms us fs) (m<ms.length) (R≠[]) (B.length<=5000000) (
 ∀H',Stt H0 H' x N ms.length (qw us ms (m:Int) n R (ixn (atU us) p us.length)) (B++bdn (atU us) (nmB us ms m) p n us.length) k->TK H H'->Q .non H')
theorem oh (T:Txt K mg):MO P w base mg 3 T.e50 (IZ (cs T) T.c11.a):=by
 have gE51:=nX (P:=P) (w:=w) (base:=base) T
 have gE30:=uP (P:=P) (w:=w) (base:=base) T
 have gE32:=sM (P:=P) (w:=w) (base:=base) T
 have gE34:=sP (P:=P) (w:=w) (base:=base) T
 have gE36:=sO (P:=P) (w:=w) (base:=base) T
 have gE38:=uQ (P:=P) (w:=w) (base:=base) T
 refine T.e50.F.rd jX fun cdv A outer s H vs Q E hr h=>?_
 obtain⟨H0,x,N,ms,us,fs,R,B,k,n,p,m,rfl,z,t,dat,hm,hR,hB,fin⟩:=h
 have hu:=vz hr
 refine⟨_,(hZ (jN PassesOwn.never rfl (j3 (t8 hu (iQ T.c11.cl T.n11uses_at (cv 0)) (cv 3) (iZ hI) ⟨rfl,rfl,rfl,rfl⟩)) (pN (i:=4) jX.nd)
   (hW (pS (i:=5) jX.nd (PE.or (iV (i7 (PE.mono (iq iG (iQ T.c8.cl T.n8uses (iQ T.c11.cl T.n11board (cv 0))) (cv 4))) T.c3.cl T.e30.me gE30 hr.m T.e30.b .nil jq (gY (iq iG (iQ T.c8.cl T.n8makes (iQ T.c11.cl T.n11board (cv 0))) (cv 2)) hI))) (PE.or (iV (i7 (PE.mono (iq iG (iQ T.c8.cl T.n8uses (iQ T.c11.cl T.n11board (cv 0))) (cv 4))) T.c4.cl T.e32.me gE32 hr.m T.e32.b .nil jq (gY (iq iG (iQ T.c8.cl T.n8makes (iQ T.c11.cl T.n11board (cv 0))) (cv 2)) hI))) (PE.or (iV (i7 (PE.mono (iq iG (iQ T.c8.cl T.n8uses (iQ T.c11.cl T.n11board (cv 0))) (cv 4))) T.c5.cl T.e34.me gE34 hr.m T.e34.b .nil jq (gY (iq iG (iQ T.c8.cl T.n8makes (iQ T.c11.cl T.n11board (cv 0))) (cv 2)) hI))) (PE.or (iV (i7 (PE.mono (iq iG (iQ T.c8.cl T.n8uses (iQ T.c11.cl T.n11board (cv 0))) (cv 4))) T.c6.cl T.e36.me gE36 hr.m T.e36.b .nil jq (gY (iq iG (iQ T.c8.cl T.n8makes (iQ T.c11.cl T.n11board (cv 0))) (cv 2)) hI))) (iV (i7 (PE.mono (iq iG (iQ T.c8.cl T.n8uses (iQ T.c11.cl T.n11board (cv 0))) (cv 4))) T.c7.cl T.e38.me gE38 hr.m T.e38.b .nil jq (gY (iq iG (iQ T.c8.cl T.n8makes (iQ T.c11.cl T.n11board (cv 0))) (cv 2)) hI))))))))
   (hZ (iY (vh (zI (cv 5)))
    (hZ (iS (lJ (ny eI eJ eK jh (PE.mono (iQ T.c11.cl T.n11bads (cv 0))) (gY (PE.mono (iF (gY (cv 1) (gY (cv 4) hI)))) hI)))))
    (hZ (iS (iV (i7 (PE.mono (cv 0)) T.c11.cl T.e51.me gE51 hr.m T.e51.b .nil jq (gY (cv 5) (gY (iF (gY (cv 1) (gY (cv 4) hI))) hI))))))))))),?_⟩
 have sl:=fZ
 have hM:(ms.length:Int)<=128:=by have:=dat.lm;lia
 obtain⟨rv,hrv,_⟩:=t.r
 obtain⟨bv0,hbv0,_⟩:=t.bd
 refine⟨_,⟨_,_,z.hs t,zu _ _ _ _ _ _ _⟩,x.ua,rfl,.inl (by obtain⟨kvs,e,_⟩:=z.uaH t;exact⟨kvs,.inl e⟩),sr,fun zz hz=>?_⟩
 obtain⟨kvs,l,ek,eg,hl,own⟩:=(z.uaH t).get p hz
 have s1:=gZ hz (.lst [])
 have t1:=t.same s1
 have nr:l≠x.r:=fun h=>by
  rcases own with m|m
  ·exact(z.n9 l m).1 h
  ·rw[h,hrv]at m;cases m
 have nb:l≠x.bd:=fun h=>by
  rcases own with m|m
  ·exact(z.n9 l m).2 h
  ·rw[h,hbv0]at m;cases m
 have nk:l≠x.kn:=iX hl t1.kn (fun h=>nomatch h)
 obtain⟨uv,eu,hU⟩:=z.u
 obtain⟨mv,em,hMk⟩:=z.m
 obtain⟨mk,hmk⟩:∃mk,ms[m]?=some mk:=⟨_,bj hm⟩
 obtain⟨mvv,hmvv⟩:∃v,mv[m]?=some v:=⟨_,bj (by rw[hMk.length];exact hm)⟩
 obtain⟨mk',hmk',hM3⟩:=hMk.get hmvv
 rw[hmk]at hmk'
 cases hmk'
 have mo:=dat.mo mk (aP hmk)
 refine⟨_,qL.k (k:=Sum.inl p) ek,l,eg,⟨_,SqL.of hl⟩,lq (xs:=ixv us us.length p) (fun i σ H2=>X2 fun(o5 o6:Option V)=>Y3 (σ=[some (.ref x.s),some (.int n),some (.int (m:Int)),some (.int p),o5,o6]) (Stt H0 H2 x N ms.length (qw us ms (m:Int) n R ((ixn (atU us) p us.length).take i)) (B++(((ixn (atU us) p us.length).take i).filter (nmB us ms m)).map fun j=>(n,j)) k) (Fr3 x (upd H zz (.lst [])) H2))
  ⟨none,none,rfl,(by show Stt H0 _ x N ms.length R (B++[]) k;rw[aF];exact t1),fun _ _ e _ _ _=>e⟩ (fun i σ H2 _ ⟨_,_,_,_,F⟩=>SqL.of (F _ _ hl nr nk nb)) ?_ ?_⟩
 ·rintro i v σ H2 hv ⟨o5,o6,rfl,t2,F⟩
  unfold ixv at hv
  rw[aO]at hv
  cases hj:(ixn (atU us) p us.length)[i]? with
  |none=>rw[hj]at hv;cases hv
  |some j'=>
  rw[hj]at hv
  cases hv
  obtain⟨j,rfl,hjl,hat⟩:=wJ (aP hj)
  have hi:i<=us.length:=cz (cq (aq.mp hj).1 wI)
  obtain⟨u,hu1⟩:∃u,us[j]?=some u:=⟨_,bj hjl⟩
  obtain⟨xv,hxv⟩:∃v,uv[j]?=some v:=⟨_,bj (by rw[hU.length];exact hjl)⟩
  obtain⟨u',hu2,hux⟩:=hU.get hxv
  rw[hu1]at hu2
  cases hu2
  have uo:=dat.uo u (aP hu1)
  have fk:=z.fk t2
  have hux2:=hux.mono fk
  have hM2:qF (cs T) H2 mvv (mkg mk.f mk.a mk.p):=qF.mono fk hM3
  have hp2:=z.lst t2 eu z.n7 z.n8
  have hp1:=z.lst t2 em z.n5 z.n6
  have hnm:nmB us ms m j=(lI u mk.f).isNone:=by unfold nmB;rw[eZ,eZ,hu1,hmk]
  have huse:∀Rx,yA us ms (m:Int) n Rx (j:Int)=(match lI u mk.f with|none=>Rx|some l=>kJ Rx (l.map fun p=>⟨true,p.1,p.2,some (n,(j:Int))⟩)):=fun Rx=>by unfold yA;rw[eZ,eZ,hu1,hmk]
  dsimp only[iO]
  refine Hg (R:=fun v H3=>iE H2 H3/\Dta H3 v (mtD (lI u mk.f))) (fun Q' key=>?_) (fun v H3 ⟨S3,hd⟩=>?_)
  ·have hs2:=z.hs t2
   have hb2:=z.hb t2
   have key':∀v H',iE H2 H'->Dta H' v (mtD (lI u mk.f))->Q' v H':=fun v H' a b=>key v H' ⟨a,b⟩
   cases u with
   |num a1 a2 a3=>
    obtain⟨xu,dxu,rfl,e⟩:=id hux2
    exact .inl ⟨_,⟨_,_,hs2,kT _ _ _ _ _ _ _⟩,_,⟨_,_,hb2,ph _ _ _ _ _⟩,uv,hp2,ig (ic hxv) ⟨⟨_,_,e,Be _ _ _⟩,_,⟨_,_,hs2,kT _ _ _ _ _ _ _⟩,_,⟨_,_,hb2,mQ _ _ _ _ _⟩,mv,hp1,ig (ic hmvv) ⟨_,_,_,mk.f,mk.a,mk.p,rfl,⟨_,_,_,rfl⟩,uo.1,hux2,hM2,mo.1,key'⟩⟩⟩
   |call a1 a2 a3 a4 a5=>
    obtain⟨xu,dxu,rfl,e⟩:=id hux2
    exact .inr (.inl ⟨_,⟨_,_,hs2,kT _ _ _ _ _ _ _⟩,_,⟨_,_,hb2,ph _ _ _ _ _⟩,uv,hp2,ig (ic hxv) ⟨⟨_,_,e,zr _ _ _ _ _⟩,_,⟨_,_,hs2,kT _ _ _ _ _ _ _⟩,_,⟨_,_,hb2,mQ _ _ _ _ _⟩,mv,hp1,ig (ic hmvv) ⟨_,_,_,mk.f,mk.a,mk.p,rfl,⟨_,_,_,_,_,rfl⟩,uo.1,hux2,hM2,mo.1,key'⟩⟩⟩)
   |take a1 a2 a3 a4=>
    obtain⟨xu,dxu,f,rfl,e,_⟩:=id hux2
    exact .inr (.inr (.inl ⟨_,⟨_,_,hs2,kT _ _ _ _ _ _ _⟩,_,⟨_,_,hb2,ph _ _ _ _ _⟩,uv,hp2,ig (ic hxv) ⟨⟨_,_,e,xh _ _ _ _⟩,_,⟨_,_,hs2,kT _ _ _ _ _ _ _⟩,_,⟨_,_,hb2,mQ _ _ _ _ _⟩,mv,hp1,ig (ic hmvv) ⟨_,_,_,mk.f,mk.a,mk.p,rfl,⟨_,_,_,_,rfl⟩,uo.1,hux2,hM2,mo.1,key'⟩⟩⟩))
   |case a1 a2 a3 a4=>
    obtain⟨xu,dxu,f,rfl,e,_⟩:=id hux2
    exact .inr (.inr (.inr (.inl ⟨_,⟨_,_,hs2,kT _ _ _ _ _ _ _⟩,_,⟨_,_,hb2,ph _ _ _ _ _⟩,uv,hp2,ig (ic hxv) ⟨⟨_,_,e,xj _ _ _ _⟩,_,⟨_,_,hs2,kT _ _ _ _ _ _ _⟩,_,⟨_,_,hb2,mQ _ _ _ _ _⟩,mv,hp1,ig (ic hmvv) ⟨_,_,_,mk.f,mk.a,mk.p,rfl,⟨_,_,_,_,rfl⟩,uo.1,hux2,hM2,mo.1,key'⟩⟩⟩)))
   |row a1 a2 a3 a4=>
    obtain⟨xu,dxu,rfl,e⟩:=id hux2
    exact .inr (.inr (.inr (.inr ⟨_,⟨_,_,hs2,kT _ _ _ _ _ _ _⟩,_,⟨_,_,hb2,ph _ _ _ _ _⟩,uv,hp2,ig (ic hxv) ⟨⟨_,_,e,xk _ _ _ _⟩,_,⟨_,_,hs2,kT _ _ _ _ _ _ _⟩,_,⟨_,_,hb2,mQ _ _ _ _ _⟩,mv,hp1,ig (ic hmvv) ⟨_,_,_,mk.f,mk.a,mk.p,rfl,⟨_,_,_,_,rfl⟩,uo.1,hux2,hM2,mo.1,key'⟩⟩⟩)))
  have t3:=t2.same S3
  have hs3:=z.hs t3
  have F3:Fr3 x (upd H zz (.lst [])) H3:=fun a o e n1 n2 n3=>S3 _ _ (F a o e n1 n2 n3)
  cases e:lI u mk.f with
  |none=>
   rw[e]at hd
   cases hd
   refine⟨true,by rw[jJ rfl],mj ?_⟩
   obtain⟨bv,hbv,hbl⟩:=t3.bd
   have hbn:bv.length<=5000000+us.length:=by
    rw[hbl.length,aE,aQ,aE]
    have:=bC (nmB us ms m) ((ixn (atU us) p us.length).take i)
    have:=List.length_take_le i (ixn (atU us) p us.length)
    lia
   have:=dat.lu
   refine⟨_,⟨_,_,hs3,Bi _ _ _ _ _ _ _⟩,⟨_,hbv⟩,jM,fun tt ht=>⟨bv,gZ ht _ _ _ hbv,by lia,_,_,rfl,?_,fun a o e n1 n2 n3=>?_⟩⟩
   ·rw[tQ hj,huse,e,v5 hj,hnm,e,ja (show(none:Option (List (Int×Int))).isNone=true from rfl),<-bD]
    exact t3.bad z hbv ht
   ·rw[hX n3]
    exact gZ ht _ _ _ (F3 a o e n1 n2 n3)
  |some lf=>
   rw[e]at hd
   cases hd with
   |@lst f fv _ ef hfl=>
   refine⟨false,by rw[jR (fun h=>nomatch h)],lD ?_⟩
   refine⟨⟨_,_,hs3,sR "put_flows" _ _ _ _ _ _ _ iJ⟩,jM,fun tw hw=>?_⟩
   have S4:=gZ hw (.tup [.int n,.int (j:Int)])
   have fr:f≠x.r:=fun h=>by
    obtain⟨rv3,hrv3,hrl⟩:=t3.r
    rw[h,hrv3]at ef
    cases ef
    obtain⟨more,em⟩:=mF us ms (m:Int) n ((ixn (atU us) p us.length).take i) R
    exact IY hrl (Bk hfl) (by rw[em];simp[hR])
   refine⟨H0,x,N,ms.length,ms,us,_,_,k,f,fv,lf,some (n,(j:Int)),.ref tw,rfl,z,t3.same S4,dat.n1,hM,S4 _ _ ef,(Bk hfl).mono (iE.tk S4),fr,CL uo.2 mo.2.1 e,.tup hG (.cons (.flat rfl) (.cons (.flat rfl) .nil)),fun H' t' F'=>?_⟩
   refine⟨_,_,rfl,?_,fun a o e n1 n2 n3=>F' a o (S4 _ _ (F3 a o e n1 n2 n3)) n1 n2⟩
   rw[tQ hj,huse,e,v5 hj,hnm,e,iT (by simp),aF]
   exact t'
 ·rintro σ H2 ⟨o5,o6,rfl,t2,F⟩
  refine fin H2 ?_ fun a xs e=>F a _ (s1 _ _ e) (iX e hrv (fun h=>nomatch h)) (iX e t.kn (fun h=>nomatch h)) (iX e hbv0 (fun h=>nomatch h))
  unfold ixv at t2
  rw[aE,bJ]at t2
  exact t2
def Fw (c:Cs) (S:fO):Sp:=fun vs H Q _=>X10 fun(H0:Hp) (x:Sx) (N:Int) (ms:List Mk3) (us:List Us) (fs:List (Int×Int)) (R:List Rw) (B:List (Int×Int)) (k:Nat) (ρ:Rw)=>Y7 (vs=[.ref x.s,.int (k:Int)]) (rT c S H0 x ms us) (Stt H0 H x N ms.length R B k) (Dat N ms us fs) (R[k]?=some ρ) (B.length<=128*k) (
 ∀H',Stt H0 H' x N ms.length (rV us ms R k ρ) (B++zC us ms ρ k) (k+ 1)->Q .non H')
theorem wd_t:(xor false (decide (wd true=("goes":Str))))=true:=iJ
theorem wd_f:(xor false (decide (wd false=("goes":Str))))=false:=iJ
theorem qT (T:Txt K mg):MO P w base mg 4 T.e48 (Fw (cs T) T.c11.a):=by
 have gE49:=nY (P:=P) (w:=w) (base:=base) T
 have gE52:=nZ (P:=P) (w:=w) (base:=base) T
 have gE50:=oh (P:=P) (w:=w) (base:=base) T
 refine T.e48.F.rd mY fun cdv A outer s H vs Q E hr h=>?_
 obtain⟨H0,x,N,ms,us,fs,R,B,k,ρ,rfl,z,t,dat,hk,hB,fin⟩:=h
 refine⟨_,(hW (pS (i:=2) mY.nd (iq iG (iQ T.c11.cl T.n11rows (cv 0)) (cv 1)))
  (hZ (iY (iw jc (iq iA (cv 2) hV) iC)
   (hZ (iS (iV (i7 (PE.mono (cv 0)) T.c11.cl T.e49.me gE49 hr.m T.e49.b .nil jq (gY (cv 1) (gY (iq iA (cv 2) hV) (gY (iq iA (cv 2) hV) hI)))))))
   (hW (iS (iV (i7 (PE.mono (cv 0)) T.c11.cl T.e50.me gE50 hr.m T.e50.b .nil jq (gY (cv 1) (gY (iq iA (cv 2) hV) (gY (iq iA (cv 2) hV) hI))))))
   (hZ (iS (iV (i7 (PE.mono (cv 0)) T.c11.cl T.e52.me gE52 hr.m T.e52.b .nil jq (gY (cv 1) (gY (iq iA (cv 2) hV) (gY (iq iA (cv 2) hV) hI))))))))))),?_⟩
 have hM:(ms.length:Int)<=128:=by have:=dat.lm;lia
 have hlen:=t.len dat.n1 hM
 have hkl:=(aq.mp hk).1
 obtain⟨rv,hrv,hrl⟩:=t.r
 obtain⟨tr,wv,h1,h2,_⟩:=D9 hrl hk
 obtain⟨o1,o2,o3,o4⟩:=t.ok ρ (aP hk)
 refine⟨_,⟨_,_,z.hs t,uU _ _ _ _ _ _ _⟩,rv,hrv,ig (ic h1) ⟨_,h2,ig (ic (j:=0) rfl) ?_⟩⟩
 obtain⟨w',a,b,y⟩:=ρ
 cases w' with
 |true=>
  dsimp only at h2 o1 o2 o3 o4⊢
  dsimp only[tC,cEq,onB]
  rw[wd_t]
  refine mj ⟨⟨_,_,z.hs t,sR "work_goes" _ _ _ _ _ _ _ iJ⟩,_,h2,_,h2,H0,x,N,ms.length,ms,us,R,B,k,a,b,y,rfl,z,t,dat.n1,hM,by lia,hk,fun H' t'=>fin H' ?_⟩
  show Stt H0 H' x N ms.length (kJ R ((kH (sv a) R k).map fun h=>(⟨false,h.2,b,some (h.1,(k:Int))⟩:Rw))) (B++[]) (k+ 1)
  rw[aF]
  exact t'
 |false=>
  dsimp only at h2 o1 o2 o3 o4⊢
  dsimp only[tC,cEq,onB]
  have ea:a=(a.toNat:Int):=by lia
  rw[wd_f]
  refine lD ⟨⟨_,_,z.hs t,sR "work_uses" _ _ _ _ _ _ _ iJ⟩,_,h2,_,h2,H0,x,N,ms,us,fs,R,B,k,(k:Int),b,a.toNat,(by rw[<-ea];rfl),z,t,dat,by lia,(fun h=>by rw[h]at hkl;exact absurd hkl (cK _)),by lia,fun H1 t1 tk=>?_⟩
  have h2':H1 tr=some (.tup [.str (wd false),.int a,.int b,wv]):=tk _ _ h2
  rw[<-ea]at t1
  obtain⟨more,em⟩:=mF us ms a (k:Int) (ixn (atU us) b us.length) R
  have eg:∀p,kH (qV p) (qw us ms a (k:Int) R (ixn (atU us) b us.length)) k=kH (qV p) R k:=fun p=>by rw[em];exact rB (cz hkl)
  refine⟨⟨_,_,z.hs t1,sR "work_here" _ _ _ _ _ _ _ iJ⟩,_,h2',_,h2',H0,x,N,ms.length,ms,us,_,_,k,b,a,y,rfl,z,t1,dat.n1,hM,by lia,by rw[em,aN hkl];exact hk,fun H' t'=>fin H' ?_⟩
  rw[eg]at t'
  exact t'
theorem _root_.BO.Internal.UsAt.to {c:Cs} {H H':Hp} {v:V} {u:Us} {s S dx:fO} (h:UsAt c H v u) (hs:H s=some (.ins S dx [])) (k:∀a o,H a=some o->a≠s->H' a=some o):UsAt c H' v u:=by
 have tk:TK H H':=fun a xs e=>k a _ e (iX e hs (fun h=>nomatch h))
 have n:∀{a:fO} {C d:fO} {p:Str×V} {r:List (Str×V)},H a=some (.ins C d (p::r))->a≠s:=fun e=>iX e hs (fun h=>by injection h with _ _ h;cases h)
 cases u with
 |num a p q=>obtain⟨x,d,rfl,e⟩:=h;exact⟨x,d,rfl,k _ _ e (n e)⟩
 |call a p q y z=>obtain⟨x,d,rfl,e⟩:=h;exact⟨x,d,rfl,k _ _ e (n e)⟩
 |take a p q l=>obtain⟨x,d,f,rfl,e,i,j⟩:=h;exact⟨x,d,f,rfl,k _ _ e (n e),i.mono tk,j⟩
 |case a p q l=>obtain⟨x,d,f,rfl,e,i,j⟩:=h;exact⟨x,d,f,rfl,k _ _ e (n e),i.mono tk,j⟩
 |row a p q y=>obtain⟨x,d,rfl,e⟩:=h;exact⟨x,d,rfl,k _ _ e (n e)⟩
theorem M3.to {c:Cs} {H H':Hp} {v:V} {m:Mk3} {s S dx:fO} (h:M3 c H v m) (hs:H s=some (.ins S dx [])) (k:∀a o,H a=some o->a≠s->H' a=some o):M3 c H' v m:=by
 have tk:TK H H':=fun a xs e=>k a _ e (iX e hs (fun h=>nomatch h))
 obtain⟨x,d,f,rfl,e,i,j⟩:=h
 exact⟨x,d,f,rfl,k _ _ e (iX e hs (fun h=>by injection h with _ _ h;cases h)),i.mono tk,j⟩
theorem stp {Hc:Hp} {s p:fO} {o u o2:HO} (Hs:Hc s=some u) (hp:Hc p=none):(∀a w,Hc a=some w->a≠s->(upd (upd Hc p o) s o2) a=some w)/\(upd (upd Hc p o) s o2) p=some o/\(upd (upd Hc p o) s o2) s=some o2/\(upd Hc p o) s=some u:=by
 have n:s≠p:=ie Hs hp
 refine⟨fun a w e m=>by rw[hX m,hX (ie e hp)];exact e,by rw[hX (Ne.symm n)];exact hG,hG,by rw[hX n];exact Hs⟩
def g1 (b:fO):List (Str×V):=[(("board":Str),V.ref b)]
def g2 (b ua:fO):List (Str×V):=g1 b++[(("uses_at":Str),V.ref ua)]
def g3 (b ua r:fO):List (Str×V):=g2 b ua++[(("rows":Str),V.ref r)]
def g4 (b ua r bd:fO):List (Str×V):=g3 b ua r++[(("bads":Str),V.ref bd)]
def g5 (b ua r bd kn:fO):List (Str×V):=g4 b ua r bd++[(("known":Str),V.ref kn)]
def g6 (b ua r bd kn g:fO):List (Str×V):=g5 b ua r bd kn++[(("goes":Str),V.ref g)]
def g7 (b ua r bd kn g h:fO):List (Str×V):=g6 b ua r bd kn g++[(("heres":Str),V.ref h)]
def CO (c:Cs) (S:fO):Sp:=fun vs H Q _=>X11 fun(s dx b bx p0 p1 p2 p3:fO) (r0:V) (uv:List V) (us:List Us)=>Y7 (vs=[.ref s,.ref b]) (H s=some (.ins S dx [])) (H b=some (.ins c.B bx (fB p0 p1 p2 p3 r0))) (H p2=some (.lst uv)) (All2 (UsAt c H) uv us) (us.length<=128) (
 ∀(ua r bd kn g h:fO) (Lu:List fO) (H':Hp),(∀a o,H a=some o->a≠s->H' a=some o)->H' s=some (.ins S dx (fS b ua r bd kn g h))->DL H' ua Lu (ixv us us.length) us.length->H' r=some (.lst [])->H' bd=some (.lst [])->H' kn=some (.dT [])->H' g=some (.dK [])->H' h=some (.dK [])->
  H r=none->H bd=none->H kn=none->H g=none->H h=none->(∀a∈Lu,a≠r/\a≠bd)->r≠bd->g≠h->ua≠g->ua≠h->Q .non H')
theorem oE (T:Txt K mg):MO P w base mg 2 T.e46 (CO (cs T) T.c11.a):=by
 have gD1:=qS (P:=P) (w:=w) (base:=base) T
 refine T.e46.F.rd oB fun cdv A outer s H vs Q E hr h=>?_
 obtain⟨s,dx,b,bx,p0,p1,p2,p3,r0,uv,us,rfl,hs,hb,h2,hU,hn,q⟩:=h
 refine⟨_,(hW (mH T.c11.cl T.n11board (jy (PE.mono (cv 0)) (PE.mono (cv 1)) rfl))
  (hW (mH T.c11.cl T.n11uses_at (jy (PE.mono (cv 0)) (PE.mono (pF T.d1 gD1 hr.m (gY (cv 1) hI))) rfl))
  (hW (mH T.c11.cl T.n11rows (jy (PE.mono (cv 0)) (PE.mono (iZ hI)) rfl))
  (hW (mH T.c11.cl T.n11bads (jy (PE.mono (cv 0)) (PE.mono (iZ hI)) rfl))
  (hW (mH T.c11.cl T.n11known (jy (PE.mono (cv 0)) (PE.mono Cn) rfl))
  (hW (mH T.c11.cl T.n11goes (jy (PE.mono (cv 0)) (PE.mono pH) rfl))
  (hZ (mH T.c11.cl T.n11heres (jy (PE.mono (cv 0)) (PE.mono pH) rfl))))))))),?_⟩
 have z0:(0:Nat)<=fY:=by decide
 refine⟨dx,_,hs,(by show 0<1000;decide),?_⟩
 have k1:∀a o,H a=some o->a≠s->(upd H s (.ins T.c11.a dx (g1 b))) a=some o:=fun a o e m=>by rw[hX m];exact e
 have hs1:(upd H s (.ins T.c11.a dx (g1 b))) s=some (.ins T.c11.a dx (g1 b)):=hG
 change sX _ _ _ _ (upd H s (.ins T.c11.a dx (g1 b)))
 generalize upd H s (.ins T.c11.a dx (g1 b))=H1 at k1 hs1⊢
 have bs:b≠s:=iX hb hs (fun h=>by injection h with _ _ h;cases h)
 refine⟨b,bx,p0,p1,p2,p3,r0,uv,us,rfl,k1 _ _ hb bs,k1 _ _ h2 (iX h2 hs (fun h=>nomatch h)),hU.imp fun _ _ h=>h.to hs k1,by lia,fun ua Lu H2 S2 nua nLu D2=>?_⟩
 refine⟨dx,_,S2 _ _ hs1,(by show 1<1000;decide),?_⟩
 rw[mh ["board"] rfl iJ]
 change sX _ _ _ _ (upd H2 s (.ins T.c11.a dx (g2 b ua)))
 have k2:∀a o,H1 a=some o->a≠s->(upd H2 s (.ins T.c11.a dx (g2 b ua))) a=some o:=fun a o e m=>by rw[hX m];exact S2 _ _ e
 have uas:ua≠s:=fun h=>by rw[h,hs1]at nua;cases nua
 have D2':DL (upd H2 s (.ins T.c11.a dx (g2 b ua))) ua Lu (ixv us us.length) us.length:=D2.keep (fun kvs e=>by rw[hX uas];exact e) (fun a l m e=>by rw[hX (fun h=>by have:=(nLu a m).1;rw[h,hs1]at this;cases this)];exact e)
 have L2.Internal:∀a∈Lu,a≠s/\∃o,(upd H2 s (.ins T.c11.a dx (g2 b ua))) a=some o:=fun a m=>by
  have as:a≠s:=fun h=>by have:=(nLu a m).1;rw[h,hs1]at this;cases this
  obtain⟨o,eo⟩:=(nLu a m).2
  exact⟨as,o,by rw[hX as];exact eo⟩
 have hs2:(upd H2 s (.ins T.c11.a dx (g2 b ua))) s=some (.ins T.c11.a dx (g2 b ua)):=hG
 generalize upd H2 s (.ins T.c11.a dx (g2 b ua))=H3 at k2 D2' hs2 L2.Internal⊢
 obtain⟨kv,eua,D3⟩:=D2'
 have DD:DL H3 ua Lu (ixv us us.length) us.length:=⟨kv,eua,D3⟩
 have lne:∀{Hx:Hp} {f:Int->List V} {n:Nat} {p:fO},DL Hx ua Lu f n->Hx p=none->ua≠p:=fun D e h=>by obtain⟨_,e2,_⟩:=D;rw[h,e]at e2;cases e2
 refine⟨z0,fun r hr0=>⟨dx,_,(stp (o:= .lst []) (o2:= .lst []) hs2 hr0).2.2.2,(by show 2<1000;decide),?_⟩⟩
 rw[mh ["board","uses_at"] rfl iJ]
 change sX _ _ _ _ (upd (upd H3 r (.lst [])) s (.ins T.c11.a dx (g3 b ua r)))
 obtain⟨k3,er3,hs3,_⟩:=stp (o:= .lst []) (o2:= .ins T.c11.a dx (g3 b ua r)) hs2 hr0
 have rs:r≠s:=fun h=>by rw[h,hs2]at hr0;cases hr0
 generalize upd (upd H3 r (.lst [])) s (.ins T.c11.a dx (g3 b ua r))=H4 at k3 er3 hs3⊢
 refine⟨z0,fun bd hbd=>⟨dx,_,(stp (o:= .lst []) (o2:= .lst []) hs3 hbd).2.2.2,(by show 3<1000;decide),?_⟩⟩
 rw[mh ["board","uses_at","rows"] rfl iJ]
 change sX _ _ _ _ (upd (upd H4 bd (.lst [])) s (.ins T.c11.a dx (g4 b ua r bd)))
 obtain⟨k4,ebd4,hs4,_⟩:=stp (o:= .lst []) (o2:= .ins T.c11.a dx (g4 b ua r bd)) hs3 hbd
 have rb:r≠bd:=fun h=>by rw[<-h,er3]at hbd;cases hbd
 have bds:bd≠s:=fun h=>by rw[h,hs3]at hbd;cases hbd
 generalize upd (upd H4 bd (.lst [])) s (.ins T.c11.a dx (g4 b ua r bd))=H5 at k4 ebd4 hs4⊢
 refine fun kn hkn=>⟨dx,_,(stp (o:= .dT []) (o2:= .lst []) hs4 hkn).2.2.2,(by show 4<1000;decide),?_⟩
 rw[mh ["board","uses_at","rows","bads"] rfl iJ]
 change sX _ _ _ _ (upd (upd H5 kn (.dT [])) s (.ins T.c11.a dx (g5 b ua r bd kn)))
 obtain⟨k5,ekn5,hs5,_⟩:=stp (o:= .dT []) (o2:= .ins T.c11.a dx (g5 b ua r bd kn)) hs4 hkn
 generalize upd (upd H5 kn (.dT [])) s (.ins T.c11.a dx (g5 b ua r bd kn))=H6 at k5 ekn5 hs5⊢
 have kns:kn≠s:=iX ekn5 hs5 (fun h=>nomatch h)
 refine fun g hg=>⟨dx,_,(stp (o:= .dK []) (o2:= .lst []) hs5 hg).2.2.2,(by show 5<1000;decide),?_⟩
 rw[mh ["board","uses_at","rows","bads","known"] rfl iJ]
 change qb.nx _ _ (upd (upd H6 g (.dK [])) s (.ins T.c11.a dx (g6 b ua r bd kn g)))
 obtain⟨k6,eg6,hs6,_⟩:=stp (o:= .dK []) (o2:= .ins T.c11.a dx (g6 b ua r bd kn g)) hs5 hg
 have gs:g≠s:=iX eg6 hs6 (fun h=>nomatch h)
 have e6:∀a o,H3 a=some o->a≠s->H6 a=some o:=fun a o e m=>k5 _ _ (k4 _ _ (k3 _ _ e m) m) m
 have uag:ua≠g:=fun h=>by rw[<-h,e6 _ _ eua uas]at hg;cases hg
 generalize upd (upd H6 g (.dK [])) s (.ins T.c11.a dx (g6 b ua r bd kn g))=H7 at k6 eg6 hs6⊢
 refine fun h hh=>⟨dx,_,(stp (o:= .dK []) (o2:= .lst []) hs6 hh).2.2.2,(by show 6<1000;decide),?_⟩
 rw[mh ["board","uses_at","rows","bads","known","goes"] rfl iJ]
 show Q .non (upd (upd H7 h (.dK [])) s (.ins T.c11.a dx (g7 b ua r bd kn g h)))
 obtain⟨k7,eh7,hs7,_⟩:=stp (o:= .dK []) (o2:= .ins T.c11.a dx (g7 b ua r bd kn g h)) hs6 hh
 have uah:ua≠h:=fun z=>by rw[<-z,k6 _ _ (e6 _ _ eua uas) uas]at hh;cases hh
 have gh:g≠h:=fun z=>by rw[<-z,eg6]at hh;cases hh
 have e8:∀a o,H3 a=some o->a≠s->(upd (upd H7 h (.dK [])) s (.ins T.c11.a dx (g7 b ua r bd kn g h))) a=some o:=fun a o e m=>k7 _ _ (k6 _ _ (e6 a o e m) m) m
 have nn:∀{Hx:Hp} {p:fO},(∀a o,H a=some o->a≠s->Hx a=some o)->Hx p=none->p≠s->H p=none:=fun{Hx p} k e m=>by
  cases z:H p with
  |none=>rfl
  |some o=>rw[k p o z m]at e;cases e
 refine q ua r bd kn g h Lu _ (fun a o e m=>e8 a o (k2 _ _ (k1 _ _ e m) m) m) hs7 (DD.keep (fun kvs e=>e8 _ _ e uas) (fun a l m e=>e8 _ _ e (iX e hs2 (fun h=>nomatch h)))) ?_ ?_ ?_ (k7 _ _ eg6 gs) eh7 ?_ ?_ ?_ ?_ ?_ ?_ rb gh uag uah
 ·exact k7 _ _ (k6 _ _ (k5 _ _ (k4 _ _ er3 rs) rs) rs) rs
 ·exact k7 _ _ (k6 _ _ (k5 _ _ ebd4 bds) bds) bds
 ·exact k7 _ _ (k6 _ _ ekn5 kns) kns
 ·exact nn (fun a o e m=>k2 _ _ (k1 _ _ e m) m) hr0 rs
 ·exact nn (fun a o e m=>k3 _ _ (k2 _ _ (k1 _ _ e m) m) m) hbd bds
 ·exact nn (fun a o e m=>k4 _ _ (k3 _ _ (k2 _ _ (k1 _ _ e m) m) m) m) hkn kns
 ·exact nn (fun a o e m=>e6 _ _ (k2 _ _ (k1 _ _ e m) m) m) hg gs
 ·exact nn (fun a o e m=>k6 _ _ (e6 _ _ (k2 _ _ (k1 _ _ e m) m) m) m) hh (iX eh7 hs7 (fun h=>nomatch h))
 ·intro a m
  obtain⟨as,o,eo⟩:=L2.Internal a m
  exact⟨fun h=>(by rw[h,hr0]at eo;cases eo),fun h=>(by have:=k3 _ _ eo as;rw[h,hbd]at this;cases this)⟩
theorem Bl {us:List Us} {ms:List Mk3} {R:List Rw}:∀k:Nat,(kH (zC us ms) R k).length<=us.length*k
 |0=>cB _
 |k+ 1=>by
  have ih:=Bl (us:=us) (ms:=ms) (R:=R) k
  rw[kH,aQ,Nat.mul_succ]
  have:(match R[k]? with
   |some r=>zC us ms r k
   |none=>[]).length<=us.length:=by
   cases R[k]? with
   |none=>exact cC _
   |some r=>
    show(zC us ms r k).length<=us.length
    unfold zC
    cases r.w with
    |true=>exact cC _
    |false=>exact E1
  exact Nat.add_le_add ih this
theorem two0 {H0:Hp} {d e:fO} {N M:Int->List (Int×Int)} (hd:H0 d=some (.dK [])) (he:H0 e=some (.dK [])) (hN:∀p,N p=[]) (hM:∀p,M p=[]):Two H0 H0 d e N M 0 [] [] (fun _=>[]) (fun _=>[]):=
 ⟨⟨[],hd,cC _,fun _ _=>rfl,fun _ _ h=>(by cases h),fun _ _ _ h=>(by cases h)⟩,⟨[],he,cC _,fun _ _=>rfl,fun _ _ h=>(by cases h),fun _ _ _ h=>(by cases h)⟩,fun _ h=>absurd h bo,fun _ h=>absurd h bo,fun _ h=>absurd h bo,
  fun p=>⟨cC _,by rw[hN p];exact .nil⟩,fun p=>⟨cC _,by rw[hM p];exact .nil⟩⟩
def flR (fs:List (Int×Int)):List Rw:=fs.map fun p=>⟨true,p.1,p.2,none⟩
def heR (ms:List Mk3):Nat->List Rw
 |0=>[]
 |n+ 1=>heR ms n++match ms[n]? with
  |some mk=>[⟨false,(n:Int),mk.a,none⟩]
  |none=>[]
theorem Fy {ms:List Mk3} {n:Nat} {mk:Mk3} (h:ms[n]?=some mk):heR ms (n+ 1)=heR ms n++[⟨false,(n:Int),mk.a,none⟩]:=by rw[heR,h]
def yC (fs:List (Int×Int)) (ms:List Mk3):List Rw:=kJ (kJ [] (flR fs)) (heR ms ms.length)
inductive qU (us:List Us) (ms:List Mk3) (R0:List Rw):Nat->List Rw->Prop
 |zero:qU us ms R0 0 R0
 |step {k:Nat} {R:List Rw} {ρ:Rw}:qU us ms R0 k R->R[k]?=some ρ->qU us ms R0 (k+ 1) (rV us ms R k ρ)
def zw (c:Cs) (L:fO):Sp:=fun vs H Q _=>X13 fun(b bx p0 p1 p2 p3:fO) (N:Int) (mv uv fv:List V) (ms:List Mk3) (us:List Us) (fs:List (Int×Int))=>Y10 (vs=[.ref b]) (H b=some (.ins c.B bx (fB p0 p1 p2 p3 (.int 0)))) (H p1=some (.lst mv)) (All2 (M3 c H) mv ms) (H p2=some (.lst uv)) (All2 (UsAt c H) uv us) (H p3=some (.lst fv)) (Ims H fv (fs.map flD)) (Dat N ms us fs) (
 ∀(l dl r bd:fO) (H':Hp) (rv bv:List V) (R:List Rw),iE H H'->H' l=some (.ins L dl (fL r bd))->H' r=some (.lst rv)->Ims H' rv (R.map Rw.d)->H' bd=some (.lst bv)->Ims H' bv ((kH (zC us ms) R R.length).map flD)->(∀ρ∈R,ρ.ok N ms.length)->R.length<=32768->(R.map Rw.k).Nodup->qU us ms (yC fs ms) R.length R->Q (.ref l) H')
theorem zx (T:Txt K mg):FO P w base 5 T.d7 (zw (cs T) T.c10.a):=by
 have gE46:=oE (P:=P) (w:=w) (base:=base) T
 have gE47:=kE (P:=P) (w:=w) (base:=base) T
 have gE48:=qT (P:=P) (w:=w) (base:=base) T
 have gE45:=rS (P:=P) (w:=w) (base:=base) T
 refine T.d7.F.rd kM fun cdv A outer s H vs Q E hr h=>?_
 obtain⟨b,bx,p0,p1,p2,p3,N,mv,uv,fv,ms,us,fs,rfl,hb,h1,hM,h2,hU,h3,hF,dat,q⟩:=h
 refine⟨_,(hW (pS (i:=1) kM.nd (ku T.mk11 gE46 hr.m rfl T.c11.m T.e46.b .nil jq (gY (cv 0) hI)))
  (hW (jN PassesOwn.never rfl (j3 (iQ T.c8.cl T.n8flows (cv 0))) (pN (i:=2) kM.nd)
   (hZ (iS (iV (i7 (PE.mono (cv 1)) T.c11.cl T.e47.me gE47 hr.m T.e47.b .nil jq (gY iC (gY (iq iA (cv 2) hV) (gY (iq iA (cv 2) hV) (gY pB hI)))))))))
  (hW (jN PassesOwn.never rfl (wH rfl T.z_enumerate (gY (iQ T.c8.cl T.n8makes (cv 0)) hI)) (sY rfl (ke (pN (i:=3) kM.nd) (ke (pN (i:=4) kM.nd) qc)))
   (hZ (iS (iV (i7 (PE.mono (cv 1)) T.c11.cl T.e47.me gE47 hr.m T.e47.b .nil jq (gY iC (gY (cv 3) (gY (iQ T.c1.cl T.n1at (cv 4)) (gY pB hI)))))))))
  (hW (pS (i:=5) kM.nd hV)
  (hW (xH PassesOwn.never (iw Cw (cv 5) (iN iP rfl T.z_len jO (gY (iQ T.c11.cl T.n11rows (cv 1)) hI)))
   (hW (iS (iV (i7 (PE.mono (cv 1)) T.c11.cl T.e48.me gE48 hr.m T.e48.b .nil jq (gY (cv 5) hI))))
   (hZ (Gr (i:=5) kM.nd rfl (.inl rfl) hV Gu))))
  (hZ (iH (ku T.mk10 gE45 hr.m rfl T.c10.m T.e45.b .nil jq (gY (iQ T.c11.cl T.n11rows (cv 1)) (gY (iQ T.c11.cl T.n11bads (cv 1)) hI)))))))))),?_⟩
 have sl:=fZ
 have hM64:(ms.length:Int)<=128:=by have:=dat.lm;lia
 refine fun s dx hs hdx _=>?_
 have S1:iE H (upd (upd H dx (.own s)) s (.ins T.c11.a dx [])):=iW hs hdx
 have es:(upd (upd H dx (.own s)) s (.ins T.c11.a dx [])) s=some (.ins T.c11.a dx []):=hG
 have fresh:∀a,(upd (upd H dx (.own s)) s (.ins T.c11.a dx [])) a=none->H a=none:=fun a e=>by
  cases z:H a with
  |none=>rfl
  |some o=>rw[S1 _ _ z]at e;cases e
 generalize upd (upd H dx (.own s)) s (.ins T.c11.a dx [])=H1 at S1 es fresh⊢
 refine⟨s,dx,b,bx,p0,p1,p2,p3,_,uv,us,rfl,es,S1 _ _ hb,S1 _ _ h2,hU.imp fun _ _ h=>h.mono (iE.fk S1),dat.lu,fun ua r bd kn g h Lu H0 k hS D er ebd ekn eg eh nr nbd nkn ng nh nL rb gh uag uah=>⟨rfl,?_⟩⟩
 have sN:∀{a:fO} {o:HO},H a=some o->a≠s:=fun e z=>by rw[z,hs]at e;cases e
 have keepH:∀a o,H a=some o->H0 a=some o:=fun a o e=>k _ _ (S1 _ _ e) (sN e)
 have pn:∀{a p:fO} {o:HO},H a=some o->H1 p=none->a≠p:=fun e z=>ie e (fresh _ z)
 have Z:rT (cs T) T.c11.a H0 ⟨s,dx,b,bx,p0,p1,p2,p3,ua,r,bd,kn,g,h,Lu⟩ ms us:=
  ⟨hS,keepH _ _ hb,⟨mv,keepH _ _ h1,hM.imp fun _ _ h=>(show M3 _ H1 _ _ from qF.mono (iE.fk S1) h).to es k⟩,⟨uv,keepH _ _ h2,hU.imp fun _ _ h=>(h.mono (iE.fk S1)).to es k⟩,D,⟨_,er⟩,⟨_,ebd⟩,⟨_,ekn⟩,⟨_,eg⟩,⟨_,eh⟩,rb,gh,uag,uah,pn h1 nr,pn h1 nbd,pn h2 nr,pn h2 nbd,nL⟩
 have T0:Stt H0 H0 ⟨s,dx,b,bx,p0,p1,p2,p3,ua,r,bd,kn,g,h,Lu⟩ N ms.length [] [] 0:=
  ⟨fun a o e _ _ _ _ _=>e,⟨[],er,.nil⟩,⟨[],ebd,.nil⟩,ekn,⟨_,_,_,_,two0 eg eh (fun _=>rfl) (fun _=>rfl)⟩,aW,fun _ h=>absurd h bo,cB _⟩
 have e3:=keepH _ _ h3
 have n31:=pn h3 nr
 have n32:=pn h3 nbd
 have hF0:Ims H0 fv (fs.map flD):=hF.mono fun a xs e=>keepH _ _ e
 generalize hx:(⟨s,dx,b,bx,p0,p1,p2,p3,ua,r,bd,kn,g,h,Lu⟩:Sx)=x at Z T0
 have xs_:x.s=s:=by rw[<-hx]
 have xb:x.b=b:=by rw[<-hx]
 have xr:x.r=r:=by rw[<-hx]
 have xbd:x.bd=bd:=by rw[<-hx]
 have hbo:∀{H2:Hp} {R:List Rw} {B:List (Int×Int)} {k:Nat},Stt H0 H2 x N ms.length R B k->H2 b=some (.ins (cs T).B bx (fB p0 p1 p2 p3 (.int 0))):=fun t=>by
  have:=Z.hb t
  rw[<-hx]at this
  exact this
 have hso:∀{H2:Hp} {R:List Rw} {B:List (Int×Int)} {k:Nat},Stt H0 H2 x N ms.length R B k->H2 s=some (.ins T.c11.a dx (fS b ua r bd kn g h)):=fun t=>by
  have:=Z.hs t
  rw[<-hx]at this
  exact this
 have fl:∀{H2:Hp} {R:List Rw} {B:List (Int×Int)} {k:Nat},Stt H0 H2 x N ms.length R B k->H2 p3=some (.lst fv):=fun t=>Z.lst t e3 (by rw[xr];exact n31) (by rw[xbd];exact n32)
 have tkk:∀{H2:Hp} {R:List Rw} {B:List (Int×Int)} {k:Nat},Stt H0 H2 x N ms.length R B k->TK H0 H2:=fun t a xs e=>Z.fix t e (fun _ h=>nomatch h) (fun _ h=>nomatch h) (fun _ h=>nomatch h)
 refine⟨_,⟨_,_,hbo T0,yw _ _ _ _ _⟩,p3,rfl,⟨_,SqL.of (fl T0)⟩,lq (xs:=fv) (fun i σ H2=>X4 fun(o2 o3 o4 o5:Option V)=>σ=[some (.ref b),some (.ref s),o2,o3,o4,o5]/\Stt H0 H2 x N ms.length (kJ [] (flR (fs.take i))) [] 0)
  ⟨none,none,none,none,rfl,T0⟩ (fun i σ H2 _ ⟨_,_,_,_,_,t⟩=>SqL.of (fl t)) ?_ ?_⟩
 ·rintro i v σ H2 hv ⟨o2,o3,o4,o5,rfl,t⟩
  obtain⟨p,tt,hp,rfl,et⟩:=vX hF0 hv
  have et2:=tkk t _ _ et
  have hpm:=dat.fo p (aP hp)
  refine⟨⟨_,_,hso t,sR "put" _ _ _ _ _ _ _ iJ⟩,_,et2,_,et2,H0,x,N,ms.length,ms,us,_,[],0,⟨true,p.1,p.2,none⟩,.non,by rw[xs_];rfl,Z,t,dat.n1,hM64,.flat rfl,⟨hpm.1.1,hpm.1.2,hpm.2.1,hpm.2.2⟩,fun H' t' _=>⟨_,_,_,_,rfl,?_⟩⟩
  unfold flR
  rw[qW hp,mB]
  exact t'
 ·rintro σ H2 ⟨o2,o3,o4,o5,rfl,t⟩
  have hfl:=hF0.length
  rw[aE]at hfl
  rw[hfl,bJ]at t
  have ml:∀{H2:Hp} {R:List Rw} {B:List (Int×Int)} {k:Nat},Stt H0 H2 x N ms.length R B k->H2 p1=some (.lst mv):=fun t=>Z.lst t (keepH _ _ h1) (by rw[xr];exact pn h1 nr) (by rw[xbd];exact pn h1 nbd)
  refine⟨_,⟨_,_,hbo t,mQ _ _ _ _ _⟩,p1,rfl,⟨_,SqL.of (ml t)⟩,uS (xs:=mv) (fun i σ H2=>X4 fun(o2 o3 o4 o5:Option V)=>σ=[some (.ref b),some (.ref s),o2,o3,o4,o5]/\Stt H0 H2 x N ms.length (kJ (kJ [] (flR fs)) (heR ms i)) [] 0)
   ⟨_,_,_,_,rfl,t⟩ (fun i σ H2 _ ⟨_,_,_,_,_,t⟩=>SqL.of (ml t)) ?_ ?_⟩
  ·rintro i v σ H2 tt hv ⟨o2,o3,o4,o5,rfl,t⟩ htt
   obtain⟨mv0,em0,hM0⟩:=Z.m
   have eqv:mv0=mv:=by
    have:H0 x.p1=some (.lst mv):=by rw[<-hx];exact keepH _ _ h1
    rw[em0]at this
    cases this
    rfl
   subst eqv
   obtain⟨mk,hmk,hm3⟩:=hM0.get hv
   have hil:=(aq.mp hmk).1
   have hmo:=dat.mo mk (aP hmk)
   have sT:=gZ htt (.tup [.int (i:Int),v])
   refine⟨tt,_,rfl,SqT.of hG,rfl,_,_,rfl,_,_,rfl,rfl,?_⟩
   have t1:=t.same sT
   generalize upd H2 tt (.tup [.int (i:Int),v])=H3 at t1⊢
   obtain⟨xm,dxm,f,rfl,exm,_⟩:=qF.mono (Z.fk t1) hm3
   refine⟨⟨_,_,hso t1,sR "put" _ _ _ _ _ _ _ iJ⟩,_,⟨_,_,exm,IS _ _ _ _⟩,H0,x,N,ms.length,ms,us,_,[],0,⟨false,(i:Int),mk.a,none⟩,.non,by rw[xs_];rfl,Z,t1,dat.n1,hM64,.flat rfl,⟨by show(0:Int)<=(i:Int);lia,by show(i:Int)<(ms.length:Int);lia,hmo.2.2.1,hmo.2.2.2⟩,fun H' t' _=>⟨_,_,_,_,rfl,?_⟩⟩
   rw[Fy hmk,mB]
   exact t'
  ·rintro σ H2 ⟨o2,o3,o4,o5,rfl,t⟩
   have hml:=hM.length
   rw[hml]at t
   refine⟨fun m σ H2=>X5 fun(o2 o3 o4:Option V) (k:Nat) (R:List Rw)=>Y5 (m=33000-k) (σ=[some (.ref b),some (.ref s),o2,o3,o4,some (.int (k:Int))]) (k<=R.length) (qU us ms (yC fs ms) k R) (Stt H0 H2 x N ms.length R (kH (zC us ms) R k) k),⟨_,_,_,_,0,_,rfl,rfl,cC _,.zero,t⟩,?_⟩
   rintro m σ H2 ⟨o2,o3,o4,k,R,rfl,rfl,hk,hre,t⟩
   have hlen:=t.len dat.n1 hM64
   obtain⟨rv,hrv,hrl⟩:=t.r
   have hrn:rv.length=R.length:=by rw[hrl.length,aE]
   refine⟨_,⟨_,_,hso t,uU _ _ _ _ _ _ _⟩,r,_,rfl,.inl (SqL.of (by rw[<-xr];exact hrv)),?_⟩
   by_cases hkl:k<R.length
   ·dsimp only[cI0,onB]
    rw[jJ (show(k:Int)<(rv.length:Int) by lia)]
    refine mj ⟨fun σ' H'=>∃m',m'<33000-k/\X5 fun(o2 o3 o4:Option V) (k:Nat) (R:List Rw)=>Y5 (m'=33000-k) (σ'=[some (.ref b),some (.ref s),o2,o3,o4,some (.int (k:Int))]) (k<=R.length) (qU us ms (yC fs ms) k R) (Stt H0 H' x N ms.length R (kH (zC us ms) R k) k),fun _ _ h=>h,?_⟩
    obtain⟨ρ,hρ⟩:∃ρ,R[k]?=some ρ:=⟨_,bj hkl⟩
    have dl:=Bl (us:=us) (ms:=ms) (R:=R) k
    have:=dat.lu
    refine⟨⟨_,_,hso t,sR "work" _ _ _ _ _ _ _ iJ⟩,H0,x,N,ms,us,fs,R,_,k,ρ,by rw[xs_];rfl,Z,t,dat,hρ,cy dl (cP k this),fun H' t'=>?_⟩
    obtain⟨more,em⟩:=vZ us ms R k ρ
    refine⟨_,rfl,_,_,rfl,rfl,33000-(k+ 1),by lia,_,_,_,k+ 1,rV us ms R k ρ,rfl,rfl,by rw[em,aQ];lia,.step hre hρ,?_⟩
    rw[em]at t'⊢
    rw[rB (R:=R) (S:=more) (n:=k+ 1) hkl,rC hρ]
    exact t'
   ·have ek:k=R.length:=by lia
    subst ek
    obtain⟨bv,hbv,hbl⟩:=t.bd
    dsimp only[cI0,onB]
    rw[jR (show ¬((R.length:Nat):Int)<(rv.length:Int) by lia)]
    refine lD ⟨_,⟨_,_,hso t,uU _ _ _ _ _ _ _⟩,_,⟨_,_,hso t,Bi _ _ _ _ _ _ _⟩,fun l dl hl hdl _=>?_⟩
    refine⟨l,dl,r,bd,rfl,hG,rfl,?_⟩
    rw[jk]
    have S9:iE H2 (upd (upd H2 dl (.own l)) l (.ins T.c10.a dl (fL r bd))):=iW hl hdl
    refine q l dl r bd _ rv bv R (fun a o e=>S9 _ _ (t.keep a o (keepH _ _ e) (by rw[xr];exact pn e nr) (by rw[xbd];exact pn e nbd) ?_ ?_ ?_)) hG (by have:=S9 _ _ hrv;rw[xr]at this;exact this) (hrl.mono (iE.tk S9)) (by have:=S9 _ _ hbv;rw[xbd]at this;exact this) (hbl.mono (iE.tk S9)) t.ok hlen t.nd hre
    ·rw[<-hx];exact pn e nkn
    ·rw[<-hx];exact pn e ng
    ·rw[<-hx];exact pn e nh
theorem rW {r:Rw}:∀{l R:List Rw},r∈kJ R l->r∈R\/r∈l
 |[],R,h=> .inl h
 |ρ::l,R,h=>by
  rcases rW (l:=l) (R:=vI R ρ) h with h|h
  ·unfold vI at h
   split at h
   ·exact .inl h
   ·rcases ak.mp h with h|h
    ·exact .inl h
    ·simp only[bh]at h
     exact .inr (by simp[h])
  ·exact .inr (by simp[h])
def Cau (us:List Us) (ms:List Mk3) (Rp:List Rw) (ρ:Rw):Prop:=X7 fun(n1 n2:Int) (i j:Nat) (m p:Int) (y:Option (Int×Int))=>Y5 (ρ.y=some (n1,n2)) (n1=i) (n2=j) (Rp[i]?=some ⟨false,m,p,y⟩) (match ρ.w with
 |true=>∃(u:Us) (mk:Mk3) (l:List (Int×Int)),us[j]?=some u/\u.at=p/\ms[m.toNat]?=some mk/\lI u mk.f=some l/\(ρ.a,ρ.b)∈l
 |false=>m=ρ.a/\∃y',Rp[j]?=some ⟨true,p,ρ.b,y'⟩)
theorem rX {α:Type} {R S:List α} {i:Nat} {x:α} (h:R[i]?=some x):(R++S)[i]?=some x:=by
 rw[aN (aq.mp h).1]
 exact h
theorem Cau.app {us:List Us} {ms:List Mk3} {R:List Rw} {ρ:Rw} (h:Cau us ms R ρ) (S:List Rw):Cau us ms (R++S) ρ:=by
 obtain⟨n1,n2,i,j,m,p,y,e1,e2,e3,e4,h⟩:=h
 refine⟨n1,n2,i,j,m,p,y,e1,e2,e3,rX e4,?_⟩
 cases hw:ρ.w with
 |true=>rw[hw]at h;exact h
 |false=>
  rw[hw]at h
  obtain⟨h1,y',h2⟩:=h
  exact⟨h1,y',rX h2⟩
structure Cz (us:List Us) (ms:List Mk3) (R0 R:List Rw):Prop where
 pre:∃more,R=R0++more
 cau:∀(i:Nat) (ρ:Rw),R0.length<=i->R[i]?=some ρ->Cau us ms (R.take i) ρ
section
variable {us:List Us} {ms:List Mk3} {R0 R:List Rw}
theorem Cz.put (c:Cz us ms R0 R) {ρ:Rw} (h:Cau us ms R ρ):Cz us ms R0 (vI R ρ):=by
 unfold vI
 split
 ·exact c
 ·obtain⟨more,e⟩:=c.pre
  refine⟨⟨more++[ρ],by rw[e,bD]⟩,fun i r hi hr=>?_⟩
  by_cases hl:i<R.length
  ·rw[aN hl]at hr
   rw[bX (cz hl)]
   exact c.cau i r hi hr
  ·have:=(aq.mp hr).1
   rw[aQ,aY]at this
   have ei:i=R.length:=by lia
   subst ei
   rw[bY]at hr
   cases hr
   rw[bX (cB _),bJ]
   exact h
theorem Cz.puts:∀{l R:List Rw},Cz us ms R0 R->(∀ρ∈l,Cau us ms R ρ)->Cz us ms R0 (kJ R l)
 |[],R,c,_=>c
 |ρ::l,R,c,h=>by
  obtain⟨more,e⟩:=ya R ρ
  refine Cz.puts (l:=l) (R:=vI R ρ) (c.put (h ρ (by simp))) fun r hr=>?_
  rw[e]
  exact(h r (by simp[hr])).app more
theorem Cz.uses {k:Nat} {m p:Int} {y:Option (Int×Int)}:∀{L:List Int} {R:List Rw},Cz us ms R0 R->R[k]?=some ⟨false,m,p,y⟩->(∀x∈L,∃j:Nat,x=j/\atU us j=some p)->Cz us ms R0 (qw us ms m (k:Int) R L)
 |[],R,c,_,_=>c
 |x::L,R,c,hk,h=>by
  obtain⟨j,rfl,ha⟩:=h x (by simp)
  obtain⟨more,e⟩:=yB us ms m (k:Int) R (j:Int)
  refine Cz.uses (L:=L) (R:=yA us ms m (k:Int) R (j:Int)) ?_ (by rw[e];exact rX hk) fun x hx=>h x (by simp[hx])
  unfold yA
  rw[eZ]
  unfold atU at ha
  cases hu:us[j]? with
  |none=>rw[hu]at ha;cases ha
  |some u=>
   rw[hu]at ha
   cases hm:ms[m.toNat]? with
   |none=>exact c
   |some mk=>
    dsimp only
    cases hl:lI u mk.f with
    |none=>exact c
    |some l=>
     refine c.puts fun ρ hρ=>?_
     obtain⟨q,hq,rfl⟩:=bp.mp hρ
     exact⟨_,_,k,j,m,p,y,rfl,rfl,rfl,hk,u,mk,l,hu,cR.inj ha,hm,hl,hq⟩
theorem Cz.step (c:Cz us ms R0 R) {k:Nat} {ρ:Rw} (hk:R[k]?=some ρ):Cz us ms R0 (rV us ms R k ρ):=by
 obtain⟨w,a,b,y⟩:=ρ
 unfold rV
 cases w with
 |true=>
  dsimp only
  refine c.puts fun r hr=>?_
  obtain⟨h,hh,rfl⟩:=bp.mp hr
  obtain⟨n,y1,e1,_,e2⟩:=AE hh
  exact⟨_,_,n,k,h.2,a,y1,rfl,e1,rfl,e2,rfl,y,hk⟩
 |false=>
  dsimp only
  have c1:=c.uses hk (L:=ixn (atU us) b us.length) fun x hx=>let⟨j,e1,_,e2⟩:=wJ hx;⟨j,e1,e2⟩
  obtain⟨more,e⟩:=mF us ms a (k:Int) (ixn (atU us) b us.length) R
  refine c1.puts fun r hr=>?_
  obtain⟨h,hh,rfl⟩:=bp.mp hr
  obtain⟨n,y1,e1,_,e2⟩:=AD hh
  rw[e]
  exact⟨_,_,k,n,a,b,y,rfl,rfl,e1,rX hk,rfl,y1,rX e2⟩
theorem yD {k:Nat} (h:qU us ms R0 k R):Cz us ms R0 R:=by
 induction h with
 |zero=>exact⟨⟨[],(aF _).symm⟩,fun i ρ hi hr=>absurd (aq.mp hr).1 (by lia)⟩
 |step _ hk ih=>exact ih.step hk
end
theorem CP {R:List Rw} {ρ:Rw}:ρ.k∈(vI R ρ).map Rw.k:=by
 unfold vI
 split
 ·assumption
 ·rw[bB];simp
theorem qz {R S:List Rw} {q:List Key} (h:q∈R.map Rw.k):q∈(R++S).map Rw.k:=by rw[bB];exact ao _ h
theorem uV {q:List Key} {R:List Rw} (l:List Rw) (h:q∈R.map Rw.k):q∈(kJ R l).map Rw.k:=by
 obtain⟨m,e⟩:=lK l R
 rw[e]
 exact qz h
theorem oy {ρ:Rw}:∀{l R:List Rw},ρ∈l->ρ.k∈(kJ R l).map Rw.k
 |r::l,R,h=>by
  rcases aj.mp h with e|e
  ·subst e;exact uV l CP
  ·exact oy (l:=l) (R:=vI R r) e
theorem yE {f:Rw->Int->List (Int×Int)} {R:List Rw} {x:Int×Int} {n:Nat} {r:Rw} (hr:R[n]?=some r) (hx:x∈f r n):∀{k:Nat},n<k->x∈kH f R k
 |k+ 1,h=>by
  rw[kH]
  by_cases e:n=k
  ·subst e;rw[hr];exact az _ hx
  ·exact ao _ (yE hr hx (by lia))
def gK (a b:Int):List Key:=(⟨true,a,b,none⟩:Rw).k
def hK (a b:Int):List Key:=(⟨false,a,b,none⟩:Rw).k
structure Cl (us:List Us) (ms:List Mk3) (k:Nat) (R:List Rw):Prop where
 u:∀(i:Nat) (m p:Int) (y:Option (Int×Int)),i<k->R[i]?=some ⟨false,m,p,y⟩->∀(j:Nat) (u:Us) (mk:Mk3) (l:List (Int×Int)),us[j]?=some u->u.at=p->ms[m.toNat]?=some mk->lI u mk.f=some l->∀q∈l,gK q.1 q.2∈R.map Rw.k
 g:∀(i j:Nat) (m p q:Int) (y y':Option (Int×Int)),i<k->j<k->R[i]?=some ⟨false,m,p,y⟩->R[j]?=some ⟨true,p,q,y'⟩->hK m q∈R.map Rw.k
theorem yF {us:List Us} {ms:List Mk3} {m n:Int} {j:Nat} {u:Us} {mk:Mk3} {l:List (Int×Int)} (hu:us[j]?=some u) (hm:ms[m.toNat]?=some mk) (hl:lI u mk.f=some l) {q:Int×Int} (hq:q∈l):∀{L:List Int} {R:List Rw},(j:Int)∈L->gK q.1 q.2∈(qw us ms m n R L).map Rw.k
 |x::L,R,h=>by
  by_cases e:x=(j:Int)
  ·subst e
   obtain⟨m1,e1⟩:=mF us ms m n L (yA us ms m n R (j:Int))
   show gK q.1 q.2∈(qw us ms m n (yA us ms m n R (j:Int)) L).map Rw.k
   rw[e1]
   refine qz ?_
   unfold yA
   rw[eZ,hu,hm]
   dsimp only
   rw[hl]
   exact oy (ρ:=⟨true,q.1,q.2,some (n,(j:Int))⟩) (bp.mpr ⟨q,hq,rfl⟩)
  ·rcases aj.mp h with h|h
   ·exact absurd h.symm e
   ·exact yF hu hm hl hq (L:=L) (R:=yA us ms m n R x) h
theorem Ea {A:Nat->Option Int} {p:Int} {n j:Nat} (hj:j<n) (h:A j=some p):(j:Int)∈ixn A p n:=by
 unfold ixn
 exact bp.mpr ⟨j,ab.mpr ⟨ae.mpr hj,by simp[h]⟩,rfl⟩
section
variable {us:List Us} {ms:List Mk3} {R0 R:List Rw}
theorem CQ {k:Nat} (h:qU us ms R0 k R):Cl us ms k R:=by
 induction h with
 |zero=>exact⟨fun i _ _ _ h=>absurd h (cK _),fun i _ _ _ _ _ _ h=>absurd h (cK _)⟩
 |@step k R ρ hre hk ih=>
  obtain⟨more,e⟩:=vZ us ms R k ρ
  have hkl:=(aq.mp hk).1
  have back:∀{i:Nat} {r:Rw},i<k+ 1->(rV us ms R k ρ)[i]?=some r->R[i]?=some r:=fun{i r} hi h=>by
   rw[e,aN (by lia)]at h
   exact h
  refine⟨fun i m p y hi hr j u mk l hu hat hm hl q hq=>?_,fun i j m p q y y' hi hj hr hr2=>?_⟩
  ·replace hr:=back hi hr
   by_cases ei:i=k
   ·subst ei
    rw[hk]at hr
    cases hr
    unfold rV
    dsimp only
    refine uV _ (yF hu hm hl hq (Ea (aq.mp hu).1 ?_))
    unfold atU
    rw[hu,<-hat]
    rfl
   ·rw[e]
    exact qz (ih.u i m p y (by lia) hr j u mk l hu hat hm hl q hq)
  ·replace hr:=back hi hr
   replace hr2:=back hj hr2
   by_cases ei:i=k
   ·subst ei
    rw[hk]at hr
    cases hr
    have hji:j<i:=by
     rcases Nat.lt_or_ge j i with h|h
     ·exact h
     ·have:j=i:=by lia
      subst this
      rw[hk]at hr2
      cases hr2
    unfold rV
    dsimp only
    exact oy (ρ:=⟨false,m,q,some ((i:Int),(j:Int))⟩) (bp.mpr ⟨((j:Int),q),yE hr2 (by unfold qV;rw[ja ⟨rfl,rfl⟩];simp) hji,rfl⟩)
   ·by_cases ej:j=k
    ·subst ej
     rw[hk]at hr2
     cases hr2
     unfold rV
     dsimp only
     exact oy (ρ:=⟨false,m,q,some ((i:Int),(j:Int))⟩) (bp.mpr ⟨((i:Int),m),yE hr (by unfold sv;rw[ja ⟨rfl,rfl⟩];simp) (by lia),rfl⟩)
    ·rw[e]
     exact qz (ih.g i j m p q y y' (by lia) (by lia) hr hr2)
theorem Hh {fs:List (Int×Int)} {p:Int×Int} (h:p∈fs):gK p.1 p.2∈(yC fs ms).map Rw.k:=by
 unfold yC
 exact uV _ (oy (ρ:=⟨true,p.1,p.2,none⟩) (bp.mpr ⟨p,h,rfl⟩))
theorem Ec {i:Nat} {mk:Mk3} (h:ms[i]?=some mk):∀{n:Nat},i<n->(⟨false,(i:Int),mk.a,none⟩:Rw)∈heR ms n
 |n+ 1,hn=>by
  rw[heR]
  by_cases e:i=n
  ·subst e;rw[h];exact az _ (by simp)
  ·exact ao _ (Ec h (by lia))
theorem Hi {fs:List (Int×Int)} {i:Nat} {mk:Mk3} (h:ms[i]?=some mk):hK i mk.a∈(yC fs ms).map Rw.k:=by
 unfold yC
 exact oy (Ec h (aq.mp h).1)
end
theorem mS {α:Type} {R:List α} {k i:Nat} {x:α} (h:(R.take k)[i]?=some x):i<k/\R[i]?=some x:=by
 rw[List.getElem?_take]at h
 split at h
 ·exact⟨by assumption,h⟩
 ·cases h
theorem Ja {r ρ:Rw} (h:r.k=ρ.k):r.w=ρ.w/\r.a=ρ.a/\r.b=ρ.b:=by
 unfold Rw.k at h
 injection h with h1 h
 injection h with h2 h
 injection h with h3 _
 injection h1 with h1
 injection h2 with h2
 injection h3 with h3
 refine⟨?_,h2,h3⟩
 cases hr:r.w<;>cases hρ:ρ.w<;>rw[hr,hρ]at h1<;>first|rfl|exact absurd h1 iJ
theorem uW {R:List Rw} {ρ:Rw} (h:ρ.k∈R.map Rw.k):∃(i:Nat) (y:Option (Int×Int)),i<R.length/\R[i]?=some ⟨ρ.w,ρ.a,ρ.b,y⟩:=by
 obtain⟨r,hr,e⟩:=bp.mp h
 obtain⟨i,hi⟩:=bN.mp hr
 obtain⟨e1,e2,e3⟩:=Ja e
 obtain⟨w,a,b,y⟩:=r
 dsimp only at e1 e2 e3
 subst e1 e2 e3
 exact⟨i,y,(aq.mp hi).1,hi⟩
theorem FA {fs:List (Int×Int)} {ms:List Mk3} {ρ:Rw} (h:ρ∈yC fs ms):(∃p∈fs,ρ=⟨true,p.1,p.2,none⟩)\/∃(i:Nat) (mk:Mk3),ms[i]?=some mk/\ρ=⟨false,(i:Int),mk.a,none⟩:=by
 unfold yC at h
 rcases rW h with h|h
 ·rcases rW h with h|h
  ·cases h
  ·obtain⟨p,hp,rfl⟩:=bp.mp h
   exact .inl ⟨p,hp,rfl⟩
 ·refine .inr ?_
  have:∀n,ρ∈heR ms n->∃(i:Nat) (mk:Mk3),ms[i]?=some mk/\ρ=⟨false,(i:Int),mk.a,none⟩:=by
   intro n
   induction n with
   |zero=>intro h;cases h
   |succ n ih=>
    intro h
    rw[heR]at h
    rcases ak.mp h with h|h
    ·exact ih h
    ·cases e:ms[n]? with
     |none=>rw[e]at h;cases h
     |some mk=>
      rw[e]at h
      simp only[bh]at h
      exact⟨n,mk,e,h⟩
  exact this _ h
theorem yG (u:Us):u.at=SM.Internal.uat u:=by cases u<;>rfl
def stM (ms:List Mk3) (x:Mf) (p:Int):Prop:=∃mk∈ms,mk.f=x/\mk.a=p
def stU (us:List Us) (u:Us):Prop:=u∈us
def stF (fs:List (Int×Int)) (p q:Int):Prop:=(p,q)∈fs
abbrev FT (us:List Us) (ms:List Mk3) (fs:List (Int×Int)):=SM.Internal.Ft (stM ms) (stU us) (stF fs)
section
variable {us:List Us} {ms:List Mk3} {fs:List (Int×Int)} {R:List Rw}
def sayR (us:List Us) (ms:List Mk3) (fs:List (Int×Int)) (ρ:Rw):Prop:=match ρ.w with
 |true=>FT us ms fs none ρ.a ρ.b
 |false=>∃mk,ms[ρ.a.toNat]?=some mk/\FT us ms fs (some mk.f) 0 ρ.b
theorem CS (h:qU us ms (yC fs ms) R.length R):∀(n i:Nat) (ρ:Rw),i<n->R[i]?=some ρ->sayR us ms fs ρ:=by
 have c:=yD h
 obtain⟨more,e⟩:=c.pre
 intro n
 induction n with
 |zero=>intro i ρ hi;exact absurd hi (cK _)
 |succ n ih=>
  intro i ρ hi hr
  by_cases hl:i<(yC fs ms).length
  ·rw[e,aN hl]at hr
   rcases FA (aP hr)with⟨p,hp,rfl⟩|⟨j,mk,hj,rfl⟩
   ·exact .fl hp
   ·exact⟨mk,by rw[eZ];exact hj,.he ⟨mk,aP hj,rfl,rfl⟩⟩
  ·obtain⟨n1,n2,i1,j1,m,p,y,_,_,_,h1,h2⟩:=c.cau i ρ (by lia) hr
   obtain⟨l1,h1⟩:=mS h1
   have s1:=ih i1 _ (by lia) h1
   obtain⟨w,a,b,z⟩:=ρ
   obtain⟨mk,hm,f1⟩:=s1
   cases w with
   |true=>
    obtain⟨u,mk2,l,hu,ha,hm2,ht,hc⟩:=h2
    cases hm.symm.trans hm2
    refine SM.Internal.Ft.us (c:=(a,b)) (u:=u) ?_ (aP hu) ht hc
    rw[<-yG,ha]
    exact f1
   |false=>
    obtain⟨rfl,y',h3⟩:=h2
    obtain⟨l2,h3⟩:=mS h3
    exact⟨mk,hm,.mv f1 (ih j1 _ (by lia) h3)⟩
def hasR (ms:List Mk3) (R:List Rw):Option Mf->Int->Int->Prop
 |none,p,q=>gK p q∈R.map Rw.k
 |some x,_,q=>∃(m:Nat) (mk:Mk3),ms[m]?=some mk/\mk.f=x/\hK m q∈R.map Rw.k
theorem Bm (h:qU us ms (yC fs ms) R.length R) {t:Option Mf} {p q:Int} (f:FT us ms fs t p q):hasR ms R t p q:=by
 have c:=yD h
 have cl:=CQ h
 obtain⟨more,e⟩:=c.pre
 induction f with
 |fl hf=>show gK _ _∈R.map Rw.k;rw[e];exact qz (Hh hf)
 |he hm=>
  obtain⟨mk,h1,rfl,rfl⟩:=hm
  obtain⟨i,hi⟩:=bN.mp h1
  exact⟨i,mk,hi,rfl,by rw[e];exact qz (Hi hi)⟩
 |mv _ _ i1 i2=>
  obtain⟨m,mk,hm,hx,k1⟩:=i1
  obtain⟨a,y,la,ha⟩:=uW (ρ:=⟨false,(m:Int),_,none⟩) k1
  obtain⟨b,y2,lb,hb⟩:=uW (ρ:=⟨true,_,_,none⟩) i2
  exact⟨m,mk,hm,hx,cl.g a b _ _ _ _ _ la lb ha hb⟩
 |us _ hu ht hc i=>
  obtain⟨m,mk,hm,rfl,k1⟩:=i
  obtain⟨a,y,la,ha⟩:=uW (ρ:=⟨false,(m:Int),_,none⟩) k1
  obtain⟨j,hj⟩:=bN.mp hu
  exact cl.u a _ _ _ la ha j _ mk _ hj (yG _) (by rw[eZ];exact hm) ht _ hc
def CT (us:List Us) (ms:List Mk3) (fs:List (Int×Int)):Prop:=∀x u,FT us ms fs (some x) 0 (SM.Internal.uat u)->stU us u->lI u x≠none
theorem FC (h:qU us ms (yC fs ms) R.length R) (hb:kH (zC us ms) R R.length=[]):CT us ms fs:=fun x u f hu e=>by
 obtain⟨m,mk,hm,rfl,k1⟩:=Bm h f
 obtain⟨a,y,la,ha⟩:=uW (ρ:=⟨false,(m:Int),_,none⟩) k1
 obtain⟨j,hj⟩:=bN.mp hu
 have:((a:Int),(j:Int))∈kH (zC us ms) R R.length:=by
  refine yE ha ?_ la
  show((a:Int),(j:Int))∈bdn (atU us) (nmB us ms (m:Int)) _ (a:Int) us.length
  unfold bdn
  refine bp.mpr ⟨(j:Int),ab.mpr ⟨Ea (aq.mp hj).1 ?_,?_⟩,rfl⟩
  ·unfold atU
   rw[hj]
   exact congrArg some (yG u)
  ·unfold nmB
   rw[eZ,eZ,hj,hm]
   dsimp only
   rw[e]
   rfl
 rw[hb]at this
 cases this
theorem FD (h:qU us ms (yC fs ms) R.length R) (w:CT us ms fs):kH (zC us ms) R R.length=[]:=by
 rw[List.eq_nil_iff_forall_not_mem]
 intro x hx
 obtain⟨n,ρ,hn,hr,hx⟩:=uk hx
 have s:=CS h (n+ 1) n ρ (by lia) hr
 obtain⟨v,a,b,z⟩:=ρ
 cases v with
 |true=>cases hx
 |false=>
  obtain⟨mk,hm,f⟩:=s
  unfold zC bdn at hx
  dsimp only at hx hm f
  obtain⟨j,hj,rfl⟩:=bp.mp hx
  obtain⟨h1,h2⟩:=ab.mp hj
  obtain⟨j,rfl,lj,ha⟩:=wJ h1
  unfold nmB at h2
  unfold atU at ha
  rw[eZ]at h2
  cases e:us[j]? with
  |none=>rw[e]at ha;cases ha
  |some u=>
   rw[e]at ha h2
   rw[hm]at h2
   dsimp only at h2
   have ha:u.at=b:=cR.inj ha
   rw[yG]at ha
   exact w mk.f u (by rw[ha];exact f) (aP e) (Option.isNone_iff_eq_none.mp h2)
end
def gm3 (m:Mk3):Mkg:=mkg m.f m.a m.p
def _root_.KK.Internal.Pm.mf (b i:Nat):Pm->Mf
 | .num=> .num
 | .any=> .any
 | .fn x o=> .fn ((i:Int)+(x:Int)) ((b:Int)+(o:Int))
 | .rcd l=> .rcd (mvL b l)
 | .tag w o=> .tag w ((b:Int)+(o:Int))
 | .row o=> .row ((b:Int)+(o:Int))
def uX (b i:Nat) (p:Int):Nat->List (List Pm)->List Mk3
 |_,[]=>[]
 |k,l::t=>(l.map fun m=>⟨m.mf b i,(b:Int)+(k:Int),p⟩)++uX b i p (k+ 1) t
theorem FE (b i:Nat) (p:Int):∀(k:Nat) (l:List (List Pm)),mkA b i p k l=(uX b i p k l).map gm3
 |_,[]=>rfl
 |k,l::t=>by
  rw[mkA,uX,bB,<-FE b i p (k+ 1) t,mkO,bZ]
  congr 1
  refine List.map_congr_left fun m _=>?_
  cases m<;>rfl
theorem Bn {b n:Nat} {N:Int} {l:List (Str×Nat)} (hn:(b:Int)+(n:Int)<=N) (h:∀p∈l,p.2<n):∀q∈mvL b l,SM.Internal.pIn N q.2:=fun q hq=>by
 obtain⟨p,hp,rfl⟩:=bp.mp hq
 have:=h p hp
 exact⟨by dsimp only;lia,by dsimp only;lia⟩
theorem xn {no ni:Nat} {p:Int}:∀(k:Nat) (l:List (List Pm)),k+l.length<=no->(∀x∈l,∀m∈x,m.ok no ni)->∀r∈uX 0 no p k l,SM.Internal.mIn ((no+ni:Nat):Int) r.f/\SM.Internal.pIn ((no+ni:Nat):Int) r.a/\r.p=p
 |_,[],_,_,r,hr=>by cases hr
 |k,l::t,hk,h,r,hr=>by
  rw[aB]at hk
  rw[uX]at hr
  rcases ak.mp hr with hr|hr
  ·obtain⟨m,hm,rfl⟩:=bp.mp hr
   have o:=h l (by simp) m hm
   refine⟨?_,⟨by dsimp only;lia,by dsimp only;lia⟩,rfl⟩
   cases m with
   |num=>trivial
   |any=>trivial
   |fn x y=>simp only[Pm.ok]at o;exact⟨⟨by lia,by lia⟩,⟨by lia,by lia⟩⟩
   |rcd l=>simp only[Pm.ok]at o;exact Bn (n:=no) (by lia) o.2
   |tag w y=>simp only[Pm.ok]at o;exact⟨by lia,by lia⟩
   |row y=>simp only[Pm.ok]at o;exact⟨by lia,by lia⟩
  ·exact xn (k+ 1) t (by lia) (fun x hx=>h x (by simp[hx])) r hr
theorem yH {no ni:Nat} {p:Int}:∀(k:Nat) (l:List (List Pu)),k+l.length<=ni->(∀x∈l,∀u∈x,u.ok no ni)->∀r∈usA 0 no p k l,SM.Internal.uIn ((no+ni:Nat):Int) r
 |_,[],_,_,r,hr=>by cases hr
 |k,l::t,hk,h,r,hr=>by
  rw[aB]at hk
  rw[usA]at hr
  rcases ak.mp hr with hr|hr
  ·obtain⟨u,hu,rfl⟩:=bp.mp hr
   have o:=h l (by simp) u hu
   have ha:SM.Internal.pIn ((no+ni:Nat):Int) ((no:Int)+(k:Int)):=⟨by lia,by lia⟩
   cases u with
   |num=>exact ha
   |call x y=>simp only[Pu.ok]at o;exact⟨ha,⟨by lia,by lia⟩,⟨by lia,by lia⟩⟩
   |take l=>simp only[Pu.ok]at o;exact⟨ha,Bn (n:=ni) (by lia) o.2⟩
   |case l=>simp only[Pu.ok]at o;exact⟨ha,Bn (n:=ni) (by lia) o.2⟩
   |row y=>simp only[Pu.ok]at o;exact⟨ha,⟨by lia,by lia⟩⟩
  ·exact yH (k+ 1) t (by lia) (fun x hx=>h x (by simp[hx])) r hr
def D0 (P:Pp):Bd:=sH P 0 ⟨[],[],[],[],0⟩
def nP (P:Pp):Nat:=P.outs.length+P.ins.length
theorem Jb (P:Pp):(D0 P).pts.length=nP P:=by simp[D0,sH,nP]
structure Brd (P:Pp) (k:Kd) (ms:List Mk3) (us:List Us):Prop where
 em:(upp k (D0 P)).mks=ms.map gm3
 eu:(upp k (D0 P)).uss=us
 m:∀x p,stM ms x p↔(stM (uX 0 P.outs.length 0 0 P.outs) x p\/SM.Internal.KN true k (nP P) false (SM.Internal.QM x p))
 u:∀y,stU us y↔(stU (usA 0 P.outs.length 0 0 P.ins) y\/SM.Internal.KN true k (nP P) true (SM.Internal.QU y))
theorem brd (P:Pp) (k:Kd):∃ms us,Brd P k ms us:=by
 obtain⟨⟨ml,e1,k1⟩,⟨ul,f1,g1⟩,_,_⟩:=SM.Internal.lay_upp k (D0 P)
 rw[Jb]at k1 g1
 refine⟨uX 0 P.outs.length 0 0 P.outs++ml.map (fun q=>⟨q.1,q.2,0⟩),usA 0 P.outs.length 0 0 P.ins++ul,?_,?_,fun x p=>?_,fun y=>?_⟩
 ·rw[e1,bB,bZ,<-FE]
  congr 1
  simp[D0,sH]
 ·rw[f1]
  congr 1
  simp[D0,sH]
 ·rw[<-k1]
  unfold stM
  constructor
  ·rintro⟨mk,h,rfl,rfl⟩
   rcases ak.mp h with h|h
   ·exact .inl ⟨mk,h,rfl,rfl⟩
   ·obtain⟨q,hq,rfl⟩:=bp.mp h
    exact .inr hq
  ·rintro(⟨mk,h,rfl,rfl⟩|h)
   ·exact⟨mk,ao _ h,rfl,rfl⟩
   ·exact⟨⟨x,p,0⟩,az _ (bp.mpr ⟨(x,p),h,rfl⟩),rfl,rfl⟩
 ·rw[<-g1]
  unfold stU
  rw[ak]
def fsP (P:Pp):List (Int×Int):=(D0 P).fls++[(0,(nP P:Int))]
theorem FF {P:Pp} (ok:P.ok) {K L:Kd} (hK:K.ok) (hL:L.ok) (le:SM.Internal.Le K L) {ms ms':List Mk3} {us us':List Us} (b:Brd P K ms us) (b':Brd P L ms' us') (w:CT us ms (fsP P)):CT us' ms' (fsP P):=by
 have o1:=ok.o1
 have hM:∀x p,stM (uX 0 P.outs.length 0 0 P.outs) x p->SM.Internal.mIn (nP P:Int) x/\SM.Internal.pIn (nP P:Int) p:=fun x p h=>by
  obtain⟨mk,h,rfl,rfl⟩:=h
  have:=xn 0 P.outs (by lia) (fun x hx m hm=>(ok.om x hx).2 m hm) mk h
  exact⟨this.1,this.2.1⟩
 have hU:∀u,stU (usA 0 P.outs.length 0 0 P.ins) u->SM.Internal.uIn (nP P:Int) u:=fun u h=>yH 0 P.ins (by lia) (fun x hx m hm=>(ok.iu x hx).2 m hm) u h
 have hF:∀p q,stF (D0 P).fls p q->SM.Internal.pIn (nP P:Int) p/\SM.Internal.pIn (nP P:Int) q:=fun p q h=>by
  have h:(p,q)∈P.fls.map (flF 0 P.outs.length):=by
   have:(D0 P).fls=P.fls.map (flF 0 P.outs.length):=by simp[D0,sH]
   rw[<-this];exact h
  obtain⟨r,hr,e⟩:=bp.mp h
  have:=ok.ff.2 r hr
  unfold flF at e
  cases e
  exact⟨⟨by lia,by unfold nP;lia⟩,⟨by lia,by unfold nP;lia⟩⟩
 have hF2:∀p q,stF (fsP P) p q↔(stF (D0 P).fls p q\/(p=0/\q=(nP P:Int))):=fun p q=>by
  unfold stF fsP
  rw[ak,bh,Prod.mk.injEq]
 have S:=SM.Internal.goes_on (n:=nP P) hL hK le (by unfold nP;lia) hM hU hF (M:=fun k x p=>stM (uX 0 P.outs.length 0 0 P.outs) x p\/SM.Internal.KN true k (nP P) false (SM.Internal.QM x p)) (fun _ _ _=>Iff.rfl) (U:=fun k y=>stU (usA 0 P.outs.length 0 0 P.ins) y\/SM.Internal.KN true k (nP P) true (SM.Internal.QU y)) (fun _ _=>Iff.rfl) hF2
 have e1:stM ms=fun x p=>stM (uX 0 P.outs.length 0 0 P.outs) x p\/SM.Internal.KN true K (nP P) false (SM.Internal.QM x p):=funext fun x=>funext fun p=>propext (b.m x p)
 have e2:stU us=fun y=>stU (usA 0 P.outs.length 0 0 P.ins) y\/SM.Internal.KN true K (nP P) true (SM.Internal.QU y):=funext fun y=>propext (b.u y)
 have e3:stM ms'=fun x p=>stM (uX 0 P.outs.length 0 0 P.outs) x p\/SM.Internal.KN true L (nP P) false (SM.Internal.QM x p):=funext fun x=>funext fun p=>propext (b'.m x p)
 have e4:stU us'=fun y=>stU (usA 0 P.outs.length 0 0 P.ins) y\/SM.Internal.KN true L (nP P) true (SM.Internal.QU y):=funext fun y=>propext (b'.u y)
 unfold CT FT at w⊢
 rw[e1,e2]at w
 rw[e3,e4]
 exact SM.Internal.sim S w
def Mor (D D':Bd) (m u:Nat):Prop:=D'.mks.length<=D.mks.length+m/\D'.uss.length<=D.uss.length+u
theorem Mor.app {A B C:Bd} {m u m' u':Nat} (h:Mor A B m u) (h':Mor B C m' u'):Mor A C (m+m') (u+u'):=⟨by have:=h.1;have:=h'.1;lia,by have:=h.2;have:=h'.2;lia⟩
theorem Mor.mono {A B:Bd} {m u m' u':Nat} (h:Mor A B m u) (h1:m<=m') (h2:u<=u'):Mor A B m' u':=⟨by have:=h.1;lia,by have:=h.2;lia⟩
theorem mZ (D:Bd):Mor D (ptB D) 0 0:=⟨cB _,cB _⟩
theorem tR (D:Bd) (s:Str) (f:Dt) (a:Int):Mor D (mkB D s f a) 1 0:=⟨by simp[mkB],by simp[mkB]⟩
theorem v7 (D:Bd) (u:Us):Mor D (usB D u) 0 1:=⟨by simp[usB],by simp[usB]⟩
mutual
theorem rY:∀(k:Kd) (D:Bd),Mor D (low k D) (2*k.sz-1) k.sz
 | .any,D=>by rw[low];exact((mZ D).app (tR _ _ _ _)).mono (by simp[Kd.sz]) (by simp)
 | .num,D=>by rw[low];exact((mZ D).app (tR _ _ _ _)).mono (by simp[Kd.sz]) (by simp)
 | .fn a b,D=>by
  rw[low,Kd.sz]
  have:=iR a
  have:=iR b
  exact((((mZ D).app (rZ a _)).app (rY b _)).app (tR _ _ _ _)).mono (by lia) (by lia)
 | .rcd l,D=>by
  rw[low,Kd.sz]
  exact(((mZ D).app (yI l _)).app (tR _ _ _ _)).mono (by lia) (by lia)
 | .ch l,D=>by
  rw[low,Kd.sz]
  exact((mZ D).app (yJ l _ _)).mono (by lia) (by lia)
 | .row a,D=>by
  rw[low,Kd.sz]
  have:=iR a
  exact(((mZ D).app (rY a _)).app (tR _ _ _ _)).mono (by lia) (by lia)
theorem rZ:∀(k:Kd) (D:Bd),Mor D (upp k D) (2*k.sz-1) k.sz
 | .any,D=>by rw[upp];exact(mZ D).mono (by lia) (by lia)
 | .num,D=>by rw[upp];exact((mZ D).app (v7 _ _)).mono (by lia) (by simp[Kd.sz])
 | .fn a b,D=>by
  rw[upp,Kd.sz]
  have:=iR a
  have:=iR b
  exact((((mZ D).app (rY a _)).app (rZ b _)).app (v7 _ _)).mono (by lia) (by lia)
 | .rcd l,D=>by
  rw[upp,Kd.sz]
  exact(((mZ D).app (uY l _)).app (v7 _ _)).mono (by lia) (by lia)
 | .ch l,D=>by
  rw[upp,Kd.sz]
  exact(((mZ D).app (uY l _)).app (v7 _ _)).mono (by lia) (by lia)
 | .row a,D=>by
  rw[upp,Kd.sz]
  have:=iR a
  exact(((mZ D).app (rZ a _)).app (v7 _ _)).mono (by lia) (by lia)
theorem yI:∀(l:Kds) (D:Bd),Mor D (tM l D).1 (2*l.sz) l.sz
 | .nil,D=>by rw[tM];exact⟨by simp,by simp⟩
 | .cons w k t,D=>by
  rw[tM,Kds.sz]
  exact((rY k D).app (yI t _)).mono (by lia) (by lia)
theorem uY:∀(l:Kds) (D:Bd),Mor D (qN l D).1 (2*l.sz) l.sz
 | .nil,D=>by rw[qN];exact⟨by simp,by simp⟩
 | .cons w k t,D=>by
  rw[qN,Kds.sz]
  exact((rZ k D).app (uY t _)).mono (by lia) (by lia)
theorem yJ:∀(l:Kds) (a:Int) (D:Bd),Mor D (yi l a D) (2*l.sz) l.sz
 | .nil,a,D=>by rw[yi];exact⟨by simp,by simp⟩
 | .cons w k t,a,D=>by
  rw[yi,Kds.sz]
  have:=iR k
  exact(((rY k D).app (tR _ _ _ _)).app (yJ t a _)).mono (by lia) (by lia)
end
theorem pV:∀(l:List (Str×Kd)) (n:Nat),(SM.Internal.offs l n).map Prod.fst=l.map Prod.fst
 |[],_=>rfl
 |p::t,n=>congrArg (p.1::·) (pV t (n+p.2.sz))
theorem uZ {l:Kds} {c:Nat} {N:Int} (h:((c+l.sz:Nat):Int)<=N):∀q∈SM.Internal.offs l.toL c,InR N q.2:=fun q hq=>by
 obtain⟨⟨w,k,o⟩,hr,rfl⟩:=bp.mp hq
 have:=SM.Internal.off3_le hr
 have:=iR k
 exact⟨by dsimp only;lia,by dsimp only;lia⟩
theorem CU (l:List (Str×Kd)) (n:Nat):(SM.Internal.offs l n).length=l.length:=by
 have:=congrArg aJ (pV l n)
 simpa using this
theorem FG {k:Kd} {m:Nat} {N:Int} (ok:k.ok) (h:((m+k.sz:Nat):Int)<=N):∀x∈SM.Internal.mkOf k m,x.ok/\x.rng N:=fun x hx=>by
 cases k with
 |any=>obtain rfl:=bh.mp hx;exact⟨trivial,trivial⟩
 |num=>obtain rfl:=bh.mp hx;exact⟨trivial,trivial⟩
 |fn a b=>
  obtain rfl:=bh.mp hx
  rw[Kd.sz]at h
  have:=iR a
  have:=iR b
  exact⟨trivial,⟨by lia,by lia⟩,⟨by lia,by lia⟩⟩
 |rcd l=>
  obtain rfl:=bh.mp hx
  rw[Kd.sz]at h
  rw[Kd.ok]at ok
  exact⟨⟨by rw[CU];exact ok.2.2.1,by unfold xX;rw[pV];exact ok.2.1⟩,uZ (by lia)⟩
 |ch l=>
  obtain⟨⟨w,k,o⟩,hr,rfl⟩:=bp.mp hx
  rw[Kd.sz]at h
  have:=SM.Internal.off3_le hr
  have:=iR k
  exact⟨trivial,⟨by dsimp only;lia,by dsimp only;lia⟩⟩
 |row a=>
  obtain rfl:=bh.mp hx
  rw[Kd.sz]at h
  have:=iR a
  exact⟨trivial,⟨by lia,by lia⟩⟩
theorem FH {k:Kd} {m:Nat} {N:Int} (ok:k.ok) (h:((m+k.sz:Nat):Int)<=N):∀x∈SM.Internal.usOf k m,x.dist/\x.rng N:=fun x hx=>by
 cases k with
 |any=>cases hx
 |num=>obtain rfl:=bh.mp hx;exact⟨trivial,trivial⟩
 |fn a b=>
  obtain rfl:=bh.mp hx
  rw[Kd.sz]at h
  have:=iR a
  have:=iR b
  exact⟨trivial,⟨by lia,by lia⟩,⟨by lia,by lia⟩⟩
 |rcd l=>
  obtain rfl:=bh.mp hx
  rw[Kd.sz]at h
  rw[Kd.ok]at ok
  exact⟨by show xX _;unfold xX;rw[pV];exact ok.2.1,uZ (by lia)⟩
 |ch l=>
  obtain rfl:=bh.mp hx
  rw[Kd.sz]at h
  rw[Kd.ok]at ok
  exact⟨by show xX _;unfold xX;rw[pV];exact ok.2.1,uZ (by lia)⟩
 |row a=>
  obtain rfl:=bh.mp hx
  rw[Kd.sz]at h
  have:=iR a
  exact⟨trivial,⟨by lia,by lia⟩⟩
def _root_.KK.Internal.Pm.dis:Pm->Prop
 | .rcd l=>(l.map Prod.fst).Nodup/\∀p∈l,p.1.length<=300
 | .tag w _=>w.length<=300
 |_=>True
def _root_.KK.Internal.Pu.dis:Pu->Prop
 | .take l=>(l.map Prod.fst).Nodup/\∀p∈l,p.1.length<=300
 | .case l=>(l.map Prod.fst).Nodup/\∀p∈l,p.1.length<=300
 |_=>True
theorem xp (b:Nat) (l:List (Str×Nat)):(mvL b l).map Prod.fst=l.map Prod.fst:=by rw[mvL,bZ];rfl
theorem Bo {no ni b i:Nat} {p:Int}:∀(k:Nat) (l:List (List Pm)),(∀x∈l,∀m∈x,m.ok no ni/\m.dis)->∀r∈uX b i p k l,r.f.ok
 |_,[],_,r,hr=>by cases hr
 |k,l::t,h,r,hr=>by
  rw[uX]at hr
  rcases ak.mp hr with hr|hr
  ·obtain⟨m,hm,rfl⟩:=bp.mp hr
   have o:=h l (by simp) m hm
   cases m with
   |rcd l=>
    simp only[Pm.ok,Pm.dis]at o
    exact⟨by rw[mvL,aE];lia,by unfold xX;rw[xp];exact o.2.1⟩
   |_=>trivial
  ·exact Bo (k+ 1) t (fun x hx=>h x (by simp[hx])) r hr
theorem yK {b i:Nat} {p:Int}:∀(k:Nat) (l:List (List Pu)),(∀x∈l,∀m∈x,m.dis)->∀r∈usA b i p k l,r.dist
 |_,[],_,r,hr=>by cases hr
 |k,l::t,h,r,hr=>by
  rw[usA]at hr
  rcases ak.mp hr with hr|hr
  ·obtain⟨m,hm,rfl⟩:=bp.mp hr
   have o:=h l (by simp) m hm
   cases m with
   |take l=>simp only[Pu.dis]at o;show xX _;unfold xX;rw[xp];exact o.1
   |case l=>simp only[Pu.dis]at o;show xX _;unfold xX;rw[xp];exact o.1
   |_=>trivial
  ·exact yK (k+ 1) t (fun x hx=>h x (by simp[hx])) r hr
structure Pok (P:Pp):Prop where
 ok:P.ok
 fm:(uX 0 P.outs.length 0 0 P.outs).length<=32
 fu:(usA 0 P.outs.length 0 0 P.ins).length<=32
 ff:P.fls.length<=32
 dm:∀l∈P.outs,∀m∈l,m.dis
 du:∀l∈P.ins,∀u∈l,u.dis
theorem Hj {n N:Int} (hn:n<=N) {x:Mf} (h:SM.Internal.mIn n x):x.rng N:=by
 have z:∀{p},SM.Internal.pIn n p->InR N p:=fun h=>⟨h.1,e7 h.2 hn⟩
 cases x with
 |fn a b=>exact⟨z h.1,z h.2⟩
 |rcd l=>exact fun q hq=>z (h q hq)
 |tag w a=>exact z h
 |row a=>exact z h
 |_=>trivial
theorem FI {n N:Int} (hn:n<=N) {x:Us} (h:SM.Internal.uIn n x):x.rng N:=by
 have z:∀{p},SM.Internal.pIn n p->InR N p:=fun h=>⟨h.1,e7 h.2 hn⟩
 cases x with
 |num=>trivial
 |call a p s x y=>exact⟨z h.2.1,z h.2.2⟩
 |take a p s l=>exact fun q hq=>z (h.2 q hq)
 |case a p s l=>exact fun q hq=>z (h.2 q hq)
 |row a p s y=>exact z h.2
theorem Hk {u:Bool} {L:Kd} {n:Nat} {v:Bool} {k:Kd} {m:Nat} (h:SM.Internal.Nn u L n v k m):L.ok->k.ok:=by
 induction h with
 |here=>exact id
 |fa _ i=>intro o;rw[Kd.ok]at o;exact i o.1
 |fb _ i=>intro o;rw[Kd.ok]at o;exact i o.2
 |rw _ i=>intro o;rw[Kd.ok]at o;exact i o
 |rc ho _ i=>intro o;rw[Kd.ok]at o;exact i ((lM _).mp o.1 _ (SM.Internal.off3_mem ho))
 |ch ho _ i=>intro o;rw[Kd.ok]at o;exact i ((lM _).mp o.1 _ (SM.Internal.off3_mem ho))
theorem HS (P:Pp):(D0 P).mks.length=(uX 0 P.outs.length 0 0 P.outs).length/\(D0 P).uss=usA 0 P.outs.length 0 0 P.ins/\(D0 P).fls=P.fls.map (flF 0 P.outs.length):=by
 refine⟨?_,by simp[D0,sH],by simp[D0,sH]⟩
 have:(D0 P).mks=mkA 0 P.outs.length 0 0 P.outs:=by simp[D0,sH]
 rw[this,FE,aE]
theorem FJ {P:Pp} (h:Pok P) {k:Kd} (hk:k.ok) (hz:k.sz<=40) {ms:List Mk3} {us:List Us} (b:Brd P k ms us):Dat ((nP P+k.sz:Nat):Int) ms us (fsP P):=by
 have o1:=h.ok.o1
 have o8:=h.ok.o8
 have i8:=h.ok.i8
 have p:=iR k
 have M:=rZ k (D0 P)
 obtain⟨d1,d2,d3⟩:=HS P
 have e1:(upp k (D0 P)).mks.length=ms.length:=by rw[b.em,aE]
 have e2:(upp k (D0 P)).uss.length=us.length:=by rw[b.eu]
 have m1:=M.1
 have m2:=M.2
 rw[e1,d1]at m1
 rw[e2,d2]at m2
 have f1:=h.fm
 have f2:=h.fu
 have f3:=h.ff
 have np:nP P=P.outs.length+P.ins.length:=rfl
 have hn:(nP P:Int)<=((nP P+k.sz:Nat):Int):=by lia
 refine⟨by lia,by lia,by lia,by lia,?_,fun m hm=>?_,fun u hu=>?_,fun q hq=>?_⟩
 ·unfold fsP
  rw[d3,aQ,aE,aY]
  lia
 ·rcases(b.m m.f m.a).mp ⟨m,hm,rfl,rfl⟩with⟨r,hr,e1,e2⟩|⟨k1,c,hn1,hx,e⟩
  ·have z:=xn (ni:=P.ins.length) 0 P.outs (by lia) (fun x hx m hm=>(h.ok.om x hx).2 m hm) r hr
   rw[<-e1,<-e2]
   exact⟨Bo 0 P.outs (fun x hx m hm=>⟨(h.ok.om x hx).2 m hm,h.dm x hx m hm⟩) r hr,Hj hn z.1,⟨z.2.1.1,e7 z.2.1.2 hn⟩⟩
  ·have l:=hn1.le
   have:=iR k1
   have z:=FG (N:=((nP P+k.sz:Nat):Int)) (Hk hn1 hk) (by lia) _ hx
   exact⟨z.1,z.2,⟨by lia,by lia⟩⟩
 ·rcases(b.u u).mp hu with hr|⟨k1,c,hn1,hx⟩
  ·exact⟨yK 0 P.ins h.du u hr,FI hn (yH 0 P.ins (by lia) (fun x hx m hm=>(h.ok.iu x hx).2 m hm) u hr)⟩
  ·have l:=hn1.le
   exact FH (Hk hn1 hk) (by lia) _ hx
 ·unfold fsP at hq
  rw[d3]at hq
  rcases ak.mp hq with hq|hq
  ·obtain⟨r,hr,rfl⟩:=bp.mp hq
   have:=h.ok.ff.2 r hr
   exact⟨⟨by unfold flF;dsimp only;lia,by unfold flF;dsimp only;lia⟩,⟨by unfold flF;dsimp only;lia,by unfold flF;dsimp only;lia⟩⟩
  ·obtain rfl:=bh.mp hq
   exact⟨⟨by dsimp only;lia,by dsimp only;lia⟩,⟨by dsimp only;lia,by dsimp only;lia⟩⟩
theorem vz {k:Nat} {A:gf} (hr:ou k A):A.units+ 1<gP:=by have:=hr.un;lia
theorem kO {H H1:Hp} {p:fO} (S:iE H H1) (h:H1 p=none):H p=none:=by
 cases e:H p with
 |none=>rfl
 |some o=>rw[S _ _ e]at h;cases h
theorem lY {H:Hp} {xs:List V} {d:Dt} (h:Ims H xs [d]):∃x,xs=[x]/\Im H x d:=by
 cases h with
 |cons h hs=>cases hs;exact⟨_,rfl,h⟩
theorem pA {H:Hp} {xs:List V} {d e:Dt} (h:Ims H xs [d,e]):∃x y,xs=[x,y]/\Im H x d/\Im H y e:=by
 cases h with
 |cons h hs=>
  obtain⟨y,rfl,hy⟩:=lY hs
  exact⟨_,y,rfl,h,hy⟩
theorem pdx {H:Hp} {v:V} {p:Kd×Kd} (h:Im H v (pD p)):∃t x y,v= .ref t/\H t=some (.tup [x,y])/\Im H x p.1.d/\Im H y p.2.d:=by
 unfold pD at h
 cases h with
 |tup e hs=>
  obtain⟨x,y,rfl,h1,h2⟩:=pA hs
  exact⟨_,x,y,rfl,e,h1,h2⟩
section
variable {i:Nat} {s w:Str} {t u:TS} {D:qb} {σ:St} {H:Hp}
theorem j9 {a:fO} {r:List V} (hv:σ[i]?=some (some (.ref a))) (ha:H a=some (.tup (.str s::r))) (h:s≠w) (q:u D σ H):tX (cT (tOp (cEq false) (tOp AA (cV i) (tC (.int 0))) (tC (.str w)))) t u D σ H:=by
 show onV σ[i]? _
 rw[hv]
 refine⟨_,ha,ig (ic (j:=0) rfl) ?_⟩
 show if(false ^^ decide (s=w))=true then t D σ H else u D σ H
 rw[jR h]
 exact q
theorem mU {a:fO} {r:List V} (hv:σ[i]?=some (some (.ref a))) (ha:H a=some (.tup (.str s::r))) (h:s=w) (q:t D σ H):tX (cT (tOp (cEq false) (tOp AA (cV i) (tC (.int 0))) (tC (.str w)))) t u D σ H:=by
 show onV σ[i]? _
 rw[hv]
 refine⟨_,ha,ig (ic (j:=0) rfl) ?_⟩
 show if(false ^^ decide (s=w))=true then t D σ H else u D σ H
 rw[jJ h]
 exact q
theorem se {u':TS} {a:fO} {r:List V} (hv:σ[i]?=some (some (.ref a))) (ha:H a=some (.tup (.str s::r))) (h:s≠w) (q:u {D with nx:=u' D} σ H):sX (tX (cT (tOp (cEq false) (tOp AA (cV i) (tC (.int 0))) (tC (.str w)))) t u) u' D σ H:=j9 (D:={D with nx:=u' D}) hv ha h q
theorem kF {u':TS} {a:fO} {r:List V} (hv:σ[i]?=some (some (.ref a))) (ha:H a=some (.tup (.str s::r))) (h:s=w) (q:t {D with nx:=u' D} σ H):sX (tX (cT (tOp (cEq false) (tOp AA (cV i) (tC (.int 0))) (tC (.str w)))) t u) u' D σ H:=mU (D:={D with nx:=u' D}) hv ha h q
end
section
variable {K:PySem.W.Frag} {mg:Str->Option fQ}
end
theorem CV {H:Hp} {x:V} {k:Kd} (h:Im H x k.d):∃t r,x= .ref t/\H t=some (.tup (.str k.tag::r))/\Ims H r k.rest:=by
 rw[HR]at h
 cases h with
 |tup e hs=>
  cases hs with
  |cons h1 hs=>
   unfold sD at h1
   cases h1
   exact⟨_,_,rfl,e,hs⟩
theorem Bp {H:Hp} {r:List V} {l:Kds} (h:Ims H r [.tup l.ds]):∃t xs,r=[.ref t]/\H t=some (.tup xs)/\Ims H xs (l.toL.map fD):=by
 obtain⟨x,rfl,hx⟩:=lY h
 cases hx with
 |tup e hs=>
  rw[tL]at hs
  exact⟨_,_,rfl,e,hs⟩
theorem jE {H:Hp} (n:Int):Im H (.int n) (iD n):= .flat rfl
theorem j0 {H:Hp} (s:Str):Im H (.str s) (sD s):= .flat rfl
theorem _root_.KK.Internal.FB.new {A:Ad} {H H':Hp} (F:FB A H H') {a:fO} (h:H a=none) (o:HO):FB A H (upd H' a o):=⟨fun b u e n=>by rw[hX (ie e h)];exact F.1 b u e n,fun b u e f=>by rw[hX (ie e h)];exact F.2 b u e f⟩
theorem _root_.KK.Internal.FB.then {A:Ad} {H H1 H2:Hp} (F:FB A H H1) (S:iE H1 H2):FB A H H2:=F.trans (FB.same S)
theorem _root_.KK.Internal.Bw.made {c:Cs} {H:Hp} {A:Ad} {r:V} {D:Bd} (B:Bw c H A r D) {x dx:fO} {mv:List V} {f:V} (hx:H x=none) (hdx:H dx=none) (e:H A.p1=some (.lst mv)) {s:Str} {d:Dt} {a:Int} (hf:Im H f d) (hd:jQ d<=2) (ho:okD d):
  Bw c (upd (upd (upd H dx (.own x)) x (.ins c.M dx (fM (.str s) f (.int a) (.int 0)))) A.p1 (.lst (mv++[.ref x]))) A r (mkB D s d a)/\FB A H (upd (upd (upd H dx (.own x)) x (.ins c.M dx (fM (.str s) f (.int a) (.int 0)))) A.p1 (.lst (mv++[.ref x]))):=by
 have S:=iW (o:= .ins c.M dx (fM (.str s) f (.int a) (.int 0))) hx hdx
 have M:qF c (upd (upd H dx (.own x)) x (.ins c.M dx (fM (.str s) f (.int a) (.int 0)))) (.ref x) ⟨s,d,a,0⟩:=⟨x,dx,f,rfl,hG,hf.mono (iE.tk S),hd,ho⟩
 exact⟨(B.same S).addM (S _ _ e) M,(FB.same S).trans (FB.upd (by simp[Ad.ls]) (S _ _ e))⟩
theorem _root_.KK.Internal.Bw.used {c:Cs} {H:Hp} {A:Ad} {r:V} {D:Bd} (B:Bw c H A r D) {x:V} {u:Us} (hx:UsAt c H x u):∃uv,H A.p2=some (.lst uv)/\uv.length=D.uss.length/\Bw c (upd H A.p2 (.lst (uv++[x]))) A r (usB D u)/\FB A H (upd H A.p2 (.lst (uv++[x]))):=by
 obtain⟨uv,u1,u2⟩:=B.e2
 exact⟨uv,u1,u2.length,B.us u1 hx,FB.upd (by simp[Ad.ls]) u1⟩
theorem jm {α:Type} {l:List α} {i:Nat} {a:α} (h:l[i]?=some a):l.take (i+ 1)=l.take i++[a]:=by
 rw[bE,h]
 rfl
def yL (c:Cs) (n:Nat):Sp:=fun vs H Q _=>X6 fun(A:Ad) (r:V) (D:Bd) (x:V) (k:Kd) (m:Nat)=>Y8 (vs=[.ref A.b,x]) (Bw c H A r D) (Im H x k.d) (k.ok) (k.sz<=n) (Sm D m) (m+ 3*k.sz<=90000) (∀H',FB A H H'->Bw c H' A r (low k D)->Q (.int D.pts.length) H')
def v8 (c:Cs) (n:Nat):Sp:=fun vs H Q _=>X6 fun(A:Ad) (r:V) (D:Bd) (x:V) (k:Kd) (m:Nat)=>Y8 (vs=[.ref A.b,x]) (Bw c H A r D) (Im H x k.d) (k.ok) (k.sz<=n) (Sm D m) (m+ 3*k.sz<=90000) (∀H',FB A H H'->Bw c H' A r (upp k D)->Q (.int D.pts.length) H')
def FL (c:Cs) (n:Nat):Sp:=fun vs H Q _=>X7 fun(A:Ad) (r:V) (D:Bd) (t:fO) (xs:List V) (l:List (Str×Kd)) (m:Nat)=>Y10 (vs=[.ref A.b,.ref t]) (Bw c H A r D) (H t=some (.tup xs)) (Ims H xs (l.map fD)) ((∀p∈l,p.2.ok)) (l.length<=10) (szL l<=n) (Sm D m) (m+ 3*szL l<=90000) (∀v H',FB A H H'->Bw c H' A r (rK l D).1->Im H' v (prD (rK l D).2)->Q v H')
theorem Bs (T:Txt K mg) (n:Nat) (gD9:FO P w base (2*n+ 4) T.d9 (v8 (cs T) n)):FO P w base (2*n+ 5) T.d10 (FL (cs T) n):=by
 refine T.d10.F.rd Bb fun cdv A0 outer s H vs Q E hr h=>?_
 obtain⟨A,r,D,t,xs,l,m,rfl,B,et,il,ok,ln,sz,sm,bd,q⟩:=h
 refine⟨_,(hZ (iH (jd jg rfl T.z_tuple jZ (gY (qf rfl (zB (x:="member") ["board"] [("board",0,s.heap.objs.size+ 1)]) (lE (cv 1)) (fun _ _ _ _ _=>jL) (fun _ _ _ _ _=>(iF (gY (iq iA (cv 0) hV) (gY (pF T.d9 gD9 (hr.mono (by lia)) (gY (cv 1) (gY (iq iA (cv 0) hV) hI))) hI))))) hI)))),?_⟩
 have sl:=fZ
 have lx:=il.length
 rw[aE]at lx
 refine⟨t,rfl,⟨_,SqT.of et⟩,fun d hd=>?_⟩
 have nd:=B.out hd
 refine A6 et il (by lia) (fun k zs H2=>Bw (cs T) H2 A r (rK (l.take k) D).1/\FB A H H2/\Ims H2 zs ((rK (l.take k) D).2.map prL)) (fun k zs H2 h=>h.2.1.2.tk) (fun k zs H2 ys ys' h e=>⟨h.1.other e nd,h.2.1.new hd _,h.2.2.mono (jP e).tk⟩) ⟨B.same (gZ hd _),FB.same (gZ hd _),.nil⟩ ?_ ?_
 ·rintro k H2 p t' x zs Z ⟨B2,F2,I2⟩ ez hp et' hx z
  have sz2:=yk hp
  refine⟨_,et',ig (ic (j:=0) rfl) ⟨_,et',ig (ic (j:=1) rfl) ⟨A,r,_,x,p.2,m+ 3*szL (l.take k),rfl,B2,hx,ok p (aP hp),by lia,uC _ _ _ sm,by lia,fun H3 F3 B3=>⟨jM,fun t2 h2=>?_⟩⟩⟩⟩
  have S4:=gZ h2 (.tup [.str p.1,.int (rK (l.take k) D).1.pts.length])
  have F4:=(F2.trans F3).then S4
  refine z _ _ (S4 _ _ (F3.1 _ _ ez nd)) ⟨?_,F4,?_⟩
  ·rw[jm hp,rM]
   exact B3.same S4
  ·rw[jm hp,rM,bB]
   exact((I2.mono F3.2.tk).mono (iE.tk S4)).app (.cons (iI h2 (.cons (j0 _) (.cons (jE _) .nil))) .nil)
 ·rintro H2 zs ⟨B2,F2,I2⟩ lz ez
  rw[bJ]at B2 I2
  refine⟨d,zs,rfl,.inl ⟨SqL.of ez,fun tp htp=>?_⟩⟩
  exact q _ _ (F2.then (gZ htp _)) (B2.same (gZ htp _)) (iI htp I2)
theorem Bt (T:Txt K mg) (n:Nat) (gD8:FO P w base (2*n+ 4) T.d8 (yL (cs T) n)) (gD9:FO P w base (2*n+ 4) T.d9 (v8 (cs T) n)):
  FO P w base (2*(n+ 1)+ 4) T.d8 (yL (cs T) (n+ 1)):=by
 have gE40:=mx (P:=P) (w:=w) (base:=base) T
 have gE41:=pT (P:=P) (w:=w) (base:=base) T
 refine T.d8.F.rd pM fun cdv A0 outer s H vs Q E hr h=>?_
 obtain⟨A,r,D,x,k,m,rfl,B,ix,ok,sz,sm,bd,q⟩:=h
 refine⟨_,(hW (pS (i:=2) pM.nd (iV (i7 (PE.mono (cv 0)) T.c8.cl T.e40.me gE40 (hr.mono (by lia)) T.e40.b .nil jq (gY hV hI))))
  (hW (iY (iw jc (iq iA (cv 1) hV) iC)
   (hW (pS (i:=3) pM.nd (pF T.d9 gD9 (hr.mono (by lia)) (gY (cv 0) (gY (iq iA (cv 1) hV) hI))))
   (hZ (iS (iV (i7 (PE.mono (cv 0)) T.c8.cl T.e41.me gE41 (hr.mono (by lia)) T.e41.b .nil jq (gY iC (gY (iF (gY (cv 3) (gY (pF T.d8 gD8 (hr.mono (by lia)) (gY (cv 0) (gY (iq iA (cv 1) hV) hI))) hI))) (gY (cv 2) (gY hV hI)))))))))
   (hZ (iY (iw jc (iq iA (cv 1) hV) iC)
    (hZ (iS (iV (i7 (PE.mono (cv 0)) T.c8.cl T.e41.me gE41 (hr.mono (by lia)) T.e41.b .nil jq (gY iC (gY (jd jg rfl T.z_tuple jZ (gY (qf rfl (zB (x:="field") ["board"] [("board",0,s.heap.objs.size+ 1)]) (lE (iq iA (cv 1) hV)) (fun _ _ _ _ _=>jL) (fun _ _ _ _ _=>(iF (gY (iq iA (cv 0) hV) (gY (pF T.d8 gD8 (hr.mono (by lia)) (gY (cv 1) (gY (iq iA (cv 0) hV) hI))) hI))))) hI)) (gY (cv 2) (gY hV hI))))))))
    (hZ (iY (iw jc (iq iA (cv 1) hV) iC)
     (hZ (jN PassesOwn.never rfl (lE (iq iA (cv 1) hV)) (pN (i:=4) pM.nd)
      (hZ (iS (iV (i7 (PE.mono (cv 0)) T.c8.cl T.e41.me gE41 (hr.mono (by lia)) T.e41.b .nil jq (gY iC (gY (iF (gY (iq iA (cv 4) hV) (gY (pF T.d8 gD8 (hr.mono (by lia)) (gY (cv 0) (gY (iq iA (cv 4) hV) hI))) hI))) (gY (cv 2) (gY hV hI))))))))))
     (hZ (iY (iw jc (iq iA (cv 1) hV) iC)
      (hZ (iS (iV (i7 (PE.mono (cv 0)) T.c8.cl T.e41.me gE41 (hr.mono (by lia)) T.e41.b .nil jq (gY iC (gY (iF (gY (pF T.d8 gD8 (hr.mono (by lia)) (gY (cv 0) (gY (iq iA (cv 1) hV) hI))) hI)) (gY (cv 2) (gY hV hI))))))))
      (hZ (iS (iV (i7 (PE.mono (cv 0)) T.c8.cl T.e41.me gE41 (hr.mono (by lia)) T.e41.b .nil jq (gY (iq iA (cv 1) hV) (gY (iF hI) (gY (cv 2) (gY hV hI)))))))))))))))
  (hZ (iH (cv 2))))),?_⟩
 have sl:=fZ
 have s1:=sm.1
 refine⟨⟨_,_,B.b,pj _ _ _ _ _⟩,A.b,A.bx,A.p0,A.p1,A.p2,A.p3,r,.int 0,_,rfl,B.b,B.e0,by rw[aE];lia,?_⟩
 have B1:Bw (cs T) (upd H A.p0 (.lst (D.pts.map V.int++[.int 0]))) A r (ptB D):=B.pt 0
 have F1:=FB.upd (A:=A) (ys:=D.pts.map V.int++[.int 0]) (by simp[Ad.ls]) B.e0
 dsimp only[iO]
 rw[aE]
 generalize upd H A.p0 (.lst (D.pts.map V.int++[.int 0]))=H1 at B1 F1⊢
 have i1:=ix.mono F1.2.tk
 have m1:=sm.pt
 clear ix B
 obtain⟨t,rs,rfl,e,hs⟩:=CV i1
 have fin:∀(H2:Hp) (D2:Bd) (s2:Str) (d2:Dt) (f:V) (E':XK),Bw (cs T) H2 A r D2->FB A H1 H2->Im H2 f d2->jQ d2<=2->okD d2->D2.mks.length<=100000->low k D=mkB D2 s2 d2 D.pts.length->pR T.c8.a T.c1.a [.ref A.b,.str s2,f,.int D.pts.length,.int 0] H2 (fun _ H'=>Q (.int D.pts.length) H') E':=by
  intro H2 D2 s2 d2 f E' B2 F2 hf hd ho hl hlow
  obtain⟨mv,em,am⟩:=B2.e1
  have lm:=am.length
  refine⟨A.b,A.bx,A.p0,A.p1,A.p2,A.p3,r,_,_,_,_,mv,rfl,B2.b,em,by lia,fun x dx hx hdx=>?_⟩
  obtain⟨B3,F3⟩:=B2.made (s:=s2) (a:=D.pts.length) hx hdx em hf hd ho
  rw[<-hlow]at B3
  exact q _ ((F1.trans F2).trans F3) B3
 cases k with
 |any=>
  replace e:H1 t=some (.tup (.str "any"::rs)):=e
  refine se rfl e iJ (j9 rfl e iJ (j9 rfl e iJ (j9 rfl e iJ ?_)))
  refine⟨⟨_,_,B1.b,kN _ _ _ _ _⟩,_,e,ig (ic (j:=0) rfl) ⟨sr,fun t0 h0=>?_⟩⟩
  have S4:=gZ h0 (.tup [])
  exact fin _ (ptB D) "any" (.tup []) _ E (B1.same S4) (FB.same S4) (iI h0 .nil) (by simp[jQ,jA]) (by simp[okD,vF]) (by have:=m1.2.1;lia) (by rw[low])
 |num=>
  replace e:H1 t=some (.tup (.str "num"::rs)):=e
  refine se rfl e iJ (j9 rfl e iJ (j9 rfl e iJ (j9 rfl e iJ ?_)))
  refine⟨⟨_,_,B1.b,kN _ _ _ _ _⟩,_,e,ig (ic (j:=0) rfl) ⟨sr,fun t0 h0=>?_⟩⟩
  have S4:=gZ h0 (.tup [])
  exact fin _ (ptB D) "num" (.tup []) _ E (B1.same S4) (FB.same S4) (iI h0 .nil) (by simp[jQ,jA]) (by simp[okD,vF]) (by have:=m1.2.1;lia) (by rw[low])
 |fn a b=>
  replace e:H1 t=some (.tup (.str "fn"::rs)):=e
  obtain⟨y1,y2,rfl,j1,j2⟩:=pA (show Ims H1 rs [a.d,b.d]from hs)
  rw[Kd.ok]at ok
  rw[Kd.sz]at sz bd
  have pa:=iR a
  have pb:=iR b
  refine kF rfl e rfl ?_
  refine⟨_,e,ig (ic (j:=1) rfl) ⟨A,r,ptB D,y1,a,m+ 1,rfl,B1,j1,ok.1,by lia,m1,by lia,fun H2 F2 B2=>?_⟩⟩
  dsimp only[iO]
  have e2:=F2.2.tk _ _ e
  have m2:=qH a _ _ m1
  have m3:=nE b _ _ m2
  refine⟨⟨_,_,B2.b,kN _ _ _ _ _⟩,_,e2,ig (ic (j:=2) rfl) ⟨A,r,_,y2,b,_,rfl,B2,j2.mono F2.2.tk,ok.2,by lia,m2,by lia,fun H3 F3 B3=>⟨jM,fun t2 h2=>?_⟩⟩⟩
  have S4:=gZ h2 (.tup [.int (ptB D).pts.length,.int (upp a (ptB D)).pts.length])
  exact fin _ _ "fn" (.tup [iD (ptB D).pts.length,iD (upp a (ptB D)).pts.length]) _ E (B3.same S4) ((F2.trans F3).then S4) (iI h2 (.cons (jE _) (.cons (jE _) .nil))) (by simp[iD,jQ,jA]) (by simp[iD,okD,vF]) (by have:=m3.2.1;lia) (by rw[low])
 |rcd l=>
  replace e:H1 t=some (.tup (.str "rec"::rs)):=e
  obtain⟨tl,xs,rfl,el,il⟩:=Bp (show Ims H1 rs [.tup l.ds]from hs)
  rw[Kd.ok,lM]at ok
  rw[Kd.sz,mC]at sz bd
  have lx:=il.length
  rw[aE]at lx
  refine se rfl e iJ (mU rfl e rfl ?_)
  refine⟨⟨_,_,B1.b,kN _ _ _ _ _⟩,_,e,ig (ic (j:=1) rfl) ⟨tl,rfl,⟨_,SqT.of el⟩,fun d hd=>?_⟩⟩
  have nd:=B1.out hd
  refine A6 el il (by have:=ok.2.2.1;lia) (fun k zs H2=>Bw (cs T) H2 A r (tN (l.toL.take k) (ptB D)).1/\FB A H1 H2/\Ims H2 zs ((tN (l.toL.take k) (ptB D)).2.map prL)) (fun k zs H2 h=>h.2.1.2.tk) (fun k zs H2 ys ys' h e=>⟨h.1.other e nd,h.2.1.new hd _,h.2.2.mono (jP e).tk⟩) ⟨B1.same (gZ hd _),FB.same (gZ hd _),.nil⟩ ?_ ?_
  ·rintro k H2 p t' x zs Z ⟨B2,F2,I2⟩ ez hp et' hx z
   have sz2:=yk hp
   refine⟨_,et',ig (ic (j:=0) rfl) ⟨_,et',ig (ic (j:=1) rfl) ⟨A,r,_,x,p.2,m+ 1+ 3*szL (l.toL.take k),rfl,B2,hx,ok.1 p (aP hp),by lia,wV _ _ _ m1,by lia,fun H3 F3 B3=>⟨jM,fun t2 h2=>?_⟩⟩⟩⟩
   have S4:=gZ h2 (.tup [.str p.1,.int (tN (l.toL.take k) (ptB D)).1.pts.length])
   have F4:=(F2.trans F3).then S4
   refine z _ _ (S4 _ _ (F3.1 _ _ ez nd)) ⟨?_,F4,?_⟩
   ·rw[jm hp,rL]
    exact B3.same S4
   ·rw[jm hp,rL,bB]
    exact((I2.mono F3.2.tk).mono (iE.tk S4)).app (.cons (iI h2 (.cons (j0 _) (.cons (jE _) .nil))) .nil)
  ·rintro H2 zs ⟨B2,F2,I2⟩ lz ez
   rw[bJ]at B2 I2
   refine⟨d,zs,rfl,.inl ⟨SqL.of ez,fun tp htp=>?_⟩⟩
   have S3:=gZ htp (.tup zs)
   exact fin _ _ "rec" (prD (tN l.toL (ptB D)).2) _ E (B2.same S3) (F2.then S3) (iI htp I2) (Ax _) (DV (by rw[yj];exact ok.2.2.1)) (by have:=(wV l.toL _ _ m1).2.1;lia) (by rw[low,D6])
 |ch l=>
  replace e:H1 t=some (.tup (.str "choice"::rs)):=e
  obtain⟨tl,xs,rfl,el,il⟩:=Bp (show Ims H1 rs [.tup l.ds]from hs)
  rw[Kd.ok,lM]at ok
  rw[Kd.sz,mC]at sz bd
  have lx:=il.length
  rw[aE]at lx
  refine se rfl e iJ (j9 rfl e iJ (mU rfl e rfl ?_))
  refine⟨_,e,ig (ic (j:=1) rfl) ⟨tl,rfl,⟨_,SqT.of el⟩,qZ (xs:=xs) (fun i σ H2=>∃o4:Option V,σ=[some (.ref A.b),some (.ref t),some (.int D.pts.length),none,o4]/\Bw (cs T) H2 A r (wR (l.toL.take i) D.pts.length (ptB D))/\FB A H1 H2)
   ⟨none,rfl,B1,FB.same (iE.refl _)⟩ (fun i σ H2 _ ⟨_,_,_,F⟩=>SqT.of (F.2.tk _ _ el)) ?_ ?_⟩⟩
  ·rintro i v σ H2 hv ⟨o4,rfl,B2,F2⟩
   obtain⟨p,t',x,hp,rfl,et',hx⟩:=yh (il.mono F2.2.tk) hv
   have sz2:=yk hp
   have m2:=A5 (l.toL.take i) D.pts.length _ _ m1
   have m3:=nE p.2 _ _ m2
   dsimp only[iO]
   refine⟨⟨_,_,B2.b,kN _ _ _ _ _⟩,_,et',ig (ic (j:=0) rfl) ⟨_,et',ig (ic (j:=1) rfl) ⟨A,r,_,x,p.2,_,rfl,B2,hx,ok.1 p (aP hp),by lia,m2,by lia,fun H3 F3 B3=>⟨jM,fun t2 h2=>?_⟩⟩⟩⟩
   have S4:=gZ h2 (.tup [.str p.1,.int (wR (l.toL.take i) D.pts.length (ptB D)).pts.length])
   have B4:=B3.same S4
   obtain⟨mv,em,am⟩:=B4.e1
   have lm:=am.length
   have:=m3.2.1
   refine⟨A.b,A.bx,A.p0,A.p1,A.p2,A.p3,r,_,_,_,_,mv,rfl,B4.b,em,by lia,fun y dy hy hdy=>?_⟩
   obtain⟨B5,F5⟩:=B4.made (s:="tag") (a:=D.pts.length) (d:= .tup [sD p.1,iD (wR (l.toL.take i) D.pts.length (ptB D)).pts.length]) hy hdy em (iI h2 (.cons (j0 _) (.cons (jE _) .nil))) (by simp[sD,iD,jQ,jA]) (by simp[sD,iD,okD,vF])
   refine⟨_,rfl,?_,((F2.trans F3).then S4).trans F5⟩
   rw[jm hp,vS]
   exact B5
  ·rintro σ H2 ⟨o4,rfl,B2,F2⟩
   rw[lx,bJ]at B2
   exact q _ (F1.trans F2) (by rw[low,D7];exact B2)
 |row a=>
  replace e:H1 t=some (.tup (.str "row"::rs)):=e
  obtain⟨y1,rfl,j1⟩:=lY (show Ims H1 rs [a.d]from hs)
  rw[Kd.ok]at ok
  rw[Kd.sz]at sz bd
  have pa:=iR a
  have m2:=nE a _ _ m1
  refine se rfl e iJ (j9 rfl e iJ (j9 rfl e iJ (mU rfl e rfl ?_)))
  refine⟨⟨_,_,B1.b,kN _ _ _ _ _⟩,_,e,ig (ic (j:=1) rfl) ⟨A,r,ptB D,y1,a,m+ 1,rfl,B1,j1,ok,by lia,m1,by lia,fun H3 F3 B3=>⟨vd,fun t2 h2=>?_⟩⟩⟩
  have S4:=gZ h2 (.tup [.int (ptB D).pts.length])
  exact fin _ _ "row" (.tup [iD (ptB D).pts.length]) _ E (B3.same S4) (F3.then S4) (iI h2 (.cons (jE _) .nil)) (by simp[iD,jQ,jA]) (by simp[iD,okD,vF]) (by have:=m2.2.1;lia) (by rw[low])
theorem Bu (T:Txt K mg) (n:Nat) (gD8:FO P w base (2*n+ 4) T.d8 (yL (cs T) n)) (gD9:FO P w base (2*n+ 4) T.d9 (v8 (cs T) n)):
  FO P w base (2*(n+ 1)+ 4) T.d9 (v8 (cs T) (n+ 1)):=by
 have gE40:=mx (P:=P) (w:=w) (base:=base) T
 have gE42:=qJ (P:=P) (w:=w) (base:=base) T
 have gE29:=jD (P:=P) (w:=w) (base:=base) T
 have gE31:=lT (P:=P) (w:=w) (base:=base) T
 have gE33:=lU (P:=P) (w:=w) (base:=base) T
 have gE35:=lV (P:=P) (w:=w) (base:=base) T
 have gE37:=md (P:=P) (w:=w) (base:=base) T
 have gD10:=Bs (P:=P) (w:=w) (base:=base) T n gD9
 refine T.d9.F.rd qY fun cdv A0 outer s H vs Q E hr h=>?_
 obtain⟨A,r,D,x,k,m,rfl,B,ix,ok,sz,sm,bd,q⟩:=h
 refine⟨_,(hW (pS (i:=2) qY.nd (iV (i7 (PE.mono (cv 0)) T.c8.cl T.e40.me gE40 (hr.mono (by lia)) T.e40.b .nil jq (gY hV hI))))
  (hW (iY (iw jc (iq iA (cv 1) hV) iC)
   (hZ (iS (iV (i7 (PE.mono (cv 0)) T.c8.cl T.e42.me gE42 (hr.mono (by lia)) T.e42.b .nil jq (gY (ku T.mk3 gE29 (hr.mono (by lia)) rfl T.c3.m T.e29.b .nil jq (gY (cv 2) (gY hV (gY hV hI)))) hI)))))
   (hZ (iY (iw jc (iq iA (cv 1) hV) iC)
    (hW (pS (i:=3) qY.nd (pF T.d8 gD8 (hr.mono (by lia)) (gY (cv 0) (gY (iq iA (cv 1) hV) hI))))
    (hZ (iS (iV (i7 (PE.mono (cv 0)) T.c8.cl T.e42.me gE42 (hr.mono (by lia)) T.e42.b .nil jq (gY (ku T.mk4 gE31 (hr.mono (by lia)) rfl T.c4.m T.e31.b .nil jq (gY (cv 2) (gY hV (gY hV (gY (cv 3) (gY (pF T.d9 gD9 (hr.mono (by lia)) (gY (cv 0) (gY (iq iA (cv 1) hV) hI))) hI)))))) hI))))))
    (hZ (iY (iw jc (iq iA (cv 1) hV) iC)
     (hZ (iS (iV (i7 (PE.mono (cv 0)) T.c8.cl T.e42.me gE42 (hr.mono (by lia)) T.e42.b .nil jq (gY (ku T.mk5 gE33 (hr.mono (by lia)) rfl T.c5.m T.e33.b .nil jq (gY (cv 2) (gY hV (gY hV (gY (pF T.d10 gD10 (hr.mono (by lia)) (gY (cv 0) (gY (iq iA (cv 1) hV) hI))) hI))))) hI)))))
     (hZ (iY (iw jc (iq iA (cv 1) hV) iC)
      (hZ (iS (iV (i7 (PE.mono (cv 0)) T.c8.cl T.e42.me gE42 (hr.mono (by lia)) T.e42.b .nil jq (gY (ku T.mk6 gE35 (hr.mono (by lia)) rfl T.c6.m T.e35.b .nil jq (gY (cv 2) (gY hV (gY hV (gY (pF T.d10 gD10 (hr.mono (by lia)) (gY (cv 0) (gY (iq iA (cv 1) hV) hI))) hI))))) hI)))))
      (hZ (iY (iw jc (iq iA (cv 1) hV) iC)
       (hZ (iS (iV (i7 (PE.mono (cv 0)) T.c8.cl T.e42.me gE42 (hr.mono (by lia)) T.e42.b .nil jq (gY (ku T.mk7 gE37 (hr.mono (by lia)) rfl T.c7.m T.e37.b .nil jq (gY (cv 2) (gY hV (gY hV (gY (pF T.d9 gD9 (hr.mono (by lia)) (gY (cv 0) (gY (iq iA (cv 1) hV) hI))) hI))))) hI)))))
       iM)))))))))
  (hZ (iH (cv 2))))),?_⟩
 have sl:=fZ
 have s1:=sm.1
 refine⟨⟨_,_,B.b,pj _ _ _ _ _⟩,A.b,A.bx,A.p0,A.p1,A.p2,A.p3,r,.int 0,_,rfl,B.b,B.e0,by rw[aE];lia,?_⟩
 have B1:Bw (cs T) (upd H A.p0 (.lst (D.pts.map V.int++[.int 0]))) A r (ptB D):=B.pt 0
 have F1:=FB.upd (A:=A) (ys:=D.pts.map V.int++[.int 0]) (by simp[Ad.ls]) B.e0
 dsimp only[iO]
 rw[aE]
 generalize upd H A.p0 (.lst (D.pts.map V.int++[.int 0]))=H1 at B1 F1⊢
 have i1:=ix.mono F1.2.tk
 have m1:=sm.pt
 clear ix B
 obtain⟨t,rs,rfl,e,hs⟩:=CV i1
 have fin:∀(H2:Hp) (D2:Bd) (u:Us) (x:V) (E':XK),Bw (cs T) H2 A r D2->FB A H1 H2->UsAt (cs T) H2 x u->D2.uss.length<=100000->upp k D=usB D2 u->qI T.c8.a [.ref A.b,x] H2 (fun _ H'=>Q (.int D.pts.length) H') E':=by
  intro H2 D2 u x E' B2 F2 hx hl hlow
  obtain⟨uv,eu,lu,B3,F3⟩:=B2.used hx
  refine⟨A.b,A.bx,A.p0,A.p1,A.p2,A.p3,r,_,uv,rfl,B2.b,eu,by lia,?_⟩
  rw[<-hlow]at B3
  exact q _ ((F1.trans F2).trans F3) B3
 cases k with
 |any=>
  replace e:H1 t=some (.tup (.str "any"::rs)):=e
  refine se rfl e iJ (j9 rfl e iJ (j9 rfl e iJ (j9 rfl e iJ (j9 rfl e iJ ?_))))
  exact q _ F1 (by rw[upp];exact B1)
 |num=>
  replace e:H1 t=some (.tup (.str "num"::rs)):=e
  refine kF rfl e rfl ?_
  refine⟨⟨_,_,B1.b,mE _ _ _ _ _⟩,fun x dx hx hdx nx=>⟨x,_,dx,_,_,_,rfl,hG,T.c3.cl,T.n3at,T.n3place,T.n3slot,rfl,?_⟩⟩
  rw[jk]
  exact fin _ _ (.num D.pts.length 0 0) _ E (B1.same (iW hx hdx)) (FB.same (iW hx hdx)) ⟨x,dx,rfl,hG⟩ (by have:=m1.2.2;lia) (by rw[upp])
 |fn a b=>
  replace e:H1 t=some (.tup (.str "fn"::rs)):=e
  obtain⟨y1,y2,rfl,j1,j2⟩:=pA (show Ims H1 rs [a.d,b.d]from hs)
  rw[Kd.ok]at ok
  rw[Kd.sz]at sz bd
  have pa:=iR a
  have pb:=iR b
  refine se rfl e iJ (mU rfl e rfl ?_)
  refine⟨_,e,ig (ic (j:=1) rfl) ⟨A,r,ptB D,y1,a,m+ 1,rfl,B1,j1,ok.1,by lia,m1,by lia,fun H2 F2 B2=>?_⟩⟩
  dsimp only[iO]
  have e2:=F2.2.tk _ _ e
  have m2:=nE a _ _ m1
  have m3:=qH b _ _ m2
  refine⟨⟨_,_,B2.b,mE _ _ _ _ _⟩,_,e2,ig (ic (j:=2) rfl) ⟨A,r,_,y2,b,_,rfl,B2,j2.mono F2.2.tk,ok.2,by lia,m2,by lia,fun H3 F3 B3 x dx hx hdx nx=>⟨x,dx,_,_,_,_,_,rfl,hG,rfl,?_⟩⟩⟩
  rw[jk]
  exact fin _ _ (.call D.pts.length 0 0 (ptB D).pts.length (low a (ptB D)).pts.length) _ E (B3.same (iW hx hdx)) ((F2.trans F3).then (iW hx hdx)) ⟨x,dx,rfl,hG⟩ (by have:=m3.2.2;lia) (by rw[upp])
 |rcd l=>
  replace e:H1 t=some (.tup (.str "rec"::rs)):=e
  obtain⟨tl,xs,rfl,el,il⟩:=Bp (show Ims H1 rs [.tup l.ds]from hs)
  rw[Kd.ok,lM]at ok
  rw[Kd.sz,mC]at sz bd
  refine se rfl e iJ (j9 rfl e iJ (mU rfl e rfl ?_))
  refine⟨⟨_,_,B1.b,mE _ _ _ _ _⟩,_,e,ig (ic (j:=1) rfl) ⟨A,r,ptB D,tl,xs,l.toL,m+ 1,rfl,B1,el,il,ok.1,ok.2.2.1,by lia,m1,by lia,fun v H3 F3 B3 I3 x dx hx hdx nx=>⟨x,dx,_,_,_,_,rfl,hG,rfl,?_⟩⟩⟩
  rw[jk]
  exact fin _ _ (.take D.pts.length 0 0 (rK l.toL (ptB D)).2) _ E (B3.same (iW hx hdx)) (F3.then (iW hx hdx)) ⟨x,dx,v,rfl,hG,I3.mono (iE.tk (iW hx hdx)),by rw[uB];exact ok.2.2.1⟩ (by have:=(uC l.toL _ _ m1).2.2;lia) (by rw[upp,A2])
 |ch l=>
  replace e:H1 t=some (.tup (.str "choice"::rs)):=e
  obtain⟨tl,xs,rfl,el,il⟩:=Bp (show Ims H1 rs [.tup l.ds]from hs)
  rw[Kd.ok,lM]at ok
  rw[Kd.sz,mC]at sz bd
  refine se rfl e iJ (j9 rfl e iJ (j9 rfl e iJ (mU rfl e rfl ?_)))
  refine⟨⟨_,_,B1.b,mE _ _ _ _ _⟩,_,e,ig (ic (j:=1) rfl) ⟨A,r,ptB D,tl,xs,l.toL,m+ 1,rfl,B1,el,il,ok.1,ok.2.2.1,by lia,m1,by lia,fun v H3 F3 B3 I3 x dx hx hdx nx=>⟨x,dx,_,_,_,_,rfl,hG,rfl,?_⟩⟩⟩
  rw[jk]
  exact fin _ _ (.case D.pts.length 0 0 (rK l.toL (ptB D)).2) _ E (B3.same (iW hx hdx)) (F3.then (iW hx hdx)) ⟨x,dx,v,rfl,hG,I3.mono (iE.tk (iW hx hdx)),by rw[uB];exact ok.2.2.1⟩ (by have:=(uC l.toL _ _ m1).2.2;lia) (by rw[upp,A2])
 |row a=>
  replace e:H1 t=some (.tup (.str "row"::rs)):=e
  obtain⟨y1,rfl,j1⟩:=lY (show Ims H1 rs [a.d]from hs)
  rw[Kd.ok]at ok
  rw[Kd.sz]at sz bd
  have pa:=iR a
  have m2:=qH a _ _ m1
  refine se rfl e iJ (j9 rfl e iJ (j9 rfl e iJ (j9 rfl e iJ (mU rfl e rfl ?_))))
  refine⟨⟨_,_,B1.b,mE _ _ _ _ _⟩,_,e,ig (ic (j:=1) rfl) ⟨A,r,ptB D,y1,a,m+ 1,rfl,B1,j1,ok,by lia,m1,by lia,fun H3 F3 B3 x dx hx hdx nx=>⟨x,dx,_,_,_,_,rfl,hG,rfl,?_⟩⟩⟩
  rw[jk]
  exact fin _ _ (.row D.pts.length 0 0 (ptB D).pts.length) _ E (B3.same (iW hx hdx)) (F3.then (iW hx hdx)) ⟨x,dx,rfl,hG⟩ (by have:=m2.2.2;lia) (by rw[upp])
theorem Bv (T:Txt K mg):∀n,FO P w base (2*n+ 4) T.d8 (yL (cs T) n)/\FO P w base (2*n+ 4) T.d9 (v8 (cs T) n)
 |0=>by
  refine⟨T.d8.F.ok pM (fun vs H Q E h=>?_) (fun cdv A0 outer s H vs Q E hr h=>?_),T.d9.F.ok qY (fun vs H Q E h=>?_) (fun cdv A0 outer s H vs Q E hr h=>?_)⟩
  ·obtain⟨A,r,D,x,k,m,rfl,_⟩:=h
   rfl
  ·obtain⟨A,r,D,x,k,m,_,_,_,_,sz,_⟩:=h
   have:=iR k
   lia
  ·obtain⟨A,r,D,x,k,m,rfl,_⟩:=h
   rfl
  ·obtain⟨A,r,D,x,k,m,_,_,_,_,sz,_⟩:=h
   have:=iR k
   lia
 |n+ 1=>⟨Bt T n (Bv T n).1 (Bv T n).2,Bu T n (Bv T n).1 (Bv T n).2⟩
section
variable {i:Nat} {s w:Str} {t:TS} {D:qb} {σ:St} {H:Hp}
theorem jt {u':TS} {a:fO} {r:List V} (hv:σ[i]?=some (some (.ref a))) (ha:H a=some (.tup (.str s::r))) (h:s≠w) (q:u' D σ H):sX (tX (cT (tOp (cEq false) (tOp AA (cV i) (tC (.int 0))) (tC (.str w)))) t oA) u' D σ H:=se hv ha h q
end
def sS (b n:Nat):List V:=(aa n).map fun k:Nat=>V.int ((b:Int)+(k:Int))
theorem oz (b n:Nat):(sS b n).length=n:=by rw[sS,aE,b6]
theorem lW {b n k:Nat} (h:k<n):atI (sS b n) (k:Int)=some (.int ((b:Int)+(k:Int))):=ic (by rw[sS,aO,bL h];rfl)
theorem Bx (b n:Nat):sS b (n+ 1)=sS b n++[.int ((b:Int)+(n:Int))]:=by rw[sS,bA,bB];rfl
theorem m7 {H:Hp} {x:V} {ds:List Dt} (h:Im H x (.tup ds)):∃t xs,x= .ref t/\H t=some (.tup xs)/\Ims H xs ds:=by
 cases h with
 |tup e hs=>exact⟨_,_,rfl,e,hs⟩
theorem mV {H:Hp} {x:V} {n:Nat} (h:Im H x (nI n)):x= .int (n:Int):=by
 unfold nI iD at h
 cases h
 rfl
theorem By {H:Hp} {x:V} {s:Str} (h:Im H x (sD s)):x= .str s:=by
 unfold sD at h
 cases h
 rfl
theorem CW {H:Hp} {x:V} {m:Pm} (h:Im H x m.d):∃t r,x= .ref t/\H t=some (.tup (.str m.sh::r))/\Ims H r m.rest:=by
 obtain⟨t,xs,rfl,e,hs⟩:=m7 h
 cases hs with
 |cons h1 hs=>rw[By h1]at e;exact⟨t,_,rfl,e,hs⟩
theorem Hl {H:Hp} {x:V} {m:Pu} (h:Im H x m.d):∃t r,x= .ref t/\H t=some (.tup (.str m.sh::r))/\Ims H r m.rest:=by
 obtain⟨t,xs,rfl,e,hs⟩:=m7 h
 cases hs with
 |cons h1 hs=>rw[By h1]at e;exact⟨t,_,rfl,e,hs⟩
theorem v9 {H:Hp} {xs:List V} {l:List (Str×Nat)} {k:Nat} {v:V} (h:Ims H xs (l.map fun p=> .tup [sD p.1,nI p.2])) (hv:xs[k]?=some v):∃p t,l[k]?=some p/\v= .ref t/\H t=some (.tup [.str p.1,.int (p.2:Int)]):=by
 obtain⟨d,hd,im⟩:=KK.Internal.Ims.atK h hv
 rw[aO]at hd
 cases e:l[k]? with
 |none=>rw[e]at hd;cases hd
 |some p=>
  rw[e]at hd
  cases hd
  obtain⟨t,ys,rfl,et,hs⟩:=m7 im
  obtain⟨y1,y2,rfl,j1,j2⟩:=pA hs
  rw[By j1,mV j2]at et
  exact⟨p,t,rfl,rfl,et⟩
theorem CY {b k:Nat} {l:List (Str×Nat)} {p:Str×Nat} (h:l[k]?=some p):mvL b (l.take (k+ 1))=mvL b (l.take k)++[(p.1,(b:Int)+(p.2:Int))]:=by
 rw[jm h,mvL,bB]
 rfl
def Jc:Sp:=fun vs H Q _=>X5 fun(x:V) (p:fO) (l:List (Str×Nat)) (b n:Nat)=>Y6 (vs=[x,.ref p]) (Im H x (prN l)) (l.length<=4) ((∀y∈l,y.2<n)) (H p=some (.lst (sS b n))) (∀v H',iE H H'->Im H' v (prD (mvL b l))->Q v H')
theorem oM (T:Txt K mg):FO P w base 1 T.d6 Jc:=by
 refine T.d6.F.rd sI fun cdv A0 outer s H vs Q E hr h=>?_
 obtain⟨x,p,l,b,n,rfl,ix,l4,ln,ep,q⟩:=h
 refine⟨_,(hZ (iH (jd jg rfl T.z_tuple jZ (gY (qf rfl (zB (x:="pair") ["points"] [("points",1,s.heap.objs.size+ 1)]) (lE (cv 0)) (fun _ _ _ _ _=>jL) (fun _ _ _ _ _=>(iF (gY (iq iA (cv 0) hV) (gY (iq iG (cv 1) (iq iA (cv 0) hV)) hI))))) hI)))),?_⟩
 have sl:=fZ
 obtain⟨t,xs,rfl,et,hs⟩:=m7 ix
 have lx:=hs.length
 rw[aE]at lx
 refine⟨t,rfl,⟨_,SqT.of et⟩,fun D hD=>?_⟩
 refine my xs.length (by lia) (fun ys H2=>Ims H2 ys ((mvL b (l.take ys.length)).map prL)) (fun ys _ _ h k=>h.mono k) hD rfl (fun k H S hk=>xU et S hk) (fun H S=>xV et S) .nil ?_ ?_
 ·rintro k H2 v H3 ys Z S2 hk ⟨rfl,hv⟩ hys hl z
  obtain⟨y,t',hy,rfl,et'⟩:=v9 (hs.mono (iE.tk S2)) (hv _ (SqT.of (S2 _ _ et)))
  refine⟨_,et',ig (ic (j:=0) rfl) ⟨_,et',ig (ic (j:=1) rfl) ⟨_,S2 _ _ ep,ig (lW (ln y (aP hy))) ⟨jM,fun t2 h2=>?_⟩⟩⟩⟩
  have S4:=gZ h2 (.tup [.str y.1,.int ((b:Int)+(y.2:Int))])
  refine z _ _ S4 ?_
  rw[aQ,aY,hl,CY hy,bB]
  rw[hl]at hys
  exact(hys.mono (iE.tk S4)).app (.cons (iI h2 (.cons (j0 _) (.cons (jE _) .nil))) .nil)
 ·rintro H2 ys S2 hys hl eD
  rw[hl,lx,bJ]at hys
  refine⟨D,ys,rfl,.inl ⟨SqL.of eD,fun tp htp=>?_⟩⟩
  exact q _ _ (S2.trans (gZ htp _)) (iI htp hys)
def CZ:Sp:=fun vs H Q _=>X8 fun(x:V) (o i:fO) (m:Pm) (b c no ni:Nat)=>Y6 (vs=[x,.ref o,.ref i]) (Im H x m.d) (m.ok no ni) (H o=some (.lst (sS b no))) (H i=some (.lst (sS c ni))) (∀v H',iE H H'->Im H' v (m.parts b c)->Q v H')
theorem u4 (T:Txt K mg):FO P w base 2 T.d4 CZ:=by
 have gD6:=oM (P:=P) (w:=w) (base:=base) T
 refine T.d4.F.rd uJ fun cdv A0 outer s H vs Q E hr h=>?_
 obtain⟨x,o,i,m,b,c,no,ni,rfl,ix,ok,eo,ei,q⟩:=h
 refine⟨_,(hW (iY (iw jc (iq iA (cv 0) hV) iC)
   (hZ (iH (iF (gY (iq iG (cv 2) (iq iA (cv 0) hV)) (gY (iq iG (cv 1) (iq iA (cv 0) hV)) hI)))))
   iM)
  (hW (iY (iw jc (iq iA (cv 0) hV) iC)
   (hZ (iH (pF T.d6 gD6 hr.m (gY (iq iA (cv 0) hV) (gY (cv 1) hI)))))
   iM)
  (hW (iY (iw jc (iq iA (cv 0) hV) iC)
   (hZ (iH (iF (gY (iq iA (cv 0) hV) (gY (iq iG (cv 1) (iq iA (cv 0) hV)) hI)))))
   iM)
  (hW (iY (iw jc (iq iA (cv 0) hV) iC)
   (hZ (iH (iF (gY (iq iG (cv 1) (iq iA (cv 0) hV)) hI))))
   iM)
  (hZ (iH (iF hI))))))),?_⟩
 have sl:=fZ
 obtain⟨t,r,rfl,e,hs⟩:=CW ix
 cases m with
 |num=>
  replace e:H t=some (.tup (.str "num"::r)):=e
  refine jt rfl e iJ (jt rfl e iJ (jt rfl e iJ (jt rfl e iJ ?_)))
  exact⟨sr,fun t0 h0=>q _ _ (gZ h0 _) (iI h0 .nil)⟩
 |any=>
  replace e:H t=some (.tup (.str "any"::r)):=e
  refine jt rfl e iJ (jt rfl e iJ (jt rfl e iJ (jt rfl e iJ ?_)))
  exact⟨sr,fun t0 h0=>q _ _ (gZ h0 _) (iI h0 .nil)⟩
 |fn x y=>
  obtain⟨v1,v2,rfl,j1,j2⟩:=pA hs
  rw[mV j1,mV j2]at e
  replace e:H t=some (.tup [.str "fn",.int (x:Int),.int (y:Int)]):=e
  refine kF rfl e rfl ?_
  exact⟨_,e,ig (ic (j:=1) rfl) ⟨_,ei,ig (lW ok.1) ⟨_,e,ig (ic (j:=2) rfl) ⟨_,eo,ig (lW ok.2) ⟨jM,fun t0 h0=>q _ _ (gZ h0 _) (iI h0 (.cons (jE _) (.cons (jE _) .nil)))⟩⟩⟩⟩⟩
 |rcd l=>
  obtain⟨v1,rfl,j1⟩:=lY hs
  replace e:H t=some (.tup [.str "rec",v1]):=e
  refine jt rfl e iJ (kF rfl e rfl ?_)
  exact⟨_,e,ig (ic (j:=1) rfl) ⟨v1,o,l,b,no,rfl,j1,ok.1,ok.2,eo,q⟩⟩
 |tag z y=>
  obtain⟨v1,v2,rfl,j1,j2⟩:=pA hs
  rw[By j1,mV j2]at e
  replace e:H t=some (.tup [.str "tag",.str z,.int (y:Int)]):=e
  refine jt rfl e iJ (jt rfl e iJ (kF rfl e rfl ?_))
  exact⟨_,e,ig (ic (j:=1) rfl) ⟨_,e,ig (ic (j:=2) rfl) ⟨_,eo,ig (lW ok) ⟨jM,fun t0 h0=>q _ _ (gZ h0 _) (iI h0 (.cons (j0 _) (.cons (jE _) .nil)))⟩⟩⟩⟩
 |row y=>
  obtain⟨v1,rfl,j1⟩:=lY hs
  rw[mV j1]at e
  replace e:H t=some (.tup [.str "row",.int (y:Int)]):=e
  refine jt rfl e iJ (jt rfl e iJ (jt rfl e iJ (kF rfl e rfl ?_)))
  exact⟨_,e,ig (ic (j:=1) rfl) ⟨_,eo,ig (lW ok) ⟨vd,fun t0 h0=>q _ _ (gZ h0 _) (iI h0 (.cons (jE _) .nil))⟩⟩⟩
def Jd (c:Cs):Sp:=fun vs H Q _=>X10 fun(x:V) (a p:Int) (o i:fO) (u:Pu) (b d no ni:Nat)=>Y6 (vs=[x,.int a,.int p,.ref o,.ref i]) (Im H x u.d) (u.ok no ni) (H o=some (.lst (sS b no))) (H i=some (.lst (sS d ni))) (∀v H',iE H H'->UsAt c H' v (u.us b d a p)->Q v H')
theorem xq (T:Txt K mg):FO P w base 4 T.d5 (Jd (cs T)):=by
 have gD6:=oM (P:=P) (w:=w) (base:=base) T
 have gE29:=jD (P:=P) (w:=w) (base:=base) T
 have gE31:=lT (P:=P) (w:=w) (base:=base) T
 have gE33:=lU (P:=P) (w:=w) (base:=base) T
 have gE35:=lV (P:=P) (w:=w) (base:=base) T
 have gE37:=md (P:=P) (w:=w) (base:=base) T
 refine T.d5.F.rd w8 fun cdv A0 outer s H vs Q E hr h=>?_
 obtain⟨x,a,p,o,i,u,b,d,no,ni,rfl,ix,ok,eo,ei,q⟩:=h
 refine⟨_,(hW (iY (iw jc (iq iA (cv 0) hV) iC)
   (hZ (iH (ku T.mk4 gE31 hr.m rfl T.c4.m T.e31.b .nil jq (gY (cv 1) (gY (cv 2) (gY hV (gY (iq iG (cv 3) (iq iA (cv 0) hV)) (gY (iq iG (cv 4) (iq iA (cv 0) hV)) hI))))))))
   iM)
  (hW (iY (iw jc (iq iA (cv 0) hV) iC)
   (hZ (iH (ku T.mk5 gE33 hr.m rfl T.c5.m T.e33.b .nil jq (gY (cv 1) (gY (cv 2) (gY hV (gY (pF T.d6 gD6 hr.m (gY (iq iA (cv 0) hV) (gY (cv 4) hI))) hI)))))))
   iM)
  (hW (iY (iw jc (iq iA (cv 0) hV) iC)
   (hZ (iH (ku T.mk6 gE35 hr.m rfl T.c6.m T.e35.b .nil jq (gY (cv 1) (gY (cv 2) (gY hV (gY (pF T.d6 gD6 hr.m (gY (iq iA (cv 0) hV) (gY (cv 4) hI))) hI)))))))
   iM)
  (hW (iY (iw jc (iq iA (cv 0) hV) iC)
   (hZ (iH (ku T.mk7 gE37 hr.m rfl T.c7.m T.e37.b .nil jq (gY (cv 1) (gY (cv 2) (gY hV (gY (iq iG (cv 4) (iq iA (cv 0) hV)) hI)))))))
   iM)
  (hZ (iH (ku T.mk3 gE29 hr.m rfl T.c3.m T.e29.b .nil jq (gY (cv 1) (gY (cv 2) (gY hV hI)))))))))),?_⟩
 have sl:=fZ
 obtain⟨t,r,rfl,e,hs⟩:=Hl ix
 cases u with
 |num=>
  replace e:H t=some (.tup (.str "num"::r)):=e
  refine jt rfl e iJ (jt rfl e iJ (jt rfl e iJ (jt rfl e iJ ?_)))
  refine fun x dx hx hdx nx=>⟨x,_,dx,_,_,_,rfl,hG,T.c3.cl,T.n3at,T.n3place,T.n3slot,rfl,?_⟩
  rw[jk]
  exact q _ _ (iW hx hdx) ⟨x,dx,rfl,hG⟩
 |call y z=>
  obtain⟨v1,v2,rfl,j1,j2⟩:=pA hs
  rw[mV j1,mV j2]at e
  replace e:H t=some (.tup [.str "call",.int (y:Int),.int (z:Int)]):=e
  refine kF rfl e rfl ?_
  refine⟨_,e,ig (ic (j:=1) rfl) ⟨_,eo,ig (lW ok.1) ⟨_,e,ig (ic (j:=2) rfl) ⟨_,ei,ig (lW ok.2) fun x dx hx hdx nx=>⟨x,dx,_,_,_,_,_,rfl,hG,rfl,?_⟩⟩⟩⟩⟩
  rw[jk]
  exact q _ _ (iW hx hdx) ⟨x,dx,rfl,hG⟩
 |take l=>
  obtain⟨v1,rfl,j1⟩:=lY hs
  replace e:H t=some (.tup [.str "take",v1]):=e
  refine jt rfl e iJ (kF rfl e rfl ?_)
  refine⟨_,e,ig (ic (j:=1) rfl) ⟨v1,i,l,d,ni,rfl,j1,ok.1,ok.2,ei,fun v H3 S3 I3 x dx hx hdx nx=>⟨x,dx,_,_,_,_,rfl,hG,rfl,?_⟩⟩⟩
  rw[jk]
  exact q _ _ (S3.trans (iW hx hdx)) ⟨x,dx,v,rfl,hG,I3.mono (iE.tk (iW hx hdx)),by rw[mvL,aE];have:=ok.1;lia⟩
 |case l=>
  obtain⟨v1,rfl,j1⟩:=lY hs
  replace e:H t=some (.tup [.str "case",v1]):=e
  refine jt rfl e iJ (jt rfl e iJ (kF rfl e rfl ?_))
  refine⟨_,e,ig (ic (j:=1) rfl) ⟨v1,i,l,d,ni,rfl,j1,ok.1,ok.2,ei,fun v H3 S3 I3 x dx hx hdx nx=>⟨x,dx,_,_,_,_,rfl,hG,rfl,?_⟩⟩⟩
  rw[jk]
  exact q _ _ (S3.trans (iW hx hdx)) ⟨x,dx,v,rfl,hG,I3.mono (iE.tk (iW hx hdx)),by rw[mvL,aE];have:=ok.1;lia⟩
 |row y=>
  obtain⟨v1,rfl,j1⟩:=lY hs
  rw[mV j1]at e
  replace e:H t=some (.tup [.str "row",.int (y:Int)]):=e
  refine jt rfl e iJ (jt rfl e iJ (jt rfl e iJ (kF rfl e rfl ?_)))
  refine⟨_,e,ig (ic (j:=1) rfl) ⟨_,ei,ig (lW ok) fun x dx hx hdx nx=>⟨x,dx,_,_,_,_,rfl,hG,rfl,?_⟩⟩⟩
  rw[jk]
  exact q _ _ (iW hx hdx) ⟨x,dx,rfl,hG⟩
theorem Bz {K:PySem.W.Frag} {a b:fO} {xs ys:List V} {g:TG} {tb:TS} {D:qb} {σ:St} {H:Hp} (Pv:Nat->St->Hp->Prop) (h0:Pv 0 σ H) (hl:∀i σ H,i<=xs.length->Pv i σ H->SqL K H a xs/\SqL K H b ys) (hn:ys.length=xs.length)
  (hs:∀(i:Nat) (x y:V) (σ:St) (H:Hp) (T:fO),xs[i]?=some x->ys[i]?=some y->Pv i σ H->H T=none->g (.ref T) σ (upd H T (.tup [x,y])) fun σ2 H2=>tb {D with nx:=Pv (i+ 1),ct:=Pv (i+ 1),bk:=D.nx} σ2 H2) (hd:∀σ H,Pv xs.length σ H->D.nx σ H):
  ∃W:Nat->Nat->St->Hp->Prop,(∃m,W 0 m σ H)/\∀i m σ H,W i m σ H->
   ((Itz K a b).stop i H/\D.nx σ H)\/((Itz K a b).go i H/\∃N:St->Hp->Prop,(∀σ' H',N σ' H'->∃m',m'<m/\W (i+ 1) m' σ' H')/\∀x H',(Itz K a b).yld i H x H'->g x σ H' fun σ2 H2=>tb {D with nx:=N,ct:=N,bk:=D.nx} σ2 H2):=by
 refine⟨fun i m σ H=>Y3 (m=xs.length-i) (i<=xs.length) (Pv i σ H),⟨xs.length,by simp,cC _,h0⟩,?_⟩
 rintro i m σ H ⟨rfl,hi,p⟩
 obtain⟨q1,q2⟩:=hl i σ H hi p
 by_cases hlt:i<xs.length
 ·refine .inr ⟨⟨xs,ys,xs[i],ys[i]'(by lia),q1,q2,by simp[hlt],bj (by lia)⟩,Pv (i+ 1),fun σ' H' p'=>⟨xs.length-(i+ 1),by lia,rfl,hlt,p'⟩,fun v H' y=>?_⟩
  obtain⟨T,x,y,rfl,hT,rfl,hx,hy⟩:=y
  exact hs i x y σ H T (hx xs q1) (hy ys q2) p hT
 ·have e:i=xs.length:=by lia
  subst e
  exact .inl ⟨⟨xs,ys,q1,q2,by lia⟩,hd σ H p⟩
def fP (o i f:fO):List (Str×V):=[("outs",.ref o),("ins",.ref i),("flows",.ref f)]
theorem xt (o i f:fO):(fP o i f).lookup ("outs":Str)=some (.ref o):=by kernel_rfl
theorem BA (o i f:fO):(fP o i f).lookup ("ins":Str)=some (.ref i):=by kernel_rfl
theorem yM (o i f:fO):(fP o i f).lookup ("flows":Str)=some (.ref f):=by kernel_rfl
theorem Je (o i f:fO):lZ "flows" (.ref f) (lZ "ins" (.ref i) (lZ "outs" (.ref o) []))=fP o i f:=by
 have h1:¬("outs":Str)="ins":=iJ
 have h2:¬("outs":Str)="flows":=iJ
 have h3:¬("ins":Str)="flows":=iJ
 simp only[lZ,iT h1,iT h2,iT h3,fP]
def zD (p:Nat×Nat):Dt:= .tup [nI p.1,nI p.2]
def Ed (l:List Pm):Dt:= .tup (l.map Pm.d)
def inD (l:List Pu):Dt:= .tup (l.map Pu.d)
structure L3 (H:Hp) (o i f:fO) (P:Pp):Prop where
 o:∃xs,H o=some (.lst xs)/\Ims H xs (P.outs.map Ed)
 i:∃xs,H i=some (.lst xs)/\Ims H xs (P.ins.map inD)
 f:∃xs,H f=some (.lst xs)/\Ims H xs (P.fls.map zD)
theorem L3.fr {H H':Hp} {o i f:fO} {P:Pp} (h:L3 H o i f P) (k:∀a∈[o,i,f],∀xs,H a=some (.lst xs)->H' a=some (.lst xs)) (tk:TK H H'):L3 H' o i f P:=by
 obtain⟨⟨x,h1,h2⟩,⟨y,h3,h4⟩,⟨z,h5,h6⟩⟩:=h
 exact⟨⟨x,k _ (by simp) _ h1,h2.mono tk⟩,⟨y,k _ (by simp) _ h3,h4.mono tk⟩,⟨z,k _ (by simp) _ h5,h6.mono tk⟩⟩
theorem L3.same {H H':Hp} {o i f:fO} {P:Pp} (h:L3 H o i f P) (s:iE H H'):L3 H' o i f P:=h.fr (fun a _ xs e=>s _ _ e) (iE.tk s)
theorem L3.fb {H H':Hp} {A:Ad} {o i f:fO} {P:Pp} (h:L3 H o i f P) (F:FB A H H') (n:∀a∈[o,i,f],a∉A.ls):L3 H' o i f P:=h.fr (fun a ha xs e=>F.1 _ _ e (n a ha)) F.2.tk
def zy (C:fO) (H:Hp) (x o i f:fO):Prop:=∃dx,H x=some (.ins C dx (fP o i f))
theorem zy.fk {C:fO} {H H':Hp} {x o i f:fO} (h:zy C H x o i f) (k:FK H H'):zy C H' x o i f:=by
 obtain⟨dx,e⟩:=h
 exact⟨dx,k _ _ e (.inl (by show 3≠5;decide))⟩
theorem _root_.KK.Internal.Bw.madeP {c:Cs} {H:Hp} {A:Ad} {r:V} {D:Bd} (B:Bw c H A r D) {x dx:fO} {mv:List V} {f:V} (hx:H x=none) (hdx:H dx=none) (e:H A.p1=some (.lst mv)) {s:Str} {d:Dt} {a p:Int} (hf:Im H f d) (hd:jQ d<=2) (ho:okD d):
  Bw c (upd (upd (upd H dx (.own x)) x (.ins c.M dx (fM (.str s) f (.int a) (.int p)))) A.p1 (.lst (mv++[.ref x]))) A r {D with mks:=D.mks++[⟨s,d,a,p⟩]}/\FB A H (upd (upd (upd H dx (.own x)) x (.ins c.M dx (fM (.str s) f (.int a) (.int p)))) A.p1 (.lst (mv++[.ref x]))):=by
 have S:=iW (o:= .ins c.M dx (fM (.str s) f (.int a) (.int p))) hx hdx
 have M:qF c (upd (upd H dx (.own x)) x (.ins c.M dx (fM (.str s) f (.int a) (.int p)))) (.ref x) ⟨s,d,a,p⟩:=⟨x,dx,f,rfl,hG,hf.mono (iE.tk S),hd,ho⟩
 exact⟨(B.same S).addM (S _ _ e) M,(FB.same S).trans (FB.upd (by simp[Ad.ls]) (S _ _ e))⟩
theorem C0 {m:Pm} {b i no ni:Nat} (h:m.ok no ni):jQ (m.parts b i)<=2/\okD (m.parts b i):=by
 cases m with
 |num=>simp[Pm.parts,jQ,jA,okD,vF]
 |any=>simp[Pm.parts,jQ,jA,okD,vF]
 |fn x y=>simp[Pm.parts,iD,jQ,jA,okD,vF]
 |rcd l=>exact⟨Ax _,DV (by rw[mvL,aE];have:=h.1;lia)⟩
 |tag z y=>simp[Pm.parts,iD,sD,jQ,jA,okD,vF]
 |row y=>simp[Pm.parts,iD,jQ,jA,okD,vF]
theorem JL (D:Bd) (n:Nat) (pl:Int):(D.pts++aI n pl).length=D.pts.length+n:=by rw[aQ,aR]
def Dc (C:fO):Sp:=fun vs H Q _=>X5 fun(x dx o i f:fO)=>Y3 (vs=[.ref x,.ref o,.ref i,.ref f]) (H x=some (.ins C dx [])) (Q .non (upd H x (.ins C dx (fP o i f))))
theorem qA (T:Txt K mg):MO P w base mg 1 T.e44 (Dc T.c9.a):=by
 refine T.e44.F.rd qt fun cdv A outer s H vs Q E hr h=>?_
 obtain⟨x,dx,o,i,f,rfl,hx,q⟩:=h
 refine⟨_,(hW (jy (pv 0) (pv 1) rfl)
  (hW (jy (pv 0) (pv 2) rfl)
  (hZ (jy (pv 0) (pv 3) rfl)))),?_⟩
 refine⟨_,rfl,_,rfl,x,_,dx,_,rfl,hx,T.c9.cl,T.n9outs,(by show 0<1000;decide),?_⟩
 refine⟨_,rfl,_,rfl,x,_,dx,_,rfl,hG,T.c9.cl,T.n9ins,(by show 1<1000;decide),?_⟩
 refine⟨_,rfl,_,rfl,x,_,dx,_,rfl,hG,T.c9.cl,T.n9flows,jH (jH (by show 0<998;decide)),?_⟩
 rw[jk,jk,Je]
 exact q
def Jf (c:Cs):Sp:=fun vs H Q _=>X5 fun(A:Ad) (r:V) (D:Bd) (n:Nat) (pl:Int)=>Y5 (vs=[.ref A.b,.int (n:Int),.int pl]) (Bw c H A r D) (n<=8) (D.pts.length<=1000) (∀l H',FB A H H'->H l=none->l∉A.ls->H' l=some (.lst (sS D.pts.length n))->Bw c H' A r {D with pts:=D.pts++aI n pl}->Q (.ref l) H')
theorem u5 (T:Txt K mg):FO P w base 2 T.d3 (Jf (cs T)):=by
 have gE40:=mx (P:=P) (w:=w) (base:=base) T
 refine T.d3.F.rd mN fun cdv A0 outer s H vs Q E hr h=>?_
 obtain⟨A,r,D,n,pl,rfl,B,n8,sm,q⟩:=h
 refine⟨_,(hW (pS (i:=3) mN.nd (iZ hI))
  (hW (jN PassesOwn.never rfl (jS rfl T.z_range (gY (cv 1) hI)) (pN (i:=4) mN.nd)
   (hZ (iS (lJ (ny eI eJ eK jh (PE.mono (cv 3)) (gY (PE.mono (iV (i7 (PE.mono (cv 0)) T.c8.cl T.e40.me gE40 hr.m T.e40.b .nil jq (gY (cv 2) hI)))) hI))))))
  (hZ (iH (cv 3))))),?_⟩
 have sl:=fZ
 refine⟨sr,fun l hl=>?_⟩
 have nl:=B.out hl
 have B0:=B.same (gZ hl (.lst []))
 have F0:FB A H (upd H l (.lst [])):=FB.same (gZ hl _)
 have e0:(upd H l (.lst [])) l=some (.lst []):=hG
 dsimp only[iO]
 generalize upd H l (.lst [])=H0 at B0 F0 e0⊢
 refine⟨(n:Int),rfl,by lia,by lia,ra (fun k σ H2=>∃o4:Option V,Y5 (σ=[some (.ref A.b),some (.int (n:Int)),some (.int pl),some (.ref l),o4]) (k<=8) (FB A H H2) (H2 l=some (.lst (sS D.pts.length k))) (Bw (cs T) H2 A r {D with pts:=D.pts++aI k pl}))
  ⟨none,rfl,by lia,F0,e0,by rw[List.replicate_zero,aF];exact B0⟩ ?_ ?_⟩
 ·rintro k σ H2 hk ⟨o4,rfl,k8,F2,e2,B2⟩
  rw[eZ]at hk
  have lp:(D.pts++aI k pl).length=D.pts.length+k:=JL D k pl
  dsimp only[iO]
  refine⟨⟨_,e2⟩,⟨_,_,B2.b,pj _ _ _ _ _⟩,A.b,A.bx,A.p0,A.p1,A.p2,A.p3,r,.int pl,_,rfl,B2.b,B2.e0,by rw[aE];show(D.pts++aI k pl).length<_;lia,?_⟩
  have B3:=B2.pt pl
  have F3:=FB.upd (A:=A) (ys:=({D with pts:=D.pts++aI k pl}:Bd).pts.map V.int++[.int pl]) (by simp[Ad.ls]) B2.e0
  have e3:=F3.1 _ _ e2 nl
  rw[aE]
  show ∃xs,_/\_
  refine⟨_,e3,by rw[oz];lia,_,rfl,by lia,?_,?_,?_⟩
  ·refine⟨fun a o e n=>?_,fun a o e f=>?_⟩
   ·rw[hX (ie e hl)]
    exact F3.1 a o (F2.1 a o e n) n
   ·rw[hX (ie e hl)]
    exact F3.2 a o (F2.2 a o e f) f
  ·rw[hG,Bx]
   show some (HO.lst (_++[V.int (((D.pts++aI k pl).length:Nat):Int)]))=_
   rw[lp]
   rfl
  ·have B4:=B3.other (ys:=sS D.pts.length k++[.int (((D.pts++aI k pl).length:Nat):Int)]) e3 nl
   rw[b9,<-bD]
   exact B4
 ·rintro σ H2 ⟨o4,rfl,k8,F2,e2,B2⟩
  rw[eZ]at e2 B2
  exact q l H2 F2 hl nl e2 B2
theorem l8 {H:Hp} {α:Type} {f:α->Dt} {xs:List V} {l:List α} {k:Nat} {v:V} (h:Ims H xs (l.map f)) (hv:xs[k]?=some v):∃a,l[k]?=some a/\Im H v (f a):=by
 obtain⟨d,hd,im⟩:=KK.Internal.Ims.atK h hv
 rw[aO]at hd
 cases e:l[k]? with
 |none=>rw[e]at hd;cases hd
 |some p=>
  rw[e]at hd
  cases hd
  exact⟨p,rfl,im⟩
theorem yN {b n k:Nat} {v:V} (h:(sS b n)[k]?=some v):v= .int ((b:Int)+(k:Int))/\k<n:=by
 have hk:k<n:=by
  have:=(aq.mp h).1
  rw[oz]at this
  exact this
 rw[sS,aO,bL hk]at h
 cases h
 exact⟨rfl,hk⟩
def Sz (D:Bd) (n:Nat):Prop:=Y4 (D.pts.length<=n) (D.mks.length<=100*n) (D.uss.length<=100*n) (D.fls.length<=100*n)
def Dd (c:Cs) (C:fO):Sp:=fun vs H Q _=>X10 fun(A:Ad) (r:V) (D:Bd) (x o i f:fO) (Pq:Pp) (pl:Int) (n:Nat)=>Y9 (vs=[.ref A.b,.ref x,.int pl]) (Bw c H A r D) (zy C H x o i f) (L3 H o i f Pq) ((∀a∈[o,i,f],a∉A.ls)) (Pq.ok) (Sz D n) (n<=900) (∀H',FB A H H'->Bw c H' A r (sH Pq pl D)->Q (.int D.pts.length) H')
theorem BB (T:Txt K mg):FO P w base 5 T.d2 (Dd (cs T) T.c9.a):=by
 have gD3:=u5 (P:=P) (w:=w) (base:=base) T
 have gD4:=u4 (P:=P) (w:=w) (base:=base) T
 have gD5:=xq (P:=P) (w:=w) (base:=base) T
 have gE41:=pT (P:=P) (w:=w) (base:=base) T
 have gE42:=qJ (P:=P) (w:=w) (base:=base) T
 have gE43:=pU (P:=P) (w:=w) (base:=base) T
 refine T.d2.F.rd j8 fun cdv A0 outer s H vs Q E hr h=>?_
 obtain⟨A,r,D,x,o,i,f,Pq,pl,n,rfl,B,Px,L,nA,ok,sz0,n9,q⟩:=h
 refine⟨_,(hW (pS (i:=3) j8.nd (pF T.d3 gD3 hr.m (gY (cv 0) (gY (iN iP rfl T.z_len jO (gY (iQ T.c9.cl T.n9outs (cv 1)) hI)) (gY (cv 2) hI)))))
  (hW (pS (i:=4) j8.nd (pF T.d3 gD3 hr.m (gY (cv 0) (gY (iN iP rfl T.z_len jO (gY (iQ T.c9.cl T.n9ins (cv 1)) hI)) (gY (cv 2) hI)))))
  (hW (jN PassesOwn.never rfl (Ap rfl T.z_zip (gY (cv 3) (gY (iQ T.c9.cl T.n9outs (cv 1)) hI))) (sY rfl (ke (pN (i:=5) j8.nd) (ke (pN (i:=6) j8.nd) qc)))
   (hZ (jN PassesOwn.never rfl (lE (cv 6)) (pN (i:=7) j8.nd)
    (hZ (iS (iV (i7 (PE.mono (cv 0)) T.c8.cl T.e41.me gE41 hr.m T.e41.b .nil jq (gY (iq iA (cv 7) hV) (gY (pF T.d4 gD4 hr.m (gY (cv 7) (gY (cv 3) (gY (cv 4) hI)))) (gY (cv 5) (gY (cv 2) hI)))))))))))
  (hW (jN PassesOwn.never rfl (Ap rfl T.z_zip (gY (cv 4) (gY (iQ T.c9.cl T.n9ins (cv 1)) hI))) (sY rfl (ke (pN (i:=5) j8.nd) (ke (pN (i:=8) j8.nd) qc)))
   (hZ (jN PassesOwn.never rfl (lE (cv 8)) (pN (i:=9) j8.nd)
    (hZ (iS (iV (i7 (PE.mono (cv 0)) T.c8.cl T.e42.me gE42 hr.m T.e42.b .nil jq (gY (pF T.d5 gD5 hr.m (gY (cv 9) (gY (cv 5) (gY (cv 2) (gY (cv 3) (gY (cv 4) hI)))))) hI))))))))
  (hW (jN PassesOwn.never rfl (j3 (iQ T.c9.cl T.n9flows (cv 1))) (pN (i:=10) j8.nd)
   (hZ (iS (iV (i7 (PE.mono (cv 0)) T.c8.cl T.e43.me gE43 hr.m T.e43.b .nil jq (gY (iq iG (cv 4) (iq iA (cv 10) hV)) (gY (iq iG (cv 3) (iq iA (cv 10) hV)) hI)))))))
  (hZ (iH (iq iG (cv 3) hV)))))))),?_⟩
 refine wm fun zn ze=>?_
 have sl:=fZ
 obtain⟨z1,z2,z3,z4⟩:=sz0
 have o1:=ok.o1
 have o8:=ok.o8
 have i8:=ok.i8
 obtain⟨dx,ex⟩:=id Px
 obtain⟨xo,eo,io⟩:=L.o
 have lo:=io.length
 rw[aE]at lo
 refine⟨_,⟨_,_,ex,xt _ _ _⟩,o,xo,rfl,.inl (SqL.of eo),A,r,D,Pq.outs.length,pl,by rw[lo];rfl,B,o8,by lia,fun po H1 F1 hpo npo epo B1=>?_⟩
 have L1:=L.fb F1 nA
 have P1:=Px.fk F1.2
 obtain⟨dx1,ex1⟩:=id P1
 obtain⟨xi,ei,ii⟩:=L1.i
 have li:=ii.length
 rw[aE]at li
 have lp1:=JL D Pq.outs.length pl
 subst ze
 dsimp only[iO]
 refine wm fun zn ze=>?_
 refine⟨_,⟨_,_,ex1,BA _ _ _⟩,i,xi,rfl,.inl (SqL.of ei),A,r,_,Pq.ins.length,pl,by rw[li];rfl,B1,i8,by show(D.pts++aI _ pl).length<=_;lia,fun pi H2 F2 hpi npi epi B2=>?_⟩
 have epi':H2 pi=some (.lst (sS (D.pts.length+Pq.outs.length) Pq.ins.length)):=by
  rw[epi]
  show some (HO.lst (sS (D.pts++aI _ pl).length _))=_
  rw[lp1]
 have B2':Bw (cs T) H2 A r {D with pts:=D.pts++aI (Pq.outs.length+Pq.ins.length) pl}:=by
  have:(D.pts++aI Pq.outs.length pl)++aI Pq.ins.length pl=D.pts++aI (Pq.outs.length+Pq.ins.length) pl:=by rw[bD,List.replicate_append_replicate]
  rw[<-this]
  exact B2
 have F02:=F1.trans F2
 have epo2:=F2.1 _ _ epo npo
 have Lq2:=L1.fb F2 nA
 have P2:=P1.fk F2.2
 clear B2 epi B1 L1 P1 ex1 ei ii li eo io lo ex L Px hpo hpi F1 F2
 generalize hb:D.pts.length=b at*
 subst ze
 dsimp only[iO]
 refine wm fun zn ze=>?_
 obtain⟨dx2,ex2⟩:=id P2
 obtain⟨xo,eo,io⟩:=Lq2.o
 have lo:=io.length
 rw[aE]at lo
 refine⟨_,⟨_,_,ex2,xt _ _ _⟩,po,o,rfl,⟨_,SqL.of epo2⟩,⟨_,SqL.of eo⟩,Bz (xs:=sS b Pq.outs.length) (ys:=xo) (fun k σ H3=>X3 fun(o5 o6 o7:Option V)=>Y4 (σ=[some (.ref A.b),some (.ref x),some (.int pl),some (.ref po),some (.ref pi),o5,o6,o7,none,none,none]) (k<=Pq.outs.length) (FB A H2 H3) (Bw (cs T) H3 A r {D with pts:=D.pts++aI (Pq.outs.length+Pq.ins.length) pl,mks:=D.mks++mkA b (b+Pq.outs.length) pl 0 (Pq.outs.take k)}))
  ⟨none,none,none,rfl,cC _,FB.same (iE.refl _),by rw[bT,mkA,aF];exact B2'⟩ (fun k σ H3 _ ⟨_,_,_,_,_,F,_⟩=>⟨SqL.of (F.1 _ _ epo2 npo),SqL.of (F.1 _ _ eo (nA _ (by simp)))⟩) (by rw[oz];exact lo) ?_ ?_⟩
 ·rintro k v1 v2 σ H3 tt hv1 hv2 ⟨o5,o6,o7,rfl,kle,F3,B3⟩ htt
  obtain⟨rfl,hk⟩:=yN hv1
  have sT:=gZ htt (.tup [.int ((b:Int)+(k:Int)),v2])
  refine⟨tt,_,rfl,SqT.of hG,rfl,_,_,rfl,_,_,rfl,rfl,?_⟩
  have F4:=F3.trans (FB.same sT)
  have B4:=B3.same sT
  generalize upd H3 tt (.tup [.int ((b:Int)+(k:Int)),v2])=H4 at F4 B4⊢
  obtain⟨l,hl,il⟩:=l8 (io.mono F4.2.tk) hv2
  obtain⟨ta,ys,rfl,eta,iy⟩:=m7 il
  have om:=ok.om l (aP hl)
  have ly:=iy.length
  rw[aE]at ly
  have la:=A7 b (b+Pq.outs.length) pl 0 (Pq.outs.take k) fun y hy=>(ok.om y (bI hy)).1
  rw[aK]at la
  dsimp only[iO]
  refine⟨ta,rfl,⟨_,SqT.of eta⟩,qZ (xs:=ys) (fun j σ H5=>∃o7:Option V,Y5 (σ=[some (.ref A.b),some (.ref x),some (.int pl),some (.ref po),some (.ref pi),some (.int ((b:Int)+(k:Int))),some (.ref ta),o7,none,none,none]) (j<=ys.length) (FB A H2 H5) (TK H4 H5) (Bw (cs T) H5 A r {D with pts:=D.pts++aI (Pq.outs.length+Pq.ins.length) pl,mks:=D.mks++mkA b (b+Pq.outs.length) pl 0 (Pq.outs.take k)++mkO b (b+Pq.outs.length) pl k (l.take j)}))
   ⟨_,rfl,cC _,F4,fun _ _ e=>e,by rw[bT,mkO,aV,aF];exact B4⟩ (fun j σ H5 _ ⟨_,_,_,_,tk,_⟩=>SqT.of (tk _ _ eta)) ?_ ?_⟩
  ·rintro j v σ H5 hv ⟨o7,rfl,jle,F5,tk5,B5⟩
   obtain⟨m,hm,im⟩:=l8 (iy.mono tk5) hv
   have jl:j<l.length:=(aq.mp hm).1
   have mok:=om.2 m (aP hm)
   obtain⟨t,rr,rfl,et,hs⟩:=CW im
   dsimp only[iO]
   refine⟨⟨_,_,B5.b,kN _ _ _ _ _⟩,_,et,ig (ic (j:=0) rfl) ⟨.ref t,po,pi,m,b,b+Pq.outs.length,Pq.outs.length,Pq.ins.length,rfl,im,mok,F5.1 _ _ epo2 npo,F5.1 _ _ epi' npi,fun pv H6 S6 I6=>?_⟩⟩
   have B6:=B5.same S6
   obtain⟨mv,em,am⟩:=B6.e1
   have lm:=am.length
   have lmk:(D.mks++mkA b (b+Pq.outs.length) pl 0 (Pq.outs.take k)++mkO b (b+Pq.outs.length) pl k (l.take j)).length<=100000:=by
    rw[aQ,aQ,mkO,aE,aK]
    have:=om.1
    lia
   have lm2:mv.length<=100000:=by rw[lm];exact lmk
   refine⟨A.b,A.bx,A.p0,A.p1,A.p2,A.p3,r,_,_,_,_,mv,rfl,B6.b,em,by lia,fun y dy hy hdy=>?_⟩
   obtain⟨pd,po'⟩:=C0 (b:=b) (i:=b+Pq.outs.length) mok
   obtain⟨B7,F7⟩:=B6.madeP (s:=m.sh) (a:=(b:Int)+(k:Int)) (p:=pl) hy hdy em I6 pd po'
   refine⟨_,rfl,by lia,(F5.then S6).trans F7,fun a xs e=>F7.2.tk _ _ (iE.tk S6 _ _ (tk5 _ _ e)),?_⟩
   rw[jm hm,mkO,bB,<-bD]
   exact B7
  ·rintro σ H5 ⟨o7,rfl,jle,F5,tk5,B5⟩
   rw[ly,bJ]at B5
   refine⟨_,_,_,rfl,by lia,F5,?_⟩
   rw[jm hl,yl,aK,cQ (by lia),cN,<-bD]
   exact B5
 rintro σ H3 ⟨o5,o6,o7,rfl,_,F3,B3⟩
 rw[oz,bJ]at B3
 have P3:=P2.fk F3.2
 have L3':=Lq2.fb F3 nA
 obtain⟨dx3,ex3⟩:=id P3
 obtain⟨xi,ei,ii⟩:=L3'.i
 have li:=ii.length
 rw[aE]at li
 have epi3:=F3.1 _ _ epi' npi
 have epo3:=F3.1 _ _ epo2 npo
 subst ze
 dsimp only[iO]
 refine wm fun zn ze=>?_
 refine⟨_,⟨_,_,ex3,BA _ _ _⟩,pi,i,rfl,⟨_,SqL.of epi3⟩,⟨_,SqL.of ei⟩,Bz (xs:=sS (b+Pq.outs.length) Pq.ins.length) (ys:=xi) (fun k σ H4=>X5 fun(o5 o6 o7 o8 o9:Option V)=>Y4 (σ=[some (.ref A.b),some (.ref x),some (.int pl),some (.ref po),some (.ref pi),o5,o6,o7,o8,o9,none]) (k<=Pq.ins.length) (FB A H3 H4) (Bw (cs T) H4 A r {D with pts:=D.pts++aI (Pq.outs.length+Pq.ins.length) pl,mks:=D.mks++mkA b (b+Pq.outs.length) pl 0 Pq.outs,uss:=D.uss++usA b (b+Pq.outs.length) pl 0 (Pq.ins.take k)}))
  ⟨_,_,_,none,none,rfl,cC _,FB.same (iE.refl _),by rw[bT,usA,aF];exact B3⟩ (fun k σ H4 _ ⟨_,_,_,_,_,_,_,F,_⟩=>⟨SqL.of (F.1 _ _ epi3 npi),SqL.of (F.1 _ _ ei (nA _ (by simp)))⟩) (by rw[oz];exact li) ?_ ?_⟩
 ·rintro k v1 v2 σ H4 tt hv1 hv2 ⟨o5,o6,o7,o8,o9,rfl,kle,F4,B4⟩ htt
  obtain⟨rfl,hk⟩:=yN hv1
  have sT:=gZ htt (.tup [.int (((b+Pq.outs.length:Nat):Int)+(k:Int)),v2])
  refine⟨tt,_,rfl,SqT.of hG,rfl,_,_,rfl,_,_,rfl,rfl,?_⟩
  have F5:=F4.trans (FB.same sT)
  have B5:=B4.same sT
  generalize upd H4 tt (.tup [.int (((b+Pq.outs.length:Nat):Int)+(k:Int)),v2])=H5 at F5 B5⊢
  obtain⟨l,hl,il⟩:=l8 (ii.mono F5.2.tk) hv2
  obtain⟨ta,ys,rfl,eta,iy⟩:=m7 il
  have om:=ok.iu l (aP hl)
  have ly:=iy.length
  rw[aE]at ly
  have la:=A8 b (b+Pq.outs.length) pl 0 (Pq.ins.take k) fun y hy=>(ok.iu y (bI hy)).1
  rw[aK]at la
  dsimp only[iO]
  refine⟨ta,rfl,⟨_,SqT.of eta⟩,qZ (xs:=ys) (fun j σ H6=>X3 fun(o6 o7 o9:Option V)=>Y5 (σ=[some (.ref A.b),some (.ref x),some (.int pl),some (.ref po),some (.ref pi),some (.int (((b+Pq.outs.length:Nat):Int)+(k:Int))),o6,o7,some (.ref ta),o9,none]) (j<=ys.length) (FB A H3 H6) (TK H5 H6) (Bw (cs T) H6 A r {D with pts:=D.pts++aI (Pq.outs.length+Pq.ins.length) pl,mks:=D.mks++mkA b (b+Pq.outs.length) pl 0 Pq.outs,uss:=D.uss++usA b (b+Pq.outs.length) pl 0 (Pq.ins.take k)++usO b (b+Pq.outs.length) pl k (l.take j)}))
   ⟨_,_,_,rfl,cC _,F5,fun _ _ e=>e,by rw[bT,usO,aV,aF];exact B5⟩ (fun j σ H6 _ ⟨_,_,_,_,_,_,tk,_⟩=>SqT.of (tk _ _ eta)) ?_ ?_⟩
  ·rintro j v σ H6 hv ⟨o6,o7,o9,rfl,jle,F6,tk6,B6⟩
   obtain⟨m,hm,im⟩:=l8 (iy.mono tk6) hv
   have jl:j<l.length:=(aq.mp hm).1
   have mok:=om.2 m (aP hm)
   dsimp only[iO]
   refine⟨⟨_,_,B6.b,mE _ _ _ _ _⟩,v,_,pl,po,pi,m,b,b+Pq.outs.length,Pq.outs.length,Pq.ins.length,rfl,im,mok,F6.1 _ _ epo3 npo,F6.1 _ _ epi3 npi,fun pv H7 S7 U7=>?_⟩
   have B7:=B6.same S7
   obtain⟨uv,eu,au⟩:=B7.e2
   have lu:=au.length
   have luk:(D.uss++usA b (b+Pq.outs.length) pl 0 (Pq.ins.take k)++usO b (b+Pq.outs.length) pl k (l.take j)).length<=100000:=by
    rw[aQ,aQ,usO,aE,aK]
    have:=om.1
    lia
   have lu2:uv.length<=100000:=by rw[lu];exact luk
   refine⟨A.b,A.bx,A.p0,A.p1,A.p2,A.p3,r,_,uv,rfl,B7.b,eu,by lia,?_⟩
   have B8:=B7.us eu U7
   have F8:=FB.upd (A:=A) (ys:=uv++[pv]) (by simp[Ad.ls]) eu
   refine⟨_,_,_,rfl,by lia,(F6.then S7).trans F8,fun a xs e=>F8.2.tk _ _ (iE.tk S7 _ _ (tk6 _ _ e)),?_⟩
   rw[jm hm,usO,bB,<-bD]
   exact B8
  ·rintro σ H6 ⟨o6,o7,o9,rfl,jle,F6,tk6,B6⟩
   rw[ly,bJ]at B6
   refine⟨_,_,_,_,_,rfl,by lia,F6,?_⟩
   rw[jm hl,ym,aK,cQ (by lia),cN,<-bD]
   exact B6
 rintro σ H4 ⟨o5,o6,o7,o8,o9,rfl,_,F4,B4⟩
 rw[oz,bJ]at B4
 have P4:=P3.fk F4.2
 have L4:=L3'.fb F4 nA
 obtain⟨dx4,ex4⟩:=id P4
 obtain⟨xf,ef,jf⟩:=L4.f
 have lf:=jf.length
 rw[aE]at lf
 have epi4:=F4.1 _ _ epi3 npi
 have epo4:=F4.1 _ _ epo3 npo
 subst ze
 dsimp only[iO]
 refine wm fun zn ze=>?_
 refine⟨_,⟨_,_,ex4,yM _ _ _⟩,f,rfl,⟨_,SqL.of ef⟩,lq (xs:=xf) (fun k σ H5=>∃o10:Option V,Y4 (σ=[some (.ref A.b),some (.ref x),some (.int pl),some (.ref po),some (.ref pi),o5,o6,o7,o8,o9,o10]) (k<=xf.length) (FB A H4 H5) (Bw (cs T) H5 A r {D with pts:=D.pts++aI (Pq.outs.length+Pq.ins.length) pl,mks:=D.mks++mkA b (b+Pq.outs.length) pl 0 Pq.outs,uss:=D.uss++usA b (b+Pq.outs.length) pl 0 Pq.ins,fls:=D.fls++(Pq.fls.take k).map (flF b (b+Pq.outs.length))}))
  ⟨none,rfl,cC _,FB.same (iE.refl _),by rw[bT,aV,aF];exact B4⟩ (fun k σ H5 _ ⟨_,_,_,F,_⟩=>SqL.of (F.1 _ _ ef (nA _ (by simp)))) ?_ ?_⟩
 ·rintro k v σ H5 hv ⟨o10,rfl,kle,F5,B5⟩
  have kl:=(aq.mp hv).1
  obtain⟨p,hp,ip⟩:=l8 (jf.mono F5.2.tk) hv
  have pok:=ok.ff.2 p (aP hp)
  obtain⟨t,ys,rfl,et,iy⟩:=m7 ip
  obtain⟨y1,y2,rfl,j1,j2⟩:=pA iy
  rw[mV j1,mV j2]at et
  obtain⟨fv,efv,ifv⟩:=B5.e3
  have lfv:=ifv.length
  have lfk:(D.fls++(Pq.fls.take k).map (flF b (b+Pq.outs.length))).length<=100000:=by
   rw[aQ,aE,aK]
   have:=ok.ff.1
   lia
  have lf2:fv.length<=100000:=by rw[lfv,aE];exact lfk
  dsimp only[iO]
  refine⟨⟨_,_,B5.b,tP _ _ _ _ _⟩,_,et,ig (ic (j:=0) rfl) ⟨_,F5.1 _ _ epi4 npi,ig (lW pok.1) ⟨_,et,ig (ic (j:=1) rfl) ⟨_,F5.1 _ _ epo4 npo,ig (lW pok.2) ⟨A.b,A.bx,A.p0,A.p1,A.p2,A.p3,r,_,_,fv,rfl,B5.b,efv,by lia,fun tn htn=>?_⟩⟩⟩⟩⟩
  have S6:=gZ htn (.tup [.int (((b+Pq.outs.length:Nat):Int)+(p.1:Int)),.int ((b:Int)+(p.2:Int))])
  have B6:=(B5.same S6).fl (p:=flF b (b+Pq.outs.length) p) (S6 _ _ efv) (iI htn (.cons (jE _) (.cons (jE _) .nil)))
  refine⟨_,rfl,by lia,(F5.then S6).trans (FB.upd (by simp[Ad.ls]) (S6 _ _ efv)),?_⟩
  rw[jm hp,bB,<-bD]
  exact B6
 rintro σ H5 ⟨o10,rfl,_,F5,B5⟩
 rw[lf,bJ]at B5
 subst ze
 dsimp only
 refine⟨_,F5.1 _ _ epo4 npo,ig (lW (k:=0) (by lia)) ?_⟩
 have e0:(b:Int)+((0:Nat):Int)=(b:Int):=by lia
 rw[e0]
 refine q _ (((F02.trans F3).trans F4).trans F5) ?_
 unfold sH
 rw[hb]
 exact B5
theorem BC {b i:Nat} {p:Int}:∀(k:Nat) (l:List (List Pm)),∀r∈uX b i p k l,r.a<(b:Int)+((k+l.length:Nat):Int)
 |_,[],r,hr=>by cases hr
 |k,l::t,r,hr=>by
  rw[uX]at hr
  rw[aB]
  rcases ak.mp hr with hr|hr
  ·obtain⟨m,hm,rfl⟩:=bp.mp hr
   dsimp only
   lia
  ·have:=BC (k+ 1) t r hr
   lia
theorem Ee {b i:Nat} {p:Int}:∀(k:Nat) (l:List (List Pu)),∀r∈usA b i p k l,(i:Int)<=SM.Internal.uat r
 |_,[],r,hr=>by cases hr
 |k,l::t,r,hr=>by
  rw[usA]at hr
  rcases ak.mp hr with hr|hr
  ·obtain⟨m,hm,rfl⟩:=bp.mp hr
   cases m<;>simp only[Pu.us,SM.Internal.uat]<;>lia
  ·exact Ee (k+ 1) t r hr
theorem De {P:Pp} (ok:P.ok) {ms:List Mk3} {us:List Us} (b:Brd P .any ms us):CT us ms (fsP P):=by
 have nu:∀u,stU us u->¬(SM.Internal.uat u<(P.outs.length:Int)\/SM.Internal.uat u=(nP P:Int)):=fun u hu h=>by
  rcases(b.u u).mp hu with h1|h1
  ·have a1:=Ee 0 P.ins u h1
   have a2:=(yH (no:=P.outs.length) 0 P.ins (by lia) (fun x hx m hm=>(ok.iu x hx).2 m hm) u h1).at.2
   unfold nP at h
   lia
  ·rw[SM.Internal.kn_any]at h1
   cases h1.2
 have fq:∀p q,(p,q)∈fsP P->q<(P.outs.length:Int)\/q=(nP P:Int):=fun p q h=>by
  unfold fsP at h
  rw[(HS P).2.2]at h
  rcases ak.mp h with h|h
  ·obtain⟨r,hr,e⟩:=bp.mp h
   have:=ok.ff.2 r hr
   unfold flF at e
   cases e
   left
   lia
  ·cases bh.mp h
   exact .inr rfl
 have key:∀{t p q},FT us ms (fsP P) t p q->(t=none->(p,q)∈fsP P)/\(t≠none->q<(P.outs.length:Int)\/q=(nP P:Int)):=fun{t p q} h=>by
  induction h with
  |fl h=>exact⟨fun _=>h,fun h=>absurd rfl h⟩
  |he h=>
   refine⟨(fun h=>nomatch h),fun _=>?_⟩
   rcases(b.m _ _).mp h with⟨r,hr,_,rfl⟩|h
   ·have:=BC 0 P.outs r hr
    left
    lia
   ·rw[SM.Internal.kn_any]at h
    cases h.1
  |mv _ _ _ i2=>exact⟨(fun h=>nomatch h),fun _=>fq _ _ (i2.1 rfl)⟩
  |us _ hu _ _ i=>exact absurd (i.2 fun h=>nomatch h) (nu _ hu)
 exact fun x u f hu=>absurd ((key f).2 fun h=>nomatch h) (nu _ hu)
def Br (P:Pp) (k:Kd):Prop:=X2 fun ms us=>Brd P k ms us/\CT us ms (fsP P)
theorem Hm {P:Pp} (ok:P.ok):Br P .any:=by
 obtain⟨ms,us,b⟩:=brd P .any
 exact⟨ms,us,b,De ok b⟩
theorem Jg {P:Pp} (ok:P.ok) {K L:Kd} (hK:K.ok) (hL:L.ok) (le:SM.Internal.Le K L) (h:Br P K):Br P L:=by
 obtain⟨ms,us,b,w⟩:=h
 obtain⟨ms',us',b'⟩:=brd P L
 exact⟨ms',us',b',FF ok hK hL le b b' w⟩
theorem Jh {P:Pp} {K:Kd} {ms:List Mk3} {us:List Us} (b:Brd P K ms us) (h:Br P K):CT us ms (fsP P):=by
 obtain⟨ms',us',b',w⟩:=h
 have e1:stM ms'=stM ms:=funext fun x=>funext fun p=>propext ((b'.m x p).trans (b.m x p).symm)
 have e2:stU us'=stU us:=funext fun y=>propext ((b'.u y).trans (b.u y).symm)
 unfold CT FT at w⊢
 rw[e1,e2]at w
 exact w
theorem FN (r bd:fO):(fL r bd).lookup ("bads":Str)=some (.ref bd):=by kernel_rfl
theorem FP {c:Cs} {H:Hp} {mv:List V}:∀{ms:List Mk3},All2 (qF c H) mv (ms.map gm3)->All2 (M3 c H) mv ms:=by
 induction mv with
 |nil=>
  intro ms h
  cases ms with
  |nil=>exact .nil
  |cons _ _=>exact nomatch h
 |cons v r ih=>
  intro ms h
  cases ms with
  |nil=>exact nomatch h
  |cons m t=>
   cases h with
   |cons h t=>exact .cons h (ih t)
def Df (C:fO):Sp:=fun vs H Q _=>X7 fun(x o i f:fO) (kv:V) (Pq:Pp) (k:Kd)=>Y8 (vs=[.ref x,kv]) (zy C H x o i f) (L3 H o i f Pq) (Pok Pq) (Im H kv k.d) (k.ok) (k.sz<=40) (∀H' (b:Bool),iE H H'->(b=true↔Br Pq k)->Q (.bl b) H')
theorem Dg (T:Txt K mg):FO P w base 85 T.d11 (Df T.c9.a):=by
 have gE39:=qv (P:=P) (w:=w) (base:=base) T
 have gE43:=pU (P:=P) (w:=w) (base:=base) T
 have gD2:=BB (P:=P) (w:=w) (base:=base) T
 have gD9:=(Bv (P:=P) (w:=w) (base:=base) T 40).2
 have gD7:=zx (P:=P) (w:=w) (base:=base) T
 refine T.d11.F.rd uK fun cdv A0 outer s H vs Q E hr h=>?_
 obtain⟨x,o,i,f,kv,Pq,k,rfl,Px,L,pk,ik,ok,sz,q⟩:=h
 refine⟨_,(hW (pS (i:=2) uK.nd (Cf T.mk8 gE39 hr.m rfl T.c8.m T.e39.b .nil jq))
  (hW (pS (i:=3) uK.nd (pF T.d2 gD2 hr.m (gY (cv 2) (gY (cv 0) (gY hV hI)))))
  (hW (iS (iV (i7 (PE.mono (cv 2)) T.c8.cl T.e43.me gE43 hr.m T.e43.b .nil jq (gY (cv 3) (gY (pF T.d9 gD9 hr.m (gY (cv 2) (gY (cv 1) hI))) hI)))))
  (hZ (iH (nc jc (iN iP rfl T.z_len jO (gY (jK (pF T.d7 gD7 hr.m (gY (cv 2) hI)) rfl) hI)) hV)))))),?_⟩
 have sl:=fZ
 refine fun b bx hb hbx _=>⟨b,bx,rfl,hG,fun p0 p1 p2 p3 H6 fr nd eb Lb kp=>⟨rfl,?_⟩⟩
 have Sm1:iE H (upd (upd H bx (.own b)) b (.ins (cs T).B bx [])):=iW hb hbx
 have S6:iE H H6:=fun a o e=>kp a o (Sm1 a o e) (ie e hb)
 have B6:Bw (cs T) H6 ⟨b,bx,p0,p1,p2,p3⟩ (.int 0) ⟨[],[],[],[],0⟩:=⟨eb,Lb.at (i:=0) rfl rfl,⟨[],Lb.at (i:=1) rfl rfl,.nil⟩,⟨[],Lb.at (i:=2) rfl rfl,.nil⟩,⟨[],Lb.at (i:=3) rfl rfl,.nil⟩,nd⟩
 have fA:∀a∈[p0,p1,p2,p3],H a=none:=fun a ha=>Sm1.free (fr a ha)
 clear Lb fr kp Sm1 hbx
 dsimp only[iO]
 generalize hA:(⟨b,bx,p0,p1,p2,p3⟩:Ad)=A at B6
 have fA':∀a∈A.ls,H a=none:=by rw[<-hA];exact fA
 have eA:b=A.b:=by rw[<-hA]
 have nA:∀a∈[o,i,f],a∉A.ls:=fun a ha hn=>by
  have z:=fA' a hn
  obtain⟨⟨_,h1,_⟩,⟨_,h2,_⟩,⟨_,h3,_⟩⟩:=L
  simp only[aj,bo,or_false]at ha
  rcases ha with rfl|rfl|rfl
  ·rw[h1]at z;cases z
  ·rw[h2]at z;cases z
  ·rw[h3]at z;cases z
 subst eA
 clear hA fA eb nd
 have sf:∀{H'},FB A H6 H'->iE H H':=fun F a u e=>F.1 a u (S6 a u e) fun h=>by rw[fA' a h]at e;cases e
 have np:nP Pq<=16:=by have:=pk.ok.o8;have:=pk.ok.i8;unfold nP;lia
 refine⟨A,_,_,x,o,i,f,Pq,0,0,rfl,B6,Px.fk (iE.fk S6),L.same S6,nA,pk.ok,⟨by simp,by simp,by simp,by simp⟩,by lia,fun H7 F7 B7=>?_⟩
 dsimp only[iO]
 replace B7:Bw (cs T) H7 A (.int 0) (D0 Pq):=B7
 have sm:Sm (D0 Pq) 100:=by
  obtain⟨d1,d2,_⟩:=HS Pq
  have:=pk.fm
  have:=pk.fu
  exact⟨by rw[Jb];lia,by lia,by rw[d2];lia⟩
 refine⟨⟨_,_,B7.b,tP _ _ _ _ _⟩,A,_,_,kv,k,100,rfl,B7,(ik.mono (iE.tk S6)).mono F7.2.tk,ok,sz,sm,by lia,fun H8 F8 B8=>?_⟩
 have F68:=F7.trans F8
 obtain⟨fv,efv,ifv⟩:=B8.e3
 have ef:(upp k (D0 Pq)).fls=(D0 Pq).fls:=(SM.Internal.lay_upp k (D0 Pq)).fls
 have lfv:=ifv.length
 rw[ef,aE,(HS Pq).2.2,aE]at lfv
 have pf:=pk.ff
 refine⟨A.b,A.bx,A.p0,A.p1,A.p2,A.p3,_,_,_,fv,rfl,B8.b,efv,by lia,fun tn htn=>?_⟩
 have S9:=gZ htn (.tup [.int ((0:Nat):Int),.int ((D0 Pq).pts.length:Int)])
 have B9:=(B8.same S9).fl (p:=(0,(nP Pq:Int))) (S9 _ _ efv) (x:= .ref tn) (iI htn (.cons (jE _) (.cons (by rw[Jb];exact jE _) .nil)))
 have F9:=(F68.then S9).trans (FB.upd (A:=A) (ys:=fv++[.ref tn]) (by simp[Ad.ls]) (S9 _ _ efv))
 generalize(upd (upd H8 tn (.tup [.int ((0:Nat):Int),.int ((D0 Pq).pts.length:Int)])) A.p3 (.lst (fv++[.ref tn])))=H9 at B9 F9⊢
 obtain⟨ms,us,bb⟩:=brd Pq k
 have dat:=FJ pk ok sz bb
 obtain⟨hB,_,⟨mv,em,am⟩,⟨uv,eu,au⟩,⟨fv2,ef2,af⟩,_⟩:=B9
 dsimp only at am au af
 rw[bb.em]at am
 rw[bb.eu]at au
 have af:Ims H9 fv2 ((fsP Pq).map flD):=by unfold fsP;rw[<-ef];exact af
 refine⟨A.b,A.bx,A.p0,A.p1,A.p2,A.p3,_,mv,uv,fv2,ms,us,fsP Pq,rfl,hB,em,FP am,eu,au,ef2,af,dat,fun l dl r bd H10 rv bv R S10 el er ir ebd ib hok lr hn rch=>?_⟩
 refine⟨l,_,dl,_,_,rfl,el,T.c10.cl,T.n10bads,FN r bd,bd,bv,rfl,.inl (SqL.of ebd),?_⟩
 refine q _ _ ((sf F9).trans S10) ?_
 have lb:=ib.length
 rw[aE]at lb
 rw[eS,decide_eq_true_iff]
 constructor
 ·intro h
  refine⟨ms,us,bb,FC rch (bU ?_)⟩
  lia
 ·intro h
  have:=FD rch (Jh bb h)
  rw[this]at lb
  rw[lb]
  rfl
theorem xw (c:Nat):(⟨#[c]⟩:Str).length=1:=rfl
def sgn (k:Nat):Nat:=("abcdefghijklmnop":Str).cps.toList.getD k 0
def w1 (A B:Str) (k:Nat):Str:=A++⟨#[sgn k]⟩++B
theorem Dh (a b:Str):(a++b).cps.toList=a.cps.toList++b.cps.toList:=Array.toList_append
theorem Hn:∀a,a<16->∀b,b<16->a≠b->sgn a≠sgn b:=iJ
theorem Ho {k c:Nat} (h:("abcdefghijklmnop":Str).cps[k]?=some c):sgn k=c:=by
 rw[sgn,br,eX,h]
 rfl
theorem Di (A B:Str):((aa 16).map (w1 A B)).Nodup:=by
 rw[List.Nodup,bP]
 refine List.Pairwise.imp_of_mem (fun{a b} ha hb hlt e=>?_) cb
 have h:=congrArg (fun z:Str=>z.cps.toList) e
 simp only[w1,Dh]at h
 have h2:=List.append_cancel_left (List.append_cancel_right h)
 injection h2 with h3 _
 exact Hn a (ae.mp ha) b (ae.mp hb) (cx hlt) h3
theorem Ef:∀ys:List Str,(∀y∈ys,y.length=1)->(Str.join "" ys).length<=ys.length
 |[],_=>cB 0
 |[y],h=>cD (h y (by simp))
 |y::z::r,h=>by
  have:=Ef (z::r) fun x hx=>h x (by simp[hx])
  have:=h y (by simp)
  show(y++""++Str.join "" (z::r)).length<=_
  rw[Str.length_append,Str.length_append,show("":Str).length=0 from rfl,aB]
  lia
def Wd (H:Hp) (l:fO):Prop:=∃ws:List Str,Y4 (H l=some (.lst (ws.map V.str))) (ws.length=16) (ws.Nodup) (∀x∈ws,x.length<=300)
def xx:Sp:=fun vs H Q _=>X2 fun(c k:Int)=>Y4 (vs=[.int c,.int k]) (0<=k) (k<=100) (∀n:Int,0<=n->n<2147483647->Q (.int n) H)
theorem lX (T:Txt K mg):FO P w base 1 T.d14 xx:=by
 refine T.d14.F.rd xa fun cdv A outer s H vs Q E hr h=>?_
 obtain⟨c,k,rfl,h0,h1,q⟩:=h
 refine⟨_,(hZ (iH (iK zQ (iK xI (iK zQ (pv 0) (iK zP (iK DF hV hV) hV)) (iK zP hV (iK xI (iK xI hV (pv 1)) (pv 1)))) hV))),?_⟩
 have hp:(0:Int)<10^(18:Int).toNat+ 9:=iJ
 have hs:(10^(18:Int).toNat+ 9:Int)<2^64:=iJ
 have c0:=fc c (Int.ne_of_gt hp)
 have c1:=fj c hp
 have z: -(2^64:Int)<0:=by decide
 refine⟨_,rfl,_,_,rfl,rfl,⟨by decide,by decide,by decide⟩,_,_,rfl,rfl,_,_,rfl,rfl,hp,_,rfl,_,_,rfl,rfl,.inl ⟨by decide,by decide⟩,_,rfl,_,_,rfl,rfl,.inl ⟨by lia,by lia⟩,_,_,rfl,rfl,_,_,rfl,rfl,.inl ⟨e7 z c0,Int.lt_trans c1 hs⟩,_,_,rfl,rfl,(by show(0:Int)<2147483647;decide),?_⟩
 exact q _ (fc _ (by decide)) (fj _ (by decide))
def u6:Sp:=fun vs H Q _=>∃c:Int,vs=[.int c]/\∀l H',iE H H'->H l=none->Wd H' l->Q (.ref l) H'
theorem u7 (T:Txt K mg):FO P w base 1 T.d12 u6:=by
 refine T.d12.F.rd kC fun cdv A outer s H vs Q E hr h=>?_
 obtain⟨c,rfl,q⟩:=h
 refine⟨_,(hW (pS (i:=1) kC.nd iC)
  (hW (pS (i:=0) kC.nd (iK ji (cv 0) (iK xZ hV hV)))
  (hW (pS (i:=2) kC.nd (ny PySem.F.plainAttrs_str PySem.F.slot_str_join PySem.F.type_str_join E7 iC (gY (qf rfl (zB (x:="_law_k") ["_law_signs","_law_cell"] [("_law_signs",1,s.heap.objs.size+ 2),("_law_cell",0,s.heap.objs.size+ 1)]) (jS rfl T.z_range (gY (iK kq hV (iK ji (cv 0) hV)) hI)) (fun _ _ _ _ _=>jL) (fun _ _ _ _ _=>(iq GR (cv 1) (iK ji (iK jB (cv 2) (iK kq (iK vG hV (cv 0)) hV)) hV)))) hI)))
  (hW (pS (i:=3) kC.nd (iK ji (iK jB (cv 0) hV) (iK kq (iN qD rfl T.z_len jO (gY (cv 2) hI)) hV)))
  (hZ (iH (qf rfl (zB (x:="_law_sign") ["_law_stem","_law_at"] [("_law_stem",2,s.heap.objs.size+ 3),("_law_at",3,s.heap.objs.size+ 4)]) (GK iC) (fun _ _ _ _ _=>jL) (fun _ _ _ _ _=>(iK AB (iK AB (kQ DP (cv 1) nq (kY (cv 2))) (cv 0)) (kQ DP (cv 1) (kY (cv 2)) nq)))))))))),?_⟩
 have sl:=fZ
 refine⟨⟨by decide,by decide,by decide⟩,(by show(0:Int)<10^(24:Int).toNat;decide+kernel),?_⟩
 dsimp only
 generalize c%10^(24:Int).toNat=c
 have s0:=fc c (show(8:Int)≠0 by decide)
 have s1:=fj c (show(0:Int)<8 by decide)
 refine⟨rfl,(by show(0:Int)<8;decide),4+c%8,rfl,by lia,by lia,fun D hD=>?_⟩
 refine my (4+c%8).toNat (by lia) (fun xs _=>∃ys:List Str,xs=ys.map V.str/\∀y∈ys,y.length=1) (fun xs H1 H2 h _=>h) hD rfl (fun k H2 _ hk=>hk) (fun H2 _=>cB _) ⟨[],rfl,fun y h=>by cases h⟩ ?_ ?_
 ·rintro k H3 v H4 xs Z S hk ⟨rfl,rfl⟩ ⟨ws,hws,hj⟩ hl z
  obtain⟨ch,e1,_⟩:=vE ("abcdefghijklmnopqrstuvwxyz":Str).cps.toList (c/(26*(0+(k:Int))+ 1)%26) (fc _ (by decide)) (by rw[show("abcdefghijklmnopqrstuvwxyz":Str).cps.toList.length=26 by decide+kernel];exact fj _ (by decide))
  refine⟨.inl ⟨by decide,by decide⟩,⟨by lia,by lia⟩,(by show(0:Int)<26;decide),sz iJ,ig e1 (z _ _ (iE.refl _) ⟨ws++[⟨#[ch]⟩],by rw[hws,bB];rfl,fun y hy=>?_⟩)⟩
  rcases ak.mp hy with hy|hy
  ·exact hj y hy
  ·rw[bh.mp hy];rfl
 ·rintro H3 xs S ⟨ys,rfl,hys⟩ hl e
  rw[aE]at hl
  have jl:=Ef ys hys
  have su:(ys.map (·.length)).sum+ys.length*("":Str).length<=fY:=by
   have:∀ys:List Str,(∀y∈ys,y.length=1)->(ys.map (·.length)).sum=ys.length:=fun ys h=>by
    induction ys with
    |nil=>rfl
    |cons a t ih=>rw[aD,bH,ih fun y hy=>h y (by simp[hy]),h a (by simp),aB,Nat.add_comm]
   rw[this ys hys,show("":Str).length=0 from rfl]
   lia
  refine⟨_,D,ys,rfl,rfl,SqL.of e,su,?_⟩
  dsimp only[iO]
  generalize Str.join "" ys=x at jl⊢
  refine⟨⟨by decide,by decide⟩,x,rfl,by lia,(by show(0:Int)<(x.length:Int)+ 1;lia),?_⟩
  dsimp only
  generalize c/8%((x.length:Int)+ 1)=at_
  have la:=Txt.slice_le x none (some at_)
  have lb:=Txt.slice_le x (some at_) none
  have z4:("abcdefghijklmnop":Str).cps.size=16:=iJ
  refine⟨_,rfl,fun D' hD'=>?_⟩
  refine my 16 (by lia) (fun xs _=>xs=((aa xs.length).map (w1 (Txt.slice x none (some at_)) (Txt.slice x (some at_) none))).map V.str) (fun xs H1 H2 h _=>h) hD' rfl (fun k H2 _ hk=>(by show k<("abcdefghijklmnop":Str).cps.size;rw[z4];exact hk)) (fun H2 _=>(by show 16=("abcdefghijklmnop":Str).cps.size;rw[z4])) rfl ?_ ?_
  ·rintro k H5 v H4 xs Z S' hk ⟨rfl,ch,hc,rfl⟩ hxs hl' z
   refine⟨_,rfl,_,rfl,by lia,by rw[xw];lia,_,rfl,_,rfl,by lia,by rw[Str.length_append,xw];lia,z _ _ (iE.refl _) ?_⟩
   rw[aQ,aY,bA,bB,bB,<-hxs,hl']
   show xs++_=xs++[V.str (w1 _ _ k)]
   rw[w1,Ho hc]
  ·rintro H5 xs S' hxs hl' e'
   rw[hl']at hxs
   refine q D' H5 (S.trans S') (kO S hD') ⟨_,by rw[e',hxs],by rw[aE,b6],Di _ _,fun y hy=>?_⟩
   obtain⟨k,_,rfl⟩:=bp.mp hy
   rw[w1,Str.length_append,Str.length_append,xw]
   lia
section
variable {i:Nat} {s w:Str} {t u:TS} {D:qb} {σ:St} {H:Hp}
theorem pW {u':TS} (hv:σ[i]?=some (some (.str s))) (h:s≠w) (q:u' D σ H):sX (tX (cT (tOp (cEq false) (cV i) (tC (.str w)))) t oA) u' D σ H:=by
 show onV σ[i]? _
 rw[hv]
 show if(false ^^ decide (s=w))=true then _ else _
 rw[jR h]
 exact q
theorem wa {u':TS} (hv:σ[i]?=some (some (.str s))) (h:s=w) (q:t {D with nx:=u' D} σ H):sX (tX (cT (tOp (cEq false) (cV i) (tC (.str w)))) t u) u' D σ H:=by
 show onV σ[i]? _
 rw[hv]
 show if(false ^^ decide (s=w))=true then _ else _
 rw[jJ h]
 exact q
end
theorem FQ {H1:Hp}:∀{s2:Str} {t:TS} {D:qb} {σ:St} {u':TS},σ[4]?=some (some (.str s2))->s2≠"row"->(s2≠"fn"\/∃k:Nat,1<=k/\σ[3]?=some (some (.int (k:Int))))->u' D σ H1->sX (tX (tOr (cT (tOp (cEq false) (cV 4) (tC (.str "row")))) (HN (cT (tOp (cEq false) (cV 4) (tC (.str "fn")))) (cT (tOp (cEq false) (cV 3) (tC (.int 0)))))) t oA) u' D σ H1:=by
 intro s2 t D σ u' hv hn hf qq
 show onV σ[4]? _
 rw[hv]
 show if(false ^^ decide (s2="row"))=true then _ else onV σ[4]? _
 rw[jR hn,hv]
 refine lD ?_
 show if(false ^^ decide (s2="fn"))=true then _ else _
 by_cases e:s2="fn"
 ·rcases hf with hf|⟨k,hk,h3⟩
  ·exact absurd e hf
  ·rw[jJ e]
   refine mj ?_
   show onV σ[3]? _
   rw[h3]
   show if(false ^^ decide ((k:Int)=0))=true then _ else _
   rw[jR (by lia)]
   exact qq
 ·rw[jR e]
  exact qq
theorem Hq {H1:Hp}:∀{s2:Str} {k:Int} {t:TS} {D:qb} {σ:St} {u':TS},σ[4]?=some (some (.str s2))->s2="fn"->σ[3]?=some (some (.int k))->k=0->t {D with nx:=u' D} σ H1->sX (tX (tOr (cT (tOp (cEq false) (cV 4) (tC (.str "row")))) (HN (cT (tOp (cEq false) (cV 4) (tC (.str "fn")))) (cT (tOp (cEq false) (cV 3) (tC (.int 0)))))) t oA) u' D σ H1:=by
 intro s2 k t D σ u' hv hs h3 hk qq
 show onV σ[4]? _
 rw[hv]
 show if(false ^^ decide (s2="row"))=true then _ else onV σ[4]? _
 rw[jR (show ¬s2="row" by rw[hs];decide+kernel),hv]
 refine lD ?_
 show if(false ^^ decide (s2="fn"))=true then _ else _
 rw[jJ hs]
 refine mj ?_
 show onV σ[3]? _
 rw[h3]
 show if(false ^^ decide (k=0))=true then _ else _
 rw[jJ hk]
 exact qq
theorem Ji {H1:Hp}:∀{s2:Str} {t:TS} {D:qb} {σ:St} {u':TS},σ[4]?=some (some (.str s2))->s2≠"take"->s2≠"case"->u' D σ H1->sX (tX (tOr (cT (tOp (cEq false) (cV 4) (tC (.str "take")))) (cT (tOp (cEq false) (cV 4) (tC (.str "case"))))) t oA) u' D σ H1:=by
 intro s2 t D σ u' hv hn hf qq
 show onV σ[4]? _
 rw[hv]
 show if(false ^^ decide (s2="take"))=true then _ else onV σ[4]? _
 rw[jR hn,hv]
 refine lD ?_
 show if(false ^^ decide (s2="case"))=true then _ else _
 rw[jR hf]
 exact qq
theorem Hr {H1:Hp}:∀{s2:Str} {t:TS} {D:qb} {σ:St} {u':TS},σ[4]?=some (some (.str s2))->(s2="take"\/s2="case")->t {D with nx:=u' D} σ H1->sX (tX (tOr (cT (tOp (cEq false) (cV 4) (tC (.str "take")))) (cT (tOp (cEq false) (cV 4) (tC (.str "case"))))) t oA) u' D σ H1:=by
 intro s2 t D σ u' hv hf qq
 show onV σ[4]? _
 rw[hv]
 show if(false ^^ decide (s2="take"))=true then _ else onV σ[4]? _
 by_cases e:s2="take"
 ·rw[jJ e]
  exact qq
 ·rw[jR e,hv]
  refine lD ?_
  show if(false ^^ decide (s2="case"))=true then _ else _
  rw[jJ (hf.resolve_left e)]
  exact qq
theorem Ht {H1:Hp} {s2:Str} {t:TS} {D:qb} {σ:St} {u':TS} (hv:σ[4]?=some (some (.str s2))) (hs:s2="row") (qq:t {D with nx:=u' D} σ H1):sX (tX (tOr (cT (tOp (cEq false) (cV 4) (tC (.str "row")))) (HN (cT (tOp (cEq false) (cV 4) (tC (.str "fn")))) (cT (tOp (cEq false) (cV 3) (tC (.int 0)))))) t oA) u' D σ H1:=by
 show onV σ[4]? _
 rw[hv]
 show if(false ^^ decide (s2="row"))=true then _ else onV σ[4]? _
 rw[jJ hs]
 exact qq
theorem oj {H H':Hp} {l:fO} (h:Wd H l) (S:iE H H'):Wd H' l:=by
 obtain⟨ws,e,n,n1,n2⟩:=h
 exact⟨ws,S l _ e,n,n1,n2⟩
theorem Hu {H:Hp} {l:fO} (h:Wd H l):∃ws:List Str,H l=some (.lst (ws.map V.str))/\∀i:Int,∃z,atI (ws.map V.str) (i%16)=some (.str z)/\z.length<=300:=by
 obtain⟨ws,e,n,_,hz⟩:=h
 refine⟨ws,e,fun i=>?_⟩
 have h0:=fc i (show(16:Int)≠0 by decide)
 have h1:=fj i (show(0:Int)<16 by decide)
 obtain⟨v,hv,mv⟩:=vE (ws.map V.str) (i%16) h0 (by rw[aE,n];lia)
 obtain⟨z,mz,rfl⟩:=bp.mp mv
 exact⟨z,hv,hz z mz⟩
theorem kP {x:Int} {n:Nat} (h:1<=n):∃y:Nat,x%(n:Int)=(y:Int)/\y<n:=by
 have h0:=fc x (show(n:Int)≠0 by lia)
 have h1:=fj x (show(0:Int)<(n:Int) by lia)
 exact⟨(x%(n:Int)).toNat,(ft h0).symm,by lia⟩
theorem yO {κ:Type} [DecidableEq κ] {kvs:List (κ×V)} {k:κ} {v:V} {p:κ×V} (h:p∈lF kvs k v):p∈kvs\/p=(k,v):=by
 unfold lF at h
 split at h
 ·obtain⟨q,hq,e⟩:=bp.mp h
  by_cases hk:q.1=k
  ·rw[ja hk,hk]at e
   exact .inr e.symm
  ·rw[iT hk]at e
   exact .inl (e▸hq)
 ·rcases ak.mp h with h|h
  ·exact .inl h
  ·exact .inr (bh.mp h)
theorem wb {kvs:List (Key×V)} {k:Key} {v:V} (h:(kvs.map Prod.fst).Nodup):((lF kvs k v).map Prod.fst).Nodup:=by
 unfold lF
 split
 ·rw[bZ]
  have:(kvs.map (Prod.fst∘fun p=>if p.1=k then(p.1,v)else p))=kvs.map Prod.fst:=List.map_congr_left fun p _=>by
   show(if p.1=k then(p.1,v)else p).1=p.1
   split<;>rfl
  rw[this]
  exact h
 ·rename_i n
  rw[bB]
  refine bW.mpr ⟨h,by simp,fun a ha b hb e=>n ?_⟩
  obtain⟨p,hp,rfl⟩:=bp.mp ha
  have:b=k:=by simpa using hb
  subst this
  subst e
  first|exact bp.mpr ⟨p,hp,rfl⟩|exact⟨p,hp,rfl⟩|simpa using⟨p.2,hp⟩
theorem BD {n:Nat} {H:Hp}:∀{bs:List fO} {ps:List (Key×V)},(∀p∈ps,∃(z:Str) (y:Nat),p=(.inr z,.int (y:Int))/\y<n/\z.length<=300)->bs.length=ps.length->(∀(j:Nat) (b:fO) (p:Key×V),bs[j]?=some b->ps[j]?=some p->H b=some (L2.Internal.itT p))->
  ∃l:List (Str×Nat),(l.map Prod.fst).map (Sum.inr:Str->Key)=ps.map Prod.fst/\(∀q∈l,q.2<n/\q.1.length<=300)/\Ims H (bs.map V.ref) (l.map fun p=> .tup [sD p.1,nI p.2])
 |[],[],_,_,_=>⟨[],rfl,fun q hq=>(by cases hq),.nil⟩
 |[],_::_,_,h,_=>by cases h
 |_::_,[],_,h,_=>by cases h
 |b::bs,p::ps,hp,hl,hb=>by
  obtain⟨l,h1,h2,h3⟩:=BD (n:=n) (H:=H) (bs:=bs) (ps:=ps) (fun q hq=>hp q (by simp[hq])) (by simpa using hl) (fun j b' p' e1 e2=>hb (j+ 1) b' p' (by simpa using e1) (by simpa using e2))
  obtain⟨z,y,rfl,hy⟩:=hp p (by simp)
  refine⟨(z,y)::l,by rw[aD,aD,h1];rfl,fun q hq=>?_,?_⟩
  ·rcases aj.mp hq with rfl|hq
   ·exact hy
   ·exact h2 q hq
  ·exact .cons (.tup (hb 0 b _ rfl rfl) (.cons (j0 _) (.cons (jE _) .nil))) h3
theorem xy {n:Nat} {g:TG} {tb:TS} {D:qb} {σ:St} {H:Hp} {z:Int} (hz:z=(n:Int)) (Pv:Nat->St->Hp->Prop) (h0:Pv 0 σ H)
  (hs:∀i σ H,i<n->Pv i σ H->g (.int (0+(i:Int))) σ H fun σ2 H2=>tb {D with nx:=Pv (i+ 1),ct:=Pv (i+ 1),bk:=D.nx} σ2 H2) (hd:∀σ H,Pv n σ H->D.nx σ H):
  ∃W:Nat->Nat->St->Hp->Prop,(∃m,W 0 m σ H)/\∀i m σ H,W i m σ H->
   ((Itr 0 z.toNat).stop i H/\D.nx σ H)\/((Itr 0 z.toNat).go i H/\∃N:St->Hp->Prop,(∀σ' H',N σ' H'->∃m',m'<m/\W (i+ 1) m' σ' H')/\∀x H',(Itr 0 z.toNat).yld i H x H'->g x σ H' fun σ2 H2=>tb {D with nx:=N,ct:=N,bk:=D.nx} σ2 H2):=by
 subst hz
 rw[eZ]
 exact ra Pv h0 hs hd
def Jj:Sp:=fun vs H Q _=>X4 fun(wl:fO) (c:Int) (m n:Nat)=>Y5 (vs=[.ref wl,.int c,.int (m:Int),.int (n:Int)]) (Wd H wl) (m<=4) (1<=n) (∀v l H',iE H H'->l.length<=4->(l.map Prod.fst).Nodup->(∀p∈l,p.2<n/\p.1.length<=300)->Im H' v (prN l)->Q v H')
theorem m8 (T:Txt K mg):FO P w base 2 T.d20 Jj:=by
 have gD14:=lX (P:=P) (w:=w) (base:=base) T
 refine T.d20.F.rd lh fun cdv A0 outer s H vs Q E hr h=>?_
 obtain⟨wl,c,m,n,rfl,hw,m4,n1,q⟩:=h
 have hu:=vz hr
 refine⟨_,(hW (pS (i:=4) lh.nd pH)
  (hW (jN PassesOwn.never rfl (jS rfl T.z_range (gY (cv 2) hI)) (pN (i:=5) lh.nd)
   (hZ (wF hu (cv 4) (iq iG (cv 0) (iK ji (iK kq (cv 1) (iK vG hV (cv 5))) hV)) (iK ji (pF T.d14 gD14 hr.m (gY (cv 1) (gY (iK kq hV (cv 5)) hI))) (cv 3)) rfl)))
  (hZ (iH (jd jg rfl T.z_tuple jZ (gY (iN (qG rfl) rfl T.z_sorted pK (gY (xQ eC eG eL yc (cv 4)) hI)) hI)))))),?_⟩
 have sl:=fZ
 refine fun d hd=>?_
 have S0:=gZ hd (.dK [])
 have e0:(upd H d (.dK [])) d=some (.dK []):=hG
 dsimp only[iO]
 generalize upd H d (.dK [])=H0 at S0 e0⊢
 refine⟨(m:Int),rfl,by lia,by lia,xy (n:=m) rfl (fun k σ H2=>X2 fun(kvs:List (Key×V)) (o5:Option V)=>Y6 (σ=[some (.ref wl),some (.int c),some (.int (m:Int)),some (.int (n:Int)),some (.ref d),o5]) (iE H H2) (H2 d=some (.dK kvs)) (kvs.length<=k) ((kvs.map Prod.fst).Nodup) (∀p∈kvs,∃(z:Str) (y:Nat),p=(.inr z,.int (y:Int))/\y<n/\z.length<=300))
  ⟨[],none,rfl,S0,e0,cB _,aW,fun p hp=>(by cases hp)⟩ ?_ ?_⟩
 ·rintro k σ H2 hk ⟨kvs,o5,rfl,S2,e2,lk,hnd,hp⟩
  obtain⟨ws,ew,wat⟩:=Hu (oj hw S2)
  dsimp only[iO]
  refine⟨c,_,rfl,by lia,by lia,fun n0 h0 h1=>⟨by show(0:Int)<(n:Int);lia,?_⟩⟩
  obtain⟨y,ey,hy⟩:=kP (x:=n0) n1
  obtain⟨z,hz,hzl⟩:=wat (c+ 5*(0+(k:Int)))
  refine⟨.inl ⟨by decide,by decide⟩,(by show(0:Int)<16;decide),_,ew,ig hz ⟨d,_,rfl,Cg.k (k:= .inr z) e2 (by lia),lF kvs (.inr z) (.int (n0%(n:Int))),_,rfl,fun a o e=>?_,hG,?_,wb hnd,fun p hp'=>?_⟩⟩
  ·rw[hX (ie e hd)]
   exact S2 a o e
  ·have:=jT kvs (.inr z:Key) (V.int (n0%(n:Int)))
   lia
  ·rcases yO hp' with h|h
   ·exact hp p h
   ·exact⟨z,y,by rw[h,ey],hy,hzl⟩
 ·rintro σ H2 ⟨kvs,o5,rfl,S2,e2,lk,hnd,hp⟩
  refine⟨.inr (.inr (.inl ⟨rfl,.inl ⟨_,e2⟩⟩)),d,kvs,rfl,rfl,e2,fun r hr=>?_⟩
  have S3:=gZ hr (.ext fun h=>h.IsItemsView r d)
  refine⟨r,d,kvs,rfl,hG,S3 _ _ e2,by lia,fun p h=>?_,hnd,fun H' l bs ps S4 hl el pp lb hb=>?_⟩
  ·obtain⟨z,y,rfl,_⟩:=hp p h
   exact⟨⟨z,rfl⟩,.inl ⟨_,rfl⟩⟩
  ·obtain⟨l2,a1,a2,a3⟩:=BD (n:=n) (H:=H') (fun p h=>hp p (pp.mem_iff.mp h)) lb hb
   refine⟨l,_,rfl,.inl ⟨SqL.of el,fun tp htp=>?_⟩⟩
   have le:=congrArg aJ a1
   rw[aE,aE,aE,pp.length_eq]at le
   have nd2:(l2.map Prod.fst).Nodup:=by
    have:=(pp.map Prod.fst).nodup_iff.mpr hnd
    rw[<-a1]at this
    exact List.Pairwise.of_map _ (fun _ _ h e=>h (congrArg _ e)) this
   exact q _ l2 _ ((S2.trans (S3.trans S4)).trans (gZ htp _)) (by lia) nd2 a2 (iI htp a3)
def Hv:Sp:=fun vs H Q _=>X4 fun(wl:fO) (c:Int) (no ni:Nat)=>Y4 (vs=[.ref wl,.int c,.int (no:Int),.int (ni:Int)]) (Wd H wl) (1<=no) (∀v m H',iE H H'->(Pm.ok no ni m/\m.dis)->Im H' v m.d->Q v H')
theorem sU (T:Txt K mg):FO P w base 3 T.d21 Hv:=by
 have gD14:=lX (P:=P) (w:=w) (base:=base) T
 have gD20:=m8 (P:=P) (w:=w) (base:=base) T
 refine T.d21.F.rd mw fun cdv A0 outer s H vs Q E hr h=>?_
 obtain⟨wl,c,no,ni,rfl,hw,n1,q⟩:=h
 refine⟨_,(hW (pS (i:=4) mw.nd (iq iG (iZ (ES (xs:=["num","fn","rec","tag","row","any","fn","row"]) iJ)) (iK ji (cv 1) hV)))
  (hW (pS (i:=5) mw.nd (iK ji (pF T.d14 gD14 hr.m (gY (cv 1) (gY hV hI))) (cv 2)))
  (hW (iY (iw jc (cv 4) iC)
   (hZ (iH (iF (gY (cv 4) (gY (pF T.d20 gD20 hr.m (gY (cv 0) (gY (iK jB (cv 1) hV) (gY (iK ji (pF T.d14 gD14 hr.m (gY (cv 1) (gY hV hI))) hV) (gY (cv 2) hI))))) hI)))))
   iM)
  (hW (iY (iw jc (cv 4) iC)
   (hZ (iH (iF (gY (cv 4) (gY (iq iG (cv 0) (iK ji (iK jB (cv 1) hV) hV)) (gY (cv 5) hI))))))
   iM)
  (hW (iY (PW.pt (sC (iw jc (cv 4) iC) (oF (PW.pt (xF (iw jc (cv 4) iC) (wt (iw jc (cv 3) hV)))))))
   (hZ (iH (iF (gY iC (gY (cv 5) hI)))))
   iM)
  (hW (iY (iw jc (cv 4) iC)
   (hZ (iH (iF (gY (cv 4) (gY (iK ji (pF T.d14 gD14 hr.m (gY (cv 1) (gY hV hI))) (cv 3)) (gY (cv 5) hI))))))
   iM)
  (hZ (iH (iF (gY (cv 4) hI)))))))))),?_⟩
 have sl:=fZ
 refine⟨zln8,fun L hL=>⟨(by show(0:Int)<8;decide),_,hG,?_⟩⟩
 have S1:=gZ hL (.lst ((["num","fn","rec","tag","row","any","fn","row"]:List Str).map V.str))
 have h0:=fc c (show(8:Int)≠0 by decide)
 have h1:=fj c (show(0:Int)<8 by decide)
 obtain⟨v,hv,mv⟩:=vE ((["num","fn","rec","tag","row","any","fn","row"]:List Str).map V.str) (c%8) h0 (by show _<(8:Int);exact h1)
 obtain⟨sh,hsh,rfl⟩:=bp.mp mv
 refine ig hv ?_
 have hw1:=oj hw S1
 dsimp only[iO]
 generalize upd H L (.lst ((["num","fn","rec","tag","row","any","fn","row"]:List Str).map V.str))=H1 at S1 hw1⊢
 refine⟨c,2,rfl,by decide,by decide,fun n0 _ _=>⟨by show(0:Int)<(no:Int);lia,?_⟩⟩
 obtain⟨y,ey,hy⟩:=kP (x:=n0) n1
 dsimp only[iO]
 rw[ey]
 have cs6:sh="num"\/sh="fn"\/sh="rec"\/sh="tag"\/sh="row"\/sh="any":=by
  simp only[aj,bo,or_false]at hsh
  rcases hsh with h|h|h|h|h|h|h|h
  ·exact .inl h
  ·exact .inr (.inl h)
  ·exact .inr (.inr (.inl h))
  ·exact .inr (.inr (.inr (.inl h)))
  ·exact .inr (.inr (.inr (.inr (.inl h))))
  ·exact .inr (.inr (.inr (.inr (.inr h))))
  ·exact .inr (.inl h)
  ·exact .inr (.inr (.inr (.inr (.inl h))))
 rcases cs6 with rfl|rfl|rfl|rfl|rfl|rfl
 ·refine pW rfl iJ (pW rfl iJ (FQ rfl iJ (.inl iJ) (pW rfl iJ ?_)))
  exact⟨vd,fun t ht=>q _ .num _ (S1.trans (gZ ht _)) ⟨trivial,trivial⟩ (iI ht (.cons (j0 _) .nil))⟩
 ·refine pW rfl iJ (pW rfl iJ ?_)
  rcases Nat.eq_zero_or_pos ni with z|z
  ·subst z
   refine Hq rfl rfl rfl rfl ?_
   exact⟨jM,fun t ht=>q _ (.row y) _ (S1.trans (gZ ht _)) ⟨hy,trivial⟩ (iI ht (.cons (j0 _) (.cons (jE _) .nil)))⟩
  ·refine FQ rfl iJ (.inr ⟨ni,z,rfl⟩) (wa rfl rfl ?_)
   refine⟨c,3,rfl,by decide,by decide,fun n1' _ _=>⟨by show(0:Int)<(ni:Int);lia,?_⟩⟩
   obtain⟨x,ex,hx⟩:=kP (x:=n1') (show 1<=ni from z)
   have ix:∀H':Hp,Im H' (.int (n1'%(ni:Int))) (nI x):=fun H'=>by rw[ex];exact jE _
   exact⟨sW,fun t ht=>q _ (.fn x y) _ (S1.trans (gZ ht _)) ⟨⟨hx,hy⟩,trivial⟩ (iI ht (.cons (j0 _) (.cons (ix _) (.cons (jE _) .nil))))⟩
 ·refine wa rfl rfl ?_
  refine⟨⟨by decide,by decide⟩,c,3,rfl,by decide,by decide,fun n1' _ _=>⟨(by show(0:Int)<4;decide),?_⟩⟩
  obtain⟨x,ex,hx⟩:=kP (x:=n1') (n:=4) (by decide)
  refine⟨wl,c/8,x,no,?_,hw1,by lia,n1,fun v l H2 S2 l4 ln hl il=>⟨jM,fun t ht=>q _ (.rcd l) _ ((S1.trans S2).trans (gZ ht _)) ⟨⟨l4,fun p h=>(hl p h).1⟩,ln,fun p h=>(hl p h).2⟩ (iI ht (.cons (j0 _) (.cons il .nil)))⟩⟩
  show[V.ref wl,_,V.int (n1'%((4:Nat):Int)),_]=_
  rw[ex]
  try rfl
 ·refine pW rfl iJ (wa rfl rfl ?_)
  obtain⟨ws,ew,wat⟩:=Hu hw1
  obtain⟨z,hz,hzl⟩:=wat (c/8)
  exact⟨⟨by decide,by decide⟩,(by show(0:Int)<16;decide),_,ew,ig hz ⟨sW,fun t ht=>q _ (.tag z y) _ (S1.trans (gZ ht _)) ⟨hy,hzl⟩ (iI ht (.cons (j0 _) (.cons (j0 _) (.cons (jE _) .nil))))⟩⟩
 ·refine pW rfl iJ (pW rfl iJ ?_)
  refine Ht rfl rfl ?_
  exact⟨jM,fun t ht=>q _ (.row y) _ (S1.trans (gZ ht _)) ⟨hy,trivial⟩ (iI ht (.cons (j0 _) (.cons (jE _) .nil)))⟩
 ·refine pW rfl iJ (pW rfl iJ (FQ rfl iJ (.inl iJ) (pW rfl iJ ?_)))
  exact⟨vd,fun t ht=>q _ .any _ (S1.trans (gZ ht _)) ⟨trivial,trivial⟩ (iI ht (.cons (j0 _) .nil))⟩
def Hy:Sp:=fun vs H Q _=>X4 fun(wl:fO) (c:Int) (no ni:Nat)=>Y5 (vs=[.ref wl,.int c,.int (no:Int),.int (ni:Int)]) (Wd H wl) (1<=no) (1<=ni) (∀v m H',iE H H'->(Pu.ok no ni m/\m.dis)->Im H' v m.d->Q v H')
theorem u9 (T:Txt K mg):FO P w base 3 T.d22 Hy:=by
 have gD14:=lX (P:=P) (w:=w) (base:=base) T
 have gD20:=m8 (P:=P) (w:=w) (base:=base) T
 refine T.d22.F.rd mO fun cdv A0 outer s H vs Q E hr h=>?_
 obtain⟨wl,c,no,ni,rfl,hw,n1,n2,q⟩:=h
 refine⟨_,(hW (pS (i:=4) mO.nd (iq iG (iZ (gY iC (gY iC (gY iC (gY iC (gY iC (gY iC hI))))))) (iK ji (cv 1) hV)))
  (hW (pS (i:=5) mO.nd (iK ji (pF T.d14 gD14 hr.m (gY (cv 1) (gY hV hI))) (cv 3)))
  (hW (iY (PW.pt (sC (iw jc (cv 4) iC) (oF (iw jc (cv 4) iC))))
   (hZ (iH (iF (gY (cv 4) (gY (pF T.d20 gD20 hr.m (gY (cv 0) (gY (iK jB (cv 1) hV) (gY (iK ji (pF T.d14 gD14 hr.m (gY (cv 1) (gY hV hI))) hV) (gY (cv 3) hI))))) hI)))))
   iM)
  (hW (iY (iw jc (cv 4) iC)
   (hZ (iH (iF (gY (cv 4) (gY (iK ji (pF T.d14 gD14 hr.m (gY (cv 1) (gY hV hI))) (cv 2)) (gY (cv 5) hI))))))
   iM)
  (hW (iY (iw jc (cv 4) iC)
   (hZ (iH (iF (gY (cv 4) (gY (cv 5) hI)))))
   iM)
  (hZ (iH (iF (gY (cv 4) hI))))))))),?_⟩
 have sl:=fZ
 refine⟨zln6,fun L hL=>?_⟩
 have S1:=gZ hL (.lst [V.str "num",V.str "call",V.str "take",V.str "case",V.str "row",V.str "call"])
 have h0:=fc c (show(6:Int)≠0 by decide)
 have h1:=fj c (show(0:Int)<6 by decide)
 obtain⟨v,hv,mv⟩:=vE [V.str "num",V.str "call",V.str "take",V.str "case",V.str "row",V.str "call"] (c%6) h0 (by show _<(6:Int);exact h1)
 obtain⟨sh,hsh,rfl⟩:=bp.mp (show v∈(["num","call","take","case","row","call"]:List Str).map V.str from mv)
 refine⟨(by show(0:Int)<6;decide),_,hG,ig hv ?_⟩
 have hw1:=oj hw S1
 dsimp only[iO]
 generalize upd H L (.lst [V.str "num",V.str "call",V.str "take",V.str "case",V.str "row",V.str "call"])=H1 at S1 hw1⊢
 refine⟨c,2,rfl,by decide,by decide,fun n0 _ _=>⟨by show(0:Int)<(ni:Int);lia,?_⟩⟩
 obtain⟨y,ey,hy⟩:=kP (x:=n0) n2
 dsimp only[iO]
 rw[ey]
 have cs5:sh="num"\/sh="call"\/sh="take"\/sh="case"\/sh="row":=by
  simp only[aj,bo,or_false]at hsh
  rcases hsh with h|h|h|h|h|h
  ·exact .inl h
  ·exact .inr (.inl h)
  ·exact .inr (.inr (.inl h))
  ·exact .inr (.inr (.inr (.inl h)))
  ·exact .inr (.inr (.inr (.inr h)))
  ·exact .inr (.inl h)
 rcases cs5 with rfl|rfl|rfl|rfl|rfl
 ·refine Ji rfl iJ iJ (pW rfl iJ (pW rfl iJ ?_))
  exact⟨vd,fun t ht=>q _ .num _ (S1.trans (gZ ht _)) ⟨trivial,trivial⟩ (iI ht (.cons (j0 _) .nil))⟩
 ·refine Ji rfl iJ iJ (wa rfl rfl ?_)
  refine⟨c,3,rfl,by decide,by decide,fun n1' _ _=>⟨by show(0:Int)<(no:Int);lia,?_⟩⟩
  obtain⟨x,ex,hx⟩:=kP (x:=n1') n1
  have ix:∀H':Hp,Im H' (.int (n1'%(no:Int))) (nI x):=fun H'=>by rw[ex];exact jE _
  exact⟨sW,fun t ht=>q _ (.call x y) _ (S1.trans (gZ ht _)) ⟨⟨hx,hy⟩,trivial⟩ (iI ht (.cons (j0 _) (.cons (ix _) (.cons (jE _) .nil))))⟩
 ·refine Hr rfl (.inl rfl) ?_
  refine⟨⟨by decide,by decide⟩,c,3,rfl,by decide,by decide,fun n1' _ _=>⟨(by show(0:Int)<4;decide),?_⟩⟩
  obtain⟨x,ex,hx⟩:=kP (x:=n1') (n:=4) (by decide)
  refine⟨wl,c/6,x,ni,?_,hw1,by lia,n2,fun v l H2 S2 l4 ln hl il=>⟨jM,fun t ht=>q _ (.take l) _ ((S1.trans S2).trans (gZ ht _)) ⟨⟨l4,fun p h=>(hl p h).1⟩,ln,fun p h=>(hl p h).2⟩ (iI ht (.cons (j0 _) (.cons il .nil)))⟩⟩
  show[V.ref wl,_,V.int (n1'%((4:Nat):Int)),_]=_
  rw[ex]
  try rfl
 ·refine Hr rfl (.inr rfl) ?_
  refine⟨⟨by decide,by decide⟩,c,3,rfl,by decide,by decide,fun n1' _ _=>⟨(by show(0:Int)<4;decide),?_⟩⟩
  obtain⟨x,ex,hx⟩:=kP (x:=n1') (n:=4) (by decide)
  refine⟨wl,c/6,x,ni,?_,hw1,by lia,n2,fun v l H2 S2 l4 ln hl il=>⟨jM,fun t ht=>q _ (.case l) _ ((S1.trans S2).trans (gZ ht _)) ⟨⟨l4,fun p h=>(hl p h).1⟩,ln,fun p h=>(hl p h).2⟩ (iI ht (.cons (j0 _) (.cons il .nil)))⟩⟩
  show[V.ref wl,_,V.int (n1'%((4:Nat):Int)),_]=_
  rw[ex]
  try rfl
 ·refine Ji rfl iJ iJ (pW rfl iJ (wa rfl rfl ?_))
  exact⟨jM,fun t ht=>q _ (.row y) _ (S1.trans (gZ ht _)) ⟨hy,trivial⟩ (iI ht (.cons (j0 _) (.cons (jE _) .nil)))⟩
def FrD (D:fO) (H H':Hp):Prop:=∀a o,H a=some o->a≠D->H' a=some o
theorem FR {J:It} {i:Nat} {te:TE} {Q:VK} {τ:St} {H1:Hp} {D:fO} (n:Nat) (hn:n<fY) (R:List V->Hp->Prop) (hR:∀xs H H',R xs H->FrD D H H'->R xs H') (hD:H1 D=none) (hτ:τ.set i none=τ)
  (hgo:∀k H,iE H1 H->k<n->J.go k H) (hst:∀H,iE H1 H->J.stop n H) (h0:R [] H1)
  (step:∀k H v H3 xs (Z:VK),iE H1 H->k<n->J.yld k H v H3->R xs H->xs.length=k->H D=some (.lst xs)->(∀y H5,iE H H5->R (xs++[y]) H5->Z y H5)->te (τ.set i (some v)) H3 Z)
  (hq:∀H' xs,iE H1 H'->R xs H'->xs.length=n->H' D=some (.lst xs)->Q (.ref D) H'):LcP J i rp te Q τ H1 D:=by
 have nd:∀(H5:Hp) (o:HO),FrD D H5 (upd H5 D o):=fun H5 o a u e n=>by rw[hX n];exact e
 have up:∀{H:Hp} (o:HO),iE H1 H->iE H1 (upd H D o):=fun{H} o S b u e=>by rw[hX (ie e hD)];exact S b u e
 refine⟨fun k m σ' H2=>Y5 (m=n-k) (k<=n) ((∃o,σ'=τ.set i o)) (iE H1 H2) (∃xs,Y3 (H2 D=some (.lst xs)) (xs.length=k) (R xs H2)),⟨n,by simp,cC _,⟨none,hτ.symm⟩,gZ hD _,[],hG,rfl,hR _ _ _ h0 (nd _ _)⟩,?_⟩
 rintro k m σ' H2 ⟨rfl,hk,⟨o,rfl⟩,S,xs,e,hl,hr⟩
 by_cases hlt:k<n
 ·refine .inr ⟨hgo k H2 S hlt,fun v H3 y=>?_⟩
  rw[List.set_set]
  refine step k H2 v H3 xs _ S hlt y hr hl e fun y H5 S5 r5=>?_
  refine⟨xs,S5 D _ e,by lia,n-(k+ 1),by lia,rfl,hlt,⟨some v,rfl⟩,up _ (S.trans S5),xs++[y],hG,by rw[aQ,hl];rfl,hR _ _ _ r5 (nd H5 _)⟩
 ·have e1:k=n:=by lia
  subst e1
  exact .inl ⟨hst H2 S,hq H2 xs S hr hl e⟩
theorem sg {x a:fO} {l:List fO} (h:x∉l) (m:a∈l):x≠a:=fun e=>h (e▸m)
theorem BE {as:List fO} (nd:as.Nodup) {i j:Nat} {a:fO} (h1:as[i]?=some a) (h2:as[j]?=some a):i=j:=by
 obtain⟨l1,e1⟩:=aq.mp h1
 obtain⟨l2,e2⟩:=aq.mp h2
 exact(ar nd).mp (e1.trans e2.symm)
structure Rwp {α:Type} (H:Hp) (as:List fO) (ls:List (List α)) (f:α->Dt):Prop where
 len:as.length=ls.length
 get:∀(k:Nat) (a:fO) (l:List α),as[k]?=some a->ls[k]?=some l->∃xs,H a=some (.lst xs)/\Ims H xs (l.map f)
theorem Rwp.same {α:Type} {H H':Hp} {as:List fO} {ls:List (List α)} {f:α->Dt} (h:Rwp H as ls f) (s:iE H H'):Rwp H' as ls f:=
 ⟨h.len,fun k a l h1 h2=>let⟨xs,e,i⟩:=h.get k a l h1 h2;⟨xs,s _ _ e,i.mono (iE.tk s)⟩⟩
theorem Rwp.other {α:Type} {H:Hp} {as:List fO} {ls:List (List α)} {f:α->Dt} {a:fO} {xs ys:List V} (h:Rwp H as ls f) (e:H a=some (.lst xs)) (n:a∉as):Rwp (upd H a (.lst ys)) as ls f:=
 ⟨h.len,fun k b l h1 h2=>let⟨zs,e2,i⟩:=h.get k b l h1 h2;⟨zs,by rw[hX (sg n (aP h1)).symm];exact e2,i.mono (jP e).tk⟩⟩
theorem Rwp.put {α:Type} {H:Hp} {as:List fO} {ls:List (List α)} {f:α->Dt} {k:Nat} {a:fO} {l:List α} {xs:List V} {x:V} {y:α} (h:Rwp H as ls f) (nd:as.Nodup) (ha:as[k]?=some a) (hl:ls[k]?=some l) (e:H a=some (.lst xs)) (i:Ims H xs (l.map f)) (ix:Im H x (f y)):
  Rwp (upd H a (.lst (xs++[x]))) as (ls.set k (l++[y])) f:=by
 have tk:=(jP (o:= .lst (xs++[x])) e).tk
 refine⟨by rw[cc];exact h.len,fun j b m h1 h2=>?_⟩
 by_cases hj:k=j
 ·subst hj
  rw[ha]at h1
  cases h1
  rw[aw (aq.mp hl).1]at h2
  cases h2
  exact⟨_,hG,by rw[bB];exact(i.mono tk).app (.cons (ix.mono tk) .nil)⟩
 ·rw[ax hj]at h2
  obtain⟨zs,e2,i2⟩:=h.get j b m h1 h2
  have hab:b≠a:=fun z=>hj (BE nd ha (z▸h1))
  exact⟨zs,by rw[hX hab];exact e2,i2.mono tk⟩
structure PS (H:Hp) (lo li lf:fO) (oa ia:List fO) (Pq:Pp):Prop where
 elo:H lo=some (.lst (oa.map V.ref))
 eli:H li=some (.lst (ia.map V.ref))
 elf:∃fv,H lf=some (.lst fv)/\Ims H fv (Pq.fls.map zD)
 ro:Rwp H oa Pq.outs Pm.d
 ri:Rwp H ia Pq.ins Pu.d
 nd:(lo::li::lf::(oa++ia)).Nodup
theorem PS.same {H H':Hp} {lo li lf:fO} {oa ia:List fO} {Pq:Pp} (h:PS H lo li lf oa ia Pq) (s:iE H H'):PS H' lo li lf oa ia Pq:=
 ⟨s _ _ h.elo,s _ _ h.eli,let⟨fv,e,i⟩:=h.elf;⟨fv,s _ _ e,i.mono (iE.tk s)⟩,h.ro.same s,h.ri.same s,h.nd⟩
theorem PS.nds {H:Hp} {lo li lf:fO} {oa ia:List fO} {Pq:Pp} (h:PS H lo li lf oa ia Pq):lo≠li/\lo≠lf/\li≠lf/\lo∉oa/\lo∉ia/\li∉oa/\li∉ia/\lf∉oa/\lf∉ia/\oa.Nodup/\ia.Nodup/\∀a∈oa,a∉ia:=by
 have n:=h.nd
 simp only[aG,aj,ak,not_or,bW]at n
 obtain⟨⟨a1,a2,a3,a4⟩,⟨b1,b2,b3⟩,⟨c1,c2⟩,d1,d2,d3⟩:=n
 exact⟨a1,a2,b1,a3,a4,b2,b3,c1,c2,d1,d2,fun a h1 h2=>d3 a h1 a h2 rfl⟩
section
variable {H:Hp} {lo li lf:fO} {oa ia:List fO} {Pq:Pp}
theorem PS.addO (h:PS H lo li lf oa ia Pq) {k:Nat} {a:fO} {l:List Pm} {xs:List V} {x:V} {y:Pm} (ha:oa[k]?=some a) (hl:Pq.outs[k]?=some l) (e:H a=some (.lst xs)) (i:Ims H xs (l.map Pm.d)) (ix:Im H x y.d):
  PS (upd H a (.lst (xs++[x]))) lo li lf oa ia {Pq with outs:=Pq.outs.set k (l++[y])}:=by
 obtain⟨_,_,_,n1,_,n2,_,n3,_,d1,_,d3⟩:=h.nds
 have m:=aP ha
 have tk:=(jP (o:= .lst (xs++[x])) e).tk
 obtain⟨fv,ef,jf⟩:=h.elf
 exact⟨by rw[hX (sg n1 m)];exact h.elo,by rw[hX (sg n2 m)];exact h.eli,⟨fv,by rw[hX (sg n3 m)];exact ef,jf.mono tk⟩,h.ro.put d1 ha hl e i ix,h.ri.other e (d3 a m),h.nd⟩
theorem PS.addI (h:PS H lo li lf oa ia Pq) {k:Nat} {a:fO} {l:List Pu} {xs:List V} {x:V} {y:Pu} (ha:ia[k]?=some a) (hl:Pq.ins[k]?=some l) (e:H a=some (.lst xs)) (i:Ims H xs (l.map Pu.d)) (ix:Im H x y.d):
  PS (upd H a (.lst (xs++[x]))) lo li lf oa ia {Pq with ins:=Pq.ins.set k (l++[y])}:=by
 obtain⟨_,_,_,_,n1,_,n2,_,n3,_,d1,d3⟩:=h.nds
 have m:=aP ha
 have tk:=(jP (o:= .lst (xs++[x])) e).tk
 obtain⟨fv,ef,jf⟩:=h.elf
 exact⟨by rw[hX (sg n1 m)];exact h.elo,by rw[hX (sg n2 m)];exact h.eli,⟨fv,by rw[hX (sg n3 m)];exact ef,jf.mono tk⟩,h.ro.other e (fun z=>d3 a z m),h.ri.put d1 ha hl e i ix,h.nd⟩
theorem PS.addF (h:PS H lo li lf oa ia Pq) {fv:List V} {x:V} {y:Nat×Nat} (e:H lf=some (.lst fv)) (i:Ims H fv (Pq.fls.map zD)) (ix:Im H x (zD y)):
  PS (upd H lf (.lst (fv++[x]))) lo li lf oa ia {Pq with fls:=Pq.fls++[y]}:=by
 obtain⟨_,n1,n2,_,_,_,_,n3,n4,_,_,_⟩:=h.nds
 have tk:=(jP (o:= .lst (fv++[x])) e).tk
 exact⟨by rw[hX n1];exact h.elo,by rw[hX n2];exact h.eli,⟨_,hG,by rw[bB];exact(i.mono tk).app (.cons (ix.mono tk) .nil)⟩,h.ro.other e n3,h.ri.other e n4,h.nd⟩
end
def tot {α:Type}:List (List α)->Nat
 |[]=>0
 |l::t=>l.length+tot t
theorem xA {α:Type} {y:α}:∀{ls:List (List α)} {k:Nat} {l:List α},ls[k]?=some l->tot (ls.set k (l++[y]))=tot ls+ 1
 |m::t,0,l,h=>by
  cases h
  show(m++[y]).length+tot t=m.length+tot t+ 1
  rw[aQ,aY]
  lia
 |m::t,k+ 1,l,h=>by
  show m.length+tot (t.set k (l++[y]))=m.length+tot t+ 1
  rw[xA (ls:=t) (k:=k) h]
  lia
 |[],_,_,h=>by cases h
theorem xB {α:Type}:∀n,tot (aI n ([]:List α))=0
 |0=>rfl
 |n+ 1=>by rw[List.replicate_succ,tot,xB n];rfl
theorem Ei {b i:Nat} {p:Int}:∀(k:Nat) (l:List (List Pm)),(uX b i p k l).length=tot l
 |_,[]=>rfl
 |k,l::t=>by rw[uX,aQ,aE,Ei (k+ 1) t,tot]
theorem Ej {b i:Nat} {p:Int}:∀(k:Nat) (l:List (List Pu)),(usA b i p k l).length=tot l
 |_,[]=>rfl
 |k,l::t=>by rw[usA,aQ,usO,aE,Ej (k+ 1) t,tot]
structure Pfr (Pq:Pp) (no ni i:Nat):Prop where
 hno:Pq.outs.length=no
 hni:Pq.ins.length=ni
 om:∀l∈Pq.outs,l.length<=i/\∀m∈l,(Pm.ok no ni m/\m.dis)
 iu:∀l∈Pq.ins,l.length<=i/\∀u∈l,(Pu.ok no ni u/\u.dis)
 ff:Pq.fls.length<=i/\∀p∈Pq.fls,p.1<ni/\p.2<no
 tm:tot Pq.outs<=i
 tu:tot Pq.ins<=i
theorem Pfr.succ {Pq:Pp} {no ni i:Nat} (h:Pfr Pq no ni i):Pfr Pq no ni (i+ 1):=
 ⟨h.hno,h.hni,fun l hl=>⟨cM (h.om l hl).1,(h.om l hl).2⟩,fun l hl=>⟨cM (h.iu l hl).1,(h.iu l hl).2⟩,⟨cM h.ff.1,h.ff.2⟩,cM h.tm,cM h.tu⟩
theorem Pfr.addO {Pq:Pp} {no ni i k:Nat} {l:List Pm} {y:Pm} (h:Pfr Pq no ni i) (hl:Pq.outs[k]?=some l) (hy:y.ok no ni/\y.dis):Pfr {Pq with outs:=Pq.outs.set k (l++[y])} no ni (i+ 1):=by
 have hm:=aP hl
 refine⟨by show(Pq.outs.set k _).length=no;rw[cc];exact h.hno,h.hni,fun m hm'=>?_,h.succ.iu,h.succ.ff,by show tot (Pq.outs.set k _)<=_;rw[xA hl];exact cJ h.tm,h.succ.tu⟩
 rcases cf hm' with z|z
 ·exact h.succ.om m z
 ·rw[z]
  refine⟨by rw[aQ,aY];exact cJ (h.om l hm).1,fun u hu=>?_⟩
  rcases ak.mp hu with hu|hu
  ·exact(h.om l hm).2 u hu
  ·rw[bh.mp hu];exact hy
theorem Pfr.addI {Pq:Pp} {no ni i k:Nat} {l:List Pu} {y:Pu} (h:Pfr Pq no ni i) (hl:Pq.ins[k]?=some l) (hy:y.ok no ni/\y.dis):Pfr {Pq with ins:=Pq.ins.set k (l++[y])} no ni (i+ 1):=by
 have hm:=aP hl
 refine⟨h.hno,by show(Pq.ins.set k _).length=ni;rw[cc];exact h.hni,h.succ.om,fun m hm'=>?_,h.succ.ff,h.succ.tm,by show tot (Pq.ins.set k _)<=_;rw[xA hl];exact cJ h.tu⟩
 rcases cf hm' with z|z
 ·exact h.succ.iu m z
 ·rw[z]
  refine⟨by rw[aQ,aY];exact cJ (h.iu l hm).1,fun u hu=>?_⟩
  rcases ak.mp hu with hu|hu
  ·exact(h.iu l hm).2 u hu
  ·rw[bh.mp hu];exact hy
theorem Pfr.addF {Pq:Pp} {no ni i:Nat} {y:Nat×Nat} (h:Pfr Pq no ni i) (hy:y.1<ni/\y.2<no):Pfr {Pq with fls:=Pq.fls++[y]} no ni (i+ 1):=by
 refine⟨h.hno,h.hni,h.succ.om,h.succ.iu,⟨by show(Pq.fls++[y]).length<=_;rw[aQ,aY];exact cJ h.ff.1,fun p hp=>?_⟩,h.succ.tm,h.succ.tu⟩
 rcases ak.mp hp with hp|hp
 ·exact h.ff.2 p hp
 ·rw[bh.mp hp];exact hy
theorem Dj:∀l:List (Str×Nat),yd (l.map fun p=> .tup [sD p.1,nI p.2])=true
 |[]=>rfl
 |p::t=>by
  rw[aD,yd,Dj t]
  rfl
theorem tS (l:List (Str×Nat)):jQ (prN l)<=2:=by
 have:jA (l.map fun p=>Dt.tup [sD p.1,nI p.2])<=1:=lH fun p _=>by simp[sD,nI,iD,jQ,jA]
 exact cJ this
theorem Jk (s:Str) (d:Dt) (h:jQ d<=2) (n:nlD d=true):nlD (.tup [sD s,d])=true/\jQ (.tup [sD s,d])<=100:=by
 constructor
 ·simp only[nlD,yd,sD,n]
  rfl
 ·simp only[jQ,jA,sD]
  lia
theorem Jl (m:Pm):nlD m.d=true/\jQ m.d<=100:=by
 cases m with
 |rcd l=>exact Jk _ _ (tS l) (Dj l)
 |_=>simp[Pm.d,Pm.rest,nlD,yd,sD,nI,iD,jQ,jA]
theorem Jm (m:Pu):nlD m.d=true/\jQ m.d<=100:=by
 cases m with
 |take l=>exact Jk _ _ (tS l) (Dj l)
 |case l=>exact Jk _ _ (tS l) (Dj l)
 |_=>simp[Pu.d,Pu.rest,nlD,yd,sD,nI,iD,jQ,jA]
theorem Jn (p:Nat×Nat):nlD (zD p)=true/\jQ (zD p)<=100:=by simp[zD,nlD,yd,nI,iD,jQ,jA]
theorem si {K:PySem.W.Frag} {α:Type} {f:α->Dt} {σ:St} {H:Hp} {D:qb} {a:fO} {x:V} {xs:List V} {l:List α} {y:α} (h8:σ[8]?=some (some (.ref a))) (h9:σ[9]?=some (some x)) (ea:H a=some (.lst xs)) (is:Ims H xs (l.map f)) (ix:Im H x (f y)) (nl:∀z,nlD (f z)=true/\jQ (f z)<=100) (hl:xs.length<fY)
  (q1:D.nx σ H) (q2:D.nx σ (upd H a (.lst (xs++[x])))):tX (cT (tOp (GZ K) (cV 9) (cV 8))) (zK (GS (cV 8) (cV 9))) oA D σ H:=by
 show onV σ[9]? _
 rw[h9]
 show onV σ[8]? _
 rw[h8]
 refine⟨a,xs,_,_,rfl,SqL.of ea,wO is,CF ix,(nl y).1,fun e he=>?_,fun b=>?_⟩
 ·obtain⟨z,_,rfl⟩:=bp.mp he
  exact nl z
 ·show if b=true then _ else _
  refine sE (fun _=>?_) (fun _=>q1)
  show onV σ[8]? _
  rw[h8]
  refine⟨⟨_,ea⟩,?_⟩
  show onV σ[9]? _
  rw[h9]
  exact⟨xs,ea,hl,q2⟩
theorem Dk {H:Hp} {α:Type} {f:α->Dt} {us vs:List V} (p:us.Perm vs):∀l:List α,Ims H vs (l.map f)->∃l':List α,l'.Perm l/\Ims H us (l'.map f):=by
 induction p with
 |nil=>
  intro l h
  exact⟨l,.refl _,h⟩
 |cons x _ ih=>
  intro l h
  cases l with
  |nil=>cases h
  |cons a t=>
   rw[aD]at h
   cases h with
   |cons h1 h2=>
    obtain⟨l',p',i'⟩:=ih t h2
    exact⟨a::l',p'.cons _,.cons h1 i'⟩
 |swap x y l0=>
  intro l h
  cases l with
  |nil=>cases h
  |cons a t=>
   cases t with
   |nil=>rw[aD]at h;cases h with|cons h1 h2=>cases h2
   |cons c t=>
    rw[aD,aD]at h
    cases h with
    |cons h1 h2=>
     cases h2 with
     |cons h3 h4=>exact⟨c::a::t,.swap _ _ _,.cons h3 (.cons h1 h4)⟩
 |trans _ _ ih1 ih2=>
  intro l h
  obtain⟨l1,p1,i1⟩:=ih2 l h
  obtain⟨l2,p2,i2⟩:=ih1 l1 i1
  exact⟨l2,p2.trans p1,i2⟩
def Emp (H1:Hp) (D:fO) (xs:List V) (H:Hp):Prop:=∃l:List fO,Y3 (xs=l.map V.ref) (l.Nodup) (∀a∈l,a≠D/\H a=some (.lst [])/\H1 a=none)
theorem El {Q:VK} {H1:Hp} {D:fO} {n:Nat} (hn:n<fY) (hD:H1 D=none)
  (hq:∀H' l,iE H1 H'->(D::l).Nodup->l.length=n->(∀a∈D::l,H1 a=none)->(∀a∈l,H' a=some (.lst []))->H' D=some (.lst (l.map V.ref))->Q (.ref D) H'):LcP (Itr 0 n) 0 rp (Ij DH) Q [none] H1 D:=by
 refine FR n hn (Emp H1 D) (fun xs H H' ⟨l,h1,h2,h3⟩ f=>⟨l,h1,h2,fun a ha=>⟨(h3 a ha).1,f _ _ (h3 a ha).2.1 (h3 a ha).1,(h3 a ha).2.2⟩⟩) hD rfl (fun k H _ hk=>hk) (fun H _=>cB _) ⟨[],rfl,aW,fun a ha=>by cases ha⟩ ?_ ?_
 ·rintro k H v H3 xs Z S hk ⟨rfl,rfl⟩ ⟨l,rfl,nd,h3⟩ hl eD z
  refine⟨sr,fun a ha=>z _ _ (gZ ha _) ⟨l++[a],by rw[bB];rfl,?_,fun b hb=>?_⟩⟩
  ·refine bW.mpr ⟨nd,by simp,fun b hb c hc=>?_⟩
   rw[bh.mp hc]
   exact ie (h3 b hb).2.1 ha
  ·rcases ak.mp hb with hb|hb
   ·exact⟨(h3 b hb).1,gZ ha _ _ _ (h3 b hb).2.1,(h3 b hb).2.2⟩
   ·rw[bh.mp hb]
    exact⟨(ie eD ha).symm,hG,kO S ha⟩
 ·rintro H' xs S ⟨l,rfl,nd,h3⟩ hl eD
  rw[aE]at hl
  refine hq H' l S (aG.mpr ⟨fun z=>(h3 D z).1 rfl,nd⟩) hl (fun a ha=>?_) (fun a ha=>(h3 a ha).2.1) eD
  rcases aj.mp ha with rfl|ha
  ·exact hD
  ·exact(h3 a ha).2.2
theorem Em {α:Type} {f:α->Dt} {H:Hp} {l:List fO} {n:Nat} (hl:l.length=n) (h:∀a∈l,H a=some (.lst [])):Rwp H l (aI n ([]:List α)) f:=
 ⟨by rw[hl,aR],fun k a m h1 h2=>by
  have hm:m=[]:=by
   have:=aP h2
   exact cg this
  subst hm
  exact⟨[],h a (aP h1),.nil⟩⟩
def Hz:Sp:=fun vs H Q _=>X4 fun(wl cl:fO) (fi:Int) (ns:List Int)=>Y5 (vs=[.ref wl,.int fi,.ref cl]) (Wd H wl) (H cl=some (.lst (ns.map V.int))) (ns.length<=32) (∀pp o i f Pq H',iE H H'->(∀a∈[pp,o,i,f],H a=none)->[pp,o,i,f].Nodup->H' pp=some (.lst [.ref o,.ref i,.ref f])->L3 H' o i f Pq->Pok Pq->Q (.ref pp) H')
theorem vb (T:Txt K mg):FO P w base 4 T.d23 Hz:=by
 have gD21:=sU (P:=P) (w:=w) (base:=base) T
 have gD22:=u9 (P:=P) (w:=w) (base:=base) T
 refine T.d23.F.rd jb fun cdv A0 outer s H vs Q E hr h=>?_
 obtain⟨wl,cl,fi,ns,rfl,hw,ecl,ln,q⟩:=h
 refine⟨_,(hW (pJ (j:=3) rfl (Ge (x:="_law_k") rfl iJ iJ rfl rfl) (jS rfl T.z_range (gY (iK kq hV (iK ji (cv 1) hV)) hI)) (fun _ _ _ _ _=>jL) (fun _ _ _ _ _=>(iZ hI)) jb.nd rfl (.inl rfl))
  (hW (pJ (j:=4) rfl (Ge (x:="_law_k") rfl iJ iJ rfl rfl) (jS rfl T.z_range (gY (iK ji (iK jB (cv 1) hV) hV) hI)) (fun _ _ _ _ _=>jL) (fun _ _ _ _ _=>(iZ hI)) jb.nd rfl (.inl rfl))
  (hW (pS (i:=5) jb.nd (iZ hI))
  (hW (jN PassesOwn.never rfl (j3 (cv 2)) (pN (i:=6) jb.nd)
   (hW (pS (i:=7) jb.nd (iK ji (cv 6) (iK xZ hV hV)))
   (hW (iY (PW.pt (sC (iw jc (iK ji (cv 7) hV) hV) (oF (iw jc (iN iP rfl T.z_len jO (gY (cv 4) hI)) hV))))
    (hW (pS (i:=8) jb.nd (iq iG (cv 3) (iK ji (iK jB (cv 7) hV) (iN iP rfl T.z_len jO (gY (cv 3) hI)))))
    (hZ (pS (i:=9) jb.nd (pF T.d21 gD21 hr.m (gY (cv 0) (gY (iK jB (cv 7) hV) (gY (iN iP rfl T.z_len jO (gY (cv 3) hI)) (gY (iN iP rfl T.z_len jO (gY (cv 4) hI)) hI))))))))
    (hZ (iY (iw jc (iK ji (cv 7) hV) hV)
     (hW (pS (i:=8) jb.nd (iq iG (cv 4) (iK ji (iK jB (cv 7) hV) (iN iP rfl T.z_len jO (gY (cv 4) hI)))))
     (hZ (pS (i:=9) jb.nd (pF T.d22 gD22 hr.m (gY (cv 0) (gY (iK jB (cv 7) hV) (gY (iN iP rfl T.z_len jO (gY (cv 3) hI)) (gY (iN iP rfl T.z_len jO (gY (cv 4) hI)) hI))))))))
     (hW (pS (i:=8) jb.nd (cv 5))
     (hZ (pS (i:=9) jb.nd (iF (gY (iK ji (iK jB (cv 7) hV) (iN iP rfl T.z_len jO (gY (cv 4) hI))) (gY (iK ji (iK jB (cv 7) hV) (iN iP rfl T.z_len jO (gY (cv 3) hI))) hI)))))))))
   (hZ (iY (iw (AR hr) (cv 9) (cv 8) rfl)
    (hZ (iS (lJ (ny eI eJ eK jh (PE.mono (cv 8)) (gY (PE.mono (cv 9)) hI)))))
    iM)))))
  (hZ (iH (iZ (gY (qf rfl (Ge (x:="_law_one") rfl iJ iJ rfl rfl) (j3 (cv 3)) (fun _ _ _ _ _=>jL) (fun _ _ _ _ _=>(jd (r:=A1 K) jg rfl T.z_tuple jZ (gY (cv 0) hI)))) (gY (qf rfl (Ge (x:="_law_one") rfl iJ iJ rfl rfl) (j3 (cv 4)) (fun _ _ _ _ _=>jL) (fun _ _ _ _ _=>(jd (r:=A1 K) jg rfl T.z_tuple jZ (gY (cv 0) hI)))) (gY (iN vP rfl T.z_sorted pK (gY (cv 5) hI)) hI)))))))))),?_⟩
 refine wm fun zn ze=>?_
 have sl:=fZ
 obtain⟨x8,ex8,hx8⟩:=kP (x:=fi) (n:=8) (by decide)
 refine⟨(by show(0:Int)<8;decide),_,rfl,?_,?_,fun lo hlo=>?_⟩
 ·show-(2^62)<=1+fi%((8:Nat):Int);rw[ex8];lia
 ·show 1+fi%((8:Nat):Int)<2^62;rw[ex8];lia
 have e8:(1+fi%8).toNat=1+x8:=by
  have:fi%8=(x8:Int):=ex8
  rw[this]
  lia
 show LcP (Itr 0 (1+fi%8).toNat) _ _ _ _ _ _ _
 rw[e8]
 refine El (by lia) hlo fun H1 oa S1 nd1 lo1 fr1 em1 elo=>?_
 subst ze
 dsimp only[iO]
 refine wm fun zn ze=>?_
 obtain⟨x9,ex9,hx9⟩:=kP (x:=fi/8) (n:=9) (by decide)
 refine⟨⟨by decide,by decide⟩,(by show(0:Int)<9;decide),_,rfl,?_,?_,fun li hli=>?_⟩
 ·show-(2^62)<=fi/8%((9:Nat):Int);rw[ex9];lia
 ·show fi/8%((9:Nat):Int)<2^62;rw[ex9];lia
 have e9:(fi/8%9).toNat=x9:=by
  have:fi/8%9=(x9:Int):=ex9
  rw[this,eZ]
 show LcP (Itr 0 (fi/8%9).toNat) _ _ _ _ _ _ _
 rw[e9]
 refine El (by lia) hli fun H2 ia S2 nd2 li2 fr2 em2 eli=>?_
 subst ze
 dsimp only[iO]
 refine wm fun zn ze=>?_
 refine⟨sr,fun lf hlf=>?_⟩
 have S3:=gZ hlf (.lst [])
 have S02:=S1.trans S2
 have S03:=S02.trans S3
 have hs1:∀a∈lo::oa,∃o,H1 a=some o:=fun a ha=>by
  rcases aj.mp ha with rfl|ha
  ·exact⟨_,elo⟩
  ·exact⟨_,em1 a ha⟩
 have hs2:∀a∈li::ia,∃o,H2 a=some o:=fun a ha=>by
  rcases aj.mp ha with rfl|ha
  ·exact⟨_,eli⟩
  ·exact⟨_,em2 a ha⟩
 have d12:∀a∈lo::oa,∀b∈li::ia,a≠b:=fun a ha b hb=>by
  obtain⟨o,e⟩:=hs1 a ha
  exact ie e (fr2 b hb)
 have d1f:∀a∈lo::oa,a≠lf:=fun a ha=>by
  obtain⟨o,e⟩:=hs1 a ha
  exact ie (S2 _ _ e) hlf
 have d2f:∀a∈li::ia,a≠lf:=fun a ha=>by
  obtain⟨o,e⟩:=hs2 a ha
  exact ie e hlf
 have fr0:∀a∈lo::li::lf::(oa++ia),H a=none:=fun a ha=>by
  simp only[aj,ak]at ha
  rcases ha with rfl|rfl|rfl|ha|ha
  ·exact fr1 _ (by simp)
  ·exact kO S1 (fr2 _ (by simp))
  ·exact kO S02 hlf
  ·exact fr1 a (by simp[ha])
  ·exact kO S1 (fr2 a (by simp[ha]))
 have ndA:(lo::li::lf::(oa++ia)).Nodup:=by
  rw[aG]at nd1 nd2
  simp only[aG,aj,ak,not_or,bW]
  exact⟨⟨d12 lo (by simp) li (by simp),d1f lo (by simp),nd1.1,fun z=>d12 lo (by simp) lo (by simp[z]) rfl⟩,⟨d2f li (by simp),fun z=>d12 li (by simp[z]) li (by simp) rfl,nd2.1⟩,⟨fun z=>d1f lf (by simp[z]) rfl,fun z=>d2f lf (by simp[z]) rfl⟩,nd1.2,nd2.2,fun a ha b hb=>d12 a (by simp[ha]) b (by simp[hb])⟩
 have ps0:PS (upd H2 lf (.lst [])) lo li lf oa ia ⟨aI (1+x8) [],aI x9 [],[]⟩:=
  ⟨S3 _ _ (S2 _ _ elo),S3 _ _ eli,⟨[],hG,.nil⟩,Em lo1 (fun a ha=>S3 _ _ (S2 _ _ (em1 a ha))),Em li2 (fun a ha=>S3 _ _ (em2 a ha)),ndA⟩
 have pk0:Pfr ⟨aI (1+x8) [],aI x9 [],[]⟩ (1+x8) x9 0:=
  ⟨aR,aR,fun l hl=>by rw[cg hl];exact⟨cB _,fun m hm=>by cases hm⟩,fun l hl=>by rw[cg hl];exact⟨cB _,fun m hm=>by cases hm⟩,⟨cB _,fun p hp=>by cases hp⟩,cD (xB _),cD (xB _)⟩
 subst ze
 dsimp only[iO]
 refine wm fun zn ze=>?_
 generalize upd H2 lf (.lst [])=H3 at S3 S03 ps0⊢
 refine⟨cl,rfl,⟨_,SqL.of (S03 _ _ ecl)⟩,lq (xs:=ns.map V.int) (fun k σ H4=>X5 fun(Pq:Pp) (o6 o7 o8 o9:Option V)=>Y4 (σ=[some (.ref wl),some (.int fi),some (.ref cl),some (.ref lo),some (.ref li),some (.ref lf),o6,o7,o8,o9]) (iE H H4) (PS H4 lo li lf oa ia Pq) (Pfr Pq (1+x8) x9 k))
  ⟨_,none,none,none,none,rfl,S03,ps0,pk0⟩ (fun k σ H4 _ ⟨_,_,_,_,_,_,S,_,_⟩=>SqL.of (S _ _ ecl)) ?_ ?_⟩
 ·rintro k v σ H4 hv ⟨Pq,o6,o7,o8,o9,rfl,S4,ps,pk⟩
  have hk:=(aq.mp hv).1
  rw[aE]at hk
  obtain⟨x,rfl⟩:∃x:Int,v= .int x:=by
   rw[aO]at hv
   cases e:ns[k]? with
   |none=>rw[e]at hv;cases hv
   |some m=>rw[e]at hv;exact⟨m,(cR.inj hv).symm⟩
  have lo4:=ps.ro.len
  rw[pk.hno]at lo4
  have li4:=ps.ri.len
  rw[pk.hni]at li4
  have hw4:=oj hw S4
  have upS:∀{H5:Hp} {a:fO} {o:HO},iE H H5->a∈lo::li::lf::(oa++ia)->iE H (upd H5 a o):=fun{H5 a o} S m b u e=>by
   rw[hX (ie e (fr0 a m))]
   exact S b u e
  have mkA':∀(c:Int) (σ':St) (H5:Hp) (v:V) (m:Pm) (kk:Nat) (a:fO) (D:qb),iE H4 H5->(m.ok (1+x8) x9/\m.dis)->Im H5 v m.d->oa[kk]?=some a->σ'=[some (.ref wl),some (.int fi),some (.ref cl),some (.ref lo),some (.ref li),some (.ref lf),some (.int x),some (.int c),some (.ref a),some v]->(∀H6 Pq',iE H H6->PS H6 lo li lf oa ia Pq'->Pfr Pq' (1+x8) x9 (k+ 1)->D.nx σ' H6)->tX (cT (tOp (GZ K) (cV 9) (cV 8))) (zK (GS (cV 8) (cV 9))) oA D σ' H5:=fun c σ' H5 v m kk a D S5 mok im ha hσ nx=>by
   obtain⟨l,hl⟩:∃l,Pq.outs[kk]?=some l:=⟨_,bj (by have:=(aq.mp ha).1;rw[pk.hno];lia)⟩
   have ps5:=ps.same S5
   obtain⟨xs,e,is⟩:=ps5.ro.get kk a l ha hl
   have lx:=is.length
   rw[aE]at lx
   have:=(pk.om l (aP hl)).1
   subst hσ
   exact si rfl rfl e is im Jl (by lia) (nx _ _ (S4.trans S5) ps5 pk.succ) (nx _ _ (upS (S4.trans S5) (by simp[aP ha])) (ps5.addO ha hl e is im) (pk.addO hl mok))
  have usA':∀(c:Int) (σ':St) (H5:Hp) (v:V) (m:Pu) (kk:Nat) (a:fO) (D:qb),iE H4 H5->(m.ok (1+x8) x9/\m.dis)->Im H5 v m.d->ia[kk]?=some a->σ'=[some (.ref wl),some (.int fi),some (.ref cl),some (.ref lo),some (.ref li),some (.ref lf),some (.int x),some (.int c),some (.ref a),some v]->(∀H6 Pq',iE H H6->PS H6 lo li lf oa ia Pq'->Pfr Pq' (1+x8) x9 (k+ 1)->D.nx σ' H6)->tX (cT (tOp (GZ K) (cV 9) (cV 8))) (zK (GS (cV 8) (cV 9))) oA D σ' H5:=fun c σ' H5 v m kk a D S5 mok im ha hσ nx=>by
   obtain⟨l,hl⟩:∃l,Pq.ins[kk]?=some l:=⟨_,bj (by have:=(aq.mp ha).1;rw[pk.hni];lia)⟩
   have ps5:=ps.same S5
   obtain⟨xs,e,is⟩:=ps5.ri.get kk a l ha hl
   have lx:=is.length
   rw[aE]at lx
   have:=(pk.iu l (aP hl)).1
   subst hσ
   exact si rfl rfl e is im Jm (by lia) (nx _ _ (S4.trans S5) ps5 pk.succ) (nx _ _ (upS (S4.trans S5) (by simp[aP ha])) (ps5.addI ha hl e is im) (pk.addI hl mok))
  have flA':∀(c:Int) (σ':St) (H5:Hp) (v:V) (p:Nat×Nat) (D:qb),iE H4 H5->(p.1<x9/\p.2<1+x8)->Im H5 v (zD p)->σ'=[some (.ref wl),some (.int fi),some (.ref cl),some (.ref lo),some (.ref li),some (.ref lf),some (.int x),some (.int c),some (.ref lf),some v]->(∀H6 Pq',iE H H6->PS H6 lo li lf oa ia Pq'->Pfr Pq' (1+x8) x9 (k+ 1)->D.nx σ' H6)->tX (cT (tOp (GZ K) (cV 9) (cV 8))) (zK (GS (cV 8) (cV 9))) oA D σ' H5:=fun c σ' H5 v p D S5 pok im hσ nx=>by
   have ps5:=ps.same S5
   obtain⟨xs,e,is⟩:=ps5.elf
   have lx:=is.length
   rw[aE]at lx
   have:=pk.ff.1
   subst hσ
   exact si rfl rfl e is im Jn (by lia) (nx _ _ (S4.trans S5) ps5 pk.succ) (nx _ _ (upS (S4.trans S5) (by simp)) (ps5.addF e is im) (pk.addF pok))
  have refAt:∀{l:List fO} {j:Nat},j<l.length->∃a,l[j]?=some a/\atI (l.map V.ref) (j:Int)=some (.ref a):=fun{l j} hj=>⟨l[j],bj hj,ic (by rw[aO,bj hj];rfl)⟩
  dsimp only[iO]
  refine⟨⟨by decide,by decide,by decide⟩,(by show(0:Int)<10^(40:Int).toNat;decide+kernel),?_⟩
  dsimp only[iO]
  generalize x%10^(40:Int).toNat=c
  refine⟨(by show(0:Int)<3;decide),?_⟩
  have lenO:(((oa.map V.ref).length:Nat):Int)=((1+x8:Nat):Int):=by rw[aE,lo4]
  have lenI:(((ia.map V.ref).length:Nat):Int)=(x9:Int):=by rw[aE,li4]
  obtain⟨y1,ey1,hy1⟩:=kP (x:=c/3) (n:=1+x8) (by lia)
  obtain⟨a1,ha1,at1⟩:=refAt (l:=oa) (j:=y1) (by lia)
  refine sE (fun _=>mj ?_) (fun _=>⟨li,_,rfl,.inl (SqL.of ps.eli),sE (fun _=>?_) (fun h2=>⟨(by show(0:Int)<3;decide),?_⟩)⟩)
  ·refine⟨⟨by decide,by decide⟩,lo,_,rfl,.inl (SqL.of ps.elo),(by show(0:Int)<_;rw[lenO];lia),_,ps.elo,ig (v:= .ref a1) (by rw[lenO,ey1];exact at1) ?_⟩
   dsimp only[iO]
   refine⟨⟨by decide,by decide⟩,lo,_,rfl,.inl (SqL.of ps.elo),li,_,rfl,.inl (SqL.of ps.eli),wl,c/24,1+x8,x9,by rw[lenO,lenI];rfl,hw4,by lia,fun v m H5 S5 mok im=>?_⟩
   exact mkA' c _ H5 v m y1 a1 _ S5 mok im ha1 rfl (fun H6 Pq' S6 ps6 pk6=>⟨Pq',_,_,_,_,rfl,S6,ps6,pk6⟩)
  ·refine⟨⟨by decide,by decide⟩,lo,_,rfl,.inl (SqL.of ps.elo),(by show(0:Int)<_;rw[lenO];lia),_,ps.elo,ig (v:= .ref a1) (by rw[lenO,ey1];exact at1) ?_⟩
   dsimp only[iO]
   refine⟨⟨by decide,by decide⟩,lo,_,rfl,.inl (SqL.of ps.elo),li,_,rfl,.inl (SqL.of ps.eli),wl,c/24,1+x8,x9,by rw[lenO,lenI];rfl,hw4,by lia,fun v m H5 S5 mok im=>?_⟩
   exact mkA' c _ H5 v m y1 a1 _ S5 mok im ha1 rfl (fun H6 Pq' S6 ps6 pk6=>⟨Pq',_,_,_,_,rfl,S6,ps6,pk6⟩)
  have n9:1<=x9:=by
   rcases Nat.eq_zero_or_pos x9 with z|z
   ·exact absurd (by rw[jJ (show(((ia.map V.ref).length:Nat):Int)=0 by rw[lenI,z];rfl)];rfl) h2
   ·exact z
  obtain⟨y2,ey2,hy2⟩:=kP (x:=c/3) n9
  refine sE (fun _=>?_) (fun _=>?_)
  ·obtain⟨a2,ha2,at2⟩:=refAt (l:=ia) (j:=y2) (by lia)
   refine⟨⟨by decide,by decide⟩,li,_,rfl,.inl (SqL.of ps.eli),(by show(0:Int)<_;rw[lenI];lia),_,ps.eli,ig (v:= .ref a2) (by rw[lenI,ey2];exact at2) ?_⟩
   dsimp only[iO]
   refine⟨⟨by decide,by decide⟩,lo,_,rfl,.inl (SqL.of ps.elo),li,_,rfl,.inl (SqL.of ps.eli),wl,c/27,1+x8,x9,by rw[lenO,lenI];rfl,hw4,by lia,n9,fun v m H5 S5 mok im=>?_⟩
   exact usA' c _ H5 v m y2 a2 _ S5 mok im ha2 rfl (fun H6 Pq' S6 ps6 pk6=>⟨Pq',_,_,_,_,rfl,S6,ps6,pk6⟩)
  ·dsimp only[iO]
   obtain⟨y3,ey3,hy3⟩:=kP (x:=c/27) (n:=1+x8) (by lia)
   refine⟨⟨by decide,by decide⟩,li,_,rfl,.inl (SqL.of ps.eli),(by show(0:Int)<_;rw[lenI];lia),⟨by decide,by decide⟩,lo,_,rfl,.inl (SqL.of ps.elo),(by show(0:Int)<_;rw[lenO];lia),jM,fun t ht=>?_⟩
   have i1:∀H':Hp,Im H' (.int (c/3%(((ia.map V.ref).length:Nat):Int))) (nI y2):=fun H'=>by rw[lenI,ey2];exact jE _
   have i2:∀H':Hp,Im H' (.int (c/27%(((oa.map V.ref).length:Nat):Int))) (nI y3):=fun H'=>by rw[lenO,ey3];exact jE _
   exact flA' c _ _ _ (y2,y3) _ (gZ ht _) ⟨hy2,hy3⟩ (iI ht (.cons (i1 _) (.cons (i2 _) .nil))) rfl (fun H6 Pq' S6 ps6 pk6=>⟨Pq',_,_,_,_,rfl,S6,ps6,pk6⟩)
 ·rintro σ H4 ⟨Pq,o6,o7,o8,o9,rfl,S4,ps,pk⟩
  rw[aE]at pk
  have lo4:=ps.ro.len
  rw[pk.hno]at lo4
  have li4:=ps.ri.len
  rw[pk.hni]at li4
  subst ze
  dsimp only
  refine⟨lo,rfl,⟨_,SqL.of ps.elo⟩,fun d1 hd1=>?_⟩
  refine my (oa.map V.ref).length (by rw[aE];lia) (fun ys H5=>Ims H5 ys ((Pq.outs.take ys.length).map Ed)) (fun ys _ _ h k=>h.mono k) hd1 rfl (fun k H S hk=>tH ps.elo S hk) (fun H S=>tI ps.elo S) .nil ?_ ?_
  ·rintro k H5 v H6 ys Z S5 hk ⟨rfl,hv⟩ hys hl z
   have hv2:=hv _ (SqL.of (S5 _ _ ps.elo))
   rw[aE]at hk
   rw[aO,bj hk]at hv2
   cases hv2
   obtain⟨l,hl2⟩:∃l,Pq.outs[k]?=some l:=⟨_,bj (by rw[pk.hno];lia)⟩
   obtain⟨xs,e,is⟩:=(ps.same S5).ro.get k _ l (bj hk) hl2
   refine⟨_,xs,rfl,.inl ⟨SqL.of e,fun tp htp=>z _ _ (gZ htp _) ?_⟩⟩
   rw[aQ,aY,hl,jm hl2,bB]
   rw[hl]at hys
   exact(hys.mono (iE.tk (gZ htp _))).app (.cons (iI htp is) .nil)
  rintro H5 ys1 S5 i5 l5 e5
  rw[l5,aE,lo4,<-pk.hno,bJ]at i5
  have ps5:=ps.same S5
  refine⟨li,rfl,⟨_,SqL.of ps5.eli⟩,fun d2 hd2=>?_⟩
  refine my (ia.map V.ref).length (by rw[aE];lia) (fun ys H6=>Ims H6 ys ((Pq.ins.take ys.length).map inD)) (fun ys _ _ h k=>h.mono k) hd2 rfl (fun k H S hk=>tH ps5.eli S hk) (fun H S=>tI ps5.eli S) .nil ?_ ?_
  ·rintro k H6 v H7 ys Z S6 hk ⟨rfl,hv⟩ hys hl z
   have hv2:=hv _ (SqL.of (S6 _ _ ps5.eli))
   rw[aE]at hk
   rw[aO,bj hk]at hv2
   cases hv2
   obtain⟨l,hl2⟩:∃l,Pq.ins[k]?=some l:=⟨_,bj (by rw[pk.hni];lia)⟩
   obtain⟨xs,e,is⟩:=(ps5.same S6).ri.get k _ l (bj hk) hl2
   refine⟨_,xs,rfl,.inl ⟨SqL.of e,fun tp htp=>z _ _ (gZ htp _) ?_⟩⟩
   rw[aQ,aY,hl,jm hl2,bB]
   rw[hl]at hys
   exact(hys.mono (iE.tk (gZ htp _))).app (.cons (iI htp is) .nil)
  rintro H6 ys2 S6 i6 l6 e6
  rw[l6,aE,li4,<-pk.hni,bJ]at i6
  have ps6:=ps5.same S6
  obtain⟨fv,ef,jf⟩:=ps6.elf
  have lfv:=jf.length
  rw[aE]at lfv
  have f63:=pk.ff.1
  refine⟨lf,fv,rfl,SqL.of ef,by lia,fun v hv=>?_,fun d3 ts hd3 pm=>⟨sW,fun pp hpp=>?_⟩⟩
  ·obtain⟨j,hj⟩:=bN.mp hv
   obtain⟨p,_,ip⟩:=l8 jf hj
   obtain⟨t,zs,rfl,et,iz⟩:=m7 ip
   obtain⟨z1,z2,rfl,j1,j2⟩:=pA iz
   rw[mV j1,mV j2]at et
   exact⟨t,_,_,rfl,et⟩
  obtain⟨fl',pf,jf'⟩:=Dk pm _ jf
  have s7:=gZ hd3 (.lst ts)
  have s8:=gZ hpp (.lst [.ref d1,.ref d2,.ref d3])
  have S48:iE H4 _:=((S5.trans S6).trans s7).trans s8
  refine q pp d1 d2 d3 ⟨Pq.outs,Pq.ins,fl'⟩ _ (S4.trans S48) (fun a ha=>?_) ?_ hG ⟨⟨ys1,s8 _ _ (s7 _ _ (S6 _ _ e5)),i5.mono (iE.tk ((S6.trans s7).trans s8))⟩,⟨ys2,s8 _ _ (s7 _ _ e6),i6.mono (iE.tk (s7.trans s8))⟩,⟨ts,s8 _ _ hG,jf'.mono (iE.tk (s7.trans s8))⟩⟩ ⟨⟨by rw[pk.hno];lia,by rw[pk.hno];lia,by rw[pk.hni];lia,fun l hl=>?_,fun l hl=>?_,by show fl'.length<=64;rw[pf.length_eq];lia,fun p hp=>?_⟩,by rw[Ei];exact cy pk.tm ln,by rw[Ej];exact cy pk.tu ln,by show fl'.length<=32;rw[pf.length_eq];lia,fun l hl m hm=>((pk.om l hl).2 m hm).2,fun l hl m hm=>((pk.iu l hl).2 m hm).2⟩
  ·simp only[aj,bo,or_false]at ha
   rcases ha with rfl|rfl|rfl|rfl
   ·exact kO S4 (kO ((S5.trans S6).trans s7) hpp)
   ·exact kO S4 hd1
   ·exact kO S4 (kO S5 hd2)
   ·exact kO S4 (kO (S5.trans S6) hd3)
  ·simp only[aG,aj,bo,or_false,not_or]
   exact⟨⟨(ie (s7 _ _ (S6 _ _ e5)) hpp).symm,(ie (s7 _ _ e6) hpp).symm,(ie (hG (H:=H6) (a:=d3) (o:= .lst ts)) hpp).symm⟩,⟨ie e5 hd2,ie (S6 _ _ e5) hd3⟩,ie e6 hd3,fun z=>z,aW⟩
  ·show l.length<=64/\∀m∈l,Pm.ok Pq.outs.length Pq.ins.length m
   rw[pk.hno,pk.hni]
   exact⟨by have:=(pk.om l hl).1;lia,fun m hm=>((pk.om l hl).2 m hm).1⟩
  ·show l.length<=64/\∀m∈l,Pu.ok Pq.outs.length Pq.ins.length m
   rw[pk.hno,pk.hni]
   exact⟨by have:=(pk.iu l hl).1;lia,fun m hm=>((pk.iu l hl).2 m hm).1⟩
  ·show p.1<Pq.ins.length/\p.2<Pq.outs.length
   rw[pk.hno,pk.hni]
   exact pk.ff.2 p (pf.mem_iff.mp hp)
def TrA (H:Hp) (t:fO) (B:Int):Prop:=X4 fun(xs:List V) (ks:List Kd) (i j:Int)=>Y6 (H t=some (.lst (xs++[.int i,.int j]))) (Ims H xs (ks.map Kd.d)) (ks.length=3) ((∀k∈ks,k.ok/\(k.sz:Int)<=j)) (1<=j) (j<=B)
def Fk (N:List fO) (H H':Hp):Prop:=Frm N H H'/\TK H H'
theorem Fk.same {N:List fO} {H H':Hp} (s:iE H H'):Fk N H H':=⟨Frm.same s,iE.tk s⟩
theorem Fk.trans {N:List fO} {H H1 H2:Hp} (a:Fk N H H1) (b:Fk N H1 H2):Fk N H H2:=⟨a.1.trans b.1,fun c xs e=>b.2 c xs (a.2 c xs e)⟩
theorem Fk.upd {N:List fO} {H:Hp} {a:fO} {xs ys:List V} (h:a∈N) (e:H a=some (.lst xs)):Fk N H (upd H a (.lst ys)):=⟨Frm.upd h,(jP e).tk⟩
theorem TrA.fk {N:List fO} {H H':Hp} {t:fO} {B:Int} (h:TrA H t B) (n:t∉N) (k:Fk N H H'):TrA H' t B:=by
 obtain⟨xs,ks,i,j,e,h1,h2,h3,h4,h5⟩:=h
 exact⟨xs,ks,i,j,k.1 _ _ e n,h1.mono k.2,h2,h3,h4,h5⟩
theorem TrA.same {H H':Hp} {t:fO} {B:Int} (h:TrA H t B) (s:iE H H'):TrA H' t B:=h.fk (N:=[]) (by simp) (Fk.same s)
theorem TrA.ex {H:Hp} {t:fO} {B:Int} (h:TrA H t B):∃o,H t=some o:=by
 obtain⟨xs,ks,i,j,e,_⟩:=h
 exact⟨_,e⟩
theorem TrA.at {H:Hp} {t:fO} {B:Int} (h:TrA H t B):∃(xs:List V) (ks:List Kd) (i j:Int),H t=some (.lst (xs++[.int i,.int j]))/\Ims H xs (ks.map Kd.d)/\ks.length=3/\(∀k∈ks,k.ok/\(k.sz:Int)<=j)/\1<=j/\j<=B/\atI (xs++[.int i,.int j]) 3=some (.int i)/\atI (xs++[.int i,.int j]) 4=some (.int j)/\∀n:Nat,n<3->∃v k,atI (xs++[.int i,.int j]) (n:Int)=some v/\Im H v k.d/\k∈ks/\ks[n]?=some k:=by
 obtain⟨xs,ks,i,j,e,h1,h2,h3,h4,h5⟩:=h
 have lx:=h1.length
 rw[aE,h2]at lx
 refine⟨xs,ks,i,j,e,h1,h2,h3,h4,h5,?_,?_,fun n hn=>?_⟩
 ·exact ic (j:=3) (by rw[aM (by lia),lx];rfl)
 ·exact ic (j:=4) (by rw[aM (by lia),lx];rfl)
 ·obtain⟨v,hv⟩:∃v,xs[n]?=some v:=⟨_,bj (by lia)⟩
  obtain⟨d,hd,im⟩:=KK.Internal.Ims.atK h1 hv
  rw[aO]at hd
  cases ek:ks[n]? with
  |none=>rw[ek]at hd;cases hd
  |some k=>
   rw[ek]at hd
   cases hd
   exact⟨v,k,ic (by rw[aN (by lia)];exact hv),im,aP ek,rfl⟩
def lsK:List Kd:=[.any,.num,.rcd .nil,.ch .nil]
theorem HA:∀k∈lsK,k.ok/\k.sz=1:=by
 intro k hk
 simp only[lsK,aj,bo,or_false]at hk
 rcases hk with rfl|rfl|rfl|rfl<;>simp[Kd.ok,Kds.ok,Kds.toL,Kd.sz,Kds.sz]
theorem BF {H:Hp} {t1 t2 t3 t4 t5 t6 l0:fO} (h1:H t1=none) (h2:(upd H t1 (.tup [.str "any"])) t2=none) (h3:(upd (upd H t1 (.tup [.str "any"])) t2 (.tup [.str "num"])) t3=none)
  (h4:(upd (upd (upd H t1 (.tup [.str "any"])) t2 (.tup [.str "num"])) t3 (.tup [])) t4=none) (h5:(upd (upd (upd (upd H t1 (.tup [.str "any"])) t2 (.tup [.str "num"])) t3 (.tup [])) t4 (.tup [.str "rec",.ref t3])) t5=none)
  (h6:(upd (upd (upd (upd (upd H t1 (.tup [.str "any"])) t2 (.tup [.str "num"])) t3 (.tup [])) t4 (.tup [.str "rec",.ref t3])) t5 (.tup [])) t6=none)
  (h0:(upd (upd (upd (upd (upd (upd H t1 (.tup [.str "any"])) t2 (.tup [.str "num"])) t3 (.tup [])) t4 (.tup [.str "rec",.ref t3])) t5 (.tup [])) t6 (.tup [.str "choice",.ref t5])) l0=none):
  iE H (upd (upd (upd (upd (upd (upd (upd H t1 (.tup [.str "any"])) t2 (.tup [.str "num"])) t3 (.tup [])) t4 (.tup [.str "rec",.ref t3])) t5 (.tup [])) t6 (.tup [.str "choice",.ref t5])) l0 (.lst [.ref t1,.ref t2,.ref t4,.ref t6]))/\
  Ims (upd (upd (upd (upd (upd (upd (upd H t1 (.tup [.str "any"])) t2 (.tup [.str "num"])) t3 (.tup [])) t4 (.tup [.str "rec",.ref t3])) t5 (.tup [])) t6 (.tup [.str "choice",.ref t5])) l0 (.lst [.ref t1,.ref t2,.ref t4,.ref t6])) [.ref t1,.ref t2,.ref t4,.ref t6] (lsK.map Kd.d):=by
 have i1:=iI (ds:=[sD "any"]) h1 (.cons (.flat rfl) .nil)
 have S1:=gZ h1 (.tup [.str "any"])
 generalize upd H t1 (.tup [.str "any"])=H1 at*
 have i2:=iI (ds:=[sD "num"]) h2 (.cons (.flat rfl) .nil)
 have S2:=gZ h2 (.tup [.str "num"])
 generalize upd H1 t2 (.tup [.str "num"])=H2 at*
 have i3:=iI (ds:=[]) h3 .nil
 have S3:=gZ h3 (.tup [])
 generalize upd H2 t3 (.tup [])=H3 at*
 have i4:=iI (ds:=[sD "rec",.tup []]) h4 (.cons (.flat rfl) (.cons i3 .nil))
 have S4:=gZ h4 (.tup [.str "rec",.ref t3])
 generalize upd H3 t4 (.tup [.str "rec",.ref t3])=H4 at*
 have i5:=iI (ds:=[]) h5 .nil
 have S5:=gZ h5 (.tup [])
 generalize upd H4 t5 (.tup [])=H5 at*
 have i6:=iI (ds:=[sD "choice",.tup []]) h6 (.cons (.flat rfl) (.cons i5 .nil))
 have S6:=gZ h6 (.tup [.str "choice",.ref t5])
 generalize upd H5 t6 (.tup [.str "choice",.ref t5])=H6 at*
 have S7:=gZ h0 (.lst [.ref t1,.ref t2,.ref t4,.ref t6])
 have A:=((((S2.trans S3).trans S4).trans S5).trans S6).trans S7
 refine⟨S1.trans A,?_⟩
 rw[show lsK.map Kd.d=[.tup [sD "any"],.tup [sD "num"],.tup [sD "rec",.tup []],.tup [sD "choice",.tup []]] by simp[lsK,Kd.d,Kds.ds]]
 exact .cons (i1.mono (iE.tk A)) (.cons (i2.mono (iE.tk ((((S3.trans S4).trans S5).trans S6).trans S7))) (.cons (i4.mono (iE.tk ((S5.trans S6).trans S7))) (.cons (i6.mono (iE.tk S7)) .nil)))
def Pr (H:Hp) (v:V):Prop:=X2 fun(t:fO) (ns:List Nat)=>Y4 (v= .ref t) (H t=some (.tup (ns.map fun n:Nat=>V.int (n:Int)))) (ns.length=3) (∀n∈ns,n<4)
theorem Pr.same {H H':Hp} {v:V} (h:Pr H v) (s:iE H H'):Pr H' v:=by
 obtain⟨t,ns,e,h1,h2,h3⟩:=h
 exact⟨t,ns,e,s _ _ h1,h2,h3⟩
theorem pX {H:Hp} {t:fO} (a b c:Nat) (hb:a<4/\b<4/\c<4):Pr (upd H t (.tup [.int (a:Int),.int (b:Int),.int (c:Int)])) (.ref t):=⟨t,[a,b,c],rfl,hG,rfl,fun n hn=>by
 simp only[aj,bo,or_false]at hn
 rcases hn with rfl|rfl|rfl<;>lia⟩
def FU:Sp:=fun vs H Q _=>∃c:Int,vs=[.int c]/\∀t H',iE H H'->H t=none->TrA H' t 1->Q (.ref t) H'
theorem oq (T:Txt K mg):FO P w base 1 T.d15 FU:=by
 refine T.d15.F.rd nV fun cdv A outer s H vs Q E hr h=>?_
 obtain⟨c,rfl,q⟩:=h
 refine⟨_,(hW (pS (i:=1) nV.nd (iZ (gY (iF (gY iC hI)) (gY (iF (gY iC hI)) (gY (iF (gY iC (gY (iF hI) hI))) (gY (iF (gY iC (gY (iF hI) hI))) hI))))))
  (hW (pS (i:=2) nV.nd (iZ (gY (iF (gY hV (gY hV (gY hV hI)))) (gY (iF (gY hV (gY hV (gY hV hI)))) (gY (iF (gY hV (gY hV (gY hV hI)))) (gY (iF (gY hV (gY hV (gY hV hI)))) (gY (iF (gY hV (gY hV (gY hV hI)))) (gY (iF (gY hV (gY hV (gY hV hI)))) (gY (iF (gY hV (gY hV (gY hV hI)))) (gY (iF (gY hV (gY hV (gY hV hI)))) (gY (iF (gY hV (gY hV (gY hV hI)))) hI)))))))))))
  (hZ (iH (iK qE (qf rfl (zB (x:="_law_k") ["_law_least"] [("_law_least",1,s.heap.objs.size+ 1)]) (lE (iq iG (cv 2) (iK ji (cv 0) hV))) (fun _ _ _ _ _=>jL) (fun _ _ _ _ _=>(iq iG (cv 1) (cv 0)))) (iZ (gY hV (gY hV hI)))))))),?_⟩
 have sl:=fZ
 refine⟨vd,fun t1 h1=>⟨vd,fun t2 h2=>⟨sr,fun t3 h3=>⟨jM,fun t4 h4=>⟨sr,fun t5 h5=>⟨jM,fun t6 h6=>⟨Ju,fun l0 h0=>?_⟩⟩⟩⟩⟩⟩⟩
 obtain⟨S0,I0⟩:=BF h1 h2 h3 h4 h5 h6 h0
 have e0:=hG (H:=(upd (upd (upd (upd (upd (upd H t1 (.tup [.str "any"])) t2 (.tup [.str "num"])) t3 (.tup [])) t4 (.tup [.str "rec",.ref t3])) t5 (.tup [])) t6 (.tup [.str "choice",.ref t5]))) (a:=l0) (o:= .lst [.ref t1,.ref t2,.ref t4,.ref t6])
 generalize upd (upd (upd (upd (upd (upd (upd H t1 (.tup [.str "any"])) t2 (.tup [.str "num"])) t3 (.tup [])) t4 (.tup [.str "rec",.ref t3])) t5 (.tup [])) t6 (.tup [.str "choice",.ref t5])) l0 (.lst [.ref t1,.ref t2,.ref t4,.ref t6])=H0 at S0 I0 e0⊢
 generalize[V.ref t1,.ref t2,.ref t4,.ref t6]=xs0 at I0 e0⊢
 have x4:xs0.length=4:=I0.length
 clear h1 h2 h3 h4 h5 h6 h0
 dsimp only[iO]
 refine⟨sW,fun r1 g1=>⟨sW,fun r2 g2=>⟨sW,fun r3 g3=>⟨sW,fun r4 g4=>⟨sW,fun r5 g5=>⟨sW,fun r6 g6=>⟨sW,fun r7 g7=>⟨sW,fun r8 g8=>⟨sW,fun r9 g9=>⟨zln9,fun rl grl=>?_⟩⟩⟩⟩⟩⟩⟩⟩⟩⟩
 have k1:=gZ g1 (.tup [.int 1,.int 1,.int 1])
 have p1:Pr (upd H0 r1 (.tup [.int 1,.int 1,.int 1])) (.ref r1):=pX 1 1 1 (by decide)
 generalize upd H0 r1 (.tup [.int 1,.int 1,.int 1])=M1 at*
 have k2:=gZ g2 (.tup [.int 2,.int 2,.int 2])
 have p2:Pr (upd M1 r2 (.tup [.int 2,.int 2,.int 2])) (.ref r2):=pX 2 2 2 (by decide)
 generalize upd M1 r2 (.tup [.int 2,.int 2,.int 2])=M2 at*
 have k3:=gZ g3 (.tup [.int 3,.int 1,.int 0])
 have p3:Pr (upd M2 r3 (.tup [.int 3,.int 1,.int 0])) (.ref r3):=pX 3 1 0 (by decide)
 generalize upd M2 r3 (.tup [.int 3,.int 1,.int 0])=M3 at*
 have k4:=gZ g4 (.tup [.int 3,.int 3,.int 2])
 have p4:Pr (upd M3 r4 (.tup [.int 3,.int 3,.int 2])) (.ref r4):=pX 3 3 2 (by decide)
 generalize upd M3 r4 (.tup [.int 3,.int 3,.int 2])=M4 at*
 have k5:=gZ g5 (.tup [.int 1,.int 1,.int 0])
 have p5:Pr (upd M4 r5 (.tup [.int 1,.int 1,.int 0])) (.ref r5):=pX 1 1 0 (by decide)
 generalize upd M4 r5 (.tup [.int 1,.int 1,.int 0])=M5 at*
 have k6:=gZ g6 (.tup [.int 0,.int 0,.int 0])
 have p6:Pr (upd M5 r6 (.tup [.int 0,.int 0,.int 0])) (.ref r6):=pX 0 0 0 (by decide)
 generalize upd M5 r6 (.tup [.int 0,.int 0,.int 0])=M6 at*
 have k7:=gZ g7 (.tup [.int 3,.int 3,.int 3])
 have p7:Pr (upd M6 r7 (.tup [.int 3,.int 3,.int 3])) (.ref r7):=pX 3 3 3 (by decide)
 generalize upd M6 r7 (.tup [.int 3,.int 3,.int 3])=M7 at*
 have k8:=gZ g8 (.tup [.int 3,.int 2,.int 0])
 have p8:Pr (upd M7 r8 (.tup [.int 3,.int 2,.int 0])) (.ref r8):=pX 3 2 0 (by decide)
 generalize upd M7 r8 (.tup [.int 3,.int 2,.int 0])=M8 at*
 have k9:=gZ g9 (.tup [.int 1,.int 2,.int 3])
 have p9:Pr (upd M8 r9 (.tup [.int 1,.int 2,.int 3])) (.ref r9):=pX 1 2 3 (by decide)
 generalize upd M8 r9 (.tup [.int 1,.int 2,.int 3])=M9 at*
 have k10:=gZ grl (.lst [.ref r1,.ref r2,.ref r3,.ref r4,.ref r5,.ref r6,.ref r7,.ref r8,.ref r9])
 have erl:(upd M9 rl (.lst [.ref r1,.ref r2,.ref r3,.ref r4,.ref r5,.ref r6,.ref r7,.ref r8,.ref r9])) rl=some (.lst [.ref r1,.ref r2,.ref r3,.ref r4,.ref r5,.ref r6,.ref r7,.ref r8,.ref r9]):=hG
 generalize upd M9 rl (.lst [.ref r1,.ref r2,.ref r3,.ref r4,.ref r5,.ref r6,.ref r7,.ref r8,.ref r9])=M10 at*
 have z8:=k9.trans k10
 have z7:=k8.trans z8
 have z6:=k7.trans z7
 have z5:=k6.trans z6
 have z4:=k5.trans z5
 have z3:=k4.trans z4
 have z2:=k3.trans z3
 have z1:=k2.trans z2
 have S1:iE H0 M10:=k1.trans z1
 have hp:∀v∈([V.ref r1,V.ref r2,V.ref r3,V.ref r4,V.ref r5,V.ref r6,V.ref r7,V.ref r8,V.ref r9]:List V),Pr M10 v:=fun v hv=>by
  simp only[aj,bo,or_false]at hv
  rcases hv with rfl|rfl|rfl|rfl|rfl|rfl|rfl|rfl|rfl
  ·exact p1.same z1
  ·exact p2.same z2
  ·exact p3.same z3
  ·exact p4.same z4
  ·exact p5.same z5
  ·exact p6.same z6
  ·exact p7.same z7
  ·exact p8.same z8
  ·exact p9.same k10
 clear p1 p2 p3 p4 p5 p6 p7 p8 p9 g1 g2 g3 g4 g5 g6 g7 g8 g9 grl z1 z2 z3 z4 z5 z6 z7 z8 k1 k2 k3 k4 k5 k6 k7 k8 k9 k10
 refine⟨(by show(0:Int)<9;decide),_,erl,?_⟩
 obtain⟨v,av,mv⟩:=vE ([V.ref r1,V.ref r2,V.ref r3,V.ref r4,V.ref r5,V.ref r6,V.ref r7,V.ref r8,V.ref r9]:List V) (c%9) (fc _ (by decide)) (fj _ (by decide))
 obtain⟨t,ns,rfl,et,ln,hn⟩:=hp v mv
 refine ig av ⟨t,rfl,⟨_,SqT.of et⟩,fun D hD=>?_⟩
 have I1:=I0.mono (iE.tk S1)
 have e1:=S1 _ _ e0
 refine my (ns.map fun n:Nat=>V.int (n:Int)).length (by rw[aE];lia) (fun xs H=>∃ks:List Kd,Ims H xs (ks.map Kd.d)/\∀k∈ks,k∈lsK) (fun xs H H' ⟨ks,h1,h2⟩ k=>⟨ks,h1.mono k,h2⟩) hD rfl (fun k H S hk=>xU et S hk) (fun H S=>xV et S) ⟨[],.nil,fun k hk=>by simp at hk⟩ ?_ ?_
 ·rintro k H2 v H3 xs Z S2 hk ⟨rfl,hv⟩ ⟨ks,h1,h2⟩ hl z
  have hv2:=hv _ (SqT.of (S2 _ _ et))
  rw[aO]at hv2
  cases e:ns[k]? with
  |none=>rw[e]at hv2;cases hv2
  |some m=>
   rw[e]at hv2
   cases hv2
   have hm:=hn m (aP e)
   obtain⟨x,hx⟩:∃x,xs0[m]?=some x:=⟨_,bj (by lia)⟩
   obtain⟨d,hd,im⟩:=KK.Internal.Ims.atK (I1.mono (iE.tk S2)) hx
   rw[aO]at hd
   cases ek:lsK[m]? with
   |none=>rw[ek]at hd;cases hd
   |some kk=>
    rw[ek]at hd
    cases hd
    refine⟨_,S2 _ _ e1,ig (ic hx) (z _ _ (iE.refl _) ⟨ks++[kk],?_,fun y hy=>?_⟩)⟩
    ·rw[bB]
     exact h1.app (.cons im .nil)
    ·rcases ak.mp hy with hy|hy
     ·exact h2 y hy
     ·rw[bh.mp hy]
      exact aP ek
 ·rintro H2 xs S2 ⟨ks,h1,h2⟩ hl eD
  rw[aE]at hl
  have lk:=h1.length
  rw[aE]at lk
  refine⟨jM,fun p hp2=>?_⟩
  have s3:=gZ hp2 (.lst [.int 1,.int 1])
  refine⟨D,p,xs,_,rfl,rfl,s3 _ _ eD,hG,(by show xs.length+ 2<=fY;lia),fun f hf=>?_⟩
  have s4:=gZ hf (.lst (xs++[.int 1,.int 1]))
  refine q f _ (((S0.trans S1).trans S2).trans (s3.trans s4)) (((S0.trans S1).trans (S2.trans s3)).free hf) ⟨xs,ks,1,1,hG,h1.mono (iE.tk (s3.trans s4)),by lia,fun k hk=>?_,by decide,by decide⟩
  obtain⟨o,z⟩:=HA k (h2 k hk)
  exact⟨o,by rw[z];decide⟩
def Stk (H:Hp) (st:fO) (N:List fO) (n:Nat):Prop:=∃xs,Y3 (H st=some (.lst xs)) (xs.length<=n) (∀v∈xs,∃t,v= .ref t/\t∉N/\TrA H t 10)
theorem Stk.same {H H':Hp} {st:fO} {N:List fO} {n:Nat} (h:Stk H st N n) (s:iE H H'):Stk H' st N n:=by
 obtain⟨xs,e,l,f⟩:=h
 exact⟨xs,s _ _ e,l,fun v hv=>let⟨t,h1,h2,h3⟩:=f v hv;⟨t,h1,h2,h3.same s⟩⟩
theorem Stk.more {H:Hp} {st a:fO} {N:List fO} {n:Nat} (h:Stk H st N n) (ha:H a=none):Stk H st (a::N) n:=by
 obtain⟨xs,e,l,f⟩:=h
 refine⟨xs,e,l,fun v hv=>?_⟩
 obtain⟨t,h1,h2,h3⟩:=f v hv
 obtain⟨o,eo⟩:=h3.ex
 exact⟨t,h1,fun z=>(aj.mp z).elim (ie eo ha) h2,h3⟩
theorem Stk.less {H:Hp} {st:fO} {N M:List fO} {n:Nat} (h:Stk H st N n) (s:∀a∈M,a∈N):Stk H st M n:=by
 obtain⟨xs,e,l,f⟩:=h
 exact⟨xs,e,l,fun v hv=>let⟨t,h1,h2,h3⟩:=f v hv;⟨t,h1,fun z=>h2 (s t z),h3⟩⟩
theorem Stk.put {H:Hp} {st a:fO} {N:List fO} {n:Nat} {xs ys:List V} (h:Stk H st N n) (ha:a∈N) (e:H a=some (.lst xs)) (ns:st≠a):Stk (upd H a (.lst ys)) st N n:=by
 obtain⟨zs,e2,l,f⟩:=h
 exact⟨zs,by rw[hX ns];exact e2,l,fun v hv=>let⟨t,h1,h2,h3⟩:=f v hv;⟨t,h1,h2,h3.fk h2 (Fk.upd ha e)⟩⟩
def HC:Sp:=fun vs H Q _=>X3 fun(st:fO) (N:List fO) (n:Nat)=>Y5 (vs=[.ref st]) (Stk H st N n) (st∈N) ((∀a∈N,∃o,H a=some o)) (∀t H',Fk [st] H H'->Stk H' st N n->t∉N->TrA H' t 10->Q (.ref t) H')
theorem sj (T:Txt K mg):FO P w base 2 T.d16 HC:=by
 have gD15:=oq (P:=P) (w:=w) (base:=base) T
 refine T.d16.F.rd xc fun cdv A outer s H vs Q E hr h=>?_
 obtain⟨st,N,n,rfl,hs,hm,hN,q⟩:=h
 refine⟨_,(hW (iY (iw jc (iN iP rfl T.z_len jO (gY (cv 0) hI)) hV)
   (hZ (iH (pF T.d15 gD15 hr.m (gY hV hI))))
   iM)
  (hZ (iH (xQ eI eN eO DK (cv 0))))),?_⟩
 obtain⟨xs,e,l,f⟩:=id hs
 refine⟨st,_,rfl,.inl (SqL.of e),?_⟩
 dsimp only[tC,cEq,onB]
 by_cases h0:xs.length=0
 ·rw[show(false ^^ decide (((xs.length:Nat):Int)=0))=true from by rw[jJ (by lia)];rfl]
  refine mj ⟨0,rfl,fun t H' S ht tr=>?_⟩
  refine q t H' (Fk.same S) (hs.same S) (fun hN'=>?_) ?_
  ·obtain⟨o,eo⟩:=hN t hN'
   rw[ht]at eo
   cases eo
  ·obtain⟨a,b,c,d,h1,h2,h3,h4,h5,h6⟩:=tr
   exact⟨a,b,c,d,h1,h2,h3,h4,h5,by lia⟩
 ·rw[show(false ^^ decide (((xs.length:Nat):Int)=0))=false from by rw[jR (by lia)];rfl]
  obtain⟨v,hv⟩:∃v,xs[xs.length-1]?=some v:=⟨_,bj (by lia)⟩
  refine lD ⟨.inl ⟨rfl,_,SqL.of e⟩,st,xs,v,rfl,rfl,e,hv,?_⟩
  obtain⟨t,rfl,nt,tr⟩:=f v (aP hv)
  have k:=Fk.upd (N:=[st]) (ys:=xs.dropLast) (bh.mpr rfl) e
  have out:∀{t:fO},t∉N->t∉[st]:=fun h z=>h (by rw[bh.mp z];exact hm)
  refine q t _ k ⟨xs.dropLast,hG,by rw[aZ];lia,fun v hv=>?_⟩ nt (tr.fk (out nt) k)
  obtain⟨t',h1,h2,h3⟩:=f v (List.dropLast_subset _ hv)
  exact⟨t',h1,h2,h3.fk (out h2) k⟩
theorem Wd.same {H H':Hp} {l:fO} (h:Wd H l) (S:iE H H'):Wd H' l:=by
 obtain⟨ws,e,n,n1,n2⟩:=h
 exact⟨ws,S l _ e,n,n1,n2⟩
def wat (ws:List Str) (i:Int):Str:=ws.getD (i%16).toNat ""
theorem FV {ws:List Str} (h:∀x∈ws,x.length<=300) (i:Int):(wat ws i).length<=300:=by
 unfold wat
 rw[br]
 cases e:ws[(i%16).toNat]? with
 |none=>exact cC _
 |some x=>exact h x (aP e)
theorem HD {ws:List Str} (n:ws.length=16) (i:Int):atI (ws.map V.str) (i%16)=some (.str (wat ws i)):=by
 have h0:=fc i (show(16:Int)≠0 by decide)
 have h1:=fj i (show(0:Int)<16 by decide)
 obtain⟨r,er⟩:∃r:Nat,i%16=(r:Int):=⟨_,(ft h0).symm⟩
 rw[wat,er,eZ]
 refine ic (j:=r) ?_
 have hr:r<ws.length:=by lia
 rw[aO,br,bj hr]
 rfl
theorem HE {ws:List Str} (n:ws.length=16) (nd:ws.Nodup) {i j:Int} (h:i%16≠j%16):wat ws i≠wat ws j:=by
 have h0:=fc i (show(16:Int)≠0 by decide)
 have h1:=fj i (show(0:Int)<16 by decide)
 have g0:=fc j (show(16:Int)≠0 by decide)
 have g1:=fj j (show(0:Int)<16 by decide)
 have hi:(i%16).toNat<ws.length:=by lia
 have hj:(j%16).toNat<ws.length:=by lia
 rw[wat,wat,br,br,bj hi,bj hj]
 have key:=List.pairwise_iff_getElem.mp nd
 rcases Nat.lt_or_gt_of_ne (show(i%16).toNat≠(j%16).toNat by lia)with z|z
 ·exact key _ _ hi hj z
 ·exact(key _ _ hj hi z).symm
def kys (ws:List Str) (a b:Int) (n:Nat):List Str:=(aa n).map fun(k:Nat)=>wat ws (a+b*(0+(k:Int)))
theorem BG {ws:List Str} (n:ws.length=16) (nd:ws.Nodup) {a b:Int} (hb:b=1\/b=3\/b=5) {m:Nat} (hm:m<=7):(kys ws a b m).Nodup:=by
 rw[kys,List.Nodup,bP]
 refine List.Pairwise.imp_of_mem (fun{x y} hx hy hlt=>HE n nd ?_) cb
 have h1:=ae.mp hx
 have h2:=ae.mp hy
 rcases hb with z|z|z<;>subst z<;>lia
theorem Dl (ws:List Str) (a b:Int) (n:Nat):kys ws a b (n+ 1)=kys ws a b n++[wat ws (a+b*(0+(n:Int)))]:=by
 rw[kys,kys,bA,bB]
 rfl
def TrJ (H:Hp) (t:fO) (j:Int):Prop:=X3 fun(xs:List V) (ks:List Kd) (i:Int)=>Y5 (H t=some (.lst (xs++[.int i,.int j]))) (Ims H xs (ks.map Kd.d)) (ks.length=3) ((∀k∈ks,k.ok/\(k.sz:Int)<=j)) (1<=j)
theorem TrA.j {H:Hp} {t:fO} {B:Int} (h:TrA H t B):∃j,TrJ H t j/\1<=j/\j<=B:=by
 obtain⟨xs,ks,i,j,h1,h2,h3,h4,h5,h6⟩:=h
 exact⟨j,⟨xs,ks,i,h1,h2,h3,h4,h5⟩,h5,h6⟩
theorem TrJ.a {H:Hp} {t:fO} {j:Int} (h:TrJ H t j):TrA H t j:=by
 obtain⟨xs,ks,i,h1,h2,h3,h4,h5⟩:=h
 exact⟨xs,ks,i,j,h1,h2,h3,h4,h5,Int.le_refl _⟩
theorem TrJ.fk {N:List fO} {H H':Hp} {t:fO} {j:Int} (h:TrJ H t j) (n:t∉N) (k:Fk N H H'):TrJ H' t j:=by
 obtain⟨xs,ks,i,e,h1,h2,h3,h4⟩:=h
 exact⟨xs,ks,i,k.1 _ _ e n,h1.mono k.2,h2,h3,h4⟩
theorem TrJ.at {H:Hp} {t:fO} {j:Int} (h:TrJ H t j):∃(l:List V) (i:Int),H t=some (.lst l)/\atI l 3=some (.int i)/\atI l 4=some (.int j)/\∀n:Nat,n<3->∃(v:V) (k:Kd),atI l (n:Int)=some v/\Im H v k.d/\k.ok/\(k.sz:Int)<=j:=by
 obtain⟨xs,ks,i,e,h1,h2,h3,h4⟩:=h
 have lx:=h1.length
 rw[aE,h2]at lx
 refine⟨_,i,e,?_,?_,fun n hn=>?_⟩
 ·exact ic (j:=3) (by rw[aM (by lia),lx];rfl)
 ·exact ic (j:=4) (by rw[aM (by lia),lx];rfl)
 ·obtain⟨v,hv⟩:∃v,xs[n]?=some v:=⟨_,bj (by lia)⟩
  obtain⟨d,hd,im⟩:=KK.Internal.Ims.atK h1 hv
  rw[aO]at hd
  cases ek:ks[n]? with
  |none=>rw[ek]at hd;cases hd
  |some k=>
   rw[ek]at hd
   cases hd
   have:=h3 k (aP ek)
   exact⟨v,k,ic (by rw[aN (by lia)];exact hv),im,this.1,this.2⟩
def tT (H:Hp) (r:fO) (ss:List Str) (S:Int):Prop:=X2 fun(ys:List V) (l:List (Str×Kd))=>Y5 (H r=some (.lst ys)) (Ims H ys (l.map fD)) ((l.map Prod.fst).Sublist ss) ((∀p∈l,p.2.ok)) ((szL l:Int)<=S)
theorem tT.more {H:Hp} {r:fO} {ss ss':List Str} {S S':Int} (h:tT H r ss S) (h1:ss.Sublist ss') (h2:S<=S'):tT H r ss' S':=by
 obtain⟨ys,l,a,b,c,d,e⟩:=h
 exact⟨ys,l,a,b,c.trans h1,d,Int.le_trans e h2⟩
theorem tT.same {H H':Hp} {r:fO} {ss:List Str} {S:Int} (h:tT H r ss S) (s:iE H H'):tT H' r ss S:=by
 obtain⟨ys,l,a,b,c,d,e⟩:=h
 exact⟨ys,l,s _ _ a,b.mono (iE.tk s),c,d,e⟩
theorem tT.other {H:Hp} {r a:fO} {ss:List Str} {S:Int} {xs zs:List V} (h:tT H r ss S) (e:H a=some (.lst xs)) (n:r≠a):tT (upd H a (.lst zs)) r ss S:=by
 obtain⟨ys,l,h1,h2,h3,h4,h5⟩:=h
 exact⟨ys,l,by rw[hX n];exact h1,h2.mono (jP e).tk,h3,h4,h5⟩
theorem sk:∀l m:List (Str×Kd),szL (l++m)=szL l+szL m
 |[],m=>by rw[bR,szL];lia
 |p::t,m=>by rw[aU,szL,szL,sk t m];lia
theorem tT.add {H:Hp} {r:fO} {ss:List Str} {S J:Int} {ys:List V} {v:V} {x:Str} {k:Kd} (h:tT H r ss S) (e:H r=some (.lst ys)) (iv:Im H v (fD (x,k))) (ok:k.ok) (hJ:(k.sz:Int)<=J):tT (upd H r (.lst (ys++[v]))) r (ss++[x]) (S+J):=by
 obtain⟨ys',l,h1,h2,h3,h4,h5⟩:=h
 rw[e]at h1
 cases h1
 have tk:=(jP (o:= .lst (ys++[v])) e).tk
 refine⟨_,l++[(x,k)],hG,?_,?_,?_,?_⟩
 ·rw[bB]
  exact(h2.mono tk).app (.cons (iv.mono tk) .nil)
 ·rw[bB]
  exact h3.append (List.Sublist.refl _)
 ·intro p hp
  rcases ak.mp hp with hp|hp
  ·exact h4 p hp
  ·rw[bh.mp hp];exact ok
 ·rw[sk]
  simp only[szL]
  lia
theorem Dm {js:List Int} {i:Nat} {j:Int} (h:js[i]?=some j):(js.take (i+ 1)).sum=(js.take i).sum+j:=by
 rw[bE,h,bG]
 simp
theorem BH {ss:List Str} {i:Nat} {x:Str} (h:ss[i]?=some x):ss.take (i+ 1)=ss.take i++[x]:=by
 rw[bE,h]
 rfl
theorem wc:∀l:List Int,(∀n∈l,1<=n/\n<=10)->0<=l.sum/\l.sum<=10*(l.length:Int)
 |[],_=>by simp
 |x::l,h=>by
  have h1:=h x (by simp)
  have h2:=wc l fun n hn=>h n (by simp[hn])
  rw[bH,aB]
  lia
theorem Stk.fk {H H':Hp} {st:fO} {N M:List fO} {n:Nat} (h:Stk H st N n) (k:Fk M H H') (hM:∀a∈M,a∈N) (hs:st∉M):Stk H' st N n:=by
 obtain⟨xs,e,l,f⟩:=h
 exact⟨xs,k.1 _ _ e hs,l,fun v hv=>let⟨t,h1,h2,h3⟩:=f v hv;⟨t,h1,h2,h3.fk (fun z=>h2 (hM t z)) k⟩⟩
theorem _root_.BO.Internal.All2.trj {M:List fO} {H H':Hp} {l:List fO} {m:List Int} (h:All2 (TrJ H) l m) (hl:∀t∈l,t∉M) (k:Fk M H H'):All2 (TrJ H') l m:=by
 induction h with
 |nil=>exact .nil
 |cons h1 _ ih=>exact .cons (h1.fk (hl _ (by simp)) k) (ih fun t ht=>hl t (by simp[ht]))
theorem FW {js:List Int} (h:∀j∈js,1<=j/\j<=10) (i:Nat):(js.take i).sum<=(js.take (i+ 1)).sum:=by
 rw[bE,bG]
 cases e:js[i]? with
 |none=>simp
 |some j=>
  have:=h j (aP e)
  simp
  lia
def BI:Sp:=fun vs H Q _=>X6 fun(wl st:fO) (N:List fO) (n:Nat) (sh:Str) (c:Int)=>Y8 (vs=[.ref wl,.ref st,.str sh,.int c]) (Wd H wl) (wl≠st) (Stk H st N n) (st∈N) ((∀a∈N,∃o,H a=some o)) ((sh="rec"\/sh="choice")) (∀t H',Fk [st] H H'->Stk H' st N n->t∉N->TrA H' t 200->Q (.ref t) H')
theorem sV (T:Txt K mg):FO P w base 3 T.d17 BI:=by
 have gD16:=sj (P:=P) (w:=w) (base:=base) T
 have gD14:=lX (P:=P) (w:=w) (base:=base) T
 refine T.d17.F.rd je fun cdv A outer s H vs Q E hr h=>?_
 obtain⟨wl,st,N,n,sh,c,rfl,hw,nws,hs,hm,hN,hsh,q⟩:=h
 refine⟨_,(hW (pS (i:=4) je.nd (iN vK rfl T.z_sorted pK (gY (qf rfl (zB (x:="_law_k") ["_law_words_here","_law_c"] [("_law_words_here",0,s.heap.objs.size+ 1),("_law_c",3,s.heap.objs.size+ 4)]) (jS rfl T.z_range (gY (iK ji (cv 3) hV) hI)) (fun _ _ _ _ _=>jL) (fun _ _ _ _ _=>(iq iG (cv 1) (iK ji (iK kq (iK jB (cv 2) hV) (iK vG hV (cv 0))) hV)))) hI)))
  (hW (pJ (j:=5) rfl (zB (x:="_law_word") ["_law_stack"] [("_law_stack",1,s.heap.objs.size+ 2)]) (j3 (cv 4)) (fun _ _ _ _ _=>jL) (fun _ _ _ _ _=>(pF T.d16 gD16 hr.m (gY (cv 1) hI))) je.nd rfl (.inl rfl))
  (hW (pS (i:=6) je.nd (iZ (gY (iZ hI) (gY (iZ hI) (gY (iZ hI) hI)))))
  (hW (jN PassesOwn.never rfl (wH rfl T.z_enumerate (gY (cv 4) hI)) (sY rfl (ke (pN (i:=7) je.nd) (ke (pN (i:=8) je.nd) qc)))
   (hW (pS (i:=9) je.nd (iK ji (pF T.d14 gD14 hr.m (gY (cv 3) (gY (cv 7) hI))) hV))
   (hZ (jN PassesOwn.never rfl (jS rfl T.z_range (gY hV hI)) (pN (i:=10) je.nd)
    (hW (pS (i:=11) je.nd (tW (iw jc (cv 2) iC) (cv 10) (iK l9 hV (cv 10))))
    (hZ (iY (PW.pt (sC (iw jc (iK ji (cv 9) hV) hV) (oF (iw Cw (cv 11) (iK l9 hV (cv 9))))))
     (hZ (iS (lJ (ny eI eJ eK jh (PE.mono (iq iG (cv 6) (cv 10))) (gY (PE.mono (iF (gY (cv 8) (gY (iq iG (iq iG (cv 5) (cv 7)) (cv 10)) hI)))) hI)))))
     iM)))))))
  (hW (pS (i:=12) je.nd (iK kq hV (E2 rfl rfl T.z_max (gY (qf rfl (Ge (x:="_law_part") rfl iJ iJ rfl rfl) (j3 (cv 5)) (fun _ _ _ _ _=>jL) (fun _ _ _ _ _=>(iq iG (cv 0) hV))) hI) hV)))
  (hZ (iH (iK qE (qf rfl (zB (x:="_law_row") ["_law_shape"] [("_law_shape",2,s.heap.objs.size+ 3)]) (j3 (cv 6)) (fun _ _ _ _ _=>jL) (fun _ _ _ _ _=>(iF (gY (cv 1) (gY (jd (r:=A1 K) jg rfl T.z_tuple jZ (gY (cv 0) hI)) hI))))) (iZ (gY (cv 12) (gY (iK kq hV (iN (AJ rfl) rfl T.z_sum DN (gY (qf rfl (Ge (x:="_law_part") rfl iJ iJ rfl rfl) (j3 (cv 5)) (fun _ _ _ _ _=>jL) (fun _ _ _ _ _=>(iq iG (cv 0) hV))) hI))) hI))))))))))),?_⟩
 refine wm fun zn ze=>?_
 have sl:=fZ
 obtain⟨ws,ew,wn,wd,wz⟩:=id hw
 refine⟨(by show(0:Int)<7;decide),?_⟩
 have r0:=fc c (show(7:Int)≠0 by decide)
 have r1:=fj c (show(0:Int)<7 by decide)
 refine⟨_,rfl,by lia,by lia,fun D0 hD0=>?_⟩
 obtain⟨r,er⟩:∃r:Nat,c%7=(r:Int):=⟨_,(ft r0).symm⟩
 rw[er]at r1⊢
 rw[eZ]
 refine my r (by lia) (fun xs _=>xs=(kys ws (c/7) 3 xs.length).map V.str) (fun xs _ _ h _=>h) hD0 rfl (fun k H _ hk=>hk) (fun H _=>cB _) rfl ?_ ?_
 ·rintro k H2 v H3 xs Z S2 hk ⟨rfl,rfl⟩ hxs hl z
  refine⟨⟨by decide,by decide⟩,.inl ⟨by decide,by decide⟩,(by show(0:Int)<16;decide),_,S2 _ _ ew,ig (HD wn _) (z _ _ (iE.refl _) ?_)⟩
  rw[aQ,aY,Dl,bB,<-hxs,hl]
  rfl
 rintro H0 xs S0 hxs hl eD0
 have hkn:(kys ws (c/7) 3 xs.length).Nodup:=BG wn wd (.inr (.inl rfl)) (by lia)
 have hkl:(kys ws (c/7) 3 xs.length).length=xs.length:=by rw[kys,aE,b6]
 refine⟨D0,kys ws (c/7) 3 xs.length,rfl,SqL.of (by rw[<-hxs];exact eD0),by lia,fun cl ss hcl hperm hsrt=>?_⟩
 have hnd:ss.Nodup:=hperm.nodup_iff.mpr hkn
 have hso:∀x∈ss,x.length<=300:=fun x hx=>by
  obtain⟨j,_,rfl⟩:=bp.mp (hperm.mem_iff.mp hx)
  exact FV wz _
 have hsl:ss.length=r:=by rw[hperm.length_eq,hkl,hl]
 have S1:=S0.trans (gZ hcl (.lst (ss.map V.str)))
 have ecl:(upd H0 cl (.lst (ss.map V.str))) cl=some (.lst (ss.map V.str)):=hG
 dsimp only[iO]
 subst ze
 refine wm fun zn ze=>?_
 generalize upd H0 cl (.lst (ss.map V.str))=H1 at S1 ecl⊢
 clear hxs hkn hkl hperm eD0
 have hs1:=hs.same S1
 obtain⟨sx,esx,_⟩:=id hs1
 have ncs:cl≠st:=fun z=>by
  obtain⟨o,eo⟩:=hN st hm
  have:=S0 _ _ eo
  rw[<-z,hcl]at this
  cases this
 refine⟨cl,rfl,⟨_,SqL.of ecl⟩,fun D hD=>?_⟩
 have nDs:D≠st:=Ne.symm (ie esx hD)
 have hN1:∀a∈N,∃o,H1 a=some o:=fun a ha=>let⟨o,e⟩:=hN a ha;⟨o,S1 _ _ e⟩
 have base1:Stk (upd H1 D (.lst [])) st (D::N) n:=(hs1.more hD).same (gZ hD _)
 refine⟨fun k m σ' H2=>m=r-k/\k<=r/\(∃o,σ'=[o,some (.ref st)])/\Fk [st] H1 H2/\Stk H2 st (D::N) n/\(∀a∈D::N,∃o,H2 a=some o)/\∃(ts:List fO) (js:List Int),H2 D=some (.lst (ts.map V.ref))/\ts.length=k/\All2 (TrJ H2) ts js/\(∀t∈ts,t∉D::N)/\∀j∈js,1<=j/\j<=10,
  ⟨r,by simp,cC _,⟨none,rfl⟩,Fk.same (gZ hD _),base1,fun a ha=>by
   rcases aj.mp ha with rfl|ha
   ·exact⟨_,hG⟩
   ·obtain⟨o,e⟩:=hN1 a ha
    exact⟨o,gZ hD _ _ _ e⟩,[],[],hG,rfl,.nil,fun t ht=>by simp at ht,fun j hj=>by simp at hj⟩,?_⟩
 rintro k m σ' H2 ⟨rfl,hk,⟨o,rfl⟩,F2,st2,ex2,ts,js,eD2,lts,tr2,nts,bjs⟩
 by_cases hlt:k<r
 ·refine .inr ⟨⟨ss.map V.str,_,SqL.of (F2.1 _ _ ecl (by simpa using ncs)),bj (by rw[aE];lia)⟩,?_⟩
  rintro v H3 ⟨rfl,hv⟩
  refine⟨st,D::N,n,rfl,st2,ai _ hm,ex2,fun t H4 F4 st4 nt tr=>?_⟩
  have e4:=F4.1 _ _ eD2 (by simpa using nDs)
  have out:∀{t:fO},t∉D::N->t∉[st]:=fun h z=>h (ai _ (by rw[bh.mp z];exact hm))
  have Ed:∀{t:fO},t∉D::N->t∉[D]:=fun h z=>h (by rw[bh.mp z];exact ah)
  obtain⟨j,hj,bj1,bj2⟩:=tr.j
  have uD:=Fk.upd (N:=[D]) (ys:=ts.map V.ref++[.ref t]) (bh.mpr rfl) e4
  refine⟨_,e4,by rw[aE];lia,r-(k+ 1),by lia,rfl,hlt,⟨_,rfl⟩,?_,st4.put ah e4 (Ne.symm nDs),fun a ha=>?_,ts++[t],js++[j],?_,?_,?_,?_,?_⟩
  ·have F14:=F2.trans F4
   refine⟨fun a o e na=>?_,fun a xs e=>uD.2 _ _ (F14.2 _ _ e)⟩
   rw[hX (ie e hD)]
   exact F14.1 a o e na
  ·by_cases ea:a=D
   ·rw[ea];exact⟨_,hG⟩
   ·rw[hX ea]
    by_cases eb:a=st
    ·rw[eb]
     obtain⟨zs,ez,_⟩:=st4
     exact⟨_,ez⟩
    ·obtain⟨o,eo⟩:=ex2 a ha
     exact⟨o,F4.1 _ _ eo (by simpa using eb)⟩
  ·rw[hG,bB]
   rfl
  ·rw[aQ,lts];rfl
  ·refine .snoc (hj.fk (Ed nt) uD) ?_
   have go:∀{l:List fO} {m:List Int},(∀t∈l,t∉D::N)->All2 (TrJ H3) l m->All2 (TrJ (upd H4 D (.lst (ts.map V.ref++[.ref t])))) l m:=fun{l m} hl h=>by
    induction h with
    |nil=>exact .nil
    |cons h1 _ ih=>exact .cons ((h1.fk (out (hl _ (by simp))) F4).fk (Ed (hl _ (by simp))) uD) (ih fun t ht=>hl t (by simp[ht]))
   exact go nts tr2
  ·intro x hx
   rcases ak.mp hx with hx|hx
   ·exact nts x hx
   ·rw[bh.mp hx];exact nt
  ·intro x hx
   rcases ak.mp hx with hx|hx
   ·exact bjs x hx
   ·rw[bh.mp hx];exact⟨bj1,bj2⟩
 have ek:k=r:=by lia
 subst ek
 refine .inl ⟨⟨ss.map V.str,SqL.of (F2.1 _ _ ecl (by simpa using ncs)),by rw[aE];lia⟩,?_⟩
 have ecl2:=F2.1 _ _ ecl (by simpa using ncs)
 have lj:=tr2.length
 have z0:(0:Nat)<=fY:=by decide
 dsimp only[iO]
 subst ze
 refine wm fun zn ze=>?_
 refine⟨z0,fun a0 h0=>⟨z0,fun a1 h1=>⟨z0,fun a2 h2=>⟨sW,fun rl hrl=>?_⟩⟩⟩⟩
 have n01:a0≠a1:=ie (hG (H:=H2) (a:=a0) (o:= .lst [])) h1
 have n02:a0≠a2:=ie (gZ h1 (.lst []) _ _ (hG (H:=H2) (a:=a0) (o:= .lst []))) h2
 have n12:a1≠a2:=ie (hG (H:=upd H2 a0 (.lst [])) (a:=a1) (o:= .lst [])) h2
 have q1:=gZ h0 (.lst [])
 have q2:=gZ h1 (.lst [])
 have q3:=gZ h2 (.lst [])
 have q4:=gZ hrl (.lst [.ref a0,.ref a1,.ref a2])
 have f1:=q1.free h1
 have f2:=(q1.trans q2).free h2
 have S5:iE H2 _:=((q1.trans q2).trans q3).trans q4
 have ea0:(upd (upd (upd (upd H2 a0 (.lst [])) a1 (.lst [])) a2 (.lst [])) rl (.lst [.ref a0,.ref a1,.ref a2])) a0=some (.lst []):=((q2.trans q3).trans q4) _ _ hG
 have ea1:(upd (upd (upd (upd H2 a0 (.lst [])) a1 (.lst [])) a2 (.lst [])) rl (.lst [.ref a0,.ref a1,.ref a2])) a1=some (.lst []):=(q3.trans q4) _ _ hG
 have ea2:(upd (upd (upd (upd H2 a0 (.lst [])) a1 (.lst [])) a2 (.lst [])) rl (.lst [.ref a0,.ref a1,.ref a2])) a2=some (.lst []):=q4 _ _ hG
 have erl:(upd (upd (upd (upd H2 a0 (.lst [])) a1 (.lst [])) a2 (.lst [])) rl (.lst [.ref a0,.ref a1,.ref a2])) rl=some (.lst [.ref a0,.ref a1,.ref a2]):=hG
 have nrl:rl∉[a0,a1,a2]:=by
  simp only[aj,bo,or_false,not_or]
  exact⟨Ne.symm (ie ((q2.trans q3) _ _ (hG (H:=H2) (a:=a0) (o:= .lst []))) hrl),Ne.symm (ie (q3 _ _ (hG (H:=upd H2 a0 (.lst [])) (a:=a1) (o:= .lst []))) hrl),Ne.symm (ie (hG (H:=upd (upd H2 a0 (.lst [])) a1 (.lst [])) (a:=a2) (o:= .lst [])) hrl)⟩
 have old:∀{a:fO} {o:HO},H2 a=some o->a∉[a0,a1,a2]:=fun{a o} e=>by
  simp only[aj,bo,or_false,not_or]
  exact⟨ie e h0,ie e f1,ie e f2⟩
 dsimp only[iO]
 subst ze
 refine wm fun zn ze=>?_
 generalize upd (upd (upd (upd H2 a0 (.lst [])) a1 (.lst [])) a2 (.lst [])) rl (.lst [.ref a0,.ref a1,.ref a2])=H5 at S5 ea0 ea1 ea2 erl⊢
 have tr5:All2 (TrJ H5) ts js:=tr2.trj (M:=[]) (fun t _=>by simp) (Fk.same S5)
 have tsR:∀t∈ts,t∉[a0,a1,a2]:=fun t ht=>by
  obtain⟨i',hi'⟩:=bN.mp ht
  obtain⟨j,_,hj⟩:=tr2.get hi'
  obtain⟨o,eo⟩:=hj.a.ex
  exact old eo
 have eD5:=S5 _ _ eD2
 have ecl5:=S5 _ _ ecl2
 have row0:∀(idx:Nat) (a:fO),[a0,a1,a2][idx]?=some a->tT H5 a [] 0:=fun idx a h=>by
  have mk:∀{a:fO},H5 a=some (.lst [])->tT H5 a [] 0:=fun e=>⟨[],[],e,.nil,List.Sublist.refl _,fun p hp=>by simp at hp,by simp[szL]⟩
  match idx,h with
  |0,h=>cases h;exact mk ea0
  |1,h=>cases h;exact mk ea1
  |2,h=>cases h;exact mk ea2
 have R3:∀{idx:Nat} {a:fO},[a0,a1,a2][idx]?=some a->idx<3:=fun{idx a} h=>(aq.mp h).1
 have Rne:∀{i' j':Nat} {a b:fO},[a0,a1,a2][i']?=some a->[a0,a1,a2][j']?=some b->i'≠j'->a≠b:=fun{i' j' a b} h1 h2 hne=>by
  have:=R3 h1
  have:=R3 h2
  match i',j',h1,h2 with
  |0,1,h1,h2=>cases h1;cases h2;exact n01
  |0,2,h1,h2=>cases h1;cases h2;exact n02
  |1,0,h1,h2=>cases h1;cases h2;exact Ne.symm n01
  |1,2,h1,h2=>cases h1;cases h2;exact n12
  |2,0,h1,h2=>cases h1;cases h2;exact Ne.symm n02
  |2,1,h1,h2=>cases h1;cases h2;exact Ne.symm n12
  |0,0,_,_=>exact absurd rfl hne
  |1,1,_,_=>exact absurd rfl hne
  |2,2,_,_=>exact absurd rfl hne
 refine⟨cl,rfl,⟨_,SqL.of ecl5⟩,uS (xs:=ss.map V.str) (fun i σ H6=>∃(o7 o8 o9 o10 o11:Option V),σ=[some (.ref wl),some (.ref st),some (.str sh),some (.int c),some (.ref cl),some (.ref D),some (.ref rl),o7,o8,o9,o10,o11,none]/\Fk [a0,a1,a2] H5 H6/\∀(idx:Nat) (a:fO),[a0,a1,a2][idx]?=some a->tT H6 a (ss.take i) (js.take i).sum)
  ⟨none,none,none,none,none,rfl,Fk.same (iE.refl _),fun idx a h=>by rw[bT,bT];exact row0 idx a h⟩ (fun i σ H6 _ ⟨_,_,_,_,_,_,F,_⟩=>SqL.of (F.1 _ _ ecl5 (old ecl2))) ?_ ?_⟩
 ·rintro i v σ H6 tt hv ⟨o7,o8,o9,o10,o11,rfl,F6,hrow⟩ htt
  obtain⟨x,hx,rfl⟩:∃x,ss[i]?=some x/\v= .str x:=by
   rw[aO]at hv
   cases e:ss[i]? with
   |none=>rw[e]at hv;cases hv
   |some x=>rw[e]at hv;cases hv;exact⟨x,rfl,rfl⟩
  have hi:=(aq.mp hx).1
  have sT:=gZ htt (.tup [.int (i:Int),.str x])
  refine⟨tt,_,rfl,SqT.of hG,rfl,_,_,rfl,_,_,rfl,rfl,?_⟩
  have F7:=F6.trans (Fk.same sT)
  have hrow7:∀(idx:Nat) (a:fO),[a0,a1,a2][idx]?=some a->tT (upd H6 tt (.tup [.int (i:Int),.str x])) a (ss.take i) (js.take i).sum:=fun idx a h=>(hrow idx a h).same sT
  generalize upd H6 tt (.tup [.int (i:Int),.str x])=H7 at F7 hrow7⊢
  obtain⟨t,ht⟩:∃t,ts[i]?=some t:=⟨_,bj (by lia)⟩
  obtain⟨j,hj,trj⟩:=tr5.get ht
  have ntR:=tsR t (aP ht)
  refine⟨c,(i:Int),rfl,by lia,by lia,fun lv0 _ _=>⟨(by show(0:Int)<4;decide),?_⟩⟩
  dsimp only[iO]
  generalize lv0%4=lv
  refine⟨3,rfl,by decide,by decide,ra (fun jj σ H8=>∃(o10 o11:Option V),σ=[some (.ref wl),some (.ref st),some (.str sh),some (.int c),some (.ref cl),some (.ref D),some (.ref rl),some (.int (i:Int)),some (.str x),some (.int lv),o10,o11,none]/\Fk [a0,a1,a2] H5 H8/\∀(idx:Nat) (a:fO),[a0,a1,a2][idx]?=some a->tT H8 a (if idx<jj then ss.take (i+ 1)else ss.take i) (if idx<jj then(js.take (i+ 1)).sum else(js.take i).sum))
   ⟨_,_,rfl,F7,fun idx a h=>by rw[iT (cK _),iT (cK _)];exact hrow7 idx a h⟩ ?_ ?_⟩
  ·rintro jj σ H8 hjj ⟨o10,o11,rfl,F8,hrow8⟩
   have hjj3:jj<3:=hjj
   obtain⟨a,ha⟩:∃a,[a0,a1,a2][jj]?=some a:=⟨_,bj hjj3⟩
   have harl:atI [V.ref a0,.ref a1,.ref a2] (0+(jj:Int))=some (.ref a):=by
    rw[fw]
    refine ic ?_
    have:=congrArg (Option.map V.ref) ha
    rw[<-aO]at this
    exact this
   have erl8:=F8.1 _ _ erl nrl
   have eD8:=F8.1 _ _ eD5 (old eD2)
   obtain⟨tl,ti,et,_,_,hat⟩:=(trj.fk ntR F8).at
   obtain⟨pv,pk,hpv,ipv,okp,szp'⟩:=hat jj hjj3
   have hra:=hrow8 jj a ha
   rw[iT (cw _),iT (cw _)]at hra
   obtain⟨ys,ll,ey,iy,sub,_,_⟩:=id hra
   have lys:ys.length<=6:=by
    have h7:=iy.length
    rw[aE]at h7
    have h8:=sub.length_le
    rw[aE,aK]at h8
    lia
   have nxt0:Fk [a0,a1,a2] H5 H8/\∀(idx:Nat) (a:fO),[a0,a1,a2][idx]?=some a->tT H8 a (if idx<jj+ 1 then ss.take (i+ 1)else ss.take i) (if idx<jj+ 1 then(js.take (i+ 1)).sum else(js.take i).sum):=by
    refine⟨F8,fun idx a' h=>?_⟩
    have h9:=hrow8 idx a' h
    by_cases e:idx=jj
    ·rw[e]at h9⊢
     rw[iT (cw _),iT (cw _)]at h9
     rw[ja (cE _),ja (cE _)]
     exact h9.more (by rw[BH hx];exact List.sublist_append_left _ _) (FW bjs i)
    ·by_cases e2:idx<jj
     ·rw[ja e2,ja e2]at h9
      rw[ja (by lia),ja (by lia)]
      exact h9
     ·rw[iT e2,iT e2]at h9
      rw[iT (by lia),iT (by lia)]
      exact h9
   have nxt1:∀t2,H8 t2=none->Fk [a0,a1,a2] H5 (upd (upd H8 t2 (.tup [.str x,pv])) a (.lst (ys++[.ref t2])))/\∀(idx:Nat) (a':fO),[a0,a1,a2][idx]?=some a'->tT (upd (upd H8 t2 (.tup [.str x,pv])) a (.lst (ys++[.ref t2]))) a' (if idx<jj+ 1 then ss.take (i+ 1)else ss.take i) (if idx<jj+ 1 then(js.take (i+ 1)).sum else(js.take i).sum):=fun t2 h2'=>by
    have s9:=gZ h2' (.tup [.str x,pv])
    have i9:=iI (ds:=[sD x,pk.d]) h2' (.cons (.flat rfl) (.cons ipv .nil))
    have ey9:=s9 _ _ ey
    refine⟨(F8.trans (Fk.same s9)).trans (Fk.upd (aP ha) ey9),fun idx a' h=>?_⟩
    by_cases e:idx=jj
    ·subst e
     rw[ha]at h
     cases h
     rw[ja (cE _),ja (cE _),BH hx,Dm hj]
     exact(hra.same s9).add (x:=x) (k:=pk) ey9 i9 okp szp'
    ·have h9:=((hrow8 idx a' h).same s9).other (zs:=ys++[.ref t2]) ey9 (Rne h ha e)
     by_cases e2:idx<jj
     ·rw[ja e2,ja e2]at h9
      rw[ja (by lia),ja (by lia)]
      exact h9
     ·rw[iT e2,iT e2]at h9
      rw[iT (by lia),iT (by lia)]
      exact h9
   have hati:atI (ts.map V.ref) (i:Int)=some (.ref t):=ic (by rw[aO,ht];rfl)
   have hpv':atI tl (0+(jj:Int))=some pv:=by rw[fw];exact hpv
   dsimp only[tC,cEq,onB]
   refine sE (fun _=>?_) (fun _=>?_)
   ·refine⟨(by show(0:Int)<3;decide),sE (fun _=>mj ?_) (fun _=>sE (fun _=>?_) (fun _=>?_))⟩
    ·refine⟨_,erl8,ig harl ⟨⟨_,ey⟩,_,eD8,ig hati ⟨_,et,ig hpv' ⟨jM,fun t2 h2'=>⟨ys,gZ h2' _ _ _ ey,by lia,_,_,rfl,nxt1 t2 h2'⟩⟩⟩⟩⟩
    ·refine⟨_,erl8,ig harl ⟨⟨_,ey⟩,_,eD8,ig hati ⟨_,et,ig hpv' ⟨jM,fun t2 h2'=>⟨ys,gZ h2' _ _ _ ey,by lia,_,_,rfl,nxt1 t2 h2'⟩⟩⟩⟩⟩
    ·exact⟨_,_,rfl,nxt0⟩
   ·refine⟨(by show(0:Int)<3;decide),sE (fun _=>mj ?_) (fun _=>sE (fun _=>?_) (fun _=>?_))⟩
    ·refine⟨_,erl8,ig harl ⟨⟨_,ey⟩,_,eD8,ig hati ⟨_,et,ig hpv' ⟨jM,fun t2 h2'=>⟨ys,gZ h2' _ _ _ ey,by lia,_,_,rfl,nxt1 t2 h2'⟩⟩⟩⟩⟩
    ·refine⟨_,erl8,ig harl ⟨⟨_,ey⟩,_,eD8,ig hati ⟨_,et,ig hpv' ⟨jM,fun t2 h2'=>⟨ys,gZ h2' _ _ _ ey,by lia,_,_,rfl,nxt1 t2 h2'⟩⟩⟩⟩⟩
    ·exact⟨_,_,rfl,nxt0⟩
  ·rintro σ H8 ⟨o10',o11',rfl,F8,hrow8⟩
   refine⟨_,_,_,_,_,rfl,F8,fun idx a h=>?_⟩
   have h9:=hrow8 idx a h
   rw[ja (show idx<(3:Int).toNat from R3 h),ja (show idx<(3:Int).toNat from R3 h)]at h9
   exact h9
 rintro σ H6 ⟨o7,o8,o9,o10,o11,rfl,F6,hrow⟩
 rw[aE,bJ]at hrow
 have ljs:js.take ss.length=js:=cj (by lia)
 rw[ljs]at hrow
 have eD6:=F6.1 _ _ eD5 (old eD2)
 have erl6:=F6.1 _ _ erl nrl
 have tr6:=tr5.trj tsR F6
 have hsum:=wc js bjs
 dsimp only[oA]
 subst ze
 refine wm fun zn ze=>?_
 refine⟨D,rfl,⟨_,SqL.of eD6⟩,fun D3 hD3=>?_⟩
 refine my (ts.map V.ref).length (by rw[aE];lia) (fun xs _=>∃is:List Int,xs=is.map V.int) (fun xs _ _ h _=>h) hD3 rfl (fun k H S hk=>tH eD6 S hk) (fun H S=>tI eD6 S) ⟨[],rfl⟩ ?_ ?_
 ·rintro k' H7 v H8 xs Z S7 hk' ⟨rfl,hv⟩ ⟨is,rfl⟩ hl' z
  have hv2:=hv _ (SqL.of (S7 _ _ eD6))
  rw[aO]at hv2
  cases e:ts[k']? with
  |none=>rw[e]at hv2;cases hv2
  |some t=>
   rw[e]at hv2
   cases hv2
   obtain⟨j,_,trj⟩:=tr6.get e
   obtain⟨tl,ti,et,h3,_,_⟩:=(trj.fk (N:=[]) (by simp) (Fk.same S7)).at
   exact⟨_,et,ig h3 (z _ _ (iE.refl _) ⟨is++[ti],by rw[bB];rfl⟩)⟩
 rintro H7 xs7 S7 ⟨is,rfl⟩ _ eD3
 refine⟨D3,is,0,rfl,rfl,SqL.of eD3,fun nst=>?_⟩
 dsimp only[iO]
 have hrow7:∀(idx:Nat) (a:fO),[a0,a1,a2][idx]?=some a->tT H7 a ss js.sum:=fun idx a h=>(hrow idx a h).same S7
 have erl7:=S7 _ _ erl6
 subst ze
 refine⟨rl,rfl,⟨_,SqL.of erl7⟩,fun D4 hD4=>?_⟩
 refine my [V.ref a0,.ref a1,.ref a2].length (by show 3<fY;decide) (fun xs H=>∃ks:List Kd,Ims H xs (ks.map Kd.d)/\∀k∈ks,k.ok/\(k.sz:Int)<=1+js.sum) (fun xs H H' ⟨ks,h1,h2⟩ k=>⟨ks,h1.mono k,h2⟩) hD4 rfl (fun k H S hk=>tH erl7 S hk) (fun H S=>tI erl7 S) ⟨[],.nil,fun k hk=>by simp at hk⟩ ?_ ?_
 ·rintro k' H8 v H9 xs Z S8 hk' ⟨rfl,hv⟩ ⟨ks,h1',h2'⟩ hl' z
  have hv2:=hv _ (SqL.of (S8 _ _ erl7))
  obtain⟨a,ha,rfl⟩:∃a,[a0,a1,a2][k']?=some a/\v= .ref a:=by
   match k',hv2 with
   |0,h=>cases h;exact⟨_,rfl,rfl⟩
   |1,h=>cases h;exact⟨_,rfl,rfl⟩
   |2,h=>cases h;exact⟨_,rfl,rfl⟩
  obtain⟨ys,ll,ey,iy,sub,okl,szl⟩:=(hrow7 k' a ha).same S8
  have ndl:(ll.map Prod.fst).Nodup:=sub.nodup hnd
  have lll:ll.length<=10:=by
   have h7:=sub.length_le
   rw[aE]at h7
   lia
  refine⟨a,ys,rfl,.inl ⟨SqL.of ey,fun tp htp=>⟨jM,fun t2 h2=>?_⟩⟩⟩
  have i1:Im (upd H9 tp (.tup ys)) (.ref tp) (.tup (ll.map fD)):=iI htp iy
  have i2:Im (upd (upd H9 tp (.tup ys)) t2 (.tup [.str sh,.ref tp])) (.ref t2) (.tup [sD sh,.tup (ll.map fD)]):=iI h2 (.cons (.flat rfl) (.cons i1 .nil))
  have s9:=(gZ htp (.tup ys)).trans (gZ h2 (.tup [.str sh,.ref tp]))
  have dl:(ofL ll).ds=ll.map fD:=by rw[tL,jV]
  have okL:(ofL ll).ok:=(lM _).mpr (by rw[jV];exact okl)
  have szL':(ofL ll).sz=szL ll:=by rw[mC,jV]
  rcases hsh with rfl|rfl
  ·refine z _ _ s9 ⟨ks++[.rcd (ofL ll)],?_,fun y hy=>?_⟩
   ·rw[bB]
    refine(h1'.mono (iE.tk s9)).app (.cons ?_ .nil)
    rw[Kd.d,dl]
    exact i2
   ·rcases ak.mp hy with hy|hy
    ·exact h2' y hy
    ·rw[bh.mp hy,Kd.ok,Kd.sz,szL']
     exact⟨⟨okL,by rw[jV];exact ndl,by rw[jV];exact lll,by rw[jV];exact fun p hp=>hso _ (sub.subset (bQ hp))⟩,by lia⟩
  ·refine z _ _ s9 ⟨ks++[.ch (ofL ll)],?_,fun y hy=>?_⟩
   ·rw[bB]
    refine(h1'.mono (iE.tk s9)).app (.cons ?_ .nil)
    rw[Kd.d,dl]
    exact i2
   ·rcases ak.mp hy with hy|hy
    ·exact h2' y hy
    ·rw[bh.mp hy,Kd.ok,Kd.sz,szL']
     exact⟨⟨okL,by rw[jV];exact ndl,by rw[jV];exact lll,by rw[jV];exact fun p hp=>hso _ (sub.subset (bQ hp))⟩,by lia⟩
 rintro H8 xs8 S8 ⟨ks,ik,hks⟩ hl8 eD4
 have S68:=S7.trans S8
 have eD8:=S68 _ _ eD6
 refine⟨D,rfl,⟨_,SqL.of eD8⟩,fun D5 hD5=>?_⟩
 refine my (ts.map V.ref).length (by rw[aE];lia) (fun xs _=>xs=(js.take xs.length).map V.int) (fun xs _ _ h _=>h) hD5 rfl (fun k H S hk=>tH eD8 S hk) (fun H S=>tI eD8 S) rfl ?_ ?_
 ·rintro k' H9 v H10 xs Z S9 hk' ⟨rfl,hv⟩ hxs hl' z
  have hv2:=hv _ (SqL.of (S9 _ _ eD8))
  rw[aO]at hv2
  cases e:ts[k']? with
  |none=>rw[e]at hv2;cases hv2
  |some t=>
   rw[e]at hv2
   cases hv2
   obtain⟨j,hj,trj⟩:=tr6.get e
   obtain⟨tl,ti,et,_,h4,_⟩:=(trj.fk (N:=[]) (by simp) (Fk.same (S68.trans S9))).at
   refine⟨_,et,ig h4 (z _ _ (iE.refl _) ?_)⟩
   rw[aQ,aY,hl',bE,hj,bB]
   rw[hl']at hxs
   rw[hxs]
   rfl
 rintro H9 xs9 S9 hxs9 hl9 eD5
 rw[hl9,aE,cj (by lia)]at hxs9
 subst hxs9
 have hjs6:js.length<=6:=by lia
 refine⟨D5,js,rfl,SqL.of eD5,by lia,fun n hn=>by have:=bjs n hn;lia,?_⟩
 refine⟨jM,fun p hp=>?_⟩
 have s10:=gZ hp (.lst [.int (1+nst),.int (1+js.sum)])
 have lk8:=ik.length
 rw[aE]at lk8
 refine⟨D4,p,xs8,_,rfl,rfl,s10 _ _ (S9 _ _ eD4),hG,(by show xs8.length+ 2<=fY;rw[hl8];show 3+ 2<=fY;decide),fun f hf=>?_⟩
 have s11:=gZ hf (.lst (xs8++[.int (1+nst),.int (1+js.sum)]))
 have S6f:iE H6 _:=((S68.trans S9).trans s10).trans s11
 have F16:Fk [st] H1 H6:=⟨fun a o e na=>F6.1 a o (S5 _ _ (F2.1 a o e na)) (old (F2.1 a o e na)),fun a xs e=>F6.2 _ _ (iE.tk S5 _ _ (F2.2 _ _ e))⟩
 have Ff:Fk [st] H _:=((Fk.same S1).trans F16).trans (Fk.same S6f)
 have stk6:Stk H6 st N n:=by
  have g1:Stk H5 st (a0::a1::a2::(D::N)) n:=(((st2.more f2).more f1).more h0).same S5
  refine(g1.fk F6 (fun a ha=>?_) ?_).less (fun a ha=>?_)
  ·simp only[aj,bo,or_false]at ha⊢
   rcases ha with h|h|h
   ·exact .inl h
   ·exact .inr (.inl h)
   ·exact .inr (.inr (.inl h))
  ·obtain⟨zs,ez,_⟩:=st2
   exact old ez
  ·simp[ha]
 refine q f _ Ff (stk6.same S6f) (fun hfN=>?_) ⟨xs8,ks,1+nst,1+js.sum,hG,ik.mono (iE.tk ((S9.trans s10).trans s11)),by rw[<-lk8,hl8];rfl,hks,by lia,by lia⟩
 obtain⟨o,eo⟩:=ex2 f (ai _ hfN)
 have e6:∃o,H6 f=some o:=by
  exact⟨o,F6.1 _ _ (S5 _ _ eo) (old eo)⟩
 obtain⟨o',e6⟩:=e6
 have:=((S68.trans S9).trans s10) _ _ e6
 rw[hf]at this
 cases this
theorem TrA.weak {H:Hp} {t:fO} {B C:Int} (h:TrA H t B) (hb:B<=C):TrA H t C:=by
 obtain⟨a,b,c,d,h1,h2,h3,h4,h5,h6⟩:=h
 exact⟨a,b,c,d,h1,h2,h3,h4,h5,by lia⟩
theorem Dn {H H':Hp} {st:fO} {N M:List fO} {n:Nat} (hN:∀a∈N,∃o,H a=some o) (F:Fk [st] H H') (s:Stk H' st M n):∀a∈N,∃o,H' a=some o:=fun a ha=>by
 by_cases e:a=st
 ·rw[e]
  obtain⟨xs,ex,_⟩:=s
  exact⟨_,ex⟩
 ·obtain⟨o,eo⟩:=hN a ha
  exact⟨o,F.1 _ _ eo (by simpa using e)⟩
theorem so {H H':Hp} {N:List fO} {t:fO} (hN:∀a∈N,∃o,H a=some o) (S:iE H H') (h:H' t=none):t∉N:=fun hn=>by
 obtain⟨o,eo⟩:=hN t hn
 rw[S _ _ eo]at h
 cases h
def FX:Sp:=fun vs H Q _=>X5 fun(wl st:fO) (N:List fO) (n:Nat) (c:Int)=>Y7 (vs=[.ref wl,.ref st,.int c]) (Wd H wl) (wl≠st) (Stk H st N n) (st∈N) ((∀a∈N,∃o,H a=some o)) (∀t H',Fk [st] H H'->Stk H' st N n->t∉N->TrA H' t 200->Q (.ref t) H')
theorem we (T:Txt K mg):FO P w base 4 T.d18 FX:=by
 have gD15:=oq (P:=P) (w:=w) (base:=base) T
 have gD16:=sj (P:=P) (w:=w) (base:=base) T
 have gD17:=sV (P:=P) (w:=w) (base:=base) T
 refine T.d18.F.rd kr fun cdv A outer s H vs Q E hr h=>?_
 obtain⟨wl,st,N,n,c,rfl,hw,nws,hs,hm,hN,q⟩:=h
 refine⟨_,(hW (pS (i:=3) kr.nd (iK ji (cv 2) hV))
  (hW (iY (iw Cw (cv 3) hV)
   (hZ (iH (pF T.d15 gD15 hr.m (gY (iK jB (cv 2) hV) hI))))
   iM)
  (hW (iY (iw Cw (cv 3) hV)
   (hW (pS (i:=4) kr.nd (pF T.d16 gD16 hr.m (gY (cv 1) hI)))
   (hW (pS (i:=5) kr.nd (pF T.d16 gD16 hr.m (gY (cv 1) hI)))
   (hW (pJ (j:=6) rfl (zB (x:="_law_k") ["_law_other","_law_one"] [("_law_other",5,s.heap.objs.size+ 2),("_law_one",4,s.heap.objs.size+ 1)]) (jS rfl T.z_range (gY hV hI)) (fun _ _ _ _ _=>jL) (fun _ _ _ _ _=>(iF (gY iC (gY (iq iG (cv 2) (iK l9 hV (cv 0))) (gY (iq iG (cv 1) (cv 0)) hI))))) kr.nd rfl (.inl rfl))
   (hZ (iH (iK qE (cv 6) (iZ (gY (iK kq hV (iN (zW rfl) rfl T.z_max DU (gY (iq iG (cv 4) hV) (gY (iq iG (cv 5) hV) hI)))) (gY (iK kq (iK kq hV (iq iG (cv 4) hV)) (iq iG (cv 5) hV)) hI)))))))))
   iM)
  (hW (iY (iw jc (cv 3) hV)
   (hW (pS (i:=7) kr.nd (pF T.d16 gD16 hr.m (gY (cv 1) hI)))
   (hZ (iH (iK qE (qf rfl (zB (x:="_law_k") ["_law_part"] [("_law_part",7,s.heap.objs.size+ 3)]) (jS rfl T.z_range (gY hV hI)) (fun _ _ _ _ _=>jL) (fun _ _ _ _ _=>(iF (gY iC (gY (iq iG (cv 1) (cv 0)) hI))))) (iZ (gY (iK kq hV (iq iG (cv 7) hV)) (gY (iK kq hV (iq iG (cv 7) hV)) hI)))))))
   iM)
  (hZ (iH (pF T.d17 gD17 hr.m (gY (cv 0) (gY (cv 1) (gY (iq iG (iZ (gY iC (gY iC hI))) (iK l9 (cv 3) hV)) (gY (iK jB (cv 2) hV) hI))))))))))),?_⟩
 have sl:=fZ
 have c0:=fc c (show(8:Int)≠0 by decide)
 have c1:=fj c (show(0:Int)<8 by decide)
 have out:∀{t:fO},t∉N->t∉[st]:=fun h z=>h (by rw[bh.mp z];exact hm)
 refine⟨(by show(0:Int)<8;decide),?_⟩
 dsimp only[iO,tC,cI0,onB]
 refine sE (fun _=>?_) (fun hn3=>?_)
 ·exact⟨⟨by decide,by decide⟩,c/8,rfl,fun t H' S ht tr=>q t H' (Fk.same S) (hs.same S) (so hN (iE.refl _) ht) (tr.weak (by decide))⟩
 refine sE (fun _=>?_) (fun hn5=>?_)
 ·refine⟨st,N,n,rfl,hs,hm,hN,fun t1 H1 F1 st1 nt1 tr1=>⟨st,N,n,rfl,st1,hm,Dn hN F1 st1,fun t2 H2 F2 st2 nt2 tr2=>?_⟩⟩
  have hN2:=Dn (Dn hN F1 st1) F2 st2
  obtain⟨j1,tj1,a1,b1⟩:=(tr1.fk (out nt1) F2).j
  obtain⟨j2,tj2,a2,b2⟩:=tr2.j
  dsimp only[iO]
  refine⟨3,rfl,by decide,by decide,fun D hD=>?_⟩
  refine my 3 (by lia) (fun xs H=>∃ks:List Kd,Ims H xs (ks.map Kd.d)/\∀k∈ks,k.ok/\(k.sz:Int)<=1+j1+j2) (fun xs H H' ⟨ks,h1,h2⟩ k=>⟨ks,h1.mono k,h2⟩) hD rfl (fun k H _ hk=>hk) (fun H _=>cB _) ⟨[],.nil,fun k hk=>by simp at hk⟩ ?_ ?_
  ·rintro k H3 v H4 xs Z S3 hk ⟨rfl,rfl⟩ ⟨ks,h1,h2⟩ hl z
   obtain⟨l1,i1,e1,_,_,at1⟩:=(tj1.fk (N:=[]) (by simp) (Fk.same S3)).at
   obtain⟨l2,i2,e2,_,_,at2⟩:=(tj2.fk (N:=[]) (by simp) (Fk.same S3)).at
   obtain⟨v1,k1,g1,m1,o1,z1⟩:=at1 (2-k) (by lia)
   obtain⟨v2,k2,g2,m2,o2,z2⟩:=at2 k hk
   refine⟨_,e1,ig (v:=v1) (by rw[show(2-(0+(k:Int)))=((2-k:Nat):Int) by lia];exact g1) ⟨_,e2,ig (v:=v2) (by rw[fw];exact g2) ⟨sW,fun t ht=>z _ _ (gZ ht _) ⟨ks++[.fn k1 k2],?_,fun y hy=>?_⟩⟩⟩⟩
   ·rw[bB]
    refine(h1.mono (iE.tk (gZ ht _))).app (.cons ?_ .nil)
    rw[Kd.d]
    exact iI ht (.cons (.flat rfl) (.cons m1 (.cons m2 .nil)))
   ·rcases ak.mp hy with hy|hy
    ·exact h2 y hy
    ·rw[bh.mp hy,Kd.ok,Kd.sz]
     exact⟨⟨o1,o2⟩,by lia⟩
  rintro H3 xs S3 ⟨ks,ik,hk⟩ hl eD
  have lk:=ik.length
  rw[aE]at lk
  obtain⟨l1,i1,e1,r1,s1,_⟩:=(tj1.fk (N:=[]) (by simp) (Fk.same S3)).at
  obtain⟨l2,i2,e2,r2,s2,_⟩:=(tj2.fk (N:=[]) (by simp) (Fk.same S3)).at
  refine⟨_,e1,ig r1 ⟨_,e2,ig r2 ⟨i1,i2,rfl,_,e1,ig s1 ⟨_,e2,ig s2 ⟨jM,fun p hp=>?_⟩⟩⟩⟩⟩
  have s4:=gZ hp (.lst [.int (1+(if i2>i1 then i2 else i1)),.int (1+j1+j2)])
  refine⟨D,p,xs,_,rfl,rfl,s4 _ _ eD,hG,(by show xs.length+ 2<=fY;lia),fun f hf=>?_⟩
  have s5:=gZ hf (.lst (xs++[.int (1+(if i2>i1 then i2 else i1)),.int (1+j1+j2)]))
  have Sf:=(S3.trans s4).trans s5
  exact q f _ ((F1.trans F2).trans (Fk.same Sf)) (st2.same Sf) (so hN2 (S3.trans s4) hf) ⟨xs,ks,_,_,hG,ik.mono (iE.tk (s4.trans s5)),by lia,hk,by lia,by lia⟩
 dsimp only[iO,tC,cEq,onB]
 refine sE (fun _=>?_) (fun hn6=>?_)
 ·refine⟨st,N,n,rfl,hs,hm,hN,fun t1 H1 F1 st1 nt1 tr1=>?_⟩
  have hN1:=Dn hN F1 st1
  obtain⟨j1,tj1,a1,b1⟩:=tr1.j
  dsimp only[iO]
  refine⟨3,rfl,by decide,by decide,fun D hD=>?_⟩
  refine my 3 (by lia) (fun xs H=>∃ks:List Kd,Ims H xs (ks.map Kd.d)/\∀k∈ks,k.ok/\(k.sz:Int)<=1+j1) (fun xs H H' ⟨ks,h1,h2⟩ k=>⟨ks,h1.mono k,h2⟩) hD rfl (fun k H _ hk=>hk) (fun H _=>cB _) ⟨[],.nil,fun k hk=>by simp at hk⟩ ?_ ?_
  ·rintro k H3 v H4 xs Z S3 hk ⟨rfl,rfl⟩ ⟨ks,h1,h2⟩ hl z
   obtain⟨l1,i1,e1,_,_,at1⟩:=(tj1.fk (N:=[]) (by simp) (Fk.same S3)).at
   obtain⟨v1,k1,g1,m1,o1,z1⟩:=at1 k hk
   refine⟨_,e1,ig (v:=v1) (by rw[fw];exact g1) ⟨jM,fun t ht=>z _ _ (gZ ht _) ⟨ks++[.row k1],?_,fun y hy=>?_⟩⟩⟩
   ·rw[bB]
    refine(h1.mono (iE.tk (gZ ht _))).app (.cons ?_ .nil)
    rw[Kd.d]
    exact iI ht (.cons (.flat rfl) (.cons m1 .nil))
   ·rcases ak.mp hy with hy|hy
    ·exact h2 y hy
    ·rw[bh.mp hy,Kd.ok,Kd.sz]
     exact⟨o1,by lia⟩
  rintro H3 xs S3 ⟨ks,ik,hk⟩ hl eD
  have lk:=ik.length
  rw[aE]at lk
  obtain⟨l1,i1,e1,r1,s1,_⟩:=(tj1.fk (N:=[]) (by simp) (Fk.same S3)).at
  refine⟨_,e1,ig r1 ⟨_,e1,ig s1 ⟨jM,fun p hp=>?_⟩⟩⟩
  have s4:=gZ hp (.lst [.int (1+i1),.int (1+j1)])
  refine⟨D,p,xs,_,rfl,rfl,s4 _ _ eD,hG,(by show xs.length+ 2<=fY;lia),fun f hf=>?_⟩
  have s5:=gZ hf (.lst (xs++[.int (1+i1),.int (1+j1)]))
  have Sf:=(S3.trans s4).trans s5
  exact q f _ (F1.trans (Fk.same Sf)) (st1.same Sf) (so hN1 (S3.trans s4) hf) ⟨xs,ks,_,_,hG,ik.mono (iE.tk (s4.trans s5)),by lia,hk,by lia,by lia⟩
 ·refine⟨jM,fun p hp=>⟨_,hG,?_⟩⟩
  have s1:=gZ hp (.lst [.str "rec",.str "choice"])
  have h67:c%8=6\/c%8=7:=by
   have h1:¬c%8<3:=fun z=>hn3 (jJ z)
   have h2:¬c%8<5:=fun z=>hn5 (jJ z)
   have h3:¬c%8=5:=fun z=>hn6 (by rw[jJ z];rfl)
   lia
  obtain⟨sh,hat,hsh⟩:∃sh:Str,atI [V.str "rec",V.str "choice"] (c%8-6)=some (.str sh)/\(sh="rec"\/sh="choice"):=by
   rcases h67 with h|h
   ·rw[h];exact⟨"rec",ic (j:=0) rfl,.inl rfl⟩
   ·rw[h];exact⟨"choice",ic (j:=1) rfl,.inr rfl⟩
  refine ig hat ⟨⟨by decide,by decide⟩,wl,st,N,n,sh,_,rfl,hw.same s1,nws,hs.same s1,hm,fun a ha=>let⟨o,eo⟩:=hN a ha;⟨o,s1 _ _ eo⟩,hsh,fun t H' F2 st2 nt tr=>q t H' ((Fk.same s1).trans F2) st2 nt tr⟩
def zA:Sp:=fun vs H Q _=>X4 fun(wl cl:fO) (ns:List Int) (ne:Int)=>Y6 (vs=[.ref wl,.ref cl,.int ne,.int 10]) (Wd H wl) (H cl=some (.lst (ns.map V.int))) (ns.length<=63) (ns≠[]) (∀st xs t H',iE H H'->H st=none->H' st=some (.lst (xs++[.ref t]))->TrA H' t 10->Q (.ref st) H')
theorem sq (T:Txt K mg):FO P w base 5 T.d19 zA:=by
 have gD15:=oq (P:=P) (w:=w) (base:=base) T
 have gD18:=we (P:=P) (w:=w) (base:=base) T
 refine T.d19.F.rd jC fun cdv A outer s H vs Q E hr h=>?_
 obtain⟨wl,cl,ns,ne,rfl,hw,ecl,ln,hne,q⟩:=h
 refine⟨_,(hW (pS (i:=4) jC.nd (iZ hI))
  (hW (jN PassesOwn.never rfl (j3 (cv 1)) (pN (i:=5) jC.nd)
   (hW (pS (i:=6) jC.nd (iK ji (cv 5) (iK xZ hV hV)))
   (hW (pS (i:=7) jC.nd (pF T.d18 gD18 hr.m (gY (cv 0) (gY (cv 4) (gY (cv 6) hI)))))
   (hW (iY (PW.pt (sC (iw EZ (iq iG (cv 7) hV) (cv 2)) (oF (iw EZ (iq iG (cv 7) hV) (cv 3)))))
    (hZ (pS (i:=7) jC.nd (pF T.d15 gD15 hr.m (gY (iK jB (cv 6) hV) hI))))
    iM)
   (hZ (iS (lJ (ny eI eJ eK jh (PE.mono (cv 4)) (gY (PE.mono (cv 7)) hI)))))))))
  (hZ (iH (cv 4))))),?_⟩
 have sl:=fZ
 obtain⟨ws,ew,_⟩:=id hw
 refine⟨sr,fun st hst=>?_⟩
 have s0:=gZ hst (.lst [])
 have nwst:wl≠st:=ie ew hst
 have e0:(upd H st (.lst [])) st=some (.lst []):=hG
 dsimp only[iO]
 generalize upd H st (.lst [])=H0 at s0 e0⊢
 refine⟨cl,rfl,⟨_,SqL.of (s0 _ _ ecl)⟩,lq (xs:=ns.map V.int) (fun i σ H2=>X3 fun(o5 o6 o7:Option V)=>Y4 (σ=[some (.ref wl),some (.ref cl),some (.int ne),some (.int 10),some (.ref st),o5,o6,o7]) (iE H H2) (Stk H2 st [st] i) ((i=0\/∃xs t,H2 st=some (.lst (xs++[.ref t]))/\TrA H2 t 10)))
  ⟨none,none,none,rfl,s0,⟨[],e0,cB _,fun v hv=>by simp at hv⟩,.inl rfl⟩ (fun i σ H2 _ ⟨_,_,_,_,S,_,_⟩=>SqL.of (S _ _ ecl)) ?_ ?_⟩
 ·rintro i v σ H2 hv ⟨o5,o6,o7,rfl,S2,st2,lst2⟩
  have hi:=(aq.mp hv).1
  rw[aE]at hi
  obtain⟨x,rfl⟩:∃x:Int,v= .int x:=by
   rw[aO]at hv
   cases e:ns[i]? with
   |none=>rw[e]at hv;cases hv
   |some m=>rw[e]at hv;exact⟨m,(cR.inj hv).symm⟩
  refine⟨⟨by decide,by decide,by decide⟩,(by show(0:Int)<10^(40:Int).toNat;decide+kernel),?_⟩
  dsimp only[iO]
  generalize x%10^(40:Int).toNat=c
  have hN:∀a∈[st],∃o,H2 a=some o:=fun a ha=>by
   rw[bh.mp ha]
   obtain⟨xs,e,_⟩:=st2
   exact⟨_,e⟩
  refine⟨wl,st,[st],i,c,rfl,hw.same S2,nwst,st2,bh.mpr rfl,hN,fun t H4 F4 st4 nt tr=>?_⟩
  have S4:iE H H4:=fun a o e=>F4.1 a o (S2 _ _ e) (by simpa using ie e hst)
  obtain⟨xs3,ks,ti,tj,et,ik,lk,hk,t1,t2,r3,r4,_⟩:=tr.at
  dsimp only[iO]
  have fin:∀(t:fO) (H5:Hp) (o5 o6 o7:Option V),iE H4 H5->t∉[st]->TrA H5 t 10->∃xs,H5 st=some (.lst xs)/\xs.length<fY/\iE H (upd H5 st (.lst (xs++[.ref t])))/\Stk (upd H5 st (.lst (xs++[.ref t]))) st [st] (i+ 1)/\TrA (upd H5 st (.lst (xs++[.ref t]))) t 10:=fun t H5 o5 o6 o7 S5 nt tr=>by
   obtain⟨xs,e,l,f⟩:=st4.same S5
   have k:=Fk.upd (N:=[st]) (ys:=xs++[.ref t]) (bh.mpr rfl) e
   refine⟨xs,e,by lia,mD (S4.trans S5) hst _,⟨xs++[.ref t],hG,by rw[aQ,aY];lia,fun v hv=>?_⟩,tr.fk nt k⟩
   rcases ak.mp hv with hv|hv
   ·obtain⟨t',h1,h2,h3⟩:=f v hv
    exact⟨t',h1,h2,h3.fk h2 k⟩
   ·rw[bh.mp hv]
    exact⟨t,rfl,nt,tr.fk nt k⟩
  have hst4:∀{H5:Hp},iE H4 H5->∃xs,H5 st=some (.lst xs):=fun S5=>by
   obtain⟨xs,e,_⟩:=st4
   exact⟨xs,S5 _ _ e⟩
  have nst:∀{t':fO},H4 t'=none->t'∉[st]:=fun{t'} ht z=>by
   obtain⟨xs,e⟩:=hst4 (iE.refl _)
   rw[<-bh.mp z,ht]at e
   cases e
  refine⟨_,et,ig r3 ?_⟩
  dsimp only[cI0,onB]
  refine sE (fun _=>mj ?_) (fun _=>?_)
  ·refine⟨⟨by decide,by decide⟩,c/8,rfl,fun t H5 S5 ht tr=>?_⟩
   obtain⟨xs,e,hl,S6,st6,tr6⟩:=fin t H5 none none none S5 (nst ht) (tr.weak (by decide))
   exact⟨⟨_,e⟩,xs,e,hl,_,_,_,rfl,S6,st6,.inr ⟨xs,_,hG,tr6⟩⟩
  ·refine⟨_,et,ig r4 ?_⟩
   dsimp only[cI0,onB]
   refine sE (fun _=>?_) (fun hj=>?_)
   ·refine⟨⟨by decide,by decide⟩,c/8,rfl,fun t H5 S5 ht tr=>?_⟩
    obtain⟨xs,e,hl,S6,st6,tr6⟩:=fin t H5 none none none S5 (nst ht) (tr.weak (by decide))
    exact⟨⟨_,e⟩,xs,e,hl,_,_,_,rfl,S6,st6,.inr ⟨xs,_,hG,tr6⟩⟩
   ·have hj2:tj<=10:=by
     have h1:¬(10:Int)<tj:=fun z=>hj (jJ z)
     lia
    obtain⟨xs,e,hl,S6,st6,tr6⟩:=fin t H4 none none none (iE.refl _) nt ⟨xs3,ks,ti,tj,et,ik,lk,hk,t1,hj2⟩
    exact⟨⟨_,e⟩,xs,e,hl,_,_,_,rfl,S6,st6,.inr ⟨xs,_,hG,tr6⟩⟩
 ·rintro σ H2 ⟨o5,o6,o7,rfl,S2,st2,lst2⟩
  rcases lst2 with h|⟨xs,t,e,tr⟩
  ·rw[aE]at h
   exact absurd (bU h) hne
  ·exact q st xs t H2 S2 hst e tr
structure Ft (H:Hp) (t:fO) (l:List (Str×Kd)):Prop where
 e:∃xs,H t=some (.tup xs)/\Ims H xs (l.map fD)
 n:(l.map Prod.fst).Nodup
 z:szL l<=100
theorem Ft.same {H H':Hp} {t:fO} {l:List (Str×Kd)} (h:Ft H t l) (S:iE H H'):Ft H' t l:=by
 obtain⟨⟨xs,e,i⟩,n,z⟩:=h
 exact⟨⟨xs,S _ _ e,i.mono (iE.tk S)⟩,n,z⟩
theorem t_ne:∀{a b:Kd},a.tag=b.tag->(nD b||sy a)=false->(∃l m,a= .rcd l/\b= .rcd m)\/(∃l m,a= .ch l/\b= .ch m)\/(∃c d e f,a= .fn c d/\b= .fn e f)\/(∃c d,a= .row c/\b= .row d)\/(a= .num/\b= .num):=fun{a b} h h2=>by
 cases a<;>cases b<;>first|(exact .inl ⟨_,_,rfl,rfl⟩)|(exact .inr (.inl ⟨_,_,rfl,rfl⟩))|(exact .inr (.inr (.inl ⟨_,_,_,_,rfl,rfl⟩)))|(exact .inr (.inr (.inr (.inl ⟨_,_,rfl,rfl⟩))))|(exact .inr (.inr (.inr (.inr ⟨rfl,rfl⟩))))|(simp only[Kd.tag]at h;exact absurd h iJ)|(simp[nD]at h2)
theorem Jo {a b:Kd} (h:a.tag≠b.tag) (h2:(nD b||sy a)=false):pw a b=none:=by
 unfold pw
 rw[h2,iT eP]
 cases a<;>cases b<;>first|rfl|exact absurd rfl h
theorem FY (b:Kd):decide (b.tag=("any":Str))=nD b:=by
 cases b with
 |any=>exact jJ rfl
 |num=>exact jR (show ¬("num":Str)="any" by decide+kernel)
 |fn _ _=>exact jR (show ¬("fn":Str)="any" by decide+kernel)
 |rcd _=>exact jR (show ¬("rec":Str)="any" by decide+kernel)
 |ch _=>exact jR (show ¬("choice":Str)="any" by decide+kernel)
 |row _=>exact jR (show ¬("row":Str)="any" by decide+kernel)
theorem Dp {H:Hp} {x:V} {l:Kds} (h:Ims H [x] [.tup l.ds]) (n:(l.toL.map Prod.fst).Nodup) (z:l.sz<=100):∃t,x= .ref t/\Ft H t l.toL:=by
 cases h with
 |cons h hs=>
  cases h with
  |tup e i=>
   rw[tL]at i
   rw[mC]at z
   exact⟨_,rfl,⟨⟨_,e,i⟩,n,z⟩⟩
theorem Dr (f:Nat):CD f []=true:=by cases f<;>rfl
theorem Ds {H:Hp} {xs:List V} {st:List (Kd×Kd)} {p:Kd×Kd} (h:Ims H xs ((p::st).reverse.map pD)):∃v,xs[xs.length-1]?=some v/\Im H v (pD p)/\Ims H xs.dropLast (st.reverse.map pD):=by
 rw[List.reverse_cons,bB]at h
 have go:∀{ds:List Dt} {xs:List V} {d:Dt},Ims H xs (ds++[d])->∃ys v,xs=ys++[v]/\Im H v d/\Ims H ys ds:=fun{ds}=>by
  induction ds with
  |nil=>
   intro xs d h
   obtain⟨x,rfl,hx⟩:=lY h
   exact⟨[],x,rfl,hx,.nil⟩
  |cons d0 ds ih=>
   intro xs d h
   cases h with
   |cons h1 hs=>
    obtain⟨ys,v,rfl,h2,h3⟩:=ih hs
    exact⟨_::ys,v,rfl,h2,.cons h1 h3⟩
 obtain⟨ys,v,rfl,h1,h2⟩:=go h
 refine⟨v,?_,h1,?_⟩
 ·rw[aQ,aY,Nat.add_sub_cancel]
  simp
 ·rw[List.dropLast_concat]
  exact h2
theorem yP {f:Nat} {p:Kd×Kd} {st:List (Kd×Kd)} {r:Bool} (h:CD f (p::st)=r) (hz:szp (p::st)<=f) (gp:G p.1/\G p.2) (gs:∀p∈st,G p.1/\G p.2):(pw p.1 p.2=none/\r=false)\/∃l f',pw p.1 p.2=some l/\f'<f/\CD f' (l.reverse++st)=r/\szp (l.reverse++st)<=f'/\∀p∈l.reverse++st,G p.1/\G p.2:=by
 have p1:=iR p.1
 rw[szp]at hz
 cases f with
 |zero=>lia
 |succ f=>
  rw[CD]at h
  cases e:pw p.1 p.2 with
  |none=>rw[e]at h;exact .inl ⟨rfl,h.symm⟩
  |some l=>
   rw[e]at h
   have hs:=E9 e gp.1.1 gp.2.1
   refine .inr ⟨l,f,rfl,by lia,h,by rw[uA,wN];lia,fun q hq=>?_⟩
   rcases ak.mp hq with hq|hq
   ·exact AY e gp.1 gp.2 q (ck.mp hq)
   ·exact gs q hq
def HF:Sp:=fun vs H Q _=>X4 fun(x y:V) (a b:Kd)=>Y6 (vs=[x,y]) (Im H x a.d) (Im H y b.d) (G a) (G b) (∀H',iE H H'->Q (.bl (und a b)) H')
theorem HG (l:Kds):(Kd.rcd l).tag=("rec":Str):=rfl
theorem Jp (l:Kds):(Kd.ch l).tag=("choice":Str):=rfl
theorem Jq (c d:Kd):(Kd.fn c d).tag=("fn":Str):=rfl
theorem HH (c:Kd):(Kd.row c).tag=("row":Str):=rfl
theorem HI:Kd.num.tag=("num":Str):=rfl
theorem sF {x y:Str} (h:¬x=y):(false ^^ decide (x=y))=false:=by rw[jR h];rfl
theorem sT {x y:Str} (h:x=y):(false ^^ decide (x=y))=true:=by rw[jJ h];rfl
def wg (l:List (Str×Kd)) (p:Str×Kd):Bool:=(lkK l p.1).isSome
theorem BJ {l W:List (Str×Kd)} (h:(W.map (wg l)).all id=true) {i:Nat} {p:Str×Kd} (hp:W[i]?=some p):∃a,lkK l p.1=some a:=by
 rw[List.all_eq_true]at h
 have:=h (wg l p) (bp.mpr ⟨p,aP hp,rfl⟩)
 unfold wg at this
 cases e:lkK l p.1 with
 |none=>rw[e]at this;cases this
 |some a=>exact⟨a,rfl⟩
theorem BK {l W:List (Str×Kd)} (h:(W.map (wg l)).all id=false):∃(i:Nat) (p:Str×Kd),W[i]?=some p/\lkK l p.1=none:=by
 rw[List.all_eq_false]at h
 obtain⟨b,hb,hn⟩:=h
 obtain⟨p,hp,rfl⟩:=bp.mp hb
 obtain⟨i,hi⟩:=bN.mp hp
 refine⟨i,p,hi,?_⟩
 cases e:lkK l p.1 with
 |none=>rfl
 |some a=>exact absurd (by unfold wg;rw[e];rfl) hn
def IvU (H:Hp) (x y:V) (a b:Kd) (f:Nat) (σ:St) (H2:Hp):Prop:=X8 fun(o3 o4 o5 o6 o7:Option V) (as:fO) (xs:List V) (st:List (Kd×Kd))=>Y9 (σ=[some x,some y,some (.ref as),o3,o4,o5,o6,o7]) (H as=none) (iE H H2) (H2 as=some (.lst xs)) (Ims H2 xs (st.reverse.map pD)) ((∀p∈st,G p.1/\G p.2)) (szp st<=f) (CD f st=und a b) (f<=80)
theorem vc (T:Txt K mg):FO P w base 3 T.d27 HF:=by
 refine T.d27.F.rd jo fun cdv A outer s H vs Q E hr h=>?_
 have hu:=vz hr
 obtain⟨x,y,a,b,rfl,hx,hy,ga,gb,q⟩:=h
 refine⟨_,(hW (pS (i:=2) jo.nd (iZ (gY (iF (gY (cv 0) (gY (cv 1) hI))) hI)))
  (hW (xH PassesOwn.never (iw EZ (iN iP rfl T.z_len jO (gY (cv 2) hI)) hV)
   (hW (pS (i:=3) jo.nd (xQ eI eN eO DK (cv 2)))
   (hW (pS (i:=4) jo.nd (iq iA (cv 3) hV))
   (hW (pS (i:=5) jo.nd (iq iA (cv 3) hV))
   (hZ (iY (PW.pt (xF (iw GP (iq iA (cv 5) hV) iC) (wt (iw (GL hr) (cv 4) (iF (gY iC (gY (iF hI) hI)))))))
    (hW (iY (iw GP (iq iA (cv 4) hV) (iq iA (cv 5) hV))
     (hZ (iH sA))
     iM)
    (hZ (iY (iw jc (iq iA (cv 4) hV) iC)
     (hZ (pS (i:=2) jo.nd (iK qE (cv 2) (iZ (gY (iF (gY (iq iA (cv 5) hV) (gY (iq iA (cv 4) hV) hI))) (gY (iF (gY (iq iA (cv 4) hV) (gY (iq iA (cv 5) hV) hI))) hI))))))
     (hZ (iY (iw jc (iq iA (cv 4) hV) iC)
      (hZ (iS (lJ (ny eI eJ eK jh (PE.mono (cv 2)) (gY (PE.mono (iF (gY (iq iA (cv 4) hV) (gY (iq iA (cv 5) hV) hI)))) hI)))))
      (hZ (iY (PW.pt (sC (iw jc (iq iA (cv 4) hV) iC) (oF (iw jc (iq iA (cv 4) hV) iC))))
       (hW (pS (i:=6) jo.nd (tW (iw jc (iq iA (cv 4) hV) iC) (iq iA (cv 5) hV) (iq iA (cv 4) hV)))
       (hW (pS (i:=7) jo.nd (tW (iw jc (iq iA (cv 4) hV) iC) (jd (ox rfl) rfl T.z_dict uc (gY (iq iA (cv 4) hV) hI)) (jd (ox rfl) rfl T.z_dict uc (gY (iq iA (cv 5) hV) hI))))
       (hW (iY (DB (vi (iN (xS rfl) rfl T.z_all DM (gY (tE (g:=zM K 2 (mi (iO 0) (mi (iO 1) zL))) rfl (zq (x:="_law_word") (y:="_law_part") ["_law_there"] [("_law_there",7,s.heap.objs.size+ 1)]) (lE (cv 6)) (pgP rfl iJ rfl rfl) (fun _ _ _ _ _=>(DA (GA hu (cv 0) (cv 2)) rfl))) hI))))
        (hZ (iH sA))
        iM)
       (hZ (iY (iw jc (iq iA (cv 4) hV) iC)
        (hZ (pS (i:=2) jo.nd (iK qE (cv 2) (tE (g:=zM K 2 (mi (iO 0) (mi (iO 1) zL))) rfl (zq (x:="_law_word") (y:="_law_part") ["_law_there"] [("_law_there",7,s.heap.objs.size+ 1)]) (lE (cv 6)) (pgP rfl iJ rfl rfl) (fun _ _ _ _ _=>(iF (gY (t7 hu (cv 2) (cv 0)) (gY (cv 1) hI))))))))
        (hZ (pS (i:=2) jo.nd (iK qE (cv 2) (tE (g:=zM K 2 (mi (iO 0) (mi (iO 1) zL))) rfl (zq (x:="_law_word") (y:="_law_part") ["_law_there"] [("_law_there",7,s.heap.objs.size+ 1)]) (lE (cv 6)) (pgP rfl iJ rfl rfl) (fun _ _ _ _ _=>(iF (gY (cv 1) (gY (t7 hu (cv 2) (cv 0)) hI)))))))))))))
       iM)))))))
    iM))))))
  (hZ (iH sA)))),?_⟩
 refine wm fun zn ze=>?_
 have sl:=fZ
 refine⟨jM,fun t0 h0=>⟨vd,fun as has=>?_⟩⟩
 have s0:=gZ h0 (.tup [x,y])
 have S0:=s0.trans (gZ has (.lst [.ref t0]))
 have fas:H as=none:=s0.free has
 have e0:(upd (upd H t0 (.tup [x,y])) as (.lst [.ref t0])) as=some (.lst [.ref t0]):=hG
 have i0:Ims (upd (upd H t0 (.tup [x,y])) as (.lst [.ref t0])) [.ref t0] ([(a,b)].reverse.map pD):= .cons ((iI h0 (.cons hx (.cons hy .nil))).mono (iE.tk (gZ has _))) .nil
 subst ze
 dsimp only[iO]
 refine wm fun zn ze=>?_
 generalize upd (upd H t0 (.tup [x,y])) as (.lst [.ref t0])=H0 at S0 e0 i0⊢
 have sa:=ga.2
 have sb:=gb.2
 refine⟨IvU H x y a b,
  ⟨a.sz+b.sz,none,none,none,none,none,as,_,[(a,b)],rfl,fas,S0,e0,i0,fun p hp=>by rw[bh.mp hp];exact⟨ga,gb⟩,by simp[szp],rfl,by lia⟩,?_⟩
 clear fas e0 i0 S0 has
 rintro f σ H2 ⟨o3,o4,o5,o6,o7,as,xs,st,rfl,fas,S,e,i,gs,hz,hu2,hf⟩
 have lxs:=i.length
 rw[aE,List.length_reverse]at lxs
 refine⟨as,_,rfl,.inl (SqL.of e),?_⟩
 dsimp only[tC,cI0,onB]
 cases st with
 |nil=>
  rw[jR (show ¬(0:Int)<(xs.length:Int) by rw[lxs];simp)]
  refine lD ?_
  rw[Dr]at hu2
  have:=q H2 S
  rw[<-hu2]at this
  subst ze
  exact this
 |cons p st=>
  rw[jJ (show(0:Int)<(xs.length:Int) by rw[lxs,aB];lia)]
  obtain⟨v,hv,ip,ir⟩:=Ds i
  have gp:=gs p (by simp)
  have gst:∀p∈st,G p.1/\G p.2:=fun q hq=>gs q (by simp[hq])
  refine mj ⟨fun σ' H'=>∃m',m'<f/\IvU H x y a b m' σ' H',fun _ _ h=>h,?_⟩
  refine⟨.inl ⟨rfl,_,SqL.of e⟩,as,xs,v,rfl,rfl,e,hv,?_⟩
  have tk:=(jP (o:= .lst xs.dropLast) e).tk
  have S3:iE H (upd H2 as (.lst xs.dropLast)):=mD S fas _
  have e3:(upd H2 as (.lst xs.dropLast)) as=some (.lst xs.dropLast):=hG
  have ip3:=ip.mono tk
  have ir3:=ir.mono tk
  dsimp only[iO]
  generalize upd H2 as (.lst xs.dropLast)=H3 at S3 e3 ip3 ir3⊢
  generalize xs.dropLast=ws at e3 ir3⊢
  obtain⟨t,v1,v2,rfl,et,i1,i2⟩:=pdx ip3
  obtain⟨pa,pb⟩:=p
  dsimp only at gp i1 i2
  have l1:=ir3.length
  rw[aE,List.length_reverse]at l1
  have fin:∀(l:List (Kd×Kd)) (o3 o4 o5 o6 o7:Option V) (as':fO) (H4:Hp) (ys:List V),pw pa pb=some l->H as'=none->iE H H4->H4 as'=some (.lst ys)->Ims H4 ys (st.reverse.map pD++l.map pD)->∃m',m'<f/\IvU H x y a b m' [some x,some y,some (.ref as'),o3,o4,o5,o6,o7] H4:=fun l o3 o4 o5 o6 o7 as' H4 ys hl f4 S4 e4 i4=>by
   rcases yP hu2 hz gp gst with⟨hn,_⟩|⟨l',f',hn,hf',hu',hz',gs'⟩
   ·rw[hl]at hn;cases hn
   ·rw[hl]at hn
    cases hn
    refine⟨f',hf',_,_,_,_,_,as',ys,l.reverse++st,rfl,f4,S4,e4,?_,gs',hz',hu',by lia⟩
    rw[List.reverse_append,List.reverse_reverse,bB]
    exact i4
  have bad:∀H4,pw pa pb=none->iE H H4->Q (.bl false) H4:=fun H4 hn S4=>by
   rcases yP hu2 hz gp gst with⟨_,hr0⟩|⟨l',f',hn',_⟩
   ·have:=q H4 S4
    rw[hr0]at this
    exact this
   ·rw[hn]at hn';cases hn'
  have llen:∀l,pw pa pb=some l->l.length<=80:=fun l hl=>by
   have:=E9 hl gp.1.1 gp.2.1
   have:=oR l
   have:=gp.1.2
   have:=gp.2.2
   lia
  refine⟨_,et,ig (ic (j:=0) rfl) ⟨_,et,ig (ic (j:=1) rfl) ?_⟩⟩
  dsimp only[iO]
  obtain⟨tx,xs',rfl,ex,ix⟩:=DZ i1
  obtain⟨ty,ys',rfl,ey,iy⟩:=DZ i2
  refine⟨_,ey,ig (ic (j:=0) rfl) ?_⟩
  dsimp only[tC,cEq,onB]
  rw[FY,show(true ^^ nD pb)=!nD pb from by cases nD pb<;>rfl]
  cases hany:nD pb with
  |true=>
   refine lD (lD ?_)
   exact fin [] _ _ _ _ _ as H3 ws (by unfold pw;rw[hany];rfl) fas S3 e3 (by rw[aV,aF];exact ir3)
  |false=>
   refine mj ⟨sr,fun tn hn0=>⟨jM,fun tc hc=>?_⟩⟩
   have s1:=(gZ hn0 (.tup [])).trans (gZ hc (.tup [.str "choice",.ref tn]))
   have ino:Im (upd (upd H3 tn (.tup [])) tc (.tup [.str "choice",.ref tn])) (.ref tc) noD:=iI hc (.cons (.flat rfl) (.cons (iI hn0 .nil) .nil))
   generalize upd (upd H3 tn (.tup [])) tc (.tup [.str "choice",.ref tn])=H1 at s1 ino⊢
   refine⟨tx,tc,pa.d,noD,rfl,rfl,CF (i1.mono (iE.tk s1)),CF ino,G1 pa,by have:=AU pa;have:=gp.1.2;lia,?_⟩
   rw[ja rfl,IH]
   dsimp only[onB]
   have ex1:=s1 _ _ ex
   have ey1:=s1 _ _ ey
   have e1:=s1 _ _ e3
   have ir1:=ir3.mono (iE.tk s1)
   have S1:=S3.trans s1
   have ix1:=ix.mono (iE.tk s1)
   have iy1:=iy.mono (iE.tk s1)
   cases hno:sy pa with
   |true=>
    refine lD ?_
    exact fin [] _ _ _ _ _ as H1 ws (by unfold pw;rw[hno,hany];rfl) fas S1 e1 (by rw[aV,aF];exact ir1)
   |false=>
    have hcond:(nD pb||sy pa)=false:=by rw[hany,hno];rfl
    refine mj ⟨_,ex1,ig (ic (j:=0) rfl) ⟨_,ey1,ig (ic (j:=0) rfl) ?_⟩⟩
    dsimp only[tC,cEq,onB]
    by_cases et:pa.tag=pb.tag
    ·rw[jJ et]
     refine lD ?_
     have pe:pw pa pb=pw2 pa pb:=by unfold pw;rw[hcond,iT eP]
     have tn:=t_ne et hcond
     have hst:st.length<=80:=by
      have h7:=oR st
      rw[szp]at hz
      lia
     rw[pe]at fin bad llen
     clear ino hcond pe hno hany et hu2 hz
     obtain⟨⟨oa,sa⟩,⟨ob,sb⟩⟩:=gp
     rcases tn with⟨l,m,rfl,rfl⟩|⟨l,m,rfl,rfl⟩|⟨c,d,e',f',rfl,rfl⟩|⟨c,d,rfl,rfl⟩|⟨rfl,rfl⟩
     ·rw[Kd.ok]at oa ob
      simp only[Kd.sz]at sa sb
      obtain⟨x1,rfl,j1⟩:=lY ix1
      obtain⟨y1,rfl,j2⟩:=lY iy1
      obtain⟨t1,rfl,f1⟩:=Dp (.cons j1 .nil) oa.2.1 (by lia)
      obtain⟨t2,rfl,f2⟩:=Dp (.cons j2 .nil) ob.2.1 (by lia)
      rw[HG]at ex1 ey1
      refine⟨_,ex1,ig (ic (j:=0) rfl) ?_⟩
      dsimp only[tC,cEq,onB]
      rw[sF (show ¬("rec":Str)="fn" by decide+kernel)]
      refine lD ⟨_,ex1,ig (ic (j:=0) rfl) ?_⟩
      dsimp only[tC,cEq,onB]
      rw[sF (show ¬("rec":Str)="row" by decide+kernel)]
      refine lD ⟨_,ex1,ig (ic (j:=0) rfl) ?_⟩
      dsimp only[tC,cEq,onB]
      rw[sT (show("rec":Str)="rec" from rfl)]
      refine mj (mj ⟨_,ex1,ig (ic (j:=0) rfl) ?_⟩)
      dsimp only[tC,cEq,onB]
      rw[sT (show("rec":Str)="rec" from rfl)]
      refine mj ⟨_,ey1,ig (ic (j:=1) rfl) ⟨_,ex1,ig (ic (j:=0) rfl) ?_⟩⟩
      dsimp only[tC,cEq,onB]
      rw[sT (show("rec":Str)="rec" from rfl)]
      obtain⟨⟨ys,el,il⟩,nl,zl⟩:=id f1
      obtain⟨ps,p1,p2,p3⟩:=II il
      have lps:ps.length=l.toL.length:=by have:=congrArg aJ p2;rw[aE,aE]at this;exact this
      have:=rJ l.toL
      refine mj ⟨_,ex1,ig (ic (j:=1) rfl) ⟨t1,ys,ps,rfl,el,p1,by lia,fun d1 hd1=>?_⟩⟩
      have S2:=gZ hd1 (.dK (jU [] (ps.map kf)))
      have D1:=DKd.new hd1 nl p2 p3
      dsimp only[iO]
      generalize upd H1 d1 (.dK (jU [] (ps.map kf)))=H4 at S2 D1⊢
      obtain⟨⟨zs,em,imm⟩,nm,zm⟩:=f2.same S2
      have lzs:=imm.length
      rw[aE]at lzs
      have:=rJ m.toL
      refine⟨t2,rfl,⟨_,SqT.of em⟩,fun D hD=>?_⟩
      refine qX em imm (by lia) hD (fun bs k H=>bs=((m.toL.take k).map (wg l.toL)).map V.bl) (fun _ _ _ _ h _=>h) rfl (fun k H5 p x zs' Z S5 hp hx hz' lz z=>?_) (fun H5 bs S5 hb lb eD=>?_)
      ·cases ek:lkK l.toL p.1 with
       |none=>
        refine⟨d1,_,rfl,(D1.same S5).none ek,z _ _ (iE.refl _) ?_⟩
        rw[bE,hp,bB,bB,hz']
        show _++[V.bl false]=_++[V.bl (wg l.toL p)]
        unfold wg
        rw[ek]
        rfl
       |some k'=>
        obtain⟨va,ga',_⟩:=(D1.same S5).some ek
        refine⟨d1,_,rfl,ga',z _ _ (iE.refl _) ?_⟩
        rw[bE,hp,bB,bB,hz']
        show _++[V.bl true]=_++[V.bl (wg l.toL p)]
        unfold wg
        rw[ek]
        rfl
      rw[bJ]at hb
      subst hb
      refine⟨D,_,rfl,SqL.of eD,_,rfl,?_⟩
      cases hall:(m.toL.map (wg l.toL)).all id with
      |false=>
       obtain⟨i',p',hp',hn'⟩:=BK hall
       exact mj (bad H5 (AZ hp' (.inl hn')) (S1.trans (S2.trans S5)))
      |true=>
       have S15:=S2.trans S5
       refine lD ⟨_,S15 _ _ ex1,ig (ic (j:=0) rfl) ?_⟩
       dsimp only[tC,cEq,onB]
       rw[sT (show("rec":Str)="rec" from rfl)]
       refine mj ⟨t2,rfl,⟨_,SqT.of (S5 _ _ em)⟩,fun D2 hD2=>?_⟩
       refine qX (S5 _ _ em) (imm.mono (iE.tk S5)) (by lia) hD2 (fun zs k H=>∃r,pbw l.toL m.toL (m.toL.take k)=some r/\Ims H zs (r.map pD)) (fun _ _ _ _ ⟨r,h1,h2⟩ k=>⟨r,h1,h2.mono k⟩) ⟨[],by rw[bT,pbw],.nil⟩ (fun k H6 p x zs' Z S6 hp hx hz' lz z=>?_) (fun H6 zs' S6 hz' lz eD2=>?_)
       ·obtain⟨r,hr1,hr2⟩:=hz'
        obtain⟨a',ea⟩:=BJ hall hp
        obtain⟨va,ga',ia⟩:=(D1.same (S5.trans S6)).some ea
        have hm':=rG nm (aP hp)
        refine⟨d1,va,rfl,ga',jM,fun t3 h3=>z _ _ (gZ h3 _) ⟨r++[(a',p.2)],?_,?_⟩⟩
        ·rw[bE,hp]
         exact yg hr1 ea hm'
        ·rw[bB]
         exact(hr2.mono (iE.tk (gZ h3 _))).app (.cons (iI h3 (.cons ia (.cons hx .nil))) .nil)
       ·obtain⟨r,hr1,hr2⟩:=hz'
        rw[bJ]at hr1
        have S16:=S15.trans S6
        have e6:=S16 _ _ e1
        have lr:=hr2.length
        rw[aE]at lr
        have ll:=llen r hr1
        have hs40:=oR st
        refine⟨as,D2,ws,zs',rfl,rfl,e6,eD2,by lia,fun tn hn=>?_⟩
        have s7:=gZ hn (.lst (ws++zs'))
        exact fin r _ _ _ _ _ tn _ (ws++zs') hr1 ((S1.trans S16).free hn) ((S1.trans S16).trans s7) hG (((ir1.mono (iE.tk S16)).app hr2).mono (iE.tk s7))
     ·rw[Kd.ok]at oa ob
      simp only[Kd.sz]at sa sb
      obtain⟨x1,rfl,j1⟩:=lY ix1
      obtain⟨y1,rfl,j2⟩:=lY iy1
      obtain⟨t1,rfl,f1⟩:=Dp (.cons j1 .nil) oa.2.1 (by lia)
      obtain⟨t2,rfl,f2⟩:=Dp (.cons j2 .nil) ob.2.1 (by lia)
      rw[Jp]at ex1 ey1
      refine⟨_,ex1,ig (ic (j:=0) rfl) ?_⟩
      dsimp only[tC,cEq,onB]
      rw[sF (show ¬("choice":Str)="fn" by decide+kernel)]
      refine lD ⟨_,ex1,ig (ic (j:=0) rfl) ?_⟩
      dsimp only[tC,cEq,onB]
      rw[sF (show ¬("choice":Str)="row" by decide+kernel)]
      refine lD ⟨_,ex1,ig (ic (j:=0) rfl) ?_⟩
      dsimp only[tC,cEq,onB]
      rw[sF (show ¬("choice":Str)="rec" by decide+kernel)]
      refine lD ⟨_,ex1,ig (ic (j:=0) rfl) ?_⟩
      dsimp only[tC,cEq,onB]
      rw[sT (show("choice":Str)="choice" from rfl)]
      refine mj ⟨_,ex1,ig (ic (j:=0) rfl) ?_⟩
      dsimp only[tC,cEq,onB]
      rw[sF (show ¬("choice":Str)="rec" by decide+kernel)]
      refine lD ⟨_,ex1,ig (ic (j:=1) rfl) ⟨_,ex1,ig (ic (j:=0) rfl) ?_⟩⟩
      dsimp only[tC,cEq,onB]
      rw[sF (show ¬("choice":Str)="rec" by decide+kernel)]
      obtain⟨⟨ys,el,il⟩,nl,zl⟩:=id f2
      obtain⟨ps,p1,p2,p3⟩:=II il
      have lps:ps.length=m.toL.length:=by have:=congrArg aJ p2;rw[aE,aE]at this;exact this
      have:=rJ m.toL
      refine lD ⟨_,ey1,ig (ic (j:=1) rfl) ⟨t2,ys,ps,rfl,el,p1,by lia,fun d1 hd1=>?_⟩⟩
      have S2:=gZ hd1 (.dK (jU [] (ps.map kf)))
      have D1:=DKd.new hd1 nl p2 p3
      dsimp only[iO]
      generalize upd H1 d1 (.dK (jU [] (ps.map kf)))=H4 at S2 D1⊢
      obtain⟨⟨zs,em,imm⟩,nm,zm⟩:=f1.same S2
      have lzs:=imm.length
      rw[aE]at lzs
      have:=rJ l.toL
      refine⟨t1,rfl,⟨_,SqT.of em⟩,fun D hD=>?_⟩
      refine qX em imm (by lia) hD (fun bs k H=>bs=((l.toL.take k).map (wg m.toL)).map V.bl) (fun _ _ _ _ h _=>h) rfl (fun k H5 p x zs' Z S5 hp hx hz' lz z=>?_) (fun H5 bs S5 hb lb eD=>?_)
      ·cases ek:lkK m.toL p.1 with
       |none=>
        refine⟨d1,_,rfl,(D1.same S5).none ek,z _ _ (iE.refl _) ?_⟩
        rw[bE,hp,bB,bB,hz']
        show _++[V.bl false]=_++[V.bl (wg m.toL p)]
        unfold wg
        rw[ek]
        rfl
       |some k'=>
        obtain⟨va,ga',_⟩:=(D1.same S5).some ek
        refine⟨d1,_,rfl,ga',z _ _ (iE.refl _) ?_⟩
        rw[bE,hp,bB,bB,hz']
        show _++[V.bl true]=_++[V.bl (wg m.toL p)]
        unfold wg
        rw[ek]
        rfl
      rw[bJ]at hb
      subst hb
      refine⟨D,_,rfl,SqL.of eD,_,rfl,?_⟩
      cases hall:(l.toL.map (wg m.toL)).all id with
      |false=>
       obtain⟨i',p',hp',hn'⟩:=BK hall
       exact mj (bad H5 (AZ hp' (.inr hn')) (S1.trans (S2.trans S5)))
      |true=>
       have S15:=S2.trans S5
       refine lD ⟨_,S15 _ _ ex1,ig (ic (j:=0) rfl) ?_⟩
       dsimp only[tC,cEq,onB]
       rw[sF (show ¬("choice":Str)="rec" by decide+kernel)]
       refine lD ⟨t1,rfl,⟨_,SqT.of (S5 _ _ em)⟩,fun D2 hD2=>?_⟩
       refine qX (S5 _ _ em) (imm.mono (iE.tk S5)) (by lia) hD2 (fun zs k H=>∃r,pbw l.toL m.toL (l.toL.take k)=some r/\Ims H zs (r.map pD)) (fun _ _ _ _ ⟨r,h1,h2⟩ k=>⟨r,h1,h2.mono k⟩) ⟨[],by rw[bT,pbw],.nil⟩ (fun k H6 p x zs' Z S6 hp hx hz' lz z=>?_) (fun H6 zs' S6 hz' lz eD2=>?_)
       ·obtain⟨r,hr1,hr2⟩:=hz'
        obtain⟨a',ea⟩:=BJ hall hp
        obtain⟨va,ga',ia⟩:=(D1.same (S5.trans S6)).some ea
        have hm':=rG nm (aP hp)
        refine⟨d1,va,rfl,ga',jM,fun t3 h3=>z _ _ (gZ h3 _) ⟨r++[(p.2,a')],?_,?_⟩⟩
        ·rw[bE,hp]
         exact yg hr1 hm' ea
        ·rw[bB]
         exact(hr2.mono (iE.tk (gZ h3 _))).app (.cons (iI h3 (.cons hx (.cons ia .nil))) .nil)
       ·obtain⟨r,hr1,hr2⟩:=hz'
        rw[bJ]at hr1
        have S16:=S15.trans S6
        have e6:=S16 _ _ e1
        have lr:=hr2.length
        rw[aE]at lr
        have ll:=llen r hr1
        have hs40:=oR st
        refine⟨as,D2,ws,zs',rfl,rfl,e6,eD2,by lia,fun tn hn=>?_⟩
        have s7:=gZ hn (.lst (ws++zs'))
        exact fin r _ _ _ _ _ tn _ (ws++zs') hr1 ((S1.trans S16).free hn) ((S1.trans S16).trans s7) hG (((ir1.mono (iE.tk S16)).app hr2).mono (iE.tk s7))
     ·obtain⟨x1,x2,rfl,j1,j2⟩:=pA ix1
      obtain⟨y1,y2,rfl,k1,k2⟩:=pA iy1
      rw[Jq]at ex1 ey1
      refine⟨_,ex1,ig (ic (j:=0) rfl) ?_⟩
      dsimp only[tC,cEq,onB]
      rw[sT (show("fn":Str)="fn" from rfl)]
      refine mj ⟨_,ey1,ig (ic (j:=1) rfl) ⟨_,ex1,ig (ic (j:=1) rfl) ⟨jM,fun t1 h1=>?_⟩⟩⟩
      have s2:=gZ h1 (.tup [y1,x1])
      refine⟨_,s2 _ _ ex1,ig (ic (j:=2) rfl) ⟨_,s2 _ _ ey1,ig (ic (j:=2) rfl) ⟨jM,fun t2 h2=>⟨jM,fun l2 hl2=>?_⟩⟩⟩⟩
      have s3:=s2.trans (gZ h2 (.tup [x2,y2]))
      have s4:=s3.trans (gZ hl2 (.lst [.ref t1,.ref t2]))
      have i4:Ims (upd (upd (upd H1 t1 (.tup [y1,x1])) t2 (.tup [x2,y2])) l2 (.lst [.ref t1,.ref t2])) [.ref t1,.ref t2] ([(e',c),(d,f')].map pD):= .cons (.tup ((gZ h2 (.tup [x2,y2])).trans (gZ hl2 _) _ _ hG) (.cons (k1.mono (iE.tk s4)) (.cons (j1.mono (iE.tk s4)) .nil))) (.cons (.tup (gZ hl2 _ _ _ hG) (.cons (j2.mono (iE.tk s4)) (.cons (k2.mono (iE.tk s4)) .nil))) .nil)
      have e4:(upd (upd (upd H1 t1 (.tup [y1,x1])) t2 (.tup [x2,y2])) l2 (.lst [.ref t1,.ref t2])) l2=some (.lst [.ref t1,.ref t2]):=hG
      generalize upd (upd (upd H1 t1 (.tup [y1,x1])) t2 (.tup [x2,y2])) l2 (.lst [.ref t1,.ref t2])=H4 at s4 i4 e4⊢
      have hs40:=oR st
      refine⟨as,l2,ws,_,rfl,rfl,s4 _ _ e1,e4,(by show ws.length+ 2<=fY;lia),fun tn hn=>?_⟩
      have s7:=gZ hn (.lst (ws++[.ref t1,.ref t2]))
      exact fin [(e',c),(d,f')] _ _ _ _ _ tn _ _ rfl ((S1.trans s4).free hn) ((S1.trans s4).trans s7) hG (((ir1.mono (iE.tk s4)).app i4).mono (iE.tk s7))
     ·obtain⟨x1,rfl,j1⟩:=lY ix1
      obtain⟨y1,rfl,j2⟩:=lY iy1
      rw[HH]at ex1 ey1
      refine⟨_,ex1,ig (ic (j:=0) rfl) ?_⟩
      dsimp only[tC,cEq,onB]
      rw[sF (show ¬("row":Str)="fn" by decide+kernel)]
      refine lD ⟨_,ex1,ig (ic (j:=0) rfl) ?_⟩
      dsimp only[tC,cEq,onB]
      rw[sT (show("row":Str)="row" from rfl)]
      refine mj ⟨⟨_,e1⟩,_,ex1,ig (ic (j:=1) rfl) ⟨_,ey1,ig (ic (j:=1) rfl) ⟨jM,fun t1 h1=>?_⟩⟩⟩
      have s2:=gZ h1 (.tup [x1,y1])
      have hs40:=oR st
      refine⟨ws,s2 _ _ e1,by lia,?_⟩
      have tk5:=(jP (o:= .lst (ws++[.ref t1])) (s2 _ _ e1)).tk
      exact fin [(c,d)] _ _ _ _ _ as _ (ws++[V.ref t1]) rfl fas (mD (S1.trans s2) fas _) hG (((ir1.mono (iE.tk s2)).mono tk5).app (.cons ((iI h1 (.cons j1 (.cons j2 .nil))).mono tk5) .nil))
     ·rw[HI]at ex1 ey1
      refine⟨_,ex1,ig (ic (j:=0) rfl) ?_⟩
      dsimp only[tC,cEq,onB]
      rw[sF (show ¬("num":Str)="fn" by decide+kernel)]
      refine lD ⟨_,ex1,ig (ic (j:=0) rfl) ?_⟩
      dsimp only[tC,cEq,onB]
      rw[sF (show ¬("num":Str)="row" by decide+kernel)]
      refine lD ⟨_,ex1,ig (ic (j:=0) rfl) ?_⟩
      dsimp only[tC,cEq,onB]
      rw[sF (show ¬("num":Str)="rec" by decide+kernel)]
      refine lD ⟨_,ex1,ig (ic (j:=0) rfl) ?_⟩
      dsimp only[tC,cEq,onB]
      rw[sF (show ¬("num":Str)="choice" by decide+kernel)]
      refine lD ?_
      exact fin [] _ _ _ _ _ as H1 ws rfl fas S1 e1 (by rw[aV,aF];exact ir1)
    ·rw[jR et]
     exact mj (bad H1 (Jo et hcond) S1)
def szb:Nat->Nat
 |0=>1
 |d+ 1=>3*szb d+ 1
theorem BL:∀d,1<=szb d
 |0=>cB _
 |d+ 1=>by rw[szb];lia
theorem kG {H:Hp} {t:fO} (k:Kd) {r:List V} (ht:H t=none) (h:Ims H r k.rest):Im (upd H t (.tup (.str k.tag::r))) (.ref t) k.d:=by
 rw[HR]
 exact iI ht (.cons (j0 _) h)
theorem Jr (xs:List V):qM xs none (some 3)=xs.take 3:=by
 have:HT.Internal.sIx xs.length xs.length (some ((3:Nat):Int))=min 3 xs.length:=HT.Internal.sIx_nat _ _ 3
 unfold qM
 rw[HT.Internal.sIx_none,List.drop_zero,Nat.sub_zero]
 rw[show(some (3:Int))=some ((3:Nat):Int)from rfl,this,List.take_eq_take_iff]
 lia
theorem Js {K:PySem.W.Frag} {a:fO} {ys:List V} {H:Hp} {Q:VK} (e:H a=some (.tup ys)) (q:∀b H1,iE H H1->H1 b=some (.tup (ys.take 3))->Q (.ref b) H1):IG K (.ref a) none (some 3) H Q:=by
 refine⟨a,ys,rfl,SqT.of e,fun h=>?_,fun p hp=>?_⟩
 ·rw[Jr]at h
  exact q a H (iE.refl _) (by rw[h];exact e)
 ·rw[Jr]
  exact q p _ (gZ hp _) hG
theorem xC {K:PySem.W.Frag} {a:fO} {te:TE} {Q:VK} {H1:Hp} {D:fO} {xs:List V} {u0 u1:Option V} {rest:St} (e:H1 a=some (.tup xs)) (hn:xs.length<fY) (hD:H1 D=none)
  (hel:∀(k:Nat) (v:V),xs[k]?=some v->∃t x y,v= .ref t/\H1 t=some (.tup [x,y]))
  (R:List V->Hp->Prop) (hR:∀zs H H',R zs H->TK H H'->R zs H') (h0:R [] H1)
  (step:∀(k:Nat) H t x y zs (Z:VK),iE H1 H->xs[k]?=some (.ref t)->H1 t=some (.tup [x,y])->R zs H->zs.length=k->(∀z H5,iE H H5->R (zs++[z]) H5->Z z H5)->te (some x::some y::rest) H Z)
  (hq:∀H' zs,iE H1 H'->R zs H'->zs.length=xs.length->H' D=some (.lst zs)->Q (.ref D) H'):LcG (Itt K a) (zM K 2 (mi (iO 0) (mi (iO 1) zL))) te Q (u0::u1::rest) H1 D:=by
 have nd:∀(H5:Hp) (xs ys:List V),H5 D=some (.lst xs)->TK H5 (upd H5 D (.lst ys)):=fun H5 xs ys e b zs q=>by rw[hX (iX q e (fun z=>nomatch z))];exact q
 refine⟨fun k m σ' H2=>Y5 (m=xs.length-k) (k<=xs.length) ((∃u v,σ'=u::v::rest)) (iE H1 H2) (∃zs,Y3 (H2 D=some (.lst zs)) (zs.length=k) (R zs H2)),⟨xs.length,by simp,cC _,⟨_,_,rfl⟩,gZ hD _,[],hG,rfl,hR _ _ _ h0 (iE.tk (gZ hD _))⟩,?_⟩
 rintro k m σ' H2 ⟨rfl,hk,⟨u,v,rfl⟩,S,zs,ez,lz,hz⟩
 by_cases hlt:k<xs.length
 ·refine .inr ⟨xU e S hlt,?_⟩
  rintro y H3 ⟨rfl,hy⟩
  have hy:=hy xs (SqT.of (S _ _ e))
  obtain⟨t,x,y,rfl,et⟩:=hel k _ hy
  refine⟨t,_,rfl,SqT.of (S _ _ et),rfl,_,_,rfl,_,_,rfl,rfl,?_⟩
  refine step k _ t x y zs _ S hy et hz lz fun z H5 S5 r5=>?_
  exact⟨zs,S5 D _ ez,by lia,xs.length-(k+ 1),by lia,rfl,hlt,⟨_,_,rfl⟩,mD (S.trans S5) hD _,zs++[z],hG,by rw[aQ,lz];rfl,hR _ _ _ r5 (nd H5 _ _ (S5 D _ ez))⟩
 ·have e1:k=xs.length:=by lia
  subst e1
  exact .inl ⟨xV e S,hq H2 zs S hz lz ez⟩
def Flk (ws:List Str) (g:Nat->Nat) (zs:List V) (H:Hp):Prop:=∃l:List (Str×Kd),Y4 (Ims H zs (l.map fD)) (l.map Prod.fst=ws.take zs.length) ((∀p∈l,p.2.ok)) (szL l<=g zs.length)
theorem Flk.tk {ws:List Str} {g:Nat->Nat} {zs:List V} {H H':Hp} (h:Flk ws g zs H) (k:TK H H'):Flk ws g zs H':=by
 obtain⟨l,i,r,r1,r2⟩:=h
 exact⟨l,i.mono k,r,r1,r2⟩
theorem Flk.nil {ws:List Str} {g:Nat->Nat} {H:Hp}:Flk ws g [] H:=⟨[],.nil,rfl,fun p hp=>(by cases hp),cC _⟩
theorem Flk.add {ws:List Str} {g:Nat->Nat} {zs:List V} {H:Hp} (h:Flk ws g zs H) {w:Str} {x:V} {k:Kd} {t:fO} (hw:ws[zs.length]?=some w) (ht:H t=none) (ix:Im H x k.d) (ok:k.ok) (sz:g zs.length+k.sz<=g (zs.length+ 1)):Flk ws g (zs++[.ref t]) (upd H t (.tup [.str w,x])):=by
 obtain⟨l,i,e,r,z⟩:=h
 refine⟨l++[(w,k)],?_,?_,fun p hp=>?_,?_⟩
 ·rw[bB]
  exact(i.mono (iE.tk (gZ ht _))).app (.cons (iI ht (.cons (j0 _) (.cons ix .nil))) .nil)
 ·rw[bB,e,aQ,aY,jm hw]
  rfl
 ·rcases ak.mp hp with hp|hp
  ·exact r p hp
  ·rw[bh.mp hp];exact ok
 ·rw[aQ,aY,sk,szL,szL]
  dsimp only
  lia
theorem Eo {B:Nat}:∀{l:List (Str×Kd)},(∀p∈l,p.2.sz<=B)->szL l<=l.length*B
 |[],_=>by simp[szL]
 |p::t,h=>by
  have h1:=Eo (l:=t) fun q hq=>h q (by simp[hq])
  have h2:=h p (by simp)
  rw[szL,aB,Nat.add_mul]
  lia
structure Fgd (l:Kds) (n S:Nat):Prop where
 ok:l.ok
 nd:(l.toL.map Prod.fst).Nodup
 len:l.toL.length<=n
 sz:l.sz<=S
 wl:∀p∈l.toL,p.1.length<=300
theorem fgd {l:List (Str×Kd)} {n S:Nat} (h:∀p∈l,p.2.ok) (hs:szL l<=S) (nd:(l.map Prod.fst).Nodup) (hl:l.length<=n) (hw:∀p∈l,p.1.length<=300):Fgd (ofL l) n S:=
 ⟨(lM _).mpr fun p hp=>by rw[jV]at hp;exact h p hp,by rw[jV];exact nd,by rw[jV];exact hl,by rw[mC,jV];exact hs,by rw[jV];exact hw⟩
theorem Flk.kd {ws:List Str} {g:Nat->Nat} {n:Nat} {zs:List V} {H:Hp} (h:Flk ws g zs H) (nd:ws.Nodup) (hw:∀x∈ws,x.length<=300) (hl:zs.length<=n):∃l:Kds,Ims H zs l.ds/\Fgd l n (g zs.length):=by
 obtain⟨l,i,e,r,z⟩:=h
 have li:=i.length
 rw[aE]at li
 exact⟨ofL l,by rw[tL,jV];exact i,fgd r z (by rw[e];exact nd.sublist (List.take_sublist _ _)) (by lia) fun p hp=>hw _ (bI (e▸bQ (f:=Prod.fst) hp))⟩
theorem Fgd.rcd {l:Kds} {n S:Nat} (h:Fgd l n S) (hn:n<=10):(Kd.rcd l).ok/\(Kd.rcd l).sz<=S+ 1:=by
 rw[Kd.ok,Kd.sz]
 exact⟨⟨h.ok,h.nd,cy h.len hn,h.wl⟩,cJ h.sz⟩
theorem Fgd.ch {l:Kds} {n S:Nat} (h:Fgd l n S) (hn:n<=10):(Kd.ch l).ok/\(Kd.ch l).sz<=S+ 1:=by
 rw[Kd.ok,Kd.sz]
 exact⟨⟨h.ok,h.nd,cy h.len hn,h.wl⟩,cJ h.sz⟩
def Du (n:Nat):Sp:=fun vs H Q _=>X7 fun(pp o i f:fO) (Pq:Pp) (a d:Nat)=>Y7 (vs=[.ref pp,.int (a:Int),.int (d:Int)]) (H pp=some (.lst [.ref o,.ref i,.ref f])) (L3 H o i f Pq) (Pok Pq) (a<Pq.outs.length) (d<n) (∀v (k:Kd) H',iE H H'->Im H' v k.d->k.ok->k.sz<=szb d->Q v H')
def Dv (n:Nat):Sp:=fun vs H Q _=>X7 fun(pp o i f:fO) (Pq:Pp) (a d:Nat)=>Y7 (vs=[.ref pp,.int (a:Int),.int (d:Int)]) (H pp=some (.lst [.ref o,.ref i,.ref f])) (L3 H o i f Pq) (Pok Pq) (a<Pq.ins.length) (d<n) (∀v (k:Kd) H',iE H H'->Im H' v k.d->k.ok->k.sz<=szb d->Q v H')
theorem yQ {n a B:Nat} (h:a<=B):n*B+a<=(n+ 1)*B:=by rw[Nat.add_mul];lia
theorem Ep {B:Nat} {H:Hp}:∀{bs:List fO} {ps:List (Key×V)},(∀p∈ps,∃(z:Str) (x:fO) (k:Kd),p=(.inr z,.ref x)/\Im H (.ref x) k.d/\(k.ok/\k.sz<=B)/\z.length<=300)->bs.length=ps.length->(∀(j:Nat) (b:fO) (p:Key×V),bs[j]?=some b->ps[j]?=some p->H b=some (L2.Internal.itT p))->
  ∃l:List (Str×Kd),(l.map Prod.fst).map (Sum.inr:Str->Key)=ps.map Prod.fst/\(∀q∈l,q.2.ok/\q.2.sz<=B)/\(∀q∈l,q.1.length<=300)/\Ims H (bs.map V.ref) (l.map fD)
 |[],[],_,_,_=>⟨[],rfl,fun q hq=>(by cases hq),fun q hq=>(by cases hq),.nil⟩
 |[],_::_,_,h,_=>by cases h
 |_::_,[],_,h,_=>by cases h
 |b::bs,p::ps,hp,hl,hb=>by
  obtain⟨l,h1,h2,h4,h3⟩:=Ep (bs:=bs) (ps:=ps) (fun q hq=>hp q (by simp[hq])) (by simpa using hl) (fun j b' p' e1 e2=>hb (j+ 1) b' p' (by simpa using e1) (by simpa using e2))
  obtain⟨z,x,k,rfl,ik,ok,zl⟩:=hp p (by simp)
  refine⟨(z,k)::l,by rw[aD,aD,h1];rfl,bV.mpr ⟨ok,h2⟩,bV.mpr ⟨zl,h4⟩,?_⟩
  ·exact .cons (.tup (hb 0 b _ rfl rfl) (.cons (j0 _) (.cons ik .nil))) h3
theorem HJ {m:Pm} (h:m.sh="tag"):∃z y,m= .tag z y:=by
 cases m with
 |tag z y=>exact⟨z,y,rfl⟩
 |num=>exact absurd h (show ¬("num":Str)="tag" by decide+kernel)
 |any=>exact absurd h (show ¬("any":Str)="tag" by decide+kernel)
 |fn _ _=>exact absurd h (show ¬("fn":Str)="tag" by decide+kernel)
 |rcd _=>exact absurd h (show ¬("rec":Str)="tag" by decide+kernel)
 |row _=>exact absurd h (show ¬("row":Str)="tag" by decide+kernel)
theorem HK (T:Txt K mg) (n:Nat) (gD24:FO P w base (n+ 2) T.d24 (Du n)) (gD25:FO P w base (n+ 2) T.d25 (Dv n)):
  FO P w base (n+ 1+ 2) T.d24 (Du (n+ 1)):=by
 refine T.d24.F.rd jw fun cdv A0 outer s H vs Q E hr h=>?_
 obtain⟨pp,o,i,f,Pq,a,d,rfl,epp,L,pk,ha,hd,q⟩:=h
 have hu:=vz hr
 refine⟨_,(hW (pS (i:=3) jw.nd (iq iG (iq iG (cv 0) hV) (cv 1)))
  (hW (iY (PW.pt (sC (iw jc (cv 2) hV) (oF (iw jc (iN iP rfl T.z_len jO (gY (cv 3) hI)) hV))))
   (hZ (iH (iF (gY iC hI))))
   iM)
  (hW (pS (i:=4) jw.nd (iq iA (cv 3) hV))
  (hW (iY (iw jc (iq iA (cv 4) hV) iC)
   (hZ (iH (iF (gY iC (gY (pF T.d25 gD25 (hr.mono (by lia)) (gY (cv 0) (gY (iq iA (cv 4) hV) (gY (iK l9 (cv 2) hV) hI)))) (gY (pF T.d24 gD24 (hr.mono (by lia)) (gY (cv 0) (gY (iq iA (cv 4) hV) (gY (iK l9 (cv 2) hV) hI)))) hI))))))
   iM)
  (hW (iY (iw jc (iq iA (cv 4) hV) iC)
   (hZ (iH (iF (gY iC (gY (jd jg rfl T.z_tuple jZ (gY (tE (g:=zM K 2 (mi (iO 0) (mi (iO 1) zL))) rfl (zq (x:="_law_word") (y:="_law_part") ["_law_paper_here","_law_deep"] [("_law_paper_here",0,s.heap.objs.size+ 1),("_law_deep",2,s.heap.objs.size+ 2)]) (lE (kQ uw (iq iA (cv 4) hV) nq (kY hV))) (pgP rfl iJ rfl rfl) (fun _ _ _ _ _=>(iF (gY (cv 0) (gY (pF T.d24 gD24 (hr.mono (by lia)) (gY (cv 2) (gY (cv 1) (gY (iK l9 (cv 3) hV) hI)))) hI))))) hI)) hI)))))
   iM)
  (hW (iY (iw jc (iq iA (cv 4) hV) iC)
   (hW (pS (i:=5) jw.nd pH)
   (hW (jN PassesOwn.never rfl (lE (kQ uw (cv 3) nq (kY hV))) (pN (i:=6) jw.nd)
    (hZ (iY (iw jc (iq iA (cv 6) hV) iC)
     (hZ (wF hu (cv 5) (iq iA (cv 6) hV) (pF T.d24 gD24 (hr.mono (by lia)) (gY (cv 0) (gY (iq iA (cv 6) hV) (gY (iK l9 (cv 2) hV) hI)))) rfl))
     iM)))
   (hZ (iH (iF (gY iC (gY (jd jg rfl T.z_tuple jZ (gY (iN (qG rfl) rfl T.z_sorted pK (gY (xQ eC eG eL yc (cv 5)) hI)) hI)) hI)))))))
   iM)
  (hW (iY (iw jc (iq iA (cv 4) hV) iC)
   (hZ (iH (iF (gY iC (gY (pF T.d24 gD24 (hr.mono (by lia)) (gY (cv 0) (gY (iq iA (cv 4) hV) (gY (iK l9 (cv 2) hV) hI)))) hI)))))
   iM)
  (hZ (iH (cv 4)))))))))),?_⟩
 have sl:=fZ
 obtain⟨xo,eo,io⟩:=L.o
 have lo:=io.length
 rw[aE]at lo
 obtain⟨v,hv⟩:∃v,xo[a]?=some v:=⟨_,bj (by lia)⟩
 obtain⟨l,hl,il⟩:=l8 io hv
 obtain⟨ta,ys,rfl,eta,iy⟩:=m7 il
 have ly:=iy.length
 rw[aE]at ly
 have om:=pk.ok.om l (aP hl)
 refine⟨_,epp,ig (ic (j:=0) rfl) ⟨_,eo,ig (ic hv) ?_⟩⟩
 dsimp only[iO]
 have any0:∀t,H t=none->Q (.ref t) (upd H t (.tup [.str "any"])):=fun t ht=>q _ .any _ (gZ ht _) (kG .any ht .nil) (by simp[Kd.ok]) (by rw[Kd.sz];exact BL d)
 refine sE (fun _=>mj ⟨vd,any0⟩) (fun h0=>⟨ta,ys,rfl,.inr (SqT.of eta),sE (fun _=>⟨vd,any0⟩) (fun h1=>?_)⟩)
 obtain⟨e,rfl⟩:∃e,d=e+ 1:=⟨d-1,by have:d≠0:=fun z=>h0 (by rw[z];rfl);lia⟩
 have ed:∀x:Nat,[V.ref pp,V.int (x:Int),V.int (((e+ 1:Nat):Int)-1)]=[V.ref pp,V.int (x:Int),V.int (e:Int)]:=fun x=>by rw[show((e+ 1:Nat):Int)-1=(e:Int) by lia]
 rw[szb]at q
 clear any0 h0
 cases l with
 |nil=>exact absurd (by rw[jJ (show((ys.length:Nat):Int)=0 by rw[ly];rfl)];rfl) h1
 |cons m l'=>
 cases ys with
 |nil=>cases ly
 |cons y ys'=>
 have im:Im H y m.d:=by cases iy with|cons h _=>exact h
 refine⟨_,eta,ig (ic (j:=0) rfl) ?_⟩
 dsimp only[iO]
 have mok:=om.2 m (by simp)
 have mdis:=pk.dm _ (aP hl) m (by simp)
 obtain⟨t,r,rfl,et,hs⟩:=CW im
 cases m with
 |num=>
  replace et:H t=some (.tup (.str "num"::r)):=et
  exact jt rfl et iJ (jt rfl et iJ (jt rfl et iJ (jt rfl et iJ (q _ .num H (iE.refl _) (by rw[Kd.d];exact im) (by simp[Kd.ok]) (by rw[Kd.sz];lia)))))
 |any=>
  replace et:H t=some (.tup (.str "any"::r)):=et
  exact jt rfl et iJ (jt rfl et iJ (jt rfl et iJ (jt rfl et iJ (q _ .any H (iE.refl _) (by rw[Kd.d];exact im) (by simp[Kd.ok]) (by rw[Kd.sz];lia)))))
 |fn x y=>
  obtain⟨v1,v2,rfl,j1,j2⟩:=pA hs
  rw[mV j1,mV j2]at et
  replace et:H t=some (.tup [.str "fn",.int (x:Int),.int (y:Int)]):=et
  refine kF rfl et rfl ?_
  exact⟨_,et,ig (ic (j:=1) rfl) ⟨pp,o,i,f,Pq,x,e,ed x,epp,L,pk,mok.1,by lia,fun v1 k1 H1 S1 I1 ok1 z1=>⟨_,S1 _ _ et,ig (ic (j:=2) rfl) ⟨pp,o,i,f,Pq,y,e,ed y,S1 _ _ epp,L.same S1,pk,mok.2,by lia,fun v2 k2 H2 S2 I2 ok2 z2=>⟨sW,fun t2 ht2=>q _ (.fn k1 k2) _ ((S1.trans S2).trans (gZ ht2 _)) (kG (.fn k1 k2) ht2 (.cons (I1.mono (iE.tk S2)) (.cons I2 .nil))) (by rw[Kd.ok];exact⟨ok1,ok2⟩) (by rw[Kd.sz];lia)⟩⟩⟩⟩⟩
 |row x=>
  obtain⟨v1,rfl,j1⟩:=lY hs
  rw[mV j1]at et
  replace et:H t=some (.tup [.str "row",.int (x:Int)]):=et
  refine jt rfl et iJ (jt rfl et iJ (jt rfl et iJ (kF rfl et rfl ?_)))
  exact⟨_,et,ig (ic (j:=1) rfl) ⟨pp,o,i,f,Pq,x,e,ed x,epp,L,pk,mok,by lia,fun v1 k1 H1 S1 I1 ok1 z1=>⟨jM,fun t2 ht2=>q _ (.row k1) _ (S1.trans (gZ ht2 _)) (kG (.row k1) ht2 (.cons I1 .nil)) (by rw[Kd.ok];exact ok1) (by rw[Kd.sz];lia)⟩⟩⟩
 |rcd l2=>
  obtain⟨v1,rfl,j1⟩:=lY hs
  obtain⟨tl,zs,rfl,etl,iz⟩:=m7 j1
  have lz:=iz.length
  rw[aE]at lz
  replace et:H t=some (.tup [.str "rec",.ref tl]):=et
  refine jt rfl et iJ (kF rfl et rfl ?_)
  refine⟨_,et,ig (ic (j:=1) rfl) ⟨_,rfl,Js etl fun b H1 S1 eb=>⟨b,rfl,⟨_,SqT.of eb⟩,fun D hD=>?_⟩⟩⟩
  refine xC eb (by rw[aK];lia) hD (fun k v hk=>?_) (Flk (l2.map Prod.fst) (fun n=>n*szb e)) (fun _ _ _ h k=>h.tk k) .nil ?_ ?_
  ·obtain⟨p,t',_,rfl,et'⟩:=v9 iz (mS hk).2
   exact⟨t',_,_,rfl,S1 _ _ et'⟩
  ·rintro k H2 t' x y us Z S2 hk et' hf lu z
   obtain⟨p,t2,hp,e2,et2⟩:=v9 iz (mS hk).2
   cases e2
   rw[S1 _ _ et2]at et'
   cases et'
   refine⟨pp,o,i,f,Pq,p.2,e,ed p.2,S2 _ _ (S1 _ _ epp),(L.same S1).same S2,pk,mok.2 p (aP hp),by lia,fun v2 k2 H3 S3 I3 ok3 z3=>⟨jM,fun t3 ht3=>z _ _ (S3.trans (gZ ht3 _)) ((hf.tk (iE.tk S3)).add ?_ ht3 I3 ok3 (yQ z3))⟩⟩
   rw[lu,aO,hp]
   rfl
  ·rintro H2 us S2 hf lu eD
   refine⟨D,us,rfl,.inl ⟨SqL.of eD,fun tp htp=>⟨jM,fun t3 ht3=>?_⟩⟩⟩
   obtain⟨lk,ik,fg⟩:=hf.kd (n:=3) mdis.1 (fun x hx=>by obtain⟨p,hp,rfl⟩:=bp.mp hx;exact mdis.2 p hp) (by rw[lu,aK];lia)
   exact q _ (.rcd lk) _ (((S1.trans S2).trans (gZ htp _)).trans (gZ ht3 _)) (kG (.rcd lk) ht3 (.cons (iI htp ik) .nil)) (fg.rcd (by decide)).1 (cy (fg.rcd (by decide)).2 (cJ (cP _ (by rw[lu,aK];lia))))
 |tag w0 x0=>
  replace et:H t=some (.tup (.str "tag"::r)):=et
  refine jt rfl et iJ (jt rfl et iJ (kF rfl et rfl ?_))
  refine fun dd hdd=>?_
  have S0:=gZ hdd (.dK [])
  have e0:(upd H dd (.dK [])) dd=some (.dK []):=hG
  dsimp only[iO]
  generalize upd H dd (.dK [])=H0 at S0 e0⊢
  generalize hm:Pm.tag w0 x0::l'=l at iy om hl
  generalize V.ref t::ys'=ys at iy eta
  refine⟨_,rfl,Js (S0 _ _ eta) fun b H1 S1 eb=>⟨b,rfl,⟨_,SqT.of eb⟩,qZ (xs:=ys.take 3) (fun k σ H2=>X2 fun(kvs:List (Key×V)) (o6:Option V)=>Y7 (σ=[some (.ref pp),some (.int (a:Int)),some (.int ((e+ 1:Nat):Int)),some (.ref ta),some (.ref t),some (.ref dd),o6]) (iE H H2) (TK H1 H2) (H2 dd=some (.dK kvs)) (kvs.length<=k) ((kvs.map Prod.fst).Nodup) (∀p∈kvs,∃(z:Str) (x:fO) (k:Kd),p=(.inr z,.ref x)/\Im H2 (.ref x) k.d/\(k.ok/\k.sz<=szb e)/\z.length<=300))
   ⟨[],none,rfl,S0.trans S1,fun _ _ h=>h,S1 _ _ e0,cB _,aW,fun p hp=>(by cases hp)⟩ (fun k σ H2 _ ⟨_,_,_,_,k1,_,_,_,_⟩=>SqT.of (k1 _ _ eb)) ?_ ?_⟩⟩
  ·rintro k v σ H2 hv2 ⟨kvs,o6,rfl,S2,k2,e2,lk,nd,hp⟩
   obtain⟨hk3,hv3⟩:=mS hv2
   obtain⟨m2,hm2,im2⟩:=l8 iy hv3
   obtain⟨t2,r2,rfl,et2,hs2⟩:=CW im2
   have et3:=S2 _ _ et2
   have mok2:=om.2 m2 (aP hm2)
   dsimp only[iO]
   by_cases hsh:m2.sh="tag"
   ·obtain⟨z,y,rfl⟩:=HJ hsh
    obtain⟨v1,v2,rfl,j1,j2⟩:=pA hs2
    rw[By j1,mV j2]at et3
    replace et3:H2 t2=some (.tup [.str "tag",.str z,.int (y:Int)]):=et3
    refine mU rfl et3 rfl ?_
    refine⟨_,et3,ig (ic (j:=2) rfl) ⟨pp,o,i,f,Pq,y,e,ed y,S2 _ _ epp,L.same S2,pk,mok2,by lia,fun v3 k3 H3 S3 I3 ok3 z3=>⟨_,S3 _ _ et3,ig (ic (j:=1) rfl) ?_⟩⟩⟩
    obtain⟨t3,r3,rfl,_,_⟩:=CV I3
    have tk5:TK H3 (upd H3 dd (.dK (lF kvs (.inr z) (.ref t3)))):=fun b xs q=>by rw[hX (iX q (S3 _ _ e2) (fun z=>nomatch z))];exact q
    refine⟨dd,_,rfl,Cg.k (k:= .inr z) (S3 _ _ e2) (by lia),lF kvs (.inr z) (.ref t3),_,rfl,fun b u eb=>?_,fun b xs eb=>tk5 _ _ (S3 _ _ (k2 _ _ eb)),hG,?_,wb nd,fun p hp'=>?_⟩
    ·rw[hX (ie eb hdd)]
     exact(S2.trans S3) b u eb
    ·have:=jT kvs (.inr z:Key) (V.ref t3)
     lia
    ·rcases yO hp' with h|h
     ·obtain⟨z',x,k',h1,h2,h3⟩:=hp p h
      exact⟨z',x,k',h1,(h2.mono (iE.tk S3)).mono tk5,h3⟩
     ·exact⟨z,t3,k3,h,I3.mono tk5,⟨ok3,z3⟩,pk.dm _ (aP hl) _ (aP hm2)⟩
   ·exact j9 rfl et3 hsh ⟨kvs,_,rfl,S2,k2,e2,cM lk,nd,hp⟩
  ·rintro σ H2 ⟨kvs,o6,rfl,S2,k2,e2,lk,nd,hp⟩
   have lk3:kvs.length<=3:=by rw[aK]at lk;lia
   refine⟨.inr (.inr (.inl ⟨rfl,.inl ⟨_,e2⟩⟩)),dd,kvs,rfl,rfl,e2,fun r hr=>?_⟩
   have S3:=gZ hr (.ext fun h=>h.IsItemsView r dd)
   refine⟨r,dd,kvs,rfl,hG,S3 _ _ e2,by lia,fun p h=>?_,nd,fun H' l bs ps S4 hl el pp lb hb=>?_⟩
   ·obtain⟨z,x,k,rfl,_⟩:=hp p h
    exact⟨⟨z,rfl⟩,.inr ⟨_,rfl⟩⟩
   ·obtain⟨l2,a1,a2,a4,a3⟩:=Ep (B:=szb e) (H:=H') (fun p h=>by
     obtain⟨z,x,k,h1,h2,h3⟩:=hp p (pp.mem_iff.mp h)
     exact⟨z,x,k,h1,(h2.mono (iE.tk S3)).mono (iE.tk S4),h3⟩) lb hb
    have le:=congrArg aJ a1
    rw[aE,aE,aE,pp.length_eq]at le
    have nd2:(l2.map Prod.fst).Nodup:=by
     have:=(pp.map Prod.fst).nodup_iff.mpr nd
     rw[<-a1]at this
     exact List.Pairwise.of_map _ (fun _ _ h e=>h (congrArg _ e)) this
    have fg:=fgd (n:=3) (S:=3*szb e) (fun p hp=>(a2 p hp).1) (cy (Eo fun p hp=>(a2 p hp).2) (cP _ (by lia))) nd2 (by lia) a4
    refine⟨l,_,rfl,.inl ⟨SqL.of el,fun tp htp=>⟨jM,fun t3 ht3=>?_⟩⟩⟩
    exact q _ (.ch (ofL l2)) _ (((S2.trans (S3.trans S4)).trans (gZ htp _)).trans (gZ ht3 _)) (kG (.ch (ofL l2)) ht3 (.cons (iI htp (by rw[tL,jV];exact a3)) .nil)) (fg.ch (by decide)).1 (fg.ch (by decide)).2
theorem BM {σ:St} {H:Hp} {Q:VK} {d:Int} (hd:σ[2]?=some (some (.int d))) (q:∀v (k:Kd) H',iE H H'->Im H' v k.d->k.ok->k.sz<=1->Q v H'):
  (tOp Iy (Ij (wA (HQ (wA (tC (.str "choice")) (wA (HQ DH) DH))) (wA (HQ (wA (tC (.str "any")) DH)) DH))) (tOp (cI (fun x j=>0<j) fun i j=> .int (i%j)) (cV 2) (tC (.int 2)))) σ H Q:=by
 refine⟨sr,fun t0 h0=>⟨jM,fun t1 h1=>⟨vd,fun t2 h2=>⟨jM,fun t3 h3=>?_⟩⟩⟩⟩
 have S0:=gZ h0 (.tup [])
 have S1:=gZ h1 (.tup [.str "choice",.ref t0])
 have S2:=gZ h2 (.tup [.str "any"])
 have S3:=gZ h3 (.lst [.ref t1,.ref t2])
 have i1:Im _ (.ref t1) (Kd.ch .nil).d:=kG (.ch .nil) h1 (.cons (iI h0 (by rw[Kds.ds];exact .nil)) .nil)
 have i2:Im _ (.ref t2) Kd.any.d:=kG .any h2 .nil
 show onV σ[2]? _
 rw[hd]
 refine⟨(by show(0:Int)<2;decide),_,hG,?_⟩
 have e0:=fc d (show(2:Int)≠0 by decide)
 have e1:=fj d (show(0:Int)<2 by decide)
 have z:=((S0.trans S1).trans S2).trans S3
 rcases(show d%2=0\/d%2=1 by lia)with h|h
 ·rw[h]
  exact ig (ic (j:=0) rfl) (q _ (.ch .nil) _ z ((i1.mono (iE.tk S2)).mono (iE.tk S3)) (by simp[Kd.ok,Kds.ok,Kds.toL]) (by simp[Kd.sz,Kds.sz]))
 ·rw[h]
  exact ig (ic (j:=1) rfl) (q _ .any _ z (i2.mono (iE.tk S3)) (by simp[Kd.ok]) (by simp[Kd.sz]))
theorem HL (T:Txt K mg) (n:Nat) (gD24:FO P w base (n+ 2) T.d24 (Du n)) (gD25:FO P w base (n+ 2) T.d25 (Dv n)):
  FO P w base (n+ 1+ 2) T.d25 (Dv (n+ 1)):=by
 refine T.d25.F.rd jW fun cdv A0 outer s H vs Q E hr h=>?_
 obtain⟨pp,o,i,f,Pq,a,d,rfl,epp,L,pk,ha,hd,q⟩:=h
 refine⟨_,(hW (pS (i:=3) jW.nd (iq iG (iq iG (cv 0) hV) (cv 1)))
  (hW (iY (PW.pt (sC (iw jc (cv 2) hV) (oF (iw jc (iN iP rfl T.z_len jO (gY (cv 3) hI)) hV))))
   (hZ (iH (iq iG (iZ (gY (iF (gY iC (gY (iF hI) hI))) (gY (iF (gY iC hI)) hI))) (iK ji (cv 2) hV))))
   iM)
  (hW (pS (i:=4) jW.nd (iq iA (cv 3) hV))
  (hW (iY (iw jc (iq iA (cv 4) hV) iC)
   (hZ (iH (iF (gY iC (gY (pF T.d24 gD24 (hr.mono (by lia)) (gY (cv 0) (gY (iq iA (cv 4) hV) (gY (iK l9 (cv 2) hV) hI)))) (gY (pF T.d25 gD25 (hr.mono (by lia)) (gY (cv 0) (gY (iq iA (cv 4) hV) (gY (iK l9 (cv 2) hV) hI)))) hI))))))
   iM)
  (hW (iY (iw jc (iq iA (cv 4) hV) iC)
   (hZ (iH (iF (gY iC (gY (pF T.d25 gD25 (hr.mono (by lia)) (gY (cv 0) (gY (iq iA (cv 4) hV) (gY (iK l9 (cv 2) hV) hI)))) hI)))))
   iM)
  (hW (iY (iw jc (iq iA (cv 4) hV) iC)
   (hZ (iH (cv 4)))
   iM)
  (hW (pS (i:=5) jW.nd (jd jg rfl T.z_tuple jZ (gY (tE (g:=zM K 2 (mi (iO 0) (mi (iO 1) zL))) rfl (zq (x:="_law_word") (y:="_law_part") ["_law_paper_here","_law_deep"] [("_law_paper_here",0,s.heap.objs.size+ 1),("_law_deep",2,s.heap.objs.size+ 2)]) (lE (kQ uw (iq iA (cv 4) hV) nq (kY hV))) (pgP rfl iJ rfl rfl) (fun _ _ _ _ _=>(iF (gY (cv 0) (gY (pF T.d25 gD25 (hr.mono (by lia)) (gY (cv 2) (gY (cv 1) (gY (iK l9 (cv 3) hV) hI)))) hI))))) hI)))
  (hZ (iH (iF (gY (iq iG (iZ (gY iC (gY iC hI))) (jd vj rfl T.z_int Ak (gY (nc jc (iq iA (cv 4) hV) iC) hI))) (gY (cv 5) hI)))))))))))),?_⟩
 have sl:=fZ
 obtain⟨xo,eo,io⟩:=L.i
 have lo:=io.length
 rw[aE]at lo
 obtain⟨v,hv⟩:∃v,xo[a]?=some v:=⟨_,bj (by lia)⟩
 obtain⟨l,hl,il⟩:=l8 io hv
 obtain⟨ta,ys,rfl,eta,iy⟩:=m7 il
 have ly:=iy.length
 rw[aE]at ly
 have om:=pk.ok.iu l (aP hl)
 refine⟨_,epp,ig (ic (j:=1) rfl) ⟨_,eo,ig (ic hv) ?_⟩⟩
 dsimp only[iO]
 have q0:∀v (k:Kd) H',iE H H'->Im H' v k.d->k.ok->k.sz<=1->Q v H':=fun v k H' a b c z=>q v k H' a b c (cy z (BL d))
 refine sE (fun _=>mj (BM rfl q0)) (fun h0=>⟨ta,ys,rfl,.inr (SqT.of eta),sE (fun _=>BM rfl q0) (fun h1=>?_)⟩)
 obtain⟨e,rfl⟩:∃e,d=e+ 1:=⟨d-1,by have:d≠0:=fun z=>h0 (by rw[z];rfl);lia⟩
 have ed:∀x:Nat,[V.ref pp,V.int (x:Int),V.int (((e+ 1:Nat):Int)-1)]=[V.ref pp,V.int (x:Int),V.int (e:Int)]:=fun x=>by rw[show((e+ 1:Nat):Int)-1=(e:Int) by lia]
 rw[szb]at q
 clear q0 h0
 cases l with
 |nil=>exact absurd (by rw[jJ (show((ys.length:Nat):Int)=0 by rw[ly];rfl)];rfl) h1
 |cons m l'=>
 cases ys with
 |nil=>cases ly
 |cons y ys'=>
 have im:Im H y m.d:=by cases iy with|cons h _=>exact h
 refine⟨_,eta,ig (ic (j:=0) rfl) ?_⟩
 dsimp only[iO]
 have mok:=om.2 m (by simp)
 have mdis:=pk.du _ (aP hl) m (by simp)
 obtain⟨t,r,rfl,et,hs⟩:=Hl im
 refine Classical.byContradiction fun ng=>?_
 have big:∀(s0:Str) (l2:List (Str×Nat)) (v1:V),(s0="take"\/s0="case")->H t=some (.tup [.str s0,v1])->Im H v1 (prN l2)->l2.length<=4->(∀p∈l2,p.2<Pq.ins.length)->((l2.map Prod.fst).Nodup/\∀p∈l2,p.1.length<=300)->False:=fun s0 l2 v1 h2 et j1 l4 hin nd=>ng (by
  obtain⟨tl,zs,rfl,etl,iz⟩:=m7 j1
  have lz:=iz.length
  rw[aE]at lz
  have ns:∀w:Str,w≠"take"->w≠"case"->s0≠w:=fun w a b z=>h2.elim (fun h=>a (z.symm.trans h)) fun h=>b (z.symm.trans h)
  refine jt rfl et (ns _ iJ iJ) (jt rfl et (ns _ iJ iJ) (jt rfl et (ns _ iJ iJ) ?_))
  refine⟨_,et,ig (ic (j:=1) rfl) ⟨_,rfl,Js etl fun b H1 S1 eb=>⟨b,rfl,⟨_,SqT.of eb⟩,fun D hD=>?_⟩⟩⟩
  refine xC eb (by rw[aK];lia) hD (fun k v hk=>?_) (Flk (l2.map Prod.fst) (fun n=>n*szb e)) (fun _ _ _ h k=>h.tk k) .nil ?_ ?_
  ·obtain⟨p,t',_,rfl,et'⟩:=v9 iz (mS hk).2
   exact⟨t',_,_,rfl,S1 _ _ et'⟩
  ·rintro k H2 t' x y us Z S2 hk et' hf lu z
   obtain⟨p,t2,hp,e2,et2⟩:=v9 iz (mS hk).2
   cases e2
   rw[S1 _ _ et2]at et'
   cases et'
   refine⟨pp,o,i,f,Pq,p.2,e,ed p.2,S2 _ _ (S1 _ _ epp),(L.same S1).same S2,pk,hin p (aP hp),by lia,fun v2 k2 H3 S3 I3 ok3 z3=>⟨jM,fun t3 ht3=>z _ _ (S3.trans (gZ ht3 _)) ((hf.tk (iE.tk S3)).add ?_ ht3 I3 ok3 (yQ z3))⟩⟩
   rw[lu,aO,hp]
   rfl
  ·rintro H2 us S2 hf lu eD
   refine⟨D,us,rfl,.inl ⟨SqL.of eD,fun tp htp=>?_⟩⟩
   dsimp only[iO]
   obtain⟨lk,ik,fg⟩:=hf.kd (n:=3) nd.1 (fun x hx=>by obtain⟨p,hp,rfl⟩:=bp.mp hx;exact nd.2 p hp) (by rw[lu,aK];lia)
   have fs:us.length*szb e<=3*szb e:=cP _ (by rw[lu,aK];lia)
   have S3:=(S1.trans S2).trans (gZ htp (.tup us))
   have i3:=iI htp ik
   generalize upd H2 tp (.tup us)=H3 at S3 i3⊢
   refine⟨jM,fun ls hls=>?_⟩
   have S4:=gZ hls (.lst [.str "rec",.str "choice"])
   refine⟨_,S4 _ _ (S3 _ _ et),ig (ic (j:=0) rfl) (.inr ⟨_,rfl,_,hG,?_⟩)⟩
   rcases h2 with rfl|rfl
   ·refine ig (ic (j:=0) rfl) ⟨jM,fun t3 ht3=>q _ (.rcd lk) _ ((S3.trans S4).trans (gZ ht3 _)) (kG (.rcd lk) ht3 (.cons (i3.mono (iE.tk S4)) .nil)) (fg.rcd (by decide)).1 (cy (fg.rcd (by decide)).2 (cJ fs))⟩
   ·refine ig (ic (j:=1) rfl) ⟨jM,fun t3 ht3=>q _ (.ch lk) _ ((S3.trans S4).trans (gZ ht3 _)) (kG (.ch lk) ht3 (.cons (i3.mono (iE.tk S4)) .nil)) (fg.ch (by decide)).1 (cy (fg.ch (by decide)).2 (cJ fs))⟩)
 cases m with
 |num=>
  replace et:H t=some (.tup (.str "num"::r)):=et
  exact ng (jt rfl et iJ (jt rfl et iJ (kF rfl et rfl (q _ .num H (iE.refl _) (by rw[Kd.d];exact im) (by simp[Kd.ok]) (by rw[Kd.sz];lia)))))
 |call x y=>
  obtain⟨v1,v2,rfl,j1,j2⟩:=pA hs
  rw[mV j1,mV j2]at et
  replace et:H t=some (.tup [.str "call",.int (x:Int),.int (y:Int)]):=et
  refine ng (kF rfl et rfl ?_)
  exact⟨_,et,ig (ic (j:=1) rfl) ⟨pp,o,i,f,Pq,x,e,ed x,epp,L,pk,mok.1,by lia,fun v1 k1 H1 S1 I1 ok1 z1=>⟨_,S1 _ _ et,ig (ic (j:=2) rfl) ⟨pp,o,i,f,Pq,y,e,ed y,S1 _ _ epp,L.same S1,pk,mok.2,by lia,fun v2 k2 H2 S2 I2 ok2 z2=>⟨sW,fun t2 ht2=>q _ (.fn k1 k2) _ ((S1.trans S2).trans (gZ ht2 _)) (kG (.fn k1 k2) ht2 (.cons (I1.mono (iE.tk S2)) (.cons I2 .nil))) (by rw[Kd.ok];exact⟨ok1,ok2⟩) (by rw[Kd.sz];lia)⟩⟩⟩⟩⟩
 |row x=>
  obtain⟨v1,rfl,j1⟩:=lY hs
  rw[mV j1]at et
  replace et:H t=some (.tup [.str "row",.int (x:Int)]):=et
  refine ng (jt rfl et iJ (kF rfl et rfl ?_))
  exact⟨_,et,ig (ic (j:=1) rfl) ⟨pp,o,i,f,Pq,x,e,ed x,epp,L,pk,mok,by lia,fun v1 k1 H1 S1 I1 ok1 z1=>⟨jM,fun t2 ht2=>q _ (.row k1) _ (S1.trans (gZ ht2 _)) (kG (.row k1) ht2 (.cons I1 .nil)) (by rw[Kd.ok];exact ok1) (by rw[Kd.sz];lia)⟩⟩⟩
 |take l2=>
  obtain⟨v1,rfl,j1⟩:=lY hs
  exact big "take" l2 v1 (.inl rfl) et j1 mok.1 mok.2 mdis
 |case l2=>
  obtain⟨v1,rfl,j1⟩:=lY hs
  exact big "case" l2 v1 (.inr rfl) et j1 mok.1 mok.2 mdis
theorem pY (T:Txt K mg):∀n,FO P w base (n+ 2) T.d24 (Du n)/\FO P w base (n+ 2) T.d25 (Dv n)
 |0=>by
  refine⟨T.d24.F.ok jw (fun vs H Q E h=>?_) (fun cdv A0 outer s H vs Q E hr h=>?_),T.d25.F.ok jW (fun vs H Q E h=>?_) (fun cdv A0 outer s H vs Q E hr h=>?_)⟩
  ·obtain⟨pp,o,i,f,Pq,a,d,rfl,_⟩:=h
   rfl
  ·obtain⟨pp,o,i,f,Pq,a,d,_,_,_,_,_,h,_⟩:=h
   cases h
  ·obtain⟨pp,o,i,f,Pq,a,d,rfl,_⟩:=h
   rfl
  ·obtain⟨pp,o,i,f,Pq,a,d,_,_,_,_,_,h,_⟩:=h
   cases h
 |n+ 1=>⟨HK T n (pY T n).1 (pY T n).2,HL T n (pY T n).1 (pY T n).2⟩
theorem slwd {K:PySem.W.Frag} {a:fO} {ys:List V} {H:Hp} {Q:VK} (n:Nat) (e:H a=some (.tup ys)) (q:∀b H1,iE H H1->H1 b=some (.tup (ys.drop n))->Q (.ref b) H1):IG K (.ref a) (some (n:Int)) none H Q:=by
 have c:qM ys (some (n:Int)) none=ys.drop n:=by
  unfold qM
  rw[HT.Internal.sIx_none,HT.Internal.sIx_nat]
  by_cases h:n<=ys.length
  ·rw[cQ h,cj (by rw[aX];lia)]
  ·rw[Nat.min_eq_right (by lia),cm (cB _),cm (by lia),List.take_nil]
 refine⟨a,ys,rfl,SqT.of e,fun h=>?_,fun p hp=>?_⟩
 ·rw[c]at h
  exact q a H (iE.refl _) (by rw[h];exact e)
 ·rw[c]
  exact q p _ (gZ hp _) hG
theorem tU {l m:List (Str×Kd)}:szL l<=szL (l++m)/\szL m<=szL (l++m):=by rw[sk];lia
theorem FZ (l:List (Str×Kd)) (c n:Nat):szL ((l.drop c).take n)<=szL l:=by
 have h1:=(tU (l:=(l.drop c).take n) (m:=(l.drop c).drop n)).1
 have h2:=(tU (l:=l.take c) (m:=l.drop c)).2
 rw[bS]at h1 h2
 lia
def BN (n:Nat):Sp:=fun vs H Q _=>X4 fun(x:V) (k:Kd) (c:Int) (sd:Nat)=>Y6 (vs=[x,.int c,.int (sd:Int)]) (Im H x k.d) (k.ok) (k.sz<=n) (sd<2) (∀v (k':Kd) H',iE H H'->Im H' v k'.d->k'.ok->k'.sz<=k.sz->Q v H')
section
variable {s:Str} {t u:TS} {D:qb} {σ:St} {H:Hp} {u':TS} {a:fO} {r:List V}
theorem Es (hv:σ[0]?=some (some (.ref a))) (ha:H a=some (.tup (.str s::r))) (h1:s≠"rec") (h2:s≠"choice") (q:u' D σ H):sX (tX (tOr (cT (tOp (cEq false) (tOp AA (cV 0) (tC (.int 0))) (tC (.str "rec")))) (cT (tOp (cEq false) (tOp AA (cV 0) (tC (.int 0))) (tC (.str "choice"))))) t oA) u' D σ H:=by
 show onV σ[0]? _
 rw[hv]
 refine⟨_,ha,ig (ic (j:=0) rfl) ?_⟩
 show if(false ^^ decide (s="rec"))=true then _ else onV σ[0]? _
 rw[jR h1,hv]
 refine lD ⟨_,ha,ig (ic (j:=0) rfl) ?_⟩
 show if(false ^^ decide (s="choice"))=true then _ else _
 rw[jR h2]
 exact q
theorem Ga (hv:σ[0]?=some (some (.ref a))) (ha:H a=some (.tup (.str s::r))) (h:s="rec"\/s="choice") (q:t {D with nx:=u' D} σ H):sX (tX (tOr (cT (tOp (cEq false) (tOp AA (cV 0) (tC (.int 0))) (tC (.str "rec")))) (cT (tOp (cEq false) (tOp AA (cV 0) (tC (.int 0))) (tC (.str "choice"))))) t oA) u' D σ H:=by
 show onV σ[0]? _
 rw[hv]
 refine⟨_,ha,ig (ic (j:=0) rfl) ?_⟩
 show if(false ^^ decide (s="rec"))=true then _ else onV σ[0]? _
 by_cases h1:s="rec"
 ·rw[jJ h1]
  exact q
 ·rw[jR h1,hv]
  refine lD ⟨_,ha,ig (ic (j:=0) rfl) ?_⟩
  show if(false ^^ decide (s="choice"))=true then _ else _
  rw[jJ (h.resolve_left h1)]
  exact q
end
theorem Gb (T:Txt K mg) (n:Nat) (gD26:FO P w base (n+ 3) T.d26 (BN n)):
  FO P w base (n+ 1+ 3) T.d26 (BN (n+ 1)):=by
 have gD14:=lX (P:=P) (w:=w) (base:=base) T
 refine T.d26.F.rd kD fun cdv A0 outer s H vs Q E hr h=>?_
 obtain⟨x,k,c,sd,rfl,ix,ok,sz,hsd,q⟩:=h
 refine⟨_,(hW (pS (i:=1) kD.nd (pF T.d14 gD14 (hr.mono (by lia)) (gY (cv 1) (gY (iK kq hV (cv 2)) hI))))
  (hW (iY (iw jc (iK ji (cv 1) hV) hV)
   (hZ (iH (iq iG (iZ (gY (iF (gY iC hI)) (gY (iF (gY iC (gY (iF hI) hI))) hI))) (cv 2))))
   iM)
  (hW (iY (iw jc (iq iA (cv 0) hV) iC)
   (hZ (iH (iF (gY iC (gY (pF T.d26 gD26 (hr.mono (by lia)) (gY (iq iA (cv 0) hV) (gY (iK kq (cv 1) hV) (gY (iK l9 hV (cv 2)) hI)))) (gY (pF T.d26 gD26 (hr.mono (by lia)) (gY (iq iA (cv 0) hV) (gY (iK kq (cv 1) hV) (gY (cv 2) hI)))) hI))))))
   iM)
  (hW (iY (iw jc (iq iA (cv 0) hV) iC)
   (hZ (iH (iF (gY iC (gY (pF T.d26 gD26 (hr.mono (by lia)) (gY (iq iA (cv 0) hV) (gY (iK kq (cv 1) hV) (gY (cv 2) hI)))) hI)))))
   iM)
  (hW (iY (PW.pt (sC (iw jc (iq iA (cv 0) hV) iC) (oF (iw jc (iq iA (cv 0) hV) iC))))
   (hW (pS (i:=3) kD.nd (iK vG (iK ji (iK jB (cv 1) hV) hV) (jd vj rfl T.z_int Ak (gY (nc zU (nc jc (iq iA (cv 0) hV) iC) (nc jc (cv 2) hV)) hI))))
   (hW (AS (j:=4) (g:=zM K 2 (mi (iO 0) (mi (iO 1) zL))) rfl (zq (x:="_law_word") (y:="_law_part") ["_law_side","_law_c"] [("_law_side",2,s.heap.objs.size+ 2),("_law_c",1,s.heap.objs.size+ 1)]) (lE (kQ uw (iq iA (cv 0) hV) (kY (cv 3)) nq)) (pgP rfl iJ rfl rfl) (fun _ _ _ _ _=>(iF (gY (cv 0) (gY (pF T.d26 gD26 (hr.mono (by lia)) (gY (cv 1) (gY (iK kq (cv 3) (iN qD rfl T.z_len jO (gY (cv 0) hI))) (gY (cv 2) hI)))) hI)))) kD.nd rfl (.inl rfl))
   (hZ (iH (iF (gY (iq iA (cv 0) hV) (gY (jd jg rfl T.z_tuple jZ (gY (cv 4) hI)) hI)))))))
   iM)
  (hZ (iH (cv 0)))))))),?_⟩
 have sl:=fZ
 have kp:=iR k
 refine⟨_,_,rfl,by lia,by lia,fun c _ _=>?_⟩
 dsimp only[iO]
 refine⟨(by show(0:Int)<5;decide),sE (fun _=>?_) (fun _=>?_)⟩
 ·refine⟨vd,fun t2 h2=>⟨sr,fun t0 h0=>⟨jM,fun t1 h1=>⟨jM,fun t3 h3=>⟨_,hG,?_⟩⟩⟩⟩⟩
  have S2:=gZ h2 (.tup [.str "any"])
  have S0:=gZ h0 (.tup [])
  have S1:=gZ h1 (.tup [.str "choice",.ref t0])
  have S3:=gZ h3 (.lst [.ref t2,.ref t1])
  have i1:Im _ (.ref t1) (Kd.ch .nil).d:=kG (.ch .nil) h1 (.cons (iI h0 (by rw[Kds.ds];exact .nil)) .nil)
  have i2:Im _ (.ref t2) Kd.any.d:=kG .any h2 .nil
  have z:=((S2.trans S0).trans S1).trans S3
  match sd,hsd with
  |0,_=>exact ig (ic (j:=0) rfl) (q _ .any _ z (((i2.mono (iE.tk S0)).mono (iE.tk S1)).mono (iE.tk S3)) (by simp[Kd.ok]) (by rw[Kd.sz];lia))
  |1,_=>exact ig (ic (j:=1) rfl) (q _ (.ch .nil) _ z (i1.mono (iE.tk S3)) (by simp[Kd.ok,Kds.ok,Kds.toL]) (by rw[Kd.sz,Kds.sz];lia))
 obtain⟨t,r,rfl,et,hs⟩:=CV ix
 dsimp only[oA]
 refine Classical.byContradiction fun ng=>?_
 have big:∀(s0:Str) (l:Kds) (B:Kds->Kd),(s0="rec"\/s0="choice")->H t=some (.tup (.str s0::r))->Ims H r [.tup l.ds]->Fgd l 10 l.sz->l.sz+ 1<=k.sz->(∀l',(B l').tag=s0/\(B l').rest=[.tup l'.ds])->(∀l' S,Fgd l' 10 S->(B l').ok/\(B l').sz<=S+ 1)->False:=fun s0 l B h2 et hs fg hz bt bg=>ng (by
  have ns:∀w:Str,w≠"rec"->w≠"choice"->s0≠w:=fun w a b z=>h2.elim (fun h=>a (z.symm.trans h)) fun h=>b (z.symm.trans h)
  obtain⟨tl,xs,rfl,el,il⟩:=Bp hs
  have lx:=il.length
  rw[aE]at lx
  have l10:=fg.len
  refine jt rfl et (ns _ iJ iJ) (jt rfl et (ns _ iJ iJ) ?_)
  refine Ga rfl et h2 ?_
  refine⟨⟨by decide,by decide⟩,(by show(0:Int)<2;decide),_,et,ig (ic (j:=0) rfl) ?_⟩
  have m0:=fc (c/5) (show(2:Int)≠0 by decide)
  have m1:=fj (c/5) (show(0:Int)<2 by decide)
  refine⟨rfl,.inr ⟨_,rfl,.inl ⟨by lia,by lia⟩,?_⟩⟩
  dsimp only[iO]
  generalize hb:(if decide (V.bl (false ^^ decide (s0="rec"))=V.bl (false ^^ decide ((sd:Int)=0)))=true then(1:Int)else 0)=b
  have b0:b=0\/b=1:=by rw[<-hb];split<;>simp
  obtain⟨cu,hcu⟩:∃cu:Nat,c/5%2*b=(cu:Int):=⟨(c/5%2*b).toNat,(ft (Int.mul_nonneg m0 (by lia))).symm⟩
  rw[hcu]
  refine⟨_,et,ig (ic (j:=1) rfl) ⟨(cu:Int),rfl,?_⟩⟩
  dsimp only[Af]
  refine slwd cu el fun b H1 S1 eb=>⟨b,rfl,⟨_,SqT.of eb⟩,fun D hD=>?_⟩
  have dg:∀{k:Nat} {v:V},(xs.drop cu)[k]?=some v->∃p t' x,(l.toL.drop cu)[k]?=some p/\v= .ref t'/\H t'=some (.tup [.str p.1,x])/\Im H x p.2.d:=fun{k v} hk=>by
   rw[List.getElem?_drop]at hk⊢
   exact yh il hk
  refine xC eb (by rw[aX];lia) hD (fun k v hk=>?_) (Flk ((l.toL.drop cu).map Prod.fst) (fun n=>szL ((l.toL.drop cu).take n))) (fun _ _ _ h k=>h.tk k) .nil ?_ ?_
  ·obtain⟨p,t',x,_,rfl,et',_⟩:=dg hk
   exact⟨t',_,_,rfl,S1 _ _ et'⟩
  ·rintro k' H2 t' x y us Z S2 hk et' hf lu z
   obtain⟨p,t2,x2,hp,e2,et2,ix2⟩:=dg hk
   cases e2
   rw[S1 _ _ et2]at et'
   cases et'
   have mp:p∈l.toL:=cn (aP hp)
   have wl:=fg.wl p mp
   have zp:=uz mp
   rw[<-mC]at zp
   refine⟨_,rfl,by lia,_,p.2,_,sd,rfl,(ix2.mono (iE.tk S1)).mono (iE.tk S2),(lM l).mp fg.ok p mp,by lia,hsd,fun v2 k2 H3 S3 I3 ok3 z3=>⟨jM,fun t3 ht3=>z _ _ (S3.trans (gZ ht3 _)) ((hf.tk (iE.tk S3)).add ?_ ht3 I3 ok3 ?_)⟩⟩
   ·rw[lu,aO,hp]
    rfl
   ·rw[lu,jm hp,sk,szL,szL]
    lia
  ·rintro H2 us S2 hf lu eD
   dsimp only[iO]
   have S12:=S1.trans S2
   obtain⟨lk,ik,fk⟩:=hf.kd (n:=10) (fg.nd.sublist ((List.drop_sublist _ _).map _)) (fun x hx=>by obtain⟨p,hp,rfl⟩:=bp.mp hx;exact fg.wl p (cn hp)) (by rw[lu,aX];lia)
   refine⟨_,S12 _ _ et,ig (ic (j:=0) rfl) ⟨D,us,rfl,.inl ⟨SqL.of eD,fun tp htp=>⟨jM,fun t3 ht3=>?_⟩⟩⟩⟩
   have kn:=kG (B lk) ht3 (r:=[.ref tp]) (by rw[(bt lk).2];exact .cons (iI htp ik) .nil)
   rw[(bt lk).1]at kn
   have:=FZ l.toL cu us.length
   rw[<-mC]at this
   exact q _ (B lk) _ ((S12.trans (gZ htp _)).trans (gZ ht3 _)) kn (bg lk _ fk).1 (cy (bg lk _ fk).2 (by lia)))
 cases k with
 |any=>
  replace et:H t=some (.tup (.str "any"::r)):=et
  exact ng (jt rfl et iJ (jt rfl et iJ (Es rfl et iJ iJ (q _ .any H (iE.refl _) ix ok (cB _)))))
 |num=>
  replace et:H t=some (.tup (.str "num"::r)):=et
  exact ng (jt rfl et iJ (jt rfl et iJ (Es rfl et iJ iJ (q _ .num H (iE.refl _) ix ok (cB _)))))
 |fn a b=>
  obtain⟨v1,v2,rfl,j1,j2⟩:=pA (show Ims H r [a.d,b.d]from hs)
  replace et:H t=some (.tup [.str "fn",v1,v2]):=et
  rw[Kd.ok]at ok
  rw[Kd.sz]at sz q
  refine ng (kF rfl et rfl ?_)
  exact⟨_,et,ig (ic (j:=1) rfl) ⟨v1,a,c+ 1,1-sd,by rw[show((1-sd:Nat):Int)=1-(sd:Int) by lia];rfl,j1,ok.1,by have:=iR b;lia,by lia,fun v3 k1 H1 S1 I1 ok1 z1=>⟨_,S1 _ _ et,ig (ic (j:=2) rfl) ⟨v2,b,c+ 2,sd,rfl,j2.mono (iE.tk S1),ok.2,by have:=iR a;lia,hsd,fun v4 k2 H2 S2 I2 ok2 z2=>⟨sW,fun t2 ht2=>q _ (.fn k1 k2) _ ((S1.trans S2).trans (gZ ht2 _)) (kG (.fn k1 k2) ht2 (.cons (I1.mono (iE.tk S2)) (.cons I2 .nil))) (by rw[Kd.ok];exact⟨ok1,ok2⟩) (by rw[Kd.sz];lia)⟩⟩⟩⟩⟩
 |row a=>
  obtain⟨v1,rfl,j1⟩:=lY (show Ims H r [a.d]from hs)
  replace et:H t=some (.tup [.str "row",v1]):=et
  rw[Kd.ok]at ok
  rw[Kd.sz]at sz q
  refine ng (jt rfl et iJ (kF rfl et rfl ?_))
  exact⟨_,et,ig (ic (j:=1) rfl) ⟨v1,a,c+ 1,sd,rfl,j1,ok,by lia,hsd,fun v3 k1 H1 S1 I1 ok1 z1=>⟨jM,fun t2 ht2=>q _ (.row k1) _ (S1.trans (gZ ht2 _)) (kG (.row k1) ht2 (.cons I1 .nil)) (by rw[Kd.ok];exact ok1) (by rw[Kd.sz];lia)⟩⟩⟩
 |rcd l=>
  rw[Kd.ok]at ok
  exact big "rec" l .rcd (.inl rfl) et hs ⟨ok.1,ok.2.1,ok.2.2.1,cB _,ok.2.2.2⟩ (by rw[Kd.sz];exact cB _) (fun _=>⟨rfl,rfl⟩) fun _ _ h=>h.rcd (cB _)
 |ch l=>
  rw[Kd.ok]at ok
  exact big "choice" l .ch (.inr rfl) et hs ⟨ok.1,ok.2.1,ok.2.2.1,cB _,ok.2.2.2⟩ (by rw[Kd.sz];exact cB _) (fun _=>⟨rfl,rfl⟩) fun _ _ h=>h.ch (cB _)
theorem Et (T:Txt K mg):∀n,FO P w base (n+ 3) T.d26 (BN n)
 |0=>by
  refine T.d26.F.rd kD fun cdv A0 outer s H vs Q E hr h=>?_
  ·obtain⟨x,k,c,sd,_,_,_,z,_⟩:=h
   have:=iR k
   lia
 |n+ 1=>Gb T n (Et T n)
def Dx:Nat->Sp
 |0=>fun _ _ _ _=>False
 |n+ 1=>fun vs H Q _=>X3 fun(x y:V) (d:Dt)=>Y6 (vs=[x,y]) (Dta H x d) (Dta H y d) (jQ d<=n) (okD d) (∀H',iE H H'->Q (.bl true) H')
theorem BP {K:PySem.W.Frag} {H:Hp} {a:fO} {xs:List V} (h:H a=some (.tup xs)):Ih K (.ref a) H xs.length:= .inr ⟨xs,SqT.of h,rfl⟩
theorem BQ {K:PySem.W.Frag} {H:Hp} {a:fO} {xs:List V} (h:H a=some (.lst xs)):Ih K (.ref a) H xs.length:= .inl ⟨xs,SqL.of h,rfl⟩
theorem yR (n:Nat):(aI n true).all id=true:=by
 rw[List.all_eq_true]
 intro b hb
 exact(List.mem_replicate.mp hb).2
theorem BR {J:It} {g:TG} {te:TE} {Q:VK} {τ:St} {H1:Hp} {D:fO} (n:Nat) (hn:n<fY) (hD:H1 D=none)
  (hgo:∀k H,iE H1 H->k<n->J.go k H) (hst:∀H,iE H1 H->J.stop n H)
  (step:∀(k:Nat) (H:Hp) (v:V) (H3:Hp) (R:St->V->Hp->Prop),iE H1 H->k<n->J.yld k H v H3->∀σ':St,σ'.length=τ.length->(∀(σ4:St) (H5:Hp),σ4.length=τ.length->iE H H5->R σ4 (.bl true) H5)->g v σ' H3 fun σ4 H4=>te σ4 H4 (R σ4))
  (hq:∀H',iE H1 H'->H' D=some (.lst ((aI n true).map V.bl))->Q (.ref D) H'):LcG J g te Q τ H1 D:=by
 refine⟨fun k m σ' H2=>m=n-k/\k<=n/\σ'.length=τ.length/\iE H1 H2/\H2 D=some (.lst ((aI k true).map V.bl)),⟨n,by simp,cC _,rfl,gZ hD _,hG⟩,?_⟩
 rintro k m σ' H2 ⟨rfl,hk,hl,S,e⟩
 by_cases hlt:k<n
 ·refine .inr ⟨hgo k H2 S hlt,fun v H3 y=>step k H2 v H3 (fun(σ4:St) (x:V) (H5:Hp)=>∃xs,H5 D=some (.lst xs)/\xs.length<fY/\∃m',m'<n-k/\m'=n-(k+ 1)/\k+ 1<=n/\σ4.length=τ.length/\iE H1 (upd H5 D (.lst (xs++[x])))/\(upd H5 D (.lst (xs++[x]))) D=some (.lst ((aI (k+ 1) true).map V.bl))) S hlt y σ' hl fun σ4 H5 h4 S5=>?_⟩
  refine⟨_,S5 D _ e,by rw[aE,aR];lia,n-(k+ 1),by lia,rfl,hlt,h4,yv (S.trans S5) hD _,?_⟩
  rw[hG,b9,bB]
  rfl
 ·have e1:k=n:=by lia
  subst e1
  exact .inl ⟨hst H2 S,hq H2 S e⟩
theorem pZ (T:Txt K mg):∀n,FO P w base (n+ 1) T.d13 (Dx n)
 |0=>T.d13.F.ok pO (fun vs H Q E h=>h.elim) (fun cdv A outer s H vs Q E hr h=>h.elim)
 |n+ 1=>by
  have gD13:=pZ (P:=P) (w:=w) (base:=base) T n
  refine T.d13.F.rd pO fun cdv A outer s H vs Q E hr h=>?_
  obtain⟨x,y,d,rfl,hx,hy,hd,ho,q⟩:=h
  refine⟨_,(hW (iY (vi (iN vC rfl T.z_isinstance jz (gY (pv 1) (gY (iF (gY (oH rfl T.z_list oP) (gY (oH rfl T.z_tuple jZ) hI))) hI))))
   (hW (iY (PW.pt (sC (DB (vi (iN vC rfl T.z_isinstance jz (gY (pv 0) (gY (iF (gY (oH rfl T.z_list oP) (gY (oH rfl T.z_tuple jZ) hI))) hI))))) (oF (oN wx (iN ow rfl T.z_isinstance jz (gY (pv 0) (gY (oH rfl T.z_list oP) hI))) (iN ow rfl T.z_isinstance jz (gY (pv 1) (gY (oH rfl T.z_list oP) hI)))))))
    (hZ (iH sA))
    iM)
   (hZ (iH (xG (nc zU (iN xJ rfl T.z_len jO (gY (pv 0) hI)) (iN xJ rfl T.z_len jO (gY (pv 1) hI))) (zJ (iN (xS rfl) rfl T.z_all DM (gY (tE (g:=zM K 2 (mi (iO 0) (mi (iO 1) zL))) rfl (Iv (x:="_law_one") (y:="_law_other") rfl iJ iJ rfl (by decide) rfl) (PI.or (Ap rfl T.z_zip (gY (pv 0) (gY (pv 1) hI))) (EW rfl T.z_zip (gY (pv 0) (gY (pv 1) hI)))) (pgP rfl iJ rfl rfl) (fun _ _ _ _ _=>(pF T.d13 gD13 (hr.mono (by lia)) (gY (pv 0) (gY (pv 1) hI))))) hI)))))))
   iM)
  (hW (iY (vi (iN ow rfl T.z_isinstance jz (gY (pv 1) (gY (oH rfl T.z_str DO) hI))))
   (hZ (iH (xG (iN ow rfl T.z_isinstance jz (gY (pv 0) (gY (oH rfl T.z_str DO) hI))) (zJ (nc zU (pv 0) (pv 1))))))
   iM)
  (hW (iY (vh (zI (pv 1)))
   (hZ (iH (DA (zI (pv 0)))))
   iM)
  (hZ (iH (xG (iN ow rfl T.z_isinstance jz (gY (pv 0) (gY (oH rfl T.z_int Ak) hI))) (xG (Gn (iN ow rfl T.z_isinstance jz (gY (pv 0) (gY (oH rfl T.z_bool ER) hI)))) (zJ (nc zU (pv 0) (pv 1)))))))))),?_⟩
  have sl:=fZ
  cases hy with
  |flat h=>
   cases hx
   cases x with
   |non=>
    refine⟨_,rfl,jM,fun t ht=>⟨_,t,["list","tuple"],_,false,rfl,hG,.non,rfl,_,rfl,lD ?_⟩⟩
    refine⟨_,rfl,_,_,_,_,false,rfl,fun _ r=>r,.non,rfl,_,rfl,lD ?_⟩
    refine⟨_,rfl,_,rfl,?_⟩
    rw[jJ rfl]
    refine mj ⟨_,rfl,?_⟩
    dsimp only
    rw[jJ rfl]
    exact q _ (gZ ht _)
   |int i=>
    refine⟨_,rfl,jM,fun t ht=>⟨_,t,["list","tuple"],_,false,rfl,hG,.int i,rfl,_,rfl,lD ?_⟩⟩
    refine⟨_,rfl,_,_,_,_,false,rfl,fun _ r=>r,.int i,rfl,_,rfl,lD ?_⟩
    refine⟨_,rfl,_,rfl,?_⟩
    rw[jR (fun z=>nomatch z)]
    refine lD ⟨_,rfl,_,_,_,_,true,rfl,fun _ r=>r,.int i,rfl,_,rfl,mj ⟨_,rfl,_,_,_,_,false,rfl,fun _ r=>r,.int i,rfl,_,rfl,_,rfl,mj ⟨_,rfl,_,rfl,rfl,?_⟩⟩⟩
    dsimp only
    rw[jJ rfl]
    exact q _ (gZ ht _)
   |str z=>
    refine⟨_,rfl,jM,fun t ht=>⟨_,t,["list","tuple"],_,false,rfl,hG,.str z,rfl,_,rfl,lD ?_⟩⟩
    refine⟨_,rfl,_,_,_,_,true,rfl,fun _ r=>r,.str z,rfl,_,rfl,mj ?_⟩
    refine⟨_,rfl,_,_,_,_,true,rfl,fun _ r=>r,.str z,rfl,_,rfl,mj ⟨_,rfl,_,rfl,rfl,?_⟩⟩
    dsimp only
    rw[jJ rfl]
    exact q _ (gZ ht _)
   |bl b=>cases h
   |byt b=>cases h
   |flt b=>cases h
   |ref a=>cases h
   |ty n=>cases h
  |@tup b ys ds hb hys=>
   cases hx with
   |@tup a xs _ ha hxs=>
   have lx:=hxs.length
   have ly:=hys.length
   have dd:jA ds+ 1<=n:=hd
   refine⟨_,rfl,jM,fun t ht=>⟨_,t,["list","tuple"],_,true,rfl,hG,.tup (gZ ht _ _ _ hb),rfl,_,rfl,mj ?_⟩⟩
   have S1:iE H (upd H t (.tup [V.ty "list",V.ty "tuple"])):=gZ ht _
   generalize upd H t (.tup [V.ty "list",V.ty "tuple"])=H1 at S1⊢
   refine⟨_,rfl,jM,fun t2 ht2=>⟨_,t2,["list","tuple"],_,true,rfl,hG,.tup (gZ ht2 _ _ _ (S1 _ _ ha)),rfl,_,rfl,?_⟩⟩
   have S2:iE H (upd H1 t2 (.tup [V.ty "list",V.ty "tuple"])):=S1.trans (gZ ht2 _)
   generalize upd H1 t2 (.tup [V.ty "list",V.ty "tuple"])=H2 at S2⊢
   refine lD ⟨_,rfl,_,_,_,_,false,rfl,fun _ r=>r,.tup (S2 _ _ ha),rfl,_,rfl,_,_,_,_,false,rfl,fun _ r=>r,.tup (S2 _ _ hb),rfl,rfl,_,rfl,lD ?_⟩
   refine⟨_,rfl,_,xs.length,rfl,BP (S2 _ _ ha),_,rfl,_,ys.length,rfl,BP (S2 _ _ hb),rfl,_,rfl,?_⟩
   rw[jJ (show V.int (xs.length:Int)=V.int (ys.length:Int) by rw[lx,ly])]
   cases n with
   |zero=>lia
   |succ m=>
   refine mj (.inr ⟨_,rfl,_,rfl,a,b,rfl,⟨_,SqT.of (S2 _ _ ha)⟩,⟨_,SqT.of (S2 _ _ hb)⟩,fun D hD=>?_⟩)
   refine BR xs.length (by have:=ho.1;lia) hD (fun k H3 S3 hk=>⟨xs,ys,xs[k],ys[k]'(by lia),SqT.of (S3 _ _ (S2 _ _ ha)),SqT.of (S3 _ _ (S2 _ _ hb)),bj hk,bj (by lia)⟩)
    (fun H3 S3=>⟨xs,ys,SqT.of (S3 _ _ (S2 _ _ ha)),SqT.of (S3 _ _ (S2 _ _ hb)),by lia⟩) ?_ ?_
   ·rintro k H3 v H4 R S3 hk ⟨p,x1,y1,rfl,hp,rfl,e1,e2⟩ σ' hl r
    obtain⟨u1,u2,rfl⟩:∃u1 u2,σ'=[u1,u2]:=by
     match σ',hl with
     |[u1,u2],_=>exact⟨u1,u2,rfl⟩
    have S4:iE H (upd H3 p (.tup [x1,y1])):=(S2.trans S3).trans (gZ hp _)
    obtain⟨d1,f1,g1⟩:=hxs.get (e1 xs (SqT.of (S3 _ _ (S2 _ _ ha))))
    obtain⟨d2,f2,g2⟩:=hys.get (e2 ys (SqT.of (S3 _ _ (S2 _ _ hb))))
    have ed:d2=d1:=by rw[f1]at f2;exact(cR.inj f2).symm
    subst ed
    have dp:=BO.Internal.depDs_get f1
    refine⟨p,[x1,y1],rfl,SqT.of hG,rfl,x1,[y1],rfl,y1,[],rfl,rfl,_,rfl,_,rfl,x1,y1,d2,rfl,g1.same S4,g2.same S4,by lia,ug ho.2 f1,fun H5 S5=>?_⟩
    exact r _ _ rfl ((gZ hp _).trans S5)
   ·intro H3 S3 hD3
    refine⟨D,aI xs.length true,rfl,SqL.of hD3,?_⟩
    rw[yR]
    exact q _ (S2.trans S3)
  |@lst b ys ds hb hys=>
   cases hx with
   |@lst a xs _ ha hxs=>
   have lx:=hxs.length
   have ly:=hys.length
   have dd:jA ds+ 1<=n:=hd
   refine⟨_,rfl,jM,fun t ht=>⟨_,t,["list","tuple"],_,true,rfl,hG,.lst (gZ ht _ _ _ hb),rfl,_,rfl,mj ?_⟩⟩
   have S1:iE H (upd H t (.tup [V.ty "list",V.ty "tuple"])):=gZ ht _
   generalize upd H t (.tup [V.ty "list",V.ty "tuple"])=H1 at S1⊢
   refine⟨_,rfl,jM,fun t2 ht2=>⟨_,t2,["list","tuple"],_,true,rfl,hG,.lst (gZ ht2 _ _ _ (S1 _ _ ha)),rfl,_,rfl,?_⟩⟩
   have S2:iE H (upd H1 t2 (.tup [V.ty "list",V.ty "tuple"])):=S1.trans (gZ ht2 _)
   generalize upd H1 t2 (.tup [V.ty "list",V.ty "tuple"])=H2 at S2⊢
   refine lD ⟨_,rfl,_,_,_,_,true,rfl,fun _ r=>r,.lst (S2 _ _ ha),rfl,_,rfl,_,_,_,_,true,rfl,fun _ r=>r,.lst (S2 _ _ hb),rfl,rfl,_,rfl,lD ?_⟩
   refine⟨_,rfl,_,xs.length,rfl,BQ (S2 _ _ ha),_,rfl,_,ys.length,rfl,BQ (S2 _ _ hb),rfl,_,rfl,?_⟩
   rw[jJ (show V.int (xs.length:Int)=V.int (ys.length:Int) by rw[lx,ly])]
   cases n with
   |zero=>lia
   |succ m=>
   refine mj (.inl ⟨_,rfl,_,rfl,a,b,rfl,⟨_,SqL.of (S2 _ _ ha)⟩,⟨_,SqL.of (S2 _ _ hb)⟩,fun D hD=>?_⟩)
   refine BR xs.length (by have:=ho.1;lia) hD (fun k H3 S3 hk=>⟨xs,ys,xs[k],ys[k]'(by lia),SqL.of (S3 _ _ (S2 _ _ ha)),SqL.of (S3 _ _ (S2 _ _ hb)),bj hk,bj (by lia)⟩)
    (fun H3 S3=>⟨xs,ys,SqL.of (S3 _ _ (S2 _ _ ha)),SqL.of (S3 _ _ (S2 _ _ hb)),by lia⟩) ?_ ?_
   ·rintro k H3 v H4 R S3 hk ⟨p,x1,y1,rfl,hp,rfl,e1,e2⟩ σ' hl r
    obtain⟨u1,u2,rfl⟩:∃u1 u2,σ'=[u1,u2]:=by
     match σ',hl with
     |[u1,u2],_=>exact⟨u1,u2,rfl⟩
    have S4:iE H (upd H3 p (.tup [x1,y1])):=(S2.trans S3).trans (gZ hp _)
    obtain⟨d1,f1,g1⟩:=hxs.get (e1 xs (SqL.of (S3 _ _ (S2 _ _ ha))))
    obtain⟨d2,f2,g2⟩:=hys.get (e2 ys (SqL.of (S3 _ _ (S2 _ _ hb))))
    have ed:d2=d1:=by rw[f1]at f2;exact(cR.inj f2).symm
    subst ed
    have dp:=BO.Internal.depDs_get f1
    refine⟨p,[x1,y1],rfl,SqT.of hG,rfl,x1,[y1],rfl,y1,[],rfl,rfl,_,rfl,_,rfl,x1,y1,d2,rfl,g1.same S4,g2.same S4,by lia,ug ho.2 f1,fun H5 S5=>?_⟩
    exact r _ _ rfl ((gZ hp _).trans S5)
   ·intro H3 S3 hD3
    refine⟨D,aI xs.length true,rfl,SqL.of hD3,?_⟩
    rw[yR]
    exact q _ (S2.trans S3)
theorem Dy (ns:List Int) (lo hi:Option Int):∃ms:List Int,qM (ns.map V.int) lo hi=ms.map V.int/\ms.length<=ns.length:=by
 refine⟨(ns.drop (HT.Internal.sIx (ns.map V.int).length 0 lo)).take (HT.Internal.sIx (ns.map V.int).length (ns.map V.int).length hi-HT.Internal.sIx (ns.map V.int).length 0 lo),?_,?_⟩
 ·unfold qM
  rw[<-List.map_drop,<-List.map_take]
 ·rw[aK,aX]
  lia
def HU (Pq:Pp):Dt:= .lst [.lst (Pq.outs.map Ed),.lst (Pq.ins.map inD),.lst (Pq.fls.map zD)]
theorem L3.da {H:Hp} {o i f:fO} {Pq:Pp} (h:L3 H o i f Pq):tG H [.ref o,.ref i,.ref f] [.lst (Pq.outs.map Ed),.lst (Pq.ins.map inD),.lst (Pq.fls.map zD)]:=by
 obtain⟨⟨x,h1,h2⟩,⟨y,h3,h4⟩,⟨z,h5,h6⟩⟩:=h
 exact .cons (.lst h1 h2.das) (.cons (.lst h3 h4.das) (.cons (.lst h5 h6.das) .nil))
theorem BS {l:List (Str×Nat)} (h:l.length<=4):okD (prN l):=⟨by rw[aE];lia,l7 fun x _=>⟨by show 2<=100000;decide,trivial,trivial,trivial⟩⟩
theorem BU {m:Pm} {no ni:Nat} (h:m.ok no ni):jQ m.d<=3/\okD m.d:=by
 cases m with
 |rcd l=>
  refine⟨?_,by show 2<=100000;decide,trivial,BS h.1,trivial⟩
  have:=tS l
  show max (jQ (sD _)) (max (jQ (prN l)) 0)+ 1<=3
  simp only[sD,jQ]
  lia
 |_=>simp[Pm.d,Pm.rest,sD,nI,iD,jQ,jA,okD,vF]
theorem BV {m:Pu} {no ni:Nat} (h:m.ok no ni):jQ m.d<=3/\okD m.d:=by
 cases m with
 |take l=>
  refine⟨?_,by show 2<=100000;decide,trivial,BS h.1,trivial⟩
  have:=tS l
  show max (jQ (sD _)) (max (jQ (prN l)) 0)+ 1<=3
  simp only[sD,jQ]
  lia
 |case l=>
  refine⟨?_,by show 2<=100000;decide,trivial,BS h.1,trivial⟩
  have:=tS l
  show max (jQ (sD _)) (max (jQ (prN l)) 0)+ 1<=3
  simp only[sD,jQ]
  lia
 |_=>simp[Pu.d,Pu.rest,sD,nI,iD,jQ,jA,okD,vF]
theorem Dz {Pq:Pp} (ok:Pq.ok):jQ (HU Pq)<=6/\okD (HU Pq):=by
 have d1:jA (Pq.outs.map Ed)<=4:=lH fun l hl=>cJ (lH fun m hm=>(BU ((ok.om l hl).2 m hm)).1)
 have d2:jA (Pq.ins.map inD)<=4:=lH fun l hl=>cJ (lH fun m hm=>(BV ((ok.iu l hl).2 m hm)).1)
 have d3:jA (Pq.fls.map zD)<=4:=lH fun p _=>by simp[zD,nI,iD,jQ,jA]
 refine⟨?_,by show 3<=100000;decide,⟨by rw[aE];have:=ok.o8;lia,l7 fun l hl=>⟨by rw[aE];have:=(ok.om l hl).1;lia,l7 fun m hm=>(BU ((ok.om l hl).2 m hm)).2⟩⟩,⟨by rw[aE];have:=ok.i8;lia,l7 fun l hl=>⟨by rw[aE];have:=(ok.iu l hl).1;lia,l7 fun m hm=>(BV ((ok.iu l hl).2 m hm)).2⟩⟩,⟨by rw[aE];have:=ok.ff.1;lia,l7 fun p _=>⟨by show 2<=100000;decide,trivial,trivial,trivial⟩⟩,trivial⟩
 simp only[HU,jQ,jA]
 lia
theorem yS {a b:Kd}:∀{n m:Nat},n<=m->SM.Internal.leF n a b->SM.Internal.leF m a b:=by
 intro n
 induction n generalizing a b with
 |zero=>intro m _ h;exact h.elim
 |succ n ih=>
  intro m hm ⟨l,e,h⟩
  cases m with
  |zero=>lia
  |succ m=>exact⟨l,e,fun p hp=>ih (by lia) (h p hp)⟩
theorem Eu:∀{l:List (Kd×Kd)},(∀p∈l,SM.Internal.Le p.1 p.2)->∃n,∀p∈l,SM.Internal.leF n p.1 p.2
 |[],_=>⟨0,fun p hp=>by cases hp⟩
 |p::t,h=>by
  obtain⟨n,hn⟩:=Eu (l:=t) fun q hq=>h q (by simp[hq])
  obtain⟨m,hm⟩:=h p (by simp)
  refine⟨n+m,fun q hq=>?_⟩
  rcases aj.mp hq with rfl|hq
  ·exact yS (by lia) hm
  ·exact yS (by lia) (hn q hq)
theorem BW:∀(f:Nat) (st:List (Kd×Kd)),szp st<=f->(∀p∈st,G p.1/\G p.2)->CD f st=true->∀p∈st,SM.Internal.Le p.1 p.2
 |_,[],_,_,_,p,hp=>by cases hp
 |0,q::st,h,_,_,p,_=>by
  have:=iR q.1
  rw[szp]at h
  lia
 |f+ 1,q::st,h,g,u,p,hp=>by
  rw[CD]at u
  have gq:=g q (by simp)
  cases e:pw q.1 q.2 with
  |none=>rw[e]at u;cases u
  |some l=>
   rw[e]at u
   have z:=E9 e gq.1.1 gq.2.1
   rw[szp]at h
   have ih:=BW f (l.reverse++st) (by rw[uA,wN];lia) (fun r hr=>by
    rcases ak.mp hr with hr|hr
    ·exact AY e gq.1 gq.2 r (ck.mp hr)
    ·exact g r (by simp[hr])) u
   rcases aj.mp hp with rfl|hp
   ·obtain⟨n,hn⟩:=Eu (l:=l) fun r hr=>ih r (ao _ (ck.mpr hr))
    exact⟨n+ 1,l,e,hn⟩
   ·exact ih p (az _ hp)
theorem HM {a b:Kd} (ga:G a) (gb:G b) (h:und a b=true):SM.Internal.Le a b:=
 BW _ [(a,b)] (by rw[szp,szp];exact cB _) (fun p hp=>by rw[bh.mp hp];exact⟨ga,gb⟩) h (a,b) (by simp)
theorem Jt (ns:List Int):∃ms:List Int,qM (ns.map V.int) (some 1) (some 33)=ms.map V.int/\ms.length<=32:=by
 refine⟨(ns.drop (HT.Internal.sIx (ns.map V.int).length 0 (some ((1:Nat):Int)))).take (HT.Internal.sIx (ns.map V.int).length (ns.map V.int).length (some ((33:Nat):Int))-HT.Internal.sIx (ns.map V.int).length 0 (some ((1:Nat):Int))),?_,?_⟩
 ·unfold qM
  rw[<-List.map_drop,<-List.map_take]
  rfl
 ·rw[aK,HT.Internal.sIx_nat,HT.Internal.sIx_nat,aX]
  lia
def Kl (H:Hp) (r:fO) (ks:List Kd):Prop:=∃vs,Y4 (H r=some (.lst vs)) (Ims H vs (ks.map Kd.d)) (ks.length<=5) (∀k∈ks,G k)
theorem Kl.same {H H':Hp} {r:fO} {ks:List Kd} (h:Kl H r ks) (S:iE H H'):Kl H' r ks:=by
 obtain⟨vs,e,i,z,y⟩:=h
 exact⟨vs,S _ _ e,i.mono (iE.tk S),z,y⟩
theorem Kl.upd {H:Hp} {r a:fO} {ks:List Kd} {xs ys:List V} (h:Kl H r ks) (e:H a=some (.lst xs)) (n:r≠a):Kl (upd H a (.lst ys)) r ks:=by
 obtain⟨vs,e',i,z,y⟩:=h
 exact⟨vs,by rw[hX n];exact e',i.mono (jP e).tk,z,y⟩
theorem Gd (T:Txt K mg) {a:fO} {fd:gu} (F:Fun K "law" "law" uI a fd):vf P w K mg base CX0 100 a fd ["_law_script"] (yu K):=by
 have gD12:=u7 (P:=P) (w:=w) (base:=base) T
 have gD23:=vb (P:=P) (w:=w) (base:=base) T
 have gE44:=qA (P:=P) (w:=w) (base:=base) T
 have gD24:=(pY (P:=P) (w:=w) (base:=base) T 4).1
 have gD26:=Et (P:=P) (w:=w) (base:=base) T 40
 have gD19:=sq (P:=P) (w:=w) (base:=base) T
 have gD11:=Dg (P:=P) (w:=w) (base:=base) T
 have gD27:=vc (P:=P) (w:=w) (base:=base) T
 have gD13:=pZ (P:=P) (w:=w) (base:=base) T 8
 refine F.rd mX fun cdv A0 outer s H vs Q E hr h=>?_
 obtain⟨ad,ns,rfl,hsq,hlen,q⟩:=h
 refine⟨_,(hW (pS (i:=1) mX.nd (iK ji (iN (Ar rfl) rfl T.z_sum DN (gY (kQ ub (cv 0) nq (kY hV)) hI)) (iK xZ hV hV)))
  (hW (pS (i:=2) mX.nd (pF T.d12 gD12 hr.m (gY (cv 1) hI)))
  (hW (pS (i:=3) mX.nd (pF T.d23 gD23 hr.m (gY (cv 2) (gY (iK kq (iK ji (iK jB (cv 1) hV) hV) (iK vG (iK ji (iK jB (cv 1) hV) hV) hV)) (gY (kQ ub (cv 0) (kY hV) (kY hV)) hI)))))
  (hW (pS (i:=4) mX.nd (ku T.mk9 gE44 hr.m rfl T.c9.m T.e44.b .nil jq (gY (jd nv rfl T.z_list oP (gY (iq iG (cv 3) hV) hI)) (gY (jd nv rfl T.z_list oP (gY (iq iG (cv 3) hV) hI)) (gY (jd nv rfl T.z_list oP (gY (iq iG (cv 3) hV) hI)) hI)))))
  (hW (pS (i:=5) mX.nd (pF T.d24 gD24 hr.m (gY (cv 3) (gY hV (gY hV hI)))))
  (hW (pS (i:=6) mX.nd (pF T.d26 gD26 hr.m (gY (cv 5) (gY (cv 1) (gY hV hI)))))
  (hW (pS (i:=7) mX.nd (iZ (gY (iZ (gY (iF (gY iC (gY (iF hI) hI))) (gY (cv 5) (gY (cv 6) (gY (pF T.d26 gD26 hr.m (gY (cv 6) (gY (iK jB (cv 1) hV) (gY hV hI)))) (gY (iF (gY iC hI)) hI)))))) hI)))
  (hW (iS (lJ (ny eI eJ eK jh (PE.mono (cv 7)) (gY (PE.mono (kQ ub (iq iG (pF T.d19 gD19 hr.m (gY (cv 2) (gY (iK qE (kQ ub (cv 0) (kY hV) (kY hV)) (iZ (gY hV hI))) (gY hV (gY hV hI))))) (Ib Gw hV)) nq (kY hV))) hI))))
  (hW (jN PassesOwn.never rfl (j3 (cv 7)) (pN (i:=8) mX.nd)
   (hW (pJ (j:=9) rfl (zB (x:="_law_one") ["_law_paper_here"] [("_law_paper_here",4,s.heap.objs.size+ 1)]) (j3 (cv 8)) (fun _ _ _ _ _=>jL) (fun _ _ _ _ _=>(pF T.d11 gD11 hr.m (gY (cv 1) (gY (cv 0) hI)))) mX.nd rfl (.inl rfl))
   (hZ (jN PassesOwn.never rfl (jS rfl T.z_range (gY (iN iP rfl T.z_len jO (gY (cv 8) hI)) hI)) (pN (i:=10) mX.nd)
    (hZ (jN PassesOwn.never rfl (jS rfl T.z_range (gY (iN iP rfl T.z_len jO (gY (cv 8) hI)) hI)) (pN (i:=11) mX.nd)
     (hZ (iY (PW.pt (xF (iw rF (iq iG (cv 9) (cv 10)) sA) (xF (iw rF (iq iG (cv 9) (cv 11)) sA) (wt (vi (pF T.d27 gD27 hr.m (gY (iq iG (cv 8) (cv 10)) (gY (iq iG (cv 8) (cv 11)) hI))))))))
      (hZ (iH sA))
      iM))))))))
  (hW (iY (iw rF (pF T.d11 gD11 hr.m (gY (cv 4) (gY (iF (gY iC hI)) hI))) sA)
   (hZ (iH sA))
   iM)
  (hZ (iH (pF T.d13 gD13 hr.m (gY (iZ (gY (iQ T.c9.cl T.n9outs (cv 4)) (gY (iQ T.c9.cl T.n9ins (cv 4)) (gY (iQ T.c9.cl T.n9flows (cv 4)) hI)))) (gY (cv 3) hI))))))))))))))),?_⟩
 have sl:=fZ
 obtain⟨ms,em,lm⟩:=Dy ns none (some 1)
 refine⟨_,rfl,ad,_,rfl,hsq,fun c1 hc1=>⟨c1,ms,rfl,SqL.of (by rw[hG,em]),fun n0=>⟨⟨by decide,by decide,by decide⟩,(by show(0:Int)<10^(30:Int).toNat;decide+kernel),?_⟩⟩⟩
 dsimp only[iO]
 generalize n0%10^(30:Int).toNat=c
 refine⟨c,rfl,fun wl Hw S1 _ hw=>?_⟩
 have Sw:=(gZ hc1 (.lst (qM (ns.map V.int) none (some 1)))).trans S1
 dsimp only[iO]
 obtain⟨k1,ek1,lk1⟩:=Jt ns
 have a0:=fc (c/35) (show(6:Int)≠0 by decide)
 have a1:=fj (c/35) (show(0:Int)<6 by decide)
 refine⟨⟨by decide,by decide⟩,(by show(0:Int)<5;decide),⟨by decide,by decide⟩,(by show(0:Int)<6;decide),.inl ⟨by lia,by lia⟩,_,rfl,_,rfl,ad,_,rfl,Sw.seq hsq,fun c2 hc2=>?_⟩
 have s2:=gZ hc2 (.lst (qM (ns.map V.int) (some 1) (some 33)))
 have e2:(upd Hw c2 (.lst (qM (ns.map V.int) (some 1) (some 33)))) c2=some (.lst (k1.map V.int)):=by rw[hG,ek1]
 refine⟨wl,c2,_,k1,rfl,oj hw s2,e2,lk1,fun pp o i f Pq H2 S2 _ _ epp L pk=>?_⟩
 have S02:=(Sw.trans s2).trans S2
 have hw2:=oj hw (s2.trans S2)
 clear s2 e2 hc2 S2 hw S1 Sw hc1
 dsimp only[iO]
 obtain⟨xo,eo,io⟩:=L.o
 obtain⟨xi,ei,ii⟩:=L.i
 obtain⟨xf,ef,jf⟩:=L.f
 refine⟨_,epp,ig (ic (j:=0) rfl) ⟨o,_,rfl,.inl (SqL.of eo),fun l1 hl1=>?_⟩⟩
 have t1:=gZ hl1 (.lst xo)
 refine⟨_,t1 _ _ epp,ig (ic (j:=1) rfl) ⟨i,_,rfl,.inl (SqL.of (t1 _ _ ei)),fun l2 hl2=>?_⟩⟩
 have t2:=gZ hl2 (.lst xi)
 refine⟨_,t2 _ _ (t1 _ _ epp),ig (ic (j:=2) rfl) ⟨f,_,rfl,.inl (SqL.of (t2 _ _ (t1 _ _ ef))),fun l3 hl3 x dx hx hdx nx=>?_⟩⟩
 have t3:=gZ hl3 (.lst xf)
 refine⟨x,dx,l1,l2,l3,rfl,hG,rfl,?_⟩
 rw[jk]
 have t4:=iW (o:= .ins T.c9.a dx (fP l1 l2 l3)) hx hdx
 have Px:zy T.c9.a (upd (upd (upd (upd (upd H2 l1 (.lst xo)) l2 (.lst xi)) l3 (.lst xf)) dx (.own x)) x (.ins T.c9.a dx (fP l1 l2 l3))) x l1 l2 l3:=⟨dx,hG⟩
 dsimp only[iO]
 generalize upd (upd (upd (upd (upd H2 l1 (.lst xo)) l2 (.lst xi)) l3 (.lst xf)) dx (.own x)) x (.ins T.c9.a dx (fP l1 l2 l3))=H3 at Px t4⊢
 have T14:=((t1.trans t2).trans t3).trans t4
 have Lx:L3 H3 l1 l2 l3 Pq:=⟨⟨xo,(t2.trans (t3.trans t4)) _ _ hG,io.mono (iE.tk T14)⟩,⟨xi,(t3.trans t4) _ _ hG,ii.mono (iE.tk T14)⟩,⟨xf,t4 _ _ hG,jf.mono (iE.tk T14)⟩⟩
 have L2':=L.same T14
 have epp2:=T14 _ _ epp
 have S03:=S02.trans T14
 have hw3:=oj hw2 T14
 clear t1 t2 t3 t4 hl1 hl2 hl3 hx hdx nx L epp eo ei ef io ii jf S02 hw2 T14
 refine⟨pp,o,i,f,Pq,0,3,rfl,epp2,L2',pk,pk.ok.o1,by decide,fun kv kk H4 S4 i4 ok4 z4=>?_⟩
 replace z4:kk.sz<=40:=z4
 dsimp only[iO]
 refine⟨kv,kk,c,0,rfl,i4,ok4,z4,by decide,fun wv wk H5 S5 i5 ok5 z5=>?_⟩
 dsimp only[iO]
 refine⟨sr,fun t0 h0=>⟨jM,fun t1 h1=>?_⟩⟩
 have s0:=gZ h0 (.tup [])
 have s1:=gZ h1 (.tup [.str "choice",.ref t0])
 have i1:Im (upd (upd H5 t0 (.tup [])) t1 (.tup [.str "choice",.ref t0])) (.ref t1) (Kd.ch .nil).d:=kG (.ch .nil) h1 (.cons (iI h0 (by rw[Kds.ds];exact .nil)) .nil)
 have S51:=s0.trans s1
 generalize upd (upd H5 t0 (.tup [])) t1 (.tup [.str "choice",.ref t0])=H5' at S51 i1⊢
 refine⟨⟨by decide,by decide⟩,wv,wk,c/3,0,rfl,i5.mono (iE.tk S51),ok5,by lia,by decide,fun wv2 wk2 H6 S6 i6 ok6 z6=>⟨vd,fun t2 h2=>⟨zln5,fun r1 hr1=>⟨vd,fun rs hrs=>?_⟩⟩⟩⟩
 have s2:=gZ h2 (.tup [.str "any"])
 have s3:=gZ hr1 (.lst [.ref t1,kv,wv,wv2,.ref t2])
 have s4:=gZ hrs (.lst [.ref r1])
 have i2:Im (upd H6 t2 (.tup [.str "any"])) (.ref t2) Kd.any.d:=kG .any h2 .nil
 have s34:=s3.trans s4
 have K1:Kl (upd (upd (upd H6 t2 (.tup [.str "any"])) r1 (.lst [.ref t1,kv,wv,wv2,.ref t2])) rs (.lst [.ref r1])) r1 [.ch .nil,kk,wk,wk2,.any]:=by
  have k6:=iE.tk (s2.trans s34)
  have k5:=iE.tk (S51.trans S6)
  refine⟨_,s4 _ _ hG,.cons ((i1.mono (iE.tk S6)).mono k6) (.cons (((i4.mono (iE.tk S5)).mono k5).mono k6) (.cons ((i5.mono k5).mono k6) (.cons (i6.mono k6) (.cons (i2.mono (iE.tk s34)) .nil)))),cB _,fun k hk=>?_⟩
  simp only[aj,bo,or_false]at hk
  rcases hk with rfl|rfl|rfl|rfl|rfl
  ·exact⟨by simp[Kd.ok,Kds.ok,Kds.toL],by simp[Kd.sz,Kds.sz]⟩
  ·exact⟨ok4,z4⟩
  ·exact⟨ok5,by lia⟩
  ·exact⟨ok6,by lia⟩
  ·exact⟨by simp[Kd.ok],by simp[Kd.sz]⟩
 have ers:(upd (upd (upd H6 t2 (.tup [.str "any"])) r1 (.lst [.ref t1,kv,wv,wv2,.ref t2])) rs (.lst [.ref r1])) rs=some (.lst [.ref r1]):=hG
 have S37:=((S4.trans S5).trans (S51.trans S6)).trans (s2.trans s34)
 have nr1:r1≠rs:=ie (hG (H:=upd H6 t2 (.tup [.str "any"])) (a:=r1) (o:= .lst [.ref t1,kv,wv,wv2,.ref t2])) hrs
 have frs:H3 rs=none:=kO (((S4.trans S5).trans (S51.trans S6)).trans (s2.trans s3)) hrs
 dsimp only[iO]
 generalize upd (upd (upd H6 t2 (.tup [.str "any"])) r1 (.lst [.ref t1,kv,wv,wv2,.ref t2])) rs (.lst [.ref r1])=H7 at K1 ers S37⊢
 clear i1 i2 i4 i5 i6 s0 s1 s2 s3 s4 s34 S51 S6 S5 S4 h0 h1 h2 hr1 hrs z4 z5 z6 ok4 ok5 ok6
 refine⟨⟨_,ers⟩,_,rfl,_,rfl,ad,_,rfl,(S03.trans S37).seq hsq,fun c3 hc3=>⟨vd,fun c4 hc4=>?_⟩⟩
 have s2:=gZ hc3 (.lst (qM (ns.map V.int) (some 1) (some 33)))
 have s3:=gZ hc4 (.lst [.int 0])
 refine⟨c3,c4,_,_,rfl,rfl,s3 _ _ hG,hG,?_,fun c5 hc5=>?_⟩
 ·rw[ek1,aE]
  show k1.length+ 1<=fY
  lia
 have s5:=gZ hc5 (.lst (qM (ns.map V.int) (some 1) (some 33)++[.int 0]))
 have e5:(upd (upd (upd H7 c3 (.lst (qM (ns.map V.int) (some 1) (some 33)))) c4 (.lst [.int 0])) c5 (.lst (qM (ns.map V.int) (some 1) (some 33)++[.int 0]))) c5=some (.lst ((k1++[0]).map V.int)):=by rw[hG,ek1,bB];rfl
 have S75:=(s2.trans s3).trans s5
 refine⟨wl,c5,k1++[0],3,rfl,oj hw3 (S37.trans S75),e5,by rw[aQ,aY];lia,by simp,fun st xs t H8 S8 _ est tr=>?_⟩
 have S78:=S75.trans S8
 refine⟨1,rfl,_,est,ig (Cp xs _) ⟨_,rfl,?_⟩⟩
 obtain⟨ys,ks,ti,tj,et,ik,lk,hk,t1,t2⟩:=tr
 have ly:=ik.length
 rw[aE,lk]at ly
 refine⟨t,_,rfl,SqL.of et,fun r2 hr2=>?_⟩
 have ct:qM (ys++[.int ti,.int tj]) none (some 3)=ys:=by rw[Jr,bX (by lia),cj (by lia)]
 rw[ct]
 have s9:=gZ hr2 (.lst ys)
 have K2:Kl (upd H8 r2 (.lst ys)) r2 ks:=⟨ys,hG,ik.mono (iE.tk s9),by lia,fun k h=>⟨(hk k h).1,by have:=(hk k h).2;lia⟩⟩
 have S79:=S78.trans s9
 generalize upd H8 r2 (.lst ys)=H9 at K2 S79⊢
 have ers9:=S79 _ _ ers
 have nr2:r2≠rs:=(ie (S78 _ _ ers) hr2).symm
 refine⟨_,ers9,by show 1<fY;lia,?_⟩
 have k1':=(K1.same S79).upd (ys:=[.ref r1]++[.ref r2]) ers9 nr1
 have k2':=K2.upd (ys:=[.ref r1]++[.ref r2]) ers9 nr2
 have SX:iE H3 (upd H9 rs (.lst ([.ref r1]++[.ref r2]))):=mD (S37.trans S79) frs _
 have ersX:(upd H9 rs (.lst ([.ref r1]++[.ref r2]))) rs=some (.lst ([.ref r1]++[.ref r2])):=hG
 dsimp only[iO]
 generalize upd H9 rs (.lst ([.ref r1]++[.ref r2]))=HX at k1' k2' SX ersX⊢
 have PX:=Px.fk (iE.fk SX)
 have LX:=Lx.same SX
 have eppX:=SX _ _ epp2
 have LX':=L2'.same SX
 clear K1 K2 nr1 nr2 ers ers9 S79 s9 hr2 ct et ik lk hk t1 t2 ly est S8 S78 S75 s2 s3 s5 e5 hc3 hc4 hc5 S37 frs Px Lx epp2 L2' S03 hw3
 refine⟨rs,rfl,⟨_,SqL.of ersX⟩,lq (xs:=[.ref r1]++[.ref r2]) (fun j σ H=>X4 fun(o8 o9 o10 o11:Option V)=>σ=[some (.ref ad),some (.int c),some (.ref wl),some (.ref pp),some (.ref x),some kv,some wv,some (.ref rs),o8,o9,o10,o11]/\iE HX H)
  ⟨none,none,none,none,rfl,iE.refl _⟩ (fun j σ H _ ⟨_,_,_,_,_,S⟩=>SqL.of (S _ _ ersX)) ?_ ?_⟩
 ·rintro j v σ H1 hv ⟨o8,o9,o10,o11,rfl,S1⟩
  obtain⟨r,ks',rfl,kl⟩:∃(r:fO) (ks':List Kd),v= .ref r/\Kl H1 r ks':=by
   match j,hv with
   |0,hv=>cases hv;exact⟨r1,_,rfl,k1'.same S1⟩
   |1,hv=>cases hv;exact⟨r2,_,rfl,k2'.same S1⟩
  obtain⟨vs,er,iv,l5,gk⟩:=kl
  have lv:=iv.length
  rw[aE]at lv
  dsimp only[iO]
  refine⟨r,rfl,⟨_,SqL.of er⟩,fun D hD=>?_⟩
  refine my vs.length (by lia) (fun xs _=>∃bs:List Bool,xs=bs.map V.bl/\∀(j:Nat) b k,bs[j]?=some b->ks'[j]?=some k->(b=true↔Br Pq k)) (fun _ _ _ h _=>h) hD rfl (fun k H S hk=>tH er S hk) (fun H S=>tI er S) ⟨[],rfl,fun j b k h=>by simp at h⟩ ?_ ?_
  ·rintro k H2 v H3' us Z S2 hk ⟨rfl,hv⟩ ⟨bs,rfl,hb⟩ hl z
   obtain⟨kd,hkd,ikd⟩:=l8 iv (hv _ (SqL.of (S2 _ _ er)))
   have g:=gk kd (aP hkd)
   rw[aE]at hl
   refine⟨x,l1,l2,l3,v,Pq,kd,rfl,PX.fk (iE.fk (S1.trans S2)),LX.same (S1.trans S2),pk,ikd.mono (iE.tk S2),g.1,g.2,fun H4 b S4 hbr=>z _ _ S4 ⟨bs++[b],by rw[bB];rfl,fun j b' k' h1 h2=>?_⟩⟩
   by_cases hj:j<bs.length
   ·rw[aN hj]at h1
    exact hb j b' k' h1 h2
   ·have:j=bs.length:=by
     have:=(aq.mp h1).1
     rw[aQ,aY]at this
     lia
    subst this
    rw[bY]at h1
    cases h1
    rw[hl,hkd]at h2
    cases h2
    exact hbr
  ·rintro H2 us S2 ⟨bs,rfl,hb⟩ hl eD
   rw[aE]at hl
   have er2:=S2 _ _ er
   dsimp only[iO]
   refine⟨r,vs,rfl,.inl (SqL.of er2),_,rfl,by lia,by lia,xy (n:=vs.length) rfl (fun k σ H=>X2 fun(o10 o11:Option V)=>σ=[some (.ref ad),some (.int c),some (.ref wl),some (.ref pp),some (.ref x),some kv,some wv,some (.ref rs),some (.ref r),some (.ref D),o10,o11]/\iE H2 H)
    ⟨_,_,rfl,iE.refl _⟩ ?_ ?_⟩
   ·rintro k σ H3' hk ⟨o10,o11,rfl,S3⟩
    dsimp only[iO]
    refine⟨r,vs,rfl,.inl (SqL.of (S3 _ _ er2)),_,rfl,by lia,by lia,xy (n:=vs.length) rfl (fun n σ H=>∃o11:Option V,σ=[some (.ref ad),some (.int c),some (.ref wl),some (.ref pp),some (.ref x),some kv,some wv,some (.ref rs),some (.ref r),some (.ref D),some (.int (0+(k:Int))),o11]/\iE H2 H)
     ⟨_,rfl,S3⟩ ?_ ?_⟩
    ·rintro n σ H4 hn ⟨o11,rfl,S4⟩
     dsimp only[iO]
     obtain⟨bk,hbk⟩:∃b,bs[k]?=some b:=⟨_,bj (by lia)⟩
     obtain⟨bn,hbn⟩:∃b,bs[n]?=some b:=⟨_,bj (by lia)⟩
     have bat:∀{m:Nat} {b:Bool},bs[m]?=some b->atI (bs.map V.bl) (0+(m:Int))=some (.bl b):=fun{m b} h=>by rw[fw];exact ic (by rw[aO,h];rfl)
     have vat:∀{m:Nat},m<vs.length->∃v k,atI vs (0+(m:Int))=some v/\ks'[m]?=some k/\Im H4 v k.d:=fun{m} h=>by
      obtain⟨kd,h1,h2⟩:=l8 iv (bj h)
      exact⟨_,kd,by rw[fw];exact ic (bj h),h1,(h2.mono (iE.tk S2)).mono (iE.tk S4)⟩
     have eD4:=S4 _ _ eD
     have er4:=S4 _ _ er2
     refine⟨_,eD4,ig (bat hbk) (sE (fun hb1=>⟨_,eD4,ig (bat hbn) (sE (fun hb2=>?_) (fun _=>⟨_,rfl,S4⟩))⟩) (fun _=>⟨_,rfl,S4⟩))⟩
     obtain⟨v1,ka,a1,a2,a3⟩:=vat hk
     obtain⟨v2,kb,b1,b2,b3⟩:=vat hn
     have ga:=gk ka (aP a2)
     have gb:=gk kb (aP b2)
     refine⟨_,er4,ig a1 ⟨_,er4,ig b1 ⟨v1,v2,ka,kb,rfl,a3,b3,ga,gb,fun H5 S5=>⟨_,rfl,?_⟩⟩⟩⟩
     cases eu:und ka kb with
     |false=>exact⟨_,rfl,S4.trans S5⟩
     |true=>
      have hk1:bk=true:=by simpa using hb1
      have hn1:bn=false:=by simpa using hb2
      have:=(hb n bn kb hbn b2).mpr (Jg pk.ok ga.1 gb.1 (HM ga gb eu) ((hb k bk ka hbk a2).mp hk1))
      rw[hn1]at this
      cases this
    ·rintro σ H4 ⟨o11,rfl,S4⟩
     exact⟨_,_,rfl,S4⟩
   ·rintro σ H3' ⟨o10,o11,rfl,S3⟩
    exact⟨_,_,_,_,rfl,(S1.trans S2).trans S3⟩
 ·rintro σ H1 ⟨o8,o9,o10,o11,rfl,S1⟩
  refine⟨vd,fun t ht=>⟨x,l1,l2,l3,.ref t,Pq,.any,rfl,PX.fk (iE.fk (S1.trans (gZ ht _))),LX.same (S1.trans (gZ ht _)),pk,kG .any ht .nil,by simp[Kd.ok],by simp[Kd.sz],fun H2 b S2 hb=>?_⟩⟩
  have S02:=(S1.trans (gZ ht _)).trans S2
  obtain rfl:b=true:=hb.mpr (Hm pk.ok)
  dsimp only[tC,E6,onB]
  rw[iT (by decide)]
  obtain⟨dx,ex⟩:=PX.fk (iE.fk S02)
  refine⟨_,⟨_,_,ex,xt _ _ _⟩,_,⟨_,_,ex,BA _ _ _⟩,_,⟨_,_,ex,yM _ _ _⟩,sW,fun a ha=>?_⟩
  have s3:=gZ ha (.lst [.ref l1,.ref l2,.ref l3])
  have g:=Dz pk.ok
  exact⟨.ref a,.ref pp,HU Pq,rfl,.lst hG ((LX.same S02).same s3).da,.lst (s3 _ _ (S02 _ _ eppX)) ((LX'.same S02).same s3).da,cy g.1 (by decide),g.2,fun H3 S3=>q _⟩
end K56.Internal
namespace PySem.W.Fast
def tw6321107798599515748:=0
def tw1230396924990050602:=0
def tw13617985510259066672:=0
def tw10960939438491332972:=0
def tw2925748100410138868:=0
def tw4851373966890976184:=0
def tw4945688792257002546:=0
def tw3703952161515058654:=0
def tw1820536677357070862:=0
def tw7093697502796777984:=0
def tw6343818914387436701:=0
def tw2882575489200994475:=0
def tw12349635347416920624:=0
def tw522433738579520731:=0
def tw12834129766043333464:=0
def tw704376939950421552:=0
def tw16344985703072177287:=0
def tw15149800660417721823:=0
def tw13927380012727054627:=0
def tw15899728794818835663:=0
def tw5579159433630154690:=0
def tw12465664035609975507:=0
def tw1497746015433772177:=0
def tw1135801960447202659:=0
def tw2111447480131855700:=0
def tw1929433168482218030:=0
def tw11129506249655972327:=0
def tw13613883936854150446:=0
def tw6376351087812408759:=0
def tw10014373318323583388:=0
def tw583353671761727322:=0
def tw3781480654662306076:=0
def tw13636005383466907712:=0
def tw14532045648349992652:=0
def tw16066267686575930892:=0
def tw12417686384276172477:=0
def tw2366143775332640041:=0
def tw6959340337693149447:=0
def tw9710547425201026974:=0
def tw14129064811838103507:=0
def tw16603190162338318140:=0
def tw4724503171392410675:=0
def tw3506767957481464884:=0
def tw13104129589333775269:=0
def tw9228587005620769770:=0
def tw1684275342121911972:=0
def tw3188854377493797439:=0
def tw11761752709346147505:=0
def tw6984186769495725625:=0
def tw18398046304952787740:=0
def tw15243410860927001012:=0
def tw6369046545295720509:=0
def tw12469651468265361224:=0
def tw6238994490394260865:=0
def tw14907025104418481640:=0
def tw9889467698693082886:=0
def tw10849300505082262111:=0
def tw5636104487498169910:=0
def tw2262131327742666800:=0
def tw16721194158900920873:=0
def tw10964747882371445136:=0
def tw10470700357175680328:=0
def tw12489362963974032521:=0
def tw2130950695531655779:=0
def tw8958560908057320760:=0
def tw2473002795687708407:=0
def tw17932004008251246417:=0
def tw9985144190062446118:=0
def tw4891859808230527825:=0
def tw9431719716321564093:=0
def tw8666150852016622557:=0
def tw5569067095733478097:=0
def tw3061905654325305393:=0
def tw18094894392576298317:=0
def tw7369653182159558578:=0
def tw7822065890176515756:=0
def tw396028441527934887:=0
def tw12003348131662438257:=0
def tw7429301339210005599:=0
def tw5861054783552278649:=0
def tw14082310965010740916:=0
def tw5452985245531487514:=0
def tw931473985401697030:=0
def tw15877637824137339312:=0
def tw8720863781578623059:=0
def tw6271345767352518998:=0
def tw5838058733397386166:=0
def tw12096758337563092457:=0
def tw3440270101629114661:=0
def tw11884584459769288719:=0
def tw10478158623271443063:=0
def tw3647716534796205712:=0
def tw3391785825735733617:=0
def tw16497977564303734018:=0
def tw11258056707368498041:=0
def tw670609471990317753:=0
def tw2875829504606336182:=0
def tw14582869176314294009:=0
def tw3211524132660815547:=0
def tw226300953977016502:=0
def tw6773354218794414141:=0
def tw13441413614171314108:=0
def tw1498966114281621192:=0
def tw11510809213410490139:=0
def tw4428237042788899051:=0
def tw2653190767839958593:=0
def tw1454952659009122129:=0
def tw4065785028504871414:=0
def tw11082351226140125599:=0
def tw15288471871522221447:=0
def tw12841425758695393774:=0
def tw2050195020608549530:=0
def tw11406654541466736984:=0
def tw14396974770112401440:=0
def tw1011436466098205759:=0
def tw16478753010496651197:=0
def tw18324589780085404248:=0
def tw10593099116064792560:=0
def tw5063392426022942303:=0
def tw7768586203361767788:=0
def tw4217355129128592700:=0
def tw1506723853343302876:=0
def tw15631549587853691963:=0
def tw7623653557029138521:=0
def tw4632394995060928442:=0
def tw273427629384403954:=0
def tw13989648012497921307:=0
def tw5095198451529573869:=0
def tw4596735665851719726:=0
def tw17077120155628633371:=0
def tw943395169200408081:=0
def tw17058308149409268166:=0
def tw9824299850303115365:=0
def tw16831693937606959714:=0
def tw2150710978996466088:=0
def tw5074790560067040259:=0
def tw15226374625751921771:=0
def tw16492310791322453176:=0
def tw8069098282273519362:=0
def tw17446270121834531746:=0
def tw3671735118862786027:=0
def tw8457164491273481885:=0
def tw9386452829034976228:=0
def tw10030501197780805920:=0
def tw13304021008820868168:=0
def tw2983242302951762664:=0
def tw17288898943567322377:=0
def tw13713592049097576533:=0
def tw261314445858434805:=0
def tw10231788389852203006:=0
def tw4366169964422045592:=0
def tw10937040655047289094:=0
def tw6000458798582431620:=0
def tw12975557800840953946:=0
def tw10445070154526383134:=0
def tw8760501678741114487:=0
def tw14602300097291956520:=0
def tw6700244034491830844:=0
def tw3875464599299368703:=0
def tw10872945910623080244:=0
def tw1308306474934732939:=0
def tw9672524759706189487:=0
def tw8420296854394114294:=0
def tw15599416044542055329:=0
def tw6121350904100911995:=0
def tw11974883805998953281:=0
def tw4322566918459611237:=0
def tw8860141110043324464:=0
def tw5829992287355658106:=0
def tw14461697865813707766:=0
def tw2418131249711404733:=0
def tw7041476518434261019:=0
def tw5747239013554414931:=0
def tw17370142922741866892:=0
def tw9841413860160009444:=0
def tw8518157502750613757:=0
def tw13475638919413265533:=0
def tw12459550590778330192:=0
def tw5861363065407814717:=0
def tw551181741585189815:=0
def tw10310736025449803965:=0
def tw2656625889157708703:=0
def tw10541125462242368878:=0
def tw14501384905577406112:=0
def tw5004388105583354091:=0
def tw17113786453514961405:=0
def tw15463447455530471719:=0
def tw17805659594401897993:=0
def tw14898970324138724950:=0
def tw13470885510162941924:=0
def tw3673639471455831458:=0
def tw7397111234681038091:=0
def tw13922836190813619870:=0
def tw18120812766480200971:=0
def tw12339056471551641205:=0
def tw16577226756444646883:=0
def tw10819377617659874478:=0
def tw16334534530682016254:=0
def tw6810050778455517579:=0
def tw10878918505336453716:=0
def tw7250916706979998243:=0
def tw7402515308141729688:=0
def tw1427574522426702848:=0
def tw5699817037755753639:=0
def tw5401844921570623864:=0
def tw814821159825218802:=0
def tw10266124307946448280:=0
def tw1999199247099619240:=0
def tw7768543406419067:=0
def tw9689431799849303962:=0
def tw5818066517143496381:=0
def tw1180171442675457444:=0
def tw9533440853190797905:=0
def tw9969878826705972027:=0
def tw14556662108666840492:=0
def tw10069794342384038777:=0
def tw14550247940678608857:=0
def tw13086068565900533320:=0
def tw6025236826363318072:=0
def tw11412899893315420241:=0
def tw14033885645752566861:=0
def tw3512175318943242386:=0
def tw3176893351260666192:=0
def tw2819275405070327136:=0
def tw17478604725208847944:=0
def tw3023807356773792082:=0
def tw7265165866186402926:=0
def tw3971058199601959097:=0
def tw15232023766765663326:=0
def tw14946552068061945555:=0
def tw16661333598527339530:=0
def tw15298879035738137759:=0
def tw13161682867122171279:=0
def tw6060953275594460803:=0
def tw11943852641084214442:=0
def tw9430094074421669275:=0
def tw520341166375721722:=0
def tw110166531587460347:=0
def tw13550719192120055668:=0
def tw5946287716826333932:=0
def tw2424992341042558852:=0
def tw8938548476625502360:=0
def tw8270645758572634840:=0
def tw14065076634352602396:=0
end PySem.W.Fast
namespace K56.Internal
open PySem L2.Internal
theorem all_mk {l:PySem.W.OpenLaw} {w:gm} {K:PySem.W.Frag} {h:Heap} {mg:Str->Option fQ} {fa fL:fO} (X:K.In h) (G:h.Ns gr mg) (hfa:mg "law"=some (.ref fa))
  {fU C1 C2 C3 C4 C5 C6 C7 C8 C9 C10 C11:fO} {odL anL:Option fO} {slL:Array (Option fQ)} {ocL kVL dcL pmL cdL ctL:fQ}
  (a1:Fm K "uses_by_point" lN)
  (a2:Fm K "pasted" uG)
  (a3:Fm K "new_points" nG)
  (a4:Fm K "parts_made" nH)
  (a5:Fm K "use_made" qm)
  (a6:Fm K "with_points" mI)
  (a7:Fm K "settled" rN)
  (a8:Fm K "lower" wZ)
  (a9:Fm K "upper" w4)
  (a10:Fm K "uppers" uH)
  (a11:Fm K "bears" w6)
  (a12:Fm K "_law_words" nJ)
  (a13:Fm K "_law_alike" nK)
  (a14:Fm K "_law_mix" qo)
  (a15:Fm K "_law_leaf" oT)
  (a16:Fm K "_law_pop" qp)
  (a17:Fm K "_law_fields" mJ)
  (a18:Fm K "_law_knit" oU)
  (a19:Fm K "_law_triples" mm)
  (a20:Fm K "_law_words_by" lO)
  (a21:Fm K "_law_making" mK)
  (a22:Fm K "_law_using" nM)
  (a23:Fm K "_law_paper" nN)
  (a24:Fm K "_law_kind_out" lP)
  (a25:Fm K "_law_kind_in" mn)
  (a26:Fm K "_law_wider" nO)
  (a27:Fm K "_law_below" nQ)
  (c1:Cm K "Make" C1)
  (n1shape:dq K (.ref C1) "shape"=some none)
  (n1parts:dq K (.ref C1) "parts"=some none)
  (n1at:dq K (.ref C1) "at"=some none)
  (n1place:dq K (.ref C1) "place"=some none)
  (e28:Mm K C1 "__init__" "Make.__init__" lQ)
  (c2:Cm K "Use" C2)
  (n2at:dq K (.ref C2) "at"=some none)
  (n2place:dq K (.ref C2) "place"=some none)
  (n2slot:dq K (.ref C2) "slot"=some none)
  (e29:Mm K C2 "__init__" "Use.__init__" kR)
  (cg29:dD K (.ref C2) "__getattribute__"=some (some (.builtin "type.__getattribute__")))
  (cr29:PySem.W.readsIn K C2 (.type "type")=true)
  (i29:dq K (.ref C2) "__init__"=some (some (.ref fU)))
  (cf29:PySem.W.findCls K (.ref C2) (.type "type") "__init__"=some (.val (.ref fU)))
  (c3:Cm K "NumUse" C3)
  (n3at:dq K (.ref C3) "at"=some none)
  (n3place:dq K (.ref C3) "place"=some none)
  (n3slot:dq K (.ref C3) "slot"=some none)
  (e30:Mm K C3 "met" "NumUse.met" nR)
  (ii3:dq K (.ref C3) "__init__"=some (some (.ref fU)))
  (c4:Cm K "CallUse" C4)
  (n4arg:dq K (.ref C4) "arg"=some none)
  (n4out:dq K (.ref C4) "out"=some none)
  (n4at:dq K (.ref C4) "at"=some none)
  (n4place:dq K (.ref C4) "place"=some none)
  (n4slot:dq K (.ref C4) "slot"=some none)
  (e31:Mm K C4 "__init__" "CallUse.__init__" kz)
  (e32:Mm K C4 "met" "CallUse.met" mL)
  (c5:Cm K "TakeUse" C5)
  (n5fields:dq K (.ref C5) "fields"=some none)
  (n5at:dq K (.ref C5) "at"=some none)
  (n5place:dq K (.ref C5) "place"=some none)
  (n5slot:dq K (.ref C5) "slot"=some none)
  (e33:Mm K C5 "__init__" "TakeUse.__init__" kA)
  (e34:Mm K C5 "met" "TakeUse.met" lA)
  (c6:Cm K "CaseUse" C6)
  (n6arms:dq K (.ref C6) "arms"=some none)
  (n6at:dq K (.ref C6) "at"=some none)
  (n6place:dq K (.ref C6) "place"=some none)
  (n6slot:dq K (.ref C6) "slot"=some none)
  (e35:Mm K C6 "__init__" "CaseUse.__init__" kB)
  (e36:Mm K C6 "met" "CaseUse.met" lB)
  (c7:Cm K "RowUse" C7)
  (n7out:dq K (.ref C7) "out"=some none)
  (n7at:dq K (.ref C7) "at"=some none)
  (n7place:dq K (.ref C7) "place"=some none)
  (n7slot:dq K (.ref C7) "slot"=some none)
  (e37:Mm K C7 "__init__" "RowUse.__init__" kK)
  (e38:Mm K C7 "met" "RowUse.met" nS)
  (c8:Cm K "Board" C8)
  (n8points:dq K (.ref C8) "points"=some none)
  (n8makes:dq K (.ref C8) "makes"=some none)
  (n8uses:dq K (.ref C8) "uses"=some none)
  (n8flows:dq K (.ref C8) "flows"=some none)
  (n8root:dq K (.ref C8) "root"=some none)
  (e39:Mm K C8 "__init__" "Board.__init__" kZ)
  (e40:Mm K C8 "point" "Board.point" mM)
  (e41:Mm K C8 "make" "Board.make" nT)
  (e42:Mm K C8 "use" "Board.use" oV)
  (e43:Mm K C8 "flow" "Board.flow" nU)
  (c9:Cm K "Paper" C9)
  (n9outs:dq K (.ref C9) "outs"=some none)
  (n9ins:dq K (.ref C9) "ins"=some none)
  (n9flows:dq K (.ref C9) "flows"=some none)
  (e44:Mm K C9 "__init__" "Paper.__init__" lg)
  (c10:Cm K "Log" C10)
  (n10rows:dq K (.ref C10) "rows"=some none)
  (n10bads:dq K (.ref C10) "bads"=some none)
  (e45:Mm K C10 "__init__" "Log.__init__" mq)
  (c11:Cm K "Settling" C11)
  (n11board:dq K (.ref C11) "board"=some none)
  (n11uses_at:dq K (.ref C11) "uses_at"=some none)
  (n11rows:dq K (.ref C11) "rows"=some none)
  (n11bads:dq K (.ref C11) "bads"=some none)
  (n11known:dq K (.ref C11) "known"=some none)
  (n11goes:dq K (.ref C11) "goes"=some none)
  (n11heres:dq K (.ref C11) "heres"=some none)
  (e46:Mm K C11 "__init__" "Settling.__init__" ko)
  (e47:Mm K C11 "put" "Settling.put" mr)
  (e48:Mm K C11 "work" "Settling.work" lR)
  (e49:Mm K C11 "work_goes" "Settling.work_goes" j4)
  (e50:Mm K C11 "work_uses" "Settling.work_uses" j5)
  (e51:Mm K C11 "put_flows" "Settling.put_flows" j6)
  (e52:Mm K C11 "work_here" "Settling.work_here" j7)
  (z_all:dW K gr "all"=some none)
  (z_bool:dW K gr "bool"=some none)
  (z_dict:dW K gr "dict"=some none)
  (z_enumerate:dW K gr "enumerate"=some none)
  (z_int:dW K gr "int"=some none)
  (z_isinstance:dW K gr "isinstance"=some none)
  (z_len:dW K gr "len"=some none)
  (z_list:dW K gr "list"=some none)
  (z_max:dW K gr "max"=some none)
  (z_range:dW K gr "range"=some none)
  (z_sorted:dW K gr "sorted"=some none)
  (z_str:dW K gr "str"=some none)
  (z_sum:dW K gr "sum"=some none)
  (z_tuple:dW K gr "tuple"=some none)
  (z_zip:dW K gr "zip"=some none)
  (aL:dW K gr "law"=some (some (.ref fL))) (lL:K.lookup fL=some ⟨ocL,odL,.func (dR "law" "law" (mG uI) (lG uI) (iB uI) .none kVL dcL pmL anL cdL ctL),slL⟩) (cL:dS K cdL "law"=true) (kL:dE K (.ref fL)=true):
  ∃fd:gu,(∀(s:fR) (v:fQ),BindsTo s fd ⟨[v],[]⟩ [("_law_script",v)])/\∀base:Heap,K.In base->base.Ns gr mg->vf l.prog w K mg base CX0 100 fa fd ["_law_script"] (yu K):=by
 have e:=hfa.symm.trans (dX X G aL)
 cases e
 have x29:Mx K C2 "__init__" "Use.__init__" kR ["self","at","place","slot"]:=e29.x
 have T:Txt K mg:=⟨a1.x X G,a2.x X G,a3.x X G,a4.x X G,a5.x X G,a6.x X G,a7.x X G,a8.x X G,a9.x X G,a10.x X G,a11.x X G,a12.x X G,a13.x X G,a14.x X G,a15.x X G,a16.x X G,a17.x X G,a18.x X G,a19.x X G,a20.x X G,a21.x X G,a22.x X G,a23.x X G,a24.x X G,a25.x X G,a26.x X G,a27.x X G,c1.x X G,n1shape,n1parts,n1at,n1place,e28.x,c1.k e28.x,c2.x X G,n2at,n2place,n2slot,x29,⟨cg29,⟨_,cr29,sf i29 x29.me.at_▸cf29⟩,x29.me.kp⟩,c2.k x29,c3.x X G,n3at,n3place,n3slot,e30.x,⟨c3.ms,sf i29 x29.me.at_▸ii3,x29.me.fn,c3.kc⟩,c4.x X G,n4arg,n4out,n4at,n4place,n4slot,e31.x,c4.k e31.x,e32.x,c5.x X G,n5fields,n5at,n5place,n5slot,e33.x,c5.k e33.x,e34.x,c6.x X G,n6arms,n6at,n6place,n6slot,e35.x,c6.k e35.x,e36.x,c7.x X G,n7out,n7at,n7place,n7slot,e37.x,c7.k e37.x,e38.x,c8.x X G,n8points,n8makes,n8uses,n8flows,n8root,e39.x,c8.k e39.x,e40.x,e41.x,e42.x,e43.x,c9.x X G,n9outs,n9ins,n9flows,e44.x,c9.k e44.x,c10.x X G,n10rows,n10bads,e45.x,c10.k e45.x,c11.x X G,n11board,n11uses_at,n11rows,n11bads,n11known,n11goes,n11heres,e46.x,c11.k e46.x,e47.x,e48.x,e49.x,e50.x,e51.x,e52.x,dY X G z_all,dY X G z_bool,dY X G z_dict,dY X G z_enumerate,dY X G z_int,dY X G z_isinstance,dY X G z_len,dY X G z_list,dY X G z_max,dY X G z_range,dY X G z_sorted,dY X G z_str,dY X G z_sum,dY X G z_tuple,dY X G z_zip⟩
 exact⟨dR "law" "law" (mG uI) (lG uI) (iB uI) .none kVL dcL pmL anL cdL ctL,fun s v=> .of_eq rfl,fun base _ _=>Gd T (vy (st:=uI) lL cL kL)⟩
theorem walk {l:PySem.W.OpenLaw} {q:f9} {loose:List Str} {XP:(Str->Option fQ)->Heap->Prop} {YP:gm->Heap->Prop} {d:DefRec} {K:Params->PySem.W.Frag} (hn:l.most=some 63) (hdf:d.params.defaults=[])
  (hY:∀(w:gm) (h:Heap),YP w h->(K w.params).In h)
  (F:∀(w:gm) (mg:Str->Option fQ) (fa:fO) (h:Heap),(K w.params).In h->h.Ns gr mg->mg d.name=some (.ref fa)->
   ∃fd:gu,(∀(s:fR) (u:fQ),BindsTo s fd ⟨[u],[]⟩ [("_law_script",u)])/\∀base:Heap,(K w.params).In base->base.Ns gr mg->vf l.prog w (K w.params) mg base CX0 100 fa fd ["_law_script"] (yu (K w.params))):
  PySem.W.WalkO q loose XP YP l.row.toRowW d [] (fun f vs=>PySem.call f vs):=
 L2.Internal.walk_of (n:=63) (k:=100) (x:="_law_script") (CX:=fun _=>CX0) (sp:=fun w=>yu (K w.params)) hn (by decide) hdf ⟨rfl,by decide,by decide⟩ hY F (fun _ _ a ns hl _ hS=>⟨a,ns,rfl,hS,hl,fun _=>rfl⟩) fun _ _ _ _ _ z=>z
end K56.Internal
open PySem PySem.W PyProof.Rows
set_option maxRecDepth 100000 in
set_option maxHeartbeats 0 in
theorem PySem.Challenge.cw_flowkinds_k56_bears_goes_on_holds : PySem.Challenge.rw_flowkinds_k56_bears_goes_on.Holds := by
 w_on; o_law; k_head; (case hw => w_witness2)
 k_fill
 refine K56.Internal.walk (l := PySem.Challenge.rw_flowkinds_k56_bears_goes_on) rfl rfl (fun w h Y => PySem.W.kIn_of Y) ?F
 case F =>
  intro w mg fa h KX G hmg
  apply K56.Internal.all_mk KX G hmg
  all_goals first | (apply K56.Internal.Fm.mk <;> k_is) | (apply K56.Internal.Mm.mk <;> k_is) | (apply K56.Internal.Cm.mk <;> k_is) | k_is
