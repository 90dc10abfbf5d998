import PyProof.Rows.All
import Wide.All
import OpenK.AllK
import Wide.FinOn
import Lean
import PyProof.EqAt
import PyProof.EqKinds
import PyProof.TupleCall
import PyProof.NeKinds
import PySem.Challenge.RW_flowkinds_k24_a_let_laid_anew
set_option Elab.async false
set_option linter.all false
set_option maxRecDepth 100000
set_option maxHeartbeats 4000000
set_option genInjectivity false
set_option genSizeOf false
set_option bootstrap.genMatcherCode false
set_option compiler.extract_closed false
theorem fO {c:Prop} {h:Decidable c} (hnc:¬c) {α:Sort u} {t e:α}:(ite c t e)=e:=if_neg hnc
theorem f6 {c:Prop} {h:Decidable c} (hc:c) {α:Sort u} {t e:α}:(ite c t e)=t:=if_pos hc
theorem gR {p:Prop} [Decidable p] (h:p):decide p=true:=decide_eq_true h
theorem gC {p:Prop} [Decidable p] (h:¬p):decide p=false:=decide_eq_false h
theorem fW {p:Prop} (h:p:=by decide+kernel):p:=h
theorem mD:0<=PySem.sizeLine:=by decide
theorem mE:1<=PySem.sizeLine:=by decide
theorem lI:2<=PySem.sizeLine:=by decide
theorem tK:3<=PySem.sizeLine:=by decide
theorem Ai:4<=PySem.sizeLine:=by decide
theorem FJ:5<=PySem.sizeLine:=by decide
theorem FW:6<=PySem.sizeLine:=by decide
open List renaming all_cons→aZ,any_cons→aR,append_assoc→bC,append_cancel_left→bK,append_nil→aD,cons_append→aS,drop_length→bB,filterMap_cons→ag,filter_append→bP,filter_congr→bU,filter_cons_of_neg→bQ,filter_cons_of_pos→bV,filter_eq_self→bT,filter_nil→bR,find?_cons→aQ,forall_mem_cons→bw,getD_eq_getElem?_getD→bo,getElem?_append_left→aJ,getElem?_append_right→aI,getElem?_cons_succ→bj,getElem?_drop→bD,getElem?_eq_getElem→bb,getElem?_eq_some_iff→ar,getElem?_map→aK,getElem?_set_ne→aw,getElem?_set_self→av,getElem?_take_of_lt→aM,getElem?_toArray→bp,getElem?_zip_eq_some→bE,length_append→aO,length_cons→az,length_drop→aU,length_dropLast→aW,length_map→aC,length_range→bM,length_replicate→aP,length_singleton→aV,length_take→aH,length_zip→bG,lookup→aA,lookup_cons→aX,map→bg,map_append→br,map_congr_left→bS,map_cons→aB,map_map→bf,map_nil→aT,mem_append→ao,mem_append_left→aq,mem_append_right→ax,mem_cons→ak,mem_cons_of_mem→aj,mem_cons_self→ai,mem_filter→ae,mem_iff_getElem?→bt,mem_map→bc,mem_map_of_mem→bA,mem_of_getElem?→aN,mem_range→af,mem_singleton→ba,nil_append→bz,nodup_cons→aE,not_mem_nil→bh,of_mem_zip→aF,range→aa,range_succ→bL,range_succ_eq_map→aY,replicate→aG,replicate_succ'→bN,set_append_right→bJ,set_set→bq,size_toArray→ay,take_append_of_le_length→bO,take_length→bu,take_of_length_le→bH,take_succ→bF,take_succ_cons→bI
open Nat renaming add_assoc→ck,le_add_right→cc,le_of_lt→b0,le_of_succ_le→cB,le_refl→b9,le_trans→bZ,lt_irrefl→bX,lt_of_lt_of_le→bW,mul_assoc→cz,ne_of_gt→b6,ne_of_lt→bY,not_lt_zero→cx,sub_self→cg,zero_add→cq,zero_le→cb
open Option renaming isSome_iff_exists→cD,map_eq_some_iff→cF,map_some→cE,some→cC
open PySem.W renaming callWith_K→du,callWith_K0→dy,cellsFrom_some→dA,codeIn→dC,emptyDict→cU,findIn→cN,fnOf→dB,hasDictIn→cM,instObj→cG,isFn→cP,keepIn→cX,kia_one→cY,kia_tup→dD,kitx_bool→dg,kitx_dict→dq,kitx_float→dh,kitx_list→di,kitx_none→cZ,kitx_tuple→dj,lookIn→cJ,makesIn→cS,methodCall_KW→dw,methodObj→cH,mg_none_of→dG,mg_of→dF,nsIn→dE,plainGet→cK,plainGet_of→cO,plainOver→cQ,specialIn→cW,takerIn→cR
open PySem.F renaming args_tuple_add_2→dM,entry_tuple_add→dJ,plainAttrs_list→dO,slot_dict_getitem→dH,slot_list_append→dP,slot_list_index→dN,slot_list_pop→dR,slot_tuple_add→dI,type_list_append→dQ,type_list_pop→dS
open Bool renaming and_eq_true→dX,and_false→dY,eq_iff_iff→dW,false_ne_true→dU,false_xor→dZ,true_xor→d7
open Array renaming length_toList→ee
open Int renaming emod_lt_of_pos→eE,emod_nonneg→eC,le_refl→eB,toNat_natCast→eg,zero_add→eG
open PySem.Heap renaming get?_push_of_some→eK,get?_push_size→eJ,get?_update_other→eO,get?_update_self→eN,lt_size→eI,size_push→eM
open PyProof.Rows renaming callWith_type1→eP,slot_tuple_getitem→eQ
noncomputable section
namespace L2.Internal
theorem auR (h:True=True:=by rfl):True:=trivial
theorem auD (h:True:=by decide):True:=trivial
theorem auI (h:True->True=True:=by intro _;rfl):True:=trivial
theorem auL (h:True=True\/True:=by first|exact .inl rfl|exact .inr rfl|assumption):True:=trivial
open PySem PySem.Spec PyProof.Rows
abbrev Key:=Sum Int Str
def wV:Key->Value->Bool
 | .inl k,v=>Value.isInt k v
 | .inr x,v=>Value.isStrOf x v
def keyH (w:World):Key->Int
 | .inl k=>hashInt k
 | .inr x=>hashStr w x
theorem gS:∀{k:Key} {v:Value},wV k v=true->(∃i t,k=Sum.inl i/\v=Value.int i t)\/(∃x t,k=Sum.inr x/\v=Value.str x t)
 | .inl i,v,h=>by
  obtain⟨t,e⟩:=Value.isInt_shape (k:=i) (v:=v) h
  exact .inl ⟨i,t,rfl,e⟩
 | .inr x,v,h=>by
  obtain⟨t,e⟩:=Value.isStrOf_shape (x:=x) (v:=v) h
  exact .inr ⟨x,t,rfl,e⟩
theorem xW (i:Int) (t:Tok):wV (.inl i) (.int i t)=true:=by simp[wV,Value.isInt]
theorem p7 (x:Str) (t:Tok):wV (.inr x) (.str x t)=true:=by simp[wV,Value.isStrOf]
theorem DY (a b:Int):decide ((Sum.inl a:Key)=Sum.inl b)=(a==b):=by
 by_cases e:a=b
 ·subst e;simp
 ·have h:¬(Sum.inl a:Key)=Sum.inl b:=fun q=>e (Sum.inl.inj q)
  rw[gC h]
  exact(beq_eq_false_iff_ne.mpr e).symm
theorem DZ (a b:Str):decide ((Sum.inr a:Key)=Sum.inr b)=decide (a=b):=by
 by_cases e:a=b
 ·subst e;simp
 ·have h:¬(Sum.inr a:Key)=Sum.inr b:=fun q=>e (Sum.inr.inj q)
  rw[gC h,gC e]
theorem D4 (a:Int) (b:Str):decide ((Sum.inl a:Key)=Sum.inr b)=false:=gC (fun q=>nomatch q)
theorem D5 (a:Str) (b:Int):decide ((Sum.inr a:Key)=Sum.inl b)=false:=gC (fun q=>nomatch q)
def iO (prog:Program) (w:World):PySem.KeyKind prog w Key where
 is:=wV
 hash:=keyH w
 inj:=fun v a b ha hb=>by
  rcases gS ha with⟨i,t,rfl,rfl⟩|⟨x,t,rfl,rfl⟩
  ·rcases gS hb with⟨j,u,rfl,e⟩|⟨y,u,rfl,e⟩
   ·injection e with e1 _;rw[e1]
   ·exact nomatch e
  ·rcases gS hb with⟨j,u,rfl,e⟩|⟨y,u,rfl,e⟩
   ·exact nomatch e
   ·injection e with e1 _;rw[e1]
 byValue:=fun k v h=>by
  rcases gS h with⟨i,t,rfl,rfl⟩|⟨x,t,rfl,rfl⟩<;>rfl
 pyHash:=fun hv h=>by
  rcases gS hv with⟨i,t,rfl,rfl⟩|⟨x,t,rfl,rfl⟩
  ·exact wpAny_pyHash_int h
  ·exact wpAny_pyHash_str h
 eqBool:=fun hu hv h=>by
  rcases gS hu with⟨i,t,rfl,rfl⟩|⟨x,t,rfl,rfl⟩
  ·rcases gS hv with⟨j,u,rfl,rfl⟩|⟨y,u,rfl,rfl⟩
   ·rw[DY]at h;exact wpAny_eqBool_int h
   ·rw[D4]at h;exact SeqAt.EqAt.int_str i t y u _ _ _ _ h
  ·rcases gS hv with⟨j,u,rfl,rfl⟩|⟨y,u,rfl,rfl⟩
   ·rw[D5]at h;exact SeqAt.EqAt.str_int x t j u _ _ _ _ h
   ·rw[DZ]at h;exact wpAny_eqBool_str h
 «strs»:=fun k x t v h=>by
  rcases gS h with⟨i,u,rfl,e⟩|⟨y,u,rfl,e⟩
  ·exact nomatch e
  ·injection e with e1 _
   subst e1
   cases v<;>rfl
theorem u3 (prog:Program) (w:World) (i:Int) (t:Tok):(iO prog w).is (.inl i) (.int i t)=true:=xW i t
theorem u4 (prog:Program) (w:World) (x:Str) (t:Tok):(iO prog w).is (.inr x) (.str x t)=true:=p7 x t
end L2.Internal
namespace L2.Internal
open PySem PySem.Spec PyProof.Rows
set_option genInjectivity true in
inductive V where
 |non|bl (b:Bool)|int (i:Int)|str (x:Str)|byt (b:Array UInt8)|flt (b:UInt64)|ref (a:Addr)|ty (n:String)
 deriving DecidableEq
def gU:V->Value->Prop
 | .non,u=>u=Value.none
 | .bl b,u=>u=Value.bool b
 | .int i,u=>∃t,u=Value.int i t
 | .str x,u=>∃t,u=Value.str x t
 | .byt b,u=>∃t,u=Value.bytes b t
 | .flt b,u=>∃t,u=Value.float b t
 | .ref a,u=>u=Value.ref a
 | .ty n,u=>u=Value.type n
abbrev gP:List V->List Value->Prop:=Paired gU
theorem gP.length {xs:List V} {us:List Value} (r:gP xs us):xs.length=us.length:=Paired.length r
theorem gP.get:∀{xs:List V} {us:List Value} {i:Nat} {x:V},gP xs us->xs[i]?=some x->∃u,us[i]?=some u/\gU x u
 |_,_,_,_,.nil,e=>by simp at e
 |_,_,0,_,.cons r _,e=>by simp at e;subst e;exact⟨_,rfl,r⟩
 |_,_,i+ 1,x,.cons _ t,e=>by
  obtain⟨u,h1,h2⟩:=gP.get (i:=i) (x:=x) t (by simpa using e)
  exact⟨u,by simpa using h1,h2⟩
theorem gP.set {x:V} {u:Value} (r:gU x u):∀{xs:List V} {us:List Value} (i:Nat),gP xs us->gP (xs.set i x) (us.set i u)
 |_,_,_,.nil=> .nil
 |_,_,0,.cons _ t=> .cons r t
 |_,_,i+ 1,.cons q t=> .cons q (gP.set r i t)
theorem gP.append:∀{xs ys:List V} {us ws:List Value},gP xs us->gP ys ws->gP (xs++ys) (us++ws)
 |_,_,_,_,.nil,s=>s
 |_,_,_,_,.cons r t,s=> .cons r (gP.append t s)
theorem gP.take:∀{xs:List V} {us:List Value} (n:Nat),gP xs us->gP (xs.take n) (us.take n)
 |_,_,0,_=> .nil
 |_,_,_+ 1,.nil=> .nil
 |_,_,n+ 1,.cons r t=> .cons r (gP.take n t)
theorem gP.drop:∀{xs:List V} {us:List Value} (n:Nat),gP xs us->gP (xs.drop n) (us.drop n)
 |_,_,0,r=>r
 |_,_,_+ 1,.nil=> .nil
 |_,_,n+ 1,.cons _ t=>gP.drop n t
def sr:Option V->Option Value->Prop
 |some v,some u=>gU v u
 |none,none=>True
 |_,_=>False
def KV {κ:Type}:List (κ×V)->List (κ×Value)->Prop:=Paired fun(p:κ×V) (q:κ×Value)=>p.1=q.1/\gU p.2 q.2
def kV:Key->V
 | .inl i=> .int i
 | .inr x=> .str x
inductive HO where
 |lst (xs:List V)
 |tup (xs:List V)
 |dK (kvs:List (Key×V))|dT (kvs:List (List Key×V))
 |set (S:Int->Bool) (n:Nat)
 |ins (C dx:Addr) (fs:List (Str×V))
 |own (x:Addr)
 |xd (fs:List (Str×V))
 |met (f x:Addr)
 |rng (lo hi:Int)
 |frz (o:Obj) (u:HO)
 |tbl (ps:Array Value)
 |ext (φ:Heap->Prop)
abbrev Hp:=Addr->Option HO
def vK (h:Heap) (a:Addr) (items:Array Value):Prop:=∃o,h.get? a=some o/\o.cls= .type "tuple"/\∃n,o.data= .seq items n/\o.dict=none
theorem vK.tup {h:Heap} {a:Addr} {items:Array Value}:vK h a items->IsTup h a items
 |⟨o,h1,h2,n,h3,_⟩=>⟨o,h1,h2,n,h3⟩
theorem vK.lt {h:Heap} {a:Addr} {items:Array Value} (p:vK h a items):a<h.objs.size:=by
 obtain⟨o,e,_⟩:=p
 exact eI e
theorem vK.new (h:Heap) (items:Array Value):vK (h.push {cls:= .type "tuple",data:= .seq items}) h.objs.size items:=⟨_,eJ _ rfl,rfl,_,rfl,rfl⟩
def upd (H:Hp) (a:Addr) (o:HO):Hp:=fun b=>if b=a then some o else H b
theorem eS {H:Hp} {a:Addr} {o:HO}:upd H a o a=some o:=by unfold upd;rw[f6 rfl]
theorem eX {H:Hp} {a b:Addr} {o:HO} (h:b≠a):upd H a o b=H b:=by unfold upd;rw[fO h]
theorem gv {H:Hp} {a:Addr} {o u:HO}:upd (upd H a o) a u=upd H a u:=by
 funext b;unfold upd;split<;>rfl
theorem jw {H:Hp} {a b:Addr} {o u:HO} (h:H a=some o) (h':H b=some u) (d:o≠u):a≠b:=by
 intro e;subst e;rw[h]at h';exact d (cC.inj h')
theorem fe {H:Hp} {a b:Addr} {o:HO} (h:H a=some o) (h':H b=none):a≠b:=by
 intro e;subst e;rw[h]at h';cases h'
section
variable (P:Program) (w:World)
def hX (H:Hp) (h:Heap) (a:Addr):HO->Prop
 | .lst xs=>xs.length<=sizeLine/\∃(its:List Value) (n:Nat),gP xs its/\h.get? a=some {cls:= .type "list",data:= .seq its.toArray n}
 | .tup xs=>xs.length<=sizeLine/\∃its:List Value,gP xs its/\vK h a its.toArray
 | .dK kvs=>kvs.length<=sizeLine/\(a==sysModules)=false/\∃vs,KV kvs vs/\h.DictOf (iO P w) a vs
 | .dT kvs=>kvs.length<=sizeLine/\(a==sysModules)=false/\∃xs:List (List Key×Addr×Value),
   Paired (fun(p:List Key×V) (q:List Key×Addr×Value)=>p.1=q.1/\H q.2.1=some (.tup (p.1.map kV))/\gU p.2 q.2.2) kvs xs/\
   ∃o es ep,h.get? a=some o/\o.ExactDict/\o.data= .dict es ep/\es.toList=xs.map (entryOfKey (tupleKind (iO P w)))/\(xs.map (·.1)).Nodup
 | .set S n=>h.SetOf (intKind P w) a S n
 | .ins C dx fs=>H dx=some (.own a)/\fs.length<=1000/\dx≠a/\h.get? a=some (cG C dx)/\
   ∃mA,h.Ns1 dx mA/\(∀f,sr (fs.lookup f) (mA f))/\PySem.Within mA (fs.map (·.1))
 | .own _=>∃o,h.get? a=some o
 | .xd fs=>∃mA,h.Ns1 a mA/\∀f,sr (fs.lookup f) (mA f)
 | .rng lo hi=>∃t u v,h.get? a=some {cls:= .type "range",data:= .fields #[.int lo t,.int hi u,.int 1 v]}
 | .frz o u=>h.get? a=some o/\hX H h a u
 | .tbl ps=>h.get? a=some {cls:= .none,data:= .fields ps}
 | .met f x=>h.get? a=some (cH (.ref f) (.ref x))
 | .ext φ=>φ h/\(∃o,h.get? a=some o)/\∀h1 h2:Heap,φ h1->(∀o,h1.get? a=some o->h2.get? a=some o)->φ h2
def HOk (H:Hp) (h:Heap):Prop:=∀a o,H a=some o->hX P w H h a o
end
section
variable {P:Program} {w:World} {H H':Hp} {h h':Heap} {a:Addr} {o:HO}
theorem hX.lt (x:hX P w H h a o):a<h.objs.size:=by
 cases o with
 |lst xs=>obtain⟨_,_,_,_,e⟩:=x;exact eI e
 |tup xs=>obtain⟨_,_,_,p⟩:=x;exact p.lt
 |dK kvs=>obtain⟨_,_,_,_,o,_,_,e,_⟩:=x;exact eI e
 |dT kvs=>obtain⟨_,_,_,_,o,_,_,e,_⟩:=x;exact eI e
 |set S n=>obtain⟨o,_,_,_,e,_⟩:=x;exact eI e
 |ins C dx fs=>obtain⟨_,_,_,e,_⟩:=x;exact eI e
 |own y=>obtain⟨_,e⟩:=x;exact eI e
 |xd fs=>obtain⟨_,⟨_,_,_,e,_⟩,_⟩:=x;exact eI e
 |rng lo hi=>obtain⟨_,_,_,e⟩:=x;exact eI e
 |frz ob u=>obtain⟨e,_⟩:=x;exact eI e
 |tbl ps=>exact eI (show h.get? a=some _ from x)
 |met f y=>exact eI (show h.get? a=some _ from x)
 |ext φ=>obtain⟨_,⟨_,e⟩,_⟩:=x;exact eI e
theorem Paired.mapP {α β:Type} {F G:α->β->Prop}:∀{l₁:List α} {l₂:List β},Paired F l₁ l₂->(∀a b,F a b->G a b)->Paired G l₁ l₂
 |_,_,.nil,_=> .nil
 |_,_,.cons r t,f=> .cons (f _ _ r) (Paired.mapP t f)
theorem hX.stay (x:hX P w H h a o) (k:∀b u,(b=a\/H b=some (.own a))->h.get? b=some u->h'.get? b=some u)
  (ho:∀b,H b=some (.own a)->H' b=some (.own a)) (ht:∀b xs,H b=some (.tup xs)->H' b=some (.tup xs)):hX P w H' h' a o:=by
 induction o with
 |lst xs=>obtain⟨z,its,n,r,e⟩:=x;exact⟨z,its,n,r,k _ _ (.inl rfl) e⟩
 |tup xs=>obtain⟨z,its,r,ob,e,c⟩:=x;exact⟨z,its,r,ob,k _ _ (.inl rfl) e,c⟩
 |dK kvs=>obtain⟨z,y,vs,r,ob,es,ep,e,c⟩:=x;exact⟨z,y,vs,r,ob,es,ep,k _ _ (.inl rfl) e,c⟩
 |dT kvs=>
  obtain⟨z,y,xs,r,ob,es,ep,e,c⟩:=x
  exact⟨z,y,xs,Paired.mapP r fun p q z=>⟨z.1,ht _ _ z.2.1,z.2.2⟩,ob,es,ep,k _ _ (.inl rfl) e,c⟩
 |set S n=>obtain⟨ob,es,ep,t,e,c⟩:=x;exact⟨ob,es,ep,t,k _ _ (.inl rfl) e,c⟩
 |ins C dx fs=>
  obtain⟨d,z,ne,e,mA,⟨od,es,ep,e2,c⟩,r⟩:=x
  exact⟨ho _ d,z,ne,k _ _ (.inl rfl) e,mA,⟨od,es,ep,k _ _ (.inr d) e2,c⟩,r⟩
 |own y=>obtain⟨ob,e⟩:=x;exact⟨ob,k _ _ (.inl rfl) e⟩
 |xd fs=>obtain⟨mA,⟨od,es,ep,e,c⟩,r⟩:=x;exact⟨mA,⟨od,es,ep,k _ _ (.inl rfl) e,c⟩,r⟩
 |rng lo hi=>obtain⟨t,u,v,e⟩:=x;exact⟨t,u,v,k _ _ (.inl rfl) e⟩
 |frz ob u ih=>obtain⟨e,q⟩:=x;exact⟨k _ _ (.inl rfl) e,ih q⟩
 |tbl ps=>
  have e:h.get? a=some {cls:= .none,data:= .fields ps}:=x
  show h'.get? a=some {cls:= .none,data:= .fields ps}
  exact k a _ (.inl rfl) e
 |met f y=>
  have e:h.get? a=some (cH (.ref f) (.ref y)):=x
  show h'.get? a=some (cH (.ref f) (.ref y))
  exact k a _ (.inl rfl) e
 |ext φ=>obtain⟨p,⟨o,e⟩,st⟩:=x;exact⟨st _ _ p fun o q=>k _ _ (.inl rfl) q,⟨o,k _ _ (.inl rfl) e⟩,st⟩
theorem HOk.lt (x:HOk P w H h) (e:H a=some o):a<h.objs.size:=(x a o e).lt
theorem HOk.fresh (x:HOk P w H h) (e:h.objs.size<=a):H a=none:=by
 cases q:H a with
 |none=>rfl
 |some u=>exact absurd (bW (x.lt q) e) (bX _)
theorem HOk.kept (x:HOk P w H h) (k:∀b u,h.get? b=some u->h'.get? b=some u):HOk P w H h':=fun a o e=>
 (x a o e).stay (fun b u _ q=>k b u q) (fun _ q=>q) fun _ _ q=>q
theorem HOk.laid (x:HOk P w H h) (k:∀b u,h.get? b=some u->h'.get? b=some u) (hp:h.objs.size<=a) (new:hX P w (upd H a o) h' a o):HOk P w (upd H a o) h':=fun b u e=>by
 have hn:=x.fresh hp
 by_cases hb:b=a
 ·subst hb;rw[eS]at e;cases e;exact new
 ·rw[eX hb]at e
  exact(x b u e).stay (fun c v _ q=>k c v q) (fun c q=>by rw[eX (fe q hn)];exact q) fun c xs q=>by rw[eX (fe q hn)];exact q
end
def Rd (H:Hp) (a:Addr) (u:HO):Prop:=H a=some u\/∃o,H a=some (.frz o u)
theorem Rd.ok {P:Program} {w:World} {H:Hp} {h:Heap} {a:Addr} {u:HO} (r:Rd H a u) (x:HOk P w H h):hX P w H h a u:=by
 rcases r with r|⟨o,r⟩
 ·exact x a u r
 ·obtain⟨_,q⟩:=x a _ r
  exact q
def Mut:Option HO->Prop
 |some (.lst _)=>True
 |some (.dK _)=>True
 |some (.dT _)=>True
 |some (.set _ _)=>True
 |some (.ins _ _ _)=>True
 |some (.ext _)=>True
 |_=>False
section
variable {P:Program} {w:World} {H:Hp} {h h':Heap} {x e:Addr} {o':HO}
theorem HOk.write (ok:HOk P w H h) (mu:Mut (H x)) (he:e=x\/H e=some (.own x)) (k:∀b u,b≠e->h.get? b=some u->h'.get? b=some u) (heo:∃u,h'.get? e=some u)
  (new:hX P w (upd H x o') h' x o'):HOk P w (upd H x o') h':=fun b u q=>by
 have nown:∀c y,H c=some (.own y)->c≠x:=fun c y r z=>by subst z;rw[r]at mu;exact mu
 have ntup:∀c xs,H c=some (.tup xs)->c≠x:=fun c xs r z=>by subst z;rw[r]at mu;exact mu
 by_cases hb:b=x
 ·subst hb;rw[eS]at q;cases q;exact new
 ·rw[eX hb]at q
  by_cases hbe:b=e
  ·have q':H b=some (.own x):=by
    rcases he with z|z
    ·exact absurd (hbe.trans z) hb
    ·rw[hbe];exact z
   rw[q]at q';cases q'
   obtain⟨v,hv⟩:=heo
   exact⟨v,by rw[hbe];exact hv⟩
  ·refine(ok b u q).stay (fun c v hc r=>k c v ?_ r) (fun c r=>by rw[eX (nown c b r)];exact r) fun c xs r=>by rw[eX (ntup c xs r)];exact r
   rcases hc with rfl|hc
   ·exact hbe
   ·rintro rfl
    rcases he with z|z
    ·exact nown c b hc z
    ·rw[hc]at z;cases z;exact hb rfl
end
structure Un (fs ex:List Addr) (H H':Hp) (h h':Heap):Prop where
 keep:∀b o,h.get? b=some o->H b=none->b∉fs->b∉ex->h'.get? b=some o
 slot:∀b o,h.get? b=some o->H b=none->b∈fs->b∉ex->∃sl,h'.get? b=some {o with slots:=sl}
 free:∀b o,h.get? b=some o->H b=none->b∉ex->H' b=none
 there:∀b o,h.get? b=some o->b∉ex->∃o',h'.get? b=some o'
 tups:∀b xs,H b=some (.tup xs)->H' b=some (.tup xs)
 frzs:∀b o u,H b=some (.frz o u)->H' b=some (.frz o u)
 tbls:∀b ps,H b=some (.tbl ps)->∃more,H' b=some (.tbl (ps++more))
section
variable {fs fs' ex ex':List Addr} {H H1 H2:Hp} {h h1 h2 h':Heap} {a x e:Addr} {o:HO}
theorem Un.any (u:Un fs ex H H1 h h1) {b:Addr} {ob:Obj} (q:h.get? b=some ob) (n:H b=none) (hx:b∉ex):∃sl,h1.get? b=some {ob with slots:=sl}:=by
 by_cases hb:b∈fs
 ·exact u.slot b ob q n hb hx
 ·exact⟨ob.slots,u.keep b ob q n hb hx⟩
theorem Un.trans (a:Un fs ex H H1 h h1) (b:Un fs ex H1 H2 h1 h2):Un fs ex H H2 h h2 where
 keep:=fun c ob q n hc hx=>b.keep c ob (a.keep c ob q n hc hx) (a.free c ob q n hx) hc hx
 slot:=fun c ob q n hc hx=>by
  obtain⟨sl,e1⟩:=a.slot c ob q n hc hx
  obtain⟨sl',e2⟩:=b.slot c _ e1 (a.free c ob q n hx) hc hx
  exact⟨sl',e2⟩
 free:=fun c ob q n hx=>by
  obtain⟨o',e1⟩:=a.there c ob q hx
  exact b.free c o' e1 (a.free c ob q n hx) hx
 there:=fun c ob q hx=>by
  obtain⟨o',e1⟩:=a.there c ob q hx
  exact b.there c o' e1 hx
 tups:=fun c xs q=>b.tups c xs (a.tups c xs q)
 frzs:=fun c ob xs q=>b.frzs c ob xs (a.frzs c ob xs q)
 tbls:=fun c ps q=>by
  obtain⟨m1,e1⟩:=a.tbls c ps q
  obtain⟨m2,e2⟩:=b.tbls c _ e1
  exact⟨m1++m2,by rw[e2,Array.append_assoc]⟩
theorem Un.kept (k:∀b u,h.get? b=some u->h'.get? b=some u):Un fs ex H H h h':=
 ⟨fun b ob q _ _ _=>k b ob q,fun b ob q _ _ _=>⟨ob.slots,k b ob q⟩,fun _ _ _ n _=>n,fun b ob q _=>⟨ob,k b ob q⟩,fun _ _ q=>q,fun _ _ _ q=>q,fun _ ps q=>⟨#[],by rw[q];simp⟩⟩
theorem Un.refl:Un fs ex H H h h:=Un.kept fun _ _ q=>q
theorem Un.laid (k:∀b u,h.get? b=some u->h'.get? b=some u) (hp:h.objs.size<=a) (hn:H a=none):Un fs ex H (upd H a o) h h' where
 keep:=fun b u q _ _ _=>k b u q
 slot:=fun b u q _ _ _=>⟨u.slots,k b u q⟩
 free:=fun b u q n _=>by rw[eX (bY (bW (eI q) hp))];exact n
 there:=fun b u q _=>⟨u,k b u q⟩
 tups:=fun b xs q=>by rw[eX (fe q hn)];exact q
 frzs:=fun b u xs q=>by rw[eX (fe q hn)];exact q
 tbls:=fun b ps q=>⟨#[],by rw[eX (fe q hn),q];simp⟩
theorem Un.write (mu:Mut (H x)) (he:e=x\/H e=some (.own x)) (k:∀b u,b≠e->h.get? b=some u->h'.get? b=some u) (heo:∃u,h'.get? e=some u):Un fs ex H (upd H x o) h h':=by
 have hx:∀b,H b=none->b≠x:=fun b n z=>by subst z;rw[n]at mu;exact mu
 have hb:∀b,H b=none->b≠e:=fun b n z=>by
  subst z
  rcases he with r|r
  ·exact hx b n r
  ·rw[n]at r;cases r
 have hm:∀b u,H b=some u->¬Mut (some u)->b≠x:=fun b u q nm z=>by subst z;rw[q]at mu;exact nm mu
 refine⟨fun b u q n _ _=>k b u (hb b n) q,fun b u q n _ _=>⟨u.slots,k b u (hb b n) q⟩,fun b u q n _=>by rw[eX (hx b n)];exact n,fun b u q _=>?_,
  fun b xs q=>by rw[eX (hm b _ q fun z=>z)];exact q,fun b u xs q=>by rw[eX (hm b _ q fun z=>z)];exact q,fun b ps q=>⟨#[],by rw[eX (hm b _ q fun z=>z),q];simp⟩⟩
 by_cases hbe:b=e
 ·subst hbe;exact heo
 ·exact⟨u,k b u hbe q⟩
end
def trk (h:Heap) (H:Hp):List Addr:=(aa h.objs.size).filter fun a=>(H a).isSome
def Am (h:Heap) (H:Hp):Heap:=PySem.W.hideAll h (trk h H)
theorem xX (h:Heap) (H:Hp):(Am h H).objs.size=h.objs.size:=PySem.W.hideAll_size _ _
theorem Ao {h:Heap} {H:Hp} {b:Addr} {o:Obj} (e:h.get? b=some o) (n:H b=none):(Am h H).get? b=some o:=
 PySem.W.hideAll_get _ e fun hm=>by
  have q:(H b).isSome=true:=(ae.mp hm).2
  rw[n]at q;simp at q
theorem Cd {h:Heap} {H:Hp} {b:Addr} {o:Obj} (e:(Am h H).get? b=some o):h.get? b=some o/\H b=none:=by
 have e':h.get? b=some o:=PySem.W.of_hideAll (trk h H) e
 refine⟨e',?_⟩
 cases q:H b with
 |none=>rfl
 |some x=>
  have hm:b∈trk h H:=ae.mpr ⟨af.mpr (eI e'),by simp[q]⟩
  have z:(Am h H).get? b=none:=PySem.W.hideAll_none (trk h H) hm
  rw[z]at e;cases e
structure Mod (K:PySem.W.Frag) (mg:Str->Option Value) (base:Heap):Prop where
 kin:K.In base
 glob:base.Ns mainGlobals mg
 blt:∃mb,base.Ns builtinsNs mb/\∀x:Str,x≠"__name__"->mb x=bootBuiltins x
 nolimit:base.NoLimit
structure Cx where
 prog:Program
 w:World
 K:PySem.W.Frag
 mg:Str->Option Value
 base:Heap
 A:Around
 N:List Str
 s₀:Shared
 H₀:Hp
 env:Env
 outer:List Env
 stack:List Env
 ex:List Addr
 fn:Str->Bool
 calm:Bool
 pn:List (Addr×Obj)
 xe:Value->Shared->Prop
def frs (l:List Env):List Addr:=l.filterMap (·.frame)
abbrev Cx.fs (X:Cx):List Addr:=frs X.outer
def Vis (sc:Scope) (x:Str):Prop:=sc.names.lookup x=some .local\/sc.names.lookup x=some .cell\/sc.names.lookup x=some .free
def Loc (sc:Scope) (x:Str):Prop:=sc.names.lookup x=some .local\/sc.names.lookup x=some .cell
def Look (env:Env) (h:Heap) (m:Str->Option Value) (x:Str) (u:Value):Prop:=
 (env.kindOf x=some .local/\m x=some u)\/((env.kindOf x=some .cell\/env.kindOf x=some .free)/\∃c,env.cells.lookup x=some c/\h.IsCell c (some u))
structure Cx.Ok (X:Cx):Prop where
 mod:Mod X.K X.mg X.base
 kind:X.env.scope.kind= .function
 glob:X.env.globals=mainGlobals
 blt:X.env.builtins=builtinsNs
 above:X.s₀.heap.objs.size<=X.env.locals
 inj:∀x y c,X.env.cells.lookup x=some c->X.env.cells.lookup y=some c->x=y
 has:∀x,(X.env.kindOf x=some .cell\/X.env.kindOf x=some .free)->∃c,X.env.cells.lookup x=some c
 cab:∀x c,X.fn x=true->X.env.cells.lookup x=some c->X.s₀.heap.objs.size<=c
 hd:X.calm=true->X.A.handled=none
 frames:X.A.frames=some X.stack
 stk:X.stack=X.outer\/(X.stack=X.env::X.outer/\X.env.frame=some X.env.locals)
 exf:∀b∈X.ex,b≠X.env.locals/\∀x c,X.env.cells.lookup x=some c->c≠b
 bs:∀b o,X.base.get? b=some o->X.s₀.heap.get? b=some o/\X.H₀ b=none
 bsz:X.base.objs.size<=X.s₀.heap.objs.size
 noex:∀b o,X.base.get? b=some o->b∉X.ex
 exfs:∀b∈X.ex,b∉X.fs
 funs:X.s₀.heap.FunFrames X.base X.outer
 frf:∀b∈X.fs,X.H₀ b=none
structure Inv (X:Cx) (pz:List (Addr×Obj)) (σ:List (Option V)) (H:Hp) (s:Shared):Prop where
 ok:X.Ok
 os:s.os=X.s₀.os
 bare:AllBare s.gens
 base:Un X.fs X.ex X.H₀ H X.s₀.heap s.heap
 loc:∃m,s.heap.Ns X.env.locals m/\∀(i:Nat) (x:Str) (v:V),X.N[i]?=some x->σ[i]?=some (some v)->Vis X.env.scope x->∃u,gU v u/\Look X.env s.heap m x u
 cell:∀x c,X.env.cells.lookup x=some c->∃v,s.heap.IsCell c v
 free:H X.env.locals=none
 freeC:∀x c,X.env.cells.lookup x=some c->H c=none
 pin:∀p∈X.pn++pz,s.heap.get? p.1=some p.2/\H p.1=none/\p.1≠X.env.locals/\p.1∉X.fs/\∀v,p.2.data≠ .cell v
 hok:HOk X.prog X.w H s.heap
 len:σ.length=X.N.length
section
variable {X:Cx} {pz:List (Addr×Obj)} {σ:List (Option V)} {H H':Hp} {s:Shared} {h':Heap}
theorem Cx.Ok.nofr (ok:X.Ok) {b:Addr} {o:Obj} (e:X.base.get? b=some o):b∉X.fs:=fun hb=>by
 have:=(ok.funs.mem hb).1
 rw[e]at this;cases this
theorem Inv.bs (I:Inv X pz σ H s):∀b o,X.base.get? b=some o->s.heap.get? b=some o/\H b=none:=fun b o e=>
 ⟨I.base.keep b o (I.ok.bs b o e).1 (I.ok.bs b o e).2 (I.ok.nofr e) (I.ok.noex b o e),I.base.free b o (I.ok.bs b o e).1 (I.ok.bs b o e).2 (I.ok.noex b o e)⟩
theorem Inv.bk (I:Inv X pz σ H s):∀b o,X.base.get? b=some o->s.heap.get? b=some o:=fun b o e=>(I.bs b o e).1
theorem Inv.mod (I:Inv X pz σ H s):Mod X.K X.mg X.base:=I.ok.mod
theorem Inv.kIn (I:Inv X pz σ H s):X.K.In s.heap:=I.ok.mod.kin.keeps I.bk
theorem Inv.lt (I:Inv X pz σ H s):X.env.locals<s.heap.objs.size:=let⟨_,hn,_⟩:=I.loc;hn.lt
theorem Inv.sz (I:Inv X pz σ H s):X.s₀.heap.objs.size<=s.heap.objs.size:=bZ I.ok.above (b0 I.lt)
theorem Inv.nofs (I:Inv X pz σ H s) {a:Addr} (h:s.heap.objs.size<=a):a∉X.fs:=fun hb=>by
 obtain⟨_,o,ho,_⟩:=I.ok.funs.mem hb
 exact absurd (bW (eI ho) (bZ I.sz h)) (bX _)
theorem Inv.cne (I:Inv X pz σ H s):∀x c,X.env.cells.lookup x=some c->c≠X.env.locals:=fun x c e z=>by
 obtain⟨v,o,ho,hd⟩:=I.cell x c e
 obtain⟨m,⟨o',es,ep,ho',hd',_⟩,_⟩:=I.loc
 rw[z,ho']at ho;cases ho;rw[hd']at hd;cases hd
theorem Inv.funs (I:Inv X pz σ H s):s.heap.FunFrames X.base X.outer:=by
 have all:∀(l:List Env),(∀b∈frs l,b∈X.fs)->X.s₀.heap.FunFrames X.base l->s.heap.FunFrames X.base l:=by
  intro l
  induction l with
  |nil=>intro _ _;trivial
  |cons env r ih=>
   intro hs hl
   obtain⟨hk,⟨L,o,hf,hn,ho,hd⟩,hr⟩:=hl
   have hL:L∈X.fs:=hs L (by unfold frs;rw[ag,hf];exact ai)
   obtain⟨sl,e⟩:=I.base.slot L o ho (I.ok.frf L hL) hL fun z=>I.ok.exfs L z hL
   exact⟨hk,⟨L,_,hf,hn,e,hd⟩,ih (fun b hb=>hs b (by unfold frs;rw[ag,hf];exact aj _ hb)) hr⟩
 exact all X.outer (fun _ hb=>hb) I.ok.funs
theorem Inv.stack (I:Inv X pz σ H s):s.heap.FunFrames X.base X.stack:=by
 rcases I.ok.stk with e|⟨e,hf⟩
 ·rw[e];exact I.funs
 ·rw[e]
  obtain⟨m,hn,_⟩:=I.loc
  refine .cons (by rw[I.ok.kind];decide) hf hn ?_ I.funs
  exact Heap.get?_none_of_le (bZ I.ok.bsz I.ok.above)
theorem Inv.stkSub (I:Inv X pz σ H s):∀b∈frs X.stack,b∈X.env.locals::X.fs:=fun b hb=>by
 rcases I.ok.stk with e|⟨e,hf⟩
 ·rw[e]at hb;exact aj _ hb
 ·rw[e]at hb
  unfold frs at hb
  rw[ag,hf]at hb
  exact hb
theorem Inv.stkFree (I:Inv X pz σ H s):∀b∈frs X.stack,H b=none:=fun b hb=>by
 rcases ak.mp (I.stkSub b hb)with e|hb
 ·rw[e];exact I.free
 ·obtain⟨_,o,ho,_⟩:=I.ok.funs.mem hb
  exact I.base.free b o ho (I.ok.frf b hb) fun z=>I.ok.exfs b z hb
theorem Inv.step {g':Array GenState} {t':Nat} {d':Drawn} {ch:List Addr} (I:Inv X pz σ H s)
  (hch:∀b∈ch,(b∈X.ex\/X.s₀.heap.objs.size<=b)/\b≠X.env.locals/\(∀x c,X.env.cells.lookup x=some c->c≠b)/\∀p∈X.pn++pz,p.1≠b)
  (keep:∀b o,b≠X.env.locals->b∉X.fs->b∉ch->s.heap.get? b=some o->H b=none->h'.get? b=some o)
  (slot:∀b o,b≠X.env.locals->b∈X.fs->b∉ch->s.heap.get? b=some o->H b=none->∃sl,h'.get? b=some {o with slots:=sl}) (free:∀b o,b∉ch->s.heap.get? b=some o->H b=none->H' b=none)
  (there:∀b o,b∉ch->s.heap.get? b=some o->∃o',h'.get? b=some o')
  (tups:∀b xs,H b=some (.tup xs)->H' b=some (.tup xs)) (frzs:∀b o u,H b=some (.frz o u)->H' b=some (.frz o u)) (tbls:∀b ps,H b=some (.tbl ps)->∃more,H' b=some (.tbl (ps++more)))
  (ns:∀m,s.heap.Ns X.env.locals m->h'.Ns X.env.locals m) (hok:HOk X.prog X.w H' h') (hg:AllBare g'):
  Inv X pz σ H' {s with heap:=h',gens:=g',drawn:=d',toks:=t'}:=by
 have neL:∀b o,X.s₀.heap.get? b=some o->b≠X.env.locals:=fun b o e=>bY (bW (eI e) I.ok.above)
 have neC:∀b o,X.s₀.heap.get? b=some o->b∉X.ex->b∉ch:=fun b o e hx hb=>by
  rcases(hch b hb).1 with z|z
  ·exact hx z
  ·exact absurd (bW (eI e) z) (bX _)
 have cellK:∀x c,X.env.cells.lookup x=some c->∀v,s.heap.IsCell c v->h'.IsCell c v:=fun x c e v ⟨o,ho,hd⟩=>by
  have nch:c∉ch:=fun z=>(hch c z).2.2.1 x c e rfl
  by_cases hc:c∈X.fs
  ·obtain⟨sl,q⟩:=slot c o (I.cne x c e) hc nch ho (I.freeC x c e)
   exact⟨_,q,hd⟩
  ·exact⟨o,keep c o (I.cne x c e) hc nch ho (I.freeC x c e),hd⟩
 refine⟨I.ok,I.os,hg,⟨fun b o e n hb hx=>?_,fun b o e n hb hx=>?_,fun b o e n hx=>?_,fun b o e hx=>?_,fun b xs e=>tups b xs (I.base.tups b xs e),fun b o xs e=>frzs b o xs (I.base.frzs b o xs e),fun b ps e=>?_⟩,?_,fun x c e=>?_,?_,fun x c e=>?_,fun p hp=>?_,hok,I.len⟩
 ·exact keep b o (neL b o e) hb (neC b o e hx) (I.base.keep b o e n hb hx) (I.base.free b o e n hx)
 ·obtain⟨sl,e1⟩:=I.base.slot b o e n hb hx
  obtain⟨sl',e2⟩:=slot b _ (neL b o e) hb (neC b o e hx) e1 (I.base.free b o e n hx)
  exact⟨sl',e2⟩
 ·obtain⟨o',e1⟩:=I.base.there b o e hx
  exact free b o' (neC b o e hx) e1 (I.base.free b o e n hx)
 ·obtain⟨o',e1⟩:=I.base.there b o e hx
  exact there b o' (neC b o e hx) e1
 ·obtain⟨m1,e1⟩:=I.base.tbls b ps e
  obtain⟨m2,e2⟩:=tbls b _ e1
  exact⟨m1++m2,by rw[e2,Array.append_assoc]⟩
 ·obtain⟨m,hn,hl⟩:=I.loc
  refine⟨m,ns m hn,fun i x v e1 e2 e3=>?_⟩
  obtain⟨u,r,l⟩:=hl i x v e1 e2 e3
  refine⟨u,r,?_⟩
  rcases l with l|⟨k,c,e,z⟩
  ·exact .inl l
  ·exact .inr ⟨k,c,e,cellK x c e _ z⟩
 ·obtain⟨v,z⟩:=I.cell x c e
  exact⟨v,cellK x c e v z⟩
 ·obtain⟨m,⟨o,_,_,ho,_⟩,_⟩:=I.loc
  exact free _ o (fun z=>(hch _ z).2.1 rfl) ho I.free
 ·obtain⟨v,o,ho,hd⟩:=I.cell x c e
  exact free c o (fun z=>(hch c z).2.2.1 x c e rfl) ho (I.freeC x c e)
 ·obtain⟨e,n,ne,nf,d⟩:=I.pin p hp
  have nch:p.1∉ch:=fun z=>(hch p.1 z).2.2.2 p hp rfl
  exact⟨keep p.1 p.2 ne nf nch e n,free p.1 p.2 nch e n,ne,nf,d⟩
theorem Inv.un {t':Nat} (I:Inv X pz σ H s) (u:Un X.fs [] H H' s.heap h') (hok:HOk X.prog X.w H' h'):Inv X pz σ H' {s with heap:=h',toks:=t'}:=by
 obtain⟨m,⟨o,es,ep,ho,r⟩,_⟩:=id I.loc
 obtain⟨sl,hL⟩:=u.any ho I.free (by simp)
 exact I.step (g':=s.gens) (d':=s.drawn) (ch:=[]) (fun _ z=>nomatch z) (fun b o _ hb _ e n=>u.keep b o e n hb (by simp)) (fun b o _ hb _ e n=>u.slot b o e n hb (by simp)) (fun b o _ e n=>u.free b o e n (by simp)) (fun b o _ e=>u.there b o e (by simp)) u.tups u.frzs u.tbls (fun m' hm=>by
  obtain⟨o',es',ep',ho',r'⟩:=hm
  rw[ho]at ho';cases ho'
  exact⟨_,es',ep',hL,r'⟩) hok I.bare
theorem Inv.call {g':Array GenState} {t':Nat} {d':Drawn} {ch:List Addr} (I:Inv X pz σ H s) (u:Un (frs X.stack) ch H H' s.heap h') (hok:HOk X.prog X.w H' h') (hg:AllBare g')
  (hch:∀b∈ch,(b∈X.ex\/X.s₀.heap.objs.size<=b)/\b≠X.env.locals/\(∀x c,X.env.cells.lookup x=some c->c≠b)/\∀p∈X.pn++pz,p.1≠b):
  Inv X pz σ H' {s with heap:=h',gens:=g',drawn:=d',toks:=t'}:=by
 obtain⟨m,⟨o,es,ep,ho,r⟩,_⟩:=id I.loc
 obtain⟨sl,hL⟩:=u.any ho I.free fun z=>(hch _ z).2.1 rfl
 exact I.step (ch:=ch) hch (fun b o hL hb hc e n=>u.keep b o e n (fun z=>(ak.mp (I.stkSub b z)).elim hL hb) hc) (fun b o _ _ hc e n=>u.any e n hc) (fun b o hc e n=>u.free b o e n hc) (fun b o hc e=>u.there b o e hc) u.tups u.frzs u.tbls (fun m' hm=>by
  obtain⟨o',es',ep',ho',r'⟩:=hm
  rw[ho]at ho';cases ho'
  exact⟨_,es',ep',hL,r'⟩) hok hg
theorem Inv.turned {t':Nat} {it:Addr} (I:Inv X pz σ H s) (k:∀b o,b≠it->s.heap.get? b=some o->h'.get? b=some o) (hn:H it=none) (hL:it≠X.env.locals)
  (h1:it∈X.ex\/X.s₀.heap.objs.size<=it) (h2:∀x c,X.env.cells.lookup x=some c->c≠it) (h3:∀p∈X.pn++pz,p.1≠it):Inv X pz σ H {s with heap:=h',toks:=t'}:=by
 have nit:∀b u,H b=some u->b≠it:=fun b u e z=>by rw[z,hn]at e;cases e
 refine I.step (g':=s.gens) (d':=s.drawn) (ch:=[it]) (fun b hb=>?_) (fun b o _ _ hc e _=>k b o (fun z=>hc (by simp[z])) e) (fun b o _ _ hc e _=>⟨o.slots,k b o (fun z=>hc (by simp[z])) e⟩) (fun _ _ _ _ n=>n)
  (fun b o hc e=>⟨o,k b o (fun z=>hc (by simp[z])) e⟩) (fun _ _ e=>e) (fun _ _ _ e=>e) (fun b ps e=>⟨#[],by rw[e];simp⟩) (fun m hm=>?_) (fun b u e=>?_) I.bare
 ·have e:b=it:=by simpa using hb
  subst e
  exact⟨h1,hL,h2,h3⟩
 ·obtain⟨o,es,ep,ho,r⟩:=hm
  exact⟨o,es,ep,k _ o (Ne.symm hL) ho,r⟩
 ·refine(I.hok b u e).stay (fun c v hc q=>k c v ?_ q) (fun _ q=>q) fun _ _ q=>q
  rcases hc with z|z
  ·rw[z];exact nit b u e
  ·exact nit c _ z
theorem Inv.tok (I:Inv X pz σ H s) (t:Nat):Inv X pz σ H {s with toks:=t}:=I.un (h':=s.heap) (t':=t) Un.refl I.hok
theorem Inv.kept {t':Nat} (I:Inv X pz σ H s) (k:∀b u,s.heap.get? b=some u->h'.get? b=some u):Inv X pz σ H {s with heap:=h',toks:=t'}:=I.un (Un.kept k) (I.hok.kept k)
theorem Inv.laid {a:Addr} {o:HO} {t':Nat} (I:Inv X pz σ H s) (k:∀b u,s.heap.get? b=some u->h'.get? b=some u) (hp:s.heap.objs.size<=a) (new:hX X.prog X.w (upd H a o) h' a o):
  Inv X pz σ (upd H a o) {s with heap:=h',toks:=t'}:=I.un (Un.laid k hp (I.hok.fresh hp)) (I.hok.laid k hp new)
theorem Inv.write {x e:Addr} {o:HO} {t':Nat} (I:Inv X pz σ H s) (mu:Mut (H x)) (he:e=x\/H e=some (.own x)) (k:∀b u,b≠e->s.heap.get? b=some u->h'.get? b=some u) (heo:∃u,h'.get? e=some u)
  (new:hX X.prog X.w (upd H x o) h' x o):Inv X pz σ (upd H x o) {s with heap:=h',toks:=t'}:=I.un (Un.write mu he k heo) (I.hok.write mu he k heo new)
theorem Inv.pins_of {pins':List (Addr×Obj)} (I:Inv X pz σ H s) (h:∀p∈pins',s.heap.get? p.1=some p.2/\H p.1=none/\p.1≠X.env.locals/\p.1∉X.fs/\∀v,p.2.data≠ .cell v):Inv X pins' σ H s:=
 ⟨I.ok,I.os,I.bare,I.base,I.loc,I.cell,I.free,I.freeC,fun p hp=>(ao.mp hp).elim (fun z=>I.pin p (aq _ z)) (h p),I.hok,I.len⟩
theorem vL {N:List Str} (hN:N.Nodup) {i j:Nat} {x:Str} (a:N[i]?=some x) (b:N[j]?=some x):i=j:=by
 obtain⟨h1,e1⟩:=ar.mp a
 obtain⟨h2,e2⟩:=ar.mp b
 exact(List.getElem_inj hN).mp (e1.trans e2.symm)
theorem xY {M:Model} {A:Around} {E:Value->Shared->Prop} {i:Nat} {x:Str} {v:V} {u:Value} {Q:Unit->Shared->Prop} (I:Inv X pz σ H s) (hN:X.N.Nodup) (hi:X.N[i]?=some x) (hx:Loc X.env.scope x) (r:gU v u)
  (h:∀s',Inv X pz (σ.set i (some v)) H s'->(∃a,Heap.SameBut a s.heap s'.heap/\(a=X.env.locals\/X.env.cells.lookup x=some a))->Q () s') (hf:autoParam (X.fn x=true\/X.env.scope.names.lookup x=some .local) L2.Internal.auL._auto_1):wpAny M A (storeName X.env x u) Q E s:=by
 obtain⟨m,hn,hl⟩:=id I.loc
 have hcls:(X.env.scope.kind== .class||(X.env.scope.kind== .module&&X.env.locals !=X.env.globals))=false:=by rw[I.ok.kind];rfl
 have hiσ:i<σ.length:=by rw[I.len];exact(ar.mp hi).1
 have cne:=I.cne
 have tracked:∀{a:Addr} {h':Heap},(∃o,s.heap.get? a=some o/\H a=none)->Heap.SameBut a s.heap h'->HOk X.prog X.w H h':=fun{a h'} ha hs b ob e=>by
  obtain⟨_,_,hfree⟩:=ha
  refine(I.hok b ob e).stay (fun c w' hc q=>(hs.2 c ?_).trans q) (fun _ q=>q) fun _ _ q=>q
  rintro rfl
  rcases hc with rfl|hc
  ·rw[hfree]at e;cases e
  ·rw[hfree]at hc;cases hc
 rcases hx with hk|hk
 ·refine wpAny_storeName_local hk hn (fun h' hn' hs=>?_) hcls
  obtain⟨oL,_,_,hoL,_⟩:=id hn
  refine h _ ⟨I.ok,I.os,I.bare,⟨fun b o e n hb hx=>?_,fun b o e n hb hx=>?_,I.base.free,fun b o e hx=>?_,I.base.tups,I.base.frzs,I.base.tbls⟩,⟨_,hn',fun j y v' e1 e2 e3=>?_⟩,fun y c e=>?_,I.free,I.freeC,fun p hp=>?_,tracked ⟨oL,hoL,I.free⟩ hs,by simpa using I.len⟩ ⟨_,hs,.inl rfl⟩
  ·exact(hs.2 b (bY (bW (eI e) I.ok.above))).trans (I.base.keep b o e n hb hx)
  ·obtain⟨sl,e1⟩:=I.base.slot b o e n hb hx
   exact⟨sl,(hs.2 b (bY (bW (eI e) I.ok.above))).trans e1⟩
  ·obtain⟨o',e1⟩:=I.base.there b o e hx
   exact⟨o',(hs.2 b (bY (bW (eI e) I.ok.above))).trans e1⟩
  ·by_cases hj:j=i
   ·subst hj
    rw[hi]at e1;cases e1
    rw[av hiσ]at e2
    cases e2
    exact⟨u,r,.inl ⟨hk,by simp⟩⟩
   ·rw[aw (Ne.symm hj)]at e2
    obtain⟨u',r',q⟩:=hl j y v' e1 e2 e3
    refine⟨u',r',?_⟩
    rcases q with⟨k,e⟩|⟨k,c,e,z⟩
    ·refine .inl ⟨k,?_⟩
     have:y≠x:=fun e=>hj (vL hN e1 (e▸hi))
     simp[this,e]
    ·exact .inr ⟨k,c,e,z.sameBut hs (cne y c e)⟩
  ·obtain⟨w',z⟩:=I.cell y c e
   exact⟨w',z.sameBut hs (cne y c e)⟩
  ·obtain⟨e,n,ne,nf,d⟩:=I.pin p hp
   exact⟨(hs.2 p.1 ne).trans e,n,ne,nf,d⟩
 ·have hfn:X.fn x=true:=by
   rcases hf with z|z
   ·exact z
   ·rw[z]at hk;cases hk
  obtain⟨c,hc⟩:=I.ok.has x (.inl hk)
  obtain⟨w',z⟩:=I.cell x c hc
  refine wpAny_storeName_cell I.ok.kind hk hc z (fun h' hc' hs=>?_)
  obtain⟨oc,hoc,hocd⟩:=id z
  refine h {s with heap:=h'} ⟨I.ok,I.os,I.bare,⟨fun b o e n hb hx=>?_,fun b o e n hb hx=>?_,I.base.free,fun b o e hx=>?_,I.base.tups,I.base.frzs,I.base.tbls⟩,⟨m,hn.sameBut hs (Ne.symm (cne x c hc)),fun j y v' e1 e2 e3=>?_⟩,fun y c' e=>?_,I.free,I.freeC,fun p hp=>?_,tracked ⟨oc,hoc,I.freeC x c hc⟩ hs,by simpa using I.len⟩ ⟨c,hs,.inr hc⟩
  ·exact(hs.2 b (bY (bW (eI e) (I.ok.cab x c hfn hc)))).trans (I.base.keep b o e n hb hx)
  ·obtain⟨sl,e1⟩:=I.base.slot b o e n hb hx
   exact⟨sl,(hs.2 b (bY (bW (eI e) (I.ok.cab x c hfn hc)))).trans e1⟩
  ·obtain⟨o',e1⟩:=I.base.there b o e hx
   exact⟨o',(hs.2 b (bY (bW (eI e) (I.ok.cab x c hfn hc)))).trans e1⟩
  ·by_cases hj:j=i
   ·subst hj
    rw[hi]at e1;cases e1
    rw[av hiσ]at e2
    cases e2
    exact⟨u,r,.inr ⟨.inl hk,c,hc,hc'⟩⟩
   ·rw[aw (Ne.symm hj)]at e2
    obtain⟨u',r',q⟩:=hl j y v' e1 e2 e3
    refine⟨u',r',?_⟩
    rcases q with q|⟨k,c',e,z'⟩
    ·exact .inl q
    ·refine .inr ⟨k,c',e,z'.sameBut hs ?_⟩
     rintro rfl
     exact hj (vL hN e1 (I.ok.inj _ _ _ e hc▸hi))
  ·by_cases hcc:c'=c
   ·subst hcc;exact⟨_,hc'⟩
   ·obtain⟨w2,z2⟩:=I.cell y c' e
    exact⟨w2,z2.sameBut hs hcc⟩
  ·obtain⟨e,n,ne,nf,d⟩:=I.pin p hp
   refine⟨(hs.2 p.1 ?_).trans e,n,ne,nf,d⟩
   intro q
   rw[q,hoc]at e
   have q':oc=p.2:=cC.inj e
   exact d w' (by rw[<-q'];exact hocd)
theorem pV {M:Model} {A:Around} {E:Value->Shared->Prop} {i:Nat} {x:Str} {v:V} {u:Value} {Q:Unit->Shared->Prop} (I:Inv X pz σ H s) (hN:X.N.Nodup) (hi:X.N[i]?=some x) (hx:Loc X.env.scope x) (r:gU v u)
  (h:∀s',Inv X pz (σ.set i (some v)) H s'->Q () s') (hf:autoParam (X.fn x=true\/X.env.scope.names.lookup x=some .local) L2.Internal.auL._auto_1):wpAny M A (storeName X.env x u) Q E s:=
 xY I hN hi hx r (fun s' I' _=>h s' I') hf
theorem Inv.call' {s':Shared} {ch:List Addr} (I:Inv X pz σ H s) (ho:s'.os=s.os) (u:Un (frs X.stack) ch H H' s.heap s'.heap) (hok:HOk X.prog X.w H' s'.heap) (hg:AllBare s'.gens)
  (hch:∀b∈ch,(b∈X.ex\/X.s₀.heap.objs.size<=b)/\b≠X.env.locals/\(∀x c,X.env.cells.lookup x=some c->c≠b)/\∀p∈X.pn++pz,p.1≠b):Inv X pz σ H' s':=by
 obtain⟨h',g',d',t',o'⟩:=s'
 have e:o'=s.os:=ho
 subst e
 exact I.call (g':=g') (t':=t') (d':=d') u hok hg hch
end
abbrev XK:=Value->Option Addr->Hp->Prop
abbrev St:=List (Option V)
abbrev VK:=V->Hp->Prop
abbrev TE:=St->Hp->VK->Prop
abbrev TT:=St->Hp->(Bool->Hp->Prop)->Prop
abbrev TA:=St->Hp->(List V->Hp->Prop)->Prop
structure pj where
 nx:St->Hp->Prop
 rt:VK
 bk:St->Hp->Prop:=fun _ _=>False
 ct:St->Hp->Prop:=fun _ _=>False
abbrev TS:=pj->St->Hp->Prop
def EP (X:Cx) (pz:List (Addr×Obj)) (σ:St) (Q:VK) (u:Value) (s':Shared):Prop:=∃v H',Inv X pz σ H' s'/\gU v u/\Q v H'
def TP (X:Cx) (pz:List (Addr×Obj)) (σ:St) (Q:Bool->Hp->Prop) (b:Bool) (s':Shared):Prop:=∃H',Inv X pz σ H' s'/\Q b H'
def AP (X:Cx) (pz:List (Addr×Obj)) (σ:St) (Q:List V->Hp->Prop) (us:List Value) (s':Shared):Prop:=∃vs H',Inv X pz σ H' s'/\gP vs us/\Q vs H'
def SP (X:Cx) (pz:List (Addr×Obj)) (D:pj) (f:Flow) (s':Shared):Prop:=
 match f with
 | .next=>∃σ' H',Inv X pz σ' H' s'/\D.nx σ' H'
 | .brk=>∃σ' H',Inv X pz σ' H' s'/\D.bk σ' H'
 | .cont=>∃σ' H',Inv X pz σ' H' s'/\D.ct σ' H'
 | .ret u=>∃v σ' H',Inv X pz σ' H' s'/\gU v u/\D.rt v H'
def PE (X:Cx) (e:Expr) (t:TE):Prop:=
 ∀(pz:List (Addr×Obj)) (s:Shared) (σ:St) (H:Hp) (Q:VK),Inv X pz σ H s->t σ H Q->wpAny (model X.prog X.w) X.A (eval e X.env) (EP X pz σ Q) X.xe s
def PT (X:Cx) (e:Expr) (t:TT):Prop:=
 ∀(pz:List (Addr×Obj)) (s:Shared) (σ:St) (H:Hp) (Q:Bool->Hp->Prop),Inv X pz σ H s->t σ H Q->wpAny (model X.prog X.w) X.A (isTrue e X.env (eval e X.env)) (TP X pz σ Q) X.xe s
def PW (X:Cx) (e:Expr) (t:TT):Prop:=
 ∀(whole:Sem Value) (pz:List (Addr×Obj)) (s:Shared) (σ:St) (H:Hp) (Q:Bool->Hp->Prop),Inv X pz σ H s->t σ H Q->wpAny (model X.prog X.w) X.A (isTrue e X.env whole) (TP X pz σ Q) X.xe s
theorem PW.pt {X:Cx} {e:Expr} {t:TT} (h:PW X e t):PT X e t:=h _
def PA (X:Cx) (es:List Expr) (t:TA):Prop:=
 ∀(pos:Pos) (pz:List (Addr×Obj)) (s:Shared) (σ:St) (H:Hp) (Q:List V->Hp->Prop),Inv X pz σ H s->t σ H Q->wpAny (model X.prog X.w) X.A (spliced (backTo pos (starEach es X.env))) (AP X pz σ Q) X.xe s
def PS (X:Cx) (st:Stmt) (t:TS):Prop:=
 ∀(pz:List (Addr×Obj)) (s:Shared) (σ:St) (H:Hp) (D:pj),Inv X pz σ H s->t D σ H->wpAny (model X.prog X.w) X.A (exec st X.env) (SP X pz D) X.xe s
def PSs (X:Cx) (st:List Stmt) (t:TS):Prop:=
 ∀(pz:List (Addr×Obj)) (s:Shared) (σ:St) (H:Hp) (D:pj),Inv X pz σ H s->t D σ H->wpAny (model X.prog X.w) X.A (execs st X.env) (SP X pz D) X.xe s
theorem thn {α:Type} {t:Sem α} {Q Q':α->Shared->Prop} {M:Model} {A:Around} {E:Value->Shared->Prop} {s:Shared} (h:wpAny M A t Q E s) (hQ:∀a s,Q a s->Q' a s):wpAny M A t Q' E s:=wpAny_mono h hQ fun _ _ x=>x
section
variable {X:Cx}
def Hs (i:Nat):TE:=fun σ H Q=>∃v,σ[i]?=some (some v)/\Q v H
def tC (v:V):TE:=fun _ H Q=>Q v H
theorem D7 {i:Nat} {x:Str} {pos:Pos} (hN:X.N[i]?=some x) (hv:Vis X.env.scope x) (hd:autoParam ((x==("__debug__":Str))=false) L2.Internal.auD._auto_1) (hcd:autoParam ((x==("__classdict__":Str))=false) L2.Internal.auD._auto_1):PE X (.Name x pos) (Hs i):=by
 intro pz s σ H Q I h
 obtain⟨v,e,h⟩:=h
 obtain⟨m,hn,hl⟩:=I.loc
 obtain⟨u,r,l⟩:=hl i x v hN e hv
 have fin:EP X pz σ Q u s:=⟨v,H,I,r,h⟩
 rcases l with⟨hk,hm⟩|⟨hk,c,hc,hcell⟩
 ·exact wpAny_Name (wpAny_loadName_local I.ok.kind hk hn hm fin) hd
 ·rcases hk with hk|hk
  ·exact wpAny_Name (wpAny_loadName_cell I.ok.kind hk hc hcell fin) hd
  ·exact wpAny_Name (wpAny_loadName_free I.ok.kind hk hc hcell fin hcd) hd
theorem eV {i j pos}:PE X (.Constant (.int i) j pos) (tC (.int i)):=fun _ _ _ H _ I h=>wpAny_Constant_int ⟨.int i,H,I.tok _,⟨_,rfl⟩,h⟩
theorem tL {b j pos}:PE X (.Constant (.bool b) j pos) (tC (.bl b)):=fun _ _ _ H _ I h=>Constant_bool ⟨.bl b,H,I,rfl,h⟩
theorem xZ {j pos}:PE X (.Constant .none j pos) (tC .non):=fun _ _ _ H _ I h=>Constant_none ⟨.non,H,I,rfl,h⟩
theorem fF {x j pos}:PE X (.Constant (.str x) j pos) (tC (.str x)):=fun _ _ _ H _ I h=>Calls.Constant_str ⟨.str x,H,I.tok _,⟨_,rfl⟩,h⟩
def Gl (X:Cx) (x:Str):Prop:=X.env.kindOf x=some .globalImplicit
theorem su {E:Value->Shared->Prop} {pz:List (Addr×Obj)} {s:Shared} {σ:St} {H:Hp} {x:Str} {u:Value} {pos:Pos} {Q:Value->Shared->Prop} (I:Inv X pz σ H s) (hg:Gl X x) (hm:X.mg x=some u) (h:Q u s)
  (hd:autoParam ((x==("__debug__":Str))=false) L2.Internal.auD._auto_1):wpAny (model X.prog X.w) X.A (eval (.Name x pos) X.env) Q E s:=
 Calls.Name_function_global I.ok.kind hg (Calls.loadGlobal_global (by rw[I.ok.glob];exact I.mod.glob.keeps I.bk) hm h) hd
theorem p8 {E:Value->Shared->Prop} {pz:List (Addr×Obj)} {s:Shared} {σ:St} {H:Hp} {x:Str} {u:Value} {pos:Pos} {Q:Value->Shared->Prop} (I:Inv X pz σ H s) (hg:Gl X x) (hm:X.mg x=none) (hv:bootBuiltins x=some u) (h:Q u s)
  (hn:autoParam (x≠"__name__") L2.Internal.auD._auto_1) (hd:autoParam ((x==("__debug__":Str))=false) L2.Internal.auD._auto_1):wpAny (model X.prog X.w) X.A (eval (.Name x pos) X.env) Q E s:=by
 obtain⟨mb,h1,h2⟩:=I.mod.blt
 exact Calls.Name_function_global I.ok.kind hg (Calls.loadGlobal_builtin (by rw[I.ok.glob];exact I.mod.glob.keeps I.bk) hm (by rw[I.ok.blt];exact h1.keeps I.bk) ((h2 x hn).trans hv) h) hd
theorem Ce {x:Str} {v:V} {u:Value} {pos:Pos} (hg:Gl X x) (hm:X.mg x=some u) (r:gU v u) (hd:autoParam ((x==("__debug__":Str))=false) L2.Internal.auD._auto_1):PE X (.Name x pos) (tC v):=
 fun _ _ _ H _ I h=>su I hg hm ⟨v,H,I,r,h⟩ hd
theorem Cf {x:Str} {v:V} {u:Value} {pos:Pos} (hg:Gl X x) (hm:X.mg x=none) (hv:bootBuiltins x=some u) (r:gU v u) (hn:autoParam (x≠"__name__") L2.Internal.auD._auto_1) (hd:autoParam ((x==("__debug__":Str))=false) L2.Internal.auD._auto_1):PE X (.Name x pos) (tC v):=
 fun _ _ _ H _ I h=>p8 I hg hm hv ⟨v,H,I,r,h⟩ hn hd
variable {a b:Expr} {ta tb:TE} {pos:Pos}
def PC (X:Cx) (op:CmpOp) (a b:Expr) (t:TE):Prop:=
 ∀(pz:List (Addr×Obj)) (s:Shared) (σ:St) (H:Hp) (Q:VK),Inv X pz σ H s->t σ H Q->
  wpAny (model X.prog X.w) X.A (eval a X.env) (fun v s₁=>wpAny (model X.prog X.w) X.A (eval b X.env) (fun u s₂=>wpAny (model X.prog X.w) X.A (compareOp op v u) (EP X pz σ Q) X.xe s₂) X.xe s₁) X.xe s
theorem vM (b:Expr) {op:CmpOp} (h:op≠ .In) (h2:op≠ .NotIn):behindInMarks op b=false:=by
 have e1:(op==CmpOp.In)=false:=by cases op<;>first|rfl|exact absurd rfl h
 have e2:(op==CmpOp.NotIn)=false:=by cases op<;>first|rfl|exact absurd rfl h2
 cases b<;>simp[behindInMarks,e1,e2]
def tIsN (ta:TE):TE:=fun σ H Q=>ta σ H fun x H1=>Q (.bl (decide (x= .non))) H1
def D8 (ta:TE):TE:=fun σ H Q=>ta σ H fun x H1=>Q (.bl (!decide (x= .non))) H1
theorem gU.none_iff {x:V} {v:Value} (r:gU x v):(v==Value.none)=decide (x= .non):=by
 cases x with
 |non=>cases r;rfl
 |bl _=>cases r;rfl
 |int _=>obtain⟨t,rfl⟩:=r;rfl
 |str _=>obtain⟨t,rfl⟩:=r;rfl
 |byt _=>obtain⟨t,rfl⟩:=r;rfl
 |flt _=>obtain⟨t,rfl⟩:=r;rfl
 |ref _=>cases r;rfl
 |ty _=>cases r;rfl
theorem ya {j pos'} (ha:PE X a ta):PC X .Is a (.Constant .none j pos') (tIsN ta):=by
 intro pz s σ H Q I h
 refine thn (ha pz s σ H _ I h) fun v s1 ⟨x,H1,I1,r1,q1⟩=>?_
 exact Constant_none (is_none_gen ⟨.bl _,H1,I1,by rw[r1.none_iff];rfl,q1⟩)
theorem Cg {j pos'} (ha:PE X a ta):PC X .IsNot a (.Constant .none j pos') (D8 ta):=by
 intro pz s σ H Q I h
 refine thn (ha pz s σ H _ I h) fun v s1 ⟨x,H1,I1,r1,q1⟩=>?_
 exact Constant_none (isnot_none_gen ⟨.bl _,H1,I1,by rw[r1.none_iff];rfl,q1⟩)
def tB (t:TE):TT:=fun σ H Q=>t σ H fun x H1=>∃c,x= .bl c/\Q c H1
theorem Ea {op:CmpOp} {t:TE} (h:PC X op a b t) (h1:behindInMarks op b=false:=by first|exact vM _ (by decide) (by decide)|rfl):PE X (.Compare a [op] [b] pos) t:=fun pz s σ H Q I hw=>wpAny_Compare1 (h pz s σ H Q I hw) h1
theorem yb {op:CmpOp} {t:TE} (h:PC X op a b t) (h1:behindInMarks op b=false:=by first|exact vM _ (by decide) (by decide)|rfl):PT X (.Compare a [op] [b] pos) (tB t):=by
 intro pz s σ H Q I hw
 refine wpAny_isTrue_Compare1 (thn (h pz s σ H _ I hw) fun v s1 h1=>thn h1 fun u s2 h2=>thn h2 fun c s3 ⟨x,H1,I1,r1,q1⟩=>?_) h1
 obtain⟨d,rfl,q⟩:=q1
 cases r1
 exact wpAny_truthy_bool ⟨H1,I1,q⟩
theorem mF {e:Expr} {t:TE} (h:PE X e t) (he:autoParam (∀whole,isTrue e X.env whole=(do let v<-whole;standAt e.pos;holding [v] (truthy v))) L2.Internal.auI._auto_1):PT X e (tB t):=by
 intro pz s σ H Q I hw
 refine isTrue_plain (thn (h pz s σ H _ I hw) fun v s1 ⟨x,H1,I1,r1,q1⟩=>?_) (he _)
 obtain⟨d,rfl,q⟩:=q1
 cases r1
 exact wpAny_truthy_bool ⟨H1,I1,q⟩
variable {tA tB':TT} {rest:List Expr}
def FN (t u:TT):TT:=fun σ H Q=>t σ H fun c H1=>if c=true then u σ H1 Q else Q false H1
def tOr (t u:TT):TT:=fun σ H Q=>t σ H fun c H1=>if c=true then Q true H1 else u σ H1 Q
def tNot (t:TT):TT:=fun σ H Q=>t σ H fun c H1=>Q (!c) H1
theorem ou (ha:PT X a tA):PW X (.BoolOp .And [a] pos) tA:=by
 intro wh pz s σ H Q I h
 refine isTrue_and (thn (ha pz s σ H Q I h) fun c s1 e=>?_)
 cases c with
 |true=>exact isTrue_and_nil e
 |false=>exact e
theorem vN (ha:PT X a tA):PW X (.BoolOp .Or [a] pos) tA:=by
 intro wh pz s σ H Q I h
 refine isTrue_or (thn (ha pz s σ H Q I h) fun c s1 e=>?_)
 cases c with
 |false=>exact isTrue_or_nil e
 |true=>exact e
theorem p9 (ha:PT X a tA) (hb:PW X (.BoolOp .And (b::rest) pos) tB'):PW X (.BoolOp .And (a::b::rest) pos) (FN tA tB'):=by
 intro wh pz s σ H Q I h
 refine isTrue_and (thn (ha pz s σ H _ I h) fun c s1 ⟨H1,I1,q1⟩=>?_)
 cases c with
 |true=>exact hb wh pz s1 σ H1 Q I1 q1
 |false=>exact⟨H1,I1,q1⟩
theorem yc (ha:PT X a tA) (hb:PW X (.BoolOp .Or (b::rest) pos) tB'):PW X (.BoolOp .Or (a::b::rest) pos) (tOr tA tB'):=by
 intro wh pz s σ H Q I h
 refine isTrue_or (thn (ha pz s σ H _ I h) fun c s1 ⟨H1,I1,q1⟩=>?_)
 cases c with
 |true=>exact⟨H1,I1,q1⟩
 |false=>exact hb wh pz s1 σ H1 Q I1 q1
theorem vO (ha:PT X a tA):PT X (.UnaryOp .Not a pos) (tNot tA):=by
 intro pz s σ H Q I h
 exact isTrue_not (ha pz s σ H (fun c H1=>Q (!c) H1) I h)
def FX (ta tb:TE):TE:=fun σ H Q=>ta σ H fun x H1=>∃c,x= .bl c/\if c=true then tb σ H1 Q else Q (.bl false) H1
def FY (ta tb:TE):TE:=fun σ H Q=>ta σ H fun x H1=>∃c,x= .bl c/\if c=true then Q (.bl true) H1 else tb σ H1 Q
def FZ (ta:TE):TE:=fun σ H Q=>ta σ H fun x H1=>∃c,x= .bl c/\Q (.bl (!c)) H1
theorem tM {op} {t:TE} (h:PE X a t):PE X (.BoolOp op [a] pos) t:=fun pz s σ H Q I hw=>BoolOp_one (h pz s σ H Q I hw)
theorem vP (ha:PE X a ta) (hb:PE X (.BoolOp .And (b::rest) pos) tb):PE X (.BoolOp .And (a::b::rest) pos) (FX ta tb):=by
 intro pz s σ H Q I h
 refine BoolOp_and (thn (ha pz s σ H _ I h) fun v s1 ⟨x,H1,I1,r1,q1⟩=>?_)
 obtain⟨c,rfl,q1⟩:=q1
 cases r1
 refine wpAny_truthy_bool ?_
 cases c with
 |true=>exact hb pz s1 σ H1 Q I1 q1
 |false=>exact⟨.bl false,H1,I1,rfl,q1⟩
theorem Eb (ha:PE X a ta) (hb:PE X (.BoolOp .Or (b::rest) pos) tb):PE X (.BoolOp .Or (a::b::rest) pos) (FY ta tb):=by
 intro pz s σ H Q I h
 refine BoolOp_or (thn (ha pz s σ H _ I h) fun v s1 ⟨x,H1,I1,r1,q1⟩=>?_)
 obtain⟨c,rfl,q1⟩:=q1
 cases r1
 refine wpAny_truthy_bool ?_
 cases c with
 |false=>exact hb pz s1 σ H1 Q I1 q1
 |true=>exact⟨.bl true,H1,I1,rfl,q1⟩
theorem Ec (ha:PE X a ta):PE X (.UnaryOp .Not a pos) (FZ ta):=by
 intro pz s σ H Q I h
 refine UnaryOp_ (thn (ha pz s σ H _ I h) fun v s1 ⟨x,H1,I1,r1,q1⟩=>?_)
 obtain⟨c,rfl,q1⟩:=q1
 cases r1
 exact not_of (wpAny_truthy_bool ⟨.bl (!c),H1,I1,rfl,q1⟩)
end
def SqL (K:PySem.W.Frag) (H:Hp) (a:Addr) (xs:List V):Prop:=
 Rd H a (.lst xs)\/
  ∃(o:Obj) (its:Array Value) (n:Nat),K.lookup a=some o/\o.cls= .type "list"/\o.dict=none/\o.data= .seq its n/\its.size<=sizeLine/\gP xs its.toList
def SqT (K:PySem.W.Frag) (H:Hp) (a:Addr) (xs:List V):Prop:=
 Rd H a (.tup xs)\/
  ∃(o:Obj) (its:Array Value) (n:Nat),K.lookup a=some o/\o.cls= .type "tuple"/\o.data= .seq its n/\its.size<=sizeLine/\gP xs its.toList
def absV:Value->Option V
 | .none=>some .non
 | .bool b=>some (.bl b)
 | .int i _=>some (.int i)
 | .str x _=>some (.str x)
 | .bytes b _=>some (.byt b)
 | .float b _=>some (.flt b)
 | .ref a=>some (.ref a)
 | .type n=>some (.ty n)
 |_=>none
theorem gU.abs {x:V} {u:Value} (r:gU x u):absV u=some x:=by
 cases x with
 |non=>cases r;rfl
 |bl _=>cases r;rfl
 |int _=>obtain⟨t,rfl⟩:=r;rfl
 |str _=>obtain⟨t,rfl⟩:=r;rfl
 |byt _=>obtain⟨t,rfl⟩:=r;rfl
 |flt _=>obtain⟨t,rfl⟩:=r;rfl
 |ref _=>cases r;rfl
 |ty _=>cases r;rfl
theorem gU.inj {x y:V} {u:Value} (r:gU x u) (q:gU y u):x=y:=cC.inj (r.abs.symm.trans q.abs)
theorem gP.inj:∀{xs ys:List V} {us:List Value},gP xs us->gP ys us->xs=ys
 |_,_,_,.nil,.nil=>rfl
 |_,_,_,.cons r t,.cons r' t'=>by rw[r.inj r',gP.inj t t']
section
variable {X:Cx} {pz:List (Addr×Obj)} {σ:St} {H:Hp} {s:Shared} {a:Addr} {xs ys:List V}
theorem SqL.of {K:PySem.W.Frag} (h:H a=some (.lst xs)):SqL K H a xs:= .inl (.inl h)
theorem SqT.of {K:PySem.W.Frag} (h:H a=some (.tup xs)):SqT K H a xs:= .inl (.inl h)
theorem Inv.list (I:Inv X pz σ H s) (h:SqL X.K H a xs):∃its:List Value,gP xs its/\PlainL s.heap a its.toArray/\xs.length<=sizeLine:=by
 rcases h with h|⟨o,its,n,hk,hc,hd,hs,hz,r⟩
 ·obtain⟨z,its,n,r,e⟩:=h.ok I.hok
  exact⟨its,r,⟨_,n,e,rfl,rfl,rfl⟩,z⟩
 ·refine⟨its.toList,r,⟨o,n,I.kIn a o hk,hc,hd,by simpa using hs⟩,?_⟩
  have e:=r.length
  simp only[ee]at e
  lia
theorem Inv.tuple (I:Inv X pz σ H s) (h:SqT X.K H a xs):∃its:List Value,gP xs its/\IsTup s.heap a its.toArray/\xs.length<=sizeLine:=by
 rcases h with h|⟨o,its,n,hk,hc,hs,hz,r⟩
 ·obtain⟨z,its,r,p⟩:=h.ok I.hok
  exact⟨its,r,p.tup,z⟩
 ·refine⟨its.toList,r,⟨o,I.kIn a o hk,hc,n,by simpa using hs⟩,?_⟩
  have e:=r.length
  simp only[ee]at e
  lia
theorem Inv.list_inj (I:Inv X pz σ H s) (h:SqL X.K H a xs) (h':SqL X.K H a ys):xs=ys:=by
 obtain⟨its,r,⟨o,n,e,_,_,d⟩,_⟩:=I.list h
 obtain⟨its',r',⟨o',n',e',_,_,d'⟩,_⟩:=I.list h'
 rw[e]at e';cases e'
 rw[d]at d'
 injection d' with d1 _
 have:its=its':=by simpa using congrArg Array.toList d1
 subst this
 exact r.inj r'
theorem Inv.tuple_inj (I:Inv X pz σ H s) (h:SqT X.K H a xs) (h':SqT X.K H a ys):xs=ys:=by
 obtain⟨its,r,⟨o,e,_,n,d⟩,_⟩:=I.tuple h
 obtain⟨its',r',⟨o',e',_,n',d'⟩,_⟩:=I.tuple h'
 rw[e]at e';cases e'
 rw[d]at d'
 injection d' with d1 _
 have:its=its':=by simpa using congrArg Array.toList d1
 subst this
 exact r.inj r'
end
abbrev Cx.wish (X:Cx) (E:Value->Shared->Prop):Cx:={X with xe:=E}
abbrev Cx.nox (X:Cx):Cx:=X.wish fun _ _=>False
theorem Cx.Ok.wish {X:Cx} (ok:X.Ok) (E:Value->Shared->Prop):(X.wish E).Ok:=
 ⟨ok.mod,ok.kind,ok.glob,ok.blt,ok.above,ok.inj,ok.has,ok.cab,ok.hd,ok.frames,ok.stk,ok.exf,ok.bs,ok.bsz,ok.noex,ok.exfs,ok.funs,ok.frf⟩
theorem Cx.Ok.unwish {X:Cx} {E:Value->Shared->Prop} (ok:(X.wish E).Ok):X.Ok:=
 ⟨ok.mod,ok.kind,ok.glob,ok.blt,ok.above,ok.inj,ok.has,ok.cab,ok.hd,ok.frames,ok.stk,ok.exf,ok.bs,ok.bsz,ok.noex,ok.exfs,ok.funs,ok.frf⟩
section
variable {X:Cx} {pz:List (Addr×Obj)} {σ:St} {H:Hp} {s:Shared} {E:Value->Shared->Prop}
theorem Inv.wish (I:Inv X pz σ H s) (E:Value->Shared->Prop):Inv (X.wish E) pz σ H s:=⟨I.ok.wish E,I.os,I.bare,I.base,I.loc,I.cell,I.free,I.freeC,I.pin,I.hok,I.len⟩
theorem Inv.unwish (I:Inv (X.wish E) pz σ H s):Inv X pz σ H s:=⟨I.ok.unwish,I.os,I.bare,I.base,I.loc,I.cell,I.free,I.freeC,I.pin,I.hok,I.len⟩
theorem SP.unwish {D:pj} {f:Flow} {s':Shared} (h:SP (X.wish E) pz D f s'):SP X pz D f s':=by
 cases f with
 |next=>obtain⟨σ',H',I,q⟩:=h;exact⟨σ',H',I.unwish,q⟩
 |brk=>obtain⟨σ',H',I,q⟩:=h;exact⟨σ',H',I.unwish,q⟩
 |cont=>obtain⟨σ',H',I,q⟩:=h;exact⟨σ',H',I.unwish,q⟩
 |ret u=>obtain⟨v,σ',H',I,r,q⟩:=h;exact⟨v,σ',H',I.unwish,r,q⟩
theorem PE.nox {e:Expr} {t:TE} (h:PE X.nox e t):PE X e t:=fun pz s σ H Q I hw=>
 wpAny_mono (h pz s σ H Q (I.wish _) hw) (fun _ _ ⟨v,H',I',r,q⟩=>⟨v,H',I'.unwish,r,q⟩) fun _ _ z=>False.elim z
theorem PT.nox {e:Expr} {t:TT} (h:PT X.nox e t):PT X e t:=fun pz s σ H Q I hw=>
 wpAny_mono (h pz s σ H Q (I.wish _) hw) (fun _ _ ⟨H',I',q⟩=>⟨H',I'.unwish,q⟩) fun _ _ z=>False.elim z
theorem PSs.nox {st:List Stmt} {t:TS} (h:PSs X.nox st t):PSs X st t:=fun pz s σ H D I hw=>
 wpAny_mono (h pz s σ H D (I.wish _) hw) (fun _ _ q=>q.unwish) fun _ _ z=>False.elim z
end
section
variable {X:Cx} {st:Stmt} {rest:List Stmt} {t u:TS} {e:Expr} {te:TE} {pos:Pos}
def jD:TS:=fun D σ H=>D.nx σ H
def yd (t u:TS):TS:=fun D σ H=>t {D with nx:=u D} σ H
theorem fJ:PSs X [] jD:=fun _ _ σ H _ I h=>wpAny_execs_nil ⟨σ,H,I,h⟩
theorem eU (h1:PS X st t) (h2:PSs X rest u):PSs X (st::rest) (yd t u):=by
 intro pz s σ H D I h
 refine wpAny_execs_cons (thn (h1 pz s σ H {D with nx:=u D} I h) fun f s1 q=>?_)
 cases f with
 |next=>
  obtain⟨σ',H',I',q⟩:=q
  exact h2 pz s1 σ' H' D I' q
 |ret v=>exact q
 |brk=>exact q
 |cont=>exact q
theorem eZ (h1:PS X st t):PSs X [st] t:=by
 intro pz s σ H D I h
 refine wpAny_execs_cons (thn (h1 pz s σ H D I h) fun f s1 q=>?_)
 cases f with
 |next=>exact wpAny_execs_nil q
 |ret v=>exact q
 |brk=>exact q
 |cont=>exact q
theorem Inv.quiet {pz:List (Addr×Obj)} {σ:St} {H:Hp} {s:Shared} (I:Inv X pz σ H s):interactive X.env=false:=by simp[interactive,I.ok.kind]
def F9 (te:TE):TS:=fun D σ H=>te σ H fun _ H1=>D.nx σ H1
theorem fA (he:PE X e te) (hs:autoParam (swapsWith e none pos.line X.env=pure false) L2.Internal.auR._auto_1):PS X (.Expr e pos) (F9 te):=by
 intro pz s σ H D I h
 exact wpAny_Expr_any (thn (he pz s σ H _ I h) fun v s1 ⟨x,H1,I1,r1,q1⟩=>⟨σ,H1,I1,q1⟩) I.quiet hs
def Ga (te:TE):TS:=fun D σ H=>te σ H D.rt
theorem fz (he:PE X e te):PS X (.Return (some e) pos) (Ga te):=by
 intro pz s σ H D I h
 exact wpAny_Return_some (thn (he pz s σ H _ I h) fun v s1 ⟨x,H1,I1,r1,q1⟩=>⟨x,σ,H1,I1,r1,q1⟩)
def vQ (c:TT) (t u:TS):TS:=fun D σ H=>c σ H fun b H1=>if b=true then t D σ H1 else u D σ H1
theorem gG {c:Expr} {a b:List Stmt} {tc:TT} (hc:PT X c tc) (ha:PSs X a t) (hb:PSs X b u):PS X (.If c a b pos) (vQ tc t u):=by
 intro pz s σ H D I h
 refine wpAny_If (thn (hc pz s σ H _ I h) fun d s1 ⟨H1,I1,q1⟩=>?_)
 cases d with
 |true=>exact ha pz s1 σ H1 D I1 q1
 |false=>exact hb pz s1 σ H1 D I1 q1
end
abbrev TG:=V->St->Hp->(St->Hp->Prop)->Prop
abbrev TGs:=List V->St->Hp->(St->Hp->Prop)->Prop
def PG (X:Cx) (target:Expr) (t:TG):Prop:=
 ∀(pz:List (Addr×Obj)) (s:Shared) (σ:St) (H:Hp) (v:V) (u:Value) (Q:St->Hp->Prop),Inv X pz σ H s->gU v u->t v σ H Q->
  wpAny (model X.prog X.w) X.A (assign target X.env u) (fun _ s'=>∃σ' H',Inv X pz σ' H' s'/\Q σ' H') X.xe s
def PGs (X:Cx) (ts:List Expr) (t:TGs):Prop:=
 ∀(pz:List (Addr×Obj)) (s:Shared) (σ:St) (H:Hp) (vs:List V) (us:List Value) (Q:St->Hp->Prop),Inv X pz σ H s->gP vs us->t vs σ H Q->
  wpAny (model X.prog X.w) X.A (assignInOrder ((assignEach ts X.env).map (·.2)) us) (fun _ s'=>∃σ' H',Inv X pz σ' H' s'/\Q σ' H') X.xe s
abbrev Gb:=V->V->V->Hp->(Hp->Prop)->Prop
def Ht (X:Cx) (t:Gb):Prop:=
 ∀(pz:List (Addr×Obj)) (s:Shared) (σ:St) (H:Hp) (o i v:V) (ov iv u:Value) (Q:Hp->Prop),Inv X pz σ H s->gU o ov->gU i iv->gU v u->t o i v H Q->
  wpAny (model X.prog X.w) X.A (setItem ov iv u) (fun _ s'=>∃H',Inv X pz σ H' s'/\Q H') X.xe s
section
variable {X:Cx} {pos:Pos}
def fN (i:Nat):TG:=fun v σ H Q=>Q (σ.set i (some v)) H
theorem u5 {i:Nat} {x:Str} (hN:X.N.Nodup) (hi:X.N[i]?=some x) (hx:Loc X.env.scope x) (hf:autoParam (X.fn x=true\/X.env.scope.names.lookup x=some .local) L2.Internal.auL._auto_1):PG X (.Name x pos) (fN i):=by
 intro pz s σ H v u Q I r h
 exact wpAny_assign_Name (pV I hN hi hx r (fun s' I'=>⟨_,H,I',h⟩) hf)
def Ed:TGs:=fun vs σ H Q=>vs=[]/\Q σ H
def sv (t:TG) (u:TGs):TGs:=fun vs σ H Q=>∃v r,vs=v::r/\t v σ H fun σ' H'=>u r σ' H' Q
theorem qa:PGs X [] Ed:=by
 intro pz s σ H vs us Q I r h
 obtain⟨e,h⟩:=h
 subst e
 cases r
 exact assignInOrder_nil ⟨σ,H,I,h⟩
theorem jo {e:Expr} {es:List Expr} {t:TG} {u:TGs} (h1:PG X e t) (h2:PGs X es u)
  (hs:autoParam ((assignEach (e::es) X.env).map (·.2)=assign e X.env::(assignEach es X.env).map (·.2)) L2.Internal.auR._auto_1):PGs X (e::es) (sv t u):=by
 intro pz s σ H vs us Q I r h
 obtain⟨v,vr,e1,h⟩:=h
 subst e1
 cases r with
 |cons r rr=>
  rw[hs]
  refine assignInOrder_cons (thn (h1 pz s σ H _ _ _ I r h) fun _ s1 ⟨σ1,H1,I1,q1⟩=>?_)
  exact h2 pz s1 σ1 H1 _ _ Q I1 rr q1
def Ee (K:PySem.W.Frag) (n:Nat) (t:TGs):TG:=fun v σ H Q=>∃a xs,v= .ref a/\SqT K H a xs/\xs.length=n/\t xs σ H Q
theorem tN {es:List Expr} {k:Nat} {t:TGs} {n:Nat} (hc:X.calm=true) (h:PGs X es t)
  (hn:autoParam ((assignEach es X.env).length=n) L2.Internal.auR._auto_1) (hst:autoParam ((assignEach es X.env).findIdx? (·.1)=none) L2.Internal.auR._auto_1):PG X (.Tuple es k pos) (Ee X.K n t):=by
 intro pz s σ H v u Q I r hw
 obtain⟨a,xs,e1,hq,hl,hw⟩:=hw
 subst e1
 cases r
 obtain⟨its,rv,ht,hz⟩:=I.tuple hq
 refine assign_Tuple_tuple (I.ok.hd hc) ht (by simp[hn,<-hl,rv.length]) hst fun h' hx=>?_
 have I1:Inv X pz σ H {s with heap:=h'}:=I.kept (t':=s.toks) fun b o e=>hx b o (bY (eI e)) e
 exact h pz _ σ H xs _ Q I1 (by simpa using rv) hw
def Hu (to ti:TE) (t:Gb):TG:=fun v σ H Q=>to σ H fun o H1=>ti σ H1 fun i H2=>t o i v H2 fun H3=>Q σ H3
theorem rN {o i:Expr} {to ti:TE} {t:Gb} (ho:PE X o to) (hi:PE X i ti) (hs:Ht X t)
  (ha:∀v,assign (.Subscript o i pos) X.env v=(do
   let ov<-holding [v] (eval o X.env)
   let iv<-holding [v,ov] (eval i X.env)
   standAt pos
   holding [v,ov,iv] (setItem ov iv v)
   release [v,ov,iv] []):=by intro _;rfl):PG X (.Subscript o i pos) (Hu to ti t):=by
 intro pz s σ H v u Q I r h
 rw[ha]
 refine wpAny_bind (wpAny_holding (thn (ho pz s σ H _ I h) fun ov s1 ⟨x,H1,I1,r1,q1⟩=>?_))
 refine wpAny_bind (wpAny_holding (thn (hi pz s1 σ H1 _ I1 q1) fun iv s2 ⟨y,H2,I2,r2,q2⟩=>?_))
 refine wpAny_bind (wpAny_standAt (wpAny_bind (wpAny_holding (thn (hs pz s2 σ H2 x y v ov iv u _ I2 r1 r2 r q2) fun _ s3 ⟨H3,I3,q3⟩=>?_))))
 exact wpAny_release ⟨σ,H3,I3,q3⟩
def Aj (te:TE) (g:TG):TS:=fun D σ H=>te σ H fun x H1=>g x σ H1 D.nx
theorem rO {tg e:Expr} {te:TE} {g:TG} (he:PE X e te) (hg:PG X tg g) (hs:autoParam (swapsWithSole [tg] e pos.line X.env=pure false) L2.Internal.auR._auto_1) (hw:autoParam (swappedStores [tg] e X.env=pure none) L2.Internal.auR._auto_1)
  (h1:autoParam ((assignEach [tg] X.env).map (·.2)=[assign tg X.env]) L2.Internal.auR._auto_1):PS X (.Assign [tg] e pos) (Aj te g):=by
 intro pz s σ H D I h
 refine wpAny_Assign_stores (thn (he pz s σ H _ I h) fun v s1 ⟨x,H1,I1,r1,q1⟩=>?_) hs hw
 rw[h1]
 exact thn (hg pz s1 σ H1 x v _ I1 r1 q1) fun _ s2 q=>q
theorem Ef {i:Nat} {x:Str} {e:Expr} {te:TE} {pos':Pos} (hN:X.N.Nodup) (hi:X.N[i]?=some x) (hx:Loc X.env.scope x) (he:PE X e te) (hs:autoParam (swapsWith e (some (.Name x pos')) pos.line X.env=pure false) L2.Internal.auR._auto_1) (hf:autoParam (X.fn x=true\/X.env.scope.names.lookup x=some .local) L2.Internal.auL._auto_1):
  PS X (.Assign [.Name x pos'] e pos) (Aj te (fN i)):=by
 intro pz s σ H D I h
 refine wpAny_Assign_Name (thn (he pz s σ H _ I h) fun v s1 ⟨y,H1,I1,r1,q1⟩=>?_) hs
 exact pV I1 hN hi hx r1 (fun s2 I2=>⟨_,H1,I2,q1⟩) hf
end
section
variable {X:Cx} {pos:Pos}
def tO (c:TT) (tb:TS):TS:=fun D σ H=>∃W:Nat->St->Hp->Prop,(∃m,W m σ H)/\∀m σ H,W m σ H->
 c σ H fun b H1=>if b=true then ∃N:St->Hp->Prop,(∀σ' H',N σ' H'->∃m',m'<m/\W m' σ' H')/\tb {D with nx:=N,ct:=N,bk:=D.nx} σ H1 else D.nx σ H1
theorem vR {c:Expr} {body:List Stmt} {tc:TT} {tb:TS} (hp:PassesOwn (model X.prog X.w) X.A X.env X.xe) (hc:PT X c tc) (hb:PSs X body tb):PS X (.While c body [] pos) (tO tc tb):=by
 intro pz s σ H D I h
 obtain⟨W,⟨m0,w0⟩,turn⟩:=h
 refine wpAny_While (codeAny_whileLoop (fun n s'=>∃σ' H',Inv X pz σ' H' s'/\W n σ' H') ?_ m0 ⟨σ,H,I,w0⟩)
 rintro n s1 ⟨σ1,H1,I1,w1⟩
 refine wpAny_passesOwn hp (thn (hc pz s1 σ1 H1 _ I1 (turn n σ1 H1 w1)) fun b s2 ⟨H2,I2,q2⟩=>?_)
 cases b with
 |true=>
  obtain⟨N,hN,q2⟩:=q2
  rw[f6 rfl]
  refine wpAny_passesOwn hp (thn (hb pz s2 σ1 H2 _ I2 q2) fun f s3 q3=>?_)
  cases f with
  |next=>
   obtain⟨σ3,H3,I3,n3⟩:=q3
   obtain⟨m',hm,w3⟩:=hN σ3 H3 n3
   exact⟨m',hm,σ3,H3,I3,w3⟩
  |cont=>
   obtain⟨σ3,H3,I3,n3⟩:=q3
   obtain⟨m',hm,w3⟩:=hN σ3 H3 n3
   exact⟨m',hm,σ3,H3,I3,w3⟩
  |brk=>exact q3
  |ret v=>exact q3
 |false=>
  rw[fO dU]
  exact wpAny_execs_nil ⟨σ1,H2,I2,q2⟩
end
structure It where
 go:Nat->Hp->Prop
 yld:Nat->Hp->V->Hp->Prop
 stop:Nat->Hp->Prop
def wW (X:Cx) (pz:List (Addr×Obj)) (H:Hp) (b:Addr):Prop:=
 H b=none/\b≠X.env.locals/\b∉X.fs/\(b∈X.ex\/X.s₀.heap.objs.size<=b)/\(∀x c,X.env.cells.lookup x=some c->c≠b)/\∀p∈X.pn++pz,p.1≠b
theorem Inv.fpOk {X:Cx} {pz:List (Addr×Obj)} {σ:St} {H H':Hp} {s:Shared} {b:Addr} (I:Inv X pz σ H s) (hb:s.heap.objs.size<=b) (hn:H' b=none):wW X pz H' b:=by
 refine⟨hn,b6 (bW I.lt hb),I.nofs hb,.inr (bZ I.sz hb),fun x c e z=>?_,fun p hp z=>?_⟩
 ·obtain⟨v,q⟩:=I.cell x c e
  exact absurd (bW q.lt (by rw[z];exact hb)) (bX _)
 ·exact absurd (bW (eI (I.pin p hp).1) (by rw[z];exact hb)) (bX _)
structure Ci (P:Program) (w:World) (K:PySem.W.Frag) (tg:Expr) (J:It) (fp:List Addr) (it:Addr) (tn:Nat->Heap->Prop):Prop where
 mem:it∈fp
 obj:∀i h,tn i h->∀b∈fp,∃o,h.get? b=some o/\∀v,o.data≠ .cell v
 keep:∀i h h',tn i h->(∀b∈fp,∀o,h.get? b=some o->h'.get? b=some o)->tn i h'
 item:∀(X:Cx),X.prog=P->X.w=w->X.K=K->X.calm=true->∀(i:Nat) (pz:List (Addr×Obj)) (s:Shared) (σ:St) (H:Hp) (E:Value->Shared->Prop),Inv X pz σ H s->(∀b∈fp,wW X pz H b)->tn i s.heap->J.go i H->
  wpAny (model P w) X.A (pyNext (.ref it)) (fun r s1=>∃u,r=some u/\
   wpAny (model P w) X.A (letOwnedTupleGo tg (.ref it) u) (fun _ s2=>∃x H',Inv X pz σ H' s2/\gU x u/\J.yld i H x H'/\tn (i+ 1) s2.heap/\∀b∈fp,H' b=none) E s1) E s
 done:∀(X:Cx),X.prog=P->X.w=w->X.K=K->X.calm=true->∀(i:Nat) (pz:List (Addr×Obj)) (s:Shared) (σ:St) (H:Hp) (E:Value->Shared->Prop),Inv X pz σ H s->(∀b∈fp,wW X pz H b)->tn i s.heap->J.stop i H->
  wpAny (model P w) X.A (pyNext (.ref it)) (fun r s1=>r=none/\Inv X pz σ H s1) E s
 self:∀(A:Around) (i:Nat) (s:Shared) (Q:Value->Shared->Prop) (E:Value->Shared->Prop),tn i s.heap->Q (.ref it) s->wpAny (model P w) A (pyIter (.ref it)) Q E s
abbrev TI:=St->Hp->(It->Hp->Prop)->Prop
def PIE (X:Cx) (pz:List (Addr×Obj)) (σ:St) (tg:Expr) (R:It->Hp->Prop) (itv:Value) (s2:Shared):Prop:=
 ∃(it:Addr) (fp:List Addr) (tn:Nat->Heap->Prop) (J:It) (H':Hp),itv= .ref it/\Inv X pz σ H' s2/\Ci X.prog X.w X.K tg J fp it tn/\tn 0 s2.heap/\(∀b∈fp,wW X pz H' b)/\R J H'
def PI (X:Cx) (tg iter:Expr) (wi:TI):Prop:=
 ∀(pz:List (Addr×Obj)) (s:Shared) (σ:St) (H:Hp) (R:It->Hp->Prop),Inv X pz σ H s->wi σ H R->
  wpAny (model X.prog X.w) X.A (eval iter X.env) (fun v s1=>wpAny (model X.prog X.w) X.A (pyIter v) (PIE X pz σ tg R) X.xe s1) X.xe s
theorem Cj {M : Model} {A : Around} {E : Value -> Shared -> Prop} {s : Shared} {tg : Expr} {it : Addr} {u : Value} {o : Obj} {n : String} {vs : Array Value} {Q : Unit -> Shared -> Prop} (ho : s.heap.get? it = some o) (hc : o.cls = .type n) (hd : o.data = .fields vs)
  (hn : ["enumerate", "zip", "dict_itemiterator", "dict_reverseitemiterator", "odict_iterator", "itertools.zip_longest", "itertools.pairwise"].contains n = false) (hQ : Q () s) : wpAny M A (letOwnedTupleGo tg (.ref it) u) Q E s := by
 unfold letOwnedTupleGo
 cases tg <;> first
  | exact wpAny_pure hQ
  | (cases u <;> first
    | exact wpAny_pure hQ
    | (refine wpAny_bind (wpAny_load ho ?_)
       rw [hc, hd]
       show wpAny M A (if (["enumerate", "zip", "dict_itemiterator", "dict_reverseitemiterator", "odict_iterator", "itertools.zip_longest", "itertools.pairwise"].contains n && vs[0]? == some (rawInt _)) = true then _ else _) Q E s
       rw [fO (by intro h; rw [hn, Bool.false_and] at h; cases h)]
       exact wpAny_pure hQ))
def Itl (K:PySem.W.Frag) (a:Addr):It:=
 ⟨fun i H=>∃xs x,SqL K H a xs/\xs[i]?=some x,fun i H x H'=>H'=H/\∀xs,SqL K H a xs->xs[i]?=some x,fun i H=>∃xs,SqL K H a xs/\xs.length<=i⟩
def Itt (K:PySem.W.Frag) (a:Addr):It:=
 ⟨fun i H=>∃xs x,SqT K H a xs/\xs[i]?=some x,fun i H x H'=>H'=H/\∀xs,SqT K H a xs->xs[i]?=some x,fun i H=>∃xs,SqT K H a xs/\xs.length<=i⟩
def Itr (lo:Int) (n:Nat):It:=⟨fun i _=>i<n,fun i H x H'=>H'=H/\x= .int (lo+i),fun i _=>n<=i⟩
theorem yf {P:Program} {w:World} {K:PySem.W.Frag} {tg:Expr} (a it:Addr):Ci P w K tg (Itl K a) [it] it (fun i h=>h.IsListIter it a i) where
 mem:=by simp
 obj:=fun i h st b hb=>by
  have e:b=it:=by simpa using hb
  subst e
  obtain⟨o,e,c,d⟩:=st
  exact⟨o,e,fun v z=>by rw[d]at z;cases z⟩
 keep:=fun i h h' st k=>st.at fun o e=>k it (by simp) o e
 item:=by
  intro X hP hw hK hc i pz s σ H E I hf st hg
  subst hP hw hK
  obtain⟨xs,x,hq,hx⟩:=hg
  obtain⟨its,rv,p,hz⟩:=I.list hq
  obtain⟨u,hu,ru⟩:=rv.get hx
  obtain⟨f0,f1,f2,f3,f4,f5⟩:=hf it (by simp)
  refine wpAny_pyNext_list_item st p.isList (x:=u) (by simpa using hu) fun h' st' sb=>?_
  have I1:Inv X pz σ H {s with heap:=h'}:=I.turned (t':=s.toks) (fun b o hb e=>(sb.2 b hb).trans e) f0 f1 f3 f4 f5
  obtain⟨o,e,c,d⟩:=id st'
  exact⟨u,rfl,Cj (s:={s with heap:=h'}) e c d (by decide) ⟨x,H,I1,ru,⟨rfl,fun ys hy=>by rw[I.list_inj hy hq];exact hx⟩,st',fun b hb=>(hf b hb).1⟩⟩
 done:=by
  intro X hP hw hK hc i pz s σ H E I hf st hg
  subst hP hw hK
  obtain⟨xs,hq,hx⟩:=hg
  obtain⟨its,rv,p,hz⟩:=I.list hq
  obtain⟨f0,f1,f2,f3,f4,f5⟩:=hf it (by simp)
  have hl:=rv.length
  exact wpAny_pyNext_list_end (I.ok.hd hc) st p.isList (by simp;lia) fun h' eb=>⟨rfl,I.turned (t':=s.toks) (fun b o hb e=>eb b o hb e) f0 f1 f3 f4 f5⟩
 self:=fun _ _ _ _ _ st h=>wpAny_pyIter_listiter st h
theorem wX {P:Program} {w:World} {K:PySem.W.Frag} {tg:Expr} (a it:Addr):Ci P w K tg (Itt K a) [it] it (fun i h=>h.IsTupleIter it a i) where
 mem:=by simp
 obj:=fun i h st b hb=>by
  have e:b=it:=by simpa using hb
  subst e
  obtain⟨o,e,c,d⟩:=st
  exact⟨o,e,fun v z=>by rw[d]at z;cases z⟩
 keep:=fun i h h' st k=>st.at fun o e=>k it (by simp) o e
 item:=by
  intro X hP hw hK hc i pz s σ H E I hf st hg
  subst hP hw hK
  obtain⟨xs,x,hq,hx⟩:=hg
  obtain⟨its,rv,p,hz⟩:=I.tuple hq
  obtain⟨u,hu,ru⟩:=rv.get hx
  obtain⟨f0,f1,f2,f3,f4,f5⟩:=hf it (by simp)
  refine wpAny_pyNext_tuple_item st (show s.heap.IsTuple a its.toArray from p) (x:=u) (by simpa using hu) fun h' st' sb=>?_
  have I1:Inv X pz σ H {s with heap:=h'}:=I.turned (t':=s.toks) (fun b o hb e=>(sb.2 b hb).trans e) f0 f1 f3 f4 f5
  obtain⟨o,e,c,d⟩:=id st'
  exact⟨u,rfl,Cj (s:={s with heap:=h'}) e c d (by decide) ⟨x,H,I1,ru,⟨rfl,fun ys hy=>by rw[I.tuple_inj hy hq];exact hx⟩,st',fun b hb=>(hf b hb).1⟩⟩
 done:=by
  intro X hP hw hK hc i pz s σ H E I hf st hg
  subst hP hw hK
  obtain⟨xs,hq,hx⟩:=hg
  obtain⟨its,rv,p,hz⟩:=I.tuple hq
  obtain⟨f0,f1,f2,f3,f4,f5⟩:=hf it (by simp)
  have hl:=rv.length
  exact wpAny_pyNext_tuple_end (I.ok.hd hc) st (show s.heap.IsTuple a its.toArray from p) (by simp;lia) fun h' eb=>⟨rfl,I.turned (t':=s.toks) (fun b o hb e=>eb b o hb e) f0 f1 f3 f4 f5⟩
 self:=fun _ _ _ _ _ st h=>wpAny_pyIter_tupleiter st h
theorem wY {P:Program} {w:World} {K:PySem.W.Frag} {tg:Expr} (it:Addr) (lo:Int) (n:Nat):Ci P w K tg (Itr lo n) [it] it (fun i h=>IsRangeIter h it (lo+(i:Nat)*1) ((n:Int)-(i:Nat)) 1) where
 mem:=by simp
 obj:=fun i h st b hb=>by
  have e:b=it:=by simpa using hb
  subst e
  exact⟨_,st,fun v z=>by
   have z':Data.fields _=Data.cell v:=z
   cases z'⟩
 keep:=fun i h h' st k=>k it (by simp) _ st
 item:=by
  intro X hP hw hK hc i pz s σ H E I hf st hg
  subst hP hw hK
  obtain⟨f0,f1,f2,f3,f4,f5⟩:=hf it (by simp)
  have W:=Walks.range (prog:=X.prog) (w:=X.w) (I.ok.hd hc) it lo 1 n
  refine W.item i s _ _ hg st fun v h' tk hv st' kk=>?_
  obtain⟨t,rfl⟩:=hv
  have I1:Inv X pz σ H {s with heap:=h',toks:=tk}:=I.turned (fun b o hb e=>kk b o (by simpa using hb) e) f0 f1 f3 f4 f5
  refine⟨_,rfl,Cj (s:={s with heap:=h',toks:=tk}) (n:="range_iterator") st' rfl rfl (by decide) ⟨.int (lo+i),H,I1,⟨t,?_⟩,⟨rfl,rfl⟩,st',fun b hb=>(hf b hb).1⟩⟩
  rw[Int.mul_one]
 done:=by
  intro X hP hw hK hc i pz s σ H E I hf st hg
  subst hP hw hK
  obtain⟨f0,f1,f2,f3,f4,f5⟩:=hf it (by simp)
  exact wpAny_pyNext_range_end (I.ok.hd hc) st (by have:n<=i:=hg;lia) fun h' eb=>⟨rfl,I.turned (t':=s.toks) (fun b o hb e=>eb b o hb e) f0 f1 f3 f4 f5⟩
 self:=fun _ _ _ _ _ st h=>wpAny_pyIter_rangeiter st h
section
variable {X:Cx} {tg:Expr}
def Ge (K:PySem.W.Frag) (tl:TE):TI:=fun σ H R=>tl σ H fun x H1=>∃a,x= .ref a/\(∃xs,SqL K H1 a xs)/\R (Itl K a) H1
def iTup (K:PySem.W.Frag) (tl:TE):TI:=fun σ H R=>tl σ H fun x H1=>∃a,x= .ref a/\(∃xs,SqT K H1 a xs)/\R (Itt K a) H1
theorem gX {l:Expr} {tl:TE} (hl:PE X l tl):PI X tg l (Ge X.K tl):=by
 intro pz s σ H R I h
 refine thn (hl pz s σ H _ I h) fun v s1 ⟨x,H1,I1,r1,q1⟩=>?_
 obtain⟨a,e,⟨xs,hq⟩,q⟩:=q1
 subst e
 cases r1
 obtain⟨its,rv,p,hz⟩:=I1.list hq
 refine wpAny_pyIter_list p.isList ?_
 refine⟨s1.heap.objs.size,[s1.heap.objs.size],_,_,H1,rfl,I1.kept (t':=s1.toks) fun b o e=>eK _ e,yf a _,⟨_,eJ _ rfl,rfl,rfl⟩,fun b hb=>?_,q⟩
 have e:b=s1.heap.objs.size:=by simpa using hb
 subst e
 exact I1.fpOk (b9 _) (I1.hok.fresh (b9 _))
theorem vS {l:Expr} {tl:TE} (hl:PE X l tl):PI X tg l (iTup X.K tl):=by
 intro pz s σ H R I h
 refine thn (hl pz s σ H _ I h) fun v s1 ⟨x,H1,I1,r1,q1⟩=>?_
 obtain⟨a,e,⟨xs,hq⟩,q⟩:=q1
 subst e
 cases r1
 obtain⟨its,rv,p,hz⟩:=I1.tuple hq
 refine wpAny_pyIter_tuple (show s1.heap.IsTuple a its.toArray from p) ?_
 refine⟨s1.heap.objs.size,[s1.heap.objs.size],_,_,H1,rfl,I1.kept (t':=s1.toks) fun b o e=>eK _ e,wX a _,⟨_,eJ _ rfl,rfl,rfl⟩,fun b hb=>?_,q⟩
 have e:b=s1.heap.objs.size:=by simpa using hb
 subst e
 exact I1.fpOk (b9 _) (I1.hok.fresh (b9 _))
theorem Ap {pz:List (Addr×Obj)} {σ:St} {H:Hp} {s:Shared} {R:It->Hp->Prop} {E:Value->Shared->Prop} {lo hi:Int} {t u v:Tok} {tk:Nat} (I:Inv X pz σ H s) (h1: -(2^62)<=lo) (h2:lo<2^62) (h3: -(2^62)<=hi) (h4:hi<2^62)
  (q:R (Itr lo (hi-lo).toNat) H):wpAny (model X.prog X.w) X.A (pyIter (.ref s.heap.objs.size)) (PIE X pz σ tg R) E {s with heap:=s.heap.push {cls:= .type "range",data:= .fields #[.int lo t,.int hi u,.int 1 v]},toks:=tk}:=by
 refine wpAny_pyIter_range (IsRange.new ..) (small_one h1 h2 h3 h4) ?_
 have I1:Inv X pz σ H {s with heap:=s.heap.push {cls:= .type "range",data:= .fields #[.int lo t,.int hi u,.int 1 v]},toks:=tk}:=I.kept fun b o e=>eK _ e
 refine⟨(s.heap.push {cls:= .type "range",data:= .fields #[.int lo t,.int hi u,.int 1 v]}).objs.size,[(s.heap.push {cls:= .type "range",data:= .fields #[.int lo t,.int hi u,.int 1 v]}).objs.size],_,_,H,rfl,
  I1.kept (t':=tk) fun b o e=>eK _ e,wY _ lo (hi-lo).toNat,?_,fun b hb=>?_,q⟩
 ·have e1:lo+((0:Nat):Int)*1=lo:=by simp
  have e2:(((hi-lo).toNat:Nat):Int)-((0:Nat):Int)=Builtin.Range.rangeSize lo hi 1:=by rw[rangeSize_one];split<;>lia
  show IsRangeIter _ _ (lo+((0:Nat):Int)*1) ((((hi-lo).toNat:Nat):Int)-((0:Nat):Int)) 1
  rw[e1,e2]
  exact eJ _ rfl
 ·have e:b=(s.heap.push {cls:= .type "range",data:= .fields #[.int lo t,.int hi u,.int 1 v]}).objs.size:=by simpa using hb
  subst e
  exact I1.fpOk (b9 _) (I1.hok.fresh (b9 _))
def Gf (ta:TA):TI:=fun σ H R=>ta σ H fun vs H1=>∃j:Int,vs=[.int j]/\-(2^62)<=j/\j<2^62/\R (Itr 0 j.toNat) H1
theorem gY {a:Expr} {ta:TA} {p pos:Pos} (hg:Gl X "range") (hm:X.mg "range"=none) (ha:PA X [a] ta) (hs:autoParam (starEach [a] X.env=[(false,eval a X.env)]) L2.Internal.auR._auto_1):PI X tg (.Call (.Name "range" p) [a] [] pos) (Gf ta):=by
 intro pz s σ H R I h
 refine Call_ (p8 I hg hm boot_range (eP (thn (ha pos pz s σ H _ I h) fun us s1 ⟨vs,H1,I1,r1,q1⟩=>?_) hs rfl))
 obtain⟨j,e,q1,q2,q⟩:=q1
 subst e
 cases r1 with
 |cons r rr=>
  cases rr
  obtain⟨t,rfl⟩:=r
  exact call_range_1 (Ap I1 (by lia) (by lia) q1 q2 (by simpa using q))
def tFor (wi:TI) (g:TG) (tb:TS):TS:=fun D σ H=>wi σ H fun J H1=>∃W:Nat->Nat->St->Hp->Prop,(∃m,W 0 m σ H1)/\∀i m σ H,W i m σ H->
 (J.stop i H/\D.nx σ H)\/(J.go i H/\∃N:St->Hp->Prop,(∀σ' H',N σ' H'->∃m',m'<m/\W (i+ 1) m' σ' H')/\∀x H',J.yld i H x H'->g x σ H' fun σ2 H2=>tb {D with nx:=N,ct:=N,bk:=D.nx} σ2 H2)
def rP (fp:List Addr) (h:Heap):List (Addr×Obj):=fp.filterMap fun b=>(h.get? b).map fun o=>(b,o)
theorem jH {fp:List Addr} {h:Heap} {b:Addr} {o:Obj} (hb:b∈fp) (e:h.get? b=some o):(b,o)∈rP fp h:=List.mem_filterMap.mpr ⟨b,hb,by rw[e];rfl⟩
theorem yg {fp:List Addr} {h:Heap} {p:Addr×Obj} (hp:p∈rP fp h):p.1∈fp/\h.get? p.1=some p.2:=by
 obtain⟨b,hb,e⟩:=List.mem_filterMap.mp hp
 cases q:h.get? b with
 |none=>rw[q]at e;cases e
 |some o=>
  rw[q]at e
  have e':(b,o)=p:=cC.inj e
  subst e'
  exact⟨hb,q⟩
theorem Inv.pinned {pz:List (Addr×Obj)} {σ:St} {H:Hp} {s:Shared} {fp:List Addr} (I:Inv X pz σ H s) (hf:∀b∈fp,wW X pz H b) (ho:∀b∈fp,∃o,s.heap.get? b=some o/\∀v,o.data≠ .cell v):Inv X (pz++rP fp s.heap) σ H s:=
 I.pins_of fun p hp=>(ao.mp hp).elim (fun z=>I.pin p (ax _ z)) fun z=>by
  obtain⟨hb,e⟩:=yg z
  obtain⟨f0,f1,f2,_⟩:=hf p.1 hb
  obtain⟨o,e',d⟩:=ho p.1 hb
  rw[e]at e';cases e'
  exact⟨e,f0,f1,f2,d⟩
theorem Inv.unpinned {pz pl:List (Addr×Obj)} {σ:St} {H:Hp} {s:Shared} (I:Inv X (pz++pl) σ H s):Inv X pz σ H s:=I.pins_of fun p hp=>I.pin p (ax _ (aq _ hp))
theorem jK {iter:Expr} {body:List Stmt} {wi:TI} {g:TG} {tb:TS} {pos:Pos} (hp:PassesOwn (model X.prog X.w) X.A X.env X.xe) (hc:X.calm=true) (hi:PI X tg iter wi) (hg:PG X tg g) (hb:PSs X body tb)
  (hs:autoParam (∀x,foldedSetIterable iter X.env x=pure x) L2.Internal.auI._auto_1):PS X (.For tg iter body [] pos) (tFor wi g tb):=by
 intro pz s σ H D I h
 refine wpAny_For (thn (hi pz s σ H _ I h) fun v s1 h1=>thn h1 fun itv s2 h2=>?_) hs
 obtain⟨it,fp,tn,J,H2,e,I2,T,st2,f2,W,⟨m0,w0⟩,turn⟩:=h2
 subst e
 have stat:∀{H':Hp},(∀b∈fp,H' b=none)->∀b∈fp,wW X pz H' b:=fun hn b hb=>⟨hn b hb,(f2 b hb).2⟩
 refine codeAny_forLoop_any (fun n s'=>∃i σ' H',Inv X pz σ' H' s'/\tn i s'.heap/\(∀b∈fp,H' b=none)/\W i n σ' H') ?_ m0 ⟨0,σ,H2,I2,st2,fun b hb=>(f2 b hb).1,w0⟩
 rintro n s3 ⟨i,σ3,H3,I3,st3,fr3,w3⟩
 rcases turn i n σ3 H3 w3 with⟨stop,qn⟩|⟨go,N,hN,step⟩
 ·refine wpAny_passesOwn hp (thn (T.done X rfl rfl rfl hc i pz s3 σ3 H3 X.xe I3 (stat fr3) st3 stop) fun r s4 ⟨hr,I4⟩=>?_)
  subst hr
  exact wpAny_execs_nil ⟨σ3,H3,I4,qn⟩
 ·refine wpAny_passesOwn hp (thn (T.item X rfl rfl rfl hc i pz s3 σ3 H3 X.xe I3 (stat fr3) st3 go) fun r s4 ⟨u,hr,h4⟩=>?_)
  subst hr
  refine wpAny_passesOwn hp (thn h4 fun _ s5 ⟨x,H5,I5,r5,y5,st5,fr5⟩=>?_)
  have I5':=I5.pinned (stat fr5) (T.obj _ _ st5)
  refine wpAny_passesOwn hp (thn (hg _ s5 σ3 H5 x u _ I5' r5 (step x H5 y5)) fun _ s6 ⟨σ6,H6,I6,q6⟩=>?_)
  refine wpAny_passesOwn hp (thn (hb _ s6 σ6 H6 _ I6 q6) fun f s7 q7=>?_)
  have again:∀{σ7:St} {H7:Hp},Inv X (pz++rP fp s5.heap) σ7 H7 s7->N σ7 H7->∃m,m<n/\∃i σ' H',Inv X pz σ' H' s7/\tn i s7.heap/\(∀b∈fp,H' b=none)/\W i m σ' H':=fun{σ7 H7} I7 n7=>by
   obtain⟨m',hm,w7⟩:=hN σ7 H7 n7
   refine⟨m',hm,i+ 1,σ7,H7,I7.unpinned,T.keep _ _ _ st5 fun b hb o e=>(I7.pin (b,o) (ax _ (ax _ (jH hb e)))).1,fun b hb=>?_,w7⟩
   obtain⟨o,e,d⟩:=T.obj _ _ st5 b hb
   exact(I7.pin (b,o) (ax _ (ax _ (jH hb e)))).2.1
  cases f with
  |next=>obtain⟨σ7,H7,I7,n7⟩:=q7;exact again I7 n7
  |cont=>obtain⟨σ7,H7,I7,n7⟩:=q7;exact again I7 n7
  |brk=>obtain⟨σ7,H7,I7,q7⟩:=q7;exact⟨σ7,H7,I7.unpinned,q7⟩
  |ret v=>obtain⟨x7,σ7,H7,I7,r7,q7⟩:=q7;exact⟨x7,σ7,H7,I7.unpinned,r7,q7⟩
end
theorem sx {K:PySem.W.Frag} {a:Addr} {xs:List V} {g:TG} {tb:TS} {D:pj} {σ:St} {H:Hp} (Pv:Nat->St->Hp->Prop) (h0:Pv 0 σ H) (hl:∀i σ H,i<=xs.length->Pv i σ H->SqL K H a xs)
  (hs:∀i x σ H,xs[i]?=some x->Pv i σ H->g x σ H fun σ2 H2=>tb {D with nx:=Pv (i+ 1),ct:=Pv (i+ 1),bk:=D.nx} σ2 H2) (hd:∀σ H,Pv xs.length σ H->D.nx σ H):
  ∃W:Nat->Nat->St->Hp->Prop,(∃m,W 0 m σ H)/\∀i m σ H,W i m σ H->
   ((Itl K a).stop i H/\D.nx σ H)\/((Itl K a).go i H/\∃N:St->Hp->Prop,(∀σ' H',N σ' H'->∃m',m'<m/\W (i+ 1) m' σ' H')/\∀x H',(Itl K a).yld i H x H'->g x σ H' fun σ2 H2=>tb {D with nx:=N,ct:=N,bk:=D.nx} σ2 H2):=by
 refine⟨fun i m σ H=>m=xs.length-i/\i<=xs.length/\Pv i σ H,⟨xs.length,by simp,cb _,h0⟩,?_⟩
 rintro i m σ H ⟨rfl,hi,p⟩
 have q:=hl i σ H hi p
 by_cases hlt:i<xs.length
 ·refine .inr ⟨⟨xs,xs[i],q,by simp[hlt]⟩,Pv (i+ 1),fun σ' H' p'=>⟨xs.length-(i+ 1),by lia,rfl,hlt,p'⟩,fun x H' y=>?_⟩
  obtain⟨e,y⟩:=y
  subst e
  exact hs i x σ _ (y xs q) p
 ·have e:i=xs.length:=by lia
  subst e
  exact .inl ⟨⟨xs,q,b9 _⟩,hd σ H p⟩
theorem u9 {K:PySem.W.Frag} {a:Addr} {xs:List V} {g:TG} {tb:TS} {D:pj} {σ:St} {H:Hp} (Pv:Nat->St->Hp->Prop) (h0:Pv 0 σ H) (hl:∀i σ H,i<=xs.length->Pv i σ H->SqT K H a xs)
  (hs:∀i x σ H,xs[i]?=some x->Pv i σ H->g x σ H fun σ2 H2=>tb {D with nx:=Pv (i+ 1),ct:=Pv (i+ 1),bk:=D.nx} σ2 H2) (hd:∀σ H,Pv xs.length σ H->D.nx σ H):
  ∃W:Nat->Nat->St->Hp->Prop,(∃m,W 0 m σ H)/\∀i m σ H,W i m σ H->
   ((Itt K a).stop i H/\D.nx σ H)\/((Itt K a).go i H/\∃N:St->Hp->Prop,(∀σ' H',N σ' H'->∃m',m'<m/\W (i+ 1) m' σ' H')/\∀x H',(Itt K a).yld i H x H'->g x σ H' fun σ2 H2=>tb {D with nx:=N,ct:=N,bk:=D.nx} σ2 H2):=by
 refine⟨fun i m σ H=>m=xs.length-i/\i<=xs.length/\Pv i σ H,⟨xs.length,by simp,cb _,h0⟩,?_⟩
 rintro i m σ H ⟨rfl,hi,p⟩
 have q:=hl i σ H hi p
 by_cases hlt:i<xs.length
 ·refine .inr ⟨⟨xs,xs[i],q,by simp[hlt]⟩,Pv (i+ 1),fun σ' H' p'=>⟨xs.length-(i+ 1),by lia,rfl,hlt,p'⟩,fun x H' y=>?_⟩
  obtain⟨e,y⟩:=y
  subst e
  exact hs i x σ _ (y xs q) p
 ·have e:i=xs.length:=by lia
  subst e
  exact .inl ⟨⟨xs,q,b9 _⟩,hd σ H p⟩
theorem lM {lo:Int} {n:Nat} {g:TG} {tb:TS} {D:pj} {σ:St} {H:Hp} (Pv:Nat->St->Hp->Prop) (h0:Pv 0 σ H)
  (hs:∀i σ H,i<n->Pv i σ H->g (.int (lo+i)) σ H fun σ2 H2=>tb {D with nx:=Pv (i+ 1),ct:=Pv (i+ 1),bk:=D.nx} σ2 H2) (hd:∀σ H,Pv n σ H->D.nx σ H):
  ∃W:Nat->Nat->St->Hp->Prop,(∃m,W 0 m σ H)/\∀i m σ H,W i m σ H->
   ((Itr lo n).stop i H/\D.nx σ H)\/((Itr lo n).go i H/\∃N:St->Hp->Prop,(∀σ' H',N σ' H'->∃m',m'<m/\W (i+ 1) m' σ' H')/\∀x H',(Itr lo n).yld i H x H'->g x σ H' fun σ2 H2=>tb {D with nx:=N,ct:=N,bk:=D.nx} σ2 H2):=by
 refine⟨fun i m σ H=>m=n-i/\i<=n/\Pv i σ H,⟨n,by simp,cb _,h0⟩,?_⟩
 rintro i m σ H ⟨rfl,hi,p⟩
 by_cases hlt:i<n
 ·refine .inr ⟨hlt,Pv (i+ 1),fun σ' H' p'=>⟨n-(i+ 1),by lia,rfl,hlt,p'⟩,fun x H' y=>?_⟩
  obtain⟨e,y⟩:=y
  subst e y
  exact hs i σ _ hlt p
 ·have e:i=n:=by lia
  subst e
  exact .inl ⟨b9 _,hd σ H p⟩
abbrev R2:=V->V->Hp->VK->Prop
def OpR (X:Cx) (f:Value->Value->Sem Value) (r:R2):Prop:=
 ∀(pz:List (Addr×Obj)) (s:Shared) (σ:St) (H:Hp) (x y:V) (v u:Value) (Q:VK),Inv X pz σ H s->gU x v->gU y u->r x y H Q->
  wpAny (model X.prog X.w) X.A (f v u) (EP X pz σ Q) X.xe s
def UnR (X:Cx) (f:Value->Sem Value) (r:V->Hp->VK->Prop):Prop:=
 ∀(pz:List (Addr×Obj)) (s:Shared) (σ:St) (H:Hp) (x:V) (v:Value) (Q:VK),Inv X pz σ H s->gU x v->r x H Q->
  wpAny (model X.prog X.w) X.A (f v) (EP X pz σ Q) X.xe s
def ox (X:Cx) (f:Value) (r:List V->Hp->VK->Prop):Prop:=
 ∀(pz:List (Addr×Obj)) (s:Shared) (σ:St) (H:Hp) (xs:List V) (us:List Value) (Q:VK),Inv X pz σ H s->gP xs us->r xs H Q->
  wpAny (model X.prog X.w) X.A (call f us) (EP X pz σ Q) X.xe s
def tOp (r:R2) (ta tb:TE):TE:=fun σ H Q=>ta σ H fun x H1=>tb σ H1 fun y H2=>r x y H2 Q
def tUn (r:V->Hp->VK->Prop) (ta:TE):TE:=fun σ H Q=>ta σ H fun x H1=>r x H1 Q
def rI (C:Int->Int->Prop) (g:Int->Int->V):R2:=fun x y H Q=>∃i j,x= .int i/\y= .int j/\C i j/\Q (g i j) H
def rI0 (g:Int->Int->V):R2:=fun x y H Q=>∃i j,x= .int i/\y= .int j/\Q (g i j) H
def rU (g:Int->V):V->Hp->VK->Prop:=fun x H Q=>∃i,x= .int i/\Q (g i) H
section
variable {X:Cx} {a b c:Expr} {ta tb tc:TE} {pos:Pos}
theorem Gg (ha:PE X a ta) (hb:PE X b tb) {pz:List (Addr×Obj)} {s:Shared} {σ:St} {H:Hp} {R:V->V->Hp->Prop} (I:Inv X pz σ H s)
  (h:ta σ H fun x H1=>tb σ H1 fun y H2=>R x y H2) {Q:Value->Shared->Prop} {f:Value->Value->Sem Value}
  (hf:∀v u s2 x y H2,Inv X pz σ H2 s2->gU x v->gU y u->R x y H2->wpAny (model X.prog X.w) X.A (f v u) Q X.xe s2):
  wpAny (model X.prog X.w) X.A (eval a X.env) (fun v s₁=>wpAny (model X.prog X.w) X.A (eval b X.env) (fun u s₂=>wpAny (model X.prog X.w) X.A (f v u) Q X.xe s₂) X.xe s₁) X.xe s:=by
 refine thn (ha pz s σ H _ I h) fun v s1 ⟨x,H1,I1,r1,q1⟩=>?_
 refine thn (hb pz s1 σ H1 _ I1 q1) fun u s2 ⟨y,H2,I2,r2,q2⟩=>?_
 exact hf v u s2 x y H2 I2 r1 r2 q2
theorem fq {op:Operator} {r:R2} (ho:OpR X (binaryOp op) r) (ha:PE X a ta) (hb:PE X b tb):PE X (.BinOp a op b pos) (tOp r ta tb):=by
 intro pz s σ H Q I h
 exact wpAny_BinOp (Gg ha hb I h fun v u s2 x y H2 I2 rx ry q=>ho pz s2 σ H2 x y v u Q I2 rx ry q)
theorem pM {op:UnaryOp} {r:V->Hp->VK->Prop} (ho:UnR X (unaryOp op) r) (ha:PE X a ta):PE X (.UnaryOp op a pos) (tUn r ta):=by
 intro pz s σ H Q I h
 exact UnaryOp_ (thn (ha pz s σ H _ I h) fun v s1 ⟨x,H1,I1,r1,q1⟩=>ho pz s1 σ H1 x v Q I1 r1 q1)
theorem opI {f:Value->Value->Sem Value} {C:Int->Int->Prop} {g:Int->Int->Int}
  (rule:∀(i j:Int) (t u:Tok) (s:Shared) (Q:Value->Shared->Prop) (E:Value->Shared->Prop),C i j->Q (.int (g i j) s.toks) {s with toks:=s.toks+ 1}->wpAny (model X.prog X.w) X.A (f (.int i t) (.int j u)) Q E s):
  OpR X f (rI C fun i j=> .int (g i j)):=by
 intro pz s σ H x y v u Q I rx ry h
 obtain⟨i,j,rfl,rfl,hc,q⟩:=h
 obtain⟨t,rfl⟩:=rx
 obtain⟨t',rfl⟩:=ry
 exact rule i j t t' s _ _ hc ⟨.int (g i j),H,I.tok _,⟨_,rfl⟩,q⟩
theorem Hv {f:Value->Value->Sem Value} {g:Int->Int->Int}
  (rule:∀(i j:Int) (t u:Tok) (s:Shared) (Q:Value->Shared->Prop) (E:Value->Shared->Prop),Q (.int (g i j) s.toks) {s with toks:=s.toks+ 1}->wpAny (model X.prog X.w) X.A (f (.int i t) (.int j u)) Q E s):
  OpR X f (rI0 fun i j=> .int (g i j)):=by
 intro pz s σ H x y v u Q I rx ry h
 obtain⟨i,j,rfl,rfl,q⟩:=h
 obtain⟨t,rfl⟩:=rx
 obtain⟨t',rfl⟩:=ry
 exact rule i j t t' s _ _ ⟨.int (g i j),H,I.tok _,⟨_,rfl⟩,q⟩
theorem Gi {f:Value->Value->Sem Value} {g:Int->Int->Bool}
  (rule:∀(i j:Int) (t u:Tok) (s:Shared) (Q:Value->Shared->Prop) (E:Value->Shared->Prop),Q (.bool (g i j)) s->wpAny (model X.prog X.w) X.A (f (.int i t) (.int j u)) Q E s):
  OpR X f (rI0 fun i j=> .bl (g i j)):=by
 intro pz s σ H x y v u Q I rx ry h
 obtain⟨i,j,rfl,rfl,q⟩:=h
 obtain⟨t,rfl⟩:=rx
 obtain⟨t',rfl⟩:=ry
 exact rule i j t t' s _ _ ⟨.bl (g i j),H,I,rfl,q⟩
def Gj (i j:Int):Prop:=0<j/\j<1073741824
def Hw (i j:Int):Prop:=0<=j/\j<=1000000/\i.natAbs<2^64
def Eg (i j:Int):Prop:=(-(2^64)<i/\i<2^64)\/(-(2^64)<j/\j<2^64)
theorem Eg.ok {i j:Int} (h:Eg i j):IntMulOk i j:=by
 rcases h with⟨h1,h2⟩|⟨h1,h2⟩
 ·exact .of_left (intBits_le_64 h1 h2)
 ·exact .of_right (intBits_le_64 h1 h2)
theorem vT:OpR X (binaryOp .Add) (rI0 fun i j=> .int (i+j)):=Hv fun _ _ _ _ _ _ _ q=>add_int q
theorem Bl:OpR X (binaryOp .Sub) (rI0 fun i j=> .int (i-j)):=Hv fun _ _ _ _ _ _ _ q=>sub_int q
theorem Eh:OpR X (binaryOp .Mult) (rI Eg fun i j=> .int (i*j)):=opI fun _ _ _ _ _ _ _ hc q=>mul_int q hc.ok
theorem mL:OpR X (binaryOp .FloorDiv) (rI Gj fun i j=> .int (i/j)):=opI fun i j _ _ _ _ _ hc q=>by
 have h1:(0:Int)<j:=hc.1
 have h2:j<1073741824:=hc.2
 exact floordiv_int (by lia) (by rw[Int.fdiv_eq_ediv_of_nonneg i (by lia)];exact q) (.inl (PyProof.noPylong_small (by lia)))
theorem qb:OpR X (binaryOp .Mod) (rI (fun _ j=>0<j) fun i j=> .int (i%j)):=opI fun i j _ _ _ _ _ hc q=>by
 have h1:(0:Int)<j:=hc
 exact mod_int' (by lia) (by rw[Int.fmod_eq_emod_of_nonneg i (by lia)];exact q)
theorem Bm:OpR X (binaryOp .Pow) (rI Hw fun i j=> .int (i^j.toNat)):=opI fun _ _ _ _ _ _ _ hc q=>pow_int_small hc.1 hc.2.1 hc.2.2 q
theorem unI {f:Value->Sem Value} {g:Int->Int}
  (rule:∀(i:Int) (t:Tok) (s:Shared) (Q:Value->Shared->Prop) (E:Value->Shared->Prop),Q (.int (g i) s.toks) {s with toks:=s.toks+ 1}->wpAny (model X.prog X.w) X.A (f (.int i t)) Q E s):
  UnR X f (rU fun i=> .int (g i)):=by
 intro pz s σ H x v Q I rx h
 obtain⟨i,rfl,q⟩:=h
 obtain⟨t,rfl⟩:=rx
 exact rule i t s _ _ ⟨.int (g i),H,I.tok _,⟨_,rfl⟩,q⟩
theorem lA:UnR X (unaryOp .USub) (rU fun i=> .int (-i)):=unI fun _ _ _ _ _ q=>neg_int q
end
def Hx:V->V->Bool
 | .non,.non=>true| .non,.int _=>true| .int _,.non=>true| .non,.bl _=>true| .bl _,.non=>true| .non,.str _=>true| .str _,.non=>true
 | .int _,.int _=>true| .bl _,.bl _=>true| .str _,.str _=>true| .byt _,.byt _=>true
 | .int _,.str _=>true| .str _,.int _=>true| .bl _,.str _=>true| .str _,.bl _=>true
 |_,_=>false
def rEq:R2:=fun x y H Q=>Hx x y=true/\Q (.bl (decide (x=y))) H
def rNe:R2:=fun x y H Q=>Hx x y=true/\Q (.bl (!decide (x=y))) H
theorem yh {i j:Int}:decide (V.int i=V.int j)=(i==j):=by
 rw[dW]
 simp
theorem Bn {i j:Bool}:decide (V.bl i=V.bl j)=(i==j):=by
 rw[dW]
 simp
theorem yi {i j:Str}:decide (V.str i=V.str j)=(i==j):=by
 rw[dW]
 simp
theorem yj {i j:Array UInt8}:decide (V.byt i=V.byt j)=(i.toList==j.toList):=by
 rw[dW]
 cases i
 cases j
 simp
section
variable {X:Cx} {a b c:Expr} {ta tb tc:TE} {pos:Pos}
theorem gD {pz:List (Addr×Obj)} {σ:St} {H:Hp} {s:Shared} {Q:VK} {k k':Bool} (I:Inv X pz σ H s) (q:Q (.bl k) H) (e:k=k'):EP X pz σ Q (.bool k') s:=by
 subst e
 exact⟨.bl k,H,I,rfl,q⟩
theorem wZ:OpR X (compareOp .Eq) rEq:=by
 intro pz s σ H x y v u Q I rx ry h
 obtain⟨hs,q⟩:=h
 cases x with
 |non=>
  cases rx
  cases y with
  |non=>cases ry;exact PySem.EqNone.eq_none_none (gD I q (by simp))
  |bl j=>cases ry;exact PySem.EqNone.eq_none_bool (gD I q (by simp))
  |int j=>obtain⟨t',rfl⟩:=ry;exact PySem.EqNone.eq_none_int (gD I q (by simp))
  |str j=>obtain⟨t',rfl⟩:=ry;exact PySem.EqNone.eq_none_str (gD I q (by simp))
  |_=>exact absurd (show false=true from hs) dU
 |bl i=>
  cases rx
  cases y with
  |non=>cases ry;exact PySem.EqNone.eq_bool_none (gD I q (by simp))
  |bl j=>cases ry;exact eq_bool (gD I q Bn)
  |str j=>obtain⟨t',rfl⟩:=ry;exact PySem.EqMixed.eq_bool_str (gD I q (by simp))
  |_=>exact absurd (show false=true from hs) dU
 |int i=>
  obtain⟨t,rfl⟩:=rx
  cases y with
  |non=>cases ry;exact PySem.EqNone.eq_int_none (gD I q (by simp))
  |int j=>obtain⟨t',rfl⟩:=ry;exact eq_int (gD I q yh)
  |str j=>obtain⟨t',rfl⟩:=ry;exact PySem.EqMixed.eq_int_str (gD I q (by simp))
  |_=>exact absurd (show false=true from hs) dU
 |str i=>
  obtain⟨t,rfl⟩:=rx
  cases y with
  |non=>cases ry;exact PySem.EqNone.eq_str_none (gD I q (by simp))
  |bl j=>cases ry;exact PySem.EqMixed.eq_str_bool (gD I q (by simp))
  |int j=>obtain⟨t',rfl⟩:=ry;exact PySem.EqMixed.eq_str_int (gD I q (by simp))
  |str j=>obtain⟨t',rfl⟩:=ry;exact eq_str (gD I q yi)
  |_=>exact absurd (show false=true from hs) dU
 |byt i=>
  obtain⟨t,rfl⟩:=rx
  cases y with
  |byt j=>obtain⟨t',rfl⟩:=ry;exact PySem.W.eq_bytes (gD I q yj)
  |_=>exact absurd (show false=true from hs) dU
 |_=>cases y<;>exact absurd (show false=true from hs) dU
theorem Cn:OpR X (compareOp .NotEq) rNe:=by
 intro pz s σ H x y v u Q I rx ry h
 obtain⟨hs,q⟩:=h
 cases x with
 |non=>
  cases rx
  cases y with
  |non=>cases ry;exact PySem.EqNone.ne_none_none (gD I q (by simp))
  |bl j=>cases ry;exact PySem.EqNone.ne_none_bool (gD I q (by simp))
  |int j=>obtain⟨t',rfl⟩:=ry;exact PySem.EqNone.ne_none_int (gD I q (by simp))
  |str j=>obtain⟨t',rfl⟩:=ry;exact PySem.EqNone.ne_none_str (gD I q (by simp))
  |_=>exact absurd (show false=true from hs) dU
 |bl i=>
  cases rx
  cases y with
  |non=>cases ry;exact PySem.EqNone.ne_bool_none (gD I q (by simp))
  |bl j=>cases ry;exact ne_bool (gD I q (congrArg not Bn))
  |str j=>obtain⟨t',rfl⟩:=ry;exact PySem.EqMixed.ne_bool_str (gD I q (by simp))
  |_=>exact absurd (show false=true from hs) dU
 |int i=>
  obtain⟨t,rfl⟩:=rx
  cases y with
  |non=>cases ry;exact PySem.EqNone.ne_int_none (gD I q (by simp))
  |int j=>obtain⟨t',rfl⟩:=ry;exact ne_int (gD I q (congrArg not yh))
  |str j=>obtain⟨t',rfl⟩:=ry;exact PySem.EqMixed.ne_int_str (gD I q (by simp))
  |_=>exact absurd (show false=true from hs) dU
 |str i=>
  obtain⟨t,rfl⟩:=rx
  cases y with
  |non=>cases ry;exact PySem.EqNone.ne_str_none (gD I q (by simp))
  |bl j=>cases ry;exact PySem.EqMixed.ne_str_bool (gD I q (by simp))
  |int j=>obtain⟨t',rfl⟩:=ry;exact PySem.EqMixed.ne_str_int (gD I q (by simp))
  |str j=>obtain⟨t',rfl⟩:=ry;exact ne_str (gD I q (congrArg not yi))
  |_=>exact absurd (show false=true from hs) dU
 |byt i=>
  obtain⟨t,rfl⟩:=rx
  cases y with
  |byt j=>obtain⟨t',rfl⟩:=ry;exact PySem.W.ne_bytes (gD I q (congrArg not yj))
  |_=>exact absurd (show false=true from hs) dU
 |_=>cases y<;>exact absurd (show false=true from hs) dU
theorem Gk:OpR X (compareOp .Lt) (rI0 fun i j=> .bl (decide (i<j))):=Gi fun _ _ _ _ _ _ _ q=>lt_int q
theorem Gm:OpR X (compareOp .LtE) (rI0 fun i j=> .bl (decide (i<=j))):=Gi fun _ _ _ _ _ _ _ q=>le_int q
theorem Gp:OpR X (compareOp .Gt) (rI0 fun i j=> .bl (decide (j<i))):=Gi fun _ _ _ _ _ _ _ q=>gt_int q
theorem yk (b:Expr) {op:CmpOp} (h:autoParam (op≠ .In) L2.Internal.auD._auto_1) (h2:autoParam (op≠ .NotIn) L2.Internal.auD._auto_1):behindInMarks op b=false:=by
 have e1:(op==CmpOp.In)=false:=by cases op<;>first|rfl|exact absurd rfl h
 have e2:(op==CmpOp.NotIn)=false:=by cases op<;>first|rfl|exact absurd rfl h2
 cases b<;>simp[behindInMarks,e1,e2]
theorem oy {op:CmpOp} {r:R2} (ho:OpR X (compareOp op) r) (ha:PE X a ta) (hb:PE X b tb) (hm:behindInMarks op b=false:=by exact yk _):PE X (.Compare a [op] [b] pos) (tOp r ta tb):=by
 intro pz s σ H Q I h
 exact wpAny_Compare1 (Gg ha hb I h fun v u s2 x y H2 I2 rx ry q=>ho pz s2 σ H2 x y v u Q I2 rx ry q) hm
def Ei (t:TE):TT:=fun σ H Q=>t σ H fun x H'=>∃k,x= .bl k/\Q k H'
theorem oz {op:CmpOp} {r:R2} (ho:OpR X (compareOp op) r) (ha:PE X a ta) (hb:PE X b tb) (hm:behindInMarks op b=false:=by exact yk _):PT X (.Compare a [op] [b] pos) (Ei (tOp r ta tb)):=by
 intro pz s σ H Q I h
 refine wpAny_isTrue_Compare1 (thn (ha pz s σ H _ I h) fun v s1 ⟨x,H1,I1,r1,q1⟩=>thn (hb pz s1 σ H1 _ I1 q1) fun u s2 ⟨y,H2,I2,r2,q2⟩=>
  thn (ho pz s2 σ H2 x y v u _ I2 r1 r2 q2) fun c s3 ⟨z,H3,I3,r3,k,e,q3⟩=>?_) hm
 subst e
 cases r3
 exact wpAny_truthy_bool ⟨H3,I3,q3⟩
def yl (r r':R2) (ta tb tc:TE):TE:=fun σ H Q=>ta σ H fun x H1=>tb σ H1 fun y H2=>r x y H2 fun z H3=>∃k,z= .bl k/\
 (if k=true then tc σ H3 fun w' H4=>r' y w' H4 Q else Q (.bl false) H3)
theorem vU {op op':CmpOp} {r r':R2} (ho:OpR X (compareOp op) r) (ho':OpR X (compareOp op') r') (ha:PE X a ta) (hb:PE X b tb) (hc:PE X c tc)
  (hm:lastMarks [op,op'] [b,c]=false:=by with_unfolding_all rfl):PE X (.Compare a [op,op'] [b,c] pos) (yl r r' ta tb tc):=by
 intro pz s σ H Q I h
 refine Compare_chain (thn (ha pz s σ H _ I h) fun v s1 ⟨x,H1,I1,r1,q1⟩=>chain_link (thn (hb pz s1 σ H1 _ I1 q1) fun u s2 ⟨y,H2,I2,r2,q2⟩=>
  thn (ho pz s2 σ H2 x y v u _ I2 r1 r2 q2) fun d s3 ⟨z,H3,I3,r3,k,e,q3⟩=>?_)) hm
 subst e
 cases r3
 refine wpAny_truthy_bool ?_
 cases k with
 |false=>exact ite_ff ⟨.bl false,H3,I3,rfl,q3⟩
 |true=>exact ite_tt (chain_last (thn (hc pz s3 σ H3 _ I3 q3) fun w' s4 ⟨z',H4,I4,r4,q4⟩=>ho' pz s4 σ H4 y z' u w' Q I4 r2 r4 q4))
theorem mw {op op':CmpOp} {r r':R2} (ho:OpR X (compareOp op) r) (ho':OpR X (compareOp op') r') (ha:PE X a ta) (hb:PE X b tb) (hc:PE X c tc)
  (hm:lastMarks [op,op'] [b,c]=false:=by with_unfolding_all rfl):PT X (.Compare a [op,op'] [b,c] pos) (Ei (yl r r' ta tb tc)):=by
 intro pz s σ H Q I h
 refine isTrue_chain (thn (ha pz s σ H _ I h) fun v s1 ⟨x,H1,I1,r1,q1⟩=>test_link (thn (hb pz s1 σ H1 _ I1 q1) fun u s2 ⟨y,H2,I2,r2,q2⟩=>
  thn (ho pz s2 σ H2 x y v u _ I2 r1 r2 q2) fun d s3 ⟨z,H3,I3,r3,k,e,q3⟩=>?_)) hm
 subst e
 cases r3
 refine wpAny_truthy_bool ?_
 cases k with
 |false=>
  obtain⟨k',e',q'⟩:=q3
  cases e'
  exact ite_ff ⟨H3,I3,q'⟩
 |true=>
  refine ite_tt (test_last (thn (hc pz s3 σ H3 _ I3 q3) fun w' s4 ⟨z',H4,I4,r4,q4⟩=>thn (ho' pz s4 σ H4 y z' u w' _ I4 r2 r4 q4) fun d' s5 ⟨z2,H5,I5,r5,k2,e2,q5⟩=>?_))
  subst e2
  cases r5
  exact wpAny_truthy_bool ⟨H5,I5,q5⟩
theorem rQ:(sizeLine:Nat)<2^63:=by rw[sizeLine_eq];decide
theorem mx:OpR X (binaryOp .Add) (fun x y H Q=>∃i j,x= .str i/\y= .str j/\i.length+j.length<=sizeLine/\Q (.str (i++j)) H):=by
 intro pz s σ H x y v u Q I rx ry h
 obtain⟨i,j,rfl,rfl,hz,q⟩:=h
 obtain⟨t,rfl⟩:=rx
 obtain⟨t',rfl⟩:=ry
 exact add_str (fun t' tk=>⟨.str (i++j),H,I.tok _,⟨_,rfl⟩,q⟩) hz
theorem qc {x:V} {us:List Value} (r:gP [x] us):∃u,us=[u]/\gU x u:=by
 cases r with
 |cons r1 r2=>cases r2;exact⟨_,rfl,r1⟩
theorem Aq {x y:V} {us:List Value} (r:gP [x,y] us):∃u w',us=[u,w']/\gU x u/\gU y w':=by
 cases r with
 |cons r1 r2=>
  cases r2 with
  |cons r3 r4=>cases r4;exact⟨_,_,rfl,r1,r3⟩
theorem ym (hc:X.calm=true):ox X (.builtin "max") (fun xs H Q=>∃i j,xs=[.int i,.int j]/\Q (.int (if j>i then j else i)) H):=by
 intro pz s σ H xs us Q I r h
 obtain⟨i,j,rfl,q⟩:=h
 obtain⟨u,w',rfl,⟨t,rfl⟩,⟨t',rfl⟩⟩:=Aq r
 refine max_two_ints (I.ok.hd hc) fun h' tk k=>⟨_,H,I.kept k,?_,q⟩
 by_cases hj:j>i
 ·rw[f6 hj,f6 hj];exact⟨_,rfl⟩
 ·rw[fO hj,fO hj];exact⟨_,rfl⟩
theorem yn:ox X (.type "int") (fun xs H Q=>(∃i,xs=[.int i]/\Q (.int i) H)\/∃k,xs=[.bl k]/\Q (.int (if k then 1 else 0)) H):=by
 intro pz s σ H xs us Q I r h
 rcases h with⟨i,rfl,q⟩|⟨k,rfl,q⟩
 ·obtain⟨u,rfl,t,rfl⟩:=qc r
  exact call_int_int ⟨.int i,H,I,⟨_,rfl⟩,q⟩
 ·obtain⟨u,rfl,r1⟩:=qc r
  cases r1
  exact call_int_bool ⟨.int (if k then 1 else 0),H,I.tok _,⟨_,rfl⟩,q⟩
def Gq (K:PySem.W.Frag) (x:V) (H:Hp) (n:Nat):Prop:=
 match x with
 | .str y=>y.length<=sizeLine/\n=y.length
 | .byt y=>y.size<=sizeLine/\n=y.size
 | .ref p=>(∃xs,SqL K H p xs/\n=xs.length)\/∃xs,SqT K H p xs/\n=xs.length
 |_=>False
theorem vV:ox X (.builtin "len") (fun xs H Q=>∃x n,xs=[x]/\Gq X.K x H n/\Q (.int n) H):=by
 intro pz s σ H xs us Q I r h
 obtain⟨x,n,rfl,e,q⟩:=h
 obtain⟨u,rfl,rx⟩:=qc r
 have hl:=rQ
 have hs:sizeLine=16777216:=sizeLine_eq
 cases x with
 |str y=>
  obtain⟨t,rfl⟩:=rx
  obtain⟨hy,e'⟩:y.length<=sizeLine/\n=y.length:=e
  subst e'
  exact len_str (by lia) ⟨.int _,H,I.tok _,⟨_,rfl⟩,q⟩
 |byt y=>
  obtain⟨t,rfl⟩:=rx
  obtain⟨hy,e'⟩:y.size<=sizeLine/\n=y.size:=e
  subst e'
  exact PySem.W.len_bytes (by lia) ⟨.int _,H,I.tok _,⟨_,rfl⟩,q⟩
 |ref p=>
  cases rx
  have e':(∃xs,SqL X.K H p xs/\n=xs.length)\/∃xs,SqT X.K H p xs/\n=xs.length:=e
  rcases e' with⟨xs,hx,e'⟩|⟨xs,hx,e'⟩
  ·subst e'
   obtain⟨its,r',pl,hz⟩:=I.list hx
   have hlen:=r'.length
   exact Calls.call_len_list pl.isList (by simp only[ay];lia) ⟨.int xs.length,H,I.tok _,⟨_,by simp only[ay];rw[hlen]⟩,q⟩
  ·subst e'
   obtain⟨its,r',pl,hz⟩:=I.tuple hx
   have hlen:=r'.length
   exact len_tuple pl (by simp only[ay];lia) ⟨.int xs.length,H,I.tok _,⟨_,by simp only[ay];rw[hlen]⟩,q⟩
 |_=>exact(show False from e).elim
end
structure Co (h:Heap) (x dx C:Addr) (mA:Str->Option Value):Prop where
 obj:h.get? x=some (cG C dx)
 ns:h.Ns1 dx mA
 ne:dx≠x
theorem yo {h:Heap} {dx:Addr} {mA:Str->Option Value} (n:h.Ns1 dx mA):∃od,h.get? dx=some od/\∀name,cJ name od=some (mA name):=by
 obtain⟨o,es,ep,ho,hd,hk,_,hm⟩:=n
 refine⟨o,ho,fun name=>?_⟩
 have e:=hm name
 unfold nsFind findBy at e
 rw[<-Array.find?_toList]at e
 unfold cJ
 rw[hd]
 dsimp only
 split
 ·rename_i y q
  rw[q]at e
  exact congrArg some e
 ·rename_i q
  rw[q]at e
  have a:es.toList.any (·.refKey)=false:=by
   rw[List.any_eq_false]
   intro y hy
   obtain⟨z,t,hkey⟩:=hk y (Array.mem_toList_iff.mp hy)
   simp[DictEntry.refKey,hkey]
  have a':¬es.toList.any (·.refKey)=true:=by rw[a];exact dU
  rw[fO a']
  exact congrArg some e
theorem Co.look {h:Heap} {x dx C:Addr} {mA:Str->Option Value} (I:Co h x dx C mA):∃od,PySem.W.InstAt h x (cG C dx) C (some od)/\∀name,cJ name od=some (mA name):=
 let⟨od,ho,hl⟩:=yo I.ns
 ⟨od,⟨I.obj,rfl,rfl,ho⟩,hl⟩
section
variable {prog:Program} {w:World} {A:Around} {E:Value->Shared->Prop} {s:Shared} {K:PySem.W.Frag} {x dx C f:Addr} {mA:Str->Option Value} {name:Str} {v:Value}
theorem Cr {expr:Bool} {Q:Value->Shared->Prop} (X:K.In s.heap) (I:Co s.heap x dx C mA) (hg:cK K C name=true) (hh:cM K C=true)
  (ha:cN K (.ref C) name=some none) (hv:mA name=some v) (hv':PySem.W.handedIn v=true) (h:Q v {s with toks:=s.toks+ 1}):
  wpAny (model prog w) A (getAttr (.ref x) name expr) Q E s:=by
 obtain⟨od,J,hl⟩:=I.look
 exact PySem.W.get_value X J (cO hg).1 (PySem.W.findObj_own hh ha rfl (by rw[hl,hv])) hv' h
theorem Ar {pl:Sem Bool} {Q:Value×List Value->Shared->Prop} (X:K.In s.heap) (I:Co s.heap x dx C mA) (hg:cK K C name=true)
  (hf:cN K (.ref C) name=some (some (.ref f))) (ht:cP K (.ref f)=true) (hv:mA name=none) (h:Q (.ref f,[.ref x]) s):
  wpAny (model prog w) A (getMethod (.ref x) name pl) Q E s:=by
 obtain⟨od,J,hl⟩:=I.look
 exact PySem.W.method_fn X J (cO hg).1 (cO hg).2 hf (beq_iff_eq.mp ht) (by show(cJ name od).map (·.isSome)=some false;rw[hl,hv];rfl) h
theorem Ct {ns:List Str} {Q:Unit->Shared->Prop} (X:K.In s.heap) (I:Co s.heap x dx C mA)
  (hs:cN K (.ref C) "__setattr__"=some (some (.builtin "object.__setattr__"))) (hp:cQ K C=true) (ht:cR K C name=some none) (hh:cM K C=true)
  (hw:PySem.Within mA ns) (hsz:ns.length<=sizeLine)
  (h:∀h',Co h' x dx C (fun y=>if y=name then some v else mA y)->Heap.SameBut dx s.heap h'->Q () {s with heap:=h',toks:=s.toks+ 2}):
  wpAny (model prog w) A (setAttr (.ref x) name v) Q E s:=by
 obtain⟨od,J,hl⟩:=I.look
 refine PySem.W.set_plain X J hs (PySem.W.osa_open (s:={s with toks:=s.toks+ 1}) (r:=none) X J hp ht fun b=>?_)
 obtain⟨cd,hc,hd'⟩:=PySem.W.any_some hh
 have hx:s.heap.get? x=some ⟨.ref C,some dx,.plain,#[]⟩:=I.obj
 refine wpAny_bind (wpAny_pure (wpAny_bind (wpAny_bind (wpAny_loadPart hx (wpAny_bind (PySem.W.Looks.here (s:={s with toks:=s.toks+ 1}) (PySem.W.looks_clsIn X hc) ?_))))))
 rw[hd']
 refine wpAny_pure (a:=some dx) (wpAny_bind (wpAny_pure (wpAny_bind ?_)))
 refine wpAny_nsSet1 (s:={s with toks:=s.toks+ 1}) I.ns fun h' hn2 hs2=>?_
 obtain⟨oD,esD,epD,hoD,hdD,hcD⟩:=hn2.count (PySem.Within.cons name v hw)
 refine wpAny_bind (wpAny_lookBehind hoD (by rw[hdD];exact pastItsLine_dict (bZ hcD (by rw[az];lia))) ?_)
 exact wpAny_pure (h _ ⟨(hs2.2 _ (Ne.symm I.ne)).trans I.obj,hn2,I.ne⟩ hs2)
theorem As {R:Result->Shared->Prop} {vs:List Value} {kw:List (Str×Value)} (X:K.In s.heap) (hm:cS K C=true)
  (hi:cN K (.ref C) "__init__"=some (some (.ref f))) (hf:PySem.W.typeIn K (.ref f)=some (.type "function"))
  (h:codeAny (model prog w) (A.under (.builtin "type.__call__" ⟨.ref C::vs,kw⟩)) (.call (.ref f) ⟨.ref (s.heap.objs.size+ 1)::vs,kw⟩) (PySem.W.InitBack (s.heap.objs.size+ 1) R)
   {s with heap:=(s.heap.push cU).push (cG C s.heap.objs.size)}):
  codeAny (model prog w) A (.call (.ref C) ⟨vs,kw⟩) R s:=by
 obtain⟨hh,g,d,t,os⟩:=s
 exact PySem.W.make_core (PySem.W.makes_of X hm) (PySem.W.looks_findIn X hi) (fun self=>PySem.W.bind_fn X self hf) (.inl rfl) h
end
def ji (f:Str) (v:V):List (Str×V)->List (Str×V)
 |[]=>[(f,v)]
 |(g,x)::r=>if g=f then(g,v)::r else(g,x)::ji f v r
theorem qd (f g:Str) (v:V):∀fs:List (Str×V),(ji f v fs).lookup g=if g=f then some v else fs.lookup g
 |[]=>by
  show aA g [(f,v)]=_
  by_cases h:g=f
  ·have hb:(g==f)=true:=beq_iff_eq.mpr h
   simp only[aA,hb,f6 h]
  ·have hb:(g==f)=false:=beq_eq_false_iff_ne.mpr h
   simp only[aA,hb,fO h]
 |(k,x)::r=>by
  have ih:=qd f g v r
  rw[show ji f v ((k,x)::r)=(if k=f then(k,v)::r else(k,x)::ji f v r)from rfl]
  by_cases hk:k=f
  ·rw[f6 hk]
   by_cases h:g=k
   ·have hb:(g==k)=true:=beq_iff_eq.mpr h
    simp only[aA,hb,f6 (h.trans hk)]
   ·have hb:(g==k)=false:=beq_eq_false_iff_ne.mpr h
    simp only[aA,hb,fO (fun e:g=f=>h (e.trans hk.symm))]
  ·rw[fO hk]
   by_cases h:g=k
   ·have hb:(g==k)=true:=beq_iff_eq.mpr h
    simp only[aA,hb,fO (fun e:g=f=>hk (h.symm.trans e))]
   ·have hb:(g==k)=false:=beq_eq_false_iff_ne.mpr h
    simp only[aA,hb]
    exact ih
theorem qe (f:Str) (v:V):∀fs:List (Str×V),f∈(ji f v fs).map (·.1)/\∀g,g∈fs.map (·.1)->g∈(ji f v fs).map (·.1)
 |[]=>⟨by simp[ji],fun g h=>by simp at h⟩
 |(k,x)::r=>by
  obtain⟨i1,i2⟩:=qe f v r
  rw[show ji f v ((k,x)::r)=(if k=f then(k,v)::r else(k,x)::ji f v r)from rfl]
  by_cases hk:k=f
  ·rw[f6 hk]
   subst hk
   exact⟨by simp,fun g h=>by simpa using h⟩
  ·rw[fO hk]
   refine⟨?_,fun g h=>?_⟩
   ·rw[aB]
    exact aj _ i1
   ·rw[aB]at h⊢
    rcases ak.mp h with e|e
    ·exact ak.mpr (.inl e)
    ·exact aj _ (i2 g e)
theorem mM (f:Str) (v:V):∀fs:List (Str×V),(ji f v fs).length<=fs.length+ 1
 |[]=>by simp[ji]
 |(k,x)::r=>by
  have ih:=mM f v r
  rw[show ji f v ((k,x)::r)=(if k=f then(k,v)::r else(k,x)::ji f v r)from rfl]
  by_cases hk:k=f
  ·rw[f6 hk,az,az];lia
  ·rw[fO hk,az,az];lia
theorem sr.some_of {v:V} {o:Option Value} (r:sr (some v) o):∃u,o=some u/\gU v u:=by
 cases o with
 |none=>exact(show False from r).elim
 |some u=>exact⟨u,rfl,r⟩
theorem sr.none_of {o:Option Value} (r:sr none o):o=none:=by
 cases o with
 |none=>rfl
 |some u=>exact(show False from r).elim
theorem yp {v:V} {u:Value} (r:gU v u):PySem.W.handedIn u=true:=by
 cases v with
 |non=>cases(show u=Value.none from r);rfl
 |bl b=>cases(show u=Value.bool b from r);rfl
 |int i=>obtain⟨t,e⟩:=(show ∃t,u=Value.int i t from r);cases e;rfl
 |str x=>obtain⟨t,e⟩:=(show ∃t,u=Value.str x t from r);cases e;rfl
 |byt b=>obtain⟨t,e⟩:=(show ∃t,u=Value.bytes b t from r);cases e;rfl
 |flt b=>obtain⟨t,e⟩:=(show ∃t,u=Value.float b t from r);cases e;rfl
 |ref a=>cases(show u=Value.ref a from r);rfl
 |ty n=>cases(show u=Value.type n from r);rfl
section
variable {P:Program} {w:World} {H H':Hp} {h h':Heap} {a C dx:Addr} {fs fs':List (Str×V)}
theorem qf (hok:HOk P w H h) (e:H a=some (.ins C dx fs)):∃mA,Co h a dx C mA/\(∀f,sr (fs.lookup f) (mA f))/\PySem.Within mA (fs.map (·.1))/\fs.length<=1000/\H dx=some (.own a):=by
 obtain⟨d,z,ne,ob,mA,n,r,q⟩:=(show hX P w H h a (.ins C dx fs)from hok a _ e)
 exact⟨mA,⟨ob,n,ne⟩,r,q,z,d⟩
end
structure Cls (K:PySem.W.Frag) (C:Addr):Prop where
 pg:cK K C Str.empty=true
 hd:cM K C=true
 po:cQ K C=true
 sa:cN K (.ref C) "__setattr__"=some (some (.builtin "object.__setattr__"))
theorem Cls.get {K:PySem.W.Frag} {C:Addr} (c:Cls K C) (f:Str):cK K C f=true:=c.pg
def fQ (K:PySem.W.Frag) (C:Addr) (f:Str):Prop:=cN K (.ref C) f=some none
theorem fQ.taker {K:PySem.W.Frag} {C:Addr} {f:Str} (n:fQ K C f):cR K C f=some none:=by
 unfold cR
 rw[show cN K (.ref C) f=some none from n]
 rfl
structure Con (K:PySem.W.Frag) (C:Addr) (f:Str) (v:V) (u:Value):Prop where
 at_:cN K (.ref C) f=some (some u)
 rel:gU v u
 get:cW K u "__get__"=some none
 cp:PySem.W.copiedNames.contains f=false
structure FP (K:PySem.W.Frag) (C:Addr) (m:Str) (f:Addr):Prop where
 at_:cN K (.ref C) m=some (some (.ref f))
 fn:cP K (.ref f)=true
 kp:cX K (.ref f)=true
section
variable {X:Cx} {pz:List (Addr×Obj)} {σ:St} {H:Hp} {s:Shared} {a C dx:Addr} {fs:List (Str×V)} {f:Str} {v:V} {A:Around} {E:Value->Shared->Prop}
theorem xa {b:Bool} {Q:Value->Shared->Prop} (I:Inv X pz σ H s) (e:H a=some (.ins C dx fs)) (c:Cls X.K C) (n:fQ X.K C f) (l:fs.lookup f=some v)
  (h:∀u s',Inv X pz σ H s'->gU v u->Q u s'):wpAny (model X.prog X.w) A (getAttr (.ref a) f b) Q E s:=by
 obtain⟨mA,O,r,_,_,_⟩:=qf I.hok e
 obtain⟨u,hu,ru⟩:=sr.some_of (v:=v) (o:=mA f) (by rw[<-l];exact r f)
 exact Cr I.kIn O (c.get f) c.hd n hu (yp ru) (h u _ (I.tok _) ru)
theorem rR {m:Str} {g:Addr} {pl:Sem Bool} {Q:Value×List Value->Shared->Prop} (I:Inv X pz σ H s) (e:H a=some (.ins C dx fs)) (c:Cls X.K C) (k:FP X.K C m g) (l:fs.lookup m=none)
  (h:Q (.ref g,[.ref a]) s):wpAny (model X.prog X.w) A (getMethod (.ref a) m pl) Q E s:=by
 obtain⟨mA,O,r,_,_,_⟩:=qf I.hok e
 have hn:mA m=none:=sr.none_of (by rw[<-l];exact r m)
 exact Ar I.kIn O (c.get m) k.at_ k.fn hn h
theorem xb {y:V} {u:Value} {Q:Unit->Shared->Prop} (I:Inv X pz σ H s) (e:H a=some (.ins C dx fs)) (c:Cls X.K C) (n:fQ X.K C f) (hl:fs.length<1000) (ry:gU y u)
  (h:∀s',Inv X pz σ (upd H a (.ins C dx (ji f y fs))) s'->Q () s'):wpAny (model X.prog X.w) A (setAttr (.ref a) f u) Q E s:=by
 obtain⟨mA,O,r,wi,_,ho⟩:=qf I.hok e
 have hz:(fs.map (·.1)).length<=sizeLine:=by rw[aC,sizeLine_eq];lia
 refine Ct I.kIn O c.sa c.po n.taker c.hd wi hz fun h' O' sb=>h _ ?_
 have hd:∃o,h'.get? dx=some o:=let⟨o,_,_,e',_⟩:=O'.ns;⟨o,e'⟩
 refine I.write (x:=a) (e:=dx) (by rw[e];exact True.intro) (.inr ho) (fun b q hb z=>(sb.2 b hb).trans z) hd ?_
 refine⟨by rw[eX O.ne];exact ho,?_,O.ne,O'.obj,_,O'.ns,fun g=>?_,fun g hg=>?_⟩
 ·have:=mM f y fs;lia
 ·show sr ((ji f y fs).lookup g) (if g=f then some u else mA g)
  rw[qd]
  by_cases q:g=f
  ·rw[f6 q,f6 q];exact ry
  ·rw[fO q,fO q];exact r g
 ·by_cases q:g=f
  ·rw[q];exact(qe f y fs).1
  ·refine(qe f y fs).2 g (wi g fun z=>hg ?_)
   show(if g=f then some u else mA g)=none
   rw[fO q];exact z
theorem Inv.made (I:Inv X pz σ H s):Inv X pz σ (upd (upd H s.heap.objs.size (.own (s.heap.objs.size+ 1))) (s.heap.objs.size+ 1) (.ins C s.heap.objs.size []))
  {s with heap:=(s.heap.push cU).push (cG C s.heap.objs.size)}:=by
 have e1:(s.heap.push cU).get? s.heap.objs.size=some cU:=eJ s.heap rfl
 have e2:((s.heap.push cU).push (cG C s.heap.objs.size)).get? (s.heap.objs.size+ 1)=some (cG C s.heap.objs.size):=by
  have:=eJ (s.heap.push cU) (o:=cG C s.heap.objs.size) rfl
  rwa[eM]at this
 have e3:(s.heap.push cU).Ns s.heap.objs.size (fun _=>none):=⟨cU,#[],_,e1,rfl,(fun e he=>absurd he (by simp)),fun _=>rfl⟩
 have I1:=I.laid (a:=s.heap.objs.size) (o:= .own (s.heap.objs.size+ 1)) (h':=s.heap.push cU) (t':=s.toks) (fun b u q=>eK _ q) (b9 _) ⟨_,e1⟩
 refine I1.laid (a:=s.heap.objs.size+ 1) (o:= .ins C s.heap.objs.size []) (t':=s.toks) (fun b u q=>eK _ q) (Nat.le_of_eq (eM _ _)) ?_
 have ne:s.heap.objs.size≠s.heap.objs.size+ 1:=bY (Nat.lt_succ_self _)
 refine⟨by rw[eX ne,eS],cb _,ne,e2,fun _=>none,(Heap.Ns1.of_empty e3).at fun o q=>eK _ q,fun _=>True.intro,fun y hy=>absurd rfl hy⟩
theorem Cu {prog:Program} {w:World} {env:Env} {e:Expr} {f:Str} {pos:Pos} {s:Shared} {Q:Value->Shared->Prop} (hb:attributeBase e f env (eval e env)=eval e env)
  (h:wpAny (model prog w) A (eval e env) (fun o s₁=>wpAny (model prog w) A (getAttr o f true) Q E s₁) E s):wpAny (model prog w) A (eval (.Attribute e f pos) env) Q E s:=
 Attribute_any_ h (by rw[arm_eval_Attribute,hb])
end
def tFld (K:PySem.W.Frag) (ta:TE) (f:Str):TE:=fun σ H Q=>ta σ H fun x H1=>∃a C dx fs v,x= .ref a/\H1 a=some (.ins C dx fs)/\Cls K C/\fQ K C f/\fs.lookup f=some v/\Q v H1
def Hy (K:PySem.W.Frag) (ta tv:TE) (f:Str):TS:=fun D σ H=>tv σ H fun y H1=>ta σ H1 fun x H2=>∃a C dx fs,x= .ref a/\H2 a=some (.ins C dx fs)/\Cls K C/\fQ K C f/\fs.length<1000/\
 D.nx σ (upd H2 a (.ins C dx (ji f y fs)))
section
variable {X:Cx} {o e value:Expr} {f:Str} {pos pos' tpos:Pos} {ta tv:TE}
theorem gE (he:PE X e ta) (hb:attributeBase e f X.env (eval e X.env)=eval e X.env):PE X (.Attribute e f pos) (tFld X.K ta f):=by
 intro pz s σ H Q I h
 refine Cu hb (thn (he pz s σ H _ I h) fun u s1 ⟨x,H1,I1,rx,a,C,dx,fs,v,ex,ea,c,n,l,q⟩=>?_)
 subst ex
 obtain rfl:u=Value.ref a:=rx
 exact xa I1 ea c n l fun u' s2 I2 ru=>⟨v,H1,I2,ru,q⟩
theorem gK (ha:PE X o ta) (hv:PE X value tv) (hs:swapsWith value (some (.Attribute o f pos')) pos.line X.env=pure false):PS X (.Assign [.Attribute o f pos'] value pos) (Hy X.K ta tv f):=by
 intro pz s σ H D I h
 refine plainObj_wpAny_Assign_Attribute (thn (hv pz s σ H _ I h) fun u s1 ⟨y,H1,I1,ry,q⟩=>thn (ha pz s1 σ H1 _ I1 q) fun ov s2 ⟨x,H2,I2,rx,a,C,dx,fs,ex,ea,c,n,l,q2⟩=>?_) hs
 subst ex
 obtain rfl:ov=Value.ref a:=rx
 exact xb I2 ea c n l ry fun s3 I3=>⟨σ,_,I3,q2⟩
end
section
variable {X:Cx} {pz:List (Addr×Obj)} {σ:St} {H:Hp} {s:Shared} {A:Around} {E:Value->Shared->Prop} {Q:Value->Shared->Prop} {c:Value} {b:Bool}
inductive va (K:PySem.W.Frag) (H:Hp):V->Value->Prop where
 |non:va K H .non (.type "NoneType")
 |bl (x:Bool):va K H (.bl x) (.type "bool")
 |int (i:Int):va K H (.int i) (.type "int")
 |str (x:Str):va K H (.str x) (.type "str")
 |flt (x:UInt64):va K H (.flt x) (.type "float")
 |lst {a:Addr} {xs:List V} (e:H a=some (.lst xs)):va K H (.ref a) (.type "list")
 |frz {a:Addr} {o:Obj} {xs:List V} (e:H a=some (.frz o (.lst xs))):va K H (.ref a) (.type "list")
 |tup {a:Addr} {xs:List V} (e:H a=some (.tup xs)):va K H (.ref a) (.type "tuple")
 |dK {a:Addr} {kvs:List (Key×V)} (e:H a=some (.dK kvs)):va K H (.ref a) (.type "dict")
 |dT {a:Addr} {kvs:List (List Key×V)} (e:H a=some (.dT kvs)):va K H (.ref a) (.type "dict")
 |ins {a C dx:Addr} {fs:List (Str×V)} (e:H a=some (.ins C dx fs)) (cl:Cls K C) (ha:cN K (.ref C) "__class__"=some (some (.builtin "object.__class__")))
   (hn:cW K (.builtin "object.__class__") "__get__"=some (some (.builtin "getset_descriptor.__get__"))) (htk:PySem.W.takesIn K (.builtin "object.__class__")=some true)
   (hm:PySem.W.mroIn K C (.type "object")=some true):va K H (.ref a) (.ref C)
theorem yq {x:V} {u t:Value} (I:Inv X pz σ H s) (rx:gU x u) (ty:va X.K H x t) (e:PySem.W.kitOne X.K t c=some b) (h:∀tk,Q (.bool b) {s with toks:=tk}):
  wpAny (model X.prog X.w) A (call (.builtin "isinstance") [u,c]) Q E s:=by
 cases ty with
 |non=>cases(show u=Value.none from rx);exact cY cZ I.kIn True.intro e (fun z=>nomatch z) h
 |bl y=>cases(show u=Value.bool y from rx);exact cY dg I.kIn True.intro e (fun z=>nomatch z) h
 |int i=>obtain⟨t,q⟩:=(show ∃t,u=Value.int i t from rx);cases q;exact cY PySem.W.kitx_int I.kIn True.intro e (fun z=>nomatch z) h
 |str y=>obtain⟨t,q⟩:=(show ∃t,u=Value.str y t from rx);cases q;exact cY PySem.W.kitx_str I.kIn True.intro e (fun z=>nomatch z) h
 |flt y=>obtain⟨t,q⟩:=(show ∃t,u=Value.float y t from rx);cases q;exact cY dh I.kIn True.intro e (fun z=>nomatch z) h
 |@lst a xs ea=>
  cases(show u=Value.ref a from rx)
  obtain⟨_,_,n,_,h1⟩:=(show hX X.prog X.w H s.heap a (.lst xs)from I.hok a _ ea)
  exact cY di I.kIn ⟨_,h1,rfl⟩ e (fun z=>nomatch z) h
 |@frz a ob xs ea=>
  cases(show u=Value.ref a from rx)
  obtain⟨_,_,_,n,_,h1⟩:=(show hX X.prog X.w H s.heap a (.frz ob (.lst xs))from I.hok a _ ea)
  exact cY di I.kIn ⟨_,h1,rfl⟩ e (fun z=>nomatch z) h
 |@tup a xs ea=>
  cases(show u=Value.ref a from rx)
  obtain⟨_,_,_,p⟩:=(show hX X.prog X.w H s.heap a (.tup xs)from I.hok a _ ea)
  obtain⟨o,h1,h2,_⟩:=p
  exact cY dj I.kIn ⟨o,h1,h2⟩ e (fun z=>nomatch z) h
 |@dK a kvs ea=>
  cases(show u=Value.ref a from rx)
  obtain⟨_,_,vs,_,p⟩:=(show hX X.prog X.w H s.heap a (.dK kvs)from I.hok a _ ea)
  obtain⟨o,es,ep,h1,h2,_⟩:=p
  exact cY dq I.kIn ⟨o,h1,h2.1⟩ e (fun z=>nomatch z) h
 |@dT a kvs ea=>
  cases(show u=Value.ref a from rx)
  obtain⟨_,_,xs,_,o,es,ep,h1,h2,_⟩:=(show hX X.prog X.w H s.heap a (.dT kvs)from I.hok a _ ea)
  exact cY dq I.kIn ⟨o,h1,h2.1⟩ e (fun z=>nomatch z) h
 |@ins a C dx fs ea cl ha hn htk hm=>
  cases(show u=Value.ref a from rx)
  obtain⟨mA,O,_⟩:=qf I.hok ea
  obtain⟨od,J,_⟩:=O.look
  exact cY (PySem.W.kitx_own (cl.get _) cl.hd ha hn htk hm) I.kIn J e (fun z=>nomatch z) h
end
structure lJ (k:Nat) (A:Around):Prop where
 hd:A.handled=none
 dp:A.depth+ 2*k+ 5<recursionLimit
 un:A.units+ 16*k+ 200<cLine
theorem lJ.mono {j k:Nat} {A:Around} (r:lJ k A) (h:j<=k):lJ j A:=⟨r.hd,by have:=r.dp;lia,by have:=r.un;lia⟩
theorem lJ.m {j k:Nat} {A:Around} (r:lJ k A) (h:autoParam (j<=k) L2.Internal.auD._auto_1):lJ j A:=r.mono h
theorem lJ.deeper {k:Nat} {A:Around} (r:lJ (k+ 1) A) (env:Env):lJ k (A.deeper env):=
 ⟨r.hd,by have:=r.dp;show A.depth+ 1+ 2*k+ 5<_;lia,by have:=r.un;show A.units+ 3+ 16*k+ 200<_;lia⟩
theorem xf {A:Around} {C:Addr} {us:List Value} {kw:List (Str×Value)}:(A.under (.builtin "type.__call__" ⟨.ref C::us,kw⟩)).depth=A.depth+ 1:=by
 first|rfl|simp[Around.under,Code.weight,Code.isCreation,Code.isGuard,Code.isCaller,Code.frames,Code.isFrame,guardIds]
theorem xg {A:Around} {C:Addr} {us:List Value} {kw:List (Str×Value)}:(A.under (.builtin "type.__call__" ⟨.ref C::us,kw⟩)).units=A.units+ 1:=by
 first|rfl|simp[Around.under,Code.cUnits,Code.frames,Code.isFrame]
theorem lJ.make {k:Nat} {A:Around} (r:lJ (k+ 1) A) (C:Addr) (us:List Value) (kw:List (Str×Value)):lJ k (A.under (.builtin "type.__call__" ⟨.ref C::us,kw⟩)):=
 ⟨r.hd,by have:=r.dp;rw[xf];lia,by have:=r.un;rw[xg];lia⟩
theorem lJ.depth {k:Nat} {A:Around} (r:lJ k A):A.depth<recursionLimit:=by have:=r.dp;lia
theorem lJ.units {k:Nat} {A:Around} (r:lJ k A):A.units+ 64<cLine:=by have:=r.un;lia
def tP:TA:=fun _ H Q=>Q [] H
def jL (ta:TE) (tr:TA):TA:=fun σ H Q=>ta σ H fun x H1=>tr σ H1 fun xs H2=>Q (x::xs) H2
section
variable {X:Cx} {e:Expr} {es:List Expr} {te:TE} {t:TA} {pos:Pos}
theorem eT:PA X [] tP:=fun _ _ _ _ H Q I h=>Calls.spliced_nil ⟨[],H,I,.nil,h⟩
theorem eR (ha:PE X e te) (hr:PA X es t) (hs:autoParam (starEach (e::es) X.env=(false,eval e X.env)::starEach es X.env) L2.Internal.auR._auto_1):PA X (e::es) (jL te t):=by
 intro pos pz s σ H Q I h
 rw[hs]
 show wpAny _ _ (spliced ((false,eval e X.env)::backTo pos (starEach es X.env))) _ _ s
 refine Calls.spliced_cons (thn (ha pz s σ H _ I h) fun u s1 ⟨x,H1,I1,r1,q1⟩=>?_)
 exact thn (hr pos pz s1 σ H1 _ I1 q1) fun us s2 ⟨xs,H2,I2,r2,q2⟩=>⟨x::xs,H2,I2,.cons r1 r2,q2⟩
def Hz (t:TA):TE:=fun σ H Q=>t σ H fun xs H1=>xs.length<=sizeLine/\∀p,H1 p=none->Q (.ref p) (upd H1 p (.tup xs))
def FQ (t:TA):TE:=fun σ H Q=>t σ H fun xs H1=>xs.length<=sizeLine/\∀p,H1 p=none->Q (.ref p) (upd H1 p (.lst xs))
theorem fC {x1} (h:PA X es t):PE X (.Tuple es x1 pos) (Hz t):=by
 intro pz s σ H Q I hq
 refine wpAny_Tuple_spliced (thn (h pos pz s σ H _ I hq) fun us s1 ⟨xs,H1,I1,r,z,q⟩=>⟨by rw[<-r.length];exact z,?_⟩)
 have hf:H1 s1.heap.objs.size=none:=I1.hok.fresh (b9 _)
 refine⟨.ref s1.heap.objs.size,upd H1 s1.heap.objs.size (.tup xs),I1.laid (t':=s1.toks) (fun b u e=>eK _ e) (b9 _) ?_,rfl,q _ hf⟩
 exact⟨z,us,r,⟨_,eJ _ rfl,rfl,_,rfl,rfl⟩⟩
theorem fH (h:PA X es t):PE X (.List es pos) (FQ t):=by
 intro pz s σ H Q I hq
 refine wpAny_List_spliced (thn (h pos pz s σ H _ I hq) fun us s1 ⟨xs,H1,I1,r,z,q⟩=>⟨by rw[<-r.length];exact z,?_⟩)
 have hf:H1 s1.heap.objs.size=none:=I1.hok.fresh (b9 _)
 refine⟨.ref s1.heap.objs.size,upd H1 s1.heap.objs.size (.lst xs),I1.laid (t':=s1.toks) (fun b u e=>eK _ e) (b9 _) ?_,rfl,q _ hf⟩
 exact⟨z,us,0,r,eJ _ rfl⟩
end
abbrev Sp:=List V->Hp->VK->XK->Prop
abbrev CXT:=List Env->Hp->Shared->XK->Value->Shared->Prop
structure Cv (P:Program) (w:World) (K:PySem.W.Frag) (mg:Str->Option Value) (base:Heap) (A:Around) (outer:List Env) (s:Shared) (H:Hp):Prop where
 frames:A.frames=some outer
 mod:Mod K mg base
 bs:∀b o,base.get? b=some o->s.heap.get? b=some o/\H b=none
 bsz:base.objs.size<=s.heap.objs.size
 funs:s.heap.FunFrames base outer
 frf:∀b∈frs outer,H b=none
 hok:HOk P w H s.heap
 bare:AllBare s.gens
def CE (outer:List Env) (P:Program) (w:World) (H:Hp) (s:Shared) (Q:VK) (u:Value) (s':Shared):Prop:=
 ∃v H',s'.os=s.os/\AllBare s'.gens/\Un (frs outer) [] H H' s.heap s'.heap/\HOk P w H' s'.heap/\gU v u/\Q v H'
def CR (CX:CXT) (outer:List Env) (P:Program) (w:World) (H:Hp) (s:Shared) (Q:VK) (E:XK) (r:Result) (s':Shared):Prop:=
 match r with
 | .ok (.ret u)=>CE outer P w H s Q u s'
 | .ok _=>False
 | .error e=>CX outer H s E e s'
structure qZ (P:Program) (w:World) (K:PySem.W.Frag) (mg:Str->Option Value) (base:Heap) (CX:CXT) (k:Nat) (f:Addr) (fd:FuncData) (ps:List Str) (sp:Sp):Prop where
 len:∀vs H Q E,sp vs H Q E->vs.length=ps.length
 run:∀(A:Around) (outer:List Env) (s:Shared) (H:Hp) (args:Args) (us:List Value) (vs:List V) (Q:VK) (E:XK),lJ k A->Cv P w K mg base A outer s H->BindsTo s fd args (ps.zip us)->gP vs us->sp vs H Q E->
  codeAny (model P w) A (.call (.ref f) args) (CR CX outer P w H s Q E) s
theorem Cv.make {P:Program} {w:World} {K:PySem.W.Frag} {mg:Str->Option Value} {base:Heap} {A:Around} {outer:List Env} {s:Shared} {H:Hp} (e:Cv P w K mg base A outer s H) (C:Addr) (us:List Value) (kw:List (Str×Value)):
  Cv P w K mg base (A.under (.builtin "type.__call__" ⟨.ref C::us,kw⟩)) outer s H:=⟨by first|exact e.frames|(simpa[Around.under,Code.envs,Code.isFrame,pushEnvs]using e.frames),e.mod,e.bs,e.bsz,e.funs,e.frf,e.hok,e.bare⟩
section
variable {X:Cx} {pz:List (Addr×Obj)} {σ:St} {H:Hp} {s s':Shared}
theorem Inv.env0 (I:Inv X pz σ H s):Cv X.prog X.w X.K X.mg X.base X.A X.stack s H:=
 ⟨I.ok.frames,I.ok.mod,I.bs,bZ I.ok.bsz I.sz,I.stack,I.stkFree,I.hok,I.bare⟩
theorem Inv.after {Q:VK} {u:Value} (I:Inv X pz σ H s) (h:CE X.stack X.prog X.w H s Q u s'):EP X pz σ Q u s':=by
 obtain⟨v,H',os,bare,un,hok,r,q⟩:=h
 obtain⟨hh,g,d,t,os'⟩:=s'
 obtain rfl:os'=s.os:=os
 exact⟨v,H',I.call (h':=hh) (g':=g) (d':=d) (t':=t) (ch:=[]) un hok bare (fun b z=>absurd z (by simp)),r,q⟩
end
def rf (sp:Sp) (dvs:List V) (E:XK) (t:TA):TE:=fun σ H Q=>t σ H fun vs H1=>sp (vs++dvs) H1 Q E
def Cw (C:Addr) (m:Str) (sp:Sp) (dvs:List V) (E:XK) (ta:TE) (t:TA):TE:=fun σ H Q=>ta σ H fun x H1=>∃a dx fs,x= .ref a/\H1 a=some (.ins C dx fs)/\fs.lookup m=none/\
 t σ H1 fun vs H2=>sp (x::(vs++dvs)) H2 Q E
def Ej (C:Addr) (sp:Sp) (dvs:List V) (E:XK) (t:TA):TE:=fun σ H Q=>t σ H fun vs H1=>∀x dx,H1 x=none->H1 dx=none->dx≠x->
 sp (.ref x::(vs++dvs)) (upd (upd H1 dx (.own x)) x (.ins C dx [])) (fun v H2=>v= .non/\Q (.ref x) H2) E
def mB (K:PySem.W.Frag) (fd:FuncData) (ps:List Str) (ds:List Value):Prop:=
 ∀(s:Shared) (us:List Value),K.In s.heap->(us++ds).length=ps.length->BindsTo s fd ⟨us,[]⟩ (ps.zip (us++ds))
theorem mB.all {K:PySem.W.Frag} {fd:FuncData} {ps:List Str} (h:∀us:List Value,us.length=ps.length->bindArgs fd ⟨us,[]⟩=pure (ps.zip us)):mB K fd ps []:=fun s us _ hl=>by
 rw[aD]at hl⊢
 exact .of_eq (h us hl)
def mG (CX:CXT) (X:Cx) (E:XK):Prop:=∀(pz:List (Addr×Obj)) (σ:St) (H:Hp) (s:Shared) (e:Value) (s':Shared),Inv X pz σ H s->CX X.stack H s E e s'->X.xe e s'
section
variable {X:Cx} {CX:CXT} {k:Nat} {f C:Addr} {fd:FuncData} {ps:List Str} {sp:Sp} {dvs:List V} {ds:List Value} {E:XK} {x m:Str} {p pos apos:Pos} {e o:Expr} {es:List Expr} {ta:TE} {t:TA}
theorem tQ {pz:List (Addr×Obj)} {σ:St} {H:Hp} {s:Shared} {Q:VK} {us:List Value} {vs:List V} (F:qZ X.prog X.w X.K X.mg X.base CX k f fd ps sp) (hr:lJ k X.A) (hb:mB X.K fd ps ds) (hd:gP dvs ds) (hx:mG CX X E)
  (I:Inv X pz σ H s) (r:gP vs us) (h:sp (vs++dvs) H Q E):wpAny (model X.prog X.w) X.A (call (.ref f) us) (EP X pz σ Q) X.xe s:=by
 have r2:gP (vs++dvs) (us++ds):=r.append hd
 have hl:(us++ds).length=ps.length:=by rw[<-r2.length];exact F.len _ _ _ _ h
 refine wpAny_call (codeAny_mono (F.run X.A X.stack s H ⟨us,[]⟩ (us++ds) (vs++dvs) Q E hr I.env0 (hb s us I.kIn hl) r2 h) fun r s' hq=>?_)
 cases r with
 |error e=>exact hx pz σ H s e s' I hq
 |ok fl=>
  cases fl with
  |ret u=>exact I.after hq
  |next=>exact False.elim hq
  |brk=>exact False.elim hq
  |cont=>exact False.elim hq
theorem yr (F:qZ X.prog X.w X.K X.mg X.base CX k f fd ps sp) (hr:lJ k X.A) (hg:Gl X x) (hm:X.mg x=some (.ref f)) (hk:cX X.K (.ref f)=true) (hb:mB X.K fd ps ds) (hd:gP dvs ds) (hx:mG CX X E)
  (ha:PA X (e::es) t) (hdb:autoParam ((x==("__debug__":Str))=false) L2.Internal.auD._auto_1) (he:autoParam (starEach (e::es) X.env=(false,eval e X.env)::starEach es X.env) L2.Internal.auR._auto_1) (hpl:autoParam ((backTo pos (starEach es X.env)).any (·.1)=false) L2.Internal.auR._auto_1):
  PE X (.Call (.Name x p) (e::es) [] pos) (rf sp dvs E t):=by
 intro pz s σ H Q I h
 refine wpAny_Call_Name_kw (su I hg hm ?_ hdb)
 refine du (h₀:=X.base) I.ok.mod.kin hk (thn (ha pos pz s σ H _ I h) fun us s1 ⟨vs,H1,I1,r,q⟩=>⟨I1.kIn,?_⟩) he hpl
 exact tQ F hr hb hd hx I1 r q
theorem fo {pl:Sem Bool} (he:PE X o ta) (c:Cls X.K C) (hm:FP X.K C m f) (F:qZ X.prog X.w X.K X.mg X.base CX k f fd ps sp) (hr:lJ k X.A) (hb:mB X.K fd ps ds) (hd:gP dvs ds) (hx:mG CX X E) (ha:PA X (e::es) t)
  (hst:autoParam (starEach (e::es) X.env=(false,eval e X.env)::starEach es X.env) L2.Internal.auR._auto_1) (hpl:autoParam ((backTo pos (starEach es X.env)).any (·.1)=false) L2.Internal.auR._auto_1)
  (ht:eval (.Call (.Attribute o m apos) (e::es) [] pos) X.env=(do
   let ov<-eval o X.env
   standAt apos.atName
   let(f,first)<-holding [ov] (getMethod ov m pl)
   callWith pos f first (backTo pos (starEach (e::es) X.env)) (backToKw pos (keywordEach [] X.env))):=by rfl):
  PE X (.Call (.Attribute o m apos) (e::es) [] pos) (Cw C m sp dvs E ta t):=by
 intro pz s σ H Q I h
 refine dw (pl:=pl) (thn (he pz s σ H _ I h) fun u s1 ⟨x,H1,I1,rx,a,dx,fs,ex,ea,l,q⟩=>?_) ht
 subst ex
 obtain rfl:u=Value.ref a:=rx
 refine rR I1 ea c hm l ?_
 refine du (first:=[.ref a]) (h₀:=X.base) I.ok.mod.kin hm.kp (thn (ha pos pz s1 σ H1 _ I1 q) fun us s2 ⟨vs,H2,I2,r,q2⟩=>⟨I2.kIn,?_⟩) hst hpl
 exact tQ (us:= .ref a::us) (vs:= .ref a::vs) F hr hb hd hx I2 (.cons rfl r) q2
theorem my {pl:Sem Bool} (he:PE X o ta) (c:Cls X.K C) (hm:FP X.K C m f) (F:qZ X.prog X.w X.K X.mg X.base CX k f fd ps sp) (hr:lJ k X.A) (hb:mB X.K fd ps ds) (hd:gP dvs ds) (hx:mG CX X E)
  (ht:eval (.Call (.Attribute o m apos) [] [] pos) X.env=(do
   let ov<-eval o X.env
   standAt apos.atName
   let(f,first)<-holding [ov] (getMethod ov m pl)
   callWith pos f first (backTo pos (starEach [] X.env)) (backToKw pos (keywordEach [] X.env))):=by rfl):
  PE X (.Call (.Attribute o m apos) [] [] pos) (Cw C m sp dvs E ta tP):=by
 intro pz s σ H Q I h
 refine dw (pl:=pl) (thn (he pz s σ H _ I h) fun u s1 ⟨x,H1,I1,rx,a,dx,fs,ex,ea,l,q⟩=>?_) ht
 subst ex
 obtain rfl:u=Value.ref a:=rx
 refine rR I1 ea c hm l ?_
 exact dy (first:=[.ref a]) I1.kIn hm.kp (tQ (us:=[.ref a]) (vs:=[.ref a]) F hr hb hd hx I1 (.cons rfl .nil) q)
structure Mk (K:PySem.W.Frag) (C f:Addr):Prop where
 makes:cS K C=true
 init:cN K (.ref C) "__init__"=some (some (.ref f))
 fn:cP K (.ref f)=true
 kp:cX K (.ref C)=true
theorem vW {pz:List (Addr×Obj)} {σ:St} {H:Hp} {s:Shared} {Q:VK} {us:List Value} {vs:List V} (M:Mk X.K C f) (F:qZ X.prog X.w X.K X.mg X.base CX k f fd ps sp) (hr:lJ (k+ 1) X.A) (hb:mB X.K fd ps ds) (hd:gP dvs ds)
  (hx:mG CX X E) (I:Inv X pz σ H s) (r:gP vs us)
  (h:∀x dx,H x=none->H dx=none->dx≠x->sp (.ref x::(vs++dvs)) (upd (upd H dx (.own x)) x (.ins C dx [])) (fun v H2=>v= .non/\Q (.ref x) H2) E):
  wpAny (model X.prog X.w) X.A (call (.ref C) us) (EP X pz σ Q) X.xe s:=by
 have hq:=h (s.heap.objs.size+ 1) s.heap.objs.size (I.hok.fresh (Nat.le_succ _)) (I.hok.fresh (b9 _)) (bY (Nat.lt_succ_self _))
 have I2:=Inv.made (C:=C) I
 have r2:gP (V.ref (s.heap.objs.size+ 1)::(vs++dvs)) (Value.ref (s.heap.objs.size+ 1)::(us++ds)):= .cons rfl (r.append hd)
 have hl:(Value.ref (s.heap.objs.size+ 1)::us++ds).length=ps.length:=by
  have e:=r2.length
  rw[F.len _ _ _ _ hq]at e
  exact e.symm
 refine wpAny_call (As (f:=f) I.kIn M.makes M.init (beq_iff_eq.mp M.fn) (codeAny_mono (F.run _ X.stack _ _ ⟨Value.ref (s.heap.objs.size+ 1)::us,[]⟩ (Value.ref (s.heap.objs.size+ 1)::(us++ds)) _ _ E (hr.make C us [])
  (I2.env0.make C us []) (hb _ (Value.ref (s.heap.objs.size+ 1)::us) I2.kIn hl) r2 hq) fun r s' hq'=>?_))
 cases r with
 |error e=>exact hx pz σ _ _ e s' I2 hq'
 |ok fl=>
  cases fl with
  |ret u=>
   obtain⟨v,H',I3,rv,ev,q3⟩:=I2.after hq'
   subst ev
   exact⟨rv,⟨V.ref (s.heap.objs.size+ 1),H',I3,rfl,q3⟩⟩
  |next=>exact False.elim hq'
  |brk=>exact False.elim hq'
  |cont=>exact False.elim hq'
theorem jk (M:Mk X.K C f) (F:qZ X.prog X.w X.K X.mg X.base CX k f fd ps sp) (hr:lJ (k+ 1) X.A) (hg:Gl X x) (hm:X.mg x=some (.ref C)) (hb:mB X.K fd ps ds) (hd:gP dvs ds) (hx:mG CX X E)
  (ha:PA X (e::es) t) (hdb:autoParam ((x==("__debug__":Str))=false) L2.Internal.auD._auto_1) (he:autoParam (starEach (e::es) X.env=(false,eval e X.env)::starEach es X.env) L2.Internal.auR._auto_1) (hpl:autoParam ((backTo pos (starEach es X.env)).any (·.1)=false) L2.Internal.auR._auto_1):
  PE X (.Call (.Name x p) (e::es) [] pos) (Ej C sp dvs E t):=by
 intro pz s σ H Q I h
 refine wpAny_Call_Name_kw (su I hg hm ?_ hdb)
 refine du (h₀:=X.base) I.ok.mod.kin M.kp (thn (ha pos pz s σ H _ I h) fun us s1 ⟨vs,H1,I1,r,q⟩=>⟨I1.kIn,?_⟩) he hpl
 exact vW M F hr hb hd hx I1 r q
theorem Au (M:Mk X.K C f) (F:qZ X.prog X.w X.K X.mg X.base CX k f fd ps sp) (hr:lJ (k+ 1) X.A) (hg:Gl X x) (hm:X.mg x=some (.ref C)) (hb:mB X.K fd ps ds) (hd:gP dvs ds) (hx:mG CX X E)
  (hdb:autoParam ((x==("__debug__":Str))=false) L2.Internal.auD._auto_1):PE X (.Call (.Name x p) [] [] pos) (Ej C sp dvs E tP):=by
 intro pz s σ H Q I h
 refine wpAny_Call_Name_kw (su I hg hm ?_ hdb)
 exact dy I.kIn M.kp (vW (us:=[]) M F hr hb hd hx I .nil h)
end
section
variable {X:Cx} {CX:CXT} {k:Nat} {f C:Addr} {fd:FuncData} {ps ks:List Str} {sp:Sp} {E:XK} {x m:Str} {p pos apos kpos:Pos} {e o:Expr} {es:List Expr} {kws:List Keyword} {te ta:TE} {t tk:TA} {nm:Option Str}
structure HA (K:PySem.W.Frag) (fd:FuncData) (ps ks:List Str) (g:List Value->List Value->List Value) (gV:List V->List V->List V):Prop where
 to:∀(s:Shared) (us ws:List Value),K.In s.heap->(g us ws).length=ps.length->BindsTo s fd ⟨us,ks.zip ws⟩ (ps.zip (g us ws))
 rel:∀{vs:List V} {us:List Value} {zs:List V} {ws:List Value},gP vs us->gP zs ws->gP (gV vs zs) (g us ws)
variable {g:List Value->List Value->List Value} {gV:List V->List V->List V}
end
structure fi (N P:List Str) (sc:Scope):Prop where
 kind:sc.kind= .function
 co:sc.isCoroutine=false
 gen:sc.isGenerator=false
 nd:N.Nodup
 pre:N.take P.length=P
 par:∀x∈P,sc.names.lookup x=some .local\/sc.names.lookup x=some .cell
 nofree:∀y∈sc.names,y.2≠ .free
theorem tR {kindOf:Str->Option NameKind} {x:Str}:∀{binds:List (Str×Value)} {m:Str->Option Value},(∀v,(x,v)∉binds)->bindL kindOf binds m x=m x
 |[],_,_=>rfl
 |(n,v)::r,m,h=>by
  unfold bindL
  rw[tR fun w hw=>h w (aj _ hw)]
  split
  ·have:x≠n:=by rintro rfl;exact h v ai
   simp[this]
  ·rfl
theorem tT {kindOf:Str->Option NameKind} {x:Str}:∀{binds:List (Str×Value)} {m:Str->Option Value},(∀v,(x,v)∉binds)->bindC kindOf binds m x=m x
 |[],_,_=>rfl
 |(n,v)::r,m,h=>by
  unfold bindC
  rw[tT fun w hw=>h w (aj _ hw)]
  split
  ·rfl
  ·have:x≠n:=by rintro rfl;exact h v ai
   simp[this]
theorem tU {kindOf:Str->Option NameKind} {x:Str} {v:Value}:∀{P:List Str} {vs:List Value} {i:Nat} {m:Str->Option Value},P.Nodup->P[i]?=some x->vs[i]?=some v->kindOf x=some .local->
  bindL kindOf (P.zip vs) m x=some v
 |[],_,_,_,_,h,_,_=>by simp at h
 |_::_,[],_,_,_,_,h,_=>by simp at h
 |p::P,w::vs,0,m,nd,h1,h2,hk=>by
  simp at h1 h2;subst h1;subst h2
  show bindL kindOf ((p,w)::P.zip vs) m p=_
  unfold bindL
  rw[tR fun v hv=>(aE.mp nd).1 (aF hv).1,f6 hk]
  simp
 |p::P,w::vs,i+ 1,m,nd,h1,h2,hk=>by
  show bindL kindOf ((p,w)::P.zip vs) m x=_
  unfold bindL
  exact tU (i:=i) (aE.mp nd).2 (by simpa using h1) (by simpa using h2) hk
theorem tV {kindOf:Str->Option NameKind} {x:Str} {v:Value}:∀{P:List Str} {vs:List Value} {i:Nat} {m:Str->Option Value},P.Nodup->P[i]?=some x->vs[i]?=some v->kindOf x≠some .local->
  bindC kindOf (P.zip vs) m x=some v
 |[],_,_,_,_,h,_,_=>by simp at h
 |_::_,[],_,_,_,_,h,_=>by simp at h
 |p::P,w::vs,0,m,nd,h1,h2,hk=>by
  simp at h1 h2;subst h1;subst h2
  show bindC kindOf ((p,w)::P.zip vs) m p=_
  unfold bindC
  rw[tT fun v hv=>(aE.mp nd).1 (aF hv).1,fO hk]
  simp
 |p::P,w::vs,i+ 1,m,nd,h1,h2,hk=>by
  show bindC kindOf ((p,w)::P.zip vs) m x=_
  unfold bindC
  exact tV (i:=i) (aE.mp nd).2 (by simpa using h1) (by simpa using h2) hk
def start (N:List Str) (vs:List V):St:=vs.map some++aG (N.length-vs.length) none
def Bo (CX:CXT) (P:Program) (w:World) (K:PySem.W.Frag) (mg:Str->Option Value) (base:Heap) (N:List Str) (qual:Str) (scope:Scope) (f:Addr) (cd:Value) (A:Around) (outer:List Env) (s:Shared) (H:Hp) (E:XK):Cx where
 prog:=P
 w:=w
 K:=K
 mg:=mg
 base:=base
 A:=A.deeper (envOfC qual scope s.heap.objs.size f cd)
 N:=N
 s₀:=s
 H₀:=H
 env:=envOfC qual scope s.heap.objs.size f cd
 outer:=outer
 stack:=envOfC qual scope s.heap.objs.size f cd::outer
 ex:=[]
 calm:=true
 fn:=fun _=>true
 pn:=[]
 xe:=fun e s'=>wpAny (model P w) (A.deeper (envOfC qual scope s.heap.objs.size f cd)) (leaving (envOfC qual scope s.heap.objs.size f cd) e) (fun _ s''=>CX outer H s E e s'') (fun e' s''=>CX outer H s E e' s'') s'
theorem vX {sc:Scope} {n:Nat} {x:Str} (h:sc.names.lookup x=some .cell):∃c,(cellsFrom n sc.names []).lookup x=some c:=by
 have q:=dA sc.names n [] (.inl h)
 exact cD.mp q
theorem yt {CX:CXT} {P:Program} {w:World} {K:PySem.W.Frag} {mg:Str->Option Value} {base:Heap} {N ps:List Str} {qual:Str} {scope:Scope} {f:Addr} {cd:Value} {A:Around} {outer:List Env} {s s1:Shared} {H:Hp} {E:XK} {us:List Value} {vs:List V}
  (S:fi N ps scope) (hd:A.handled=none) (e0:Cv P w K mg base A outer s H) (hl:vs.length=ps.length) (r:gP vs us)
  (x:InCallC s s.heap.objs.size (bindL (envOfC qual scope s.heap.objs.size f cd).kindOf (ps.zip us) fun _=>none) (cellsFrom (s.heap.objs.size+ 1) scope.names []) (bindC (envOfC qual scope s.heap.objs.size f cd).kindOf (ps.zip us) fun _=>none) s1):
  Inv (Bo CX P w K mg base N qual scope f cd A outer s H E) [] (start N vs) H s1:=by
 have hpl:ps.length<=N.length:=by have:=congrArg List.length S.pre;rw[aH]at this;lia
 obtain⟨h1,tk,rfl,hk⟩:=x.done
 have noA:∀b:Addr,b∉(Bo CX P w K mg base N qual scope f cd A outer s H E).ex:=fun b z=>absurd (show b∈([]:List Addr)from z) (by simp)
 refine⟨⟨e0.mod,S.kind,rfl,rfl,b9 _,fun y z c h1 h2=>?_,fun y hy=>?_,fun y c _ h=>?_,fun _=>hd,Around.frames_deeper e0.frames,.inr ⟨rfl,rfl⟩,fun b z=>absurd z (noA b),e0.bs,e0.bsz,fun b _ _=>noA b,fun b z=>absurd z (noA b),e0.funs,e0.frf⟩,
  rfl,e0.bare,Un.kept hk,⟨_,x.toInCall.ns,fun i y v h1 h2 h3=>?_⟩,fun y c h=>⟨_,x.cell y c h⟩,e0.hok.fresh (b9 _),fun y c h=>?_,fun p hp=>absurd (show p∈([]:List (Addr×Obj))from hp) (by simp),e0.hok.kept hk,?_⟩
 ·exact name_of_addr x.apart (PySem.mem_of_lookup h1) (PySem.mem_of_lookup h2)
 ·have hy:scope.names.lookup y=some .cell\/scope.names.lookup y=some .free:=hy
  rcases hy with hy|hy
  ·exact vX hy
  ·exact absurd rfl (S.nofree _ (PySem.mem_of_lookup hy))
 ·exact b0 (x.above y c (PySem.mem_of_lookup h))
 ·have hi:i<vs.length:=by
   unfold start at h2
   by_cases hi:i<vs.length
   ·exact hi
   ·rw[aI (by simpa using hi)]at h2
    rw[List.getElem?_replicate]at h2
    split at h2<;>cases h2
  have ha:vs[i]?=some v:=by
   unfold start at h2
   rw[aJ (by simpa using hi),aK]at h2
   cases e:vs[i]? with
   |none=>rw[e]at h2;cases h2
   |some a=>rw[e]at h2;cases h2;rfl
  obtain⟨u,hu,rv⟩:=r.get ha
  have hp:ps[i]?=some y:=by
   rw[<-S.pre,aM (by lia)];exact h1
  have ndP:ps.Nodup:=by rw[<-S.pre];exact S.nd.sublist (List.take_sublist _ _)
  refine⟨u,rv,?_⟩
  rcases S.par y (aN hp)with k|k
  ·exact .inl ⟨k,tU ndP hp hu k⟩
  ·obtain⟨c,e⟩:=vX (n:=s.heap.objs.size+ 1) k
   refine .inr ⟨.inl k,c,e,?_⟩
   have q:=x.cell y c e
   rw[tV ndP hp hu (by show scope.names.lookup y≠_;rw[k];decide)]at q
   exact q
 ·exact e0.hok.fresh (b0 (x.above y c (PySem.mem_of_lookup h)))
 ·unfold start
  show _=N.length
  rw[aO,aC,aP]
  lia
theorem Ek {CX:CXT} {P:Program} {w:World} {K:PySem.W.Frag} {mg:Str->Option Value} {base:Heap} {k:Nat} {f:Addr} {name qual:Str} {params:Arguments} {body:List Stmt} {scope:Scope} {dV kV doc pm cdv ct oc:Value} {an od:Option Addr}
  {osl:Array (Option Value)} {N ps:List Str} {sp:Sp} (lk:K.lookup f=some ⟨oc,od,.func (dB name qual params body scope dV kV doc pm an cdv ct),osl⟩) (hcd:dC K cdv qual=true) (S:fi N ps scope)
  (len:∀vs H Q E,sp vs H Q E->vs.length=ps.length)
  (hbody:∀(A:Around) (outer:List Env) (s:Shared) (H:Hp) (vs:List V) (Q:VK) (E:XK),lJ k (A.deeper (envOfC qual scope s.heap.objs.size f cdv))->sp vs H Q E->
   ∃t,PSs (Bo CX P w K mg base N qual scope f cdv A outer s H E) body t/\t {nx:=fun _ H'=>Q .non H',rt:=Q} (start N vs) H):
  qZ P w K mg base CX (k+ 1) f (dB name qual params body scope dV kV doc pm an cdv ct) ps sp:=by
 refine⟨len,fun A outer s H args us vs Q E hr e0 hb r hsp=>?_⟩
 have hl:=len _ _ _ _ hsp
 have KX:K.In s.heap:=e0.mod.kin.keeps fun b o e=>(e0.bs b o e).1
 have lim:s.heap.NoLimit:=e0.mod.nolimit.keeps fun b o e=>(e0.bs b o e).1
 have hkind:∀y∈ps.zip us,scope.names.lookup y.1=some .local\/(scope.names.lookup y.1=some .cell/\((cellsFrom (s.heap.objs.size+ 1) scope.names []).lookup y.1).isSome=true):=fun⟨n,v⟩ hy=>by
  rcases S.par n (aF hy).1 with q|q
  ·exact .inl q
  ·exact .inr ⟨q,dA _ _ _ (.inl q)⟩
 refine codeAny_call_function hr.depth (KX _ _ lk) rfl S.co S.gen rfl (PySem.W.codeRec_of KX hcd) (hb _ _ _ _ ?_)
 refine wpAny_newFunctionEnv_cells S.kind hkind fun env he s1 x=>?_
 subst he
 refine⟨lim.keeps x.toInCall.keep,codeAny_func ?_⟩
 obtain⟨t,ht,hq⟩:=hbody A outer s H vs Q E (hr.deeper _) hsp
 have I:Inv (Bo CX P w K mg base N qual scope f cdv A outer s H E) [] (start N vs) H s1:=yt S hr.hd e0 hl r x
 refine wpAny_mono (ht [] s1 (start N vs) H _ I hq) (fun fl s' hs=>?_) fun e s' hs=>hs
 have fin:∀{σ':St} {H':Hp} {v:V} {u:Value},Inv (Bo CX P w K mg base N qual scope f cdv A outer s H E) [] σ' H' s'->gU v u->Q v H'->CE outer P w H s Q u s':=
  fun{σ' H' v u} J rv q=>⟨v,H',J.os,J.bare,J.base,J.hok,rv,q⟩
 cases fl with
 |ret u=>
  obtain⟨v,σ',H',J,rv,q⟩:=hs
  exact fin J rv q
 |next=>
  obtain⟨σ',H',J,q⟩:=hs
  exact fin (v:=V.non) (u:=Value.none) J rfl q
 |brk=>
  obtain⟨_,_,_,q⟩:=hs
  exact False.elim q
 |cont=>
  obtain⟨_,_,_,q⟩:=hs
  exact False.elim q
section
variable {X:Cx} {x:Str} {p pos:Pos} {e:Expr} {es:List Expr} {t:TA} {id T:String} {r:List V->Hp->VK->Prop}
def tCB (r:List V->Hp->VK->Prop) (t:TA):TE:=fun σ H Q=>t σ H fun vs H1=>r vs H1 Q
theorem fS (hc:ox X (.builtin id) r) (hg:Gl X x) (hm:X.mg x=none) (hv:bootBuiltins x=some (.builtin id)) (ha:PA X (e::es) t) (hn:autoParam (x≠"__name__") L2.Internal.auD._auto_1) (hdb:autoParam ((x==("__debug__":Str))=false) L2.Internal.auD._auto_1)
  (he:autoParam (starEach (e::es) X.env=(false,eval e X.env)::starEach es X.env) L2.Internal.auR._auto_1) (hpl:autoParam ((backTo pos (starEach es X.env)).any (·.1)=false) L2.Internal.auR._auto_1):PE X (.Call (.Name x p) (e::es) [] pos) (tCB r t):=by
 intro pz s σ H Q I h
 refine wpAny_Call_Name_kw (p8 I hg hm hv ?_ hn hdb)
 exact PyProof.Rows.callWith_builtin1 (thn (ha pos pz s σ H _ I h) fun us s1 ⟨vs,H1,I1,r1,q1⟩=>hc pz s1 σ H1 vs us Q I1 r1 q1) he hpl
theorem gq (hc:ox X (.type T) r) (hg:Gl X x) (hm:X.mg x=none) (hv:bootBuiltins x=some (.type T)) (ha:PA X (e::es) t) (hn:autoParam (x≠"__name__") L2.Internal.auD._auto_1) (hdb:autoParam ((x==("__debug__":Str))=false) L2.Internal.auD._auto_1)
  (he:autoParam (starEach (e::es) X.env=(false,eval e X.env)::starEach es X.env) L2.Internal.auR._auto_1) (hpl:autoParam ((backTo pos (starEach es X.env)).any (·.1)=false) L2.Internal.auR._auto_1):PE X (.Call (.Name x p) (e::es) [] pos) (tCB r t):=by
 intro pz s σ H Q I h
 refine wpAny_Call_Name_kw (p8 I hg hm hv ?_ hn hdb)
 exact eP (thn (ha pos pz s σ H _ I h) fun us s1 ⟨vs,H1,I1,r1,q1⟩=>hc pz s1 σ H1 vs us Q I1 r1 q1) he hpl
end
section
variable {κ:Type} [DecidableEq κ]
def lK (kvs:List (κ×V)) (k:κ):Option V:=(kvs.find? fun kv=>decide (kv.1=k)).map (·.2)
def vY (kvs:List (κ×V)) (k:κ) (v:V):List (κ×V):=
 if(kvs.any fun kv=>decide (kv.1=k))=true then kvs.map (fun kv=>if kv.1=k then(kv.1,v)else kv)else kvs++[(k,v)]
theorem iP {p:κ×V} {r:List (κ×V)} {k:κ} (e:p.1=k):lK (p::r) k=some p.2:=by simp[lK,aQ,e]
theorem iQ {p:κ×V} {r:List (κ×V)} {k:κ} (e:¬p.1=k):lK (p::r) k=lK r k:=by simp[lK,aQ,e]
theorem pX (k:κ):∀kvs:List (κ×V),(kvs.any fun kv=>decide (kv.1=k))=(lK kvs k).isSome
 |[]=>rfl
 |p::r=>by
  rw[aR]
  by_cases e:p.1=k
  ·simp only[iP e,gR e,Bool.true_or,Option.isSome_some]
  ·rw[iQ e,gC e,Bool.false_or];exact pX k r
theorem vZ (k j:κ) (y:V):∀kvs:List (κ×V),lK (kvs.map fun kv=>if kv.1=k then(kv.1,y)else kv) j=(lK kvs j).map fun x=>if j=k then y else x
 |[]=>rfl
 |p::r=>by
  have ih:=vZ k j y r
  rw[aB]
  by_cases h:p.1=k
  ·rw[f6 h]
   by_cases e:p.1=j
   ·rw[iP (p:=(p.1,y)) e,iP e,cE,f6 (e.symm.trans h)]
   ·rw[iQ (p:=(p.1,y)) e,iQ e,ih]
  ·rw[fO h]
   by_cases e:p.1=j
   ·rw[iP (p:=p) e,iP e,cE,fO (fun z=>h (e.trans z))]
   ·rw[iQ (p:=p) e,iQ e,ih]
theorem tW (k j:κ) (y:V):∀kvs:List (κ×V),lK kvs k=none->lK (kvs++[(k,y)]) j=if j=k then some y else lK kvs j
 |[],_=>by
  by_cases e:k=j
  ·rw[f6 e.symm];exact iP (p:=(k,y)) e
  ·rw[fO (fun z=>e z.symm)];exact iQ (p:=(k,y)) e
 |p::r,hn=>by
  rw[aS]
  have hk:¬p.1=k:=fun z=>by rw[iP z]at hn;cases hn
  rw[iQ hk]at hn
  have ih:=tW k j y r hn
  by_cases e:p.1=j
  ·rw[iP e,iP e,fO (fun z=>hk (e.trans z))]
  ·rw[iQ e,iQ e,ih]
theorem Av (kvs:List (κ×V)) (k j:κ) (y:V):lK (vY kvs k y) j=if j=k then some y else lK kvs j:=by
 unfold vY
 by_cases a:(kvs.any fun kv=>decide (kv.1=k))=true
 ·rw[f6 a,vZ]
  rw[pX]at a
  by_cases e:j=k
  ·obtain⟨x,hx⟩:=cD.mp a
   rw[f6 e,e,hx,cE,f6 rfl]
  ·rw[fO e]
   cases lK kvs j with
   |none=>rfl
   |some x=>rw[cE,fO e]
 ·rw[fO a]
  refine tW k j y kvs ?_
  rw[pX]at a
  cases q:lK kvs k with
  |none=>rfl
  |some x=>rw[q]at a;exact(a rfl).elim
theorem mN (kvs:List (κ×V)) (k:κ) (v:V):(vY kvs k v).length<=kvs.length+ 1:=by
 unfold vY
 split
 ·rw[aC];lia
 ·rw[aO,az,List.length_nil];lia
theorem sr.isSome_eq {o:Option V} {u:Option Value} (r:sr o u):o.isSome=u.isSome:=by
 cases o with
 |none=>cases u with
  |none=>rfl
  |some _=>exact(show False from r).elim
 |some _=>cases u with
  |none=>exact(show False from r).elim
  |some _=>rfl
theorem sr.getD {o:Option V} {u:Option Value} {d:V} {d':Value} (r:sr o u) (rd:gU d d'):gU (o.getD d) (u.getD d'):=by
 cases o with
 |none=>cases u with
  |none=>exact rd
  |some _=>exact(show False from r).elim
 |some _=>cases u with
  |none=>exact(show False from r).elim
  |some _=>exact r
theorem KV.val {kvs:List (κ×V)} {vs:List (κ×Value)} (r:KV kvs vs) (k:κ):sr (lK kvs k) (valueAt vs k):=by
 unfold KV at r
 induction r with
 |nil=>exact True.intro
 |@cons p q ps qs h t ih=>
  obtain⟨h1,h2⟩:=h
  by_cases e:p.1=k
  ·have e':q.1=k:=h1.symm.trans e
   have b:valueAt (q::qs) k=some q.2:=by simp[valueAt,aQ,e']
   rw[iP e,b];exact h2
  ·have e':¬q.1=k:=fun z=>e (h1.trans z)
   have b:valueAt (q::qs) k=valueAt qs k:=by simp[valueAt,aQ,e']
   rw[iQ e,b];exact ih
theorem KV.any {kvs:List (κ×V)} {vs:List (κ×Value)} (r:KV kvs vs) (k:κ):(kvs.any fun kv=>decide (kv.1=k))=vs.any fun kv=>decide (kv.1=k):=by
 unfold KV at r
 induction r with
 |nil=>rfl
 |cons h t ih=>rw[aR,aR,ih,h.1]
theorem KV.repl {kvs:List (κ×V)} {vs:List (κ×Value)} (r:KV kvs vs) (k:κ) {y:V} {u:Value} (ry:gU y u):
  KV (kvs.map fun kv=>if kv.1=k then(kv.1,y)else kv) (vs.map fun kv=>if kv.1=k then(kv.1,u)else kv):=by
 unfold KV at r⊢
 induction r with
 |nil=>exact .nil
 |@cons p q ps qs h t ih=>
  rw[aB,aB]
  refine .cons ?_ ih
  obtain⟨h1,h2⟩:=h
  by_cases e:p.1=k
  ·rw[f6 e,f6 (h1.symm.trans e)];exact⟨h1,ry⟩
  ·rw[fO e,fO (fun z=>e (h1.trans z))];exact⟨h1,h2⟩
theorem KV.put {kvs:List (κ×V)} {vs:List (κ×Value)} (r:KV kvs vs) (k:κ) {y:V} {u:Value} (ry:gU y u):KV (vY kvs k y) (stored vs k u):=by
 unfold vY stored
 rw[r.any k]
 by_cases e:(vs.any fun kv=>decide (kv.1=k))=true
 ·rw[f6 e,f6 e];exact r.repl k ry
 ·rw[fO e,fO e];exact Paired.snoc r ⟨rfl,ry⟩
theorem KV.length {kvs:List (κ×V)} {vs:List (κ×Value)} (r:KV kvs vs):kvs.length=vs.length:=Paired.length r
end
theorem Aw {P:Program} {w:World} {k:Key} {u:Value} (r:gU (kV k) u):(iO P w).is k u=true:=by
 cases k with
 |inl i=>obtain⟨t,e⟩:=(show ∃t,u=Value.int i t from r);subst e;exact u3 P w i t
 |inr x=>obtain⟨t,e⟩:=(show ∃t,u=Value.str x t from r);subst e;exact u4 P w x t
theorem tX {P:Program} {w:World}:∀{ks:List Key} {us:List Value},gP (ks.map kV) us->ItemsAre (iO P w) ks us
 |[],_,r=>by rw[aT]at r;cases r;exact .nil
 |k::ks,_,r=>by
  rw[aB]at r
  cases r with
  |cons h t=>exact .cons (Aw h) (tX t)
abbrev KT (H:Hp):List (List Key×V)->List (List Key×Addr×Value)->Prop:=Paired fun p q=>p.1=q.1/\H q.2.1=some (.tup (p.1.map kV))/\gU p.2 q.2.2
theorem KT.val {H:Hp} {kvs:List (List Key×V)} {xs:List (List Key×Addr×Value)} (r:KT H kvs xs) (k:List Key):sr (lK kvs k) ((atKey xs k).map (·.2)):=by
 induction r with
 |nil=>exact True.intro
 |@cons p q ps qs h t ih=>
  obtain⟨h1,_,h2⟩:=h
  by_cases e:p.1=k
  ·have e':q.1=k:=h1.symm.trans e
   have b:atKey (q::qs) k=some q.2:=by simp[atKey,aQ,e']
   rw[iP e,b];exact h2
  ·have e':¬q.1=k:=fun z=>e (h1.trans z)
   have b:atKey (q::qs) k=atKey qs k:=by simp[atKey,aQ,e']
   rw[iQ e,b];exact ih
theorem KT.repl {H:Hp} {kvs:List (List Key×V)} {xs:List (List Key×Addr×Value)} (r:KT H kvs xs) (k:List Key) {y:V} {u:Value} (ry:gU y u):
  KT H (kvs.map fun kv=>if kv.1=k then(kv.1,y)else kv) (xs.map (putAt k u)):=by
 induction r with
 |nil=>exact .nil
 |@cons p q ps qs h t ih=>
  rw[aB,aB]
  refine .cons ?_ ih
  obtain⟨h1,h2,h3⟩:=h
  unfold putAt
  by_cases e:p.1=k
  ·rw[f6 e,f6 (h1.symm.trans e)];exact⟨h1,h2,ry⟩
  ·rw[fO e,fO (fun z=>e (h1.trans z))];exact⟨h1,h2,h3⟩
theorem KT.put {H:Hp} {kvs:List (List Key×V)} {xs:List (List Key×Addr×Value)} (r:KT H kvs xs) (k:List Key) {b:Addr} {y:V} {u:Value} (hb:H b=some (.tup (k.map kV))) (ry:gU y u):
  KT H (vY kvs k y) (storedH xs k b u):=by
 have e:(kvs.any fun kv=>decide (kv.1=k))=(atKey xs k).isSome:=by
  rw[pX,(r.val k).isSome_eq,Option.isSome_map]
 unfold vY storedH
 rw[e]
 by_cases q:(atKey xs k).isSome=true
 ·rw[f6 q,f6 q];exact r.repl k ry
 ·rw[fO q,fO q];exact Paired.snoc r ⟨rfl,hb,ry⟩
theorem KT.keeps {H H':Hp} {kvs:List (List Key×V)} {xs:List (List Key×Addr×Value)} (r:KT H kvs xs) (ht:∀b ys,H b=some (.tup ys)->H' b=some (.tup ys)):KT H' kvs xs:=
 Paired.mapP r fun _ _ z=>⟨z.1,ht _ _ z.2.1,z.2.2⟩
section
variable {P:Program} {w:World} {H:Hp} {h:Heap} {a:Addr}
theorem El {u:HO} (ok:HOk P w H h) (e:Rd H a u):hX P w H h a u:=e.ok ok
theorem Cz {kvs:List (Key×V)} (ok:HOk P w H h) (e:Rd H a (.dK kvs)):kvs.length<=sizeLine/\(a==sysModules)=false/\∃vs,KV kvs vs/\h.DictOf (iO P w) a vs:=
 show hX P w H h a (.dK kvs)from El ok e
theorem Gs {kvs:List (Key×V)} (ok:HOk P w H h) (e:H a=some (.dK kvs)):kvs.length<=sizeLine/\(a==sysModules)=false/\∃vs,KV kvs vs/\h.DictOf (iO P w) a vs:=Cz ok (.inl e)
theorem yu {ks:List Key} (ok:HOk P w H h) (e:H a=some (.tup (ks.map kV))):(tupleKind (iO P w)).is h ks a:=by
 obtain⟨_,its,r,o,h1,h2,n,h3,_⟩:=(show hX P w H h a (.tup (ks.map kV))from ok a _ e)
 exact⟨o,its.toArray,n,h1,h2,h3,by simpa using tX r⟩
theorem CA {kvs:List (List Key×V)} (ok:HOk P w H h) (e:Rd H a (.dT kvs)):kvs.length<=sizeLine/\(a==sysModules)=false/\
  ∃xs,KT H kvs xs/\h.DictOfH (tupleKind (iO P w)) a xs:=by
 obtain⟨z,y,xs,r,o,es,ep,h1,h2,h3,h4,h5⟩:=(show hX P w H h a (.dT kvs)from El ok e)
 refine⟨z,y,xs,r,o,es,ep,h1,h2,h3,h4,fun x hx=>?_,h5⟩
 have all:∀{l:List (List Key×V)} {m:List (List Key×Addr×Value)},KT H l m->∀x∈m,(tupleKind (iO P w)).is h x.1 x.2.1:=by
  intro l m q
  induction q with
  |nil=>intro x hx;exact nomatch hx
  |@cons p q ps qs hq t ih=>
   intro x hx
   rcases ak.mp hx with e|hx
   ·subst e
    exact yu ok (by rw[<-hq.1];exact hq.2.1)
   ·exact ih x hx
 exact all r x hx
theorem Gu {kvs:List (List Key×V)} (ok:HOk P w H h) (e:H a=some (.dT kvs)):kvs.length<=sizeLine/\(a==sysModules)=false/\
  ∃xs,KT H kvs xs/\h.DictOfH (tupleKind (iO P w)) a xs:=CA ok (.inl e)
end
def xh (H:Hp) (a:Addr) (y:V) (r:Option V):Prop:=
 (∃kvs k,Rd H a (.dK kvs)/\y=kV k/\r=lK kvs k)\/∃kvs k b,Rd H a (.dT kvs)/\y= .ref b/\H b=some (.tup (k.map kV))/\r=lK kvs k
def Ak (H:Hp) (a:Addr) (y v:V) (H':Hp):Prop:=
 (∃kvs k,H a=some (.dK kvs)/\y=kV k/\kvs.length<sizeLine/\H'=upd H a (.dK (vY kvs k v)))\/
 ∃kvs k b,H a=some (.dT kvs)/\y= .ref b/\H b=some (.tup (k.map kV))/\kvs.length<sizeLine/\H'=upd H a (.dT (vY kvs k v))
theorem xh.k {H:Hp} {a:Addr} {kvs:List (Key×V)} {k:Key} (e:H a=some (.dK kvs)):xh H a (kV k) (lK kvs k):= .inl ⟨kvs,k,.inl e,rfl,rfl⟩
theorem xh.t {H:Hp} {a b:Addr} {kvs:List (List Key×V)} {k:List Key} (e:H a=some (.dT kvs)) (eb:H b=some (.tup (k.map kV))):xh H a (.ref b) (lK kvs k):= .inr ⟨kvs,k,b,.inl e,rfl,eb,rfl⟩
theorem Ak.k {H:Hp} {a:Addr} {kvs:List (Key×V)} {k:Key} {v:V} (e:H a=some (.dK kvs)) (hl:kvs.length<sizeLine):Ak H a (kV k) v (upd H a (.dK (vY kvs k v))):= .inl ⟨kvs,k,e,rfl,hl,rfl⟩
theorem Ak.t {H:Hp} {a b:Addr} {kvs:List (List Key×V)} {k:List Key} {v:V} (e:H a=some (.dT kvs)) (eb:H b=some (.tup (k.map kV))) (hl:kvs.length<sizeLine):
  Ak H a (.ref b) v (upd H a (.dT (vY kvs k v))):= .inr ⟨kvs,k,b,e,rfl,eb,hl,rfl⟩
section
variable {X:Cx} {pz:List (Addr×Obj)} {σ:St} {H:Hp} {s:Shared} {a:Addr} {y v:V} {u r:Value} {o:Option V} {A:Around} {E:Value->Shared->Prop}
theorem Inv.big (I:Inv X pz σ H s):sysModules<s.heap.objs.size:=by
 have h:mainGlobals<s.heap.objs.size:=(I.mod.glob.keeps I.bk).lt
 exact Nat.lt_trans (by decide) h
theorem yv {Q:Value->Shared->Prop} (hu:A.units+ 1<cLine) (I:Inv X pz σ H s) (g:xh H a y (some v)) (ry:gU y u) (h:∀w' s',Inv X pz σ H s'->gU v w'->Q w' s'):
  wpAny (model X.prog X.w) A (getItem (.ref a) u) Q E s:=by
 rcases g with⟨kvs,k,e,ey,l⟩|⟨kvs,k,b,e,ey,eb,l⟩
 ·subst ey
  obtain⟨z,hd,vs,rel,dd⟩:=Cz I.hok e
  obtain⟨w',hw,rw'⟩:=sr.some_of (v:=v) (o:=valueAt vs k) (by rw[l];exact rel.val k)
  exact wpAny_getItem_of (Aw ry) dd.mapOf hw (h w' _ (I.tok _) rw')
 ·subst ey
  cases(show u=Value.ref b from ry)
  obtain⟨z,hd,xs,rel,dd⟩:=CA I.hok e
  obtain⟨w',hw,rw'⟩:=sr.some_of (v:=v) (o:=(atKey xs k).map (·.2)) (by rw[l];exact rel.val k)
  obtain⟨p,hp,hp2⟩:=cF.mp hw
  refine wpAny_getItem_heap (tupleKind_room_in1 hu) (yu I.hok eb) dd hp ?_
  rw[hp2]
  exact h w' _ (I.tok _) rw'
theorem yw {h':Heap} {t':Nat} {ob:HO} (I:Inv X pz σ H s) (mu:Mut (H a)) (hs:Heap.SameBut a s.heap h') (he:∃q,h'.get? a=some q) (new:hX X.prog X.w (upd H a ob) h' a ob):
  Inv X pz σ (upd H a ob) {s with heap:=h',toks:=t'}:=
 I.write (x:=a) (e:=a) mu (.inl rfl) (fun b q hb z=>(hs.2 b hb).trans z) he new
theorem Em {P:Program} {w:World} {H':Hp} {h':Heap} {kvs:List (Key×V)} {vs:List (Key×Value)} (z:kvs.length<=sizeLine) (hd:(a==sysModules)=false) (rel:KV kvs vs) (dd:h'.DictOf (iO P w) a vs):
  hX P w H' h' a (.dK kvs):=⟨z,hd,vs,rel,dd⟩
theorem yx {H':Hp} {Q:Unit->Shared->Prop} (hu:A.units+ 1<cLine) (I:Inv X pz σ H s) (g:Ak H a y v H') (ry:gU y u) (rv:gU v r) (h:∀s',Inv X pz σ H' s'->Q () s'):
  wpAny (model X.prog X.w) A (setItem (.ref a) u r) Q E s:=by
 rcases g with⟨kvs,k,e,ey,l,eH⟩|⟨kvs,k,b,e,ey,eb,l,eH⟩
 ·subst ey eH
  obtain⟨z,hd,vs,rel,dd⟩:=Gs I.hok e
  have hz:vs.length<=sizeLine:=by rw[<-rel.length];exact z
  have hl:(vY kvs k v).length<=sizeLine:=by have:=mN kvs k v;lia
  refine wpAny_setItem_pairs (hsz:=hz) (Aw ry) dd fun h' dd' hs=>h _ ?_
  have he:∃q,h'.get? a=some q:=let⟨q,_,_,hq,_⟩:=dd';⟨q,hq⟩
  exact yw I (by rw[e];exact True.intro) hs he (Em hl hd (rel.put k rv) dd')
 ·subst ey eH
  cases(show u=Value.ref b from ry)
  obtain⟨z,hd,xs,rel,dd⟩:=Gu I.hok e
  have hz:xs.length<=sizeLine:=by rw[<-Paired.length rel];exact z
  have hl:(vY kvs k v).length<=sizeLine:=by have:=mN kvs k v;lia
  refine wpAny_setItem_heap (hsz:=hz) (tupleKind_room_in1 hu) (yu I.hok eb) dd fun h' dd' hs=>h _ ?_
  obtain⟨q,es,ep,hq,h2,h3,h4,_,h5⟩:=dd'
  refine yw I (by rw[e];exact True.intro) hs ⟨q,hq⟩ ⟨hl,hd,_,(rel.put k eb rv).keeps fun c ys ec=>?_,q,es,ep,hq,h2,h3,h4,h5⟩
  rw[eX (jw ec e (fun z=>nomatch z))]
  exact ec
end
section
variable {X:Cx} {pz:List (Addr×Obj)} {σ:St} {H:Hp} {s:Shared} {a:Addr} {kvs:List (Key×V)} {k:Key} {u:Value} {A:Around} {E:Value->Shared->Prop}
end
def Gv (i:Expr):Prop:=∀ov iv,subscripted i false ov iv=operate [ov,iv] (getItem ov iv)
theorem yy {prog:Program} {w:World} {A:Around} {E:Value->Shared->Prop} {s:Shared} {env:Env} {value slice:Expr} {pos:Pos} {T id:String} {Q:Value->Shared->Prop}
  (hl:typeLookup (.type T) "__getitem__"=pure (some (.builtin id))) (hs:Gv slice)
  (h:wpAny (model prog w) A (eval value env) (fun o s₁=>wpAny (model prog w) A (eval slice env) (fun i s₂=>s₂.TypeIs o T/\wpAny (model prog w) A (getItem o i) Q E s₂) E s₁) E s):
  wpAny (model prog w) A (eval (.Subscript value slice pos) env) Q E s:=by
 refine Subscript_ (wpAny_mono h (fun o s₁ h₁=>wpAny_mono h₁ (fun i s₂ h₂=>?_) fun _ _ x=>x) fun _ _ x=>x)
 obtain⟨hT,h₂⟩:=h₂
 unfold subscriptTail
 refine wpAny_bind ?_
 rw[getitemInPython_of_ne hT.not_modules]
 refine wpAny_bind (wpAny_specialOf hT hl ?_)
 have fin:wpAny (model prog w) A (subscripted slice false o i) (fun r s₃=>wpAny (model prog w) A (letTemporaryGo value o r >>= fun _=>pure r) Q E s₃) E s₂:=by
  rw[hs o i]
  exact wpAny_operating (wpAny_mono h₂ (fun r s₃ h₃=>wpAny_bind (wpAny_letTemporaryGo (wpAny_pure h₃))) fun _ _ x=>x)
 first
  |exact wpAny_pure (wpAny_bind fin)
  |exact wpAny_bind (wpAny_pure (wpAny_bind fin))
  |exact wpAny_bind fin
theorem vb {X:Cx} {pz:List (Addr×Obj)} {σ:St} {H:Hp} {s:Shared} {a:Addr} {y:V} {o:Option V} (I:Inv X pz σ H s) (g:xh H a y o):s.TypeIs (.ref a) "dict":=by
 rcases g with⟨kvs,k,e,_,_⟩|⟨kvs,k,b,e,_,_,_⟩
 ·obtain⟨_,_,vs,_,dd⟩:=Cz I.hok e
  exact dd.typeIs
 ·obtain⟨_,_,xs,_,dd⟩:=CA I.hok e
  exact dd.typeIs
def Gw (td ty:TE):TE:=fun σ H Q=>td σ H fun x H1=>ty σ H1 fun y H2=>∃a v,x= .ref a/\xh H2 a y (some v)/\Q v H2
def Gx (td ty tv:TE):TS:=fun D σ H=>tv σ H fun v H1=>td σ H1 fun x H2=>ty σ H2 fun y H3=>∃a H4,x= .ref a/\Ak H3 a y v H4/\D.nx σ H4
section
variable {X:Cx} {o i e value:Expr} {pos pos' tpos:Pos} {td ty tv:TE}
theorem yz (hu:X.A.units+ 1<cLine) (ho:PE X o td) (hi:PE X i ty) (hs:Gv i:=by exact fun _ _=>rfl):PE X (.Subscript o i pos) (Gw td ty):=by
 intro pz s σ H Q I h
 refine yy dH.lookup hs (thn (ho pz s σ H _ I h) fun u s1 ⟨x,H1,I1,rx,q1⟩=>thn (hi pz s1 σ H1 _ I1 q1) fun iv s2 ⟨y,H2,I2,ry,a,v,ex,g,q2⟩=>?_)
 subst ex
 obtain rfl:u=Value.ref a:=rx
 exact⟨vb I2 g,yv hu I2 g ry fun w' s3 I3 rw'=>⟨v,H2,I3,rw',q2⟩⟩
theorem vc (hu:X.A.units+ 1<cLine) (ho:PE X o td) (hi:PE X i ty) (hv:PE X value tv) (hs:swapsWith value (some (.Subscript o i pos')) pos.line X.env=pure false):
  PS X (.Assign [.Subscript o i pos'] value pos) (Gx td ty tv):=by
 intro pz s σ H D I h
 refine wpAny_Assign_Subscript (thn (hv pz s σ H _ I h) fun r s1 ⟨v,H1,I1,rv,q1⟩=>thn (ho pz s1 σ H1 _ I1 q1) fun u s2 ⟨x,H2,I2,rx,q2⟩=>thn (hi pz s2 σ H2 _ I2 q2) fun iv s3 ⟨y,H3,I3,ry,a,H4,ex,g,q3⟩=>?_) hs
 subst ex
 obtain rfl:u=Value.ref a:=rx
 exact yx hu I3 g ry rv fun s4 I4=>⟨σ,H4,I4,q3⟩
end
theorem Ax {P:Program} {w:World} {H:Hp} (h:Heap) (hb:sysModules<h.objs.size):hX P w H (h.push {cls:= .type "dict",data:= .dict #[]}) h.objs.size (.dK []):=
 ⟨cb _,beq_eq_false_iff_ne.mpr (Ne.symm (bY hb)),[],.nil,Heap.DictOf.new h⟩
def Eo:TE:=fun _ H Q=>∀p,H p=none->Q (.ref p) (upd H p (.dK []))
section
variable {X:Cx} {pos:Pos}
theorem v3:PE X (.Dict [] [] pos) Eo:=fun pz s σ H Q I h=>
 wpAny_Dict_empty ⟨.ref s.heap.objs.size,_,I.laid (a:=s.heap.objs.size) (o:= .dK []) (t':=s.toks) (fun _ _ q=>eK _ q) (b9 _) (Ax s.heap I.big),rfl,h _ (I.hok.fresh (b9 _))⟩
end
structure M1 (X:Cx) (o:Expr) (m:Str) (apos:Pos) (e:Expr) (cpos:Pos):Prop where
 base:attributeBase o m X.env (eval o X.env)=eval o X.env
 few:((backTo cpos (starEach [e] X.env)).all (fun x=>!x.1)&&(backToKw cpos (keywordEach [] X.env)).all (fun x=>x.1.isSome)
  &&decide (([e]:List Expr).length+([]:List Keyword).length+(if([]:List Keyword).isEmpty then 0 else 1)<30))=true
 line:(apos.endLine==cpos.line)=true
 trees:backTo cpos (starEach [e] X.env)=[(false,eval e X.env)]
structure M2 (X:Cx) (o:Expr) (m:Str) (apos:Pos) (e f:Expr) (cpos:Pos):Prop where
 base:attributeBase o m X.env (eval o X.env)=eval o X.env
 few:((backTo cpos (starEach [e,f] X.env)).all (fun x=>!x.1)&&(backToKw cpos (keywordEach [] X.env)).all (fun x=>x.1.isSome)
  &&decide (([e,f]:List Expr).length+([]:List Keyword).length+(if([]:List Keyword).isEmpty then 0 else 1)<30))=true
 line:(apos.endLine==cpos.line)=true
 trees:backTo cpos (starEach [e,f] X.env)=[(false,eval e X.env),(false,eval f X.env)]
section
variable {X:Cx} {pz:List (Addr×Obj)} {σ:St} {H:Hp} {s:Shared} {a:Addr} {y d:V} {u r:Value} {o:Option V} {A:Around} {E:Value->Shared->Prop}
end
section
variable {X:Cx} {o e f:Expr} {apos cpos:Pos} {td ty tx:TE}
end
section
variable {X:Cx} {pz:List (Addr×Obj)} {σ:St} {H:Hp} {s:Shared} {a:Addr} {kvs:List (Key×V)} {A:Around} {E:Value->Shared->Prop}
end
section
variable {X:Cx} {pz:List (Addr×Obj)} {σ:St} {H:Hp} {s:Shared} {a:Addr} {y:V} {u:Value} {A:Around} {E:Value->Shared->Prop}
end
end L2.Internal
namespace HT.Internal
open PySem PyProof.Rows
section
open PySem.SeqAt
open PySem.AutoSeq1 (wpAny_loadPart')
open PySem.MeetsSeq PySem.MeetsSeq2 PySem.MeetsSeq3
end
section
variable {prog:Program} {w:World} {A:Around} {E:Value->Shared->Prop} {s:Shared}
theorem cat_tup {t b:Addr} {vs ws:List Value} {Q:Value->Shared->Prop} (ht:IsTup s.heap t vs.toArray) (hb:IsTup s.heap b ws.toArray) (hv:vs≠[])
  (h1:ws=[]->Q (.ref t) s) (h2:ws≠[]->Q (.ref s.heap.objs.size) {s with heap:=s.heap.push {cls:= .type "tuple",data:= .seq (vs++ws).toArray}})
  (hsz:vs.length+ws.length<=sizeLine):wpAny (model prog w) A (binaryOp .Add (.ref t) (.ref b)) Q E s:=by
 obtain⟨⟨cls,dd,data,sl⟩,ho,hc,n,hd⟩:=id ht
 obtain⟨⟨cls2,dd2,data2,sl2⟩,ho2,hc2,n2,hd2⟩:=id hb
 simp only at hc hd hc2 hd2
 subst hc hd hc2 hd2
 have e:vs.toArray++ws.toArray=(vs++ws).toArray:=by simp
 by_cases hw:ws=[]
 ·exact concat_meets ⟨_,ho,rfl⟩ ⟨_,ho2,rfl⟩ noFill_tuple_add seq_tuple_add dI dJ (dM _ _)
   (tuple_addW1 t b vs.toArray ws.toArray n n2 dd dd2 sl sl2 (by simpa using hv) (by simp[hw])) ⟨ho,ho2,h1 hw⟩
 ·refine concat_meets ⟨_,ho,rfl⟩ ⟨_,ho2,rfl⟩ noFill_tuple_add seq_tuple_add dI dJ (dM _ _)
   (tuple_addW2 t b vs.toArray ws.toArray n n2 dd dd2 sl sl2 (by simpa using hv) (by simpa using hw) (by rw[ay,ay];exact hsz)) ⟨ho,ho2,?_⟩
  rw[e]
  exact h2 hw
def sIx (n d:Nat):Option Int->Nat
 |none=>d
 |some v=>if v<0 then(v+(n:Int)).toNat else min v.toNat n
theorem sIx_none (n d:Nat):sIx n d none=d:=rfl
theorem sIx_nat (n d k:Nat):sIx n d (some (k:Int))=min k n:=by
 show(if(k:Int)<0 then((k:Int)+(n:Int)).toNat else min (k:Int).toNat n)=min k n
 rw[fO (by lia),eg]
theorem Ep (n d:Nat) (hd:d<=n) (o:Option Int):sIx n d o<=n:=by
 cases o with
 |none=>exact hd
 |some v=>
  show(if v<0 then(v+(n:Int)).toNat else min v.toNat n)<=n
  by_cases hv:v<0
  ·rw[f6 hv];lia
  ·rw[fO hv];exact Nat.min_le_right _ _
theorem yA (v:Int) (n d:Nat):(if v<0 then max (v+(n:Int)) 0 else min v (n:Int))=((sIx n d (some v):Nat):Int):=by
 show(if v<0 then max (v+(n:Int)) 0 else min v (n:Int))=(((if v<0 then(v+(n:Int)).toNat else min v.toNat n):Nat):Int)
 by_cases hv:v<0
 ·simp only[f6 hv];lia
 ·simp only[fO hv];lia
theorem xi (lo hi:Option Int) (n:Nat):Builtin.Slice.sliceAdjust lo hi 1 (n:Int)=(((sIx n 0 lo:Nat):Int),((sIx n n hi:Nat):Int)):=by
 have h1:¬((1:Int)<0):=by lia
 unfold Builtin.Slice.sliceAdjust
 simp only[h1,if_false]
 refine Prod.ext ?_ ?_
 ·cases lo with
  |none=>rfl
  |some v=>exact yA v n 0
 ·cases hi with
  |none=>rfl
  |some v=>exact yA v n n
theorem xj (i j:Nat):Builtin.Slice.slicePlaces (i:Int) (j:Int) 1=j-i:=by
 unfold Builtin.Slice.slicePlaces
 have h1:(1:Int)>0:=by lia
 simp only[h1,if_true,Int.ediv_one]
 split<;>lia
theorem rS {v:Value} {o:Option Int} {Q:Option Int->Shared->Prop} (p:IsPart v o) (h:Q o s):wpAny (model prog w) A (Builtin.Slice.slicePartIndex v) Q E s:=by
 cases p with
 |none=>exact slicePart_none h
 |int i t=>exact slicePart_int h
theorem lB {sl:Addr} {vl vu:Value} {lo hi:Option Int} {n:Nat} {Q:Int×Int×Nat->Shared->Prop} (hs:s.heap.IsSliceOf sl vl vu .none) (pl:IsPart vl lo) (pu:IsPart vu hi)
  (h:Q (((sIx n 0 lo:Nat):Int),1,sIx n n hi-sIx n 0 lo) s):wpAny (model prog w) A (Builtin.Slice.sliceApplied (.ref sl) (pure (n:Int))) Q E s:=by
 obtain⟨os,hos,hcs,hds⟩:=id hs
 unfold Builtin.Slice.sliceApplied Builtin.Slice.sliceFields
 refine wpAny_bind (wpAny_bind (wpAny_field hos hds (x:=vl) rfl (wpAny_bind (wpAny_field hos hds (x:=vu) rfl (wpAny_bind (wpAny_field hos hds (x:= .none) rfl (wpAny_pure ?_)))))))
 refine wpAny_bind (slicePart_none ?_)
 show wpAny _ _ (if((1:Int)==0)=true then _ else _) _ _ s
 rw[fO (by decide)]
 refine wpAny_bind (rS pl (wpAny_bind (rS pu (wpAny_bind (wpAny_pure ?_)))))
 show wpAny _ _ (match Builtin.Slice.sliceAdjust lo hi 1 (n:Int)with|(lo,hi)=>pure (lo,(1:Int),Builtin.Slice.slicePlaces lo hi 1)) _ _ s
 rw[xi lo hi n]
 show wpAny _ _ (pure (((sIx n 0 lo:Nat):Int),(1:Int),Builtin.Slice.slicePlaces ((sIx n 0 lo:Nat):Int) ((sIx n n hi:Nat):Int) 1)) _ _ s
 rw[xj]
 exact wpAny_pure h
theorem Ay (xs:Array Value) (i k:Nat):((aa k).filterMap fun(m:Nat)=>xs[((i:Int)+(m:Int)*1).toNat]?).toArray=((xs.toList.drop i).take k).toArray:=by
 have e:(fun(m:Nat)=>xs[((i:Int)+(m:Int)*1).toNat]?)=fun m=>xs[i+m]?:=by
  funext m
  have:((i:Int)+(m:Int)*1).toNat=i+m:=by lia
  rw[this]
 rw[e]
 have:=pick_run xs i k
 rw[List.filterMap_map]at this
 have e2:((fun x=>xs[x]?)∘fun x=>i+x)=fun m=>xs[i+m]?:=rfl
 rw[e2]at this
 rw[this]
theorem getItem_tuple_cut {t sl:Addr} {items:Array Value} {vl vu:Value} {lo hi:Option Int} {Q:Value->Shared->Prop} (ht:IsTup s.heap t items) (hs:s.heap.IsSliceOf sl vl vu .none) (pl:IsPart vl lo) (pu:IsPart vu hi)
  (hw:¬(sIx items.size 0 lo=0/\sIx items.size items.size hi=items.size))
  (h:Q (.ref s.heap.objs.size) {s with heap:=s.heap.push {cls:= .type "tuple",data:= .seq ((items.toList.drop (sIx items.size 0 lo)).take (sIx items.size items.size hi-sIx items.size 0 lo)).toArray}})
  (hsz:items.size<=sizeLine):wpAny (model prog w) A (getItem (.ref t) (.ref sl)) Q E s:=by
 have htake:sizeOk (.seq ((items.toList.drop (sIx items.size 0 lo)).take (sIx items.size items.size hi-sIx items.size 0 lo)).toArray):=by
  show((items.toList.drop (sIx items.size 0 lo)).take (sIx items.size items.size hi-sIx items.size 0 lo)).toArray.size<=sizeLine
  rw[ay,aH,aU,ee]
  lia
 have hj:sIx items.size items.size hi<=items.size:=Ep _ _ (b9 _) hi
 obtain⟨os,hos,hcs,hds⟩:=id hs
 have hTs:s.TypeIs (.ref sl) "slice":=⟨os,hos,hcs⟩
 unfold getItem
 try with_reducible refine wpAny_holding ?_
 first|refine wpAny_bind (wpAny_pure ?_)|skip
 refine wpAny_bind (wpAny_sequenceKey ht.typeIs (by decide) ?_)
 refine wpAny_bind (wpAny_callSpecial?_slot (name:=Str.ofString "__getitem__") ht.typeIs eQ
  (wpAny_call_entry eQ ht.typeIs entry_tuple_getitem ?_ (args_tuple_getitem _ _)))
 show wpAny _ _ (Builtin.Tuple.tupleItemsOf (.ref t) >>= _) _ _ s
 refine wpAny_bind (tupleItemsOf_ ht ?_)
 refine wpAny_bind (wpAny_typeOf hTs ?_)
 rw[f6 (by decide)]
 refine wpAny_bind (lB hs pl pu ?_)
 have hno:¬((((sIx items.size 0 lo:Nat):Int)==0&&(1:Int)==1&&(sIx items.size items.size hi-sIx items.size 0 lo)==items.size)=true):=by
  intro q
  rw[dX,dX]at q
  have q1:((sIx items.size 0 lo:Nat):Int)=0:=eq_of_beq q.1.1
  have q2:sIx items.size items.size hi-sIx items.size 0 lo=items.size:=eq_of_beq q.2
  exact hw ⟨by lia,by lia⟩
 show wpAny _ _ (if(((sIx items.size 0 lo:Nat):Int)==0&&(1:Int)==1&&(sIx items.size items.size hi-sIx items.size 0 lo)==items.size)=true then _ else _) _ _ s
 rw[fO hno,Ay]
 first
  |exact wpAny_bind (m:=Builtin.Tuple.tupleExact _) (wpAny_newObj_type (wpAny_pure ⟨_,rfl,wpAny_pure h⟩) htake)
  |exact wpAny_bind (m:=Builtin.Tuple.tupleExact _) (wpAny_newObj_type (wpAny_bind (wpAny_pure (wpAny_pure ⟨_,rfl,wpAny_pure h⟩))) htake)
  |exact wpAny_bind (wpAny_bind (m:=Builtin.Tuple.tupleExact _) (wpAny_newObj_type (wpAny_pure (wpAny_pure ⟨_,rfl,wpAny_pure h⟩)) htake))
  |exact wpAny_bind (wpAny_bind (m:=Builtin.Tuple.tupleExact _) (wpAny_newObj_type (wpAny_pure ⟨_,rfl,wpAny_pure h⟩) htake))
end
end HT.Internal
namespace L2.Internal
open PySem PySem.Spec PyProof.Rows
abbrev TO:=St->Hp->(Option Int->Hp->Prop)->Prop
def PO (X:Cx) (e:Option Expr) (t:TO):Prop:=
 ∀(pz:List (Addr×Obj)) (s:Shared) (σ:St) (H:Hp) (Q:Option Int->Hp->Prop),Inv X pz σ H s->t σ H Q->
  wpAny (model X.prog X.w) X.A (evalPart e X.env) (fun u s'=>∃o H',Inv X pz σ H' s'/\IsPart u o/\Q o H') X.xe s
def CB:TO:=fun _ H Q=>Q none H
def Gy (t:TE):TO:=fun σ H Q=>t σ H fun x H1=>∃i,x= .int i/\Q (some i) H1
theorem rT {ns:List Int}:∀{us:List Value},gP (ns.map V.int) us->IntsAre us ns:=by
 induction ns with
 |nil=>intro us r;rw[aT]at r;cases r;exact .nil
 |cons n ns ih=>
  intro us r
  rw[aB]at r
  cases r with
  |cons r1 r2=>
   obtain⟨t,e⟩:=r1
   subst e
   exact .cons n t (ih r2)
section
variable {X:Cx} {e:Expr} {te:TE} {lo hi:Option Expr} {tl th:TO} {pos p2:Pos}
theorem oA:PO X none CB:=by
 intro pz s σ H Q I h
 rw[evalPart_none]
 exact wpAny_pure ⟨none,H,I,.none,h⟩
theorem lN (h:PE X e te):PO X (some e) (Gy te):=by
 intro pz s σ H Q I hw
 rw[evalPart_some]
 refine thn (h pz s σ H _ I hw) fun u s1 ⟨x,H1,I1,r1,q1⟩=>?_
 obtain⟨i,rfl,q⟩:=q1
 obtain⟨t,rfl⟩:=r1
 exact⟨some i,H1,I1,.int i t,q⟩
def SlR (X:Cx) (r:V->Option Int->Option Int->Hp->VK->Prop):Prop:=
 ∀(pz:List (Addr×Obj)) (s:Shared) (σ:St) (H:Hp) (x:V) (v vl vu:Value) (lo hi:Option Int) (sl:Addr) (Q:VK),Inv X pz σ H s->gU x v->s.heap.IsSliceOf sl vl vu .none->IsPart vl lo->IsPart vu hi->r x lo hi H Q->
  ∃T id,typeLookup (.type T) "__getitem__"=pure (some (.builtin id))/\s.TypeIs v T/\wpAny (model X.prog X.w) X.A (getItem v (.ref sl)) (EP X pz σ Q) X.xe s
def tSl (r:V->Option Int->Option Int->Hp->VK->Prop) (te:TE) (tl th:TO):TE:=fun σ H Q=>te σ H fun x H1=>tl σ H1 fun l H2=>th σ H2 fun u H3=>r x l u H3 Q
theorem kH {r:V->Option Int->Option Int->Hp->VK->Prop} (hr:SlR X r) (he:PE X e te) (hl:PO X lo tl) (hu:PO X hi th):PE X (.Subscript e (.Slice lo hi none p2) pos) (tSl r te tl th):=by
 intro pz s σ H Q I h
 refine Subscript_ (thn (he pz s σ H _ I h) fun v s1 ⟨x,H1,I1,r1,q1⟩=>?_)
 refine wpAny_Slice (thn (hl pz s1 σ H1 _ I1 q1) fun vl s2 ⟨l,H2,I2,pl,q2⟩=>thn (hu pz s2 σ H2 _ I2 q2) fun vu s3 ⟨u,H3,I3,pu,q3⟩=>?_)
 rw[evalPart_none]
 refine wpAny_pure ?_
 have I4:Inv X pz σ H3 {s3 with heap:=s3.heap.push {cls:= .type "slice",data:= .fields #[vl,vu,.none]}}:=I3.kept (t':=s3.toks) fun b ob q=>eK _ q
 obtain⟨T,id,hT,ht,hg⟩:=hr pz {s3 with heap:=s3.heap.push {cls:= .type "slice",data:= .fields #[vl,vu,.none]}} σ H3 x v vl vu l u s3.heap.objs.size Q I4 r1 (Heap.IsSliceOf.new ..) pl pu q3
 show wpAny (model X.prog X.w) X.A (subscriptTail e (.Slice lo hi none p2) v (.ref s3.heap.objs.size)) (EP X pz σ Q) X.xe {s3 with heap:=s3.heap.push {cls:= .type "slice",data:= .fields #[vl,vu,.none]}}
 exact tail_any (ops:=[.ref s3.heap.objs.size,v]) ht hT hg (by with_unfolding_all rfl)
def rh (xs:List V) (lo hi:Option Int):List V:=(xs.drop (HT.Internal.sIx xs.length 0 lo)).take (HT.Internal.sIx xs.length xs.length hi-HT.Internal.sIx xs.length 0 lo)
theorem qg (xs:List V) (lo hi:Option Int):(rh xs lo hi).length<=xs.length:=by
 unfold rh
 rw[aH,aU]
 lia
def rSlT (K:PySem.W.Frag):V->Option Int->Option Int->Hp->VK->Prop:=fun x lo hi H Q=>∃a xs,x= .ref a/\SqT K H a xs/\
 ¬(HT.Internal.sIx xs.length 0 lo=0/\HT.Internal.sIx xs.length xs.length hi=xs.length)/\∀p,H p=none->Q (.ref p) (upd H p (.tup (rh xs lo hi)))
theorem Er:SlR X (rSlT X.K):=by
 intro pz s σ H x v vl vu lo hi sl Q I rx hs pl pu h
 obtain⟨a,xs,rfl,hx,hw,q⟩:=h
 cases rx
 obtain⟨its,r,ht,hz⟩:=I.tuple hx
 have hlen:its.toArray.size=xs.length:=by rw[ay];exact r.length.symm
 refine⟨"tuple",_,eQ.lookup,ht.typeIs,?_⟩
 refine HT.Internal.getItem_tuple_cut ht hs pl pu (by rw[hlen];exact hw) ?_ (by rw[hlen];exact hz)
 rw[hlen]
 refine⟨.ref s.heap.objs.size,_,I.laid (t':=s.toks) (o:= .tup (rh xs lo hi)) (fun b ob q=>eK _ q) (b9 _) ?_,rfl,q _ (I.hok.fresh (b9 _))⟩
 exact⟨bZ (qg xs lo hi) hz,_,(r.drop (HT.Internal.sIx xs.length 0 lo)).take (HT.Internal.sIx xs.length xs.length hi-HT.Internal.sIx xs.length 0 lo),vK.new _ _⟩
theorem gP.nil_iff {xs:List V} {us:List Value} (r:gP xs us):us=[]↔xs=[]:=by
 cases r with
 |nil=>simp
 |cons _ _=>simp
end
def ixN (n:Nat) (i:Int):Option Nat:=if 0<=i then(if i<n then some i.toNat else none)else if-(n:Int)<=i then some (i+n).toNat else none
def atI {α:Type} (xs:List α) (i:Int):Option α:=(ixN xs.length i).bind fun j=>xs[j]?
theorem yB {n:Nat} {i:Int} {j:Nat} (h:ixN n i=some j):seqIndex? i n=some j/\j<n/\-(n:Int)<=i/\i<n:=by
 unfold ixN at h
 by_cases h0:0<=i
 ·rw[f6 h0]at h
  by_cases h1:i<n
  ·rw[f6 h1]at h
   have e:i.toNat=j:=cC.inj h
   exact⟨by rw[seqIndex_of h0 h1,e],by lia,by lia,h1⟩
  ·rw[fO h1]at h;cases h
 ·rw[fO h0]at h
  by_cases h1: -(n:Int)<=i
  ·rw[f6 h1]at h
   have e:(i+n).toNat=j:=cC.inj h
   exact⟨by rw[seqIndex_neg (by lia) h1,e],by lia,h1,by lia⟩
  ·rw[fO h1]at h;cases h
theorem vd {α:Type} {xs:List α} {i:Int} {v:α} (h:atI xs i=some v):∃j,seqIndex? i xs.length=some j/\xs[j]?=some v/\j<xs.length/\-(xs.length:Int)<=i/\i<xs.length:=by
 unfold atI at h
 cases e:ixN xs.length i with
 |none=>rw[e]at h;cases h
 |some j=>
  rw[e]at h
  obtain⟨h1,h2,h3,h4⟩:=yB e
  exact⟨j,h1,h,h2,h3,h4⟩
theorem eY {α:Type} {xs:List α} {j:Nat} {v:α} (h:xs[j]?=some v):atI xs (j:Int)=some v:=by
 have hj:j<xs.length:=(ar.mp h).1
 have e:ixN xs.length (j:Int)=some j:=by
  unfold ixN
  rw[f6 (by lia),f6 (by lia)];simp
 unfold atI;rw[e];exact h
def CC (b:Expr):Prop:=∀o i,subscripted b false o i=operate [o,i] (getItem o i)
def IxR (X:Cx) (r:R2):Prop:=
 ∀(value slice:Expr) (pz:List (Addr×Obj)) (s:Shared) (σ:St) (H:Hp) (x y:V) (v u:Value) (Q:VK),Inv X pz σ H s->gU x v->gU y u->r x y H Q->
  subscripted slice false v u=operate [v,u] (getItem v u)->wpAny (model X.prog X.w) X.A (subscriptTail value slice v u) (EP X pz σ Q) X.xe s
def MtR (X:Cx) (id:String) (r:V->List V->Hp->VK->Prop):Prop:=
 ∀(pz:List (Addr×Obj)) (s:Shared) (σ:St) (H:Hp) (x:V) (xs:List V) (v:Value) (us:List Value) (Q:VK),Inv X pz σ H s->gU x v->gP xs us->r x xs H Q->
  wpAny (model X.prog X.w) X.A (call (.builtin id) (v::us)) (EP X pz σ Q) X.xe s
section
variable {X:Cx} {a b:Expr} {ta tb:TE} {pos:Pos}
theorem fh {r:R2} (hr:IxR X r) (ha:PE X a ta) (hb:PE X b tb) (hs:CC b:=by exact fun _ _=>rfl):PE X (.Subscript a b pos) (tOp r ta tb):=by
 intro pz s σ H Q I h
 exact Subscript_ (Gg ha hb I h fun v u s2 x y H2 I2 rx ry q=>hr a b pz s2 σ H2 x y v u Q I2 rx ry q (hs _ _))
def rIxL (K:PySem.W.Frag):R2:=fun x y H Q=>∃p xs i v,x= .ref p/\y= .int i/\SqL K H p xs/\atI xs i=some v/\Q v H
def rIxT (K:PySem.W.Frag):R2:=fun x y H Q=>∃p xs i v,x= .ref p/\y= .int i/\SqT K H p xs/\atI xs i=some v/\Q v H
def rIxS:R2:=fun x y H Q=>∃z i c,x= .str z/\y= .int i/\z.length<=sizeLine/\atI z.cps.toList i=some c/\Q (.str ⟨#[c]⟩) H
theorem CD:IxR X (rIxL X.K):=by
 intro value slice pz s σ H x y v u Q I rx ry h hs
 obtain⟨p,xs,i,z,rfl,rfl,hq,he,q⟩:=h
 cases rx
 obtain⟨t,rfl⟩:=ry
 obtain⟨its,r,pl,hz⟩:=I.list hq
 obtain⟨j,h1,h2,h3,h4,h5⟩:=vd he
 obtain⟨w,ew,rw'⟩:=r.get h2
 have hl:=r.length
 have hn:=rQ
 have fin:EP X pz σ Q w s:=⟨z,H,I,rw',q⟩
 by_cases h0:0<=i
 ·have hj:i.toNat=j:=by
   rw[seqIndex_of h0 h5]at h1
   exact cC.inj h1
  exact item_listR pl.isList h0 (by lia) (by rw[hj];simpa using ew) fin hs
 ·have hj:(i+(its.toArray.size:Int)).toNat=j:=by
   rw[seqIndex_neg (by lia) h4]at h1
   rw[ay,<-hl]
   exact cC.inj h1
  exact subscriptTail_builtinR (x:=w) pl.isList.typeIs slot_list_getitem.lookup
   (wpAny_getItem_list_neg (Q:=fun r s'=>r=w/\EP X pz σ Q r s') pl.isList (by lia) (by rw[ay]<;>lia) (by lia) (by rw[hj];simpa using ew) ⟨rfl,fin⟩) hs
theorem Es:IxR X (rIxT X.K):=by
 intro value slice pz s σ H x y v u Q I rx ry h hs
 obtain⟨p,xs,i,z,rfl,rfl,hq,he,q⟩:=h
 cases rx
 obtain⟨t,rfl⟩:=ry
 obtain⟨its,r,pl,hz⟩:=I.tuple hq
 obtain⟨j,h1,h2,h3,h4,h5⟩:=vd he
 obtain⟨w,ew,rw'⟩:=r.get h2
 have hl:=r.length
 have hn:=rQ
 have fin:EP X pz σ Q w s:=⟨z,H,I,rw',q⟩
 exact subscriptTail_builtinR (x:=w) pl.typeIs slot_tuple_getitem.lookup
  (getItem_tuple (j:=j) (Q:=fun r s'=>r=w/\EP X pz σ Q r s') pl (by lia) (by lia) (by rw[ay,<-hl];exact h1) (by simpa using ew) ⟨rfl,fin⟩) hs
theorem yC:IxR X rIxS:=by
 intro value slice pz s σ H x y v u Q I rx ry h hs
 obtain⟨z,i,c,rfl,rfl,hz,he,q⟩:=h
 obtain⟨t,rfl⟩:=rx
 obtain⟨t',rfl⟩:=ry
 obtain⟨j,h1,h2,h3,h4,h5⟩:=vd he
 have hl:z.cps.toList.length=z.length:=by simp[Str.length]
 rw[hl]at h1 h4 h5
 have hn:=rQ
 exact tail_any (typeIs_str s z t) slot_str_getitem.lookup (getItem_str (c:=c) (by
  have e1:decide (i< -(2^63:Int))=false:=gC (by lia)
  have e2:decide (i≥2^63)=false:=gC (by lia)
  rw[e1,e2,Bool.or_false]) (by rw[h1];simpa using h2) ⟨.str ⟨#[c]⟩,H,I.tok _,⟨_,rfl⟩,q⟩) hs
theorem xk (its:List Value) (n j:Nat) (u:Value):Obj.mapSeq (·.setIfInBounds j u) {cls:= .type "list",data:= .seq its.toArray n}={cls:= .type "list",data:= .seq (its.set j u).toArray n}:=by
 simp[Obj.mapSeq]
theorem Inv.lst {pz:List (Addr×Obj)} {σ:St} {H:Hp} {s:Shared} {p:Addr} {xs:List V} (I:Inv X pz σ H s) (h:H p=some (.lst xs)):
  ∃(its:List Value) (n:Nat),gP xs its/\s.heap.get? p=some {cls:= .type "list",data:= .seq its.toArray n}/\xs.length<=sizeLine:=by
 obtain⟨z,its,n,r,e⟩:=I.hok p _ h
 exact⟨its,n,r,e,z⟩
theorem Inv.lstUpd {pz:List (Addr×Obj)} {σ:St} {H:Hp} {s:Shared} {p:Addr} {xs ys:List V} {its its':List Value} {n n':Nat} {f:Obj->Obj} (I:Inv X pz σ H s) (h:H p=some (.lst xs))
  (ho:s.heap.get? p=some {cls:= .type "list",data:= .seq its.toArray n}) (hf:f {cls:= .type "list",data:= .seq its.toArray n}={cls:= .type "list",data:= .seq its'.toArray n'}) (r:gP ys its') (hz:ys.length<=sizeLine) (t:Nat):
  Inv X pz σ (upd H p (.lst ys)) {s with heap:=s.heap.update p f,toks:=t}:=by
 have e:(s.heap.update p f).get? p=some {cls:= .type "list",data:= .seq its'.toArray n'}:=by
  rw[eN f ho (by rw[hf]<;>rfl),hf]
 refine I.write (x:=p) (e:=p) (by rw[h];trivial) (.inl rfl) (fun b u hb q=>(eO _ _ (Ne.symm hb)).trans q) ⟨_,e⟩ ?_
 exact⟨hz,its',n',r,e⟩
def Et:V->V->V->Hp->(Hp->Prop)->Prop:=fun o i v H Q=>∃p xs k j,o= .ref p/\i= .int k/\H p=some (.lst xs)/\ixN xs.length k=some j/\Q (upd H p (.lst (xs.set j v)))
theorem mz:Ht X Et:=by
 intro pz s σ H o i v ov iv u Q I ro ri rv h
 obtain⟨p,xs,k,j,rfl,rfl,hp,hj,q⟩:=h
 cases ro
 obtain⟨t,rfl⟩:=ri
 obtain⟨its,n,r,ho,hz⟩:=I.lst hp
 obtain⟨h1,h2,h3,h4⟩:=yB hj
 have hl:=r.length
 have hn:=rQ
 have I':Inv X pz σ (upd H p (.lst (xs.set j v))) {s with heap:=s.heap.update p (Obj.mapSeq (·.setIfInBounds j u))}:=
  I.lstUpd hp ho (xk its n j u) (r.set rv j) (by rw[List.length_set];exact hz) s.toks
 by_cases h0:0<=k
 ·have hk:k.toNat=j:=by
   rw[seqIndex_of h0 h4]at h1
   exact cC.inj h1
  exact PySem.W.ki_setAt ho h0 (by lia) (by rw[ay,<-hl];exact h4) (by rw[hk];exact⟨_,I',q⟩)
 ·have hk:(k+(its.toArray.size:Int)).toNat=j:=by
   rw[seqIndex_neg (by lia) h3]at h1
   rw[ay,<-hl]
   exact cC.inj h1
  exact PySem.W.ki_setBack ho (by lia) (by rw[ay,<-hl];exact h3) (by lia) (by rw[hk];exact⟨_,I',q⟩)
theorem tY (lo hi:Option Int) (n:Nat):(sliceBounds lo hi none n).1=((HT.Internal.sIx n 0 lo:Nat):Int)/\(sliceBounds lo hi none n).2.1=((HT.Internal.sIx n n hi:Nat):Int)/\(sliceBounds lo hi none n).2.2=1:=by
 refine⟨?_,?_,rfl⟩
 ·cases lo with
  |none=>simp[sliceBounds,HT.Internal.sIx]
  |some i=>
   simp only[sliceBounds,HT.Internal.sIx,Option.getD_none,show(1:Int)>0 by decide,if_true]
   by_cases h:i<0
   ·simp only[h,if_true]<;>lia
   ·simp only[h,if_false]<;>lia
 ·cases hi with
  |none=>simp[sliceBounds,HT.Internal.sIx]
  |some i=>
   simp only[sliceBounds,HT.Internal.sIx,Option.getD_none,show(1:Int)>0 by decide,if_true]
   by_cases h:i<0
   ·simp only[h,if_true]<;>lia
   ·simp only[h,if_false]<;>lia
theorem sy (its:List Value) (lo hi:Option Int):slicePick its.toArray lo hi none=((its.drop (HT.Internal.sIx its.length 0 lo)).take (HT.Internal.sIx its.length its.length hi-HT.Internal.sIx its.length 0 lo)).toArray:=by
 obtain⟨h1,h2,h3⟩:=tY lo hi its.toArray.size
 unfold slicePick
 rw[h1,h2,h3]
 simp only[sliceRange_one,pick_run,ay]<;>rfl
def rSlL (K:PySem.W.Frag):V->Option Int->Option Int->Hp->VK->Prop:=fun x lo hi H Q=>∃a xs,x= .ref a/\SqL K H a xs/\∀p,H p=none->Q (.ref p) (upd H p (.lst (rh xs lo hi)))
theorem sA:SlR X (rSlL X.K):=by
 intro pz s σ H x v vl vu lo hi sl Q I rx hs pl pu h
 obtain⟨a,xs,rfl,hx,q⟩:=h
 cases rx
 obtain⟨its,r,ht,hz⟩:=I.list hx
 have hlen:=r.length
 refine⟨"list",_,slot_list_getitem.lookup,ht.isList.typeIs,?_⟩
 refine wpAny_getItem_list_slice ht.isList hs pl pu .none (by simp) ?_ (by rw[ay]<;>lia)
 rw[sy,<-hlen]
 refine⟨.ref s.heap.objs.size,_,I.laid (t':=s.toks) (o:= .lst (rh xs lo hi)) (fun b ob q=>eK _ q) (b9 _) ?_,rfl,q _ (I.hok.fresh (b9 _))⟩
 exact⟨bZ (qg xs lo hi) hz,_,0,(r.drop (HT.Internal.sIx xs.length 0 lo)).take (HT.Internal.sIx xs.length xs.length hi-HT.Internal.sIx xs.length 0 lo),eJ _ rfl⟩
def yD:V->Bool
 | .non=>true
 | .bl _=>true
 | .int _=>true
 | .str _=>true
 |_=>false
def eqV:V->V->Bool
 | .non,.non=>true
 | .bl a,.bl b=>a==b
 | .bl a,.int b=>(if a then 1 else 0)==b
 | .int a,.bl b=>a==(if b then 1 else 0)
 | .int a,.int b=>a==b
 | .str a,.str b=>a==b
 |_,_=>false
theorem v5 {A:Around} {s:Shared} {y x:V} {u v:Value} (ry:gU y u) (rx:gU x v) (fy:yD y=true) (fx:yD x=true):SeqAt.EqAt A s u v (eqV y x):=by
 cases y with
 |non=>
  cases ry
  cases x with
  |non=>cases rx;exact SeqAt.EqAt.same _
  |bl b=>cases rx;exact SeqAt.EqAt.none_bool b
  |int b=>obtain⟨t,rfl⟩:=rx;exact SeqAt.EqAt.none_int b t
  |str b=>obtain⟨t,rfl⟩:=rx;exact SeqAt.EqAt.none_str b t
  |_=>exact absurd (show false=true from fx) dU
 |bl a=>
  cases ry
  cases x with
  |non=>cases rx;exact SeqAt.EqAt.bool_none a
  |bl b=>cases rx;exact SeqAt.EqAt.bool_bool a b
  |int b=>obtain⟨t,rfl⟩:=rx;exact SeqAt.EqAt.bool_int a b t
  |str b=>obtain⟨t,rfl⟩:=rx;exact SeqAt.EqAt.bool_str a b t
  |_=>exact absurd (show false=true from fx) dU
 |int a=>
  obtain⟨t',rfl⟩:=ry
  cases x with
  |non=>cases rx;exact SeqAt.EqAt.int_none a t'
  |bl b=>cases rx;exact SeqAt.EqAt.int_bool a t' b
  |int b=>obtain⟨t,rfl⟩:=rx;exact SeqAt.EqAt.int_int a t' b t
  |str b=>obtain⟨t,rfl⟩:=rx;exact SeqAt.EqAt.int_str a t' b t
  |_=>exact absurd (show false=true from fx) dU
 |str a=>
  obtain⟨t',rfl⟩:=ry
  cases x with
  |non=>cases rx;exact SeqAt.EqAt.str_none a t'
  |bl b=>cases rx;exact SeqAt.EqAt.str_bool a t' b
  |int b=>obtain⟨t,rfl⟩:=rx;exact SeqAt.EqAt.str_int a t' b t
  |str b=>obtain⟨t,rfl⟩:=rx;exact SeqAt.EqAt.str_str a t' b t
  |_=>exact absurd (show false=true from fx) dU
 |_=>exact absurd (show false=true from fy) dU
def inV (x:V) (xs:List V):Bool:=xs.any fun y=>eqV y x
theorem fX:ox X (.builtin "len") (fun xs H Q=>∃p ys,xs=[.ref p]/\(SqL X.K H p ys\/SqT X.K H p ys)/\Q (.int ys.length) H):=by
 intro pz s σ H xs us Q I r h
 obtain⟨p,ys,rfl,hq,q⟩:=h
 obtain⟨u,rfl,rx⟩:=qc r
 cases rx
 have hn:=rQ
 rcases hq with hq|hq
 ·obtain⟨its,r',pl,hz⟩:=I.list hq
  have hlen:=r'.length
  exact Calls.call_len_list pl.isList (by simp only[ay]<;>lia) ⟨.int ys.length,H,I.tok _,⟨s.toks+ 1,by rw[ay,hlen]⟩,q⟩
 ·obtain⟨its,r',pl,hz⟩:=I.tuple hq
  have hlen:=r'.length
  exact len_tuple pl (by simp only[ay]<;>lia) ⟨.int ys.length,H,I.tok _,⟨s.toks+ 1,by rw[ay,hlen]⟩,q⟩
theorem iH:ox X (.type "list") (fun xs H Q=>∃p ys,xs=[.ref p]/\(SqL X.K H p ys\/SqT X.K H p ys)/\∀l,H l=none->Q (.ref l) (upd H l (.lst ys))):=by
 intro pz s σ H xs us Q I r h
 obtain⟨p,ys,rfl,hq,q⟩:=h
 obtain⟨u,rfl,rx⟩:=qc r
 cases rx
 have fin:∀(its:List Value),gP ys its->ys.length<=sizeLine->∀(h':Heap) (c':Nat),(∀b o',s.heap.get? b=some o'->h'.get? b=some o')->
   h'.get? s.heap.objs.size=some {cls:= .type "list",dict:=none,data:= .seq its.toArray c',slots:=#[]}->EP X pz σ Q (.ref s.heap.objs.size) {s with heap:=h'}:=fun its r' hz h' c' kp e=>
  ⟨.ref s.heap.objs.size,_,I.laid (t':=s.toks) kp (b9 _) (show hX X.prog X.w _ h' _ (.lst ys)from⟨hz,its,c',r',e⟩),rfl,q _ (I.hok.fresh (b9 _))⟩
 rcases hq with hq|hq
 ·obtain⟨its,r',pl,hz⟩:=I.list hq
  have hlen:=r'.length
  obtain⟨o,ho,hc,n,hd⟩:=pl.isList
  exact call_list_seq p (.inl rfl) ho hc hd (fun h' c' kp e=>fin its r' hz h' c' kp e) (by simp only[ay]<;>lia)
 ·obtain⟨its,r',pl,hz⟩:=I.tuple hq
  have hlen:=r'.length
  obtain⟨o,ho,hc,n,hd⟩:=pl
  exact call_list_seq p (.inr rfl) ho hc hd (fun h' c' kp e=>fin its r' hz h' c' kp e) (by simp only[ay]<;>lia)
theorem gw:ox X (.type "tuple") (fun xs H Q=>∃p ys,xs=[.ref p]/\((SqL X.K H p ys/\∀l,H l=none->Q (.ref l) (upd H l (.tup ys)))\/(SqT X.K H p ys/\Q (.ref p) H))):=by
 intro pz s σ H xs us Q I r h
 obtain⟨p,ys,rfl,h⟩:=h
 obtain⟨u,rfl,rx⟩:=qc r
 cases rx
 rcases h with⟨hq,q⟩|⟨hq,q⟩
 ·obtain⟨its,r',pl,hz⟩:=I.list hq
  have hlen:=r'.length
  refine call_tuple_list pl.isList (fun h' kp=>?_) (by simp only[ay]<;>lia)
  have I1:Inv X pz σ H {s with heap:=h'}:=I.kept (t':=s.toks) kp
  have I2:Inv X pz σ (upd H h'.objs.size (.tup ys)) {s with heap:=h'.push {cls:= .type "tuple",data:= .seq its.toArray}}:=
   I1.laid (t':=s.toks) (fun b o e=>eK _ e) (b9 _) (show hX X.prog X.w _ _ _ (.tup ys)from⟨hz,its,r',vK.new _ _⟩)
  exact⟨.ref h'.objs.size,_,I2,rfl,q _ (I1.hok.fresh (b9 _))⟩
 ·obtain⟨its,r',pl,hz⟩:=I.tuple hq
  exact call_tuple_same pl ⟨.ref p,H,I,rfl,q⟩
def tyV (K:PySem.W.Frag) (T:String) (x:V) (H:Hp):Prop:=match x with
 | .str _=>T="str"
 | .int _=>T="int"
 | .ref p=>(T="list"/\∃xs,SqL K H p xs)\/(T="tuple"/\∃o,K.lookup p=some o/\o.cls= .type "tuple"/\o.dict=none)\/
   (T="dict"/\((∃kvs,H p=some (.dK kvs))\/∃kvs,H p=some (.dT kvs)))\/(T="set"/\∃S n,H p=some (.set S n))
 |_=>False
theorem Bp {pz:List (Addr×Obj)} {σ:St} {H:Hp} {s:Shared} {T:String} {x:V} {v:Value} (I:Inv X pz σ H s) (r:gU x v) (ty:tyV X.K T x H):
  s.TypeIs v T/\∀a,v= .ref a->∃ob,s.heap.get? a=some ob/\ob.dict=none:=by
 cases x with
 |str z=>
  obtain⟨t,rfl⟩:=r
  cases(show T="str" from ty)
  exact⟨typeIs_str s z t,fun _ e=>nomatch e⟩
 |int i=>
  obtain⟨t,rfl⟩:=r
  cases(show T="int" from ty)
  exact⟨typeIs_int s i t,fun _ e=>nomatch e⟩
 |ref p=>
  cases r
  rcases ty with⟨rfl,xs,hq⟩|⟨rfl,o,hk,hc,hd⟩|⟨rfl,hk⟩|⟨rfl,S,n,hk⟩
  ·obtain⟨its,_,pl,_⟩:=I.list hq
   refine⟨pl.isList.typeIs,fun a e=>?_⟩
   cases e
   obtain⟨o,n,e,c,hd,_⟩:=pl
   exact⟨o,e,hd⟩
  ·refine⟨⟨o,I.kIn p o hk,hc⟩,fun a e=>?_⟩
   cases e
   exact⟨o,I.kIn _ o hk,hd⟩
  ·have z:∃o,s.heap.get? p=some o/\o.ExactDict:=by
    rcases hk with⟨kvs,hk⟩|⟨kvs,hk⟩
    ·obtain⟨_,_,_,_,o,_,_,e,ex,_⟩:=I.hok p _ hk
     exact⟨o,e,ex⟩
    ·obtain⟨_,_,_,_,o,_,_,e,ex,_⟩:=I.hok p _ hk
     exact⟨o,e,ex⟩
   obtain⟨o,e,ex⟩:=z
   refine⟨⟨o,e,ex.1⟩,fun a e2=>?_⟩
   cases e2
   exact⟨o,e,ex.2.1⟩
  ·obtain⟨o,_,_,_,e,ex,_⟩:=I.hok p _ hk
   refine⟨⟨o,e,ex.1⟩,fun a e2=>?_⟩
   cases e2
   exact⟨o,e,ex.2.1⟩
 |_=>exact False.elim ty
def tBM0 (K:PySem.W.Frag) (T:String) (r:V->List V->Hp->VK->Prop) (to:TE):TE:=fun σ H Q=>to σ H fun x H1=>tyV K T x H1/\r x [] H1 Q
def tBM (K:PySem.W.Frag) (T:String) (r:V->List V->Hp->VK->Prop) (to:TE) (t:TA):TE:=fun σ H Q=>to σ H fun x H1=>tyV K T x H1/\t σ H1 fun xs H2=>r x xs H2 Q
variable {o e:Expr} {es:List Expr} {to:TE} {t:TA} {name:Str} {apos cpos:Pos} {T id:String} {r:V->List V->Hp->VK->Prop}
theorem Br (pa:PlainAttrs T) (slot:Slot T name id) (hty:typeOf (.builtin id)=pure (.type "method_descriptor")) (hm:MtR X id r) (ho:PE X o to)
  (hbase:autoParam (attributeBase o name X.env (eval o X.env)=eval o X.env) L2.Internal.auR._auto_1) (hline:autoParam ((apos.endLine==cpos.line)=true) L2.Internal.auR._auto_1):PE X (.Call (.Attribute o name apos) [] [] cpos) (tBM0 X.K T r to):=by
 intro pz s σ H Q I h
 refine wpAny_Call_method0_late hbase hline (thn (ho pz s σ H _ I h) fun v s1 ⟨x,H1,I1,r1,ty,q1⟩=>?_)
 obtain⟨h1,h2⟩:=Bp I1 r1 ty
 exact⟨T,id,pa,slot,hty,h1,h2,Calls.callWith_builtin rfl (PySem.evalArgs_none (hm pz s1 σ H1 x [] v [] Q I1 r1 .nil q1))⟩
theorem lO (pa:PlainAttrs T) (slot:Slot T name id) (hty:typeOf (.builtin id)=pure (.type "method_descriptor")) (hm:MtR X id r) (ho:PE X o to) (ha:PA X (e::es) t)
  (hbase:autoParam (attributeBase o name X.env (eval o X.env)=eval o X.env) L2.Internal.auR._auto_1)
  (hfew:((backTo cpos (starEach (e::es) X.env)).all (fun x=>!x.1)&&(backToKw cpos (keywordEach [] X.env)).all (fun x=>x.1.isSome)
   &&decide ((e::es).length+([]:List Keyword).length+(if([]:List Keyword).isEmpty then 0 else 1)<30))=true:=by rfl)
  (hline:autoParam ((apos.endLine==cpos.line)=true) L2.Internal.auR._auto_1) (hs:autoParam (starEach (e::es) X.env=(false,eval e X.env)::starEach es X.env) L2.Internal.auR._auto_1) (hplain:autoParam ((backTo cpos (starEach es X.env)).any (·.1)=false) L2.Internal.auR._auto_1):
  PE X (.Call (.Attribute o name apos) (e::es) [] cpos) (tBM X.K T r to t):=by
 intro pz s σ H Q I h
 refine wpAny_Call_method_late hbase hfew hline rfl (thn (ho pz s σ H _ I h) fun v s1 ⟨x,H1,I1,r1,ty,q1⟩=>?_)
 obtain⟨h1,h2⟩:=Bp I1 r1 ty
 refine⟨T,id,pa,slot,hty,h1,h2,?_⟩
 have hA:=ha cpos pz s1 σ H1 _ I1 q1
 rw[hs]at hA⊢
 refine Calls.callWith_builtin (by show(false||(backTo cpos (starEach es X.env)).any (·.1))=false;rw[hplain]<;>rfl) (Calls.evalArgs_plain ?_)
 exact thn hA fun us s2 ⟨vs,H2,I2,r2,q2⟩=>hm pz s2 σ H2 x vs v us Q I2 r1 r2 q2
end
def MtM (X:Cx) (id:String) (r:V->List V->Hp->VK->Prop):Prop:=
 ∀(pz:List (Addr×Obj)) (s:Shared) (σ:St) (H:Hp) (x:V) (xs:List V) (v:Value) (us:List Value) (Q:VK),Inv X pz σ H s->gU x v->gP xs us->r x xs H Q->
  wpAny (model X.prog X.w) X.A (call (.builtin id) (v::us)) (EP X pz σ Q) X.xe s
theorem gP.one:∀{x:V} {us:List Value},gP [x] us->∃u,us=[u]/\gU x u
 |_,_,.cons r .nil=>⟨_,rfl,r⟩
theorem gP.zero:∀{us:List Value},gP [] us->us=[]
 |_,.nil=>rfl
theorem gP.dropLast {xs:List V} {us:List Value} (h:gP xs us):gP xs.dropLast us.dropLast:=by
 induction h with
 |nil=>exact .nil
 |cons r t ih=>
  cases t with
  |nil=>exact .nil
  |cons q t'=>exact .cons r ih
theorem xl {α:Type} (l:List α):l.eraseIdx (l.length-1)=l.dropLast:=by
 induction l with
 |nil=>rfl
 |cons a r ih=>
  cases r with
  |nil=>rfl
  |cons b r=>
   have e:(a::b::r).length-1=((b::r).length-1)+ 1:=by
    have h1:(a::b::r).length=r.length+ 2:=rfl
    have h2:(b::r).length=r.length+ 1:=rfl
    lia
   rw[e,List.eraseIdx_cons_succ,ih]
   all_goals rfl
section
variable {X:Cx} {pz:List (Addr×Obj)} {σ:St} {H:Hp} {s:Shared} {l b:Addr} {xs ys zs:List V}
theorem Inv.lset {its its':List Value} {n:Nat} {f:Array Value->Array Value} {t':Nat} (I:Inv X pz σ H s) (hH:H l=some (.lst xs))
  (e:s.heap.get? l=some {cls:= .type "list",data:= .seq its.toArray n}) (hf:f its.toArray=its'.toArray) (hv:gP ys its') (hz:ys.length<=sizeLine):
  Inv X pz σ (upd H l (.lst ys)) {s with heap:=s.heap.update l (Obj.mapSeq f),toks:=t'}:=by
 have q:=PySem.IsL.update e f
 rw[hf]at q
 refine I.write (x:=l) (e:=l) (by rw[hH];exact trivial) (.inl rfl) (fun b' u hb hu=>(eO s.heap (Obj.mapSeq f) (Ne.symm hb)).trans hu) ⟨_,q⟩ ?_
 exact⟨hz,its',_,hv,q⟩
theorem Inv.lnew {its:List Value} {t':Nat} (I:Inv X pz σ H s) (hv:gP ys its) (hz:ys.length<=sizeLine):
  Inv X pz σ (upd H s.heap.objs.size (.lst ys)) {s with heap:=s.heap.push {cls:= .type "list",data:= .seq its.toArray},toks:=t'}:=
 I.laid (fun _ _ q=>eK _ q) (b9 _) ⟨hz,its,0,hv,eJ _ rfl⟩
theorem Inv.fresh (I:Inv X pz σ H s):H s.heap.objs.size=none:=I.hok.fresh (b9 _)
theorem Inv.lstM (I:Inv X pz σ H s) (hH:H l=some (.lst xs)):xs.length<=sizeLine/\∃(its:List Value) (n:Nat),gP xs its/\xs.length=its.length/\s.heap.get? l=some {cls:= .type "list",data:= .seq its.toArray n}:=by
 obtain⟨z,its,n,r,e⟩:=I.hok l _ hH
 exact⟨z,its,n,r,r.length,e⟩
end
section
variable {X:Cx}
def yE:V->List V->Hp->VK->Prop:=fun x vs H Q=>∃l xs y,x= .ref l/\vs=[y]/\H l=some (.lst xs)/\xs.length<sizeLine/\Q .non (upd H l (.lst (xs++[y])))
theorem f9:MtM X "list.append" yE:=by
 intro pz s σ H x vs v us Q I rx rv h
 obtain⟨l,xs,y,rfl,rfl,hH,hz,q⟩:=h
 cases rx
 obtain⟨u,rfl,ru⟩:=rv.one
 obtain⟨z,its,n,r,hl,e⟩:=I.lstM hH
 refine call_meets F.slot_list_append ⟨_,e,rfl⟩ F.entry_list_append (F.args_list_append_2 _ _) (PySem.list_append l its.toArray n u (by rw[ay];lia)) ⟨e,?_⟩
 refine⟨.non,_,I.lset (its':=its++[u]) hH e (by simp) (r.append (.cons ru .nil)) ?_,rfl,q⟩
 rw[aO,aV]
 lia
def rPop:V->List V->Hp->VK->Prop:=fun x vs H Q=>∃l xs y,x= .ref l/\vs=[]/\H l=some (.lst xs)/\xs[xs.length-1]?=some y/\Q y (upd H l (.lst xs.dropLast))
theorem Bs:MtM X "list.pop" rPop:=by
 intro pz s σ H x vs v us Q I rx rv h
 obtain⟨l,xs,y,rfl,rfl,hH,hy,q⟩:=h
 cases rx
 have hus:=rv.zero
 subst hus
 obtain⟨z,its,n,r,hl,e⟩:=I.lstM hH
 obtain⟨u,hu,ru⟩:=r.get hy
 have hy':its.toArray[its.toArray.size-1]?=some u:=by
  show its.toArray[its.length-1]?=some u
  rw[<-Array.getElem?_toList,<-hl]
  exact hu
 refine call_meets F.slot_list_pop ⟨_,e,rfl⟩ F.entry_list_pop (F.args_list_pop_1 _) (MeetsSeq.list_pop_last l its.toArray n u hy' (by rw[ay];lia)) ⟨e,?_⟩
 refine⟨y,_,I.lset (its':=its.dropLast) hH e ?_ r.dropLast ?_,ru,q⟩
 ·show its.toArray.eraseIdxIfInBounds (its.toArray.size-1)=its.dropLast.toArray
  rw[ay,List.eraseIdxIfInBounds_toArray,xl]
 ·rw[aW]
  lia
def rCat:R2:=fun x y H Q=>∃l b xs zs,x= .ref l/\y= .ref b/\H l=some (.lst xs)/\H b=some (.lst zs)/\xs.length+zs.length<=sizeLine/\∀p,H p=none->Q (.ref p) (upd H p (.lst (xs++zs)))
theorem rV:OpR X (binaryOp .Add) rCat:=by
 intro pz s σ H x y v u Q I rx ry h
 obtain⟨l,b,xs,zs,rfl,rfl,hH,hB,hz,q⟩:=h
 cases rx
 cases ry
 obtain⟨z,its,n,r,hl,e⟩:=I.lstM hH
 obtain⟨z2,its2,n2,r2,hl2,e2⟩:=I.lstM hB
 refine PySem.P.add_list e e2 ?_ (by rw[ay,ay];lia)
 have ea:its.toArray++its2.toArray=(its++its2).toArray:=by simp
 rw[ea]
 exact⟨.ref _,_,I.lnew (t':=s.toks) (r.append r2) (by rw[aO];lia),rfl,q _ I.fresh⟩
end
section
variable {prog:Program} {w:World} {A:Around} {E:Value->Shared->Prop} {s:Shared}
set_option maxRecDepth 100000 in
end
section
variable {X:Cx}
end
end L2.Internal
namespace Att.Internal
open PySem PySem.W PySem.Calls PyProof.Rows
theorem qi {P:Params} {h:Heap}:∀(ns:List Int) (vs:List Value),WellAll P h vs (ns.map WData.int)->IntsAre vs ns:=by
 intro ns
 induction ns with
 |nil=>
  intro vs w
  rw[aT]at w
  cases w
  exact .nil
 |cons n ns ih=>
  intro vs w
  rw[aB]at w
  cases w with
  |cons a b=>
   cases a
   exact .cons _ _ (ih _ b)
theorem yF {l:OpenLaw} {n:Nat} (hn:l.most=some n) {P:Params} {h:Heap} {args:List WData} {vals:List Value}
  (hpre:l.row.toRowW.claim.pre args=true) (hwl:WellAll P h vals args):
  ∃a vs ns,vals=[Value.ref a]/\args=[WData.list (ns.map WData.int)]/\h.get? a=some {cls:= .type "list",data:= .seq vs.toArray}/\IntsAre vs ns/\ns.length<=n:=by
 have hsh:WShape.hasAll [] args [.list .int]=true:=(pre_splitW hpre).1
 have hc:l.pre.holds [] {args:=args}=true:=(pre_splitW hpre).2
 obtain⟨d,r,rfl,h1,h2⟩:=hasAllW_cons hsh
 obtain rfl:=hasAllW_nil h2
 obtain⟨xs,rfl,h3⟩:=hasW_list h1
 obtain⟨ns,rfl⟩:=items_int h3
 have hlen:ns.length<=n:=by
  unfold OpenLaw.pre at hc
  have h4:(WTm.not (.lt (.lit (.int (n:Int))) (.len (.arg 0)))).holds [] {args:=[.list (ns.map .int)]}=true:=by
   have h4:=(holds_andW hc).1
   rw[hn]at h4
   exact h4
  have h5:=condW_of h4 (w_not (w_lt w_lit (w_len_list (w_arg rfl))))
  rw[aC]at h5
  refine Nat.le_of_not_lt fun q=>?_
  have q':(n:Int)<((ns.length:Nat):Int):=by lia
  first
   |(rw[gR q']at h5;exact absurd h5 (by decide))
   |(simp at h5;lia)
 cases hwl with
 |cons w1 w2=>
  cases w2
  cases w1 with
  |list ho hall=>exact⟨_,_,ns,rfl,rfl,ho,qi ns _ hall,hlen⟩
theorem yG (l:OpenLaw) (args:List WData):l.row.toRowW.claim.post args (.bool true) args=true:=
 postW_of (r:=l.row.toRowW) (X:=(true==true))
  (show WShape.has [] (.bool true) .bool=true by first|rfl|decide|simp[WShape.has,WShape.arms,WShape.armsAll])
  (show(WTm.eq .res (.lit (.bool true))).value [] {args:=args,res:=some (.bool true),after:=args}=some (.bool (true==true))from w_eq_bool (w_res rfl) w_lit) rfl
theorem attach_call {l:OpenLaw} {n:Nat} {q:Program} {loose:List Str} {XP:(Str->Option Value)->Heap->Prop} {YP:World->Heap->Prop} {d:DefRec}
  (hn:l.most=some n) (hdf:d.params.defaults=[])
  (call:∀(w:World) (s₀ s₁:Shared) (mg mb:Str->Option Value) (fa:Addr) (o:Obj) (pm cd doc:Value) (a:Addr) (vs:List Value) (ns:List Int),
   Ground q loose [] XP w s₀ mg mb s₁.heap->YP w s₁.heap->
   s₁.heap.get? fa=some o->o.data= .func (docDef d.name d.params d.body d.scope pm cd doc)->s₁.heap.CodeRec cd d.name->mg d.name=some (.ref fa)->
   s₁.heap.get? a=some {cls:= .type "list",data:= .seq vs.toArray}->IntsAre vs ns->ns.length<=n->s₁.gens=#[]->
   codeAny (model l.prog w) callerA (.call (.ref fa) ⟨[.ref a],[]⟩) (fun r s'=>r= .ok (.ret (.bool true))/\OldK s₁.heap s'.heap/\s'.os=s₁.os/\AllBare s'.gens) s₁):
  WalkO q loose XP YP l.row.toRowW d [] (fun f vs=>PySem.call f vs):=by
 intro w s₀ s₁ mg mb G Y fa o pm cd doc dV kV ho hd hcd hD hmg hg args vals as hpre hlay hrd hwl hlo
 obtain rfl:dV= .none:=Dflts.none hD hdf
 obtain rfl:kV= .none:=Dflts.noKw hD
 obtain⟨a,vs,ns,rfl,rfl,hobj,hints,hlen⟩:=yF hn hpre hwl
 refine enter_call (codeAny_mono (call w s₀ s₁ mg mb fa o pm cd doc a vs ns G Y ho (fd_plain hd) hcd hmg hobj hints hlen hg) fun r s' hq=>?_)
 obtain⟨rfl,h2,h3,h4⟩:=hq
 exact⟨.inl ⟨.bool true,.bool true,[],rfl,fun _=>rfl,.bool true,yG l _,fun _=>⟨List.Pairwise.nil,fun _ hm=>(nomatch hm)⟩⟩,h2,h3,h4⟩
section
variable {prog:Program} {w:World} {A:Around} {E:Value->Shared->Prop} {s:Shared} {K:Frag}
end
end Att.Internal
namespace L2.Internal
open PySem PySem.Spec PyProof.Rows
theorem tZ:∀{vs:List Value} {ns:List Int},IntsAre vs ns->gP (ns.map V.int) vs
 |_,_,.nil=> .nil
 |_,_,.cons n t h=> .cons ⟨t,rfl⟩ (tZ h)
def Gz (H:Hp):Prop:=∀b,H b=none\/∃o xs,H b=some (.frz o (.lst xs))
theorem Az {P:Program} {w:World} {K:PySem.W.Frag} {mg mb:Str->Option Value} {CX:CXT} {k:Nat} {fa a:Addr} {fd:FuncData} {x:Str} {sp:Sp} {s₁:Shared} {vs:List Value} {ns:List Int}
  (KX:K.In s₁.heap) (hns:s₁.heap.Ns mainGlobals mg) (hb:s₁.heap.Ns builtinsNs mb) (hbb:∀x:Str,x≠"__name__"->mb x=bootBuiltins x) (hlim:s₁.heap.NoLimit) (hg:s₁.gens=#[])
  (ha:s₁.heap.get? a=some {cls:= .type "list",data:= .seq vs.toArray}) (hi:IntsAre vs ns) (hl:ns.length<=sizeLine) (hr:lJ k callerA)
  (F:∀base:Heap,K.In base->base.Ns mainGlobals mg->qZ P w K mg base CX k fa fd [x] sp) (hbind:∀(s:Shared) (u:Value),BindsTo s fd ⟨[u],[]⟩ [(x,u)])
  (hsp:∀H:Hp,Gz H->SqL K H a (ns.map V.int)->sp [.ref a] H (fun v _=>v= .bl true) fun _ _ _=>False)
  (hCX:∀H e s',CX [] H s₁ (fun _ _ _=>False) e s'->False):
  codeAny (model P w) callerA (.call (.ref fa) ⟨[.ref a],[]⟩) (fun r s'=>r= .ok (.ret (.bool true))/\OldK s₁.heap s'.heap/\s'.os=s₁.os/\AllBare s'.gens) s₁:=by
 have rv:=tZ hi
 have lenV:=hi.length
 have core:∀H:Hp,Gz H->SqL K H a (ns.map V.int)->HOk P w H s₁.heap->(∀b,H b≠none->b=a)->(H a≠none->K.lookup a=none)->
   codeAny (model P w) callerA (.call (.ref fa) ⟨[.ref a],[]⟩) (fun r s'=>r= .ok (.ret (.bool true))/\OldK s₁.heap s'.heap/\s'.os=s₁.os/\AllBare s'.gens) s₁:=by
  intro H hO hS hok hA hK
  have base_of:∀{b:Addr} {o:Obj},s₁.heap.get? b=some o->H b=none->(Am s₁.heap H).get? b=some o:=fun e n=>Ao e n
  have noA:∀{b:Addr} {o:Obj} {es:Array DictEntry} {ep:Nat},s₁.heap.get? b=some o->o.data= .dict es ep->H b=none:=fun{b o es ep} e d=>by
   cases q:H b with
   |none=>rfl
   |some u=>
    have e':b=a:=hA b (by rw[q];simp)
    subst e'
    rw[ha]at e;cases e
    have d':Data.seq vs.toArray _=Data.dict es ep:=d
    cases d'
  have nsK:∀{b:Addr} {m:Str->Option Value},s₁.heap.Ns b m->(Am s₁.heap H).Ns b m:=fun{b m} ⟨o,es,ep,e,d,r⟩=>⟨o,es,ep,base_of e (noA e d),d,r⟩
  have hKb:K.In (Am s₁.heap H):=fun b o e=>base_of (KX b o e) (by
   cases q:H b with
   |none=>rfl
   |some u=>
    have e':b=a:=hA b (by rw[q];simp)
    subst e'
    rw[hK (by rw[q];simp)]at e;cases e)
  have hM:Mod K mg (Am s₁.heap H):=⟨hKb,nsK hns,⟨mb,nsK hb,hbb⟩,let⟨mc,h1,h2⟩:=hlim;⟨mc,nsK h1,h2⟩⟩
  have e0:Cv P w K mg (Am s₁.heap H) callerA [] s₁ H:=⟨rfl,hM,fun b o e=>Cd e,Nat.le_of_eq (xX _ _),trivial,fun b hb=>absurd (show b∈([]:List Addr)from hb) (by simp),hok,.of_eq hg⟩
  refine codeAny_mono ((F _ hKb (nsK hns)).run callerA [] s₁ H ⟨[.ref a],[]⟩ [.ref a] [.ref a] _ _ hr e0 (hbind s₁ (.ref a)) (.cons rfl .nil) (hsp H hO hS)) fun r s' h=>?_
  cases r with
  |error e=>exact(hCX H e s' h).elim
  |ok fl=>
   cases fl with
   |next=>exact False.elim h
   |brk=>exact False.elim h
   |cont=>exact False.elim h
   |ret u=>
    obtain⟨v,H',os,bare,un,hok',r',q⟩:=h
    have q':v= .bl true:=q
    subst q'
    obtain rfl:u=Value.bool true:=r'
    refine⟨rfl,OldK.of_keep fun b o e=>?_,os,bare⟩
    cases q:H b with
    |none=>exact un.keep b o e q (by intro z;exact absurd (show b∈([]:List Addr)from z) (by simp)) (by simp)
    |some u=>
     rcases hO b with z|⟨ob,xs,z⟩
     ·rw[q]at z;cases z
     ·have z2:=un.frzs b ob _ z
      obtain⟨e1,_⟩:=hok b _ z
      obtain⟨e2,_⟩:=hok' b _ z2
      rw[e]at e1;cases e1
      exact e2
 cases hk:K.lookup a with
 |some o=>
  have e:=KX a o hk
  rw[ha]at e
  cases e
  refine core (fun _=>none) (fun _=> .inl rfl) (.inr ⟨_,vs.toArray,_,hk,rfl,rfl,rfl,by rw[ay,lenV];exact hl,by simpa using rv⟩) (fun b u z=>by have z':(none:Option HO)=some u:=z;cases z') (fun b z=>absurd rfl z) fun z=>absurd rfl z
 |none=>
  refine core (fun b=>if b=a then some (.frz {cls:= .type "list",data:= .seq vs.toArray} (.lst (ns.map V.int)))else none) (fun b=>?_) (.inl (.inr ⟨{cls:= .type "list",data:= .seq vs.toArray},f6 rfl⟩)) (fun b u z=>?_) (fun b z=>?_) fun _=>hk
  ·by_cases hb:b=a
   ·exact .inr ⟨_,_,f6 hb⟩
   ·exact .inl (fO hb)
  ·by_cases hb:b=a
   ·have z':=(f6 hb).symm.trans z
    cases z'
    subst hb
    exact⟨ha,by rw[aC];exact hl,vs,_,rv,ha⟩
   ·have z':=(fO hb).symm.trans z
    cases z'
  ·by_cases hb:b=a
   ·exact hb
   ·exact absurd (fO hb) z
theorem walk_of {l:PySem.W.OpenLaw} {n k:Nat} {q:Program} {loose:List Str} {XP:(Str->Option Value)->Heap->Prop} {YP:World->Heap->Prop} {d:DefRec} {K:Params->PySem.W.Frag} {CX:World->CXT} {sp:World->Sp} {x:Str}
  (hn:l.most=some n) (hn2:n<=sizeLine) (hdf:d.params.defaults=[]) (hr:lJ k callerA)
  (hY:∀(w:World) (h:Heap),YP w h->(K w.params).In h)
  (F:∀(w:World) (mg:Str->Option Value) (fa:Addr) (h:Heap),(K w.params).In h->h.Ns mainGlobals mg->mg d.name=some (.ref fa)->
   ∃fd:FuncData,(∀(s:Shared) (u:Value),BindsTo s fd ⟨[u],[]⟩ [(x,u)])/\
    ∀base:Heap,(K w.params).In base->base.Ns mainGlobals mg->qZ l.prog w (K w.params) mg base (CX w) k fa fd [x] (sp w))
  (hsp:∀(w:World) (H:Hp) (a:Addr) (ns:List Int),ns.length<=n->Gz H->SqL (K w.params) H a (ns.map V.int)->sp w [.ref a] H (fun v _=>v= .bl true) fun _ _ _=>False)
  (hCX:∀(w:World) (H:Hp) (s:Shared) (e:Value) (s':Shared),CX w [] H s (fun _ _ _=>False) e s'->False):
  PySem.W.WalkO q loose XP YP l.row.toRowW d [] (fun f vs=>PySem.call f vs):=by
 refine Att.Internal.attach_call hn hdf fun w s₀ s₁ mg mb fa o pm cd doc a vs ns G Y ho hd hcd hmg hobj hints hlen hg=>?_
 have KX:=hY w _ Y
 obtain⟨fd,hb,hF⟩:=F w mg fa _ KX G.T.g hmg
 exact Az KX G.T.g G.T.b G.T.builtins G.T.nolimit hg hobj hints (bZ hlen hn2) hr hF hb (fun H hO hS=>hsp w H a ns hlen hO hS) fun H e s'=>hCX w H s₁ e s'
def gH (s:Stmt) (j:Nat):Stmt:=match s with
 | .ClassDef _ _ _ body _ _ _ _ _ _ _=>body.getD j (.Pass ⟨0,0,0,0⟩)
 |_=> .Pass ⟨0,0,0,0⟩
def iR (s:Stmt):Arguments:=match s with
 | .FunctionDef _ a _ _ _ _ _ _ _ _=>a
 |_=>{posonlyargs:=[],args:=[],vararg:=none,kwonlyargs:=[],kw_defaults:=[],kwarg:=none,defaults:=[]}
def gZ (s:Stmt):List Stmt:=match s with
 | .FunctionDef _ _ b _ _ _ _ _ _ _=>b
 |_=>[]
def e8 (s:Stmt):Scope:=match s with
 | .FunctionDef _ _ _ _ _ _ sc _ _ _=>sc
 |_=>{kind:= .function,names:=[],isGenerator:=false,isCoroutine:=false}
abbrev CX0:CXT:=fun _ _ _ _ _ _=>False
abbrev E0:XK:=fun _ _ _=>False
theorem fK {X:Cx}:mG CX0 X E0:=fun _ _ _ _ _ _ _ h=>h.elim
structure Fun (K:PySem.W.Frag) (x qual:Str) (st:Stmt) (f:Addr) (fd:FuncData):Prop where
 ex:∃(oc:Value) (od:Option Addr) (kV doc pm:Value) (an:Option Addr) (cdv ct:Value) (osl:Array (Option Value)),
  fd=dB x qual (iR st) (gZ st) (e8 st) .none kV doc pm an cdv ct/\K.lookup f=some ⟨oc,od,.func fd,osl⟩/\dC K cdv qual=true
 kp:cX K (.ref f)=true
section
variable {P:Program} {w:World} {K:PySem.W.Frag} {mg:Str->Option Value} {base:Heap}
theorem Fun.ok {x qual:Str} {st:Stmt} {f:Addr} {fd:FuncData} {N ps:List Str} {k:Nat} {sp:Sp} (F:Fun K x qual st f fd) (S:fi N ps (e8 st)) (len:∀vs H Q E,sp vs H Q E->vs.length=ps.length)
  (hbody:∀(cdv:Value) (A:Around) (outer:List Env) (s:Shared) (H:Hp) (vs:List V) (Q:VK) (E:XK),lJ k (A.deeper (envOfC qual (e8 st) s.heap.objs.size f cdv))->sp vs H Q E->
   ∃t,PSs (Bo CX0 P w K mg base N qual (e8 st) f cdv A outer s H E).nox (gZ st) t/\t {nx:=fun _ H'=>Q .non H',rt:=Q} (start N vs) H):qZ P w K mg base CX0 (k+ 1) f fd ps sp:=by
 obtain⟨oc,od,kV,doc,pm,an,cdv,ct,osl,rfl,lk,hcd⟩:=F.ex
 refine Ek lk hcd S len fun A outer s H vs Q E hr hsp=>?_
 obtain⟨t,h,q⟩:=hbody cdv A outer s H vs Q E hr hsp
 exact⟨t,h.nox,q⟩
theorem Fun.binds {x qual:Str} {st:Stmt} {f:Addr} {fd:FuncData} {ps:List Str} (F:Fun K x qual st f fd)
  (h:∀(kV doc pm:Value) (an:Option Addr) (cdv ct:Value) (us:List Value),us.length=ps.length->bindArgs (dB x qual (iR st) (gZ st) (e8 st) .none kV doc pm an cdv ct) ⟨us,[]⟩=pure (ps.zip us)):mB K fd ps []:=by
 obtain⟨oc,od,kV,doc,pm,an,cdv,ct,osl,rfl,lk,hcd⟩:=F.ex
 exact .all (h kV doc pm an cdv ct)
theorem t6 {x qual:Str} {st:Stmt} {f:Addr} {oc:Value} {od an:Option Addr} {osl:Array (Option Value)} {kV doc pm cdv ct:Value} (l:K.lookup f=some ⟨oc,od,.func (dB x qual (iR st) (gZ st) (e8 st) .none kV doc pm an cdv ct),osl⟩)
  (c:dC K cdv qual=true) (k:cX K (.ref f)=true):Fun K x qual st f (dB x qual (iR st) (gZ st) (e8 st) .none kV doc pm an cdv ct):=⟨⟨oc,od,kV,doc,pm,an,cdv,ct,osl,rfl,l,c⟩,k⟩
end
theorem xn {A:Around} {k:Nat} (hr:lJ k A):A.units+ 1<cLine:=Nat.lt_of_le_of_lt (Nat.add_le_add_left (by decide:1<=64) _) hr.units
section
variable {X:Cx}
theorem pv (i:Nat) {x:Str} {pos:Pos} (hN:autoParam (X.N[i]?=some x) L2.Internal.auR._auto_1) (hv:Vis X.env.scope x:=by first|exact Or.inl rfl|exact Or.inr (.inl rfl)|exact Or.inr (.inr rfl)) (hd:autoParam ((x==("__debug__":Str))=false) L2.Internal.auD._auto_1)
  (hcd:autoParam ((x==("__classdict__":Str))=false) L2.Internal.auD._auto_1):PE X (.Name x pos) (Hs i):=D7 hN hv hd hcd
end
theorem jy {A B:Prop} (h:B):if false=true then A else B:=by
 rw[fO dU]
 exact h
theorem jW {A B:Prop} (h:A):if true=true then A else B:=by
 rw[f6 rfl]
 exact h
theorem HB {c A B:Prop} [Decidable c] (h1:c->A) (h2:¬c->B):if c then A else B:=by
 by_cases h:c
 ·rw[f6 h]
  exact h1 h
 ·rw[fO h]
  exact h2 h
def fE (H H':Hp):Prop:=∀b o,H b=some o->H' b=some o
theorem fE.trans {H H1 H2:Hp} (a:fE H H1) (b:fE H1 H2):fE H H2:=fun c o h=>b c o (a c o h)
theorem fE.free {H H':Hp} (e:fE H H') {l:Addr} (h:H' l=Option.none):H l=Option.none:=by
 cases q:H l with
 |none=>rfl
 |some o=>
  rw[e l o q]at h
  cases h
theorem fE.seq {K:PySem.W.Frag} {H H':Hp} {a:Addr} {xs:List V} (e:fE H H') (h:SqL K H a xs):SqL K H' a xs:=by
 rcases h with(h|⟨o,h⟩)|h
 ·exact .inl (.inl (e _ _ h))
 ·exact .inl (.inr ⟨o,e _ _ h⟩)
 ·exact .inr h
section
variable {X:Cx}
end
section
variable {κ:Type} [DecidableEq κ]
end
section
variable {X:Cx}
theorem yH {x:Str} {a:Addr} {pos:Pos} (hg:Gl X x) (hm:X.mg x=some (.ref a)) (hd:autoParam ((x==("__debug__":Str))=false) L2.Internal.auD._auto_1):PE X (.Name x pos) (tC (.ref a)):=Ce hg hm (show gU (.ref a) _ from rfl) hd
theorem lD {x:Str} {n:String} {pos:Pos} (hg:Gl X x) (hm:X.mg x=none) (hv:bootBuiltins x=some (.type n)) (hn:autoParam (x≠"__name__") L2.Internal.auD._auto_1) (hd:autoParam ((x==("__debug__":Str))=false) L2.Internal.auD._auto_1):PE X (.Name x pos) (tC (.ty n)):=Cf hg hm hv (show gU (.ty n) _ from rfl) hn hd
end
theorem jB:bootBuiltins "len"=some (.builtin "len"):=fW
theorem Eu:bootBuiltins "all"=some (.builtin "all"):=fW
theorem Ew:bootBuiltins "sum"=some (.builtin "sum"):=fW
theorem gf:bootBuiltins "isinstance"=some (.builtin "isinstance"):=fW
theorem yI:bootBuiltins "int"=some (.type "int"):=fW
theorem Bu:bootBuiltins "str"=some (.type "str"):=fW
theorem CF:bootBuiltins "bool"=some (.type "bool"):=fW
theorem kg:bootBuiltins "list"=some (.type "list"):=fW
theorem iA:bootBuiltins "tuple"=some (.type "tuple"):=fW
section
variable {X:Cx} {tg:Expr}
end
def blk (X:Cx) (N:List Str) (scope:Scope) (cl:List (Str×Addr)) (C:Addr) (s₀:Shared) (H₀:Hp) (ex:List Addr) (pz:List (Addr×Obj)):Cx:=
 {X with N:=N,s₀:=s₀,H₀:=H₀,env:=compEnvC scope cl C X.env,outer:=X.stack,stack:=X.stack,ex:=ex,fn:=fun _=>false,pn:=X.pn++pz,xe:=fun _ _=>False}
def PTs (X:Cx) (cs:List Expr) (t:TT):Prop:=
 ∀(pz:List (Addr×Obj)) (s:Shared) (σ:St) (H:Hp) (Q:Bool->Hp->Prop),Inv X pz σ H s->t σ H Q->
  wpAny (model X.prog X.w) X.A (forIn cs true fun c r=>if r=true then do let ok<-isTrue c X.env (eval c X.env);pure (ForInStep.yield ok)else pure (ForInStep.yield r)) (TP X pz σ Q) X.xe s
def mO:TT:=fun _ H Q=>Q true H
theorem iB {X:Cx}:PTs X [] mO:=fun pz s σ H Q I h=>wpAny_pure ⟨H,I,h⟩
theorem oB {X:Cx} {c:Expr} {t:TT} (h:PT X c t):PTs X [c] t:=fun pz s σ H Q I hw=>wpAny_tests_one (h pz s σ H Q I hw)
structure qj (X:Cx) (N:List Str) (scope:Scope) (cl:List (Str×Addr)) (f:St->St) (i:Nat) (x:Str):Prop where
 kind:scope.kind= .function
 cell:∀y∈scope.names,y.2≠ .cell
 names:∀y∈scope.names,y.2= .local->scope.names.lookup y.1=some .local
 clos:closureFor scope X.env=pure cl
 lk:∀y c,cl.lookup y=some c->X.env.cells.lookup y=some c
 has:∀y,((relabel scope X.env).names.lookup y=some .cell\/(relabel scope X.env).names.lookup y=some .free)->∃c,cl.lookup y=some c
 nd:N.Nodup
 ix:N[i]?=some x
 loc:scope.names.lookup x=some .local
 len:∀σ,σ.length=X.N.length->(f σ).length=N.length
 val:∀(σ:St) (k:Nat) (y:Str) (v:V),N[k]?=some y->(f σ)[k]?=some (some v)->∃j:Nat,X.N[j]?=some y/\σ[j]?=some (some v)/\X.env.scope.names.lookup y=some .cell/\(relabel scope X.env).names.lookup y=some .cell
theorem yJ {X:Cx} {N:List Str} {scope:Scope} {cl:List (Str×Addr)} {f:St->St} {i:Nat} {x:Str} (B:qj X N scope cl f i x) {pz:List (Addr×Obj)} {σ:St} {H:Hp} {s:Shared} {h₁:Heap} {tk:Nat} {m:Str->Option Value} {ex:List Addr}
  (I:Inv X pz σ H s) (hex:∀b∈ex,wW X pz H b/\b<s.heap.objs.size) (keep:∀b o,s.heap.get? b=some o->h₁.get? b=some o) (hn:h₁.Ns s.heap.objs.size m):
  Inv (blk X N scope cl s.heap.objs.size s H ex pz) [] (f σ) H {s with heap:=h₁,toks:=tk}:=by
 have nst:∀b,b≠X.env.locals->b∉X.fs->b∉frs X.stack:=fun b h1 h2 hb=>(ak.mp (I.stkSub b hb)).elim h1 h2
 have ltC:∀y c,X.env.cells.lookup y=some c->c<s.heap.objs.size:=fun y c e=>by
  obtain⟨v,o,ho,_⟩:=I.cell y c e
  exact eI ho
 refine⟨⟨I.ok.mod,B.kind,I.ok.glob,I.ok.blt,b9 _,fun y z c h1 h2=>I.ok.inj y z c (B.lk y c h1) (B.lk z c h2),fun y hy=>B.has y hy,fun y c h=>(nomatch h),I.ok.hd,I.ok.frames,.inl rfl,fun b hb=>?_,I.bs,bZ I.ok.bsz I.sz,fun b o e hb=>?_,fun b hb=>?_,I.stack,I.stkFree⟩,
  rfl,I.bare,Un.kept keep,⟨m,hn,fun k y v e1 e2 e3=>?_⟩,fun y c e=>?_,I.hok.fresh (b9 _),fun y c e=>I.freeC y c (B.lk y c e),fun p hp=>?_,I.hok.kept keep,B.len σ I.len⟩
 ·obtain⟨⟨_,_,_,_,hc,_⟩,lt⟩:=hex b hb
  exact⟨bY lt,fun y c e=>hc y c (B.lk y c e)⟩
 ·obtain⟨⟨_,_,_,h4,_,_⟩,_⟩:=hex b hb
  rcases h4 with z|z
  ·exact I.ok.noex b o e z
  ·exact absurd (bW (eI (I.ok.bs b o e).1) z) (bX _)
 ·obtain⟨⟨_,h2,h3,_,_,_⟩,_⟩:=hex b hb
  exact nst b h2 h3
 ·obtain⟨j,h1,h2,h3,h4⟩:=B.val σ k y v e1 e2
  obtain⟨m',_,hl⟩:=I.loc
  obtain⟨u,r,l⟩:=hl j y v h1 h2 (.inr (.inl h3))
  refine⟨u,r,?_⟩
  rcases l with⟨hk,_⟩|⟨_,c,hc,z⟩
  ·have hk':X.env.scope.names.lookup y=some .local:=hk
   rw[h3]at hk'
   cases hk'
  ·obtain⟨c',hc'⟩:=B.has y (.inl h4)
   have e:c'=c:=cC.inj ((B.lk y c' hc').symm.trans hc)
   subst e
   obtain⟨o,ho,hd⟩:=z
   exact .inr ⟨.inl h4,c',hc',o,keep _ o ho,hd⟩
 ·obtain⟨v,o,ho,hd⟩:=I.cell y c (B.lk y c e)
  exact⟨v,o,keep _ o ho,hd⟩
 ·rw[aD]at hp
  obtain⟨e,n,ne,nf,d⟩:=I.pin p hp
  exact⟨keep _ _ e,n,bY (eI e),nst _ ne nf,d⟩
theorem gj {env:Env}:∀{names:List (Str×NameKind)} {x:Str} {k:NameKind},
  (names.map fun(n,k)=>if(k==NameKind.free&&env.scope.kind== .function&&env.kindOf n==some .cell)then(n,NameKind.cell)else(n,k)).lookup x=some k->
  ∃k0,names.lookup x=some k0/\(k=k0\/(k0= .free/\k= .cell))
 |[],_,_,h=>by simp at h
 |(n,k0)::r,x,k,h=>by
  have ih:=@gj env r x k
  have h:aA x ((if(k0==NameKind.free&&env.scope.kind== .function&&env.kindOf n==some .cell)=true then(n,NameKind.cell)else(n,k0))::(r.map fun(n,k)=>if(k==NameKind.free&&env.scope.kind== .function&&env.kindOf n==some .cell)then(n,NameKind.cell)else(n,k)))=some k:=h
  cases hx:x==n with
  |true=>
   by_cases hc:(k0==NameKind.free&&env.scope.kind== .function&&env.kindOf n==some .cell)=true
   ·rw[f6 hc]at h
    simp only[aX,hx]at h⊢
    have hf:k0= .free:=by
     have hc':=hc
     simp only[dX]at hc'
     exact eq_of_beq hc'.1.1
    exact⟨k0,rfl,.inr ⟨hf,(cC.inj h).symm⟩⟩
   ·rw[fO hc]at h
    simp only[aX,hx]at h⊢
    exact⟨k0,rfl,.inl (cC.inj h).symm⟩
  |false=>
   have h2:(r.map fun(n,k)=>if(k==NameKind.free&&env.scope.kind== .function&&env.kindOf n==some .cell)then(n,NameKind.cell)else(n,k)).lookup x=some k:=by
    by_cases hc:(k0==NameKind.free&&env.scope.kind== .function&&env.kindOf n==some .cell)=true
    ·rw[f6 hc]at h;simp only[aX,hx]at h;exact h
    ·rw[fO hc]at h;simp only[aX,hx]at h;exact h
   obtain⟨k1,e1,e2⟩:=ih h2
   exact⟨k1,by simp only[aX,hx];exact e1,e2⟩
theorem iC {env:Env} (hk:env.scope.kind= .function):∀{names:List (Str×NameKind)} {x:Str},env.scope.names.lookup x=some .cell->names.lookup x=some .free->
  (names.map fun(n,k)=>if(k==NameKind.free&&env.scope.kind== .function&&env.kindOf n==some .cell)then(n,NameKind.cell)else(n,k)).lookup x=some .cell
 |[],_,_,h=>by simp at h
 |(n,k0)::r,x,hc,h=>by
  have ih:=@iC env hk r x hc
  show aA x ((if(k0==NameKind.free&&env.scope.kind== .function&&env.kindOf n==some .cell)=true then(n,NameKind.cell)else(n,k0))::_)=_
  cases hx:x==n with
  |true=>
   simp only[aX,hx]at h
   cases h
   have e:x=n:=eq_of_beq hx
   have hc':env.kindOf n=some .cell:=by rw[<-e];exact hc
   simp[aX,hx,hk,hc']
  |false=>
   simp only[aX,hx]at h
   by_cases hq:(k0==NameKind.free&&env.scope.kind== .function&&env.kindOf n==some .cell)=true
   ·rw[f6 hq];simp only[aX,hx];exact ih h
   ·rw[fO hq];simp only[aX,hx];exact ih h
theorem Ey {X:Cx} {scope:Scope} {x:Str} (hk:scope.kind= .function) (hn:∀p∈scope.names,p.2≠ .cell/\p.2≠ .free) (hl:∀y∈scope.names,y.2= .local->scope.names.lookup y.1=some .local)
  (hx:scope.names.lookup x=some .local) (hc:closureFor scope X.env=pure []):qj X [x] scope [] (fun _=>[none]) 0 x where
 kind:=hk
 cell:=fun y hy=>(hn y hy).1
 names:=hl
 clos:=hc
 lk:=fun y c h=>by simp at h
 has:=fun y h=>by
  rcases h with h|h
  ·obtain⟨k0,e,z⟩:=gj h
   have m:=hn _ (PySem.mem_of_lookup e)
   rcases z with z|⟨z,_⟩
   ·exact absurd z.symm m.1
   ·exact absurd z m.2
  ·obtain⟨k0,e,z⟩:=gj h
   have m:=hn _ (PySem.mem_of_lookup e)
   rcases z with z|⟨z,_⟩
   ·exact absurd z.symm m.2
   ·exact absurd z m.2
 nd:=by simp
 ix:=rfl
 loc:=hx
 len:=fun _ _=>rfl
 val:=fun σ k y v h1 h2=>by
  cases k with
  |zero=>simp at h2
  |succ k=>simp at h2
def LcP (J:It) (i:Nat) (tt:TT) (te:TE) (Q:VK) (τ:St) (H1:Hp) (D:Addr):Prop:=
 ∃W:Nat->Nat->St->Hp->Prop,(∃m,W 0 m τ (upd H1 D (.lst [])))/\∀k m σ' H2,W k m σ' H2->
  (J.stop k H2/\Q (.ref D) H2)\/(J.go k H2/\∀v H3,J.yld k H2 v H3->tt (σ'.set i (some v)) H3 fun ok H4=>if ok=true
   then te (σ'.set i (some v)) H4 fun y H5=>∃xs,H5 D=some (.lst xs)/\xs.length<sizeLine/\∃m',m'<m/\W (k+ 1) m' (σ'.set i (some v)) (upd H5 D (.lst (xs++[y])))
   else ∃m',m'<m/\W (k+ 1) m' (σ'.set i (some v)) H4)
def tLC (wi:TI) (f:St->St) (i:Nat) (tt:TT) (te:TE):TE:=fun σ H Q=>wi σ H fun J H1=>∀D,H1 D=none->LcP J i tt te Q (f σ) H1 D
theorem yK {X:Cx} {elt iter:Expr} {x:Str} {px:Pos} {ifs:List Expr} {scope:Scope} {pos pos':Pos} {N:List Str} {cl:List (Str×Addr)} {f:St->St} {i:Nat} {wi:TI} {tt:TT} {te:TE} {use:Option (Value->Sem Unit)} {Qp:Value->Shared->Prop}
  {pz:List (Addr×Obj)} {s:Shared} {σ:St} {H:Hp} {Q:VK}
  (hc:X.calm=true) (B:qj X N scope cl f i x) (hi:PI X (.Name x px) iter wi)
  (htt:∀C s₀ H₀ ex pz,PTs (blk X N scope cl C s₀ H₀ ex pz) ifs tt) (hte:∀C s₀ H₀ ex pz,PE (blk X N scope cl C s₀ H₀ ex pz) elt te)
  (hs:∀x,foldedSetIterable iter X.env x=pure x) (I:Inv X pz σ H s) (h:tLC wi f i tt te σ H Q)
  (fin:∀(fl:Flow) (s3 s6:Shared) (H3 H5:Hp) (d:Addr) (m:Str->Option Value),Inv X pz σ H3 s3->Inv X pz σ H5 s6->H5 s3.heap.objs.size=none->s6.heap.Ns s3.heap.objs.size m->Q (.ref d) H5->
   compPost (model X.prog X.w) X.A X.xe use Qp (.ref d) s3.heap.objs.size (.ok fl) s6):
  wpAny (model X.prog X.w) X.A (comprehension (.ListComp elt [⟨.Name x px,iter,ifs,0⟩] scope pos) scope X.env pos' (newList []) false (eval iter X.env) use) Qp X.xe s:=by
 refine wpAny_comprehension_free (use:=use) rfl hs B.clos B.kind B.names (thn (hi pz s σ H _ I h) fun xv s1 h1=>thn h1 fun itv s2 h2=>?_)
 obtain⟨it,fp,tn,J,H2,rfl,I2,T,st2,f2,q⟩:=h2
 have hD:H2 s2.heap.objs.size=none:=I2.fresh
 obtain⟨W,⟨m0,w0⟩,turn⟩:=q _ hD
 refine wpAny_newObj_type (wpAny_newFunctionEnv B.cell (by intro y hy;simp at hy) (fun h₁ hns₁ hsb₁=>?_) B.kind)
 have I3:Inv X pz σ (upd H2 s2.heap.objs.size (.lst [])) {s2 with heap:=s2.heap.push {cls:= .type "list",data:= .seq ([]:List Value).toArray}}:=I2.lnew (its:=[]) (ys:=[]) (t':=s2.toks) .nil (cb _)
 have lt2:∀b∈fp,b<s2.heap.objs.size:=fun b hb=>by
  obtain⟨o,ho,_⟩:=T.obj _ _ st2 b hb
  exact eI ho
 have fp3:∀b∈fp,wW X pz (upd H2 s2.heap.objs.size (.lst [])) b:=fun b hb=>by
  refine⟨?_,(f2 b hb).2⟩
  rw[eX (bY (lt2 b hb))]
  exact(f2 b hb).1
 generalize hs3:({s2 with heap:=s2.heap.push {cls:= .type "list",data:= .seq ([]:List Value).toArray}}:Shared)=s3 at I3 hns₁ hsb₁⊢
 have eh:s2.heap.push {cls:= .type "list",data:= .seq ([]:List Value).toArray}=s3.heap:=by rw[<-hs3]
 have lt3:∀b∈fp,b<s3.heap.objs.size:=fun b hb=>by
  rw[<-eh,eM]
  exact Nat.lt_succ_of_lt (lt2 b hb)
 have old:∀b o,s3.heap.get? b=some o->h₁.get? b=some o:=fun b o e=>hsb₁.extBut b o (bY (eI e)) (eK _ e)
 have I4:=yJ (tk:=s3.toks+([]:List (Str×Value)).length) B I3 (ex:=fp) (fun b hb=>⟨fp3 b hb,lt3 b hb⟩) old hns₁
 have st4:tn 0 h₁:=T.keep _ _ _ st2 fun b _ o e=>old b o (by rw[<-eh];exact eK _ e)
 have fpB:∀{H':Hp},(∀b∈fp,H' b=none)->∀b∈fp,wW (blk X N scope cl s3.heap.objs.size s3 (upd H2 s2.heap.objs.size (.lst [])) fp pz) [] H' b:=fun{H'} hn b hb=>by
  obtain⟨_,g2,g3,g4,g5,g6⟩:=f2 b hb
  refine⟨hn b hb,bY (lt3 b hb),fun z=>(ak.mp (I3.stkSub b z)).elim g2 g3,.inl hb,fun y c e=>g5 y c (B.lk y c e),fun p hp=>?_⟩
  rw[aD]at hp
  exact g6 p hp
 have loop:∀s4:Shared,s4={s3 with heap:=h₁,toks:=s3.toks+([]:List (Str×Value)).length}->
   codeAny (model X.prog X.w) X.A (.compLoop (.ListComp elt [⟨.Name x px,iter,ifs,0⟩] scope pos) 0 (.ref it) (.ref s2.heap.objs.size) (compEnvC scope cl s3.heap.objs.size X.env))
    (compPost (model X.prog X.w) X.A X.xe use Qp (.ref s2.heap.objs.size) s3.heap.objs.size) s4:=by
  rintro s4 rfl
  refine codeAny_compLoop_tests (I:=fun n s'=>∃k σ' H',Inv (blk X N scope cl s3.heap.objs.size s3 (upd H2 s2.heap.objs.size (.lst [])) fp pz) [] σ' H' s'/\tn k s'.heap/\(∀b∈fp,H' b=none)/\W k n σ' H') ?_ m0
   ⟨0,f σ,_,I4,st4,fun b hb=>(fp3 b hb).1,w0⟩
  rintro n s5 ⟨k,σ5,H5,I5,st5,fr5,w5⟩
  rcases turn k n σ5 H5 w5 with⟨stop,qn⟩|⟨go,step⟩
  ·refine wpAny_mono (T.done (blk X N scope cl s3.heap.objs.size s3 (upd H2 s2.heap.objs.size (.lst [])) fp pz) rfl rfl rfl hc k [] s5 σ5 H5 _ I5 (fpB fr5) st5 stop) (fun r s6 h6=>?_) fun _ _ z=>z
   obtain⟨hr,I6⟩:=h6
   subst hr
   obtain⟨m6,hn6,_⟩:=id I6.loc
   have I7:Inv X pz σ H5 s6:=I3.call' (s':=s6) (ch:=fp) I6.os I6.base I6.hok I6.bare fun b hb=>by
    obtain⟨_,g2,g3,g4,g5,g6⟩:=f2 b hb
    exact⟨g4,g2,g5,g6⟩
   exact fin _ s3 s6 _ H5 _ m6 I3 I7 I6.free hn6 qn
  ·refine wpAny_mono (T.item (blk X N scope cl s3.heap.objs.size s3 (upd H2 s2.heap.objs.size (.lst [])) fp pz) rfl rfl rfl hc k [] s5 σ5 H5 _ I5 (fpB fr5) st5 go) (fun r s6 h6=>?_) fun _ _ z=>z
   obtain⟨u,hr,h6⟩:=h6
   subst hr
   show wpAny _ _ (pure () >>= fun _=>assign (.Name x px) (compEnvC scope cl s3.heap.objs.size X.env) u) _ _ s6
   refine wpAny_bind (wpAny_mono (show wpAny _ _ (pure ()) _ _ s6 from h6) (fun _ s7 h7=>?_) fun _ _ z=>z)
   obtain⟨v,H7,I7,r7,y7,st7,fr7⟩:=h7
   have I7':=I7.pinned (fpB fr7) (T.obj _ _ st7)
   refine wpAny_assign_Name (pV (X:=blk X N scope cl s3.heap.objs.size s3 (upd H2 s2.heap.objs.size (.lst [])) fp pz) I7' B.nd B.ix (.inl (lookup_relabel_local B.loc)) r7 (fun s8 I8=>?_) (.inr (lookup_relabel_local B.loc)))
   have back:∀{σ9:St} {H9:Hp} {s9:Shared},Inv (blk X N scope cl s3.heap.objs.size s3 (upd H2 s2.heap.objs.size (.lst [])) fp pz) ([]++rP fp s7.heap) σ9 H9 s9->(∃m',m'<n/\W (k+ 1) m' σ9 H9)->
     ∃m',m'<n/\∃k σ' H',Inv (blk X N scope cl s3.heap.objs.size s3 (upd H2 s2.heap.objs.size (.lst [])) fp pz) [] σ' H' s9/\tn k s9.heap/\(∀b∈fp,H' b=none)/\W k m' σ' H':=fun{σ9 H9 s9} I9 q9=>by
    obtain⟨m',hm,w9⟩:=q9
    refine⟨m',hm,k+ 1,σ9,H9,I9.unpinned,T.keep _ _ _ st7 fun b hb o e=>(I9.pin (b,o) (ax _ (ax _ (jH hb e)))).1,fun b hb=>?_,w9⟩
    obtain⟨o,e,d⟩:=T.obj _ _ st7 b hb
    exact(I9.pin (b,o) (ax _ (ax _ (jH hb e)))).2.1
   refine wpAny_mono (htt _ _ _ _ _ _ s8 _ H7 _ I8 (step v H7 y7)) (fun ok s9 h9=>?_) fun _ _ z=>False.elim z
   obtain⟨H9,I9,q9⟩:=h9
   cases ok with
   |false=>
    rw[fO dU]
    rw[fO dU]at q9
    exact back I9 q9
   |true=>
    rw[f6 rfl]
    rw[f6 rfl]at q9
    refine wpAny_mono (hte _ _ _ _ _ _ s9 _ H9 _ I9 q9) (fun y s10 h10=>?_) fun _ _ z=>False.elim z
    obtain⟨v10,H10,I10,r10,xs,hx10,hz,q10⟩:=h10
    refine wpAny_mono (f9 (X:=blk X N scope cl s3.heap.objs.size s3 (upd H2 s2.heap.objs.size (.lst [])) fp pz) _ s10 _ H10 (.ref s2.heap.objs.size) [v10] _ [y] (fun _ H11=>H11=upd H10 s2.heap.objs.size (.lst (xs++[v10]))) I10 rfl (.cons r10 .nil) ⟨_,xs,v10,rfl,rfl,hx10,hz,rfl⟩) (fun _ s11 h11=>?_) fun _ _ z=>False.elim z
    obtain⟨_,H11,I11,_,e11⟩:=h11
    subst e11
    exact back I11 q10
 exact codeAny_compStart_list (loop _ rfl) (T.self _ 0 _ _ _ st4 (loop _ rfl))
theorem qk {X:Cx} {elt iter:Expr} {x:Str} {px:Pos} {ifs:List Expr} {scope:Scope} {pos:Pos} {N:List Str} {cl:List (Str×Addr)} {f:St->St} {i:Nat} {wi:TI} {tt:TT} {te:TE}
  (hc:X.calm=true) (B:qj X N scope cl f i x) (hi:PI X (.Name x px) iter wi)
  (htt:∀C s₀ H₀ ex pz,PTs (blk X N scope cl C s₀ H₀ ex pz) ifs tt) (hte:∀C s₀ H₀ ex pz,PE (blk X N scope cl C s₀ H₀ ex pz) elt te)
  (hs:autoParam (∀x,foldedSetIterable iter X.env x=pure x) L2.Internal.auI._auto_1):PE X (.ListComp elt [⟨.Name x px,iter,ifs,0⟩] scope pos) (tLC wi f i tt te):=by
 intro pz s σ H Q I h
 rw[eval_ListComp]
 refine yK hc B hi htt hte hs I h fun fl s3 s6 H3 H5 d m I3 I7 fr hn qn=>?_
 refine⟨m,hn,fun h' sb=>⟨.ref d,H5,?_,rfl,qn⟩⟩
 exact Inv.turned (h':=h') (t':=s6.toks) (it:=s3.heap.objs.size) I7 (fun b o hb e=>(sb.2 b hb).trans e) fr (b6 I3.lt) (.inr I3.sz) (fun z c e q=>by
  obtain⟨v,q2⟩:=I3.cell z c e
  exact absurd (q▸q2.lt) (bX _)) fun p hp q=>absurd (q▸eI (I3.pin p hp).1) (bX _)
section
variable {X:Cx}
theorem AA {bs:List Bool}:∀{us:List Value},gP (bs.map V.bl) us->us=bs.map Value.bool:=by
 induction bs with
 |nil=>intro us r;rw[aT]at r;cases r;rfl
 |cons n ns ih=>
  intro us r
  rw[aB]at r
  cases r with
  |cons r1 r2=>
   cases(show _=Value.bool n from r1)
   rw[ih r2]
   rfl
theorem xo (bs:List Bool):((aa bs.length).all fun i=>(bs[i]?).getD true)=bs.all id:=by
 induction bs with
 |nil=>rfl
 |cons b r ih=>
  rw[az,aY,aZ,List.all_map,aZ,<-ih]
  rfl
theorem xp {h h':Heap} {o:Obj} (hk:∀b x,b∉[h.objs.size]->(h.push o).get? b=some x->h'.get? b=some x):∀b x,h.get? b=some x->h'.get? b=some x:=
 fun b x e=>hk b x (fun hm=>by rw[ba.mp hm]at e;exact bX _ (eI e)) (eK _ e)
theorem AB (hc:X.calm=true):ox X (.builtin "all") (fun xs H Q=>∃(a:Addr) (bs:List Bool),xs=[.ref a]/\SqL X.K H a (bs.map V.bl)/\Q (.bl (bs.all id)) H):=by
 intro pz s σ H xs us Q I r h
 obtain⟨a,bs,rfl,ha,q⟩:=h
 obtain⟨u,rfl,ru⟩:=qc r
 cases ru
 obtain⟨its,rv,pl,hz⟩:=I.list ha
 have ei:=AA rv
 subst ei
 have hl:s.heap.IsList a (bs.map Value.bool).toArray:=pl.isList
 have hlt:a<s.heap.objs.size:=by obtain⟨_,e,_⟩:=hl;exact eI e
 refine call_all_walk (wpAny_pyIter_list hl ?_)
 refine⟨s.heap.objs.size,[s.heap.objs.size,a],[s.heap.objs.size],(bs.map Value.bool).toArray.size,_,_,fun i=>(bs[i]?).getD true,rfl,Walks.list (A:=X.A.in1) (I.ok.hd hc) _ a (bY hlt) (bs.map Value.bool).toArray,
  ⟨⟨_,eJ _ rfl,rfl,rfl⟩,hl.push _⟩,fun i v s' Q' E' hP hQ=>?_,fun h' tk hk=>?_⟩
 ·have hv:(bs.map Value.bool)[i]?=some v:=by simpa using hP
  rw[aK]at hv
  cases e:bs[i]? with
  |none=>rw[e]at hv;cases hv
  |some b=>
   rw[e]at hv
   have e2:v=Value.bool b:=(cC.inj hv).symm
   subst e2
   simp only[e,Option.getD_some]at hQ
   exact wpAny_truthy_bool hQ
 ·have e:((aa (bs.map Value.bool).toArray.size).all fun i=>(bs[i]?).getD true)=bs.all id:=by
   rw[ay,aC];exact xo bs
  rw[e]
  exact⟨.bl (bs.all id),H,I.kept (xp hk),rfl,q⟩
def rSlS:V->Option Int->Option Int->Hp->VK->Prop:=fun x lo hi H Q=>∃z,x= .str z/\z.length<=sizeLine/\Q (.str (Txt.slice z lo hi)) H
theorem Bv:SlR X rSlS:=by
 intro pz s σ H x v vl vu lo hi sl Q I rx hs pl pu h
 obtain⟨z,rfl,hz,q⟩:=h
 obtain⟨t,rfl⟩:=rx
 refine⟨"str",_,F.slot_str_getitem.lookup,typeIs_str _ _ _,?_⟩
 have fin:∀t' k,EP X pz σ Q (.str (Txt.slice z lo hi) t') {s with toks:=k}:=fun t' k=>⟨.str _,H,I.tok k,⟨t',rfl⟩,q⟩
 cases pl with
 |none=>
  cases pu with
  |none=>exact wpAny_getItem_str_slice (l:=none) (u:=none) (st:=none) hs rfl (post_val_or_str ⟨bZ (Txt.slice_le z _ _) hz,fun t' k=>fin t' k⟩)
  |int j u=>exact wpAny_getItem_str_slice (l:=none) (u:=some (j,u)) (st:=none) hs rfl (post_val_or_str ⟨bZ (Txt.slice_le z _ _) hz,fun t' k=>fin t' k⟩)
 |int i u'=>
  cases pu with
  |none=>exact wpAny_getItem_str_slice (l:=some (i,u')) (u:=none) (st:=none) hs rfl (post_val_or_str ⟨bZ (Txt.slice_le z _ _) hz,fun t' k=>fin t' k⟩)
  |int j u=>exact wpAny_getItem_str_slice (l:=some (i,u')) (u:=some (j,u)) (st:=none) hs rfl (post_val_or_str ⟨bZ (Txt.slice_le z _ _) hz,fun t' k=>fin t' k⟩)
theorem jX:ox X (.builtin "isinstance") (fun xs H Q=>∃x v c t b,xs=[x,v]/\(∀u,gU v u->u=c)/\va X.K H x t/\PySem.W.kitOne X.K t c=some b/\Q (.bl b) H):=by
 intro pz s σ H xs us Q I r h
 obtain⟨x,v,c,t,b,rfl,hc,ht,hk,q⟩:=h
 obtain⟨u,u',rfl,ru,ru'⟩:=Aq r
 cases hc u' ru'
 exact yq I ru ht hk fun tk=>⟨.bl b,H,I.tok tk,rfl,q⟩
end
section
variable {X:Cx}
open Builtin Builtin.Str in
def PE1 (X:Cx) (e:Expr) (t:TE):Prop:=
 ∀(pz:List (Addr×Obj)) (s:Shared) (σ:St) (H:Hp) (Q:VK),Inv X pz σ H s->1<=s.toks->t σ H Q->wpAny (model X.prog X.w) X.A (eval e X.env) (fun u s'=>1<=s'.toks/\EP X pz σ Q u s') X.xe s
theorem PE.one {e:Expr} {t:TE} (h:PE X e t):PE1 X e t:=fun pz s σ H Q I ht hw=>wpAny_mono (wpAny_toks_of ht (h pz s σ H Q I hw)) (fun _ _ z=>z) fun _ _ z=>z.2
def GA (X:Cx) (st:List Stmt) (t:TS):Prop:=
 ∀(pz:List (Addr×Obj)) (s:Shared) (σ:St) (H:Hp) (D:pj),Inv X pz σ H s->1<=s.toks->t D σ H->wpAny (model X.prog X.w) X.A (execs st X.env) (SP X pz D) X.xe s
theorem GA.nox {st:List Stmt} {t:TS} (h:GA X.nox st t):GA X st t:=fun pz s σ H D I ht hw=>
 wpAny_mono (h pz s σ H D (I.wish _) ht hw) (fun _ _ q=>q.unwish) fun _ _ z=>False.elim z
end
section
variable {X:Cx} {st:Stmt} {rest:List Stmt} {t u:TS}
end
section
variable {P:Program} {w:World} {H H':Hp} {h h':Heap} {a:Addr} {o:HO}
end
structure Fl (P:Program) (w:World) (outer:List Env) (H:Hp) (s:Shared) (B:Heap) (H':Hp) (s':Shared):Prop where
 os:s'.os=s.os
 bare:AllBare s'.gens
 un:Un (frs outer) [] H H' s.heap s'.heap
 hok:HOk P w H' s'.heap
 stay:B.StaysIn s'.heap
 trk:∀b u,H' b=some u->∃o,B.get? b=some o
 old:∀b o,s.heap.get? b=some o->b∉frs outer->∃o',B.get? b=some o'
section
variable {X:Cx} {pz:List (Addr×Obj)} {σ:St} {H H':Hp} {s s':Shared} {B h:Heap}
theorem Inv.track {ea:Addr} {o:HO} (I:Inv X pz σ H s) (hn:H ea=none) (h0:X.s₀.heap.get? ea=none) (hL:ea≠X.env.locals) (hC:∀x c,X.env.cells.lookup x=some c->c≠ea) (hP:∀p∈X.pn++pz,p.1≠ea)
  (new:hX X.prog X.w (upd H ea o) s.heap ea o):Inv X pz σ (upd H ea o) s:=by
 have ne:∀b u,H b=some u->b≠ea:=fun b u e z=>by rw[z,hn]at e;cases e
 refine⟨I.ok,I.os,I.bare,⟨I.base.keep,I.base.slot,fun b ob e n hx=>?_,I.base.there,fun b xs e=>?_,fun b ob u e=>?_,fun b ps e=>?_⟩,I.loc,I.cell,?_,fun x c e=>?_,fun p hp=>?_,fun b u e=>?_,I.len⟩
 ·rw[eX (fun z=>by rw[z,h0]at e;cases e)]
  exact I.base.free b ob e n hx
 ·have e1:=I.base.tups b xs e
  rw[eX (ne b _ e1)]
  exact e1
 ·have e1:=I.base.frzs b ob u e
  rw[eX (ne b _ e1)]
  exact e1
 ·obtain⟨more,e1⟩:=I.base.tbls b ps e
  exact⟨more,by rw[eX (ne b _ e1)];exact e1⟩
 ·rw[eX (Ne.symm hL)]
  exact I.free
 ·rw[eX (hC x c e)]
  exact I.freeC x c e
 ·obtain⟨e,n,n2,nf,d⟩:=I.pin p hp
  exact⟨e,by rw[eX (hP p hp)];exact n,n2,nf,d⟩
 ·by_cases hb:b=ea
  ·subst hb
   rw[eS]at e
   cases e
   exact new
  ·rw[eX hb]at e
   exact(I.hok b u e).stay (fun _ _ _ q=>q) (fun c z=>by rw[eX (ne c _ z)];exact z) fun c xs z=>by rw[eX (ne c _ z)];exact z
end
section
variable {P:Program} {w:World} {K:PySem.W.Frag} {mg:Str->Option Value} {base:Heap} {N:List Str} {qual:Str} {scope:Scope} {f:Addr} {cd:Value} {A:Around} {outer:List Env} {s₀:Shared} {H₀:Hp} {E:XK}
end
def VEbm:List Value:=[.type "ValueError",.type "Exception",.type "BaseException",.type "object"]
section
variable {X:Cx} {C:Addr} {E:XK} {x:Str} {np cpos pos:Pos} {e:Expr} {es:List Expr} {t:TA}
end
section
variable {P:Program} {w:World} {K:PySem.W.Frag} {mg:Str->Option Value} {base:Heap}
end
section
variable {X:Cx} {pz:List (Addr×Obj)} {σ:St} {H:Hp} {s:Shared}
end
section
variable {X:Cx} {CX:CXT} {k:Nat} {f Y:Addr} {fd:FuncData} {ps:List Str} {sp:Sp} {dvs:List V} {ds:List Value} {E:XK} {x y n:Str} {p pos pos' py hpos tpos:Pos} {e:Expr} {es:List Expr} {t:TA} {b₀:Stmt} {body:List Stmt} {tb:TS} {i:Nat}
end
section
variable {X:Cx} {e:Expr} {es:List Expr} {te:TE} {pos:Pos}
end
section
variable {X:Cx}
end
inductive Dt where
 |flat (v:V)
 |tup (l:List Dt)
 |lst (l:List Dt)
mutual
inductive At (K:PySem.W.Frag) (H:Hp):V->Dt->Prop where
 |flat {v:V} (h:yD v=true):At K H v (.flat v)
 |tup {a:Addr} {xs:List V} {ds:List Dt} (h:SqT K H a xs) (hs:Ats K H xs ds):At K H (.ref a) (.tup ds)
 |lst {a:Addr} {xs:List V} {ds:List Dt} (h:SqL K H a xs) (hs:Ats K H xs ds):At K H (.ref a) (.lst ds)
inductive Ats (K:PySem.W.Frag) (H:Hp):List V->List Dt->Prop where
 |nil:Ats K H [] []
 |cons {x:V} {d:Dt} {xs:List V} {ds:List Dt} (h:At K H x d) (hs:Ats K H xs ds):Ats K H (x::xs) (d::ds)
end
mutual
def eqD:Dt->Dt->Bool
 | .flat a,.flat b=>eqV a b
 | .tup l,.tup m=>uX l m
 | .lst l,.lst m=>uX l m
 |_,_=>false
def uX:List Dt->List Dt->Bool
 |[],[]=>true
 |x::xs,y::ys=>eqD x y&&uX xs ys
 |_,_=>false
end
mutual
def pY:Dt->Dt->Bool
 | .flat _,.flat _=>true
 | .tup l,.tup m=>t9 l m
 | .lst l,.lst m=>if l.length=m.length then t9 l m else true
 |_,_=>false
def t9:List Dt->List Dt->Bool
 |x::xs,y::ys=>pY x y&&t9 xs ys
 |_,_=>true
end
mutual
def iE:Dt->Nat
 | .flat _=>0
 | .tup l=>fZ l+ 1
 | .lst l=>fZ l+ 1
def fZ:List Dt->Nat
 |[]=>0
 |x::xs=>max (iE x) (fZ xs)
end
theorem Ats.length {K:PySem.W.Frag} {H:Hp}:∀{xs:List V} {ds:List Dt},Ats K H xs ds->xs.length=ds.length
 |_,_,.nil=>rfl
 |_,_,.cons _ t=>by rw[az,az,Ats.length t]
theorem Ats.get {K:PySem.W.Frag} {H:Hp}:∀{xs:List V} {ds:List Dt} {j:Nat} {x:V},Ats K H xs ds->xs[j]?=some x->∃d,ds[j]?=some d/\At K H x d
 |_,_,0,_,.cons h _,e=>⟨_,rfl,by cases e;exact h⟩
 |_,_,j+ 1,_,.cons _ t,e=>Ats.get (j:=j) t e
 |_,_,_,_,.nil,e=>by simp at e
theorem sC:∀(l m:List Dt),l.length≠m.length->uX l m=false
 |[],[],h=>absurd rfl h
 |x::xs,y::ys,h=>by
  rw[uX,sC xs ys (fun e=>h (by rw[az,az,e])),dY]
 |[],y::ys,_=>by rw[uX];all_goals simp
 |x::xs,[],_=>by rw[uX];all_goals simp
def xq (l m:List Dt) (j:Nat):Bool:=match l[j]?,m[j]? with
 |some a,some b=>eqD a b
 |_,_=>false
theorem oE:∀(l m:List Dt),l.length=m.length->((aa l.length).all fun j=>xq l m j)=uX l m
 |[],[],_=>by rw[uX];rfl
 |x::xs,y::ys,h=>by
  have ih:=oE xs ys (by simpa using h)
  rw[az,aY,aZ,List.all_map,uX,<-ih]
  rfl
 |[],_::_,h=>by simp at h
 |_::_,[],h=>by simp at h
theorem lP:∀{l m:List Dt} {j:Nat} {a b:Dt},t9 l m=true->l[j]?=some a->m[j]?=some b->pY a b=true
 |x::xs,y::ys,0,a,b,h,e1,e2=>by
  rw[t9,dX]at h
  cases e1
  cases e2
  exact h.1
 |x::xs,y::ys,j+ 1,a,b,h,e1,e2=>by
  rw[t9,dX]at h
  exact lP (j:=j) h.2 e1 e2
 |[],_,_,_,_,_,e1,_=>by simp at e1
 |_::_,[],_,_,_,_,_,e2=>by simp at e2
theorem depDs_get:∀{l:List Dt} {j:Nat} {a:Dt},l[j]?=some a->iE a<=fZ l
 |x::xs,0,a,e=>by cases e;rw[fZ];exact Nat.le_max_left ..
 |x::xs,j+ 1,a,e=>by rw[fZ];exact bZ (depDs_get (j:=j) e) (Nat.le_max_right ..)
 |[],_,_,e=>by simp at e
theorem ub {v:V} (h:yD v=true):eqV v v=true:=by
 cases v with
 |non=>rfl
 |bl b=>show(b==b)=true;simp
 |int i=>show(i==i)=true;simp
 |str x=>show(x==x)=true;simp
 |_=>exact absurd h dU
section
variable {X:Cx} {pz:List (Addr×Obj)} {σ:St} {H:Hp} {s:Shared}
mutual
theorem At.same (I:Inv X pz σ H s):∀{x:V} {d e:Dt},At X.K H x d->At X.K H x e->pY d e=true->eqD d e=true
 |_,_,_,.flat h,.flat _,_=>by rw[eqD];exact ub h
 |_,_,_,.tup h hs,.tup h' hs',c=>by
  have e:=I.tuple_inj h h'
  subst e
  rw[pY]at c
  rw[eqD]
  exact Ats.same I hs hs' c
 |_,_,_,.lst h hs,.lst h' hs',c=>by
  have e:=I.list_inj h h'
  subst e
  rw[pY,f6 (hs.length.symm.trans hs'.length)]at c
  rw[eqD]
  exact Ats.same I hs hs' c
 |_,_,_,.flat h,.tup _ _,_=>absurd h dU
 |_,_,_,.flat h,.lst _ _,_=>absurd h dU
 |_,_,_,.tup _ _,.flat h,_=>absurd h dU
 |_,_,_,.lst _ _,.flat h,_=>absurd h dU
 |_,_,_,.tup _ _,.lst _ _,c=>by simp[pY]at c
 |_,_,_,.lst _ _,.tup _ _,c=>by simp[pY]at c
theorem Ats.same (I:Inv X pz σ H s):∀{xs:List V} {l m:List Dt},Ats X.K H xs l->Ats X.K H xs m->t9 l m=true->uX l m=true
 |_,_,_,.nil,.nil,_=>by rw[uX]
 |_,_,_,.cons h t,.cons h' t',c=>by
  rw[t9,dX]at c
  rw[uX,At.same I h h' c.1,Ats.same I t t' c.2]
  rfl
end
def Els (K:PySem.W.Frag) (H:Hp) (A:Around) (s:Shared) (ds es:List Dt):Prop:=
 ∀(j:Nat) (d1 d2:Dt) (x y:V) (u v:Value),ds[j]?=some d1->es[j]?=some d2->gU x u->gU y v->At K H x d1->At K H y d2->SeqAt.EqAt A s u v (eqD d1 d2)
theorem els {A:Around} {xs ys:List V} {its its2:List Value} {ds es:List Dt} (r:gP xs its) (r2:gP ys its2) (hs:Ats X.K H xs ds) (hs':Ats X.K H ys es) (EL:Els X.K H A s ds es):
  ∀j (h1:j<its.toArray.size) (h2:j<its2.toArray.size),SeqAt.EqAt A s its.toArray[j] its2.toArray[j] (xq ds es j):=fun j h1 h2=>by
 have l1:=r.length
 have l2:=r2.length
 have h1':j<xs.length:=by simp only[ay]at h1;lia
 have h2':j<ys.length:=by simp only[ay]at h2;lia
 obtain⟨w1,e1,q1⟩:=r.get (bb h1')
 obtain⟨w2,e2,q2⟩:=r2.get (bb h2')
 obtain⟨d1,f1,p1⟩:=hs.get (bb h1')
 obtain⟨d2,f2,p2⟩:=hs'.get (bb h2')
 have g1:its.toArray[j]=w1:=by simpa using(ar.mp e1).2
 have g2:its2.toArray[j]=w2:=by simpa using(ar.mp e2).2
 have ed:xq ds es j=eqD d1 d2:=by unfold xq;rw[f1,f2]
 rw[g1,g2,ed]
 exact EL j d1 d2 _ _ _ _ f1 f2 q1 q2 p1 p2
theorem CG {ds es:List Dt} {n m:Nat} (h1:n=ds.length) (h2:m=es.length):((aa (min n m)).all (xq ds es)&&n==m)=eqD (.tup ds) (.tup es):=by
 subst h1 h2
 rw[eqD]
 by_cases hl:ds.length=es.length
 ·rw[<-oE ds es hl,<-hl,Nat.min_self]
  simp
 ·rw[sC ds es hl,beq_eq_false_iff_ne.mpr hl,dY]
theorem CH {ds es:List Dt} {n:Nat} (h1:n=ds.length) (h:ds.length=es.length):((aa n).all (xq ds es))=eqD (.lst ds) (.lst es):=by
 subst h1
 rw[eqD,<-oE ds es h]
theorem yL {A:Around} {a b:Addr} {xs ys:List V} {ds es:List Dt} (I:Inv X pz σ H s) (h:SqT X.K H a xs) (hs:Ats X.K H xs ds) (h':SqT X.K H b ys) (hs':Ats X.K H ys es) (hu:A.units<cLine) (EL:Els X.K H A.in1 s ds es):
  SeqAt.RcAt A s (.ref a) (.ref b) (eqD (.tup ds) (.tup es))/\SeqAt.RcNeAt A s (.ref a) (.ref b) (!eqD (.tup ds) (.tup es)):=by
 obtain⟨its,r,pl,_⟩:=I.tuple h
 obtain⟨its2,r2,pl2,_⟩:=I.tuple h'
 have e:=els r r2 hs hs' EL
 have l1:its.toArray.size=ds.length:=by rw[ay,<-r.length,hs.length]
 have l2:its2.toArray.size=es.length:=by rw[ay,<-r2.length,hs'.length]
 have k1:=SeqAt.RcAt.tuples (A:=A) (s:=s) pl pl2 hu e
 have k2:=SeqAt.RcNeAt.tuples (A:=A) (s:=s) pl pl2 hu e
 rw[CG l1 l2]at k1 k2
 exact⟨k1,k2⟩
theorem Bx {A:Around} {a b:Addr} {xs ys:List V} {ds es:List Dt} (I:Inv X pz σ H s) (h:SqL X.K H a xs) (hs:Ats X.K H xs ds) (h':SqL X.K H b ys) (hs':Ats X.K H ys es) (hu:A.units<cLine) (EL:ds.length=es.length->Els X.K H A.in1 s ds es):
  SeqAt.RcAt A s (.ref a) (.ref b) (eqD (.lst ds) (.lst es))/\SeqAt.RcNeAt A s (.ref a) (.ref b) (!eqD (.lst ds) (.lst es)):=by
 obtain⟨its,r,pl,_⟩:=I.list h
 obtain⟨its2,r2,pl2,_⟩:=I.list h'
 have l1:its.toArray.size=ds.length:=by rw[ay,<-r.length,hs.length]
 have l2:its2.toArray.size=es.length:=by rw[ay,<-r2.length,hs'.length]
 by_cases hl:ds.length=es.length
 ·have e:=els r r2 hs hs' (EL hl)
  have k1:=SeqAt.RcAt.lists (A:=A) (s:=s) pl.isList pl2.isList (by rw[l1,l2,hl]) hu e
  have k2:=SeqAt.RcNeAt.lists (A:=A) (s:=s) pl.isList pl2.isList (by rw[l1,l2,hl]) hu e
  rw[CH l1 hl]at k1 k2
  exact⟨k1,k2⟩
 ·have hne:(its.toArray.size !=its2.toArray.size)=true:=by rw[l1,l2];exact bne_iff_ne.mpr hl
  have k1:=SeqAt.RcAt.lists_lengths (A:=A) (s:=s) pl.isList pl2.isList hne hu
  have k2:=SeqAt.RcNeAt.lists_lengths (A:=A) (s:=s) pl.isList pl2.isList hne hu
  rw[eqD,sC ds es hl]
  exact⟨k1,k2⟩
theorem By (I:Inv X pz σ H s):∀(n:Nat) (A:Around) {x y:V} {u v:Value} {d e:Dt},gU x u->gU y v->At X.K H x d->At X.K H y e->pY d e=true->iE d<=n->A.units+n<cLine->SeqAt.EqAt A s u v (eqD d e):=by
 intro n
 induction n with
 |zero=>
  intro A x y u v d e rx ry hx hy c hd hu
  cases hx with
  |flat h=>
   cases hy with
   |flat h'=>rw[eqD];exact v5 rx ry h h'
   |tup _ _=>simp[pY]at c
   |lst _ _=>simp[pY]at c
  |tup _ _=>rw[iE]at hd;lia
  |lst _ _=>rw[iE]at hd;lia
 |succ n ih=>
  intro A x y u v d e rx ry hx hy c hd hu
  cases hx with
  |flat h=>
   cases hy with
   |flat h'=>rw[eqD];exact v5 rx ry h h'
   |tup _ _=>simp[pY]at c
   |lst _ _=>simp[pY]at c
  |@tup a xs ds h hs=>
   cases hy with
   |flat _=>simp[pY]at c
   |lst _ _=>simp[pY]at c
   |@tup b ys es h' hs'=>
    cases rx
    cases ry
    by_cases hab:a=b
    ·subst hab
     rw[At.same I (.tup h hs) (.tup h' hs') c]
     exact SeqAt.EqAt.same _
    ·rw[pY]at c
     rw[iE]at hd
     refine SeqAt.EqAt.of_refs hab (yL I h hs h' hs' (by lia) fun j d1 d2 x y u v f1 f2 q1 q2 p1 p2=>?_).1
     exact ih A.in1 q1 q2 p1 p2 (lP c f1 f2) (bZ (depDs_get f1) (by lia)) (by show A.units+ 1+n<cLine;lia)
  |@lst a xs ds h hs=>
   cases hy with
   |flat _=>simp[pY]at c
   |tup _ _=>simp[pY]at c
   |@lst b ys es h' hs'=>
    cases rx
    cases ry
    by_cases hab:a=b
    ·subst hab
     rw[At.same I (.lst h hs) (.lst h' hs') c]
     exact SeqAt.EqAt.same _
    ·rw[iE]at hd
     refine SeqAt.EqAt.of_refs hab (Bx I h hs h' hs' (by lia) fun hl j d1 d2 x y u v f1 f2 q1 q2 p1 p2=>?_).1
     rw[pY,f6 hl]at c
     exact ih A.in1 q1 q2 p1 p2 (lP c f1 f2) (bZ (depDs_get f1) (by lia)) (by show A.units+ 1+n<cLine;lia)
def rEqD (K:PySem.W.Frag) (neg:Bool):R2:=fun x y H Q=>∃a b d e,x= .ref a/\y= .ref b/\At K H x d/\At K H y e/\pY d e=true/\iE d<=100/\Q (.bl (if neg then !eqD d e else eqD d e)) H
theorem rcD (I:Inv X pz σ H s) {A:Around} {a b:Addr} {d e:Dt} (hx:At X.K H (.ref a) d) (hy:At X.K H (.ref b) e) (c:pY d e=true) (hd:iE d<=100) (hu:A.units+ 101<cLine):
  SeqAt.RcAt A s (.ref a) (.ref b) (eqD d e)/\SeqAt.RcNeAt A s (.ref a) (.ref b) (!eqD d e):=by
 cases hx with
 |flat h=>exact absurd h dU
 |@tup a xs ds h hs=>
  cases hy with
  |flat h=>exact absurd h dU
  |lst _ _=>simp[pY]at c
  |@tup b ys es h' hs'=>
   rw[pY]at c
   rw[iE]at hd
   refine yL I h hs h' hs' (by lia) fun j d1 d2 x y u v f1 f2 q1 q2 p1 p2=>?_
   exact By I 100 A.in1 q1 q2 p1 p2 (lP c f1 f2) (bZ (depDs_get f1) (by lia)) (by show A.units+ 1+ 100<cLine;lia)
 |@lst a xs ds h hs=>
  cases hy with
  |flat h=>exact absurd h dU
  |tup _ _=>simp[pY]at c
  |@lst b ys es h' hs'=>
   rw[iE]at hd
   refine Bx I h hs h' hs' (by lia) fun hl j d1 d2 x y u v f1 f2 q1 q2 p1 p2=>?_
   rw[pY,f6 hl]at c
   exact By I 100 A.in1 q1 q2 p1 p2 (lP c f1 f2) (bZ (depDs_get f1) (by lia)) (by show A.units+ 1+ 100<cLine;lia)
end
section
variable {X:Cx}
theorem Ez {k:Nat} (hr:lJ k X.A):OpR X (compareOp .NotEq) (rEqD X.K true):=by
 intro pz s σ H x y v u Q I rx ry h
 obtain⟨a,b,d,e,rfl,rfl,hx,hy,c,hd,q⟩:=h
 cases rx
 cases ry
 have hu:=hr.un
 exact(rcD I hx hy c hd (by lia)).2 _ _ _ _ ⟨.bl _,H,I,rfl,q⟩
end
def CI (P:Program) (w:World) (K:PySem.W.Frag) (a:Addr) (kvs:List (Key×V)):Prop:=(a==sysModules)=false/\∃vs,KV kvs vs/\∀h:Heap,K.In h->h.DictOf (iO P w) a vs
theorem AD {P:Program} {w:World} {K:PySem.W.Frag} {a:Addr} {es:Array DictEntry} {n:Nat} {l:List (Str×Tok×Addr)} (ha:(a==sysModules)=false) (hl:K.lookup a=some ⟨.type "dict",none,.dict es n,#[]⟩)
  (he:es.toList=l.map fun p=>⟨PyData.keyHash w.params p.1,.str p.1 p.2.1,.ref p.2.2⟩) (hn:(l.map (·.1)).Nodup):CI P w K a (l.map fun p=>(Sum.inr p.1,V.ref p.2.2)):=by
 refine⟨ha,l.map fun p=>(Sum.inr p.1,Value.ref p.2.2),?_,fun h hk=>?_⟩
 ·clear he hn
  induction l with
  |nil=>exact .nil
  |cons p r ih=>exact .cons ⟨rfl,rfl⟩ ih
 ·refine⟨_,es,n,hk _ _ hl,⟨rfl,rfl,rfl⟩,rfl,fun e hm=>?_,?_,?_⟩
  ·have hm':e∈es.toList:=by simpa using hm
   rw[he]at hm'
   obtain⟨p,_,rfl⟩:=bc.mp hm'
   exact⟨Sum.inr p.1,p7 p.1 p.2.1,rfl⟩
  ·rw[he]
   clear he hn
   induction l with
   |nil=>exact .nil
   |cons p r ih=>exact .cons (p7 p.1 p.2.1) rfl ih
  ·rw[bf]
   have e:(bg ((fun(x:Key×Value)=>x.1)∘fun(p:Str×Tok×Addr)=>((Sum.inr p.1:Key),Value.ref p.2.2)) l)=(l.map (·.1)).map (Sum.inr:Str->Key):=by
    rw[bf]
    rfl
   rw[e]
   exact List.Pairwise.map _ (fun a b h z=>h (Sum.inr.inj z)) hn
def GB (a:Addr) (kvs:List (Key×V)) (td ty:TE):TE:=fun σ H Q=>td σ H fun x H1=>ty σ H1 fun y H2=>∃k v,x= .ref a/\y=kV k/\lK kvs k=some v/\Q v H2
section
variable {X:Cx} {o i:Expr} {pos:Pos} {td ty:TE} {a:Addr} {kvs:List (Key×V)}
theorem CJ (d:CI X.prog X.w X.K a kvs) (ho:PE X o td) (hi:PE X i ty) (hs:Gv i:=by exact fun _ _=>rfl):PE X (.Subscript o i pos) (GB a kvs td ty):=by
 intro pz s σ H Q I h
 refine yy dH.lookup hs (thn (ho pz s σ H _ I h) fun u s1 ⟨x,H1,I1,rx,q1⟩=>thn (hi pz s1 σ H1 _ I1 q1) fun iv s2 ⟨y,H2,I2,ry,k,v,ex,ey,hv,q2⟩=>?_)
 subst ex ey
 obtain rfl:u=Value.ref a:=rx
 obtain⟨_,vs,rel,dd⟩:=d
 obtain⟨w',hw,rw'⟩:=sr.some_of (v:=v) (o:=valueAt vs k) (by rw[<-hv];exact rel.val k)
 exact⟨(dd _ I2.kIn).typeIs,wpAny_getItem_of (Aw ry) (dd _ I2.kIn).mapOf hw ⟨v,H2,I2.tok _,rw',q2⟩⟩
end
section
variable {X:Cx}
end
section
variable {X:Cx} {k:Nat} {f Y:Addr} {fd:FuncData} {ps:List Str} {sp:Sp} {dvs:List V} {ds:List Value} {x y n:Str} {p pos pos' py hpos tpos pn:Pos} {e:Expr} {es:List Expr} {t:TA} {b₀:Stmt} {body:List Stmt} {tb:TS} {i:Nat}
end
end L2.Internal
namespace L2.Internal
end L2.Internal
namespace L2.Internal
open PySem PySem.Spec PyProof.Rows
section
variable {X:Cx} {pz:List (Addr×Obj)} {σ:St} {H:Hp} {s:Shared} {h':Heap}
theorem Inv.turnedL {t':Nat} {ch:List Addr} (I:Inv X pz σ H s) (k:∀b o,b∉ch->s.heap.get? b=some o->h'.get? b=some o) (hf:∀b∈ch,wW X pz H b):Inv X pz σ H {s with heap:=h',toks:=t'}:=by
 have nit:∀b u,H b=some u->b∉ch:=fun b u e z=>by
  have q:=(hf b z).1
  rw[q]at e;cases e
 refine I.step (g':=s.gens) (d':=s.drawn) (ch:=ch) (fun b hb=>?_) (fun b o _ _ hc e _=>k b o hc e) (fun b o _ _ hc e _=>⟨o.slots,k b o hc e⟩) (fun _ _ _ _ n=>n)
  (fun b o hc e=>⟨o,k b o hc e⟩) (fun _ _ e=>e) (fun _ _ _ e=>e) (fun b ps e=>⟨#[],by rw[e];simp⟩) (fun m hm=>?_) (fun b u e=>?_) I.bare
 ·obtain⟨_,f1,_,f3,f4,f5⟩:=hf b hb
  exact⟨f3,f1,f4,f5⟩
 ·obtain⟨o,es,ep,ho,r⟩:=hm
  exact⟨o,es,ep,k _ o (fun z=>(hf _ z).2.1 rfl) ho,r⟩
 ·refine(I.hok b u e).stay (fun c v hc q=>k c v ?_ q) (fun _ q=>q) fun _ _ q=>q
  rcases hc with z|z
  ·rw[z];exact nit b u e
  ·exact nit c _ z
theorem Inv.pairNew {T:Addr} {h:Heap} {tk:Nat} {ux uy:Value} {x y:V} (I:Inv X pz σ H s) (hT:s.heap.objs.size<=T) (J:Inv X pz σ H {s with heap:=h,toks:=tk}) (ht:vK h T #[ux,uy]) (rx:gU x ux) (ry:gU y uy):
  H T=none/\Inv X pz σ (upd H T (.tup [x,y])) {s with heap:=h,toks:=tk}:=by
 have f:=I.fpOk (H':=H) hT (I.hok.fresh hT)
 refine⟨f.1,J.track f.1 ?_ f.2.1 f.2.2.2.2.1 f.2.2.2.2.2 ⟨by show 2<=sizeLine;decide,[ux,uy],.cons rx (.cons ry .nil),ht⟩⟩
 cases q:X.s₀.heap.get? T with
 |none=>rfl
 |some o=>exact absurd (bW (eI q) (bZ I.sz hT)) (bX _)
end
theorem EA:bootBuiltins "zip"=some (.type "zip"):=fW
theorem pk:bootBuiltins "enumerate"=some (.type "enumerate"):=fW
theorem SqL.old {X:Cx} {pz:List (Addr×Obj)} {σ:St} {H:Hp} {s:Shared} {a:Addr} {xs:List V} (I:Inv X pz σ H s) (h:SqL X.K H a xs):a<s.heap.objs.size:=by
 obtain⟨its,_,p,_⟩:=I.list h
 obtain⟨o,e,_⟩:=p.isList
 exact eI e
section
variable {X:Cx}
end
def Ite (K:PySem.W.Frag) (a:Addr):It:=
 ⟨fun i H=>∃xs x,SqL K H a xs/\xs[i]?=some x,
   fun i H v H'=>∃T x,v= .ref T/\H T=none/\H'=upd H T (.tup [.int (i:Int),x])/\∀xs,SqL K H a xs->xs[i]?=some x,
   fun i H=>∃xs,SqL K H a xs/\i=xs.length⟩
def ESt (e it a:Addr) (i:Nat) (h:Heap):Prop:=(∃old,IsEnum h e it i old)/\h.IsListIter it a i
theorem yM {P:Program} {w:World} {K:PySem.W.Frag} {es:List Expr} {kk:Nat} {tp:Pos} {a e it:Addr} (h1:e≠it) (h2:a≠e) (h3:a≠it):Ci P w K (.Tuple es kk tp) (Ite K a) [e,it] e (ESt e it a) where
 mem:=by simp
 obj:=fun i h st c hc=>by
  obtain⟨⟨old,g1⟩,⟨o4,g4,_,d4⟩⟩:=st
  simp only[ak,bh,or_false]at hc
  rcases hc with q|q<;>subst q
  ·exact⟨_,g1,fun v q=>nomatch q⟩
  ·exact⟨_,g4,fun v q=>by rw[d4]at q;cases q⟩
 keep:=fun i h h' st k=>by
  obtain⟨⟨old,g1⟩,g4⟩:=st
  exact⟨⟨old,k e (by simp) _ g1⟩,g4.at fun o q=>k it (by simp) o q⟩
 item:=by
  intro X hP hw hK hc i pz s σ H E I hf st hg
  subst hP hw hK
  obtain⟨xs,x,qx,ex⟩:=hg
  obtain⟨i1s,r1,p1,z1⟩:=I.list qx
  obtain⟨g1,g4⟩:=st
  obtain⟨old,g1'⟩:=g1
  obtain⟨ux,hux,rr1⟩:=r1.get ex
  have lte:e<s.heap.objs.size:=eI g1'
  refine wpAny_pyNext_enum_item g1' g4 p1.isList (x:=ux) (by simpa using hux) h1 fun k1 ho hit' hT hsz hk=>?_
  have kk1:∀c o,c∉[e,it]->s.heap.get? c=some o->k1.get? c=some o:=fun c o hc q=>hk c o (fun z=>hc (by simp[z])) (fun z=>hc (by simp[z])) q
  have J1:Inv X pz σ H {s with heap:=k1,toks:=s.toks+ 1}:=I.turnedL kk1 hf
  refine⟨.ref s.heap.objs.size,rfl,wpAny_letOwnedTupleGo_enum ho fun k2 he' sb=>?_⟩
  have J2:Inv X pz σ H {s with heap:=k2,toks:=s.toks+ 1}:=Inv.turnedL (s:={s with heap:=k1,toks:=s.toks+ 1}) (h':=k2) (t':=s.toks+ 1) (ch:=[e]) J1 (fun c o hc q=>(sb.2 c (fun z=>hc (by simp[z]))).trans q) fun c hc=>hf c (by simp only[ak,bh,or_false]at hc⊢;simp[hc])
  have ht2:vK k2 s.heap.objs.size #[.int i s.toks,ux]:=⟨_,(sb.2 _ (b6 lte)).trans hT,rfl,_,rfl,rfl⟩
  obtain⟨fT,J3⟩:=I.pairNew (x:= .int (i:Int)) (b9 _) J2 ht2 ⟨s.toks,rfl⟩ rr1
  refine⟨.ref s.heap.objs.size,_,J3,rfl,⟨_,x,rfl,fT,rfl,fun l hl=>by rw[I.list_inj hl qx];exact ex⟩,⟨⟨_,by simpa using he'⟩,hit'.at fun o y=>(sb.2 it h1.symm).trans y⟩,fun c hc=>?_⟩
  rw[eX (fun q=>?_)]
  ·exact(hf c hc).1
  ·have lt:c<s.heap.objs.size:=by
    obtain⟨o4,e4,_⟩:=g4
    simp only[ak,bh,or_false]at hc
    rcases hc with q|q<;>subst q
    ·exact lte
    ·exact eI e4
   exact absurd lt (by rw[q];exact bX _)
 done:=by
  intro X hP hw hK hc i pz s σ H E I hf st hg
  subst hP hw hK
  obtain⟨xs,qx,ei⟩:=hg
  obtain⟨i1s,r1,p1,z1⟩:=I.list qx
  obtain⟨g1,g4⟩:=st
  have W:=WalksT.enumerate (prog:=X.prog) (w:=X.w) (I.ok.hd hc) e it a h1 h2 h3 i1s.toArray
  have l1:=r1.length
  have q:i=i1s.toArray.size:=by simp only[ay];lia
  subst q
  exact W.done s _ _ ⟨g1,g4,p1.isList⟩ fun h1 tk hk=>⟨rfl,I.turnedL hk hf⟩
 self:=fun _ _ _ _ _ st h=>by
  obtain⟨⟨old,g1⟩,_⟩:=st
  exact wpAny_pyIter_enum g1 h
def GC (K:PySem.W.Frag) (ta:TA):TI:=fun σ H R=>ta σ H fun vs H1=>∃a,vs=[.ref a]/\(∃xs,SqL K H1 a xs)/\R (Ite K a) H1
section
variable {X:Cx}
theorem yN {es:List Expr} {kk:Nat} {tp:Pos} {a:Expr} {ta:TA} {p pos:Pos} (hg:Gl X "enumerate") (hm:X.mg "enumerate"=none) (ha:PA X [a] ta) (hs:autoParam (starEach [a] X.env=[(false,eval a X.env)]) L2.Internal.auR._auto_1):
  PI X (.Tuple es kk tp) (.Call (.Name "enumerate" p) [a] [] pos) (GC X.K ta):=by
 intro pz s σ H R I h
 refine Call_ (p8 I hg hm pk (eP (thn (ha pos pz s σ H _ I h) fun us s1 ⟨vs,H1,I1,r1,q1⟩=>?_) hs rfl))
 obtain⟨l1,e,⟨xs,q1⟩,q⟩:=q1
 subst e
 obtain⟨u,rfl,ru⟩:=qc r1
 cases ru
 obtain⟨i1s,w1,p1,z1⟩:=I1.list q1
 have o1:@LT.lt Nat _ l1 s1.heap.objs.size:=SqL.old I1 q1
 refine call_enumerate_list p1.isList fun h1 hE hi1 hsz hk=>wpAny_pyIter_enum hE ?_
 refine⟨_,_,_,_,H1,rfl,I1.kept (t':=s1.toks) hk,yM (fun(h:@Eq Nat _ _)=>by lia) (fun(h:@Eq Nat _ _)=>by lia) (fun(h:@Eq Nat _ _)=>by lia),⟨⟨_,hE⟩,hi1⟩,fun c hc=>?_,q⟩
 have ge:s1.heap.objs.size<=c:=by
  simp only[ak,bh,or_false]at hc
  rcases hc with h|h<;>rw[h]<;>first|exact b9 _|exact cc _ _
 exact I1.fpOk ge (I1.hok.fresh ge)
end
def LcG (J:It) (g:TG) (te:TE) (Q:VK) (τ:St) (H1:Hp) (D:Addr):Prop:=
 ∃W:Nat->Nat->St->Hp->Prop,(∃m,W 0 m τ (upd H1 D (.lst [])))/\∀k m σ' H2,W k m σ' H2->
  (J.stop k H2/\Q (.ref D) H2)\/(J.go k H2/\∀v H3,J.yld k H2 v H3->g v σ' H3 fun σ4 H4=>te σ4 H4 fun y H5=>∃xs,H5 D=some (.lst xs)/\xs.length<sizeLine/\∃m',m'<m/\W (k+ 1) m' σ4 (upd H5 D (.lst (xs++[y]))))
def tLG (wi:TI) (f:St->St) (g:TG) (te:TE):TE:=fun σ H Q=>wi σ H fun J H1=>∀D,H1 D=none->LcG J g te Q (f σ) H1 D
theorem Bz {X:Cx} {elt iter:Expr} {es:List Expr} {kk:Nat} {tp:Pos} {x:Str} {scope:Scope} {pos:Pos} {N:List Str} {cl:List (Str×Addr)} {f:St->St} {i:Nat} {wi:TI} {g:TG} {te:TE}
  (hc:X.calm=true) (B:qj X N scope cl f i x) (hi:PI X (.Tuple es kk tp) iter wi)
  (hg:∀C s₀ H₀ ex pz,PG (blk X N scope cl C s₀ H₀ ex pz) (.Tuple es kk tp) g) (hte:∀C s₀ H₀ ex pz,PE (blk X N scope cl C s₀ H₀ ex pz) elt te)
  (hs:autoParam (∀x,foldedSetIterable iter X.env x=pure x) L2.Internal.auI._auto_1):PE X (.ListComp elt [⟨.Tuple es kk tp,iter,[],0⟩] scope pos) (tLG wi f g te):=by
 intro pz s σ H Q I h
 rw[eval_ListComp]
 refine wpAny_comprehension_free (use:=none) rfl hs B.clos B.kind B.names (thn (hi pz s σ H _ I h) fun xv s1 h1=>thn h1 fun itv s2 h2=>?_)
 obtain⟨it,fp,tn,J,H2,rfl,I2,T,st2,f2,q⟩:=h2
 have hD:H2 s2.heap.objs.size=none:=I2.fresh
 obtain⟨W,⟨m0,w0⟩,turn⟩:=q _ hD
 refine wpAny_newObj_type (wpAny_newFunctionEnv B.cell (by intro y hy;simp at hy) (fun h₁ hns₁ hsb₁=>?_) B.kind)
 have I3:Inv X pz σ (upd H2 s2.heap.objs.size (.lst [])) {s2 with heap:=s2.heap.push {cls:= .type "list",data:= .seq ([]:List Value).toArray}}:=I2.lnew (its:=[]) (ys:=[]) (t':=s2.toks) .nil (cb _)
 have lt2:∀b∈fp,b<s2.heap.objs.size:=fun b hb=>by
  obtain⟨o,ho,_⟩:=T.obj _ _ st2 b hb
  exact eI ho
 have fp3:∀b∈fp,wW X pz (upd H2 s2.heap.objs.size (.lst [])) b:=fun b hb=>by
  refine⟨?_,(f2 b hb).2⟩
  rw[eX (bY (lt2 b hb))]
  exact(f2 b hb).1
 generalize hs3:({s2 with heap:=s2.heap.push {cls:= .type "list",data:= .seq ([]:List Value).toArray}}:Shared)=s3 at I3 hns₁ hsb₁⊢
 have eh:s2.heap.push {cls:= .type "list",data:= .seq ([]:List Value).toArray}=s3.heap:=by rw[<-hs3]
 have lt3:∀b∈fp,b<s3.heap.objs.size:=fun b hb=>by
  rw[<-eh,eM]
  exact Nat.lt_succ_of_lt (lt2 b hb)
 have old:∀b o,s3.heap.get? b=some o->h₁.get? b=some o:=fun b o e=>hsb₁.extBut b o (bY (eI e)) (eK _ e)
 have I4:=yJ (tk:=s3.toks+([]:List (Str×Value)).length) B I3 (ex:=fp) (fun b hb=>⟨fp3 b hb,lt3 b hb⟩) old hns₁
 have st4:tn 0 h₁:=T.keep _ _ _ st2 fun b _ o e=>old b o (by rw[<-eh];exact eK _ e)
 have fpB:∀{H':Hp},(∀b∈fp,H' b=none)->∀b∈fp,wW (blk X N scope cl s3.heap.objs.size s3 (upd H2 s2.heap.objs.size (.lst [])) fp pz) [] H' b:=fun{H'} hn b hb=>by
  obtain⟨_,g2,g3,g4,g5,g6⟩:=f2 b hb
  refine⟨hn b hb,bY (lt3 b hb),fun z=>(ak.mp (I3.stkSub b z)).elim g2 g3,.inl hb,fun y c e=>g5 y c (B.lk y c e),fun p hp=>?_⟩
  rw[aD]at hp
  exact g6 p hp
 have loop:∀s4:Shared,s4={s3 with heap:=h₁,toks:=s3.toks+([]:List (Str×Value)).length}->
   codeAny (model X.prog X.w) X.A (.compLoop (.ListComp elt [⟨.Tuple es kk tp,iter,[],0⟩] scope pos) 0 (.ref it) (.ref s2.heap.objs.size) (compEnvC scope cl s3.heap.objs.size X.env))
    (compPost (model X.prog X.w) X.A X.xe none (EP X pz σ Q) (.ref s2.heap.objs.size) s3.heap.objs.size) s4:=by
  rintro s4 rfl
  refine PyProof.Rows.LCp.codeAny_compLoop_pair (I:=fun n s'=>∃k σ' H',Inv (blk X N scope cl s3.heap.objs.size s3 (upd H2 s2.heap.objs.size (.lst [])) fp pz) [] σ' H' s'/\tn k s'.heap/\(∀b∈fp,H' b=none)/\W k n σ' H') ?_ m0
   ⟨0,f σ,_,I4,st4,fun b hb=>(fp3 b hb).1,w0⟩
  rintro n s5 ⟨k,σ5,H5,I5,st5,fr5,w5⟩
  rcases turn k n σ5 H5 w5 with⟨stop,qn⟩|⟨go,step⟩
  ·refine wpAny_mono (T.done (blk X N scope cl s3.heap.objs.size s3 (upd H2 s2.heap.objs.size (.lst [])) fp pz) rfl rfl rfl hc k [] s5 σ5 H5 _ I5 (fpB fr5) st5 stop) (fun r s6 h6=>?_) fun _ _ z=>z
   obtain⟨hr,I6⟩:=h6
   subst hr
   obtain⟨m6,hn6,_⟩:=id I6.loc
   refine⟨m6,hn6,fun h' sb=>?_⟩
   have nC:∀b o,s3.heap.get? b=some o->b≠s3.heap.objs.size:=fun b o e=>bY (eI e)
   have u6:Un (frs X.stack) fp (upd H2 s2.heap.objs.size (.lst [])) H5 s3.heap s6.heap:=I6.base
   have u7:Un (frs X.stack) fp (upd H2 s2.heap.objs.size (.lst [])) H5 s3.heap h':=
    ⟨fun b o e z1 z2 z3=>(sb.2 b (nC b o e)).trans (u6.keep b o e z1 z2 z3),fun b o e z1 z2 z3=>by
     obtain⟨sl,e1⟩:=u6.slot b o e z1 z2 z3
     exact⟨sl,(sb.2 b (nC b o e)).trans e1⟩,u6.free,fun b o e z=>by
     obtain⟨o',e1⟩:=u6.there b o e z
     exact⟨o',(sb.2 b (nC b o e)).trans e1⟩,u6.tups,u6.frzs,u6.tbls⟩
   have hok7:HOk X.prog X.w H5 h':=fun b o e=>(I6.hok b o e).stay (fun c w' hcc e1=>(sb.2 c (fun z=>by
     have fr:H5 s3.heap.objs.size=none:=I6.free
     rcases hcc with y|y
     ·rw[<-y,z,fr]at e;cases e
     ·rw[z,fr]at y;cases y)).trans e1) (fun _ z=>z) fun _ _ z=>z
   have I7:Inv X pz σ H5 {s6 with heap:=h'}:=I3.call' (s':={s6 with heap:=h'}) (ch:=fp) I6.os u7 hok7 I6.bare fun b hb=>by
    obtain⟨_,g2,g3,g4,g5,g6⟩:=f2 b hb
    exact⟨g4,g2,g5,g6⟩
   exact⟨.ref s2.heap.objs.size,H5,I7,rfl,qn⟩
  ·refine wpAny_mono (T.item (blk X N scope cl s3.heap.objs.size s3 (upd H2 s2.heap.objs.size (.lst [])) fp pz) rfl rfl rfl hc k [] s5 σ5 H5 _ I5 (fpB fr5) st5 go) (fun r s6 h6=>?_) fun _ _ z=>z
   obtain⟨u,hr,h6⟩:=h6
   subst hr
   refine wpAny_mono h6 (fun _ s7 h7=>?_) fun _ _ z=>z
   obtain⟨v,H7,I7,r7,y7,st7,fr7⟩:=h7
   have I7':=I7.pinned (fpB fr7) (T.obj _ _ st7)
   have back:∀{σ9:St} {H9:Hp} {s9:Shared},Inv (blk X N scope cl s3.heap.objs.size s3 (upd H2 s2.heap.objs.size (.lst [])) fp pz) ([]++rP fp s7.heap) σ9 H9 s9->(∃m',m'<n/\W (k+ 1) m' σ9 H9)->
     ∃m',m'<n/\∃k σ' H',Inv (blk X N scope cl s3.heap.objs.size s3 (upd H2 s2.heap.objs.size (.lst [])) fp pz) [] σ' H' s9/\tn k s9.heap/\(∀b∈fp,H' b=none)/\W k m' σ' H':=fun{σ9 H9 s9} I9 q9=>by
    obtain⟨m',hm,w9⟩:=q9
    refine⟨m',hm,k+ 1,σ9,H9,I9.unpinned,T.keep _ _ _ st7 fun b hb o e=>(I9.pin (b,o) (ax _ (ax _ (jH hb e)))).1,fun b hb=>?_,w9⟩
    obtain⟨o,e,d⟩:=T.obj _ _ st7 b hb
    exact(I9.pin (b,o) (ax _ (ax _ (jH hb e)))).2.1
   refine wpAny_mono (hg s3.heap.objs.size s3 (upd H2 s2.heap.objs.size (.lst [])) fp pz _ s7 σ5 H7 v u _ I7' r7 (step v H7 y7)) (fun _ s8 h8=>?_) fun _ _ z=>False.elim z
   obtain⟨σ8,H8,I8,q8⟩:=h8
   refine wpAny_mono (hte _ _ _ _ _ _ s8 _ H8 _ I8 q8) (fun y s10 h10=>?_) fun _ _ z=>False.elim z
   obtain⟨v10,H10,I10,r10,xs,hx10,hz,q10⟩:=h10
   refine wpAny_mono (f9 (X:=blk X N scope cl s3.heap.objs.size s3 (upd H2 s2.heap.objs.size (.lst [])) fp pz) _ s10 _ H10 (.ref s2.heap.objs.size) [v10] _ [y] (fun _ H11=>H11=upd H10 s2.heap.objs.size (.lst (xs++[v10]))) I10 rfl (.cons r10 .nil) ⟨_,xs,v10,rfl,rfl,hx10,hz,rfl⟩) (fun _ s11 h11=>?_) fun _ _ z=>False.elim z
   obtain⟨_,H11,I11,_,e11⟩:=h11
   subst e11
   exact back I11 q10
 exact codeAny_compStart_list (loop _ rfl) (T.self _ 0 _ _ _ st4 (loop _ rfl))
theorem EB {X:Cx} {scope:Scope} {x y:Str} (hk:scope.kind= .function) (hn:∀p∈scope.names,p.2≠ .cell/\p.2≠ .free) (hl:∀y∈scope.names,y.2= .local->scope.names.lookup y.1=some .local)
  (hx:scope.names.lookup x=some .local) (hxy:[x,y].Nodup) (hc:closureFor scope X.env=pure []):qj X [x,y] scope [] (fun _=>[none,none]) 0 x where
 kind:=hk
 cell:=fun y hy=>(hn y hy).1
 names:=hl
 clos:=hc
 lk:=fun y c h=>by simp at h
 has:=fun y h=>by
  rcases h with h|h
  ·obtain⟨k0,e,z⟩:=gj h
   have m:=hn _ (PySem.mem_of_lookup e)
   rcases z with z|⟨z,_⟩
   ·exact absurd z.symm m.1
   ·exact absurd z m.2
  ·obtain⟨k0,e,z⟩:=gj h
   have m:=hn _ (PySem.mem_of_lookup e)
   rcases z with z|⟨z,_⟩
   ·exact absurd z.symm m.2
   ·exact absurd z m.2
 nd:=hxy
 ix:=rfl
 loc:=hx
 len:=fun _ _=>rfl
 val:=fun σ k y v h1 h2=>by
  match k with
  |0=>simp at h2
  |1=>simp at h2
  |k+ 2=>simp at h2
theorem oF {z:Str}:∀{cap:List (Str×Nat×Addr)},z∈cap.map (·.1)->∃c,(cap.map fun p=>(p.1,p.2.2)).lookup z=some c
 |[],h=>by simp at h
 |p::r,h=>by
  cases e:z==p.1 with
  |true=>exact⟨p.2.2,by simp only[aB,aX,e]⟩
  |false=>
   have q:z∈r.map (·.1):=by
    rcases ak.mp h with y|y
    ·rw[y]at e;simp at e
    ·exact y
   obtain⟨c,hc⟩:=oF q
   exact⟨c,by simp only[aB,aX,e];exact hc⟩
theorem blkC {X:Cx} {scope:Scope} {x:Str} (ns:List Str) (cap:List (Str×Nat×Addr)) (hns:cap.map (·.1)=ns) (hk:scope.kind= .function) (hn:∀p∈scope.names,p.2≠ .cell/\(p.2= .free->p.1∈ns)) (hl:∀y∈scope.names,y.2= .local->scope.names.lookup y.1=some .local)
  (hx:scope.names.lookup x=some .local) (hnd:(x::ns).Nodup) (hc:closureFor scope X.env=pure (cap.map fun p=>(p.1,p.2.2))) (hok:X.env.scope.kind= .function)
  (h:∀p∈cap,scope.names.lookup p.1=some .free/\X.env.cells.lookup p.1=some p.2.2/\X.env.scope.names.lookup p.1=some .cell/\X.N[p.2.1]?=some p.1):
  qj X (x::ns) scope (cap.map fun p=>(p.1,p.2.2)) (fun σ=>none::cap.map fun p=>σ.getD p.2.1 none) 0 x where
 kind:=hk
 cell:=fun y hy=>(hn y hy).1
 names:=hl
 clos:=hc
 lk:=fun z c q=>by
  have m:=PySem.mem_of_lookup q
  obtain⟨p,hp,e⟩:=bc.mp m
  cases e
  exact(h p hp).2.1
 has:=fun z q=>by
  refine oF ?_
  rw[hns]
  rcases q with q|q
  ·obtain⟨k0,e,q⟩:=gj q
   have m:=hn _ (PySem.mem_of_lookup e)
   rcases q with q|⟨q,_⟩
   ·exact absurd q.symm m.1
   ·exact m.2 q
  ·obtain⟨k0,e,q⟩:=gj q
   have m:=hn _ (PySem.mem_of_lookup e)
   rcases q with q|⟨q,_⟩
   ·exact m.2 q.symm
   ·exact m.2 q
 nd:=hnd
 ix:=rfl
 loc:=hx
 len:=fun _ _=>by simp[<-hns]
 val:=fun σ k z v h1 h2=>by
  cases k with
  |zero=>simp at h2
  |succ k=>
   rw[<-hns,bj,aK]at h1
   rw[bj,aK]at h2
   cases e:cap[k]? with
   |none=>rw[e]at h1;cases h1
   |some p=>
    rw[e]at h1 h2
    have ez:p.1=z:=cC.inj h1
    have ev:σ.getD p.2.1 none=some v:=cC.inj h2
    subst ez
    obtain⟨a1,a2,a3,a4⟩:=h p (aN e)
    rw[bo]at ev
    refine⟨p.2.1,a4,?_,a3,iC hok a3 a1⟩
    cases q:σ[p.2.1]? with
    |none=>rw[q]at ev;cases ev
    |some o=>rw[q]at ev;exact congrArg some ev
theorem BA:∀{cs:List String} {us:List Value},gP (cs.map V.ty) us->us=cs.map Value.type
 |[],_,.nil=>rfl
 |c::cs,_,.cons h r=>by
  cases(show _=Value.type c from h)
  rw[BA r];rfl
section
variable {X:Cx}
theorem uc:ox X (.builtin "isinstance") (fun xs H Q=>∃(x:V) (tp:Addr) (cs:List String) (t:Value) (b:Bool),xs=[x,.ref tp]/\H tp=some (.tup (cs.map V.ty))/\va X.K H x t/\PySem.W.kitAny X.K t (cs.map Value.type)=some b/\Q (.bl b) H):=by
 intro pz s σ H xs us Q I r h
 obtain⟨x,tp,cs,t,b,rfl,htp,ty,e,q⟩:=h
 obtain⟨u,u',rfl,rx,ru'⟩:=Aq r
 cases ru'
 obtain⟨_,its,rv,o,ho,hc,n,hd,_⟩:=(show hX X.prog X.w H s.heap tp (.tup (cs.map V.ty))from I.hok tp _ htp)
 cases BA rv
 obtain⟨oc,od,odt,osl⟩:=o
 cases(show oc=_ from hc)
 cases(show odt=_ from hd)
 have fin:∀tk,EP X pz σ Q (.bool b) {s with toks:=tk}:=fun tk=>⟨.bl b,H,I.tok tk,rfl,q⟩
 cases ty with
 |non=>cases(show u=Value.none from rx);exact dD cZ I.kIn True.intro ho e (fun z=>nomatch z) fin
 |bl y=>cases(show u=Value.bool y from rx);exact dD dg I.kIn True.intro ho e (fun z=>nomatch z) fin
 |int i=>obtain⟨t,q⟩:=(show ∃t,u=Value.int i t from rx);cases q;exact dD PySem.W.kitx_int I.kIn True.intro ho e (fun z=>nomatch z) fin
 |str y=>obtain⟨t,q⟩:=(show ∃t,u=Value.str y t from rx);cases q;exact dD PySem.W.kitx_str I.kIn True.intro ho e (fun z=>nomatch z) fin
 |flt y=>obtain⟨t,q⟩:=(show ∃t,u=Value.float y t from rx);cases q;exact dD dh I.kIn True.intro ho e (fun z=>nomatch z) fin
 |@lst a xs ea=>
  cases(show u=Value.ref a from rx)
  obtain⟨_,_,n,_,h1⟩:=(show hX X.prog X.w H s.heap a (.lst xs)from I.hok a _ ea)
  exact dD di I.kIn ⟨_,h1,rfl⟩ ho e (fun z=>nomatch z) fin
 |@frz a ob xs ea=>
  cases(show u=Value.ref a from rx)
  obtain⟨_,_,_,n,_,h1⟩:=(show hX X.prog X.w H s.heap a (.frz ob (.lst xs))from I.hok a _ ea)
  exact dD di I.kIn ⟨_,h1,rfl⟩ ho e (fun z=>nomatch z) fin
 |@tup a xs ea=>
  cases(show u=Value.ref a from rx)
  obtain⟨_,_,_,p⟩:=(show hX X.prog X.w H s.heap a (.tup xs)from I.hok a _ ea)
  obtain⟨o,h1,h2,_⟩:=p
  exact dD dj I.kIn ⟨o,h1,h2⟩ ho e (fun z=>nomatch z) fin
 |@dK a kvs ea=>
  cases(show u=Value.ref a from rx)
  obtain⟨_,_,vs,_,p⟩:=(show hX X.prog X.w H s.heap a (.dK kvs)from I.hok a _ ea)
  obtain⟨o,es,ep,h1,h2,_⟩:=p
  exact dD dq I.kIn ⟨o,h1,h2.1⟩ ho e (fun z=>nomatch z) fin
 |@dT a kvs ea=>
  cases(show u=Value.ref a from rx)
  obtain⟨_,_,xs,_,o,es,ep,h1,h2,_⟩:=(show hX X.prog X.w H s.heap a (.dT kvs)from I.hok a _ ea)
  exact dD dq I.kIn ⟨o,h1,h2.1⟩ ho e (fun z=>nomatch z) fin
 |@ins a C dx fs ea cl ha hn htk hm=>
  cases(show u=Value.ref a from rx)
  obtain⟨mA,O,_⟩:=qf I.hok ea
  obtain⟨od,J,_⟩:=O.look
  exact dD (PySem.W.kitx_own (cl.get _) cl.hd ha hn htk hm) I.kIn J ho e (fun z=>nomatch z) fin
end
structure HC (K:PySem.W.Frag) (C:Addr) (m:Str) (f:Addr):Prop where
 ga:cW K (.ref C) "__getattribute__"=some (some (.builtin "type.__getattribute__"))
 rd:∃mc,PySem.W.readsIn K C mc=true/\PySem.W.findCls K (.ref C) mc m=some (.val (.ref f))
 kp:cX K (.ref f)=true
section
variable {X:Cx} {CX:CXT} {k:Nat} {f C:Addr} {fd:FuncData} {ps:List Str} {sp:Sp} {dvs:List V} {ds:List Value} {E:XK} {m:Str} {pos apos:Pos} {e o:Expr} {es:List Expr} {t:TA}
theorem sE {pl:Sem Bool} (he:PE X o (tC (.ref C))) (c:HC X.K C m f) (F:qZ X.prog X.w X.K X.mg X.base CX k f fd ps sp) (hr:lJ k X.A) (hb:mB X.K fd ps ds) (hd:gP dvs ds) (hx:mG CX X E) (ha:PA X (e::es) t)
  (hst:autoParam (starEach (e::es) X.env=(false,eval e X.env)::starEach es X.env) L2.Internal.auR._auto_1) (hpl:autoParam ((backTo pos (starEach es X.env)).any (·.1)=false) L2.Internal.auR._auto_1)
  (ht:eval (.Call (.Attribute o m apos) (e::es) [] pos) X.env=(do
   let ov<-eval o X.env
   standAt apos.atName
   let(f,first)<-holding [ov] (getMethod ov m pl)
   callWith pos f first (backTo pos (starEach (e::es) X.env)) (backToKw pos (keywordEach [] X.env))):=by rfl):
  PE X (.Call (.Attribute o m apos) (e::es) [] pos) (rf sp dvs E t):=by
 intro pz s σ H Q I h
 refine dw (pl:=pl) (thn (he pz s σ H (fun v H1=>v= .ref C/\rf sp dvs E t σ H1 Q) I ⟨rfl,h⟩) fun u s1 ⟨x,H1,I1,rx,ex,q⟩=>?_) ht
 subst ex
 obtain rfl:u=Value.ref C:=rx
 obtain⟨mc,hr1,hf⟩:=c.rd
 refine PySem.W.method_cls I1.kIn c.ga (PySem.W.cls_value I1.kIn hr1 hf rfl ?_)
 refine du (first:=[]) (h₀:=X.base) I.ok.mod.kin c.kp (thn (ha pos pz _ σ H1 _ (I1.tok (s1.toks+ 1)) q) fun us s2 ⟨vs,H2,I2,r,q2⟩=>⟨I2.kIn,?_⟩) hst hpl
 exact tQ (us:=us) (vs:=vs) F hr hb hd hx I2 r q2
theorem PE.or {X:Cx} {e:Expr} {t u:TE} (h:PE X e t) (h':PE X e u):PE X e (fun σ H Q=>t σ H Q\/u σ H Q):=fun pz s σ H Q I hw=>hw.elim (h pz s σ H Q I) (h' pz s σ H Q I)
theorem PI.or {X:Cx} {tg e:Expr} {t u:TI} (h:PI X tg e t) (h':PI X tg e u):PI X tg e (fun σ H R=>t σ H R\/u σ H R):=fun pz s σ H R I hw=>hw.elim (h pz s σ H R I) (h' pz s σ H R I)
end
section
variable {X:Cx}
theorem BB:bootBuiltins "max"=some (.builtin "max"):=fW
theorem yO (hc:X.calm=true):ox X (.builtin "sum") (fun xs H Q=>∃(a:Addr) (ns:List Int),xs=[.ref a]/\SqL X.K H a (ns.map V.int)/\∀n,Q (.int n) H):=by
 intro pz s σ H xs us Q I r h
 obtain⟨a,ns,rfl,hq,q⟩:=h
 obtain⟨u,rfl,ru⟩:=qc r
 cases ru
 obtain⟨its,rv,p,hz⟩:=I.list hq
 obtain⟨zs,e⟩:=(rT rv).allInts.items
 have l:=p.isList
 rw[e]at l
 exact sum_intListG (I.ok.hd hc) l fun h' tk t' hk=>⟨.int _,H,I.kept (t':=tk) hk,⟨_,rfl⟩,q _⟩
end
theorem jq {X:Cx} {elt iter:Expr} {x y:Str} {j:Nat} {py spos:Pos} {px:Pos} {ifs:List Expr} {scope:Scope} {pos:Pos} {N:List Str} {cl:List (Str×Addr)} {f:St->St} {i:Nat} {wi:TI} {tt:TT} {te:TE}
  (hc:X.calm=true) (B:qj X N scope cl f i x) (hi:PI X (.Name x px) iter wi)
  (htt:∀C s₀ H₀ ex pz,PTs (blk X N scope cl C s₀ H₀ ex pz) ifs tt) (hte:∀C s₀ H₀ ex pz,PE (blk X N scope cl C s₀ H₀ ex pz) elt te)
  (hN:X.N.Nodup) (hj:X.N[j]?=some y) (hy:Loc X.env.scope y) (hsw:autoParam (swapsWith (.ListComp elt [⟨.Name x px,iter,ifs,0⟩] scope pos) (some (.Name y py)) spos.line X.env=pure true) L2.Internal.auR._auto_1) (hs:autoParam (∀x,foldedSetIterable iter X.env x=pure x) L2.Internal.auI._auto_1)
  (hf:autoParam (X.fn y=true\/X.env.scope.names.lookup y=some .local) L2.Internal.auL._auto_1):PS X (.Assign [.Name y py] (.ListComp elt [⟨.Name x px,iter,ifs,0⟩] scope pos) spos) (Aj (tLC wi f i tt te) (fN j)):=by
 intro pz s σ H En I h
 rw[exec_Assign_Name_used _ _ _ _ hsw]
 refine wpAny_bind (wpAny_standAt (wpAny_bind ?_))
 show wpAny _ X.A (do let _<-comprehension (.ListComp elt [⟨.Name x px,iter,ifs,0⟩] scope pos) scope X.env _ (newList []) false (eval iter X.env) (some (assign (.Name y py) X.env))) _ _ s
 refine wpAny_bind (wpAny_mono (yK (Qp:=fun _ s'=>SP X pz En .next s') hc B hi htt hte hs I h fun fl s3 s6 H3 H5 d m6 I3 I7 fr hn6 qn=>?_) (fun _ s' hq=>wpAny_pure (wpAny_pure hq)) fun _ _ e=>e)
 obtain⟨oC,es,ep,hoC,hdC,hkC⟩:=id hn6
 have hCL:s3.heap.objs.size≠X.env.locals:=b6 I3.lt
 have I8:Inv X (pz++[(s3.heap.objs.size,oC)]) σ H5 s6:=I7.pins_of fun p hp=>(ao.mp hp).elim (fun z=>I7.pin p (ax _ z)) fun z=>by
  have ez:p=(s3.heap.objs.size,oC):=by simpa using z
  subst ez
  exact⟨hoC,fr,hCL,I3.nofs (b9 _),fun v q=>by rw[hdC]at q;cases q⟩
 show wpAny _ X.A (assign (.Name y py) X.env (.ref d)) _ _ s6
 refine wpAny_assign_Name (pV (X:=X) I8 hN hj hy (v:= .ref d) rfl (fun s7 I9=>?_) hf)
 have pC:=I9.pin (s3.heap.objs.size,oC) (ax _ (ax _ (by simp)))
 refine⟨m6,⟨oC,es,ep,pC.1,hdC,hkC⟩,fun h' sb=>?_⟩
 refine⟨σ.set j (some (.ref d)),H5,?_,qn⟩
 exact Inv.turned (h':=h') (t':=s7.toks) (it:=s3.heap.objs.size) I9.unpinned (fun b o hb e=>(sb.2 b hb).trans e) pC.2.1 hCL (.inr I3.sz) (fun z c e q=>by
  obtain⟨v,q2⟩:=I3.cell z c e
  exact absurd (q▸q2.lt) (bX _)) fun p hp q=>absurd (q▸eI (I3.pin p hp).1) (bX _)
section
variable {prog:Program} {w:World} {A:Around} {E:Value->Shared->Prop} {s:Shared}
theorem BC {j t:Addr} {i:Nat} {its} {x:Value} {Q:Value->Shared->Prop} (g:s.heap.IsTupleIter j t i) (d:s.heap.IsTuple t its) (e:its[i]?=some x)
  (k:∀h',h'.IsTupleIter j t (i+ 1)->Heap.SameBut j s.heap h'->Q x {s with heap:=h'}):wpAny (model prog w) A (Builtin.SmallTypes.nextOf (.ref j)) Q E s:=by
 obtain⟨og,gg,gc,gd⟩:=id g
 obtain⟨od,dd,_,dn,de⟩:=d
 unfold Builtin.SmallTypes.nextOf
 refine wpAny_bind (wpAny_callSpecial?_slot (name:=Str.ofString "__next__") g.typeIs F.slot_tuple_iterator_next (wpAny_call_entry F.slot_tuple_iterator_next g.typeIs F.entry_tuple_iterator_next ?_ (F.args_tuple_iterator_next_1 _)))
 show wpAny _ _ (field (.ref j) 0 >>= _) _ _ s
 refine wpAny_bind (wpAny_field gg gd (x:= .ref t) rfl ?_)
 show wpAny _ _ (if(Value.ref t==Value.none)=true then _ else _) _ _ s
 rw[fO (show ¬((Value.ref t==Value.none)=true)from fun q=>nomatch q)]
 show wpAny _ _ (field (.ref j) 1 >>= _) _ _ s
 refine wpAny_bind (wpAny_field gg gd (x:= .int i 0) rfl ?_)
 refine wpAny_bind (wpAny_seqItems dd de ?_)
 simp only[eg,e]
 refine wpAny_bind (wpAny_setField gg gd (by simp) (wpAny_pure ⟨x,rfl,wpAny_pure (k _ ?_ (Heap.SameBut.update ..))⟩))
 exact⟨_,eN _ gg (Obj.isFreed_of_fields (Obj.data_mapFields gd _)),(Obj.cls_mapFields ..).trans gc,by rw[Obj.data_mapFields gd];simp[rawInt]⟩
theorem rW {j t:Addr} {i:Nat} {its} {Q:Value->Shared->Prop} (hh:A.handled=none) (g:s.heap.IsTupleIter j t i) (d:s.heap.IsTuple t its) (e:its[i]?=none)
  (k:∀h' x,Heap.ExtBut j s.heap h'->(∃o,h'.get? x=some o/\o.cls= .type "StopIteration")->E (.ref x) {s with heap:=h'}):wpAny (model prog w) A (Builtin.SmallTypes.nextOf (.ref j)) Q E s:=by
 obtain⟨og,gg,gc,gd⟩:=id g
 obtain⟨od,dd,_,dn,de⟩:=d
 unfold Builtin.SmallTypes.nextOf
 refine wpAny_bind (wpAny_callSpecial?_slot (name:=Str.ofString "__next__") g.typeIs F.slot_tuple_iterator_next (wpAny_call_entry F.slot_tuple_iterator_next g.typeIs F.entry_tuple_iterator_next ?_ (F.args_tuple_iterator_next_1 _)))
 show wpAny _ _ (field (.ref j) 0 >>= _) _ _ s
 refine wpAny_bind (wpAny_field gg gd (x:= .ref t) rfl ?_)
 show wpAny _ _ (if(Value.ref t==Value.none)=true then _ else _) _ _ s
 rw[fO (show ¬((Value.ref t==Value.none)=true)from fun q=>nomatch q)]
 show wpAny _ _ (field (.ref j) 1 >>= _) _ _ s
 refine wpAny_bind (wpAny_field gg gd (x:= .int i 0) rfl ?_)
 refine wpAny_bind (wpAny_seqItems dd de ?_)
 simp only[eg,e]
 refine wpAny_bind (wpAny_rule (wpAny_bind (wpAny_setField gg gd (by simp) ?_)))
 show wpAny _ _ (newExc (.type "StopIteration") [] >>= _) _ _ _
 refine wpAny_bind ?_
 simp only[newExc,newTuple]
 refine wpAny_bind (wpAny_newObj_type ?_ (by size_fits))
 refine wpAny_bind (m:=firstArgMember _ _) (wpAny_of_eq (a:=Value.none) (by first|rfl|(unfold firstArgMember;rfl)) ?_)
 refine wpAny_newObj_type ?_ (by size_fits)
 simp only[raiseNew]
 refine wpAny_bind (wpAny_handled ?_)
 first|rw[hh]|rw[show A.in1.handled=none from hh]
 exact wpAny_bind (wpAny_pure (wpAny_throw (k _ _ (((Heap.SameBut.update ..).extBut.push _).push _) ⟨_,eJ _ rfl,rfl⟩)))
end
theorem SqT.old {X:Cx} {pz:List (Addr×Obj)} {σ:St} {H:Hp} {s:Shared} {a:Addr} {xs:List V} (I:Inv X pz σ H s) (h:SqT X.K H a xs):a<s.heap.objs.size:=by
 obtain⟨its,_,p,_⟩:=I.tuple h
 obtain⟨o,e,_⟩:=p
 exact eI e
def SI (c:String) (h:Heap) (j t:Addr) (i:Nat):Prop:=∃o,h.get? j=some o/\o.cls= .type c/\o.data= .fields #[.ref t,.int i 0]
theorem SI.extBut {c:String} {h h':Heap} {j b t:Addr} {i:Nat} (g:SI c h j t i) (e:Heap.ExtBut b h h') (n:j≠b):SI c h' j t i:=let⟨o,e1,r⟩:=g;⟨o,e _ _ n e1,r⟩
structure Sk where
 it:String
 S:Heap->Addr->Array Value->Prop
 Sq:PySem.W.Frag->Hp->Addr->List V->Prop
 ext:∀{h h':Heap} {a b:Addr} {xs:Array Value},S h a xs->Heap.ExtBut b h h'->a≠b->S h' a xs
 push:∀{h:Heap} {a:Addr} {xs:Array Value},S h a xs->∀o,S (h.push o) a xs
 nx:∀{prog:Program} {w:World} {A:Around} {E:Value->Shared->Prop} {s:Shared} {j t:Addr} {i:Nat} {its:Array Value} {x:Value} {Q:Value->Shared->Prop},SI it s.heap j t i->S s.heap t its->its[i]?=some x->(∀h',SI it h' j t (i+ 1)->Heap.SameBut j s.heap h'->Q x {s with heap:=h'})->wpAny (model prog w) A (Builtin.SmallTypes.nextOf (.ref j)) Q E s
 ne:∀{prog:Program} {w:World} {A:Around} {E:Value->Shared->Prop} {s:Shared} {j t:Addr} {i:Nat} {its:Array Value} {Q:Value->Shared->Prop},A.handled=none->SI it s.heap j t i->S s.heap t its->its[i]?=none->(∀h' x,Heap.ExtBut j s.heap h'->(∃o,h'.get? x=some o/\o.cls= .type "StopIteration")->E (.ref x) {s with heap:=h'})->wpAny (model prog w) A (Builtin.SmallTypes.nextOf (.ref j)) Q E s
 iter:∀{prog:Program} {w:World} {A:Around} {E:Value->Shared->Prop} {s:Shared} {t:Addr} {its:Array Value} {Q:Value->Shared->Prop},S s.heap t its->Q (.ref s.heap.objs.size) {s with heap:=s.heap.push {cls:= .type it,data:= .fields #[.ref t,.int 0 0]}}->wpAny (model prog w) A (pyIter (.ref t)) Q E s
 inv:∀{X:Cx} {pz:List (Addr×Obj)} {σ:St} {H:Hp} {s:Shared} {a:Addr} {xs:List V},Inv X pz σ H s->Sq X.K H a xs->∃its,gP xs its/\S s.heap a its.toArray/\xs.length<=sizeLine
 inj:∀{X:Cx} {pz:List (Addr×Obj)} {σ:St} {H:Hp} {s:Shared} {a:Addr} {xs ys:List V},Inv X pz σ H s->Sq X.K H a xs->Sq X.K H a ys->xs=ys
 old:∀{X:Cx} {pz:List (Addr×Obj)} {σ:St} {H:Hp} {s:Shared} {a:Addr} {xs:List V},Inv X pz σ H s->Sq X.K H a xs->a<s.heap.objs.size
def tS:Sk:=⟨"tuple_iterator",Heap.IsTuple,SqT,fun a b c=>a.extBut b c,fun a o=>a.push o,fun a b c d=>BC a b c d,fun a b c d e=>rW a b c d e,fun a b=>wpAny_pyIter_tuple a b,fun I q=>I.tuple q,fun I a b=>I.tuple_inj a b,fun I q=>SqT.old I q⟩
def lS:Sk:=⟨"list_iterator",Heap.IsList,SqL,fun a b c=>a.extBut b c,fun a o=>a.push o,fun a b c d=>wpAny_nextOf_list_item a b c d,fun a b c d e=>wpAny_nextOf_list_end a b c d e,fun a b=>wpAny_pyIter_list a b,fun I q=>let⟨its,r,p,z⟩:=I.list q;⟨its,r,p.isList,z⟩,fun I a b=>I.list_inj a b,fun I q=>SqL.old I q⟩
section
variable {prog:Program} {w:World} {A:Around} {E:Value->Shared->Prop} {s:Shared}
theorem CK {u1 u2:Sk} {z TI TO j1 j2 t1 t2:Addr} {k1 k2:Nat} {xs ys:Array Value} {x y a b:Value} {Q:Value->Shared->Prop} (D:ZipApart z TI TO j1 j2 t1 t2)
  (gz:IsZip s.heap z TI TO .none) (gI:IsPair s.heap TI (.ref j1) (.ref j2)) (gO:IsPair s.heap TO a b)
  (g1:SI u1.it s.heap j1 t1 k1) (g2:SI u2.it s.heap j2 t2 k2) (d1:u1.S s.heap t1 xs) (d2:u2.S s.heap t2 ys) (ex:xs[k1]?=some x) (ey:ys[k2]?=some y)
  (k:∀h',IsZip h' z TI TO (rawInt s.heap.objs.size)->IsPair h' TO x y->SI u1.it h' j1 t1 (k1+ 1)->SI u2.it h' j2 t2 (k2+ 1)->IsPair h' s.heap.objs.size x y->h'.objs.size=s.heap.objs.size+ 1->
   (∀c o,c≠z->c≠TO->c≠j1->c≠j2->s.heap.get? c=some o->h'.get? c=some o)->Q (.ref s.heap.objs.size) {s with heap:=h'}):
  wpAny (model prog w) A (Builtin.«zip.__next__» ⟨[.ref z],[]⟩) (fun fin s'=>∃v,fin= .done (.ret v)/\Q v s') E s:=by
 show wpAny _ _ (field (.ref z) 2 >>= _) _ _ _
 refine wpAny_bind (wpAny_field gz rfl (x:= .bool false) rfl ?_)
 show wpAny _ _ (field (.ref z) 3 >>= _) _ _ _
 refine wpAny_bind (wpAny_field gz rfl (x:= .ref TI) rfl ?_)
 refine wpAny_bind (wpAny_seqItems gI rfl ?_)
 show wpAny _ _ (Builtin.SmallTypes.ownedTupleIsFree (.ref z) >>= _) _ _ _
 refine wpAny_bind ?_
 unfold Builtin.SmallTypes.ownedTupleIsFree
 refine wpAny_bind (wpAny_field gz rfl (x:= .none) rfl (wpAny_pure ?_))
 simp only[if_true]
 refine wpAny_bind (wpAny_rule (wpAny_bind (wpAny_field gz rfl (x:= .ref TO) rfl ?_)))
 refine wpAny_bind (wpAny_setField_rec gz (by simp) fun q1 gz1 b1=>?_)
 replace gz1:IsZip q1 z TI TO .ellipsis:=gz1
 refine wpAny_bind ?_
 simp only[List.zipIdx_cons,List.zipIdx_nil,List.forIn_cons,List.forIn_nil]
 refine wpAny_bind (wpAny_bind (wpAny_onRaise ?_))
 show wpAny _ _ (Builtin.SmallTypes.nextOf (.ref j1) >>= _) _ _ _
 refine wpAny_bind (u1.nx (g1.extBut b1.extBut D.i1z) (u1.ext d1 b1.extBut D.l1z) ex fun q2 g12 b2=>wpAny_pure ?_)
 have gO2:IsPair q2 TO a b:=b2.extBut _ _ D.TOi1 (b1.extBut _ _ D.TOz gO)
 refine wpAny_bind (wpAny_seqItems gO2 rfl (wpAny_bind (wpAny_updateSeq_pair gO2 fun q3 gO3 b3=>?_)))
 replace gO3:IsPair q3 TO x b:=gO3
 refine wpAny_bind (wpAny_letGo (wpAny_pure (wpAny_bind (wpAny_bind (wpAny_onRaise ?_)))))
 show wpAny _ _ (Builtin.SmallTypes.nextOf (.ref j2) >>= _) _ _ _
 refine wpAny_bind (u2.nx (((g2.extBut b1.extBut D.i2z).extBut b2.extBut D.i12.symm).extBut b3.extBut D.TOi2.symm) (u2.ext (u2.ext (u2.ext d2 b1.extBut D.l2z) b2.extBut D.l2i1) b3.extBut D.l2TO) ey fun q4 g24 b4=>wpAny_pure ?_)
 have gO4:IsPair q4 TO x b:=b4.extBut _ _ D.TOi2 gO3
 refine wpAny_bind (wpAny_seqItems gO4 rfl (wpAny_bind (wpAny_updateSeq_pair gO4 fun q5 gO5 b5=>?_)))
 replace gO5:IsPair q5 TO x y:=gO5
 refine wpAny_bind (wpAny_letGo (wpAny_pure (wpAny_pure (wpAny_bind (wpAny_seqItems gO5 rfl (wpAny_bind (wpAny_newTuple ?_)))))))
 have sz:q5.objs.size=s.heap.objs.size:=by rw[b5.1,b4.1,b3.1,b2.1,b1.1]
 have gz5:IsZip q5 z TI TO .ellipsis:=b5.extBut _ _ D.TOz.symm (b4.extBut _ _ D.i2z.symm (b3.extBut _ _ D.TOz.symm (b2.extBut _ _ D.i1z.symm gz1)))
 have kp5:∀c o,c≠z->c≠TO->c≠j1->c≠j2->s.heap.get? c=some o->q5.get? c=some o:=fun c o n1 n2 n3 n4 e=>
  b5.extBut _ _ n2 (b4.extBut _ _ n4 (b3.extBut _ _ n2 (b2.extBut _ _ n3 (b1.extBut _ _ n1 e))))
 have g15:SI u1.it q5 j1 t1 (k1+ 1):=((g12.extBut b3.extBut D.TOi1.symm).extBut b4.extBut D.i12).extBut b5.extBut D.TOi1.symm
 have g25:SI u2.it q5 j2 t2 (k2+ 1):=g24.extBut b5.extBut D.TOi2.symm
 have zlt:z<q5.objs.size:=eI gz5
 show wpAny _ _ (Builtin.SmallTypes.ownedTupleHandOut (.ref z) (.ref q5.objs.size) >>= _) _ _ _
 refine wpAny_bind ?_
 unfold Builtin.SmallTypes.ownedTupleHandOut
 have gz6:IsZip (q5.push {cls:= .type "tuple",data:= .seq #[x,y]}) z TI TO .ellipsis:=eK _ gz5
 refine wpAny_bind (wpAny_setField_rec gz6 (by simp) fun q7 gz7 b7=>?_)
 replace gz7:IsZip q7 z TI TO (rawInt q5.objs.size):=gz7
 refine wpAny_setField_rec gz7 (by simp) fun q8 gz8 b8=>?_
 replace gz8:IsZip q8 z TI TO (rawInt q5.objs.size):=gz8
 have up:∀c o,c≠z->q5.get? c=some o->q8.get? c=some o:=fun c o n1 e=>b8.extBut _ _ n1 (b7.extBut _ _ n1 (eK _ e))
 have gT8:IsPair q8 q5.objs.size x y:=b8.extBut _ _ (b6 zlt) (b7.extBut _ _ (b6 zlt) (eJ _ rfl))
 have sz8:q8.objs.size=q5.objs.size+ 1:=by rw[b8.1,b7.1,eM]
 rw[sz]at gz8 gT8 sz8
 refine wpAny_pure ⟨_,rfl,?_⟩
 show Q (.ref q5.objs.size) _
 rw[sz]
 refine k q8 gz8 (up _ _ D.TOz gO5) ?_ ?_ gT8 sz8 fun c o n1 n2 n3 n4 e=>up c o n1 (kp5 c o n1 n2 n3 n4 e)
 ·obtain⟨o,e,r⟩:=g15;exact⟨o,up _ o D.i1z e,r⟩
 ·obtain⟨o,e,r⟩:=g25;exact⟨o,up _ o D.i2z e,r⟩
theorem EC {u1 u2:Sk} {z TI TO j1 j2 t1 t2:Addr} {k1 k2:Nat} {xs ys:Array Value} {a b:Value} {Q:Fin->Shared->Prop} (hh:A.handled=none) (D:ZipApart z TI TO j1 j2 t1 t2)
  (gz:IsZip s.heap z TI TO .none) (gI:IsPair s.heap TI (.ref j1) (.ref j2)) (gO:IsPair s.heap TO a b)
  (g1:SI u1.it s.heap j1 t1 k1) (g2:SI u2.it s.heap j2 t2 k2) (d1:u1.S s.heap t1 xs) (d2:u2.S s.heap t2 ys) (hend:xs[k1]?=none\/ys[k2]?=none)
  (k:∀h' e,(∀c o,c≠z->c≠TO->c≠j1->c≠j2->s.heap.get? c=some o->h'.get? c=some o)->(∃o,h'.get? e=some o/\o.cls= .type "StopIteration")->E (.ref e) {s with heap:=h'}):
  wpAny (model prog w) A (Builtin.«zip.__next__» ⟨[.ref z],[]⟩) Q E s:=by
 show wpAny _ _ (field (.ref z) 2 >>= _) _ _ _
 refine wpAny_bind (wpAny_field gz rfl (x:= .bool false) rfl ?_)
 show wpAny _ _ (field (.ref z) 3 >>= _) _ _ _
 refine wpAny_bind (wpAny_field gz rfl (x:= .ref TI) rfl ?_)
 refine wpAny_bind (wpAny_seqItems gI rfl ?_)
 show wpAny _ _ (Builtin.SmallTypes.ownedTupleIsFree (.ref z) >>= _) _ _ _
 refine wpAny_bind ?_
 unfold Builtin.SmallTypes.ownedTupleIsFree
 refine wpAny_bind (wpAny_field gz rfl (x:= .none) rfl (wpAny_pure ?_))
 simp only[if_true]
 refine wpAny_bind (wpAny_rule (wpAny_bind (wpAny_field gz rfl (x:= .ref TO) rfl ?_)))
 refine wpAny_bind (wpAny_setField_rec gz (by simp) fun q1 gz1 b1=>?_)
 replace gz1:IsZip q1 z TI TO .ellipsis:=gz1
 refine wpAny_bind ?_
 simp only[List.zipIdx_cons,List.zipIdx_nil,List.forIn_cons,List.forIn_nil]
 refine wpAny_bind (wpAny_bind (wpAny_onRaise ?_))
 show wpAny _ _ (Builtin.SmallTypes.nextOf (.ref j1) >>= _) _ _ _
 cases ex:xs[k1]? with
 |none=>
  refine wpAny_bind (u1.ne hh (g1.extBut b1.extBut D.i1z) (u1.ext d1 b1.extBut D.l1z) ex fun q2 e b2 he=>?_)
  obtain⟨oe,hoe,hce⟩:=he
  have gz2:IsZip q2 z TI TO .ellipsis:=b2 _ _ D.i1z.symm gz1
  have nz:e≠z:=fun q=>by subst q;rw[gz2]at hoe;cases hoe;simp at hce
  refine wpAny_setField_rec gz2 (by simp) fun q3 _ b3=>k q3 e (fun c o n1 _ n3 _ q=>b3.extBut _ _ n1 (b2 _ _ n3 (b1.extBut _ _ n1 q))) ⟨oe,b3.extBut _ _ nz hoe,hce⟩
 |some x=>
  have ey:ys[k2]?=none:=hend.elim (fun q=>by rw[ex]at q;cases q) id
  refine wpAny_bind (u1.nx (g1.extBut b1.extBut D.i1z) (u1.ext d1 b1.extBut D.l1z) ex fun q2 g12 b2=>wpAny_pure ?_)
  have gO2:IsPair q2 TO a b:=b2.extBut _ _ D.TOi1 (b1.extBut _ _ D.TOz gO)
  refine wpAny_bind (wpAny_seqItems gO2 rfl (wpAny_bind (wpAny_updateSeq_pair gO2 fun q3 gO3 b3=>?_)))
  refine wpAny_bind (wpAny_letGo (wpAny_pure (wpAny_bind (wpAny_bind (wpAny_onRaise ?_)))))
  show wpAny _ _ (Builtin.SmallTypes.nextOf (.ref j2) >>= _) _ _ _
  refine wpAny_bind (u2.ne hh (((g2.extBut b1.extBut D.i2z).extBut b2.extBut D.i12.symm).extBut b3.extBut D.TOi2.symm) (u2.ext (u2.ext (u2.ext d2 b1.extBut D.l2z) b2.extBut D.l2i1) b3.extBut D.l2TO) ey fun q4 e b4 he=>?_)
  obtain⟨oe,hoe,hce⟩:=he
  have gz4:IsZip q4 z TI TO .ellipsis:=b4 _ _ D.i2z.symm (b3.extBut _ _ D.TOz.symm (b2.extBut _ _ D.i1z.symm gz1))
  have nz:e≠z:=fun q=>by subst q;rw[gz4]at hoe;cases hoe;simp at hce
  refine wpAny_setField_rec gz4 (by simp) fun q5 _ b5=>k q5 e (fun c o n1 n2 n3 n4 q=>b5.extBut _ _ n1 (b4 _ _ n4 (b3.extBut _ _ n2 (b2.extBut _ _ n3 (b1.extBut _ _ n1 q))))) ⟨oe,b5.extBut _ _ nz hoe,hce⟩
theorem yP {u1 u2:Sk} {z TI TO j1 j2 t1 t2:Addr} {k1 k2:Nat} {xs ys:Array Value} {x y a b:Value} {Q:Option Value->Shared->Prop} (D:ZipApart z TI TO j1 j2 t1 t2)
  (gz:IsZip s.heap z TI TO .none) (gI:IsPair s.heap TI (.ref j1) (.ref j2)) (gO:IsPair s.heap TO a b)
  (g1:SI u1.it s.heap j1 t1 k1) (g2:SI u2.it s.heap j2 t2 k2) (d1:u1.S s.heap t1 xs) (d2:u2.S s.heap t2 ys) (ex:xs[k1]?=some x) (ey:ys[k2]?=some y)
  (k:∀h',IsZip h' z TI TO (rawInt s.heap.objs.size)->IsPair h' TO x y->SI u1.it h' j1 t1 (k1+ 1)->SI u2.it h' j2 t2 (k2+ 1)->IsPair h' s.heap.objs.size x y->h'.objs.size=s.heap.objs.size+ 1->
   (∀c o,c≠z->c≠TO->c≠j1->c≠j2->s.heap.get? c=some o->h'.get? c=some o)->Q (some (.ref s.heap.objs.size)) {s with heap:=h'}):
  wpAny (model prog w) A (pyNext (.ref z)) Q E s:=by
 have tz:s.TypeIs (.ref z) "zip":=⟨_,gz,rfl⟩
 unfold pyNext
 exact wpAny_bind (wpAny_attempt (wpAny_callSpecial?_slot (name:=Str.ofString "__next__") tz F.slot_zip_next (wpAny_call_entry F.slot_zip_next tz F.entry_zip_next
   (CK D gz gI gO g1 g2 d1 d2 ex ey fun h' a1 a2 a3 a4 a5 a6 a7=>wpAny_pure (k h' a1 a2 a3 a4 a5 a6 a7)) (F.args_zip_next_1 _))))
theorem sF {u1 u2:Sk} {z TI TO j1 j2 t1 t2:Addr} {k1 k2:Nat} {xs ys:Array Value} {a b:Value} {Q:Option Value->Shared->Prop} (hh:A.handled=none) (D:ZipApart z TI TO j1 j2 t1 t2)
  (gz:IsZip s.heap z TI TO .none) (gI:IsPair s.heap TI (.ref j1) (.ref j2)) (gO:IsPair s.heap TO a b)
  (g1:SI u1.it s.heap j1 t1 k1) (g2:SI u2.it s.heap j2 t2 k2) (d1:u1.S s.heap t1 xs) (d2:u2.S s.heap t2 ys) (hend:xs[k1]?=none\/ys[k2]?=none)
  (k:∀h',(∀c o,c≠z->c≠TO->c≠j1->c≠j2->s.heap.get? c=some o->h'.get? c=some o)->Q none {s with heap:=h'}):wpAny (model prog w) A (pyNext (.ref z)) Q E s:=by
 have tz:s.TypeIs (.ref z) "zip":=⟨_,gz,rfl⟩
 unfold pyNext
 refine wpAny_bind (wpAny_attempt (wpAny_callSpecial?_slot (name:=Str.ofString "__next__") tz F.slot_zip_next (wpAny_call_entry F.slot_zip_next tz F.entry_zip_next (EC hh D gz gI gO g1 g2 d1 d2 hend fun h' e kp he=>?_) (F.args_zip_next_1 _))))
 obtain⟨o,ho,hc⟩:=he
 exact wpAny_bind (wpAny_isInstance (T:="StopIteration") (b:=true) ⟨o,ho,hc⟩ isSubtype_stop (wpAny_pure (k _ kp)))
end
abbrev zt1 (u1:Sk) (h:Heap) (t1:Addr):Heap:=h.push {cls:= .type u1.it,data:= .fields #[.ref t1,.int 0 0]}
abbrev zt2 (u1 u2:Sk) (h:Heap) (t1 t2:Addr):Heap:=(zt1 u1 h t1).push {cls:= .type u2.it,data:= .fields #[.ref t2,.int 0 0]}
abbrev zt3 (u1 u2:Sk) (h:Heap) (t1 t2:Addr):Heap:=(zt2 u1 u2 h t1 t2).push {cls:= .type "tuple",data:= .seq #[.ref h.objs.size,.ref (zt1 u1 h t1).objs.size]}
abbrev zt4 (u1 u2:Sk) (h:Heap) (t1 t2:Addr):Heap:=(zt3 u1 u2 h t1 t2).push {cls:= .type "tuple",data:= .seq #[.none,.none]}
abbrev zt5 (u1 u2:Sk) (h:Heap) (t1 t2:Addr):Heap:=(zt4 u1 u2 h t1 t2).push {cls:= .type "zip",data:= .fields #[.none,.bool false,.bool false,.ref (zt2 u1 u2 h t1 t2).objs.size,.ref (zt3 u1 u2 h t1 t2).objs.size]}
theorem ED (u1 u2:Sk) (t1 t2:Addr) (xs ys:Array Value):Meets (Builtin.«zip.__new__» ⟨[.type "zip",.ref t1,.ref t2],[]⟩) (fun _ R s=>u1.S s.heap t1 xs/\u2.S s.heap t2 ys/\R (.ok (.ret (.ref (zt4 u1 u2 s.heap t1 t2).objs.size))) {s with heap:=zt5 u1 u2 s.heap t1 t2}):=
 .of_wp fun prog w A R s h=>by
  obtain⟨hp,g,d,tk,os⟩:=s;obtain⟨d1,d2,h⟩:=h
  have hsub:=sub_zip
  have dd1:u1.S (Shared.heap ⟨hp,g,d,tk,os⟩) t1 xs:=d1
  have dd2:u2.S (Shared.heap ⟨hp.push {cls:= .type u1.it,data:= .fields #[.ref t1,.int 0 0]},g,d,tk,os⟩) t2 ys:=u2.push d2 _
  wp_walk using u1.iter dd1,u2.iter dd2
  exact⟨_,rfl,h⟩
section
variable {prog:Program} {w:World} {A:Around} {E:Value->Shared->Prop} {s:Shared}
theorem yQ {u1 u2:Sk} {t1 t2:Addr} {xs ys:Array Value} {Q:Value->Shared->Prop} (d1:u1.S s.heap t1 xs) (d2:u2.S s.heap t2 ys)
  (k:∀h',IsZip h' (s.heap.objs.size+ 4) (s.heap.objs.size+ 2) (s.heap.objs.size+ 3) .none->IsPair h' (s.heap.objs.size+ 2) (.ref s.heap.objs.size) (.ref (s.heap.objs.size+ 1))->
   IsPair h' (s.heap.objs.size+ 3) .none .none->SI u1.it h' s.heap.objs.size t1 0->SI u2.it h' (s.heap.objs.size+ 1) t2 0->(∀c o,s.heap.get? c=some o->h'.get? c=some o)->Q (.ref (s.heap.objs.size+ 4)) {s with heap:=h'}):
  wpAny (model prog w) A (call (.type "zip") [.ref t1,.ref t2]) Q E s:=by
 refine callType_new F.called_zip (by decide) (F.typeCall_zip_2 _ _) (F.newCall_zip_2 _ _) (fun obj=>F.args_object_init_3 obj _ _) F.entry_zip_new (ED u1 u2 t1 t2 xs ys) ⟨d1,d2,?_⟩
 have z1:(zt1 u1 s.heap t1).objs.size=s.heap.objs.size+ 1:=eM ..
 have z2:(zt2 u1 u2 s.heap t1 t2).objs.size=s.heap.objs.size+ 2:=by rw[eM,z1]
 have z3:(zt3 u1 u2 s.heap t1 t2).objs.size=s.heap.objs.size+ 3:=by rw[eM,z2]
 have z4:(zt4 u1 u2 s.heap t1 t2).objs.size=s.heap.objs.size+ 4:=by rw[eM,z3]
 have m5:(zt5 u1 u2 s.heap t1 t2).get? (zt4 u1 u2 s.heap t1 t2).objs.size=some _:=eJ _ rfl
 have m4:(zt5 u1 u2 s.heap t1 t2).get? (zt3 u1 u2 s.heap t1 t2).objs.size=some _:=eK _ (eJ _ rfl)
 have m3:(zt5 u1 u2 s.heap t1 t2).get? (zt2 u1 u2 s.heap t1 t2).objs.size=some _:=eK _ (eK _ (eJ _ rfl))
 have m2:(zt5 u1 u2 s.heap t1 t2).get? (zt1 u1 s.heap t1).objs.size=some _:=eK _ (eK _ (eK _ (eJ _ rfl)))
 have m1:(zt5 u1 u2 s.heap t1 t2).get? s.heap.objs.size=some _:=eK _ (eK _ (eK _ (eK _ (eJ _ rfl))))
 show _/\_
 rw[z2,z3,z4]at m5
 rw[z1,z2]at m3
 rw[z3]at m4
 rw[z1]at m2
 rw[z4]
 exact⟨⟨_,m5,rfl⟩,k _ m5 m3 m4 ⟨_,m1,rfl,rfl⟩ ⟨_,m2,rfl,rfl⟩ fun c o q=>eK _ (eK _ (eK _ (eK _ (eK _ q))))⟩
end
def Itg (u1 u2:Sk) (K:PySem.W.Frag) (a b:Addr):It:=
 ⟨fun i H=>∃xs ys x y,u1.Sq K H a xs/\u2.Sq K H b ys/\xs[i]?=some x/\ys[i]?=some y,
   fun i H v H'=>∃T x y,v= .ref T/\H T=none/\H'=upd H T (.tup [x,y])/\(∀xs,u1.Sq K H a xs->xs[i]?=some x)/\∀ys,u2.Sq K H b ys->ys[i]?=some y,
   fun i H=>∃xs ys,u1.Sq K H a xs/\u2.Sq K H b ys/\i=min xs.length ys.length⟩
def ZTSt (u1 u2:Sk) (z TI TO i1 i2 a b:Addr) (i:Nat) (h:Heap):Prop:=IsZip h z TI TO .none/\IsPair h TI (.ref i1) (.ref i2)/\(∃u v,IsPair h TO u v)/\SI u1.it h i1 a i/\SI u2.it h i2 b i
theorem yR {u1 u2:Sk} {P:Program} {w:World} {K:PySem.W.Frag} {es:List Expr} {kk:Nat} {tp:Pos} {a b z TI TO i1 i2:Addr} (D:ZipApart z TI TO i1 i2 a b):Ci P w K (.Tuple es kk tp) (Itg u1 u2 K a b) [z,TI,TO,i1,i2] z (ZTSt u1 u2 z TI TO i1 i2 a b) where
 mem:=by simp
 obj:=fun i h st c hc=>by
  obtain⟨g1,g2,⟨u,v,g3⟩,⟨o4,g4,_,d4⟩,⟨o5,g5,_,d5⟩⟩:=st
  simp only[ak,bh,or_false]at hc
  rcases hc with e|e|e|e|e<;>subst e
  ·exact⟨_,g1,fun v q=>nomatch q⟩
  ·exact⟨_,g2,fun v q=>nomatch q⟩
  ·exact⟨_,g3,fun v q=>nomatch q⟩
  ·exact⟨_,g4,fun v q=>by rw[d4]at q;cases q⟩
  ·exact⟨_,g5,fun v q=>by rw[d5]at q;cases q⟩
 keep:=fun i h h' st k=>by
  obtain⟨g1,g2,⟨u,v,g3⟩,⟨o4,g4,r4⟩,⟨o5,g5,r5⟩⟩:=st
  exact⟨k z (by simp) _ g1,k TI (by simp) _ g2,⟨u,v,k TO (by simp) _ g3⟩,⟨o4,k i1 (by simp) o4 g4,r4⟩,⟨o5,k i2 (by simp) o5 g5,r5⟩⟩
 item:=by
  intro X hP hw hK hc i pz s σ H E I hf st hg
  subst hP hw hK
  obtain⟨xs,ys,x,y,qx,qy,ex,ey⟩:=hg
  obtain⟨i1s,r1,p1,z1⟩:=u1.inv I qx
  obtain⟨i2s,r2,p2,z2⟩:=u2.inv I qy
  obtain⟨g1,g2,⟨u,v,g3⟩,g4,g5⟩:=st
  obtain⟨ux,hux,rr1⟩:=r1.get ex
  obtain⟨uy,huy,rr2⟩:=r2.get ey
  have hw:∀c∈[z,TO,i1,i2],wW X pz H c:=fun c hc=>hf c (by simp only[ak,bh,or_false]at hc⊢;first|(rcases hc with h|h|h|h<;>simp[h])|simp[hc])
  refine yP D g1 g2 g3 g4 g5 (show u1.S s.heap a i1s.toArray from p1) (show u2.S s.heap b i2s.toArray from p2) (x:=ux) (y:=uy) (by simpa using hux) (by simpa using huy) fun h1 a1 a2 a3 a4 a5 a6 hk=>?_
  have kk1:∀c o,c∉[z,TO,i1,i2]->s.heap.get? c=some o->h1.get? c=some o:=fun c o hc e=>hk c o (fun q=>hc (by simp[q])) (fun q=>hc (by simp[q])) (fun q=>hc (by simp[q])) (fun q=>hc (by simp[q])) e
  have J1:Inv X pz σ H {s with heap:=h1,toks:=s.toks}:=I.turnedL kk1 hw
  refine⟨.ref s.heap.objs.size,rfl,wpAny_letOwnedTupleGo_zip a1 fun h2 a1' sb=>?_⟩
  have J2:Inv X pz σ H {s with heap:=h2,toks:=s.toks}:=Inv.turnedL (s:={s with heap:=h1,toks:=s.toks}) (h':=h2) (t':=s.toks) (ch:=[z]) J1 (fun c o hc e=>sb.extBut _ _ (fun q=>hc (by simp[q])) e) fun c hc=>hf c (by simp only[ak,bh,or_false]at hc⊢;first|(rcases hc with h|h|h|h<;>simp[h])|simp[hc])
  have zlt:z<s.heap.objs.size:=eI g1
  have ht2:vK h2 s.heap.objs.size #[ux,uy]:=⟨_,sb.extBut _ _ (b6 zlt) a5,rfl,_,rfl,rfl⟩
  obtain⟨fT,J3⟩:=I.pairNew (b9 _) J2 ht2 rr1 rr2
  refine⟨.ref s.heap.objs.size,_,J3,rfl,⟨_,x,y,rfl,fT,rfl,fun l hl=>by rw[u1.inj I hl qx];exact ex,fun l hl=>by rw[u2.inj I hl qy];exact ey⟩,
   ⟨a1',sb.extBut _ _ D.TIz (hk _ _ D.TIz D.TITO D.TIi1 D.TIi2 g2),⟨_,_,sb.extBut _ _ D.TOz a2⟩,a3.extBut sb.extBut D.i1z,a4.extBut sb.extBut D.i2z⟩,fun c hc=>?_⟩
  rw[eX (fun q=>?_)]
  ·exact(hf c hc).1
  ·have lt:c<s.heap.objs.size:=by
    obtain⟨o4,e4,_⟩:=g4
    obtain⟨o5,e5,_⟩:=g5
    simp only[ak,bh,or_false]at hc
    rcases hc with e|e|e|e|e<;>subst e
    ·exact eI g1
    ·exact eI g2
    ·exact eI g3
    ·exact eI e4
    ·exact eI e5
   exact absurd lt (by rw[q];exact bX _)
 done:=by
  intro X hP hw hK hc i pz s σ H E I hf st hg
  subst hP hw hK
  obtain⟨xs,ys,qx,qy,ei⟩:=hg
  obtain⟨i1s,r1,p1,z1⟩:=u1.inv I qx
  obtain⟨i2s,r2,p2,z2⟩:=u2.inv I qy
  obtain⟨g1,g2,⟨u,v,g3⟩,g4,g5⟩:=st
  have l1:=r1.length
  have l2:=r2.length
  refine sF (I.ok.hd hc) D g1 g2 g3 g4 g5 (show u1.S s.heap a i1s.toArray from p1) (show u2.S s.heap b i2s.toArray from p2) ?_ fun h1 hk=>⟨rfl,I.turnedL (t':=s.toks) (ch:=[z,TO,i1,i2]) (fun c o hc e=>hk c o (fun q=>hc (by simp[q])) (fun q=>hc (by simp[q])) (fun q=>hc (by simp[q])) (fun q=>hc (by simp[q])) e) fun c hc=>hf c (by simp only[ak,bh,or_false]at hc⊢;first|(rcases hc with h|h|h|h<;>simp[h])|simp[hc])⟩
  simp only[bp,List.getElem?_eq_none_iff]
  lia
 self:=fun _ _ _ _ _ st h=>wpAny_pyIter_zip st.1 h
def AE (u1 u2:Sk) (K:PySem.W.Frag) (ta:TA):TI:=fun σ H R=>ta σ H fun vs H1=>∃a b,vs=[.ref a,.ref b]/\(∃xs,u1.Sq K H1 a xs)/\(∃ys,u2.Sq K H1 b ys)/\R (Itg u1 u2 K a b) H1
section
variable {X:Cx}
theorem ve (u1 u2:Sk) {es:List Expr} {kk:Nat} {tp:Pos} {a b:Expr} {ta:TA} {p pos:Pos} (hg:Gl X "zip") (hm:X.mg "zip"=none) (ha:PA X [a,b] ta) (hs:autoParam (starEach [a,b] X.env=[(false,eval a X.env),(false,eval b X.env)]) L2.Internal.auR._auto_1) (hs2:autoParam (starEach [b] X.env=[(false,eval b X.env)]) L2.Internal.auR._auto_1):
  PI X (.Tuple es kk tp) (.Call (.Name "zip" p) [a,b] [] pos) (AE u1 u2 X.K ta):=by
 intro pz s σ H R I h
 refine Call_ (p8 I hg hm EA (eP (thn (ha pos pz s σ H _ I h) fun us s1 ⟨vs,H1,I1,r1,q1⟩=>?_) (by rw[hs,hs2]) (by rw[hs2];rfl)))
 obtain⟨l1,l2,e,⟨xs,q1⟩,⟨ys,q2⟩,q⟩:=q1
 subst e
 obtain⟨u,v,rfl,ru,rv⟩:=Aq r1
 cases ru
 cases rv
 obtain⟨i1s,w1,p1,z1⟩:=u1.inv I1 q1
 obtain⟨i2s,w2,p2,z2⟩:=u2.inv I1 q2
 have o1:@LT.lt Nat _ l1 s1.heap.objs.size:=u1.old I1 q1
 have o2:@LT.lt Nat _ l2 s1.heap.objs.size:=u2.old I1 q2
 refine yQ (show u1.S s1.heap l1 i1s.toArray from p1) (show u2.S s1.heap l2 i2s.toArray from p2) fun h1 hz hTI hTO hi1 hi2 hk=>wpAny_pyIter_zip hz ?_
 have D:ZipApart (s1.heap.objs.size+ 4) (s1.heap.objs.size+ 2) (s1.heap.objs.size+ 3) s1.heap.objs.size (s1.heap.objs.size+ 1) l1 l2:=by constructor<;>exact fun(h:@Eq Nat _ _)=>by lia
 refine⟨_,_,_,_,H1,rfl,I1.kept (t':=s1.toks) hk,yR D,⟨hz,hTI,⟨_,_,hTO⟩,hi1,hi2⟩,fun c hc=>?_,q⟩
 have ge:s1.heap.objs.size<=c:=by
  simp only[ak,bh,or_false]at hc
  rcases hc with h|h|h|h|h<;>rw[h]<;>first|exact b9 _|exact cc _ _
 exact I1.fpOk ge (I1.hok.fresh ge)
theorem BD {es:List Expr} {kk:Nat} {tp:Pos} {a b:Expr} {ta:TA} {p pos:Pos} (hg:Gl X "zip") (hm:X.mg "zip"=none) (ha:PA X [a,b] ta) (hs:autoParam (starEach [a,b] X.env=[(false,eval a X.env),(false,eval b X.env)]) L2.Internal.auR._auto_1) (hs2:autoParam (starEach [b] X.env=[(false,eval b X.env)]) L2.Internal.auR._auto_1):
  PI X (.Tuple es kk tp) (.Call (.Name "zip" p) [a,b] [] pos) (AE lS lS X.K ta):=ve lS lS hg hm ha hs hs2
theorem CM {es:List Expr} {kk:Nat} {tp:Pos} {a b:Expr} {ta:TA} {p pos:Pos} (hg:Gl X "zip") (hm:X.mg "zip"=none) (ha:PA X [a,b] ta) (hs:autoParam (starEach [a,b] X.env=[(false,eval a X.env),(false,eval b X.env)]) L2.Internal.auR._auto_1) (hs2:autoParam (starEach [b] X.env=[(false,eval b X.env)]) L2.Internal.auR._auto_1):
  PI X (.Tuple es kk tp) (.Call (.Name "zip" p) [a,b] [] pos) (AE tS tS X.K ta):=ve tS tS hg hm ha hs hs2
theorem CN {es:List Expr} {kk:Nat} {tp:Pos} {a b:Expr} {ta:TA} {p pos:Pos} (hg:Gl X "zip") (hm:X.mg "zip"=none) (ha:PA X [a,b] ta) (hs:autoParam (starEach [a,b] X.env=[(false,eval a X.env),(false,eval b X.env)]) L2.Internal.auR._auto_1) (hs2:autoParam (starEach [b] X.env=[(false,eval b X.env)]) L2.Internal.auR._auto_1):
  PI X (.Tuple es kk tp) (.Call (.Name "zip" p) [a,b] [] pos) (AE tS lS X.K ta):=ve tS lS hg hm ha hs hs2
end
abbrev Itz:=Itg lS lS
section
variable {prog:Program} {w:World} {A:Around} {E:Value->Shared->Prop} {s:Shared}
end
inductive Prs (H:Hp):List V->List (Str×V)->Prop
 |nil:Prs H [] []
 |cons {a:Addr} {p:Str×V} {l:List V} {m:List (Str×V)}:H a=some (.tup [.str p.1,p.2])->Prs H l m->Prs H (.ref a::l) (p::m)
section
variable {X:Cx} {pz:List (Addr×Obj)} {σ:St} {H:Hp} {d it t:Addr} {vs:List V} {A:Around} {R:Result->Shared->Prop}
end
section
variable {X:Cx}
end
end L2.Internal
namespace BO.Internal
open PySem L2.Internal
theorem sz {n:Nat} (h:n<=100000):n<=sizeLine:=bZ h (by decide)
theorem eW {H:Hp} {p:Addr} (h:H p=none) (o:HO):fE H (upd H p o):=fun b u q=>by rw[eX (fe q h)];exact q
theorem BE {α:Type} (l:List α) (i:Int) (h0:0<=i) (h1:i<(l.length:Int)):∃c,atI l i=some c/\c∈l:=by
 have e:i=((i.toNat:Nat):Int):=by lia
 have hi:i.toNat<l.length:=by lia
 refine⟨l[i.toNat],?_,List.getElem_mem hi⟩
 have z:atI l ((i.toNat:Nat):Int)=some l[i.toNat]:=eY (bb hi)
 rw[<-e]at z
 exact z
def flN:V->Bool
 | .non=>true
 | .int _=>true
 | .str _=>true
 |_=>false
mutual
inductive Im (H:Hp):V->Dt->Prop where
 |flat {v:V} (h:flN v=true):Im H v (.flat v)
 |tup {a:Addr} {xs:List V} {ds:List Dt} (h:H a=some (.tup xs)) (hs:Ims H xs ds):Im H (.ref a) (.tup ds)
inductive Ims (H:Hp):List V->List Dt->Prop where
 |nil:Ims H [] []
 |cons {x:V} {d:Dt} {xs:List V} {ds:List Dt} (h:Im H x d) (hs:Ims H xs ds):Ims H (x::xs) (d::ds)
end
mutual
inductive Dta (H:Hp):V->Dt->Prop where
 |flat {v:V} (h:flN v=true):Dta H v (.flat v)
 |tup {a:Addr} {xs:List V} {ds:List Dt} (h:H a=some (.tup xs)) (hs:sG H xs ds):Dta H (.ref a) (.tup ds)
 |lst {a:Addr} {xs:List V} {ds:List Dt} (h:H a=some (.lst xs)) (hs:sG H xs ds):Dta H (.ref a) (.lst ds)
inductive sG (H:Hp):List V->List Dt->Prop where
 |nil:sG H [] []
 |cons {x:V} {d:Dt} {xs:List V} {ds:List Dt} (h:Dta H x d) (hs:sG H xs ds):sG H (x::xs) (d::ds)
end
def TK (H H':Hp):Prop:=∀a xs,H a=some (.tup xs)->H' a=some (.tup xs)
theorem fE.tk {H H':Hp} (s:fE H H'):TK H H':=fun a xs e=>s a _ e
mutual
theorem Im.mono {H H':Hp} (k:TK H H'):∀{v:V} {d:Dt},Im H v d->Im H' v d
 |_,_,.flat h=> .flat h
 |_,_,.tup h hs=> .tup (k _ _ h) (Ims.mono k hs)
theorem Ims.mono {H H':Hp} (k:TK H H'):∀{v:List V} {d:List Dt},Ims H v d->Ims H' v d
 |_,_,.nil=> .nil
 |_,_,.cons h hs=> .cons (Im.mono k h) (Ims.mono k hs)
end
mutual
theorem Im.da {H:Hp}:∀{v:V} {d:Dt},Im H v d->Dta H v d
 |_,_,.flat h=> .flat h
 |_,_,.tup h hs=> .tup h (Ims.das hs)
theorem Ims.das {H:Hp}:∀{v:List V} {d:List Dt},Ims H v d->sG H v d
 |_,_,.nil=> .nil
 |_,_,.cons h hs=> .cons (Im.da h) (Ims.das hs)
end
mutual
theorem Dta.same {H H':Hp} (k:fE H H'):∀{v:V} {d:Dt},Dta H v d->Dta H' v d
 |_,_,.flat h=> .flat h
 |_,_,.tup h hs=> .tup (k _ _ h) (sG.same k hs)
 |_,_,.lst h hs=> .lst (k _ _ h) (sG.same k hs)
theorem sG.same {H H':Hp} (k:fE H H'):∀{v:List V} {d:List Dt},sG H v d->sG H' v d
 |_,_,.nil=> .nil
 |_,_,.cons h hs=> .cons (Dta.same k h) (sG.same k hs)
end
theorem sG.length {H:Hp}:∀{xs:List V} {ds:List Dt},sG H xs ds->xs.length=ds.length
 |_,_,.nil=>rfl
 |_,_,.cons _ t=>by rw[az,az,sG.length t]
theorem Ims.length {H:Hp}:∀{xs:List V} {ds:List Dt},Ims H xs ds->xs.length=ds.length
 |_,_,.nil=>rfl
 |_,_,.cons _ t=>by rw[az,az,Ims.length t]
theorem sG.get {H:Hp}:∀{xs:List V} {ds:List Dt} {j:Nat} {x:V},sG H xs ds->xs[j]?=some x->∃d,ds[j]?=some d/\Dta H x d
 |_,_,0,_,.cons h _,e=>⟨_,rfl,by cases e;exact h⟩
 |_,_,j+ 1,_,.cons _ t,e=>by
  rw[bj]at e
  obtain⟨d,e1,e2⟩:=sG.get t e
  exact⟨d,by rw[bj];exact e1,e2⟩
theorem depDs_get:∀{l:List Dt} {j:Nat} {a:Dt},l[j]?=some a->iE a<=fZ l
 |x::xs,0,a,h=>by
  cases h
  exact Nat.le_max_left _ _
 |x::xs,j+ 1,a,h=>by
  rw[bj]at h
  exact bZ (depDs_get h) (Nat.le_max_right _ _)
theorem Ims.app {H:Hp}:∀{xs ys:List V} {ds es:List Dt},Ims H xs ds->Ims H ys es->Ims H (xs++ys) (ds++es)
 |_,_,_,_,.nil,h=>h
 |_,_,_,_,.cons a b,h=> .cons a (Ims.app b h)
inductive mH {α β:Type} (F:α->β->Prop):List α->List β->Prop
 |nil:mH F [] []
 |cons {a:α} {b:β} {l:List α} {m:List β}:F a b->mH F l m->mH F (a::l) (b::m)
theorem mH.imp {α β:Type} {F G:α->β->Prop} (f:∀a b,F a b->G a b):∀{l:List α} {m:List β},mH F l m->mH G l m
 |_,_,.nil=> .nil
 |_,_,.cons h t=> .cons (f _ _ h) (mH.imp f t)
theorem mH.snoc {α β:Type} {F:α->β->Prop} {a:α} {b:β} (h:F a b):∀{l:List α} {m:List β},mH F l m->mH F (l++[a]) (m++[b])
 |_,_,.nil=> .cons h .nil
 |_,_,.cons x t=> .cons x (mH.snoc h t)
theorem mH.length {α β:Type} {F:α->β->Prop}:∀{l:List α} {m:List β},mH F l m->l.length=m.length
 |_,_,.nil=>rfl
 |_,_,.cons _ t=>by rw[az,az,mH.length t]
theorem mH.get {α β:Type} {F:α->β->Prop}:∀{l:List α} {m:List β} {j:Nat} {x:α},mH F l m->l[j]?=some x->∃y,m[j]?=some y/\F x y
 |_,_,0,_,.cons h _,e=>⟨_,rfl,by cases e;exact h⟩
 |_,_,j+ 1,_,.cons _ t,e=>by
  rw[bj]at e
  obtain⟨d,e1,e2⟩:=mH.get t e
  exact⟨d,by rw[bj];exact e1,e2⟩
mutual
def okD:Dt->Prop
 | .flat _=>True
 | .tup l=>l.length<=100000/\ud l
 | .lst l=>l.length<=100000/\ud l
def ud:List Dt->Prop
 |[]=>True
 |x::xs=>okD x/\ud xs
end
theorem pZ:∀{l:List Dt} {j:Nat} {a:Dt},ud l->l[j]?=some a->okD a
 |x::xs,0,a,o,h=>by
  cases h
  exact o.1
 |x::xs,j+ 1,a,o,h=>by
  rw[bj]at h
  exact pZ o.2 h
theorem jr {α:Type} {f:α->Dt}:∀{l:List α},(∀x∈l,okD (f x))->ud (l.map f)
 |[],_=>trivial
 |x::xs,h=>⟨h x (by simp),jr fun y hy=>h y (by simp[hy])⟩
theorem iS {α:Type} {f:α->Dt} {n:Nat}:∀{l:List α},(∀x∈l,iE (f x)<=n)->fZ (l.map f)<=n
 |[],_=>cb _
 |x::xs,h=>Nat.max_le.mpr ⟨h x (by simp),iS fun y hy=>h y (by simp[hy])⟩
def prL (p:Str×Int):Dt:= .tup [.flat (.str p.1),.flat (.int p.2)]
def prD (l:List (Str×Int)):Dt:= .tup (l.map prL)
inductive Us where
 |num (a p s:Int)
 |call (a p s x y:Int)
 |take (a p s:Int) (l:List (Str×Int))
 |case (a p s:Int) (l:List (Str×Int))
 |row (a p s x:Int)
def hdD (n:Str) (a p s:Int):List Dt:=[.flat (.str n),.flat (.int a),.flat (.int p),.flat (.int s)]
def Us.d:Us->Dt
 | .num a p s=> .tup (hdD "num" a p s)
 | .call a p s x y=> .tup (hdD "call" a p s++[.flat (.int x),.flat (.int y)])
 | .take a p s l=> .tup (hdD "take" a p s++[prD l])
 | .case a p s l=> .tup (hdD "case" a p s++[prD l])
 | .row a p s x=> .tup (hdD "row" a p s++[.flat (.int x)])
def Us.ok:Us->Prop
 | .take _ _ _ l=>l.length<=10
 | .case _ _ _ l=>l.length<=10
 |_=>True
structure Mkg where
 s:Str
 f:Dt
 a:Int
 p:Int
def Mkg.d (m:Mkg):Dt:= .tup [.flat (.str m.s),m.f,.flat (.int m.a),.flat (.int m.p)]
theorem vf (l:List (Str×Int)):iE (prD l)<=2:=by
 have h:∀l:List (Str×Int),fZ (l.map prL)<=1:=by
  intro l
  induction l with
  |nil=>exact cb _
  |cons x t ih=>exact Nat.max_le.mpr ⟨by simp[prL,iE,fZ],ih⟩
 exact Nat.succ_le_succ (h l)
theorem Us.dep (u:Us):iE u.d<=3:=by
 cases u with
 |num a p s=>simp[Us.d,hdD,iE,fZ]
 |call a p s x y=>simp[Us.d,hdD,iE,fZ]
 |take a p s l=>have:=vf l;simp[Us.d,hdD,iE,fZ];lia
 |case a p s l=>have:=vf l;simp[Us.d,hdD,iE,fZ];lia
 |row a p s x=>simp[Us.d,hdD,iE,fZ]
theorem yS {l:List (Str×Int)} (h:l.length<=10):okD (prD l):=⟨by rw[aC];lia,jr fun x _=>⟨by show 2<=100000;decide,trivial,trivial,trivial⟩⟩
theorem Us.okd {u:Us} (h:u.ok):okD u.d:=by
 cases u with
 |num a p s=>exact⟨by show 4<=100000;decide,trivial,trivial,trivial,trivial,trivial⟩
 |call a p s x y=>exact⟨by show 6<=100000;decide,trivial,trivial,trivial,trivial,trivial,trivial,trivial⟩
 |take a p s l=>exact⟨by show 5<=100000;decide,trivial,trivial,trivial,trivial,yS h,trivial⟩
 |case a p s l=>exact⟨by show 5<=100000;decide,trivial,trivial,trivial,trivial,yS h,trivial⟩
 |row a p s x=>exact⟨by show 5<=100000;decide,trivial,trivial,trivial,trivial,trivial,trivial⟩
def fU (a p s:V):List (Str×V):=[("at",a),("place",p),("slot",s)]
def fU1 (n:Str) (a p s x:V):List (Str×V):=[("at",a),("place",p),("slot",s),(n,x)]
def fU2 (a p s x y:V):List (Str×V):=[("at",a),("place",p),("slot",s),("arg",x),("out",y)]
def fM (s f a p:V):List (Str×V):=[("shape",s),("parts",f),("at",a),("place",p)]
def fB (p0 p1 p2 p3:Addr) (r:V):List (Str×V):=[("points",.ref p0),("makes",.ref p1),("uses",.ref p2),("flows",.ref p3),("root",r)]
structure Cs where
 M:Addr
 N:Addr
 C:Addr
 T:Addr
 K:Addr
 R:Addr
 B:Addr
def ql (c:Cs) (H:Hp) (v:V):Us->Prop
 | .num a p s=>∃x dx,v= .ref x/\H x=some (.ins c.N dx (fU (.int a) (.int p) (.int s)))
 | .call a p s y z=>∃x dx,v= .ref x/\H x=some (.ins c.C dx (fU2 (.int a) (.int p) (.int s) (.int y) (.int z)))
 | .take a p s l=>∃x dx f,v= .ref x/\H x=some (.ins c.T dx (fU1 "fields" (.int a) (.int p) (.int s) f))/\Im H f (prD l)/\l.length<=10
 | .case a p s l=>∃x dx f,v= .ref x/\H x=some (.ins c.K dx (fU1 "arms" (.int a) (.int p) (.int s) f))/\Im H f (prD l)/\l.length<=10
 | .row a p s y=>∃x dx,v= .ref x/\H x=some (.ins c.R dx (fU1 "out" (.int a) (.int p) (.int s) (.int y)))
def sH (c:Cs) (H:Hp) (v:V) (m:Mkg):Prop:=∃x dx f,v= .ref x/\H x=some (.ins c.M dx (fM (.str m.s) f (.int m.a) (.int m.p)))/\Im H f m.f/\iE m.f<=2/\okD m.f
def Fz:HO->Prop
 | .tup _=>True
 | .ins _ _ fs=>fs.length≠5\/∃v r,fs=(("at":Str),v)::r
 |_=>False
def FK (H H':Hp):Prop:=∀a o,H a=some o->Fz o->H' a=some o
theorem FK.tk {H H':Hp} (k:FK H H'):TK H H':=fun a xs e=>k a _ e trivial
theorem fE.fk {H H':Hp} (s:fE H H'):FK H H':=fun a o e _=>s a o e
theorem FK.trans {H H1 H2:Hp} (a:FK H H1) (b:FK H1 H2):FK H H2:=fun c o e f=>b c o (a c o e f) f
theorem ql.mono {c:Cs} {H H':Hp} {v:V} (k:FK H H'):∀{u:Us},ql c H v u->ql c H' v u
 | .num _ _ _,⟨x,dx,e,h⟩=>⟨x,dx,e,k _ _ h (.inr ⟨_,_,rfl⟩)⟩
 | .call _ _ _ _ _,⟨x,dx,e,h⟩=>⟨x,dx,e,k _ _ h (.inr ⟨_,_,rfl⟩)⟩
 | .take _ _ _ _,⟨x,dx,f,e,h,i,n⟩=>⟨x,dx,f,e,k _ _ h (.inr ⟨_,_,rfl⟩),i.mono k.tk,n⟩
 | .case _ _ _ _,⟨x,dx,f,e,h,i,n⟩=>⟨x,dx,f,e,k _ _ h (.inr ⟨_,_,rfl⟩),i.mono k.tk,n⟩
 | .row _ _ _ _,⟨x,dx,e,h⟩=>⟨x,dx,e,k _ _ h (.inr ⟨_,_,rfl⟩)⟩
theorem ql.ok {c:Cs} {H:Hp} {v:V}:∀{u:Us},ql c H v u->u.ok
 | .num _ _ _,_=>trivial
 | .call _ _ _ _ _,_=>trivial
 | .take _ _ _ _,⟨_,_,_,_,_,_,n⟩=>n
 | .case _ _ _ _,⟨_,_,_,_,_,_,n⟩=>n
 | .row _ _ _ _,_=>trivial
theorem sH.mono {c:Cs} {H H':Hp} {v:V} {m:Mkg} (k:FK H H'):sH c H v m->sH c H' v m
 |⟨x,dx,f,e,h,i,d⟩=>⟨x,dx,f,e,k _ _ h (.inl (by show 4≠5;decide)),i.mono k.tk,d⟩
theorem kC {J:It} {i:Nat} {te:TE} {Q:VK} {τ:St} {H1:Hp} {D:Addr} (n:Nat) (hn:n<sizeLine) (R:List V->Hp->Prop) (hR:∀xs H H',R xs H->TK H H'->R xs H') (hD:H1 D=none) (hτ:τ.set i none=τ)
  (hgo:∀k H,fE H1 H->k<n->J.go k H) (hst:∀H,fE H1 H->J.stop n H) (h0:R [] H1)
  (step:∀k H v H3 xs (Z:VK),fE H1 H->k<n->J.yld k H v H3->R xs H->xs.length=k->(∀y H5,fE H H5->R (xs++[y]) H5->Z y H5)->te (τ.set i (some v)) H3 Z)
  (hq:∀H' xs,fE H1 H'->R xs H'->xs.length=n->H' D=some (.lst xs)->Q (.ref D) H'):LcP J i mO te Q τ H1 D:=by
 have nd:∀(H5:Hp) (xs ys:List V),H5 D=some (.lst xs)->TK H5 (upd H5 D (.lst ys)):=fun H5 xs ys e a zs q=>by rw[eX (jw q e (fun z=>nomatch z))];exact q
 have up:∀{H:Hp} (o:HO),fE H1 H->fE H1 (upd H D o):=fun{H} o S b u e=>by rw[eX (fe e hD)];exact S b u e
 refine⟨fun k m σ' H2=>m=n-k/\k<=n/\(∃o,σ'=τ.set i o)/\fE H1 H2/\∃xs,H2 D=some (.lst xs)/\xs.length=k/\R xs H2,⟨n,by simp,cb _,⟨none,hτ.symm⟩,eW hD _,[],eS,rfl,hR _ _ _ h0 (fE.tk (eW hD _))⟩,?_⟩
 rintro k m σ' H2 ⟨rfl,hk,⟨o,rfl⟩,S,xs,e,hl,hr⟩
 by_cases hlt:k<n
 ·refine .inr ⟨hgo k H2 S hlt,fun v H3 y=>?_⟩
  rw[bq]
  refine step k H2 v H3 xs _ S hlt y hr hl fun y H5 S5 r5=>?_
  refine⟨xs,S5 D _ e,by lia,n-(k+ 1),by lia,rfl,hlt,⟨some v,rfl⟩,up _ (S.trans S5),xs++[y],eS,by rw[aO,hl];rfl,hR _ _ _ r5 (nd H5 _ _ (S5 D _ e))⟩
 ·have e1:k=n:=by lia
  subst e1
  exact .inl ⟨hst H2 S,hq H2 xs S hr hl e⟩
theorem pq {K:PySem.W.Frag} {a:Addr} {xs:List V} {k:Nat} {H1 H:Hp} (e:H1 a=some (.lst xs)) (S:fE H1 H) (h:k<xs.length):(Itl K a).go k H:=⟨xs,xs[k],SqL.of (S a _ e),bb h⟩
theorem pA {K:PySem.W.Frag} {a:Addr} {xs:List V} {H1 H:Hp} (e:H1 a=some (.lst xs)) (S:fE H1 H):(Itl K a).stop xs.length H:=⟨xs,SqL.of (S a _ e),b9 _⟩
theorem EE {K:PySem.W.Frag} {a:Addr} {xs:List V} {k:Nat} {H1 H:Hp} (e:H1 a=some (.tup xs)) (S:fE H1 H) (h:k<xs.length):(Itt K a).go k H:=⟨xs,xs[k],SqT.of (S a _ e),bb h⟩
theorem EF {K:PySem.W.Frag} {a:Addr} {xs:List V} {H1 H:Hp} (e:H1 a=some (.tup xs)) (S:fE H1 H):(Itt K a).stop xs.length H:=⟨xs,SqT.of (S a _ e),b9 _⟩
inductive Ls (H:Hp):List Addr->List (List V)->Prop
 |nil:Ls H [] []
 |cons {a:Addr} {c:List V} {l:List Addr} {m:List (List V)}:H a=some (.lst c)->Ls H l m->Ls H (a::l) (c::m)
theorem Ls.frame {H H':Hp} {M:List Addr} (k:∀a o,H a=some o->a∉M->H' a=some o):∀{l:List Addr} {m:List (List V)},Ls H l m->(∀a∈l,a∉M)->Ls H' l m
 |_,_,.nil,_=> .nil
 |_,_,.cons (a:=a) h t,n=> .cons (k _ _ h (n a (by simp))) (Ls.frame k t fun b hb=>n b (by simp[hb]))
theorem Ls.get {H:Hp}:∀{l:List Addr} {m:List (List V)} {i:Nat} {a:Addr},Ls H l m->l[i]?=some a->∃c,m[i]?=some c/\H a=some (.lst c)
 |_,_,0,_,.cons h _,e=>⟨_,rfl,by cases e;exact h⟩
 |_,_,j+ 1,_,.cons _ t,e=>by
  rw[bj]at e
  obtain⟨d,e1,e2⟩:=Ls.get t e
  exact⟨d,by rw[bj];exact e1,e2⟩
structure Sd where
 b:Addr
 dx:Addr
 p0:Addr
 p1:Addr
 p2:Addr
 p3:Addr
 d:Addr
 q0:Addr
 q1:Addr
 q2:Addr
 q3:Addr
def Sd.ls (S:Sd):List Addr:=[S.p0,S.p1,S.p2,S.p3,S.d,S.q0,S.q1,S.q2,S.q3]
structure Bd where
 pts:List Int
 mks:List Mkg
 uss:List Us
 fls:List (Int×Int)
 root:Int
def flD (p:Int×Int):Dt:= .tup [.flat (.int p.1),.flat (.int p.2)]
structure BSx (c:Cs) (H:Hp) (S:Sd) (E D:Bd):Prop where
 nd:S.ls.Nodup
 ob:H S.b=some (.ins c.B S.dx (fB S.p0 S.p1 S.p2 S.p3 (.int D.root)))
 st:∃mv uv fv mv' uv' fv':List V,Ls H S.ls [D.pts.map V.int,mv,uv,fv,[.ref S.q0,.ref S.q1,.ref S.q2,.ref S.q3,.int E.root],E.pts.map V.int,mv',uv',fv']/\
  mH (sH c H) mv D.mks/\mH (ql c H) uv D.uss/\Ims H fv (D.fls.map flD)/\Ims H mv' (E.mks.map Mkg.d)/\Ims H uv' (E.uss.map Us.d)/\Ims H fv' (E.fls.map flD)
theorem Ls.at {H:Hp} {l:List Addr} {m:List (List V)} (L:Ls H l m) {i:Nat} {a:Addr} {c:List V} (h1:l[i]?=some a) (h2:m[i]?=some c):H a=some (.lst c):=by
 obtain⟨d,e1,e2⟩:=L.get h1
 rw[h2]at e1
 cases e1
 exact e2
theorem ij {H:Hp} {a:Addr} {xs:List V} {o:HO} (h:H a=some (.lst xs)):FK H (upd H a o):=fun b u e f=>by
 rw[eX (jw e h (fun z=>by rw[z]at f;exact f))]
 exact e
theorem v7 {H:Hp} {a C dx p0 p1 p2 p3:Addr} {r:V} {o:HO} (h:H a=some (.ins C dx (fB p0 p1 p2 p3 r))):FK H (upd H a o):=fun b u e f=>by
 rw[eX (jw e h (fun z=>by
  rw[z]at f
  rcases f with f|⟨v,r,f⟩
  ·exact f rfl
  ·injection f with f _
   injection f with f _
   exact absurd f fW))]
 exact e
section
variable {c:Cs} {H H':Hp} {S:Sd} {E D:Bd}
theorem BSx.frame {M:List Addr} (B:BSx c H S E D) (k:∀a o,H a=some o->a∉M->H' a=some o) (hb:S.b∉M) (hl:∀a∈S.ls,a∉M) (fk:FK H H'):BSx c H' S E D:=by
 obtain⟨nd,ob,mv,uv,fv,mv',uv',fv',L,h1,h2,h3,h4,h5,h6⟩:=B
 exact⟨nd,k _ _ ob hb,mv,uv,fv,mv',uv',fv',L.frame k hl,h1.imp fun _ _=>sH.mono fk,h2.imp fun _ _=>ql.mono fk,h3.mono fk.tk,h4.mono fk.tk,h5.mono fk.tk,h6.mono fk.tk⟩
end
theorem BSx.hl {c:Cs} {H:Hp} {S:Sd} {E D:Bd} {l:Addr} {xs:List V} {o:HO} (B:BSx c H S E D) (hn:l∉S.ls) (e:H l=some (.lst xs)):BSx c (upd H l o) S E D:=by
 refine B.frame (M:=[l]) (fun a u q n=>?_) (fun z=>?_) (fun a ha z=>?_) (ij e)
 ·rw[eX (fun z=>n (by simp[z]))];exact q
 ·have z':S.b=l:=by simpa using z
  have q:=B.ob
  rw[z',e]at q
  cases q
 ·have z':a=l:=by simpa using z
  rw[z']at ha
  exact hn ha
def Frm (M:List Addr) (H H':Hp):Prop:=∀a o,H a=some o->a∉M->H' a=some o
theorem Frm.trans {M:List Addr} {H H1 H2:Hp} (a:Frm M H H1) (b:Frm M H1 H2):Frm M H H2:=fun c o e n=>b c o (a c o e n) n
theorem ue (H:Hp):∀l:List Int,sG H (l.map V.int) (l.map fun i=> .flat (.int i))
 |[]=> .nil
 |_::t=> .cons (.flat rfl) (ue H t)
theorem mH.right {α β:Type} {F:α->β->Prop}:∀{l:List α} {m:List β},mH F l m->∀y∈m,∃x,F x y
 |_,_,.nil,y,h=>by simp at h
 |_,_,.cons f t,y,h=>by
  rcases ak.mp h with z|z
  ·rw[z];exact⟨_,f⟩
  ·exact mH.right t y z
def Dist (l:List (Str×Int)):Prop:=(l.map Prod.fst).Nodup
inductive Mf where
 |num
 |fn (x y:Int)
 |rcd (l:List (Str×Int))
 |tag (w:Str) (x:Int)
 |row (x:Int)
 |any
def Mf.s:Mf->Str
 | .num=>"num"
 | .fn _ _=>"fn"
 | .rcd _=>"rec"
 | .tag _ _=>"tag"
 | .row _=>"row"
 | .any=>"any"
def Mf.f:Mf->Dt
 | .num=> .tup []
 | .fn x y=> .tup [.flat (.int x),.flat (.int y)]
 | .rcd l=>prD l
 | .tag w x=> .tup [.flat (.str w),.flat (.int x)]
 | .row x=> .tup [.flat (.int x)]
 | .any=> .tup []
def Mf.ok:Mf->Prop
 | .rcd l=>l.length<=10/\Dist l
 |_=>True
end BO.Internal
namespace L2.Internal
open PySem PySem.Spec PyProof.Rows
section
variable {X:Cx} {e a b o f:Expr} {st:Stmt} {ta tb td ty tx to:TE} {pos apos cpos:Pos}
theorem PE.weak {t t':TE} (h:PE X e t) (m:∀σ H Q,t' σ H Q->t σ H Q):PE X e t':=fun pz s σ H Q I q=>h pz s σ H Q I (m σ H Q q)
theorem PT.weak {t t':TT} (h:PT X e t) (m:∀σ H Q,t' σ H Q->t σ H Q):PT X e t':=fun pz s σ H Q I q=>h pz s σ H Q I (m σ H Q q)
theorem PS.weak {t t':TS} (h:PS X st t) (m:∀D σ H,t' D σ H->t D σ H):PS X st t':=fun pz s σ H D I q=>h pz s σ H D I (m D σ H q)
theorem OpR.weak {g:Value->Value->Sem Value} {r r':R2} (h:OpR X g r) (m:∀x y H Q,r' x y H Q->r x y H Q):OpR X g r':=fun pz s σ H x y v u Q I rx ry q=>h pz s σ H x y v u Q I rx ry (m x y H Q q)
theorem IxR.weak {r r':R2} (h:IxR X r) (m:∀x y H Q,r' x y H Q->r x y H Q):IxR X r':=fun value slice pz s σ H x y v u Q I rx ry q hs=>h value slice pz s σ H x y v u Q I rx ry (m x y H Q q) hs
def mT (t:TE):TE:=fun σ H Q=>∃Q0:VK,t σ H Q0/\∀x H1,Q0 x H1->Q x H1
theorem PE.mono {t:TE} (h:PE X e t):PE X e (mT t):=fun pz s σ H Q I ⟨Q0,h0,m⟩=>thn (h pz s σ H Q0 I h0) fun v s1 ⟨x,H1,I1,r1,q1⟩=>⟨x,H1,I1,r1,m x H1 q1⟩
def mR (r:R2):R2:=fun x y H Q=>∃Q0:VK,r x y H Q0/\∀x H1,Q0 x H1->Q x H1
theorem OpR.mono {g:Value->Value->Sem Value} {r:R2} (h:OpR X g r):OpR X g (mR r):=fun pz s σ H x y v u Q I rx ry ⟨Q0,h0,m⟩=>thn (h pz s σ H x y v u Q0 I rx ry h0) fun v s1 ⟨x,H1,I1,r1,q1⟩=>⟨x,H1,I1,r1,m x H1 q1⟩
def onV:Option (Option V)->(V->Prop)->Prop
 |some (some v),k=>k v
 |_,_=>False
def onS {α:Type}:Option α->(α->Prop)->Prop
 |some v,k=>k v
 |none,_=>False
theorem fc {α:Type} {x:Option α} {v:α} {k:α->Prop} (h:x=some v) (q:k v):onS x k:=by rw[h];exact q
theorem BF {α:Type} {x:Option α} {k:α->Prop} (h:onS x k):∃v,x=some v/\k v:=by
 cases x with
 |none=>exact h.elim
 |some v=>exact⟨v,rfl,h⟩
def cV (i:Nat):TE:=fun σ H Q=>onV σ[i]? fun v=>Q v H
theorem cv (i:Nat) {x:Str} {pos:Pos} (hN:autoParam (X.N[i]?=some x) L2.Internal.auR._auto_1) (hv:Vis X.env.scope x:=by first|exact Or.inl rfl|exact Or.inr (.inl rfl)|exact Or.inr (.inr rfl)) (hd:autoParam ((x==("__debug__":Str))=false) L2.Internal.auD._auto_1)
  (hcd:autoParam ((x==("__classdict__":Str))=false) L2.Internal.auD._auto_1):PE X (.Name x pos) (cV i):=(pv i hN hv hd hcd).weak fun σ H Q h=>by
 unfold cV at h
 cases q:σ[i]? with
 |none=>rw[q]at h;exact h.elim
 |some o=>
  rw[q]at h
  cases o with
  |none=>exact h.elim
  |some v=>exact⟨v,q,h⟩
def cI0 (g:Int->Int->V):R2:=fun x y H Q=>match x,y with
 | .int i,.int j=>Q (g i j) H
 |_,_=>False
def cI (C:Int->Int->Prop) (g:Int->Int->V):R2:=fun x y H Q=>match x,y with
 | .int i,.int j=>C i j/\Q (g i j) H
 |_,_=>False
theorem uf {g:Int->Int->V}:∀x y H Q,cI0 g x y H Q->rI0 g x y H Q:=fun x y H Q h=>by
 unfold cI0 at h
 split at h
 ·exact⟨_,_,rfl,rfl,h⟩
 ·exact h.elim
theorem AF {C:Int->Int->Prop} {g:Int->Int->V}:∀x y H Q,cI C g x y H Q->rI C g x y H Q:=fun x y H Q h=>by
 unfold cI at h
 split at h
 ·exact⟨_,_,rfl,rfl,h.1,h.2⟩
 ·exact h.elim
theorem gk:OpR X (binaryOp .Add) (cI0 fun i j=> .int (i+j)):=vT.weak uf
theorem lQ:OpR X (binaryOp .Sub) (cI0 fun i j=> .int (i-j)):=Bl.weak uf
theorem qm:OpR X (binaryOp .Mult) (cI Eg fun i j=> .int (i*j)):=Eh.weak AF
theorem kh:OpR X (binaryOp .FloorDiv) (cI Gj fun i j=> .int (i/j)):=mL.weak AF
theorem iJ:OpR X (binaryOp .Mod) (cI (fun _ j=>0<j) fun i j=> .int (i%j)):=qb.weak AF
theorem BG:OpR X (binaryOp .Pow) (cI Hw fun i j=> .int (i^j.toNat)):=Bm.weak AF
theorem lG:OpR X (compareOp .Lt) (cI0 fun i j=> .bl (decide (i<j))):=Gk.weak uf
theorem sI:OpR X (compareOp .LtE) (cI0 fun i j=> .bl (decide (i<=j))):=Gm.weak uf
theorem xr:OpR X (compareOp .Gt) (cI0 fun i j=> .bl (decide (j<i))):=Gp.weak uf
def cEq (n:Bool):R2:=fun x y H Q=>match x,y with
 | .int i,.int j=>Q (.bl (xor n (decide (i=j)))) H
 | .str i,.str j=>Q (.bl (xor n (decide (i=j)))) H
 |_,_=>False
theorem HD {i j:Str}:decide (V.str i=V.str j)=decide (i=j):=by
 rw[dW]
 simp
theorem HE {i j:Int}:decide (V.int i=V.int j)=decide (i=j):=by
 rw[dW]
 simp
theorem jE:OpR X (compareOp .Eq) (cEq false):=wZ.weak fun x y H Q h=>by
 unfold cEq at h
 split at h
 ·refine⟨rfl,?_⟩;rw[HE];rw[dZ]at h;exact h
 ·refine⟨rfl,?_⟩;rw[HD];rw[dZ]at h;exact h
 ·exact h.elim
theorem CO:OpR X (compareOp .NotEq) (cEq true):=Cn.weak fun x y H Q h=>by
 unfold cEq at h
 split at h
 ·refine⟨rfl,?_⟩;rw[HE];rw[d7]at h;exact h
 ·refine⟨rfl,?_⟩;rw[HD];rw[d7]at h;exact h
 ·exact h.elim
def onB:V->(Bool->Prop)->Prop
 | .bl k,q=>q k
 |_,_=>False
theorem EG {x:V} {k:Bool->Prop} (h:onB x k):∃c,x= .bl c/\k c:=by
 cases x<;>first|exact⟨_,rfl,h⟩|exact h.elim
def cT (t:TE):TT:=fun σ H Q=>t σ H fun x H'=>onB x fun k=>Q k H'
theorem fD {op:CmpOp} {r:R2} (ho:OpR X (compareOp op) r) (ha:PE X a ta) (hb:PE X b tb) (hm:behindInMarks op b=false:=by exact yk _):PT X (.Compare a [op] [b] pos) (cT (tOp r ta tb)):=
 (oz ho.mono ha.mono hb.mono hm).weak fun σ H Q h=>⟨_,h,fun x H1 h1=>⟨_,h1,fun y H2 h2=>⟨_,h2,fun z H' h3=>EG h3⟩⟩⟩
def AG:R2:=fun x y H Q=>match x,y with
 | .ref p,.int i=>∃xs,H p=some (.lst xs)/\onS (atI xs i) fun v=>Q v H
 |_,_=>False
def CQ:R2:=fun x y H Q=>match x,y with
 | .ref p,.int i=>∃xs,H p=some (.tup xs)/\onS (atI xs i) fun v=>Q v H
 |_,_=>False
theorem fg:IxR X AG:=CD.weak fun x y H Q h=>by
 unfold AG at h
 split at h
 ·obtain⟨xs,e,h⟩:=h
  obtain⟨v,ev,h⟩:=BF h
  exact⟨_,xs,_,v,rfl,rfl,SqL.of e,ev,h⟩
 ·exact h.elim
theorem fm:IxR X CQ:=Es.weak fun x y H Q h=>by
 unfold CQ at h
 split at h
 ·obtain⟨xs,e,h⟩:=h
  obtain⟨v,ev,h⟩:=BF h
  exact⟨_,xs,_,v,rfl,rfl,SqT.of e,ev,h⟩
 ·exact h.elim
def Fd (H:Hp) (a C:Addr) (f:Str) (v:V):Prop:=∃dx fs,H a=some (.ins C dx fs)/\fs.lookup f=some v
def Nf (H:Hp) (a C:Addr) (m:Str):Prop:=∃dx fs,H a=some (.ins C dx fs)/\fs.lookup m=none
def cFld (C:Addr) (f:Str) (ta:TE):TE:=fun σ H Q=>ta σ H fun x H1=>match x with
 | .ref a=>∃v,Fd H1 a C f v/\Q v H1
 |_=>False
theorem fu {C:Addr} {f:Str} (c:Cls X.K C) (n:fQ X.K C f) (he:PE X e ta) (hb:autoParam (attributeBase e f X.env (eval e X.env)=eval e X.env) L2.Internal.auR._auto_1):PE X (.Attribute e f pos) (cFld C f ta):=
 (gE he.mono hb).weak fun σ H Q h=>⟨_,h,fun x H1 h1=>by
  cases x with
  |ref a=>
   obtain⟨v,⟨dx,fs,ea,ev⟩,q⟩:=h1
   exact⟨a,C,dx,fs,v,rfl,ea,c,n,ev,q⟩
  |_=>exact h1.elim⟩
def GD (C:Addr) (m:Str) (sp:Sp) (dvs:List V) (E:XK) (ta:TE) (t:TA):TE:=fun σ H Q=>ta σ H fun x H1=>match x with
 | .ref a=>Nf H1 a C m/\t σ H1 fun vs H2=>sp (.ref a::(vs++dvs)) H2 Q E
 |_=>False
theorem fj {C:Addr} {m:Str} {sp:Sp} {dvs:List V} {E:XK} {t:TA} (h:PE X e (Cw C m sp dvs E (mT ta) t)):PE X e (GD C m sp dvs E ta t):=h.weak fun σ H Q h=>⟨_,h,fun x H1 h1=>by
  cases x with
  |ref a=>
   obtain⟨⟨dx,fs,ea,l⟩,q⟩:=h1
   exact⟨a,dx,fs,rfl,ea,l,q⟩
  |_=>exact h1.elim⟩
def GF (C:Addr) (f:Str) (ta tv:TE):TS:=fun D σ H=>tv σ H fun y H1=>ta σ H1 fun x H2=>match x with
 | .ref a=>∃dx fs,H2 a=some (.ins C dx fs)/\fs.length<1000/\D.nx σ (upd H2 a (.ins C dx (ji f y fs)))
 |_=>False
theorem kI {C:Addr} {f:Str} {tv:TE} (c:Cls X.K C) (n:fQ X.K C f) (h:PS X st (Hy X.K (mT ta) (mT tv) f)):PS X st (GF C f ta tv):=h.weak fun D σ H h=>⟨_,h,fun y H1 h1=>⟨_,h1,fun x H2 h2=>by
  cases x with
  |ref a=>
   obtain⟨dx,fs,ea,l,q⟩:=h2
   exact⟨a,C,dx,fs,rfl,ea,c,n,l,q⟩
  |_=>exact h2.elim⟩⟩
def cApp (to ta:TE):TE:=fun σ H Q=>to σ H fun x H1=>match x with
 | .ref l=>(∃xs,H1 l=some (.lst xs))/\ta σ H1 fun y H2=>∃xs,H2 l=some (.lst xs)/\xs.length<sizeLine/\Q .non (upd H2 l (.lst (xs++[y])))
 |_=>False
theorem ki (h:PE X e (tBM X.K "list" yE (mT to) (jL (mT ta) tP))):PE X e (cApp to ta):=h.weak fun σ H Q h=>⟨_,h,fun x H1 h1=>by
  cases x with
  |ref l=>
   obtain⟨⟨xs,e⟩,q⟩:=h1
   exact⟨.inl ⟨rfl,xs,SqL.of e⟩,_,q,fun y H2 ⟨xs,e,hl,q2⟩=>⟨l,xs,y,rfl,rfl,e,hl,q2⟩⟩
  |_=>exact h1.elim⟩
end
end L2.Internal
namespace BO.Internal
open PySem L2.Internal
def wd:Bool->Str
 |true=>"goes"
 |false=>"here"
structure Rw where
 w:Bool
 a:Int
 b:Int
 y:Option (Int×Int)
def Rw.k (r:Rw):List Key:=[.inr (wd r.w),.inl r.a,.inl r.b]
def whyD:Option (Int×Int)->Dt
 |none=> .flat .non
 |some p=>flD p
def Rw.d (r:Rw):Dt:= .tup [.flat (.str (wd r.w)),.flat (.int r.a),.flat (.int r.b),whyD r.y]
def Rw.ok (N M:Int) (r:Rw):Prop:=0<=r.a/\(r.a<match r.w with|true=>N|false=>M)/\0<=r.b/\r.b<N
def Rw.c (r:Rw):Nat:=(match r.w with|true=>0|false=>4096)+r.a.toNat*64+r.b.toNat
structure DL (H:Hp) (d:Addr) (L:List Addr) (f:Int->List V) (k:Nat):Prop where
 ex:∃kvs:List (Key×V),H d=some (.dK kvs)/\kvs.length<=k/\(∀p,lK kvs (.inl p)=none->f p=[])/\
  (∀p v,lK kvs (.inl p)=some v->∃l,l∈L/\v= .ref l/\H l=some (.lst (f p)))/\(∀p q v,lK kvs (.inl p)=some v->lK kvs (.inl q)=some v->p=q)
def putf (f:Int->List V) (p:Int) (x:V):Int->List V:=fun q=>if q=p then f p++[x]else f q
structure Sda (H:Hp) (d:Addr) (L:List Addr) (f:Int->List V) (k:Nat) (p:Int) (l:Addr) (H1:Hp):Prop where
 here:H1 l=some (.lst (f p))
 fin:∀H2 x,fE H1 H2->∃L',(∀a∈L',a∈L\/a=l)/\DL (upd H2 l (.lst (f p++[x]))) d L' (putf f p x) (k+ 1)
 fr:∀a o,H a=some o->a≠d->H1 a=some o
 own:l∈L\/H l=none
theorem DL.get {H:Hp} {d:Addr} {L:List Addr} {f:Int->List V} {k:Nat} (W:DL H d L f k) (p:Int) {z:Addr} (hz:H z=none):
  ∃kvs l,(upd H z (.lst [])) d=some (.dK kvs)/\(lK kvs (.inl p)).getD (.ref z)= .ref l/\(upd H z (.lst [])) l=some (.lst (f p))/\(l∈L\/H l=none):=by
 obtain⟨kvs,e,hl,h1,h2,h3⟩:=W
 have s:=eW hz (.lst [])
 cases ev:lK kvs (.inl p)with
 |none=>exact⟨kvs,z,s _ _ e,by rw[ev];rfl,by rw[h1 p ev];exact eS,.inr hz⟩
 |some v=>
  obtain⟨l,m,rfl,el⟩:=h2 p v ev
  exact⟨kvs,l,s _ _ e,by rw[ev];rfl,s _ _ el,.inl m⟩
open Classical in
def putR (R:List Rw) (ρ:Rw):List Rw:=if ρ.k∈R.map Rw.k then R else R++[ρ]
def putsR (R l:List Rw):List Rw:=l.foldl putR R
end BO.Internal
namespace L2.Internal
open PySem PySem.Spec PyProof.Rows
section
variable {X:Cx}
end
section
variable {X:Cx}
theorem GG {scope:Scope} {x y:Str} (ns:List Str) (cap:List (Str×Nat×Addr)) (hns:cap.map (·.1)=ns) (hk:scope.kind= .function) (hn:∀p∈scope.names,p.2≠ .cell/\(p.2= .free->p.1∈ns)) (hl:∀y∈scope.names,y.2= .local->scope.names.lookup y.1=some .local)
  (hx:scope.names.lookup x=some .local) (hnd:(x::y::ns).Nodup) (hc:closureFor scope X.env=pure (cap.map fun p=>(p.1,p.2.2))) (hok:X.env.scope.kind= .function)
  (h:∀p∈cap,scope.names.lookup p.1=some .free/\X.env.cells.lookup p.1=some p.2.2/\X.env.scope.names.lookup p.1=some .cell/\X.N[p.2.1]?=some p.1):
  qj X (x::y::ns) scope (cap.map fun p=>(p.1,p.2.2)) (fun σ=>none::none::cap.map fun p=>σ.getD p.2.1 none) 0 x where
 kind:=hk
 cell:=fun y hy=>(hn y hy).1
 names:=hl
 clos:=hc
 lk:=fun z c q=>by
  obtain⟨p,hp,e⟩:=bc.mp (PySem.mem_of_lookup q)
  cases e
  exact(h p hp).2.1
 has:=fun z q=>by
  refine oF ?_
  rw[hns]
  rcases q with q|q
  ·obtain⟨k0,e,q⟩:=gj q
   have m:=hn _ (PySem.mem_of_lookup e)
   rcases q with q|⟨q,_⟩
   ·exact absurd q.symm m.1
   ·exact m.2 q
  ·obtain⟨k0,e,q⟩:=gj q
   have m:=hn _ (PySem.mem_of_lookup e)
   rcases q with q|⟨q,_⟩
   ·exact m.2 q.symm
   ·exact m.2 q
 nd:=hnd
 ix:=rfl
 loc:=hx
 len:=fun _ _=>by simp[<-hns]
 val:=fun σ k z v h1 h2=>by
  match k with
  |0=>simp at h2
  |1=>simp at h2
  |k+ 2=>
   rw[<-hns,bj,bj,aK]at h1
   rw[bj,bj,aK]at h2
   cases e:cap[k]? with
   |none=>rw[e]at h1;cases h1
   |some p=>
    rw[e]at h1 h2
    have ez:p.1=z:=cC.inj h1
    have ev:σ.getD p.2.1 none=some v:=cC.inj h2
    subst ez
    obtain⟨a1,a2,a3,a4⟩:=h p (aN e)
    rw[bo]at ev
    refine⟨p.2.1,a4,?_,a3,iC hok a3 a1⟩
    cases q:σ[p.2.1]? with
    |none=>rw[q]at ev;cases ev
    |some o=>rw[q]at ev;exact congrArg some ev
end
section
variable {X:Cx} {pz:List (Addr×Obj)} {σ:St} {H:Hp} {s:Shared}
end
section
variable {prog:Program} {w:World} {A:Around} {R:Result->Shared->Prop} {I:Addr} {fp wr:List Addr} {n:Nat} {P:Nat->Value->Prop} {St:Nat->Heap->Prop}
end
section
variable {prog:Program} {w:World} {A:Around} {E:Value->Shared->Prop} {s:Shared} {l:Addr} {xs:Array (Int×Tok)}
end
section
variable {X:Cx}
end
section
variable {X:Cx}
end
end L2.Internal
set_option maxHeartbeats 1000000
namespace KK.Internal
open PySem L2.Internal BO.Internal
mutual
inductive Kd where
 |any
 |num
 |fn (a b:Kd)
 |rcd (l:Kds)
 |ch (l:Kds)
 |row (a:Kd)
inductive Kds where
 |nil
 |cons (w:Str) (k:Kd) (t:Kds)
end
def sD (s:Str):Dt:= .flat (.str s)
mutual
def Kd.d:Kd->Dt
 | .any=> .tup [sD "any"]
 | .num=> .tup [sD "num"]
 | .fn a b=> .tup [sD "fn",a.d,b.d]
 | .rcd l=> .tup [sD "rec",.tup l.ds]
 | .ch l=> .tup [sD "choice",.tup l.ds]
 | .row a=> .tup [sD "row",a.d]
def Kds.ds:Kds->List Dt
 | .nil=>[]
 | .cons w k t=> .tup [sD w,k.d]::t.ds
end
mutual
def Kd.sz:Kd->Nat
 | .any=>1
 | .num=>1
 | .fn a b=>a.sz+b.sz+ 1
 | .rcd l=>l.sz+ 1
 | .ch l=>l.sz+ 1
 | .row a=>a.sz+ 1
def Kds.sz:Kds->Nat
 | .nil=>0
 | .cons _ k t=>k.sz+t.sz
end
def Kds.toL:Kds->List (Str×Kd)
 | .nil=>[]
 | .cons w k t=>(w,k)::t.toL
def ltS (a b:Str):Prop:=PySem.Spec.ltCps a.cps.toList b.cps.toList=true
mutual
def Kd.ok:Kd->Prop
 | .any=>True
 | .num=>True
 | .fn a b=>a.ok/\b.ok
 | .rcd l=>l.ok/\(l.toL.map Prod.fst).Nodup/\l.toL.length<=10/\l.toL.Pairwise fun p q=>ltS p.1 q.1
 | .ch l=>l.ok/\(l.toL.map Prod.fst).Nodup/\l.toL.length<=10/\l.toL.Pairwise fun p q=>ltS p.1 q.1
 | .row a=>a.ok
def Kds.ok:Kds->Prop
 | .nil=>True
 | .cons _ k t=>k.ok/\t.ok
end
def Kd.tag:Kd->Str
 | .any=>"any"
 | .num=>"num"
 | .fn _ _=>"fn"
 | .rcd _=>"rec"
 | .ch _=>"choice"
 | .row _=>"row"
def lkK:List (Str×Kd)->Str->Option Kd
 |[],_=>none
 |p::t,x=>if p.1=x then some p.2 else lkK t x
def G (a:Kd):Prop:=a.ok/\a.sz<=20
def DKd (H:Hp) (d:Addr) (l:List (Str×Kd)):Prop:=∃kvs,H d=some (.dK kvs)/\∀w,match lkK l w with
  |some k=>∃v,lK kvs (Sum.inr w)=some v/\Im H v k.d
  |none=>lK kvs (Sum.inr w)=none
theorem DKd.some {H:Hp} {d:Addr} {l:List (Str×Kd)} {w:Str} {k:Kd} (h:DKd H d l) (e:lkK l w=some k):∃v,xh H d (.str w) (some v)/\Im H v k.d:=by
 obtain⟨kvs,e1,f⟩:=h
 have:=f w
 rw[e]at this
 obtain⟨v,h1,h2⟩:=this
 exact⟨v,by rw[<-h1];exact xh.k (k:=(Sum.inr w:Key)) e1,h2⟩
theorem DKd.none {H:Hp} {d:Addr} {l:List (Str×Kd)} {w:Str} (h:DKd H d l) (e:lkK l w=none):xh H d (.str w) none:=by
 obtain⟨kvs,e1,f⟩:=h
 have:=f w
 rw[e]at this
 rw[<-this]
 exact xh.k (k:=(Sum.inr w:Key)) e1
theorem Ims.atK {H:Hp}:∀{xs:List V} {ds:List Dt} {k:Nat} {v:V},Ims H xs ds->xs[k]?=some v->∃d,ds[k]?=some d/\Im H v d
 |_,_,0,_,.cons h _,e=>by cases e;exact⟨_,rfl,h⟩
 |_,_,k+ 1,_,.cons _ t,e=>Ims.atK (k:=k) t e
theorem yT {H:Hp} {t:Addr} {xs:List V} {ds:List Dt} (h:H t=none) (i:Ims H xs ds):Im (upd H t (.tup xs)) (.ref t) (.tup ds):= .tup eS (i.mono (fE.tk (eW h _)))
end KK.Internal
set_option maxHeartbeats 1000000
namespace KK.Internal
open PySem L2.Internal BO.Internal
def iD (n:Int):Dt:= .flat (.int n)
structure Ad where
 b:Addr
 bx:Addr
 p0:Addr
 p1:Addr
 p2:Addr
 p3:Addr
def Ad.ls (A:Ad):List Addr:=[A.p0,A.p1,A.p2,A.p3]
structure Bq (c:Cs) (H:Hp) (A:Ad) (r:V) (D:Bd):Prop where
 b:H A.b=some (.ins c.B A.bx (fB A.p0 A.p1 A.p2 A.p3 r))
 e0:H A.p0=some (.lst (D.pts.map V.int))
 e1:∃mv,H A.p1=some (.lst mv)/\mH (sH c H) mv D.mks
 e2:∃uv,H A.p2=some (.lst uv)/\mH (ql c H) uv D.uss
 e3:H A.p3=some (.lst [])
 nd:A.ls.Nodup
structure Dq (H:Hp) (A:Ad) (D:Bd):Prop where
 b:H A.b=some (.lst [.ref A.p0,.ref A.p1,.ref A.p2,.ref A.p3])
 nb:A.b∉A.ls
 e0:H A.p0=some (.lst (D.pts.map V.int))
 e1:∃mv,H A.p1=some (.lst mv)/\Ims H mv (D.mks.map Mkg.d)
 e2:∃uv,H A.p2=some (.lst uv)/\Ims H uv (D.uss.map Us.d)
 e3:H A.p3=some (.lst [])
 nd:A.ls.Nodup
def FB (A:Ad) (H H':Hp):Prop:=(∀a o,H a=some o->a∉A.ls->H' a=some o)/\FK H H'
theorem FB.trans {A:Ad} {H H1 H2:Hp} (a:FB A H H1) (b:FB A H1 H2):FB A H H2:=⟨fun c o e n=>b.1 c o (a.1 c o e n) n,a.2.trans b.2⟩
theorem Ad.ne {A:Ad} (h:A.ls.Nodup):A.p0≠A.p1/\A.p0≠A.p2/\A.p0≠A.p3/\A.p1≠A.p2/\A.p1≠A.p3/\A.p2≠A.p3:=by
 simp only[Ad.ls,aE,ak,bh,or_false,not_or]at h
 exact⟨h.1.1,h.1.2.1,h.1.2.2,h.2.1.1,h.2.1.2,h.2.2.1⟩
section
variable {c:Cs} {H H':Hp} {A:Ad} {r:V} {D:Bd}
theorem Bq.us (B:Bq c H A r D) {uv:List V} {x:V} {u:Us} (e:H A.p2=some (.lst uv)) (hx:ql c H x u):Bq c (upd H A.p2 (.lst (uv++[x]))) A r {D with uss:=D.uss++[u]}:=by
 obtain⟨b,e0,⟨mv,m1,m2⟩,⟨uv',u1,u2⟩,e3,nd⟩:=B
 rw[e]at u1
 cases u1
 have k:=ij (o:= .lst (uv++[x])) e
 obtain⟨_,n2,_,n4,_,n6⟩:=Ad.ne nd
 exact⟨by rw[eX (jw b e (fun h=>nomatch h))];exact b,by rw[eX n2];exact e0,⟨mv,by rw[eX n4];exact m1,m2.imp fun _ _=>sH.mono k⟩,⟨_,eS,.snoc (hx.mono k) (u2.imp fun _ _=>ql.mono k)⟩,by rw[eX (Ne.symm n6)];exact e3,nd⟩
theorem Bq.root (B:Bq c H A r D) (v:V):Bq c (upd H A.b (.ins c.B A.bx (fB A.p0 A.p1 A.p2 A.p3 v))) A v D:=by
 obtain⟨b,e0,⟨mv,m1,m2⟩,⟨uv,u1,u2⟩,e3,nd⟩:=B
 have k:=v7 (o:= .ins c.B A.bx (fB A.p0 A.p1 A.p2 A.p3 v)) b
 have ne:∀{a:Addr} {xs:List V},H a=some (.lst xs)->a≠A.b:=fun e=>jw e b (fun h=>nomatch h)
 exact⟨eS,by rw[eX (ne e0)];exact e0,⟨mv,by rw[eX (ne m1)];exact m1,m2.imp fun _ _=>sH.mono k⟩,⟨uv,by rw[eX (ne u1)];exact u1,u2.imp fun _ _=>ql.mono k⟩,by rw[eX (ne e3)];exact e3,nd⟩
theorem Dq.nbs (B:Dq H A D):A.b≠A.p0/\A.b≠A.p1/\A.b≠A.p2:=by
 have n:=B.nb
 simp only[Ad.ls,ak,bh,or_false,not_or]at n
 exact⟨n.1,n.2.1,n.2.2.1⟩
theorem Dq.us (B:Dq H A D) {uv:List V} {x:V} {u:Us} (e:H A.p2=some (.lst uv)) (hx:Im H x u.d):Dq (upd H A.p2 (.lst (uv++[x]))) A {D with uss:=D.uss++[u]}:=by
 obtain⟨_,_,nb2⟩:=B.nbs
 obtain⟨b,nb,e0,⟨mv,m1,m2⟩,⟨uv',u1,u2⟩,e3,nd⟩:=B
 rw[e]at u1
 cases u1
 have k:=(ij (o:= .lst (uv++[x])) e).tk
 obtain⟨_,n2,_,n4,_,n6⟩:=Ad.ne nd
 exact⟨by rw[eX nb2];exact b,nb,by rw[eX n2];exact e0,⟨mv,by rw[eX n4];exact m1,m2.mono k⟩,⟨_,eS,by rw[br];exact(u2.mono k).app (.cons (hx.mono k) .nil)⟩,by rw[eX (Ne.symm n6)];exact e3,nd⟩
end
end KK.Internal
namespace L2.Internal
open PySem PySem.Spec PyProof.Rows PySem.W
def PmN (n:Nat) (p:Array Nat):Prop:=p.Perm (List.toArray (aa n))
theorem PmN.lt {n:Nat} {p:Array Nat} (h:PmN n p) (h0:0<n) (k:Nat):p.getD k 0<n:=by
 rw[Array.getD]
 split
 ·rename_i hk
  have m:p[k]∈p.toList:=by simp
  have:=(Array.perm_iff_toList_perm.mp h).mem_iff.mp m
  simpa using this
 ·exact h0
section
variable {prog:Program} {w:World} {A:Around} {E:Value->Shared->Prop} {s:Shared}
end
section
variable {X:Cx}
end
section
variable {fs ex:List Addr} {H H':Hp} {h h':Heap}
end
section
variable {X:Cx} {pz:List (Addr×Obj)} {σ:St} {H H':Hp} {s:Shared} {h':Heap}
end
section
variable {X:Cx}
end
end L2.Internal
namespace L2.Internal
open PySem PySem.Spec PyProof.Rows
mutual
def nlD:Dt->Bool
 | .flat _=>true
 | .tup l=>BH l
 | .lst _=>false
def BH:List Dt->Bool
 |[]=>true
 |x::xs=>nlD x&&BH xs
end
theorem sJ:∀{l:List Dt} {j:Nat} {a:Dt},BH l=true->l[j]?=some a->nlD a=true
 |x::xs,0,a,h,e=>by
  cases e
  rw[BH,dX]at h
  exact h.1
 |x::xs,j+ 1,a,h,e=>by
  rw[BH,dX]at h
  exact sJ h.2 e
 |[],j,a,_,e=>by simp at e
section
variable {X:Cx} {pz:List (Addr×Obj)} {σ:St} {H:Hp} {s:Shared}
mutual
theorem yU (I:Inv X pz σ H s):∀{x:V} {d e:Dt},At X.K H x d->At X.K H x e->nlD d=true->nlD e=true->eqD d e=true
 |_,_,_,.flat h,.flat _,_,_=>by rw[eqD];exact ub h
 |_,_,_,.tup h hs,.tup h' hs',n,n'=>by
  have e:=I.tuple_inj h h'
  subst e
  rw[nlD]at n n'
  rw[eqD]
  exact v8 I hs hs' n n'
 |_,_,_,.flat h,.tup _ _,_,_=>absurd h dU
 |_,_,_,.tup _ _,.flat h,_,_=>absurd h dU
 |_,_,_,.lst _ _,_,n,_=>by rw[nlD]at n;cases n
 |_,_,_,_,.lst _ _,_,n=>by rw[nlD]at n;cases n
theorem v8 (I:Inv X pz σ H s):∀{xs:List V} {l m:List Dt},Ats X.K H xs l->Ats X.K H xs m->BH l=true->BH m=true->uX l m=true
 |_,_,_,.nil,.nil,_,_=>by rw[uX]
 |_,_,_,.cons h t,.cons h' t',n,n'=>by
  rw[BH,dX]at n n'
  rw[uX,yU I h h' n.1 n'.1,v8 I t t' n.2 n'.2]
  rfl
end
theorem mP {A:Around} (I:Inv X pz σ H s) {x:V} {u:Value} {b:Addr} {ys:List V} (r:gU x u) (hx:yD x=true) (h:SqT X.K H b ys) (hu:A.units<cLine):SeqAt.EqAt A s u (.ref b) false/\SeqAt.EqAt A s (.ref b) u false:=by
 obtain⟨its,_,pl,_⟩:=I.tuple h
 cases x with
 |non=>cases r;exact⟨.none_tuple pl hu,.tuple_none pl hu⟩
 |bl k=>cases r;exact⟨.bool_tuple _ pl hu,.tuple_bool _ pl hu⟩
 |int i=>obtain⟨t,rfl⟩:=r;exact⟨.int_tuple _ _ pl hu,.tuple_int _ _ pl hu⟩
 |str z=>obtain⟨t,rfl⟩:=r;exact⟨.str_tuple _ _ pl hu,.tuple_str _ _ pl hu⟩
 |_=>cases hx
theorem EH (I:Inv X pz σ H s):∀(n:Nat) (A:Around) {x y:V} {u v:Value} {d e:Dt},gU x u->gU y v->At X.K H x d->At X.K H y e->nlD d=true->nlD e=true->iE d<=n->A.units+n<cLine->SeqAt.EqAt A s u v (eqD d e):=by
 intro n
 induction n with
 |zero=>
  intro A x y u v d e rx ry hx hy n1 n2 hd hu
  cases hx with
  |flat h=>
   cases hy with
   |flat h'=>rw[eqD];exact v5 rx ry h h'
   |tup h' _=>cases ry;simp only[eqD];exact(mP I rx h h' (by lia)).1
   |lst _ _=>rw[nlD]at n2;cases n2
  |tup _ _=>rw[iE]at hd;lia
  |lst _ _=>rw[iE]at hd;lia
 |succ n ih=>
  intro A x y u v d e rx ry hx hy n1 n2 hd hu
  cases hx with
  |flat h=>
   cases hy with
   |flat h'=>rw[eqD];exact v5 rx ry h h'
   |tup h' _=>cases ry;simp only[eqD];exact(mP I rx h h' (by lia)).1
   |lst _ _=>rw[nlD]at n2;cases n2
  |lst _ _=>rw[nlD]at n1;cases n1
  |@tup a xs ds h hs=>
   cases hy with
   |flat h'=>cases rx;simp only[eqD];exact(mP I ry h' h (by lia)).2
   |lst _ _=>rw[nlD]at n2;cases n2
   |@tup b ys es h' hs'=>
    cases rx
    cases ry
    by_cases hab:a=b
    ·subst hab
     rw[yU I (.tup h hs) (.tup h' hs') n1 n2]
     exact SeqAt.EqAt.same _
    ·rw[iE]at hd
     rw[nlD]at n1 n2
     refine SeqAt.EqAt.of_refs hab (yL I h hs h' hs' (by lia) fun j d1 d2 x y u v f1 f2 q1 q2 p1 p2=>?_).1
     exact ih A.in1 q1 q2 p1 p2 (sJ n1 f1) (sJ n2 f2) (bZ (depDs_get f1) (by lia)) (by show A.units+ 1+n<cLine;lia)
end
section
variable {X:Cx}
end
end L2.Internal
set_option maxHeartbeats 1000000
namespace KK.Internal
open PySem L2.Internal BO.Internal
structure Bw (c:Cs) (H:Hp) (A:Ad) (r:V) (D:Bd):Prop where
 b:H A.b=some (.ins c.B A.bx (fB A.p0 A.p1 A.p2 A.p3 r))
 e0:H A.p0=some (.lst (D.pts.map V.int))
 e1:∃mv,H A.p1=some (.lst mv)/\mH (sH c H) mv D.mks
 e2:∃uv,H A.p2=some (.lst uv)/\mH (ql c H) uv D.uss
 e3:∃fv,H A.p3=some (.lst fv)/\Ims H fv (D.fls.map flD)
 nd:A.ls.Nodup
structure Dw (H:Hp) (A:Ad) (D:Bd):Prop where
 b:H A.b=some (.lst [.ref A.p0,.ref A.p1,.ref A.p2,.ref A.p3])
 nb:A.b∉A.ls
 e0:H A.p0=some (.lst (D.pts.map V.int))
 e1:∃mv,H A.p1=some (.lst mv)/\Ims H mv (D.mks.map Mkg.d)
 e2:∃uv,H A.p2=some (.lst uv)/\Ims H uv (D.uss.map Us.d)
 e3:∃fv,H A.p3=some (.lst fv)/\Ims H fv (D.fls.map flD)
 nd:A.ls.Nodup
section
variable {c:Cs} {H H':Hp} {A:Ad} {r:V} {D:Bd}
theorem Bw.same (B:Bw c H A r D) (s:fE H H'):Bw c H' A r D:=by
 obtain⟨b,e0,⟨mv,m1,m2⟩,⟨uv,u1,u2⟩,⟨fv,g1,g2⟩,nd⟩:=B
 exact⟨s _ _ b,s _ _ e0,⟨mv,s _ _ m1,m2.imp fun _ _=>sH.mono (fE.fk s)⟩,⟨uv,s _ _ u1,u2.imp fun _ _=>ql.mono (fE.fk s)⟩,⟨fv,s _ _ g1,g2.mono (fE.tk s)⟩,nd⟩
theorem Bw.other (B:Bw c H A r D) {a:Addr} {xs ys:List V} (e:H a=some (.lst xs)) (n:a∉A.ls):Bw c (upd H a (.lst ys)) A r D:=by
 obtain⟨b,e0,⟨mv,m1,m2⟩,⟨uv,u1,u2⟩,⟨fv,g1,g2⟩,nd⟩:=B
 have k:=ij (o:= .lst ys) e
 simp only[Ad.ls,ak,bh,or_false,not_or]at n
 exact⟨by rw[eX (jw b e (fun h=>nomatch h))];exact b,by rw[eX (Ne.symm n.1)];exact e0,⟨mv,by rw[eX (Ne.symm n.2.1)];exact m1,m2.imp fun _ _=>sH.mono k⟩,⟨uv,by rw[eX (Ne.symm n.2.2.1)];exact u1,u2.imp fun _ _=>ql.mono k⟩,⟨fv,by rw[eX (Ne.symm n.2.2.2)];exact g1,g2.mono k.tk⟩,nd⟩
theorem Bw.pt (B:Bw c H A r D) (v:Int):Bw c (upd H A.p0 (.lst (D.pts.map V.int++[.int v]))) A r {D with pts:=D.pts++[v]}:=by
 obtain⟨b,e0,⟨mv,m1,m2⟩,⟨uv,u1,u2⟩,⟨fv,g1,g2⟩,nd⟩:=B
 have k:=ij (o:= .lst (D.pts.map V.int++[.int v])) e0
 obtain⟨n1,n2,n3,_⟩:=Ad.ne nd
 exact⟨by rw[eX (jw b e0 (fun h=>nomatch h))];exact b,by rw[eS,br];rfl,⟨mv,by rw[eX (Ne.symm n1)];exact m1,m2.imp fun _ _=>sH.mono k⟩,⟨uv,by rw[eX (Ne.symm n2)];exact u1,u2.imp fun _ _=>ql.mono k⟩,⟨fv,by rw[eX (Ne.symm n3)];exact g1,g2.mono k.tk⟩,nd⟩
theorem Bw.addM (B:Bw c H A r D) {mv:List V} {x:V} {m:Mkg} (e:H A.p1=some (.lst mv)) (hx:sH c H x m):Bw c (upd H A.p1 (.lst (mv++[x]))) A r {D with mks:=D.mks++[m]}:=by
 obtain⟨b,e0,⟨mv',m1,m2⟩,⟨uv,u1,u2⟩,⟨fv,g1,g2⟩,nd⟩:=B
 rw[e]at m1
 cases m1
 have k:=ij (o:= .lst (mv++[x])) e
 obtain⟨n1,_,_,n4,n5,_⟩:=Ad.ne nd
 exact⟨by rw[eX (jw b e (fun h=>nomatch h))];exact b,by rw[eX n1];exact e0,⟨_,eS,.snoc (hx.mono k) (m2.imp fun _ _=>sH.mono k)⟩,⟨uv,by rw[eX (Ne.symm n4)];exact u1,u2.imp fun _ _=>ql.mono k⟩,⟨fv,by rw[eX (Ne.symm n5)];exact g1,g2.mono k.tk⟩,nd⟩
theorem Bw.us (B:Bw c H A r D) {uv:List V} {x:V} {u:Us} (e:H A.p2=some (.lst uv)) (hx:ql c H x u):Bw c (upd H A.p2 (.lst (uv++[x]))) A r {D with uss:=D.uss++[u]}:=by
 obtain⟨b,e0,⟨mv,m1,m2⟩,⟨uv',u1,u2⟩,⟨fv,g1,g2⟩,nd⟩:=B
 rw[e]at u1
 cases u1
 have k:=ij (o:= .lst (uv++[x])) e
 obtain⟨_,n2,_,n4,_,n6⟩:=Ad.ne nd
 exact⟨by rw[eX (jw b e (fun h=>nomatch h))];exact b,by rw[eX n2];exact e0,⟨mv,by rw[eX n4];exact m1,m2.imp fun _ _=>sH.mono k⟩,⟨_,eS,.snoc (hx.mono k) (u2.imp fun _ _=>ql.mono k)⟩,⟨fv,by rw[eX (Ne.symm n6)];exact g1,g2.mono k.tk⟩,nd⟩
theorem Bw.root (B:Bw c H A r D) (v:V):Bw c (upd H A.b (.ins c.B A.bx (fB A.p0 A.p1 A.p2 A.p3 v))) A v D:=by
 obtain⟨b,e0,⟨mv,m1,m2⟩,⟨uv,u1,u2⟩,⟨fv,g1,g2⟩,nd⟩:=B
 have k:=v7 (o:= .ins c.B A.bx (fB A.p0 A.p1 A.p2 A.p3 v)) b
 have ne:∀{a:Addr} {xs:List V},H a=some (.lst xs)->a≠A.b:=fun e=>jw e b (fun h=>nomatch h)
 exact⟨eS,by rw[eX (ne e0)];exact e0,⟨mv,by rw[eX (ne m1)];exact m1,m2.imp fun _ _=>sH.mono k⟩,⟨uv,by rw[eX (ne u1)];exact u1,u2.imp fun _ _=>ql.mono k⟩,⟨fv,by rw[eX (ne g1)];exact g1,g2.mono k.tk⟩,nd⟩
theorem Dw.nbs (B:Dw H A D):A.b≠A.p0/\A.b≠A.p1/\A.b≠A.p2:=by
 have n:=B.nb
 simp only[Ad.ls,ak,bh,or_false,not_or]at n
 exact⟨n.1,n.2.1,n.2.2.1⟩
theorem Dw.us (B:Dw H A D) {uv:List V} {x:V} {u:Us} (e:H A.p2=some (.lst uv)) (hx:Im H x u.d):Dw (upd H A.p2 (.lst (uv++[x]))) A {D with uss:=D.uss++[u]}:=by
 obtain⟨_,_,nb2⟩:=B.nbs
 obtain⟨b,nb,e0,⟨mv,m1,m2⟩,⟨uv',u1,u2⟩,⟨fv,g1,g2⟩,nd⟩:=B
 rw[e]at u1
 cases u1
 have k:=(ij (o:= .lst (uv++[x])) e).tk
 obtain⟨_,n2,_,n4,_,n6⟩:=Ad.ne nd
 exact⟨by rw[eX nb2];exact b,nb,by rw[eX n2];exact e0,⟨mv,by rw[eX n4];exact m1,m2.mono k⟩,⟨_,eS,by rw[br];exact(u2.mono k).app (.cons (hx.mono k) .nil)⟩,⟨fv,by rw[eX (Ne.symm n6)];exact g1,g2.mono k⟩,nd⟩
end
theorem Bw.fl {c:Cs} {H:Hp} {A:Ad} {r:V} {D:Bd} (B:Bw c H A r D) {fv:List V} {x:V} {p:Int×Int} (e:H A.p3=some (.lst fv)) (hx:Im H x (flD p)):Bw c (upd H A.p3 (.lst (fv++[x]))) A r {D with fls:=D.fls++[p]}:=by
 obtain⟨b,e0,⟨mv,m1,m2⟩,⟨uv,u1,u2⟩,⟨fv',g1,g2⟩,nd⟩:=B
 rw[e]at g1
 cases g1
 have k:=ij (o:= .lst (fv++[x])) e
 obtain⟨_,_,n3,_,n5,n6⟩:=Ad.ne nd
 exact⟨by rw[eX (jw b e (fun h=>nomatch h))];exact b,by rw[eX n3];exact e0,⟨mv,by rw[eX n5];exact m1,m2.imp fun _ _=>sH.mono k⟩,⟨uv,by rw[eX n6];exact u1,u2.imp fun _ _=>ql.mono k⟩,⟨_,eS,by rw[br];exact(g2.mono k.tk).app (.cons (hx.mono k.tk) .nil)⟩,nd⟩
theorem Bw.out {c:Cs} {H:Hp} {A:Ad} {r:V} {D:Bd} (B:Bw c H A r D) {a:Addr} (h:H a=none):a∉A.ls:=fun m=>by
 obtain⟨b,e0,⟨mv,m1,m2⟩,⟨uv,u1,u2⟩,⟨fv,e3,_⟩,nd⟩:=B
 simp only[Ad.ls,ak,bh,or_false]at m
 rcases m with rfl|rfl|rfl|rfl
 ·rw[h]at e0;cases e0
 ·rw[h]at m1;cases m1
 ·rw[h]at u1;cases u1
 ·rw[h]at e3;cases e3
theorem Dw.out {H:Hp} {A:Ad} {D:Bd} (B:Dw H A D) {a:Addr} (h:H a=none):a∉A.ls:=fun m=>by
 obtain⟨b,nb,e0,⟨mv,m1,m2⟩,⟨uv,u1,u2⟩,⟨fv,e3,_⟩,nd⟩:=B
 simp only[Ad.ls,ak,bh,or_false]at m
 rcases m with rfl|rfl|rfl|rfl
 ·rw[h]at e0;cases e0
 ·rw[h]at m1;cases m1
 ·rw[h]at u1;cases u1
 ·rw[h]at e3;cases e3
inductive Pm where
 |num
 |any
 |fn (i o:Nat)
 |rcd (l:List (Str×Nat))
 |tag (w:Str) (o:Nat)
 |row (o:Nat)
inductive Pu where
 |num
 |call (o i:Nat)
 |take (l:List (Str×Nat))
 |case (l:List (Str×Nat))
 |row (i:Nat)
def mvL (b:Nat) (l:List (Str×Nat)):List (Str×Int):=l.map fun p=>(p.1,(b:Int)+(p.2:Int))
def nI (n:Nat):Dt:=iD (n:Int)
def prN (l:List (Str×Nat)):Dt:= .tup (l.map fun p=> .tup [sD p.1,nI p.2])
def Pm.sh:Pm->Str
 | .num=>"num"
 | .any=>"any"
 | .fn _ _=>"fn"
 | .rcd _=>"rec"
 | .tag _ _=>"tag"
 | .row _=>"row"
def Pm.rest:Pm->List Dt
 | .num=>[]
 | .any=>[]
 | .fn i o=>[nI i,nI o]
 | .rcd l=>[prN l]
 | .tag w o=>[sD w,nI o]
 | .row o=>[nI o]
def Pm.d (m:Pm):Dt:= .tup (sD m.sh::m.rest)
def Pm.ok (no ni:Nat):Pm->Prop
 | .fn i o=>i<ni/\o<no
 | .rcd l=>l.length<=4/\∀p∈l,p.2<no
 | .tag _ o=>o<no
 | .row o=>o<no
 |_=>True
def Pm.parts (b i:Nat):Pm->Dt
 | .num=> .tup []
 | .any=> .tup []
 | .fn x o=> .tup [iD ((i:Int)+(x:Int)),iD ((b:Int)+(o:Int))]
 | .rcd l=>prD (mvL b l)
 | .tag w o=> .tup [sD w,iD ((b:Int)+(o:Int))]
 | .row o=> .tup [iD ((b:Int)+(o:Int))]
def Pu.sh:Pu->Str
 | .num=>"num"
 | .call _ _=>"call"
 | .take _=>"take"
 | .case _=>"case"
 | .row _=>"row"
def Pu.rest:Pu->List Dt
 | .num=>[]
 | .call o i=>[nI o,nI i]
 | .take l=>[prN l]
 | .case l=>[prN l]
 | .row i=>[nI i]
def Pu.d (u:Pu):Dt:= .tup (sD u.sh::u.rest)
def Pu.ok (no ni:Nat):Pu->Prop
 | .num=>True
 | .call o i=>o<no/\i<ni
 | .take l=>l.length<=4/\∀p∈l,p.2<ni
 | .case l=>l.length<=4/\∀p∈l,p.2<ni
 | .row i=>i<ni
def Pu.us (b i:Nat) (a p:Int):Pu->Us
 | .num=> .num a p 0
 | .call o x=> .call a p 0 ((b:Int)+(o:Int)) ((i:Int)+(x:Int))
 | .take l=> .take a p 0 (mvL i l)
 | .case l=> .case a p 0 (mvL i l)
 | .row x=> .row a p 0 ((i:Int)+(x:Int))
structure Pp where
 outs:List (List Pm)
 ins:List (List Pu)
 fls:List (Nat×Nat)
structure Pp.ok (P:Pp):Prop where
 o1:1<=P.outs.length
 o8:P.outs.length<=8
 i8:P.ins.length<=8
 om:∀l∈P.outs,l.length<=64/\∀m∈l,m.ok P.outs.length P.ins.length
 iu:∀l∈P.ins,l.length<=64/\∀u∈l,u.ok P.outs.length P.ins.length
 ff:P.fls.length<=64/\∀p∈P.fls,p.1<P.ins.length/\p.2<P.outs.length
end KK.Internal
namespace L2.Internal
open PySem PySem.Spec PyProof.Rows
section
variable {X:Cx}
end
section
variable {prog:Program} {w:World} {A:Around} {s:Shared}
end
section
variable {X:Cx}
end
section
variable {X:Cx}
end
section
variable {prog:Program} {w:World} {A:Around} {E:Value->Shared->Prop} {h:Heap} {g:Array GenState} {d:Drawn} {t:Nat} {os:OsState} {a D:Addr} {o:Obj} {K:PySem.W.Frag}
structure XCls (K:PySem.W.Frag) (D:Addr):Prop where
 ga:cN K (.ref D) "__getattribute__"=some (some (.builtin "BaseException.__getattribute__"))
 gn:cN K (.ref D) "__getattr__"=some none
 cl:cN K (.ref D) "__class__"=some (some (.builtin "object.__class__"))
 sb:PySem.W.subIn K (.ref D) (.type "BaseException")=some true
 so:PySem.W.subIn K (.ref D) (.type "object")=some true
 is:cM K D=true
end
section
variable {X:Cx}
end
open Sem (wp)
def DK (h h':Heap):Prop:=∀b o,h.get? b=some o->∃o',h'.get? b=some o'/\o'.dict=o.dict/\o'.cls=o.cls
theorem DK.trans {h h1 h2:Heap} (a:DK h h1) (b:DK h1 h2):DK h h2:=fun x o e=>by
 obtain⟨o1,e1,d1,c1⟩:=a x o e
 obtain⟨o2,e2,d2,c2⟩:=b x o1 e1
 exact⟨o2,e2,d2.trans d1,c2.trans c1⟩
section
variable {prog:Program} {w:World} {A:Around} {E:Value->Shared->Prop} {h:Heap} {g:Array GenState} {d:Drawn} {t:Nat} {os:OsState} {a D dx:Addr} {o:Obj} {K:PySem.W.Frag} {name:Str} {v:Value} {mA:Str->Option Value}
end
open Builtin Builtin.ObjectAttr
section
variable {prog:Program} {w:World} {A:Around} {E:Value->Shared->Prop} {h:Heap} {g:Array GenState} {d:Drawn} {t:Nat} {os:OsState} {a D dx:Addr} {o:Obj} {K:PySem.W.Frag} {name:Str} {v:Value} {mA:Str->Option Value} {cd:ClassData} {vs:Array Value}
structure XSto (K:PySem.W.Frag) (D:Addr):Prop where
 xc:XCls K D
 sa:cN K (.ref D) "__setattr__"=some (some (.builtin "object.__setattr__"))
 mro:∃cd,PySem.W.clsIn K D=some cd/\cd.hasDict=true/\∀self,refuseLoop self "__setattr__" cd.mro=pure ()
end
section
variable {prog:Program} {w:World} {A:Around} {E:Value->Shared->Prop} {h:Heap} {g:Array GenState} {d:Drawn} {t:Nat} {os:OsState}
variable {nm q:Str} {C N:Addr} {bs bm bmB:List Value} {hdct:Bool} {sn:List Str} {sub:List Value} {ab:Bool} {col:Option Bool} {dd:Option Addr} {k0 k1 k2 k3 k5:Option Value} {B newId initId:String}
end
section
variable {prog:Program} {w:World} {A:Around} {E:Value->Shared->Prop} {s:Shared} {env:Env}
variable {nm q:Str} {C N:Addr} {bs bm bmB:List Value} {hdct:Bool} {sn:List Str} {sub:List Value} {ab:Bool} {col:Option Bool} {dd:Option Addr} {k0 k1 k2 k3 k5:Option Value} {B newId initId:String}
end
section
variable {P:Program} {w:World} {H:Hp} {h:Heap} {a C dx:Addr}
end
section
variable {X:Cx} {pz:List (Addr×Obj)} {σ:St} {H:Hp} {s:Shared} {A:Around} {E:Value->Shared->Prop} {a C dx:Addr} {f:Str} {fs:List (Str×V)}
end
section
variable {X:Cx} {o value e:Expr} {ta tv:TE} {f:Str} {pos pos':Pos}
end
section
variable {P:Program} {w:World} {K:PySem.W.Frag} {mg:Str->Option Value} {base:Heap} {N:List Str} {qual:Str} {scope:Scope} {f:Addr} {cd:Value} {A:Around} {outer:List Env} {s₀:Shared} {H₀:Hp} {E:XK}
end
structure ExcI (K:PySem.W.Frag) (C fI:Addr):Prop where
 at_:∃bm N nm q bs hdct sn sub ab col dd k0 k1 k2 k3 k5,K.lookup C=some (excClassObj nm q C N bs bm hdct sn sub ab col dd k0 k1 k2 k3 k5 "ValueError.__new__")/\PySem.W.nsOkIn K N=true/\dE K N "__init__"=some (some (.ref fI))/\PySem.W.tailIn K VEbm bm=true
 fn:∃oI,K.lookup fI=some oI/\oI.cls= .type "function"
section
variable {X:Cx} {C fI:Addr} {E:XK} {x:Str} {np cpos pos:Pos} {e:Expr} {es:List Expr} {t:TA} {k:Nat} {fd:FuncData} {ps:List Str} {sp:Sp}
end
section
variable {X:Cx} {Y:Addr} {y n:Str} {py hpos:Pos} {b₀:Stmt} {body:List Stmt} {tb:TS} {i:Nat}
variable {k j:Nat} {f:Addr} {fd:FuncData} {ps:List Str} {sp:Sp} {dvs:List V} {ds:List Value} {x v:Str} {p pv pos pos' tpos:Pos} {e:Expr} {es:List Expr} {t:TA}
end
open Builtin Builtin.ObjectAttr
section
variable {K:PySem.W.Frag} {C fI N:Addr} {nm q:Str} {bs bm:List Value} {sn:List Str} {sub:List Value} {ab:Bool} {col:Option Bool} {dd:Option Addr} {k0 k1 k2 k3 k5:Option Value} {oI:Obj}
end
section
variable {P:Program} {w:World} {K:PySem.W.Frag} {mg:Str->Option Value} {base:Heap}
end
section
variable {prog:Program} {w:World} {A:Around} {E:Value->Shared->Prop} {s:Shared}
end
section
variable {X:Cx}
end
section
variable {X:Cx}
end
section
variable {P:Program} {w:World} {K:PySem.W.Frag} {mg:Str->Option Value} {base:Heap} {N:List Str} {qual:Str} {scope:Scope} {f:Addr} {cd:Value} {A:Around} {outer:List Env} {s₀:Shared} {H₀:Hp} {E:XK}
end
section
variable {X:Cx} {i:Nat} {Y:Addr} {y n:Str} {py hpos:Pos} {b₀:Stmt} {body:List Stmt} {tb:TS}
variable {k:Nat} {f:Addr} {fd:FuncData} {ps:List Str} {sp:Sp} {dvs:List V} {ds:List Value} {x:Str} {p pos pos' tpos:Pos} {e:Expr} {es:List Expr} {t:TA}
end
section
variable {X:Cx}
end
section
variable {X:Cx} {CX:CXT} {k:Nat} {E:XK} {c e:Expr} {es:List Expr} {tc:TE} {t:TA} {pos:Pos} {S:Addr->Sp->Prop}
def HF (X:Cx) (CX:CXT) (k:Nat) (f:Addr) (sp:Sp):Prop:=∃fd ps,qZ X.prog X.w X.K X.mg X.base CX k f fd ps sp/\cX X.K (.ref f)=true/\mB X.K fd ps []
def EI (S:Addr->Sp->Prop) (E:XK) (tc:TE) (t:TA):TE:=fun σ H Q=>tc σ H fun x H1=>∃f sp,x= .ref f/\S f sp/\t σ H1 fun vs H2=>sp vs H2 Q E
theorem AH (hS:∀f sp,S f sp->HF X CX k f sp) (hr:lJ k X.A) (hx:mG CX X E) (hc:PE X c tc) (ha:PA X (e::es) t)
  (hq:autoParam (eval (.Call c (e::es) [] pos) X.env=(do callWith pos (<-eval c X.env) [] (backTo pos (starEach (e::es) X.env)) (backToKw pos (keywordEach [] X.env)))) L2.Internal.auR._auto_1)
  (he:autoParam (starEach (e::es) X.env=(false,eval e X.env)::starEach es X.env) L2.Internal.auR._auto_1) (hpl:autoParam ((backTo pos (starEach es X.env)).any (·.1)=false) L2.Internal.auR._auto_1):
  PE X (.Call c (e::es) [] pos) (EI S E tc t):=by
 intro pz s σ H Q I h
 rw[hq]
 refine wpAny_bind (thn (hc pz s σ H _ I h) fun u s1 ⟨v,H1,I1,r1,f,sp,e1,hs,q1⟩=>?_)
 subst e1
 obtain rfl:u=Value.ref f:=r1
 obtain⟨fd,ps,F,hk,hb⟩:=hS f sp hs
 refine du (h₀:=X.base) I1.ok.mod.kin hk (thn (ha pos pz s1 σ H1 _ I1 q1) fun us s2 ⟨vs,H2,I2,r,q⟩=>⟨I2.kIn,?_⟩) he hpl
 exact tQ F hr hb .nil hx I2 r (by rw[aD];exact q)
end
section
open PySem.SeqAt
open PySem.AutoSeq1 (wpAny_loadPart')
open PySem.MeetsSeq PySem.MeetsSeq2 PySem.MeetsSeq3
end
section
variable {X:Cx}
end
theorem qo (f:Nat->Int):∀n,argBest (fun i j=>decide (f i>f j)) n<=n/\∀k,k<=n->f k<=f (argBest (fun i j=>decide (f i>f j)) n)
 |0=>⟨b9 _,fun k hk=>by
   have:k=0:=by lia
   subst this
   exact eB _⟩
 |n+ 1=>by
  obtain⟨h1,h2⟩:=qo f n
  rw[argBest]
  by_cases h:f (n+ 1)>f (argBest (fun i j=>decide (f i>f j)) n)
  ·rw[f6 (gR h)]
   refine⟨b9 _,fun k hk=>?_⟩
   by_cases e:k=n+ 1
   ·rw[e];exact eB _
   ·have:=h2 k (by lia)
    lia
  ·rw[fO (by simpa using h)]
   refine⟨by lia,fun k hk=>?_⟩
   by_cases e:k=n+ 1
   ·rw[e];lia
   ·exact h2 k (by lia)
section
variable {X:Cx}
theorem yV (hc:X.calm=true):ox X (.builtin "max") (fun xs H Q=>∃(a:Addr) (ns:List Int),xs=[.ref a]/\SqL X.K H a (ns.map V.int)/\ns≠[]/\∀n,n∈ns->(∀m∈ns,m<=n)->Q (.int n) H):=by
 intro pz s σ H xs us Q I r h
 obtain⟨a,ns,rfl,hq,hn,q⟩:=h
 obtain⟨u,rfl,ru⟩:=qc r
 cases ru
 obtain⟨its,rv,p,hz⟩:=I.list hq
 obtain⟨zs,e⟩:=(rT rv).allInts.items
 have l:=p.isList
 have hlen:=rv.length
 rw[aC]at hlen
 have hsz:zs.size=ns.length:=by
  have h1:=congrArg Array.size e
  simp only[intItems,ay,Array.size_map]at h1
  lia
 have hnum:∀j,j<ns.length->numAt zs j=ns.getD j 0:=fun j hj=>by
  have h1:its.toArray[j]?=(intItems zs)[j]?:=by rw[e]
  obtain⟨v,hv,rv'⟩:=rv.get (show(ns.map V.int)[j]?=some (.int ns[j]) by rw[aK,bb hj];rfl)
  obtain⟨t,rfl⟩:=rv'
  rw[bp,hv]at h1
  obtain⟨t2,e2⟩:=intItems_at h1.symm
  injection e2 with e2 _
  rw[<-e2,bo,bb hj]
  rfl
 have e3:0<ns.length:=List.length_pos_iff.mpr hn
 rw[e]at l
 refine max_intList (I.ok.hd hc) l (by lia) fun v h' tk hv hk=>?_
 obtain⟨t,rfl⟩:=intItems_at hv
 obtain⟨b1,b2⟩:=qo (numAt zs) (zs.size-1)
 refine⟨.int _,H,I.kept (t':=tk) hk,⟨_,rfl⟩,q _ ?_ fun m hm=>?_⟩
 ·rw[hnum _ (by lia),bo,bb (by lia)]
  exact List.getElem_mem _
 ·obtain⟨j,hj⟩:=bt.mp hm
  have hjl:=(ar.mp hj).1
  have:=b2 j (by lia)
  rw[hnum j hjl,bo,hj]at this
  exact this
end
section
variable {X:Cx}
def yW (K:PySem.W.Frag):V->List V->Hp->VK->Prop:=fun x vs H Q=>∃(l:Addr) (ns:List Int) (n:Int) (j:Nat),x= .ref l/\vs=[.int n]/\SqL K H l (ns.map V.int)/\ns.length<=1000/\ns[j]?=some n/\(∀m:Nat,m<j->ns[m]?≠some n)/\Q (.int (j:Int)) H
def isInt (n:Int):Value->Bool
 | .int i _=>decide (i=n)
 |_=>false
theorem yX {k:Nat} (hr:lJ k X.A):MtR X "list.index" (yW X.K):=by
 intro pz s σ H x vs v us Q I rx rv h
 obtain⟨l,ns,n,j,rfl,rfl,hq,hl,hj,hno,q⟩:=h
 cases rx
 obtain⟨u,rfl,ru⟩:=rv.one
 have hu:=hr.un
 have sl0:sizeLine=16777216:=sizeLine_eq
 obtain⟨its,r,pl,hz⟩:=I.list hq
 have lz:=r.length
 rw[aC]at lz
 have hjl:=(ar.mp hj).1
 obtain⟨⟨cls,dd,data,sl⟩,ho,hcl,n',hd⟩:=id pl.isList
 simp only at hcl hd
 subst hcl hd
 have rel:∀(i:Nat) (hi:i<its.length),∃z t,ns[i]?=some z/\its[i]=Value.int z t:=fun i hi=>by
  obtain⟨z,hz⟩:∃z,ns[i]?=some z:=⟨_,bb (by lia)⟩
  obtain⟨w,hw,rw'⟩:=r.get (show(ns.map V.int)[i]?=some (.int z) by rw[aK,hz];rfl)
  rw[bb hi]at hw
  cases hw
  obtain⟨t,et⟩:=rw'
  exact⟨z,t,hz,et⟩
 refine call_meets dN ⟨_,ho,rfl⟩ PySem.F.entry_list_index (PySem.F.args_list_index_2 _ _)
  (SeqAt.list_indexAt l its.toArray n' dd sl u (isInt n) j (by rw[ay];lia) (by lia) ?_ ?_) ⟨ho,fun w hw=>?_,⟨.int (j:Int),H,I.tok _,⟨_,rfl⟩,q⟩⟩
 ·obtain⟨z,t,hz1,hz2⟩:=rel j (by lia)
  rw[hj]at hz1
  cases hz1
  show isInt n its[j]=true
  rw[hz2]
  exact gR rfl
 ·intro m hm hmj
  rw[ay]at hm
  obtain⟨z,t,hz1,hz2⟩:=rel m hm
  show isInt n its[m]=false
  rw[hz2]
  refine gC fun e=>hno m hmj ?_
  rw[hz1,e]
 ·have hw':w∈its:=by simpa using hw
  obtain⟨i,hi,rfl⟩:=List.getElem_of_mem hw'
  obtain⟨z,t,hz1,hz2⟩:=rel i hi
  have rz:gU (.int z) its[i]:=⟨t,hz2⟩
  have:=EH I 100 X.A.in1 rz ru (At.flat (K:=X.K) rfl) (At.flat rfl) rfl rfl (by simp[iE]) (by show X.A.units+ 1+ 100<cLine;lia)
  have e:isInt n its[i]=eqD (.flat (.int z)) (.flat (.int n)):=by
   rw[hz2]
   show decide (z=n)=_
   rw[eqD]
   show decide (z=n)=(z==n)
   rw[dW]
   simp
  rw[e]
  exact this
end
section
variable {X:Cx}
end
section
variable {X:Cx}
end
end L2.Internal
namespace HT.Internal
open PySem PySem.Spec PyProof.Rows L2.Internal
section
variable {prog:Program} {w:World} {A:Around} {E:Value->Shared->Prop} {s:Shared}
theorem getItem_tuple_whole {t sl:Addr} {items:Array Value} {vl vu:Value} {lo hi:Option Int} {Q:Value->Shared->Prop} (ht:IsTup s.heap t items) (hs:s.heap.IsSliceOf sl vl vu .none) (pl:IsPart vl lo) (pu:IsPart vu hi)
  (hw:sIx items.size 0 lo=0/\sIx items.size items.size hi=items.size) (h:Q (.ref t) s):wpAny (model prog w) A (getItem (.ref t) (.ref sl)) Q E s:=by
 obtain⟨os,hos,hcs,hds⟩:=id hs
 have hTs:s.TypeIs (.ref sl) "slice":=⟨os,hos,hcs⟩
 unfold getItem
 try with_reducible refine wpAny_holding ?_
 first|refine wpAny_bind (wpAny_pure ?_)|skip
 refine wpAny_bind (wpAny_sequenceKey ht.typeIs (by decide) ?_)
 refine wpAny_bind (wpAny_callSpecial?_slot (name:=Str.ofString "__getitem__") ht.typeIs eQ
  (wpAny_call_entry eQ ht.typeIs entry_tuple_getitem ?_ (args_tuple_getitem _ _)))
 show wpAny _ _ (Builtin.Tuple.tupleItemsOf (.ref t) >>= _) _ _ s
 refine wpAny_bind (tupleItemsOf_ ht ?_)
 refine wpAny_bind (wpAny_typeOf hTs ?_)
 rw[f6 (by decide)]
 refine wpAny_bind (lB hs pl pu ?_)
 show wpAny _ _ (if(((sIx items.size 0 lo:Nat):Int)==0&&(1:Int)==1&&(sIx items.size items.size hi-sIx items.size 0 lo)==items.size)=true then _ else _) _ _ s
 rw[hw.1,hw.2,f6 (by simp)]
 refine wpAny_bind ?_
 unfold Builtin.Tuple.tupleIsExact
 refine wpAny_bind (wpAny_typeOf ht.typeIs (wpAny_pure ?_))
 rw[f6 (by decide)]
 exact wpAny_bind (wpAny_rule (wpAny_pure ⟨_,rfl,wpAny_pure h⟩))
end
end HT.Internal
namespace L2.Internal
open PySem PySem.Spec PyProof.Rows
section
variable {X:Cx}
def HG (K:PySem.W.Frag):V->Option Int->Option Int->Hp->VK->Prop:=fun x lo hi H Q=>∃a xs,x= .ref a/\SqT K H a xs/\(rh xs lo hi=xs->Q (.ref a) H)/\∀p,H p=none->Q (.ref p) (upd H p (.tup (rh xs lo hi)))
theorem CS:SlR X (HG X.K):=by
 intro pz s σ H x v vl vu lo hi sl Q I rx hs pl pu h
 obtain⟨a,xs,rfl,hx,q1,q2⟩:=h
 by_cases hw:HT.Internal.sIx xs.length 0 lo=0/\HT.Internal.sIx xs.length xs.length hi=xs.length
 ·cases rx
  obtain⟨its,r,ht,hz⟩:=I.tuple hx
  have hlen:its.toArray.size=xs.length:=by rw[ay];exact r.length.symm
  refine⟨"tuple",_,eQ.lookup,ht.typeIs,?_⟩
  refine HT.Internal.getItem_tuple_whole ht hs pl pu (by rw[hlen];exact hw) ⟨.ref a,_,I,rfl,q1 ?_⟩
  unfold rh
  rw[hw.1,hw.2,List.drop_zero,Nat.sub_zero,bu]
 ·exact Er pz s σ H _ v vl vu lo hi sl Q I rx hs pl pu ⟨a,xs,rfl,hx,hw,q2⟩
end
section
variable {prog:Program} {w:World} {A:Around} {E:Value->Shared->Prop} {s:Shared}
end
section
variable {X:Cx} {pz:List (Addr×Obj)} {σ:St} {H:Hp} {d it t:Addr} {vs:List V} {A:Around} {R:Result->Shared->Prop}
end
section
variable {X:Cx}
def AI (K:PySem.W.Frag):R2:=fun x y H Q=>∃a b xs ys,x= .ref a/\y= .ref b/\SqT K H a xs/\SqT K H b ys/\xs.length+ys.length<=sizeLine/\
 (xs=[]->Q (.ref b) H)/\(ys=[]->Q (.ref a) H)/\∀p,H p=none->Q (.ref p) (upd H p (.tup (xs++ys)))
theorem sL:OpR X (binaryOp .Add) (AI X.K):=by
 intro pz s σ H x y v u Q I rx ry h
 obtain⟨a,b,xs,ys,rfl,rfl,ha,hb,hz,q0,q1,q2⟩:=h
 cases rx
 cases ry
 obtain⟨its,r1,p1,_⟩:=I.tuple ha
 obtain⟨its2,r2,p2,_⟩:=I.tuple hb
 by_cases hx:xs=[]
 ·obtain⟨⟨cls,dd,data,sl⟩,ho,hc,n,hd⟩:=id p1
  obtain⟨⟨cls2,dd2,data2,sl2⟩,ho2,hc2,n2,hd2⟩:=id p2
  simp only at hc hd hc2 hd2
  subst hc hd hc2 hd2
  exact concat_meets ⟨_,ho,rfl⟩ ⟨_,ho2,rfl⟩ noFill_tuple_add seq_tuple_add dI dJ (dM _ _)
   (tuple_addW0 a b its.toArray its2.toArray n n2 dd dd2 sl sl2 (by simp[r1.nil_iff.mpr hx])) ⟨ho,ho2,.ref b,H,I,rfl,q0 hx⟩
 refine HT.Internal.cat_tup p1 p2 (fun z=>hx (r1.nil_iff.mp z)) (fun z=>⟨.ref a,H,I,rfl,q1 (r2.nil_iff.mp z)⟩) (fun z=>?_) (by rw[<-r1.length,<-r2.length];exact hz)
 refine⟨.ref s.heap.objs.size,_,I.laid (t':=s.toks) (o:= .tup (xs++ys)) (fun b ob q=>eK _ q) (b9 _) ?_,rfl,q2 _ (I.hok.fresh (b9 _))⟩
 exact⟨by rw[aO];exact hz,_,r1.append r2,vK.new _ _⟩
end
theorem yY {h h':Heap} {j t:Addr} {i:Nat} (g:h.IsTupleIter j t i) (k:∀o,h.get? j=some o->h'.get? j=some o):h'.IsTupleIter j t i:=by
 obtain⟨o,e,r⟩:=g
 exact⟨o,k o e,r⟩
theorem BI {h h':Heap} {t:Addr} {its:Array Value} (g:h.IsTuple t its) (k:∀o,h.get? t=some o->h'.get? t=some o):h'.IsTuple t its:=by
 obtain⟨o,e,r⟩:=g
 exact⟨o,k o e,r⟩
theorem BJ {prog:Program} {w:World} {A:Around} (hh:A.handled=none) (j t:Addr) (hne:t≠j) (its:Array Value):Draws prog w A j [j,t] its.size (fun i v=>its[i]?=some v) (fun i h=>h.IsTupleIter j t i/\h.IsTuple t its) where
 live:=fun i h ⟨⟨o,e,_⟩,_⟩=>⟨o,e⟩
 frame:=fun i h h' ⟨a,b⟩ k=>⟨yY a fun o e=>k j (by simp) o e,BI b fun o e=>k t (by simp) o e⟩
 item:=fun i s Q E hi ⟨a,b⟩ k=>BC a b (x:=its[i]) (by simp[hi]) fun h' a' sb=>k its[i] h' s.toks (by simp[hi]) ⟨a',BI b fun o e=>(sb.2 t hne).trans e⟩ sb
 done:=fun s Q E ⟨a,b⟩ k=>rW hh a b (by simp) k
theorem yZ (t:Addr) (its:Array Value) (n:Nat) (dct:Option Addr) (sl:Array (Option Value)):Meets (Builtin.«enumerate.__new__» ⟨[.type "enumerate",.ref t],[]⟩) (fun _ R s=>s.heap.get? t=some {cls:= .type "tuple",dict:=dct,data:= .seq its n,slots:=sl}/\R (.ok (.ret (.ref (s.heap.push {cls:= .type "tuple_iterator",data:= .fields #[.ref t,.int 0 0]}).objs.size))) {s with heap:=(s.heap.push {cls:= .type "tuple_iterator",data:= .fields #[.ref t,.int 0 0]}).push {cls:= .type "enumerate",data:= .fields #[.none,.bool false,.ref s.heap.objs.size,rawInt 0,.none,.none]}}):=Meets.of_wp fun P w A R s ⟨hl,q⟩=>by
 obtain⟨hp,g,d,tk,os⟩:=s
 have hs:=sub_enumerate
 have hT:Heap.IsTuple (Shared.heap ⟨hp,g,d,tk,os⟩) t its:=⟨_,hl,rfl,n,rfl⟩
 wp_walk using AutoSeq1.wpAny_loadPart' hl
 refine wpAny_stack_any fun st=>wpAny_pure ?_
 split
 ·rename_i c _ _ _ _ _
  cases(c==Value.type "enumerate")<;>(wp_walk using AutoSeq1.wpAny_loadPart' hl,wpAny_pyIter_tuple hT)<;>exact⟨_,rfl,q⟩
 ·wp_walk using AutoSeq1.wpAny_loadPart' hl,wpAny_pyIter_tuple hT
  exact⟨_,rfl,q⟩
theorem xt {prog:Program} {w:World} {A:Around} {E:Value->Shared->Prop} {s:Shared} {t:Addr} {its:Array Value} {Q:Value->Shared->Prop} (hT:s.heap.IsTuple t its)
  (q:∀h',IsEnum h' (s.heap.objs.size+ 1) s.heap.objs.size 0 .none->h'.IsTupleIter s.heap.objs.size t 0->h'.objs.size=s.heap.objs.size+ 2->(∀b o,s.heap.get? b=some o->h'.get? b=some o)->Q (.ref (s.heap.objs.size+ 1)) {s with heap:=h'}):wpAny (model prog w) A (call (.type "enumerate") [.ref t]) Q E s:=by
 obtain⟨⟨c,dct,dt,sl⟩,hl,hc,n,hd⟩:=hT
 cases(show c= .type "tuple" from hc)
 cases(show dt= .seq its n from hd)
 refine callType_new F.called_enumerate (by decide) (F.typeCall_enumerate_1 _) (F.newCall_enumerate_1 _) (fun o=>F.args_object_init_2 o _) F.entry_enumerate_new (yZ t its n dct sl) ⟨hl,?_⟩
 have hz:(s.heap.push {cls:= .type "tuple_iterator",data:= .fields #[.ref t,.int 0 0]}).objs.size=s.heap.objs.size+ 1:=eM ..
 show _/\_
 rw[hz]
 have he:IsEnum ((s.heap.push {cls:= .type "tuple_iterator",data:= .fields #[.ref t,.int 0 0]}).push {cls:= .type "enumerate",data:= .fields #[.none,.bool false,.ref s.heap.objs.size,rawInt 0,.none,.none]}) (s.heap.objs.size+ 1) s.heap.objs.size 0 .none:=by
  have z:=eJ (s.heap.push {cls:= .type "tuple_iterator",data:= .fields #[.ref t,.int 0 0]}) (o:={cls:= .type "enumerate",data:= .fields #[.none,.bool false,.ref s.heap.objs.size,rawInt 0,.none,.none]}) rfl
  rw[hz]at z
  exact z
 exact⟨⟨_,he,rfl⟩,q _ he ⟨_,eK _ (eJ _ rfl),rfl,rfl⟩ (by rw[eM,hz]) fun b o x=>eK _ (eK _ x)⟩
def EJ (K:PySem.W.Frag) (a:Addr):It:=
 ⟨fun i H=>∃xs x,SqT K H a xs/\xs[i]?=some x,
   fun i H v H'=>∃T x,v= .ref T/\H T=none/\H'=upd H T (.tup [.int (i:Int),x])/\∀xs,SqT K H a xs->xs[i]?=some x,
   fun i H=>∃xs,SqT K H a xs/\i=xs.length⟩
def EStT (e it a:Addr) (i:Nat) (h:Heap):Prop:=(∃old,IsEnum h e it i old)/\h.IsTupleIter it a i
theorem xu {P:Program} {w:World} {K:PySem.W.Frag} {es:List Expr} {kk:Nat} {tp:Pos} {a e it:Addr} (h1:e≠it) (h2:a≠e) (h3:a≠it):Ci P w K (.Tuple es kk tp) (EJ K a) [e,it] e (EStT e it a) where
 mem:=by simp
 obj:=fun i h st c hc=>by
  obtain⟨⟨old,g1⟩,⟨o4,g4,_,d4⟩⟩:=st
  simp only[ak,bh,or_false]at hc
  rcases hc with q|q<;>subst q
  ·exact⟨_,g1,fun v q=>nomatch q⟩
  ·exact⟨_,g4,fun v q=>by rw[d4]at q;cases q⟩
 keep:=fun i h h' st k=>by
  obtain⟨⟨old,g1⟩,g4⟩:=st
  exact⟨⟨old,k e (by simp) _ g1⟩,(yY g4 fun o q=>k it (by simp) o q)⟩
 item:=by
  intro X hP hw hK hc i pz s σ H E I hf st hg
  subst hP hw hK
  obtain⟨xs,x,qx,ex⟩:=hg
  obtain⟨i1s,r1,p1,z1⟩:=I.tuple qx
  obtain⟨g1,g4⟩:=st
  obtain⟨old,g1'⟩:=g1
  obtain⟨ux,hux,rr1⟩:=r1.get ex
  have lte:e<s.heap.objs.size:=eI g1'
  have lt:i<i1s.toArray.size:=by rw[ay];have:=r1.length;have:=(ar.mp ex).1;lia
  have ne:e∉[it,a]:=fun z=>by simp only[ak,bh,or_false]at z;exact z.elim h1 fun z=>h2 z.symm
  have D:=BJ (prog:=X.prog) (w:=X.w) (A:=X.A.in1) (by exact I.ok.hd hc) it a h3 i1s.toArray
  refine wpAny_pyNext_enum_itemD D g1' ⟨g4,show s.heap.IsTuple a i1s.toArray from p1⟩ lt h1 ne fun ux' k1 tk hP ho hit' hT hsz hk=>?_
  obtain rfl:ux'=ux:=by
   have z:i1s[i]?=some ux':=by simpa using hP
   rw[z]at hux
   exact cC.inj hux
  have kk1:∀c o,c∉[e,it]->s.heap.get? c=some o->k1.get? c=some o:=fun c o hc q=>hk c o (fun z=>hc (by simp[z])) (fun z=>hc (by simp[z])) q
  have J1:Inv X pz σ H {s with heap:=k1,toks:=tk+ 1}:=I.turnedL kk1 hf
  refine⟨.ref s.heap.objs.size,rfl,wpAny_letOwnedTupleGo_enum ho fun k2 he' sb=>?_⟩
  have J2:Inv X pz σ H {s with heap:=k2,toks:=tk+ 1}:=Inv.turnedL (s:={s with heap:=k1,toks:=tk+ 1}) (h':=k2) (t':=tk+ 1) (ch:=[e]) J1 (fun c o hc q=>(sb.2 c (fun z=>hc (by simp[z]))).trans q) fun c hc=>hf c (by simp only[ak,bh,or_false]at hc⊢;simp[hc])
  have ht2:vK k2 s.heap.objs.size #[.int i tk,ux']:=⟨_,(sb.2 _ (b6 lte)).trans hT,rfl,_,rfl,rfl⟩
  obtain⟨fT,J3⟩:=I.pairNew (x:= .int (i:Int)) (b9 _) J2 ht2 ⟨tk,rfl⟩ rr1
  refine⟨.ref s.heap.objs.size,_,J3,rfl,⟨_,x,rfl,fT,rfl,fun l hl=>by rw[I.tuple_inj hl qx];exact ex⟩,⟨⟨_,by simpa using he'⟩,yY hit'.1 fun o y=>(sb.2 it h1.symm).trans y⟩,fun c hc=>?_⟩
  rw[eX (fun q=>?_)]
  ·exact(hf c hc).1
  ·have lt:c<s.heap.objs.size:=by
    obtain⟨o4,e4,_⟩:=g4
    simp only[ak,bh,or_false]at hc
    rcases hc with q|q<;>subst q
    ·exact lte
    ·exact eI e4
   exact absurd lt (by rw[q];exact bX _)
 done:=by
  intro X hP hw hK hc i pz s σ H E I hf st hg
  subst hP hw hK
  obtain⟨xs,qx,ei⟩:=hg
  obtain⟨i1s,r1,p1,z1⟩:=I.tuple qx
  obtain⟨g1,g4⟩:=st
  have ne:e∉[it,a]:=fun z=>by simp only[ak,bh,or_false]at z;exact z.elim h1 fun z=>h2 z.symm
  have D:=BJ (prog:=X.prog) (w:=X.w) (A:=X.A.in1) (by exact I.ok.hd hc) it a h3 i1s.toArray
  have W:=WalksT.enumerateD D e h1 ne (by simp)
  have l1:=r1.length
  have q:i=i1s.toArray.size:=by simp only[ay];lia
  subst q
  exact W.done s _ _ ⟨g1,g4,show s.heap.IsTuple a i1s.toArray from p1⟩ fun h1 tk hk=>⟨rfl,I.turnedL hk hf⟩
 self:=fun _ _ _ _ _ st h=>by
  obtain⟨⟨old,g1⟩,_⟩:=st
  exact wpAny_pyIter_enum g1 h
def EK (K:PySem.W.Frag) (ta:TA):TI:=fun σ H R=>ta σ H fun vs H1=>∃a,vs=[.ref a]/\(∃xs,SqT K H1 a xs)/\R (EJ K a) H1
section
variable {X:Cx}
theorem AJ {es:List Expr} {kk:Nat} {tp:Pos} {a:Expr} {ta:TA} {p pos:Pos} (hg:Gl X "enumerate") (hm:X.mg "enumerate"=none) (ha:PA X [a] ta) (hs:autoParam (starEach [a] X.env=[(false,eval a X.env)]) L2.Internal.auR._auto_1):
  PI X (.Tuple es kk tp) (.Call (.Name "enumerate" p) [a] [] pos) (EK X.K ta):=by
 intro pz s σ H R I h
 refine Call_ (p8 I hg hm pk (eP (thn (ha pos pz s σ H _ I h) fun us s1 ⟨vs,H1,I1,r1,q1⟩=>?_) hs rfl))
 obtain⟨l1,e,⟨xs,q1⟩,q⟩:=q1
 subst e
 obtain⟨u,rfl,ru⟩:=qc r1
 cases ru
 obtain⟨i1s,w1,p1,z1⟩:=I1.tuple q1
 have o1:@LT.lt Nat _ l1 s1.heap.objs.size:=SqT.old I1 q1
 refine xt (show s1.heap.IsTuple l1 i1s.toArray from p1) fun h1 hE hi1 hsz hk=>wpAny_pyIter_enum hE ?_
 refine⟨_,_,_,_,H1,rfl,I1.kept (t':=s1.toks) hk,xu (fun(h:@Eq Nat _ _)=>by lia) (fun(h:@Eq Nat _ _)=>by lia) (fun(h:@Eq Nat _ _)=>by lia),⟨⟨_,hE⟩,hi1⟩,fun c hc=>?_,q⟩
 have ge:s1.heap.objs.size<=c:=by
  simp only[ak,bh,or_false]at hc
  rcases hc with h|h<;>rw[h]<;>first|exact b9 _|exact cc _ _
 exact I1.fpOk ge (I1.hok.fresh ge)
end
end L2.Internal
namespace L2.Internal
abbrev Itzm:=Itg tS lS
end L2.Internal
namespace L2.Internal
open PySem PySem.Spec PyProof.Rows
structure DW (K:PySem.W.Frag) (x qual:Str) (st:Stmt) (f:Addr) (fd:FuncData):Prop where
 ex:∃(oc:Value) (od:Option Addr) (t:Addr) (kV doc pm:Value) (an:Option Addr) (cdv ct:Value) (osl:Array (Option Value)) (o:Obj) (n:Nat),
  fd=dB x qual (iR st) (gZ st) (e8 st) (.ref t) kV doc pm an cdv ct/\K.lookup f=some ⟨oc,od,.func fd,osl⟩/\dC K cdv qual=true/\K.lookup t=some o/\o.data= .seq #[.none] n
 kp:cX K (.ref f)=true
section
variable {P:Program} {w:World} {K:PySem.W.Frag} {mg:Str->Option Value} {base:Heap}
theorem DW.ok {x qual:Str} {st:Stmt} {f:Addr} {fd:FuncData} {N ps:List Str} {k:Nat} {sp:Sp} (F:DW K x qual st f fd) (S:fi N ps (e8 st)) (len:∀vs H Q E,sp vs H Q E->vs.length=ps.length)
  (hbody:∀(cdv:Value) (A:Around) (outer:List Env) (s:Shared) (H:Hp) (vs:List V) (Q:VK) (E:XK),lJ k (A.deeper (envOfC qual (e8 st) s.heap.objs.size f cdv))->sp vs H Q E->
   ∃t,PSs (Bo CX0 P w K mg base N qual (e8 st) f cdv A outer s H E).nox (gZ st) t/\t {nx:=fun _ H'=>Q .non H',rt:=Q} (start N vs) H):qZ P w K mg base CX0 (k+ 1) f fd ps sp:=by
 obtain⟨oc,od,t,kV,doc,pm,an,cdv,ct,osl,o,n,rfl,lk,hcd,_⟩:=F.ex
 refine Ek lk hcd S len fun A outer s H vs Q E hr hsp=>?_
 obtain⟨t,h,q⟩:=hbody cdv A outer s H vs Q E hr hsp
 exact⟨t,h.nox,q⟩
theorem DW.binds {x qual:Str} {st:Stmt} {f:Addr} {fd:FuncData} {ps:List Str} (F:DW K x qual st f fd)
  (h:∀(t:Addr) (kV doc pm:Value) (an:Option Addr) (cdv ct:Value) (us:List Value),us.length+ 1=ps.length->∃k:Option (Array Value)->Sem (List (Str×Value)),bindArgs (dB x qual (iR st) (gZ st) (e8 st) (.ref t) kV doc pm an cdv ct) ⟨us,[]⟩=seqItems? (.ref t) >>= k/\k (some #[.none])=pure (ps.zip (us++[.none]))):mB K fd ps [.none]:=by
 obtain⟨oc,od,t,kV,doc,pm,an,cdv,ct,osl,o,n,rfl,lk,hcd,lt,hd⟩:=F.ex
 intro s us X hl
 obtain⟨k,h1,h2⟩:=h t kV doc pm an cdv ct us (by rw[aO]at hl;exact hl)
 exact BindsTo.of_defaults rfl (X _ _ lt) hd h1 h2
theorem y0 {x qual:Str} {st:Stmt} {f t:Addr} {oc oct:Value} {od an odt:Option Addr} {osl slt:Array (Option Value)} {kV doc pm cdv ct:Value} {n:Nat} (l:K.lookup f=some ⟨oc,od,.func (dB x qual (iR st) (gZ st) (e8 st) (.ref t) kV doc pm an cdv ct),osl⟩)
  (c:dC K cdv qual=true) (k:cX K (.ref f)=true) (lt:K.lookup t=some ⟨oct,odt,.seq #[.none] n,slt⟩):DW K x qual st f (dB x qual (iR st) (gZ st) (e8 st) (.ref t) kV doc pm an cdv ct):=⟨⟨oc,od,t,kV,doc,pm,an,cdv,ct,osl,_,n,rfl,l,c,lt,rfl⟩,k⟩
end
end L2.Internal
namespace TM.Internal
open PySem L2.Internal
inductive Kn
 |num (n:Int)
 |name (w:Str)
 |fn (w:Str)
 |tag (w:Str)
 |lt (w:Str)
 |get (w:Str)
 |rcd (l:List Str)
 |case (l:List (Str×Str))
 |row (m:Nat)
 |op (s:Str) (m:Nat)
inductive Tr
 |mk (κ:Kn) (ks:List Tr)
def ops:List (Str×Nat):=[("call",2),("at",3),("join",2),("size",1),("add",2),("sub",2),("less",2)]
mutual
def Tr.sz:Tr->Nat
 | .mk _ ks=>1+szs ks
def szs:List Tr->Nat
 |[]=>0
 |t::ts=>t.sz+szs ts
end
mutual
def Tr.nest:Tr->Nat
 | .mk _ ks=>1+nests ks
def nests:List Tr->Nat
 |[]=>0
 |t::ts=>max t.nest (nests ts)
end
def Kn.s:Kn->Str
 | .num _=>"num"
 | .name _=>"name"
 | .fn _=>"fn"
 | .tag _=>"tag"
 | .lt _=>"let"
 | .get _=>"get"
 | .rcd _=>"rec"
 | .case _=>"case"
 | .row _=>"row"
 | .op s _=>s
def gF:List Tr->Nat->List Nat
 |[],_=>[]
 |t::ts,p=>p::gF ts (p+t.sz)
theorem offs_len:∀(ts:List Tr) (p:Nat),(gF ts p).length=ts.length
 |[],_=>rfl
 |t::ts,p=>by rw[gF,az,az,offs_len ts]
end TM.Internal
namespace K24.Internal
open PySem L2.Internal
theorem l0 {P:List Value->Prop} (h:P []):∀us:List Value,us.length=0->P us:=fun us e=>by rw[List.eq_nil_of_length_eq_zero e];exact h
theorem lS {n:Nat} {P:List Value->Prop} (h:∀a,∀us:List Value,us.length=n->P (a::us)):∀us:List Value,us.length=n+ 1->P us:=fun us e=>by
 cases us with
 |nil=>cases e
 |cons a t=>exact h a t (Nat.succ.inj e)
def top (i:Nat):Stmt:=PySem.Challenge.pw_flowkinds_k24_a_let_laid_anew.main.body.getD i (.Pass ⟨0,0,0,0⟩)
variable {K:PySem.W.Frag} {mg:Str->Option Value} {n q:Str} {st:Stmt} {ps:List Str} {C:Addr} {h:Heap}
inductive Fm (K:PySem.W.Frag) (n:Str) (st:Stmt):Prop
 |mk {f:Addr} {od an:Option Addr} {sl:Array (Option Value)} {oc kV dc pm cd ct:Value} (a:dE K mainGlobals n=some (some (.ref f))) (l:K.lookup f=some ⟨oc,od,.func (dB n n (iR st) (gZ st) (e8 st) .none kV dc pm an cd ct),sl⟩) (c:dC K cd n=true) (k:cX K (.ref f)=true)
inductive Mm (K:PySem.W.Frag) (C:Addr) (n q:Str) (st:Stmt):Prop
 |mk {f:Addr} {od an:Option Addr} {sl:Array (Option Value)} {oc kV dc pm cd ct:Value} (i:cN K (.ref C) n=some (some (.ref f))) (j:cP K (.ref f)=true) (l:K.lookup f=some ⟨oc,od,.func (dB n q (iR st) (gZ st) (e8 st) .none kV dc pm an cd ct),sl⟩) (c:dC K cd q=true) (k:cX K (.ref f)=true)
structure Cm (K:PySem.W.Frag) (n:Str) (C:Addr):Prop where
 a:dE K mainGlobals n=some (some (.ref C))
 pg:cK K C Str.empty=true
 hd:cM K C=true
 po:cQ K C=true
 sa:cN K (.ref C) "__setattr__"=some (some (.builtin "object.__setattr__"))
 t1:cN K (.ref C) "__class__"=some (some (.builtin "object.__class__"))
 t2:cW K (.builtin "object.__class__") "__get__"=some (some (.builtin "getset_descriptor.__get__"))
 t3:PySem.W.takesIn K (.builtin "object.__class__")=some true
 t4:PySem.W.mroIn K C (.type "object")=some true
 ms:cS K C=true
 kc:cX K (.ref C)=true
structure Fx (K:PySem.W.Frag) (mg:Str->Option Value) (n:Str) (st:Stmt) (ps:List Str) where
 a:Addr
 fd:FuncData
 F:Fun K n n st a fd
 b:mB K fd ps []
 m:mg n=some (.ref a)
 k:cX K (.ref a)=true
structure Mx (K:PySem.W.Frag) (C:Addr) (n q:Str) (st:Stmt) (ps:List Str) where
 a:Addr
 fd:FuncData
 F:Fun K n q st a fd
 b:mB K fd ps []
 me:FP K C n a
structure Ck (K:PySem.W.Frag) (mg:Str->Option Value) (n:Str) where
 a:Addr
 m:mg n=some (.ref a)
 cl:Cls K a
 ty:∀(H:Hp) (x dx:Addr) (fs:List (Str×V)),H x=some (.ins a dx fs)->va K H (.ref x) (.ref a)
def Bf (n q:Str) (st:Stmt) (ps:List Str):Prop:=∀(kV doc pm:Value) (an:Option Addr) (cdv ct:Value) (us:List Value),us.length=ps.length->bindArgs (dB n q (iR st) (gZ st) (e8 st) .none kV doc pm an cdv ct) ⟨us,[]⟩=pure (ps.zip us)
def Fm.x (X:K.In h) (G:h.Ns mainGlobals mg) (a:Fm K n st) (hb:Bf n n st ps:=by intro _ _ _ _ _ _;repeat(first|exact l0 rfl|refine lS fun _=>?_)):Fx K mg n st ps:=Classical.choice (by
 obtain⟨a,l,c,k⟩:=a
 exact⟨⟨_,_,t6 l c k,(t6 l c k).binds hb,dF X G a,k⟩⟩)
def Mm.x (a:Mm K C n q st) (hb:Bf n q st ps:=by intro _ _ _ _ _ _;repeat(first|exact l0 rfl|refine lS fun _=>?_)):Mx K C n q st ps:=Classical.choice (by
 obtain⟨i,j,l,c,k⟩:=a
 exact⟨⟨_,_,t6 l c k,(t6 l c k).binds hb,⟨i,j,k⟩⟩⟩)
def Cm.x (X:K.In h) (G:h.Ns mainGlobals mg) (a:Cm K n C):Ck K mg n:=⟨C,dF X G a.a,⟨a.pg,a.hd,a.po,a.sa⟩,fun _ _ _ _ e=> .ins e ⟨a.pg,a.hd,a.po,a.sa⟩ a.t1 a.t2 a.t3 a.t4⟩
theorem sf {x:Option (Option Value)} {a b:Addr} (h1:x=some (some (.ref a))) (h2:x=some (some (.ref b))):a=b:=by rw[h1]at h2;cases h2;rfl
theorem Cm.k (a:Cm K n C) (x:Mx K C "__init__" q st ps):Mk K C x.a:=⟨a.ms,x.me.at_,x.me.fn,a.kc⟩
abbrev FO (P:Program) (w:World) (base:Heap) (k:Nat) (x:Fx K mg n st ps) (sp:Sp):Prop:=qZ P w K mg base CX0 k x.a x.fd ps sp
abbrev MO (P:Program) (w:World) (base:Heap) (mg:Str->Option Value) (k:Nat) (x:Mx K C n q st ps) (sp:Sp):Prop:=qZ P w K mg base CX0 k x.a x.fd ps sp
inductive Dm (K:PySem.W.Frag) (n:Str) (st:Stmt):Prop
 |mk {f:Addr} {od an:Option Addr} {sl:Array (Option Value)} {oc kV dc pm cd ct:Value} {t:Addr} {od':Option Addr} {sl':Array (Option Value)} {oc':Value} {m:Nat} (a:dE K mainGlobals n=some (some (.ref f))) (l:K.lookup f=some ⟨oc,od,.func (dB n n (iR st) (gZ st) (e8 st) (.ref t) kV dc pm an cd ct),sl⟩) (c:dC K cd n=true) (k:cX K (.ref f)=true) (lt:K.lookup t=some ⟨oc',od',.seq #[.none] m,sl'⟩)
structure Dx (K:PySem.W.Frag) (mg:Str->Option Value) (n:Str) (st:Stmt) (ps:List Str) where
 a:Addr
 fd:FuncData
 F:DW K n n st a fd
 b:mB K fd ps [.none]
 m:mg n=some (.ref a)
 k:cX K (.ref a)=true
abbrev mQ:Stmt:=top 11
abbrev sM:Stmt:=top 13
abbrev lR:Stmt:=top 14
abbrev lT:Stmt:=top 15
abbrev oG:Stmt:=top 16
abbrev kJ:Stmt:=top 17
abbrev y8:Stmt:=top 19
abbrev qq:Stmt:=top 21
abbrev oH:Stmt:=top 22
abbrev kK:Stmt:=top 23
abbrev iT:Stmt:=top 24
abbrev sN:Stmt:=top 25
abbrev oJ:Stmt:=top 26
abbrev qr:Stmt:=top 27
abbrev qt:Stmt:=top 28
abbrev qu:Stmt:=top 29
abbrev qv:Stmt:=top 30
abbrev oK:Stmt:=top 31
abbrev qz:Stmt:=top 32
abbrev sO:Stmt:=top 33
abbrev oM:Stmt:=top 34
abbrev oN:Stmt:=top 35
abbrev qA:Stmt:=top 36
abbrev oO:Stmt:=top 37
abbrev kM:Stmt:=top 38
abbrev mS:Stmt:=top 43
abbrev lU:Stmt:=top 44
abbrev lV:Stmt:=top 45
abbrev mU:Stmt:=top 46
abbrev mV:Stmt:=top 47
abbrev oP:Stmt:=top 48
abbrev kN:Stmt:=top 49
abbrev mW:Stmt:=top 50
abbrev mX:Stmt:=top 51
abbrev mY:Stmt:=top 52
abbrev kO:Stmt:=top 53
abbrev oQ:Stmt:=top 54
abbrev oR:Stmt:=top 55
abbrev lW:Stmt:=top 56
abbrev kj:Stmt:=top 57
abbrev kP:Stmt:=top 58
abbrev mZ:Stmt:=top 59
abbrev oS:Stmt:=top 60
abbrev m7:Stmt:=top 61
abbrev lX:Stmt:=top 62
abbrev m8:Stmt:=top 63
abbrev lY:Stmt:=top 64
abbrev kl:Stmt:=top 65
abbrev kQ:Stmt:=top 66
abbrev jM:Stmt:=top 67
abbrev jN:Stmt:=top 68
abbrev km:Stmt:=top 69
abbrev lZ:Stmt:=top 70
abbrev sP:Stmt:=top 71
abbrev jO:Stmt:=gH (top 2) 0
abbrev m9:Stmt:=gH (top 2) 1
abbrev ju:Stmt:=gH (top 3) 0
abbrev kR:Stmt:=gH (top 4) 1
abbrev iU:Stmt:=gH (top 5) 0
abbrev kn:Stmt:=gH (top 5) 2
abbrev iV:Stmt:=gH (top 6) 0
abbrev kq:Stmt:=gH (top 6) 2
abbrev iW:Stmt:=gH (top 7) 0
abbrev kr:Stmt:=gH (top 7) 2
abbrev jl:Stmt:=gH (top 8) 0
abbrev kS:Stmt:=gH (top 8) 2
abbrev jz:Stmt:=gH (top 9) 0
abbrev kT:Stmt:=gH (top 9) 1
abbrev mf:Stmt:=gH (top 9) 2
abbrev ng:Stmt:=gH (top 9) 3
abbrev mh:Stmt:=gH (top 9) 4
abbrev ku:Stmt:=gH (top 9) 5
abbrev jm:Stmt:=gH (top 20) 0
abbrev gT:Stmt:=gH (top 20) 1
abbrev mi:Stmt:=gH (top 20) 2
abbrev iX:Stmt:=gH (top 41) 0
theorem scK {N ps:List Str} {s:Scope} (h:fi N ps s:=by constructor<;>first|rfl|decide+kernel):fi N ps s:=h
set_option genInjectivity false in
set_option genSizeOf false in
structure Txt (K:PySem.W.Frag) (mg:Str->Option Value) where
 d1:Fx K mg "stands_in" mQ ["program","place","number"]
 d2:Fx K mg "pasted" sM ["board","paper","place"]
 d3:Fx K mg "new_points" lR ["board","count","place"]
 d4:Fx K mg "parts_made" lT ["making","outs","ins"]
 d5:Fx K mg "use_made" oG ["one","at","place","outs","ins"]
 d6:Fx K mg "with_points" kJ ["pairs","points"]
 y7:Dx K mg "laid" y8 ["program","homes","which","papers"]
 d8:Fx K mg "lay_num" qq ["laying","row","place","own"]
 d9:Fx K mg "lay_name" oH ["laying","row","place","own"]
 d10:Fx K mg "meant_point" kK ["laying","place"]
 d11:Fx K mg "definition_point" iT ["laying","place","number"]
 d12:Fx K mg "lay_fn" sN ["laying","row","place","own"]
 d13:Fx K mg "lay_call" oJ ["laying","row","place","own"]
 d14:Fx K mg "lay_let" qr ["laying","row","place","own"]
 d15:Fx K mg "lay_rec" qt ["laying","row","place","own"]
 d16:Fx K mg "lay_get" qu ["laying","row","place","own"]
 d17:Fx K mg "lay_tag" qv ["laying","row","place","own"]
 d18:Fx K mg "lay_case" oK ["laying","row","place","own"]
 d19:Fx K mg "lay_row" qz ["laying","row","place","own"]
 d20:Fx K mg "lay_at" sO ["laying","row","place","own"]
 d21:Fx K mg "lay_join" oM ["laying","row","place","own"]
 d22:Fx K mg "lay_size" oN ["laying","row","place","own"]
 d23:Fx K mg "lay_sum" qA ["laying","row","place","own"]
 d24:Fx K mg "lay_less" oO ["laying","row","place","own"]
 d25:Fx K mg "lay_numbers" kM ["laying","row","place"]
 d26:Fx K mg "_law_stem" mS ["_law_cell","_law_size"]
 d27:Fx K mg "_law_words" lU ["_law_cell"]
 d28:Fx K mg "_law_alike" lV ["_law_found","_law_due"]
 d29:Fx K mg "_law_leaf" mU ["_law_node","_law_weight"]
 d30:Fx K mg "_law_knit" mV ["_law_head","_law_words_here","_law_parts","_law_held"]
 d31:Fx K mg "_law_pop" oP ["_law_stack"]
 d32:Fx K mg "_law_number" kN ["_law_arg"]
 d33:Fx K mg "_law_name" mW ["_law_words_here","_law_var"]
 d34:Fx K mg "_law_most" mX ["_law_item","_law_arg"]
 d35:Fx K mg "_law_wide" mY ["_law_words_here","_law_stack","_law_op","_law_arg"]
 d36:Fx K mg "_law_narrow" kO ["_law_words_here","_law_stack","_law_op","_law_arg"]
 d37:Fx K mg "_law_let" oQ ["_law_words_here","_law_var","_law_bound","_law_body"]
 d38:Fx K mg "_law_new" oR ["_law_words_here","_law_stack","_law_made","_law_op","_law_arg"]
 d39:Fx K mg "_law_ended" lW ["_law_words_here","_law_item","_law_arg"]
 d40:Fx K mg "_law_defined" kj ["_law_words_here","_law_cells"]
 d41:Fx K mg "_law_scoped" kP ["_law_node","_law_k","_law_places"]
 d42:Fx K mg "_law_home" mZ ["_law_scope","_law_word"]
 d43:Fx K mg "_law_row" oS ["_law_node","_law_places"]
 d44:Fx K mg "_law_flat" m7 ["_law_node","_law_scope","_law_rows","_law_homes"]
 d45:Fx K mg "_law_built" lX ["_law_words_here","_law_nodes"]
 d46:Fx K mg "_law_told" m8 ["_law_board"]
 d47:Fx K mg "_law_moved" lY ["_law_value","_law_by"]
 d48:Fx K mg "_law_shifted" kl ["_law_told_here","_law_by"]
 d49:Fx K mg "_law_within" kQ ["_law_told_here","_law_low","_law_high"]
 d50:Fx K mg "_law_crossing" jM ["_law_told_here","_law_low","_law_high"]
 d51:Fx K mg "_law_entering" jN ["_law_told_here","_law_low","_law_high"]
 d52:Fx K mg "_law_leaving" km ["_law_told_here","_law_low","_law_high"]
 d53:Fx K mg "_law_reach" lZ ["_law_points","_law_k","_law_place","_law_second"]
 c1:Ck K mg "Make"
 n1shape:fQ K c1.a "shape"
 n1parts:fQ K c1.a "parts"
 n1at:fQ K c1.a "at"
 n1place:fQ K c1.a "place"
 e54:Mx K c1.a "__init__" "Make.__init__" jO ["self","shape","parts","at","place"]
 mk1:Mk K c1.a e54.a
 e55:Mx K c1.a "told" "Make.told" m9 ["self"]
 c2:Ck K mg "Use"
 n2at:fQ K c2.a "at"
 n2place:fQ K c2.a "place"
 n2slot:fQ K c2.a "slot"
 e56:Mx K c2.a "__init__" "Use.__init__" ju ["self","at","place","slot"]
 cm56:HC K c2.a "__init__" e56.a
 mk2:Mk K c2.a e56.a
 c3:Ck K mg "NumUse"
 n3at:fQ K c3.a "at"
 n3place:fQ K c3.a "place"
 n3slot:fQ K c3.a "slot"
 e57:Mx K c3.a "told" "NumUse.told" kR ["self"]
 mk3:Mk K c3.a e56.a
 c4:Ck K mg "CallUse"
 n4arg:fQ K c4.a "arg"
 n4out:fQ K c4.a "out"
 n4at:fQ K c4.a "at"
 n4place:fQ K c4.a "place"
 n4slot:fQ K c4.a "slot"
 e58:Mx K c4.a "__init__" "CallUse.__init__" iU ["self","at","place","slot","arg","out"]
 mk4:Mk K c4.a e58.a
 e59:Mx K c4.a "told" "CallUse.told" kn ["self"]
 c5:Ck K mg "TakeUse"
 n5fields:fQ K c5.a "fields"
 n5at:fQ K c5.a "at"
 n5place:fQ K c5.a "place"
 n5slot:fQ K c5.a "slot"
 e60:Mx K c5.a "__init__" "TakeUse.__init__" iV ["self","at","place","slot","fields"]
 mk5:Mk K c5.a e60.a
 e61:Mx K c5.a "told" "TakeUse.told" kq ["self"]
 c6:Ck K mg "CaseUse"
 n6arms:fQ K c6.a "arms"
 n6at:fQ K c6.a "at"
 n6place:fQ K c6.a "place"
 n6slot:fQ K c6.a "slot"
 e62:Mx K c6.a "__init__" "CaseUse.__init__" iW ["self","at","place","slot","arms"]
 mk6:Mk K c6.a e62.a
 e63:Mx K c6.a "told" "CaseUse.told" kr ["self"]
 c7:Ck K mg "RowUse"
 n7out:fQ K c7.a "out"
 n7at:fQ K c7.a "at"
 n7place:fQ K c7.a "place"
 n7slot:fQ K c7.a "slot"
 e64:Mx K c7.a "__init__" "RowUse.__init__" jl ["self","at","place","slot","out"]
 mk7:Mk K c7.a e64.a
 e65:Mx K c7.a "told" "RowUse.told" kS ["self"]
 c8:Ck K mg "Board"
 n8points:fQ K c8.a "points"
 n8makes:fQ K c8.a "makes"
 n8uses:fQ K c8.a "uses"
 n8flows:fQ K c8.a "flows"
 n8root:fQ K c8.a "root"
 e66:Mx K c8.a "__init__" "Board.__init__" jz ["self"]
 mk8:Mk K c8.a e66.a
 e67:Mx K c8.a "point" "Board.point" kT ["self","place"]
 e68:Mx K c8.a "make" "Board.make" mf ["self","shape","parts","at","place"]
 e69:Mx K c8.a "use" "Board.use" ng ["self","one"]
 e70:Mx K c8.a "flow" "Board.flow" mh ["self","p","q"]
 e71:Mx K c8.a "rooted" "Board.rooted" ku ["self","p"]
 c9:Ck K mg "Laying"
 n9program:fQ K c9.a "program"
 n9homes:fQ K c9.a "homes"
 n9papers:fQ K c9.a "papers"
 n9board:fQ K c9.a "board"
 n9held:fQ K c9.a "held"
 n9starts:fQ K c9.a "starts"
 e72:Mx K c9.a "__init__" "Laying.__init__" jm ["self","program","homes","papers"]
 mk9:Mk K c9.a e72.a
 e73:Mx K c9.a "lay_definition" "Laying.lay_definition" gT ["self","number"]
 e74:Mx K c9.a "lay" "Laying.lay" mi ["self","place"]
 c10:Ck K mg "Program"
 n10names:fQ K c10.a "names"
 n10roots:fQ K c10.a "roots"
 n10rows:fQ K c10.a "rows"
 e75:Mx K c10.a "__init__" "Program.__init__" iX ["self","names","roots","rows"]
 mk10:Mk K c10.a e75.a
 z_all:mg "all"=none
 z_bool:mg "bool"=none
 z_enumerate:mg "enumerate"=none
 z_int:mg "int"=none
 z_isinstance:mg "isinstance"=none
 z_len:mg "len"=none
 z_list:mg "list"=none
 z_max:mg "max"=none
 z_range:mg "range"=none
 z_str:mg "str"=none
 z_sum:mg "sum"=none
 z_tuple:mg "tuple"=none
 z_zip:mg "zip"=none
theorem pB:fi ["program","place","number","behind"] ["program","place","number"] (e8 mQ):=scK
theorem y9:fi ["board","paper","place","outs","ins","at","makings","making","uses","one","flow"] ["board","paper","place"] (e8 sM):=scK
theorem AK:fi ["board","count","place","points","number"] ["board","count","place"] (e8 lR):=scK
theorem AL:fi ["making","outs","ins"] ["making","outs","ins"] (e8 lT):=scK
theorem CT:fi ["one","at","place","outs","ins"] ["one","at","place","outs","ins"] (e8 oG):=scK
theorem Al:fi ["pairs","points"] ["pairs","points"] (e8 kJ):=scK
theorem za:fi ["program","homes","which","papers","laying"] ["program","homes","which","papers"] (e8 y8):=scK
theorem xw:fi ["laying","row","place","own"] ["laying","row","place","own"] (e8 qq):=scK
theorem vg:fi ["laying","row","place","own"] ["laying","row","place","own"] (e8 oH):=scK
theorem mI:fi ["laying","place","home"] ["laying","place"] (e8 kK):=scK
theorem nu:fi ["laying","place","number"] ["laying","place","number"] (e8 iT):=scK
theorem qB:fi ["laying","row","place","own","argument","answer"] ["laying","row","place","own"] (e8 sN):=scK
theorem nv:fi ["laying","row","place","own","called","argument"] ["laying","row","place","own"] (e8 oJ):=scK
theorem xx:fi ["laying","row","place","own"] ["laying","row","place","own"] (e8 qr):=scK
theorem oT:fi ["laying","row","place","own","fields","field"] ["laying","row","place","own"] (e8 qt):=scK
theorem rX:fi ["laying","row","place","own","record"] ["laying","row","place","own"] (e8 qu):=scK
theorem rY:fi ["laying","row","place","own","tagged"] ["laying","row","place","own"] (e8 qv):=scK
theorem jP:fi ["laying","row","place","own","subject","arms","arm","tagged"] ["laying","row","place","own"] (e8 oK):=scK
theorem oU:fi ["laying","row","place","own","things","thing"] ["laying","row","place","own"] (e8 qz):=scK
theorem nT:fi ["laying","row","place","own","looked","index","default"] ["laying","row","place","own"] (e8 sO):=scK
theorem kU:fi ["laying","row","place","own","things","first","second"] ["laying","row","place","own"] (e8 oM):=scK
theorem nA:fi ["laying","row","place","own","things","measured"] ["laying","row","place","own"] (e8 oN):=scK
theorem xy:fi ["laying","row","place","own"] ["laying","row","place","own"] (e8 qA):=scK
theorem qC:fi ["laying","row","place","own","nothing"] ["laying","row","place","own"] (e8 oO):=scK
theorem ky:fi ["laying","row","place","first","second"] ["laying","row","place"] (e8 kM):=scK
theorem gQ:fi ["_law_cell","_law_size","_law_signs","_law_stem_here","_law_k","_law_many"] ["_law_cell","_law_size"] (e8 mS):=scK
theorem fY:fi ["_law_cell","_law_size","_law_words_here","_law_stem_here","_law_at","_law_k","_law_word","_law_part"] ["_law_cell"] (e8 lU):=scK
theorem nU:fi ["_law_found","_law_due"] ["_law_found","_law_due"] (e8 lV):=scK
theorem ug:fi ["_law_node","_law_weight"] ["_law_node","_law_weight"] (e8 mU):=scK
theorem f7:fi ["_law_head","_law_words_here","_law_parts","_law_held","_law_nest","_law_weight","_law_many","_law_own","_law_places","_law_part","_law_var"] ["_law_head","_law_words_here","_law_parts","_law_held"] (e8 mV):=scK
theorem vj:fi ["_law_stack"] ["_law_stack"] (e8 oP):=scK
theorem rj:fi ["_law_arg"] ["_law_arg"] (e8 kN):=scK
theorem pD:fi ["_law_words_here","_law_var","_law_item"] ["_law_words_here","_law_var"] (e8 mW):=scK
theorem uh:fi ["_law_item","_law_arg"] ["_law_item","_law_arg"] (e8 mX):=scK
theorem gJ:fi ["_law_words_here","_law_stack","_law_op","_law_arg","_law_many","_law_chosen","_law_parts","_law_heads","_law_k","_law_bodies"] ["_law_words_here","_law_stack","_law_op","_law_arg"] (e8 mY):=scK
theorem ip:fi ["_law_words_here","_law_stack","_law_op","_law_arg","_law_item","_law_head","_law_chosen","_law_parts"] ["_law_words_here","_law_stack","_law_op","_law_arg"] (e8 kO):=scK
theorem nB:fi ["_law_words_here","_law_var","_law_bound","_law_body","_law_item","_law_times"] ["_law_words_here","_law_var","_law_bound","_law_body"] (e8 oQ):=scK
theorem jQ:fi ["_law_words_here","_law_stack","_law_made","_law_op","_law_arg","_law_d","_law_item","_law_body","_law_var"] ["_law_words_here","_law_stack","_law_made","_law_op","_law_arg"] (e8 oR):=scK
theorem iY:fi ["_law_words_here","_law_item","_law_arg","_law_var"] ["_law_words_here","_law_item","_law_arg"] (e8 lW):=scK
theorem fR:fi ["_law_words_here","_law_cells","_law_stack","_law_made","_law_nodes","_law_done","_law_cell","_law_c","_law_new_here","_law_item"] ["_law_words_here","_law_cells"] (e8 kj):=scK
theorem rk:fi ["_law_node","_law_k","_law_places"] ["_law_node","_law_k","_law_places"] (e8 kP):=scK
theorem jY:fi ["_law_scope","_law_word","_law_home_here","_law_one"] ["_law_scope","_law_word"] (e8 mZ):=scK
theorem qD:fi ["_law_node","_law_places","_law_arms"] ["_law_node","_law_places"] (e8 oS):=scK
theorem iK:fi ["_law_node","_law_scope","_law_rows","_law_homes","_law_at","_law_places","_law_k","_law_part"] ["_law_node","_law_scope","_law_rows","_law_homes"] (e8 m7):=scK
theorem gx:fi ["_law_words_here","_law_nodes","_law_names","_law_roots","_law_rows","_law_homes","_law_scope","_law_d","_law_node"] ["_law_words_here","_law_nodes"] (e8 lX):=scK
theorem mj:fi ["_law_board","_law_makes","_law_uses"] ["_law_board"] (e8 m8):=scK
theorem nV:fi ["_law_value","_law_by"] ["_law_value","_law_by"] (e8 lY):=scK
theorem jR:fi ["_law_told_here","_law_by","_law_makes","_law_uses"] ["_law_told_here","_law_by"] (e8 kl):=scK
theorem jv:fi ["_law_told_here","_law_low","_law_high","_law_makes","_law_uses","_law_flows"] ["_law_told_here","_law_low","_law_high"] (e8 kQ):=scK
theorem pO:fi ["_law_told_here","_law_low","_law_high"] ["_law_told_here","_law_low","_law_high"] (e8 jM):=scK
theorem lE:fi ["_law_told_here","_law_low","_law_high","_law_crossing_here"] ["_law_told_here","_law_low","_law_high"] (e8 jN):=scK
theorem qE:fi ["_law_told_here","_law_low","_law_high"] ["_law_told_here","_law_low","_law_high"] (e8 km):=scK
theorem iZ:fi ["_law_points","_law_k","_law_place","_law_second","_law_at","_law_end"] ["_law_points","_law_k","_law_place","_law_second"] (e8 lZ):=scK
theorem kE:fi ["_law_script","_law_words_here","_law_built_here","_law_rows","_law_program","_law_told_here","_law_k","_law_place","_law_home_here","_law_reach_here","_law_low","_law_high","_law_own"] ["_law_script"] (e8 sP):=scK
theorem pP:fi ["self","shape","parts","at","place"] ["self","shape","parts","at","place"] (e8 jO):=scK
theorem ui:fi ["self"] ["self"] (e8 m9):=scK
theorem qF:fi ["self","at","place","slot"] ["self","at","place","slot"] (e8 ju):=scK
theorem rl:fi ["self"] ["self"] (e8 kR):=scK
theorem nE:fi ["self","at","place","slot","arg","out"] ["self","at","place","slot","arg","out"] (e8 iU):=scK
theorem qG:fi ["self"] ["self"] (e8 kn):=scK
theorem nF:fi ["self","at","place","slot","fields"] ["self","at","place","slot","fields"] (e8 iV):=scK
theorem qH:fi ["self"] ["self"] (e8 kq):=scK
theorem nG:fi ["self","at","place","slot","arms"] ["self","at","place","slot","arms"] (e8 iW):=scK
theorem qI:fi ["self"] ["self"] (e8 kr):=scK
theorem nX:fi ["self","at","place","slot","out"] ["self","at","place","slot","out"] (e8 jl):=scK
theorem rm:fi ["self"] ["self"] (e8 kS):=scK
theorem oV:fi ["self"] ["self"] (e8 jz):=scK
theorem rp:fi ["self","place"] ["self","place"] (e8 kT):=scK
theorem sQ:fi ["self","shape","parts","at","place"] ["self","shape","parts","at","place"] (e8 mf):=scK
theorem uj:fi ["self","one"] ["self","one"] (e8 ng):=scK
theorem sR:fi ["self","p","q"] ["self","p","q"] (e8 mh):=scK
theorem qJ:fi ["self","p"] ["self","p"] (e8 ku):=scK
theorem nY:fi ["self","program","homes","papers"] ["self","program","homes","papers"] (e8 jm):=scK
theorem gL:fi ["self","number","root","start"] ["self","number"] (e8 gT):=scK
theorem jF:fi ["self","place","row","own"] ["self","place"] (e8 mi):=scK
theorem nH:fi ["self","names","roots","rows"] ["self","names","roots","rows"] (e8 iX):=scK
def v9 (K:PySem.W.Frag):Sp:=fun vs H Q _=>∃(a:Addr) (ns:List Int),vs=[.ref a]/\SqL K H a (ns.map V.int)/\ns.length<=63/\∀H',Q (.bl true) H'
theorem _root_.L2.Internal.Fun.rd {P:Program} {w:World} {base:Heap} {f:Addr} {fd:FuncData} {N:List Str} {k:Nat} {sp:Sp} (F:Fun K n q st f fd) (S:fi N ps (e8 st)) (hbody:∀(cdv:Value) (A:Around) (outer:List Env) (s:Shared) (H:Hp) (vs:List V) (Q:VK) (E:XK),lJ k (A.deeper (PyProof.Rows.envOfC q (e8 st) s.heap.objs.size f cdv))->sp vs H Q E->∃t,PSs (Bo CX0 P w K mg base N q (e8 st) f cdv A outer s H E).nox (gZ st) t/\t {nx:=fun _ H'=>Q .non H',rt:=Q} (start N vs) H) (len:∀vs H Q E,sp vs H Q E->vs.length=ps.length:=by intro _ _ _ _ h;repeat(first|(obtain⟨rfl,_⟩:=h;rfl)|(cases h;first|(subst_vars;rfl)|rename_i h))):qZ P w K mg base CX0 (k+ 1) f fd ps sp:=F.ok S len hbody
section
variable {X:Cx}
theorem pF {e:Expr} {es:List Expr} {pos p:Pos} {k:Nat} {sp:Sp} {t:TA} (x:Fx X.K X.mg n st ps) (F:qZ X.prog X.w X.K X.mg X.base CX0 k x.a x.fd ps sp) (hr:lJ k X.A) (ha:PA X (e::es) t) (hg:Gl X n:=by exact rfl) (hdb:autoParam ((n==("__debug__":Str))=false) L2.Internal.auD._auto_1) (he:autoParam (starEach (e::es) X.env=(false,eval e X.env)::starEach es X.env) L2.Internal.auR._auto_1) (hpl:autoParam ((backTo pos (starEach es X.env)).any (·.1)=false) L2.Internal.auR._auto_1):PE X (.Call (.Name n p) (e::es) [] pos) (rf sp [] E0 t):=yr F hr hg x.m x.k x.b .nil fK ha hdb he hpl
theorem pS {i:Nat} {x:Str} {e:Expr} {te:TE} {pos pos':Pos} (hN:X.N.Nodup) (he:PE X e te) (hi:autoParam (X.N[i]?=some x) L2.Internal.auR._auto_1) (hx:Loc X.env.scope x:=by first|exact .inl rfl|exact .inr rfl) (hs:autoParam (swapsWith e (some (.Name x pos')) pos.line X.env=pure false) L2.Internal.auR._auto_1) (hf:autoParam (X.fn x=true\/X.env.scope.names.lookup x=some .local) L2.Internal.auL._auto_1):PS X (.Assign [.Name x pos'] e pos) (Aj te (fN i)):=Ef hN hi hx he hs hf
theorem pN {i:Nat} {x:Str} {pos:Pos} (hN:X.N.Nodup) (hi:autoParam (X.N[i]?=some x) L2.Internal.auR._auto_1) (hx:Loc X.env.scope x:=by first|exact .inl rfl|exact .inr rfl) (hf:autoParam (X.fn x=true\/X.env.scope.names.lookup x=some .local) L2.Internal.auL._auto_1):PG X (.Name x pos) (fN i):=u5 hN hi hx hf
theorem uY {scope:Scope} {x:Str} (ns:List Str) (cap:List (Str×Nat×Addr)) (hns:autoParam (cap.map (·.1)=ns) L2.Internal.auR._auto_1) (hk:autoParam (scope.kind= .function) L2.Internal.auR._auto_1) (hn:∀p∈scope.names,p.2≠ .cell/\(p.2= .free->p.1∈ns):=by decide+kernel) (hl:∀y∈scope.names,y.2= .local->scope.names.lookup y.1=some .local:=by decide+kernel)
  (hx:autoParam (scope.names.lookup x=some .local) L2.Internal.auR._auto_1) (hnd:(x::ns).Nodup:=by decide+kernel) (hc:autoParam (closureFor scope X.env=pure (cap.map fun p=>(p.1,p.2.2))) L2.Internal.auR._auto_1) (hok:autoParam (X.env.scope.kind= .function) L2.Internal.auR._auto_1)
  (h:∀p∈cap,scope.names.lookup p.1=some .free/\X.env.cells.lookup p.1=some p.2.2/\X.env.scope.names.lookup p.1=some .cell/\X.N[p.2.1]?=some p.1:=by repeat(first|refine bw.mpr ⟨⟨rfl,rfl,rfl,rfl⟩,?_⟩|exact fun _ h=>absurd h bh)):
  qj X (x::ns) scope (cap.map fun p=>(p.1,p.2.2)) (fun σ=>none::cap.map fun p=>σ.getD p.2.1 none) 0 x:=blkC ns cap hns hk hn hl hx hnd hc hok h
theorem blkD2 {scope:Scope} {x y:Str} (ns:List Str) (cap:List (Str×Nat×Addr)) (hns:autoParam (cap.map (·.1)=ns) L2.Internal.auR._auto_1) (hk:autoParam (scope.kind= .function) L2.Internal.auR._auto_1) (hn:∀p∈scope.names,p.2≠ .cell/\(p.2= .free->p.1∈ns):=by decide+kernel) (hl:∀y∈scope.names,y.2= .local->scope.names.lookup y.1=some .local:=by decide+kernel)
  (hx:autoParam (scope.names.lookup x=some .local) L2.Internal.auR._auto_1) (hnd:(x::y::ns).Nodup:=by decide+kernel) (hc:autoParam (closureFor scope X.env=pure (cap.map fun p=>(p.1,p.2.2))) L2.Internal.auR._auto_1) (hok:autoParam (X.env.scope.kind= .function) L2.Internal.auR._auto_1)
  (h:∀p∈cap,scope.names.lookup p.1=some .free/\X.env.cells.lookup p.1=some p.2.2/\X.env.scope.names.lookup p.1=some .cell/\X.N[p.2.1]?=some p.1:=by repeat(first|refine bw.mpr ⟨⟨rfl,rfl,rfl,rfl⟩,?_⟩|exact fun _ h=>absurd h bh)):
  qj X (x::y::ns) scope (cap.map fun p=>(p.1,p.2.2)) (fun σ=>none::none::cap.map fun p=>σ.getD p.2.1 none) 0 x:=GG ns cap hns hk hn hl hx hnd hc hok h
theorem pgP {scope:Scope} {cl:List (Str×Addr)} {x y:Str} {ns:List Str} {px py tp:Pos} {kk:Nat} (hc:X.calm=true) (nd:(x::y::ns).Nodup) (hx:scope.names.lookup x=some .local) (hy:scope.names.lookup y=some .local) (C:Addr) (s₀:Shared) (H₀:Hp) (ex:List Addr) (pz:List (Addr×Obj)):PG (blk X (x::y::ns) scope cl C s₀ H₀ ex pz) (.Tuple [.Name x px,.Name y py] kk tp) (Ee X.K 2 (sv (fN 0) (sv (fN 1) Ed))):=
 tN (n:=2) (X:=blk X (x::y::ns) scope cl C s₀ H₀ ex pz) hc (jo (u5 (X:=blk X (x::y::ns) scope cl C s₀ H₀ ex pz) (i:=0) nd rfl (.inl (lookup_relabel_local hx)) (.inr (lookup_relabel_local hx))) (jo (u5 (X:=blk X (x::y::ns) scope cl C s₀ H₀ ex pz) (i:=1) nd rfl (.inl (lookup_relabel_local hy)) (.inr (lookup_relabel_local hy))) qa))
end
end K24.Internal
inductive X2 {a0 a1:Type} (p:a0->a1->Prop):Prop
 |mk x0 x1:p x0 x1->X2 p
inductive X3 {a0 a1 a2:Type} (p:a0->a1->a2->Prop):Prop
 |mk x0 x1 x2:p x0 x1 x2->X3 p
inductive X4 {a0 a1 a2 a3:Type} (p:a0->a1->a2->a3->Prop):Prop
 |mk x0 x1 x2 x3:p x0 x1 x2 x3->X4 p
inductive X5 {a0 a1 a2 a3 a4:Type} (p:a0->a1->a2->a3->a4->Prop):Prop
 |mk x0 x1 x2 x3 x4:p x0 x1 x2 x3 x4->X5 p
inductive X6 {a0 a1 a2 a3 a4 a5:Type} (p:a0->a1->a2->a3->a4->a5->Prop):Prop
 |mk x0 x1 x2 x3 x4 x5:p x0 x1 x2 x3 x4 x5->X6 p
inductive X7 {a0 a1 a2 a3 a4 a5 a6:Type} (p:a0->a1->a2->a3->a4->a5->a6->Prop):Prop
 |mk x0 x1 x2 x3 x4 x5 x6:p x0 x1 x2 x3 x4 x5 x6->X7 p
inductive X8 {a0 a1 a2 a3 a4 a5 a6 a7:Type} (p:a0->a1->a2->a3->a4->a5->a6->a7->Prop):Prop
 |mk x0 x1 x2 x3 x4 x5 x6 x7:p x0 x1 x2 x3 x4 x5 x6 x7->X8 p
inductive X9 {a0 a1 a2 a3 a4 a5 a6 a7 a8:Type} (p:a0->a1->a2->a3->a4->a5->a6->a7->a8->Prop):Prop
 |mk x0 x1 x2 x3 x4 x5 x6 x7 x8:p x0 x1 x2 x3 x4 x5 x6 x7 x8->X9 p
inductive X10 {a0 a1 a2 a3 a4 a5 a6 a7 a8 a9:Type} (p:a0->a1->a2->a3->a4->a5->a6->a7->a8->a9->Prop):Prop
 |mk x0 x1 x2 x3 x4 x5 x6 x7 x8 x9:p x0 x1 x2 x3 x4 x5 x6 x7 x8 x9->X10 p
inductive X12 {a0 a1 a2 a3 a4 a5 a6 a7 a8 a9 a10 a11:Type} (p:a0->a1->a2->a3->a4->a5->a6->a7->a8->a9->a10->a11->Prop):Prop
 |mk x0 x1 x2 x3 x4 x5 x6 x7 x8 x9 x10 x11:p x0 x1 x2 x3 x4 x5 x6 x7 x8 x9 x10 x11->X12 p
structure Y3 (a0 a1 a2:Prop):Prop where mk::
 (h0:a0) (h1:a1) (h2:a2)
structure Y4 (a0 a1 a2 a3:Prop):Prop where mk::
 (h0:a0) (h1:a1) (h2:a2) (h3:a3)
structure Y5 (a0 a1 a2 a3 a4:Prop):Prop where mk::
 (h0:a0) (h1:a1) (h2:a2) (h3:a3) (h4:a4)
structure Y6 (a0 a1 a2 a3 a4 a5:Prop):Prop where mk::
 (h0:a0) (h1:a1) (h2:a2) (h3:a3) (h4:a4) (h5:a5)
structure Y7 (a0 a1 a2 a3 a4 a5 a6:Prop):Prop where mk::
 (h0:a0) (h1:a1) (h2:a2) (h3:a3) (h4:a4) (h5:a5) (h6:a6)
structure Y8 (a0 a1 a2 a3 a4 a5 a6 a7:Prop):Prop where mk::
 (h0:a0) (h1:a1) (h2:a2) (h3:a3) (h4:a4) (h5:a5) (h6:a6) (h7:a7)
structure Y9 (a0 a1 a2 a3 a4 a5 a6 a7 a8:Prop):Prop where mk::
 (h0:a0) (h1:a1) (h2:a2) (h3:a3) (h4:a4) (h5:a5) (h6:a6) (h7:a7) (h8:a8)
structure Y10 (a0 a1 a2 a3 a4 a5 a6 a7 a8 a9:Prop):Prop where mk::
 (h0:a0) (h1:a1) (h2:a2) (h3:a3) (h4:a4) (h5:a5) (h6:a6) (h7:a7) (h8:a8) (h9:a9)
structure Y12 (a0 a1 a2 a3 a4 a5 a6 a7 a8 a9 a10 a11:Prop):Prop where mk::
 (h0:a0) (h1:a1) (h2:a2) (h3:a3) (h4:a4) (h5:a5) (h6:a6) (h7:a7) (h8:a8) (h9:a9) (h10:a10) (h11:a11)
structure Y17 (a0 a1 a2 a3 a4 a5 a6 a7 a8 a9 a10 a11 a12 a13 a14 a15 a16:Prop):Prop where mk::
 (h0:a0) (h1:a1) (h2:a2) (h3:a3) (h4:a4) (h5:a5) (h6:a6) (h7:a7) (h8:a8) (h9:a9) (h10:a10) (h11:a11) (h12:a12) (h13:a13) (h14:a14) (h15:a15) (h16:a16)
namespace K24.Internal
open PySem L2.Internal BO.Internal KK.Internal
seal L2.Internal.PE L2.Internal.PA L2.Internal.PS L2.Internal.PSs L2.Internal.PT L2.Internal.PI
theorem sS {H H2:Hp} {l:Addr} (s:fE H H2) (h:H l=none) (o:HO):fE H (upd H2 l o):=fun b u e=>by rw[eX (fe e h)];exact s b u e
theorem GH (a p s:V):ji "slot" s (ji "place" p (ji "at" a []))=fU a p s:=by
 have h1:¬("at":Str)="place":=fW
 have h2:¬("at":Str)="slot":=fW
 have h3:¬("place":Str)="slot":=fW
 simp only[ji,fO h1,fO h2,fO h3,fU]
theorem zc (n:Str) (a p s x:V) (h1:¬("at":Str)=n) (h2:¬("place":Str)=n) (h3:¬("slot":Str)=n):ji n x (fU a p s)=fU1 n a p s x:=by
 simp only[ji,fU,fO h1,fO h2,fO h3,fU1]
theorem EM (a p s x y:V):ji "out" y (ji "arg" x (fU a p s))=fU2 a p s x y:=by
 have h1:¬("at":Str)="arg":=fW
 have h2:¬("place":Str)="arg":=fW
 have h3:¬("slot":Str)="arg":=fW
 have h4:¬("at":Str)="out":=fW
 have h5:¬("place":Str)="out":=fW
 have h6:¬("slot":Str)="out":=fW
 have h7:¬("arg":Str)="out":=fW
 simp only[ji,fU,fO h1,fO h2,fO h3,fO h4,fO h5,fO h6,fO h7,fU2]
theorem GI (s f a p:V):ji "place" p (ji "at" a (ji "parts" f (ji "shape" s [])))=fM s f a p:=by
 have h1:¬("shape":Str)="parts":=fW
 have h2:¬("shape":Str)="at":=fW
 have h3:¬("shape":Str)="place":=fW
 have h4:¬("parts":Str)="at":=fW
 have h5:¬("parts":Str)="place":=fW
 have h6:¬("at":Str)="place":=fW
 simp only[ji,fO h1,fO h2,fO h3,fO h4,fO h5,fO h6,fM]
theorem g0 {f:Str} {v:V} {fs:List (Str×V)} {n:Nat} (h:fs.length<n):(ji f v fs).length<n+ 1:=Nat.lt_of_le_of_lt (mM f v fs) (Nat.succ_lt_succ h)
theorem GJ (a p s:V):(fU a p s).lookup ("at":Str)=some (a):=by kernel_rfl
theorem AM (a p s:V):(fU a p s).lookup ("place":Str)=some (p):=by kernel_rfl
theorem CU (a p s:V):(fU a p s).lookup ("slot":Str)=some (s):=by kernel_rfl
theorem xA (a p s:V):(fU a p s).lookup ("told":Str)=none:=by kernel_rfl
theorem EN (a p s x y:V):(fU2 a p s x y).lookup ("at":Str)=some (a):=by kernel_rfl
theorem zd (a p s x y:V):(fU2 a p s x y).lookup ("place":Str)=some (p):=by kernel_rfl
theorem AN (a p s x y:V):(fU2 a p s x y).lookup ("slot":Str)=some (s):=by kernel_rfl
theorem CV (a p s x y:V):(fU2 a p s x y).lookup ("arg":Str)=some (x):=by kernel_rfl
theorem CW (a p s x y:V):(fU2 a p s x y).lookup ("out":Str)=some (y):=by kernel_rfl
theorem vk (a p s x y:V):(fU2 a p s x y).lookup ("told":Str)=none:=by kernel_rfl
theorem AO (s f a p:V):(fM s f a p).lookup ("shape":Str)=some (s):=by kernel_rfl
theorem AQ (s f a p:V):(fM s f a p).lookup ("parts":Str)=some (f):=by kernel_rfl
theorem GK (s f a p:V):(fM s f a p).lookup ("at":Str)=some (a):=by kernel_rfl
theorem AR (s f a p:V):(fM s f a p).lookup ("place":Str)=some (p):=by kernel_rfl
theorem xB (s f a p:V):(fM s f a p).lookup ("told":Str)=none:=by kernel_rfl
theorem qK (p0 p1 p2 p3:Addr) (r:V):(fB p0 p1 p2 p3 r).lookup ("points":Str)=some (.ref p0):=by kernel_rfl
theorem wb (p0 p1 p2 p3:Addr) (r:V):(fB p0 p1 p2 p3 r).lookup ("makes":Str)=some (.ref p1):=by kernel_rfl
theorem ze (p0 p1 p2 p3:Addr) (r:V):(fB p0 p1 p2 p3 r).lookup ("uses":Str)=some (.ref p2):=by kernel_rfl
theorem wg (p0 p1 p2 p3:Addr) (r:V):(fB p0 p1 p2 p3 r).lookup ("flows":Str)=some (.ref p3):=by kernel_rfl
theorem g9 (p0 p1 p2 p3:Addr) (r:V):(fB p0 p1 p2 p3 r).lookup ("point":Str)=none:=by kernel_rfl
theorem gM (p0 p1 p2 p3:Addr) (r:V):(fB p0 p1 p2 p3 r).lookup ("make":Str)=none:=by kernel_rfl
theorem iq (p0 p1 p2 p3:Addr) (r:V):(fB p0 p1 p2 p3 r).lookup ("use":Str)=none:=by kernel_rfl
theorem jJ (p0 p1 p2 p3:Addr) (r:V):(fB p0 p1 p2 p3 r).lookup ("flow":Str)=none:=by kernel_rfl
theorem uk (p0 p1 p2 p3:Addr) (r:V):(fB p0 p1 p2 p3 r).lookup ("rooted":Str)=none:=by kernel_rfl
theorem CY (a p s x:V):(fU1 "fields" a p s x).lookup ("at":Str)=some (a):=by kernel_rfl
theorem xC (a p s x:V):(fU1 "fields" a p s x).lookup ("place":Str)=some (p):=by kernel_rfl
theorem zf (a p s x:V):(fU1 "fields" a p s x).lookup ("slot":Str)=some (s):=by kernel_rfl
theorem vm (a p s x:V):(fU1 "fields" a p s x).lookup ("fields":Str)=some (x):=by kernel_rfl
theorem um (a p s x:V):(fU1 "fields" a p s x).lookup ("told":Str)=none:=by kernel_rfl
theorem CZ (a p s x:V):(fU1 "arms" a p s x).lookup ("at":Str)=some (a):=by kernel_rfl
theorem xD (a p s x:V):(fU1 "arms" a p s x).lookup ("place":Str)=some (p):=by kernel_rfl
theorem zg (a p s x:V):(fU1 "arms" a p s x).lookup ("slot":Str)=some (s):=by kernel_rfl
theorem zh (a p s x:V):(fU1 "arms" a p s x).lookup ("arms":Str)=some (x):=by kernel_rfl
theorem uo (a p s x:V):(fU1 "arms" a p s x).lookup ("told":Str)=none:=by kernel_rfl
theorem Dc (a p s x:V):(fU1 "out" a p s x).lookup ("at":Str)=some (a):=by kernel_rfl
theorem xE (a p s x:V):(fU1 "out" a p s x).lookup ("place":Str)=some (p):=by kernel_rfl
theorem zi (a p s x:V):(fU1 "out" a p s x).lookup ("slot":Str)=some (s):=by kernel_rfl
theorem AS (a p s x:V):(fU1 "out" a p s x).lookup ("out":Str)=some (x):=by kernel_rfl
theorem uq (a p s x:V):(fU1 "out" a p s x).lookup ("told":Str)=none:=by kernel_rfl
def qL (K:PySem.W.Frag):Sp:=fun vs H Q _=>X6 fun(x C dx:Addr) (a p s:V)=>Y7 (vs=[.ref x,a,p,s]) (H x=some (.ins C dx [])) (Cls K C) (fQ K C "at") (fQ K C "place") (fQ K C "slot") (Q .non (upd H x (.ins C dx (fU a p s))))
theorem gN (T:Txt K mg):MO P w base mg 1 T.e56 (qL K):=by
 refine T.e56.F.rd qF fun cdv A outer s H vs Q E hr h=>?_
 obtain⟨x,C,dx,a,p,sl,rfl,hx,cl,n1,n2,n3,q⟩:=h
 refine⟨_,(eU (gK (pv 0) (pv 1) rfl)
  (eU (gK (pv 0) (pv 2) rfl)
  (eZ (gK (pv 0) (pv 3) rfl)))),?_⟩
 refine⟨_,rfl,_,rfl,x,C,dx,[],rfl,hx,cl,n1,(by show 0<1000;decide),?_⟩
 refine⟨_,rfl,_,rfl,x,C,dx,_,rfl,eS,cl,n2,(by show 1<1000;decide),?_⟩
 refine⟨_,rfl,_,rfl,x,C,dx,_,rfl,eS,cl,n3,g0 (g0 (by show 0<998;decide)),?_⟩
 rw[gv,gv,GH]
 exact q
def nJ (C:Addr):Sp:=fun vs H Q _=>X7 fun(x dx:Addr) (a p s y z:V)=>Y3 (vs=[.ref x,a,p,s,y,z]) (H x=some (.ins C dx [])) (Q .non (upd H x (.ins C dx (fU2 a p s y z))))
theorem nK (T:Txt K mg):MO P w base mg 2 T.e58 (nJ T.c4.a):=by
 have gE56:=gN (P:=P) (w:=w) (base:=base) T
 refine T.e58.F.rd nE fun cdv A outer s H vs Q E hr h=>?_
 obtain⟨x,dx,a,p,sl,y,z,rfl,hx,q⟩:=h
 refine⟨_,(eU (fA (sE (yH rfl T.c2.m) T.cm56 gE56 hr.m T.e56.b .nil fK (eR (pv 0) (eR (pv 1) (eR (pv 2) (eR (pv 3) eT))))))
  (eU (gK (pv 0) (pv 4) rfl)
  (eZ (gK (pv 0) (pv 5) rfl)))),?_⟩
 refine⟨_,rfl,_,rfl,_,rfl,_,rfl,x,_,dx,a,p,sl,rfl,hx,T.c4.cl,T.n4at,T.n4place,T.n4slot,?_⟩
 refine⟨_,rfl,_,rfl,x,_,dx,_,rfl,eS,T.c4.cl,T.n4arg,(by show 3<1000;decide),?_⟩
 refine⟨_,rfl,_,rfl,x,_,dx,_,rfl,eS,T.c4.cl,T.n4out,g0 (by show 3<999;decide),?_⟩
 rw[gv,gv,EM]
 exact q
def Dd (C:Addr) (n:Str):Sp:=fun vs H Q _=>X6 fun(x dx:Addr) (a p s y:V)=>Y3 (vs=[.ref x,a,p,s,y]) (H x=some (.ins C dx [])) (Q .non (upd H x (.ins C dx (fU1 n a p s y))))
theorem nL (T:Txt K mg):MO P w base mg 2 T.e60 (Dd T.c5.a "fields"):=by
 have gE56:=gN (P:=P) (w:=w) (base:=base) T
 refine T.e60.F.rd nF fun cdv A outer s H vs Q E hr h=>?_
 obtain⟨x,dx,a,p,sl,y,rfl,hx,q⟩:=h
 refine⟨_,(eU (fA (sE (yH rfl T.c2.m) T.cm56 gE56 hr.m T.e56.b .nil fK (eR (pv 0) (eR (pv 1) (eR (pv 2) (eR (pv 3) eT))))))
  (eZ (gK (pv 0) (pv 4) rfl))),?_⟩
 refine⟨_,rfl,_,rfl,_,rfl,_,rfl,x,_,dx,a,p,sl,rfl,hx,T.c5.cl,T.n5at,T.n5place,T.n5slot,?_⟩
 refine⟨_,rfl,_,rfl,x,_,dx,_,rfl,eS,T.c5.cl,T.n5fields,(by show 3<1000;decide),?_⟩
 rw[gv,zc "fields" a p sl y fW fW fW]
 exact q
theorem nM (T:Txt K mg):MO P w base mg 2 T.e62 (Dd T.c6.a "arms"):=by
 have gE56:=gN (P:=P) (w:=w) (base:=base) T
 refine T.e62.F.rd nG fun cdv A outer s H vs Q E hr h=>?_
 obtain⟨x,dx,a,p,sl,y,rfl,hx,q⟩:=h
 refine⟨_,(eU (fA (sE (yH rfl T.c2.m) T.cm56 gE56 hr.m T.e56.b .nil fK (eR (pv 0) (eR (pv 1) (eR (pv 2) (eR (pv 3) eT))))))
  (eZ (gK (pv 0) (pv 4) rfl))),?_⟩
 refine⟨_,rfl,_,rfl,_,rfl,_,rfl,x,_,dx,a,p,sl,rfl,hx,T.c6.cl,T.n6at,T.n6place,T.n6slot,?_⟩
 refine⟨_,rfl,_,rfl,x,_,dx,_,rfl,eS,T.c6.cl,T.n6arms,(by show 3<1000;decide),?_⟩
 rw[gv,zc "arms" a p sl y fW fW fW]
 exact q
theorem ja (T:Txt K mg):MO P w base mg 2 T.e64 (Dd T.c7.a "out"):=by
 have gE56:=gN (P:=P) (w:=w) (base:=base) T
 refine T.e64.F.rd nX fun cdv A outer s H vs Q E hr h=>?_
 obtain⟨x,dx,a,p,sl,y,rfl,hx,q⟩:=h
 refine⟨_,(eU (fA (sE (yH rfl T.c2.m) T.cm56 gE56 hr.m T.e56.b .nil fK (eR (pv 0) (eR (pv 1) (eR (pv 2) (eR (pv 3) eT))))))
  (eZ (gK (pv 0) (pv 4) rfl))),?_⟩
 refine⟨_,rfl,_,rfl,_,rfl,_,rfl,x,_,dx,a,p,sl,rfl,hx,T.c7.cl,T.n7at,T.n7place,T.n7slot,?_⟩
 refine⟨_,rfl,_,rfl,x,_,dx,_,rfl,eS,T.c7.cl,T.n7out,(by show 3<1000;decide),?_⟩
 rw[gv,zc "out" a p sl y fW fW fW]
 exact q
def pQ (C:Addr):Sp:=fun vs H Q _=>X6 fun(x dx:Addr) (s f a p:V)=>Y3 (vs=[.ref x,s,f,a,p]) (H x=some (.ins C dx [])) (Q .non (upd H x (.ins C dx (fM s f a p))))
theorem pR (T:Txt K mg):MO P w base mg 1 T.e54 (pQ T.c1.a):=by
 refine T.e54.F.rd pP fun cdv A outer s H vs Q E hr h=>?_
 obtain⟨x,dx,sh,f,a,p,rfl,hx,q⟩:=h
 refine⟨_,(eU (gK (pv 0) (pv 1) rfl)
  (eU (gK (pv 0) (pv 2) rfl)
  (eU (gK (pv 0) (pv 3) rfl)
  (eZ (gK (pv 0) (pv 4) rfl))))),?_⟩
 refine⟨_,rfl,_,rfl,x,_,dx,[],rfl,hx,T.c1.cl,T.n1shape,(by show 0<1000;decide),?_⟩
 refine⟨_,rfl,_,rfl,x,_,dx,_,rfl,eS,T.c1.cl,T.n1parts,(by show 1<1000;decide),?_⟩
 refine⟨_,rfl,_,rfl,x,_,dx,_,rfl,eS,T.c1.cl,T.n1at,g0 (g0 (by show 0<998;decide)),?_⟩
 refine⟨_,rfl,_,rfl,x,_,dx,_,rfl,eS,T.c1.cl,T.n1place,g0 (g0 (g0 (by show 0<997;decide))),?_⟩
 rw[gv,gv,gv,GI]
 exact q
def ur (C:Addr):Sp:=fun vs H Q _=>X6 fun(x dx:Addr) (s1 f1 a1 p1:V)=>Y3 (vs=[.ref x]) (H x=some (.ins C dx (fM s1 f1 a1 p1))) (∀t,H t=none->Q (.ref t) (upd H t (.tup [s1,f1,a1,p1])))
theorem uu (T:Txt K mg):MO P w base mg 1 T.e55 (ur T.c1.a):=by
 refine T.e55.F.rd ui fun cdv A outer s H vs Q E hr h=>?_
 obtain⟨x,dx,s1,f1,a1,p1,rfl,hx,q⟩:=h
 refine⟨_,(eZ (fz (fC (eR (gE (pv 0) rfl) (eR (gE (pv 0) rfl) (eR (gE (pv 0) rfl) (eR (gE (pv 0) rfl) eT))))))),?_⟩
 exact⟨_,rfl,x,_,dx,_,_,rfl,hx,T.c1.cl,T.n1shape,AO _ _ _ _,_,rfl,x,_,dx,_,_,rfl,hx,T.c1.cl,T.n1parts,AQ _ _ _ _,_,rfl,x,_,dx,_,_,rfl,hx,T.c1.cl,T.n1at,GK _ _ _ _,_,rfl,x,_,dx,_,_,rfl,hx,T.c1.cl,T.n1place,AR _ _ _ _,Ai,fun t ht=>q t ht⟩
def rq (C:Addr):Sp:=fun vs H Q _=>X5 fun(x dx:Addr) (a1 p1 s1:V)=>Y3 (vs=[.ref x]) (H x=some (.ins C dx (fU a1 p1 s1))) (∀t,H t=none->Q (.ref t) (upd H t (.tup [.str "num",a1,p1,s1])))
theorem rA (T:Txt K mg):MO P w base mg 1 T.e57 (rq T.c3.a):=by
 refine T.e57.F.rd rl fun cdv A outer s H vs Q E hr h=>?_
 obtain⟨x,dx,a1,p1,s1,rfl,hx,q⟩:=h
 refine⟨_,(eZ (fz (fC (eR fF (eR (gE (pv 0) rfl) (eR (gE (pv 0) rfl) (eR (gE (pv 0) rfl) eT))))))),?_⟩
 exact⟨_,rfl,x,_,dx,_,_,rfl,hx,T.c3.cl,T.n3at,GJ _ _ _,_,rfl,x,_,dx,_,_,rfl,hx,T.c3.cl,T.n3place,AM _ _ _,_,rfl,x,_,dx,_,_,rfl,hx,T.c3.cl,T.n3slot,CU _ _ _,Ai,fun t ht=>q t ht⟩
def qM (C:Addr):Sp:=fun vs H Q _=>X7 fun(x dx:Addr) (a1 p1 s1 x1 y1:V)=>Y3 (vs=[.ref x]) (H x=some (.ins C dx (fU2 a1 p1 s1 x1 y1))) (∀t,H t=none->Q (.ref t) (upd H t (.tup [.str "call",a1,p1,s1,x1,y1])))
theorem qN (T:Txt K mg):MO P w base mg 1 T.e59 (qM T.c4.a):=by
 refine T.e59.F.rd qG fun cdv A outer s H vs Q E hr h=>?_
 obtain⟨x,dx,a1,p1,s1,x1,y1,rfl,hx,q⟩:=h
 refine⟨_,(eZ (fz (fC (eR fF (eR (gE (pv 0) rfl) (eR (gE (pv 0) rfl) (eR (gE (pv 0) rfl) (eR (gE (pv 0) rfl) (eR (gE (pv 0) rfl) eT))))))))),?_⟩
 exact⟨_,rfl,x,_,dx,_,_,rfl,hx,T.c4.cl,T.n4at,EN _ _ _ _ _,_,rfl,x,_,dx,_,_,rfl,hx,T.c4.cl,T.n4place,zd _ _ _ _ _,_,rfl,x,_,dx,_,_,rfl,hx,T.c4.cl,T.n4slot,AN _ _ _ _ _,_,rfl,x,_,dx,_,_,rfl,hx,T.c4.cl,T.n4arg,CV _ _ _ _ _,_,rfl,x,_,dx,_,_,rfl,hx,T.c4.cl,T.n4out,CW _ _ _ _ _,FW,fun t ht=>q t ht⟩
def qO (C:Addr):Sp:=fun vs H Q _=>X6 fun(x dx:Addr) (a1 p1 s1 x1:V)=>Y3 (vs=[.ref x]) (H x=some (.ins C dx (fU1 "fields" a1 p1 s1 x1))) (∀t,H t=none->Q (.ref t) (upd H t (.tup [.str "take",a1,p1,s1,x1])))
theorem qP (T:Txt K mg):MO P w base mg 1 T.e61 (qO T.c5.a):=by
 refine T.e61.F.rd qH fun cdv A outer s H vs Q E hr h=>?_
 obtain⟨x,dx,a1,p1,s1,x1,rfl,hx,q⟩:=h
 refine⟨_,(eZ (fz (fC (eR fF (eR (gE (pv 0) rfl) (eR (gE (pv 0) rfl) (eR (gE (pv 0) rfl) (eR (gE (pv 0) rfl) eT)))))))),?_⟩
 exact⟨_,rfl,x,_,dx,_,_,rfl,hx,T.c5.cl,T.n5at,CY _ _ _ _,_,rfl,x,_,dx,_,_,rfl,hx,T.c5.cl,T.n5place,xC _ _ _ _,_,rfl,x,_,dx,_,_,rfl,hx,T.c5.cl,T.n5slot,zf _ _ _ _,_,rfl,x,_,dx,_,_,rfl,hx,T.c5.cl,T.n5fields,vm _ _ _ _,FJ,fun t ht=>q t ht⟩
def qQ (C:Addr):Sp:=fun vs H Q _=>X6 fun(x dx:Addr) (a1 p1 s1 x1:V)=>Y3 (vs=[.ref x]) (H x=some (.ins C dx (fU1 "arms" a1 p1 s1 x1))) (∀t,H t=none->Q (.ref t) (upd H t (.tup [.str "case",a1,p1,s1,x1])))
theorem qR (T:Txt K mg):MO P w base mg 1 T.e63 (qQ T.c6.a):=by
 refine T.e63.F.rd qI fun cdv A outer s H vs Q E hr h=>?_
 obtain⟨x,dx,a1,p1,s1,x1,rfl,hx,q⟩:=h
 refine⟨_,(eZ (fz (fC (eR fF (eR (gE (pv 0) rfl) (eR (gE (pv 0) rfl) (eR (gE (pv 0) rfl) (eR (gE (pv 0) rfl) eT)))))))),?_⟩
 exact⟨_,rfl,x,_,dx,_,_,rfl,hx,T.c6.cl,T.n6at,CZ _ _ _ _,_,rfl,x,_,dx,_,_,rfl,hx,T.c6.cl,T.n6place,xD _ _ _ _,_,rfl,x,_,dx,_,_,rfl,hx,T.c6.cl,T.n6slot,zg _ _ _ _,_,rfl,x,_,dx,_,_,rfl,hx,T.c6.cl,T.n6arms,zh _ _ _ _,FJ,fun t ht=>q t ht⟩
def rB (C:Addr):Sp:=fun vs H Q _=>X6 fun(x dx:Addr) (a1 p1 s1 x1:V)=>Y3 (vs=[.ref x]) (H x=some (.ins C dx (fU1 "out" a1 p1 s1 x1))) (∀t,H t=none->Q (.ref t) (upd H t (.tup [.str "row",a1,p1,s1,x1])))
theorem rC (T:Txt K mg):MO P w base mg 1 T.e65 (rB T.c7.a):=by
 refine T.e65.F.rd rm fun cdv A outer s H vs Q E hr h=>?_
 obtain⟨x,dx,a1,p1,s1,x1,rfl,hx,q⟩:=h
 refine⟨_,(eZ (fz (fC (eR fF (eR (gE (pv 0) rfl) (eR (gE (pv 0) rfl) (eR (gE (pv 0) rfl) (eR (gE (pv 0) rfl) eT)))))))),?_⟩
 exact⟨_,rfl,x,_,dx,_,_,rfl,hx,T.c7.cl,T.n7at,Dc _ _ _ _,_,rfl,x,_,dx,_,_,rfl,hx,T.c7.cl,T.n7place,xE _ _ _ _,_,rfl,x,_,dx,_,_,rfl,hx,T.c7.cl,T.n7slot,zi _ _ _ _,_,rfl,x,_,dx,_,_,rfl,hx,T.c7.cl,T.n7out,AS _ _ _ _,FJ,fun t ht=>q t ht⟩
theorem jb {H:Hp} {x dx:Addr} {o:HO} (hx:H x=none) (hd:H dx=none):fE H (upd (upd H dx (.own x)) x o):=fun b u e=>by
 rw[eX (fe e hx),eX (fe e hd)];exact e
theorem AU (p0 p1 p2 p3:Addr) (r v:V):ji "root" v (fB p0 p1 p2 p3 r)=fB p0 p1 p2 p3 v:=by
 have h1:¬("points":Str)="root":=fW
 have h2:¬("makes":Str)="root":=fW
 have h3:¬("uses":Str)="root":=fW
 have h4:¬("flows":Str)="root":=fW
 simp only[ji,fB,fO h1,fO h2,fO h3,fO h4,f6]
theorem GL (p0 p1 p2 p3:Addr) (r:V):ji "root" r (ji "flows" (.ref p3) (ji "uses" (.ref p2) (ji "makes" (.ref p1) (ji "points" (.ref p0) []))))=fB p0 p1 p2 p3 r:=by
 have h1:¬("points":Str)="root":=fW
 have h2:¬("makes":Str)="root":=fW
 have h3:¬("uses":Str)="root":=fW
 have h4:¬("flows":Str)="root":=fW
 have h5:¬("points":Str)="flows":=fW
 have h6:¬("makes":Str)="flows":=fW
 have h7:¬("uses":Str)="flows":=fW
 have h8:¬("points":Str)="uses":=fW
 have h9:¬("makes":Str)="uses":=fW
 have h10:¬("points":Str)="makes":=fW
 simp only[ji,fB,fO h1,fO h2,fO h3,fO h4,fO h5,fO h6,fO h7,fO h8,fO h9,fO h10]
def oW (C:Addr):Sp:=fun vs H Q _=>X2 fun(x dx:Addr)=>Y3 (vs=[.ref x]) (H x=some (.ins C dx [])) (∀(p0 p1 p2 p3:Addr) (H':Hp),(∀a∈[p0,p1,p2,p3],H a=none)->[p0,p1,p2,p3].Nodup->H' x=some (.ins C dx (fB p0 p1 p2 p3 (.int 0)))->Ls H' [p0,p1,p2,p3] [[],[],[],[]]->(∀b o,H b=some o->b≠x->H' b=some o)->Q .non H')
theorem oX (T:Txt K mg):MO P w base mg 1 T.e66 (oW T.c8.a):=by
 refine T.e66.F.rd oV fun cdv A outer s H vs Q E hr h=>?_
 obtain⟨x,dx,rfl,hx,q⟩:=h
 refine⟨_,(eU (gK (pv 0) (fH eT) rfl)
  (eU (gK (pv 0) (fH eT) rfl)
  (eU (gK (pv 0) (fH eT) rfl)
  (eU (gK (pv 0) (fH eT) rfl)
  (eZ (gK (pv 0) eV rfl)))))),?_⟩
 have z0:(0:Nat)<=sizeLine:=by decide
 refine⟨z0,fun p0 h0=>⟨_,rfl,x,_,dx,_,rfl,(by rw[eX (fe hx h0)];exact hx),T.c8.cl,T.n8points,(by show 0<1000;decide),?_⟩⟩
 refine⟨z0,fun p1 h1=>⟨_,rfl,x,_,dx,_,rfl,(by rw[eX (fe eS h1)];exact eS),T.c8.cl,T.n8makes,(by show 1<1000;decide),?_⟩⟩
 refine⟨z0,fun p2 h2=>⟨_,rfl,x,_,dx,_,rfl,(by rw[eX (fe eS h2)];exact eS),T.c8.cl,T.n8uses,g0 (g0 (by show 0<998;decide)),?_⟩⟩
 refine⟨z0,fun p3 h3=>⟨_,rfl,x,_,dx,_,rfl,(by rw[eX (fe eS h3)];exact eS),T.c8.cl,T.n8flows,g0 (g0 (g0 (by show 0<997;decide))),?_⟩⟩
 refine⟨_,rfl,x,_,dx,_,rfl,eS,T.c8.cl,T.n8root,g0 (g0 (g0 (g0 (by show 0<996;decide)))),?_⟩
 have n0:x≠p0:=fe hx h0
 have n1:x≠p1:=fe eS h1
 have n2:x≠p2:=fe eS h2
 have n3:x≠p3:=fe eS h3
 have d10:p0≠p1:=fe (by rw[eX (Ne.symm n0)];exact eS) h1
 have d20:p0≠p2:=fe (by rw[eX (Ne.symm n0),eX d10,eX (Ne.symm n0)];exact eS) h2
 have d21:p1≠p2:=fe (by rw[eX (Ne.symm n1)];exact eS) h2
 have d30:p0≠p3:=fe (by rw[eX (Ne.symm n0),eX d20,eX (Ne.symm n0),eX d10,eX (Ne.symm n0)];exact eS) h3
 have d31:p1≠p3:=fe (by rw[eX (Ne.symm n1),eX d21,eX (Ne.symm n1)];exact eS) h3
 have d32:p2≠p3:=fe (by rw[eX (Ne.symm n2)];exact eS) h3
 rw[eX (Ne.symm n1),eX (Ne.symm d10)]at h1
 rw[eX (Ne.symm n2),eX (Ne.symm d21),eX (Ne.symm n2),eX (Ne.symm d20)]at h2
 rw[eX (Ne.symm n3),eX (Ne.symm d32),eX (Ne.symm n3),eX (Ne.symm d31),eX (Ne.symm n3),eX (Ne.symm d30)]at h3
 refine q p0 p1 p2 p3 _ ?_ ?_ ?_ ?_ ?_
 ·intro a ha
  simp only[ak,bh,or_false]at ha
  rcases ha with e|e|e|e<;>rw[e]<;>assumption
 ·simp only[aE,ak,bh,or_false,not_or]
  exact⟨⟨d10,d20,d30⟩,⟨d21,d31⟩,d32,fun z=>z,List.nodup_nil⟩
 ·rw[eS,GL]
 ·refine .cons ?_ (.cons ?_ (.cons ?_ (.cons ?_ .nil)))
  ·rw[eX (Ne.symm n0),eX (Ne.symm n0),eX d30,eX (Ne.symm n0),eX d20,eX (Ne.symm n0),eX d10,eX (Ne.symm n0)];exact eS
  ·rw[eX (Ne.symm n1),eX (Ne.symm n1),eX d31,eX (Ne.symm n1),eX d21,eX (Ne.symm n1)];exact eS
  ·rw[eX (Ne.symm n2),eX (Ne.symm n2),eX d32,eX (Ne.symm n2)];exact eS
  ·rw[eX (Ne.symm n3),eX (Ne.symm n3)];exact eS
 ·intro b o e hb
  rw[eX hb,eX hb,eX (fe e h3),eX hb,eX (fe e h2),eX hb,eX (fe e h1),eX hb,eX (fe e h0)]
  exact e
def kz (C:Addr):Sp:=fun vs H Q _=>X9 fun(x dx p0 p1 p2 p3:Addr) (r v:V) (xs:List V)=>Y5 (vs=[.ref x,v]) (H x=some (.ins C dx (fB p0 p1 p2 p3 r))) (H p0=some (.lst xs)) (xs.length<sizeLine) (Q (.int xs.length) (upd H p0 (.lst (xs++[v]))))
theorem gA (T:Txt K mg):MO P w base mg 1 T.e67 (kz T.c8.a):=by
 refine T.e67.F.rd rp fun cdv A outer s H vs Q E hr h=>?_
 obtain⟨x,dx,p0,p1,p2,p3,r,v,xs,rfl,hx,h0,hl,q⟩:=h
 refine⟨_,(eU (fA (lO dO dP dQ f9 (gE (pv 0) rfl) (eR (pv 1) eT)))
  (eZ (fz (fq Bl (fS fX rfl T.z_len jB (eR (gE (pv 0) rfl) eT)) eV)))),?_⟩
 refine⟨_,rfl,x,_,dx,_,_,rfl,hx,T.c8.cl,T.n8points,qK _ _ _ _ _,.inl ⟨rfl,_,SqL.of h0⟩,_,rfl,p0,_,_,rfl,rfl,h0,hl,?_⟩
 have hx2:(upd H p0 (.lst (xs++[v]))) x=some (.ins T.c8.a dx (fB p0 p1 p2 p3 r)):=by rw[eX (jw hx h0 (fun z=>nomatch z))];exact hx
 refine⟨_,rfl,x,_,dx,_,_,rfl,hx2,T.c8.cl,T.n8points,qK _ _ _ _ _,p0,_,rfl,.inl (SqL.of eS),_,_,rfl,rfl,?_⟩
 show Q (V.int (((xs++[v]).length:Int)-1)) _
 rw[aO,show(((xs.length+[v].length:Nat):Int)-1)=(xs.length:Int) by simp]
 exact q
def kW (C M:Addr):Sp:=fun vs H Q _=>X12 fun(x dx p0 p1 p2 p3:Addr) (r s f a p:V) (xs:List V)=>Y5 (vs=[.ref x,s,f,a,p]) (H x=some (.ins C dx (fB p0 p1 p2 p3 r))) (H p1=some (.lst xs)) (xs.length<sizeLine) (∀m dm,H m=none->H dm=none->Q .non (upd (upd (upd H dm (.own m)) m (.ins M dm (fM s f a p))) p1 (.lst (xs++[.ref m]))))
theorem gy (T:Txt K mg):MO P w base mg 3 T.e68 (kW T.c8.a T.c1.a):=by
 have gE54:=pR (P:=P) (w:=w) (base:=base) T
 refine T.e68.F.rd sQ fun cdv A outer s H vs Q E hr h=>?_
 obtain⟨x,dx,p0,p1,p2,p3,r,sh,f,a,p,xs,rfl,hx,h0,hl,q⟩:=h
 refine⟨_,(eZ (fA (lO dO dP dQ f9 (gE (pv 0) rfl) (eR (jk T.mk1 gE54 hr.m rfl T.c1.m T.e54.b .nil fK (eR (pv 1) (eR (pv 2) (eR (pv 3) (eR (pv 4) eT))))) eT)))),?_⟩
 refine⟨_,rfl,x,_,dx,_,_,rfl,hx,T.c8.cl,T.n8makes,wb _ _ _ _ _,.inl ⟨rfl,_,SqL.of h0⟩,_,rfl,_,rfl,_,rfl,_,rfl,fun m dm hm hdm nm=>?_⟩
 refine⟨m,dm,_,_,_,_,rfl,eS,rfl,?_⟩
 rw[gv]
 have h1:(upd (upd H dm (.own m)) m (.ins T.c1.a dm (fM sh f a p))) p1=some (.lst xs):=jb hm hdm _ _ h0
 exact⟨p1,_,_,rfl,rfl,h1,hl,q m dm hm hdm⟩
def ml (C:Addr):Sp:=fun vs H Q _=>X9 fun(x dx p0 p1 p2 p3:Addr) (r v:V) (xs:List V)=>Y5 (vs=[.ref x,v]) (H x=some (.ins C dx (fB p0 p1 p2 p3 r))) (H p2=some (.lst xs)) (xs.length<sizeLine) (Q .non (upd H p2 (.lst (xs++[v]))))
theorem hG (T:Txt K mg):MO P w base mg 1 T.e69 (ml T.c8.a):=by
 refine T.e69.F.rd uj fun cdv A outer s H vs Q E hr h=>?_
 obtain⟨x,dx,p0,p1,p2,p3,r,v,xs,rfl,hx,h0,hl,q⟩:=h
 refine⟨_,(eZ (fA (lO dO dP dQ f9 (gE (pv 0) rfl) (eR (pv 1) eT)))),?_⟩
 exact⟨_,rfl,x,_,dx,_,_,rfl,hx,T.c8.cl,T.n8uses,ze _ _ _ _ _,.inl ⟨rfl,_,SqL.of h0⟩,_,rfl,p2,_,_,rfl,rfl,h0,hl,q⟩
def nZ (C:Addr):Sp:=fun vs H Q _=>X10 fun(x dx p0 p1 p2 p3:Addr) (r v u:V) (xs:List V)=>Y5 (vs=[.ref x,v,u]) (H x=some (.ins C dx (fB p0 p1 p2 p3 r))) (H p3=some (.lst xs)) (xs.length<sizeLine) (∀t,H t=none->Q .non (upd (upd H t (.tup [v,u])) p3 (.lst (xs++[.ref t]))))
theorem ie (T:Txt K mg):MO P w base mg 1 T.e70 (nZ T.c8.a):=by
 refine T.e70.F.rd sR fun cdv A outer s H vs Q E hr h=>?_
 obtain⟨x,dx,p0,p1,p2,p3,r,v,u,xs,rfl,hx,h0,hl,q⟩:=h
 refine⟨_,(eZ (fA (lO dO dP dQ f9 (gE (pv 0) rfl) (eR (fC (eR (pv 1) (eR (pv 2) eT))) eT)))),?_⟩
 refine⟨_,rfl,x,_,dx,_,_,rfl,hx,T.c8.cl,T.n8flows,wg _ _ _ _ _,.inl ⟨rfl,_,SqL.of h0⟩,_,rfl,_,rfl,lI,fun t ht=>?_⟩
 exact⟨p3,_,_,rfl,rfl,eW ht _ _ _ h0,hl,q t ht⟩
def qS (C:Addr):Sp:=fun vs H Q _=>X8 fun(x dx p0 p1 p2 p3:Addr) (r v:V)=>Y3 (vs=[.ref x,v]) (H x=some (.ins C dx (fB p0 p1 p2 p3 r))) (Q .non (upd H x (.ins C dx (fB p0 p1 p2 p3 v))))
theorem qT (T:Txt K mg):MO P w base mg 1 T.e71 (qS T.c8.a):=by
 refine T.e71.F.rd qJ fun cdv A outer s H vs Q E hr h=>?_
 obtain⟨x,dx,p0,p1,p2,p3,r,v,rfl,hx,q⟩:=h
 refine⟨_,(eZ (gK (pv 0) (pv 1) rfl)),?_⟩
 refine⟨_,rfl,_,rfl,x,_,dx,_,rfl,hx,T.c8.cl,T.n8root,(by show 5<1000;decide),?_⟩
 rw[AU]
 exact q
abbrev Hm:=Str×Int
def hmD (h:Hm):Dt:= .tup [.flat (.str h.1),.flat (.int h.2)]
inductive Ro
 |num (n:Int)
 |name (w:Str)
 |fn (w:Str) (k:Int)
 |tag (w:Str) (k:Int)
 |lt (w:Str) (a b:Int)
 |get (k:Int) (w:Str)
 |rcd (l:List (Str×Int))
 |case (k:Int) (l:List (Str×Str×Int))
 |row (ks:List Int)
 |op (s:Str) (ks:List Int)
def kD (k:Int):Dt:= .flat (.int k)
def sD (s:Str):Dt:= .flat (.str s)
def fdD (p:Str×Int):Dt:= .tup [sD p.1,kD p.2]
def amD (p:Str×Str×Int):Dt:= .tup [sD p.1,sD p.2.1,kD p.2.2]
def Ro.s:Ro->Str
 | .num _=>"num"
 | .name _=>"name"
 | .fn _ _=>"fn"
 | .tag _ _=>"tag"
 | .lt _ _ _=>"let"
 | .get _ _=>"get"
 | .rcd _=>"rec"
 | .case _ _=>"case"
 | .row _=>"row"
 | .op s _=>s
def Ro.r:Ro->List Dt
 | .num n=>[kD n]
 | .name w=>[sD w]
 | .fn w k=>[sD w,kD k]
 | .tag w k=>[sD w,kD k]
 | .lt w a b=>[sD w,kD a,kD b]
 | .get k w=>[kD k,sD w]
 | .rcd l=>[.tup (l.map fdD)]
 | .case k l=>[kD k,.tup (l.map amD)]
 | .row ks=>[.tup (ks.map kD)]
 | .op _ ks=>ks.map kD
def Ro.d (ρ:Ro):Dt:= .tup (sD ρ.s::ρ.r)
def atZ {α:Type} (l:List α):Int->Option α
 | .ofNat k=>l[k]?
 | .negSucc _=>none
structure Ls where
 D:Bd
 held:Int->Option Int
 st:Int->Option Int
def Ls.n (s:Ls):Int:=(s.D.pts.length:Int)
def Ls.pt (s:Ls) (p:Int):Ls:={s with D:={s.D with pts:=s.D.pts++[p]}}
def Ls.mk' (s:Ls) (m:Mkg):Ls:={s with D:={s.D with mks:=s.D.mks++[m]}}
def Ls.us (s:Ls) (u:Us):Ls:={s with D:={s.D with uss:=s.D.uss++[u]}}
def Ls.fl (s:Ls) (p q:Int):Ls:={s with D:={s.D with fls:=s.D.fls++[(p,q)]}}
def put (h:Int->Option Int) (k v:Int):Int->Option Int:=fun x=>if x=k then some v else h x
def Ls.hold (s:Ls) (k v:Int):Ls:={s with held:=put s.held k v}
def Ls.begin (s:Ls) (k v:Int):Ls:={s with st:=put s.st k v}
abbrev Lf:=Int->Ls->Option (Int×Ls)
def wj (L:Lf):List (Str×Int)->List (Str×Int)->Ls->Option (List (Str×Int)×Ls)
 |[],acc,s=>some (acc,s)
 |p::l,acc,s=>match L p.2 s with
  |some (q,s)=>wj L l (acc++[(p.1,q)]) s
  |none=>none
def xF (L:Lf) (p own:Int):List (Str×Str×Int)->List (Str×Int)->Ls->Option (List (Str×Int)×Ls)
 |[],acc,s=>some (acc,s)
 |a::l,acc,s=>match L a.2.2 ((s.pt p).hold a.2.2 s.n)with
  |some (q,s')=>xF L p own l (acc++[(a.1,s.n)]) (s'.fl q own)
  |none=>none
def xV (L:Lf) (th:Int):List Int->Ls->Option Ls
 |[],s=>some s
 |k::l,s=>match L k s with
  |some (q,s)=>xV L th l (s.fl q th)
  |none=>none
def uZ (L:Lf) (roots:List Nat) (d:Int) (s:Ls):Option (Int×Ls):=match atZ roots d with
 |some r=>match L (r:Int) ((s.pt r).begin d s.n)with
  |some (q,s')=>some (s.n,s'.fl q s.n)
  |none=>none
 |none=>none
def inF (roots:List Nat) (p d:Int):Bool:=match atZ roots (d+ 1)with
 |some r=>decide (p<(r:Int))
 |none=>true
def jj (L:Lf) (roots:List Nat) (h:Hm) (p:Int) (s:Ls):Option (Int×Ls):=
 if h.1="let" then L h.2 s
 else if h.1="def" then if inF roots p h.2 then(s.st h.2).map fun q=>(q,s)else uZ L roots h.2 s
 else(s.held h.2).map fun q=>(q,s)
def mC (L:Lf) (a b p:Int) (s:Ls):Option Ls:=match L a s with
 |some (x,s)=>match L b s with
  |some (y,s)=>some ((s.us (.num x p 0)).us (.num y p 1))
  |none=>none
 |none=>none
def mkN (own p:Int):Mkg:=⟨"num",.tup [],own,p⟩
def mkR (th own p:Int):Mkg:=⟨"row",.tup [kD th],own,p⟩
def iF (L:Lf) (roots:List Nat) (ho:Option Hm) (p own:Int) (s:Ls):Ro->Option Ls
 | .num _=>some (s.mk' (mkN own p))
 | .name _=>match ho with
  |some h=>match jj L roots h p s with
   |some (q,s)=>some (s.fl q own)
   |none=>none
  |none=>none
 | .fn _ k=>match L k ((s.pt p).hold k s.n)with
  |some (q,s')=>some (s'.mk' ⟨"fn",.tup [kD s.n,kD q],own,p⟩)
  |none=>none
 | .lt _ a b=>match L a s with
  |some (_,s)=>match L b s with
   |some (q,s)=>some (s.fl q own)
   |none=>none
  |none=>none
 | .rcd l=>match wj L l [] s with
  |some (fs,s)=>some (s.mk' ⟨"rec",prD fs,own,p⟩)
  |none=>none
 | .get k w=>match L k s with
  |some (q,s)=>some (s.us (.take q p 0 [(w,own)]))
  |none=>none
 | .tag w k=>match L k s with
  |some (q,s)=>some (s.mk' ⟨"tag",.tup [sD w,kD q],own,p⟩)
  |none=>none
 | .case k l=>match L k s with
  |some (q,s)=>match xF L p own l [] s with
   |some (as,s)=>some (s.us (.case q p 0 as))
   |none=>none
  |none=>none
 | .row ks=>match xV L s.n ks (s.pt p)with
  |some s'=>some (s'.mk' (mkR s.n own p))
  |none=>none
 | .op o ks=>match ks with
  |[a]=>if o="size" then match L a (s.pt p)with
    |some (q,s')=>some ((s'.us (.row q p 0 s.n)).mk' (mkN own p))
    |none=>none
   else none
  |[a,b]=>if o="call" then match L a s with
    |some (x,s)=>match L b s with
     |some (y,s)=>some (s.us (.call x p 0 y own))
     |none=>none
    |none=>none
   else if o="join" then match L a (s.pt p)with
    |some (x,s1)=>match L b s1 with
     |some (y,s2)=>some (((s2.us (.row x p 0 s.n)).us (.row y p 1 s.n)).mk' (mkR s.n own p))
     |none=>none
    |none=>none
   else if o="less" then match mC L a b p (s.pt p)with
    |some s'=>some (((s'.mk' ⟨"rec",.tup [],s.n,p⟩).mk' ⟨"tag",.tup [sD "yes",kD s.n],own,p⟩).mk' ⟨"tag",.tup [sD "no",kD s.n],own,p⟩)
    |none=>none
   else if o="add"\/o="sub" then match mC L a b p s with
    |some s'=>some (s'.mk' (mkN own p))
    |none=>none
   else none
  |[a,b,c]=>if o="at" then match L a s with
    |some (x,s)=>match L b s with
     |some (y,s)=>match L c s with
      |some (z,s)=>some (((s.us (.row x p 0 own)).us (.num y p 1)).fl z own)
      |none=>none
     |none=>none
    |none=>none
   else none
  |_=>none
def iL (ρs:List Ro) (roots:List Nat) (ho:Nat->Option Hm):Nat->Lf
 |0,_,_=>none
 |f+ 1,p,s=>match atZ ρs p with
  |some ρ=>match iF (iL ρs roots ho f) roots (ho p.toNat) p s.n (s.pt p) ρ with
   |some s'=>some (s.n,s')
   |none=>none
  |none=>none
def fLy (p h b hd sd:Addr):List (Str×V):=[("program",.ref p),("homes",.ref h),("papers",.non),("board",.ref b),("held",.ref hd),("starts",.ref sd)]
theorem oY {p h b hd sd:Addr}:(fLy p h b hd sd).lookup ("program":Str)=some (.ref p)/\(fLy p h b hd sd).lookup ("homes":Str)=some (.ref h)/\(fLy p h b hd sd).lookup ("papers":Str)=some .non/\(fLy p h b hd sd).lookup ("board":Str)=some (.ref b)/\(fLy p h b hd sd).lookup ("held":Str)=some (.ref hd)/\(fLy p h b hd sd).lookup ("starts":Str)=some (.ref sd):=⟨by kernel_rfl,by kernel_rfl,by kernel_rfl,by kernel_rfl,by kernel_rfl,by kernel_rfl⟩
theorem hV {p h b hd sd:Addr} {n:Str} (hn:((["program","homes","papers","board","held","starts"]:List Str).all fun x=>!(n==x))=true):(fLy p h b hd sd).lookup n=none:=by
 simp only[aZ,List.all_nil,Bool.and_true,dX,Bool.not_eq_true']at hn
 obtain⟨h1,h2,h3,h4,h5,h6⟩:=hn
 simp only[fLy,aX,h1,h2,h3,h4,h5,h6,List.lookup_nil]
def DkI (H:Hp) (a:Addr) (g:Int->Option Int) (n:Nat):Prop:=∃kvs:List (Key×V),H a=some (.dK kvs)/\kvs.length<=n/\∀k:Int,lK kvs (Sum.inl k)=(g k).map V.int
structure La where
 l:Addr
 lx:Addr
 p:Addr
 h:Addr
 B:Ad
 hd:Addr
 sd:Addr
def La.ch (A:La):List Addr:=A.B.ls++[A.hd,A.sd]
structure Lm (CL:Addr) (c:Cs) (H:Hp) (A:La) (s:Ls):Prop where
 o:H A.l=some (.ins CL A.lx (fLy A.p A.h A.B.b A.hd A.sd))
 b:Bw c H A.B (.int 0) s.D
 hd:DkI H A.hd s.held s.D.pts.length
 sd:DkI H A.sd s.st s.D.pts.length
 ne:A.hd≠A.sd
def FL (A:La) (H H':Hp):Prop:=∀a o,H a=some o->a∉A.ch->H' a=some o
theorem FL.refl {A:La} {H:Hp}:FL A H H:=fun _ _ e _=>e
theorem FL.trans {A:La} {H H1 H2:Hp} (f:FL A H H1) (g:FL A H1 H2):FL A H H2:=fun a o e n=>g a o (f a o e n) n
theorem FL.same {A:La} {H H':Hp} (S:fE H H'):FL A H H':=fun a o e _=>S a o e
structure Sz (n:Nat) (s:Ls):Prop where
 p:s.D.pts.length<=n
 m:s.D.mks.length<=n
 u:s.D.uss.length<=n
 f:s.D.fls.length<=n
section
variable {CL:Addr} {c:Cs} {H H':Hp} {A:La} {s:Ls}
theorem Lm.ins (M:Lm CL c H A s) {a:Addr} {o:HO} (e:H a=some o) (hl:∀xs,o≠ .lst xs) (hk:∀kvs,o≠ .dK kvs):a∉A.ch:=fun z=>by
 obtain⟨_,b,⟨k1,d1,_⟩,⟨k2,d2,_⟩,_⟩:=M
 obtain⟨_,e0,⟨_,m1,_⟩,⟨_,u1,_⟩,⟨_,g1,_⟩,_⟩:=b
 simp only[La.ch,Ad.ls,aS,bz,ak,bh,or_false]at z
 rcases z with rfl|rfl|rfl|rfl|rfl|rfl
 ·rw[e0]at e;exact hl _ (cC.inj e).symm
 ·rw[m1]at e;exact hl _ (cC.inj e).symm
 ·rw[u1]at e;exact hl _ (cC.inj e).symm
 ·rw[g1]at e;exact hl _ (cC.inj e).symm
 ·rw[d1]at e;exact hk _ (cC.inj e).symm
 ·rw[d2]at e;exact hk _ (cC.inj e).symm
theorem Lm.tk (M:Lm CL c H A s) (F:FL A H H'):TK H H':=fun a xs e=>F a _ e (M.ins e (fun _ z=>nomatch z) fun _ z=>nomatch z)
theorem Lm.same (M:Lm CL c H A s) (S:fE H H'):Lm CL c H' A s:=by
 obtain⟨o,b,⟨k1,d1,r1⟩,⟨k2,d2,r2⟩,ne⟩:=M
 exact⟨S _ _ o,b.same S,⟨k1,S _ _ d1,r1⟩,⟨k2,S _ _ d2,r2⟩,ne⟩
theorem Lm.nl (M:Lm CL c H A s) {a:Addr} {xs:List V} {o:HO} (e:H a=some (.lst xs)):(upd H a o) A.l=some (.ins CL A.lx (fLy A.p A.h A.B.b A.hd A.sd))/\(∃kvs,(upd H a o) A.hd=some (.dK kvs)/\kvs.length<=s.D.pts.length/\∀k:Int,lK kvs (Sum.inl k)=(s.held k).map V.int)/\∃kvs,(upd H a o) A.sd=some (.dK kvs)/\kvs.length<=s.D.pts.length/\∀k:Int,lK kvs (Sum.inl k)=(s.st k).map V.int:=by
 obtain⟨oo,b,⟨k1,d1,r1⟩,⟨k2,d2,r2⟩,ne⟩:=M
 exact⟨by rw[eX (jw oo e (fun z=>nomatch z))];exact oo,⟨k1,by rw[eX (jw d1 e (fun z=>nomatch z))];exact d1,r1⟩,k2,by rw[eX (jw d2 e (fun z=>nomatch z))];exact d2,r2⟩
theorem xG {a:Addr} {o:HO} (h:a∈A.ch):FL A H (upd H a o):=fun b u e n=>by rw[eX (fun z=>n (by rw[z];exact h))];exact e
theorem wk {Q:VK} {p:Int} (M:Lm CL c H A s) (hb:s.D.pts.length<10000000) (q:∀H',Lm CL c H' A (s.pt p)->FL A H H'->DkI H' A.hd s.held s.D.pts.length->DkI H' A.sd s.st s.D.pts.length->Q (.int s.n) H'):kz c.B [.ref A.B.b,.int p] H Q E0:=by
 have sl:=sizeLine_eq
 obtain⟨n1,⟨k1,d1,l1,r1⟩,k2,d2,l2,r2⟩:=M.nl (o:= .lst (s.D.pts.map V.int++[.int p])) M.b.e0
 refine⟨_,_,_,_,_,_,_,_,_,rfl,M.b.b,M.b.e0,by rw[aC];lia,?_⟩
 rw[aC]
 have lp:(s.D.pts++[p]).length=s.D.pts.length+ 1:=by rw[aO];rfl
 exact q _ ⟨n1,M.b.pt p,⟨k1,d1,by show _<=(s.D.pts++[p]).length;lia,r1⟩,⟨k2,d2,by show _<=(s.D.pts++[p]).length;lia,r2⟩,M.ne⟩ (xG (by simp[La.ch,Ad.ls])) ⟨k1,d1,l1,r1⟩ ⟨k2,d2,l2,r2⟩
theorem zj {Q:VK} {p:Int} (M:Lm CL c H A s) (hb:s.D.pts.length<10000000) (q:∀H',Lm CL c H' A (s.pt p)->FL A H H'->Q (.int s.n) H'):kz c.B [.ref A.B.b,.int p] H Q E0:=wk M hb fun H' M' F' _ _=>q H' M' F'
theorem oZ {Q:VK} {p r:Int} (M:Lm CL c H A s) (hb:s.D.fls.length<10000000) (q:∀H',Lm CL c H' A (s.fl p r)->FL A H H'->Q .non H'):nZ c.B [.ref A.B.b,.int p,.int r] H Q E0:=by
 have sl:=sizeLine_eq
 obtain⟨fv,g1,g2⟩:=M.b.e3
 have lf:=g2.length
 rw[aC]at lf
 refine⟨_,_,_,_,_,_,_,_,_,fv,rfl,M.b.b,g1,by lia,fun t ht=>?_⟩
 have S1:=eW ht (.tup [.int p,.int r])
 have M1:=M.same S1
 have i1:Im (upd H t (.tup [.int p,.int r])) (.ref t) (flD (p,r)):= .tup eS (.cons (.flat rfl) (.cons (.flat rfl) .nil))
 obtain⟨n1,r1,r2⟩:=M1.nl (o:= .lst (fv++[.ref t])) (S1 _ _ g1)
 exact q _ ⟨n1,M1.b.fl (S1 _ _ g1) i1,r1,r2,M.ne⟩ ((FL.same S1).trans (xG (by simp[La.ch,Ad.ls])))
theorem EO {Q:VK} {x:V} {u:Us} (M:Lm CL c H A s) (hb:s.D.uss.length<10000000) (hu:ql c H x u) (q:∀H',Lm CL c H' A (s.us u)->FL A H H'->Q .non H'):ml c.B [.ref A.B.b,x] H Q E0:=by
 have sl:=sizeLine_eq
 obtain⟨uv,g1,g2⟩:=M.b.e2
 have lf:=g2.length
 obtain⟨n1,r1,r2⟩:=M.nl (o:= .lst (uv++[x])) g1
 exact⟨_,_,_,_,_,_,_,_,uv,rfl,M.b.b,g1,by lia,q _ ⟨n1,M.b.us g1 hu,r1,r2,M.ne⟩ (xG (by simp[La.ch,Ad.ls]))⟩
theorem De {Q:VK} {f:V} {m:Mkg} (M:Lm CL c H A s) (hb:s.D.mks.length<10000000) (hf:Im H f m.f) (hd:iE m.f<=2) (ho:okD m.f) (q:∀H',Lm CL c H' A (s.mk' m)->FL A H H'->Q .non H'):kW c.B c.M [.ref A.B.b,.str m.s,f,.int m.a,.int m.p] H Q E0:=by
 have sl:=sizeLine_eq
 obtain⟨mv,g1,g2⟩:=M.b.e1
 have lf:=g2.length
 refine⟨_,_,_,_,_,_,_,_,_,_,_,mv,rfl,M.b.b,g1,by lia,fun a da ha hda=>?_⟩
 have S1:fE H (upd (upd H da (.own a)) a (.ins c.M da (fM (.str m.s) f (.int m.a) (.int m.p)))):=jb ha hda
 have M1:=M.same S1
 have x1:sH c (upd (upd H da (.own a)) a (.ins c.M da (fM (.str m.s) f (.int m.a) (.int m.p)))) (.ref a) m:=⟨a,da,f,rfl,eS,hf.mono (fE.tk S1),hd,ho⟩
 obtain⟨n1,r1,r2⟩:=M1.nl (o:= .lst (mv++[.ref a])) (S1 _ _ g1)
 exact q _ ⟨n1,M1.b.addM (S1 _ _ g1) x1,r1,r2,M.ne⟩ ((FL.same S1).trans (xG (by simp[La.ch,Ad.ls])))
end
def sT:Ro->List Int
 | .fn _ k=>[k]
 | .tag _ k=>[k]
 | .lt _ a b=>[a,b]
 | .get k _=>[k]
 | .rcd l=>l.map fun x=>x.2
 | .case k l=>k::l.map fun x=>x.2.2
 | .row ks=>ks
 | .op _ ks=>ks
 |_=>[]
def bnd:Ro->List Int
 | .fn _ k=>[k]
 | .case _ l=>l.map fun x=>x.2.2
 |_=>[]
def rnV (g:Int->Int):V->V
 | .int k=> .int (g k)
 |v=>v
mutual
def rnD (g:Int->Int):Dt->Dt
 | .flat v=> .flat (rnV g v)
 | .tup l=> .tup (jZ g l)
 | .lst l=> .lst l
def jZ (g:Int->Int):List Dt->List Dt
 |[]=>[]
 |d::l=>rnD g d::jZ g l
end
def inV:V->List Int
 | .int k=>[k]
 |_=>[]
mutual
def inD:Dt->List Int
 | .flat v=>inV v
 | .tup l=>ER l
 | .lst _=>[]
def ER:List Dt->List Int
 |[]=>[]
 |d::l=>inD d++ER l
end
def rnP (g:Int->Int) (l:List (Str×Int)):List (Str×Int):=l.map fun x=>(x.1,g x.2)
theorem zk (g:Int->Int):∀l:List (Str×Int),jZ g (l.map prL)=(rnP g l).map prL
 |[]=>rfl
 |x::l=>by
  show rnD g (prL x)::jZ g (l.map prL)=_
  rw[zk g l]
  rfl
theorem zm (g:Int->Int) (l:List (Str×Int)):rnD g (prD l)=prD (rnP g l):=by
 show Dt.tup (jZ g (l.map prL))=_
 rw[zk]
 rfl
theorem zo {x:Int}:∀{l:List (Str×Int)},x∈ER (l.map prL)->∃y∈l,y.2=x
 |[],h=>by cases h
 |y::l,h=>by
  rcases ao.mp (show x∈inD (prL y)++ER (l.map prL)from h)with h|h
  ·exact⟨y,by simp,(ba.mp (show x∈[y.2]from h)).symm⟩
  ·obtain⟨z,h1,h2⟩:=zo h;exact⟨z,by simp[h1],h2⟩
def rnM (g:Int->Int) (m:Mkg):Mkg:=⟨m.s,rnD g m.f,g m.a,m.p⟩
def rnU (g:Int->Int):Us->Us
 | .num a p s=> .num (g a) p s
 | .call a p s x y=> .call (g a) p s (g x) (g y)
 | .take a p s l=> .take (g a) p s (rnP g l)
 | .case a p s l=> .case (g a) p s (rnP g l)
 | .row a p s x=> .row (g a) p s (g x)
def uA:Us->Int
 | .num a _ _=>a
 | .call a _ _ _ _=>a
 | .take a _ _ _=>a
 | .case a _ _ _=>a
 | .row a _ _ _=>a
def inU:Us->List Int
 | .num a _ _=>[a]
 | .call a _ _ x y=>[a,x,y]
 | .take a _ _ l=>a::l.map Prod.snd
 | .case a _ _ l=>a::l.map Prod.snd
 | .row a _ _ x=>[a,x]
def rnF (g:Int->Int) (x:Int×Int):Int×Int:=(g x.1,g x.2)
def frk:Ro->List Int
 | .tag _ k=>[k]
 | .lt _ a b=>[a,b]
 | .get k _=>[k]
 | .rcd l=>l.map fun x=>x.2
 | .case k _=>[k]
 | .row ks=>ks
 | .op _ ks=>ks
 |_=>[]
theorem je {ρ:Ro} {c:Int} (h:c∈frk ρ):c∈sT ρ:=by
 cases ρ with
 |case k l=>exact ak.mpr (.inl (ba.mp h))
 |name=>cases h
 |num=>cases h
 |fn=>cases h
 |_=>exact h
theorem kX {ρ:Ro} {c:Int} (h:c∈bnd ρ):c∈sT ρ:=by
 cases ρ with
 |case k l=>exact aj _ h
 |fn=>exact h
 |_=>cases h
theorem rZ (s:Ls) (p:Int):(s.pt p).n=s.n+ 1:=by
 show((s.D.pts++[p]).length:Int)=_
 rw[aO]
 rfl
inductive XG {γ:Type} (R:γ->Ls->Ls->Prop) (N:γ->Int->Int->Prop) (c:γ) (s s':Ls) (P:Ls->Prop) (A:γ->Prop):Prop
 |mk (c':γ) (t':Ls) (e:P t') (r:R c' s' t') (m:∀x,N c s.n x->N c' s'.n x) (a:A c')
inductive XK {γ:Type} (R:γ->Ls->Ls->Prop) (N:γ->Int->Int->Prop) (c:γ) (s:Ls) (P:Int->Ls->Prop) (S:Int->Ls->Prop) (A:γ->Ls->Int->Prop):Prop
 |mk (c':γ) (q:Int) (s' t':Ls) (e:P q t') (h:S q s') (r:R c' s' t') (m:∀x,N c s.n x->N c' s'.n x) (a:A c' s' q)
structure Gn {γ:Type} (g:Int->Int) (R:γ->Ls->Ls->Prop) (N:γ->Int->Int->Prop) (L M:Lf) (p:Int) (ρ:Ro):Prop where
 n:∀{c s t},R c s t->t.n=g s.n
 pt:∀{c s t},R c s t->R c (s.pt p) (t.pt p)/\(∀x,N c s.n x->N c (s.n+ 1) x)/\N c (s.n+ 1) s.n
 ma:∀{c s t} {m:Mkg},R c s t->N c s.n m.a->(∀x∈inD m.f,N c s.n x)->R c (s.mk' m) (t.mk' (rnM g m))
 us:∀{c s t} {u:Us},R c s t->(∀x∈inU u,N c s.n x)->R c (s.us u) (t.us (rnU g u))
 fl:∀{c s t x y},R c s t->N c s.n x->N c s.n y->R c (s.fl x y) (t.fl (g x) (g y))
 kid:∀{c s t k q s'},k∈frk ρ->R c s t->L k s=some (q,s')->XG R N c s s' (fun t'=>M k t=some (g q,t')) fun c'=>N c' s'.n q
 bnd:∀{c s t k q s'},k∈bnd ρ->R c s t->L k ((s.pt p).hold k s.n)=some (q,s')->XG R N c s s' (fun t'=>M k ((t.pt p).hold k t.n)=some (g q,t')) fun c'=>N c' s'.n q/\N c' s'.n s.n
section
variable {γ:Type} {g:Int->Int} {R:γ->Ls->Ls->Prop} {N:γ->Int->Int->Prop} {L M:Lf} {p:Int} {ρ:Ro} (G:Gn g R N L M p ρ)
include G
theorem Gn.pt' {c:γ} {s t:Ls} (r:R c s t):R c (s.pt p) (t.pt p)/\(∀x,N c s.n x->N c (s.pt p).n x)/\N c (s.pt p).n s.n:=by
 rw[rZ]
 exact G.pt r
theorem Gn.k {c:γ} {s t:Ls} {k:Int} (hk:k∈frk ρ) (r:R c s t) {α:Type} {h:Int->Ls->Option α} {a:α} (e:(match L k s with|some (q,s)=>h q s|none=>none)=some a):XK R N c s (fun q t'=>M k t=some (g q,t')) (fun q s'=>h q s'=some a) fun c' s' q=>N c' s'.n q:=by
 cases e1:L k s with
 |none=>rw[e1]at e;cases e
 |some z=>
  obtain⟨q,s'⟩:=z
  rw[e1]at e
  obtain⟨c',t',h1,h2,h3,h4⟩:=G.kid hk r e1
  exact⟨c',q,s',t',h1,e,h2,h3,h4⟩
theorem Gn.b {c:γ} {s t:Ls} {k:Int} (hk:k∈K24.Internal.bnd ρ) (r:R c s t) {α:Type} {h:Int->Ls->Option α} {a:α} (e:(match L k ((s.pt p).hold k s.n)with|some (q,s)=>h q s|none=>none)=some a):XK R N c s (fun q t'=>M k ((t.pt p).hold k t.n)=some (g q,t')) (fun q s'=>h q s'=some a) fun c' s' q=>N c' s'.n q/\N c' s'.n s.n:=by
 cases e1:L k ((s.pt p).hold k s.n)with
 |none=>rw[e1]at e;cases e
 |some z=>
  obtain⟨q,s'⟩:=z
  rw[e1]at e
  obtain⟨c',t',h1,h2,h3,h4⟩:=G.bnd hk r e1
  exact⟨c',q,s',t',h1,e,h2,h3,h4⟩
theorem Gn.rc:∀{l acc:List (Str×Int)} {c:γ} {s t:Ls} {fs:List (Str×Int)} {s':Ls},(∀x∈l,x.2∈frk ρ)->R c s t->(∀x∈acc,N c s.n x.2)->wj L l acc s=some (fs,s')->∃c' t',wj M l (rnP g acc) t=some (rnP g fs,t')/\R c' s' t'/\(∀x,N c s.n x->N c' s'.n x)/\∀x∈fs,N c' s'.n x.2
 |[],acc,c,s,t,fs,s',_,r,ha,h=>by cases h;exact⟨c,t,rfl,r,fun _ z=>z,ha⟩
 |y::l,acc,c,s,t,fs,s',hl,r,ha,h=>by
  obtain⟨c1,q,s1,t1,e1,h,r1,m1,n1⟩:=G.k (hl y (by simp)) r h
  obtain⟨c2,t2,e2,r2,m2,n2⟩:=Gn.rc (acc:=acc++[(y.1,q)]) (fun x hx=>hl x (by simp[hx])) r1 (fun x hx=>by
   rcases ao.mp hx with hx|hx
   ·exact m1 _ (ha x hx)
   ·rw[ba.mp hx];exact n1) h
  refine⟨c2,t2,?_,r2,fun x z=>m2 x (m1 x z),n2⟩
  unfold wj
  rw[e1]
  have:rnP g (acc++[(y.1,q)])=rnP g acc++[(y.1,g q)]:=by unfold rnP;rw[br];rfl
  rw[this]at e2
  exact e2
theorem Gn.arm {own:Int}:∀{l:List (Str×Str×Int)} {acc:List (Str×Int)} {c:γ} {s t:Ls} {fs:List (Str×Int)} {s':Ls},(∀x∈l,x.2.2∈K24.Internal.bnd ρ)->R c s t->N c s.n own->(∀x∈acc,N c s.n x.2)->xF L p own l acc s=some (fs,s')->∃c' t',xF M p (g own) l (rnP g acc) t=some (rnP g fs,t')/\R c' s' t'/\(∀x,N c s.n x->N c' s'.n x)/\∀x∈fs,N c' s'.n x.2
 |[],acc,c,s,t,fs,s',_,r,_,ha,h=>by cases h;exact⟨c,t,rfl,r,fun _ z=>z,ha⟩
 |y::l,acc,c,s,t,fs,s',hl,r,ho,ha,h=>by
  obtain⟨c1,q,s1,t1,e1,h,r1,m1,n1,n1'⟩:=G.b (hl y (by simp)) r h
  obtain⟨c2,t2,e2,r2,m2,n2⟩:=Gn.arm (acc:=acc++[(y.1,s.n)]) (own:=own) (fun x hx=>hl x (by simp[hx])) (G.fl r1 n1 (m1 _ ho)) (m1 _ ho) (fun x hx=>by
   rcases ao.mp hx with hx|hx
   ·exact m1 _ (ha x hx)
   ·rw[ba.mp hx];exact n1') h
  refine⟨c2,t2,?_,r2,fun x z=>m2 x (m1 x z),n2⟩
  unfold xF
  rw[e1]
  have:rnP g (acc++[(y.1,s.n)])=rnP g acc++[(y.1,t.n)]:=by unfold rnP;rw[br,G.n r];rfl
  rw[this]at e2
  exact e2
theorem Gn.row {th:Int}:∀{l:List Int} {c:γ} {s t s':Ls},(∀x∈l,x∈frk ρ)->R c s t->N c s.n th->xV L th l s=some s'->∃c' t',xV M (g th) l t=some t'/\R c' s' t'/\∀x,N c s.n x->N c' s'.n x
 |[],c,s,t,s',_,r,_,h=>by cases h;exact⟨c,t,rfl,r,fun _ z=>z⟩
 |y::l,c,s,t,s',hl,r,ht,h=>by
  obtain⟨c1,q,s1,t1,e1,h,r1,m1,n1⟩:=G.k (hl y (by simp)) r h
  obtain⟨c2,t2,e2,r2,m2⟩:=Gn.row (th:=th) (fun x hx=>hl x (by simp[hx])) (G.fl r1 n1 (m1 _ ht)) (m1 _ ht) h
  refine⟨c2,t2,?_,r2,fun x z=>m2 x (m1 x z)⟩
  unfold xV
  rw[e1]
  exact e2
theorem Gn.nums {a b:Int} {c:γ} {s t s':Ls} (ha:a∈frk ρ) (hb:b∈frk ρ) (r:R c s t) (h:mC L a b p s=some s'):∃c' t',mC M a b p t=some t'/\R c' s' t'/\∀x,N c s.n x->N c' s'.n x:=by
 obtain⟨c1,q,s1,t1,e1,h,r1,m1,n1⟩:=G.k ha r h
 obtain⟨c2,q2,s2,t2,e2,h,r2,m2,n2⟩:=G.k hb r1 h
 cases h
 refine⟨c2,_,?_,G.us (G.us r2 (u:= .num q p 0) (by simpa[inU]using m2 _ n1)) (u:= .num q2 p 1) (fun x hx=>by rw[ba.mp (show x∈[q2]from hx)];exact n2),fun x z=>m2 x (m1 x z)⟩
 unfold mC
 rw[e1]
 dsimp only
 rw[e2]
 rfl
theorem Gn.go {roots:List Nat} {ho:Option Hm} {own:Int} {c:γ} {s t s':Ls} (nn:∀w,ρ≠ .name w) (r:R c s t) (no:N c s.n own) (h:iF L roots ho p own s ρ=some s'):∃c' t',iF M roots ho p (g own) t ρ=some t'/\R c' s' t'/\∀x,N c s.n x->N c' s'.n x:=by
 cases ρ with
 |name w=>exact absurd rfl (nn w)
 |num n=>cases h;exact⟨c,_,rfl,G.ma r (m:=mkN own p) no (fun x hx=>by cases hx),fun _ z=>z⟩
 |fn w k=>
  obtain⟨c1,q,s1,t1,e1,h,r1,m1,n1,n2⟩:=G.b (k:=k) (by simp[K24.Internal.bnd]) r h
  cases h
  refine⟨c1,_,?_,G.ma r1 (m:=⟨"fn",.tup [kD s.n,kD q],own,p⟩) (m1 _ no) (fun x hx=>?_),m1⟩
  ·simp only[iF,e1]
   rw[G.n r]
   rfl
  ·have hx:x∈[s.n,q]:=hx
   simp only[ak,bh,or_false]at hx
   rcases hx with rfl|rfl
   ·exact n2
   ·exact n1
 |lt w a b=>
  obtain⟨c1,q,s1,t1,e1,h,r1,m1,n1⟩:=G.k (k:=a) (by simp[frk]) r h
  obtain⟨c2,q2,s2,t2,e2,h,r2,m2,n2⟩:=G.k (k:=b) (by simp[frk]) r1 h
  cases h
  refine⟨c2,_,?_,G.fl r2 n2 (m2 _ (m1 _ no)),fun x z=>m2 x (m1 x z)⟩
  simp only[iF,e1,e2]
 |get k w=>
  obtain⟨c1,q,s1,t1,e1,h,r1,m1,n1⟩:=G.k (k:=k) (by simp[frk]) r h
  cases h
  refine⟨c1,_,?_,G.us r1 (u:= .take q p 0 [(w,own)]) (fun x hx=>?_),m1⟩
  ·simp only[iF,e1];rfl
  ·have hx:x∈[q,own]:=hx
   simp only[ak,bh,or_false]at hx
   rcases hx with rfl|rfl
   ·exact n1
   ·exact m1 _ no
 |tag w k=>
  obtain⟨c1,q,s1,t1,e1,h,r1,m1,n1⟩:=G.k (k:=k) (by simp[frk]) r h
  cases h
  refine⟨c1,_,?_,G.ma r1 (m:=⟨"tag",.tup [sD w,kD q],own,p⟩) (m1 _ no) (fun x hx=>?_),m1⟩
  ·simp only[iF,e1];rfl
  ·rw[ba.mp (show x∈[q]from hx)];exact n1
 |rcd l=>
  have h:(match wj L l [] s with|some (fs,s)=>some (s.mk' ⟨"rec",prD fs,own,p⟩)|none=>none)=some s':=h
  cases e:wj L l [] s with
  |none=>rw[e]at h;cases h
  |some z=>
   obtain⟨fs,s1⟩:=z
   rw[e]at h;cases h
   obtain⟨c1,t1,e1,r1,m1,n1⟩:=G.rc (acc:=[]) (fun x hx=>by simp only[frk];exact bA hx) r (fun x hx=>by cases hx) e
   refine⟨c1,_,?_,G.ma r1 (m:=⟨"rec",prD fs,own,p⟩) (m1 _ no) (fun x hx=>?_),m1⟩
   ·have e1:wj M l [] t=some (rnP g fs,t1):=e1
    simp only[iF,e1]
    unfold rnM
    rw[zm]
   ·obtain⟨y,hy,rfl⟩:=zo hx;exact n1 y hy
 |case k l=>
  obtain⟨c1,q,s1,t1,e1,h,r1,m1,n1⟩:=G.k (k:=k) (by simp[frk]) r h
  cases e:xF L p own l [] s1 with
  |none=>rw[e]at h;cases h
  |some z=>
   obtain⟨fs,s2⟩:=z
   rw[e]at h;cases h
   obtain⟨c2,t2,e2,r2,m2,n2⟩:=G.arm (acc:=[]) (own:=own) (fun x hx=>by simp only[K24.Internal.bnd];exact bA hx) r1 (m1 _ no) (fun x hx=>by cases hx) e
   refine⟨c2,_,?_,G.us r2 (u:= .case q p 0 fs) (fun x hx=>?_),fun x z=>m2 x (m1 x z)⟩
   ·have e2:xF M p (g own) l [] t1=some (rnP g fs,t2):=e2
    simp only[iF,e1,e2]
    rfl
   ·rcases ak.mp (show x∈q::fs.map Prod.snd from hx)with rfl|hx
    ·exact m2 _ n1
    ·obtain⟨y,hy,rfl⟩:=bc.mp hx;exact n2 y hy
 |row ks=>
  have h:(match xV L s.n ks (s.pt p)with|some s2=>some (s2.mk' (mkR s.n own p))|none=>none)=some s':=h
  cases e:xV L s.n ks (s.pt p)with
  |none=>rw[e]at h;cases h
  |some z=>
   rw[e]at h;cases h
   obtain⟨r0,m0,n0⟩:=G.pt' r
   obtain⟨c1,t1,e1,r1,m1⟩:=G.row (fun x hx=>hx) r0 n0 e
   refine⟨c1,_,?_,G.ma r1 (m:=mkR s.n own p) (m1 _ (m0 _ no)) (fun x hx=>?_),fun x z=>m1 x (m0 x z)⟩
   ·have e1:xV M (g s.n) ks (t.pt p)=some t1:=e1
    simp only[iF,G.n r,e1];rfl
   ·rw[ba.mp (show x∈[s.n]from hx)];exact m1 _ n0
 |op o ks=>
  match ks,h,G with
  |[],h,_=>cases h
  |[a],h,G=>
   simp only[iF]at h⊢
   split at h
   ·rename_i e0
    obtain⟨r0,m0,n0⟩:=G.pt' r
    obtain⟨c1,q,s1,t1,e1,h,r1,m1,n1⟩:=G.k (k:=a) (by simp[frk]) r0 h
    cases h
    refine⟨c1,_,?_,G.ma (G.us r1 (u:= .row q p 0 s.n) (fun x hx=>?_)) (m:=mkN own p) (m1 _ (m0 _ no)) (fun x hx=>by cases hx),fun x z=>m1 x (m0 x z)⟩
    ·simp only[e0,if_true,e1,G.n r];rfl
    ·have hx:x∈[q,s.n]:=hx
     simp only[ak,bh,or_false]at hx
     rcases hx with rfl|rfl
     ·exact n1
     ·exact m1 _ n0
   ·cases h
  |[a,b],h,G=>
   have ha:a∈frk (.op o [a,b]):=by simp[frk]
   have hb:b∈frk (.op o [a,b]):=by simp[frk]
   simp only[iF]at h⊢
   split at h
   ·rename_i e0
    obtain⟨c1,q,s1,t1,e1,h,r1,m1,n1⟩:=G.k ha r h
    obtain⟨c2,q2,s2,t2,e2,h,r2,m2,n2⟩:=G.k hb r1 h
    cases h
    refine⟨c2,_,?_,G.us r2 (u:= .call q p 0 q2 own) (fun x hx=>?_),fun x z=>m2 x (m1 x z)⟩
    ·rw[f6 e0]
     simp only[e1,e2];rfl
    ·have hx:x∈[q,q2,own]:=hx
     simp only[ak,bh,or_false]at hx
     rcases hx with rfl|rfl|rfl
     ·exact m2 _ n1
     ·exact n2
     ·exact m2 _ (m1 _ no)
   ·rename_i n0
    rw[fO n0]
    split at h
    ·rename_i e0
     obtain⟨r0,m0,n0⟩:=G.pt' r
     obtain⟨c1,q,s1,t1,e1,h,r1,m1,n1⟩:=G.k ha r0 h
     obtain⟨c2,q2,s2,t2,e2,h,r2,m2,n2⟩:=G.k hb r1 h
     cases h
     have k0:=m2 _ (m1 _ n0)
     refine⟨c2,_,?_,G.ma (G.us (G.us r2 (u:= .row q p 0 s.n) (fun x hx=>?_)) (u:= .row q2 p 1 s.n) (fun x hx=>?_)) (m:=mkR s.n own p) (m2 _ (m1 _ (m0 _ no))) (fun x hx=>?_),fun x z=>m2 x (m1 x (m0 x z))⟩
     ·rw[f6 e0]
      simp only[e1,e2,G.n r];rfl
     ·have hx:x∈[q,s.n]:=hx
      simp only[ak,bh,or_false]at hx
      rcases hx with rfl|rfl
      ·exact m2 _ n1
      ·exact k0
     ·have hx:x∈[q2,s.n]:=hx
      simp only[ak,bh,or_false]at hx
      rcases hx with rfl|rfl
      ·exact n2
      ·exact k0
     ·rw[ba.mp (show x∈[s.n]from hx)];exact k0
    ·rename_i n1
     rw[fO n1]
     split at h
     ·rename_i e0
      cases e:mC L a b p (s.pt p)with
      |none=>rw[e]at h;cases h
      |some z=>
       rw[e]at h;cases h
       obtain⟨r0,m0,n0⟩:=G.pt' r
       obtain⟨c1,t1,e1,r1,m1⟩:=G.nums ha hb r0 e
       have k0:=m1 _ n0
       have ko:=m1 _ (m0 _ no)
       have kx:∀(u:Str),∀x∈inD (.tup [sD u,kD s.n]),N c1 z.n x:=fun u x hx=>by rw[ba.mp (show x∈[s.n]from hx)];exact k0
       refine⟨c1,_,?_,G.ma (G.ma (G.ma r1 (m:=⟨"rec",.tup [],s.n,p⟩) k0 (fun x hx=>by cases hx)) (m:=⟨"tag",.tup [sD "yes",kD s.n],own,p⟩) ko (kx _)) (m:=⟨"tag",.tup [sD "no",kD s.n],own,p⟩) ko (kx _),fun x z=>m1 x (m0 x z)⟩
       rw[f6 e0]
       simp only[e1,G.n r];rfl
     ·rename_i n2
      rw[fO n2]
      split at h
      ·rename_i e0
       cases e:mC L a b p s with
       |none=>rw[e]at h;cases h
       |some z=>
        rw[e]at h;cases h
        obtain⟨c1,t1,e1,r1,m1⟩:=G.nums ha hb r e
        refine⟨c1,_,?_,G.ma r1 (m:=mkN own p) (m1 _ no) (fun x hx=>by cases hx),m1⟩
        rw[f6 e0]
        simp only[e1];rfl
      ·cases h
  |[a,b,d],h,G=>
   simp only[iF]at h⊢
   split at h
   ·rename_i e0
    obtain⟨c1,q,s1,t1,e1,h,r1,m1,n1⟩:=G.k (k:=a) (by simp[frk]) r h
    obtain⟨c2,q2,s2,t2,e2,h,r2,m2,n2⟩:=G.k (k:=b) (by simp[frk]) r1 h
    obtain⟨c3,q3,s3,t3,e3,h,r3,m3,n3⟩:=G.k (k:=d) (by simp[frk]) r2 h
    cases h
    have ko:=m3 _ (m2 _ (m1 _ no))
    refine⟨c3,_,?_,G.fl (G.us (G.us r3 (u:= .row q p 0 own) (fun x hx=>?_)) (u:= .num q2 p 1) (fun x hx=>?_)) n3 ko,fun x z=>m3 x (m2 x (m1 x z))⟩
    ·rw[f6 e0]
     simp only[e1,e2,e3];rfl
    ·have hx:x∈[q,own]:=hx
     simp only[ak,bh,or_false]at hx
     rcases hx with rfl|rfl
     ·exact m3 _ (m2 _ n1)
     ·exact ko
    ·rw[ba.mp (show x∈[q2]from hx)];exact m3 _ n2
   ·cases h
  |_::_::_::_::_,h,_=>cases h
end
theorem ES (v:V):rnV (fun x=>x) v=v:=by cases v<;>rfl
mutual
theorem BK:∀d:Dt,rnD (fun x=>x) d=d
 | .flat v=>by rw[rnD,ES]
 | .tup l=>by rw[rnD,zt]
 | .lst l=>by rw[rnD]
theorem zt:∀l:List Dt,jZ (fun x=>x) l=l
 |[]=>by rw[jZ]
 |d::l=>by rw[jZ,BK,zt]
end
theorem ET (l:List (Str×Int)):rnP (fun x=>x) l=l:=List.map_id _
theorem r8 (m:Mkg):rnM (fun x=>x) m=m:=by unfold rnM;rw[BK]
theorem r9 (u:Us):rnU (fun x=>x) u=u:=by cases u<;>simp only[rnU,ET]
theorem kF {roots:List Nat} {L:Lf} {ho:Option Hm} {p own:Int} {s s':Ls} {w:Str} (h:iF L roots ho p own s (.name w)=some s'):∃h0 r s1,ho=some h0/\jj L roots h0 p s=some (r,s1)/\s'=s1.fl r own:=by
 unfold iF at h
 dsimp only at h
 cases ho with
 |none=>cases h
 |some h0=>
  dsimp only at h
  cases e2:jj L roots h0 p s with
  |none=>rw[e2]at h;cases h
  |some z=>obtain⟨r,s1⟩:=z;rw[e2]at h;cases h;exact⟨h0,r,s1,rfl,e2,rfl⟩
structure Le (s s':Ls):Prop where
 p:s.D.pts.length<=s'.D.pts.length
 m:s.D.mks.length<=s'.D.mks.length
 u:s.D.uss.length<=s'.D.uss.length
 f:s.D.fls.length<=s'.D.fls.length
theorem Le.refl (s:Ls):Le s s:=⟨b9 _,b9 _,b9 _,b9 _⟩
theorem Le.trans {a b c:Ls} (h:Le a b) (k:Le b c):Le a c:=⟨bZ h.p k.p,bZ h.m k.m,bZ h.u k.u,bZ h.f k.f⟩
theorem Le.sz {a b:Ls} {n:Nat} (h:Le a b) (k:Sz n b):Sz n a:=⟨bZ h.p k.p,bZ h.m k.m,bZ h.u k.u,bZ h.f k.f⟩
theorem FT {α:Type} (l:List α) (a:α):l.length<=(l++[a]).length:=by rw[aO];lia
section
variable {s s':Ls}
theorem Le.pt {p:Int}:Le s (s.pt p):=⟨FT _ _,b9 _,b9 _,b9 _⟩
theorem Le.mk' {p:Mkg}:Le s (s.mk' p):=⟨b9 _,FT _ _,b9 _,b9 _⟩
theorem Le.us {p:Us}:Le s (s.us p):=⟨b9 _,b9 _,FT _ _,b9 _⟩
theorem Le.fl {p q:Int}:Le s (s.fl p q):=⟨b9 _,b9 _,b9 _,FT _ _⟩
theorem Le.ho {p q:Int}:Le s (s.hold p q):=⟨b9 _,b9 _,b9 _,b9 _⟩
theorem Le.be {p q:Int}:Le s (s.begin p q):=⟨b9 _,b9 _,b9 _,b9 _⟩
end
def Lmo (L:Lf):Prop:=∀p s q s',L p s=some (q,s')->Le s s'
section
variable {L:Lf} (hL:Lmo L)
include hL
theorem L1 {p:Int} {s:Ls} {α:Type} {g:Int->Ls->Option α} {a:α} (h:(match L p s with|some (q,s)=>g q s|none=>none)=some a):∃q s1,L p s=some (q,s1)/\g q s1=some a/\Le s s1:=by
 cases e:L p s with
 |none=>rw[e]at h;cases h
 |some z=>obtain⟨q,s1⟩:=z;rw[e]at h;exact⟨q,s1,rfl,h,hL _ _ _ _ e⟩
theorem zu:∀{l acc:List (Str×Int)} {s:Ls} {r:List (Str×Int)×Ls},wj L l acc s=some r->Le s r.2/\r.1.length=acc.length+l.length
 |[],acc,s,r,h=>by cases h;exact⟨Le.refl _,rfl⟩
 |p::l,acc,s,r,h=>by
  obtain⟨q,s1,_,h2,l1⟩:=L1 hL h
  obtain⟨a,b⟩:=zu h2
  exact⟨l1.trans a,by rw[b,aO,aV,az];lia⟩
theorem zv {p own:Int}:∀{l:List (Str×Str×Int)} {acc:List (Str×Int)} {s:Ls} {r:List (Str×Int)×Ls},xF L p own l acc s=some r->Le s r.2/\r.1.length=acc.length+l.length
 |[],acc,s,r,h=>by cases h;exact⟨Le.refl _,rfl⟩
 |a::l,acc,s,r,h=>by
  obtain⟨q,s1,_,h2,l1⟩:=L1 hL h
  obtain⟨x,b⟩:=zv h2
  exact⟨((Le.pt.trans Le.ho).trans l1).trans (Le.fl.trans x),by rw[b,aO,aV,az];lia⟩
theorem zw {th:Int}:∀{l:List Int} {s s':Ls},xV L th l s=some s'->Le s s'
 |[],s,s',h=>by cases h;exact Le.refl _
 |k::l,s,s',h=>by
  obtain⟨q,s1,_,h2,l1⟩:=L1 hL h
  exact l1.trans (Le.fl.trans (zw h2))
theorem EU {roots:List Nat} {d:Int} {s:Ls} {r:Int×Ls} (h:uZ L roots d s=some r):Le s r.2:=by
 unfold uZ at h
 cases e:atZ roots d with
 |none=>rw[e]at h;cases h
 |some z=>
  rw[e]at h
  obtain⟨q,s1,_,h,l1⟩:=L1 hL h
  cases h
  exact((Le.pt.trans Le.be).trans l1).trans Le.fl
theorem AV {roots:List Nat} {h0:Hm} {p:Int} {s:Ls} {r:Int×Ls} (h:jj L roots h0 p s=some r):Le s r.2:=by
 unfold jj at h
 split at h
 ·exact hL _ _ _ _ h
 ·split at h
  ·split at h
   ·obtain⟨q,_,rfl⟩:=cF.mp h;exact Le.refl _
   ·exact EU hL h
  ·obtain⟨q,_,rfl⟩:=cF.mp h;exact Le.refl _
theorem zx {roots:List Nat} {ho:Option Hm} {p own:Int} {s s':Ls} {ρ:Ro} (h:iF L roots ho p own s ρ=some s'):Le s s':=by
 by_cases nn:∀w,ρ≠ .name w
 ·have G:Gn (γ:=Unit) (fun x=>x) (fun _ s2 t=>t=s2/\Le s s2) (fun _ _ _=>True) L L p ρ:=
   ⟨(fun r=>by rw[r.1]),(fun r=>⟨⟨by rw[r.1],r.2.trans Le.pt⟩,fun _ _=>trivial,trivial⟩),(fun r _ _=>⟨by rw[r.1,r8],r.2.trans Le.mk'⟩),(fun r _=>⟨by rw[r.1,r9],r.2.trans Le.us⟩),(fun r _ _=>⟨by rw[r.1],r.2.trans Le.fl⟩),
    (fun{c s2 t k q s'} hc r e=>by
     obtain⟨rfl,r⟩:=r
     exact⟨(),s',e,⟨rfl,r.trans (hL _ _ _ _ e)⟩,fun _ _=>trivial,trivial⟩),
    (fun{c s2 t k q s'} hc r e=>by
     obtain⟨rfl,r⟩:=r
     exact⟨(),s',e,⟨rfl,(r.trans (Le.pt.trans Le.ho)).trans (hL _ _ _ _ e)⟩,fun _ _=>trivial,trivial,trivial⟩)⟩
  obtain⟨_,t',e1,r1,_⟩:=G.go (c:=()) nn ⟨rfl,Le.refl _⟩ trivial h
  rw[h]at e1
  cases e1
  exact r1.2
 ·obtain⟨w,rfl⟩:∃w,ρ= .name w:=Classical.byContradiction fun n=>nn fun w e=>n ⟨w,e⟩
  obtain⟨h0,r,s1,hh,h2,rfl⟩:=kF h
  exact(AV hL h2).trans Le.fl
end
theorem gB {ρs:List Ro} {roots:List Nat} {ho:Nat->Option Hm}:∀f,Lmo (iL ρs roots ho f)
 |0,p,s,q,s',h=>by cases h
 |f+ 1,p,s,q,s',h=>by
  unfold iL at h
  cases e:atZ ρs p with
  |none=>rw[e]at h;cases h
  |some ρ=>
   rw[e]at h
   have h:(match iF (iL ρs roots ho f) roots (ho p.toNat) p s.n (s.pt p) ρ with|some s2=>some (s.n,s2)|none=>none)=some (q,s'):=h
   cases e2:iF (iL ρs roots ho f) roots (ho p.toNat) p s.n (s.pt p) ρ with
   |none=>rw[e2]at h;cases h
   |some s2=>rw[e2]at h;cases h;exact Le.pt.trans (zx (gB f) e2)
def hoD:Option Hm->Dt
 |none=> .flat .non
 |some h=>hmD h
theorem EV {f:Str} {v:V} {r:List (Str×V)}:aA f ((f,v)::r)=some v:=by
 rw[aX,show(f==f)=true by simp]
theorem Df {f g:Str} {v:V} {r:List (Str×V)} (h:(f==g)=false):aA f ((g,v)::r)=aA f r:=by
 rw[aX,h]
def fP (n r w:Addr):List (Str×V):=[("names",.ref n),("roots",.ref r),("rows",.ref w)]
theorem sU (n r w:Addr):(fP n r w).lookup ("roots":Str)=some (.ref r):=(Df fW).trans EV
theorem Dg (n r w:Addr):(fP n r w).lookup ("rows":Str)=some (.ref w):=(Df fW).trans ((Df fW).trans EV)
def nI (k:Nat):V:= .int (k:Int)
structure PrA (C:Addr) (H:Hp) (p n r w dx:Addr) (xs:List V) (names:List Str) (roots:List Nat) (ρs:List Ro):Prop where
 o:H p=some (.ins C dx (fP n r w))
 n:H n=some (.lst (names.map V.str))
 r:H r=some (.lst (roots.map nI))
 w:H w=some (.lst xs)
 i:Ims H xs (ρs.map Ro.d)
theorem PrA.same {C:Addr} {H H':Hp} {p n r w dx:Addr} {xs:List V} {names:List Str} {roots:List Nat} {ρs:List Ro} (h:PrA C H p n r w dx xs names roots ρs) (s:fE H H'):PrA C H' p n r w dx xs names roots ρs:=⟨s _ _ h.o,s _ _ h.n,s _ _ h.r,s _ _ h.w,h.i.mono (fE.tk s)⟩
theorem jG {H:Hp}:∀{xs:List V} {ds:List Dt} {j:Nat} {x:V},Ims H xs ds->xs[j]?=some x->∃d,ds[j]?=some d/\Im H x d
 |_,_,0,_,.cons h _,e=>⟨_,rfl,by cases e;exact h⟩
 |_,_,j+ 1,_,.cons _ t,e=>by
  rw[bj]at e
  obtain⟨d,e1,e2⟩:=jG t e
  exact⟨d,by rw[bj];exact e1,e2⟩
theorem Dh {H:Hp} {xs:List V} {ρs:List Ro} {k:Nat} {ρ:Ro} (h:Ims H xs (ρs.map Ro.d)) (e:ρs[k]?=some ρ):∃(t:Addr) (ys:List V),xs[k]?=some (.ref t)/\H t=some (.tup (.str ρ.s::ys))/\Ims H ys ρ.r/\Im H (.ref t) ρ.d:=by
 have lx:=h.length
 rw[aC]at lx
 have hk:=(ar.mp e).1
 obtain⟨d,hd,him⟩:=jG h (bb (show k<xs.length by lia))
 rw[aK,e]at hd
 cases hd
 have h0:xs[k]?=some xs[k]:=bb (by lia)
 generalize xs[k]=v at h0 him
 have him':=him
 cases him with
 |@tup t ys _ et hs=>
  cases hs with
  |cons a hs=>
   cases a
   exact⟨t,_,h0,et,hs,him'⟩
theorem kG {H:Hp} {t:Addr} {ρ:Ro} (h:Im H (.ref t) ρ.d):∃ys,H t=some (.tup (.str ρ.s::ys))/\Ims H ys ρ.r:=by
 unfold Ro.d at h
 cases h with
 |tup e i=>
  cases i with
  |cons a i=>cases a;exact⟨_,e,i⟩
abbrev hdT (i:Nat) (x:Str):TT:=cT (tOp (cEq false) (tOp CQ (cV i) (tC (.int 0))) (tC (.str x)))
theorem wm {i:Nat} {x s:Str} {t:Addr} {ys:List V} {σ:St} {H:Hp} {k:Bool->Hp->Prop} {b:Bool} (hσ:σ[i]?=some (some (.ref t))) (et:H t=some (.tup (.str s::ys))) (e:decide (s=x)=b) (h:k b H):hdT i x σ H k:=by
 show onV σ[i]? _
 rw[hσ]
 refine⟨_,et,fc (eY (j:=0) rfl) ?_⟩
 dsimp only[tC,cEq,onB]
 rw[dZ,e]
 exact h
theorem pE {i:Nat} {x s:Str} {t:Addr} {ys:List V} {σ:St} {H:Hp} {T u:TS} {D:pj} (hσ:σ[i]?=some (some (.ref t))) (et:H t=some (.tup (.str s::ys))) (e:decide (s=x)=false) (h:u D σ H):vQ (hdT i x) T u D σ H:=wm hσ et e (jy h)
theorem pG {i:Nat} {x s:Str} {t:Addr} {ys:List V} {σ:St} {H:Hp} {T u:TS} {D:pj} (hσ:σ[i]?=some (some (.ref t))) (et:H t=some (.tup (.str s::ys))) (e:decide (s=x)=true) (h:T D σ H):vQ (hdT i x) T u D σ H:=wm hσ et e (jW h)
theorem vn {H:Hp} {x:V} {a b:Dt} (h:Im H x (.tup [a,b])):∃t y z,x= .ref t/\H t=some (.tup [y,z])/\Im H y a/\Im H z b:=by
 cases h with
 |tup e i=>
  cases i with
  |cons h1 i=>
   cases i with
   |cons h2 i=>cases i;exact⟨_,_,_,rfl,e,h1,h2⟩
theorem fV {α:Type} {l:List α} {i:Int} {a:α} (h:atZ l i=some a):∃k:Nat,i=(k:Int)/\l[k]?=some a:=by
 cases i with
 |ofNat k=>exact⟨k,rfl,h⟩
 |negSucc k=>cases h
theorem ig {H:Hp} {t:Addr} {xs:List V} {ds:List Dt} (h:H t=none) (i:Ims H xs ds):Im (L2.Internal.upd H t (.tup xs)) (.ref t) (.tup ds):= .tup eS (i.mono (fE.tk (eW h _)))
def Ro.few:Ro->Prop
 | .rcd l=>l.length<=10
 | .case _ l=>l.length<=10
 | .row ks=>ks.length<=1000
 |_=>True
structure Cp (CP:Addr) (H:Hp) (A:La) (names:List Str) (roots:List Nat) (ρs:List Ro) (ho:Nat->Option Hm):Prop where
 p:∃n r w dx xs,PrA CP H A.p n r w dx xs names roots ρs/\A.p∉A.ch/\n∉A.ch/\r∉A.ch/\w∉A.ch
 h:∃hs,H A.h=some (.lst hs)/\A.h∉A.ch/\∀(k:Nat) (ρ:Ro),ρs[k]?=some ρ->∃y,hs[k]?=some y/\Im H y (hoD (ho k))
 few:∀(k:Nat) (ρ:Ro),ρs[k]?=some ρ->ρ.few
 dom:∀(k:Nat) (h:Hm),ho k=some h->h.1="def"->∃d:Nat,h.2=(d:Int)/\d<roots.length
theorem Cp.fl {CL CP:Addr} {c:Cs} {H H':Hp} {A:La} {s:Ls} {names:List Str} {roots:List Nat} {ρs:List Ro} {ho:Nat->Option Hm} (x:Cp CP H A names roots ρs ho) (M:Lm CL c H A s) (F:FL A H H'):Cp CP H' A names roots ρs ho:=by
 have k:=M.tk F
 obtain⟨⟨n,r,w,dx,xs,pr,n1,n2,n3,n4⟩,⟨hs,e,n5,hh⟩,fw,dm⟩:=x
 exact⟨⟨n,r,w,dx,xs,⟨F _ _ pr.o n1,F _ _ pr.n n2,F _ _ pr.r n3,F _ _ pr.w n4,pr.i.mono k⟩,n1,n2,n3,n4⟩,⟨hs,F _ _ e n5,n5,fun j ρ hj=>let⟨y,a,b⟩:=hh j ρ hj;⟨y,a,b.mono k⟩⟩,fw,dm⟩
theorem DkI.put {H:Hp} {a:Addr} {g:Int->Option Int} {n:Nat} (h:DkI H a g n) (hn:n<10000000) (k v:Int):∃H',Ak H a (.int k) (.int v) H'/\(∃o,H'=L2.Internal.upd H a (.dK o))/\DkI H' a (put g k v) (n+ 1):=by
 have sl:=sizeLine_eq
 obtain⟨kvs,e,l,r⟩:=h
 refine⟨_,Ak.k (k:=(Sum.inl k:Key)) e (by lia),⟨_,rfl⟩,_,eS,bZ (mN _ _ _) (by lia),fun x=>?_⟩
 rw[Av]
 unfold K24.Internal.put
 by_cases h:x=k
 ·rw[f6 (by rw[h]),f6 h];rfl
 ·rw[fO (fun z=>h (by injection z)),fO h];exact r x
theorem DkI.get {H:Hp} {a:Addr} {g:Int->Option Int} {n:Nat} (h:DkI H a g n) {k v:Int} (e:g k=some v):xh H a (.int k) (some (.int v)):=by
 obtain⟨kvs,e1,l,r⟩:=h
 have z:=xh.k (k:=(Sum.inl k:Key)) e1
 rw[r k,e]at z
 exact z
theorem Bw.dk {c:Cs} {H:Hp} {A:Ad} {r:V} {D:Bd} (B:Bw c H A r D) {a:Addr} {kvs:List (Key×V)} {o:List (Key×V)} (e:H a=some (.dK kvs)):Bw c (L2.Internal.upd H a (.dK o)) A r D:=by
 obtain⟨b,e0,⟨mv,m1,m2⟩,⟨uv,u1,u2⟩,⟨fv,g1,g2⟩,nd⟩:=B
 have k:FK H (L2.Internal.upd H a (.dK o)):=fun b u q f=>by rw[eX (fun z=>by rw[z,e]at q;cases q;exact f.elim)];exact q
 have ne:∀{b:Addr} {u:HO},H b=some u->(∀l,u≠ .dK l)->(L2.Internal.upd H a (.dK o)) b=some u:=fun q n=>by rw[eX (jw q e (n _))];exact q
 exact⟨ne b (fun _ z=>nomatch z),ne e0 (fun _ z=>nomatch z),⟨mv,ne m1 (fun _ z=>nomatch z),m2.imp fun _ _=>sH.mono k⟩,⟨uv,ne u1 (fun _ z=>nomatch z),u2.imp fun _ _=>ql.mono k⟩,⟨fv,ne g1 (fun _ z=>nomatch z),g2.mono k.tk⟩,nd⟩
theorem Lm.hold {CL:Addr} {c:Cs} {H:Hp} {A:La} {s:Ls} (M:Lm CL c H A (s.pt p0)) (hs:DkI H A.hd s.held s.D.pts.length) (hn:s.D.pts.length<1000000) (k v:Int):∃H',Ak H A.hd (.int k) (.int v) H'/\Lm CL c H' A ((s.pt p0).hold k v)/\FL A H H':=by
 obtain⟨H',d,⟨o,rfl⟩,h⟩:=hs.put (by lia) k v
 obtain⟨kvs,e,_⟩:=hs
 obtain⟨o1,b,_,⟨k2,d2,r2⟩,ne⟩:=M
 have lp:(s.D.pts++[p0]).length=s.D.pts.length+ 1:=by rw[aO];rfl
 refine⟨_,d,⟨by rw[eX (jw o1 e (fun z=>nomatch z))];exact o1,Bw.dk b e,?_,⟨k2,by rw[eX ne.symm];exact d2,r2⟩,ne⟩,xG (by simp[La.ch])⟩
 show DkI _ A.hd (put s.held k v) (s.D.pts++[p0]).length
 rw[lp]
 exact h
inductive XLa (CL CP:Addr) (c:Cs) (f:Nat) (vs:List V) (H:Hp) (Q:VK):Prop
 |mk (A:La) (s s':Ls) (p r:Int) (names:List Str) (roots:List Nat) (ρs:List Ro) (ho:Nat->Option Hm) (e:vs=[.ref A.l,.int p]) (M:Lm CL c H A s) (C:Cp CP H A names roots ρs ho) (hl:iL ρs roots ho f p s=some (r,s')) (hz:Sz 1000000 s') (q:∀H',Lm CL c H' A s'->FL A H H'->Q (.int r) H')
def jS (CL CP:Addr) (c:Cs) (f:Nat):Sp:=fun vs H Q _=>XLa CL CP c f vs H Q
inductive XL (CL CP:Addr) (c:Cs) (f:Nat) (U:Ro->Prop) (vs:List V) (H:Hp) (Q:VK):Prop
 |mk (A:La) (s s':Ls) (p own:Int) (t:Addr) (ρ:Ro) (names:List Str) (roots:List Nat) (ρs:List Ro) (ho:Nat->Option Hm) (e:vs=[.ref A.l,.ref t,.int p,.int own]) (M:Lm CL c H A s) (C:Cp CP H A names roots ρs ho) (hk:atZ ρs p=some ρ) (hu:U ρ) (it:Im H (.ref t) ρ.d) (hl:iF (iL ρs roots ho f) roots (ho p.toNat) p own s ρ=some s') (hz:Sz 1000000 s') (q:∀H',Lm CL c H' A s'->FL A H H'->Q .non H')
def iG (CL CP:Addr) (c:Cs) (f:Nat) (U:Ro->Prop):Sp:=fun vs H Q _=>XL CL CP c f U vs H Q
theorem jV {H:Hp} {x:V} {k:Int} (h:Im H x (kD k)):x= .int k:=by cases h;rfl
theorem lH {H:Hp} {x:V} {k:Str} (h:Im H x (sD k)):x= .str k:=by cases h;rfl
theorem BM {H:Hp} {xs:List V} {d:Dt} (h:Ims H xs [d]):∃x,xs=[x]/\Im H x d:=by
 cases h with
 |cons a i=>cases i;exact⟨_,rfl,a⟩
theorem AW {H:Hp} {xs:List V} {d e:Dt} (h:Ims H xs [d,e]):∃x y,xs=[x,y]/\Im H x d/\Im H y e:=by
 cases h with
 |cons a i=>obtain⟨y,rfl,b⟩:=BM i;exact⟨_,_,rfl,a,b⟩
theorem FU {H:Hp} {xs:List V} {d e g:Dt} (h:Ims H xs [d,e,g]):∃x y z,xs=[x,y,z]/\Im H x d/\Im H y e/\Im H z g:=by
 cases h with
 |cons a i=>obtain⟨y,z,rfl,b⟩:=AW i;exact⟨_,_,_,rfl,a,b⟩
theorem FL.tup {CL:Addr} {c:Cs} {H H':Hp} {A:La} {s:Ls} (F:FL A H H') (M:Lm CL c H A s) {t:Addr} {xs:List V} (e:H t=some (.tup xs)):H' t=some (.tup xs):=M.tk F _ _ e
theorem fG {p h b hd sd:Addr}:(fLy p h b hd sd).lookup ("board":Str)=some (.ref b):=oY.2.2.2.1
theorem vo {p h b hd sd:Addr}:(fLy p h b hd sd).lookup ("held":Str)=some (.ref hd):=oY.2.2.2.2.1
theorem ir {CL CP:Addr} {c:Cs} {f:Nat} {H:Hp} {A:La} {s s':Ls} {p r:Int} {names:List Str} {roots:List Nat} {ρs:List Ro} {ho:Nat->Option Hm} {Q:VK} (M:Lm CL c H A s) (C:Cp CP H A names roots ρs ho) (hl:iL ρs roots ho f p s=some (r,s')) (hz:Sz 1000000 s') (q:∀H',Lm CL c H' A s'->FL A H H'->Cp CP H' A names roots ρs ho->TK H H'->Q (.int r) H'):jS CL CP c f [.ref A.l,.int p] H Q E0:=
 ⟨A,s,s',p,r,names,roots,ρs,ho,rfl,M,C,hl,hz,fun H' M' F'=>q H' M' F' (C.fl M F') (M.tk F')⟩
theorem jg {CL:Addr} {c:Cs} {H:Hp} {A:La} {s:Ls} {Q:VK} {a:Addr} {xs:List V} {ds:List Dt} {w:Str} {o p:Int} (M:Lm CL c H A s) (hz:Sz 1000000 s) (ha:H a=none) (i:Ims H xs ds) (hd:iE (.tup ds)<=2) (ho:okD (.tup ds)) (q:∀H',Lm CL c H' A (s.mk' ⟨w,.tup ds,o,p⟩)->FL A H H'->Q .non H'):kW c.B c.M [.ref A.B.b,.str w,.ref a,.int o,.int p] (L2.Internal.upd H a (.tup xs)) Q E0:=
 De (m:=⟨w,.tup ds,o,p⟩) (M.same (eW ha _)) (by have:=hz.m;lia) (ig ha i) hd ho fun H' M' F'=>q H' M' ((FL.same (eW ha _)).trans F')
theorem kA {CL:Addr} {c:Cs} {H:Hp} {A:La} {s:Ls} {Q:VK} {x dx:Addr} {o:HO} {u:Us} (M:Lm CL c H A s) (hz:Sz 1000000 s) (hx:H x=none) (hd:H dx=none) (hu:ql c (L2.Internal.upd (L2.Internal.upd H dx (.own x)) x o) (.ref x) u) (q:∀H',Lm CL c H' A (s.us u)->FL A H H'->Q .non H'):ml c.B [.ref A.B.b,.ref x] (L2.Internal.upd (L2.Internal.upd H dx (.own x)) x o) Q E0:=
 EO (M.same (jb hx hd)) (by have:=hz.u;lia) hu fun H' M' F'=>q H' M' ((FL.same (jb hx hd)).trans F')
theorem uw {L:Lf} {roots:List Nat} {h:Option Hm} {p own:Int} {s s':Ls} {o:Str} {ks:List Int} (h1:o≠"size") (h2:o≠"at") (hl:iF L roots h p own s (.op o ks)=some s'):∃a b,ks=[a,b]:=by
 match ks,hl with
 |[],hl=>exact nomatch(show(none:Option Ls)=some s' from hl)
 |[a],hl=>exact nomatch((fO h1).symm.trans hl)
 |[a,b],_=>exact⟨a,b,rfl⟩
 |[a,b,c],hl=>exact nomatch((fO h2).symm.trans hl)
 |_::_::_::_::_,hl=>exact nomatch(show(none:Option Ls)=some s' from hl)
def cs (T:Txt K mg):Cs:=⟨T.c1.a,T.c3.a,T.c4.a,T.c5.a,T.c6.a,T.c7.a,T.c8.a⟩
theorem xH (T:Txt K mg) (f:Nat):FO P w base (5*f+ 7) T.d8 (iG T.c9.a T.c10.a (cs T) f fun ρ=>∃n,ρ= .num n):=by
 have gE68:=gy (P:=P) (w:=w) (base:=base) T
 refine T.d8.F.ok xw (fun vs H Q E h=>?_) (fun cdv A0 outer s0 H vs Q E hr h=>?_)
 ·obtain⟨A,s,s',p,own,t,ρ,names,roots,ρs,ho,rfl,_⟩:=h
  rfl
 obtain⟨A,s,s',p,own,t,ρ,names,roots,ρs,ho,rfl,M,C,hk,⟨n,rfl⟩,it,hl,hz,q⟩:=h
 refine⟨_,(eZ (fA (fj (fo (PE.mono (fu T.c9.cl T.n9board (cv 0))) T.c8.cl T.e68.me gE68 (hr.mono (by lia)) T.e68.b .nil fK (eR fF (eR (fC eT) (eR (cv 3) (eR (cv 2) eT)))))))),?_⟩
 cases cC.inj hl
 exact⟨_,⟨_,_,M.o,fG⟩,⟨_,_,M.b.b,gM _ _ _ _ _⟩,mD,fun a ha=>jg M (Le.mk'.sz hz) ha .nil (by decide) ⟨by decide,trivial⟩ q⟩
theorem xI (T:Txt K mg) (f:Nat) (gE74:MO P w base mg (5*f+ 3) T.e74 (jS T.c9.a T.c10.a (cs T) f)):FO P w base (5*f+ 7) T.d17 (iG T.c9.a T.c10.a (cs T) f fun ρ=>X2 fun n k=>ρ= .tag n k):=by
 have gE68:=gy (P:=P) (w:=w) (base:=base) T
 refine T.d17.F.ok rY (fun vs H Q E h=>?_) (fun cdv A0 outer s0 H vs Q E hr h=>?_)
 ·obtain⟨A,s,s',p,own,t,ρ,names,roots,ρs,ho,rfl,_⟩:=h
  rfl
 obtain⟨A,s,s',p,own,t,ρ,names,roots,ρs,ho,rfl,M,C,hk,⟨n,k,rfl⟩,it,hl,hz,q⟩:=h
 refine⟨_,(eU (pS (i:=4) rY.nd (fj (fo (PE.mono (cv 0)) T.c9.cl T.e74.me gE74 (hr.mono (by lia)) T.e74.b .nil fK (eR (fh fm (cv 1) eV) eT))))
  (eZ (fA (fj (fo (PE.mono (fu T.c9.cl T.n9board (cv 0))) T.c8.cl T.e68.me gE68 (hr.mono (by lia)) T.e68.b .nil fK (eR fF (eR (fC (eR (fh fm (cv 1) eV) (eR (cv 4) eT))) (eR (cv 3) (eR (cv 2) eT))))))))),?_⟩
 obtain⟨ys,et,iy⟩:=kG it
 obtain⟨y1,y2,rfl,i1,i2⟩:=AW iy
 cases lH i1
 cases jV i2
 obtain⟨x,s1,h1,hl,_⟩:=L1 (gB f) hl
 have l1:Le s1 s':=by cases cC.inj hl;exact Le.mk'
 refine⟨⟨_,_,M.o,hV fW⟩,_,et,fc (eY (j:=2) rfl) (ir M C h1 (l1.sz hz) fun H1 M1 F1 C1 k1=>?_)⟩
 cases cC.inj hl
 exact⟨_,⟨_,_,M1.o,fG⟩,⟨_,_,M1.b.b,gM _ _ _ _ _⟩,_,k1 _ _ et,fc (eY (j:=1) rfl) ⟨lI,fun a ha=>jg M1 (Le.mk'.sz hz) ha (.cons (.flat rfl) (.cons (.flat rfl) .nil)) (by simp[iE,fZ,sD,kD]) (by simp[okD,ud,sD,kD]) fun H' M' F'=>q H' M' (F1.trans F')⟩⟩
theorem xJ (T:Txt K mg) (f:Nat) (gE74:MO P w base mg (5*f+ 3) T.e74 (jS T.c9.a T.c10.a (cs T) f)):FO P w base (5*f+ 7) T.d16 (iG T.c9.a T.c10.a (cs T) f fun ρ=>X2 fun k n=>ρ= .get k n):=by
 have gE69:=hG (P:=P) (w:=w) (base:=base) T
 have gE60:=nL (P:=P) (w:=w) (base:=base) T
 refine T.d16.F.ok rX (fun vs H Q E h=>?_) (fun cdv A0 outer s0 H vs Q E hr h=>?_)
 ·obtain⟨A,s,s',p,own,t,ρ,names,roots,ρs,ho,rfl,_⟩:=h
  rfl
 obtain⟨A,s,s',p,own,t,ρ,names,roots,ρs,ho,rfl,M,C,hk,⟨k,n,rfl⟩,it,hl,hz,q⟩:=h
 refine⟨_,(eU (pS (i:=4) rX.nd (fj (fo (PE.mono (cv 0)) T.c9.cl T.e74.me gE74 (hr.mono (by lia)) T.e74.b .nil fK (eR (fh fm (cv 1) eV) eT))))
  (eZ (fA (fj (fo (PE.mono (fu T.c9.cl T.n9board (cv 0))) T.c8.cl T.e69.me gE69 (hr.mono (by lia)) T.e69.b .nil fK (eR (jk T.mk5 gE60 (hr.mono (by lia)) rfl T.c5.m T.e60.b .nil fK (eR (cv 4) (eR (cv 2) (eR eV (eR (fC (eR (fC (eR (fh fm (cv 1) eV) (eR (cv 3) eT))) eT)) eT))))) eT)))))),?_⟩
 obtain⟨ys,et,iy⟩:=kG it
 obtain⟨y1,y2,rfl,i1,i2⟩:=AW iy
 cases jV i1
 cases lH i2
 obtain⟨x,s1,h1,hl,_⟩:=L1 (gB f) hl
 have l1:Le s1 s':=by cases cC.inj hl;exact Le.us
 refine⟨⟨_,_,M.o,hV fW⟩,_,et,fc (eY (j:=1) rfl) (ir M C h1 (l1.sz hz) fun H1 M1 F1 C1 k1=>?_)⟩
 cases cC.inj hl
 refine⟨_,⟨_,_,M1.o,fG⟩,⟨_,_,M1.b.b,iq _ _ _ _ _⟩,_,k1 _ _ et,fc (eY (j:=2) rfl) ⟨lI,fun a ha=>⟨mE,fun b hb x dx hx hdx nx=>⟨x,dx,_,_,_,_,rfl,eS,rfl,?_⟩⟩⟩⟩
 rw[gv]
 have S1:=eW ha (.tup [.str n,.int own])
 have S2:=eW hb (.tup [.ref a])
 have S3:=S1.trans S2
 have i3:=ig hb (.cons (ig ha (.cons (.flat rfl) (.cons (.flat rfl) .nil))) .nil)
 exact kA (u:= .take _ _ _ [(n,own)]) (M1.same S3) (Le.us.sz hz) hx hdx ⟨x,dx,_,rfl,eS,i3.mono (fE.tk (jb hx hdx)),by show 1<=10;decide⟩ fun H' M' F'=>q H' M' (F1.trans ((FL.same S3).trans F'))
theorem vp (T:Txt K mg) (f:Nat) (gE74:MO P w base mg (5*f+ 3) T.e74 (jS T.c9.a T.c10.a (cs T) f)):FO P w base (5*f+ 7) T.d13 (iG T.c9.a T.c10.a (cs T) f fun ρ=>∃ks,ρ= .op "call" ks):=by
 have gE69:=hG (P:=P) (w:=w) (base:=base) T
 have gE58:=nK (P:=P) (w:=w) (base:=base) T
 refine T.d13.F.ok nv (fun vs H Q E h=>?_) (fun cdv A0 outer s0 H vs Q E hr h=>?_)
 ·obtain⟨A,s,s',p,own,t,ρ,names,roots,ρs,ho,rfl,_⟩:=h
  rfl
 obtain⟨A,s,s',p,own,t,ρ,names,roots,ρs,ho,rfl,M,C,hk,⟨ks,rfl⟩,it,hl,hz,q⟩:=h
 refine⟨_,(eU (pS (i:=4) nv.nd (fj (fo (PE.mono (cv 0)) T.c9.cl T.e74.me gE74 (hr.mono (by lia)) T.e74.b .nil fK (eR (fh fm (cv 1) eV) eT))))
  (eU (pS (i:=5) nv.nd (fj (fo (PE.mono (cv 0)) T.c9.cl T.e74.me gE74 (hr.mono (by lia)) T.e74.b .nil fK (eR (fh fm (cv 1) eV) eT))))
  (eZ (fA (fj (fo (PE.mono (fu T.c9.cl T.n9board (cv 0))) T.c8.cl T.e69.me gE69 (hr.mono (by lia)) T.e69.b .nil fK (eR (jk T.mk4 gE58 (hr.mono (by lia)) rfl T.c4.m T.e58.b .nil fK (eR (cv 4) (eR (cv 2) (eR eV (eR (cv 5) (eR (cv 3) eT)))))) eT))))))),?_⟩
 obtain⟨k1,k2,rfl⟩:=uw fW fW hl
 obtain⟨ys,et,iy⟩:=kG it
 obtain⟨y1,y2,rfl,i1,i2⟩:=AW iy
 cases jV i1
 cases jV i2
 obtain⟨x,s1,h1,hl,_⟩:=L1 (gB f) hl
 obtain⟨y,s2,h2,hl,l2⟩:=L1 (gB f) hl
 have l1:Le s2 s':=by cases cC.inj hl;exact Le.us
 refine⟨⟨_,_,M.o,hV fW⟩,_,et,fc (eY (j:=1) rfl) (ir M C h1 ((l2.trans l1).sz hz) fun H1 M1 F1 C1 k1=>?_)⟩
 have e1:=k1 _ _ et
 refine⟨⟨_,_,M1.o,hV fW⟩,_,e1,fc (eY (j:=2) rfl) (ir M1 C1 h2 (l1.sz hz) fun H2 M2 F2 C2 k2=>?_)⟩
 cases cC.inj hl
 refine⟨_,⟨_,_,M2.o,fG⟩,⟨_,_,M2.b.b,iq _ _ _ _ _⟩,fun x dx hx hdx nx=>⟨x,dx,_,_,_,_,_,rfl,eS,rfl,?_⟩⟩
 rw[gv]
 exact kA (u:= .call _ _ _ _ _) M2 (Le.us.sz hz) hx hdx ⟨x,dx,rfl,eS⟩ fun H' M' F'=>q H' M' (F1.trans (F2.trans F'))
theorem xK (T:Txt K mg) (f:Nat) (gE74:MO P w base mg (5*f+ 3) T.e74 (jS T.c9.a T.c10.a (cs T) f)):FO P w base (5*f+ 7) T.d14 (iG T.c9.a T.c10.a (cs T) f fun ρ=>X3 fun n a b=>ρ= .lt n a b):=by
 have gE70:=ie (P:=P) (w:=w) (base:=base) T
 refine T.d14.F.ok xx (fun vs H Q E h=>?_) (fun cdv A0 outer s0 H vs Q E hr h=>?_)
 ·obtain⟨A,s,s',p,own,t,ρ,names,roots,ρs,ho,rfl,_⟩:=h
  rfl
 obtain⟨A,s,s',p,own,t,ρ,names,roots,ρs,ho,rfl,M,C,hk,⟨n,a,b,rfl⟩,it,hl,hz,q⟩:=h
 refine⟨_,(eU (fA (fj (fo (PE.mono (cv 0)) T.c9.cl T.e74.me gE74 (hr.mono (by lia)) T.e74.b .nil fK (eR (fh fm (cv 1) eV) eT))))
  (eZ (fA (fj (fo (PE.mono (fu T.c9.cl T.n9board (cv 0))) T.c8.cl T.e70.me gE70 (hr.mono (by lia)) T.e70.b .nil fK (eR (fj (fo (PE.mono (cv 0)) T.c9.cl T.e74.me gE74 (hr.mono (by lia)) T.e74.b .nil fK (eR (fh fm (cv 1) eV) eT))) (eR (cv 3) eT))))))),?_⟩
 obtain⟨ys,et,iy⟩:=kG it
 obtain⟨y1,y2,y3,rfl,i1,i2,i3⟩:=FU iy
 cases lH i1
 cases jV i2
 cases jV i3
 obtain⟨x,s1,h1,hl,_⟩:=L1 (gB f) hl
 obtain⟨y,s2,h2,hl,l2⟩:=L1 (gB f) hl
 have l1:Le s2 s':=by cases cC.inj hl;exact Le.fl
 refine⟨⟨_,_,M.o,hV fW⟩,_,et,fc (eY (j:=2) rfl) (ir M C h1 ((l2.trans l1).sz hz) fun H1 M1 F1 C1 k1=>?_)⟩
 have e1:=k1 _ _ et
 refine⟨_,⟨_,_,M1.o,fG⟩,⟨_,_,M1.b.b,jJ _ _ _ _ _⟩,⟨_,_,M1.o,hV fW⟩,_,e1,fc (eY (j:=3) rfl) (ir M1 C1 h2 (l1.sz hz) fun H2 M2 F2 C2 k2=>?_)⟩
 cases cC.inj hl
 exact oZ M2 (by have:=(Le.fl.sz hz:Sz _ s2).f;lia) fun H' M' F'=>q H' M' (F1.trans (F2.trans F'))
theorem EW {L:Lf} {roots:List Nat} {h:Option Hm} {p own:Int} {s s':Ls} {ks:List Int} (hl:iF L roots h p own s (.op "size" ks)=some s'):∃a,ks=[a]:=by
 match ks,hl with
 |[],hl=>exact nomatch(show(none:Option Ls)=some s' from hl)
 |[a],hl=>exact⟨a,rfl⟩
 |[a,b],hl=>exact nomatch(show(none:Option Ls)=some s' from hl)
 |[a,b,c],hl=>exact nomatch(show(none:Option Ls)=some s' from hl)
 |_::_::_::_::_,hl=>exact nomatch(show(none:Option Ls)=some s' from hl)
theorem AX {L:Lf} {roots:List Nat} {h:Option Hm} {p own:Int} {s s':Ls} {ks:List Int} (hl:iF L roots h p own s (.op "at" ks)=some s'):∃a b c,ks=[a,b,c]:=by
 match ks,hl with
 |[],hl=>exact nomatch(show(none:Option Ls)=some s' from hl)
 |[a],hl=>exact nomatch(show(none:Option Ls)=some s' from hl)
 |[a,b],hl=>exact nomatch(show(none:Option Ls)=some s' from hl)
 |[a,b,c],hl=>exact⟨a,b,c,rfl⟩
 |_::_::_::_::_,hl=>exact nomatch(show(none:Option Ls)=some s' from hl)
theorem uz {L:Lf} (hL:Lmo L) {a b p:Int} {s s':Ls} (h:mC L a b p s=some s'):∃x s1 y s2,L a s=some (x,s1)/\L b s1=some (y,s2)/\s'=(s2.us (.num x p 0)).us (.num y p 1)/\Le s1 s2/\Le s s1:=by
 obtain⟨x,s1,h1,hl,l1⟩:=L1 hL h
 obtain⟨y,s2,h2,hl,l2⟩:=L1 hL hl
 exact⟨x,s1,y,s2,h1,h2,(cC.inj hl).symm,l2,l1⟩
theorem N1 {L:Lf} (hL:Lmo L) {a b p:Int} {s s':Ls} {g:Ls->Option Ls} (h:(match mC L a b p s with|some s=>g s|none=>none)=some s'):∃s1,mC L a b p s=some s1/\g s1=some s':=by
 cases e:mC L a b p s with
 |none=>rw[e]at h;cases h
 |some z=>rw[e]at h;exact⟨z,rfl,h⟩
theorem tn1 {σ:St} {H:Hp} {k:List V->Hp->Prop} (h:k [] H):tP σ H k:=h
theorem tc1 {i:Nat} {v:V} {σ:St} {H:Hp} {k:List V->Hp->Prop} (e:σ[i]?=some (some v)) (h:k [v] H):jL (cV i) tP σ H k:=by
 show onV σ[i]? _
 rw[e]
 exact h
theorem tc2 {i j:Nat} {v u:V} {σ:St} {H:Hp} {k:List V->Hp->Prop} (e:σ[i]?=some (some v)) (e2:σ[j]?=some (some u)) (h:k [v,u] H):jL (cV i) (jL (cV j) tP) σ H k:=by
 show onV σ[i]? _
 rw[e]
 exact tc1 (k:=fun xs H2=>k (v::xs) H2) e2 h
theorem Di {s:Ls} {p:Int} (h:(s.pt p).D.pts.length<=1000000):s.D.pts.length<1000000:=by
 have h:(s.D.pts++[p]).length<=1000000:=h
 rw[aO,aV]at h
 lia
inductive XNu (CL CP:Addr) (c:Cs) (f:Nat) (vs:List V) (H:Hp) (Q:VK):Prop
 |mk (A:La) (s s':Ls) (p a b:Int) (t:Addr) (o:V) (names:List Str) (roots:List Nat) (ρs:List Ro) (ho:Nat->Option Hm) (e:vs=[.ref A.l,.ref t,.int p]) (M:Lm CL c H A s) (C:Cp CP H A names roots ρs ho) (it:H t=some (.tup [o,.int a,.int b])) (hl:mC (iL ρs roots ho f) a b p s=some s') (hz:Sz 1000000 s') (q:∀H',Lm CL c H' A s'->FL A H H'->Q .non H')
def GN (CL CP:Addr) (c:Cs) (f:Nat):Sp:=fun vs H Q _=>XNu CL CP c f vs H Q
theorem mJ (T:Txt K mg) (f:Nat) (gE74:MO P w base mg (5*f+ 3) T.e74 (jS T.c9.a T.c10.a (cs T) f)):FO P w base (5*f+ 5) T.d25 (GN T.c9.a T.c10.a (cs T) f):=by
 have gE69:=hG (P:=P) (w:=w) (base:=base) T
 have gE56:=gN (P:=P) (w:=w) (base:=base) T
 refine T.d25.F.ok ky (fun vs H Q E h=>?_) (fun cdv A0 outer s0 H vs Q E hr h=>?_)
 ·obtain⟨A,s,s',p,a,b,t,o,names,roots,ρs,ho,rfl,_⟩:=h
  rfl
 obtain⟨A,s,s',p,a,b,t,o,names,roots,ρs,ho,rfl,M,C,et,hl,hz,q⟩:=h
 refine⟨_,(eU (pS (i:=3) ky.nd (fj (fo (PE.mono (cv 0)) T.c9.cl T.e74.me gE74 (hr.mono (by lia)) T.e74.b .nil fK (eR (fh fm (cv 1) eV) eT))))
  (eU (pS (i:=4) ky.nd (fj (fo (PE.mono (cv 0)) T.c9.cl T.e74.me gE74 (hr.mono (by lia)) T.e74.b .nil fK (eR (fh fm (cv 1) eV) eT))))
  (eU (fA (fj (fo (PE.mono (fu T.c9.cl T.n9board (cv 0))) T.c8.cl T.e69.me gE69 (hr.mono (by lia)) T.e69.b .nil fK (eR (jk T.mk3 gE56 (hr.mono (by lia)) rfl T.c3.m T.e56.b .nil fK (eR (cv 3) (eR (cv 2) (eR eV eT)))) eT))))
  (eZ (fA (fj (fo (PE.mono (fu T.c9.cl T.n9board (cv 0))) T.c8.cl T.e69.me gE69 (hr.mono (by lia)) T.e69.b .nil fK (eR (jk T.mk3 gE56 (hr.mono (by lia)) rfl T.c3.m T.e56.b .nil fK (eR (cv 4) (eR (cv 2) (eR eV eT)))) eT)))))))),?_⟩
 obtain⟨x,s1,y,s2,h1,h2,rfl,l2,l1⟩:=uz (gB f) hl
 have l3:Le s2 ((s2.us (.num x p 0)).us (.num y p 1)):=Le.us.trans Le.us
 refine⟨⟨_,_,M.o,hV fW⟩,_,et,fc (eY (j:=1) rfl) (ir M C h1 ((l2.trans l3).sz hz) fun H1 M1 F1 C1 k1=>?_)⟩
 have e1:=k1 _ _ et
 refine⟨⟨_,_,M1.o,hV fW⟩,_,e1,fc (eY (j:=2) rfl) (ir M1 C1 h2 (l3.sz hz) fun H2 M2 F2 C2 k2=>?_)⟩
 refine⟨_,⟨_,_,M2.o,fG⟩,⟨_,_,M2.b.b,iq _ _ _ _ _⟩,fun z dz hx hdx nx=>⟨z,_,dz,_,_,_,rfl,eS,T.c3.cl,T.n3at,T.n3place,T.n3slot,rfl,?_⟩⟩
 rw[gv]
 refine tn1 (kA (u:= .num x p 0) M2 (l3.sz hz) hx hdx ⟨z,dz,rfl,eS⟩ fun H3 M3 F3=>?_)
 refine⟨_,⟨_,_,M3.o,fG⟩,⟨_,_,M3.b.b,iq _ _ _ _ _⟩,fun z dz hx hdx nx=>⟨z,_,dz,_,_,_,rfl,eS,T.c3.cl,T.n3at,T.n3place,T.n3slot,rfl,?_⟩⟩
 rw[gv]
 exact kA (u:= .num _ _ _) M3 (Le.us.sz hz) hx hdx ⟨z,dz,rfl,eS⟩ fun H' M' F'=>q H' M' (F1.trans (F2.trans (F3.trans F')))
theorem xM (T:Txt K mg) (f:Nat) (gE74:MO P w base mg (5*f+ 3) T.e74 (jS T.c9.a T.c10.a (cs T) f)):FO P w base (5*f+ 7) T.d23 (iG T.c9.a T.c10.a (cs T) f fun ρ=>X2 fun o ks=>ρ= .op o ks/\(o="add"\/o="sub")):=by
 have gE68:=gy (P:=P) (w:=w) (base:=base) T
 have gD25:=mJ (P:=P) (w:=w) (base:=base) T f gE74
 refine T.d23.F.ok xy (fun vs H Q E h=>?_) (fun cdv A0 outer s0 H vs Q E hr h=>?_)
 ·obtain⟨A,s,s',p,own,t,ρ,names,roots,ρs,ho,rfl,_⟩:=h
  rfl
 obtain⟨A,s,s',p,own,t,ρ,names,roots,ρs,ho,rfl,M,C,hk,⟨o,ks,rfl,ho2⟩,it,hl,hz,q⟩:=h
 refine⟨_,(eU (fA (pF T.d25 gD25 (hr.mono (by lia)) (eR (cv 0) (eR (cv 1) (eR (cv 2) eT)))))
  (eZ (fA (fj (fo (PE.mono (fu T.c9.cl T.n9board (cv 0))) T.c8.cl T.e68.me gE68 (hr.mono (by lia)) T.e68.b .nil fK (eR fF (eR (fC eT) (eR (cv 3) (eR (cv 2) eT))))))))),?_⟩
 have two:∃a b,ks=[a,b]:=by rcases ho2 with rfl|rfl<;>exact uw fW fW hl
 obtain⟨a,b,rfl⟩:=two
 obtain⟨ys,et,iy⟩:=kG it
 obtain⟨y1,y2,rfl,i1,i2⟩:=AW iy
 cases jV i1
 cases jV i2
 obtain⟨s1,h1,hl⟩:∃s1,mC (iL ρs roots ho f) a b p s=some s1/\some (s1.mk' (mkN own p))=some s':=by
  rcases ho2 with rfl|rfl<;>exact N1 (g:=fun s1=>some (s1.mk' (mkN own p))) (gB f) hl
 cases cC.inj hl
 refine⟨A,s,s1,p,a,b,t,_,names,roots,ρs,ho,rfl,M,C,et,h1,Le.mk'.sz hz,fun H1 M1 F1=>?_⟩
 exact⟨_,⟨_,_,M1.o,fG⟩,⟨_,_,M1.b.b,gM _ _ _ _ _⟩,mD,fun a ha=>jg M1 (Le.mk'.sz hz) ha .nil (by decide) ⟨by decide,trivial⟩ fun H' M' F'=>q H' M' (F1.trans F')⟩
theorem vq (T:Txt K mg) (f:Nat) (gE74:MO P w base mg (5*f+ 3) T.e74 (jS T.c9.a T.c10.a (cs T) f)):FO P w base (5*f+ 7) T.d22 (iG T.c9.a T.c10.a (cs T) f fun ρ=>∃ks,ρ= .op "size" ks):=by
 have gE68:=gy (P:=P) (w:=w) (base:=base) T
 have gE69:=hG (P:=P) (w:=w) (base:=base) T
 have gE67:=gA (P:=P) (w:=w) (base:=base) T
 have gE64:=ja (P:=P) (w:=w) (base:=base) T
 refine T.d22.F.ok nA (fun vs H Q E h=>?_) (fun cdv A0 outer s0 H vs Q E hr h=>?_)
 ·obtain⟨A,s,s',p,own,t,ρ,names,roots,ρs,ho,rfl,_⟩:=h
  rfl
 obtain⟨A,s,s',p,own,t,ρ,names,roots,ρs,ho,rfl,M,C,hk,⟨ks,rfl⟩,it,hl,hz,q⟩:=h
 refine⟨_,(eU (pS (i:=4) nA.nd (fj (fo (PE.mono (fu T.c9.cl T.n9board (cv 0))) T.c8.cl T.e67.me gE67 (hr.mono (by lia)) T.e67.b .nil fK (eR (cv 2) eT))))
  (eU (pS (i:=5) nA.nd (fj (fo (PE.mono (cv 0)) T.c9.cl T.e74.me gE74 (hr.mono (by lia)) T.e74.b .nil fK (eR (fh fm (cv 1) eV) eT))))
  (eU (fA (fj (fo (PE.mono (fu T.c9.cl T.n9board (cv 0))) T.c8.cl T.e69.me gE69 (hr.mono (by lia)) T.e69.b .nil fK (eR (jk T.mk7 gE64 (hr.mono (by lia)) rfl T.c7.m T.e64.b .nil fK (eR (cv 5) (eR (cv 2) (eR eV (eR (cv 4) eT))))) eT))))
  (eZ (fA (fj (fo (PE.mono (fu T.c9.cl T.n9board (cv 0))) T.c8.cl T.e68.me gE68 (hr.mono (by lia)) T.e68.b .nil fK (eR fF (eR (fC eT) (eR (cv 3) (eR (cv 2) eT))))))))))),?_⟩
 obtain⟨a,rfl⟩:=EW hl
 obtain⟨ys,et,iy⟩:=kG it
 obtain⟨y1,rfl,i1⟩:=BM iy
 cases jV i1
 obtain⟨x,s2,h2,hl,l2⟩:=L1 (gB f) hl
 have l3:Le s2 s':=by cases cC.inj hl;exact Le.us.trans Le.mk'
 refine⟨_,⟨_,_,M.o,fG⟩,⟨_,_,M.b.b,g9 _ _ _ _ _⟩,?_⟩
 refine tc1 (v:= .int p) rfl (zj M (by have:=((Le.pt.trans (l2.trans l3)).sz hz).p;lia) fun H1 M1 F1=>?_)
 have C1:=C.fl M F1
 have e1:=F1.tup M et
 refine⟨⟨_,_,M1.o,hV fW⟩,_,e1,fc (eY (j:=1) rfl) (ir M1 C1 h2 (l3.sz hz) fun H2 M2 F2 C2 k2=>?_)⟩
 cases cC.inj hl
 refine⟨_,⟨_,_,M2.o,fG⟩,⟨_,_,M2.b.b,iq _ _ _ _ _⟩,fun z dz hx hdx nx=>⟨z,dz,_,_,_,_,rfl,eS,rfl,?_⟩⟩
 rw[gv]
 refine tn1 (kA (u:= .row _ _ _ _) M2 (l3.sz hz) hx hdx ⟨z,dz,rfl,eS⟩ fun H3 M3 F3=>?_)
 exact⟨_,⟨_,_,M3.o,fG⟩,⟨_,_,M3.b.b,gM _ _ _ _ _⟩,mD,fun a ha=>jg M3 (Le.mk'.sz hz) ha .nil (by decide) ⟨by decide,trivial⟩ fun H' M' F'=>q H' M' (F1.trans (F2.trans (F3.trans F')))⟩
theorem vt (T:Txt K mg) (f:Nat) (gE74:MO P w base mg (5*f+ 3) T.e74 (jS T.c9.a T.c10.a (cs T) f)):FO P w base (5*f+ 7) T.d21 (iG T.c9.a T.c10.a (cs T) f fun ρ=>∃ks,ρ= .op "join" ks):=by
 have gE68:=gy (P:=P) (w:=w) (base:=base) T
 have gE69:=hG (P:=P) (w:=w) (base:=base) T
 have gE67:=gA (P:=P) (w:=w) (base:=base) T
 have gE64:=ja (P:=P) (w:=w) (base:=base) T
 refine T.d21.F.ok kU (fun vs H Q E h=>?_) (fun cdv A0 outer s0 H vs Q E hr h=>?_)
 ·obtain⟨A,s,s',p,own,t,ρ,names,roots,ρs,ho,rfl,_⟩:=h
  rfl
 obtain⟨A,s,s',p,own,t,ρ,names,roots,ρs,ho,rfl,M,C,hk,⟨ks,rfl⟩,it,hl,hz,q⟩:=h
 refine⟨_,(eU (pS (i:=4) kU.nd (fj (fo (PE.mono (fu T.c9.cl T.n9board (cv 0))) T.c8.cl T.e67.me gE67 (hr.mono (by lia)) T.e67.b .nil fK (eR (cv 2) eT))))
  (eU (pS (i:=5) kU.nd (fj (fo (PE.mono (cv 0)) T.c9.cl T.e74.me gE74 (hr.mono (by lia)) T.e74.b .nil fK (eR (fh fm (cv 1) eV) eT))))
  (eU (pS (i:=6) kU.nd (fj (fo (PE.mono (cv 0)) T.c9.cl T.e74.me gE74 (hr.mono (by lia)) T.e74.b .nil fK (eR (fh fm (cv 1) eV) eT))))
  (eU (fA (fj (fo (PE.mono (fu T.c9.cl T.n9board (cv 0))) T.c8.cl T.e69.me gE69 (hr.mono (by lia)) T.e69.b .nil fK (eR (jk T.mk7 gE64 (hr.mono (by lia)) rfl T.c7.m T.e64.b .nil fK (eR (cv 5) (eR (cv 2) (eR eV (eR (cv 4) eT))))) eT))))
  (eU (fA (fj (fo (PE.mono (fu T.c9.cl T.n9board (cv 0))) T.c8.cl T.e69.me gE69 (hr.mono (by lia)) T.e69.b .nil fK (eR (jk T.mk7 gE64 (hr.mono (by lia)) rfl T.c7.m T.e64.b .nil fK (eR (cv 6) (eR (cv 2) (eR eV (eR (cv 4) eT))))) eT))))
  (eZ (fA (fj (fo (PE.mono (fu T.c9.cl T.n9board (cv 0))) T.c8.cl T.e68.me gE68 (hr.mono (by lia)) T.e68.b .nil fK (eR fF (eR (fC (eR (cv 4) eT)) (eR (cv 3) (eR (cv 2) eT))))))))))))),?_⟩
 obtain⟨a,b,rfl⟩:=uw fW fW hl
 obtain⟨ys,et,iy⟩:=kG it
 obtain⟨y1,y2,rfl,i1,i2⟩:=AW iy
 cases jV i1
 cases jV i2
 obtain⟨x,s2,h2,hl,l2⟩:=L1 (gB f) hl
 obtain⟨y,s3,h3,hl,l3⟩:=L1 (gB f) hl
 have l4:Le s3 s':=by cases cC.inj hl;exact Le.us.trans (Le.us.trans Le.mk')
 refine⟨_,⟨_,_,M.o,fG⟩,⟨_,_,M.b.b,g9 _ _ _ _ _⟩,?_⟩
 refine tc1 (v:= .int p) rfl (zj M (by have:=((Le.pt.trans (l2.trans (l3.trans l4))).sz hz).p;lia) fun H1 M1 F1=>?_)
 have C1:=C.fl M F1
 have e1:=F1.tup M et
 refine⟨⟨_,_,M1.o,hV fW⟩,_,e1,fc (eY (j:=1) rfl) (ir M1 C1 h2 ((l3.trans l4).sz hz) fun H2 M2 F2 C2 k2=>?_)⟩
 have e2:=k2 _ _ e1
 refine⟨⟨_,_,M2.o,hV fW⟩,_,e2,fc (eY (j:=2) rfl) (ir M2 C2 h3 (l4.sz hz) fun H3 M3 F3 C3 k3=>?_)⟩
 cases cC.inj hl
 refine⟨_,⟨_,_,M3.o,fG⟩,⟨_,_,M3.b.b,iq _ _ _ _ _⟩,fun z dz hx hdx nx=>⟨z,dz,_,_,_,_,rfl,eS,rfl,?_⟩⟩
 rw[gv]
 refine tn1 (kA (u:= .row _ _ _ _) M3 (l4.sz hz) hx hdx ⟨z,dz,rfl,eS⟩ fun H4 M4 F4=>?_)
 refine⟨_,⟨_,_,M4.o,fG⟩,⟨_,_,M4.b.b,iq _ _ _ _ _⟩,fun z dz hx hdx nx=>⟨z,dz,_,_,_,_,rfl,eS,rfl,?_⟩⟩
 rw[gv]
 refine tn1 (kA (u:= .row _ _ _ _) M4 ((Le.us.trans Le.mk').sz hz) hx hdx ⟨z,dz,rfl,eS⟩ fun H5 M5 F5=>?_)
 exact⟨_,⟨_,_,M5.o,fG⟩,⟨_,_,M5.b.b,gM _ _ _ _ _⟩,mE,fun a ha=>jg M5 (Le.mk'.sz hz) ha (.cons (.flat rfl) .nil) (by simp[iE,fZ,sD,kD]) (by simp[okD,ud,sD,kD]) fun H' M' F'=>q H' M' (F1.trans (F2.trans (F3.trans (F4.trans (F5.trans F')))))⟩
theorem zy (T:Txt K mg) (f:Nat) (gE74:MO P w base mg (5*f+ 3) T.e74 (jS T.c9.a T.c10.a (cs T) f)):FO P w base (5*f+ 7) T.d20 (iG T.c9.a T.c10.a (cs T) f fun ρ=>∃ks,ρ= .op "at" ks):=by
 have gE70:=ie (P:=P) (w:=w) (base:=base) T
 have gE69:=hG (P:=P) (w:=w) (base:=base) T
 have gE56:=gN (P:=P) (w:=w) (base:=base) T
 have gE64:=ja (P:=P) (w:=w) (base:=base) T
 refine T.d20.F.ok nT (fun vs H Q E h=>?_) (fun cdv A0 outer s0 H vs Q E hr h=>?_)
 ·obtain⟨A,s,s',p,own,t,ρ,names,roots,ρs,ho,rfl,_⟩:=h
  rfl
 obtain⟨A,s,s',p,own,t,ρ,names,roots,ρs,ho,rfl,M,C,hk,⟨ks,rfl⟩,it,hl,hz,q⟩:=h
 refine⟨_,(eU (pS (i:=4) nT.nd (fj (fo (PE.mono (cv 0)) T.c9.cl T.e74.me gE74 (hr.mono (by lia)) T.e74.b .nil fK (eR (fh fm (cv 1) eV) eT))))
  (eU (pS (i:=5) nT.nd (fj (fo (PE.mono (cv 0)) T.c9.cl T.e74.me gE74 (hr.mono (by lia)) T.e74.b .nil fK (eR (fh fm (cv 1) eV) eT))))
  (eU (pS (i:=6) nT.nd (fj (fo (PE.mono (cv 0)) T.c9.cl T.e74.me gE74 (hr.mono (by lia)) T.e74.b .nil fK (eR (fh fm (cv 1) eV) eT))))
  (eU (fA (fj (fo (PE.mono (fu T.c9.cl T.n9board (cv 0))) T.c8.cl T.e69.me gE69 (hr.mono (by lia)) T.e69.b .nil fK (eR (jk T.mk7 gE64 (hr.mono (by lia)) rfl T.c7.m T.e64.b .nil fK (eR (cv 4) (eR (cv 2) (eR eV (eR (cv 3) eT))))) eT))))
  (eU (fA (fj (fo (PE.mono (fu T.c9.cl T.n9board (cv 0))) T.c8.cl T.e69.me gE69 (hr.mono (by lia)) T.e69.b .nil fK (eR (jk T.mk3 gE56 (hr.mono (by lia)) rfl T.c3.m T.e56.b .nil fK (eR (cv 5) (eR (cv 2) (eR eV eT)))) eT))))
  (eZ (fA (fj (fo (PE.mono (fu T.c9.cl T.n9board (cv 0))) T.c8.cl T.e70.me gE70 (hr.mono (by lia)) T.e70.b .nil fK (eR (cv 6) (eR (cv 3) eT))))))))))),?_⟩
 obtain⟨a,b,c,rfl⟩:=AX hl
 obtain⟨ys,et,iy⟩:=kG it
 obtain⟨y1,y2,y3,rfl,i1,i2,i3⟩:=FU iy
 cases jV i1
 cases jV i2
 cases jV i3
 obtain⟨x,s1,h1,hl,l1⟩:=L1 (gB f) hl
 obtain⟨y,s2,h2,hl,l2⟩:=L1 (gB f) hl
 obtain⟨z,s3,h3,hl,l3⟩:=L1 (gB f) hl
 have l4:Le s3 s':=by cases cC.inj hl;exact Le.us.trans (Le.us.trans Le.fl)
 refine⟨⟨_,_,M.o,hV fW⟩,_,et,fc (eY (j:=1) rfl) (ir M C h1 ((l2.trans (l3.trans l4)).sz hz) fun H1 M1 F1 C1 k1=>?_)⟩
 have e1:=k1 _ _ et
 refine⟨⟨_,_,M1.o,hV fW⟩,_,e1,fc (eY (j:=2) rfl) (ir M1 C1 h2 ((l3.trans l4).sz hz) fun H2 M2 F2 C2 k2=>?_)⟩
 have e2:=k2 _ _ e1
 refine⟨⟨_,_,M2.o,hV fW⟩,_,e2,fc (eY (j:=3) rfl) (ir M2 C2 h3 (l4.sz hz) fun H3 M3 F3 C3 k3=>?_)⟩
 cases cC.inj hl
 refine⟨_,⟨_,_,M3.o,fG⟩,⟨_,_,M3.b.b,iq _ _ _ _ _⟩,fun z dz hx hdx nx=>⟨z,dz,_,_,_,_,rfl,eS,rfl,?_⟩⟩
 rw[gv]
 refine tn1 (kA (u:= .row _ _ _ _) M3 (l4.sz hz) hx hdx ⟨z,dz,rfl,eS⟩ fun H4 M4 F4=>?_)
 refine⟨_,⟨_,_,M4.o,fG⟩,⟨_,_,M4.b.b,iq _ _ _ _ _⟩,fun z dz hx hdx nx=>⟨z,_,dz,_,_,_,rfl,eS,T.c3.cl,T.n3at,T.n3place,T.n3slot,rfl,?_⟩⟩
 rw[gv]
 refine tn1 (kA (u:= .num y p 1) M4 ((Le.us.trans Le.fl).sz hz) hx hdx ⟨z,dz,rfl,eS⟩ fun H5 M5 F5=>?_)
 exact⟨_,⟨_,_,M5.o,fG⟩,⟨_,_,M5.b.b,jJ _ _ _ _ _⟩,oZ M5 (by have:=(Le.fl.sz hz:Sz _ _).f;lia) fun H' M' F'=>q H' M' (F1.trans (F2.trans (F3.trans (F4.trans (F5.trans F')))))⟩
theorem vv (T:Txt K mg) (f:Nat) (gE74:MO P w base mg (5*f+ 3) T.e74 (jS T.c9.a T.c10.a (cs T) f)):FO P w base (5*f+ 7) T.d24 (iG T.c9.a T.c10.a (cs T) f fun ρ=>∃ks,ρ= .op "less" ks):=by
 have gE68:=gy (P:=P) (w:=w) (base:=base) T
 have gE67:=gA (P:=P) (w:=w) (base:=base) T
 have gD25:=mJ (P:=P) (w:=w) (base:=base) T f gE74
 refine T.d24.F.ok qC (fun vs H Q E h=>?_) (fun cdv A0 outer s0 H vs Q E hr h=>?_)
 ·obtain⟨A,s,s',p,own,t,ρ,names,roots,ρs,ho,rfl,_⟩:=h
  rfl
 obtain⟨A,s,s',p,own,t,ρ,names,roots,ρs,ho,rfl,M,C,hk,⟨ks,rfl⟩,it,hl,hz,q⟩:=h
 refine⟨_,(eU (pS (i:=4) qC.nd (fj (fo (PE.mono (fu T.c9.cl T.n9board (cv 0))) T.c8.cl T.e67.me gE67 (hr.mono (by lia)) T.e67.b .nil fK (eR (cv 2) eT))))
  (eU (fA (pF T.d25 gD25 (hr.mono (by lia)) (eR (cv 0) (eR (cv 1) (eR (cv 2) eT)))))
  (eU (fA (fj (fo (PE.mono (fu T.c9.cl T.n9board (cv 0))) T.c8.cl T.e68.me gE68 (hr.mono (by lia)) T.e68.b .nil fK (eR fF (eR (fC eT) (eR (cv 4) (eR (cv 2) eT)))))))
  (eU (fA (fj (fo (PE.mono (fu T.c9.cl T.n9board (cv 0))) T.c8.cl T.e68.me gE68 (hr.mono (by lia)) T.e68.b .nil fK (eR fF (eR (fC (eR fF (eR (cv 4) eT))) (eR (cv 3) (eR (cv 2) eT)))))))
  (eZ (fA (fj (fo (PE.mono (fu T.c9.cl T.n9board (cv 0))) T.c8.cl T.e68.me gE68 (hr.mono (by lia)) T.e68.b .nil fK (eR fF (eR (fC (eR fF (eR (cv 4) eT))) (eR (cv 3) (eR (cv 2) eT)))))))))))),?_⟩
 obtain⟨a,b,rfl⟩:=uw fW fW hl
 obtain⟨ys,et,iy⟩:=kG it
 obtain⟨y1,y2,rfl,i1,i2⟩:=AW iy
 cases jV i1
 cases jV i2
 obtain⟨s2,h2,hl⟩:=N1 (gB f) hl
 obtain⟨_,_,_,s3,_,_,e2,l3,l2⟩:=uz (gB f) h2
 have l5:Le s3 s2:=by rw[e2];exact Le.us.trans Le.us
 have l4:Le s2 s':=by cases cC.inj hl;exact Le.mk'.trans (Le.mk'.trans Le.mk')
 refine⟨_,⟨_,_,M.o,fG⟩,⟨_,_,M.b.b,g9 _ _ _ _ _⟩,?_⟩
 refine tc1 (v:= .int p) rfl (zj M (by have:=((Le.pt.trans (l2.trans (l3.trans (l5.trans l4)))).sz hz).p;lia) fun H1 M1 F1=>?_)
 have C1:=C.fl M F1
 have e1:=F1.tup M et
 refine⟨A,_,s2,p,a,b,t,_,names,roots,ρs,ho,rfl,M1,C1,e1,h2,l4.sz hz,fun H2 M2 F2=>?_⟩
 cases cC.inj hl
 refine⟨_,⟨_,_,M2.o,fG⟩,⟨_,_,M2.b.b,gM _ _ _ _ _⟩,mD,fun a ha=>tc2 rfl rfl (jg M2 (l4.sz hz) ha .nil (by decide) ⟨by decide,trivial⟩ fun H3 M3 F3=>?_)⟩
 refine⟨_,⟨_,_,M3.o,fG⟩,⟨_,_,M3.b.b,gM _ _ _ _ _⟩,lI,fun a ha=>tc2 rfl rfl (jg M3 ((Le.mk'.trans Le.mk').sz hz) ha (.cons (.flat rfl) (.cons (.flat rfl) .nil)) (by simp[iE,fZ,sD,kD]) (by simp[okD,ud,sD,kD]) fun H4 M4 F4=>?_)⟩
 exact⟨_,⟨_,_,M4.o,fG⟩,⟨_,_,M4.b.b,gM _ _ _ _ _⟩,lI,fun a ha=>jg M4 (Le.mk'.sz hz) ha (.cons (.flat rfl) (.cons (.flat rfl) .nil)) (by simp[iE,fZ,sD,kD]) (by simp[okD,ud,sD,kD]) fun H' M' F'=>q H' M' (F1.trans (F2.trans (F3.trans (F4.trans F'))))⟩
theorem zz (T:Txt K mg) (f:Nat) (gE74:MO P w base mg (5*f+ 3) T.e74 (jS T.c9.a T.c10.a (cs T) f)):FO P w base (5*f+ 7) T.d12 (iG T.c9.a T.c10.a (cs T) f fun ρ=>X2 fun n k=>ρ= .fn n k):=by
 have gE68:=gy (P:=P) (w:=w) (base:=base) T
 have gE67:=gA (P:=P) (w:=w) (base:=base) T
 refine T.d12.F.ok qB (fun vs H Q E h=>?_) (fun cdv A0 outer s0 H vs Q E hr h=>?_)
 ·obtain⟨A,s,s',p,own,t,ρ,names,roots,ρs,ho,rfl,_⟩:=h
  rfl
 obtain⟨A,s,s',p,own,t,ρ,names,roots,ρs,ho,rfl,M,C,hk,⟨n,k,rfl⟩,it,hl,hz,q⟩:=h
 have hu:=xn hr
 refine⟨_,(eU (pS (i:=4) qB.nd (fj (fo (PE.mono (fu T.c9.cl T.n9board (cv 0))) T.c8.cl T.e67.me gE67 (hr.mono (by lia)) T.e67.b .nil fK (eR (cv 2) eT))))
  (eU (vc hu (fu T.c9.cl T.n9held (cv 0)) (fh fm (cv 1) eV) (cv 4) rfl)
  (eU (pS (i:=5) qB.nd (fj (fo (PE.mono (cv 0)) T.c9.cl T.e74.me gE74 (hr.mono (by lia)) T.e74.b .nil fK (eR (fh fm (cv 1) eV) eT))))
  (eZ (fA (fj (fo (PE.mono (fu T.c9.cl T.n9board (cv 0))) T.c8.cl T.e68.me gE68 (hr.mono (by lia)) T.e68.b .nil fK (eR fF (eR (fC (eR (cv 4) (eR (cv 5) eT))) (eR (cv 3) (eR (cv 2) eT))))))))))),?_⟩
 obtain⟨ys,et,iy⟩:=kG it
 obtain⟨y1,y2,rfl,i1,i2⟩:=AW iy
 cases lH i1
 cases jV i2
 obtain⟨x,s2,h2,hl,l2⟩:=L1 (gB f) hl
 have l3:Le s2 s':=by cases cC.inj hl;exact Le.mk'
 have lp:=((Le.pt.trans (Le.ho.trans (l2.trans l3))).sz hz).p
 have lq:=((Le.ho.trans (l2.trans l3)).sz hz).p
 refine⟨_,⟨_,_,M.o,fG⟩,⟨_,_,M.b.b,g9 _ _ _ _ _⟩,?_⟩
 refine tc1 (v:= .int p) rfl (wk M (by lia) fun H1 M1 F1 d1 _=>?_)
 have C1:=C.fl M F1
 have e1:=F1.tup M et
 obtain⟨H2,dp,M2,F2⟩:=M1.hold d1 (Di lq) k s.n
 have C2:=C1.fl M1 F2
 have e2:=F2.tup M1 e1
 refine⟨_,⟨_,_,M1.o,vo⟩,_,e1,fc (eY (j:=2) rfl) ⟨A.hd,H2,rfl,dp,?_⟩⟩
 refine⟨⟨_,_,M2.o,hV fW⟩,_,e2,fc (eY (j:=2) rfl) (ir M2 C2 h2 (l3.sz hz) fun H3 M3 F3 C3 k3=>?_)⟩
 cases cC.inj hl
 exact⟨_,⟨_,_,M3.o,fG⟩,⟨_,_,M3.b.b,gM _ _ _ _ _⟩,lI,fun a ha=>jg M3 (l3.sz hz) ha (.cons (.flat rfl) (.cons (.flat rfl) .nil)) (by simp[iE,fZ,sD,kD]) (by simp[okD,ud,sD,kD]) fun H' M' F'=>q H' M' (F1.trans (F2.trans (F3.trans F')))⟩
theorem O1 {α:Type} {o:Option Ls} {g:Ls->Option α} {a:α} (h:(match o with|some s=>g s|none=>none)=some a):∃s1,o=some s1/\g s1=some a:=by
 cases e:o with
 |none=>rw[e]at h;cases h
 |some z=>rw[e]at h;exact⟨z,rfl,h⟩
theorem uB {α:Type} {l:List α} {i:Nat} {a:α} (h:l[i]?=some a):l.drop i=a::l.drop (i+ 1):=by
 obtain⟨h1,rfl⟩:=ar.mp h
 exact List.drop_eq_getElem_cons h1
theorem BN {H:Hp}:∀{ks:List Int} {xs:List V},Ims H xs (ks.map kD)->xs=ks.map V.int
 |[],_,.nil=>rfl
 |k::ks,_,.cons h t=>by rw[jV h,BN t];rfl
theorem qU {H:Hp} {x:V} {ds:List Dt} (h:Im H x (.tup ds)):∃t xs,x= .ref t/\H t=some (.tup xs)/\Ims H xs ds:=by
 cases h with
 |tup e i=>exact⟨_,_,rfl,e,i⟩
section
variable {CL:Addr} {c:Cs} {H H':Hp} {A:La} {s:Ls}
theorem Lm.out (M:Lm CL c H A s) {a:Addr} (h:H a=none):a∉A.ch:=fun m=>by
 obtain⟨_,b,⟨k1,d1,_⟩,⟨k2,d2,_⟩,_⟩:=M
 rcases ao.mp m with m|m
 ·exact b.out h m
 ·rcases ak.mp m with rfl|m
  ·rw[h]at d1;cases d1
  ·rcases ak.mp m with rfl|m
   ·rw[h]at d2;cases d2
   ·cases m
theorem Lm.other (M:Lm CL c H A s) {a:Addr} {xs ys:List V} (e:H a=some (.lst xs)) (n:a∉A.ch):Lm CL c (L2.Internal.upd H a (.lst ys)) A s:=by
 obtain⟨n1,r1,r2⟩:=M.nl (o:= .lst ys) e
 exact⟨n1,M.b.other e fun z=>n (aq _ z),r1,r2,M.ne⟩
theorem FL.put {H0:Hp} (F:FL A H0 H) {a:Addr} (h:H0 a=none) (o:HO):FL A H0 (L2.Internal.upd H a o):=fun b u e n=>by
 rw[eX (fe e h)]
 exact F b u e n
end
theorem GO {H:Hp} {xs:List V} {l:List (Str×Int)} {i:Nat} {v:V} (h:Ims H xs (l.map fdD)) (e:xs[i]?=some v):∃p t,l[i]?=some p/\v= .ref t/\H t=some (.tup [.str p.1,.int p.2]):=by
 obtain⟨d,e1,e2⟩:=jG h e
 rw[aK]at e1
 obtain⟨p,hp,rfl⟩:=cF.mp e1
 obtain⟨t,y,z,rfl,et,i1,i2⟩:=vn e2
 cases lH i1
 cases jV i2
 exact⟨p,t,hp,rfl,et⟩
theorem GP {H:Hp} {xs:List V} {l:List (Str×Str×Int)} {i:Nat} {v:V} (h:Ims H xs (l.map amD)) (e:xs[i]?=some v):∃p t,l[i]?=some p/\v= .ref t/\H t=some (.tup [.str p.1,.str p.2.1,.int p.2.2]):=by
 obtain⟨d,e1,e2⟩:=jG h e
 rw[aK]at e1
 obtain⟨p,hp,rfl⟩:=cF.mp e1
 obtain⟨t,xs,rfl,et,i1⟩:=qU e2
 obtain⟨x,y,z,rfl,i1,i2,i3⟩:=FU i1
 cases lH i1
 cases lH i2
 cases jV i3
 exact⟨p,t,hp,rfl,et⟩
theorem xN (T:Txt K mg) (f:Nat) (gE74:MO P w base mg (5*f+ 3) T.e74 (jS T.c9.a T.c10.a (cs T) f)):FO P w base (5*f+ 7) T.d19 (iG T.c9.a T.c10.a (cs T) f fun ρ=>∃ks,ρ= .row ks):=by
 have gE68:=gy (P:=P) (w:=w) (base:=base) T
 have gE67:=gA (P:=P) (w:=w) (base:=base) T
 have gE70:=ie (P:=P) (w:=w) (base:=base) T
 refine T.d19.F.ok oU (fun vs H Q E h=>?_) (fun cdv A0 outer s0 H vs Q E hr h=>?_)
 ·obtain⟨A,s,s',p,own,t,ρ,names,roots,ρs,ho,rfl,_⟩:=h
  rfl
 obtain⟨A,s,s',p,own,t,ρ,names,roots,ρs,ho,rfl,M,C,hk,⟨ks,rfl⟩,it,hl,hz,q⟩:=h
 refine⟨_,(eU (pS (i:=4) oU.nd (fj (fo (PE.mono (fu T.c9.cl T.n9board (cv 0))) T.c8.cl T.e67.me gE67 (hr.mono (by lia)) T.e67.b .nil fK (eR (cv 2) eT))))
  (eU (jK PassesOwn.never rfl (vS (fh fm (cv 1) eV)) (pN (i:=5) oU.nd)
   (eZ (fA (fj (fo (PE.mono (fu T.c9.cl T.n9board (cv 0))) T.c8.cl T.e70.me gE70 (hr.mono (by lia)) T.e70.b .nil fK (eR (fj (fo (PE.mono (cv 0)) T.c9.cl T.e74.me gE74 (hr.mono (by lia)) T.e74.b .nil fK (eR (cv 5) eT))) (eR (cv 4) eT)))))))
  (eZ (fA (fj (fo (PE.mono (fu T.c9.cl T.n9board (cv 0))) T.c8.cl T.e68.me gE68 (hr.mono (by lia)) T.e68.b .nil fK (eR fF (eR (fC (eR (cv 4) eT)) (eR (cv 3) (eR (cv 2) eT)))))))))),?_⟩
 obtain⟨ys,et,iy⟩:=kG it
 obtain⟨y1,rfl,i1⟩:=BM iy
 obtain⟨tl,xs,rfl,el,il⟩:=qU i1
 cases BN il
 obtain⟨s1,h1,hl⟩:=O1 hl
 have l1:=zw (gB f) h1
 have l3:Le s1 s':=by cases cC.inj hl;exact Le.mk'
 refine⟨_,⟨_,_,M.o,fG⟩,⟨_,_,M.b.b,g9 _ _ _ _ _⟩,?_⟩
 refine tc1 (v:= .int p) rfl (zj M (by have:=((Le.pt.trans (l1.trans l3)).sz hz).p;lia) fun H1 M1 F1=>?_)
 have C1:=C.fl M F1
 have e1:=F1.tup M et
 have el1:=F1.tup M el
 refine⟨_,e1,fc (eY (j:=1) rfl) ⟨tl,rfl,⟨_,SqT.of el1⟩,u9 (xs:=ks.map V.int) (fun i σ H2=>X2 fun(o5:Option V) (si:Ls)=>Y4 (σ=[some (.ref A.l),some (.ref t),some (.int p),some (.int own),some (.int s.n),o5]) (Lm T.c9.a (cs T) H2 A si) (xV (iL ρs roots ho f) s.n (ks.drop i) si=some s1) (FL A H1 H2))
   ⟨none,_,rfl,M1,h1,FL.refl⟩ (fun i σ H2 _ ⟨_,_,_,_,_,F⟩=>SqT.of (F.tup M1 el1)) ?_ ?_⟩⟩
 ·rintro i v σ H2 hv ⟨o5,si,rfl,M2,h2,F2⟩
  rw[aK]at hv
  obtain⟨k,hk,rfl⟩:=cF.mp hv
  rw[uB hk]at h2
  obtain⟨x,s2,h3,h2,l2⟩:=L1 (gB f) h2
  have l4:=zw (gB f) h2
  have C2:=C1.fl M1 F2
  dsimp only[fN]
  refine⟨_,⟨_,_,M2.o,fG⟩,⟨_,_,M2.b.b,jJ _ _ _ _ _⟩,⟨_,_,M2.o,hV fW⟩,?_⟩
  refine tc1 (v:= .int k) rfl (ir M2 C2 h3 ((Le.fl.trans (l4.trans l3)).sz hz) fun H3 M3 F3 C3 k3=>?_)
  refine tc1 (v:= .int s.n) rfl (oZ M3 (by have:=((Le.fl.trans (l4.trans l3)).sz hz).f;lia) fun H4 M4 F4=>?_)
  exact⟨_,_,rfl,M4,h2,F2.trans (F3.trans F4)⟩
 ·rintro σ H2 ⟨o5,si,rfl,M2,h2,F2⟩
  rw[aC,bB]at h2
  cases cC.inj h2
  cases cC.inj hl
  exact⟨_,⟨_,_,M2.o,fG⟩,⟨_,_,M2.b.b,gM _ _ _ _ _⟩,mE,fun a ha=>jg M2 (l3.sz hz) ha (.cons (.flat rfl) .nil) (by simp[iE,fZ,sD,kD]) (by simp[okD,ud,sD,kD]) fun H' M' F'=>q H' M' (F1.trans (F2.trans F'))⟩
theorem xO (T:Txt K mg) (f:Nat) (gE74:MO P w base mg (5*f+ 3) T.e74 (jS T.c9.a T.c10.a (cs T) f)):FO P w base (5*f+ 7) T.d15 (iG T.c9.a T.c10.a (cs T) f fun ρ=>∃l,ρ= .rcd l):=by
 have gE68:=gy (P:=P) (w:=w) (base:=base) T
 refine T.d15.F.ok oT (fun vs H Q E h=>?_) (fun cdv A0 outer s0 H vs Q E hr h=>?_)
 ·obtain⟨A,s,s',p,own,t,ρ,names,roots,ρs,ho,rfl,_⟩:=h
  rfl
 obtain⟨A,s,s',p,own,t,ρ,names,roots,ρs,ho,rfl,M,C,hk,⟨l,rfl⟩,it,hl,hz,q⟩:=h
 refine⟨_,(eU (pS (i:=4) oT.nd (fH eT))
  (eU (jK PassesOwn.never rfl (vS (fh fm (cv 1) eV)) (pN (i:=5) oT.nd)
   (eZ (fA (ki (lO dO dP dQ f9 (PE.mono (cv 4)) (eR (PE.mono (fC (eR (fh fm (cv 5) eV) (eR (fj (fo (PE.mono (cv 0)) T.c9.cl T.e74.me gE74 (hr.mono (by lia)) T.e74.b .nil fK (eR (fh fm (cv 5) eV) eT))) eT)))) eT))))))
  (eZ (fA (fj (fo (PE.mono (fu T.c9.cl T.n9board (cv 0))) T.c8.cl T.e68.me gE68 (hr.mono (by lia)) T.e68.b .nil fK (eR fF (eR (gq gw rfl T.z_tuple iA (eR (cv 4) eT)) (eR (cv 3) (eR (cv 2) eT)))))))))),?_⟩
 have sl:=sizeLine_eq
 obtain⟨k0,rfl,hk0⟩:=fV hk
 have fw:l.length<=10:=C.few _ _ hk0
 obtain⟨ys,et,iy⟩:=kG it
 obtain⟨y1,rfl,i1⟩:=BM iy
 obtain⟨tl,xs,rfl,el,il⟩:=qU i1
 obtain⟨fs,s1,h1,hl⟩:∃fs s1,wj (iL ρs roots ho f) l [] s=some (fs,s1)/\some (s1.mk' ⟨"rec",prD fs,own,k0⟩)=some s':=by
  unfold iF at hl
  dsimp only at hl
  cases e:wj (iL ρs roots ho f) l [] s with
  |none=>rw[e]at hl;cases hl
  |some z=>obtain⟨fs,s1⟩:=z;rw[e]at hl;exact⟨fs,s1,rfl,hl⟩
 obtain⟨l1,n1⟩:=zu (gB f) h1
 have n1:fs.length=0+l.length:=n1
 have l3:Le s1 s':=by cases cC.inj hl;exact Le.mk'
 refine⟨mD,fun d hd=>?_⟩
 have nd:=M.out hd
 have S1:=eW hd (.lst [])
 refine⟨_,S1 _ _ et,fc (eY (j:=1) rfl) ⟨tl,rfl,⟨_,SqT.of (S1 _ _ el)⟩,u9 (xs:=xs) (fun i σ H2=>X4 fun(o5:Option V) (si:Ls) (acc:List (Str×Int)) (zs:List V)=>Y6 (σ=[some (.ref A.l),some (.ref t),some (.int k0),some (.int own),some (.ref d),o5]) (Lm T.c9.a (cs T) H2 A si) (wj (iL ρs roots ho f) (l.drop i) acc si=some (fs,s1)) (FL A H H2) (H2 d=some (.lst zs)) (Ims H2 zs (acc.map prL)))
   ⟨none,_,[],[],rfl,M.same S1,h1,FL.same S1,eS,.nil⟩ (fun i σ H2 _ ⟨_,_,_,_,_,_,_,F,_,_⟩=>SqT.of (F.tup M el)) ?_ ?_⟩⟩
 ·rintro i v σ H2 hv ⟨o5,si,acc,zs,rfl,M2,h2,F2,ez,iz⟩
  obtain⟨p,t',hp,rfl,et'⟩:=GO (il.mono (M.tk F2)) hv
  rw[uB hp]at h2
  obtain⟨x,s2,h3,h2,l2⟩:=L1 (gB f) h2
  obtain⟨l4,n4⟩:=zu (gB f) h2
  have n4:fs.length=_:=n4
  rw[aO,aV]at n4
  have lz:=iz.length
  rw[aC]at lz
  have C2:=C.fl M F2
  dsimp only[fN]
  refine⟨⟨_,ez⟩,_,et',fc (eY (j:=0) rfl) ⟨⟨_,_,M2.o,hV fW⟩,_,et',fc (eY (j:=1) rfl) (ir M2 C2 h3 ((l4.trans l3).sz hz) fun H3 M3 F3 C3 k3=>?_)⟩⟩
  refine⟨lI,fun t2 h2'=>⟨zs,?_,by lia,?_⟩⟩
  ·exact eW h2' _ _ _ (F3 _ _ ez nd)
  have S4:=eW h2' (.tup [.str p.1,.int x])
  have e4:=S4 _ _ (F3 _ _ ez nd)
  refine⟨_,_,_,_,rfl,(M3.same S4).other e4 nd,h2,((F2.trans F3).trans (FL.same S4)).put hd _,eS,?_⟩
  rw[br]
  exact(((iz.mono k3).mono (fE.tk S4)).app (.cons (ig h2' (.cons (.flat rfl) (.cons (.flat rfl) .nil))) .nil)).mono (ij e4).tk
 ·rintro σ H2 ⟨o5,si,acc,zs,rfl,M2,h2,F2,ez,iz⟩
  have lx:=il.length
  rw[aC]at lx
  rw[lx,bB]at h2
  cases cC.inj h2
  cases cC.inj hl
  refine⟨_,⟨_,_,M2.o,fG⟩,⟨_,_,M2.b.b,gM _ _ _ _ _⟩,d,zs,rfl,.inl ⟨SqL.of ez,fun a ha=>?_⟩⟩
  exact tc2 rfl rfl (jg M2 (l3.sz hz) ha iz (vf _) (yS (by lia)) fun H' M' F'=>q H' M' (F2.trans F'))
theorem vw (T:Txt K mg) (f:Nat) (gE74:MO P w base mg (5*f+ 3) T.e74 (jS T.c9.a T.c10.a (cs T) f)):FO P w base (5*f+ 7) T.d18 (iG T.c9.a T.c10.a (cs T) f fun ρ=>X2 fun k l=>ρ= .case k l):=by
 have gE67:=gA (P:=P) (w:=w) (base:=base) T
 have gE70:=ie (P:=P) (w:=w) (base:=base) T
 have gE69:=hG (P:=P) (w:=w) (base:=base) T
 have gE62:=nM (P:=P) (w:=w) (base:=base) T
 refine T.d18.F.ok jP (fun vs H Q E h=>?_) (fun cdv A0 outer s0 H vs Q E hr h=>?_)
 ·obtain⟨A,s,s',p,own,t,ρ,names,roots,ρs,ho,rfl,_⟩:=h
  rfl
 obtain⟨A,s,s',p,own,t,ρ,names,roots,ρs,ho,rfl,M,C,hk,⟨k,l,rfl⟩,it,hl,hz,q⟩:=h
 have hu:=xn hr
 refine⟨_,(eU (pS (i:=4) jP.nd (fj (fo (PE.mono (cv 0)) T.c9.cl T.e74.me gE74 (hr.mono (by lia)) T.e74.b .nil fK (eR (fh fm (cv 1) eV) eT))))
  (eU (pS (i:=5) jP.nd (fH eT))
  (eU (jK PassesOwn.never rfl (vS (fh fm (cv 1) eV)) (pN (i:=6) jP.nd)
   (eU (pS (i:=7) jP.nd (fj (fo (PE.mono (fu T.c9.cl T.n9board (cv 0))) T.c8.cl T.e67.me gE67 (hr.mono (by lia)) T.e67.b .nil fK (eR (cv 2) eT))))
   (eU (vc hu (fu T.c9.cl T.n9held (cv 0)) (fh fm (cv 6) eV) (cv 7) rfl)
   (eU (fA (fj (fo (PE.mono (fu T.c9.cl T.n9board (cv 0))) T.c8.cl T.e70.me gE70 (hr.mono (by lia)) T.e70.b .nil fK (eR (fj (fo (PE.mono (cv 0)) T.c9.cl T.e74.me gE74 (hr.mono (by lia)) T.e74.b .nil fK (eR (fh fm (cv 6) eV) eT))) (eR (cv 3) eT)))))
   (eZ (fA (ki (lO dO dP dQ f9 (PE.mono (cv 5)) (eR (PE.mono (fC (eR (fh fm (cv 6) eV) (eR (cv 7) eT)))) eT)))))))))
  (eZ (fA (fj (fo (PE.mono (fu T.c9.cl T.n9board (cv 0))) T.c8.cl T.e69.me gE69 (hr.mono (by lia)) T.e69.b .nil fK (eR (jk T.mk6 gE62 (hr.mono (by lia)) rfl T.c6.m T.e62.b .nil fK (eR (cv 4) (eR (cv 2) (eR eV (eR (gq gw rfl T.z_tuple iA (eR (cv 5) eT)) eT))))) eT)))))))),?_⟩
 have sl:=sizeLine_eq
 obtain⟨k0,rfl,hk0⟩:=fV hk
 have fw:l.length<=10:=C.few _ _ hk0
 obtain⟨ys,et,iy⟩:=kG it
 obtain⟨y1,y2,rfl,i0,i1⟩:=AW iy
 cases jV i0
 obtain⟨tl,xs,rfl,el,il⟩:=qU i1
 obtain⟨x0,s0',h0,hl,_⟩:=L1 (gB f) hl
 obtain⟨fs,s1,h1,hl⟩:∃fs s1,xF (iL ρs roots ho f) k0 own l [] s0'=some (fs,s1)/\some (s1.us (.case x0 k0 0 fs))=some s':=by
  cases e:xF (iL ρs roots ho f) k0 own l [] s0' with
  |none=>rw[e]at hl;cases hl
  |some z=>obtain⟨fs,s1⟩:=z;rw[e]at hl;exact⟨fs,s1,rfl,hl⟩
 obtain⟨l1,n1⟩:=zv (gB f) h1
 have n1:fs.length=0+l.length:=n1
 have l1:Le s0' s1:=l1
 have l3:Le s1 s':=by cases cC.inj hl;exact Le.us
 refine⟨⟨_,_,M.o,hV fW⟩,_,et,fc (eY (j:=1) rfl) (ir M C h0 ((l1.trans l3).sz hz) fun H0 M0 F0 C0 k0'=>?_)⟩
 have et0:=k0' _ _ et
 have el0:=k0' _ _ el
 have il0:=il.mono k0'
 refine⟨mD,fun d hd=>?_⟩
 have nd:=M0.out hd
 have S1:=eW hd (.lst [])
 refine⟨_,S1 _ _ et0,fc (eY (j:=2) rfl) ⟨tl,rfl,⟨_,SqT.of (S1 _ _ el0)⟩,u9 (xs:=xs) (fun i σ H2=>X5 fun(o6 o7:Option V) (si:Ls) (acc:List (Str×Int)) (zs:List V)=>Y6 (σ=[some (.ref A.l),some (.ref t),some (.int k0),some (.int own),some (.int x0),some (.ref d),o6,o7]) (Lm T.c9.a (cs T) H2 A si) (xF (iL ρs roots ho f) k0 own (l.drop i) acc si=some (fs,s1)) (FL A H0 H2) (H2 d=some (.lst zs)) (Ims H2 zs (acc.map prL)))
   ⟨none,none,_,[],[],rfl,M0.same S1,h1,FL.same S1,eS,.nil⟩ (fun i σ H2 _ ⟨_,_,_,_,_,_,_,_,F,_,_⟩=>SqT.of (F.tup M0 el0)) ?_ ?_⟩⟩
 ·rintro i v σ H2 hv ⟨o6,o7,si,acc,zs,rfl,M2,h2,F2,ez,iz⟩
  obtain⟨p,t',hp,rfl,et'⟩:=GP (il0.mono (M0.tk F2)) hv
  rw[uB hp]at h2
  obtain⟨x,s2,h3,h2,l2⟩:=L1 (gB f) h2
  obtain⟨l4,n4⟩:=zv (gB f) h2
  have n4:fs.length=_:=n4
  rw[aO,aV]at n4
  have lz:=iz.length
  rw[aC]at lz
  have C2:=C0.fl M0 F2
  have l5:Le s2 s':=Le.fl.trans (Le.trans l4 l3)
  have lp:=((Le.pt.trans (Le.ho.trans (l2.trans l5))).sz hz).p
  have lq:=((Le.ho.trans (l2.trans l5)).sz hz).p
  dsimp only[fN]
  refine⟨_,⟨_,_,M2.o,fG⟩,⟨_,_,M2.b.b,g9 _ _ _ _ _⟩,?_⟩
  refine tc1 (v:= .int k0) rfl (wk M2 (by lia) fun H3 M3 F3 d3 _=>?_)
  have e3:=F3.tup M2 et'
  obtain⟨H4,dp,M4,F4⟩:=M3.hold d3 (Di lq) p.2.2 si.n
  have e4:=F4.tup M3 e3
  have C4:=(C2.fl M2 F3).fl M3 F4
  refine⟨_,⟨_,_,M3.o,vo⟩,_,e3,fc (eY (j:=2) rfl) ⟨A.hd,H4,rfl,dp,?_⟩⟩
  refine⟨_,⟨_,_,M4.o,fG⟩,⟨_,_,M4.b.b,jJ _ _ _ _ _⟩,⟨_,_,M4.o,hV fW⟩,_,e4,fc (eY (j:=2) rfl) (ir M4 C4 h3 (l5.sz hz) fun H5 M5 F5 C5 k5=>?_)⟩
  refine tc1 (v:= .int own) rfl (oZ M5 (by have:=(l5.sz hz).f;lia) fun H6 M6 F6=>?_)
  have e6:=F6.tup M5 (k5 _ _ e4)
  have F26:=F3.trans (F4.trans (F5.trans F6))
  have ez6:=F26 _ _ ez nd
  refine⟨⟨_,ez6⟩,_,e6,fc (eY (j:=0) rfl) ⟨lI,fun t2 h2'=>⟨zs,?_,by lia,?_⟩⟩⟩
  ·exact eW h2' _ _ _ ez6
  have S7:=eW h2' (.tup [.str p.1,.int si.n])
  have e7:=S7 _ _ ez6
  refine⟨_,_,_,_,_,rfl,(M6.same S7).other e7 nd,h2,((F2.trans F26).trans (FL.same S7)).put hd _,eS,?_⟩
  rw[br]
  exact(((iz.mono (M2.tk F26)).mono (fE.tk S7)).app (.cons (ig h2' (.cons (.flat rfl) (.cons (.flat rfl) .nil))) .nil)).mono (ij e7).tk
 ·rintro σ H2 ⟨o6,o7,si,acc,zs,rfl,M2,h2,F2,ez,iz⟩
  have lx:=il.length
  rw[aC]at lx
  rw[lx,bB]at h2
  cases cC.inj h2
  cases cC.inj hl
  refine⟨_,⟨_,_,M2.o,fG⟩,⟨_,_,M2.b.b,iq _ _ _ _ _⟩,d,zs,rfl,.inl ⟨SqL.of ez,fun a ha x dx hx hdx nx=>⟨x,dx,_,_,_,_,rfl,eS,rfl,?_⟩⟩⟩
  rw[gv]
  have S3:=eW ha (.tup zs)
  exact tn1 (kA (u:= .case _ _ _ fs) (M2.same S3) (l3.sz hz) hx hdx ⟨x,dx,_,rfl,eS,(ig ha iz).mono (fE.tk (jb hx hdx)),by lia⟩ fun H' M' F'=>q H' M' (F0.trans (F2.trans ((FL.same S3).trans F'))))
theorem uC {p h b hd sd:Addr}:(fLy p h b hd sd).lookup ("starts":Str)=some (.ref sd):=oY.2.2.2.2.2
theorem pb {p h b hd sd:Addr}:(fLy p h b hd sd).lookup ("program":Str)=some (.ref p):=oY.1
theorem AY {p h b hd sd:Addr}:(fLy p h b hd sd).lookup ("homes":Str)=some (.ref h):=oY.2.1
theorem zA {p h b hd sd:Addr}:(fLy p h b hd sd).lookup ("papers":Str)=some .non:=oY.2.2.1
theorem Lm.start {CL:Addr} {c:Cs} {H:Hp} {A:La} {s:Ls} {p0:Int} (M:Lm CL c H A (s.pt p0)) (hs:DkI H A.sd s.st s.D.pts.length) (hn:s.D.pts.length<1000000) (k v:Int):∃H',Ak H A.sd (.int k) (.int v) H'/\Lm CL c H' A ((s.pt p0).begin k v)/\FL A H H':=by
 obtain⟨H',d,⟨o,rfl⟩,h⟩:=hs.put (by lia) k v
 obtain⟨kvs,e,_⟩:=hs
 obtain⟨o1,b,⟨k2,d2,r2⟩,_,ne⟩:=M
 have lp:(s.D.pts++[p0]).length=s.D.pts.length+ 1:=by rw[aO];rfl
 refine⟨_,d,⟨by rw[eX (jw o1 e (fun z=>nomatch z))];exact o1,Bw.dk b e,⟨k2,by rw[eX ne];exact d2,r2⟩,?_,ne⟩,xG (by simp[La.ch])⟩
 show DkI _ A.sd (put s.st k v) (s.D.pts++[p0]).length
 rw[lp]
 exact h
inductive XSt (CP:Addr) (vs:List V) (H:Hp) (Q:VK):Prop
 |mk (a n r w dx:Addr) (xs:List V) (names:List Str) (roots:List Nat) (ρs:List Ro) (p:Int) (d:Nat) (e:vs=[.ref a,.int p,.int (d:Int)]) (pr:PrA CP H a n r w dx xs names roots ρs) (hd:d<roots.length) (q:Q (.bl (inF roots p d)) H)
def GQ (CP:Addr):Sp:=fun vs H Q _=>XSt CP vs H Q
theorem ke {L:Lf} {roots:List Nat} {d r:Int} {s s':Ls} (h:uZ L roots d s=some (r,s')):∃r0 q0 s2,atZ roots d=some r0/\L (r0:Int) ((s.pt r0).begin d s.n)=some (q0,s2)/\r=s.n/\s'=s2.fl q0 s.n:=by
 unfold uZ at h
 cases e:atZ roots d with
 |none=>rw[e]at h;cases h
 |some r0=>
  rw[e]at h
  dsimp only at h
  cases e2:L (r0:Int) ((s.pt r0).begin d s.n)with
  |none=>rw[e2]at h;cases h
  |some z=>obtain⟨q0,s2⟩:=z;rw[e2]at h;cases h;exact⟨r0,q0,s2,rfl,e2,rfl,rfl⟩
inductive XLd (CL CP:Addr) (c:Cs) (f:Nat) (vs:List V) (H:Hp) (Q:VK):Prop
 |mk (A:La) (s s':Ls) (d r:Int) (names:List Str) (roots:List Nat) (ρs:List Ro) (ho:Nat->Option Hm) (e:vs=[.ref A.l,.int d]) (M:Lm CL c H A s) (C:Cp CP H A names roots ρs ho) (hl:uZ (iL ρs roots ho f) roots d s=some (r,s')) (hz:Sz 1000000 s') (q:∀H',Lm CL c H' A s'->FL A H H'->Q (.int r) H')
def GR (CL CP:Addr) (c:Cs) (f:Nat):Sp:=fun vs H Q _=>XLd CL CP c f vs H Q
theorem uD (T:Txt K mg):FO P w base 1 T.d1 (GQ T.c10.a):=by
 refine T.d1.F.ok pB (fun vs H Q E h=>?_) (fun cdv A0 outer s0 H vs Q E hr h=>?_)
 ·obtain⟨a,n,r,w,dx,xs,names,roots,ρs,p,d,rfl,_⟩:=h
  rfl
 obtain⟨a,n,r,w,dx,xs,names,roots,ρs,p,d,rfl,pr,hd,q⟩:=h
 refine⟨_,(eU (pS (i:=3) pB.nd (fq gk (cv 2) eV))
  (eZ (fz (Eb (oy jE (cv 3) (fS fX rfl T.z_len jB (eR (fu T.c10.cl T.n10roots (cv 0)) eT))) (tM (oy lG (cv 1) (fh fg (fu T.c10.cl T.n10roots (cv 0)) (cv 3)))))))),?_⟩
 refine⟨_,⟨dx,_,pr.o,sU _ _ _⟩,r,_,rfl,.inl (SqL.of pr.r),_,rfl,?_⟩
 show if(false ^^ decide ((d:Int)+ 1=(((roots.map nI).length:Nat):Int)))=true then _ else _
 rw[dZ,aC,show decide ((d:Int)+ 1=(roots.length:Int))=decide (d+ 1=roots.length)from decide_eq_decide.mpr (by lia)]
 have ea:atZ roots ((d:Int)+ 1)=roots[d+ 1]?:=rfl
 unfold inF at q
 rw[ea]at q
 by_cases e:d+ 1=roots.length
 ·rw[List.getElem?_eq_none (by lia)]at q
  rw[gR e]
  exact jW q
 ·have h1:roots[d+ 1]?=some (roots[d+ 1]'(by lia)):=bb (by lia)
  rw[h1]at q
  rw[gC e]
  refine jy ⟨_,⟨dx,_,pr.o,sU _ _ _⟩,_,pr.r,fc (v:=nI (roots[d+ 1]'(by lia))) (eY (j:=d+ 1) (by rw[aK,h1];rfl)) ?_⟩
  exact q
theorem iM (T:Txt K mg) (f:Nat) (gE74:MO P w base mg (5*f+ 3) T.e74 (jS T.c9.a T.c10.a (cs T) f)):MO P w base mg (5*f+ 4) T.e73 (GR T.c9.a T.c10.a (cs T) f):=by
 have gE67:=gA (P:=P) (w:=w) (base:=base) T
 have gE70:=ie (P:=P) (w:=w) (base:=base) T
 refine T.e73.F.ok gL (fun vs H Q E h=>?_) (fun cdv A0 outer s0 H vs Q E hr h=>?_)
 ·obtain⟨A,s,s',d,r,names,roots,ρs,ho,rfl,_⟩:=h
  rfl
 obtain⟨A,s,s',d,r,names,roots,ρs,ho,rfl,M,C,hl,hz,q⟩:=h
 have hu:=xn hr
 refine⟨_,(eU (pS (i:=2) gL.nd (fh fg (fu T.c10.cl T.n10roots (fu T.c9.cl T.n9program (cv 0))) (cv 1)))
  (eU (pS (i:=3) gL.nd (fj (fo (PE.mono (fu T.c9.cl T.n9board (cv 0))) T.c8.cl T.e67.me gE67 (hr.mono (by lia)) T.e67.b .nil fK (eR (cv 2) eT))))
  (eU (vc hu (fu T.c9.cl T.n9starts (cv 0)) (cv 1) (cv 3) rfl)
  (eU (fA (fj (fo (PE.mono (fu T.c9.cl T.n9board (cv 0))) T.c8.cl T.e70.me gE70 (hr.mono (by lia)) T.e70.b .nil fK (eR (fj (fo (PE.mono (cv 0)) T.c9.cl T.e74.me gE74 (hr.mono (by lia)) T.e74.b .nil fK (eR (cv 2) eT))) (eR (cv 3) eT)))))
  (eZ (fz (cv 3))))))),?_⟩
 obtain⟨r0,q0,s2,hd,h2,rfl,rfl⟩:=ke hl
 obtain⟨d,rfl,hd3⟩:=fV hd
 obtain⟨n,rr,w',dx,xs,pr,_⟩:=C.p
 have l2:=gB f _ _ _ _ h2
 have lp:=((Le.pt.trans (Le.be.trans (l2.trans Le.fl))).sz hz).p
 have lq:=((Le.be.trans (l2.trans Le.fl)).sz hz).p
 refine⟨_,⟨_,_,M.o,pb⟩,_,⟨_,_,pr.o,sU _ _ _⟩,?_⟩
 refine⟨_,pr.r,fc (v:=nI r0) (eY (j:=d) (by rw[aK,hd3];rfl)) ?_⟩
 dsimp only[fN]
 refine⟨_,⟨_,_,M.o,fG⟩,⟨_,_,M.b.b,g9 _ _ _ _ _⟩,?_⟩
 refine tc1 (v:= .int r0) rfl (wk M (by lia) fun H1 M1 F1 _ d1=>?_)
 obtain⟨H2,dp,M2,F2⟩:=M1.start d1 (Di lq) d s.n
 have C2:=(C.fl M F1).fl M1 F2
 refine⟨_,⟨_,_,M1.o,uC⟩,A.sd,H2,rfl,dp,?_⟩
 refine⟨_,⟨_,_,M2.o,fG⟩,⟨_,_,M2.b.b,jJ _ _ _ _ _⟩,⟨_,_,M2.o,hV fW⟩,?_⟩
 refine tc1 (v:= .int r0) rfl (ir M2 C2 h2 (Le.fl.sz hz) fun H3 M3 F3 C3 k3=>?_)
 refine tc1 (v:= .int s.n) rfl (oZ M3 (by have:=(Le.fl.sz hz:Sz _ s2).f;lia) fun H4 M4 F4=>?_)
 exact q _ M4 (F1.trans (F2.trans (F3.trans F4)))
def dpF (L:Lf) (roots:List Nat) (p d:Int) (s:Ls):Option (Int×Ls):=if inF roots p d then(s.st d).map fun q=>(q,s)else uZ L roots d s
inductive XDp (CL CP:Addr) (c:Cs) (f:Nat) (vs:List V) (H:Hp) (Q:VK):Prop
 |mk (A:La) (s s':Ls) (p:Int) (d:Nat) (r:Int) (names:List Str) (roots:List Nat) (ρs:List Ro) (ho:Nat->Option Hm) (e:vs=[.ref A.l,.int p,.int (d:Int)]) (M:Lm CL c H A s) (C:Cp CP H A names roots ρs ho) (hd:d<roots.length) (hl:dpF (iL ρs roots ho f) roots p d s=some (r,s')) (hz:Sz 1000000 s') (q:∀H',Lm CL c H' A s'->FL A H H'->Q (.int r) H')
def GS (CL CP:Addr) (c:Cs) (f:Nat):Sp:=fun vs H Q _=>XDp CL CP c f vs H Q
inductive XMp (CL CP:Addr) (c:Cs) (f:Nat) (vs:List V) (H:Hp) (Q:VK):Prop
 |mk (A:La) (s s':Ls) (k:Nat) (r:Int) (ρ:Ro) (h:Hm) (names:List Str) (roots:List Nat) (ρs:List Ro) (ho:Nat->Option Hm) (e:vs=[.ref A.l,.int (k:Int)]) (M:Lm CL c H A s) (C:Cp CP H A names roots ρs ho) (hk:ρs[k]?=some ρ) (hh:ho k=some h) (hl:jj (iL ρs roots ho f) roots h k s=some (r,s')) (hz:Sz 1000000 s') (q:∀H',Lm CL c H' A s'->FL A H H'->Q (.int r) H')
def GU (CL CP:Addr) (c:Cs) (f:Nat):Sp:=fun vs H Q _=>XMp CL CP c f vs H Q
def GV:Sp:=fun _ _ _ _=>False
theorem zB (T:Txt K mg):FO P w base 1 T.d2 GV:=
 T.d2.F.ok y9 (fun vs H Q E h=>h.elim) (fun cdv A0 outer s0 H vs Q E hr h=>h.elim)
theorem nN (T:Txt K mg) (f:Nat) (gE74:MO P w base mg (5*f+ 3) T.e74 (jS T.c9.a T.c10.a (cs T) f)):FO P w base (5*f+ 5) T.d11 (GS T.c9.a T.c10.a (cs T) f):=by
 have gE73:=iM (P:=P) (w:=w) (base:=base) T f gE74
 have gD1:=uD (P:=P) (w:=w) (base:=base) T
 have gD2:=zB (P:=P) (w:=w) (base:=base) T
 refine T.d11.F.ok nu (fun vs H Q E h=>?_) (fun cdv A0 outer s0 H vs Q E hr h=>?_)
 ·obtain⟨A,s,s',p,d,r,names,roots,ρs,ho,rfl,_⟩:=h
  rfl
 obtain⟨A,s,s',p,d,r,names,roots,ρs,ho,rfl,M,C,hd,hl,hz,q⟩:=h
 have hu:=xn hr
 refine⟨_,(eU (gG (mF (pF T.d1 gD1 (hr.mono (by lia)) (eR (fu T.c9.cl T.n9program (cv 0)) (eR (cv 1) (eR (cv 2) eT)))))
   (eZ (fz (yz hu (fu T.c9.cl T.n9starts (cv 0)) (cv 2))))
   fJ)
  (eU (gG (yb (ya (fu T.c9.cl T.n9papers (cv 0))))
   (eZ (fz (fj (fo (PE.mono (cv 0)) T.c9.cl T.e73.me gE73 (hr.mono (by lia)) T.e73.b .nil fK (eR (cv 2) eT)))))
   fJ)
  (eZ (fz (pF T.d2 gD2 (hr.mono (by lia)) (eR (fu T.c9.cl T.n9board (cv 0)) (eR (fh fg (fu T.c9.cl T.n9papers (cv 0)) (cv 2)) (eR (cv 1) eT)))))))),?_⟩
 obtain⟨n,rr,w',dx,xs,pr,_⟩:=C.p
 refine⟨_,⟨_,_,M.o,pb⟩,A.p,n,rr,w',dx,xs,names,roots,ρs,p,d,rfl,pr,hd,_,rfl,?_⟩
 unfold dpF at hl
 cases e:inF roots p d with
 |true=>
  rw[e,f6 rfl]at hl
  obtain⟨v,hv,e2⟩:=cF.mp hl
  cases e2
  exact jW ⟨_,⟨_,_,M.o,uC⟩,A.sd,_,rfl,M.sd.get hv,q _ M FL.refl⟩
 |false=>
  rw[e,fO (by decide)]at hl
  refine jy ⟨_,⟨_,_,M.o,zA⟩,_,rfl,jW ⟨⟨_,_,M.o,hV fW⟩,?_⟩⟩
  exact⟨A,s,s',d,r,names,roots,ρs,ho,rfl,M,C,hl,hz,q⟩
theorem rE (T:Txt K mg) (f:Nat) (gE74:MO P w base mg (5*f+ 3) T.e74 (jS T.c9.a T.c10.a (cs T) f)):FO P w base (5*f+ 6) T.d10 (GU T.c9.a T.c10.a (cs T) f):=by
 have gD11:=nN (P:=P) (w:=w) (base:=base) T f gE74
 refine T.d10.F.ok mI (fun vs H Q E h=>?_) (fun cdv A0 outer s0 H vs Q E hr h=>?_)
 ·obtain⟨A,s,s',k,r,ρ,h,names,roots,ρs,ho,rfl,_⟩:=h
  rfl
 obtain⟨A,s,s',k,r,ρ,h,names,roots,ρs,ho,rfl,M,C,hk,hh,hl,hz,q⟩:=h
 have hu:=xn hr
 refine⟨_,(eU (pS (i:=2) mI.nd (fh fg (fu T.c9.cl T.n9homes (cv 0)) (cv 1)))
  (eU (gG (fD jE (fh fm (cv 2) eV) fF)
   (eZ (fz (fj (fo (PE.mono (cv 0)) T.c9.cl T.e74.me gE74 (hr.mono (by lia)) T.e74.b .nil fK (eR (fh fm (cv 2) eV) eT)))))
   fJ)
  (eU (gG (fD jE (fh fm (cv 2) eV) fF)
   (eZ (fz (pF T.d11 gD11 (hr.mono (by lia)) (eR (cv 0) (eR (cv 1) (eR (fh fm (cv 2) eV) eT))))))
   fJ)
  (eZ (fz (yz hu (fu T.c9.cl T.n9held (cv 0)) (fh fm (cv 2) eV))))))),?_⟩
 obtain⟨hs,eh,_,hy⟩:=C.h
 obtain⟨y,ey,iy⟩:=hy _ _ hk
 rw[hh]at iy
 obtain⟨t,y1,y2,rfl,et,j1,j2⟩:=vn (show Im H y (.tup [sD h.1,kD h.2])from iy)
 cases lH j1
 cases jV j2
 refine⟨_,⟨_,_,M.o,AY⟩,_,eh,fc (eY ey) ?_⟩
 dsimp only[fN]
 unfold jj at hl
 by_cases e1:h.1="let"
 ·rw[f6 e1]at hl
  refine pG (i:=2) (x:="let") ?_ et (gR e1) ?_
  ·rfl
  exact⟨⟨_,_,M.o,hV fW⟩,_,et,fc (eY (j:=1) rfl) (ir M C hl hz fun H' M' F' _ _=>q H' M' F')⟩
 rw[fO e1]at hl
 refine pE (i:=2) (x:="let") ?_ et (gC e1) ?_
 ·rfl
 dsimp only[jD]
 by_cases e2:h.1="def"
 ·rw[f6 e2]at hl
  obtain⟨d,hd,ld⟩:=C.dom _ _ hh e2
  rw[hd]at hl et
  refine pG (i:=2) (x:="def") ?_ et (gR e2) ?_
  ·rfl
  exact⟨_,et,fc (eY (j:=1) rfl) ⟨A,s,s',k,d,r,names,roots,ρs,ho,rfl,M,C,ld,hl,hz,q⟩⟩
 rw[fO e2]at hl
 refine pE (i:=2) (x:="def") ?_ et (gC e2) ?_
 ·rfl
 obtain⟨v,hv,e3⟩:=cF.mp hl
 cases e3
 exact⟨_,⟨_,_,M.o,vo⟩,_,et,fc (eY (j:=1) rfl) ⟨A.hd,_,rfl,M.hd.get hv,q _ M FL.refl⟩⟩
theorem vx (T:Txt K mg) (f:Nat) (gE74:MO P w base mg (5*f+ 3) T.e74 (jS T.c9.a T.c10.a (cs T) f)):FO P w base (5*f+ 7) T.d9 (iG T.c9.a T.c10.a (cs T) f fun ρ=>∃n,ρ= .name n):=by
 have gE70:=ie (P:=P) (w:=w) (base:=base) T
 have gD10:=rE (P:=P) (w:=w) (base:=base) T f gE74
 refine T.d9.F.ok vg (fun vs H Q E h=>?_) (fun cdv A0 outer s0 H vs Q E hr h=>?_)
 ·obtain⟨A,s,s',p,own,t,ρ,names,roots,ρs,ho,rfl,_⟩:=h
  rfl
 obtain⟨A,s,s',p,own,t,ρ,names,roots,ρs,ho,rfl,M,C,hk,⟨n,rfl⟩,it,hl,hz,q⟩:=h
 refine⟨_,(eZ (fA (fj (fo (PE.mono (fu T.c9.cl T.n9board (cv 0))) T.c8.cl T.e70.me gE70 (hr.mono (by lia)) T.e70.b .nil fK (eR (pF T.d10 gD10 (hr.mono (by lia)) (eR (cv 0) (eR (cv 2) eT))) (eR (cv 3) eT)))))),?_⟩
 obtain⟨k,rfl,hk⟩:=fV hk
 obtain⟨h,r,s1,hh,h1,hl⟩:∃h r s1,ho k=some h/\jj (iL ρs roots ho f) roots h k s=some (r,s1)/\some (s1.fl r own)=some s':=by
  unfold iF at hl
  dsimp only at hl
  rw[show((k:Int)).toNat=k from rfl]at hl
  cases e:ho k with
  |none=>rw[e]at hl;cases hl
  |some h=>
   rw[e]at hl
   dsimp only at hl
   cases e2:jj (iL ρs roots ho f) roots h k s with
   |none=>rw[e2]at hl;cases hl
   |some z=>obtain⟨r,s1⟩:=z;rw[e2]at hl;exact⟨h,r,s1,rfl,e2,hl⟩
 cases cC.inj hl
 refine⟨_,⟨_,_,M.o,fG⟩,⟨_,_,M.b.b,jJ _ _ _ _ _⟩,A,s,s1,k,r,_,h,names,roots,ρs,ho,rfl,M,C,hk,hh,h1,Le.fl.sz hz,fun H1 M1 F1=>?_⟩
 exact tc1 (v:= .int own) rfl (oZ M1 (by have:=(Le.fl.sz hz:Sz _ s1).f;lia) fun H' M' F'=>q H' M' (F1.trans F'))
def U1:Ro->Prop
 | .op o _=>o="call"\/o="at"\/o="join"\/o="size"\/o="add"\/o="sub"\/o="less"
 |_=>True
theorem GW {L:Lf} {roots:List Nat} {h:Option Hm} {p own:Int} {s s':Ls} {ρ:Ro} (hl:iF L roots h p own s ρ=some s'):U1 ρ:=by
 cases ρ with
 |op o ks=>
  show o="call"\/o="at"\/o="join"\/o="size"\/o="add"\/o="sub"\/o="less"
  by_cases h1:o="call"
  ·exact .inl h1
  by_cases h2:o="at"
  ·exact .inr (.inl h2)
  by_cases h3:o="join"
  ·exact .inr (.inr (.inl h3))
  by_cases h4:o="size"
  ·exact .inr (.inr (.inr (.inl h4)))
  by_cases h5:o="add"\/o="sub"
  ·rcases h5 with h5|h5
   ·exact .inr (.inr (.inr (.inr (.inl h5))))
   ·exact .inr (.inr (.inr (.inr (.inr (.inl h5)))))
  by_cases h6:o="less"
  ·exact .inr (.inr (.inr (.inr (.inr (.inr h6)))))
  obtain⟨a,b,rfl⟩:=uw h4 h2 hl
  unfold iF at hl
  dsimp only at hl
  rw[fO h1,fO h3,fO h6,fO h5]at hl
  cases hl
 |_=>trivial
theorem kY {ρs:List Ro} {roots:List Nat} {ho:Nat->Option Hm} {f:Nat} {p r:Int} {s s':Ls} (h:iL ρs roots ho (f+ 1) p s=some (r,s')):∃ρ,atZ ρs p=some ρ/\iF (iL ρs roots ho f) roots (ho p.toNat) p s.n (s.pt p) ρ=some s'/\r=s.n:=by
 unfold iL at h
 cases e:atZ ρs p with
 |none=>rw[e]at h;cases h
 |some ρ=>
  rw[e]at h
  dsimp only at h
  cases e2:iF (iL ρs roots ho f) roots (ho p.toNat) p s.n (s.pt p) ρ with
  |none=>rw[e2]at h;cases h
  |some z=>rw[e2]at h;cases h;exact⟨ρ,rfl,e2,rfl⟩
inductive LyS (T:Txt K mg) (f:Nat):Addr->Sp->Prop
 |num:LyS T f T.d8.a (iG T.c9.a T.c10.a (cs T) f fun ρ=>∃n,ρ= .num n)
 |name:LyS T f T.d9.a (iG T.c9.a T.c10.a (cs T) f fun ρ=>∃n,ρ= .name n)
 |fn:LyS T f T.d12.a (iG T.c9.a T.c10.a (cs T) f fun ρ=>X2 fun n k=>ρ= .fn n k)
 |call:LyS T f T.d13.a (iG T.c9.a T.c10.a (cs T) f fun ρ=>∃ks,ρ= .op "call" ks)
 |lt:LyS T f T.d14.a (iG T.c9.a T.c10.a (cs T) f fun ρ=>X3 fun n a b=>ρ= .lt n a b)
 |rcd:LyS T f T.d15.a (iG T.c9.a T.c10.a (cs T) f fun ρ=>∃l,ρ= .rcd l)
 |get:LyS T f T.d16.a (iG T.c9.a T.c10.a (cs T) f fun ρ=>X2 fun k n=>ρ= .get k n)
 |tag:LyS T f T.d17.a (iG T.c9.a T.c10.a (cs T) f fun ρ=>X2 fun n k=>ρ= .tag n k)
 |case:LyS T f T.d18.a (iG T.c9.a T.c10.a (cs T) f fun ρ=>X2 fun k l=>ρ= .case k l)
 |row:LyS T f T.d19.a (iG T.c9.a T.c10.a (cs T) f fun ρ=>∃ks,ρ= .row ks)
 |ix:LyS T f T.d20.a (iG T.c9.a T.c10.a (cs T) f fun ρ=>∃ks,ρ= .op "at" ks)
 |join:LyS T f T.d21.a (iG T.c9.a T.c10.a (cs T) f fun ρ=>∃ks,ρ= .op "join" ks)
 |size:LyS T f T.d22.a (iG T.c9.a T.c10.a (cs T) f fun ρ=>∃ks,ρ= .op "size" ks)
 |sum:LyS T f T.d23.a (iG T.c9.a T.c10.a (cs T) f fun ρ=>X2 fun o ks=>ρ= .op o ks/\(o="add"\/o="sub"))
 |less:LyS T f T.d24.a (iG T.c9.a T.c10.a (cs T) f fun ρ=>∃ks,ρ= .op "less" ks)
theorem LyS.ok {T:Txt K mg} {f:Nat} {X:Cx} (e1:X.prog=P) (e2:X.w=w) (e3:X.K=K) (e4:X.mg=mg) (e5:X.base=base) (G:MO P w base mg (5*f+ 3) T.e74 (jS T.c9.a T.c10.a (cs T) f)) {a:Addr} {sp:Sp} (h:LyS T f a sp):HF X CX0 (5*f+ 7) a sp:=by
 subst e1 e2 e3 e4 e5
 cases h with
 |num=>exact⟨_,_,xH T f,T.d8.k,T.d8.b⟩
 |name=>exact⟨_,_,vx T f G,T.d9.k,T.d9.b⟩
 |fn=>exact⟨_,_,zz T f G,T.d12.k,T.d12.b⟩
 |call=>exact⟨_,_,vp T f G,T.d13.k,T.d13.b⟩
 |lt=>exact⟨_,_,xK T f G,T.d14.k,T.d14.b⟩
 |rcd=>exact⟨_,_,xO T f G,T.d15.k,T.d15.b⟩
 |get=>exact⟨_,_,xJ T f G,T.d16.k,T.d16.b⟩
 |tag=>exact⟨_,_,xI T f G,T.d17.k,T.d17.b⟩
 |case=>exact⟨_,_,vw T f G,T.d18.k,T.d18.b⟩
 |row=>exact⟨_,_,xN T f G,T.d19.k,T.d19.b⟩
 |ix=>exact⟨_,_,zy T f G,T.d20.k,T.d20.b⟩
 |join=>exact⟨_,_,vt T f G,T.d21.k,T.d21.b⟩
 |size=>exact⟨_,_,vq T f G,T.d22.k,T.d22.b⟩
 |sum=>exact⟨_,_,xM T f G,T.d23.k,T.d23.b⟩
 |less=>exact⟨_,_,vv T f G,T.d24.k,T.d24.b⟩
structure Lk (P:Program) (w:World) (T:Txt K mg) where
 a:Addr
 m:mg "LAYERS"=some (.ref a)
 kvs:List (Key×V)
 kd:CI P w K a kvs
 yes:∀ρ,U1 ρ->∃g,lK kvs (Sum.inr ρ.s)=some (.ref g)/\∀f,∃U,LyS T f g (iG T.c9.a T.c10.a (cs T) f U)/\U ρ
theorem rF (T:Txt K mg) (W:Lk P w T) (f:Nat) (gE74:MO P w base mg (5*f+ 3) T.e74 (jS T.c9.a T.c10.a (cs T) f)):MO P w base mg (5*(f+ 1)+ 3) T.e74 (jS T.c9.a T.c10.a (cs T) (f+ 1)):=by
 have gE67:=gA (P:=P) (w:=w) (base:=base) T
 refine T.e74.F.ok jF (fun vs H Q E h=>?_) (fun cdv A0 outer s0 H vs Q E hr h=>?_)
 ·obtain⟨A,s,s',p,r,names,roots,ρs,ho,rfl,_⟩:=h
  rfl
 obtain⟨A,s,s',p,r,names,roots,ρs,ho,rfl,M,C,hl,hz,q⟩:=h
 refine⟨_,(eU (pS (i:=2) jF.nd (fh fg (fu T.c10.cl T.n10rows (fu T.c9.cl T.n9program (cv 0))) (cv 1)))
  (eU (pS (i:=3) jF.nd (fj (fo (PE.mono (fu T.c9.cl T.n9board (cv 0))) T.c8.cl T.e67.me gE67 (hr.mono (by lia)) T.e67.b .nil fK (eR (cv 1) eT))))
  (eU (fA (AH (fun g sp (h:LyS T f g sp)=>h.ok rfl rfl rfl rfl rfl gE74) (hr.mono (by lia)) fK (CJ W.kd (yH rfl W.m) (fh fm (cv 2) eV)) (eR (cv 0) (eR (cv 2) (eR (cv 1) (eR (cv 3) eT))))))
  (eZ (fz (cv 3)))))),?_⟩
 obtain⟨ρ,hk,h1,e1⟩:=kY hl
 cases e1
 obtain⟨k,rfl,hk'⟩:=fV hk
 obtain⟨n,rr,w',dx,xs,pr,_⟩:=C.p
 obtain⟨tr,ys,hxt,etr,_,him⟩:=Dh pr.i hk'
 obtain⟨g,hv,hS⟩:=W.yes ρ (GW h1)
 obtain⟨U,hS,hU⟩:=hS f
 have lp:=((Le.pt.trans (zx (gB f) h1)).sz hz).p
 refine⟨_,⟨_,_,M.o,pb⟩,_,⟨_,_,pr.o,Dg _ _ _⟩,_,pr.w,fc (eY hxt) ?_⟩
 dsimp only[fN]
 refine⟨_,⟨_,_,M.o,fG⟩,⟨_,_,M.b.b,g9 _ _ _ _ _⟩,?_⟩
 refine tc1 (v:= .int k) rfl (zj M (by lia) fun H1 M1 F1=>?_)
 refine⟨_,F1.tup M etr,fc (eY (j:=0) rfl) ⟨Sum.inr ρ.s,_,rfl,rfl,hv,g,_,rfl,hS,?_⟩⟩
 exact⟨A,_,s',k,s.n,tr,ρ,names,roots,ρs,ho,rfl,M1,C.fl M F1,hk,hU,him.mono (M.tk F1),h1,hz,fun H' M' F'=>q H' M' (F1.trans F')⟩
theorem n8 (T:Txt K mg) (W:Lk P w T):∀f:Nat,MO P w base mg (5*f+ 3) T.e74 (jS T.c9.a T.c10.a (cs T) f)
 |0=>by
  refine T.e74.F.ok jF (fun vs H Q E h=>?_) (fun cdv A0 outer s0 H vs Q E hr h=>?_)
  ·obtain⟨A,s,s',p,r,names,roots,ρs,ho,rfl,_⟩:=h
   rfl
  ·obtain⟨A,s,s',p,r,names,roots,ρs,ho,rfl,M,C,hl,_⟩:=h
   cases hl
 |f+ 1=>rF T W f (n8 T W f)
def s00:Ls:=⟨⟨[],[],[],[],0⟩,fun _=>none,fun _=>none⟩
structure Jx (CL dx x:Addr) (H0 H:Hp) (fs:List (Str×V)) (ks:List (Addr×HO)):Prop where
 x0:∃u,H0 x=some u
 o:H x=some (.ins CL dx fs)
 k:∀b u,H0 b=some u->b≠x->H b=some u
 m:∀q∈ks,H q.1=some q.2/\H0 q.1=none
section
variable {CL dx x:Addr} {H0 H H':Hp} {fs:List (Str×V)} {ks:List (Addr×HO)}
theorem Jx.fld (j:Jx CL dx x H0 H fs ks) (gs:List (Str×V)):Jx CL dx x H0 (L2.Internal.upd H x (.ins CL dx gs)) gs ks:=
 let⟨_,e⟩:=j.x0
 ⟨j.x0,eS,fun b u h n=>by rw[eX n];exact j.k b u h n,fun q hq=>⟨by rw[eX (fun z=>by have:=(j.m q hq).2;rw[z,e]at this;cases this)];exact(j.m q hq).1,(j.m q hq).2⟩⟩
theorem Jx.non0 (j:Jx CL dx x H0 H fs ks) {a:Addr} (h:H a=none):H0 a=none:=by
 cases e:H0 a with
 |none=>rfl
 |some u=>
  have n:a≠x:=fun z=>by rw[z,j.o]at h;cases h
  rw[j.k a u e n]at h
  cases h
theorem Jx.add (j:Jx CL dx x H0 H fs ks) (S:fE H H') (l:List (Addr×HO)) (hl:∀q∈l,H q.1=none/\H' q.1=some q.2):Jx CL dx x H0 H' fs (l++ks):=
 ⟨j.x0,S _ _ j.o,fun b u h n=>S _ _ (j.k b u h n),fun q hq=>by
  rcases ao.mp hq with h|h
  ·exact⟨(hl q h).2,j.non0 (hl q h).1⟩
  ·exact⟨S _ _ (j.m q h).1,(j.m q h).2⟩⟩
end
inductive XLi (CL:Addr) (c:Cs) (vs:List V) (H:Hp) (Q:VK):Prop
 |mk (x dx p h:Addr) (e:vs=[.ref x,.ref p,.ref h,.non]) (o:H x=some (.ins CL dx [])) (q:∀(A:La) (H':Hp),A.l=x->A.p=p->A.h=h->Lm CL c H' A s00->(∀b o,H b=some o->b≠x->H' b=some o)->(∀a∈A.B.b::A.ch,H a=none)->Q .non H')
def GX (CL:Addr) (c:Cs):Sp:=fun vs H Q _=>XLi CL c vs H Q
theorem n9 (T:Txt K mg):MO P w base mg 3 T.e72 (GX T.c9.a (cs T)):=by
 have gE66:=oX (P:=P) (w:=w) (base:=base) T
 refine T.e72.F.ok nY (fun vs H Q E h=>?_) (fun cdv A0 outer s0 H vs Q E hr h=>?_)
 ·obtain⟨x,dx,p,h,rfl,_⟩:=h
  rfl
 obtain⟨x,dx,p,h,rfl,o,q⟩:=h
 refine⟨_,(eU (kI T.c9.cl T.n9program (gK (PE.mono (cv 0)) (PE.mono (cv 1)) rfl))
  (eU (kI T.c9.cl T.n9homes (gK (PE.mono (cv 0)) (PE.mono (cv 2)) rfl))
  (eU (kI T.c9.cl T.n9papers (gK (PE.mono (cv 0)) (PE.mono (cv 3)) rfl))
  (eU (kI T.c9.cl T.n9board (gK (PE.mono (cv 0)) (PE.mono (Au T.mk8 gE66 hr.m rfl T.c8.m T.e66.b .nil fK)) rfl))
  (eU (kI T.c9.cl T.n9held (gK (PE.mono (cv 0)) (PE.mono v3) rfl))
  (eZ (kI T.c9.cl T.n9starts (gK (PE.mono (cv 0)) (PE.mono v3) rfl)))))))),?_⟩
 have j0:Jx T.c9.a dx x H H [] []:=⟨⟨_,o⟩,o,fun _ _ e _=>e,fun q hq=>by cases hq⟩
 refine⟨_,_,o,(by show 0<1000;decide),?_⟩
 have j1:=j0.fld (ji "program" (.ref p) [])
 dsimp only
 generalize L2.Internal.upd H x (.ins T.c9.a dx (ji "program" (.ref p) []))=H1 at j1⊢
 refine⟨_,_,j1.o,(by show 1<1000;decide),?_⟩
 have j2:=j1.fld (ji "homes" (.ref h) (ji "program" (.ref p) []))
 dsimp only
 generalize L2.Internal.upd H1 x _=H2 at j2⊢
 refine⟨_,_,j2.o,(by show 2<1000;decide),?_⟩
 have j3:=j2.fld (ji "papers" .non (ji "homes" (.ref h) (ji "program" (.ref p) [])))
 dsimp only
 generalize L2.Internal.upd H2 x _=H3 at j3⊢
 rw[show ji "papers" .non (ji "homes" (.ref h) (ji "program" (.ref p) []))=([("program",.ref p),("homes",.ref h),("papers",.non)]:List (Str×V)) by kernel_rfl]at j3
 refine fun b bx hb hbx nx=>⟨b,bx,rfl,eS,fun p0 p1 p2 p3 H4 hn nd eb el hk=>⟨rfl,?_⟩⟩
 have Sm:=jb (o:= .ins T.c8.a bx []) hb hbx
 have S4:fE H3 H4:=fun y u e=>hk y u (Sm _ _ e) (fe e hb)
 have hn3:∀a∈[p0,p1,p2,p3],H3 a=none:=fun a ha=>by
  cases e:H3 a with
  |none=>rfl
  |some u=>have:=hn a ha;rw[Sm _ _ e]at this;cases this
 obtain⟨l0,l1,l2,l3⟩:H4 p0=some (.lst [])/\H4 p1=some (.lst [])/\H4 p2=some (.lst [])/\H4 p3=some (.lst []):=by
  cases el with
  |cons a0 el=>cases el with
   |cons a1 el=>cases el with
    |cons a2 el=>cases el with
     |cons a3 el=>exact⟨a0,a1,a2,a3⟩
 have j4:=j3.add S4 [(b,.ins T.c8.a bx (fB p0 p1 p2 p3 (.int 0))),(p0,.lst []),(p1,.lst []),(p2,.lst []),(p3,.lst [])] (fun q hq=>by
  simp only[ak,bh,or_false]at hq
  rcases hq with rfl|rfl|rfl|rfl|rfl
  ·exact⟨hb,eb⟩
  ·exact⟨hn3 p0 (by simp),l0⟩
  ·exact⟨hn3 p1 (by simp),l1⟩
  ·exact⟨hn3 p2 (by simp),l2⟩
  ·exact⟨hn3 p3 (by simp),l3⟩)
 clear hn3 hn hk Sm
 refine⟨_,_,j4.o,(by show 3<1000;decide),?_⟩
 have j5:=j4.fld (ji "board" (.ref b) [("program",.ref p),("homes",.ref h),("papers",.non)])
 dsimp only
 generalize L2.Internal.upd H4 x _=H5 at j5⊢
 rw[show ji "board" (.ref b) [("program",.ref p),("homes",.ref h),("papers",.non)]=([("program",.ref p),("homes",.ref h),("papers",.non),("board",.ref b)]:List (Str×V)) by kernel_rfl]at j5
 refine fun d hd=>?_
 have j6:=j5.add (eW hd (.dK [])) [(d,.dK [])] (fun q hq=>by
  rcases ba.mp hq with rfl
  exact⟨hd,eS⟩)
 refine⟨_,_,j6.o,(by show 4<1000;decide),?_⟩
 have j7:=j6.fld (ji "held" (.ref d) [("program",.ref p),("homes",.ref h),("papers",.non),("board",.ref b)])
 dsimp only
 generalize L2.Internal.upd (L2.Internal.upd H5 d _) x _=H7 at j7⊢
 rw[show ji "held" (.ref d) [("program",.ref p),("homes",.ref h),("papers",.non),("board",.ref b)]=([("program",.ref p),("homes",.ref h),("papers",.non),("board",.ref b),("held",.ref d)]:List (Str×V)) by kernel_rfl]at j7
 refine fun e he=>?_
 have ne:d≠e:=fe (j7.m (d,.dK []) (by simp)).1 he
 have j8:=j7.add (eW he (.dK [])) [(e,.dK [])] (fun q hq=>by
  rcases ba.mp hq with rfl
  exact⟨he,eS⟩)
 refine⟨_,_,j8.o,(by show 5<1000;decide),?_⟩
 have j9:=j8.fld (ji "starts" (.ref e) [("program",.ref p),("homes",.ref h),("papers",.non),("board",.ref b),("held",.ref d)])
 dsimp only
 generalize L2.Internal.upd (L2.Internal.upd H7 e _) x _=H9 at j9⊢
 rw[show ji "starts" (.ref e) [("program",.ref p),("homes",.ref h),("papers",.non),("board",.ref b),("held",.ref d)]=fLy p h b d e by kernel_rfl]at j9
 have m:=fun q hq=>(j9.m q hq).1
 have mb:=m (b,.ins T.c8.a bx (fB p0 p1 p2 p3 (.int 0))) (by simp)
 have m0:=m (p0,.lst []) (by simp)
 have m1:=m (p1,.lst []) (by simp)
 have m2:=m (p2,.lst []) (by simp)
 have m3:=m (p3,.lst []) (by simp)
 have md:=m (d,.dK []) (by simp)
 have me:=m (e,.dK []) (by simp)
 refine q ⟨x,dx,p,h,⟨b,bx,p0,p1,p2,p3⟩,d,e⟩ H9 rfl rfl rfl ⟨j9.o,⟨mb,m0,⟨[],m1,.nil⟩,⟨[],m2,.nil⟩,⟨[],m3,.nil⟩,nd⟩,⟨[],md,b9 _,fun _=>rfl⟩,⟨[],me,b9 _,fun _=>rfl⟩,ne⟩ j9.k ?_
 intro a ha
 simp only[La.ch,Ad.ls,aS,bz,ak,bh,or_false]at ha
 rcases ha with rfl|rfl|rfl|rfl|rfl|rfl|rfl
 ·exact(j9.m (_,.ins T.c8.a bx (fB p0 p1 p2 p3 (.int 0))) (by simp)).2
 ·exact(j9.m (_,.lst []) (by simp)).2
 ·exact(j9.m (_,.lst []) (by simp)).2
 ·exact(j9.m (_,.lst []) (by simp)).2
 ·exact(j9.m (_,.lst []) (by simp)).2
 ·exact(j9.m (_,.dK []) (by simp)).2
 ·exact(j9.m (_,.dK []) (by simp)).2
structure Cq (CP:Addr) (H:Hp) (p h:Addr) (names:List Str) (roots:List Nat) (ρs:List Ro) (ho:Nat->Option Hm):Prop where
 p:∃n r w dx xs,PrA CP H p n r w dx xs names roots ρs
 h:∃hs,H h=some (.lst hs)/\∀(k:Nat) (ρ:Ro),ρs[k]?=some ρ->∃y,hs[k]?=some y/\Im H y (hoD (ho k))
 few:∀(k:Nat) (ρ:Ro),ρs[k]?=some ρ->ρ.few
 dom:∀(k:Nat) (h:Hm),ho k=some h->h.1="def"->∃d:Nat,h.2=(d:Int)/\d<roots.length
theorem Cq.cp {CP:Addr} {H H':Hp} {A:La} {names:List Str} {roots:List Nat} {ρs:List Ro} {ho:Nat->Option Hm} (x:Cq CP H A.p A.h names roots ρs ho) (S:fE H H') (hn:∀a∈A.ch,H a=none):Cp CP H' A names roots ρs ho:=by
 obtain⟨⟨n,r,w,dx,xs,pr⟩,⟨hs,e,hh⟩,fw,dm⟩:=x
 have no:∀{a:Addr} {o:HO},H a=some o->a∉A.ch:=fun e z=>by rw[hn _ z]at e;cases e
 exact⟨⟨n,r,w,dx,xs,pr.same S,no pr.o,no pr.n,no pr.r,no pr.w⟩,⟨hs,S _ _ e,no e,fun j ρ hj=>let⟨y,a,b⟩:=hh j ρ hj;⟨y,a,b.mono (fE.tk S)⟩⟩,fw,dm⟩
inductive XLd2 (CP:Addr) (c:Cs) (f:Nat) (vs:List V) (H:Hp) (Q:VK):Prop
 |mk (p h:Addr) (d r:Int) (s':Ls) (names:List Str) (roots:List Nat) (ρs:List Ro) (ho:Nat->Option Hm) (e:vs=[.ref p,.ref h,.int d,.non]) (C:Cq CP H p h names roots ρs ho) (hl:uZ (iL ρs roots ho f) roots d s00=some (r,s')) (hz:Sz 1000000 s') (q:∀B H',fE H H'->(∀a∈B.b::B.ls,H a=none)->Bw c H' B (.int r) s'.D->Q (.ref B.b) H')
def Dj (CP:Addr) (c:Cs) (f:Nat):Sp:=fun vs H Q _=>XLd2 CP c f vs H Q
theorem Dk (T:Txt K mg) (W:Lk P w T) (f:Nat):qZ P w K mg base CX0 (5*f+ 5) T.y7.a T.y7.fd ["program","homes","which","papers"] (Dj T.c10.a (cs T) f):=by
 have gE73:=iM (P:=P) (w:=w) (base:=base) T f (n8 T W f)
 have gE72:=n9 (P:=P) (w:=w) (base:=base) T
 have gE71:=qT (P:=P) (w:=w) (base:=base) T
 refine T.y7.F.ok za (fun vs H Q E h=>?_) (fun cdv A0 outer s0 H vs Q E hr h=>?_)
 ·obtain⟨p,h,d,r,s',names,roots,ρs,ho,rfl,_⟩:=h
  rfl
 obtain⟨p,h,d,r,s',names,roots,ρs,ho,rfl,C,hl,hz,q⟩:=h
 refine⟨_,(eU (pS (i:=4) za.nd (jk T.mk9 gE72 (hr.mono (by lia)) rfl T.c9.m T.e72.b .nil fK (eR (cv 0) (eR (cv 1) (eR (cv 3) eT)))))
  (eU (fA (fj (fo (PE.mono (fu T.c9.cl T.n9board (cv 4))) T.c8.cl T.e71.me gE71 (hr.mono (by lia)) T.e71.b .nil fK (eR (fj (fo (PE.mono (cv 4)) T.c9.cl T.e73.me gE73 (hr.mono (by lia)) T.e73.b .nil fK (eR (cv 2) eT))) eT))))
  (eZ (fz (fu T.c9.cl T.n9board (cv 4)))))),?_⟩
 refine fun x dx hx hdx nx=>⟨x,dx,p,h,rfl,eS,fun A H1 eA ep eh M1 k1 n1=>⟨rfl,?_⟩⟩
 have Sm:=jb (o:= .ins T.c9.a dx []) hx hdx
 have S1:fE H H1:=fun y u e=>k1 y u (Sm _ _ e) (fe e hx)
 have hn:∀a∈A.B.b::A.ch,H a=none:=fun a ha=>by
  cases e:H a with
  |none=>rfl
  |some u=>have:=n1 a ha;rw[Sm _ _ e]at this;cases this
 clear n1 k1 Sm
 subst eA ep eh
 have C1:=C.cp S1 (fun a ha=>hn a (aj _ ha))
 dsimp only[fN]
 refine⟨_,⟨_,_,M1.o,fG⟩,⟨_,_,M1.b.b,uk _ _ _ _ _⟩,⟨_,_,M1.o,hV fW⟩,?_⟩
 refine tc1 (v:= .int d) rfl ⟨A,s00,s',d,r,names,roots,ρs,ho,rfl,M1,C1,hl,hz,fun H2 M2 F2=>?_⟩
 refine⟨A.B.b,A.B.bx,A.B.p0,A.B.p1,A.B.p2,A.B.p3,.int 0,.int r,rfl,M2.b.b,?_⟩
 have nb:A.l≠A.B.b:=jw M2.o M2.b.b (fun z=>by
  injection z with _ _ z
  exact absurd (congrArg List.length z) (by show ¬(6:Nat)=5;decide))
 refine⟨_,⟨_,_,(by rw[eX nb];exact M2.o),fG⟩,?_⟩
 refine q A.B _ (fun y u e=>?_) (fun a ha=>hn a ?_) (M2.b.root (.int r))
 ·have ny:y∉A.B.b::A.ch:=fun z=>by rw[hn y z]at e;cases e
  rw[eX (fun z=>ny (by rw[z];exact ai))]
  exact F2 _ _ (S1 _ _ e) fun z=>ny (aj _ z)
 ·rcases ak.mp ha with rfl|ha
  ·exact ai
  ·exact aj _ (aq _ ha)
def Wr (en:Int->Int) (p:Int) (h h':Int->Option Int):Prop:=∀k,h' k≠h k->(p<k/\k<en p)\/(k<p/\en k<=p)
def Nst (en:Int->Int):Prop:=∀k p,k<p->en k<=p\/en p<=en k
theorem Wr.refl {en:Int->Int} {p:Int} {h:Int->Option Int}:Wr en p h h:=fun _ n=>absurd rfl n
theorem Wr.trans {en:Int->Int} {p:Int} {h h1 h2:Int->Option Int} (a:Wr en p h h1) (b:Wr en p h1 h2):Wr en p h h2:=fun k n=>by
 by_cases e:h1 k=h k
 ·exact b k (by rw[e];exact n)
 ·exact a k e
theorem Wr.part {en:Int->Int} (N:Nst en) {p c:Int} {h h1:Int->Option Int} (a:Wr en c h h1) (z1:p<c) (z2:en c<=en p) (z3:c<en c):Wr en p h h1:=fun k n=>by
 rcases a k n with⟨x,y⟩|⟨x,y⟩
 ·exact .inl ⟨by lia,by lia⟩
 ·by_cases e:p<k
  ·exact .inl ⟨e,by lia⟩
  ·by_cases e2:k=p
   ·subst e2;lia
   ·have kp:k<p:=by lia
    rcases N k p kp with z|z
    ·exact .inr ⟨kp,z⟩
    ·lia
theorem Wr.ahead {en:Int->Int} {p c:Int} {h h1:Int->Option Int} (N:Nst en) (a:Wr en c h h1) (h2:en c<=p) (h3:c<en c):Wr en p h h1:=fun k n=>by
 rcases a k n with⟨x,y⟩|⟨x,y⟩
 ·rcases N k p (by lia)with z|z
  ·exact .inr ⟨by lia,z⟩
  ·rcases N c k x with u|u
   ·lia
   ·exact .inr ⟨by lia,by lia⟩
 ·exact .inr ⟨by lia,by lia⟩
theorem Wr.enc {en:Int->Int} {p k:Int} {h h1:Int->Option Int} (a:Wr en p h h1) (z1:k<=p) (z2:p<en k):h1 k=h k:=by
 by_cases e:h1 k=h k
 ·exact e
 ·rcases a k e with⟨x,y⟩|⟨x,y⟩<;>lia
def Rw (en df:Int->Int) (p:Int) (s s':Ls):Prop:=Wr en p s.held s'.held/\∀d,s'.st d≠s.st d->d<df p
section
variable {en df:Int->Int} {p0:Int}
theorem Rw.eq {s s':Ls} (h:s'.held=s.held) (k:s'.st=s.st):Rw en df p0 s s':=⟨by rw[h];exact Wr.refl,fun d n=>absurd (by rw[k]) n⟩
theorem Rw.refl (s:Ls):Rw en df p0 s s:=Rw.eq rfl rfl
theorem Rw.trans {a b c:Ls} (h:Rw en df p0 a b) (k:Rw en df p0 b c):Rw en df p0 a c:=⟨h.1.trans k.1,fun d n=>by
 by_cases e:b.st d=a.st d
 ·exact k.2 d (by rw[e];exact n)
 ·exact h.2 d e⟩
theorem Rw.pt {s:Ls} {p:Int}:Rw en df p0 s (s.pt p):=Rw.eq rfl rfl
theorem Rw.mk' {s:Ls} {p:Mkg}:Rw en df p0 s (s.mk' p):=Rw.eq rfl rfl
theorem Rw.us {s:Ls} {p:Us}:Rw en df p0 s (s.us p):=Rw.eq rfl rfl
theorem Rw.fl {s:Ls} {p q:Int}:Rw en df p0 s (s.fl p q):=Rw.eq rfl rfl
theorem Rw.ho {s:Ls} {k v:Int} (h1:p0<k) (h2:k<en p0):Rw en df p0 s (s.hold k v):=⟨fun x n=>by
 by_cases e:x=k
 ·subst e;exact .inl ⟨h1,h2⟩
 ·exact absurd (fO e) n,fun d n=>absurd rfl n⟩
def Ok (L:Lf) (en df:Int->Int) (p0 c:Int):Prop:=p0<c/\c<en p0/\∀s q s',L c s=some (q,s')->Rw en df p0 s s'
variable {L:Lf}
theorem Dl {roots:List Nat} {ho:Option Hm} {p own:Int} {s s':Ls} {ρ:Ro} (hk:∀c∈sT ρ,Ok L en df p0 c) (hm:∀h0,ho=some h0->∀s r,jj L roots h0 p s=some r->Rw en df p0 s r.2) (h:iF L roots ho p own s ρ=some s'):Rw en df p0 s s':=by
 by_cases nn:∀w,ρ≠ .name w
 ·have G:Gn (γ:=Unit) (fun x=>x) (fun _ s2 t=>t=s2/\Rw en df p0 s s2) (fun _ _ _=>True) L L p ρ:=
   ⟨(fun r=>by rw[r.1]),(fun r=>⟨⟨by rw[r.1],r.2.trans Rw.pt⟩,fun _ _=>trivial,trivial⟩),(fun r _ _=>⟨by rw[r.1,r8],r.2.trans Rw.mk'⟩),(fun r _=>⟨by rw[r.1,r9],r.2.trans Rw.us⟩),(fun r _ _=>⟨by rw[r.1],r.2.trans Rw.fl⟩),
    (fun{c s2 t k q s'} hc r e=>by
     obtain⟨rfl,r⟩:=r
     exact⟨(),s',e,⟨rfl,r.trans ((hk _ (je hc)).2.2 _ _ _ e)⟩,fun _ _=>trivial,trivial⟩),
    (fun{c s2 t k q s'} hc r e=>by
     obtain⟨rfl,r⟩:=r
     have o:=hk _ (kX hc)
     exact⟨(),s',e,⟨rfl,(r.trans (Rw.pt.trans (Rw.ho o.1 o.2.1))).trans (o.2.2 _ _ _ e)⟩,fun _ _=>trivial,trivial,trivial⟩)⟩
  obtain⟨_,t',e1,r1,_⟩:=G.go (c:=()) nn ⟨rfl,Rw.refl _⟩ trivial h
  rw[h]at e1
  cases e1
  exact r1.2
 ·obtain⟨w,rfl⟩:∃w,ρ= .name w:=Classical.byContradiction fun n=>nn fun w e=>n ⟨w,e⟩
  obtain⟨h0,r,s1,hh,h2,rfl⟩:=kF h
  exact(hm _ hh _ _ h2).trans Rw.fl
end
structure Nt (en df:Int->Int) (ρs:List Ro) (roots:List Nat) (ho:Nat->Option Hm):Prop where
 n:Nst en
 kid:∀p ρ c,atZ ρs p=some ρ->c∈sT ρ->p<c/\en c<=en p/\c<en c/\df c=df p
 lt:∀(k:Nat) h,ho k=some h->h.1="let"->en h.2<=k/\h.2<en h.2/\df h.2=df k
 dn:∀(k:Nat) h,ho k=some h->h.1="def"->inF roots k h.2=false->h.2<df k/\∀r,atZ roots h.2=some r->(r:Int)<en r/\en r<=k/\df r=h.2
theorem wo {en df:Int->Int} {ρs:List Ro} {roots:List Nat} {ho:Nat->Option Hm} (N:Nt en df ρs roots ho):∀f p s q s',iL ρs roots ho f p s=some (q,s')->Rw en df p s s'
 |0,p,s,q,s',h=>by cases h
 |f+ 1,p,s,q,s',h=>by
  obtain⟨ρ,hk,h1,rfl⟩:=kY h
  obtain⟨k,rfl,hk'⟩:=fV hk
  refine Rw.pt.trans (Dl (fun c hc=>?_) (fun h0 e0 s r hm=>?_) h1)
  ·obtain⟨z1,z2,z3,z4⟩:=N.kid _ _ _ hk hc
   refine⟨z1,by lia,fun s q s' hl=>?_⟩
   have w:=wo N f _ _ _ _ hl
   exact⟨w.1.part N.n z1 z2 z3,fun d n=>by rw[<-z4];exact w.2 d n⟩
  ·have e0:ho k=some h0:=e0
   unfold jj at hm
   split at hm
   ·rename_i e1
    obtain⟨z1,z2,z3⟩:=N.lt _ _ e0 e1
    have w:=wo N f _ _ _ _ (show iL ρs roots ho f h0.2 s=some (r.1,r.2)from hm)
    exact⟨w.1.ahead N.n z1 z2,fun d n=>by rw[<-z3];exact w.2 d n⟩
   ·split at hm
    ·rename_i e1
     split at hm
     ·obtain⟨q,_,rfl⟩:=cF.mp hm;exact Rw.refl _
     ·rename_i e2
      obtain⟨z1,z2⟩:=N.dn _ _ e0 e1 (by simpa using e2)
      obtain⟨r0,q0,s2,hd,h2,_,e3⟩:=ke (show uZ (iL ρs roots ho f) roots h0.2 s=some (r.1,r.2)from hm)
      obtain⟨z3,z4,z5⟩:=z2 _ hd
      have w:=wo N f _ _ _ _ h2
      rw[e3]
      refine Rw.trans (b:=(s.pt r0).begin h0.2 s.n) ⟨Wr.refl,fun d n=>?_⟩ (Rw.trans ⟨w.1.ahead N.n z4 z3,fun d n=>?_⟩ Rw.fl)
      ·by_cases e:d=h0.2
       ·rw[e];exact z1
       ·exact absurd (fO e) n
      ·have:=w.2 d n
       rw[z5]at this
       lia
    ·obtain⟨q,_,rfl⟩:=cF.mp hm;exact Rw.refl _
structure Vs (vi:Int->Int->Prop) (en df:Int->Int) (ρs:List Ro) (roots:List Nat) (ho:Nat->Option Hm):Prop where
 enc:∀p k,vi p k->0<=k/\k<=p/\p<en k
 kid:∀p ρ c k,atZ ρs p=some ρ->c∈sT ρ->vi c k->vi p k\/(k=c/\c∈bnd ρ)
 lt:∀(p:Nat) h k,ho p=some h->h.1="let"->vi h.2 k->vi p k
 root:∀d r k,atZ roots d=some r->¬vi r k
 held:∀(p:Nat) h,ho p=some h->h.1≠"let"->h.1≠"def"->vi p h.2
 inn:∀(p:Nat) h,ho p=some h->h.1="def"->(inF roots p h.2=true↔h.2=df p)
 dr:∀d r,atZ roots d=some r->df r=d
 sub:∀p a l,atZ ρs p=some (.case a l)->a∉bnd (.case a l)
theorem p4 {K:PySem.W.Frag} {H:Hp} {a b:Addr} {xs ys:List V} {Q:VK} (ha:H a=some (.tup xs)) (hb:H b=some (.tup ys)) (hz:xs.length+ys.length<=sizeLine) (h:∀c H',fE H H'->H' c=some (.tup (xs++ys))->Q (.ref c) H'):AI K (.ref a) (.ref b) H Q:=
 ⟨a,b,xs,ys,rfl,rfl,SqT.of ha,SqT.of hb,hz,fun z=>h b H (fun _ _ e=>e) (by rw[z];exact hb),fun z=>h a H (fun _ _ e=>e) (by rw[z,aD];exact ha),fun p hp=>h p _ (eW hp _) eS⟩
theorem wq {K:PySem.W.Frag} {a:Addr} {xs:List V} {g:TG} {tb:TS} {D:pj} {σ:St} {H:Hp} (Pv:Nat->St->Hp->Prop) (h0:Pv 0 σ H) (hl:∀i σ H,i<=xs.length->Pv i σ H->SqL K H a xs)
  (hs:∀(i:Nat) (x:V) (σ:St) (H:Hp) (T:Addr),xs[i]?=some x->Pv i σ H->H T=none->g (.ref T) σ (upd H T (.tup [.int (i:Int),x])) fun σ2 H2=>tb {D with nx:=Pv (i+ 1),ct:=Pv (i+ 1),bk:=D.nx} σ2 H2) (hd:∀σ H,Pv xs.length σ H->D.nx σ H):
  ∃W:Nat->Nat->St->Hp->Prop,(∃m,W 0 m σ H)/\∀i m σ H,W i m σ H->
   ((Ite K a).stop i H/\D.nx σ H)\/((Ite K a).go i H/\∃N:St->Hp->Prop,(∀σ' H',N σ' H'->∃m',m'<m/\W (i+ 1) m' σ' H')/\∀x H',(Ite K a).yld i H x H'->g x σ H' fun σ2 H2=>tb {D with nx:=N,ct:=N,bk:=D.nx} σ2 H2):=by
 refine⟨fun i m σ H=>m=xs.length-i/\i<=xs.length/\Pv i σ H,⟨xs.length,by simp,cb _,h0⟩,?_⟩
 rintro i m σ H ⟨rfl,hi,p⟩
 have q:=hl i σ H hi p
 by_cases hlt:i<xs.length
 ·refine .inr ⟨⟨xs,xs[i],q,by simp[hlt]⟩,Pv (i+ 1),fun σ' H' p'=>⟨xs.length-(i+ 1),by lia,rfl,hlt,p'⟩,fun v H' y=>?_⟩
  obtain⟨T,x,rfl,hT,rfl,hx⟩:=y
  exact hs i x σ H T (hx xs q) p hT
 ·have e:i=xs.length:=by lia
  subst e
  exact .inl ⟨⟨xs,q,rfl⟩,hd σ H p⟩
open TM.Internal (Kn Tr gF szs)
def roK:Kn->List Nat->Ro
 | .num n,_=> .num n
 | .name w,_=> .name w
 | .fn w,p::_=> .fn w p
 | .tag w,p::_=> .tag w p
 | .lt w,p::q::_=> .lt w p q
 | .get w,p::_=> .get p w
 | .rcd l,ps=> .rcd ((l.zip ps).map fun q=>(q.1,(q.2:Int)))
 | .case l,p::ps=> .case p ((l.zip ps).map fun q=>(q.1.1,q.1.2,(q.2:Int)))
 | .row _,ps=> .row (ps.map fun p:Nat=>(p:Int))
 | .op s _,ps=> .op s (ps.map fun p:Nat=>(p:Int))
 |_,_=> .num 0
structure En where
 w:Str
 h:Hm
 v:Nat
abbrev Sc:=List En
def lkE (sc:Sc) (w:Str):Option En:=sc.foldl (fun a x=>if x.w=w then some x else a) none
theorem k8 (sc:Sc) (x:En) (w:Str):lkE (sc++[x]) w=if x.w=w then some x else lkE sc w:=by
 unfold lkE
 rw[List.foldl_append]
 rfl
theorem wu {w:Str} {e:En}:∀{sc:Sc} {a:Option En},sc.foldl (fun a x=>if x.w=w then some x else a) a=some e->a=some e\/(e∈sc/\e.w=w)
 |[],a,h=> .inl h
 |x::sc,a,h=>by
  rcases wu (sc:=sc) h with h1|⟨h1,h2⟩
  ·dsimp only at h1
   split at h1
   ·cases h1;exact .inr ⟨by simp,by assumption⟩
   ·exact .inl h1
  ·exact .inr ⟨aj _ h1,h2⟩
theorem zC {sc:Sc} {w:Str} {e:En} (h:lkE sc w=some e):e∈sc/\e.w=w:=by
 rcases wu h with h|h
 ·cases h
 ·exact h
def val (sc:Sc) (w:Str):Nat:=match lkE sc w with
 |some e=>e.v
 |none=>0
abbrev Ex:=Option (Str×Str)
def exN:Kn->List Ex
 | .fn w=>[some (w,"fn")]
 | .lt w=>[none,some (w,"let")]
 | .case l=>none::l.map fun a=>some (a.2,"arm")
 |_=>[]
def hdX (xs:List Ex):Ex:=xs.headD none
def exS (sc:Sc) (x:Ex) (p pp pw:Nat):Sc:=match x with
 |none=>sc
 |some (w,k)=>sc++[if k="let" then⟨w,("let",(pp:Int)),pw⟩else⟨w,(k,(p:Int)),0⟩]
def upE (e:Str->Nat) (x:Ex) (pw:Nat):Str->Nat:=match x with
 |none=>e
 |some (w,k)=>fun u=>if w=u then(if k="let" then pw else 0)else e u
theorem zD (sc:Sc) (x:Ex) (p pp pw:Nat):val (exS sc x p pp pw)=upE (val sc) x pw:=by
 cases x with
 |none=>rfl
 |some z=>
  obtain⟨w,k⟩:=z
  funext u
  show val (sc++[_]) u=_
  unfold val upE
  rw[k8]
  by_cases h:k="let"
  ·rw[f6 h]
   by_cases e:w=u
   ·rw[f6 e];simp[e,h]
   ·rw[fO e];simp[e]
  ·rw[fO h]
   by_cases e:w=u
   ·rw[f6 e];simp[e,h]
   ·rw[fO e];simp[e]
def nmW:Kn->(Str->Nat)->Nat
 | .name w,e=>e w
 |_,_=>0
mutual
def wT:Tr->(Str->Nat)->Nat
 | .mk κ ks,e=>1+nmW κ e+wTs ks (exN κ) e 0
def wTs:List Tr->List Ex->(Str->Nat)->Nat->Nat
 |[],_,_,_=>0
 |t::ts,xs,e,pw=>wT t (upE e (hdX xs) pw)+wTs ts xs.tail e (wT t (upE e (hdX xs) pw))
end
def adN (N:Str->Prop) (x:Ex):Str->Prop:=match x with
 |none=>N
 |some (w,_)=>fun u=>u=w\/N u
def okK:Kn->Nat->(Str->Prop)->Prop
 | .num _,n,_=>n=0
 | .name w,n,N=>n=0/\N w
 | .fn _,n,_=>n=1
 | .tag _,n,_=>n=1
 | .lt _,n,_=>n=2
 | .get _,n,_=>n=1
 | .rcd l,n,_=>n=l.length/\l.length<=10
 | .case l,n,_=>n=l.length+ 1/\l.length<=10
 | .row m,n,_=>n=m/\m<=1000
 | .op s m,n,_=>n=m/\(s,m)∈TM.Internal.ops
mutual
def okT:Tr->(Str->Prop)->Prop
 | .mk κ ks,N=>okK κ ks.length N/\sV ks (exN κ) N
def sV:List Tr->List Ex->(Str->Prop)->Prop
 |[],_,_=>True
 |t::ts,xs,N=>okT t (adN N (hdX xs))/\sV ts xs.tail N
end
theorem AZ {N M:Str->Prop} (h:∀w,N w->M w) (x:Ex):∀w,adN N x w->adN M x w:=fun w a=>by
 cases x with
 |none=>exact h w a
 |some z=>
  rcases a with a|a
  ·exact .inl a
  ·exact .inr (h w a)
mutual
theorem sX:∀(t:Tr) {N M:Str->Prop},(∀w,N w->M w)->okT t N->okT t M
 | .mk κ ks,N,M,h,a=>by
  unfold okT at a⊢
  refine⟨?_,uE ks h a.2⟩
  have a1:=a.1
  cases κ with
  |name w=>exact⟨a1.1,h w a1.2⟩
  |_=>exact a1
theorem uE:∀(ts:List Tr) {xs:List Ex} {N M:Str->Prop},(∀w,N w->M w)->sV ts xs N->sV ts xs M
 |[],xs,N,M,_,_=>by unfold sV;trivial
 |t::ts,xs,N,M,h,a=>by
  unfold sV at a⊢
  exact⟨sX t (AZ h _) a.1,uE ts h a.2⟩
end
structure Pc where
 ρ:Ro
 sc:Sc
 en:Nat
 df:Nat
 wt:Nat
mutual
def pcT:Tr->Nat->Sc->Nat->List Pc
 | .mk κ ks,p,sc,d=>⟨roK κ (gF ks (p+ 1)),sc,p+(Tr.mk κ ks).sz,d,wT (.mk κ ks) (val sc)⟩::zE ks (p+ 1) 0 0 (exN κ) sc d
def zE:List Tr->Nat->Nat->Nat->List Ex->Sc->Nat->List Pc
 |[],_,_,_,_,_,_=>[]
 |t::ts,p,pp,pw,xs,sc,d=>pcT t p (exS sc (hdX xs) p pp pw) d++zE ts (p+t.sz) p (wT t (upE (val sc) (hdX xs) pw)) xs.tail sc d
end
mutual
def Pl (G:List Pc):Tr->Nat->Sc->Nat->Prop
 | .mk κ ks,p,sc,d=>G[p]?=some ⟨roK κ (gF ks (p+ 1)),sc,p+(Tr.mk κ ks).sz,d,wT (.mk κ ks) (val sc)⟩/\Pls G ks (p+ 1) 0 0 (exN κ) sc d
def Pls (G:List Pc):List Tr->Nat->Nat->Nat->List Ex->Sc->Nat->Prop
 |[],_,_,_,_,_,_=>True
 |t::ts,p,pp,pw,xs,sc,d=>Pl G t p (exS sc (hdX xs) p pp pw) d/\Pls G ts (p+t.sz) p (wT t (upE (val sc) (hdX xs) pw)) xs.tail sc d
end
mutual
theorem jT:∀(t:Tr) (p:Nat) (sc:Sc) (d:Nat),(pcT t p sc d).length=t.sz
 | .mk κ ks,p,sc,d=>by rw[pcT,az,wx,Tr.sz];lia
theorem wx:∀(ts:List Tr) (p pp pw:Nat) (xs:List Ex) (sc:Sc) (d:Nat),(zE ts p pp pw xs sc d).length=szs ts
 |[],_,_,_,_,_,_=>rfl
 |t::ts,p,pp,pw,xs,sc,d=>by rw[zE,aO,jT,wx,szs]
end
theorem pH:∀t:Tr,0<t.sz
 | .mk κ ks=>by rw[Tr.sz];lia
mutual
theorem Dn:∀(t:Tr) {p:Nat} {sc:Sc} {d:Nat} {G l1 l2:List Pc},G=l1++(pcT t p sc d++l2)->l1.length=p->Pl G t p sc d
 | .mk κ ks,p,sc,d,G,l1,l2,e,h=>by
  rw[pcT]at e
  refine⟨?_,BP ks (l1:=l1++[_]) (l2:=l2) (by rw[e,bC];rfl) (by rw[aO,h];rfl)⟩
  rw[e,aI (by lia),h,cg]
  rfl
theorem BP:∀(ts:List Tr) {p pp pw:Nat} {xs:List Ex} {sc:Sc} {d:Nat} {G l1 l2:List Pc},G=l1++(zE ts p pp pw xs sc d++l2)->l1.length=p->Pls G ts p pp pw xs sc d
 |[],_,_,_,_,_,_,_,_,_,_,_=>trivial
 |t::ts,p,pp,pw,xs,sc,d,G,l1,l2,e,h=>by
  rw[zE,bC]at e
  exact⟨Dn t e h,BP ts (l1:=l1++_) (l2:=l2) (by rw[e,bC]) (by rw[aO,h,jT])⟩
end
theorem Pl.at {G:List Pc} {t:Tr} {p:Nat} {sc:Sc} {d:Nat} (h:Pl G t p sc d):∃ρ,G[p]?=some ⟨ρ,sc,p+t.sz,d,wT t (val sc)⟩:=by
 cases t with
 |mk κ ks=>exact⟨_,h.1⟩
theorem zF {G:List Pc}:∀{ts:List Tr} {p pp pw:Nat} {xs:List Ex} {sc:Sc} {d j c:Nat},Pls G ts p pp pw xs sc d->(gF ts p)[j]?=some c->∃t pp' pw',ts[j]?=some t/\Pl G t c (exS sc (xs[j]?.getD none) c pp' pw') d/\p<=c/\c+t.sz<=p+szs ts/\(0<j->p<c)
 |[],p,pp,pw,xs,sc,d,j,c,_,h=>by cases h
 |t::ts,p,pp,pw,xs,sc,d,0,c,a,h=>by
  cases h
  refine⟨t,pp,pw,rfl,?_,b9 _,by rw[szs];lia,fun z=>absurd z (bX _)⟩
  have e:xs[0]?.getD none=hdX xs:=by cases xs<;>rfl
  rw[e]
  exact a.1
 |t::ts,p,pp,pw,xs,sc,d,j+ 1,c,a,h=>by
  obtain⟨t',pp',pw',e,b,l1,l2,_⟩:=zF a.2 (show(gF ts (p+t.sz))[j]?=some c from h)
  have:=pH t
  refine⟨t',pp',pw',e,?_,by lia,by rw[szs];lia,fun _=>by lia⟩
  have e:xs.tail[j]?=xs[j+ 1]?:=by cases xs<;>simp
  rw[<-e]
  exact b
open TM.Internal (Kn Tr gF szs)
def Bi (sc:Sc) (k:Int):Prop:=∃e∈sc,(e.h.1="fn"\/e.h.1="arm")/\e.h.2=k
def BL (sc:Sc) (k:Int):Prop:=∃e∈sc,e.h.1="let"/\e.h.2=k
def LE (G:List Pc) (sc:Sc) (q a:Nat) (ca:Pc):Prop:=(∀k,Bi ca.sc k->Bi sc k)/\(∀k,BL ca.sc k->BL sc k)/\∃(L b:Nat) (w:Str) (cL:Pc),a=L+ 1/\G[L]?=some cL/\cL.ρ= .lt w a b/\q<=cL.en/\ca.en=b
def SE (G:List Pc) (roots:List Nat) (sc:Sc) (p q d:Nat) (e:En):Prop:=
 (e.h.1="let"/\∃(a:Nat) (ca:Pc),e.h.2=(a:Int)/\G[a]?=some ca/\ca.en<=p/\a<ca.en/\ca.df=d/\ca.wt<=e.v/\LE G sc q a ca)
 \/(e.h.1="def"/\∃j:Nat,e.h.2=(j:Int)/\j<=d/\(j<d->∃(r:Nat) (c:Pc),roots[j]?=some r/\G[r]?=some c/\c.df=j/\c.en<=p/\r<c.en/\c.wt<=e.v/\∀k,¬Bi c.sc k))
 \/((e.h.1="fn"\/e.h.1="arm")/\∃(a:Nat) (ca:Pc),e.h.2=(a:Int)/\G[a]?=some ca/\a<=p/\q<=ca.en)
def Sok (G:List Pc) (roots:List Nat) (sc:Sc) (p q d:Nat):Prop:=∀e∈sc,SE G roots sc p q d e
def Nm (sc:Sc) (w:Str):Prop:=∃e,lkE sc w=some e
theorem Bi.ex {sc:Sc} {x:Ex} {p pp pw:Nat} {k:Int} (h:Bi sc k):Bi (exS sc x p pp pw) k:=by
 cases x with
 |none=>exact h
 |some z=>
  obtain⟨e,he,h⟩:=h
  exact⟨e,aq _ he,h⟩
theorem Nm.ex {sc:Sc} {x:Ex} {p pp pw:Nat} (w:Str) (h:adN (Nm sc) x w):Nm (exS sc x p pp pw) w:=by
 cases x with
 |none=>exact h
 |some z=>
  obtain⟨u,k⟩:=z
  obtain⟨y,hy,ew⟩:∃y:En,exS sc (some (u,k)) p pp pw=sc++[y]/\y.w=u:=⟨_,rfl,by split<;>rfl⟩
  unfold Nm
  rw[hy,k8,ew]
  by_cases e:u=w
  ·rw[f6 e];exact⟨_,rfl⟩
  ·rw[fO e]
   rcases h with h|h
   ·exact absurd h.symm e
   ·exact h
theorem BL.ex {sc:Sc} {x:Ex} {p pp pw:Nat} {k:Int} (h:BL sc k):BL (exS sc x p pp pw) k:=by
 cases x with
 |none=>exact h
 |some z=>
  obtain⟨e,he,h⟩:=h
  exact⟨e,aq _ he,h⟩
theorem LE.ex {G:List Pc} {sc:Sc} {q a:Nat} {ca:Pc} {x:Ex} {p pp pw:Nat} (h:LE G sc q a ca):LE G (exS sc x p pp pw) q a ca:=⟨fun k z=>(h.1 k z).ex,fun k z=>(h.2.1 k z).ex,h.2.2⟩
theorem LE.in {G:List Pc} {sc:Sc} {q q' a:Nat} {ca:Pc} (h:LE G sc q a ca) (l:q'<=q):LE G sc q' a ca:=by
 obtain⟨h1,h2,L,b,w,cL,e1,e2,e3,e4,e5⟩:=h
 exact⟨h1,h2,L,b,w,cL,e1,e2,e3,by lia,e5⟩
structure Ft (G:List Pc) (roots:List Nat) (i:Nat) (c:Pc):Prop where
 t:∃t,Pl G t i c.sc c.df/\c.en=i+t.sz/\c.wt=wT t (val c.sc)/\okT t (Nm c.sc)
 s:Sok G roots c.sc i c.en c.df
def nol (xs:List Ex):Prop:=∀w,some (w,("let":Str))∉xs
theorem EX {xs:List Ex} (h:nol xs) (w:Str):hdX xs≠some (w,("let":Str)):=fun e=>by
 cases xs with
 |nil=>cases e
 |cons x xs=>exact h w (by rw[show x=_ from e];simp)
section
variable {G:List Pc} {roots:List Nat}
theorem Sok.in {sc:Sc} {p q p' q' d:Nat} (h:Sok G roots sc p q d) (z1:p<=p') (z2:q'<=q):Sok G roots sc p' q' d:=fun e he=>by
 rcases h e he with⟨a,x,c,y,g,l1,l2,l3,l4,l5⟩|⟨a,j,y,l,r⟩|⟨a,x,c,y,g,l1,l2⟩
 ·exact .inl ⟨a,x,c,y,g,by lia,l2,l3,l4,l5.in z2⟩
 ·exact .inr (.inl ⟨a,j,y,l,fun z=>let⟨r,c,h1,h2,h3,h4,h5⟩:=r z;⟨r,c,h1,h2,h3,by lia,h5⟩⟩)
 ·exact .inr (.inr ⟨a,x,c,y,g,by lia,by lia⟩)
theorem Sok.bind {sc:Sc} {p q d pp pw:Nat} {x:Ex} {cp:Pc} (h:Sok G roots sc p q d) (nl:∀w,x≠some (w,("let":Str))) (nd:∀w k,x=some (w,k)->k="fn"\/k="arm") (hp:G[p]?=some cp) (hq:q<=cp.en):Sok G roots (exS sc x p pp pw) p q d:=by
 cases x with
 |none=>exact h
 |some z=>
  obtain⟨u,k⟩:=z
  have nk:k≠"let":=fun e=>nl u (by rw[e])
  intro e he
  rcases ao.mp he with he|he
  ·rcases h e he with⟨a,x,c,y,g,l1,l2,l3,l4,l5⟩|r|r
   ·exact .inl ⟨a,x,c,y,g,l1,l2,l3,l4,l5.ex⟩
   ·exact .inr (.inl r)
   ·exact .inr (.inr r)
  ·rw[fO nk]at he
   rw[ba.mp he]
   exact .inr (.inr ⟨nd u k rfl,p,cp,rfl,hp,b9 _,hq⟩)
theorem Sok.lt {sc:Sc} {p q d pp pw:Nat} {w:Str} {ca:Pc} (h:Sok G roots sc p q d) (ha:G[pp]?=some ca) (h1:ca.en<=p) (h2:pp<ca.en) (h3:ca.df=d) (h4:ca.wt<=pw) (h5:ca.sc=sc) (h6:∃(L b:Nat) (w:Str) (cL:Pc),pp=L+ 1/\G[L]?=some cL/\cL.ρ= .lt w pp b/\q<=cL.en/\ca.en=b):Sok G roots (exS sc (some (w,("let":Str))) p pp pw) p q d:=by
 intro e he
 rcases ao.mp he with he|he
 ·rcases h e he with⟨a,x,c,y,g,l1,l2,l3,l4,l5⟩|r|r
  ·exact .inl ⟨a,x,c,y,g,l1,l2,l3,l4,l5.ex⟩
  ·exact .inr (.inl r)
  ·exact .inr (.inr r)
 ·rw[f6 rfl]at he
  rw[ba.mp he]
  exact .inl ⟨rfl,pp,ca,rfl,ha,h1,h2,h3,h4,fun k hk=>by rw[h5]at hk;exact hk.ex,fun k hk=>by rw[h5]at hk;exact hk.ex,h6⟩
def ndx (xs:List Ex):Prop:=∀w k,some (w,k)∈xs->k="fn"\/k="arm"
theorem EY {xs:List Ex} (h:ndx xs):ndx xs.tail:=fun w k m=>h w k (List.mem_of_mem_tail m)
theorem EZ {xs:List Ex} (h:ndx xs) (w k:Str) (e:hdX xs=some (w,k)):k="fn"\/k="arm":=by
 cases xs with
 |nil=>cases e
 |cons x xs=>exact h w k (by rw[show x=_ from e];simp)
theorem Dp {xs:List Ex} (h:ndx xs):nol xs:=fun w m=>by
 rcases h w "let" m with h|h<;>exact absurd h fW
def Fts (G:List Pc) (roots:List Nat) (p q d:Nat):Prop:=(∀i,p<=i->i<q->∃c,G[i]?=some c/\Ft G roots i c/\c.df=d/\c.en<=q)/\∀i j ci cj,p<=i->i<j->j<q->G[i]?=some ci->G[j]?=some cj->ci.en<=j\/cj.en<=ci.en
theorem Fts.app {p q r d:Nat} (a:Fts G roots p q d) (b:Fts G roots q r d) (h1:p<=q) (h2:q<=r):Fts G roots p r d:=by
 refine⟨fun i l1 l2=>?_,fun i j ci cj l1 l2 l3 e1 e2=>?_⟩
 ·by_cases z:i<q
  ·obtain⟨c,h1,h2,h3,h4⟩:=a.1 i l1 z
   exact⟨c,h1,h2,h3,by lia⟩
  ·exact b.1 i (by lia) l2
 ·by_cases z:j<q
  ·exact a.2 i j ci cj l1 l2 z e1 e2
  ·by_cases y:i<q
   ·obtain⟨c,h1,h2,h3,h4⟩:=a.1 i l1 y
    rw[h1]at e1
    cases e1
    exact .inl (by lia)
   ·exact b.2 i j ci cj (by lia) l2 l3 e1 e2
mutual
theorem A1:∀(t:Tr) {p:Nat} {sc:Sc} {d:Nat},Pl G t p sc d->okT t (Nm sc)->Sok G roots sc p (p+t.sz) d->Fts G roots p (p+t.sz) d
 | .mk κ ks,p,sc,d,h,o,s=>by
  have es:(Tr.mk κ ks).sz=1+szs ks:=by rw[Tr.sz]
  have hf:Ft G roots p ⟨roK κ (gF ks (p+ 1)),sc,p+(Tr.mk κ ks).sz,d,wT (.mk κ ks) (val sc)⟩:=⟨⟨_,h,rfl,rfl,o⟩,s⟩
  have hr:Fts G roots (p+ 1) (p+(Tr.mk κ ks).sz) d:=by
   rw[es,<-ck]
   have s':Sok G roots sc (p+ 1) (p+ 1+szs ks) d:=s.in (by lia) (by lia)
   by_cases hk:∃w,κ= .lt w
   ·obtain⟨w,rfl⟩:=hk
    have l2:ks.length=2:=o.1
    match ks,l2,h,o with
    |[a,b],_,h,o=>
     have h2:=h.2
     have o2:=o.2
     obtain⟨ha,hb,_⟩:=h2
     obtain⟨oa,ob,_⟩:=o2
     have ss:szs [a,b]=a.sz+b.sz:=by simp[szs]
     rw[ss]at s'⊢
     have fa:Fts G roots (p+ 1) (p+ 1+a.sz) d:=A1 a ha oa (s'.in (b9 _) (by lia))
     obtain⟨ρa,ga⟩:=ha.at
     have:=pH a
     have sb:=Sok.lt (w:=w) (pw:=wT a (upE (val sc) (hdX (exN (.lt w))) 0)) (s'.in (p':=p+ 1+a.sz) (q':=p+ 1+a.sz+b.sz) (by lia) (by lia)) ga (b9 _) (by show p+ 1<p+ 1+a.sz;lia) rfl (b9 _) rfl ⟨p,p+ 1+a.sz,w,_,rfl,h.1,rfl,by show _<=p+(Tr.mk (.lt w) [a,b]).sz;rw[Tr.sz,ss];lia,rfl⟩
     have fb:=A1 b hb (sX b (fun w h=>Nm.ex w h) ob) sb
     rw[<-ck]
     exact fa.app fb (by lia) (by lia)
   ·have nx:ndx (exN κ):=fun w k m=>by
     cases κ with
     |fn u=>simp only[exN,ba,cC.injEq,Prod.mk.injEq]at m;exact .inl m.2
     |lt u=>exact absurd ⟨u,rfl⟩ hk
     |case l=>
      simp only[exN,ak,bc]at m
      rcases m with m|⟨a,_,m⟩
      ·cases m
      ·cases m;exact .inr rfl
     |_=>cases m
    exact BQ ks h.2 o.2 nx s'
  refine⟨fun i l1 l2=>?_,fun i j ci cj l1 l2 l3 e1 e2=>?_⟩
  ·by_cases z:i=p
   ·subst z;exact⟨_,h.1,hf,rfl,b9 _⟩
   ·exact hr.1 i (by lia) l2
  ·by_cases z:i=p
   ·subst z
    rw[h.1]at e1
    cases e1
    obtain⟨c,g1,_,_,g4⟩:=hr.1 j (by lia) l3
    rw[g1]at e2
    cases e2
    exact .inr g4
   ·exact hr.2 i j ci cj (by lia) l2 l3 e1 e2
theorem BQ:∀(ts:List Tr) {p pp pw:Nat} {xs:List Ex} {sc:Sc} {d:Nat},Pls G ts p pp pw xs sc d->sV ts xs (Nm sc)->ndx xs->Sok G roots sc p (p+szs ts) d->Fts G roots p (p+szs ts) d
 |[],p,pp,pw,xs,sc,d,_,_,_,_=>⟨fun i l1 l2=>by rw[szs]at l2;lia,fun i j ci cj l1 l2 l3=>by rw[szs]at l3;lia⟩
 |t::ts,p,pp,pw,xs,sc,d,h,o,n,s=>by
  rw[szs]at s⊢
  obtain⟨ρ,ga⟩:=h.1.at
  have f1:=A1 t h.1 (sX t (fun w h=>Nm.ex w h) o.1) (Sok.bind (s.in (q':=p+t.sz) (b9 _) (by lia)) (EX (Dp n)) (EZ n) ga (b9 _))
  have f2:=BQ ts h.2 o.2 (EY n) (s.in (by lia) (by lia))
  rw[<-ck]
  exact f1.app f2 (by lia) (by lia)
end
end
open TM.Internal (Kn Tr gF szs)
def dfE (wd:Nat->Str) (d v:Nat):En:=⟨wd d,("def",(d:Int)),v⟩
def pcD (wd:Nat->Str):List Tr->Nat->Nat->Sc->List Pc
 |[],_,_,_=>[]
 |t::ts,d,p,sc=>pcT t p (sc++[dfE wd d 0]) d++pcD wd ts (d+ 1) (p+t.sz) (sc++[dfE wd d (wT t (val (sc++[dfE wd d 0])))])
def FV (wd:Nat->Str):List Tr->Nat->Sc->Prop
 |[],_,_=>True
 |t::ts,d,sc=>okT t (Nm (sc++[dfE wd d 0]))/\FV wd ts (d+ 1) (sc++[dfE wd d (wT t (val (sc++[dfE wd d 0])))])
structure FtD (G:List Pc) (roots:List Nat) (d p q:Nat):Prop where
 a:∀i,p<=i->i<q->∃c,G[i]?=some c/\Ft G roots i c/\c.en<=q/\(∃r,roots[c.df]?=some r/\r<=i)/\∀r',roots[c.df+ 1]?=some r'->c.en<=r'
 n:∀i j ci cj,p<=i->i<j->j<q->G[i]?=some ci->G[j]?=some cj->ci.en<=j\/cj.en<=ci.en
 r:∀j r,d<=j->roots[j]?=some r->r<q/\∃c,G[r]?=some c/\c.df=j/\∀k,¬Bi c.sc k
def Sdf (G:List Pc) (roots:List Nat) (sc:Sc) (p d:Nat):Prop:=∀e∈sc,e.h.1="def"/\∃j:Nat,e.h.2=(j:Int)/\j<d/\∃(r:Nat) (c:Pc),roots[j]?=some r/\G[r]?=some c/\c.df=j/\c.en<=p/\r<c.en/\c.wt<=e.v/\∀k,¬Bi c.sc k
theorem Sdf.nob {G:List Pc} {roots:List Nat} {sc:Sc} {p d:Nat} {wd:Nat->Str} {v:Nat} (h:Sdf G roots sc p d) (k:Int):¬Bi (sc++[dfE wd d v]) k:=by
 rintro⟨e,he,h1,_⟩
 have z:e.h.1="def":=by
  rcases ao.mp he with he|he
  ·exact(h e he).1
  ·rw[ba.mp he];rfl
 rw[z]at h1
 rcases h1 with h1|h1<;>exact absurd h1 fW
theorem E2 {G:List Pc} {roots:List Nat} {wd:Nat->Str}:∀{ts:List Tr} {d p:Nat} {sc:Sc} {l1:List Pc},G=l1++pcD wd ts d p sc->l1.length=p->roots.drop d=gF ts p->FV wd ts d sc->Sdf G roots sc p d->FtD G roots d p (p+szs ts)
 |[],d,p,sc,l1,_,_,hr,_,_=>⟨fun i h1 h2=>by rw[szs]at h2;lia,fun i j ci cj h1 h2 h3=>by rw[szs]at h3;lia,fun j r h1 h2=>by
   have h3:(roots.drop d)[j-d]?=some r:=by rw[bD,Nat.add_sub_cancel' h1];exact h2
   rw[hr]at h3
   cases h3⟩
 |t::ts,d,p,sc,l1,e,hl,hr,ok,sd=>by
  have h0:roots[d]?=some p:=by
   have h3:(roots.drop d)[0]?=some p:=by rw[hr];rfl
   rwa[bD,Nat.add_zero]at h3
  have h1:roots.drop (d+ 1)=gF ts (p+t.sz):=by
   rw[<-List.tail_drop,hr];rfl
  have hp:Pl G t p (sc++[dfE wd d 0]) d:=Dn t (l2:=pcD wd ts (d+ 1) (p+t.sz) (sc++[dfE wd d (wT t (val (sc++[dfE wd d 0])))])) (by rw[e];rfl) hl
  obtain⟨ρ,gp⟩:=hp.at
  have tp:=pH t
  have so:Sok G roots (sc++[dfE wd d 0]) p (p+t.sz) d:=fun x hx=>by
   refine .inr (.inl ?_)
   rcases ao.mp hx with hx|hx
   ·obtain⟨a,j,b,l,r⟩:=sd x hx
    exact⟨a,j,b,by lia,fun _=>r⟩
   ·rw[ba.mp hx]
    exact⟨rfl,d,rfl,b9 _,fun z=>absurd z (bX _)⟩
  have f1:=A1 t hp ok.1 so
  have sd2:Sdf G roots (sc++[dfE wd d (wT t (val (sc++[dfE wd d 0])))]) (p+t.sz) (d+ 1):=fun x hx=>by
   rcases ao.mp hx with hx|hx
   ·obtain⟨a,j,b,l,r,c,h1,h2,h3,h4,h5⟩:=sd x hx
    exact⟨a,j,b,by lia,r,c,h1,h2,h3,by lia,h5⟩
   ·rw[ba.mp hx]
    exact⟨rfl,d,rfl,by lia,p,_,h0,gp,rfl,b9 _,by show p<p+t.sz;lia,b9 _,fun k=>sd.nob k⟩
  have f2:=E2 (l1:=l1++pcT t p (sc++[dfE wd d 0]) d) (by rw[e,pcD,bC]) (by rw[aO,hl,jT]) h1 ok.2 sd2
  have es:p+szs (t::ts)=p+t.sz+szs ts:=by rw[szs];lia
  rw[es]
  refine⟨fun i l1 l2=>?_,fun i j ci cj l1 l2 l3 e1 e2=>?_,fun j r l hj=>?_⟩
  ·by_cases z:i<p+t.sz
   ·obtain⟨c,g1,g2,g3,g4⟩:=f1.1 i l1 z
    refine⟨c,g1,g2,by lia,⟨p,by rw[g3];exact h0,l1⟩,fun r' hr'=>?_⟩
    rw[g3]at hr'
    have h3:(roots.drop (d+ 1))[0]?=some r':=by rw[bD];exact hr'
    rw[h1]at h3
    cases ts with
    |nil=>cases h3
    |cons u us=>cases h3;exact g4
   ·exact f2.a i (by lia) l2
  ·by_cases z:j<p+t.sz
   ·exact f1.2 i j ci cj l1 l2 z e1 e2
   ·by_cases y:i<p+t.sz
    ·obtain⟨c,g1,_,_,g4⟩:=f1.1 i l1 y
     rw[g1]at e1
     cases e1
     exact .inl (by lia)
    ·exact f2.n i j ci cj (by lia) l2 l3 e1 e2
  ·by_cases z:j=d
   ·subst z
    rw[h0]at hj
    cases hj
    exact⟨by lia,_,gp,rfl,fun k=>sd.nob k⟩
   ·exact f2.r j r (by lia) hj
theorem zG {wd:Nat->Str}:∀{ts:List Tr} {d p:Nat} {sc:Sc},(pcD wd ts d p sc).length=szs ts
 |[],_,_,_=>rfl
 |t::ts,d,p,sc=>by rw[pcD,aO,jT,zG,szs]
theorem Dr {wd:Nat->Str} {ts:List Tr} (ok:FV wd ts 0 []):FtD (pcD wd ts 0 0 []) (gF ts 0) 0 0 (szs ts):=by
 have h:=E2 (l1:=[]) (G:=pcD wd ts 0 0 []) (roots:=gF ts 0) rfl rfl rfl ok (fun _ h=>by cases h)
 rwa[cq]at h
def enG (G:List Pc) (k:Int):Int:=match atZ G k with
 |some c=>(c.en:Int)
 |none=>k+ 1
def dfG (G:List Pc) (k:Int):Int:=match atZ G k with
 |some c=>(c.df:Int)
 |none=> -1
def viG (G:List Pc) (p k:Int):Prop:=∃c,atZ G p=some c/\Bi c.sc k
def hoC (c:Pc):Option Hm:=match c.ρ with
 | .name w=>(lkE c.sc w).map En.h
 |_=>none
def hoG (G:List Pc) (k:Nat):Option Hm:=(G[k]?).bind hoC
theorem GY {c:Pc} {h:Hm} (e:hoC c=some h):∃w x,c.ρ= .name w/\lkE c.sc w=some x/\x.h=h:=by
 unfold hoC at e
 split at e
 ·rename_i w hw
  obtain⟨x,hx,rfl⟩:=cF.mp e
  exact⟨w,x,hw,hx,rfl⟩
 ·cases e
theorem GZ {G:List Pc} {k:Nat} {h:Hm} (e:hoG G k=some h):∃c w x,G[k]?=some c/\c.ρ= .name w/\x∈c.sc/\lkE c.sc w=some x/\x.h=h:=by
 unfold hoG at e
 obtain⟨c,hc,e⟩:=Option.bind_eq_some_iff.mp e
 obtain⟨w,x,h1,h2,h3⟩:=GY e
 exact⟨c,w,x,hc,h1,(zC h2).1,h2,h3⟩
theorem wy {κ:Kn} {ps:List Nat} {c:Int} (h:c∈sT (roK κ ps)):∃j n:Nat,ps[j]?=some n/\c=(n:Int):=by
 have mm:∀{n:Nat} {ps:List Nat},n∈ps->∃j:Nat,ps[j]?=some n:=fun h=>bt.mp h
 unfold roK at h
 split at h
 ·cases h
 ·cases h
 ·simp only[sT,ba]at h;exact⟨0,_,rfl,h⟩
 ·simp only[sT,ba]at h;exact⟨0,_,rfl,h⟩
 ·simp only[sT,ak,bh,or_false]at h
  rcases h with h|h
  ·exact⟨0,_,rfl,h⟩
  ·exact⟨1,_,rfl,h⟩
 ·simp only[sT,ba]at h;exact⟨0,_,rfl,h⟩
 ·simp only[sT,bf,bc,Function.comp]at h
  obtain⟨q,hq,rfl⟩:=h
  obtain⟨j,hj⟩:=mm (aF hq).2
  exact⟨j,_,hj,rfl⟩
 ·simp only[sT,bf,ak,bc,Function.comp]at h
  rcases h with h|⟨q,hq,rfl⟩
  ·exact⟨0,_,rfl,h⟩
  ·obtain⟨j,hj⟩:=mm (aF hq).2
   exact⟨j+ 1,_,hj,rfl⟩
 ·simp only[sT,bc]at h
  obtain⟨n,hn,rfl⟩:=h
  obtain⟨j,hj⟩:=mm hn
  exact⟨j,_,hj,rfl⟩
 ·simp only[sT,bc]at h
  obtain⟨n,hn,rfl⟩:=h
  obtain⟨j,hj⟩:=mm hn
  exact⟨j,_,hj,rfl⟩
 ·cases h
theorem vy:∀{ts:List Tr} {p i a:Nat},(gF ts p)[i]?=some a->p<=a
 |[],_,_,_,h=>by cases h
 |t::ts,p,0,a,h=>by cases h;exact b9 _
 |t::ts,p,i+ 1,a,h=>by have:=vy (show(gF ts (p+t.sz))[i]?=some a from h);lia
theorem oh:∀{ts:List Tr} {p i j a b:Nat},(gF ts p)[i]?=some a->(gF ts p)[j]?=some b->i<=j->a<=b
 |[],_,_,_,_,_,h,_,_=>by cases h
 |t::ts,p,0,j,a,b,h,h2,_=>by cases h;exact vy h2
 |t::ts,p,i+ 1,0,a,b,_,_,l=>by lia
 |t::ts,p,i+ 1,j+ 1,a,b,h,h2,l=>oh (show(gF ts (p+t.sz))[i]?=some a from h) (show(gF ts (p+t.sz))[j]?=some b from h2) (by lia)
open TM.Internal (Kn Tr gF szs)
theorem dfn {s:Str}:s="def"->s≠"let"/\s≠"fn"/\s≠"arm":=fun h=>by subst h;exact⟨fW,fW,fW⟩
theorem ltn {s:Str}:s="let"->s≠"def"/\s≠"fn"/\s≠"arm":=fun h=>by subst h;exact⟨fW,fW,fW⟩
section
variable {G:List Pc} {roots:List Nat} {q:Nat}
theorem mq {k:Nat} {c:Pc} (h:G[k]?=some c):enG G (k:Int)=c.en:=by
 unfold enG;rw[show atZ G (k:Int)=some c from h]
theorem mK {k:Nat} {c:Pc} (h:G[k]?=some c):dfG G (k:Int)=c.df:=by
 unfold dfG;rw[show atZ G (k:Int)=some c from h]
theorem pI {k:Nat} {c:Pc} (h:G[k]?=some c) {x:Int}:viG G (k:Int) x↔Bi c.sc x:=
 ⟨fun⟨c',h',b⟩=>by rw[show atZ G (k:Int)=some c from h]at h';cases h';exact b,fun b=>⟨c,h,b⟩⟩
theorem FtD.at (F:FtD G roots 0 0 q) (hq:q=G.length) {i:Nat} {c:Pc} (h:G[i]?=some c):Ft G roots i c/\c.en<=q/\i<c.en/\(∃r,roots[c.df]?=some r/\r<=i)/\∀r',roots[c.df+ 1]?=some r'->c.en<=r':=by
 obtain⟨c',g,f,a,b,d⟩:=F.a i (cb _) (by rw[hq];exact(ar.mp h).1)
 rw[h]at g
 cases g
 obtain⟨t,_,e,_⟩:=f.t
 have:=pH t
 exact⟨f,a,by lia,b,d⟩
theorem FtD.kid (F:FtD G roots 0 0 q) (hq:q=G.length) {p:Int} {ρ:Ro} {c:Int} (h:atZ (G.map Pc.ρ) p=some ρ) (hc:c∈sT ρ):∃(i n:Nat) (ci cn:Pc) (κ:Kn) (ks:List Tr) (j pp pw:Nat),p=(i:Int)/\c=(n:Int)/\G[i]?=some ci/\G[n]?=some cn/\ρ=roK κ (gF ks (i+ 1))/\(gF ks (i+ 1))[j]?=some n/\cn.sc=exS ci.sc ((exN κ)[j]?.getD none) n pp pw/\i<n/\cn.en<=ci.en/\n<cn.en/\cn.df=ci.df/\(0<j->i+ 1<n)/\okK κ ks.length (Nm ci.sc):=by
 obtain⟨i,rfl,h'⟩:=fV h
 clear h
 have h:=h'
 rw[aK]at h
 obtain⟨ci,hi,rfl⟩:=cF.mp h
 obtain⟨f,_⟩:=F.at hq hi
 obtain⟨⟨κ,ks⟩,pl,en,_,ok⟩:=f.t
 have p1:=pl.1
 rw[hi]at p1
 have eρ:ci.ρ=roK κ (gF ks (i+ 1)):=by rw[cC.inj p1]
 rw[eρ]at hc
 obtain⟨j,n,hj,rfl⟩:=wy hc
 obtain⟨t,pp,pw,_,pt,l1,l2,l3⟩:=zF pl.2 hj
 obtain⟨ρn,gn⟩:=pt.at
 have:=pH t
 have es:(Tr.mk κ ks).sz=1+szs ks:=by rw[Tr.sz]
 exact⟨i,n,ci,_,κ,ks,j,pp,pw,rfl,rfl,hi,gn,eρ,hj,rfl,by lia,by show n+t.sz<=ci.en;lia,by show n<n+t.sz;lia,rfl,fun z=>by have:=l3 z;lia,ok.1⟩
theorem FtD.en (F:FtD G roots 0 0 q) (hq:q=G.length) {k:Nat} {h:Hm} (e:hoG G k=some h):∃c x,G[k]?=some c/\x∈c.sc/\x.h=h/\SE G roots c.sc k c.en c.df x/\k<c.en/\(∃r,roots[c.df]?=some r/\r<=k)/\∀r',roots[c.df+ 1]?=some r'->c.en<=r':=by
 obtain⟨c,w,x,hc,_,hx,_,rfl⟩:=GZ e
 obtain⟨f,_,l,a,b⟩:=F.at hq hc
 exact⟨c,x,hc,hx,rfl,f.s x hx,l,a,b⟩
theorem sY {roots:List Nat} {k:Nat} {c:Pc} {ts:List Tr} (er:roots=gF ts 0) (l:k<c.en) (a:∃r,roots[c.df]?=some r/\r<=k) (b:∀r',roots[c.df+ 1]?=some r'->c.en<=r') {j:Nat} (hj:j<=c.df):inF roots (k:Int) (j:Int)=true↔j=c.df:=by
 unfold inF
 rw[show atZ roots ((j:Int)+ 1)=roots[j+ 1]? from rfl]
 constructor
 ·intro h
  by_cases e:j=c.df
  ·exact e
  ·exfalso
   obtain⟨r,hr,lr⟩:=a
   have ll:=(ar.mp hr).1
   obtain⟨r',hr'⟩:∃r',roots[j+ 1]?=some r':=⟨_,bb (by lia)⟩
   rw[hr']at h
   have:=of_decide_eq_true h
   rw[er]at hr hr'
   have:=oh hr' hr (by lia)
   lia
 ·rintro rfl
  split
  ·rename_i r' hr'
   have:=b r' hr'
   exact gR (by lia)
  ·rfl
theorem G0 {ts:List Tr} (er:roots=gF ts 0) (F:FtD G roots 0 0 q) (hq:q=G.length):Nt (enG G) (dfG G) (G.map Pc.ρ) roots (hoG G) where
 n:=fun k p l=>by
  cases e:atZ G k with
  |none=>left;unfold enG;rw[e];show k+ 1<=p;lia
  |some c=>
   obtain⟨i,rfl,hi⟩:=fV e
   obtain⟨_,le,_⟩:=F.at hq hi
   have:∃j:Nat,p=(j:Int):=⟨p.toNat,by lia⟩
   obtain⟨j,rfl⟩:=this
   rw[mq hi]
   by_cases z:j<G.length
   ·have hj:G[j]?=some G[j]:=bb z
    rw[mq hj]
    rcases F.n i j c _ (cb _) (by lia) (by lia) hi hj with h|h
    ·left;lia
    ·right;lia
   ·left;lia
 kid:=fun p ρ c h hc=>by
  obtain⟨i,n,ci,cn,κ,ks,j,pp,pw,rfl,rfl,gi,gn,_,_,_,l1,l2,l3,l4,_⟩:=F.kid hq h hc
  rw[mq gi,mq gn,mK gi,mK gn,l4]
  exact⟨by lia,by lia,by lia,rfl⟩
 lt:=fun k h e h1=>by
  obtain⟨c,x,gc,hx,rfl,s,l,_⟩:=F.en hq e
  rcases s with⟨_,a,ca,e2,ga,l1,l2,l3,_⟩|⟨z,_⟩|⟨z,_⟩
  ·rw[e2,mq ga,mK ga,mK gc,l3]
   exact⟨by lia,by lia,rfl⟩
  ·exact absurd z (ltn h1).1
  ·rcases z with z|z
   ·exact absurd z (ltn h1).2.1
   ·exact absurd z (ltn h1).2.2
 dn:=fun k h e h1 h2=>by
  obtain⟨c,x,gc,hx,rfl,s,l,a,b⟩:=F.en hq e
  rcases s with⟨z,_⟩|⟨_,j,ej,lj,hj⟩|⟨z,_⟩
  ·exact absurd h1 (ltn z).1
  ·rw[ej]at h2⊢
   have nj:j≠c.df:=fun z=>by rw[(sY er l a b lj).mpr z]at h2;cases h2
   obtain⟨r,cr,r1,r2,r3,r4,r5,r6,r7⟩:=hj (by lia)
   rw[mK gc]
   refine⟨by lia,fun r' hr'=>?_⟩
   rw[show atZ roots (j:Int)=roots[j]? from rfl,r1]at hr'
   cases hr'
   rw[mq r2,mK r2,r3]
   exact⟨by lia,by lia,rfl⟩
  ·rcases z with z|z
   ·exact absurd z (dfn h1).2.1
   ·exact absurd z (dfn h1).2.2
theorem E3 {κ:Kn} {j n i:Nat} {w k:Str} {ks:List Tr} {N:Str->Prop} (ok:okK κ ks.length N) (h:(exN κ)[j]?.getD none=some (w,k)) (hk:k≠"let") (hj:(gF ks (i+ 1))[j]?=some n):(n:Int)∈bnd (roK κ (gF ks (i+ 1))):=by
 have hl:(gF ks (i+ 1)).length=ks.length:=TM.Internal.offs_len ks (i+ 1)
 cases κ with
 |fn u=>
  have l1:ks.length=1:=ok
  match gF ks (i+ 1),hl,hj with
  |[a],_,hj=>
   cases j with
   |zero=>cases hj;simp[roK,bnd]
   |succ j=>simp at hj
  |[],hl,_=>rw[l1]at hl;cases hl
  |_::_::_,hl,_=>rw[l1]at hl;simp at hl
 |lt u=>
  exfalso
  match j,h with
  |0,h=>cases h
  |1,h=>cases h;exact hk rfl
  |j+ 2,h=>cases h
 |case l=>
  have l1:ks.length=l.length+ 1:=ok.1
  cases j with
  |zero=>cases h
  |succ j=>
   match gF ks (i+ 1),hl,hj with
   |[],hl,_=>rw[l1]at hl;cases hl
   |a::ps,hl,hj=>
    have hj:ps[j]?=some n:=hj
    have lj:j<l.length:=by
     have:=(ar.mp hj).1
     rw[az,l1]at hl
     lia
    show(n:Int)∈(((l.zip ps).map fun q=>(q.1.1,q.1.2,(q.2:Int))).map fun x=>x.2.2)
    rw[bf]
    refine bc.mpr ⟨(l[j],n),?_,rfl⟩
    refine bt.mpr ⟨j,?_⟩
    rw[bE]
    exact⟨bb lj,hj⟩
 |_=>cases j<;>cases h
theorem G1 {ts:List Tr} (er:roots=gF ts 0) (F:FtD G roots 0 0 q) (hq:q=G.length):Vs (viG G) (enG G) (dfG G) (G.map Pc.ρ) roots (hoG G) where
 enc:=fun p k ⟨c,hc,e,he,hk,ek⟩=>by
  obtain⟨i,rfl,hc⟩:=fV hc
  obtain⟨f,_,l,_⟩:=F.at hq hc
  rcases f.s e he with⟨z,_⟩|⟨z,_⟩|⟨_,a,ca,e2,ga,l1,l2⟩
  ·rcases hk with hk|hk
   ·exact absurd hk (ltn z).2.1
   ·exact absurd hk (ltn z).2.2
  ·rcases hk with hk|hk
   ·exact absurd hk (dfn z).2.1
   ·exact absurd hk (dfn z).2.2
  ·rw[<-ek,e2,mq ga]
   exact⟨by lia,by lia,by lia⟩
 kid:=fun p ρ c k h hc hv=>by
  obtain⟨i,n,ci,cn,κ,ks,j,pp,pw,rfl,rfl,gi,gn,eρ,hj,es,l1,l2,l3,l4,l5,ok⟩:=F.kid hq h hc
  rw[pI gn]at hv
  rw[pI gi]
  obtain⟨e,he,hk,ek⟩:=hv
  rw[es]at he
  cases hx:(exN κ)[j]?.getD none with
  |none=>rw[hx]at he;exact .inl ⟨e,he,hk,ek⟩
  |some z=>
   obtain⟨w,kk⟩:=z
   rw[hx]at he
   rcases ao.mp he with he|he
   ·exact .inl ⟨e,he,hk,ek⟩
   ·have he:=ba.mp he
    by_cases z:kk="let"
    ·rw[f6 z]at he
     rw[he]at hk
     rcases hk with hk|hk
     ·exact absurd hk (ltn rfl).2.1
     ·exact absurd hk (ltn rfl).2.2
    ·rw[fO z]at he
     rw[he]at ek
     exact .inr ⟨ek.symm,by rw[eρ];exact E3 ok hx z hj⟩
 lt:=fun p h k e h1 hv=>by
  obtain⟨c,x,gc,hx,rfl,s,l,_⟩:=F.en hq e
  rw[pI gc]
  rcases s with⟨_,a,ca,e2,ga,l1,l2,l3,_,l5⟩|⟨z,_⟩|⟨z,_⟩
  ·rw[e2,pI ga]at hv;exact l5.1 k hv
  ·exact absurd z (ltn h1).1
  ·rcases z with z|z
   ·exact absurd z (ltn h1).2.1
   ·exact absurd z (ltn h1).2.2
 root:=fun d r k h hv=>by
  obtain⟨j,rfl,h⟩:=fV h
  obtain⟨_,c,gc,_,nb⟩:=F.r j r (cb _) h
  rw[pI gc]at hv
  exact nb k hv
 held:=fun p h e h1 h2=>by
  obtain⟨c,x,gc,hx,rfl,s,l,_⟩:=F.en hq e
  rw[pI gc]
  rcases s with⟨z,_⟩|⟨z,_⟩|⟨z,_⟩
  ·exact absurd z h1
  ·exact absurd z h2
  ·exact⟨x,hx,z,rfl⟩
 inn:=fun p h e h1=>by
  obtain⟨c,x,gc,hx,rfl,s,l,a,b⟩:=F.en hq e
  rcases s with⟨z,_⟩|⟨_,j,ej,lj,hj⟩|⟨z,_⟩
  ·exact absurd h1 (ltn z).1
  ·rw[ej,mK gc,sY er l a b lj]
   lia
  ·rcases z with z|z
   ·exact absurd z (dfn h1).2.1
   ·exact absurd z (dfn h1).2.2
 dr:=fun d r h=>by
  obtain⟨j,rfl,h⟩:=fV h
  obtain⟨_,c,gc,e,_⟩:=F.r j r (cb _) h
  rw[mK gc,e]
 sub:=fun p a l h=>by
  obtain⟨i,n,ci,cn,κ,ks,j,pp,pw,rfl,rfl,gi,gn,eρ,hj,_⟩:=F.kid hq h (show a∈sT (.case a l) by simp[sT])
  intro hb
  have key:∀(b:Int),b∈bnd (roK κ (gF ks (i+ 1)))->∀a l,roK κ (gF ks (i+ 1))= .case a l->a<b:=by
   intro b hb a l e
   cases κ with
   |case l'=>
    cases ks with
    |nil=>cases e
    |cons t ts=>
     have e:Ro.case ((i+ 1:Nat):Int) ((l'.zip (gF ts (i+ 1+t.sz))).map fun q=>(q.1.1,q.1.2,(q.2:Int)))= .case a l:=e
     have hb:b∈(((l'.zip (gF ts (i+ 1+t.sz))).map fun q=>(q.1.1,q.1.2,(q.2:Int))).map fun x=>x.2.2):=hb
     rw[bf]at hb
     obtain⟨z,hz,rfl⟩:=bc.mp hb
     obtain⟨m,hm⟩:=bt.mp (aF hz).2
     have:=vy hm
     have:=pH t
     cases e
     show((i+ 1:Nat):Int)<(z.2:Int)
     lia
   |num=>cases e
   |name=>cases e
   |row=>cases e
   |op=>cases e
   |rcd=>cases e
   |fn=>cases ks<;>cases e
   |tag=>cases ks<;>cases e
   |get=>cases ks<;>cases e
   |lt=>
    cases ks with
    |nil=>cases e
    |cons t ts=>cases ts<;>cases e
  rw[eρ]at hb
  exact absurd (key _ hb _ _ eρ.symm) (by lia)
end
structure Vl (vl:Int->Int->Prop) (vi:Int->Int->Prop) (en df:Int->Int) (ρs:List Ro) (roots:List Nat) (ho:Nat->Option Hm):Prop where
 kid:∀p ρ c a,atZ ρs p=some ρ->c∈sT ρ->vl c a->vl p a\/∃w,ρ= .lt w a c
 lt:∀(p:Nat) h a,ho p=some h->h.1="let"->vl h.2 a->vl p a
 root:∀d r a,atZ roots d=some r->¬vl r a
 nm:∀(p:Nat) h,ho p=some h->h.1="let"->vl p h.2
 enc:∀p a,vl p a->∃w b,atZ ρs (a-1)=some (.lt w a b)/\a-1<p/\p<en (a-1)/\en a=b
 vi:∀p a k,vl p a->vi a k->vi p k
 df:∀p a,vl p a->df a=df p
 self:∀p w a b,atZ ρs p=some (.lt w a b)->a=p+ 1/\en a=b
def vlG (G:List Pc) (p k:Int):Prop:=∃c,atZ G p=some c/\BL c.sc k
theorem pJ {G:List Pc} {k:Nat} {c:Pc} (h:G[k]?=some c) {x:Int}:vlG G (k:Int) x↔BL c.sc x:=
 ⟨fun⟨c',h',b⟩=>by rw[show atZ G (k:Int)=some c from h]at h';cases h';exact b,fun b=>⟨c,h,b⟩⟩
theorem G2 {sc:Sc} {x:Ex} {p pp pw:Nat} {k:Int} (nl:∀w,x≠some (w,("let":Str))) (h:BL (exS sc x p pp pw) k):BL sc k:=by
 cases x with
 |none=>exact h
 |some z=>
  obtain⟨u,kk⟩:=z
  have nk:kk≠"let":=fun e=>nl u (by rw[e])
  obtain⟨e,he,h1,h2⟩:=h
  rcases ao.mp he with he|he
  ·exact⟨e,he,h1,h2⟩
  ·rw[fO nk]at he
   rw[ba.mp he]at h1
   exact absurd h1 nk
section
variable {G:List Pc} {roots:List Nat} {q:Nat}
theorem FtD.le (F:FtD G roots 0 0 q) (hq:q=G.length) {i:Nat} {c:Pc} (h:G[i]?=some c) {k:Int} (b:BL c.sc k):∃(a:Nat) (ca:Pc),k=(a:Int)/\G[a]?=some ca/\ca.en<=i/\a<ca.en/\ca.df=c.df/\LE G c.sc c.en a ca:=by
 obtain⟨e,he,h1,h2⟩:=b
 obtain⟨f,_⟩:=F.at hq h
 rcases f.s e he with⟨_,a,ca,e2,ga,l1,l2,l3,_,l5⟩|⟨z,_⟩|⟨z,_⟩
 ·exact⟨a,ca,by rw[<-h2,e2],ga,l1,l2,l3,l5⟩
 ·exact absurd z (ltn h1).1
 ·rcases z with z|z
  ·exact absurd z (ltn h1).2.1
  ·exact absurd z (ltn h1).2.2
theorem G3 {ts:List Tr} (er:roots=gF ts 0) (F:FtD G roots 0 0 q) (hq:q=G.length):Vl (vlG G) (viG G) (enG G) (dfG G) (G.map Pc.ρ) roots (hoG G) where
 kid:=fun p ρ c a h hc hv=>by
  obtain⟨i,rfl,h'⟩:=fV h
  rw[aK]at h'
  obtain⟨ci,hi,rfl⟩:=cF.mp h'
  obtain⟨f,_⟩:=F.at hq hi
  obtain⟨⟨κ,ks⟩,pl,en,_,ok⟩:=f.t
  have p1:=pl.1
  rw[hi]at p1
  have eρ:ci.ρ=roK κ (gF ks (i+ 1)):=by rw[cC.inj p1]
  rw[eρ]at hc⊢
  rw[pJ hi]
  by_cases hk:∃w,κ= .lt w
  ·obtain⟨w,rfl⟩:=hk
   have l2:ks.length=2:=ok.1
   match ks,l2,pl,hc with
   |[x,y],_,pl,hc=>
    obtain⟨ha,hb,_⟩:=pl.2
    obtain⟨ρa,ga⟩:=ha.at
    obtain⟨ρb,gb⟩:=hb.at
    have hc:c∈[((i+ 1:Nat):Int),((i+ 1+x.sz:Nat):Int)]:=hc
    simp only[ak,bh,or_false]at hc
    rcases hc with rfl|rfl
    ·rw[pJ ga]at hv
     exact .inl hv
    ·rw[pJ gb]at hv
     obtain⟨e,he,h1,h2⟩:=hv
     rcases ao.mp he with he|he
     ·exact .inl ⟨e,he,h1,h2⟩
     ·rw[f6 rfl]at he
      rw[ba.mp he]at h2
      refine .inr ⟨w,?_⟩
      rw[<-h2]
      rfl
  ·obtain⟨j,n,hj,rfl⟩:=wy hc
   obtain⟨t,pp,pw,_,pt,_⟩:=zF pl.2 hj
   obtain⟨ρn,gn⟩:=pt.at
   rw[pJ gn]at hv
   refine .inl (G2 (fun w z=>?_) hv)
   cases κ with
   |fn u=>
    match j,z with
    |0,z=>cases z
    |j+ 1,z=>cases z
   |lt u=>exact hk ⟨u,rfl⟩
   |case l=>
    cases j with
    |zero=>cases z
    |succ j=>
     have z:(l.map fun a=>some (a.2,("arm":Str)))[j]?.getD none=some (w,("let":Str)):=z
     rw[aK]at z
     cases e:l[j]? with
     |none=>rw[e]at z;cases z
     |some u=>
      rw[e]at z
      injection z with z
      injection z with _ z
      exact absurd z fW
   |_=>cases j<;>cases z
 lt:=fun p h a e h1 hv=>by
  obtain⟨c,x,gc,hx,rfl,s,l,_⟩:=F.en hq e
  obtain⟨a',ca,e1,ga,_,_,_,le⟩:=F.le hq gc ⟨x,hx,h1,rfl⟩
  rw[e1,pJ ga]at hv
  rw[pJ gc]
  exact le.2.1 a hv
 root:=fun d r a h hv=>by
  obtain⟨j,rfl,h⟩:=fV h
  obtain⟨_,c,gc,e,_⟩:=F.r j r (cb _) h
  rw[pJ gc]at hv
  obtain⟨a',ca,e1,ga,l1,l2,l3,_,_,L,b,w,cL,f1,f2,f3,f4,f5⟩:=F.le hq gc hv
  obtain⟨_,_,lc,_⟩:=F.at hq gc
  obtain⟨_,_,_,⟨r',hr',lr'⟩,nx⟩:=F.at hq f2
  have lj:=(ar.mp h).1
  by_cases z:cL.df<j
  ·obtain⟨r'',hr''⟩:∃r'',roots[cL.df+ 1]?=some r'':=⟨_,bb (by lia)⟩
   have:=nx _ hr''
   rw[er]at hr'' h
   have:=oh hr'' h (by lia)
   lia
  ·rw[er]at hr' h
   have:=oh h hr' (by lia)
   lia
 nm:=fun p h e h1=>by
  obtain⟨c,x,gc,hx,rfl,_⟩:=F.en hq e
  rw[pJ gc]
  exact⟨x,hx,h1,rfl⟩
 enc:=fun p a ⟨c,hc,b⟩=>by
  obtain⟨i,rfl,hc⟩:=fV hc
  obtain⟨a',ca,rfl,ga,l1,l2,l3,_,_,L,b',w,cL,f1,f2,f3,f4,f5⟩:=F.le hq hc b
  obtain⟨_,_,lc,_⟩:=F.at hq hc
  subst f1
  rw[show((L+ 1:Nat):Int)-1=(L:Int) by lia,mq f2,mq ga]
  refine⟨w,b',?_,by lia,by lia,by lia⟩
  show(G.map Pc.ρ)[L]?=_
  rw[aK,f2]
  show some cL.ρ=_
  rw[f3]
 vi:=fun p a k ⟨c,hc,b⟩ hv=>by
  obtain⟨i,rfl,hc⟩:=fV hc
  obtain⟨a',ca,rfl,ga,_,_,_,le⟩:=F.le hq hc b
  rw[pI ga]at hv
  rw[pI hc]
  exact le.1 k hv
 df:=fun p a ⟨c,hc,b⟩=>by
  obtain⟨i,rfl,hc⟩:=fV hc
  obtain⟨a',ca,rfl,ga,_,_,l3,_⟩:=F.le hq hc b
  rw[mK ga,mK hc,l3]
 self:=fun p w a b h=>by
  obtain⟨i,rfl,h'⟩:=fV h
  rw[aK]at h'
  obtain⟨ci,hi,e0⟩:=cF.mp h'
  obtain⟨f,_⟩:=F.at hq hi
  obtain⟨⟨κ,ks⟩,pl,en,_,ok⟩:=f.t
  have p1:=pl.1
  rw[hi]at p1
  have eρ:ci.ρ=roK κ (gF ks (i+ 1)):=by rw[cC.inj p1]
  rw[eρ]at e0
  by_cases hk:∃w,κ= .lt w
  ·obtain⟨w',rfl⟩:=hk
   have l2:ks.length=2:=ok.1
   match ks,l2,pl,e0 with
   |[x,y],_,pl,e0=>
    obtain⟨ha,hb,_⟩:=pl.2
    obtain⟨ρa,ga⟩:=ha.at
    have e0:Ro.lt w' ((i+ 1:Nat):Int) ((i+ 1+x.sz:Nat):Int)= .lt w a b:=e0
    injection e0 with _ e1 e2
    rw[<-e1,<-e2,mq ga]
    exact⟨by lia,rfl⟩
  ·exfalso
   cases κ with
   |lt u=>exact hk ⟨u,rfl⟩
   |num=>cases e0
   |name=>cases e0
   |row=>cases e0
   |op=>cases e0
   |rcd=>cases e0
   |fn=>cases ks<;>cases e0
   |tag=>cases ks<;>cases e0
   |get=>cases ks<;>cases e0
   |case=>cases ks<;>cases e0
end
open TM.Internal (Kn Tr gF szs)
def nS (s:Ls):Nat:=s.D.pts.length+s.D.mks.length+s.D.uss.length+s.D.fls.length
theorem pe (s:Ls) (p:Int):nS (s.pt p)=nS s+ 1:=by simp only[nS,Ls.pt,aO,aV];lia
theorem pT (s:Ls) (m:Mkg):nS (s.mk' m)=nS s+ 1:=by simp only[nS,Ls.mk',aO,aV];lia
theorem oi (s:Ls) (u:Us):nS (s.us u)=nS s+ 1:=by simp only[nS,Ls.us,aO,aV];lia
theorem vz (s:Ls) (p q:Int):nS (s.fl p q)=nS s+ 1:=by simp only[nS,Ls.fl,aO,aV];lia
theorem E4 (s:Ls) (p q:Int):nS (s.hold p q)=nS s:=rfl
theorem E5 (s:Ls) (p q:Int):nS (s.begin p q)=nS s:=rfl
def Gr (s s':Ls):Prop:=(∀b,(∃v,s.held b=some v)->∃v,s'.held b=some v)/\∀b,(∃v,s.st b=some v)->∃v,s'.st b=some v
theorem Gr.refl (s:Ls):Gr s s:=⟨fun _ h=>h,fun _ h=>h⟩
theorem Gr.trans {a b c:Ls} (h:Gr a b) (k:Gr b c):Gr a c:=⟨fun x z=>k.1 x (h.1 x z),fun x z=>k.2 x (h.2 x z)⟩
theorem wz {g:Int->Option Int} {b:Int} (k x:Int) (h:∃v,g b=some v):∃v,put g k x b=some v:=by
 unfold put
 by_cases e:b=k
 ·exact⟨x,f6 e⟩
 ·rw[fO e];exact h
theorem Gr.ho (s:Ls) (k v:Int):Gr s (s.hold k v):=⟨fun _ h=>wz k v h,fun _ h=>h⟩
theorem Gr.be (s:Ls) (k v:Int):Gr s (s.begin k v):=⟨fun _ h=>h,fun _ h=>wz k v h⟩
theorem Gr.eq {s s':Ls} (h:s'.held=s.held) (k:s'.st=s.st):Gr s s':=⟨fun _ z=>by rw[h];exact z,fun _ z=>by rw[k];exact z⟩
def HS (sc:Sc) (d:Nat) (s:Ls):Prop:=(∀b,Bi sc b->∃v,s.held b=some v)/\∃v,s.st (d:Int)=some v
theorem HS.gr {sc:Sc} {d:Nat} {s s':Ls} (h:HS sc d s) (g:Gr s s'):HS sc d s':=⟨fun b z=>g.1 b (h.1 b z),g.2 _ h.2⟩
theorem HS.eq {sc:Sc} {d:Nat} {s s':Ls} (h:HS sc d s) (a:s'.held=s.held) (k:s'.st=s.st):HS sc d s':=h.gr (Gr.eq a k)
theorem HS.bind {sc:Sc} {d:Nat} {s:Ls} (h:HS sc d s) (w k:Str) (n pp pw:Nat) (v:Int):HS (exS sc (some (w,k)) n pp pw) d (s.hold n v):=⟨fun b ⟨e,he,z,eb⟩=>by
 rcases ao.mp he with he|he
 ·exact(Gr.ho s n v).1 b (h.1 b ⟨e,he,z,eb⟩)
 ·have he:=ba.mp he
  by_cases l:k="let"
  ·rw[f6 l]at he
   rw[he]at z
   rcases z with z|z
   ·exact absurd z (ltn rfl).2.1
   ·exact absurd z (ltn rfl).2.2
  ·rw[fO l]at he
   rw[he]at eb
   exact⟨v,f6 eb.symm⟩,h.2⟩
theorem HS.lt {sc:Sc} {d:Nat} {s:Ls} (h:HS sc d s) (w:Str) (n pp pw:Nat):HS (exS sc (some (w,"let")) n pp pw) d s:=⟨fun b ⟨e,he,z,eb⟩=>by
 rcases ao.mp he with he|he
 ·exact h.1 b ⟨e,he,z,eb⟩
 ·have he:=ba.mp he
  rw[f6 rfl]at he
  rw[he]at z
  rcases z with z|z
  ·exact absurd z (ltn rfl).2.1
  ·exact absurd z (ltn rfl).2.2,h.2⟩
section
variable {G:List Pc} {f d:Nat} {L:Lf}
def Kd1 (G:List Pc) (f d:Nat) (L:Lf):Prop:=∀t n sc s,Pl G t n sc d->wT t (val sc)<=f->HS sc d s->∃q s',L (n:Int) s=some (q,s')/\nS s'+ 2<=nS s+ 10*wT t (val sc)/\Gr s s'
variable (K:Kd1 G f d L)
include K
theorem BR {sc:Sc}:∀{ts:List Tr} {l:List Str} {p pp pw:Nat} {acc:List (Str×Int)} {s:Ls},Pls G ts p pp pw [] sc d->wTs ts [] (val sc) pw<=f->HS sc d s->∃fs s',wj L ((l.zip (gF ts p)).map fun q=>(q.1,(q.2:Int))) acc s=some (fs,s')/\nS s'<=nS s+ 10*wTs ts [] (val sc) pw/\Gr s s'
 |[],l,p,pp,pw,acc,s,_,_,_=>⟨acc,s,by cases l<;>rfl,by lia,Gr.refl _⟩
 |t::ts,[],p,pp,pw,acc,s,_,_,_=>⟨acc,s,rfl,by lia,Gr.refl _⟩
 |t::ts,w::l,p,pp,pw,acc,s,h,hw,hs=>by
  have ew:wTs (t::ts) [] (val sc) pw=wT t (val sc)+wTs ts [] (val sc) (wT t (val sc)):=by rw[wTs];rfl
  rw[ew]at hw⊢
  obtain⟨q,s1,h1,n1,g1⟩:=K t p sc s h.1 (by lia) hs
  obtain⟨fs,s2,h2,n2,g2⟩:=BR (l:=l) (acc:=acc++[(w,q)]) h.2 (show wTs ts [] (val sc) (wT t (val sc))<=f by lia) (hs.gr g1)
  refine⟨fs,s2,?_,by have:nS s2<=nS s1+ 10*wTs ts [] (val sc) (wT t (val sc)):=n2;lia,g1.trans g2⟩
  show(match L (p:Int) s with|some (q,s)=>wj L ((l.zip (gF ts (p+t.sz))).map fun q:Str×Nat=>(q.1,(q.2:Int))) (acc++[(w,q)]) s|none=>none)=_
  rw[h1]
  exact h2
theorem BS {sc:Sc} {th:Int}:∀{ts:List Tr} {p pp pw:Nat} {s:Ls},Pls G ts p pp pw [] sc d->wTs ts [] (val sc) pw<=f->HS sc d s->∃s',xV L th ((gF ts p).map fun p:Nat=>(p:Int)) s=some s'/\nS s'<=nS s+ 10*wTs ts [] (val sc) pw/\Gr s s'
 |[],p,pp,pw,s,_,_,_=>⟨s,rfl,by lia,Gr.refl _⟩
 |t::ts,p,pp,pw,s,h,hw,hs=>by
  have ew:wTs (t::ts) [] (val sc) pw=wT t (val sc)+wTs ts [] (val sc) (wT t (val sc)):=by rw[wTs];rfl
  rw[ew]at hw⊢
  obtain⟨q,s1,h1,n1,g1⟩:=K t p sc s h.1 (by lia) hs
  obtain⟨s2,h2,n2,g2⟩:=BS (th:=th) (s:=s1.fl q th) h.2 (show wTs ts [] (val sc) (wT t (val sc))<=f by lia) ((hs.gr g1).eq rfl rfl)
  have n2:nS s2<=nS (s1.fl q th)+ 10*wTs ts [] (val sc) (wT t (val sc)):=n2
  rw[vz]at n2
  refine⟨s2,?_,by lia,(g1.trans (Gr.eq rfl rfl)).trans g2⟩
  show(match L (p:Int) s with|some (q,s)=>xV L th ((gF ts (p+t.sz)).map fun p:Nat=>(p:Int)) (s.fl q th)|none=>none)=_
  rw[h1]
  exact h2
theorem BU {sc:Sc} {p0 own:Int}:∀{ts:List Tr} {l:List (Str×Str)} {p pp pw:Nat} {acc:List (Str×Int)} {s:Ls},ts.length=l.length->Pls G ts p pp pw (l.map fun a=>some (a.2,"arm")) sc d->wTs ts (l.map fun a=>some (a.2,"arm")) (val sc) pw<=f->HS sc d s->∃fs s',xF L p0 own ((l.zip (gF ts p)).map fun q=>(q.1.1,q.1.2,(q.2:Int))) acc s=some (fs,s')/\nS s'<=nS s+ 10*wTs ts (l.map fun a=>some (a.2,"arm")) (val sc) pw/\Gr s s'
 |[],l,p,pp,pw,acc,s,_,_,_,_=>⟨acc,s,by cases l<;>rfl,by lia,Gr.refl _⟩
 |t::ts,[],p,pp,pw,acc,s,e,_,_,_=>by cases e
 |t::ts,w::l,p,pp,pw,acc,s,e,h,hw,hs=>by
  have ew:wTs (t::ts) ((w::l).map fun a=>some (a.2,"arm")) (val sc) pw=wT t (upE (val sc) (some (w.2,"arm")) pw)+wTs ts (l.map fun a=>some (a.2,"arm")) (val sc) (wT t (upE (val sc) (some (w.2,"arm")) pw)):=by rw[wTs];rfl
  rw[ew]at hw⊢
  have hh:Pl G t p (exS sc (some (w.2,"arm")) p pp pw) d:=h.1
  have K1:=K t p _ ((s.pt p0).hold p s.n) hh
  rw[zD]at K1
  obtain⟨q,s1,h1,n1,g1⟩:=K1 (by lia) ((hs.eq (s':=s.pt p0) rfl rfl).bind w.2 "arm" p pp pw s.n)
  rw[E4,pe]at n1
  have g1:=(Gr.eq (s':=s.pt p0) (s:=s) rfl rfl).trans ((Gr.ho (s.pt p0) p s.n).trans g1)
  obtain⟨fs,s2,h2,n2,g2⟩:=BU (l:=l) (acc:=acc++[(w.1,s.n)]) (p0:=p0) (own:=own) (s:=s1.fl q own) (by simpa using e) h.2 (show wTs ts (l.map fun a=>some (a.2,"arm")) (val sc) (wT t (upE (val sc) (some (w.2,"arm")) pw))<=f by lia) ((hs.gr g1).eq rfl rfl)
  have n2:nS s2<=nS (s1.fl q own)+ 10*wTs ts (l.map fun a=>some (a.2,"arm")) (val sc) (wT t (upE (val sc) (some (w.2,"arm")) pw)):=n2
  rw[vz]at n2
  refine⟨fs,s2,?_,by lia,(g1.trans (Gr.eq rfl rfl)).trans g2⟩
  show(match L (p:Int) ((s.pt p0).hold p s.n)with|some (q,s')=>xF L p0 own ((l.zip (gF ts (p+t.sz))).map fun q:(Str×Str)×Nat=>(q.1.1,q.1.2,(q.2:Int))) (acc++[(w.1,s.n)]) (s'.fl q own)|none=>none)=_
  rw[h1]
  exact h2
end
open TM.Internal (Kn Tr gF szs)
section
variable {G:List Pc} {f d:Nat} {L:Lf}
theorem uF (κ:Kn) (ks:List Tr) (e:Str->Nat):wT (.mk κ ks) e=1+nmW κ e+wTs ks (exN κ) e 0:=by rw[wT]
theorem k9 (xs:List Ex) (e:Str->Nat) (pw:Nat):wTs [] xs e pw=0:=by rw[wTs]
theorem jh (t:Tr) (ts:List Tr) (xs:List Ex) (e:Str->Nat) (pw:Nat):wTs (t::ts) xs e pw=wT t (upE e (hdX xs) pw)+wTs ts xs.tail e (wT t (upE e (hdX xs) pw)):=by rw[wTs]
variable (K:Kd1 G f d L)
include K
theorem wA {sc:Sc} {a:Tr} {p pp pw:Nat} {s:Ls} (h:Pls G [a] p pp pw [] sc d) (hw:wTs [a] [] (val sc) pw<=f) (hs:HS sc d s):∃q s',L (p:Int) s=some (q,s')/\nS s'+ 2<=nS s+ 10*wTs [a] [] (val sc) pw/\Gr s s':=by
 rw[jh,k9]at hw⊢
 exact K a p sc s h.1 hw hs
theorem se {sc:Sc} {a b:Tr} {p pp pw:Nat} {s:Ls} (h:Pls G [a,b] p pp pw [] sc d) (hw:wTs [a,b] [] (val sc) pw<=f) (hs:HS sc d s):∃q s1 r s',L (p:Int) s=some (q,s1)/\L ((p+a.sz:Nat):Int) s1=some (r,s')/\nS s'+ 4<=nS s+ 10*wTs [a,b] [] (val sc) pw/\Gr s s':=by
 rw[jh]at hw⊢
 obtain⟨q,s1,h1,n1,g1⟩:=K a p sc s h.1 (by have:wT a (upE (val sc) none pw)=wT a (val sc):=rfl;change wT a (val sc)+_<=f at hw;lia) hs
 obtain⟨r,s2,h2,n2,g2⟩:=wA K (s:=s1) h.2 (by change wT a (val sc)+wTs [b] [] (val sc) (wT a (val sc))<=f at hw;change wTs [b] [] (val sc) (wT a (val sc))<=f;lia) (hs.gr g1)
 refine⟨q,s1,r,s2,h1,h2,?_,g1.trans g2⟩
 change _<=nS s+ 10*(wT a (val sc)+wTs [b] [] (val sc) (wT a (val sc)))
 change nS s2+ 2<=nS s1+ 10*wTs [b] [] (val sc) (wT a (val sc))at n2
 lia
theorem A2 {sc:Sc} {a b c:Tr} {p pp pw:Nat} {s:Ls} (h:Pls G [a,b,c] p pp pw [] sc d) (hw:wTs [a,b,c] [] (val sc) pw<=f) (hs:HS sc d s):∃q s1 r s2 u s',L (p:Int) s=some (q,s1)/\L ((p+a.sz:Nat):Int) s1=some (r,s2)/\L ((p+a.sz+b.sz:Nat):Int) s2=some (u,s')/\nS s'+ 6<=nS s+ 10*wTs [a,b,c] [] (val sc) pw/\Gr s s':=by
 rw[jh]at hw⊢
 obtain⟨q,s1,h1,n1,g1⟩:=K a p sc s h.1 (by change wT a (val sc)+_<=f at hw;lia) hs
 obtain⟨r,s2,u,s3,h2,h3,n2,g2⟩:=se K (s:=s1) h.2 (by change wT a (val sc)+wTs [b,c] [] (val sc) (wT a (val sc))<=f at hw;change wTs [b,c] [] (val sc) (wT a (val sc))<=f;lia) (hs.gr g1)
 refine⟨q,s1,r,s2,u,s3,h1,h2,h3,?_,g1.trans g2⟩
 change _<=nS s+ 10*(wT a (val sc)+wTs [b,c] [] (val sc) (wT a (val sc)))
 change nS s3+ 4<=nS s1+ 10*wTs [b,c] [] (val sc) (wT a (val sc))at n2
 lia
theorem Ds {roots:List Nat} {h0:Option Hm} {κ:Kn} {ks:List Tr} {i:Nat} {sc:Sc} {own:Int} {s:Ls} {N:Str->Prop} (h:Pls G ks (i+ 1) 0 0 (exN κ) sc d) (ok:okK κ ks.length N) (hw:wTs ks (exN κ) (val sc) 0<=f) (hs:HS sc d s) (nn:∀w,κ≠ .name w):∃s',iF L roots h0 (i:Int) own s (roK κ (gF ks (i+ 1)))=some s'/\nS s'<=nS s+ 7+ 10*wTs ks (exN κ) (val sc) 0/\Gr s s':=by
 cases κ with
 |num n=>exact⟨_,rfl,by rw[pT];lia,Gr.eq rfl rfl⟩
 |name w=>exact absurd rfl (nn w)
 |fn w=>
  match ks,(show ks.length=1 from ok),h,hw with
  |[a],_,h,hw=>
   have ew:wTs [a] (exN (.fn w)) (val sc) 0=wT a (upE (val sc) (some (w,"fn")) 0):=by rw[jh,k9];rfl
   rw[ew]at hw⊢
   have K1:=K a (i+ 1) _ ((s.pt i).hold ((i+ 1:Nat):Int) s.n) (show Pl G a (i+ 1) (exS sc (some (w,"fn")) (i+ 1) 0 0) d from h.1)
   rw[zD]at K1
   obtain⟨q,s1,h1,n1,g1⟩:=K1 hw ((hs.eq (s':=s.pt i) rfl rfl).bind w "fn" (i+ 1) 0 0 s.n)
   rw[E4,pe]at n1
   refine⟨s1.mk' ⟨"fn",.tup [kD s.n,kD q],own,i⟩,?_,by rw[pT];lia,((Gr.eq (s':=s.pt i) (s:=s) rfl rfl).trans ((Gr.ho (s.pt i) ((i+ 1:Nat):Int) s.n).trans g1)).trans (Gr.eq rfl rfl)⟩
   show iF L roots h0 (i:Int) own s (.fn w ((i+ 1:Nat):Int))=_
   simp only[iF,h1]
 |tag w=>
  match ks,(show ks.length=1 from ok),h,hw with
  |[a],_,h,hw=>
   obtain⟨q,s1,h1,n1,g1⟩:=wA K h hw hs
   have n1:nS s1+ 2<=nS s+ 10*wTs [a] (exN (.tag w)) (val sc) 0:=n1
   refine⟨s1.mk' ⟨"tag",.tup [sD w,kD q],own,i⟩,?_,by rw[pT];lia,g1.trans (Gr.eq rfl rfl)⟩
   show iF L roots h0 (i:Int) own s (.tag w ((i+ 1:Nat):Int))=_
   simp only[iF,h1]
 |get w=>
  match ks,(show ks.length=1 from ok),h,hw with
  |[a],_,h,hw=>
   obtain⟨q,s1,h1,n1,g1⟩:=wA K h hw hs
   have n1:nS s1+ 2<=nS s+ 10*wTs [a] (exN (.get w)) (val sc) 0:=n1
   refine⟨s1.us (.take q i 0 [(w,own)]),?_,by rw[oi];lia,g1.trans (Gr.eq rfl rfl)⟩
   show iF L roots h0 (i:Int) own s (.get ((i+ 1:Nat):Int) w)=_
   simp only[iF,h1]
 |lt w=>
  match ks,(show ks.length=2 from ok),h,hw with
  |[a,b],_,h,hw=>
   have ew:wTs [a,b] (exN (.lt w)) (val sc) 0=wT a (val sc)+wT b (upE (val sc) (some (w,"let")) (wT a (val sc))):=by rw[jh,jh,k9];rfl
   rw[ew]at hw⊢
   obtain⟨x,s1,h1,n1,g1⟩:=K a (i+ 1) sc s h.1 (by lia) hs
   have K1:=K b (i+ 1+a.sz) _ s1 (show Pl G b (i+ 1+a.sz) (exS sc (some (w,"let")) (i+ 1+a.sz) (i+ 1) (wT a (val sc))) d from h.2.1)
   rw[zD]at K1
   obtain⟨q,s2,h2,n2,g2⟩:=K1 (by lia) ((hs.gr g1).lt w _ _ _)
   refine⟨s2.fl q own,?_,by rw[vz];lia,(g1.trans g2).trans (Gr.eq rfl rfl)⟩
   show iF L roots h0 (i:Int) own s (.lt w ((i+ 1:Nat):Int) ((i+ 1+a.sz:Nat):Int))=_
   simp only[iF,h1,h2]
 |rcd l=>
  obtain⟨fs,s1,h1,n1,g1⟩:=BR K (l:=l) (acc:=[]) h hw hs
  have n1:nS s1<=nS s+ 10*wTs ks (exN (.rcd l)) (val sc) 0:=n1
  refine⟨s1.mk' ⟨"rec",prD fs,own,i⟩,?_,by rw[pT];lia,g1.trans (Gr.eq rfl rfl)⟩
  show iF L roots h0 (i:Int) own s (.rcd _)=_
  simp only[iF,h1]
 |row m=>
  obtain⟨s1,h1,n1,g1⟩:=BS K (th:=s.n) (s:=s.pt i) h hw (hs.eq rfl rfl)
  have n1:nS s1<=nS (s.pt i)+ 10*wTs ks (exN (.row m)) (val sc) 0:=n1
  rw[pe]at n1
  refine⟨s1.mk' (mkR s.n own i),?_,by rw[pT];lia,(Gr.eq (s':=s.pt i) (s:=s) rfl rfl).trans (g1.trans (Gr.eq rfl rfl))⟩
  show iF L roots h0 (i:Int) own s (.row _)=_
  simp only[iF,h1]
 |case l=>
  match ks,ok,h,hw with
  |[],ok,_,_=>exact absurd ok.1 (by simp)
  |a::bs,ok,h,hw=>
   have lb:bs.length=l.length:=by have:=ok.1;simpa using this
   have ew:wTs (a::bs) (exN (.case l)) (val sc) 0=wT a (val sc)+wTs bs (l.map fun a=>some (a.2,"arm")) (val sc) (wT a (val sc)):=by rw[jh];rfl
   rw[ew]at hw⊢
   obtain⟨x,s1,h1,n1,g1⟩:=K a (i+ 1) sc s h.1 (by lia) hs
   obtain⟨fs,s2,h2,n2,g2⟩:=BU K (l:=l) (acc:=[]) (p0:=(i:Int)) (own:=own) (s:=s1) (pw:=wT a (val sc)) lb h.2 (by lia) (hs.gr g1)
   refine⟨s2.us (.case x i 0 fs),?_,by rw[oi];lia,(g1.trans g2).trans (Gr.eq rfl rfl)⟩
   show iF L roots h0 (i:Int) own s (.case ((i+ 1:Nat):Int) _)=_
   simp only[iF,h1,h2]
 |op o m=>
  obtain⟨lk,ho⟩:ks.length=m/\(o,m)∈TM.Internal.ops:=ok
  have ex:exN (.op o m)=[]:=rfl
  rw[ex]at h hw⊢
  have gp:Gr s (s.pt i):=Gr.eq rfl rfl
  have hsp:HS sc d (s.pt i):=hs.eq rfl rfl
  simp only[TM.Internal.ops,ak,Prod.mk.injEq,bh,or_false]at ho
  rcases ho with⟨rfl,rfl⟩|⟨rfl,rfl⟩|⟨rfl,rfl⟩|⟨rfl,rfl⟩|⟨rfl,rfl⟩|⟨rfl,rfl⟩|⟨rfl,rfl⟩
  ·match ks,lk,h,hw with
   |[a,b],_,h,hw=>
    obtain⟨x,s1,y,s2,h1,h2,n2,g2⟩:=se K h hw hs
    exact⟨s2.us (.call x i 0 y own),(by show iF L roots h0 (i:Int) own s (.op "call" [((i+ 1:Nat):Int),((i+ 1+a.sz:Nat):Int)])=_;unfold iF;dsimp only;rw[f6 rfl];simp only[h1,h2]),by rw[oi];lia,g2.trans (Gr.eq rfl rfl)⟩
  ·match ks,lk,h,hw with
   |[a,b,c],_,h,hw=>
    obtain⟨x,s1,y,s2,z,s3,h1,h2,h3,n2,g2⟩:=A2 K h hw hs
    exact⟨((s3.us (.row x i 0 own)).us (.num y i 1)).fl z own,(by show iF L roots h0 (i:Int) own s (.op "at" [((i+ 1:Nat):Int),((i+ 1+a.sz:Nat):Int),((i+ 1+a.sz+b.sz:Nat):Int)])=_;unfold iF;dsimp only;rw[f6 rfl];simp only[h1,h2,h3]),by rw[vz,oi,oi];lia,g2.trans (Gr.eq rfl rfl)⟩
  ·match ks,lk,h,hw with
   |[a,b],_,h,hw=>
    obtain⟨x,s1,y,s2,h1,h2,n2,g2⟩:=se K h hw hsp
    rw[pe]at n2
    exact⟨((s2.us (.row x i 0 s.n)).us (.row y i 1 s.n)).mk' (mkR s.n own i),(by show iF L roots h0 (i:Int) own s (.op "join" [((i+ 1:Nat):Int),((i+ 1+a.sz:Nat):Int)])=_;unfold iF;dsimp only;rw[fO fW,f6 rfl];simp only[h1,h2]),by rw[pT,oi,oi];lia,gp.trans (g2.trans (Gr.eq rfl rfl))⟩
  ·match ks,lk,h,hw with
   |[a],_,h,hw=>
    obtain⟨x,s1,h1,n2,g2⟩:=wA K h hw hsp
    rw[pe]at n2
    exact⟨(s1.us (.row x i 0 s.n)).mk' (mkN own i),(by show iF L roots h0 (i:Int) own s (.op "size" [((i+ 1:Nat):Int)])=_;unfold iF;dsimp only;rw[f6 rfl];simp only[h1]),by rw[pT,oi];lia,gp.trans (g2.trans (Gr.eq rfl rfl))⟩
  ·match ks,lk,h,hw with
   |[a,b],_,h,hw=>
    obtain⟨x,s1,y,s2,h1,h2,n2,g2⟩:=se K h hw hs
    exact⟨((s2.us (.num x i 0)).us (.num y i 1)).mk' (mkN own i),(by show iF L roots h0 (i:Int) own s (.op "add" [((i+ 1:Nat):Int),((i+ 1+a.sz:Nat):Int)])=_;unfold iF;dsimp only;rw[fO fW,fO fW,fO fW,f6 (.inl rfl)];simp only[mC,h1,h2]),by rw[pT,oi,oi];lia,g2.trans (Gr.eq rfl rfl)⟩
  ·match ks,lk,h,hw with
   |[a,b],_,h,hw=>
    obtain⟨x,s1,y,s2,h1,h2,n2,g2⟩:=se K h hw hs
    exact⟨((s2.us (.num x i 0)).us (.num y i 1)).mk' (mkN own i),(by show iF L roots h0 (i:Int) own s (.op "sub" [((i+ 1:Nat):Int),((i+ 1+a.sz:Nat):Int)])=_;unfold iF;dsimp only;rw[fO fW,fO fW,fO fW,f6 (.inr rfl)];simp only[mC,h1,h2]),by rw[pT,oi,oi];lia,g2.trans (Gr.eq rfl rfl)⟩
  ·match ks,lk,h,hw with
   |[a,b],_,h,hw=>
    obtain⟨x,s1,y,s2,h1,h2,n2,g2⟩:=se K h hw hsp
    rw[pe]at n2
    exact⟨((((s2.us (.num x i 0)).us (.num y i 1)).mk' ⟨"rec",.tup [],s.n,i⟩).mk' ⟨"tag",.tup [sD "yes",kD s.n],own,i⟩).mk' ⟨"tag",.tup [sD "no",kD s.n],own,i⟩,(by show iF L roots h0 (i:Int) own s (.op "less" [((i+ 1:Nat):Int),((i+ 1+a.sz:Nat):Int)])=_;unfold iF;dsimp only;rw[fO fW,fO fW,f6 rfl];simp only[mC,h1,h2]),by rw[pT,pT,pT,oi,oi];lia,gp.trans (g2.trans (Gr.eq rfl rfl))⟩
end
theorem BV {G:List Pc} {roots:List Nat} {q:Nat} {ts:List Tr} (er:roots=gF ts 0) (F:FtD G roots 0 0 q) (hq:q=G.length):∀(f:Nat) (i:Nat) (c:Pc) (s:Ls),G[i]?=some c->c.wt<=f->HS c.sc c.df s->∃r s',iL (G.map Pc.ρ) roots (hoG G) f (i:Int) s=some (r,s')/\nS s'+ 2<=nS s+ 10*c.wt/\Gr s s'
 |0,i,c,s,hc,hw,_=>by
  obtain⟨⟨⟨κ,ks⟩,_,_,e,_⟩,_⟩:=(F.at hq hc).1
  rw[uF]at e
  lia
 |f+ 1,i,c,s,hc,hw,hs=>by
  have IH:=BV er F hq f
  obtain⟨ft,_,li,ra,rb⟩:=F.at hq hc
  obtain⟨⟨κ,ks⟩,pl,_,e,ok⟩:=ft.t
  rw[uF]at e
  have p1:=pl.1
  rw[hc]at p1
  have eρ:c.ρ=roK κ (gF ks (i+ 1)):=by rw[cC.inj p1]
  have ez:atZ (G.map Pc.ρ) (i:Int)=some c.ρ:=by show(G.map Pc.ρ)[i]?=_;rw[aK,hc];rfl
  have key:∃s',iF (iL (G.map Pc.ρ) roots (hoG G) f) roots (hoG G i) (i:Int) s.n (s.pt i) c.ρ=some s'/\nS s'+ 2<=nS s+ 10*c.wt/\Gr s s':=by
   have K:Kd1 G f c.df (iL (G.map Pc.ρ) roots (hoG G) f):=fun t n sc s h w z=>by
    obtain⟨ρ,g⟩:=h.at
    exact IH n _ s g w z
   by_cases nn:∃w,κ= .name w
   ·obtain⟨w,rfl⟩:=nn
    have eρ:c.ρ= .name w:=eρ
    obtain⟨x,hx⟩:Nm c.sc w:=ok.1.2
    have eh:hoG G i=some x.h:=by unfold hoG;rw[hc];show hoC c=_;unfold hoC;rw[eρ];dsimp only;rw[hx];rfl
    have ev:nmW (.name w) (val c.sc)=x.v:=by show val c.sc w=_;unfold val;rw[hx]
    rw[ev]at e
    have xm:=(zC hx).1
    have hsp:HS c.sc c.df (s.pt i):=hs.eq rfl rfl
    have m:∃r s',jj (iL (G.map Pc.ρ) roots (hoG G) f) roots x.h (i:Int) (s.pt i)=some (r,s')/\nS s'<=nS s+ 3+ 10*x.v/\Gr s s':=by
     unfold jj
     rcases ft.s x xm with⟨z,a,ca,e2,ga,l1,l2,l3,l4,l5⟩|⟨z,j,ej,lj,hj⟩|⟨z,a,ca,e2,_⟩
     ·rw[f6 z,e2]
      obtain⟨r,s',h1,n1,g1⟩:=IH a ca (s.pt i) ga (by lia) ⟨fun b hb=>hsp.1 b (l5.1 b hb),by rw[l3];exact hsp.2⟩
      rw[pe]at n1
      exact⟨r,s',h1,by lia,(Gr.eq (s':=s.pt i) (s:=s) rfl rfl).trans g1⟩
     ·rw[fO (dfn z).1,f6 z,ej]
      by_cases y:j=c.df
      ·rw[f6 ((sY er li ra rb lj).mpr y),y]
       obtain⟨v,hv⟩:=hsp.2
       rw[hv]
       exact⟨v,s.pt i,rfl,by rw[pe];lia,Gr.eq rfl rfl⟩
      ·rw[fO (fun u=>y ((sY er li ra rb lj).mp u))]
       obtain⟨r,cr,r1,r2,r3,r4,r5,r6,r7⟩:=hj (by lia)
       obtain⟨u,s',h1,n1,g1⟩:=IH r cr (((s.pt i).pt r).begin j (s.pt i).n) r2 (by lia) ⟨fun b hb=>absurd hb (r7 b),(s.pt i).n,by rw[r3];exact f6 rfl⟩
       rw[E5,pe,pe]at n1
       refine⟨(s.pt i).n,s'.fl u (s.pt i).n,?_,by rw[vz];lia,?_⟩
       ·unfold uZ
        rw[show atZ roots (j:Int)=roots[j]? from rfl,r1]
        dsimp only
        rw[h1]
       ·exact(Gr.eq (s':=(s.pt i).pt r) (s:=s) rfl rfl).trans ((Gr.be _ j (s.pt i).n).trans (g1.trans (Gr.eq rfl rfl)))
     ·have z1:x.h.1≠"let":=fun u=>by rcases z with z|z;exact(ltn u).2.1 z;exact(ltn u).2.2 z
      have z2:x.h.1≠"def":=fun u=>by rcases z with z|z;exact(dfn u).2.1 z;exact(dfn u).2.2 z
      rw[fO z1,fO z2]
      obtain⟨v,hv⟩:=hsp.1 x.h.2 ⟨x,xm,z,rfl⟩
      rw[hv]
      exact⟨v,s.pt i,rfl,by rw[pe];lia,Gr.eq rfl rfl⟩
    obtain⟨r,s',h1,n1,g1⟩:=m
    refine⟨s'.fl r s.n,?_,by rw[vz];lia,g1.trans (Gr.eq rfl rfl)⟩
    rw[eρ,eh]
    simp only[iF,h1]
   ·have e0:nmW κ (val c.sc)=0:=by
     cases κ with
     |name w=>exact absurd ⟨w,rfl⟩ nn
     |_=>rfl
    obtain⟨s',h1,n1,g1⟩:=Ds (own:=s.n) (s:=s.pt i) (roots:=roots) (h0:=hoG G i) K pl.2 ok.1 (by lia) (hs.eq rfl rfl) (fun w h=>nn ⟨w,h⟩)
    rw[pe]at n1
    exact⟨s',by rw[eρ];exact h1,by lia,(Gr.eq (s':=s.pt i) (s:=s) rfl rfl).trans g1⟩
  obtain⟨s',h1,n1,g1⟩:=key
  refine⟨s.n,s',?_,n1,g1⟩
  unfold iL
  rw[ez]
  dsimp only
  rw[show((i:Int)).toNat=i from rfl,h1]
open TM.Internal (Kn Tr gF szs)
def wsD:Kn->List Dt
 | .num n=>[kD n]
 | .name w=>[sD w]
 | .fn w=>[sD w]
 | .tag w=>[sD w]
 | .lt w=>[sD w]
 | .get w=>[sD w]
 | .rcd l=>l.map sD
 | .case l=>l.flatMap fun a=>[sD a.1,sD a.2]
 |_=>[]
mutual
def ndD:Tr->Dt
 | .mk κ ks=> .tup [sD κ.s,.tup (wsD κ),.tup (A3 ks)]
def A3:List Tr->List Dt
 |[]=>[]
 |t::ts=>ndD t::A3 ts
end
theorem zH:∀{ts:List Tr} {k:Nat} {d:Dt},(A3 ts)[k]?=some d->∃t,ts[k]?=some t/\d=ndD t
 |[],_,_,h=>by cases h
 |t::ts,0,d,h=>by cases h;exact⟨t,rfl,rfl⟩
 |t::ts,k+ 1,d,h=>zH (ts:=ts) (k:=k) h
theorem sZ:∀ts:List Tr,(A3 ts).length=ts.length
 |[]=>rfl
 |t::ts=>by rw[A3,az,sZ ts,az]
def enD (e:En):Dt:= .tup [sD e.w,hmD e.h]
theorem uG {H:Hp} {x:V} {κ:Kn} {ks:List Tr} (h:Im H x (ndD (.mk κ ks))):∃a b c xs ys,x= .ref a/\H a=some (.tup [.str κ.s,.ref b,.ref c])/\H b=some (.tup xs)/\Ims H xs (wsD κ)/\H c=some (.tup ys)/\Ims H ys (A3 ks):=by
 rw[ndD]at h
 obtain⟨a,zs,rfl,e,i⟩:=qU h
 obtain⟨x,y,z,rfl,i1,i2,i3⟩:=FU i
 cases lH i1
 obtain⟨b,xs,rfl,eb,ib⟩:=qU i2
 obtain⟨c,ys,rfl,ec,ic⟩:=qU i3
 exact⟨a,b,c,xs,ys,rfl,e,eb,ib,ec,ic⟩
theorem G4 {H:Hp} {xs:List V} {sc:Sc} {i:Nat} {v:V} (h:Ims H xs (sc.map enD)) (e:xs[i]?=some v):∃p t y,sc[i]?=some p/\v= .ref t/\H t=some (.tup [.str p.w,y])/\Im H y (hmD p.h):=by
 obtain⟨d,e1,e2⟩:=jG h e
 rw[aK]at e1
 obtain⟨p,hp,rfl⟩:=cF.mp e1
 obtain⟨t,y,z,rfl,et,i1,i2⟩:=vn e2
 cases lH i1
 exact⟨p,t,z,hp,rfl,et,i2⟩
inductive XHo (vs:List V) (H:Hp) (Q:VK):Prop
 |mk (l:Addr) (w:Str) (xs:List V) (sc:Sc) (e:vs=[.ref l,.str w]) (hl:H l=some (.lst xs)) (i:Ims H xs (sc.map enD)) (q:∀v,Im H v (hoD ((lkE sc w).map En.h))->Q v H)
def E6:Sp:=fun vs H Q _=>XHo vs H Q
theorem wB {sc:Sc} {i:Nat} {p:En} {w:Str} (h:sc[i]?=some p):lkE (sc.take (i+ 1)) w=if p.w=w then some p else lkE (sc.take i) w:=by
 rw[bF,h]
 exact k8 _ _ _
def exL (x:Ex) (p pp pw:Nat):List En:=match x with
 |none=>[]
 |some (w,k)=>[if k="let" then⟨w,("let",(pp:Int)),pw⟩else⟨w,(k,(p:Int)),0⟩]
theorem Du (sc:Sc) (x:Ex) (p pp pw:Nat):exS sc x p pp pw=sc++exL x p pp pw:=by
 cases x with
 |none=>exact(aD _).symm
 |some z=>rfl
inductive XSc (vs:List V) (H:Hp) (Q:VK):Prop
 |mk (n:V) (κ:Kn) (ks:List Tr) (k:Nat) (l:Addr) (ps:List Nat) (p pp pw:Nat) (N:Str->Prop) (e:vs=[n,.int (k:Int),.ref l]) (i:Im H n (ndD (.mk κ ks))) (hk:k<ks.length) (ok:okK κ ks.length N) (hl:H l=some (.lst (ps.map nI))) (hp:ps[k]?=some p) (hpp:∀j,j+ 1=k->ps[j]?=some pp) (q:∀H' a xs,fE H H'->H' a=some (.lst xs)->H a=none->Ims H' xs ((exL ((exN κ)[k]?.getD none) p pp pw).map enD)->Q (.ref a) H')
def G5:Sp:=fun vs H Q _=>XSc vs H Q
theorem tf:∀{l:List (Str×Str)} {k:Nat} {a:Str×Str},l[k]?=some a->(l.flatMap fun a=>[sD a.1,sD a.2])[2*k]?=some (sD a.1)/\(l.flatMap fun a=>[sD a.1,sD a.2])[2*k+ 1]?=some (sD a.2)
 |[],_,_,h=>by cases h
 |b::l,0,a,h=>by cases h;exact⟨rfl,rfl⟩
 |b::l,k+ 1,a,h=>by
  have:=tf (l:=l) (k:=k) h
  rw[List.flatMap_cons]
  exact⟨by rw[show 2*(k+ 1)=2*k+ 1+ 1 by lia];exact this.1,by rw[show 2*(k+ 1)+ 1=2*k+ 1+ 1+ 1 by lia];exact this.2⟩
theorem sg {H:Hp} {xs:List V} {ds:List Dt} {j:Nat} {d:Dt} (h:Ims H xs ds) (e:ds[j]?=some d):∃x,xs[j]?=some x/\Im H x d:=by
 have l:=h.length
 have lj:=(ar.mp e).1
 have ex:xs[j]?=some (xs[j]'(by lia)):=bb (by lia)
 obtain⟨d',e1,e2⟩:=jG h ex
 rw[e]at e1
 cases e1
 exact⟨_,ex,e2⟩
theorem G6 {κ:Kn} {n:Nat} {N:Str->Prop} (ok:okK κ n N):(κ.s="fn"->∃w,κ= .fn w)/\(κ.s="let"->∃w,κ= .lt w)/\(κ.s="case"->∃l,κ= .case l)/\(κ.s="name"->∃w,κ= .name w)/\(κ.s="get"->∃w,κ= .get w)/\(κ.s="rec"->∃l,κ= .rcd l)/\(κ.s="row"->∃m,κ= .row m):=by
 cases κ with
 |op o m=>
  have ho:(o,m)∈TM.Internal.ops:=ok.2
  simp only[TM.Internal.ops,ak,Prod.mk.injEq,bh,or_false]at ho
  simp only[Kn.s]
  rcases ho with⟨rfl,rfl⟩|⟨rfl,rfl⟩|⟨rfl,rfl⟩|⟨rfl,rfl⟩|⟨rfl,rfl⟩|⟨rfl,rfl⟩|⟨rfl,rfl⟩<;>refine⟨fun h=>?_,fun h=>?_,fun h=>?_,fun h=>?_,fun h=>?_,fun h=>?_,fun h=>?_⟩<;>exact absurd h fW
 |_=>
  simp only[Kn.s]
  refine⟨fun h=>?_,fun h=>?_,fun h=>?_,fun h=>?_,fun h=>?_,fun h=>?_,fun h=>?_⟩<;>first
   |exact⟨_,rfl⟩
   |exact absurd h fW
theorem zI {i:Nat} {x s:Str} {t:Addr} {ys:List V} {σ:St} {H:Hp} {c:TT} {T u:TS} {D:pj} (hσ:σ[i]?=some (some (.ref t))) (et:H t=some (.tup (.str s::ys))) (e:decide (s=x)=false) (h:u D σ H):vQ (FN (hdT i x) c) T u D σ H:=wm hσ et e (jy (jy h))
theorem zJ {i:Nat} {x s:Str} {t:Addr} {ys:List V} {σ:St} {H:Hp} {c:TT} {T u:TS} {D:pj} (hσ:σ[i]?=some (some (.ref t))) (et:H t=some (.tup (.str s::ys))) (e:decide (s=x)=true) (h:vQ c T u D σ H):vQ (FN (hdT i x) c) T u D σ H:=wm hσ et e (jW h)
theorem sj {i:Nat} {n m:Int} {σ:St} {H:Hp} {T u:TS} {D:pj} (hσ:σ[i]?=some (some (.int n))) (e:n=m) (h:T D σ H):vQ (cT (tOp (cEq false) (cV i) (tC (.int m)))) T u D σ H:=by
 show onV σ[i]? _
 rw[hσ]
 show if(false ^^ decide (n=m))=true then _ else _
 rw[gR e]
 exact jW h
theorem sk {i:Nat} {n m:Int} {σ:St} {H:Hp} {T u:TS} {D:pj} (hσ:σ[i]?=some (some (.int n))) (e:n≠m) (h:u D σ H):vQ (cT (tOp (cEq false) (cV i) (tC (.int m)))) T u D σ H:=by
 show onV σ[i]? _
 rw[hσ]
 show if(false ^^ decide (n=m))=true then _ else _
 rw[gC e]
 exact jy h
theorem ifG {i:Nat} {n m:Int} {σ:St} {H:Hp} {T u:TS} {D:pj} (hσ:σ[i]?=some (some (.int n))) (h:if m<n then T D σ H else u D σ H):vQ (cT (tOp (cI0 fun i j=> .bl (decide (j<i))) (cV i) (tC (.int m)))) T u D σ H:=by
 show onV σ[i]? _
 rw[hσ]
 show if decide (m<n)=true then _ else _
 by_cases e:m<n
 ·rw[gR e];rw[f6 e]at h;exact jW h
 ·rw[gC e];rw[fO e]at h;exact jy h
theorem uH (T:Txt K mg):FO P w base 1 T.d42 E6:=by
 refine T.d42.F.ok jY (fun vs H Q E h=>?_) (fun cdv A0 outer s0 H vs Q E hr h=>?_)
 ·obtain⟨l,w,xs,sc,rfl,_⟩:=h
  rfl
 obtain⟨l,w',xs,sc,rfl,hl,i,q⟩:=h
 refine⟨_,(eU (pS (i:=2) jY.nd xZ)
  (eU (jK PassesOwn.never rfl (gX (cv 0)) (pN (i:=3) jY.nd)
   (eZ (gG (fD jE (fh fm (cv 3) eV) (cv 1))
    (eZ (pS (i:=2) jY.nd (fh fm (cv 3) eV)))
    fJ)))
  (eZ (fz (cv 2))))),?_⟩
 dsimp only[fN]
 have lx:=i.length
 rw[aC]at lx
 refine⟨l,rfl,⟨_,SqL.of hl⟩,sx (xs:=xs) (fun k σ H2=>X2 fun(v:V) (o3:Option V)=>Y3 (σ=[some (.ref l),some (.str w'),some v,o3]) (H2=H) (Im H v (hoD ((lkE (sc.take k) w').map En.h))))
  ⟨.non,none,rfl,rfl,.flat rfl⟩ (fun k σ H2 _ ⟨_,_,_,e,_⟩=>SqL.of (by rw[e];exact hl)) ?_ ?_⟩
 ·rintro k x σ H2 hx ⟨v,o3,rfl,rfl,iv⟩
  obtain⟨p,t,y,hp,rfl,et,iy⟩:=G4 i hx
  dsimp only[fN]
  refine⟨_,et,fc (eY (j:=0) rfl) ?_⟩
  show if(false ^^ decide (p.w=w'))=true then _ else _
  rw[dZ]
  by_cases e:p.w=w'
  ·rw[gR e]
   refine jW ⟨_,et,fc (eY (j:=1) rfl) ⟨y,_,rfl,rfl,?_⟩⟩
   rw[wB hp,f6 e]
   exact iy
  ·rw[gC e]
   refine jy ⟨v,_,rfl,rfl,?_⟩
   rw[wB hp,fO e]
   exact iv
 ·rintro σ H2 ⟨v,o3,rfl,rfl,iv⟩
  rw[lx,bu]at iv
  exact q v iv
theorem rG (T:Txt K mg):FO P w base 1 T.d41 G5:=by
 refine T.d41.F.ok rk (fun vs H Q E h=>?_) (fun cdv A0 outer s0 H vs Q E hr h=>?_)
 ·obtain⟨n,κ,ks,k,l,ps,p,pp,pw,N,rfl,_⟩:=h
  rfl
 obtain⟨n,κ,ks,k,l,ps,p,pp,pw,N,rfl,i,hk,ok,hl,hp,hpp,q⟩:=h
 refine⟨_,(eU (gG (fD jE (fh fm (cv 0) eV) fF)
   (eZ (fz (fH (eR (fC (eR (fh fm (fh fm (cv 0) eV) eV) (eR (fC (eR fF (eR (fh fg (cv 2) eV) eT))) eT))) eT))))
   fJ)
  (eU (gG (PW.pt (p9 (fD jE (fh fm (cv 0) eV) fF) (ou (fD jE (cv 1) eV))))
   (eZ (fz (fH (eR (fC (eR (fh fm (fh fm (cv 0) eV) eV) (eR (fC (eR fF (eR (fh fg (cv 2) eV) eT))) eT))) eT))))
   fJ)
  (eU (gG (PW.pt (p9 (fD jE (fh fm (cv 0) eV) fF) (ou (fD xr (cv 1) eV))))
   (eZ (fz (fH (eR (fC (eR (fh fm (fh fm (cv 0) eV) (fq lQ (fq qm eV (cv 1)) eV)) (eR (fC (eR fF (eR (fh fg (cv 2) (cv 1)) eT))) eT))) eT))))
   fJ)
  (eZ (fz (fH eT)))))),?_⟩
 obtain⟨a,b,c,xs,ys,rfl,ea,eb,ib,ec,ic⟩:=uG i
 have er:∀{j m:Nat},ps[j]?=some m->(ps.map nI)[j]?=some (.int (m:Int)):=fun h=>by rw[aK,h];rfl
 have nn:∀{H2:Hp} {a:Addr},fE H H2->H2 a=none->H a=none:=fun{H2 a} S h=>by cases z:H a with|none=>rfl|some u=>rw[S _ _ z]at h;cases h
 have fin2:∀{H2:Hp} {a:Addr} {v:V},fE H H2->H2 a=none->Ims H2 [v] ((exL ((exN κ)[k]?.getD none) p pp pw).map enD)->Q (.ref a) (L2.Internal.upd H2 a (.lst [v])):=fun{H2 a v} S h i=>q _ a [v] (S.trans (eW h _)) eS (nn S h) (i.mono (fE.tk (eW h _)))
 have fin:∀{H2:Hp} {a:Addr},fE H H2->H2 a=none->exL ((exN κ)[k]?.getD none) p pp pw=[]->Q (.ref a) (L2.Internal.upd H2 a (.lst [])):=fun{H2 a} S h e=>q _ a [] (S.trans (eW h _)) eS (by cases z:H a with|none=>rfl|some u=>rw[S _ _ z]at h;cases h) (by rw[e];exact .nil)
 obtain⟨k1,k2,k3,_⟩:=G6 ok
 by_cases e1:κ.s="fn"
 ·obtain⟨w0,rfl⟩:=k1 e1
  have hk0:k=0:=by have:ks.length=1:=ok;lia
  subst hk0
  obtain⟨x,rfl,ix⟩:=BM ib
  cases lH ix
  refine pG (i:=0) (x:="fn") (s:="fn") rfl ea fW ?_
  refine⟨_,ea,fc (eY (j:=1) rfl) ⟨_,eb,fc (eY (j:=0) rfl) ⟨_,hl,fc (eY (er hp)) ⟨lI,fun t1 h1=>⟨lI,fun t2 h2=>⟨mE,fun t3 h3=>?_⟩⟩⟩⟩⟩⟩
  have S1:=eW h1 (.tup [.str "fn",.int (p:Int)])
  have S2:=eW h2 (.tup [.str w0,.ref t1])
  exact fin2 (S1.trans S2) h3 (.cons (ig h2 (.cons (.flat rfl) (.cons (ig h1 (.cons (.flat rfl) (.cons (.flat rfl) .nil))) .nil))) .nil)
 refine pE (i:=0) (x:="fn") (s:=κ.s) rfl ea (gC e1) ?_
 dsimp only[jD]
 by_cases e2:κ.s="let"
 ·obtain⟨w0,rfl⟩:=k2 e2
  have lk:ks.length=2:=ok
  obtain⟨x,rfl,ix⟩:=BM ib
  cases lH ix
  by_cases hk0:k=1
  ·subst hk0
   refine zJ (i:=0) (x:="let") (s:="let") rfl ea fW ?_
   refine sj (i:=1) (n:=((1:Nat):Int)) rfl rfl ?_
   refine⟨_,ea,fc (eY (j:=1) rfl) ⟨_,eb,fc (eY (j:=0) rfl) ⟨_,hl,fc (eY (er (hpp 0 rfl))) ⟨lI,fun t1 h1=>⟨lI,fun t2 h2=>⟨mE,fun t3 h3=>?_⟩⟩⟩⟩⟩⟩
   have S1:=eW h1 (.tup [.str "let",.int (pp:Int)])
   have S2:=eW h2 (.tup [.str w0,.ref t1])
   exact fin2 (S1.trans S2) h3 (.cons (ig h2 (.cons (.flat rfl) (.cons (ig h1 (.cons (.flat rfl) (.cons (.flat rfl) .nil))) .nil))) .nil)
  ·have hk0:k=0:=by lia
   subst hk0
   refine zJ (i:=0) (x:="let") (s:="let") rfl ea fW ?_
   refine sk (i:=1) (n:=((0:Nat):Int)) rfl (by decide) ?_
   dsimp only[jD]
   refine zI (i:=0) (x:="case") (s:="let") rfl ea fW ?_
   exact⟨mD,fun t1 h1=>fin (fun _ _ e=>e) h1 rfl⟩
 refine zI (i:=0) (x:="let") (s:=κ.s) rfl ea (gC e2) ?_
 dsimp only[jD]
 by_cases e3:κ.s="case"
 ·obtain⟨l0,rfl⟩:=k3 e3
  obtain⟨lk,lk2⟩:ks.length=l0.length+ 1/\l0.length<=10:=ok
  refine zJ (i:=0) (x:="case") (s:="case") rfl ea fW ?_
  refine ifG (i:=1) (n:=(k:Int)) rfl ?_
  cases k with
  |zero=>
   rw[fO (by decide)]
   exact⟨mD,fun t1 h1=>fin (fun _ _ e=>e) h1 rfl⟩
  |succ j=>
   rw[f6 (by lia)]
   have hj:l0[j]?=some (l0[j]'(by lia)):=bb (by lia)
   obtain⟨x,ex,ix⟩:=sg ib (tf hj).2
   cases lH ix
   have e5:(2*((j+ 1:Nat):Int)-1)=((2*j+ 1:Nat):Int):=by lia
   refine⟨_,ea,fc (eY (j:=1) rfl) ⟨.inl ⟨by decide,by decide⟩,_,eb,fc (show atI xs (2*((j+ 1:Nat):Int)-1)=_ by rw[e5];exact eY ex) ⟨_,hl,fc (eY (er hp)) ⟨lI,fun t1 h1=>⟨lI,fun t2 h2=>⟨mE,fun t3 h3=>?_⟩⟩⟩⟩⟩⟩
   have S1:=eW h1 (.tup [.str "arm",.int (p:Int)])
   have S2:=eW h2 (.tup [.str (l0[j]'(by lia)).2,.ref t1])
   refine fin2 (S1.trans S2) h3 ?_
   have exx:(exN (.case l0))[j+ 1]?.getD none=some ((l0[j]'(by lia)).2,("arm":Str)):=by
    show((l0.map fun a=>some (a.2,("arm":Str)))[j]?).getD none=_
    rw[aK,hj]
    rfl
   rw[exx]
   exact .cons (ig h2 (.cons (.flat rfl) (.cons (ig h1 (.cons (.flat rfl) (.cons (.flat rfl) .nil))) .nil))) .nil
 refine zI (i:=0) (x:="case") (s:=κ.s) rfl ea (gC e3) ?_
 refine⟨mD,fun t1 h1=>fin (fun _ _ e=>e) h1 ?_⟩
 have ex:exN κ=[]:=by
  cases κ with
  |fn=>exact absurd rfl e1
  |lt=>exact absurd rfl e2
  |case=>exact absurd rfl e3
  |_=>rfl
 rw[ex]
 rfl
open TM.Internal (Kn Tr gF szs)
inductive XRw (vs:List V) (H:Hp) (Q:VK):Prop
 |mk (n:V) (κ:Kn) (ks:List Tr) (l:Addr) (ps:List Nat) (N:Str->Prop) (e:vs=[n,.ref l]) (i:Im H n (ndD (.mk κ ks))) (ok:okK κ ks.length N) (hl:H l=some (.lst (ps.map nI))) (hp:ps.length=ks.length) (q:∀H' v,fE H H'->Im H' v (roK κ ps).d->Q v H')
def G7:Sp:=fun vs H Q _=>XRw vs H Q
theorem zK {H:Hp}:∀ps:List Nat,Ims H (ps.map nI) ((ps.map fun p:Nat=>(p:Int)).map kD)
 |[]=> .nil
 |p::ps=> .cons (.flat rfl) (zK ps)
theorem zL {K:PySem.W.Frag} {b l D:Addr} {Q:VK} {H1:Hp} {xs ys:List V} {u0 v0:Option V} (eb:H1 b=some (.tup xs)) (el:H1 l=some (.lst ys)) (hD:H1 D=none) (hn:xs.length<1000) (heq:ys.length=xs.length)
  (hq:∀H' zs,fE H1 H'->H' D=some (.lst zs)->zs.length=xs.length->(∀(i:Nat) x y,xs[i]?=some x->ys[i]?=some y->∃t,zs[i]?=some (.ref t)/\H' t=some (.tup [x,y]))->Q (.ref D) H'):LcG (Itzm K b l) (Ee K 2 (sv (fN 0) (sv (fN 1) Ed))) (Hz (jL (cV 0) (jL (cV 1) tP))) Q [u0,v0] H1 D:=by
 have sl:=sizeLine_eq
 refine⟨fun k m σ' H2=>Y5 (m=xs.length-k) (k<=xs.length) ((∃u v,σ'=[u,v])) (fE H1 H2) (∃zs,Y3 (H2 D=some (.lst zs)) (zs.length=k) (∀(i:Nat) x y,i<k->xs[i]?=some x->ys[i]?=some y->∃t,zs[i]?=some (.ref t)/\H2 t=some (.tup [x,y]))),⟨xs.length,by simp,cb _,⟨_,_,rfl⟩,eW hD _,[],eS,rfl,fun i x y h=>absurd h (cx _)⟩,?_⟩
 rintro k m σ' H2 ⟨rfl,hk,⟨u,v,rfl⟩,S,zs,ez,lz,hz⟩
 by_cases hlt:k<xs.length
 ·refine .inr ⟨⟨xs,ys,xs[k],ys[k]'(by lia),SqT.of (S _ _ eb),SqL.of (S _ _ el),bb hlt,bb (by lia)⟩,?_⟩
  rintro y H3 ⟨T,x,y,rfl,hT,rfl,hx,hy⟩
  have hx:=hx xs (SqT.of (S _ _ eb))
  have hy:=hy ys (SqL.of (S _ _ el))
  have S3:=eW hT (.tup [x,y])
  refine⟨T,_,rfl,SqT.of eS,rfl,_,_,rfl,_,_,rfl,rfl,?_⟩
  refine⟨lI,fun t ht=>?_⟩
  have S4:=eW ht (.tup [x,y])
  have e4:=(S3.trans S4) _ _ ez
  refine⟨zs,e4,by lia,xs.length-(k+ 1),by lia,rfl,hlt,⟨_,_,rfl⟩,?_,zs++[.ref t],eS,by rw[aO,lz];rfl,?_⟩
  ·intro q u e
   rw[eX (fe e hD)]
   exact S4 _ _ (S3 _ _ (S _ _ e))
  ·have nt:∀{a:Addr} {ws:List V},(L2.Internal.upd (L2.Internal.upd H2 T (.tup [x,y])) t (.tup [x,y])) a=some (.tup ws)->(L2.Internal.upd (L2.Internal.upd (L2.Internal.upd H2 T (.tup [x,y])) t (.tup [x,y])) D (.lst (zs++[.ref t]))) a=some (.tup ws):=fun e=>by rw[eX (jw e e4 (fun z=>nomatch z))];exact e
   intro i x' y' hi hx' hy'
   by_cases z:i<k
   ·obtain⟨t',h1,h2⟩:=hz i x' y' z hx' hy'
    exact⟨t',by rw[aJ (by lia)];exact h1,nt (S4 _ _ (S3 _ _ h2))⟩
   ·have ik:i=k:=by lia
    subst ik
    rw[hx]at hx'
    rw[hy]at hy'
    cases hx'
    cases hy'
    exact⟨t,by rw[aI (by lia),lz,cg];rfl,nt eS⟩
 ·have e1:k=xs.length:=by lia
  subst e1
  exact .inl ⟨⟨xs,ys,SqT.of (S _ _ eb),SqL.of (S _ _ el),by lia⟩,hq H2 zs S ez lz fun i x y hx hy=>hz i x y (ar.mp hx).1 hx hy⟩
theorem BW {H:Hp}:∀{zs:List V} {ds:List Dt},zs.length=ds.length->(∀(i:Nat) d,ds[i]?=some d->∃z,zs[i]?=some z/\Im H z d)->Ims H zs ds
 |[],[],_,_=> .nil
 |z::zs,[],h,_=>by cases h
 |[],d::ds,h,_=>by cases h
 |z::zs,d::ds,h,k=>by
  obtain⟨z',e,i⟩:=k 0 d rfl
  cases e
  exact .cons i (BW (by simpa using h) fun i d hd=>k (i+ 1) d hd)
theorem A4 {H:Hp} {zs xs:List V} {l0:List Str} {ps:List Nat} (ib:Ims H xs (l0.map sD)) (lz:zs.length=xs.length) (hp:ps.length=l0.length) (h:∀(i:Nat) x y,xs[i]?=some x->(ps.map nI)[i]?=some y->∃t,zs[i]?=some (.ref t)/\H t=some (.tup [x,y])):Ims H zs (((l0.zip ps).map fun q=>(q.1,(q.2:Int))).map fdD):=by
 have lx:=ib.length
 rw[aC]at lx
 refine BW (by rw[aC,aC,bG];lia) fun i d hd=>?_
 rw[aK,aK]at hd
 obtain⟨q,hq,rfl⟩:=cF.mp hd
 obtain⟨q',hq',rfl⟩:=cF.mp hq
 obtain⟨h1,h2⟩:=bE.mp hq'
 obtain⟨x,hx,ix⟩:=sg ib (show(l0.map sD)[i]?=some (sD q'.1) by rw[aK,h1];rfl)
 cases lH ix
 obtain⟨t,e1,e2⟩:=h i _ _ hx (show(ps.map nI)[i]?=some (nI q'.2) by rw[aK,h2];rfl)
 exact⟨_,e1,.tup e2 (.cons (.flat rfl) (.cons (.flat rfl) .nil))⟩
theorem vA (T:Txt K mg):FO P w base 2 T.d43 G7:=by
 refine T.d43.F.rd qD fun cdv A0 outer s H vs Q E hr h=>?_
 obtain⟨n,κ,ks,l,ps,N,rfl,i,ok,hl,hp,q⟩:=h
 refine⟨_,(eU (gG (fD jE (fh fm (cv 0) eV) fF)
   (eZ (fz (fC (eR fF (eR (fh fg (cv 1) eV) (eR (fh fm (fh fm (cv 0) eV) eV) eT))))))
   fJ)
  (eU (gG (fD jE (fh fm (cv 0) eV) fF)
   (eZ (fz (fC (eR fF (eR (gq gw rfl T.z_tuple iA (eR (Bz (g:=Ee K 2 (sv (fN 0) (sv (fN 1) Ed))) rfl (EB (x:="_law_word") (y:="_law_place") rfl fW fW rfl (by decide) rfl) (CN rfl T.z_zip (eR (fh fm (cv 0) eV) (eR (cv 1) eT))) (pgP rfl fW rfl rfl) (fun _ _ _ _ _=>(fC (eR (cv 0) (eR (cv 1) eT))))) eT)) eT)))))
   fJ)
  (eU (gG (fD jE (fh fm (cv 0) eV) fF)
   (eU (jq (j:=2) rfl (uY (x:="_law_k") ["_law_places","_law_node"] [("_law_places",1,s.heap.objs.size+ 2),("_law_node",0,s.heap.objs.size+ 1)]) (gY rfl T.z_range (eR (fq lQ (fS fX rfl T.z_len jB (eR (cv 1) eT)) eV) eT)) (fun _ _ _ _ _=>iB) (fun _ _ _ _ _=>(fC (eR (fh fm (fh fm (cv 2) eV) (fq qm eV (cv 0))) (eR (fh fm (fh fm (cv 2) eV) (fq gk (fq qm eV (cv 0)) eV)) (eR (fh fg (cv 1) (fq gk (cv 0) eV)) eT))))) qD.nd rfl (.inl rfl))
   (eZ (fz (fC (eR fF (eR (fh fg (cv 1) eV) (eR (gq gw rfl T.z_tuple iA (eR (cv 2) eT)) eT)))))))
   fJ)
  (eU (gG (fD jE (fh fm (cv 0) eV) fF)
   (eZ (fz (fC (eR fF (eR (gq gw rfl T.z_tuple iA (eR (cv 1) eT)) eT)))))
   fJ)
  (eZ (fz (fq sL (fq sL (fC (eR (fh fm (cv 0) eV) eT)) (fh fm (cv 0) eV)) (gq gw rfl T.z_tuple iA (eR (cv 1) eT))))))))),?_⟩
 have sl:=sizeLine_eq
 obtain⟨a,b,c,xs,ys,rfl,ea,eb,ib,ec,ic⟩:=uG i
 have er:∀{j m:Nat},ps[j]?=some m->(ps.map nI)[j]?=some (.int (m:Int)):=fun h=>by rw[aK,h];rfl
 obtain⟨k1,k2,k3,k4,k5,k6,k7⟩:=G6 ok
 by_cases e5:κ.s="get"
 ·obtain⟨w0,rfl⟩:=k5 e5
  have lk:ks.length=1:=ok
  obtain⟨x,rfl,ix⟩:=BM ib
  cases lH ix
  match ps,(show ps.length=1 by lia)with
  |[p],_=>
   refine pG (i:=0) (x:="get") (s:="get") rfl ea fW ?_
   refine⟨_,hl,fc (eY (j:=0) rfl) ⟨_,ea,fc (eY (j:=1) rfl) ⟨_,eb,fc (eY (j:=0) rfl) ⟨tK,fun t1 h1=>?_⟩⟩⟩⟩
   exact q _ _ (eW h1 _) (ig h1 (.cons (.flat rfl) (.cons (.flat rfl) (.cons (.flat rfl) .nil))))
 refine pE (i:=0) (x:="get") (s:=κ.s) rfl ea (gC e5) ?_
 dsimp only[jD]
 by_cases e6:κ.s="rec"
 ·obtain⟨l0,rfl⟩:=k6 e6
  obtain⟨lk,lk2⟩:ks.length=l0.length/\l0.length<=10:=ok
  refine pG (i:=0) (x:="rec") (s:="rec") rfl ea fW ?_
  have lx:xs.length=l0.length:=by rw[ib.length];simp[wsD]
  refine⟨_,ea,fc (eY (j:=1) rfl) ⟨b,l,rfl,⟨_,SqT.of eb⟩,⟨_,SqL.of hl⟩,fun D hD=>?_⟩⟩
  refine zL eb hl hD (by lia) (by rw[aC];lia) fun H2 zs S2 ez lz hz=>?_
  refine⟨D,zs,rfl,.inl ⟨SqL.of ez,fun t1 h1=>⟨lI,fun t2 h2=>?_⟩⟩⟩
  have S3:=eW h1 (.tup zs)
  have i2:=A4 (ib.mono (fE.tk S2)) lz (by lia) hz
  exact q _ _ ((S2.trans S3).trans (eW h2 _)) (ig h2 (.cons (.flat rfl) (.cons (ig h1 i2) .nil)))
 refine pE (i:=0) (x:="rec") (s:=κ.s) rfl ea (gC e6) ?_
 dsimp only[jD]
 by_cases e3:κ.s="case"
 ·obtain⟨l0,rfl⟩:=k3 e3
  obtain⟨lk,lk2⟩:ks.length=l0.length+ 1/\l0.length<=10:=ok
  refine pG (i:=0) (x:="case") (s:="case") rfl ea fW ?_
  match ps,(show ps.length=l0.length+ 1 by lia)with
  |p0::ps,lps=>
   have lps:ps.length=l0.length:=by simpa using lps
   have en:((((p0::ps).map nI).length:Nat):Int)-1=(l0.length:Int):=by rw[aC,az,lps];lia
   refine⟨l,_,rfl,.inl (SqL.of hl),_,rfl,by rw[en];lia,by rw[en];lia,fun D hD=>?_⟩
   rw[en,eg]
   refine kC l0.length (by lia) (fun zs H2=>Ims H2 zs (((l0.zip ps).map fun q:(Str×Str)×Nat=>(q.1.1,q.1.2,(q.2:Int))).map amD |>.take zs.length)) (fun _ _ _ h k=>h.mono k) hD rfl (fun k H2 _ h=>h) (fun H2 _=>b9 _) .nil ?_ ?_
   ·rintro k H2 v H3 zs Z S hk ⟨rfl,rfl⟩ iz lz hZ
    have hj:l0[k]?=some l0[k]:=bb hk
    have hj2:ps[k]?=some (ps[k]'(by lia)):=bb (by lia)
    have ib2:=ib.mono (fE.tk S)
    obtain⟨x,ex,ix⟩:=sg ib2 (tf hj).1
    cases lH ix
    obtain⟨y,ey,iy⟩:=sg ib2 (tf hj).2
    cases lH iy
    have c1:2*(0+(k:Int))=((2*k:Nat):Int):=by lia
    have c2:2*(0+(k:Int))+ 1=((2*k+ 1:Nat):Int):=by lia
    have c3:0+(k:Int)+ 1=((k+ 1:Nat):Int):=by lia
    have ea2:=S _ _ ea
    have eb2:=S _ _ eb
    have hl2:=S _ _ hl
    have q1:atI xs (2*(0+(k:Int)))=some (.str l0[k].1):=by rw[c1];exact eY ex
    have q2:atI xs (2*(0+(k:Int))+ 1)=some (.str l0[k].2):=by rw[c2];exact eY ey
    have q3:atI ((p0::ps).map nI) (0+(k:Int)+ 1)=some (nI (ps[k]'(by lia))):=by rw[c3];exact eY (by rw[aK];show Option.map nI ps[k]?=_;rw[hj2];rfl)
    refine⟨_,ea2,fc (eY (j:=1) rfl) ⟨.inl ⟨by decide,by decide⟩,_,eb2,fc q1 ⟨_,ea2,fc (eY (j:=1) rfl) ⟨.inl ⟨by decide,by decide⟩,_,eb2,fc q2 ⟨_,hl2,fc q3 ⟨tK,fun t1 h1=>?_⟩⟩⟩⟩⟩⟩
    refine hZ _ _ (eW h1 _) ?_
    rw[aO,aV,bF,aK,aK,lz]
    rw[lz]at iz
    have hzip:(l0.zip ps)[k]?=some (l0[k],ps[k]'(by lia)):=bE.mpr ⟨hj,hj2⟩
    rw[hzip]
    exact(iz.mono (fE.tk (eW h1 _))).app (.cons (ig h1 (.cons (.flat rfl) (.cons (.flat rfl) (.cons (.flat rfl) .nil)))) .nil)
   ·intro H2 zs S iz lz ez
    dsimp only[fN]
    rw[bH (by rw[aC,aC,bG];lia)]at iz
    refine⟨_,S _ _ hl,fc (eY (j:=0) rfl) ⟨D,zs,rfl,.inl ⟨SqL.of ez,fun t1 h1=>⟨tK,fun t2 h2=>?_⟩⟩⟩⟩
    exact q _ _ ((S.trans (eW h1 _)).trans (eW h2 _)) (ig h2 (.cons (.flat rfl) (.cons (.flat rfl) (.cons (ig h1 iz) .nil))))
 refine pE (i:=0) (x:="case") (s:=κ.s) rfl ea (gC e3) ?_
 dsimp only[jD]
 by_cases e7:κ.s="row"
 ·obtain⟨m,rfl⟩:=k7 e7
  refine pG (i:=0) (x:="row") (s:="row") rfl ea fW ?_
  refine⟨l,_,rfl,.inl ⟨SqL.of hl,fun t1 h1=>⟨lI,fun t2 h2=>?_⟩⟩⟩
  have S1:=eW h1 (.tup (ps.map nI))
  exact q _ _ (S1.trans (eW h2 _)) (ig h2 (.cons (.flat rfl) (.cons (ig h1 (zK ps)) .nil)))
 refine pE (i:=0) (x:="row") (s:=κ.s) rfl ea (gC e7) ?_
 dsimp only[jD]
 refine⟨_,ea,fc (eY (j:=0) rfl) ⟨mE,fun t1 h1=>?_⟩⟩
 have S1:=eW h1 (.tup [.str κ.s])
 refine⟨_,S1 _ _ ea,fc (eY (j:=1) rfl) ?_⟩
 have lw:xs.length<=1:=by
  rw[ib.length]
  cases κ with
  |rcd=>exact absurd rfl e6
  |case=>exact absurd rfl e3
  |_=>simp[wsD]
 refine p4 eS (S1 _ _ eb) (by show 1+xs.length<=_;lia) fun t2 H2 S2 e2=>?_
 refine⟨l,_,rfl,.inl ⟨SqL.of (S2 _ _ (S1 _ _ hl)),fun t3 h3=>?_⟩⟩
 have S3:=eW h3 (.tup (ps.map nI))
 have lps:ps.length<=3:=by
  rw[hp]
  cases κ with
  |rcd=>exact absurd rfl e6
  |case=>exact absurd rfl e3
  |row=>exact absurd rfl e7
  |op o m=>
   obtain⟨h1,h2⟩:ks.length=m/\(o,m)∈TM.Internal.ops:=ok
   simp only[TM.Internal.ops,ak,Prod.mk.injEq,bh,or_false]at h2
   lia
  |num=>have:ks.length=0:=ok;lia
  |name=>have:ks.length=0:=ok.1;lia
  |fn=>have:ks.length=1:=ok;lia
  |tag=>have:ks.length=1:=ok;lia
  |lt=>have:ks.length=2:=ok;lia
  |get=>have:ks.length=1:=ok;lia
 refine p4 (S3 _ _ e2) eS (by rw[aO,aC];show 1+xs.length+_<=_;lia) fun t4 H4 S4 e4=>?_
 have S14:fE H H4:=S1.trans (S2.trans (S3.trans S4))
 refine q _ _ S14 (.tup e4 ?_)
 have ib4:=ib.mono (fE.tk S14)
 cases κ with
 |rcd=>exact absurd rfl e6
 |case=>exact absurd rfl e3
 |row=>exact absurd rfl e7
 |get=>exact absurd rfl e5
 |op o m=>
  cases ib4
  exact .cons (.flat rfl) (zK ps)
 |num n=>
  match ps,(show ps.length=0 from hp.trans ok)with
  |[],_=>exact .cons (.flat rfl) (by show Ims H4 (xs++[]) _;rw[aD];exact ib4)
 |name n=>
  match ps,(show ps.length=0 from hp.trans ok.1)with
  |[],_=>exact .cons (.flat rfl) (by show Ims H4 (xs++[]) _;rw[aD];exact ib4)
 |fn n=>
  match ps,(show ps.length=1 from hp.trans ok)with
  |[p],_=>exact .cons (.flat rfl) (ib4.app (.cons (.flat rfl) .nil))
 |tag n=>
  match ps,(show ps.length=1 from hp.trans ok)with
  |[p],_=>exact .cons (.flat rfl) (ib4.app (.cons (.flat rfl) .nil))
 |lt n=>
  match ps,(show ps.length=2 from hp.trans ok)with
  |[p,p2],_=>exact .cons (.flat rfl) (ib4.app (.cons (.flat rfl) (.cons (.flat rfl) .nil)))
open TM.Internal (Kn Tr gF szs)
def FR (r h:Addr) (H H':Hp):Prop:=∀a o,H a=some o->a≠r->a≠h->H' a=some o
theorem FR.refl {r h:Addr} {H:Hp}:FR r h H H:=fun _ _ e _ _=>e
theorem FR.trans {r h:Addr} {H H1 H2:Hp} (f:FR r h H H1) (g:FR r h H1 H2):FR r h H H2:=fun a o e n m=>g a o (f a o e n m) n m
theorem FR.same {r h:Addr} {H H':Hp} (S:fE H H'):FR r h H H':=fun a o e _ _=>S a o e
theorem HH {r h:Addr} {H:Hp} {o:HO}:FR r h H (L2.Internal.upd H r o):=fun a u e n _=>by rw[eX n];exact e
theorem HI {r h:Addr} {H:Hp} {o:HO}:FR r h H (L2.Internal.upd H h o):=fun a u e _ n=>by rw[eX n];exact e
theorem FR.tk {r h:Addr} {H H':Hp} {rs hs:List V} (F:FR r h H H') (e1:H r=some (.lst rs)) (e2:H h=some (.lst hs)):TK H H':=fun a xs e=>F a _ e (jw e e1 fun z=>nomatch z) (jw e e2 fun z=>nomatch z)
theorem FR.put {r h:Addr} {H0 H:Hp} (F:FR r h H0 H) {a:Addr} (z:H0 a=none) (o:HO):FR r h H0 (L2.Internal.upd H a o):=fun b u e n m=>by
 rw[eX (fe e z)]
 exact F b u e n m
theorem zM {K:PySem.W.Frag} {a:Addr} {xs:List V} {g:TG} {tb:TS} {D:pj} {σ:St} {H:Hp} (Pv:Nat->St->Hp->Prop) (h0:Pv 0 σ H) (hl:∀i σ H,i<=xs.length->Pv i σ H->SqT K H a xs)
  (hs:∀(i:Nat) (x:V) (σ:St) (H:Hp) (T:Addr),xs[i]?=some x->Pv i σ H->H T=none->g (.ref T) σ (L2.Internal.upd H T (.tup [.int (i:Int),x])) fun σ2 H2=>tb {D with nx:=Pv (i+ 1),ct:=Pv (i+ 1),bk:=D.nx} σ2 H2) (hd:∀σ H,Pv xs.length σ H->D.nx σ H):
  ∃W:Nat->Nat->St->Hp->Prop,(∃m,W 0 m σ H)/\∀i m σ H,W i m σ H->
   ((EJ K a).stop i H/\D.nx σ H)\/((EJ K a).go i H/\∃N:St->Hp->Prop,(∀σ' H',N σ' H'->∃m',m'<m/\W (i+ 1) m' σ' H')/\∀x H',(EJ K a).yld i H x H'->g x σ H' fun σ2 H2=>tb {D with nx:=N,ct:=N,bk:=D.nx} σ2 H2):=by
 refine⟨fun i m σ H=>Y3 (m=xs.length-i) (i<=xs.length) (Pv i σ H),⟨xs.length,by simp,cb _,h0⟩,?_⟩
 rintro i m σ H ⟨rfl,hi,p⟩
 have q:=hl i σ H hi p
 by_cases hlt:i<xs.length
 ·refine .inr ⟨⟨xs,xs[i],q,by simp[hlt]⟩,Pv (i+ 1),fun σ' H' p'=>⟨xs.length-(i+ 1),by lia,rfl,hlt,p'⟩,fun v H' y=>?_⟩
  obtain⟨T,x,rfl,hT,rfl,hx⟩:=y
  exact hs i x σ H T (hx xs q) p hT
 ·have e:i=xs.length:=by lia
  subst e
  exact .inl ⟨⟨xs,q,rfl⟩,hd σ H p⟩
def rD (c:Pc):Dt:=c.ρ.d
def hD' (c:Pc):Dt:=hoD (hoC c)
inductive XFl (f:Nat) (vs:List V) (H:Hp) (Q:VK):Prop
 |mk (n:V) (t:Tr) (s r h:Addr) (ss rs hs:List V) (sc:Sc) (p d:Nat) (N:Str->Prop) (e:vs=[n,.ref s,.ref r,.ref h]) (i:Im H n (ndD t)) (hf:t.nest<=f) (es:H s=some (.lst ss)) (is:Ims H ss (sc.map enD)) (er:H r=some (.lst rs)) (eh:H h=some (.lst hs)) (lr:rs.length=p) (lh:hs.length=p) (nrh:r≠h) (nsr:s≠r) (nsh:s≠h) (ok:okT t N) (lp:p+t.sz<=100000) (ls:ss.length+t.nest<=1000) (q:∀H' rs' hs',FR r h H H'->H' r=some (.lst (rs++rs'))->Ims H' rs' ((pcT t p sc d).map rD)->H' h=some (.lst (hs++hs'))->Ims H' hs' ((pcT t p sc d).map hD')->Q .non H')
def Dv (f:Nat):Sp:=fun vs H Q _=>XFl f vs H Q
theorem A5 (l:List Ex) (k:Nat):hdX (l.drop k)=l[k]?.getD none:=by
 unfold hdX
 rw[List.headD_eq_head?_getD,List.head?_drop]
theorem zN:∀{ts:List Tr} {k:Nat} {t:Tr},ts[k]?=some t->t.nest<=TM.Internal.nests ts
 |[],_,_,h=>by cases h
 |t::ts,0,_,h=>by cases h;rw[TM.Internal.nests];lia
 |t::ts,k+ 1,u,h=>by have:=zN (ts:=ts) (k:=k) h;rw[TM.Internal.nests];lia
theorem Dy:∀{ts:List Tr} {k:Nat} {t:Tr},ts[k]?=some t->szs (ts.take k)+t.sz<=szs ts
 |[],_,_,h=>by cases h
 |t::ts,0,_,h=>by cases h;simp only[List.take_zero,szs];lia
 |t::ts,k+ 1,u,h=>by have:=Dy (ts:=ts) (k:=k) h;simp only[bI,szs];lia
theorem zO:∀{ts:List Tr} {xs:List Ex} {N:Str->Prop} {k:Nat} {t:Tr},sV ts xs N->ts[k]?=some t->∃M,okT t M
 |[],_,_,_,_,_,h=>by cases h
 |t::ts,xs,N,0,_,o,h=>by cases h;exact⟨_,o.1⟩
 |t::ts,xs,N,k+ 1,u,o,h=>zO (ts:=ts) (k:=k) o.2 h
theorem E7 {κ:Kn} {ps:List Nat} {sc:Sc} {e d v:Nat} (h:∀w,κ≠ .name w):hoC ⟨roK κ ps,sc,e,d,v⟩=none:=by
 cases κ with
 |name w=>exact absurd rfl (h w)
 |num=>rfl
 |row=>rfl
 |op=>rfl
 |rcd=>rfl
 |fn=>cases ps<;>rfl
 |tag=>cases ps<;>rfl
 |get=>cases ps<;>rfl
 |case=>cases ps<;>rfl
 |lt=>
  cases ps with
  |nil=>rfl
  |cons p ps=>cases ps<;>rfl
theorem A6 {H:Hp} {κ:Kn} {ks:List Tr} {a s r h:Addr} {ss hs:List V} {sc:Sc} {p e d v:Nat} {ps:List Nat} {N:Str->Prop} {R:TS} {D:pj} {σ:St} (i:Im H (.ref a) (ndD (.mk κ ks))) (ok:okK κ ks.length N) (es:H s=some (.lst ss)) (is:Ims H ss (sc.map enD)) (eh:H h=some (.lst (hs++[.non]))) (lh:hs.length=p)
  (h0:σ[0]?=some (some (.ref a))) (h1:σ[1]?=some (some (.ref s))) (h3:σ[3]?=some (some (.ref h))) (h4:σ[4]?=some (some (.int (p:Int)))) (q:∀H' x,FR r h H H'->(r≠h->H' r=H r)->H' h=some (.lst (hs++[x]))->Im H' x (hD' ⟨roK κ ps,sc,e,d,v⟩)->R D σ H'):
  yd (vQ (hdT 0 "name") (Aj (rf E6 [] E0 (jL (cV 1) (jL (tOp CQ (tOp CQ (cV 0) (tC (.int 1))) (tC (.int 0))) tP))) (Hu (cV 3) (cV 4) Et)) jD) R D σ H:=by
 obtain⟨a',b,c,xs,ys,e1,ea,eb,ib,ec,ic⟩:=uG i
 cases e1
 obtain⟨_,_,_,k4,_⟩:=G6 ok
 by_cases z:κ.s="name"
 ·obtain⟨w,rfl⟩:=k4 z
  obtain⟨x,rfl,ix⟩:=BM ib
  cases lH ix
  refine pG (s:="name") h0 ea fW ?_
  show onV σ[1]? _
  rw[h1]
  show onV σ[0]? _
  rw[h0]
  refine⟨_,ea,fc (eY (j:=1) rfl) ⟨_,eb,fc (eY (j:=0) rfl) ⟨s,w,ss,sc,rfl,es,is,fun x ix=>?_⟩⟩⟩
  show onV σ[3]? _
  rw[h3]
  show onV σ[4]? _
  rw[h4]
  have ej:ixN (hs++[V.non]).length (p:Int)=some p:=by
   unfold ixN
   rw[f6 (by lia),f6 (by rw[aO,aV];lia)]
   rfl
  refine⟨h,_,_,p,rfl,rfl,eh,ej,?_⟩
  have et:(hs++[V.non]).set p x=hs++[x]:=by rw[bJ _ _ (by lia),lh,cg];rfl
  rw[et]
  exact q _ x HI (fun n=>eX n) eS (ix.mono (ij eh).tk)
 ·refine pE (s:=κ.s) h0 ea (gC z) ?_
  refine q H .non FR.refl (fun _=>rfl) eh ?_
  unfold hD'
  rw[E7 (fun w u=>z (by rw[u];rfl))]
  exact .flat rfl
theorem zP:∀ts:List Tr,ts.length<=szs ts
 |[]=>b9 _
 |t::ts=>by have:=zP ts;have:=pH t;rw[az,szs];lia
theorem tj:∀{ts:List Tr} {k:Nat} {t:Tr},ts[k]?=some t->szs (ts.take (k+ 1))=szs (ts.take k)+t.sz
 |[],_,_,h=>by cases h
 |t::ts,0,_,h=>by cases h;simp only[List.take_zero,bI,szs];lia
 |t::ts,k+ 1,u,h=>by have:=tj (ts:=ts) (k:=k) h;rw[bI,szs,this,bI,szs];lia
theorem Dz (x:Ex) (p pp pw:Nat):(exL x p pp pw).length<=1:=by
 cases x with
 |none=>exact cb _
 |some z=>exact b9 _
theorem tm (T:Txt K mg) (f:Nat) (gD44:FO P w base (f+ 2) T.d44 (Dv f)):FO P w base (f+ 1+ 2) T.d44 (Dv (f+ 1)):=by
 have gD42:=uH (P:=P) (w:=w) (base:=base) T
 have gD41:=rG (P:=P) (w:=w) (base:=base) T
 have gD43:=vA (P:=P) (w:=w) (base:=base) T
 refine T.d44.F.ok iK (fun vs H Q E h=>?_) (fun cdv A0 outer s0 H vs Q E hr h=>?_)
 ·obtain⟨n,t,s,r,h,ss,rs,hs,sc,p,d,N,rfl,_⟩:=h
  rfl
 obtain⟨n,t,s,r,h,ss,rs,hs,sc,p,d,N,rfl,i,hf,es,is,er,eh,lr,lh,nrh,nsr,nsh,ok,lp,ls,q⟩:=h
 refine⟨_,(eU (pS (i:=4) iK.nd (fS fX rfl T.z_len jB (eR (cv 2) eT)))
  (eU (fA (ki (lO dO dP dQ f9 (PE.mono (cv 2)) (eR (PE.mono xZ) eT))))
  (eU (fA (ki (lO dO dP dQ f9 (PE.mono (cv 3)) (eR (PE.mono xZ) eT))))
  (eU (gG (fD jE (fh fm (cv 0) eV) fF)
   (eZ (rO (pF T.d42 gD42 (hr.mono (by lia)) (eR (cv 1) (eR (fh fm (fh fm (cv 0) eV) eV) eT))) (rN (cv 3) (cv 4) mz)))
   fJ)
  (eU (pS (i:=5) iK.nd (fH eT))
  (eU (jK PassesOwn.never rfl (AJ rfl T.z_enumerate (eR (fh fm (cv 0) eV) eT)) (tN rfl (jo (pN (i:=6) iK.nd) (jo (pN (i:=7) iK.nd) qa)))
   (eU (fA (ki (lO dO dP dQ f9 (PE.mono (cv 5)) (eR (PE.mono (fS fX rfl T.z_len jB (eR (cv 2) eT))) eT))))
   (eZ (fA (pF T.d44 gD44 (hr.mono (by lia)) (eR (cv 7) (eR (fq rV (cv 1) (pF T.d41 gD41 (hr.mono (by lia)) (eR (cv 0) (eR (cv 6) (eR (cv 5) eT))))) (eR (cv 2) (eR (cv 3) eT)))))))))
  (eZ (rO (pF T.d43 gD43 (hr.mono (by lia)) (eR (cv 0) (eR (cv 5) eT))) (rN (cv 2) (cv 4) mz))))))))),?_⟩
 have sl:=sizeLine_eq
 obtain⟨κ,ks⟩:=t
 have hsz:(Tr.mk κ ks).sz=1+szs ks:=by rw[Tr.sz]
 have hne:(Tr.mk κ ks).nest=1+TM.Internal.nests ks:=by rw[Tr.nest]
 rw[hne]at hf ls
 rw[hsz]at lp
 obtain⟨a,b,c,xs,ys,rfl,ea,eb,ib,ec,ic⟩:=uG i
 refine⟨r,_,rfl,.inl (SqL.of er),?_⟩
 dsimp only[fN]
 rw[lr]
 refine⟨⟨_,er⟩,rs,er,by lia,?_⟩
 have eh1:(L2.Internal.upd H r (.lst (rs++[.non]))) h=some (.lst hs):=by rw[eX nrh.symm];exact eh
 refine⟨⟨_,eh1⟩,hs,eh1,by lia,?_⟩
 have F1:FR r h H (L2.Internal.upd (L2.Internal.upd H r (.lst (rs++[.non]))) h (.lst (hs++[.non]))):=HH.trans HI
 have er1:(L2.Internal.upd (L2.Internal.upd H r (.lst (rs++[.non]))) h (.lst (hs++[.non]))) r=some (.lst (rs++[.non])):=by rw[eX nrh];exact eS
 have eh2:(L2.Internal.upd (L2.Internal.upd H r (.lst (rs++[.non]))) h (.lst (hs++[.non]))) h=some (.lst (hs++[.non])):=eS
 generalize(L2.Internal.upd (L2.Internal.upd H r (.lst (rs++[.non]))) h (.lst (hs++[.non])))=H1 at F1 er1 eh2
 have k1:=F1.tk er eh
 have es1:=F1 _ _ es nsr nsh
 have is1:=is.mono k1
 dsimp only
 refine A6 (r:=r) (ps:=gF ks (p+ 1)) (e:=p+(Tr.mk κ ks).sz) (d:=d) (v:=wT (.mk κ ks) (val sc)) (i.mono k1) ok.1 es1 is1 eh2 lh rfl rfl rfl rfl fun H2 x F2 fr2 eh3 ix=>?_
 have er2:H2 r=some (.lst (rs++[.non])):=(fr2 nrh).trans er1
 have k2:=F2.tk er1 eh2
 refine⟨mD,fun pl hpl=>?_⟩
 dsimp only[fN]
 have S3:=eW hpl (.lst [])
 have nr:pl≠r:=fun z=>by rw[z,er2]at hpl;cases hpl
 have nh:pl≠h:=fun z=>by rw[z,eh3]at hpl;cases hpl
 have F3:FR r h H (L2.Internal.upd H2 pl (.lst [])):=F1.trans (F2.trans (FR.same S3))
 have k3:=F3.tk er eh
 have ea3:=k3 _ _ ea
 have ec3:=k3 _ _ ec
 have hpl0:H pl=none:=by
  cases z:H pl with
  |none=>rfl
  |some o=>rw[(F1.trans F2) _ _ z nr nh]at hpl;cases hpl
 have ly:=ic.length
 rw[sZ]at ly
 have k03:TK H2 (L2.Internal.upd H2 pl (.lst [])):=fE.tk S3
 refine⟨_,ea3,fc (eY (j:=2) rfl) ⟨c,rfl,⟨_,SqT.of ec3⟩,zM (xs:=ys) (fun k σ H4=>X8 fun(o6 o7:Option V) (dn:List Pc) (ps:List Nat) (pp pw:Nat) (rr hh:List V)=>Y12 (σ=[some (.ref a),some (.ref s),some (.ref r),some (.ref h),some (.int (p:Int)),some (.ref pl),o6,o7]) (FR r h H H4) (dn++zE (ks.drop k) (p+ 1+dn.length) pp pw ((exN κ).drop k) sc d=zE ks (p+ 1) 0 0 (exN κ) sc d) (ps++gF (ks.drop k) (p+ 1+dn.length)=gF ks (p+ 1)) (ps.length=k) ((∀j,j+ 1=k->ps[j]?=some pp)) (dn.length=szs (ks.take k)) (H4 pl=some (.lst (ps.map nI))) (H4 r=some (.lst (rs++(.non::rr)))) (Ims H4 rr (dn.map rD)) (H4 h=some (.lst (hs++(x::hh)))) (Ims H4 (x::hh) (hD' ⟨roK κ (gF ks (p+ 1)),sc,p+(Tr.mk κ ks).sz,d,wT (.mk κ ks) (val sc)⟩::dn.map hD'))) ?_ ?_ ?_ ?_⟩⟩
 ·exact⟨none,none,[],[],0,0,[],[],rfl,F3,rfl,rfl,rfl,fun j z=>by lia,rfl,eS,S3 _ _ er2,.nil,S3 _ _ eh3,.cons (ix.mono k03) .nil⟩
 ·rintro k σ H4 _ ⟨o6,o7,dn,ps,pp,pw,rr,hh,_,F4,_⟩
  exact SqT.of (F4.tk er eh _ _ ec)
 ·rintro k v σ H4 t4 hv ⟨o6,o7,dn,ps,pp,pw,rr,hh,rfl,F4,hdn,hps,lps,hpp,ldn,epl,er4,ir4,eh4,ih4⟩ h4
  obtain⟨dv,e1,iv⟩:=jG ic hv
  obtain⟨t,ht,rfl⟩:=zH e1
  have hk:k<ks.length:=(ar.mp ht).1
  rw[uB ht]at hdn hps
  have S4:=eW h4 (.tup [.int (k:Int),v])
  refine⟨t4,_,rfl,SqT.of eS,rfl,_,_,rfl,_,_,rfl,rfl,?_⟩
  have epl4:=S4 _ _ epl
  have er5:=S4 _ _ er4
  have eh5:=S4 _ _ eh4
  have lrr:=ir4.length
  rw[aC]at lrr
  have ih5:=ih4.length
  rw[az,az,aC]at ih5
  have lsz:=Dy ht
  have tp:=pH t
  have elen:(rs++(V.non::rr)).length=p+ 1+dn.length:=by rw[aO,az];lia
  refine⟨⟨_,epl4⟩,r,_,rfl,.inl (SqL.of er5),_,epl4,by rw[aC];have:=zP ks;lia,?_⟩
  rw[elen]
  have F5:FR r h H (L2.Internal.upd (L2.Internal.upd H4 t4 (.tup [.int (k:Int),v])) pl (.lst (ps.map nI++[.int ((p+ 1+dn.length:Nat):Int)]))):=(F4.trans (FR.same S4)).put hpl0 _
  have epl5:(L2.Internal.upd (L2.Internal.upd H4 t4 (.tup [.int (k:Int),v])) pl (.lst (ps.map nI++[.int ((p+ 1+dn.length:Nat):Int)]))) pl=some (.lst ((ps++[p+ 1+dn.length]).map nI)):=by rw[eS,br];rfl
  have er6:(L2.Internal.upd (L2.Internal.upd H4 t4 (.tup [.int (k:Int),v])) pl (.lst (ps.map nI++[.int ((p+ 1+dn.length:Nat):Int)]))) r=some (.lst (rs++(V.non::rr))):=by rw[eX nr.symm];exact er5
  have eh6:(L2.Internal.upd (L2.Internal.upd H4 t4 (.tup [.int (k:Int),v])) pl (.lst (ps.map nI++[.int ((p+ 1+dn.length:Nat):Int)]))) h=some (.lst (hs++(x::hh))):=by rw[eX nh.symm];exact eh5
  have k45:TK H4 (L2.Internal.upd (L2.Internal.upd H4 t4 (.tup [.int (k:Int),v])) pl (.lst (ps.map nI++[.int ((p+ 1+dn.length:Nat):Int)]))):=fun b ws e=>by rw[eX (jw (S4 _ _ e) epl4 fun z=>nomatch z)];exact S4 _ _ e
  generalize(L2.Internal.upd (L2.Internal.upd H4 t4 (.tup [.int (k:Int),v])) pl (.lst (ps.map nI++[.int ((p+ 1+dn.length:Nat):Int)])))=H5 at F5 epl5 er6 eh6 k45
  have k5:=F5.tk er eh
  have hpk:(ps++[p+ 1+dn.length])[k]?=some (p+ 1+dn.length):=by rw[aI (by lia),lps,cg];rfl
  refine⟨.ref a,κ,ks,k,pl,ps++[p+ 1+dn.length],p+ 1+dn.length,pp,pw,N,rfl,i.mono k5,hk,ok.1,epl5,hpk,fun j hj=>by rw[aJ (by lia)];exact hpp j hj,fun H6 a6 xs6 S6 e6 n6 i6=>?_⟩
  have es6:=S6 _ _ (F5 _ _ es nsr nsh)
  have lx6:xs6.length<=1:=by rw[i6.length,aC];exact Dz _ _ _ _
  refine⟨s,a6,ss,xs6,rfl,rfl,es6,e6,by lia,fun s7 h7=>?_⟩
  have S7:=eW h7 (.lst (ss++xs6))
  have S57:=S6.trans S7
  obtain⟨M,okt⟩:=zO ok.2 ht
  have nt:=zN ht
  have er7:=S57 _ _ er6
  have eh7:=S57 _ _ eh6
  have k57:TK H H6:=fun b ws e=>S6 _ _ (k5 _ _ e)
  have k7:TK H (L2.Internal.upd H6 s7 (.lst (ss++xs6))):=fun b ws e=>S57 _ _ (k5 _ _ e)
  have is7:Ims (L2.Internal.upd H6 s7 (.lst (ss++xs6))) (ss++xs6) ((sc++exL ((exN κ)[k]?.getD none) (p+ 1+dn.length) pp pw).map enD):=by
   rw[br]
   exact(is.mono k7).app (i6.mono (fE.tk S7))
  have n1:s7≠r:=fun z=>by rw[z,S6 _ _ er6]at h7;cases h7
  have n2:s7≠h:=fun z=>by rw[z,S6 _ _ eh6]at h7;cases h7
  refine⟨v,t,s7,r,h,ss++xs6,_,_,sc++exL ((exN κ)[k]?.getD none) (p+ 1+dn.length) pp pw,p+ 1+dn.length,d,M,rfl,iv.mono k7,by lia,eS,is7,er7,eh7,elen,by rw[aO,az];lia,nrh,n1,n2,okt,by lia,by rw[aO];lia,fun H8 rs' hs' F8 er8 ir8 eh8 ih8=>?_⟩
  have e9:exS sc (hdX ((exN κ).drop k)) (p+ 1+dn.length) pp pw=sc++exL ((exN κ)[k]?.getD none) (p+ 1+dn.length) pp pw:=by rw[Du,A5]
  have k78:=F8.tk er7 eh7
  have k48:TK H4 H8:=fun b ws e=>k78 _ _ (S57 _ _ (k45 _ _ e))
  rw[zE,e9,<-bC,List.tail_drop]at hdn
  refine⟨_,_,dn++pcT t (p+ 1+dn.length) (sc++exL ((exN κ)[k]?.getD none) (p+ 1+dn.length) pp pw) d,ps++[p+ 1+dn.length],p+ 1+dn.length,wT t (upE (val sc) (hdX ((exN κ).drop k)) pw),rr++rs',hh++hs',rfl,F5.trans ((FR.same S57).trans F8),?_,?_,by rw[aO,lps];rfl,fun j hj=>by rw[show j=k by lia];exact hpk,by rw[aO,jT,tj ht,ldn],?_,?_,?_,?_,?_⟩
  ·rw[aO,jT,<-ck]
   exact hdn
  ·rw[aO,jT,<-ck,bC]
   exact hps
  ·exact F8 _ _ (S57 _ _ epl5) nr nh
  ·rw[er8,bC];rfl
  ·rw[br];exact(ir4.mono k48).app ir8
  ·rw[eh8,bC];rfl
  ·rw[br];exact(ih4.mono k48).app ih8
 ·rintro σ H4 ⟨o6,o7,dn,ps,pp,pw,rr,hh,rfl,F4,hdn,hps,lps,hpp,ldn,epl,er4,ir4,eh4,ih4⟩
  rw[ly,bB]at hdn hps
  rw[show zE [] (p+ 1+dn.length) pp pw ((exN κ).drop ks.length) sc d=[] by rw[zE],aD]at hdn
  rw[show gF [] (p+ 1+dn.length)=[]from rfl,aD]at hps
  subst hdn hps
  have k4:=F4.tk er eh
  refine⟨.ref a,κ,ks,pl,gF ks (p+ 1),N,rfl,i.mono k4,ok.1,epl,TM.Internal.offs_len _ _,fun H5 v S5 iv=>?_⟩
  have er5:=S5 _ _ er4
  have ej:ixN (rs++(V.non::rr)).length (p:Int)=some p:=by
   unfold ixN
   rw[f6 (by lia),f6 (by rw[aO,az];lia)]
   rfl
  refine⟨r,_,_,p,rfl,rfl,er5,ej,?_⟩
  have et:(rs++(V.non::rr)).set p v=rs++(v::rr):=by rw[bJ _ _ (by lia),lr,cg];rfl
  rw[et]
  have k6:TK H5 (L2.Internal.upd H5 r (.lst (rs++(v::rr)))):=(ij er5).tk
  refine q _ (v::rr) (x::hh) (F4.trans ((FR.same S5).trans HH)) eS ?_ (by rw[eX nrh.symm];exact S5 _ _ eh4) ?_
  ·rw[pcT]
   exact .cons (iv.mono k6) ((ir4.mono (fE.tk S5)).mono k6)
  ·rw[pcT]
   exact(ih4.mono (fE.tk S5)).mono k6
theorem pK (T:Txt K mg):∀f:Nat,FO P w base (f+ 2) T.d44 (Dv f)
 |0=>by
  refine T.d44.F.ok iK (fun vs H Q E h=>?_) (fun cdv A0 outer s0 H vs Q E hr h=>?_)
  ·obtain⟨n,t,s,r,h,ss,rs,hs,sc,p,d,N,rfl,_⟩:=h
   rfl
  ·obtain⟨n,⟨κ,ks⟩,s,r,h,ss,rs,hs,sc,p,d,N,rfl,i,hf,_⟩:=h
   rw[Tr.nest]at hf
   lia
 |f+ 1=>tm T f (pK T f)
open TM.Internal (Kn Tr gF szs)
def wdE (wl:List Str) (d:Nat):Str:=wl.getD (3+d) ""
structure Bt (H H':Hp) (wl:List Str) (ts:List Tr) (b n r w h:Addr):Prop where
 sm:fE H H'
 eb:H' b=some (.lst [.ref n,.ref r,.ref w,.ref h])
 en:∃ns:List Str,H' n=some (.lst (ns.map V.str))/\ns.length=ts.length
 er:H' r=some (.lst ((gF ts 0).map nI))
 ew:∃xs,H' w=some (.lst xs)/\Ims H' xs ((pcD (wdE wl) ts 0 0 []).map rD)
 eh:∃xs,H' h=some (.lst xs)/\Ims H' xs ((pcD (wdE wl) ts 0 0 []).map hD')
 nw:∀a∈[b,n,r,w,h],H a=none
inductive XBu (vs:List V) (H:Hp) (Q:VK):Prop
 |mk (wa l:Addr) (wl:List Str) (xs:List V) (ts:List Tr) (e:vs=[.ref wa,.ref l]) (hw:H wa=some (.lst (wl.map V.str))) (lw:wl.length=16) (hl:H l=some (.lst xs)) (ix:Ims H xs (ts.map ndD)) (lt:ts.length<=12) (ok:∀t∈ts,(∃N,okT t N)/\t.nest<=40) (sz:szs ts<=10000) (q:∀H' b n r w h,Bt H H' wl ts b n r w h->Q (.ref b) H')
def G8:Sp:=fun vs H Q _=>XBu vs H Q
theorem A7 {H:Hp} {t1 t2:Addr} {w:Str} {d:Nat} {H1:Hp} (h1:H t1=none) (h2:(L2.Internal.upd H t1 (.tup [.str "def",.int (d:Int)])) t2=none):Im (L2.Internal.upd (L2.Internal.upd H t1 (.tup [.str "def",.int (d:Int)])) t2 (.tup [.str w,.ref t1])) (.ref t2) (.tup [sD w,hmD ("def",(d:Int))]):=ig h2 (.cons (.flat rfl) (.cons (ig h1 (.cons (.flat rfl) (.cons (.flat rfl) .nil))) .nil))
theorem tq (T:Txt K mg):FO P w base 43 T.d45 G8:=by
 have gD44:=pK (P:=P) (w:=w) (base:=base) T 40
 refine T.d45.F.ok gx (fun vs H Q E h=>?_) (fun cdv A0 outer s0 H vs Q E hr h=>?_)
 ·obtain⟨wa,l,wl,xs,ts,rfl,_⟩:=h
  rfl
 obtain⟨wa,l,wl,xs,ts,rfl,hw,lw,hl,ix,lt,ok,sz,q⟩:=h
 refine⟨_,(eU (pS (i:=2) gx.nd (fH eT))
  (eU (pS (i:=3) gx.nd (fH eT))
  (eU (pS (i:=4) gx.nd (fH eT))
  (eU (pS (i:=5) gx.nd (fH eT))
  (eU (pS (i:=6) gx.nd (fH eT))
  (eU (jK PassesOwn.never rfl (yN rfl T.z_enumerate (eR (cv 1) eT)) (tN rfl (jo (pN (i:=7) gx.nd) (jo (pN (i:=8) gx.nd) qa)))
   (eU (pS (i:=6) gx.nd (fq rV (cv 6) (fH (eR (fC (eR (fh fg (cv 0) (fq gk eV (cv 7))) (eR (fC (eR fF (eR (cv 7) eT))) eT))) eT))))
   (eU (fA (ki (lO dO dP dQ f9 (PE.mono (cv 2)) (eR (PE.mono (fh fg (cv 0) (fq gk eV (cv 7)))) eT))))
   (eU (fA (ki (lO dO dP dQ f9 (PE.mono (cv 3)) (eR (PE.mono (fS fX rfl T.z_len jB (eR (cv 4) eT))) eT))))
   (eZ (fA (pF T.d44 gD44 (hr.mono (by lia)) (eR (cv 8) (eR (cv 6) (eR (cv 4) (eR (cv 5) eT)))))))))))
  (eZ (fz (fH (eR (cv 2) (eR (cv 3) (eR (cv 4) (eR (cv 5) eT))))))))))))),?_⟩
 have sl:=sizeLine_eq
 refine⟨mD,fun n hn=>?_⟩
 dsimp only[fN]
 refine⟨mD,fun r hr'=>?_⟩
 dsimp only[fN]
 refine⟨mD,fun rw' hrw=>?_⟩
 dsimp only[fN]
 refine⟨mD,fun hm hhm=>?_⟩
 dsimp only[fN]
 refine⟨mD,fun sa hsa=>?_⟩
 dsimp only[fN]
 have S1:=eW hn (.lst [])
 have S2:=eW hr' (.lst [])
 have S3:=eW hrw (.lst [])
 have S4:=eW hhm (.lst [])
 have S5:=eW hsa (.lst [])
 have en0:=S5 _ _ (S4 _ _ (S3 _ _ (S2 _ _ (show(L2.Internal.upd H n (.lst [])) n=some (.lst [])from eS))))
 have er0:=S5 _ _ (S4 _ _ (S3 _ _ (show(L2.Internal.upd (L2.Internal.upd H n (.lst [])) r (.lst [])) r=some (.lst [])from eS)))
 have ew0:=S5 _ _ (S4 _ _ (show(L2.Internal.upd (L2.Internal.upd (L2.Internal.upd H n (.lst [])) r (.lst [])) rw' (.lst [])) rw'=some (.lst [])from eS))
 have eh0:=S5 _ _ (show(L2.Internal.upd (L2.Internal.upd (L2.Internal.upd (L2.Internal.upd H n (.lst [])) r (.lst [])) rw' (.lst [])) hm (.lst [])) hm=some (.lst [])from eS)
 have es0:(L2.Internal.upd (L2.Internal.upd (L2.Internal.upd (L2.Internal.upd (L2.Internal.upd H n (.lst [])) r (.lst [])) rw' (.lst [])) hm (.lst [])) sa (.lst [])) sa=some (.lst []):=eS
 have S0:=S1.trans (S2.trans (S3.trans (S4.trans S5)))
 have n0:∀a∈[n,r,rw',hm],H a=none:=fun a ha=>by
  simp only[ak,bh,or_false]at ha
  have nn:∀{H2:Hp} {a:Addr},fE H H2->H2 a=none->H a=none:=fun{H2 a} S h=>by cases z:H a with|none=>rfl|some u=>rw[S _ _ z]at h;cases h
  rcases ha with rfl|rfl|rfl|rfl
  ·exact hn
  ·exact nn S1 hr'
  ·exact nn (S1.trans S2) hrw
  ·exact nn (S1.trans (S2.trans S3)) hhm
 have d1:r≠n:=fun z=>by rw[z,show(L2.Internal.upd H n (.lst [])) n=some (.lst [])from eS]at hr';cases hr'
 have d2:rw'≠n:=fun z=>by rw[z,S2 _ _ (show(L2.Internal.upd H n (.lst [])) n=some (.lst [])from eS)]at hrw;cases hrw
 have d3:rw'≠r:=fun z=>by rw[z,show(L2.Internal.upd (L2.Internal.upd H n (.lst [])) r (.lst [])) r=some (.lst [])from eS]at hrw;cases hrw
 have d4:hm≠n:=fun z=>by rw[z,S3 _ _ (S2 _ _ (show(L2.Internal.upd H n (.lst [])) n=some (.lst [])from eS))]at hhm;cases hhm
 have d5:hm≠r:=fun z=>by rw[z,S3 _ _ (show(L2.Internal.upd (L2.Internal.upd H n (.lst [])) r (.lst [])) r=some (.lst [])from eS)]at hhm;cases hhm
 have d6:hm≠rw':=fun z=>by rw[z,show(L2.Internal.upd (L2.Internal.upd (L2.Internal.upd H n (.lst [])) r (.lst [])) rw' (.lst [])) rw'=some (.lst [])from eS]at hhm;cases hhm
 have ds:sa≠n/\sa≠r/\sa≠rw'/\sa≠hm:=by
  refine⟨fun z=>?_,fun z=>?_,fun z=>?_,fun z=>?_⟩
  ·rw[z,S4 _ _ (S3 _ _ (S2 _ _ (show(L2.Internal.upd H n (.lst [])) n=some (.lst [])from eS)))]at hsa;cases hsa
  ·rw[z,S4 _ _ (S3 _ _ (show(L2.Internal.upd (L2.Internal.upd H n (.lst [])) r (.lst [])) r=some (.lst [])from eS))]at hsa;cases hsa
  ·rw[z,S4 _ _ (show(L2.Internal.upd (L2.Internal.upd (L2.Internal.upd H n (.lst [])) r (.lst [])) rw' (.lst [])) rw'=some (.lst [])from eS)]at hsa;cases hsa
  ·rw[z,show(L2.Internal.upd (L2.Internal.upd (L2.Internal.upd (L2.Internal.upd H n (.lst [])) r (.lst [])) rw' (.lst [])) hm (.lst [])) hm=some (.lst [])from eS]at hsa;cases hsa
 clear hn hr' hrw hhm hsa S1 S2 S3 S4 S5
 generalize(L2.Internal.upd (L2.Internal.upd (L2.Internal.upd (L2.Internal.upd (L2.Internal.upd H n (.lst [])) r (.lst [])) rw' (.lst [])) hm (.lst [])) sa (.lst []))=H0 at*
 have lx:=ix.length
 rw[aC]at lx
 refine⟨l,rfl,⟨_,SqL.of (S0 _ _ hl)⟩,wq (xs:=xs) (fun k σ H4=>X10 fun(o7 o8:Option V) (sa:Addr) (ss:List V) (sc:Sc) (dn:List Pc) (ps:List Nat) (ns:List Str) (rr hh:List V)=>Y17 (σ=[some (.ref wa),some (.ref l),some (.ref n),some (.ref r),some (.ref rw'),some (.ref hm),some (.ref sa),o7,o8]) (fE H H4) (dn++pcD (wdE wl) (ts.drop k) k dn.length sc=pcD (wdE wl) ts 0 0 []) (ps++gF (ts.drop k) dn.length=gF ts 0) (ps.length=k) (dn.length=szs (ts.take k)) (H4 sa=some (.lst ss)) (Ims H4 ss (sc.map enD)) (ss.length=k) ((sa≠n/\sa≠r/\sa≠rw'/\sa≠hm)) (H4 n=some (.lst (ns.map V.str))) (ns.length=k) (H4 r=some (.lst (ps.map nI))) (H4 rw'=some (.lst rr)) (Ims H4 rr (dn.map rD)) (H4 hm=some (.lst hh)) (Ims H4 hh (dn.map hD'))) ?_ ?_ ?_ ?_⟩
 ·exact⟨none,none,sa,[],[],[],[],[],[],[],rfl,S0,rfl,rfl,rfl,rfl,es0,.nil,rfl,ds,en0,rfl,er0,ew0,.nil,eh0,.nil⟩
 ·rintro k σ H4 _ ⟨o7,o8,sa,ss,sc,dn,ps,ns,rr,hh,_,S,_⟩
  exact SqL.of (S _ _ hl)
 ·rintro k v σ H4 t4 hv ⟨o7,o8,sa,ss,sc,dn,ps,ns,rr,hh,rfl,S,hdn,hps,lps,ldn,es,is,lss,⟨m1,m2,m3,m4⟩,en,lns,er,ew,iw,eh,ih⟩ h4
  obtain⟨dv,e1,iv⟩:=jG ix hv
  rw[aK]at e1
  obtain⟨t,ht,rfl⟩:=cF.mp e1
  have hk:k<ts.length:=(ar.mp ht).1
  rw[uB ht]at hdn hps
  obtain⟨⟨N,okt⟩,nt⟩:=ok t (aN ht)
  have lsz:=Dy ht
  have T4:=eW h4 (.tup [.int (k:Int),v])
  refine⟨t4,_,rfl,SqT.of eS,rfl,_,_,rfl,_,_,rfl,rfl,?_⟩
  have ek:(wl.map V.str)[3+k]?=some (.str (wdE wl k)):=by
   rw[aK,bb (show 3+k<wl.length by lia)]
   show some (V.str _)=_
   unfold wdE
   rw[bo,bb (show 3+k<wl.length by lia)]
   rfl
  have c3:(3:Int)+(k:Int)=((3+k:Nat):Int):=by lia
  have ea:atI (wl.map V.str) ((3:Int)+(k:Int))=some (.str (wdE wl k)):=by rw[c3];exact eY ek
  have S4:=S.trans T4
  have hw4:=S4 _ _ hw
  refine⟨_,hw4,fc ea ⟨lI,fun t1 h1=>⟨lI,fun t2 h2=>⟨mE,fun l3 h3=>?_⟩⟩⟩⟩
  have T1:=eW h1 (.tup [.str "def",.int (k:Int)])
  have T2:=eW h2 (.tup [.str (wdE wl k),.ref t1])
  have T3:=eW h3 (.lst [.ref t2])
  have T13:=T4.trans (T1.trans (T2.trans T3))
  refine⟨sa,l3,ss,_,rfl,rfl,T13 _ _ es,eS,by rw[lss];show k+ 1<=_;lia,fun s5 h5=>?_⟩
  dsimp only[fN]
  have T5:=eW h5 (.lst (ss++[.ref t2]))
  have T45:=T13.trans T5
  have is5:Ims (L2.Internal.upd (L2.Internal.upd (L2.Internal.upd (L2.Internal.upd (L2.Internal.upd H4 t4 (.tup [.int (k:Int),v])) t1 (.tup [.str "def",.int (k:Int)])) t2 (.tup [.str (wdE wl k),.ref t1])) l3 (.lst [.ref t2])) s5 (.lst (ss++[.ref t2]))) (ss++[.ref t2]) ((sc++[dfE (wdE wl) k 0]).map enD):=by
   rw[br]
   exact(is.mono (fE.tk T45)).app (.cons ((A7 (H1:=H4) h1 h2).mono (fE.tk (T3.trans T5))) .nil)
  have es5:(L2.Internal.upd (L2.Internal.upd (L2.Internal.upd (L2.Internal.upd (L2.Internal.upd H4 t4 (.tup [.int (k:Int),v])) t1 (.tup [.str "def",.int (k:Int)])) t2 (.tup [.str (wdE wl k),.ref t1])) l3 (.lst [.ref t2])) s5 (.lst (ss++[.ref t2]))) s5=some (.lst (ss++[.ref t2])):=eS
  have nx:∀{a:Addr} {o:HO},H4 a=some o->s5≠a:=fun e z=>by rw[<-z]at e;rw[T13 _ _ e]at h5;cases h5
  have m1:=nx en
  have m2:=nx er
  have m3:=nx ew
  have m4:=nx eh
  generalize(L2.Internal.upd (L2.Internal.upd (L2.Internal.upd (L2.Internal.upd (L2.Internal.upd H4 t4 (.tup [.int (k:Int),v])) t1 (.tup [.str "def",.int (k:Int)])) t2 (.tup [.str (wdE wl k),.ref t1])) l3 (.lst [.ref t2])) s5 (.lst (ss++[.ref t2])))=H5 at T45 is5 es5
  have en5:=T45 _ _ en
  refine⟨⟨_,en5⟩,_,T45 _ _ (S _ _ hw),fc ea ⟨_,en5,by rw[aC];lia,?_⟩⟩
  have k6:TK H5 (L2.Internal.upd H5 n (.lst (ns.map V.str++[.str (wdE wl k)]))):=(ij en5).tk
  have er6:(L2.Internal.upd H5 n (.lst (ns.map V.str++[.str (wdE wl k)]))) r=some (.lst (ps.map nI)):=by rw[eX d1];exact T45 _ _ er
  have ew6:(L2.Internal.upd H5 n (.lst (ns.map V.str++[.str (wdE wl k)]))) rw'=some (.lst rr):=by rw[eX d2];exact T45 _ _ ew
  refine⟨⟨_,er6⟩,rw',_,rfl,.inl (SqL.of ew6),_,er6,by rw[aC];lia,?_⟩
  have lrr:=iw.length
  have lhh:=ih.length
  rw[aC]at lrr lhh
  rw[lrr]
  have k7:TK H5 (L2.Internal.upd (L2.Internal.upd H5 n (.lst (ns.map V.str++[.str (wdE wl k)]))) r (.lst (ps.map nI++[.int (dn.length:Int)]))):=fun a ws e=>(ij er6).tk _ _ (k6 _ _ e)
  have es7:(L2.Internal.upd (L2.Internal.upd H5 n (.lst (ns.map V.str++[.str (wdE wl k)]))) r (.lst (ps.map nI++[.int (dn.length:Int)]))) s5=some (.lst (ss++[.ref t2])):=by rw[eX m2,eX m1];exact es5
  have ew7:(L2.Internal.upd (L2.Internal.upd H5 n (.lst (ns.map V.str++[.str (wdE wl k)]))) r (.lst (ps.map nI++[.int (dn.length:Int)]))) rw'=some (.lst rr):=by rw[eX d3];exact ew6
  have eh7:(L2.Internal.upd (L2.Internal.upd H5 n (.lst (ns.map V.str++[.str (wdE wl k)]))) r (.lst (ps.map nI++[.int (dn.length:Int)]))) hm=some (.lst hh):=by rw[eX d5,eX d4];exact T45 _ _ eh
  have en7:(L2.Internal.upd (L2.Internal.upd H5 n (.lst (ns.map V.str++[.str (wdE wl k)]))) r (.lst (ps.map nI++[.int (dn.length:Int)]))) n=some (.lst ((ns++[wdE wl k]).map V.str)):=by rw[eX d1.symm,eS,br];rfl
  have er7:(L2.Internal.upd (L2.Internal.upd H5 n (.lst (ns.map V.str++[.str (wdE wl k)]))) r (.lst (ps.map nI++[.int (dn.length:Int)]))) r=some (.lst ((ps++[dn.length]).map nI)):=by rw[eS,br];rfl
  have S7:fE H (L2.Internal.upd (L2.Internal.upd H5 n (.lst (ns.map V.str++[.str (wdE wl k)]))) r (.lst (ps.map nI++[.int (dn.length:Int)]))):=fun a u e=>by
   rw[eX (fe e (n0 r (by simp))),eX (fe e (n0 n (by simp)))]
   exact T45 _ _ (S _ _ e)
  generalize(L2.Internal.upd (L2.Internal.upd H5 n (.lst (ns.map V.str++[.str (wdE wl k)]))) r (.lst (ps.map nI++[.int (dn.length:Int)])))=H7 at k7 es7 ew7 eh7 en7 er7 S7
  have k47:TK H4 H7:=fun a ws e=>k7 _ _ (T45 _ _ e)
  refine⟨v,t,s5,rw',hm,ss++[.ref t2],rr,hh,sc++[dfE (wdE wl) k 0],dn.length,k,N,rfl,iv.mono (fE.tk S7),nt,es7,is5.mono k7,ew7,eh7,lrr,lhh,d6.symm,m3,m4,okt,by lia,by rw[aO,lss];show k+ 1+_<=_;lia,fun H8 rs' hs' F8 er8 ir8 eh8 ih8=>?_⟩
  have k78:=F8.tk ew7 eh7
  have k48:TK H4 H8:=fun a ws e=>k78 _ _ (k47 _ _ e)
  have k58:TK H5 H8:=fun a ws e=>k78 _ _ (k7 _ _ e)
  rw[pcD,<-bC]at hdn
  refine⟨_,_,s5,ss++[.ref t2],sc++[dfE (wdE wl) k (wT t (val (sc++[dfE (wdE wl) k 0])))],dn++pcT t dn.length (sc++[dfE (wdE wl) k 0]) k,ps++[dn.length],ns++[wdE wl k],rr++rs',hh++hs',rfl,fun a u e=>F8 _ _ (S7 _ _ e) (fe e (n0 rw' (by simp))) (fe e (n0 hm (by simp))),?_,?_,by rw[aO,lps];rfl,by rw[aO,jT,tj ht,ldn],F8 _ _ es7 m3 m4,?_,by rw[aO,lss];rfl,⟨m1,m2,m3,m4⟩,F8 _ _ en7 d2.symm d4.symm,by rw[aO,lns];rfl,F8 _ _ er7 d3.symm d5.symm,er8,?_,eh8,?_⟩
  ·rw[aO,jT];exact hdn
  ·rw[aO,jT,bC];exact hps
  ·have e0:(sc++[dfE (wdE wl) k (wT t (val (sc++[dfE (wdE wl) k 0])))]).map enD=(sc++[dfE (wdE wl) k 0]).map enD:=by rw[br,br];rfl
   rw[e0]
   exact is5.mono k58
  ·rw[br];exact(iw.mono k48).app ir8
  ·rw[br];exact(ih.mono k48).app ih8
 ·rintro σ H4 ⟨o7,o8,sa,ss,sc,dn,ps,ns,rr,hh,rfl,S,hdn,hps,lps,ldn,es,is,lss,ms,en,lns,er,ew,iw,eh,ih⟩
  rw[lx,bB]at hdn hps
  rw[show pcD (wdE wl) [] ts.length dn.length sc=[]from rfl,aD]at hdn
  rw[show gF [] dn.length=[]from rfl,aD]at hps
  subst hdn hps
  refine⟨Ai,fun b hb=>?_⟩
  have Tb:=eW hb (.lst [.ref n,.ref r,.ref rw',.ref hm])
  have kb:=fE.tk Tb
  refine q _ b n r rw' hm ⟨S.trans Tb,eS,⟨ns,Tb _ _ en,lns.trans lx⟩,Tb _ _ er,⟨rr,Tb _ _ ew,iw.mono kb⟩,⟨hh,Tb _ _ eh,ih.mono kb⟩,fun a ha=>?_⟩
  rcases ak.mp ha with rfl|ha
  ·cases z:H a with
   |none=>rfl
   |some u=>rw[S _ _ z]at hb;cases hb
  ·exact n0 a ha
def uI:Sp:=fun vs H Q _=>∃c m:Int,vs=[.int c,.int m]/\0<=m/\m<=100/\∀x:Str,x.length<=100->Q (.str x) H
theorem sg36:("abcdefghijklmnopqrstuvwxyz0123456789":Str).cps.toList.length=36:=fW
theorem mr (c:Nat):(⟨#[c]⟩:Str).length=1:=rfl
theorem uJ (T:Txt K mg):FO P w base 1 T.d26 uI:=by
 refine T.d26.F.rd gQ fun cdv A outer s H vs Q E hr h=>?_
 obtain⟨c,m,rfl,h0,h1,q⟩:=h
 refine⟨_,(eU (pS (i:=2) gQ.nd fF)
  (eU (pS (i:=3) gQ.nd fF)
  (eU (jK PassesOwn.never rfl (gY rfl T.z_range (eR (pv 1) eT)) (pN (i:=4) gQ.nd)
   (eU (pS (i:=5) gQ.nd eV)
   (eU (gG (oz wZ (pv 4) eV)
    (eZ (pS (i:=5) gQ.nd eV))
    fJ)
   (eU (pS (i:=3) gQ.nd (fq mx (pv 3) (fh yC (pv 2) (fq qb (pv 0) (pv 5)))))
   (eZ (pS (i:=0) gQ.nd (fq mL (pv 0) eV)))))))
  (eZ (fz (pv 3)))))),?_⟩
 have sl:=sizeLine_eq
 refine⟨_,rfl,_,rfl,by lia,by lia,lM (fun i σ H2=>∃(y:Str) (c:Int) (o o2:Option V),σ=[some (.int c),some (.int m),some (.str "abcdefghijklmnopqrstuvwxyz0123456789"),some (.str y),o,o2]/\H2=H/\y.length<=i)
  ⟨"",c,none,none,rfl,rfl,b9 _⟩ ?_ ?_⟩
 ·rintro i σ H2 hi ⟨y,c,o,o2,rfl,rfl,hy⟩
  have step:∀n:Int,(n=26\/n=36)->∃ch:Nat,atI ("abcdefghijklmnopqrstuvwxyz0123456789":Str).cps.toList (c%n)=some ch:=fun n hn=>by
   have hp:(0:Int)<n:=by lia
   have a0:=eC c (Int.ne_of_gt hp)
   have a1:=eE c hp
   obtain⟨ch,e,_⟩:=BE ("abcdefghijklmnopqrstuvwxyz0123456789":Str).cps.toList (c%n) a0 (by rw[sg36];lia)
   exact⟨ch,e⟩
  refine⟨_,rfl,rfl,_,rfl,HB (fun _=>?_) (fun _=>?_)⟩
  ·obtain⟨ch,e⟩:=step 26 (.inl rfl)
   refine⟨_,rfl,_,rfl,_,rfl,_,rfl,_,_,rfl,rfl,(by show(0:Int)<26;decide),_,_,_,rfl,rfl,sz fW,e,_,_,rfl,rfl,by rw[mr];lia,?_⟩
   refine⟨_,rfl,_,_,rfl,rfl,⟨by decide,by decide⟩,?_⟩
   exact⟨_,_,_,_,rfl,rfl,by rw[Str.length_append,mr];lia⟩
  ·obtain⟨ch,e⟩:=step 36 (.inr rfl)
   refine⟨_,rfl,_,rfl,_,rfl,_,rfl,_,_,rfl,rfl,(by show(0:Int)<36;decide),_,_,_,rfl,rfl,sz fW,e,_,_,rfl,rfl,by rw[mr];lia,?_⟩
   refine⟨_,rfl,_,_,rfl,rfl,⟨by decide,by decide⟩,?_⟩
   exact⟨_,_,_,_,rfl,rfl,by rw[Str.length_append,mr];lia⟩
 ·rintro σ H2 ⟨y,c,o,o2,rfl,rfl,hy⟩
  exact⟨_,rfl,q y (by lia)⟩
def sgn (k:Nat):Nat:=("abcdefghijklmnop":Str).cps.toList.getD k 0
def w1 (A B:Str) (k:Nat):Str:=A++⟨#[sgn k]⟩++B
def t7 (z:Int):Nat:=(atI ("t7":Str).cps.toList z).getD 0
def part (j:Nat):Int:=([8,4,2,1]:List Int).getD j 1
def bit (k j:Nat):Nat:=t7 ((0+(k:Int))/part j%2)
def w2 (x:Str) (k:Nat):Nat->Str
 |0=>x
 |j+ 1=>w2 x k j++⟨#[bit k j]⟩
theorem DA {l:List Nat} {i:Nat} (h:i<l.length):atI l (0+(i:Int))=some (l.getD i 0):=by
 rw[eG,bo,bb h]
 exact eY (bb h)
theorem wC (a b:Str):(a++b).cps.toList=a.cps.toList++b.cps.toList:=Array.toList_append
theorem uK {f:Nat->Str} (h:∀a,a<16->∀b,b<16->a≠b->f a≠f b):((aa 16).map f).Nodup:=by
 rw[List.Nodup,List.pairwise_map]
 refine List.Pairwise.imp_of_mem (fun{a b} ha hb hlt=>?_) List.pairwise_lt_range
 exact h a (af.mp ha) b (af.mp hb) (bY hlt)
theorem E8:∀a,a<16->∀b,b<16->a≠b->sgn a≠sgn b:=fW
theorem E9:∀a,a<16->∀b,b<16->a≠b->[bit a 0,bit a 1,bit a 2,bit a 3]≠[bit b 0,bit b 1,bit b 2,bit b 3]:=fW
theorem A8 (A B:Str):((aa 16).map (w1 A B)).Nodup:=uK fun a ha b hb hn e=>by
 have h:=congrArg (fun z:Str=>z.cps.toList) e
 simp only[w1,wC]at h
 have h2:=bK (List.append_cancel_right h)
 injection h2 with h3 _
 exact E8 a ha b hb hn h3
theorem A9 (x:Str):((aa 16).map fun k=>w2 x k 4).Nodup:=uK fun a ha b hb hn e=>by
 have h:=congrArg (fun z:Str=>z.cps.toList) e
 simp only[w2,wC,bC]at h
 have h2:=bK h
 exact E9 a ha b hb hn h2
theorem sq {f:Nat->Str} (i:Nat):(aa (i+ 1)).map f=(aa i).map f++[f i]:=by
 rw[bL,br]
 rfl
def Wd (H:Hp) (l:Addr):Prop:=∃ws:List Str,H l=some (.lst (ws.map V.str))/\ws.length=16/\ws.Nodup
def tu:Sp:=fun vs H Q _=>∃c:Int,vs=[.int c]/\∀l H',fE H H'->H l=none->Wd H' l->Q (.ref l) H'
theorem tD (T:Txt K mg):FO P w base 2 T.d27 tu:=by
 have gD26:=uJ (P:=P) (w:=w) (base:=base) T
 refine T.d27.F.rd fY fun cdv A outer s H vs Q E hr h=>?_
 obtain⟨c,rfl,q⟩:=h
 refine⟨_,(eU (pS (i:=0) fY.nd (fq qb (pv 0) (fq Bm eV eV)))
  (eU (pS (i:=1) fY.nd (fq vT (fq qb (pv 0) eV) eV))
  (eU (pS (i:=2) fY.nd (fH eT))
  (eU (gG (oz wZ (fq qb (fq mL (pv 0) eV) eV) eV)
   (eU (pS (i:=3) fY.nd (pF T.d26 gD26 hr.m (eR (fq mL (pv 0) eV) (eR (fq vT (pv 1) eV) eT))))
   (eU (pS (i:=4) fY.nd (fq qb (fq mL (pv 0) eV) (fq vT (pv 1) eV)))
   (eU (jK PassesOwn.never rfl (gY rfl T.z_range (eR eV eT)) (pN (i:=5) fY.nd)
    (eZ (fA (lO dO dP dQ f9 (pv 2) (eR (fq mx (fq mx (kH Bv (pv 3) oA (lN (pv 4))) (fh yC fF (pv 5))) (kH Bv (pv 3) (lN (pv 4)) oA)) eT)))))
   (eZ (fz (pv 2))))))
   fJ)
  (eU (pS (i:=3) fY.nd (pF T.d26 gD26 hr.m (eR (fq mL (pv 0) eV) (eR (pv 1) eT))))
  (eU (jK PassesOwn.never rfl (gY rfl T.z_range (eR eV eT)) (pN (i:=5) fY.nd)
   (eU (pS (i:=6) fY.nd (pv 3))
   (eU (jK PassesOwn.never rfl (gX (fH (eR eV (eR eV (eR eV (eR eV eT)))))) (pN (i:=7) fY.nd)
    (eZ (pS (i:=6) fY.nd (fq mx (pv 6) (fh yC fF (fq qb (fq mL (pv 5) (pv 7)) eV))))))
   (eZ (fA (lO dO dP dQ f9 (pv 2) (eR (pv 6) eT)))))))
  (eZ (fz (pv 2))))))))),?_⟩
 have sl:=sizeLine_eq
 refine⟨_,rfl,_,_,rfl,rfl,⟨by decide,by decide,by decide⟩,_,_,rfl,rfl,(by show(0:Int)<10^(24:Int).toNat;decide+kernel),?_⟩
 dsimp only
 generalize c%10^(24:Int).toNat=c
 refine⟨_,rfl,_,_,rfl,rfl,(by show(0:Int)<8;decide),_,_,rfl,rfl,?_⟩
 have s0:=eC c (show(8:Int)≠0 by decide)
 have s1:=eE c (show(0:Int)<8 by decide)
 refine⟨mD,fun l hl=>?_⟩
 have fin:∀(f:Nat->Str) (H2:Hp),fE H H2->H2 l=some (.lst (((aa 16).map f).map V.str))->((aa 16).map f).Nodup->Q (.ref l) H2:=fun f H2 S e hw=>q l H2 S hl ⟨_,e,by rw[aC,bM],hw⟩
 have S1:fE H (upd H l (.lst [])):=eW hl _
 refine⟨_,rfl,_,_,rfl,rfl,⟨by decide,by decide⟩,_,_,rfl,rfl,(by show(0:Int)<2;decide),rfl,_,rfl,HB (fun _=>?_) (fun _=>?_)⟩
 ·refine⟨_,rfl,_,_,rfl,rfl,⟨by decide,by decide⟩,_,rfl,_,_,rfl,rfl,_,_,rfl,by lia,by lia,fun x hx=>?_⟩
  refine⟨_,rfl,_,_,rfl,rfl,⟨by decide,by decide⟩,_,rfl,_,_,rfl,rfl,_,_,rfl,rfl,(by show(0:Int)<c%8+ 1+ 4;lia),?_⟩
  dsimp only
  generalize c/16%(c%8+ 1+ 4)=at_
  refine⟨16,rfl,by decide,by decide,lM (fun i σ H2=>∃(o:Option V),σ=[some (.int c),some (.int (c%8+ 1)),some (.ref l),some (.str x),some (.int at_),o,none,none]/\fE H H2/\H2 l=some (.lst (((aa i).map (w1 (Txt.slice x none (some at_)) (Txt.slice x (some at_) none))).map V.str)))
   ⟨none,rfl,S1,eS⟩ ?_ ?_⟩
  ·rintro i σ H2 hi ⟨o,rfl,S,e⟩
   have hi16:i<16:=hi
   have e1:=DA (l:=("abcdefghijklmnop":Str).cps.toList) (i:=i) (by rw[show("abcdefghijklmnop":Str).cps.toList.length=16 by decide+kernel];lia)
   have la:=Txt.slice_le x none (some at_)
   have lb:=Txt.slice_le x (some at_) none
   refine⟨_,rfl,.inl ⟨rfl,_,SqL.of e⟩,_,rfl,_,rfl,_,rfl,_,rfl,by lia,_,rfl,_,_,_,rfl,rfl,sz fW,e1,_,_,rfl,rfl,by rw[mr];lia,_,rfl,_,rfl,_,rfl,_,rfl,by lia,_,_,rfl,rfl,by rw[Str.length_append,mr];lia,l,_,_,rfl,rfl,e,by rw[aC,aC,bM];lia,?_⟩
   refine⟨_,rfl,sS S hl _,?_⟩
   rw[eS,sq,br]
   rfl
  ·rintro σ H2 ⟨o,rfl,S,e⟩
   exact⟨_,rfl,fin _ H2 S e (A8 _ _)⟩
 ·refine⟨_,rfl,_,_,rfl,rfl,⟨by decide,by decide⟩,_,rfl,_,_,rfl,by lia,by lia,fun x hx=>?_⟩
  refine⟨16,rfl,by decide,by decide,lM (fun i σ H2=>∃(o o2 o3:Option V),σ=[some (.int c),some (.int (c%8+ 1)),some (.ref l),some (.str x),none,o,o2,o3]/\fE H H2/\H2 l=some (.lst (((aa i).map fun k=>w2 x k 4).map V.str)))
   ⟨none,none,none,rfl,S1,eS⟩ ?_ ?_⟩
  ·rintro i σ H2 hi ⟨o,o2,o3,rfl,S,e⟩
   have hi16:i<16:=hi
   refine⟨_,rfl,Ai,fun p hp=>⟨p,rfl,⟨_,SqL.of eS⟩,?_⟩⟩
   have S2:fE H (upd H2 p (.lst [V.int 8,V.int 4,V.int 2,V.int 1])):=S.trans (eW hp _)
   have nlp:l≠p:=fe e hp
   refine sx (xs:=[V.int 8,V.int 4,V.int 2,V.int 1]) (fun j σ H3=>∃(o3:Option V),σ=[some (.int c),some (.int (c%8+ 1)),some (.ref l),some (.str x),none,some (.int (0+(i:Int))),some (.str (w2 x i j)),o3]/\H3=upd H2 p (.lst [V.int 8,V.int 4,V.int 2,V.int 1])/\(w2 x i j).length<=100+j)
    ⟨o3,rfl,rfl,hx⟩ (fun j σ H3 _ ⟨o4,_,e3,_⟩=>by rw[e3];exact SqL.of eS) ?_ ?_
   ·rintro j v σ H3 hv ⟨o4,rfl,rfl,hy⟩
    have hj:j<4:=(ar.mp hv).1
    have hn:v= .int (part j)/\0<part j/\part j<1073741824:=by
     match j,hj,hv with
     |0,_,hv=>cases hv;exact⟨rfl,by decide,by decide⟩
     |1,_,hv=>cases hv;exact⟨rfl,by decide,by decide⟩
     |2,_,hv=>cases hv;exact⟨rfl,by decide,by decide⟩
     |3,_,hv=>cases hv;exact⟨rfl,by decide,by decide⟩
    obtain⟨rfl,n0,n1⟩:=hn
    obtain⟨ch,e1,_⟩:=BE ("t7":Str).cps.toList ((0+(i:Int))/part j%2) (eC _ (by decide)) (by rw[show("t7":Str).cps.toList.length=2 by decide+kernel];exact eE _ (by decide))
    have ech:ch=bit i j:=by rw[bit,t7,e1];rfl
    subst ech
    refine⟨_,rfl,_,rfl,_,rfl,_,_,rfl,rfl,⟨n0,n1⟩,_,_,rfl,rfl,(by show(0:Int)<2;decide),_,_,_,rfl,rfl,sz fW,e1,_,_,rfl,rfl,by rw[mr];lia,?_⟩
    exact⟨_,rfl,rfl,by rw[w2,Str.length_append,mr];lia⟩
   ·rintro σ H3 ⟨o4,rfl,rfl,hy⟩
    have e4:(upd H2 p (.lst [V.int 8,V.int 4,V.int 2,V.int 1])) l=some (.lst (((aa i).map fun k=>w2 x k 4).map V.str)):=by rw[eX nlp];exact e
    refine⟨_,rfl,.inl ⟨rfl,_,SqL.of e4⟩,_,rfl,l,_,_,rfl,rfl,e4,by rw[aC,aC,bM];lia,?_⟩
    refine⟨_,_,_,rfl,sS S2 hl _,?_⟩
    rw[eS,sq,br]
    rfl
  ·rintro σ H2 ⟨o,o2,o3,rfl,S,e⟩
   exact⟨_,rfl,fin _ H2 S e (A9 x)⟩
def Ba:Nat->Sp
 |0=>fun _ _ _ _=>False
 |n+ 1=>fun vs H Q _=>X3 fun(x y:V) (d:Dt)=>Y6 (vs=[x,y]) (Dta H x d) (Dta H y d) (iE d<=n) (okD d) (∀H',fE H H'->Q (.bl true) H')
theorem zQ {K:PySem.W.Frag} {H:Hp} {a:Addr} {xs:List V} (h:H a=some (.tup xs)):Gq K (.ref a) H xs.length:= .inr ⟨xs,SqT.of h,rfl⟩
theorem zR {K:PySem.W.Frag} {H:Hp} {a:Addr} {xs:List V} (h:H a=some (.lst xs)):Gq K (.ref a) H xs.length:= .inl ⟨xs,SqL.of h,rfl⟩
theorem wD (n:Nat):(aG n true).all id=true:=by
 rw[List.all_eq_true]
 intro b hb
 exact(List.mem_replicate.mp hb).2
theorem zS {J:It} {g:TG} {te:TE} {Q:VK} {τ:St} {H1:Hp} {D:Addr} (n:Nat) (hn:n<sizeLine) (hD:H1 D=none)
  (hgo:∀k H,fE H1 H->k<n->J.go k H) (hst:∀H,fE H1 H->J.stop n H)
  (step:∀(k:Nat) (H:Hp) (v:V) (H3:Hp) (R:St->V->Hp->Prop),fE H1 H->k<n->J.yld k H v H3->∀σ':St,σ'.length=τ.length->(∀(σ4:St) (H5:Hp),σ4.length=τ.length->fE H H5->R σ4 (.bl true) H5)->g v σ' H3 fun σ4 H4=>te σ4 H4 (R σ4))
  (hq:∀H',fE H1 H'->H' D=some (.lst ((aG n true).map V.bl))->Q (.ref D) H'):LcG J g te Q τ H1 D:=by
 refine⟨fun k m σ' H2=>m=n-k/\k<=n/\σ'.length=τ.length/\fE H1 H2/\H2 D=some (.lst ((aG k true).map V.bl)),⟨n,by simp,cb _,rfl,eW hD _,eS⟩,?_⟩
 rintro k m σ' H2 ⟨rfl,hk,hl,S,e⟩
 by_cases hlt:k<n
 ·refine .inr ⟨hgo k H2 S hlt,fun v H3 y=>step k H2 v H3 (fun(σ4:St) (x:V) (H5:Hp)=>∃xs,H5 D=some (.lst xs)/\xs.length<sizeLine/\∃m',m'<n-k/\m'=n-(k+ 1)/\k+ 1<=n/\σ4.length=τ.length/\fE H1 (upd H5 D (.lst (xs++[x])))/\(upd H5 D (.lst (xs++[x]))) D=some (.lst ((aG (k+ 1) true).map V.bl))) S hlt y σ' hl fun σ4 H5 h4 S5=>?_⟩
  refine⟨_,S5 D _ e,by rw[aC,aP];lia,n-(k+ 1),by lia,rfl,hlt,h4,sS (S.trans S5) hD _,?_⟩
  rw[eS,bN,br]
  rfl
 ·have e1:k=n:=by lia
  subst e1
  exact .inl ⟨hst H2 S,hq H2 S e⟩
theorem oj (T:Txt K mg):∀n,FO P w base (n+ 1) T.d28 (Ba n)
 |0=>T.d28.F.ok nU (fun vs H Q E h=>h.elim) (fun cdv A outer s H vs Q E hr h=>h.elim)
 |n+ 1=>by
  have gD28:=oj (P:=P) (w:=w) (base:=base) T n
  refine T.d28.F.rd nU fun cdv A outer s H vs Q E hr h=>?_
  obtain⟨x,y,d,rfl,hx,hy,hd,ho,q⟩:=h
  refine⟨_,(eU (gG (mF (fS uc rfl T.z_isinstance gf (eR (pv 1) (eR (fC (eR (lD rfl T.z_list kg) (eR (lD rfl T.z_tuple iA) eT))) eT))))
   (eU (gG (PW.pt (yc (vO (mF (fS uc rfl T.z_isinstance gf (eR (pv 0) (eR (fC (eR (lD rfl T.z_list kg) (eR (lD rfl T.z_tuple iA) eT))) eT))))) (vN (oz Cn (fS jX rfl T.z_isinstance gf (eR (pv 0) (eR (lD rfl T.z_list kg) eT))) (fS jX rfl T.z_isinstance gf (eR (pv 1) (eR (lD rfl T.z_list kg) eT)))))))
    (eZ (fz tL))
    fJ)
   (eZ (fz (vP (oy wZ (fS vV rfl T.z_len jB (eR (pv 0) eT)) (fS vV rfl T.z_len jB (eR (pv 1) eT))) (tM (fS (AB rfl) rfl T.z_all Eu (eR (Bz (g:=Ee K 2 (sv (fN 0) (sv (fN 1) Ed))) rfl (EB (x:="_law_one") (y:="_law_other") rfl fW fW rfl (by decide) rfl) (PI.or (BD rfl T.z_zip (eR (pv 0) (eR (pv 1) eT))) (CM rfl T.z_zip (eR (pv 0) (eR (pv 1) eT)))) (pgP rfl fW rfl rfl) (fun _ _ _ _ _=>(pF T.d28 gD28 (hr.mono (by lia)) (eR (pv 0) (eR (pv 1) eT))))) eT)))))))
   fJ)
  (eU (gG (mF (fS jX rfl T.z_isinstance gf (eR (pv 1) (eR (lD rfl T.z_str Bu) eT))))
   (eZ (fz (vP (fS jX rfl T.z_isinstance gf (eR (pv 0) (eR (lD rfl T.z_str Bu) eT))) (tM (oy wZ (pv 0) (pv 1))))))
   fJ)
  (eU (gG (yb (ya (pv 1)))
   (eZ (fz (Ea (ya (pv 0)))))
   fJ)
  (eZ (fz (vP (fS jX rfl T.z_isinstance gf (eR (pv 0) (eR (lD rfl T.z_int yI) eT))) (vP (Ec (fS jX rfl T.z_isinstance gf (eR (pv 0) (eR (lD rfl T.z_bool CF) eT)))) (tM (oy wZ (pv 0) (pv 1)))))))))),?_⟩
  have sl:=sizeLine_eq
  cases hy with
  |flat h=>
   cases hx
   cases x with
   |non=>
    refine⟨_,rfl,lI,fun t ht=>⟨_,t,["list","tuple"],_,false,rfl,eS,.non,rfl,_,rfl,jy ?_⟩⟩
    refine⟨_,rfl,_,_,_,_,false,rfl,fun _ r=>r,.non,rfl,_,rfl,jy ?_⟩
    refine⟨_,rfl,_,rfl,?_⟩
    rw[gR rfl]
    refine jW ⟨_,rfl,?_⟩
    dsimp only
    rw[gR rfl]
    exact q _ (eW ht _)
   |int i=>
    refine⟨_,rfl,lI,fun t ht=>⟨_,t,["list","tuple"],_,false,rfl,eS,.int i,rfl,_,rfl,jy ?_⟩⟩
    refine⟨_,rfl,_,_,_,_,false,rfl,fun _ r=>r,.int i,rfl,_,rfl,jy ?_⟩
    refine⟨_,rfl,_,rfl,?_⟩
    rw[gC (fun z=>nomatch z)]
    refine jy ⟨_,rfl,_,_,_,_,true,rfl,fun _ r=>r,.int i,rfl,_,rfl,jW ⟨_,rfl,_,_,_,_,false,rfl,fun _ r=>r,.int i,rfl,_,rfl,_,rfl,jW ⟨_,rfl,_,rfl,rfl,?_⟩⟩⟩
    dsimp only
    rw[gR rfl]
    exact q _ (eW ht _)
   |str z=>
    refine⟨_,rfl,lI,fun t ht=>⟨_,t,["list","tuple"],_,false,rfl,eS,.str z,rfl,_,rfl,jy ?_⟩⟩
    refine⟨_,rfl,_,_,_,_,true,rfl,fun _ r=>r,.str z,rfl,_,rfl,jW ?_⟩
    refine⟨_,rfl,_,_,_,_,true,rfl,fun _ r=>r,.str z,rfl,_,rfl,jW ⟨_,rfl,_,rfl,rfl,?_⟩⟩
    dsimp only
    rw[gR rfl]
    exact q _ (eW ht _)
   |bl b=>cases h
   |byt b=>cases h
   |flt b=>cases h
   |ref a=>cases h
   |ty n=>cases h
  |@tup b ys ds hb hys=>
   cases hx with
   |@tup a xs _ ha hxs=>
   have lx:=hxs.length
   have ly:=hys.length
   have dd:fZ ds+ 1<=n:=hd
   refine⟨_,rfl,lI,fun t ht=>⟨_,t,["list","tuple"],_,true,rfl,eS,.tup (eW ht _ _ _ hb),rfl,_,rfl,jW ?_⟩⟩
   have S1:fE H (upd H t (.tup [V.ty "list",V.ty "tuple"])):=eW ht _
   generalize upd H t (.tup [V.ty "list",V.ty "tuple"])=H1 at S1⊢
   refine⟨_,rfl,lI,fun t2 ht2=>⟨_,t2,["list","tuple"],_,true,rfl,eS,.tup (eW ht2 _ _ _ (S1 _ _ ha)),rfl,_,rfl,?_⟩⟩
   have S2:fE H (upd H1 t2 (.tup [V.ty "list",V.ty "tuple"])):=S1.trans (eW ht2 _)
   generalize upd H1 t2 (.tup [V.ty "list",V.ty "tuple"])=H2 at S2⊢
   refine jy ⟨_,rfl,_,_,_,_,false,rfl,fun _ r=>r,.tup (S2 _ _ ha),rfl,_,rfl,_,_,_,_,false,rfl,fun _ r=>r,.tup (S2 _ _ hb),rfl,rfl,_,rfl,jy ?_⟩
   refine⟨_,rfl,_,xs.length,rfl,zQ (S2 _ _ ha),_,rfl,_,ys.length,rfl,zQ (S2 _ _ hb),rfl,_,rfl,?_⟩
   rw[gR (show V.int (xs.length:Int)=V.int (ys.length:Int) by rw[lx,ly])]
   cases n with
   |zero=>lia
   |succ m=>
   refine jW (.inr ⟨_,rfl,_,rfl,a,b,rfl,⟨_,SqT.of (S2 _ _ ha)⟩,⟨_,SqT.of (S2 _ _ hb)⟩,fun D hD=>?_⟩)
   refine zS xs.length (by have:=ho.1;lia) hD (fun k H3 S3 hk=>⟨xs,ys,xs[k],ys[k]'(by lia),SqT.of (S3 _ _ (S2 _ _ ha)),SqT.of (S3 _ _ (S2 _ _ hb)),bb hk,bb (by lia)⟩)
    (fun H3 S3=>⟨xs,ys,SqT.of (S3 _ _ (S2 _ _ ha)),SqT.of (S3 _ _ (S2 _ _ hb)),by lia⟩) ?_ ?_
   ·rintro k H3 v H4 R S3 hk ⟨p,x1,y1,rfl,hp,rfl,e1,e2⟩ σ' hl r
    obtain⟨u1,u2,rfl⟩:∃u1 u2,σ'=[u1,u2]:=by
     match σ',hl with
     |[u1,u2],_=>exact⟨u1,u2,rfl⟩
    have S4:fE H (upd H3 p (.tup [x1,y1])):=(S2.trans S3).trans (eW hp _)
    obtain⟨d1,f1,g1⟩:=hxs.get (e1 xs (SqT.of (S3 _ _ (S2 _ _ ha))))
    obtain⟨d2,f2,g2⟩:=hys.get (e2 ys (SqT.of (S3 _ _ (S2 _ _ hb))))
    have ed:d2=d1:=by rw[f1]at f2;exact(cC.inj f2).symm
    subst ed
    have dp:=BO.Internal.depDs_get f1
    refine⟨p,[x1,y1],rfl,SqT.of eS,rfl,x1,[y1],rfl,y1,[],rfl,rfl,_,rfl,_,rfl,x1,y1,d2,rfl,g1.same S4,g2.same S4,by lia,pZ ho.2 f1,fun H5 S5=>?_⟩
    exact r _ _ rfl ((eW hp _).trans S5)
   ·intro H3 S3 hD3
    refine⟨D,aG xs.length true,rfl,SqL.of hD3,?_⟩
    rw[wD]
    exact q _ (S2.trans S3)
  |@lst b ys ds hb hys=>
   cases hx with
   |@lst a xs _ ha hxs=>
   have lx:=hxs.length
   have ly:=hys.length
   have dd:fZ ds+ 1<=n:=hd
   refine⟨_,rfl,lI,fun t ht=>⟨_,t,["list","tuple"],_,true,rfl,eS,.lst (eW ht _ _ _ hb),rfl,_,rfl,jW ?_⟩⟩
   have S1:fE H (upd H t (.tup [V.ty "list",V.ty "tuple"])):=eW ht _
   generalize upd H t (.tup [V.ty "list",V.ty "tuple"])=H1 at S1⊢
   refine⟨_,rfl,lI,fun t2 ht2=>⟨_,t2,["list","tuple"],_,true,rfl,eS,.lst (eW ht2 _ _ _ (S1 _ _ ha)),rfl,_,rfl,?_⟩⟩
   have S2:fE H (upd H1 t2 (.tup [V.ty "list",V.ty "tuple"])):=S1.trans (eW ht2 _)
   generalize upd H1 t2 (.tup [V.ty "list",V.ty "tuple"])=H2 at S2⊢
   refine jy ⟨_,rfl,_,_,_,_,true,rfl,fun _ r=>r,.lst (S2 _ _ ha),rfl,_,rfl,_,_,_,_,true,rfl,fun _ r=>r,.lst (S2 _ _ hb),rfl,rfl,_,rfl,jy ?_⟩
   refine⟨_,rfl,_,xs.length,rfl,zR (S2 _ _ ha),_,rfl,_,ys.length,rfl,zR (S2 _ _ hb),rfl,_,rfl,?_⟩
   rw[gR (show V.int (xs.length:Int)=V.int (ys.length:Int) by rw[lx,ly])]
   cases n with
   |zero=>lia
   |succ m=>
   refine jW (.inl ⟨_,rfl,_,rfl,a,b,rfl,⟨_,SqL.of (S2 _ _ ha)⟩,⟨_,SqL.of (S2 _ _ hb)⟩,fun D hD=>?_⟩)
   refine zS xs.length (by have:=ho.1;lia) hD (fun k H3 S3 hk=>⟨xs,ys,xs[k],ys[k]'(by lia),SqL.of (S3 _ _ (S2 _ _ ha)),SqL.of (S3 _ _ (S2 _ _ hb)),bb hk,bb (by lia)⟩)
    (fun H3 S3=>⟨xs,ys,SqL.of (S3 _ _ (S2 _ _ ha)),SqL.of (S3 _ _ (S2 _ _ hb)),by lia⟩) ?_ ?_
   ·rintro k H3 v H4 R S3 hk ⟨p,x1,y1,rfl,hp,rfl,e1,e2⟩ σ' hl r
    obtain⟨u1,u2,rfl⟩:∃u1 u2,σ'=[u1,u2]:=by
     match σ',hl with
     |[u1,u2],_=>exact⟨u1,u2,rfl⟩
    have S4:fE H (upd H3 p (.tup [x1,y1])):=(S2.trans S3).trans (eW hp _)
    obtain⟨d1,f1,g1⟩:=hxs.get (e1 xs (SqL.of (S3 _ _ (S2 _ _ ha))))
    obtain⟨d2,f2,g2⟩:=hys.get (e2 ys (SqL.of (S3 _ _ (S2 _ _ hb))))
    have ed:d2=d1:=by rw[f1]at f2;exact(cC.inj f2).symm
    subst ed
    have dp:=BO.Internal.depDs_get f1
    refine⟨p,[x1,y1],rfl,SqT.of eS,rfl,x1,[y1],rfl,y1,[],rfl,rfl,_,rfl,_,rfl,x1,y1,d2,rfl,g1.same S4,g2.same S4,by lia,pZ ho.2 f1,fun H5 S5=>?_⟩
    exact r _ _ rfl ((eW hp _).trans S5)
   ·intro H3 S3 hD3
    refine⟨D,aG xs.length true,rfl,SqL.of hD3,?_⟩
    rw[wD]
    exact q _ (S2.trans S3)
open TM.Internal (Kn Tr gF szs)
structure It where
 t:Tr
 w:Nat
 c:Nat->Nat
 own:Bool
def vr (wl:List Str) (k:Nat):Str:=wl.getD k ""
def Ev (wl:List Str) (made:List Nat) (e:Str->Nat):Prop:=(∀d,d<made.length->e (wdE wl d)=made.getD d 0)/\e (wdE wl made.length)=0
def cw (c:Nat->Nat) (wl:List Str) (e:Str->Nat):Nat:=c 0*e (vr wl 0)+c 1*e (vr wl 1)+c 2*e (vr wl 2)
structure JI (wl:List Str) (made:List Nat) (I:It):Prop where
 w:∀e,Ev wl made e->wT I.t e=I.w+cw I.c wl e
 o:∀N:Str->Prop,(∀d,d<made.length->N (wdE wl d))->(I.own=true->N (wdE wl made.length))->(∀k,k<3->0<I.c k->N (vr wl k))->okT I.t N
 c:∀k,k<3->I.c k<=I.w
def knC:List It->List (Option Nat)->Nat->Nat
 |I::l,v::vs,k=>(if v=some k then 0 else I.c k)+knC l vs k
 |_,_,_=>0
def knW:List It->Nat
 |[]=>0
 |I::l=>I.w+knW l
def knO:List It->Bool
 |[]=>false
 |I::l=>I.own||knO l
def knI (κ:Kn) (its:List It) (vs:List (Option Nat)):It:=⟨.mk κ (its.map It.t),1+knW its,knC its vs,knO its⟩
def Mxs (wl:List Str):List Ex->List (Option Nat)->Prop
 |_,[]=>True
 |xs,none::vs=>hdX xs=none/\Mxs wl xs.tail vs
 |xs,some v::vs=>v<3/\(∃k:Str,k≠"let"/\hdX xs=some (vr wl v,k))/\Mxs wl xs.tail vs
section
variable {wl:List Str} {made:List Nat} (lw:wl.length=16) (nd:wl.Nodup) (lm:made.length<=12)
include lw nd
theorem DB {i j:Nat} (hi:i<16) (hj:j<16) (h:i≠j):wl.getD i ""≠wl.getD j "":=by
 rw[bo,bo,bb (by lia),bb (by lia)]
 intro e
 have k:=List.pairwise_iff_getElem.mp nd
 rcases Nat.lt_or_gt_of_ne h with z|z
 ·exact k i j (by lia) (by lia) z e
 ·exact k j i (by lia) (by lia) z e.symm
theorem G9 {i j:Nat} (hi:i<3) (hj:j<3) (h:i≠j):vr wl i≠vr wl j:=DB lw nd (by lia) (by lia) h
include lm
theorem Fb {v d:Nat} (hv:v<3) (hd:d<=made.length):vr wl v≠wdE wl d:=DB lw nd (by lia) (by lia) (by lia)
theorem Ev.up {e:Str->Nat} (h:Ev wl made e) {v:Nat} (hv:v<3) (k:Str) (pw:Nat):Ev wl made (upE e (some (vr wl v,k)) pw):=by
 refine⟨fun d hd=>?_,?_⟩
 ·show(if vr wl v=wdE wl d then _ else _)=_
  rw[fO (Fb lw nd lm hv (by lia))]
  exact h.1 d hd
 ·show(if vr wl v=wdE wl made.length then _ else _)=_
  rw[fO (Fb lw nd lm hv (by lia))]
  exact h.2
omit lm in
theorem xP {e:Str->Nat} {v j:Nat} (hv:v<3) (hj:j<3) (k:Str) (pw:Nat):upE e (some (vr wl v,k)) pw (vr wl j)=if v=j then(if k="let" then pw else 0)else e (vr wl j):=by
 show(if vr wl v=vr wl j then _ else _)=_
 by_cases h:v=j
 ·rw[f6 (by rw[h]),f6 h]
 ·rw[fO (G9 lw nd hv hj h),fO h]
theorem zT:∀{its:List It} {vs:List (Option Nat)} {xs:List Ex} {e:Str->Nat} {pw:Nat},its.length=vs.length->Mxs wl xs vs->(∀I∈its,JI wl made I)->Ev wl made e->wTs (its.map It.t) xs e pw=knW its+cw (knC its vs) wl e
 |[],[],xs,e,pw,_,_,_,_=>by rw[aT,k9];simp[knW,knC,cw]
 |I::its,none::vs,xs,e,pw,hl,m,hJ,he=>by
  rw[aB,jh,zT (by simpa using hl) m.2 (fun J h=>hJ J (by simp[h])) he,m.1]
  have h1:=(hJ I (by simp)).w e he
  rw[show upE e none pw=e from rfl,h1]
  simp only[knW,knC,cw,Nat.add_mul,reduceCtorEq,if_false]
  lia
 |I::its,some v::vs,xs,e,pw,hl,⟨hv,⟨k,nk,hx⟩,m⟩,hJ,he=>by
  rw[aB,jh,zT (by simpa using hl) m (fun J h=>hJ J (by simp[h])) he,hx]
  have h1:=(hJ I (by simp)).w _ (he.up lw nd lm hv k pw)
  rw[h1]
  simp only[knW,knC,cw,Nat.add_mul,cC.injEq]
  rw[xP lw nd hv (by lia),xP lw nd hv (by lia),xP lw nd hv (by lia),fO nk]
  by_cases a0:v=0
  ·subst a0;simp;lia
  ·by_cases a1:v=1
   ·subst a1;simp;lia
   ·have a2:v=2:=by lia
    subst a2;simp;lia
 |[],_::_,_,_,_,h,_,_,_=>by cases h
 |_::_,[],_,_,_,h,_,_,_=>by cases h
omit lw nd lm in
theorem BX {k:Nat} (hk:k<3):∀{its:List It} {vs:List (Option Nat)},(∀I∈its,JI wl made I)->knC its vs k<=knW its
 |[],vs,_=>by simp[knC]
 |I::its,[],_=>by simp[knC]
 |I::its,v::vs,hJ=>by
  have h1:=(hJ I (by simp)).c k hk
  have h2:=BX hk (its:=its) (vs:=vs) fun J h=>hJ J (by simp[h])
  simp only[knC,knW]
  split<;>lia
omit lw nd lm in
theorem vB {N:Str->Prop} (hd:∀d,d<made.length->N (wdE wl d)):∀{its:List It} {vs:List (Option Nat)} {xs:List Ex},its.length=vs.length->Mxs wl xs vs->(∀I∈its,JI wl made I)->(knO its=true->N (wdE wl made.length))->(∀k,k<3->0<knC its vs k->N (vr wl k))->sV (its.map It.t) xs N
 |[],[],xs,_,_,_,_,_=>by unfold sV;exact trivial
 |I::its,none::vs,xs,hl,m,hJ,ho,hc=>by
  rw[aB]
  unfold sV
  rw[m.1]
  refine⟨(hJ I (by simp)).o N hd (fun z=>ho (by simp[knO,z])) (fun k hk z=>hc k hk (by simp only[knC,reduceCtorEq,if_false];lia)),vB hd (by simpa using hl) m.2 (fun J h=>hJ J (by simp[h])) (fun z=>ho (by simp[knO,z])) fun k hk z=>hc k hk (by simp only[knC];lia)⟩
 |I::its,some v::vs,xs,hl,⟨hv,⟨k,nk,hx⟩,m⟩,hJ,ho,hc=>by
  rw[aB]
  unfold sV
  rw[hx]
  refine⟨(hJ I (by simp)).o _ (fun d h=> .inr (hd d h)) (fun z=> .inr (ho (by simp[knO,z]))) (fun j hj z=>?_),vB hd (by simpa using hl) m (fun J h=>hJ J (by simp[h])) (fun z=>ho (by simp[knO,z])) fun k hk z=>hc k hk (by simp only[knC];lia)⟩
  by_cases e:v=j
  ·subst e;exact .inl rfl
  ·exact .inr (hc j hj (by simp only[knC,cC.injEq,e,if_false];lia))
 |[],_::_,_,h,_,_,_,_=>by cases h
 |_::_,[],_,h,_,_,_,_=>by cases h
theorem JI.knit {κ:Kn} {its:List It} {vs:List (Option Nat)} (hl:its.length=vs.length) (m:Mxs wl (exN κ) vs) (hJ:∀I∈its,JI wl made I) (nn:∀w,κ≠ .name w) (ok:∀N,okK κ its.length N):JI wl made (knI κ its vs):=by
 refine⟨fun e he=>?_,fun N hd ho hc=>?_,fun k hk=>?_⟩
 ·show wT (.mk κ (its.map It.t)) e=1+knW its+cw (knC its vs) wl e
  rw[uF,zT lw nd lm hl m hJ he]
  have e0:nmW κ e=0:=by
   cases κ with
   |name w=>exact absurd rfl (nn w)
   |_=>rfl
  lia
 ·show okT (.mk κ (its.map It.t)) N
  unfold okT
  exact⟨by rw[aC];exact ok N,vB hd hl m hJ ho hc⟩
 ·have:=BX hk (vs:=vs) hJ
  show knC its vs k<=1+knW its
  lia
def ltI (wl:List Str) (v:Nat) (b y:It):It:=⟨.mk (.lt (vr wl v)) [b.t,y.t],1+knW [b,y]+y.c v*b.w,fun k=>knC [b,y] [none,some v] k+y.c v*b.c k,b.own||(y.own||false)⟩
theorem JI.let {v:Nat} {b y:It} (hv:v<3) (hb:JI wl made b) (hy:JI wl made y):JI wl made (ltI wl v b y):=by
 refine⟨fun e he=>?_,fun N hd ho hc=>?_,fun k hk=>?_⟩
 ·have h1:=hb.w e he
  have h2:=hy.w _ (he.up lw nd lm hv "let" (wT b.t e))
  show wT (.mk (.lt (vr wl v)) [b.t,y.t]) e=_
  rw[uF,jh,jh,k9]
  change 1+ 0+(wT b.t e+(wT y.t (upE e (some (vr wl v,"let")) (wT b.t e))+ 0))=_
  rw[h2]
  show _=1+knW [b,y]+y.c v*b.w+cw (fun k=>knC [b,y] [none,some v] k+y.c v*b.c k) wl e
  simp only[knW,knC,cw,Nat.add_mul,cC.injEq,reduceCtorEq,if_false]
  rw[xP lw nd hv (by lia),xP lw nd hv (by lia),xP lw nd hv (by lia),f6 rfl,h1]
  by_cases a0:v=0
  ·subst a0;simp[cw,Nat.mul_add,cz];lia
  ·by_cases a1:v=1
   ·subst a1;simp[cw,Nat.mul_add,cz];lia
   ·have a2:v=2:=by lia
    subst a2;simp[cw,Nat.mul_add,cz];lia
 ·show okT (.mk (.lt (vr wl v)) [b.t,y.t]) N
  unfold okT
  refine⟨rfl,?_⟩
  unfold sV sV sV
  refine⟨hb.o N hd (fun z=>ho (by simp[ltI,z])) (fun k hk z=>hc k hk (by simp only[ltI,knC,reduceCtorEq,if_false];lia)),hy.o _ (fun d h=> .inr (hd d h)) (fun z=> .inr (ho (by simp[ltI,z]))) (fun k hk z=>?_),trivial⟩
  by_cases e:v=k
  ·subst e;exact .inl rfl
  ·exact .inr (hc k hk (by simp only[ltI,knC,reduceCtorEq,if_false,cC.injEq,e];lia))
 ·have h1:=hb.c k hk
  have h2:=hy.c k hk
  have h3:=Nat.mul_le_mul_left (y.c v) h1
  simp only[ltI,knC,knW]
  split<;>split<;>lia
end
open TM.Internal (Kn Tr gF szs)
theorem DC {K:PySem.W.Frag} {a b:Addr} {xs ys:List V} {g:TG} {tb:TS} {D:pj} {σ:St} {H:Hp} (Pv:Nat->St->Hp->Prop) (h0:Pv 0 σ H) (hl:∀i σ H,i<=xs.length->Pv i σ H->SqL K H a xs/\SqL K H b ys) (hn:ys.length=xs.length)
  (hs:∀(i:Nat) (x y:V) (σ:St) (H:Hp) (T:Addr),xs[i]?=some x->ys[i]?=some y->Pv i σ H->H T=none->g (.ref T) σ (L2.Internal.upd H T (.tup [x,y])) fun σ2 H2=>tb {D with nx:=Pv (i+ 1),ct:=Pv (i+ 1),bk:=D.nx} σ2 H2) (hd:∀σ H,Pv xs.length σ H->D.nx σ H):
  ∃W:Nat->Nat->St->Hp->Prop,(∃m,W 0 m σ H)/\∀i m σ H,W i m σ H->
   ((Itz K a b).stop i H/\D.nx σ H)\/((Itz K a b).go i H/\∃N:St->Hp->Prop,(∀σ' H',N σ' H'->∃m',m'<m/\W (i+ 1) m' σ' H')/\∀x H',(Itz K a b).yld i H x H'->g x σ H' fun σ2 H2=>tb {D with nx:=N,ct:=N,bk:=D.nx} σ2 H2):=by
 refine⟨fun i m σ H=>Y3 (m=xs.length-i) (i<=xs.length) (Pv i σ H),⟨xs.length,by simp,cb _,h0⟩,?_⟩
 rintro i m σ H ⟨rfl,hi,p⟩
 obtain⟨q1,q2⟩:=hl i σ H hi p
 by_cases hlt:i<xs.length
 ·refine .inr ⟨⟨xs,ys,xs[i],ys[i]'(by lia),q1,q2,by simp[hlt],bb (by lia)⟩,Pv (i+ 1),fun σ' H' p'=>⟨xs.length-(i+ 1),by lia,rfl,hlt,p'⟩,fun v H' y=>?_⟩
  obtain⟨T,x,y,rfl,hT,rfl,hx,hy⟩:=y
  exact hs i x y σ H T (hx xs q1) (hy ys q2) p hT
 ·have e:i=xs.length:=by lia
  subst e
  exact .inl ⟨⟨xs,ys,q1,q2,by lia⟩,hd σ H p⟩
def itV (n:V) (I:It) (cs:Addr):List V:=[n,.int (I.t.nest:Int),.int (I.w:Int),.ref cs,.bl I.own,.int (I.t.sz:Int)]
def cV3 (c:Nat->Nat):List V:=[.int (c 0:Int),.int (c 1:Int),.int (c 2:Int)]
def ItA (H:Hp) (x:V) (I:It):Prop:=X3 fun a n cs=>Y4 (x= .ref a) (H a=some (.lst (itV n I cs))) (H cs=some (.lst (cV3 I.c))) (Im H n (ndD I.t))
theorem ItA.same {H H':Hp} {x:V} {I:It} (h:ItA H x I) (S:fE H H'):ItA H' x I:=by
 obtain⟨a,n,cs,rfl,e1,e2,i⟩:=h
 exact⟨a,n,cs,rfl,S _ _ e1,S _ _ e2,i.mono (fE.tk S)⟩
structure ItN (H H':Hp) (a cs:Addr) (n:V) (I:It):Prop where
 sm:fE H H'
 na:H a=none
 nc:H cs=none
 ne:a≠cs
 ea:H' a=some (.lst (itV n I cs))
 ec:H' cs=some (.lst (cV3 I.c))
 im:Im H' n (ndD I.t)
theorem ItN.it {H H':Hp} {a cs:Addr} {n:V} {I:It} (h:ItN H H' a cs n I):ItA H' (.ref a) I:=⟨a,n,cs,rfl,h.ea,h.ec,h.im⟩
def hZ:Option Nat->Int
 |none=> -1
 |some v=>(v:Int)
def hI (v:Option Nat):V:= .int (hZ v)
theorem at3 {c:Nat->Nat} {k:Nat} (h:k<3):atI (cV3 c) (0+(k:Int))=some (.int (c k:Int)):=by
 rw[eG]
 refine eY ?_
 match k,h with
 |0,_=>rfl
 |1,_=>rfl
 |2,_=>rfl
def cA (c:Nat->Nat) (v:Option Nat) (d:Nat->Nat) (k:Nat):Nat:=c k+(if v=some k then 0 else d k)
theorem Ha (c d:Nat->Nat) (v:Option Nat) (k:Nat):(c k:Int)+(if(true ^^ decide (0+(k:Int)=hZ v))=true then 1 else 0)*(d k:Int)=(cA c v d k:Int):=by
 unfold cA
 cases v with
 |none=>
  rw[gC (by show ¬0+(k:Int)= -1;lia)]
  simp
 |some v=>
  by_cases h:v=k
  ·subst h
   rw[gR (by show 0+(v:Int)=(v:Int);lia)]
   simp
  ·rw[gC (by show ¬0+(k:Int)=(v:Int);lia)]
   simp[h]
theorem Fe {i j n:Nat} {a b:Bool} {p:Addr} {xs:List V} {m:Int} {σ:St} {H:Hp} {Q:VK} (h1:σ[i]?=some (some (.bl a))) (h2:σ[j]?=some (some (.ref p))) (e:H p=some (.lst xs)) (hx:atI xs m=some (.bl b)) (q:Q (.bl (a||b)) H):FY (cV i) (tOp AG (cV j) (tC (.int m))) σ H Q:=by
 show onV σ[i]? _
 rw[h1]
 refine⟨a,rfl,?_⟩
 cases a with
 |true=>exact jW q
 |false=>
  refine jy ?_
  show onV σ[j]? _
  rw[h2]
  exact⟨_,e,fc hx q⟩
theorem Ff {i j g:Nat} {a b:Bool} {p:Addr} {xs:List V} {m:Int} {σ:St} {H:Hp} {R:TS} {D:pj} (h1:σ[i]?=some (some (.bl a))) (h2:σ[j]?=some (some (.ref p))) (e:H p=some (.lst xs)) (hx:atI xs m=some (.bl b)) (q:R D (σ.set g (some (.bl (a||b)))) H):yd (Aj (FY (cV i) (tOp AG (cV j) (tC (.int m)))) (fN g)) R D σ H:=Fe (n:=0) h1 h2 e hx q
inductive XLf (vs:List V) (H:Hp) (Q:VK):Prop
 |mk (n:V) (w:Nat) (κ:Kn) (e:vs=[n,.int (w:Int)]) (i:Im H n (ndD (.mk κ []))) (q:∀H' a cs,ItN H H' a cs n ⟨.mk κ [],w,fun _=>0,false⟩->Q (.ref a) H')
def Hb:Sp:=fun vs H Q _=>XLf vs H Q
inductive XKn (vs:List V) (H:Hp) (Q:VK):Prop
 |mk (wt pl hl:Addr) (κ:Kn) (ws xs:List V) (its:List It) (ho:List (Option Nat)) (e:vs=[.str κ.s,.ref wt,.ref pl,.ref hl]) (ew:H wt=some (.tup ws)) (iw:Ims H ws (wsD κ)) (ep:H pl=some (.lst xs)) (ix:mH (ItA H) xs its) (eh:H hl=some (.lst (ho.map hI))) (hl':ho.length=its.length) (ln:its.length<=1000) (q:∀H' a cs n,ItN H H' a cs n (knI κ its ho)->Q (.ref a) H')
def DD:Sp:=fun vs H Q _=>XKn vs H Q
theorem vC {α β:Type} {R:α->β->Prop}:∀{xs:List α} {ys:List β} {i:Nat} {x:α},mH R xs ys->xs[i]?=some x->∃y,ys[i]?=some y/\R x y
 |_,_,0,_,.cons h _,e=>by cases e;exact⟨_,rfl,h⟩
 |_,_,i+ 1,_,.cons _ t,e=>vC (i:=i) t e
theorem kf (T:Txt K mg):FO P w base 1 T.d29 Hb:=by
 refine T.d29.F.ok ug (fun vs H Q E h=>?_) (fun cdv A0 outer s0 H vs Q E hr h=>?_)
 ·obtain⟨n,w,κ,rfl,_⟩:=h
  rfl
 obtain⟨n,w',κ,rfl,i,q⟩:=h
 refine⟨_,(eZ (fz (fH (eR (cv 0) (eR eV (eR (cv 1) (eR (fH (eR eV (eR eV (eR eV eT)))) (eR tL (eR eV eT))))))))),?_⟩
 refine⟨tK,fun cs hc=>⟨FW,fun a ha=>?_⟩⟩
 have S1:=eW hc (.lst [.int 0,.int 0,.int 0])
 have S2:=eW ha (.lst [n,.int 1,.int (w':Int),.ref cs,.bl false,.int 1])
 have ne:a≠cs:=fun z=>by rw[z,eS]at ha;cases ha
 have sz:(Tr.mk κ []).sz=1:=by simp[Tr.sz,szs]
 have ns:(Tr.mk κ []).nest=1:=by simp[Tr.nest,TM.Internal.nests]
 refine q _ a cs ⟨S1.trans S2,?_,hc,ne,?_,S2 _ _ eS,i.mono (fE.tk (S1.trans S2))⟩
 ·cases z:H a with
  |none=>rfl
  |some u=>rw[S1 _ _ z]at ha;cases ha
 ·rw[eS]
  unfold itV
  rw[sz,ns]
  rfl
theorem jx (T:Txt K mg):FO P w base 2 T.d30 DD:=by
 refine T.d30.F.rd f7 fun cdv A0 outer s H vs Q E hr h=>?_
 obtain⟨wt,pl,hl,κ,ws,xs,its,ho,rfl,ew,iw,ep,ix,eh,lh,ln,q⟩:=h
 refine⟨_,(eU (pS (i:=4) f7.nd eV)
  (eU (pS (i:=5) f7.nd eV)
  (eU (pS (i:=6) f7.nd (fH (eR eV (eR eV (eR eV eT)))))
  (eU (pS (i:=7) f7.nd tL)
  (eU (pS (i:=8) f7.nd eV)
  (eU (jK PassesOwn.never rfl (BD rfl T.z_zip (eR (cv 2) (eR (cv 3) eT))) (tN rfl (jo (pN (i:=9) f7.nd) (jo (pN (i:=10) f7.nd) qa)))
   (eU (pS (i:=4) f7.nd (fS (ym rfl) rfl T.z_max BB (eR (cv 4) (eR (fh fg (cv 9) eV) eT))))
   (eU (pS (i:=5) f7.nd (fq gk (cv 5) (fh fg (cv 9) eV)))
   (eU (pS (i:=6) f7.nd (qk rfl (uY (x:="_law_k") ["_law_var","_law_part","_law_many"] [("_law_var",10,s.heap.objs.size+ 3),("_law_part",9,s.heap.objs.size+ 2),("_law_many",6,s.heap.objs.size+ 1)]) (gY rfl T.z_range (eR eV eT)) (fun _ _ _ _ _=>iB) (fun _ _ _ _ _=>(fq gk (fh fg (cv 3) (cv 0)) (fq qm (gq yn rfl T.z_int yI (eR (oy CO (cv 0) (cv 1)) eT)) (fh fg (fh fg (cv 2) eV) (cv 0)))))))
   (eU (pS (i:=7) f7.nd (Eb (cv 7) (tM (fh fg (cv 9) eV))))
   (eZ (pS (i:=8) f7.nd (fq gk (cv 8) (fh fg (cv 9) eV)))))))))
  (eZ (fz (fH (eR (fC (eR (cv 0) (eR (cv 1) (eR (gq gw rfl T.z_tuple iA (eR (qk rfl (Ey (x:="_law_part") rfl fW fW rfl rfl) (gX (cv 2)) (fun _ _ _ _ _=>iB) (fun _ _ _ _ _=>(fh fg (cv 0) eV))) eT)) eT)))) (eR (fq gk (cv 4) eV) (eR (cv 5) (eR (cv 6) (eR (cv 7) (eR (cv 8) eT))))))))))))))),?_⟩
 have sl:=sizeLine_eq
 dsimp only[fN]
 refine⟨tK,fun m hm=>?_⟩
 dsimp only[fN]
 have lx:=ix.length
 refine⟨pl,hl,rfl,⟨_,SqL.of (eW hm _ _ _ ep)⟩,⟨_,SqL.of (eW hm _ _ _ eh)⟩,DC (xs:=xs) (ys:=ho.map hI) (fun i σ H2=>X8 fun(o9 o10:Option V) (ne we pa:Nat) (ow:Bool) (mn:Addr) (c:Nat->Nat)=>Y9 (σ=[some (.str κ.s),some (.ref wt),some (.ref pl),some (.ref hl),some (.int (ne:Int)),some (.int (we:Int)),some (.ref mn),some (.bl ow),some (.int (pa:Int)),o9,o10]) (fE H H2) (H mn=none) (H2 mn=some (.lst (cV3 c))) (max ne (TM.Internal.nests ((its.drop i).map It.t))=TM.Internal.nests (its.map It.t)) (we+knW (its.drop i)=1+knW its) ((ow||knO (its.drop i))=knO its) (pa+szs ((its.drop i).map It.t)=1+szs (its.map It.t)) (∀k,k<3->c k+knC (its.drop i) (ho.drop i) k=knC its ho k)) ?_ ?_ ?_ ?_ ?_⟩
 ·exact⟨none,none,0,1,1,false,m,fun _=>0,rfl,eW hm _,hm,eS,by simp,rfl,by simp,rfl,fun k _=>by simp⟩
 ·rintro i σ H2 _ ⟨o9,o10,ne,we,pa,ow,mn,c,_,S,_⟩
  exact⟨SqL.of (S _ _ ep),SqL.of (S _ _ eh)⟩
 ·rw[aC,lh,lx]
 ·rintro i x y σ H2 t4 hx hy ⟨o9,o10,ne,we,pa,ow,mn,c,rfl,S,nm,em,h1,h2,h3,h4,h5⟩ ht4
  obtain⟨I,hI',a,n,cs,rfl,ea,ec,iN⟩:=vC ix hx
  rw[aK]at hy
  obtain⟨v,hv,rfl⟩:=cF.mp hy
  rw[uB hI']at h1 h2 h3 h4
  have T4:=eW ht4 (.tup [.ref a,hI v])
  have S4:=S.trans T4
  refine⟨t4,_,rfl,SqT.of eS,rfl,_,_,rfl,_,_,rfl,rfl,?_⟩
  have ea4:=S4 _ _ ea
  have ec4:=S4 _ _ ec
  have em4:=T4 _ _ em
  have emx:(if((I.t.nest:Nat):Int)>(ne:Int)then((I.t.nest:Nat):Int)else(ne:Int))=((max ne I.t.nest:Nat):Int):=by split<;>lia
  refine⟨_,ea4,fc (eY (j:=1) rfl) ⟨_,_,rfl,?_⟩⟩
  dsimp only[fN]
  rw[emx]
  refine⟨_,ea4,fc (eY (j:=2) rfl) ?_⟩
  dsimp only[fN]
  refine⟨3,rfl,by decide,by decide,fun D hD=>?_⟩
  refine kC 3 (by lia) (fun zs H5=>zs=(cV3 (cA c v I.c)).take zs.length) (fun _ _ _ h _=>h) hD rfl (fun k _ _ h=>h) (fun _ _=>b9 _) rfl ?_ ?_
  ·rintro k H5 x H6 zs Z S5 hk ⟨rfl,rfl⟩ hz lz kZ
   refine⟨_,S5 _ _ em4,fc (at3 hk) ?_⟩
   refine .inr ⟨_,rfl,?_⟩
   refine⟨_,S5 _ _ ea4,fc (eY (j:=3) rfl) ⟨_,S5 _ _ ec4,fc (at3 hk) ⟨.inl (by split<;>exact⟨by decide,by decide⟩),?_⟩⟩⟩
   refine kZ _ _ (fun _ _ e=>e) ?_
   dsimp only
   rw[Ha,aO,aV,bF,lz]
   rw[lz]at hz
   have e3:(cV3 (cA c v I.c))[k]?=some (.int (cA c v I.c k:Int)):=by
    have:=at3 (c:=cA c v I.c) hk
    match k,hk with
    |0,_=>rfl
    |1,_=>rfl
    |2,_=>rfl
   rw[e3,<-hz]
   rfl
  ·intro H5 zs S5 hz lz ez
   dsimp only[fN]
   rw[lz]at hz
   have hz:zs=cV3 (cA c v I.c):=hz
   subst hz
   refine Ff (i:=7) (j:=9) (a:=ow) (b:=I.own) rfl rfl (S5 _ _ ea4) (eY (j:=4) rfl) ?_
   refine⟨_,S5 _ _ ea4,fc (eY (j:=5) rfl) ?_⟩
   dsimp only[fN]
   have nD:H D=none:=by
    cases z:H D with
    |none=>rfl
    |some u=>rw[S4 _ _ z]at hD;cases hD
   have hv':=uB hv
   refine⟨_,_,max ne I.t.nest,we+I.w,pa+I.t.sz,ow||I.own,D,cA c v I.c,rfl,S4.trans S5,nD,ez,?_,?_,?_,?_,fun k hk=>?_⟩
   ·rw[aB,TM.Internal.nests]at h1;lia
   ·rw[knW]at h2;lia
   ·rw[knO,<-Bool.or_assoc]at h3;exact h3
   ·rw[aB,szs]at h4;lia
   ·have h6:=h5 k hk
    rw[uB hI',hv']at h6
    rw[knC]at h6
    unfold cA
    lia
 ·rintro σ H2 ⟨o9,o10,ne,we,pa,ow,mn,c,rfl,S,nm,em,h1,h2,h3,h4,h5⟩
  rw[lx,bB]at h1 h2 h3 h4
  have h5:∀k,k<3->c k=knC its ho k:=fun k hk=>by have:=h5 k hk;rw[lx,bB]at this;simpa[knC]using this
  dsimp only
  have epx:=S _ _ ep
  refine⟨pl,rfl,⟨_,SqL.of epx⟩,fun D hD=>?_⟩
  refine kC xs.length (by lia) (fun zs H5=>Ims H5 zs ((A3 (its.map It.t)).take zs.length)) (fun _ _ _ h k=>h.mono k) hD rfl (fun k H5 S5 h=>pq epx S5 h) (fun H5 S5=>pA epx S5) .nil ?_ ?_
  ·rintro k H5 v H6 zs Z S5 hk ⟨rfl,hv⟩ hz lz kZ
   have hv:=hv xs (SqL.of (S5 _ _ epx))
   obtain⟨I,hI',a,n,cs,rfl,ea,ec,iN⟩:=vC ix hv
   have S6:=S.trans S5
   refine⟨_,S6 _ _ ea,fc (eY (j:=0) rfl) ?_⟩
   refine kZ _ _ (fun _ _ e=>e) ?_
   rw[aO,aV,bF,lz]
   rw[lz]at hz
   have e3:(A3 (its.map It.t))[k]?=some (ndD I.t):=by
    have:∀{l:List It} {k:Nat},l[k]?=some I->(A3 (l.map It.t))[k]?=some (ndD I.t):=by
     intro l
     induction l with
     |nil=>intro k h;cases h
     |cons J l ih=>
      intro k h
      cases k with
      |zero=>cases h;rfl
      |succ k=>exact ih h
    exact this hI'
   rw[e3]
   exact hz.app (.cons (iN.mono (fE.tk S6)) .nil)
  ·intro H5 zs S5 hz lz ez
   rw[lz,bH (by rw[sZ,aC];lia)]at hz
   refine⟨D,zs,rfl,.inl ⟨SqL.of ez,fun t1 ht1=>⟨tK,fun t2 ht2=>⟨FW,fun a ha=>?_⟩⟩⟩⟩
   have U1:=eW ht1 (.tup zs)
   have U2:=eW ht2 (.tup [.str κ.s,.ref wt,.ref t1])
   have U3:=eW ha (.lst [.ref t2,.int ((ne:Int)+ 1),.int (we:Int),.ref mn,.bl ow,.int (pa:Int)])
   have U12:=U1.trans U2
   have S6:=S.trans (S5.trans U12)
   have em6:=(S5.trans U12) _ _ em
   have nea:a≠mn:=fun z=>by rw[z,em6]at ha;cases ha
   have iN:Im (L2.Internal.upd (L2.Internal.upd H5 t1 (.tup zs)) t2 (.tup [.str κ.s,.ref wt,.ref t1])) (.ref t2) (ndD (.mk κ (its.map It.t))):=by
    rw[ndD]
    exact ig ht2 (.cons (.flat rfl) (.cons (.tup ((S.trans (S5.trans U1)) _ _ ew) (iw.mono (fE.tk (S.trans (S5.trans U1))))) (.cons (ig ht1 hz) .nil)))
   refine q _ a mn (.ref t2) ⟨S6.trans U3,?_,nm,nea,?_,U3 _ _ ?_,iN.mono (fE.tk U3)⟩
   ·cases z:H a with
    |none=>rfl
    |some u=>rw[S6 _ _ z]at ha;cases ha
   ·rw[eS]
    have s1:((knI κ its ho).t.nest:Int)=(ne:Int)+ 1:=by
     show(((Tr.mk κ (its.map It.t)).nest:Nat):Int)=_
     rw[Tr.nest,<-h1]
     simp[TM.Internal.nests]
     lia
    have s2:((knI κ its ho).t.sz:Int)=(pa:Int):=by
     show(((Tr.mk κ (its.map It.t)).sz:Nat):Int)=_
     rw[Tr.sz,<-h4]
     simp[szs]
    have s3:(knI κ its ho).w=we:=by show 1+knW its=_;rw[<-h2];rfl
    have s4:(knI κ its ho).own=ow:=by show knO its=_;rw[<-h3];exact Bool.or_false _
    unfold itV
    rw[s1,s2,s3,s4]
   ·rw[em6]
    show some (HO.lst (cV3 c))=some (.lst (cV3 (knC its ho)))
    unfold cV3
    rw[h5 0 (by lia),h5 1 (by lia),h5 2 (by lia)]
open TM.Internal (Kn Tr gF szs)
def FS (st:Addr) (H H':Hp):Prop:=∀a o,H a=some o->a≠st->H' a=some o
theorem FS.trans {st:Addr} {H H1 H2:Hp} (f:FS st H H1) (g:FS st H1 H2):FS st H H2:=fun a o e n=>g a o (f a o e n) n
theorem FS.same {st:Addr} {H H':Hp} (S:fE H H'):FS st H H':=fun a o e _=>S a o e
def Stk (H:Hp) (st:Addr) (sn:Nat) (J:It->Prop):Prop:=∃xs,Y3 (H st=some (.lst xs)) (xs.length<=sn) (∀x∈xs,∃I,ItA H x I/\J I)
theorem Stk.tk {H H':Hp} {st:Addr} {sn:Nat} {J:It->Prop} (h:Stk H st sn J) (F:FS st H H'):TK H H':=fun a xs e=>by
 obtain⟨ys,e1,_⟩:=h
 exact F a _ e (jw e e1 fun z=>nomatch z)
theorem ItA.fs {H H':Hp} {st:Addr} {sn:Nat} {J:It->Prop} {x:V} {I:It} (h:ItA H x I) (k:Stk H st sn J) (F:FS st H H'):ItA H' x I:=by
 have tk:=k.tk F
 obtain⟨xs,es,_,al⟩:=k
 obtain⟨a,n,cs,rfl,e1,e2,i⟩:=h
 have no:∀z:Int,V.int z∉xs:=fun z m=>by
  obtain⟨_,⟨_,_,_,e,_⟩,_⟩:=al _ m
  cases e
 refine⟨a,n,cs,rfl,F _ _ e1 fun z=>?_,F _ _ e2 fun z=>?_,i.mono tk⟩
 ·rw[z,es]at e1
  cases cC.inj e1
  exact no (I.t.nest:Int) (by simp[itV])
 ·rw[z,es]at e2
  cases cC.inj e2
  exact no (I.c 0:Int) (by simp[cV3])
theorem Stk.same {H H':Hp} {st:Addr} {sn:Nat} {J:It->Prop} (k:Stk H st sn J) (S:fE H H'):Stk H' st sn J:=by
 obtain⟨xs,es,l,al⟩:=k
 exact⟨xs,S _ _ es,l,fun x hx=>let⟨I,h,j⟩:=al x hx;⟨I,h.same S,j⟩⟩
def nuI (n:Int):It:=⟨.mk (.num n) [],1,fun _=>0,false⟩
def naI (wl:List Str) (v:Nat):It:=⟨.mk (.name (vr wl v)) [],1,fun k=>if k=v then 1 else 0,false⟩
theorem BY {H:Hp} {t1 t2 t3:Addr} {n:Int} (h1:H t1=none) (h2:(L2.Internal.upd H t1 (.tup [.int n])) t2=none) (h3:(L2.Internal.upd (L2.Internal.upd H t1 (.tup [.int n])) t2 (.tup [])) t3=none):Im (L2.Internal.upd (L2.Internal.upd (L2.Internal.upd H t1 (.tup [.int n])) t2 (.tup [])) t3 (.tup [.str "num",.ref t1,.ref t2])) (.ref t3) (ndD (.mk (.num n) [])):=by
 rw[ndD]
 exact ig h3 (.cons (.flat rfl) (.cons ((ig h1 (.cons (.flat rfl) .nil)).mono (fE.tk (eW h2 _))) (.cons (ig h2 .nil) .nil)))
theorem vD {H:Hp} {t1 t2 t3:Addr} {n:Str} (h1:H t1=none) (h2:(L2.Internal.upd H t1 (.tup [.str n])) t2=none) (h3:(L2.Internal.upd (L2.Internal.upd H t1 (.tup [.str n])) t2 (.tup [])) t3=none):Im (L2.Internal.upd (L2.Internal.upd (L2.Internal.upd H t1 (.tup [.str n])) t2 (.tup [])) t3 (.tup [.str "name",.ref t1,.ref t2])) (.ref t3) (ndD (.mk (.name n) [])):=by
 rw[ndD]
 exact ig h3 (.cons (.flat rfl) (.cons ((ig h1 (.cons (.flat rfl) .nil)).mono (fE.tk (eW h2 _))) (.cons (ig h2 .nil) .nil)))
theorem xQ {H:Hp} {t1 t2 t3:Addr} {a b c:HO} (h1:H t1=none) (h2:(L2.Internal.upd H t1 a) t2=none) (h3:(L2.Internal.upd (L2.Internal.upd H t1 a) t2 b) t3=none):fE H (L2.Internal.upd (L2.Internal.upd (L2.Internal.upd H t1 a) t2 b) t3 c):=(eW h1 _).trans ((eW h2 _).trans (eW h3 _))
inductive XPo (vs:List V) (H:Hp) (Q:VK):Prop
 |mk (st:Addr) (sn:Nat) (J:It->Prop) (e:vs=[.ref st]) (k:Stk H st sn J) (j:J (nuI 0)) (q:∀H' x I,FS st H H'->Stk H' st sn J->ItA H' x I->J I->Q x H')
def Fg:Sp:=fun vs H Q _=>XPo vs H Q
inductive XNm (vs:List V) (H:Hp) (Q:VK):Prop
 |mk (n:Int) (e:vs=[.int n]) (q:∀H' x,fE H H'->ItA H' x (nuI (n%10^60))->Q x H')
def DE:Sp:=fun vs H Q _=>XNm vs H Q
inductive XNa (vs:List V) (H:Hp) (Q:VK):Prop
 |mk (wa:Addr) (wl:List Str) (v:Nat) (e:vs=[.ref wa,.int (v:Int)]) (hw:H wa=some (.lst (wl.map V.str))) (lw:wl.length=16) (hv:v<3) (q:∀H' x,fE H H'->ItA H' x (naI wl v)->Q x H')
def Fh:Sp:=fun vs H Q _=>XNa vs H Q
inductive XMo (vs:List V) (H:Hp) (Q:VK):Prop
 |mk (x:V) (I:It) (k:Int) (e:vs=[x,.int k]) (i:ItA H x I) (q:∀v:Nat,v<3->Q (.int (v:Int)) H)
def Hc:Sp:=fun vs H Q _=>XMo vs H Q
theorem rH {wl:List Str} (lw:wl.length=16) {k:Nat} (hk:k<16):(wl.map V.str)[k]?=some (.str (vr wl k)):=by
 rw[aK,bb (by lia)]
 unfold vr
 rw[bo,bb (by lia)]
 rfl
theorem kB (T:Txt K mg):FO P w base 2 T.d32 DE:=by
 have gD29:=kf (P:=P) (w:=w) (base:=base) T
 refine T.d32.F.ok rj (fun vs H Q E h=>?_) (fun cdv A0 outer s0 H vs Q E hr h=>?_)
 ·obtain⟨n,rfl,_⟩:=h
  rfl
 obtain⟨n,rfl,q⟩:=h
 refine⟨_,(eZ (fz (pF T.d29 gD29 (hr.mono (by lia)) (eR (fC (eR fF (eR (fC (eR (fq iJ (cv 0) (fq BG eV eV)) eT)) (eR (fC eT) eT)))) (eR eV eT))))),?_⟩
 refine⟨⟨by decide,by decide,by decide⟩,(by show(0:Int)<10^(60:Int).toNat;decide+kernel),mE,fun t1 h1=>⟨mD,fun t2 h2=>⟨tK,fun t3 h3=>?_⟩⟩⟩
 refine⟨_,1,.num (n%10^60),rfl,BY h1 h2 h3,fun H' a cs N=>?_⟩
 exact q _ _ ((xQ h1 h2 h3).trans N.sm) N.it
theorem lg (T:Txt K mg):FO P w base 2 T.d31 Fg:=by
 have gD29:=kf (P:=P) (w:=w) (base:=base) T
 refine T.d31.F.ok vj (fun vs H Q E h=>?_) (fun cdv A0 outer s0 H vs Q E hr h=>?_)
 ·obtain⟨st,sn,J,rfl,_⟩:=h
  rfl
 obtain⟨st,sn,J,rfl,k,j,q⟩:=h
 refine⟨_,(eU (gG (fD jE (fS fX rfl T.z_len jB (eR (cv 0) eT)) eV)
   (eZ (fz (pF T.d29 gD29 (hr.mono (by lia)) (eR (fC (eR fF (eR (fC (eR eV eT)) (eR (fC eT) eT)))) (eR eV eT)))))
   fJ)
  (eZ (fz (Br dO dR dS Bs (cv 0))))),?_⟩
 obtain⟨xs,es,ls,al⟩:=id k
 refine⟨st,_,rfl,.inl (SqL.of es),?_⟩
 show if(false ^^ decide ((xs.length:Int)=0))=true then _ else _
 by_cases z:xs.length=0
 ·rw[gR (by lia)]
  refine jW ?_
  refine⟨mE,fun t1 h1=>⟨mD,fun t2 h2=>⟨tK,fun t3 h3=>?_⟩⟩⟩
  refine⟨_,1,.num 0,rfl,BY h1 h2 h3,fun H' a cs N=>?_⟩
  have S:=(xQ h1 h2 h3).trans N.sm
  exact q _ _ (nuI 0) (FS.same S) (k.same S) N.it j
 ·rw[gC (by lia)]
  refine jy ?_
  have hy:xs[xs.length-1]?=some (xs[xs.length-1]'(by lia)):=bb (by lia)
  obtain⟨I,hI',hJ⟩:=al _ (aN hy)
  refine⟨.inl ⟨rfl,_,SqL.of es⟩,st,xs,_,rfl,rfl,es,hy,?_⟩
  have F:FS st H (L2.Internal.upd H st (.lst xs.dropLast)):=fun a o e n=>by rw[eX n];exact e
  exact q _ _ I F ⟨xs.dropLast,eS,by rw[aW];lia,fun x hx=>let⟨I',h,j⟩:=al x (List.dropLast_subset _ hx);⟨I',h.fs k F,j⟩⟩ (hI'.fs k F) hJ
theorem uL (T:Txt K mg):FO P w base 2 T.d33 Fh:=by
 have gD29:=kf (P:=P) (w:=w) (base:=base) T
 refine T.d33.F.ok pD (fun vs H Q E h=>?_) (fun cdv A0 outer s0 H vs Q E hr h=>?_)
 ·obtain⟨wa,wl,v,rfl,_⟩:=h
  rfl
 obtain⟨wa,wl,v,rfl,hw,lw,hv,q⟩:=h
 refine⟨_,(eU (pS (i:=2) pD.nd (pF T.d29 gD29 (hr.mono (by lia)) (eR (fC (eR fF (eR (fC (eR (fh fg (cv 0) (cv 1)) eT)) (eR (fC eT) eT)))) (eR eV eT))))
  (eU (rO eV (rN (fh fg (cv 2) eV) (cv 1) mz))
  (eZ (fz (cv 2))))),?_⟩
 refine⟨_,hw,fc (eY (rH lw (by lia))) ⟨mE,fun t1 h1=>⟨mD,fun t2 h2=>⟨tK,fun t3 h3=>?_⟩⟩⟩⟩
 refine⟨_,1,.name (vr wl v),rfl,vD h1 h2 h3,fun H' a cs N=>?_⟩
 dsimp only[fN]
 have S:=(xQ h1 h2 h3).trans N.sm
 have nc:H cs=none:=by
  cases z:H cs with
  |none=>rfl
  |some u=>have:=N.nc;rw[xQ h1 h2 h3 _ _ z]at this;cases this
 have ej:ixN (cV3 (fun _=>0)).length (v:Int)=some v:=by
  unfold ixN
  rw[f6 (by lia),f6 (by show(v:Int)<((3:Nat):Int);lia)]
  rfl
 refine⟨_,N.ea,fc (eY (j:=3) rfl) ⟨cs,_,_,v,rfl,rfl,N.ec,ej,?_⟩⟩
 have e3:(cV3 (fun _=>0)).set v (.int 1)=cV3 (fun k=>if k=v then 1 else 0):=by
  match v,hv with
  |0,_=>rfl
  |1,_=>rfl
  |2,_=>rfl
 have e3:(cV3 (It.c ⟨.mk (.name (vr wl v)) [],1,fun _=>0,false⟩)).set v (.int 1)=cV3 (naI wl v).c:=e3
 rw[e3]
 refine q _ _ (fun b o e=>by rw[eX (fe e nc)];exact S _ _ e) ⟨a,_,cs,rfl,by rw[eX N.ne];exact N.ea,eS,N.im.mono (ij N.ec).tk⟩
theorem uM (T:Txt K mg):FO P w base 2 T.d34 Hc:=by
 refine T.d34.F.ok uh (fun vs H Q E h=>?_) (fun cdv A0 outer s0 H vs Q E hr h=>?_)
 ·obtain⟨x,I,k,rfl,_⟩:=h
  rfl
 obtain⟨x,I,k,rfl,i,q⟩:=h
 refine⟨_,(eU (gG (fD jE (fq iJ (cv 1) eV) eV)
   (eZ (fz (fq iJ (fq kh (cv 1) eV) eV)))
   fJ)
  (eZ (fz (lO dO dN PySem.F.type_list_index (yX hr) (fh fg (cv 0) eV) (eR (fS (yV rfl) rfl T.z_max BB (eR (fh fg (cv 0) eV) eT)) eT))))),?_⟩
 obtain⟨a,n,cs,rfl,e1,e2,iN⟩:=i
 refine⟨(by show(0:Int)<4;decide),?_⟩
 show if(false ^^ decide (k%4=0))=true then _ else _
 by_cases z:k%4=0
 ·rw[gR z]
  refine jW ⟨⟨by decide,by decide⟩,(by show(0:Int)<3;decide),?_⟩
  have e:k/4%3=(((k/4%3).toNat:Nat):Int):=by lia
  show Q (.int (k/4%3)) H
  rw[e]
  exact q _ (by lia)
 ·rw[gC z]
  refine jy ?_
  refine⟨_,e1,fc (eY (j:=3) rfl) ⟨.inl ⟨rfl,_,SqL.of e2⟩,_,e1,fc (eY (j:=3) rfl) ⟨cs,[(I.c 0:Int),(I.c 1:Int),(I.c 2:Int)],rfl,SqL.of e2,by simp,fun n hn _=>?_⟩⟩⟩
  have go:∀j:Nat,j<3->([(I.c 0:Int),(I.c 1:Int),(I.c 2:Int)]:List Int)[j]?=some n->(∀m:Nat,m<j->([(I.c 0:Int),(I.c 1:Int),(I.c 2:Int)]:List Int)[m]?≠some n)->yW K (.ref cs) [.int n] H Q:=fun j hj h1 h2=>⟨cs,[(I.c 0:Int),(I.c 1:Int),(I.c 2:Int)],n,j,rfl,rfl,SqL.of e2,by simp,h1,h2,q j hj⟩
  by_cases a0:(I.c 0:Int)=n
  ·exact go 0 (by lia) (by rw[<-a0];rfl) (fun m h=>absurd h (cx _))
  by_cases a1:(I.c 1:Int)=n
  ·exact go 1 (by lia) (by rw[<-a1];rfl) (fun m h=>by
    have:m=0:=by lia
    subst this
    intro z
    exact a0 (cC.inj z))
  have a2:(I.c 2:Int)=n:=by
   simp only[ak,bh,or_false]at hn
   lia
  exact go 2 (by lia) (by rw[<-a2];rfl) (fun m h z=>by
   match m,h with
   |0,_=>exact a0 (cC.inj z)
   |1,_=>exact a1 (cC.inj z))
inductive XLt (vs:List V) (H:Hp) (Q:VK):Prop
 |mk (wa:Addr) (wl:List Str) (v:Nat) (x y:V) (b d:It) (e:vs=[.ref wa,.int (v:Int),x,y]) (hw:H wa=some (.lst (wl.map V.str))) (lw:wl.length=16) (hv:v<3) (ix:ItA H x b) (iy:ItA H y d) (hb:b.w<=1000) (hd:d.c v<=1000) (q:∀H' x,fE H H'->ItA H' x (ltI wl v b d)->Q x H')
def Hd:Sp:=fun vs H Q _=>XLt vs H Q
theorem vE (T:Txt K mg):FO P w base 3 T.d37 Hd:=by
 have gD30:=jx (P:=P) (w:=w) (base:=base) T
 refine T.d37.F.rd nB fun cdv A0 outer s H vs Q E hr h=>?_
 obtain⟨wa,wl,v,x,y,b,d,rfl,hw,lw,hv,ix,iy,hb,hd,q⟩:=h
 refine⟨_,(eU (pS (i:=4) nB.nd (pF T.d30 gD30 (hr.mono (by lia)) (eR fF (eR (fC (eR (fh fg (cv 0) (cv 1)) eT)) (eR (fH (eR (cv 2) (eR (cv 3) eT))) (eR (fH (eR (pM lA eV) (eR (cv 1) eT))) eT))))))
  (eU (pS (i:=5) nB.nd (fh fg (fh fg (cv 3) eV) (cv 1)))
  (eU (rO (fq gk (fh fg (cv 4) eV) (fq qm (cv 5) (fh fg (cv 2) eV))) (rN (cv 4) eV mz))
  (eU (rO (qk rfl (uY (x:="_law_k") ["_law_times","_law_item","_law_bound"] [("_law_times",5,s.heap.objs.size+ 3),("_law_item",4,s.heap.objs.size+ 2),("_law_bound",2,s.heap.objs.size+ 1)]) (gY rfl T.z_range (eR eV eT)) (fun _ _ _ _ _=>iB) (fun _ _ _ _ _=>(fq gk (fh fg (fh fg (cv 2) eV) (cv 0)) (fq qm (cv 1) (fh fg (fh fg (cv 3) eV) (cv 0)))))) (rN (cv 4) eV mz))
  (eZ (fz (cv 4))))))),?_⟩
 have sl:=sizeLine_eq
 refine⟨_,hw,fc (eY (rH lw (by lia))) ⟨mE,fun t1 h1=>⟨lI,fun l2 h2=>?_⟩⟩⟩
 refine⟨1,rfl,lI,fun l3 h3=>?_⟩
 have T1:=eW h1 (.tup [.str (vr wl v)])
 have T2:=eW h2 (.lst [x,y])
 have T3:=eW h3 (.lst [.int (-1),.int (v:Int)])
 have T13:=T1.trans (T2.trans T3)
 refine⟨t1,l2,l3,.lt (vr wl v),_,_,[b,d],[none,some v],rfl,(T2.trans T3) _ _ eS,.cons (.flat rfl) .nil,T3 _ _ eS,.cons (ix.same T13) (.cons (iy.same T13) .nil),eS,rfl,(by show 2<=1000;decide),fun H4 a cs n N=>?_⟩
 dsimp only[fN]
 have S4:=T13.trans N.sm
 obtain⟨a1,n1,c1,rfl,ea1,ec1,in1⟩:=ix
 obtain⟨a2,n2,c2,rfl,ea2,ec2,in2⟩:=iy
 have na:H a=none:=by
  cases z:H a with
  |none=>rfl
  |some u=>have:=N.na;rw[T13 _ _ z]at this;cases this
 have ea1':=S4 _ _ ea1
 have ec1':=S4 _ _ ec1
 have q3:=at3 (c:=d.c) hv
 rw[eG]at q3
 refine⟨_,S4 _ _ ea2,fc (eY (j:=3) rfl) ⟨_,S4 _ _ ec2,fc q3 ?_⟩⟩
 dsimp only[fN]
 refine⟨_,N.ea,fc (eY (j:=2) rfl) ⟨_,ea1',fc (eY (j:=2) rfl) ⟨.inl ⟨by lia,by lia⟩,?_⟩⟩⟩
 refine⟨a,_,2,2,rfl,rfl,N.ea,rfl,?_⟩
 have F5:∀{p:Addr} {o:HO},H p=some o->(L2.Internal.upd H4 a (.lst ((itV n (knI (.lt (vr wl v)) [b,d] [none,some v]) cs).set 2 (.int (((1+knW [b,d]:Nat):Int)+(d.c v:Int)*(b.w:Int)))))) p=some o:=fun e=>by rw[eX (fe e na)];exact S4 _ _ e
 have ea5:(L2.Internal.upd H4 a (.lst ((itV n (knI (.lt (vr wl v)) [b,d] [none,some v]) cs).set 2 (.int (((1+knW [b,d]:Nat):Int)+(d.c v:Int)*(b.w:Int)))))) a=some (.lst ((itV n (knI (.lt (vr wl v)) [b,d] [none,some v]) cs).set 2 (.int (((1+knW [b,d]:Nat):Int)+(d.c v:Int)*(b.w:Int))))):=eS
 have ec5:(L2.Internal.upd H4 a (.lst ((itV n (knI (.lt (vr wl v)) [b,d] [none,some v]) cs).set 2 (.int (((1+knW [b,d]:Nat):Int)+(d.c v:Int)*(b.w:Int)))))) cs=some (.lst (cV3 (knC [b,d] [none,some v]))):=by rw[eX N.ne.symm];exact N.ec
 have i5:=N.im.mono (ij (o:= .lst ((itV n (knI (.lt (vr wl v)) [b,d] [none,some v]) cs).set 2 (.int (((1+knW [b,d]:Nat):Int)+(d.c v:Int)*(b.w:Int))))) N.ea).tk
 show yd _ _ _ _ (L2.Internal.upd H4 a (.lst ((itV n (knI (.lt (vr wl v)) [b,d] [none,some v]) cs).set 2 (.int (((1+knW [b,d]:Nat):Int)+(d.c v:Int)*(b.w:Int))))))
 generalize(L2.Internal.upd H4 a (.lst ((itV n (knI (.lt (vr wl v)) [b,d] [none,some v]) cs).set 2 (.int (((1+knW [b,d]:Nat):Int)+(d.c v:Int)*(b.w:Int))))))=H5 at F5 ea5 ec5 i5
 refine⟨3,rfl,by decide,by decide,fun D hD=>?_⟩
 refine kC 3 (by lia) (fun zs H6=>zs=(cV3 (ltI wl v b d).c).take zs.length) (fun _ _ _ h _=>h) hD rfl (fun k _ _ h=>h) (fun _ _=>b9 _) rfl ?_ ?_
 ·rintro k H6 x H7 zs Z S6 hk ⟨rfl,rfl⟩ hz lz kZ
  refine⟨_,S6 _ _ ea5,fc (eY (j:=3) rfl) ⟨_,S6 _ _ ec5,fc (at3 hk) ?_⟩⟩
  refine⟨_,S6 _ _ (F5 ea1),fc (eY (j:=3) rfl) ⟨_,S6 _ _ (F5 ec1),fc (at3 hk) ⟨.inl ⟨by lia,by lia⟩,?_⟩⟩⟩
  refine kZ _ _ (fun _ _ e=>e) ?_
  rw[aO,aV,bF,lz]
  rw[lz]at hz
  have e3:(cV3 (ltI wl v b d).c)[k]?=some (.int ((knC [b,d] [none,some v] k:Int)+(d.c v:Int)*(b.c k:Int))):=by
   match k,hk with
   |0,_=>rfl
   |1,_=>rfl
   |2,_=>rfl
  rw[e3,<-hz]
  rfl
 ·intro H6 zs S6 hz lz ez
  rw[lz]at hz
  have hz:zs=cV3 (ltI wl v b d).c:=hz
  subst hz
  have ea6:=S6 _ _ ea5
  refine⟨a,_,3,3,rfl,rfl,ea6,rfl,?_⟩
  have nea:D≠a:=fun z=>by rw[z,ea5]at hD;cases hD
  refine q _ _ (fun p o e=>by rw[eX (fe e na)];exact S6 _ _ (F5 e)) ⟨a,n,D,rfl,?_,by rw[eX nea];exact ez,(i5.mono (fE.tk S6)).mono (ij ea6).tk⟩
  rw[eS]
  rfl
open TM.Internal (Kn Tr gF szs)
def JS (wl:List Str) (made:List Nat) (I:It):Prop:=Y4 (JI wl made I) (I.w<=40) (I.t.nest<=16) (I.t.sz<=140)
theorem JI.num {wl:List Str} {made:List Nat} (n:Int):JI wl made (nuI n):=by
 refine⟨fun e _=>?_,fun N _ _ _=>?_,fun k _=>cb _⟩
 ·show wT (.mk (.num n) []) e=1+cw (fun _=>0) wl e
  rw[uF,k9]
  simp[cw,nmW]
 ·show okT (.mk (.num n) []) N
  unfold okT sV
  exact⟨rfl,trivial⟩
theorem JS.num {wl:List Str} {made:List Nat} (n:Int):JS wl made (nuI n):=⟨JI.num n,by show 1<=40;decide,by show(Tr.mk (.num n) []).nest<=16;simp[Tr.nest,TM.Internal.nests],by show(Tr.mk (.num n) []).sz<=140;simp[Tr.sz,szs]⟩
theorem JI.name {wl:List Str} {made:List Nat} {v:Nat} (hv:v<3):JI wl made (naI wl v):=by
 refine⟨fun e _=>?_,fun N _ _ h=>?_,fun k _=>?_⟩
 ·show wT (.mk (.name (vr wl v)) []) e=1+cw (fun k=>if k=v then 1 else 0) wl e
  rw[uF,k9]
  match v,hv with
  |0,_=>simp[cw,nmW]
  |1,_=>simp[cw,nmW]
  |2,_=>simp[cw,nmW]
 ·show okT (.mk (.name (vr wl v)) []) N
  unfold okT sV
  exact⟨⟨rfl,h v hv (by show 0<if v=v then 1 else 0;simp)⟩,trivial⟩
 ·show(if k=v then 1 else 0)<=1
  split<;>lia
def deI (wl:List Str) (made:List Nat) (d:Nat):It:=⟨.mk (.name (wdE wl d)) [],1+made.getD d 0,fun _=>0,false⟩
def owI (wl:List Str) (made:List Nat):It:=⟨.mk (.name (wdE wl made.length)) [],1,fun _=>0,true⟩
theorem JI.df {wl:List Str} {made:List Nat} {d:Nat} (hd:d<made.length):JI wl made (deI wl made d):=by
 refine⟨fun e he=>?_,fun N h _ _=>?_,fun k _=>cb _⟩
 ·show wT (.mk (.name (wdE wl d)) []) e=1+made.getD d 0+cw (fun _=>0) wl e
  rw[uF,k9]
  simp only[nmW,cw]
  rw[he.1 d hd]
  lia
 ·show okT (.mk (.name (wdE wl d)) []) N
  unfold okT sV
  exact⟨⟨rfl,h d hd⟩,trivial⟩
theorem JI.ow {wl:List Str} {made:List Nat}:JI wl made (owI wl made):=by
 refine⟨fun e he=>?_,fun N _ h _=>?_,fun k _=>cb _⟩
 ·show wT (.mk (.name (wdE wl made.length)) []) e=1+cw (fun _=>0) wl e
  rw[uF,k9]
  simp only[nmW,cw]
  rw[he.2]
  lia
 ·show okT (.mk (.name (wdE wl made.length)) []) N
  unfold okT sV
  exact⟨⟨rfl,h rfl⟩,trivial⟩
theorem zU {α β:Type} {R:α->β->Prop} {J:β->Prop}:∀{xs:List α},(∀x∈xs,∃y,R x y/\J y)->∃ys,mH R xs ys/\∀y∈ys,J y
 |[],_=>⟨[],.nil,fun _ h=>by cases h⟩
 |x::xs,h=>by
  obtain⟨y,r,j⟩:=h x (by simp)
  obtain⟨ys,rs,js⟩:=zU (xs:=xs) fun z hz=>h z (aj _ hz)
  refine⟨y::ys,.cons r rs,fun z hz=>?_⟩
  rcases ak.mp hz with rfl|hz
  ·exact j
  ·exact js z hz
theorem DF {st D:Addr} {sn:Nat} {J:It->Prop} {n:Nat} {Q:VK} {H1:Hp} (hn:n<=50) (k0:Stk H1 st sn J) (j0:J (nuI 0)) (hD:H1 D=none) (hq:∀H' zs its,FS st H1 H'->Stk H' st sn J->H' D=some (.lst zs)->mH (ItA H') zs its->its.length=n->(∀I∈its,J I)->Q (.ref D) H'):LcP (Itr 0 n) 0 mO (rf Fg [] E0 (jL (cV 1) tP)) Q [none,some (.ref st)] H1 D:=by
 have sl:=sizeLine_eq
 have nst:D≠st:=fun z=>by obtain⟨xs,e,_⟩:=k0;rw[z,e]at hD;cases hD
 refine⟨fun k m σ' H=>Y4 (m=n-k) (k<=n) ((∃o,σ'=[o,some (.ref st)])) (∃zs,Y5 (zs.length=k) (H D=some (.lst zs)) (Stk H st sn J) (FS st H1 H) (∀x∈zs,∃I,ItA H x I/\J I)),⟨n,rfl,cb _,⟨none,rfl⟩,[],rfl,eS,k0.same (eW hD _),FS.same (eW hD _),fun _ h=>by cases h⟩,?_⟩
 rintro k m σ' H ⟨rfl,hk,⟨o,rfl⟩,zs,lz,eD,ks,F,al⟩
 by_cases lk:k<n
 ·refine .inr ⟨lk,?_⟩
  rintro v H3 ⟨rfl,rfl⟩
  dsimp only[mO]
  rw[f6 rfl]
  refine⟨st,sn,J,rfl,ks,j0,fun H5 x I F5 k5 i5 jI=>?_⟩
  have e5:=F5 _ _ eD nst
  have al5:∀x∈zs,∃I,ItA H5 x I/\J I:=fun x hx=>let⟨I,a,b⟩:=al x hx;⟨I,a.fs ks F5,b⟩
  have kD:Stk H5 D 100 J:=⟨zs,e5,by lia,al5⟩
  have F6:FS D H5 (L2.Internal.upd H5 D (.lst (zs++[x]))):=fun a o e n=>by rw[eX n];exact e
  refine⟨zs,e5,by lia,n-(k+ 1),by lia,rfl,lk,⟨_,rfl⟩,zs++[x],by rw[aO,lz];rfl,eS,?_,fun a o e n=>?_,fun y hy=>?_⟩
  ·obtain⟨xs,es,ls,als⟩:=k5
   exact⟨xs,F6 _ _ es nst.symm,ls,fun y hy=>let⟨I,a,b⟩:=als y hy;⟨I,a.fs kD F6,b⟩⟩
  ·rw[eX (fe e hD)]
   exact F5 _ _ (F _ _ e n) n
  ·rcases ao.mp hy with hy|hy
   ·obtain⟨I',a,b⟩:=al5 y hy
    exact⟨I',a.fs kD F6,b⟩
   ·rw[ba.mp hy]
    exact⟨I,i5.fs kD F6,jI⟩
 ·have e1:k=n:=by lia
  subst e1
  obtain⟨its,a2,js⟩:=zU al
  exact .inl ⟨b9 _,hq H zs its F ks eD a2 (by rw[<-a2.length];exact lz) js⟩
inductive XWi (L:Int->Int->Prop) (vs:List V) (H:Hp) (Q:VK):Prop
 |mk (wa st:Addr) (sn:Nat) (wl:List Str) (made:List Nat) (op k:Int) (e:vs=[.ref wa,.ref st,.int op,.int k]) (ho:L op k) (hw:H wa=some (.lst (wl.map V.str))) (lw:wl.length=16) (nd:wl.Nodup) (lm:made.length<=12) (nws:wa≠st) (ks:Stk H st sn (JS wl made)) (q:∀H' x I,FS st H H'->Stk H' st sn (JS wl made)->ItA H' x I->JI wl made I->Q x H')
def Fi (L:Int->Int->Prop):Sp:=fun vs H Q _=>XWi L vs H Q
def hs3:Nat->Str
 |0=>"get"
 |1=>"tag"
 |_=>"size"
def pk3 (a b c:Addr):Nat->Addr
 |0=>a
 |1=>b
 |_=>c
def hs5:Nat->Str
 |0=>"call"
 |1=>"join"
 |2=>"add"
 |3=>"sub"
 |_=>"less"
theorem rJ {H:Hp} {Q:VK} {wt pl hl:Addr} {κ:Kn} {h:Str} {ws xs ys:List V} {its:List It} {ho:List (Option Nat)} (eh:h=κ.s) (ew:H wt=some (.tup ws)) (iw:Ims H ws (wsD κ)) (ep:H pl=some (.lst xs)) (ix:mH (ItA H) xs its) (e4:H hl=some (.lst ys)) (ey:ys=ho.map hI) (l:ho.length=its.length) (ln:its.length<=1000) (q:∀H' x,fE H H'->ItA H' x (knI κ its ho)->Q x H'):DD [.str h,.ref wt,.ref pl,.ref hl] H Q E0:=
 ⟨wt,pl,hl,κ,ws,xs,its,ho,by rw[eh],ew,iw,ep,ix,by rw[e4,ey],l,ln,fun H' a cs n N=>q H' _ N.sm N.it⟩
theorem rK (T:Txt K mg):FO P w base 3 T.d36 (Fi fun op _=>op=0\/op=1\/op=2):=by
 have gD30:=jx (P:=P) (w:=w) (base:=base) T
 have gD31:=lg (P:=P) (w:=w) (base:=base) T
 refine T.d36.F.rd ip fun cdv A0 outer s H vs Q E hr h=>?_
 obtain⟨wa,st,sn,wl,made,op,k,rfl,ho,hw,lw,nd,lm,nws,ks,q⟩:=h
 refine⟨_,(eU (pS (i:=4) ip.nd (pF T.d31 gD31 (hr.mono (by lia)) (eR (cv 1) eT)))
  (eU (gG (fD jE (cv 2) eV)
   (eU (pS (i:=5) ip.nd (fh fg (fH (eR fF (eR fF (eR fF eT)))) (fq iJ (cv 3) eV)))
   (eU (pS (i:=6) ip.nd (fh fg (fH (eR (fC (eR (fh fg (cv 0) (fq iJ (fq kh (cv 3) eV) eV)) eT)) (eR (fC (eR (fh fg (cv 0) (fq iJ (fq kh (cv 3) eV) eV)) eT)) (eR (fC eT) eT)))) (fq iJ (cv 3) eV)))
   (eZ (fz (pF T.d30 gD30 (hr.mono (by lia)) (eR (cv 5) (eR (cv 6) (eR (fH (eR (cv 4) eT)) (eR (fH (eR (pM lA eV) eT)) eT)))))))))
   fJ)
  (eU (gG (fD jE (cv 2) eV)
   (eU (pS (i:=7) ip.nd (fH (eR (pF T.d31 gD31 (hr.mono (by lia)) (eR (cv 1) eT)) (eR (pF T.d31 gD31 (hr.mono (by lia)) (eR (cv 1) eT)) (eR (cv 4) eT)))))
   (eZ (fz (pF T.d30 gD30 (hr.mono (by lia)) (eR fF (eR (fC eT) (eR (cv 7) (eR (fH (eR (pM lA eV) (eR (pM lA eV) (eR (pM lA eV) eT)))) eT))))))))
   fJ)
  (eZ (fz (pF T.d30 gD30 (hr.mono (by lia)) (eR (fh fg (fH (eR fF (eR fF (eR fF (eR fF (eR fF eT)))))) (fq iJ (cv 3) eV)) (eR (fC eT) (eR (fH (eR (pF T.d31 gD31 (hr.mono (by lia)) (eR (cv 1) eT)) (eR (cv 4) eT))) (eR (fH (eR (pM lA eV) (eR (pM lA eV) eT))) eT)))))))))),?_⟩
 have sl:=sizeLine_eq
 refine⟨st,sn,JS wl made,rfl,ks,JS.num 0,fun H1 x I F1 k1 i1 j1=>?_⟩
 dsimp only[fN]
 have hw1:=F1 _ _ hw nws
 by_cases e0:op=0
 ·refine sj (i:=2) (n:=op) rfl e0 ?_
  refine⟨tK,fun l1 h1=>?_⟩
  obtain⟨j,hj,ej⟩:∃j:Nat,j<3/\k%3=(j:Int):=⟨(k%3).toNat,by lia,by lia⟩
  obtain⟨i,hi,ei⟩:∃i:Nat,i<16/\k/3%16=(i:Int):=⟨(k/3%16).toNat,by lia,by lia⟩
  have qw:atI (wl.map V.str) (k/3%16)=some (.str (vr wl i)):=by rw[ei];exact eY (rH lw hi)
  have U1:=eW h1 (.lst [.str "get",.str "tag",.str "size"])
  have fin:∀(κ:Kn) (H2:Hp) (wt:Addr) (ws:List V),fE H1 H2->H2 wt=some (.tup ws)->Ims H2 ws (wsD κ)->exN κ=[]->(∀w,κ≠ .name w)->(∀N,okK κ 1 N)->∀(σ:St),σ[5]?=some (some (.str κ.s))->σ[6]?=some (some (.ref wt))->σ[4]?=some (some x)->Ga (rf DD [] E0 (jL (cV 5) (jL (cV 6) (jL (FQ (jL (cV 4) tP)) (jL (FQ (jL (tUn (rU fun i=>V.int (-i)) (tC (V.int 1))) tP)) tP))))) {nx:=fun x H'=>Q V.non H',rt:=Q} σ H2:=by
   intro κ H2 wt ws U ew iw ex nn ok σ s5 s6 s4
   show onV σ[5]? _
   rw[s5]
   show onV σ[6]? _
   rw[s6]
   show onV σ[4]? _
   rw[s4]
   refine⟨mE,fun l3 h3=>⟨1,rfl,mE,fun l4 h4=>?_⟩⟩
   have U3:=eW h3 (.lst [x])
   have U4:=eW h4 (.lst [.int (-1)])
   have U34:=U3.trans U4
   refine rJ (κ:=κ) (its:=[I]) (ho:=[none]) rfl (U34 _ _ ew) (iw.mono (fE.tk U34)) (U4 _ _ eS) (.cons (i1.same (U.trans U34)) .nil) eS rfl rfl (by show 1<=1000;decide) fun H' x' S' i'=>?_
   have U':=U.trans (U34.trans S')
   exact q H' x' _ (F1.trans (FS.same U')) (k1.same U') i' (JI.knit lw nd lm rfl (by rw[ex];exact⟨rfl,trivial⟩) (fun J hJ=>by rw[ba.mp hJ];exact j1.1) nn ok)
  have qh:atI [V.str "get",V.str "tag",V.str "size"] (k%3)=some (.str (hs3 j)):=by
   rw[ej]
   match j,hj with
   |0,_=>rfl
   |1,_=>rfl
   |2,_=>rfl
  refine⟨(by show(0:Int)<3;decide),_,eS,fc qh ?_⟩
  dsimp only[fN]
  have hw2:=U1 _ _ hw1
  refine⟨⟨by decide,by decide⟩,(by show(0:Int)<16;decide),_,hw2,fc qw ⟨mE,fun t1 g1=>?_⟩⟩
  have V1:=eW g1 (.tup [.str (vr wl i)])
  refine⟨⟨by decide,by decide⟩,(by show(0:Int)<16;decide),_,V1 _ _ hw2,fc qw ⟨mE,fun t2 g2=>⟨mD,fun t3 g3=>⟨tK,fun l2 g4=>?_⟩⟩⟩⟩
  have V2:=eW g2 (.tup [.str (vr wl i)])
  have V3:=eW g3 (.tup [])
  have V4:=eW g4 (.lst [.ref t1,.ref t2,.ref t3])
  have qp:atI [V.ref t1,V.ref t2,V.ref t3] (k%3)=some (.ref (pk3 t1 t2 t3 j)):=by
   rw[ej]
   match j,hj with
   |0,_=>rfl
   |1,_=>rfl
   |2,_=>rfl
  refine⟨(by show(0:Int)<3;decide),_,eS,fc qp ?_⟩
  dsimp only[fN]
  have UV:=U1.trans (V1.trans (V2.trans (V3.trans V4)))
  match j,hj with
  |0,_=>exact fin (.get (vr wl i)) _ t1 _ UV ((V2.trans (V3.trans V4)) _ _ eS) (.cons (.flat rfl) .nil) rfl (fun _ z=>nomatch z) (fun _=>rfl) _ rfl rfl rfl
  |1,_=>exact fin (.tag (vr wl i)) _ t2 _ UV ((V3.trans V4) _ _ eS) (.cons (.flat rfl) .nil) rfl (fun _ z=>nomatch z) (fun _=>rfl) _ rfl rfl rfl
  |2,_=>exact fin (.op "size" 1) _ t3 _ UV (V4 _ _ eS) .nil rfl (fun _ z=>nomatch z) (fun _=>⟨rfl,by simp[TM.Internal.ops]⟩) _ rfl rfl rfl
 refine sk (i:=2) (n:=op) rfl e0 ?_
 dsimp only[jD]
 by_cases e1:op=1
 ·refine sj (i:=2) (n:=op) rfl e1 ?_
  refine⟨st,sn,JS wl made,rfl,k1,JS.num 0,fun H2 x2 I2 F2 k2 i2 j2=>?_⟩
  refine⟨st,sn,JS wl made,rfl,k2,JS.num 0,fun H3 x3 I3 F3 k3 i3 j3=>?_⟩
  refine⟨tK,fun l3 h3=>?_⟩
  dsimp only[fN]
  refine⟨mD,fun t4 h4=>⟨1,rfl,1,rfl,1,rfl,tK,fun l5 h5=>?_⟩⟩
  have U3:=eW h3 (.lst [x2,x3,x])
  have U4:=eW h4 (.tup [])
  have U5:=eW h5 (.lst [.int (-1),.int (-1),.int (-1)])
  have U:=U3.trans (U4.trans U5)
  refine rJ (κ:= .op "at" 3) (its:=[I2,I3,I]) (ho:=[none,none,none]) rfl (U5 _ _ eS) .nil ((U4.trans U5) _ _ eS) (.cons ((i2.fs k2 F3).same U) (.cons (i3.same U) (.cons (((i1.fs k1 F2).fs k2 F3).same U) .nil))) eS rfl rfl (by show 3<=1000;decide) fun H' x' S' i'=>?_
  have U':=U.trans S'
  exact q H' x' _ (F1.trans (F2.trans (F3.trans (FS.same U')))) (k3.same U') i' (JI.knit lw nd lm rfl ⟨rfl,rfl,rfl,trivial⟩ (fun J hJ=>by
   simp only[ak,bh,or_false]at hJ
   rcases hJ with rfl|rfl|rfl
   ·exact j2.1
   ·exact j3.1
   ·exact j1.1) (fun _ z=>nomatch z) (fun _=>⟨rfl,by simp[TM.Internal.ops]⟩))
 refine sk (i:=2) (n:=op) rfl e1 ?_
 dsimp only[jD]
 obtain⟨j,hj,ej⟩:∃j:Nat,j<5/\k%5=(j:Int):=⟨(k%5).toNat,by lia,by lia⟩
 have qh:atI [V.str "call",V.str "join",V.str "add",V.str "sub",V.str "less"] (k%5)=some (.str (hs5 j)):=by
  rw[ej]
  match j,hj with
  |0,_=>rfl
  |1,_=>rfl
  |2,_=>rfl
  |3,_=>rfl
  |4,_=>rfl
 have ho5:(hs5 j,2)∈TM.Internal.ops:=by
  match j,hj with
  |0,_=>simp[TM.Internal.ops,hs5]
  |1,_=>simp[TM.Internal.ops,hs5]
  |2,_=>simp[TM.Internal.ops,hs5]
  |3,_=>simp[TM.Internal.ops,hs5]
  |4,_=>simp[TM.Internal.ops,hs5]
 refine⟨FJ,fun l1 h1=>⟨(by show(0:Int)<5;decide),_,eS,fc qh ⟨mD,fun t2 h2=>?_⟩⟩⟩
 have V1:=eW h1 (.lst [.str "call",.str "join",.str "add",.str "sub",.str "less"])
 have V2:=eW h2 (.tup [])
 have V:=V1.trans V2
 have k1':=k1.same V
 refine⟨st,sn,JS wl made,rfl,k1',JS.num 0,fun H2 x2 I2 F2 k2 i2 j2=>?_⟩
 refine⟨lI,fun l3 h3=>⟨1,rfl,1,rfl,lI,fun l5 h5=>?_⟩⟩
 have U3:=eW h3 (.lst [x2,x])
 have U5:=eW h5 (.lst [.int (-1),.int (-1)])
 have U:=U3.trans U5
 refine rJ (κ:= .op (hs5 j) 2) (its:=[I2,I]) (ho:=[none,none]) rfl (U _ _ (k1'.tk F2 _ _ eS)) .nil (U5 _ _ eS) (.cons (i2.same U) (.cons (((i1.same V).fs k1' F2).same U) .nil)) eS rfl rfl (by show 2<=1000;decide) fun H' x' S' i'=>?_
 have U':=U.trans S'
 exact q H' x' _ (F1.trans ((FS.same V).trans (F2.trans (FS.same U')))) (k2.same U') i' (JI.knit lw nd lm rfl ⟨rfl,rfl,trivial⟩ (fun J hJ=>by
  simp only[ak,bh,or_false]at hJ
  rcases hJ with rfl|rfl
  ·exact j2.1
  ·exact j1.1) (fun _ z=>nomatch z) (fun _=>⟨rfl,ho5⟩))
open TM.Internal (Kn Tr gF szs)
theorem vF {wl:List Str}:∀n:Nat,Mxs wl [] (aG n none)
 |0=>trivial
 |n+ 1=>⟨rfl,vF n⟩
theorem zV {wl:List Str}:∀{l:List (Str×Str)} {vs:List Nat},(∀(i:Nat) a v,l[i]?=some a->vs[i]?=some v->v<3/\a.2=vr wl v)->l.length=vs.length->Mxs wl (l.map fun a=>some (a.2,("arm":Str))) (vs.map some)
 |[],[],_,_=>trivial
 |a::l,v::vs,h,e=>by
  obtain⟨h1,h2⟩:=h 0 a v rfl rfl
  exact⟨h1,⟨"arm",fW,by rw[<-h2];rfl⟩,zV (fun i a v ha hv=>h (i+ 1) a v ha hv) (by simpa using e)⟩
 |[],_::_,_,e=>by cases e
 |_::_,[],_,e=>by cases e
theorem Fj {xs:List V} {n:Nat}:rh xs none (some (n:Int))=xs.take n:=by
 unfold rh
 rw[HT.Internal.sIx_none,HT.Internal.sIx_nat,List.drop_zero,Nat.sub_zero]
 by_cases h:n<=xs.length
 ·rw[Nat.min_eq_left h]
 ·rw[Nat.min_eq_right (by lia),bu,bH (by lia)]
theorem wF (n:Nat):(aG n (none:Option Nat)).map hI=aG n (.int (-1)):=by rw[List.map_replicate];rfl
theorem BZ {K:PySem.W.Frag} {l D:Addr} {xs:List V} {Q:VK} {H1:Hp} (el:H1 l=some (.lst xs)) (hD:H1 D=none) (hn:xs.length<=1000) (hq:∀H',fE H1 H'->H' D=some (.lst (aG xs.length (.int (-1))))->Q (.ref D) H'):LcP (Itl K l) 0 mO (tUn (rU fun i=>V.int (-i)) (tC (V.int 1))) Q [none] H1 D:=by
 have sl:=sizeLine_eq
 refine kC xs.length (by lia) (fun zs _=>zs=aG zs.length (.int (-1))) (fun _ _ _ h _=>h) hD rfl (fun k H5 S5 h=>pq el S5 h) (fun H5 S5=>pA el S5) rfl ?_ ?_
 ·rintro k H v H3 zs Z S hk ⟨rfl,_⟩ hz lz kZ
  refine⟨1,rfl,kZ _ _ (fun _ _ e=>e) ?_⟩
  rw[aO,aV,bN,<-hz]
 ·intro H' zs S hz lz ez
  rw[lz]at hz
  exact hq H' S (by rw[ez,hz])
abbrev DX (a b:TE):TE:=tOp (cI (fun _ j=>0<j) fun i j=>V.int (i%j)) a b
abbrev tDv (a b:TE):TE:=tOp (cI Gj fun i j=>V.int (i/j)) a b
theorem Bb {σ:St} {R:TS} {D:pj} {H:Hp} {op k:Int} (h2:σ[2]?=some (some (.int op))) (h3:σ[3]?=some (some (.int k))) (ho:op=0\/op=1\/op=2) (h:∀(n:Nat) (H':Hp),n<=8->(op=2->n<=5)->fE H H'->R D (σ.set 4 (some (.int (n:Int)))) H'):
  yd (Aj (DX (tDv (cV 3) (tC (.int 3))) (tC (.int 3))) (fN 4)) (yd (vQ (cT (tOp (cEq false) (DX (tDv (cV 3) (tC (.int 9))) (tC (.int 4))) (tC (.int 0)))) (Aj (DX (tDv (cV 3) (tC (.int 36))) (tOp AG (FQ (jL (tC (.int 7)) (jL (tC (.int 9)) (jL (tC (.int 6)) tP)))) (cV 2))) (fN 4)) jD) R) D σ H:=by
 show onV σ[3]? _
 rw[h3]
 refine⟨⟨by decide,by decide⟩,(by show(0:Int)<3;decide),?_⟩
 have e1:k/3%3=(((k/3%3).toNat:Nat):Int):=by lia
 have s3:(σ.set 4 (some (.int (k/3%3))))[3]?=some (some (.int k)):=by rw[aw (by decide)];exact h3
 have s2:(σ.set 4 (some (.int (k/3%3))))[2]?=some (some (.int op)):=by rw[aw (by decide)];exact h2
 show onV (σ.set 4 (some (.int (k/3%3))))[3]? _
 rw[s3]
 refine⟨⟨by decide,by decide⟩,(by show(0:Int)<4;decide),?_⟩
 show if(false ^^ decide (k/9%4=0))=true then _ else _
 by_cases z:k/9%4=0
 ·rw[gR z]
  refine jW ?_
  show onV (σ.set 4 (some (.int (k/3%3))))[3]? _
  rw[s3]
  refine⟨⟨by decide,by decide⟩,tK,fun l hl=>?_⟩
  show onV (σ.set 4 (some (.int (k/3%3))))[2]? _
  rw[s2]
  obtain⟨m,em,h0,h9,h5⟩:∃m:Int,atI [V.int 7,V.int 9,V.int 6] op=some (.int m)/\0<m/\m<=9/\(op=2->m<=6):=by
   rcases ho with rfl|rfl|rfl
   ·exact⟨7,rfl,by decide,by decide,fun z=>by cases z⟩
   ·exact⟨9,rfl,by decide,by decide,fun z=>by cases z⟩
   ·exact⟨6,rfl,by decide,by decide,fun _=>by decide⟩
  refine⟨_,eS,fc em ⟨h0,?_⟩⟩
  have c0:=eC (k/36) (show m≠0 by lia)
  have c1:=eE (k/36) h0
  have e2:k/36%m=(((k/36%m).toNat:Nat):Int):=by lia
  have h':=h (k/36%m).toNat _ (by lia) (fun y=>by have:=h5 y;lia) (eW hl (.lst [.int 7,.int 9,.int 6]))
  rw[<-e2]at h'
  show R D ((σ.set 4 (some (.int (k/3%3)))).set 4 (some (.int (k/36%m)))) _
  rw[bq]
  exact h'
 ·rw[gC z]
  refine jy ?_
  have h':=h (k/3%3).toNat H (by lia) (fun _=>by lia) (fun _ _ e=>e)
  rw[<-e1]at h'
  exact h'
theorem Bc {wa D:Addr} {wl:List Str} {n:Nat} {k:Int} {Q:VK} {H1:Hp} (hw:H1 wa=some (.lst (wl.map V.str))) (lw:wl.length=16) (hD:H1 D=none) (hn:n<=50) (hq:∀(H':Hp) (cs:List Str),fE H1 H'->H' D=some (.lst (cs.map V.str))->cs.length=n->Q (.ref D) H'):LcP (Itr 0 n) 0 mO (tOp AG (cV 1) (DX (tOp (cI0 fun i j=>V.int (i+j)) (tDv (cV 2) (tC (V.int 189))) (tOp (cI Eg fun i j=>V.int (i*j)) (tC (V.int 3)) (cV 0))) (tC (V.int 16)))) Q [none,some (.ref wa),some (.int k)] H1 D:=by
 have sl:=sizeLine_eq
 refine kC n (by lia) (fun zs _=>∃cs:List Str,zs=cs.map V.str) (fun _ _ _ h _=>h) hD rfl (fun j _ _ h=>h) (fun _ _=>b9 _) ⟨[],rfl⟩ ?_ ?_
 ·rintro j H v H3 zs Z S hj ⟨rfl,rfl⟩ ⟨cs,rfl⟩ lz kZ
  obtain⟨i,hi,ei⟩:∃i:Nat,i<16/\(k/189+ 3*(0+(j:Int)))%16=(i:Int):=⟨((k/189+ 3*(0+(j:Int)))%16).toNat,by lia,by lia⟩
  refine⟨⟨by decide,by decide⟩,.inl ⟨by decide,by decide⟩,(by show(0:Int)<16;decide),_,S _ _ hw,fc (show atI _ ((k/189+ 3*(0+(j:Int)))%16)=some (.str (vr wl i)) by rw[ei];exact eY (rH lw hi)) ?_⟩
  exact kZ _ _ (fun _ _ e=>e) ⟨cs++[vr wl i],by rw[br];rfl⟩
 ·rintro H' zs S ⟨cs,rfl⟩ lz ez
  exact hq H' cs S ez (by rw[aC]at lz;exact lz)
theorem DG {D:Addr} {n:Nat} {k:Int} {Q:VK} {H1:Hp} (hD:H1 D=none) (hn:n<=50) (hq:∀(H':Hp),fE H1 H'->H' D=some (.lst (((aa n).map fun j:Nat=>((k+(j:Int))%3).toNat).map fun v:Nat=> .int (v:Int)))->Q (.ref D) H'):LcP (Itr 0 n) 0 mO (DX (tOp (cI0 fun i j=>V.int (i+j)) (cV 1) (cV 0)) (tC (V.int 3))) Q [none,some (.int k)] H1 D:=by
 have sl:=sizeLine_eq
 refine kC n (by lia) (fun zs _=>zs=((aa zs.length).map fun j:Nat=>((k+(j:Int))%3).toNat).map fun v:Nat=> .int (v:Int)) (fun _ _ _ h _=>h) hD rfl (fun j _ _ h=>h) (fun _ _=>b9 _) rfl ?_ ?_
 ·rintro j H v H3 zs Z S hj ⟨rfl,rfl⟩ hz lz kZ
  refine⟨(by show(0:Int)<3;decide),kZ _ _ (fun _ _ e=>e) ?_⟩
  rw[aO,aV,bL,br,br,<-hz,lz]
  have e:(k+(0+(j:Int)))%3=((((k+(j:Int))%3).toNat:Nat):Int):=by rw[eG];lia
  show zs++[V.int ((k+(0+(j:Int)))%3)]=_
  rw[e]
  rfl
 ·intro H' zs S hz lz ez
  rw[lz]at hz
  exact hq H' S (by rw[ez,hz])
theorem wG {H:Hp}:∀l:List Str,Ims H (l.map V.str) (l.map sD)
 |[]=> .nil
 |x::l=> .cons (.flat rfl) (wG l)
theorem wH {H:Hp}:∀l:List (Str×Str),Ims H (l.flatMap fun a=>[V.str a.1,V.str a.2]) (l.flatMap fun a=>[sD a.1,sD a.2])
 |[]=> .nil
 |x::l=> .cons (.flat rfl) (.cons (.flat rfl) (wH l))
def lsA (wl cs:List Str) (k:Int) (i:Nat):List (Str×Str):=(aa i).map fun j:Nat=>(cs.getD j "",vr wl ((k+(j:Int))%3).toNat)
theorem tE {wl cs:List Str} {k:Int} {i:Nat}:(lsA wl cs k i).length=i:=by unfold lsA;rw[aC,bM]
theorem wI:∀l:List (Str×Str),(l.flatMap fun a=>[V.str a.1,V.str a.2]).length=2*l.length
 |[]=>rfl
 |x::l=>by have e:=az (a:=x) (as:=l);rw[List.flatMap_cons,aO,wI l];show 2+ 2*l.length=_;lia
theorem uN (T:Txt K mg):FO P w base 3 T.d35 (Fi fun op _=>op=0\/op=1\/op=2):=by
 have gD30:=jx (P:=P) (w:=w) (base:=base) T
 have gD31:=lg (P:=P) (w:=w) (base:=base) T
 refine T.d35.F.rd gJ fun cdv A0 outer s H vs Q E hr h=>?_
 obtain⟨wa,st,sn,wl,made,op,k,rfl,ho,hw,lw,nd,lm,nws,ks,q⟩:=h
 refine⟨_,(eU (pS (i:=4) gJ.nd (fq iJ (fq kh (cv 3) eV) eV))
  (eU (gG (fD jE (fq iJ (fq kh (cv 3) eV) eV) eV)
   (eZ (pS (i:=4) gJ.nd (fq iJ (fq kh (cv 3) eV) (fh fg (fH (eR eV (eR eV (eR eV eT)))) (cv 2)))))
   fJ)
  (eU (jq (j:=5) rfl (uY (x:="_law_k") ["_law_words_here","_law_arg"] [("_law_words_here",0,s.heap.objs.size+ 1),("_law_arg",3,s.heap.objs.size+ 3)]) (gY rfl T.z_range (eR (fq gk (cv 4) eV) eT)) (fun _ _ _ _ _=>iB) (fun _ _ _ _ _=>(fh fg (cv 1) (fq iJ (fq gk (fq kh (cv 2) eV) (fq qm eV (cv 0))) eV))) gJ.nd rfl (.inl rfl))
  (eU (jq (j:=6) rfl (uY (x:="_law_k") ["_law_stack"] [("_law_stack",1,s.heap.objs.size+ 2)]) (gY rfl T.z_range (eR (cv 4) eT)) (fun _ _ _ _ _=>iB) (fun _ _ _ _ _=>(pF T.d31 gD31 (hr.mono (by lia)) (eR (cv 1) eT))) gJ.nd rfl (.inl rfl))
  (eU (gG (fD jE (cv 2) eV)
   (eZ (fz (pF T.d30 gD30 (hr.mono (by lia)) (eR fF (eR (gq gw rfl T.z_tuple iA (eR (kH sA (cv 5) oA (lN (cv 4))) eT)) (eR (cv 6) (eR (qk rfl (Ey (x:="_law_part") rfl fW fW rfl rfl) (gX (cv 6)) (fun _ _ _ _ _=>iB) (fun _ _ _ _ _=>(pM lA eV))) eT)))))))
   fJ)
  (eU (gG (fD jE (cv 2) eV)
   (eZ (fz (pF T.d30 gD30 (hr.mono (by lia)) (eR fF (eR (fC eT) (eR (cv 6) (eR (qk rfl (Ey (x:="_law_part") rfl fW fW rfl rfl) (gX (cv 6)) (fun _ _ _ _ _=>iB) (fun _ _ _ _ _=>(pM lA eV))) eT)))))))
   fJ)
  (eU (pS (i:=7) gJ.nd (fC eT))
  (eU (jK PassesOwn.never rfl (gY rfl T.z_range (eR (fq gk (cv 4) eV) eT)) (pN (i:=8) gJ.nd)
   (eZ (pS (i:=7) gJ.nd (fq sL (cv 7) (fC (eR (fh fg (cv 5) (cv 8)) (eR (fh fg (cv 0) (fq iJ (fq gk (cv 3) (cv 8)) eV)) eT)))))))
  (eU (pS (i:=9) gJ.nd (fq rV (cv 6) (fH (eR (pF T.d31 gD31 (hr.mono (by lia)) (eR (cv 1) eT)) eT))))
  (eZ (fz (pF T.d30 gD30 (hr.mono (by lia)) (eR fF (eR (cv 7) (eR (fq rV (fH (eR (pF T.d31 gD31 (hr.mono (by lia)) (eR (cv 1) eT)) eT)) (cv 9)) (eR (fq rV (fH (eR (pM lA eV) eT)) (qk rfl (uY (x:="_law_k") ["_law_arg"] [("_law_arg",3,s.heap.objs.size+ 3)]) (gY rfl T.z_range (eR (fq gk (cv 4) eV) eT)) (fun _ _ _ _ _=>iB) (fun _ _ _ _ _=>(fq iJ (fq gk (cv 1) (cv 0)) eV)))) eT)))))))))))))))),?_⟩
 have sl:=sizeLine_eq
 refine Bb rfl rfl ho fun n H0 hn h5 S0=>?_
 have en:(n:Int)+ 1=((n+ 1:Nat):Int):=by lia
 refine⟨_,rfl,by lia,by lia,fun D1 hD1=>?_⟩
 rw[show((n:Int)+ 1).toNat=n+ 1 by lia]
 refine Bc (S0 _ _ hw) lw hD1 (by lia) fun H1 cs S1 e1 lc=>?_
 dsimp only[fN]
 have S01:=S0.trans S1
 refine⟨_,rfl,by lia,by lia,fun D2 hD2=>?_⟩
 rw[show((n:Int)).toNat=n by lia]
 refine DF (by lia) (ks.same S01) (JS.num 0) hD2 fun H2 zs its F2 k2 eD a2 li jI=>?_
 dsimp only[fN]
 have F02:FS st H H2:=(FS.same S01).trans F2
 have lz:zs.length=n:=by rw[a2.length];exact li
 have n1:D1≠st:=fun z=>by obtain⟨xs,e,_⟩:=ks;rw[z,S0 _ _ e]at hD1;cases hD1
 have e12:=F2 _ _ e1 n1
 by_cases e0:op=0
 ·refine sj (i:=2) (n:=op) rfl e0 ?_
  have ec:rh (cs.map V.str) none (some (n:Int))=(cs.take n).map V.str:=by rw[Fj,List.map_take]
  refine⟨_,rfl,D1,_,rfl,SqL.of e12,fun l3 h3=>?_⟩
  rw[ec]
  refine⟨l3,_,rfl,.inl ⟨SqL.of eS,fun t4 h4=>?_⟩⟩
  have U3:=eW h3 (.lst ((cs.take n).map V.str))
  have U4:=eW h4 (.tup ((cs.take n).map V.str))
  have U34:=U3.trans U4
  refine⟨D2,rfl,⟨_,SqL.of (U34 _ _ eD)⟩,fun D3 hD3=>BZ (U34 _ _ eD) hD3 (by lia) fun H3 S3 e3=>?_⟩
  have U:=U34.trans S3
  have lt:(cs.take n).length=n:=by rw[aH];lia
  refine rJ (κ:= .rcd (cs.take n)) (its:=its) (ho:=aG n none) rfl (S3 _ _ eS) (wG _) (U _ _ eD) (a2.imp fun _ _ h=>h.same U) e3 (by rw[wF,lz]) (by rw[aP,li]) (by lia) fun H' x' S' i'=>?_
  have U':=U.trans S'
  exact q H' x' _ (F02.trans (FS.same U')) (k2.same U') i' (JI.knit lw nd lm (by rw[aP,li]) (vF n) (fun I hI=>(jI I hI).1) (fun _ z=>nomatch z) (fun _=>⟨by rw[li,lt],by rw[lt];lia⟩))
 refine sk (i:=2) (n:=op) rfl e0 ?_
 dsimp only[jD]
 by_cases e1':op=1
 ·refine sj (i:=2) (n:=op) rfl e1' ?_
  refine⟨mD,fun t1 h1=>?_⟩
  have U1:=eW h1 (.tup [])
  refine⟨D2,rfl,⟨_,SqL.of (U1 _ _ eD)⟩,fun D3 hD3=>BZ (U1 _ _ eD) hD3 (by lia) fun H3 S3 e3=>?_⟩
  have U:=U1.trans S3
  refine rJ (κ:= .row n) (its:=its) (ho:=aG n none) rfl (S3 _ _ eS) .nil (U _ _ eD) (a2.imp fun _ _ h=>h.same U) e3 (by rw[wF,lz]) (by rw[aP,li]) (by lia) fun H' x' S' i'=>?_
  have U':=U.trans S'
  exact q H' x' _ (F02.trans (FS.same U')) (k2.same U') i' (JI.knit lw nd lm (by rw[aP,li]) (vF n) (fun I hI=>(jI I hI).1) (fun _ z=>nomatch z) (fun _=>⟨li,by lia⟩))
 refine sk (i:=2) (n:=op) rfl e1' ?_
 dsimp only[jD]
 have op2:op=2:=by rcases ho with h|h|h;exact absurd h e0;exact absurd h e1';exact h
 have n5:=h5 op2
 refine⟨mD,fun t1 h1=>?_⟩
 dsimp only[fN]
 have U1:=eW h1 (.tup [])
 have hw2:=F02 _ _ hw nws
 refine⟨_,rfl,by lia,by lia,?_⟩
 rw[show((n:Int)+ 1).toNat=n+ 1 by lia]
 refine lM (fun i σ H3=>X2 fun(o8:Option V) (th:Addr)=>Y3 (σ=[some (.ref wa),some (.ref st),some (.int op),some (.int k),some (.int (n:Int)),some (.ref D1),some (.ref D2),some (.ref th),o8,none]) (fE H2 H3) (H3 th=some (.tup ((lsA wl cs k i).flatMap fun a=>[V.str a.1,V.str a.2])))) ⟨none,t1,rfl,U1,eS⟩ ?_ ?_
 ·rintro i σ H3 hi ⟨o8,th,rfl,S3,eth⟩
  dsimp only[fN]
  have q1:atI (cs.map V.str) (0+(i:Int))=some (.str (cs.getD i "")):=by
   rw[eG]
   refine eY ?_
   rw[aK,bo,bb (show i<cs.length by lia)]
   rfl
  obtain⟨j,hj,ej⟩:∃j:Nat,j<3/\(k+(0+(i:Int)))%3=(j:Int):=⟨((k+(0+(i:Int)))%3).toNat,by lia,by lia⟩
  have q2:atI (wl.map V.str) ((k+(0+(i:Int)))%3)=some (.str (vr wl j)):=by rw[ej];exact eY (rH lw (by lia))
  have ej2:((k+(i:Int))%3).toNat=j:=by rw[eG]at ej;lia
  refine⟨_,S3 _ _ e12,fc q1 ⟨(by show(0:Int)<3;decide),_,S3 _ _ hw2,fc q2 ⟨lI,fun t2 h2=>?_⟩⟩⟩
  have U2:=eW h2 (.tup [.str (cs.getD i ""),.str (vr wl j)])
  refine p4 (U2 _ _ eth) eS (by rw[wI,tE];show 2*i+ 2<=_;lia) fun t4 H4 S4 e4=>?_
  dsimp only[fN]
  refine⟨_,t4,rfl,S3.trans (U2.trans S4),?_⟩
  rw[e4]
  unfold lsA
  rw[bL,br,List.flatMap_append]
  simp[ej2]
 ·rintro σ H3 ⟨o8,th,rfl,S3,eth⟩
  dsimp only
  have k3:=k2.same S3
  have nD2:D2≠st:=fun z=>by obtain⟨ys,e',_⟩:=ks;rw[z,S01 _ _ e']at hD2;cases hD2
  have eD3:=S3 _ _ eD
  refine⟨st,sn,JS wl made,rfl,k3,JS.num 0,fun H4 x4 I4 F4 k4 i4 j4=>?_⟩
  refine⟨mE,fun l5 h5'=>?_⟩
  have U5:=eW h5' (.lst [x4])
  have eD5:=U5 _ _ (F4 _ _ eD3 nD2)
  refine⟨D2,l5,zs,[x4],rfl,rfl,eD5,eS,by show zs.length+ 1<=_;lia,fun D6 h6=>?_⟩
  dsimp only[fN]
  have U6:=eW h6 (.lst (zs++[x4]))
  have U56:=U5.trans U6
  have k6:=k4.same U56
  have n6:D6≠st:=fun z=>by obtain⟨xs,e,_⟩:=k4.same U5;rw[z,e]at h6;cases h6
  refine⟨st,sn,JS wl made,rfl,k6,JS.num 0,fun H7 x7 I7 F7 k7 i7 j7=>?_⟩
  refine⟨mE,fun l8 h8=>?_⟩
  have U8:=eW h8 (.lst [x7])
  refine⟨l8,D6,[x7],zs++[x4],rfl,rfl,eS,U8 _ _ (F7 _ _ eS n6),by rw[aO];show 1+(zs.length+ 1)<=_;lia,fun D9 h9=>?_⟩
  have U9:=eW h9 (.lst ([x7]++(zs++[x4])))
  refine⟨1,rfl,mE,fun l10 h10=>?_⟩
  have U10:=eW h10 (.lst [.int (-1)])
  refine⟨_,rfl,by lia,by lia,fun D11 hD11=>?_⟩
  rw[show((n:Int)+ 1).toNat=n+ 1 by lia]
  refine DG hD11 (by lia) fun H12 S12 e12'=>?_
  refine⟨l10,D11,_,_,rfl,rfl,S12 _ _ eS,e12',by rw[aC,aC,bM];show 1+(n+ 1)<=_;lia,fun D13 h13=>?_⟩
  have U13:=eW h13 (.lst ([.int (-1)]++((aa (n+ 1)).map fun j:Nat=>((k+(j:Int))%3).toNat).map fun v:Nat=> .int (v:Int)))
  have U7:=U8.trans (U9.trans (U10.trans (S12.trans U13)))
  have eth7:=U7 _ _ (k6.tk F7 _ _ (U56 _ _ (k3.tk F4 _ _ eth)))
  have a27:mH (ItA _) zs its:=a2.imp fun _ _ h=>((((h.same S3).fs k3 F4).same U56).fs k6 F7).same U7
  refine rJ (κ:= .case (lsA wl cs k (n+ 1))) (its:=I7::(its++[I4])) (ho:=none::((aa (n+ 1)).map fun j:Nat=>((k+(j:Int))%3).toNat).map some) rfl eth7 (wH _) ((U10.trans (S12.trans U13)) _ _ eS) (.cons (i7.same U7) (.snoc (((i4.same U56).fs k6 F7).same U7) a27)) eS ?_ ?_ ?_ fun H' x' S' i'=>?_
  ·show _=hI none::bg hI _
   rw[bf (f:=some) (g:=hI)]
   rfl
  ·rw[az,aC,aC,bM,az,aO,li]
   rfl
  ·rw[az,aO,li]
   show n+ 1+ 1<=1000
   lia
  ·have U':=U7.trans S'
   refine q H' x' _ (F02.trans ((FS.same S3).trans (F4.trans ((FS.same U56).trans (F7.trans (FS.same U')))))) (k7.same U') i' (JI.knit lw nd lm ?_ ⟨rfl,zV (fun i a v ha hv=>?_) ?_⟩ (fun J hJ=>?_) (fun _ z=>nomatch z) (fun _=>⟨?_,?_⟩))
   ·simp only[az,aC,bM,aO,li,List.length_nil]
   ·unfold lsA at ha
    rw[aK]at ha hv
    obtain⟨j,hj,rfl⟩:=cF.mp ha
    rw[hj]at hv
    cases hv
    exact⟨by show((k+(j:Int))%3).toNat<3;lia,rfl⟩
   ·rw[tE,aC,bM]
   ·rcases ak.mp hJ with rfl|hJ
    ·exact j7.1
    ·rcases ao.mp hJ with hJ|hJ
     ·exact(jI J hJ).1
     ·rw[ba.mp hJ];exact j4.1
   ·rw[az,aO,li,tE]
    rfl
   ·rw[tE];lia
open TM.Internal (Kn Tr gF szs)
inductive XNe (vs:List V) (H:Hp) (Q:VK):Prop
 |mk (wa st ma:Addr) (sn:Nat) (wl:List Str) (made:List Nat) (op k:Int) (e:vs=[.ref wa,.ref st,.ref ma,.int op,.int k]) (h0:0<=op) (h1:op<22) (hw:H wa=some (.lst (wl.map V.str))) (hm:H ma=some (.lst (made.map nI))) (lw:wl.length=16) (nd:wl.Nodup) (lm:made.length<=12) (nws:wa≠st) (nms:ma≠st) (ks:Stk H st sn (JS wl made)) (q:∀H' x I,FS st H H'->Stk H' st sn (JS wl made)->ItA H' x I->JI wl made I->Q x H')
def He:Sp:=fun vs H Q _=>XNe vs H Q
theorem xR {i:Nat} {n m:Int} {σ:St} {H:Hp} {T u:TS} {D:pj} (hσ:σ[i]?=some (some (.int n))) (h:if n<m then T D σ H else u D σ H):vQ (cT (tOp (cI0 fun i j=> .bl (decide (i<j))) (cV i) (tC (.int m)))) T u D σ H:=by
 show onV σ[i]? _
 rw[hσ]
 show if decide (n<m)=true then _ else _
 by_cases e:n<m
 ·rw[gR e];rw[f6 e]at h;exact jW h
 ·rw[gC e];rw[fO e]at h;exact jy h
theorem vG (T:Txt K mg):FO P w base 4 T.d38 He:=by
 have gD30:=jx (P:=P) (w:=w) (base:=base) T
 have gD31:=lg (P:=P) (w:=w) (base:=base) T
 have gD29:=kf (P:=P) (w:=w) (base:=base) T
 have gD32:=kB (P:=P) (w:=w) (base:=base) T
 have gD33:=uL (P:=P) (w:=w) (base:=base) T
 have gD34:=uM (P:=P) (w:=w) (base:=base) T
 have gD37:=vE (P:=P) (w:=w) (base:=base) T
 have gD35:=uN (P:=P) (w:=w) (base:=base) T
 have gD36:=rK (P:=P) (w:=w) (base:=base) T
 refine T.d38.F.rd jQ fun cdv A0 outer s H vs Q E hr h=>?_
 obtain⟨wa,st,ma,sn,wl,made,op,k,rfl,h0,h1,hw,hm,lw,nd,lm,nws,nms,ks,q⟩:=h
 refine⟨_,(eU (gG (fD lG (cv 3) eV)
   (eZ (fz (pF T.d32 gD32 (hr.mono (by lia)) (eR (cv 4) eT))))
   fJ)
  (eU (gG (PW.pt (yc (fD lG (cv 3) eV) (vN (PW.pt (p9 (fD lG (cv 3) eV) (ou (fD jE (fS fX rfl T.z_len jB (eR (cv 2) eT)) eV)))))))
   (eZ (fz (pF T.d33 gD33 (hr.mono (by lia)) (eR (cv 0) (eR (fq iJ (cv 4) eV) eT)))))
   fJ)
  (eU (gG (fD lG (cv 3) eV)
   (eU (pS (i:=5) jQ.nd (fq iJ (cv 4) (fS fX rfl T.z_len jB (eR (cv 2) eT))))
   (eZ (fz (pF T.d29 gD29 (hr.mono (by lia)) (eR (fC (eR fF (eR (fC (eR (fh fg (cv 0) (fq gk eV (cv 5))) eT)) (eR (fC eT) eT)))) (eR (fq gk eV (fh fg (cv 2) (cv 5))) eT))))))
   fJ)
  (eU (gG (fD jE (cv 3) eV)
   (eU (pS (i:=6) jQ.nd (pF T.d29 gD29 (hr.mono (by lia)) (eR (fC (eR fF (eR (fC (eR (fh fg (cv 0) (fq gk eV (fS fX rfl T.z_len jB (eR (cv 2) eT)))) eT)) (eR (fC eT) eT)))) (eR eV eT))))
   (eU (rO tL (rN (cv 6) eV mz))
   (eZ (fz (cv 6)))))
   fJ)
  (eU (gG (fD lG (cv 3) eV)
   (eU (pS (i:=7) jQ.nd (pF T.d31 gD31 (hr.mono (by lia)) (eR (cv 1) eT)))
   (eU (pS (i:=8) jQ.nd (pF T.d34 gD34 (hr.mono (by lia)) (eR (cv 7) (eR (cv 4) eT))))
   (eU (gG (fD lG (cv 3) eV)
    (eZ (fz (pF T.d30 gD30 (hr.mono (by lia)) (eR fF (eR (fC (eR (fh fg (cv 0) (cv 8)) eT)) (eR (fH (eR (cv 7) eT)) (eR (fH (eR (cv 8) eT)) eT)))))))
    fJ)
   (eZ (fz (pF T.d37 gD37 (hr.mono (by lia)) (eR (cv 0) (eR (cv 8) (eR (pF T.d31 gD31 (hr.mono (by lia)) (eR (cv 1) eT)) (eR (cv 7) eT))))))))))
   fJ)
  (eU (gG (fD lG (cv 3) eV)
   (eZ (fz (pF T.d35 gD35 (hr.mono (by lia)) (eR (cv 0) (eR (cv 1) (eR (fq lQ (cv 3) eV) (eR (cv 4) eT)))))))
   fJ)
  (eZ (fz (pF T.d36 gD36 (hr.mono (by lia)) (eR (cv 0) (eR (cv 1) (eR (fh fg (fH (eR eV (eR eV (eR eV (eR eV eT))))) (fq lQ (cv 3) eV)) (eR (cv 4) eT))))))))))))),?_⟩
 have sl:=sizeLine_eq
 have sm:∀{H':Hp} {x:V} {I:It},fE H H'->ItA H' x I->JI wl made I->Q x H':=fun S i j=>q _ _ _ (FS.same S) (ks.same S) i j
 refine xR (i:=3) (n:=op) rfl ?_
 by_cases c1:op<2
 ·rw[f6 c1]
  exact⟨k,rfl,fun H' x S i=>sm S i (JI.num _)⟩
 rw[fO c1]
 dsimp only[jD]
 have nam:∀(σ:St) (D:pj),D.rt=Q->σ[0]?=some (some (.ref wa))->σ[4]?=some (some (.int k))->Ga (rf Fh [] E0 (jL (cV 0) (jL (DX (cV 4) (tC (V.int 3))) tP))) D σ H:=by
  intro σ D eD s0 s4
  show onV σ[0]? _
  rw[s0]
  show onV σ[4]? _
  rw[s4]
  obtain⟨v,hv,ev⟩:∃v:Nat,v<3/\k%3=(v:Int):=⟨(k%3).toNat,by lia,by lia⟩
  refine⟨(by show(0:Int)<3;decide),wa,wl,v,by show[V.ref wa,V.int (k%3)]=_;rw[ev],hw,lw,hv,fun H' x S i=>?_⟩
  rw[eD]
  exact sm S i (JI.name hv)
 have lm':(((made.map nI).length:Nat):Int)=(made.length:Int):=by rw[aC]
 show if decide (op<6)=true then _ else _
 by_cases c2:op<6
 ·rw[gR c2]
  exact jW (jW (nam _ _ rfl rfl rfl))
 rw[gC c2]
 refine jy ?_
 show if decide (op<8)=true then _ else _
 by_cases c3:op<8
 ·rw[gR c3]
  refine jW ⟨ma,_,rfl,.inl (SqL.of hm),?_⟩
  show if(false ^^ decide ((((made.map nI).length:Nat):Int)=0))=true then _ else _
  rw[lm']
  by_cases c4:made.length=0
  ·rw[gR (by lia)]
   exact jW (nam _ _ rfl rfl rfl)
  rw[gC (by lia)]
  refine jy ?_
  dsimp only[jD]
  refine xR (i:=3) (n:=op) rfl ?_
  rw[f6 c3]
  refine⟨ma,_,rfl,.inl (SqL.of hm),?_⟩
  rw[lm']
  refine⟨(by lia),?_⟩
  dsimp only[fN]
  have c0:=eC k (show(made.length:Int)≠0 by lia)
  have c1':=eE k (show(0:Int)<(made.length:Int) by lia)
  obtain⟨d,hd,ed⟩:∃d:Nat,d<made.length/\k%(made.length:Int)=(d:Int):=⟨(k%(made.length:Int)).toNat,by lia,by lia⟩
  rw[ed]
  have q1:atI (wl.map V.str) (3+(d:Int))=some (.str (wdE wl d)):=by
   rw[show(3:Int)+(d:Int)=((3+d:Nat):Int) by lia]
   exact eY (rH lw (by lia))
  have q2:atI (made.map nI) (d:Int)=some (.int ((made.getD d 0:Nat):Int)):=by
   refine eY ?_
   rw[aK,bo,bb hd]
   rfl
  refine⟨_,hw,fc q1 ⟨mE,fun t1 g1=>⟨mD,fun t2 g2=>⟨tK,fun t3 g3=>?_⟩⟩⟩⟩
  have S3:=xQ (c:= .tup [.str "name",.ref t1,.ref t2]) g1 g2 g3
  refine⟨_,S3 _ _ hm,fc q2 ?_⟩
  refine⟨_,1+made.getD d 0,.name (wdE wl d),rfl,vD g1 g2 g3,fun H' a cs N=>?_⟩
  exact sm (S3.trans N.sm) N.it (JI.df hd)
 rw[gC c3]
 refine jy (jy ?_)
 dsimp only[jD]
 refine xR (i:=3) (n:=op) rfl ?_
 rw[fO c3]
 dsimp only[jD]
 by_cases c5:op=8
 ·refine sj (i:=3) (n:=op) rfl c5 ?_
  have q1:atI (wl.map V.str) (3+(((made.map nI).length:Nat):Int))=some (.str (wdE wl made.length)):=by
   rw[lm',show(3:Int)+(made.length:Int)=((3+made.length:Nat):Int) by lia]
   exact eY (rH lw (by lia))
  refine⟨ma,_,rfl,.inl (SqL.of hm),_,hw,fc q1 ⟨mE,fun t1 g1=>⟨mD,fun t2 g2=>⟨tK,fun t3 g3=>?_⟩⟩⟩⟩
  have S3:=xQ (c:= .tup [.str "name",.ref t1,.ref t2]) g1 g2 g3
  refine⟨_,1,.name (wdE wl made.length),rfl,vD g1 g2 g3,fun H' a cs N=>?_⟩
  dsimp only[fN]
  have na:H a=none:=by
   cases z:H a with
   |none=>rfl
   |some u=>have:=N.na;rw[S3 _ _ z]at this;cases this
  refine⟨a,_,4,4,rfl,rfl,N.ea,rfl,?_⟩
  refine sm (I:=owI wl made) (fun b o e=>by rw[eX (fe e na)];exact(S3.trans N.sm) _ _ e) ⟨a,_,cs,rfl,eS,by rw[eX N.ne.symm];exact N.ec,N.im.mono (ij N.ea).tk⟩ JI.ow
 refine sk (i:=3) (n:=op) rfl c5 ?_
 dsimp only[jD]
 refine xR (i:=3) (n:=op) rfl ?_
 by_cases c6:op<15
 ·rw[f6 c6]
  refine⟨st,sn,JS wl made,rfl,ks,JS.num 0,fun H1 x I F1 k1 i1 j1=>?_⟩
  dsimp only[fN]
  have hw1:=F1 _ _ hw nws
  refine⟨x,I,k,rfl,i1,fun v hv=>?_⟩
  dsimp only[fN]
  refine xR (i:=3) (n:=op) rfl ?_
  by_cases c7:op<11
  ·rw[f6 c7]
   refine⟨_,hw1,fc (eY (rH lw (by lia))) ⟨mE,fun t1 g1=>⟨mE,fun l2 g2=>⟨mE,fun l3 g3=>?_⟩⟩⟩⟩
   have T1:=eW g1 (.tup [.str (vr wl v)])
   have T2:=eW g2 (.lst [x])
   have T3:=eW g3 (.lst [.int (v:Int)])
   have U:=T1.trans (T2.trans T3)
   refine rJ (κ:= .fn (vr wl v)) (its:=[I]) (ho:=[some v]) rfl ((T2.trans T3) _ _ eS) (.cons (.flat rfl) .nil) (T3 _ _ eS) (.cons (i1.same U) .nil) eS rfl rfl (by show 1<=1000;decide) fun H' x' S' i'=>?_
   have U':=U.trans S'
   exact q H' x' _ (F1.trans (FS.same U')) (k1.same U') i' (JI.knit lw nd lm rfl ⟨hv,⟨"fn",fW,rfl⟩,trivial⟩ (fun J hJ=>by rw[ba.mp hJ];exact j1.1) (fun _ z=>nomatch z) (fun _=>rfl))
  ·rw[fO c7]
   dsimp only[jD]
   refine⟨st,sn,JS wl made,rfl,k1,JS.num 0,fun H2 x2 I2 F2 k2 i2 j2=>?_⟩
   have cv:=j1.1.c v hv
   refine⟨wa,wl,v,x2,x,I2,I,rfl,F2 _ _ hw1 nws,lw,hv,i2,i1.fs k1 F2,by have:=j2.2;lia,by have:=j1.2;lia,fun H' x' S' i'=>?_⟩
   exact q H' x' _ (F1.trans (F2.trans (FS.same S'))) (k2.same S') i' (JI.let lw nd lm hv j2.1 j1.1)
 rw[fO c6]
 dsimp only[jD]
 refine xR (i:=3) (n:=op) rfl ?_
 by_cases c8:op<18
 ·rw[f6 c8]
  exact⟨wa,st,sn,wl,made,op-15,k,rfl,by lia,hw,lw,nd,lm,nws,ks,q⟩
 rw[fO c8]
 dsimp only[jD]
 obtain⟨m,em,hm3⟩:∃m:Int,atI [V.int 0,V.int 1,V.int 2,V.int 2] (op-18)=some (.int m)/\(m=0\/m=1\/m=2):=by
  have c9:op=18\/op=19\/op=20\/op=21:=by lia
  rcases c9 with rfl|rfl|rfl|rfl
  ·exact⟨0,rfl,.inl rfl⟩
  ·exact⟨1,rfl,.inr (.inl rfl)⟩
  ·exact⟨2,rfl,.inr (.inr rfl)⟩
  ·exact⟨2,rfl,.inr (.inr rfl)⟩
 refine⟨Ai,fun l1 g1=>⟨_,eS,fc em ?_⟩⟩
 have T1:=eW g1 (.lst [.int 0,.int 1,.int 2,.int 2])
 exact⟨wa,st,sn,wl,made,m,k,rfl,hm3,T1 _ _ hw,lw,nd,lm,nws,ks.same T1,fun H' x I F' k' i' j'=>q H' x I ((FS.same T1).trans F') k' i' j'⟩
open TM.Internal (Kn Tr gF szs)
inductive XEd (vs:List V) (H:Hp) (Q:VK):Prop
 |mk (wa:Addr) (wl:List Str) (made:List Nat) (x:V) (I:It) (k:Int) (e:vs=[.ref wa,x,.int k]) (hw:H wa=some (.lst (wl.map V.str))) (lw:wl.length=16) (nd:wl.Nodup) (lm:made.length<=12) (i:ItA H x I) (j:JI wl made I) (q:∀H' x' I',fE H H'->ItA H' x' I'->JI wl made I'->(∀k,k<3->I'.c k=0)->I'.w<=I.w+ 10->I'.t.nest<=I.t.nest+ 10->I'.t.sz<=I.t.sz+ 10->Q x' H')
def Hf:Sp:=fun vs H Q _=>XEd vs H Q
theorem B0 {κ:Kn} {I:It} {ho:List (Option Nat)}:(knI κ [I] ho).w=1+I.w/\(knI κ [I] ho).t.nest=1+I.t.nest/\(knI κ [I] ho).t.sz=1+I.t.sz:=by
 refine⟨rfl,?_,?_⟩
 ·show(Tr.mk κ [I.t]).nest=_
  simp[Tr.nest,TM.Internal.nests]
 ·show(Tr.mk κ [I.t]).sz=_
  simp[Tr.sz,szs]
theorem Fn {κ:Kn} {I J:It} {ho:List (Option Nat)} (h:J.t.nest<=1):(knI κ [I,J] ho).w=1+I.w+J.w/\(knI κ [I,J] ho).t.nest<=2+I.t.nest/\(knI κ [I,J] ho).t.sz=1+I.t.sz+J.t.sz:=by
 refine⟨by show 1+(I.w+(J.w+ 0))=_;lia,?_,?_⟩
 ·show(Tr.mk κ [I.t,J.t]).nest<=_
  simp[Tr.nest,TM.Internal.nests]
  lia
 ·show(Tr.mk κ [I.t,J.t]).sz=_
  simp[Tr.sz,szs]
  lia
theorem Hg:∀{v:Nat},v<3->∃m:Int,atI [V.int 1,V.int 2,V.int 4] (0+(v:Int))=some (.int m)/\0<m/\m<1073741824
 |0,_=>⟨1,rfl,by decide,by decide⟩
 |1,_=>⟨2,rfl,by decide,by decide⟩
 |2,_=>⟨4,rfl,by decide,by decide⟩
theorem tF (T:Txt K mg):FO P w base 3 T.d39 Hf:=by
 have gD30:=jx (P:=P) (w:=w) (base:=base) T
 have gD32:=kB (P:=P) (w:=w) (base:=base) T
 refine T.d39.F.rd iY fun cdv A0 outer s H vs Q E hr h=>?_
 obtain⟨wa,wl,made,x,I,k,rfl,hw,lw,nd,lm,i,j,q⟩:=h
 refine⟨_,(eU (jK PassesOwn.never rfl (gY rfl T.z_range (eR eV eT)) (pN (i:=3) iY.nd)
   (eZ (gG (fD xr (fh fg (fh fg (cv 1) eV) (cv 3)) eV)
    (eU (pS (i:=1) iY.nd (pF T.d30 gD30 (hr.mono (by lia)) (eR fF (eR (fC (eR (fh fg (cv 0) (cv 3)) eT)) (eR (fH (eR (cv 1) eT)) (eR (fH (eR (cv 3) eT)) eT))))))
    (eZ (gG (fD jE (fq iJ (fq kh (cv 2) (fh fg (fH (eR eV (eR eV (eR eV eT)))) (cv 3))) eV) eV)
     (eZ (pS (i:=1) iY.nd (pF T.d30 gD30 (hr.mono (by lia)) (eR fF (eR (fC eT) (eR (fH (eR (cv 1) (eR (pF T.d32 gD32 (hr.mono (by lia)) (eR (cv 2) eT)) eT))) (eR (fH (eR (pM lA eV) (eR (pM lA eV) eT))) eT)))))))
     fJ)))
    fJ)))
  (eU (gG (mF (fh fg (cv 1) eV))
   (eZ (pS (i:=1) iY.nd (pF T.d30 gD30 (hr.mono (by lia)) (eR fF (eR (fC (eR (fh fg (cv 0) eV) eT)) (eR (fH (eR (cv 1) eT)) (eR (fH (eR eV eT)) eT)))))))
   fJ)
  (eZ (fz (cv 1))))),?_⟩
 have sl:=sizeLine_eq
 refine⟨3,rfl,by decide,by decide,?_⟩
 refine lM (fun v σ H1=>X3 fun(o3:Option V) (x':V) (I':It)=>Y8 (σ=[some (.ref wa),some x',some (.int k),o3]) (fE H H1) (ItA H1 x' I') (JI wl made I') ((∀k,k<v->I'.c k=0)) (I'.w<=I.w+ 3*v) (I'.t.nest<=I.t.nest+ 3*v) (I'.t.sz<=I.t.sz+ 3*v)) ⟨none,x,I,rfl,fun _ _ e=>e,i,j,fun k h=>absurd h (cx _),by lia,by lia,by lia⟩ ?_ ?_
 ·rintro v σ H1 hv ⟨o3,x',I',rfl,S1,i1,j1,z1,w1,n1,s1⟩
  have hv:v<3:=hv
  dsimp only[fN]
  obtain⟨a,n,cs,rfl,ea,ec,iN⟩:=id i1
  refine⟨_,ea,fc (eY (j:=3) rfl) ⟨_,ec,fc (at3 hv) ?_⟩⟩
  show if decide ((0:Int)<(I'.c v:Int))=true then _ else _
  by_cases c0:0<I'.c v
  ·rw[gR (by lia)]
   refine jW ?_
   have q1:atI (wl.map V.str) (0+(v:Int))=some (.str (vr wl v)):=by rw[eG];exact eY (rH lw (by lia))
   refine⟨_,S1 _ _ hw,fc q1 ⟨mE,fun t1 g1=>⟨mE,fun l2 g2=>⟨mE,fun l3 g3=>?_⟩⟩⟩⟩
   have T1:=eW g1 (.tup [.str (vr wl v)])
   have T2:=eW g2 (.lst [.ref a])
   have T3:=eW g3 (.lst [.int (0+(v:Int))])
   have U:=T1.trans (T2.trans T3)
   refine rJ (κ:= .fn (vr wl v)) (its:=[I']) (ho:=[some v]) rfl ((T2.trans T3) _ _ eS) (.cons (.flat rfl) .nil) (T3 _ _ eS) (.cons (i1.same U) .nil) eS (by rw[eG];rfl) rfl (by show 1<=1000;decide) fun H2 x2 S2 i2=>?_
   dsimp only[fN]
   have j2:JI wl made (knI (.fn (vr wl v)) [I'] [some v]):=JI.knit lw nd lm rfl ⟨hv,⟨"fn",fW,rfl⟩,trivial⟩ (fun J hJ=>by rw[ba.mp hJ];exact j1) (fun _ z=>nomatch z) (fun _=>rfl)
   obtain⟨y1,y2,y3⟩:=B0 (κ:= .fn (vr wl v)) (I:=I') (ho:=[some v])
   have z2:∀k,k<v+ 1->(knI (.fn (vr wl v)) [I'] [some v]).c k=0:=fun k hk=>by
    show(if some v=some k then 0 else I'.c k)+ 0=0
    by_cases e:v=k
    ·rw[f6 (by rw[e])]
    ·rw[fO (fun h=>e (cC.inj h)),z1 k (by lia)]
   have S12:=S1.trans (U.trans S2)
   obtain⟨m,em,hm0,hm1⟩:=Hg hv
   refine⟨tK,fun l4 g4=>⟨_,eS,fc em ⟨⟨hm0,hm1⟩,(by show(0:Int)<2;decide),?_⟩⟩⟩
   have T4:=eW g4 (.lst [.int 1,.int 2,.int 4])
   show if(false ^^ decide (k/m%2=1))=true then _ else _
   by_cases c1:k/m%2=1
   ·rw[gR c1]
    refine jW ?_
    refine⟨mD,fun t5 g5=>?_⟩
    have T5:=eW g5 (.tup [])
    refine⟨k,rfl,fun H6 x6 S6 i6=>?_⟩
    refine⟨lI,fun l7 g7=>⟨1,rfl,1,rfl,lI,fun l8 g8=>?_⟩⟩
    have T7:=eW g7 (.lst [x2,x6])
    have T8:=eW g8 (.lst [.int (-1),.int (-1)])
    have U7:=T7.trans T8
    have U2:=T4.trans (T5.trans (S6.trans U7))
    refine rJ (κ:= .op "call" 2) (its:=[_,_]) (ho:=[none,none]) rfl ((S6.trans U7) _ _ eS) .nil (T8 _ _ eS) (.cons (i2.same U2) (.cons (i6.same U7) .nil)) eS rfl rfl (by show 2<=1000;decide) fun H9 x9 S9 i9=>?_
    dsimp only[fN]
    obtain⟨r1,r2,r3⟩:=Fn (κ:= .op "call" 2) (I:=knI (.fn (vr wl v)) [I'] [some v]) (J:=nuI (k%10^60)) (ho:=[none,none]) (by simp[nuI,Tr.nest,TM.Internal.nests])
    have r4:(nuI (k%10^60)).w=1:=rfl
    have r5:(nuI (k%10^60)).t.sz=1:=by simp[nuI,Tr.sz,szs]
    refine⟨_,x9,_,rfl,S12.trans (U2.trans S9),i9,JI.knit lw nd lm rfl ⟨rfl,rfl,trivial⟩ (fun J hJ=>?_) (fun _ z=>nomatch z) (fun _=>⟨rfl,by simp[TM.Internal.ops]⟩),fun k hk=>?_,by lia,by lia,by lia⟩
    ·simp only[ak,bh,or_false]at hJ
     rcases hJ with rfl|rfl
     ·exact j2
     ·exact JI.num _
    ·show(if(none:Option Nat)=some k then 0 else(knI (.fn (vr wl v)) [I'] [some v]).c k)+((if(none:Option Nat)=some k then 0 else 0)+ 0)=0
     rw[fO (fun z=>nomatch z),fO (fun z=>nomatch z),z2 k hk]
   ·rw[gC c1]
    exact jy ⟨_,x2,_,rfl,S12.trans T4,i2.same T4,j2,z2,by lia,by lia,by lia⟩
  ·rw[gC (by lia)]
   refine jy ⟨_,_,I',rfl,S1,i1,j1,fun k hk=>?_,by lia,by lia,by lia⟩
   by_cases e:k=v
   ·rw[e];lia
   ·exact z1 k (by lia)
 ·rintro σ H1 ⟨o3,x',I',rfl,S1,i1,j1,z1,w1,n1,s1⟩
  dsimp only
  obtain⟨a,n,cs,rfl,ea,ec,iN⟩:=id i1
  refine⟨_,ea,fc (eY (j:=4) rfl) ⟨I'.own,rfl,?_⟩⟩
  cases eo:I'.own with
  |false=>exact jy (q _ _ I' S1 i1 j1 z1 (by lia) (by lia) (by lia))
  |true=>
   refine jW ?_
   refine⟨_,S1 _ _ hw,fc (show atI (wl.map V.str) ((0:Nat):Int)=some (.str (vr wl 0))from eY (rH lw (by decide))) ⟨mE,fun t1 g1=>⟨mE,fun l2 g2=>⟨mE,fun l3 g3=>?_⟩⟩⟩⟩
   have T1:=eW g1 (.tup [.str (vr wl 0)])
   have T2:=eW g2 (.lst [.ref a])
   have T3:=eW g3 (.lst [.int 0])
   have U:=T1.trans (T2.trans T3)
   refine rJ (κ:= .fn (vr wl 0)) (its:=[I']) (ho:=[some 0]) rfl ((T2.trans T3) _ _ eS) (.cons (.flat rfl) .nil) (T3 _ _ eS) (.cons (i1.same U) .nil) eS rfl rfl (by show 1<=1000;decide) fun H2 x2 S2 i2=>?_
   obtain⟨y1,y2,y3⟩:=B0 (κ:= .fn (vr wl 0)) (I:=I') (ho:=[some 0])
   refine q _ _ _ (S1.trans (U.trans S2)) i2 (JI.knit lw nd lm rfl ⟨by decide,⟨"fn",fW,rfl⟩,trivial⟩ (fun J hJ=>by rw[ba.mp hJ];exact j1) (fun _ z=>nomatch z) (fun _=>rfl)) (fun k hk=>?_) (by lia) (by lia) (by lia)
   show(if some 0=some k then 0 else I'.c k)+ 0=0
   split
   ·rfl
   ·rw[z1 k hk]
open TM.Internal (Kn Tr gF szs)
structure JD (wl:List Str) (md:List Nat) (t:Tr) (m:Nat):Prop where
 w:∀e,Ev wl md e->wT t e=m
 o:∀N:Str->Prop,(∀d,d<=md.length->N (wdE wl d))->okT t N
 b:m<=50
 n:t.nest<=30
 z:t.sz<=150
def JDs (wl:List Str) (ts:List Tr) (made:List Nat):Prop:=ts.length=made.length/\∀(d:Nat) t,ts[d]?=some t->JD wl (made.take d) t (made.getD d 0)
theorem JD.of {wl:List Str} {made:List Nat} {I:It} (j:JI wl made I) (z:∀k,k<3->I.c k=0) (h1:I.w<=50) (h2:I.t.nest<=30) (h3:I.t.sz<=150):JD wl made I.t I.w:=by
 refine⟨fun e he=>?_,fun N h=>?_,h1,h2,h3⟩
 ·rw[j.w e he]
  unfold cw
  rw[z 0 (by lia),z 1 (by lia),z 2 (by lia)]
  lia
 ·exact j.o N (fun d hd=>h d (by lia)) (fun _=>h _ (b9 _)) (fun k hk u=>by rw[z k hk]at u;lia)
theorem JDs.snoc {wl:List Str} {ts:List Tr} {made:List Nat} {t:Tr} {w:Nat} (h:JDs wl ts made) (j:JD wl made t w):JDs wl (ts++[t]) (made++[w]):=by
 refine⟨by rw[aO,aO,h.1];rfl,fun d u hu=>?_⟩
 by_cases e:d<ts.length
 ·rw[aJ e]at hu
  have:=h.2 d u hu
  rw[bO (by rw[<-h.1];lia),bo,aJ (by rw[<-h.1];exact e),<-bo]
  exact this
 ·rw[aI (by lia)]at hu
  have ed:d-ts.length=0:=by
   have:=(ar.mp hu).1
   simpa using this
  rw[ed]at hu
  cases hu
  have e2:d=made.length:=by rw[<-h.1];lia
  subst e2
  rw[List.take_left',bo,aI (b9 _),cg]
  ·exact j
  ·rfl
def scD (wl:List Str) (made:List Nat) (d:Nat):Sc:=(aa d).map fun j=>dfE (wdE wl) j (made.getD j 0)
theorem tG (wl:List Str) (made:List Nat) (d:Nat):scD wl made (d+ 1)=scD wl made d++[dfE (wdE wl) d (made.getD d 0)]:=by
 unfold scD
 rw[bL,br]
 rfl
section
variable {wl:List Str} {made:List Nat} (lw:wl.length=16) (nd:wl.Nodup)
include lw nd
theorem DH {i j:Nat} (hi:i<=12) (hj:j<=12) (h:i≠j):wdE wl i≠wdE wl j:=DB lw nd (by lia) (by lia) (by lia)
theorem zW {d j:Nat} (hd:d<=13) (hj:j<d):lkE (scD wl made d) (wdE wl j)=some (dfE (wdE wl) j (made.getD j 0)):=by
 induction d with
 |zero=>lia
 |succ d ih=>
  rw[tG,k8]
  by_cases e:d=j
  ·subst e;exact f6 rfl
  ·rw[fO (show ¬(dfE (wdE wl) d (made.getD d 0)).w=wdE wl j from DH lw nd (by lia) (by lia) e)]
   exact ih (by lia) (by lia)
theorem B1 {d:Nat} (hd:d<=12) (hm:d<=made.length):Ev wl (made.take d) (val (scD wl made d++[dfE (wdE wl) d 0])):=by
 have lt:(made.take d).length=d:=by rw[aH];lia
 refine⟨fun j hj=>?_,?_⟩
 ·rw[lt]at hj
  unfold val
  rw[k8,fO (show ¬(dfE (wdE wl) d 0).w=wdE wl j from DH lw nd (by lia) (by lia) (show d≠j by lia)),zW lw nd (by lia) hj]
  show made.getD j 0=(made.take d).getD j 0
  rw[bo,bo,aM hj]
 ·rw[lt]
  unfold val
  rw[k8,f6 (show(dfE (wdE wl) d 0).w=wdE wl d from rfl)]
  rfl
theorem Fo {d j:Nat} (hd:d<=12) (hj:j<=d):Nm (scD wl made d++[dfE (wdE wl) d 0]) (wdE wl j):=by
 unfold Nm
 rw[k8]
 by_cases e:d=j
 ·rw[f6 (by rw[<-e];rfl)];exact⟨_,rfl⟩
 ·rw[fO (show ¬(dfE (wdE wl) d 0).w=wdE wl j from DH lw nd (by lia) (by lia) e),zW lw nd (by lia) (by lia)]
  exact⟨_,rfl⟩
theorem zX:∀{us:List Tr} {d:Nat},d+us.length<=12->d+us.length=made.length->(∀(k:Nat) t,us[k]?=some t->JD wl (made.take (d+k)) t (made.getD (d+k) 0))->FV (wdE wl) us d (scD wl made d)
 |[],_,_,_,_=>trivial
 |t::us,d,hd,hm,h=>by
  have hl:(t::us).length=us.length+ 1:=rfl
  have j:JD wl (made.take d) t (made.getD d 0):=h 0 t rfl
  have lt:(made.take d).length=d:=by rw[aH];lia
  refine⟨j.o _ fun k hk=>Fo lw nd (by lia) (by rw[lt]at hk;exact hk),?_⟩
  rw[j.w _ (B1 lw nd (by lia) (by lia)),<-tG]
  exact zX (d:=d+ 1) (by lia) (by lia) fun k t hk=>by
   have:=h (k+ 1) t hk
   rw[show d+ 1+k=d+(k+ 1) by lia]
   exact this
theorem zY:∀{us:List Tr} {d p j r:Nat} {G l1:List Pc},d+us.length<=12->d+us.length=made.length->(∀(k:Nat) t,us[k]?=some t->JD wl (made.take (d+k)) t (made.getD (d+k) 0))->G=l1++pcD (wdE wl) us d p (scD wl made d)->l1.length=p->(gF us p)[j]?=some r->∃c,G[r]?=some c/\c.wt=made.getD (d+j) 0
 |[],_,_,_,_,_,_,_,_,_,_,_,h=>by cases h
 |t::us,d,p,j,r,G,l1,hd,hm,h,e,hl,hr=>by
  have hl':(t::us).length=us.length+ 1:=rfl
  have jt:JD wl (made.take d) t (made.getD d 0):=h 0 t rfl
  have ew:=jt.w _ (B1 lw nd (show d<=12 by lia) (by lia))
  cases j with
  |zero=>
   cases hr
   have hp:Pl G t p (scD wl made d++[dfE (wdE wl) d 0]) d:=Dn t (l2:=pcD (wdE wl) us (d+ 1) (p+t.sz) (scD wl made d++[dfE (wdE wl) d (wT t (val (scD wl made d++[dfE (wdE wl) d 0])))])) (by rw[e];rfl) hl
   obtain⟨ρ,g⟩:=hp.at
   exact⟨_,g,ew⟩
  |succ j=>
   have hr:(gF us (p+t.sz))[j]?=some r:=hr
   rw[pcD,ew,<-tG,<-bC]at e
   obtain⟨c,g,w⟩:=zY (d:=d+ 1) (by lia) (by lia) (fun k t hk=>by
    have:=h (k+ 1) t hk
    rw[show d+ 1+k=d+(k+ 1) by lia]
    exact this) e (by rw[aO,hl,jT]) hr
   exact⟨c,g,by rw[w,show d+ 1+j=d+(j+ 1) by lia]⟩
end
theorem B4:∀{ts:List Tr},(∀t∈ts,t.sz<=150)->szs ts<=150*ts.length
 |[],_=>b9 _
 |t::ts,h=>by
  have h1:=h t (by simp)
  have h2:=B4 (ts:=ts) fun u hu=>h u (by simp[hu])
  rw[szs,az]
  lia
inductive XDf (vs:List V) (H:Hp) (Q:VK):Prop
 |mk (wa cl:Addr) (wl:List Str) (cells:List Int) (e:vs=[.ref wa,.ref cl]) (hw:H wa=some (.lst (wl.map V.str))) (lw:wl.length=16) (nd:wl.Nodup) (hc:H cl=some (.lst (cells.map V.int))) (lc:cells.length<=63) (q:∀H' l xs ts made,fE H H'->H' l=some (.lst xs)->Ims H' xs (ts.map ndD)->ts≠[]->ts.length<=12->JDs wl ts made->Q (.ref l) H')
def Hh:Sp:=fun vs H Q _=>XDf vs H Q
theorem wJ {α:Type}:∀{l:List α} {i:Nat} {v:α},l[i]?=some v->l.set i v=l
 |[],_,_,h=>by cases h
 |x::l,0,v,h=>by cases h;rfl
 |x::l,i+ 1,v,h=>by rw[List.set_cons_succ,wJ (l:=l) (i:=i) h]
theorem Stk.le {H:Hp} {st:Addr} {n m:Nat} {J:It->Prop} (h:Stk H st n J) (l:n<=m):Stk H st m J:=by
 obtain⟨xs,e,z,al⟩:=h
 exact⟨xs,e,by lia,al⟩
theorem Stk.push {H:Hp} {st:Addr} {n:Nat} {J:It->Prop} {xs:List V} {x:V} {I:It} (h:Stk H st n J) (e:H st=some (.lst xs)) (i:ItA H x I) (j:J I):Stk (L2.Internal.upd H st (.lst (xs++[x]))) st (n+ 1) J:=by
 have F:FS st H (L2.Internal.upd H st (.lst (xs++[x]))):=fun a o e n=>by rw[eX n];exact e
 obtain⟨ys,e',z,al⟩:=id h
 rw[e]at e'
 cases e'
 refine⟨_,eS,by rw[aO,aV];lia,fun y hy=>?_⟩
 rcases ao.mp hy with hy|hy
 ·obtain⟨I',a,b⟩:=al y hy
  exact⟨I',a.fs h F,b⟩
 ·rw[ba.mp hy]
  exact⟨I,i.fs h F,j⟩
theorem DI {H:Hp} {ns:List V} {ts:List Tr} (h:Ims H ns (ts.map ndD)) {x:V} (hx:x∈ns):∃p,x= .ref p:=by
 obtain⟨i,hi⟩:=bt.mp hx
 obtain⟨d,hd,im⟩:=jG h hi
 rw[aK]at hd
 obtain⟨⟨κ,ks⟩,_,rfl⟩:=cF.mp hd
 obtain⟨a,_,_,_,_,e,_⟩:=uG im
 exact⟨a,e⟩
theorem DJ {wl:List Str} {made:List Nat} {a:Addr} {I:It} {k:Int} {dn:Nat} {σ:St} {R:TS} {D:pj} {H:Hp} (i:ItA H (.ref a) I) (j:JI wl made I) (s8:σ[8]?=some (some (.ref a))) (s7:σ[7]?=some (some (.int k))) (s5:σ[5]?=some (some (.int (dn:Int)))) (h:∀H' x' I',fE H H'->ItA H' x' I'->JS wl made I'->R D (σ.set 8 (some x')) H'):
  yd (vQ (tOr (cT (tOp (cI0 fun i j=>V.bl (decide (j<i))) (tOp AG (cV 8) (tC (V.int 1))) (tC (V.int 16)))) (tOr (cT (tOp (cI0 fun i j=>V.bl (decide (j<i))) (tOp AG (cV 8) (tC (V.int 2))) (tC (V.int 40)))) (cT (tOp (cI0 fun i j=>V.bl (decide (j<i))) (tOp (cI0 fun i j=>V.int (i+j)) (tOp AG (cV 8) (tC (V.int 5))) (cV 5)) (tC (V.int 140)))))) (Aj (rf DE [] E0 (jL (cV 7) tP)) (fN 8)) jD) R D σ H:=by
 obtain⟨a',n,cs,e',ea,ec,iN⟩:=id i
 cases e'
 have num:(Aj (rf DE [] E0 (jL (cV 7) tP)) (fN 8)) {D with nx:=R D} σ H:=by
  show onV σ[7]? _
  rw[s7]
  exact⟨k,rfl,fun H' x S i=>h H' x _ S i (JS.num _)⟩
 show onV σ[8]? _
 rw[s8]
 refine⟨_,ea,fc (eY (j:=1) rfl) ?_⟩
 show if decide ((16:Int)<(I.t.nest:Int))=true then _ else _
 by_cases c1:(16:Int)<(I.t.nest:Int)
 ·rw[gR c1]
  exact jW (jW num)
 rw[gC c1]
 refine jy ?_
 show onV σ[8]? _
 rw[s8]
 refine⟨_,ea,fc (eY (j:=2) rfl) ?_⟩
 show if decide ((40:Int)<(I.w:Int))=true then _ else _
 by_cases c2:(40:Int)<(I.w:Int)
 ·rw[gR c2]
  exact jW (jW num)
 rw[gC c2]
 refine jy ?_
 show onV σ[8]? _
 rw[s8]
 refine⟨_,ea,fc (eY (j:=5) rfl) ?_⟩
 show onV σ[5]? _
 rw[s5]
 show if decide ((140:Int)<(I.t.sz:Int)+(dn:Int))=true then _ else _
 by_cases c3:(140:Int)<(I.t.sz:Int)+(dn:Int)
 ·rw[gR c3]
  exact jW num
 rw[gC c3]
 refine jy ?_
 have:=h H (.ref a) I (fun _ _ e=>e) i ⟨j,by lia,by lia,by lia⟩
 rw[wJ s8]at this
 exact this
theorem Stk.new {H:Hp} {st:Addr} {sn:Nat} {J:It->Prop} (h:H st=some (.lst [])):Stk H st sn J:=⟨[],h,cb _,fun _ m=>by cases m⟩
theorem qV (T:Txt K mg):FO P w base 5 T.d40 Hh:=by
 have gD38:=vG (P:=P) (w:=w) (base:=base) T
 have gD31:=lg (P:=P) (w:=w) (base:=base) T
 have gD32:=kB (P:=P) (w:=w) (base:=base) T
 have gD39:=tF (P:=P) (w:=w) (base:=base) T
 refine T.d40.F.rd fR fun cdv A0 outer s H vs Q E hr h=>?_
 obtain⟨wa,cl,wl,cells,rfl,hw,lw,nd,hc,lc,q⟩:=h
 refine⟨_,(eU (pS (i:=2) fR.nd (fH eT))
  (eU (pS (i:=3) fR.nd (fH eT))
  (eU (pS (i:=4) fR.nd (fH eT))
  (eU (pS (i:=5) fR.nd eV)
  (eU (jK PassesOwn.never rfl (gX (cv 1)) (pN (i:=6) fR.nd)
   (eU (pS (i:=7) fR.nd (fq iJ (cv 6) (fq BG eV eV)))
   (eZ (gG (fD lG (fq iJ (cv 7) eV) eV)
    (eU (pS (i:=8) fR.nd (pF T.d38 gD38 (hr.mono (by lia)) (eR (cv 0) (eR (cv 2) (eR (cv 3) (eR (fq iJ (cv 7) eV) (eR (fq kh (cv 7) eV) eT)))))))
    (eU (gG (PW.pt (yc (fD xr (fh fg (cv 8) eV) eV) (yc (fD xr (fh fg (cv 8) eV) eV) (vN (fD xr (fq gk (fh fg (cv 8) eV) (cv 5)) eV)))))
     (eZ (pS (i:=8) fR.nd (pF T.d32 gD32 (hr.mono (by lia)) (eR (cv 7) eT))))
     fJ)
    (eZ (fA (ki (lO dO dP dQ f9 (PE.mono (cv 2)) (eR (PE.mono (cv 8)) eT)))))))
    (eZ (gG (PW.pt (p9 (fD xr (fS fX rfl T.z_len jB (eR (cv 2) eT)) eV) (p9 (fD lG (fS fX rfl T.z_len jB (eR (cv 4) eT)) eV) (ou (fD sI (cv 5) eV)))))
     (eU (pS (i:=9) fR.nd (pF T.d39 gD39 (hr.mono (by lia)) (eR (cv 0) (eR (Br dO dR dS Bs (cv 2)) (eR (fq kh (cv 7) eV) eT)))))
     (eU (fA (ki (lO dO dP dQ f9 (PE.mono (cv 4)) (eR (PE.mono (fh fg (cv 9) eV)) eT))))
     (eU (fA (ki (lO dO dP dQ f9 (PE.mono (cv 3)) (eR (PE.mono (fh fg (cv 9) eV)) eT))))
     (eU (pS (i:=5) fR.nd (fq gk (cv 5) (fh fg (cv 9) eV)))
     (eZ (pS (i:=2) fR.nd (fH eT)))))))
     fJ))))))
  (eZ (fz (fq rV (cv 4) (fH (eR (fh fg (pF T.d39 gD39 (hr.mono (by lia)) (eR (cv 0) (eR (pF T.d31 gD31 (hr.mono (by lia)) (eR (cv 2) eT)) (eR (fS fX rfl T.z_len jB (eR (cv 1) eT)) eT)))) eV) eT)))))))))),?_⟩
 have sl:=sizeLine_eq
 refine⟨mD,fun st hst=>?_⟩
 dsimp only[fN]
 refine⟨mD,fun ma hma=>?_⟩
 dsimp only[fN]
 refine⟨mD,fun no hno=>?_⟩
 dsimp only[fN]
 have S1:=eW hst (.lst [])
 have S2:=eW hma (.lst [])
 have S3:=eW hno (.lst [])
 have S0:=S1.trans (S2.trans S3)
 have nn:∀{H2:Hp} {a:Addr},fE H H2->H2 a=none->H a=none:=fun{H2 a} S h=>by cases z:H a with|none=>rfl|some u=>rw[S _ _ z]at h;cases h
 have nma:=nn S1 hma
 have nno:=nn (S1.trans S2) hno
 have d1:ma≠st:=fun z=>by rw[z,eS]at hma;cases hma
 have d2:no≠st:=fun z=>by rw[z,S2 _ _ (show(L2.Internal.upd H st (.lst [])) st=_ from eS)]at hno;cases hno
 have d3:no≠ma:=fun z=>by rw[z,eS]at hno;cases hno
 refine⟨cl,rfl,⟨_,SqL.of (S0 _ _ hc)⟩,sx (xs:=cells.map V.int) (fun i σ H1=>∃(o6 o7 o8 o9:Option V) (st:Addr) (dn:Nat) (ns:List V) (ts:List Tr) (made:List Nat),σ=[some (.ref wa),some (.ref cl),some (.ref st),some (.ref ma),some (.ref no),some (.int (dn:Int)),o6,o7,o8,o9]/\fE H H1/\H st=none/\ma≠st/\no≠st/\Stk H1 st i (JS wl made)/\H1 ma=some (.lst (made.map nI))/\H1 no=some (.lst ns)/\Ims H1 ns (ts.map ndD)/\ts.length<=11/\JDs wl ts made) ?_ ?_ ?_ ?_⟩
 ·exact⟨none,none,none,none,st,0,[],[],[],rfl,S0,hst,d1,d2,Stk.new (S3 _ _ (S2 _ _ eS)),S3 _ _ eS,eS,.nil,by decide,rfl,fun d t h=>by cases h⟩
 ·rintro i σ H1 _ ⟨o6,o7,o8,o9,st,dn,ns,ts,made,_,S,_⟩
  exact SqL.of (S _ _ hc)
 ·rintro i v σ H1 hv ⟨o6,o7,o8,o9,st,dn,ns,ts,made,rfl,S,nst,m1,m2,ks,ema,eno,ino,lts,jd⟩
  rw[aK]at hv
  obtain⟨c,hc',rfl⟩:=cF.mp hv
  have li:i<cells.length:=(ar.mp hc').1
  have lm:made.length<=11:=by rw[<-jd.1];exact lts
  have nws:wa≠st:=fe hw nst
  have hw1:=S _ _ hw
  dsimp only[fN]
  refine⟨⟨by decide,by decide,by decide⟩,(by show(0:Int)<10^(64:Int).toNat;decide+kernel),?_⟩
  dsimp only[fN]
  generalize c%10^(64:Int).toNat=k
  refine⟨(by show(0:Int)<24;decide),?_⟩
  show if decide (k%24<22)=true then _ else _
  by_cases c1:k%24<22
  ·rw[gR c1]
   refine jW ?_
   refine⟨(by show(0:Int)<24;decide),⟨by decide,by decide⟩,?_⟩
   refine⟨wa,st,ma,i,wl,made,k%24,k/24,rfl,by lia,c1,hw1,ema,lw,nd,by lia,nws,m1,ks,fun H2 x I F2 k2 i2 j2=>?_⟩
   dsimp only[fN]
   obtain⟨a,n,cs,rfl,ea,ec,iN⟩:=id i2
   refine DJ i2 j2 rfl rfl rfl fun H3 x3 I3 S3 i3 j3=>?_
   have k3:=k2.same S3
   obtain⟨xs,es,ls,al⟩:=id k3
   refine⟨⟨_,es⟩,xs,es,by lia,?_⟩
   have F4:FS st H3 (L2.Internal.upd H3 st (.lst (xs++[x3]))):=fun a o e n=>by rw[eX n];exact e
   have F14:FS st H1 (L2.Internal.upd H3 st (.lst (xs++[x3]))):=F2.trans ((FS.same S3).trans F4)
   refine⟨_,_,_,_,st,dn,ns,ts,made,rfl,fun a o e=>F14 _ _ (S _ _ e) (fe e nst),nst,m1,m2,k3.push es i3 j3,F14 _ _ ema m1,F14 _ _ eno m2,ino.mono (ks.tk F14),lts,jd⟩
  ·rw[gC c1]
   refine jy ?_
   obtain⟨xs,es,ls,al⟩:=id ks
   have keep:∃(o6' o7' o8' o9':Option V) (st':Addr) (dn':Nat) (ns':List V) (ts':List Tr) (made':List Nat),[some (V.ref wa),some (V.ref cl),some (V.ref st),some (V.ref ma),some (V.ref no),some (V.int (dn:Int)),some (V.int c),some (V.int k),o8,o9]=[some (V.ref wa),some (V.ref cl),some (V.ref st'),some (V.ref ma),some (V.ref no),some (V.int (dn':Int)),o6',o7',o8',o9']/\fE H H1/\H st'=none/\ma≠st'/\no≠st'/\Stk H1 st' (i+ 1) (JS wl made')/\H1 ma=some (.lst (made'.map nI))/\H1 no=some (.lst ns')/\Ims H1 ns' (ts'.map ndD)/\ts'.length<=11/\JDs wl ts' made':=⟨_,_,_,_,st,dn,ns,ts,made,rfl,S,nst,m1,m2,ks.le (by lia),ema,eno,ino,lts,jd⟩
   refine⟨st,_,rfl,.inl (SqL.of es),?_⟩
   show if decide ((0:Int)<(xs.length:Int))=true then _ else _
   by_cases c2:0<xs.length
   ·rw[gR (by lia)]
    refine jW ⟨no,_,rfl,.inl (SqL.of eno),?_⟩
    have lns:=ino.length
    rw[aC]at lns
    show if decide ((ns.length:Int)<11)=true then _ else _
    by_cases c3:ns.length<11
    ·rw[gR (by lia)]
     refine jW ?_
     show if decide ((dn:Int)<=100)=true then _ else _
     by_cases c4:dn<=100
     ·rw[gR (by lia)]
      refine jW ?_
      have hy:xs[xs.length-1]?=some (xs[xs.length-1]'(by lia)):=bb (by lia)
      obtain⟨I,hI',hJ⟩:=al _ (aN hy)
      refine⟨.inl ⟨rfl,_,SqL.of es⟩,st,xs,_,rfl,rfl,es,hy,?_⟩
      have F:FS st H1 (L2.Internal.upd H1 st (.lst xs.dropLast)):=fun a o e n=>by rw[eX n];exact e
      have tkF:=ks.tk F
      have hw2:=F _ _ hw1 nws
      have ema2:=F _ _ ema m1
      have eno2:=F _ _ eno m2
      have SH:fE H (L2.Internal.upd H1 st (.lst xs.dropLast)):=fun a o e=>F _ _ (S _ _ e) (fe e nst)
      have iI:=hI'.fs ks F
      refine⟨⟨by decide,by decide⟩,wa,wl,made,_,I,k/24,rfl,hw2,lw,nd,by lia,iI,hJ.1,fun H3 x3 I3 S3 i3 j3 z3 w3 n3 s3=>?_⟩
      dsimp only[fN]
      obtain⟨a,n,cs,rfl,ea,ec,iN⟩:=id i3
      have eno3:=S3 _ _ eno2
      refine⟨⟨_,eno3⟩,_,ea,fc (eY (j:=0) rfl) ⟨_,eno3,by lia,?_⟩⟩
      have na:a≠no:=fun z=>by
       rw[z,eno3]at ea
       cases cC.inj ea
       obtain⟨p,e⟩:=DI ino (show V.int (I3.t.nest:Int)∈itV n I3 cs by simp[itV])
       cases e
      have ema3:=S3 _ _ ema2
      have nb:a≠ma:=fun z=>by
       rw[z,ema3]at ea
       have e:=cC.inj ea
       injection e with e
       have hm:V.ref cs∈made.map nI:=by rw[e];simp[itV]
       obtain⟨u,_,hu⟩:=bc.mp hm
       cases hu
      have ea4:(L2.Internal.upd H3 no (.lst (ns++[n]))) a=some (.lst (itV n I3 cs)):=by rw[eX na];exact ea
      have ema4:(L2.Internal.upd H3 no (.lst (ns++[n]))) ma=some (.lst (made.map nI)):=by rw[eX d3.symm];exact ema3
      refine⟨⟨_,ema4⟩,_,ea4,fc (eY (j:=2) rfl) ⟨_,ema4,by rw[aC];lia,?_⟩⟩
      have ea5:(L2.Internal.upd (L2.Internal.upd H3 no (.lst (ns++[n]))) ma (.lst (made.map nI++[.int (I3.w:Int)]))) a=some (.lst (itV n I3 cs)):=by rw[eX nb];exact ea4
      have ema5:(L2.Internal.upd (L2.Internal.upd H3 no (.lst (ns++[n]))) ma (.lst (made.map nI++[.int (I3.w:Int)]))) ma=some (.lst ((made++[I3.w]).map nI)):=by rw[eS,br];rfl
      have eno5:(L2.Internal.upd (L2.Internal.upd H3 no (.lst (ns++[n]))) ma (.lst (made.map nI++[.int (I3.w:Int)]))) no=some (.lst (ns++[n])):=by rw[eX d3];exact eS
      have k35:TK H3 (L2.Internal.upd (L2.Internal.upd H3 no (.lst (ns++[n]))) ma (.lst (made.map nI++[.int (I3.w:Int)]))):=fun b ws e=>(ij ema4).tk _ _ ((ij eno3).tk _ _ e)
      have S5:fE H (L2.Internal.upd (L2.Internal.upd H3 no (.lst (ns++[n]))) ma (.lst (made.map nI++[.int (I3.w:Int)]))):=fun b o e=>by
       rw[eX (fe e nma),eX (fe e nno)]
       exact S3 _ _ (SH _ _ e)
      show yd _ _ _ _ (L2.Internal.upd (L2.Internal.upd H3 no (.lst (ns++[n]))) ma (.lst (made.map nI++[.int (I3.w:Int)])))
      generalize(L2.Internal.upd (L2.Internal.upd H3 no (.lst (ns++[n]))) ma (.lst (made.map nI++[.int (I3.w:Int)])))=H5 at ea5 ema5 eno5 k35 S5
      refine⟨_,ea5,fc (eY (j:=5) rfl) ?_⟩
      dsimp only[fN]
      refine⟨mD,fun st6 h6=>?_⟩
      dsimp only[fN]
      have S6:=eW h6 (.lst [])
      have n6:∀{b:Addr} {o:HO},H5 b=some o->b≠st6:=fun e z=>by rw[<-z,e]at h6;cases h6
      refine⟨_,_,_,_,st6,dn+I3.t.sz,ns++[n],ts++[I3.t],made++[I3.w],rfl,S5.trans S6,nn S5 h6,n6 ema5,n6 eno5,Stk.new eS,S6 _ _ ema5,S6 _ _ eno5,?_,by rw[aO,<-lns];show ns.length+ 1<=11;lia,jd.snoc (JD.of j3 z3 (by have:=hJ.2;lia) (by have:=hJ.3;lia) (by have:=hJ.4;lia))⟩
      rw[br]
      exact((((ino.mono tkF).mono (fE.tk S3)).app (.cons iN .nil)).mono k35).mono (fE.tk S6)
     ·rw[gC (by lia)]
      exact jy keep
    ·rw[gC (by lia)]
     exact jy (jy keep)
   ·rw[gC (by lia)]
    exact jy (jy keep)
 ·rintro σ H1 ⟨o6,o7,o8,o9,st,dn,ns,ts,made,rfl,S,nst,m1,m2,ks,ema,eno,ino,lts,jd⟩
  dsimp only
  have nws:wa≠st:=fe hw nst
  have lm:made.length<=11:=by rw[<-jd.1];exact lts
  refine⟨st,_,JS wl made,rfl,ks,JS.num 0,fun H2 x2 I2 F2 k2 i2 j2=>?_⟩
  have S2':fE H H2:=fun a o e=>F2 _ _ (S _ _ e) (fe e nst)
  refine⟨cl,_,rfl,.inl (SqL.of (S2' _ _ hc)),?_⟩
  refine⟨wa,wl,made,x2,I2,_,rfl,S2' _ _ hw,lw,nd,by lia,i2,j2.1,fun H3 x3 I3 S3 i3 j3 z3 w3 n3 s3=>?_⟩
  obtain⟨a,n,cs,rfl,ea,ec,iN⟩:=id i3
  refine⟨_,ea,fc (eY (j:=0) rfl) ⟨mE,fun l4 h4=>?_⟩⟩
  have S4:=eW h4 (.lst [n])
  have eno4:=S4 _ _ (S3 _ _ (F2 _ _ eno m2))
  have lns:=ino.length
  rw[aC]at lns
  refine⟨no,l4,ns,[n],rfl,rfl,eno4,eS,by show ns.length+ 1<=_;lia,fun l5 h5=>?_⟩
  have S5:=eW h5 (.lst (ns++[n]))
  have S35:=S3.trans (S4.trans S5)
  refine q _ l5 (ns++[n]) (ts++[I3.t]) (made++[I3.w]) (S2'.trans S35) eS ?_ (by simp) (by rw[aO];show ts.length+ 1<=12;lia) (jd.snoc (JD.of j3 z3 (by have:=j2.2;lia) (by have:=j2.3;lia) (by have:=j2.4;lia)))
  rw[br]
  exact(((ino.mono (ks.tk F2)).mono (fE.tk S35))).app (.cons (iN.mono (fE.tk (S4.trans S5))) .nil)
def apB (D E:Bd):Bd:=⟨D.pts++E.pts,D.mks++E.mks,D.uss++E.uss,D.fls++E.fls,D.root⟩
def rnB (g:Int->Int) (D:Bd):Bd:=⟨D.pts,D.mks.map (rnM g),D.uss.map (rnU g),D.fls.map (rnF g),D.root⟩
structure Sd (g:Int->Int) (D0 E0:Bd) (s t:Ls):Prop where
 d:∃D,s.D=apB D0 D/\t.D=apB E0 (rnB g D)
 n:∀j:Nat,g (s.n+j)=t.n+j
structure Sm (g:Int->Int) (D0 E0:Bd) (vi:Int->Int->Prop) (df:Int->Int) (p:Int) (s t:Ls):Prop where
 d:Sd g D0 E0 s t
 h:∀k,vi p k->t.held k=(s.held k).map g
 a:t.st (df p)=(s.st (df p)).map g
section
variable {g:Int->Int} {D0 E0:Bd} {s t:Ls}
theorem Sd.n0 (z:Sd g D0 E0 s t):t.n=g s.n:=by
 have:=z.n 0
 rw[show s.n+((0:Nat):Int)=s.n by lia]at this
 lia
theorem Sd.pt (z:Sd g D0 E0 s t) (x:Int):Sd g D0 E0 (s.pt x) (t.pt x):=by
 obtain⟨⟨D,e1,e2⟩,n⟩:=z
 refine⟨⟨⟨D.pts++[x],D.mks,D.uss,D.fls,D.root⟩,?_,?_⟩,fun j=>?_⟩
 ·unfold Ls.pt;rw[e1];simp only[apB,bC]
 ·unfold Ls.pt;rw[e2];simp only[apB,rnB,bC]
 ·rw[rZ,rZ]
  have:=n (j+ 1)
  rw[show s.n+ 1+(j:Int)=s.n+((j+ 1:Nat):Int) by lia]
  lia
theorem Sd.ma (z:Sd g D0 E0 s t) (m:Mkg):Sd g D0 E0 (s.mk' m) (t.mk' (rnM g m)):=by
 obtain⟨⟨D,e1,e2⟩,n⟩:=z
 refine⟨⟨⟨D.pts,D.mks++[m],D.uss,D.fls,D.root⟩,?_,?_⟩,n⟩
 ·unfold Ls.mk';rw[e1];simp only[apB,bC]
 ·unfold Ls.mk';rw[e2];simp only[apB,rnB,bC,br,aB,aT]
theorem Sd.us (z:Sd g D0 E0 s t) (m:Us):Sd g D0 E0 (s.us m) (t.us (rnU g m)):=by
 obtain⟨⟨D,e1,e2⟩,n⟩:=z
 refine⟨⟨⟨D.pts,D.mks,D.uss++[m],D.fls,D.root⟩,?_,?_⟩,n⟩
 ·unfold Ls.us;rw[e1];simp only[apB,bC]
 ·unfold Ls.us;rw[e2];simp only[apB,rnB,bC,br,aB,aT]
theorem Sd.fl (z:Sd g D0 E0 s t) (x y:Int):Sd g D0 E0 (s.fl x y) (t.fl (g x) (g y)):=by
 obtain⟨⟨D,e1,e2⟩,n⟩:=z
 refine⟨⟨⟨D.pts,D.mks,D.uss,D.fls++[(x,y)],D.root⟩,?_,?_⟩,n⟩
 ·unfold Ls.fl;rw[e1];simp only[apB,bC]
 ·unfold Ls.fl;rw[e2];simp only[apB,rnB,rnF,bC,br,aB,aT]
end
section
variable {g:Int->Int} {D0 E0:Bd} {vi:Int->Int->Prop} {en df:Int->Int} {ρs:List Ro} {roots:List Nat} {ho:Nat->Option Hm}
theorem uO (V:Vs vi en df ρs roots ho) {p c k:Int} {ρ:Ro} (hk:atZ ρs p=some ρ) (hc:c∈frk ρ) (h:vi c k):vi p k:=by
 rcases V.kid _ _ _ _ hk (je hc) h with h|⟨_,h⟩
 ·exact h
 ·cases ρ with
  |fn=>cases hc
  |case a l=>rw[ba.mp hc]at h;exact absurd h (V.sub _ _ _ hk)
  |_=>cases h
theorem uP (N:Nt en df ρs roots ho) {f:Nat} {p c:Int} {ρ:Ro} (hk:atZ ρs p=some ρ) (hc:c∈sT ρ) {s s':Ls} {q:Int} (hl:iL ρs roots ho f c s=some (q,s')):Rw en df p s s':=by
 obtain⟨z1,z2,z3,z4⟩:=N.kid _ _ _ hk hc
 have w:=wo N f _ _ _ _ hl
 exact⟨w.1.part N.n z1 z2 z3,fun d n=>by rw[<-z4];exact w.2 d n⟩
theorem zZ (N:Nt en df ρs roots ho) {f:Nat} {p c v:Int} {ρ:Ro} (hk:atZ ρs p=some ρ) (hc:c∈bnd ρ) {s s':Ls} {q:Int} (hl:iL ρs roots ho f c ((s.pt p).hold c v)=some (q,s')):Rw en df p s s':=by
 obtain⟨z1,z2,z3,z4⟩:=N.kid _ _ _ hk (kX hc)
 exact(Rw.pt.trans (Rw.ho z1 (by lia))).trans (uP N hk (kX hc) hl)
theorem Fp {f:Nat} {p:Int} {s s':Ls} {ρ:Ro} (hk:atZ ρs p=some ρ) (h:iF (iL ρs roots ho f) roots (ho p.toNat) p s.n (s.pt p) ρ=some s'):iL ρs roots ho (f+ 1) p s=some (s.n,s'):=by
 unfold iL
 rw[hk]
 dsimp only
 rw[h]
theorem Rw.st {p:Int} {s s':Ls} (w:Rw en df p s s'):s'.st (df p)=s.st (df p):=by
 by_cases e:s'.st (df p)=s.st (df p)
 ·exact e
 ·have:=w.2 _ e;lia
theorem Rw.vh (V:Vs vi en df ρs roots ho) {p k:Int} {s s':Ls} (w:Rw en df p s s') (h:vi p k):s'.held k=s.held k:=by
 obtain⟨_,z1,z2⟩:=V.enc _ _ h
 exact w.1.enc z1 z2
theorem Sm.step (V:Vs vi en df ρs roots ho) {p:Int} {s t s' t':Ls} (z:Sm g D0 E0 vi df p s t) (w:Rw en df p s s') (w':Rw en df p t t') (d:Sd g D0 E0 s' t'):Sm g D0 E0 vi df p s' t':=
 ⟨d,fun k h=>by rw[Rw.vh V w h,Rw.vh V w' h];exact z.h k h,by rw[Rw.st w,Rw.st w'];exact z.a⟩
theorem DM (N:Nt en df ρs roots ho) (V:Vs vi en df ρs roots ho):∀(f f':Nat) (p q:Int) (s t s':Ls),f<=f'->Sm g D0 E0 vi df p s t->iL ρs roots ho f p s=some (q,s')->∃t',iL ρs roots ho f' p t=some (g q,t')/\Sd g D0 E0 s' t'
 |0,_,_,_,_,_,_,_,_,h=>by cases h
 |f+ 1,0,_,_,_,_,_,l,_,_=>by lia
 |f+ 1,f'+ 1,p,q,s,t,s',l,z,h=>by
  have IH:=fun p q s t s'=>DM N V f f' p q s t s' (by lia)
  obtain⟨ρ,hk,h1,rfl⟩:=kY h
  have zp:Sm g D0 E0 vi df p (s.pt p) (t.pt p):=⟨z.d.pt p,z.h,z.a⟩
  have key:∃t',iF (iL ρs roots ho f') roots (ho p.toNat) p t.n (t.pt p) ρ=some t'/\Sd g D0 E0 s' t':=by
   rw[z.d.n0]
   by_cases nn:∀w,ρ≠ .name w
   ·have G:Gn (γ:=Unit) g (fun _ s t=>Sm g D0 E0 vi df p s t) (fun _ _ _=>True) (iL ρs roots ho f) (iL ρs roots ho f') p ρ:=
     ⟨(fun r=>r.d.n0),
      (fun r=>⟨⟨r.d.pt p,r.h,r.a⟩,fun _ _=>trivial,trivial⟩),
      (fun r _ _=>⟨r.d.ma _,r.h,r.a⟩),
      (fun r _=>⟨r.d.us _,r.h,r.a⟩),
      (fun r _ _=>⟨r.d.fl _ _,r.h,r.a⟩),
      (fun{c s t k q s'} hc r e=>by
       have dk:=(N.kid _ _ _ hk (je hc)).2.2.2
       obtain⟨t',e1,d1⟩:=IH k q s t s' ⟨r.d,fun x hx=>r.h x (uO V hk hc hx),by rw[dk];exact r.a⟩ e
       exact⟨(),t',e1,r.step V (uP N hk (je hc) e) (uP N hk (je hc) e1) d1,fun _ _=>trivial,trivial⟩),
      (fun{c s t k q s'} hc r e=>by
       have dk:=(N.kid _ _ _ hk (kX hc)).2.2.2
       obtain⟨t',e1,d1⟩:=IH k q ((s.pt p).hold k s.n) ((t.pt p).hold k t.n) s' ⟨⟨(r.d.pt p).d,(r.d.pt p).n⟩,fun x hx=>by
        show put t.held k t.n x=(put s.held k s.n x).map g
        unfold put
        by_cases ex:x=k
        ·rw[f6 ex,f6 ex,r.d.n0];rfl
        ·rw[fO ex,fO ex]
         rcases V.kid _ _ _ _ hk (kX hc) hx with hx|hx
         ·exact r.h x hx
         ·exact absurd hx.1 ex,by rw[dk];exact r.a⟩ e
       exact⟨(),t',e1,r.step V (zZ N hk hc e) (zZ N hk hc e1) d1,fun _ _=>trivial,trivial,trivial⟩)⟩
    obtain⟨_,t',e1,r1,_⟩:=G.go (c:=()) nn zp trivial h1
    exact⟨t',e1,r1.d⟩
   ·obtain⟨w,rfl⟩:∃w,ρ= .name w:=Classical.byContradiction fun n=>nn fun w e=>n ⟨w,e⟩
    obtain⟨h0,r,s1,hh,hm,rfl⟩:=kF h1
    obtain⟨k,rfl,_⟩:=fV hk
    have hh:ho k=some h0:=hh
    have key:∃t1,jj (iL ρs roots ho f') roots h0 k (t.pt k)=some (g r,t1)/\Sd g D0 E0 s1 t1:=by
     unfold jj at hm⊢
     by_cases e1:h0.1="let"
     ·rw[f6 e1]at hm⊢
      exact IH _ _ _ _ _ ⟨zp.d,fun x hx=>zp.h x (V.lt _ _ _ hh e1 hx),by rw[(N.lt _ _ hh e1).2.2];exact zp.a⟩ hm
     rw[fO e1]at hm⊢
     by_cases e2:h0.1="def"
     ·rw[f6 e2]at hm⊢
      by_cases e3:inF roots k h0.2=true
      ·rw[f6 e3]at hm⊢
       obtain⟨v,hv,e5⟩:=cF.mp hm
       cases e5
       have:=zp.a
       rw[<-(V.inn _ _ hh e2).mp e3,hv]at this
       rw[this]
       exact⟨_,rfl,zp.d⟩
      ·rw[fO e3]at hm⊢
       obtain⟨r0,q0,s2,hd,h2,e5,e6⟩:=ke hm
       have n0:=zp.d.n0
       obtain⟨t2,a,b⟩:=IH (r0:Int) q0 (((s.pt k).pt r0).begin h0.2 (s.pt k).n) (((t.pt k).pt r0).begin h0.2 (t.pt k).n) s2 ⟨⟨(zp.d.pt r0).d,(zp.d.pt r0).n⟩,fun x hx=>absurd hx (V.root _ _ _ hd),by
        rw[V.dr _ _ hd,n0]
        show put t.st h0.2 (g (s.pt k).n) h0.2=(put s.st h0.2 (s.pt k).n h0.2).map g
        simp[put]⟩ h2
       refine⟨t2.fl (g q0) (t.pt k).n,?_,?_⟩
       ·unfold uZ
        rw[hd]
        dsimp only
        rw[a,e5,<-n0]
       ·rw[e6,n0];exact b.fl _ _
     rw[fO e2]at hm⊢
     obtain⟨v,hv,e5⟩:=cF.mp hm
     cases e5
     rw[zp.h _ (V.held _ _ hh e1 e2),hv]
     exact⟨_,rfl,zp.d⟩
    obtain⟨t1,a,b⟩:=key
    refine⟨t1.fl (g r) (g s.n),?_,b.fl _ _⟩
    unfold iF
    rw[show((k:Int)).toNat=k from rfl,hh]
    dsimp only
    rw[a]
  obtain⟨t',e1,d1⟩:=key
  exact⟨t',by rw[<-z.d.n0];exact Fp hk e1,d1⟩
end
theorem Fq (g h:Int->Int) (v:V):rnV g (rnV h v)=rnV (fun x=>g (h x)) v:=by cases v<;>rfl
mutual
theorem B5 (g h:Int->Int):∀d:Dt,rnD g (rnD h d)=rnD (fun x=>g (h x)) d
 | .flat v=>by rw[rnD,rnD,rnD,Fq]
 | .tup l=>by rw[rnD,rnD,rnD,z6]
 | .lst l=>by rw[rnD,rnD,rnD]
theorem z6 (g h:Int->Int):∀l:List Dt,jZ g (jZ h l)=jZ (fun x=>g (h x)) l
 |[]=>by rw[jZ,jZ,jZ]
 |d::l=>by rw[jZ,jZ,jZ,B5,z6]
end
theorem Fs (g h:Int->Int) (l:List (Str×Int)):rnP g (rnP h l)=rnP (fun x=>g (h x)) l:=by simp[rnP,Function.comp_def]
theorem Fu (D:Bd):rnB (fun x=>x) D=D:=by
 simp only[rnB,show(rnM fun x=>x)=fun m=>m from funext r8,show(rnU fun x=>x)=fun m=>m from funext r9,show(rnF fun x=>x)=fun m=>m from rfl,List.map_id']
structure An (D:Bd):Prop where
 m:∀m∈D.mks,0<=m.a/\m.a<(D.pts.length:Int)
 u:∀u∈D.uss,0<=uA u/\uA u<(D.pts.length:Int)
 f:∀x∈D.fls,(0<=x.1/\x.1<(D.pts.length:Int))/\0<=x.2/\x.2<(D.pts.length:Int)
theorem nO {α:Type} {P:α->Prop} {l:List α} {a:α} (h:∀x∈l,P x) (k:P a):∀x∈l++[a],P x:=fun x hx=>by
 rcases ao.mp hx with hx|hx
 ·exact h x hx
 ·rw[ba.mp hx];exact k
section
variable {s:Ls}
theorem An.pt (z:An s.D) (p:Int):An (s.pt p).D:=by
 have e:(((s.pt p).D.pts).length:Int)=s.D.pts.length+ 1:=rZ s p
 exact⟨fun m h=>by have:=z.m m h;lia,fun m h=>by have:=z.u m h;lia,fun m h=>by have:=z.f m h;lia⟩
theorem An.ma (z:An s.D) {m:Mkg} (h:0<=m.a/\m.a<s.n):An (s.mk' m).D:=⟨nO z.m h,z.u,z.f⟩
theorem An.us (z:An s.D) {u:Us} (h:0<=uA u/\uA u<s.n):An (s.us u).D:=⟨z.m,nO z.u h,z.f⟩
theorem An.fl (z:An s.D) {x y:Int} (h:0<=x/\x<s.n) (k:0<=y/\y<s.n):An (s.fl x y).D:=⟨z.m,z.u,nO z.f ⟨h,k⟩⟩
end
theorem Be (u:Us):uA u∈inU u:=by cases u<;>simp[uA,inU]
structure Ah (ρs:List Ro) (s:Ls):Prop where
 d:An s.D
 pl:∀x∈s.D.pts,∃ρ,atZ ρs x=some ρ
 h:∀k v,s.held k=some v->0<=v/\v<s.n
 t:∀k v,s.st k=some v->0<=v/\v<s.n
theorem rL (s:Ls):0<=s.n:=Int.natCast_nonneg _
theorem Ah.pt {ρs:List Ro} {s:Ls} (z:Ah ρs s) (p:Int) (hp:∃ρ,atZ ρs p=some ρ):Ah ρs (s.pt p):=⟨z.d.pt p,nO z.pl hp,fun k v h=>by have:=z.h k v h;rw[rZ];lia,fun k v h=>by have:=z.t k v h;rw[rZ];lia⟩
theorem pL {h:Int->Option Int} {n k v x y:Int} (z:∀k v,h k=some v->0<=v/\v<n) (hv:0<=v/\v<n) (e:put h k v x=some y):0<=y/\y<n:=by
 unfold put at e
 split at e
 ·cases e;exact hv
 ·exact z _ _ e
theorem uQ {ρs:List Ro} {roots:List Nat} {ho:Nat->Option Hm}:∀{f:Nat} {p:Int} {s:Ls} {r:Int×Ls},iL ρs roots ho f p s=some r->∃ρ,atZ ρs p=some ρ
 |0,_,_,_,h=>by cases h
 |f+ 1,_,_,(_,_),h=>let⟨ρ,hk,_⟩:=kY h;⟨ρ,hk⟩
theorem lF {ρs:List Ro} {roots:List Nat} {ho:Nat->Option Hm}:∀(f:Nat) (p q:Int) (s s':Ls),Ah ρs s->iL ρs roots ho f p s=some (q,s')->Ah ρs s'/\s.n<s'.n/\q=s.n
 |0,_,_,_,_,_,h=>by cases h
 |f+ 1,p,q,s,s',z,h=>by
  obtain⟨ρ,hk,h1,rfl⟩:=kY h
  have zp:=z.pt p ⟨_,hk⟩
  have IH:=lF (ρs:=ρs) (roots:=roots) (ho:=ho) f
  have n1:=rZ s p
  have n0:=rL s
  have key:Ah ρs s'/\(s.pt p).n<=s'.n:=by
   by_cases nn:∀w,ρ≠ .name w
   ·have G:Gn (γ:=Unit) (fun x=>x) (fun _ s t=>t=s/\Ah ρs s/\(s.pt p).n<=(s.pt p).n) (fun _ n x=>0<=x/\x<n) (iL ρs roots ho f) (iL ρs roots ho f) p ρ:=
     ⟨(fun r=>by rw[r.1]),
      (fun{c s t} r=>⟨⟨by rw[r.1],r.2.1.pt p ⟨_,hk⟩,eB _⟩,fun x hx=>by lia,by have:=rL s;lia⟩),
      (fun r h _=>⟨by rw[r.1,r8],⟨r.2.1.d.ma h,r.2.1.pl,r.2.1.h,r.2.1.t⟩,eB _⟩),
      (fun{c s t u} r h=>⟨by rw[r.1,r9],⟨r.2.1.d.us (h _ (Be u)),r.2.1.pl,r.2.1.h,r.2.1.t⟩,eB _⟩),
      (fun r h k=>⟨by rw[r.1],⟨r.2.1.d.fl h k,r.2.1.pl,r.2.1.h,r.2.1.t⟩,eB _⟩),
      (fun{c s t k q s'} hc r e=>by
       obtain⟨rfl,r2,_⟩:=r
       obtain⟨z1,l1,e1⟩:=IH k q _ s' r2 e
       have:=rL t
       exact⟨(),s',e,⟨rfl,z1,eB _⟩,fun x hx=>by lia,by lia⟩),
      (fun{c s t k q s'} hc r e=>by
       obtain⟨rfl,r2,_⟩:=r
       have:=rL t
       have n2:=rZ t p
       have en:((t.pt p).hold k t.n).n=(t.pt p).n:=rfl
       have zp:=r2.pt p ⟨_,hk⟩
       obtain⟨z1,l1,e1⟩:=IH k q ((t.pt p).hold k t.n) s' ⟨zp.d,zp.pl,fun x y h=>pL (h:=t.held) (k:=k) (v:=t.n) (n:=(t.pt p).n) zp.h (by lia) h,zp.t⟩ e
       exact⟨(),s',e,⟨rfl,z1,eB _⟩,fun x hx=>by lia,by lia,by lia⟩)⟩
    obtain⟨_,t',e1,r1,m1⟩:=G.go (c:=()) nn ⟨rfl,zp,eB _⟩ (own:=s.n) ⟨by lia,by lia⟩ h1
    have:=m1 s.n ⟨by lia,by lia⟩
    exact⟨r1.2.1,by lia⟩
   ·obtain⟨w,rfl⟩:∃w,ρ= .name w:=Classical.byContradiction fun n=>nn fun w e=>n ⟨w,e⟩
    obtain⟨h0,r,s1,hh,hm,rfl⟩:=kF h1
    have key:Ah ρs s1/\(s.pt p).n<=s1.n/\0<=r/\r<s1.n:=by
     unfold jj at hm
     split at hm
     ·obtain⟨a,b,c⟩:=IH _ _ _ _ zp hm
      exact⟨a,by lia,by lia,by lia⟩
     split at hm
     ·split at hm
      ·obtain⟨v,hv,e5⟩:=cF.mp hm
       cases e5
       exact⟨zp,eB _,zp.t _ _ hv⟩
      ·obtain⟨r0,q0,s2,hd,h2,rfl,rfl⟩:=ke hm
       have n2:=rZ (s.pt p) r0
       have zr:=zp.pt r0 (uQ h2)
       have en:(((s.pt p).pt r0).begin h0.2 (s.pt p).n).n=((s.pt p).pt r0).n:=rfl
       obtain⟨a,b,c⟩:=IH _ _ (((s.pt p).pt r0).begin h0.2 (s.pt p).n) _ ⟨zr.d,zr.pl,zr.h,fun x y h=>pL (h:=(s.pt p).st) (k:=h0.2) (v:=(s.pt p).n) (n:=((s.pt p).pt r0).n) zr.t (by lia) h⟩ h2
       have e2:(s2.fl q0 (s.pt p).n).n=s2.n:=rfl
       exact⟨⟨a.d.fl (by lia) (by lia),a.pl,a.h,a.t⟩,by lia,by lia,by lia⟩
     ·obtain⟨v,hv,e5⟩:=cF.mp hm
      cases e5
      exact⟨zp,eB _,zp.h _ _ hv⟩
    obtain⟨a,b,c,d⟩:=key
    have e2:(s1.fl r s.n).n=s1.n:=rfl
    exact⟨⟨a.d.fl ⟨c,d⟩ (by lia),a.pl,a.h,a.t⟩,by lia⟩
  exact⟨key.1,by lia,rfl⟩
theorem Fv {ρs:List Ro} {roots:List Nat} {ho:Nat->Option Hm} {f:Nat} {d q:Int} {t':Ls} (h:uZ (iL ρs roots ho f) roots d s00=some (q,t')):Ah ρs t'/\0<t'.D.pts.length:=by
 obtain⟨r1,q1,t2,hd',h2',rfl,rfl⟩:=ke h
 have e0:(s00.pt r1).n=s00.n+ 1:=rZ _ _
 have z0:s00.n=0:=rfl
 have ah:Ah ρs ((s00.pt r1).begin d s00.n):=⟨⟨(by intro m hm;cases hm),(by intro m hm;cases hm),(by intro m hm;cases hm)⟩,fun x hx=>by rw[ba.mp (show x∈[(r1:Int)]from hx)];exact uQ h2',(by intro k v hv;cases hv),fun k v hv=>pL (h:=s00.st) (k:=d) (v:=s00.n) (n:=(s00.pt r1).n) (by intro k v hv;cases hv) (by lia) hv⟩
 obtain⟨ah2,l2,eq⟩:=lF f _ _ _ _ ah h2'
 have en2:((s00.pt r1).begin d s00.n).n=(s00.pt r1).n:=rfl
 refine⟨⟨ah2.d.fl (by lia) (by lia),ah2.pl,ah2.h,ah2.t⟩,?_⟩
 have:0<t2.n:=by lia
 have:0<((t2.D.pts.length:Nat):Int):=this
 show 0<t2.D.pts.length
 lia
def inb (lo hi x:Int):Bool:=decide (lo<=x)&&decide (x<hi)
theorem qW {lo hi x:Int}:inb lo hi x=true↔lo<=x/\x<hi:=by simp[inb]
theorem xS {lo hi x:Int}:inb lo hi x=false↔¬(lo<=x/\x<hi):=by rw[<-qW];simp
theorem oq {α:Type} {l:List α} {P:α->Bool} {a:α} (h:P a=false):(l++[a]).filter P=l.filter P:=by
 rw[bP,bQ (by rw[h];decide),bR,aD]
theorem pf {α:Type} {l:List α} {P:α->Bool} (h:∀a∈l,P a=false):l.filter P=[]:=
 List.filter_eq_nil_iff.mpr fun a ha=>by rw[h a ha];decide
theorem Hi (g:Int->Int) (u:Us):uA (rnU g u)=g (uA u):=by cases u<;>rfl
theorem DN {α:Type} {l m:List α} {k:Int} {a:α} (h:atZ l k=some a):atZ (l++m) k=some a:=by
 obtain⟨i,rfl,h'⟩:=fV h
 show(l++m)[i]?=_
 rw[aJ (ar.mp h').1,h']
theorem wK {α:Type} {l:List α} {x a:α} {k:Int} (h:atZ (l++[x]) k=some a):atZ l k=some a\/(k=(l.length:Int)/\a=x):=by
 obtain⟨i,rfl,h'⟩:=fV h
 clear h
 have h:=h'
 by_cases e:i<l.length
 ·left
  rw[aJ e]at h
  exact h
 ·right
  have:=(ar.mp h).1
  rw[aO,aV]at this
  have e2:i=l.length:=by lia
  subst e2
  rw[aI (b9 _),cg]at h
  cases h
  exact⟨rfl,rfl⟩
theorem B6 {α:Type} {l m:List α} {i k:Int} {a:α} (h:atZ l k=some a) (hi:i<=k):atZ (l++m) i=atZ l i:=by
 obtain⟨j,rfl,h'⟩:=fV h
 have:=(ar.mp h').1
 cases i with
 |ofNat i=>
  have:i<=j:=Int.ofNat_le.mp hi
  show(l++m)[i]?=l[i]?
  rw[aJ (by lia)]
 |negSucc i=>rfl
def mv (b:Int):Int->Int:=fun x=>x+b
structure Rc where
 a:Int
 s0:Ls
 s1:Ls
 C:Bd
def Rc.lo (r:Rc):Int:=r.s0.n
def Rc.hi (r:Rc):Int:=r.s1.n
structure wL (en:Int->Int) (D:Bd) (r:Rc):Prop where
 p:∃l2,D.pts=r.s1.D.pts++l2
 m:D.mks.filter (fun m=>inb r.lo r.hi m.a)=r.C.mks
 u:D.uss.filter (fun u=>inb r.lo r.hi (uA u))=r.C.uss
 f:D.fls.filter (fun x=>inb r.lo r.hi x.1&&inb r.lo r.hi x.2)=r.C.fls.filter (fun x=>inb r.lo r.hi x.1)
 c:D.fls.filter (fun x=>inb r.lo r.hi x.1 !=inb r.lo r.hi x.2)=r.C.fls.filter (fun x=>!inb r.lo r.hi x.1)
 b:∀x,atZ D.pts r.hi=some x->x=en r.a
structure Cy (D:Bd) (lo hi lo' hi':Int):Prop where
 p:∃l1 l l2 k1 k2,D.pts=l1++(l++l2)/\(l1.length:Int)=lo/\hi=lo+l.length/\D.pts=k1++(l++k2)/\(k1.length:Int)=lo'/\hi'=lo'+l.length
 m:D.mks.filter (fun m=>inb lo' hi' m.a)=(D.mks.filter (fun m=>inb lo hi m.a)).map (rnM (mv (lo'-lo)))
 u:D.uss.filter (fun u=>inb lo' hi' (uA u))=(D.uss.filter (fun u=>inb lo hi (uA u))).map (rnU (mv (lo'-lo)))
 f:D.fls.filter (fun x=>inb lo' hi' x.1&&inb lo' hi' x.2)=(D.fls.filter (fun x=>inb lo hi x.1&&inb lo hi x.2)).map (rnF (mv (lo'-lo)))
 e:((D.fls.filter (fun x=>inb lo' hi' x.1 !=inb lo' hi' x.2)).filter (fun x=>inb lo' hi' x.2)).map (fun x=>(x.1,x.2-lo'))=((D.fls.filter (fun x=>inb lo hi x.1 !=inb lo hi x.2)).filter (fun x=>inb lo hi x.2)).map (fun x=>(x.1,x.2-lo))
 l:(D.fls.filter (fun x=>inb lo hi x.1 !=inb lo hi x.2)).filter (fun x=>inb lo hi x.1)=[]
 l':(D.fls.filter (fun x=>inb lo' hi' x.1 !=inb lo' hi' x.2)).filter (fun x=>inb lo' hi' x.1)=[(lo',lo'-1)]
section
variable {s:Ls} {lo hi lo' hi':Int}
theorem DO {l:List (Int×Int)} {x y:Int} (h:inb lo hi x=false) (k:inb lo hi y=false):(l++[(x,y)]).filter (fun x=>inb lo hi x.1&&inb lo hi x.2)=l.filter (fun x=>inb lo hi x.1&&inb lo hi x.2)/\(l++[(x,y)]).filter (fun x=>inb lo hi x.1 !=inb lo hi x.2)=l.filter (fun x=>inb lo hi x.1 !=inb lo hi x.2):=
 ⟨oq (by dsimp only;rw[h];rfl),oq (by dsimp only;rw[h,k];rfl)⟩
theorem Cy.pt (z:Cy s.D lo hi lo' hi') (p:Int):Cy (s.pt p).D lo hi lo' hi':=by
 obtain⟨⟨l1,l,l2,k1,k2,e1,e2,e3,e4,e5,e6⟩,m,u,f,e,a,b⟩:=z
 exact⟨⟨l1,l,l2++[p],k1,k2++[p],by show s.D.pts++[p]=_;rw[e1,bC,bC],e2,e3,by show s.D.pts++[p]=_;rw[e4,bC,bC],e5,e6⟩,m,u,f,e,a,b⟩
theorem Cy.ma (z:Cy s.D lo hi lo' hi') {m:Mkg} (h:inb lo hi m.a=false) (h':inb lo' hi' m.a=false):Cy (s.mk' m).D lo hi lo' hi':=by
 refine⟨z.p,?_,z.u,z.f,z.e,z.l,z.l'⟩
 show(s.D.mks++[m]).filter _=((s.D.mks++[m]).filter _).map _
 rw[oq (by exact h'),oq (by exact h)]
 exact z.m
theorem Cy.us (z:Cy s.D lo hi lo' hi') {m:Us} (h:inb lo hi (uA m)=false) (h':inb lo' hi' (uA m)=false):Cy (s.us m).D lo hi lo' hi':=by
 refine⟨z.p,z.m,?_,z.f,z.e,z.l,z.l'⟩
 show(s.D.uss++[m]).filter _=((s.D.uss++[m]).filter _).map _
 rw[oq (by exact h'),oq (by exact h)]
 exact z.u
theorem Cy.fl (z:Cy s.D lo hi lo' hi') {x y:Int} (h1:inb lo hi x=false) (h2:inb lo hi y=false) (h3:inb lo' hi' x=false) (h4:inb lo' hi' y=false):Cy (s.fl x y).D lo hi lo' hi':=by
 obtain⟨a1,a2⟩:=DO (l:=s.D.fls) h1 h2
 obtain⟨a3,a4⟩:=DO (l:=s.D.fls) h3 h4
 refine⟨z.p,z.m,z.u,?_,?_,?_,?_⟩
 ·show(s.D.fls++[(x,y)]).filter _=((s.D.fls++[(x,y)]).filter _).map _
  rw[a1,a3];exact z.f
 ·show(((s.D.fls++[(x,y)]).filter _).filter _).map _=(((s.D.fls++[(x,y)]).filter _).filter _).map _
  rw[a2,a4];exact z.e
 ·show((s.D.fls++[(x,y)]).filter _).filter _=_
  rw[a2];exact z.l
 ·show((s.D.fls++[(x,y)]).filter _).filter _=_
  rw[a4];exact z.l'
variable {en:Int->Int} {r:Rc}
theorem wL.pt (z:wL en s.D r) {p:Int} (hp:r.hi=s.n->p=en r.a):wL en (s.pt p).D r:=by
 obtain⟨⟨l2,e⟩,m,u,f,c,b⟩:=z
 refine⟨⟨l2++[p],by show s.D.pts++[p]=_;rw[e,bC]⟩,m,u,f,c,fun x hx=>?_⟩
 rcases wK hx with e1|⟨e1,e2⟩
 ·exact b x e1
 ·rw[e2];exact hp e1
theorem wL.ma (z:wL en s.D r) {m:Mkg} (h:inb r.lo r.hi m.a=false):wL en (s.mk' m).D r:=⟨z.p,(oq (P:=fun m:Mkg=>inb r.lo r.hi m.a) h).trans z.m,z.u,z.f,z.c,z.b⟩
theorem wL.us (z:wL en s.D r) {u:Us} (h:inb r.lo r.hi (uA u)=false):wL en (s.us u).D r:=⟨z.p,z.m,(oq (P:=fun u=>inb r.lo r.hi (uA u)) h).trans z.u,z.f,z.c,z.b⟩
theorem wL.fl (z:wL en s.D r) {x y:Int} (h:inb r.lo r.hi x=false) (k:inb r.lo r.hi y=false):wL en (s.fl x y).D r:=by
 obtain⟨a1,a2⟩:=DO (l:=s.D.fls) h k
 exact⟨z.p,z.m,z.u,a1.trans z.f,a2.trans z.c,z.b⟩
end
def Kw (B:List (Int×Int)) (n x:Int):Prop:=0<=x/\x<n/\∀b∈B,inb b.1 b.2 x=false
structure Gh where
 R:List Rc
 B:List (Int×Int)
structure Iv (en:Int->Int) (ho:Nat->Option Hm) (Fc:Rc->Prop) (Ps:List Int) (g:Gh) (s:Ls):Prop where
 an:An s.D
 r:∀r∈g.R,Fc r/\r.hi<=s.n/\wL en s.D r/\(r.lo,r.hi)∈g.B
 k:∀(k pl:Int) (h:Hm),k∉Ps->atZ s.D.pts k=some pl->ho pl.toNat=some h->h.1="let"->∃r∈g.R,r.a=h.2/\r.hi<=k/\(∀i,r.lo<=i->i<=k->atZ s.D.pts i≠some (r.a-1))/\Cy s.D r.lo r.hi (k+ 1) (k+ 1+(r.hi-r.lo))/\(k+ 1,k+ 1+(r.hi-r.lo))∈g.B
 b:∀b∈g.B,b.2<=s.n
section
variable {en:Int->Int} {ho:Nat->Option Hm} {Fc:Rc->Prop} {Ps:List Int} {g:Gh} {s:Ls}
theorem Kw.mo {B:List (Int×Int)} {n n' x:Int} (h:Kw B n x) (l:n<=n'):Kw B n' x:=⟨h.1,by have:=h.2.1;lia,h.2.2⟩
theorem Kw.add {B:List (Int×Int)} {n x lo hi:Int} (h:Kw B n x) (l:x<lo):Kw (B++[(lo,hi)]) n x:=⟨h.1,h.2.1,fun b hb=>by
 rcases ao.mp hb with hb|hb
 ·exact h.2.2 b hb
 ·rw[ba.mp hb];exact xS.mpr fun⟨z,_⟩=>by dsimp only at z;lia⟩
theorem Iv.new (z:Iv en ho Fc Ps g s) {n:Int} (h:s.n<n):Kw g.B n s.n:=⟨rL s,h,fun b hb=>xS.mpr fun⟨_,w⟩=>by have:=z.b b hb;lia⟩
theorem Iv.pt (z:Iv en ho Fc Ps g s) {p:Int} (hp:∀r∈g.R,r.hi=s.n->p=en r.a) (hk:∀h,ho p.toNat=some h->h.1="let"->s.n∈Ps):Iv en ho Fc Ps g (s.pt p):=by
 have n1:=rZ s p
 refine⟨z.an.pt p,fun r hr=>?_,fun k pl h a1 a2 a3 a4=>?_,fun b hb=>by have:=z.b b hb;lia⟩
 ·obtain⟨b1,b2,b3,b4⟩:=z.r r hr
  exact⟨b1,by lia,b3.pt (hp r hr),b4⟩
 ·rcases wK a2 with a2|⟨e,rfl⟩
  ·obtain⟨r,hr,b1,b2,b3,b4,b5⟩:=z.k k pl h a1 a2 a3 a4
   exact⟨r,hr,b1,b2,fun i l1 l2=>by show atZ (s.D.pts++[p]) i≠_;rw[B6 a2 l2];exact b3 i l1 l2,b4.pt p,b5⟩
  ·exact absurd (show k∈Ps by rw[e];exact hk h a3 a4) a1
theorem Iv.ma (z:Iv en ho Fc Ps g s) {m:Mkg} (h:Kw g.B s.n m.a):Iv en ho Fc Ps g (s.mk' m):=
 ⟨z.an.ma ⟨h.1,h.2.1⟩,fun r hr=>let⟨b1,b2,b3,b4⟩:=z.r r hr;⟨b1,b2,b3.ma (h.2.2 _ b4),b4⟩,fun k pl h' a1 a2 a3 a4=>let⟨r,hr,b1,b2,b3,b4,b5⟩:=z.k k pl h' a1 a2 a3 a4;⟨r,hr,b1,b2,b3,b4.ma (h.2.2 _ (z.r r hr).2.2.2) (h.2.2 _ b5),b5⟩,z.b⟩
theorem Iv.us (z:Iv en ho Fc Ps g s) {m:Us} (h:Kw g.B s.n (uA m)):Iv en ho Fc Ps g (s.us m):=
 ⟨z.an.us ⟨h.1,h.2.1⟩,fun r hr=>let⟨b1,b2,b3,b4⟩:=z.r r hr;⟨b1,b2,b3.us (h.2.2 _ b4),b4⟩,fun k pl h' a1 a2 a3 a4=>let⟨r,hr,b1,b2,b3,b4,b5⟩:=z.k k pl h' a1 a2 a3 a4;⟨r,hr,b1,b2,b3,b4.us (h.2.2 _ (z.r r hr).2.2.2) (h.2.2 _ b5),b5⟩,z.b⟩
theorem Iv.fl (z:Iv en ho Fc Ps g s) {x y:Int} (h:Kw g.B s.n x) (k:Kw g.B s.n y):Iv en ho Fc Ps g (s.fl x y):=
 ⟨z.an.fl ⟨h.1,h.2.1⟩ ⟨k.1,k.2.1⟩,fun r hr=>let⟨b1,b2,b3,b4⟩:=z.r r hr;⟨b1,b2,b3.fl (h.2.2 _ b4) (k.2.2 _ b4),b4⟩,fun k' pl h' a1 a2 a3 a4=>let⟨r,hr,b1,b2,b3,b4,b5⟩:=z.k k' pl h' a1 a2 a3 a4;⟨r,hr,b1,b2,b3,b4.fl (h.2.2 _ (z.r r hr).2.2.2) (k.2.2 _ (z.r r hr).2.2.2) (h.2.2 _ b5) (k.2.2 _ b5),b5⟩,z.b⟩
end
def Px (en:Int->Int) (p x:Int):Prop:=(p<=x/\x<en p)\/(x<p/\en x<=p)
theorem Px.part {en:Int->Int} (N:Nst en) {p c x:Int} (h:Px en c x) (z1:p<c) (z2:en c<=en p) (z3:c<en c):Px en p x:=by
 rcases h with⟨a,b⟩|⟨a,b⟩
 ·exact .inl ⟨by lia,by lia⟩
 ·by_cases e:p<=x
  ·exact .inl ⟨e,by lia⟩
  ·rcases N x p (by lia)with z|z
   ·exact .inr ⟨by lia,z⟩
   ·lia
theorem Px.ahead {en:Int->Int} (N:Nst en) {p c x:Int} (h:Px en c x) (h2:en c<=p) (h3:c<en c):Px en p x:=by
 rcases h with⟨a,b⟩|⟨a,b⟩
 ·rcases N x p (by lia)with z|z
  ·exact .inr ⟨by lia,z⟩
  ·by_cases e:x=c
   ·rw[e]at*;exact .inr ⟨by lia,by lia⟩
   ·rcases N c x (by lia)with u|u
    ·lia
    ·exact .inr ⟨by lia,by lia⟩
 ·exact .inr ⟨by lia,by lia⟩
structure Rg (lo hi:Int) (C:Bd):Prop where
 m:∀m∈C.mks,(lo<=m.a/\m.a<hi)/\∀x∈inD m.f,lo<=x/\x<hi
 u:∀u∈C.uss,∀x∈inU u,lo<=x/\x<hi
 f:∀x∈C.fls,(0<=x.1/\x.1<hi)/\lo<=x.2/\x.2<hi
theorem Rg.mo {lo hi lo' hi':Int} {C:Bd} (h:Rg lo hi C) (l1:lo'<=lo) (l2:hi<=hi'):Rg lo' hi' C:=
 ⟨fun m hm=>⟨by have:=(h.m m hm).1;lia,fun x hx=>by have:=(h.m m hm).2 x hx;lia⟩,fun u hu x hx=>by have:=h.u u hu x hx;lia,fun x hx=>by have:=h.f x hx;lia⟩
theorem Rg.app {lo hi:Int} {C E:Bd} (h:Rg lo hi C) (k:Rg lo hi E):Rg lo hi (apB C E):=
 ⟨fun m hm=>(ao.mp hm).elim (h.m m) (k.m m),fun m hm=>(ao.mp hm).elim (h.u m) (k.u m),fun m hm=>(ao.mp hm).elim (h.f m) (k.f m)⟩
theorem Fw (D C E:Bd):apB (apB D C) E=apB D (apB C E):=by simp only[apB,bC]
structure Ad1 (en:Int->Int) (p:Int) (s0 s:Ls):Prop where
 l:s0.n<=s.n
 c:∃C,s.D=apB s0.D C/\Rg s0.n s.n C/\∀x∈C.pts,Px en p x
def noB:Bd:=⟨[],[],[],[],0⟩
theorem wM (D:Bd):apB D noB=D:=by simp only[apB,noB,aD]
section
variable {en:Int->Int} {p:Int} {s0 s:Ls}
theorem Ad1.trans {s1:Ls} (h:Ad1 en p s0 s) (k:Ad1 en p s s1):Ad1 en p s0 s1:=by
 obtain⟨l1,C,e1,r1,p1⟩:=h
 obtain⟨l2,E,e2,r2,p2⟩:=k
 refine⟨by lia,apB C E,by rw[e2,e1,Fw],(r1.mo (eB _) l2).app (r2.mo l1 (eB _)),fun x hx=>(ao.mp hx).elim (p1 x) (p2 x)⟩
theorem Ad1.pt (s:Ls) {x:Int} (hx:Px en p x):Ad1 en p s (s.pt x):=⟨by rw[rZ];lia,⟨[x],[],[],[],0⟩,by simp only[Ls.pt,apB,aD],⟨(by intro m hm;cases hm),(by intro m hm;cases hm),(by intro m hm;cases hm)⟩,fun y hy=>by rw[ba.mp hy];exact hx⟩
theorem Ad1.ma {m:Mkg} (h:Ad1 en p s0 s) (h1:s0.n<=m.a/\m.a<s.n) (h2:∀x∈inD m.f,s0.n<=x/\x<s.n):Ad1 en p s0 (s.mk' m):=by
 obtain⟨l,C,e,r,q⟩:=h
 exact⟨l,⟨C.pts,C.mks++[m],C.uss,C.fls,C.root⟩,by unfold Ls.mk';rw[e];simp only[apB,bC],⟨nO r.m ⟨h1,h2⟩,r.u,r.f⟩,q⟩
theorem Ad1.us {m:Us} (h:Ad1 en p s0 s) (h2:∀x∈inU m,s0.n<=x/\x<s.n):Ad1 en p s0 (s.us m):=by
 obtain⟨l,C,e,r,q⟩:=h
 exact⟨l,⟨C.pts,C.mks,C.uss++[m],C.fls,C.root⟩,by unfold Ls.us;rw[e];simp only[apB,bC],⟨r.m,nO (P:=fun u=>∀x∈inU u,s0.n<=x/\x<s.n) r.u h2,r.f⟩,q⟩
theorem Ad1.fl {x y:Int} (h:Ad1 en p s0 s) (h1:0<=x/\x<s.n) (h2:s0.n<=y/\y<s.n):Ad1 en p s0 (s.fl x y):=by
 obtain⟨l,C,e,r,q⟩:=h
 exact⟨l,⟨C.pts,C.mks,C.uss,C.fls++[(x,y)],C.root⟩,by unfold Ls.fl;rw[e];simp only[apB,bC],⟨r.m,r.u,nO r.f ⟨h1,h2⟩⟩,q⟩
theorem Ad1.to {p':Int} (h:Ad1 en p s0 s) (k:∀x,Px en p x->Px en p' x):Ad1 en p' s0 s:=by
 obtain⟨l,C,e,r,q⟩:=h
 exact⟨l,C,e,r,fun x hx=>k x (q x hx)⟩
theorem Ad1.be (h:Ad1 en p s0 s) {k v:Int}:Ad1 en p s0 (s.begin k v):=⟨h.l,h.c⟩
theorem Ad1.ho (h:Ad1 en p s0 s) {k v:Int}:Ad1 en p s0 (s.hold k v):=⟨h.l,h.c⟩
end
theorem ph {en df:Int->Int} {ρs:List Ro} {roots:List Nat} {ho:Nat->Option Hm} (N:Nt en df ρs roots ho):∀(f:Nat) (p q:Int) (s s':Ls),p<en p->Ah ρs s->iL ρs roots ho f p s=some (q,s')->Ad1 en p s s'
 |0,_,_,_,_,_,_,h=>by cases h
 |f+ 1,p,q,s,s',hp,z,h=>by
  have IH:=ph N f
  obtain⟨ρ,hk,h1,rfl⟩:=kY h
  have n1:=rZ s p
  have n0:=rL s
  have zp:=z.pt p ⟨_,hk⟩
  have pp:Px en p p:= .inl ⟨eB _,hp⟩
  have a0:Ad1 en p s (s.pt p):=Ad1.pt s pp
  by_cases nn:∀w,ρ≠ .name w
  ·have G:Gn (γ:=Unit) (fun x=>x) (fun _ s2 t=>t=s2/\Ah ρs s2/\Ad1 en p s s2) (fun _ n x=>s.n<=x/\x<n) (iL ρs roots ho f) (iL ρs roots ho f) p ρ:=
    ⟨(fun r=>by rw[r.1]),
     (fun{c s2 t} r=>⟨⟨by rw[r.1],r.2.1.pt p ⟨_,hk⟩,r.2.2.trans (Ad1.pt s2 pp)⟩,fun x hx=>by lia,by have:=r.2.2.l;lia⟩),
     (fun{c s2 t m} r h h'=>⟨by rw[r.1,r8],⟨r.2.1.d.ma (by have:=h;lia),r.2.1.pl,r.2.1.h,r.2.1.t⟩,r.2.2.ma h h'⟩),
     (fun{c s2 t u} r h=>⟨by rw[r.1,r9],⟨r.2.1.d.us (by have:=h _ (Be u);lia),r.2.1.pl,r.2.1.h,r.2.1.t⟩,r.2.2.us h⟩),
     (fun{c s2 t x y} r h k=>⟨by rw[r.1],⟨r.2.1.d.fl (by have:=h;lia) (by have:=k;lia),r.2.1.pl,r.2.1.h,r.2.1.t⟩,r.2.2.fl (by have:=h;lia) k⟩),
     (fun{c s2 t k q s'} hc r e=>by
      obtain⟨rfl,r2,r3⟩:=r
      obtain⟨z1,z2,z3,z4⟩:=N.kid _ _ _ hk (je hc)
      obtain⟨y1,y2,y3⟩:=lF f k q _ s' r2 e
      have:=r3.l
      exact⟨(),s',e,⟨rfl,y1,r3.trans ((IH k q _ s' z3 r2 e).to fun x hx=>hx.part N.n z1 z2 z3)⟩,fun x hx=>by lia,by lia⟩),
     (fun{c s2 t k q s'} hc r e=>by
      obtain⟨rfl,r2,r3⟩:=r
      obtain⟨z1,z2,z3,z4⟩:=N.kid _ _ _ hk (kX hc)
      have n2:=rZ t p
      have en':((t.pt p).hold k t.n).n=(t.pt p).n:=rfl
      have zp:=r2.pt p ⟨_,hk⟩
      have:=rL t
      have a1:Ah ρs ((t.pt p).hold k t.n):=⟨zp.d,zp.pl,fun x y h=>pL (h:=t.held) (k:=k) (v:=t.n) (n:=(t.pt p).n) zp.h (by lia) h,zp.t⟩
      obtain⟨y1,y2,y3⟩:=lF f k q _ s' a1 e
      have:=r3.l
      exact⟨(),s',e,⟨rfl,y1,((r3.trans (Ad1.pt t pp)).ho (k:=k) (v:=t.n)).trans ((IH k q _ s' z3 a1 e).to fun x hx=>hx.part N.n z1 z2 z3)⟩,fun x hx=>by lia,by lia,by lia⟩)⟩
   obtain⟨_,t',e1,r1,_⟩:=G.go (c:=()) nn ⟨rfl,zp,a0⟩ (own:=s.n) ⟨by lia,by lia⟩ h1
   rw[h1]at e1
   cases e1
   exact r1.2.2
  ·obtain⟨w,rfl⟩:∃w,ρ= .name w:=Classical.byContradiction fun n=>nn fun w e=>n ⟨w,e⟩
   obtain⟨h0,r,s1,hh,hm,rfl⟩:=kF h1
   obtain⟨k,rfl,_⟩:=fV hk
   have hh:ho k=some h0:=hh
   have key:Ad1 en k s s1/\0<=r/\r<s1.n/\s.n<s1.n:=by
    unfold jj at hm
    by_cases e1:h0.1="let"
    ·rw[f6 e1]at hm
     obtain⟨z1,z2,z3⟩:=N.lt _ _ hh e1
     obtain⟨y1,y2,y3⟩:=lF f _ _ _ _ zp hm
     exact⟨a0.trans ((IH _ _ _ _ z2 zp hm).to fun x hx=>hx.ahead N.n z1 z2),by lia,by lia,by lia⟩
    rw[fO e1]at hm
    by_cases e2:h0.1="def"
    ·rw[f6 e2]at hm
     by_cases e3:inF roots k h0.2=true
     ·rw[f6 e3]at hm
      obtain⟨v,hv,e5⟩:=cF.mp hm
      cases e5
      have:=zp.t _ _ hv
      exact⟨a0,by lia,by lia,by lia⟩
     ·rw[fO e3]at hm
      obtain⟨r0,q0,s2,hd,h2,rfl,rfl⟩:=ke hm
      obtain⟨z1,z2⟩:=N.dn _ _ hh e2 (by simpa using e3)
      obtain⟨z3,z4,z5⟩:=z2 _ hd
      have n2:=rZ (s.pt k) r0
      have zr:=zp.pt r0 (uQ h2)
      have en':(((s.pt k).pt r0).begin h0.2 (s.pt k).n).n=((s.pt k).pt r0).n:=rfl
      have a1:Ah ρs (((s.pt k).pt r0).begin h0.2 (s.pt k).n):=⟨zr.d,zr.pl,zr.h,fun x y h=>pL (h:=(s.pt k).st) (k:=h0.2) (v:=(s.pt k).n) (n:=((s.pt k).pt r0).n) zr.t (by lia) h⟩
      obtain⟨y1,y2,y3⟩:=lF f _ _ _ _ a1 h2
      have pr:Px en k (r0:Int):=Px.ahead N.n (.inl ⟨eB _,z3⟩) z4 z3
      have e2:(s2.fl q0 (s.pt k).n).n=s2.n:=rfl
      refine⟨((((a0.trans (Ad1.pt (s.pt k) pr)).be).trans ((IH _ _ _ _ z3 a1 h2).to fun x hx=>hx.ahead N.n z4 z3))).fl (by lia) (by lia),by lia,by lia,by lia⟩
    ·rw[fO e2]at hm
     obtain⟨v,hv,e5⟩:=cF.mp hm
     cases e5
     have:=zp.h _ _ hv
     exact⟨a0,by lia,by lia,by lia⟩
   obtain⟨b1,b2,b3,b4⟩:=key
   exact b1.fl ⟨b2,b3⟩ ⟨eB _,b4⟩
mutual
theorem z8 {g:Int->Int}:∀d:Dt,(∀x∈inD d,g x=x)->rnD g d=d
 | .flat v,h=>by
  rw[rnD]
  cases v with
  |int k=>rw[show rnV g (.int k)= .int (g k)from rfl,h k (by simp[inD,inV])]
  |_=>rfl
 | .tup l,h=>by rw[rnD,wN l h]
 | .lst l,_=>by rw[rnD]
theorem wN {g:Int->Int}:∀l:List Dt,(∀x∈ER l,g x=x)->jZ g l=l
 |[],_=>by rw[jZ]
 |d::l,h=>by rw[jZ,z8 d (fun x hx=>h x (aq _ hx)),wN l (fun x hx=>h x (ax _ hx))]
end
theorem z9 {g:Int->Int} {l:List (Str×Int)} (h:∀x∈l.map Prod.snd,g x=x):rnP g l=l:=by
 unfold rnP
 refine(bS fun x hx=>?_).trans (List.map_id _)
 rw[h x.2 (bA hx)]
 rfl
theorem DP {g:Int->Int} {u:Us} (h:∀x∈inU u,g x=x):rnU g u=u:=by
 cases u with
 |num a p s=>simp only[rnU,h a (by simp[inU])]
 |call a p s x y=>simp only[rnU,h a (by simp[inU]),h x (by simp[inU]),h y (by simp[inU])]
 |take a p s l=>simp only[rnU,h a (by simp[inU]),z9 (fun x hx=>h x (aj _ hx))]
 |case a p s l=>simp only[rnU,h a (by simp[inU]),z9 (fun x hx=>h x (aj _ hx))]
 |row a p s x=>simp only[rnU,h a (by simp[inU]),h x (by simp[inU])]
theorem Fy (g h:Int->Int) (m:Us):rnU g (rnU h m)=rnU (fun x=>g (h x)) m:=by cases m<;>simp only[rnU,Fs]
theorem FA (g h:Int->Int) (m:Mkg):rnM g (rnM h m)=rnM (fun x=>g (h x)) m:=by simp only[rnM,B5]
theorem DQ {g:Int->Int} {m:Mkg} (h1:g m.a=m.a) (h:∀x∈inD m.f,g x=x):rnM g m=m:=by unfold rnM;rw[z8 m.f h,h1]
theorem vH {α:Type} {f:α->α} {l:List α} (h:∀x∈l,f x=x):l.map f=l:=(bS h).trans (List.map_id _)
theorem Aa {D C:Bd} {lo hi:Int} (a:An D) (hl:(D.pts.length:Int)=lo) (rg:Rg lo hi C):(D.mks++C.mks).filter (fun m=>inb lo hi m.a)=C.mks/\(D.uss++C.uss).filter (fun u=>inb lo hi (uA u))=C.uss/\(D.fls++C.fls).filter (fun x=>inb lo hi x.1&&inb lo hi x.2)=C.fls.filter (fun x=>inb lo hi x.1)/\(D.fls++C.fls).filter (fun x=>inb lo hi x.1 !=inb lo hi x.2)=C.fls.filter (fun x=>!inb lo hi x.1):=by
 subst hl
 have no:∀x:Int,x<(D.pts.length:Int)->inb (D.pts.length:Int) hi x=false:=fun x hx=>xS.mpr fun⟨z,_⟩=>by lia
 have ye:∀x∈C.fls,inb (D.pts.length:Int) hi x.2=true:=fun x hx=>qW.mpr (rg.f x hx).2
 refine⟨?_,?_,?_,?_⟩
 ·rw[bP,pf fun x hx=>no _ (a.m x hx).2,bz]
  exact bT.mpr fun m hm=>qW.mpr (rg.m m hm).1
 ·rw[bP,pf fun x hx=>no _ (a.u x hx).2,bz]
  exact bT.mpr fun u hu=>qW.mpr (rg.u u hu _ (Be u))
 ·rw[bP,pf (fun x hx=>by rw[no _ (a.f x hx).1.2];rfl),bz]
  exact bU fun x hx=>by rw[ye x hx,Bool.and_true]
 ·rw[bP,pf (fun x hx=>by rw[no _ (a.f x hx).1.2,no _ (a.f x hx).2.2];rfl),bz]
  exact bU fun x hx=>by rw[ye x hx];cases inb (D.pts.length:Int) hi x.1<;>rfl
theorem DR {α:Type} {l:List α} {a:α}:atZ l (l.length:Int)≠some a:=fun h=>by
 have h:l[l.length]?=some a:=h
 have:=(ar.mp h).1
 lia
section
variable {en:Int->Int} {ho:Nat->Option Hm} {Fc:Rc->Prop} {Ps:List Int} {g:Gh} {s:Ls}
theorem Iv.reg {s1:Ls} (z:Iv en ho Fc Ps g s1) {r:Rc} (hF:Fc r) (e1:r.s1=s1) (eD:s1.D=apB r.s0.D r.C) (an0:An r.s0.D) (rg:Rg r.lo r.hi r.C):Iv en ho Fc Ps ⟨g.R++[r],g.B++[(r.lo,r.hi)]⟩ s1:=by
 subst e1
 obtain⟨b1,b2,b3,b4⟩:=Aa an0 rfl rg
 refine⟨z.an,fun r' hr=>?_,fun k pl h a1 a2 a3 a4=>?_,fun b hb=>?_⟩
 ·rcases ao.mp hr with hr|hr
  ·obtain⟨c1,c2,c3,c4⟩:=z.r r' hr
   exact⟨c1,c2,c3,aq _ c4⟩
  ·rw[ba.mp hr]
   refine⟨hF,eB _,⟨⟨[],by rw[aD]⟩,?_,?_,?_,?_,fun x hx=>absurd hx DR⟩,ax _ (ba.mpr rfl)⟩
   ·rw[eD];exact b1
   ·rw[eD];exact b2
   ·rw[eD];exact b3
   ·rw[eD];exact b4
 ·obtain⟨r',hr,c1,c2,c3,c4,c5⟩:=z.k k pl h a1 a2 a3 a4
  exact⟨r',aq _ hr,c1,c2,c3,c4,aq _ c5⟩
 ·rcases ao.mp hb with hb|hb
  ·exact z.b b hb
  ·rw[ba.mp hb];exact eB _
theorem Iv.cpy {k:Int} (z:Iv en ho Fc (k::Ps) g s) {r:Rc} (hr:r∈g.R) (hh:∀pl h,atZ s.D.pts k=some pl->ho pl.toNat=some h->h.1="let"->r.a=h.2) (h2:r.hi<=k) (h3:∀i,r.lo<=i->i<=k->atZ s.D.pts i≠some (r.a-1)) (h4:Cy s.D r.lo r.hi (k+ 1) (k+ 1+(r.hi-r.lo))) (h5:k+ 1+(r.hi-r.lo)<=s.n):Iv en ho Fc Ps ⟨g.R,g.B++[(k+ 1,k+ 1+(r.hi-r.lo))]⟩ s:=by
 refine⟨z.an,fun r' hr=>let⟨c1,c2,c3,c4⟩:=z.r r' hr;⟨c1,c2,c3,aq _ c4⟩,fun k' pl h a1 a2 a3 a4=>?_,fun b hb=>?_⟩
 ·by_cases e:k'=k
  ·subst e
   exact⟨r,hr,hh pl h a2 a3 a4,h2,h3,h4,ax _ (ba.mpr rfl)⟩
  ·obtain⟨r',hr,c1,c2,c3,c4,c5⟩:=z.k k' pl h (fun w=>by rcases ak.mp w with w|w;exact e w;exact a1 w) a2 a3 a4
   exact⟨r',hr,c1,c2,c3,c4,aq _ c5⟩
 ·rcases ao.mp hb with hb|hb
  ·exact z.b b hb
  ·rw[ba.mp hb];exact h5
theorem Iv.pend {k:Int} (z:Iv en ho Fc Ps g s):Iv en ho Fc (k::Ps) g s:=⟨z.an,z.r,fun k' pl h a1=>z.k k' pl h fun w=>a1 (aj _ w),z.b⟩
end
structure RF (en:Int->Int) (ρs:List Ro) (roots:List Nat) (ho:Nat->Option Hm) (F:Nat) (r:Rc):Prop where
 run:∃f q,f<=F/\iL ρs roots ho f r.a r.s0=some (q,r.s1)
 a0:Ah ρs r.s0
 a1:Ah ρs r.s1
 d:r.s1.D=apB r.s0.D r.C
 g:Rg r.lo r.hi r.C
 x:∀x∈r.C.pts,Px en r.a x
 l:∃l0,r.s0.D.pts=l0++[r.a-1]
def Cur (vi:Int->Int->Prop) (df:Int->Int) (r:Rc) (s:Ls):Prop:=(∀i,r.lo<=i->atZ s.D.pts i≠some (r.a-1))/\(∀k,vi r.a k->s.held k=r.s0.held k)/\s.st (df r.a)=r.s0.st (df r.a)
theorem Ab {D C E:Bd} (h:apB D C=apB D E):C.pts=E.pts/\C.mks=E.mks/\C.uss=E.uss/\C.fls=E.fls:=
 ⟨bK (congrArg Bd.pts h),bK (congrArg Bd.mks h),bK (congrArg Bd.uss h),bK (congrArg Bd.fls h)⟩
theorem Bg {vi:Int->Int->Prop} {en df:Int->Int} {ρs:List Ro} {roots:List Nat} {ho:Nat->Option Hm} (N:Nt en df ρs roots ho) (V:Vs vi en df ρs roots ho) {F f:Nat} {r:Rc} (R:RF en ρs roots ho F r) {s s':Ls} {q k:Int} (lf:f<=F) (hp:r.a<en r.a) (ah:Ah ρs s) (cu:Cur vi df r s) (h:iL ρs roots ho f r.a s=some (q,s')) (hk:s.n=k+ 1) (hl:r.lo<=s.n) (ok:wL en (s'.fl q k).D r):Cy (s'.fl q k).D r.lo r.hi (k+ 1) (k+ 1+(r.hi-r.lo))/\s'.n=k+ 1+(r.hi-r.lo):=by
 have z0:r.s0.n=r.lo:=rfl
 have z1:r.s1.n=r.hi:=rfl
 have lo0:0<=r.lo:=rL r.s0
 obtain⟨_,_,eq⟩:=lF f _ _ _ _ ah h
 obtain⟨g,hg⟩:∃g:Int->Int,g=fun x=>if x<r.lo then x else if x<s.n then-1 else x-(s.n-r.lo):=⟨_,rfl⟩
 have gl:∀x,x<r.lo->g x=x:=fun x hx=>by rw[hg];exact f6 hx
 have gm:∀x,r.lo<=x->x<s.n->g x= -1:=fun x h1 h2=>by rw[hg];dsimp only;rw[fO (by lia),f6 h2]
 have gh:∀x,s.n<=x->g x=x-(s.n-r.lo):=fun x hx=>by rw[hg];dsimp only;rw[fO (by lia),fO (by lia)]
 have lv:∀{o:Option Int},(∀v,o=some v->v<r.lo)->o=o.map g:=fun{o} ho=>by
  cases o with
  |none=>rfl
  |some v=>rw[cE,gl v (ho v rfl)]
 have sm:Sm g s.D r.s0.D vi df r.a s r.s0:=by
  refine⟨⟨⟨noB,(wM _).symm,(wM _).symm⟩,fun j=>by rw[gh _ (by lia)];lia⟩,fun k hk=>?_,?_⟩
  ·rw[cu.2.1 k hk];exact lv fun v hv=>(R.a0.h k v hv).2
  ·rw[cu.2.2];exact lv fun v hv=>(R.a0.t _ v hv).2
 obtain⟨t',e1,⟨⟨E,e2,e3⟩,_⟩⟩:=DM N V f F _ _ _ _ _ lf sm h
 obtain⟨f1,q1,lf1,e4⟩:=R.run
 have lid:∀o:Option Int,o=o.map fun x=>x:=fun o=>by cases o<;>rfl
 obtain⟨t2,e5,⟨⟨E1,e6,e7⟩,_⟩⟩:=DM (g:=fun x=>x) (D0:=r.s0.D) (E0:=r.s0.D) N V f1 F _ _ r.s0 r.s0 _ lf1 ⟨⟨⟨noB,(wM _).symm,(wM _).symm⟩,fun j=>rfl⟩,fun k _=>lid _,lid _⟩ e4
 rw[e1]at e5
 obtain⟨_,e5⟩:=Prod.mk.inj (cC.inj e5)
 subst e5
 rw[Fu,<-e6,R.d]at e7
 rw[e3]at e7
 obtain⟨c1,c2,c3,c4⟩:=Ab e7.symm
 obtain⟨l1,C',d1,rg',_⟩:=ph N f _ _ _ _ hp ah h
 rw[e2]at d1
 obtain⟨d1,d2,d3,d4⟩:=Ab d1
 have rg:Rg s.n s'.n E:=⟨by rw[d2];exact rg'.m,by rw[d3];exact rg'.u,by rw[d4];exact rg'.f⟩
 have len:s'.n=s.n+E.pts.length:=by
  show(s'.D.pts.length:Int)=(s.D.pts.length:Int)+_
  rw[e2]
  show(((s.D.pts++E.pts).length:Nat):Int)=_
  rw[aO];lia
 have len1:r.hi=r.lo+E.pts.length:=by
  show(r.s1.D.pts.length:Int)=(r.s0.D.pts.length:Int)+_
  rw[R.d]
  show(((r.s0.D.pts++r.C.pts).length:Nat):Int)=_
  rw[aO,c1]
  show(r.s0.D.pts.length+E.pts.length:Int)=_
  rfl
 have hi':s'.n=k+ 1+(r.hi-r.lo):=by lia
 refine⟨?_,hi'⟩
 rw[<-hi',<-hk]
 have src:∀x∈E.fls,x.1<r.lo\/s.n<=x.1:=fun x hx=>by
  by_cases a:x.1<r.lo
  ·exact .inl a
  ·by_cases b:x.1<s.n
   ·exfalso
    have:rnF g x∈r.s1.D.fls:=by
     rw[R.d]
     exact ax _ (by rw[c4];exact bA hx)
    have:=(R.a1.d.f _ this).1.1
    rw[show(rnF g x).1=g x.1 from rfl,gm _ (by lia) b]at this
    lia
   ·exact .inr (by lia)
 have inE:∀x∈E.fls,inb r.lo r.hi (g x.1)=inb s.n s'.n x.1:=fun x hx=>by
  rcases src x hx with a|a
  ·rw[gl _ a,xS.mpr (fun z=>by lia),xS.mpr (fun z=>by lia)]
  ·have:=(rg.f x hx).1
   rw[gh _ a,qW.mpr ⟨by lia,by lia⟩,qW.mpr ⟨by lia,by lia⟩]
 have inT:∀x∈E.fls,inb s.n s'.n x.2=true:=fun x hx=>qW.mpr (rg.f x hx).2
 obtain⟨b1,b2,b3,b4⟩:=Aa ah.d rfl rg
 have nq:inb s.n s'.n q=true:=qW.mpr ⟨by lia,by lia⟩
 have nk:inb s.n s'.n k=false:=xS.mpr fun z=>by lia
 have back:∀x,s.n<=x->mv (s.n-r.lo) (g x)=x:=fun x hx=>by unfold mv;rw[gh x hx];lia
 have eF:(s'.fl q k).D.fls=s.D.fls++E.fls++[(q,k)]:=by
  show s'.D.fls++[(q,k)]=_
  rw[e2];rfl
 have f1':(s'.fl q k).D.fls.filter (fun x=>inb s.n s'.n x.1&&inb s.n s'.n x.2)=E.fls.filter (fun x=>inb s.n s'.n x.1):=by
  rw[eF,oq (by dsimp only;rw[nk,dY])];exact b3
 have f2':(s'.fl q k).D.fls.filter (fun x=>inb s.n s'.n x.1 !=inb s.n s'.n x.2)=E.fls.filter (fun x=>!inb s.n s'.n x.1)++[(q,k)]:=by
  rw[eF,bP,bV (by dsimp only;rw[nk,nq];rfl),bR]
  exact congrArg (·++[(q,k)]) b4
 have g1:r.C.fls.filter (fun x=>inb r.lo r.hi x.1)=(E.fls.filter (fun x=>inb s.n s'.n x.1)).map (rnF g):=by
  rw[c4]
  show(E.fls.map (rnF g)).filter _=_
  rw[List.filter_map]
  exact congrArg (bg (rnF g)) (bU fun x hx=>inE x hx)
 have g2:r.C.fls.filter (fun x=>!inb r.lo r.hi x.1)=(E.fls.filter (fun x=>!inb s.n s'.n x.1)).map (rnF g):=by
  rw[c4]
  show(E.fls.map (rnF g)).filter _=_
  rw[List.filter_map]
  exact congrArg (bg (rnF g)) (bU fun x hx=>congrArg not (inE x hx))
 refine⟨?_,?_,?_,?_,?_,?_,?_⟩
 ·obtain⟨l2,ep⟩:=ok.p
  refine⟨r.s0.D.pts,E.pts,l2,s.D.pts,[],?_,rfl,len1,?_,rfl,len⟩
  ·rw[ep,R.d]
   show r.s0.D.pts++r.C.pts++l2=_
   rw[c1,bC]
   rfl
  ·rw[aD]
   show s'.D.pts=_
   rw[e2];rfl
 ·rw[ok.m,c2]
  have:(s'.fl q k).D.mks=s.D.mks++E.mks:=by show s'.D.mks=_;rw[e2];rfl
  rw[this,show(s.D.mks++E.mks).filter (fun m=>inb s.n s'.n m.a)=E.mks from b1]
  show E.mks=((E.mks.map (rnM g)).map _)
  rw[bf]
  refine(vH fun m hm=>?_).symm
  show rnM _ (rnM g m)=m
  rw[FA]
  exact DQ (back _ (rg.m m hm).1.1) fun x hx=>back _ ((rg.m m hm).2 x hx).1
 ·rw[ok.u,c3]
  have:(s'.fl q k).D.uss=s.D.uss++E.uss:=by show s'.D.uss=_;rw[e2];rfl
  rw[this,show(s.D.uss++E.uss).filter (fun u=>inb s.n s'.n (uA u))=E.uss from b2]
  show E.uss=((E.uss.map (rnU g)).map _)
  rw[bf]
  refine(vH fun m hm=>?_).symm
  show rnU _ (rnU g m)=m
  rw[Fy]
  exact DP fun x hx=>back _ (rg.u m hm x hx).1
 ·rw[f1',ok.f,g1,bf]
  refine(vH fun x hx=>?_).symm
  obtain⟨hx,hi⟩:=ae.mp hx
  show(mv _ (g x.1),mv _ (g x.2))=x
  rw[back _ (qW.mp hi).1,back _ (rg.f x hx).2.1]
 ·rw[f2',ok.c,g2,bP,bQ (by dsimp only;rw[nk];decide),bR,aD]
  rw[bT.mpr (fun x hx=>inT x (ae.mp hx).1)]
  have:∀x∈(E.fls.filter (fun x=>!inb s.n s'.n x.1)).map (rnF g),inb r.lo r.hi x.2=true:=fun x hx=>by
   obtain⟨y,hy,rfl⟩:=bc.mp hx
   have hy:=(ae.mp hy).1
   have:=(rg.f y hy).2
   show inb r.lo r.hi (g y.2)=true
   rw[gh _ this.1]
   exact qW.mpr ⟨by lia,by lia⟩
  rw[bT.mpr this,bf]
  refine bS fun x hx=>?_
  obtain⟨hx,hi⟩:=ae.mp hx
  show(x.1,x.2-s.n)=(g x.1,g x.2-r.lo)
  rw[gh _ (rg.f x hx).2.1]
  rcases src x hx with a|a
  ·rw[gl _ a,show x.2-(s.n-r.lo)-r.lo=x.2-s.n by lia]
  ·have:=(rg.f x hx).1
   rw[qW.mpr ⟨a,this.2⟩]at hi
   cases hi
 ·rw[ok.c]
  refine pf fun x hx=>?_
  have:=(ae.mp hx).2
  cases e:inb r.lo r.hi x.1 with
  |false=>rfl
  |true=>rw[e]at this;cases this
 ·rw[f2',bP,bV (by dsimp only;exact nq),bR,pf fun x hx=>?_,bz,eq,show k=s.n-1 by lia]
  have:=(ae.mp hx).2
  cases e:inb s.n s'.n x.1 with
  |false=>rfl
  |true=>rw[e]at this;cases this
structure Lv (vi vl:Int->Int->Prop) (df:Int->Int) (g:Gh) (p:Int) (s:Ls):Prop where
 h:∀k v,vi p k->s.held k=some v->Kw g.B s.n v
 t:∀v,s.st (df p)=some v->Kw g.B s.n v
 l:∀a,vl p a->∃r∈g.R,r.a=a/\Cur vi df r s
theorem B8 {α:Type} {l m:List α} {i:Int} {x:α} (h:atZ (l++m) i=some x):atZ l i=some x\/(x∈m/\(l.length:Int)<=i):=by
 obtain⟨j,rfl,h'⟩:=fV h
 by_cases e:j<l.length
 ·rw[aJ e]at h';exact .inl h'
 ·rw[aI (by lia)]at h'
  exact .inr ⟨aN h',by lia⟩
section
variable {vi vl:Int->Int->Prop} {en df:Int->Int} {ρs:List Ro} {roots:List Nat} {ho:Nat->Option Hm}
theorem Lv.step (V:Vs vi en df ρs roots ho) (W:Vl vl vi en df ρs roots ho) {p:Int} {s s':Ls} {g g':Gh} (z:Lv vi vl df g p s) (w:Rw en df p s s') (ad:Ad1 en p s s') (m:∀x,Kw g.B s.n x->Kw g'.B s'.n x) (sub:∀r∈g.R,r∈g'.R):Lv vi vl df g' p s':=by
 refine⟨fun k v hk h=>m v (z.h k v hk (by rw[<-Rw.vh V w hk];exact h)),fun v h=>m v (z.t v (by rw[<-Rw.st w];exact h)),fun a ha=>?_⟩
 obtain⟨r,hr,rfl,c1,c2,c3⟩:=z.l a ha
 refine⟨r,sub r hr,rfl,fun i hi h=>?_,fun k hk=>by rw[Rw.vh V w (W.vi _ _ _ ha hk)];exact c2 k hk,by rw[W.df _ _ ha,Rw.st w,<-W.df _ _ ha];exact c3⟩
 obtain⟨_,C,e,_,px⟩:=ad
 rw[e]at h
 rcases B8 (show atZ (s.D.pts++C.pts) i=some (r.a-1)from h)with h|⟨h,_⟩
 ·exact c1 i hi h
 ·obtain⟨_,_,_,e1,e2,_⟩:=W.enc _ _ ha
  rcases px _ h with x|x<;>lia
theorem B9 (N:Nt en df ρs roots ho) (V:Vs vi en df ρs roots ho) (W:Vl vl vi en df ρs roots ho) {F:Nat} (hn:∀p ρ,atZ ρs p=some ρ->(∀w,ρ≠ .name w)->ho p.toNat=none):∀(f:Nat) (p q:Int) (s s':Ls) (g:Gh) (Ps:List Int),f<=F->p<en p->Ah ρs s->Iv en ho (RF en ρs roots ho F) Ps g s->Lv vi vl df g p s->(∀r∈g.R,r.hi=s.n->p=en r.a)->iL ρs roots ho f p s=some (q,s')->∃g',Iv en ho (RF en ρs roots ho F) Ps g' s'/\(∀x,Kw g.B s.n x->Kw g'.B s'.n x)/\Kw g'.B s'.n q/\(∀r∈g.R,r∈g'.R)/\∀r∈g'.R,r.hi<s'.n
 |0,_,_,_,_,_,_,_,_,_,_,_,_,h=>by cases h
 |f+ 1,p,q,s,s',g,Ps,lf,hp,ah,z,zl,pd,h=>by
  have IH:=fun p q s s' g Ps=>B9 N V W hn f p q s s' g Ps (cB lf)
  obtain⟨ρ,hk,h1,rfl⟩:=kY h
  have n1:=rZ s p
  have n0:=rL s
  have ap:=ah.pt p ⟨_,hk⟩
  have pp:Px en p p:= .inl ⟨eB _,hp⟩
  have lp:Lv vi vl df g p (s.pt p):=zl.step V W Rw.pt (Ad1.pt s pp) (fun x hx=>hx.mo (by lia)) fun r hr=>hr
  have nw:=z.new (n:=(s.pt p).n) (by lia)
  have ltp:∀r∈g.R,r.hi<(s.pt p).n:=fun r hr=>by have:=(z.r r hr).2.1;lia
  by_cases nn:∀w,ρ≠ .name w
  ·have hno:=hn p ρ hk nn
   have zp:=z.pt pd (fun h e=>by rw[hno]at e;cases e)
   by_cases nl:∀w a b,ρ≠ .lt w a b
   ·have G:Gn (γ:=Gh) (fun x=>x) (fun g2 s2 t=>t=s2/\Ah ρs s2/\Iv en ho (RF en ρs roots ho F) Ps g2 s2/\Lv vi vl df g2 p s2/\(∀r∈g2.R,r.hi<s2.n)/\∀r∈g.R,r∈g2.R) (fun g n x=>Kw g.B n x) (iL ρs roots ho f) (iL ρs roots ho f) p ρ:=
     ⟨(fun r=>by rw[r.1]),
      (fun{c s2 t} r=>by
       obtain⟨rfl,r2,r3,r4,r5,r6⟩:=r
       have n2:=rZ t p
       exact⟨⟨rfl,r2.pt p ⟨_,hk⟩,r3.pt (fun r hr e=>by have:=r5 r hr;lia) (fun h e=>by rw[hno]at e;cases e),r4.step V W Rw.pt (Ad1.pt t pp) (fun x hx=>hx.mo (by lia)) (fun r hr=>hr),fun r hr=>by have:=r5 r hr;lia,r6⟩,fun x hx=>hx.mo (by lia),r3.new (by lia)⟩),
      (fun{c s2 t m} r h _=>by
       obtain⟨rfl,r2,r3,r4,r5,r6⟩:=r
       exact⟨by rw[r8],⟨r2.d.ma ⟨h.1,h.2.1⟩,r2.pl,r2.h,r2.t⟩,r3.ma h,⟨r4.h,r4.t,r4.l⟩,r5,r6⟩),
      (fun{c s2 t u} r h=>by
       obtain⟨rfl,r2,r3,r4,r5,r6⟩:=r
       have h:=h _ (Be u)
       exact⟨by rw[r9],⟨r2.d.us ⟨h.1,h.2.1⟩,r2.pl,r2.h,r2.t⟩,r3.us h,⟨r4.h,r4.t,r4.l⟩,r5,r6⟩),
      (fun{c s2 t x y} r h k=>by
       obtain⟨rfl,r2,r3,r4,r5,r6⟩:=r
       exact⟨rfl,⟨r2.d.fl ⟨h.1,h.2.1⟩ ⟨k.1,k.2.1⟩,r2.pl,r2.h,r2.t⟩,r3.fl h k,⟨r4.h,r4.t,r4.l⟩,r5,r6⟩),
      (fun{c s2 t k q s'} hc r e=>by
       obtain⟨rfl,r2,r3,r4,r5,r6⟩:=r
       obtain⟨z1,z2,z3,dk⟩:=N.kid _ _ _ hk (je hc)
       obtain⟨y1,y2,y3⟩:=lF f k q _ s' r2 e
       obtain⟨g',i1,m1,k1,sb,lt⟩:=IH k q _ s' c Ps z3 r2 r3 ⟨fun x v hx=>r4.h x v (uO V hk hc hx),by rw[dk];exact r4.t,fun a ha=>by
        rcases W.kid _ _ _ _ hk (je hc) ha with ha|⟨w,ha⟩
        ·exact r4.l a ha
        ·exact absurd ha (nl w a k)⟩ (fun r hr e=>by have:=r5 r hr;lia) e
       exact⟨g',s',e,⟨rfl,y1,i1,r4.step V W (uP N hk (je hc) e) ((ph N f k q _ s' z3 r2 e).to fun x hx=>hx.part N.n z1 z2 z3) m1 sb,lt,fun r hr=>sb r (r6 r hr)⟩,m1,k1⟩),
      (fun{c s2 t k q s'} hc r e=>by
       obtain⟨rfl,r2,r3,r4,r5,r6⟩:=r
       obtain⟨z1,z2,z3,dk⟩:=N.kid _ _ _ hk (kX hc)
       have n2:=rZ t p
       have en':((t.pt p).hold k t.n).n=(t.pt p).n:=rfl
       have tp:=rL t
       have zp:=r2.pt p ⟨_,hk⟩
       have a1:Ah ρs ((t.pt p).hold k t.n):=⟨zp.d,zp.pl,fun x y h=>pL (h:=t.held) (k:=k) (v:=t.n) (n:=(t.pt p).n) zp.h (by lia) h,zp.t⟩
       obtain⟨y1,y2,y3⟩:=lF f k q _ s' a1 e
       have i0:=r3.pt (p:=p) (fun r hr e=>by have:=r5 r hr;lia) (fun h e=>by rw[hno]at e;cases e)
       have nw:=r3.new (n:=(t.pt p).n) (by lia)
       have l0:=r4.step V W (Rw.pt (p:=p)) (Ad1.pt t pp) (fun x hx=>hx.mo (n':=(t.pt p).n) (by lia)) (fun r hr=>hr)
       obtain⟨g',i1,m1,k1,sb,lt⟩:=IH k q ((t.pt p).hold k t.n) s' c Ps z3 a1 ⟨i0.an,i0.r,i0.k,i0.b⟩ ⟨fun x v hx hv=>by
        have hv:put t.held k t.n x=some v:=hv
        unfold put at hv
        split at hv
        ·cases hv;exact nw
        ·rename_i ex
         rcases V.kid _ _ _ _ hk (kX hc) hx with hx|hx
         ·exact l0.h x v hx hv
         ·exact absurd hx.1 ex,by rw[dk];exact l0.t,fun a ha=>by
        rcases W.kid _ _ _ _ hk (kX hc) ha with ha|⟨w,ha⟩
        ·obtain⟨r,hr,e1,c1,c2,c3⟩:=l0.l a ha
         refine⟨r,hr,e1,c1,fun x hx=>?_,c3⟩
         show put t.held k t.n x=_
         unfold put
         rw[fO]
         ·exact c2 x hx
         ·intro ex
          have:=V.enc _ _ (W.vi _ _ _ ha (by rw[<-e1];exact hx))
          lia
        ·exact absurd ha (nl w a k)⟩ (fun r hr e=>by have:=r5 r hr;lia) e
       have m2:∀x,Kw c.B t.n x->Kw g'.B s'.n x:=fun x hx=>m1 x (hx.mo (by lia))
       exact⟨g',s',e,⟨rfl,y1,i1,r4.step V W (zZ N hk hc e) (((Ad1.pt t pp).ho (k:=k) (v:=t.n)).trans ((ph N f k q _ s' z3 a1 e).to fun x hx=>hx.part N.n z1 z2 z3)) m2 sb,lt,fun r hr=>sb r (r6 r hr)⟩,m2,k1,m1 _ nw⟩)⟩
    obtain⟨g',t',e1,r1,m1⟩:=G.go (c:=g) nn ⟨rfl,ap,zp,lp,ltp,fun r hr=>hr⟩ (own:=s.n) nw h1
    rw[h1]at e1
    cases e1
    obtain⟨_,r2,r3,r4,r5,r6⟩:=r1
    exact⟨g',r3,fun x hx=>m1 x (hx.mo (by lia)),m1 _ nw,r6,r5⟩
   ·obtain⟨w,a,b,rfl⟩:∃w a b,ρ= .lt w a b:=Classical.byContradiction fun n=>nl fun w a b e=>n ⟨w,a,b,e⟩
    obtain⟨ea,eb⟩:=W.self _ _ _ _ hk
    have ka:a∈frk (.lt w a b):=by simp[frk]
    have kb:b∈frk (.lt w a b):=by simp[frk]
    obtain⟨a1,a2,a3,a4⟩:=N.kid _ _ _ hk (je ka)
    obtain⟨b1,b2,b3,b4⟩:=N.kid _ _ _ hk (je kb)
    obtain⟨q1,s1,l1,h1,_⟩:=L1 (gB f) h1
    obtain⟨q2,s2,l2,h1,_⟩:=L1 (gB f) h1
    cases h1
    obtain⟨y1,y2,y3⟩:=lF f _ _ _ _ ap l1
    obtain⟨y4,y5,y6⟩:=lF f _ _ _ _ y1 l2
    obtain⟨g1,i1,m1,k1,sb1,lt1⟩:=IH a q1 (s.pt p) s1 g Ps a3 ap zp ⟨fun x v hx=>lp.h x v (uO V hk ka hx),by rw[a4];exact lp.t,fun x hx=>by
     rcases W.kid _ _ _ _ hk (je ka) hx with hx|⟨w',hx⟩
     ·exact lp.l x hx
     ·injection hx with _ _ e;lia⟩ (fun r hr e=>by have:=ltp r hr;lia) l1
    have ad:=ph N f _ _ _ _ a3 ap l1
    have adp:Ad1 en p (s.pt p) s1:=ad.to fun x hx=>hx.part N.n a1 a2 a3
    obtain⟨ll,C,eD,rg,px⟩:=ad
    have rw1:=uP N hk (je ka) l1
    have i2:=i1.reg (r:=⟨a,s.pt p,s1,C⟩) ⟨⟨f,q1,cB lf,l1⟩,ap,y1,eD,rg,px,s.D.pts,by show s.D.pts++[p]=s.D.pts++[a-1];rw[show a-1=p by lia]⟩ rfl eD ap.d rg
    have mo1:∀x,Kw g.B (s.pt p).n x->Kw (g1.B++[((s.pt p).n,s1.n)]) s1.n x:=fun x hx=>(m1 x hx).add hx.2.1
    have lp1:Lv vi vl df ⟨g1.R++[⟨a,s.pt p,s1,C⟩],g1.B++[((s.pt p).n,s1.n)]⟩ p s1:=lp.step V W rw1 adp mo1 fun r hr=>aq _ (sb1 r hr)
    obtain⟨g2,i3,m2,k2,sb2,lt2⟩:=IH b q2 s1 s2 ⟨g1.R++[⟨a,s.pt p,s1,C⟩],g1.B++[((s.pt p).n,s1.n)]⟩ Ps b3 y1 i2 ⟨fun x v hx=>lp1.h x v (uO V hk kb hx),by rw[b4];exact lp1.t,fun x hx=>by
     rcases W.kid _ _ _ _ hk (je kb) hx with hx|⟨w',hx⟩
     ·exact lp1.l x hx
     ·injection hx with _ e _
      subst e
      refine⟨_,ax _ (ba.mpr rfl),rfl,fun i hi e=>?_,fun k hk'=>Rw.vh V rw1 (uO V hk ka hk'),by show s1.st (df a)=(s.pt p).st (df a);rw[a4];exact Rw.st rw1⟩
      have hi:(((s.pt p).D.pts.length:Nat):Int)<=i:=hi
      rw[eD]at e
      rcases B8 (show atZ ((s.pt p).D.pts++C.pts) i=some (a-1)from e)with e|⟨e,_⟩
      ·obtain⟨j,rfl,hj⟩:=fV e
       have:=(ar.mp hj).1
       lia
      ·rw[show a-1=p by lia]at e
       rcases px _ e with x|x<;>lia⟩ (fun r hr e=>by
     rcases ao.mp hr with hr|hr
     ·have:=lt1 r hr;lia
     ·rw[ba.mp hr];exact eb.symm) l2
    have ow:=m2 _ (mo1 _ nw)
    exact⟨g2,i3.fl k2 ow,fun x hx=>m2 x (mo1 x (hx.mo (by lia))),ow,fun r hr=>sb2 r (aq _ (sb1 r hr)),lt2⟩
  ·obtain⟨w,rfl⟩:∃w,ρ= .name w:=Classical.byContradiction fun n=>nn fun w e=>n ⟨w,e⟩
   obtain⟨h0,r,s1,hh,hm,rfl⟩:=kF h1
   obtain⟨k,rfl,_⟩:=fV hk
   have hh:ho k=some h0:=hh
   unfold jj at hm
   by_cases e1:h0.1="let"
   ·rw[f6 e1]at hm
    obtain⟨z1,z2,z3⟩:=N.lt _ _ hh e1
    have zp:Iv en ho (RF en ρs roots ho F) (s.n::Ps) g (s.pt k):=(z.pend (k:=s.n)).pt pd (fun h _ _=>ai)
    obtain⟨g1,i1,m1,k1,sb1,lt1⟩:=IH _ _ _ _ g (s.n::Ps) z2 ap zp ⟨fun x v hx=>lp.h x v (V.lt _ _ _ hh e1 hx),by rw[z3];exact lp.t,fun a ha=>lp.l a (W.lt _ _ _ hh e1 ha)⟩ (fun r hr e=>by have:=ltp r hr;lia) hm
    have i2:=i1.fl k1 (m1 _ nw)
    obtain⟨rc,hr,er,cu⟩:=lp.l _ (W.nm _ _ hh e1)
    obtain⟨RFr,hhi,_,_⟩:=z.r rc hr
    obtain⟨f1,q1,_,run⟩:=RFr.run
    obtain⟨_,lr,_⟩:=lF f1 _ _ _ _ RFr.a0 run
    have lr:rc.lo<rc.hi:=lr
    rw[<-er]at hm z2
    obtain⟨cy,len⟩:=Bg N V RFr (cB lf) z2 ap cu hm n1 (by lia) (i2.r rc (sb1 rc hr)).2.2.1
    obtain⟨_,C,eD,_,_⟩:=ph N f _ _ _ _ z2 ap hm
    have ep:(s1.fl r s.n).D.pts=(s.pt k).D.pts++C.pts:=by show s1.D.pts=_;rw[eD];rfl
    have at0:atZ (s.pt k).D.pts s.n=some (k:Int):=by
     show(s.D.pts++[(k:Int)])[s.D.pts.length]?=_
     rw[aI (b9 _),cg]
     rfl
    have i3:=i2.cpy (sb1 rc hr) (fun pl h c1 c2 c3=>by
     rw[ep,DN at0]at c1
     cases c1
     rw[show((k:Int)).toNat=k from rfl,hh]at c2
     cases c2
     exact er) hhi (fun i c1 c2=>by rw[ep,B6 at0 c2];exact cu.1 i c1) cy (by show _<=s1.n;lia)
    refine⟨_,i3,fun x hx=>(m1 x (hx.mo (by lia))).add (by have:=hx.2.1;lia),(m1 _ nw).add (by lia),sb1,lt1⟩
   ·rw[fO e1]at hm
    have zp:=z.pt pd (fun h e=>by rw[show((k:Int)).toNat=k from rfl,hh]at e;cases e;exact fun c=>absurd c e1)
    by_cases e2:h0.1="def"
    ·rw[f6 e2]at hm
     by_cases e3:inF roots k h0.2=true
     ·rw[f6 e3]at hm
      obtain⟨v,hv,e5⟩:=cF.mp hm
      cases e5
      have kv:=lp.t _ (by rw[<-(V.inn _ _ hh e2).mp e3];exact hv)
      exact⟨g,zp.fl kv nw,fun x hx=>hx.mo (by show s.n<=(s.pt k).n;lia),nw,fun r hr=>hr,ltp⟩
     ·rw[fO e3]at hm
      obtain⟨r0,q0,s2,hd,h2,rfl,rfl⟩:=ke hm
      obtain⟨z1,z2⟩:=N.dn _ _ hh e2 (by simpa using e3)
      obtain⟨z3,z4,z5⟩:=z2 _ hd
      have n2:=rZ (s.pt k) r0
      have zr:=ap.pt r0 (uQ h2)
      have en':(((s.pt k).pt r0).begin h0.2 (s.pt k).n).n=((s.pt k).pt r0).n:=rfl
      have a1:Ah ρs (((s.pt k).pt r0).begin h0.2 (s.pt k).n):=⟨zr.d,zr.pl,zr.h,fun x y h=>pL (h:=(s.pt k).st) (k:=h0.2) (v:=(s.pt k).n) (n:=((s.pt k).pt r0).n) zr.t (by lia) h⟩
      have zq:=zp.pt (p:=(r0:Int)) (fun r hr e=>by have:=ltp r hr;lia) (fun h c1 c2=>absurd (W.nm _ _ c1 c2) (W.root _ _ _ hd))
      have nr:=zp.new (n:=((s.pt k).pt r0).n) (by lia)
      obtain⟨g1,i1,m1,k1,sb1,lt1⟩:=IH _ _ _ _ g Ps z3 a1 ⟨zq.an,zq.r,zq.k,zq.b⟩ ⟨fun x v hx=>absurd hx (V.root _ _ _ hd),fun v hv=>by
       rw[z5]at hv
       have hv:put (s.pt k).st h0.2 (s.pt k).n h0.2=some v:=hv
       rw[show put (s.pt k).st h0.2 (s.pt k).n h0.2=some (s.pt k).n from f6 rfl]at hv
       cases hv
       exact nr,fun a ha=>absurd ha (W.root _ _ _ hd)⟩ (fun r hr e=>by have:=ltp r hr;lia) h2
      have ms:∀x,Kw g.B (s.pt k).n x->Kw g1.B s2.n x:=fun x hx=>m1 x (hx.mo (by lia))
      exact⟨g1,(i1.fl k1 (m1 _ nr)).fl (m1 _ nr) (ms _ nw),fun x hx=>ms x (hx.mo (by lia)),ms _ nw,sb1,lt1⟩
    ·rw[fO e2]at hm
     obtain⟨v,hv,e5⟩:=cF.mp hm
     cases e5
     exact⟨g,zp.fl (lp.h _ _ (V.held _ _ hh e1 e2) hv) nw,fun x hx=>hx.mo (by show s.n<=(s.pt k).n;lia),nw,fun r hr=>hr,ltp⟩
theorem FC (N:Nt en df ρs roots ho) (V:Vs vi en df ρs roots ho) (W:Vl vl vi en df ρs roots ho) {F:Nat} {d q:Int} {s':Ls} (hn:∀p ρ,atZ ρs p=some ρ->(∀w,ρ≠ .name w)->ho p.toNat=none) (hr:∀r,atZ roots d=some r->(r:Int)<en r) (h:uZ (iL ρs roots ho F) roots d s00=some (q,s')):∃g,Iv en ho (RF en ρs roots ho F) [] g s':=by
 obtain⟨r0,q0,s2,hd,h2,rfl,rfl⟩:=ke h
 have n1:(s00.pt r0).n=1:=rZ _ _
 have z0:s00.n=0:=rfl
 have ah:Ah ρs ((s00.pt r0).begin d s00.n):=⟨⟨(by intro m hm;cases hm),(by intro m hm;cases hm),(by intro m hm;cases hm)⟩,fun x hx=>by rw[ba.mp (show x∈[(r0:Int)]from hx)];exact uQ h2,(by intro k v hv;cases hv),fun k v hv=>pL (h:=s00.st) (k:=d) (v:=s00.n) (n:=(s00.pt r0).n) (by intro k v hv;cases hv) (by lia) hv⟩
 have k0:Kw [] (s00.pt r0).n s00.n:=⟨by lia,by lia,fun b hb=>by cases hb⟩
 have i0:Iv en ho (RF en ρs roots ho F) [] ⟨[],[]⟩ ((s00.pt r0).begin d s00.n):=by
  refine⟨ah.d,(by intro r hr;cases hr),fun k pl h _ h3 h4 h5=>?_,(by intro r hr;cases hr)⟩
  obtain⟨i,rfl,hi⟩:=fV h3
  have:pl∈[(r0:Int)]:=aN hi
  rw[ba.mp this]at h4
  exact absurd (W.nm _ _ h4 h5) (W.root _ _ _ hd)
 obtain⟨g,i,m,k,_,_⟩:=B9 N V W hn F (r0:Int) q0 ((s00.pt r0).begin d s00.n) s2 ⟨[],[]⟩ [] (b9 _) (hr _ hd) ah i0 ⟨fun k v hk=>absurd hk (V.root _ _ _ hd),fun v hv=>by
  rw[V.dr _ _ hd]at hv
  have hv:put s00.st d s00.n d=some v:=hv
  rw[show put s00.st d s00.n d=some s00.n from f6 rfl]at hv
  cases hv
  exact k0,fun a ha=>absurd ha (W.root _ _ _ hd)⟩ (by intro r hr;cases hr) h2
 exact⟨g,i.fl k (m _ k0)⟩
end
def szB (D:Bd) (n:Nat):Prop:=Y4 (D.pts.length<=n) (D.mks.length<=n) (D.uss.length<=n) (D.fls.length<=n)
theorem jU {H:Hp} (n:Int):Im H (.int n) (.flat (.int n)):= .flat rfl
theorem wO {H:Hp} (s:Str):Im H (.str s) (.flat (.str s)):= .flat rfl
theorem jn {α:Type} {l:List α} {i:Nat} {a:α} (h:l[i]?=some a):l.take (i+ 1)=l.take i++[a]:=by
 rw[List.take_add_one,h]
 rfl
def bdW (D:Bd):Dt:= .lst [.lst (D.pts.map fun i=> .flat (.int i)),.lst (D.mks.map Mkg.d),.lst (D.uss.map Us.d),.lst (D.fls.map flD)]
inductive Tw (H:Hp) (v:V) (D:Bd):Prop
 |mk (b p0 p1 p2 p3:Addr) (mv uv fv:List V) (e:v= .ref b) (hb:H b=some (.lst [.ref p0,.ref p1,.ref p2,.ref p3])) (h0:H p0=some (.lst (D.pts.map V.int))) (h1:H p1=some (.lst mv)) (i1:Ims H mv (D.mks.map Mkg.d)) (h2:H p2=some (.lst uv)) (i2:Ims H uv (D.uss.map Us.d)) (h3:H p3=some (.lst fv)) (i3:Ims H fv (D.fls.map flD))
theorem Tw.same {H H':Hp} {v:V} {D:Bd} (S:fE H H'):Tw H v D->Tw H' v D
 |⟨b,p0,p1,p2,p3,mv,uv,fv,e,hb,h0,h1,i1,h2,i2,h3,i3⟩=>⟨b,p0,p1,p2,p3,mv,uv,fv,e,S _ _ hb,S _ _ h0,S _ _ h1,i1.mono (fE.tk S),S _ _ h2,i2.mono (fE.tk S),S _ _ h3,i3.mono (fE.tk S)⟩
theorem Tw.da {H:Hp} {v:V} {D:Bd}:Tw H v D->Dta H v (bdW D)
 |⟨b,p0,p1,p2,p3,mv,uv,fv,e,hb,h0,h1,i1,h2,i2,h3,i3⟩=>by
  rw[e]
  exact .lst hb (.cons (.lst h0 (ue _ _)) (.cons (.lst h1 i1.das) (.cons (.lst h2 i2.das) (.cons (.lst h3 i3.das) .nil))))
structure Gd (D:Bd):Prop where
 m:∀m∈D.mks,iE m.f<=2/\okD m.f
 u:∀u∈D.uss,u.ok
 z:szB D 900
theorem Gd.of {c:Cs} {H:Hp} {A:Ad} {r:V} {D:Bd} (B:Bw c H A r D) (h:szB D 900):Gd D:=by
 obtain⟨b,e0,⟨mv,e1,h1⟩,⟨uv,e2,h2⟩,⟨fv,e3,h3⟩,nd⟩:=B
 exact⟨fun m hm=>let⟨x,_,_,_,_,_,_,d,o⟩:=h1.right m hm;⟨d,o⟩,fun u hu=>let⟨x,q⟩:=h2.right u hu;q.ok,h⟩
theorem Gd.good {D:Bd} (h:Gd D):iE (bdW D)<=6/\okD (bdW D):=by
 obtain⟨m1,m2,a0,a1,a2,a3⟩:=h
 have d0:fZ (D.pts.map fun i=>Dt.flat (.int i))<=3:=iS fun x _=>cb _
 have d1:fZ (D.mks.map Mkg.d)<=3:=iS fun m hm=>by
  have:=(m1 m hm).1
  simp[Mkg.d,iE,fZ]
  lia
 have d2:fZ (D.uss.map Us.d)<=3:=iS fun u _=>u.dep
 have d3:fZ (D.fls.map flD)<=3:=iS fun p _=>by simp[flD,iE,fZ]
 refine⟨?_,(by show 4<=100000;decide),⟨by rw[aC];lia,jr fun _ _=>trivial⟩,⟨by rw[aC];lia,jr fun m hm=>⟨by show 4<=100000;decide,trivial,(m1 m hm).2,trivial,trivial,trivial⟩⟩,⟨by rw[aC];lia,jr fun u hu=>Us.okd (m2 u hu)⟩,⟨by rw[aC];lia,jr fun p _=>⟨by show 2<=100000;decide,trivial,trivial,trivial⟩⟩,trivial⟩
 simp only[bdW,iE,fZ]
 lia
mutual
theorem Ac (g:Int->Int):∀d:Dt,iE (rnD g d)=iE d
 | .flat v=>by rw[rnD];rfl
 | .tup l=>by rw[rnD];show fZ (jZ g l)+ 1=fZ l+ 1;rw[wQ]
 | .lst l=>by rw[rnD]
theorem wQ (g:Int->Int):∀l:List Dt,fZ (jZ g l)=fZ l
 |[]=>by rw[jZ]
 |d::l=>by rw[jZ];show max (iE (rnD g d)) (fZ (jZ g l))=max (iE d) (fZ l);rw[Ac,wQ]
end
theorem tH (g:Int->Int):∀l:List Dt,(jZ g l).length=l.length
 |[]=>by rw[jZ]
 |d::l=>by rw[jZ,az,tH,az]
mutual
theorem Ca (g:Int->Int):∀d:Dt,okD d->okD (rnD g d)
 | .flat v,_=>by rw[rnD];trivial
 | .tup l,h=>by rw[rnD];exact⟨by rw[tH];exact h.1,Ae g l h.2⟩
 | .lst l,h=>by rw[rnD];exact h
theorem Ae (g:Int->Int):∀l:List Dt,ud l->ud (jZ g l)
 |[],_=>by rw[jZ];trivial
 |d::l,h=>by rw[jZ];exact⟨Ca g d h.1,Ae g l h.2⟩
end
theorem Gd.rn {D:Bd} (h:Gd D) (g:Int->Int):Gd (rnB g D):=by
 obtain⟨m1,m2,a0,a1,a2,a3⟩:=h
 refine⟨fun m hm=>?_,fun u hu=>?_,a0,by show(D.mks.map _).length<=_;rw[aC];exact a1,by show(D.uss.map _).length<=_;rw[aC];exact a2,by show(D.fls.map _).length<=_;rw[aC];exact a3⟩
 ·obtain⟨y,hy,rfl⟩:=bc.mp hm
  exact⟨by show iE (rnD g y.f)<=2;rw[Ac];exact(m1 y hy).1,Ca g _ (m1 y hy).2⟩
 ·obtain⟨y,hy,rfl⟩:=bc.mp hu
  have:=m2 y hy
  cases y<;>first|trivial|(show(bg _ _).length<=10;rw[aC];exact this)
def DS (c:Cs):Sp:=fun vs H Q _=>X4 fun(A:Ad) (r:V) (D:Bd) (n:Nat)=>Y5 (vs=[.ref A.b]) (Bw c H A r D) (szB D n) (n<=900) (∀v H',fE H H'->Tw H' v D->Q v H')
theorem uR (T:Txt K mg):FO P w base 2 T.d46 (DS (cs T)):=by
 have gE55:=uu (P:=P) (w:=w) (base:=base) T
 have gE57:=rA (P:=P) (w:=w) (base:=base) T
 have gE59:=qN (P:=P) (w:=w) (base:=base) T
 have gE61:=qP (P:=P) (w:=w) (base:=base) T
 have gE63:=qR (P:=P) (w:=w) (base:=base) T
 have gE65:=rC (P:=P) (w:=w) (base:=base) T
 refine T.d46.F.rd mj fun cdv A0 outer s H vs Q E hr h=>?_
 obtain⟨A,r,D,n,rfl,B,sm,hn,q⟩:=h
 refine⟨_,(eU (jq (j:=1) rfl (Ey (x:="_law_one") rfl fW fW rfl rfl) (gX (fu T.c8.cl T.n8makes (cv 0))) (fun _ _ _ _ _=>iB) (fun _ _ _ _ _=>(fj (my (PE.mono (cv 0)) T.c1.cl T.e55.me gE55 hr.m T.e55.b .nil fK))) mj.nd rfl (.inl rfl))
  (eU (jq (j:=2) rfl (Ey (x:="_law_one") rfl fW fW rfl rfl) (gX (fu T.c8.cl T.n8uses (cv 0))) (fun _ _ _ _ _=>iB) (fun _ _ _ _ _=>(PE.or (fj (my (PE.mono (cv 0)) T.c3.cl T.e57.me gE57 hr.m T.e57.b .nil fK)) (PE.or (fj (my (PE.mono (cv 0)) T.c4.cl T.e59.me gE59 hr.m T.e59.b .nil fK)) (PE.or (fj (my (PE.mono (cv 0)) T.c5.cl T.e61.me gE61 hr.m T.e61.b .nil fK)) (PE.or (fj (my (PE.mono (cv 0)) T.c6.cl T.e63.me gE63 hr.m T.e63.b .nil fK)) (fj (my (PE.mono (cv 0)) T.c7.cl T.e65.me gE65 hr.m T.e65.b .nil fK))))))) mj.nd rfl (.inl rfl))
  (eZ (fz (fH (eR (gq iH rfl T.z_list kg (eR (fu T.c8.cl T.n8points (cv 0)) eT)) (eR (cv 1) (eR (cv 2) (eR (gq iH rfl T.z_list kg (eR (fu T.c8.cl T.n8flows (cv 0)) eT)) eT))))))))),?_⟩
 have sl:=sizeLine_eq
 obtain⟨mv,em,am⟩:=B.e1
 obtain⟨uv,eu,au⟩:=B.e2
 have lm:=am.length
 have lu:=au.length
 have s1:=sm.2
 have s2:=sm.3
 refine⟨_,⟨_,_,B.b,wb _ _ _ _ _⟩,A.p1,rfl,⟨_,SqL.of em⟩,fun d hd=>?_⟩
 refine kC mv.length (by lia) (fun xs H=>Ims H xs ((D.mks.take xs.length).map Mkg.d)) (fun xs H H' h k=>h.mono k) hd rfl (fun k H S hk=>pq em S hk) (fun H S=>pA em S) .nil ?_ ?_
 ·rintro k H2 v H3 xs Z S2 hk ⟨rfl,hv⟩ I2 hl z
  obtain⟨m,hm,x,dx,f,rfl,ex,hf,_⟩:=am.get (hv _ (SqL.of (S2 _ _ em)))
  have ex2:=S2 _ _ ex
  refine⟨⟨_,_,ex2,xB _ _ _ _⟩,x,dx,_,_,_,_,rfl,ex2,fun t ht=>z _ _ (eW ht _) ?_⟩
  show Ims _ (xs++[V.ref t]) ((D.mks.take (xs++[V.ref t]).length).map Mkg.d)
  rw[aO,aV,jn (by rw[hl];exact hm),br]
  exact(Ims.mono (fE.tk (eW ht _)) I2).app (.cons (yT ht (.cons (wO _) (.cons (hf.mono (fE.tk S2)) (.cons (jU _) (.cons (jU _) .nil))))) .nil)
 rintro H2 xs S2 I2 hl eD
 have I2':Ims H2 xs ((D.mks.take xs.length).map Mkg.d):=I2
 rw[hl,lm,bu]at I2'
 have B2:=B.same S2
 have eu2:=S2 _ _ eu
 refine⟨_,⟨_,_,B2.b,ze _ _ _ _ _⟩,A.p2,rfl,⟨_,SqL.of eu2⟩,fun d2 hd2=>?_⟩
 refine kC uv.length (by lia) (fun xs H=>Ims H xs ((D.uss.take xs.length).map Us.d)) (fun xs H H' h k=>h.mono k) hd2 rfl (fun k H S hk=>pq eu2 S hk) (fun H S=>pA eu2 S) .nil ?_ ?_
 ·rintro k H3 v H4 ys Z S3 hk ⟨rfl,hv⟩ I3 hl3 z
  obtain⟨u,hu,ua⟩:=au.get (hv _ (SqL.of (S3 _ _ eu2)))
  have S:=S2.trans S3
  have fin:∀{t:Addr} {ts:List V} {ds:List Dt},H4 t=none->Ims H4 ts ds->Us.d u= .tup ds->Z (.ref t) (L2.Internal.upd H4 t (.tup ts)):=fun{t ts ds} ht i e=>z _ _ (eW ht _) (by
   show Ims _ (ys++[V.ref t]) ((D.uss.take (ys++[V.ref t]).length).map Us.d)
   rw[aO,aV,jn (by rw[hl3];exact hu),br]
   refine(Ims.mono (fE.tk (eW ht _)) I3).app (.cons ?_ .nil)
   rw[e]
   exact yT ht i)
  have h4:∀(s:Str) (a p sl:Int),Ims H4 [.str s,.int a,.int p,.int sl] (hdD s a p sl):=fun s a p sl=> .cons (wO _) (.cons (jU _) (.cons (jU _) (.cons (jU _) .nil)))
  cases u with
  |num a p sl=>
   obtain⟨x,dx,rfl,ex⟩:=ua
   have ex2:=S _ _ ex
   exact .inl ⟨⟨_,_,ex2,xA _ _ _⟩,x,dx,_,_,_,rfl,ex2,fun t ht=>fin ht (h4 "num" a p sl) rfl⟩
  |call a p sl y1 y2=>
   obtain⟨x,dx,rfl,ex⟩:=ua
   have ex2:=S _ _ ex
   exact .inr (.inl ⟨⟨_,_,ex2,vk _ _ _ _ _⟩,x,dx,_,_,_,_,_,rfl,ex2,fun t ht=>fin ht ((h4 "call" a p sl).app (.cons (jU y1) (.cons (jU y2) .nil))) rfl⟩)
  |take a p sl l=>
   obtain⟨x,dx,f,rfl,ex,hf,_⟩:=ua
   have ex2:=S _ _ ex
   exact .inr (.inr (.inl ⟨⟨_,_,ex2,um _ _ _ _⟩,x,dx,_,_,_,_,rfl,ex2,fun t ht=>fin ht ((h4 "take" a p sl).app (.cons (hf.mono (fE.tk S)) .nil)) rfl⟩))
  |case a p sl l=>
   obtain⟨x,dx,f,rfl,ex,hf,_⟩:=ua
   have ex2:=S _ _ ex
   exact .inr (.inr (.inr (.inl ⟨⟨_,_,ex2,uo _ _ _ _⟩,x,dx,_,_,_,_,rfl,ex2,fun t ht=>fin ht ((h4 "case" a p sl).app (.cons (hf.mono (fE.tk S)) .nil)) rfl⟩)))
  |row a p sl y1=>
   obtain⟨x,dx,rfl,ex⟩:=ua
   have ex2:=S _ _ ex
   exact .inr (.inr (.inr (.inr ⟨⟨_,_,ex2,uq _ _ _ _⟩,x,dx,_,_,_,_,rfl,ex2,fun t ht=>fin ht ((h4 "row" a p sl).app (.cons (jU y1) .nil)) rfl⟩)))
 rintro H3 ys S3 I3 hl3 eD2
 have I3':Ims H3 ys ((D.uss.take ys.length).map Us.d):=I3
 rw[hl3,lu,bu]at I3'
 have S:=S2.trans S3
 have B3:=B.same S
 refine⟨_,⟨_,_,B3.b,qK _ _ _ _ _⟩,A.p0,_,rfl,.inl (SqL.of B3.e0),fun l0 h0=>?_⟩
 have S4:=eW h0 (.lst (D.pts.map V.int))
 obtain⟨fv,ef,jf⟩:=B3.e3
 refine⟨_,⟨_,_,S4 _ _ B3.b,wg _ _ _ _ _⟩,A.p3,_,rfl,.inl (SqL.of (S4 _ _ ef)),fun l3 h3=>⟨Ai,fun l hl=>?_⟩⟩
 have S5:=eW h3 (.lst fv)
 have S6:=eW hl (.lst [.ref l0,.ref d,.ref d2,.ref l3])
 have S46:=S4.trans (S5.trans S6)
 refine q _ _ (S.trans S46) ?_
 exact⟨l,l0,d,d2,l3,_,_,_,rfl,eS,(S5.trans S6) _ _ eS,(S3.trans S46) _ _ eD,I2'.mono (fE.tk (S3.trans S46)),S46 _ _ eD2,I3'.mono (fE.tk S46),S6 _ _ eS,jf.mono (fE.tk S46)⟩
theorem wR (g:Int->Int):∀l m:List Dt,jZ g (l++m)=jZ g l++jZ g m
 |[],m=>by rw[jZ];rfl
 |d::l,m=>by rw[aS,jZ,wR,jZ];rfl
theorem tI (g:Int->Int) (d:Dt):jZ g [d]=[rnD g d]:=by rw[jZ,jZ]
def wU:Nat->Sp
 |0=>fun _ _ _ _=>False
 |n+ 1=>fun vs H Q _=>X3 fun(x:V) (d:Dt) (b:Int)=>Y5 (vs=[x,.int b]) (Im H x d) (iE d<=n) (okD d) (∀y H',fE H H'->Im H' y (rnD (mv b) d)->Q y H')
theorem ot (T:Txt K mg):∀n,FO P w base (n+ 1) T.d47 (wU n)
 |0=>T.d47.F.ok nV (fun vs H Q E h=>h.elim) (fun cdv A outer s H vs Q E hr h=>h.elim)
 |n+ 1=>by
  have gD47:=ot (P:=P) (w:=w) (base:=base) T n
  refine T.d47.F.rd nV fun cdv A outer s H vs Q E hr h=>?_
  obtain⟨x,d,b,rfl,hx,hd,ho,q⟩:=h
  refine⟨_,(eU (gG (mF (fS jX rfl T.z_isinstance gf (eR (cv 0) (eR (lD rfl T.z_tuple iA) eT))))
   (eZ (fz (gq gw rfl T.z_tuple iA (eR (qk rfl (uY (x:="_law_part") ["_law_by"] [("_law_by",1,s.heap.objs.size+ 1)]) (vS (cv 0)) (fun _ _ _ _ _=>iB) (fun _ _ _ _ _=>(pF T.d47 gD47 (hr.mono (by lia)) (eR (cv 0) (eR (cv 1) eT))))) eT))))
   fJ)
  (eU (gG (mF (fS jX rfl T.z_isinstance gf (eR (cv 0) (eR (lD rfl T.z_int yI) eT))))
   (eZ (fz (fq gk (cv 0) (cv 1))))
   fJ)
  (eZ (fz (cv 0))))),?_⟩
  have sl:=sizeLine_eq
  cases hx with
  |flat h=>
   cases x with
   |non=>
    refine⟨_,_,_,_,false,rfl,fun _ r=>r,.non,rfl,_,rfl,jy ?_⟩
    refine⟨_,_,_,_,false,rfl,fun _ r=>r,.non,rfl,_,rfl,jy ?_⟩
    exact q _ _ (fun _ _ e=>e) (.flat rfl)
   |int i=>
    refine⟨_,_,_,_,false,rfl,fun _ r=>r,.int i,rfl,_,rfl,jy ?_⟩
    refine⟨_,_,_,_,true,rfl,fun _ r=>r,.int i,rfl,_,rfl,jW ?_⟩
    exact q _ _ (fun _ _ e=>e) (.flat rfl)
   |str z=>
    refine⟨_,_,_,_,false,rfl,fun _ r=>r,.str z,rfl,_,rfl,jy ?_⟩
    refine⟨_,_,_,_,false,rfl,fun _ r=>r,.str z,rfl,_,rfl,jy ?_⟩
    exact q _ _ (fun _ _ e=>e) (.flat rfl)
   |bl b=>cases h
   |byt b=>cases h
   |flt b=>cases h
   |ref a=>cases h
   |ty n=>cases h
  |@tup a xs ds ha hxs=>
   have lx:=hxs.length
   have dd:fZ ds+ 1<=n:=hd
   cases n with
   |zero=>lia
   |succ m=>
   refine⟨_,_,_,_,true,rfl,fun _ r=>r,.tup ha,rfl,_,rfl,jW ?_⟩
   refine⟨a,rfl,⟨_,SqT.of ha⟩,fun D hD=>?_⟩
   refine kC xs.length (by have:=ho.1;lia) (fun zs H=>Ims H zs (jZ (mv b) (ds.take zs.length))) (fun _ _ _ h k=>h.mono k) hD rfl (fun k H S hk=>EE ha S hk) (fun H S=>EF ha S) .nil ?_ ?_
   ·rintro k H2 v H3 zs Z S2 hk ⟨rfl,hv⟩ I2 hl z
    obtain⟨d1,f1,g1⟩:=Ims.atK hxs (hv _ (SqT.of (S2 _ _ ha)))
    have dp:=BO.Internal.depDs_get f1
    refine⟨v,d1,b,rfl,g1.mono (fE.tk S2),by lia,pZ ho.2 f1,fun y H5 S5 i5=>z y H5 S5 ?_⟩
    show Ims H5 (zs++[y]) (jZ (mv b) (ds.take (zs++[y]).length))
    rw[aO,aV,jn (by rw[hl];exact f1),wR,tI]
    exact(Ims.mono (fE.tk S5) I2).app (.cons i5 .nil)
   ·intro H2 zs S2 I2 hl eD
    have I2:Ims H2 zs (jZ (mv b) (ds.take zs.length)):=I2
    rw[hl,lx,bu]at I2
    refine⟨D,_,rfl,.inl ⟨SqL.of eD,fun t ht=>?_⟩⟩
    exact q _ _ (S2.trans (eW ht _)) (ig ht I2)
theorem Hj {X:Cx} {K:PySem.W.Frag} (h:X.K=K):SlR X (HG K):=h▸CS
theorem FD {X:Cx} {K:PySem.W.Frag} (h:X.K=K):OpR X (binaryOp .Add) (AI K):=h▸sL
theorem Cb {H:Hp} {v:V} {m:Mkg} (h:Im H v (Mkg.d m)):∃t f,v= .ref t/\H t=some (.tup [.str m.s,f,.int m.a,.int m.p])/\Im H f m.f:=by
 cases h with
 |tup h hs=>
  cases hs with
  |cons a hs=>cases hs with
   |cons b hs=>cases hs with
    |cons c hs=>cases hs with
     |cons d hs=>
      cases hs
      cases a;cases c;cases d
      exact⟨_,_,rfl,h,b⟩
def uT:Us->Str×Int×Int×List Dt
 | .num _ p s=>("num",p,s,[])
 | .call _ p s x y=>("call",p,s,[kD x,kD y])
 | .take _ p s l=>("take",p,s,[prD l])
 | .case _ p s l=>("case",p,s,[prD l])
 | .row _ p s x=>("row",p,s,[kD x])
theorem Hk (u:Us):u.d= .tup (hdD (uT u).1 (uA u) (uT u).2.1 (uT u).2.2.1++(uT u).2.2.2):=by cases u<;>rfl
theorem Hl (g:Int->Int) (u:Us):uT (rnU g u)=((uT u).1,(uT u).2.1,(uT u).2.2.1,jZ g (uT u).2.2.2):=by
 cases u with
 |take a p s l=>show(_,_,_,[prD (rnP g l)])=_;rw[<-zm,<-tI];rfl
 |case a p s l=>show(_,_,_,[prD (rnP g l)])=_;rw[<-zm,<-tI];rfl
 |num=>show(_,_,_,[])=_;rfl
 |call=>show(_,_,_,[kD _,kD _])=_;rfl
 |row=>show(_,_,_,[kD _])=_;rfl
theorem Cc {H:Hp} {v:V} {u:Us} (h:Im H v (Us.d u)):∃t ys,v= .ref t/\H t=some (.tup (.str (uT u).1:: .int (uA u):: .int (uT u).2.1:: .int (uT u).2.2.1::ys))/\Ims H ys (uT u).2.2.2:=by
 rw[Hk]at h
 cases h with
 |tup h hs=>
  cases hs with
  |cons a hs=>cases hs with
   |cons b hs=>cases hs with
    |cons c hs=>cases hs with
     |cons d hs=>
      cases a;cases b;cases c;cases d
      exact⟨_,_,rfl,h,hs⟩
theorem uS {H:Hp} {v:V} {x:Int×Int} (h:Im H v (flD x)):∃t,v= .ref t/\H t=some (.tup [.int x.1,.int x.2]):=by
 cases h with
 |tup h hs=>
  cases hs with
  |cons a hs=>cases hs with
   |cons b hs=>
    cases hs
    cases a;cases b
    exact⟨_,rfl,h⟩
theorem Hn {u:Us} (h:u.ok):fZ (uT u).2.2.2<=2/\ud (uT u).2.2.2/\(uT u).2.2.2.length<=2:=by
 have ok:=Us.okd h
 have dp:=u.dep
 rw[Hk]at ok dp
 refine⟨?_,?_,?_⟩
 ·have:fZ (hdD (uT u).1 (uA u) (uT u).2.1 (uT u).2.2.1++(uT u).2.2.2)+ 1<=3:=dp
  simp only[hdD,aS,bz,fZ,iE]at this
  lia
 ·exact ok.2.2.2.2.2
 ·cases u<;>simp[uT]
theorem FE (a b c d:V) (ys:List V):rh (a::b::c::d::ys) (some 4) none=ys:=by
 unfold rh
 have h1:HT.Internal.sIx (a::b::c::d::ys).length 0 (some 4)=4:=by
  simp[HT.Internal.sIx]
 have h2:HT.Internal.sIx (a::b::c::d::ys).length (a::b::c::d::ys).length none=ys.length+ 4:=by
  simp[HT.Internal.sIx]
 rw[h1,h2]
 simp
theorem Ho (g:Int->Int) (x:Int×Int):rnD g (flD x)=flD (rnF g x):=rfl
def xT:Sp:=fun vs H Q _=>X3 fun(x:V) (D:Bd) (b:Int)=>Y4 (vs=[x,.int b]) (Tw H x D) (Gd D) (∀y H',fE H H'->Tw H' y (rnB (mv b) D)->Q y H')
theorem qX (T:Txt K mg):FO P w base 10 T.d48 xT:=by
 have gD47:=ot (P:=P) (w:=w) (base:=base) T 8
 refine T.d48.F.rd jR fun cdv A0 outer s H vs Q E hr h=>?_
 obtain⟨x,D,b,rfl,⟨a,p0,p1,p2,p3,mv',uv,fv,rfl,hb,h0,h1,i1,h2,i2,h3,i3⟩,gd,q⟩:=h
 refine⟨_,(eU (jq (j:=2) rfl (uY (x:="_law_one") ["_law_by"] [("_law_by",1,s.heap.objs.size+ 1)]) (gX (fh fg (cv 0) eV)) (fun _ _ _ _ _=>iB) (fun _ _ _ _ _=>(fC (eR (fh fm (cv 0) eV) (eR (pF T.d47 gD47 (hr.mono (by lia)) (eR (fh fm (cv 0) eV) (eR (cv 1) eT))) (eR (fq gk (fh fm (cv 0) eV) (cv 1)) (eR (fh fm (cv 0) eV) eT)))))) jR.nd rfl (.inl rfl))
  (eU (jq (j:=3) rfl (uY (x:="_law_one") ["_law_by"] [("_law_by",1,s.heap.objs.size+ 1)]) (gX (fh fg (cv 0) eV)) (fun _ _ _ _ _=>iB) (fun _ _ _ _ _=>(fq (FD (K:=K) rfl) (fC (eR (fh fm (cv 0) eV) (eR (fq gk (fh fm (cv 0) eV) (cv 1)) (eR (fh fm (cv 0) eV) (eR (fh fm (cv 0) eV) eT))))) (pF T.d47 gD47 (hr.mono (by lia)) (eR (kH (Hj (K:=K) rfl) (cv 0) (lN eV) oA) (eR (cv 1) eT))))) jR.nd rfl (.inl rfl))
  (eZ (fz (fH (eR (fh fg (cv 0) eV) (eR (cv 2) (eR (cv 3) (eR (qk rfl (uY (x:="_law_one") ["_law_by"] [("_law_by",1,s.heap.objs.size+ 1)]) (gX (fh fg (cv 0) eV)) (fun _ _ _ _ _=>iB) (fun _ _ _ _ _=>(pF T.d47 gD47 (hr.mono (by lia)) (eR (cv 0) (eR (cv 1) eT))))) eT))))))))),?_⟩
 have sl:=sizeLine_eq
 obtain⟨gm,gu,z0,z1,z2,z3⟩:=gd
 have l1:=i1.length
 have l2:=i2.length
 have l3:=i3.length
 rw[aC]at l1 l2 l3
 refine⟨_,hb,fc (eY (j:=1) rfl) ⟨p1,rfl,⟨_,SqL.of h1⟩,fun d1 hd1=>?_⟩⟩
 refine kC mv'.length (by lia) (fun zs H=>Ims H zs (((D.mks.take zs.length).map (rnM (mv b))).map Mkg.d)) (fun _ _ _ h k=>h.mono k) hd1 rfl (fun k H S hk=>pq h1 S hk) (fun H S=>pA h1 S) .nil ?_ ?_
 ·rintro k H2 v H3 zs Z S2 hk ⟨rfl,hv⟩ I2 hl z
  obtain⟨dm,e1,j1⟩:=Ims.atK i1 (hv _ (SqL.of (S2 _ _ h1)))
  rw[aK]at e1
  obtain⟨m,hm,rfl⟩:=cF.mp e1
  have mm:=gm m (aN hm)
  obtain⟨t,f,rfl,et,jf⟩:=Cb (j1.mono (fE.tk S2))
  refine⟨_,et,fc (eY (j:=0) rfl) ⟨_,et,fc (eY (j:=1) rfl) ⟨f,m.f,b,rfl,jf,bZ mm.1 (by decide),mm.2,fun y H4 S4 j4=>?_⟩⟩⟩
  have et4:=S4 _ _ et
  refine⟨_,et4,fc (eY (j:=2) rfl) ⟨_,et4,fc (eY (j:=3) rfl) ⟨Ai,fun t2 ht2=>z _ _ (S4.trans (eW ht2 _)) ?_⟩⟩⟩
  show Ims _ (zs++[V.ref t2]) (((D.mks.take (zs++[V.ref t2]).length).map (rnM (mv b))).map Mkg.d)
  rw[aO,aV,jn (by rw[hl];exact hm),br,br]
  exact(Ims.mono (fE.tk (S4.trans (eW ht2 _))) I2).app (.cons (ig ht2 (.cons (wO _) (.cons j4 (.cons (jU _) (.cons (jU _) .nil))))) .nil)
 rintro H2 zs S2 I2 hl eD
 have I2:Ims H2 zs (((D.mks.take zs.length).map (rnM (mv b))).map Mkg.d):=I2
 rw[hl,l1,bu]at I2
 have h22:=S2 _ _ h2
 refine⟨_,S2 _ _ hb,fc (eY (j:=2) rfl) ⟨p2,rfl,⟨_,SqL.of h22⟩,fun d2 hd2=>?_⟩⟩
 refine kC uv.length (by lia) (fun zs H=>Ims H zs (((D.uss.take zs.length).map (rnU (mv b))).map Us.d)) (fun _ _ _ h k=>h.mono k) hd2 rfl (fun k H S hk=>pq h22 S hk) (fun H S=>pA h22 S) .nil ?_ ?_
 ·rintro k H3 v H4 ys Z S3 hk ⟨rfl,hv⟩ I3 hl3 z
  have S23:=S2.trans S3
  obtain⟨dm,e1,j1⟩:=Ims.atK i2 (hv _ (SqL.of (S23 _ _ h2)))
  rw[aK]at e1
  obtain⟨u,hm,rfl⟩:=cF.mp e1
  obtain⟨o1,o2,o3⟩:=Hn (gu u (aN hm))
  obtain⟨t,es,rfl,et,jf⟩:=Cc (j1.mono (fE.tk S23))
  have le:=jf.length
  refine⟨_,et,fc (eY (j:=0) rfl) ⟨_,et,fc (eY (j:=1) rfl) ⟨_,et,fc (eY (j:=2) rfl) ⟨_,et,fc (eY (j:=3) rfl) ⟨Ai,fun t2 ht2=>?_⟩⟩⟩⟩⟩
  have S4:=eW ht2 (.tup [.str (uT u).1,.int (uA u+b),.int (uT u).2.1,.int (uT u).2.2.1])
  have key:∀p H5,fE H4 H5->H5 t2=some (.tup [.str (uT u).1,.int (uA u+b),.int (uT u).2.1,.int (uT u).2.2.1])->H5 p=some (.tup es)->wU 8 [.ref p,.int b] H5 (fun y H6=>AI K (.ref t2) y H6 Z) E0:=by
   intro p H5 S5 e2 ep
   refine⟨_,.tup (uT u).2.2.2,b,rfl,.tup ep (jf.mono (fE.tk S5)),by show fZ _+ 1<=7;lia,⟨by lia,o2⟩,fun y H6 S6 j6=>?_⟩
   rw[rnD]at j6
   cases j6 with
   |@tup c ws _ ec jc=>
    have lc:=jc.length
    rw[tH]at lc
    refine p4 (S6 _ _ e2) ec (by show 4+ws.length<=_;lia) fun t3 H7 S7 e7=>z _ _ (S5.trans (S6.trans S7)) ?_
    show Ims _ (ys++[V.ref t3]) (((D.uss.take (ys++[V.ref t3]).length).map (rnU (mv b))).map Us.d)
    rw[aO,aV,jn (by rw[hl3];exact hm),br,br]
    refine(Ims.mono (fE.tk (S5.trans (S6.trans S7))) I3).app (.cons ?_ .nil)
    rw[Hk,Hl,Hi]
    exact .tup e7 (Ims.app (.cons (wO _) (.cons (jU _) (.cons (jU _) (.cons (jU _) .nil)))) (jc.mono (fE.tk S7)))
  refine⟨_,rfl,t,_,rfl,SqT.of (S4 _ _ et),fun hc=>?_,fun p hp=>?_⟩
  ·rw[FE]at hc
   exact absurd (congrArg List.length hc) (by simp only[az];lia)
  ·rw[FE]
   exact key p _ (S4.trans (eW hp _)) (eW hp _ _ _ eS) eS
 rintro H3 ys S3 I3 hl3 eD2
 have I3:Ims H3 ys (((D.uss.take ys.length).map (rnU (mv b))).map Us.d):=I3
 rw[hl3,l2,bu]at I3
 have S23:=S2.trans S3
 have h33:=S23 _ _ h3
 refine⟨_,S23 _ _ hb,fc (eY (j:=0) rfl) ⟨_,S23 _ _ hb,fc (eY (j:=3) rfl) ⟨p3,rfl,⟨_,SqL.of h33⟩,fun d3 hd3=>?_⟩⟩⟩
 refine kC fv.length (by lia) (fun zs H=>Ims H zs (((D.fls.take zs.length).map (rnF (mv b))).map flD)) (fun _ _ _ h k=>h.mono k) hd3 rfl (fun k H S hk=>pq h33 S hk) (fun H S=>pA h33 S) .nil ?_ ?_
 ·rintro k H4 v H5 ws Z S4 hk ⟨rfl,hv⟩ I4 hl4 z
  have S24:=S23.trans S4
  obtain⟨dm,e1,j1⟩:=Ims.atK i3 (hv _ (SqL.of (S24 _ _ h3)))
  rw[aK]at e1
  obtain⟨x,hm,rfl⟩:=cF.mp e1
  refine⟨v,flD x,b,rfl,j1.mono (fE.tk S24),by simp[flD,iE,fZ],⟨by show 2<=100000;decide,trivial,trivial,trivial⟩,fun y H6 S6 j6=>z _ _ S6 ?_⟩
  show Ims _ (ws++[y]) (((D.fls.take (ws++[y]).length).map (rnF (mv b))).map flD)
  rw[aO,aV,jn (by rw[hl4];exact hm),br,br]
  rw[Ho]at j6
  exact(Ims.mono (fE.tk S6) I4).app (.cons j6 .nil)
 rintro H4 ws S4 I4 hl4 eD3
 have I4:Ims H4 ws (((D.fls.take ws.length).map (rnF (mv b))).map flD):=I4
 rw[hl4,l3,bu]at I4
 refine⟨Ai,fun l hl=>q _ _ ((S23.trans S4).trans (eW hl _)) ?_⟩
 have S5:=eW hl (.lst [.ref p0,.ref d1,.ref d2,.ref d3])
 exact⟨l,p0,d1,d2,d3,zs,ys,ws,rfl,eS,((S23.trans S4).trans S5) _ _ h0,(S3.trans (S4.trans S5)) _ _ eD,I2.mono (fE.tk (S3.trans (S4.trans S5))),(S4.trans S5) _ _ eD2,I3.mono (fE.tk (S4.trans S5)),S5 _ _ eD3,I4.mono (fE.tk S5)⟩
theorem Af {K:PySem.W.Frag} {a D:Addr} {i:Nat} {tt:TT} {te:TE} {Q:VK} {τ:St} {H1:Hp} {α:Type} (f g:α->Dt) (P:α->Bool) {l:List α} {xs:List V} (hx:H1 a=some (.lst xs)) (ix:Ims H1 xs (l.map f)) (hn:l.length<=900) (hD:H1 D=none) (hτ:τ.set i none=τ) (htt:∀v m H (R:Bool->Hp->Prop),Im H v (f m)->R (P m) H->tt (τ.set i (some v)) H R) (hte:∀v m H (R:VK),Im H v (f m)->(∀y H',fE H H'->Im H' y (g m)->R y H')->te (τ.set i (some v)) H R) (hq:∀H' zs,fE H1 H'->H' D=some (.lst zs)->Ims H' zs ((l.filter P).map g)->Q (.ref D) H'):LcP (Itl K a) i tt te Q τ H1 D:=by
 have sl:=sizeLine_eq
 have lx:=ix.length
 rw[aC]at lx
 have up:∀{H:Hp} (o:HO),fE H1 H->fE H1 (L2.Internal.upd H D o):=fun{H} o S b u e=>by rw[eX (fe e hD)];exact S b u e
 refine⟨fun k m σ' H2=>Y5 (m=xs.length-k) (k<=xs.length) ((∃o,σ'=τ.set i o)) (fE H1 H2) (∃zs,Y3 (H2 D=some (.lst zs)) (zs.length<=k) (Ims H2 zs (((l.take k).filter P).map g))),⟨xs.length,by simp,cb _,⟨none,hτ.symm⟩,eW hD _,[],eS,b9 _,.nil⟩,?_⟩
 rintro k m σ' H2 ⟨rfl,hk,⟨o,rfl⟩,S,zs,e,lz,iz⟩
 by_cases hlt:k<xs.length
 ·refine .inr ⟨pq hx S hlt,fun v H3 y=>?_⟩
  obtain⟨rfl,hv⟩:=y
  have hv:=hv _ (SqL.of (S _ _ hx))
  rw[bq]
  obtain⟨d,e1,j1⟩:=Ims.atK ix hv
  rw[aK]at e1
  obtain⟨m,hm,rfl⟩:=cF.mp e1
  have j2:=j1.mono (fE.tk S)
  refine htt v m _ _ j2 ?_
  have tk:(l.take (k+ 1)).filter P=(l.take k).filter P++(if P m then[m]else[]):=by
   rw[jn hm,bP]
   cases hp:P m<;>simp[hp]
  cases hp:P m with
  |true=>
   rw[f6 rfl]
   refine hte v m _ _ j2 fun y H5 S5 j5=>?_
   have e5:=S5 _ _ e
   have tkk:TK H5 (L2.Internal.upd H5 D (.lst (zs++[y]))):=fun b ys q=>by rw[eX (jw q e5 (fun z=>nomatch z))];exact q
   refine⟨zs,e5,by lia,xs.length-(k+ 1),by lia,rfl,hlt,⟨some v,rfl⟩,up _ (S.trans S5),zs++[y],eS,by rw[aO,aV];lia,?_⟩
   rw[tk,hp,f6 rfl,br]
   exact((iz.mono (fE.tk S5)).mono tkk).app (.cons (j5.mono tkk) .nil)
  |false=>
   rw[fO dU]
   refine⟨xs.length-(k+ 1),by lia,rfl,hlt,⟨some v,rfl⟩,S,zs,e,by lia,?_⟩
   rw[tk,hp,fO dU,aD]
   exact iz
 ·have e':k=l.length:=by lia
  rw[e',bu]at iz
  rw[show k=xs.length by lia]
  exact .inl ⟨pA hx S,hq _ zs S e iz⟩
theorem uU {K:PySem.W.Frag} {a D:Addr} {i:Nat} {tt:TT} {te:TE} {Q:VK} {τ:St} {H1:Hp} {α:Type} (f:α->Dt) (P:α->Bool) {l:List α} {xs:List V} (hx:H1 a=some (.lst xs)) (ix:Ims H1 xs (l.map f)) (hn:l.length<=900) (hD:H1 D=none) (hτ:τ.set i none=τ) (htt:∀v m H (R:Bool->Hp->Prop),Im H v (f m)->R (P m) H->tt (τ.set i (some v)) H R) (hte:∀v H (R:VK),R v H->te (τ.set i (some v)) H R) (hq:∀H' zs,fE H1 H'->H' D=some (.lst zs)->Ims H' zs ((l.filter P).map f)->Q (.ref D) H'):LcP (Itl K a) i tt te Q τ H1 D:=
 Af f f P hx ix hn hD hτ htt (fun v m H R j r=>hte v H R (r v H (fun _ _ e=>e) j)) hq
theorem chT {t:Addr} {xs:List V} {k x lo hi:Int} {H:Hp} {Q:VK} (et:H t=some (.tup xs)) (ha:atI xs k=some (.int x)) (q:Q (.bl (inb lo hi x)) H):yl (cI0 fun i j=>V.bl (decide (i<=j))) (cI0 fun i j=>V.bl (decide (i<j))) (cV 1) (tOp CQ (cV 0) (tC (V.int k))) (cV 2) [some (.ref t),some (.int lo),some (.int hi)] H Q:=by
 refine⟨xs,et,fc ha ⟨_,rfl,?_⟩⟩
 unfold inb at q
 cases h:decide (lo<=x)with
 |false=>rw[h]at q;exact q
 |true=>rw[h]at q;exact q
theorem Bh (l1 l l2:List Int) {lo hi:Int} (h1:(l1.length:Int)=lo) (h2:hi=lo+l.length):rh ((l1++(l++l2)).map V.int) (some lo) (some hi)=l.map V.int:=by
 subst h1 h2
 unfold rh
 have e1:HT.Internal.sIx ((l1++(l++l2)).map V.int).length 0 (some (l1.length:Int))=l1.length:=by
  simp[HT.Internal.sIx]
  lia
 have e2:HT.Internal.sIx ((l1++(l++l2)).map V.int).length ((l1++(l++l2)).map V.int).length (some ((l1.length:Int)+l.length))=l1.length+l.length:=by
  simp[HT.Internal.sIx]
  split<;>lia
 rw[e1,e2,br,List.drop_append_of_le_length (by rw[aC];exact b9 _),List.drop_eq_nil_of_le (by rw[aC];exact b9 _),bz,br,Nat.add_sub_cancel_left,bO (by rw[aC];exact b9 _),bH (by rw[aC];exact b9 _)]
def wiB (D:Bd) (pts:List Int) (lo hi:Int):Bd:=⟨pts,D.mks.filter (fun m=>inb lo hi m.a),D.uss.filter (fun u=>inb lo hi (uA u)),D.fls.filter (fun x=>inb lo hi x.1&&inb lo hi x.2),0⟩
def Ag:Sp:=fun vs H Q _=>X7 fun(x:V) (D:Bd) (lo hi:Int) (l1 l l2:List Int)=>Y7 (vs=[x,.int lo,.int hi]) (Tw H x D) (szB D 900) (D.pts=l1++(l++l2)) ((l1.length:Int)=lo) (hi=lo+l.length) (∀y H',fE H H'->Tw H' y (wiB D l lo hi)->Q y H')
theorem rM (T:Txt K mg):FO P w base 1 T.d49 Ag:=by
 refine T.d49.F.rd jv fun cdv A0 outer s H vs Q E hr h=>?_
 obtain⟨x,D,lo,hi,k1,k,k2,rfl,⟨a,p0,p1,p2,p3,mv',uv,fv,rfl,hb,h0,h1,i1,h2,i2,h3,i3⟩,⟨z0,z1,z2,z3⟩,ep,e1,e2,q⟩:=h
 refine⟨_,(eU (jq (j:=3) rfl (uY (x:="_law_one") ["_law_low","_law_high"] [("_law_low",1,s.heap.objs.size+ 1),("_law_high",2,s.heap.objs.size+ 2)]) (gX (fh fg (cv 0) eV)) (fun _ _ _ _ _=>(oB (mw sI lG (cv 1) (fh fm (cv 0) eV) (cv 2)))) (fun _ _ _ _ _=>(cv 0)) jv.nd rfl (.inl rfl))
  (eU (jq (j:=4) rfl (uY (x:="_law_one") ["_law_low","_law_high"] [("_law_low",1,s.heap.objs.size+ 1),("_law_high",2,s.heap.objs.size+ 2)]) (gX (fh fg (cv 0) eV)) (fun _ _ _ _ _=>(oB (mw sI lG (cv 1) (fh fm (cv 0) eV) (cv 2)))) (fun _ _ _ _ _=>(cv 0)) jv.nd rfl (.inl rfl))
  (eU (jq (j:=5) rfl (uY (x:="_law_one") ["_law_low","_law_high"] [("_law_low",1,s.heap.objs.size+ 1),("_law_high",2,s.heap.objs.size+ 2)]) (gX (fh fg (cv 0) eV)) (fun _ _ _ _ _=>(oB (PW.pt (p9 (mw sI lG (cv 1) (fh fm (cv 0) eV) (cv 2)) (ou (mw sI lG (cv 1) (fh fm (cv 0) eV) (cv 2))))))) (fun _ _ _ _ _=>(cv 0)) jv.nd rfl (.inl rfl))
  (eZ (fz (fH (eR (kH sA (fh fg (cv 0) eV) (lN (cv 1)) (lN (cv 2))) (eR (cv 3) (eR (cv 4) (eR (cv 5) eT)))))))))),?_⟩
 refine⟨_,hb,fc (eY (j:=1) rfl) ⟨p1,rfl,⟨_,SqL.of h1⟩,fun d1 hd1=>?_⟩⟩
 refine uU Mkg.d (fun m=>inb lo hi m.a) h1 i1 z1 hd1 rfl ?_ (fun v H R r=>r) ?_
 ·intro v m H2 R j r
  obtain⟨t,f,rfl,et,jf⟩:=Cb j
  exact chT (lo:=lo) (hi:=hi) et (eY (j:=2) rfl) ⟨_,rfl,r⟩
 intro H2 zs S2 eD I2
 have h22:=S2 _ _ h2
 refine⟨_,S2 _ _ hb,fc (eY (j:=2) rfl) ⟨p2,rfl,⟨_,SqL.of h22⟩,fun d2 hd2=>?_⟩⟩
 refine uU Us.d (fun u=>inb lo hi (uA u)) h22 (i2.mono (fE.tk S2)) z2 hd2 rfl ?_ (fun v H R r=>r) ?_
 ·intro v u H3 R j r
  obtain⟨t,ys,rfl,et,jf⟩:=Cc j
  exact chT (lo:=lo) (hi:=hi) et (eY (j:=1) rfl) ⟨_,rfl,r⟩
 intro H3 ys S3 eD2 I3
 have S23:=S2.trans S3
 have h33:=S23 _ _ h3
 refine⟨_,S23 _ _ hb,fc (eY (j:=3) rfl) ⟨p3,rfl,⟨_,SqL.of h33⟩,fun d3 hd3=>?_⟩⟩
 refine uU flD (fun x=>inb lo hi x.1&&inb lo hi x.2) h33 (i3.mono (fE.tk S23)) z3 hd3 rfl ?_ (fun v H R r=>r) ?_
 ·intro v x H4 R j r
  obtain⟨t,rfl,et⟩:=uS j
  refine chT (lo:=lo) (hi:=hi) (x:=x.1) et (eY (j:=0) rfl) ⟨_,rfl,?_⟩
  cases e:inb lo hi x.1 with
  |false=>rw[e]at r;exact r
  |true=>
   rw[e,Bool.true_and]at r
   exact chT (lo:=lo) (hi:=hi) (x:=x.2) et (eY (j:=1) rfl) ⟨_,rfl,r⟩
 intro H4 ws S4 eD3 I4
 have S24:=S23.trans S4
 refine⟨_,S24 _ _ hb,fc (eY (j:=0) rfl) ⟨_,rfl,_,rfl,p0,_,rfl,SqL.of (S24 _ _ h0),fun d0 hd0=>?_⟩⟩
 have S5:=eW hd0 (.lst (rh (D.pts.map V.int) (some lo) (some hi)))
 refine⟨Ai,fun l hl=>q _ _ (S24.trans (S5.trans (eW hl _))) ?_⟩
 have S6:=eW hl (.lst [.ref d0,.ref d1,.ref d2,.ref d3])
 have S56:=S5.trans S6
 exact⟨l,d0,d1,d2,d3,zs,ys,ws,rfl,eS,S6 _ _ (by rw[eS,ep,Bh k1 k k2 e1 e2];rfl),(S3.trans (S4.trans S56)) _ _ eD,I2.mono (fE.tk (S3.trans (S4.trans S56))),(S4.trans S56) _ _ eD2,I3.mono (fE.tk (S4.trans S56)),S56 _ _ eD3,I4.mono (fE.tk S56)⟩
def vI:Sp:=fun vs H Q _=>X4 fun(x:V) (D:Bd) (lo hi:Int)=>Y4 (vs=[x,.int lo,.int hi]) (Tw H x D) (szB D 900) (∀a zs H',fE H H'->H' a=some (.lst zs)->Ims H' zs ((D.fls.filter (fun x=>inb lo hi x.1 !=inb lo hi x.2)).map flD)->Q (.ref a) H')
theorem jA (T:Txt K mg):FO P w base 1 T.d50 vI:=by
 refine T.d50.F.rd pO fun cdv A0 outer s H vs Q E hr h=>?_
 obtain⟨x,D,lo,hi,rfl,⟨a,p0,p1,p2,p3,mv',uv,fv,rfl,hb,h0,h1,i1,h2,i2,h3,i3⟩,⟨z0,z1,z2,z3⟩,q⟩:=h
 refine⟨_,(eZ (fz (qk rfl (uY (x:="_law_one") ["_law_low","_law_high"] [("_law_low",1,s.heap.objs.size+ 1),("_law_high",2,s.heap.objs.size+ 2)]) (gX (fh fg (cv 0) eV)) (fun _ _ _ _ _=>(oB (oz Cn (vU sI lG (cv 1) (fh fm (cv 0) eV) (cv 2)) (vU sI lG (cv 1) (fh fm (cv 0) eV) (cv 2))))) (fun _ _ _ _ _=>(cv 0))))),?_⟩
 refine⟨_,hb,fc (eY (j:=3) rfl) ⟨p3,rfl,⟨_,SqL.of h3⟩,fun d1 hd1=>?_⟩⟩
 refine uU flD (fun x=>inb lo hi x.1 !=inb lo hi x.2) h3 i3 z3 hd1 rfl ?_ (fun v H R r=>r) ?_
 ·intro v x H2 R j r
  obtain⟨t,rfl,et⟩:=uS j
  refine chT (lo:=lo) (hi:=hi) (x:=x.1) et (eY (j:=0) rfl) (chT (lo:=lo) (hi:=hi) (x:=x.2) et (eY (j:=1) rfl) ⟨rfl,_,rfl,?_⟩)
  have e:(!decide (V.bl (inb lo hi x.1)=V.bl (inb lo hi x.2)))=(inb lo hi x.1 !=inb lo hi x.2):=by
   cases inb lo hi x.1<;>cases inb lo hi x.2<;>decide
  rw[e]
  exact r
 intro H2 zs S2 eD I2
 exact q _ _ _ S2 eD I2
open TM.Internal (Kn Tr gF szs)
theorem p6 {f:Str} {v:V}:∀{fs:List (Str×V)} (ns:List Str),fs.map Prod.fst=ns->f∉ns->ji f v fs=fs++[(f,v)]
 |[],_,_,_=>rfl
 |p::t,_,rfl,h=>by
  rw[aB,ak,not_or]at h
  have:¬p.1=f:=fun z=>h.1 z.symm
  simp only[ji,fO this,aS]
  rw[p6 _ rfl h.2]
def nP (C:Addr):Sp:=fun vs H Q _=>∃(x dx n r w:Addr),vs=[.ref x,.ref n,.ref r,.ref w]/\H x=some (.ins C dx [])/\Q .non (L2.Internal.upd H x (.ins C dx (fP n r w)))
theorem nQ (T:Txt K mg):MO P w base mg 1 T.e75 (nP T.c10.a):=by
 refine T.e75.F.rd nH fun cdv A outer s H vs Q E hr h=>?_
 obtain⟨x,dx,n,r,w,rfl,hx,q⟩:=h
 refine⟨_,(eU (kI T.c10.cl T.n10names (gK (PE.mono (cv 0)) (PE.mono (cv 1)) rfl))
  (eU (kI T.c10.cl T.n10roots (gK (PE.mono (cv 0)) (PE.mono (cv 2)) rfl))
  (eZ (kI T.c10.cl T.n10rows (gK (PE.mono (cv 0)) (PE.mono (cv 3)) rfl))))),?_⟩
 refine⟨dx,_,hx,(by show 0<1000;decide),dx,_,eS,(by show 1<1000;decide),dx,_,eS,?_,?_⟩
 ·rw[p6 (f:=("roots":Str)) ["names"] rfl fW];show 2<1000;decide
 ·rw[gv,gv,p6 (f:=("roots":Str)) ["names"] rfl fW,p6 (f:=("rows":Str)) ["names","roots"] rfl fW]
  exact q
theorem FF {κ:Kn} {n:Nat} {N:Str->Prop} {ps:List Nat} (ok:okK κ n N) (hp:ps.length=n):(roK κ ps).few:=by
 cases κ with
 |rcd l=>
  obtain⟨h1,h2⟩:n=l.length/\l.length<=10:=ok
  show(bg _ (l.zip ps)).length<=10
  rw[aC,bG]
  lia
 |case l=>
  cases ps with
  |nil=>trivial
  |cons p ps=>
   obtain⟨h1,h2⟩:n=l.length+ 1/\l.length<=10:=ok
   show(bg _ (l.zip ps)).length<=10
   rw[aC,bG]
   lia
 |row m=>
  obtain⟨h1,h2⟩:n=m/\m<=1000:=ok
  show(bg _ ps).length<=1000
  rw[aC]
  lia
 |lt w=>
  cases ps with
  |nil=>trivial
  |cons p ps=>cases ps<;>trivial
 |num=>trivial
 |name=>trivial
 |op=>trivial
 |_=>cases ps<;>trivial
section
variable {G:List Pc} {roots:List Nat} {q:Nat}
theorem FtD.few (F:FtD G roots 0 0 q) (hq:q=G.length) (k:Nat) (ρ:Ro) (h:(G.map Pc.ρ)[k]?=some ρ):ρ.few:=by
 rw[aK]at h
 obtain⟨c,hc,rfl⟩:=cF.mp h
 obtain⟨f,_⟩:=F.at hq hc
 obtain⟨⟨κ,ks⟩,pl,_,_,ok⟩:=f.t
 have p1:=pl.1
 rw[hc]at p1
 rw[cC.inj p1]
 exact FF ok.1 (TM.Internal.offs_len _ _)
theorem FtD.dom (F:FtD G roots 0 0 q) (hq:q=G.length) (k:Nat) (h:Hm) (e:hoG G k=some h) (hd:h.1="def"):∃d:Nat,h.2=(d:Int)/\d<roots.length:=by
 obtain⟨c,x,gc,hx,rfl,s,l,⟨r,hr,_⟩,_⟩:=F.en hq e
 rcases s with⟨z,_⟩|⟨_,j,ej,lj,_⟩|⟨z,_⟩
 ·exact absurd hd (ltn z).1
 ·exact⟨j,ej,by have:=(ar.mp hr).1;lia⟩
 ·rcases z with z|z
  ·exact absurd z (dfn hd).2.1
  ·exact absurd z (dfn hd).2.2
theorem FG {ts:List Tr} (er:roots=gF ts 0) (F:FtD G roots 0 0 q) (hq:q=G.length) {d r:Nat} {c:Pc} (hd:roots[d]?=some r) (hc:G[r]?=some c) (hw:c.wt<=50):∃s',uZ (iL (G.map Pc.ρ) roots (hoG G) 50) roots (d:Int) s00=some (0,s')/\nS s'<=600:=by
 have hz:atZ roots (d:Int)=some r:=hd
 obtain⟨_,c',gc,ec,nb⟩:=F.r d r (cb _) hd
 rw[hc]at gc
 cases gc
 obtain⟨u,s1,h1,n1,_⟩:=BV er F hq 50 r c ((s00.pt r).begin d s00.n) hc hw ⟨fun b hb=>absurd hb (nb b),s00.n,by rw[ec];exact f6 rfl⟩
 refine⟨s1.fl u 0,?_,?_⟩
 ·unfold uZ
  rw[hz]
  dsimp only
  rw[h1]
  rfl
 ·rw[vz]
  have n1:nS s1+ 2<=nS ((s00.pt r).begin d s00.n)+ 10*c.wt:=n1
  rw[E5,pe]at n1
  have e0:nS s00=0:=rfl
  lia
end
theorem Hq {G:List Pc} (p:Int) (ρ:Ro) (h:atZ (G.map Pc.ρ) p=some ρ) (nn:∀w,ρ≠ .name w):hoG G p.toNat=none:=by
 obtain⟨k,rfl,h'⟩:=fV h
 rw[aK]at h'
 obtain⟨c,hc,rfl⟩:=cF.mp h'
 show(G[k]?).bind hoC=none
 rw[hc]
 show hoC c=none
 unfold hoC
 split
 ·rename_i w hw;exact absurd hw (nn w)
 ·rfl
theorem DT {κ:Kn} {n:Nat} {N:Str->Prop} {ps:List Nat} (ok:okK κ n N) (hp:ps.length=n):iE (roK κ ps).d<=3/\okD (roK κ ps).d:=by
 have k1:∀l:List Int,fZ (l.map kD)<=0/\ud (l.map kD):=fun l=>⟨iS fun _ _=>b9 _,jr fun _ _=>trivial⟩
 cases κ with
 |rcd l=>
  obtain⟨h1,h2⟩:n=l.length/\l.length<=10:=ok
  have a:fZ (((l.zip ps).map fun q=>(q.1,(q.2:Int))).map fdD)<=1:=iS fun _ _=>by simp[fdD,sD,kD,iE,fZ]
  have b:ud (((l.zip ps).map fun q=>(q.1,(q.2:Int))).map fdD):=jr fun _ _=>⟨by show 2<=100000;decide,trivial,trivial,trivial⟩
  refine⟨?_,by show 2<=100000;decide,trivial,⟨by rw[aC,aC,bG];lia,b⟩,trivial⟩
  show max 0 (max (fZ (((l.zip ps).map fun q=>(q.1,(q.2:Int))).map fdD)+ 1) 0)+ 1<=3
  lia
 |case l=>
  cases ps with
  |nil=>exact⟨by simp[roK,Ro.d,Ro.s,Ro.r,sD,kD,iE,fZ],by show 2<=100000;decide,trivial,trivial,trivial⟩
  |cons p ps=>
   obtain⟨h1,h2⟩:n=l.length+ 1/\l.length<=10:=ok
   have a:fZ (((l.zip ps).map fun q=>(q.1.1,q.1.2,(q.2:Int))).map amD)<=1:=iS fun _ _=>by simp[amD,sD,kD,iE,fZ]
   have b:ud (((l.zip ps).map fun q=>(q.1.1,q.1.2,(q.2:Int))).map amD):=jr fun _ _=>⟨by show 3<=100000;decide,trivial,trivial,trivial,trivial⟩
   refine⟨?_,by show 3<=100000;decide,trivial,trivial,⟨by rw[aC,aC,bG];lia,b⟩,trivial⟩
   show max 0 (max 0 (max (fZ (((l.zip ps).map fun q=>(q.1.1,q.1.2,(q.2:Int))).map amD)+ 1) 0))+ 1<=3
   lia
 |row m=>
  obtain⟨h1,h2⟩:n=m/\m<=1000:=ok
  obtain⟨a,b⟩:=k1 (ps.map fun p:Nat=>(p:Int))
  refine⟨?_,by show 2<=100000;decide,trivial,⟨by rw[aC,aC];lia,b⟩,trivial⟩
  show max 0 (max (fZ ((ps.map fun p:Nat=>(p:Int)).map kD)+ 1) 0)+ 1<=3
  lia
 |op s m=>
  obtain⟨h1,h2⟩:n=m/\(s,m)∈TM.Internal.ops:=ok
  have h3:m<=3:=by
   have:∀x∈TM.Internal.ops,x.2<=3:=fW
   exact this _ h2
  obtain⟨a,b⟩:=k1 (ps.map fun p:Nat=>(p:Int))
  refine⟨?_,by show((ps.map fun p:Nat=>(p:Int)).map kD).length+ 1<=100000;rw[aC,aC];lia,trivial,b⟩
  show max 0 (fZ ((ps.map fun p:Nat=>(p:Int)).map kD))+ 1<=3
  lia
 |num=>exact⟨by simp[roK,Ro.d,Ro.s,Ro.r,sD,kD,iE,fZ],by show 2<=100000;decide,trivial,trivial,trivial⟩
 |name=>exact⟨by simp[roK,Ro.d,Ro.s,Ro.r,sD,kD,iE,fZ],by show 2<=100000;decide,trivial,trivial,trivial⟩
 |lt w=>
  rcases ps with _|⟨p,_|⟨p',ps⟩⟩
  ·exact⟨by simp[roK,Ro.d,Ro.s,Ro.r,sD,kD,iE,fZ],by show 2<=100000;decide,trivial,trivial,trivial⟩
  ·exact⟨by simp[roK,Ro.d,Ro.s,Ro.r,sD,kD,iE,fZ],by show 2<=100000;decide,trivial,trivial,trivial⟩
  ·exact⟨by simp[roK,Ro.d,Ro.s,Ro.r,sD,kD,iE,fZ],by show 4<=100000;decide,trivial,trivial,trivial,trivial,trivial⟩
 |_=>
  cases ps with
  |nil=>exact⟨by simp[roK,Ro.d,Ro.s,Ro.r,sD,kD,iE,fZ],by show 2<=100000;decide,trivial,trivial,trivial⟩
  |cons p ps=>exact⟨by simp[roK,Ro.d,Ro.s,Ro.r,sD,kD,iE,fZ],by show 3<=100000;decide,trivial,trivial,trivial,trivial⟩
theorem FtD.good {G:List Pc} {roots:List Nat} {q:Nat} (F:FtD G roots 0 0 q) (hq:q=G.length) (k:Nat) (ρ:Ro) (h:(G.map Pc.ρ)[k]?=some ρ):iE ρ.d<=3/\okD ρ.d:=by
 rw[aK]at h
 obtain⟨c,hc,rfl⟩:=cF.mp h
 obtain⟨f,_⟩:=F.at hq hc
 obtain⟨⟨κ,ks⟩,pl,_,_,ok⟩:=f.t
 have p1:=pl.1
 rw[hc]at p1
 rw[cC.inj p1]
 exact DT ok.1 (TM.Internal.offs_len _ _)
theorem uV {c:TT} {tb u:TS} {D:pj} {σ:St} {H:Hp} (N:St->Hp->Prop) (k:∀σ' H',N σ' H'->u D σ' H') (w:∀Nx:St->Hp->Prop,(∀σ' H',N σ' H'->Nx σ' H')->tO c tb {D with nx:=Nx} σ H):yd (tO c tb) u D σ H:=w _ k
theorem nR {α:Type} {l:List α} {P:α->Bool} {n:Nat} (h:l.length<=n):(l.filter P).length<=n:=bZ (List.length_filter_le _ _) h
def enB (D:Bd) (lo hi:Int):List (Int×Int):=((D.fls.filter (fun x=>inb lo hi x.1 !=inb lo hi x.2)).filter (fun x=>inb lo hi x.2)).map (fun x=>(x.1,x.2-lo))
def leB (D:Bd) (lo hi:Int):List (Int×Int):=(D.fls.filter (fun x=>inb lo hi x.1 !=inb lo hi x.2)).filter (fun x=>inb lo hi x.1)
def vJ:Sp:=fun vs H Q _=>X4 fun(x:V) (D:Bd) (lo hi:Int)=>Y4 (vs=[x,.int lo,.int hi]) (Tw H x D) (szB D 900) (∀y H',fE H H'->Dta H' y (.lst ((enB D lo hi).map flD))->Q y H')
theorem pU (T:Txt K mg):FO P w base 2 T.d51 vJ:=by
 have gD50:=jA (P:=P) (w:=w) (base:=base) T
 refine T.d51.F.rd lE fun cdv A0 outer s H vs Q E hr h=>?_
 obtain⟨x,D,lo,hi,rfl,tw,zb,q⟩:=h
 refine⟨_,(eU (pS (i:=3) lE.nd (pF T.d50 gD50 hr.m (eR (cv 0) (eR (cv 1) (eR (cv 2) eT)))))
  (eZ (fz (qk rfl (uY (x:="_law_one") ["_law_low","_law_high"] [("_law_low",1,s.heap.objs.size+ 1),("_law_high",2,s.heap.objs.size+ 2)]) (gX (cv 3)) (fun _ _ _ _ _=>(oB (mw sI lG (cv 1) (fh fm (cv 0) eV) (cv 2)))) (fun _ _ _ _ _=>(fC (eR (fh fm (cv 0) eV) (eR (fq lQ (fh fm (cv 0) eV) (cv 1)) eT)))))))),?_⟩
 refine⟨x,D,lo,hi,rfl,tw,zb,fun a zs H1 S1 ea ia=>?_⟩
 refine⟨a,rfl,⟨_,SqL.of ea⟩,fun d1 hd1=>?_⟩
 refine Af flD (fun x=>flD (x.1,x.2-lo)) (fun x=>inb lo hi x.2) ea ia (nR zb.4) hd1 rfl ?_ ?_ ?_
 ·intro v x H2 R j r
  obtain⟨t,rfl,et⟩:=uS j
  exact chT (lo:=lo) (hi:=hi) (x:=x.2) et (eY (j:=1) rfl) ⟨_,rfl,r⟩
 ·intro v x H2 R j r
  obtain⟨t,rfl,et⟩:=uS j
  exact⟨_,et,fc (eY (j:=0) rfl) ⟨_,et,fc (eY (j:=1) rfl) ⟨lI,fun t2 ht2=>r _ _ (eW ht2 _) (ig ht2 (.cons (jU _) (.cons (jU _) .nil)))⟩⟩⟩
 ·intro H2 zs S2 eD I2
  refine q _ _ (S1.trans S2) (.lst eD ?_)
  unfold enB
  rw[bf]
  exact I2.das
def xU:Sp:=fun vs H Q _=>X4 fun(x:V) (D:Bd) (lo hi:Int)=>Y4 (vs=[x,.int lo,.int hi]) (Tw H x D) (szB D 900) (∀a zs H',fE H H'->H' a=some (.lst zs)->Ims H' zs ((leB D lo hi).map flD)->Q (.ref a) H')
theorem qY (T:Txt K mg):FO P w base 2 T.d52 xU:=by
 have gD50:=jA (P:=P) (w:=w) (base:=base) T
 refine T.d52.F.rd qE fun cdv A0 outer s H vs Q E hr h=>?_
 obtain⟨x,D,lo,hi,rfl,tw,zb,q⟩:=h
 refine⟨_,(eZ (fz (qk rfl (uY (x:="_law_one") ["_law_low","_law_high"] [("_law_low",1,s.heap.objs.size+ 1),("_law_high",2,s.heap.objs.size+ 2)]) (gX (pF T.d50 gD50 hr.m (eR (cv 0) (eR (cv 1) (eR (cv 2) eT))))) (fun _ _ _ _ _=>(oB (mw sI lG (cv 1) (fh fm (cv 0) eV) (cv 2)))) (fun _ _ _ _ _=>(cv 0))))),?_⟩
 refine⟨x,D,lo,hi,rfl,tw,zb,fun a zs H1 S1 ea ia=>?_⟩
 refine⟨a,rfl,⟨_,SqL.of ea⟩,fun d1 hd1=>?_⟩
 refine uU flD (fun x=>inb lo hi x.1) ea ia (nR zb.4) hd1 rfl ?_ (fun v H R r=>r) ?_
 ·intro v x H2 R j r
  obtain⟨t,rfl,et⟩:=uS j
  exact chT (lo:=lo) (hi:=hi) (x:=x.1) et (eY (j:=0) rfl) ⟨_,rfl,r⟩
 ·intro H2 zs S2 eD I2
  exact q _ _ _ (S1.trans S2) eD I2
def Bj:Sp:=fun vs H Q _=>X7 fun(a:Addr) (pts:List Int) (k at' en':Nat) (p p2:Int)=>Y10 (vs=[.ref a,.int k,.int p,.int p2]) (H a=some (.lst (pts.map V.int))) (at'<=k) (k<pts.length) (pts[at']?=some p) ((∀i:Nat,at'<i->i<=k->pts[i]?≠some p)) (at'<=en') (pts[en']?=some p2) ((∀i:Nat,at'<=i->i<en'->pts[i]?≠some p2)) (∀l H',fE H H'->H' l=some (.lst [.int ((at':Int)+ 1),.int en'])->Q (.ref l) H')
theorem tJ (T:Txt K mg):FO P w base 1 T.d53 Bj:=by
 refine T.d53.F.ok iZ (fun vs H Q E h=>?_) (fun cdv A0 outer s H vs Q E hr h=>?_)
 ·obtain⟨a,pts,k,at',en',p,p2,rfl,_⟩:=h
  rfl
 obtain⟨a,pts,k,at',en',p,p2,rfl,ha,l1,l2,e1,n1,l3,e2,n2,q⟩:=h
 refine⟨_,(eU (pS (i:=4) iZ.nd (cv 1))
  (eU (vR PassesOwn.never (fD CO (fh fg (cv 0) (cv 4)) (cv 2))
   (eZ (pS (i:=4) iZ.nd (fq lQ (cv 4) eV))))
  (eU (pS (i:=5) iZ.nd (cv 4))
  (eU (vR PassesOwn.never (fD CO (fh fg (cv 0) (cv 5)) (cv 3))
   (eZ (pS (i:=5) iZ.nd (fq gk (cv 5) eV))))
  (eZ (fz (fH (eR (fq gk (cv 4) eV) (eR (cv 5) eT))))))))),?_⟩
 have ix:∀i:Nat,i<pts.length->∃x,pts[i]?=some x/\(pts.map V.int)[i]?=some (.int x):=fun i hi=>⟨pts[i],bb hi,by rw[aK,bb hi];rfl⟩
 show yd (tO _ _) _ _ [some (.ref a),some (.int k),some (.int p),some (.int p2),some (.int k),none] H
 refine uV (fun σ H'=>σ=[some (.ref a),some (.int k),some (.int p),some (.int p2),some (.int at'),none]/\H'=H) ?_ ?_
 ·rintro σ H' ⟨rfl,rfl⟩
  show yd (tO _ _) _ _ [some (.ref a),some (.int k),some (.int p),some (.int p2),some (.int at'),some (.int at')] H'
  refine uV (fun σ H1=>σ=[some (.ref a),some (.int k),some (.int p),some (.int p2),some (.int at'),some (.int en')]/\H1=H') ?_ ?_
  ·rintro σ H1 ⟨rfl,rfl⟩
   exact⟨lI,fun l hl=>q _ _ (eW hl _) eS⟩
  ·intro Nx hNx
   refine⟨fun m σ H1=>∃i:Nat,Y5 (σ=[some (.ref a),some (.int k),some (.int p),some (.int p2),some (.int at'),some (.int i)]) (H1=H') (m=en'-i) (at'<=i) (i<=en'),⟨_,at',rfl,rfl,rfl,b9 _,l3⟩,?_⟩
   rintro m σ H1 ⟨i,rfl,rfl,rfl,i1,i2⟩
   have le:=(ar.mp e2).1
   obtain⟨x,x1,x2⟩:=ix i (by lia)
   refine⟨_,ha,fc (eY (j:=i) x2) ?_⟩
   show if xor true (decide (x=p2))=true then _ else _
   rw[d7]
   by_cases z:i=en'
   ·subst z
    rw[e2]at x1
    cases x1
    rw[gR rfl]
    exact jy (hNx _ _ ⟨rfl,rfl⟩)
   ·rw[gC (fun w=>n2 i i1 (by lia) (by rw[x1,w]))]
    refine jW ⟨fun σ' H2=>σ'=[some (.ref a),some (.int k),some (.int p),some (.int p2),some (.int at'),some (.int ((i:Int)+ 1))]/\H2=H1,?_,⟨rfl,rfl⟩⟩
    rintro σ' H2 ⟨rfl,rfl⟩
    exact⟨en'-(i+ 1),by lia,i+ 1,by rw[Int.natCast_add];rfl,rfl,rfl,by lia,by lia⟩
 ·intro Nx hNx
  refine⟨fun m σ H1=>∃i:Nat,Y5 (σ=[some (.ref a),some (.int k),some (.int p),some (.int p2),some (.int i),none]) (H1=H) (m=i-at') (at'<=i) (i<=k),⟨_,k,rfl,rfl,rfl,l1,b9 _⟩,?_⟩
  rintro m σ H1 ⟨i,rfl,rfl,rfl,i1,i2⟩
  obtain⟨x,x1,x2⟩:=ix i (by lia)
  refine⟨_,ha,fc (eY (j:=i) x2) ?_⟩
  show if xor true (decide (x=p))=true then _ else _
  rw[d7]
  by_cases z:i=at'
  ·subst z
   rw[e1]at x1
   cases x1
   rw[gR rfl]
   exact jy (hNx _ _ ⟨rfl,rfl⟩)
  ·rw[gC (fun w=>n1 i (by lia) i2 (by rw[x1,w]))]
   refine jW ⟨fun σ' H2=>σ'=[some (.ref a),some (.int k),some (.int p),some (.int p2),some (.int ((i:Int)-1)),none]/\H2=H1,?_,⟨rfl,rfl⟩⟩
   rintro σ' H2 ⟨rfl,rfl⟩
   exact⟨i-1-at',by lia,i-1,by rw[Int.natCast_sub (by lia)];rfl,rfl,rfl,by lia,by lia⟩
open TM.Internal (Kn Tr gF szs)
theorem FH {H:Hp} {xs:List V} {G:List Pc} (h:Ims H xs (G.map rD)):Ims H xs ((G.map Pc.ρ).map Ro.d):=by
 rw[bf]
 exact h
theorem FI {H:Hp} {hs:List V} {G:List Pc} (h:Ims H hs (G.map hD')) (k:Nat) (ρ:Ro) (e:(G.map Pc.ρ)[k]?=some ρ):∃y,hs[k]?=some y/\Im H y (hoD (hoG G k)):=by
 rw[aK]at e
 obtain⟨c,hc,rfl⟩:=cF.mp e
 obtain⟨x,hx,ix⟩:=sg h (show(G.map hD')[k]?=some (hD' c) by rw[aK,hc];rfl)
 refine⟨x,hx,?_⟩
 have:hoG G k=hoC c:=by unfold hoG;rw[hc];rfl
 rw[this]
 exact ix
theorem Bk:gP [V.non] [Value.none]:= .cons (show gU V.non Value.none from rfl) .nil
theorem uW (ns:List Int) (lo hi:Option Int):∃ms:List Int,rh (ns.map V.int) lo hi=ms.map V.int/\ms.length<=ns.length:=by
 unfold rh
 rw[<-List.map_drop,<-List.map_take]
 refine⟨_,rfl,?_⟩
 rw[aH,aU]
 lia
def lgn:Option Hm->Bool
 |some h=>decide (h.1="let")
 |none=>false
theorem DU {σ:St} {y:V} {o:Option Hm} {H:Hp} {R:Bool->Hp->Prop} (h8:σ[8]?=some (some y)) (iy:Im H y (hoD o)) (r:R (lgn o) H):FN (tB (D8 (cV 8))) (cT (tOp (cEq false) (tOp CQ (cV 8) (tC (V.int 0))) (tC (V.str "let")))) σ H R:=by
 cases o with
 |none=>
  cases iy
  show onV σ[8]? _
  rw[h8]
  show ∃c,V.bl (!decide (V.non=V.non))= .bl c/\_
  rw[gR rfl]
  exact⟨_,rfl,jy r⟩
 |some h=>
  cases iy with
  |@tup t ys _ et iy=>
  cases iy with
  |cons i1 iy=>cases iy with
   |cons i2 iy=>
   cases iy
   cases i1;cases i2
   show onV σ[8]? _
   rw[h8]
   show ∃c,V.bl (!decide (V.ref t=V.non))= .bl c/\_
   rw[gC (fun z=>nomatch z)]
   refine⟨_,rfl,jW ?_⟩
   show onV σ[8]? _
   rw[h8]
   refine⟨_,et,fc (eY (j:=0) rfl) ?_⟩
   show R (xor false (decide (h.1="let"))) H
   rw[dZ]
   exact r
theorem Gd.wi {D:Bd} (h:Gd D) {l1 l l2:List Int} (e:D.pts=l1++(l++l2)) (lo hi:Int):Gd (wiB D l lo hi):=by
 obtain⟨m1,m2,a0,a1,a2,a3⟩:=h
 refine⟨fun m hm=>m1 m (ae.mp hm).1,fun u hu=>m2 u (ae.mp hu).1,?_,nR a1,nR a2,nR a3⟩
 have:D.pts.length=l1.length+(l.length+l2.length):=by rw[e,aO,aO]
 show l.length<=900
 lia
theorem DV {f:Addr} {fd:FuncData} (T:Txt K mg) (W:Lk P w T) (F:Fun K "law" "law" sP f fd):qZ P w K mg base CX0 300 f fd ["_law_script"] (v9 K):=by
 have gD27:=tD (P:=P) (w:=w) (base:=base) T
 have gD45:=tq (P:=P) (w:=w) (base:=base) T
 have gD40:=qV (P:=P) (w:=w) (base:=base) T
 have gE75:=nQ (P:=P) (w:=w) (base:=base) T
 have gY7:=Dk (P:=P) (w:=w) (base:=base) T W 50
 have gD46:=uR (P:=P) (w:=w) (base:=base) T
 have gD51:=pU (P:=P) (w:=w) (base:=base) T
 have gD52:=qY (P:=P) (w:=w) (base:=base) T
 have gD53:=tJ (P:=P) (w:=w) (base:=base) T
 have gD49:=rM (P:=P) (w:=w) (base:=base) T
 have gD50:=jA (P:=P) (w:=w) (base:=base) T
 have gD48:=qX (P:=P) (w:=w) (base:=base) T
 have gD28:=oj (P:=P) (w:=w) (base:=base) T 8
 refine F.rd kE fun cdv A0 outer s H vs Q E hr h=>?_
 obtain⟨a,ns,rfl,ha,ln,q⟩:=h
 have hu:=xn hr
 refine⟨_,(eU (pS (i:=1) kE.nd (pF T.d27 gD27 hr.m (eR (fS (yO rfl) rfl T.z_sum Ew (eR (kH sA (cv 0) oA (lN eV)) eT)) eT)))
  (eU (pS (i:=2) kE.nd (pF T.d45 gD45 hr.m (eR (cv 1) (eR (pF T.d40 gD40 hr.m (eR (cv 1) (eR (kH sA (cv 0) (lN eV) oA) eT))) eT))))
  (eU (pS (i:=3) kE.nd (fh fg (cv 2) eV))
  (eU (pS (i:=4) kE.nd (jk T.mk10 gE75 hr.m rfl T.c10.m T.e75.b .nil fK (eR (gq iH rfl T.z_list kg (eR (fh fg (cv 2) eV) eT)) (eR (gq iH rfl T.z_list kg (eR (fh fg (cv 2) eV) eT)) (eR (gq iH rfl T.z_list kg (eR (cv 3) eT)) eT)))))
  (eU (pS (i:=5) kE.nd (pF T.d46 gD46 hr.m (eR (yr gY7 hr.m rfl T.y7.m T.y7.k T.y7.b Bk fK (eR (cv 4) (eR (gq iH rfl T.z_list kg (eR (fh fg (cv 2) eV) eT)) (eR (fq lQ (fS fX rfl T.z_len jB (eR (fh fg (cv 2) eV) eT)) eV) eT)))) eT)))
  (eU (jK PassesOwn.never rfl (yN rfl T.z_enumerate (eR (fh fg (cv 5) eV) eT)) (tN rfl (jo (pN (i:=6) kE.nd) (jo (pN (i:=7) kE.nd) qa)))
   (eU (pS (i:=8) kE.nd (fh fg (fh fg (cv 2) eV) (cv 7)))
   (eZ (gG (PW.pt (p9 (yb (Cg (cv 8))) (ou (fD jE (fh fm (cv 8) eV) fF))))
    (eU (pS (i:=9) kE.nd (pF T.d53 gD53 hr.m (eR (fh fg (cv 5) eV) (eR (cv 6) (eR (fq lQ (fh fm (cv 8) eV) eV) (eR (fh fm (fh fg (cv 3) (fq lQ (fh fm (cv 8) eV) eV)) eV) eT))))))
    (eU (pS (i:=10) kE.nd (fh fg (cv 9) eV))
    (eU (pS (i:=11) kE.nd (fq lQ (fq gk (fq gk (cv 6) eV) (fh fg (cv 9) eV)) (cv 10)))
    (eU (pS (i:=12) kE.nd (pF T.d49 gD49 hr.m (eR (cv 5) (eR (cv 10) (eR (fh fg (cv 9) eV) eT)))))
    (eU (gG (vO (mF (pF T.d28 gD28 hr.m (eR (pF T.d49 gD49 hr.m (eR (cv 5) (eR (fq gk (cv 6) eV) (eR (cv 11) eT)))) (eR (pF T.d48 gD48 hr.m (eR (cv 12) (eR (fq lQ (fq gk (cv 6) eV) (cv 10)) eT))) eT)))))
     (eZ (fz tL))
     fJ)
    (eU (gG (vO (mF (pF T.d28 gD28 hr.m (eR (pF T.d51 gD51 hr.m (eR (cv 5) (eR (fq gk (cv 6) eV) (eR (cv 11) eT)))) (eR (pF T.d51 gD51 hr.m (eR (cv 5) (eR (cv 10) (eR (fh fg (cv 9) eV) eT)))) eT)))))
     (eZ (fz tL))
     fJ)
    (eZ (gG (PW.pt (yc (oz (Ez hr) (pF T.d52 gD52 hr.m (eR (cv 5) (eR (cv 10) (eR (fh fg (cv 9) eV) eT)))) (fH eT)) (vN (vO (mF (pF T.d28 gD28 hr.m (eR (pF T.d52 gD52 hr.m (eR (cv 5) (eR (fq gk (cv 6) eV) (eR (cv 11) eT)))) (eR (fH (eR (fC (eR (fq gk (cv 6) eV) (eR (cv 6) eT))) eT)) eT))))))))
     (eZ (fz tL))
     fJ))))))))
    fJ))))
  (eZ (fz tL)))))))),?_⟩
 have sl:=sizeLine_eq
 obtain⟨m1,em1,lm1⟩:=uW ns none (some 1)
 obtain⟨m2,em2,lm2⟩:=uW ns (some 1) none
 refine⟨_,rfl,a,_,rfl,ha,fun l1 h1=>⟨l1,m1,rfl,SqL.of (by rw[eS,em1]),fun n0=>?_⟩⟩
 have S1:=eW h1 (.lst (rh (ns.map V.int) none (some 1)))
 refine⟨n0,rfl,fun wa H2 S2 _ hw=>?_⟩
 dsimp only[fN]
 have S12:=S1.trans S2
 obtain⟨wl,hw,lw,nd⟩:=hw
 refine⟨_,rfl,a,_,rfl,S12.seq ha,fun l3 h3=>?_⟩
 have S3:=eW h3 (.lst (rh (ns.map V.int) (some 1) none))
 refine⟨wa,l3,wl,m2,rfl,S3 _ _ hw,lw,nd,by rw[eS,em2],by lia,fun H4 l4 xs ts made S4 e4 i4 ne4 lt4 jd=>?_⟩
 have hw4:=(S3.trans S4) _ _ hw
 have ltm:ts.length=made.length:=jd.1
 have jdt:∀t∈ts,∃d,JD wl (made.take d) t (made.getD d 0):=fun t ht=>by
  obtain⟨d,hd⟩:=bt.mp ht
  exact⟨d,jd.2 d t hd⟩
 have sz4:szs ts<=10000:=by
  have:=B4 (ts:=ts) fun t ht=>let⟨d,j⟩:=jdt t ht;j.z
  lia
 refine⟨wa,l4,wl,xs,ts,rfl,hw4,lw,e4,i4,lt4,fun t ht=>?_,sz4,fun H5 b n r w' h Bt=>?_⟩
 ·obtain⟨d,j⟩:=jdt t ht
  exact⟨⟨fun _=>True,j.o _ fun _ _=>trivial⟩,by have:=j.n;lia⟩
 dsimp only[fN]
 obtain⟨sm,eb,⟨nms,en,lnm⟩,er',⟨rs,ew,iw⟩,⟨hs,eh,ih⟩,nw⟩:=Bt
 have ft:=Dr (zX lw nd (us:=ts) (d:=0) (made:=made) (by lia) (by lia) fun k t hk=>by rw[cq];exact jd.2 k t hk)
 have hq:szs ts=(pcD (wdE wl) ts 0 0 []).length:=zG.symm
 have few:=FtD.few ft hq
 have dom:=FtD.dom ft hq
 have iw':=FH iw
 have dok:∀d:Nat,d<ts.length->∃s',uZ (iL ((pcD (wdE wl) ts 0 0 []).map Pc.ρ) (gF ts 0) (hoG (pcD (wdE wl) ts 0 0 [])) 50) (gF ts 0) (d:Int) s00=some (0,s')/\nS s'<=600:=fun d hd=>by
  obtain⟨r,hr⟩:∃r,(gF ts 0)[d]?=some r:=⟨_,bb (by rw[TM.Internal.offs_len];exact hd)⟩
  obtain⟨c,hc,wc⟩:=zY lw nd (us:=ts) (d:=0) (p:=0) (made:=made) (G:=pcD (wdE wl) ts 0 0 []) (l1:=[]) (by lia) (by lia) (fun k t hk=>by rw[cq];exact jd.2 k t hk) rfl rfl hr
  refine FG rfl ft hq hr hc ?_
  rw[wc,cq]
  exact(jd.2 d _ (bb hd)).b
 have good:=FtD.good ft hq
 have N:=G0 (roots:=gF ts 0) rfl ft hq
 have Vv:=G1 (roots:=gF ts 0) rfl ft hq
 have Wv:=G3 (roots:=gF ts 0) rfl ft hq
 have roL:(gF ts 0).length=ts.length:=TM.Internal.offs_len _ _
 generalize pcD (wdE wl) ts 0 0 []=G at*
 refine⟨_,eb,fc (eY (j:=2) rfl) ?_⟩
 dsimp only[fN]
 refine⟨_,eb,fc (eY (j:=0) rfl) ⟨n,_,rfl,.inl (SqL.of en),fun p1 g1=>?_⟩⟩
 have U1:=eW g1 (.lst (nms.map V.str))
 refine⟨_,U1 _ _ eb,fc (eY (j:=1) rfl) ⟨r,_,rfl,.inl (SqL.of (U1 _ _ er')),fun p2 g2=>?_⟩⟩
 have U2:=eW g2 (.lst ((gF ts 0).map nI))
 refine⟨w',_,rfl,.inl (SqL.of (U2 _ _ (U1 _ _ ew))),fun p3 g3=>?_⟩
 have U3:=eW g3 (.lst rs)
 refine fun x dx hx hdx nx=>⟨x,dx,p1,p2,p3,rfl,eS,rfl,?_⟩
 rw[gv]
 have U4:=jb (o:= .ins T.c10.a dx (fP p1 p2 p3)) hx hdx
 dsimp only[fN]
 have U14:=U1.trans (U2.trans (U3.trans U4))
 refine⟨_,U14 _ _ eb,fc (eY (j:=3) rfl) ⟨h,_,rfl,.inl (SqL.of (U14 _ _ eh)),fun p5 g5=>?_⟩⟩
 have U5:=eW g5 (.lst hs)
 dsimp only[fN]
 have U15:=U14.trans U5
 have Cq0:Cq T.c10.a _ x p5 nms (gF ts 0) (G.map Pc.ρ) (hoG G):=⟨⟨p1,p2,p3,dx,rs,U5 _ _ eS,(U2.trans (U3.trans (U4.trans U5))) _ _ eS,(U3.trans (U4.trans U5)) _ _ eS,(U4.trans U5) _ _ eS,iw'.mono (fE.tk U15)⟩,⟨hs,eS,fun k ρ e=>FI (ih.mono (fE.tk U15)) k ρ e⟩,few,dom⟩
 have hx6:_=some (HO.ins T.c10.a dx (fP p1 p2 p3)):=U5 _ _ (eS (H:=(L2.Internal.upd (L2.Internal.upd (L2.Internal.upd (L2.Internal.upd H5 p1 (.lst (nms.map V.str))) p2 (.lst ((gF ts 0).map nI))) p3 (.lst rs)) dx (.own x))) (a:=x))
 have h16:=(U2.trans (U3.trans (U4.trans U5))) _ _ (eS (H:=H5) (a:=p1) (o:= .lst (nms.map V.str)))
 have h26:=(U3.trans (U4.trans U5)) _ _ (eS (a:=p2) (o:= .lst ((gF ts 0).map nI)))
 have h36:=(U4.trans U5) _ _ (eS (a:=p3) (o:= .lst rs))
 have h56:=eS (H:=(L2.Internal.upd (L2.Internal.upd (L2.Internal.upd (L2.Internal.upd (L2.Internal.upd H5 p1 (.lst (nms.map V.str))) p2 (.lst ((gF ts 0).map nI))) p3 (.lst rs)) dx (.own x)) x (.ins T.c10.a dx (fP p1 p2 p3)))) (a:=p5) (o:= .lst hs)
 have eb6:=U15 _ _ eb
 have en6:=U15 _ _ en
 have er6:=U15 _ _ er'
 have ew6:=U15 _ _ ew
 have eh6:=U15 _ _ eh
 have iw6:=iw'.mono (fE.tk U15)
 have ih6:=ih.mono (fE.tk U15)
 generalize(L2.Internal.upd (L2.Internal.upd (L2.Internal.upd (L2.Internal.upd (L2.Internal.upd (L2.Internal.upd H5 p1 (.lst (nms.map V.str))) p2 (.lst ((gF ts 0).map nI))) p3 (.lst rs)) dx (.own x)) x (.ins T.c10.a dx (fP p1 p2 p3))) p5 (.lst hs))=H6 at Cq0 hx6 h16 h26 h36 h56 eb6 en6 er6 ew6 eh6 iw6 ih6⊢
 have l0:0<ts.length:=List.length_pos_iff.mpr ne4
 have hwh:((nms.map V.str).length:Int)-1=((ts.length-1:Nat):Int):=by rw[aC,lnm];lia
 obtain⟨s',hF,nS'⟩:=dok (ts.length-1) (by lia)
 have zs:Sz 1000000 s':=by unfold nS at nS';exact⟨by lia,by lia,by lia,by lia⟩
 have zb:szB s'.D 900:=by unfold nS at nS';exact⟨by lia,by lia,by lia,by lia⟩
 refine⟨_,eb6,fc (eY (j:=0) rfl) ⟨n,_,rfl,.inl (SqL.of en6),?_⟩⟩
 refine⟨x,p5,((nms.map V.str).length:Int)-1,0,s',nms,gF ts 0,G.map Pc.ρ,hoG G,rfl,Cq0,by rw[hwh];exact hF,zs,fun B H7 S7 fB B7=>?_⟩
 refine⟨B,.int 0,s'.D,900,rfl,B7,zb,by decide,fun tv H8 S8 tw=>?_⟩
 dsimp only[fN]
 obtain⟨g,iv⟩:=FC N Vv Wv Hq (fun r hr=>by
  obtain⟨j,ej,hj⟩:=fV hr
  obtain⟨_,c,gc,_,_⟩:=ft.r j r (cb _) hj
  obtain⟨_,_,lc,_⟩:=ft.at hq gc
  rw[mq gc]
  lia) hF
 obtain⟨ah,_⟩:=Fv hF
 have gd:=Gd.of B7 zb
 have S68:=S7.trans S8
 have eb8:=S68 _ _ eb6
 have eh8:=S68 _ _ eh6
 have ew8:=S68 _ _ ew6
 have ih8:=ih6.mono (fE.tk S68)
 have iw8:=iw6.mono (fE.tk S68)
 have tw0:=tw
 obtain⟨tb,p0,p1',p2',p3',mv',uv,fv,rfl,hb8,h08,_,_,_,_,_,_⟩:=tw0
 have zl:=zb.1
 refine⟨_,hb8,fc (eY (j:=0) rfl) ⟨p0,rfl,⟨_,SqL.of h08⟩,wq (xs:=s'.D.pts.map V.int) (fun k σ H9=>X7 fun(o6 o7 o8 o9 o10 o11 o12:Option V)=>σ=[some (.ref a),some (.ref wa),some (.ref b),some (.ref w'),some (.ref x),some (.ref tb),o6,o7,o8,o9,o10,o11,o12]/\fE H8 H9) ?_ ?_ ?_ ?_⟩⟩
 ·exact⟨none,none,none,none,none,none,none,rfl,fun _ _ e=>e⟩
 ·rintro k σ H9 _ ⟨_,_,_,_,_,_,_,_,S9⟩
  exact SqL.of (S9 _ _ h08)
 ·rintro k v σ H9 t4 hv ⟨o6,o7,o8,o9,o10,o11,o12,rfl,S9⟩ h4
  rw[aK]at hv
  obtain⟨pl,hpl,rfl⟩:=cF.mp hv
  have T4:=eW h4 (.tup [.int (k:Int),.int pl])
  have S10:=S9.trans T4
  refine⟨t4,[.int k,.int pl],rfl,SqT.of eS,rfl,_,[.int pl],rfl,_,[],rfl,rfl,?_⟩
  obtain⟨ρ,hρ⟩:=ah.pl pl (aN hpl)
  obtain⟨pn,rfl,hρ'⟩:=fV hρ
  obtain⟨y,hy,iy8⟩:=FI ih8 pn ρ hρ'
  have iy:=iy8.mono (fE.tk S10)
  refine⟨_,S10 _ _ eb8,fc (eY (j:=3) rfl) ⟨hs,S10 _ _ eh8,fc (eY (j:=pn) hy) ?_⟩⟩
  dsimp only[fN]
  show vQ _ _ _ _ [some (.ref a),some (.ref wa),some (.ref b),some (.ref w'),some (.ref x),some (.ref tb),some (.int k),some (.int pn),some y,o9,o10,o11,o12] _
  refine DU rfl iy ?_
  have hat:atZ s'.D.pts (k:Int)=some (pn:Int):=hpl
  have hk:k<s'.D.pts.length:=(ar.mp hpl).1
  by_cases hfr:∃h,hoG G pn=some h/\h.1="let"
  rotate_left
  ·have e0:lgn (hoG G pn)=false:=by
    cases e:hoG G pn with
    |none=>rfl
    |some h=>exact gC fun z=>hfr ⟨h,e,z⟩
   rw[e0]
   exact jy ⟨_,_,_,_,_,_,_,rfl,S10⟩
  obtain⟨hm,em,e1⟩:=hfr
  rw[em]at iy8⊢
  have e0:lgn (some hm)=true:=gR e1
  rw[e0]
  refine jW ?_
  obtain⟨r,hr,era,rhk,rno,cy,_⟩:=iv.k k pn hm (fun z=>by cases z) hat em e1
  obtain⟨RFr,_,rok,_⟩:=iv.r r hr
  obtain⟨wn,b',hL,_,_,eb'⟩:=Wv.enc _ _ (Wv.nm _ _ em e1)
  obtain⟨L,eL,hL'⟩:=fV hL
  have ea:hm.2=(L:Int)+ 1:=by lia
  have lna:=(N.lt _ _ em e1).2.1
  obtain⟨ht,rfl,et8⟩:∃t,y= .ref t/\H8 t=some (.tup [.str hm.1,.int hm.2]):=by
   cases iy8 with
   |@tup t ys _ et iy=>
   cases iy with
   |cons i1 iy=>cases iy with
    |cons i2 iy=>
    cases iy
    cases i1;cases i2
    exact⟨t,rfl,et⟩
  obtain⟨rw1,hrw,irw⟩:=sg iw8 (show((G.map Pc.ρ).map Ro.d)[L]?=some (Ro.d (.lt wn hm.2 b')) by rw[aK,hL'];rfl)
  obtain⟨rt,rfl,ert⟩:∃t,rw1= .ref t/\H8 t=some (.tup [.str "let",.str wn,.int hm.2,.int b']):=by
   cases irw with
   |@tup t ys _ et iy=>
   cases iy with
   |cons i1 iy=>cases iy with
    |cons i2 iy=>cases iy with
     |cons i3 iy=>cases iy with
      |cons i4 iy=>
      cases iy
      cases i1;cases i2;cases i3;cases i4
      exact⟨t,rfl,et⟩
  obtain⟨l0,el0⟩:=RFr.l
  obtain⟨l2,ep2⟩:=rok.p
  have es1:r.s1.D.pts=l0++[r.a-1]++r.C.pts:=by rw[RFr.d,<-el0];rfl
  have elo:(l0.length:Int)+ 1=r.lo:=by
   show _=(r.s0.D.pts.length:Int)
   rw[el0,aO]
   rfl
  have ehi:((l0++[r.a-1]++r.C.pts).length:Int)=r.hi:=by
   show _=(r.s1.D.pts.length:Int)
   rw[es1]
  have hhk:(l0++[r.a-1]++r.C.pts).length<=k:=by lia
  have lC:(l0++[r.a-1]++r.C.pts).length=l0.length+ 1+r.C.pts.length:=by rw[aO,aO];rfl
  rw[es1]at ep2
  have at1:s'.D.pts[l0.length]?=some (hm.2-1):=by
   rw[ep2,bC,bC,aI (b9 _),cg,era]
   rfl
  have at2:s'.D.pts[(l0++[r.a-1]++r.C.pts).length]?=some b':=by
   obtain⟨z,hz⟩:∃z,s'.D.pts[(l0++[r.a-1]++r.C.pts).length]?=some z:=⟨_,bb (by lia)⟩
   have:=rok.b z (by rw[<-ehi];exact hz)
   rw[hz,this,era,eb']
  have S10':=S10
  have et10:=S10 _ _ et8
  refine⟨_,S10 _ _ hb8,fc (eY (j:=0) rfl) ⟨_,et10,fc (eY (j:=1) rfl) ⟨_,et10,fc (eY (j:=1) rfl) ⟨_,S10 _ _ ew8,fc (show atI rs (hm.2-1)=some (.ref rt) by rw[eL];exact eY (j:=L) hrw) ⟨_,S10 _ _ ert,fc (eY (j:=3) rfl) ?_⟩⟩⟩⟩⟩
  refine⟨p0,s'.D.pts,k,l0.length,(l0++[r.a-1]++r.C.pts).length,hm.2-1,b',rfl,S10 _ _ h08,by lia,hk,at1,fun i c1 c2 c3=>?_,by lia,at2,fun i c1 c2 c3=>?_,fun l9 H11 S11 e11=>?_⟩
  ·exact rno i (by lia) (by lia) (by rw[era];exact c3)
  ·by_cases z:i=l0.length
   ·rw[z,at1]at c3
    have:=cC.inj c3
    lia
   ·rw[ep2,aJ (by lia),aI (by rw[aO];show l0.length+ 1<=i;lia)]at c3
    have:=RFr.x _ (aN c3)
    rw[era]at this
    rcases this with z|z<;>lia
  rw[elo,ehi]at e11
  dsimp only[fN]
  refine⟨_,e11,fc (eY (j:=0) rfl) ?_⟩
  dsimp only[fN]
  refine⟨_,e11,fc (eY (j:=1) rfl) ?_⟩
  dsimp only[fN]
  obtain⟨⟨l1,l,l2',k1',k2',c1,c2,c3,c4,c5,c6⟩,cm,cu,cf,ce,cl,cl'⟩:=cy
  have ehk:(k:Int)+ 1+(r.hi-r.lo)=(k:Int)+ 1+r.hi-r.lo:=by lia
  rw[ehk]at c6 cm cu cf ce cl'
  have S11':=S10.trans S11
  refine⟨_,e11,fc (eY (j:=1) rfl) ⟨.ref tb,s'.D,r.lo,r.hi,l1,l,l2',rfl,tw.same S11',zb,c1,c2,c3,fun own H12 S12 t0=>?_⟩⟩
  dsimp only[fN]
  have S12':=S11'.trans S12
  obtain⟨gd1,gd2⟩:=((gd.wi c1 r.lo r.hi).rn (mv ((k:Int)+ 1-r.lo))).good
  refine⟨.ref tb,s'.D,(k:Int)+ 1,(k:Int)+ 1+r.hi-r.lo,k1',l,k2',rfl,tw.same S12',zb,c4,c5,c6,fun y1 H13 S13 t1=>?_⟩
  refine⟨own,wiB s'.D l r.lo r.hi,(k:Int)+ 1-r.lo,rfl,t0.same S13,gd.wi c1 _ _,fun y2 H14 S14 t2=>?_⟩
  have ebd:bdW (wiB s'.D l ((k:Int)+ 1) ((k:Int)+ 1+r.hi-r.lo))=bdW (rnB (mv ((k:Int)+ 1-r.lo)) (wiB s'.D l r.lo r.hi)):=by
   simp only[bdW,wiB,rnB,cm,cu,cf]
  refine⟨y1,y2,bdW (rnB (mv ((k:Int)+ 1-r.lo)) (wiB s'.D l r.lo r.hi)),rfl,(by rw[<-ebd];exact(t1.same S14).da),t2.da,bZ gd1 (by decide),gd2,fun H15 S15=>⟨true,rfl,jy ?_⟩⟩
  have S15':=S12'.trans (S13.trans (S14.trans S15))
  have e15:=(S12.trans (S13.trans (S14.trans S15))) _ _ e11
  have len:((enB s'.D r.lo r.hi).map flD).length<=100000:=by
   unfold enB
   rw[aC,aC]
   exact bZ (nR (nR zb.4)) (by decide)
  refine⟨.ref tb,s'.D,(k:Int)+ 1,(k:Int)+ 1+r.hi-r.lo,rfl,tw.same S15',zb,fun y3 H16 S16 d3=>?_⟩
  refine⟨_,S16 _ _ e15,fc (eY (j:=1) rfl) ⟨.ref tb,s'.D,r.lo,r.hi,rfl,tw.same (S15'.trans S16),zb,fun y4 H17 S17 d4=>?_⟩⟩
  have een:enB s'.D ((k:Int)+ 1) ((k:Int)+ 1+r.hi-r.lo)=enB s'.D r.lo r.hi:=ce
  rw[een]at d3
  refine⟨y3,y4,.lst ((enB s'.D r.lo r.hi).map flD),rfl,d3.same S17,d4,?_,⟨len,jr fun _ _=>⟨by show 2<=100000;decide,trivial,trivial,trivial⟩⟩,fun H18 S18=>⟨true,rfl,jy ?_⟩⟩
  ·have:fZ ((enB s'.D r.lo r.hi).map flD)<=1:=iS fun p _=>by simp[flD,iE,fZ]
   show fZ _+ 1<=7
   lia
  have S18':=S15'.trans (S16.trans (S17.trans S18))
  have e18:=(S16.trans (S17.trans S18)) _ _ e15
  refine⟨_,e18,fc (eY (j:=1) rfl) ⟨.ref tb,s'.D,r.lo,r.hi,rfl,tw.same S18',zb,fun a5 z5 H19 S19 e5 i5=>?_⟩⟩
  have ele:leB s'.D r.lo r.hi=[]:=cl
  rw[ele]at i5
  cases i5
  refine⟨mD,fun l6 h6=>?_⟩
  have T6:=eW h6 (.lst [])
  refine⟨a5,l6,.lst [],.lst [],rfl,rfl,.lst (SqL.of (T6 _ _ e5)) .nil,.lst (SqL.of eS) .nil,rfl,by decide,false,rfl,jy ?_⟩
  have S19':=S18'.trans (S19.trans T6)
  refine⟨.ref tb,s'.D,(k:Int)+ 1,(k:Int)+ 1+r.hi-r.lo,rfl,tw.same S19',zb,fun a7 z7 H20 S20 e7 i7=>?_⟩
  have ele':leB s'.D ((k:Int)+ 1) ((k:Int)+ 1+r.hi-r.lo)=[((k:Int)+ 1,(k:Int))]:=by
   show _=_
   refine Eq.trans cl' ?_
   rw[show(k:Int)+ 1-1=k by lia]
  rw[ele']at i7
  refine⟨lI,fun t8 h8=>⟨mE,fun l8 hl8=>?_⟩⟩
  have T8:=eW h8 (.tup [.int ((k:Int)+ 1),.int (k:Int)])
  have U8:=eW hl8 (.lst [.ref t8])
  refine⟨.ref a7,.ref l8,.lst [flD ((k:Int)+ 1,(k:Int))],rfl,.lst ((T8.trans U8) _ _ e7) (i7.mono (fE.tk (T8.trans U8))).das,.lst eS (.cons (.tup (U8 _ _ eS) (.cons (.flat rfl) (.cons (.flat rfl) .nil))) .nil),by simp[flD,iE,fZ],⟨by show 1<=100000;decide,⟨by show 2<=100000;decide,trivial,trivial,trivial⟩,trivial⟩,fun H21 S21=>⟨true,rfl,jy ?_⟩⟩
  exact⟨_,_,_,_,_,_,_,rfl,S19'.trans (S20.trans (T8.trans (U8.trans S21)))⟩
 ·rintro σ H9 ⟨o6,o7,o8,o9,o10,o11,o12,rfl,S9⟩
  exact q _
theorem jC {l:List (Str×Tok×Addr)}:(l.map (·.1)).Nodup->∀x∈l,lK (l.map fun p=>((Sum.inr p.1:Key),V.ref p.2.2)) (Sum.inr x.1)=some (.ref x.2.2):=by
 induction l with
 |nil=>exact fun _ x hx=>nomatch hx
 |cons y r ih=>
  intro hn x hx
  rw[aB,aE]at hn
  unfold lK
  rw[aB,aQ]
  rcases ak.mp hx with e|hm
  ·subst e
   rw[gR rfl]
   rfl
  ·have ne:¬(Sum.inr y.1:Key)=Sum.inr x.1:=fun z=>hn.1 (by rw[Sum.inr.inj z];exact bA hm)
   rw[gC ne]
   exact ih hn.2 x hm
def Hr {P:Program} {w:World} {K:PySem.W.Frag} {mg:Str->Option Value} (T:Txt K mg) {a:Addr} {n:Nat} {t_num t_name t_fn t_call t_let t_rec t_get t_tag t_case t_row t_at t_join t_size t_add t_sub t_less:Tok} (m:mg "LAYERS"=some (.ref a)) (ha:(a==sysModules)=false) (hl:K.lookup a=some ⟨.type "dict",none,.dict #[⟨PyData.keyHash w.params "num",.str "num" t_num,.ref T.d8.a⟩,⟨PyData.keyHash w.params "name",.str "name" t_name,.ref T.d9.a⟩,⟨PyData.keyHash w.params "fn",.str "fn" t_fn,.ref T.d12.a⟩,⟨PyData.keyHash w.params "call",.str "call" t_call,.ref T.d13.a⟩,⟨PyData.keyHash w.params "let",.str "let" t_let,.ref T.d14.a⟩,⟨PyData.keyHash w.params "rec",.str "rec" t_rec,.ref T.d15.a⟩,⟨PyData.keyHash w.params "get",.str "get" t_get,.ref T.d16.a⟩,⟨PyData.keyHash w.params "tag",.str "tag" t_tag,.ref T.d17.a⟩,⟨PyData.keyHash w.params "case",.str "case" t_case,.ref T.d18.a⟩,⟨PyData.keyHash w.params "row",.str "row" t_row,.ref T.d19.a⟩,⟨PyData.keyHash w.params "at",.str "at" t_at,.ref T.d20.a⟩,⟨PyData.keyHash w.params "join",.str "join" t_join,.ref T.d21.a⟩,⟨PyData.keyHash w.params "size",.str "size" t_size,.ref T.d22.a⟩,⟨PyData.keyHash w.params "add",.str "add" t_add,.ref T.d23.a⟩,⟨PyData.keyHash w.params "sub",.str "sub" t_sub,.ref T.d23.a⟩,⟨PyData.keyHash w.params "less",.str "less" t_less,.ref T.d24.a⟩] n,#[]⟩):Lk P w T where
 a:=a
 m:=m
 kvs:=([("num",t_num,T.d8.a),("name",t_name,T.d9.a),("fn",t_fn,T.d12.a),("call",t_call,T.d13.a),("let",t_let,T.d14.a),("rec",t_rec,T.d15.a),("get",t_get,T.d16.a),("tag",t_tag,T.d17.a),("case",t_case,T.d18.a),("row",t_row,T.d19.a),("at",t_at,T.d20.a),("join",t_join,T.d21.a),("size",t_size,T.d22.a),("add",t_add,T.d23.a),("sub",t_sub,T.d23.a),("less",t_less,T.d24.a)]:List (Str×Tok×Addr)).map fun p=>((Sum.inr p.1:Key),V.ref p.2.2)
 kd:=AD ha hl rfl (by show(["num","name","fn","call","let","rec","get","tag","case","row","at","join","size","add","sub","less"]:List Str).Nodup;decide+kernel)
 yes:=fun ρ hu=>by
  have hn:(([("num",t_num,T.d8.a),("name",t_name,T.d9.a),("fn",t_fn,T.d12.a),("call",t_call,T.d13.a),("let",t_let,T.d14.a),("rec",t_rec,T.d15.a),("get",t_get,T.d16.a),("tag",t_tag,T.d17.a),("case",t_case,T.d18.a),("row",t_row,T.d19.a),("at",t_at,T.d20.a),("join",t_join,T.d21.a),("size",t_size,T.d22.a),("add",t_add,T.d23.a),("sub",t_sub,T.d23.a),("less",t_less,T.d24.a)]:List (Str×Tok×Addr)).map (·.1)).Nodup:=by show(["num","name","fn","call","let","rec","get","tag","case","row","at","join","size","add","sub","less"]:List Str).Nodup;decide+kernel
  cases ρ with
  |num _=>exact⟨_,jC hn ("num",t_num,T.d8.a) (aN (i:=0) rfl),fun f=>⟨_,.num,_,rfl⟩⟩
  |name _=>exact⟨_,jC hn ("name",t_name,T.d9.a) (aN (i:=1) rfl),fun f=>⟨_,.name,_,rfl⟩⟩
  |fn _ _=>exact⟨_,jC hn ("fn",t_fn,T.d12.a) (aN (i:=2) rfl),fun f=>⟨_,.fn,_,_,rfl⟩⟩
  |tag _ _=>exact⟨_,jC hn ("tag",t_tag,T.d17.a) (aN (i:=7) rfl),fun f=>⟨_,.tag,_,_,rfl⟩⟩
  |lt _ _ _=>exact⟨_,jC hn ("let",t_let,T.d14.a) (aN (i:=4) rfl),fun f=>⟨_,.lt,_,_,_,rfl⟩⟩
  |get _ _=>exact⟨_,jC hn ("get",t_get,T.d16.a) (aN (i:=6) rfl),fun f=>⟨_,.get,_,_,rfl⟩⟩
  |rcd _=>exact⟨_,jC hn ("rec",t_rec,T.d15.a) (aN (i:=5) rfl),fun f=>⟨_,.rcd,_,rfl⟩⟩
  |case _ _=>exact⟨_,jC hn ("case",t_case,T.d18.a) (aN (i:=8) rfl),fun f=>⟨_,.case,_,_,rfl⟩⟩
  |row _=>exact⟨_,jC hn ("row",t_row,T.d19.a) (aN (i:=9) rfl),fun f=>⟨_,.row,_,rfl⟩⟩
  |op o ks=>
   rcases hu with rfl|rfl|rfl|rfl|rfl|rfl|rfl
   ·exact⟨_,jC hn ("call",t_call,T.d13.a) (aN (i:=3) rfl),fun f=>⟨_,.call,_,rfl⟩⟩
   ·exact⟨_,jC hn ("at",t_at,T.d20.a) (aN (i:=10) rfl),fun f=>⟨_,.ix,_,rfl⟩⟩
   ·exact⟨_,jC hn ("join",t_join,T.d21.a) (aN (i:=11) rfl),fun f=>⟨_,.join,_,rfl⟩⟩
   ·exact⟨_,jC hn ("size",t_size,T.d22.a) (aN (i:=12) rfl),fun f=>⟨_,.size,_,rfl⟩⟩
   ·exact⟨_,jC hn ("add",t_add,T.d23.a) (aN (i:=13) rfl),fun f=>⟨_,.sum,_,_,rfl,.inl rfl⟩⟩
   ·exact⟨_,jC hn ("sub",t_sub,T.d23.a) (aN (i:=14) rfl),fun f=>⟨_,.sum,_,_,rfl,.inr rfl⟩⟩
   ·exact⟨_,jC hn ("less",t_less,T.d24.a) (aN (i:=15) rfl),fun f=>⟨_,.less,_,rfl⟩⟩
end K24.Internal
namespace PySem.W.Fast
def tw11650077804149576330:=0
def tw5900121147651036794:=0
def tw14796280404266775940:=0
def tw13569910589309589254:=0
def tw18031803946366911050:=0
def tw16129100774544780525:=0
def tw2126545246936561759:=0
def tw8330194035647430560:=0
def tw2609572759862802437:=0
def tw4111393796092122979:=0
def tw13311132857499380492:=0
def tw10813090021653891353:=0
def tw14103023777422403976:=0
def tw18276901046125587286:=0
def tw7872666583531735503:=0
def tw9415705302993168988:=0
def tw10033110090830822689:=0
def tw7073004742399253122:=0
def tw490616949087930683:=0
def tw9824697827968130178:=0
def tw14732510513952332678:=0
def tw16144036239096873379:=0
def tw12045760581880281022:=0
def tw5950851965482191612:=0
def tw18303468006146987089:=0
def tw323049399824763262:=0
def tw861752312152964873:=0
def tw4065690590082551450:=0
def tw6032005006475398736:=0
def tw665045046282518939:=0
def tw7322585865692855066:=0
def tw17390729725315564028:=0
def tw242110320991973145:=0
def tw4942569824105655512:=0
def tw116231195707908245:=0
def tw15780549627031960745:=0
def tw6841146026356115508:=0
def tw10227369475743504565:=0
def tw2131598662339123744:=0
def tw14001036848958979355:=0
def tw871559140419730002:=0
def tw5285807931213539767:=0
def tw7650247718660943050:=0
def tw819804114356470602:=0
def tw7402874257502181557:=0
def tw18120056289879979793:=0
def tw7255502271509901503:=0
def tw18383733197023821302:=0
def tw7799851878773467761:=0
def tw13189076504662220201:=0
def tw14281341599320988562:=0
def tw9782894201732400033:=0
def tw2436098265680842755:=0
def tw11639514497753516022:=0
def tw6263953994933433439:=0
def tw11082490574384644088:=0
def tw2643292620623219534:=0
def tw12548584734657504877:=0
def tw2422816717956412613:=0
def tw10168479763917223359:=0
def tw10402477060363878460:=0
def tw1832935944350485760:=0
def tw10563213854725745984:=0
def tw6458350085293689013:=0
def tw10655645655729117246:=0
def tw13394170113479670210:=0
def tw5902737946966919200:=0
def tw6218603398175439601:=0
def tw6765109065334292465:=0
def tw2825812479141453535:=0
def tw924446909904734935:=0
def tw6785009758588536899:=0
def tw15133630593935962947:=0
def tw11558903231983718804:=0
def tw7834761059607566196:=0
def tw10656259950430161171:=0
def tw1633621615322454243:=0
def tw1954949431019537059:=0
def tw8775327529557473493:=0
def tw14627713158937551686:=0
def tw6281969886804462364:=0
def tw14150659233388283434:=0
def tw13515463886119653433:=0
def tw7999305048171848928:=0
def tw8517544651943094911:=0
def tw14412227286733187479:=0
def tw4959228264223898915:=0
def tw5744914350716076091:=0
def tw5818436061389911907:=0
def tw7202573249256049863:=0
def tw683618397180689844:=0
def tw8436787690086655770:=0
def tw18290715457344025653:=0
def tw7996618540409078779:=0
def tw16800096374142849024:=0
def tw16971439744554164455:=0
def tw8384953504639634646:=0
def tw3520342895075596625:=0
def tw14371085777024085802:=0
def tw9517445048502309692:=0
def tw17850411913389978895:=0
def tw4425147292247171184:=0
def tw11643606953267363648:=0
def tw3000821508185144447:=0
def tw2824281413259706519:=0
def tw8613965453054631940:=0
def tw12431019878082879870:=0
def tw9345308007206073728:=0
def tw9827867751649001946:=0
def tw11869333233522671295:=0
def tw11011112483852347798:=0
def tw5391371336405963861:=0
def tw1211284178421484197:=0
def tw2047938553920267269:=0
def tw12653238625407656429:=0
def tw15763939461427082874:=0
def tw11178211051502325992:=0
def tw1457478095029839140:=0
def tw2406132304167045960:=0
def tw18038001595838537236:=0
def tw4380210327505697145:=0
def tw623583766582064840:=0
def tw13213413818760044442:=0
def tw5563403680463744823:=0
def tw6085509861652397046:=0
def tw1846983695619908664:=0
def tw1041105019540484053:=0
def tw15841325100717793511:=0
def tw18073442297166119889:=0
def tw7103424165423120189:=0
def tw13484412902454277703:=0
def tw1896837009561334235:=0
def tw10200652618260047260:=0
def tw8211703129961164805:=0
def tw1065855001896419037:=0
def tw7570669216936119757:=0
def tw15227391803982413454:=0
def tw16481396629835621245:=0
def tw9424874987302043815:=0
def tw11772562145119239567:=0
def tw2872448892815972325:=0
def tw1949532383418624988:=0
def tw16869567528986972835:=0
def tw2133648447546770661:=0
def tw17897447880211724434:=0
def tw9265621210462712744:=0
def tw6297550552164400911:=0
def tw8532728222846481022:=0
def tw4525992310635187749:=0
def tw4938500568061011710:=0
def tw15277233517340966296:=0
def tw4889931051926206955:=0
def tw6714644589605956058:=0
def tw5686155608155400463:=0
def tw8216763259045281188:=0
def tw12130266869827012027:=0
def tw14742279402003737030:=0
def tw13703947934983843384:=0
def tw9473349882482386110:=0
def tw9350878628607356438:=0
def tw10924442130779188526:=0
def tw18132315349523502308:=0
def tw348629926553007880:=0
def tw8489591901870600714:=0
def tw12292892490333345233:=0
def tw18177146463004009638:=0
def tw4452672549835282500:=0
def tw9153482034939722381:=0
def tw10740451457953468268:=0
def tw16225060186826687657:=0
def tw10993017252506417773:=0
def tw13115193102794634824:=0
def tw17001188706500989325:=0
def tw8300890787950740299:=0
def tw15240901967666666049:=0
def tw14305482764904500568:=0
def tw12887036107250917663:=0
def tw11305162478327431564:=0
def tw11568377944135119109:=0
def tw4280725503392026002:=0
def tw4899768005554297660:=0
def tw249142027486389349:=0
def tw854546547450152698:=0
def tw12869949630554857514:=0
def tw8627590784437262479:=0
def tw17412173492010301690:=0
def tw10373915127547877514:=0
def tw10797721592977793731:=0
def tw445169706132711165:=0
def tw1191246052195579535:=0
def tw4490427988599708994:=0
def tw12622621993409807751:=0
def tw13495032506847008887:=0
def tw2264434670639239326:=0
def tw15452302254928749278:=0
def tw8173586572632122422:=0
def tw9255891210090837176:=0
def tw6417199901215651652:=0
def tw182563849648856878:=0
def tw10672787543101281320:=0
def tw10223351145730546179:=0
def tw15538597634935535942:=0
def tw17581396538246381045:=0
def tw3654996565480714762:=0
def tw1926998942840484777:=0
def tw14508603840779296659:=0
def tw16289383950127447059:=0
def tw10675490001758535279:=0
def tw16866395094048775819:=0
def tw13743622934551545125:=0
def tw143604733703580817:=0
def tw14949980703997196741:=0
def tw536326472597353469:=0
def tw14369947760821093644:=0
def tw2278021456609516360:=0
def tw12968600248228657182:=0
def tw12776418737265112953:=0
def tw3079834734528322546:=0
def tw17472592167664280661:=0
def tw16973202970202839378:=0
def tw13763746547318434358:=0
def tw3486858339191567590:=0
def tw854752569993879768:=0
def tw8625213570175661709:=0
def tw9309742091192663530:=0
def tw16186460990634158273:=0
def tw7279176933922576596:=0
def tw2252642342265863066:=0
def tw18042110688316832823:=0
def tw16072180748817911061:=0
def tw12451415883341962742:=0
def tw7960921021086031118:=0
def tw18063294773780513582:=0
def tw12976987540095019098:=0
def tw9816276634493343594:=0
def tw1877404145377794077:=0
def tw15788909652370825753:=0
def tw6165236112742299268:=0
def tw2913016055033616071:=0
def tw3379938155290183093:=0
def tw4567624893387977972:=0
def tw16960757773621345057:=0
def tw2725457954207454832:=0
def tw11859773975690641323:=0
def tw6149584361849374597:=0
def tw5087913894434152715:=0
def tw15507031396248346604:=0
def tw1508306456158962454:=0
def tw2512321725964019819:=0
def tw375571706667714786:=0
def tw7827173515492119390:=0
end PySem.W.Fast
namespace K24.Internal
open PySem L2.Internal
theorem all_mk {l:PySem.W.OpenLaw} {w:World} {K:PySem.W.Frag} {h:Heap} {mg:Str->Option Value} {fa fL:Addr} (X:K.In h) (G:h.Ns mainGlobals mg) (hfa:mg "law"=some (.ref fa))
  {pW:Addr} {nW:Nat} {tW0 tW1 tW2 tW3 tW4 tW5 tW6 tW7 tW8 tW9 tW10 tW11 tW12 tW13 tW14 tW15:Tok} {fW0 fW1 fW2 fW3 fW4 fW5 fW6 fW7 fW8 fW9 fW10 fW11 fW12 fW13 fW14:Addr}
  {fU C1 C2 C3 C4 C5 C6 C7 C8 C9 C10:Addr} {odL anL:Option Addr} {slL:Array (Option Value)} {ocL kVL dcL pmL cdL ctL:Value}
  (a1:Fm K "stands_in" mQ)
  (a2:Fm K "pasted" sM)
  (a3:Fm K "new_points" lR)
  (a4:Fm K "parts_made" lT)
  (a5:Fm K "use_made" oG)
  (a6:Fm K "with_points" kJ)
  (a7:Dm K "laid" y8)
  (a8:Fm K "lay_num" qq)
  (a9:Fm K "lay_name" oH)
  (a10:Fm K "meant_point" kK)
  (a11:Fm K "definition_point" iT)
  (a12:Fm K "lay_fn" sN)
  (a13:Fm K "lay_call" oJ)
  (a14:Fm K "lay_let" qr)
  (a15:Fm K "lay_rec" qt)
  (a16:Fm K "lay_get" qu)
  (a17:Fm K "lay_tag" qv)
  (a18:Fm K "lay_case" oK)
  (a19:Fm K "lay_row" qz)
  (a20:Fm K "lay_at" sO)
  (a21:Fm K "lay_join" oM)
  (a22:Fm K "lay_size" oN)
  (a23:Fm K "lay_sum" qA)
  (a24:Fm K "lay_less" oO)
  (a25:Fm K "lay_numbers" kM)
  (a26:Fm K "_law_stem" mS)
  (a27:Fm K "_law_words" lU)
  (a28:Fm K "_law_alike" lV)
  (a29:Fm K "_law_leaf" mU)
  (a30:Fm K "_law_knit" mV)
  (a31:Fm K "_law_pop" oP)
  (a32:Fm K "_law_number" kN)
  (a33:Fm K "_law_name" mW)
  (a34:Fm K "_law_most" mX)
  (a35:Fm K "_law_wide" mY)
  (a36:Fm K "_law_narrow" kO)
  (a37:Fm K "_law_let" oQ)
  (a38:Fm K "_law_new" oR)
  (a39:Fm K "_law_ended" lW)
  (a40:Fm K "_law_defined" kj)
  (a41:Fm K "_law_scoped" kP)
  (a42:Fm K "_law_home" mZ)
  (a43:Fm K "_law_row" oS)
  (a44:Fm K "_law_flat" m7)
  (a45:Fm K "_law_built" lX)
  (a46:Fm K "_law_told" m8)
  (a47:Fm K "_law_moved" lY)
  (a48:Fm K "_law_shifted" kl)
  (a49:Fm K "_law_within" kQ)
  (a50:Fm K "_law_crossing" jM)
  (a51:Fm K "_law_entering" jN)
  (a52:Fm K "_law_leaving" km)
  (a53:Fm K "_law_reach" lZ)
  (c1:Cm K "Make" C1)
  (n1shape:cN K (.ref C1) "shape"=some none)
  (n1parts:cN K (.ref C1) "parts"=some none)
  (n1at:cN K (.ref C1) "at"=some none)
  (n1place:cN K (.ref C1) "place"=some none)
  (e54:Mm K C1 "__init__" "Make.__init__" jO)
  (e55:Mm K C1 "told" "Make.told" m9)
  (c2:Cm K "Use" C2)
  (n2at:cN K (.ref C2) "at"=some none)
  (n2place:cN K (.ref C2) "place"=some none)
  (n2slot:cN K (.ref C2) "slot"=some none)
  (e56:Mm K C2 "__init__" "Use.__init__" ju)
  (cg56:cW K (.ref C2) "__getattribute__"=some (some (.builtin "type.__getattribute__")))
  (cr56:PySem.W.readsIn K C2 (.type "type")=true)
  (i56:cN K (.ref C2) "__init__"=some (some (.ref fU)))
  (cf56:PySem.W.findCls K (.ref C2) (.type "type") "__init__"=some (.val (.ref fU)))
  (c3:Cm K "NumUse" C3)
  (n3at:cN K (.ref C3) "at"=some none)
  (n3place:cN K (.ref C3) "place"=some none)
  (n3slot:cN K (.ref C3) "slot"=some none)
  (e57:Mm K C3 "told" "NumUse.told" kR)
  (ii3:cN K (.ref C3) "__init__"=some (some (.ref fU)))
  (c4:Cm K "CallUse" C4)
  (n4arg:cN K (.ref C4) "arg"=some none)
  (n4out:cN K (.ref C4) "out"=some none)
  (n4at:cN K (.ref C4) "at"=some none)
  (n4place:cN K (.ref C4) "place"=some none)
  (n4slot:cN K (.ref C4) "slot"=some none)
  (e58:Mm K C4 "__init__" "CallUse.__init__" iU)
  (e59:Mm K C4 "told" "CallUse.told" kn)
  (c5:Cm K "TakeUse" C5)
  (n5fields:cN K (.ref C5) "fields"=some none)
  (n5at:cN K (.ref C5) "at"=some none)
  (n5place:cN K (.ref C5) "place"=some none)
  (n5slot:cN K (.ref C5) "slot"=some none)
  (e60:Mm K C5 "__init__" "TakeUse.__init__" iV)
  (e61:Mm K C5 "told" "TakeUse.told" kq)
  (c6:Cm K "CaseUse" C6)
  (n6arms:cN K (.ref C6) "arms"=some none)
  (n6at:cN K (.ref C6) "at"=some none)
  (n6place:cN K (.ref C6) "place"=some none)
  (n6slot:cN K (.ref C6) "slot"=some none)
  (e62:Mm K C6 "__init__" "CaseUse.__init__" iW)
  (e63:Mm K C6 "told" "CaseUse.told" kr)
  (c7:Cm K "RowUse" C7)
  (n7out:cN K (.ref C7) "out"=some none)
  (n7at:cN K (.ref C7) "at"=some none)
  (n7place:cN K (.ref C7) "place"=some none)
  (n7slot:cN K (.ref C7) "slot"=some none)
  (e64:Mm K C7 "__init__" "RowUse.__init__" jl)
  (e65:Mm K C7 "told" "RowUse.told" kS)
  (c8:Cm K "Board" C8)
  (n8points:cN K (.ref C8) "points"=some none)
  (n8makes:cN K (.ref C8) "makes"=some none)
  (n8uses:cN K (.ref C8) "uses"=some none)
  (n8flows:cN K (.ref C8) "flows"=some none)
  (n8root:cN K (.ref C8) "root"=some none)
  (e66:Mm K C8 "__init__" "Board.__init__" jz)
  (e67:Mm K C8 "point" "Board.point" kT)
  (e68:Mm K C8 "make" "Board.make" mf)
  (e69:Mm K C8 "use" "Board.use" ng)
  (e70:Mm K C8 "flow" "Board.flow" mh)
  (e71:Mm K C8 "rooted" "Board.rooted" ku)
  (c9:Cm K "Laying" C9)
  (n9program:cN K (.ref C9) "program"=some none)
  (n9homes:cN K (.ref C9) "homes"=some none)
  (n9papers:cN K (.ref C9) "papers"=some none)
  (n9board:cN K (.ref C9) "board"=some none)
  (n9held:cN K (.ref C9) "held"=some none)
  (n9starts:cN K (.ref C9) "starts"=some none)
  (e72:Mm K C9 "__init__" "Laying.__init__" jm)
  (e73:Mm K C9 "lay_definition" "Laying.lay_definition" gT)
  (e74:Mm K C9 "lay" "Laying.lay" mi)
  (c10:Cm K "Program" C10)
  (n10names:cN K (.ref C10) "names"=some none)
  (n10roots:cN K (.ref C10) "roots"=some none)
  (n10rows:cN K (.ref C10) "rows"=some none)
  (e75:Mm K C10 "__init__" "Program.__init__" iX)
  (z_all:dE K mainGlobals "all"=some none)
  (z_bool:dE K mainGlobals "bool"=some none)
  (z_enumerate:dE K mainGlobals "enumerate"=some none)
  (z_int:dE K mainGlobals "int"=some none)
  (z_isinstance:dE K mainGlobals "isinstance"=some none)
  (z_len:dE K mainGlobals "len"=some none)
  (z_list:dE K mainGlobals "list"=some none)
  (z_max:dE K mainGlobals "max"=some none)
  (z_range:dE K mainGlobals "range"=some none)
  (z_str:dE K mainGlobals "str"=some none)
  (z_sum:dE K mainGlobals "sum"=some none)
  (z_tuple:dE K mainGlobals "tuple"=some none)
  (z_zip:dE K mainGlobals "zip"=some none)
  (w0:dE K mainGlobals "lay_num"=some (some (.ref fW0)))
  (w1:dE K mainGlobals "lay_name"=some (some (.ref fW1)))
  (w2:dE K mainGlobals "lay_fn"=some (some (.ref fW2)))
  (w3:dE K mainGlobals "lay_call"=some (some (.ref fW3)))
  (w4:dE K mainGlobals "lay_let"=some (some (.ref fW4)))
  (w5:dE K mainGlobals "lay_rec"=some (some (.ref fW5)))
  (w6:dE K mainGlobals "lay_get"=some (some (.ref fW6)))
  (w7:dE K mainGlobals "lay_tag"=some (some (.ref fW7)))
  (w8:dE K mainGlobals "lay_case"=some (some (.ref fW8)))
  (w9:dE K mainGlobals "lay_row"=some (some (.ref fW9)))
  (w10:dE K mainGlobals "lay_at"=some (some (.ref fW10)))
  (w11:dE K mainGlobals "lay_join"=some (some (.ref fW11)))
  (w12:dE K mainGlobals "lay_size"=some (some (.ref fW12)))
  (w13:dE K mainGlobals "lay_sum"=some (some (.ref fW13)))
  (w14:dE K mainGlobals "lay_less"=some (some (.ref fW14)))
  (gW:dE K mainGlobals "LAYERS"=some (some (.ref pW)))
  (sW:(pW==sysModules)=false)
  (hW:K.lookup pW=some ⟨.type "dict",none,.dict #[⟨PyData.keyHash w.params "num",.str "num" tW0,.ref fW0⟩,⟨PyData.keyHash w.params "name",.str "name" tW1,.ref fW1⟩,⟨PyData.keyHash w.params "fn",.str "fn" tW2,.ref fW2⟩,⟨PyData.keyHash w.params "call",.str "call" tW3,.ref fW3⟩,⟨PyData.keyHash w.params "let",.str "let" tW4,.ref fW4⟩,⟨PyData.keyHash w.params "rec",.str "rec" tW5,.ref fW5⟩,⟨PyData.keyHash w.params "get",.str "get" tW6,.ref fW6⟩,⟨PyData.keyHash w.params "tag",.str "tag" tW7,.ref fW7⟩,⟨PyData.keyHash w.params "case",.str "case" tW8,.ref fW8⟩,⟨PyData.keyHash w.params "row",.str "row" tW9,.ref fW9⟩,⟨PyData.keyHash w.params "at",.str "at" tW10,.ref fW10⟩,⟨PyData.keyHash w.params "join",.str "join" tW11,.ref fW11⟩,⟨PyData.keyHash w.params "size",.str "size" tW12,.ref fW12⟩,⟨PyData.keyHash w.params "add",.str "add" tW13,.ref fW13⟩,⟨PyData.keyHash w.params "sub",.str "sub" tW14,.ref fW13⟩,⟨PyData.keyHash w.params "less",.str "less" tW15,.ref fW14⟩] nW,#[]⟩)
  (aL:dE K mainGlobals "law"=some (some (.ref fL))) (lL:K.lookup fL=some ⟨ocL,odL,.func (dB "law" "law" (iR sP) (gZ sP) (e8 sP) .none kVL dcL pmL anL cdL ctL),slL⟩) (cL:dC K cdL "law"=true) (kL:cX K (.ref fL)=true):
  ∃fd:FuncData,(∀(s:Shared) (v:Value),BindsTo s fd ⟨[v],[]⟩ [("_law_script",v)])/\∀base:Heap,K.In base->base.Ns mainGlobals mg->qZ l.prog w K mg base CX0 300 fa fd ["_law_script"] (v9 K):=by
 have e:=hfa.symm.trans (dF X G aL)
 cases e
 have x56:Mx K C2 "__init__" "Use.__init__" ju ["self","at","place","slot"]:=e56.x
 have T:Txt K mg:=⟨a1.x X G,a2.x X G,a3.x X G,a4.x X G,a5.x X G,a6.x X G,Classical.choice (by obtain⟨a,l,c,k,t⟩:=a7;exact⟨⟨_,_,y0 l c k t,(y0 l c k t).binds (ps:=["program","homes","which","papers"]) (fun _ _ _ _ _ _ _ us hl=>match us,hl with|[_,_,_],_=>⟨_,rfl,rfl⟩),dF X G a,k⟩⟩),a8.x X G,a9.x X G,a10.x X G,a11.x X G,a12.x X G,a13.x X G,a14.x X G,a15.x X G,a16.x X G,a17.x X G,a18.x X G,a19.x X G,a20.x X G,a21.x X G,a22.x X G,a23.x X G,a24.x X G,a25.x X G,a26.x X G,a27.x X G,a28.x X G,a29.x X G,a30.x X G,a31.x X G,a32.x X G,a33.x X G,a34.x X G,a35.x X G,a36.x X G,a37.x X G,a38.x X G,a39.x X G,a40.x X G,a41.x X G,a42.x X G,a43.x X G,a44.x X G,a45.x X G,a46.x X G,a47.x X G,a48.x X G,a49.x X G,a50.x X G,a51.x X G,a52.x X G,a53.x X G,c1.x X G,n1shape,n1parts,n1at,n1place,e54.x,c1.k e54.x,e55.x,c2.x X G,n2at,n2place,n2slot,x56,⟨cg56,⟨_,cr56,sf i56 x56.me.at_▸cf56⟩,x56.me.kp⟩,c2.k x56,c3.x X G,n3at,n3place,n3slot,e57.x,⟨c3.ms,sf i56 x56.me.at_▸ii3,x56.me.fn,c3.kc⟩,c4.x X G,n4arg,n4out,n4at,n4place,n4slot,e58.x,c4.k e58.x,e59.x,c5.x X G,n5fields,n5at,n5place,n5slot,e60.x,c5.k e60.x,e61.x,c6.x X G,n6arms,n6at,n6place,n6slot,e62.x,c6.k e62.x,e63.x,c7.x X G,n7out,n7at,n7place,n7slot,e64.x,c7.k e64.x,e65.x,c8.x X G,n8points,n8makes,n8uses,n8flows,n8root,e66.x,c8.k e66.x,e67.x,e68.x,e69.x,e70.x,e71.x,c9.x X G,n9program,n9homes,n9papers,n9board,n9held,n9starts,e72.x,c9.k e72.x,e73.x,e74.x,c10.x X G,n10names,n10roots,n10rows,e75.x,c10.k e75.x,dG X G z_all,dG X G z_bool,dG X G z_enumerate,dG X G z_int,dG X G z_isinstance,dG X G z_len,dG X G z_list,dG X G z_max,dG X G z_range,dG X G z_str,dG X G z_sum,dG X G z_tuple,dG X G z_zip⟩
 have z:=(dF X G w0).symm.trans T.d8.m
 cases z
 have z:=(dF X G w1).symm.trans T.d9.m
 cases z
 have z:=(dF X G w2).symm.trans T.d12.m
 cases z
 have z:=(dF X G w3).symm.trans T.d13.m
 cases z
 have z:=(dF X G w4).symm.trans T.d14.m
 cases z
 have z:=(dF X G w5).symm.trans T.d15.m
 cases z
 have z:=(dF X G w6).symm.trans T.d16.m
 cases z
 have z:=(dF X G w7).symm.trans T.d17.m
 cases z
 have z:=(dF X G w8).symm.trans T.d18.m
 cases z
 have z:=(dF X G w9).symm.trans T.d19.m
 cases z
 have z:=(dF X G w10).symm.trans T.d20.m
 cases z
 have z:=(dF X G w11).symm.trans T.d21.m
 cases z
 have z:=(dF X G w12).symm.trans T.d22.m
 cases z
 have z:=(dF X G w13).symm.trans T.d23.m
 cases z
 have z:=(dF X G w14).symm.trans T.d24.m
 cases z
 exact⟨dB "law" "law" (iR sP) (gZ sP) (e8 sP) .none kVL dcL pmL anL cdL ctL,fun s v=> .of_eq rfl,fun base _ _=>DV T (Hr T (dF X G gW) sW hW) (t6 (st:=sP) lL cL kL)⟩
theorem walk {l:PySem.W.OpenLaw} {q:Program} {loose:List Str} {XP:(Str->Option Value)->Heap->Prop} {YP:World->Heap->Prop} {d:DefRec} {K:Params->PySem.W.Frag} (hn:l.most=some 63) (hdf:d.params.defaults=[])
  (hY:∀(w:World) (h:Heap),YP w h->(K w.params).In h)
  (F:∀(w:World) (mg:Str->Option Value) (fa:Addr) (h:Heap),(K w.params).In h->h.Ns mainGlobals mg->mg d.name=some (.ref fa)->
   ∃fd:FuncData,(∀(s:Shared) (u:Value),BindsTo s fd ⟨[u],[]⟩ [("_law_script",u)])/\∀base:Heap,(K w.params).In base->base.Ns mainGlobals mg->qZ l.prog w (K w.params) mg base CX0 300 fa fd ["_law_script"] (v9 (K w.params))):
  PySem.W.WalkO q loose XP YP l.row.toRowW d [] (fun f vs=>PySem.call f vs):=
 L2.Internal.walk_of (n:=63) (k:=300) (x:="_law_script") (CX:=fun _=>CX0) (sp:=fun w=>v9 (K w.params)) hn (by decide) hdf ⟨rfl,by decide,by decide⟩ hY F (fun _ _ a ns hl _ hS=>⟨a,ns,rfl,hS,hl,fun _=>rfl⟩) fun _ _ _ _ _ z=>z
end K24.Internal
open PySem PySem.W PyProof.Rows
set_option maxRecDepth 100000 in
set_option maxHeartbeats 0 in
theorem PySem.Challenge.cw_flowkinds_k24_a_let_laid_anew_holds : PySem.Challenge.rw_flowkinds_k24_a_let_laid_anew.Holds := by
 w_on; o_law; k_head; (case hw => w_witness2)
 k_fill
 refine K24.Internal.walk (l := PySem.Challenge.rw_flowkinds_k24_a_let_laid_anew) rfl rfl (fun w h Y => PySem.W.kIn_of Y) ?F
 case F =>
  intro w mg fa h KX G hmg
  apply K24.Internal.all_mk KX G hmg
  all_goals first | (apply K24.Internal.Dm.mk <;> k_is) | (apply K24.Internal.Fm.mk <;> k_is) | (apply K24.Internal.Mm.mk <;> k_is) | (apply K24.Internal.Cm.mk <;> k_is) | k_is | rfl
