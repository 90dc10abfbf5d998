import PyProof.Rows.All
import Wide.All
import OpenK.AllK
import Wide.FinOn
import Lean
import PyProof.EqAt
import PyProof.EqKinds
import PyProof.TupleCall
import PyProof.NeKinds
import PySem.Challenge.RW_flowkinds_k61_rows
set_option Elab.async false
set_option linter.all false
set_option maxRecDepth 100000
set_option maxHeartbeats 4000000
set_option genInjectivity false
set_option genSizeOf false
set_option bootstrap.genMatcherCode false
set_option compiler.extract_closed false
theorem gJ {c:Prop} {h:Decidable c} (hnc:¬c) {α:Sort u} {t e:α}:(ite c t e)=e:=if_neg hnc
theorem gY {c:Prop} {h:Decidable c} (hc:c) {α:Sort u} {t e:α}:(ite c t e)=t:=if_pos hc
theorem hV {p:Prop} [Decidable p] (h:p):decide p=true:=decide_eq_true h
theorem iw {p:Prop} [Decidable p] (h:¬p):decide p=false:=decide_eq_false h
theorem gQ {p:Prop} (h:p:=by decide+kernel):p:=h
theorem qL:0<=PySem.sizeLine:=by decide
theorem rp:1<=PySem.sizeLine:=by decide
theorem oT:2<=PySem.sizeLine:=by decide
theorem n8:3<=PySem.sizeLine:=by decide
theorem JY:4<=PySem.sizeLine:=by decide
theorem Ip:5<=PySem.sizeLine:=by decide
theorem IB:15<=PySem.sizeLine:=by decide
open List renaming all_cons→ba,all_eq_true→bK,all_map→bz,any_cons→aT,any_eq_true→bh,append_assoc→bM,append_cancel_left→cA,append_nil→aF,cons_append→aU,cons_ne_nil→bL,dropLast_concat_getLast→bI,drop_eq_getElem_cons→bN,drop_length→bZ,drop_zero→cf,eq_nil_of_length_eq_zero→bS,filterMap_cons→ag,filter_append→bJ,find?_cons→aS,flatten_cons→bQ,forall_mem_cons→bV,getD_eq_getElem?_getD→bq,getElem?_append_left→aN,getElem?_append_right→aM,getElem?_cons_succ→bE,getElem?_eq_getElem→bB,getElem?_eq_none→bF,getElem?_eq_some_iff→au,getElem?_map→aO,getElem?_of_mem→cx,getElem?_set_ne→aw,getElem?_set_self→av,getElem?_take→cy,getLast?_concat→cm,head?_drop→bY,headD_eq_head?_getD→bX,length→aJ,length_append→aQ,length_cons→aB,length_drop→aY,length_eq_zero_iff→bH,length_filter_le→bu,length_map→aE,length_nil→aV,length_range→cB,length_replicate→aR,length_reverse→bG,length_set→aZ,length_singleton→bc,length_take→aK,length_zip→bU,lookup→aC,lookup_cons→bp,map_append→bo,map_congr_left→bW,map_cons→aD,map_eq_nil_iff→cn,map_map→bC,map_nil→aW,mem_append→ao,mem_append_left→aq,mem_append_right→aA,mem_cons→ak,mem_cons_of_mem→aj,mem_cons_self→ah,mem_filterMap→az,mem_iff_getElem?→cj,mem_map→bf,mem_map_of_mem→cq,mem_of_getElem?→aP,mem_of_mem_drop→bO,mem_of_mem_take→cz,mem_range→af,mem_singleton→bj,mem_singleton_self→cD,nil_append→bT,nodup_append→b9,nodup_cons→aG,nodup_nil→cg,not_mem_nil→bD,of_mem_zip→aH,range→aa,range_succ_eq_map→bx,replicate→aI,replicate_succ→bR,replicate_succ'→cC,reverse_append→cu,reverse_cons→bb,reverse_reverse→cw,set_set→br,singleton_append→bP,size_toArray→aX,take_add_one→cb,take_append_drop→b6,take_length→bw,take_of_length_le→cc,zip→bA
open Nat renaming add_assoc→dr,add_sub_cancel_left→dt,le_add_right→cX,le_of_ble_eq_true→du,le_of_lt→cJ,le_refl→cM,le_succ→cQ,le_succ_of_le→dm,le_trans→cH,lt_irrefl→cF,lt_of_le_of_lt→cR,lt_of_lt_of_le→cE,lt_succ_of_lt→cU,lt_succ_self→cP,max_le→di,mul_le_mul_right→dv,ne_of_gt→cK,ne_of_lt→cG,not_lt_zero→dh,sub_self→df,succ_le_succ→dj,succ_ne_zero→cW,toDigits→cY,toDigits_append_toDigits→c9,toDigits_of_lt_base→cZ,zero_add→da,zero_le→cO
open Option renaming isSome_iff_exists→dy,isSome_map→dA,map_eq_some_iff→dB,map_some→dz,some→dw
open PySem.W renaming callWith_K→eA,cellsFrom_some→eC,codeIn→eF,codeRec_of→eG,emptyDict→dS,excIn→eI,findIn→dM,fnOf→eE,hasDictIn→dJ,hideAll→dE,hideAll_get→dF,instObj→dC,isFn→dO,keepIn→dW,kia_one→dZ,kitOne→dY,kitx_dict→ej,kitx_list→ee,lookIn→dH,makesIn→dR,methodCall_KW→eB,methodObj→dD,mg_none_of→eP,mg_of→eO,nsIn→eL,nsOkIn→eK,of_hideAll→dG,plainGet→dI,plainGet_of→dN,plainOver→dP,specialIn→dU,subIn→eJ,tailIn→eM,takerIn→dQ
open PySem.F renaming args_tuple_add_2→eT,entry_tuple_add→eS,excBase_ValueError→eU,plainAttrs_list→eX,plainAttrs_str→eW,slot_dict_getitem→eQ,slot_dict_update→eV,slot_list_append→eY,slot_list_pop→fb,slot_str_join→fe,slot_tuple_add→eR,type_list_append→eZ,type_list_pop→fc,type_str_join→ff
open Bool renaming and_eq_true→fj,and_false→fk,eq_iff_iff→fh,false_ne_true→fg,false_xor→fo,true_and→fq
open Array renaming getElem?_eq_getElem→fz,getElem?_toList→fw,length_toList→fu,toList_append→fA
open Int renaming emod_lt_of_pos→fF,emod_nonneg→fE,eq_ofNat_of_zero_le→fD,toNat_natCast→fC
open PySem.Heap renaming get?_push_of_some→fJ,get?_push_size→fH,get?_update_other→fO,get?_update_self→fN,lt_size→fG,size_push→fK
open PyProof.Rows renaming callWith_type1→fQ,slot_tuple_getitem→fS
open PySem renaming Value→Zz,Shared→Zy,Addr→Zx,Around→Zw,World→Zv,Program→Zu,Heap→Zt,FuncData→Zs,Expr→Zr,Stmt→Zq
open PySem.W renaming Frag→Zp
abbrev Za:=List (PySem.Addr×PySem.Obj)
abbrev Zb:=PySem.Value->PySem.Shared->Prop
abbrev Zc:=PySem.Str->Option PySem.Value
abbrev Zd:=List PySem.Str
noncomputable section
namespace L2.Internal
theorem auR (h:True=True:=by rfl):True:=trivial
theorem auD (h:True:=by decide):True:=trivial
theorem auI (h:True->True=True:=by intro _;rfl):True:=trivial
theorem auL (h:True=True\/True:=by first|exact .inl rfl|exact .inr rfl|assumption):True:=trivial
open PySem PySem.Spec PyProof.Rows
abbrev Key:=Sum Int Str
def zy:Key->Zz->Bool
 | .inl k,v=>Value.isInt k v
 | .inr x,v=>Value.isStrOf x v
def keyH (w:Zv):Key->Int
 | .inl k=>hashInt k
 | .inr x=>hashStr w x
theorem i7:∀{k:Key} {v:Zz},zy k v=true->(∃i t,k=Sum.inl i/\v=Value.int i t)\/(∃x t,k=Sum.inr x/\v=Value.str x t)
 | .inl i,v,h=>by obtain⟨t,e⟩:=Value.isInt_shape (k:=i) (v:=v) h;exact .inl ⟨i,t,rfl,e⟩
 | .inr x,v,h=>by obtain⟨t,e⟩:=Value.isStrOf_shape (x:=x) (v:=v) h;exact .inr ⟨x,t,rfl,e⟩
theorem Aj (i:Int) (t:Tok):zy (.inl i) (.int i t)=true:=by simp[zy,Value.isInt]
theorem rq (x:Str) (t:Tok):zy (.inr x) (.str x t)=true:=by simp[zy,Value.isStrOf]
theorem Gm (a b:Int):decide ((Sum.inl a:Key)=Sum.inl b)=(a==b):=by
 by_cases e:a=b;·subst e;simp
 ·have h:¬(Sum.inl a:Key)=Sum.inl b:=fun q=>e (Sum.inl.inj q);rw[iw h];exact(beq_eq_false_iff_ne.mpr e).symm
theorem Gn (a b:Str):decide ((Sum.inr a:Key)=Sum.inr b)=decide (a=b):=by
 by_cases e:a=b;·subst e;simp
 ·have h:¬(Sum.inr a:Key)=Sum.inr b:=fun q=>e (Sum.inr.inj q);rw[iw h,iw e]
theorem Gq (a:Int) (b:Str):decide ((Sum.inl a:Key)=Sum.inr b)=false:=iw (fun q=>nomatch q)
theorem Gr (a:Str) (b:Int):decide ((Sum.inr a:Key)=Sum.inl b)=false:=iw (fun q=>nomatch q)
def jQ (prog:Zu) (w:Zv):PySem.KeyKind prog w Key where
 is:=zy
 hash:=keyH w
 inj:=fun v a b ha hb=>by
  rcases i7 ha with⟨i,t,rfl,rfl⟩|⟨x,t,rfl,rfl⟩
  ·rcases i7 hb with⟨j,u,rfl,e⟩|⟨y,u,rfl,e⟩;·injection e with e1 _;rw[e1]
   ·exact nomatch e
  ·rcases i7 hb with⟨j,u,rfl,e⟩|⟨y,u,rfl,e⟩;·exact nomatch e
   ·injection e with e1 _;rw[e1]
 byValue:=fun k v h=>by rcases i7 h with⟨i,t,rfl,rfl⟩|⟨x,t,rfl,rfl⟩<;>rfl
 pyHash:=fun hv h=>by
  rcases i7 hv with⟨i,t,rfl,rfl⟩|⟨x,t,rfl,rfl⟩;·exact wpAny_pyHash_int h
  ·exact wpAny_pyHash_str h
 eqBool:=fun hu hv h=>by
  rcases i7 hu with⟨i,t,rfl,rfl⟩|⟨x,t,rfl,rfl⟩
  ·rcases i7 hv with⟨j,u,rfl,rfl⟩|⟨y,u,rfl,rfl⟩;·rw[Gm]at h;exact wpAny_eqBool_int h
   ·rw[Gq]at h;exact SeqAt.EqAt.int_str i t y u _ _ _ _ h
  ·rcases i7 hv with⟨j,u,rfl,rfl⟩|⟨y,u,rfl,rfl⟩;·rw[Gr]at h;exact SeqAt.EqAt.str_int x t j u _ _ _ _ h
   ·rw[Gn]at h;exact wpAny_eqBool_str h
 «strs»:=fun k x t v h=>by
  rcases i7 h with⟨i,u,rfl,e⟩|⟨y,u,rfl,e⟩;·exact nomatch e
  ·injection e with e1 _;subst e1;cases v<;>rfl
theorem w8 (prog:Zu) (w:Zv) (i:Int) (t:Tok):(jQ prog w).is (.inl i) (.int i t)=true:=Aj i t
theorem xg (prog:Zu) (w:Zv) (x:Str) (t:Tok):(jQ prog w).is (.inr x) (.str x t)=true:=rq x t
end L2.Internal
namespace L2.Internal
open PySem PySem.Spec PyProof.Rows
set_option genInjectivity true in
inductive V where
 |non|bl (b:Bool)|int (i:Int)|str (x:Str)|byt (b:Array UInt8)|flt (b:UInt64)|ref (a:Zx)|ty (n:String)
 deriving DecidableEq
def iY:V->Zz->Prop
 | .non,u=>u=Value.none
 | .bl b,u=>u=Value.bool b
 | .int i,u=>∃t,u=Value.int i t
 | .str x,u=>∃t,u=Value.str x t
 | .byt b,u=>∃t,u=Value.bytes b t
 | .flt b,u=>∃t,u=Value.float b t
 | .ref a,u=>u=Value.ref a
 | .ty n,u=>u=Value.type n
abbrev iX:List V->List Zz->Prop:=Paired iY
theorem iX.length {xs:List V} {us:List Zz} (r:iX xs us):xs.length=us.length:=Paired.length r
theorem iX.get:∀{xs:List V} {us:List Zz} {i:Nat} {x:V},iX xs us->xs[i]?=some x->∃u,us[i]?=some u/\iY x u
 |_,_,_,_,.nil,e=>by simp at e
 |_,_,0,_,.cons r _,e=>by simp at e;subst e;exact⟨_,rfl,r⟩
 |_,_,i+ 1,x,.cons _ t,e=>by obtain⟨u,h1,h2⟩:=iX.get (i:=i) (x:=x) t (by simpa using e);exact⟨u,by simpa using h1,h2⟩
theorem iX.set {x:V} {u:Zz} (r:iY x u):∀{xs:List V} {us:List Zz} (i:Nat),iX xs us->iX (xs.set i x) (us.set i u)
 |_,_,_,.nil=> .nil
 |_,_,0,.cons _ t=> .cons r t
 |_,_,i+ 1,.cons q t=> .cons q (iX.set r i t)
theorem iX.append:∀{xs ys:List V} {us ws:List Zz},iX xs us->iX ys ws->iX (xs++ys) (us++ws)
 |_,_,_,_,.nil,s=>s
 |_,_,_,_,.cons r t,s=> .cons r (iX.append t s)
theorem iX.take:∀{xs:List V} {us:List Zz} (n:Nat),iX xs us->iX (xs.take n) (us.take n)
 |_,_,0,_=> .nil
 |_,_,_+ 1,.nil=> .nil
 |_,_,n+ 1,.cons r t=> .cons r (iX.take n t)
theorem iX.drop:∀{xs:List V} {us:List Zz} (n:Nat),iX xs us->iX (xs.drop n) (us.drop n)
 |_,_,0,r=>r
 |_,_,_+ 1,.nil=> .nil
 |_,_,n+ 1,.cons _ t=>iX.drop n t
def ui:Option V->Option Zz->Prop
 |some v,some u=>iY v u
 |none,none=>True
 |_,_=>False
def KV {κ:Type}:List (κ×V)->List (κ×Zz)->Prop:=Paired fun(p:κ×V) (q:κ×Zz)=>p.1=q.1/\iY p.2 q.2
def kV:Key->V
 | .inl i=> .int i
 | .inr x=> .str x
inductive HO where
 |lst (xs:List V)
 |tup (xs:List V)
 |dK (kvs:List (Key×V))|dT (kvs:List (List Key×V))
 |set (S:Int->Bool) (n:Nat)
 |ins (C dx:Zx) (fs:List (Str×V))
 |own (x:Zx)
 |xd (fs:List (Str×V))
 |met (f x:Zx)
 |rng (lo hi:Int)
 |frz (o:Obj) (u:HO)
 |tbl (ps:Array Zz)
 |ext (φ:Zt->Prop)
abbrev Hp:=Zx->Option HO
def yq (h:Zt) (a:Zx) (items:Array Zz):Prop:=∃o,h.get? a=some o/\o.cls= .type "tuple"/\∃n,o.data= .seq items n/\o.dict=none
theorem yq.tup {h:Zt} {a:Zx} {items:Array Zz}:yq h a items->IsTup h a items
 |⟨o,h1,h2,n,h3,_⟩=>⟨o,h1,h2,n,h3⟩
theorem yq.lt {h:Zt} {a:Zx} {items:Array Zz} (p:yq h a items):a<h.objs.size:=by obtain⟨o,e,_⟩:=p;exact fG e
theorem yq.new (h:Zt) (items:Array Zz):yq (h.push {cls:= .type "tuple",data:= .seq items}) h.objs.size items:=⟨_,fH _ rfl,rfl,_,rfl,rfl⟩
def upd (H:Hp) (a:Zx) (o:HO):Hp:=fun b=>if b=a then some o else H b
theorem fY {H:Hp} {a:Zx} {o:HO}:upd H a o a=some o:=by unfold upd;rw[gY rfl]
theorem gr {H:Hp} {a b:Zx} {o:HO} (h:b≠a):upd H a o b=H b:=by unfold upd;rw[gJ h]
theorem Ak {H:Hp} {a:Zx} {o u:HO}:upd (upd H a o) a u=upd H a u:=by funext b;unfold upd;split<;>rfl
theorem kS {H:Hp} {a b:Zx} {o u:HO} (h:H a=some o) (h':H b=some u) (d:o≠u):a≠b:=by intro e;subst e;rw[h]at h';exact d (dw.inj h')
theorem gm {H:Hp} {a b:Zx} {o:HO} (h:H a=some o) (h':H b=none):a≠b:=by intro e;subst e;rw[h]at h';cases h'
section
variable (P:Zu) (w:Zv)
def jU (H:Hp) (h:Zt) (a:Zx):HO->Prop
 | .lst xs=>xs.length<=sizeLine/\∃(its:List Zz) (n:Nat),iX xs its/\h.get? a=some {cls:= .type "list",data:= .seq its.toArray n}
 | .tup xs=>xs.length<=sizeLine/\∃its:List Zz,iX xs its/\yq h a its.toArray
 | .dK kvs=>kvs.length<=sizeLine/\(a==sysModules)=false/\∃vs,KV kvs vs/\h.DictOf (jQ P w) a vs
 | .dT kvs=>kvs.length<=sizeLine/\(a==sysModules)=false/\∃xs:List (List Key×Zx×Zz),
   Paired (fun(p:List Key×V) (q:List Key×Zx×Zz)=>p.1=q.1/\H q.2.1=some (.tup (p.1.map kV))/\iY p.2 q.2.2) kvs xs/\
   ∃o es ep,h.get? a=some o/\o.ExactDict/\o.data= .dict es ep/\es.toList=xs.map (entryOfKey (tupleKind (jQ P w)))/\(xs.map (·.1)).Nodup
 | .set S n=>h.SetOf (intKind P w) a S n
 | .ins C dx fs=>H dx=some (.own a)/\fs.length<=1000/\dx≠a/\h.get? a=some (dC C dx)/\
   ∃mA,h.Ns1 dx mA/\(∀f,ui (fs.lookup f) (mA f))/\PySem.Within mA (fs.map (·.1))
 | .own _=>∃o,h.get? a=some o
 | .xd fs=>∃mA,h.Ns1 a mA/\∀f,ui (fs.lookup f) (mA f)
 | .rng lo hi=>∃t u v,h.get? a=some {cls:= .type "range",data:= .fields #[.int lo t,.int hi u,.int 1 v]}
 | .frz o u=>h.get? a=some o/\jU H h a u
 | .tbl ps=>h.get? a=some {cls:= .none,data:= .fields ps}
 | .met f x=>h.get? a=some (dD (.ref f) (.ref x))
 | .ext φ=>φ h/\(∃o,h.get? a=some o)/\∀h1 h2:Zt,φ h1->(∀o,h1.get? a=some o->h2.get? a=some o)->φ h2
def HOk (H:Hp) (h:Zt):Prop:=∀a o,H a=some o->jU P w H h a o
end
section
variable {P:Zu} {w:Zv} {H H':Hp} {h h':Zt} {a:Zx} {o:HO}
theorem jU.lt (x:jU P w H h a o):a<h.objs.size:=by
 cases o with
 |lst xs=>obtain⟨_,_,_,_,e⟩:=x;exact fG e
 |tup xs=>obtain⟨_,_,_,p⟩:=x;exact p.lt
 |dK kvs=>obtain⟨_,_,_,_,o,_,_,e,_⟩:=x;exact fG e
 |dT kvs=>obtain⟨_,_,_,_,o,_,_,e,_⟩:=x;exact fG e
 |set S n=>obtain⟨o,_,_,_,e,_⟩:=x;exact fG e
 |ins C dx fs=>obtain⟨_,_,_,e,_⟩:=x;exact fG e
 |own y=>obtain⟨_,e⟩:=x;exact fG e
 |xd fs=>obtain⟨_,⟨_,_,_,e,_⟩,_⟩:=x;exact fG e
 |rng lo hi=>obtain⟨_,_,_,e⟩:=x;exact fG e
 |frz ob u=>obtain⟨e,_⟩:=x;exact fG e
 |tbl ps=>exact fG (show h.get? a=some _ from x)
 |met f y=>exact fG (show h.get? a=some _ from x)
 |ext φ=>obtain⟨_,⟨_,e⟩,_⟩:=x;exact fG e
theorem Paired.mapP {α β:Type} {F G:α->β->Prop}:∀{l₁:List α} {l₂:List β},Paired F l₁ l₂->(∀a b,F a b->G a b)->Paired G l₁ l₂
 |_,_,.nil,_=> .nil
 |_,_,.cons r t,f=> .cons (f _ _ r) (Paired.mapP t f)
theorem jU.stay (x:jU P w H h a o) (k:∀b u,(b=a\/H b=some (.own a))->h.get? b=some u->h'.get? b=some u)
  (ho:∀b,H b=some (.own a)->H' b=some (.own a)) (ht:∀b xs,H b=some (.tup xs)->H' b=some (.tup xs)):jU P w H' h' a o:=by
 induction o with
 |lst xs=>obtain⟨z,its,n,r,e⟩:=x;exact⟨z,its,n,r,k _ _ (.inl rfl) e⟩
 |tup xs=>obtain⟨z,its,r,ob,e,c⟩:=x;exact⟨z,its,r,ob,k _ _ (.inl rfl) e,c⟩
 |dK kvs=>obtain⟨z,y,vs,r,ob,es,ep,e,c⟩:=x;exact⟨z,y,vs,r,ob,es,ep,k _ _ (.inl rfl) e,c⟩
 |dT kvs=>obtain⟨z,y,xs,r,ob,es,ep,e,c⟩:=x;exact⟨z,y,xs,Paired.mapP r fun p q z=>⟨z.1,ht _ _ z.2.1,z.2.2⟩,ob,es,ep,k _ _ (.inl rfl) e,c⟩
 |set S n=>obtain⟨ob,es,ep,t,e,c⟩:=x;exact⟨ob,es,ep,t,k _ _ (.inl rfl) e,c⟩
 |ins C dx fs=>obtain⟨d,z,ne,e,mA,⟨od,es,ep,e2,c⟩,r⟩:=x;exact⟨ho _ d,z,ne,k _ _ (.inl rfl) e,mA,⟨od,es,ep,k _ _ (.inr d) e2,c⟩,r⟩
 |own y=>obtain⟨ob,e⟩:=x;exact⟨ob,k _ _ (.inl rfl) e⟩
 |xd fs=>obtain⟨mA,⟨od,es,ep,e,c⟩,r⟩:=x;exact⟨mA,⟨od,es,ep,k _ _ (.inl rfl) e,c⟩,r⟩
 |rng lo hi=>obtain⟨t,u,v,e⟩:=x;exact⟨t,u,v,k _ _ (.inl rfl) e⟩
 |frz ob u ih=>obtain⟨e,q⟩:=x;exact⟨k _ _ (.inl rfl) e,ih q⟩
 |tbl ps=>have e:h.get? a=some {cls:= .none,data:= .fields ps}:=x;show h'.get? a=some {cls:= .none,data:= .fields ps};exact k a _ (.inl rfl) e
 |met f y=>have e:h.get? a=some (dD (.ref f) (.ref y)):=x;show h'.get? a=some (dD (.ref f) (.ref y));exact k a _ (.inl rfl) e
 |ext φ=>obtain⟨p,⟨o,e⟩,st⟩:=x;exact⟨st _ _ p fun o q=>k _ _ (.inl rfl) q,⟨o,k _ _ (.inl rfl) e⟩,st⟩
theorem HOk.lt (x:HOk P w H h) (e:H a=some o):a<h.objs.size:=(x a o e).lt
theorem HOk.fresh (x:HOk P w H h) (e:h.objs.size<=a):H a=none:=by
 cases q:H a with
 |none=>rfl
 |some u=>exact absurd (cE (x.lt q) e) (cF _)
theorem HOk.kept (x:HOk P w H h) (k:∀b u,h.get? b=some u->h'.get? b=some u):HOk P w H h':=fun a o e=>
 (x a o e).stay (fun b u _ q=>k b u q) (fun _ q=>q) fun _ _ q=>q
theorem HOk.laid (x:HOk P w H h) (k:∀b u,h.get? b=some u->h'.get? b=some u) (hp:h.objs.size<=a) (new:jU P w (upd H a o) h' a o):HOk P w (upd H a o) h':=fun b u e=>by
 have hn:=x.fresh hp;by_cases hb:b=a;·subst hb;rw[fY]at e;cases e;exact new
 ·rw[gr hb]at e;exact(x b u e).stay (fun c v _ q=>k c v q) (fun c q=>by rw[gr (gm q hn)];exact q) fun c xs q=>by rw[gr (gm q hn)];exact q
end
def Rd (H:Hp) (a:Zx) (u:HO):Prop:=H a=some u\/∃o,H a=some (.frz o u)
theorem Rd.ok {P:Zu} {w:Zv} {H:Hp} {h:Zt} {a:Zx} {u:HO} (r:Rd H a u) (x:HOk P w H h):jU P w H h a u:=by
 rcases r with r|⟨o,r⟩;·exact x a u r
 ·obtain⟨_,q⟩:=x a _ r;exact q
def Mut:Option HO->Prop
 |some (.lst _)=>True
 |some (.dK _)=>True
 |some (.dT _)=>True
 |some (.set _ _)=>True
 |some (.ins _ _ _)=>True
 |some (.ext _)=>True
 |_=>False
section
variable {P:Zu} {w:Zv} {H:Hp} {h h':Zt} {x e:Zx} {o':HO}
theorem HOk.write (ok:HOk P w H h) (mu:Mut (H x)) (he:e=x\/H e=some (.own x)) (k:∀b u,b≠e->h.get? b=some u->h'.get? b=some u) (heo:∃u,h'.get? e=some u)
  (new:jU P w (upd H x o') h' x o'):HOk P w (upd H x o') h':=fun b u q=>by
 have nown:∀c y,H c=some (.own y)->c≠x:=fun c y r z=>by subst z;rw[r]at mu;exact mu
 have ntup:∀c xs,H c=some (.tup xs)->c≠x:=fun c xs r z=>by subst z;rw[r]at mu;exact mu
 by_cases hb:b=x;·subst hb;rw[fY]at q;cases q;exact new
 ·rw[gr hb]at q;by_cases hbe:b=e
  ·have q':H b=some (.own x):=by
    rcases he with z|z;·exact absurd (hbe.trans z) hb
    ·rw[hbe];exact z
   rw[q]at q';cases q';obtain⟨v,hv⟩:=heo;exact⟨v,by rw[hbe];exact hv⟩
  ·refine(ok b u q).stay (fun c v hc r=>k c v ?_ r) (fun c r=>by rw[gr (nown c b r)];exact r) fun c xs r=>by rw[gr (ntup c xs r)];exact r
   rcases hc with rfl|hc;·exact hbe
   ·rintro rfl;rcases he with z|z;·exact nown c b hc z
    ·rw[hc]at z;cases z;exact hb rfl
end
structure Un (fs ex:List Zx) (H H':Hp) (h h':Zt):Prop where
 keep:∀b o,h.get? b=some o->H b=none->b∉fs->b∉ex->h'.get? b=some o
 slot:∀b o,h.get? b=some o->H b=none->b∈fs->b∉ex->∃sl,h'.get? b=some {o with slots:=sl}
 free:∀b o,h.get? b=some o->H b=none->b∉ex->H' b=none
 there:∀b o,h.get? b=some o->b∉ex->∃o',h'.get? b=some o'
 tups:∀b xs,H b=some (.tup xs)->H' b=some (.tup xs)
 frzs:∀b o u,H b=some (.frz o u)->H' b=some (.frz o u)
 tbls:∀b ps,H b=some (.tbl ps)->∃more,H' b=some (.tbl (ps++more))
section
variable {fs fs' ex ex':List Zx} {H H1 H2:Hp} {h h1 h2 h':Zt} {a x e:Zx} {o:HO}
theorem Un.any (u:Un fs ex H H1 h h1) {b:Zx} {ob:Obj} (q:h.get? b=some ob) (n:H b=none) (hx:b∉ex):∃sl,h1.get? b=some {ob with slots:=sl}:=by
 by_cases hb:b∈fs;·exact u.slot b ob q n hb hx
 ·exact⟨ob.slots,u.keep b ob q n hb hx⟩
theorem Un.trans (a:Un fs ex H H1 h h1) (b:Un fs ex H1 H2 h1 h2):Un fs ex H H2 h h2 where
 keep:=fun c ob q n hc hx=>b.keep c ob (a.keep c ob q n hc hx) (a.free c ob q n hx) hc hx
 slot:=fun c ob q n hc hx=>by obtain⟨sl,e1⟩:=a.slot c ob q n hc hx;obtain⟨sl',e2⟩:=b.slot c _ e1 (a.free c ob q n hx) hc hx;exact⟨sl',e2⟩
 free:=fun c ob q n hx=>by obtain⟨o',e1⟩:=a.there c ob q hx;exact b.free c o' e1 (a.free c ob q n hx) hx
 there:=fun c ob q hx=>by obtain⟨o',e1⟩:=a.there c ob q hx;exact b.there c o' e1 hx
 tups:=fun c xs q=>b.tups c xs (a.tups c xs q)
 frzs:=fun c ob xs q=>b.frzs c ob xs (a.frzs c ob xs q)
 tbls:=fun c ps q=>by obtain⟨m1,e1⟩:=a.tbls c ps q;obtain⟨m2,e2⟩:=b.tbls c _ e1;exact⟨m1++m2,by rw[e2,Array.append_assoc]⟩
theorem Un.kept (k:∀b u,h.get? b=some u->h'.get? b=some u):Un fs ex H H h h':=
 ⟨fun b ob q _ _ _=>k b ob q,fun b ob q _ _ _=>⟨ob.slots,k b ob q⟩,fun _ _ _ n _=>n,fun b ob q _=>⟨ob,k b ob q⟩,fun _ _ q=>q,fun _ _ _ q=>q,fun _ ps q=>⟨#[],by rw[q];simp⟩⟩
theorem Un.refl:Un fs ex H H h h:=Un.kept fun _ _ q=>q
theorem Un.laid (k:∀b u,h.get? b=some u->h'.get? b=some u) (hp:h.objs.size<=a) (hn:H a=none):Un fs ex H (upd H a o) h h' where
 keep:=fun b u q _ _ _=>k b u q
 slot:=fun b u q _ _ _=>⟨u.slots,k b u q⟩
 free:=fun b u q n _=>by rw[gr (cG (cE (fG q) hp))];exact n
 there:=fun b u q _=>⟨u,k b u q⟩
 tups:=fun b xs q=>by rw[gr (gm q hn)];exact q
 frzs:=fun b u xs q=>by rw[gr (gm q hn)];exact q
 tbls:=fun b ps q=>⟨#[],by rw[gr (gm q hn),q];simp⟩
theorem Un.write (mu:Mut (H x)) (he:e=x\/H e=some (.own x)) (k:∀b u,b≠e->h.get? b=some u->h'.get? b=some u) (heo:∃u,h'.get? e=some u):Un fs ex H (upd H x o) h h':=by
 have hx:∀b,H b=none->b≠x:=fun b n z=>by subst z;rw[n]at mu;exact mu
 have hb:∀b,H b=none->b≠e:=fun b n z=>by
  subst z;rcases he with r|r;·exact hx b n r
  ·rw[n]at r;cases r
 have hm:∀b u,H b=some u->¬Mut (some u)->b≠x:=fun b u q nm z=>by subst z;rw[q]at mu;exact nm mu
 refine⟨fun b u q n _ _=>k b u (hb b n) q,fun b u q n _ _=>⟨u.slots,k b u (hb b n) q⟩,fun b u q n _=>by rw[gr (hx b n)];exact n,fun b u q _=>?_,
  fun b xs q=>by rw[gr (hm b _ q fun z=>z)];exact q,fun b u xs q=>by rw[gr (hm b _ q fun z=>z)];exact q,fun b ps q=>⟨#[],by rw[gr (hm b _ q fun z=>z),q];simp⟩⟩;by_cases hbe:b=e;·subst hbe;exact heo
 ·exact⟨u,k b u hbe q⟩
end
def trk (h:Zt) (H:Hp):List Zx:=(aa h.objs.size).filter fun a=>(H a).isSome
def Cz (h:Zt) (H:Hp):Zt:=dE h (trk h H)
theorem Am (h:Zt) (H:Hp):(Cz h H).objs.size=h.objs.size:=PySem.W.hideAll_size _ _
theorem CA {h:Zt} {H:Hp} {b:Zx} {o:Obj} (e:h.get? b=some o) (n:H b=none):(Cz h H).get? b=some o:=
 dF _ e fun hm=>by have q:(H b).isSome=true:=(List.mem_filter.mp hm).2;rw[n]at q;simp at q
theorem Eo {h:Zt} {H:Hp} {b:Zx} {o:Obj} (e:(Cz h H).get? b=some o):h.get? b=some o/\H b=none:=by
 have e':h.get? b=some o:=dG (trk h H) e;refine⟨e',?_⟩
 cases q:H b with
 |none=>rfl
 |some x=>have hm:b∈trk h H:=List.mem_filter.mpr ⟨af.mpr (fG e'),by simp[q]⟩;have z:(Cz h H).get? b=none:=PySem.W.hideAll_none (trk h H) hm;rw[z]at e;cases e
structure Mod (K:Zp) (mg:Zc) (base:Zt):Prop where
 kin:K.In base
 glob:base.Ns mainGlobals mg
 blt:∃mb,base.Ns builtinsNs mb/\∀x:Str,x≠"__name__"->mb x=bootBuiltins x
 nolimit:base.NoLimit
structure Cx where
 prog:Zu
 w:Zv
 K:Zp
 mg:Str->Option Zz
 base:Zt
 A:Zw
 N:List Str
 s₀:Zy
 H₀:Hp
 env:Env
 outer:List Env
 stack:List Env
 ex:List Zx
 fn:Str->Bool
 calm:Bool
 pn:Za
 xe:Zz->Zy->Prop
def frs (l:List Env):List Zx:=l.filterMap (·.frame)
abbrev Cx.fs (X:Cx):List Zx:=frs X.outer
def Vis (sc:Scope) (x:Str):Prop:=sc.names.lookup x=some .local\/sc.names.lookup x=some .cell\/sc.names.lookup x=some .free
def Loc (sc:Scope) (x:Str):Prop:=sc.names.lookup x=some .local\/sc.names.lookup x=some .cell
def Look (env:Env) (h:Zt) (m:Zc) (x:Str) (u:Zz):Prop:=
 (env.kindOf x=some .local/\m x=some u)\/((env.kindOf x=some .cell\/env.kindOf x=some .free)/\∃c,env.cells.lookup x=some c/\h.IsCell c (some u))
structure Cx.Ok (X:Cx):Prop where
 mod:Mod X.K X.mg X.base
 kind:X.env.scope.kind= .function
 glob:X.env.globals=mainGlobals
 blt:X.env.builtins=builtinsNs
 above:X.s₀.heap.objs.size<=X.env.locals
 inj:∀x y c,X.env.cells.lookup x=some c->X.env.cells.lookup y=some c->x=y
 has:∀x,(X.env.kindOf x=some .cell\/X.env.kindOf x=some .free)->∃c,X.env.cells.lookup x=some c
 cab:∀x c,X.fn x=true->X.env.cells.lookup x=some c->X.s₀.heap.objs.size<=c
 hd:X.calm=true->X.A.handled=none
 frames:X.A.frames=some X.stack
 stk:X.stack=X.outer\/(X.stack=X.env::X.outer/\X.env.frame=some X.env.locals)
 exf:∀b∈X.ex,b≠X.env.locals/\∀x c,X.env.cells.lookup x=some c->c≠b
 bs:∀b o,X.base.get? b=some o->X.s₀.heap.get? b=some o/\X.H₀ b=none
 bsz:X.base.objs.size<=X.s₀.heap.objs.size
 noex:∀b o,X.base.get? b=some o->b∉X.ex
 exfs:∀b∈X.ex,b∉X.fs
 funs:X.s₀.heap.FunFrames X.base X.outer
 frf:∀b∈X.fs,X.H₀ b=none
structure Inv (X:Cx) (pz:Za) (σ:List (Option V)) (H:Hp) (s:Zy):Prop where
 ok:X.Ok
 os:s.os=X.s₀.os
 bare:AllBare s.gens
 base:Un X.fs X.ex X.H₀ H X.s₀.heap s.heap
 loc:∃m,s.heap.Ns X.env.locals m/\∀(i:Nat) (x:Str) (v:V),X.N[i]?=some x->σ[i]?=some (some v)->Vis X.env.scope x->∃u,iY v u/\Look X.env s.heap m x u
 cell:∀x c,X.env.cells.lookup x=some c->∃v,s.heap.IsCell c v
 free:H X.env.locals=none
 freeC:∀x c,X.env.cells.lookup x=some c->H c=none
 pin:∀p∈X.pn++pz,s.heap.get? p.1=some p.2/\H p.1=none/\p.1≠X.env.locals/\p.1∉X.fs/\∀v,p.2.data≠ .cell v
 hok:HOk X.prog X.w H s.heap
 len:σ.length=X.N.length
section
variable {X:Cx} {pz:Za} {σ:List (Option V)} {H H':Hp} {s:Zy} {h':Zt}
theorem Cx.Ok.nofr (ok:X.Ok) {b:Zx} {o:Obj} (e:X.base.get? b=some o):b∉X.fs:=fun hb=>by have:=(ok.funs.mem hb).1;rw[e]at this;cases this
theorem Inv.bs (I:Inv X pz σ H s):∀b o,X.base.get? b=some o->s.heap.get? b=some o/\H b=none:=fun b o e=>
 ⟨I.base.keep b o (I.ok.bs b o e).1 (I.ok.bs b o e).2 (I.ok.nofr e) (I.ok.noex b o e),I.base.free b o (I.ok.bs b o e).1 (I.ok.bs b o e).2 (I.ok.noex b o e)⟩
theorem Inv.bk (I:Inv X pz σ H s):∀b o,X.base.get? b=some o->s.heap.get? b=some o:=fun b o e=>(I.bs b o e).1
theorem Inv.mod (I:Inv X pz σ H s):Mod X.K X.mg X.base:=I.ok.mod
theorem Inv.kIn (I:Inv X pz σ H s):X.K.In s.heap:=I.ok.mod.kin.keeps I.bk
theorem Inv.lt (I:Inv X pz σ H s):X.env.locals<s.heap.objs.size:=let⟨_,hn,_⟩:=I.loc;hn.lt
theorem Inv.sz (I:Inv X pz σ H s):X.s₀.heap.objs.size<=s.heap.objs.size:=cH I.ok.above (cJ I.lt)
theorem Inv.nofs (I:Inv X pz σ H s) {a:Zx} (h:s.heap.objs.size<=a):a∉X.fs:=fun hb=>by obtain⟨_,o,ho,_⟩:=I.ok.funs.mem hb;exact absurd (cE (fG ho) (cH I.sz h)) (cF _)
theorem Inv.cne (I:Inv X pz σ H s):∀x c,X.env.cells.lookup x=some c->c≠X.env.locals:=fun x c e z=>by obtain⟨v,o,ho,hd⟩:=I.cell x c e;obtain⟨m,⟨o',es,ep,ho',hd',_⟩,_⟩:=I.loc;rw[z,ho']at ho;cases ho;rw[hd']at hd;cases hd
theorem Inv.funs (I:Inv X pz σ H s):s.heap.FunFrames X.base X.outer:=by
 have all:∀(l:List Env),(∀b∈frs l,b∈X.fs)->X.s₀.heap.FunFrames X.base l->s.heap.FunFrames X.base l:=by
  intro l
  induction l with
  |nil=>intro _ _;trivial
  |cons env r ih=>intro hs hl;obtain⟨hk,⟨L,o,hf,hn,ho,hd⟩,hr⟩:=hl;have hL:L∈X.fs:=hs L (by unfold frs;rw[ag,hf];exact ah);obtain⟨sl,e⟩:=I.base.slot L o ho (I.ok.frf L hL) hL fun z=>I.ok.exfs L z hL;exact⟨hk,⟨L,_,hf,hn,e,hd⟩,ih (fun b hb=>hs b (by unfold frs;rw[ag,hf];exact aj _ hb)) hr⟩
 exact all X.outer (fun _ hb=>hb) I.ok.funs
theorem Inv.stack (I:Inv X pz σ H s):s.heap.FunFrames X.base X.stack:=by
 rcases I.ok.stk with e|⟨e,hf⟩;·rw[e];exact I.funs
 ·rw[e];obtain⟨m,hn,_⟩:=I.loc;refine .cons (by rw[I.ok.kind];decide) hf hn ?_ I.funs;exact Heap.get?_none_of_le (cH I.ok.bsz I.ok.above)
theorem Inv.stkSub (I:Inv X pz σ H s):∀b∈frs X.stack,b∈X.env.locals::X.fs:=fun b hb=>by
 rcases I.ok.stk with e|⟨e,hf⟩;·rw[e]at hb;exact aj _ hb
 ·rw[e]at hb;unfold frs at hb;rw[ag,hf]at hb;exact hb
theorem Inv.stkFree (I:Inv X pz σ H s):∀b∈frs X.stack,H b=none:=fun b hb=>by
 rcases ak.mp (I.stkSub b hb)with e|hb;·rw[e];exact I.free
 ·obtain⟨_,o,ho,_⟩:=I.ok.funs.mem hb;exact I.base.free b o ho (I.ok.frf b hb) fun z=>I.ok.exfs b z hb
theorem Inv.step {g':Array GenState} {t':Nat} {d':Drawn} {ch:List Zx} (I:Inv X pz σ H s)
  (hch:∀b∈ch,(b∈X.ex\/X.s₀.heap.objs.size<=b)/\b≠X.env.locals/\(∀x c,X.env.cells.lookup x=some c->c≠b)/\∀p∈X.pn++pz,p.1≠b)
  (keep:∀b o,b≠X.env.locals->b∉X.fs->b∉ch->s.heap.get? b=some o->H b=none->h'.get? b=some o)
  (slot:∀b o,b≠X.env.locals->b∈X.fs->b∉ch->s.heap.get? b=some o->H b=none->∃sl,h'.get? b=some {o with slots:=sl}) (free:∀b o,b∉ch->s.heap.get? b=some o->H b=none->H' b=none)
  (there:∀b o,b∉ch->s.heap.get? b=some o->∃o',h'.get? b=some o')
  (tups:∀b xs,H b=some (.tup xs)->H' b=some (.tup xs)) (frzs:∀b o u,H b=some (.frz o u)->H' b=some (.frz o u)) (tbls:∀b ps,H b=some (.tbl ps)->∃more,H' b=some (.tbl (ps++more)))
  (ns:∀m,s.heap.Ns X.env.locals m->h'.Ns X.env.locals m) (hok:HOk X.prog X.w H' h') (hg:AllBare g'):
  Inv X pz σ H' {s with heap:=h',gens:=g',drawn:=d',toks:=t'}:=by
 have neL:∀b o,X.s₀.heap.get? b=some o->b≠X.env.locals:=fun b o e=>cG (cE (fG e) I.ok.above);have neC:∀b o,X.s₀.heap.get? b=some o->b∉X.ex->b∉ch:=fun b o e hx hb=>by
  rcases(hch b hb).1 with z|z;·exact hx z
  ·exact absurd (cE (fG e) z) (cF _)
 have cellK:∀x c,X.env.cells.lookup x=some c->∀v,s.heap.IsCell c v->h'.IsCell c v:=fun x c e v ⟨o,ho,hd⟩=>by
  have nch:c∉ch:=fun z=>(hch c z).2.2.1 x c e rfl;by_cases hc:c∈X.fs;·obtain⟨sl,q⟩:=slot c o (I.cne x c e) hc nch ho (I.freeC x c e);exact⟨_,q,hd⟩
  ·exact⟨o,keep c o (I.cne x c e) hc nch ho (I.freeC x c e),hd⟩
 refine⟨I.ok,I.os,hg,⟨fun b o e n hb hx=>?_,fun b o e n hb hx=>?_,fun b o e n hx=>?_,fun b o e hx=>?_,fun b xs e=>tups b xs (I.base.tups b xs e),fun b o xs e=>frzs b o xs (I.base.frzs b o xs e),fun b ps e=>?_⟩,?_,fun x c e=>?_,?_,fun x c e=>?_,fun p hp=>?_,hok,I.len⟩;·exact keep b o (neL b o e) hb (neC b o e hx) (I.base.keep b o e n hb hx) (I.base.free b o e n hx)
 ·obtain⟨sl,e1⟩:=I.base.slot b o e n hb hx;obtain⟨sl',e2⟩:=slot b _ (neL b o e) hb (neC b o e hx) e1 (I.base.free b o e n hx);exact⟨sl',e2⟩
 ·obtain⟨o',e1⟩:=I.base.there b o e hx;exact free b o' (neC b o e hx) e1 (I.base.free b o e n hx)
 ·obtain⟨o',e1⟩:=I.base.there b o e hx;exact there b o' (neC b o e hx) e1
 ·obtain⟨m1,e1⟩:=I.base.tbls b ps e;obtain⟨m2,e2⟩:=tbls b _ e1;exact⟨m1++m2,by rw[e2,Array.append_assoc]⟩
 ·obtain⟨m,hn,hl⟩:=I.loc;refine⟨m,ns m hn,fun i x v e1 e2 e3=>?_⟩;obtain⟨u,r,l⟩:=hl i x v e1 e2 e3;refine⟨u,r,?_⟩;rcases l with l|⟨k,c,e,z⟩;·exact .inl l
  ·exact .inr ⟨k,c,e,cellK x c e _ z⟩
 ·obtain⟨v,z⟩:=I.cell x c e;exact⟨v,cellK x c e v z⟩
 ·obtain⟨m,⟨o,_,_,ho,_⟩,_⟩:=I.loc;exact free _ o (fun z=>(hch _ z).2.1 rfl) ho I.free
 ·obtain⟨v,o,ho,hd⟩:=I.cell x c e;exact free c o (fun z=>(hch c z).2.2.1 x c e rfl) ho (I.freeC x c e)
 ·obtain⟨e,n,ne,nf,d⟩:=I.pin p hp;have nch:p.1∉ch:=fun z=>(hch p.1 z).2.2.2 p hp rfl;exact⟨keep p.1 p.2 ne nf nch e n,free p.1 p.2 nch e n,ne,nf,d⟩
theorem Inv.un {t':Nat} (I:Inv X pz σ H s) (u:Un X.fs [] H H' s.heap h') (hok:HOk X.prog X.w H' h'):Inv X pz σ H' {s with heap:=h',toks:=t'}:=by obtain⟨m,⟨o,es,ep,ho,r⟩,_⟩:=id I.loc;obtain⟨sl,hL⟩:=u.any ho I.free (by simp);exact I.step (g':=s.gens) (d':=s.drawn) (ch:=[]) (fun _ z=>nomatch z) (fun b o _ hb _ e n=>u.keep b o e n hb (by simp)) (fun b o _ hb _ e n=>u.slot b o e n hb (by simp)) (fun b o _ e n=>u.free b o e n (by simp)) (fun b o _ e=>u.there b o e (by simp)) u.tups u.frzs u.tbls (fun m' hm=>by obtain⟨o',es',ep',ho',r'⟩:=hm;rw[ho]at ho';cases ho';exact⟨_,es',ep',hL,r'⟩) hok I.bare
theorem Inv.call {g':Array GenState} {t':Nat} {d':Drawn} {ch:List Zx} (I:Inv X pz σ H s) (u:Un (frs X.stack) ch H H' s.heap h') (hok:HOk X.prog X.w H' h') (hg:AllBare g')
  (hch:∀b∈ch,(b∈X.ex\/X.s₀.heap.objs.size<=b)/\b≠X.env.locals/\(∀x c,X.env.cells.lookup x=some c->c≠b)/\∀p∈X.pn++pz,p.1≠b):
  Inv X pz σ H' {s with heap:=h',gens:=g',drawn:=d',toks:=t'}:=by obtain⟨m,⟨o,es,ep,ho,r⟩,_⟩:=id I.loc;obtain⟨sl,hL⟩:=u.any ho I.free fun z=>(hch _ z).2.1 rfl;exact I.step (ch:=ch) hch (fun b o hL hb hc e n=>u.keep b o e n (fun z=>(ak.mp (I.stkSub b z)).elim hL hb) hc) (fun b o _ _ hc e n=>u.any e n hc) (fun b o hc e n=>u.free b o e n hc) (fun b o hc e=>u.there b o e hc) u.tups u.frzs u.tbls (fun m' hm=>by obtain⟨o',es',ep',ho',r'⟩:=hm;rw[ho]at ho';cases ho';exact⟨_,es',ep',hL,r'⟩) hok hg
theorem Inv.turned {t':Nat} {it:Zx} (I:Inv X pz σ H s) (k:∀b o,b≠it->s.heap.get? b=some o->h'.get? b=some o) (hn:H it=none) (hL:it≠X.env.locals)
  (h1:it∈X.ex\/X.s₀.heap.objs.size<=it) (h2:∀x c,X.env.cells.lookup x=some c->c≠it) (h3:∀p∈X.pn++pz,p.1≠it):Inv X pz σ H {s with heap:=h',toks:=t'}:=by
 have nit:∀b u,H b=some u->b≠it:=fun b u e z=>by rw[z,hn]at e;cases e
 refine I.step (g':=s.gens) (d':=s.drawn) (ch:=[it]) (fun b hb=>?_) (fun b o _ _ hc e _=>k b o (fun z=>hc (by simp[z])) e) (fun b o _ _ hc e _=>⟨o.slots,k b o (fun z=>hc (by simp[z])) e⟩) (fun _ _ _ _ n=>n)
  (fun b o hc e=>⟨o,k b o (fun z=>hc (by simp[z])) e⟩) (fun _ _ e=>e) (fun _ _ _ e=>e) (fun b ps e=>⟨#[],by rw[e];simp⟩) (fun m hm=>?_) (fun b u e=>?_) I.bare
 ·have e:b=it:=by simpa using hb
  subst e;exact⟨h1,hL,h2,h3⟩
 ·obtain⟨o,es,ep,ho,r⟩:=hm;exact⟨o,es,ep,k _ o (Ne.symm hL) ho,r⟩
 ·refine(I.hok b u e).stay (fun c v hc q=>k c v ?_ q) (fun _ q=>q) fun _ _ q=>q;rcases hc with z|z;·rw[z];exact nit b u e
  ·exact nit c _ z
theorem Inv.tok (I:Inv X pz σ H s) (t:Nat):Inv X pz σ H {s with toks:=t}:=I.un (h':=s.heap) (t':=t) Un.refl I.hok
theorem Inv.kept {t':Nat} (I:Inv X pz σ H s) (k:∀b u,s.heap.get? b=some u->h'.get? b=some u):Inv X pz σ H {s with heap:=h',toks:=t'}:=I.un (Un.kept k) (I.hok.kept k)
theorem Inv.laid {a:Zx} {o:HO} {t':Nat} (I:Inv X pz σ H s) (k:∀b u,s.heap.get? b=some u->h'.get? b=some u) (hp:s.heap.objs.size<=a) (new:jU X.prog X.w (upd H a o) h' a o):
  Inv X pz σ (upd H a o) {s with heap:=h',toks:=t'}:=I.un (Un.laid k hp (I.hok.fresh hp)) (I.hok.laid k hp new)
theorem Inv.write {x e:Zx} {o:HO} {t':Nat} (I:Inv X pz σ H s) (mu:Mut (H x)) (he:e=x\/H e=some (.own x)) (k:∀b u,b≠e->s.heap.get? b=some u->h'.get? b=some u) (heo:∃u,h'.get? e=some u)
  (new:jU X.prog X.w (upd H x o) h' x o):Inv X pz σ (upd H x o) {s with heap:=h',toks:=t'}:=I.un (Un.write mu he k heo) (I.hok.write mu he k heo new)
theorem Inv.pins_of {pins':Za} (I:Inv X pz σ H s) (h:∀p∈pins',s.heap.get? p.1=some p.2/\H p.1=none/\p.1≠X.env.locals/\p.1∉X.fs/\∀v,p.2.data≠ .cell v):Inv X pins' σ H s:=
 ⟨I.ok,I.os,I.bare,I.base,I.loc,I.cell,I.free,I.freeC,fun p hp=>(ao.mp hp).elim (fun z=>I.pin p (aq _ z)) (h p),I.hok,I.len⟩
theorem yr {N:Zd} (hN:N.Nodup) {i j:Nat} {x:Str} (a:N[i]?=some x) (b:N[j]?=some x):i=j:=by obtain⟨h1,e1⟩:=au.mp a;obtain⟨h2,e2⟩:=au.mp b;exact(List.getElem_inj hN).mp (e1.trans e2.symm)
theorem An {M:Model} {A:Zw} {E:Zb} {i:Nat} {x:Str} {v:V} {u:Zz} {Q:Unit->Zy->Prop} (I:Inv X pz σ H s) (hN:X.N.Nodup) (hi:X.N[i]?=some x) (hx:Loc X.env.scope x) (r:iY v u)
  (h:∀s',Inv X pz (σ.set i (some v)) H s'->(∃a,Heap.SameBut a s.heap s'.heap/\(a=X.env.locals\/X.env.cells.lookup x=some a))->Q () s') (hf:autoParam (X.fn x=true\/X.env.scope.names.lookup x=some .local) auL._auto_1):wpAny M A (storeName X.env x u) Q E s:=by
 obtain⟨m,hn,hl⟩:=id I.loc;have hcls:(X.env.scope.kind== .class||(X.env.scope.kind== .module&&X.env.locals !=X.env.globals))=false:=by rw[I.ok.kind];rfl
 have hiσ:i<σ.length:=by rw[I.len];exact(au.mp hi).1
 have cne:=I.cne;have tracked:∀{a:Zx} {h':Zt},(∃o,s.heap.get? a=some o/\H a=none)->Heap.SameBut a s.heap h'->HOk X.prog X.w H h':=fun{a h'} ha hs b ob e=>by
  obtain⟨_,_,hfree⟩:=ha;refine(I.hok b ob e).stay (fun c w' hc q=>(hs.2 c ?_).trans q) (fun _ q=>q) fun _ _ q=>q;rintro rfl;rcases hc with rfl|hc;·rw[hfree]at e;cases e
  ·rw[hfree]at hc;cases hc
 rcases hx with hk|hk
 ·refine wpAny_storeName_local hk hn (fun h' hn' hs=>?_) hcls;obtain⟨oL,_,_,hoL,_⟩:=id hn;refine h _ ⟨I.ok,I.os,I.bare,⟨fun b o e n hb hx=>?_,fun b o e n hb hx=>?_,I.base.free,fun b o e hx=>?_,I.base.tups,I.base.frzs,I.base.tbls⟩,⟨_,hn',fun j y v' e1 e2 e3=>?_⟩,fun y c e=>?_,I.free,I.freeC,fun p hp=>?_,tracked ⟨oL,hoL,I.free⟩ hs,by simpa using I.len⟩ ⟨_,hs,.inl rfl⟩;·exact(hs.2 b (cG (cE (fG e) I.ok.above))).trans (I.base.keep b o e n hb hx)
  ·obtain⟨sl,e1⟩:=I.base.slot b o e n hb hx;exact⟨sl,(hs.2 b (cG (cE (fG e) I.ok.above))).trans e1⟩
  ·obtain⟨o',e1⟩:=I.base.there b o e hx;exact⟨o',(hs.2 b (cG (cE (fG e) I.ok.above))).trans e1⟩
  ·by_cases hj:j=i;·subst hj;rw[hi]at e1;cases e1;rw[av hiσ]at e2;cases e2;exact⟨u,r,.inl ⟨hk,by simp⟩⟩
   ·rw[aw (Ne.symm hj)]at e2;obtain⟨u',r',q⟩:=hl j y v' e1 e2 e3;refine⟨u',r',?_⟩;rcases q with⟨k,e⟩|⟨k,c,e,z⟩;·refine .inl ⟨k,?_⟩;have:y≠x:=fun e=>hj (yr hN e1 (e▸hi));simp[this,e]
    ·exact .inr ⟨k,c,e,z.sameBut hs (cne y c e)⟩
  ·obtain⟨w',z⟩:=I.cell y c e;exact⟨w',z.sameBut hs (cne y c e)⟩
  ·obtain⟨e,n,ne,nf,d⟩:=I.pin p hp;exact⟨(hs.2 p.1 ne).trans e,n,ne,nf,d⟩
 ·have hfn:X.fn x=true:=by
   rcases hf with z|z;·exact z
   ·rw[z]at hk;cases hk
  obtain⟨c,hc⟩:=I.ok.has x (.inl hk);obtain⟨w',z⟩:=I.cell x c hc;refine wpAny_storeName_cell I.ok.kind hk hc z (fun h' hc' hs=>?_);obtain⟨oc,hoc,hocd⟩:=id z;refine h {s with heap:=h'} ⟨I.ok,I.os,I.bare,⟨fun b o e n hb hx=>?_,fun b o e n hb hx=>?_,I.base.free,fun b o e hx=>?_,I.base.tups,I.base.frzs,I.base.tbls⟩,⟨m,hn.sameBut hs (Ne.symm (cne x c hc)),fun j y v' e1 e2 e3=>?_⟩,fun y c' e=>?_,I.free,I.freeC,fun p hp=>?_,tracked ⟨oc,hoc,I.freeC x c hc⟩ hs,by simpa using I.len⟩ ⟨c,hs,.inr hc⟩;·exact(hs.2 b (cG (cE (fG e) (I.ok.cab x c hfn hc)))).trans (I.base.keep b o e n hb hx)
  ·obtain⟨sl,e1⟩:=I.base.slot b o e n hb hx;exact⟨sl,(hs.2 b (cG (cE (fG e) (I.ok.cab x c hfn hc)))).trans e1⟩
  ·obtain⟨o',e1⟩:=I.base.there b o e hx;exact⟨o',(hs.2 b (cG (cE (fG e) (I.ok.cab x c hfn hc)))).trans e1⟩
  ·by_cases hj:j=i;·subst hj;rw[hi]at e1;cases e1;rw[av hiσ]at e2;cases e2;exact⟨u,r,.inr ⟨.inl hk,c,hc,hc'⟩⟩
   ·rw[aw (Ne.symm hj)]at e2;obtain⟨u',r',q⟩:=hl j y v' e1 e2 e3;refine⟨u',r',?_⟩;rcases q with q|⟨k,c',e,z'⟩;·exact .inl q
    ·refine .inr ⟨k,c',e,z'.sameBut hs ?_⟩;rintro rfl;exact hj (yr hN e1 (I.ok.inj _ _ _ e hc▸hi))
  ·by_cases hcc:c'=c;·subst hcc;exact⟨_,hc'⟩
   ·obtain⟨w2,z2⟩:=I.cell y c' e;exact⟨w2,z2.sameBut hs hcc⟩
  ·obtain⟨e,n,ne,nf,d⟩:=I.pin p hp;refine⟨(hs.2 p.1 ?_).trans e,n,ne,nf,d⟩;intro q;rw[q,hoc]at e;have q':oc=p.2:=dw.inj e;exact d w' (by rw[<-q'];exact hocd)
theorem qW {M:Model} {A:Zw} {E:Zb} {i:Nat} {x:Str} {v:V} {u:Zz} {Q:Unit->Zy->Prop} (I:Inv X pz σ H s) (hN:X.N.Nodup) (hi:X.N[i]?=some x) (hx:Loc X.env.scope x) (r:iY v u)
  (h:∀s',Inv X pz (σ.set i (some v)) H s'->Q () s') (hf:autoParam (X.fn x=true\/X.env.scope.names.lookup x=some .local) auL._auto_1):wpAny M A (storeName X.env x u) Q E s:=
 An I hN hi hx r (fun s' I' _=>h s' I') hf
theorem Inv.call' {s':Zy} {ch:List Zx} (I:Inv X pz σ H s) (ho:s'.os=s.os) (u:Un (frs X.stack) ch H H' s.heap s'.heap) (hok:HOk X.prog X.w H' s'.heap) (hg:AllBare s'.gens)
  (hch:∀b∈ch,(b∈X.ex\/X.s₀.heap.objs.size<=b)/\b≠X.env.locals/\(∀x c,X.env.cells.lookup x=some c->c≠b)/\∀p∈X.pn++pz,p.1≠b):Inv X pz σ H' s':=by obtain⟨h',g',d',t',o'⟩:=s';have e:o'=s.os:=ho;subst e;exact I.call (g':=g') (t':=t') (d':=d') u hok hg hch
end
abbrev XK:=Zz->Option Zx->Hp->Prop
abbrev St:=List (Option V)
abbrev VK:=V->Hp->Prop
abbrev TE:=St->Hp->VK->Prop
abbrev TT:=St->Hp->(Bool->Hp->Prop)->Prop
abbrev TA:=St->Hp->(List V->Hp->Prop)->Prop
structure rA where
 nx:St->Hp->Prop
 rt:VK
 bk:St->Hp->Prop:=fun _ _=>False
 ct:St->Hp->Prop:=fun _ _=>False
abbrev TS:=rA->St->Hp->Prop
def EP (X:Cx) (pz:Za) (σ:St) (Q:VK) (u:Zz) (s':Zy):Prop:=∃v H',Inv X pz σ H' s'/\iY v u/\Q v H'
def TP (X:Cx) (pz:Za) (σ:St) (Q:Bool->Hp->Prop) (b:Bool) (s':Zy):Prop:=∃H',Inv X pz σ H' s'/\Q b H'
def AP (X:Cx) (pz:Za) (σ:St) (Q:List V->Hp->Prop) (us:List Zz) (s':Zy):Prop:=∃vs H',Inv X pz σ H' s'/\iX vs us/\Q vs H'
def SP (X:Cx) (pz:Za) (D:rA) (f:Flow) (s':Zy):Prop:=
 match f with
 | .next=>∃σ' H',Inv X pz σ' H' s'/\D.nx σ' H'
 | .brk=>∃σ' H',Inv X pz σ' H' s'/\D.bk σ' H'
 | .cont=>∃σ' H',Inv X pz σ' H' s'/\D.ct σ' H'
 | .ret u=>∃v σ' H',Inv X pz σ' H' s'/\iY v u/\D.rt v H'
def PE (X:Cx) (e:Zr) (t:TE):Prop:=
 ∀(pz:Za) (s:Zy) (σ:St) (H:Hp) (Q:VK),Inv X pz σ H s->t σ H Q->wpAny (model X.prog X.w) X.A (eval e X.env) (EP X pz σ Q) X.xe s
def PT (X:Cx) (e:Zr) (t:TT):Prop:=
 ∀(pz:Za) (s:Zy) (σ:St) (H:Hp) (Q:Bool->Hp->Prop),Inv X pz σ H s->t σ H Q->wpAny (model X.prog X.w) X.A (isTrue e X.env (eval e X.env)) (TP X pz σ Q) X.xe s
def PW (X:Cx) (e:Zr) (t:TT):Prop:=
 ∀(whole:Sem Zz) (pz:Za) (s:Zy) (σ:St) (H:Hp) (Q:Bool->Hp->Prop),Inv X pz σ H s->t σ H Q->wpAny (model X.prog X.w) X.A (isTrue e X.env whole) (TP X pz σ Q) X.xe s
theorem PW.pt {X:Cx} {e:Zr} {t:TT} (h:PW X e t):PT X e t:=h _
def PA (X:Cx) (es:List Zr) (t:TA):Prop:=
 ∀(pos:Pos) (pz:Za) (s:Zy) (σ:St) (H:Hp) (Q:List V->Hp->Prop),Inv X pz σ H s->t σ H Q->wpAny (model X.prog X.w) X.A (spliced (backTo pos (starEach es X.env))) (AP X pz σ Q) X.xe s
def PS (X:Cx) (st:Zq) (t:TS):Prop:=
 ∀(pz:Za) (s:Zy) (σ:St) (H:Hp) (D:rA),Inv X pz σ H s->t D σ H->wpAny (model X.prog X.w) X.A (exec st X.env) (SP X pz D) X.xe s
def PSs (X:Cx) (st:List Zq) (t:TS):Prop:=
 ∀(pz:Za) (s:Zy) (σ:St) (H:Hp) (D:rA),Inv X pz σ H s->t D σ H->wpAny (model X.prog X.w) X.A (execs st X.env) (SP X pz D) X.xe s
theorem thn {α:Type} {t:Sem α} {Q Q':α->Zy->Prop} {M:Model} {A:Zw} {E:Zb} {s:Zy} (h:wpAny M A t Q E s) (hQ:∀a s,Q a s->Q' a s):wpAny M A t Q' E s:=wpAny_mono h hQ fun _ _ x=>x
section
variable {X:Cx}
def Gf (i:Nat):TE:=fun σ H Q=>∃v,σ[i]?=some (some v)/\Q v H
def tC (v:V):TE:=fun _ H Q=>Q v H
theorem Gs {i:Nat} {x:Str} {pos:Pos} (hN:X.N[i]?=some x) (hv:Vis X.env.scope x) (hd:autoParam ((x==("__debug__":Str))=false) auD._auto_1) (hcd:autoParam ((x==("__classdict__":Str))=false) auD._auto_1):PE X (.Name x pos) (Gf i):=by
 intro pz s σ H Q I h;obtain⟨v,e,h⟩:=h;obtain⟨m,hn,hl⟩:=I.loc;obtain⟨u,r,l⟩:=hl i x v hN e hv;have fin:EP X pz σ Q u s:=⟨v,H,I,r,h⟩;rcases l with⟨hk,hm⟩|⟨hk,c,hc,hcell⟩;·exact wpAny_Name (wpAny_loadName_local I.ok.kind hk hn hm fin) hd
 ·rcases hk with hk|hk;·exact wpAny_Name (wpAny_loadName_cell I.ok.kind hk hc hcell fin) hd
  ·exact wpAny_Name (wpAny_loadName_free I.ok.kind hk hc hcell fin hcd) hd
theorem fZ {i j pos}:PE X (.Constant (.int i) j pos) (tC (.int i)):=fun _ _ _ H _ I h=>wpAny_Constant_int ⟨.int i,H,I.tok _,⟨_,rfl⟩,h⟩
theorem rB {b j pos}:PE X (.Constant (.bool b) j pos) (tC (.bl b)):=fun _ _ _ H _ I h=>Constant_bool ⟨.bl b,H,I,rfl,h⟩
theorem kK {j pos}:PE X (.Constant .none j pos) (tC .non):=fun _ _ _ H _ I h=>Constant_none ⟨.non,H,I,rfl,h⟩
theorem gu {x j pos}:PE X (.Constant (.str x) j pos) (tC (.str x)):=fun _ _ _ H _ I h=>Calls.Constant_str ⟨.str x,H,I.tok _,⟨_,rfl⟩,h⟩
def Gl (X:Cx) (x:Str):Prop:=X.env.kindOf x=some .globalImplicit
theorem uj {E:Zb} {pz:Za} {s:Zy} {σ:St} {H:Hp} {x:Str} {u:Zz} {pos:Pos} {Q:Zb} (I:Inv X pz σ H s) (hg:Gl X x) (hm:X.mg x=some u) (h:Q u s)
  (hd:autoParam ((x==("__debug__":Str))=false) auD._auto_1):wpAny (model X.prog X.w) X.A (eval (.Name x pos) X.env) Q E s:=
 Calls.Name_function_global I.ok.kind hg (Calls.loadGlobal_global (by rw[I.ok.glob];exact I.mod.glob.keeps I.bk) hm h) hd
theorem nS {E:Zb} {pz:Za} {s:Zy} {σ:St} {H:Hp} {x:Str} {u:Zz} {pos:Pos} {Q:Zb} (I:Inv X pz σ H s) (hg:Gl X x) (hm:X.mg x=none) (hv:bootBuiltins x=some u) (h:Q u s)
  (hn:autoParam (x≠"__name__") auD._auto_1) (hd:autoParam ((x==("__debug__":Str))=false) auD._auto_1):wpAny (model X.prog X.w) X.A (eval (.Name x pos) X.env) Q E s:=by obtain⟨mb,h1,h2⟩:=I.mod.blt;exact Calls.Name_function_global I.ok.kind hg (Calls.loadGlobal_builtin (by rw[I.ok.glob];exact I.mod.glob.keeps I.bk) hm (by rw[I.ok.blt];exact h1.keeps I.bk) ((h2 x hn).trans hv) h) hd
theorem xh {x:Str} {v:V} {u:Zz} {pos:Pos} (hg:Gl X x) (hm:X.mg x=some u) (r:iY v u) (hd:autoParam ((x==("__debug__":Str))=false) auD._auto_1):PE X (.Name x pos) (tC v):=
 fun _ _ _ H _ I h=>uj I hg hm ⟨v,H,I,r,h⟩ hd
theorem Ep {x:Str} {v:V} {u:Zz} {pos:Pos} (hg:Gl X x) (hm:X.mg x=none) (hv:bootBuiltins x=some u) (r:iY v u) (hn:autoParam (x≠"__name__") auD._auto_1) (hd:autoParam ((x==("__debug__":Str))=false) auD._auto_1):PE X (.Name x pos) (tC v):=
 fun _ _ _ H _ I h=>nS I hg hm hv ⟨v,H,I,r,h⟩ hn hd
variable {a b:Zr} {ta tb:TE} {pos:Pos}
def PC (X:Cx) (op:CmpOp) (a b:Zr) (t:TE):Prop:=
 ∀(pz:Za) (s:Zy) (σ:St) (H:Hp) (Q:VK),Inv X pz σ H s->t σ H Q->
  wpAny (model X.prog X.w) X.A (eval a X.env) (fun v s₁=>wpAny (model X.prog X.w) X.A (eval b X.env) (fun u s₂=>wpAny (model X.prog X.w) X.A (compareOp op v u) (EP X pz σ Q) X.xe s₂) X.xe s₁) X.xe s
theorem yt (b:Zr) {op:CmpOp} (h:op≠ .In) (h2:op≠ .NotIn):behindInMarks op b=false:=by
 have e1:(op==CmpOp.In)=false:=by cases op<;>first|rfl|exact absurd rfl h
 have e2:(op==CmpOp.NotIn)=false:=by cases op<;>first|rfl|exact absurd rfl h2
 cases b<;>simp[behindInMarks,e1,e2]
def tIsN (ta:TE):TE:=fun σ H Q=>ta σ H fun x H1=>Q (.bl (decide (x= .non))) H1
def IC (ta:TE):TE:=fun σ H Q=>ta σ H fun x H1=>Q (.bl (!decide (x= .non))) H1
theorem iY.none_iff {x:V} {v:Zz} (r:iY x v):(v==Value.none)=decide (x= .non):=by
 cases x with
 |non=>cases r;rfl
 |bl _=>cases r;rfl
 |int _=>obtain⟨t,rfl⟩:=r;rfl
 |str _=>obtain⟨t,rfl⟩:=r;rfl
 |byt _=>obtain⟨t,rfl⟩:=r;rfl
 |flt _=>obtain⟨t,rfl⟩:=r;rfl
 |ref _=>cases r;rfl
 |ty _=>cases r;rfl
theorem tK {j pos'} (ha:PE X a ta):PC X .Is a (.Constant .none j pos') (tIsN ta):=by intro pz s σ H Q I h;refine thn (ha pz s σ H _ I h) ?_;rintro v s1 ⟨x,H1,I1,r1,q1⟩;exact Constant_none (is_none_gen ⟨.bl _,H1,I1,by rw[r1.none_iff];rfl,q1⟩)
theorem Er {j pos'} (ha:PE X a ta):PC X .IsNot a (.Constant .none j pos') (IC ta):=by intro pz s σ H Q I h;refine thn (ha pz s σ H _ I h) ?_;rintro v s1 ⟨x,H1,I1,r1,q1⟩;exact Constant_none (isnot_none_gen ⟨.bl _,H1,I1,by rw[r1.none_iff];rfl,q1⟩)
def tB (t:TE):TT:=fun σ H Q=>t σ H fun x H1=>∃c,x= .bl c/\Q c H1
theorem Gv {op:CmpOp} {t:TE} (h:PC X op a b t) (h1:behindInMarks op b=false:=by first|exact yt _ (by decide) (by decide)|rfl):PE X (.Compare a [op] [b] pos) t:=fun pz s σ H Q I hw=>wpAny_Compare1 (h pz s σ H Q I hw) h1
theorem oU {op:CmpOp} {t:TE} (h:PC X op a b t) (h1:behindInMarks op b=false:=by first|exact yt _ (by decide) (by decide)|rfl):PT X (.Compare a [op] [b] pos) (tB t):=by intro pz s σ H Q I hw;refine wpAny_isTrue_Compare1 (thn (h pz s σ H _ I hw) fun v s1 h1=>thn h1 fun u s2 h2=>thn h2 ?_) h1;rintro c s3 ⟨x,H1,I1,r1,q1⟩;obtain⟨d,rfl,q⟩:=q1;cases r1;exact wpAny_truthy_bool ⟨H1,I1,q⟩
theorem jA {e:Zr} {t:TE} (h:PE X e t) (he:autoParam (∀whole,isTrue e X.env whole=(do let v<-whole;standAt e.pos;holding [v] (truthy v))) auI._auto_1):PT X e (tB t):=by intro pz s σ H Q I hw;refine isTrue_plain (thn (h pz s σ H _ I hw) ?_) (he _);rintro v s1 ⟨x,H1,I1,r1,q1⟩;obtain⟨d,rfl,q⟩:=q1;cases r1;exact wpAny_truthy_bool ⟨H1,I1,q⟩
variable {tA tB':TT} {rest:List Zr}
def tAnd (t u:TT):TT:=fun σ H Q=>t σ H fun c H1=>if c=true then u σ H1 Q else Q false H1
def tOr (t u:TT):TT:=fun σ H Q=>t σ H fun c H1=>if c=true then Q true H1 else u σ H1 Q
def tNot (t:TT):TT:=fun σ H Q=>t σ H fun c H1=>Q (!c) H1
theorem uk (ha:PT X a tA):PW X (.BoolOp .And [a] pos) tA:=by
 intro wh pz s σ H Q I h;refine isTrue_and (thn (ha pz s σ H Q I h) fun c s1 e=>?_)
 cases c with
 |true=>exact isTrue_and_nil e
 |false=>exact e
theorem rC (ha:PT X a tA):PW X (.BoolOp .Or [a] pos) tA:=by
 intro wh pz s σ H Q I h;refine isTrue_or (thn (ha pz s σ H Q I h) fun c s1 e=>?_)
 cases c with
 |false=>exact isTrue_or_nil e
 |true=>exact e
theorem tL (ha:PT X a tA) (hb:PW X (.BoolOp .And (b::rest) pos) tB'):PW X (.BoolOp .And (a::b::rest) pos) (tAnd tA tB'):=by
 intro wh pz s σ H Q I h;refine isTrue_and (thn (ha pz s σ H _ I h) ?_);rintro c s1 ⟨H1,I1,q1⟩
 cases c with
 |true=>exact hb wh pz s1 σ H1 Q I1 q1
 |false=>exact⟨H1,I1,q1⟩
theorem oW (ha:PT X a tA) (hb:PW X (.BoolOp .Or (b::rest) pos) tB'):PW X (.BoolOp .Or (a::b::rest) pos) (tOr tA tB'):=by
 intro wh pz s σ H Q I h;refine isTrue_or (thn (ha pz s σ H _ I h) ?_);rintro c s1 ⟨H1,I1,q1⟩
 cases c with
 |true=>exact⟨H1,I1,q1⟩
 |false=>exact hb wh pz s1 σ H1 Q I1 q1
theorem kM (ha:PT X a tA):PT X (.UnaryOp .Not a pos) (tNot tA):=by intro pz s σ H Q I h;exact isTrue_not (ha pz s σ H (fun c H1=>Q (!c) H1) I h)
def ID (ta tb:TE):TE:=fun σ H Q=>ta σ H fun x H1=>∃c,x= .bl c/\if c=true then tb σ H1 Q else Q (.bl false) H1
def tOrV (ta tb:TE):TE:=fun σ H Q=>ta σ H fun x H1=>∃c,x= .bl c/\if c=true then Q (.bl true) H1 else tb σ H1 Q
def IE (ta:TE):TE:=fun σ H Q=>ta σ H fun x H1=>∃c,x= .bl c/\Q (.bl (!c)) H1
theorem rD {op} {t:TE} (h:PE X a t):PE X (.BoolOp op [a] pos) t:=fun pz s σ H Q I hw=>BoolOp_one (h pz s σ H Q I hw)
theorem tM (ha:PE X a ta) (hb:PE X (.BoolOp .And (b::rest) pos) tb):PE X (.BoolOp .And (a::b::rest) pos) (ID ta tb):=by
 intro pz s σ H Q I h;refine BoolOp_and (thn (ha pz s σ H _ I h) ?_);rintro v s1 ⟨x,H1,I1,r1,q1⟩;obtain⟨c,rfl,q1⟩:=q1;cases r1;refine wpAny_truthy_bool ?_
 cases c with
 |true=>exact hb pz s1 σ H1 Q I1 q1
 |false=>exact⟨.bl false,H1,I1,rfl,q1⟩
theorem IF (ha:PE X a ta) (hb:PE X (.BoolOp .Or (b::rest) pos) tb):PE X (.BoolOp .Or (a::b::rest) pos) (tOrV ta tb):=by
 intro pz s σ H Q I h;refine BoolOp_or (thn (ha pz s σ H _ I h) ?_);rintro v s1 ⟨x,H1,I1,r1,q1⟩;obtain⟨c,rfl,q1⟩:=q1;cases r1;refine wpAny_truthy_bool ?_
 cases c with
 |false=>exact hb pz s1 σ H1 Q I1 q1
 |true=>exact⟨.bl true,H1,I1,rfl,q1⟩
theorem Gw (ha:PE X a ta):PE X (.UnaryOp .Not a pos) (IE ta):=by intro pz s σ H Q I h;refine UnaryOp_ (thn (ha pz s σ H _ I h) ?_);rintro v s1 ⟨x,H1,I1,r1,q1⟩;obtain⟨c,rfl,q1⟩:=q1;cases r1;exact not_of (wpAny_truthy_bool ⟨.bl (!c),H1,I1,rfl,q1⟩)
def tIf (t:TT) (ta tb:TE):TE:=fun σ H Q=>t σ H fun c H1=>if c=true then ta σ H1 Q else tb σ H1 Q
theorem um {c:Zr} (hc:PT X c tA) (ha:PE X a ta) (hb:PE X b tb):PE X (.IfExp c a b pos) (tIf tA ta tb):=by
 intro pz s σ H Q I h;refine wpAny_IfExp (thn (hc pz s σ H _ I h) ?_);rintro d s1 ⟨H1,I1,q1⟩
 cases d with
 |true=>exact ha pz s1 σ H1 Q I1 q1
 |false=>exact hb pz s1 σ H1 Q I1 q1
end
def SqL (K:Zp) (H:Hp) (a:Zx) (xs:List V):Prop:=
 Rd H a (.lst xs)\/
  ∃(o:Obj) (its:Array Zz) (n:Nat),K.lookup a=some o/\o.cls= .type "list"/\o.dict=none/\o.data= .seq its n/\its.size<=sizeLine/\iX xs its.toList
def SqT (K:Zp) (H:Hp) (a:Zx) (xs:List V):Prop:=
 Rd H a (.tup xs)\/
  ∃(o:Obj) (its:Array Zz) (n:Nat),K.lookup a=some o/\o.cls= .type "tuple"/\o.data= .seq its n/\its.size<=sizeLine/\iX xs its.toList
def absV:Zz->Option V
 | .none=>some .non
 | .bool b=>some (.bl b)
 | .int i _=>some (.int i)
 | .str x _=>some (.str x)
 | .bytes b _=>some (.byt b)
 | .float b _=>some (.flt b)
 | .ref a=>some (.ref a)
 | .type n=>some (.ty n)
 |_=>none
theorem iY.abs {x:V} {u:Zz} (r:iY x u):absV u=some x:=by
 cases x with
 |non=>cases r;rfl
 |bl _=>cases r;rfl
 |int _=>obtain⟨t,rfl⟩:=r;rfl
 |str _=>obtain⟨t,rfl⟩:=r;rfl
 |byt _=>obtain⟨t,rfl⟩:=r;rfl
 |flt _=>obtain⟨t,rfl⟩:=r;rfl
 |ref _=>cases r;rfl
 |ty _=>cases r;rfl
theorem iY.inj {x y:V} {u:Zz} (r:iY x u) (q:iY y u):x=y:=dw.inj (r.abs.symm.trans q.abs)
theorem iX.inj {xs ys:List V} {us:List Zz} (h:iX xs us):iX ys us->xs=ys:=by
 induction h generalizing ys with
 |nil=>exact fun k=>by cases k;rfl
 |cons r t ih=>exact fun k=>by cases k with|cons r' t'=>rw[r.inj r',ih t']
section
variable {X:Cx} {pz:Za} {σ:St} {H:Hp} {s:Zy} {a:Zx} {xs ys:List V}
theorem SqL.of {K:Zp} (h:H a=some (.lst xs)):SqL K H a xs:= .inl (.inl h)
theorem SqT.of {K:Zp} (h:H a=some (.tup xs)):SqT K H a xs:= .inl (.inl h)
theorem Inv.list (I:Inv X pz σ H s) (h:SqL X.K H a xs):∃its:List Zz,iX xs its/\PlainL s.heap a its.toArray/\xs.length<=sizeLine:=by
 rcases h with h|⟨o,its,n,hk,hc,hd,hs,hz,r⟩;·obtain⟨z,its,n,r,e⟩:=h.ok I.hok;exact⟨its,r,⟨_,n,e,rfl,rfl,rfl⟩,z⟩
 ·refine⟨its.toList,r,⟨o,n,I.kIn a o hk,hc,hd,by simpa using hs⟩,?_⟩;have e:=r.length;simp only[fu]at e;lia
theorem Inv.tuple (I:Inv X pz σ H s) (h:SqT X.K H a xs):∃its:List Zz,iX xs its/\IsTup s.heap a its.toArray/\xs.length<=sizeLine:=by
 rcases h with h|⟨o,its,n,hk,hc,hs,hz,r⟩;·obtain⟨z,its,r,p⟩:=h.ok I.hok;exact⟨its,r,p.tup,z⟩
 ·refine⟨its.toList,r,⟨o,I.kIn a o hk,hc,n,by simpa using hs⟩,?_⟩;have e:=r.length;simp only[fu]at e;lia
theorem Inv.list_inj (I:Inv X pz σ H s) (h:SqL X.K H a xs) (h':SqL X.K H a ys):xs=ys:=by
 obtain⟨its,r,⟨o,n,e,_,_,d⟩,_⟩:=I.list h;obtain⟨its',r',⟨o',n',e',_,_,d'⟩,_⟩:=I.list h';rw[e]at e';cases e';rw[d]at d';injection d' with d1 _;have:its=its':=by simpa using congrArg Array.toList d1
 subst this;exact r.inj r'
theorem Inv.tuple_inj (I:Inv X pz σ H s) (h:SqT X.K H a xs) (h':SqT X.K H a ys):xs=ys:=by
 obtain⟨its,r,⟨o,e,_,n,d⟩,_⟩:=I.tuple h;obtain⟨its',r',⟨o',e',_,n',d'⟩,_⟩:=I.tuple h';rw[e]at e';cases e';rw[d]at d';injection d' with d1 _;have:its=its':=by simpa using congrArg Array.toList d1
 subst this;exact r.inj r'
end
abbrev Cx.wish (X:Cx) (E:Zb):Cx:={X with xe:=E}
abbrev Cx.nox (X:Cx):Cx:=X.wish fun _ _=>False
theorem Cx.Ok.wish {X:Cx} (ok:X.Ok) (E:Zb):(X.wish E).Ok:=
 ⟨ok.mod,ok.kind,ok.glob,ok.blt,ok.above,ok.inj,ok.has,ok.cab,ok.hd,ok.frames,ok.stk,ok.exf,ok.bs,ok.bsz,ok.noex,ok.exfs,ok.funs,ok.frf⟩
theorem Cx.Ok.unwish {X:Cx} {E:Zb} (ok:(X.wish E).Ok):X.Ok:=
 ⟨ok.mod,ok.kind,ok.glob,ok.blt,ok.above,ok.inj,ok.has,ok.cab,ok.hd,ok.frames,ok.stk,ok.exf,ok.bs,ok.bsz,ok.noex,ok.exfs,ok.funs,ok.frf⟩
section
variable {X:Cx} {pz:Za} {σ:St} {H:Hp} {s:Zy} {E:Zb}
theorem Inv.wish (I:Inv X pz σ H s) (E:Zb):Inv (X.wish E) pz σ H s:=⟨I.ok.wish E,I.os,I.bare,I.base,I.loc,I.cell,I.free,I.freeC,I.pin,I.hok,I.len⟩
theorem Inv.unwish (I:Inv (X.wish E) pz σ H s):Inv X pz σ H s:=⟨I.ok.unwish,I.os,I.bare,I.base,I.loc,I.cell,I.free,I.freeC,I.pin,I.hok,I.len⟩
theorem SP.unwish {D:rA} {f:Flow} {s':Zy} (h:SP (X.wish E) pz D f s'):SP X pz D f s':=by
 cases f with
 |next=>obtain⟨σ',H',I,q⟩:=h;exact⟨σ',H',I.unwish,q⟩
 |brk=>obtain⟨σ',H',I,q⟩:=h;exact⟨σ',H',I.unwish,q⟩
 |cont=>obtain⟨σ',H',I,q⟩:=h;exact⟨σ',H',I.unwish,q⟩
 |ret u=>obtain⟨v,σ',H',I,r,q⟩:=h;exact⟨v,σ',H',I.unwish,r,q⟩
theorem PE.nox {e:Zr} {t:TE} (h:PE X.nox e t):PE X e t:=fun pz s σ H Q I hw=>
 wpAny_mono (h pz s σ H Q (I.wish _) hw) (fun _ _ ⟨v,H',I',r,q⟩=>⟨v,H',I'.unwish,r,q⟩) fun _ _ z=>False.elim z
theorem PT.nox {e:Zr} {t:TT} (h:PT X.nox e t):PT X e t:=fun pz s σ H Q I hw=>
 wpAny_mono (h pz s σ H Q (I.wish _) hw) (fun _ _ ⟨H',I',q⟩=>⟨H',I'.unwish,q⟩) fun _ _ z=>False.elim z
theorem PSs.nox {st:List Zq} {t:TS} (h:PSs X.nox st t):PSs X st t:=fun pz s σ H D I hw=>
 wpAny_mono (h pz s σ H D (I.wish _) hw) (fun _ _ q=>q.unwish) fun _ _ z=>False.elim z
end
section
variable {X:Cx} {st:Zq} {rest:List Zq} {t u:TS} {e:Zr} {te:TE} {pos:Pos}
def qM:TS:=fun D σ H=>D.nx σ H
def Cv (t u:TS):TS:=fun D σ H=>t {D with nx:=u D} σ H
theorem gL:PSs X [] qM:=fun _ _ σ H _ I h=>wpAny_execs_nil ⟨σ,H,I,h⟩
theorem fW (h1:PS X st t) (h2:PSs X rest u):PSs X (st::rest) (Cv t u):=by
 intro pz s σ H D I h;refine wpAny_execs_cons (thn (h1 pz s σ H {D with nx:=u D} I h) fun f s1 q=>?_)
 cases f with
 |next=>obtain⟨σ',H',I',q⟩:=q;exact h2 pz s1 σ' H' D I' q
 |ret v=>exact q
 |brk=>exact q
 |cont=>exact q
theorem gh (h1:PS X st t):PSs X [st] t:=by
 intro pz s σ H D I h;refine wpAny_execs_cons (thn (h1 pz s σ H D I h) fun f s1 q=>?_)
 cases f with
 |next=>exact wpAny_execs_nil q
 |ret v=>exact q
 |brk=>exact q
 |cont=>exact q
theorem Inv.quiet {pz:Za} {σ:St} {H:Hp} {s:Zy} (I:Inv X pz σ H s):interactive X.env=false:=by simp[interactive,I.ok.kind]
def Gx (te:TE):TS:=fun D σ H=>te σ H fun _ H1=>D.nx σ H1
theorem gK (he:PE X e te) (hs:autoParam (swapsWith e none pos.line X.env=pure false) auR._auto_1):PS X (.Expr e pos) (Gx te):=by intro pz s σ H D I h;exact wpAny_Expr_any (thn (he pz s σ H _ I h) fun v s1 ⟨x,H1,I1,r1,q1⟩=>⟨σ,H1,I1,q1⟩) I.quiet hs
def Gy (te:TE):TS:=fun D σ H=>te σ H D.rt
theorem gH (he:PE X e te):PS X (.Return (some e) pos) (Gy te):=by intro pz s σ H D I h;exact wpAny_Return_some (thn (he pz s σ H _ I h) fun v s1 ⟨x,H1,I1,r1,q1⟩=>⟨x,σ,H1,I1,r1,q1⟩)
def IG:TS:=fun D _ H=>D.rt .non H
theorem Ao:PS X (.Return none pos) IG:=fun _ _ σ H _ I h=>wpAny_Return_none ⟨.non,σ,H,I,rfl,h⟩
def CC (c:TT) (t u:TS):TS:=fun D σ H=>c σ H fun b H1=>if b=true then t D σ H1 else u D σ H1
theorem ij {c:Zr} {a b:List Zq} {tc:TT} (hc:PT X c tc) (ha:PSs X a t) (hb:PSs X b u):PS X (.If c a b pos) (CC tc t u):=by
 intro pz s σ H D I h;refine wpAny_If (thn (hc pz s σ H _ I h) ?_);rintro d s1 ⟨H1,I1,q1⟩
 cases d with
 |true=>exact ha pz s1 σ H1 D I1 q1
 |false=>exact hb pz s1 σ H1 D I1 q1
def DM:TS:=fun _ _ _=>False
theorem yu:PS X st DM:=fun _ _ _ _ _ _ h=>h.elim
theorem Aq {sts:List Zq}:PSs X sts DM:=fun _ _ _ _ _ _ h=>h.elim
end
abbrev TG:=V->St->Hp->(St->Hp->Prop)->Prop
abbrev TGs:=List V->St->Hp->(St->Hp->Prop)->Prop
def PG (X:Cx) (target:Zr) (t:TG):Prop:=
 ∀(pz:Za) (s:Zy) (σ:St) (H:Hp) (v:V) (u:Zz) (Q:St->Hp->Prop),Inv X pz σ H s->iY v u->t v σ H Q->
  wpAny (model X.prog X.w) X.A (assign target X.env u) (fun _ s'=>∃σ' H',Inv X pz σ' H' s'/\Q σ' H') X.xe s
def PGs (X:Cx) (ts:List Zr) (t:TGs):Prop:=
 ∀(pz:Za) (s:Zy) (σ:St) (H:Hp) (vs:List V) (us:List Zz) (Q:St->Hp->Prop),Inv X pz σ H s->iX vs us->t vs σ H Q->
  wpAny (model X.prog X.w) X.A (assignInOrder ((assignEach ts X.env).map (·.2)) us) (fun _ s'=>∃σ' H',Inv X pz σ' H' s'/\Q σ' H') X.xe s
abbrev IH:=V->V->V->Hp->(Hp->Prop)->Prop
def JZ (X:Cx) (t:IH):Prop:=
 ∀(pz:Za) (s:Zy) (σ:St) (H:Hp) (o i v:V) (ov iv u:Zz) (Q:Hp->Prop),Inv X pz σ H s->iY o ov->iY i iv->iY v u->t o i v H Q->
  wpAny (model X.prog X.w) X.A (setItem ov iv u) (fun _ s'=>∃H',Inv X pz σ H' s'/\Q H') X.xe s
section
variable {X:Cx} {pos:Pos}
def hJ (i:Nat):TG:=fun v σ H Q=>Q (σ.set i (some v)) H
theorem xk {i:Nat} {x:Str} (hN:X.N.Nodup) (hi:X.N[i]?=some x) (hx:Loc X.env.scope x) (hf:autoParam (X.fn x=true\/X.env.scope.names.lookup x=some .local) auL._auto_1):PG X (.Name x pos) (hJ i):=by intro pz s σ H v u Q I r h;exact wpAny_assign_Name (qW I hN hi hx r (fun s' I'=>⟨_,H,I',h⟩) hf)
def II:TGs:=fun vs σ H Q=>vs=[]/\Q σ H
def Ar (t:TG) (u:TGs):TGs:=fun vs σ H Q=>∃v r,vs=v::r/\t v σ H fun σ' H'=>u r σ' H' Q
theorem uo:PGs X [] II:=by intro pz s σ H vs us Q I r h;obtain⟨e,h⟩:=h;subst e;cases r;exact assignInOrder_nil ⟨σ,H,I,h⟩
theorem lF {e:Zr} {es:List Zr} {t:TG} {u:TGs} (h1:PG X e t) (h2:PGs X es u)
  (hs:autoParam ((assignEach (e::es) X.env).map (·.2)=assign e X.env::(assignEach es X.env).map (·.2)) auR._auto_1):PGs X (e::es) (Ar t u):=by
 intro pz s σ H vs us Q I r h;obtain⟨v,vr,e1,h⟩:=h;subst e1
 cases r with
 |cons r rr=>rw[hs];refine assignInOrder_cons (thn (h1 pz s σ H _ _ _ I r h) ?_);rintro _ s1 ⟨σ1,H1,I1,q1⟩;exact h2 pz s1 σ1 H1 _ _ Q I1 rr q1
def IJ (K:Zp) (n:Nat) (t:TGs):TG:=fun v σ H Q=>∃a xs,v= .ref a/\SqT K H a xs/\xs.length=n/\t xs σ H Q
theorem yv {es:List Zr} {k:Nat} {t:TGs} {n:Nat} (hc:X.calm=true) (h:PGs X es t)
  (hn:autoParam ((assignEach es X.env).length=n) auR._auto_1) (hst:autoParam ((assignEach es X.env).findIdx? (·.1)=none) auR._auto_1):PG X (.Tuple es k pos) (IJ X.K n t):=by intro pz s σ H v u Q I r hw;obtain⟨a,xs,e1,hq,hl,hw⟩:=hw;subst e1;cases r;obtain⟨its,rv,ht,hz⟩:=I.tuple hq;refine assign_Tuple_tuple (I.ok.hd hc) ht (by simp[hn,<-hl,rv.length]) hst fun h' hx=>?_;have I1:Inv X pz σ H {s with heap:=h'}:=I.kept (t':=s.toks) fun b o e=>hx b o (cG (fG e)) e;exact h pz _ σ H xs _ Q I1 (by simpa using rv) hw
def gSub (to ti:TE) (t:IH):TG:=fun v σ H Q=>to σ H fun o H1=>ti σ H1 fun i H2=>t o i v H2 fun H3=>Q σ H3
theorem rE {o i:Zr} {to ti:TE} {t:IH} (ho:PE X o to) (hi:PE X i ti) (hs:JZ X t)
  (ha:∀v,assign (.Subscript o i pos) X.env v=(do
   let ov<-holding [v] (eval o X.env)
   let iv<-holding [v,ov] (eval i X.env)
   standAt pos
   holding [v,ov,iv] (setItem ov iv v)
   release [v,ov,iv] []):=by intro _;rfl):PG X (.Subscript o i pos) (gSub to ti t):=by intro pz s σ H v u Q I r h;rw[ha];refine wpAny_bind (wpAny_holding (thn (ho pz s σ H _ I h) ?_));rintro ov s1 ⟨x,H1,I1,r1,q1⟩;refine wpAny_bind (wpAny_holding (thn (hi pz s1 σ H1 _ I1 q1) ?_));rintro iv s2 ⟨y,H2,I2,r2,q2⟩;refine wpAny_bind (wpAny_standAt (wpAny_bind (wpAny_holding (thn (hs pz s2 σ H2 x y v ov iv u _ I2 r1 r2 r q2) ?_))));rintro _ s3 ⟨H3,I3,q3⟩;exact wpAny_release ⟨σ,H3,I3,q3⟩
def Iq (te:TE) (g:TG):TS:=fun D σ H=>te σ H fun x H1=>g x σ H1 D.nx
theorem rF {tg e:Zr} {te:TE} {g:TG} (he:PE X e te) (hg:PG X tg g) (hs:autoParam (swapsWithSole [tg] e pos.line X.env=pure false) auR._auto_1) (hw:autoParam (swappedStores [tg] e X.env=pure none) auR._auto_1)
  (h1:autoParam ((assignEach [tg] X.env).map (·.2)=[assign tg X.env]) auR._auto_1):PS X (.Assign [tg] e pos) (Iq te g):=by intro pz s σ H D I h;refine wpAny_Assign_stores (thn (he pz s σ H _ I h) ?_) hs hw;rintro v s1 ⟨x,H1,I1,r1,q1⟩;rw[h1];exact thn (hg pz s1 σ H1 x v _ I1 r1 q1) fun _ s2 q=>q
theorem Gz {i:Nat} {x:Str} {e:Zr} {te:TE} {pos':Pos} (hN:X.N.Nodup) (hi:X.N[i]?=some x) (hx:Loc X.env.scope x) (he:PE X e te) (hs:autoParam (swapsWith e (some (.Name x pos')) pos.line X.env=pure false) auR._auto_1) (hf:autoParam (X.fn x=true\/X.env.scope.names.lookup x=some .local) auL._auto_1):
  PS X (.Assign [.Name x pos'] e pos) (Iq te (hJ i)):=by intro pz s σ H D I h;refine wpAny_Assign_Name (thn (he pz s σ H _ I h) ?_) hs;rintro v s1 ⟨y,H1,I1,r1,q1⟩;exact qW I1 hN hi hx r1 (fun s2 I2=>⟨_,H1,I2,q1⟩) hf
end
section
variable {X:Cx} {pos:Pos}
def GA (c:TT) (tb:TS):TS:=fun D σ H=>∃W:Nat->St->Hp->Prop,(∃m,W m σ H)/\∀m σ H,W m σ H->
 c σ H fun b H1=>if b=true then ∃N:St->Hp->Prop,(∀σ' H',N σ' H'->∃m',m'<m/\W m' σ' H')/\tb {D with nx:=N,ct:=N,bk:=D.nx} σ H1 else D.nx σ H1
theorem oX {c:Zr} {body:List Zq} {tc:TT} {tb:TS} (hp:PassesOwn (model X.prog X.w) X.A X.env X.xe) (hc:PT X c tc) (hb:PSs X body tb):PS X (.While c body [] pos) (GA tc tb):=by
 intro pz s σ H D I h;obtain⟨W,⟨m0,w0⟩,turn⟩:=h;refine wpAny_While (codeAny_whileLoop (fun n s'=>∃σ' H',Inv X pz σ' H' s'/\W n σ' H') ?_ m0 ⟨σ,H,I,w0⟩);rintro n s1 ⟨σ1,H1,I1,w1⟩;refine wpAny_passesOwn hp (thn (hc pz s1 σ1 H1 _ I1 (turn n σ1 H1 w1)) ?_);rintro b s2 ⟨H2,I2,q2⟩
 cases b with
 |true=>
  obtain⟨N,hN,q2⟩:=q2;rw[gY rfl];refine wpAny_passesOwn hp (thn (hb pz s2 σ1 H2 _ I2 q2) fun f s3 q3=>?_)
  cases f with
  |next=>obtain⟨σ3,H3,I3,n3⟩:=q3;obtain⟨m',hm,w3⟩:=hN σ3 H3 n3;exact⟨m',hm,σ3,H3,I3,w3⟩
  |cont=>obtain⟨σ3,H3,I3,n3⟩:=q3;obtain⟨m',hm,w3⟩:=hN σ3 H3 n3;exact⟨m',hm,σ3,H3,I3,w3⟩
  |brk=>exact q3
  |ret v=>exact q3
 |false=>rw[gJ fg];exact wpAny_execs_nil ⟨σ1,H2,I2,q2⟩
end
structure It where
 go:Nat->Hp->Prop
 yld:Nat->Hp->V->Hp->Prop
 stop:Nat->Hp->Prop
def yw (X:Cx) (pz:Za) (H:Hp) (b:Zx):Prop:=
 H b=none/\b≠X.env.locals/\b∉X.fs/\(b∈X.ex\/X.s₀.heap.objs.size<=b)/\(∀x c,X.env.cells.lookup x=some c->c≠b)/\∀p∈X.pn++pz,p.1≠b
theorem Inv.fpOk {X:Cx} {pz:Za} {σ:St} {H H':Hp} {s:Zy} {b:Zx} (I:Inv X pz σ H s) (hb:s.heap.objs.size<=b) (hn:H' b=none):yw X pz H' b:=by
 refine⟨hn,cK (cE I.lt hb),I.nofs hb,.inr (cH I.sz hb),fun x c e z=>?_,fun p hp z=>?_⟩;·obtain⟨v,q⟩:=I.cell x c e;exact absurd (cE q.lt (by rw[z];exact hb)) (cF _)
 ·exact absurd (cE (fG (I.pin p hp).1) (by rw[z];exact hb)) (cF _)
structure CD (P:Zu) (w:Zv) (K:Zp) (tg:Zr) (J:It) (fp:List Zx) (it:Zx) (tn:Nat->Zt->Prop):Prop where
 mem:it∈fp
 obj:∀i h,tn i h->∀b∈fp,∃o,h.get? b=some o/\∀v,o.data≠ .cell v
 keep:∀i h h',tn i h->(∀b∈fp,∀o,h.get? b=some o->h'.get? b=some o)->tn i h'
 item:∀(X:Cx),X.prog=P->X.w=w->X.K=K->X.calm=true->∀(i:Nat) (pz:Za) (s:Zy) (σ:St) (H:Hp) (E:Zb),Inv X pz σ H s->(∀b∈fp,yw X pz H b)->tn i s.heap->J.go i H->
  wpAny (model P w) X.A (pyNext (.ref it)) (fun r s1=>∃u,r=some u/\
   wpAny (model P w) X.A (letOwnedTupleGo tg (.ref it) u) (fun _ s2=>∃x H',Inv X pz σ H' s2/\iY x u/\J.yld i H x H'/\tn (i+ 1) s2.heap/\∀b∈fp,H' b=none) E s1) E s
 done:∀(X:Cx),X.prog=P->X.w=w->X.K=K->X.calm=true->∀(i:Nat) (pz:Za) (s:Zy) (σ:St) (H:Hp) (E:Zb),Inv X pz σ H s->(∀b∈fp,yw X pz H b)->tn i s.heap->J.stop i H->
  wpAny (model P w) X.A (pyNext (.ref it)) (fun r s1=>r=none/\Inv X pz σ H s1) E s
 self:∀(A:Zw) (i:Nat) (s:Zy) (Q:Zb) (E:Zb),tn i s.heap->Q (.ref it) s->wpAny (model P w) A (pyIter (.ref it)) Q E s
abbrev TI:=St->Hp->(It->Hp->Prop)->Prop
def PIE (X:Cx) (pz:Za) (σ:St) (tg:Zr) (R:It->Hp->Prop) (itv:Zz) (s2:Zy):Prop:=
 ∃(it:Zx) (fp:List Zx) (tn:Nat->Zt->Prop) (J:It) (H':Hp),itv= .ref it/\Inv X pz σ H' s2/\CD X.prog X.w X.K tg J fp it tn/\tn 0 s2.heap/\(∀b∈fp,yw X pz H' b)/\R J H'
def PI (X:Cx) (tg iter:Zr) (wi:TI):Prop:=
 ∀(pz:Za) (s:Zy) (σ:St) (H:Hp) (R:It->Hp->Prop),Inv X pz σ H s->wi σ H R->
  wpAny (model X.prog X.w) X.A (eval iter X.env) (fun v s1=>wpAny (model X.prog X.w) X.A (pyIter v) (PIE X pz σ tg R) X.xe s1) X.xe s
theorem zA {M : Model} {A : Zw} {E : Zz -> Zy -> Prop} {s : Zy} {tg : Zr} {it : Zx} {u : Zz} {o : Obj} {n : String} {vs : Array Zz} {Q : Unit -> Zy -> Prop} (ho : s.heap.get? it = some o) (hc : o.cls = .type n) (hd : o.data = .fields vs)
  (hn : ["enumerate", "zip", "dict_itemiterator", "dict_reverseitemiterator", "odict_iterator", "itertools.zip_longest", "itertools.pairwise"].contains n = false) (hQ : Q () s) : wpAny M A (letOwnedTupleGo tg (.ref it) u) Q E s := by
 unfold letOwnedTupleGo;cases tg <;> first
  | exact wpAny_pure hQ
  | (cases u <;> first
    | exact wpAny_pure hQ
    | (refine wpAny_bind (wpAny_load ho ?_);rw [hc, hd];show wpAny M A (if (["enumerate", "zip", "dict_itemiterator", "dict_reverseitemiterator", "odict_iterator", "itertools.zip_longest", "itertools.pairwise"].contains n && vs[0]? == some (rawInt _)) = true then _ else _) Q E s;rw [gJ (by intro h; rw [hn, Bool.false_and] at h; cases h)];exact wpAny_pure hQ))
def Itl (K:Zp) (a:Zx):It:=
 ⟨fun i H=>∃xs x,SqL K H a xs/\xs[i]?=some x,fun i H x H'=>H'=H/\∀xs,SqL K H a xs->xs[i]?=some x,fun i H=>∃xs,SqL K H a xs/\xs.length<=i⟩
def Itt (K:Zp) (a:Zx):It:=
 ⟨fun i H=>∃xs x,SqT K H a xs/\xs[i]?=some x,fun i H x H'=>H'=H/\∀xs,SqT K H a xs->xs[i]?=some x,fun i H=>∃xs,SqT K H a xs/\xs.length<=i⟩
def Itr (lo:Int) (n:Nat):It:=⟨fun i _=>i<n,fun i H x H'=>H'=H/\x= .int (lo+i),fun i _=>n<=i⟩
theorem As {P:Zu} {w:Zv} {K:Zp} {tg:Zr} (a it:Zx):CD P w K tg (Itl K a) [it] it (fun i h=>h.IsListIter it a i) where
 mem:=by simp
 obj:=fun i h st b hb=>by
  have e:b=it:=by simpa using hb
  subst e;obtain⟨o,e,c,d⟩:=st;exact⟨o,e,fun v z=>by rw[d]at z;cases z⟩
 keep:=fun i h h' st k=>st.at fun o e=>k it (by simp) o e
 item:=by intro X hP hw hK hc i pz s σ H E I hf st hg;subst hP hw hK;obtain⟨xs,x,hq,hx⟩:=hg;obtain⟨its,rv,p,hz⟩:=I.list hq;obtain⟨u,hu,ru⟩:=rv.get hx;obtain⟨f0,f1,f2,f3,f4,f5⟩:=hf it (by simp);refine wpAny_pyNext_list_item st p.isList (x:=u) (by simpa using hu) fun h' st' sb=>?_;have I1:Inv X pz σ H {s with heap:=h'}:=I.turned (t':=s.toks) (fun b o hb e=>(sb.2 b hb).trans e) f0 f1 f3 f4 f5;obtain⟨o,e,c,d⟩:=id st';exact⟨u,rfl,zA (s:={s with heap:=h'}) e c d (by decide) ⟨x,H,I1,ru,⟨rfl,fun ys hy=>by rw[I.list_inj hy hq];exact hx⟩,st',fun b hb=>(hf b hb).1⟩⟩
 done:=by intro X hP hw hK hc i pz s σ H E I hf st hg;subst hP hw hK;obtain⟨xs,hq,hx⟩:=hg;obtain⟨its,rv,p,hz⟩:=I.list hq;obtain⟨f0,f1,f2,f3,f4,f5⟩:=hf it (by simp);have hl:=rv.length;exact wpAny_pyNext_list_end (I.ok.hd hc) st p.isList (by simp;lia) fun h' eb=>⟨rfl,I.turned (t':=s.toks) (fun b o hb e=>eb b o hb e) f0 f1 f3 f4 f5⟩
 self:=fun _ _ _ _ _ st h=>wpAny_pyIter_listiter st h
theorem zB {P:Zu} {w:Zv} {K:Zp} {tg:Zr} (a it:Zx):CD P w K tg (Itt K a) [it] it (fun i h=>h.IsTupleIter it a i) where
 mem:=by simp
 obj:=fun i h st b hb=>by
  have e:b=it:=by simpa using hb
  subst e;obtain⟨o,e,c,d⟩:=st;exact⟨o,e,fun v z=>by rw[d]at z;cases z⟩
 keep:=fun i h h' st k=>st.at fun o e=>k it (by simp) o e
 item:=by intro X hP hw hK hc i pz s σ H E I hf st hg;subst hP hw hK;obtain⟨xs,x,hq,hx⟩:=hg;obtain⟨its,rv,p,hz⟩:=I.tuple hq;obtain⟨u,hu,ru⟩:=rv.get hx;obtain⟨f0,f1,f2,f3,f4,f5⟩:=hf it (by simp);refine wpAny_pyNext_tuple_item st (show s.heap.IsTuple a its.toArray from p) (x:=u) (by simpa using hu) fun h' st' sb=>?_;have I1:Inv X pz σ H {s with heap:=h'}:=I.turned (t':=s.toks) (fun b o hb e=>(sb.2 b hb).trans e) f0 f1 f3 f4 f5;obtain⟨o,e,c,d⟩:=id st';exact⟨u,rfl,zA (s:={s with heap:=h'}) e c d (by decide) ⟨x,H,I1,ru,⟨rfl,fun ys hy=>by rw[I.tuple_inj hy hq];exact hx⟩,st',fun b hb=>(hf b hb).1⟩⟩
 done:=by intro X hP hw hK hc i pz s σ H E I hf st hg;subst hP hw hK;obtain⟨xs,hq,hx⟩:=hg;obtain⟨its,rv,p,hz⟩:=I.tuple hq;obtain⟨f0,f1,f2,f3,f4,f5⟩:=hf it (by simp);have hl:=rv.length;exact wpAny_pyNext_tuple_end (I.ok.hd hc) st (show s.heap.IsTuple a its.toArray from p) (by simp;lia) fun h' eb=>⟨rfl,I.turned (t':=s.toks) (fun b o hb e=>eb b o hb e) f0 f1 f3 f4 f5⟩
 self:=fun _ _ _ _ _ st h=>wpAny_pyIter_tupleiter st h
theorem zC {P:Zu} {w:Zv} {K:Zp} {tg:Zr} (it:Zx) (lo:Int) (n:Nat):CD P w K tg (Itr lo n) [it] it (fun i h=>IsRangeIter h it (lo+(i:Nat)*1) ((n:Int)-(i:Nat)) 1) where
 mem:=by simp
 obj:=fun i h st b hb=>by
  have e:b=it:=by simpa using hb
  subst e;exact⟨_,st,fun v z=>by have z':Data.fields _=Data.cell v:=z;cases z'⟩
 keep:=fun i h h' st k=>k it (by simp) _ st
 item:=by intro X hP hw hK hc i pz s σ H E I hf st hg;subst hP hw hK;obtain⟨f0,f1,f2,f3,f4,f5⟩:=hf it (by simp);have W:=Walks.range (prog:=X.prog) (w:=X.w) (I.ok.hd hc) it lo 1 n;refine W.item i s _ _ hg st fun v h' tk hv st' kk=>?_;obtain⟨t,rfl⟩:=hv;have I1:Inv X pz σ H {s with heap:=h',toks:=tk}:=I.turned (fun b o hb e=>kk b o (by simpa using hb) e) f0 f1 f3 f4 f5;refine⟨_,rfl,zA (s:={s with heap:=h',toks:=tk}) (n:="range_iterator") st' rfl rfl (by decide) ⟨.int (lo+i),H,I1,⟨t,?_⟩,⟨rfl,rfl⟩,st',fun b hb=>(hf b hb).1⟩⟩;rw[Int.mul_one]
 done:=by intro X hP hw hK hc i pz s σ H E I hf st hg;subst hP hw hK;obtain⟨f0,f1,f2,f3,f4,f5⟩:=hf it (by simp);exact wpAny_pyNext_range_end (I.ok.hd hc) st (by have:n<=i:=hg;lia) fun h' eb=>⟨rfl,I.turned (t':=s.toks) (fun b o hb e=>eb b o hb e) f0 f1 f3 f4 f5⟩
 self:=fun _ _ _ _ _ st h=>wpAny_pyIter_rangeiter st h
section
variable {X:Cx} {tg:Zr}
def IK (K:Zp) (tl:TE):TI:=fun σ H R=>tl σ H fun x H1=>∃a,x= .ref a/\(∃xs,SqL K H1 a xs)/\R (Itl K a) H1
def iTup (K:Zp) (tl:TE):TI:=fun σ H R=>tl σ H fun x H1=>∃a,x= .ref a/\(∃xs,SqT K H1 a xs)/\R (Itt K a) H1
theorem jm {l:Zr} {tl:TE} (hl:PE X l tl):PI X tg l (IK X.K tl):=by
 intro pz s σ H R I h;refine thn (hl pz s σ H _ I h) ?_;rintro v s1 ⟨x,H1,I1,r1,q1⟩;obtain⟨a,e,⟨xs,hq⟩,q⟩:=q1;subst e;cases r1;obtain⟨its,rv,p,hz⟩:=I1.list hq;refine wpAny_pyIter_list p.isList ?_;refine⟨s1.heap.objs.size,[s1.heap.objs.size],_,_,H1,rfl,I1.kept (t':=s1.toks) fun b o e=>fJ _ e,As a _,⟨_,fH _ rfl,rfl,rfl⟩,fun b hb=>?_,q⟩;have e:b=s1.heap.objs.size:=by simpa using hb
 subst e;exact I1.fpOk (cM _) (I1.hok.fresh (cM _))
theorem tN {l:Zr} {tl:TE} (hl:PE X l tl):PI X tg l (iTup X.K tl):=by
 intro pz s σ H R I h;refine thn (hl pz s σ H _ I h) ?_;rintro v s1 ⟨x,H1,I1,r1,q1⟩;obtain⟨a,e,⟨xs,hq⟩,q⟩:=q1;subst e;cases r1;obtain⟨its,rv,p,hz⟩:=I1.tuple hq;refine wpAny_pyIter_tuple (show s1.heap.IsTuple a its.toArray from p) ?_;refine⟨s1.heap.objs.size,[s1.heap.objs.size],_,_,H1,rfl,I1.kept (t':=s1.toks) fun b o e=>fJ _ e,zB a _,⟨_,fH _ rfl,rfl,rfl⟩,fun b hb=>?_,q⟩;have e:b=s1.heap.objs.size:=by simpa using hb
 subst e;exact I1.fpOk (cM _) (I1.hok.fresh (cM _))
theorem CF {pz:Za} {σ:St} {H:Hp} {s:Zy} {R:It->Hp->Prop} {E:Zb} {lo hi:Int} {t u v:Tok} {tk:Nat} (I:Inv X pz σ H s) (h1: -(2^62)<=lo) (h2:lo<2^62) (h3: -(2^62)<=hi) (h4:hi<2^62)
  (q:R (Itr lo (hi-lo).toNat) H):wpAny (model X.prog X.w) X.A (pyIter (.ref s.heap.objs.size)) (PIE X pz σ tg R) E {s with heap:=s.heap.push {cls:= .type "range",data:= .fields #[.int lo t,.int hi u,.int 1 v]},toks:=tk}:=by
 refine wpAny_pyIter_range (IsRange.new ..) (small_one h1 h2 h3 h4) ?_;have I1:Inv X pz σ H {s with heap:=s.heap.push {cls:= .type "range",data:= .fields #[.int lo t,.int hi u,.int 1 v]},toks:=tk}:=I.kept fun b o e=>fJ _ e;refine⟨(s.heap.push {cls:= .type "range",data:= .fields #[.int lo t,.int hi u,.int 1 v]}).objs.size,[(s.heap.push {cls:= .type "range",data:= .fields #[.int lo t,.int hi u,.int 1 v]}).objs.size],_,_,H,rfl,
  I1.kept (t':=tk) fun b o e=>fJ _ e,zC _ lo (hi-lo).toNat,?_,fun b hb=>?_,q⟩
 ·have e1:lo+((0:Nat):Int)*1=lo:=by simp
  have e2:(((hi-lo).toNat:Nat):Int)-((0:Nat):Int)=Builtin.Range.rangeSize lo hi 1:=by rw[rangeSize_one];split<;>lia
  show IsRangeIter _ _ (lo+((0:Nat):Int)*1) ((((hi-lo).toNat:Nat):Int)-((0:Nat):Int)) 1;rw[e1,e2];exact fH _ rfl
 ·have e:b=(s.heap.push {cls:= .type "range",data:= .fields #[.int lo t,.int hi u,.int 1 v]}).objs.size:=by simpa using hb
  subst e;exact I1.fpOk (cM _) (I1.hok.fresh (cM _))
def IL (ta:TA):TI:=fun σ H R=>ta σ H fun vs H1=>∃j:Int,vs=[.int j]/\-(2^62)<=j/\j<2^62/\R (Itr 0 j.toNat) H1
theorem mJ {a:Zr} {ta:TA} {p pos:Pos} (hg:Gl X "range") (hm:X.mg "range"=none) (ha:PA X [a] ta) (hs:autoParam (starEach [a] X.env=[(false,eval a X.env)]) auR._auto_1):PI X tg (.Call (.Name "range" p) [a] [] pos) (IL ta):=by
 intro pz s σ H R I h;refine Call_ (nS I hg hm boot_range (fQ (thn (ha pos pz s σ H _ I h) ?_) hs rfl));rintro us s1 ⟨vs,H1,I1,r1,q1⟩;obtain⟨j,e,q1,q2,q⟩:=q1;subst e
 cases r1 with
 |cons r rr=>cases rr;obtain⟨t,rfl⟩:=r;exact call_range_1 (CF I1 (by lia) (by lia) q1 q2 (by simpa using q))
def tFor (wi:TI) (g:TG) (tb:TS):TS:=fun D σ H=>wi σ H fun J H1=>∃W:Nat->Nat->St->Hp->Prop,(∃m,W 0 m σ H1)/\∀i m σ H,W i m σ H->
 (J.stop i H/\D.nx σ H)\/(J.go i H/\∃N:St->Hp->Prop,(∀σ' H',N σ' H'->∃m',m'<m/\W (i+ 1) m' σ' H')/\∀x H',J.yld i H x H'->g x σ H' fun σ2 H2=>tb {D with nx:=N,ct:=N,bk:=D.nx} σ2 H2)
def tO (fp:List Zx) (h:Zt):Za:=fp.filterMap fun b=>(h.get? b).map fun o=>(b,o)
theorem kR {fp:List Zx} {h:Zt} {b:Zx} {o:Obj} (hb:b∈fp) (e:h.get? b=some o):(b,o)∈tO fp h:=az.mpr ⟨b,hb,by rw[e];rfl⟩
theorem Au {fp:List Zx} {h:Zt} {p:Zx×Obj} (hp:p∈tO fp h):p.1∈fp/\h.get? p.1=some p.2:=by
 obtain⟨b,hb,e⟩:=az.mp hp
 cases q:h.get? b with
 |none=>rw[q]at e;cases e
 |some o=>rw[q]at e;have e':(b,o)=p:=dw.inj e;subst e';exact⟨hb,q⟩
theorem Inv.pinned {pz:Za} {σ:St} {H:Hp} {s:Zy} {fp:List Zx} (I:Inv X pz σ H s) (hf:∀b∈fp,yw X pz H b) (ho:∀b∈fp,∃o,s.heap.get? b=some o/\∀v,o.data≠ .cell v):Inv X (pz++tO fp s.heap) σ H s:=
 I.pins_of fun p hp=>(ao.mp hp).elim (fun z=>I.pin p (aA _ z)) fun z=>by obtain⟨hb,e⟩:=Au z;obtain⟨f0,f1,f2,_⟩:=hf p.1 hb;obtain⟨o,e',d⟩:=ho p.1 hb;rw[e]at e';cases e';exact⟨e,f0,f1,f2,d⟩
theorem Inv.unpinned {pz pl:Za} {σ:St} {H:Hp} {s:Zy} (I:Inv X (pz++pl) σ H s):Inv X pz σ H s:=I.pins_of fun p hp=>I.pin p (aA _ (aq _ hp))
theorem jk {iter:Zr} {body:List Zq} {wi:TI} {g:TG} {tb:TS} {pos:Pos} (hp:PassesOwn (model X.prog X.w) X.A X.env X.xe) (hc:X.calm=true) (hi:PI X tg iter wi) (hg:PG X tg g) (hb:PSs X body tb)
  (hs:autoParam (∀x,foldedSetIterable iter X.env x=pure x) auI._auto_1):PS X (.For tg iter body [] pos) (tFor wi g tb):=by
 intro pz s σ H D I h;refine wpAny_For (thn (hi pz s σ H _ I h) fun v s1 h1=>thn h1 fun itv s2 h2=>?_) hs;obtain⟨it,fp,tn,J,H2,e,I2,T,st2,f2,W,⟨m0,w0⟩,turn⟩:=h2;subst e;have stat:∀{H':Hp},(∀b∈fp,H' b=none)->∀b∈fp,yw X pz H' b:=fun hn b hb=>⟨hn b hb,(f2 b hb).2⟩;refine codeAny_forLoop_any (fun n s'=>∃i σ' H',Inv X pz σ' H' s'/\tn i s'.heap/\(∀b∈fp,H' b=none)/\W i n σ' H') ?_ m0 ⟨0,σ,H2,I2,st2,fun b hb=>(f2 b hb).1,w0⟩;rintro n s3 ⟨i,σ3,H3,I3,st3,fr3,w3⟩;rcases turn i n σ3 H3 w3 with⟨stop,qn⟩|⟨go,N,hN,step⟩;·refine wpAny_passesOwn hp (thn (T.done X rfl rfl rfl hc i pz s3 σ3 H3 X.xe I3 (stat fr3) st3 stop) fun r s4 ⟨hr,I4⟩=>?_);subst hr;exact wpAny_execs_nil ⟨σ3,H3,I4,qn⟩
 ·refine wpAny_passesOwn hp (thn (T.item X rfl rfl rfl hc i pz s3 σ3 H3 X.xe I3 (stat fr3) st3 go) ?_);rintro r s4 ⟨u,rfl,h4⟩;refine wpAny_passesOwn hp (thn h4 ?_);rintro _ s5 ⟨x,H5,I5,r5,y5,st5,fr5⟩;have I5':=I5.pinned (stat fr5) (T.obj _ _ st5);refine wpAny_passesOwn hp (thn (hg _ s5 σ3 H5 x u _ I5' r5 (step x H5 y5)) ?_);rintro _ s6 ⟨σ6,H6,I6,q6⟩;refine wpAny_passesOwn hp (thn (hb _ s6 σ6 H6 _ I6 q6) fun f s7 q7=>?_);have again:∀{σ7:St} {H7:Hp},Inv X (pz++tO fp s5.heap) σ7 H7 s7->N σ7 H7->∃m,m<n/\∃i σ' H',Inv X pz σ' H' s7/\tn i s7.heap/\(∀b∈fp,H' b=none)/\W i m σ' H':=fun{σ7 H7} I7 n7=>by obtain⟨m',hm,w7⟩:=hN σ7 H7 n7;refine⟨m',hm,i+ 1,σ7,H7,I7.unpinned,T.keep _ _ _ st5 fun b hb o e=>(I7.pin (b,o) (aA _ (aA _ (kR hb e)))).1,fun b hb=>?_,w7⟩;obtain⟨o,e,d⟩:=T.obj _ _ st5 b hb;exact(I7.pin (b,o) (aA _ (aA _ (kR hb e)))).2.1
  cases f with
  |next=>obtain⟨σ7,H7,I7,n7⟩:=q7;exact again I7 n7
  |cont=>obtain⟨σ7,H7,I7,n7⟩:=q7;exact again I7 n7
  |brk=>obtain⟨σ7,H7,I7,q7⟩:=q7;exact⟨σ7,H7,I7.unpinned,q7⟩
  |ret v=>obtain⟨x7,σ7,H7,I7,r7,q7⟩:=q7;exact⟨x7,σ7,H7,I7.unpinned,r7,q7⟩
end
theorem jV {K:Zp} {a:Zx} {xs:List V} {g:TG} {tb:TS} {D:rA} {σ:St} {H:Hp} (Pv:Nat->St->Hp->Prop) (h0:Pv 0 σ H) (hl:∀i σ H,i<=xs.length->Pv i σ H->SqL K H a xs)
  (hs:∀i x σ H,xs[i]?=some x->Pv i σ H->g x σ H fun σ2 H2=>tb {D with nx:=Pv (i+ 1),ct:=Pv (i+ 1),bk:=D.nx} σ2 H2) (hd:∀σ H,Pv xs.length σ H->D.nx σ H):
  ∃W:Nat->Nat->St->Hp->Prop,(∃m,W 0 m σ H)/\∀i m σ H,W i m σ H->
   ((Itl K a).stop i H/\D.nx σ H)\/((Itl K a).go i H/\∃N:St->Hp->Prop,(∀σ' H',N σ' H'->∃m',m'<m/\W (i+ 1) m' σ' H')/\∀x H',(Itl K a).yld i H x H'->g x σ H' fun σ2 H2=>tb {D with nx:=N,ct:=N,bk:=D.nx} σ2 H2):=by
 refine⟨fun i m σ H=>m=xs.length-i/\i<=xs.length/\Pv i σ H,⟨xs.length,by simp,cO _,h0⟩,?_⟩;rintro i m σ H ⟨rfl,hi,p⟩;have q:=hl i σ H hi p;by_cases hlt:i<xs.length;·refine .inr ⟨⟨xs,xs[i],q,by simp[hlt]⟩,Pv (i+ 1),fun σ' H' p'=>⟨xs.length-(i+ 1),by lia,rfl,hlt,p'⟩,fun x H' y=>?_⟩;obtain⟨e,y⟩:=y;subst e;exact hs i x σ _ (y xs q) p
 ·have e:i=xs.length:=by lia
  subst e;exact .inl ⟨⟨xs,q,cM _⟩,hd σ H p⟩
theorem xm {K:Zp} {a:Zx} {xs:List V} {g:TG} {tb:TS} {D:rA} {σ:St} {H:Hp} (Pv:Nat->St->Hp->Prop) (h0:Pv 0 σ H) (hl:∀i σ H,i<=xs.length->Pv i σ H->SqT K H a xs)
  (hs:∀i x σ H,xs[i]?=some x->Pv i σ H->g x σ H fun σ2 H2=>tb {D with nx:=Pv (i+ 1),ct:=Pv (i+ 1),bk:=D.nx} σ2 H2) (hd:∀σ H,Pv xs.length σ H->D.nx σ H):
  ∃W:Nat->Nat->St->Hp->Prop,(∃m,W 0 m σ H)/\∀i m σ H,W i m σ H->
   ((Itt K a).stop i H/\D.nx σ H)\/((Itt K a).go i H/\∃N:St->Hp->Prop,(∀σ' H',N σ' H'->∃m',m'<m/\W (i+ 1) m' σ' H')/\∀x H',(Itt K a).yld i H x H'->g x σ H' fun σ2 H2=>tb {D with nx:=N,ct:=N,bk:=D.nx} σ2 H2):=by
 refine⟨fun i m σ H=>m=xs.length-i/\i<=xs.length/\Pv i σ H,⟨xs.length,by simp,cO _,h0⟩,?_⟩;rintro i m σ H ⟨rfl,hi,p⟩;have q:=hl i σ H hi p;by_cases hlt:i<xs.length;·refine .inr ⟨⟨xs,xs[i],q,by simp[hlt]⟩,Pv (i+ 1),fun σ' H' p'=>⟨xs.length-(i+ 1),by lia,rfl,hlt,p'⟩,fun x H' y=>?_⟩;obtain⟨e,y⟩:=y;subst e;exact hs i x σ _ (y xs q) p
 ·have e:i=xs.length:=by lia
  subst e;exact .inl ⟨⟨xs,q,cM _⟩,hd σ H p⟩
theorem mK {lo:Int} {n:Nat} {g:TG} {tb:TS} {D:rA} {σ:St} {H:Hp} (Pv:Nat->St->Hp->Prop) (h0:Pv 0 σ H)
  (hs:∀i σ H,i<n->Pv i σ H->g (.int (lo+i)) σ H fun σ2 H2=>tb {D with nx:=Pv (i+ 1),ct:=Pv (i+ 1),bk:=D.nx} σ2 H2) (hd:∀σ H,Pv n σ H->D.nx σ H):
  ∃W:Nat->Nat->St->Hp->Prop,(∃m,W 0 m σ H)/\∀i m σ H,W i m σ H->
   ((Itr lo n).stop i H/\D.nx σ H)\/((Itr lo n).go i H/\∃N:St->Hp->Prop,(∀σ' H',N σ' H'->∃m',m'<m/\W (i+ 1) m' σ' H')/\∀x H',(Itr lo n).yld i H x H'->g x σ H' fun σ2 H2=>tb {D with nx:=N,ct:=N,bk:=D.nx} σ2 H2):=by
 refine⟨fun i m σ H=>m=n-i/\i<=n/\Pv i σ H,⟨n,by simp,cO _,h0⟩,?_⟩;rintro i m σ H ⟨rfl,hi,p⟩;by_cases hlt:i<n;·refine .inr ⟨hlt,Pv (i+ 1),fun σ' H' p'=>⟨n-(i+ 1),by lia,rfl,hlt,p'⟩,fun x H' y=>?_⟩;obtain⟨e,y⟩:=y;subst e y;exact hs i σ _ hlt p
 ·have e:i=n:=by lia
  subst e;exact .inl ⟨cM _,hd σ H p⟩
abbrev R2:=V->V->Hp->VK->Prop
def OpR (X:Cx) (f:Zz->Zz->Sem Zz) (r:R2):Prop:=
 ∀(pz:Za) (s:Zy) (σ:St) (H:Hp) (x y:V) (v u:Zz) (Q:VK),Inv X pz σ H s->iY x v->iY y u->r x y H Q->
  wpAny (model X.prog X.w) X.A (f v u) (EP X pz σ Q) X.xe s
def UnR (X:Cx) (f:Zz->Sem Zz) (r:V->Hp->VK->Prop):Prop:=
 ∀(pz:Za) (s:Zy) (σ:St) (H:Hp) (x:V) (v:Zz) (Q:VK),Inv X pz σ H s->iY x v->r x H Q->
  wpAny (model X.prog X.w) X.A (f v) (EP X pz σ Q) X.xe s
def n9 (X:Cx) (f:Zz) (r:List V->Hp->VK->Prop):Prop:=
 ∀(pz:Za) (s:Zy) (σ:St) (H:Hp) (xs:List V) (us:List Zz) (Q:VK),Inv X pz σ H s->iX xs us->r xs H Q->
  wpAny (model X.prog X.w) X.A (call f us) (EP X pz σ Q) X.xe s
def tOp (r:R2) (ta tb:TE):TE:=fun σ H Q=>ta σ H fun x H1=>tb σ H1 fun y H2=>r x y H2 Q
def tUn (r:V->Hp->VK->Prop) (ta:TE):TE:=fun σ H Q=>ta σ H fun x H1=>r x H1 Q
def rI (C:Int->Int->Prop) (g:Int->Int->V):R2:=fun x y H Q=>∃i j,x= .int i/\y= .int j/\C i j/\Q (g i j) H
def rI0 (g:Int->Int->V):R2:=fun x y H Q=>∃i j,x= .int i/\y= .int j/\Q (g i j) H
def rU (g:Int->V):V->Hp->VK->Prop:=fun x H Q=>∃i,x= .int i/\Q (g i) H
section
variable {X:Cx} {a b c:Zr} {ta tb tc:TE} {pos:Pos}
theorem IM (ha:PE X a ta) (hb:PE X b tb) {pz:Za} {s:Zy} {σ:St} {H:Hp} {R:V->V->Hp->Prop} (I:Inv X pz σ H s)
  (h:ta σ H fun x H1=>tb σ H1 fun y H2=>R x y H2) {Q:Zb} {f:Zz->Zz->Sem Zz}
  (hf:∀v u s2 x y H2,Inv X pz σ H2 s2->iY x v->iY y u->R x y H2->wpAny (model X.prog X.w) X.A (f v u) Q X.xe s2):
  wpAny (model X.prog X.w) X.A (eval a X.env) (fun v s₁=>wpAny (model X.prog X.w) X.A (eval b X.env) (fun u s₂=>wpAny (model X.prog X.w) X.A (f v u) Q X.xe s₂) X.xe s₁) X.xe s:=by refine thn (ha pz s σ H _ I h) ?_;rintro v s1 ⟨x,H1,I1,r1,q1⟩;refine thn (hb pz s1 σ H1 _ I1 q1) ?_;rintro u s2 ⟨y,H2,I2,r2,q2⟩;exact hf v u s2 x y H2 I2 r1 r2 q2
theorem ic {op:Operator} {r:R2} (ho:OpR X (binaryOp op) r) (ha:PE X a ta) (hb:PE X b tb):PE X (.BinOp a op b pos) (tOp r ta tb):=by intro pz s σ H Q I h;exact wpAny_BinOp (IM ha hb I h fun v u s2 x y H2 I2 rx ry q=>ho pz s2 σ H2 x y v u Q I2 rx ry q)
theorem vF {op:UnaryOp} {r:V->Hp->VK->Prop} (ho:UnR X (unaryOp op) r) (ha:PE X a ta):PE X (.UnaryOp op a pos) (tUn r ta):=by intro pz s σ H Q I h;exact UnaryOp_ (thn (ha pz s σ H _ I h) fun v s1 ⟨x,H1,I1,r1,q1⟩=>ho pz s1 σ H1 x v Q I1 r1 q1)
theorem opI {f:Zz->Zz->Sem Zz} {C:Int->Int->Prop} {g:Int->Int->Int}
  (rule:∀(i j:Int) (t u:Tok) (s:Zy) (Q:Zb) (E:Zb),C i j->Q (.int (g i j) s.toks) {s with toks:=s.toks+ 1}->wpAny (model X.prog X.w) X.A (f (.int i t) (.int j u)) Q E s):
  OpR X f (rI C fun i j=> .int (g i j)):=by intro pz s σ H x y v u Q I rx ry h;obtain⟨i,j,rfl,rfl,hc,q⟩:=h;obtain⟨t,rfl⟩:=rx;obtain⟨t',rfl⟩:=ry;exact rule i j t t' s _ _ hc ⟨.int (g i j),H,I.tok _,⟨_,rfl⟩,q⟩
theorem J0 {f:Zz->Zz->Sem Zz} {g:Int->Int->Int}
  (rule:∀(i j:Int) (t u:Tok) (s:Zy) (Q:Zb) (E:Zb),Q (.int (g i j) s.toks) {s with toks:=s.toks+ 1}->wpAny (model X.prog X.w) X.A (f (.int i t) (.int j u)) Q E s):
  OpR X f (rI0 fun i j=> .int (g i j)):=by intro pz s σ H x y v u Q I rx ry h;obtain⟨i,j,rfl,rfl,q⟩:=h;obtain⟨t,rfl⟩:=rx;obtain⟨t',rfl⟩:=ry;exact rule i j t t' s _ _ ⟨.int (g i j),H,I.tok _,⟨_,rfl⟩,q⟩
theorem Ir {f:Zz->Zz->Sem Zz} {g:Int->Int->Bool}
  (rule:∀(i j:Int) (t u:Tok) (s:Zy) (Q:Zb) (E:Zb),Q (.bool (g i j)) s->wpAny (model X.prog X.w) X.A (f (.int i t) (.int j u)) Q E s):
  OpR X f (rI0 fun i j=> .bl (g i j)):=by intro pz s σ H x y v u Q I rx ry h;obtain⟨i,j,rfl,rfl,q⟩:=h;obtain⟨t,rfl⟩:=rx;obtain⟨t',rfl⟩:=ry;exact rule i j t t' s _ _ ⟨.bl (g i j),H,I,rfl,q⟩
def J4 (i j:Int):Prop:=0<j/\j<1073741824
def J5 (i j:Int):Prop:=0<=j/\j<=1000000/\i.natAbs<2^64
def Iu (i j:Int):Prop:=(-(2^64)<i/\i<2^64)\/(-(2^64)<j/\j<2^64)
theorem Iu.ok {i j:Int} (h:Iu i j):IntMulOk i j:=by
 rcases h with⟨h1,h2⟩|⟨h1,h2⟩;·exact .of_left (intBits_le_64 h1 h2)
 ·exact .of_right (intBits_le_64 h1 h2)
theorem DN:OpR X (binaryOp .Add) (rI0 fun i j=> .int (i+j)):=J0 fun _ _ _ _ _ _ _ q=>add_int q
theorem GB:OpR X (binaryOp .Sub) (rI0 fun i j=> .int (i-j)):=J0 fun _ _ _ _ _ _ _ q=>sub_int q
theorem GC:OpR X (binaryOp .Mult) (rI Iu fun i j=> .int (i*j)):=opI fun _ _ _ _ _ _ _ hc q=>mul_int q hc.ok
theorem Es:OpR X (binaryOp .FloorDiv) (rI J4 fun i j=> .int (i/j)):=opI fun i j _ _ _ _ _ hc q=>by have h1:(0:Int)<j:=hc.1;have h2:j<1073741824:=hc.2;exact floordiv_int (by lia) (by rw[Int.fdiv_eq_ediv_of_nonneg i (by lia)];exact q) (.inl (PyProof.noPylong_small (by lia)))
theorem GD:OpR X (binaryOp .Mod) (rI (fun _ j=>0<j) fun i j=> .int (i%j)):=opI fun i j _ _ _ _ _ hc q=>by have h1:(0:Int)<j:=hc;exact mod_int' (by lia) (by rw[Int.fmod_eq_emod_of_nonneg i (by lia)];exact q)
theorem GF:OpR X (binaryOp .Pow) (rI J5 fun i j=> .int (i^j.toNat)):=opI fun _ _ _ _ _ _ _ hc q=>pow_int_small hc.1 hc.2.1 hc.2.2 q
theorem unI {f:Zz->Sem Zz} {g:Int->Int}
  (rule:∀(i:Int) (t:Tok) (s:Zy) (Q:Zb) (E:Zb),Q (.int (g i) s.toks) {s with toks:=s.toks+ 1}->wpAny (model X.prog X.w) X.A (f (.int i t)) Q E s):
  UnR X f (rU fun i=> .int (g i)):=by intro pz s σ H x v Q I rx h;obtain⟨i,rfl,q⟩:=h;obtain⟨t,rfl⟩:=rx;exact rule i t s _ _ ⟨.int (g i),H,I.tok _,⟨_,rfl⟩,q⟩
theorem qw:UnR X (unaryOp .USub) (rU fun i=> .int (-i)):=unI fun _ _ _ _ _ q=>neg_int q
end
def J6:V->V->Bool
 | .non,.non=>true| .non,.int _=>true| .int _,.non=>true| .non,.bl _=>true| .bl _,.non=>true| .non,.str _=>true| .str _,.non=>true
 | .int _,.int _=>true| .bl _,.bl _=>true| .str _,.str _=>true| .byt _,.byt _=>true
 | .int _,.str _=>true| .str _,.int _=>true| .bl _,.str _=>true| .str _,.bl _=>true
 |_,_=>false
def rEq:R2:=fun x y H Q=>J6 x y=true/\Q (.bl (decide (x=y))) H
def rNe:R2:=fun x y H Q=>J6 x y=true/\Q (.bl (!decide (x=y))) H
theorem Av {i j:Int}:decide (V.int i=V.int j)=(i==j):=by rw[fh];simp
theorem DO {i j:Bool}:decide (V.bl i=V.bl j)=(i==j):=by rw[fh];simp
theorem Aw {i j:Str}:decide (V.str i=V.str j)=(i==j):=by rw[fh];simp
theorem Ax {i j:Array UInt8}:decide (V.byt i=V.byt j)=(i.toList==j.toList):=by rw[fh];cases i;cases j;simp
section
variable {X:Cx} {a b c:Zr} {ta tb tc:TE} {pos:Pos}
theorem iP {pz:Za} {σ:St} {H:Hp} {s:Zy} {Q:VK} {k k':Bool} (I:Inv X pz σ H s) (q:Q (.bl k) H) (e:k=k'):EP X pz σ Q (.bool k') s:=by subst e;exact⟨.bl k,H,I,rfl,q⟩
theorem uq:OpR X (compareOp .Eq) rEq:=by
 intro pz s σ H x y v u Q I rx ry h;obtain⟨hs,q⟩:=h
 cases x with
 |non=>
  cases rx
  cases y with
  |non=>cases ry;exact PySem.EqNone.eq_none_none (iP I q (by simp))
  |bl j=>cases ry;exact PySem.EqNone.eq_none_bool (iP I q (by simp))
  |int j=>obtain⟨t',rfl⟩:=ry;exact PySem.EqNone.eq_none_int (iP I q (by simp))
  |str j=>obtain⟨t',rfl⟩:=ry;exact PySem.EqNone.eq_none_str (iP I q (by simp))
  |_=>exact absurd (show false=true from hs) fg
 |bl i=>
  cases rx
  cases y with
  |non=>cases ry;exact PySem.EqNone.eq_bool_none (iP I q (by simp))
  |bl j=>cases ry;exact eq_bool (iP I q DO)
  |str j=>obtain⟨t',rfl⟩:=ry;exact PySem.EqMixed.eq_bool_str (iP I q (by simp))
  |_=>exact absurd (show false=true from hs) fg
 |int i=>
  obtain⟨t,rfl⟩:=rx
  cases y with
  |non=>cases ry;exact PySem.EqNone.eq_int_none (iP I q (by simp))
  |int j=>obtain⟨t',rfl⟩:=ry;exact eq_int (iP I q Av)
  |str j=>obtain⟨t',rfl⟩:=ry;exact PySem.EqMixed.eq_int_str (iP I q (by simp))
  |_=>exact absurd (show false=true from hs) fg
 |str i=>
  obtain⟨t,rfl⟩:=rx
  cases y with
  |non=>cases ry;exact PySem.EqNone.eq_str_none (iP I q (by simp))
  |bl j=>cases ry;exact PySem.EqMixed.eq_str_bool (iP I q (by simp))
  |int j=>obtain⟨t',rfl⟩:=ry;exact PySem.EqMixed.eq_str_int (iP I q (by simp))
  |str j=>obtain⟨t',rfl⟩:=ry;exact eq_str (iP I q Aw)
  |_=>exact absurd (show false=true from hs) fg
 |byt i=>
  obtain⟨t,rfl⟩:=rx
  cases y with
  |byt j=>obtain⟨t',rfl⟩:=ry;exact PySem.W.eq_bytes (iP I q Ax)
  |_=>exact absurd (show false=true from hs) fg
 |_=>cases y<;>exact absurd (show false=true from hs) fg
theorem oa:OpR X (compareOp .NotEq) rNe:=by
 intro pz s σ H x y v u Q I rx ry h;obtain⟨hs,q⟩:=h
 cases x with
 |non=>
  cases rx
  cases y with
  |non=>cases ry;exact PySem.EqNone.ne_none_none (iP I q (by simp))
  |bl j=>cases ry;exact PySem.EqNone.ne_none_bool (iP I q (by simp))
  |int j=>obtain⟨t',rfl⟩:=ry;exact PySem.EqNone.ne_none_int (iP I q (by simp))
  |str j=>obtain⟨t',rfl⟩:=ry;exact PySem.EqNone.ne_none_str (iP I q (by simp))
  |_=>exact absurd (show false=true from hs) fg
 |bl i=>
  cases rx
  cases y with
  |non=>cases ry;exact PySem.EqNone.ne_bool_none (iP I q (by simp))
  |bl j=>cases ry;exact ne_bool (iP I q (congrArg not DO))
  |str j=>obtain⟨t',rfl⟩:=ry;exact PySem.EqMixed.ne_bool_str (iP I q (by simp))
  |_=>exact absurd (show false=true from hs) fg
 |int i=>
  obtain⟨t,rfl⟩:=rx
  cases y with
  |non=>cases ry;exact PySem.EqNone.ne_int_none (iP I q (by simp))
  |int j=>obtain⟨t',rfl⟩:=ry;exact ne_int (iP I q (congrArg not Av))
  |str j=>obtain⟨t',rfl⟩:=ry;exact PySem.EqMixed.ne_int_str (iP I q (by simp))
  |_=>exact absurd (show false=true from hs) fg
 |str i=>
  obtain⟨t,rfl⟩:=rx
  cases y with
  |non=>cases ry;exact PySem.EqNone.ne_str_none (iP I q (by simp))
  |bl j=>cases ry;exact PySem.EqMixed.ne_str_bool (iP I q (by simp))
  |int j=>obtain⟨t',rfl⟩:=ry;exact PySem.EqMixed.ne_str_int (iP I q (by simp))
  |str j=>obtain⟨t',rfl⟩:=ry;exact ne_str (iP I q (congrArg not Aw))
  |_=>exact absurd (show false=true from hs) fg
 |byt i=>
  obtain⟨t,rfl⟩:=rx
  cases y with
  |byt j=>obtain⟨t',rfl⟩:=ry;exact PySem.W.ne_bytes (iP I q (congrArg not Ax))
  |_=>exact absurd (show false=true from hs) fg
 |_=>cases y<;>exact absurd (show false=true from hs) fg
theorem Et:OpR X (compareOp .Lt) (rI0 fun i j=> .bl (decide (i<j))):=Ir fun _ _ _ _ _ _ _ q=>lt_int q
theorem vG:OpR X (compareOp .LtE) (rI0 fun i j=> .bl (decide (i<=j))):=Ir fun _ _ _ _ _ _ _ q=>le_int q
theorem Eu:OpR X (compareOp .Gt) (rI0 fun i j=> .bl (decide (j<i))):=Ir fun _ _ _ _ _ _ _ q=>gt_int q
theorem IP:OpR X (compareOp .GtE) (rI0 fun i j=> .bl (decide (j<=i))):=Ir fun _ _ _ _ _ _ _ q=>ge_int q
theorem vH:OpR X (compareOp .In) (fun x y H Q=>∃i j,x= .str i/\y= .str j/\Q (.bl (!(Builtin.Str.occurrences j i 0 j.length 1).isEmpty)) H):=by intro pz s σ H x y v u Q I rx ry h;obtain⟨i,j,rfl,rfl,q⟩:=h;obtain⟨t,rfl⟩:=rx;obtain⟨t',rfl⟩:=ry;exact in_str (iP I q rfl)
theorem Ay (b:Zr) {op:CmpOp} (h:autoParam (op≠ .In) auD._auto_1) (h2:autoParam (op≠ .NotIn) auD._auto_1):behindInMarks op b=false:=by
 have e1:(op==CmpOp.In)=false:=by cases op<;>first|rfl|exact absurd rfl h
 have e2:(op==CmpOp.NotIn)=false:=by cases op<;>first|rfl|exact absurd rfl h2
 cases b<;>simp[behindInMarks,e1,e2]
theorem oh {op:CmpOp} {r:R2} (ho:OpR X (compareOp op) r) (ha:PE X a ta) (hb:PE X b tb) (hm:behindInMarks op b=false:=by exact Ay _):PE X (.Compare a [op] [b] pos) (tOp r ta tb):=by intro pz s σ H Q I h;exact wpAny_Compare1 (IM ha hb I h fun v u s2 x y H2 I2 rx ry q=>ho pz s2 σ H2 x y v u Q I2 rx ry q) hm
def GG (t:TE):TT:=fun σ H Q=>t σ H fun x H'=>∃k,x= .bl k/\Q k H'
theorem jf {op:CmpOp} {r:R2} (ho:OpR X (compareOp op) r) (ha:PE X a ta) (hb:PE X b tb) (hm:behindInMarks op b=false:=by exact Ay _):PT X (.Compare a [op] [b] pos) (GG (tOp r ta tb)):=by
 intro pz s σ H Q I h;refine wpAny_isTrue_Compare1 (thn (ha pz s σ H _ I h) fun v s1 ⟨x,H1,I1,r1,q1⟩=>thn (hb pz s1 σ H1 _ I1 q1) fun u s2 ⟨y,H2,I2,r2,q2⟩=>
  thn (ho pz s2 σ H2 x y v u _ I2 r1 r2 q2) fun c s3 ⟨z,H3,I3,r3,k,e,q3⟩=>?_) hm;subst e;cases r3;exact wpAny_truthy_bool ⟨H3,I3,q3⟩
def GH (r r':R2) (ta tb tc:TE):TE:=fun σ H Q=>ta σ H fun x H1=>tb σ H1 fun y H2=>r x y H2 fun z H3=>∃k,z= .bl k/\
 (if k=true then tc σ H3 fun w' H4=>r' y w' H4 Q else Q (.bl false) H3)
theorem oY {op op':CmpOp} {r r':R2} (ho:OpR X (compareOp op) r) (ho':OpR X (compareOp op') r') (ha:PE X a ta) (hb:PE X b tb) (hc:PE X c tc)
  (hm:lastMarks [op,op'] [b,c]=false:=by with_unfolding_all rfl):PT X (.Compare a [op,op'] [b,c] pos) (GG (GH r r' ta tb tc)):=by
 intro pz s σ H Q I h;refine isTrue_chain (thn (ha pz s σ H _ I h) fun v s1 ⟨x,H1,I1,r1,q1⟩=>test_link (thn (hb pz s1 σ H1 _ I1 q1) fun u s2 ⟨y,H2,I2,r2,q2⟩=>
  thn (ho pz s2 σ H2 x y v u _ I2 r1 r2 q2) fun d s3 ⟨z,H3,I3,r3,k,e,q3⟩=>?_)) hm;subst e;cases r3;refine wpAny_truthy_bool ?_
 cases k with
 |false=>obtain⟨k',e',q'⟩:=q3;cases e';exact ite_ff ⟨H3,I3,q'⟩
 |true=>refine ite_tt (test_last (thn (hc pz s3 σ H3 _ I3 q3) fun w' s4 ⟨z',H4,I4,r4,q4⟩=>thn (ho' pz s4 σ H4 y z' u w' _ I4 r2 r4 q4) ?_));rintro d' s5 ⟨z2,H5,I5,r5,k2,rfl,q5⟩;cases r5;exact wpAny_truthy_bool ⟨H5,I5,q5⟩
theorem tP:(sizeLine:Nat)<2^63:=by rw[sizeLine_eq];decide
theorem tQ:OpR X (binaryOp .Add) (fun x y H Q=>∃i j,x= .str i/\y= .str j/\i.length+j.length<=sizeLine/\Q (.str (i++j)) H):=by intro pz s σ H x y v u Q I rx ry h;obtain⟨i,j,rfl,rfl,hz,q⟩:=h;obtain⟨t,rfl⟩:=rx;obtain⟨t',rfl⟩:=ry;exact add_str (fun t' tk=>⟨.str (i++j),H,I.tok _,⟨_,rfl⟩,q⟩) hz
theorem mL {x:V} {us:List Zz} (r:iX [x] us):∃u,us=[u]/\iY x u:=by
 cases r with
 |cons r1 r2=>cases r2;exact⟨_,rfl,r1⟩
theorem CG {x y:V} {us:List Zz} (r:iX [x,y] us):∃u w',us=[u,w']/\iY x u/\iY y w':=by
 cases r with
 |cons r1 r2=>
  cases r2 with
  |cons r3 r4=>cases r4;exact⟨_,_,rfl,r1,r3⟩
theorem vI (hc:X.calm=true):n9 X (.builtin "max") (fun xs H Q=>∃i j,xs=[.int i,.int j]/\Q (.int (if j>i then j else i)) H):=by
 intro pz s σ H xs us Q I r h;obtain⟨i,j,rfl,q⟩:=h;obtain⟨u,w',rfl,⟨t,rfl⟩,⟨t',rfl⟩⟩:=CG r;refine max_two_ints (I.ok.hd hc) fun h' tk k=>⟨_,H,I.kept k,?_,q⟩;by_cases hj:j>i;·rw[gY hj,gY hj];exact⟨_,rfl⟩
 ·rw[gJ hj,gJ hj];exact⟨_,rfl⟩
theorem Az (hc:X.calm=true):n9 X (.builtin "min") (fun xs H Q=>∃i j,xs=[.int i,.int j]/\Q (.int (if j<i then j else i)) H):=by
 intro pz s σ H xs us Q I r h;obtain⟨i,j,rfl,q⟩:=h;obtain⟨u,w',rfl,⟨t,rfl⟩,⟨t',rfl⟩⟩:=CG r;refine min_two_ints (I.ok.hd hc) fun h' tk k=>⟨_,H,I.kept k,?_,q⟩;by_cases hj:j<i;·rw[gY hj,gY hj];exact⟨_,rfl⟩
 ·rw[gJ hj,gJ hj];exact⟨_,rfl⟩
theorem AA:n9 X (.type "int") (fun xs H Q=>(∃i,xs=[.int i]/\Q (.int i) H)\/∃k,xs=[.bl k]/\Q (.int (if k then 1 else 0)) H):=by
 intro pz s σ H xs us Q I r h;rcases h with⟨i,rfl,q⟩|⟨k,rfl,q⟩;·obtain⟨u,rfl,t,rfl⟩:=mL r;exact call_int_int ⟨.int i,H,I,⟨_,rfl⟩,q⟩
 ·obtain⟨u,rfl,r1⟩:=mL r;cases r1;exact call_int_bool ⟨.int (if k then 1 else 0),H,I.tok _,⟨_,rfl⟩,q⟩
theorem vJ:n9 X (.type "str") (fun xs H Q=>∃i,xs=[.int i]/\i.natAbs.log2<1920/\Q (.str (toString i)) H):=by intro pz s σ H xs us Q I r h;obtain⟨i,rfl,hz,q⟩:=h;obtain⟨u,rfl,t,rfl⟩:=mL r;exact PySem.P.str_of_int hz ⟨.str _,H,I.tok _,⟨_,rfl⟩,q⟩
end
structure Ew (h:Zt) (x dx C:Zx) (mA:Zc):Prop where
 obj:h.get? x=some (dC C dx)
 ns:h.Ns1 dx mA
 ne:dx≠x
theorem AB {h:Zt} {dx:Zx} {mA:Zc} (n:h.Ns1 dx mA):∃od,h.get? dx=some od/\∀name,dH name od=some (mA name):=by
 obtain⟨o,es,ep,ho,hd,hk,_,hm⟩:=n;refine⟨o,ho,fun name=>?_⟩;have e:=hm name;unfold nsFind findBy at e;rw[<-Array.find?_toList]at e;unfold dH;rw[hd];dsimp only;split;·rename_i y q;rw[q]at e;exact congrArg some e
 ·rename_i q;rw[q]at e;have a:es.toList.any (·.refKey)=false:=by rw[List.any_eq_false];intro y hy;obtain⟨z,t,hkey⟩:=hk y (Array.mem_toList_iff.mp hy);simp[DictEntry.refKey,hkey]
  have a':¬es.toList.any (·.refKey)=true:=by rw[a];exact fg
  rw[gJ a'];exact congrArg some e
theorem Ew.look {h:Zt} {x dx C:Zx} {mA:Zc} (I:Ew h x dx C mA):∃od,PySem.W.InstAt h x (dC C dx) C (some od)/\∀name,dH name od=some (mA name):=
 let⟨od,ho,hl⟩:=AB I.ns
 ⟨od,⟨I.obj,rfl,rfl,ho⟩,hl⟩
section
variable {prog:Zu} {w:Zv} {A:Zw} {E:Zb} {s:Zy} {K:Zp} {x dx C f:Zx} {mA:Zc} {name:Str} {v:Zz}
theorem Ey {expr:Bool} {Q:Zb} (X:K.In s.heap) (I:Ew s.heap x dx C mA) (hg:dI K C name=true) (hh:dJ K C=true)
  (ha:dM K (.ref C) name=some none) (hv:mA name=some v) (hv':PySem.W.handedIn v=true) (h:Q v {s with toks:=s.toks+ 1}):
  wpAny (model prog w) A (getAttr (.ref x) name expr) Q E s:=by obtain⟨od,J,hl⟩:=I.look;exact PySem.W.get_value X J (dN hg).1 (PySem.W.findObj_own hh ha rfl (by rw[hl,hv])) hv' h
theorem CH {pl:Sem Bool} {Q:Zz×List Zz->Zy->Prop} (X:K.In s.heap) (I:Ew s.heap x dx C mA) (hg:dI K C name=true)
  (hf:dM K (.ref C) name=some (some (.ref f))) (ht:dO K (.ref f)=true) (hv:mA name=none) (h:Q (.ref f,[.ref x]) s):
  wpAny (model prog w) A (getMethod (.ref x) name pl) Q E s:=by obtain⟨od,J,hl⟩:=I.look;exact PySem.W.method_fn X J (dN hg).1 (dN hg).2 hf (beq_iff_eq.mp ht) (by show(dH name od).map (·.isSome)=some false;rw[hl,hv];rfl) h
theorem Ez {ns:Zd} {Q:Unit->Zy->Prop} (X:K.In s.heap) (I:Ew s.heap x dx C mA)
  (hs:dM K (.ref C) "__setattr__"=some (some (.builtin "object.__setattr__"))) (hp:dP K C=true) (ht:dQ K C name=some none) (hh:dJ K C=true)
  (hw:PySem.Within mA ns) (hsz:ns.length<=sizeLine)
  (h:∀h',Ew h' x dx C (fun y=>if y=name then some v else mA y)->Heap.SameBut dx s.heap h'->Q () {s with heap:=h',toks:=s.toks+ 2}):
  wpAny (model prog w) A (setAttr (.ref x) name v) Q E s:=by obtain⟨od,J,hl⟩:=I.look;refine PySem.W.set_plain X J hs (PySem.W.osa_open (s:={s with toks:=s.toks+ 1}) (r:=none) X J hp ht fun b=>?_);obtain⟨cd,hc,hd'⟩:=PySem.W.any_some hh;have hx:s.heap.get? x=some ⟨.ref C,some dx,.plain,#[]⟩:=I.obj;refine wpAny_bind (wpAny_pure (wpAny_bind (wpAny_bind (wpAny_loadPart hx (wpAny_bind (PySem.W.Looks.here (s:={s with toks:=s.toks+ 1}) (PySem.W.looks_clsIn X hc) ?_))))));rw[hd'];refine wpAny_pure (a:=some dx) (wpAny_bind (wpAny_pure (wpAny_bind ?_)));refine wpAny_nsSet1 (s:={s with toks:=s.toks+ 1}) I.ns fun h' hn2 hs2=>?_;obtain⟨oD,esD,epD,hoD,hdD,hcD⟩:=hn2.count (PySem.Within.cons name v hw);refine wpAny_bind (wpAny_lookBehind hoD (by rw[hdD];exact pastItsLine_dict (cH hcD (by rw[aB];lia))) ?_);exact wpAny_pure (h _ ⟨(hs2.2 _ (Ne.symm I.ne)).trans I.obj,hn2,I.ne⟩ hs2)
theorem CI {R:Result->Zy->Prop} {vs:List Zz} {kw:List (Str×Zz)} (X:K.In s.heap) (hm:dR K C=true)
  (hi:dM K (.ref C) "__init__"=some (some (.ref f))) (hf:PySem.W.typeIn K (.ref f)=some (.type "function"))
  (h:codeAny (model prog w) (A.under (.builtin "type.__call__" ⟨.ref C::vs,kw⟩)) (.call (.ref f) ⟨.ref (s.heap.objs.size+ 1)::vs,kw⟩) (PySem.W.InitBack (s.heap.objs.size+ 1) R)
   {s with heap:=(s.heap.push dS).push (dC C s.heap.objs.size)}):
  codeAny (model prog w) A (.call (.ref C) ⟨vs,kw⟩) R s:=by obtain⟨hh,g,d,t,os⟩:=s;exact PySem.W.make_core (PySem.W.makes_of X hm) (PySem.W.looks_findIn X hi) (fun self=>PySem.W.bind_fn X self hf) (.inl rfl) h
end
def nK (f:Str) (v:V):List (Str×V)->List (Str×V)
 |[]=>[(f,v)]
 |(g,x)::r=>if g=f then(g,v)::r else(g,x)::nK f v r
theorem rG (f g:Str) (v:V):∀fs:List (Str×V),(nK f v fs).lookup g=if g=f then some v else fs.lookup g
 |[]=>by
  show aC g [(f,v)]=_;by_cases h:g=f;·have hb:(g==f)=true:=beq_iff_eq.mpr h;simp only[aC,hb,gY h]
  ·have hb:(g==f)=false:=beq_eq_false_iff_ne.mpr h;simp only[aC,hb,gJ h]
 |(k,x)::r=>by
  have ih:=rG f g v r;rw[show nK f v ((k,x)::r)=(if k=f then(k,v)::r else(k,x)::nK f v r)from rfl];by_cases hk:k=f
  ·rw[gY hk];by_cases h:g=k;·have hb:(g==k)=true:=beq_iff_eq.mpr h;simp only[aC,hb,gY (h.trans hk)]
   ·have hb:(g==k)=false:=beq_eq_false_iff_ne.mpr h;simp only[aC,hb,gJ (fun e:g=f=>h (e.trans hk.symm))]
  ·rw[gJ hk];by_cases h:g=k;·have hb:(g==k)=true:=beq_iff_eq.mpr h;simp only[aC,hb,gJ (fun e:g=f=>hk (h.symm.trans e))]
   ·have hb:(g==k)=false:=beq_eq_false_iff_ne.mpr h;simp only[aC,hb];exact ih
theorem rH (f:Str) (v:V):∀fs:List (Str×V),f∈(nK f v fs).map (·.1)/\∀g,g∈fs.map (·.1)->g∈(nK f v fs).map (·.1)
 |[]=>⟨by simp[nK],fun g h=>by simp at h⟩
 |(k,x)::r=>by
  obtain⟨i1,i2⟩:=rH f v r;rw[show nK f v ((k,x)::r)=(if k=f then(k,v)::r else(k,x)::nK f v r)from rfl];by_cases hk:k=f;·rw[gY hk];subst hk;exact⟨by simp,fun g h=>by simpa using h⟩
  ·rw[gJ hk];refine⟨?_,fun g h=>?_⟩;·rw[aD];exact aj _ i1
   ·rw[aD]at h⊢;rcases ak.mp h with e|e;·exact ak.mpr (.inl e)
    ·exact aj _ (i2 g e)
theorem rJ (f:Str) (v:V):∀fs:List (Str×V),(nK f v fs).length<=fs.length+ 1
 |[]=>by simp[nK]
 |(k,x)::r=>by
  have ih:=rJ f v r;rw[show nK f v ((k,x)::r)=(if k=f then(k,v)::r else(k,x)::nK f v r)from rfl];by_cases hk:k=f;·rw[gY hk,aB,aB];lia
  ·rw[gJ hk,aB,aB];lia
theorem ui.some_of {v:V} {o:Option Zz} (r:ui (some v) o):∃u,o=some u/\iY v u:=by
 cases o with
 |none=>exact(show False from r).elim
 |some u=>exact⟨u,rfl,r⟩
theorem ui.none_of {o:Option Zz} (r:ui none o):o=none:=by
 cases o with
 |none=>rfl
 |some u=>exact(show False from r).elim
theorem AD {v:V} {u:Zz} (r:iY v u):PySem.W.handedIn u=true:=by
 cases v with
 |non=>cases(show u=Value.none from r);rfl
 |bl b=>cases(show u=Value.bool b from r);rfl
 |int i=>obtain⟨t,e⟩:=(show ∃t,u=Value.int i t from r);cases e;rfl
 |str x=>obtain⟨t,e⟩:=(show ∃t,u=Value.str x t from r);cases e;rfl
 |byt b=>obtain⟨t,e⟩:=(show ∃t,u=Value.bytes b t from r);cases e;rfl
 |flt b=>obtain⟨t,e⟩:=(show ∃t,u=Value.float b t from r);cases e;rfl
 |ref a=>cases(show u=Value.ref a from r);rfl
 |ty n=>cases(show u=Value.type n from r);rfl
section
variable {P:Zu} {w:Zv} {H H':Hp} {h h':Zt} {a C dx:Zx} {fs fs':List (Str×V)}
theorem uu (hok:HOk P w H h) (e:H a=some (.ins C dx fs)):∃mA,Ew h a dx C mA/\(∀f,ui (fs.lookup f) (mA f))/\PySem.Within mA (fs.map (·.1))/\fs.length<=1000/\H dx=some (.own a):=by obtain⟨d,z,ne,ob,mA,n,r,q⟩:=(show jU P w H h a (.ins C dx fs)from hok a _ e);exact⟨mA,⟨ob,n,ne⟩,r,q,z,d⟩
end
structure Cls (K:Zp) (C:Zx):Prop where
 pg:dI K C Str.empty=true
 hd:dJ K C=true
 po:dP K C=true
 sa:dM K (.ref C) "__setattr__"=some (some (.builtin "object.__setattr__"))
theorem Cls.get {K:Zp} {C:Zx} (c:Cls K C) (f:Str):dI K C f=true:=c.pg
def iU (K:Zp) (C:Zx) (f:Str):Prop:=dM K (.ref C) f=some none
theorem iU.taker {K:Zp} {C:Zx} {f:Str} (n:iU K C f):dQ K C f=some none:=by unfold dQ;rw[show dM K (.ref C) f=some none from n];rfl
structure Con (K:Zp) (C:Zx) (f:Str) (v:V) (u:Zz):Prop where
 at_:dM K (.ref C) f=some (some u)
 rel:iY v u
 get:dU K u "__get__"=some none
 cp:PySem.W.copiedNames.contains f=false
structure Iv (K:Zp) (C:Zx) (m:Str) (f:Zx):Prop where
 at_:dM K (.ref C) m=some (some (.ref f))
 fn:dO K (.ref f)=true
 kp:dW K (.ref f)=true
section
variable {X:Cx} {pz:Za} {σ:St} {H:Hp} {s:Zy} {a C dx:Zx} {fs:List (Str×V)} {f:Str} {v:V} {A:Zw} {E:Zb}
theorem tR {b:Bool} {Q:Zb} (I:Inv X pz σ H s) (e:H a=some (.ins C dx fs)) (c:Cls X.K C) (n:iU X.K C f) (l:fs.lookup f=some v)
  (h:∀u s',Inv X pz σ H s'->iY v u->Q u s'):wpAny (model X.prog X.w) A (getAttr (.ref a) f b) Q E s:=by obtain⟨mA,O,r,_,_,_⟩:=uu I.hok e;obtain⟨u,hu,ru⟩:=ui.some_of (v:=v) (o:=mA f) (by rw[<-l];exact r f);exact Ey I.kIn O (c.get f) c.hd n hu (AD ru) (h u _ (I.tok _) ru)
theorem tT {m:Str} {g:Zx} {pl:Sem Bool} {Q:Zz×List Zz->Zy->Prop} (I:Inv X pz σ H s) (e:H a=some (.ins C dx fs)) (c:Cls X.K C) (k:Iv X.K C m g) (l:fs.lookup m=none)
  (h:Q (.ref g,[.ref a]) s):wpAny (model X.prog X.w) A (getMethod (.ref a) m pl) Q E s:=by obtain⟨mA,O,r,_,_,_⟩:=uu I.hok e;have hn:mA m=none:=ui.none_of (by rw[<-l];exact r m);exact CH I.kIn O (c.get m) k.at_ k.fn hn h
theorem tU {y:V} {u:Zz} {Q:Unit->Zy->Prop} (I:Inv X pz σ H s) (e:H a=some (.ins C dx fs)) (c:Cls X.K C) (n:iU X.K C f) (hl:fs.length<1000) (ry:iY y u)
  (h:∀s',Inv X pz σ (upd H a (.ins C dx (nK f y fs))) s'->Q () s'):wpAny (model X.prog X.w) A (setAttr (.ref a) f u) Q E s:=by
 obtain⟨mA,O,r,wi,_,ho⟩:=uu I.hok e;have hz:(fs.map (·.1)).length<=sizeLine:=by rw[aE,sizeLine_eq];lia
 refine Ez I.kIn O c.sa c.po n.taker c.hd wi hz fun h' O' sb=>h _ ?_;have hd:∃o,h'.get? dx=some o:=let⟨o,_,_,e',_⟩:=O'.ns;⟨o,e'⟩;refine I.write (x:=a) (e:=dx) (by rw[e];exact True.intro) (.inr ho) (fun b q hb z=>(sb.2 b hb).trans z) hd ?_;refine⟨by rw[gr O.ne];exact ho,?_,O.ne,O'.obj,_,O'.ns,fun g=>?_,fun g hg=>?_⟩;·have:=rJ f y fs;lia
 ·show ui ((nK f y fs).lookup g) (if g=f then some u else mA g);rw[rG];by_cases q:g=f;·rw[gY q,gY q];exact ry
  ·rw[gJ q,gJ q];exact r g
 ·by_cases q:g=f;·rw[q];exact(rH f y fs).1
  ·refine(rH f y fs).2 g (wi g fun z=>hg ?_);show(if g=f then some u else mA g)=none;rw[gJ q];exact z
theorem Inv.made (I:Inv X pz σ H s):Inv X pz σ (upd (upd H s.heap.objs.size (.own (s.heap.objs.size+ 1))) (s.heap.objs.size+ 1) (.ins C s.heap.objs.size []))
  {s with heap:=(s.heap.push dS).push (dC C s.heap.objs.size)}:=by
 have e1:(s.heap.push dS).get? s.heap.objs.size=some dS:=fH s.heap rfl;have e2:((s.heap.push dS).push (dC C s.heap.objs.size)).get? (s.heap.objs.size+ 1)=some (dC C s.heap.objs.size):=by have:=fH (s.heap.push dS) (o:=dC C s.heap.objs.size) rfl;rwa[fK]at this
 have e3:(s.heap.push dS).Ns s.heap.objs.size (fun _=>none):=⟨dS,#[],_,e1,rfl,(fun e he=>absurd he (by simp)),fun _=>rfl⟩;have I1:=I.laid (a:=s.heap.objs.size) (o:= .own (s.heap.objs.size+ 1)) (h':=s.heap.push dS) (t':=s.toks) (fun b u q=>fJ _ q) (cM _) ⟨_,e1⟩;refine I1.laid (a:=s.heap.objs.size+ 1) (o:= .ins C s.heap.objs.size []) (t':=s.toks) (fun b u q=>fJ _ q) (Nat.le_of_eq (fK _ _)) ?_;have ne:s.heap.objs.size≠s.heap.objs.size+ 1:=cG (cP _);refine⟨by rw[gr ne,fY],cO _,ne,e2,fun _=>none,(Heap.Ns1.of_empty e3).at fun o q=>fJ _ q,fun _=>True.intro,fun y hy=>absurd rfl hy⟩
theorem EA {prog:Zu} {w:Zv} {env:Env} {e:Zr} {f:Str} {pos:Pos} {s:Zy} {Q:Zb} (hb:attributeBase e f env (eval e env)=eval e env)
  (h:wpAny (model prog w) A (eval e env) (fun o s₁=>wpAny (model prog w) A (getAttr o f true) Q E s₁) E s):wpAny (model prog w) A (eval (.Attribute e f pos) env) Q E s:=
 Attribute_any_ h (by rw[arm_eval_Attribute,hb])
end
def tFld (K:Zp) (ta:TE) (f:Str):TE:=fun σ H Q=>ta σ H fun x H1=>∃a C dx fs v,x= .ref a/\H1 a=some (.ins C dx fs)/\Cls K C/\iU K C f/\fs.lookup f=some v/\Q v H1
def J7 (K:Zp) (ta tv:TE) (f:Str):TS:=fun D σ H=>tv σ H fun y H1=>ta σ H1 fun x H2=>∃a C dx fs,x= .ref a/\H2 a=some (.ins C dx fs)/\Cls K C/\iU K C f/\fs.length<1000/\
 D.nx σ (upd H2 a (.ins C dx (nK f y fs)))
def J8 (X:Cx) (op:Operator) (rd:V->V->Hp->VK->Prop):Prop:=
 ∀(pz:Za) (s:Zy) (σ:St) (H:Hp) (x y:V) (u v:Zz) (Q:VK),Inv X pz σ H s->iY x u->iY y v->rd x y H Q->wpAny (model X.prog X.w) X.A (inplaceOp op u v) (EP X pz σ Q) X.xe s
def EB (K:Zp) (ta tv:TE) (rd:V->V->Hp->VK->Prop) (f:Str):TS:=fun D σ H=>ta σ H fun x H1=>∃a C dx fs v,x= .ref a/\H1 a=some (.ins C dx fs)/\Cls K C/\iU K C f/\fs.lookup f=some v/\
 tv σ H1 fun y H2=>rd v y H2 fun z H3=>∃dx' fs',H3 a=some (.ins C dx' fs')/\fs'.length<1000/\D.nx σ (upd H3 a (.ins C dx' (nK f z fs')))
section
variable {X:Cx} {o e value:Zr} {f:Str} {pos pos' tpos:Pos} {ta tv:TE}
theorem oZ (he:PE X e ta) (hb:attributeBase e f X.env (eval e X.env)=eval e X.env):PE X (.Attribute e f pos) (tFld X.K ta f):=by intro pz s σ H Q I h;refine EA hb (thn (he pz s σ H _ I h) ?_);rintro u s1 ⟨x,H1,I1,rx,a,C,dx,fs,v,rfl,ea,c,n,l,q⟩;obtain rfl:u=Value.ref a:=rx;exact tR I1 ea c n l fun u' s2 I2 ru=>⟨v,H1,I2,ru,q⟩
theorem jc (ha:PE X o ta) (hv:PE X value tv) (hs:swapsWith value (some (.Attribute o f pos')) pos.line X.env=pure false):PS X (.Assign [.Attribute o f pos'] value pos) (J7 X.K ta tv f):=by intro pz s σ H D I h;refine plainObj_wpAny_Assign_Attribute (thn (hv pz s σ H _ I h) fun u s1 ⟨y,H1,I1,ry,q⟩=>thn (ha pz s1 σ H1 _ I1 q) ?_) hs;rintro ov s2 ⟨x,H2,I2,rx,a,C,dx,fs,rfl,ea,c,n,l,q2⟩;obtain rfl:ov=Value.ref a:=rx;exact tU I2 ea c n l ry fun s3 I3=>⟨σ,_,I3,q2⟩
theorem vK {op:Operator} {rd:V->V->Hp->VK->Prop} (ha:PE X o ta) (hv:PE X value tv) (hop:J8 X op rd):PS X (.AugAssign (.Attribute o f tpos) op value pos) (EB X.K ta tv rd f):=by intro pz s σ H D I h;refine wpAny_AugAssign_AttributeAny (thn (ha pz s σ H _ I h) ?_);rintro ov s1 ⟨x,H1,I1,rx,a,C,dx,fs,v,rfl,ea,c,n,l,q⟩;obtain rfl:ov=Value.ref a:=rx;refine tR I1 ea c n l fun u s2 I2 ru=>thn (hv pz s2 σ H1 _ I2 q) fun w3 s3 ⟨y,H2,I3,ry,q3⟩=>thn (hop pz s3 σ H2 v y u w3 _ I3 ru ry q3) ?_;rintro w4 s4 ⟨z,H3,I4,rz,dx',fs',ea',l',q4⟩;exact tU I4 ea' c n l' rz fun s5 I5=>⟨σ,_,I5,q4⟩
def rAdd:V->V->Hp->VK->Prop:=fun x y H Q=>∃i j,x= .int i/\y= .int j/\Q (.int (i+j)) H
theorem DP:J8 X .Add rAdd:=by rintro pz s σ H x y u v Q I rx ry ⟨i,j,rfl,rfl,q⟩;obtain⟨t,rfl⟩:=(show ∃t,u=Value.int i t from rx);obtain⟨t',rfl⟩:=(show ∃t',v=Value.int j t' from ry);exact PyProof.Rows.iadd_int ⟨.int (i+j),H,I.tok _,⟨_,rfl⟩,q⟩
end
section
variable {X:Cx} {pz:Za} {σ:St} {H:Hp} {s:Zy} {A:Zw} {E:Zb} {Q:Zb} {c:Zz} {b:Bool}
inductive xq (K:Zp) (H:Hp):V->Zz->Prop where
 |non:xq K H .non (.type "NoneType")
 |bl (x:Bool):xq K H (.bl x) (.type "bool")
 |int (i:Int):xq K H (.int i) (.type "int")
 |str (x:Str):xq K H (.str x) (.type "str")
 |flt (x:UInt64):xq K H (.flt x) (.type "float")
 |lst {a:Zx} {xs:List V} (e:H a=some (.lst xs)):xq K H (.ref a) (.type "list")
 |frz {a:Zx} {o:Obj} {xs:List V} (e:H a=some (.frz o (.lst xs))):xq K H (.ref a) (.type "list")
 |tup {a:Zx} {xs:List V} (e:H a=some (.tup xs)):xq K H (.ref a) (.type "tuple")
 |dK {a:Zx} {kvs:List (Key×V)} (e:H a=some (.dK kvs)):xq K H (.ref a) (.type "dict")
 |dT {a:Zx} {kvs:List (List Key×V)} (e:H a=some (.dT kvs)):xq K H (.ref a) (.type "dict")
 |ins {a C dx:Zx} {fs:List (Str×V)} (e:H a=some (.ins C dx fs)) (cl:Cls K C) (ha:dM K (.ref C) "__class__"=some (some (.builtin "object.__class__")))
   (hn:dU K (.builtin "object.__class__") "__get__"=some (some (.builtin "getset_descriptor.__get__"))) (htk:PySem.W.takesIn K (.builtin "object.__class__")=some true)
   (hm:PySem.W.mroIn K C (.type "object")=some true):xq K H (.ref a) (.ref C)
theorem AE {x:V} {u t:Zz} (I:Inv X pz σ H s) (rx:iY x u) (ty:xq X.K H x t) (e:dY X.K t c=some b) (h:∀tk,Q (.bool b) {s with toks:=tk}):
  wpAny (model X.prog X.w) A (call (.builtin "isinstance") [u,c]) Q E s:=by
 cases ty with
 |non=>cases(show u=Value.none from rx);exact dZ PySem.W.kitx_none I.kIn True.intro e (fun z=>nomatch z) h
 |bl y=>cases(show u=Value.bool y from rx);exact dZ PySem.W.kitx_bool I.kIn True.intro e (fun z=>nomatch z) h
 |int i=>obtain⟨t,q⟩:=(show ∃t,u=Value.int i t from rx);cases q;exact dZ PySem.W.kitx_int I.kIn True.intro e (fun z=>nomatch z) h
 |str y=>obtain⟨t,q⟩:=(show ∃t,u=Value.str y t from rx);cases q;exact dZ PySem.W.kitx_str I.kIn True.intro e (fun z=>nomatch z) h
 |flt y=>obtain⟨t,q⟩:=(show ∃t,u=Value.float y t from rx);cases q;exact dZ PySem.W.kitx_float I.kIn True.intro e (fun z=>nomatch z) h
 |@lst a xs ea=>cases(show u=Value.ref a from rx);obtain⟨_,_,n,_,h1⟩:=(show jU X.prog X.w H s.heap a (.lst xs)from I.hok a _ ea);exact dZ ee I.kIn ⟨_,h1,rfl⟩ e (fun z=>nomatch z) h
 |@frz a ob xs ea=>cases(show u=Value.ref a from rx);obtain⟨_,_,_,n,_,h1⟩:=(show jU X.prog X.w H s.heap a (.frz ob (.lst xs))from I.hok a _ ea);exact dZ ee I.kIn ⟨_,h1,rfl⟩ e (fun z=>nomatch z) h
 |@tup a xs ea=>cases(show u=Value.ref a from rx);obtain⟨_,_,_,p⟩:=(show jU X.prog X.w H s.heap a (.tup xs)from I.hok a _ ea);obtain⟨o,h1,h2,_⟩:=p;exact dZ PySem.W.kitx_tuple I.kIn ⟨o,h1,h2⟩ e (fun z=>nomatch z) h
 |@dK a kvs ea=>cases(show u=Value.ref a from rx);obtain⟨_,_,vs,_,p⟩:=(show jU X.prog X.w H s.heap a (.dK kvs)from I.hok a _ ea);obtain⟨o,es,ep,h1,h2,_⟩:=p;exact dZ ej I.kIn ⟨o,h1,h2.1⟩ e (fun z=>nomatch z) h
 |@dT a kvs ea=>cases(show u=Value.ref a from rx);obtain⟨_,_,xs,_,o,es,ep,h1,h2,_⟩:=(show jU X.prog X.w H s.heap a (.dT kvs)from I.hok a _ ea);exact dZ ej I.kIn ⟨o,h1,h2.1⟩ e (fun z=>nomatch z) h
 |@ins a C dx fs ea cl ha hn htk hm=>cases(show u=Value.ref a from rx);obtain⟨mA,O,_⟩:=uu I.hok ea;obtain⟨od,J,_⟩:=O.look;exact dZ (PySem.W.kitx_own (cl.get _) cl.hd ha hn htk hm) I.kIn J e (fun z=>nomatch z) h
end
structure mO (k:Nat) (A:Zw):Prop where
 hd:A.handled=none
 dp:A.depth+ 2*k+ 5<recursionLimit
 un:A.units+ 16*k+ 200<cLine
theorem mO.mono {j k:Nat} {A:Zw} (r:mO k A) (h:j<=k):mO j A:=⟨r.hd,by have:=r.dp;lia,by have:=r.un;lia⟩
theorem mO.m {j k:Nat} {A:Zw} (r:mO k A) (h:autoParam (j<=k) auD._auto_1):mO j A:=r.mono h
theorem mO.deeper {k:Nat} {A:Zw} (r:mO (k+ 1) A) (env:Env):mO k (A.deeper env):=
 ⟨r.hd,by have:=r.dp;show A.depth+ 1+ 2*k+ 5<_;lia,by have:=r.un;show A.units+ 3+ 16*k+ 200<_;lia⟩
theorem zD {A:Zw} {C:Zx} {us:List Zz} {kw:List (Str×Zz)}:(A.under (.builtin "type.__call__" ⟨.ref C::us,kw⟩)).depth=A.depth+ 1:=by first|rfl|simp[Around.under,Code.weight,Code.isCreation,Code.isGuard,Code.isCaller,Code.frames,Code.isFrame,guardIds]
theorem zE {A:Zw} {C:Zx} {us:List Zz} {kw:List (Str×Zz)}:(A.under (.builtin "type.__call__" ⟨.ref C::us,kw⟩)).units=A.units+ 1:=by first|rfl|simp[Around.under,Code.cUnits,Code.frames,Code.isFrame]
theorem mO.make {k:Nat} {A:Zw} (r:mO (k+ 1) A) (C:Zx) (us:List Zz) (kw:List (Str×Zz)):mO k (A.under (.builtin "type.__call__" ⟨.ref C::us,kw⟩)):=
 ⟨r.hd,by have:=r.dp;rw[zD];lia,by have:=r.un;rw[zE];lia⟩
theorem mO.depth {k:Nat} {A:Zw} (r:mO k A):A.depth<recursionLimit:=by have:=r.dp;lia
theorem mO.units {k:Nat} {A:Zw} (r:mO k A):A.units+ 64<cLine:=by have:=r.un;lia
def AF:TA:=fun _ H Q=>Q [] H
def oi (ta:TE) (tr:TA):TA:=fun σ H Q=>ta σ H fun x H1=>tr σ H1 fun xs H2=>Q (x::xs) H2
section
variable {X:Cx} {e:Zr} {es:List Zr} {te:TE} {t:TA} {pos:Pos}
theorem fX:PA X [] AF:=fun _ _ _ _ H Q I h=>Calls.spliced_nil ⟨[],H,I,.nil,h⟩
theorem fV (ha:PE X e te) (hr:PA X es t) (hs:autoParam (starEach (e::es) X.env=(false,eval e X.env)::starEach es X.env) auR._auto_1):PA X (e::es) (oi te t):=by intro pos pz s σ H Q I h;rw[hs];show wpAny _ _ (spliced ((false,eval e X.env)::backTo pos (starEach es X.env))) _ _ s;refine Calls.spliced_cons (thn (ha pz s σ H _ I h) ?_);rintro u s1 ⟨x,H1,I1,r1,q1⟩;exact thn (hr pos pz s1 σ H1 _ I1 q1) fun us s2 ⟨xs,H2,I2,r2,q2⟩=>⟨x::xs,H2,I2,.cons r1 r2,q2⟩
def J9 (t:TA):TE:=fun σ H Q=>t σ H fun xs H1=>xs.length<=sizeLine/\∀p,H1 p=none->Q (.ref p) (upd H1 p (.tup xs))
def IQ (t:TA):TE:=fun σ H Q=>t σ H fun xs H1=>xs.length<=sizeLine/\∀p,H1 p=none->Q (.ref p) (upd H1 p (.lst xs))
theorem ik {x1} (h:PA X es t):PE X (.Tuple es x1 pos) (J9 t):=by intro pz s σ H Q I hq;refine wpAny_Tuple_spliced (thn (h pos pz s σ H _ I hq) fun us s1 ⟨xs,H1,I1,r,z,q⟩=>⟨by rw[<-r.length];exact z,?_⟩);have hf:H1 s1.heap.objs.size=none:=I1.hok.fresh (cM _);refine⟨.ref s1.heap.objs.size,upd H1 s1.heap.objs.size (.tup xs),I1.laid (t':=s1.toks) (fun b u e=>fJ _ e) (cM _) ?_,rfl,q _ hf⟩;exact⟨z,us,r,⟨_,fH _ rfl,rfl,_,rfl,rfl⟩⟩
theorem gR (h:PA X es t):PE X (.List es pos) (IQ t):=by intro pz s σ H Q I hq;refine wpAny_List_spliced (thn (h pos pz s σ H _ I hq) fun us s1 ⟨xs,H1,I1,r,z,q⟩=>⟨by rw[<-r.length];exact z,?_⟩);have hf:H1 s1.heap.objs.size=none:=I1.hok.fresh (cM _);refine⟨.ref s1.heap.objs.size,upd H1 s1.heap.objs.size (.lst xs),I1.laid (t':=s1.toks) (fun b u e=>fJ _ e) (cM _) ?_,rfl,q _ hf⟩;exact⟨z,us,0,r,fH _ rfl⟩
end
abbrev Sp:=List V->Hp->VK->XK->Prop
abbrev CXT:=List Env->Hp->Zy->XK->Zz->Zy->Prop
structure EC (P:Zu) (w:Zv) (K:Zp) (mg:Zc) (base:Zt) (A:Zw) (outer:List Env) (s:Zy) (H:Hp):Prop where
 frames:A.frames=some outer
 mod:Mod K mg base
 bs:∀b o,base.get? b=some o->s.heap.get? b=some o/\H b=none
 bsz:base.objs.size<=s.heap.objs.size
 funs:s.heap.FunFrames base outer
 frf:∀b∈frs outer,H b=none
 hok:HOk P w H s.heap
 bare:AllBare s.gens
def CE (outer:List Env) (P:Zu) (w:Zv) (H:Hp) (s:Zy) (Q:VK) (u:Zz) (s':Zy):Prop:=
 ∃v H',s'.os=s.os/\AllBare s'.gens/\Un (frs outer) [] H H' s.heap s'.heap/\HOk P w H' s'.heap/\iY v u/\Q v H'
def CR (CX:CXT) (outer:List Env) (P:Zu) (w:Zv) (H:Hp) (s:Zy) (Q:VK) (E:XK) (r:Result) (s':Zy):Prop:=
 match r with
 | .ok (.ret u)=>CE outer P w H s Q u s'
 | .ok _=>False
 | .error e=>CX outer H s E e s'
structure rK (P:Zu) (w:Zv) (K:Zp) (mg:Zc) (base:Zt) (CX:CXT) (k:Nat) (f:Zx) (fd:Zs) (ps:Zd) (sp:Sp):Prop where
 len:∀vs H Q E,sp vs H Q E->vs.length=ps.length
 run:∀(A:Zw) (outer:List Env) (s:Zy) (H:Hp) (args:Args) (us:List Zz) (vs:List V) (Q:VK) (E:XK),mO k A->EC P w K mg base A outer s H->BindsTo s fd args (ps.zip us)->iX vs us->sp vs H Q E->
  codeAny (model P w) A (.call (.ref f) args) (CR CX outer P w H s Q E) s
theorem EC.make {P:Zu} {w:Zv} {K:Zp} {mg:Zc} {base:Zt} {A:Zw} {outer:List Env} {s:Zy} {H:Hp} (e:EC P w K mg base A outer s H) (C:Zx) (us:List Zz) (kw:List (Str×Zz)):
  EC P w K mg base (A.under (.builtin "type.__call__" ⟨.ref C::us,kw⟩)) outer s H:=⟨by first|exact e.frames|(simpa[Around.under,Code.envs,Code.isFrame,pushEnvs]using e.frames),e.mod,e.bs,e.bsz,e.funs,e.frf,e.hok,e.bare⟩
section
variable {X:Cx} {pz:Za} {σ:St} {H:Hp} {s s':Zy}
theorem Inv.env0 (I:Inv X pz σ H s):EC X.prog X.w X.K X.mg X.base X.A X.stack s H:=
 ⟨I.ok.frames,I.ok.mod,I.bs,cH I.ok.bsz I.sz,I.stack,I.stkFree,I.hok,I.bare⟩
theorem Inv.after {Q:VK} {u:Zz} (I:Inv X pz σ H s) (h:CE X.stack X.prog X.w H s Q u s'):EP X pz σ Q u s':=by obtain⟨v,H',os,bare,un,hok,r,q⟩:=h;obtain⟨hh,g,d,t,os'⟩:=s';obtain rfl:os'=s.os:=os;exact⟨v,H',I.call (h':=hh) (g':=g) (d':=d) (t':=t) (ch:=[]) un hok bare (fun b z=>absurd z (by simp)),r,q⟩
end
def ED (sp:Sp) (dvs:List V) (E:XK) (t:TA):TE:=fun σ H Q=>t σ H fun vs H1=>sp (vs++dvs) H1 Q E
def EE (C:Zx) (m:Str) (sp:Sp) (dvs:List V) (E:XK) (ta:TE) (t:TA):TE:=fun σ H Q=>ta σ H fun x H1=>∃a dx fs,x= .ref a/\H1 a=some (.ins C dx fs)/\fs.lookup m=none/\
 t σ H1 fun vs H2=>sp (x::(vs++dvs)) H2 Q E
def GI (C:Zx) (sp:Sp) (dvs:List V) (E:XK) (t:TA):TE:=fun σ H Q=>t σ H fun vs H1=>∀x dx,H1 x=none->H1 dx=none->dx≠x->
 sp (.ref x::(vs++dvs)) (upd (upd H1 dx (.own x)) x (.ins C dx [])) (fun v H2=>v= .non/\Q (.ref x) H2) E
def pQ (K:Zp) (fd:Zs) (ps:Zd) (ds:List Zz):Prop:=
 ∀(s:Zy) (us:List Zz),K.In s.heap->(us++ds).length=ps.length->BindsTo s fd ⟨us,[]⟩ (ps.zip (us++ds))
theorem pQ.all {K:Zp} {fd:Zs} {ps:Zd} (h:∀us:List Zz,us.length=ps.length->bindArgs fd ⟨us,[]⟩=pure (ps.zip us)):pQ K fd ps []:=fun s us _ hl=>by rw[aF]at hl⊢;exact .of_eq (h us hl)
def nT (CX:CXT) (X:Cx) (E:XK):Prop:=∀(pz:Za) (σ:St) (H:Hp) (s:Zy) (e:Zz) (s':Zy),Inv X pz σ H s->CX X.stack H s E e s'->X.xe e s'
section
variable {X:Cx} {CX:CXT} {k:Nat} {f C:Zx} {fd:Zs} {ps:Zd} {sp:Sp} {dvs:List V} {ds:List Zz} {E:XK} {x m:Str} {p pos apos:Pos} {e o:Zr} {es:List Zr} {ta:TE} {t:TA}
theorem yx {pz:Za} {σ:St} {H:Hp} {s:Zy} {Q:VK} {us:List Zz} {vs:List V} (F:rK X.prog X.w X.K X.mg X.base CX k f fd ps sp) (hr:mO k X.A) (hb:pQ X.K fd ps ds) (hd:iX dvs ds) (hx:nT CX X E)
  (I:Inv X pz σ H s) (r:iX vs us) (h:sp (vs++dvs) H Q E):wpAny (model X.prog X.w) X.A (call (.ref f) us) (EP X pz σ Q) X.xe s:=by
 have r2:iX (vs++dvs) (us++ds):=r.append hd;have hl:(us++ds).length=ps.length:=by rw[<-r2.length];exact F.len _ _ _ _ h
 refine wpAny_call (codeAny_mono (F.run X.A X.stack s H ⟨us,[]⟩ (us++ds) (vs++dvs) Q E hr I.env0 (hb s us I.kIn hl) r2 h) fun r s' hq=>?_)
 cases r with
 |error e=>exact hx pz σ H s e s' I hq
 |ok fl=>
  cases fl with
  |ret u=>exact I.after hq
  |next=>exact False.elim hq
  |brk=>exact False.elim hq
  |cont=>exact False.elim hq
theorem pR (F:rK X.prog X.w X.K X.mg X.base CX k f fd ps sp) (hr:mO k X.A) (hg:Gl X x) (hm:X.mg x=some (.ref f)) (hk:dW X.K (.ref f)=true) (hb:pQ X.K fd ps ds) (hd:iX dvs ds) (hx:nT CX X E)
  (ha:PA X (e::es) t) (hdb:autoParam ((x==("__debug__":Str))=false) auD._auto_1) (he:autoParam (starEach (e::es) X.env=(false,eval e X.env)::starEach es X.env) auR._auto_1) (hpl:autoParam ((backTo pos (starEach es X.env)).any (·.1)=false) auR._auto_1):
  PE X (.Call (.Name x p) (e::es) [] pos) (ED sp dvs E t):=by intro pz s σ H Q I h;refine wpAny_Call_Name_kw (uj I hg hm ?_ hdb);refine eA (h₀:=X.base) I.ok.mod.kin hk (thn (ha pos pz s σ H _ I h) fun us s1 ⟨vs,H1,I1,r,q⟩=>⟨I1.kIn,?_⟩) he hpl;exact yx F hr hb hd hx I1 r q
theorem gZ {pl:Sem Bool} (he:PE X o ta) (c:Cls X.K C) (hm:Iv X.K C m f) (F:rK X.prog X.w X.K X.mg X.base CX k f fd ps sp) (hr:mO k X.A) (hb:pQ X.K fd ps ds) (hd:iX dvs ds) (hx:nT CX X E) (ha:PA X (e::es) t)
  (hst:autoParam (starEach (e::es) X.env=(false,eval e X.env)::starEach es X.env) auR._auto_1) (hpl:autoParam ((backTo pos (starEach es X.env)).any (·.1)=false) auR._auto_1)
  (ht:eval (.Call (.Attribute o m apos) (e::es) [] pos) X.env=(do
   let ov<-eval o X.env
   standAt apos.atName
   let(f,first)<-holding [ov] (getMethod ov m pl)
   callWith pos f first (backTo pos (starEach (e::es) X.env)) (backToKw pos (keywordEach [] X.env))):=by rfl):
  PE X (.Call (.Attribute o m apos) (e::es) [] pos) (EE C m sp dvs E ta t):=by intro pz s σ H Q I h;refine eB (pl:=pl) (thn (he pz s σ H _ I h) ?_) ht;rintro u s1 ⟨x,H1,I1,rx,a,dx,fs,rfl,ea,l,q⟩;obtain rfl:u=Value.ref a:=rx;refine tT I1 ea c hm l ?_;refine eA (first:=[.ref a]) (h₀:=X.base) I.ok.mod.kin hm.kp (thn (ha pos pz s1 σ H1 _ I1 q) fun us s2 ⟨vs,H2,I2,r,q2⟩=>⟨I2.kIn,?_⟩) hst hpl;exact yx (us:= .ref a::us) (vs:= .ref a::vs) F hr hb hd hx I2 (.cons rfl r) q2
theorem ju {pl:Sem Bool} (he:PE X o ta) (c:Cls X.K C) (hm:Iv X.K C m f) (F:rK X.prog X.w X.K X.mg X.base CX k f fd ps sp) (hr:mO k X.A) (hb:pQ X.K fd ps ds) (hd:iX dvs ds) (hx:nT CX X E)
  (ht:eval (.Call (.Attribute o m apos) [] [] pos) X.env=(do
   let ov<-eval o X.env
   standAt apos.atName
   let(f,first)<-holding [ov] (getMethod ov m pl)
   callWith pos f first (backTo pos (starEach [] X.env)) (backToKw pos (keywordEach [] X.env))):=by rfl):
  PE X (.Call (.Attribute o m apos) [] [] pos) (EE C m sp dvs E ta AF):=by intro pz s σ H Q I h;refine eB (pl:=pl) (thn (he pz s σ H _ I h) ?_) ht;rintro u s1 ⟨x,H1,I1,rx,a,dx,fs,rfl,ea,l,q⟩;obtain rfl:u=Value.ref a:=rx;refine tT I1 ea c hm l ?_;exact PySem.W.callWith_K0 (first:=[.ref a]) I1.kIn hm.kp (yx (us:=[.ref a]) (vs:=[.ref a]) F hr hb hd hx I1 (.cons rfl .nil) q)
structure Mk (K:Zp) (C f:Zx):Prop where
 makes:dR K C=true
 init:dM K (.ref C) "__init__"=some (some (.ref f))
 fn:dO K (.ref f)=true
 kp:dW K (.ref C)=true
theorem CJ {pz:Za} {σ:St} {H:Hp} {s:Zy} {Q:VK} {us:List Zz} {vs:List V} (M:Mk X.K C f) (F:rK X.prog X.w X.K X.mg X.base CX k f fd ps sp) (hr:mO (k+ 1) X.A) (hb:pQ X.K fd ps ds) (hd:iX dvs ds)
  (hx:nT CX X E) (I:Inv X pz σ H s) (r:iX vs us)
  (h:∀x dx,H x=none->H dx=none->dx≠x->sp (.ref x::(vs++dvs)) (upd (upd H dx (.own x)) x (.ins C dx [])) (fun v H2=>v= .non/\Q (.ref x) H2) E):
  wpAny (model X.prog X.w) X.A (call (.ref C) us) (EP X pz σ Q) X.xe s:=by
 have hq:=h (s.heap.objs.size+ 1) s.heap.objs.size (I.hok.fresh (cQ _)) (I.hok.fresh (cM _)) (cG (cP _));have I2:=Inv.made (C:=C) I;have r2:iX (V.ref (s.heap.objs.size+ 1)::(vs++dvs)) (Value.ref (s.heap.objs.size+ 1)::(us++ds)):= .cons rfl (r.append hd);have hl:(Value.ref (s.heap.objs.size+ 1)::us++ds).length=ps.length:=by have e:=r2.length;rw[F.len _ _ _ _ hq]at e;exact e.symm
 refine wpAny_call (CI (f:=f) I.kIn M.makes M.init (beq_iff_eq.mp M.fn) (codeAny_mono (F.run _ X.stack _ _ ⟨Value.ref (s.heap.objs.size+ 1)::us,[]⟩ (Value.ref (s.heap.objs.size+ 1)::(us++ds)) _ _ E (hr.make C us [])
  (I2.env0.make C us []) (hb _ (Value.ref (s.heap.objs.size+ 1)::us) I2.kIn hl) r2 hq) fun r s' hq'=>?_))
 cases r with
 |error e=>exact hx pz σ _ _ e s' I2 hq'
 |ok fl=>
  cases fl with
  |ret u=>obtain⟨v,H',I3,rv,ev,q3⟩:=I2.after hq';subst ev;exact⟨rv,⟨V.ref (s.heap.objs.size+ 1),H',I3,rfl,q3⟩⟩
  |next=>exact False.elim hq'
  |brk=>exact False.elim hq'
  |cont=>exact False.elim hq'
theorem uz (M:Mk X.K C f) (F:rK X.prog X.w X.K X.mg X.base CX k f fd ps sp) (hr:mO (k+ 1) X.A) (hg:Gl X x) (hm:X.mg x=some (.ref C)) (hb:pQ X.K fd ps ds) (hd:iX dvs ds) (hx:nT CX X E)
  (ha:PA X (e::es) t) (hdb:autoParam ((x==("__debug__":Str))=false) auD._auto_1) (he:autoParam (starEach (e::es) X.env=(false,eval e X.env)::starEach es X.env) auR._auto_1) (hpl:autoParam ((backTo pos (starEach es X.env)).any (·.1)=false) auR._auto_1):
  PE X (.Call (.Name x p) (e::es) [] pos) (GI C sp dvs E t):=by intro pz s σ H Q I h;refine wpAny_Call_Name_kw (uj I hg hm ?_ hdb);refine eA (h₀:=X.base) I.ok.mod.kin M.kp (thn (ha pos pz s σ H _ I h) fun us s1 ⟨vs,H1,I1,r,q⟩=>⟨I1.kIn,?_⟩) he hpl;exact CJ M F hr hb hd hx I1 r q
end
section
variable {X:Cx} {CX:CXT} {k:Nat} {f C:Zx} {fd:Zs} {ps ks:Zd} {sp:Sp} {E:XK} {x m:Str} {p pos apos kpos:Pos} {e o:Zr} {es:List Zr} {kws:List Keyword} {te ta:TE} {t tk:TA} {nm:Option Str}
structure Ka (K:Zp) (fd:Zs) (ps ks:Zd) (g:List Zz->List Zz->List Zz) (gV:List V->List V->List V):Prop where
 to:∀(s:Zy) (us ws:List Zz),K.In s.heap->(g us ws).length=ps.length->BindsTo s fd ⟨us,ks.zip ws⟩ (ps.zip (g us ws))
 rel:∀{vs:List V} {us:List Zz} {zs:List V} {ws:List Zz},iX vs us->iX zs ws->iX (gV vs zs) (g us ws)
variable {g:List Zz->List Zz->List Zz} {gV:List V->List V->List V}
end
structure gy (N P:Zd) (sc:Scope):Prop where
 kind:sc.kind= .function
 co:sc.isCoroutine=false
 gen:sc.isGenerator=false
 nd:N.Nodup
 pre:N.take P.length=P
 par:∀x∈P,sc.names.lookup x=some .local\/sc.names.lookup x=some .cell
 nofree:∀y∈sc.names,y.2≠ .free
theorem vL {kindOf:Str->Option NameKind} {x:Str}:∀{binds:List (Str×Zz)} {m:Zc},(∀v,(x,v)∉binds)->bindL kindOf binds m x=m x
 |[],_,_=>rfl
 |(n,v)::r,m,h=>by
  unfold bindL;rw[vL fun w hw=>h w (aj _ hw)];split
  ·have:x≠n:=by rintro rfl;exact h v ah
   simp[this]
  ·rfl
theorem vM {kindOf:Str->Option NameKind} {x:Str}:∀{binds:List (Str×Zz)} {m:Zc},(∀v,(x,v)∉binds)->bindC kindOf binds m x=m x
 |[],_,_=>rfl
 |(n,v)::r,m,h=>by
  unfold bindC;rw[vM fun w hw=>h w (aj _ hw)];split;·rfl
  ·have:x≠n:=by rintro rfl;exact h v ah
   simp[this]
theorem vN {kindOf:Str->Option NameKind} {x:Str} {v:Zz}:∀{P:Zd} {vs:List Zz} {i:Nat} {m:Zc},P.Nodup->P[i]?=some x->vs[i]?=some v->kindOf x=some .local->
  bindL kindOf (P.zip vs) m x=some v
 |[],_,_,_,_,h,_,_=>by simp at h
 |_::_,[],_,_,_,_,h,_=>by simp at h
 |p::P,w::vs,0,m,nd,h1,h2,hk=>by simp at h1 h2;subst h1;subst h2;show bindL kindOf ((p,w)::P.zip vs) m p=_;unfold bindL;rw[vL fun v hv=>(aG.mp nd).1 (aH hv).1,gY hk];simp
 |p::P,w::vs,i+ 1,m,nd,h1,h2,hk=>by show bindL kindOf ((p,w)::P.zip vs) m x=_;unfold bindL;exact vN (i:=i) (aG.mp nd).2 (by simpa using h1) (by simpa using h2) hk
theorem vO {kindOf:Str->Option NameKind} {x:Str} {v:Zz}:∀{P:Zd} {vs:List Zz} {i:Nat} {m:Zc},P.Nodup->P[i]?=some x->vs[i]?=some v->kindOf x≠some .local->
  bindC kindOf (P.zip vs) m x=some v
 |[],_,_,_,_,h,_,_=>by simp at h
 |_::_,[],_,_,_,_,h,_=>by simp at h
 |p::P,w::vs,0,m,nd,h1,h2,hk=>by simp at h1 h2;subst h1;subst h2;show bindC kindOf ((p,w)::P.zip vs) m p=_;unfold bindC;rw[vM fun v hv=>(aG.mp nd).1 (aH hv).1,gJ hk];simp
 |p::P,w::vs,i+ 1,m,nd,h1,h2,hk=>by show bindC kindOf ((p,w)::P.zip vs) m x=_;unfold bindC;exact vO (i:=i) (aG.mp nd).2 (by simpa using h1) (by simpa using h2) hk
def pT (N:Zd) (vs:List V):St:=vs.map some++aI (N.length-vs.length) none
def wZ (CX:CXT) (P:Zu) (w:Zv) (K:Zp) (mg:Zc) (base:Zt) (N:Zd) (qual:Str) (scope:Scope) (f:Zx) (cd:Zz) (A:Zw) (outer:List Env) (s:Zy) (H:Hp) (E:XK):Cx where
 prog:=P
 w:=w
 K:=K
 mg:=mg
 base:=base
 A:=A.deeper (envOfC qual scope s.heap.objs.size f cd)
 N:=N
 s₀:=s
 H₀:=H
 env:=envOfC qual scope s.heap.objs.size f cd
 outer:=outer
 stack:=envOfC qual scope s.heap.objs.size f cd::outer
 ex:=[]
 calm:=true
 fn:=fun _=>true
 pn:=[]
 xe:=fun e s'=>wpAny (model P w) (A.deeper (envOfC qual scope s.heap.objs.size f cd)) (leaving (envOfC qual scope s.heap.objs.size f cd) e) (fun _ s''=>CX outer H s E e s'') (fun e' s''=>CX outer H s E e' s'') s'
theorem yy {sc:Scope} {n:Nat} {x:Str} (h:sc.names.lookup x=some .cell):∃c,(cellsFrom n sc.names []).lookup x=some c:=by have q:=eC sc.names n [] (.inl h);exact dy.mp q
theorem vP {CX:CXT} {P:Zu} {w:Zv} {K:Zp} {mg:Zc} {base:Zt} {N ps:Zd} {qual:Str} {scope:Scope} {f:Zx} {cd:Zz} {A:Zw} {outer:List Env} {s s1:Zy} {H:Hp} {E:XK} {us:List Zz} {vs:List V}
  (S:gy N ps scope) (hd:A.handled=none) (e0:EC P w K mg base A outer s H) (hl:vs.length=ps.length) (r:iX vs us)
  (x:InCallC s s.heap.objs.size (bindL (envOfC qual scope s.heap.objs.size f cd).kindOf (ps.zip us) fun _=>none) (cellsFrom (s.heap.objs.size+ 1) scope.names []) (bindC (envOfC qual scope s.heap.objs.size f cd).kindOf (ps.zip us) fun _=>none) s1):
  Inv (wZ CX P w K mg base N qual scope f cd A outer s H E) [] (pT N vs) H s1:=by
 have hpl:ps.length<=N.length:=by have:=congrArg aJ S.pre;rw[aK]at this;lia
 obtain⟨h1,tk,rfl,hk⟩:=x.done;have noA:∀b:Zx,b∉(wZ CX P w K mg base N qual scope f cd A outer s H E).ex:=fun b z=>absurd (show b∈([]:List Zx)from z) (by simp);refine⟨⟨e0.mod,S.kind,rfl,rfl,cM _,fun y z c h1 h2=>?_,fun y hy=>?_,fun y c _ h=>?_,fun _=>hd,Around.frames_deeper e0.frames,.inr ⟨rfl,rfl⟩,fun b z=>absurd z (noA b),e0.bs,e0.bsz,fun b _ _=>noA b,fun b z=>absurd z (noA b),e0.funs,e0.frf⟩,
  rfl,e0.bare,Un.kept hk,⟨_,x.toInCall.ns,fun i y v h1 h2 h3=>?_⟩,fun y c h=>⟨_,x.cell y c h⟩,e0.hok.fresh (cM _),fun y c h=>?_,fun p hp=>absurd (show p∈([]:Za)from hp) (by simp),e0.hok.kept hk,?_⟩;·exact name_of_addr x.apart (PySem.mem_of_lookup h1) (PySem.mem_of_lookup h2)
 ·have hy:scope.names.lookup y=some .cell\/scope.names.lookup y=some .free:=hy;rcases hy with hy|hy;·exact yy hy
  ·exact absurd rfl (S.nofree _ (PySem.mem_of_lookup hy))
 ·exact cJ (x.above y c (PySem.mem_of_lookup h))
 ·have hi:i<vs.length:=by
   unfold pT at h2;by_cases hi:i<vs.length;·exact hi
   ·rw[aM (by simpa using hi)]at h2;rw[List.getElem?_replicate]at h2;split at h2<;>cases h2
  have ha:vs[i]?=some v:=by
   unfold pT at h2;rw[aN (by simpa using hi),aO]at h2
   cases e:vs[i]? with
   |none=>rw[e]at h2;cases h2
   |some a=>rw[e]at h2;cases h2;rfl
  obtain⟨u,hu,rv⟩:=r.get ha;have hp:ps[i]?=some y:=by rw[<-S.pre,List.getElem?_take_of_lt (by lia)];exact h1
  have ndP:ps.Nodup:=by rw[<-S.pre];exact S.nd.sublist (List.take_sublist _ _)
  refine⟨u,rv,?_⟩;rcases S.par y (aP hp)with k|k;·exact .inl ⟨k,vN ndP hp hu k⟩
  ·obtain⟨c,e⟩:=yy (n:=s.heap.objs.size+ 1) k;refine .inr ⟨.inl k,c,e,?_⟩;have q:=x.cell y c e;rw[vO ndP hp hu (by show scope.names.lookup y≠_;rw[k];decide)]at q;exact q
 ·exact e0.hok.fresh (cJ (x.above y c (PySem.mem_of_lookup h)))
 ·unfold pT;show _=N.length;rw[aQ,aE,aR];lia
theorem GJ {CX:CXT} {P:Zu} {w:Zv} {K:Zp} {mg:Zc} {base:Zt} {k:Nat} {f:Zx} {name qual:Str} {params:Arguments} {body:List Zq} {scope:Scope} {dV kV doc pm cdv ct oc:Zz} {an od:Option Zx}
  {osl:Array (Option Zz)} {N ps:Zd} {sp:Sp} (lk:K.lookup f=some ⟨oc,od,.func (eE name qual params body scope dV kV doc pm an cdv ct),osl⟩) (hcd:eF K cdv qual=true) (S:gy N ps scope)
  (len:∀vs H Q E,sp vs H Q E->vs.length=ps.length)
  (hbody:∀(A:Zw) (outer:List Env) (s:Zy) (H:Hp) (vs:List V) (Q:VK) (E:XK),mO k (A.deeper (envOfC qual scope s.heap.objs.size f cdv))->sp vs H Q E->
   ∃t,PSs (wZ CX P w K mg base N qual scope f cdv A outer s H E) body t/\t {nx:=fun _ H'=>Q .non H',rt:=Q} (pT N vs) H):
  rK P w K mg base CX (k+ 1) f (eE name qual params body scope dV kV doc pm an cdv ct) ps sp:=by
 refine⟨len,fun A outer s H args us vs Q E hr e0 hb r hsp=>?_⟩;have hl:=len _ _ _ _ hsp;have KX:K.In s.heap:=e0.mod.kin.keeps fun b o e=>(e0.bs b o e).1;have lim:s.heap.NoLimit:=e0.mod.nolimit.keeps fun b o e=>(e0.bs b o e).1;have hkind:∀y∈ps.zip us,scope.names.lookup y.1=some .local\/(scope.names.lookup y.1=some .cell/\((cellsFrom (s.heap.objs.size+ 1) scope.names []).lookup y.1).isSome=true):=fun⟨n,v⟩ hy=>by
  rcases S.par n (aH hy).1 with q|q;·exact .inl q
  ·exact .inr ⟨q,eC _ _ _ (.inl q)⟩
 refine codeAny_call_function hr.depth (KX _ _ lk) rfl S.co S.gen rfl (eG KX hcd) (hb _ _ _ _ ?_);refine wpAny_newFunctionEnv_cells S.kind hkind fun env he s1 x=>?_;subst he;refine⟨lim.keeps x.toInCall.keep,codeAny_func ?_⟩;obtain⟨t,ht,hq⟩:=hbody A outer s H vs Q E (hr.deeper _) hsp;have I:Inv (wZ CX P w K mg base N qual scope f cdv A outer s H E) [] (pT N vs) H s1:=vP S hr.hd e0 hl r x;refine wpAny_mono (ht [] s1 (pT N vs) H _ I hq) (fun fl s' hs=>?_) fun e s' hs=>hs;have fin:∀{σ':St} {H':Hp} {v:V} {u:Zz},Inv (wZ CX P w K mg base N qual scope f cdv A outer s H E) [] σ' H' s'->iY v u->Q v H'->CE outer P w H s Q u s':=
  fun{σ' H' v u} J rv q=>⟨v,H',J.os,J.bare,J.base,J.hok,rv,q⟩
 cases fl with
 |ret u=>obtain⟨v,σ',H',J,rv,q⟩:=hs;exact fin J rv q
 |next=>obtain⟨σ',H',J,q⟩:=hs;exact fin (v:=V.non) (u:=Value.none) J rfl q
 |brk=>obtain⟨_,_,_,q⟩:=hs;exact False.elim q
 |cont=>obtain⟨_,_,_,q⟩:=hs;exact False.elim q
section
variable {X:Cx} {x:Str} {p pos:Pos} {e:Zr} {es:List Zr} {t:TA} {id T:String} {r:List V->Hp->VK->Prop}
def tCB (r:List V->Hp->VK->Prop) (t:TA):TE:=fun σ H Q=>t σ H fun vs H1=>r vs H1 Q
theorem gG (hc:n9 X (.builtin id) r) (hg:Gl X x) (hm:X.mg x=none) (hv:bootBuiltins x=some (.builtin id)) (ha:PA X (e::es) t) (hn:autoParam (x≠"__name__") auD._auto_1) (hdb:autoParam ((x==("__debug__":Str))=false) auD._auto_1)
  (he:autoParam (starEach (e::es) X.env=(false,eval e X.env)::starEach es X.env) auR._auto_1) (hpl:autoParam ((backTo pos (starEach es X.env)).any (·.1)=false) auR._auto_1):PE X (.Call (.Name x p) (e::es) [] pos) (tCB r t):=by intro pz s σ H Q I h;refine wpAny_Call_Name_kw (nS I hg hm hv ?_ hn hdb);exact PyProof.Rows.callWith_builtin1 (thn (ha pos pz s σ H _ I h) fun us s1 ⟨vs,H1,I1,r1,q1⟩=>hc pz s1 σ H1 vs us Q I1 r1 q1) he hpl
theorem jL (hc:n9 X (.type T) r) (hg:Gl X x) (hm:X.mg x=none) (hv:bootBuiltins x=some (.type T)) (ha:PA X (e::es) t) (hn:autoParam (x≠"__name__") auD._auto_1) (hdb:autoParam ((x==("__debug__":Str))=false) auD._auto_1)
  (he:autoParam (starEach (e::es) X.env=(false,eval e X.env)::starEach es X.env) auR._auto_1) (hpl:autoParam ((backTo pos (starEach es X.env)).any (·.1)=false) auR._auto_1):PE X (.Call (.Name x p) (e::es) [] pos) (tCB r t):=by intro pz s σ H Q I h;refine wpAny_Call_Name_kw (nS I hg hm hv ?_ hn hdb);exact fQ (thn (ha pos pz s σ H _ I h) fun us s1 ⟨vs,H1,I1,r1,q1⟩=>hc pz s1 σ H1 vs us Q I1 r1 q1) he hpl
end
section
variable {κ:Type} [DecidableEq κ]
def jK (kvs:List (κ×V)) (k:κ):Option V:=(kvs.find? fun kv=>decide (kv.1=k)).map (·.2)
def oj (kvs:List (κ×V)) (k:κ) (v:V):List (κ×V):=
 if(kvs.any fun kv=>decide (kv.1=k))=true then kvs.map (fun kv=>if kv.1=k then(kv.1,v)else kv)else kvs++[(k,v)]
theorem jv {p:κ×V} {r:List (κ×V)} {k:κ} (e:p.1=k):jK (p::r) k=some p.2:=by simp[jK,aS,e]
theorem jw {p:κ×V} {r:List (κ×V)} {k:κ} (e:¬p.1=k):jK (p::r) k=jK r k:=by simp[jK,aS,e]
theorem lG (k:κ):∀kvs:List (κ×V),(kvs.any fun kv=>decide (kv.1=k))=(jK kvs k).isSome
 |[]=>rfl
 |p::r=>by
  rw[aT];by_cases e:p.1=k;·simp only[jv e,hV e,Bool.true_or,Option.isSome_some]
  ·rw[jw e,iw e,Bool.false_or];exact lG k r
theorem yz (k j:κ) (y:V):∀kvs:List (κ×V),jK (kvs.map fun kv=>if kv.1=k then(kv.1,y)else kv) j=(jK kvs j).map fun x=>if j=k then y else x
 |[]=>rfl
 |p::r=>by
  have ih:=yz k j y r;rw[aD];by_cases h:p.1=k
  ·rw[gY h];by_cases e:p.1=j;·rw[jv (p:=(p.1,y)) e,jv e,dz,gY (e.symm.trans h)]
   ·rw[jw (p:=(p.1,y)) e,jw e,ih]
  ·rw[gJ h];by_cases e:p.1=j;·rw[jv (p:=p) e,jv e,dz,gJ (fun z=>h (e.trans z))]
   ·rw[jw (p:=p) e,jw e,ih]
theorem vQ (k j:κ) (y:V):∀kvs:List (κ×V),jK kvs k=none->jK (kvs++[(k,y)]) j=if j=k then some y else jK kvs j
 |[],_=>by
  by_cases e:k=j;·rw[gY e.symm];exact jv (p:=(k,y)) e
  ·rw[gJ (fun z=>e z.symm)];exact jw (p:=(k,y)) e
 |p::r,hn=>by
  rw[aU];have hk:¬p.1=k:=fun z=>by rw[jv z]at hn;cases hn
  rw[jw hk]at hn;have ih:=vQ k j y r hn;by_cases e:p.1=j;·rw[jv e,jv e,gJ (fun z=>hk (e.trans z))]
  ·rw[jw e,jw e,ih]
theorem iT (kvs:List (κ×V)) (k j:κ) (y:V):jK (oj kvs k y) j=if j=k then some y else jK kvs j:=by
 unfold oj;by_cases a:(kvs.any fun kv=>decide (kv.1=k))=true
 ·rw[gY a,yz];rw[lG]at a;by_cases e:j=k;·obtain⟨x,hx⟩:=dy.mp a;rw[gY e,e,hx,dz,gY rfl]
  ·rw[gJ e]
   cases jK kvs j with
   |none=>rfl
   |some x=>rw[dz,gJ e]
 ·rw[gJ a];refine vQ k j y kvs ?_;rw[lG]at a
  cases q:jK kvs k with
  |none=>rfl
  |some x=>rw[q]at a;exact(a rfl).elim
theorem iW (kvs:List (κ×V)) (k:κ) (v:V):(oj kvs k v).length<=kvs.length+ 1:=by
 unfold oj;split;·rw[aE];lia
 ·rw[aQ,aB,aV];lia
theorem yA {kvs:List (κ×V)} {k:κ} (v:V) (h:jK kvs k=none):oj kvs k v=kvs++[(k,v)]:=by unfold oj;rw[lG,h];exact gJ (by decide)
theorem ui.isSome_eq {o:Option V} {u:Option Zz} (r:ui o u):o.isSome=u.isSome:=by
 cases o with
 |none=>cases u with
  |none=>rfl
  |some _=>exact(show False from r).elim
 |some _=>cases u with
  |none=>exact(show False from r).elim
  |some _=>rfl
theorem ui.getD {o:Option V} {u:Option Zz} {d:V} {d':Zz} (r:ui o u) (rd:iY d d'):iY (o.getD d) (u.getD d'):=by
 cases o with
 |none=>cases u with
  |none=>exact rd
  |some _=>exact(show False from r).elim
 |some _=>cases u with
  |none=>exact(show False from r).elim
  |some _=>exact r
theorem KV.val {kvs:List (κ×V)} {vs:List (κ×Zz)} (r:KV kvs vs) (k:κ):ui (jK kvs k) (valueAt vs k):=by
 unfold KV at r
 induction r with
 |nil=>exact True.intro
 |@cons p q ps qs h t ih=>
  obtain⟨h1,h2⟩:=h;by_cases e:p.1=k
  ·have e':q.1=k:=h1.symm.trans e;have b:valueAt (q::qs) k=some q.2:=by simp[valueAt,aS,e']
   rw[jv e,b];exact h2
  ·have e':¬q.1=k:=fun z=>e (h1.trans z);have b:valueAt (q::qs) k=valueAt qs k:=by simp[valueAt,aS,e']
   rw[jw e,b];exact ih
theorem KV.any {kvs:List (κ×V)} {vs:List (κ×Zz)} (r:KV kvs vs) (k:κ):(kvs.any fun kv=>decide (kv.1=k))=vs.any fun kv=>decide (kv.1=k):=by
 unfold KV at r
 induction r with
 |nil=>rfl
 |cons h t ih=>rw[aT,aT,ih,h.1]
theorem KV.repl {kvs:List (κ×V)} {vs:List (κ×Zz)} (r:KV kvs vs) (k:κ) {y:V} {u:Zz} (ry:iY y u):
  KV (kvs.map fun kv=>if kv.1=k then(kv.1,y)else kv) (vs.map fun kv=>if kv.1=k then(kv.1,u)else kv):=by
 unfold KV at r⊢
 induction r with
 |nil=>exact .nil
 |@cons p q ps qs h t ih=>
  rw[aD,aD];refine .cons ?_ ih;obtain⟨h1,h2⟩:=h;by_cases e:p.1=k;·rw[gY e,gY (h1.symm.trans e)];exact⟨h1,ry⟩
  ·rw[gJ e,gJ (fun z=>e (h1.trans z))];exact⟨h1,h2⟩
theorem KV.put {kvs:List (κ×V)} {vs:List (κ×Zz)} (r:KV kvs vs) (k:κ) {y:V} {u:Zz} (ry:iY y u):KV (oj kvs k y) (stored vs k u):=by
 unfold oj stored;rw[r.any k];by_cases e:(vs.any fun kv=>decide (kv.1=k))=true;·rw[gY e,gY e];exact r.repl k ry
 ·rw[gJ e,gJ e];exact Paired.snoc r ⟨rfl,ry⟩
theorem KV.length {kvs:List (κ×V)} {vs:List (κ×Zz)} (r:KV kvs vs):kvs.length=vs.length:=Paired.length r
end
theorem xr {P:Zu} {w:Zv} {k:Key} {u:Zz} (r:iY (kV k) u):(jQ P w).is k u=true:=by
 cases k with
 |inl i=>obtain⟨t,e⟩:=(show ∃t,u=Value.int i t from r);subst e;exact w8 P w i t
 |inr x=>obtain⟨t,e⟩:=(show ∃t,u=Value.str x t from r);subst e;exact xg P w x t
theorem vR {P:Zu} {w:Zv}:∀{ks:List Key} {us:List Zz},iX (ks.map kV) us->ItemsAre (jQ P w) ks us
 |[],_,r=>by rw[aW]at r;cases r;exact .nil
 |k::ks,_,r=>by
  rw[aD]at r
  cases r with
  |cons h t=>exact .cons (xr h) (vR t)
abbrev KT (H:Hp):List (List Key×V)->List (List Key×Zx×Zz)->Prop:=Paired fun p q=>p.1=q.1/\H q.2.1=some (.tup (p.1.map kV))/\iY p.2 q.2.2
theorem KT.val {H:Hp} {kvs:List (List Key×V)} {xs:List (List Key×Zx×Zz)} (r:KT H kvs xs) (k:List Key):ui (jK kvs k) ((atKey xs k).map (·.2)):=by
 induction r with
 |nil=>exact True.intro
 |@cons p q ps qs h t ih=>
  obtain⟨h1,_,h2⟩:=h;by_cases e:p.1=k
  ·have e':q.1=k:=h1.symm.trans e;have b:atKey (q::qs) k=some q.2:=by simp[atKey,aS,e']
   rw[jv e,b];exact h2
  ·have e':¬q.1=k:=fun z=>e (h1.trans z);have b:atKey (q::qs) k=atKey qs k:=by simp[atKey,aS,e']
   rw[jw e,b];exact ih
theorem KT.repl {H:Hp} {kvs:List (List Key×V)} {xs:List (List Key×Zx×Zz)} (r:KT H kvs xs) (k:List Key) {y:V} {u:Zz} (ry:iY y u):
  KT H (kvs.map fun kv=>if kv.1=k then(kv.1,y)else kv) (xs.map (putAt k u)):=by
 induction r with
 |nil=>exact .nil
 |@cons p q ps qs h t ih=>
  rw[aD,aD];refine .cons ?_ ih;obtain⟨h1,h2,h3⟩:=h;unfold putAt;by_cases e:p.1=k;·rw[gY e,gY (h1.symm.trans e)];exact⟨h1,h2,ry⟩
  ·rw[gJ e,gJ (fun z=>e (h1.trans z))];exact⟨h1,h2,h3⟩
theorem KT.put {H:Hp} {kvs:List (List Key×V)} {xs:List (List Key×Zx×Zz)} (r:KT H kvs xs) (k:List Key) {b:Zx} {y:V} {u:Zz} (hb:H b=some (.tup (k.map kV))) (ry:iY y u):
  KT H (oj kvs k y) (storedH xs k b u):=by
 have e:(kvs.any fun kv=>decide (kv.1=k))=(atKey xs k).isSome:=by rw[lG,(r.val k).isSome_eq,dA]
 unfold oj storedH;rw[e];by_cases q:(atKey xs k).isSome=true;·rw[gY q,gY q];exact r.repl k ry
 ·rw[gJ q,gJ q];exact Paired.snoc r ⟨rfl,hb,ry⟩
theorem KT.keeps {H H':Hp} {kvs:List (List Key×V)} {xs:List (List Key×Zx×Zz)} (r:KT H kvs xs) (ht:∀b ys,H b=some (.tup ys)->H' b=some (.tup ys)):KT H' kvs xs:=
 Paired.mapP r fun _ _ z=>⟨z.1,ht _ _ z.2.1,z.2.2⟩
section
variable {P:Zu} {w:Zv} {H:Hp} {h:Zt} {a:Zx}
theorem GK {u:HO} (ok:HOk P w H h) (e:Rd H a u):jU P w H h a u:=e.ok ok
theorem zF {kvs:List (Key×V)} (ok:HOk P w H h) (e:Rd H a (.dK kvs)):kvs.length<=sizeLine/\(a==sysModules)=false/\∃vs,KV kvs vs/\h.DictOf (jQ P w) a vs:=
 show jU P w H h a (.dK kvs)from GK ok e
theorem zG {kvs:List (Key×V)} (ok:HOk P w H h) (e:H a=some (.dK kvs)):kvs.length<=sizeLine/\(a==sysModules)=false/\∃vs,KV kvs vs/\h.DictOf (jQ P w) a vs:=zF ok (.inl e)
theorem vS {ks:List Key} (ok:HOk P w H h) (e:H a=some (.tup (ks.map kV))):(tupleKind (jQ P w)).is h ks a:=by obtain⟨_,its,r,o,h1,h2,n,h3,_⟩:=(show jU P w H h a (.tup (ks.map kV))from ok a _ e);exact⟨o,its.toArray,n,h1,h2,h3,by simpa using vR r⟩
theorem AG {kvs:List (List Key×V)} (ok:HOk P w H h) (e:Rd H a (.dT kvs)):kvs.length<=sizeLine/\(a==sysModules)=false/\
  ∃xs,KT H kvs xs/\h.DictOfH (tupleKind (jQ P w)) a xs:=by
 obtain⟨z,y,xs,r,o,es,ep,h1,h2,h3,h4,h5⟩:=(show jU P w H h a (.dT kvs)from GK ok e);refine⟨z,y,xs,r,o,es,ep,h1,h2,h3,h4,fun x hx=>?_,h5⟩;have all:∀{l:List (List Key×V)} {m:List (List Key×Zx×Zz)},KT H l m->∀x∈m,(tupleKind (jQ P w)).is h x.1 x.2.1:=by
  intro l m q
  induction q with
  |nil=>intro x hx;exact nomatch hx
  |@cons p q ps qs hq t ih=>
   intro x hx;rcases ak.mp hx with e|hx;·subst e;exact vS ok (by rw[<-hq.1];exact hq.2.1)
   ·exact ih x hx
 exact all r x hx
theorem IS {kvs:List (List Key×V)} (ok:HOk P w H h) (e:H a=some (.dT kvs)):kvs.length<=sizeLine/\(a==sysModules)=false/\
  ∃xs,KT H kvs xs/\h.DictOfH (tupleKind (jQ P w)) a xs:=AG ok (.inl e)
end
def w6 (H:Hp) (a:Zx) (y:V) (r:Option V):Prop:=
 (∃kvs k,Rd H a (.dK kvs)/\y=kV k/\r=jK kvs k)\/∃kvs k b,Rd H a (.dT kvs)/\y= .ref b/\H b=some (.tup (k.map kV))/\r=jK kvs k
def zH (H:Hp) (a:Zx) (y v:V) (H':Hp):Prop:=
 (∃kvs k,H a=some (.dK kvs)/\y=kV k/\kvs.length<sizeLine/\H'=upd H a (.dK (oj kvs k v)))\/
 ∃kvs k b,H a=some (.dT kvs)/\y= .ref b/\H b=some (.tup (k.map kV))/\kvs.length<sizeLine/\H'=upd H a (.dT (oj kvs k v))
theorem w6.k {H:Hp} {a:Zx} {kvs:List (Key×V)} {k:Key} (e:H a=some (.dK kvs)):w6 H a (kV k) (jK kvs k):= .inl ⟨kvs,k,.inl e,rfl,rfl⟩
theorem zH.k {H:Hp} {a:Zx} {kvs:List (Key×V)} {k:Key} {v:V} (e:H a=some (.dK kvs)) (hl:kvs.length<sizeLine):zH H a (kV k) v (upd H a (.dK (oj kvs k v))):= .inl ⟨kvs,k,e,rfl,hl,rfl⟩
section
variable {X:Cx} {pz:Za} {σ:St} {H:Hp} {s:Zy} {a:Zx} {y v:V} {u r:Zz} {o:Option V} {A:Zw} {E:Zb}
theorem Inv.big (I:Inv X pz σ H s):sysModules<s.heap.objs.size:=by have h:mainGlobals<s.heap.objs.size:=(I.mod.glob.keeps I.bk).lt;exact Nat.lt_trans (by decide) h
theorem AH {Q:Zb} (hu:A.units+ 1<cLine) (I:Inv X pz σ H s) (g:w6 H a y (some v)) (ry:iY y u) (h:∀w' s',Inv X pz σ H s'->iY v w'->Q w' s'):
  wpAny (model X.prog X.w) A (getItem (.ref a) u) Q E s:=by
 rcases g with⟨kvs,k,e,ey,l⟩|⟨kvs,k,b,e,ey,eb,l⟩;·subst ey;obtain⟨z,hd,vs,rel,dd⟩:=zF I.hok e;obtain⟨w',hw,rw'⟩:=ui.some_of (v:=v) (o:=valueAt vs k) (by rw[l];exact rel.val k);exact wpAny_getItem_of (xr ry) dd.mapOf hw (h w' _ (I.tok _) rw')
 ·subst ey;cases(show u=Value.ref b from ry);obtain⟨z,hd,xs,rel,dd⟩:=AG I.hok e;obtain⟨w',hw,rw'⟩:=ui.some_of (v:=v) (o:=(atKey xs k).map (·.2)) (by rw[l];exact rel.val k);obtain⟨p,hp,hp2⟩:=dB.mp hw;refine wpAny_getItem_heap (tupleKind_room_in1 hu) (vS I.hok eb) dd hp ?_;rw[hp2];exact h w' _ (I.tok _) rw'
theorem d_in {Q:Zb} (hu:A.units+ 1<cLine) (I:Inv X pz σ H s) (g:w6 H a y o) (ry:iY y u) (h:∀s',Inv X pz σ H s'->Q (.bool o.isSome) s'):
  wpAny (model X.prog X.w) A (compareOp .In u (.ref a)) Q E s:=by
 rcases g with⟨kvs,k,e,ey,l⟩|⟨kvs,k,b,e,ey,eb,l⟩;·subst ey;obtain⟨z,hd,vs,rel,dd⟩:=zF I.hok e;refine wpAny_in_of (xr ry) hd dd.mapOf ?_;rw[<-(rel.val k).isSome_eq,<-l];exact h _ (I.tok _)
 ·subst ey;cases(show u=Value.ref b from ry);obtain⟨z,hd,xs,rel,dd⟩:=AG I.hok e;refine wpAny_in_heap (tupleKind_room_in1 hu) (vS I.hok eb) hd dd ?_;have q:=(rel.val k).isSome_eq;rw[dA]at q;rw[<-q,<-l];exact h _ (I.tok _)
theorem EF {Q:Zb} (hu:A.units+ 1<cLine) (I:Inv X pz σ H s) (g:w6 H a y o) (ry:iY y u) (h:∀s',Inv X pz σ H s'->Q (.bool (!o.isSome)) s'):
  wpAny (model X.prog X.w) A (compareOp .NotIn u (.ref a)) Q E s:=by
 rcases g with⟨kvs,k,e,ey,l⟩|⟨kvs,k,b,e,ey,eb,l⟩;·subst ey;obtain⟨z,hd,vs,rel,dd⟩:=zF I.hok e;refine wpAny_notIn_of (xr ry) hd dd.mapOf ?_;rw[<-(rel.val k).isSome_eq,<-l];exact h _ (I.tok _)
 ·subst ey;cases(show u=Value.ref b from ry);obtain⟨z,hd,xs,rel,dd⟩:=AG I.hok e;refine wpAny_notIn_heap (tupleKind_room_in1 hu) (vS I.hok eb) hd dd ?_;have q:=(rel.val k).isSome_eq;rw[dA]at q;rw[<-q,<-l];exact h _ (I.tok _)
theorem xw {h':Zt} {t':Nat} {ob:HO} (I:Inv X pz σ H s) (mu:Mut (H a)) (hs:Heap.SameBut a s.heap h') (he:∃q,h'.get? a=some q) (new:jU X.prog X.w (upd H a ob) h' a ob):
  Inv X pz σ (upd H a ob) {s with heap:=h',toks:=t'}:=
 I.write (x:=a) (e:=a) mu (.inl rfl) (fun b q hb z=>(hs.2 b hb).trans z) he new
theorem AI {P:Zu} {w:Zv} {H':Hp} {h':Zt} {kvs:List (Key×V)} {vs:List (Key×Zz)} (z:kvs.length<=sizeLine) (hd:(a==sysModules)=false) (rel:KV kvs vs) (dd:h'.DictOf (jQ P w) a vs):
  jU P w H' h' a (.dK kvs):=⟨z,hd,vs,rel,dd⟩
theorem AJ {H':Hp} {Q:Unit->Zy->Prop} (hu:A.units+ 1<cLine) (I:Inv X pz σ H s) (g:zH H a y v H') (ry:iY y u) (rv:iY v r) (h:∀s',Inv X pz σ H' s'->Q () s'):
  wpAny (model X.prog X.w) A (setItem (.ref a) u r) Q E s:=by
 rcases g with⟨kvs,k,e,ey,l,eH⟩|⟨kvs,k,b,e,ey,eb,l,eH⟩
 ·subst ey eH;obtain⟨z,hd,vs,rel,dd⟩:=zG I.hok e;have hz:vs.length<=sizeLine:=by rw[<-rel.length];exact z
  have hl:(oj kvs k v).length<=sizeLine:=by have:=iW kvs k v;lia
  refine wpAny_setItem_pairs (hsz:=hz) (xr ry) dd fun h' dd' hs=>h _ ?_;have he:∃q,h'.get? a=some q:=let⟨q,_,_,hq,_⟩:=dd';⟨q,hq⟩;exact xw I (by rw[e];exact True.intro) hs he (AI hl hd (rel.put k rv) dd')
 ·subst ey eH;cases(show u=Value.ref b from ry);obtain⟨z,hd,xs,rel,dd⟩:=IS I.hok e;have hz:xs.length<=sizeLine:=by rw[<-Paired.length rel];exact z
  have hl:(oj kvs k v).length<=sizeLine:=by have:=iW kvs k v;lia
  refine wpAny_setItem_heap (hsz:=hz) (tupleKind_room_in1 hu) (vS I.hok eb) dd fun h' dd' hs=>h _ ?_;obtain⟨q,es,ep,hq,h2,h3,h4,_,h5⟩:=dd';refine xw I (by rw[e];exact True.intro) hs ⟨q,hq⟩ ⟨hl,hd,_,(rel.put k eb rv).keeps fun c ys ec=>?_,q,es,ep,hq,h2,h3,h4,h5⟩;rw[gr (kS ec e (fun z=>nomatch z))];exact ec
end
section
variable {X:Cx} {pz:Za} {σ:St} {H:Hp} {s:Zy} {a:Zx} {kvs:List (Key×V)} {k:Key} {u:Zz} {A:Zw} {E:Zb}
theorem IT {Q:Zb} (I:Inv X pz σ H s) (e:Rd H a (.dK kvs)) (h:∀t s',Inv X pz σ H s'->Q (.int kvs.length t) s'):wpAny (model X.prog X.w) A (call (.builtin "len") [.ref a]) Q E s:=by obtain⟨z,hd,vs,rel,dd⟩:=zF I.hok e;refine call_len_dict hd dd (by rw[<-rel.length];rw[sizeLine_eq]at z;lia) ?_;rw[<-rel.length];exact h _ _ (I.tok _)
end
def IU (i:Zr):Prop:=∀ov iv,subscripted i false ov iv=operate [ov,iv] (getItem ov iv)
theorem AK {prog:Zu} {w:Zv} {A:Zw} {E:Zb} {s:Zy} {env:Env} {value slice:Zr} {pos:Pos} {T id:String} {Q:Zb}
  (hl:typeLookup (.type T) "__getitem__"=pure (some (.builtin id))) (hs:IU slice)
  (h:wpAny (model prog w) A (eval value env) (fun o s₁=>wpAny (model prog w) A (eval slice env) (fun i s₂=>s₂.TypeIs o T/\wpAny (model prog w) A (getItem o i) Q E s₂) E s₁) E s):
  wpAny (model prog w) A (eval (.Subscript value slice pos) env) Q E s:=by
 refine Subscript_ (wpAny_mono h (fun o s₁ h₁=>wpAny_mono h₁ (fun i s₂ h₂=>?_) fun _ _ x=>x) fun _ _ x=>x);obtain⟨hT,h₂⟩:=h₂;unfold subscriptTail;refine wpAny_bind ?_;rw[getitemInPython_of_ne hT.not_modules];refine wpAny_bind (wpAny_specialOf hT hl ?_);have fin:wpAny (model prog w) A (subscripted slice false o i) (fun r s₃=>wpAny (model prog w) A (letTemporaryGo value o r >>= fun _=>pure r) Q E s₃) E s₂:=by rw[hs o i];exact wpAny_operating (wpAny_mono h₂ (fun r s₃ h₃=>wpAny_bind (wpAny_letTemporaryGo (wpAny_pure h₃))) fun _ _ x=>x)
 first
  |exact wpAny_pure (wpAny_bind fin)
  |exact wpAny_bind (wpAny_pure (wpAny_bind fin))
  |exact wpAny_bind fin
theorem xx {X:Cx} {pz:Za} {σ:St} {H:Hp} {s:Zy} {a:Zx} {y:V} {o:Option V} (I:Inv X pz σ H s) (g:w6 H a y o):s.TypeIs (.ref a) "dict":=by
 rcases g with⟨kvs,k,e,_,_⟩|⟨kvs,k,b,e,_,_,_⟩;·obtain⟨_,_,vs,_,dd⟩:=zF I.hok e;exact dd.typeIs
 ·obtain⟨_,_,xs,_,dd⟩:=AG I.hok e;exact dd.typeIs
def IV (td ty:TE):TE:=fun σ H Q=>td σ H fun x H1=>ty σ H1 fun y H2=>∃a v,x= .ref a/\w6 H2 a y (some v)/\Q v H2
def tDIn (ty td:TE):TE:=fun σ H Q=>ty σ H fun y H1=>td σ H1 fun x H2=>∃a o,x= .ref a/\w6 H2 a y o/\Q (.bl o.isSome) H2
def EG (ty td:TE):TE:=fun σ H Q=>ty σ H fun y H1=>td σ H1 fun x H2=>∃a o,x= .ref a/\w6 H2 a y o/\Q (.bl (!o.isSome)) H2
def IW (td ty tv:TE):TS:=fun D σ H=>tv σ H fun v H1=>td σ H1 fun x H2=>ty σ H2 fun y H3=>∃a H4,x= .ref a/\zH H3 a y v H4/\D.nx σ H4
section
variable {X:Cx} {o i e value:Zr} {pos pos' tpos:Pos} {td ty tv:TE}
theorem mP (hu:X.A.units+ 1<cLine) (ho:PE X o td) (hi:PE X i ty) (hs:IU i:=by exact fun _ _=>rfl):PE X (.Subscript o i pos) (IV td ty):=by intro pz s σ H Q I h;refine AK eQ.lookup hs (thn (ho pz s σ H _ I h) fun u s1 ⟨x,H1,I1,rx,q1⟩=>thn (hi pz s1 σ H1 _ I1 q1) ?_);rintro iv s2 ⟨y,H2,I2,ry,a,v,rfl,g,q2⟩;obtain rfl:u=Value.ref a:=rx;exact⟨xx I2 g,AH hu I2 g ry fun w' s3 I3 rw'=>⟨v,H2,I3,rw',q2⟩⟩
theorem GL (hu:X.A.units+ 1<cLine) (hi:PE X i ty) (ho:PE X o td):PC X .In i o (tDIn ty td):=by intro pz s σ H Q I h;refine thn (hi pz s σ H _ I h) fun iv s1 ⟨y,H1,I1,ry,q1⟩=>thn (ho pz s1 σ H1 _ I1 q1) ?_;rintro u s2 ⟨x,H2,I2,rx,a,ov,rfl,g,q2⟩;obtain rfl:u=Value.ref a:=rx;exact d_in hu I2 g ry fun s3 I3=>⟨.bl ov.isSome,H2,I3,rfl,q2⟩
theorem AL (hu:X.A.units+ 1<cLine) (hi:PE X i ty) (ho:PE X o td):PC X .NotIn i o (EG ty td):=by intro pz s σ H Q I h;refine thn (hi pz s σ H _ I h) fun iv s1 ⟨y,H1,I1,ry,q1⟩=>thn (ho pz s1 σ H1 _ I1 q1) ?_;rintro u s2 ⟨x,H2,I2,rx,a,ov,rfl,g,q2⟩;obtain rfl:u=Value.ref a:=rx;exact EF hu I2 g ry fun s3 I3=>⟨.bl (!ov.isSome),H2,I3,rfl,q2⟩
theorem mQ (hu:X.A.units+ 1<cLine) (ho:PE X o td) (hi:PE X i ty) (hv:PE X value tv) (hs:swapsWith value (some (.Subscript o i pos')) pos.line X.env=pure false):
  PS X (.Assign [.Subscript o i pos'] value pos) (IW td ty tv):=by intro pz s σ H D I h;refine wpAny_Assign_Subscript (thn (hv pz s σ H _ I h) fun r s1 ⟨v,H1,I1,rv,q1⟩=>thn (ho pz s1 σ H1 _ I1 q1) fun u s2 ⟨x,H2,I2,rx,q2⟩=>thn (hi pz s2 σ H2 _ I2 q2) ?_) hs;rintro iv s3 ⟨y,H3,I3,ry,a,H4,rfl,g,q3⟩;obtain rfl:u=Value.ref a:=rx;exact AJ hu I3 g ry rv fun s4 I4=>⟨σ,H4,I4,q3⟩
end
theorem CK {P:Zu} {w:Zv} {H:Hp} (h:Zt) (hb:sysModules<h.objs.size):jU P w H (h.push {cls:= .type "dict",data:= .dict #[]}) h.objs.size (.dK []):=
 ⟨cO _,beq_eq_false_iff_ne.mpr (Ne.symm (cG hb)),[],.nil,Heap.DictOf.new h⟩
def GN:TE:=fun _ H Q=>∀p,H p=none->Q (.ref p) (upd H p (.dK []))
section
variable {X:Cx} {pos:Pos}
theorem pd:PE X (.Dict [] [] pos) GN:=fun pz s σ H Q I h=>
 wpAny_Dict_empty ⟨.ref s.heap.objs.size,_,I.laid (a:=s.heap.objs.size) (o:= .dK []) (t':=s.toks) (fun _ _ q=>fJ _ q) (cM _) (CK s.heap I.big),rfl,h _ (I.hok.fresh (cM _))⟩
end
def pf (kvs more:List (Key×V)):List (Key×V):=more.foldl (fun acc kv=>oj acc kv.1 kv.2) kvs
theorem KV.merge:∀{more:List (Key×V)} {rs:List (Key×Zz)} {kvs:List (Key×V)} {vs:List (Key×Zz)},KV more rs->KV kvs vs->KV (pf kvs more) (merged vs rs):=by
 intro more rs kvs vs r;unfold KV at r
 induction r generalizing kvs vs with
 |nil=>intro q;exact q
 |@cons p q ps qs h t ih=>
  intro r0;have e:KV (oj kvs p.1 p.2) (stored vs q.1 q.2):=by have:=r0.put p.1 h.2;rw[<-h.1];exact this
  exact ih e
theorem lX:∀(more kvs:List (Key×V)),(pf kvs more).length<=kvs.length+more.length
 |[],kvs=>by show kvs.length<=kvs.length+ 0;lia
 |p::r,kvs=>by have h1:=lX r (oj kvs p.1 p.2);have h2:=iW kvs p.1 p.2;show(pf (oj kvs p.1 p.2) r).length<=_;rw[aB];lia
structure M1 (X:Cx) (o:Zr) (m:Str) (apos:Pos) (e:Zr) (cpos:Pos):Prop where
 base:attributeBase o m X.env (eval o X.env)=eval o X.env
 few:((backTo cpos (starEach [e] X.env)).all (fun x=>!x.1)&&(backToKw cpos (keywordEach [] X.env)).all (fun x=>x.1.isSome)
  &&decide (([e]:List Zr).length+([]:List Keyword).length+(if([]:List Keyword).isEmpty then 0 else 1)<30))=true
 line:(apos.endLine==cpos.line)=true
 trees:backTo cpos (starEach [e] X.env)=[(false,eval e X.env)]
structure M2 (X:Cx) (o:Zr) (m:Str) (apos:Pos) (e f:Zr) (cpos:Pos):Prop where
 base:attributeBase o m X.env (eval o X.env)=eval o X.env
 few:((backTo cpos (starEach [e,f] X.env)).all (fun x=>!x.1)&&(backToKw cpos (keywordEach [] X.env)).all (fun x=>x.1.isSome)
  &&decide (([e,f]:List Zr).length+([]:List Keyword).length+(if([]:List Keyword).isEmpty then 0 else 1)<30))=true
 line:(apos.endLine==cpos.line)=true
 trees:backTo cpos (starEach [e,f] X.env)=[(false,eval e X.env),(false,eval f X.env)]
section
variable {X:Cx} {pz:Za} {σ:St} {H:Hp} {s:Zy} {a:Zx} {y d:V} {u r:Zz} {o:Option V} {A:Zw} {E:Zb}
end
section
variable {X:Cx} {o e f:Zr} {apos cpos:Pos} {td ty tx:TE}
end
section
variable {X:Cx} {pz:Za} {σ:St} {H:Hp} {s:Zy} {a:Zx} {kvs:List (Key×V)} {A:Zw} {E:Zb}
end
section
variable {X:Cx} {pz:Za} {σ:St} {H:Hp} {s:Zy} {a:Zx} {y:V} {u:Zz} {A:Zw} {E:Zb}
end
end L2.Internal
namespace HT.Internal
open PySem PyProof.Rows
section
open PySem.SeqAt
open PySem.AutoSeq1 (wpAny_loadPart')
open PySem.MeetsSeq PySem.MeetsSeq2 PySem.MeetsSeq3
end
section
variable {prog:Zu} {w:Zv} {A:Zw} {E:Zb} {s:Zy}
theorem cat_tup {t b:Zx} {vs ws:List Zz} {Q:Zb} (ht:IsTup s.heap t vs.toArray) (hb:IsTup s.heap b ws.toArray) (hv:vs≠[])
  (h1:ws=[]->Q (.ref t) s) (h2:ws≠[]->Q (.ref s.heap.objs.size) {s with heap:=s.heap.push {cls:= .type "tuple",data:= .seq (vs++ws).toArray}})
  (hsz:vs.length+ws.length<=sizeLine):wpAny (model prog w) A (binaryOp .Add (.ref t) (.ref b)) Q E s:=by
 obtain⟨⟨cls,dd,data,sl⟩,ho,hc,n,hd⟩:=id ht;obtain⟨⟨cls2,dd2,data2,sl2⟩,ho2,hc2,n2,hd2⟩:=id hb;simp only at hc hd hc2 hd2;subst hc hd hc2 hd2;have e:vs.toArray++ws.toArray=(vs++ws).toArray:=by simp
 by_cases hw:ws=[]
 ·exact concat_meets ⟨_,ho,rfl⟩ ⟨_,ho2,rfl⟩ noFill_tuple_add seq_tuple_add eR eS (eT _ _)
   (tuple_addW1 t b vs.toArray ws.toArray n n2 dd dd2 sl sl2 (by simpa using hv) (by simp[hw])) ⟨ho,ho2,h1 hw⟩
 ·refine concat_meets ⟨_,ho,rfl⟩ ⟨_,ho2,rfl⟩ noFill_tuple_add seq_tuple_add eR eS (eT _ _)
   (tuple_addW2 t b vs.toArray ws.toArray n n2 dd dd2 sl sl2 (by simpa using hv) (by simpa using hw) (by rw[aX,aX];exact hsz)) ⟨ho,ho2,?_⟩;rw[e];exact h2 hw
def sIx (n d:Nat):Option Int->Nat
 |none=>d
 |some v=>if v<0 then(v+(n:Int)).toNat else min v.toNat n
theorem sIx_none (n d:Nat):sIx n d none=d:=rfl
theorem sIx_nat (n d k:Nat):sIx n d (some (k:Int))=min k n:=by show(if(k:Int)<0 then((k:Int)+(n:Int)).toNat else min (k:Int).toNat n)=min k n;rw[gJ (by lia),fC]
theorem GO (n d:Nat) (hd:d<=n) (o:Option Int):sIx n d o<=n:=by
 cases o with
 |none=>exact hd
 |some v=>
  show(if v<0 then(v+(n:Int)).toNat else min v.toNat n)<=n;by_cases hv:v<0;·rw[gY hv];lia
  ·rw[gJ hv];exact Nat.min_le_right _ _
theorem AM (v:Int) (n d:Nat):(if v<0 then max (v+(n:Int)) 0 else min v (n:Int))=((sIx n d (some v):Nat):Int):=by
 show(if v<0 then max (v+(n:Int)) 0 else min v (n:Int))=(((if v<0 then(v+(n:Int)).toNat else min v.toNat n):Nat):Int);by_cases hv:v<0;·simp only[gY hv];lia
 ·simp only[gJ hv];lia
theorem zI (lo hi:Option Int) (n:Nat):Builtin.Slice.sliceAdjust lo hi 1 (n:Int)=(((sIx n 0 lo:Nat):Int),((sIx n n hi:Nat):Int)):=by
 have h1:¬((1:Int)<0):=by lia
 unfold Builtin.Slice.sliceAdjust;simp only[h1,if_false];refine Prod.ext ?_ ?_
 ·cases lo with
  |none=>rfl
  |some v=>exact AM v n 0
 ·cases hi with
  |none=>rfl
  |some v=>exact AM v n n
theorem zJ (i j:Nat):Builtin.Slice.slicePlaces (i:Int) (j:Int) 1=j-i:=by
 unfold Builtin.Slice.slicePlaces;have h1:(1:Int)>0:=by lia
 simp only[h1,if_true,Int.ediv_one];split<;>lia
theorem tV {v:Zz} {o:Option Int} {Q:Option Int->Zy->Prop} (p:IsPart v o) (h:Q o s):wpAny (model prog w) A (Builtin.Slice.slicePartIndex v) Q E s:=by
 cases p with
 |none=>exact slicePart_none h
 |int i t=>exact slicePart_int h
theorem qN {sl:Zx} {vl vu:Zz} {lo hi:Option Int} {n:Nat} {Q:Int×Int×Nat->Zy->Prop} (hs:s.heap.IsSliceOf sl vl vu .none) (pl:IsPart vl lo) (pu:IsPart vu hi)
  (h:Q (((sIx n 0 lo:Nat):Int),1,sIx n n hi-sIx n 0 lo) s):wpAny (model prog w) A (Builtin.Slice.sliceApplied (.ref sl) (pure (n:Int))) Q E s:=by obtain⟨os,hos,hcs,hds⟩:=id hs;unfold Builtin.Slice.sliceApplied Builtin.Slice.sliceFields;refine wpAny_bind (wpAny_bind (wpAny_field hos hds (x:=vl) rfl (wpAny_bind (wpAny_field hos hds (x:=vu) rfl (wpAny_bind (wpAny_field hos hds (x:= .none) rfl (wpAny_pure ?_)))))));refine wpAny_bind (slicePart_none ?_);show wpAny _ _ (if((1:Int)==0)=true then _ else _) _ _ s;rw[gJ (by decide)];refine wpAny_bind (tV pl (wpAny_bind (tV pu (wpAny_bind (wpAny_pure ?_)))));show wpAny _ _ (match Builtin.Slice.sliceAdjust lo hi 1 (n:Int)with|(lo,hi)=>pure (lo,(1:Int),Builtin.Slice.slicePlaces lo hi 1)) _ _ s;rw[zI lo hi n];show wpAny _ _ (pure (((sIx n 0 lo:Nat):Int),(1:Int),Builtin.Slice.slicePlaces ((sIx n 0 lo:Nat):Int) ((sIx n n hi:Nat):Int) 1)) _ _ s;rw[zJ];exact wpAny_pure h
theorem CL (xs:Array Zz) (i k:Nat):((aa k).filterMap fun(m:Nat)=>xs[((i:Int)+(m:Int)*1).toNat]?).toArray=((xs.toList.drop i).take k).toArray:=by
 have e:(fun(m:Nat)=>xs[((i:Int)+(m:Int)*1).toNat]?)=fun m=>xs[i+m]?:=by
  funext m;have:((i:Int)+(m:Int)*1).toNat=i+m:=by lia
  rw[this]
 rw[e];have:=pick_run xs i k;rw[List.filterMap_map]at this;have e2:((fun x=>xs[x]?)∘fun x=>i+x)=fun m=>xs[i+m]?:=rfl;rw[e2]at this;rw[this]
theorem getItem_tuple_cut {t sl:Zx} {items:Array Zz} {vl vu:Zz} {lo hi:Option Int} {Q:Zb} (ht:IsTup s.heap t items) (hs:s.heap.IsSliceOf sl vl vu .none) (pl:IsPart vl lo) (pu:IsPart vu hi)
  (hw:¬(sIx items.size 0 lo=0/\sIx items.size items.size hi=items.size))
  (h:Q (.ref s.heap.objs.size) {s with heap:=s.heap.push {cls:= .type "tuple",data:= .seq ((items.toList.drop (sIx items.size 0 lo)).take (sIx items.size items.size hi-sIx items.size 0 lo)).toArray}})
  (hsz:items.size<=sizeLine):wpAny (model prog w) A (getItem (.ref t) (.ref sl)) Q E s:=by
 have htake:sizeOk (.seq ((items.toList.drop (sIx items.size 0 lo)).take (sIx items.size items.size hi-sIx items.size 0 lo)).toArray):=by show((items.toList.drop (sIx items.size 0 lo)).take (sIx items.size items.size hi-sIx items.size 0 lo)).toArray.size<=sizeLine;rw[aX,aK,aY,fu];lia
 have hj:sIx items.size items.size hi<=items.size:=GO _ _ (cM _) hi;obtain⟨os,hos,hcs,hds⟩:=id hs;have hTs:s.TypeIs (.ref sl) "slice":=⟨os,hos,hcs⟩;unfold getItem;try with_reducible refine wpAny_holding ?_
 first|refine wpAny_bind (wpAny_pure ?_)|skip
 refine wpAny_bind (wpAny_sequenceKey ht.typeIs (by decide) ?_);refine wpAny_bind (wpAny_callSpecial?_slot (name:=Str.ofString "__getitem__") ht.typeIs fS
  (wpAny_call_entry fS ht.typeIs entry_tuple_getitem ?_ (args_tuple_getitem _ _)));show wpAny _ _ (Builtin.Tuple.tupleItemsOf (.ref t) >>= _) _ _ s;refine wpAny_bind (tupleItemsOf_ ht ?_);refine wpAny_bind (wpAny_typeOf hTs ?_);rw[gY (by decide)];refine wpAny_bind (qN hs pl pu ?_);have hno:¬((((sIx items.size 0 lo:Nat):Int)==0&&(1:Int)==1&&(sIx items.size items.size hi-sIx items.size 0 lo)==items.size)=true):=by intro q;rw[fj,fj]at q;have q1:((sIx items.size 0 lo:Nat):Int)=0:=eq_of_beq q.1.1;have q2:sIx items.size items.size hi-sIx items.size 0 lo=items.size:=eq_of_beq q.2;exact hw ⟨by lia,by lia⟩
 show wpAny _ _ (if(((sIx items.size 0 lo:Nat):Int)==0&&(1:Int)==1&&(sIx items.size items.size hi-sIx items.size 0 lo)==items.size)=true then _ else _) _ _ s;rw[gJ hno,CL];first
  |exact wpAny_bind (m:=Builtin.Tuple.tupleExact _) (wpAny_newObj_type (wpAny_pure ⟨_,rfl,wpAny_pure h⟩) htake)
  |exact wpAny_bind (m:=Builtin.Tuple.tupleExact _) (wpAny_newObj_type (wpAny_bind (wpAny_pure (wpAny_pure ⟨_,rfl,wpAny_pure h⟩))) htake)
  |exact wpAny_bind (wpAny_bind (m:=Builtin.Tuple.tupleExact _) (wpAny_newObj_type (wpAny_pure (wpAny_pure ⟨_,rfl,wpAny_pure h⟩)) htake))
  |exact wpAny_bind (wpAny_bind (m:=Builtin.Tuple.tupleExact _) (wpAny_newObj_type (wpAny_pure ⟨_,rfl,wpAny_pure h⟩) htake))
end
end HT.Internal
namespace L2.Internal
open PySem PySem.Spec PyProof.Rows
abbrev TO:=St->Hp->(Option Int->Hp->Prop)->Prop
def PO (X:Cx) (e:Option Zr) (t:TO):Prop:=
 ∀(pz:Za) (s:Zy) (σ:St) (H:Hp) (Q:Option Int->Hp->Prop),Inv X pz σ H s->t σ H Q->
  wpAny (model X.prog X.w) X.A (evalPart e X.env) (fun u s'=>∃o H',Inv X pz σ H' s'/\IsPart u o/\Q o H') X.xe s
def EH:TO:=fun _ H Q=>Q none H
def IX (t:TE):TO:=fun σ H Q=>t σ H fun x H1=>∃i,x= .int i/\Q (some i) H1
theorem zK {ns:List Int}:∀{us:List Zz},iX (ns.map V.int) us->IntsAre us ns:=by
 induction ns with
 |nil=>intro us r;rw[aW]at r;cases r;exact .nil
 |cons n ns ih=>
  intro us r;rw[aD]at r
  cases r with
  |cons r1 r2=>obtain⟨t,e⟩:=r1;subst e;exact .cons n t (ih r2)
section
variable {X:Cx} {e:Zr} {te:TE} {lo hi:Option Zr} {tl th:TO} {pos p2:Pos}
theorem uA:PO X none EH:=by intro pz s σ H Q I h;rw[evalPart_none];exact wpAny_pure ⟨none,H,I,.none,h⟩
theorem pU (h:PE X e te):PO X (some e) (IX te):=by intro pz s σ H Q I hw;rw[evalPart_some];refine thn (h pz s σ H _ I hw) ?_;rintro u s1 ⟨x,H1,I1,r1,q1⟩;obtain⟨i,rfl,q⟩:=q1;obtain⟨t,rfl⟩:=r1;exact⟨some i,H1,I1,.int i t,q⟩
def SlR (X:Cx) (r:V->Option Int->Option Int->Hp->VK->Prop):Prop:=
 ∀(pz:Za) (s:Zy) (σ:St) (H:Hp) (x:V) (v vl vu:Zz) (lo hi:Option Int) (sl:Zx) (Q:VK),Inv X pz σ H s->iY x v->s.heap.IsSliceOf sl vl vu .none->IsPart vl lo->IsPart vu hi->r x lo hi H Q->
  ∃T id,typeLookup (.type T) "__getitem__"=pure (some (.builtin id))/\s.TypeIs v T/\wpAny (model X.prog X.w) X.A (getItem v (.ref sl)) (EP X pz σ Q) X.xe s
def tSl (r:V->Option Int->Option Int->Hp->VK->Prop) (te:TE) (tl th:TO):TE:=fun σ H Q=>te σ H fun x H1=>tl σ H1 fun l H2=>th σ H2 fun u H3=>r x l u H3 Q
theorem ph {r:V->Option Int->Option Int->Hp->VK->Prop} (hr:SlR X r) (he:PE X e te) (hl:PO X lo tl) (hu:PO X hi th):PE X (.Subscript e (.Slice lo hi none p2) pos) (tSl r te tl th):=by intro pz s σ H Q I h;refine Subscript_ (thn (he pz s σ H _ I h) ?_);rintro v s1 ⟨x,H1,I1,r1,q1⟩;refine wpAny_Slice (thn (hl pz s1 σ H1 _ I1 q1) fun vl s2 ⟨l,H2,I2,pl,q2⟩=>thn (hu pz s2 σ H2 _ I2 q2) ?_);rintro vu s3 ⟨u,H3,I3,pu,q3⟩;rw[evalPart_none];refine wpAny_pure ?_;have I4:Inv X pz σ H3 {s3 with heap:=s3.heap.push {cls:= .type "slice",data:= .fields #[vl,vu,.none]}}:=I3.kept (t':=s3.toks) fun b ob q=>fJ _ q;obtain⟨T,id,hT,ht,hg⟩:=hr pz {s3 with heap:=s3.heap.push {cls:= .type "slice",data:= .fields #[vl,vu,.none]}} σ H3 x v vl vu l u s3.heap.objs.size Q I4 r1 (Heap.IsSliceOf.new ..) pl pu q3;show wpAny (model X.prog X.w) X.A (subscriptTail e (.Slice lo hi none p2) v (.ref s3.heap.objs.size)) (EP X pz σ Q) X.xe {s3 with heap:=s3.heap.push {cls:= .type "slice",data:= .fields #[vl,vu,.none]}};exact tail_any (ops:=[.ref s3.heap.objs.size,v]) ht hT hg (by with_unfolding_all rfl)
def xy (xs:List V) (lo hi:Option Int):List V:=(xs.drop (HT.Internal.sIx xs.length 0 lo)).take (HT.Internal.sIx xs.length xs.length hi-HT.Internal.sIx xs.length 0 lo)
theorem rL (xs:List V) (lo hi:Option Int):(xy xs lo hi).length<=xs.length:=by unfold xy;rw[aK,aY];lia
def rSlT (K:Zp):V->Option Int->Option Int->Hp->VK->Prop:=fun x lo hi H Q=>∃a xs,x= .ref a/\SqT K H a xs/\
 ¬(HT.Internal.sIx xs.length 0 lo=0/\HT.Internal.sIx xs.length xs.length hi=xs.length)/\∀p,H p=none->Q (.ref p) (upd H p (.tup (xy xs lo hi)))
theorem GP:SlR X (rSlT X.K):=by
 intro pz s σ H x v vl vu lo hi sl Q I rx hs pl pu h;obtain⟨a,xs,rfl,hx,hw,q⟩:=h;cases rx;obtain⟨its,r,ht,hz⟩:=I.tuple hx;have hlen:its.toArray.size=xs.length:=by rw[aX];exact r.length.symm
 refine⟨"tuple",_,fS.lookup,ht.typeIs,?_⟩;refine HT.Internal.getItem_tuple_cut ht hs pl pu (by rw[hlen];exact hw) ?_ (by rw[hlen];exact hz);rw[hlen];refine⟨.ref s.heap.objs.size,_,I.laid (t':=s.toks) (o:= .tup (xy xs lo hi)) (fun b ob q=>fJ _ q) (cM _) ?_,rfl,q _ (I.hok.fresh (cM _))⟩;exact⟨cH (rL xs lo hi) hz,_,(r.drop (HT.Internal.sIx xs.length 0 lo)).take (HT.Internal.sIx xs.length xs.length hi-HT.Internal.sIx xs.length 0 lo),yq.new _ _⟩
def IY (K:Zp):R2:=fun x y H Q=>∃a b xs ys,x= .ref a/\y= .ref b/\SqT K H a xs/\SqT K H b ys/\xs≠[]/\xs.length+ys.length<=sizeLine/\
 (ys=[]->Q (.ref a) H)/\(ys≠[]->∀p,H p=none->Q (.ref p) (upd H p (.tup (xs++ys))))
theorem iX.nil_iff {xs:List V} {us:List Zz} (r:iX xs us):us=[]↔xs=[]:=by
 cases r with
 |nil=>simp
 |cons _ _=>simp
theorem EI:OpR X (binaryOp .Add) (IY X.K):=by intro pz s σ H x y v u Q I rx ry h;obtain⟨a,b,xs,ys,rfl,rfl,ha,hb,hx,hz,q1,q2⟩:=h;cases rx;cases ry;obtain⟨its,r1,p1,_⟩:=I.tuple ha;obtain⟨its2,r2,p2,_⟩:=I.tuple hb;refine HT.Internal.cat_tup p1 p2 (fun z=>hx (r1.nil_iff.mp z)) (fun z=>⟨.ref a,H,I,rfl,q1 (r2.nil_iff.mp z)⟩) (fun z=>?_) (by rw[<-r1.length,<-r2.length];exact hz);refine⟨.ref s.heap.objs.size,_,I.laid (t':=s.toks) (o:= .tup (xs++ys)) (fun b ob q=>fJ _ q) (cM _) ?_,rfl,q2 (fun w=>z (r2.nil_iff.mpr w)) _ (I.hok.fresh (cM _))⟩;exact⟨by rw[aQ];exact hz,_,r1.append r2,yq.new _ _⟩
end
def ixN (n:Nat) (i:Int):Option Nat:=if 0<=i then(if i<n then some i.toNat else none)else if-(n:Int)<=i then some (i+n).toNat else none
def atI {α:Type} (xs:List α) (i:Int):Option α:=(ixN xs.length i).bind fun j=>xs[j]?
theorem AN {n:Nat} {i:Int} {j:Nat} (h:ixN n i=some j):seqIndex? i n=some j/\j<n/\-(n:Int)<=i/\i<n:=by
 unfold ixN at h;by_cases h0:0<=i
 ·rw[gY h0]at h;by_cases h1:i<n;·rw[gY h1]at h;have e:i.toNat=j:=dw.inj h;exact⟨by rw[seqIndex_of h0 h1,e],by lia,by lia,h1⟩
  ·rw[gJ h1]at h;cases h
 ·rw[gJ h0]at h;by_cases h1: -(n:Int)<=i;·rw[gY h1]at h;have e:(i+n).toNat=j:=dw.inj h;exact⟨by rw[seqIndex_neg (by lia) h1,e],by lia,h1,by lia⟩
  ·rw[gJ h1]at h;cases h
theorem xA {α:Type} {xs:List α} {i:Int} {v:α} (h:atI xs i=some v):∃j,seqIndex? i xs.length=some j/\xs[j]?=some v/\j<xs.length/\-(xs.length:Int)<=i/\i<xs.length:=by
 unfold atI at h
 cases e:ixN xs.length i with
 |none=>rw[e]at h;cases h
 |some j=>rw[e]at h;obtain⟨h1,h2,h3,h4⟩:=AN e;exact⟨j,h1,h,h2,h3,h4⟩
theorem gj {α:Type} {xs:List α} {j:Nat} {v:α} (h:xs[j]?=some v):atI xs (j:Int)=some v:=by
 have hj:j<xs.length:=(au.mp h).1;have e:ixN xs.length (j:Int)=some j:=by unfold ixN;rw[gY (by lia),gY (by lia)];simp
 unfold atI;rw[e];exact h
def EJ (b:Zr):Prop:=∀o i,subscripted b false o i=operate [o,i] (getItem o i)
def IxR (X:Cx) (r:R2):Prop:=
 ∀(value slice:Zr) (pz:Za) (s:Zy) (σ:St) (H:Hp) (x y:V) (v u:Zz) (Q:VK),Inv X pz σ H s->iY x v->iY y u->r x y H Q->
  subscripted slice false v u=operate [v,u] (getItem v u)->wpAny (model X.prog X.w) X.A (subscriptTail value slice v u) (EP X pz σ Q) X.xe s
def MtR (X:Cx) (id:String) (r:V->List V->Hp->VK->Prop):Prop:=
 ∀(pz:Za) (s:Zy) (σ:St) (H:Hp) (x:V) (xs:List V) (v:Zz) (us:List Zz) (Q:VK),Inv X pz σ H s->iY x v->iX xs us->r x xs H Q->
  wpAny (model X.prog X.w) X.A (call (.builtin id) (v::us)) (EP X pz σ Q) X.xe s
section
variable {X:Cx} {a b:Zr} {ta tb:TE} {pos:Pos}
theorem gx {r:R2} (hr:IxR X r) (ha:PE X a ta) (hb:PE X b tb) (hs:EJ b:=by exact fun _ _=>rfl):PE X (.Subscript a b pos) (tOp r ta tb):=by intro pz s σ H Q I h;exact Subscript_ (IM ha hb I h fun v u s2 x y H2 I2 rx ry q=>hr a b pz s2 σ H2 x y v u Q I2 rx ry q (hs _ _))
def rIxL (K:Zp):R2:=fun x y H Q=>∃p xs i v,x= .ref p/\y= .int i/\SqL K H p xs/\atI xs i=some v/\Q v H
def rIxT (K:Zp):R2:=fun x y H Q=>∃p xs i v,x= .ref p/\y= .int i/\SqT K H p xs/\atI xs i=some v/\Q v H
def rIxS:R2:=fun x y H Q=>∃z i c,x= .str z/\y= .int i/\z.length<=sizeLine/\atI z.cps.toList i=some c/\Q (.str ⟨#[c]⟩) H
theorem AO:IxR X (rIxL X.K):=by
 intro value slice pz s σ H x y v u Q I rx ry h hs;obtain⟨p,xs,i,z,rfl,rfl,hq,he,q⟩:=h;cases rx;obtain⟨t,rfl⟩:=ry;obtain⟨its,r,pl,hz⟩:=I.list hq;obtain⟨j,h1,h2,h3,h4,h5⟩:=xA he;obtain⟨w,ew,rw'⟩:=r.get h2;have hl:=r.length;have hn:=tP;have fin:EP X pz σ Q w s:=⟨z,H,I,rw',q⟩;by_cases h0:0<=i
 ·have hj:i.toNat=j:=by rw[seqIndex_of h0 h5]at h1;exact dw.inj h1
  exact item_listR pl.isList h0 (by lia) (by rw[hj];simpa using ew) fin hs
 ·have hj:(i+(its.toArray.size:Int)).toNat=j:=by rw[seqIndex_neg (by lia) h4]at h1;rw[aX,<-hl];exact dw.inj h1
  exact subscriptTail_builtinR (x:=w) pl.isList.typeIs slot_list_getitem.lookup
   (wpAny_getItem_list_neg (Q:=fun r s'=>r=w/\EP X pz σ Q r s') pl.isList (by lia) (by rw[aX]<;>lia) (by lia) (by rw[hj];simpa using ew) ⟨rfl,fin⟩) hs
theorem GQ:IxR X (rIxT X.K):=by
 intro value slice pz s σ H x y v u Q I rx ry h hs;obtain⟨p,xs,i,z,rfl,rfl,hq,he,q⟩:=h;cases rx;obtain⟨t,rfl⟩:=ry;obtain⟨its,r,pl,hz⟩:=I.tuple hq;obtain⟨j,h1,h2,h3,h4,h5⟩:=xA he;obtain⟨w,ew,rw'⟩:=r.get h2;have hl:=r.length;have hn:=tP;have fin:EP X pz σ Q w s:=⟨z,H,I,rw',q⟩;exact subscriptTail_builtinR (x:=w) pl.typeIs slot_tuple_getitem.lookup
  (getItem_tuple (j:=j) (Q:=fun r s'=>r=w/\EP X pz σ Q r s') pl (by lia) (by lia) (by rw[aX,<-hl];exact h1) (by simpa using ew) ⟨rfl,fin⟩) hs
theorem AQ:IxR X rIxS:=by
 intro value slice pz s σ H x y v u Q I rx ry h hs;obtain⟨z,i,c,rfl,rfl,hz,he,q⟩:=h;obtain⟨t,rfl⟩:=rx;obtain⟨t',rfl⟩:=ry;obtain⟨j,h1,h2,h3,h4,h5⟩:=xA he;have hl:z.cps.toList.length=z.length:=by simp[Str.length]
 rw[hl]at h1 h4 h5;have hn:=tP;exact tail_any (typeIs_str s z t) slot_str_getitem.lookup (getItem_str (c:=c) (by have e1:decide (i< -(2^63:Int))=false:=iw (by lia);have e2:decide (i≥2^63)=false:=iw (by lia);rw[e1,e2,Bool.or_false]) (by rw[h1];simpa using h2) ⟨.str ⟨#[c]⟩,H,I.tok _,⟨_,rfl⟩,q⟩) hs
theorem zL (its:List Zz) (n j:Nat) (u:Zz):Obj.mapSeq (·.setIfInBounds j u) {cls:= .type "list",data:= .seq its.toArray n}={cls:= .type "list",data:= .seq (its.set j u).toArray n}:=by simp[Obj.mapSeq]
theorem Inv.lst {pz:Za} {σ:St} {H:Hp} {s:Zy} {p:Zx} {xs:List V} (I:Inv X pz σ H s) (h:H p=some (.lst xs)):
  ∃(its:List Zz) (n:Nat),iX xs its/\s.heap.get? p=some {cls:= .type "list",data:= .seq its.toArray n}/\xs.length<=sizeLine:=by obtain⟨z,its,n,r,e⟩:=I.hok p _ h;exact⟨its,n,r,e,z⟩
theorem Inv.lstUpd {pz:Za} {σ:St} {H:Hp} {s:Zy} {p:Zx} {xs ys:List V} {its its':List Zz} {n n':Nat} {f:Obj->Obj} (I:Inv X pz σ H s) (h:H p=some (.lst xs))
  (ho:s.heap.get? p=some {cls:= .type "list",data:= .seq its.toArray n}) (hf:f {cls:= .type "list",data:= .seq its.toArray n}={cls:= .type "list",data:= .seq its'.toArray n'}) (r:iX ys its') (hz:ys.length<=sizeLine) (t:Nat):
  Inv X pz σ (upd H p (.lst ys)) {s with heap:=s.heap.update p f,toks:=t}:=by
 have e:(s.heap.update p f).get? p=some {cls:= .type "list",data:= .seq its'.toArray n'}:=by rw[fN f ho (by rw[hf]<;>rfl),hf]
 refine I.write (x:=p) (e:=p) (by rw[h];trivial) (.inl rfl) (fun b u hb q=>(fO _ _ (Ne.symm hb)).trans q) ⟨_,e⟩ ?_;exact⟨hz,its',n',r,e⟩
def IZ:V->V->V->Hp->(Hp->Prop)->Prop:=fun o i v H Q=>∃p xs k j,o= .ref p/\i= .int k/\H p=some (.lst xs)/\ixN xs.length k=some j/\Q (upd H p (.lst (xs.set j v)))
theorem lY:JZ X IZ:=by
 intro pz s σ H o i v ov iv u Q I ro ri rv h;obtain⟨p,xs,k,j,rfl,rfl,hp,hj,q⟩:=h;cases ro;obtain⟨t,rfl⟩:=ri;obtain⟨its,n,r,ho,hz⟩:=I.lst hp;obtain⟨h1,h2,h3,h4⟩:=AN hj;have hl:=r.length;have hn:=tP;have I':Inv X pz σ (upd H p (.lst (xs.set j v))) {s with heap:=s.heap.update p (Obj.mapSeq (·.setIfInBounds j u))}:=
  I.lstUpd hp ho (zL its n j u) (r.set rv j) (by rw[aZ];exact hz) s.toks;by_cases h0:0<=k
 ·have hk:k.toNat=j:=by rw[seqIndex_of h0 h4]at h1;exact dw.inj h1
  exact PySem.W.ki_setAt ho h0 (by lia) (by rw[aX,<-hl];exact h4) (by rw[hk];exact⟨_,I',q⟩)
 ·have hk:(k+(its.toArray.size:Int)).toNat=j:=by rw[seqIndex_neg (by lia) h3]at h1;rw[aX,<-hl];exact dw.inj h1
  exact PySem.W.ki_setBack ho (by lia) (by rw[aX,<-hl];exact h3) (by lia) (by rw[hk];exact⟨_,I',q⟩)
theorem vT (lo hi:Option Int) (n:Nat):(sliceBounds lo hi none n).1=((HT.Internal.sIx n 0 lo:Nat):Int)/\(sliceBounds lo hi none n).2.1=((HT.Internal.sIx n n hi:Nat):Int)/\(sliceBounds lo hi none n).2.2=1:=by
 refine⟨?_,?_,rfl⟩
 ·cases lo with
  |none=>simp[sliceBounds,HT.Internal.sIx]
  |some i=>
   simp only[sliceBounds,HT.Internal.sIx,Option.getD_none,show(1:Int)>0 by decide,if_true];by_cases h:i<0;·simp only[h,if_true]<;>lia
   ·simp only[h,if_false]<;>lia
 ·cases hi with
  |none=>simp[sliceBounds,HT.Internal.sIx]
  |some i=>
   simp only[sliceBounds,HT.Internal.sIx,Option.getD_none,show(1:Int)>0 by decide,if_true];by_cases h:i<0;·simp only[h,if_true]<;>lia
   ·simp only[h,if_false]<;>lia
theorem uB (its:List Zz) (lo hi:Option Int):slicePick its.toArray lo hi none=((its.drop (HT.Internal.sIx its.length 0 lo)).take (HT.Internal.sIx its.length its.length hi-HT.Internal.sIx its.length 0 lo)).toArray:=by obtain⟨h1,h2,h3⟩:=vT lo hi its.toArray.size;unfold slicePick;rw[h1,h2,h3];simp only[sliceRange_one,pick_run,aX]<;>rfl
def rSlL (K:Zp):V->Option Int->Option Int->Hp->VK->Prop:=fun x lo hi H Q=>∃a xs,x= .ref a/\SqL K H a xs/\∀p,H p=none->Q (.ref p) (upd H p (.lst (xy xs lo hi)))
theorem AR:SlR X (rSlL X.K):=by intro pz s σ H x v vl vu lo hi sl Q I rx hs pl pu h;obtain⟨a,xs,rfl,hx,q⟩:=h;cases rx;obtain⟨its,r,ht,hz⟩:=I.list hx;have hlen:=r.length;refine⟨"list",_,slot_list_getitem.lookup,ht.isList.typeIs,?_⟩;refine wpAny_getItem_list_slice ht.isList hs pl pu .none (by simp) ?_ (by rw[aX]<;>lia);rw[uB,<-hlen];refine⟨.ref s.heap.objs.size,_,I.laid (t':=s.toks) (o:= .lst (xy xs lo hi)) (fun b ob q=>fJ _ q) (cM _) ?_,rfl,q _ (I.hok.fresh (cM _))⟩;exact⟨cH (rL xs lo hi) hz,_,0,(r.drop (HT.Internal.sIx xs.length 0 lo)).take (HT.Internal.sIx xs.length xs.length hi-HT.Internal.sIx xs.length 0 lo),fH _ rfl⟩
def rM:V->Bool
 | .non=>true
 | .bl _=>true
 | .int _=>true
 | .str _=>true
 |_=>false
def eqV:V->V->Bool
 | .non,.non=>true
 | .bl a,.bl b=>a==b
 | .bl a,.int b=>(if a then 1 else 0)==b
 | .int a,.bl b=>a==(if b then 1 else 0)
 | .int a,.int b=>a==b
 | .str a,.str b=>a==b
 |_,_=>false
theorem AS {A:Zw} {s:Zy} {y x:V} {u v:Zz} (ry:iY y u) (rx:iY x v) (fy:rM y=true) (fx:rM x=true):SeqAt.EqAt A s u v (eqV y x):=by
 cases y with
 |non=>
  cases ry
  cases x with
  |non=>cases rx;exact SeqAt.EqAt.same _
  |bl b=>cases rx;exact SeqAt.EqAt.none_bool b
  |int b=>obtain⟨t,rfl⟩:=rx;exact SeqAt.EqAt.none_int b t
  |str b=>obtain⟨t,rfl⟩:=rx;exact SeqAt.EqAt.none_str b t
  |_=>exact absurd (show false=true from fx) fg
 |bl a=>
  cases ry
  cases x with
  |non=>cases rx;exact SeqAt.EqAt.bool_none a
  |bl b=>cases rx;exact SeqAt.EqAt.bool_bool a b
  |int b=>obtain⟨t,rfl⟩:=rx;exact SeqAt.EqAt.bool_int a b t
  |str b=>obtain⟨t,rfl⟩:=rx;exact SeqAt.EqAt.bool_str a b t
  |_=>exact absurd (show false=true from fx) fg
 |int a=>
  obtain⟨t',rfl⟩:=ry
  cases x with
  |non=>cases rx;exact SeqAt.EqAt.int_none a t'
  |bl b=>cases rx;exact SeqAt.EqAt.int_bool a t' b
  |int b=>obtain⟨t,rfl⟩:=rx;exact SeqAt.EqAt.int_int a t' b t
  |str b=>obtain⟨t,rfl⟩:=rx;exact SeqAt.EqAt.int_str a t' b t
  |_=>exact absurd (show false=true from fx) fg
 |str a=>
  obtain⟨t',rfl⟩:=ry
  cases x with
  |non=>cases rx;exact SeqAt.EqAt.str_none a t'
  |bl b=>cases rx;exact SeqAt.EqAt.str_bool a t' b
  |int b=>obtain⟨t,rfl⟩:=rx;exact SeqAt.EqAt.str_int a t' b t
  |str b=>obtain⟨t,rfl⟩:=rx;exact SeqAt.EqAt.str_str a t' b t
  |_=>exact absurd (show false=true from fx) fg
 |_=>exact absurd (show false=true from fy) fg
def eqU (x:V) (u:Zz):Bool:=match u with
 | .none=>eqV .non x
 | .bool b=>eqV (.bl b) x
 | .int i _=>eqV (.int i) x
 | .str z _=>eqV (.str z) x
 |_=>false
theorem DQ {x y:V} {u:Zz} (r:iY y u) (f:rM y=true):eqU x u=eqV y x:=by
 cases y with
 |non=>cases r;rfl
 |bl b=>cases r;rfl
 |int i=>obtain⟨t,rfl⟩:=r;rfl
 |str z=>obtain⟨t,rfl⟩:=r;rfl
 |_=>exact absurd (show false=true from f) fg
theorem xB {x:V}:∀{xs:List V} {us:List Zz},iX xs us->xs.all rM=true->us.any (eqU x)=xs.any fun y=>eqV y x
 |_,_,.nil,_=>rfl
 |y::xs,u::us,.cons r t,f=>by rw[ba,fj]at f;rw[aT,aT,DQ r f.1,xB t f.2]
theorem uC {A:Zw} {s:Zy} {x:V} {v:Zz} (rx:iY x v) (fx:rM x=true):∀{xs:List V} {us:List Zz},iX xs us->xs.all rM=true->∀u∈us,SeqAt.EqAt A s u v (eqU x u)
 |_,_,.nil,_=>fun u hu=>by cases hu
 |y::xs,u::us,.cons r t,f=>fun u' hu=>by
  rw[ba,fj]at f;rcases ak.mp hu with rfl|hu;·rw[DQ r f.1];exact AS r rx f.1 fx
  ·exact uC rx fx t f.2 u' hu
def inV (x:V) (xs:List V):Bool:=xs.any fun y=>eqV y x
def rIn (K:Zp) (neg:Bool):R2:=fun x y H Q=>∃p xs,y= .ref p/\(SqL K H p xs\/SqT K H p xs)/\rM x=true/\xs.all rM=true/\Q (.bl (if neg then !inV x xs else inV x xs)) H
theorem vU:OpR X (compareOp .In) (rIn X.K false):=by
 intro pz s σ H x y v u Q I rx ry h;obtain⟨p,xs,rfl,hq,fx,fs,q⟩:=h;cases ry;rcases hq with hq|hq;·obtain⟨its,r,pl,hz⟩:=I.list hq;refine SeqAt.in_listAt (eqU x) pl.isList (fun w hw=>uC rx fx r fs w (by simpa using hw)) ⟨.bl _,H,I,rfl,?_⟩;rw[show its.toArray.any (eqU x)=its.any (eqU x) by simp,xB r fs];exact q
 ·obtain⟨its,r,pl,hz⟩:=I.tuple hq;refine SeqAt.in_tupleAt (eqU x) pl (fun w hw=>uC rx fx r fs w (by simpa using hw)) ⟨.bl _,H,I,rfl,?_⟩;rw[show its.toArray.any (eqU x)=its.any (eqU x) by simp,xB r fs];exact q
theorem gA:n9 X (.builtin "len") (fun xs H Q=>∃p ys,xs=[.ref p]/\(SqL X.K H p ys\/SqT X.K H p ys)/\Q (.int ys.length) H):=by
 intro pz s σ H xs us Q I r h;obtain⟨p,ys,rfl,hq,q⟩:=h;obtain⟨u,rfl,rx⟩:=mL r;cases rx;have hn:=tP;rcases hq with hq|hq;·obtain⟨its,r',pl,hz⟩:=I.list hq;have hlen:=r'.length;exact Calls.call_len_list pl.isList (by simp only[aX]<;>lia) ⟨.int ys.length,H,I.tok _,⟨s.toks+ 1,by rw[aX,hlen]⟩,q⟩
 ·obtain⟨its,r',pl,hz⟩:=I.tuple hq;have hlen:=r'.length;exact len_tuple pl (by simp only[aX]<;>lia) ⟨.int ys.length,H,I.tok _,⟨s.toks+ 1,by rw[aX,hlen]⟩,q⟩
theorem qz:n9 X (.builtin "len") (fun xs H Q=>∃z,xs=[.str z]/\z.length<=sizeLine/\Q (.int z.length) H):=by intro pz s σ H xs us Q I r h;obtain⟨z,rfl,hz,q⟩:=h;obtain⟨u,rfl,t,rfl⟩:=mL r;have hn:=tP;exact len_str (by lia) ⟨.int z.length,H,I.tok _,⟨_,rfl⟩,q⟩
theorem jx:n9 X (.type "tuple") (fun xs H Q=>∃p ys,xs=[.ref p]/\((SqL X.K H p ys/\∀l,H l=none->Q (.ref l) (upd H l (.tup ys)))\/(SqT X.K H p ys/\Q (.ref p) H))):=by
 intro pz s σ H xs us Q I r h;obtain⟨p,ys,rfl,h⟩:=h;obtain⟨u,rfl,rx⟩:=mL r;cases rx;rcases h with⟨hq,q⟩|⟨hq,q⟩
 ·obtain⟨its,r',pl,hz⟩:=I.list hq;have hlen:=r'.length;refine call_tuple_list pl.isList (fun h' kp=>?_) (by simp only[aX]<;>lia);have I1:Inv X pz σ H {s with heap:=h'}:=I.kept (t':=s.toks) kp;have I2:Inv X pz σ (upd H h'.objs.size (.tup ys)) {s with heap:=h'.push {cls:= .type "tuple",data:= .seq its.toArray}}:=
   I1.laid (t':=s.toks) (fun b o e=>fJ _ e) (cM _) (show jU X.prog X.w _ _ _ (.tup ys)from⟨hz,its,r',yq.new _ _⟩);exact⟨.ref h'.objs.size,_,I2,rfl,q _ (I1.hok.fresh (cM _))⟩
 ·obtain⟨its,r',pl,hz⟩:=I.tuple hq;exact call_tuple_same pl ⟨.ref p,H,I,rfl,q⟩
def tyV (K:Zp) (T:String) (x:V) (H:Hp):Prop:=match x with
 | .str _=>T="str"
 | .int _=>T="int"
 | .ref p=>(T="list"/\∃xs,SqL K H p xs)\/(T="tuple"/\∃o,K.lookup p=some o/\o.cls= .type "tuple"/\o.dict=none)\/
   (T="dict"/\((∃kvs,H p=some (.dK kvs))\/∃kvs,H p=some (.dT kvs)))\/(T="set"/\∃S n,H p=some (.set S n))
 |_=>False
theorem DR {pz:Za} {σ:St} {H:Hp} {s:Zy} {T:String} {x:V} {v:Zz} (I:Inv X pz σ H s) (r:iY x v) (ty:tyV X.K T x H):
  s.TypeIs v T/\∀a,v= .ref a->∃ob,s.heap.get? a=some ob/\ob.dict=none:=by
 cases x with
 |str z=>obtain⟨t,rfl⟩:=r;cases(show T="str" from ty);exact⟨typeIs_str s z t,fun _ e=>nomatch e⟩
 |int i=>obtain⟨t,rfl⟩:=r;cases(show T="int" from ty);exact⟨typeIs_int s i t,fun _ e=>nomatch e⟩
 |ref p=>
  cases r;rcases ty with⟨rfl,xs,hq⟩|⟨rfl,o,hk,hc,hd⟩|⟨rfl,hk⟩|⟨rfl,S,n,hk⟩;·obtain⟨its,_,pl,_⟩:=I.list hq;refine⟨pl.isList.typeIs,fun a e=>?_⟩;cases e;obtain⟨o,n,e,c,hd,_⟩:=pl;exact⟨o,e,hd⟩
  ·refine⟨⟨o,I.kIn p o hk,hc⟩,fun a e=>?_⟩;cases e;exact⟨o,I.kIn _ o hk,hd⟩
  ·have z:∃o,s.heap.get? p=some o/\o.ExactDict:=by
    rcases hk with⟨kvs,hk⟩|⟨kvs,hk⟩;·obtain⟨_,_,_,_,o,_,_,e,ex,_⟩:=I.hok p _ hk;exact⟨o,e,ex⟩
    ·obtain⟨_,_,_,_,o,_,_,e,ex,_⟩:=I.hok p _ hk;exact⟨o,e,ex⟩
   obtain⟨o,e,ex⟩:=z;refine⟨⟨o,e,ex.1⟩,fun a e2=>?_⟩;cases e2;exact⟨o,e,ex.2.1⟩
  ·obtain⟨o,_,_,_,e,ex,_⟩:=I.hok p _ hk;refine⟨⟨o,e,ex.1⟩,fun a e2=>?_⟩;cases e2;exact⟨o,e,ex.2.1⟩
 |_=>exact False.elim ty
def tBM0 (K:Zp) (T:String) (r:V->List V->Hp->VK->Prop) (to:TE):TE:=fun σ H Q=>to σ H fun x H1=>tyV K T x H1/\r x [] H1 Q
def tBM (K:Zp) (T:String) (r:V->List V->Hp->VK->Prop) (to:TE) (t:TA):TE:=fun σ H Q=>to σ H fun x H1=>tyV K T x H1/\t σ H1 fun xs H2=>r x xs H2 Q
variable {o e:Zr} {es:List Zr} {to:TE} {t:TA} {name:Str} {apos cpos:Pos} {T id:String} {r:V->List V->Hp->VK->Prop}
theorem yB (pa:PlainAttrs T) (slot:Slot T name id) (hty:typeOf (.builtin id)=pure (.type "method_descriptor")) (hm:MtR X id r) (ho:PE X o to)
  (hbase:autoParam (attributeBase o name X.env (eval o X.env)=eval o X.env) auR._auto_1) (hline:autoParam ((apos.endLine==cpos.line)=true) auR._auto_1):PE X (.Call (.Attribute o name apos) [] [] cpos) (tBM0 X.K T r to):=by intro pz s σ H Q I h;refine wpAny_Call_method0_late hbase hline (thn (ho pz s σ H _ I h) ?_);rintro v s1 ⟨x,H1,I1,r1,ty,q1⟩;obtain⟨h1,h2⟩:=DR I1 r1 ty;exact⟨T,id,pa,slot,hty,h1,h2,Calls.callWith_builtin rfl (PySem.evalArgs_none (hm pz s1 σ H1 x [] v [] Q I1 r1 .nil q1))⟩
theorem jM (pa:PlainAttrs T) (slot:Slot T name id) (hty:typeOf (.builtin id)=pure (.type "method_descriptor")) (hm:MtR X id r) (ho:PE X o to) (ha:PA X (e::es) t)
  (hbase:autoParam (attributeBase o name X.env (eval o X.env)=eval o X.env) auR._auto_1)
  (hfew:((backTo cpos (starEach (e::es) X.env)).all (fun x=>!x.1)&&(backToKw cpos (keywordEach [] X.env)).all (fun x=>x.1.isSome)
   &&decide ((e::es).length+([]:List Keyword).length+(if([]:List Keyword).isEmpty then 0 else 1)<30))=true:=by rfl)
  (hline:autoParam ((apos.endLine==cpos.line)=true) auR._auto_1) (hs:autoParam (starEach (e::es) X.env=(false,eval e X.env)::starEach es X.env) auR._auto_1) (hplain:autoParam ((backTo cpos (starEach es X.env)).any (·.1)=false) auR._auto_1):
  PE X (.Call (.Attribute o name apos) (e::es) [] cpos) (tBM X.K T r to t):=by intro pz s σ H Q I h;refine wpAny_Call_method_late hbase hfew hline rfl (thn (ho pz s σ H _ I h) ?_);rintro v s1 ⟨x,H1,I1,r1,ty,q1⟩;obtain⟨h1,h2⟩:=DR I1 r1 ty;refine⟨T,id,pa,slot,hty,h1,h2,?_⟩;have hA:=ha cpos pz s1 σ H1 _ I1 q1;rw[hs]at hA⊢;refine Calls.callWith_builtin (by show(false||(backTo cpos (starEach es X.env)).any (·.1))=false;rw[hplain]<;>rfl) (Calls.evalArgs_plain ?_);exact thn hA fun us s2 ⟨vs,H2,I2,r2,q2⟩=>hm pz s2 σ H2 x vs v us Q I2 r1 r2 q2
end
def MtM (X:Cx) (id:String) (r:V->List V->Hp->VK->Prop):Prop:=
 ∀(pz:Za) (s:Zy) (σ:St) (H:Hp) (x:V) (xs:List V) (v:Zz) (us:List Zz) (Q:VK),Inv X pz σ H s->iY x v->iX xs us->r x xs H Q->
  wpAny (model X.prog X.w) X.A (call (.builtin id) (v::us)) (EP X pz σ Q) X.xe s
theorem iX.one {x:V} {us:List Zz} (h:iX [x] us):∃u,us=[u]/\iY x u:=by cases h with|cons r t=>cases t;exact⟨_,rfl,r⟩
theorem iX.zero:∀{us:List Zz},iX [] us->us=[]
 |_,.nil=>rfl
theorem iX.dropLast {xs:List V} {us:List Zz} (h:iX xs us):iX xs.dropLast us.dropLast:=by
 induction h with
 |nil=>exact .nil
 |cons r t ih=>
  cases t with
  |nil=>exact .nil
  |cons q t'=>exact .cons r ih
theorem iX.reverse {xs:List V} {us:List Zz} (h:iX xs us):iX xs.reverse us.reverse:=by
 induction h with
 |nil=>exact .nil
 |cons r t ih=>rw[bb,bb];exact iX.append ih (.cons r .nil)
theorem zM {α:Type} (l:List α):l.eraseIdx (l.length-1)=l.dropLast:=by
 induction l with
 |nil=>rfl
 |cons a r ih=>
  cases r with
  |nil=>rfl
  |cons b r=>
   have e:(a::b::r).length-1=((b::r).length-1)+ 1:=by have h1:(a::b::r).length=r.length+ 2:=rfl;have h2:(b::r).length=r.length+ 1:=rfl;lia
   rw[e,List.eraseIdx_cons_succ,ih];all_goals rfl
section
variable {X:Cx} {pz:Za} {σ:St} {H:Hp} {s:Zy} {l b:Zx} {xs ys zs:List V}
theorem Inv.lset {its its':List Zz} {n:Nat} {f:Array Zz->Array Zz} {t':Nat} (I:Inv X pz σ H s) (hH:H l=some (.lst xs))
  (e:s.heap.get? l=some {cls:= .type "list",data:= .seq its.toArray n}) (hf:f its.toArray=its'.toArray) (hv:iX ys its') (hz:ys.length<=sizeLine):
  Inv X pz σ (upd H l (.lst ys)) {s with heap:=s.heap.update l (Obj.mapSeq f),toks:=t'}:=by have q:=PySem.IsL.update e f;rw[hf]at q;refine I.write (x:=l) (e:=l) (by rw[hH];exact trivial) (.inl rfl) (fun b' u hb hu=>(fO s.heap (Obj.mapSeq f) (Ne.symm hb)).trans hu) ⟨_,q⟩ ?_;exact⟨hz,its',_,hv,q⟩
theorem Inv.lnew {its:List Zz} {t':Nat} (I:Inv X pz σ H s) (hv:iX ys its) (hz:ys.length<=sizeLine):
  Inv X pz σ (upd H s.heap.objs.size (.lst ys)) {s with heap:=s.heap.push {cls:= .type "list",data:= .seq its.toArray},toks:=t'}:=
 I.laid (fun _ _ q=>fJ _ q) (cM _) ⟨hz,its,0,hv,fH _ rfl⟩
theorem Inv.fresh (I:Inv X pz σ H s):H s.heap.objs.size=none:=I.hok.fresh (cM _)
theorem Inv.lstM (I:Inv X pz σ H s) (hH:H l=some (.lst xs)):xs.length<=sizeLine/\∃(its:List Zz) (n:Nat),iX xs its/\xs.length=its.length/\s.heap.get? l=some {cls:= .type "list",data:= .seq its.toArray n}:=by obtain⟨z,its,n,r,e⟩:=I.hok l _ hH;exact⟨z,its,n,r,r.length,e⟩
theorem CM {n:Nat} (h:n<=sizeLine):Builtin.List.listTooLong n=false:=by unfold Builtin.List.listTooLong;exact iw (by lia)
end
section
variable {X:Cx}
def AU:V->List V->Hp->VK->Prop:=fun x vs H Q=>∃l xs y,x= .ref l/\vs=[y]/\H l=some (.lst xs)/\xs.length<sizeLine/\Q .non (upd H l (.lst (xs++[y])))
theorem gS:MtM X "list.append" AU:=by intro pz s σ H x vs v us Q I rx rv h;obtain⟨l,xs,y,rfl,rfl,hH,hz,q⟩:=h;cases rx;obtain⟨u,rfl,ru⟩:=rv.one;obtain⟨z,its,n,r,hl,e⟩:=I.lstM hH;refine call_meets F.slot_list_append ⟨_,e,rfl⟩ F.entry_list_append (F.args_list_append_2 _ _) (PySem.list_append l its.toArray n u (by rw[aX];lia)) ⟨e,?_⟩;refine⟨.non,_,I.lset (its':=its++[u]) hH e (by simp) (r.append (.cons ru .nil)) ?_,rfl,q⟩;rw[aQ,bc];lia
def EK:V->List V->Hp->VK->Prop:=fun x vs H Q=>∃l b xs zs,x= .ref l/\vs=[.ref b]/\H l=some (.lst xs)/\H b=some (.lst zs)/\xs.length+zs.length<=sizeLine/\Q .non (upd H l (.lst (xs++zs)))
theorem AV:MtM X "list.extend" EK:=by
 intro pz s σ H x vs v us Q I rx rv h;obtain⟨l,b,xs,zs,rfl,rfl,hH,hB,hz,q⟩:=h;cases rx;obtain⟨u,rfl,ru⟩:=rv.one;cases ru;obtain⟨z,its,n,r,hl,e⟩:=I.lstM hH;obtain⟨z2,its2,n2,r2,hl2,e2⟩:=I.lstM hB;have hsz:its.toArray.size+its2.toArray.size<=sizeLine:=by rw[aX,aX];lia
 have hlong:¬(!its.toArray.isEmpty&&Builtin.List.listTooLong (its.toArray.size+its2.toArray.size))=true:=by rw[CM hsz,fk];exact fg
 refine call_meets F.slot_list_extend ⟨_,e,rfl⟩ F.entry_list_extend (F.args_list_extend_2 _ _)
  (AutoSeq1.list_extend_list_list_0 l its.toArray n b its2.toArray n2 hlong (by rw[aX];lia) (by lia)) ⟨e,e2,?_⟩;refine⟨.non,_,I.lset (its':=its++its2) hH e (by simp) (r.append r2) ?_,rfl,q⟩;rw[aQ];lia
def Kb:V->List V->Hp->VK->Prop:=fun x vs H Q=>∃l xs y,x= .ref l/\vs=[]/\H l=some (.lst xs)/\xs[xs.length-1]?=some y/\Q y (upd H l (.lst xs.dropLast))
theorem yC:MtM X "list.pop" Kb:=by
 intro pz s σ H x vs v us Q I rx rv h;obtain⟨l,xs,y,rfl,rfl,hH,hy,q⟩:=h;cases rx;have hus:=rv.zero;subst hus;obtain⟨z,its,n,r,hl,e⟩:=I.lstM hH;obtain⟨u,hu,ru⟩:=r.get hy;have hy':its.toArray[its.toArray.size-1]?=some u:=by show its.toArray[its.length-1]?=some u;rw[<-fw,<-hl];exact hu
 refine call_meets F.slot_list_pop ⟨_,e,rfl⟩ F.entry_list_pop (F.args_list_pop_1 _) (MeetsSeq.list_pop_last l its.toArray n u hy' (by rw[aX];lia)) ⟨e,?_⟩;refine⟨y,_,I.lset (its':=its.dropLast) hH e ?_ r.dropLast ?_,ru,q⟩;·show its.toArray.eraseIdxIfInBounds (its.toArray.size-1)=its.dropLast.toArray;rw[aX,List.eraseIdxIfInBounds_toArray,zM]
 ·rw[List.length_dropLast];lia
def rCat:R2:=fun x y H Q=>∃l b xs zs,x= .ref l/\y= .ref b/\H l=some (.lst xs)/\H b=some (.lst zs)/\xs.length+zs.length<=sizeLine/\∀p,H p=none->Q (.ref p) (upd H p (.lst (xs++zs)))
theorem qA:OpR X (binaryOp .Add) rCat:=by
 intro pz s σ H x y v u Q I rx ry h;obtain⟨l,b,xs,zs,rfl,rfl,hH,hB,hz,q⟩:=h;cases rx;cases ry;obtain⟨z,its,n,r,hl,e⟩:=I.lstM hH;obtain⟨z2,its2,n2,r2,hl2,e2⟩:=I.lstM hB;refine PySem.P.add_list e e2 ?_ (by rw[aX,aX];lia);have ea:its.toArray++its2.toArray=(its++its2).toArray:=by simp
 rw[ea];exact⟨.ref _,_,I.lnew (t':=s.toks) (r.append r2) (by rw[aQ];lia),rfl,q _ I.fresh⟩
end
section
variable {prog:Zu} {w:Zv} {A:Zw} {E:Zb} {s:Zy}
end
section
variable {X:Cx}
end
end L2.Internal
namespace Att.Internal
open PySem PySem.W PySem.Calls PyProof.Rows
theorem rN {P:Params} {h:Zt}:∀(ns:List Int) (vs:List Zz),WellAll P h vs (ns.map WData.int)->IntsAre vs ns:=by
 intro ns
 induction ns with
 |nil=>intro vs w;rw[aW]at w;cases w;exact .nil
 |cons n ns ih=>
  intro vs w;rw[aD]at w
  cases w with
  |cons a b=>cases a;exact .cons _ _ (ih _ b)
theorem AW {l:OpenLaw} {n:Nat} (hn:l.most=some n) {P:Params} {h:Zt} {args:List WData} {vals:List Zz}
  (hpre:l.row.toRowW.claim.pre args=true) (hwl:WellAll P h vals args):
  ∃a vs ns,vals=[Value.ref a]/\args=[WData.list (ns.map WData.int)]/\h.get? a=some {cls:= .type "list",data:= .seq vs.toArray}/\IntsAre vs ns/\ns.length<=n:=by
 have hsh:WShape.hasAll [] args [.list .int]=true:=(pre_splitW hpre).1;have hc:l.pre.holds [] {args:=args}=true:=(pre_splitW hpre).2;obtain⟨d,r,rfl,h1,h2⟩:=hasAllW_cons hsh;obtain rfl:=hasAllW_nil h2;obtain⟨xs,rfl,h3⟩:=hasW_list h1;obtain⟨ns,rfl⟩:=items_int h3;have hlen:ns.length<=n:=by
  unfold OpenLaw.pre at hc;have h4:(WTm.not (.lt (.lit (.int (n:Int))) (.len (.arg 0)))).holds [] {args:=[.list (ns.map .int)]}=true:=by have h4:=(holds_andW hc).1;rw[hn]at h4;exact h4
  have h5:=condW_of h4 (w_not (w_lt w_lit (w_len_list (w_arg rfl))));rw[aE]at h5;refine Nat.le_of_not_lt fun q=>?_;have q':(n:Int)<((ns.length:Nat):Int):=by lia
  first
   |(rw[hV q']at h5;exact absurd h5 (by decide))
   |(simp at h5;lia)
 cases hwl with
 |cons w1 w2=>
  cases w2
  cases w1 with
  |list ho hall=>exact⟨_,_,ns,rfl,rfl,ho,rN ns _ hall,hlen⟩
theorem AX (l:OpenLaw) (args:List WData):l.row.toRowW.claim.post args (.bool true) args=true:=
 postW_of (r:=l.row.toRowW) (X:=(true==true))
  (show WShape.has [] (.bool true) .bool=true by first|rfl|decide|simp[WShape.has,WShape.arms,WShape.armsAll])
  (show(WTm.eq .res (.lit (.bool true))).value [] {args:=args,res:=some (.bool true),after:=args}=some (.bool (true==true))from w_eq_bool (w_res rfl) w_lit) rfl
theorem attach_call {l:OpenLaw} {n:Nat} {q:Zu} {loose:Zd} {XP:(Str->Option Zz)->Zt->Prop} {YP:Zv->Zt->Prop} {d:DefRec}
  (hn:l.most=some n) (hdf:d.params.defaults=[])
  (call:∀(w:Zv) (s₀ s₁:Zy) (mg mb:Zc) (fa:Zx) (o:Obj) (pm cd doc:Zz) (a:Zx) (vs:List Zz) (ns:List Int),
   Ground q loose [] XP w s₀ mg mb s₁.heap->YP w s₁.heap->
   s₁.heap.get? fa=some o->o.data= .func (docDef d.name d.params d.body d.scope pm cd doc)->s₁.heap.CodeRec cd d.name->mg d.name=some (.ref fa)->
   s₁.heap.get? a=some {cls:= .type "list",data:= .seq vs.toArray}->IntsAre vs ns->ns.length<=n->s₁.gens=#[]->
   codeAny (model l.prog w) callerA (.call (.ref fa) ⟨[.ref a],[]⟩) (fun r s'=>r= .ok (.ret (.bool true))/\OldK s₁.heap s'.heap/\s'.os=s₁.os/\AllBare s'.gens) s₁):
  WalkO q loose XP YP l.row.toRowW d [] (fun f vs=>PySem.call f vs):=by intro w s₀ s₁ mg mb G Y fa o pm cd doc dV kV ho hd hcd hD hmg hg args vals as hpre hlay hrd hwl hlo;obtain rfl:dV= .none:=Dflts.none hD hdf;obtain rfl:kV= .none:=Dflts.noKw hD;obtain⟨a,vs,ns,rfl,rfl,hobj,hints,hlen⟩:=AW hn hpre hwl;refine enter_call (codeAny_mono (call w s₀ s₁ mg mb fa o pm cd doc a vs ns G Y ho (fd_plain hd) hcd hmg hobj hints hlen hg) fun r s' hq=>?_);obtain⟨rfl,h2,h3,h4⟩:=hq;exact⟨.inl ⟨.bool true,.bool true,[],rfl,fun _=>rfl,.bool true,AX l _,fun _=>⟨List.Pairwise.nil,fun _ hm=>(nomatch hm)⟩⟩,h2,h3,h4⟩
section
variable {prog:Zu} {w:Zv} {A:Zw} {E:Zb} {s:Zy} {K:Frag}
end
end Att.Internal
namespace L2.Internal
open PySem PySem.Spec PyProof.Rows
theorem vV:∀{vs:List Zz} {ns:List Int},IntsAre vs ns->iX (ns.map V.int) vs
 |_,_,.nil=> .nil
 |_,_,.cons n t h=> .cons ⟨t,rfl⟩ (vV h)
def I0 (H:Hp):Prop:=∀b,H b=none\/∃o xs,H b=some (.frz o (.lst xs))
theorem CN {P:Zu} {w:Zv} {K:Zp} {mg mb:Zc} {CX:CXT} {k:Nat} {fa a:Zx} {fd:Zs} {x:Str} {sp:Sp} {s₁:Zy} {vs:List Zz} {ns:List Int}
  (KX:K.In s₁.heap) (hns:s₁.heap.Ns mainGlobals mg) (hb:s₁.heap.Ns builtinsNs mb) (hbb:∀x:Str,x≠"__name__"->mb x=bootBuiltins x) (hlim:s₁.heap.NoLimit) (hg:s₁.gens=#[])
  (ha:s₁.heap.get? a=some {cls:= .type "list",data:= .seq vs.toArray}) (hi:IntsAre vs ns) (hl:ns.length<=sizeLine) (hr:mO k callerA)
  (F:∀base:Zt,K.In base->base.Ns mainGlobals mg->rK P w K mg base CX k fa fd [x] sp) (hbind:∀(s:Zy) (u:Zz),BindsTo s fd ⟨[u],[]⟩ [(x,u)])
  (hsp:∀H:Hp,I0 H->SqL K H a (ns.map V.int)->sp [.ref a] H (fun v _=>v= .bl true) fun _ _ _=>False)
  (hCX:∀H e s',CX [] H s₁ (fun _ _ _=>False) e s'->False):
  codeAny (model P w) callerA (.call (.ref fa) ⟨[.ref a],[]⟩) (fun r s'=>r= .ok (.ret (.bool true))/\OldK s₁.heap s'.heap/\s'.os=s₁.os/\AllBare s'.gens) s₁:=by
 have rv:=vV hi;have lenV:=hi.length;have core:∀H:Hp,I0 H->SqL K H a (ns.map V.int)->HOk P w H s₁.heap->(∀b,H b≠none->b=a)->(H a≠none->K.lookup a=none)->
   codeAny (model P w) callerA (.call (.ref fa) ⟨[.ref a],[]⟩) (fun r s'=>r= .ok (.ret (.bool true))/\OldK s₁.heap s'.heap/\s'.os=s₁.os/\AllBare s'.gens) s₁:=by
  intro H hO hS hok hA hK;have base_of:∀{b:Zx} {o:Obj},s₁.heap.get? b=some o->H b=none->(Cz s₁.heap H).get? b=some o:=fun e n=>CA e n;have noA:∀{b:Zx} {o:Obj} {es:Array DictEntry} {ep:Nat},s₁.heap.get? b=some o->o.data= .dict es ep->H b=none:=fun{b o es ep} e d=>by
   cases q:H b with
   |none=>rfl
   |some u=>have e':b=a:=hA b (by rw[q];simp);subst e';rw[ha]at e;cases e;have d':Data.seq vs.toArray _=Data.dict es ep:=d;cases d'
  have nsK:∀{b:Zx} {m:Zc},s₁.heap.Ns b m->(Cz s₁.heap H).Ns b m:=fun{b m} ⟨o,es,ep,e,d,r⟩=>⟨o,es,ep,base_of e (noA e d),d,r⟩;have hKb:K.In (Cz s₁.heap H):=fun b o e=>base_of (KX b o e) (by
   cases q:H b with
   |none=>rfl
   |some u=>have e':b=a:=hA b (by rw[q];simp);subst e';rw[hK (by rw[q];simp)]at e;cases e);have hM:Mod K mg (Cz s₁.heap H):=⟨hKb,nsK hns,⟨mb,nsK hb,hbb⟩,let⟨mc,h1,h2⟩:=hlim;⟨mc,nsK h1,h2⟩⟩;have e0:EC P w K mg (Cz s₁.heap H) callerA [] s₁ H:=⟨rfl,hM,fun b o e=>Eo e,Nat.le_of_eq (Am _ _),trivial,fun b hb=>absurd (show b∈([]:List Zx)from hb) (by simp),hok,.of_eq hg⟩;refine codeAny_mono ((F _ hKb (nsK hns)).run callerA [] s₁ H ⟨[.ref a],[]⟩ [.ref a] [.ref a] _ _ hr e0 (hbind s₁ (.ref a)) (.cons rfl .nil) (hsp H hO hS)) fun r s' h=>?_
  cases r with
  |error e=>exact(hCX H e s' h).elim
  |ok fl=>
   cases fl with
   |next=>exact False.elim h
   |brk=>exact False.elim h
   |cont=>exact False.elim h
   |ret u=>
    obtain⟨v,H',os,bare,un,hok',r',q⟩:=h;have q':v= .bl true:=q;subst q';obtain rfl:u=Value.bool true:=r';refine⟨rfl,OldK.of_keep fun b o e=>?_,os,bare⟩
    cases q:H b with
    |none=>exact un.keep b o e q (by intro z;exact absurd (show b∈([]:List Zx)from z) (by simp)) (by simp)
    |some u=>
     rcases hO b with z|⟨ob,xs,z⟩;·rw[q]at z;cases z
     ·have z2:=un.frzs b ob _ z;obtain⟨e1,_⟩:=hok b _ z;obtain⟨e2,_⟩:=hok' b _ z2;rw[e]at e1;cases e1;exact e2
 cases hk:K.lookup a with
 |some o=>have e:=KX a o hk;rw[ha]at e;cases e;refine core (fun _=>none) (fun _=> .inl rfl) (.inr ⟨_,vs.toArray,_,hk,rfl,rfl,rfl,by rw[aX,lenV];exact hl,by simpa using rv⟩) (fun b u z=>by have z':(none:Option HO)=some u:=z;cases z') (fun b z=>absurd rfl z) fun z=>absurd rfl z
 |none=>
  refine core (fun b=>if b=a then some (.frz {cls:= .type "list",data:= .seq vs.toArray} (.lst (ns.map V.int)))else none) (fun b=>?_) (.inl (.inr ⟨{cls:= .type "list",data:= .seq vs.toArray},gY rfl⟩)) (fun b u z=>?_) (fun b z=>?_) fun _=>hk
  ·by_cases hb:b=a;·exact .inr ⟨_,_,gY hb⟩
   ·exact .inl (gJ hb)
  ·by_cases hb:b=a;·have z':=(gY hb).symm.trans z;cases z';subst hb;exact⟨ha,by rw[aE];exact hl,vs,_,rv,ha⟩
   ·have z':=(gJ hb).symm.trans z;cases z'
  ·by_cases hb:b=a;·exact hb
   ·exact absurd (gJ hb) z
theorem walk_of {l:PySem.W.OpenLaw} {n k:Nat} {q:Zu} {loose:Zd} {XP:(Str->Option Zz)->Zt->Prop} {YP:Zv->Zt->Prop} {d:DefRec} {K:Params->Zp} {CX:Zv->CXT} {sp:Zv->Sp} {x:Str}
  (hn:l.most=some n) (hn2:n<=sizeLine) (hdf:d.params.defaults=[]) (hr:mO k callerA)
  (hY:∀(w:Zv) (h:Zt),YP w h->(K w.params).In h)
  (F:∀(w:Zv) (mg:Zc) (fa:Zx) (h:Zt),(K w.params).In h->h.Ns mainGlobals mg->mg d.name=some (.ref fa)->
   ∃fd:Zs,(∀(s:Zy) (u:Zz),BindsTo s fd ⟨[u],[]⟩ [(x,u)])/\
    ∀base:Zt,(K w.params).In base->base.Ns mainGlobals mg->rK l.prog w (K w.params) mg base (CX w) k fa fd [x] (sp w))
  (hsp:∀(w:Zv) (H:Hp) (a:Zx) (ns:List Int),ns.length<=n->I0 H->SqL (K w.params) H a (ns.map V.int)->sp w [.ref a] H (fun v _=>v= .bl true) fun _ _ _=>False)
  (hCX:∀(w:Zv) (H:Hp) (s:Zy) (e:Zz) (s':Zy),CX w [] H s (fun _ _ _=>False) e s'->False):
  PySem.W.WalkO q loose XP YP l.row.toRowW d [] (fun f vs=>PySem.call f vs):=by refine Att.Internal.attach_call hn hdf fun w s₀ s₁ mg mb fa o pm cd doc a vs ns G Y ho hd hcd hmg hobj hints hlen hg=>?_;have KX:=hY w _ Y;obtain⟨fd,hb,hF⟩:=F w mg fa _ KX G.T.g hmg;exact CN KX G.T.g G.T.b G.T.builtins G.T.nolimit hg hobj hints (cH hlen hn2) hr hF hb (fun H hO hS=>hsp w H a ns hlen hO hS) fun H e s'=>hCX w H s₁ e s'
def iG (s:Zq) (j:Nat):Zq:=match s with
 | .ClassDef _ _ _ body _ _ _ _ _ _ _=>body.getD j (.Pass ⟨0,0,0,0⟩)
 |_=> .Pass ⟨0,0,0,0⟩
def lJ (s:Zq):Arguments:=match s with
 | .FunctionDef _ a _ _ _ _ _ _ _ _=>a
 |_=>{posonlyargs:=[],args:=[],vararg:=none,kwonlyargs:=[],kw_defaults:=[],kwarg:=none,defaults:=[]}
def kq (s:Zq):List Zq:=match s with
 | .FunctionDef _ _ b _ _ _ _ _ _ _=>b
 |_=>[]
def gq (s:Zq):Scope:=match s with
 | .FunctionDef _ _ _ _ _ _ sc _ _ _=>sc
 |_=>{kind:= .function,names:=[],isGenerator:=false,isCoroutine:=false}
abbrev CX0:CXT:=fun _ _ _ _ _ _=>False
abbrev E0:XK:=fun _ _ _=>False
theorem jB {X:Cx}:nT CX0 X E0:=fun _ _ _ _ _ _ _ h=>h.elim
structure Fun (K:Zp) (x qual:Str) (st:Zq) (f:Zx) (fd:Zs):Prop where
 ex:∃(oc:Zz) (od:Option Zx) (kV doc pm:Zz) (an:Option Zx) (cdv ct:Zz) (osl:Array (Option Zz)),
  fd=eE x qual (lJ st) (kq st) (gq st) .none kV doc pm an cdv ct/\K.lookup f=some ⟨oc,od,.func fd,osl⟩/\eF K cdv qual=true
 kp:dW K (.ref f)=true
section
variable {P:Zu} {w:Zv} {K:Zp} {mg:Zc} {base:Zt}
theorem Fun.ok {x qual:Str} {st:Zq} {f:Zx} {fd:Zs} {N ps:Zd} {k:Nat} {sp:Sp} (F:Fun K x qual st f fd) (S:gy N ps (gq st)) (len:∀vs H Q E,sp vs H Q E->vs.length=ps.length)
  (hbody:∀(cdv:Zz) (A:Zw) (outer:List Env) (s:Zy) (H:Hp) (vs:List V) (Q:VK) (E:XK),mO k (A.deeper (envOfC qual (gq st) s.heap.objs.size f cdv))->sp vs H Q E->
   ∃t,PSs (wZ CX0 P w K mg base N qual (gq st) f cdv A outer s H E).nox (kq st) t/\t {nx:=fun _ H'=>Q .non H',rt:=Q} (pT N vs) H):rK P w K mg base CX0 (k+ 1) f fd ps sp:=by obtain⟨oc,od,kV,doc,pm,an,cdv,ct,osl,rfl,lk,hcd⟩:=F.ex;refine GJ lk hcd S len fun A outer s H vs Q E hr hsp=>?_;obtain⟨t,h,q⟩:=hbody cdv A outer s H vs Q E hr hsp;exact⟨t,h.nox,q⟩
theorem Fun.binds {x qual:Str} {st:Zq} {f:Zx} {fd:Zs} {ps:Zd} (F:Fun K x qual st f fd)
  (h:∀(kV doc pm:Zz) (an:Option Zx) (cdv ct:Zz) (us:List Zz),us.length=ps.length->bindArgs (eE x qual (lJ st) (kq st) (gq st) .none kV doc pm an cdv ct) ⟨us,[]⟩=pure (ps.zip us)):pQ K fd ps []:=by obtain⟨oc,od,kV,doc,pm,an,cdv,ct,osl,rfl,lk,hcd⟩:=F.ex;exact .all (h kV doc pm an cdv ct)
theorem rO {x qual:Str} {st:Zq} {f:Zx} {oc:Zz} {od an:Option Zx} {osl:Array (Option Zz)} {kV doc pm cdv ct:Zz} (l:K.lookup f=some ⟨oc,od,.func (eE x qual (lJ st) (kq st) (gq st) .none kV doc pm an cdv ct),osl⟩)
  (c:eF K cdv qual=true) (k:dW K (.ref f)=true):Fun K x qual st f (eE x qual (lJ st) (kq st) (gq st) .none kV doc pm an cdv ct):=⟨⟨oc,od,kV,doc,pm,an,cdv,ct,osl,rfl,l,c⟩,k⟩
end
theorem vW {A:Zw} {k:Nat} (hr:mO k A):A.units+ 1<cLine:=cR (Nat.add_le_add_left (by decide:1<=64) _) hr.units
section
variable {X:Cx}
theorem pv (i:Nat) {x:Str} {pos:Pos} (hN:autoParam (X.N[i]?=some x) auR._auto_1) (hv:Vis X.env.scope x:=by first|exact Or.inl rfl|exact Or.inr (.inl rfl)|exact Or.inr (.inr rfl)) (hd:autoParam ((x==("__debug__":Str))=false) auD._auto_1)
  (hcd:autoParam ((x==("__classdict__":Str))=false) auD._auto_1):PE X (.Name x pos) (Gf i):=Gs hN hv hd hcd
end
theorem iV {A B:Prop} (h:B):if false=true then A else B:=by rw[gJ fg];exact h
theorem jl {A B:Prop} (h:A):if true=true then A else B:=by rw[gY rfl];exact h
theorem Iw {c A B:Prop} [Decidable c] (h1:c->A) (h2:¬c->B):if c then A else B:=by
 by_cases h:c;·rw[gY h];exact h1 h
 ·rw[gJ h];exact h2 h
theorem Ja {c A B:Prop} [Decidable c] (hc:c) (h:B):if(!decide c)=true then A else B:=by rw[hV hc];exact iV h
def gB (H H':Hp):Prop:=∀b o,H b=some o->H' b=some o
theorem gB.refl (H:Hp):gB H H:=fun _ _ h=>h
theorem gB.trans {H H1 H2:Hp} (a:gB H H1) (b:gB H1 H2):gB H H2:=fun c o h=>b c o (a c o h)
theorem gB.free {H H':Hp} (e:gB H H') {l:Zx} (h:H' l=Option.none):H l=Option.none:=by
 cases q:H l with
 |none=>rfl
 |some o=>rw[e l o q]at h;cases h
theorem gB.seq {K:Zp} {H H':Hp} {a:Zx} {xs:List V} (e:gB H H') (h:SqL K H a xs):SqL K H' a xs:=by
 rcases h with(h|⟨o,h⟩)|h;·exact .inl (.inl (e _ _ h))
 ·exact .inl (.inr ⟨o,e _ _ h⟩)
 ·exact .inr h
section
variable {X:Cx}
theorem vX:n9 X (.builtin "len") (fun xs H Q=>∃a kvs,xs=[V.ref a]/\H a=some (.dK kvs)/\Q (.int kvs.length) H):=by intro pz s σ H xs us Q I r h;obtain⟨a,kvs,rfl,ha,q⟩:=h;obtain⟨u,rfl,ru⟩:=mL r;cases ru;exact IT I (.inl ha) fun t s' I'=>⟨.int kvs.length,H,I',⟨t,rfl⟩,q⟩
end
section
variable {κ:Type} [DecidableEq κ]
theorem CO {kvs:List (κ×V)} {k:κ} (h:jK kvs k=none):¬k∈kvs.map (·.1):=by intro m;obtain⟨p,hp,e⟩:=bf.mp m;have q:(kvs.any fun kv=>decide (kv.1=k))=true:=bh.mpr ⟨p,hp,hV e⟩;rw[lG,h]at q;exact absurd q (by simp)
theorem EM {kvs:List (κ×V)} {k:κ} {v:V} (h:jK kvs k=some v):k∈kvs.map (·.1):=by
 have q:(kvs.any fun kv=>decide (kv.1=k))=true:=by rw[lG,h];all_goals rfl
 obtain⟨p,hp,e⟩:=bh.mp q;exact bf.mpr ⟨p,hp,of_decide_eq_true e⟩
theorem AY:∀{l:List κ} {k:κ},l.Nodup->¬k∈l->(l++[k]).Nodup
 |[],k,_,_=>by simp
 |a::r,k,h,hk=>by
  obtain⟨h1,h2⟩:=aG.mp h;show(a::(r++[k])).Nodup;refine aG.mpr ⟨fun m=>?_,AY h2 fun m=>hk (ak.mpr (Or.inr m))⟩;rcases ao.mp m with q|q;·exact h1 q
  ·exact hk (ak.mpr (Or.inl (bj.mp q).symm))
theorem EN {kvs:List (κ×V)} {k:κ} (v:V) (hn:(kvs.map (·.1)).Nodup) (h:jK kvs k=none):((oj kvs k v).map (·.1)).Nodup:=by rw[yA v h,bo];exact AY hn (CO h)
end
section
variable {X:Cx}
theorem pX {x:Str} {i:Int} {t:Tok} {pos:Pos} (hg:Gl X x) (hm:X.mg x=some (.int i t)) (hd:autoParam ((x==("__debug__":Str))=false) auD._auto_1):PE X (.Name x pos) (tC (.int i)):=xh hg hm (show iY (.int i) _ from⟨t,rfl⟩) hd
theorem CQ {x y:Str} {t:Tok} {pos:Pos} (hg:Gl X x) (hm:X.mg x=some (.str y t)) (hd:autoParam ((x==("__debug__":Str))=false) auD._auto_1):PE X (.Name x pos) (tC (.str y)):=xh hg hm (show iY (.str y) _ from⟨t,rfl⟩) hd
theorem CS {x:Str} {a:Zx} {pos:Pos} (hg:Gl X x) (hm:X.mg x=some (.ref a)) (hd:autoParam ((x==("__debug__":Str))=false) auD._auto_1):PE X (.Name x pos) (tC (.ref a)):=xh hg hm (show iY (.ref a) _ from rfl) hd
theorem pj {x:Str} {n:String} {pos:Pos} (hg:Gl X x) (hm:X.mg x=none) (hv:bootBuiltins x=some (.type n)) (hn:autoParam (x≠"__name__") auD._auto_1) (hd:autoParam ((x==("__debug__":Str))=false) auD._auto_1):PE X (.Name x pos) (tC (.ty n)):=Ep hg hm hv (show iY (.ty n) _ from rfl) hn hd
end
theorem iH:bootBuiltins "len"=some (.builtin "len"):=gQ
theorem DS:bootBuiltins "all"=some (.builtin "all"):=gQ
theorem DT:bootBuiltins "sum"=some (.builtin "sum"):=gQ
theorem iM:bootBuiltins "isinstance"=some (.builtin "isinstance"):=gQ
theorem yD:bootBuiltins "int"=some (.type "int"):=gQ
theorem GS:bootBuiltins "str"=some (.type "str"):=gQ
theorem EO:bootBuiltins "bool"=some (.type "bool"):=gQ
theorem AZ:bootBuiltins "list"=some (.type "list"):=gQ
theorem jW:bootBuiltins "tuple"=some (.type "tuple"):=gQ
theorem ER:bootBuiltins "dict"=some (.type "dict"):=gQ
def Its (x:Str):It:=⟨fun i _=>i<x.cps.size,fun i H v H'=>H'=H/\∃c,x.cps[i]?=some c/\v= .str ⟨#[c]⟩,fun i _=>i=x.cps.size⟩
theorem yE {P:Zu} {w:Zv} {K:Zp} {tg:Zr} (it:Zx) (T:String) (x:Str) (t:Tok)
  (hT:["enumerate","zip","dict_itemiterator","dict_reverseitemiterator","odict_iterator","itertools.zip_longest","itertools.pairwise"].contains T=false)
  (W:∀A:Zw,A.handled=none->Walks P w A it [it] [it] x.cps.size (SignAt x) (fun i h=>h.IsStrIter it T x t i))
  (hself:∀(A:Zw) (i:Nat) (s:Zy) (Q:Zb) (E:Zb),s.heap.IsStrIter it T x t i->Q (.ref it) s->wpAny (model P w) A (pyIter (.ref it)) Q E s):
  CD P w K tg (Its x) [it] it (fun i h=>h.IsStrIter it T x t i) where
 mem:=by simp
 obj:=fun i h st b hb=>by
  have e:b=it:=by simpa using hb
  subst e;obtain⟨o,e,c,d⟩:=st;exact⟨o,e,fun v z=>by rw[d]at z;cases z⟩
 keep:=fun i h h' st k=>by obtain⟨o,e,r⟩:=st;exact⟨o,k it (by simp) o e,r⟩
 item:=by intro X hP hw hK hc i pz s σ H E I hf st hg;subst hP hw hK;obtain⟨f0,f1,f2,f3,f4,f5⟩:=hf it (by simp);refine(W X.A (I.ok.hd hc)).item i s _ _ hg st fun v h' tk hv st' kk=>?_;obtain⟨c,u,hc',rfl⟩:=hv;have I1:Inv X pz σ H {s with heap:=h',toks:=tk}:=I.turned (fun b o hb e=>kk b o (by simpa using hb) e) f0 f1 f3 f4 f5;obtain⟨o,e,c1,d⟩:=id st';exact⟨_,rfl,zA (s:={s with heap:=h',toks:=tk}) e c1 d hT ⟨.str ⟨#[c]⟩,H,I1,⟨u,rfl⟩,⟨rfl,c,hc',rfl⟩,st',fun b hb=>(hf b hb).1⟩⟩
 done:=by intro X hP hw hK hc i pz s σ H E I hf st hg;subst hP hw hK;obtain⟨f0,f1,f2,f3,f4,f5⟩:=hf it (by simp);have hg':i=x.cps.size:=hg;subst hg';exact(W X.A (I.ok.hd hc)).done s _ _ st fun h' tk kk=>⟨rfl,I.turned (fun b o hb e=>kk b o (by simpa using hb) e) f0 f1 f3 f4 f5⟩
 self:=fun A i s Q E st h=>hself A i s Q E st h
section
variable {X:Cx} {tg:Zr}
def iStr (tl:TE):TI:=fun σ H R=>tl σ H fun v H1=>∃x,v= .str x/\R (Its x) H1
theorem GU {l:Zr} {tl:TE} (hl:PE X l tl):PI X tg l (iStr tl):=by
 intro pz s σ H R I h;refine thn (hl pz s σ H _ I h) ?_;rintro v s1 ⟨y,H1,I1,r1,q1⟩;obtain⟨x,e,q⟩:=q1;subst e;obtain⟨t,rfl⟩:=r1;have fp:∀b∈[s1.heap.objs.size],yw X pz H1 b:=fun b hb=>by
  have e:b=s1.heap.objs.size:=by simpa using hb
  subst e;exact I1.fpOk (cM _) (I1.hok.fresh (cM _))
 cases ha:x.cps.all (·<128)
 ·refine wpAny_pyIter_wide ha ?_;exact⟨s1.heap.objs.size,[s1.heap.objs.size],_,_,H1,rfl,I1.kept (t':=s1.toks) fun b o e=>fJ _ e,
   yE _ "str_iterator" x t (by decide) (fun A hA=>Walks.strWide hA _ x t) (fun _ _ _ _ _ st h=>wpAny_pyIter_striter_wide st h),⟨_,fH _ rfl,rfl,rfl⟩,fp,q⟩
 ·refine wpAny_pyIter_ascii ha ?_;exact⟨s1.heap.objs.size,[s1.heap.objs.size],_,_,H1,rfl,I1.kept (t':=s1.toks) fun b o e=>fJ _ e,
   yE _ "str_ascii_iterator" x t (by decide) (fun A hA=>Walks.strAscii hA _ x t) (fun _ _ _ _ _ st h=>wpAny_pyIter_striter_ascii st h),⟨_,fH _ rfl,rfl,rfl⟩,fp,q⟩
end
def blk (X:Cx) (N:Zd) (scope:Scope) (cl:List (Str×Zx)) (C:Zx) (s₀:Zy) (H₀:Hp) (ex:List Zx) (pz:Za):Cx:=
 {X with N:=N,s₀:=s₀,H₀:=H₀,env:=compEnvC scope cl C X.env,outer:=X.stack,stack:=X.stack,ex:=ex,fn:=fun _=>false,pn:=X.pn++pz,xe:=fun _ _=>False}
def PTs (X:Cx) (cs:List Zr) (t:TT):Prop:=
 ∀(pz:Za) (s:Zy) (σ:St) (H:Hp) (Q:Bool->Hp->Prop),Inv X pz σ H s->t σ H Q->
  wpAny (model X.prog X.w) X.A (forIn cs true fun c r=>if r=true then do let ok<-isTrue c X.env (eval c X.env);pure (ForInStep.yield ok)else pure (ForInStep.yield r)) (TP X pz σ Q) X.xe s
def uD:TT:=fun _ H Q=>Q true H
theorem mS {X:Cx}:PTs X [] uD:=fun pz s σ H Q I h=>wpAny_pure ⟨H,I,h⟩
theorem A1 {X:Cx} {c:Zr} {t:TT} (h:PT X c t):PTs X [c] t:=fun pz s σ H Q I hw=>wpAny_tests_one (h pz s σ H Q I hw)
structure sM (X:Cx) (N:Zd) (scope:Scope) (cl:List (Str×Zx)) (f:St->St) (i:Nat) (x:Str):Prop where
 kind:scope.kind= .function
 cell:∀y∈scope.names,y.2≠ .cell
 names:∀y∈scope.names,y.2= .local->scope.names.lookup y.1=some .local
 clos:closureFor scope X.env=pure cl
 lk:∀y c,cl.lookup y=some c->X.env.cells.lookup y=some c
 has:∀y,((relabel scope X.env).names.lookup y=some .cell\/(relabel scope X.env).names.lookup y=some .free)->∃c,cl.lookup y=some c
 nd:N.Nodup
 ix:N[i]?=some x
 loc:scope.names.lookup x=some .local
 len:∀σ,σ.length=X.N.length->(f σ).length=N.length
 val:∀(σ:St) (k:Nat) (y:Str) (v:V),N[k]?=some y->(f σ)[k]?=some (some v)->∃j:Nat,X.N[j]?=some y/\σ[j]?=some (some v)/\X.env.scope.names.lookup y=some .cell/\(relabel scope X.env).names.lookup y=some .cell
theorem A2 {X:Cx} {N:Zd} {scope:Scope} {cl:List (Str×Zx)} {f:St->St} {i:Nat} {x:Str} (B:sM X N scope cl f i x) {pz:Za} {σ:St} {H:Hp} {s:Zy} {h₁:Zt} {tk:Nat} {m:Zc} {ex:List Zx}
  (I:Inv X pz σ H s) (hex:∀b∈ex,yw X pz H b/\b<s.heap.objs.size) (keep:∀b o,s.heap.get? b=some o->h₁.get? b=some o) (hn:h₁.Ns s.heap.objs.size m):
  Inv (blk X N scope cl s.heap.objs.size s H ex pz) [] (f σ) H {s with heap:=h₁,toks:=tk}:=by
 have nst:∀b,b≠X.env.locals->b∉X.fs->b∉frs X.stack:=fun b h1 h2 hb=>(ak.mp (I.stkSub b hb)).elim h1 h2;have ltC:∀y c,X.env.cells.lookup y=some c->c<s.heap.objs.size:=fun y c e=>by obtain⟨v,o,ho,_⟩:=I.cell y c e;exact fG ho
 refine⟨⟨I.ok.mod,B.kind,I.ok.glob,I.ok.blt,cM _,fun y z c h1 h2=>I.ok.inj y z c (B.lk y c h1) (B.lk z c h2),fun y hy=>B.has y hy,fun y c h=>(nomatch h),I.ok.hd,I.ok.frames,.inl rfl,fun b hb=>?_,I.bs,cH I.ok.bsz I.sz,fun b o e hb=>?_,fun b hb=>?_,I.stack,I.stkFree⟩,
  rfl,I.bare,Un.kept keep,⟨m,hn,fun k y v e1 e2 e3=>?_⟩,fun y c e=>?_,I.hok.fresh (cM _),fun y c e=>I.freeC y c (B.lk y c e),fun p hp=>?_,I.hok.kept keep,B.len σ I.len⟩;·obtain⟨⟨_,_,_,_,hc,_⟩,lt⟩:=hex b hb;exact⟨cG lt,fun y c e=>hc y c (B.lk y c e)⟩
 ·obtain⟨⟨_,_,_,h4,_,_⟩,_⟩:=hex b hb;rcases h4 with z|z;·exact I.ok.noex b o e z
  ·exact absurd (cE (fG (I.ok.bs b o e).1) z) (cF _)
 ·obtain⟨⟨_,h2,h3,_,_,_⟩,_⟩:=hex b hb;exact nst b h2 h3
 ·obtain⟨j,h1,h2,h3,h4⟩:=B.val σ k y v e1 e2;obtain⟨m',_,hl⟩:=I.loc;obtain⟨u,r,l⟩:=hl j y v h1 h2 (.inr (.inl h3));refine⟨u,r,?_⟩;rcases l with⟨hk,_⟩|⟨_,c,hc,z⟩;·have hk':X.env.scope.names.lookup y=some .local:=hk;rw[h3]at hk';cases hk'
  ·obtain⟨c',hc'⟩:=B.has y (.inl h4);have e:c'=c:=dw.inj ((B.lk y c' hc').symm.trans hc);subst e;obtain⟨o,ho,hd⟩:=z;exact .inr ⟨.inl h4,c',hc',o,keep _ o ho,hd⟩
 ·obtain⟨v,o,ho,hd⟩:=I.cell y c (B.lk y c e);exact⟨v,o,keep _ o ho,hd⟩
 ·rw[aF]at hp;obtain⟨e,n,ne,nf,d⟩:=I.pin p hp;exact⟨keep _ _ e,n,cG (fG e),nst _ ne nf,d⟩
theorem iE {env:Env}:∀{names:List (Str×NameKind)} {x:Str} {k:NameKind},
  (names.map fun(n,k)=>if(k==NameKind.free&&env.scope.kind== .function&&env.kindOf n==some .cell)then(n,NameKind.cell)else(n,k)).lookup x=some k->
  ∃k0,names.lookup x=some k0/\(k=k0\/(k0= .free/\k= .cell))
 |[],_,_,h=>by simp at h
 |(n,k0)::r,x,k,h=>by
  have ih:=@iE env r x k;have h:aC x ((if(k0==NameKind.free&&env.scope.kind== .function&&env.kindOf n==some .cell)=true then(n,NameKind.cell)else(n,k0))::(r.map fun(n,k)=>if(k==NameKind.free&&env.scope.kind== .function&&env.kindOf n==some .cell)then(n,NameKind.cell)else(n,k)))=some k:=h
  cases hx:x==n with
  |true=>
   by_cases hc:(k0==NameKind.free&&env.scope.kind== .function&&env.kindOf n==some .cell)=true
   ·rw[gY hc]at h;simp only[bp,hx]at h⊢;have hf:k0= .free:=by have hc':=hc;simp only[fj]at hc';exact eq_of_beq hc'.1.1
    exact⟨k0,rfl,.inr ⟨hf,(dw.inj h).symm⟩⟩
   ·rw[gJ hc]at h;simp only[bp,hx]at h⊢;exact⟨k0,rfl,.inl (dw.inj h).symm⟩
  |false=>
   have h2:(r.map fun(n,k)=>if(k==NameKind.free&&env.scope.kind== .function&&env.kindOf n==some .cell)then(n,NameKind.cell)else(n,k)).lookup x=some k:=by
    by_cases hc:(k0==NameKind.free&&env.scope.kind== .function&&env.kindOf n==some .cell)=true;·rw[gY hc]at h;simp only[bp,hx]at h;exact h
    ·rw[gJ hc]at h;simp only[bp,hx]at h;exact h
   obtain⟨k1,e1,e2⟩:=ih h2;exact⟨k1,by simp only[bp,hx];exact e1,e2⟩
theorem i8 {env:Env} (hk:env.scope.kind= .function):∀{names:List (Str×NameKind)} {x:Str},env.scope.names.lookup x=some .cell->names.lookup x=some .free->
  (names.map fun(n,k)=>if(k==NameKind.free&&env.scope.kind== .function&&env.kindOf n==some .cell)then(n,NameKind.cell)else(n,k)).lookup x=some .cell
 |[],_,_,h=>by simp at h
 |(n,k0)::r,x,hc,h=>by
  have ih:=@i8 env hk r x hc;show aC x ((if(k0==NameKind.free&&env.scope.kind== .function&&env.kindOf n==some .cell)=true then(n,NameKind.cell)else(n,k0))::_)=_
  cases hx:x==n with
  |true=>
   simp only[bp,hx]at h;cases h;have e:x=n:=eq_of_beq hx;have hc':env.kindOf n=some .cell:=by rw[<-e];exact hc
   simp[bp,hx,hk,hc']
  |false=>
   simp only[bp,hx]at h;by_cases hq:(k0==NameKind.free&&env.scope.kind== .function&&env.kindOf n==some .cell)=true;·rw[gY hq];simp only[bp,hx];exact ih h
   ·rw[gJ hq];simp only[bp,hx];exact ih h
theorem ES {X:Cx} {scope:Scope} {x:Str} (hk:scope.kind= .function) (hn:∀p∈scope.names,p.2≠ .cell/\p.2≠ .free) (hl:∀y∈scope.names,y.2= .local->scope.names.lookup y.1=some .local)
  (hx:scope.names.lookup x=some .local) (hc:closureFor scope X.env=pure []):sM X [x] scope [] (fun _=>[none]) 0 x where
 kind:=hk
 cell:=fun y hy=>(hn y hy).1
 names:=hl
 clos:=hc
 lk:=fun y c h=>by simp at h
 has:=fun y h=>by
  rcases h with h|h
  ·obtain⟨k0,e,z⟩:=iE h;have m:=hn _ (PySem.mem_of_lookup e);rcases z with z|⟨z,_⟩;·exact absurd z.symm m.1
   ·exact absurd z m.2
  ·obtain⟨k0,e,z⟩:=iE h;have m:=hn _ (PySem.mem_of_lookup e);rcases z with z|⟨z,_⟩;·exact absurd z.symm m.2
   ·exact absurd z m.2
 nd:=by simp
 ix:=rfl
 loc:=hx
 len:=fun _ _=>rfl
 val:=fun σ k y v h1 h2=>by
  cases k with
  |zero=>simp at h2
  |succ k=>simp at h2
theorem blk1 {X:Cx} {scope:Scope} {x y:Str} {j:Nat} {c0:Zx} (hk:scope.kind= .function) (hn:∀p∈scope.names,p.2≠ .cell/\(p.2= .free->p.1=y)) (hl:∀y∈scope.names,y.2= .local->scope.names.lookup y.1=some .local)
  (hx:scope.names.lookup x=some .local) (hy:scope.names.lookup y=some .free) (hc:closureFor scope X.env=pure [(y,c0)]) (hc0:X.env.cells.lookup y=some c0) (hok:X.env.scope.kind= .function) (hyo:X.env.scope.names.lookup y=some .cell)
  (hj:X.N[j]?=some y):sM X [x,y] scope [(y,c0)] (fun σ=>[none,σ.getD j none]) 0 x where
 kind:=hk
 cell:=fun y hy=>(hn y hy).1
 names:=hl
 clos:=hc
 lk:=fun z c h=>by
  cases e:z==y with
  |true=>simp only[bp,e]at h;have ez:z=y:=eq_of_beq e;rw[ez,hc0];exact h
  |false=>simp only[bp,e,List.lookup_nil]at h;cases h
 has:=fun z h=>by
  have ez:z=y:=by
   rcases h with h|h
   ·obtain⟨k0,e,q⟩:=iE h;have m:=hn _ (PySem.mem_of_lookup e);rcases q with q|⟨q,_⟩;·exact absurd q.symm m.1
    ·exact m.2 q
   ·obtain⟨k0,e,q⟩:=iE h;have m:=hn _ (PySem.mem_of_lookup e);rcases q with q|⟨q,_⟩;·exact m.2 q.symm
    ·exact m.2 q
  exact⟨c0,by rw[ez];simp[bp]⟩
 nd:=by
  have e:x≠y:=fun e=>by rw[e,hy]at hx;cases hx
  simp[e]
 ix:=rfl
 loc:=hx
 len:=fun _ _=>rfl
 val:=fun σ k z v h1 h2=>by
  cases k with
  |zero=>simp at h2
  |succ k=>
   cases k with
   |zero=>
    have ez:z=y:=by simpa using h1.symm
    subst ez;have e:σ.getD j none=some v:=by simpa using h2
    rw[bq]at e;refine⟨j,hj,?_,hyo,i8 hok hyo hy⟩
    cases q:σ[j]? with
    |none=>rw[q]at e;cases e
    |some o=>rw[q]at e;exact congrArg some e
   |succ k=>simp at h2
def LcP (J:It) (i:Nat) (tt:TT) (te:TE) (Q:VK) (τ:St) (H1:Hp) (D:Zx):Prop:=
 ∃W:Nat->Nat->St->Hp->Prop,(∃m,W 0 m τ (upd H1 D (.lst [])))/\∀k m σ' H2,W k m σ' H2->
  (J.stop k H2/\Q (.ref D) H2)\/(J.go k H2/\∀v H3,J.yld k H2 v H3->tt (σ'.set i (some v)) H3 fun ok H4=>if ok=true
   then te (σ'.set i (some v)) H4 fun y H5=>∃xs,H5 D=some (.lst xs)/\xs.length<sizeLine/\∃m',m'<m/\W (k+ 1) m' (σ'.set i (some v)) (upd H5 D (.lst (xs++[y])))
   else ∃m',m'<m/\W (k+ 1) m' (σ'.set i (some v)) H4)
def tLC (wi:TI) (f:St->St) (i:Nat) (tt:TT) (te:TE):TE:=fun σ H Q=>wi σ H fun J H1=>∀D,H1 D=none->LcP J i tt te Q (f σ) H1 D
theorem ET {X:Cx} {elt iter:Zr} {x:Str} {px:Pos} {ifs:List Zr} {scope:Scope} {pos pos':Pos} {N:Zd} {cl:List (Str×Zx)} {f:St->St} {i:Nat} {wi:TI} {tt:TT} {te:TE} {use:Option (Zz->Sem Unit)} {Qp:Zb}
  {pz:Za} {s:Zy} {σ:St} {H:Hp} {Q:VK}
  (hc:X.calm=true) (B:sM X N scope cl f i x) (hi:PI X (.Name x px) iter wi)
  (htt:∀C s₀ H₀ ex pz,PTs (blk X N scope cl C s₀ H₀ ex pz) ifs tt) (hte:∀C s₀ H₀ ex pz,PE (blk X N scope cl C s₀ H₀ ex pz) elt te)
  (hs:∀x,foldedSetIterable iter X.env x=pure x) (I:Inv X pz σ H s) (h:tLC wi f i tt te σ H Q)
  (fin:∀(fl:Flow) (s3 s6:Zy) (H3 H5:Hp) (d:Zx) (m:Zc),Inv X pz σ H3 s3->Inv X pz σ H5 s6->H5 s3.heap.objs.size=none->s6.heap.Ns s3.heap.objs.size m->Q (.ref d) H5->
   compPost (model X.prog X.w) X.A X.xe use Qp (.ref d) s3.heap.objs.size (.ok fl) s6):
  wpAny (model X.prog X.w) X.A (comprehension (.ListComp elt [⟨.Name x px,iter,ifs,0⟩] scope pos) scope X.env pos' (newList []) false (eval iter X.env) use) Qp X.xe s:=by
 refine wpAny_comprehension_free (use:=use) rfl hs B.clos B.kind B.names (thn (hi pz s σ H _ I h) fun xv s1 h1=>thn h1 fun itv s2 h2=>?_);obtain⟨it,fp,tn,J,H2,rfl,I2,T,st2,f2,q⟩:=h2;have hD:H2 s2.heap.objs.size=none:=I2.fresh;obtain⟨W,⟨m0,w0⟩,turn⟩:=q _ hD;refine wpAny_newObj_type (wpAny_newFunctionEnv B.cell (by intro y hy;simp at hy) (fun h₁ hns₁ hsb₁=>?_) B.kind);have I3:Inv X pz σ (upd H2 s2.heap.objs.size (.lst [])) {s2 with heap:=s2.heap.push {cls:= .type "list",data:= .seq ([]:List Zz).toArray}}:=I2.lnew (its:=[]) (ys:=[]) (t':=s2.toks) .nil (cO _);have lt2:∀b∈fp,b<s2.heap.objs.size:=fun b hb=>by obtain⟨o,ho,_⟩:=T.obj _ _ st2 b hb;exact fG ho
 have fp3:∀b∈fp,yw X pz (upd H2 s2.heap.objs.size (.lst [])) b:=fun b hb=>by refine⟨?_,(f2 b hb).2⟩;rw[gr (cG (lt2 b hb))];exact(f2 b hb).1
 generalize hs3:({s2 with heap:=s2.heap.push {cls:= .type "list",data:= .seq ([]:List Zz).toArray}}:Zy)=s3 at I3 hns₁ hsb₁⊢;have eh:s2.heap.push {cls:= .type "list",data:= .seq ([]:List Zz).toArray}=s3.heap:=by rw[<-hs3]
 have lt3:∀b∈fp,b<s3.heap.objs.size:=fun b hb=>by rw[<-eh,fK];exact cU (lt2 b hb)
 have old:∀b o,s3.heap.get? b=some o->h₁.get? b=some o:=fun b o e=>hsb₁.extBut b o (cG (fG e)) (fJ _ e);have I4:=A2 (tk:=s3.toks+([]:List (Str×Zz)).length) B I3 (ex:=fp) (fun b hb=>⟨fp3 b hb,lt3 b hb⟩) old hns₁;have st4:tn 0 h₁:=T.keep _ _ _ st2 fun b _ o e=>old b o (by rw[<-eh];exact fJ _ e);have fpB:∀{H':Hp},(∀b∈fp,H' b=none)->∀b∈fp,yw (blk X N scope cl s3.heap.objs.size s3 (upd H2 s2.heap.objs.size (.lst [])) fp pz) [] H' b:=fun{H'} hn b hb=>by obtain⟨_,g2,g3,g4,g5,g6⟩:=f2 b hb;refine⟨hn b hb,cG (lt3 b hb),fun z=>(ak.mp (I3.stkSub b z)).elim g2 g3,.inl hb,fun y c e=>g5 y c (B.lk y c e),fun p hp=>?_⟩;rw[aF]at hp;exact g6 p hp
 have loop:∀s4:Zy,s4={s3 with heap:=h₁,toks:=s3.toks+([]:List (Str×Zz)).length}->
   codeAny (model X.prog X.w) X.A (.compLoop (.ListComp elt [⟨.Name x px,iter,ifs,0⟩] scope pos) 0 (.ref it) (.ref s2.heap.objs.size) (compEnvC scope cl s3.heap.objs.size X.env))
    (compPost (model X.prog X.w) X.A X.xe use Qp (.ref s2.heap.objs.size) s3.heap.objs.size) s4:=by
  rintro s4 rfl;refine codeAny_compLoop_tests (I:=fun n s'=>∃k σ' H',Inv (blk X N scope cl s3.heap.objs.size s3 (upd H2 s2.heap.objs.size (.lst [])) fp pz) [] σ' H' s'/\tn k s'.heap/\(∀b∈fp,H' b=none)/\W k n σ' H') ?_ m0
   ⟨0,f σ,_,I4,st4,fun b hb=>(fp3 b hb).1,w0⟩;rintro n s5 ⟨k,σ5,H5,I5,st5,fr5,w5⟩;rcases turn k n σ5 H5 w5 with⟨stop,qn⟩|⟨go,step⟩
  ·refine wpAny_mono (T.done (blk X N scope cl s3.heap.objs.size s3 (upd H2 s2.heap.objs.size (.lst [])) fp pz) rfl rfl rfl hc k [] s5 σ5 H5 _ I5 (fpB fr5) st5 stop) (fun r s6 h6=>?_) fun _ _ z=>z;obtain⟨hr,I6⟩:=h6;subst hr;obtain⟨m6,hn6,_⟩:=id I6.loc;have I7:Inv X pz σ H5 s6:=I3.call' (s':=s6) (ch:=fp) I6.os I6.base I6.hok I6.bare fun b hb=>by obtain⟨_,g2,g3,g4,g5,g6⟩:=f2 b hb;exact⟨g4,g2,g5,g6⟩
   exact fin _ s3 s6 _ H5 _ m6 I3 I7 I6.free hn6 qn
  ·refine wpAny_mono (T.item (blk X N scope cl s3.heap.objs.size s3 (upd H2 s2.heap.objs.size (.lst [])) fp pz) rfl rfl rfl hc k [] s5 σ5 H5 _ I5 (fpB fr5) st5 go) (fun r s6 h6=>?_) fun _ _ z=>z;obtain⟨u,hr,h6⟩:=h6;subst hr;show wpAny _ _ (pure () >>= fun _=>assign (.Name x px) (compEnvC scope cl s3.heap.objs.size X.env) u) _ _ s6;refine wpAny_bind (wpAny_mono (show wpAny _ _ (pure ()) _ _ s6 from h6) (fun _ s7 h7=>?_) fun _ _ z=>z);obtain⟨v,H7,I7,r7,y7,st7,fr7⟩:=h7;have I7':=I7.pinned (fpB fr7) (T.obj _ _ st7);refine wpAny_assign_Name (qW (X:=blk X N scope cl s3.heap.objs.size s3 (upd H2 s2.heap.objs.size (.lst [])) fp pz) I7' B.nd B.ix (.inl (lookup_relabel_local B.loc)) r7 (fun s8 I8=>?_) (.inr (lookup_relabel_local B.loc)));have back:∀{σ9:St} {H9:Hp} {s9:Zy},Inv (blk X N scope cl s3.heap.objs.size s3 (upd H2 s2.heap.objs.size (.lst [])) fp pz) ([]++tO fp s7.heap) σ9 H9 s9->(∃m',m'<n/\W (k+ 1) m' σ9 H9)->
     ∃m',m'<n/\∃k σ' H',Inv (blk X N scope cl s3.heap.objs.size s3 (upd H2 s2.heap.objs.size (.lst [])) fp pz) [] σ' H' s9/\tn k s9.heap/\(∀b∈fp,H' b=none)/\W k m' σ' H':=fun{σ9 H9 s9} I9 q9=>by obtain⟨m',hm,w9⟩:=q9;refine⟨m',hm,k+ 1,σ9,H9,I9.unpinned,T.keep _ _ _ st7 fun b hb o e=>(I9.pin (b,o) (aA _ (aA _ (kR hb e)))).1,fun b hb=>?_,w9⟩;obtain⟨o,e,d⟩:=T.obj _ _ st7 b hb;exact(I9.pin (b,o) (aA _ (aA _ (kR hb e)))).2.1
   refine wpAny_mono (htt _ _ _ _ _ _ s8 _ H7 _ I8 (step v H7 y7)) (fun ok s9 h9=>?_) fun _ _ z=>False.elim z;obtain⟨H9,I9,q9⟩:=h9
   cases ok with
   |false=>rw[gJ fg];rw[gJ fg]at q9;exact back I9 q9
   |true=>rw[gY rfl];rw[gY rfl]at q9;refine wpAny_mono (hte _ _ _ _ _ _ s9 _ H9 _ I9 q9) (fun y s10 h10=>?_) fun _ _ z=>False.elim z;obtain⟨v10,H10,I10,r10,xs,hx10,hz,q10⟩:=h10;refine wpAny_mono (gS (X:=blk X N scope cl s3.heap.objs.size s3 (upd H2 s2.heap.objs.size (.lst [])) fp pz) _ s10 _ H10 (.ref s2.heap.objs.size) [v10] _ [y] (fun _ H11=>H11=upd H10 s2.heap.objs.size (.lst (xs++[v10]))) I10 rfl (.cons r10 .nil) ⟨_,xs,v10,rfl,rfl,hx10,hz,rfl⟩) (fun _ s11 h11=>?_) fun _ _ z=>False.elim z;obtain⟨_,H11,I11,_,e11⟩:=h11;subst e11;exact back I11 q10
 exact codeAny_compStart_list (loop _ rfl) (T.self _ 0 _ _ _ st4 (loop _ rfl))
theorem sN {X:Cx} {elt iter:Zr} {x:Str} {px:Pos} {ifs:List Zr} {scope:Scope} {pos:Pos} {N:Zd} {cl:List (Str×Zx)} {f:St->St} {i:Nat} {wi:TI} {tt:TT} {te:TE}
  (hc:X.calm=true) (B:sM X N scope cl f i x) (hi:PI X (.Name x px) iter wi)
  (htt:∀C s₀ H₀ ex pz,PTs (blk X N scope cl C s₀ H₀ ex pz) ifs tt) (hte:∀C s₀ H₀ ex pz,PE (blk X N scope cl C s₀ H₀ ex pz) elt te)
  (hs:autoParam (∀x,foldedSetIterable iter X.env x=pure x) auI._auto_1):PE X (.ListComp elt [⟨.Name x px,iter,ifs,0⟩] scope pos) (tLC wi f i tt te):=by intro pz s σ H Q I h;rw[eval_ListComp];refine ET hc B hi htt hte hs I h fun fl s3 s6 H3 H5 d m I3 I7 fr hn qn=>?_;refine⟨m,hn,fun h' sb=>⟨.ref d,H5,?_,rfl,qn⟩⟩;exact Inv.turned (h':=h') (t':=s6.toks) (it:=s3.heap.objs.size) I7 (fun b o hb e=>(sb.2 b hb).trans e) fr (cK I3.lt) (.inr I3.sz) (fun z c e q=>by obtain⟨v,q2⟩:=I3.cell z c e;exact absurd (q▸q2.lt) (cF _)) fun p hp q=>absurd (q▸fG (I3.pin p hp).1) (cF _)
theorem GV {J:It} {xs:List V} {i:Nat} {tt:TT} {te:TE} {Q:VK} {τ:St} {H1:Hp} {D:Zx} (p:V->Bool) (g:V->V) (hD:H1 D=none) (hz:xs.length<=sizeLine) (hτ:τ.set i none=τ)
  (hgo:∀k H,gB H1 H->k<xs.length->J.go k H) (hy:∀k H v H',gB H1 H->J.yld k H v H'->H'=H/\xs[k]?=some v) (hst:∀H,gB H1 H->J.stop xs.length H)
  (htt:∀(k:Nat) v H R,xs[k]?=some v->gB H1 H->R (p v) H->tt (τ.set i (some v)) H R)
  (hte:∀(k:Nat) v H R,xs[k]?=some v->p v=true->gB H1 H->R (g v) H->te (τ.set i (some v)) H R)
  (hq:∀H',gB H1 H'->H' D=some (.lst ((xs.filter p).map g))->Q (.ref D) H'):LcP J i tt te Q τ H1 D:=by
 have sm:∀o,gB H1 (upd H1 D o):=fun o b u e=>by rw[gr (gm e hD)];exact e
 refine⟨fun k m σ' H2=>m=xs.length-k/\k<=xs.length/\(∃o,σ'=τ.set i o)/\H2=upd H1 D (.lst (((xs.take k).filter p).map g)),⟨xs.length,by simp,cO _,⟨none,hτ.symm⟩,by simp⟩,?_⟩;rintro k m σ' H2 ⟨rfl,hk,⟨o,rfl⟩,rfl⟩;by_cases hlt:k<xs.length
 ·refine .inr ⟨hgo k _ (sm _) hlt,fun v H3 y=>?_⟩;obtain⟨e,hv⟩:=hy k _ v H3 (sm _) y;subst e;rw[br];refine htt k v _ _ hv (sm _) ?_;have tk:(xs.take (k+ 1)).filter p=(xs.take k).filter p++(if p v then[v]else[]):=take_succ_filter p xs k v hv;have ll:((xs.take k).filter p).length<=k:=by refine cH (bu _ _) ?_;rw[aK];lia
  cases hp:p v with
  |true=>rw[gY rfl];refine hte k v _ _ hv hp (sm _) ?_;refine⟨_,fY,by rw[aE];lia,xs.length-(k+ 1),by lia,rfl,hlt,⟨some v,rfl⟩,?_⟩;rw[Ak,tk,hp,gY rfl,bo];rfl
  |false=>rw[gJ fg];refine⟨xs.length-(k+ 1),by lia,rfl,hlt,⟨some v,rfl⟩,?_⟩;rw[tk,hp,gJ fg,aF]
 ·have e:k=xs.length:=by lia
  subst e;refine .inl ⟨hst _ (sm _),hq _ (sm _) ?_⟩;rw[fY,bw]
section
variable {X:Cx}
theorem CT {bs:List Bool}:∀{us:List Zz},iX (bs.map V.bl) us->us=bs.map Value.bool:=by
 induction bs with
 |nil=>intro us r;rw[aW]at r;cases r;rfl
 |cons n ns ih=>
  intro us r;rw[aD]at r
  cases r with
  |cons r1 r2=>cases(show _=Value.bool n from r1);rw[ih r2];rfl
theorem zN (bs:List Bool):((aa bs.length).all fun i=>(bs[i]?).getD true)=bs.all id:=by
 induction bs with
 |nil=>rfl
 |cons b r ih=>rw[aB,bx,ba,bz,ba,<-ih];rfl
theorem zO {h h':Zt} {o:Obj} (hk:∀b x,b∉[h.objs.size]->(h.push o).get? b=some x->h'.get? b=some x):∀b x,h.get? b=some x->h'.get? b=some x:=
 fun b x e=>hk b x (fun hm=>by rw[bj.mp hm]at e;exact cF _ (fG e)) (fJ _ e)
theorem yF (hc:X.calm=true):n9 X (.builtin "all") (fun xs H Q=>∃(a:Zx) (bs:List Bool),xs=[.ref a]/\SqL X.K H a (bs.map V.bl)/\Q (.bl (bs.all id)) H):=by
 intro pz s σ H xs us Q I r h;obtain⟨a,bs,rfl,ha,q⟩:=h;obtain⟨u,rfl,ru⟩:=mL r;cases ru;obtain⟨its,rv,pl,hz⟩:=I.list ha;have ei:=CT rv;subst ei;have hl:s.heap.IsList a (bs.map Value.bool).toArray:=pl.isList;have hlt:a<s.heap.objs.size:=by obtain⟨_,e,_⟩:=hl;exact fG e
 refine call_all_walk (wpAny_pyIter_list hl ?_);refine⟨s.heap.objs.size,[s.heap.objs.size,a],[s.heap.objs.size],(bs.map Value.bool).toArray.size,_,_,fun i=>(bs[i]?).getD true,rfl,Walks.list (A:=X.A.in1) (I.ok.hd hc) _ a (cG hlt) (bs.map Value.bool).toArray,
  ⟨⟨_,fH _ rfl,rfl,rfl⟩,hl.push _⟩,fun i v s' Q' E' hP hQ=>?_,fun h' tk hk=>?_⟩
 ·have hv:(bs.map Value.bool)[i]?=some v:=by simpa using hP
  rw[aO]at hv
  cases e:bs[i]? with
  |none=>rw[e]at hv;cases hv
  |some b=>rw[e]at hv;have e2:v=Value.bool b:=(dw.inj hv).symm;subst e2;simp only[e,Option.getD_some]at hQ;exact wpAny_truthy_bool hQ
 ·have e:((aa (bs.map Value.bool).toArray.size).all fun i=>(bs[i]?).getD true)=bs.all id:=by rw[aX,aE];exact zN bs
  rw[e];exact⟨.bl (bs.all id),H,I.kept (zO hk),rfl,q⟩
def rSlS:V->Option Int->Option Int->Hp->VK->Prop:=fun x lo hi H Q=>∃z,x= .str z/\z.length<=sizeLine/\Q (.str (Txt.slice z lo hi)) H
theorem DU:SlR X rSlS:=by
 intro pz s σ H x v vl vu lo hi sl Q I rx hs pl pu h;obtain⟨z,rfl,hz,q⟩:=h;obtain⟨t,rfl⟩:=rx;refine⟨"str",_,F.slot_str_getitem.lookup,typeIs_str _ _ _,?_⟩;have fin:∀t' k,EP X pz σ Q (.str (Txt.slice z lo hi) t') {s with toks:=k}:=fun t' k=>⟨.str _,H,I.tok k,⟨t',rfl⟩,q⟩
 cases pl with
 |none=>
  cases pu with
  |none=>exact wpAny_getItem_str_slice (l:=none) (u:=none) (st:=none) hs rfl (post_val_or_str ⟨cH (Txt.slice_le z _ _) hz,fun t' k=>fin t' k⟩)
  |int j u=>exact wpAny_getItem_str_slice (l:=none) (u:=some (j,u)) (st:=none) hs rfl (post_val_or_str ⟨cH (Txt.slice_le z _ _) hz,fun t' k=>fin t' k⟩)
 |int i u'=>
  cases pu with
  |none=>exact wpAny_getItem_str_slice (l:=some (i,u')) (u:=none) (st:=none) hs rfl (post_val_or_str ⟨cH (Txt.slice_le z _ _) hz,fun t' k=>fin t' k⟩)
  |int j u=>exact wpAny_getItem_str_slice (l:=some (i,u')) (u:=some (j,u)) (st:=none) hs rfl (post_val_or_str ⟨cH (Txt.slice_le z _ _) hz,fun t' k=>fin t' k⟩)
theorem kP:n9 X (.builtin "isinstance") (fun xs H Q=>∃x v c t b,xs=[x,v]/\(∀u,iY v u->u=c)/\xq X.K H x t/\dY X.K t c=some b/\Q (.bl b) H):=by intro pz s σ H xs us Q I r h;obtain⟨x,v,c,t,b,rfl,hc,ht,hk,q⟩:=h;obtain⟨u,u',rfl,ru,ru'⟩:=CG r;cases hc u' ru';exact AE I ru ht hk fun tk=>⟨.bl b,H,I.tok tk,rfl,q⟩
end
section
variable {X:Cx}
open Builtin Builtin.Str in
theorem GW {prog:Zu} {w:Zv} {A:Zw} {E:Zb} {s:Zy} {x y:Str} {t u:Tok} {Q:Zb} (hy:(y.length==0)=false)
  (h:∀l k,l.map (·.1)=Txt.split x y->Q (.ref s.heap.objs.size) {s with heap:=s.heap.push {cls:= .type "list",data:= .seq (strValues l).toArray},toks:=k}) (hsz:x.length+ 2<=sizeLine):
  wpAny (model prog w) A (call (.builtin "str.split") [.str x t,.str y u]) Q E s:=by
 have hn:(partsBetween x (occurrences x y 0 x.length (x.length+ 1)) y.length).length<=sizeLine:=by have e1:=StrLaws.occ_length_le x y 0 x.length (x.length+ 1);rw[length_partsBetween];lia
 cases h1:(decide (x.length<y.length)||decide (strKind x<strKind y))
 ·cases hf:(occurrences x y 0 x.length (x.length+ 1)).isEmpty;·refine call_meets F.slot_str_split (typeIs_str _ _ _) F.entry_str_split (F.args_str_split_2 _ _) (meets_str_split_sep x y t u h1 hy hf (by lia) hn) ?_;show wants Q E _ {s with toks:=_,heap:=s.heap.push {cls:= .type "list",data:= .seq (strsFrom s.toks (partsBetween x (occurrences x y 0 x.length (x.length+ 1)) y.length)).toArray}};rw[strsFrom_eq];exact h (numbered s.toks _) _ ((numbered_texts _ _).trans ((gJ (ne_true_of_eq_false h1)).trans (gJ (ne_true_of_eq_false hf))).symm)
  ·exact call_meets F.slot_str_split (typeIs_str _ _ _) F.entry_str_split (F.args_str_split_2 _ _) (meets_str_split_not_found x y t u h1 hy hf)
    (h [(x,t)] s.toks ((gJ (ne_true_of_eq_false h1)).trans (gY hf)).symm)
 ·exact call_meets F.slot_str_split (typeIs_str _ _ _) F.entry_str_split (F.args_str_split_2 _ _) (meets_str_split_cannot_occur x y t u h1)
   (h [(x,t)] s.toks (gY h1).symm)
theorem vY:∀l:List (Str×Tok),iX ((l.map (·.1)).map V.str) (strValues l)
 |[]=> .nil
 |p::r=> .cons ⟨p.2,rfl⟩ (vY r)
theorem rQ (x y:Str):(Txt.split x y).length<=x.length+ 2:=by
 unfold Txt.split;split;·show 1<=_;lia
 ·split;·show 1<=_;lia
  ·have e1:=StrLaws.occ_length_le x y 0 x.length (x.length+ 1);rw[length_partsBetween];lia
def GX:V->List V->Hp->VK->Prop:=fun x xs H Q=>∃z y,x= .str z/\xs=[.str y]/\(y.length==0)=false/\z.length+ 2<=sizeLine/\∀l,H l=none->Q (.ref l) (upd H l (.lst ((Txt.split z y).map V.str)))
theorem CU:MtR X "str.split" GX:=by intro pz s σ H x xs v us Q I rx rs h;obtain⟨z,y,rfl,rfl,hy,hz,q⟩:=h;obtain⟨t,rfl⟩:=rx;obtain⟨u,rfl,ru⟩:=mL rs;obtain⟨t',rfl⟩:=ru;refine GW hy (fun l k hl=>?_) hz;have hv:=vY l;rw[hl]at hv;exact⟨.ref s.heap.objs.size,_,I.lnew hv (by rw[aE];exact cH (rQ z y) hz),rfl,q _ I.fresh⟩
def PE1 (X:Cx) (e:Zr) (t:TE):Prop:=
 ∀(pz:Za) (s:Zy) (σ:St) (H:Hp) (Q:VK),Inv X pz σ H s->1<=s.toks->t σ H Q->wpAny (model X.prog X.w) X.A (eval e X.env) (fun u s'=>1<=s'.toks/\EP X pz σ Q u s') X.xe s
theorem PE.one {e:Zr} {t:TE} (h:PE X e t):PE1 X e t:=fun pz s σ H Q I ht hw=>wpAny_mono (wpAny_toks_of ht (h pz s σ H Q I hw)) (fun _ _ z=>z) fun _ _ z=>z.2
def Jb (to:TE) (y z:Str):TE:=fun σ H Q=>to σ H fun v H1=>∃x,v= .str x/\x.length+(x.length+ 1)*z.length<=16777216/\Q (.str (Txt.replace x y z)) H1
theorem uE {o:Zr} {to:TE} {y z:Str} {k1 k2 p1 p2 apos cpos} (ho:PE1 X o to) (hyz:(y==z)=false)
  (hbase:autoParam (attributeBase o "replace" X.env (eval o X.env)=eval o X.env) auR._auto_1)
  (hfew:((backTo cpos (starEach [.Constant (.str y) k1 p1,.Constant (.str z) k2 p2] X.env)).all (fun x=>!x.1)&&(backToKw cpos (keywordEach [] X.env)).all (fun x=>x.1.isSome)
   &&decide (([.Constant (.str y) k1 p1,.Constant (.str z) k2 p2]:List Zr).length+([]:List Keyword).length+(if([]:List Keyword).isEmpty then 0 else 1)<30))=true:=by rfl)
  (hline:autoParam ((apos.endLine==cpos.line)=true) auR._auto_1):PE1 X (.Call (.Attribute o "replace" apos) [.Constant (.str y) k1 p1,.Constant (.str z) k2 p2] [] cpos) (Jb to y z):=by intro pz s σ H Q I ht h;refine wpAny_Call_method_late hbase hfew hline rfl (thn (ho pz s σ H _ I ht h) fun v s1 q1=>?_);obtain⟨ht1,v1,H1,I1,r1,x,rfl,hb,q⟩:=q1;obtain⟨t,rfl⟩:=r1;refine⟨"str","str.replace",F.plainAttrs_str,F.slot_str_replace,F.type_str_replace,typeIs_str _ _ _,(fun _ e=>nomatch e),?_⟩;refine Calls.callWith_builtin rfl (Calls.evalArgs_plain ?_);show wpAny _ _ (spliced ((false,eval (.Constant (.str y) k1 p1) X.env)::backTo cpos (starEach [.Constant (.str z) k2 p2] X.env))) _ _ s1;refine Calls.spliced_cons (Calls.Constant_str ?_);show wpAny _ _ (spliced ((false,eval (.Constant (.str z) k2 p2) X.env)::backTo cpos (starEach [] X.env))) _ _ _;refine Calls.spliced_cons (Calls.Constant_str (Calls.spliced_nil ?_));refine wpAny_mono (wpAny_toks_of (n:=1) (by show 1<=s1.toks+ 1+ 1;lia) (SC.replace (Q:=EP X pz σ Q) (E:=X.xe) (u:=s1.toks) (v:=s1.toks+ 1) (Nat.pos_iff_ne_zero.mp ht1) (cW _) (cG (cP _)) hyz hb fun t' k=>⟨.str _,H1,?_,⟨t',rfl⟩,q⟩)) (fun _ _ z=>z) fun _ _ z=>z.2;exact I1.tok k
def Gg (X:Cx) (st:List Zq) (t:TS):Prop:=
 ∀(pz:Za) (s:Zy) (σ:St) (H:Hp) (D:rA),Inv X pz σ H s->1<=s.toks->t D σ H->wpAny (model X.prog X.w) X.A (execs st X.env) (SP X pz D) X.xe s
theorem CV {i:Nat} {x:Str} {e:Zr} {te:TE} {pos pos':Pos} {rest:List Zq} {u:TS} (hN:X.N.Nodup) (hi:X.N[i]?=some x) (hx:Loc X.env.scope x) (he:PE1 X e te) (hr:PSs X rest u)
  (hs:autoParam (swapsWith e (some (.Name x pos')) pos.line X.env=pure false) auR._auto_1) (hf:autoParam (X.fn x=true\/X.env.scope.names.lookup x=some .local) auL._auto_1):
  Gg X (.Assign [.Name x pos'] e pos::rest) (Cv (Iq te (hJ i)) u):=by intro pz s σ H D I ht h;refine wpAny_execs_cons (wpAny_Assign_Name (thn (he pz s σ H _ I ht h) fun v s1 q1=>?_) hs);obtain⟨_,y,H1,I1,r1,q⟩:=q1;exact qW I1 hN hi hx r1 (fun s2 I2=>hr pz s2 _ H1 D I2 q) hf
theorem Gg.nox {st:List Zq} {t:TS} (h:Gg X.nox st t):Gg X st t:=fun pz s σ H D I ht hw=>
 wpAny_mono (h pz s σ H D (I.wish _) ht hw) (fun _ _ q=>q.unwish) fun _ _ z=>False.elim z
end
theorem GY {CX:CXT} {P:Zu} {w:Zv} {K:Zp} {mg:Zc} {base:Zt} {k:Nat} {f:Zx} {name qual p:Str} {params:Arguments} {body:List Zq} {scope:Scope} {dV kV doc pm cdv ct oc:Zz} {an od:Option Zx}
  {osl:Array (Option Zz)} {N:Zd} {sp:Sp} (lk:K.lookup f=some ⟨oc,od,.func (eE name qual params body scope dV kV doc pm an cdv ct),osl⟩) (hcd:eF K cdv qual=true) (S:gy N [p] scope)
  (nc:∀x∈scope.names,x.2≠ .cell) (nc2:∀n,cellsFrom n scope.names []=[]) (len:∀vs H Q E,sp vs H Q E->vs.length=1)
  (hbody:∀(A:Zw) (outer:List Env) (s:Zy) (H:Hp) (vs:List V) (Q:VK) (E:XK),mO k (A.deeper (envOfC qual scope s.heap.objs.size f cdv))->sp vs H Q E->
   ∃t,Gg (wZ CX P w K mg base N qual scope f cdv A outer s H E) body t/\t {nx:=fun _ H'=>Q .non H',rt:=Q} (pT N vs) H):
  rK P w K mg base CX (k+ 1) f (eE name qual params body scope dV kV doc pm an cdv ct) [p] sp:=by
 refine⟨len,fun A outer s H args us vs Q E hr e0 hb r hsp=>?_⟩;have hl:=len _ _ _ _ hsp;have hul:us.length=1:=by rw[<-r.length];exact hl
 obtain⟨u,rfl⟩:=List.length_eq_one_iff.mp hul;have KX:K.In s.heap:=e0.mod.kin.keeps fun b o e=>(e0.bs b o e).1;have lim:s.heap.NoLimit:=e0.mod.nolimit.keeps fun b o e=>(e0.bs b o e).1;have hpl:scope.names.lookup p=some .local:=by
  rcases S.par p (by simp)with q|q;·exact q
  ·exact absurd rfl (nc _ (PySem.mem_of_lookup q))
 refine codeAny_call_function hr.depth (KX _ _ lk) rfl S.co S.gen rfl (eG KX hcd) (hb _ _ _ _ ?_);refine wpAny_newFunctionEnv nc (fun x hx=>?_) (fun h' hn hs=>?_) S.kind
 ·have e:x=(p,u):=by simpa using hx
  rw[e];exact hpl
 have keep:∀b o,s.heap.get? b=some o->h'.get? b=some o:=fun b o e=>hs.extBut b o (cG (fG e)) (fJ _ e);refine⟨lim.keeps keep,codeAny_func ?_⟩;obtain⟨t,ht,hq⟩:=hbody A outer s H vs Q E (hr.deeper _) hsp;have em:(fun x=>(bA [p] [u]).reverse.lookup x)=bindL (envOfC qual scope s.heap.objs.size f cdv).kindOf (bA [p] [u]) fun _=>none:=by
  funext x;show(match x==p with|true=>some u|false=>none)=(if(envOfC qual scope s.heap.objs.size f cdv).kindOf p=some .local then fun y=>if y=p then some u else none else fun _=>none) x;rw[gY (show(envOfC qual scope s.heap.objs.size f cdv).kindOf p=some .local from hpl)]
  cases e:x==p with
  |true=>rw[gY (eq_of_beq e)]
  |false=>rw[gJ (ne_of_beq_false e)]
 have x:InCallC s s.heap.objs.size (bindL (envOfC qual scope s.heap.objs.size f cdv).kindOf (bA [p] [u]) fun _=>none) (cellsFrom (s.heap.objs.size+ 1) scope.names []) (bindC (envOfC qual scope s.heap.objs.size f cdv).kindOf (bA [p] [u]) fun _=>none)
   {s with heap:=h',toks:=s.toks+(bA [p] [u]).length}:=by rw[nc2];refine⟨⟨⟨h',_,rfl⟩,?_,keep,cM _⟩,fun n c e=>by simp at e,List.Pairwise.nil,fun n c e=>by simp at e⟩;rw[<-em];exact hn
 have I:Inv (wZ CX P w K mg base N qual scope f cdv A outer s H E) [] (pT N vs) H {s with heap:=h',toks:=s.toks+(bA [p] [u]).length}:=vP S hr.hd e0 hl r x;have eenv:newEnv (eE name qual params body scope dV kV doc pm an cdv ct).scope s.heap.objs.size (eE name qual params body scope dV kV doc pm an cdv ct).globals (eE name qual params body scope dV kV doc pm an cdv ct).closure
   ((eE name qual params body scope dV kV doc pm an cdv ct).qualname++".<locals>.") (some f) (eE name qual params body scope dV kV doc pm an cdv ct).code none (eE name qual params body scope dV kV doc pm an cdv ct).builtins=envOfC qual scope s.heap.objs.size f cdv:=by unfold envOfC;rw[nc2];rfl
 rw[eenv];have go:=ht [] _ (pT N vs) H _ I (by show 1<=s.toks+ 1;lia) hq;refine wpAny_mono go (fun fl s' hs=>?_) fun e s' hs=>hs;have fin:∀{σ':St} {H':Hp} {v:V} {u:Zz},Inv (wZ CX P w K mg base N qual scope f cdv A outer s H E) [] σ' H' s'->iY v u->Q v H'->CE outer P w H s Q u s':=
  fun{σ' H' v u} J rv q=>⟨v,H',J.os,J.bare,J.base,J.hok,rv,q⟩
 cases fl with
 |ret u=>obtain⟨v,σ',H',J,rv,q⟩:=hs;exact fin J rv q
 |next=>obtain⟨σ',H',J,q⟩:=hs;exact fin (v:=V.non) (u:=Value.none) J rfl q
 |brk=>obtain⟨_,_,_,q⟩:=hs;exact False.elim q
 |cont=>obtain⟨_,_,_,q⟩:=hs;exact False.elim q
section
variable {X:Cx} {st:Zq} {rest:List Zq} {t u:TS}
end
section
variable {P:Zu} {w:Zv} {H H':Hp} {h h':Zt} {a:Zx} {o:HO}
theorem jU.there (x:jU P w H h a o):∃ob,h.get? a=some ob:=by
 cases o with
 |lst xs=>obtain⟨_,_,_,_,e⟩:=x;exact⟨_,e⟩
 |tup xs=>obtain⟨_,_,_,⟨ob,e,_⟩⟩:=x;exact⟨ob,e⟩
 |dK kvs=>obtain⟨_,_,_,_,ob,_,_,e,_⟩:=x;exact⟨ob,e⟩
 |dT kvs=>obtain⟨_,_,_,_,ob,_,_,e,_⟩:=x;exact⟨ob,e⟩
 |set S n=>obtain⟨ob,_,_,_,e,_⟩:=x;exact⟨ob,e⟩
 |ins C dx fs=>obtain⟨_,_,_,e,_⟩:=x;exact⟨_,e⟩
 |own y=>exact x
 |xd fs=>obtain⟨_,⟨ob,_,_,e,_⟩,_⟩:=x;exact⟨ob,e⟩
 |rng lo hi=>obtain⟨_,_,_,e⟩:=x;exact⟨_,e⟩
 |frz ob u=>obtain⟨e,_⟩:=x;exact⟨_,e⟩
 |tbl ps=>exact⟨_,x⟩
 |met f y=>exact⟨_,x⟩
 |ext φ=>exact x.2.1
end
structure Fl (P:Zu) (w:Zv) (outer:List Env) (H:Hp) (s:Zy) (B:Zt) (H':Hp) (s':Zy):Prop where
 os:s'.os=s.os
 bare:AllBare s'.gens
 un:Un (frs outer) [] H H' s.heap s'.heap
 hok:HOk P w H' s'.heap
 stay:B.StaysIn s'.heap
 trk:∀b u,H' b=some u->∃o,B.get? b=some o
 old:∀b o,s.heap.get? b=some o->b∉frs outer->∃o',B.get? b=some o'
def CXE (P:Zu) (w:Zv):CXT:=fun outer H s E e s'=>∃(ea:Zx) (cls a0:Zz) (B:Zt) (H':Hp),e= .ref ea/\Fl P w outer H s B H' s'/\Heap.FlyingW B outer ea cls a0 s'.heap/\E cls none H'
section
variable {X:Cx} {pz:Za} {σ:St} {H H':Hp} {s s':Zy} {B h:Zt}
theorem Inv.nst (I:Inv X pz σ H s) {b:Zx} (h1:b≠X.env.locals) (h2:b∉X.fs):b∉frs X.stack:=fun hb=>(ak.mp (I.stkSub b hb)).elim h1 h2
theorem Inv.oldNe (I:Inv X pz σ H s) {b:Zx} {o:Obj} (e:X.s₀.heap.get? b=some o):b≠X.env.locals:=cG (cE (fG e) I.ok.above)
theorem Inv.flown (I:Inv X pz σ H s) (F:Fl X.prog X.w X.stack H s B H' s') (st:B.StaysIn h) (up:s'.heap.UpToSlots h):Inv X pz σ H' {s' with heap:=h}:=by
 have J:Inv X pz σ H' s':=I.call' (ch:=[]) F.os F.un F.hok F.bare (fun b hb=>nomatch hb);have ex:∀b o o0,s'.heap.get? b=some o->s.heap.get? b=some o0->b∉frs X.stack->h.get? b=some o:=fun b o o0 e e0 hb=>by obtain⟨o1,e1⟩:=F.old b o0 e0 hb;have e2:=F.stay b o1 e1;rw[e]at e2;cases e2;exact st b o e1
 have fr:∀b o,b∈frs X.stack->s'.heap.get? b=some o->∃sl,h.get? b=some {o with slots:=sl}:=fun b o hb e=>by obtain⟨_,o1,e1,hd⟩:=J.stack.mem hb;rw[e]at e1;cases e1;exact up b o e hd
 have cellK:∀c v,s'.heap.IsCell c v->h.IsCell c v:=fun c v ⟨o,ho,hd⟩=>by obtain⟨sl,e⟩:=up c o ho (fun vs z=>by rw[hd]at z;cases z);exact⟨_,e,hd⟩
 refine⟨J.ok,J.os,J.bare,⟨fun b o e n hf hx=>?_,fun b o e n hf hx=>?_,J.base.free,fun b o e hx=>?_,J.base.tups,J.base.frzs,J.base.tbls⟩,?_,fun y c e=>?_,J.free,J.freeC,fun p hp=>?_,fun b u e=>?_,J.len⟩;·exact ex b o o (J.base.keep b o e n hf hx) (I.base.keep b o e n hf hx) (I.nst (I.oldNe e) hf)
 ·obtain⟨sl,e1⟩:=J.base.slot b o e n hf hx;obtain⟨_,o1,e2,hd⟩:=J.funs.mem hf;rw[e1]at e2;cases e2;obtain⟨sl',e3⟩:=up b _ e1 hd;exact⟨sl',e3⟩
 ·obtain⟨o',e1⟩:=J.base.there b o e hx;by_cases hb:b∈frs X.stack;·obtain⟨sl,e2⟩:=fr b o' hb e1;exact⟨_,e2⟩
  ·obtain⟨o0,e0⟩:=I.base.there b o e hx;exact⟨o',ex b o' o0 e1 e0 hb⟩
 ·obtain⟨m,hn,hl⟩:=J.loc;refine⟨m,up.ns hn,fun i x v e1 e2 e3=>?_⟩;obtain⟨u,r,l⟩:=hl i x v e1 e2 e3;refine⟨u,r,?_⟩;rcases l with l|⟨k,c,e,z⟩;·exact .inl l
  ·exact .inr ⟨k,c,e,cellK _ _ z⟩
 ·obtain⟨v,z⟩:=J.cell y c e;exact⟨v,cellK _ _ z⟩
 ·obtain⟨e,n,ne,nf,d⟩:=J.pin p hp;exact⟨ex p.1 p.2 p.2 e (I.pin p hp).1 (I.nst ne nf),n,ne,nf,d⟩
 ·refine(J.hok b u e).stay (fun c v hc q=>?_) (fun _ z=>z) fun _ _ z=>z;have tr:∃u',H' c=some u':=by
   rcases hc with z|z;·rw[z];exact⟨u,e⟩
   ·exact⟨_,z⟩
  obtain⟨u',hu⟩:=tr;obtain⟨o1,e1⟩:=F.trk c u' hu;have e2:=F.stay c o1 e1;rw[q]at e2;cases e2;exact st c v e1
theorem Inv.track {ea:Zx} {o:HO} (I:Inv X pz σ H s) (hn:H ea=none) (h0:X.s₀.heap.get? ea=none) (hL:ea≠X.env.locals) (hC:∀x c,X.env.cells.lookup x=some c->c≠ea) (hP:∀p∈X.pn++pz,p.1≠ea)
  (new:jU X.prog X.w (upd H ea o) s.heap ea o):Inv X pz σ (upd H ea o) s:=by
 have ne:∀b u,H b=some u->b≠ea:=fun b u e z=>by rw[z,hn]at e;cases e
 refine⟨I.ok,I.os,I.bare,⟨I.base.keep,I.base.slot,fun b ob e n hx=>?_,I.base.there,fun b xs e=>?_,fun b ob u e=>?_,fun b ps e=>?_⟩,I.loc,I.cell,?_,fun x c e=>?_,fun p hp=>?_,fun b u e=>?_,I.len⟩;·rw[gr (fun z=>by rw[z,h0]at e;cases e)];exact I.base.free b ob e n hx
 ·have e1:=I.base.tups b xs e;rw[gr (ne b _ e1)];exact e1
 ·have e1:=I.base.frzs b ob u e;rw[gr (ne b _ e1)];exact e1
 ·obtain⟨more,e1⟩:=I.base.tbls b ps e;exact⟨more,by rw[gr (ne b _ e1)];exact e1⟩
 ·rw[gr (Ne.symm hL)];exact I.free
 ·rw[gr (hC x c e)];exact I.freeC x c e
 ·obtain⟨e,n,n2,nf,d⟩:=I.pin p hp;exact⟨e,by rw[gr (hP p hp)];exact n,n2,nf,d⟩
 ·by_cases hb:b=ea;·subst hb;rw[fY]at e;cases e;exact new
  ·rw[gr hb]at e;exact(I.hok b u e).stay (fun _ _ _ q=>q) (fun c z=>by rw[gr (ne c _ z)];exact z) fun c xs z=>by rw[gr (ne c _ z)];exact z
end
section
variable {P:Zu} {w:Zv} {K:Zp} {mg:Zc} {base:Zt} {N:Zd} {qual:Str} {scope:Scope} {f:Zx} {cd:Zz} {A:Zw} {outer:List Env} {s₀:Zy} {H₀:Hp} {E:XK}
theorem kB:nT (CXE P w) (wZ (CXE P w) P w K mg base N qual scope f cd A outer s₀ H₀ E) E:=by intro pz σ H s e s' I hx;obtain⟨ea,cls,a0,B,H',rfl,F,fl,q⟩:=hx;show wpAny _ _ (leaving _ (.ref ea)) _ _ s';refine wpAny_leaves_onW (outer:=outer) I.ok.frames rfl fl fun h' fl' up=>?_;have J:=I.flown F fl'.1 up;refine⟨ea,cls,a0,B,H',rfl,⟨J.os,J.bare,J.base,J.hok,fl'.1,F.trk,fun b o e hb=>?_⟩,fl',q⟩;obtain⟨o1,e1⟩:=I.base.there b o e (fun z=>nomatch z);exact F.old b o1 e1 (I.nst (I.oldNe e) hb)
theorem GZ {pz:Za} {σ:St} {H:Hp} {s:Zy} {h':Zt} {ea:Zx} {cls:Zz} {vs:List Zz}
  (I:Inv (wZ (CXE P w) P w K mg base N qual scope f cd A outer s₀ H₀ E) pz σ H s) (hx:Heap.MadeExcOf s.heap h' ea cls vs) (q:E cls none H):
  (wZ (CXE P w) P w K mg base N qual scope f cd A outer s₀ H₀ E).xe (.ref ea) {s with heap:=h'}:=by
 generalize hX:wZ (CXE P w) P w K mg base N qual scope f cd A outer s₀ H₀ E=X at I;have hst:X.stack=envOfC qual scope s₀.heap.objs.size f cd::outer:=by rw[<-hX];rfl
 have B1:∀b o,s.heap.get? b=some o->b∉frs X.stack->(dE s.heap (frs X.stack)).get? b=some o:=fun b o e hb=>dF _ e hb;have F:Fl X.prog X.w X.stack H s (dE s.heap (frs X.stack)) H {s with heap:=h'}:=by refine⟨rfl,I.bare,Un.kept hx.keeps,I.hok.kept hx.keeps,fun b o e=>hx.keeps b o (dG _ e),fun b u e=>?_,fun b o e hb=>⟨o,B1 b o e hb⟩⟩;obtain⟨ob,eo⟩:=(I.hok b u e).there;exact⟨ob,B1 b ob eo fun hb=>by rw[I.stkFree b hb]at e;cases e⟩
 have fr:s.heap.FunFrames (dE s.heap (frs X.stack)) X.stack:=PySem.W.funFrames_hide I.stack fun env he a ha=>az.mpr ⟨env,he,ha⟩;have hA:X.A.frames=some X.stack:=I.ok.frames;rw[hst]at fr hA F B1;subst hX;show wpAny _ _ (leaving _ (.ref ea)) _ _ _;refine wpAny_leaves_madeW (outer:=outer) hA rfl (fun b o e=>dG _ e) fr hx fun h'' t fl _ _ up=>?_;have J:=I.flown F fl.1 up;refine⟨ea,cls,_,_,H,rfl,⟨J.os,J.bare,J.base,J.hok,fl.1,F.trk,fun b o e hb=>?_⟩,fl,q⟩;obtain⟨o1,e1⟩:=I.base.there b o e (fun z=>nomatch z);exact F.old b o1 e1 (I.nst (I.oldNe e) hb)
end
theorem EU {K:Zp} {h:Zt} {C:Zx} {bmB:List Zz} {newId:String} (hk:K.In h) (z:eI K C bmB newId=true):
  ∃bm N nm q bs hdct sn sub ab col dd k0 k1 k2 k3 k5 mN,h.get? C=some (excClassObj nm q C N bs bm hdct sn sub ab col dd k0 k1 k2 k3 k5 newId)/\h.Ns N mN/\mN "__init__"=none/\OwnTail h bmB bm:=by
 unfold eI at z;split at z;case h_2=>cases z
 rename_i d1 c1 l1 look;split at z;case h_2=>cases z
 rename_i C1 tail a0 a1 a2 a3 nid a5 hmro hslots;simp only[fj,beq_iff_eq,Bool.not_eq_true']at z;obtain⟨⟨⟨⟨⟨rfl,rfl⟩,z3⟩,z4⟩,z5⟩,z6⟩:=z;obtain⟨x1,x2,x3,x4,x5,x6,x7,x8,x9,x10,x11⟩:=c1;dsimp only at hmro z3 z5 z6;subst hmro z3;obtain⟨ll⟩:=l1;have hll:ll=[a0,a1,a2,a3,some (.builtin nid),a5]:=hslots;subst hll;exact⟨tail,x4,x1,x5,x2,x6,x7,x8,x9,x10,d1,a0,a1,a2,a3,a5,_,hk _ _ look,.of_isNs (PySem.W.isNs_of_in hk z5),PySem.W.nsMap_none_of_in hk z5 z6,PySem.W.tail_of_in hk z4⟩
def EV:List Zz:=[.type "ValueError",.type "Exception",.type "BaseException",.type "object"]
abbrev Kc (K:Zp) (C:Zx):Prop:=eI K C EV "ValueError.__new__"=true
section
variable {X:Cx} {C:Zx} {E:XK} {x:Str} {np cpos pos:Pos} {e:Zr} {es:List Zr} {t:TA}
def DV (X:Cx) (E:XK):Prop:=∀(pz:Za) (σ:St) (H:Hp) (s:Zy) (h':Zt) (ea:Zx) (cls:Zz) (vs:List Zz),Inv X pz σ H s->Heap.MadeExcOf s.heap h' ea cls vs->E cls none H->X.xe (.ref ea) {s with heap:=h'}
theorem lZ {P:Zu} {w:Zv} {K:Zp} {mg:Zc} {base:Zt} {N:Zd} {qual:Str} {scope:Scope} {f:Zx} {cd:Zz} {A:Zw} {outer:List Env} {s₀:Zy} {H₀:Hp} {E:XK}:
  DV (wZ (CXE P w) P w K mg base N qual scope f cd A outer s₀ H₀ E) E:=fun _ _ _ _ _ _ _ _ I hx q=>GZ I hx q
def DW (C:Zx) (E:XK) (t:TA):TS:=fun _ σ H=>t σ H fun vs H1=>vs.length<=sizeLine/\E (.ref C) none H1
theorem kQ (hc:X.calm=true) (hl:DV X E) (xc:Kc X.K C) (hg:Gl X x) (hm:X.mg x=some (.ref C)) (ha:PA X (e::es) t) (hst:autoParam (starEach (e::es) X.env=(false,eval e X.env)::starEach es X.env) auR._auto_1)
  (hpl:autoParam ((backTo cpos (starEach es X.env)).any (·.1)=false) auR._auto_1) (hd:autoParam ((x==("__debug__":Str))=false) auD._auto_1):PS X (.Raise (some (.Call (.Name x np) (e::es) [] cpos)) none pos) (DW C E t):=by
 intro pz s σ H D I h;obtain⟨tl,N,nm,q,bs,hdct,sn,sub,ab,col,dd,k0,k1,k2,k3,k5,mN,hC,hN,hni,T⟩:=EU I.mod.kin xc;have kp:∀{s1:Zy} {H1:Hp},Inv X pz σ H1 s1->∀b o,X.base.get? b=some o->s1.heap.get? b=some o:=fun I1=>I1.bk;refine wpAny_Raise_call_subT (C:=C) (nm:=nm) (q:=q) (N:=N) (bs:=bs) (bm:=tl) (hdct:=hdct) (sn:=sn) (sub:=sub) (ab:=ab) (col:=col) (dd:=dd) (k0:=k0) (k1:=k1) (k2:=k2) (k3:=k3) (k5:=k5)
  eU (mN:=mN) (T.hasType eU.hasBase) (I.ok.hd hc) ?_ hni (uj I hg hm ⟨rfl,?_⟩ hd);·rw[hst];show(false||(backTo cpos (starEach es X.env)).any (·.1))=false;rw[hpl];rfl
 have h2:=ha cpos pz s σ H _ I h;rw[hst]at h2⊢;refine Calls.evalArgs_plain (wpAny_mono h2 (fun us s1 h3=>?_) fun _ _ z=>z);obtain⟨vs,H1,I1,r,hz,q1⟩:=h3;refine⟨rfl,by rw[<-r.length];exact hz,kp I1 _ _ hC,hN.keeps (kp I1),T.keeps (kp I1),fun h' ea hx=>hl pz σ H1 s1 h' ea _ us I1 hx q1⟩
end
section
variable {P:Zu} {w:Zv} {K:Zp} {mg:Zc} {base:Zt}
theorem Fun.okE {x qual:Str} {st:Zq} {f:Zx} {fd:Zs} {N ps:Zd} {k:Nat} {sp:Sp} (F:Fun K x qual st f fd) (S:gy N ps (gq st)) (len:∀vs H Q E,sp vs H Q E->vs.length=ps.length)
  (hbody:∀(cdv:Zz) (A:Zw) (outer:List Env) (s:Zy) (H:Hp) (vs:List V) (Q:VK) (E:XK),mO k (A.deeper (envOfC qual (gq st) s.heap.objs.size f cdv))->sp vs H Q E->
   ∃t,PSs (wZ (CXE P w) P w K mg base N qual (gq st) f cdv A outer s H E) (kq st) t/\t {nx:=fun _ H'=>Q .non H',rt:=Q} (pT N vs) H):rK P w K mg base (CXE P w) (k+ 1) f fd ps sp:=by obtain⟨oc,od,kV,doc,pm,an,cdv,ct,osl,efd,lk,hcd⟩:=F.ex;subst efd;exact GJ lk hcd S len (fun A outer s H vs Q E hr h=>hbody cdv A outer s H vs Q E hr h)
end
section
variable {X:Cx} {pz:Za} {σ:St} {H:Hp} {s:Zy}
end
section
variable {X:Cx} {CX:CXT} {k:Nat} {f Y:Zx} {fd:Zs} {ps:Zd} {sp:Sp} {dvs:List V} {ds:List Zz} {E:XK} {x y n:Str} {p pos pos' py hpos tpos:Pos} {e:Zr} {es:List Zr} {t:TA} {b₀:Zq} {body:List Zq} {tb:TS} {i:Nat}
end
section
variable {X:Cx} {e:Zr} {es:List Zr} {te:TE} {pos:Pos}
def tFV (te:TE):TE:=fun σ H Q=>te σ H fun v H1=>(∃x,v= .str x/\x.length<=sizeLine/\Q (.str x) H1)\/∃i:Int,v= .int i/\i.natAbs.log2<1920/\Q (.str (toString i)) H1
theorem xC (he:PE X e te):PE X (.FormattedValue e (-1) none pos) (tFV te):=by
 intro pz s σ H Q I h;refine wpAny_FormattedValue_plain (thn (he pz s σ H _ I h) ?_);rintro u s1 ⟨v,H1,I1,r,q⟩;rcases q with⟨x,rfl,hz,q⟩|⟨i,rfl,hl,q⟩;·obtain⟨t,rfl⟩:=r;exact formatField_str (fun t' tk=>⟨.str x,H1,I1.tok tk,⟨t',rfl⟩,q⟩) hz
 ·obtain⟨t,rfl⟩:=r;exact wpAny_formatField_int hl ⟨.str _,H1,I1.tok _,⟨_,rfl⟩,q⟩
def tFVr (te:TE):TE:=fun σ H Q=>te σ H fun v H1=>∃x,v= .str x/\(reprText x).length<=sizeLine/\Q (.str (reprText x)) H1
theorem vZ (he:PE X e te):PE X (.FormattedValue e 114 none pos) (tFVr te):=by intro pz s σ H Q I h;refine wpAny_FormattedValue_repr (thn (he pz s σ H _ I h) ?_);rintro u s1 ⟨v,H1,I1,r,q⟩;obtain⟨x,rfl,hz,q⟩:=q;obtain⟨t,rfl⟩:=r;exact wpAny_pyReprObj_str (formatField_str (fun t' tk=>⟨.str _,H1,I1.tok tk,⟨t',rfl⟩,q⟩) hz) hz
def PJ (X:Cx) (es:List Zr) (t:Str->TE):Prop:=
 ∀(pz:Za) (s:Zy) (σ:St) (H:Hp) (Q:VK) (acc:Str),Inv X pz σ H s->t acc σ H Q->wpAny (model X.prog X.w) X.A (joinParts acc (evalEach es X.env)) (EP X pz σ Q) X.xe s
def tJ0:Str->TE:=fun acc _ H Q=>acc.length<=sizeLine/\Q (.str acc) H
def tJ (te:TE) (t:Str->TE):Str->TE:=fun acc σ H Q=>te σ H fun v H1=>∃y,v= .str y/\(acc++y).length<=sizeLine/\t (acc++y) σ H1 Q
theorem qB:PJ X [] tJ0:=fun pz s σ H Q acc I h=>joinParts_nil ⟨.str acc,H,I.tok _,⟨_,rfl⟩,h.2⟩ h.1
theorem iJ {t:Str->TE} (he:PE X e te) (hr:PJ X es t):PJ X (e::es) (tJ te t):=by intro pz s σ H Q acc I h;refine joinParts_cons (thn (he pz s σ H _ I h) ?_);rintro u s1 ⟨v,H1,I1,r,q⟩;obtain⟨y,rfl,hz,q⟩:=q;obtain⟨t',rfl⟩:=r;exact⟨hz,hr pz s1 σ H1 Q _ I1 q⟩
theorem mU {e2:Zr} {t:Str->TE} (h:PJ X (e::e2::es) t):PE X (.JoinedStr (e::e2::es) pos) (t Str.empty):=fun pz s σ H Q I hw=>JoinedStr_many (h pz s σ H Q _ I hw)
end
theorem Jc {P:Zu} {w:Zv} {X:Cx}:nT (CXE P w) X E0:=fun _ _ _ _ _ _ _ h=>by obtain⟨_,_,_,_,_,_,_,_,z⟩:=h;exact z.elim
section
variable {X:Cx}
theorem v3:n9 X (.type "int") (fun xs H Q=>∃x n,xs=[.str x]/\intText? x=some n/\x.length<=640/\Q (.int n) H):=by intro pz s σ H xs us Q I r h;obtain⟨x,n,rfl,hn,hl,q⟩:=h;obtain⟨u,rfl,rx⟩:=mL r;obtain⟨t,rfl⟩:=rx;exact PySem.W.KIN.call_text hn hl ⟨.int n,H,I.tok _,⟨_,rfl⟩,q⟩
end
inductive Dt where
 |flat (v:V)
 |tup (l:List Dt)
 |lst (l:List Dt)
mutual
inductive At (K:Zp) (H:Hp):V->Dt->Prop where
 |flat {v:V} (h:rM v=true):At K H v (.flat v)
 |tup {a:Zx} {xs:List V} {ds:List Dt} (h:SqT K H a xs) (hs:Ats K H xs ds):At K H (.ref a) (.tup ds)
 |lst {a:Zx} {xs:List V} {ds:List Dt} (h:SqL K H a xs) (hs:Ats K H xs ds):At K H (.ref a) (.lst ds)
inductive Ats (K:Zp) (H:Hp):List V->List Dt->Prop where
 |nil:Ats K H [] []
 |cons {x:V} {d:Dt} {xs:List V} {ds:List Dt} (h:At K H x d) (hs:Ats K H xs ds):Ats K H (x::xs) (d::ds)
end
mutual
def eqD:Dt->Dt->Bool
 | .flat a,.flat b=>eqV a b
 | .tup l,.tup m=>xD l m
 | .lst l,.lst m=>xD l m
 |_,_=>false
def xD:List Dt->List Dt->Bool
 |[],[]=>true
 |x::xs,y::ys=>eqD x y&&xD xs ys
 |_,_=>false
end
mutual
def qC:Dt->Dt->Bool
 | .flat _,.flat _=>true
 | .tup l,.tup m=>sO l m
 | .lst l,.lst m=>if l.length=m.length then sO l m else true
 |_,_=>false
def sO:List Dt->List Dt->Bool
 |x::xs,y::ys=>qC x y&&sO xs ys
 |_,_=>true
end
mutual
def sP:Dt->Nat
 | .flat _=>0
 | .tup l=>jT l+ 1
 | .lst l=>jT l+ 1
def jT:List Dt->Nat
 |[]=>0
 |x::xs=>max (sP x) (jT xs)
end
theorem Ats.length {K:Zp} {H:Hp}:∀{xs:List V} {ds:List Dt},Ats K H xs ds->xs.length=ds.length
 |_,_,.nil=>rfl
 |_,_,.cons _ t=>by rw[aB,aB,Ats.length t]
theorem Ats.get {K:Zp} {H:Hp}:∀{xs:List V} {ds:List Dt} {j:Nat} {x:V},Ats K H xs ds->xs[j]?=some x->∃d,ds[j]?=some d/\At K H x d
 |_,_,0,_,.cons h _,e=>⟨_,rfl,by cases e;exact h⟩
 |_,_,j+ 1,_,.cons _ t,e=>Ats.get (j:=j) t e
 |_,_,_,_,.nil,e=>by simp at e
theorem uF:∀(l m:List Dt),l.length≠m.length->xD l m=false
 |[],[],h=>absurd rfl h
 |x::xs,y::ys,h=>by rw[xD,uF xs ys (fun e=>h (by rw[aB,aB,e])),fk]
 |[],y::ys,_=>by rw[xD];all_goals simp
 |x::xs,[],_=>by rw[xD];all_goals simp
def zP (l m:List Dt) (j:Nat):Bool:=match l[j]?,m[j]? with
 |some a,some b=>eqD a b
 |_,_=>false
theorem pY:∀(l m:List Dt),l.length=m.length->((aa l.length).all fun j=>zP l m j)=xD l m
 |[],[],_=>by rw[xD];rfl
 |x::xs,y::ys,h=>by have ih:=pY xs ys (by simpa using h);rw[aB,bx,ba,bz,xD,<-ih];rfl
 |[],_::_,h=>by simp at h
 |_::_,[],h=>by simp at h
theorem mV:∀{l m:List Dt} {j:Nat} {a b:Dt},sO l m=true->l[j]?=some a->m[j]?=some b->qC a b=true
 |x::xs,y::ys,0,a,b,h,e1,e2=>by rw[sO,fj]at h;cases e1;cases e2;exact h.1
 |x::xs,y::ys,j+ 1,a,b,h,e1,e2=>by rw[sO,fj]at h;exact mV (j:=j) h.2 e1 e2
 |[],_,_,_,_,_,e1,_=>by simp at e1
 |_::_,[],_,_,_,_,_,e2=>by simp at e2
theorem depDs_get:∀{l:List Dt} {j:Nat} {a:Dt},l[j]?=some a->sP a<=jT l
 |x::xs,0,a,e=>by cases e;rw[jT];exact Nat.le_max_left ..
 |x::xs,j+ 1,a,e=>by rw[jT];exact cH (depDs_get (j:=j) e) (Nat.le_max_right ..)
 |[],_,_,e=>by simp at e
theorem A4 {v:V} (h:rM v=true):eqV v v=true:=by
 cases v with
 |non=>rfl
 |bl b=>show(b==b)=true;simp
 |int i=>show(i==i)=true;simp
 |str x=>show(x==x)=true;simp
 |_=>exact absurd h fg
section
variable {X:Cx} {pz:Za} {σ:St} {H:Hp} {s:Zy}
mutual
theorem At.same (I:Inv X pz σ H s):∀{x:V} {d e:Dt},At X.K H x d->At X.K H x e->qC d e=true->eqD d e=true
 |_,_,_,.flat h,k,c=>by
  cases k with
  |flat _=>rw[eqD];exact A4 h
  |tup _ _=>exact absurd h fg
  |lst _ _=>exact absurd h fg
 |_,_,_,.tup h hs,k,c=>by
  cases k with
  |flat h=>exact absurd h fg
  |tup h' hs'=>have e:=I.tuple_inj h h';subst e;rw[qC]at c;rw[eqD];exact Ats.same I hs hs' c
  |lst _ _=>simp[qC]at c
 |_,_,_,.lst h hs,k,c=>by
  cases k with
  |flat h=>exact absurd h fg
  |tup _ _=>simp[qC]at c
  |lst h' hs'=>have e:=I.list_inj h h';subst e;rw[qC,gY (hs.length.symm.trans hs'.length)]at c;rw[eqD];exact Ats.same I hs hs' c
theorem Ats.same (I:Inv X pz σ H s):∀{xs:List V} {l m:List Dt},Ats X.K H xs l->Ats X.K H xs m->sO l m=true->xD l m=true
 |_,_,_,.nil,k,_=>by cases k;rw[xD]
 |_,_,_,.cons h t,k,c=>by
  cases k with
  |cons h' t'=>rw[sO,fj]at c;rw[xD,At.same I h h' c.1,Ats.same I t t' c.2];rfl
end
def Els (K:Zp) (H:Hp) (A:Zw) (s:Zy) (ds es:List Dt):Prop:=
 ∀(j:Nat) (d1 d2:Dt) (x y:V) (u v:Zz),ds[j]?=some d1->es[j]?=some d2->iY x u->iY y v->At K H x d1->At K H y d2->SeqAt.EqAt A s u v (eqD d1 d2)
theorem els {A:Zw} {xs ys:List V} {its its2:List Zz} {ds es:List Dt} (r:iX xs its) (r2:iX ys its2) (hs:Ats X.K H xs ds) (hs':Ats X.K H ys es) (EL:Els X.K H A s ds es):
  ∀j (h1:j<its.toArray.size) (h2:j<its2.toArray.size),SeqAt.EqAt A s its.toArray[j] its2.toArray[j] (zP ds es j):=fun j h1 h2=>by
 have l1:=r.length;have l2:=r2.length;have h1':j<xs.length:=by simp only[aX]at h1;lia
 have h2':j<ys.length:=by simp only[aX]at h2;lia
 obtain⟨w1,e1,q1⟩:=r.get (bB h1');obtain⟨w2,e2,q2⟩:=r2.get (bB h2');obtain⟨d1,f1,p1⟩:=hs.get (bB h1');obtain⟨d2,f2,p2⟩:=hs'.get (bB h2');have g1:its.toArray[j]=w1:=by simpa using(au.mp e1).2
 have g2:its2.toArray[j]=w2:=by simpa using(au.mp e2).2
 have ed:zP ds es j=eqD d1 d2:=by unfold zP;rw[f1,f2]
 rw[g1,g2,ed];exact EL j d1 d2 _ _ _ _ f1 f2 q1 q2 p1 p2
theorem EW {ds es:List Dt} {n m:Nat} (h1:n=ds.length) (h2:m=es.length):((aa (min n m)).all (zP ds es)&&n==m)=eqD (.tup ds) (.tup es):=by
 subst h1 h2;rw[eqD];by_cases hl:ds.length=es.length;·rw[<-pY ds es hl,<-hl,Nat.min_self];simp
 ·rw[uF ds es hl,beq_eq_false_iff_ne.mpr hl,fk]
theorem EY {ds es:List Dt} {n:Nat} (h1:n=ds.length) (h:ds.length=es.length):((aa n).all (zP ds es))=eqD (.lst ds) (.lst es):=by subst h1;rw[eqD,<-pY ds es h]
theorem DY {A:Zw} {a b:Zx} {xs ys:List V} {ds es:List Dt} (I:Inv X pz σ H s) (h:SqT X.K H a xs) (hs:Ats X.K H xs ds) (h':SqT X.K H b ys) (hs':Ats X.K H ys es) (hu:A.units<cLine) (EL:Els X.K H A.in1 s ds es):
  SeqAt.RcAt A s (.ref a) (.ref b) (eqD (.tup ds) (.tup es))/\SeqAt.RcNeAt A s (.ref a) (.ref b) (!eqD (.tup ds) (.tup es)):=by
 obtain⟨its,r,pl,_⟩:=I.tuple h;obtain⟨its2,r2,pl2,_⟩:=I.tuple h';have e:=els r r2 hs hs' EL;have l1:its.toArray.size=ds.length:=by rw[aX,<-r.length,hs.length]
 have l2:its2.toArray.size=es.length:=by rw[aX,<-r2.length,hs'.length]
 have k1:=SeqAt.RcAt.tuples (A:=A) (s:=s) pl pl2 hu e;have k2:=SeqAt.RcNeAt.tuples (A:=A) (s:=s) pl pl2 hu e;rw[EW l1 l2]at k1 k2;exact⟨k1,k2⟩
theorem DZ {A:Zw} {a b:Zx} {xs ys:List V} {ds es:List Dt} (I:Inv X pz σ H s) (h:SqL X.K H a xs) (hs:Ats X.K H xs ds) (h':SqL X.K H b ys) (hs':Ats X.K H ys es) (hu:A.units<cLine) (EL:ds.length=es.length->Els X.K H A.in1 s ds es):
  SeqAt.RcAt A s (.ref a) (.ref b) (eqD (.lst ds) (.lst es))/\SeqAt.RcNeAt A s (.ref a) (.ref b) (!eqD (.lst ds) (.lst es)):=by
 obtain⟨its,r,pl,_⟩:=I.list h;obtain⟨its2,r2,pl2,_⟩:=I.list h';have l1:its.toArray.size=ds.length:=by rw[aX,<-r.length,hs.length]
 have l2:its2.toArray.size=es.length:=by rw[aX,<-r2.length,hs'.length]
 by_cases hl:ds.length=es.length;·have e:=els r r2 hs hs' (EL hl);have k1:=SeqAt.RcAt.lists (A:=A) (s:=s) pl.isList pl2.isList (by rw[l1,l2,hl]) hu e;have k2:=SeqAt.RcNeAt.lists (A:=A) (s:=s) pl.isList pl2.isList (by rw[l1,l2,hl]) hu e;rw[EY l1 hl]at k1 k2;exact⟨k1,k2⟩
 ·have hne:(its.toArray.size !=its2.toArray.size)=true:=by rw[l1,l2];exact bne_iff_ne.mpr hl
  have k1:=SeqAt.RcAt.lists_lengths (A:=A) (s:=s) pl.isList pl2.isList hne hu;have k2:=SeqAt.RcNeAt.lists_lengths (A:=A) (s:=s) pl.isList pl2.isList hne hu;rw[eqD,uF ds es hl];exact⟨k1,k2⟩
theorem D0 (I:Inv X pz σ H s):∀(n:Nat) (A:Zw) {x y:V} {u v:Zz} {d e:Dt},iY x u->iY y v->At X.K H x d->At X.K H y e->qC d e=true->sP d<=n->A.units+n<cLine->SeqAt.EqAt A s u v (eqD d e):=by
 intro n
 induction n with
 |zero=>
  intro A x y u v d e rx ry hx hy c hd hu
  cases hx with
  |flat h=>
   cases hy with
   |flat h'=>rw[eqD];exact AS rx ry h h'
   |tup _ _=>simp[qC]at c
   |lst _ _=>simp[qC]at c
  |tup _ _=>rw[sP]at hd;lia
  |lst _ _=>rw[sP]at hd;lia
 |succ n ih=>
  intro A x y u v d e rx ry hx hy c hd hu
  cases hx with
  |flat h=>
   cases hy with
   |flat h'=>rw[eqD];exact AS rx ry h h'
   |tup _ _=>simp[qC]at c
   |lst _ _=>simp[qC]at c
  |@tup a xs ds h hs=>
   cases hy with
   |flat _=>simp[qC]at c
   |lst _ _=>simp[qC]at c
   |@tup b ys es h' hs'=>
    cases rx;cases ry;by_cases hab:a=b;·subst hab;rw[At.same I (.tup h hs) (.tup h' hs') c];exact SeqAt.EqAt.same _
    ·rw[qC]at c;rw[sP]at hd;refine SeqAt.EqAt.of_refs hab (DY I h hs h' hs' (by lia) fun j d1 d2 x y u v f1 f2 q1 q2 p1 p2=>?_).1;exact ih A.in1 q1 q2 p1 p2 (mV c f1 f2) (cH (depDs_get f1) (by lia)) (by show A.units+ 1+n<cLine;lia)
  |@lst a xs ds h hs=>
   cases hy with
   |flat _=>simp[qC]at c
   |tup _ _=>simp[qC]at c
   |@lst b ys es h' hs'=>
    cases rx;cases ry;by_cases hab:a=b;·subst hab;rw[At.same I (.lst h hs) (.lst h' hs') c];exact SeqAt.EqAt.same _
    ·rw[sP]at hd;refine SeqAt.EqAt.of_refs hab (DZ I h hs h' hs' (by lia) fun hl j d1 d2 x y u v f1 f2 q1 q2 p1 p2=>?_).1;rw[qC,gY hl]at c;exact ih A.in1 q1 q2 p1 p2 (mV c f1 f2) (cH (depDs_get f1) (by lia)) (by show A.units+ 1+n<cLine;lia)
def Kd (K:Zp) (neg:Bool):R2:=fun x y H Q=>∃a b d e,x= .ref a/\y= .ref b/\At K H x d/\At K H y e/\qC d e=true/\sP d<=100/\Q (.bl (if neg then !eqD d e else eqD d e)) H
theorem rcD (I:Inv X pz σ H s) {A:Zw} {a b:Zx} {d e:Dt} (hx:At X.K H (.ref a) d) (hy:At X.K H (.ref b) e) (c:qC d e=true) (hd:sP d<=100) (hu:A.units+ 101<cLine):
  SeqAt.RcAt A s (.ref a) (.ref b) (eqD d e)/\SeqAt.RcNeAt A s (.ref a) (.ref b) (!eqD d e):=by
 cases hx with
 |flat h=>exact absurd h fg
 |@tup a xs ds h hs=>
  cases hy with
  |flat h=>exact absurd h fg
  |lst _ _=>simp[qC]at c
  |@tup b ys es h' hs'=>rw[qC]at c;rw[sP]at hd;refine DY I h hs h' hs' (by lia) fun j d1 d2 x y u v f1 f2 q1 q2 p1 p2=>?_;exact D0 I 100 A.in1 q1 q2 p1 p2 (mV c f1 f2) (cH (depDs_get f1) (by lia)) (by show A.units+ 1+ 100<cLine;lia)
 |@lst a xs ds h hs=>
  cases hy with
  |flat h=>exact absurd h fg
  |tup _ _=>simp[qC]at c
  |@lst b ys es h' hs'=>rw[sP]at hd;refine DZ I h hs h' hs' (by lia) fun hl j d1 d2 x y u v f1 f2 q1 q2 p1 p2=>?_;rw[qC,gY hl]at c;exact D0 I 100 A.in1 q1 q2 p1 p2 (mV c f1 f2) (cH (depDs_get f1) (by lia)) (by show A.units+ 1+ 100<cLine;lia)
end
section
variable {X:Cx}
theorem G1 {k:Nat} (hr:mO k X.A):OpR X (compareOp .Eq) (Kd X.K false):=by intro pz s σ H x y v u Q I rx ry h;obtain⟨a,b,d,e,rfl,rfl,hx,hy,c,hd,q⟩:=h;cases rx;cases ry;have hu:=hr.un;exact(rcD I hx hy c hd (by lia)).1 _ _ _ _ ⟨.bl _,H,I,rfl,q⟩
theorem G2 {k:Nat} (hr:mO k X.A):OpR X (compareOp .NotEq) (Kd X.K true):=by intro pz s σ H x y v u Q I rx ry h;obtain⟨a,b,d,e,rfl,rfl,hx,hy,c,hd,q⟩:=h;cases rx;cases ry;have hu:=hr.un;exact(rcD I hx hy c hd (by lia)).2 _ _ _ _ ⟨.bl _,H,I,rfl,q⟩
end
def A6 (P:Zu) (w:Zv) (K:Zp) (a:Zx) (kvs:List (Key×V)):Prop:=(a==sysModules)=false/\∃vs,KV kvs vs/\∀h:Zt,K.In h->h.DictOf (jQ P w) a vs
theorem yG {P:Zu} {w:Zv} {K:Zp} {a:Zx} {es:Array DictEntry} {n:Nat} {l:List (Str×Tok×Zx)} (ha:(a==sysModules)=false) (hl:K.lookup a=some ⟨.type "dict",none,.dict es n,#[]⟩)
  (he:es.toList=l.map fun p=>⟨PyData.keyHash w.params p.1,.str p.1 p.2.1,.ref p.2.2⟩) (hn:(l.map (·.1)).Nodup):A6 P w K a (l.map fun p=>(Sum.inr p.1,V.ref p.2.2)):=by
 refine⟨ha,l.map fun p=>(Sum.inr p.1,Value.ref p.2.2),?_,fun h hk=>?_⟩
 ·clear he hn
  induction l with
  |nil=>exact .nil
  |cons p r ih=>exact .cons ⟨rfl,rfl⟩ ih
 ·refine⟨_,es,n,hk _ _ hl,⟨rfl,rfl,rfl⟩,rfl,fun e hm=>?_,?_,?_⟩
  ·have hm':e∈es.toList:=by simpa using hm
   rw[he]at hm';obtain⟨p,_,rfl⟩:=bf.mp hm';exact⟨Sum.inr p.1,rq p.1 p.2.1,rfl⟩
  ·rw[he];clear he hn
   induction l with
   |nil=>exact .nil
   |cons p r ih=>exact .cons (rq p.1 p.2.1) rfl ih
  ·rw[bC];have e:(List.map ((fun(x:Key×Zz)=>x.1)∘fun(p:Str×Tok×Zx)=>((Sum.inr p.1:Key),Value.ref p.2.2)) l)=(l.map (·.1)).map (Sum.inr:Str->Key):=by rw[bC];rfl
   rw[e];exact List.Pairwise.map _ (fun a b h z=>h (Sum.inr.inj z)) hn
def EZ (a:Zx) (kvs:List (Key×V)) (ty td:TE):TE:=fun σ H Q=>ty σ H fun y H1=>td σ H1 fun x H2=>∃k,x= .ref a/\y=kV k/\Q (.bl (!(jK kvs k).isSome)) H2
def Jd (a:Zx) (kvs:List (Key×V)) (td ty:TE):TE:=fun σ H Q=>td σ H fun x H1=>ty σ H1 fun y H2=>∃k v,x= .ref a/\y=kV k/\jK kvs k=some v/\Q v H2
section
variable {X:Cx} {o i:Zr} {pos:Pos} {td ty:TE} {a:Zx} {kvs:List (Key×V)}
theorem A7 (d:A6 X.prog X.w X.K a kvs) (hi:PE X i ty) (ho:PE X o td):PC X .NotIn i o (EZ a kvs ty td):=by intro pz s σ H Q I h;refine thn (hi pz s σ H _ I h) fun iv s1 ⟨y,H1,I1,ry,q1⟩=>thn (ho pz s1 σ H1 _ I1 q1) ?_;rintro u s2 ⟨x,H2,I2,rx,k,ex,ey,q2⟩;subst ex ey;obtain rfl:u=Value.ref a:=rx;obtain⟨hs,vs,rel,dd⟩:=d;refine wpAny_notIn_of (xr ry) hs (dd _ I2.kIn).mapOf ?_;rw[<-(rel.val k).isSome_eq];exact⟨.bl _,H2,I2.tok _,rfl,q2⟩
theorem A8 (d:A6 X.prog X.w X.K a kvs) (ho:PE X o td) (hi:PE X i ty) (hs:IU i:=by exact fun _ _=>rfl):PE X (.Subscript o i pos) (Jd a kvs td ty):=by intro pz s σ H Q I h;refine AK eQ.lookup hs (thn (ho pz s σ H _ I h) fun u s1 ⟨x,H1,I1,rx,q1⟩=>thn (hi pz s1 σ H1 _ I1 q1) ?_);rintro iv s2 ⟨y,H2,I2,ry,k,v,ex,ey,hv,q2⟩;subst ex ey;obtain rfl:u=Value.ref a:=rx;obtain⟨_,vs,rel,dd⟩:=d;obtain⟨w',hw,rw'⟩:=ui.some_of (v:=v) (o:=valueAt vs k) (by rw[<-hv];exact rel.val k);exact⟨(dd _ I2.kIn).typeIs,wpAny_getItem_of (xr ry) (dd _ I2.kIn).mapOf hw ⟨v,H2,I2.tok _,rw',q2⟩⟩
end
section
variable {X:Cx}
end
section
variable {X:Cx} {k:Nat} {f Y:Zx} {fd:Zs} {ps:Zd} {sp:Sp} {dvs:List V} {ds:List Zz} {x y n:Str} {p pos pos' py hpos tpos pn:Pos} {e:Zr} {es:List Zr} {t:TA} {b₀:Zq} {body:List Zq} {tb:TS} {i:Nat}
end
end L2.Internal
namespace L2.Internal
theorem G3:PySem.bootBuiltins "min"=some (.builtin "min"):=gQ
end L2.Internal
namespace L2.Internal
open PySem PySem.Spec PyProof.Rows
section
variable {X:Cx} {pz:Za} {σ:St} {H:Hp} {s:Zy} {h':Zt}
theorem Inv.turnedL {t':Nat} {ch:List Zx} (I:Inv X pz σ H s) (k:∀b o,b∉ch->s.heap.get? b=some o->h'.get? b=some o) (hf:∀b∈ch,yw X pz H b):Inv X pz σ H {s with heap:=h',toks:=t'}:=by
 have nit:∀b u,H b=some u->b∉ch:=fun b u e z=>by have q:=(hf b z).1;rw[q]at e;cases e
 refine I.step (g':=s.gens) (d':=s.drawn) (ch:=ch) (fun b hb=>?_) (fun b o _ _ hc e _=>k b o hc e) (fun b o _ _ hc e _=>⟨o.slots,k b o hc e⟩) (fun _ _ _ _ n=>n)
  (fun b o hc e=>⟨o,k b o hc e⟩) (fun _ _ e=>e) (fun _ _ _ e=>e) (fun b ps e=>⟨#[],by rw[e];simp⟩) (fun m hm=>?_) (fun b u e=>?_) I.bare;·obtain⟨_,f1,_,f3,f4,f5⟩:=hf b hb;exact⟨f3,f1,f4,f5⟩
 ·obtain⟨o,es,ep,ho,r⟩:=hm;exact⟨o,es,ep,k _ o (fun z=>(hf _ z).2.1 rfl) ho,r⟩
 ·refine(I.hok b u e).stay (fun c v hc q=>k c v ?_ q) (fun _ q=>q) fun _ _ q=>q;rcases hc with z|z;·rw[z];exact nit b u e
  ·exact nit c _ z
theorem Inv.pairNew {T:Zx} {h:Zt} {tk:Nat} {ux uy:Zz} {x y:V} (I:Inv X pz σ H s) (hT:s.heap.objs.size<=T) (J:Inv X pz σ H {s with heap:=h,toks:=tk}) (ht:yq h T #[ux,uy]) (rx:iY x ux) (ry:iY y uy):
  H T=none/\Inv X pz σ (upd H T (.tup [x,y])) {s with heap:=h,toks:=tk}:=by
 have f:=I.fpOk (H':=H) hT (I.hok.fresh hT);refine⟨f.1,J.track f.1 ?_ f.2.1 f.2.2.2.2.1 f.2.2.2.2.2 ⟨by show 2<=sizeLine;decide,[ux,uy],.cons rx (.cons ry .nil),ht⟩⟩
 cases q:X.s₀.heap.get? T with
 |none=>rfl
 |some o=>exact absurd (cE (fG q) (cH I.sz hT)) (cF _)
end
theorem G4:bootBuiltins "zip"=some (.type "zip"):=gQ
theorem v5:bootBuiltins "enumerate"=some (.type "enumerate"):=gQ
theorem SqL.old {X:Cx} {pz:Za} {σ:St} {H:Hp} {s:Zy} {a:Zx} {xs:List V} (I:Inv X pz σ H s) (h:SqL X.K H a xs):a<s.heap.objs.size:=by obtain⟨its,_,p,_⟩:=I.list h;obtain⟨o,e,_⟩:=p.isList;exact fG e
section
variable {X:Cx}
end
def Ite (K:Zp) (a:Zx):It:=
 ⟨fun i H=>∃xs x,SqL K H a xs/\xs[i]?=some x,
   fun i H v H'=>∃T x,v= .ref T/\H T=none/\H'=upd H T (.tup [.int (i:Int),x])/\∀xs,SqL K H a xs->xs[i]?=some x,
   fun i H=>∃xs,SqL K H a xs/\i=xs.length⟩
def ESt (e it a:Zx) (i:Nat) (h:Zt):Prop:=(∃old,IsEnum h e it i old)/\h.IsListIter it a i
theorem A9 {P:Zu} {w:Zv} {K:Zp} {es:List Zr} {kk:Nat} {tp:Pos} {a e it:Zx} (h1:e≠it) (h2:a≠e) (h3:a≠it):CD P w K (.Tuple es kk tp) (Ite K a) [e,it] e (ESt e it a) where
 mem:=by simp
 obj:=fun i h st c hc=>by
  obtain⟨⟨old,g1⟩,⟨o4,g4,_,d4⟩⟩:=st;simp only[ak,bD,or_false]at hc;rcases hc with q|q<;>subst q;·exact⟨_,g1,fun v q=>nomatch q⟩
  ·exact⟨_,g4,fun v q=>by rw[d4]at q;cases q⟩
 keep:=fun i h h' st k=>by obtain⟨⟨old,g1⟩,g4⟩:=st;exact⟨⟨old,k e (by simp) _ g1⟩,g4.at fun o q=>k it (by simp) o q⟩
 item:=by
  intro X hP hw hK hc i pz s σ H E I hf st hg;subst hP hw hK;obtain⟨xs,x,qx,ex⟩:=hg;obtain⟨i1s,r1,p1,z1⟩:=I.list qx;obtain⟨g1,g4⟩:=st;obtain⟨old,g1'⟩:=g1;obtain⟨ux,hux,rr1⟩:=r1.get ex;have lte:e<s.heap.objs.size:=fG g1';refine wpAny_pyNext_enum_item g1' g4 p1.isList (x:=ux) (by simpa using hux) h1 fun k1 ho hit' hT hsz hk=>?_;have kk1:∀c o,c∉[e,it]->s.heap.get? c=some o->k1.get? c=some o:=fun c o hc q=>hk c o (fun z=>hc (by simp[z])) (fun z=>hc (by simp[z])) q;have J1:Inv X pz σ H {s with heap:=k1,toks:=s.toks+ 1}:=I.turnedL kk1 hf;refine⟨.ref s.heap.objs.size,rfl,wpAny_letOwnedTupleGo_enum ho fun k2 he' sb=>?_⟩;have J2:Inv X pz σ H {s with heap:=k2,toks:=s.toks+ 1}:=Inv.turnedL (s:={s with heap:=k1,toks:=s.toks+ 1}) (h':=k2) (t':=s.toks+ 1) (ch:=[e]) J1 (fun c o hc q=>(sb.2 c (fun z=>hc (by simp[z]))).trans q) fun c hc=>hf c (by simp only[ak,bD,or_false]at hc⊢;simp[hc]);have ht2:yq k2 s.heap.objs.size #[.int i s.toks,ux]:=⟨_,(sb.2 _ (cK lte)).trans hT,rfl,_,rfl,rfl⟩;obtain⟨fT,J3⟩:=I.pairNew (x:= .int (i:Int)) (cM _) J2 ht2 ⟨s.toks,rfl⟩ rr1;refine⟨.ref s.heap.objs.size,_,J3,rfl,⟨_,x,rfl,fT,rfl,fun l hl=>by rw[I.list_inj hl qx];exact ex⟩,⟨⟨_,by simpa using he'⟩,hit'.at fun o y=>(sb.2 it h1.symm).trans y⟩,fun c hc=>?_⟩;rw[gr (fun q=>?_)];·exact(hf c hc).1
  ·have lt:c<s.heap.objs.size:=by
    obtain⟨o4,e4,_⟩:=g4;simp only[ak,bD,or_false]at hc;rcases hc with q|q<;>subst q;·exact lte
    ·exact fG e4
   exact absurd lt (by rw[q];exact cF _)
 done:=by
  intro X hP hw hK hc i pz s σ H E I hf st hg;subst hP hw hK;obtain⟨xs,qx,ei⟩:=hg;obtain⟨i1s,r1,p1,z1⟩:=I.list qx;obtain⟨g1,g4⟩:=st;have W:=WalksT.enumerate (prog:=X.prog) (w:=X.w) (I.ok.hd hc) e it a h1 h2 h3 i1s.toArray;have l1:=r1.length;have q:i=i1s.toArray.size:=by simp only[aX];lia
  subst q;exact W.done s _ _ ⟨g1,g4,p1.isList⟩ fun h1 tk hk=>⟨rfl,I.turnedL hk hf⟩
 self:=fun _ _ _ _ _ st h=>by obtain⟨⟨old,g1⟩,_⟩:=st;exact wpAny_pyIter_enum g1 h
def Je (K:Zp) (ta:TA):TI:=fun σ H R=>ta σ H fun vs H1=>∃a,vs=[.ref a]/\(∃xs,SqL K H1 a xs)/\R (Ite K a) H1
section
variable {X:Cx}
theorem xE {es:List Zr} {kk:Nat} {tp:Pos} {a:Zr} {ta:TA} {p pos:Pos} (hg:Gl X "enumerate") (hm:X.mg "enumerate"=none) (ha:PA X [a] ta) (hs:autoParam (starEach [a] X.env=[(false,eval a X.env)]) auR._auto_1):
  PI X (.Tuple es kk tp) (.Call (.Name "enumerate" p) [a] [] pos) (Je X.K ta):=by
 intro pz s σ H R I h;refine Call_ (nS I hg hm v5 (fQ (thn (ha pos pz s σ H _ I h) ?_) hs rfl));rintro us s1 ⟨vs,H1,I1,r1,q1⟩;obtain⟨l1,e,⟨xs,q1⟩,q⟩:=q1;subst e;obtain⟨u,rfl,ru⟩:=mL r1;cases ru;obtain⟨i1s,w1,p1,z1⟩:=I1.list q1;have o1:@LT.lt Nat _ l1 s1.heap.objs.size:=SqL.old I1 q1;refine call_enumerate_list p1.isList fun h1 hE hi1 hsz hk=>wpAny_pyIter_enum hE ?_;refine⟨_,_,_,_,H1,rfl,I1.kept (t':=s1.toks) hk,A9 (fun(h:@Eq Nat _ _)=>by lia) (fun(h:@Eq Nat _ _)=>by lia) (fun(h:@Eq Nat _ _)=>by lia),⟨⟨_,hE⟩,hi1⟩,fun c hc=>?_,q⟩;have ge:s1.heap.objs.size<=c:=by simp only[ak,bD,or_false]at hc;rcases hc with h|h<;>rw[h]<;>first|exact cM _|exact cX _ _
 exact I1.fpOk ge (I1.hok.fresh ge)
end
def LcG (J:It) (g:TG) (te:TE) (Q:VK) (τ:St) (H1:Hp) (D:Zx):Prop:=
 ∃W:Nat->Nat->St->Hp->Prop,(∃m,W 0 m τ (upd H1 D (.lst [])))/\∀k m σ' H2,W k m σ' H2->
  (J.stop k H2/\Q (.ref D) H2)\/(J.go k H2/\∀v H3,J.yld k H2 v H3->g v σ' H3 fun σ4 H4=>te σ4 H4 fun y H5=>∃xs,H5 D=some (.lst xs)/\xs.length<sizeLine/\∃m',m'<m/\W (k+ 1) m' σ4 (upd H5 D (.lst (xs++[y]))))
def tLG (wi:TI) (f:St->St) (g:TG) (te:TE):TE:=fun σ H Q=>wi σ H fun J H1=>∀D,H1 D=none->LcG J g te Q (f σ) H1 D
theorem G5 {X:Cx} {elt iter:Zr} {es:List Zr} {kk:Nat} {tp:Pos} {x:Str} {scope:Scope} {pos:Pos} {N:Zd} {cl:List (Str×Zx)} {f:St->St} {i:Nat} {wi:TI} {g:TG} {te:TE}
  (hc:X.calm=true) (B:sM X N scope cl f i x) (hi:PI X (.Tuple es kk tp) iter wi)
  (hg:∀C s₀ H₀ ex pz,PG (blk X N scope cl C s₀ H₀ ex pz) (.Tuple es kk tp) g) (hte:∀C s₀ H₀ ex pz,PE (blk X N scope cl C s₀ H₀ ex pz) elt te)
  (hs:autoParam (∀x,foldedSetIterable iter X.env x=pure x) auI._auto_1):PE X (.ListComp elt [⟨.Tuple es kk tp,iter,[],0⟩] scope pos) (tLG wi f g te):=by
 intro pz s σ H Q I h;rw[eval_ListComp];refine wpAny_comprehension_free (use:=none) rfl hs B.clos B.kind B.names (thn (hi pz s σ H _ I h) fun xv s1 h1=>thn h1 fun itv s2 h2=>?_);obtain⟨it,fp,tn,J,H2,rfl,I2,T,st2,f2,q⟩:=h2;have hD:H2 s2.heap.objs.size=none:=I2.fresh;obtain⟨W,⟨m0,w0⟩,turn⟩:=q _ hD;refine wpAny_newObj_type (wpAny_newFunctionEnv B.cell (by intro y hy;simp at hy) (fun h₁ hns₁ hsb₁=>?_) B.kind);have I3:Inv X pz σ (upd H2 s2.heap.objs.size (.lst [])) {s2 with heap:=s2.heap.push {cls:= .type "list",data:= .seq ([]:List Zz).toArray}}:=I2.lnew (its:=[]) (ys:=[]) (t':=s2.toks) .nil (cO _);have lt2:∀b∈fp,b<s2.heap.objs.size:=fun b hb=>by obtain⟨o,ho,_⟩:=T.obj _ _ st2 b hb;exact fG ho
 have fp3:∀b∈fp,yw X pz (upd H2 s2.heap.objs.size (.lst [])) b:=fun b hb=>by refine⟨?_,(f2 b hb).2⟩;rw[gr (cG (lt2 b hb))];exact(f2 b hb).1
 generalize hs3:({s2 with heap:=s2.heap.push {cls:= .type "list",data:= .seq ([]:List Zz).toArray}}:Zy)=s3 at I3 hns₁ hsb₁⊢;have eh:s2.heap.push {cls:= .type "list",data:= .seq ([]:List Zz).toArray}=s3.heap:=by rw[<-hs3]
 have lt3:∀b∈fp,b<s3.heap.objs.size:=fun b hb=>by rw[<-eh,fK];exact cU (lt2 b hb)
 have old:∀b o,s3.heap.get? b=some o->h₁.get? b=some o:=fun b o e=>hsb₁.extBut b o (cG (fG e)) (fJ _ e);have I4:=A2 (tk:=s3.toks+([]:List (Str×Zz)).length) B I3 (ex:=fp) (fun b hb=>⟨fp3 b hb,lt3 b hb⟩) old hns₁;have st4:tn 0 h₁:=T.keep _ _ _ st2 fun b _ o e=>old b o (by rw[<-eh];exact fJ _ e);have fpB:∀{H':Hp},(∀b∈fp,H' b=none)->∀b∈fp,yw (blk X N scope cl s3.heap.objs.size s3 (upd H2 s2.heap.objs.size (.lst [])) fp pz) [] H' b:=fun{H'} hn b hb=>by obtain⟨_,g2,g3,g4,g5,g6⟩:=f2 b hb;refine⟨hn b hb,cG (lt3 b hb),fun z=>(ak.mp (I3.stkSub b z)).elim g2 g3,.inl hb,fun y c e=>g5 y c (B.lk y c e),fun p hp=>?_⟩;rw[aF]at hp;exact g6 p hp
 have loop:∀s4:Zy,s4={s3 with heap:=h₁,toks:=s3.toks+([]:List (Str×Zz)).length}->
   codeAny (model X.prog X.w) X.A (.compLoop (.ListComp elt [⟨.Tuple es kk tp,iter,[],0⟩] scope pos) 0 (.ref it) (.ref s2.heap.objs.size) (compEnvC scope cl s3.heap.objs.size X.env))
    (compPost (model X.prog X.w) X.A X.xe none (EP X pz σ Q) (.ref s2.heap.objs.size) s3.heap.objs.size) s4:=by
  rintro s4 rfl;refine PyProof.Rows.LCp.codeAny_compLoop_pair (I:=fun n s'=>∃k σ' H',Inv (blk X N scope cl s3.heap.objs.size s3 (upd H2 s2.heap.objs.size (.lst [])) fp pz) [] σ' H' s'/\tn k s'.heap/\(∀b∈fp,H' b=none)/\W k n σ' H') ?_ m0
   ⟨0,f σ,_,I4,st4,fun b hb=>(fp3 b hb).1,w0⟩;rintro n s5 ⟨k,σ5,H5,I5,st5,fr5,w5⟩;rcases turn k n σ5 H5 w5 with⟨stop,qn⟩|⟨go,step⟩
  ·refine wpAny_mono (T.done (blk X N scope cl s3.heap.objs.size s3 (upd H2 s2.heap.objs.size (.lst [])) fp pz) rfl rfl rfl hc k [] s5 σ5 H5 _ I5 (fpB fr5) st5 stop) (fun r s6 h6=>?_) fun _ _ z=>z;obtain⟨hr,I6⟩:=h6;subst hr;obtain⟨m6,hn6,_⟩:=id I6.loc;refine⟨m6,hn6,fun h' sb=>?_⟩;have nC:∀b o,s3.heap.get? b=some o->b≠s3.heap.objs.size:=fun b o e=>cG (fG e);have u6:Un (frs X.stack) fp (upd H2 s2.heap.objs.size (.lst [])) H5 s3.heap s6.heap:=I6.base;have u7:Un (frs X.stack) fp (upd H2 s2.heap.objs.size (.lst [])) H5 s3.heap h':=
    ⟨fun b o e z1 z2 z3=>(sb.2 b (nC b o e)).trans (u6.keep b o e z1 z2 z3),fun b o e z1 z2 z3=>by obtain⟨sl,e1⟩:=u6.slot b o e z1 z2 z3;exact⟨sl,(sb.2 b (nC b o e)).trans e1⟩,u6.free,fun b o e z=>by obtain⟨o',e1⟩:=u6.there b o e z;exact⟨o',(sb.2 b (nC b o e)).trans e1⟩,u6.tups,u6.frzs,u6.tbls⟩;have hok7:HOk X.prog X.w H5 h':=fun b o e=>(I6.hok b o e).stay (fun c w' hcc e1=>(sb.2 c (fun z=>by
     have fr:H5 s3.heap.objs.size=none:=I6.free;rcases hcc with y|y;·rw[<-y,z,fr]at e;cases e
     ·rw[z,fr]at y;cases y)).trans e1) (fun _ z=>z) fun _ _ z=>z;have I7:Inv X pz σ H5 {s6 with heap:=h'}:=I3.call' (s':={s6 with heap:=h'}) (ch:=fp) I6.os u7 hok7 I6.bare fun b hb=>by obtain⟨_,g2,g3,g4,g5,g6⟩:=f2 b hb;exact⟨g4,g2,g5,g6⟩
   exact⟨.ref s2.heap.objs.size,H5,I7,rfl,qn⟩
  ·refine wpAny_mono (T.item (blk X N scope cl s3.heap.objs.size s3 (upd H2 s2.heap.objs.size (.lst [])) fp pz) rfl rfl rfl hc k [] s5 σ5 H5 _ I5 (fpB fr5) st5 go) (fun r s6 h6=>?_) fun _ _ z=>z;obtain⟨u,hr,h6⟩:=h6;subst hr;refine wpAny_mono h6 (fun _ s7 h7=>?_) fun _ _ z=>z;obtain⟨v,H7,I7,r7,y7,st7,fr7⟩:=h7;have I7':=I7.pinned (fpB fr7) (T.obj _ _ st7);have back:∀{σ9:St} {H9:Hp} {s9:Zy},Inv (blk X N scope cl s3.heap.objs.size s3 (upd H2 s2.heap.objs.size (.lst [])) fp pz) ([]++tO fp s7.heap) σ9 H9 s9->(∃m',m'<n/\W (k+ 1) m' σ9 H9)->
     ∃m',m'<n/\∃k σ' H',Inv (blk X N scope cl s3.heap.objs.size s3 (upd H2 s2.heap.objs.size (.lst [])) fp pz) [] σ' H' s9/\tn k s9.heap/\(∀b∈fp,H' b=none)/\W k m' σ' H':=fun{σ9 H9 s9} I9 q9=>by obtain⟨m',hm,w9⟩:=q9;refine⟨m',hm,k+ 1,σ9,H9,I9.unpinned,T.keep _ _ _ st7 fun b hb o e=>(I9.pin (b,o) (aA _ (aA _ (kR hb e)))).1,fun b hb=>?_,w9⟩;obtain⟨o,e,d⟩:=T.obj _ _ st7 b hb;exact(I9.pin (b,o) (aA _ (aA _ (kR hb e)))).2.1
   refine wpAny_mono (hg s3.heap.objs.size s3 (upd H2 s2.heap.objs.size (.lst [])) fp pz _ s7 σ5 H7 v u _ I7' r7 (step v H7 y7)) (fun _ s8 h8=>?_) fun _ _ z=>False.elim z;obtain⟨σ8,H8,I8,q8⟩:=h8;refine wpAny_mono (hte _ _ _ _ _ _ s8 _ H8 _ I8 q8) (fun y s10 h10=>?_) fun _ _ z=>False.elim z;obtain⟨v10,H10,I10,r10,xs,hx10,hz,q10⟩:=h10;refine wpAny_mono (gS (X:=blk X N scope cl s3.heap.objs.size s3 (upd H2 s2.heap.objs.size (.lst [])) fp pz) _ s10 _ H10 (.ref s2.heap.objs.size) [v10] _ [y] (fun _ H11=>H11=upd H10 s2.heap.objs.size (.lst (xs++[v10]))) I10 rfl (.cons r10 .nil) ⟨_,xs,v10,rfl,rfl,hx10,hz,rfl⟩) (fun _ s11 h11=>?_) fun _ _ z=>False.elim z;obtain⟨_,H11,I11,_,e11⟩:=h11;subst e11;exact back I11 q10
 exact codeAny_compStart_list (loop _ rfl) (T.self _ 0 _ _ _ st4 (loop _ rfl))
theorem pZ {z:Str}:∀{cap:List (Str×Nat×Zx)},z∈cap.map (·.1)->∃c,(cap.map fun p=>(p.1,p.2.2)).lookup z=some c
 |[],h=>by simp at h
 |p::r,h=>by
  cases e:z==p.1 with
  |true=>exact⟨p.2.2,by simp only[aD,bp,e]⟩
  |false=>
   have q:z∈r.map (·.1):=by
    rcases ak.mp h with y|y;·rw[y]at e;simp at e
    ·exact y
   obtain⟨c,hc⟩:=pZ q;exact⟨c,by simp only[aD,bp,e];exact hc⟩
theorem blkC {X:Cx} {scope:Scope} {x:Str} (ns:Zd) (cap:List (Str×Nat×Zx)) (hns:cap.map (·.1)=ns) (hk:scope.kind= .function) (hn:∀p∈scope.names,p.2≠ .cell/\(p.2= .free->p.1∈ns)) (hl:∀y∈scope.names,y.2= .local->scope.names.lookup y.1=some .local)
  (hx:scope.names.lookup x=some .local) (hnd:(x::ns).Nodup) (hc:closureFor scope X.env=pure (cap.map fun p=>(p.1,p.2.2))) (hok:X.env.scope.kind= .function)
  (h:∀p∈cap,scope.names.lookup p.1=some .free/\X.env.cells.lookup p.1=some p.2.2/\X.env.scope.names.lookup p.1=some .cell/\X.N[p.2.1]?=some p.1):
  sM X (x::ns) scope (cap.map fun p=>(p.1,p.2.2)) (fun σ=>none::cap.map fun p=>σ.getD p.2.1 none) 0 x where
 kind:=hk
 cell:=fun y hy=>(hn y hy).1
 names:=hl
 clos:=hc
 lk:=fun z c q=>by have m:=PySem.mem_of_lookup q;obtain⟨p,hp,e⟩:=bf.mp m;cases e;exact(h p hp).2.1
 has:=fun z q=>by
  refine pZ ?_;rw[hns];rcases q with q|q
  ·obtain⟨k0,e,q⟩:=iE q;have m:=hn _ (PySem.mem_of_lookup e);rcases q with q|⟨q,_⟩;·exact absurd q.symm m.1
   ·exact m.2 q
  ·obtain⟨k0,e,q⟩:=iE q;have m:=hn _ (PySem.mem_of_lookup e);rcases q with q|⟨q,_⟩;·exact m.2 q.symm
   ·exact m.2 q
 nd:=hnd
 ix:=rfl
 loc:=hx
 len:=fun _ _=>by simp[<-hns]
 val:=fun σ k z v h1 h2=>by
  cases k with
  |zero=>simp at h2
  |succ k=>
   rw[<-hns,bE,aO]at h1;rw[bE,aO]at h2
   cases e:cap[k]? with
   |none=>rw[e]at h1;cases h1
   |some p=>
    rw[e]at h1 h2;have ez:p.1=z:=dw.inj h1;have ev:σ.getD p.2.1 none=some v:=dw.inj h2;subst ez;obtain⟨a1,a2,a3,a4⟩:=h p (aP e);rw[bq]at ev;refine⟨p.2.1,a4,?_,a3,i8 hok a3 a1⟩
    cases q:σ[p.2.1]? with
    |none=>rw[q]at ev;cases ev
    |some o=>rw[q]at ev;exact congrArg some ev
section
variable {X:Cx}
end
structure ClsM (K:Zp) (C:Zx) (m:Str) (f:Zx):Prop where
 ga:dU K (.ref C) "__getattribute__"=some (some (.builtin "type.__getattribute__"))
 rd:∃mc,PySem.W.readsIn K C mc=true/\PySem.W.findCls K (.ref C) mc m=some (.val (.ref f))
 kp:dW K (.ref f)=true
section
variable {X:Cx} {CX:CXT} {k:Nat} {f C:Zx} {fd:Zs} {ps:Zd} {sp:Sp} {dvs:List V} {ds:List Zz} {E:XK} {m:Str} {pos apos:Pos} {e o:Zr} {es:List Zr} {t:TA}
end
section
variable {X:Cx}
theorem D1:bootBuiltins "max"=some (.builtin "max"):=gQ
theorem v7 (hc:X.calm=true):n9 X (.builtin "sum") (fun xs H Q=>∃(a:Zx) (ns:List Int),xs=[.ref a]/\SqL X.K H a (ns.map V.int)/\∀n,Q (.int n) H):=by intro pz s σ H xs us Q I r h;obtain⟨a,ns,rfl,hq,q⟩:=h;obtain⟨u,rfl,ru⟩:=mL r;cases ru;obtain⟨its,rv,p,hz⟩:=I.list hq;obtain⟨zs,e⟩:=(zK rv).allInts.items;have l:=p.isList;rw[e]at l;exact sum_intListG (I.ok.hd hc) l fun h' tk t' hk=>⟨.int _,H,I.kept (t':=tk) hk,⟨_,rfl⟩,q _⟩
end
section
variable {prog:Zu} {w:Zv} {A:Zw} {E:Zb} {s:Zy}
theorem G6 {j t:Zx} {i:Nat} {its} {x:Zz} {Q:Zb} (g:s.heap.IsTupleIter j t i) (d:s.heap.IsTuple t its) (e:its[i]?=some x)
  (k:∀h',h'.IsTupleIter j t (i+ 1)->Heap.SameBut j s.heap h'->Q x {s with heap:=h'}):wpAny (model prog w) A (Builtin.SmallTypes.nextOf (.ref j)) Q E s:=by obtain⟨og,gg,gc,gd⟩:=id g;obtain⟨od,dd,_,dn,de⟩:=d;unfold Builtin.SmallTypes.nextOf;refine wpAny_bind (wpAny_callSpecial?_slot (name:=Str.ofString "__next__") g.typeIs F.slot_tuple_iterator_next (wpAny_call_entry F.slot_tuple_iterator_next g.typeIs F.entry_tuple_iterator_next ?_ (F.args_tuple_iterator_next_1 _)));show wpAny _ _ (field (.ref j) 0 >>= _) _ _ s;refine wpAny_bind (wpAny_field gg gd (x:= .ref t) rfl ?_);show wpAny _ _ (if(Value.ref t==Value.none)=true then _ else _) _ _ s;rw[gJ (show ¬((Value.ref t==Value.none)=true)from fun q=>nomatch q)];show wpAny _ _ (field (.ref j) 1 >>= _) _ _ s;refine wpAny_bind (wpAny_field gg gd (x:= .int i 0) rfl ?_);refine wpAny_bind (wpAny_seqItems dd de ?_);simp only[fC,e];refine wpAny_bind (wpAny_setField gg gd (by simp) (wpAny_pure ⟨x,rfl,wpAny_pure (k _ ?_ (Heap.SameBut.update ..))⟩));exact⟨_,fN _ gg (Obj.isFreed_of_fields (Obj.data_mapFields gd _)),(Obj.cls_mapFields ..).trans gc,by rw[Obj.data_mapFields gd];simp[rawInt]⟩
theorem zQ {j t:Zx} {i:Nat} {its} {Q:Zb} (hh:A.handled=none) (g:s.heap.IsTupleIter j t i) (d:s.heap.IsTuple t its) (e:its[i]?=none)
  (k:∀h' x,Heap.ExtBut j s.heap h'->(∃o,h'.get? x=some o/\o.cls= .type "StopIteration")->E (.ref x) {s with heap:=h'}):wpAny (model prog w) A (Builtin.SmallTypes.nextOf (.ref j)) Q E s:=by
 obtain⟨og,gg,gc,gd⟩:=id g;obtain⟨od,dd,_,dn,de⟩:=d;unfold Builtin.SmallTypes.nextOf;refine wpAny_bind (wpAny_callSpecial?_slot (name:=Str.ofString "__next__") g.typeIs F.slot_tuple_iterator_next (wpAny_call_entry F.slot_tuple_iterator_next g.typeIs F.entry_tuple_iterator_next ?_ (F.args_tuple_iterator_next_1 _)));show wpAny _ _ (field (.ref j) 0 >>= _) _ _ s;refine wpAny_bind (wpAny_field gg gd (x:= .ref t) rfl ?_);show wpAny _ _ (if(Value.ref t==Value.none)=true then _ else _) _ _ s;rw[gJ (show ¬((Value.ref t==Value.none)=true)from fun q=>nomatch q)];show wpAny _ _ (field (.ref j) 1 >>= _) _ _ s;refine wpAny_bind (wpAny_field gg gd (x:= .int i 0) rfl ?_);refine wpAny_bind (wpAny_seqItems dd de ?_);simp only[fC,e];refine wpAny_bind (wpAny_rule (wpAny_bind (wpAny_setField gg gd (by simp) ?_)));show wpAny _ _ (newExc (.type "StopIteration") [] >>= _) _ _ _;refine wpAny_bind ?_;simp only[newExc,newTuple];refine wpAny_bind (wpAny_newObj_type ?_ (by size_fits));refine wpAny_bind (m:=firstArgMember _ _) (wpAny_of_eq (a:=Value.none) (by first|rfl|(unfold firstArgMember;rfl)) ?_);refine wpAny_newObj_type ?_ (by size_fits);simp only[raiseNew];refine wpAny_bind (wpAny_handled ?_);first|rw[hh]|rw[show A.in1.handled=none from hh]
 exact wpAny_bind (wpAny_pure (wpAny_throw (k _ _ (((Heap.SameBut.update ..).extBut.push _).push _) ⟨_,fH _ rfl,rfl⟩)))
end
theorem SqT.old {X:Cx} {pz:Za} {σ:St} {H:Hp} {s:Zy} {a:Zx} {xs:List V} (I:Inv X pz σ H s) (h:SqT X.K H a xs):a<s.heap.objs.size:=by obtain⟨its,_,p,_⟩:=I.tuple h;obtain⟨o,e,_⟩:=p;exact fG e
def SI (c:String) (h:Zt) (j t:Zx) (i:Nat):Prop:=∃o,h.get? j=some o/\o.cls= .type c/\o.data= .fields #[.ref t,.int i 0]
theorem SI.extBut {c:String} {h h':Zt} {j b t:Zx} {i:Nat} (g:SI c h j t i) (e:Heap.ExtBut b h h') (n:j≠b):SI c h' j t i:=let⟨o,e1,r⟩:=g;⟨o,e _ _ n e1,r⟩
structure Sk where
 it:String
 S:Zt->Zx->Array Zz->Prop
 Sq:Zp->Hp->Zx->List V->Prop
 ext:∀{h h':Zt} {a b:Zx} {xs:Array Zz},S h a xs->Heap.ExtBut b h h'->a≠b->S h' a xs
 push:∀{h:Zt} {a:Zx} {xs:Array Zz},S h a xs->∀o,S (h.push o) a xs
 nx:∀{prog:Zu} {w:Zv} {A:Zw} {E:Zb} {s:Zy} {j t:Zx} {i:Nat} {its:Array Zz} {x:Zz} {Q:Zb},SI it s.heap j t i->S s.heap t its->its[i]?=some x->(∀h',SI it h' j t (i+ 1)->Heap.SameBut j s.heap h'->Q x {s with heap:=h'})->wpAny (model prog w) A (Builtin.SmallTypes.nextOf (.ref j)) Q E s
 ne:∀{prog:Zu} {w:Zv} {A:Zw} {E:Zb} {s:Zy} {j t:Zx} {i:Nat} {its:Array Zz} {Q:Zb},A.handled=none->SI it s.heap j t i->S s.heap t its->its[i]?=none->(∀h' x,Heap.ExtBut j s.heap h'->(∃o,h'.get? x=some o/\o.cls= .type "StopIteration")->E (.ref x) {s with heap:=h'})->wpAny (model prog w) A (Builtin.SmallTypes.nextOf (.ref j)) Q E s
 iter:∀{prog:Zu} {w:Zv} {A:Zw} {E:Zb} {s:Zy} {t:Zx} {its:Array Zz} {Q:Zb},S s.heap t its->Q (.ref s.heap.objs.size) {s with heap:=s.heap.push {cls:= .type it,data:= .fields #[.ref t,.int 0 0]}}->wpAny (model prog w) A (pyIter (.ref t)) Q E s
 inv:∀{X:Cx} {pz:Za} {σ:St} {H:Hp} {s:Zy} {a:Zx} {xs:List V},Inv X pz σ H s->Sq X.K H a xs->∃its,iX xs its/\S s.heap a its.toArray/\xs.length<=sizeLine
 inj:∀{X:Cx} {pz:Za} {σ:St} {H:Hp} {s:Zy} {a:Zx} {xs ys:List V},Inv X pz σ H s->Sq X.K H a xs->Sq X.K H a ys->xs=ys
 old:∀{X:Cx} {pz:Za} {σ:St} {H:Hp} {s:Zy} {a:Zx} {xs:List V},Inv X pz σ H s->Sq X.K H a xs->a<s.heap.objs.size
def tS:Sk:=⟨"tuple_iterator",Heap.IsTuple,SqT,fun a b c=>a.extBut b c,fun a o=>a.push o,fun a b c d=>G6 a b c d,fun a b c d e=>zQ a b c d e,fun a b=>wpAny_pyIter_tuple a b,fun I q=>I.tuple q,fun I a b=>I.tuple_inj a b,fun I q=>SqT.old I q⟩
def lS:Sk:=⟨"list_iterator",Heap.IsList,SqL,fun a b c=>a.extBut b c,fun a o=>a.push o,fun a b c d=>wpAny_nextOf_list_item a b c d,fun a b c d e=>wpAny_nextOf_list_end a b c d e,fun a b=>wpAny_pyIter_list a b,fun I q=>let⟨its,r,p,z⟩:=I.list q;⟨its,r,p.isList,z⟩,fun I a b=>I.list_inj a b,fun I q=>SqL.old I q⟩
section
variable {prog:Zu} {w:Zv} {A:Zw} {E:Zb} {s:Zy}
theorem E1 {u1 u2:Sk} {z TI TO j1 j2 t1 t2:Zx} {k1 k2:Nat} {xs ys:Array Zz} {x y a b:Zz} {Q:Zb} (D:ZipApart z TI TO j1 j2 t1 t2)
  (gz:IsZip s.heap z TI TO .none) (gI:IsPair s.heap TI (.ref j1) (.ref j2)) (gO:IsPair s.heap TO a b)
  (g1:SI u1.it s.heap j1 t1 k1) (g2:SI u2.it s.heap j2 t2 k2) (d1:u1.S s.heap t1 xs) (d2:u2.S s.heap t2 ys) (ex:xs[k1]?=some x) (ey:ys[k2]?=some y)
  (k:∀h',IsZip h' z TI TO (rawInt s.heap.objs.size)->IsPair h' TO x y->SI u1.it h' j1 t1 (k1+ 1)->SI u2.it h' j2 t2 (k2+ 1)->IsPair h' s.heap.objs.size x y->h'.objs.size=s.heap.objs.size+ 1->
   (∀c o,c≠z->c≠TO->c≠j1->c≠j2->s.heap.get? c=some o->h'.get? c=some o)->Q (.ref s.heap.objs.size) {s with heap:=h'}):
  wpAny (model prog w) A (Builtin.«zip.__next__» ⟨[.ref z],[]⟩) (fun fin s'=>∃v,fin= .done (.ret v)/\Q v s') E s:=by
 show wpAny _ _ (field (.ref z) 2 >>= _) _ _ _;refine wpAny_bind (wpAny_field gz rfl (x:= .bool false) rfl ?_);show wpAny _ _ (field (.ref z) 3 >>= _) _ _ _;refine wpAny_bind (wpAny_field gz rfl (x:= .ref TI) rfl ?_);refine wpAny_bind (wpAny_seqItems gI rfl ?_);show wpAny _ _ (Builtin.SmallTypes.ownedTupleIsFree (.ref z) >>= _) _ _ _;refine wpAny_bind ?_;unfold Builtin.SmallTypes.ownedTupleIsFree;refine wpAny_bind (wpAny_field gz rfl (x:= .none) rfl (wpAny_pure ?_));simp only[if_true];refine wpAny_bind (wpAny_rule (wpAny_bind (wpAny_field gz rfl (x:= .ref TO) rfl ?_)));refine wpAny_bind (wpAny_setField_rec gz (by simp) fun q1 gz1 b1=>?_);replace gz1:IsZip q1 z TI TO .ellipsis:=gz1;refine wpAny_bind ?_;simp only[List.zipIdx_cons,List.zipIdx_nil,List.forIn_cons,List.forIn_nil];refine wpAny_bind (wpAny_bind (wpAny_onRaise ?_));show wpAny _ _ (Builtin.SmallTypes.nextOf (.ref j1) >>= _) _ _ _;refine wpAny_bind (u1.nx (g1.extBut b1.extBut D.i1z) (u1.ext d1 b1.extBut D.l1z) ex fun q2 g12 b2=>wpAny_pure ?_);have gO2:IsPair q2 TO a b:=b2.extBut _ _ D.TOi1 (b1.extBut _ _ D.TOz gO);refine wpAny_bind (wpAny_seqItems gO2 rfl (wpAny_bind (wpAny_updateSeq_pair gO2 fun q3 gO3 b3=>?_)));replace gO3:IsPair q3 TO x b:=gO3;refine wpAny_bind (wpAny_letGo (wpAny_pure (wpAny_bind (wpAny_bind (wpAny_onRaise ?_)))));show wpAny _ _ (Builtin.SmallTypes.nextOf (.ref j2) >>= _) _ _ _;refine wpAny_bind (u2.nx (((g2.extBut b1.extBut D.i2z).extBut b2.extBut D.i12.symm).extBut b3.extBut D.TOi2.symm) (u2.ext (u2.ext (u2.ext d2 b1.extBut D.l2z) b2.extBut D.l2i1) b3.extBut D.l2TO) ey fun q4 g24 b4=>wpAny_pure ?_);have gO4:IsPair q4 TO x b:=b4.extBut _ _ D.TOi2 gO3;refine wpAny_bind (wpAny_seqItems gO4 rfl (wpAny_bind (wpAny_updateSeq_pair gO4 fun q5 gO5 b5=>?_)));replace gO5:IsPair q5 TO x y:=gO5;refine wpAny_bind (wpAny_letGo (wpAny_pure (wpAny_pure (wpAny_bind (wpAny_seqItems gO5 rfl (wpAny_bind (wpAny_newTuple ?_)))))));have sz:q5.objs.size=s.heap.objs.size:=by rw[b5.1,b4.1,b3.1,b2.1,b1.1]
 have gz5:IsZip q5 z TI TO .ellipsis:=b5.extBut _ _ D.TOz.symm (b4.extBut _ _ D.i2z.symm (b3.extBut _ _ D.TOz.symm (b2.extBut _ _ D.i1z.symm gz1)));have kp5:∀c o,c≠z->c≠TO->c≠j1->c≠j2->s.heap.get? c=some o->q5.get? c=some o:=fun c o n1 n2 n3 n4 e=>
  b5.extBut _ _ n2 (b4.extBut _ _ n4 (b3.extBut _ _ n2 (b2.extBut _ _ n3 (b1.extBut _ _ n1 e))));have g15:SI u1.it q5 j1 t1 (k1+ 1):=((g12.extBut b3.extBut D.TOi1.symm).extBut b4.extBut D.i12).extBut b5.extBut D.TOi1.symm;have g25:SI u2.it q5 j2 t2 (k2+ 1):=g24.extBut b5.extBut D.TOi2.symm;have zlt:z<q5.objs.size:=fG gz5;show wpAny _ _ (Builtin.SmallTypes.ownedTupleHandOut (.ref z) (.ref q5.objs.size) >>= _) _ _ _;refine wpAny_bind ?_;unfold Builtin.SmallTypes.ownedTupleHandOut;have gz6:IsZip (q5.push {cls:= .type "tuple",data:= .seq #[x,y]}) z TI TO .ellipsis:=fJ _ gz5;refine wpAny_bind (wpAny_setField_rec gz6 (by simp) fun q7 gz7 b7=>?_);replace gz7:IsZip q7 z TI TO (rawInt q5.objs.size):=gz7;refine wpAny_setField_rec gz7 (by simp) fun q8 gz8 b8=>?_;replace gz8:IsZip q8 z TI TO (rawInt q5.objs.size):=gz8;have up:∀c o,c≠z->q5.get? c=some o->q8.get? c=some o:=fun c o n1 e=>b8.extBut _ _ n1 (b7.extBut _ _ n1 (fJ _ e));have gT8:IsPair q8 q5.objs.size x y:=b8.extBut _ _ (cK zlt) (b7.extBut _ _ (cK zlt) (fH _ rfl));have sz8:q8.objs.size=q5.objs.size+ 1:=by rw[b8.1,b7.1,fK]
 rw[sz]at gz8 gT8 sz8;refine wpAny_pure ⟨_,rfl,?_⟩;show Q (.ref q5.objs.size) _;rw[sz];refine k q8 gz8 (up _ _ D.TOz gO5) ?_ ?_ gT8 sz8 fun c o n1 n2 n3 n4 e=>up c o n1 (kp5 c o n1 n2 n3 n4 e);·obtain⟨o,e,r⟩:=g15;exact⟨o,up _ o D.i1z e,r⟩
 ·obtain⟨o,e,r⟩:=g25;exact⟨o,up _ o D.i2z e,r⟩
theorem G7 {u1 u2:Sk} {z TI TO j1 j2 t1 t2:Zx} {k1 k2:Nat} {xs ys:Array Zz} {a b:Zz} {Q:Fin->Zy->Prop} (hh:A.handled=none) (D:ZipApart z TI TO j1 j2 t1 t2)
  (gz:IsZip s.heap z TI TO .none) (gI:IsPair s.heap TI (.ref j1) (.ref j2)) (gO:IsPair s.heap TO a b)
  (g1:SI u1.it s.heap j1 t1 k1) (g2:SI u2.it s.heap j2 t2 k2) (d1:u1.S s.heap t1 xs) (d2:u2.S s.heap t2 ys) (hend:xs[k1]?=none\/ys[k2]?=none)
  (k:∀h' e,(∀c o,c≠z->c≠TO->c≠j1->c≠j2->s.heap.get? c=some o->h'.get? c=some o)->(∃o,h'.get? e=some o/\o.cls= .type "StopIteration")->E (.ref e) {s with heap:=h'}):
  wpAny (model prog w) A (Builtin.«zip.__next__» ⟨[.ref z],[]⟩) Q E s:=by
 show wpAny _ _ (field (.ref z) 2 >>= _) _ _ _;refine wpAny_bind (wpAny_field gz rfl (x:= .bool false) rfl ?_);show wpAny _ _ (field (.ref z) 3 >>= _) _ _ _;refine wpAny_bind (wpAny_field gz rfl (x:= .ref TI) rfl ?_);refine wpAny_bind (wpAny_seqItems gI rfl ?_);show wpAny _ _ (Builtin.SmallTypes.ownedTupleIsFree (.ref z) >>= _) _ _ _;refine wpAny_bind ?_;unfold Builtin.SmallTypes.ownedTupleIsFree;refine wpAny_bind (wpAny_field gz rfl (x:= .none) rfl (wpAny_pure ?_));simp only[if_true];refine wpAny_bind (wpAny_rule (wpAny_bind (wpAny_field gz rfl (x:= .ref TO) rfl ?_)));refine wpAny_bind (wpAny_setField_rec gz (by simp) fun q1 gz1 b1=>?_);replace gz1:IsZip q1 z TI TO .ellipsis:=gz1;refine wpAny_bind ?_;simp only[List.zipIdx_cons,List.zipIdx_nil,List.forIn_cons,List.forIn_nil];refine wpAny_bind (wpAny_bind (wpAny_onRaise ?_));show wpAny _ _ (Builtin.SmallTypes.nextOf (.ref j1) >>= _) _ _ _
 cases ex:xs[k1]? with
 |none=>
  refine wpAny_bind (u1.ne hh (g1.extBut b1.extBut D.i1z) (u1.ext d1 b1.extBut D.l1z) ex fun q2 e b2 he=>?_);obtain⟨oe,hoe,hce⟩:=he;have gz2:IsZip q2 z TI TO .ellipsis:=b2 _ _ D.i1z.symm gz1;have nz:e≠z:=fun q=>by subst q;rw[gz2]at hoe;cases hoe;simp at hce
  refine wpAny_setField_rec gz2 (by simp) fun q3 _ b3=>k q3 e (fun c o n1 _ n3 _ q=>b3.extBut _ _ n1 (b2 _ _ n3 (b1.extBut _ _ n1 q))) ⟨oe,b3.extBut _ _ nz hoe,hce⟩
 |some x=>
  have ey:ys[k2]?=none:=hend.elim (fun q=>by rw[ex]at q;cases q) id;refine wpAny_bind (u1.nx (g1.extBut b1.extBut D.i1z) (u1.ext d1 b1.extBut D.l1z) ex fun q2 g12 b2=>wpAny_pure ?_);have gO2:IsPair q2 TO a b:=b2.extBut _ _ D.TOi1 (b1.extBut _ _ D.TOz gO);refine wpAny_bind (wpAny_seqItems gO2 rfl (wpAny_bind (wpAny_updateSeq_pair gO2 fun q3 gO3 b3=>?_)));refine wpAny_bind (wpAny_letGo (wpAny_pure (wpAny_bind (wpAny_bind (wpAny_onRaise ?_)))));show wpAny _ _ (Builtin.SmallTypes.nextOf (.ref j2) >>= _) _ _ _;refine wpAny_bind (u2.ne hh (((g2.extBut b1.extBut D.i2z).extBut b2.extBut D.i12.symm).extBut b3.extBut D.TOi2.symm) (u2.ext (u2.ext (u2.ext d2 b1.extBut D.l2z) b2.extBut D.l2i1) b3.extBut D.l2TO) ey fun q4 e b4 he=>?_);obtain⟨oe,hoe,hce⟩:=he;have gz4:IsZip q4 z TI TO .ellipsis:=b4 _ _ D.i2z.symm (b3.extBut _ _ D.TOz.symm (b2.extBut _ _ D.i1z.symm gz1));have nz:e≠z:=fun q=>by subst q;rw[gz4]at hoe;cases hoe;simp at hce
  refine wpAny_setField_rec gz4 (by simp) fun q5 _ b5=>k q5 e (fun c o n1 n2 n3 n4 q=>b5.extBut _ _ n1 (b4 _ _ n4 (b3.extBut _ _ n2 (b2.extBut _ _ n3 (b1.extBut _ _ n1 q))))) ⟨oe,b5.extBut _ _ nz hoe,hce⟩
theorem Ba {u1 u2:Sk} {z TI TO j1 j2 t1 t2:Zx} {k1 k2:Nat} {xs ys:Array Zz} {x y a b:Zz} {Q:Option Zz->Zy->Prop} (D:ZipApart z TI TO j1 j2 t1 t2)
  (gz:IsZip s.heap z TI TO .none) (gI:IsPair s.heap TI (.ref j1) (.ref j2)) (gO:IsPair s.heap TO a b)
  (g1:SI u1.it s.heap j1 t1 k1) (g2:SI u2.it s.heap j2 t2 k2) (d1:u1.S s.heap t1 xs) (d2:u2.S s.heap t2 ys) (ex:xs[k1]?=some x) (ey:ys[k2]?=some y)
  (k:∀h',IsZip h' z TI TO (rawInt s.heap.objs.size)->IsPair h' TO x y->SI u1.it h' j1 t1 (k1+ 1)->SI u2.it h' j2 t2 (k2+ 1)->IsPair h' s.heap.objs.size x y->h'.objs.size=s.heap.objs.size+ 1->
   (∀c o,c≠z->c≠TO->c≠j1->c≠j2->s.heap.get? c=some o->h'.get? c=some o)->Q (some (.ref s.heap.objs.size)) {s with heap:=h'}):
  wpAny (model prog w) A (pyNext (.ref z)) Q E s:=by
 have tz:s.TypeIs (.ref z) "zip":=⟨_,gz,rfl⟩;unfold pyNext;exact wpAny_bind (wpAny_attempt (wpAny_callSpecial?_slot (name:=Str.ofString "__next__") tz F.slot_zip_next (wpAny_call_entry F.slot_zip_next tz F.entry_zip_next
   (E1 D gz gI gO g1 g2 d1 d2 ex ey fun h' a1 a2 a3 a4 a5 a6 a7=>wpAny_pure (k h' a1 a2 a3 a4 a5 a6 a7)) (F.args_zip_next_1 _))))
theorem uG {u1 u2:Sk} {z TI TO j1 j2 t1 t2:Zx} {k1 k2:Nat} {xs ys:Array Zz} {a b:Zz} {Q:Option Zz->Zy->Prop} (hh:A.handled=none) (D:ZipApart z TI TO j1 j2 t1 t2)
  (gz:IsZip s.heap z TI TO .none) (gI:IsPair s.heap TI (.ref j1) (.ref j2)) (gO:IsPair s.heap TO a b)
  (g1:SI u1.it s.heap j1 t1 k1) (g2:SI u2.it s.heap j2 t2 k2) (d1:u1.S s.heap t1 xs) (d2:u2.S s.heap t2 ys) (hend:xs[k1]?=none\/ys[k2]?=none)
  (k:∀h',(∀c o,c≠z->c≠TO->c≠j1->c≠j2->s.heap.get? c=some o->h'.get? c=some o)->Q none {s with heap:=h'}):wpAny (model prog w) A (pyNext (.ref z)) Q E s:=by have tz:s.TypeIs (.ref z) "zip":=⟨_,gz,rfl⟩;unfold pyNext;refine wpAny_bind (wpAny_attempt (wpAny_callSpecial?_slot (name:=Str.ofString "__next__") tz F.slot_zip_next (wpAny_call_entry F.slot_zip_next tz F.entry_zip_next (G7 hh D gz gI gO g1 g2 d1 d2 hend fun h' e kp he=>?_) (F.args_zip_next_1 _))));obtain⟨o,ho,hc⟩:=he;exact wpAny_bind (wpAny_isInstance (T:="StopIteration") (b:=true) ⟨o,ho,hc⟩ isSubtype_stop (wpAny_pure (k _ kp)))
end
abbrev zt1 (u1:Sk) (h:Zt) (t1:Zx):Zt:=h.push {cls:= .type u1.it,data:= .fields #[.ref t1,.int 0 0]}
abbrev zt2 (u1 u2:Sk) (h:Zt) (t1 t2:Zx):Zt:=(zt1 u1 h t1).push {cls:= .type u2.it,data:= .fields #[.ref t2,.int 0 0]}
abbrev zt3 (u1 u2:Sk) (h:Zt) (t1 t2:Zx):Zt:=(zt2 u1 u2 h t1 t2).push {cls:= .type "tuple",data:= .seq #[.ref h.objs.size,.ref (zt1 u1 h t1).objs.size]}
abbrev zt4 (u1 u2:Sk) (h:Zt) (t1 t2:Zx):Zt:=(zt3 u1 u2 h t1 t2).push {cls:= .type "tuple",data:= .seq #[.none,.none]}
abbrev zt5 (u1 u2:Sk) (h:Zt) (t1 t2:Zx):Zt:=(zt4 u1 u2 h t1 t2).push {cls:= .type "zip",data:= .fields #[.none,.bool false,.bool false,.ref (zt2 u1 u2 h t1 t2).objs.size,.ref (zt3 u1 u2 h t1 t2).objs.size]}
theorem G8 (u1 u2:Sk) (t1 t2:Zx) (xs ys:Array Zz):Meets (Builtin.«zip.__new__» ⟨[.type "zip",.ref t1,.ref t2],[]⟩) (fun _ R s=>u1.S s.heap t1 xs/\u2.S s.heap t2 ys/\R (.ok (.ret (.ref (zt4 u1 u2 s.heap t1 t2).objs.size))) {s with heap:=zt5 u1 u2 s.heap t1 t2}):=
 .of_wp fun prog w A R s h=>by obtain⟨hp,g,d,tk,os⟩:=s;obtain⟨d1,d2,h⟩:=h;have hsub:=sub_zip;have dd1:u1.S (Shared.heap ⟨hp,g,d,tk,os⟩) t1 xs:=d1;have dd2:u2.S (Shared.heap ⟨hp.push {cls:= .type u1.it,data:= .fields #[.ref t1,.int 0 0]},g,d,tk,os⟩) t2 ys:=u2.push d2 _;wp_walk using u1.iter dd1,u2.iter dd2;exact⟨_,rfl,h⟩
section
variable {prog:Zu} {w:Zv} {A:Zw} {E:Zb} {s:Zy}
theorem Bb {u1 u2:Sk} {t1 t2:Zx} {xs ys:Array Zz} {Q:Zb} (d1:u1.S s.heap t1 xs) (d2:u2.S s.heap t2 ys)
  (k:∀h',IsZip h' (s.heap.objs.size+ 4) (s.heap.objs.size+ 2) (s.heap.objs.size+ 3) .none->IsPair h' (s.heap.objs.size+ 2) (.ref s.heap.objs.size) (.ref (s.heap.objs.size+ 1))->
   IsPair h' (s.heap.objs.size+ 3) .none .none->SI u1.it h' s.heap.objs.size t1 0->SI u2.it h' (s.heap.objs.size+ 1) t2 0->(∀c o,s.heap.get? c=some o->h'.get? c=some o)->Q (.ref (s.heap.objs.size+ 4)) {s with heap:=h'}):
  wpAny (model prog w) A (call (.type "zip") [.ref t1,.ref t2]) Q E s:=by
 refine callType_new F.called_zip (by decide) (F.typeCall_zip_2 _ _) (F.newCall_zip_2 _ _) (fun obj=>F.args_object_init_3 obj _ _) F.entry_zip_new (G8 u1 u2 t1 t2 xs ys) ⟨d1,d2,?_⟩;have z1:(zt1 u1 s.heap t1).objs.size=s.heap.objs.size+ 1:=fK ..;have z2:(zt2 u1 u2 s.heap t1 t2).objs.size=s.heap.objs.size+ 2:=by rw[fK,z1]
 have z3:(zt3 u1 u2 s.heap t1 t2).objs.size=s.heap.objs.size+ 3:=by rw[fK,z2]
 have z4:(zt4 u1 u2 s.heap t1 t2).objs.size=s.heap.objs.size+ 4:=by rw[fK,z3]
 have m5:(zt5 u1 u2 s.heap t1 t2).get? (zt4 u1 u2 s.heap t1 t2).objs.size=some _:=fH _ rfl;have m4:(zt5 u1 u2 s.heap t1 t2).get? (zt3 u1 u2 s.heap t1 t2).objs.size=some _:=fJ _ (fH _ rfl);have m3:(zt5 u1 u2 s.heap t1 t2).get? (zt2 u1 u2 s.heap t1 t2).objs.size=some _:=fJ _ (fJ _ (fH _ rfl));have m2:(zt5 u1 u2 s.heap t1 t2).get? (zt1 u1 s.heap t1).objs.size=some _:=fJ _ (fJ _ (fJ _ (fH _ rfl)));have m1:(zt5 u1 u2 s.heap t1 t2).get? s.heap.objs.size=some _:=fJ _ (fJ _ (fJ _ (fJ _ (fH _ rfl))));show _/\_;rw[z2,z3,z4]at m5;rw[z1,z2]at m3;rw[z3]at m4;rw[z1]at m2;rw[z4];exact⟨⟨_,m5,rfl⟩,k _ m5 m3 m4 ⟨_,m1,rfl,rfl⟩ ⟨_,m2,rfl,rfl⟩ fun c o q=>fJ _ (fJ _ (fJ _ (fJ _ (fJ _ q))))⟩
end
def Itg (u1 u2:Sk) (K:Zp) (a b:Zx):It:=
 ⟨fun i H=>∃xs ys x y,u1.Sq K H a xs/\u2.Sq K H b ys/\xs[i]?=some x/\ys[i]?=some y,
   fun i H v H'=>∃T x y,v= .ref T/\H T=none/\H'=upd H T (.tup [x,y])/\(∀xs,u1.Sq K H a xs->xs[i]?=some x)/\∀ys,u2.Sq K H b ys->ys[i]?=some y,
   fun i H=>∃xs ys,u1.Sq K H a xs/\u2.Sq K H b ys/\i=min xs.length ys.length⟩
def ZTSt (u1 u2:Sk) (z TI TO i1 i2 a b:Zx) (i:Nat) (h:Zt):Prop:=IsZip h z TI TO .none/\IsPair h TI (.ref i1) (.ref i2)/\(∃u v,IsPair h TO u v)/\SI u1.it h i1 a i/\SI u2.it h i2 b i
theorem Bc {u1 u2:Sk} {P:Zu} {w:Zv} {K:Zp} {es:List Zr} {kk:Nat} {tp:Pos} {a b z TI TO i1 i2:Zx} (D:ZipApart z TI TO i1 i2 a b):CD P w K (.Tuple es kk tp) (Itg u1 u2 K a b) [z,TI,TO,i1,i2] z (ZTSt u1 u2 z TI TO i1 i2 a b) where
 mem:=by simp
 obj:=fun i h st c hc=>by
  obtain⟨g1,g2,⟨u,v,g3⟩,⟨o4,g4,_,d4⟩,⟨o5,g5,_,d5⟩⟩:=st;simp only[ak,bD,or_false]at hc;rcases hc with e|e|e|e|e<;>subst e;·exact⟨_,g1,fun v q=>nomatch q⟩
  ·exact⟨_,g2,fun v q=>nomatch q⟩
  ·exact⟨_,g3,fun v q=>nomatch q⟩
  ·exact⟨_,g4,fun v q=>by rw[d4]at q;cases q⟩
  ·exact⟨_,g5,fun v q=>by rw[d5]at q;cases q⟩
 keep:=fun i h h' st k=>by obtain⟨g1,g2,⟨u,v,g3⟩,⟨o4,g4,r4⟩,⟨o5,g5,r5⟩⟩:=st;exact⟨k z (by simp) _ g1,k TI (by simp) _ g2,⟨u,v,k TO (by simp) _ g3⟩,⟨o4,k i1 (by simp) o4 g4,r4⟩,⟨o5,k i2 (by simp) o5 g5,r5⟩⟩
 item:=by
  intro X hP hw hK hc i pz s σ H E I hf st hg;subst hP hw hK;obtain⟨xs,ys,x,y,qx,qy,ex,ey⟩:=hg;obtain⟨i1s,r1,p1,z1⟩:=u1.inv I qx;obtain⟨i2s,r2,p2,z2⟩:=u2.inv I qy;obtain⟨g1,g2,⟨u,v,g3⟩,g4,g5⟩:=st;obtain⟨ux,hux,rr1⟩:=r1.get ex;obtain⟨uy,huy,rr2⟩:=r2.get ey;have hw:∀c∈[z,TO,i1,i2],yw X pz H c:=fun c hc=>hf c (by simp only[ak,bD,or_false]at hc⊢;first|(rcases hc with h|h|h|h<;>simp[h])|simp[hc]);refine Ba D g1 g2 g3 g4 g5 (show u1.S s.heap a i1s.toArray from p1) (show u2.S s.heap b i2s.toArray from p2) (x:=ux) (y:=uy) (by simpa using hux) (by simpa using huy) fun h1 a1 a2 a3 a4 a5 a6 hk=>?_;have kk1:∀c o,c∉[z,TO,i1,i2]->s.heap.get? c=some o->h1.get? c=some o:=fun c o hc e=>hk c o (fun q=>hc (by simp[q])) (fun q=>hc (by simp[q])) (fun q=>hc (by simp[q])) (fun q=>hc (by simp[q])) e;have J1:Inv X pz σ H {s with heap:=h1,toks:=s.toks}:=I.turnedL kk1 hw;refine⟨.ref s.heap.objs.size,rfl,wpAny_letOwnedTupleGo_zip a1 fun h2 a1' sb=>?_⟩;have J2:Inv X pz σ H {s with heap:=h2,toks:=s.toks}:=Inv.turnedL (s:={s with heap:=h1,toks:=s.toks}) (h':=h2) (t':=s.toks) (ch:=[z]) J1 (fun c o hc e=>sb.extBut _ _ (fun q=>hc (by simp[q])) e) fun c hc=>hf c (by simp only[ak,bD,or_false]at hc⊢;first|(rcases hc with h|h|h|h<;>simp[h])|simp[hc]);have zlt:z<s.heap.objs.size:=fG g1;have ht2:yq h2 s.heap.objs.size #[ux,uy]:=⟨_,sb.extBut _ _ (cK zlt) a5,rfl,_,rfl,rfl⟩;obtain⟨fT,J3⟩:=I.pairNew (cM _) J2 ht2 rr1 rr2;refine⟨.ref s.heap.objs.size,_,J3,rfl,⟨_,x,y,rfl,fT,rfl,fun l hl=>by rw[u1.inj I hl qx];exact ex,fun l hl=>by rw[u2.inj I hl qy];exact ey⟩,
   ⟨a1',sb.extBut _ _ D.TIz (hk _ _ D.TIz D.TITO D.TIi1 D.TIi2 g2),⟨_,_,sb.extBut _ _ D.TOz a2⟩,a3.extBut sb.extBut D.i1z,a4.extBut sb.extBut D.i2z⟩,fun c hc=>?_⟩;rw[gr (fun q=>?_)];·exact(hf c hc).1
  ·have lt:c<s.heap.objs.size:=by
    obtain⟨o4,e4,_⟩:=g4;obtain⟨o5,e5,_⟩:=g5;simp only[ak,bD,or_false]at hc;rcases hc with e|e|e|e|e<;>subst e;·exact fG g1
    ·exact fG g2
    ·exact fG g3
    ·exact fG e4
    ·exact fG e5
   exact absurd lt (by rw[q];exact cF _)
 done:=by intro X hP hw hK hc i pz s σ H E I hf st hg;subst hP hw hK;obtain⟨xs,ys,qx,qy,ei⟩:=hg;obtain⟨i1s,r1,p1,z1⟩:=u1.inv I qx;obtain⟨i2s,r2,p2,z2⟩:=u2.inv I qy;obtain⟨g1,g2,⟨u,v,g3⟩,g4,g5⟩:=st;have l1:=r1.length;have l2:=r2.length;refine uG (I.ok.hd hc) D g1 g2 g3 g4 g5 (show u1.S s.heap a i1s.toArray from p1) (show u2.S s.heap b i2s.toArray from p2) ?_ fun h1 hk=>⟨rfl,I.turnedL (t':=s.toks) (ch:=[z,TO,i1,i2]) (fun c o hc e=>hk c o (fun q=>hc (by simp[q])) (fun q=>hc (by simp[q])) (fun q=>hc (by simp[q])) (fun q=>hc (by simp[q])) e) fun c hc=>hf c (by simp only[ak,bD,or_false]at hc⊢;first|(rcases hc with h|h|h|h<;>simp[h])|simp[hc])⟩;simp only[List.getElem?_toArray,List.getElem?_eq_none_iff];lia
 self:=fun _ _ _ _ _ st h=>wpAny_pyIter_zip st.1 h
def G9 (u1 u2:Sk) (K:Zp) (ta:TA):TI:=fun σ H R=>ta σ H fun vs H1=>∃a b,vs=[.ref a,.ref b]/\(∃xs,u1.Sq K H1 a xs)/\(∃ys,u2.Sq K H1 b ys)/\R (Itg u1 u2 K a b) H1
section
variable {X:Cx}
theorem E2 (u1 u2:Sk) {es:List Zr} {kk:Nat} {tp:Pos} {a b:Zr} {ta:TA} {p pos:Pos} (hg:Gl X "zip") (hm:X.mg "zip"=none) (ha:PA X [a,b] ta) (hs:autoParam (starEach [a,b] X.env=[(false,eval a X.env),(false,eval b X.env)]) auR._auto_1) (hs2:autoParam (starEach [b] X.env=[(false,eval b X.env)]) auR._auto_1):
  PI X (.Tuple es kk tp) (.Call (.Name "zip" p) [a,b] [] pos) (G9 u1 u2 X.K ta):=by
 intro pz s σ H R I h;refine Call_ (nS I hg hm G4 (fQ (thn (ha pos pz s σ H _ I h) ?_) (by rw[hs,hs2]) (by rw[hs2];rfl)));rintro us s1 ⟨vs,H1,I1,r1,q1⟩;obtain⟨l1,l2,e,⟨xs,q1⟩,⟨ys,q2⟩,q⟩:=q1;subst e;obtain⟨u,v,rfl,ru,rv⟩:=CG r1;cases ru;cases rv;obtain⟨i1s,w1,p1,z1⟩:=u1.inv I1 q1;obtain⟨i2s,w2,p2,z2⟩:=u2.inv I1 q2;have o1:@LT.lt Nat _ l1 s1.heap.objs.size:=u1.old I1 q1;have o2:@LT.lt Nat _ l2 s1.heap.objs.size:=u2.old I1 q2;refine Bb (show u1.S s1.heap l1 i1s.toArray from p1) (show u2.S s1.heap l2 i2s.toArray from p2) fun h1 hz hTI hTO hi1 hi2 hk=>wpAny_pyIter_zip hz ?_;have D:ZipApart (s1.heap.objs.size+ 4) (s1.heap.objs.size+ 2) (s1.heap.objs.size+ 3) s1.heap.objs.size (s1.heap.objs.size+ 1) l1 l2:=by constructor<;>exact fun(h:@Eq Nat _ _)=>by lia
 refine⟨_,_,_,_,H1,rfl,I1.kept (t':=s1.toks) hk,Bc D,⟨hz,hTI,⟨_,_,hTO⟩,hi1,hi2⟩,fun c hc=>?_,q⟩;have ge:s1.heap.objs.size<=c:=by simp only[ak,bD,or_false]at hc;rcases hc with h|h|h|h|h<;>rw[h]<;>first|exact cM _|exact cX _ _
 exact I1.fpOk ge (I1.hok.fresh ge)
theorem E3 {es:List Zr} {kk:Nat} {tp:Pos} {a b:Zr} {ta:TA} {p pos:Pos} (hg:Gl X "zip") (hm:X.mg "zip"=none) (ha:PA X [a,b] ta) (hs:autoParam (starEach [a,b] X.env=[(false,eval a X.env),(false,eval b X.env)]) auR._auto_1) (hs2:autoParam (starEach [b] X.env=[(false,eval b X.env)]) auR._auto_1):
  PI X (.Tuple es kk tp) (.Call (.Name "zip" p) [a,b] [] pos) (G9 tS tS X.K ta):=E2 tS tS hg hm ha hs hs2
end
section
variable {prog:Zu} {w:Zv} {A:Zw} {E:Zb} {s:Zy}
end
inductive Prs (H:Hp):List V->List (Str×V)->Prop
 |nil:Prs H [] []
 |cons {a:Zx} {p:Str×V} {l:List V} {m:List (Str×V)}:H a=some (.tup [.str p.1,p.2])->Prs H l m->Prs H (.ref a::l) (p::m)
section
variable {X:Cx} {pz:Za} {σ:St} {H:Hp} {d it t:Zx} {vs:List V} {A:Zw} {R:Result->Zy->Prop}
end
section
variable {X:Cx}
end
end L2.Internal
namespace BO.Internal
open PySem L2.Internal
def rIsi (K:Zp):List V->Hp->VK->Prop:=fun xs H Q=>∃x v c t b,xs=[x,v]/\(∀u,iY v u->u=c)/\xq K H x t/\dY K t c=some b/\Q (.bl b) H
theorem sz {n:Nat} (h:n<=100000):n<=sizeLine:=cH h (by decide)
theorem gb {H:Hp} {p:Zx} (h:H p=none) (o:HO):gB H (upd H p o):=fun b u q=>by rw[gr (gm q h)];exact q
theorem D3 {α:Type} (l:List α) (i:Int) (h0:0<=i) (h1:i<(l.length:Int)):∃c,atI l i=some c/\c∈l:=by
 have e:i=((i.toNat:Nat):Int):=by lia
 have hi:i.toNat<l.length:=by lia
 refine⟨l[i.toNat],?_,List.getElem_mem hi⟩;have z:atI l ((i.toNat:Nat):Int)=some l[i.toNat]:=gj (bB hi);rw[<-e]at z;exact z
def flN:V->Bool
 | .non=>true
 | .int _=>true
 | .str _=>true
 |_=>false
mutual
inductive Im (H:Hp):V->Dt->Prop where
 |flat {v:V} (h:flN v=true):Im H v (.flat v)
 |tup {a:Zx} {xs:List V} {ds:List Dt} (h:H a=some (.tup xs)) (hs:Ims H xs ds):Im H (.ref a) (.tup ds)
inductive Ims (H:Hp):List V->List Dt->Prop where
 |nil:Ims H [] []
 |cons {x:V} {d:Dt} {xs:List V} {ds:List Dt} (h:Im H x d) (hs:Ims H xs ds):Ims H (x::xs) (d::ds)
end
mutual
inductive Dta (H:Hp):V->Dt->Prop where
 |flat {v:V} (h:flN v=true):Dta H v (.flat v)
 |tup {a:Zx} {xs:List V} {ds:List Dt} (h:H a=some (.tup xs)) (hs:Be H xs ds):Dta H (.ref a) (.tup ds)
 |lst {a:Zx} {xs:List V} {ds:List Dt} (h:H a=some (.lst xs)) (hs:Be H xs ds):Dta H (.ref a) (.lst ds)
inductive Be (H:Hp):List V->List Dt->Prop where
 |nil:Be H [] []
 |cons {x:V} {d:Dt} {xs:List V} {ds:List Dt} (h:Dta H x d) (hs:Be H xs ds):Be H (x::xs) (d::ds)
end
def TK (H H':Hp):Prop:=∀a xs,H a=some (.tup xs)->H' a=some (.tup xs)
theorem gB.tk {H H':Hp} (s:gB H H'):TK H H':=fun a xs e=>s a _ e
mutual
theorem Im.mono {H H':Hp} (k:TK H H'):∀{v:V} {d:Dt},Im H v d->Im H' v d
 |_,_,.flat h=> .flat h
 |_,_,.tup h hs=> .tup (k _ _ h) (Ims.mono k hs)
theorem Ims.mono {H H':Hp} (k:TK H H'):∀{v:List V} {d:List Dt},Ims H v d->Ims H' v d
 |_,_,.nil=> .nil
 |_,_,.cons h hs=> .cons (Im.mono k h) (Ims.mono k hs)
end
theorem Be.length {H:Hp}:∀{xs:List V} {ds:List Dt},Be H xs ds->xs.length=ds.length
 |_,_,.nil=>rfl
 |_,_,.cons _ t=>by rw[aB,aB,Be.length t]
theorem Ims.length {H:Hp}:∀{xs:List V} {ds:List Dt},Ims H xs ds->xs.length=ds.length
 |_,_,.nil=>rfl
 |_,_,.cons _ t=>by rw[aB,aB,Ims.length t]
theorem Be.get {H:Hp}:∀{xs:List V} {ds:List Dt} {j:Nat} {x:V},Be H xs ds->xs[j]?=some x->∃d,ds[j]?=some d/\Dta H x d
 |_,_,0,_,.cons h _,e=>⟨_,rfl,by cases e;exact h⟩
 |_,_,j+ 1,_,.cons _ t,e=>by rw[bE]at e;obtain⟨d,e1,e2⟩:=Be.get t e;exact⟨d,by rw[bE];exact e1,e2⟩
theorem Ims.app {H:Hp}:∀{xs ys:List V} {ds es:List Dt},Ims H xs ds->Ims H ys es->Ims H (xs++ys) (ds++es)
 |_,_,_,_,.nil,h=>h
 |_,_,_,_,.cons a b,h=> .cons a (Ims.app b h)
inductive Bg {α β:Type} (F:α->β->Prop):List α->List β->Prop
 |nil:Bg F [] []
 |cons {a:α} {b:β} {l:List α} {m:List β}:F a b->Bg F l m->Bg F (a::l) (b::m)
theorem Bg.length {α β:Type} {F:α->β->Prop}:∀{l:List α} {m:List β},Bg F l m->l.length=m.length
 |_,_,.nil=>rfl
 |_,_,.cons _ t=>by rw[aB,aB,Bg.length t]
theorem Bg.get {α β:Type} {F:α->β->Prop}:∀{l:List α} {m:List β} {j:Nat} {x:α},Bg F l m->l[j]?=some x->∃y,m[j]?=some y/\F x y
 |_,_,0,_,.cons h _,e=>⟨_,rfl,by cases e;exact h⟩
 |_,_,j+ 1,_,.cons _ t,e=>by rw[bE]at e;obtain⟨d,e1,e2⟩:=Bg.get t e;exact⟨d,by rw[bE];exact e1,e2⟩
mutual
def okD:Dt->Prop
 | .flat _=>True
 | .tup l=>l.length<=100000/\Jf l
 | .lst l=>l.length<=100000/\Jf l
def Jf:List Dt->Prop
 |[]=>True
 |x::xs=>okD x/\Jf xs
end
def prL (p:Str×Int):Dt:= .tup [.flat (.str p.1),.flat (.int p.2)]
def prD (l:List (Str×Int)):Dt:= .tup (l.map prL)
inductive Us where
 |num (a p s:Int)
 |call (a p s x y:Int)
 |take (a p s:Int) (l:List (Str×Int))
 |case (a p s:Int) (l:List (Str×Int))
 |row (a p s x:Int)
def hdD (n:Str) (a p s:Int):List Dt:=[.flat (.str n),.flat (.int a),.flat (.int p),.flat (.int s)]
def Us.d:Us->Dt
 | .num a p s=> .tup (hdD "num" a p s)
 | .call a p s x y=> .tup (hdD "call" a p s++[.flat (.int x),.flat (.int y)])
 | .take a p s l=> .tup (hdD "take" a p s++[prD l])
 | .case a p s l=> .tup (hdD "case" a p s++[prD l])
 | .row a p s x=> .tup (hdD "row" a p s++[.flat (.int x)])
structure Mkg where
 s:Str
 f:Dt
 a:Int
 p:Int
def Mkg.d (m:Mkg):Dt:= .tup [.flat (.str m.s),m.f,.flat (.int m.a),.flat (.int m.p)]
def fU (a p s:V):List (Str×V):=[("at",a),("place",p),("slot",s)]
def fU1 (n:Str) (a p s x:V):List (Str×V):=[("at",a),("place",p),("slot",s),(n,x)]
def fU2 (a p s x y:V):List (Str×V):=[("at",a),("place",p),("slot",s),("arg",x),("out",y)]
def fM (s f a p:V):List (Str×V):=[("shape",s),("parts",f),("at",a),("place",p)]
def fB (p0 p1 p2 p3:Zx) (r:V):List (Str×V):=[("points",.ref p0),("makes",.ref p1),("uses",.ref p2),("flows",.ref p3),("root",r)]
structure Cs where
 M:Zx
 N:Zx
 C:Zx
 T:Zx
 K:Zx
 R:Zx
 B:Zx
def UsAt (c:Cs) (H:Hp) (v:V):Us->Prop
 | .num a p s=>∃x dx,v= .ref x/\H x=some (.ins c.N dx (fU (.int a) (.int p) (.int s)))
 | .call a p s y z=>∃x dx,v= .ref x/\H x=some (.ins c.C dx (fU2 (.int a) (.int p) (.int s) (.int y) (.int z)))
 | .take a p s l=>∃x dx f,v= .ref x/\H x=some (.ins c.T dx (fU1 "fields" (.int a) (.int p) (.int s) f))/\Im H f (prD l)/\l.length<=10
 | .case a p s l=>∃x dx f,v= .ref x/\H x=some (.ins c.K dx (fU1 "arms" (.int a) (.int p) (.int s) f))/\Im H f (prD l)/\l.length<=10
 | .row a p s y=>∃x dx,v= .ref x/\H x=some (.ins c.R dx (fU1 "out" (.int a) (.int p) (.int s) (.int y)))
def MkAt (c:Cs) (H:Hp) (v:V) (m:Mkg):Prop:=∃x dx f,v= .ref x/\H x=some (.ins c.M dx (fM (.str m.s) f (.int m.a) (.int m.p)))/\Im H f m.f/\sP m.f<=2/\okD m.f
def Fz:HO->Prop
 | .tup _=>True
 | .ins _ _ fs=>fs.length≠5\/∃v r,fs=(("at":Str),v)::r
 |_=>False
def FK (H H':Hp):Prop:=∀a o,H a=some o->Fz o->H' a=some o
theorem FK.tk {H H':Hp} (k:FK H H'):TK H H':=fun a xs e=>k a _ e trivial
theorem FK.trans {H H1 H2:Hp} (a:FK H H1) (b:FK H1 H2):FK H H2:=fun c o e f=>b c o (a c o e f) f
theorem v8 {J:It} {i:Nat} {te:TE} {Q:VK} {τ:St} {H1:Hp} {D:Zx} (n:Nat) (hn:n<sizeLine) (R:List V->Hp->Prop) (hR:∀xs H H',R xs H->TK H H'->R xs H') (hD:H1 D=none) (hτ:τ.set i none=τ)
  (hgo:∀k H,gB H1 H->k<n->J.go k H) (hst:∀H,gB H1 H->J.stop n H) (h0:R [] H1)
  (step:∀k H v H3 xs (Z:VK),gB H1 H->k<n->J.yld k H v H3->R xs H->xs.length=k->(∀y H5,gB H H5->R (xs++[y]) H5->Z y H5)->te (τ.set i (some v)) H3 Z)
  (hq:∀H' xs,gB H1 H'->R xs H'->xs.length=n->H' D=some (.lst xs)->Q (.ref D) H'):LcP J i uD te Q τ H1 D:=by
 have nd:∀(H5:Hp) (xs ys:List V),H5 D=some (.lst xs)->TK H5 (upd H5 D (.lst ys)):=fun H5 xs ys e a zs q=>by rw[gr (kS q e (fun z=>nomatch z))];exact q
 have up:∀{H:Hp} (o:HO),gB H1 H->gB H1 (upd H D o):=fun{H} o S b u e=>by rw[gr (gm e hD)];exact S b u e
 refine⟨fun k m σ' H2=>m=n-k/\k<=n/\(∃o,σ'=τ.set i o)/\gB H1 H2/\∃xs,H2 D=some (.lst xs)/\xs.length=k/\R xs H2,⟨n,by simp,cO _,⟨none,hτ.symm⟩,gb hD _,[],fY,rfl,hR _ _ _ h0 (gB.tk (gb hD _))⟩,?_⟩;rintro k m σ' H2 ⟨rfl,hk,⟨o,rfl⟩,S,xs,e,hl,hr⟩;by_cases hlt:k<n;·refine .inr ⟨hgo k H2 S hlt,fun v H3 y=>?_⟩;rw[br];refine step k H2 v H3 xs _ S hlt y hr hl fun y H5 S5 r5=>?_;refine⟨xs,S5 D _ e,by lia,n-(k+ 1),by lia,rfl,hlt,⟨some v,rfl⟩,up _ (S.trans S5),xs++[y],fY,by rw[aQ,hl];rfl,hR _ _ _ r5 (nd H5 _ _ (S5 D _ e))⟩
 ·have e1:k=n:=by lia
  subst e1;exact .inl ⟨hst H2 S,hq H2 xs S hr hl e⟩
theorem yH {K:Zp} {a:Zx} {xs:List V} {k:Nat} {H1 H:Hp} (e:H1 a=some (.lst xs)) (S:gB H1 H) (h:k<xs.length):(Itl K a).go k H:=⟨xs,xs[k],SqL.of (S a _ e),bB h⟩
theorem yI {K:Zp} {a:Zx} {xs:List V} {H1 H:Hp} (e:H1 a=some (.lst xs)) (S:gB H1 H):(Itl K a).stop xs.length H:=⟨xs,SqL.of (S a _ e),cM _⟩
theorem D4 {K:Zp} {a:Zx} {xs:List V} {k:Nat} {H1 H:Hp} (e:H1 a=some (.tup xs)) (S:gB H1 H) (h:k<xs.length):(Itt K a).go k H:=⟨xs,xs[k],SqT.of (S a _ e),bB h⟩
theorem D5 {K:Zp} {a:Zx} {xs:List V} {H1 H:Hp} (e:H1 a=some (.tup xs)) (S:gB H1 H):(Itt K a).stop xs.length H:=⟨xs,SqT.of (S a _ e),cM _⟩
inductive Ls (H:Hp):List Zx->List (List V)->Prop
 |nil:Ls H [] []
 |cons {a:Zx} {c:List V} {l:List Zx} {m:List (List V)}:H a=some (.lst c)->Ls H l m->Ls H (a::l) (c::m)
theorem Ls.get {H:Hp}:∀{l:List Zx} {m:List (List V)} {i:Nat} {a:Zx},Ls H l m->l[i]?=some a->∃c,m[i]?=some c/\H a=some (.lst c)
 |_,_,0,_,.cons h _,e=>⟨_,rfl,by cases e;exact h⟩
 |_,_,j+ 1,_,.cons _ t,e=>by rw[bE]at e;obtain⟨d,e1,e2⟩:=Ls.get t e;exact⟨d,by rw[bE];exact e1,e2⟩
structure Sd where
 b:Zx
 dx:Zx
 p0:Zx
 p1:Zx
 p2:Zx
 p3:Zx
 d:Zx
 q0:Zx
 q1:Zx
 q2:Zx
 q3:Zx
def Sd.ls (S:Sd):List Zx:=[S.p0,S.p1,S.p2,S.p3,S.d,S.q0,S.q1,S.q2,S.q3]
structure Bd where
 pts:List Int
 mks:List Mkg
 uss:List Us
 fls:List (Int×Int)
 root:Int
def flD (p:Int×Int):Dt:= .tup [.flat (.int p.1),.flat (.int p.2)]
structure BSx (c:Cs) (H:Hp) (S:Sd) (E D:Bd):Prop where
 nd:S.ls.Nodup
 ob:H S.b=some (.ins c.B S.dx (fB S.p0 S.p1 S.p2 S.p3 (.int D.root)))
 st:∃mv uv fv mv' uv' fv':List V,Ls H S.ls [D.pts.map V.int,mv,uv,fv,[.ref S.q0,.ref S.q1,.ref S.q2,.ref S.q3,.int E.root],E.pts.map V.int,mv',uv',fv']/\
  Bg (MkAt c H) mv D.mks/\Bg (UsAt c H) uv D.uss/\Ims H fv (D.fls.map flD)/\Ims H mv' (E.mks.map Mkg.d)/\Ims H uv' (E.uss.map Us.d)/\Ims H fv' (E.fls.map flD)
theorem Bh {H:Hp} {a:Zx} {xs:List V} {o:HO} (h:H a=some (.lst xs)):FK H (upd H a o):=fun b u e f=>by rw[gr (kS e h (fun z=>by rw[z]at f;exact f))];exact e
section
variable {c:Cs} {H H':Hp} {S:Sd} {E D:Bd}
end
def Frm (M:List Zx) (H H':Hp):Prop:=∀a o,H a=some o->a∉M->H' a=some o
theorem Frm.trans {M:List Zx} {H H1 H2:Hp} (a:Frm M H H1) (b:Frm M H1 H2):Frm M H H2:=fun c o e n=>b c o (a c o e n) n
def lk:List (Str×Int)->Str->Option Int
 |[],_=>none
 |p::t,w=>if p.1=w then some p.2 else lk t w
inductive Mf where
 |num
 |fn (x y:Int)
 |rcd (l:List (Str×Int))
 |tag (w:Str) (x:Int)
 |row (x:Int)
 |any
def fnd (m:List (Str×Int)) (p:Str×Int):Option (Int×Int):=(lk m p.1).map fun x=>(x,p.2)
def taken (l m:List (Str×Int)):Option (List (Int×Int)):=if(l.filterMap (fnd m)).length=l.length then some (l.filterMap (fnd m))else none
end BO.Internal
namespace L2.Internal
open PySem PySem.Spec PyProof.Rows
section
variable {X:Cx} {e a b o f:Zr} {st:Zq} {ta tb td ty tx to:TE} {pos apos cpos:Pos}
theorem PE.weak {t t':TE} (h:PE X e t) (m:∀σ H Q,t' σ H Q->t σ H Q):PE X e t':=fun pz s σ H Q I q=>h pz s σ H Q I (m σ H Q q)
theorem PT.weak {t t':TT} (h:PT X e t) (m:∀σ H Q,t' σ H Q->t σ H Q):PT X e t':=fun pz s σ H Q I q=>h pz s σ H Q I (m σ H Q q)
theorem PS.weak {t t':TS} (h:PS X st t) (m:∀D σ H,t' D σ H->t D σ H):PS X st t':=fun pz s σ H D I q=>h pz s σ H D I (m D σ H q)
theorem OpR.weak {g:Zz->Zz->Sem Zz} {r r':R2} (h:OpR X g r) (m:∀x y H Q,r' x y H Q->r x y H Q):OpR X g r':=fun pz s σ H x y v u Q I rx ry q=>h pz s σ H x y v u Q I rx ry (m x y H Q q)
theorem IxR.weak {r r':R2} (h:IxR X r) (m:∀x y H Q,r' x y H Q->r x y H Q):IxR X r':=fun value slice pz s σ H x y v u Q I rx ry q hs=>h value slice pz s σ H x y v u Q I rx ry (m x y H Q q) hs
def mT (t:TE):TE:=fun σ H Q=>∃Q0:VK,t σ H Q0/\∀x H1,Q0 x H1->Q x H1
theorem PE.mono {t:TE} (h:PE X e t):PE X e (mT t):=fun pz s σ H Q I ⟨Q0,h0,m⟩=>thn (h pz s σ H Q0 I h0) fun v s1 ⟨x,H1,I1,r1,q1⟩=>⟨x,H1,I1,r1,m x H1 q1⟩
def mR (r:R2):R2:=fun x y H Q=>∃Q0:VK,r x y H Q0/\∀x H1,Q0 x H1->Q x H1
theorem OpR.mono {g:Zz->Zz->Sem Zz} {r:R2} (h:OpR X g r):OpR X g (mR r):=fun pz s σ H x y v u Q I rx ry ⟨Q0,h0,m⟩=>thn (h pz s σ H x y v u Q0 I rx ry h0) fun v s1 ⟨x,H1,I1,r1,q1⟩=>⟨x,H1,I1,r1,m x H1 q1⟩
def onV:Option (Option V)->(V->Prop)->Prop
 |some (some v),k=>k v
 |_,_=>False
def onS {α:Type}:Option α->(α->Prop)->Prop
 |some v,k=>k v
 |none,_=>False
theorem gk {α:Type} {x:Option α} {v:α} {k:α->Prop} (h:x=some v) (q:k v):onS x k:=by rw[h];exact q
theorem Bi {α:Type} {x:Option α} {k:α->Prop} (h:onS x k):∃v,x=some v/\k v:=by
 cases x with
 |none=>exact h.elim
 |some v=>exact⟨v,rfl,h⟩
def cV (i:Nat):TE:=fun σ H Q=>onV σ[i]? fun v=>Q v H
theorem cv (i:Nat) {x:Str} {pos:Pos} (hN:autoParam (X.N[i]?=some x) auR._auto_1) (hv:Vis X.env.scope x:=by first|exact Or.inl rfl|exact Or.inr (.inl rfl)|exact Or.inr (.inr rfl)) (hd:autoParam ((x==("__debug__":Str))=false) auD._auto_1)
  (hcd:autoParam ((x==("__classdict__":Str))=false) auD._auto_1):PE X (.Name x pos) (cV i):=(pv i hN hv hd hcd).weak fun σ H Q h=>by
 unfold cV at h
 cases q:σ[i]? with
 |none=>rw[q]at h;exact h.elim
 |some o=>
  rw[q]at h
  cases o with
  |none=>exact h.elim
  |some v=>exact⟨v,q,h⟩
def cI0 (g:Int->Int->V):R2:=fun x y H Q=>match x,y with
 | .int i,.int j=>Q (g i j) H
 |_,_=>False
def cI (C:Int->Int->Prop) (g:Int->Int->V):R2:=fun x y H Q=>match x,y with
 | .int i,.int j=>C i j/\Q (g i j) H
 |_,_=>False
theorem v9 {g:Int->Int->V}:∀x y H Q,cI0 g x y H Q->rI0 g x y H Q:=fun x y H Q h=>by
 unfold cI0 at h;split at h;·exact⟨_,_,rfl,rfl,h⟩
 ·exact h.elim
theorem CW {C:Int->Int->Prop} {g:Int->Int->V}:∀x y H Q,cI C g x y H Q->rI C g x y H Q:=fun x y H Q h=>by
 unfold cI at h;split at h;·exact⟨_,_,rfl,rfl,h.1,h.2⟩
 ·exact h.elim
theorem qE:OpR X (binaryOp .Add) (cI0 fun i j=> .int (i+j)):=DN.weak v9
theorem rR:OpR X (binaryOp .Sub) (cI0 fun i j=> .int (i-j)):=GB.weak v9
theorem Ha:OpR X (binaryOp .Mult) (cI Iu fun i j=> .int (i*j)):=GC.weak CW
theorem lK:OpR X (binaryOp .FloorDiv) (cI J4 fun i j=> .int (i/j)):=Es.weak CW
theorem lT:OpR X (binaryOp .Mod) (cI (fun _ j=>0<j) fun i j=> .int (i%j)):=GD.weak CW
theorem yJ:OpR X (binaryOp .Pow) (cI J5 fun i j=> .int (i^j.toNat)):=GF.weak CW
theorem E4:OpR X (compareOp .Lt) (cI0 fun i j=> .bl (decide (i<j))):=Et.weak v9
theorem zR:OpR X (compareOp .Gt) (cI0 fun i j=> .bl (decide (j<i))):=Eu.weak v9
theorem Jg:OpR X (compareOp .GtE) (cI0 fun i j=> .bl (decide (j<=i))):=IP.weak v9
def cEq (n:Bool):R2:=fun x y H Q=>match x,y with
 | .int i,.int j=>Q (.bl (xor n (decide (i=j)))) H
 | .str i,.str j=>Q (.bl (xor n (decide (i=j)))) H
 |_,_=>False
theorem Ke {i j:Str}:decide (V.str i=V.str j)=decide (i=j):=by rw[fh];simp
theorem Kf {i j:Int}:decide (V.int i=V.int j)=decide (i=j):=by rw[fh];simp
theorem lU:OpR X (compareOp .Eq) (cEq false):=uq.weak fun x y H Q h=>by
 unfold cEq at h;split at h;·refine⟨rfl,?_⟩;rw[Kf];rw[fo]at h;exact h
 ·refine⟨rfl,?_⟩;rw[Ke];rw[fo]at h;exact h
 ·exact h.elim
theorem uH:OpR X (compareOp .NotEq) (cEq true):=oa.weak fun x y H Q h=>by
 unfold cEq at h;split at h;·refine⟨rfl,?_⟩;rw[Kf];rw[Bool.true_xor]at h;exact h
 ·refine⟨rfl,?_⟩;rw[Ke];rw[Bool.true_xor]at h;exact h
 ·exact h.elim
def onB:V->(Bool->Prop)->Prop
 | .bl k,q=>q k
 |_,_=>False
theorem Hb {x:V} {k:Bool->Prop} (h:onB x k):∃c,x= .bl c/\k c:=by cases x<;>first|exact⟨_,rfl,h⟩|exact h.elim
def cT (t:TE):TT:=fun σ H Q=>t σ H fun x H'=>onB x fun k=>Q k H'
theorem gN {op:CmpOp} {r:R2} (ho:OpR X (compareOp op) r) (ha:PE X a ta) (hb:PE X b tb) (hm:behindInMarks op b=false:=by exact Ay _):PT X (.Compare a [op] [b] pos) (cT (tOp r ta tb)):=
 (jf ho.mono ha.mono hb.mono hm).weak fun σ H Q h=>⟨_,h,fun x H1 h1=>⟨_,h1,fun y H2 h2=>⟨_,h2,fun z H' h3=>Hb h3⟩⟩⟩
def Kg:R2:=fun x y H Q=>match x,y with
 | .ref p,.int i=>∃xs,H p=some (.lst xs)/\onS (atI xs i) fun v=>Q v H
 |_,_=>False
def Gh:R2:=fun x y H Q=>match x,y with
 | .ref p,.int i=>∃xs,H p=some (.tup xs)/\onS (atI xs i) fun v=>Q v H
 |_,_=>False
def Kh:R2:=fun x y H Q=>match x,y with
 | .str z,.int i=>z.length<=sizeLine/\onS (atI z.cps.toList i) fun c=>Q (.str ⟨#[c]⟩) H
 |_,_=>False
theorem gC:IxR X Kg:=AO.weak fun x y H Q h=>by
 unfold Kg at h;split at h;·obtain⟨xs,e,h⟩:=h;obtain⟨v,ev,h⟩:=Bi h;exact⟨_,xs,_,v,rfl,rfl,SqL.of e,ev,h⟩
 ·exact h.elim
theorem gE:IxR X Gh:=GQ.weak fun x y H Q h=>by
 unfold Gh at h;split at h;·obtain⟨xs,e,h⟩:=h;obtain⟨v,ev,h⟩:=Bi h;exact⟨_,xs,_,v,rfl,rfl,SqT.of e,ev,h⟩
 ·exact h.elim
theorem Bj:IxR X Kh:=AQ.weak fun x y H Q h=>by
 unfold Kh at h;split at h;·obtain⟨e,h⟩:=h;obtain⟨v,ev,h⟩:=Bi h;exact⟨_,_,v,rfl,rfl,e,ev,h⟩
 ·exact h.elim
def Fd (H:Hp) (a C:Zx) (f:Str) (v:V):Prop:=∃dx fs,H a=some (.ins C dx fs)/\fs.lookup f=some v
def Nf (H:Hp) (a C:Zx) (m:Str):Prop:=∃dx fs,H a=some (.ins C dx fs)/\fs.lookup m=none
def Gj (C:Zx) (f:Str) (ta:TE):TE:=fun σ H Q=>ta σ H fun x H1=>match x with
 | .ref a=>∃v,Fd H1 a C f v/\Q v H1
 |_=>False
theorem gX {C:Zx} {f:Str} (c:Cls X.K C) (n:iU X.K C f) (he:PE X e ta) (hb:autoParam (attributeBase e f X.env (eval e X.env)=eval e X.env) auR._auto_1):PE X (.Attribute e f pos) (Gj C f ta):=
 (oZ he.mono hb).weak fun σ H Q h=>⟨_,h,fun x H1 h1=>by
  cases x with
  |ref a=>obtain⟨v,⟨dx,fs,ea,ev⟩,q⟩:=h1;exact⟨a,C,dx,fs,v,rfl,ea,c,n,ev,q⟩
  |_=>exact h1.elim⟩
def Jh (C:Zx) (m:Str) (sp:Sp) (dvs:List V) (E:XK) (ta:TE) (t:TA):TE:=fun σ H Q=>ta σ H fun x H1=>match x with
 | .ref a=>Nf H1 a C m/\t σ H1 fun vs H2=>sp (.ref a::(vs++dvs)) H2 Q E
 |_=>False
theorem iB {C:Zx} {m:Str} {sp:Sp} {dvs:List V} {E:XK} {t:TA} (h:PE X e (EE C m sp dvs E (mT ta) t)):PE X e (Jh C m sp dvs E ta t):=h.weak fun σ H Q h=>⟨_,h,fun x H1 h1=>by
  cases x with
  |ref a=>obtain⟨⟨dx,fs,ea,l⟩,q⟩:=h1;exact⟨a,dx,fs,rfl,ea,l,q⟩
  |_=>exact h1.elim⟩
def Ji (C:Zx) (f:Str) (ta tv:TE):TS:=fun D σ H=>tv σ H fun y H1=>ta σ H1 fun x H2=>match x with
 | .ref a=>∃dx fs,H2 a=some (.ins C dx fs)/\fs.length<1000/\D.nx σ (upd H2 a (.ins C dx (nK f y fs)))
 |_=>False
theorem i9 {C:Zx} {f:Str} {tv:TE} (c:Cls X.K C) (n:iU X.K C f) (h:PS X st (J7 X.K (mT ta) (mT tv) f)):PS X st (Ji C f ta tv):=h.weak fun D σ H h=>⟨_,h,fun y H1 h1=>⟨_,h1,fun x H2 h2=>by
  cases x with
  |ref a=>obtain⟨dx,fs,ea,l,q⟩:=h2;exact⟨a,C,dx,fs,rfl,ea,c,n,l,q⟩
  |_=>exact h2.elim⟩⟩
def cS:R2:=fun x y H Q=>match x,y with
 | .str i,.str j=>i.length+j.length<=sizeLine/\Q (.str (i++j)) H
 |_,_=>False
theorem lM:OpR X (binaryOp .Add) cS:=tQ.weak fun x y H Q h=>by
 unfold cS at h;split at h;·exact⟨_,_,rfl,rfl,h.1,h.2⟩
 ·exact h.elim
def Ki (to ta:TE):TE:=fun σ H Q=>to σ H fun x H1=>match x with
 | .ref l=>(∃xs,H1 l=some (.lst xs))/\ta σ H1 fun y H2=>∃xs,H2 l=some (.lst xs)/\xs.length<sizeLine/\Q .non (upd H2 l (.lst (xs++[y])))
 |_=>False
theorem ja (h:PE X e (tBM X.K "list" AU (mT to) (oi (mT ta) AF))):PE X e (Ki to ta):=h.weak fun σ H Q h=>⟨_,h,fun x H1 h1=>by
  cases x with
  |ref l=>obtain⟨⟨xs,e⟩,q⟩:=h1;exact⟨.inl ⟨rfl,xs,SqL.of e⟩,_,q,fun y H2 ⟨xs,e,hl,q2⟩=>⟨l,xs,y,rfl,rfl,e,hl,q2⟩⟩
  |_=>exact h1.elim⟩
end
end L2.Internal
namespace BO.Internal
open PySem L2.Internal
structure Rw where
 w:Bool
 a:Int
 b:Int
 y:Option (Int×Int)
structure DL (H:Hp) (d:Zx) (L:List Zx) (f:Int->List V) (k:Nat):Prop where
 ex:∃kvs:List (Key×V),H d=some (.dK kvs)/\kvs.length<=k/\(∀p,jK kvs (.inl p)=none->f p=[])/\
  (∀p v,jK kvs (.inl p)=some v->∃l,l∈L/\v= .ref l/\H l=some (.lst (f p)))/\(∀p q v,jK kvs (.inl p)=some v->jK kvs (.inl q)=some v->p=q)
def putf (f:Int->List V) (p:Int) (x:V):Int->List V:=fun q=>if q=p then f p++[x]else f q
structure Sda (H:Hp) (d:Zx) (L:List Zx) (f:Int->List V) (k:Nat) (p:Int) (l:Zx) (H1:Hp):Prop where
 here:H1 l=some (.lst (f p))
 fin:∀H2 x,gB H1 H2->∃L',(∀a∈L',a∈L\/a=l)/\DL (upd H2 l (.lst (f p++[x]))) d L' (putf f p x) (k+ 1)
 fr:∀a o,H a=some o->a≠d->H1 a=some o
 own:l∈L\/H l=none
theorem DL.get {H:Hp} {d:Zx} {L:List Zx} {f:Int->List V} {k:Nat} (W:DL H d L f k) (p:Int) {z:Zx} (hz:H z=none):
  ∃kvs l,(upd H z (.lst [])) d=some (.dK kvs)/\(jK kvs (.inl p)).getD (.ref z)= .ref l/\(upd H z (.lst [])) l=some (.lst (f p))/\(l∈L\/H l=none):=by
 obtain⟨kvs,e,hl,h1,h2,h3⟩:=W;have s:=gb hz (.lst [])
 cases ev:jK kvs (.inl p)with
 |none=>exact⟨kvs,z,s _ _ e,by rw[ev];rfl,by rw[h1 p ev];exact fY,.inr hz⟩
 |some v=>obtain⟨l,m,rfl,el⟩:=h2 p v ev;exact⟨kvs,l,s _ _ e,by rw[ev];rfl,s _ _ el,.inl m⟩
end BO.Internal
namespace L2.Internal
open PySem PySem.Spec PyProof.Rows
section
variable {X:Cx}
end
def Itv (K:Zp) (a:Zx) (n:Nat):It:=
 ⟨fun i H=>i<n/\∃xs,SqL K H a xs/\xs.length=n,fun i H x H'=>H'=H/\∀xs,SqL K H a xs->xs[n-1-i]?=some x,fun i _=>i=n⟩
theorem CY {P:Zu} {w:Zv} {K:Zp} {tg:Zr} (a it:Zx) (n:Nat):CD P w K tg (Itv K a n) [it] it (fun i h=>h.IsRevIter it a ((n:Int)-1-(i:Int))) where
 mem:=by simp
 obj:=fun i h st b hb=>by
  have e:b=it:=by simpa using hb
  subst e;obtain⟨o,e,c,d⟩:=st;exact⟨o,e,fun v z=>by rw[d]at z;cases z⟩
 keep:=fun i h h' st k=>st.at fun o e=>k it (by simp) o e
 item:=by
  intro X hP hw hK hc i pz s σ H E I hf st hg;subst hP hw hK;obtain⟨hi,xs,hq,hn⟩:=hg;obtain⟨its,rv,p,hz⟩:=I.list hq;have hlt:n-1-i<xs.length:=by lia
  obtain⟨u,hu,ru⟩:=rv.get (bB hlt);obtain⟨f0,f1,f2,f3,f4,f5⟩:=hf it (by simp);have e:(n:Int)-1-(i:Int)=((n-1-i:Nat):Int):=by lia
  have st':=st;rw[e]at st';refine wpAny_pyNext_rev_item st' p.isList (x:=u) (by simpa using hu) fun h' st2 sb=>?_;have e2:((n-1-i:Nat):Int)-1=(n:Int)-1-((i+ 1:Nat):Int):=by lia
  rw[e2]at st2;have I1:Inv X pz σ H {s with heap:=h'}:=I.turned (t':=s.toks) (fun b o hb e=>(sb.2 b hb).trans e) f0 f1 f3 f4 f5;obtain⟨o,eo,c,d⟩:=id st2;exact⟨u,rfl,zA (s:={s with heap:=h'}) eo c d (by decide) ⟨xs[n-1-i],H,I1,ru,⟨rfl,fun ys hy=>by rw[I.list_inj hy hq];exact bB hlt⟩,st2,fun b hb=>(hf b hb).1⟩⟩
 done:=by
  intro X hP hw hK hc i pz s σ H E I hf st hg;subst hP hw hK;have hi:i=n:=hg;subst hi;obtain⟨f0,f1,f2,f3,f4,f5⟩:=hf it (by simp);have e:(i:Int)-1-(i:Int)= -1:=by lia
  have st':=st;rw[e]at st';exact wpAny_pyNext_rev_end (I.ok.hd hc) st' fun h' eb=>⟨rfl,I.turned (t':=s.toks) (fun b o hb e=>eb b o hb e) f0 f1 f3 f4 f5⟩
 self:=fun _ _ _ _ _ st h=>wpAny_pyIter_revIter st h
def iRev (K:Zp) (ta:TA):TI:=fun σ H R=>ta σ H fun vs H1=>∃a xs,vs=[.ref a]/\SqL K H1 a xs/\R (Itv K a xs.length) H1
theorem rS:bootBuiltins "reversed"=some (.type "reversed"):=by first|rfl|decide+kernel
section
variable {X:Cx}
theorem Hc {tg:Zr} {a:Zr} {ta:TA} {p pos:Pos} (hg:Gl X "reversed") (hm:X.mg "reversed"=none) (ha:PA X [a] ta) (hs:autoParam (starEach [a] X.env=[(false,eval a X.env)]) auR._auto_1):
  PI X tg (.Call (.Name "reversed" p) [a] [] pos) (iRev X.K ta):=by
 intro pz s σ H R I h;refine Call_ (nS I hg hm rS (fQ (thn (ha pos pz s σ H _ I h) ?_) hs rfl));rintro us s1 ⟨vs,H1,I1,r1,q1⟩;obtain⟨l1,xs,e,hq,q⟩:=q1;subst e;obtain⟨u,rfl,ru⟩:=mL r1;cases ru;obtain⟨i1s,w1,p1,z1⟩:=I1.list hq;have hl:=w1.length;refine call_reversed_list p1.isList ?_;have sz:((i1s.toArray.size:Nat):Int)-1=(xs.length:Int)-1-((0:Nat):Int):=by simp only[aX];lia
 rw[sz];have st:(s1.heap.push (revObj l1 ((xs.length:Int)-1-((0:Nat):Int)))).IsRevIter s1.heap.objs.size l1 ((xs.length:Int)-1-((0:Nat):Int)):=⟨_,fH _ rfl,rfl,rfl⟩;refine wpAny_pyIter_revIter (s:={s1 with heap:=s1.heap.push (revObj l1 ((xs.length:Int)-1-((0:Nat):Int)))}) st ?_;refine⟨s1.heap.objs.size,[s1.heap.objs.size],_,_,H1,rfl,I1.kept (t':=s1.toks) fun b o e=>fJ _ e,CY l1 _ xs.length,st,fun b hb=>?_,q⟩;have e:b=s1.heap.objs.size:=by simpa using hb
 subst e;exact I1.fpOk (cM _) (I1.hok.fresh (cM _))
theorem Bk:MtR X "dict.update" (fun x xs H Q=>∃d o kvs more,x= .ref d/\xs=[.ref o]/\d≠o/\H d=some (.dK kvs)/\H o=some (.dK more)/\kvs.length+more.length<=sizeLine/\Q .non (upd H d (.dK (pf kvs more)))):=by intro pz s σ H x xs v us Q I rx rs h;obtain⟨d,o,kvs,more,rfl,rfl,hne,hd,ho,hl,q⟩:=h;cases rx;obtain⟨u,rfl,ru⟩:=mL rs;cases ru;obtain⟨z1,s1,vs,rel,dd⟩:=zG I.hok hd;obtain⟨z2,s2,ws,rel2,dd2⟩:=zG I.hok ho;refine call_meetsIn eV dd.typeIs PySem.F.entry_dict_update (PySem.F.args_dict_update_2 _ _) (meets_dict_update (jQ X.prog X.w) d o hne s2) ⟨vs,ws,dd,dd2,by rw[<-rel.length,<-rel2.length];exact hl,fun h' dd' _ sb=>?_⟩;have he:∃q,h'.get? d=some q:=let⟨q,_,_,hq,_⟩:=dd';⟨q,hq⟩;have hl':(pf kvs more).length<=sizeLine:=cH (lX more kvs) hl;exact⟨.non,_,xw (t':=s.toks) I (by rw[hd];exact True.intro) sb he (AI hl' s1 (rel2.merge rel) dd'),rfl,q⟩
end
section
variable {X:Cx}
theorem Jj {scope:Scope} {x y:Str} (ns:Zd) (cap:List (Str×Nat×Zx)) (hns:cap.map (·.1)=ns) (hk:scope.kind= .function) (hn:∀p∈scope.names,p.2≠ .cell/\(p.2= .free->p.1∈ns)) (hl:∀y∈scope.names,y.2= .local->scope.names.lookup y.1=some .local)
  (hx:scope.names.lookup x=some .local) (hnd:(x::y::ns).Nodup) (hc:closureFor scope X.env=pure (cap.map fun p=>(p.1,p.2.2))) (hok:X.env.scope.kind= .function)
  (h:∀p∈cap,scope.names.lookup p.1=some .free/\X.env.cells.lookup p.1=some p.2.2/\X.env.scope.names.lookup p.1=some .cell/\X.N[p.2.1]?=some p.1):
  sM X (x::y::ns) scope (cap.map fun p=>(p.1,p.2.2)) (fun σ=>none::none::cap.map fun p=>σ.getD p.2.1 none) 0 x where
 kind:=hk
 cell:=fun y hy=>(hn y hy).1
 names:=hl
 clos:=hc
 lk:=fun z c q=>by obtain⟨p,hp,e⟩:=bf.mp (PySem.mem_of_lookup q);cases e;exact(h p hp).2.1
 has:=fun z q=>by
  refine pZ ?_;rw[hns];rcases q with q|q
  ·obtain⟨k0,e,q⟩:=iE q;have m:=hn _ (PySem.mem_of_lookup e);rcases q with q|⟨q,_⟩;·exact absurd q.symm m.1
   ·exact m.2 q
  ·obtain⟨k0,e,q⟩:=iE q;have m:=hn _ (PySem.mem_of_lookup e);rcases q with q|⟨q,_⟩;·exact m.2 q.symm
   ·exact m.2 q
 nd:=hnd
 ix:=rfl
 loc:=hx
 len:=fun _ _=>by simp[<-hns]
 val:=fun σ k z v h1 h2=>by
  match k with
  |0=>simp at h2
  |1=>simp at h2
  |k+ 2=>
   rw[<-hns,bE,bE,aO]at h1;rw[bE,bE,aO]at h2
   cases e:cap[k]? with
   |none=>rw[e]at h1;cases h1
   |some p=>
    rw[e]at h1 h2;have ez:p.1=z:=dw.inj h1;have ev:σ.getD p.2.1 none=some v:=dw.inj h2;subst ez;obtain⟨a1,a2,a3,a4⟩:=h p (aP e);rw[bq]at ev;refine⟨p.2.1,a4,?_,a3,i8 hok a3 a1⟩
    cases q:σ[p.2.1]? with
    |none=>rw[q]at ev;cases ev
    |some o=>rw[q]at ev;exact congrArg some ev
end
section
variable {X:Cx} {pz:Za} {σ:St} {H:Hp} {s:Zy}
end
section
variable {prog:Zu} {w:Zv} {A:Zw} {R:Result->Zy->Prop} {I:Zx} {fp wr:List Zx} {n:Nat} {P:Nat->Zz->Prop} {St:Nat->Zt->Prop}
end
section
variable {prog:Zu} {w:Zv} {A:Zw} {E:Zb} {s:Zy} {l:Zx} {xs:Array (Int×Tok)}
end
section
variable {X:Cx}
end
section
variable {X:Cx}
end
theorem zS:typeLookup (.type "list_reverseiterator") "__len__"=pure none:=by rw[typeLookup_type,builtinLookup_eq_fast];kernel_rfl
theorem CZ:typeLookup (.type "list_reverseiterator") "__length_hint__"=pure (some (.builtin "list_reverseiterator.__length_hint__")):=by rw[typeLookup_type,builtinLookup_eq_fast];kernel_rfl
section
variable {prog:Zu} {w:Zv} {A:Zw} {s:Zy}
theorem C0 {E:Zb} {it l:Zx} {i:Int} {Q:Bool->Zy->Prop} (hit:s.heap.IsRevIter it l i) (h:Q false s):wpAny (model prog w) A (Builtin.List.listLengthHint (.ref it)) Q E s:=by unfold Builtin.List.listLengthHint;refine wpAny_bind (wpAny_specialOf hit.typeIs zS ?_);show wpAny _ _ (specialOf (Value.ref it) (Str.ofString "__length_hint__") >>= _) _ _ _;refine wpAny_bind (wpAny_specialOf hit.typeIs CZ ?_);generalize hid:("list_reverseiterator.__length_hint__":String)=idr;wp_delta;rw[show splitId idr=some ("list_reverseiterator","__length_hint__")from by subst hid;decide+kernel];subst hid;refine wpAny_bind (wpAny_isInstance (T:="list_reverseiterator") (b:=true) hit.typeIs (by rw[isSubtype_type];kernel_rfl) ?_);refine wpAny_ite_split (fun hz=>absurd hz (by decide)) (fun _=>?_);refine wpAny_ite_split (fun _=>?_) (fun hz=>absurd gQ hz);exact wpAny_ite_split (fun hz=>absurd hz (by decide)) (fun _=>wpAny_pure h)
theorem zT {R:Result->Zy->Prop} {it l:Zx} {items:Array Zz} (hh:A.handled=none) (hit:s.heap.IsRevIter it l ((items.size:Int)-1)) (hl:s.heap.IsList l items) (hne:l≠it) (hz:items.size<=sizeLine) (D:Zx) (res:Zz) (c0:Nat)
  (hD:s.heap.get? D=some {cls:= .type "list",data:= .seq #[] c0}) (hDi:D≠it) (hDl:D≠l)
  (hR:∀h2 tk acc c2,(∀b o,b≠D->b≠it->s.heap.get? b=some o->h2.get? b=some o)->h2.get? D=some {cls:= .type "list",dict:=none,data:= .seq acc c2,slots:=#[]}->
   ItemsOf (fun i v=>items[items.size-1-i]?=some v) acc items.size->R (.ok (.ret res)) {s with heap:=h2,toks:=tk}):
  wpAny (model prog w) A.in1 (Builtin.List.listExtendWith (.ref D) (.ref it) res)
   (fun fin s'=>match fin with| .done f=>R (.ok f) s'| .again c'=>c'.quiet=true/\codeAny (model prog w) A c' R s') (fun e s'=>R (.error e) s') s:=by
 have W:=(Walks.listRev (prog:=prog) (w:=w) (A:=A.in1) hh it l hne items).toS;unfold Builtin.List.listExtendWith;refine wpAny_bind (wpAny_typeOf hit.typeIs ?_);have h1:Builtin.List.listSameRef (.ref D) (.ref it)=false:=by simp[Builtin.List.listSameRef,hDi]
 have h2:(Value.type "list_reverseiterator"==Value.type "list")=false:=by decide
 have h3:(Value.type "list_reverseiterator"==Value.type "tuple")=false:=by decide
 simp only[h1,h2,h3,Bool.or_false,Bool.false_eq_true,if_false];refine wpAny_bind (wpAny_pyIter_revIter hit ?_);refine wpAny_bind (wpAny_holding (C0 hit ?_));refine wpAny_ite_split (fun hz=>absurd hz (by decide)) (fun _=>?_);refine wpAny_pure ⟨plainId_quiet F.plain_extend_loop _,codeAny_extend_loopS W hz D (fun hm=>?_) res items.size 0 _ #[] c0 rfl (cO _) ⟨cO _,by simpa using hit,hl⟩ hD (ItemsOf.nil _) fun s' acc c2 hm hS hacc=>?_⟩
 ·rcases ak.mp hm with e|hm;·exact hDi e
  ·exact hDl (bj.mp hm)
 ·rw[Moved.eq_with hm];refine hR s'.heap s'.toks acc c2 (fun b o hb hb2 e=>hm.heap b o (fun hmem=>?_) e) hS hacc;rcases ak.mp hmem with e'|hmem;·exact hb e'
  ·exact hb2 (bj.mp hmem)
theorem uI {E:Zb} {Q:Zb} {it l:Zx} {items:Array Zz} (hh:A.handled=none) (hit:s.heap.IsRevIter it l ((items.size:Int)-1)) (hl:s.heap.IsList l items) (hne:l≠it) (hz:items.size<=sizeLine)
  (hQ:∀h2 tk acc c2,(∀b o,b≠it->s.heap.get? b=some o->h2.get? b=some o)->h2.get? s.heap.objs.size=some {cls:= .type "list",dict:=none,data:= .seq acc c2,slots:=#[]}->
   ItemsOf (fun i v=>items[items.size-1-i]?=some v) acc items.size->Q (.ref s.heap.objs.size) {s with heap:=h2,toks:=tk}):
  wpAny (model prog w) A (call (.type "list") [.ref it]) Q E s:=by
 have hi:it<s.heap.objs.size:=by obtain⟨o,e,_⟩:=hit;exact fG e
 have hll:l<s.heap.objs.size:=by obtain⟨o,e,_⟩:=hl;exact fG e
 refine callType_codes (Q₁:=fun obj s₁=>obj= .ref s.heap.objs.size/\s₁={s with heap:=s.heap.push {cls:= .type "list",data:= .seq #[]}}) F.called_list (F.typeCall_list_1 _) F.entry_list_init (code_list_new _ ⟨rfl,rfl⟩) fun obj s1 h1=>?_;obtain⟨rfl,rfl⟩:=h1;have hS:(s.heap.push {cls:= .type "list",data:= .seq #[]}).get? s.heap.objs.size=some {cls:= .type "list",data:= .seq #[]}:=fH _ rfl;have hit1:(s.heap.push {cls:= .type "list",data:= .seq #[]}).IsRevIter it l ((items.size:Int)-1):=hit.at fun o e=>fJ _ e;have hl1:(s.heap.push {cls:= .type "list",data:= .seq #[]}).IsList l items:=hl.push _;refine⟨⟨_,hS,rfl⟩,F.args_list_init_2 _ _,?_⟩;show wpAny _ A.in1.in1 (do let old<-Builtin.List.listItems (.ref s.heap.objs.size);Builtin.List.listUpdate (.ref s.heap.objs.size) (fun _=>#[]);letGo old.toList.reverse;Builtin.List.listExtendWith (.ref s.heap.objs.size) (.ref it) .none) _ _ _;refine wpAny_bind ?_;unfold Builtin.List.listItems;refine wpAny_bind (wpAny_seqItems hS rfl (wpAny_pure ?_));show wpAny _ A.in1.in1 (updateSeq s.heap.objs.size (fun _=>#[]) >>= fun _=>letGo (#[]:Array Zz).toList.reverse >>= fun _=>Builtin.List.listExtendWith (.ref s.heap.objs.size) (.ref it) .none) _ _ _;refine wpAny_bind (wpAny_updateSeq hS rfl ?_);have hS2:=fN (Obj.mapSeq (fun _=>(#[]:Array Zz))) hS rfl;refine wpAny_bind (wpAny_letGo ?_);have ni:s.heap.objs.size≠it:=cK hi;have nl:s.heap.objs.size≠l:=cK hll;refine zT (A:=A.in1) hh (hit1.at fun o e=>(fO _ _ ni).trans e) (hl1.at fun o e=>(fO _ _ nl).trans e) hne hz _ .none _ hS2 ni nl fun h2 tk acc c2 hk hD hacc=>?_;exact⟨rfl,hQ h2 tk acc c2 (fun b o hb e=>hk b o (cG (fG e)) hb ((fO _ _ (cK (fG e))).trans (fJ _ e))) hD hacc⟩
end
section
variable {X:Cx}
def tLR (K:Zp) (ta:TA):TE:=fun σ H Q=>ta σ H fun vs H1=>∃a xs,vs=[.ref a]/\SqL K H1 a xs/\∀l,H1 l=none->Q (.ref l) (upd H1 l (.lst xs.reverse))
theorem zU {a:Zr} {ta:TA} {p pos p2 pos2:Pos} (hc:X.calm=true) (hg:Gl X "list") (hm:X.mg "list"=none) (hg2:Gl X "reversed") (hm2:X.mg "reversed"=none) (ha:PA X [a] ta)
  (hs:autoParam (starEach [a] X.env=[(false,eval a X.env)]) auR._auto_1) (hs2:autoParam (starEach [.Call (.Name "reversed" p2) [a] [] pos2] X.env=[(false,eval (.Call (.Name "reversed" p2) [a] [] pos2) X.env)]) auR._auto_1):
  PE X (.Call (.Name "list" p) [.Call (.Name "reversed" p2) [a] [] pos2] [] pos) (tLR X.K ta):=by
 intro pz s σ H Q I h;refine wpAny_Call_Name_kw (nS I hg hm AZ ?_ (by decide) (by decide));refine fQ ?_ hs2 rfl;rw[hs2];refine Calls.spliced_cons ?_;refine Call_ (nS I hg2 hm2 rS (fQ (thn (ha pos2 pz s σ H _ I h) ?_) hs rfl));rintro us s1 ⟨vs,H1,I1,r1,q1⟩;obtain⟨l1,xs,e,hq,q⟩:=q1;subst e;obtain⟨u,rfl,ru⟩:=mL r1;cases ru;obtain⟨i1s,w1,p1,z1⟩:=I1.list hq;have hlen:=w1.length;refine call_reversed_list p1.isList ?_;refine Calls.spliced_nil ?_;have st:(s1.heap.push (revObj l1 ((i1s.toArray.size:Int)-1))).IsRevIter s1.heap.objs.size l1 ((i1s.toArray.size:Int)-1):=⟨_,fH _ rfl,rfl,rfl⟩;have hlt:l1<s1.heap.objs.size:=by obtain⟨o,e,_⟩:=p1.isList;exact fG e
 refine uI (I1.ok.hd hc) st (p1.isList.push _) (cG hlt) (by rw[aX];lia) fun h2 tk acc c2 hk hD hacc=>?_;have kp:∀b o,s1.heap.get? b=some o->h2.get? b=some o:=fun b o e=>hk b o (cG (fG e)) (fJ _ e);have sz:(s1.heap.push (revObj l1 ((i1s.toArray.size:Int)-1))).objs.size=s1.heap.objs.size+ 1:=fK ..;have hv:iX xs.reverse acc.toList:=by
  have e2:acc.toList=i1s.reverse:=by
   refine List.ext_getElem? fun j=>?_;by_cases hj:j<acc.size
   ·have h3:=hacc.2 j acc[j] (fz hj);have hs3:acc.size=i1s.length:=by have h9:=hacc.1;simpa using h9
    rw[aX]at h3;rw[List.getElem?_reverse (show j<i1s.length by lia)];rw[fw,fz hj,<-h3];simp
   ·have h4:acc.size=i1s.length:=by have h9:=hacc.1;simpa using h9
    rw[bF (by simpa using hj),bF (by rw[bG];lia)]
  rw[e2];exact w1.reverse
 refine⟨.ref (s1.heap.objs.size+ 1),_,?_,by rw[sz];rfl,q (s1.heap.objs.size+ 1) (I1.hok.fresh (cQ _))⟩;refine I1.laid (a:=s1.heap.objs.size+ 1) (t':=tk) kp (cQ _) ⟨by rw[bG];exact z1,acc.toList,c2,hv,?_⟩;rw[<-sz];simpa using hD
end
end L2.Internal
namespace L2.Internal
open PySem PySem.Spec PyProof.Rows PySem.W
section
variable {prog:Zu} {w:Zv} {A:Zw} {E:Zb} {s:Zy}
end
section
variable {X:Cx}
end
section
variable {fs ex:List Zx} {H H':Hp} {h h':Zt}
end
section
variable {X:Cx} {pz:Za} {σ:St} {H H':Hp} {s:Zy} {h':Zt}
end
section
variable {X:Cx}
end
end L2.Internal
namespace L2.Internal
open PySem PySem.Spec PyProof.Rows
section
variable {X:Cx} {pz:Za} {σ:St} {H:Hp} {s:Zy}
end
section
variable {X:Cx}
end
section
open PySem.SeqAt
open PySem.AutoSeq1 (wpAny_loadPart')
open PySem.MeetsSeq PySem.MeetsSeq2 PySem.MeetsSeq3
end
section
variable {X:Cx}
end
section
variable {X:Cx}
end
section
variable {X:Cx}
end
theorem tW:∀{ys:Zd} {its:List Zz},iX (ys.map V.str) its->∃l:List (Str×Tok),its=strValues l/\l.map (·.1)=ys
 |[],its,h=>by
  cases its with
  |nil=>exact⟨[],rfl,rfl⟩
  |cons a b=>exact absurd h.length (by simp)
 |y::ys,its,h=>by
  cases its with
  |nil=>exact absurd h.length (by simp)
  |cons u its=>
   obtain⟨t,rfl⟩:∃t,u= .str y t:=by obtain⟨v,hv,r⟩:=h.get (i:=0) (show((y::ys).map V.str)[0]?=some (.str y)from rfl);cases hv;exact r
   obtain⟨l,e1,e2⟩:=tW (ys:=ys) (its:=its) (by
    cases h with
    |cons _ h=>exact h);exact⟨(y,t)::l,by rw[e1];rfl,by rw[aD,e2]⟩
section
variable {X:Cx}
def Jk (K:Zp):V->List V->Hp->VK->Prop:=fun x xs H Q=>∃(z:Str) (a:Zx) (ys:Zd),x= .str z/\xs=[.ref a]/\SqL K H a (ys.map V.str)/\(ys.map (·.length)).sum+ys.length*z.length<=sizeLine/\Q (.str (Str.join z ys)) H
theorem Bl:MtR X "str.join" (Jk X.K):=by
 intro pz s σ H x xs v us Q I rx rs h;obtain⟨z,a,ys,rfl,rfl,hq,hz,q⟩:=h;obtain⟨t,rfl⟩:=rx;obtain⟨u,rfl,ru⟩:=mL rs;cases ru;obtain⟨its,rv,p,_⟩:=I.list hq;obtain⟨l,e1,e2⟩:=tW rv;have hl:=p.isList;rw[e1]at hl;refine SC.join hl e2 ?_ fun t' k=>?_
 ·unfold JoinOk;rw[StrLaws.joinTotal];have:¬(ys.map (·.length)).sum+ys.length*z.length>sizeLine:=by lia
  show(!Builtin.Str.tooLong _)=true;unfold Builtin.Str.tooLong;rw[iw this];rfl
 ·have e:Txt.join z ys=Str.join z ys:=StrLaws.glued_eq_join z ys;rw[e];exact⟨.str _,H,I.tok k,⟨_,rfl⟩,q⟩
end
section
variable {X:Cx}
end
section
variable {X:Cx}
end
section
variable {prog:Zu} {w:Zv} {A:Zw} {E:Zb} {h:Zt} {g:Array GenState} {d:Drawn} {t:Nat} {os:OsState} {a D:Zx} {o:Obj} {K:Zp}
structure Kj (K:Zp) (D:Zx):Prop where
 ga:dM K (.ref D) "__getattribute__"=some (some (.builtin "BaseException.__getattribute__"))
 gn:dM K (.ref D) "__getattr__"=some none
 cl:dM K (.ref D) "__class__"=some (some (.builtin "object.__class__"))
 sb:eJ K (.ref D) (.type "BaseException")=some true
 so:eJ K (.ref D) (.type "object")=some true
 is:dJ K D=true
end
section
variable {X:Cx}
end
open Sem (wp)
def DK (h h':Zt):Prop:=∀b o,h.get? b=some o->∃o',h'.get? b=some o'/\o'.dict=o.dict/\o'.cls=o.cls
theorem DK.trans {h h1 h2:Zt} (a:DK h h1) (b:DK h1 h2):DK h h2:=fun x o e=>by obtain⟨o1,e1,d1,c1⟩:=a x o e;obtain⟨o2,e2,d2,c2⟩:=b x o1 e1;exact⟨o2,e2,d2.trans d1,c2.trans c1⟩
section
variable {prog:Zu} {w:Zv} {A:Zw} {E:Zb} {h:Zt} {g:Array GenState} {d:Drawn} {t:Nat} {os:OsState} {a D dx:Zx} {o:Obj} {K:Zp} {name:Str} {v:Zz} {mA:Zc}
end
open Builtin Builtin.ObjectAttr
section
variable {prog:Zu} {w:Zv} {A:Zw} {E:Zb} {h:Zt} {g:Array GenState} {d:Drawn} {t:Nat} {os:OsState} {a D dx:Zx} {o:Obj} {K:Zp} {name:Str} {v:Zz} {mA:Zc} {cd:ClassData} {vs:Array Zz}
structure Kk (K:Zp) (D:Zx):Prop where
 xc:Kj K D
 sa:dM K (.ref D) "__setattr__"=some (some (.builtin "object.__setattr__"))
 mro:∃cd,PySem.W.clsIn K D=some cd/\cd.hasDict=true/\∀self,refuseLoop self "__setattr__" cd.mro=pure ()
end
section
variable {prog:Zu} {w:Zv} {A:Zw} {E:Zb} {h:Zt} {g:Array GenState} {d:Drawn} {t:Nat} {os:OsState}
variable {nm q:Str} {C N:Zx} {bs bm bmB:List Zz} {hdct:Bool} {sn:Zd} {sub:List Zz} {ab:Bool} {col:Option Bool} {dd:Option Zx} {k0 k1 k2 k3 k5:Option Zz} {B newId initId:String}
end
section
variable {prog:Zu} {w:Zv} {A:Zw} {E:Zb} {s:Zy} {env:Env}
variable {nm q:Str} {C N:Zx} {bs bm bmB:List Zz} {hdct:Bool} {sn:Zd} {sub:List Zz} {ab:Bool} {col:Option Bool} {dd:Option Zx} {k0 k1 k2 k3 k5:Option Zz} {B newId initId:String}
end
section
variable {P:Zu} {w:Zv} {H:Hp} {h:Zt} {a C dx:Zx}
end
section
variable {X:Cx} {pz:Za} {σ:St} {H:Hp} {s:Zy} {A:Zw} {E:Zb} {a C dx:Zx} {f:Str} {fs:List (Str×V)}
end
section
variable {X:Cx} {o value e:Zr} {ta tv:TE} {f:Str} {pos pos':Pos}
end
section
variable {P:Zu} {w:Zv} {K:Zp} {mg:Zc} {base:Zt} {N:Zd} {qual:Str} {scope:Scope} {f:Zx} {cd:Zz} {A:Zw} {outer:List Env} {s₀:Zy} {H₀:Hp} {E:XK}
end
structure Kl (K:Zp) (C fI:Zx):Prop where
 at_:∃bm N nm q bs hdct sn sub ab col dd k0 k1 k2 k3 k5,K.lookup C=some (excClassObj nm q C N bs bm hdct sn sub ab col dd k0 k1 k2 k3 k5 "ValueError.__new__")/\eK K N=true/\eL K N "__init__"=some (some (.ref fI))/\eM K EV bm=true
 fn:∃oI,K.lookup fI=some oI/\oI.cls= .type "function"
section
variable {X:Cx} {C fI:Zx} {E:XK} {x:Str} {np cpos pos:Pos} {e:Zr} {es:List Zr} {t:TA} {k:Nat} {fd:Zs} {ps:Zd} {sp:Sp}
end
section
variable {X:Cx} {Y:Zx} {y n:Str} {py hpos:Pos} {b₀:Zq} {body:List Zq} {tb:TS} {i:Nat}
variable {k j:Nat} {f:Zx} {fd:Zs} {ps:Zd} {sp:Sp} {dvs:List V} {ds:List Zz} {x v:Str} {p pv pos pos' tpos:Pos} {e:Zr} {es:List Zr} {t:TA}
end
open Builtin Builtin.ObjectAttr
theorem rT {K:Zp} (self:Zz):∀{l:List Zz},eM K EV l=true->refuseLoop self "__setattr__" l=pure ()
 |[],z=>by cases(beq_iff_eq.mp z:EV=[])
 |v::r,z=>by
  unfold eM at z;rcases Bool.or_eq_true_iff.mp z with q|q;·rw[beq_iff_eq.mp q];exact PySem.F.store_ValueError.passes self
  ·split at q
   ·rename_i A;rw[refuseLoop_ref];split at q;·rename_i c d cd sl lk;rw[fj]at q;exact rT self q.2
    ·cases q
   ·cases q
section
variable {K:Zp} {C fI N:Zx} {nm q:Str} {bs bm:List Zz} {sn:Zd} {sub:List Zz} {ab:Bool} {col:Option Bool} {dd:Option Zx} {k0 k1 k2 k3 k5:Option Zz} {oI:Obj}
theorem Hd (lk:K.lookup C=some (excClassObj nm q C N bs bm true sn sub ab col dd k0 k1 k2 k3 k5 "ValueError.__new__")) (tl:eM K EV bm=true) (xc:Kj K C) (sa:dM K (.ref C) "__setattr__"=some (some (.builtin "object.__setattr__"))):Kk K C:=by refine⟨xc,sa,_,by unfold PySem.W.clsIn;rw[lk],rfl,fun self=>?_⟩;show refuseLoop self "__setattr__" (.ref C::bm)=pure ();rw[refuseLoop_ref];exact rT self tl
theorem He (lk:K.lookup C=some (excClassObj nm q C N bs bm true sn sub ab col dd k0 k1 k2 k3 k5 "ValueError.__new__")) (no:eK K N=true) (ni:eL K N "__init__"=some (some (.ref fI))) (tl:eM K EV bm=true) (lI:K.lookup fI=some oI) (cI:oI.cls= .type "function"):Kl K C fI:=
 ⟨⟨bm,N,nm,q,bs,true,sn,sub,ab,col,dd,k0,k1,k2,k3,k5,lk,no,ni,tl⟩,⟨oI,lI,cI⟩⟩
end
section
variable {P:Zu} {w:Zv} {K:Zp} {mg:Zc} {base:Zt}
end
section
variable {prog:Zu} {w:Zv} {A:Zw} {E:Zb} {s:Zy}
end
section
variable {X:Cx}
end
section
variable {X:Cx}
end
section
variable {P:Zu} {w:Zv} {K:Zp} {mg:Zc} {base:Zt} {N:Zd} {qual:Str} {scope:Scope} {f:Zx} {cd:Zz} {A:Zw} {outer:List Env} {s₀:Zy} {H₀:Hp} {E:XK}
end
section
variable {X:Cx} {i:Nat} {Y:Zx} {y n:Str} {py hpos:Pos} {b₀:Zq} {body:List Zq} {tb:TS}
variable {k:Nat} {f:Zx} {fd:Zs} {ps:Zd} {sp:Sp} {dvs:List V} {ds:List Zz} {x:Str} {p pos pos' tpos:Pos} {e:Zr} {es:List Zr} {t:TA}
end
section
variable {X:Cx}
end
section
variable {X:Cx} {CX:CXT} {k:Nat} {E:XK} {c e:Zr} {es:List Zr} {tc:TE} {t:TA} {pos:Pos} {S:Zx->Sp->Prop}
def Km (X:Cx) (CX:CXT) (k:Nat) (f:Zx) (sp:Sp):Prop:=∃fd ps,rK X.prog X.w X.K X.mg X.base CX k f fd ps sp/\dW X.K (.ref f)=true/\pQ X.K fd ps []
def Hf (S:Zx->Sp->Prop) (E:XK) (tc:TE) (t:TA):TE:=fun σ H Q=>tc σ H fun x H1=>∃f sp,x= .ref f/\S f sp/\t σ H1 fun vs H2=>sp vs H2 Q E
theorem C9 (hS:∀f sp,S f sp->Km X CX k f sp) (hr:mO k X.A) (hx:nT CX X E) (hc:PE X c tc) (ha:PA X (e::es) t)
  (hq:autoParam (eval (.Call c (e::es) [] pos) X.env=(do callWith pos (<-eval c X.env) [] (backTo pos (starEach (e::es) X.env)) (backToKw pos (keywordEach [] X.env)))) auR._auto_1)
  (he:autoParam (starEach (e::es) X.env=(false,eval e X.env)::starEach es X.env) auR._auto_1) (hpl:autoParam ((backTo pos (starEach es X.env)).any (·.1)=false) auR._auto_1):
  PE X (.Call c (e::es) [] pos) (Hf S E tc t):=by intro pz s σ H Q I h;rw[hq];refine wpAny_bind (thn (hc pz s σ H _ I h) ?_);rintro u s1 ⟨v,H1,I1,r1,f,sp,rfl,hs,q1⟩;obtain rfl:u=Value.ref f:=r1;obtain⟨fd,ps,F,hk,hb⟩:=hS f sp hs;refine eA (h₀:=X.base) I1.ok.mod.kin hk (thn (ha pos pz s1 σ H1 _ I1 q1) fun us s2 ⟨vs,H2,I2,r,q⟩=>⟨I2.kIn,?_⟩) he hpl;exact yx F hr hb .nil hx I2 r (by rw[aF];exact q)
end
end L2.Internal
namespace HT.Internal
open PySem PySem.Spec PyProof.Rows L2.Internal
section
variable {prog:Zu} {w:Zv} {A:Zw} {E:Zb} {s:Zy}
end
end HT.Internal
namespace L2.Internal
open PySem PySem.Spec PyProof.Rows
section
variable {X:Cx}
end
section
variable {prog:Zu} {w:Zv} {A:Zw} {E:Zb} {s:Zy}
end
section
variable {X:Cx} {pz:Za} {σ:St} {H:Hp} {d it t:Zx} {vs:List V} {A:Zw} {R:Result->Zy->Prop}
end
section
variable {X:Cx}
def E5 (K:Zp):R2:=fun x y H Q=>∃a b xs ys,x= .ref a/\y= .ref b/\SqT K H a xs/\SqT K H b ys/\xs.length+ys.length<=sizeLine/\
 (xs=[]->Q (.ref b) H)/\(ys=[]->Q (.ref a) H)/\∀p,H p=none->Q (.ref p) (upd H p (.tup (xs++ys)))
theorem Bm:OpR X (binaryOp .Add) (E5 X.K):=by
 intro pz s σ H x y v u Q I rx ry h;obtain⟨a,b,xs,ys,rfl,rfl,ha,hb,hz,q0,q1,q2⟩:=h;cases rx;cases ry;obtain⟨its,r1,p1,_⟩:=I.tuple ha;obtain⟨its2,r2,p2,_⟩:=I.tuple hb;by_cases hx:xs=[]
 ·obtain⟨⟨cls,dd,data,sl⟩,ho,hc,n,hd⟩:=id p1;obtain⟨⟨cls2,dd2,data2,sl2⟩,ho2,hc2,n2,hd2⟩:=id p2;simp only at hc hd hc2 hd2;subst hc hd hc2 hd2;exact concat_meets ⟨_,ho,rfl⟩ ⟨_,ho2,rfl⟩ noFill_tuple_add seq_tuple_add eR eS (eT _ _)
   (tuple_addW0 a b its.toArray its2.toArray n n2 dd dd2 sl sl2 (by simp[r1.nil_iff.mpr hx])) ⟨ho,ho2,.ref b,H,I,rfl,q0 hx⟩
 refine HT.Internal.cat_tup p1 p2 (fun z=>hx (r1.nil_iff.mp z)) (fun z=>⟨.ref a,H,I,rfl,q1 (r2.nil_iff.mp z)⟩) (fun z=>?_) (by rw[<-r1.length,<-r2.length];exact hz);refine⟨.ref s.heap.objs.size,_,I.laid (t':=s.toks) (o:= .tup (xs++ys)) (fun b ob q=>fJ _ q) (cM _) ?_,rfl,q2 _ (I.hok.fresh (cM _))⟩;exact⟨by rw[aQ];exact hz,_,r1.append r2,yq.new _ _⟩
end
section
variable {X:Cx}
end
theorem zV {X:Cx}:n9 X (.type "dict") (fun xs H Q=>∃(e:Zx) (kvs:List (Key×V)),xs=[.ref e]/\H e=some (.dK kvs)/\∀d,H d=none->Q (.ref d) (upd H d (.dK kvs))):=by
 intro pz s σ H xs us Q I r h;obtain⟨e,kvs,rfl,he,q⟩:=h;obtain⟨u,rfl,ru⟩:=mL r;cases ru;obtain⟨z,hds,vs,rel,dd⟩:=zG I.hok he;refine kt_call_dict hds dd (by rw[<-rel.length];exact z) fun h' hd' hs'=>?_;have hb:=I.big;have I1:Inv X pz σ (upd H s.heap.objs.size (.dK kvs)) {s with heap:=h'}:=by refine I.laid (t':=s.toks) (fun b u e=>?_) (cM _) (AI z (beq_false_of_ne (cK hb)) rel hd');rw[hs'.2 b (cG (fG e))];exact fJ _ e
 exact⟨.ref s.heap.objs.size,_,I1,rfl,q _ (I.hok.fresh (cM _))⟩
end L2.Internal
namespace L2.Internal
end L2.Internal
namespace L2.Internal
open PySem PySem.Spec PyProof.Rows
def Itq (lo k:Int) (n:Nat):It:=⟨fun i _=>i<n,fun i H x H'=>H'=H/\x= .int (lo+(i:Int)*k),fun i _=>n<=i⟩
theorem Bn {P:Zu} {w:Zv} {K:Zp} {tg:Zr} (it:Zx) (lo k:Int) (n:Nat):CD P w K tg (Itq lo k n) [it] it (fun i h=>IsRangeIter h it (lo+(i:Nat)*k) ((n:Int)-(i:Nat)) k) where
 mem:=by simp
 obj:=fun i h st b hb=>by
  have e:b=it:=by simpa using hb
  subst e;exact⟨_,st,fun v z=>by have z':Data.fields _=Data.cell v:=z;cases z'⟩
 keep:=fun i h h' st k=>k it (by simp) _ st
 item:=by intro X hP hw hK hc i pz s σ H E I hf st hg;subst hP hw hK;obtain⟨f0,f1,f2,f3,f4,f5⟩:=hf it (by simp);have W:=Walks.range (prog:=X.prog) (w:=X.w) (I.ok.hd hc) it lo k n;refine W.item i s _ _ hg st fun v h' tk hv st' kk=>?_;obtain⟨t,rfl⟩:=hv;have I1:Inv X pz σ H {s with heap:=h',toks:=tk}:=I.turned (fun b o hb e=>kk b o (by simpa using hb) e) f0 f1 f3 f4 f5;exact⟨_,rfl,zA (s:={s with heap:=h',toks:=tk}) (n:="range_iterator") st' rfl rfl (by decide) ⟨.int (lo+(i:Int)*k),H,I1,⟨t,rfl⟩,⟨rfl,rfl⟩,st',fun b hb=>(hf b hb).1⟩⟩
 done:=by intro X hP hw hK hc i pz s σ H E I hf st hg;subst hP hw hK;obtain⟨f0,f1,f2,f3,f4,f5⟩:=hf it (by simp);exact wpAny_pyNext_range_end (I.ok.hd hc) st (by have:n<=i:=hg;lia) fun h' eb=>⟨rfl,I.turned (t':=s.toks) (fun b o hb e=>eb b o hb e) f0 f1 f3 f4 f5⟩
 self:=fun _ _ _ _ _ st h=>wpAny_pyIter_rangeiter st h
def rsz (lo hi k:Int):Nat:=if lo<hi then((hi-lo-1)/k+ 1).toNat else 0
theorem D6 {a b k:Int} (h:0<k):Builtin.Range.rangeSize a b k=(rsz a b k:Int):=by
 unfold Builtin.Range.rangeSize rsz;rw[gY h];by_cases z:a<b;·have:=Int.ediv_nonneg (show 0<=b-a-1 by lia) (Int.le_of_lt h);rw[gY z,gY z,Int.toNat_of_nonneg (by lia)]
 ·rw[gJ z,gJ z];rfl
theorem zW {a b k:Int} (ha:0<=a) (ha':a<2^30) (hb:0<=b) (hb':b<2^30) (h:0<k) (hk:k<1000):Builtin.Range.small a b k=true:=by
 have hz:=D6 (a:=a) (b:=b) h;have hl:(rsz a b k:Int)<2^30:=by
  unfold rsz;split;·have h1:=Int.ediv_le_self (a:=b-a-1) k (by lia);have h2:=Int.ediv_nonneg (show 0<=b-a-1 by lia) (Int.le_of_lt h);rw[Int.toNat_of_nonneg (by lia)];lia
  ·decide
 have hm:(b-a-1)/k*k<=b-a-1:=Int.ediv_mul_le _ (by lia);unfold Builtin.Range.small;rw[hz];simp only[Builtin.Range.rangeFitsLong,fj,Bool.or_eq_true,decide_eq_true_eq,beq_iff_eq,h,if_true];lia
section
variable {X:Cx} {tg:Zr}
theorem Bp {pz:Za} {σ:St} {H:Hp} {s:Zy} {R:It->Hp->Prop} {E:Zb} {lo hi k:Int} {t u v:Tok} {tk:Nat} (I:Inv X pz σ H s) (h1:0<=lo) (h2:lo<2^30) (h3:0<=hi) (h4:hi<2^30) (h5:0<k) (h6:k<1000)
  (q:R (Itq lo k (rsz lo hi k)) H):wpAny (model X.prog X.w) X.A (pyIter (.ref s.heap.objs.size)) (PIE X pz σ tg R) E {s with heap:=s.heap.push {cls:= .type "range",data:= .fields #[.int lo t,.int hi u,.int k v]},toks:=tk}:=by
 refine wpAny_pyIter_range (IsRange.new ..) (zW h1 h2 h3 h4 h5 h6) ?_;have I1:Inv X pz σ H {s with heap:=s.heap.push {cls:= .type "range",data:= .fields #[.int lo t,.int hi u,.int k v]},toks:=tk}:=I.kept fun b o e=>fJ _ e;refine⟨(s.heap.push {cls:= .type "range",data:= .fields #[.int lo t,.int hi u,.int k v]}).objs.size,[(s.heap.push {cls:= .type "range",data:= .fields #[.int lo t,.int hi u,.int k v]}).objs.size],_,_,H,rfl,
  I1.kept (t':=tk) fun b o e=>fJ _ e,Bn _ lo k (rsz lo hi k),?_,fun b hb=>?_,q⟩
 ·have e1:lo+((0:Nat):Int)*k=lo:=by simp
  have e2:((rsz lo hi k:Nat):Int)-((0:Nat):Int)=Builtin.Range.rangeSize lo hi k:=by rw[D6 h5];lia
  show IsRangeIter _ _ (lo+((0:Nat):Int)*k) (((rsz lo hi k:Nat):Int)-((0:Nat):Int)) k;rw[e1,e2];exact fH _ rfl
 ·have e:b=(s.heap.push {cls:= .type "range",data:= .fields #[.int lo t,.int hi u,.int k v]}).objs.size:=by simpa using hb
  subst e;exact I1.fpOk (cM _) (I1.hok.fresh (cM _))
def Jl (ta:TA):TI:=fun σ H R=>ta σ H fun vs H1=>∃i j k:Int,vs=[.int i,.int j,.int k]/\(0<=i/\i<2^30/\0<=j/\j<2^30/\0<k/\k<1000)/\R (Itq i k (rsz i j k)) H1
theorem Bq {a b c:Zr} {ta:TA} {p pos:Pos} (hg:Gl X "range") (hm:X.mg "range"=none) (ha:PA X [a,b,c] ta) (hs:autoParam (starEach [a,b,c] X.env=[(false,eval a X.env),(false,eval b X.env),(false,eval c X.env)]) auR._auto_1) (hs2:autoParam (starEach [b,c] X.env=[(false,eval b X.env),(false,eval c X.env)]) auR._auto_1):
  PI X tg (.Call (.Name "range" p) [a,b,c] [] pos) (Jl ta):=by
 intro pz s σ H R I h;refine Call_ (nS I hg hm boot_range (fQ (thn (ha pos pz s σ H _ I h) ?_) (by rw[hs,hs2]) (by rw[hs2];rfl)));rintro us s1 ⟨vs,H1,I1,r1,q1⟩;obtain⟨i,j,k,e,⟨q1,q2,q3,q4,q5,q6⟩,q⟩:=q1;subst e
 cases r1 with
 |cons r rr=>
  cases rr with
  |cons r' rr=>
   cases rr with
   |cons r'' rr=>cases rr;obtain⟨t,rfl⟩:=r;obtain⟨t',rfl⟩:=r';obtain⟨t'',rfl⟩:=r'';exact call_range_3 (by lia) (Bp I1 q1 q2 q3 q4 q5 q6 q) (.inl (PyProof.noPylong_small (by lia)))
end
theorem Dc {lo k:Int} {n:Nat} {g:TG} {tb:TS} {D:rA} {σ:St} {H:Hp} (Pv:Nat->St->Hp->Prop) (h0:Pv 0 σ H)
  (hs:∀i σ H,i<n->Pv i σ H->g (.int (lo+(i:Int)*k)) σ H fun σ2 H2=>tb {D with nx:=Pv (i+ 1),ct:=Pv (i+ 1),bk:=D.nx} σ2 H2) (hd:∀σ H,Pv n σ H->D.nx σ H):
  ∃W:Nat->Nat->St->Hp->Prop,(∃m,W 0 m σ H)/\∀i m σ H,W i m σ H->
   ((Itq lo k n).stop i H/\D.nx σ H)\/((Itq lo k n).go i H/\∃N:St->Hp->Prop,(∀σ' H',N σ' H'->∃m',m'<m/\W (i+ 1) m' σ' H')/\∀x H',(Itq lo k n).yld i H x H'->g x σ H' fun σ2 H2=>tb {D with nx:=N,ct:=N,bk:=D.nx} σ2 H2):=by
 refine⟨fun i m σ H=>m=n-i/\i<=n/\Pv i σ H,⟨n,by simp,cO _,h0⟩,?_⟩;rintro i m σ H ⟨rfl,hi,p⟩;by_cases hlt:i<n;·refine .inr ⟨hlt,Pv (i+ 1),fun σ' H' p'=>⟨n-(i+ 1),by lia,rfl,hlt,p'⟩,fun v H' y=>?_⟩;obtain⟨rfl,rfl⟩:=y;exact hs i σ H' hlt p
 ·have e:i=n:=by lia
  subst e;exact .inl ⟨cM _,hd σ H p⟩
end L2.Internal
namespace T1
open PySem
def sub (c:Nat) (z:List Nat) (l:List Nat):List Nat:=l.flatMap fun k=>if k=c then z else[k]
theorem nL (c:Nat) (z a b:List Nat):sub c z (a++b)=sub c z a++sub c z b:=List.flatMap_append ..
theorem uJ (c:Nat) (z:List Nat):∀l:List Nat,¬c∈l->sub c z l=l
 |[],_=>rfl
 |k::r,h=>by have h1:¬k=c:=fun e=>h (e▸ah ..);have h2:¬c∈r:=fun m=>h (aj _ m);show(if k=c then z else[k])++sub c z r=k::r;rw[gJ h1,uJ c z r h2];rfl
theorem E6 (c:Nat) (z:List Nat):sub c z [c]=z:=by simp[sub]
theorem yK (c:Nat) (z:Str):∀parts:List Str,(∀p∈parts,¬c∈p.cps.toList)->sub c z.cps.toList (Str.join ⟨#[c]⟩ parts).cps.toList=(Str.join z parts).cps.toList
 |[],_=>rfl
 |[p],h=>uJ c _ _ (h p (bj.mpr rfl))
 |p::q::r,h=>by have ih:=yK c z (q::r) fun a ha=>h a (aj _ ha);show sub c z.cps.toList (p++⟨#[c]⟩++Str.join ⟨#[c]⟩ (q::r)).cps.toList=(p++z++Str.join z (q::r)).cps.toList;simp only[Str.cps_append,fA];rw[nL,nL,ih,uJ c _ _ (h p (ah ..))];have e:sub c z.cps.toList [c]=z.cps.toList:=E6 c _;rw[e]
def cut (c:Nat):List Nat->List (List Nat)
 |[]=>[[]]
 |k::r=>if k=c then[]::cut c r else match cut c r with
  |h::t=>(k::h)::t
  |[]=>[[k]]
theorem yL (c:Nat):∀l:List Nat,¬c∈l->cut c l=[l]
 |[],_=>rfl
 |k::r,h=>by have h1:¬k=c:=fun e=>h (e▸ah ..);have h2:¬c∈r:=fun m=>h (aj _ m);unfold cut;rw[gJ h1,yL c r h2]
theorem yM (c:Nat):∀(p r:List Nat),¬c∈p->cut c (p++c::r)=p::cut c r
 |[],r,_=>by show(if c=c then[]::cut c r else _)=_;rw[gY rfl]
 |k::p,r,h=>by have h1:¬k=c:=fun e=>h (e▸ah ..);have h2:¬c∈p:=fun m=>h (aj _ m);show(if k=c then _ else match cut c (p++c::r)with|h::t=>(k::h)::t|[]=>[[k]])=_;rw[gJ h1,yM c p r h2]
theorem yN (c:Nat):∀parts:List Str,parts≠[]->(∀p∈parts,¬c∈p.cps.toList)->cut c (Str.join ⟨#[c]⟩ parts).cps.toList=parts.map (·.cps.toList)
 |[],h,_=>absurd rfl h
 |[p],_,h=>yL c _ (h p (bj.mpr rfl))
 |p::q::r,_,h=>by
  have ih:=yN c (q::r) (by simp) fun a ha=>h a (aj _ ha);show cut c (p++⟨#[c]⟩++Str.join ⟨#[c]⟩ (q::r)).cps.toList=_;simp only[Str.cps_append,fA];have e:p.cps.toList++[c]++(Str.join ⟨#[c]⟩ (q::r)).cps.toList=p.cps.toList++c::(Str.join ⟨#[c]⟩ (q::r)).cps.toList:=by simp
  show cut c (p.cps.toList++[c]++(Str.join ⟨#[c]⟩ (q::r)).cps.toList)=_;rw[e,yM c _ _ (h p (ah ..)),ih];rfl
def step (a:List (List Nat)×List Nat) (k:Nat):List (List Nat)×List Nat:=
 if k=32 then(if a.2=[]then(a.1,[])else(a.1++[a.2],[]))else(a.1,a.2++[k])
def yO (l:List Nat):List (List Nat)×List Nat:=l.foldl step ([],[])
def all (a:List (List Nat)×List Nat):List (List Nat):=if a.2=[]then a.1 else a.1++[a.2]
theorem rV (a b:List Nat):yO (a++b)=b.foldl step (yO a):=by unfold yO;rw[List.foldl_append]
theorem Br (c:Nat):∀l,cut c l≠[]
 |[]=>by simp[cut]
 |k::r=>by
  unfold cut;split;·simp
  ·split<;>simp
theorem tX (c:Nat):∀l,cut c (l++[c])=cut c l++[[]]
 |[]=>by simp[cut]
 |k::r=>by
  have ih:=tX c r;show(if k=c then[]::cut c (r++[c])else match cut c (r++[c])with|h::t=>(k::h)::t|[]=>[[k]])=(if k=c then[]::cut c r else match cut c r with|h::t=>(k::h)::t|[]=>[[k]])++[[]];rw[ih];split;·rfl
  ·cases e:cut c r with
   |nil=>exact absurd e (Br c r)
   |cons h t=>rfl
theorem qX (c:Nat) {k:Nat} (hk:¬k=c):∀l (A:List (List Nat)) (b:List Nat),cut c l=A++[b]->cut c (l++[k])=A++[b++[k]]
 |[],A,b,h=>by
  have e:A=[]/\b=[]:=by
   cases A with
   |nil=>have h':[[]]=[b]:=h;injection h' with h1 _;exact⟨rfl,h1.symm⟩
   |cons x A=>have h':[[]]=x::(A++[b]):=h;injection h' with _ h2;simp at h2
  obtain⟨rfl,rfl⟩:=e;show(if k=c then _ else match cut c []with|h::t=>(k::h)::t|[]=>[[k]])=_;rw[gJ hk];rfl
 |x::r,A,b,h=>by
  have h:(if x=c then[]::cut c r else match cut c r with|h::t=>(x::h)::t|[]=>[[x]])=A++[b]:=h;show(if x=c then[]::cut c (r++[k])else match cut c (r++[k])with|h::t=>(x::h)::t|[]=>[[x]])=A++[b++[k]];by_cases e:x=c
  ·rw[gY e]at h⊢
   cases A with
   |nil=>have h':[]::cut c r=[b]:=h;injection h' with _ h2;exact absurd h2 (Br c r)
   |cons y A=>have h':[]::cut c r=y::(A++[b]):=h;injection h' with h1 h2;rw[qX c hk r A b h2,<-h1];rfl
  ·rw[gJ e]at h⊢
   cases q:cut c r with
   |nil=>exact absurd q (Br c r)
   |cons g t=>
    rw[q]at h;have h:(x::g)::t=A++[b]:=h
    cases A with
    |nil=>have h':(x::g)::t=[b]:=h;injection h' with h1 h2;rw[qX c hk r [] g (by rw[q,h2];rfl),<-h1];rfl
    |cons y A=>have h':(x::g)::t=y::(A++[b]):=h;injection h' with h1 h2;rw[qX c hk r (g::A) b (by rw[q,h2];rfl),<-h1];rfl
theorem Dd (l:List Nat):∃A,cut 32 l=A++[(yO l).2]/\A.filter (fun p=>decide (p≠[]))=(yO l).1:=by
 suffices H:∀n (l:List Nat),l.length=n->∃A,cut 32 l=A++[(yO l).2]/\A.filter (fun p=>decide (p≠[]))=(yO l).1 from H _ l rfl;intro n
 induction n with
 |zero=>intro l h;have e:l=[]:=bH.mp h;subst e;exact⟨[],rfl,rfl⟩
 |succ n ih=>
  intro l h;obtain⟨m,k,rfl⟩:∃m k,l=m++[k]:=by
   have hne:l≠[]:=by intro e;rw[e]at h;simp at h
   exact⟨l.dropLast,l.getLast hne,(bI hne).symm⟩
  obtain⟨A,h1,h2⟩:=ih m (by simp at h;exact h);rw[rV];show ∃A,cut 32 (m++[k])=A++[(step (yO m) k).2]/\A.filter (fun p=>decide (p≠[]))=(step (yO m) k).1;by_cases e:k=32
  ·subst e;refine⟨A++[(yO m).2],?_,?_⟩;·rw[tX,h1];unfold step;rw[gY rfl];split<;>rfl
   ·rw[bJ,h2];unfold step;rw[gY rfl];by_cases e2:(yO m).2=[];·rw[gY e2,e2];simp
    ·rw[gJ e2];simp[e2]
  ·refine⟨A,?_,?_⟩;·unfold step;rw[gJ e];exact qX 32 e m A _ h1
   ·unfold step;rw[gJ e];exact h2
theorem words_cut (l:List Nat):(cut 32 l).filter (fun p=>decide (p≠[]))=all (yO l):=by
 obtain⟨A,h1,h2⟩:=Dd l;rw[h1,bJ,h2];unfold all;by_cases e:(yO l).2=[];·rw[gY e,e];simp
 ·rw[gJ e];simp[e]
def ex (k:Nat):List Nat:=if k=40 then[32,40,32]else if k=41 then[32,41,32]else if k=10 then[32]else[k]
def spaced (l:List Nat):List Nat:=l.flatMap ex
theorem uK (a b:List Nat):spaced (a++b)=spaced a++spaced b:=List.flatMap_append ..
theorem spaced_sub:∀l:List Nat,sub 10 [32] (sub 41 [32,41,32] (sub 40 [32,40,32] l))=spaced l
 |[]=>rfl
 |k::r=>by
  have ih:=spaced_sub r;have e:∀(c:Nat) (z:List Nat) (l:List Nat) (k:Nat),sub c z (k::l)=(if k=c then z else[k])++sub c z l:=fun _ _ _ _=>rfl;have e2:spaced (k::r)=ex k++spaced r:=rfl;rw[e,nL,nL,ih,e2];congr 1;unfold ex;by_cases h1:k=40;·rw[gY h1,gY h1];rfl
  ·rw[gJ h1,gJ h1];by_cases h2:k=41;·rw[gY h2,h2];rfl
   ·rw[gJ h2,e,gJ h2];show sub 10 [32] ([k]++[])=_;rw[aF,e];by_cases h3:k=10;·rw[gY h3];rfl
    ·rw[gJ h3];rfl
def W (l:List Nat):List (List Nat)×List Nat:=yO (spaced l)
theorem qY (a b:List Nat):W (a++b)=(spaced b).foldl step (W a):=by unfold W;rw[uK,rV]
theorem Jn (a:List Nat) {k:Nat} (hk:k=32\/k=10):W (a++[k])=(all (W a),[]):=by
 rw[qY];have e:spaced [k]=[32]:=by rcases hk with e|e<;>subst e<;>rfl
 rw[e];show step (W a) 32=_;unfold step all;rw[gY rfl];split<;>rfl
theorem Bs (a:List Nat) {k:Nat} (hk:k=40\/k=41):W (a++[k])=(all (W a)++[[k]],[]):=by
 rw[qY];have e:spaced [k]=[32,k,32]:=by rcases hk with e|e<;>subst e<;>rfl
 have n32:¬k=32:=by lia
 rw[e];show step (step (step (W a) 32) k) 32=_;have e1:step (W a) 32=(all (W a),[]):=by unfold step all;rw[gY rfl];split<;>rfl
 rw[e1];show(if(32:Nat)=32 then(if(step (all (W a),[]) k).2=[]then((step (all (W a),[]) k).1,[])else((step (all (W a),[]) k).1++[(step (all (W a),[]) k).2],[]))else _)=_;have e2:step (all (W a),[]) k=(all (W a),[k]):=by unfold step;rw[gJ n32];rfl
 rw[gY rfl,e2];rfl
theorem Jo (a:List Nat):∀p:List Nat,(∀k∈p,k≠32/\k≠10/\k≠40/\k≠41)->W (a++p)=((W a).1,(W a).2++p):=by
 intro p hp;rw[qY];have e:spaced p=p:=by
  induction p with
  |nil=>rfl
  |cons k r ih=>obtain⟨h1,h2,h3,h4⟩:=hp k (ah ..);have e2:spaced (k::r)=ex k++spaced r:=rfl;rw[e2,ih fun x hx=>hp x (aj _ hx)];unfold ex;rw[gJ h3,gJ h4,gJ h2];rfl
 rw[e];generalize W a=b
 induction p generalizing b with
 |nil=>show b=_;rw[aF]
 |cons k r ih=>
  obtain⟨h1,h2,h3,h4⟩:=hp k (ah ..);show r.foldl step (step b k)=_;have e1:step b k=(b.1,b.2++[k]):=by unfold step;rw[gJ h1]
  have e3:spaced r=r:=by
   have e2:spaced (k::r)=ex k++spaced r:=rfl;have e4:ex k=[k]:=by unfold ex;rw[gJ h3,gJ h4,gJ h2]
   rw[e2,e4]at e;injection e
  rw[e1,ih (fun x hx=>hp x (aj _ hx)) e3];simp
open Builtin Builtin.Str
theorem replace_codes (x z:Str) (c:Nat):(Txt.replace x ⟨#[c]⟩ z).cps.toList=sub c z.cps.toList x.cps.toList:=by rw[StrLaws.replace_one,<-yK c z _ (StrLaws.split_free x c),StrLaws.join_split]
theorem De (x y:Str):Txt.split x y≠[]:=by
 unfold Txt.split;split;·simp
 ·split;·simp
  ·rename_i h
   cases e:occurrences x y 0 x.length (x.length+ 1)with
   |nil=>rw[e]at h;exact absurd rfl h
   |cons a r=>simp[partsBetween]
theorem split_codes (x:Str) (c:Nat):(Txt.split x ⟨#[c]⟩).map (·.cps.toList)=cut c x.cps.toList:=by have h:=yN c (Txt.split x ⟨#[c]⟩) (De x _) (StrLaws.split_free x c);rw[StrLaws.join_split]at h;exact h.symm
theorem flat_len (f:Nat->List Nat) (n:Nat) (h:∀k,(f k).length<=n):∀l:List Nat,(l.flatMap f).length<=n*l.length
 |[]=>by simp
 |k::r=>by rw[List.flatMap_cons,aQ,aB];have h1:=h k;have h2:=flat_len f n h r;rw[Nat.mul_succ];lia
theorem str_ext {x y:Str} (h:x.cps.toList=y.cps.toList):x=y:=by obtain⟨a⟩:=x;obtain⟨b⟩:=y;have e:a=b:=Array.toList_inj.mp h;rw[e]
theorem len_codes (x:Str):x.cps.toList.length=x.length:=by rw[fu];rfl
theorem dig_len:∀(k m:Nat),m<10^(k+ 1)->(cY 10 m).length<=k+ 1:=by
 intro k
 induction k with
 |zero=>intro m h;rw[cZ (by simpa using h)];exact cM _
 |succ k ih=>
  intro m h;by_cases h10:m<10;·rw[cZ h10];show 1<=_;lia
  ·have hm:m%10<10:=Nat.mod_lt m (by decide);have t:cY 10 (m/10)++cY 10 (m%10)=cY 10 (10*(m/10)+m%10):=c9 (by decide) (by lia) hm;rw[Nat.div_add_mod]at t;rw[<-t,aQ,cZ hm];have hq:m/10<10^(k+ 1):=by rw[Nat.div_lt_iff_lt_mul (by decide)];rw[Nat.pow_succ]at h;exact h
   have:=ih (m/10) hq;show _+ 1<=_;lia
end T1
namespace GR.Internal
open PySem L2.Internal
theorem sz {n:Nat} (h:n<=100000):n<=sizeLine:=cH h (by decide)
theorem gb {H:Hp} {p:Zx} (h:H p=none) (o:HO):gB H (upd H p o):=fun b u q=>by rw[gr (gm q h)];exact q
def wV (w:List Nat):V:= .str ⟨w.toArray⟩
def rW (l:List Nat):List V:=(T1.all (T1.W l)).map wV
theorem zX (l:List Nat):rW l=((T1.all (T1.W l)).map fun w=>(⟨w.toArray⟩:Str)).map V.str:=by unfold rW;rw[bC];rfl
def KWV:List V:=[.str "def",.str "fn",.str "call",.str "let",.str "rec",.str "get",.str "tag",.str "case",.str "row",.str "at",.str "join",.str "size",.str "add",.str "sub",.str "less"]
def SM:Str:="abcdefghijklmnopqrstuvwxyz"
def FG:Str:="0123456789"
def allIn (x y:Str):Bool:=x.cps.toList.all fun c=>decide (c∈y.cps.toList)
def firstIn (x y:Str):Bool:=match x.cps.toList with
 |[]=>false
 |c::_=>decide (c∈y.cps.toList)
def isName (x:Str):Bool:=decide (1<=x.length)&&decide (x.length<=12)&&!inV (.str x) KWV&&firstIn x SM&&allIn x (SM++FG)
theorem first_of {x:Str} (h:1<=x.length):∃c r,x.cps.toList=c::r:=by
 have e:=T1.len_codes x
 cases q:x.cps.toList with
 |nil=>rw[q]at e;simp at e;lia
 |cons c r=>exact⟨c,r,rfl⟩
theorem at0 {c:Nat} {r:List Nat}:atI (c::r) (0:Int)=some c:=gj (j:=0) rfl
def rX (x:Str):Bool:=match x.cps.toList with
 |[]=>false
 |c::_=>c==48
def jy (x:Str):Bool:=decide (1<=x.length)&&decide (x.length<=60)&&allIn x FG&&(!rX x||decide (x="0"))
def wa (x:Str):Int:=(intText? x).getD 0
theorem E7 (c:Nat):decide (V.str ⟨#[c]⟩=V.str "0")=(c==48):=by
 by_cases h:c=48;·subst h;rfl
 ·have h1:¬V.str ⟨#[c]⟩=V.str "0":=fun z=>by
   injection z with z;have e:(⟨#[c]⟩:Str).cps.toList=("0":Str).cps.toList:=by rw[z]
   have e2:[c]=[48]:=e;injection e2 with e3 _;exact h e3
  rw[iw h1];exact(beq_eq_false_iff_ne.mpr h).symm
theorem yP:∀c∈FG.cps.toList,48<=c/\c<=57:=gQ
theorem allIn_mem {x y:Str} (h:allIn x y=true):∀c∈x.cps.toList,c∈y.cps.toList:=fun c hc=>of_decide_eq_true (bK.mp h c hc)
theorem zY {x:Str} (h1:1<=x.length) (h2:x.length<=100) (h:allIn x FG=true):intText? x=some (wa x):=by
 have hd:PySem.NumText.AllDigits x.cps.toList:=fun c hc=>yP c (allIn_mem h c hc);have hne:x.cps.toList≠[]:=by obtain⟨c,r,e⟩:=first_of h1;rw[e];exact bL _ _
 have e:=PySem.intText_digits hd hne (by lia);unfold wa;rw[e];rfl
theorem rY {x:Str} (h:jy x=true):1<=x.length/\x.length<=60/\allIn x FG=true:=by unfold jy at h;simp only[fj,decide_eq_true_eq]at h;exact⟨h.1.1.1,h.1.1.2,h.1.2⟩
theorem E8 {n j:Nat} (h:j<n):ixN n (j:Int)=some j:=by unfold ixN;rw[gY (by lia),gY (by lia)];simp
def fR (wl:Zx) (k:Int) (rl:Zx):List (Str×V):=[("words",.ref wl),("taken",.int k),("rows",.ref rl)]
theorem Jp (wl:Zx) (k:Int) (rl:Zx):nK "rows" (.ref rl) (nK "taken" (.int k) (nK "words" (.ref wl) []))=fR wl k rl:=by have h1:¬(("words":Str)="taken"):=gQ;have h2:¬(("words":Str)="rows"):=gQ;have h3:¬(("taken":Str)="rows"):=gQ;simp only[nK,gJ h1,gJ h2,gJ h3,fR]
theorem Hg (wl:Zx) (k j:Int) (rl:Zx):nK "taken" (.int j) (fR wl k rl)=fR wl j rl:=by have h1:¬(("words":Str)="taken"):=gQ;simp only[nK,fR,gJ h1,gY]
theorem yQ (wl:Zx) (k:Int) (rl:Zx):(fR wl k rl).lookup ("words":Str)=some (.ref wl):=by unfold fR;rw[bp,show(("words":Str)=="words")=true by decide+kernel]
theorem uL (wl:Zx) (k:Int) (rl:Zx):(fR wl k rl).lookup ("taken":Str)=some (.int k):=by unfold fR;rw[bp,show(("taken":Str)=="words")=false by decide+kernel,bp,show(("taken":Str)=="taken")=true by decide+kernel]
theorem uM (wl:Zx) (k:Int) (rl:Zx):(fR wl k rl).lookup ("rows":Str)=some (.ref rl):=by unfold fR;rw[bp,show(("rows":Str)=="words")=false by decide+kernel,bp,show(("rows":Str)=="taken")=false by decide+kernel,bp,show(("rows":Str)=="rows")=true by decide+kernel]
theorem Dg (wl:Zx) (k:Int) (rl:Zx) {m:Str} (h1:(m=="words")=false) (h2:(m=="taken")=false) (h3:(m=="rows")=false):(fR wl k rl).lookup m=none:=by unfold fR;rw[bp,h1,bp,h2,bp,h3];rfl
structure pk (C:Zx) (H:Hp) (p dx wl rl:Zx) (ws:Zd) (k:Nat) (rows:List V):Prop where
 ob:H p=some (.ins C dx (fR wl (k:Int) rl))
 wd:H wl=some (.lst (ws.map V.str))
 rw:H rl=some (.lst rows)
 ne:wl≠rl
structure WOk (ws:Zd):Prop where
 len:ws.length<=30000
 one:∀x∈ws,x≠""/\x.length<=30000/\∀c∈x.cps.toList,c<16^8
theorem pA {ws:Zd} (W:WOk ws) {x:Str} (h:x∈ws):(reprText x).length<=300002:=by obtain⟨_,h1,h2⟩:=W.one x h;have:=StrLaws.reprText_len x h2;lia
theorem Iy {a:Str} (h:a.length<=300002):(Str.empty++a).length<=sizeLine:=by have sl:=sizeLine_eq;rw[Str.length_append];show 0+_<=_;lia
theorem E9 {a b:Str} (h:a.length<=300002) (h2:b.length<=100):(Str.empty++a++b).length<=sizeLine:=by have sl:=sizeLine_eq;rw[Str.length_append,Str.length_append];show 0+_+_<=_;lia
theorem cat3 {a b c:Str} (h:a.length<=300002) (h2:b.length<=100) (h3:c.length<=300002):(Str.empty++a++b++c).length<=sizeLine:=by have sl:=sizeLine_eq;rw[Str.length_append,Str.length_append,Str.length_append];show 0+_+_+_<=_;lia
theorem Ko {a b c d:Str} (h:a.length<=300002) (h2:b.length<=100) (h3:c.length<=300002) (h4:d.length<=100):(Str.empty++a++b++c++d).length<=sizeLine:=by have sl:=sizeLine_eq;rw[Str.length_append,Str.length_append,Str.length_append,Str.length_append];show 0+_+_+_+_<=_;lia
def fP (a b c:Zx):List (Str×V):=[("names",.ref a),("roots",.ref b),("rows",.ref c)]
theorem Jq (a b c:Zx):nK "rows" (.ref c) (nK "roots" (.ref b) (nK "names" (.ref a) []))=fP a b c:=by have h1:¬(("names":Str)="roots"):=gQ;have h2:¬(("names":Str)="rows"):=gQ;have h3:¬(("roots":Str)="rows"):=gQ;simp only[nK,gJ h1,gJ h2,gJ h3,fP]
theorem Jr {c:Nat} (h1:48<=c) (h2:c<=57):c∈FG.cps.toList:=by
 have e:FG.cps.toList=[48,49,50,51,52,53,54,55,56,57]:=gQ;rw[e];have:c=48\/c=49\/c=50\/c=51\/c=52\/c=53\/c=54\/c=55\/c=56\/c=57:=by lia
 rcases this with rfl|rfl|rfl|rfl|rfl|rfl|rfl|rfl|rfl|rfl<;>decide
theorem str_fig {n:Int} {k:Nat} (h0:0<=n) (h1:n<10^(k+ 1)):(∀c∈(PySem.Str.ofString (toString n)).cps.toList,c∈FG.cps.toList)/\1<=(PySem.Str.ofString (toString n)).length/\(PySem.Str.ofString (toString n)).length<=k+ 1:=by
 obtain⟨m,rfl⟩:=fD h0;have hm:m<10^(k+ 1):=by
  have z:((m:Nat):Int)<((10^(k+ 1):Nat):Int):=by rw[Int.natCast_pow];exact h1
  exact Int.ofNat_lt.mp z
 have e:=PySem.W.KIN.signs_num m;have el:=T1.len_codes (PySem.Str.ofString (toString ((m:Nat):Int)));rw[e,aE]at el;refine⟨fun c hc=>?_,?_,?_⟩;·rw[e]at hc;obtain⟨ch,hch,rfl⟩:=bf.mp hc;obtain⟨r1,r2⟩:=PyProof.Rows.digit_range (Nat.isDigit_of_mem_toDigits (by decide) (by decide) hch);exact Jr r1 r2
 ·have z:=PySem.toDigits_len_ge 10 m;lia
 ·have z:=T1.dig_len k m hm;lia
theorem Hh {n:Int} (h0:0<=n) (h1:n<10^70):n.natAbs.log2<1920:=by
 by_cases hz:n.natAbs=0;·rw[hz];decide
 ·rw[Nat.log2_lt hz];have a:n.natAbs<10^70:=by lia
  exact Nat.lt_trans a gQ
theorem app_codes (x y:Str):(x++y).cps.toList=x.cps.toList++y.cps.toList:=by rw[Str.cps_append,fA]
theorem pk.ne1 {C p dx wl rl:Zx} {H:Hp} {ws:Zd} {k:Nat} {rows:List V} (R:pk C H p dx wl rl ws k rows):p≠wl:=kS R.ob R.wd (fun z=>nomatch z)
theorem pk.ne2 {C p dx wl rl:Zx} {H:Hp} {ws:Zd} {k:Nat} {rows:List V} (R:pk C H p dx wl rl ws k rows):p≠rl:=kS R.ob R.rw (fun z=>nomatch z)
theorem pk.next {C p dx wl rl:Zx} {H:Hp} {ws:Zd} {k:Nat} {rows:List V} (R:pk C H p dx wl rl ws k rows) (j:Nat):pk C (upd H p (.ins C dx (fR wl (j:Int) rl))) p dx wl rl ws j rows:=
 ⟨fY,by rw[gr (Ne.symm R.ne1)];exact R.wd,by rw[gr (Ne.symm R.ne2)];exact R.rw,R.ne⟩
theorem pk.same {C p dx wl rl:Zx} {H H':Hp} {ws:Zd} {k:Nat} {rows:List V} (R:pk C H p dx wl rl ws k rows) (S:gB H H'):pk C H' p dx wl rl ws k rows:=⟨S _ _ R.ob,S _ _ R.wd,S _ _ R.rw,R.ne⟩
theorem tn0 {σ:St} {H:Hp} {Q:List V->Hp->Prop} (h:Q [] H):AF σ H Q:=h
theorem tc1 {v:V} {σ:St} {H:Hp} {Q:List V->Hp->Prop} (h:Q [v] H):oi (tC v) AF σ H Q:=h
theorem iN (wl:Zx) (k:Int) (rl:Zx) (m:Str) (h:m="ahead"\/m="pass_over"\/m="take_name"\/m="take_expr"\/m="take"\/m="take_row"\/m="take_steady"\/m="take_fields"\/m="take_arms"\/m="take_things"\/m="take_form"):(fR wl k rl).lookup m=none:=by rcases h with rfl|rfl|rfl|rfl|rfl|rfl|rfl|rfl|rfl|rfl|rfl<;>exact Dg _ _ _ gQ gQ gQ
theorem uN {H H':Hp} {p:Zx} (o:HO) (h:H p=none) (S:gB H H'):gB H (upd H' p o):=fun b u e=>by rw[gr (gm e h)];exact S b u e
abbrev Rs:=List Str×List Dt
def gM (pe:List Str->List Dt->Option Rs):List Bool->List Dt->List Str->List Dt->Option (List Dt×Rs)
 |[],acc,ws,rows=>some (acc,ws,rows)
 |true::ps,acc,ws,rows=>match ws with
  |[]=>none
  |x::r=>if isName x=true then gM pe ps (acc++[.flat (.str x)]) r rows else none
 |false::ps,acc,ws,rows=>match pe ws rows with
  |none=>none
  |some (r,rows')=>gM pe ps (acc++[.flat (.int (rows.length:Int))]) r rows'
def jb (item:List Str->List Dt->Option (Dt×Rs)) (ws:Zd) (rows acc:List Dt):Option (List Dt×Rs):=
 if ws.head?=some ")" then some (acc,ws,rows)else match item ws rows with
  |none=>none
  |some (d,r,rows')=>if h:r.length<ws.length then jb item r rows' (acc++[d])else none
termination_by ws.length
def iZ (pe:List Str->List Dt->Option Rs) (ps:List Bool) (ws:Zd) (rows:List Dt):Option (Dt×Rs):=match gM pe ps [] ws rows with
 |none=>none
 |some (ds,r)=>some (.tup ds,r)
def kT (pe:List Str->List Dt->Option Rs) (ws:Zd) (rows:List Dt):Option (Dt×Rs):=match pe ws rows with
 |none=>none
 |some r=>some (.flat (.int (rows.length:Int)),r)
def chk (lo hi:Nat) (o:Option (List Dt×Rs)):Option (List Dt×Rs):=match o with
 |none=>none
 |some (l,r)=>if lo<=l.length/\l.length<=hi then some (l,r)else none
def stT:List (Str×List Bool):=[("fn",[true,false]),("call",[false,false]),("let",[true,false,false]),("get",[false,true]),("tag",[true,false]),("at",[false,false,false]),
 ("join",[false,false]),("size",[false]),("add",[false,false]),("sub",[false,false]),("less",[false,false])]
def stP (h:Str):Option (List Bool):=(stT.find? fun p=>decide (p.1=h)).map (·.2)
def jg (pe:List Str->List Dt->Option Rs) (h:Str) (ws:Zd) (rows:List Dt):Option (List Dt×Rs):=
 if h="rec" then match chk 0 6 (jb (iZ pe [true,false]) ws rows [])with
  |none=>none
  |some (l,r)=>some ([.flat (.str "rec"),.tup l],r)
 else if h="case" then match pe ws rows with
  |none=>none
  |some (r1,rows1)=>match chk 1 6 (jb (iZ pe [true,true,false]) r1 rows1 [])with
   |none=>none
   |some (l,r)=>some ([.flat (.str "case"),.flat (.int (rows.length:Int)),.tup l],r)
 else if h="row" then match chk 0 8 (jb (kT pe) ws rows [])with
  |none=>none
  |some (l,r)=>some ([.flat (.str "row"),.tup l],r)
 else match stP h with
  |none=>none
  |some ps=>match gM pe ps [] ws rows with
   |none=>none
   |some (ds,r)=>some (.flat (.str h)::ds,r)
def mW (o:Option (List Dt×Rs)):Option (List Dt×Rs):=match o with
 |none=>none
 |some (ds,r,rows)=>match r with
  |[]=>none
  |y::r'=>if y=")" then some (ds,r',rows)else none
def tY (pe:List Str->List Dt->Option Rs) (ws:Zd) (rows:List Dt):Option (List Dt×Rs):=match ws with
 |[]=>none
 |x::r=>if jy x=true then some ([.flat (.str "num"),.flat (.int (wa x))],r,rows)
  else if isName x=true then some ([.flat (.str "name"),.flat (.str x)],r,rows)
  else if x="(" then(match r with
   |[]=>none
   |h::r2=>mW (jg pe h r2 rows))
  else none
def gP:Nat->List Str->List Dt->Option Rs
 |0,_,_=>none
 |f+ 1,ws,rows=>if rows.length=160 then none else match tY (gP f) ws (rows++[.flat .non])with
  |none=>none
  |some (ds,r,rows')=>some (r,rows'.set rows.length (.tup ds))
def jC (ws:Zd) (rows:List Dt) (names:Zd) (roots:List Dt):Option (List Str×List Dt×List Dt):=match ws with
 |[]=>some (names,roots,rows)
 |[_]=>none
 |[_,_]=>none
 |a::b::c::r=>if a="("/\b="def"/\isName c=true then(match gP 24 r rows with
   |none=>none
   |some (r2,rows2)=>match r2 with
    |[]=>none
    |y::r3=>if y=")" then(if h:r3.length<r.length+ 3 then jC r3 rows2 (names++[c]) (roots++[.flat (.int (rows.length:Int))])else none)else none)else none
termination_by ws.length
decreasing_by simp_wf;lia
def mG (ws:Zd):Option (List Str×List Dt×List Dt):=match jC ws [] [] []with
 |none=>none
 |some (n,r,rows)=>if 1<=n.length/\n.length<=12 then some (n,r,rows)else none
structure qO (ws:Zd) (rows:List Dt) (r:Rs):Prop where
 le:r.1.length<=ws.length
 up:rows.length<=r.2.length
 most:rows.length<=160->r.2.length<=160
 suf:∃u,ws=u++r.1
theorem qO.refl (ws:Zd) (rows:List Dt):qO ws rows (ws,rows):=⟨cM _,cM _,fun h=>h,[],rfl⟩
theorem qO.trans {ws:Zd} {rows:List Dt} {r s:Rs} (a:qO ws rows r) (b:qO r.1 r.2 s):qO ws rows s:=by obtain⟨u,e⟩:=a.suf;obtain⟨v,e'⟩:=b.suf;exact⟨cH b.le a.le,cH a.up b.up,fun h=>b.most (a.most h),u++v,by rw[bM,<-e',<-e]⟩
theorem qO.drop {x:Str} {r:Zd} {rows:List Dt}:qO (x::r) rows (r,rows):=⟨cQ _,cM _,fun h=>h,[x],rfl⟩
def Cw (pe:List Str->List Dt->Option Rs):Prop:=∀ws rows r,pe ws rows=some r->qO ws rows r/\r.1.length<ws.length/\rows.length<r.2.length
theorem kU {pe:List Str->List Dt->Option Rs} (g:Cw pe):∀(ps:List Bool) (acc:List Dt) (ws:Zd) (rows ds:List Dt) (r:Rs),gM pe ps acc ws rows=some (ds,r)->qO ws rows r/\(ps≠[]->r.1.length<ws.length)/\ds.length=acc.length+ps.length
 |[],acc,ws,rows,ds,r,h=>by rw[gM]at h;cases h;exact⟨qO.refl _ _,fun z=>absurd rfl z,rfl⟩
 |true::ps,acc,[],rows,ds,r,h=>by rw[gM]at h;cases h
 |true::ps,acc,x::ws,rows,ds,r,h=>by
  rw[gM]at h;split at h
  ·obtain⟨s,_,l⟩:=kU g ps _ _ _ _ _ h;have s':=(qO.drop (x:=x)).trans s;refine⟨s',fun _=>?_,?_⟩;·have:=s.le;simp only[aB];lia
   ·simp only[aQ,aB,aV]at l⊢;lia
  ·cases h
 |false::ps,acc,ws,rows,ds,r,h=>by
  rw[gM]at h;split at h;·cases h
  ·rename_i r1 rows1 e;obtain⟨s1,lt,_⟩:=g _ _ _ e;obtain⟨s,_,l⟩:=kU g ps _ _ _ _ _ h;refine⟨s1.trans s,fun _=>cR s.le lt,?_⟩;simp only[aQ,aB,aV]at l⊢;lia
def wb (item:List Str->List Dt->Option (Dt×Rs)):Prop:=∀ws rows d r,item ws rows=some (d,r)->qO ws rows r/\r.1.length<ws.length
theorem lV {pe:List Str->List Dt->Option Rs} (g:Cw pe) (ps:List Bool) (h:ps≠[]):wb (iZ pe ps):=by
 intro ws rows d r e;unfold iZ at e;split at e;·cases e
 ·rename_i ds r' e';cases e;obtain⟨s,l,_⟩:=kU g ps _ _ _ _ _ e';exact⟨s,l h⟩
theorem p6 {pe:List Str->List Dt->Option Rs} (g:Cw pe):wb (kT pe):=by
 intro ws rows d r e;unfold kT at e;split at e;·cases e
 ·rename_i r' e';cases e;obtain⟨s,l,_⟩:=g _ _ _ e';exact⟨s,l⟩
theorem p7 {item:List Str->List Dt->Option (Dt×Rs)} (g:wb item) (ws:Zd) (rows acc:List Dt) (h:ws.head?≠some ")"):
  jb item ws rows acc=match item ws rows with
   |none=>none
   |some (d,r,rows')=>jb item r rows' (acc++[d]):=by
 rw[jb,gJ h]
 cases e:item ws rows with
 |none=>rfl
 |some x=>obtain⟨d,r,rows'⟩:=x;have l:=(g _ _ _ _ e).2;show(if h:r.length<ws.length then _ else _)=_;rw[dif_pos l]
theorem l7 {item:List Str->List Dt->Option (Dt×Rs)} (ws:Zd) (rows acc:List Dt) (h:ws.head?=some ")"):jb item ws rows acc=some (acc,ws,rows):=by rw[jb,gY h]
theorem rZ {item:List Str->List Dt->Option (Dt×Rs)} (g:wb item):∀(n:Nat) (ws:Zd) (rows acc l:List Dt) (r:Rs),ws.length<=n->jb item ws rows acc=some (l,r)->qO ws rows r:=by
 intro n
 induction n with
 |zero=>
  intro ws rows acc l r hn h;by_cases hh:ws.head?=some ")";·rw[l7 _ _ _ hh]at h;cases h;exact qO.refl _ _
  ·rw[p7 g _ _ _ hh]at h;split at h;·cases h
   ·rename_i d r' rows' e;have l:=(g _ _ _ _ e).2;lia
 |succ n ih=>
  intro ws rows acc l r hn h;by_cases hh:ws.head?=some ")";·rw[l7 _ _ _ hh]at h;cases h;exact qO.refl _ _
  ·rw[p7 g _ _ _ hh]at h;split at h;·cases h
   ·rename_i d r' rows' e;obtain⟨s,lt⟩:=g _ _ _ _ e;exact s.trans (ih _ _ _ _ _ (by lia) h)
theorem uO {lo hi:Nat} {o:Option (List Dt×Rs)} {l:List Dt} {r:Rs} (h:chk lo hi o=some (l,r)):o=some (l,r)/\lo<=l.length/\l.length<=hi:=by
 unfold chk at h;split at h;·cases h
 ·split at h;·cases h;rename_i z;exact⟨rfl,z⟩
  ·cases h
theorem Bt {pe:List Str->List Dt->Option Rs} (g:Cw pe) {h:Str} {ws:Zd} {rows ds:List Dt} {r:Rs} (e:jg pe h ws rows=some (ds,r)):qO ws rows r:=by
 unfold jg at e;split at e
 ·split at e;·cases e
  ·rename_i l r' e';cases e;exact rZ (lV g _ (by simp)) _ _ _ _ _ _ (cM _) (uO e').1
 split at e
 ·split at e;·cases e
  ·rename_i r1 rows1 e1;split at e;·cases e
   ·rename_i l r' e';cases e;exact(g _ _ _ e1).1.trans (rZ (lV g _ (by simp)) _ _ _ _ _ _ (cM _) (uO e').1)
 split at e
 ·split at e;·cases e
  ·rename_i l r' e';cases e;exact rZ (p6 g) _ _ _ _ _ _ (cM _) (uO e').1
 split at e;·cases e
 ·split at e;·cases e
  ·rename_i ds' r' e';cases e;exact(kU g _ _ _ _ _ _ e').1
theorem zZ {o:Option (List Dt×Rs)} {ds:List Dt} {r:Rs} {ws:Zd} {rows:List Dt} (h:∀ds' r',o=some (ds',r')->qO ws rows r') (e:mW o=some (ds,r)):qO ws rows r:=by
 unfold mW at e;split at e;·cases e
 ·rename_i ds' r' rows';split at e;·cases e
  ·split at e;·cases e;exact(h _ _ rfl).trans qO.drop
   ·cases e
theorem yR {pe:List Str->List Dt->Option Rs} (g:Cw pe) {ws:Zd} {rows ds:List Dt} {r:Rs} (e:tY pe ws rows=some (ds,r)):qO ws rows r/\r.1.length<ws.length:=by
 unfold tY at e;split at e;·cases e
 ·rename_i x ws';split at e;·cases e;exact⟨qO.drop,cP _⟩
  split at e;·cases e;exact⟨qO.drop,cP _⟩
  split at e
  ·split at e;·cases e
   ·rename_i hh h r2;have s:=zZ (fun ds' r' z=>Bt g z) e;have s2:=(qO.drop (x:=h)).trans s;exact⟨(qO.drop (x:=x)).trans s2,cR s2.le (cP _)⟩
  ·cases e
theorem jn:∀f:Nat,Cw (gP f)
 |0=>fun ws rows r e=>by rw[gP]at e;cases e
 |f+ 1=>fun ws rows r e=>by
  rw[gP]at e;split at e;·cases e
  ·rename_i hne;split at e;·cases e
   ·rename_i ds r' rows' e';cases e;obtain⟨s,lt⟩:=yR (jn f) e';have up:=s.up;simp only[aQ,aB,aV]at up;refine⟨⟨s.le,?_,fun h=>?_,s.suf⟩,lt,?_⟩;·show rows.length<=(rows'.set _ _).length;rw[aZ];lia
    ·show(rows'.set _ _).length<=160;rw[aZ];refine s.most ?_;simp only[aQ,aB,aV];lia
    ·show rows.length<(rows'.set _ _).length;rw[aZ];lia
section
variable {pe:List Str->List Dt->Option Rs} {x:Str} {r:Zd} {rows:List Dt}
theorem xF (h:jy x=true):tY pe (x::r) rows=some ([.flat (.str "num"),.flat (.int (wa x))],r,rows):=by unfold tY;exact gY h
theorem uP (h1:¬jy x=true) (h:isName x=true):tY pe (x::r) rows=some ([.flat (.str "name"),.flat (.str x)],r,rows):=by unfold tY;exact(gJ h1).trans (gY h)
theorem Hi (h1:¬jy x=true) (h2:¬isName x=true) (h:¬x="("):tY pe (x::r) rows=none:=by unfold tY;exact(gJ h1).trans ((gJ h2).trans (gJ h))
theorem xG {y:Str} (h1:¬jy x=true) (h2:¬isName x=true) (h:x="("):tY pe (x::y::r) rows=mW (jg pe y r rows):=by unfold tY;exact(gJ h1).trans ((gJ h2).trans (gY h))
theorem Dh (h1:¬jy x=true) (h2:¬isName x=true) (h:x="("):tY pe [x] rows=none:=by unfold tY;exact(gJ h1).trans ((gJ h2).trans (gY h))
end
section
variable {rows:List Dt} {names:Zd} {roots:List Dt}
theorem defs_nil:jC [] rows names roots=some (names,roots,rows):=by rw[jC]
theorem Di {ws:Zd} (h0:ws≠[]) (h:ws.head?≠some "("):jC ws rows names roots=none:=by
 match ws,h0,h with
 |[_],_,_=>rw[jC]
 |[_,_],_,_=>rw[jC]
 |a::b::c::r,_,h=>rw[jC,gJ];exact fun z=>h (congrArg some z.1)
theorem Dj {r:Zd} (h:r.head?≠some "def"):jC ("("::r) rows names roots=none:=by
 match r,h with
 |[],_=>rw[jC]
 |[_],_=>rw[jC]
 |b::c::r,h=>rw[jC,gJ];exact fun z=>h (congrArg some z.2.1)
theorem Dl {r:Zd} (h:∀x r',r=x::r'->isName x=false):jC ("("::"def"::r) rows names roots=none:=by
 match r,h with
 |[],_=>rw[jC]
 |c::r,h=>rw[jC,gJ];intro z;have:=h c r rfl;rw[z.2.2]at this;cases this
theorem Dm {c:Str} {r:Zd} (hc:isName c=true) (e:gP 24 r rows=none):jC ("("::"def"::c::r) rows names roots=none:=by rw[jC,gY ⟨rfl,rfl,hc⟩,e]
theorem Dn {c:Str} {r r2:Zd} {rows2:List Dt} (hc:isName c=true) (e:gP 24 r rows=some (r2,rows2)) (h:r2.head?≠some ")"):jC ("("::"def"::c::r) rows names roots=none:=by
 rw[jC,gY ⟨rfl,rfl,hc⟩,e];match r2,h with
 |[],_=>rfl
 |y::r3,h=>exact gJ fun z=>h (congrArg some z)
theorem defs_yes {c:Str} {r r3:Zd} {rows2:List Dt} (hc:isName c=true) (e:gP 24 r rows=some ((")":Str)::r3,rows2)):jC ("("::"def"::c::r) rows names roots=jC r3 rows2 (names++[c]) (roots++[.flat (.int (rows.length:Int))]):=by
 rw[jC,gY ⟨rfl,rfl,hc⟩,e];have l:((")":Str)::r3).length<r.length:=(jn 24 _ _ _ e).2.1;have l2:r3.length<r.length+ 3:=by rw[aB]at l;lia
 show(if(")":Str)=")" then(if h:r3.length<r.length+ 3 then _ else _)else _)=_;rw[gY rfl,dif_pos l2]
end
mutual
inductive TAt (K:Zp) (H:Hp):V->Dt->Prop where
 |flat {v:V} (h:rM v=true):TAt K H v (.flat v)
 |tup {a:Zx} {xs:List V} {ds:List Dt} (h:H a=some (.tup xs)) (hs:lR K H xs ds):TAt K H (.ref a) (.tup ds)
inductive lR (K:Zp) (H:Hp):List V->List Dt->Prop where
 |nil:lR K H [] []
 |cons {x:V} {d:Dt} {xs:List V} {ds:List Dt} (h:TAt K H x d) (hs:lR K H xs ds):lR K H (x::xs) (d::ds)
end
section
variable {K:Zp} {H H':Hp}
mutual
theorem TAt.mono (k:∀a xs,H a=some (.tup xs)->H' a=some (.tup xs)):∀{x:V} {d:Dt},TAt K H x d->TAt K H' x d
 |_,_,.flat h=> .flat h
 |_,_,.tup h hs=> .tup (k _ _ h) (lR.mono k hs)
theorem lR.mono (k:∀a xs,H a=some (.tup xs)->H' a=some (.tup xs)):∀{xs:List V} {ds:List Dt},lR K H xs ds->lR K H' xs ds
 |_,_,.nil=> .nil
 |_,_,.cons h hs=> .cons (TAt.mono k h) (lR.mono k hs)
end
theorem lR.length:∀{xs:List V} {ds:List Dt},lR K H xs ds->xs.length=ds.length
 |_,_,.nil=>rfl
 |_,_,.cons _ t=>by rw[aB,aB,lR.length t]
theorem lR.app:∀{xs ys:List V} {ds es:List Dt},lR K H xs ds->lR K H ys es->lR K H (xs++ys) (ds++es)
 |_,_,_,_,.nil,q=>q
 |_,_,_,_,.cons h t,q=> .cons h (lR.app t q)
theorem lR.snoc {xs:List V} {ds:List Dt} {x:V} {d:Dt} (a:lR K H xs ds) (b:TAt K H x d):lR K H (xs++[x]) (ds++[d]):=a.app (.cons b .nil)
theorem lR.set:∀{xs:List V} {ds:List Dt} {x:V} {d:Dt} (j:Nat),lR K H xs ds->TAt K H x d->lR K H (xs.set j x) (ds.set j d)
 |_,_,_,_,_,.nil,_=> .nil
 |_,_,_,_,0,.cons _ t,q=> .cons q t
 |_,_,_,_,j+ 1,.cons h t,q=> .cons h (lR.set j t q)
end
def K2 (p q:Zx) (H H':Hp):Prop:=∀b o,H b=some o->b≠p->b≠q->H' b=some o
theorem K2.refl (p q:Zx) (H:Hp):K2 p q H H:=fun _ _ e _ _=>e
theorem K2.trans {p q:Zx} {H H1 H2:Hp} (a:K2 p q H H1) (b:K2 p q H1 H2):K2 p q H H2:=fun c o e h1 h2=>b c o (a c o e h1 h2) h1 h2
theorem gB.k2 {p q:Zx} {H H':Hp} (s:gB H H'):K2 p q H H':=fun b o e _ _=>s b o e
theorem K2.upd1 {p q:Zx} {H H':Hp} (k:K2 p q H H') (o:HO):K2 p q H (upd H' p o):=fun b u e h1 h2=>by rw[gr h1];exact k b u e h1 h2
theorem K2.upd2 {p q:Zx} {H H':Hp} (k:K2 p q H H') (o:HO):K2 p q H (upd H' q o):=fun b u e h1 h2=>by rw[gr h2];exact k b u e h1 h2
theorem K2.sqT {K:Zp} {p q:Zx} {H H':Hp} {o1 o2:HO} (k:K2 p q H H') (h1:H p=some o1) (h2:H q=some o2) (n1:∀xs,o1≠ .tup xs/\∀o,o1≠ .frz o (.tup xs)) (n2:∀xs,o2≠ .tup xs/\∀o,o2≠ .frz o (.tup xs)) {a:Zx} {xs:List V} (s:SqT K H a xs):SqT K H' a xs:=by
 rcases s with s|s
 ·refine .inl ?_;rcases s with s|⟨o,s⟩;·exact .inl (k _ _ s (kS s h1 (Ne.symm (n1 xs).1)) (kS s h2 (Ne.symm (n2 xs).1)))
  ·exact .inr ⟨o,k _ _ s (kS s h1 (Ne.symm ((n1 xs).2 o))) (kS s h2 (Ne.symm ((n2 xs).2 o)))⟩
 ·exact .inr s
def RS (K:Zp) (C:Zx) (H:Hp) (p dx wl rl:Zx) (ws rest:Zd) (rows:List Dt):Prop:=
 ∃k rv,pk C H p dx wl rl ws k rv/\ws.drop k=rest/\k<=ws.length/\lR K H rv rows
section
variable {K:Zp} {C p dx wl rl:Zx} {H H':Hp} {ws rest:Zd} {rows:List Dt}
theorem pk.sqT {k:Nat} {rv:List V} (R:pk C H p dx wl rl ws k rv) (kk:K2 p rl H H') {a:Zx} {xs:List V} (s:SqT K H a xs):SqT K H' a xs:=
 kk.sqT R.ob R.rw (fun _=>⟨(fun z=>nomatch z),fun _ z=>nomatch z⟩) (fun _=>⟨(fun z=>nomatch z),fun _ z=>nomatch z⟩) s
theorem pk.tpT {k:Nat} {rv:List V} (R:pk C H p dx wl rl ws k rv) (kk:K2 p rl H H') {a:Zx} {xs:List V} (s:H a=some (.tup xs)):H' a=some (.tup xs):=
 kk _ _ s (kS s R.ob (fun z=>nomatch z)) (kS s R.rw (fun z=>nomatch z))
theorem RS.tat (R:RS K C H p dx wl rl ws rest rows) (kk:K2 p rl H H') {x:V} {d:Dt} (t:TAt K H x d):TAt K H' x d:=by obtain⟨k,rv,R,_⟩:=R;exact t.mono fun a xs s=>pk.tpT R kk s
theorem RS.tats (R:RS K C H p dx wl rl ws rest rows) (kk:K2 p rl H H') {xs:List V} {ds:List Dt} (t:lR K H xs ds):lR K H' xs ds:=by obtain⟨k,rv,R,_⟩:=R;exact t.mono fun a xs s=>pk.tpT R kk s
theorem RS.same (R:RS K C H p dx wl rl ws rest rows) (s:gB H H'):RS K C H' p dx wl rl ws rest rows:=by obtain⟨k,rv,R,h1,h2,h3⟩:=R;exact⟨k,rv,⟨s _ _ R.ob,s _ _ R.wd,s _ _ R.rw,R.ne⟩,h1,h2,h3.mono fun a xs t=>pk.tpT R (gB.k2 s) t⟩
theorem RS.other {a:Zx} {l:List V} {o:HO} (R:RS K C H p dx wl rl ws rest rows) (ha:H a=some (.lst l)) (n1:a≠p) (n2:a≠wl) (n3:a≠rl):RS K C (upd H a o) p dx wl rl ws rest rows:=by obtain⟨k,rv,R,h1,h2,h3⟩:=R;refine⟨k,rv,⟨by rw[gr (Ne.symm n1)];exact R.ob,by rw[gr (Ne.symm n2)];exact R.wd,by rw[gr (Ne.symm n3)];exact R.rw,R.ne⟩,h1,h2,h3.mono fun b xs t=>?_⟩;rw[gr (kS t ha (fun z=>nomatch z))];exact t
theorem lR.other {a:Zx} {l:List V} {o:HO} (ha:H a=some (.lst l)) {xs:List V} {ds:List Dt} (t:lR K H xs ds):lR K (upd H a o) xs ds:=t.mono fun b xs t=>by rw[gr (kS t ha (fun z=>nomatch z))];exact t
theorem kW {k:Nat} {x:Str} {r:Zd} (h:ws.drop k=x::r):ws[k]?=some x/\ws.drop (k+ 1)=r/\k<ws.length:=by
 have hk:k<ws.length:=by
  by_cases z:k<ws.length;·exact z
  ·rw[List.drop_of_length_le (by lia)]at h;cases h
 rw[bN hk]at h;injection h with h1 h2;exact⟨by rw[bB hk,h1],h2,hk⟩
theorem uQ {k:Nat} (h:ws.drop k=[]):ws[k]?=none:=by rw[List.drop_eq_nil_iff]at h;exact bF h
theorem RS.len (R:RS K C H p dx wl rl ws rest rows):∃rv,H rl=some (.lst rv)/\rv.length=rows.length:=by obtain⟨k,rv,R,_,_,t⟩:=R;exact⟨rv,R.rw,t.length⟩
theorem RS.mem (R:RS K C H p dx wl rl ws rest rows):∀x∈rest,x∈ws:=by obtain⟨k,rv,_,h,_⟩:=R;intro x hx;rw[<-h]at hx;exact bO hx
theorem RS.short (R:RS K C H p dx wl rl ws rest rows):rest.length<=ws.length:=by obtain⟨k,rv,_,h,_⟩:=R;rw[<-h,aY];lia
theorem RS.ob (R:RS K C H p dx wl rl ws rest rows):∃k:Int,H p=some (.ins C dx (fR wl k rl)):=by obtain⟨k,rv,R,_⟩:=R;exact⟨_,R.ob⟩
theorem wc {H:Hp} {a b:Zx} {l xs:List V} {o:HO} (ha:H a=some (.lst l)) (t:SqT K H b xs):SqT K (upd H a o) b xs:=by
 rcases t with t|t
 ·refine .inl ?_;rcases t with t|⟨o',t⟩;·exact .inl (by rw[gr (kS t ha (fun z=>nomatch z))];exact t)
  ·exact .inr ⟨o',by rw[gr (kS t ha (fun z=>nomatch z))];exact t⟩
 ·exact .inr t
theorem RS.sqt (R:RS K C H p dx wl rl ws rest rows) (kk:K2 p rl H H') {a:Zx} {xs:List V} (t:SqT K H a xs):SqT K H' a xs:=by obtain⟨k,rv,R,_⟩:=R;exact pk.sqT R kk t
theorem we {p q a:Zx} {H H':Hp} {o:HO} (ha:H a=none) (k:K2 p q H H'):K2 p q H (upd H' a o):=fun b u e h1 h2=>by rw[gr (gm e ha)];exact k b u e h1 h2
theorem RS.apart {fl:Zx} (R:RS K C H p dx wl rl ws rest rows) (hfl:H fl=none):fl≠p/\fl≠rl/\fl≠wl:=by obtain⟨k,rv,R,_⟩:=R;exact⟨Ne.symm (gm R.ob hfl),Ne.symm (gm R.rw hfl),Ne.symm (gm R.wd hfl)⟩
end
abbrev Pe:=List Str->List Dt->Option Rs
def Rd (p:Pe) (ok:Bool) (n:Nat) (ts:Zd):Prop:=∀(rest:Zd) (rows:List Dt),rows.length<=160->
 (ok=true->rows.length+n<=160->∃rows',p (ts++rest) rows=some (rest,rows')/\rows'.length=rows.length+n)/\(¬(ok=true/\rows.length+n<=160)->p (ts++rest) rows=none)
def SRd (pe:Pe) (ps:List Bool) (ok:Bool) (n:Nat) (ts:Zd):Prop:=∀(acc:List Dt) (rest:Zd) (rows:List Dt),rows.length<=160->
 (ok=true->rows.length+n<=160->∃ds rows',gM pe ps acc (ts++rest) rows=some (ds,rest,rows')/\rows'.length=rows.length+n)/\(¬(ok=true/\rows.length+n<=160)->gM pe ps acc (ts++rest) rows=none)
theorem SRd.nil {pe:Pe}:SRd pe [] true 0 []:=fun acc rest rows h=>⟨fun _ _=>⟨acc,rows,by rw[gM];rfl,rfl⟩,fun z=>absurd ⟨rfl,h⟩ z⟩
theorem SRd.name {pe:Pe} {ps:List Bool} {ok:Bool} {n:Nat} {ts:Zd} {x:Str} (hx:isName x=true) (r:SRd pe ps ok n ts):SRd pe (true::ps) ok n (x::ts):=fun acc rest rows h=>by
 have e:gM pe (true::ps) acc (x::ts++rest) rows=gM pe ps (acc++[.flat (.str x)]) (ts++rest) rows:=by rw[aU,gM,gY hx]
 rw[e];exact r _ rest rows h
theorem SRd.expr {pe:Pe} {ps:List Bool} {ok1 ok2:Bool} {n1 n2:Nat} {t1 t2:Zd} (a:Rd pe ok1 n1 t1) (r:SRd pe ps ok2 n2 t2):SRd pe (false::ps) (ok1&&ok2) (n1+n2) (t1++t2):=fun acc rest rows h=>by
 have ea:t1++t2++rest=t1++(t2++rest):=bM ..;obtain⟨y,no⟩:=a (t2++rest) rows h;rw[ea];by_cases h1:ok1=true/\rows.length+n1<=160
 ·obtain⟨rows1,e1,l1⟩:=y h1.1 h1.2;have e:gM pe (false::ps) acc (t1++(t2++rest)) rows=gM pe ps (acc++[.flat (.int (rows.length:Int))]) (t2++rest) rows1:=by rw[gM,e1]
  rw[e];obtain⟨y2,no2⟩:=r (acc++[.flat (.int (rows.length:Int))]) rest rows1 (by lia);refine⟨fun ho hn=>?_,fun z=>no2 fun z2=>z ⟨by rw[h1.1,z2.1];rfl,by lia⟩⟩;rw[h1.1,fq]at ho;obtain⟨ds,rows',e2,l2⟩:=y2 ho (by lia);exact⟨ds,rows',e2,by lia⟩
 ·have e1:=no h1;refine⟨fun ho hn=>absurd ⟨(fj _ _▸ho).1,by lia⟩ h1,fun _=>by rw[gM,e1]⟩
def MRd (item:List Str->List Dt->Option (Dt×Rs)) (ok:Bool) (n m:Nat) (ts:Zd):Prop:=∀(acc:List Dt) (rest:Zd) (rows:List Dt),rows.length<=160->
 (ok=true->rows.length+n<=160->∃ds rows',jb item (ts++(")":Str)::rest) rows acc=some (ds,(")":Str)::rest,rows')/\ds.length=acc.length+m/\rows'.length=rows.length+n)/\(¬(ok=true/\rows.length+n<=160)->jb item (ts++(")":Str)::rest) rows acc=none)
theorem MRd.nil {item:List Str->List Dt->Option (Dt×Rs)}:MRd item true 0 0 []:=fun acc rest rows h=>⟨fun _ _=>⟨acc,rows,l7 _ _ _ rfl,rfl,rfl⟩,fun z=>absurd ⟨rfl,h⟩ z⟩
theorem MRd.cons {item:List Str->List Dt->Option (Dt×Rs)} (g:wb item) {ok1 ok2:Bool} {n1 n2 m:Nat} {t1 t2:Zd} {x:Str} {t:Zd} (ht:t1=x::t) (hx:x≠")")
  (a:∀(rest:Zd) (rows:List Dt),rows.length<=160->(ok1=true->rows.length+n1<=160->∃d rows',item (t1++rest) rows=some (d,rest,rows')/\rows'.length=rows.length+n1)/\(¬(ok1=true/\rows.length+n1<=160)->item (t1++rest) rows=none))
  (r:MRd item ok2 n2 m t2):MRd item (ok1&&ok2) (n1+n2) (m+ 1) (t1++t2):=fun acc rest rows h=>by
 have ea:t1++t2++(")":Str)::rest=t1++(t2++(")":Str)::rest):=bM ..;have hh:(t1++(t2++(")":Str)::rest)).head?≠some ")":=by rw[ht];exact fun z=>hx (dw.inj z)
 obtain⟨y,no⟩:=a (t2++(")":Str)::rest) rows h;rw[ea,p7 g _ _ _ hh];by_cases h1:ok1=true/\rows.length+n1<=160;·obtain⟨d,rows1,e1,l1⟩:=y h1.1 h1.2;rw[e1];obtain⟨y2,no2⟩:=r (acc++[d]) rest rows1 (by lia);refine⟨fun ho hn=>?_,fun z=>no2 fun z2=>z ⟨by rw[h1.1,z2.1];rfl,by lia⟩⟩;rw[h1.1,fq]at ho;obtain⟨ds,rows',e2,l2,l3⟩:=y2 ho (by lia);refine⟨ds,rows',e2,?_,by lia⟩;rw[aQ]at l2;have:[d].length=1:=rfl;lia
 ·rw[no h1];exact⟨fun ho hn=>absurd ⟨(fj _ _▸ho).1,by lia⟩ h1,fun _=>rfl⟩
theorem Hj {pe:Pe} {ps:List Bool} {ok:Bool} {n:Nat} {ts:Zd} (s:SRd pe ps ok n ts):∀(rest:Zd) (rows:List Dt),rows.length<=160->(ok=true->rows.length+n<=160->∃d rows',iZ pe ps (ts++rest) rows=some (d,rest,rows')/\rows'.length=rows.length+n)/\(¬(ok=true/\rows.length+n<=160)->iZ pe ps (ts++rest) rows=none):=fun rest rows h=>by obtain⟨y,no⟩:=s [] rest rows h;refine⟨fun ho hn=>?_,fun z=>by rw[iZ,no z]⟩;obtain⟨ds,rows',e,l⟩:=y ho hn;exact⟨_,rows',by rw[iZ,e],l⟩
theorem Hk {pe:Pe} {ok:Bool} {n:Nat} {ts:Zd} (s:Rd pe ok n ts):∀(rest:Zd) (rows:List Dt),rows.length<=160->(ok=true->rows.length+n<=160->∃d rows',kT pe (ts++rest) rows=some (d,rest,rows')/\rows'.length=rows.length+n)/\(¬(ok=true/\rows.length+n<=160)->kT pe (ts++rest) rows=none):=fun rest rows h=>by obtain⟨y,no⟩:=s rest rows h;refine⟨fun ho hn=>?_,fun z=>by rw[kT,no z]⟩;obtain⟨rows',e,l⟩:=y ho hn;exact⟨_,rows',by rw[kT,e],l⟩
def FRd (pe:Pe) (h:Str) (ok:Bool) (n:Nat) (ts:Zd):Prop:=∀(rest:Zd) (rows:List Dt),rows.length<=160->
 (ok=true->rows.length+n<=160->∃ds rows',jg pe h (ts++(")":Str)::rest) rows=some (ds,(")":Str)::rest,rows')/\rows'.length=rows.length+n)/\(¬(ok=true/\rows.length+n<=160)->jg pe h (ts++(")":Str)::rest) rows=none)
theorem FRd.steady {pe:Pe} {h:Str} {ps:List Bool} {ok:Bool} {n:Nat} {ts:Zd} (h1:¬h="rec") (h2:¬h="case") (h3:¬h="row") (hp:stP h=some ps) (s:SRd pe ps ok n ts):FRd pe h ok n ts:=fun rest rows hr=>by
 have e:jg pe h (ts++(")":Str)::rest) rows=match gM pe ps [] (ts++(")":Str)::rest) rows with
   |none=>none
   |some (ds,r)=>some (.flat (.str h)::ds,r):=by rw[jg,gJ h1,gJ h2,gJ h3,hp];all_goals rfl
 obtain⟨y,no⟩:=s [] ((")":Str)::rest) rows hr;refine⟨fun ho hn=>?_,fun z=>by rw[e,no z]⟩;obtain⟨ds,rows',e2,l⟩:=y ho hn;exact⟨_,rows',by rw[e,e2],l⟩
theorem FRd.rowd {pe:Pe} {ok:Bool} {n m:Nat} {ts:Zd} (s:MRd (kT pe) ok n m ts):FRd pe "row" (ok&&decide (m<=8)) n ts:=fun rest rows hr=>by
 have e:jg pe "row" (ts++(")":Str)::rest) rows=match chk 0 8 (jb (kT pe) (ts++(")":Str)::rest) rows [])with
  |none=>none
  |some (l,r)=>some ([.flat (.str "row"),.tup l],r):=by rw[jg,gJ gQ,gJ gQ,gY rfl]<;>rfl
 obtain⟨y,no⟩:=s [] rest rows hr;by_cases h1:ok=true/\rows.length+n<=160
 ·obtain⟨ds,rows',e2,l2,l3⟩:=y h1.1 h1.2;have l2':ds.length=m:=l2.trans (da m);by_cases hm:m<=8;·refine⟨fun _ _=>⟨_,rows',by rw[e,e2,chk,gY (by lia)],l3⟩,fun z=>absurd ⟨by rw[h1.1,hV hm];rfl,h1.2⟩ z⟩
  ·refine⟨fun z=>(by rw[h1.1,iw hm]at z;cases z),fun _=>by rw[e,e2,chk,gJ (by lia)]⟩
 ·exact⟨fun z hn=>absurd ⟨(fj _ _▸z).1,hn⟩ h1,fun _=>by rw[e,no h1];rfl⟩
theorem FRd.cased {pe:Pe} {ok1 ok:Bool} {n1 n m:Nat} {t1 ts:Zd} (a:Rd pe ok1 n1 t1) (s:MRd (iZ pe [true,true,false]) ok n m ts):FRd pe "case" (ok1&&ok&&decide (1<=m/\m<=6)) (n1+n) (t1++ts):=fun rest rows hr=>by
 have ea:t1++ts++(")":Str)::rest=t1++(ts++(")":Str)::rest):=bM ..;rw[ea];have e:jg pe "case" (t1++(ts++(")":Str)::rest)) rows=match pe (t1++(ts++(")":Str)::rest)) rows with
  |none=>none
  |some (r1,rows1)=>match chk 1 6 (jb (iZ pe [true,true,false]) r1 rows1 [])with
   |none=>none
   |some (l,r)=>some ([.flat (.str "case"),.flat (.int (rows.length:Int)),.tup l],r):=by rw[jg,gJ gQ,gY rfl]<;>rfl
 obtain⟨ya,na⟩:=a (ts++(")":Str)::rest) rows hr;by_cases h0:ok1=true/\rows.length+n1<=160
 ·obtain⟨rows1,e1,l1⟩:=ya h0.1 h0.2;obtain⟨y,no⟩:=s [] rest rows1 (by lia);have e':jg pe "case" (t1++(ts++(")":Str)::rest)) rows=match chk 1 6 (jb (iZ pe [true,true,false]) (ts++(")":Str)::rest) rows1 [])with
   |none=>none
   |some (l,r)=>some ([.flat (.str "case"),.flat (.int (rows.length:Int)),.tup l],r):=by rw[e,e1]
  by_cases h1:ok=true/\rows1.length+n<=160
  ·obtain⟨ds,rows',e2,l2,l3⟩:=y h1.1 h1.2;have l2':ds.length=m:=l2.trans (da m);by_cases hm:1<=m/\m<=6;·refine⟨fun _ _=>⟨_,rows',by rw[e',e2,chk,gY (by lia)],by lia⟩,fun z=>absurd ⟨by rw[h0.1,h1.1,hV hm];rfl,by lia⟩ z⟩
   ·refine⟨fun z=>(by rw[h0.1,h1.1,iw hm]at z;cases z),fun _=>by rw[e',e2,chk,gJ (by lia)]⟩
  ·refine⟨fun z hn=>absurd ⟨?_,by lia⟩ h1,fun _=>by rw[e',no h1];rfl⟩;simp only[fj]at z;exact z.1.2
 ·refine⟨fun z hn=>absurd ⟨?_,by lia⟩ h0,fun _=>by rw[e,na h0]⟩;simp only[fj]at z;exact z.1.1
theorem qZ:¬jy "("=true/\¬isName "("=true:=gQ
theorem Rd.form {f:Nat} {h:Str} {ok:Bool} {n:Nat} {ts:Zd} (s:FRd (gP f) h ok n ts):Rd (gP (f+ 1)) ok (n+ 1) (("(":Str)::h::(ts++[(")":Str)])):=fun rest rows hr=>by
 have ea:(("(":Str)::h::(ts++[(")":Str)]))++rest=("(":Str)::h::(ts++(")":Str)::rest):=by simp
 rw[ea];by_cases h160:rows.length=160;·exact⟨fun _ hn=>absurd hn (by lia),fun _=>by rw[gP,gY h160]⟩
 ·have lr:(rows++[Dt.flat .non]).length=rows.length+ 1:=by rw[aQ];rfl
  have er:tY (gP f) (("(":Str)::h::(ts++(")":Str)::rest)) (rows++[.flat .non])=mW (jg (gP f) h (ts++(")":Str)::rest) (rows++[.flat .non])):=xG qZ.1 qZ.2 rfl;obtain⟨y,no⟩:=s rest (rows++[.flat .non]) (by lia);refine⟨fun ho hn=>?_,fun z=>?_⟩;·obtain⟨ds,rows',e,l⟩:=y ho (by lia);refine⟨rows'.set rows.length (.tup ds),?_,by rw[aZ];lia⟩;rw[gP,gJ h160,er,e,show mW (some (ds,(")":Str)::rest,rows'))=some (ds,rest,rows') by unfold mW;exact gY rfl]
  ·rw[gP,gJ h160,er,no fun z2=>z ⟨z2.1,by lia⟩];rfl
theorem Rd.zero {n:Nat} {ts:Zd}:Rd (gP 0) false n ts:=fun rest rows hr=>⟨fun z=>(by cases z),fun _=>by rw[gP]⟩
theorem Rd.word {f:Nat} {x:Str} (hx:jy x=true\/isName x=true):Rd (gP (f+ 1)) true 1 [x]:=fun rest rows hr=>by
 by_cases h160:rows.length=160;·exact⟨fun _ hn=>absurd hn (by lia),fun _=>by rw[gP,gY h160]⟩
 ·refine⟨fun _ _=>?_,fun z=>absurd ⟨rfl,by lia⟩ z⟩;have lr:(rows++[Dt.flat .non]).length=rows.length+ 1:=by rw[aQ];rfl
  by_cases h1:jy x=true;·refine⟨_,by rw[gP,gJ h160];rw[bP,xF h1],by rw[aZ];lia⟩
  ·have h2:isName x=true:=hx.resolve_left h1;refine⟨_,by rw[gP,gJ h160];rw[bP,uP h1 h2],by rw[aZ];lia⟩
structure Ex (d n:Nat) (ts:Zd):Prop where
 pos:1<=d
 hd:∃x t,ts=x::t/\x≠")"
 rd:∀f,f<=24->Rd (gP f) (decide (d<=f)) n ts
theorem Ex.word {x:Str} (hx:jy x=true\/isName x=true) (hc:x≠")"):Ex 1 1 [x]:=⟨cM _,⟨x,[],rfl,hc⟩,fun f _=>by
 cases f with
 |zero=>exact Rd.zero
 |succ f=>rw[hV (show 1<=f+ 1 by lia)];exact Rd.word hx⟩
theorem Hl:("(":Str)≠")":=gQ
theorem Ex.form {d n:Nat} {h:Str} {ts:Zd} (hd:1<=d) (s:∀f,f<=23->∃ok,FRd (gP f) h ok n ts/\ok=decide (d<=f+ 1)):Ex d (n+ 1) (("(":Str)::h::(ts++[(")":Str)])):=⟨hd,⟨_,_,rfl,Hl⟩,fun f hf=>by
 cases f with
 |zero=>rw[iw (show ¬d<=0 by lia)];exact Rd.zero
 |succ f=>obtain⟨ok,r,e⟩:=s f (by lia);rw[<-e];exact Rd.form r⟩
def DRd (ok:Bool) (n m:Nat) (ts:Zd):Prop:=∀(rest:Zd) (rows:List Dt) (names:Zd) (roots:List Dt),rows.length<=160->
 (ok=true->rows.length+n<=160->∃rows' names' roots',jC (ts++rest) rows names roots=jC rest rows' names' roots'/\rows'.length=rows.length+n/\names'.length=names.length+m)/\(¬(ok=true/\rows.length+n<=160)->jC (ts++rest) rows names roots=none)
theorem DRd.nil:DRd true 0 0 []:=fun rest rows names roots h=>⟨fun _ _=>⟨rows,names,roots,rfl,rfl,rfl⟩,fun z=>absurd ⟨rfl,h⟩ z⟩
theorem DRd.read {ok:Bool} {n m:Nat} {ts:Zd} (a:DRd ok n m ts):
  (ok=true->n<=160->1<=m->m<=12->∃names roots rows,mG ts=some (names,roots,rows)/\rows.length=n)/\(¬(ok=true/\n<=160/\1<=m/\m<=12)->mG ts=none):=by
 obtain⟨y,no⟩:=a [] [] [] [] (cO _);rw[aF]at y no;have l0:([]:List Dt).length=0:=rfl;have l1:([]:Zd).length=0:=rfl;by_cases h1:ok=true/\([]:List Dt).length+n<=160
 ·obtain⟨rows,names,roots,e,l,k⟩:=y h1.1 h1.2;rw[defs_nil]at e;by_cases h2:1<=m/\m<=12;·refine⟨fun _ _ _ _=>⟨names,roots,rows,by rw[mG,e];exact gY (by lia),by lia⟩,fun z=>absurd ⟨h1.1,by lia,h2⟩ z⟩
  ·exact⟨fun _ _ z1 z2=>absurd ⟨z1,z2⟩ h2,fun _=>by rw[mG,e];exact gJ (by lia)⟩
 ·exact⟨fun ho hn _ _=>absurd ⟨ho,by lia⟩ h1,fun _=>by rw[mG,no h1]⟩
end GR.Internal
namespace GR.Internal
open PySem L2.Internal T1
def St1 (w:List Nat):Str:=⟨w.toArray⟩
def toks (x:Str):List Str:=(all (W x.cps.toList)).map St1
theorem toks_v (x:Str):rW x.cps.toList=(toks x).map V.str:=zX _
theorem uR:∀(s:List Nat) (p:List (List Nat)) (c:List Nat),s.foldl step (p,c)=(p++(s.foldl step ([],c)).1,(s.foldl step ([],c)).2)
 |[],p,c=>by simp
 |k::s,p,c=>by
  have e1:(k::s).foldl step (p,c)=s.foldl step (step (p,c) k):=rfl;have e2:(k::s).foldl step ([],c)=s.foldl step (step ([],c) k):=rfl;rw[e1,e2];have e3:step (p,c) k=(p++(step ([],c) k).1,(step ([],c) k).2):=by
   unfold T1.step;split;·split<;>simp
   ·simp
  rw[e3];generalize step ([],c) k=q;obtain⟨q1,q2⟩:=q;rw[uR s (p++q1) q2,uR s q1 q2,bM]
theorem yS {a b:List Nat} (h:(W a).2=[]):W (a++b)=((W a).1++(W b).1,(W b).2):=by
 rw[qY];have e:W a=((W a).1,[]):=by rw[<-h]
 rw[e,uR];rfl
def Gp (x:Str) (ts:Zd):Prop:=(W x.cps.toList).2=[]/\(W x.cps.toList).1.map St1=ts
def Op (x:Str) (ts:Zd):Prop:=toks x=ts
theorem Gp.op {x:Str} {ts:Zd} (h:Gp x ts):Op x ts:=by unfold Op toks all;rw[gY h.1,h.2]
theorem Gp.app {x y:Str} {ts us:Zd} (h:Gp x ts) (k:Gp y us):Gp (x++y) (ts++us):=by unfold Gp;rw[app_codes,yS h.1];exact⟨k.1,by rw[bo,h.2,k.2]⟩
theorem Gp.app_op {x y:Str} {ts us:Zd} (h:Gp x ts) (k:Op y us):Op (x++y) (ts++us):=by
 unfold Op toks at*;rw[app_codes,yS h.1,<-h.2,<-k];unfold all;by_cases z:(W y.cps.toList).2=[];·rw[gY z,gY z,bo]
 ·rw[gJ z,gJ z];simp only[bo,bM]
theorem Op.close {x:Str} {ts:Zd} (h:Op x ts):Gp (x++")") (ts++[(")":Str)]):=by unfold Gp;have e:(x++")").cps.toList=x.cps.toList++[41]:=app_codes x ")";rw[e,Bs _ (.inr rfl)];refine⟨rfl,?_⟩;rw[bo];exact congrArg (·++[(")":Str)]) h
theorem Op.gap {x:Str} {ts:Zd} (h:Op x ts):Gp (x++" ") ts:=by unfold Gp;have e:(x++" ").cps.toList=x.cps.toList++[32]:=app_codes x " ";rw[e,Jn _ (.inl rfl)];exact⟨rfl,h⟩
theorem cat_assoc (x y z:Str):x++y++z=x++(y++z):=T1.str_ext (by rw[app_codes,app_codes,app_codes,app_codes,bM])
theorem Op.word {x:Str} (h0:x.cps.toList≠[]) (h:∀k∈x.cps.toList,k≠32/\k≠10/\k≠40/\k≠41):Op x [x]:=by unfold Op toks;have e:W x.cps.toList=([],x.cps.toList):=Jo [] x.cps.toList h;rw[e];show(if x.cps.toList=[]then _ else _:List (List Nat)).map St1=_;rw[gJ h0];show[St1 x.cps.toList]=[x];exact congrArg (fun z=>[z]) (T1.str_ext rfl)
theorem wg:∀m:Nat,0<m->(cY 10 m).head?≠some '0'
 |m,h=>by
  by_cases h10:m<10
  ·rw[cZ h10];have:m=1\/m=2\/m=3\/m=4\/m=5\/m=6\/m=7\/m=8\/m=9:=by lia
   rcases this with rfl|rfl|rfl|rfl|rfl|rfl|rfl|rfl|rfl<;>decide
  ·have hm:m%10<10:=Nat.mod_lt m (by decide);have t:cY 10 (m/10)++cY 10 (m%10)=cY 10 (10*(m/10)+m%10):=c9 (by decide) (by lia) hm;rw[Nat.div_add_mod]at t;have ih:=wg (m/10) (by lia);rw[<-t]
   cases e:cY 10 (m/10)with
   |nil=>have:=PySem.toDigits_len_ge 10 (m/10);rw[e]at this;simp at this
   |cons a r=>rw[e]at ih;exact ih
termination_by m=>m
theorem num_is {n:Int} {k:Nat} (h0:0<=n) (h1:n<10^(k+ 1)) (hk:k+ 1<=60):jy (PySem.Str.ofString (toString n))=true:=by
 obtain⟨f1,f2,f3⟩:=str_fig h0 h1;obtain⟨m,rfl⟩:=fD h0;have e:=PySem.W.KIN.signs_num m;unfold jy;have z:(!rX (PySem.Str.ofString (toString ((m:Nat):Int)))||decide (PySem.Str.ofString (toString ((m:Nat):Int))="0"))=true:=by
  by_cases hm:m=0;·subst hm;decide+kernel
  ·have d:=wg m (by lia);have:rX (PySem.Str.ofString (toString ((m:Nat):Int)))=false:=by
    unfold rX;rw[e]
    cases q:cY 10 m with
    |nil=>rfl
    |cons a r=>rw[q]at d;show(a.toNat==48)=false;refine beq_eq_false_iff_ne.mpr fun w=>d ?_;show some a=some '0';exact congrArg some (Char.toNat_inj.mp w)
   rw[this];rfl
 rw[z,hV f2,hV (show _<=60 by lia)];simp only[fq,Bool.and_true];exact bK.mpr fun c hc=>hV (f1 c hc)
structure EX (x:Str) (d n L:Nat):Prop where
 asc:∀c∈x.cps.toList,c<128
 len:x.length<=L
 ex:∃ts,Op x ts/\Ex d n ts
section
variable {d n:Nat} {ts:Zd}
theorem z0:jy "0"=true\/isName "0"=true:=gQ
theorem ex0:Ex 1 1 (["0"]:Zd):=Ex.word z0 gQ
theorem Fb (f:Nat):(decide (d<=f)&&true)=decide (d+ 1<=f+ 1):=by simp
theorem Js (h:1<=d) (f:Nat):(decide (1<=f)&&(decide (d<=f)&&true))=decide (d+ 1<=f+ 1):=by by_cases z:d<=f<;>simp[z]<;>lia
theorem Jt (h:1<=d) (f:Nat):(decide (d<=f)&&(decide (1<=f)&&true))=decide (d+ 1<=f+ 1):=by by_cases z:d<=f<;>simp[z]<;>lia
theorem Ex.tag {h c:Str} (hh:h="tag"\/h="fn") (hc:isName c=true) (x:Ex d n ts):Ex (d+ 1) (n+ 1) ((["(",h,c]:Zd)++ts++([")"]:Zd)):=by
 have hp:stP h=some [true,false]/\¬h="rec"/\¬h="case"/\¬h="row":=by rcases hh with rfl|rfl<;>decide+kernel
 have z:=Ex.form (d:=d+ 1) (n:=n+ 0) (h:=h) (ts:=c::(ts++[])) (by lia) fun f hf=>⟨_,FRd.steady hp.2.1 hp.2.2.1 hp.2.2.2 hp.1 (SRd.name hc (SRd.expr (x.rd f (by lia)) SRd.nil)),Fb f⟩;simpa using z
theorem Ex.get {c:Str} (hc:isName c=true) (x:Ex d n ts):Ex (d+ 1) (n+ 1) ((["(","get"]:Zd)++ts++([c,")"]:Zd)):=by have hp:stP "get"=some [false,true]/\¬("get":Str)="rec"/\¬("get":Str)="case"/\¬("get":Str)="row":=gQ;have z:=Ex.form (d:=d+ 1) (n:=n+ 0) (h:="get") (ts:=ts++[c]) (by lia) fun f hf=>⟨_,FRd.steady hp.2.1 hp.2.2.1 hp.2.2.2 hp.1 (SRd.expr (x.rd f (by lia)) (SRd.name hc SRd.nil)),Fb f⟩;simpa using z
theorem Ex.size (x:Ex d n ts):Ex (d+ 1) (n+ 1) ((["(","size"]:Zd)++ts++([")"]:Zd)):=by have hp:stP "size"=some [false]/\¬("size":Str)="rec"/\¬("size":Str)="case"/\¬("size":Str)="row":=gQ;have z:=Ex.form (d:=d+ 1) (n:=n+ 0) (h:="size") (ts:=ts++[]) (by lia) fun f hf=>⟨_,FRd.steady hp.2.1 hp.2.2.1 hp.2.2.2 hp.1 (SRd.expr (x.rd f (by lia)) SRd.nil),Fb f⟩;simpa using z
theorem Ex.add {c:Str} (hc:Ex 1 1 [c]) (x:Ex d n ts):Ex (d+ 1) (n+ 2) ((["(","add",c]:Zd)++ts++([")"]:Zd)):=by have hp:stP "add"=some [false,false]/\¬("add":Str)="rec"/\¬("add":Str)="case"/\¬("add":Str)="row":=gQ;have z:=Ex.form (d:=d+ 1) (n:=1+(n+ 0)) (h:="add") (ts:=[c]++(ts++[])) (by lia) fun f hf=>⟨_,FRd.steady hp.2.1 hp.2.2.1 hp.2.2.2 hp.1 (SRd.expr (hc.rd f (by lia)) (SRd.expr (x.rd f (by lia)) SRd.nil)),Js x.pos f⟩;rw[show n+ 2=1+(n+ 0)+ 1 by lia];simpa using z
theorem Ex.call (x:Ex d n ts):Ex (d+ 1) (n+ 2) ((["(","call"]:Zd)++ts++(["0",")"]:Zd)):=by have hp:stP "call"=some [false,false]/\¬("call":Str)="rec"/\¬("call":Str)="case"/\¬("call":Str)="row":=gQ;have z:=Ex.form (d:=d+ 1) (n:=n+(1+ 0)) (h:="call") (ts:=ts++((["0"]:Zd)++[])) (by lia) fun f hf=>⟨_,FRd.steady hp.2.1 hp.2.2.1 hp.2.2.2 hp.1 (SRd.expr (x.rd f (by lia)) (SRd.expr (ex0.rd f (by lia)) SRd.nil)),Jt x.pos f⟩;simpa using z
end
instance {x:Str} {ts:Zd}:Decidable (Gp x ts):=inferInstanceAs (Decidable (_/\_))
instance {x:Str} {ts:Zd}:Decidable (Op x ts):=inferInstanceAs (Decidable (_=_))
theorem nmA:isName "a"=true/\isName "t"=true/\isName "x"=true/\isName "b"=true:=gQ
section
variable {d n:Nat} {ts:Zd}
end
def Ju (l:Zd):List Str:=l.flatMap fun c=>[c,"x","x"]
theorem nm_ne {c:Str} (h:isName c=true):c≠")":=fun z=>by rw[z]at h;exact absurd h gQ
theorem Kp {f:Nat} (hf:f<=24):∀l:List Str,(∀c∈l,isName c=true)->MRd (iZ (gP f) [true,true,false]) (decide (l=[]\/1<=f)) l.length l.length (Ju l)
 |[],_=>by rw[hV (.inl rfl)];exact MRd.nil
 |c::l,h=>by
  have hc:=h c (ah ..);have ex1:Ex 1 1 ["x"]:=Ex.word gQ gQ;have z:=MRd.cons (lV (jn f) _ (by simp)) rfl (nm_ne hc) (Hj (SRd.name hc (SRd.name nmA.2.2.1 (SRd.expr (ex1.rd f hf) SRd.nil)))) (Kp hf l fun c hc=>h c (aj _ hc));have e:(decide (1<=f)&&true&&decide (l=[]\/1<=f))=decide (c::l=[]\/1<=f):=by by_cases q:1<=f<;>simp[q]
  rw[e,show 1+ 0+l.length=l.length+ 1 by lia]at z;exact z
theorem Kq {f:Nat} (hf:f<=24) {c:Str} (hc:jy c=true) (hn:c≠")"):∀m:Nat,MRd (kT (gP f)) (decide (m=0\/1<=f)) m m (aI m c)
 |0=>by rw[hV (.inl rfl)];exact MRd.nil
 |m+ 1=>by
  have ex1:Ex 1 1 [c]:=Ex.word (.inl hc) hn;have z:=MRd.cons (p6 (jn f)) rfl hn (Hk (ex1.rd f hf)) (Kq hf hc hn m);have e:(decide (1<=f)&&decide (m=0\/1<=f))=decide (m+ 1=0\/1<=f):=by by_cases q:1<=f<;>simp[q]
  rw[e,show 1+m=m+ 1 by lia]at z;exact z
def dRec (m:Nat):Nat:=if m=0 then 1 else if m<=6 then 2 else 25
def Bu (m:Nat):Nat:=if 1<=m/\m<=6 then 2 else 25
def Iz (m:Nat):Nat:=if m=0 then 1 else if m<=8 then 2 else 25
theorem Ex.cases {l:Zd} (h:∀c∈l,isName c=true):Ex (Bu l.length) (l.length+ 2) (("(":Str)::("case":Str)::("0":Str)::(Ju l++[(")":Str)])):=by
 have hd:1<=Bu l.length:=by unfold Bu;split<;>decide
 have z:=Ex.form (d:=Bu l.length) (n:=1+l.length) (h:="case") (ts:=(["0"]:Zd)++Ju l) hd fun f hf=>⟨_,FRd.cased (ex0.rd f (by lia)) (Kp (by lia) l h),by
  unfold Bu
  cases l with
  |nil=>simp;lia
  |cons c l=>simp only[aB];by_cases q:l.length+ 1<=6<;>simp[q]<;>lia⟩;rw[show l.length+ 2=1+l.length+ 1 by lia];simpa using z
theorem Ex.rows {c:Str} (hc:jy c=true) (hn:c≠")") (m:Nat):Ex (Iz m) (m+ 1) (("(":Str)::("row":Str)::(aI m c++[(")":Str)])):=by
 have hd:1<=Iz m:=by unfold Iz;split<;>first|exact cM _|(split<;>decide)
 refine Ex.form hd fun f hf=>⟨_,FRd.rowd (Kq (by lia) hc hn m),?_⟩;unfold Iz;by_cases z:m=0;·subst z;simp
 ·by_cases q:m<=8<;>simp[q,z]<;>lia
def Ap (x:Str) (ts:Zd):Prop:=∀y us,Op y us->Op (y++x) (us++ts)
theorem Ap.nil:Ap "" []:=fun y us h=>by have e:y++""=y:=T1.str_ext (by rw[app_codes];exact aF _);rw[e,aF];exact h
theorem Ap.word {x w z:Str} {ts:Zd} (h:Ap x ts) (hz:z=" "++w) (hw:Op w [w]):Ap (x++z) (ts++[w]):=fun y us o=>by rw[hz,<-cat_assoc,<-cat_assoc,<-bM];exact(h y us o).gap.app_op hw
theorem EX.around {x h:Str} {d n L:Nat} {hs ts:Zd} (hh:Op h hs) (ha:∀c∈h.cps.toList,c<128) (hl:h.length<=15) (a:Ap x ts) (xa:∀c∈x.cps.toList,c<128) (xl:x.length<=L) (e:Ex d n (hs++(ts++[(")":Str)]))):EX (h++x++")") d n (L+ 20):=by
 refine⟨fun c hc=>?_,?_,_,(a h hs hh).close.op,by rw[bM];exact e⟩
 ·rw[app_codes,app_codes]at hc;rcases ao.mp hc with z|z
  ·rcases ao.mp z with z|z;·exact ha c z
   ·exact xa c z
  ·have:c∈[41]:=z;simp at this;lia
 ·rw[Str.length_append,Str.length_append];have:(")":Str).length=1:=gQ;lia
structure PGm (x:Str) (due:Bool) (n:Nat):Prop where
 asc:∀c∈x.cps.toList,c<128
 len:x.length<=9999
 yes:due=true->∃names roots rows,mG (toks x)=some (names,roots,rows)/\rows.length=n
 no:due=false->mG (toks x)=none
structure DX (x:Str) (ok:Bool) (n m L:Nat):Prop where
 asc:∀c∈x.cps.toList,c<128
 len:x.length<=L
 rd:∃ts,Gp x ts/\DRd ok n m ts
structure Wr (h t:Str) (k:Nat):Prop where
 hl:h.length<=15
 tl:t.length<=5
 k3:k<=3
 on:∀x d n L,EX x d n L->EX (h++x++t) (d+ 1) (n+k) (L+ 20)
end GR.Internal
namespace TM.Internal
open PySem L2.Internal GR.Internal
inductive Kn
 |num (n:Int)
 |name (w:Str)
 |fn (w:Str)
 |tag (w:Str)
 |lt (w:Str)
 |get (w:Str)
 |rcd (l:Zd)
 |case (l:List (Str×Str))
 |row (m:Nat)
 |op (s:Str) (m:Nat)
inductive Tr
 |mk (κ:Kn) (ks:List Tr)
def ops:List (Str×Nat):=[("call",2),("at",3),("join",2),("size",1),("add",2),("sub",2),("less",2)]
def Kn.ar:Kn->Nat
 | .num _=>0
 | .name _=>0
 | .fn _=>1
 | .tag _=>1
 | .lt _=>2
 | .get _=>1
 | .rcd l=>l.length
 | .case l=>l.length+ 1
 | .row m=>m
 | .op _ m=>m
def numS (n:Int):Str:=PySem.Str.ofString (toString n)
def Kn.ok:Kn->Prop
 | .num n=>0<=n/\n<10^60
 | .name w=>isName w=true
 | .fn w=>isName w=true
 | .tag w=>isName w=true
 | .lt w=>isName w=true
 | .get w=>isName w=true
 | .rcd l=>l.length<=6/\∀w∈l,isName w=true
 | .case l=>1<=l.length/\l.length<=6/\∀p∈l,isName p.1=true/\isName p.2=true
 | .row m=>m<=8
 | .op s m=>(s,m)∈ops
mutual
def Tr.sz:Tr->Nat
 | .mk _ ks=>1+szs ks
def szs:List Tr->Nat
 |[]=>0
 |t::ts=>t.sz+szs ts
end
mutual
def Tr.nest:Tr->Nat
 | .mk _ ks=>1+nests ks
def nests:List Tr->Nat
 |[]=>0
 |t::ts=>max t.nest (nests ts)
end
mutual
def Tr.ok:Tr->Prop
 | .mk κ ks=>κ.ok/\ks.length=κ.ar/\oks ks
def oks:List Tr->Prop
 |[]=>True
 |t::ts=>t.ok/\oks ts
end
def wv1:List Str->List (List Str)->List Str
 |w::l,k::ks=>w::(k++wv1 l ks)
 |_,_=>[]
def wv2:List (Str×Str)->List (List Str)->List Str
 |p::l,k::ks=>p.1::p.2::(k++wv2 l ks)
 |_,_=>[]
def Kn.ws:Kn->List (List Str)->List Str
 | .fn w,ks=>w::ks.flatten
 | .tag w,ks=>w::ks.flatten
 | .lt w,ks=>w::ks.flatten
 | .get w,ks=>ks.flatten++[w]
 | .rcd l,ks=>wv1 l ks
 | .case l,k::ks=>k++wv2 l ks
 |_,ks=>ks.flatten
def Kn.s:Kn->Str
 | .num _=>"num"
 | .name _=>"name"
 | .fn _=>"fn"
 | .tag _=>"tag"
 | .lt _=>"let"
 | .get _=>"get"
 | .rcd _=>"rec"
 | .case _=>"case"
 | .row _=>"row"
 | .op s _=>s
def Kn.tk (κ:Kn) (ks:List (List Str)):List Str:=match κ with
 | .num n=>[numS n]
 | .name w=>[w]
 |κ=>("(":Str)::κ.s::(κ.ws ks++[(")":Str)])
mutual
def Tr.tk:Tr->List Str
 | .mk κ ks=>κ.tk (tks ks)
def tks:List Tr->List (List Str)
 |[]=>[]
 |t::ts=>t.tk::tks ts
end
def sD (s:Str):Dt:= .flat (.str s)
def kD (k:Nat):Dt:= .flat (.int (k:Int))
def Kn.rw (κ:Kn) (ps:List Nat):List Dt:=match κ,ps with
 | .num n,_=>[sD "num",.flat (.int n)]
 | .name w,_=>[sD "name",sD w]
 | .fn w,ps=>sD "fn"::sD w::ps.map kD
 | .tag w,ps=>sD "tag"::sD w::ps.map kD
 | .lt w,ps=>sD "let"::sD w::ps.map kD
 | .get w,ps=>sD "get"::(ps.map kD++[sD w])
 | .rcd l,ps=>[sD "rec",.tup ((l.zip ps).map fun p=> .tup [sD p.1,kD p.2])]
 | .case l,p::ps=>[sD "case",kD p,.tup ((l.zip ps).map fun p=> .tup [sD p.1.1,sD p.1.2,kD p.2])]
 | .case _,[]=>[]
 | .row _,ps=>[sD "row",.tup (ps.map kD)]
 | .op s _,ps=>sD s::ps.map kD
def offs:List Tr->Nat->List Nat
 |[],_=>[]
 |t::ts,p=>p::offs ts (p+t.sz)
mutual
def Tr.rw:Tr->Nat->List Dt
 | .mk κ ks,p=> .tup (κ.rw (offs ks (p+ 1)))::rws ks (p+ 1)
def rws:List Tr->Nat->List Dt
 |[],_=>[]
 |t::ts,p=>t.rw p++rws ts (p+t.sz)
end
theorem offs_len:∀(ts:List Tr) (p:Nat),(offs ts p).length=ts.length
 |[],_=>rfl
 |t::ts,p=>by rw[offs,aB,aB,offs_len ts]
mutual
theorem Tr.rw_len:∀(t:Tr) (p:Nat),(t.rw p).length=t.sz
 | .mk κ ks,p=>by rw[Tr.rw,aB,Bv ks,Tr.sz];lia
theorem Bv:∀(ts:List Tr) (p:Nat),(rws ts p).length=szs ts
 |[],_=>by rw[rws,szs];rfl
 |t::ts,p=>by rw[rws,szs,aQ,Tr.rw_len t,Bv ts]
end
theorem Dp:isName ")"=false/\jy ")"=false:=gQ
theorem xH {w:Str} (h:isName w=true):w≠")":=fun z=>by rw[z,Dp.1]at h;cases h
def RdT (pe:Pe) (t:Tr):Prop:=∀(rest:Zd) (rows:List Dt),rows.length+t.sz<=160->pe (t.tk++rest) rows=some (rest,rows++t.rw rows.length)
def Hn (pe:Pe) (ts:List Tr):Prop:=∀t∈ts,RdT pe t
theorem r6 {pe:Pe} {ps:List Bool} {acc rows:List Dt} {x:Str} {r:Zd} (h:isName x=true):gM pe (true::ps) acc (x::r) rows=gM pe ps (acc++[sD x]) r rows:=by rw[gM];exact gY h
theorem Bw {pe:Pe} {ps:List Bool} {acc rows rows':List Dt} {ws r:Zd} (h:pe ws rows=some (r,rows')):gM pe (false::ps) acc ws rows=gM pe ps (acc++[kD rows.length]) r rows':=by rw[gM,h];rfl
theorem rf {pe:Pe}:∀(ts:List Tr),Hn pe ts->∀(ps:List Bool) (acc:List Dt) (rest:Zd) (rows:List Dt),rows.length+szs ts<=160->
  gM pe (aI ts.length false++ps) acc ((tks ts).flatten++rest) rows=gM pe ps (acc++(offs ts rows.length).map kD) rest (rows++rws ts rows.length)
 |[],_,ps,acc,rest,rows,_=>by simp[tks,offs,rws]
 |t::ts,h,ps,acc,rest,rows,hl=>by
  rw[szs]at hl;have h1:=h t ah ((tks ts).flatten++rest) rows (by lia);rw[tks,bQ,bM,aB,bR,aU,gM,h1];dsimp only;have hlen:(rows++t.rw rows.length).length=rows.length+t.sz:=by rw[aQ,Tr.rw_len]
  rw[rf ts (fun x hx=>h x (aj _ hx)) ps _ rest _ (by rw[hlen];lia),hlen,offs,rws,aD,bM,bM];rfl
theorem Fc:∀(t:Tr),t.ok->∃x r,t.tk=x::r/\x≠")"
 | .mk κ ks,h=>by
  rw[Tr.ok]at h;rw[Tr.tk]
  cases κ with
  |num n=>
   refine⟨_,_,rfl,fun z=>?_⟩;have hf:=str_fig (k:=59) h.1.1 h.1.2;have:(41:Nat)∈(numS n).cps.toList:=by rw[z];decide+kernel
   have:=hf.1 41 this;exact absurd this gQ
  |name w=>exact⟨_,_,rfl,xH h.1⟩
  |_=>exact⟨_,_,rfl,gQ⟩
theorem xI {item:List Str->List Dt->Option (Dt×Rs)} {ws r:Zd} {rows rows' acc:List Dt} {d:Dt} (h:∃x r,ws=x::r/\x≠(")":Str)) (hi:item ws rows=some (d,r,rows')) (hl:r.length<ws.length):jb item ws rows acc=jb item r rows' (acc++[d]):=by obtain⟨x,r0,rfl,hx⟩:=h;have h':¬(x::r0).head?=some (")":Str):=fun z=>hx (dw.inj z);rw[jb];refine(gJ h').trans ?_;rw[hi];exact dif_pos hl
theorem r8 {item:List Str->List Dt->Option (Dt×Rs)} {r:Zd} {rows acc:List Dt}:jb item ((")":Str)::r) rows acc=some (acc,(")":Str)::r,rows):=l7 _ _ _ rfl
theorem wj {pe:Pe}:∀(ts:List Tr),Hn pe ts->oks ts->∀(acc:List Dt) (rest:Zd) (rows:List Dt),rows.length+szs ts<=160->
  jb (kT pe) ((tks ts).flatten++(")":Str)::rest) rows acc=some (acc++(offs ts rows.length).map kD,(")":Str)::rest,rows++rws ts rows.length)
 |[],_,_,acc,rest,rows,_=>by show jb _ ((")":Str)::rest) rows acc=_;rw[r8];simp[offs,rws]
 |t::ts,h,ho,acc,rest,rows,hl=>by
  rw[szs]at hl;rw[oks]at ho;obtain⟨x,r,ex,hx⟩:=Fc t ho.1;have h1:=h t ah ((tks ts).flatten++(")":Str)::rest) rows (by lia);have hlen:(rows++t.rw rows.length).length=rows.length+t.sz:=by rw[aQ,Tr.rw_len]
  rw[tks,bQ,bM];rw[xI (d:=kD rows.length) (r:=(tks ts).flatten++(")":Str)::rest) (rows':=rows++t.rw rows.length) ⟨x,_,by rw[ex];rfl,hx⟩ (by unfold kT;rw[h1];rfl) (by rw[ex,aU,aB,aQ (as:=r)];lia),wj ts (fun x hx=>h x (aj _ hx)) ho.2 _ rest _ (by rw[hlen];lia),hlen,offs,rws,aD,bM,bM];rfl
theorem r9 {pe:Pe}:∀(l:Zd) (ts:List Tr),l.length=ts.length->(∀w∈l,isName w=true)->Hn pe ts->∀(acc:List Dt) (rest:Zd) (rows:List Dt),rows.length+szs ts<=160->
  jb (iZ pe [true,false]) (wv1 l (tks ts)++(")":Str)::rest) rows acc=some (acc++(l.zip (offs ts rows.length)).map (fun p=> .tup [sD p.1,kD p.2]),(")":Str)::rest,rows++rws ts rows.length)
 |[],[],_,_,_,acc,rest,rows,_=>by show jb _ ((")":Str)::rest) rows acc=_;rw[r8];simp[offs,rws]
 |w::l,t::ts,hl0,hw,h,acc,rest,rows,hl=>by
  rw[szs]at hl;have h1:=h t ah (wv1 l (tks ts)++(")":Str)::rest) rows (by lia);have hn:=hw w ah;have hlen:(rows++t.rw rows.length).length=rows.length+t.sz:=by rw[aQ,Tr.rw_len]
  rw[tks,wv1,aU,bM];have hi:iZ pe [true,false] (w::(t.tk++(wv1 l (tks ts)++(")":Str)::rest))) rows=some (.tup [sD w,kD rows.length],wv1 l (tks ts)++(")":Str)::rest,rows++t.rw rows.length):=by
   have e:gM pe [true,false] [] (w::(t.tk++(wv1 l (tks ts)++(")":Str)::rest))) rows=some ([sD w,kD rows.length],wv1 l (tks ts)++(")":Str)::rest,rows++t.rw rows.length):=by rw[r6 hn,Bw h1];rfl
   unfold iZ;rw[e]
  rw[xI ⟨_,_,rfl,xH hn⟩ hi (by simp only[aB,aQ];lia),r9 l ts (by simpa using hl0) (fun x hx=>hw x (aj _ hx)) (fun x hx=>h x (aj _ hx)) _ rest _ (by rw[hlen];lia),hlen,offs,rws,List.zip_cons_cons,aD,bM,bM];rfl
theorem wm {pe:Pe}:∀(l:List (Str×Str)) (ts:List Tr),l.length=ts.length->(∀p∈l,isName p.1=true/\isName p.2=true)->Hn pe ts->∀(acc:List Dt) (rest:Zd) (rows:List Dt),rows.length+szs ts<=160->
  jb (iZ pe [true,true,false]) (wv2 l (tks ts)++(")":Str)::rest) rows acc=some (acc++(l.zip (offs ts rows.length)).map (fun p=> .tup [sD p.1.1,sD p.1.2,kD p.2]),(")":Str)::rest,rows++rws ts rows.length)
 |[],[],_,_,_,acc,rest,rows,_=>by show jb _ ((")":Str)::rest) rows acc=_;rw[r8];simp[offs,rws]
 |w::l,t::ts,hl0,hw,h,acc,rest,rows,hl=>by
  rw[szs]at hl;have h1:=h t ah (wv2 l (tks ts)++(")":Str)::rest) rows (by lia);obtain⟨hn,hn2⟩:=hw w ah;have hlen:(rows++t.rw rows.length).length=rows.length+t.sz:=by rw[aQ,Tr.rw_len]
  rw[tks,wv2,aU,aU,bM];have hi:iZ pe [true,true,false] (w.1::w.2::(t.tk++(wv2 l (tks ts)++(")":Str)::rest))) rows=some (.tup [sD w.1,sD w.2,kD rows.length],wv2 l (tks ts)++(")":Str)::rest,rows++t.rw rows.length):=by
   have e:gM pe [true,true,false] [] (w.1::w.2::(t.tk++(wv2 l (tks ts)++(")":Str)::rest))) rows=some ([sD w.1,sD w.2,kD rows.length],wv2 l (tks ts)++(")":Str)::rest,rows++t.rw rows.length):=by rw[r6 hn,r6 hn2,Bw h1];rfl
   unfold iZ;rw[e]
  rw[xI ⟨_,_,rfl,xH hn⟩ hi (by simp only[aB,aQ];lia),wm l ts (by simpa using hl0) (fun x hx=>hw x (aj _ hx)) (fun x hx=>h x (aj _ hx)) _ rest _ (by rw[hlen];lia),hlen,offs,rws,List.zip_cons_cons,aD,bM,bM];rfl
theorem Bx {rows more:List Dt} {x y:Dt}:(rows++[x]++more).set rows.length y=rows++y::more:=by rw[bM,List.set_append_right _ _ (cM _),df];rfl
theorem mX {f:Nat} {h:Str} {ws rest:Zd} {rows ds more:List Dt} (hr:rows.length<160) (hf:jg (gP f) h (ws++(")":Str)::rest) (rows++[.flat .non])=some (ds,(")":Str)::rest,rows++[.flat .non]++more)):
  gP (f+ 1) (("(":Str)::h::(ws++[(")":Str)])++rest) rows=some (rest,rows++ .tup ds::more):=by rw[gP,gJ (by lia)];show(match tY (gP f) (("(":Str)::h::((ws++[(")":Str)])++rest)) (rows++[Dt.flat .non])with|none=>none|some (ds,r,rows')=>some (r,rows'.set rows.length (Dt.tup ds)))=_;rw[xG qZ.1 qZ.2 rfl,bM];show(match mW (jg (gP f) h (ws++(")":Str)::rest) (rows++[Dt.flat .non]))with|none=>none|some (ds,r,rows')=>some (r,rows'.set rows.length (Dt.tup ds)))=_;rw[hf];show(match(if(")":Str)=")" then some (ds,rest,rows++[Dt.flat .non]++more)else none)with|none=>none|some (ds,r,rows')=>some (r,rows'.set rows.length (Dt.tup ds)))=_;rw[gY rfl];show some (rest,(rows++[Dt.flat .non]++more).set rows.length (Dt.tup ds))=_;rw[Bx]
theorem om {pe:Pe} {h:Str} {ps:List Bool} {ws r:Zd} {rows ds rows':List Dt} (h1:¬h="rec") (h2:¬h="case") (h3:¬h="row") (hp:stP h=some ps) (s:gM pe ps [] ws rows=some (ds,r,rows')):jg pe h ws rows=some (sD h::ds,r,rows'):=by unfold jg;rw[gJ h1,gJ h2,gJ h3,hp];dsimp only;rw[s];rfl
theorem Ho:∀p∈ops,stP p.1=some (aI p.2 false)/\¬p.1="rec"/\¬p.1="case"/\¬p.1="row":=gQ
theorem num_is {n:Int} (h0:0<=n) (h1:n<10^60):jy (numS n)=true/\wa (numS n)=n:=by
 refine⟨GR.Internal.num_is (k:=59) h0 h1 (by decide),?_⟩;obtain⟨f1,f2,f3⟩:=str_fig (k:=59) h0 h1;have hd:PySem.NumText.AllDigits (numS n).cps.toList:=fun c hc=>yP c (f1 c hc);have hne:(numS n).cps.toList≠[]:=by obtain⟨c,r,e⟩:=first_of (x:=numS n) f2;rw[e];exact bL _ _
 have hl:(numS n).length<=60:=f3;have e:=PySem.intText_digits hd hne (by lia);unfold wa;rw[e];obtain⟨m,rfl⟩:=fD h0;unfold numS;rw[PySem.W.KIN.signs_num,PySem.W.KIN.val_back];rfl
theorem Jv:∀c∈SM.cps.toList,¬c∈FG.cps.toList:=gQ
theorem Fe {w:Str} (h:isName w=true):¬jy w=true:=fun z=>by obtain⟨z1,_,z3⟩:=rY z;obtain⟨c,r,ec⟩:=first_of z1;unfold isName at h;simp only[fj]at h;have hf:=h.1.2;unfold firstIn at hf;rw[ec]at hf;exact Jv c (of_decide_eq_true hf) (allIn_mem z3 c (by rw[ec];exact ah))
theorem rd_all:∀(f:Nat) (t:Tr),t.ok->t.nest<=f->RdT (gP f) t
 |0,.mk κ ks,_,hn=>by rw[Tr.nest]at hn;lia
 |f+ 1,.mk κ ks,ho,hn=>by
  intro rest rows hl;rw[Tr.ok]at ho;rw[Tr.nest]at hn;rw[Tr.sz]at hl;obtain⟨h1,h2,h3⟩:=ho;have ih:Hn (gP f) ks:=by
   intro t ht;have:t.ok/\t.nest<=nests ks:=by
    clear hl h1 h2
    induction ks with
    |nil=>cases ht
    |cons x xs ih=>
     rw[oks]at h3;rw[nests]at hn⊢;rcases ak.mp ht with e|e;·subst e;exact⟨h3.1,Nat.le_max_left _ _⟩
     ·have:=ih (by lia) h3.2 e;exact⟨this.1,by lia⟩
   exact rd_all f t this.1 (by lia)
  have r1:(rows++[Dt.flat .non]).length=rows.length+ 1:=by rw[aQ];rfl
  have hs:∀(s:Str) (ps:List Bool),ps=aI ks.length false->stP s=some ps->(¬s="rec"/\¬s="case"/\¬s="row")->jg (gP f) s ((tks ks).flatten++(")":Str)::rest) (rows++[.flat .non])=some (sD s::(offs ks (rows.length+ 1)).map kD,(")":Str)::rest,rows++[.flat .non]++rws ks (rows.length+ 1)):=fun s ps e1 e2 e3=>by refine om e3.1 e3.2.1 e3.2.2 e2 ?_;have:=rf ks ih [] [] ((")":Str)::rest) (rows++[.flat .non]) (by rw[r1];lia);rw[aF]at this;rw[e1,this,r1,gM];rfl
  have hn1:∀(s w:Str),isName w=true->stP s=some (true::aI ks.length false)->(¬s="rec"/\¬s="case"/\¬s="row")->jg (gP f) s (w::(tks ks).flatten++(")":Str)::rest) (rows++[.flat .non])=some (sD s::sD w::(offs ks (rows.length+ 1)).map kD,(")":Str)::rest,rows++[.flat .non]++rws ks (rows.length+ 1)):=fun s w hw e2 e3=>by refine om e3.1 e3.2.1 e3.2.2 e2 ?_;rw[aU,r6 hw];have:=rf ks ih [] [sD w] ((")":Str)::rest) (rows++[.flat .non]) (by rw[r1];lia);rw[aF]at this;show gM (gP f) (aI ks.length false) [sD w] _ _=_;rw[this,r1,gM];rfl
  rw[Tr.tk,Tr.rw]
  cases κ with
  |num n=>have e:ks=[]:=bS h2;subst e;obtain⟨n1,n2⟩:=num_is h1.1 h1.2;rw[gP,gJ (by lia)];show(match tY (gP f) (numS n::rest) (rows++[Dt.flat .non])with|none=>none|some (ds,r,rows')=>some (r,rows'.set rows.length (Dt.tup ds)))=_;rw[xF n1,n2];show some (rest,(rows++[Dt.flat .non]).set rows.length (Dt.tup _))=_;have:=Bx (rows:=rows) (more:=[]) (x:=Dt.flat .non) (y:=Dt.tup [Dt.flat (.str "num"),Dt.flat (.int n)]);rw[aF]at this;rw[this];rfl
  |name w=>have e:ks=[]:=bS h2;subst e;have hw:isName w=true:=h1;have hnn:¬jy w=true:=Fe hw;rw[gP,gJ (by lia)];show(match tY (gP f) (w::rest) (rows++[Dt.flat .non])with|none=>none|some (ds,r,rows')=>some (r,rows'.set rows.length (Dt.tup ds)))=_;rw[uP hnn hw];show some (rest,(rows++[Dt.flat .non]).set rows.length (Dt.tup _))=_;have:=Bx (rows:=rows) (more:=[]) (x:=Dt.flat .non) (y:=Dt.tup [Dt.flat (.str "name"),Dt.flat (.str w)]);rw[aF]at this;rw[this];rfl
  |fn w=>exact mX (by lia) (hn1 "fn" w h1 (by rw[h2];exact(show stP "fn"=some (true::aI 1 false)from by decide+kernel)) gQ)
  |tag w=>exact mX (by lia) (hn1 "tag" w h1 (by rw[h2];exact(show stP "tag"=some (true::aI 1 false)from by decide+kernel)) gQ)
  |lt w=>exact mX (by lia) (hn1 "let" w h1 (by rw[h2];exact(show stP "let"=some (true::aI 2 false)from by decide+kernel)) gQ)
  |get w=>refine mX (by lia) ?_;refine om (h:="get") gQ gQ gQ (show stP "get"=some (aI ks.length false++[true]) by rw[h2];exact(show stP "get"=some (aI 1 false++[true])from by decide+kernel)) ?_;have:=rf ks ih [true] [] (w::(")":Str)::rest) (rows++[.flat .non]) (by rw[r1];lia);show gM (gP f) _ [] (((tks ks).flatten++[w])++(")":Str)::rest) _=_;rw[bM];show gM (gP f) _ [] ((tks ks).flatten++(w::(")":Str)::rest)) _=_;rw[this,r1,r6 (show isName w=true from h1),gM];rfl
  |rcd l=>refine mX (by lia) ?_;have:=r9 l ks h2.symm h1.2 ih [] rest (rows++[.flat .non]) (by rw[r1];lia);show jg (gP f) "rec" _ _=_;unfold jg;rw[gY rfl];show(match chk 0 6 (jb (iZ (gP f) [true,false]) (wv1 l (tks ks)++(")":Str)::rest) (rows++[Dt.flat .non]) [])with|none=>none|some (l,r)=>some ([Dt.flat (.str "rec"),Dt.tup l],r))=_;rw[this,r1];unfold chk;dsimp only;rw[gY ⟨cO _,by rw[bT,aE,bU];have:=h1.1;lia⟩];rfl
  |row m=>refine mX (by lia) ?_;have:=wj ks ih h3 [] rest (rows++[.flat .non]) (by rw[r1];lia);show jg (gP f) "row" _ _=_;unfold jg;rw[gJ gQ,gJ gQ,gY rfl];show(match chk 0 8 (jb (kT (gP f)) ((tks ks).flatten++(")":Str)::rest) (rows++[Dt.flat .non]) [])with|none=>none|some (l,r)=>some ([Dt.flat (.str "row"),Dt.tup l],r))=_;rw[this,r1];unfold chk;dsimp only;have h8:m<=8:=h1;have hk:ks.length=m:=h2;rw[gY ⟨cO _,by rw[bT,aE,offs_len];lia⟩];rfl
  |op s m=>obtain⟨e1,e2⟩:=Ho (s,m) h1;exact mX (by lia) (hs s _ (by rw[h2];rfl) e1 e2)
  |case l=>
   cases ks with
   |nil=>exact absurd h2 (by simp[Kn.ar])
   |cons t ts=>
    have hl2:l.length=ts.length:=by simpa[Kn.ar]using h2.symm
    refine mX (by lia) ?_;rw[szs]at hl;have hlen:(rows++[Dt.flat .non]++t.rw (rows.length+ 1)).length=rows.length+ 1+t.sz:=by rw[aQ,Tr.rw_len,r1]
    have a1:=ih t ah (wv2 l (tks ts)++(")":Str)::rest) (rows++[.flat .non]) (by rw[r1];lia);rw[r1]at a1;have a2:=wm l ts hl2 h1.2.2 (fun x hx=>ih x (aj _ hx)) [] rest (rows++[.flat .non]++t.rw (rows.length+ 1)) (by rw[hlen];lia);show jg (gP f) "case" _ _=_;unfold jg;rw[gJ gQ,gY rfl];show(match gP f ((t.tk++wv2 l (tks ts))++(")":Str)::rest) (rows++[Dt.flat .non])with|none=>none|some (r1,rows1)=>match chk 1 6 (jb (iZ (gP f) [true,true,false]) r1 rows1 [])with|none=>none|some (l,r)=>some ([Dt.flat (.str "case"),Dt.flat (.int ((rows++[Dt.flat .non]).length:Int)),Dt.tup l],r))=_;rw[bM,a1];dsimp only;rw[a2,hlen];unfold chk;dsimp only;rw[gY ⟨by rw[bT,aE,bU,offs_len];have:=h1.1;lia,by rw[bT,aE,bU];have:=h1.2.1;lia⟩,r1];show some ([sD "case",kD (rows.length+ 1),Dt.tup _],(")":Str)::rest,rows++[Dt.flat .non]++t.rw (rows.length+ 1)++rws ts (rows.length+ 1+t.sz))=_;rw[rws,offs,bM];rfl
end TM.Internal
namespace K61.Internal
open PySem L2.Internal
theorem l0 {P:List Zz->Prop} (h:P []):∀us:List Zz,us.length=0->P us:=fun us e=>by rw[bS e];exact h
theorem lS {n:Nat} {P:List Zz->Prop} (h:∀a,∀us:List Zz,us.length=n->P (a::us)):∀us:List Zz,us.length=n+ 1->P us:=fun us e=>by
 cases us with
 |nil=>cases e
 |cons a t=>exact h a t (Nat.succ.inj e)
def top (i:Nat):Zq:=PySem.Challenge.pw_flowkinds_k61_rows.main.body.getD i (.Pass ⟨0,0,0,0⟩)
variable {K:Zp} {mg:Zc} {n q:Str} {st:Zq} {ps:Zd} {C:Zx} {h:Zt}
inductive Fm (K:Zp) (n:Str) (st:Zq):Prop
 |mk {f:Zx} {od an:Option Zx} {sl:Array (Option Zz)} {oc kV dc pm cd ct:Zz} (a:eL K mainGlobals n=some (some (.ref f))) (l:K.lookup f=some ⟨oc,od,.func (eE n n (lJ st) (kq st) (gq st) .none kV dc pm an cd ct),sl⟩) (c:eF K cd n=true) (k:dW K (.ref f)=true)
inductive Mm (K:Zp) (C:Zx) (n q:Str) (st:Zq):Prop
 |mk {f:Zx} {od an:Option Zx} {sl:Array (Option Zz)} {oc kV dc pm cd ct:Zz} (i:dM K (.ref C) n=some (some (.ref f))) (j:dO K (.ref f)=true) (l:K.lookup f=some ⟨oc,od,.func (eE n q (lJ st) (kq st) (gq st) .none kV dc pm an cd ct),sl⟩) (c:eF K cd q=true) (k:dW K (.ref f)=true)
structure Cm (K:Zp) (n:Str) (C:Zx):Prop where
 a:eL K mainGlobals n=some (some (.ref C))
 pg:dI K C Str.empty=true
 hd:dJ K C=true
 po:dP K C=true
 sa:dM K (.ref C) "__setattr__"=some (some (.builtin "object.__setattr__"))
 t1:dM K (.ref C) "__class__"=some (some (.builtin "object.__class__"))
 t2:dU K (.builtin "object.__class__") "__get__"=some (some (.builtin "getset_descriptor.__get__"))
 t3:PySem.W.takesIn K (.builtin "object.__class__")=some true
 t4:PySem.W.mroIn K C (.type "object")=some true
 ms:dR K C=true
 kc:dW K (.ref C)=true
structure Fx (K:Zp) (mg:Zc) (n:Str) (st:Zq) (ps:Zd) where
 a:Zx
 fd:Zs
 F:Fun K n n st a fd
 b:pQ K fd ps []
 m:mg n=some (.ref a)
 k:dW K (.ref a)=true
structure Mx (K:Zp) (C:Zx) (n q:Str) (st:Zq) (ps:Zd) where
 a:Zx
 fd:Zs
 F:Fun K n q st a fd
 b:pQ K fd ps []
 me:Iv K C n a
structure Ck (K:Zp) (mg:Zc) (n:Str) where
 a:Zx
 m:mg n=some (.ref a)
 cl:Cls K a
 ty:∀(H:Hp) (x dx:Zx) (fs:List (Str×V)),H x=some (.ins a dx fs)->xq K H (.ref x) (.ref a)
def Bf (n q:Str) (st:Zq) (ps:Zd):Prop:=∀(kV doc pm:Zz) (an:Option Zx) (cdv ct:Zz) (us:List Zz),us.length=ps.length->bindArgs (eE n q (lJ st) (kq st) (gq st) .none kV doc pm an cdv ct) ⟨us,[]⟩=pure (ps.zip us)
def Fm.x (X:K.In h) (G:h.Ns mainGlobals mg) (a:Fm K n st) (hb:Bf n n st ps:=by intro _ _ _ _ _ _;repeat(first|exact l0 rfl|refine lS fun _=>?_)):Fx K mg n st ps:=Classical.choice (by obtain⟨a,l,c,k⟩:=a;exact⟨⟨_,_,rO l c k,(rO l c k).binds hb,eO X G a,k⟩⟩)
def Mm.x (a:Mm K C n q st) (hb:Bf n q st ps:=by intro _ _ _ _ _ _;repeat(first|exact l0 rfl|refine lS fun _=>?_)):Mx K C n q st ps:=Classical.choice (by obtain⟨i,j,l,c,k⟩:=a;exact⟨⟨_,_,rO l c k,(rO l c k).binds hb,⟨i,j,k⟩⟩⟩)
def Cm.x (X:K.In h) (G:h.Ns mainGlobals mg) (a:Cm K n C):Ck K mg n:=⟨C,eO X G a.a,⟨a.pg,a.hd,a.po,a.sa⟩,fun _ _ _ _ e=> .ins e ⟨a.pg,a.hd,a.po,a.sa⟩ a.t1 a.t2 a.t3 a.t4⟩
theorem sf {x:Option (Option Zz)} {a b:Zx} (h1:x=some (some (.ref a))) (h2:x=some (some (.ref b))):a=b:=by rw[h1]at h2;cases h2;rfl
theorem Cm.k (a:Cm K n C) (x:Mx K C "__init__" q st ps):Mk K C x.a:=⟨a.ms,x.me.at_,x.me.fn,a.kc⟩
abbrev FO (P:Zu) (w:Zv) (base:Zt) (k:Nat) (x:Fx K mg n st ps) (sp:Sp):Prop:=rK P w K mg base CX0 k x.a x.fd ps sp
abbrev MO (P:Zu) (w:Zv) (base:Zt) (mg:Zc) (k:Nat) (x:Mx K C n q st ps) (sp:Sp):Prop:=rK P w K mg base CX0 k x.a x.fd ps sp
abbrev FE (P:Zu) (w:Zv) (base:Zt) (k:Nat) (x:Fx K mg n st ps) (sp:Sp):Prop:=rK P w K mg base (CXE P w) k x.a x.fd ps sp
abbrev ME (P:Zu) (w:Zv) (base:Zt) (mg:Zc) (k:Nat) (x:Mx K C n q st ps) (sp:Sp):Prop:=rK P w K mg base (CXE P w) k x.a x.fd ps sp
abbrev p8:Zq:=top 6
abbrev oo:Zq:=top 7
abbrev By:Zq:=top 8
abbrev l8:Zq:=top 12
abbrev mY:Zq:=top 13
abbrev p9:Zq:=top 14
abbrev oq:Zq:=top 15
abbrev qa:Zq:=top 23
abbrev sd:Zq:=top 24
abbrev ot:Zq:=top 25
abbrev ou:Zq:=top 26
abbrev qb:Zq:=top 28
abbrev Fg:Zq:=top 33
abbrev qc:Zq:=top 48
abbrev se:Zq:=top 49
abbrev ow:Zq:=top 50
abbrev sg:Zq:=top 51
abbrev Bz:Zq:=top 52
abbrev md:Zq:=top 53
abbrev qd:Zq:=top 56
abbrev lN:Zq:=top 57
abbrev mZ:Zq:=top 58
abbrev sh:Zq:=top 59
abbrev mf:Zq:=top 60
abbrev lO:Zq:=top 61
abbrev si:Zq:=top 62
abbrev ox:Zq:=top 64
abbrev m7:Zq:=top 65
abbrev oy:Zq:=top 66
abbrev mh:Zq:=top 67
abbrev nh:Zq:=top 68
abbrev oz:Zq:=top 69
abbrev mi:Zq:=top 70
abbrev qg:Zq:=top 71
abbrev mj:Zq:=top 72
abbrev oA:Zq:=top 73
abbrev nj:Zq:=top 74
abbrev mn:Zq:=top 75
abbrev qh:Zq:=top 76
abbrev oB:Zq:=top 77
abbrev kX:Zq:=top 78
abbrev oC:Zq:=top 79
abbrev qi:Zq:=top 80
abbrev mq:Zq:=top 81
abbrev nk:Zq:=top 82
abbrev nq:Zq:=top 83
abbrev uS:Zq:=top 84
abbrev qP:Zq:=iG (top 3) 0
abbrev qm:Zq:=iG (top 4) 0
abbrev jX:Zq:=iG (top 11) 0
abbrev jh:Zq:=iG (top 11) 1
abbrev jD:Zq:=iG (top 11) 2
abbrev kY:Zq:=iG (top 11) 3
abbrev jE:Zq:=iG (top 11) 4
abbrev jF:Zq:=iG (top 11) 5
abbrev kI:Zq:=iG (top 11) 6
abbrev kZ:Zq:=iG (top 11) 8
abbrev jY:Zq:=iG (top 11) 9
abbrev ji:Zq:=iG (top 11) 10
abbrev lP:Zq:=iG (top 32) 0
abbrev jZ:Zq:=iG (top 47) 0
abbrev kr:Zq:=iG (top 54) 0
abbrev lQ:Zq:=iG (top 54) 1
abbrev mw:Zq:=iG (top 54) 2
abbrev ka:Zq:=iG (top 54) 3
abbrev kb:Zq:=iG (top 54) 4
abbrev ke:Zq:=iG (top 54) 5
abbrev ku:Zq:=iG (top 54) 6
abbrev kf:Zq:=iG (top 54) 7
abbrev jG:Zq:=iG (top 54) 8
abbrev jH:Zq:=iG (top 54) 9
abbrev kg:Zq:=iG (top 54) 10
abbrev jI:Zq:=iG (top 54) 11
theorem scK {N ps:Zd} {s:Scope} (h:gy N ps s:=by constructor<;>first|rfl|decide+kernel):gy N ps s:=h
structure Ek (K:Zp) (mg:Zc) (n:Str) where
 a:Zx
 m:mg n=some (.ref a)
inductive Jm (K:Zp) (C:Zx) (q:Str) (st:Zq):Prop
 |mk {f:Zx} {od an:Option Zx} {sl:Array (Option Zz)} {oc kV dc pm cd ct:Zz} {N:Zx} {z1 z2:Str} {y1 y2 y3:List Zz} {y4:Zd} {y5:Bool} {y6:Option Bool} {y7:Option Zx} {k0 k1 k2 k3 k5:Option Zz} (xl:K.lookup C=some ⟨.type "type",y7,.cls ⟨z1,y1,.ref C::y2,N,z2,true,y4,y3,y5,y6,false⟩,#[k0,k1,k2,k3,some (.builtin "ValueError.__new__"),k5]⟩) (xi:eL K N "__init__"=some (some (.ref f)))
  (l:K.lookup f=some ⟨oc,od,.func (eE "__init__" q (lJ st) (kq st) (gq st) .none kV dc pm an cd ct),sl⟩) (c:eF K cd q=true) (k:dW K (.ref f)=true) (xz:eK K N=true) (xt:eM K EV y2=true) (xp:oc= .type "function") (xj:dM K (.ref C) "__setattr__"=some (some (.builtin "object.__setattr__")))
  (xa:dM K (.ref C) "__getattribute__"=some (some (.builtin "BaseException.__getattribute__"))) (xb:dM K (.ref C) "__getattr__"=some none) (xc:dM K (.ref C) "__class__"=some (some (.builtin "object.__class__"))) (xd:eJ K (.ref C) (.type "BaseException")=some true) (xe:eJ K (.ref C) (.type "object")=some true) (xf:dJ K C=true)
structure Jx (K:Zp) (C:Zx) (q:Str) (st:Zq) (ps:Zd) where
 a:Zx
 fd:Zs
 F:Fun K "__init__" q st a fd
 b:pQ K fd ps []
 xi:Kl K C a
 xs:Kk K C
def Jm.x (a:Jm K C q st) (hb:Bf "__init__" q st ps:=by intro _ _ _ _ _ _;repeat(first|exact l0 rfl|refine lS fun _=>?_)):Jx K C q st ps:=Classical.choice (by obtain⟨xl,xi,l,c,k,xz,xt,xp,xj,xa,xb,xc,xd,xe,xf⟩:=a;exact⟨⟨_,_,rO l c k,(rO l c k).binds hb,He xl xz xi xt l xp,Hd xl xt ⟨xa,xb,xc,xd,xe,xf⟩ xj⟩⟩)
set_option genInjectivity false in
set_option genSizeOf false in
structure Txt (K:Zp) (mg:Zc) where
 t1:Tok
 o1:mg "MOST_JOINED"=some (.int 60 t1)
 t2:Tok
 o2:mg "LETTERS"=some (.str "abcdefghijklmnopqrstuvwxyz" t2)
 t3:Tok
 o3:mg "FIGURES"=some (.str "0123456789" t3)
 t4:Zx
 o4:mg "KEPT_WORDS"=some (.ref t4)
 r4:∀H:Hp,SqT K H t4 [V.str "def",V.str "fn",V.str "call",V.str "let",V.str "rec",V.str "get",V.str "tag",V.str "case",V.str "row",V.str "at",V.str "join",V.str "size",V.str "add",V.str "sub",V.str "less"]
 t5:Tok
 o5:mg "MOST_FIGURES"=some (.int 60 t5)
 t6:Tok
 o6:mg "MOST_SIGNS"=some (.int 12 t6)
 t7:Tok
 o7:mg "MOST_DEFINITIONS"=some (.int 12 t7)
 t8:Tok
 o8:mg "MOST_FIELDS"=some (.int 6 t8)
 t9:Tok
 o9:mg "MOST_ARMS"=some (.int 6 t9)
 t10:Tok
 o10:mg "MOST_THINGS"=some (.int 8 t10)
 t11:Tok
 o11:mg "MOST_PLACES"=some (.int 160 t11)
 t12:Tok
 o12:mg "MOST_NEST"=some (.int 24 t12)
 d1:Fx K mg "parts_of" p8 ["row"]
 d2:Fx K mg "places_in" oo ["row"]
 d3:Fx K mg "flat" By ["parts"]
 d4:Fx K mg "first_parts" l8 ["row"]
 d5:Fx K mg "held_value" mY ["scope","place"]
 d6:Fx K mg "work_num" p9 ["machine","row","place","scope","parts"]
 d7:Fx K mg "work_name" oq ["machine","row","place","scope","parts"]
 d8:Fx K mg "work_row" qa ["machine","row","place","scope","parts"]
 d9:Fx K mg "work_at" sd ["machine","row","place","scope","parts"]
 d10:Fx K mg "work_join" ot ["machine","row","place","scope","parts"]
 d11:Fx K mg "work_size" ou ["machine","row","place","scope","parts"]
 d12:Fx K mg "work_sub" qb ["machine","row","place","scope","parts"]
 d13:Fx K mg "run" Fg ["program","homes","turns"]
 d14:Fx K mg "words_of" qc ["text"]
 d15:Fx K mg "is_name" se ["word"]
 d16:Fx K mg "is_number" ow ["word"]
 d17:Fx K mg "made_of" sg ["word","signs"]
 d18:Fx K mg "read" Bz ["text"]
 d19:Fx K mg "check_count" md ["what","count","least","most"]
 d20:Fx K mg "homes_of" qd ["program"]
 d21:Fx K mg "refuse_twice" lN ["words"]
 d22:Fx K mg "words_once" mZ ["row"]
 d23:Fx K mg "home_of" sh ["row","place","scope"]
 d24:Fx K mg "root_scopes" mf ["program"]
 d25:Fx K mg "inner_scopes" lO ["row","scope"]
 d26:Fx K mg "widened" si ["scope","name","home"]
 d27:Fx K mg "_law_stem" ox ["_law_cell","_law_size_here"]
 d28:Fx K mg "_law_words" m7 ["_law_cell"]
 d29:Fx K mg "_law_mark" oy ["_law_fresh"]
 d30:Fx K mg "_law_number" mh ["_law_fresh","_law_n"]
 d31:Fx K mg "_law_named" nh ["_law_fresh","_law_word","_law_value"]
 d32:Fx K mg "_law_form" oz ["_law_at","_law_words_here","_law_items_here"]
 d33:Fx K mg "_law_valued" mi ["_law_whole_here","_law_value","_law_meets"]
 d34:Fx K mg "_law_sum" qg ["_law_fresh","_law_word","_law_one","_law_other"]
 d35:Fx K mg "_law_placed" mj ["_law_items_here"]
 d36:Fx K mg "_law_text" oA ["_law_words_here","_law_items_here"]
 d37:Fx K mg "_law_whole" nj ["_law_x"]
 d38:Fx K mg "_law_tuples" mn ["_law_found","_law_due","_law_size_here"]
 d39:Fx K mg "_law_ran" qh ["_law_text_here","_law_turns"]
 d40:Fx K mg "_law_told" oB ["_law_found","_law_end","_law_begun","_law_placed_here"]
 d41:Fx K mg "_law_thing_at" kX ["_law_fresh","_law_word","_law_row_here","_law_cell"]
 d42:Fx K mg "_law_size" oC ["_law_fresh","_law_word","_law_row_here"]
 d43:Fx K mg "_law_row" qi ["_law_fresh","_law_words_here","_law_items_here","_law_cells"]
 d44:Fx K mg "_law_joined" mq ["_law_fresh","_law_one","_law_other"]
 d45:Fx K mg "_law_items" nk ["_law_words_here","_law_script"]
 d46:Fx K mg "_law_alike" nq ["_law_found","_law_due","_law_places"]
 c1:Ek K mg "FlowError"
 c2:Ek K mg "BadText"
 x2:Kc K c2.a
 c3:Ek K mg "Twice"
 c4:Ek K mg "NoName"
 c5:Ck K mg "Machine"
 n5program:iU K c5.a "program"
 n5homes:iU K c5.a "homes"
 n5turns:iU K c5.a "turns"
 n5begun:iU K c5.a "begun"
 n5end:iU K c5.a "end"
 n5meets:iU K c5.a "meets"
 n5had:iU K c5.a "had"
 n5defined:iU K c5.a "defined"
 n5steps:iU K c5.a "steps"
 n5ready:iU K c5.a "ready"
 e47:Mx K c5.a "__init__" "Machine.__init__" jX ["self","program","homes","turns"]
 mk5:Mk K c5.a e47.a
 e48:Mx K c5.a "work_program" "Machine.work_program" jh ["self"]
 e49:Mx K c5.a "work_steps" "Machine.work_steps" jD ["self"]
 e50:Mx K c5.a "begin" "Machine.begin" kY ["self","place","scope"]
 e51:Mx K c5.a "work_parts" "Machine.work_parts" jE ["self","place","scope"]
 e52:Mx K c5.a "take_ready" "Machine.take_ready" jF ["self","count"]
 e53:Mx K c5.a "finish" "Machine.finish" kI ["self","place","value"]
 e54:Mx K c5.a "comes" "Machine.comes" kZ ["self","value","place","slot","fits"]
 e55:Mx K c5.a "comes_as" "Machine.comes_as" jY ["self","shape","value","place","slot"]
 e56:Mx K c5.a "both_come_as" "Machine.both_come_as" ji ["self","shape","parts","place"]
 c6:Ck K mg "Run"
 n6end:iU K c6.a "end"
 n6value:iU K c6.a "value"
 n6meets:iU K c6.a "meets"
 n6had:iU K c6.a "had"
 n6begun:iU K c6.a "begun"
 e57:Mx K c6.a "__init__" "Run.__init__" lP ["self","end","value","meets","had","begun"]
 mk6:Mk K c6.a e57.a
 c7:Ck K mg "Program"
 n7names:iU K c7.a "names"
 n7roots:iU K c7.a "roots"
 n7rows:iU K c7.a "rows"
 e58:Mx K c7.a "__init__" "Program.__init__" jZ ["self","names","roots","rows"]
 mk7:Mk K c7.a e58.a
 c8:Ck K mg "Reader"
 n8words:iU K c8.a "words"
 n8taken:iU K c8.a "taken"
 n8rows:iU K c8.a "rows"
 e59:Mx K c8.a "__init__" "Reader.__init__" kr ["self","words"]
 mk8:Mk K c8.a e59.a
 e60:Mx K c8.a "ahead" "Reader.ahead" lQ ["self"]
 e61:Mx K c8.a "take" "Reader.take" mw ["self"]
 e62:Mx K c8.a "pass_over" "Reader.pass_over" ka ["self","wanted"]
 e63:Mx K c8.a "take_name" "Reader.take_name" kb ["self"]
 e64:Mx K c8.a "take_expr" "Reader.take_expr" ke ["self","depth"]
 e65:Mx K c8.a "take_row" "Reader.take_row" ku ["self","depth"]
 e66:Mx K c8.a "take_form" "Reader.take_form" kf ["self","head","depth"]
 e67:Mx K c8.a "take_steady" "Reader.take_steady" jG ["self","parts","depth"]
 e68:Mx K c8.a "take_fields" "Reader.take_fields" jH ["self","depth"]
 e69:Mx K c8.a "take_arms" "Reader.take_arms" kg ["self","depth"]
 e70:Mx K c8.a "take_things" "Reader.take_things" jI ["self","depth"]
 z_ValueError:mg "ValueError"=none
 z_all:mg "all"=none
 z_bool:mg "bool"=none
 z_dict:mg "dict"=none
 z_enumerate:mg "enumerate"=none
 z_int:mg "int"=none
 z_isinstance:mg "isinstance"=none
 z_len:mg "len"=none
 z_list:mg "list"=none
 z_max:mg "max"=none
 z_min:mg "min"=none
 z_range:mg "range"=none
 z_reversed:mg "reversed"=none
 z_str:mg "str"=none
 z_sum:mg "sum"=none
 z_tuple:mg "tuple"=none
 z_zip:mg "zip"=none
theorem xJ:gy ["row"] ["row"] (gq p8):=scK
theorem wo:gy ["row"] ["row"] (gq oo):=scK
theorem uT:gy ["parts","found","part"] ["parts"] (gq By):=scK
theorem sQ:gy ["row"] ["row"] (gq l8):=scK
theorem uU:gy ["scope","place","around"] ["scope","place"] (gq mY):=scK
theorem xK:gy ["machine","row","place","scope","parts"] ["machine","row","place","scope","parts"] (gq p9):=scK
theorem qF:gy ["machine","row","place","scope","parts","home"] ["machine","row","place","scope","parts"] (gq oq):=scK
theorem xM:gy ["machine","row","place","scope","parts"] ["machine","row","place","scope","parts"] (gq qa):=scK
theorem qp:gy ["machine","row","place","scope","parts","things","index"] ["machine","row","place","scope","parts"] (gq sd):=scK
theorem qG:gy ["machine","row","place","scope","parts","things"] ["machine","row","place","scope","parts"] (gq ot):=scK
theorem wq:gy ["machine","row","place","scope","parts"] ["machine","row","place","scope","parts"] (gq ou):=scK
theorem xN:gy ["machine","row","place","scope","parts"] ["machine","row","place","scope","parts"] (gq qb):=scK
theorem BA:gy ["program","homes","turns","machine","value"] ["program","homes","turns"] (gq Fg):=scK
theorem sj:gy ["text","spaced"] ["text"] (gq qc):=scK
theorem z7:gy ["word"] ["word"] (gq se):=scK
theorem wu:gy ["word"] ["word"] (gq ow):=scK
theorem z8:gy ["word","signs"] ["word","signs"] (gq sg):=scK
theorem uV:gy ["text","reader","names","roots"] ["text"] (gq Bz):=scK
theorem sR:gy ["what","count","least","most"] ["what","count","least","most"] (gq md):=scK
theorem kx:gy ["program","scopes","homes","place","row","scope"] ["program"] (gq qd):=scK
theorem lj:gy ["words","seen","word"] ["words"] (gq lN):=scK
theorem uW:gy ["row"] ["row"] (gq mZ):=scK
theorem z9:gy ["row","place","scope"] ["row","place","scope"] (gq sh):=scK
theorem iO:gy ["program","scopes","earlier","number","name","root","later"] ["program"] (gq mf):=scK
theorem kh:gy ["row","scope","scopes","place","arm"] ["row","scope"] (gq lO):=scK
theorem tZ:gy ["scope","name","home","wider"] ["scope","name","home"] (gq si):=scK
theorem i6:gy ["_law_cell","_law_size_here","_law_signs","_law_stem_here","_law_k","_law_many"] ["_law_cell","_law_size_here"] (gq ox):=scK
theorem ie:gy ["_law_cell","_law_size_here","_law_words_here","_law_stem_here","_law_at","_law_k","_law_word","_law_part"] ["_law_cell"] (gq m7):=scK
theorem wx:gy ["_law_fresh"] ["_law_fresh"] (gq oy):=scK
theorem nU:gy ["_law_fresh","_law_n","_law_at"] ["_law_fresh","_law_n"] (gq mh):=scK
theorem pB:gy ["_law_fresh","_law_word","_law_value","_law_at"] ["_law_fresh","_law_word","_law_value"] (gq nh):=scK
theorem jo:gy ["_law_at","_law_words_here","_law_items_here","_law_texts","_law_whole_here","_law_k","_law_word","_law_part"] ["_law_at","_law_words_here","_law_items_here"] (gq oz):=scK
theorem sS:gy ["_law_whole_here","_law_value","_law_meets"] ["_law_whole_here","_law_value","_law_meets"] (gq mi):=scK
theorem lq:gy ["_law_fresh","_law_word","_law_one","_law_other","_law_at","_law_n","_law_meets"] ["_law_fresh","_law_word","_law_one","_law_other"] (gq qg):=scK
theorem iF:gy ["_law_items_here","_law_places","_law_item","_law_mark_here","_law_had","_law_meets"] ["_law_items_here"] (gq mj):=scK
theorem wy:gy ["_law_words_here","_law_items_here"] ["_law_words_here","_law_items_here"] (gq oA):=scK
theorem uX:gy ["_law_x"] ["_law_x"] (gq nj):=scK
theorem nV:gy ["_law_found","_law_due","_law_size_here","_law_one"] ["_law_found","_law_due","_law_size_here"] (gq mn):=scK
theorem sk:gy ["_law_text_here","_law_turns","_law_program"] ["_law_text_here","_law_turns"] (gq qh):=scK
theorem wz:gy ["_law_found","_law_end","_law_begun","_law_placed_here"] ["_law_found","_law_end","_law_begun","_law_placed_here"] (gq oB):=scK
theorem ig:gy ["_law_fresh","_law_word","_law_row_here","_law_cell","_law_n","_law_spot","_law_other","_law_at","_law_value","_law_form_here"] ["_law_fresh","_law_word","_law_row_here","_law_cell"] (gq kX):=scK
theorem nu:gy ["_law_fresh","_law_word","_law_row_here","_law_at","_law_form_here"] ["_law_fresh","_law_word","_law_row_here"] (gq oC):=scK
theorem ky:gy ["_law_fresh","_law_words_here","_law_items_here","_law_cells","_law_things","_law_cell","_law_c","_law_at","_law_form_here"] ["_law_fresh","_law_words_here","_law_items_here","_law_cells"] (gq qi):=scK
theorem kz:gy ["_law_fresh","_law_one","_law_other","_law_at","_law_form_here","_law_meets"] ["_law_fresh","_law_one","_law_other"] (gq mq):=scK
theorem iA:gy ["_law_words_here","_law_script","_law_fresh","_law_items_here","_law_start","_law_cells","_law_item","_law_choice","_law_turn","_law_ahead"] ["_law_words_here","_law_script"] (gq nk):=scK
theorem my:gy ["_law_found","_law_due","_law_places","_law_one","_law_wanted"] ["_law_found","_law_due","_law_places"] (gq nq):=scK
theorem sq:gy ["_law_script","_law_words_here","_law_items_here","_law_placed_here","_law_begun","_law_found"] ["_law_script"] (gq uS):=scK
theorem Aa:gy ["self","word"] ["self","word"] (gq qP):=scK
theorem yT:gy ["self","word","place"] ["self","word","place"] (gq qm):=scK
theorem oE:gy ["self","program","homes","turns"] ["self","program","homes","turns"] (gq jX):=scK
theorem ki:gy ["self","root"] ["self"] (gq jh):=scK
theorem kC:gy ["self","step"] ["self"] (gq jD):=scK
theorem mF:gy ["self","place","scope","part"] ["self","place","scope"] (gq kY):=scK
theorem kE:gy ["self","place","scope","row"] ["self","place","scope"] (gq jE):=scK
theorem jq:gy ["self","count","taken","number"] ["self","count"] (gq jF):=scK
theorem qq:gy ["self","place","value"] ["self","place","value"] (gq kI):=scK
theorem qQ:gy ["self","value","place","slot","fits"] ["self","value","place","slot","fits"] (gq kZ):=scK
theorem oF:gy ["self","shape","value","place","slot"] ["self","shape","value","place","slot"] (gq jY):=scK
theorem mz:gy ["self","shape","parts","place"] ["self","shape","parts","place"] (gq ji):=scK
theorem sr:gy ["self","end","value","meets","had","begun"] ["self","end","value","meets","had","begun"] (gq lP):=scK
theorem oG:gy ["self","names","roots","rows"] ["self","names","roots","rows"] (gq jZ):=scK
theorem pC:gy ["self","words"] ["self","words"] (gq kr):=scK
theorem su:gy ["self"] ["self"] (gq lQ):=scK
theorem nX:gy ["self","word"] ["self"] (gq mw):=scK
theorem lA:gy ["self","wanted","word"] ["self","wanted"] (gq ka):=scK
theorem lB:gy ["self","word"] ["self"] (gq kb):=scK
theorem jR:gy ["self","depth","place"] ["self","depth"] (gq ke):=scK
theorem kj:gy ["self","depth","word","row"] ["self","depth"] (gq ku):=scK
theorem lC:gy ["self","head","depth","subject"] ["self","head","depth"] (gq kf):=scK
theorem jr:gy ["self","parts","depth","found","part"] ["self","parts","depth"] (gq jG):=scK
theorem kF:gy ["self","depth","found"] ["self","depth"] (gq jH):=scK
theorem lD:gy ["self","depth","found"] ["self","depth"] (gq kg):=scK
theorem kG:gy ["self","depth","found"] ["self","depth"] (gq jI):=scK
def yU (K:Zp):Sp:=fun vs H Q _=>∃(a:Zx) (ns:List Int),vs=[.ref a]/\SqL K H a (ns.map V.int)/\ns.length<=63/\∀H',Q (.bl true) H'
theorem _root_.L2.Internal.Fun.rd {P:Zu} {w:Zv} {base:Zt} {f:Zx} {fd:Zs} {N:Zd} {k:Nat} {sp:Sp} (F:Fun K n q st f fd) (S:gy N ps (gq st)) (hbody:∀(cdv:Zz) (A:Zw) (outer:List Env) (s:Zy) (H:Hp) (vs:List V) (Q:VK) (E:XK),mO k (A.deeper (PyProof.Rows.envOfC q (gq st) s.heap.objs.size f cdv))->sp vs H Q E->∃t,PSs (wZ CX0 P w K mg base N q (gq st) f cdv A outer s H E).nox (kq st) t/\t {nx:=fun _ H'=>Q .non H',rt:=Q} (pT N vs) H) (len:∀vs H Q E,sp vs H Q E->vs.length=ps.length:=by intro _ _ _ _ h;repeat(first|(obtain⟨rfl,_⟩:=h;rfl)|(cases h;first|(subst_vars;rfl)|rename_i h))):rK P w K mg base CX0 (k+ 1) f fd ps sp:=F.ok S len hbody
section
variable {X:Cx}
theorem pF {e:Zr} {es:List Zr} {pos p:Pos} {k:Nat} {sp:Sp} {t:TA} (x:Fx X.K X.mg n st ps) (F:rK X.prog X.w X.K X.mg X.base CX0 k x.a x.fd ps sp) (hr:mO k X.A) (ha:PA X (e::es) t) (hg:Gl X n:=by exact rfl) (hdb:autoParam ((n==("__debug__":Str))=false) L2.Internal.auD._auto_1) (he:autoParam (starEach (e::es) X.env=(false,eval e X.env)::starEach es X.env) L2.Internal.auR._auto_1) (hpl:autoParam ((backTo pos (starEach es X.env)).any (·.1)=false) L2.Internal.auR._auto_1):PE X (.Call (.Name n p) (e::es) [] pos) (ED sp [] E0 t):=pR F hr hg x.m x.k x.b .nil jB ha hdb he hpl
theorem pS {i:Nat} {x:Str} {e:Zr} {te:TE} {pos pos':Pos} (hN:X.N.Nodup) (he:PE X e te) (hi:autoParam (X.N[i]?=some x) L2.Internal.auR._auto_1) (hx:Loc X.env.scope x:=by first|exact .inl rfl|exact .inr rfl) (hs:autoParam (swapsWith e (some (.Name x pos')) pos.line X.env=pure false) L2.Internal.auR._auto_1) (hf:autoParam (X.fn x=true\/X.env.scope.names.lookup x=some .local) L2.Internal.auL._auto_1):PS X (.Assign [.Name x pos'] e pos) (Iq te (hJ i)):=Gz hN hi hx he hs hf
theorem pN {i:Nat} {x:Str} {pos:Pos} (hN:X.N.Nodup) (hi:autoParam (X.N[i]?=some x) L2.Internal.auR._auto_1) (hx:Loc X.env.scope x:=by first|exact .inl rfl|exact .inr rfl) (hf:autoParam (X.fn x=true\/X.env.scope.names.lookup x=some .local) L2.Internal.auL._auto_1):PG X (.Name x pos) (hJ i):=xk hN hi hx hf
theorem Kr {scope:Scope} {x:Str} (ns:Zd) (cap:List (Str×Nat×Zx)) (hns:autoParam (cap.map (·.1)=ns) L2.Internal.auR._auto_1) (hk:autoParam (scope.kind= .function) L2.Internal.auR._auto_1) (hn:∀p∈scope.names,p.2≠ .cell/\(p.2= .free->p.1∈ns):=by decide+kernel) (hl:∀y∈scope.names,y.2= .local->scope.names.lookup y.1=some .local:=by decide+kernel)
  (hx:autoParam (scope.names.lookup x=some .local) L2.Internal.auR._auto_1) (hnd:(x::ns).Nodup:=by decide+kernel) (hc:autoParam (closureFor scope X.env=pure (cap.map fun p=>(p.1,p.2.2))) L2.Internal.auR._auto_1) (hok:autoParam (X.env.scope.kind= .function) L2.Internal.auR._auto_1)
  (h:∀p∈cap,scope.names.lookup p.1=some .free/\X.env.cells.lookup p.1=some p.2.2/\X.env.scope.names.lookup p.1=some .cell/\X.N[p.2.1]?=some p.1:=by repeat(first|refine bV.mpr ⟨⟨rfl,rfl,rfl,rfl⟩,?_⟩|exact fun _ h=>absurd h bD)):
  sM X (x::ns) scope (cap.map fun p=>(p.1,p.2.2)) (fun σ=>none::cap.map fun p=>σ.getD p.2.1 none) 0 x:=blkC ns cap hns hk hn hl hx hnd hc hok h
theorem Jw {scope:Scope} {x y:Str} (ns:Zd) (cap:List (Str×Nat×Zx)) (hns:autoParam (cap.map (·.1)=ns) L2.Internal.auR._auto_1) (hk:autoParam (scope.kind= .function) L2.Internal.auR._auto_1) (hn:∀p∈scope.names,p.2≠ .cell/\(p.2= .free->p.1∈ns):=by decide+kernel) (hl:∀y∈scope.names,y.2= .local->scope.names.lookup y.1=some .local:=by decide+kernel)
  (hx:autoParam (scope.names.lookup x=some .local) L2.Internal.auR._auto_1) (hnd:(x::y::ns).Nodup:=by decide+kernel) (hc:autoParam (closureFor scope X.env=pure (cap.map fun p=>(p.1,p.2.2))) L2.Internal.auR._auto_1) (hok:autoParam (X.env.scope.kind= .function) L2.Internal.auR._auto_1)
  (h:∀p∈cap,scope.names.lookup p.1=some .free/\X.env.cells.lookup p.1=some p.2.2/\X.env.scope.names.lookup p.1=some .cell/\X.N[p.2.1]?=some p.1:=by repeat(first|refine bV.mpr ⟨⟨rfl,rfl,rfl,rfl⟩,?_⟩|exact fun _ h=>absurd h bD)):
  sM X (x::y::ns) scope (cap.map fun p=>(p.1,p.2.2)) (fun σ=>none::none::cap.map fun p=>σ.getD p.2.1 none) 0 x:=Jj ns cap hns hk hn hl hx hnd hc hok h
theorem pgP {scope:Scope} {cl:List (Str×Zx)} {x y:Str} {ns:Zd} {px py tp:Pos} {kk:Nat} (hc:X.calm=true) (nd:(x::y::ns).Nodup) (hx:scope.names.lookup x=some .local) (hy:scope.names.lookup y=some .local) (C:Zx) (s₀:Zy) (H₀:Hp) (ex:List Zx) (pz:Za):PG (blk X (x::y::ns) scope cl C s₀ H₀ ex pz) (.Tuple [.Name x px,.Name y py] kk tp) (IJ X.K 2 (Ar (hJ 0) (Ar (hJ 1) II))):=
 yv (n:=2) (X:=blk X (x::y::ns) scope cl C s₀ H₀ ex pz) hc (lF (xk (X:=blk X (x::y::ns) scope cl C s₀ H₀ ex pz) (i:=0) nd rfl (.inl (lookup_relabel_local hx)) (.inr (lookup_relabel_local hx))) (lF (xk (X:=blk X (x::y::ns) scope cl C s₀ H₀ ex pz) (i:=1) nd rfl (.inl (lookup_relabel_local hy)) (.inr (lookup_relabel_local hy))) uo))
end
end K61.Internal
inductive X1 {a0:Type} (p:a0->Prop):Prop
 |mk x0:p x0->X1 p
inductive X2 {a0 a1:Type} (p:a0->a1->Prop):Prop
 |mk x0 x1:p x0 x1->X2 p
inductive X3 {a0 a1 a2:Type} (p:a0->a1->a2->Prop):Prop
 |mk x0 x1 x2:p x0 x1 x2->X3 p
inductive X4 {a0 a1 a2 a3:Type} (p:a0->a1->a2->a3->Prop):Prop
 |mk x0 x1 x2 x3:p x0 x1 x2 x3->X4 p
inductive X5 {a0 a1 a2 a3 a4:Type} (p:a0->a1->a2->a3->a4->Prop):Prop
 |mk x0 x1 x2 x3 x4:p x0 x1 x2 x3 x4->X5 p
inductive X6 {a0 a1 a2 a3 a4 a5:Type} (p:a0->a1->a2->a3->a4->a5->Prop):Prop
 |mk x0 x1 x2 x3 x4 x5:p x0 x1 x2 x3 x4 x5->X6 p
inductive X7 {a0 a1 a2 a3 a4 a5 a6:Type} (p:a0->a1->a2->a3->a4->a5->a6->Prop):Prop
 |mk x0 x1 x2 x3 x4 x5 x6:p x0 x1 x2 x3 x4 x5 x6->X7 p
inductive X8 {a0 a1 a2 a3 a4 a5 a6 a7:Type} (p:a0->a1->a2->a3->a4->a5->a6->a7->Prop):Prop
 |mk x0 x1 x2 x3 x4 x5 x6 x7:p x0 x1 x2 x3 x4 x5 x6 x7->X8 p
inductive X9 {a0 a1 a2 a3 a4 a5 a6 a7 a8:Type} (p:a0->a1->a2->a3->a4->a5->a6->a7->a8->Prop):Prop
 |mk x0 x1 x2 x3 x4 x5 x6 x7 x8:p x0 x1 x2 x3 x4 x5 x6 x7 x8->X9 p
inductive X10 {a0 a1 a2 a3 a4 a5 a6 a7 a8 a9:Type} (p:a0->a1->a2->a3->a4->a5->a6->a7->a8->a9->Prop):Prop
 |mk x0 x1 x2 x3 x4 x5 x6 x7 x8 x9:p x0 x1 x2 x3 x4 x5 x6 x7 x8 x9->X10 p
structure Y3 (a0 a1 a2:Prop):Prop where mk::
 (h0:a0) (h1:a1) (h2:a2)
structure Y4 (a0 a1 a2 a3:Prop):Prop where mk::
 (h0:a0) (h1:a1) (h2:a2) (h3:a3)
structure Y5 (a0 a1 a2 a3 a4:Prop):Prop where mk::
 (h0:a0) (h1:a1) (h2:a2) (h3:a3) (h4:a4)
structure Y6 (a0 a1 a2 a3 a4 a5:Prop):Prop where mk::
 (h0:a0) (h1:a1) (h2:a2) (h3:a3) (h4:a4) (h5:a5)
structure Y7 (a0 a1 a2 a3 a4 a5 a6:Prop):Prop where mk::
 (h0:a0) (h1:a1) (h2:a2) (h3:a3) (h4:a4) (h5:a5) (h6:a6)
structure Y8 (a0 a1 a2 a3 a4 a5 a6 a7:Prop):Prop where mk::
 (h0:a0) (h1:a1) (h2:a2) (h3:a3) (h4:a4) (h5:a5) (h6:a6) (h7:a7)
structure Y9 (a0 a1 a2 a3 a4 a5 a6 a7 a8:Prop):Prop where mk::
 (h0:a0) (h1:a1) (h2:a2) (h3:a3) (h4:a4) (h5:a5) (h6:a6) (h7:a7) (h8:a8)
structure Y11 (a0 a1 a2 a3 a4 a5 a6 a7 a8 a9 a10:Prop):Prop where mk::
 (h0:a0) (h1:a1) (h2:a2) (h3:a3) (h4:a4) (h5:a5) (h6:a6) (h7:a7) (h8:a8) (h9:a9) (h10:a10)
namespace K61.Internal
open PySem L2.Internal GR.Internal
def sv:Sp:=fun vs H Q _=>∃x:Str,Y3 (vs=[.str x]) (x.length<=30000) (∀(p:Zx) (H':Hp),gB H H'->H p=none->H' p=some (.lst (rW x.cps.toList))->Q (.ref p) H')
abbrev r1 (x:Str):Str:=Txt.replace x "(" " ( "
abbrev r2 (x:Str):Str:=Txt.replace (r1 x) ")" " ) "
abbrev r3 (x:Str):Str:=Txt.replace (r2 x) "\n" " "
theorem c1 (x:Str):(r1 x).cps.toList=T1.sub 40 [32,40,32] x.cps.toList:=T1.replace_codes x " ( " 40
theorem c2 (x:Str):(r2 x).cps.toList=T1.sub 41 [32,41,32] (T1.sub 40 [32,40,32] x.cps.toList):=by rw[<-c1];exact T1.replace_codes (r1 x) " ) " 41
theorem c3 (x:Str):(r3 x).cps.toList=T1.spaced x.cps.toList:=by rw[<-T1.spaced_sub,<-c2];exact T1.replace_codes (r2 x) " " 10
theorem xO (c:Nat) (z:List Nat) (n:Nat) (h1:1<=n) (h:z.length<=n) (l:List Nat):(T1.sub c z l).length<=n*l.length:=T1.flat_len _ n (fun k=>by split;exact h;exact h1) l
theorem l1 (x:Str):(r1 x).length<=3*x.length:=by rw[<-T1.len_codes,<-T1.len_codes,c1];exact xO _ _ 3 (by decide) (by decide) _
theorem l2 (x:Str):(r2 x).length<=9*x.length:=by
 have h:=l1 x;have e:(r2 x).length<=3*(r1 x).length:=by rw[<-T1.len_codes,<-T1.len_codes,c2,c1];exact xO _ _ 3 (by decide) (by decide) _
 lia
theorem l3 (x:Str):(r3 x).length<=9*x.length:=by
 have h:=l2 x;have e:(r3 x).length<=1*(r2 x).length:=by rw[<-T1.len_codes,<-T1.len_codes];have e3:(r3 x).cps.toList=T1.sub 10 [32] (r2 x).cps.toList:=T1.replace_codes (r2 x) " " 10;rw[e3];exact xO _ _ 1 (by decide) (by decide) _
 lia
def ne0:V->Bool:=fun v=>!decide (v=V.str "")
theorem xP (x:Str):(((Txt.split (r3 x) " ").map V.str).filter ne0).map id=rW x.cps.toList:=by
 have e:=T1.split_codes (r3 x) 32;rw[c3]at e;have e2:T1.all (T1.W x.cps.toList)=((Txt.split (r3 x) ⟨#[32]⟩).map (·.cps.toList)).filter fun p=>decide (p≠[]):=by rw[e,T1.words_cut];rfl
 unfold rW;rw[e2,List.map_id,List.filter_map,List.filter_map,bC];show((Txt.split (r3 x) ⟨#[32]⟩).filter (ne0∘V.str)).map V.str=_;have ef:(ne0∘V.str)=((fun p=>decide (p≠[]))∘fun(y:Str)=>y.cps.toList):=by
  funext y;show(!decide (V.str y=V.str ""))=decide (y.cps.toList≠[]);by_cases h:y=("":Str);·subst h;rfl
  ·have h1:¬V.str y=V.str "":=fun z=>h (by injection z);have h2:y.cps.toList≠[]:=fun z=>h (T1.str_ext z);rw[iw h1,hV h2];rfl
 rw[ef];refine bW fun y _=>?_;show V.str y=V.str ⟨y.cps.toList.toArray⟩;rw[Array.toArray_toList]
theorem xQ (T:Txt K mg):FO P w base 1 T.d14 sv:=by
 obtain⟨oc,od,kV,doc,pm,an,cdv,ct,osl,efd,lk,hcd⟩:=T.d14.F.ex;rw[efd]at lk;show rK P w K mg base CX0 1 _ T.d14.fd _ _;rw[efd];refine GY lk hcd sj gQ (fun n=>rfl) (fun vs H Q E h=>?_) (fun A outer s H vs Q E hr h=>?_);·obtain⟨x,rfl,_⟩:=h;rfl
 obtain⟨x,rfl,hx,q⟩:=h;refine⟨_,Gg.nox (CV (i:=1) sj.nd rfl (.inl rfl) (uE (uE (uE (PE.one (pv 0)) gQ) gQ) gQ)
  (gh (gH (sN rfl (ES (x:="word") rfl gQ gQ rfl rfl) (jm (jM eW PySem.F.slot_str_split PySem.F.type_str_split CU (pv 1) (fV gu fX))) (fun _ _ _ _ _=>(A1 (jf oa (pv 0) gu))) (fun _ _ _ _ _=>(pv 0)))))),?_⟩;have h1:=l1 x;have h2:=l2 x;have h3:=l3 x;have z3:(" ( ":Str).length=3:=gQ;have z3':(" ) ":Str).length=3:=gQ;have z1:(" ":Str).length=1:=gQ;refine⟨_,rfl,x,rfl,(by rw[z3];lia),r1 x,rfl,(by rw[z3'];lia),r2 x,rfl,(by rw[z1];lia),?_⟩;refine⟨_,rfl,rfl,r3 x," ",rfl,rfl,rfl,(by have e:sizeLine=16777216:=sizeLine_eq;lia),fun p hp=>⟨p,rfl,⟨_,SqL.of fY⟩,fun D hD=>?_⟩⟩;have sp:gB H (upd H p (.lst ((Txt.split (r3 x) " ").map V.str))):=gb hp _;have hl:=rQ (r3 x) " ";refine GV (xs:=(Txt.split (r3 x) " ").map V.str) ne0 id hD ?_ ?_ ?_ ?_ ?_ ?_ ?_ ?_;·rw[aE];have e:sizeLine=16777216:=sizeLine_eq;lia
 ·rfl
 ·intro k H' hs hk;exact⟨_,_,SqL.of (hs _ _ fY),bB hk⟩
 ·intro k H' v H'' hs hv;obtain⟨e,z⟩:=hv;exact⟨e,z _ (SqL.of (hs _ _ fY))⟩
 ·intro H' hs;exact⟨_,SqL.of (hs _ _ fY),cM _⟩
 ·intro k v H' R hv _ r;obtain⟨y,rfl⟩:∃y,v=V.str y:=by rw[aO]at hv;obtain⟨y,_,e⟩:=dB.mp hv;exact⟨y,e.symm⟩
  exact⟨_,rfl,rfl,_,rfl,r⟩
 ·intro k v H' R hv _ _ r;exact⟨_,rfl,r⟩
 ·intro H' hs hl';refine q D H' (sp.trans hs) (sp.free hD) ?_;rw[hl',xP]
def qr:Sp:=fun vs H Q _=>X2 fun(x y:Str)=>Y3 (vs=[.str x,.str y]) (x.length<=30000) (∀H',gB H H'->Q (.bl (allIn x y)) H')
theorem Ab (T:Txt K mg):FO P w base 1 T.d17 qr:=by
 refine T.d17.F.rd z8 fun _ A _ s H vs Q E hr h=>?_;obtain⟨x,y,rfl,hx,q⟩:=h;refine⟨_,(gh (gH (gG (yF rfl) rfl T.z_all DS (fV (sN rfl (blk1 (x:="sign") (y:="signs") (j:=1) (c0:=s.heap.objs.size+ 1) rfl gQ gQ rfl rfl rfl rfl rfl rfl rfl) (GU (pv 0)) (fun _ _ _ _ _=>mS) (fun _ _ _ _ _=>(oh vH (pv 0) (pv 1) rfl))) fX)))),?_⟩;refine⟨_,rfl,x,rfl,fun D hD=>?_⟩;have sl:=sizeLine_eq;have ll:=T1.len_codes x;have sz':x.cps.size=x.cps.toList.length:=(fu).symm;refine GV (xs:=x.cps.toList.map fun c=>V.str ⟨#[c]⟩) (fun _=>true) (fun v=>match v with| .str z=> .bl (!(Builtin.Str.occurrences y z 0 y.length 1).isEmpty)|_=> .non) hD ?_ ?_ ?_ ?_ ?_ ?_ ?_ ?_;·rw[aE];lia
 ·rfl
 ·intro k H' hs hk;rw[aE]at hk;show k<x.cps.size;lia
 ·intro k H' v H'' hs hv;obtain⟨e,c,hc,rfl⟩:=hv;refine⟨e,?_⟩;rw[aO,fw,hc];rfl
 ·intro H' hs;show _=x.cps.size;rw[aE];lia
 ·intro k v H' R hv _ r;exact r
 ·intro k v H' R hv _ _ r;rw[aO]at hv;obtain⟨c,_,rfl⟩:=dB.mp hv;exact⟨_,rfl,_,rfl,_,_,rfl,rfl,r⟩
 ·intro H' hs hl;refine⟨D,x.cps.toList.map fun c=>decide (c∈y.cps.toList),rfl,SqL.of ?_,?_⟩;·rw[hl,List.filter_eq_self.mpr (fun _ _=>rfl),bC,bC];refine congrArg (fun l=>some (HO.lst l)) (bW fun c _=>?_);show V.bl _=V.bl _;rw[StrLaws.found_one]
  ·have e:(x.cps.toList.map fun c=>decide (c∈y.cps.toList)).all id=allIn x y:=by rw[bz];rfl
   rw[e];exact q H' hs
def nO:Sp:=fun vs H Q _=>∃x:Str,Y3 (vs=[.str x]) (x.length<=30000) (∀H',gB H H'->Q (.bl (isName x)) H')
theorem Ac (T:Txt K mg) (gD17:FO P w base 1 T.d17 qr):FO P w base 2 T.d15 nO:=by
 refine T.d15.F.rd z7 fun _ A _ s H vs Q E hr h=>?_;obtain⟨x,rfl,hx,q⟩:=h;refine⟨_,(fW (ij (PW.pt (oW (kM (oY vG vG fZ (gG qz rfl T.z_len iH (fV (pv 0) fX)) (pX rfl T.o6))) (rC (jf vU (pv 0) (CS rfl T.o4) rfl))))
   (gh (gH rB))
   gL)
  (gh (gH (tM (oh vH (gx AQ (pv 0) fZ) (CQ rfl T.o2) rfl) (rD (pF T.d17 gD17 hr.m (fV (pv 0) (fV (ic tQ (CQ rfl T.o2) (CQ rfl T.o3)) fX)))))))),?_⟩;have sl:=sizeLine_eq;refine⟨_,rfl,x,rfl,by lia,_,_,rfl,rfl,_,rfl,?_⟩;refine Iw (fun c1=>?_) (fun c1=>?_)
 ·have h1:1<=x.length:=by have z:=of_decide_eq_true c1;lia
  refine⟨_,_,rfl,rfl,_,rfl,?_⟩;by_cases c2:x.length<=12
  ·rw[show decide ((x.length:Int)<=12)=true from hV (by lia)];refine iV ⟨_,rfl,T.t4,KWV,rfl,.inr (T.r4 H),rfl,rfl,_,rfl,?_⟩;show if inV (.str x) KWV=true then _ else _
   cases ek:inV (.str x) KWV with
   |true=>
    refine jl ?_;have e:isName x=false:=by unfold isName;rw[ek];simp
    rw[<-e];exact q H (gB.refl H)
   |false=>
    refine iV ?_;obtain⟨c,r,ec⟩:=first_of h1;refine⟨_,rfl,x,_,c,rfl,rfl,by lia,by rw[ec];exact at0,_,_,rfl,rfl,_,rfl,?_⟩;have ef:(!(Builtin.Str.occurrences ("abcdefghijklmnopqrstuvwxyz":Str) ⟨#[c]⟩ 0 ("abcdefghijklmnopqrstuvwxyz":Str).length 1).isEmpty)=firstIn x SM:=by rw[StrLaws.found_one];unfold firstIn;rw[ec];rfl
    rw[ef]
    cases e1:firstIn x SM with
    |false=>
     refine iV ?_;have e:isName x=false:=by unfold isName;rw[e1];simp
     rw[<-e];exact q H (gB.refl H)
    |true=>
     refine jl ⟨_,rfl,_,_,rfl,rfl,?_,_,_,rfl,?_,fun H' hs=>?_⟩;·exact cH (show(26:Nat)+ 10<=100 by decide) (sz (cM _)|>cH (by decide))
     ·lia
     ·have e:isName x=allIn x (SM++FG):=by unfold isName;rw[e1,ek,hV h1,hV c2];rfl
      have q':=q H' hs;rw[e]at q';exact q'
  ·rw[show decide ((x.length:Int)<=12)=false from iw (by lia)];refine jl ?_;have e:isName x=false:=by unfold isName;rw[iw c2];simp
   show if true=true then _ else _;refine jl ?_;rw[<-e];exact q H (gB.refl H)
 ·have h1:¬1<=x.length:=by intro z;exact c1 (hV (by lia))
  refine⟨_,rfl,jl ?_⟩;show if true=true then _ else _;refine jl ?_;have e:isName x=false:=by unfold isName;rw[iw h1];simp
  rw[<-e];exact q H (gB.refl H)
def ny:Sp:=fun vs H Q _=>∃x:Str,Y3 (vs=[.str x]) (x.length<=30000) (∀H',gB H H'->Q (.bl (jy x)) H')
theorem wA (T:Txt K mg) (gD17:FO P w base 1 T.d17 qr):FO P w base 2 T.d16 ny:=by
 refine T.d16.F.rd wu fun _ A _ s H vs Q E hr h=>?_;obtain⟨x,rfl,hx,q⟩:=h;refine⟨_,(fW (ij (PW.pt (oW (kM (oY vG vG fZ (gG qz rfl T.z_len iH (fV (pv 0) fX)) (pX rfl T.o5))) (rC (kM (jA (pF T.d17 gD17 hr.m (fV (pv 0) (fV (CQ rfl T.o3) fX))))))))
   (gh (gH rB))
   gL)
  (gh (gH (IF (oh oa (gx AQ (pv 0) fZ) gu) (rD (oh uq (pv 0) gu)))))),?_⟩;have sl:=sizeLine_eq;refine⟨_,rfl,x,rfl,by lia,_,_,rfl,rfl,_,rfl,?_⟩;refine Iw (fun c1=>?_) (fun c1=>?_)
 ·have h1:1<=x.length:=by have z:=of_decide_eq_true c1;lia
  refine⟨_,_,rfl,rfl,_,rfl,?_⟩;by_cases c2:x.length<=60
  ·rw[show decide ((x.length:Int)<=60)=true from hV (by lia)];refine iV ⟨_,rfl,x,_,rfl,hx,fun H' hs=>⟨_,rfl,?_⟩⟩;show if(!allIn x FG)=true then _ else _
   cases e1:allIn x FG with
   |false=>
    refine jl ?_;have e:jy x=false:=by unfold jy;rw[e1];simp
    rw[<-e];exact q H' hs
   |true=>
    refine iV ?_;obtain⟨c,r,ec⟩:=first_of h1;refine⟨_,rfl,x,_,c,rfl,rfl,by lia,by rw[ec];exact at0,rfl,_,rfl,?_⟩;have ef:rX x=(c==48):=by unfold rX;rw[ec]
    rw[E7,<-ef]
    cases e2:rX x with
    |false=>
     refine jl ?_;have e:jy x=true:=by unfold jy;rw[e1,e2,hV h1,hV c2];rfl
     rw[<-e];exact q H' hs
    |true=>
     refine iV ⟨_,rfl,rfl,?_⟩;have e:jy x=decide (V.str x=V.str "0"):=by
      unfold jy;rw[e1,e2,hV h1,hV c2];by_cases h0:x="0";·subst h0;rfl
      ·have h1:¬V.str x=V.str "0":=fun z=>h0 (by injection z);rw[iw h0,iw h1];rfl
     rw[<-e];exact q H' hs
  ·rw[show decide ((x.length:Int)<=60)=false from iw (by lia)];refine jl ?_;have e:jy x=false:=by unfold jy;rw[iw c2];simp
   show if true=true then _ else _;refine jl ?_;rw[<-e];exact q H (gB.refl H)
 ·have h1:¬1<=x.length:=by intro z;exact c1 (hV (by lia))
  refine⟨_,rfl,jl ?_⟩;show if true=true then _ else _;refine jl ?_;have e:jy x=false:=by unfold jy;rw[iw h1];simp
  rw[<-e];exact q H (gB.refl H)
def lH (C:Zx):Sp:=fun vs H Q _=>X4 fun(p dx wl:Zx) (ws:Zd)=>Y4 (vs=[.ref p,.ref wl]) (H p=some (.ins C dx [])) (H wl=some (.lst (ws.map V.str))) (∀(rl:Zx) (H':Hp),H rl=none->pk C H' p dx wl rl ws 0 []->(∀b o,H b=some o->b≠p->H' b=some o)->Q .non H')
theorem pE (T:Txt K mg):MO P w base mg 1 T.e59 (lH T.c8.a):=by
 refine T.e59.F.rd pC fun _ A _ s H vs Q E hr h=>?_;obtain⟨p,dx,wl,ws,rfl,hp,hw,k⟩:=h;refine⟨_,(fW (jc (pv 0) (pv 1) rfl)
  (fW (jc (pv 0) fZ rfl)
  (gh (jc (pv 0) (gR fX) rfl)))),?_⟩;have pw:wl≠p:=kS hw hp (fun z=>nomatch z);refine⟨_,rfl,_,rfl,p,T.c8.a,dx,[],rfl,hp,T.c8.cl,T.n8words,(by show 0<1000;decide),?_⟩;refine⟨_,rfl,p,T.c8.a,dx,_,rfl,fY,T.c8.cl,T.n8taken,(by show 1<1000;decide),?_⟩;refine⟨qL,fun rl hrl=>?_⟩;have nrl:p≠rl:=gm fY hrl;rw[gr (Ne.symm nrl),gr (Ne.symm nrl)]at hrl;refine⟨_,rfl,p,T.c8.a,dx,_,rfl,by rw[gr nrl];exact fY,T.c8.cl,T.n8rows,(by show 2<1000;decide),?_⟩;have wrl:wl≠rl:=gm hw hrl;refine k rl _ hrl ⟨?_,?_,?_,wrl⟩ fun b o e hb=>?_;·rw[fY];exact congrArg (fun l=>some (HO.ins T.c8.a dx l)) (Jp wl 0 rl)
 ·rw[gr pw,gr wrl,gr pw,gr pw];exact hw
 ·rw[gr (Ne.symm nrl)];exact fY
 ·rw[gr hb,gr (gm e hrl),gr hb,gr hb];exact e
def iI (C:Zx):Sp:=fun vs H Q _=>X7 fun(p dx wl rl:Zx) (ws:Zd) (k:Nat) (rows:List V)=>Y5 (vs=[.ref p]) (pk C H p dx wl rl ws k rows) (WOk ws) (k<=ws.length) (Q (.str (ws.getD k "")) H)
theorem sx (T:Txt K mg):MO P w base mg 1 T.e60 (iI T.c8.a):=by
 refine T.e60.F.rd su fun _ A _ s H vs Q E hr h=>?_;obtain⟨p,dx,wl,rl,ws,k,rows,rfl,R,W,hk,q⟩:=h;refine⟨_,(fW (ij (jf uq (oZ (pv 0) rfl) (gG gA rfl T.z_len iH (fV (oZ (pv 0) rfl) fX)))
   (gh (gH gu))
   gL)
  (gh (gH (gx AO (oZ (pv 0) rfl) (oZ (pv 0) rfl))))),?_⟩;refine⟨_,rfl,p,_,dx,_,_,rfl,R.ob,T.c8.cl,T.n8taken,uL _ _ _,_,rfl,p,_,dx,_,_,rfl,R.ob,T.c8.cl,T.n8words,yQ _ _ _,wl,_,rfl,.inl (SqL.of R.wd),rfl,_,rfl,Iw (fun c=>?_) (fun c=>?_)⟩
 ·have z:=of_decide_eq_true c;injection z with z;rw[aE]at z;have e:ws.getD k ""="":=by rw[bq,bF (by lia)];rfl
  rw[e]at q;exact q
 ·have hlt:k<ws.length:=by
   by_cases z:k<ws.length;·exact z
   ·refine absurd (hV ?_) c;rw[aE];exact congrArg V.int (by lia)
  have e:ws.getD k ""=ws[k]:=by rw[bq,bB hlt];rfl
  rw[e]at q;refine⟨_,rfl,p,_,dx,_,_,rfl,R.ob,T.c8.cl,T.n8words,yQ _ _ _,_,rfl,p,_,dx,_,_,rfl,R.ob,T.c8.cl,T.n8taken,uL _ _ _,wl,_,_,_,rfl,rfl,SqL.of R.wd,gj (j:=k) (v:= .str ws[k]) ?_,q⟩;rw[aO,bB hlt];rfl
def jd (C CB:Zx):Sp:=fun vs H Q E=>X7 fun(p dx wl rl:Zx) (ws:Zd) (k:Nat) (rows:List V)=>Y6 (vs=[.ref p]) (pk C H p dx wl rl ws k rows) (WOk ws) (k<=ws.length) (
 (∀x,ws[k]?=some x->Q (.str x) (upd H p (.ins C dx (fR wl ((k+ 1:Nat):Int) rl))))) ((ws[k]?=none->E (.ref CB) none H))
theorem sU (T:Txt K mg) (gE60:MO P w base mg 1 T.e60 (iI T.c8.a)):ME P w base mg 2 T.e61 (jd T.c8.a T.c2.a):=by
 refine T.e61.F.okE nX (fun vs H Q E h=>?_) (fun _ A _ s H vs Q E hr h=>?_);·obtain⟨p,dx,wl,rl,ws,k,rows,rfl,_⟩:=h;rfl
 obtain⟨p,dx,wl,rl,ws,k,rows,rfl,R,W,hk,q,qe⟩:=h;refine⟨_,(fW (pS (i:=1) nX.nd (ju (pv 0) T.c8.cl T.e60.me gE60 hr.m T.e60.b .nil jB))
  (fW (ij (jf uq (pv 1) gu)
   (gh (kQ rfl lZ T.x2 rfl T.c2.m (fV gu fX)))
   gL)
  (fW (vK (pv 0) fZ DP)
  (gh (gH (pv 1)))))),?_⟩;refine⟨_,rfl,p,dx,_,rfl,R.ob,Dg _ _ _ gQ gQ gQ,p,dx,wl,rl,ws,k,rows,rfl,R,W,hk,?_⟩;refine⟨_,rfl,rfl,_,rfl,Iw (fun c=>?_) (fun c=>?_)⟩
 ·refine⟨rp,qe ?_⟩
  cases e:ws[k]? with
  |none=>rfl
  |some x=>have z:=of_decide_eq_true c;injection z with z;rw[bq,e]at z;exact absurd z (W.one x (aP e)).1
 ·cases e:ws[k]? with
  |none=>refine absurd (hV (congrArg V.str ?_)) c;rw[bq,e];rfl
  |some x=>
   have ex:ws.getD k ""=x:=by rw[bq,e];rfl
   rw[ex];refine⟨_,rfl,p,_,dx,_,_,rfl,R.ob,T.c8.cl,T.n8taken,uL _ _ _,_,_,rfl,rfl,dx,_,R.ob,(by show 3<1000;decide),_,rfl,?_⟩;have q':=q x e;rw[<-Hg wl (k:Int) _ rl]at q';exact q'
def iQ (C CB:Zx):Sp:=fun vs H Q E=>X8 fun(p dx wl rl:Zx) (ws:Zd) (k:Nat) (rows:List V) (y:Str)=>Y8 (vs=[.ref p,.str y]) (pk C H p dx wl rl ws k rows) (WOk ws) (k<=ws.length) ((reprText y).length<=300002) (
 (ws[k]?=some y->Q .non (upd H p (.ins C dx (fR wl ((k+ 1:Nat):Int) rl))))) ((ws[k]?=none->E (.ref CB) none H)) ((∀x,ws[k]?=some x->x≠y->E (.ref CB) none (upd H p (.ins C dx (fR wl ((k+ 1:Nat):Int) rl)))))
theorem oH (T:Txt K mg) (gE61:ME P w base mg 2 T.e61 (jd T.c8.a T.c2.a)):ME P w base mg 3 T.e62 (iQ T.c8.a T.c2.a):=by
 refine T.e62.F.okE lA (fun vs H Q E h=>?_) (fun _ A _ s H vs Q E hr h=>?_);·obtain⟨p,dx,wl,rl,ws,k,rows,y,rfl,_⟩:=h;rfl
 obtain⟨p,dx,wl,rl,ws,k,rows,y,rfl,R,W,hk,hy,q,qe,qx⟩:=h;refine⟨_,(fW (pS (i:=2) lA.nd (ju (pv 0) T.c8.cl T.e61.me gE61 hr.m T.e61.b .nil kB))
  (gh (ij (jf oa (pv 2) (pv 1))
   (gh (kQ rfl lZ T.x2 rfl T.c2.m (fV (mU (iJ (vZ (pv 2)) (iJ gu (iJ (vZ (pv 1)) (iJ gu qB))))) fX)))
   gL))),?_⟩;have sl:=sizeLine_eq;refine⟨_,rfl,p,dx,_,rfl,R.ob,Dg _ _ _ gQ gQ gQ,p,dx,wl,rl,ws,k,rows,rfl,R,W,hk,fun x hx=>?_,qe⟩;refine⟨_,rfl,_,rfl,rfl,_,rfl,?_⟩;by_cases e:x=y;·subst e;exact Ja rfl (q hx)
 ·have ne:¬V.str x=V.str y:=fun z=>e (by injection z);rw[iw ne];have hr:=pA W (aP hx);refine jl ⟨_,rfl,x,rfl,by lia,_,rfl,?_,_,rfl,?_,_,rfl,y,rfl,by lia,_,rfl,?_,_,rfl,?_,?_,rp,qx x hx e⟩;·exact Iy hr
  ·exact E9 hr gQ
  ·exact cat3 hr gQ hy
  ·exact Ko hr gQ hy gQ
  ·exact Ko hr gQ hy gQ
def iR (C CB:Zx):Sp:=fun vs H Q E=>X7 fun(p dx wl rl:Zx) (ws:Zd) (k:Nat) (rows:List V)=>Y7 (vs=[.ref p]) (pk C H p dx wl rl ws k rows) (WOk ws) (k<=ws.length) (
 (∀x H',ws[k]?=some x->isName x=true->gB (upd H p (.ins C dx (fR wl ((k+ 1:Nat):Int) rl))) H'->Q (.str x) H')) ((ws[k]?=none->E (.ref CB) none H)) (
 (∀x H',ws[k]?=some x->isName x=false->gB (upd H p (.ins C dx (fR wl ((k+ 1:Nat):Int) rl))) H'->E (.ref CB) none H'))
theorem oJ (T:Txt K mg) (gE61:ME P w base mg 2 T.e61 (jd T.c8.a T.c2.a)) (gD15:FO P w base 2 T.d15 nO):
  ME P w base mg 3 T.e63 (iR T.c8.a T.c2.a):=by
 refine T.e63.F.okE lB (fun vs H Q E h=>?_) (fun _ A _ s H vs Q E hr h=>?_);·obtain⟨p,dx,wl,rl,ws,k,rows,rfl,_⟩:=h;rfl
 obtain⟨p,dx,wl,rl,ws,k,rows,rfl,R,W,hk,q,qe,qx⟩:=h;refine⟨_,(fW (pS (i:=1) lB.nd (ju (pv 0) T.c8.cl T.e61.me gE61 hr.m T.e61.b .nil kB))
  (fW (ij (kM (jA (pF T.d15 gD15 hr.m (fV (pv 1) fX))))
   (gh (kQ rfl lZ T.x2 rfl T.c2.m (fV (mU (iJ (vZ (pv 1)) (iJ gu qB))) fX)))
   gL)
  (gh (gH (pv 1))))),?_⟩;have sl:=sizeLine_eq;refine⟨_,rfl,p,dx,_,rfl,R.ob,Dg _ _ _ gQ gQ gQ,p,dx,wl,rl,ws,k,rows,rfl,R,W,hk,fun x hx=>?_,qe⟩;have hm:=aP hx;refine⟨_,rfl,x,rfl,(W.one x hm).2.1,fun H' hs=>⟨_,rfl,?_⟩⟩
 cases e:isName x with
 |true=>exact iV ⟨_,rfl,q x H' hx e hs⟩
 |false=>
  have hr:=pA W hm;refine jl ⟨_,rfl,x,rfl,by lia,_,rfl,?_,_,rfl,?_,?_,rp,qx x H' hx e hs⟩;·exact Iy hr
  ·exact E9 hr gQ
  ·exact E9 hr gQ
section
variable {C CB p dx wl rl:Zx} {H:Hp} {ws rest:Zd} {rows:List Dt} {Q:VK} {E:XK}
theorem Dq (R:RS K C H p dx wl rl ws rest rows) (W:WOk ws) (q:Q (.str (rest.headD "")) H):iI C [.ref p] H Q E:=by
 obtain⟨k,rv,R,h1,h2,h3⟩:=R;refine⟨p,dx,wl,rl,ws,k,rv,rfl,R,W,h2,?_⟩;have e:ws.getD k ""=rest.headD "":=by rw[<-h1,bq,bX,bY]
 rw[e];exact q
theorem RS.step1 {k:Nat} {rv:List V} {x:Str} {r:Zd} {H':Hp} (R:pk C H p dx wl rl ws k rv) (h1:ws.drop k=x::r) (h3:lR K H rv rows) (s:gB (upd H p (.ins C dx (fR wl ((k+ 1:Nat):Int) rl))) H'):RS K C H' p dx wl rl ws r rows/\K2 p rl H H':=by obtain⟨e1,e2,e3⟩:=kW h1;have kk:K2 p rl H H':=(K2.upd1 (K2.refl p rl H) _).trans (gB.k2 s);exact⟨⟨k+ 1,rv,(R.next (k+ 1)).same s,e2,by lia,h3.mono fun a xs t=>pk.tpT R kk t⟩,kk⟩
theorem Hq (R:RS K C H p dx wl rl ws rest rows) (W:WOk ws) (q:∀x r H',rest=x::r->RS K C H' p dx wl rl ws r rows->K2 p rl H H'->Q (.str x) H') (qe:rest=[]->E (.ref CB) none H):jd C CB [.ref p] H Q E:=by
 obtain⟨k,rv,R,h1,h2,h3⟩:=R;refine⟨p,dx,wl,rl,ws,k,rv,rfl,R,W,h2,fun x hx=>?_,fun hx=>?_⟩
 ·cases e:rest with
  |nil=>rw[e]at h1;rw[uQ h1]at hx;cases hx
  |cons y r=>rw[e]at h1;have ey:y=x:=dw.inj ((kW h1).1.symm.trans hx);subst ey;obtain⟨a,b⟩:=RS.step1 R h1 h3 (gB.refl _);exact q y r _ e a b
 ·cases e:rest with
  |nil=>exact qe e
  |cons y r=>rw[e]at h1;rw[(kW h1).1]at hx;cases hx
theorem Dr {y:Str} (R:RS K C H p dx wl rl ws rest rows) (W:WOk ws) (hy:(reprText y).length<=300002) (q:∀r H',rest=y::r->RS K C H' p dx wl rl ws r rows->K2 p rl H H'->Q .non H') (qe:rest.head?≠some y->∀H',K2 p rl H H'->E (.ref CB) none H'):iQ C CB [.ref p,.str y] H Q E:=by
 obtain⟨k,rv,R,h1,h2,h3⟩:=R;refine⟨p,dx,wl,rl,ws,k,rv,y,rfl,R,W,h2,hy,fun hx=>?_,fun hx=>?_,fun x hx ne=>?_⟩
 ·cases e:rest with
  |nil=>rw[e]at h1;rw[uQ h1]at hx;cases hx
  |cons z r=>rw[e]at h1;have ey:z=y:=dw.inj ((kW h1).1.symm.trans hx);subst ey;obtain⟨a,b⟩:=RS.step1 R h1 h3 (gB.refl _);exact q r _ e a b
 ·refine qe (fun z=>?_) H (K2.refl _ _ _);rw[<-h1,bY,hx]at z;cases z
 ·refine qe (fun z=>?_) _ (K2.upd1 (K2.refl _ _ _) _);rw[<-h1,bY,hx]at z;exact ne (dw.inj z)
theorem Hr (R:RS K C H p dx wl rl ws rest rows) (W:WOk ws) (q:∀x r H',rest=x::r->isName x=true->RS K C H' p dx wl rl ws r rows->K2 p rl H H'->Q (.str x) H') (qe:(∀x r,rest=x::r->isName x=false)->∀H',K2 p rl H H'->E (.ref CB) none H'):iR C CB [.ref p] H Q E:=by
 obtain⟨k,rv,R,h1,h2,h3⟩:=R;refine⟨p,dx,wl,rl,ws,k,rv,rfl,R,W,h2,fun x H' hx hn s=>?_,fun hx=>?_,fun x H' hx hn s=>?_⟩
 ·cases e:rest with
  |nil=>rw[e]at h1;rw[uQ h1]at hx;cases hx
  |cons z r=>rw[e]at h1;have ey:z=x:=dw.inj ((kW h1).1.symm.trans hx);subst ey;obtain⟨a,b⟩:=RS.step1 R h1 h3 s;exact q z r _ e hn a b
 ·refine qe (fun x r e=>?_) H (K2.refl _ _ _);rw[e]at h1;rw[(kW h1).1]at hx;cases hx
 ·refine qe (fun y r e=>?_) H' ((K2.upd1 (K2.refl _ _ _) _).trans (gB.k2 s));rw[e]at h1;have ey:y=x:=dw.inj ((kW h1).1.symm.trans hx);rw[ey];exact hn
end
def je (CB:Zx):Sp:=fun vs H Q E=>X4 fun(x:Str) (n a b:Nat)=>Y7 (vs=[.str x,.int n,.int a,.int b]) (x.length<=100) (n<=100000) (a<=100) (b<=100) ((a<=n/\n<=b->Q .non H)) ((¬(a<=n/\n<=b)->E (.ref CB) none H))
theorem pG {n:Nat} (h:n<=100000):(n:Int).natAbs.log2<1920/\(PySem.Str.ofString (toString (n:Int))).length<=6:=by have s70:(100000:Int)<10^70:=gQ;refine⟨Hh (by lia) (by lia),?_⟩;have z:=(str_fig (n:=(n:Int)) (k:=5) (by lia) (by have e:(10:Int)^(5+ 1)=1000000:=gQ;rw[e];lia)).2.2;exact z
theorem sV (T:Txt K mg):FE P w base 1 T.d19 (je T.c2.a):=by
 refine T.d19.F.okE sR (fun vs H Q E h=>?_) (fun _ A _ s H vs Q E hr h=>?_);·obtain⟨x,n,a,b,rfl,_⟩:=h;rfl
 obtain⟨x,n,a,b,rfl,hx,hn,ha,hb,q,qe⟩:=h;refine⟨_,(gh (ij (kM (oY vG vG (pv 2) (pv 1) (pv 3)))
   (gh (kQ rfl lZ T.x2 rfl T.c2.m (fV (mU (iJ (xC (pv 1)) (iJ gu (iJ (xC (pv 0)) (iJ gu (iJ (xC (pv 2)) (iJ gu (iJ (xC (pv 3)) (iJ gu qB))))))))) fX)))
   gL)),?_⟩;have sl:=sizeLine_eq;have nn:=pG hn;have na:=pG (show a<=100000 by lia);have nb:=pG (show b<=100000 by lia);have fail:¬(a<=n/\n<=b)->DW T.c2.a E (oi ((tJ (tFV (Gf 1)) (tJ (tC (V.str " ")) (tJ (tFV (Gf 0)) (tJ (tC (V.str ": ")) (tJ (tFV (Gf 2)) (tJ (tC (V.str " to ")) (tJ (tFV (Gf 3)) (tJ (tC (V.str " may be")) tJ0)))))))) Str.empty) AF) {nx:=fun _ H'=>Q .non H',rt:=Q} [some (.str x),some (.int n),some (.int a),some (.int b)] H:=fun hz=>by refine⟨_,rfl,.inr ⟨_,rfl,nn.1,_,rfl,?_,_,rfl,?_,_,rfl,.inl ⟨x,rfl,by lia,_,rfl,?_,_,rfl,?_,_,rfl,.inr ⟨_,rfl,na.1,_,rfl,?_,_,rfl,?_,_,rfl,.inr ⟨_,rfl,nb.1,_,rfl,?_,_,rfl,?_,?_,rp,qe hz⟩⟩⟩⟩⟩;all_goals simp only[Str.length_append];have e0:Str.empty.length=0:=rfl;have e1:(" ":Str).length=1:=gQ;have e2:(": ":Str).length=2:=gQ;have e3:(" to ":Str).length=4:=gQ;have e4:(" may be":Str).length=7:=gQ;lia
 refine⟨_,rfl,_,rfl,_,_,rfl,rfl,_,rfl,?_⟩;by_cases h1:a<=n
 ·rw[show decide ((a:Int)<=(n:Int))=true from hV (by lia)];refine jl ⟨_,rfl,_,_,rfl,rfl,_,rfl,?_⟩;by_cases h2:n<=b;·rw[show decide ((n:Int)<=(b:Int))=true from hV (by lia)];exact iV (q ⟨h1,h2⟩)
  ·rw[show decide ((n:Int)<=(b:Int))=false from iw (by lia)];exact jl (fail fun z=>h2 z.2)
 ·rw[show decide ((a:Int)<=(n:Int))=false from iw (by lia)];exact iV ⟨_,rfl,jl (fail fun z=>h1 z.1)⟩
def Fj (K:Zp) (C CB:Zx) (f:Nat):Sp:=fun vs H Q E=>X7 fun(p dx wl rl:Zx) (ws rest:Zd) (rows:List Dt)=>Y6 (vs=[.ref p,.int (25-(f:Int))]) (RS K C H p dx wl rl ws rest rows) (WOk ws) (rows.length<=160) (
 (∀r rows' H',gP f rest rows=some (r,rows')->RS K C H' p dx wl rl ws r rows'->K2 p rl H H'->Q (.int (rows.length:Int)) H')) ((gP f rest rows=none->∀H',K2 p rl H H'->E (.ref CB) none H'))
def pV (b:Bool):V:=if b then .str "name" else .str "expr"
def IA (K:Zp) (C CB:Zx) (f:Nat):Sp:=fun vs H Q E=>X9 fun(p dx wl rl pt:Zx) (ws rest:Zd) (rows:List Dt) (ps:List Bool)=>Y8 (vs=[.ref p,.ref pt,.int (25-(f:Int))]) (RS K C H p dx wl rl ws rest rows) (WOk ws) (rows.length<=160) (SqT K H pt (ps.map pV)) (ps.length<=3) (
 (∀ds r rows' t H',gM (gP f) ps [] rest rows=some (ds,r,rows')->RS K C H' p dx wl rl ws r rows'->K2 p rl H H'->TAt K H' (.ref t) (.tup ds)->Q (.ref t) H')) ((gM (gP f) ps [] rest rows=none->∀H',K2 p rl H H'->E (.ref CB) none H'))
def Gk (K:Zp) (C CB:Zx) (f:Nat) (item:List Str->List Dt->Option (Dt×Rs)) (lo hi:Nat):Sp:=fun vs H Q E=>X7 fun(p dx wl rl:Zx) (ws rest:Zd) (rows:List Dt)=>Y6 (vs=[.ref p,.int (25-(f:Int))]) (RS K C H p dx wl rl ws rest rows) (WOk ws) (rows.length<=160) (
 (∀l r rows' t H',chk lo hi (jb item rest rows [])=some (l,r,rows')->RS K C H' p dx wl rl ws r rows'->K2 p rl H H'->TAt K H' (.ref t) (.tup l)->Q (.ref t) H')) ((chk lo hi (jb item rest rows [])=none->∀H',K2 p rl H H'->E (.ref CB) none H'))
theorem BB (T:Txt K mg) (f:Nat)
  (gE63:ME P w base mg 3 T.e63 (iR T.c8.a T.c2.a))
  (gE64:ME P w base mg (5*f+ 5) T.e64 (Fj K T.c8.a T.c2.a f)):
  ME P w base mg (5*f+ 6) T.e67 (IA K T.c8.a T.c2.a f):=by
 refine T.e67.F.okE jr (fun vs H Q E h=>?_) (fun _ A _ s H vs Q E hr h=>?_);·obtain⟨p,dx,wl,rl,pt,ws,rest,rows,ps,rfl,_⟩:=h;rfl
 obtain⟨p,dx,wl,rl,pt,ws,rest,rows,ps,rfl,R,W,hrows,hpt,hps,q,qe⟩:=h;refine⟨_,(fW (pS (i:=3) jr.nd (gR fX))
  (fW (jk PassesOwn.leaving rfl (tN (pv 1)) (pN (i:=4) jr.nd)
   (gh (ij (jf uq (pv 4) gu)
    (gh (gK (jM eX eY eZ gS (pv 3) (fV (ju (pv 0) T.c8.cl T.e63.me gE63 (hr.mono (by lia)) T.e63.b .nil kB) fX))))
    (gh (gK (jM eX eY eZ gS (pv 3) (fV (gZ (pv 0) T.c8.cl T.e64.me gE64 (hr.mono (by lia)) T.e64.b .nil kB (fV (pv 2) fX)) fX)))))))
  (gh (gH (jL jx rfl T.z_tuple jW (fV (pv 3) fX)))))),?_⟩;have sl:=sizeLine_eq;refine⟨qL,fun fl hfl=>?_⟩;have ep:=jn f;have R0:=R.same (gb hfl (.lst []));have fp:fl≠p:=by obtain⟨k,hk⟩:=R.ob;exact Ne.symm (gm hk hfl)
 have frl:fl≠rl:=by obtain⟨rv,hk,_⟩:=R.len;exact Ne.symm (gm hk hfl)
 have fwl:fl≠wl:=by obtain⟨k,rv,R',_⟩:=R;exact Ne.symm (gm R'.wd hfl)
 have hpt0:SqT K (upd H fl (.lst [])) pt (ps.map pV):=by
  rcases hpt with t|t
  ·refine .inl ?_;rcases t with t|⟨o',t⟩;·exact .inl (by rw[gr (gm t hfl)];exact t)
   ·exact .inr ⟨o',by rw[gr (gm t hfl)];exact t⟩
  ·exact .inr t
 refine⟨_,rfl,pt,rfl,⟨_,hpt0⟩,xm (K:=K) (a:=pt) (xs:=ps.map pV) (fun i σ H2=>X5 fun(o:Option V) (acc:List Dt) (fv:List V) (rest2:Zd) (rows2:List Dt)=>
   Y9 (σ=[some (.ref p),some (.ref pt),some (.int (25-(f:Int))),some (.ref fl),o]) (SqT K H2 pt (ps.map pV)) (RS K T.c8.a H2 p dx wl rl ws rest2 rows2) (K2 p rl H H2) (H2 fl=some (.lst fv)) (lR K H2 fv acc) (acc.length=i) (rows2.length<=160) (
   gM (gP f) ps [] rest rows=gM (gP f) (ps.drop i) acc rest2 rows2))
  ⟨none,[],[],rest,rows,rfl,hpt0,R0,gB.k2 (gb hfl _),fY,.nil,rfl,hrows,rfl⟩ (fun i σ H2 _ ⟨_,_,_,_,_,_,z,_,_,_,_,_,_,_⟩=>z) ?_ ?_⟩
 ·rintro i y σ H2 hi ⟨o,acc,fv,rest2,rows2,rfl,hpt2,R2,k2,hfl2,tf,hacc,hr2,heq⟩;rw[aO]at hi;obtain⟨b,hb,rfl⟩:=dB.mp hi;have hlt:i<ps.length:=(au.mp hb).1;have ed:ps.drop i=b::ps.drop (i+ 1):=by rw[bN hlt];rw[(au.mp hb).2]
  rw[ed]at heq;have lf:fv.length<sizeLine:=by rw[tf.length];lia
  cases b with
  |true=>
   refine⟨_,rfl,rfl,_,rfl,?_⟩;rw[show decide (pV true=V.str "name")=true by decide+kernel];obtain⟨k',hk⟩:=R2.ob;refine jl ⟨_,rfl,.inl ⟨rfl,_,SqL.of hfl2⟩,_,rfl,p,dx,_,rfl,hk,iN _ _ _ _ (by simp),?_⟩;refine tn0 ?_;refine Hr R2 W (fun x r H3 e hn R3 k3=>?_) (fun hno H3 k3=>?_);·have h3:H3 fl=some (.lst fv):=k3 _ _ hfl2 fp frl;refine⟨fl,fv,_,rfl,rfl,h3,lf,_,acc++[.flat (.str x)],fv++[.str x],r,rows2,rfl,wc h3 (R2.sqt k3 hpt2),R3.other h3 fp fwl frl,we hfl (k2.trans k3),fY,((R2.tats k3 tf).snoc (.flat rfl)).other h3,(by rw[aQ,hacc];rfl),hr2,?_⟩;rw[heq,e,gM,gY hn]
   ·refine qe ?_ H3 (k2.trans k3);rw[heq]
    cases rest2 with
    |nil=>rw[gM]
    |cons x r=>rw[gM,gJ (by rw[hno x r rfl];exact fg)]
  |false=>
   refine⟨_,rfl,rfl,_,rfl,?_⟩;rw[show decide (pV false=V.str "name")=false by decide+kernel];obtain⟨k',hk⟩:=R2.ob;refine iV ⟨_,rfl,.inl ⟨rfl,_,SqL.of hfl2⟩,_,rfl,p,dx,_,rfl,hk,iN _ _ _ _ (by simp),_,rfl,p,dx,wl,rl,ws,rest2,rows2,rfl,R2,W,hr2,fun r rows' H3 e R3 k3=>?_,fun e H3 k3=>?_⟩;·have h3:H3 fl=some (.lst fv):=k3 _ _ hfl2 fp frl;refine⟨fl,fv,_,rfl,rfl,h3,lf,_,acc++[.flat (.int (rows2.length:Int))],fv++[.int (rows2.length:Int)],r,rows',rfl,wc h3 (R2.sqt k3 hpt2),R3.other h3 fp fwl frl,we hfl (k2.trans k3),fY,((R2.tats k3 tf).snoc (.flat rfl)).other h3,(by rw[aQ,hacc];rfl),(ep _ _ _ e).1.most hr2,?_⟩;rw[heq,gM,e]
   ·refine qe ?_ H3 (k2.trans k3);rw[heq,gM,e]
 ·rintro σ H2 ⟨o,acc,fv,rest2,rows2,rfl,hpt2,R2,k2,hfl2,tf,hacc,hr2,heq⟩;rw[aE,bZ,gM]at heq;refine⟨_,rfl,fl,fv,rfl,.inl ⟨SqL.of hfl2,fun t ht=>?_⟩⟩;have s:=gb ht (.tup fv);exact q acc rest2 rows2 t _ heq (R2.same s) (k2.trans (gB.k2 s)) (.tup fY (R2.tats (gB.k2 s) tf))
theorem BC (T:Txt K mg) (f:Nat)
  (gE60:MO P w base mg 1 T.e60 (iI T.c8.a))
  (gE67:ME P w base mg (5*f+ 6) T.e67 (IA K T.c8.a T.c2.a f))
  (gD19:FE P w base 1 T.d19 (je T.c2.a)):
  ME P w base mg (5*f+ 7) T.e68 (Gk K T.c8.a T.c2.a f (iZ (gP f) [true,false]) 0 6):=by
 refine T.e68.F.okE kF (fun vs H Q E h=>?_) (fun _ A _ s H vs Q E hr h=>?_);·obtain⟨p,dx,wl,rl,ws,rest,rows,rfl,_⟩:=h;rfl
 obtain⟨p,dx,wl,rl,ws,rest,rows,rfl,R,W,hrows,q,qe⟩:=h;refine⟨_,(fW (pS (i:=2) kF.nd (gR fX))
  (fW (oX PassesOwn.leaving (jf oa (ju (pv 0) T.c8.cl T.e60.me gE60 (hr.mono (by lia)) T.e60.b .nil jB) gu)
   (gh (gK (jM eX eY eZ gS (pv 2) (fV (gZ (pv 0) T.c8.cl T.e67.me gE67 (hr.mono (by lia)) T.e67.b .nil kB (fV (ik (fV gu (fV gu fX))) (fV (pv 1) fX))) fX)))))
  (fW (gK (pR gD19 (hr.mono (by lia)) rfl T.d19.m T.d19.k T.d19.b .nil kB (fV gu (fV (gG gA rfl T.z_len iH (fV (pv 2) fX)) (fV fZ (fV (pX rfl T.o8) fX))))))
  (gh (gH (jL jx rfl T.z_tuple jW (fV (pv 2) fX))))))),?_⟩;have sl:=sizeLine_eq;refine⟨qL,fun fl hfl=>?_⟩;have ep:=jn f;have gi:wb (iZ (gP f) [true,false]):=lV ep _ (by simp);have R0:=R.same (gb hfl (.lst []));obtain⟨fp,frl,fwl⟩:=R.apart hfl;have hs0:=R.short;have hs1:=W.len;refine⟨fun m σ H2=>X4 fun(acc:List Dt) (fv:List V) (rest2:Zd) (rows2:List Dt)=>Y9 (m=rest2.length) (σ=[some (.ref p),some (.int (25-(f:Int))),some (.ref fl)]) (RS K T.c8.a H2 p dx wl rl ws rest2 rows2) (K2 p rl H H2) (H2 fl=some (.lst fv)) (lR K H2 fv acc) (acc.length+rest2.length<=30000) (rows2.length<=160) (
   jb (iZ (gP f) [true,false]) rest rows []=jb (iZ (gP f) [true,false]) rest2 rows2 acc),
  ⟨_,[],[],rest,rows,rfl,rfl,R0,gB.k2 (gb hfl _),fY,.nil,(by show 0+_<=_;lia),hrows,rfl⟩,?_⟩;rintro m σ H2 ⟨acc,fv,rest2,rows2,rfl,rfl,R2,k2,hfl2,tf,hlen,hr2,heq⟩;have tl:=tf.length;have lf:fv.length<sizeLine:=by lia
 obtain⟨k',hk⟩:=R2.ob;refine⟨_,rfl,p,dx,_,rfl,hk,iN _ _ _ _ (.inl rfl),?_⟩;refine tn0 ?_;refine Dq R2 W ?_;refine⟨rfl,_,rfl,?_⟩;by_cases hh:rest2.head?=some ")"
 ·have e1:rest2.headD ""=")":=by rw[bX,hh];rfl
  rw[e1,show(decide (V.str ")"=V.str ")"))=true by decide+kernel];refine iV ?_;rw[l7 _ _ _ hh]at heq;refine⟨_,rfl,fl,fv,rfl,.inl (SqL.of hfl2),"fields",fv.length,0,6,rfl,gQ,by lia,by decide,by decide,fun hc=>?_,fun hc=>?_⟩;·refine⟨_,rfl,fl,fv,rfl,.inl ⟨SqL.of hfl2,fun t ht=>?_⟩⟩;have s:=gb ht (.tup fv);refine q acc rest2 rows2 t _ ?_ (R2.same s) (k2.trans (gB.k2 s)) (.tup fY (R2.tats (gB.k2 s) tf));rw[heq,chk,gY (by rw[<-tl];exact hc)]
  ·refine qe ?_ H2 k2;rw[heq,chk,gJ (by rw[<-tl];exact hc)]
 ·have e1:¬V.str (rest2.headD "")=V.str ")":=fun z=>by
   injection z with z
   cases rest2 with
   |nil=>exact absurd z gQ
   |cons a r=>exact hh (congrArg some z)
  rw[iw e1];have hm:=p7 gi rest2 rows2 acc hh;refine jl ⟨_,fun σ' H' z=>z,?_⟩;refine⟨_,rfl,.inl ⟨rfl,_,SqL.of hfl2⟩,_,rfl,p,dx,_,rfl,hk,iN _ _ _ _ (by simp),oT,fun pt hpt=>?_⟩;have s3:=gb hpt (.tup [.str "name",.str "expr"]);have R3:=R2.same s3;refine⟨_,rfl,p,dx,wl,rl,pt,ws,rest2,rows2,[true,false],rfl,R3,W,hr2,.inl (.inl fY),by decide,fun ds r rows' t H4 e R4 k4 ht=>?_,fun e H4 k4=>?_⟩
  ·have h4:H4 fl=some (.lst fv):=k4 _ _ (s3 _ _ hfl2) fp frl;have ei:(iZ (gP f) [true,false]) rest2 rows2=some (.tup ds,r,rows'):=by rw[iZ,e]
   obtain⟨st,lt⟩:=gi _ _ _ _ ei;refine⟨fl,fv,_,rfl,rfl,h4,lf,r.length,lt,acc++[.tup ds],fv++[.ref t],r,rows',rfl,rfl,R4.other h4 fp fwl frl,we hfl (k2.trans ((gB.k2 s3).trans k4)),fY,((R2.tats ((gB.k2 s3).trans k4) tf).snoc ht).other h4,(by rw[aQ];have lt':r.length<rest2.length:=lt;show acc.length+ 1+_<=_;lia),st.most hr2,?_⟩;rw[heq,hm,ei]
  ·refine qe ?_ H4 (k2.trans ((gB.k2 s3).trans k4));rw[heq,hm,show(iZ (gP f) [true,false]) rest2 rows2=none by rw[iZ,e]];rfl
theorem Fn (T:Txt K mg) (f:Nat)
  (gE60:MO P w base mg 1 T.e60 (iI T.c8.a))
  (gE67:ME P w base mg (5*f+ 6) T.e67 (IA K T.c8.a T.c2.a f))
  (gD19:FE P w base 1 T.d19 (je T.c2.a)):
  ME P w base mg (5*f+ 7) T.e69 (Gk K T.c8.a T.c2.a f (iZ (gP f) [true,true,false]) 1 6):=by
 refine T.e69.F.okE lD (fun vs H Q E h=>?_) (fun _ A _ s H vs Q E hr h=>?_);·obtain⟨p,dx,wl,rl,ws,rest,rows,rfl,_⟩:=h;rfl
 obtain⟨p,dx,wl,rl,ws,rest,rows,rfl,R,W,hrows,q,qe⟩:=h;refine⟨_,(fW (pS (i:=2) lD.nd (gR fX))
  (fW (oX PassesOwn.leaving (jf oa (ju (pv 0) T.c8.cl T.e60.me gE60 (hr.mono (by lia)) T.e60.b .nil jB) gu)
   (gh (gK (jM eX eY eZ gS (pv 2) (fV (gZ (pv 0) T.c8.cl T.e67.me gE67 (hr.mono (by lia)) T.e67.b .nil kB (fV (ik (fV gu (fV gu (fV gu fX)))) (fV (pv 1) fX))) fX)))))
  (fW (gK (pR gD19 (hr.mono (by lia)) rfl T.d19.m T.d19.k T.d19.b .nil kB (fV gu (fV (gG gA rfl T.z_len iH (fV (pv 2) fX)) (fV fZ (fV (pX rfl T.o9) fX))))))
  (gh (gH (jL jx rfl T.z_tuple jW (fV (pv 2) fX))))))),?_⟩;have sl:=sizeLine_eq;refine⟨qL,fun fl hfl=>?_⟩;have ep:=jn f;have gi:wb (iZ (gP f) [true,true,false]):=lV ep _ (by simp);have R0:=R.same (gb hfl (.lst []));obtain⟨fp,frl,fwl⟩:=R.apart hfl;have hs0:=R.short;have hs1:=W.len;refine⟨fun m σ H2=>X4 fun(acc:List Dt) (fv:List V) (rest2:Zd) (rows2:List Dt)=>Y9 (m=rest2.length) (σ=[some (.ref p),some (.int (25-(f:Int))),some (.ref fl)]) (RS K T.c8.a H2 p dx wl rl ws rest2 rows2) (K2 p rl H H2) (H2 fl=some (.lst fv)) (lR K H2 fv acc) (acc.length+rest2.length<=30000) (rows2.length<=160) (
   jb (iZ (gP f) [true,true,false]) rest rows []=jb (iZ (gP f) [true,true,false]) rest2 rows2 acc),
  ⟨_,[],[],rest,rows,rfl,rfl,R0,gB.k2 (gb hfl _),fY,.nil,(by show 0+_<=_;lia),hrows,rfl⟩,?_⟩;rintro m σ H2 ⟨acc,fv,rest2,rows2,rfl,rfl,R2,k2,hfl2,tf,hlen,hr2,heq⟩;have tl:=tf.length;have lf:fv.length<sizeLine:=by lia
 obtain⟨k',hk⟩:=R2.ob;refine⟨_,rfl,p,dx,_,rfl,hk,iN _ _ _ _ (.inl rfl),?_⟩;refine tn0 ?_;refine Dq R2 W ?_;refine⟨rfl,_,rfl,?_⟩;by_cases hh:rest2.head?=some ")"
 ·have e1:rest2.headD ""=")":=by rw[bX,hh];rfl
  rw[e1,show(decide (V.str ")"=V.str ")"))=true by decide+kernel];refine iV ?_;rw[l7 _ _ _ hh]at heq;refine⟨_,rfl,fl,fv,rfl,.inl (SqL.of hfl2),"arms",fv.length,1,6,rfl,gQ,by lia,by decide,by decide,fun hc=>?_,fun hc=>?_⟩;·refine⟨_,rfl,fl,fv,rfl,.inl ⟨SqL.of hfl2,fun t ht=>?_⟩⟩;have s:=gb ht (.tup fv);refine q acc rest2 rows2 t _ ?_ (R2.same s) (k2.trans (gB.k2 s)) (.tup fY (R2.tats (gB.k2 s) tf));rw[heq,chk,gY (by rw[<-tl];exact hc)]
  ·refine qe ?_ H2 k2;rw[heq,chk,gJ (by rw[<-tl];exact hc)]
 ·have e1:¬V.str (rest2.headD "")=V.str ")":=fun z=>by
   injection z with z
   cases rest2 with
   |nil=>exact absurd z gQ
   |cons a r=>exact hh (congrArg some z)
  rw[iw e1];have hm:=p7 gi rest2 rows2 acc hh;refine jl ⟨_,fun σ' H' z=>z,?_⟩;refine⟨_,rfl,.inl ⟨rfl,_,SqL.of hfl2⟩,_,rfl,p,dx,_,rfl,hk,iN _ _ _ _ (by simp),n8,fun pt hpt=>?_⟩;have s3:=gb hpt (.tup [.str "name",.str "name",.str "expr"]);have R3:=R2.same s3;refine⟨_,rfl,p,dx,wl,rl,pt,ws,rest2,rows2,[true,true,false],rfl,R3,W,hr2,.inl (.inl fY),by decide,fun ds r rows' t H4 e R4 k4 ht=>?_,fun e H4 k4=>?_⟩
  ·have h4:H4 fl=some (.lst fv):=k4 _ _ (s3 _ _ hfl2) fp frl;have ei:(iZ (gP f) [true,true,false]) rest2 rows2=some (.tup ds,r,rows'):=by rw[iZ,e]
   obtain⟨st,lt⟩:=gi _ _ _ _ ei;refine⟨fl,fv,_,rfl,rfl,h4,lf,r.length,lt,acc++[.tup ds],fv++[.ref t],r,rows',rfl,rfl,R4.other h4 fp fwl frl,we hfl (k2.trans ((gB.k2 s3).trans k4)),fY,((R2.tats ((gB.k2 s3).trans k4) tf).snoc ht).other h4,(by rw[aQ];have lt':r.length<rest2.length:=lt;show acc.length+ 1+_<=_;lia),st.most hr2,?_⟩;rw[heq,hm,ei]
  ·refine qe ?_ H4 (k2.trans ((gB.k2 s3).trans k4));rw[heq,hm,show(iZ (gP f) [true,true,false]) rest2 rows2=none by rw[iZ,e]];rfl
theorem BD (T:Txt K mg) (f:Nat)
  (gE60:MO P w base mg 1 T.e60 (iI T.c8.a))
  (gE64:ME P w base mg (5*f+ 5) T.e64 (Fj K T.c8.a T.c2.a f))
  (gD19:FE P w base 1 T.d19 (je T.c2.a)):
  ME P w base mg (5*f+ 7) T.e70 (Gk K T.c8.a T.c2.a f (kT (gP f)) 0 8):=by
 refine T.e70.F.okE kG (fun vs H Q E h=>?_) (fun _ A _ s H vs Q E hr h=>?_);·obtain⟨p,dx,wl,rl,ws,rest,rows,rfl,_⟩:=h;rfl
 obtain⟨p,dx,wl,rl,ws,rest,rows,rfl,R,W,hrows,q,qe⟩:=h;refine⟨_,(fW (pS (i:=2) kG.nd (gR fX))
  (fW (oX PassesOwn.leaving (jf oa (ju (pv 0) T.c8.cl T.e60.me gE60 (hr.mono (by lia)) T.e60.b .nil jB) gu)
   (gh (gK (jM eX eY eZ gS (pv 2) (fV (gZ (pv 0) T.c8.cl T.e64.me gE64 (hr.mono (by lia)) T.e64.b .nil kB (fV (pv 1) fX)) fX)))))
  (fW (gK (pR gD19 (hr.mono (by lia)) rfl T.d19.m T.d19.k T.d19.b .nil kB (fV gu (fV (gG gA rfl T.z_len iH (fV (pv 2) fX)) (fV fZ (fV (pX rfl T.o10) fX))))))
  (gh (gH (jL jx rfl T.z_tuple jW (fV (pv 2) fX))))))),?_⟩;have sl:=sizeLine_eq;refine⟨qL,fun fl hfl=>?_⟩;have ep:=jn f;have gi:wb (kT (gP f)):=p6 ep;have R0:=R.same (gb hfl (.lst []));obtain⟨fp,frl,fwl⟩:=R.apart hfl;have hs0:=R.short;have hs1:=W.len;refine⟨fun m σ H2=>X4 fun(acc:List Dt) (fv:List V) (rest2:Zd) (rows2:List Dt)=>Y9 (m=rest2.length) (σ=[some (.ref p),some (.int (25-(f:Int))),some (.ref fl)]) (RS K T.c8.a H2 p dx wl rl ws rest2 rows2) (K2 p rl H H2) (H2 fl=some (.lst fv)) (lR K H2 fv acc) (acc.length+rest2.length<=30000) (rows2.length<=160) (
   jb (kT (gP f)) rest rows []=jb (kT (gP f)) rest2 rows2 acc),
  ⟨_,[],[],rest,rows,rfl,rfl,R0,gB.k2 (gb hfl _),fY,.nil,(by show 0+_<=_;lia),hrows,rfl⟩,?_⟩;rintro m σ H2 ⟨acc,fv,rest2,rows2,rfl,rfl,R2,k2,hfl2,tf,hlen,hr2,heq⟩;have tl:=tf.length;have lf:fv.length<sizeLine:=by lia
 obtain⟨k',hk⟩:=R2.ob;refine⟨_,rfl,p,dx,_,rfl,hk,iN _ _ _ _ (.inl rfl),?_⟩;refine tn0 ?_;refine Dq R2 W ?_;refine⟨rfl,_,rfl,?_⟩;by_cases hh:rest2.head?=some ")"
 ·have e1:rest2.headD ""=")":=by rw[bX,hh];rfl
  rw[e1,show(decide (V.str ")"=V.str ")"))=true by decide+kernel];refine iV ?_;rw[l7 _ _ _ hh]at heq;refine⟨_,rfl,fl,fv,rfl,.inl (SqL.of hfl2),"things",fv.length,0,8,rfl,gQ,by lia,by decide,by decide,fun hc=>?_,fun hc=>?_⟩;·refine⟨_,rfl,fl,fv,rfl,.inl ⟨SqL.of hfl2,fun t ht=>?_⟩⟩;have s:=gb ht (.tup fv);refine q acc rest2 rows2 t _ ?_ (R2.same s) (k2.trans (gB.k2 s)) (.tup fY (R2.tats (gB.k2 s) tf));rw[heq,chk,gY (by rw[<-tl];exact hc)]
  ·refine qe ?_ H2 k2;rw[heq,chk,gJ (by rw[<-tl];exact hc)]
 ·have e1:¬V.str (rest2.headD "")=V.str ")":=fun z=>by
   injection z with z
   cases rest2 with
   |nil=>exact absurd z gQ
   |cons a r=>exact hh (congrArg some z)
  rw[iw e1];have hm:=p7 gi rest2 rows2 acc hh;refine jl ⟨_,fun σ' H' z=>z,?_⟩;refine⟨_,rfl,.inl ⟨rfl,_,SqL.of hfl2⟩,_,rfl,p,dx,_,rfl,hk,iN _ _ _ _ (by simp),_,rfl,p,dx,wl,rl,ws,rest2,rows2,rfl,R2,W,hr2,fun r rows' H4 e R4 k4=>?_,fun e H4 k4=>?_⟩
  ·have h4:H4 fl=some (.lst fv):=k4 _ _ hfl2 fp frl;have ei:(kT (gP f)) rest2 rows2=some (.flat (.int (rows2.length:Int)),r,rows'):=by rw[kT,e]
   obtain⟨st,lt⟩:=gi _ _ _ _ ei;refine⟨fl,fv,_,rfl,rfl,h4,lf,r.length,lt,acc++[.flat (.int (rows2.length:Int))],fv++[.int (rows2.length:Int)],r,rows',rfl,rfl,R4.other h4 fp fwl frl,we hfl (k2.trans k4),fY,((R2.tats k4 tf).snoc (.flat rfl)).other h4,(by rw[aQ];have lt':r.length<rest2.length:=lt;show acc.length+ 1+_<=_;lia),st.most hr2,?_⟩;rw[heq,hm,ei]
  ·refine qe ?_ H4 (k2.trans k4);rw[heq,hm,show(kT (gP f)) rest2 rows2=none by rw[kT,e]];rfl
structure Dk (P:Zu) (w:Zv) (K:Zp) (mg:Zc) where
 a:Zx
 m:mg "STEADY_FORMS"=some (.ref a)
 kvs:List (Key×V)
 kd:A6 P w K a kvs
 no:∀h,stP h=none->jK kvs (Sum.inr h)=none
 yes:∀h ps,stP h=some ps->∃q,jK kvs (Sum.inr h)=some (.ref q)/\∀H:Hp,SqT K H q (ps.map pV)
theorem Ds {h:Str} {ps:List Bool} (e:stP h=some ps):ps≠[]/\ps.length<=3:=by unfold stP at e;obtain⟨p,hp,rfl⟩:=dB.mp e;have hm:=List.mem_of_find?_eq_some hp;clear hp e;have z:∀p∈stT,p.2≠[]/\p.2.length<=3:=gQ;exact z p hm
def Ks (K:Zp) (C CB:Zx) (f:Nat):Sp:=fun vs H Q E=>X8 fun(p dx wl rl:Zx) (ws rest:Zd) (rows:List Dt) (h:Str)=>Y7 (vs=[.ref p,.str h,.int (25-(f:Int))]) (RS K C H p dx wl rl ws rest rows) (WOk ws) (rows.length<=160) (h∈ws) (
 (∀ds r rows' t H',jg (gP f) h rest rows=some (ds,r,rows')->RS K C H' p dx wl rl ws r rows'->K2 p rl H H'->TAt K H' (.ref t) (.tup ds)->Q (.ref t) H')) ((jg (gP f) h rest rows=none->∀H',K2 p rl H H'->E (.ref CB) none H'))
theorem Fo (T:Txt K mg) (D:Dk P w K mg) (f:Nat)
  (gE64:ME P w base mg (5*f+ 5) T.e64 (Fj K T.c8.a T.c2.a f))
  (gE67:ME P w base mg (5*f+ 6) T.e67 (IA K T.c8.a T.c2.a f))
  (gE68:ME P w base mg (5*f+ 7) T.e68 (Gk K T.c8.a T.c2.a f (iZ (gP f) [true,false]) 0 6))
  (gE69:ME P w base mg (5*f+ 7) T.e69 (Gk K T.c8.a T.c2.a f (iZ (gP f) [true,true,false]) 1 6))
  (gE70:ME P w base mg (5*f+ 7) T.e70 (Gk K T.c8.a T.c2.a f (kT (gP f)) 0 8)):
  ME P w base mg (5*f+ 8) T.e66 (Ks K T.c8.a T.c2.a f):=by
 refine T.e66.F.okE lC (fun vs H Q E h=>?_) (fun _ A _ s H vs Q E hr h=>?_);·obtain⟨p,dx,wl,rl,ws,rest,rows,h,rfl,_⟩:=h;rfl
 obtain⟨p,dx,wl,rl,ws,rest,rows,h,rfl,R,W,hrows,hm,q,qe⟩:=h;refine⟨_,(fW (ij (jf uq (pv 1) gu)
   (gh (gH (ik (fV gu (fV (gZ (pv 0) T.c8.cl T.e68.me gE68 (hr.mono (by lia)) T.e68.b .nil kB (fV (pv 2) fX)) fX)))))
   gL)
  (fW (ij (jf uq (pv 1) gu)
   (fW (pS (i:=3) lC.nd (gZ (pv 0) T.c8.cl T.e64.me gE64 (hr.mono (by lia)) T.e64.b .nil kB (fV (pv 2) fX)))
   (gh (gH (ik (fV gu (fV (pv 3) (fV (gZ (pv 0) T.c8.cl T.e69.me gE69 (hr.mono (by lia)) T.e69.b .nil kB (fV (pv 2) fX)) fX)))))))
   gL)
  (fW (ij (jf uq (pv 1) gu)
   (gh (gH (ik (fV gu (fV (gZ (pv 0) T.c8.cl T.e70.me gE70 (hr.mono (by lia)) T.e70.b .nil kB (fV (pv 2) fX)) fX)))))
   gL)
  (fW (ij (oU (A7 D.kd (pv 1) (CS rfl D.m)) rfl)
   (gh (kQ rfl lZ T.x2 rfl T.c2.m (fV (mU (iJ (vZ (pv 1)) (iJ gu qB))) fX)))
   gL)
  (gh (gH (ic EI (ik (fV (pv 1) fX)) (gZ (pv 0) T.c8.cl T.e67.me gE67 (hr.mono (by lia)) T.e67.b .nil kB (fV (A8 D.kd (CS rfl D.m) (pv 1)) (fV (pv 2) fX)))))))))),?_⟩;have sl:=sizeLine_eq;have ep:=jn f;obtain⟨k',hk⟩:=R.ob;refine⟨_,rfl,rfl,_,rfl,?_⟩;by_cases h1:h="rec"
 ·subst h1;rw[show decide (V.str "rec"=V.str "rec")=true by decide+kernel];have ef:jg (gP f) "rec" rest rows=match chk 0 6 (jb (iZ (gP f) [true,false]) rest rows [])with
   |none=>none
   |some (l,r)=>some ([.flat (.str "rec"),.tup l],r):=by rw[jg,gY rfl]<;>rfl
  refine jl ⟨_,rfl,p,dx,_,rfl,hk,iN _ _ _ _ (by simp),_,rfl,p,dx,wl,rl,ws,rest,rows,rfl,R,W,hrows,fun l r rows' t H1 e R1 k1 ht=>?_,fun e H1 k1=>?_⟩;·refine⟨oT,fun u hu=>?_⟩;have s:=gb hu (.tup [.str "rec",.ref t]);refine q _ r rows' u _ (by rw[ef,e]) (R1.same s) (k1.trans (gB.k2 s)) (.tup fY (.cons (.flat rfl) (.cons (R1.tat (gB.k2 s) ht) .nil)))
  ·exact qe (by rw[ef,e]) H1 k1
 rw[iw (fun z:V.str h=V.str "rec"=>h1 (by injection z))];refine iV ⟨_,rfl,rfl,_,rfl,?_⟩;by_cases h2:h="case"
 ·subst h2;rw[show decide (V.str "case"=V.str "case")=true by decide+kernel];have ef:jg (gP f) "case" rest rows=match gP f rest rows with
   |none=>none
   |some (r1,rows1)=>match chk 1 6 (jb (iZ (gP f) [true,true,false]) r1 rows1 [])with
    |none=>none
    |some (l,r)=>some ([.flat (.str "case"),.flat (.int (rows.length:Int)),.tup l],r):=by rw[jg,gJ h1,gY rfl]<;>rfl
  refine jl ⟨_,rfl,p,dx,_,rfl,hk,iN _ _ _ _ (by simp),_,rfl,p,dx,wl,rl,ws,rest,rows,rfl,R,W,hrows,fun r1 rows1 H1 e1 R1 k1=>?_,fun e1 H1 k1=>?_⟩
  ·obtain⟨k1',hk1⟩:=R1.ob;refine⟨_,rfl,_,rfl,p,dx,_,rfl,hk1,iN _ _ _ _ (by simp),_,rfl,p,dx,wl,rl,ws,r1,rows1,rfl,R1,W,(ep _ _ _ e1).1.most hrows,fun l r rows' t H2 e R2 k2 ht=>?_,fun e H2 k2=>?_⟩;·refine⟨n8,fun u hu=>?_⟩;have s:=gb hu (.tup [.str "case",.int (rows.length:Int),.ref t]);refine q _ r rows' u _ (by rw[ef,e1];show(match chk 1 6 _ with|none=>none|some (l,r)=>_)=_;rw[e]) (R2.same s) ((k1.trans k2).trans (gB.k2 s)) (.tup fY (.cons (.flat rfl) (.cons (.flat rfl) (.cons (R2.tat (gB.k2 s) ht) .nil))))
   ·exact qe (by rw[ef,e1];show(match chk 1 6 _ with|none=>none|some (l,r)=>_)=_;rw[e]) H2 (k1.trans k2)
  ·exact qe (by rw[ef,e1]) H1 k1
 rw[iw (fun z:V.str h=V.str "case"=>h2 (by injection z))];refine iV ⟨_,rfl,rfl,_,rfl,?_⟩;by_cases h3:h="row"
 ·subst h3;rw[show decide (V.str "row"=V.str "row")=true by decide+kernel];have ef:jg (gP f) "row" rest rows=match chk 0 8 (jb (kT (gP f)) rest rows [])with
   |none=>none
   |some (l,r)=>some ([.flat (.str "row"),.tup l],r):=by rw[jg,gJ h1,gJ h2,gY rfl]<;>rfl
  refine jl ⟨_,rfl,p,dx,_,rfl,hk,iN _ _ _ _ (by simp),_,rfl,p,dx,wl,rl,ws,rest,rows,rfl,R,W,hrows,fun l r rows' t H1 e R1 k1 ht=>?_,fun e H1 k1=>?_⟩;·refine⟨oT,fun u hu=>?_⟩;have s:=gb hu (.tup [.str "row",.ref t]);refine q _ r rows' u _ (by rw[ef,e]) (R1.same s) (k1.trans (gB.k2 s)) (.tup fY (.cons (.flat rfl) (.cons (R1.tat (gB.k2 s) ht) .nil)))
  ·exact qe (by rw[ef,e]) H1 k1
 rw[iw (fun z:V.str h=V.str "row"=>h3 (by injection z))];have ef:jg (gP f) h rest rows=match stP h with
  |none=>none
  |some ps=>match gM (gP f) ps [] rest rows with
   |none=>none
   |some (ds,r)=>some (.flat (.str h)::ds,r):=by rw[jg,gJ h1,gJ h2,gJ h3]<;>rfl
 refine iV ⟨_,rfl,Sum.inr h,rfl,rfl,_,rfl,?_⟩
 cases e4:stP h with
 |none=>rw[D.no h e4];have hrp:=pA W hm;refine jl ⟨_,rfl,h,rfl,by lia,_,rfl,Iy hrp,_,rfl,E9 hrp gQ,E9 hrp gQ,rp,qe (by rw[ef,e4]) H (K2.refl _ _ _)⟩
 |some ps=>
  obtain⟨dq,ev,hq⟩:=D.yes h ps e4;obtain⟨ne,le⟩:=Ds e4;rw[ev];refine iV ⟨_,rfl,rp,fun t1 ht1=>?_⟩;have s1:=gb ht1 (.tup [.str h]);have R1:=R.same s1;obtain⟨k1',hk1⟩:=R1.ob;refine⟨_,rfl,p,dx,_,rfl,hk1,iN _ _ _ _ (by simp),_,rfl,Sum.inr h,_,rfl,rfl,ev,_,rfl,p,dx,wl,rl,dq,ws,rest,rows,ps,rfl,R1,W,hrows,hq _,le,fun ds r rows' t H2 e R2 k2 ht=>?_,fun e H2 k2=>?_⟩
  ·cases ht with
   |tup hsq hts=>
    rename_i xs;have l1:=(kU ep _ _ _ _ _ _ e).2.2;have l2:=hts.length;have hne:xs≠[]:=fun z=>by
     rw[z]at l2;rw[<-l2]at l1;have:ps.length=0:=by simpa using l1.symm
     exact ne (bH.mp this)
    have ht2:SqT K H2 t1 [.str h]:=R1.sqt k2 (.inl (.inl fY));refine⟨t1,t,[.str h],xs,rfl,rfl,ht2,.inl (.inl hsq),(fun z=>nomatch z),(by have:([]:List Dt).length=0:=rfl;show 1+xs.length<=_;lia),fun z=>absurd z hne,fun _ u hu=>?_⟩;have s:=gb hu (.tup ([.str h]++xs));refine q _ r rows' u _ (by rw[ef,e4];show(match gM _ _ _ _ _ with|none=>none|some (ds,r)=>_)=_;rw[e]) (R2.same s) (((gB.k2 s1).trans k2).trans (gB.k2 s)) (.tup fY (.cons (.flat rfl) (R2.tats (gB.k2 s) hts)))
  ·exact qe (by rw[ef,e4];show(match gM _ _ _ _ _ with|none=>none|some (ds,r)=>_)=_;rw[e]) H2 ((gB.k2 s1).trans k2)
theorem Du:(reprText ")").length<=300002:=gQ
def Kt (K:Zp) (C CB:Zx) (f:Nat):Sp:=fun vs H Q E=>X7 fun(p dx wl rl:Zx) (ws rest:Zd) (rows:List Dt)=>Y6 (vs=[.ref p,.int (25-((f+ 1:Nat):Int))]) (RS K C H p dx wl rl ws rest rows) (WOk ws) (rows.length<=160) (
 (∀ds r rows' t H',tY (gP f) rest rows=some (ds,r,rows')->RS K C H' p dx wl rl ws r rows'->K2 p rl H H'->TAt K H' (.ref t) (.tup ds)->Q (.ref t) H')) ((tY (gP f) rest rows=none->∀H',K2 p rl H H'->E (.ref CB) none H'))
theorem Hs (T:Txt K mg) (f:Nat)
  (gE61:ME P w base mg 2 T.e61 (jd T.c8.a T.c2.a))
  (gE62:ME P w base mg 3 T.e62 (iQ T.c8.a T.c2.a))
  (gD15:FO P w base 2 T.d15 nO)
  (gD16:FO P w base 2 T.d16 ny)
  (gE66:ME P w base mg (5*f+ 8) T.e66 (Ks K T.c8.a T.c2.a f)):
  ME P w base mg (5*f+ 9) T.e65 (Kt K T.c8.a T.c2.a f):=by
 refine T.e65.F.okE kj (fun vs H Q E h=>?_) (fun _ A _ s H vs Q E hr h=>?_);·obtain⟨p,dx,wl,rl,ws,rest,rows,rfl,_⟩:=h;rfl
 obtain⟨p,dx,wl,rl,ws,rest,rows,rfl,R,W,hrows,q,qe⟩:=h;refine⟨_,(fW (pS (i:=2) kj.nd (ju (pv 0) T.c8.cl T.e61.me gE61 (hr.mono (by lia)) T.e61.b .nil kB))
  (fW (ij (jA (pF T.d16 gD16 (hr.mono (by lia)) (fV (pv 2) fX)))
   (gh (gH (ik (fV gu (fV (jL v3 rfl T.z_int yD (fV (pv 2) fX)) fX)))))
   gL)
  (fW (ij (jA (pF T.d15 gD15 (hr.mono (by lia)) (fV (pv 2) fX)))
   (gh (gH (ik (fV gu (fV (pv 2) fX)))))
   gL)
  (fW (ij (jf oa (pv 2) gu)
   (gh (kQ rfl lZ T.x2 rfl T.c2.m (fV (mU (iJ (vZ (pv 2)) (iJ gu qB))) fX)))
   gL)
  (fW (pS (i:=3) kj.nd (gZ (pv 0) T.c8.cl T.e66.me gE66 (hr.mono (by lia)) T.e66.b .nil kB (fV (ju (pv 0) T.c8.cl T.e61.me gE61 (hr.mono (by lia)) T.e61.b .nil kB) (fV (ic DN (pv 1) fZ) fX))))
  (fW (gK (gZ (pv 0) T.c8.cl T.e62.me gE62 (hr.mono (by lia)) T.e62.b .nil kB (fV gu fX)))
  (gh (gH (pv 3))))))))),?_⟩;have sl:=sizeLine_eq;obtain⟨k',hk⟩:=R.ob;refine⟨_,rfl,p,dx,_,rfl,hk,iN _ _ _ _ (by simp),?_⟩;refine tn0 ?_;refine Hq R W (fun x r H1 e R1 k1=>?_) (fun e=>qe (by rw[e];rfl) H (K2.refl _ _ _));have hx:x∈ws:=R.mem x (by rw[e];exact ah ..);have xl:=(W.one x hx).2.1;refine⟨_,rfl,x,rfl,xl,fun H2 s2=>⟨_,rfl,?_⟩⟩;have R2:=R1.same s2;have k2:=k1.trans (gB.k2 (p:=p) (q:=rl) s2)
 cases e1:jy x with
 |true=>obtain⟨n1,n2,n3⟩:=rY e1;refine jl ⟨_,rfl,x,wa x,rfl,zY n1 (by lia) n3,by lia,oT,fun t ht=>?_⟩;have s:=gb ht (.tup [.str "num",.int (wa x)]);exact q _ r rows t _ (by rw[e];exact xF e1) (R2.same s) (k2.trans (gB.k2 s)) (.tup fY (.cons (.flat rfl) (.cons (.flat rfl) .nil)))
 |false=>
  have f1:¬jy x=true:=by rw[e1];exact fg
  refine iV ⟨_,rfl,x,rfl,xl,fun H3 s3=>⟨_,rfl,?_⟩⟩;have R3:=R2.same s3;have k3:=k2.trans (gB.k2 (p:=p) (q:=rl) s3)
  cases e2:isName x with
  |true=>refine jl ⟨_,rfl,oT,fun t ht=>?_⟩;have s:=gb ht (.tup [.str "name",.str x]);exact q _ r rows t _ (by rw[e];exact uP f1 e2) (R3.same s) (k3.trans (gB.k2 s)) (.tup fY (.cons (.flat rfl) (.cons (.flat rfl) .nil)))
  |false=>
   have f2:¬isName x=true:=by rw[e2];exact fg
   refine iV ⟨_,rfl,rfl,_,rfl,?_⟩;by_cases h3:x="("
   ·rw[hV (congrArg V.str h3)];obtain⟨k3',hk3⟩:=R3.ob;refine iV ⟨_,rfl,p,dx,_,rfl,hk3,iN _ _ _ _ (by simp),_,rfl,p,dx,_,rfl,hk3,iN _ _ _ _ (by simp),?_⟩;refine tn0 ?_;refine Hq R3 W (fun h r2 H4 e4 R4 k4=>?_) (fun e4=>qe (by rw[e,e4];exact Dh f1 f2 h3) H3 k3);have hh:h∈ws:=R3.mem h (by rw[e4];exact ah ..);have er':tY (gP f) rest rows=mW (jg (gP f) h r2 rows):=by rw[e,e4];exact xG f1 f2 h3
    refine⟨_,rfl,_,_,rfl,rfl,p,dx,wl,rl,ws,r2,rows,h,(by show[V.ref p,V.str h,V.int (25-((f+ 1:Nat):Int)+ 1)]=_;rw[show(25-((f+ 1:Nat):Int)+ 1)=25-(f:Int) by lia]),R4,W,hrows,hh,fun ds r3 rows' t H5 e5 R5 k5 ht=>?_,fun e5 H5 k5=>?_⟩
    ·obtain⟨k5',hk5⟩:=R5.ob;refine⟨_,rfl,p,dx,_,rfl,hk5,iN _ _ _ _ (by simp),?_⟩;refine tc1 ?_;refine Dr R5 W Du (fun r4 H6 e6 R6 k6=>?_) (fun ne H6 k6=>?_);·refine⟨_,rfl,q ds r4 rows' t H6 ?_ R6 (((k3.trans k4).trans k5).trans k6) (R5.tat k6 ht)⟩;rw[er',e5,e6];unfold mW;exact gY rfl
     ·refine qe ?_ H6 (((k3.trans k4).trans k5).trans k6);rw[er',e5];unfold mW
      cases r3 with
      |nil=>rfl
      |cons y r4=>refine gJ fun z=>ne ?_;rw[z];rfl
    ·exact qe (by rw[er',e5];rfl) H5 ((k3.trans k4).trans k5)
   ·rw[iw (fun z:V.str x=V.str "("=>h3 (by injection z))];have hrp:=pA W hx;refine jl ⟨_,rfl,x,rfl,by lia,_,rfl,Iy hrp,_,rfl,E9 hrp gQ,E9 hrp gQ,rp,qe ?_ H3 k3⟩;rw[e];exact Hi f1 f2 h3
theorem Dv (T:Txt K mg):ME P w base mg 5 T.e64 (Fj K T.c8.a T.c2.a 0):=by
 refine T.e64.F.okE jR (fun vs H Q E h=>?_) (fun _ A _ s H vs Q E hr h=>?_);·obtain⟨p,dx,wl,rl,ws,rest,rows,rfl,_⟩:=h;rfl
 obtain⟨p,dx,wl,rl,ws,rest,rows,rfl,R,W,hrows,q,qe⟩:=h;refine⟨_,(fW (ij (jf Eu (pv 1) (pX rfl T.o12))
   (gh (kQ rfl lZ T.x2 rfl T.c2.m (fV (mU (iJ gu (iJ (xC (pX rfl T.o12)) qB))) fX)))
   gL)
  Aq),?_⟩;have sl:=sizeLine_eq;have nn:=pG (show 24<=100000 by decide);refine⟨_,rfl,_,_,rfl,rfl,_,rfl,jl ?_⟩;refine⟨_,rfl,?_,.inr ⟨_,rfl,nn.1,_,rfl,?_,?_,rp,qe rfl H (K2.refl _ _ _)⟩⟩;all_goals simp only[Str.length_append];have e0:Str.empty.length=0:=rfl;have e1:("a nest above ":Str).length=13:=gQ;have e2:(PySem.Str.ofString (toString (24:Int))).length<=6:=nn.2;try lia
theorem Dw (T:Txt K mg) (f:Nat)
  (gE65:ME P w base mg (5*f+ 9) T.e65 (Kt K T.c8.a T.c2.a f)):
  ME P w base mg (5*(f+ 1)+ 5) T.e64 (Fj K T.c8.a T.c2.a (f+ 1)):=by
 refine T.e64.F.okE (k:=5*f+ 9) jR (fun vs H Q E h=>?_) (fun _ A _ s H vs Q E hr h=>?_);·obtain⟨p,dx,wl,rl,ws,rest,rows,rfl,_⟩:=h;rfl
 obtain⟨p,dx,wl,rl,ws,rest,rows,rfl,R,W,hrows,q,qe⟩:=h;refine⟨_,(fW (ij (jf Eu (pv 1) (pX rfl T.o12))
   (gh (kQ rfl lZ T.x2 rfl T.c2.m (fV (mU (iJ gu (iJ (xC (pX rfl T.o12)) qB))) fX)))
   gL)
  (fW (pS (i:=2) jR.nd (gG gA rfl T.z_len iH (fV (oZ (pv 0) rfl) fX)))
  (fW (ij (jf uq (pv 2) (pX rfl T.o11))
   (gh (kQ rfl lZ T.x2 rfl T.c2.m (fV (mU (iJ gu (iJ (xC (pX rfl T.o11)) (iJ gu qB)))) fX)))
   gL)
  (fW (gK (jM eX eY eZ gS (oZ (pv 0) rfl) (fV kK fX)))
  (fW (rF (gZ (pv 0) T.c8.cl T.e65.me gE65 (hr.mono (by lia)) T.e65.b .nil kB (fV (pv 1) fX)) (rE (oZ (pv 0) rfl) (pv 2) lY))
  (gh (gH (pv 2)))))))),?_⟩;have sl:=sizeLine_eq;have nn:=pG (show 160<=100000 by decide);obtain⟨k,rv,R',h1,h2,h3⟩:=R;have tl:=h3.length;refine⟨_,rfl,_,_,rfl,rfl,_,rfl,?_⟩;rw[iw (by lia)];refine iV ⟨_,rfl,p,_,dx,_,_,rfl,R'.ob,T.c8.cl,T.n8rows,uM _ _ _,rl,_,rfl,.inl (SqL.of R'.rw),?_⟩;refine⟨_,rfl,rfl,_,rfl,?_⟩;by_cases h160:rows.length=160;·rw[hV (show V.int ((rv.length:Nat):Int)=V.int 160 by rw[tl,h160];rfl)];refine jl ⟨_,rfl,?_,.inr ⟨_,rfl,nn.1,_,rfl,?_,_,rfl,?_,?_,rp,qe (by rw[gP,gY h160]) H (K2.refl _ _ _)⟩⟩;all_goals simp only[Str.length_append];have e0:Str.empty.length=0:=rfl;have e1:("more than ":Str).length=10:=gQ;have e3:(" places":Str).length=7:=gQ;have e2:(PySem.Str.ofString (toString (160:Int))).length<=6:=nn.2;try lia
 ·rw[iw (show ¬V.int ((rv.length:Nat):Int)=V.int 160 from fun z=>by injection z with z;lia)];refine iV ⟨_,rfl,p,_,dx,_,_,rfl,R'.ob,T.c8.cl,T.n8rows,uM _ _ _,.inl ⟨rfl,_,SqL.of R'.rw⟩,rl,_,_,rfl,rfl,R'.rw,by lia,?_⟩;have npr:=R'.ne2;have nwr:=R'.ne;have R1':pk T.c8.a (upd H rl (.lst (rv++[.non]))) p dx wl rl ws k (rv++[.non]):=⟨by rw[gr npr];exact R'.ob,by rw[gr nwr];exact R'.wd,fY,nwr⟩;have R1:RS K T.c8.a (upd H rl (.lst (rv++[.non]))) p dx wl rl ws rest (rows++[.flat .non]):=⟨k,_,R1',h1,h2,(h3.snoc (.flat rfl)).other R'.rw⟩;have k1:K2 p rl H (upd H rl (.lst (rv++[.non]))):=(K2.refl p rl H).upd2 _;have lr:(rows++[Dt.flat .non]).length=rows.length+ 1:=by rw[aQ];rfl
  refine⟨_,rfl,p,dx,_,rfl,R1'.ob,iN _ _ _ _ (by simp),_,rfl,p,dx,wl,rl,ws,rest,_,rfl,R1,W,by lia,fun ds r rows' t H2 e R2 k2 ht=>?_,fun e H2 k2=>?_⟩
  ·have up:=(yR (jn f) e).1.up;obtain⟨kk,rv2,R2',g1,g2,g3⟩:=R2;have tl2:=g3.length;have lt:rows.length<rv2.length:=by have up':(rows++[Dt.flat .non]).length<=rows'.length:=up;lia
   refine⟨_,rfl,p,_,dx,_,_,rfl,R2'.ob,T.c8.cl,T.n8rows,uM _ _ _,_,rfl,rl,_,_,rv.length,rfl,rfl,R2'.rw,E8 (by lia),?_⟩;refine⟨_,rfl,?_⟩;rw[tl];refine q r (rows'.set rows.length (.tup ds)) _ ?_ ⟨kk,_,⟨?_,?_,fY,nwr⟩,g1,g2,(lR.set _ g3 ht).other R2'.rw⟩ ((k1.trans k2).upd2 _);·rw[gP,gJ h160,e]
   ·rw[gr npr];exact R2'.ob
   ·rw[gr nwr];exact R2'.wd
  ·refine qe ?_ H2 (k1.trans k2);rw[gP,gJ h160,e]
theorem BE (T:Txt K mg) (D:Dk P w K mg)
  (gE60:MO P w base mg 1 T.e60 (iI T.c8.a))
  (gE61:ME P w base mg 2 T.e61 (jd T.c8.a T.c2.a))
  (gE62:ME P w base mg 3 T.e62 (iQ T.c8.a T.c2.a))
  (gE63:ME P w base mg 3 T.e63 (iR T.c8.a T.c2.a))
  (gD15:FO P w base 2 T.d15 nO)
  (gD16:FO P w base 2 T.d16 ny)
  (gD19:FE P w base 1 T.d19 (je T.c2.a)):
  ∀f,ME P w base mg (5*f+ 5) T.e64 (Fj K T.c8.a T.c2.a f)
 |0=>Dv T
 |f+ 1=>by
  have g:=BE T D gE60 gE61 gE62 gE63 gD15 gD16 gD19 f;have gs:=BB T f gE63 g;exact Dw T f (Hs T f gE61 gE62 gD15 gD16
   (Fo T D f g gs (BC T f gE60 gs gD19) (Fn T f gE60 gs gD19) (BD T f gE60 g gD19)))
theorem Dx:(reprText "(").length<=300002/\(reprText "def").length<=300002/\(reprText ")").length<=300002:=gQ
def lE (C:Zx):Sp:=fun vs H Q _=>X5 fun(p dx a b c:Zx)=>Y3 (vs=[.ref p,.ref a,.ref b,.ref c]) (H p=some (.ins C dx [])) (∀H',H' p=some (.ins C dx (fP a b c))->(∀z o,H z=some o->z≠p->H' z=some o)->Q .non H')
theorem oK (T:Txt K mg):MO P w base mg 1 T.e58 (lE T.c7.a):=by
 refine T.e58.F.rd oG fun _ A _ s H vs Q E hr h=>?_;obtain⟨p,dx,a,b,c,rfl,hp,k⟩:=h;refine⟨_,(fW (jc (pv 0) (pv 1) rfl)
  (fW (jc (pv 0) (pv 2) rfl)
  (gh (jc (pv 0) (pv 3) rfl)))),?_⟩;refine⟨_,rfl,_,rfl,p,T.c7.a,dx,[],rfl,hp,T.c7.cl,T.n7names,(by show 0<1000;decide),?_⟩;refine⟨_,rfl,_,rfl,p,T.c7.a,dx,_,rfl,fY,T.c7.cl,T.n7roots,(by show 1<1000;decide),?_⟩;refine⟨_,rfl,_,rfl,p,T.c7.a,dx,_,rfl,fY,T.c7.cl,T.n7rows,(by show 2<1000;decide),?_⟩;refine k _ ?_ fun z o e hz=>?_;·rw[fY];exact congrArg (fun l=>some (HO.ins T.c7.a dx l)) (Jq a b c)
 ·rw[gr hz,gr hz,gr hz];exact e
structure PrAt (C:Zx) (H:Hp) (g:Zx) (nl tl rl:Zx) (names roots rows:List V):Prop where
 ob:∃dx,H g=some (.ins C dx (fP nl tl rl))
 nm:H nl=some (.lst names)
 rt:H tl=some (.lst roots)
 rw:H rl=some (.lst rows)
 n1:nl≠tl
 n2:nl≠rl
 n3:tl≠rl
def Fp (K:Zp) (C CB:Zx):Sp:=fun vs H Q E=>X2 fun(x:Str) (ws:Zd)=>Y6 (vs=[.str x]) (x.length<=30000) (rW x.cps.toList=ws.map V.str) (WOk ws) (
 (∀names roots rows g nl tl rl rtv rwv H',mG ws=some (names,roots,rows)->gB H H'->H nl=none->H tl=none->H rl=none->PrAt C H' g nl tl rl (names.map V.str) rtv rwv->lR K H' rtv roots->lR K H' rwv rows->Q (.ref g) H')) ((mG ws=none->∀H',gB H H'->E (.ref CB) none H'))
theorem qt {p rl:Zx} {H H1 H2:Hp} (np:H p=none) (nr:H rl=none) (s:gB H H1) (k:K2 p rl H1 H2):gB H H2:=fun b o e=>k b o (s b o e) (gm e np) (gm e nr)
theorem Fq (T:Txt K mg) (gD14:FO P w base 1 T.d14 sv) (gE59:MO P w base mg 1 T.e59 (lH T.c8.a))
  (gE60:MO P w base mg 1 T.e60 (iI T.c8.a))
  (gE62:ME P w base mg 3 T.e62 (iQ T.c8.a T.c2.a))
  (gE63:ME P w base mg 3 T.e63 (iR T.c8.a T.c2.a))
  (gE64:ME P w base mg (5*24+ 5) T.e64 (Fj K T.c8.a T.c2.a 24))
  (gD19:FE P w base 1 T.d19 (je T.c2.a))
  (gE58:MO P w base mg 1 T.e58 (lE T.c7.a)):
  FE P w base 126 T.d18 (Fp K T.c7.a T.c2.a):=by
 refine T.d18.F.okE uV (fun vs H Q E h=>?_) (fun _ A _ s H vs Q E hr h=>?_);·obtain⟨x,ws,rfl,_⟩:=h;rfl
 obtain⟨x,ws,rfl,hx,hw,W,q,qe⟩:=h;refine⟨_,(fW (pS (i:=1) uV.nd (uz T.mk8 gE59 (hr.mono (by lia)) rfl T.c8.m T.e59.b .nil jB (fV (pF T.d14 gD14 (hr.mono (by lia)) (fV (pv 0) fX)) fX)))
  (fW (pS (i:=2) uV.nd (gR fX))
  (fW (pS (i:=3) uV.nd (gR fX))
  (fW (oX PassesOwn.leaving (jf oa (ju (pv 1) T.c8.cl T.e60.me gE60 (hr.mono (by lia)) T.e60.b .nil jB) gu)
   (fW (gK (gZ (pv 1) T.c8.cl T.e62.me gE62 (hr.mono (by lia)) T.e62.b .nil kB (fV gu fX)))
   (fW (gK (gZ (pv 1) T.c8.cl T.e62.me gE62 (hr.mono (by lia)) T.e62.b .nil kB (fV gu fX)))
   (fW (gK (jM eX eY eZ gS (pv 2) (fV (ju (pv 1) T.c8.cl T.e63.me gE63 (hr.mono (by lia)) T.e63.b .nil kB) fX)))
   (fW (gK (jM eX eY eZ gS (pv 3) (fV (gZ (pv 1) T.c8.cl T.e64.me gE64 (hr.mono (by lia)) T.e64.b .nil kB (fV fZ fX)) fX)))
   (gh (gK (gZ (pv 1) T.c8.cl T.e62.me gE62 (hr.mono (by lia)) T.e62.b .nil kB (fV gu fX)))))))))
  (fW (gK (pR gD19 (hr.mono (by lia)) rfl T.d19.m T.d19.k T.d19.b .nil kB (fV gu (fV (gG gA rfl T.z_len iH (fV (pv 2) fX)) (fV fZ (fV (pX rfl T.o7) fX))))))
  (gh (gH (uz T.mk7 gE58 (hr.mono (by lia)) rfl T.c7.m T.e58.b .nil jB (fV (pv 2) (fV (pv 3) (fV (oZ (pv 1) rfl) fX))))))))))),?_⟩;have sl:=sizeLine_eq;obtain⟨rp1,rp2,rp3⟩:=Dx;refine⟨_,rfl,x,rfl,hx,fun wl H1 s1 nwl hwl p dx np ndx nex=>?_⟩;rw[hw]at hwl;have wp:wl≠p:=gm hwl np;have wdx:wl≠dx:=gm hwl ndx;refine⟨p,dx,wl,ws,rfl,fY,by rw[gr wp,gr wdx];exact hwl,fun rl H2 nrl R2 keep=>⟨rfl,?_⟩⟩;have np0:H p=none:=s1.free np;have S1:gB H (upd (upd H1 dx (.own p)) p (.ins T.c8.a dx [])):=uN _ np0 (uN _ (s1.free ndx) s1);have nr0:H rl=none:=S1.free nrl;have S2:gB H H2:=fun b o e=>keep b o (S1 b o e) (gm e np0);refine⟨qL,fun nl hnl=>⟨qL,fun tl htl=>?_⟩⟩;have nn0:H nl=none:=S2.free hnl;have S3:gB H (upd H2 nl (.lst [])):=S2.trans (gb hnl _);have nt0:H tl=none:=S3.free htl;have S4:gB H (upd (upd H2 nl (.lst [])) tl (.lst [])):=S3.trans (gb htl _);have R4':=(R2.same (gb hnl (.lst []))).same (gb htl (.lst []));have R4:RS K T.c8.a (upd (upd H2 nl (.lst [])) tl (.lst [])) p dx wl rl ws ws []:=⟨0,[],R4',rfl,cO _,.nil⟩;have ntn:nl≠tl:=gm fY htl;have hN4:upd (upd H2 nl (.lst [])) tl (.lst []) nl=some (.lst []):=by rw[gr ntn];exact fY
 have hT4:upd (upd H2 nl (.lst [])) tl (.lst []) tl=some (.lst []):=fY;have pn:nl≠p:=Ne.symm (gm R2.ob hnl);have rn:nl≠rl:=Ne.symm (gm R2.rw hnl);have pt:tl≠p:=Ne.symm (gm (R2.same (gb hnl (.lst []))).ob htl);have rt:tl≠rl:=Ne.symm (gm (R2.same (gb hnl (.lst []))).rw htl);have wn:nl≠wl:=Ne.symm (gm R2.wd hnl);have wt:tl≠wl:=Ne.symm (gm (R2.same (gb hnl (.lst []))).wd htl);have wlen:=W.len;have ra:mG ws=match jC ws [] [] []with
  |none=>none
  |some (n,r,rows)=>if 1<=n.length/\n.length<=12 then some (n,r,rows)else none:=by rw[mG]<;>rfl
 generalize hH4:upd (upd H2 nl (.lst [])) tl (.lst [])=H4 at R4 S4 hN4 hT4;refine⟨fun m σ H5=>X5 fun(names:Zd) (roots:List Dt) (rtv:List V) (rest:Zd) (rows:List Dt)=>Y11 (m=rest.length) (σ=[some (.str x),some (.ref p),some (.ref nl),some (.ref tl)]) (RS K T.c8.a H5 p dx wl rl ws rest rows) (gB H H5) (H5 nl=some (.lst (names.map V.str))) (H5 tl=some (.lst rtv)) (lR K H5 rtv roots) (names.length+rest.length<=30000) (roots.length=names.length) (rows.length<=160) (jC ws [] [] []=jC rest rows names roots),
  ⟨_,[],[],[],ws,[],rfl,rfl,R4,S4,hN4,hT4,.nil,(by show 0+_<=_;lia),rfl,cO _,rfl⟩,?_⟩;rintro m σ H5 ⟨names,roots,rtv,rest,rows,rfl,rfl,R5,S5,hN5,hT5,ht5,hlen,hlr,hrows,heq⟩;obtain⟨k5,hk5⟩:=R5.ob;have lroot:=ht5.length;refine⟨_,rfl,p,dx,_,rfl,hk5,iN _ _ _ _ (.inl rfl),?_⟩;refine tn0 ?_;refine Dq R5 W ?_;refine⟨rfl,_,rfl,?_⟩;by_cases hnil:rest=[]
 ·subst hnil;rw[show decide (V.str (([]:Zd).headD "")=V.str "")=true by decide+kernel];rw[defs_nil]at heq;rw[heq]at ra;have ra':mG ws=if 1<=names.length/\names.length<=12 then some (names,roots,rows)else none:=ra;have lm:(names.map V.str).length=names.length:=aE ..;refine iV ⟨_,rfl,nl,_,rfl,.inl (SqL.of hN5),"definitions",(names.map V.str).length,1,12,rfl,gQ,by lia,by decide,by decide,fun hc=>?_,fun hc=>?_⟩;·rw[lm]at hc;rw[gY hc]at ra';refine⟨_,rfl,_,rfl,_,rfl,p,_,dx,_,_,rfl,hk5,T.c8.cl,T.n8rows,uM _ _ _,fun g dg ng ndg neg=>?_⟩;refine⟨g,dg,nl,tl,rl,rfl,fY,fun H6 hg keep6=>⟨rfl,?_⟩⟩;have k6:gB H5 H6:=fun b o e=>keep6 b o (by rw[gr (gm e ng),gr (gm e ndg)];exact e) (gm e ng);obtain⟨k,rv,R5',h1,h2,h3⟩:=R5;have kk:K2 p rl H5 H6:=gB.k2 k6;exact q names roots rows g nl tl rl rtv rv H6 ra' (S5.trans k6) nn0 nt0 nr0 ⟨⟨dg,hg⟩,k6 _ _ hN5,k6 _ _ hT5,k6 _ _ R5'.rw,ntn,rn,rt⟩ (ht5.mono fun a xs t=>pk.tpT R5' kk t) (h3.mono fun a xs t=>pk.tpT R5' kk t)
  ·rw[lm]at hc;rw[gJ hc]at ra';exact qe ra' H5 S5
 ·have e1:¬V.str (rest.headD "")=V.str "":=fun z=>by
   injection z with z
   cases rest with
   |nil=>exact hnil rfl
   |cons a r=>exact(W.one a (R5.mem a (ah ..))).1 z
  rw[iw e1];have fail:∀{H':Hp},jC rest rows names roots=none->K2 p rl H5 H'->E (.ref T.c2.a) none H':=fun{H'} z k=>by refine qe ?_ H' (qt np0 nr0 S5 k);rw[ra,heq,z]
  refine jl ⟨_,fun σ' H' z=>z,?_⟩;refine⟨_,rfl,p,dx,_,rfl,hk5,iN _ _ _ _ (by simp),?_⟩;refine tc1 ?_;refine Dr R5 W rp1 (fun r1 H6 e6 R6 k6=>?_) (fun ne H6 k6=>fail (Di hnil ne) k6);subst e6;obtain⟨k6',hk6⟩:=R6.ob;refine⟨_,rfl,p,dx,_,rfl,hk6,iN _ _ _ _ (by simp),?_⟩;refine tc1 ?_;refine Dr R6 W rp2 (fun r2 H7 e7 R7 k7=>?_) (fun ne H7 k7=>fail (Dj ne) (k6.trans k7));subst e7;have kk7:=k6.trans k7;have hN7:H7 nl=some (.lst (names.map V.str)):=kk7 _ _ hN5 pn rn;obtain⟨k7',hk7⟩:=R7.ob;refine⟨_,rfl,.inl ⟨rfl,_,SqL.of hN7⟩,_,rfl,p,dx,_,rfl,hk7,iN _ _ _ _ (by simp),?_⟩;refine tn0 ?_;refine Hr R7 W (fun c r3 H8 e8 hc R8 k8=>?_) (fun hno H8 k8=>fail (Dl hno) (kk7.trans k8));subst e8;have kk8:=kk7.trans k8;have hN8:H8 nl=some (.lst (names.map V.str)):=kk8 _ _ hN5 pn rn;have hT8:H8 tl=some (.lst rtv):=kk8 _ _ hT5 pt rt;simp only[aB]at hlen;refine⟨nl,_,_,rfl,rfl,hN8,(by rw[aE];lia),?_⟩;have R9:=R8.other (o:= .lst (names.map V.str++[.str c])) hN8 pn wn rn;have S8:=qt np0 nr0 S5 kk8;have S9:gB H (upd H8 nl (.lst (names.map V.str++[.str c]))):=uN _ nn0 S8;have hT9:upd H8 nl (.lst (names.map V.str++[.str c])) tl=some (.lst rtv):=by rw[gr (Ne.symm ntn)];exact hT8
  have ht9:=(R5.tats kk8 ht5).other (o:= .lst (names.map V.str++[.str c])) hN8;obtain⟨k9',hk9⟩:=R9.ob;refine⟨_,rfl,.inl ⟨rfl,_,SqL.of hT9⟩,_,rfl,p,dx,_,rfl,hk9,iN _ _ _ _ (by simp),?_⟩;refine tc1 ?_;refine⟨p,dx,wl,rl,ws,r3,rows,rfl,R9,W,hrows,fun r4 rows4 H10 e10 R10 k10=>?_,fun e10 H10 k10=>?_⟩
  ·have hN10:H10 nl=some (.lst (names.map V.str++[.str c])):=k10 _ _ fY pn rn;have hT10:H10 tl=some (.lst rtv):=k10 _ _ hT9 pt rt;have S10:=qt np0 nr0 S9 k10;obtain⟨st,lt,_⟩:=jn 24 _ _ _ e10;refine⟨tl,_,_,rfl,rfl,hT10,(by lia),?_⟩;have R11:=R10.other (o:= .lst (rtv++[.int (rows.length:Int)])) hT10 pt wt rt;have ht11:=((R9.tats k10 ht9).snoc (.flat (v:= .int (rows.length:Int)) rfl)).other (o:= .lst (rtv++[.int (rows.length:Int)])) hT10;have hN11:upd H10 tl (.lst (rtv++[.int (rows.length:Int)])) nl=some (.lst (names.map V.str++[.str c])):=by rw[gr ntn];exact hN10
   have S11:gB H (upd H10 tl (.lst (rtv++[.int (rows.length:Int)]))):=uN _ nt0 S10;obtain⟨k11',hk11⟩:=R11.ob;refine⟨_,rfl,p,dx,_,rfl,hk11,iN _ _ _ _ (by simp),?_⟩;refine tc1 ?_;refine Dr R11 W rp3 (fun r5 H12 e12 R12 k12=>?_) (fun ne H12 k12=>?_)
   ·subst e12;have lt':r5.length+ 1<r3.length:=lt;refine⟨r5.length,(by simp only[aB];lia),names++[c],roots++[.flat (.int (rows.length:Int))],_,r5,rows4,rfl,rfl,R12,qt np0 nr0 S11 k12,?_,k12 _ _ fY pt rt,R11.tats k12 ht11,?_,?_,st.most hrows,?_⟩;·rw[bo];exact k12 _ _ hN11 pn rn
    ·rw[aQ];show names.length+ 1+_<=_;lia
    ·rw[aQ,aQ,hlr];rfl
    ·rw[heq,defs_yes hc e10]
   ·refine qe ?_ H12 (qt np0 nr0 S11 k12);rw[ra,heq,Dn hc e10 ne]
  ·refine qe ?_ H10 (qt np0 nr0 S9 k10);rw[ra,heq,Dm hc e10]
end K61.Internal
namespace K61.Internal
open PySem L2.Internal BO.Internal
seal L2.Internal.PE L2.Internal.PA L2.Internal.PS L2.Internal.PSs L2.Internal.PT L2.Internal.PI
theorem hI {H H2:Hp} {l:Zx} (s:gB H H2) (h:H l=none) (o:HO):gB H (upd H2 l o):=fun b u e=>by rw[gr (gm e h)];exact s b u e
abbrev Hm:=Str×Int
def hmD (h:Hm):Dt:= .tup [.flat (.str h.1),.flat (.int h.2)]
def Sc (H:Hp) (a:Zx) (g:Str->Option Hm) (n:Nat):Prop:=∃kvs:List (Key×V),Y3 (H a=some (.dK kvs)) (kvs.length<=n) (∀w:Str,match g w with
 |none=>jK kvs (.inr w)=none
 |some h=>∃t,jK kvs (.inr w)=some (.ref t)/\H t=some (.tup [.str h.1,.int h.2]))
theorem Sc.same {H H':Hp} {a:Zx} {g:Str->Option Hm} {n:Nat} (h:Sc H a g n) (s:gB H H'):Sc H' a g n:=by
 obtain⟨kvs,e,l,h⟩:=h;refine⟨kvs,s _ _ e,l,fun w=>?_⟩;have:=h w
 cases hg:g w with
 |none=>rw[hg]at this;exact this
 |some z=>rw[hg]at this;obtain⟨t,h1,h2⟩:=this;exact⟨t,h1,s _ _ h2⟩
def wid (g:Str->Option Hm) (x:Str) (h:Hm):Str->Option Hm:=fun w=>if w=x then some h else g w
def Ad:Sp:=fun vs H Q _=>X6 fun(a t:Zx) (g:Str->Option Hm) (n:Nat) (x:Str) (h:Hm)=>Y5 (vs=[.ref a,.str x,.ref t]) (Sc H a g n) (n<10000) (H t=some (.tup [.str h.1,.int h.2])) (∀b H',gB H H'->H b=none->Sc H' b (wid g x h) (n+ 1)->Q (.ref b) H')
theorem uc (T:Txt K mg):FO P w base 1 T.d26 Ad:=by
 refine T.d26.F.rd tZ fun _ A _ s H vs Q E hr h=>?_;have hu:=vW hr;obtain⟨a,t,g,n,x,h,rfl,⟨kvs,e,l,hk⟩,hn,et,q⟩:=h;refine⟨_,(fW (pS (i:=3) tZ.nd (jL zV rfl T.z_dict ER (fV (cv 0) fX)))
  (fW (mQ hu (cv 3) (cv 1) (cv 2) rfl)
  (gh (gH (cv 3))))),?_⟩;have sl:=sizeLine_eq;refine⟨a,kvs,rfl,e,fun b hb=>?_⟩;have s1:=gb hb (.dK kvs);have eb:(upd H b (.dK kvs)) b=some (.dK kvs):=fY;dsimp only[hJ];refine⟨b,_,rfl,zH.k (k:=Sum.inr x) eb (by lia),?_⟩;have tk:∀{y:Zx} {xs:List V},H y=some (.tup xs)->(upd (upd H b (.dK kvs)) b (.dK (oj kvs (Sum.inr x) (.ref t)))) y=some (.tup xs):=fun{y xs} ey=>by rw[gr (kS (s1 _ _ ey) eb (fun h=>nomatch h))];exact s1 _ _ ey
 refine q b _ (hI s1 hb _) hb ⟨_,fY,cH (iW _ _ _) (by lia),fun w=>?_⟩;unfold wid;by_cases hw:w=x;·rw[gY hw];exact⟨t,by rw[iT,gY (by rw[hw])],tk et⟩
 ·rw[gJ hw];have hh:=hk w;have hv:jK (oj kvs (Sum.inr x) (.ref t)) (.inr w)=jK kvs (.inr w):=by rw[iT,gJ (fun z=>hw (by injection z))]
  cases hg:g w with
  |none=>rw[hg]at hh;exact hv.trans hh
  |some z=>rw[hg]at hh;obtain⟨t',h1,h2⟩:=hh;exact⟨t',hv.trans h1,tk h2⟩
def sy:Sp:=fun vs H Q _=>X2 fun(a:Zx) (ws:Zd)=>Y5 (vs=[.ref a]) (H a=some (.lst (ws.map V.str))) (ws.Nodup) (ws.length<=10000) (∀H',gB H H'->Q .non H')
theorem sA (T:Txt K mg):FO P w base 1 T.d21 sy:=by
 refine T.d21.F.rd lj fun _ A _ s H vs Q E hr h=>?_;have hu:=vW hr;obtain⟨a,ws,rfl,e,nd,hl,q⟩:=h;refine⟨_,(fW (pS (i:=1) lj.nd pd)
  (gh (jk PassesOwn.never rfl (jm (cv 0)) (pN (i:=2) lj.nd)
   (fW (ij (oU (GL hu (cv 2) (cv 1)) rfl)
    (gh yu)
    gL)
   (gh (mQ hu (cv 1) (cv 2) rB rfl)))))),?_⟩;have sl:=sizeLine_eq;intro d hd;have s1:=gb hd (.dK []);have ed:(upd H d (.dK [])) d=some (.dK []):=fY;dsimp only[hJ];generalize upd H d (.dK [])=H1 at s1 ed⊢;refine⟨a,rfl,⟨_,SqL.of (s1 _ _ e)⟩,jV (xs:=ws.map V.str) (fun i σ H2=>X2 fun(o:Option V) (kvs:List (Key×V))=>Y5 (σ=[some (.ref a),some (.ref d),o]) (gB H H2) (H2 d=some (.dK kvs)) (kvs.length<=i) (∀w:Str,w∉ws.take i->jK kvs (.inr w)=none))
  ⟨none,[],rfl,s1,ed,cO _,fun _ _=>rfl⟩ (fun i σ H2 _ ⟨_,_,_,S,_,_,_⟩=>SqL.of (S _ _ e)) ?_ ?_⟩
 ·rintro i v σ H2 hv ⟨o,kvs,rfl,S,ek,hk,hn⟩;have hi:=(au.mp hv).1;rw[aE]at hi;rw[aO]at hv;obtain⟨x,hx⟩:∃x,ws[i]?=some x:=⟨_,bB hi⟩;rw[hx]at hv;cases hv;have hxn:x∉ws.take i:=fun hm=>by
   have h1:(ws.take i++ws.drop i).Nodup:=by rw[b6];exact nd
   rw[b9]at h1;obtain⟨z1,z2⟩:=au.mp hx;exact h1.2.2 _ hm _ (by rw[bN z1,z2];simp) rfl
  have g:=w6.k (k:=(Sum.inr x:Key)) ek;rw[hn x hxn]at g;refine⟨d,none,rfl,g,_,rfl,iV ?_⟩;refine⟨d,_,rfl,zH.k (k:=Sum.inr x) ek (by lia),_,_,rfl,hI S hd _,fY,cH (iW _ _ _) (by lia),fun w hw=>?_⟩;rw[iT];rw[cb,hx]at hw;have h1:w≠x:=fun z=>hw (by simp[z]);rw[gJ (fun z=>h1 (by injection z))];exact hn w fun z=>hw (aq _ z)
 ·rintro σ H2 ⟨o,kvs,rfl,S,_⟩;exact q H2 S
def ud:Sp:=fun vs H Q _=>∃(t a:Zx) (k:Int) (g:Str->Option Hm) (n:Nat) (s:Str) (r:List V),vs=[.ref t,.int k,.ref a]/\H t=some (.tup (.str s::r))/\Sc H a g n/\(s≠"name"->Q .non H)/\(s="name"->∃(x:Str) (h:Hm),r=[.str x]/\g x=some h/\∀p,H p=some (.tup [.str h.1,.int h.2])->Q (.ref p) H)
theorem Ae (T:Txt K mg):FO P w base 1 T.d23 ud:=by
 refine T.d23.F.rd z9 fun _ A _ s H vs Q E hr h=>?_;have hu:=vW hr;obtain⟨t,a,k,g,n,s',r,rfl,et,⟨kvs,e,l,hk⟩,q1,q2⟩:=h;refine⟨_,(fW (ij (gN uH (gx gE (cv 0) fZ) gu)
   (gh (gH kK))
   gL)
  (fW (ij (oU (AL hu (gx gE (cv 0) fZ) (cv 2)) rfl)
   (gh yu)
   gL)
  (gh (gH (mP hu (cv 2) (gx gE (cv 0) fZ)))))),?_⟩;refine⟨_,et,gk (gj (j:=0) rfl) ?_⟩;dsimp only[tC,cEq,onB];by_cases hs:s'="name";·obtain⟨x,h,rfl,hg,q⟩:=q2 hs;rw[hV hs];have hh:=hk x;rw[hg]at hh;obtain⟨p,h1,h2⟩:=hh;have g:=w6.k (k:=(Sum.inr x:Key)) e;rw[h1]at g;exact iV ⟨_,et,gk (gj (j:=1) rfl) ⟨a,_,rfl,g,_,rfl,iV ⟨_,et,gk (gj (j:=1) rfl) ⟨a,_,rfl,g,q p h2⟩⟩⟩⟩
 ·rw[iw hs];exact jl (q1 hs)
mutual
def flV:Dt->List V
 | .flat v=>[v]
 | .tup ds=>jJ ds
 | .lst _=>[]
def jJ:List Dt->List V
 |[]=>[]
 |d::ds=>flV d++jJ ds
end
mutual
def okF:Dt->Bool
 | .flat v=>(match v with| .int _=>true| .str _=>true|_=>false)
 | .tup ds=>qH ds
 | .lst _=>false
def qH:List Dt->Bool
 |[]=>true
 |d::ds=>okF d&&qH ds
end
theorem wB:∀(l:List Dt) (d:Dt),jJ (l++[d])=jJ l++flV d
 |[],d=>by simp[jJ]
 |a::l,d=>by rw[aU,jJ,jJ,wB l d,bM]
theorem yV:∀{l:List Dt} {i:Nat} {d:Dt},qH l=true->l[i]?=some d->okF d=true
 |a::l,0,d,h,e=>by cases e;rw[qH,fj]at h;exact h.1
 |a::l,i+ 1,d,h,e=>by rw[qH,fj]at h;rw[bE]at e;exact yV h.2 e
theorem nA:∀(l:List Dt) (i:Nat),(jJ (l.take i)).length<=(jJ l).length
 |[],i=>by simp[jJ]
 |a::l,0=>by simp[jJ]
 |a::l,i+ 1=>by rw[List.take_succ_cons,jJ,jJ,aQ,aQ];have:=nA l i;lia
theorem ue:∀{l:List Dt} {i:Nat} {d:Dt},l[i]?=some d->(flV d).length<=(jJ l).length
 |a::l,0,d,e=>by cases e;rw[jJ,aQ];lia
 |a::l,i+ 1,d,e=>by rw[bE]at e;have:=ue e;rw[jJ,aQ];lia
theorem jP {H:Hp}:∀{xs:List V} {ds:List Dt} {j:Nat} {x:V},Ims H xs ds->xs[j]?=some x->∃d,ds[j]?=some d/\Im H x d
 |_,_,0,_,.cons h _,e=>⟨_,rfl,by cases e;exact h⟩
 |_,_,j+ 1,_,.cons _ t,e=>by rw[bE]at e;obtain⟨d,e1,e2⟩:=jP t e;exact⟨d,by rw[bE];exact e1,e2⟩
def BF (n:Nat):Sp:=fun vs H Q _=>X3 fun(t:Zx) (xs:List V) (ds:List Dt)=>Y7 (vs=[.ref t]) (H t=some (.tup xs)) (Ims H xs ds) (qH ds=true) (jT ds<n) ((jJ ds).length<=10000) (∀l H',gB H H'->H l=none->H' l=some (.lst (jJ ds))->Q (.ref l) H')
theorem Fs (T:Txt K mg):∀n:Nat,FO P w base (n+ 1) T.d3 (BF n):=by
 intro n
 induction n with
 |zero=>refine T.d3.F.rd uT fun cdv A outer s H vs Q E hr h=>?_;obtain⟨t,xs,ds,rfl,et,hx,hok,hd,hl,q⟩:=h;exact absurd hd (dh _)
 |succ n ih=>
  have gD3:=ih;refine T.d3.F.rd uT fun cdv A outer s H vs Q E hr h=>?_;obtain⟨t,xs,ds,rfl,et,hx,hok,hd,hl,q⟩:=h;refine⟨_,(fW (pS (i:=1) uT.nd (gR fX))
  (fW (jk PassesOwn.never rfl (tN (cv 0)) (pN (i:=2) uT.nd)
   (gh (ij (jA (gG kP rfl T.z_isinstance iM (fV (cv 2) (fV (pj rfl T.z_tuple jW) fX))))
    (gh (gK (jM eX PySem.F.slot_list_extend PySem.F.type_list_extend AV (cv 1) (fV (pF T.d3 gD3 (hr.mono (by lia)) (fV (cv 2) fX)) fX))))
    (gh (gK (ja (jM eX eY eZ gS (PE.mono (cv 1)) (fV (PE.mono (cv 2)) fX))))))))
  (gh (gH (cv 1))))),?_⟩;have sl:=sizeLine_eq;have lx:=hx.length;refine⟨qL,fun f hf=>?_⟩;have s1:=gb hf (.lst []);have e1:(upd H f (.lst [])) f=some (.lst []):=fY;dsimp only[hJ];generalize upd H f (.lst [])=H1 at s1 e1⊢;refine⟨t,rfl,⟨_,SqT.of (s1 _ _ et)⟩,xm (xs:=xs) (fun i σ H2=>∃(o:Option V),σ=[some (.ref t),some (.ref f),o]/\gB H H2/\H2 f=some (.lst (jJ (ds.take i)))) ⟨none,rfl,s1,by simpa[jJ]using e1⟩ (fun i σ H2 _ ⟨_,_,S,_⟩=>SqT.of (S _ _ et)) ?_ ?_⟩
  ·rintro i v σ H2 hv ⟨o,rfl,S,e⟩;obtain⟨d,hdi,him⟩:=jP hx hv;have him2:=him.mono (gB.tk S);have hok1:=yV hok hdi;have tl:=nA ds i;have gl:=ue hdi;have nxt:jJ (ds.take (i+ 1))=jJ (ds.take i)++flV d:=by rw[cb,hdi];exact wB _ _
   cases him2 with
   |flat hfl=>
    rw[flV]at nxt gl;have ap:(∃xs,H2 f=some (.lst xs))/\∃xs,H2 f=some (.lst xs)/\xs.length<sizeLine/\∃(o:Option V),[some (V.ref t),some (V.ref f),some v]=[some (V.ref t),some (.ref f),o]/\gB H (upd H2 f (.lst (xs++[v])))/\(upd H2 f (.lst (xs++[v]))) f=some (.lst (jJ (ds.take (i+ 1)))):=
     ⟨⟨_,e⟩,_,e,by lia,_,rfl,hI S hf _,by rw[fY,nxt]⟩
    cases v with
    |int n=>exact⟨_,_,_,_,false,rfl,fun _ r=>r,.int n,rfl,_,rfl,iV ap⟩
    |str x=>exact⟨_,_,_,_,false,rfl,fun _ r=>r,.str x,rfl,_,rfl,iV ap⟩
    |_=>simp[okF]at hok1
   |@tup a ys es ha hs=>rw[flV]at nxt gl;rw[okF]at hok1;have hdd:=L2.Internal.depDs_get hdi;rw[sP]at hdd;refine⟨_,_,_,_,true,rfl,fun _ r=>r,.tup ha,rfl,_,rfl,jl ⟨.inl ⟨rfl,_,SqL.of e⟩,a,ys,es,rfl,ha,hs,hok1,by lia,by lia,fun l H3 S3 hl3 e3=>?_⟩⟩;refine⟨f,l,_,_,rfl,rfl,S3 _ _ e,e3,?_,_,rfl,hI (S.trans S3) hf _,by rw[fY,nxt]⟩;have h1:(jJ (ds.take (i+ 1))).length<=(jJ ds).length:=nA ds (i+ 1);rw[nxt,aQ]at h1;lia
  ·rintro σ H2 ⟨o,rfl,S,e⟩;rw[cc (by lia)]at e;exact q f H2 S hf e
inductive Ro
 |num (n:Int)
 |name (w:Str)
 |fn (w:Str) (k:Int)
 |tag (w:Str) (k:Int)
 |lt (w:Str) (a b:Int)
 |get (k:Int) (w:Str)
 |rcd (l:List (Str×Int))
 |case (k:Int) (l:List (Str×Str×Int))
 |row (ks:List Int)
 |op (s:Str) (ks:List Int)
def kD (k:Int):Dt:= .flat (.int k)
def sD (s:Str):Dt:= .flat (.str s)
def fdD (p:Str×Int):Dt:= .tup [sD p.1,kD p.2]
def amD (p:Str×Str×Int):Dt:= .tup [sD p.1,sD p.2.1,kD p.2.2]
def Ro.s:Ro->Str
 | .num _=>"num"
 | .name _=>"name"
 | .fn _ _=>"fn"
 | .tag _ _=>"tag"
 | .lt _ _ _=>"let"
 | .get _ _=>"get"
 | .rcd _=>"rec"
 | .case _ _=>"case"
 | .row _=>"row"
 | .op s _=>s
def Ro.r:Ro->List Dt
 | .num n=>[kD n]
 | .name w=>[sD w]
 | .fn w k=>[sD w,kD k]
 | .tag w k=>[sD w,kD k]
 | .lt w a b=>[sD w,kD a,kD b]
 | .get k w=>[kD k,sD w]
 | .rcd l=>[.tup (l.map fdD)]
 | .case k l=>[kD k,.tup (l.map amD)]
 | .row ks=>[.tup (ks.map kD)]
 | .op _ ks=>ks.map kD
def Ro.d (ρ:Ro):Dt:= .tup (sD ρ.s::ρ.r)
def plain:List Str:=["size","at","call","join","add","sub","less"]
def Ro.ok:Ro->Prop
 | .rcd l=>l.length<=100/\(l.map Prod.fst).Nodup
 | .case _ l=>l.length<=100/\(l.map Prod.fst).Nodup
 | .row ks=>ks.length<=100
 | .op s ks=>s∈plain/\ks.length<=100
 |_=>True
def Ro.pl:Ro->List Int
 | .num _=>[]
 | .name _=>[]
 | .fn _ k=>[k]
 | .tag _ k=>[k]
 | .lt _ a b=>[a,b]
 | .get k _=>[k]
 | .rcd l=>l.map Prod.snd
 | .case k l=>k::l.map fun p=>p.2.2
 | .row ks=>ks
 | .op _ ks=>ks
def Ro.pt:Ro->List V
 | .num _=>[]
 | .name _=>[]
 |ρ=>jJ ρ.r
theorem BG:∀ks:List Int,qH (ks.map kD)=true/\jJ (ks.map kD)=ks.map V.int/\jT (ks.map kD)=0
 |[]=>⟨by simp[qH],by simp[jJ],by simp[jT]⟩
 |k::ks=>by
  obtain⟨h1,h2,h3⟩:=BG ks;refine⟨?_,?_,?_⟩;·rw[aD,qH,h1];rfl
  ·rw[aD,jJ,h2];rfl
  ·rw[aD,jT,h3];rfl
theorem Ht:∀l:List (Str×Int),qH (l.map fdD)=true/\(jJ (l.map fdD)).length=2*l.length/\jT (l.map fdD)<=1
 |[]=>⟨by simp[qH],by simp[jJ],by simp[jT]⟩
 |k::ks=>by
  obtain⟨h1,h2,h3⟩:=Ht ks;refine⟨?_,?_,?_⟩;·rw[aD,qH,h1];rfl
  ·rw[aD,jJ,aQ,h2];show 2+_=_;rw[aB];lia
  ·rw[aD,jT];exact di.mpr ⟨cM 1,h3⟩
theorem Hu:∀l:List (Str×Str×Int),qH (l.map amD)=true/\(jJ (l.map amD)).length=3*l.length/\jT (l.map amD)<=1
 |[]=>⟨by simp[qH],by simp[jJ],by simp[jT]⟩
 |k::ks=>by
  obtain⟨h1,h2,h3⟩:=Hu ks;refine⟨?_,?_,?_⟩;·rw[aD,qH,h1];rfl
  ·rw[aD,jJ,aQ,h2];show 3+_=_;rw[aB];lia
  ·rw[aD,jT];exact di.mpr ⟨cM 1,h3⟩
theorem Ro.fl (ρ:Ro) (h:ρ.ok):qH ρ.r=true/\jT ρ.r<3/\(jJ ρ.r).length<=10000:=by
 cases ρ with
 |rcd l=>
  obtain⟨h1,h2,h3⟩:=Ht l;have hl:l.length<=100:=h.1;refine⟨?_,?_,?_⟩;·show qH [.tup (l.map fdD)]=true;rw[qH,okF,h1,qH];rfl
  ·show jT [.tup (l.map fdD)]<3;rw[jT,sP,jT];lia
  ·show(jJ [.tup (l.map fdD)]).length<=_;rw[jJ,flV,jJ,aF,h2];lia
 |case k l=>
  obtain⟨h1,h2,h3⟩:=Hu l;have hl:l.length<=100:=h.1;refine⟨?_,?_,?_⟩;·show qH [kD k,.tup (l.map amD)]=true;simp[qH,okF,kD,h1]
  ·show jT [kD k,.tup (l.map amD)]<3;simp only[jT,sP,kD];lia
  ·show(jJ [kD k,.tup (l.map amD)]).length<=_;simp only[jJ,flV,kD,aF,aQ,h2,bc];lia
 |row ks=>
  obtain⟨h1,h2,h3⟩:=BG ks;have hl:ks.length<=100:=h;refine⟨?_,?_,?_⟩;·show qH [.tup (ks.map kD)]=true;rw[qH,okF,h1,qH];rfl
  ·show jT [.tup (ks.map kD)]<3;rw[jT,sP,jT,h3];lia
  ·show(jJ [.tup (ks.map kD)]).length<=_;rw[jJ,flV,jJ,aF,h2,aE];lia
 |op s ks=>obtain⟨h1,h2,h3⟩:=BG ks;have hl:ks.length<=100:=h.2;exact⟨h1,by show jT (ks.map kD)<3;lia,by show(jJ (ks.map kD)).length<=_;rw[h2,aE];lia⟩
 |_=>exact⟨rfl,by simp[Ro.r,kD,sD,jT,sP],by simp[Ro.r,kD,sD,jJ,flV]⟩
theorem Jy (y:V) (ys:List V):xy (y::ys) (some 1) none=ys/\¬(HT.Internal.sIx (y::ys).length 0 (some 1)=0/\HT.Internal.sIx (y::ys).length (y::ys).length none=(y::ys).length):=by
 have e:HT.Internal.sIx (y::ys).length 0 (some 1)=1:=by show HT.Internal.sIx (y::ys).length 0 (some ((1:Nat):Int))=1;rw[HT.Internal.sIx_nat,aB];lia
 refine⟨?_,fun h=>by rw[e]at h;exact absurd h.1 (by decide)⟩;unfold xy;rw[e,HT.Internal.sIx_none,List.drop_succ_cons,cf,aB,Nat.add_sub_cancel,bw]
theorem Jz (ρ:Ro) (h:ρ.ok):inV (.str ρ.s) [.str "num",.str "name"]=(match ρ with| .num _=>true| .name _=>true|_=>false):=by
 cases ρ with
 |op s ks=>have hs:s∈plain:=h.1;show inV (.str s) _=false;simp only[plain,ak,bD,or_false]at hs;rcases hs with rfl|rfl|rfl|rfl|rfl|rfl|rfl<;>decide+kernel
 |_=>simp only[Ro.s];decide+kernel
def xR:Sp:=fun vs H Q _=>X2 fun(t:Zx) (ρ:Ro)=>Y4 (vs=[.ref t]) (Im H (.ref t) ρ.d) (ρ.ok) (∀l H',gB H H'->H l=none->H' l=some (.lst ρ.pt)->Q (.ref l) H')
theorem xS (T:Txt K mg):FO P w base 5 T.d1 xR:=by
 have gD3:=Fs (P:=P) (w:=w) (base:=base) T 3;refine T.d1.F.rd xJ fun _ A _ s H vs Q E hr h=>?_;obtain⟨t,ρ,rfl,hi,ho,q⟩:=h;refine⟨_,(fW (ij (gN vU (gx gE (cv 0) fZ) (ik (fV gu (fV gu fX))) rfl)
   (gh (gH (gR fX)))
   gL)
  (gh (gH (pF T.d3 gD3 hr.m (fV (ph GP (cv 0) (pU fZ) uA) fX))))),?_⟩;have sl:=sizeLine_eq;obtain⟨f1,f2,f3⟩:=ρ.fl ho
 cases hi with
 |@tup _ ys _ et hs=>
  cases hs with
  |@cons y _ ys _ h1 hs=>
   cases h1;refine⟨_,et,gk (gj (j:=0) rfl) ?_⟩;refine⟨oT,fun p hp=>⟨p,[.str "num",.str "name"],rfl,.inr (SqT.of fY),rfl,rfl,?_⟩⟩;have s1:=gb hp (.tup [.str "num",.str "name"]);generalize upd H p (.tup [.str "num",.str "name"])=H1 at s1⊢;dsimp only[onB];rw[show(if false=true then !inV (.str ρ.s) [.str "num",.str "name"]else inV (.str ρ.s) [.str "num",.str "name"])=_ from Jz ρ ho];have yes:ρ.pt=[]->(Gy (IQ AF) {nx:=fun _ H'=>Q .non H',rt:=Q}:St->Hp->Prop) [some (.ref t)] H1:=fun e=>⟨qL,fun l hl=>q l _ (s1.trans (gb hl _)) (s1.free hl) (by rw[fY,e])⟩;have no:ρ.pt=jJ ρ.r->∃n:Int,V.int 1= .int n/\∃a xs,V.ref t= .ref a/\SqT K H1 a xs/\¬(HT.Internal.sIx xs.length 0 (some n)=0/\HT.Internal.sIx xs.length xs.length none=xs.length)/\∀pc,H1 pc=none->BF 3 [.ref pc] (upd H1 pc (.tup (xy xs (some n) none))) Q E:=fun e=>by obtain⟨c1,c2⟩:=Jy (.str ρ.s) ys;refine⟨1,rfl,t,_,rfl,SqT.of (s1 _ _ et),c2,fun pc hpc=>?_⟩;rw[c1];have s2:=gb hpc (.tup ys);exact⟨pc,ys,ρ.r,rfl,fY,hs.mono (gB.tk (s1.trans s2)),f1,f2,f3,fun l H' S hl e'=>q l H' ((s1.trans s2).trans S) ((s1.trans s2).free hl) (by rw[e',e])⟩
   cases ρ with
   |num n=>exact jl (yes rfl)
   |name n=>exact jl (yes rfl)
   |fn a b=>exact iV (no rfl)
   |tag a b=>exact iV (no rfl)
   |lt a b c=>exact iV (no rfl)
   |get a b=>exact iV (no rfl)
   |rcd a=>exact iV (no rfl)
   |case a b=>exact iV (no rfl)
   |row a=>exact iV (no rfl)
   |op a b=>exact iV (no rfl)
theorem Hv {J:It} {xs:List V} {i:Nat} {tt:TT} {te:TE} {Q:VK} {τ:St} {H1:Hp} {D:Zx} (p:V->Bool) (g:V->V) (hD:H1 D=none) (hz:xs.length<=sizeLine) (hτ:τ.set i none=τ)
  (hgo:∀k H,gB H1 H->k<xs.length->J.go k H) (hy:∀k H v H',gB H1 H->k<xs.length->J.yld k H v H'->H'=H/\xs[k]?=some v) (hst:∀H,gB H1 H->J.stop xs.length H)
  (htt:∀(k:Nat) v H R,xs[k]?=some v->gB H1 H->R (p v) H->tt (τ.set i (some v)) H R)
  (hte:∀(k:Nat) v H R,xs[k]?=some v->p v=true->gB H1 H->R (g v) H->te (τ.set i (some v)) H R)
  (hq:∀H',gB H1 H'->H' D=some (.lst ((xs.filter p).map g))->Q (.ref D) H'):LcP J i tt te Q τ H1 D:=by
 have sm:∀o,gB H1 (upd H1 D o):=fun o b u e=>by rw[gr (gm e hD)];exact e
 refine⟨fun k m σ' H2=>Y4 (m=xs.length-k) (k<=xs.length) ((∃o,σ'=τ.set i o)) (H2=upd H1 D (.lst (((xs.take k).filter p).map g))),⟨xs.length,by simp,cO _,⟨none,hτ.symm⟩,by simp⟩,?_⟩;rintro k m σ' H2 ⟨rfl,hk,⟨o,rfl⟩,rfl⟩;by_cases hlt:k<xs.length
 ·refine .inr ⟨hgo k _ (sm _) hlt,fun v H3 y=>?_⟩;obtain⟨e,hv⟩:=hy k _ v H3 (sm _) hlt y;subst e;rw[br];refine htt k v _ _ hv (sm _) ?_;have tk:(xs.take (k+ 1)).filter p=(xs.take k).filter p++(if p v then[v]else[]):=take_succ_filter p xs k v hv;have ll:((xs.take k).filter p).length<=k:=by refine cH (bu _ _) ?_;rw[aK];lia
  cases hp:p v with
  |true=>rw[gY rfl];refine hte k v _ _ hv hp (sm _) ?_;refine⟨_,fY,by rw[aE];lia,xs.length-(k+ 1),by lia,rfl,hlt,⟨some v,rfl⟩,?_⟩;rw[Ak,tk,hp,gY rfl,bo];rfl
  |false=>rw[gJ fg];refine⟨xs.length-(k+ 1),by lia,rfl,hlt,⟨some v,rfl⟩,?_⟩;rw[tk,hp,gJ fg,aF]
 ·have e:k=xs.length:=by lia
  subst e;refine .inl ⟨hst _ (sm _),hq _ (sm _) ?_⟩;rw[fY,bw]
def isI:V->Bool
 | .int _=>true
 |_=>false
theorem BH:∀ks:List Int,(ks.map V.int).filter isI=ks.map V.int
 |[]=>rfl
 |k::ks=>by rw[aD,List.filter_cons_of_pos rfl,BH ks]
theorem D7:∀l:List (Str×Int),(jJ (l.map fdD)).filter isI=(l.map Prod.snd).map V.int
 |[]=>by simp[jJ]
 |p::l=>by have:=D7 l;rw[aD,jJ,bJ,this];rfl
theorem D8:∀l:List (Str×Str×Int),(jJ (l.map amD)).filter isI=(l.map fun p=>p.2.2).map V.int
 |[]=>by simp[jJ]
 |p::l=>by have:=D8 l;rw[aD,jJ,bJ,this];rfl
theorem Ro.pt_pl (ρ:Ro):ρ.pt.filter isI=ρ.pl.map V.int:=by
 cases ρ with
 |rcd l=>show(jJ [.tup (l.map fdD)]).filter isI=_;rw[jJ,flV,jJ,aF];exact D7 l
 |case k l=>show(jJ [kD k,.tup (l.map amD)]).filter isI=_;rw[jJ,jJ,jJ,flV,aF,bJ,D8 l];rfl
 |row ks=>show(jJ [.tup (ks.map kD)]).filter isI=_;rw[jJ,flV,jJ,aF,(BG ks).2.1];exact BH ks
 |op s ks=>show(jJ (ks.map kD)).filter isI=_;rw[(BG ks).2.1];exact BH ks
 |_=>rfl
theorem Ro.pt_le (ρ:Ro) (h:ρ.ok):ρ.pt.length<=10000:=by
 have:=(ρ.fl h).2.2
 cases ρ with
 |num n=>exact cO _
 |name n=>exact cO _
 |_=>exact this
theorem Hw:∀(d:Dt),okF d=true->∀v∈flV d,(∃n,v= .int n)\/∃s,v= .str s:=by
 intro d;refine Dt.rec (motive_1:=fun d=>okF d=true->∀v∈flV d,(∃n,v= .int n)\/∃s,v= .str s) (motive_2:=fun ds=>qH ds=true->∀v∈jJ ds,(∃n,v= .int n)\/∃s,v= .str s) ?_ ?_ ?_ ?_ ?_ d;·intro v h x hx;rw[flV,bj]at hx;subst hx;cases x<;>first|exact .inl ⟨_,rfl⟩|exact .inr ⟨_,rfl⟩|simp[okF]at h
 ·intro ds ih h v hv;rw[flV]at hv;rw[okF]at h;exact ih h v hv
 ·intro ds ih h;rw[okF]at h;cases h
 ·intro _ v hv;rw[jJ]at hv;cases hv
 ·intro d ds h1 h2 h v hv;rw[jJ]at hv;rw[qH,fj]at h;rcases ao.mp hv with hv|hv;·exact h1 h.1 v hv
  ·exact h2 h.2 v hv
theorem Ro.pt_is (ρ:Ro) (h:ρ.ok):∀v∈ρ.pt,(∃n,v= .int n)\/∃s,v= .str s:=by
 have h1:=(ρ.fl h).1;have h2:=Hw (.tup ρ.r) (by rw[okF];exact h1);rw[flV]at h2
 cases ρ with
 |num n=>intro v hv;cases hv
 |name n=>intro v hv;cases hv
 |_=>exact h2
def wC:Sp:=fun vs H Q _=>X2 fun(t:Zx) (ρ:Ro)=>Y4 (vs=[.ref t]) (Im H (.ref t) ρ.d) (ρ.ok) (∀l H',gB H H'->H l=none->H' l=some (.lst (ρ.pl.map V.int))->Q (.ref l) H')
theorem qI (T:Txt K mg):FO P w base 6 T.d2 wC:=by
 refine T.d2.F.rd wo fun _ A _ s H vs Q E hr h=>?_;obtain⟨t,ρ,rfl,hi,ho,q⟩:=h;refine⟨_,(gh (gH (sN rfl (ES (x:="part") rfl gQ gQ rfl rfl) (jm (pF T.d1 (xS T) hr.m (fV (cv 0) fX))) (fun _ _ _ _ _=>(A1 (jA (gG (r:=rIsi K) kP rfl T.z_isinstance iM (fV (cv 0) (fV (pj rfl T.z_int yD) fX)))))) (fun _ _ _ _ _=>(cv 0))))),?_⟩;have sl:=sizeLine_eq;have lp:=ρ.pt_le ho;refine⟨t,ρ,rfl,hi,ho,fun l H1 S1 hl e1=>⟨l,rfl,⟨_,SqL.of e1⟩,fun D hD=>?_⟩⟩;refine Hv (xs:=ρ.pt) isI id hD (by lia) rfl (fun k H S h=>yH e1 S h) (fun k H v H' S h y=>⟨y.1,y.2 _ (SqL.of (S _ _ e1))⟩) (fun H S=>yI e1 S) ?_ ?_ ?_
 ·intro k v H2 R hv S hR;rcases ρ.pt_is ho v (aP hv)with⟨n,rfl⟩|⟨x,rfl⟩;·exact⟨_,_,_,_,true,rfl,fun _ r=>r,.int n,rfl,_,rfl,hR⟩
  ·exact⟨_,_,_,_,false,rfl,fun _ r=>r,.str x,rfl,_,rfl,hR⟩
 ·intro k v H2 R hv hp S hR;exact hR
 ·intro H' S e;rw[List.map_id,ρ.pt_pl]at e;exact q D H' (S1.trans S) (S1.free hD) e
def Ro.ws:Ro->List Str
 | .rcd l=>l.map Prod.fst
 | .case _ l=>l.map Prod.fst
 |_=>[]
theorem Ro.ws_nd (ρ:Ro) (h:ρ.ok):ρ.ws.Nodup/\ρ.ws.length<=100:=by
 cases ρ with
 |rcd l=>exact⟨h.2,by show(l.map Prod.fst).length<=_;rw[aE];exact h.1⟩
 |case k l=>exact⟨h.2,by show(l.map Prod.fst).length<=_;rw[aE];exact h.1⟩
 |_=>exact⟨cg,cO _⟩
theorem oa (ρ:Ro) (h:ρ.ok) (x:Str) (hx:x∈(["rec","case","fn","let","name","num"]:Zd)):(∃s ks,ρ= .op s ks)->decide (ρ.s=x)=false:=by rintro⟨s,ks,rfl⟩;have hs:s∈plain:=h.1;show decide (s=x)=false;simp only[plain,ak,bD,or_false]at hs hx;rcases hs with rfl|rfl|rfl|rfl|rfl|rfl|rfl<;>rcases hx with rfl|rfl|rfl|rfl|rfl|rfl<;>decide+kernel
def Ro.isR:Ro->Bool
 | .rcd _=>true
 |_=>false
def Ro.isC:Ro->Bool
 | .case _ _=>true
 |_=>false
def Ro.isF:Ro->Bool
 | .fn _ _=>true
 |_=>false
def Ro.isL:Ro->Bool
 | .lt _ _ _=>true
 |_=>false
theorem Ro.hd (ρ:Ro) (h:ρ.ok):decide (ρ.s="rec")=ρ.isR/\decide (ρ.s="case")=ρ.isC/\decide (ρ.s="fn")=ρ.isF/\decide (ρ.s="let")=ρ.isL:=by
 cases ρ with
 |op s ks=>exact⟨oa _ h _ gQ ⟨s,ks,rfl⟩,oa _ h _ gQ ⟨s,ks,rfl⟩,oa _ h _ gQ ⟨s,ks,rfl⟩,oa _ h _ gQ ⟨s,ks,rfl⟩⟩
 |num a=>exact(show decide (("num":Str)="rec")=false/\decide (("num":Str)="case")=false/\decide (("num":Str)="fn")=false/\decide (("num":Str)="let")=false from by decide+kernel)
 |name a=>exact(show decide (("name":Str)="rec")=false/\decide (("name":Str)="case")=false/\decide (("name":Str)="fn")=false/\decide (("name":Str)="let")=false from by decide+kernel)
 |fn a b=>exact(show decide (("fn":Str)="rec")=false/\decide (("fn":Str)="case")=false/\decide (("fn":Str)="fn")=true/\decide (("fn":Str)="let")=false from by decide+kernel)
 |tag a b=>exact(show decide (("tag":Str)="rec")=false/\decide (("tag":Str)="case")=false/\decide (("tag":Str)="fn")=false/\decide (("tag":Str)="let")=false from by decide+kernel)
 |lt a b c=>exact(show decide (("let":Str)="rec")=false/\decide (("let":Str)="case")=false/\decide (("let":Str)="fn")=false/\decide (("let":Str)="let")=true from by decide+kernel)
 |get a b=>exact(show decide (("get":Str)="rec")=false/\decide (("get":Str)="case")=false/\decide (("get":Str)="fn")=false/\decide (("get":Str)="let")=false from by decide+kernel)
 |rcd a=>exact(show decide (("rec":Str)="rec")=true/\decide (("rec":Str)="case")=false/\decide (("rec":Str)="fn")=false/\decide (("rec":Str)="let")=false from by decide+kernel)
 |case a b=>exact(show decide (("case":Str)="rec")=false/\decide (("case":Str)="case")=true/\decide (("case":Str)="fn")=false/\decide (("case":Str)="let")=false from by decide+kernel)
 |row a=>exact(show decide (("row":Str)="rec")=false/\decide (("row":Str)="case")=false/\decide (("row":Str)="fn")=false/\decide (("row":Str)="let")=false from by decide+kernel)
theorem yW {a:Zx} {te:TE} {Q:VK} {τ:St} {H1:Hp} {D:Zx} {xs:List V} {α:Type} {f:α->Dt} {g:α->Str} {l:List α} (e:H1 a=some (.tup xs)) (I:Ims H1 xs (l.map f)) (hn:l.length<=100) (hD:H1 D=none) (hτ:τ.set 0 none=τ)
  (ht:∀(x:α) (v:V) H (R:VK),Im H v (f x)->R (.str (g x)) H->te (τ.set 0 (some v)) H R)
  (hq:∀H',gB H1 H'->H' D=some (.lst ((l.map g).map V.str))->Q (.ref D) H'):LcP (Itt K a) 0 uD te Q τ H1 D:=by
 have sl:=sizeLine_eq;have lx:=I.length;rw[aE]at lx;refine v8 l.length (by lia) (fun ys H=>ys=((l.take ys.length).map g).map V.str) (fun xs H H' h _=>h) hD hτ (fun k H S h=>D4 e S (by lia)) (fun H S=>by rw[<-lx];exact D5 e S) rfl ?_ ?_;·intro k H v H3 ys Z S hk y hys hl hz;obtain⟨rfl,hv⟩:=y;have hv:=hv _ (SqT.of (S _ _ e));obtain⟨d,hd,him⟩:=jP I hv;rw[aO]at hd;obtain⟨x,hx⟩:∃x,l[k]?=some x:=⟨_,bB hk⟩;rw[hx]at hd;cases hd;refine ht x v H3 Z (him.mono (gB.tk S)) (hz _ _ (gB.refl _) ?_);rw[aQ,hl,bc,cb,hx,bo,bo,<-hl,<-hys];rfl
 ·intro H' ys S hys hl e';rw[hl,bw]at hys;exact hq H' S (by rw[e',hys])
def uY:Sp:=fun vs H Q _=>X2 fun(t:Zx) (ρ:Ro)=>Y4 (vs=[.ref t]) (Im H (.ref t) ρ.d) (ρ.ok) (∀l H',gB H H'->H l=none->H' l=some (.lst (ρ.ws.map V.str))->Q (.ref l) H')
theorem uZ (T:Txt K mg):FO P w base 1 T.d22 uY:=by
 refine T.d22.F.rd uW fun _ A _ s H vs Q E hr h=>?_;obtain⟨t,ρ,rfl,hi,ho,q⟩:=h;refine⟨_,(fW (ij (gN lU (gx gE (cv 0) fZ) gu)
   (gh (gH (sN rfl (ES (x:="field") rfl gQ gQ rfl rfl) (tN (gx gE (cv 0) fZ)) (fun _ _ _ _ _=>mS) (fun _ _ _ _ _=>(gx gE (cv 0) fZ)))))
   gL)
  (fW (ij (gN lU (gx gE (cv 0) fZ) gu)
   (gh (gH (sN rfl (ES (x:="arm") rfl gQ gQ rfl rfl) (tN (gx gE (cv 0) fZ)) (fun _ _ _ _ _=>mS) (fun _ _ _ _ _=>(gx gE (cv 0) fZ)))))
   gL)
  (gh (gH (gR fX))))),?_⟩;have sl:=sizeLine_eq;obtain⟨h1,h2,_,_⟩:=ρ.hd ho
 cases hi with
 |@tup _ ys _ et hs=>
  cases hs with
  |@cons y _ ys _ hy hs=>
   cases hy;refine⟨_,et,gk (gj (j:=0) rfl) ?_⟩;dsimp only[tC,cEq,onB];rw[fo,h1];have non:ρ.ws=[]->(Gy (IQ AF) {nx:=fun _ H'=>Q .non H',rt:=Q}:St->Hp->Prop) [some (.ref t)] H:=fun e=>⟨qL,fun l hl=>q l _ (gb hl _) hl (by rw[fY,e];rfl)⟩
   cases ρ with
   |rcd l=>
    refine jl ?_
    cases hs with
    |cons hx _=>
     cases hx with
     |@tup ta xs _ eta hxs=>
      refine⟨_,et,gk (gj (j:=1) rfl) ⟨ta,rfl,⟨_,SqT.of eta⟩,fun D hD=>?_⟩⟩;refine yW (f:=fdD) (g:=Prod.fst) eta hxs ho.1 hD rfl ?_ (fun H' S e=>q D H' S hD e);intro x v H2 R hv hR
      cases hv with
      |tup ev hvs=>
       cases hvs with
       |cons a _=>cases a;exact⟨_,ev,gk (gj (j:=0) rfl) hR⟩
   |case k l=>
    refine iV ⟨_,et,gk (gj (j:=0) rfl) ?_⟩;dsimp only[tC,cEq,onB];rw[fo,h2];refine jl ?_
    cases hs with
    |cons _ hs=>
     cases hs with
     |cons hx _=>
      cases hx with
      |@tup ta xs _ eta hxs=>
       refine⟨_,et,gk (gj (j:=2) rfl) ⟨ta,rfl,⟨_,SqT.of eta⟩,fun D hD=>?_⟩⟩;refine yW (f:=amD) (g:=Prod.fst) eta hxs ho.1 hD rfl ?_ (fun H' S e=>q D H' S hD e);intro x v H2 R hv hR
       cases hv with
       |tup ev hvs=>
        cases hvs with
        |cons a _=>cases a;exact⟨_,ev,gk (gj (j:=0) rfl) hR⟩
   |_=>refine iV ⟨_,et,gk (gj (j:=0) rfl) ?_⟩;dsimp only[tC,cEq,onB];rw[fo,h2];exact iV (non rfl)
def exG (g:Str->Option Hm):Option (Str×Hm)->(Str->Option Hm)
 |none=>g
 |some (x,h)=>wid g x h
def Ro.ex:Ro->List (Option (Str×Hm))
 | .fn w k=>[some (w,("fn",k))]
 | .lt w a _=>[none,some (w,("let",a))]
 | .case _ l=>none::l.map fun p=>some (p.2.1,("arm",p.2.2))
 |ρ=>ρ.pl.map fun _=>none
theorem Sc.le {H:Hp} {a:Zx} {g:Str->Option Hm} {n m:Nat} (h:Sc H a g n) (l:n<=m):Sc H a g m:=by obtain⟨kvs,e,l',h⟩:=h;exact⟨kvs,e,cH l' l,h⟩
theorem Sc.upd {H:Hp} {a d:Zx} {g:Str->Option Hm} {n:Nat} {kv:List (Key×V)} {o:HO} (h:Sc H a g n) (e:H d=some (.dK kv)) (ne:a≠d):Sc (L2.Internal.upd H d o) a g n:=by
 obtain⟨kvs,e1,l,h⟩:=h;refine⟨kvs,by rw[gr ne];exact e1,l,fun w=>?_⟩;have:=h w
 cases hg:g w with
 |none=>rw[hg]at this;exact this
 |some z=>rw[hg]at this;obtain⟨t,h1,h2⟩:=this;exact⟨t,h1,by rw[gr (kS h2 e (fun z=>nomatch z))];exact h2⟩
theorem Sc.dk {H:Hp} {a:Zx} {g:Str->Option Hm} {n:Nat} (h:Sc H a g n):∃kv,H a=some (.dK kv):=by obtain⟨kvs,e,_⟩:=h;exact⟨kvs,e⟩
theorem yX {kvs:List (Key×V)} {k:Key} (v:V) (hn:(kvs.map (·.1)).Nodup):((oj kvs k v).map (·.1)).Nodup:=by
 cases q:jK kvs k with
 |none=>exact EN v hn q
 |some x=>
  have e:(oj kvs k v).map (·.1)=kvs.map (·.1):=by unfold oj;rw[lG,q];rw[gY (show(some x).isSome=true from rfl),bC];refine bW fun p _=>?_;show(if p.1=k then(p.1,v)else p).1=p.1;split<;>rfl
  rw[e];exact hn
theorem sC:∀(more kvs:List (Key×V)) (k:Key),(more.map (·.1)).Nodup->jK (pf kvs more) k=match jK more k with|some v=>some v|none=>jK kvs k
 |[],kvs,k,_=>rfl
 |p::more,kvs,k,nd=>by
  obtain⟨h1,h2⟩:=aG.mp (show(p.1::more.map (·.1)).Nodup from nd);show jK (pf (oj kvs p.1 p.2) more) k=_;rw[sC more _ k h2];by_cases e:p.1=k
  ·rw[jv e];have:jK more k=none:=by
    cases q:jK more k with
    |none=>rfl
    |some x=>exact absurd (EM q) (by rw[<-e];exact h1)
   rw[this];show jK (oj kvs p.1 p.2) k=some p.2;rw[iT,gY e.symm]
  ·rw[jw e]
   cases q:jK more k with
   |some x=>rfl
   |none=>show jK (oj kvs p.1 p.2) k=jK kvs k;rw[iT,gJ (fun z=>e z.symm)]
def InS (W:Zx->Prop) (H:Hp) (kvs:List (Key×V)) (ρ:Ro) (g:Str->Option Hm) (n:Nat):Prop:=∀c:Int,(jK kvs (.inl c)=none/\c∉ρ.pl)\/∃(j:Nat) (e:Option (Str×Hm)) (a:Zx),W a/\ρ.pl[j]?=some c/\ρ.ex[j]?=some e/\jK kvs (.inl c)=some (.ref a)/\Sc H a (exG g e) (n+ 1)
theorem Hx {x:Str} {A B u:TS} {D:rA} {σ:St} {H:Hp} {t:Zx} {ys:List V} {s:Str} {b:Bool} (hσ:σ[0]?=some (some (.ref t))) (et:H t=some (.tup (.str s::ys))) (hb:decide (s=x)=b) (k:if b=true then A {D with nx:=u D} σ H else B {D with nx:=u D} σ H):
  Cv (CC (cT (tOp (cEq false) (tOp Gh (cV 0) (tC (.int 0))) (tC (.str x)))) A B) u D σ H:=by show onV σ[0]? _;rw[hσ];refine⟨_,et,gk (gj (j:=0) rfl) ?_⟩;dsimp only[tC,cEq,onB];rw[fo,hb];exact k
theorem pH {x:Str} {A u:TS} {D:rA} {σ:St} {H:Hp} {t:Zx} {ys:List V} {s:Str} (hσ:σ[0]?=some (some (.ref t))) (et:H t=some (.tup (.str s::ys))) (hb:decide (s=x)=false) (k:u D σ H):
  Cv (CC (cT (tOp (cEq false) (tOp Gh (cV 0) (tC (.int 0))) (tC (.str x)))) A qM) u D σ H:=Hx hσ et hb (iV k)
theorem BI {x:Str} {A B u:TS} {D:rA} {σ:St} {H:Hp} {t:Zx} {ys:List V} {s:Str} (hσ:σ[0]?=some (some (.ref t))) (et:H t=some (.tup (.str s::ys))) (hb:decide (s=x)=true) (k:A {D with nx:=u D} σ H):
  Cv (CC (cT (tOp (cEq false) (tOp Gh (cV 0) (tC (.int 0))) (tC (.str x)))) A B) u D σ H:=Hx hσ et hb (jl k)
theorem Ro.pl_le (ρ:Ro) (h:ρ.ok):ρ.pl.length<=101:=by
 cases ρ with
 |rcd l=>show(l.map Prod.snd).length<=_;rw[aE];exact cH h.1 (by decide)
 |case k l=>show(k::l.map fun p=>p.2.2).length<=_;rw[aB,aE];have:=h.1;lia
 |row ks=>exact cH h (by decide)
 |op s ks=>exact cH h.2 (by decide)
 |_=>simp[Ro.pl]
theorem BJ {W:Zx->Prop} {H:Hp} {kvs:List (Key×V)} {ρ:Ro} {g:Str->Option Hm} {n:Nat} {a:Zx} (hW:W a) (hx:ρ.ex=ρ.pl.map fun _=>none) (hs:Sc H a g n) (hv:∀c:Int,jK kvs (.inl c)=if c∈ρ.pl then some (.ref a)else none):InS W H kvs ρ g n:=by
 intro c;by_cases h:c∈ρ.pl;·obtain⟨j,hj⟩:=cj.mp h;exact .inr ⟨j,none,a,hW,hj,by rw[hx,aO,hj];rfl,by rw[hv c,gY h],hs.le (cQ _)⟩
 ·exact .inl ⟨by rw[hv c,gJ h],h⟩
def sE:Sp:=fun vs H Q _=>X5 fun(t a:Zx) (ρ:Ro) (g:Str->Option Hm) (n:Nat)=>Y6 (vs=[.ref t,.ref a]) (Im H (.ref t) ρ.d) (ρ.ok) (Sc H a g n) (n<9000) (
 ∀d kvs H',gB H H'->H d=none->H' d=some (.dK kvs)->(kvs.map (·.1)).Nodup->kvs.length<=300->InS (fun b=>b=a\/H b=none) H' kvs ρ g n->Q (.ref d) H')
theorem sF (T:Txt K mg):FO P w base 7 T.d25 sE:=by
 refine T.d25.F.rd kh fun _ A _ s H vs Q E hr h=>?_;have hu:=vW hr;obtain⟨t,a,ρ,g,n,rfl,hi,ho,hsc,hn,q⟩:=h;refine⟨_,(fW (pS (i:=2) kh.nd pd)
  (fW (jk PassesOwn.never rfl (jm (pF T.d2 (qI T) hr.m (fV (cv 0) fX))) (pN (i:=3) kh.nd)
   (gh (mQ hu (cv 2) (cv 3) (cv 1) rfl)))
  (fW (ij (gN lU (gx gE (cv 0) fZ) gu)
   (gh (mQ hu (cv 2) (gx gE (cv 0) fZ) (pF T.d26 (uc T) hr.m (fV (cv 1) (fV (gx gE (cv 0) fZ) (fV (ik (fV gu (fV (gx gE (cv 0) fZ) fX))) fX)))) rfl))
   gL)
  (fW (ij (gN lU (gx gE (cv 0) fZ) gu)
   (gh (mQ hu (cv 2) (gx gE (cv 0) fZ) (pF T.d26 (uc T) hr.m (fV (cv 1) (fV (gx gE (cv 0) fZ) (fV (ik (fV gu (fV (gx gE (cv 0) fZ) fX))) fX)))) rfl))
   gL)
  (fW (ij (gN lU (gx gE (cv 0) fZ) gu)
   (gh (jk PassesOwn.never rfl (tN (gx gE (cv 0) fZ)) (pN (i:=4) kh.nd)
    (gh (mQ hu (cv 2) (gx gE (cv 4) fZ) (pF T.d26 (uc T) hr.m (fV (cv 1) (fV (gx gE (cv 4) fZ) (fV (ik (fV gu (fV (gx gE (cv 4) fZ) fX))) fX)))) rfl))))
   gL)
  (gh (gH (cv 2)))))))),?_⟩;have sl:=sizeLine_eq;obtain⟨_,h2,h3,h4⟩:=ρ.hd ho;have lp:=ρ.pl_le ho;intro d hd;have s1:=gb hd (.dK []);have ed:(upd H d (.dK [])) d=some (.dK []):=fY;dsimp only[hJ];generalize upd H d (.dK [])=H1 at s1 ed⊢;have nad:a≠d:=by obtain⟨kv,e⟩:=hsc.dk;exact gm e hd
 refine⟨t,ρ,rfl,hi.mono (gB.tk s1),ho,fun l H1' S1 hl e1=>⟨l,rfl,⟨_,SqL.of e1⟩,jV (xs:=ρ.pl.map V.int) (fun i σ H2=>X2 fun(o:Option V) (kvs:List (Key×V))=>Y7 (σ=[some (.ref t),some (.ref a),some (.ref d),o,none]) (gB H H2) (H2 l=some (.lst (ρ.pl.map V.int))) (H2 d=some (.dK kvs)) ((kvs.map (·.1)).Nodup) (kvs.length<=i) (∀c:Int,jK kvs (.inl c)=if c∈ρ.pl.take i then some (.ref a)else none))
  ⟨none,[],rfl,s1.trans S1,e1,S1 _ _ ed,cg,cO _,fun c=>by rw[List.take_zero,gJ bD];rfl⟩ (fun i σ H2 _ ⟨_,_,_,_,e,_,_,_,_⟩=>SqL.of e) ?_ ?_⟩⟩
 ·rintro i v σ H2 hv ⟨o,kvs,rfl,S,el,ek,nd,hk,hc⟩;rw[aO]at hv;obtain⟨c,hcc,rfl⟩:=dB.mp hv;have hi:=(au.mp hcc).1;have nld:l≠d:=(gm ed hl).symm;refine⟨d,_,rfl,zH.k (k:=Sum.inl c) ek (by lia),_,_,rfl,hI S hd _,by rw[gr nld];exact el,fY,yX _ nd,cH (iW _ _ _) (by lia),fun c'=>?_⟩;rw[iT,cb,hcc];by_cases z:c'=c;·rw[gY (by rw[z]),gY (by simp[z])]
  ·rw[gJ (fun y=>z (by injection y)),hc c'];simp[z]
 ·rintro σ H2 ⟨o,kvs,rfl,S,el,ek,nd,hk,hc⟩;rw[aE,bw]at hc;rw[aE]at hk;have hi2:=hi;have hsc2:=hsc.same S;have fin:∀{o3 o4:Option V} {H3:Hp} {kvs:List (Key×V)},gB H H3->H3 d=some (.dK kvs)->(kvs.map (·.1)).Nodup->kvs.length<=300->InS (fun b=>b=a\/H b=none) H3 kvs ρ g n->(Gy (cV 2) {nx:=fun _ H'=>Q .non H',rt:=Q}:St->Hp->Prop) [some (.ref t),some (.ref a),some (.ref d),o3,o4] H3:=fun S3 e3 n3 l3 i3=>q d _ _ S3 hd e3 n3 l3 i3
  cases hi2 with
  |@tup _ ys _ et0 hs=>
   have et:=S _ _ et0
   cases hs with
   |@cons y _ ys _ hy hs=>
    cases hy;dsimp only
    cases ρ with
    |fn x k=>
     cases hs with
     |cons a1 hs=>
      cases hs with
      |cons a2 hs=>
       cases a1;cases a2;cases hs;refine BI rfl et h3 ⟨_,et,gk (gj (j:=1) rfl) ⟨_,et,gk (gj (j:=2) rfl) ⟨oT,fun p hp=>?_⟩⟩⟩;have sp:=gb hp (.tup [.str "fn",.int k]);refine⟨a,p,g,n,x,("fn",k),rfl,hsc2.same sp,by lia,fY,fun b H4 S4 hb sc4=>?_⟩;have S24:=sp.trans S4;refine⟨_,S24 _ _ et,gk (gj (j:=2) rfl) ⟨d,_,rfl,zH.k (k:=Sum.inl k) (S24 _ _ ek) (by lia),?_⟩⟩;have nbd:b≠d:=(gm (sp _ _ ek) hb).symm;have et5:(upd H4 d (.dK (oj kvs (Sum.inl k) (.ref b)))) t=some (.tup (.str "fn"::[.str x,.int k])):=by rw[gr (kS (S24 _ _ et) (S24 _ _ ek) (fun z=>nomatch z))];exact S24 _ _ et
       dsimp only;refine pH rfl et5 h4 (pH rfl et5 h2 (fin (hI (S.trans S24) hd _) fY (yX _ nd) (cH (iW _ _ _) (by lia)) fun c=>?_));by_cases z:c=k;·exact .inr ⟨0,_,b,.inr ((S.trans sp).free hb),by rw[z];rfl,rfl,by rw[iT,gY (by rw[z])],sc4.upd (S24 _ _ ek) nbd⟩
       ·exact .inl ⟨by rw[iT,gJ (fun y=>z (by injection y)),hc c,gJ (by simpa[Ro.pl]using z)],by simpa[Ro.pl]using z⟩
    |lt x k1 k2=>
     refine pH rfl et h3 ?_
     cases hs with
     |cons a1 hs=>
      cases hs with
      |cons a2 hs=>
       cases hs with
       |cons a3 hs=>
        cases a1;cases a2;cases a3;cases hs;refine BI rfl et h4 ⟨_,et,gk (gj (j:=1) rfl) ⟨_,et,gk (gj (j:=2) rfl) ⟨oT,fun p hp=>?_⟩⟩⟩;have sp:=gb hp (.tup [.str "let",.int k1]);refine⟨a,p,g,n,x,("let",k1),rfl,hsc2.same sp,by lia,fY,fun b H4 S4 hb sc4=>?_⟩;have S24:=sp.trans S4;refine⟨_,S24 _ _ et,gk (gj (j:=3) rfl) ⟨d,_,rfl,zH.k (k:=Sum.inl k2) (S24 _ _ ek) (by lia),?_⟩⟩;have nbd:b≠d:=(gm (sp _ _ ek) hb).symm;have et5:(upd H4 d (.dK (oj kvs (Sum.inl k2) (.ref b)))) t=some (.tup (.str "let"::[.str x,.int k1,.int k2])):=by rw[gr (kS (S24 _ _ et) (S24 _ _ ek) (fun z=>nomatch z))];exact S24 _ _ et
        dsimp only;refine pH rfl et5 h2 (fin (hI (S.trans S24) hd _) fY (yX _ nd) (cH (iW _ _ _) (by lia)) fun c=>?_);by_cases z:c=k2;·exact .inr ⟨1,_,b,.inr ((S.trans sp).free hb),by rw[z];rfl,rfl,by rw[iT,gY (by rw[z])],sc4.upd (S24 _ _ ek) nbd⟩
        ·by_cases z1:c=k1;·exact .inr ⟨0,_,a,.inl rfl,by rw[z1];rfl,rfl,by rw[iT,gJ (fun y=>z (by injection y)),hc c,gY (by simp[Ro.pl,z1])],((hsc2.same S24).upd (S24 _ _ ek) nad).le (cQ _)⟩
         ·exact .inl ⟨by rw[iT,gJ (fun y=>z (by injection y)),hc c,gJ (by simp[Ro.pl,z,z1])],by simp[Ro.pl,z,z1]⟩
    |case k0 l=>
     refine pH rfl et h3 (pH rfl et h4 ?_)
     cases hs with
     |cons a1 hs=>
      cases hs with
      |cons a2 hs=>
       cases a1;cases hs
       cases a2 with
       |@tup ta xs _ eta hxs=>
        have lx:=hxs.length;rw[aE]at lx;have hl100:l.length<=100:=ho.1;refine BI rfl et h2 ⟨_,et,gk (gj (j:=2) rfl) ⟨ta,rfl,⟨_,SqT.of (S _ _ eta)⟩,xm (xs:=xs) (fun i σ H3=>X2 fun(o4:Option V) (kvs:List (Key×V))=>Y6 (σ=[some (.ref t),some (.ref a),some (.ref d),o,o4]) (gB H H3) (H3 d=some (.dK kvs)) ((kvs.map (·.1)).Nodup) (kvs.length<=101+i) (∀c:Int,(∃(j:Nat) (p:Str×Str×Int) (b:Zx),j<i/\l[j]?=some p/\p.2.2=c/\jK kvs (.inl c)=some (.ref b)/\(b≠d/\H b=none)/\Sc H3 b (wid g p.2.1 ("arm",c)) (n+ 1))\/((∀(j:Nat) (p:Str×Str×Int),j<i->l[j]?=some p->p.2.2≠c)/\jK kvs (.inl c)=if c∈(Ro.case k0 l).pl then some (.ref a)else none)))
         ⟨none,kvs,rfl,S,ek,nd,by lia,fun c=> .inr ⟨fun j p hj=>absurd hj (dh _),hc c⟩⟩ (fun i σ H3 _ ⟨_,_,_,S3,_,_,_,_⟩=>SqT.of (S3 _ _ eta)) ?_ ?_⟩⟩
        ·rintro i v σ H3 hv ⟨o4,kvs,rfl,S3,ek,nd,hk,hc⟩;obtain⟨dd,hdd,him⟩:=jP hxs hv;rw[aO]at hdd;obtain⟨⟨tg,x,kk⟩,hp,rfl⟩:=dB.mp hdd;have hi:=(au.mp hp).1
         cases him with
         |@tup tb _ _ eb hb=>
          cases hb with
          |cons b1 hb=>
           cases hb with
           |cons b2 hb=>
            cases hb with
            |cons b3 hb=>
             cases b1;cases b2;cases b3;cases hb;refine⟨_,S3 _ _ eb,gk (gj (j:=1) rfl) ⟨_,S3 _ _ eb,gk (gj (j:=2) rfl) ⟨oT,fun p hp'=>?_⟩⟩⟩;have sp:=gb hp' (.tup [.str "arm",.int kk]);refine⟨a,p,g,n,x,("arm",kk),rfl,(hsc.same S3).same sp,by lia,fY,fun b H4 S4 hb sc4=>?_⟩;have S34:=sp.trans S4;refine⟨_,S34 _ _ (S3 _ _ eb),gk (gj (j:=2) rfl) ⟨d,_,rfl,zH.k (k:=Sum.inl kk) (S34 _ _ ek) (by lia),?_⟩⟩;have nbd:b≠d:=(gm (sp _ _ ek) hb).symm;refine⟨_,_,rfl,hI (S3.trans S34) hd _,fY,yX _ nd,cH (iW _ _ _) (by lia),fun c=>?_⟩;by_cases z:c=kk;·exact .inl ⟨i,_,b,cP _,hp,z.symm,by rw[iT,gY (by rw[z])],⟨nbd,(S3.trans sp).free hb⟩,by rw[z];exact sc4.upd (S34 _ _ ek) nbd⟩
             ·rcases hc c with⟨j,p,b',c1,c2,c3,c4,c5,c6⟩|⟨c1,c2⟩;·exact .inl ⟨j,p,b',cU c1,c2,c3,by rw[iT,gJ (fun y=>z (by injection y))];exact c4,c5,(c6.same S34).upd (S34 _ _ ek) c5.1⟩
              ·refine .inr ⟨fun j p hj hp2=>?_,by rw[iT,gJ (fun y=>z (by injection y))];exact c2⟩;by_cases e:j=i;·rw[e,hp]at hp2;cases hp2;exact fun y=>z y.symm
               ·exact c1 j p (by lia) hp2
        ·rintro σ H3 ⟨o4,kvs,rfl,S3,ek,nd,hk,hc⟩;refine fin (o3:=o) (o4:=o4) S3 ek nd (by lia) fun c=>?_;rcases hc c with⟨j,p,b',c1,c2,c3,c4,c5,c6⟩|⟨c1,c2⟩
         ·refine .inr ⟨j+ 1,some (p.2.1,("arm",p.2.2)),b',.inr c5.2,?_,?_,c4,?_⟩;·show(k0::l.map fun p=>p.2.2)[j+ 1]?=_;rw[bE,aO,c2,<-c3];rfl
          ·show(none::l.map fun p=>some (p.2.1,(("arm":Str),p.2.2)))[j+ 1]?=_;rw[bE,aO,c2];rfl
          ·rw[c3];exact c6
         ·by_cases z:c=k0;·exact .inr ⟨0,none,a,.inl rfl,by rw[z];rfl,rfl,by rw[c2,gY (by simp[Ro.pl,z])],(hsc.same S3).le (cQ _)⟩
          ·have nm:c∉(Ro.case k0 l).pl:=fun hm=>by
            rcases ak.mp (show c∈(k0::l.map fun p=>p.2.2)from hm)with h|h;·exact z h
            ·obtain⟨p,hp,e⟩:=bf.mp h;obtain⟨j,hj⟩:=cj.mp hp;exact c1 j p (by rw[lx];exact(au.mp hj).1) hj e
           exact .inl ⟨by rw[c2,gJ nm],nm⟩
    |_=>exact pH rfl et h3 (pH rfl et h4 (pH rfl et h2 (fin S ek nd (by lia) (BJ (.inl rfl) rfl hsc2 hc))))
theorem yY {K:Zp} {a:Zx} {xs:List V} {g:TG} {tb:TS} {D:rA} {σ:St} {H:Hp} (Pv:Nat->St->Hp->Prop) (h0:Pv 0 σ H) (hl:∀i σ H,i<=xs.length->Pv i σ H->SqL K H a xs)
  (hs:∀(i:Nat) (x:V) (σ:St) (H:Hp) (T:Zx),xs[i]?=some x->Pv i σ H->H T=none->g (.ref T) σ (upd H T (.tup [.int (i:Int),x])) fun σ2 H2=>tb {D with nx:=Pv (i+ 1),ct:=Pv (i+ 1),bk:=D.nx} σ2 H2) (hd:∀σ H,Pv xs.length σ H->D.nx σ H):
  ∃W:Nat->Nat->St->Hp->Prop,(∃m,W 0 m σ H)/\∀i m σ H,W i m σ H->
   ((Ite K a).stop i H/\D.nx σ H)\/((Ite K a).go i H/\∃N:St->Hp->Prop,(∀σ' H',N σ' H'->∃m',m'<m/\W (i+ 1) m' σ' H')/\∀x H',(Ite K a).yld i H x H'->g x σ H' fun σ2 H2=>tb {D with nx:=N,ct:=N,bk:=D.nx} σ2 H2):=by
 refine⟨fun i m σ H=>Y3 (m=xs.length-i) (i<=xs.length) (Pv i σ H),⟨xs.length,by simp,cO _,h0⟩,?_⟩;rintro i m σ H ⟨rfl,hi,p⟩;have q:=hl i σ H hi p;by_cases hlt:i<xs.length;·refine .inr ⟨⟨xs,xs[i],q,by simp[hlt]⟩,Pv (i+ 1),fun σ' H' p'=>⟨xs.length-(i+ 1),by lia,rfl,hlt,p'⟩,fun v H' y=>?_⟩;obtain⟨T,x,rfl,hT,rfl,hx⟩:=y;exact hs i x σ H T (hx xs q) p hT
 ·have e:i=xs.length:=by lia
  subst e;exact .inl ⟨⟨xs,q,rfl⟩,hd σ H p⟩
theorem Fv {f:Str} {v:V} {r:List (Str×V)}:aC f ((f,v)::r)=some v:=by rw[bp,show(f==f)=true by simp]
theorem Fw {f g:Str} {v:V} {r:List (Str×V)} (h:(f==g)=false):aC f ((g,v)::r)=aC f r:=by rw[bp,h]
def fP (n r w:Zx):List (Str×V):=[("names",.ref n),("roots",.ref r),("rows",.ref w)]
theorem yZ (n r w:Zx):(fP n r w).lookup ("names":Str)=some (.ref n):=Fv
theorem y0 (n r w:Zx):(fP n r w).lookup ("roots":Str)=some (.ref r):=(Fw gQ).trans Fv
theorem u0 (n r w:Zx):(fP n r w).lookup ("rows":Str)=some (.ref w):=(Fw gQ).trans ((Fw gQ).trans Fv)
def nI (k:Nat):V:= .int (k:Int)
structure PrA (C:Zx) (H:Hp) (p n r w dx:Zx) (xs:List V) (names:Zd) (roots:List Nat) (ρs:List Ro):Prop where
 o:H p=some (.ins C dx (fP n r w))
 n:H n=some (.lst (names.map V.str))
 r:H r=some (.lst (roots.map nI))
 w:H w=some (.lst xs)
 i:Ims H xs (ρs.map Ro.d)
theorem PrA.same {C:Zx} {H H':Hp} {p n r w dx:Zx} {xs:List V} {names:Zd} {roots:List Nat} {ρs:List Ro} (h:PrA C H p n r w dx xs names roots ρs) (s:gB H H'):PrA C H' p n r w dx xs names roots ρs:=⟨s _ _ h.o,s _ _ h.n,s _ _ h.r,s _ _ h.w,h.i.mono (gB.tk s)⟩
def G0 (names:Zd):Nat->(Str->Option Hm)
 |0=>fun _=>none
 |d+ 1=>match names[d]? with
  |some x=>wid (G0 names d) x ("def",(d:Int))
  |none=>G0 names d
structure Cw (names:Zd) (roots:List Nat) (ρs:List Ro) (out:Nat->Str->Option Hm):Prop where
 nn:names.Nodup
 nl:names.length<=12
 rl:roots.length=names.length
 ok:∀ρ∈ρs,ρ.ok
 pn:ρs.length<=1000
 rlt:∀(i r:Nat),roots[i]?=some r->r<ρs.length
 root:∀(i r:Nat) (ρ:Ro),roots[i]?=some r->ρs[r]?=some ρ->out r=if ρ.isF=true then G0 names (i+ 1)else G0 names i
 kid:∀(k:Nat) (ρ:Ro) (j:Nat) (c:Int) (e:Option (Str×Hm)),ρs[k]?=some ρ->ρ.pl[j]?=some c->ρ.ex[j]?=some e->∃m:Nat,c=(m:Int)/\k<m/\out m=exG (out k) e
 reach:∀k:Nat,k<ρs.length->(∃i:Nat,roots[i]?=some k)\/∃(k':Nat) (ρ:Ro),k'<k/\ρs[k']?=some ρ/\(k:Int)∈ρ.pl
 nm:∀(k:Nat) (x:Str),ρs[k]?=some (.name x)->∃h,out k x=some h
def duo (out:Nat->Str->Option Hm) (k:Nat):Ro->Option Hm
 | .name x=>out k x
 |_=>none
def hoD:Option Hm->Dt
 |none=> .flat .non
 |some h=>hmD h
theorem u4 {H:Hp} {xs:List V} {ρs:List Ro} {k:Nat} {ρ:Ro} (h:Ims H xs (ρs.map Ro.d)) (e:ρs[k]?=some ρ):∃(t:Zx) (ys:List V),xs[k]?=some (.ref t)/\H t=some (.tup (.str ρ.s::ys))/\Ims H ys ρ.r/\Im H (.ref t) ρ.d:=by
 have lx:=h.length;rw[aE]at lx;have hk:=(au.mp e).1;obtain⟨d,hd,him⟩:=jP h (bB (show k<xs.length by lia));rw[aO,e]at hd;cases hd;have h0:xs[k]?=some xs[k]:=bB (by lia);generalize xs[k]=v at h0 him;have him':=him
 cases him with
 |@tup t ys _ et hs=>
  cases hs with
  |cons a hs=>cases a;exact⟨t,_,h0,et,hs,him'⟩
def sX (C:Zx):Sp:=fun vs H Q _=>X10 fun(p n r w dx:Zx) (xs:List V) (names:Zd) (roots:List Nat) (ρs:List Ro) (out:Nat->Str->Option Hm)=>Y4 (vs=[.ref p]) (PrA C H p n r w dx xs names roots ρs) (Cw names roots ρs out) (
 ∀d kvs H',gB H H'->H d=none->H' d=some (.dK kvs)->kvs.length<=12->(∀(i c:Nat),roots[i]?=some c->∃a,a≠d/\jK kvs (.inl (c:Int))=some (.ref a)/\Sc H' a (out c) 20)->Q (.ref d) H')
theorem sY (T:Txt K mg):FO P w base 2 T.d24 (sX T.c7.a):=by
 refine T.d24.F.rd iO fun _ A _ s H vs Q E hr h=>?_;have hu:=vW hr;obtain⟨p,n,r,w,dx,xs,names,roots,ρs,out,rfl,pr,gd,q⟩:=h;refine⟨_,(fW (pS (i:=1) iO.nd pd)
  (fW (pS (i:=2) iO.nd pd)
  (fW (jk PassesOwn.never rfl (xE rfl T.z_enumerate (fV (gX T.c7.cl T.n7names (cv 0)) fX)) (yv rfl (lF (pN (i:=3) iO.nd) (lF (pN (i:=4) iO.nd) uo)))
   (fW (pS (i:=5) iO.nd (gx gC (gX T.c7.cl T.n7roots (cv 0)) (cv 3)))
   (fW (pS (i:=6) iO.nd (pF T.d26 (uc T) hr.m (fV (cv 2) (fV (cv 4) (fV (ik (fV gu (fV (cv 3) fX))) fX)))))
   (fW (mQ hu (cv 1) (cv 5) (um (gN lU (gx gE (gx gC (gX T.c7.cl T.n7rows (cv 0)) (cv 5)) fZ) gu) (cv 6) (cv 2)) rfl)
   (gh (pS (i:=2) iO.nd (cv 6)))))))
  (gh (gH (cv 1)))))),?_⟩;have sl:=sizeLine_eq;intro d hd;have s1:=gb hd (.dK []);have ed:(upd H d (.dK [])) d=some (.dK []):=fY;dsimp only[hJ];generalize upd H d (.dK [])=H1 at s1 ed⊢;intro ae hae;have s2:=gb hae (.dK []);have ea:(upd H1 ae (.dK [])) ae=some (.dK []):=fY;dsimp only[hJ];generalize upd H1 ae (.dK [])=H2 at s2 ea⊢;have nad:ae≠d:=(gm ed hae).symm;have pr2:=pr.same (s1.trans s2);have nl:=gd.nl;refine⟨_,⟨dx,_,pr2.o,yZ _ _ _⟩,n,rfl,⟨_,SqL.of pr2.n⟩,yY (xs:=names.map V.str) (fun i σ H3=>∃(o3 o4 o5 o6:Option V) (ae:Zx) (kvs:List (Key×V)),σ=[some (.ref p),some (.ref d),some (.ref ae),o3,o4,o5,o6]/\gB H H3/\H3 d=some (.dK kvs)/\kvs.length<=i/\ae≠d/\Sc H3 ae (G0 names i) i/\∀(i' c:Nat),i'<i->roots[i']?=some c->∃a,a≠d/\jK kvs (.inl (c:Int))=some (.ref a)/\Sc H3 a (out c) 20)
  ⟨none,none,none,none,ae,[],rfl,s1.trans s2,s2 _ _ ed,cM _,nad,⟨[],ea,cM _,fun w=>rfl⟩,fun i' c h=>absurd h (dh _)⟩ (fun i σ H3 _ ⟨_,_,_,_,_,_,_,S,_⟩=>SqL.of (S _ _ pr.n)) ?_ ?_⟩
 ·rintro i v σ H3 t hx ⟨o3,o4,o5,o6,ae,kvs,rfl,S,ek,hk,nad,sca,hroots⟩ ht;rw[aO]at hx;obtain⟨x,hx',rfl⟩:=dB.mp hx;clear hx;have hx:=hx';have hi:=(au.mp hx).1;have rl:=gd.rl;obtain⟨c,hc⟩:∃c,roots[i]?=some c:=⟨_,bB (by lia)⟩;have hcl:=gd.rlt i c hc;obtain⟨ρ,hρ⟩:∃ρ,ρs[c]?=some ρ:=⟨_,bB hcl⟩;have sT:=gb ht (.tup [.int (i:Int),.str x]);refine⟨t,_,rfl,SqT.of fY,rfl,_,_,rfl,_,_,rfl,rfl,?_⟩;have S4:=S.trans sT;generalize upd H3 t (.tup [.int (i:Int),.str x])=H4 at sT S4;have pr4:=pr.same S4;have hcI:(roots.map nI)[i]?=some (.int (c:Int)):=by rw[aO,hc];rfl
  refine⟨_,⟨dx,_,pr4.o,y0 _ _ _⟩,_,pr4.r,gk (gj hcI) ?_⟩;refine⟨oT,fun pp hpp=>?_⟩;have s5:=gb hpp (.tup [.str "def",.int (i:Int)]);refine⟨ae,pp,G0 names i,i,x,("def",(i:Int)),rfl,(sca.same sT).same s5,by lia,fY,fun b H6 S6 hb sc6=>?_⟩;have S36:=(sT.trans s5).trans S6;have SH6:=S.trans S36;have pr6:=pr.same SH6;obtain⟨tr,ys,hxt,etr,_,_⟩:=u4 pr6.i hρ;refine⟨_,⟨dx,_,pr6.o,u0 _ _ _⟩,_,pr6.w,gk (gj hxt) ⟨_,etr,gk (gj (j:=0) rfl) ?_⟩⟩;dsimp only[tC,cEq,onB];obtain⟨_,_,h3,_⟩:=ρ.hd (gd.ok ρ (aP hρ));rw[fo,h3];have nbd:b≠d:=(gm (s5 _ _ (sT _ _ ek)) hb).symm;have g1:G0 names (i+ 1)=wid (G0 names i) x ("def",(i:Int)):=by rw[G0,hx]
  have hout:=gd.root i c ρ hc hρ;have nx:∀z:Zx,z≠d->Sc H6 z (out c) 20->∃(a:Zx) (H':Hp),V.ref d= .ref a/\zH H6 a (.int (c:Int)) (.ref z) H'/\∃(o3 o4 o5 o6:Option V) (ae:Zx) (kvs:List (Key×V)),[some (V.ref p),some (.ref d),some (.ref b),some (.int (i:Int)),some (.str x),some (.int (c:Int)),some (.ref b)]=[some (V.ref p),some (.ref d),some (.ref ae),o3,o4,o5,o6]/\gB H H'/\H' d=some (.dK kvs)/\kvs.length<=i+ 1/\ae≠d/\Sc H' ae (G0 names (i+ 1)) (i+ 1)/\∀(i' c:Nat),i'<i+ 1->roots[i']?=some c->∃a,a≠d/\jK kvs (.inl (c:Int))=some (.ref a)/\Sc H' a (out c) 20:=fun z nzd hz=>by
   have e6:=S36 _ _ ek;refine⟨d,_,rfl,zH.k (k:=Sum.inl (c:Int)) e6 (by lia),_,_,_,_,b,_,rfl,hI SH6 hd _,fY,cH (iW _ _ _) (by lia),nbd,by rw[g1];exact sc6.upd e6 nbd,fun i' c' hi' hc'=>?_⟩;by_cases y:c'=c;·rw[y];exact⟨z,nzd,by rw[iT,gY rfl],hz.upd e6 nzd⟩
   ·have:i'≠i:=fun z=>y (by rw[z,hc]at hc';exact(dw.inj hc').symm);obtain⟨a,h1,h2,h3⟩:=hroots i' c' (by lia) hc';exact⟨a,h1,by rw[iT,gJ (fun z=>y (by injection z with z;lia))];exact h2,(h3.same S36).upd e6 h1⟩
  cases hF:ρ.isF with
  |true=>rw[hF,gY rfl,g1]at hout;exact jl (nx b nbd (by rw[hout];exact sc6.le (by lia)))
  |false=>rw[hF,gJ fg]at hout;exact iV (nx ae nad (by rw[hout];exact(sca.same S36).le (by lia)))
 ·rintro σ H3 ⟨o3,o4,o5,o6,ae,kvs,rfl,S,ek,hk,nad,sca,hroots⟩;rw[aE]at hk hroots;refine q d kvs H3 S hd ek (by lia) fun i c hc=>?_;have rl:=gd.rl;exact hroots i c (by have:=(au.mp hc).1;lia) hc
def HoA (H:Hp) (xs:List V) (ρs:List Ro) (out:Nat->Str->Option Hm):Prop:=∀(k:Nat) (x:V) (ρ:Ro),xs[k]?=some x->ρs[k]?=some ρ->Im H x (hoD (duo out k ρ))
theorem Ro.nm_ne (ρ:Ro) (h:ρ.ok) (hn:∀x,ρ≠ .name x):ρ.s≠"name":=by
 cases ρ with
 |name x=>exact absurd rfl (hn x)
 |op s ks=>exact of_decide_eq_false (oa _ h "name" gQ ⟨s,ks,rfl⟩)
 |num a=>exact(show("num":Str)≠"name" from by decide+kernel)
 |fn a b=>exact(show("fn":Str)≠"name" from by decide+kernel)
 |tag a b=>exact(show("tag":Str)≠"name" from by decide+kernel)
 |lt a b c=>exact(show("let":Str)≠"name" from by decide+kernel)
 |get a b=>exact(show("get":Str)≠"name" from by decide+kernel)
 |rcd a=>exact(show("rec":Str)≠"name" from by decide+kernel)
 |case a b=>exact(show("case":Str)≠"name" from by decide+kernel)
 |row a=>exact(show("row":Str)≠"name" from by decide+kernel)
theorem Dy {H H7:Hp} {ρ:Ro} {zs:List V} {out:Nat->Str->Option Hm} {i:Nat} {Qx:VK} (rok:ρ.ok) (hzs:Ims H zs ρ.r) (hn:∀x,ρ= .name x->∃h,out i x=some h) (key:∀y,Im H7 y (hoD (duo out i ρ))->Qx y H7):
  (ρ.s≠"name"->Qx .non H7)/\(ρ.s="name"->∃(x:Str) (h:Hm),zs=[.str x]/\out i x=some h/\∀p,H7 p=some (.tup [.str h.1,.int h.2])->Qx (.ref p) H7):=by
 have no:(∀x,ρ≠ .name x)->duo out i ρ=none->(ρ.s≠"name"->Qx .non H7)/\(ρ.s="name"->∃(x:Str) (h:Hm),zs=[.str x]/\out i x=some h/\∀p,H7 p=some (.tup [.str h.1,.int h.2])->Qx (.ref p) H7):=fun h e=>⟨fun _=>key _ (by rw[e];exact .flat rfl),fun z=>absurd z (ρ.nm_ne rok h)⟩
 cases ρ with
 |name x=>
  refine⟨fun z=>absurd rfl z,fun _=>?_⟩;obtain⟨h,hh⟩:=hn x rfl
  cases hzs with
  |cons a b=>cases a;cases b;refine⟨x,h,rfl,hh,fun p hp=>key _ ?_⟩;show Im H7 _ (hoD (out i x));rw[hh];exact .tup hp (.cons (.flat rfl) (.cons (.flat rfl) .nil))
 |_=>exact no (fun x z=>nomatch z) rfl
theorem BK {H H7:Hp} {ρ:Ro} {zs:List V} {out:Nat->Str->Option Hm} {i:Nat} {Qx:VK} {E:XK} {t a:Zx} {n:Nat} {σ:St} (rok:ρ.ok) (hzs:Ims H zs ρ.r) (hn:∀x,ρ= .name x->∃h,out i x=some h) (et:H7 t=some (.tup (.str ρ.s::zs))) (sc:Sc H7 a (out i) n) (h4:σ[4]?=some (some (.ref t))) (h3:σ[3]?=some (some (.int (i:Int)))) (h5:σ[5]?=some (some (.ref a))) (key:∀y,Im H7 y (hoD (duo out i ρ))->Qx y H7):
  ED ud [] E (oi (cV 4) (oi (cV 3) (oi (cV 5) AF))) σ H7 Qx:=by show onV σ[4]? _;rw[h4];show onV σ[3]? _;rw[h3];show onV σ[5]? _;rw[h5];exact⟨t,a,(i:Int),out i,n,ρ.s,zs,rfl,et,sc,Dy rok hzs hn key⟩
theorem D9 {H:Hp} {l:Zx} {u o:HO} (e:H l=some u) (nt:∀zs,u≠ .tup zs):TK H (upd H l o):=fun a xs q=>by rw[gr (kS q e (fun z=>nt _ z.symm))];exact q
theorem Sc.updL {H:Hp} {a l:Zx} {g:Str->Option Hm} {n:Nat} {ys:List V} {o:HO} (h:Sc H a g n) (e:H l=some (.lst ys)):Sc (L2.Internal.upd H l o) a g n:=by
 obtain⟨kvs,e1,l',h⟩:=h;refine⟨kvs,by rw[gr (kS e1 e (fun z=>nomatch z))];exact e1,l',fun w=>?_⟩;have:=h w
 cases hg:g w with
 |none=>rw[hg]at this;exact this
 |some z=>rw[hg]at this;obtain⟨t,h1,h2⟩:=this;exact⟨t,h1,by rw[gr (kS h2 e (fun z=>nomatch z))];exact h2⟩
def xT (C:Zx):Sp:=fun vs H Q _=>X10 fun(p n r w dx:Zx) (xs:List V) (names:Zd) (roots:List Nat) (ρs:List Ro) (out:Nat->Str->Option Hm)=>Y4 (vs=[.ref p]) (PrA C H p n r w dx xs names roots ρs) (Cw names roots ρs out) (
 ∀l ys H',gB H H'->H l=none->H' l=some (.lst ys)->ys.length=ρs.length->HoA H' ys ρs out->Q (.ref l) H')
theorem xU (T:Txt K mg):FO P w base 8 T.d20 (xT T.c7.a):=by
 refine T.d20.F.rd kx fun _ A _ s H vs Q E hr h=>?_;have hu:=vW hr;obtain⟨p,n,r,w,dx,xs,names,roots,ρs,out,rfl,pr,gd,q⟩:=h;refine⟨_,(fW (gK (pF T.d21 (sA T) hr.m (fV (gX T.c7.cl T.n7names (cv 0)) fX)))
  (fW (pS (i:=1) kx.nd (pF T.d24 (sY T) hr.m (fV (cv 0) fX)))
  (fW (pS (i:=2) kx.nd (gR fX))
  (fW (jk PassesOwn.never rfl (xE rfl T.z_enumerate (fV (gX T.c7.cl T.n7rows (cv 0)) fX)) (yv rfl (lF (pN (i:=3) kx.nd) (lF (pN (i:=4) kx.nd) uo)))
   (fW (pS (i:=5) kx.nd (mP hu (cv 1) (cv 3)))
   (fW (gK (pF T.d21 (sA T) hr.m (fV (pF T.d22 (uZ T) hr.m (fV (cv 4) fX)) fX)))
   (fW (gK (ja (jM eX eY eZ gS (PE.mono (cv 2)) (fV (PE.mono (pF T.d23 (Ae T) hr.m (fV (cv 4) (fV (cv 3) (fV (cv 5) fX))))) fX))))
   (gh (gK (jM PySem.F.plainAttrs_dict eV PySem.F.type_dict_update Bk (cv 1) (fV (pF T.d25 (sF T) hr.m (fV (cv 4) (fV (cv 5) fX))) fX))))))))
  (gh (gH (cv 2))))))),?_⟩;have sl:=sizeLine_eq;have nl:=gd.nl;have pn:=gd.pn;refine⟨_,⟨dx,_,pr.o,yZ _ _ _⟩,n,names,rfl,pr.n,gd.nn,by lia,fun H1 S1=>?_⟩;refine⟨p,n,r,w,dx,xs,names,roots,ρs,out,rfl,pr.same S1,gd,fun d kvs H2 S2 hd ed hk hroots=>?_⟩;refine⟨qL,fun lh hlh=>?_⟩;have s3:=gb hlh (.lst []);have el:(upd H2 lh (.lst [])) lh=some (.lst []):=fY;dsimp only[hJ];generalize upd H2 lh (.lst [])=H3 at s3 el⊢;have S13:=(S1.trans S2).trans s3;have hd0:H d=none:=S1.free hd;have hl0:H lh=none:=(S1.trans S2).free hlh;have ndl:d≠lh:=gm ed hlh;have pr3:=pr.same S13;have lx:=pr.i.length;rw[aE]at lx;refine⟨_,⟨dx,_,pr3.o,u0 _ _ _⟩,w,rfl,⟨_,SqL.of pr3.w⟩,yY (xs:=xs) (fun i σ H4=>X5 fun(o3 o4 o5:Option V) (kvs:List (Key×V)) (ys:List V)=>Y8 (σ=[some (.ref p),some (.ref d),some (.ref lh),o3,o4,o5]) (gB H H4) (H4 d=some (.dK kvs)) (kvs.length<=12+ 300*i) (H4 lh=some (.lst ys)) (ys.length=i) (HoA H4 ys ρs out) (
   ∀c:Nat,((∃i':Nat,roots[i']?=some c)\/∃(k':Nat) (ρ:Ro),k'<i/\ρs[k']?=some ρ/\(c:Int)∈ρ.pl)->∃a,a≠d/\jK kvs (.inl (c:Int))=some (.ref a)/\Sc H4 a (out c) (20+c)))
  ⟨none,none,none,kvs,[],rfl,S13,s3 _ _ ed,by lia,el,rfl,fun k x ρ h=>(by cases h),fun c hc=>?_⟩ (fun i σ H4 _ ⟨_,_,_,_,_,_,S,_,_,_,_,_,_⟩=>SqL.of (S _ _ pr.w)) ?_ ?_⟩
 ·rcases hc with⟨i,hi⟩|⟨k',ρ,h,_⟩;·obtain⟨a,h1,h2,h3⟩:=hroots i c hi;exact⟨a,h1,h2,(h3.same s3).le (by lia)⟩
  ·exact absurd h (dh _)
 ·rintro i v σ H4 t hx ⟨o3,o4,o5,kvs,ys,rfl,S,ek,hk,el,hyl,ho,hsc⟩ ht;have hi:=(au.mp hx).1;obtain⟨ρ,hρ⟩:∃ρ,ρs[i]?=some ρ:=⟨_,bB (by lia)⟩;have rok:=gd.ok ρ (aP hρ);obtain⟨tr,zs,hxt,etr,hzs,him⟩:=u4 pr.i hρ;rw[hxt]at hx;cases hx;obtain⟨a,nad,hva,sca⟩:=hsc i (gd.reach i (by lia));have sT:=gb ht (.tup [.int (i:Int),.ref tr]);refine⟨t,_,rfl,SqT.of fY,rfl,_,_,rfl,_,_,rfl,rfl,?_⟩;have S5:=S.trans sT;generalize upd H4 t (.tup [.int (i:Int),.ref tr])=H5 at sT S5;have g:=w6.k (k:=(Sum.inl (i:Int):Key)) (sT _ _ ek);rw[hva]at g;refine⟨d,_,rfl,g,?_⟩;refine⟨tr,ρ,rfl,him.mono (gB.tk S5),rok,fun lw H6 S6 hlw e6=>⟨lw,ρ.ws,rfl,e6,(ρ.ws_nd rok).1,cH (ρ.ws_nd rok).2 (by decide),fun H7 S7=>?_⟩⟩;have S47:=(sT.trans S6).trans S7;have S07:=S.trans S47;have el7:=S47 _ _ el;have ek7:=S47 _ _ ek;have sca7:=sca.same S47;refine⟨⟨_,el7⟩,BK rok hzs (fun x e=>gd.nm i x (by rw[hρ,e])) (S07 _ _ etr) sca7 rfl rfl rfl fun y hy=>?_⟩;refine⟨_,el7,by lia,?_⟩;have S08:=hI (o:= .lst (ys++[y])) S07 hl0;have tk8:TK H7 (upd H7 lh (.lst (ys++[y]))):=D9 el7 (fun zs z=>nomatch z);have ek8:(upd H7 lh (.lst (ys++[y]))) d=some (.dK kvs):=by rw[gr ndl];exact ek7
  have el8:(upd H7 lh (.lst (ys++[y]))) lh=some (.lst (ys++[y])):=fY;have sc8:∀{z:Zx} {g:Str->Option Hm} {m:Nat},Sc H4 z g m->Sc (upd H7 lh (.lst (ys++[y]))) z g m:=fun h=>(h.same S47).updL el7;generalize upd H7 lh (.lst (ys++[y]))=H8 at S08 tk8 ek8 el8 sc8;refine⟨.inr (.inr (.inl ⟨rfl,.inl ⟨_,ek8⟩⟩)),tr,a,ρ,out i,20+i,rfl,him.mono (gB.tk S08),rok,sc8 sca,by lia,fun d2 kvs2 H9 S9 hd2 e9 nd9 l9 in9=>⟨d,d2,kvs,kvs2,rfl,rfl,gm ek8 hd2,S9 _ _ ek8,e9,by lia,?_⟩⟩;have tk9:TK H9 (upd H9 d (.dK (pf kvs kvs2))):=D9 (S9 _ _ ek8) (fun zs z=>nomatch z);have tkA:TK H4 (upd H9 d (.dK (pf kvs kvs2))):=fun b u e=>tk9 _ _ (S9 _ _ (tk8 _ _ (S47 _ _ e)));refine⟨_,_,_,_,ys++[y],rfl,hI (S08.trans S9) hd0 _,fY,cH (lX _ _) (by lia),by rw[gr ndl.symm];exact S9 _ _ el8,by rw[aQ,hyl];rfl,?_,?_⟩
  ·intro k x ρ' hx hρ';by_cases hki:k<ys.length;·rw[aN hki]at hx;exact(ho k x ρ' hx hρ').mono tkA
   ·have hk2:=(au.mp hx).1;rw[aQ,bc]at hk2;have e:k=ys.length:=by lia
    subst e;rw[aM (cM _),df]at hx;cases hx;rw[hyl]at hρ'⊢;rw[hρ]at hρ';cases hρ';exact hy.mono fun b u e=>tk9 _ _ (S9 _ _ (tk8 _ _ e))
  ·intro c hc;rw[sC _ _ _ nd9];rcases in9 (c:Int)with⟨h1,h2⟩|⟨j,e,a',hW,hj,he,hv,hs⟩
   ·rw[h1];obtain⟨a',g1,g2,g3⟩:=hsc c (by
     rcases hc with h|⟨k',ρ',k1,k2,k3⟩;·exact .inl h
     ·refine .inr ⟨k',ρ',?_,k2,k3⟩;by_cases z:k'=i;·rw[z,hρ]at k2;cases k2;exact absurd k3 h2
      ·lia);exact⟨a',g1,g2,((sc8 g3).same S9).upd (S9 _ _ ek8) g1⟩
   ·rw[hv];have na:a'≠d:=by
     rcases hW with h|h;·rw[h];exact nad
     ·exact(gm ek8 h).symm
    obtain⟨m,e1,e2,e3⟩:=gd.kid i ρ j _ e hρ hj he;have em:c=m:=by lia
    subst em;exact⟨a',na,rfl,by rw[e3];exact(hs.upd (S9 _ _ ek8) na).le (by lia)⟩
 ·rintro σ H4 ⟨o3,o4,o5,kvs,ys,rfl,S,ek,hk,el,hyl,ho,hsc⟩;exact q lh ys H4 S hl0 el (by lia) ho
inductive Vl where
 |num (n p:Int)
 |row (l:List (Int×Int)) (p:Int)
def thD (t:Int×Int):Dt:= .tup [sD "num",kD t.1,kD t.2]
def Vl.d:Vl->Dt
 | .num n p=>thD (n,p)
 | .row l p=> .tup [sD "row",.tup (l.map thD),kD p]
def Vl.s:Vl->Str
 | .num _ _=>"num"
 | .row _ _=>"row"
def Vl.b:Vl->Dt
 | .num n _=>kD n
 | .row l _=> .tup (l.map thD)
def Vl.p:Vl->Int
 | .num _ p=>p
 | .row _ p=>p
def Vl.th:Vl->Int×Int
 | .num n p=>(n,p)
 | .row _ p=>(0,p)
def Vl.n (v:Vl):Int:=v.th.1
def Vl.l:Vl->List (Int×Int)
 | .num _ _=>[]
 | .row l _=>l
def thV (t:Int×Int):Vl:= .num t.1 t.2
theorem JA (v:Vl):v.d= .tup [sD v.s,v.b,kD v.p]:=by cases v<;>rfl
inductive Stp where
 |beg (p:Int)
 |par (p:Int)
def Stp.s:Stp->Str
 | .beg _=>"begin"
 | .par _=>"parts"
def Stp.p:Stp->Int
 | .beg p=>p
 | .par p=>p
def Stp.d (t:Stp):Dt:= .tup [sD t.s,kD t.p,.flat .non]
def meD (t:Int×Int×Int):Dt:= .tup [kD t.1,kD t.2.1,kD t.2.2]
def haD (t:Int×Int):Dt:= .tup [kD t.1,kD t.2]
structure Ms where
 bg:Nat
 en:Option Str
 me:List (Int×Int×Int)
 ha:List (Int×Int)
 de:List Vl
 st:List Stp
 rd:List Vl
def sZ (p:Int) (v:Vl) (s:Ms):Ms:={s with ha:=(p,v.p)::s.ha,rd:=v::s.rd}
def mI (v:Vl) (p k:Int) (s:Ms):Ms:={s with me:=(v.p,p,k)::s.me}
def qu:Ro->List Int
 | .fn _ _=>[]
 | .lt _ a _=>[a]
 | .case k _=>[k]
 |ρ=>ρ.pl
def atV (l:List (Int×Int)) (n:Int) (v:Vl):Vl:=match n with
 | .ofNat k=>match l[k]? with
  |some t=>thV t
  |none=>v
 | .negSucc _=>v
inductive Wm (hm:Option Hm) (p:Int) (s:Ms):Ro->List Vl->Ms->Prop
 |num {n:Int}:Wm hm p s (.num n) [] (sZ p (.num n p) s)
 |name {x:Str} {h:Nat} {v:Vl} (e:hm=some ((("def":Str),(h:Int)):Hm)) (hv:s.de[h]?=some v):Wm hm p s (.name x) [] (sZ p v s)
 |row {ks:List Int} {l:List (Int×Int)}:Wm hm p s (.row ks) (l.map thV) (sZ p (.row l p) s)
 |sub {ks:List Int} {n m q r:Int}:Wm hm p s (.op "sub" ks) [.num n q,.num m r] (sZ p (.num (n-m) p) (mI (.num m r) p 1 (mI (.num n q) p 0 s)))
 |size {ks:List Int} {l:List (Int×Int)} {q:Int}:Wm hm p s (.op "size" ks) [.row l q] (sZ p (.num (l.length:Int) p) (mI (.row l q) p 0 s))
 |at {ks:List Int} {l:List (Int×Int)} {n q r:Int} {v:Vl}:Wm hm p s (.op "at" ks) [.row l q,.num n r,v] (sZ p (atV l n v) (mI (.num n r) p 1 (mI (.row l q) p 0 s)))
 |join {ks:List Int} {l m:List (Int×Int)} {q r:Int} (hl:l.length<=500) (hm':m.length<=500) (h:l.length+m.length<=60):Wm hm p s (.op "join" ks) [.row l q,.row m r] (sZ p (.row (l++m) p) (mI (.row m r) p 1 (mI (.row l q) p 0 s)))
 |full {ks:List Int} {l m:List (Int×Int)} {q r:Int} (hl:l.length<=500) (hm':m.length<=500) (h:60<l.length+m.length):Wm hm p s (.op "join" ks) [.row l q,.row m r] {mI (.row m r) p 1 (mI (.row l q) p 0 s)with en:=some "full"}
def tkR:Nat->List Vl->List Vl->Option (List Vl×List Vl)
 |0,r,l=>some (l,r)
 |n+ 1,v::r,l=>tkR n r (v::l)
 |_+ 1,[],_=>none
inductive Sp1 (ρs:List Ro) (ho:Nat->Option Hm) (tu:Nat) (s:Ms):Ms->Prop
 |beg {p:Nat} {ρ:Ro} {r:List Stp} (hs:s.st= .beg (p:Int)::r) (hk:ρs[p]?=some ρ) (hb:s.bg<tu):Sp1 ρs ho tu s {s with bg:=s.bg+ 1,st:=(qu ρ).map Stp.beg++ .par (p:Int)::r}
 |par {p:Nat} {ρ:Ro} {r:List Stp} {l rd:List Vl} {s':Ms} (hs:s.st= .par (p:Int)::r) (hk:ρs[p]?=some ρ) (ht:tkR (qu ρ).length s.rd []=some (l,rd)) (hw:Wm (ho p) (p:Int) {s with st:=r,rd:=rd} ρ l s'):Sp1 ρs ho tu s s'
def fMc (p h:Zx) (tu bg:Int) (en:V) (me ha de st rd:Zx):List (Str×V):=[("program",.ref p),("homes",.ref h),("turns",.int tu),("begun",.int bg),("end",en),("meets",.ref me),("had",.ref ha),("defined",.ref de),("steps",.ref st),("ready",.ref rd)]
def enV:Option Str->V
 |none=> .non
 |some s=> .str s
structure Mad where
 m:Zx
 dx:Zx
 p:Zx
 h:Zx
 me:Zx
 ha:Zx
 de:Zx
 st:Zx
 rd:Zx
def Mad.ls (A:Mad):List Zx:=[A.me,A.ha,A.de,A.st,A.rd]
structure Mc (C:Zx) (H:Hp) (A:Mad) (tu:Nat) (s:Ms):Prop where
 o:H A.m=some (.ins C A.dx (fMc A.p A.h tu s.bg (enV s.en) A.me A.ha A.de A.st A.rd))
 me:∃xs,H A.me=some (.lst xs)/\Ims H xs (s.me.reverse.map meD)
 ha:∃xs,H A.ha=some (.lst xs)/\Ims H xs (s.ha.reverse.map haD)
 de:∃xs,H A.de=some (.lst xs)/\Ims H xs (s.de.map Vl.d)
 st:∃xs,H A.st=some (.lst xs)/\Ims H xs (s.st.reverse.map Stp.d)
 rd:∃xs,H A.rd=some (.lst xs)/\Ims H xs (s.rd.reverse.map Vl.d)
 nd:A.ls.Nodup
def FM (A:Mad) (H H':Hp):Prop:=∀a o,H a=some o->a≠A.m->a∉A.ls->H' a=some o
theorem FM.refl {A:Mad} {H:Hp}:FM A H H:=fun _ _ e _ _=>e
theorem FM.trans {A:Mad} {H H1 H2:Hp} (f:FM A H H1) (g:FM A H1 H2):FM A H H2:=fun a o e n m=>g a o (f a o e n m) n m
theorem FM.same {A:Mad} {H H':Hp} (S:gB H H'):FM A H H':=fun a o e _ _=>S a o e
section
variable {C:Zx} {H H':Hp} {A:Mad} {tu:Nat} {s:Ms}
theorem Mc.out (M:Mc C H A tu s) {a:Zx} {xs:List V} (e:H a=some (.tup xs)):a≠A.m/\a∉A.ls:=by
 obtain⟨o,⟨_,e1,_⟩,⟨_,e2,_⟩,⟨_,e3,_⟩,⟨_,e4,_⟩,⟨_,e5,_⟩,_⟩:=M;refine⟨fun z=>?_,fun z=>?_⟩;·rw[z,o]at e;cases e
 ·simp only[Mad.ls,ak,bD,or_false]at z;rcases z with rfl|rfl|rfl|rfl|rfl;·rw[e1]at e;cases e
  ·rw[e2]at e;cases e
  ·rw[e3]at e;cases e
  ·rw[e4]at e;cases e
  ·rw[e5]at e;cases e
theorem Mc.tk (M:Mc C H A tu s) (F:FM A H H'):TK H H':=fun a xs e=>F a _ e (M.out e).1 (M.out e).2
theorem Mc.same (M:Mc C H A tu s) (S:gB H H'):Mc C H' A tu s:=by obtain⟨o,⟨x1,e1,i1⟩,⟨x2,e2,i2⟩,⟨x3,e3,i3⟩,⟨x4,e4,i4⟩,⟨x5,e5,i5⟩,nd⟩:=M;have k:=gB.tk S;exact⟨S _ _ o,⟨x1,S _ _ e1,i1.mono k⟩,⟨x2,S _ _ e2,i2.mono k⟩,⟨x3,S _ _ e3,i3.mono k⟩,⟨x4,S _ _ e4,i4.mono k⟩,⟨x5,S _ _ e5,i5.mono k⟩,nd⟩
theorem Mc.upd (M:Mc C H A tu s) {a:Zx} {xs ys:List V} (ha:a∈A.ls) (e:H a=some (.lst xs)) {s':Ms} (hb:s'.bg=s.bg) (he:s'.en=s.en)
  (h1:if a=A.me then Ims H ys (s'.me.reverse.map meD)else s'.me=s.me) (h2:if a=A.ha then Ims H ys (s'.ha.reverse.map haD)else s'.ha=s.ha) (h3:if a=A.de then Ims H ys (s'.de.map Vl.d)else s'.de=s.de)
  (h4:if a=A.st then Ims H ys (s'.st.reverse.map Stp.d)else s'.st=s.st) (h5:if a=A.rd then Ims H ys (s'.rd.reverse.map Vl.d)else s'.rd=s.rd):Mc C (upd H a (.lst ys)) A tu s'/\FM A H (upd H a (.lst ys)):=by
 have k:TK H (L2.Internal.upd H a (.lst ys)):=(Bh e).tk;have part:∀{b:Zx} {α:Type} {f:α->Dt} {l l':List α},(∃zs,H b=some (.lst zs)/\Ims H zs (l.map f))->(if a=b then Ims H ys (l'.map f)else l'=l)->∃zs,(L2.Internal.upd H a (.lst ys)) b=some (.lst zs)/\Ims (L2.Internal.upd H a (.lst ys)) zs (l'.map f):=fun{b α f l l'} ⟨zs,e0,i0⟩ h=>by
  by_cases z:a=b;·rw[gY z]at h;subst z;exact⟨ys,fY,h.mono k⟩
  ·rw[gJ z]at h;rw[h];exact⟨zs,by rw[gr (Ne.symm z)];exact e0,i0.mono k⟩
 obtain⟨o,p1,p2,p3,p4,p5,nd⟩:=M;have rev:∀{b:Zx} {α:Type} {f:α->Dt} {l l':List α},(if a=b then Ims H ys (l'.reverse.map f)else l'=l)->if a=b then Ims H ys (l'.reverse.map f)else l'.reverse=l.reverse:=fun{b α f l l'} h=>by
  by_cases z:a=b;·rw[gY z]at h⊢;exact h
  ·rw[gJ z]at h⊢;rw[h]
 refine⟨⟨?_,part p1 (rev h1),part p2 (rev h2),part p3 h3,part p4 (rev h4),part p5 (rev h5),nd⟩,fun b o' e' n m=>by rw[gr (fun z=>m (by rw[z];exact ha))];exact e'⟩;rw[gr (fun z=>by rw[<-z,o]at e;cases e),hb,he];exact o
end
def Bd (n:Nat) (s:Ms):Prop:=s.me.length<=n/\s.ha.length<=n/\s.de.length<=n/\s.st.length<=n/\s.rd.length<=n
theorem Bd.mono {n m:Nat} {s:Ms} (h:Bd n s) (k:n<=m):Bd m s:=⟨cH h.1 k,cH h.2.1 k,cH h.2.2.1 k,cH h.2.2.2.1 k,cH h.2.2.2.2 k⟩
section
variable {C:Zx} {H H':Hp} {A:Mad} {tu:Nat} {s:Ms}
theorem Mc.nds (M:Mc C H A tu s):(A.me≠A.ha/\A.me≠A.de/\A.me≠A.st/\A.me≠A.rd)/\(A.ha≠A.de/\A.ha≠A.st/\A.ha≠A.rd)/\(A.de≠A.st/\A.de≠A.rd)/\A.st≠A.rd:=by have n:=M.nd;simp only[Mad.ls,aG,ak,bD,or_false,not_or]at n;exact⟨n.1,n.2.1,n.2.2.1,n.2.2.2.1⟩
theorem Mc.meP (M:Mc C H A tu s) {x:V} {t:Int×Int×Int} (ix:Im H x (meD t)):∃xs,H A.me=some (.lst xs)/\xs.length=s.me.length/\Mc C (L2.Internal.upd H A.me (.lst (xs++[x]))) A tu {s with me:=t::s.me}/\FM A H (L2.Internal.upd H A.me (.lst (xs++[x]))):=by obtain⟨⟨a,b,c,d⟩,_⟩:=M.nds;obtain⟨xs,e,i⟩:=M.me;refine⟨xs,e,by rw[i.length,aE,bG],M.upd (by simp[Mad.ls]) e rfl rfl (by rw[gY rfl,bb,bo];exact i.app (.cons ix .nil)) (by rw[gJ a]) (by rw[gJ b]) (by rw[gJ c]) (by rw[gJ d])⟩
theorem Mc.haP (M:Mc C H A tu s) {x:V} {t:Int×Int} (ix:Im H x (haD t)):∃xs,H A.ha=some (.lst xs)/\xs.length=s.ha.length/\Mc C (L2.Internal.upd H A.ha (.lst (xs++[x]))) A tu {s with ha:=t::s.ha}/\FM A H (L2.Internal.upd H A.ha (.lst (xs++[x]))):=by obtain⟨⟨a,_⟩,⟨b,c,d⟩,_⟩:=M.nds;obtain⟨xs,e,i⟩:=M.ha;refine⟨xs,e,by rw[i.length,aE,bG],M.upd (by simp[Mad.ls]) e rfl rfl (by rw[gJ a.symm]) (by rw[gY rfl,bb,bo];exact i.app (.cons ix .nil)) (by rw[gJ b]) (by rw[gJ c]) (by rw[gJ d])⟩
theorem Mc.deP (M:Mc C H A tu s) {x:V} {v:Vl} (ix:Im H x v.d):∃xs,H A.de=some (.lst xs)/\xs.length=s.de.length/\Mc C (L2.Internal.upd H A.de (.lst (xs++[x]))) A tu {s with de:=s.de++[v]}/\FM A H (L2.Internal.upd H A.de (.lst (xs++[x]))):=by obtain⟨⟨_,a,_⟩,⟨b,_⟩,⟨c,d⟩,_⟩:=M.nds;obtain⟨xs,e,i⟩:=M.de;refine⟨xs,e,by rw[i.length,aE],M.upd (by simp[Mad.ls]) e rfl rfl (by rw[gJ a.symm]) (by rw[gJ b.symm]) (by rw[gY rfl,bo];exact i.app (.cons ix .nil)) (by rw[gJ c]) (by rw[gJ d])⟩
theorem Mc.stP (M:Mc C H A tu s) {x:V} {t:Stp} (ix:Im H x t.d):∃xs,H A.st=some (.lst xs)/\xs.length=s.st.length/\Mc C (L2.Internal.upd H A.st (.lst (xs++[x]))) A tu {s with st:=t::s.st}/\FM A H (L2.Internal.upd H A.st (.lst (xs++[x]))):=by obtain⟨⟨_,_,a,_⟩,⟨_,b,_⟩,⟨c,_⟩,d⟩:=M.nds;obtain⟨xs,e,i⟩:=M.st;refine⟨xs,e,by rw[i.length,aE,bG],M.upd (by simp[Mad.ls]) e rfl rfl (by rw[gJ a.symm]) (by rw[gJ b.symm]) (by rw[gJ c.symm]) (by rw[gY rfl,bb,bo];exact i.app (.cons ix .nil)) (by rw[gJ d])⟩
theorem Mc.rdP (M:Mc C H A tu s) {x:V} {v:Vl} (ix:Im H x v.d):∃xs,H A.rd=some (.lst xs)/\xs.length=s.rd.length/\Mc C (L2.Internal.upd H A.rd (.lst (xs++[x]))) A tu {s with rd:=v::s.rd}/\FM A H (L2.Internal.upd H A.rd (.lst (xs++[x]))):=by obtain⟨⟨_,_,_,a⟩,⟨_,_,b⟩,⟨_,c⟩,d⟩:=M.nds;obtain⟨xs,e,i⟩:=M.rd;refine⟨xs,e,by rw[i.length,aE,bG],M.upd (by simp[Mad.ls]) e rfl rfl (by rw[gJ a.symm]) (by rw[gJ b.symm]) (by rw[gJ c.symm]) (by rw[gJ d.symm]) (by rw[gY rfl,bb,bo];exact i.app (.cons ix .nil))⟩
theorem vc {H:Hp} {α:Type} {f:α->Dt} {xs:List V} {l:List α} {a:α} (h:Ims H xs ((l++[a]).map f)):∃ys y,xs=ys++[y]/\Ims H ys (l.map f)/\Im H y (f a):=by
 have go:∀{ds:List Dt} {xs:List V} {d:Dt},Ims H xs (ds++[d])->∃ys v,xs=ys++[v]/\Ims H ys ds/\Im H v d:=fun{ds}=>by
  induction ds with
  |nil=>
   intro xs d h
   cases h with
   |cons h1 hs=>cases hs;exact⟨[],_,rfl,.nil,h1⟩
  |cons d0 ds ih=>
   intro xs d h
   cases h with
   |cons h1 hs=>obtain⟨ys,v,rfl,h2,h3⟩:=ih hs;exact⟨_::ys,v,rfl,.cons h1 h2,h3⟩
 rw[bo]at h;exact go h
theorem Mc.stO (M:Mc C H A tu s) {t:Stp} {r:List Stp} (hs:s.st=t::r):∃xs x,H A.st=some (.lst (xs++[x]))/\Im H x t.d/\Mc C (L2.Internal.upd H A.st (.lst xs)) A tu {s with st:=r}/\FM A H (L2.Internal.upd H A.st (.lst xs)):=by obtain⟨⟨_,_,a,_⟩,⟨_,b,_⟩,⟨c,_⟩,d⟩:=M.nds;obtain⟨xs,e,i⟩:=M.st;rw[hs,bb]at i;obtain⟨ys,y,rfl,h1,h2⟩:=vc i;refine⟨ys,y,e,h2,M.upd (by simp[Mad.ls]) e rfl rfl (by rw[gJ a.symm]) (by rw[gJ b.symm]) (by rw[gJ c.symm]) (by rw[gY rfl];exact h1) (by rw[gJ d])⟩
theorem Mc.rdO (M:Mc C H A tu s) {v:Vl} {r:List Vl} (hs:s.rd=v::r):∃xs x,H A.rd=some (.lst (xs++[x]))/\Im H x v.d/\Mc C (L2.Internal.upd H A.rd (.lst xs)) A tu {s with rd:=r}/\FM A H (L2.Internal.upd H A.rd (.lst xs)):=by obtain⟨⟨_,_,_,a⟩,⟨_,_,b⟩,⟨_,c⟩,d⟩:=M.nds;obtain⟨xs,e,i⟩:=M.rd;rw[hs,bb]at i;obtain⟨ys,y,rfl,h1,h2⟩:=vc i;refine⟨ys,y,e,h2,M.upd (by simp[Mad.ls]) e rfl rfl (by rw[gJ a.symm]) (by rw[gJ b.symm]) (by rw[gJ c.symm]) (by rw[gJ d.symm]) (by rw[gY rfl];exact h1)⟩
theorem Mc.setO (M:Mc C H A tu s) (bg:Nat) (en:Option Str):Mc C (L2.Internal.upd H A.m (.ins C A.dx (fMc A.p A.h tu bg (enV en) A.me A.ha A.de A.st A.rd))) A tu {s with bg:=bg,en:=en}/\FM A H (L2.Internal.upd H A.m (.ins C A.dx (fMc A.p A.h tu bg (enV en) A.me A.ha A.de A.st A.rd))):=by
 have F:FM A H (L2.Internal.upd H A.m (.ins C A.dx (fMc A.p A.h tu bg (enV en) A.me A.ha A.de A.st A.rd))):=fun a o e n _=>by rw[gr n];exact e
 have k:=M.tk F;obtain⟨o,⟨x1,e1,i1⟩,⟨x2,e2,i2⟩,⟨x3,e3,i3⟩,⟨x4,e4,i4⟩,⟨x5,e5,i5⟩,nd⟩:=M;have ne:∀{b:Zx} {zs:List V},H b=some (.lst zs)->b≠A.m:=fun e z=>by rw[z,o]at e;cases e
 exact⟨⟨fY,⟨x1,by rw[gr (ne e1)];exact e1,i1.mono k⟩,⟨x2,by rw[gr (ne e2)];exact e2,i2.mono k⟩,⟨x3,by rw[gr (ne e3)];exact e3,i3.mono k⟩,⟨x4,by rw[gr (ne e4)];exact e4,i4.mono k⟩,⟨x5,by rw[gr (ne e5)];exact e5,i5.mono k⟩,nd⟩,F⟩
end
section
variable {p h me ha de st rd:Zx} {tu bg:Int} {en:V}
theorem BL:(fMc p h tu bg en me ha de st rd).lookup ("had":Str)=some (.ref ha):=by kernel_rfl
theorem wD:(fMc p h tu bg en me ha de st rd).lookup ("meets":Str)=some (.ref me):=by kernel_rfl
theorem oM:(fMc p h tu bg en me ha de st rd).lookup ("defined":Str)=some (.ref de):=by kernel_rfl
theorem nB:(fMc p h tu bg en me ha de st rd).lookup ("steps":Str)=some (.ref st):=by kernel_rfl
theorem sG:(fMc p h tu bg en me ha de st rd).lookup ("ready":Str)=some (.ref rd):=by kernel_rfl
theorem sH:(fMc p h tu bg en me ha de st rd).lookup ("end":Str)=some en:=by kernel_rfl
theorem sI:(fMc p h tu bg en me ha de st rd).lookup ("begun":Str)=some (.int bg):=by kernel_rfl
theorem BM:(fMc p h tu bg en me ha de st rd).lookup ("turns":Str)=some (.int tu):=by kernel_rfl
end
theorem y8 {p h me ha de st rd:Zx} {tu bg:Int} {en v:V}:nK "end" v (fMc p h tu bg en me ha de st rd)=fMc p h tu bg v me ha de st rd:=by kernel_rfl
theorem vd {H:Hp} {t:Zx} {xs:List V} {ds:List Dt} (h:H t=none) (i:Ims H xs ds):Im (L2.Internal.upd H t (.tup xs)) (.ref t) (.tup ds):= .tup fY (i.mono (gB.tk (gb h _)))
def y9 (C:Zx):Sp:=fun vs H Q _=>X6 fun(A:Mad) (tu:Nat) (s:Ms) (pl:Int) (x:V) (v:Vl)=>Y6 (vs=[.ref A.m,.int pl,x]) (Mc C H A tu s) (Im H x v.d) (s.ha.length<10000000) (s.rd.length<10000000) (∀H',Mc C H' A tu (sZ pl v s)->FM A H H'->Q .non H')
theorem sJ {H:Hp} {x:V} {v:Vl} (h:Im H x v.d):∃t y,x= .ref t/\H t=some (.tup [.str v.s,y,.int v.p])/\Im H y v.b:=by
 rw[JA]at h
 cases h with
 |tup e i=>
  cases i with
  |cons h1 i=>
   cases i with
   |cons h2 i=>
    cases i with
    |cons h3 i=>
     cases i
     cases h1 with
     |flat f1=>cases h3 with
      |flat f3=>exact⟨_,_,rfl,e,h2⟩
theorem iq (T:Txt K mg):MO P w base mg 1 T.e53 (y9 T.c5.a):=by
 refine T.e53.F.rd qq fun cdv A0 outer s0 H vs Q E hr h=>?_;obtain⟨A,tu,s,pl,x,v,rfl,M,ix,lh,lr,q⟩:=h;refine⟨_,(fW (gK (ja (jM eX eY eZ gS (PE.mono (gX T.c5.cl T.n5had (cv 0))) (fV (PE.mono (ik (fV (cv 1) (fV (gx gE (cv 2) fZ) fX)))) fX))))
  (gh (gK (ja (jM eX eY eZ gS (PE.mono (gX T.c5.cl T.n5ready (cv 0))) (fV (PE.mono (cv 2)) fX)))))),?_⟩;have sl:=sizeLine_eq;obtain⟨xs,e,_⟩:=M.ha;obtain⟨t0,y,rfl,e0,iy⟩:=sJ ix;refine⟨_,⟨_,_,M.o,BL⟩,⟨_,e⟩,_,e0,gk (gj (j:=2) rfl) ⟨oT,fun t ht=>?_⟩⟩;have S1:=gb ht (.tup [.int pl,.int v.p]);have M1:=M.same S1;have i1:Im (L2.Internal.upd H t (.tup [.int pl,.int v.p])) (.ref t) (haD (pl,v.p)):=vd ht (.cons (.flat rfl) (.cons (.flat rfl) .nil));have ix1:=ix.mono (gB.tk S1);generalize L2.Internal.upd H t (.tup [.int pl,.int v.p])=H1 at S1 M1 i1 ix1⊢;obtain⟨xs1,e1,l1,M2,F2⟩:=M1.haP i1;refine⟨xs1,e1,by lia,?_⟩;have ix2:=ix1.mono (M1.tk F2);have F02:=(FM.same (A:=A) S1).trans F2;dsimp only;generalize L2.Internal.upd H1 A.ha (.lst (xs1++[.ref t]))=H2 at M2 F2 F02 ix2⊢;obtain⟨xs3,e3,l3,M4,F4⟩:=M2.rdP ix2;exact⟨_,⟨_,_,M2.o,sG⟩,⟨_,e3⟩,xs3,e3,by rw[l3];show s.rd.length<_;lia,q _ M4 (F02.trans F4)⟩
theorem jN {p h me ha de st rd:Zx} {tu bg:Int} {en:V} {n:Str} (hn:((["program","homes","turns","begun","end","meets","had","defined","steps","ready"]:Zd).all fun x=>!(n==x))=true):(fMc p h tu bg en me ha de st rd).lookup n=none:=by simp only[ba,List.all_nil,Bool.and_true,fj,Bool.not_eq_true']at hn;obtain⟨h1,h2,h3,h4,h5,h6,h7,h8,h9,h10⟩:=hn;simp only[fMc,bp,h1,h2,h3,h4,h5,h6,h7,h8,h9,h10,List.lookup_nil]
def Hy (C:Zx):Sp:=fun vs H Q _=>X7 fun(A:Mad) (tu:Nat) (s:Ms) (x:V) (v:Vl) (pl k:Int)=>Y5 (vs=[.ref A.m,x,.int pl,.int k,.bl true]) (Mc C H A tu s) (Im H x v.d) (s.me.length<10000000) (∀H',Mc C H' A tu (mI v pl k s)->FM A H H'->Q (.bl true) H')
theorem qR (T:Txt K mg):MO P w base mg 1 T.e54 (Hy T.c5.a):=by
 refine T.e54.F.rd qQ fun cdv A0 outer s0 H vs Q E hr h=>?_;obtain⟨A,tu,s,x,v,pl,k,rfl,M,ix,lm,q⟩:=h;refine⟨_,(fW (gK (ja (jM eX eY eZ gS (PE.mono (gX T.c5.cl T.n5meets (cv 0))) (fV (PE.mono (ik (fV (gx gE (cv 1) fZ) (fV (cv 2) (fV (cv 3) fX))))) fX))))
  (fW (ij (kM (jA (cv 4)))
   (gh (i9 T.c5.cl T.n5end (jc (PE.mono (cv 0)) (PE.mono gu) rfl)))
   gL)
  (gh (gH (cv 4))))),?_⟩;have sl:=sizeLine_eq;obtain⟨xs,e,_⟩:=M.me;obtain⟨t0,y,rfl,e0,iy⟩:=sJ ix;refine⟨_,⟨_,_,M.o,wD⟩,⟨_,e⟩,_,e0,gk (gj (j:=2) rfl) ⟨n8,fun t ht=>?_⟩⟩;have S1:=gb ht (.tup [.int v.p,.int pl,.int k]);have M1:=M.same S1;have i1:Im (L2.Internal.upd H t (.tup [.int v.p,.int pl,.int k])) (.ref t) (meD (v.p,pl,k)):=vd ht (.cons (.flat rfl) (.cons (.flat rfl) (.cons (.flat rfl) .nil)));generalize L2.Internal.upd H t (.tup [.int v.p,.int pl,.int k])=H1 at S1 M1 i1⊢;obtain⟨xs1,e1,l1,M2,F2⟩:=M1.meP i1;refine⟨xs1,e1,by lia,?_⟩;have F02:=(FM.same (A:=A) S1).trans F2;dsimp only;generalize L2.Internal.upd H1 A.me (.lst (xs1++[.ref t]))=H2 at M2 F2 F02⊢;exact⟨_,rfl,iV (q _ M2 F02)⟩
def Hz (C:Zx):Sp:=fun vs H Q _=>X7 fun(A:Mad) (tu:Nat) (s:Ms) (x:V) (v:Vl) (pl k:Int)=>Y5 (vs=[.ref A.m,.str v.s,x,.int pl,.int k]) (Mc C H A tu s) (Im H x v.d) (s.me.length<10000000) (∀H',Mc C H' A tu (mI v pl k s)->FM A H H'->Q (.bl true) H')
theorem jS (T:Txt K mg):MO P w base mg 2 T.e55 (Hz T.c5.a):=by refine T.e55.F.rd oF fun cdv A0 outer s0 H vs Q E hr h=>?_;obtain⟨A,tu,s,x,v,pl,k,rfl,M,ix,lm,q⟩:=h;refine⟨_,(gh (gH (iB (gZ (PE.mono (cv 0)) T.c5.cl T.e54.me (qR T) hr.m T.e54.b .nil jB (fV (cv 2) (fV (cv 3) (fV (cv 4) (fV (oh lU (gx gE (cv 2) fZ) (cv 1)) fX)))))))),?_⟩;obtain⟨t0,y,rfl,e0,iy⟩:=sJ ix;refine⟨⟨_,_,M.o,jN gQ⟩,_,e0,gk (gj (j:=0) rfl) ⟨A,tu,s,_,v,pl,k,?_,M,ix,lm,q⟩⟩;rw[fo,hV rfl];rfl
inductive XBo (C:Zx) (vs:List V) (H:Hp) (Q:VK):Prop
 |mk (A:Mad) (tu:Nat) (s:Ms) (ps:Zx) (x y:V) (a b:Vl) (pl:Int) (e:vs=[.ref A.m,.str a.s,.ref ps,.int pl]) (M:Mc C H A tu s) (ep:H ps=some (.lst [x,y])) (n1:ps≠A.m) (n2:ps∉A.ls) (ix:Im H x a.d) (iy:Im H y b.d) (hs:b.s=a.s) (lm:s.me.length<9500000) (q:∀H',Mc C H' A tu (mI b pl 1 (mI a pl 0 s))->FM A H H'->Q (.bl true) H')
def Fy (C:Zx):Sp:=fun vs H Q _=>XBo C vs H Q
theorem km (T:Txt K mg):MO P w base mg 3 T.e56 (Fy T.c5.a):=by refine T.e56.F.rd mz fun cdv A0 outer s0 H vs Q E hr h=>?_;obtain⟨A,tu,s,ps,x,y,a,b,pl,rfl,M,ep,n1,n2,ix,iy,hs,lm,q⟩:=h;refine⟨_,(gh (gH (tM (iB (gZ (PE.mono (cv 0)) T.c5.cl T.e55.me (jS T) hr.m T.e55.b .nil jB (fV (cv 1) (fV (gx gC (cv 2) fZ) (fV (cv 3) (fV fZ fX)))))) (rD (iB (gZ (PE.mono (cv 0)) T.c5.cl T.e55.me (jS T) hr.m T.e55.b .nil jB (fV (cv 1) (fV (gx gC (cv 2) fZ) (fV (cv 3) (fV fZ fX)))))))))),?_⟩;refine⟨⟨_,_,M.o,jN gQ⟩,_,ep,gk (gj (j:=0) rfl) ⟨A,tu,s,x,a,pl,0,rfl,M,ix,by lia,fun H1 M1 F1=>?_⟩⟩;have ep1:=F1 _ _ ep n1 n2;have iy1:=iy.mono (M.tk F1);refine⟨_,rfl,jl ⟨⟨_,_,M1.o,jN gQ⟩,_,ep1,gk (gj (j:=1) rfl) ⟨A,tu,_,y,b,pl,1,by rw[hs];rfl,M1,iy1,?_,fun H2 M2 F2=>q _ M2 (F1.trans F2)⟩⟩⟩;show(_::s.me).length<_;rw[aB];lia
theorem FA {K:Zp} {a:Zx} {xs:List V} {g:TG} {tb:TS} {D:rA} {σ:St} {H:Hp} (Pv:Nat->St->Hp->Prop) (h0:Pv 0 σ H) (hl:∀i σ H,i<=xs.length->Pv i σ H->SqL K H a xs)
  (hs:∀(i:Nat) (x:V) (σ:St) (H:Hp),i<xs.length->xs[xs.length-1-i]?=some x->Pv i σ H->g x σ H fun σ2 H2=>tb {D with nx:=Pv (i+ 1),ct:=Pv (i+ 1),bk:=D.nx} σ2 H2) (hd:∀σ H,Pv xs.length σ H->D.nx σ H):
  ∃W:Nat->Nat->St->Hp->Prop,(∃m,W 0 m σ H)/\∀i m σ H,W i m σ H->
   ((Itv K a xs.length).stop i H/\D.nx σ H)\/((Itv K a xs.length).go i H/\∃N:St->Hp->Prop,(∀σ' H',N σ' H'->∃m',m'<m/\W (i+ 1) m' σ' H')/\∀x H',(Itv K a xs.length).yld i H x H'->g x σ H' fun σ2 H2=>tb {D with nx:=N,ct:=N,bk:=D.nx} σ2 H2):=by
 refine⟨fun i m σ H=>Y3 (m=xs.length-i) (i<=xs.length) (Pv i σ H),⟨xs.length,by simp,cO _,h0⟩,?_⟩;rintro i m σ H ⟨rfl,hi,p⟩;have q:=hl i σ H hi p;by_cases hlt:i<xs.length;·refine .inr ⟨⟨hlt,xs,q,rfl⟩,Pv (i+ 1),fun σ' H' p'=>⟨xs.length-(i+ 1),by lia,rfl,hlt,p'⟩,fun v H' y=>?_⟩;obtain⟨rfl,hx⟩:=y;exact hs i v σ H' hlt (hx xs q) p
 ·have e:i=xs.length:=by lia
  subst e;exact .inl ⟨rfl,hd σ H p⟩
theorem rh:∀{n:Nat} {r l l' r':List Vl},tkR n r l=some (l',r')->n<=r.length/\l'=(r.take n).reverse++l/\r'=r.drop n
 |0,r,l,l',r',h=>by cases h;exact⟨cO _,rfl,rfl⟩
 |n+ 1,v::r,l,l',r',h=>by obtain⟨a,b,c⟩:=rh (n:=n) h;exact⟨by simpa using a,by rw[b];simp,by rw[c];rfl⟩
 |n+ 1,[],l,l',r',h=>by cases h
def Mad.all (A:Mad):List Zx:=A.m::A.ls
theorem FM.get {A:Mad} {H H':Hp} (F:FM A H H') {a:Zx} {o:HO} (e:H a=some o) (n:a∉A.all):H' a=some o:=F a o e (fun z=>n (by rw[z];exact ah)) fun z=>n (aj _ z)
theorem FM.upd {A:Mad} {H H':Hp} {l:Zx} {o:HO} (F:FM A H H') (h:H l=none):FM A H (L2.Internal.upd H' l o):=fun a u e n m=>by rw[gr (gm e h)];exact F a u e n m
theorem Mc.new {C:Zx} {H:Hp} {A:Mad} {tu:Nat} {s:Ms} (M:Mc C H A tu s) {l:Zx} (h:H l=none):l∉A.all:=fun z=>by
 obtain⟨o,⟨_,e1,_⟩,⟨_,e2,_⟩,⟨_,e3,_⟩,⟨_,e4,_⟩,⟨_,e5,_⟩,_⟩:=M;simp only[Mad.all,Mad.ls,ak,bD,or_false]at z;rcases z with rfl|rfl|rfl|rfl|rfl|rfl;·rw[h]at o;cases o
 ·rw[h]at e1;cases e1
 ·rw[h]at e2;cases e2
 ·rw[h]at e3;cases e3
 ·rw[h]at e4;cases e4
 ·rw[h]at e5;cases e5
theorem Mc.oth {C:Zx} {H:Hp} {A:Mad} {tu:Nat} {s:Ms} (M:Mc C H A tu s) {l:Zx} {xs:List V} {o:HO} (h:l∉A.all) (e:H l=some (.lst xs)):Mc C (L2.Internal.upd H l o) A tu s:=by have k:TK H (L2.Internal.upd H l o):=(Bh e).tk;have ne:∀{b:Zx},b∈A.all->(L2.Internal.upd H l o) b=H b:=fun m=>gr fun z=>h (by rw[<-z];exact m);obtain⟨o,⟨x1,e1,i1⟩,⟨x2,e2,i2⟩,⟨x3,e3,i3⟩,⟨x4,e4,i4⟩,⟨x5,e5,i5⟩,nd⟩:=M;exact⟨by rw[ne (by simp[Mad.all])];exact o,⟨x1,by rw[ne (by simp[Mad.all,Mad.ls])];exact e1,i1.mono k⟩,⟨x2,by rw[ne (by simp[Mad.all,Mad.ls])];exact e2,i2.mono k⟩,⟨x3,by rw[ne (by simp[Mad.all,Mad.ls])];exact e3,i3.mono k⟩,⟨x4,by rw[ne (by simp[Mad.all,Mad.ls])];exact e4,i4.mono k⟩,⟨x5,by rw[ne (by simp[Mad.all,Mad.ls])];exact e5,i5.mono k⟩,nd⟩
theorem BN {H:Hp}:∀{xs:List V} {ds:List Dt},Ims H xs ds->Ims H xs.reverse ds.reverse
 |_,_,.nil=> .nil
 |_,_,.cons a b=>by rw[bb,bb];exact(BN b).app (.cons a .nil)
abbrev hdT (i:Nat) (x:Str):TT:=cT (tOp (cEq false) (tOp Gh (cV i) (tC (.int 0))) (tC (.str x)))
theorem zc {i:Nat} {x s:Str} {t:Zx} {ys:List V} {σ:St} {H:Hp} {k:Bool->Hp->Prop} {b:Bool} (hσ:σ[i]?=some (some (.ref t))) (et:H t=some (.tup (.str s::ys))) (e:decide (s=x)=b) (h:k b H):hdT i x σ H k:=by show onV σ[i]? _;rw[hσ];refine⟨_,et,gk (gj (j:=0) rfl) ?_⟩;dsimp only[tC,cEq,onB];rw[fo,e];exact h
theorem uf {i:Nat} {x s:Str} {t:Zx} {ys:List V} {σ:St} {H:Hp} {T u:TS} {D:rA} (hσ:σ[i]?=some (some (.ref t))) (et:H t=some (.tup (.str s::ys))) (e:decide (s=x)=false) (h:u D σ H):Cv (CC (hdT i x) T qM) u D σ H:=zc hσ et e (iV h)
theorem BP {i:Nat} {x s:Str} {t:Zx} {ys:List V} {σ:St} {H:Hp} {T u:TS} {D:rA} (hσ:σ[i]?=some (some (.ref t))) (et:H t=some (.tup (.str s::ys))) (e:decide (s=x)=true) (h:T {D with nx:=u D} σ H):Cv (CC (hdT i x) T qM) u D σ H:=zc hσ et e (jl h)
theorem HA {a b:Int} {H:Hp} {F:Bool->Hp->Prop} (e:¬b<=a) (h:F false H):cI0 (fun i j=> .bl (decide (j<=i))) (.int a) (.int b) H fun x H'=>onB x fun k=>F k H':=by show F (decide (b<=a)) H;rw[iw e];exact h
theorem Ea {H:Hp} {t:Zx} {ρ:Ro} (h:Im H (.ref t) ρ.d):∃ys,H t=some (.tup (.str ρ.s::ys))/\Ims H ys ρ.r:=by
 unfold Ro.d at h
 cases h with
 |tup e i=>
  cases i with
  |cons a i=>cases a;exact⟨_,e,i⟩
theorem BQ {H:Hp} {l:Zx} {ys:List V} {y:V} {Q:VK} (e:H l=some (.lst (ys++[y]))) (q:Q y (L2.Internal.upd H l (.lst ys))):Kb (.ref l) [] H Q:=⟨l,_,y,rfl,rfl,e,by rw[aQ,bc,Nat.add_sub_cancel,aM (cM _),df];rfl,by rw[List.dropLast_concat];exact q⟩
inductive XTr (C:Zx) (vs:List V) (H:Hp) (Q:VK):Prop
 |mk (A:Mad) (tu:Nat) (s:Ms) (n:Nat) (l rd:List Vl) (e:vs=[.ref A.m,.int (n:Int)]) (M:Mc C H A tu s) (hn:n<=1000) (ht:tkR n s.rd []=some (l,rd)) (q:∀H' a xs,H a=none->H' a=some (.lst xs)->Ims H' xs (l.map Vl.d)->Mc C H' A tu {s with rd:=rd}->FM A H H'->Q (.ref a) H')
def JB (C:Zx):Sp:=fun vs H Q _=>XTr C vs H Q
def TrI (C:Zx) (A:Mad) (tu:Nat) (s:Ms) (n:Nat) (H:Hp) (tl:Zx) (i:Nat) (σ:St) (H2:Hp):Prop:=X2 fun(o:Option V) (xs:List V)=>Y5 (σ=[some (.ref A.m),some (.int (n:Int)),some (.ref tl),o]) (H2 tl=some (.lst xs)) (Ims H2 xs ((s.rd.take i).map Vl.d)) (Mc C H2 A tu {s with rd:=s.rd.drop i}) (FM A H H2)
theorem nE (T:Txt K mg):MO P w base mg 1 T.e52 (JB T.c5.a):=by
 refine T.e52.F.rd jq fun cdv A0 outer s0 H vs Q E hr h=>?_;obtain⟨A,tu,s,n,l,rd,rfl,M,hn,ht,q⟩:=h;refine⟨_,(fW (pS (i:=2) jq.nd (gR fX))
  (fW (jk PassesOwn.never rfl (mJ rfl T.z_range (fV (cv 1) fX)) (pN (i:=3) jq.nd)
   (gh (gK (ja (jM eX eY eZ gS (PE.mono (cv 2)) (fV (PE.mono (yB eX fb fc yC (gX T.c5.cl T.n5ready (cv 0)))) fX))))))
  (gh (gH (zU rfl rfl T.z_list rfl T.z_reversed (fV (cv 2) fX)))))),?_⟩;have sl:=sizeLine_eq;obtain⟨t1,t2,t3⟩:=rh ht;refine⟨qL,fun tl htl=>?_⟩;have S1:=gb htl (.lst []);have M1:=M.same S1;have nt:=M.new htl;have e1:(L2.Internal.upd H tl (.lst [])) tl=some (.lst []):=fY;dsimp only[hJ];refine⟨_,rfl,by lia,by lia,mK (TrI T.c5.a A tu s n H tl) ⟨none,[],rfl,e1,.nil,M1,FM.same S1⟩ ?_ ?_⟩
 ·rintro i σ H2 hi ⟨o,xs,rfl,e2,i2,M2,F2⟩;rw[fC]at hi;obtain⟨v,hv⟩:∃v,s.rd[i]?=some v:=⟨_,bB (by lia)⟩;have hdr:s.rd.drop i=v::s.rd.drop (i+ 1):=by obtain⟨z1,z2⟩:=au.mp hv;rw[bN z1,z2]
  obtain⟨ys,y,er,iy,M3,F3⟩:=M2.rdO hdr;have e3:(L2.Internal.upd H2 A.rd (.lst ys)) tl=some (.lst xs):=F3.get e2 nt;have i3:=i2.mono (M2.tk F3);have iy3:=iy.mono (M2.tk F3);have F03:=F2.trans F3;refine⟨⟨_,e2⟩,_,⟨_,_,M2.o,sG⟩,.inl ⟨rfl,_,SqL.of er⟩,BQ er ⟨xs,e3,?_,?_⟩⟩;·rw[i2.length,aE,aK];lia
  dsimp only;generalize L2.Internal.upd H2 A.rd (.lst ys)=H3 at e3 i3 iy3 F03 M3⊢;refine⟨_,_,rfl,fY,?_,M3.oth nt e3,F03.upd htl⟩;rw[cb,hv,bo];exact(i3.app (.cons iy3 .nil)).mono (Bh e3).tk
 ·rintro σ H2 ⟨o,xs,rfl,e2,i2,M2,F2⟩;rw[fC]at i2 M2;refine⟨tl,xs,rfl,SqL.of e2,fun a ha=>?_⟩;have S3:=gb ha (.lst xs.reverse);refine q _ a _ ?_ fY ?_ (by rw[t3];exact M2.same S3) (F2.trans (FM.same S3))
  ·cases hh:H a with
   |none=>rfl
   |some o=>
    by_cases z:a∈A.all;·exact absurd z (M2.new ha)
    ·rw[F2.get hh z]at ha;cases ha
  ·rw[t2,aF,List.map_reverse];exact(BN i2).mono (gB.tk S3)
inductive XFp (ρ:Ro) (vs:List V) (H:Hp) (Q:VK):Prop
 |mk (t:Zx) (e:vs=[.ref t]) (it:Im H (.ref t) ρ.d) (q:∀l H',gB H H'->H l=none->H' l=some (.lst ((qu ρ).map V.int))->Q (.ref l) H')
def JC:Sp:=fun vs H Q _=>∃ρ:Ro,ρ.ok/\XFp ρ vs H Q
theorem nY (T:Txt K mg):FO P w base 7 T.d4 JC:=by
 refine T.d4.F.rd sQ fun cdv A0 outer s0 H vs Q E hr h=>?_;obtain⟨ρ,ro,t,rfl,it,q⟩:=h;refine⟨_,(fW (ij (gN lU (gx gE (cv 0) fZ) gu)
   (gh (gH (gR fX)))
   gL)
  (fW (ij (gN lU (gx gE (cv 0) fZ) gu)
   (gh (gH (gR (fV (gx gE (cv 0) fZ) fX))))
   gL)
  (fW (ij (gN lU (gx gE (cv 0) fZ) gu)
   (gh (gH (gR (fV (gx gE (cv 0) fZ) fX))))
   gL)
  (gh (gH (pF T.d2 (qI T) hr.m (fV (cv 0) fX))))))),?_⟩;obtain⟨ys,et,iy⟩:=Ea it;obtain⟨_,hC,hF,hL⟩:=ρ.hd ro
 cases ρ with
 |fn w k=>exact BP rfl et hF ⟨qL,fun l hl=>q l _ (gb hl _) hl fY⟩
 |lt w a b=>
  cases iy with
  |cons h1 iy=>
   cases iy with
   |cons h2 iy=>cases h2;exact uf rfl et hF (BP rfl et hL ⟨_,et,gk (gj (j:=2) rfl) ⟨rp,fun l hl=>q l _ (gb hl _) hl fY⟩⟩)
 |case a b=>
  cases iy with
  |cons h1 iy=>cases h1;exact uf rfl et hF (uf rfl et hL (BP rfl et hC ⟨_,et,gk (gj (j:=1) rfl) ⟨rp,fun l hl=>q l _ (gb hl _) hl fY⟩⟩))
 |_=>exact uf rfl et hF (uf rfl et hL (uf rfl et hC ⟨t,_,rfl,it,ro,q⟩))
structure Ctx (CP:Zx) (H:Hp) (A:Mad) (names:Zd) (roots:List Nat) (ρs:List Ro) (ho:Nat->Option Hm):Prop where
 p:∃n r w dx xs,PrA CP H A.p n r w dx xs names roots ρs/\A.p∉A.all/\n∉A.all/\r∉A.all/\w∉A.all
 h:∃hs,H A.h=some (.lst hs)/\A.h∉A.all/\∀(k:Nat) (ρ:Ro),ρs[k]?=some ρ->∃y,hs[k]?=some y/\Im H y (hoD (ho k))
 ok:∀ρ∈ρs,ρ.ok
theorem Ctx.fm {C CP:Zx} {H H':Hp} {A:Mad} {tu:Nat} {s:Ms} {names:Zd} {roots:List Nat} {ρs:List Ro} {ho:Nat->Option Hm} (c:Ctx CP H A names roots ρs ho) (M:Mc C H A tu s) (F:FM A H H'):Ctx CP H' A names roots ρs ho:=by have k:=M.tk F;obtain⟨⟨n,r,w,dx,xs,pr,n1,n2,n3,n4⟩,⟨hs,e,n5,hh⟩,ok⟩:=c;exact⟨⟨n,r,w,dx,xs,⟨F.get pr.o n1,F.get pr.n n2,F.get pr.r n3,F.get pr.w n4,pr.i.mono k⟩,n1,n2,n3,n4⟩,⟨hs,F.get e n5,n5,fun j ρ hj=>let⟨y,a,b⟩:=hh j ρ hj;⟨y,a,b.mono k⟩⟩,ok⟩
theorem oN {p h me ha de st rd:Zx} {tu bg:Int} {en:V}:(fMc p h tu bg en me ha de st rd).lookup ("program":Str)=some (.ref p):=by kernel_rfl
theorem BR {p h me ha de st rd:Zx} {tu bg:Int} {en:V}:(fMc p h tu bg en me ha de st rd).lookup ("homes":Str)=some (.ref h):=by kernel_rfl
theorem FC {p h me ha de st rd:Zx} {tu bg v:Int} {en:V}:nK "begun" (.int v) (fMc p h tu bg en me ha de st rd)=fMc p h tu v en me ha de st rd:=by kernel_rfl
theorem xV {ρ:Ro} (h:ρ.ok):(qu ρ).length<=101:=by
 cases ρ with
 |rcd l=>have:l.length<=100:=h.1;show(l.map _).length<=_;rw[aE];lia
 |row l=>have:l.length<=100:=h;show l.length<=_;lia
 |op o l=>have:l.length<=100:=h.2;show l.length<=_;lia
 |_=>exact of_decide_eq_true rfl
theorem BS {C:Zx} {H:Hp} {A:Mad} {tu:Nat} {s:Ms} {σ:St} {j i:Nat} {t:Stp} {D:rA} (hσ:σ[0]?=some (some (.ref A.m))) (hp:σ[j]?=some (some (.int t.p))) (hx:σ[i]?=some (some .non)) (M:Mc C H A tu s) (ls:s.st.length<10000000) (k:∀H',Mc C H' A tu {s with st:=t::s.st}->FM A H H'->D.nx σ H'):
  Gx (Ki (Gj C "steps" (cV 0)) (J9 (oi (tC (.str t.s)) (oi (cV j) (oi (cV i) AF))))) D σ H:=by have sl:=sizeLine_eq;show onV σ[0]? _;rw[hσ];obtain⟨xs,e,_⟩:=M.st;refine⟨_,⟨_,_,M.o,nB⟩,⟨_,e⟩,?_⟩;show onV σ[j]? _;rw[hp];show onV σ[i]? _;rw[hx];refine⟨n8,fun a ha=>?_⟩;have S1:=gb ha (.tup [.str t.s,.int t.p,.non]);have M1:=M.same S1;have i1:Im (L2.Internal.upd H a (.tup [.str t.s,.int t.p,.non])) (.ref a) t.d:=vd ha (.cons (.flat rfl) (.cons (.flat rfl) (.cons (.flat rfl) .nil)));obtain⟨xs1,e1,l1,M2,F2⟩:=M1.stP i1;exact⟨xs1,e1,by lia,k _ M2 ((FM.same S1).trans F2)⟩
inductive XBe (C CP:Zx) (vs:List V) (H:Hp) (Q:VK):Prop
 |mk (A:Mad) (tu:Nat) (s:Ms) (k:Nat) (ρ:Ro) (names:Zd) (roots:List Nat) (ρs:List Ro) (ho:Nat->Option Hm) (e:vs=[.ref A.m,.int (k:Int),.non]) (M:Mc C H A tu s) (c:Ctx CP H A names roots ρs ho) (ht:s.bg<tu) (hk:ρs[k]?=some ρ) (hb:Bd 9000000 s) (q:∀H',Mc C H' A tu {s with bg:=s.bg+ 1,st:=(qu ρ).map Stp.beg++ .par (k:Int)::s.st}->FM A H H'->Q .non H')
def JD (C CP:Zx):Sp:=fun vs H Q _=>XBe C CP vs H Q
def BgI (C:Zx) (A:Mad) (tu:Nat) (s:Ms) (k:Nat) (ρ:Ro) (H:Hp) (lp:Zx) (i:Nat) (σ:St) (H2:Hp):Prop:=∃(o:Option V),Y4 (σ=[some (.ref A.m),some (.int (k:Int)),some .non,o]) (Mc C H2 A tu {s with bg:=s.bg+ 1,st:=((qu ρ).drop ((qu ρ).length-i)).map Stp.beg++ .par (k:Int)::s.st}) (FM A H H2) (H2 lp=some (.lst ((qu ρ).map V.int)))
theorem qS (T:Txt K mg):MO P w base mg 8 T.e50 (JD T.c5.a T.c7.a):=by
 refine T.e50.F.rd mF fun cdv A0 outer s0 H vs Q E hr h=>?_;obtain⟨A,tu,s,k,ρ,names,roots,ρs,ho,rfl,M,c,ht,hk,hb,q⟩:=h;refine⟨_,(fW (ij (gN Jg (gX T.c5.cl T.n5begun (cv 0)) (gX T.c5.cl T.n5turns (cv 0)))
   (fW (i9 T.c5.cl T.n5end (jc (PE.mono (cv 0)) (PE.mono gu) rfl))
   (gh Ao))
   gL)
  (fW (vK (cv 0) fZ DP)
  (fW (gK (ja (jM eX eY eZ gS (PE.mono (gX T.c5.cl T.n5steps (cv 0))) (fV (PE.mono (ik (fV gu (fV (cv 1) (fV (cv 2) fX))))) fX))))
  (gh (jk PassesOwn.never rfl (Hc rfl T.z_reversed (fV (pF T.d4 (nY T) hr.m (fV (gx gC (gX T.c7.cl T.n7rows (gX T.c5.cl T.n5program (cv 0))) (cv 1)) fX)) fX)) (pN (i:=3) mF.nd)
   (gh (gK (ja (jM eX eY eZ gS (PE.mono (gX T.c5.cl T.n5steps (cv 0))) (fV (PE.mono (ik (fV gu (fV (cv 3) (fV (cv 2) fX))))) fX)))))))))),?_⟩;have sl:=sizeLine_eq;refine⟨_,⟨_,_,M.o,sI⟩,_,⟨_,_,M.o,BM⟩,?_⟩;refine HA (by lia) (iV ?_);obtain⟨M1,F1⟩:=M.setO (s.bg+ 1) s.en;refine⟨A.m,_,_,_,_,rfl,M.o,T.c5.cl,T.n5begun,sI,?_⟩;refine⟨_,_,rfl,rfl,_,_,M.o,by show 10<1000;decide,?_⟩;rw[show((s.bg:Int)+ 1)=((s.bg+ 1:Nat):Int) by lia,FC];have c1:=c.fm M F1;dsimp only;generalize L2.Internal.upd H A.m (.ins T.c5.a A.dx (fMc A.p A.h tu ((s.bg+ 1:Nat):Int) (enV s.en) A.me A.ha A.de A.st A.rd))=H1 at M1 F1 c1⊢;have lst:=hb.2.2.2.1;refine BS (t:= .par (k:Int)) rfl rfl rfl M1 (by show s.st.length<_;lia) fun H2 M2 F2=>?_;have F02:=F1.trans F2;have c2:=c1.fm M1 F2;obtain⟨n,r,w,dx,xs,pr,n1,n2,n3,n4⟩:=c2.p;obtain⟨tr,ys,hxt,etr,_,him⟩:=u4 pr.i hk;have rok:=c.ok ρ (aP hk);refine⟨_,⟨_,_,M2.o,oN⟩,_,⟨_,_,pr.o,u0 _ _ _⟩,_,pr.w,gk (gj hxt) ⟨ρ,rok,tr,rfl,him,fun lp H3 S3 hlp e3=>?_⟩⟩;have M3:=M2.same S3;have nl:=M2.new hlp;have fl:(qu ρ).length<=101:=xV rok;refine⟨lp,_,rfl,SqL.of e3,FA (xs:=(qu ρ).map V.int) (BgI T.c5.a A tu s k ρ H lp) ⟨none,rfl,?_,F02.trans (FM.same S3),e3⟩ (fun i σ H4 _ ⟨_,_,_,_,e⟩=>SqL.of e) ?_ ?_⟩;·rw[Nat.sub_zero,bZ];exact M3
 ·rintro i v σ H4 hi hx ⟨o,rfl,M4,F4,e4⟩;rw[aE]at hi hx;rw[aO]at hx;obtain⟨j,hj,rfl⟩:=dB.mp hx;refine BS (t:= .beg j) rfl rfl rfl M4 ?_ fun H5 M5 F5=>⟨_,rfl,?_,F4.trans F5,F5.get e4 nl⟩;·show(((qu ρ).drop _).map _++_::s.st).length<_;rw[aQ,aE,aB,aY];lia
  ·have e:(qu ρ).drop ((qu ρ).length-(i+ 1))=j::(qu ρ).drop ((qu ρ).length-i):=by obtain⟨z1,z2⟩:=au.mp hj;rw[show(qu ρ).length-(i+ 1)=(qu ρ).length-1-i by lia,bN z1,z2,show(qu ρ).length-1-i+ 1=(qu ρ).length-i by lia]
   rw[e];exact M5
 ·rintro σ H4 ⟨o,rfl,M4,F4,e4⟩;rw[aE,df,cf]at M4;exact q _ M4 F4
theorem HB {i:Nat} {x s:Str} {t:Zx} {ys:List V} {σ:St} {H:Hp} {T u:TS} {D:rA} (hσ:σ[i]?=some (some (.ref t))) (et:H t=some (.tup (.str s::ys))) (e:decide (s=x)=false) (h:u D σ H):CC (hdT i x) T u D σ H:=zc hσ et e (iV h)
theorem BU {i:Nat} {x s:Str} {t:Zx} {ys:List V} {σ:St} {H:Hp} {T u:TS} {D:rA} (hσ:σ[i]?=some (some (.ref t))) (et:H t=some (.tup (.str s::ys))) (e:decide (s=x)=true) (h:T D σ H):CC (hdT i x) T u D σ H:=zc hσ et e (jl h)
theorem Ku {H:Hp} {xs:List V} {a b:Vl} (h:Ims H xs ([a,b].map Vl.d)):∃x y,xs=[x,y]/\Im H x a.d/\Im H y b.d:=by
 cases h with
 |cons h1 h=>
  cases h with
  |cons h2 h=>cases h;exact⟨_,_,rfl,h1,h2⟩
theorem BV {H:Hp} {x:V} {a b:Dt} (h:Im H x (.tup [a,b])):∃t y z,x= .ref t/\H t=some (.tup [y,z])/\Im H y a/\Im H z b:=by
 cases h with
 |tup e i=>
  cases i with
  |cons h1 i=>
   cases i with
   |cons h2 i=>cases i;exact⟨_,_,_,rfl,e,h1,h2⟩
theorem zd {H:Hp} {x:V} {n p:Int} (h:Im H x (Vl.num n p).d):∃t,x= .ref t/\H t=some (.tup [.str "num",.int n,.int p]):=by obtain⟨t,y,rfl,e,i⟩:=sJ h;cases(show Im H y (kD n)from i);exact⟨t,rfl,e⟩
theorem nZ {H:Hp} {x:V} {l:List (Int×Int)} {p:Int} (h:Im H x (Vl.row l p).d):∃t u zs,x= .ref t/\H t=some (.tup [.str "row",.ref u,.int p])/\H u=some (.tup zs)/\Ims H zs (l.map thD):=by
 obtain⟨t,y,rfl,e,i⟩:=sJ h;have i:Im H y (.tup (l.map thD)):=i
 cases i with
 |tup e2 i2=>exact⟨t,_,_,rfl,e,e2,i2⟩
theorem FD {K:Zp} {H:Hp} {a b:Zx} {xs ys:List V} {ds es:List Dt} {Q:VK} (ea:H a=some (.tup xs)) (eb:H b=some (.tup ys)) (ia:Ims H xs ds) (ib:Ims H ys es) (hl:xs.length+ys.length<=sizeLine) (q:∀(z:Zx) (zs:List V) (H':Hp),gB H H'->H' z=some (.tup zs)->Ims H' zs (ds++es)->Q (.ref z) H'):E5 K (.ref a) (.ref b) H Q:=by
 refine⟨a,b,xs,ys,rfl,rfl,SqT.of ea,SqT.of eb,hl,fun z=>?_,fun z=>?_,fun p hp=>?_⟩;·subst z;cases ia;exact q b ys H (fun _ _ e=>e) eb ib
 ·subst z;cases ib;rw[aF]at q;exact q a xs H (fun _ _ e=>e) ea ia
 ·exact q p _ _ (gb hp _) fY ((ia.app ib).mono (gB.tk (gb hp _)))
theorem ims1 {H:Hp} {xs:List V} {a:Vl} (h:Ims H xs ([a].map Vl.d)):∃x,xs=[x]/\Im H x a.d:=by
 cases h with
 |cons h1 h=>cases h;exact⟨_,rfl,h1⟩
theorem ims3 {H:Hp} {xs:List V} {a b c:Vl} (h:Ims H xs ([a,b,c].map Vl.d)):∃x y z,xs=[x,y,z]/\Im H x a.d/\Im H y b.d/\Im H z c.d:=by
 cases h with
 |cons h1 h=>
  cases h with
  |cons h2 h=>
   cases h with
   |cons h3 h=>cases h;exact⟨_,_,_,rfl,h1,h2,h3⟩
theorem Bd.le {n m:Nat} {s:Ms} (h:Bd n s) (k:autoParam (n<=m) L2.Internal.auD._auto_1):Bd m s:=h.mono k
theorem Bd.come {v:Vl} {p k:Int} {s:Ms} {n:Nat} (h:Bd n s):Bd (n+ 1) (mI v p k s):=by obtain⟨a,b,c,d,e⟩:=h;exact⟨dj a,dm b,dm c,dm d,dm e⟩
theorem wF {C:Zx} {H:Hp} {A:Mad} {tu:Nat} {s:Ms} {k:Int} {a:Zx} {xs:List V} {ds:List Dt} {v:Vl} {Q:VK} (M:Mc C H A tu s) (hb:Bd 9500000 s) (ha:H a=none) (i:Ims H xs ds) (hv:v.d= .tup ds) (q:∀H',Mc C H' A tu (sZ k v s)->FM A H H'->Q .non H'):y9 C [.ref A.m,.int k,.ref a] (L2.Internal.upd H a (.tup xs)) Q E0:=
 have b1:=hb.2.1
 have b2:=hb.2.2.2.2
 ⟨A,tu,s,k,_,v,rfl,M.same (gb ha _),by rw[hv];exact vd ha i,by lia,by lia,fun H' M' F'=>q H' M' ((FM.same (gb ha _)).trans F')⟩
theorem BW {C:Zx} {H:Hp} {A:Mad} {tu:Nat} {s:Ms} {k:Int} {x:V} {v:Vl} {Q:VK} (M:Mc C H A tu s) (hb:Bd 9500000 s) (i:Im H x v.d) (q:∀H',Mc C H' A tu (sZ k v s)->FM A H H'->Q .non H'):y9 C [.ref A.m,.int k,x] H Q E0:=
 have b1:=hb.2.1
 have b2:=hb.2.2.2.2
 ⟨A,tu,s,k,_,v,rfl,M,i,by lia,by lia,q⟩
inductive XW (C CP:Zx) (U:Ro->Prop) (vs:List V) (H:Hp) (Q:VK):Prop
 |mk (A:Mad) (tu:Nat) (s s':Ms) (k:Nat) (t ps:Zx) (xs:List V) (l:List Vl) (ρ:Ro) (names:Zd) (roots:List Nat) (ρs:List Ro) (ho:Nat->Option Hm) (e:vs=[.ref A.m,.ref t,.int (k:Int),.non,.ref ps]) (M:Mc C H A tu s) (c:Ctx CP H A names roots ρs ho) (hk:ρs[k]?=some ρ) (hu:U ρ) (it:Im H (.ref t) ρ.d) (ep:H ps=some (.lst xs)) (np:ps∉A.all) (il:Ims H xs (l.map Vl.d)) (hb:Bd 9000000 s) (hw:Wm (ho k) k s ρ l s') (q:∀H',Mc C H' A tu s'->FM A H H'->Q .non H')
def oO (C CP:Zx) (U:Ro->Prop):Sp:=fun vs H Q _=>XW C CP U vs H Q
theorem xW (T:Txt K mg):FO P w base 4 T.d6 (oO T.c5.a T.c7.a fun ρ=>∃n,ρ= .num n):=by
 refine T.d6.F.rd xK fun cdv A0 outer s0 H vs Q E hr h=>?_;obtain⟨A,tu,s,s',k,t,ps,xs,l,ρ,names,roots,ρs,ho,rfl,M,c,hk,⟨n,rfl⟩,it,ep,np,il,hb,hw,q⟩:=h;refine⟨_,(gh (gK (iB (gZ (PE.mono (cv 0)) T.c5.cl T.e53.me (iq T) hr.m T.e53.b .nil jB (fV (cv 2) (fV (ik (fV gu (fV (gx gE (cv 1) fZ) (fV (cv 2) fX)))) fX)))))),?_⟩;obtain⟨ys,et,iy⟩:=Ea it
 cases iy with
 |cons h1 iy=>cases h1;cases hw;exact⟨⟨_,_,M.o,jN gQ⟩,_,et,gk (gj (j:=1) rfl) ⟨n8,fun a ha=>wF (v:= .num n k) M hb.le ha (.cons (.flat rfl) (.cons (.flat rfl) (.cons (.flat rfl) .nil))) rfl q⟩⟩
theorem wG (T:Txt K mg):FO P w base 4 T.d7 (oO T.c5.a T.c7.a fun ρ=>∃n,ρ= .name n):=by
 have gD5:FO P w base 1 T.d5 (fun _ _ _ _=>False):=T.d5.F.ok uU (fun vs H Q E h=>h.elim) (fun cdv A0 outer s0 H vs Q E hr h=>h.elim);refine T.d7.F.rd qF fun cdv A0 outer s0 H vs Q E hr h=>?_;obtain⟨A,tu,s,s',k,t,ps,xs,l,ρ,names,roots,ρs,ho,rfl,M,c,hk,⟨n,rfl⟩,it,ep,np,il,hb,hw,q⟩:=h;refine⟨_,(fW (pS (i:=5) qF.nd (gx gC (gX T.c5.cl T.n5homes (cv 0)) (cv 2)))
  (gh (ij (gN lU (gx gE (cv 5) fZ) gu)
   (gh (gK (iB (gZ (PE.mono (cv 0)) T.c5.cl T.e53.me (iq T) hr.m T.e53.b .nil jB (fV (cv 2) (fV (gx gC (gX T.c5.cl T.n5defined (cv 0)) (gx gE (cv 5) fZ)) fX))))))
   (gh (gK (iB (gZ (PE.mono (cv 0)) T.c5.cl T.e53.me (iq T) hr.m T.e53.b .nil jB (fV (cv 2) (fV (pF T.d5 gD5 hr.m (fV (cv 3) (fV (gx gE (cv 5) fZ) fX))) fX))))))))),?_⟩;obtain⟨hs,eh,_,hh⟩:=c.h;obtain⟨y,ey,iy⟩:=hh k _ hk
 cases hw with
 |@name _ h v e hv=>rw[e]at iy;obtain⟨th,y1,y2,rfl,eth,i1,i2⟩:=BV (show Im H y (.tup [.flat (.str "def"),.flat (.int h)])from iy);cases i1;cases i2;refine⟨_,⟨_,_,M.o,BR⟩,_,eh,gk (gj ey) ?_⟩;dsimp only[hJ];obtain⟨zs,ez,iz⟩:=M.de;have lz:=iz.length;rw[aE]at lz;have hjl:=(au.mp hv).1;obtain⟨d,hd',im⟩:=jP iz (bB (show h<zs.length by lia));rw[aO,hv]at hd';cases hd';refine BU rfl eth (hV rfl) ?_;exact⟨⟨_,_,M.o,jN gQ⟩,_,⟨_,_,M.o,oM⟩,_,eth,gk (gj (j:=1) rfl) ⟨_,ez,gk (gj (bB (show h<zs.length by lia))) (BW M hb.le im q)⟩⟩
theorem xX (T:Txt K mg):FO P w base 4 T.d12 (oO T.c5.a T.c7.a fun ρ=>∃ks,ρ= .op "sub" ks):=by
 refine T.d12.F.rd xN fun cdv A0 outer s0 H vs Q E hr h=>?_;obtain⟨A,tu,s,s',k,t,ps,xs,l,ρ,names,roots,ρs,ho,rfl,M,c,hk,⟨ks,rfl⟩,it,ep,np,il,hb,hw,q⟩:=h;refine⟨_,(gh (ij (jA (iB (gZ (PE.mono (cv 0)) T.c5.cl T.e56.me (km T) hr.m T.e56.b .nil jB (fV gu (fV (cv 4) (fV (cv 2) fX))))))
   (gh (gK (iB (gZ (PE.mono (cv 0)) T.c5.cl T.e53.me (iq T) hr.m T.e53.b .nil jB (fV (cv 2) (fV (ik (fV gu (fV (ic rR (gx gE (gx gC (cv 4) fZ) fZ) (gx gE (gx gC (cv 4) fZ) fZ)) (fV (cv 2) fX)))) fX))))))
   gL)),?_⟩
 cases hw with
 |@sub _ n m pn pm=>obtain⟨x0,x1,rfl,i0,i1⟩:=Ku il;have b1:=hb.1;refine⟨⟨_,_,M.o,jN gQ⟩,A,tu,s,ps,x0,x1,.num n pn,.num m pm,k,rfl,M,ep,fun z=>np (by rw[z];exact ah),fun z=>np (aj _ z),i0,i1,rfl,by lia,fun H1 M1 F1=>?_⟩;obtain⟨ta,rfl,eta⟩:=zd (i0.mono (M.tk F1));obtain⟨tb,rfl,etb⟩:=zd (i1.mono (M.tk F1));have ep1:=F1.get ep np;exact⟨_,rfl,jl ⟨⟨_,_,M1.o,jN gQ⟩,_,ep1,gk (gj (j:=0) rfl) ⟨_,eta,gk (gj (j:=1) rfl) ⟨_,ep1,gk (gj (j:=1) rfl) ⟨_,etb,gk (gj (j:=1) rfl) ⟨n8,fun a' ha=>wF (v:= .num (n-m) k) M1 hb.come.come.le ha (.cons (.flat rfl) (.cons (.flat rfl) (.cons (.flat rfl) .nil))) rfl fun H' M' F'=>q H' M' (F1.trans F')⟩⟩⟩⟩⟩⟩
theorem xY (T:Txt K mg):FO P w base 4 T.d8 (oO T.c5.a T.c7.a fun ρ=>∃ks,ρ= .row ks):=by
 refine T.d8.F.rd xM fun cdv A0 outer s0 H vs Q E hr h=>?_;obtain⟨A,tu,s,s',k,t,ps,xs,l,ρ,names,roots,ρs,ho,rfl,M,c,hk,⟨ks,rfl⟩,it,ep,np,il,hb,hw,q⟩:=h;refine⟨_,(gh (gK (iB (gZ (PE.mono (cv 0)) T.c5.cl T.e53.me (iq T) hr.m T.e53.b .nil jB (fV (cv 2) (fV (ik (fV gu (fV (jL jx rfl T.z_tuple jW (fV (cv 4) fX)) (fV (cv 2) fX)))) fX)))))),?_⟩;have sl:=sizeLine_eq
 cases hw with
 |@row _ l=>
  have il:Ims H xs (l.map thD):=by rw[bC]at il;exact il
  refine⟨⟨_,_,M.o,jN gQ⟩,ps,xs,rfl,.inl ⟨SqL.of ep,fun a1 h1=>⟨n8,fun a ha=>?_⟩⟩⟩;have S1:=gb h1 (.tup xs);exact wF (v:= .row l k) (M.same S1) hb.le ha (.cons (.flat rfl) (.cons (vd h1 il) (.cons (.flat rfl) .nil))) rfl fun H' M' F'=>q H' M' ((FM.same S1).trans F')
theorem wH (T:Txt K mg):FO P w base 4 T.d11 (oO T.c5.a T.c7.a fun ρ=>∃ks,ρ= .op "size" ks):=by
 refine T.d11.F.rd wq fun cdv A0 outer s0 H vs Q E hr h=>?_;obtain⟨A,tu,s,s',k,t,ps,xs,l,ρ,names,roots,ρs,ho,rfl,M,c,hk,⟨ks,rfl⟩,it,ep,np,il,hb,hw,q⟩:=h;refine⟨_,(gh (ij (jA (iB (gZ (PE.mono (cv 0)) T.c5.cl T.e55.me (jS T) hr.m T.e55.b .nil jB (fV gu (fV (gx gC (cv 4) fZ) (fV (cv 2) (fV fZ fX)))))))
   (gh (gK (iB (gZ (PE.mono (cv 0)) T.c5.cl T.e53.me (iq T) hr.m T.e53.b .nil jB (fV (cv 2) (fV (ik (fV gu (fV (gG gA rfl T.z_len iH (fV (gx gE (gx gC (cv 4) fZ) fZ) fX)) (fV (cv 2) fX)))) fX))))))
   gL)),?_⟩;have sl:=sizeLine_eq
 cases hw with
 |@size _ l pq=>obtain⟨x0,rfl,i0⟩:=ims1 il;have b1:=hb.1;refine⟨⟨_,_,M.o,jN gQ⟩,_,ep,gk (gj (j:=0) rfl) ⟨A,tu,s,x0,.row l pq,k,0,rfl,M,i0,by lia,fun H1 M1 F1=>⟨_,rfl,jl ?_⟩⟩⟩;obtain⟨ta,ua,za,rfl,eta,eua,ia⟩:=nZ (i0.mono (M.tk F1));have la:=ia.length;rw[aE]at la;refine⟨⟨_,_,M1.o,jN gQ⟩,_,F1.get ep np,gk (gj (j:=0) rfl) ⟨_,eta,gk (gj (j:=1) rfl) ⟨ua,_,rfl,.inr (SqT.of eua),n8,fun a' ha=>?_⟩⟩⟩;rw[la];exact wF (v:= .num (l.length:Int) k) M1 hb.come.le ha (.cons (.flat rfl) (.cons (.flat rfl) (.cons (.flat rfl) .nil))) rfl fun H' M' F'=>q H' M' (F1.trans F')
theorem wI (T:Txt K mg):FO P w base 4 T.d10 (oO T.c5.a T.c7.a fun ρ=>∃ks,ρ= .op "join" ks):=by
 refine T.d10.F.rd qG fun cdv A0 outer s0 H vs Q E hr h=>?_;obtain⟨A,tu,s,s',k,t,ps,xs,l,ρ,names,roots,ρs,ho,rfl,M,c,hk,⟨ks,rfl⟩,it,ep,np,il,hb,hw,q⟩:=h;refine⟨_,(gh (ij (jA (iB (gZ (PE.mono (cv 0)) T.c5.cl T.e56.me (km T) hr.m T.e56.b .nil jB (fV gu (fV (cv 4) (fV (cv 2) fX))))))
   (fW (pS (i:=5) qG.nd (ic Bm (gx gE (gx gC (cv 4) fZ) fZ) (gx gE (gx gC (cv 4) fZ) fZ)))
   (gh (ij (gN zR (gG gA rfl T.z_len iH (fV (cv 5) fX)) (pX rfl T.o1))
    (gh (i9 T.c5.cl T.n5end (jc (PE.mono (cv 0)) (PE.mono gu) rfl)))
    (gh (gK (iB (gZ (PE.mono (cv 0)) T.c5.cl T.e53.me (iq T) hr.m T.e53.b .nil jB (fV (cv 2) (fV (ik (fV gu (fV (cv 5) (fV (cv 2) fX)))) fX)))))))))
   gL)),?_⟩;have sl:=sizeLine_eq;obtain⟨lr,mr,p0,p1,rfl,h1,h2,qj,qf⟩:∃lr mr p0 p1,l=[.row lr p0,.row mr p1]/\lr.length<=500/\mr.length<=500/\(lr.length+mr.length<=60->∀H',Mc T.c5.a H' A tu (sZ k (.row (lr++mr) k) (mI (.row mr p1) k 1 (mI (.row lr p0) k 0 s)))->FM A H H'->Q .non H')/\(60<lr.length+mr.length->∀H',Mc T.c5.a H' A tu {mI (.row mr p1) k 1 (mI (.row lr p0) k 0 s)with en:=some "full"}->FM A H H'->Q .non H'):=by
  cases hw with
  |join hl hm h=>exact⟨_,_,_,_,rfl,hl,hm,fun _=>q,fun z=>absurd z (by lia)⟩
  |full hl hm h=>exact⟨_,_,_,_,rfl,hl,hm,fun z=>absurd z (by lia),fun _=>q⟩
 obtain⟨x0,x1,rfl,i0,i1⟩:=Ku il;have b1:=hb.1;refine⟨⟨_,_,M.o,jN gQ⟩,A,tu,s,ps,x0,x1,.row lr p0,.row mr p1,k,rfl,M,ep,fun z=>np (by rw[z];exact ah),fun z=>np (aj _ z),i0,i1,rfl,by lia,fun H1 M1 F1=>?_⟩;obtain⟨ta,ua,za,rfl,eta,eua,ia⟩:=nZ (i0.mono (M.tk F1));obtain⟨tb,ub,zb,rfl,etb,eub,ib⟩:=nZ (i1.mono (M.tk F1));have ep1:=F1.get ep np;have la:=ia.length;have lb:=ib.length;rw[aE]at la lb;refine⟨_,rfl,jl ⟨_,ep1,gk (gj (j:=0) rfl) ⟨_,eta,gk (gj (j:=1) rfl) ⟨_,ep1,gk (gj (j:=1) rfl) ⟨_,etb,gk (gj (j:=1) rfl) ?_⟩⟩⟩⟩⟩;refine FD eua eub ia ib (by lia) fun z zs H2 S2 ez iz=>?_;rw[<-bo]at iz;have M2:=M1.same S2;have F2:=F1.trans (FM.same S2);have lz:=iz.length;rw[aE,aQ]at lz;dsimp only[hJ];refine⟨z,zs,rfl,.inr (SqT.of ez),?_⟩;by_cases h6:60<lr.length+mr.length;·dsimp only[tC,cI0,onB];rw[hV (show(60:Int)<(zs.length:Int) by lia)];refine jl ⟨_,_,M2.o,by show 10<1000;decide,?_⟩;rw[y8];obtain⟨M3,F3⟩:=M2.setO _ (some "full");exact qf h6 _ M3 (F2.trans F3)
 ·dsimp only[tC,cI0,onB];rw[iw (show ¬(60:Int)<(zs.length:Int) by lia)];exact iV ⟨⟨_,_,M2.o,jN gQ⟩,n8,fun a' ha=>wF (v:= .row (lr++mr) k) M2 hb.come.come.le ha (.cons (.flat rfl) (.cons (.tup ez iz) (.cons (.flat rfl) .nil))) rfl fun H' M' F'=>qj (by lia) H' M' (F2.trans F')⟩
theorem Af (T:Txt K mg):FO P w base 4 T.d9 (oO T.c5.a T.c7.a fun ρ=>∃ks,ρ= .op "at" ks):=by
 refine T.d9.F.rd qp fun cdv A0 outer s0 H vs Q E hr h=>?_;obtain⟨A,tu,s,s',k,t,ps,xs,l,ρ,names,roots,ρs,ho,rfl,M,c,hk,⟨ks,rfl⟩,it,ep,np,il,hb,hw,q⟩:=h;refine⟨_,(gh (ij (PW.pt (tL (jA (iB (gZ (PE.mono (cv 0)) T.c5.cl T.e55.me (jS T) hr.m T.e55.b .nil jB (fV gu (fV (gx gC (cv 4) fZ) (fV (cv 2) (fV fZ fX))))))) (uk (jA (iB (gZ (PE.mono (cv 0)) T.c5.cl T.e55.me (jS T) hr.m T.e55.b .nil jB (fV gu (fV (gx gC (cv 4) fZ) (fV (cv 2) (fV fZ fX))))))))))
   (fW (pS (i:=5) qp.nd (gx gE (gx gC (cv 4) fZ) fZ))
   (fW (pS (i:=6) qp.nd (gx gE (gx gC (cv 4) fZ) fZ))
   (gh (gK (iB (gZ (PE.mono (cv 0)) T.c5.cl T.e53.me (iq T) hr.m T.e53.b .nil jB (fV (cv 2) (fV (um (oY vG Et fZ (cv 6) (gG gA rfl T.z_len iH (fV (cv 5) fX))) (gx gE (cv 5) (cv 6)) (gx gC (cv 4) fZ)) fX))))))))
   gL)),?_⟩;have sl:=sizeLine_eq
 cases hw with
 |@«at» _ l n p0 p1 v=>
  obtain⟨x0,x1,x2,rfl,i0,i1,i2⟩:=ims3 il;have b1:=hb.1;refine⟨⟨_,_,M.o,jN gQ⟩,_,ep,gk (gj (j:=0) rfl) ⟨A,tu,s,x0,.row l p0,k,0,rfl,M,i0,by lia,fun H1 M1 F1=>⟨_,rfl,jl ?_⟩⟩⟩;have ep1:=F1.get ep np;have b2:=(hb.come (v:= .row l p0) (p:=k) (k:=0)).1;refine⟨⟨_,_,M1.o,jN gQ⟩,_,ep1,gk (gj (j:=1) rfl) ⟨A,tu,_,x1,.num n p1,k,1,rfl,M1,i1.mono (M.tk F1),by lia,fun H2 M2 F2=>⟨_,rfl,jl ?_⟩⟩⟩;have k2:TK H H2:=fun a xs e=>M1.tk F2 _ _ (M.tk F1 _ _ e);have F02:=F1.trans F2;have ep2:=F2.get ep1 np;obtain⟨ta,ua,za,rfl,eta,eua,ia⟩:=nZ (i0.mono k2);obtain⟨tb,rfl,etb⟩:=zd (i1.mono k2);have la:=ia.length;rw[aE]at la;refine⟨_,ep2,gk (gj (j:=0) rfl) ⟨_,eta,gk (gj (j:=1) rfl) ?_⟩⟩;dsimp only[hJ];refine⟨_,ep2,gk (gj (j:=1) rfl) ⟨_,etb,gk (gj (j:=1) rfl) ?_⟩⟩;dsimp only[hJ];refine⟨⟨_,_,M2.o,jN gQ⟩,0,n,rfl,rfl,?_⟩;have fin:∀{x:V},Im H2 x (atV l n v).d->y9 T.c5.a [.ref A.m,.int k,x] H2 Q E0:=fun im=>BW M2 hb.come.come.le im fun H' M' F'=>q H' M' (F02.trans F')
  cases n with
  |ofNat j=>
   refine⟨true,congrArg V.bl (hV (Int.natCast_nonneg j)),jl ⟨ua,za,rfl,.inr (SqT.of eua),_,_,rfl,rfl,?_⟩⟩;by_cases hj:j<l.length;·refine⟨true,congrArg V.bl (hV (show((j:Nat):Int)<(za.length:Int) by lia)),jl ⟨_,eua,gk (gj (bB (show j<za.length by lia))) (fin ?_)⟩⟩;obtain⟨d,hd',im⟩:=jP ia (bB (show j<za.length by lia));rw[aO,bB hj]at hd';cases hd';unfold atV;dsimp only;rw[bB hj];exact im
   ·refine⟨false,congrArg V.bl (iw (show ¬((j:Nat):Int)<(za.length:Int) by lia)),iV ⟨_,ep2,gk (gj (j:=2) rfl) (fin ?_)⟩⟩;unfold atV;dsimp only;rw[bF (by lia)];exact i2.mono k2
  |negSucc j=>exact⟨false,congrArg V.bl (iw (by lia)),iV ⟨false,rfl,iV ⟨_,ep2,gk (gj (j:=2) rfl) (fin (i2.mono k2))⟩⟩⟩
inductive WkS (T:Txt K mg):Zx->Sp->Prop
 |num:WkS T T.d6.a (oO T.c5.a T.c7.a fun ρ=>∃n,ρ= .num n)
 |name:WkS T T.d7.a (oO T.c5.a T.c7.a fun ρ=>∃n,ρ= .name n)
 |row:WkS T T.d8.a (oO T.c5.a T.c7.a fun ρ=>∃ks,ρ= .row ks)
 |sub:WkS T T.d12.a (oO T.c5.a T.c7.a fun ρ=>∃ks,ρ= .op "sub" ks)
 |size:WkS T T.d11.a (oO T.c5.a T.c7.a fun ρ=>∃ks,ρ= .op "size" ks)
 |att:WkS T T.d9.a (oO T.c5.a T.c7.a fun ρ=>∃ks,ρ= .op "at" ks)
 |join:WkS T T.d10.a (oO T.c5.a T.c7.a fun ρ=>∃ks,ρ= .op "join" ks)
theorem WkS.at {T:Txt K mg} {X:Cx} (e1:X.prog=P) (e2:X.w=w) (e3:X.K=K) (e4:X.mg=mg) (e5:X.base=base) {f:Zx} {sp:Sp} (h:WkS T f sp):Km X CX0 4 f sp:=by
 subst e1 e2 e3 e4 e5
 cases h with
 |num=>exact⟨_,_,xW T,T.d6.k,T.d6.b⟩
 |name=>exact⟨_,_,wG T,T.d7.k,T.d7.b⟩
 |row=>exact⟨_,_,xY T,T.d8.k,T.d8.b⟩
 |sub=>exact⟨_,_,xX T,T.d12.k,T.d12.b⟩
 |size=>exact⟨_,_,wH T,T.d11.k,T.d11.b⟩
 |att=>exact⟨_,_,Af T,T.d9.k,T.d9.b⟩
 |join=>exact⟨_,_,wI T,T.d10.k,T.d10.b⟩
structure Wk (P:Zu) (w:Zv) (T:Txt K mg) where
 a:Zx
 m:mg "WORKERS"=some (.ref a)
 kvs:List (Key×V)
 kd:A6 P w K a kvs
 yes:∀{hm p s ρ l s'},Wm hm p s ρ l s'->∃f U,jK kvs (Sum.inr ρ.s)=some (.ref f)/\WkS T f (oO T.c5.a T.c7.a U)/\U ρ
inductive XWp (C CP:Zx) (vs:List V) (H:Hp) (Q:VK):Prop
 |mk (A:Mad) (tu:Nat) (s s':Ms) (k:Nat) (ρ:Ro) (l rd:List Vl) (names:Zd) (roots:List Nat) (ρs:List Ro) (ho:Nat->Option Hm) (e:vs=[.ref A.m,.int (k:Int),.non]) (M:Mc C H A tu s) (c:Ctx CP H A names roots ρs ho) (hk:ρs[k]?=some ρ) (hb:Bd 9000000 s) (ht:tkR (qu ρ).length s.rd []=some (l,rd)) (hw:Wm (ho k) k {s with rd:=rd} ρ l s') (q:∀H',Mc C H' A tu s'->FM A H H'->Q .non H')
def JE (C CP:Zx):Sp:=fun vs H Q _=>XWp C CP vs H Q
theorem nF (T:Txt K mg) (W:Wk P w T):MO P w base mg 8 T.e51 (JE T.c5.a T.c7.a):=by
 refine T.e51.F.rd kE fun cdv A0 outer s0 H vs Q E hr h=>?_;obtain⟨A,tu,s,s',k,ρ,l,rd,names,roots,ρs,ho,rfl,M,c,hk,hb,ht,hw,q⟩:=h;refine⟨_,(fW (pS (i:=3) kE.nd (gx gC (gX T.c7.cl T.n7rows (gX T.c5.cl T.n5program (cv 0))) (cv 1)))
  (gh (gK (C9 (fun f sp (h:WkS T f sp)=>h.at rfl rfl rfl rfl rfl) hr.m jB (A8 W.kd (CS rfl W.m) (gx gE (cv 3) fZ)) (fV (cv 0) (fV (cv 3) (fV (cv 1) (fV (cv 2) (fV (iB (gZ (PE.mono (cv 0)) T.c5.cl T.e52.me (nE T) hr.m T.e52.b .nil jB (fV (gG gA rfl T.z_len iH (fV (pF T.d4 (nY T) hr.m (fV (cv 3) fX)) fX)) fX))) fX))))))))),?_⟩;obtain⟨n,r,w,dx,xs,pr,n1,n2,n3,n4⟩:=c.p;obtain⟨tr,ys,hxt,etr,_,him⟩:=u4 pr.i hk;have rok:=c.ok ρ (aP hk);obtain⟨f,U,hv,hS,hU⟩:=W.yes hw;refine⟨_,⟨_,_,M.o,oN⟩,_,⟨_,_,pr.o,u0 _ _ _⟩,_,pr.w,gk (gj hxt) ?_⟩;dsimp only[hJ];refine⟨_,etr,gk (gj (j:=0) rfl) ⟨Sum.inr ρ.s,_,rfl,rfl,hv,f,_,rfl,hS,?_⟩⟩;refine⟨⟨_,_,M.o,jN gQ⟩,ρ,rok,tr,rfl,him,fun lp H1 S1 hlp e1=>?_⟩;have M1:=M.same S1;have fl:(qu ρ).length<=101:=xV rok;refine⟨lp,_,rfl,.inl (SqL.of e1),A,tu,s,(qu ρ).length,l,rd,?_,M1,by lia,ht,fun H2 ps zs h0 ep iz M2 F2=>?_⟩;·rw[aE];rfl
 have c2:=(c.fm M (FM.same S1)).fm M1 F2;have k2:TK H H2:=fun a xs e=>M1.tk F2 _ _ (gB.tk S1 _ _ e);have F02:=(FM.same (A:=A) S1).trans F2;obtain⟨t1,_,t3⟩:=rh ht;refine⟨A,tu,_,s',k,tr,ps,zs,l,ρ,names,roots,ρs,ho,rfl,M2,c2,hk,hU,him.mono k2,ep,M1.new h0,iz,?_,hw,fun H' M' F'=>q H' M' (F02.trans F')⟩;obtain⟨b1,b2,b3,b4,b5⟩:=hb;exact⟨b1,b2,b3,b4,by show rd.length<=_;rw[t3,aY];lia⟩
inductive xZ (ρs:List Ro) (ho:Nat->Option Hm) (tu:Nat):Nat->Ms->Ms->Prop
 |stop {s:Ms} (h:s.en≠none\/s.st=[]):xZ ρs ho tu 0 s s
 |step {n:Nat} {s s' s2:Ms} (h0:s.en=none) (h:Sp1 ρs ho tu s s') (r:xZ ρs ho tu n s' s2):xZ ρs ho tu (n+ 1) s s2
theorem JF {hm:Option Hm} {p:Int} {ρ:Ro} {l:List Vl} {s s':Ms} {n:Nat} (h:Wm hm p s ρ l s') (b:Bd n s):Bd (n+ 3) s':=by
 have fi:∀{v:Vl} {s:Ms} {n:Nat},Bd n s->Bd (n+ 1) (sZ p v s):=fun⟨b1,b2,b3,b4,b5⟩=>⟨dm b1,dj b2,dm b3,dm b4,dj b5⟩
 cases h with
 |num=>exact(fi b).mono (by lia)
 |name e hv=>exact(fi b).mono (by lia)
 |row=>exact(fi b).mono (by lia)
 |sub=>exact fi b.come.come
 |size=>exact(fi b.come).mono (by lia)
 |«at»=>exact fi b.come.come
 |join _ _ _=>exact fi b.come.come
 |full _ _ _=>obtain⟨b1,b2,b3,b4,b5⟩:=b.come.come;exact⟨dm b1,dm b2,dm b3,dm b4,dm b5⟩
theorem BX {ρs:List Ro} {ho:Nat->Option Hm} {tu n:Nat} {s s':Ms} (ok:∀ρ∈ρs,ρ.ok) (h:Sp1 ρs ho tu s s') (b:Bd n s):Bd (n+ 200) s':=by
 obtain⟨b1,b2,b3,b4,b5⟩:=b
 cases h with
 |@beg p ρ r hs hk hb=>have fl:=xV (ok ρ (aP hk));rw[hs,aB]at b4;exact⟨by show s.me.length<=_;lia,by show s.ha.length<=_;lia,by show s.de.length<=_;lia,by show(List.map _ _++_::r).length<=_;rw[aQ,aE,aB];lia,by show s.rd.length<=_;lia⟩
 |@par p ρ r l rd _ hs hk ht hw=>obtain⟨_,_,t3⟩:=rh ht;rw[hs,aB]at b4;exact(JF (n:=n) hw ⟨b1,b2,b3,by show r.length<=_;lia,by show rd.length<=_;rw[t3,aY];lia⟩).mono (by lia)
theorem xZ.bd {ρs:List Ro} {ho:Nat->Option Hm} {tu n:Nat} {s s':Ms} (ok:∀ρ∈ρs,ρ.ok) (r:xZ ρs ho tu n s s'):∀{b:Nat},Bd b s->Bd (b+ 200*n) s':=by
 induction r with
 |stop h=>exact fun hb=>hb
 |step h0 h r ih=>exact fun hb=>(ih (BX ok h hb)).mono (by lia)
theorem BY (e:Option Str):decide (enV e=V.non)=decide (e=none):=by
 cases e with
 |none=>rfl
 |some x=>rw[iw (fun z=>nomatch z),iw (fun z=>nomatch z)]
theorem HC {H:Hp} {x:V} {t:Stp} (h:Im H x t.d):∃a,x= .ref a/\H a=some (.tup [.str t.s,.int t.p,.non]):=by
 unfold Stp.d at h
 cases h with
 |tup e i=>
  cases i with
  |cons h1 i=>
   cases h1
   cases i with
   |cons h2 i=>
    cases h2
    cases i with
    |cons h3 i=>cases h3;cases i;exact⟨_,rfl,e⟩
inductive XWs (C CP:Zx) (vs:List V) (H:Hp) (Q:VK):Prop
 |mk (A:Mad) (tu n b:Nat) (s s':Ms) (names:Zd) (roots:List Nat) (ρs:List Ro) (ho:Nat->Option Hm) (e:vs=[.ref A.m]) (M:Mc C H A tu s) (c:Ctx CP H A names roots ρs ho) (r:xZ ρs ho tu n s s') (hb:Bd b s) (hn:b+ 200*n<=9000000) (q:∀H',Mc C H' A tu s'->FM A H H'->Q .non H')
def JG (C CP:Zx):Sp:=fun vs H Q _=>XWs C CP vs H Q
def WsI (C CP:Zx) (A:Mad) (tu:Nat) (s':Ms) (ρs:List Ro) (ho:Nat->Option Hm) (H:Hp) (m:Nat) (σ:St) (H2:Hp):Prop:=X3 fun(o:Option V) (s1:Ms) (b:Nat)=>Y6 (σ=[some (.ref A.m),o]) (Mc C H2 A tu s1) (FM A H H2) (xZ ρs ho tu m s1 s') (Bd b s1) (b+ 200*m<=9000000)
theorem nG (T:Txt K mg) (W:Wk P w T):MO P w base mg 9 T.e49 (JG T.c5.a T.c7.a):=by
 have gE51:=nF (base:=base) T W;refine T.e49.F.rd kC fun cdv A0 outer s0 H vs Q E hr h=>?_;obtain⟨A,tu,n,b,s,s',names,roots,ρs,ho,rfl,M,c,r,hb,hn,q⟩:=h;refine⟨_,(gh (oX PassesOwn.never (PW.pt (tL (oU (tK (gX T.c5.cl T.n5end (cv 0)))) (uk (gN zR (gG gA rfl T.z_len iH (fV (gX T.c5.cl T.n5steps (cv 0)) fX)) fZ))))
   (fW (pS (i:=1) kC.nd (yB eX fb fc yC (gX T.c5.cl T.n5steps (cv 0))))
   (gh (ij (gN lU (gx gE (cv 1) fZ) gu)
    (gh (gK (iB (gZ (PE.mono (cv 0)) T.c5.cl T.e50.me (qS T) hr.m T.e50.b .nil jB (fV (gx gE (cv 1) fZ) (fV (gx gE (cv 1) fZ) fX))))))
    (gh (ij (gN lU (gx gE (cv 1) fZ) gu)
     (gh (gK (iB (gZ (PE.mono (cv 0)) T.c5.cl T.e51.me gE51 hr.m T.e51.b .nil jB (fV (gx gE (cv 1) fZ) (fV (gx gE (cv 1) fZ) fX))))))
     (gh (gK (iB (gZ (PE.mono (cv 0)) T.c5.cl T.e53.me (iq T) hr.m T.e53.b .nil jB (fV (gx gE (cv 1) fZ) (fV (yB eX fb fc yC (gX T.c5.cl T.n5ready (cv 0))) fX))))))))))))),?_⟩;refine⟨WsI T.c5.a T.c7.a A tu s' ρs ho H,⟨n,none,s,b,rfl,M,FM.refl,r,hb,hn⟩,?_⟩;rintro m σ H2 ⟨o,s1,b,rfl,M2,F2,r,hb,hn⟩;have c2:=c.fm M F2;refine⟨_,⟨_,_,M2.o,sH⟩,_,rfl,?_⟩;rw[BY]
 cases r with
 |stop hs=>
  by_cases he:s'.en=none;·rw[hV he];have hs:=hs.resolve_left (fun z=>z he);obtain⟨xs,e,i⟩:=M2.st;rw[hs]at i;cases i;refine jl ⟨_,⟨_,_,M2.o,nB⟩,_,_,rfl,.inl (SqL.of e),?_⟩;dsimp only[tC,cI0,onB];rw[iw (show ¬(0:Int)<(([]:List V).length:Int)from fun z=>absurd z (by decide))];exact iV (q _ M2 F2)
  ·rw[iw he];exact iV (iV (q _ M2 F2))
 |@step n _ s3 _ h0 h r=>
  rw[hV h0];refine jl ⟨_,⟨_,_,M2.o,nB⟩,?_⟩;have hb3:=BX c.ok h hb;have hbb:Bd 9000000 s1:=hb.mono (by lia);have hn3:b+ 200+ 200*n<=9000000:=by lia
  obtain⟨t,rs,hst⟩:∃t rs,s1.st=t::rs:=by cases h with
   |beg hs _ _=>exact⟨_,_,hs⟩
   |par hs _ _ _=>exact⟨_,_,hs⟩
  obtain⟨xs,y,e,iy,M3,F3⟩:=M2.stO hst;have done:∀(o:Option V) H',Mc T.c5.a H' A tu s3->FM A (L2.Internal.upd H2 A.st (.lst xs)) H'->WsI T.c5.a T.c7.a A tu s' ρs ho H n [some (.ref A.m),o] H':=fun o H' M' F'=>⟨o,s3,b+ 200,rfl,M',(F2.trans F3).trans F',r,hb3,hn3⟩;have iy3:=iy.mono (M2.tk F3);have c3:=c2.fm M2 F3;refine⟨_,_,rfl,.inl (SqL.of e),?_⟩;dsimp only[tC,cI0,onB];rw[hV (show(0:Int)<((xs++[y]).length:Int) by rw[aQ,bc];lia)];refine jl ⟨WsI T.c5.a T.c7.a A tu s' ρs ho H n,fun σ' H' h=>⟨n,cP n,h⟩,?_⟩;refine⟨_,⟨_,_,M2.o,nB⟩,.inl ⟨rfl,_,SqL.of e⟩,BQ e ?_⟩;dsimp only[hJ];generalize L2.Internal.upd H2 A.st (.lst xs)=H3 at M3 F3 iy3 c3 done⊢;obtain⟨a,rfl,hh⟩:=HC iy3;have bd3:Bd 9000000 {s1 with st:=rs}:=by obtain⟨b1,b2,b3,b4,b5⟩:=hbb;rw[hst,aB]at b4;exact⟨b1,b2,b3,by show rs.length<=_;lia,b5⟩
  cases h with
  |@beg p ρ r hs hk hbt=>rw[hs]at hst;cases hst;refine BU rfl hh (hV rfl) ⟨⟨_,_,M3.o,jN gQ⟩,_,hh,gk (gj (j:=1) rfl) ⟨_,hh,gk (gj (j:=2) rfl) ?_⟩⟩;exact⟨A,tu,_,p,ρ,names,roots,ρs,ho,rfl,M3,c3,hbt,hk,bd3,fun H' M' F'=>done _ H' M' F'⟩
  |@par p ρ r l rd _ hs hk ht hw=>rw[hs]at hst;cases hst;refine HB rfl hh (by show decide (("parts":Str)="begin")=false;decide+kernel) (BU rfl hh (hV rfl) ⟨⟨_,_,M3.o,jN gQ⟩,_,hh,gk (gj (j:=1) rfl) ⟨_,hh,gk (gj (j:=2) rfl) ?_⟩⟩);exact⟨A,tu,_,s3,p,ρ,l,rd,names,roots,ρs,ho,rfl,M3,c3,hk,bd3,ht,hw,fun H' M' F'=>done _ H' M' F'⟩
structure MJ (C dx m:Zx) (H H':Hp) (fs:List (Str×V)) (ls:List Zx):Prop where
 o:H' m=some (.ins C dx fs)
 k:∀z o,H z=some o->z≠m->H' z=some o
 l:∀a∈ls,H' a=some (.lst [])/\H a=none
 n:ls.Nodup
 m0:m∉ls
section
variable {C dx m:Zx} {H H':Hp} {fs:List (Str×V)} {ls:List Zx}
theorem MJ.fld (j:MJ C dx m H H' fs ls) (gs:List (Str×V)):MJ C dx m H (upd H' m (.ins C dx gs)) gs ls:=⟨fY,fun z o e n=>by rw[gr n];exact j.k z o e n,fun a ha=>⟨by rw[gr (fun z=>j.m0 (by rw[<-z];exact ha))];exact(j.l a ha).1,(j.l a ha).2⟩,j.n,j.m0⟩
theorem MJ.new (j:MJ C dx m H H' fs ls) (hm:(H m).isSome=true) {a:Zx} (h:H' a=none):MJ C dx m H (upd H' a (.lst [])) fs (ls++[a]):=by
 have nm:a≠m:=fun z=>by rw[z,j.o]at h;cases h
 have h0:H a=none:=by
  cases e:H a with
  |none=>rfl
  |some o=>rw[j.k a o e nm]at h;cases h
 have nl:a∉ls:=fun z=>by rw[(j.l a z).1]at h;cases h
 refine⟨by rw[gr nm.symm];exact j.o,fun z o e n=>by rw[gr (gm e h0)];exact j.k z o e n,fun b hb=>?_,?_,fun z=>?_⟩
 ·rcases ao.mp hb with hb|hb;·exact⟨by rw[gr (fun z=>nl (by rw[<-z];exact hb))];exact(j.l b hb).1,(j.l b hb).2⟩
  ·rw[bj.mp hb];exact⟨fY,h0⟩
 ·rw[b9];refine⟨j.n,aG.mpr ⟨(fun z=>by cases z),cg⟩,fun x hx y hy z=>nl ?_⟩;rw[bj.mp hy]at z;rw[<-z];exact hx
 ·rcases ao.mp z with z|z;·exact j.m0 z
  ·exact nm (bj.mp z).symm
theorem MJ.f1 (j:MJ C dx m H H' fs ls) {x:Str} {v:V} {R:Hp->Prop} (k:∀H2,MJ C dx m H H2 (nK x v fs) ls->R H2) (hl:decide (fs.length<1000)=true:=by kernel_rfl):∃d f,H' m=some (.ins C d f)/\f.length<1000/\R (upd H' m (.ins C d (nK x v f))):=⟨dx,fs,j.o,of_decide_eq_true hl,k _ (j.fld _)⟩
theorem MJ.f2 (j:MJ C dx m H H' fs ls) (hm:(H m).isSome=true) {x:Str} {R:Zx->Hp->Prop} (k:∀a H2,MJ C dx m H H2 (nK x (.ref a) fs) (ls++[a])->R a H2) (hl:decide (fs.length<1000)=true:=by kernel_rfl):0<=sizeLine/\∀a,H' a=none->∃d f,(upd H' a (.lst [])) m=some (.ins C d f)/\f.length<1000/\R a (upd (upd H' a (.lst [])) m (.ins C d (nK x (.ref a) f))):=⟨cO _,fun a h=>(j.new hm h).f1 (k a) hl⟩
theorem MJ.eq {gs:List (Str×V)} (j:MJ C dx m H H' fs ls) (e:fs=gs):MJ C dx m H H' gs ls:=e▸j
end
def s0M:Ms:=⟨0,none,[],[],[],[],[]⟩
inductive XMi (C:Zx) (vs:List V) (H:Hp) (Q:VK):Prop
 |mk (m dx p h:Zx) (tu:Int) (e:vs=[.ref m,.ref p,.ref h,.int tu]) (o:H m=some (.ins C dx [])) (q:∀H' me ha de st rd,MJ C dx m H H' (fMc p h tu 0 .non me ha de st rd) [me,ha,de,st,rd]->Q .non H')
def JH (C:Zx):Sp:=fun vs H Q _=>XMi C vs H Q
theorem oP (T:Txt K mg):MO P w base mg 1 T.e47 (JH T.c5.a):=by
 refine T.e47.F.rd oE fun cdv A0 outer s0 H vs Q E hr h=>?_;obtain⟨m,dx,p,h,tu,rfl,o,q⟩:=h;refine⟨_,(fW (i9 T.c5.cl T.n5program (jc (PE.mono (cv 0)) (PE.mono (cv 1)) rfl))
  (fW (i9 T.c5.cl T.n5homes (jc (PE.mono (cv 0)) (PE.mono (cv 2)) rfl))
  (fW (i9 T.c5.cl T.n5turns (jc (PE.mono (cv 0)) (PE.mono (cv 3)) rfl))
  (fW (i9 T.c5.cl T.n5begun (jc (PE.mono (cv 0)) (PE.mono fZ) rfl))
  (fW (i9 T.c5.cl T.n5end (jc (PE.mono (cv 0)) (PE.mono kK) rfl))
  (fW (i9 T.c5.cl T.n5meets (jc (PE.mono (cv 0)) (PE.mono (gR fX)) rfl))
  (fW (i9 T.c5.cl T.n5had (jc (PE.mono (cv 0)) (PE.mono (gR fX)) rfl))
  (fW (i9 T.c5.cl T.n5defined (jc (PE.mono (cv 0)) (PE.mono (gR fX)) rfl))
  (fW (i9 T.c5.cl T.n5steps (jc (PE.mono (cv 0)) (PE.mono (gR fX)) rfl))
  (gh (i9 T.c5.cl T.n5ready (jc (PE.mono (cv 0)) (PE.mono (gR fX)) rfl)))))))))))),?_⟩;have im:(H m).isSome=true:=by rw[o];rfl
 have j0:MJ T.c5.a dx m H H [] []:=⟨o,fun _ _ e _=>e,fun a ha=>(by cases ha),cg,fun z=>(by cases z)⟩;refine j0.f1 fun H1 j1=>j1.f1 fun H2 j2=>j2.f1 fun H3 j3=>j3.f1 fun H4 j4=>j4.f1 fun H5 j5=>?_;refine j5.f2 im fun me H6 j6=>j6.f2 im fun ha H7 j7=>j7.f2 im fun de H8 j8=>j8.f2 im fun st H9 j9=>j9.f2 im fun rd H10 j10=>q _ me ha de st rd (j10.eq (by kernel_rfl))
def fRn (en v:V) (me ha:Zx) (bg:Int):List (Str×V):=[("end",en),("value",v),("meets",.ref me),("had",.ref ha),("begun",.int bg)]
inductive XRi (C:Zx) (vs:List V) (H:Hp) (Q:VK):Prop
 |mk (m dx me ha:Zx) (en v:V) (bg:Int) (e:vs=[.ref m,en,v,.ref me,.ref ha,.int bg]) (o:H m=some (.ins C dx [])) (q:∀H',H' m=some (.ins C dx (fRn en v me ha bg))->(∀z o,H z=some o->z≠m->H' z=some o)->Q .non H')
def HD (C:Zx):Sp:=fun vs H Q _=>XRi C vs H Q
theorem sL (T:Txt K mg):MO P w base mg 1 T.e57 (HD T.c6.a):=by
 refine T.e57.F.rd sr fun cdv A0 outer s0 H vs Q E hr h=>?_;obtain⟨m,dx,me,ha,en,v,bg,rfl,o,q⟩:=h;refine⟨_,(fW (i9 T.c6.cl T.n6end (jc (PE.mono (cv 0)) (PE.mono (cv 1)) rfl))
  (fW (i9 T.c6.cl T.n6value (jc (PE.mono (cv 0)) (PE.mono (cv 2)) rfl))
  (fW (i9 T.c6.cl T.n6meets (jc (PE.mono (cv 0)) (PE.mono (cv 3)) rfl))
  (fW (i9 T.c6.cl T.n6had (jc (PE.mono (cv 0)) (PE.mono (cv 4)) rfl))
  (gh (i9 T.c6.cl T.n6begun (jc (PE.mono (cv 0)) (PE.mono (cv 5)) rfl))))))),?_⟩;refine⟨_,_,o,(by show 0<1000;decide),_,_,fY,(by show 1<1000;decide),_,_,fY,(by show 2<1000;decide),_,_,fY,(by show 3<1000;decide),_,_,fY,(by show 4<1000;decide),?_⟩;refine q _ ?_ fun z o e hz=>?_;·rw[fY];exact congrArg (fun l=>some (HO.ins T.c6.a dx l)) (by kernel_rfl)
 ·rw[gr hz,gr hz,gr hz,gr hz,gr hz];exact e
inductive qT (ρs:List Ro) (ho:Nat->Option Hm) (tu:Nat):Nat->List Nat->Ms->Ms->Prop
 |done {s:Ms}:qT ρs ho tu 0 [] s {s with en:=some "done"}
 |next {n m r:Nat} {rs:List Nat} {s s' s2:Ms} {v:Vl} {rd:List Vl} (h:xZ ρs ho tu n {s with st:= .beg (r:Int)::s.st} s') (he:s'.en=none) (hr:s'.rd=v::rd) (t:qT ρs ho tu m rs {s' with rd:=rd,de:=s'.de++[v]} s2):qT ρs ho tu (n+m+ 3) (r::rs) s s2
 |full {n r:Nat} {rs:List Nat} {s s':Ms} (h:xZ ρs ho tu n {s with st:= .beg (r:Int)::s.st} s') (he:s'.en≠none):qT ρs ho tu (n+ 3) (r::rs) s s'
theorem qv {α:Type} (ys:List α) (y:α):atI (ys++[y]) (-1)=some y:=by unfold atI ixN;rw[gJ (by decide),aQ,bc,gY (by lia),show((-1:Int)+((ys.length+ 1:Nat):Int)).toNat=ys.length by lia];show(ys++[y])[ys.length]?=_;rw[aM (cM _),df];rfl
inductive XPg (C CP:Zx) (vs:List V) (H:Hp) (Q:VK):Prop
 |mk (A:Mad) (tu n b:Nat) (s s':Ms) (names:Zd) (roots:List Nat) (ρs:List Ro) (ho:Nat->Option Hm) (e:vs=[.ref A.m]) (M:Mc C H A tu s) (c:Ctx CP H A names roots ρs ho) (r:qT ρs ho tu n roots s s') (hb:Bd b s) (hn:b+ 200*n<=8000000) (q:∀H',Mc C H' A tu s'->FM A H H'->Q .non H')
def JI (C CP:Zx):Sp:=fun vs H Q _=>XPg C CP vs H Q
def PgI (C:Zx) (A:Mad) (tu:Nat) (s':Ms) (roots:List Nat) (ρs:List Ro) (ho:Nat->Option Hm) (H:Hp) (i:Nat) (σ:St) (H2:Hp):Prop:=X4 fun(o:Option V) (s1:Ms) (b m:Nat)=>Y6 (σ=[some (.ref A.m),o]) (Mc C H2 A tu s1) (FM A H H2) (qT ρs ho tu m (roots.drop i) s1 s') (Bd b s1) (b+ 200*m<=8000000)
theorem mB (T:Txt K mg) (W:Wk P w T):MO P w base mg 10 T.e48 (JI T.c5.a T.c7.a):=by
 have gE49:=nG (base:=base) T W;refine T.e48.F.rd ki fun cdv A0 outer s0 H vs Q E hr h=>?_;obtain⟨A,tu,n,b,s,s',names,roots,ρs,ho,rfl,M,c,r,hb,hn,q⟩:=h;refine⟨_,(fW (jk PassesOwn.never rfl (jm (gX T.c7.cl T.n7roots (gX T.c5.cl T.n5program (cv 0)))) (pN (i:=1) ki.nd)
   (fW (gK (ja (jM eX eY eZ gS (PE.mono (gX T.c5.cl T.n5steps (cv 0))) (fV (PE.mono (ik (fV gu (fV (cv 1) (fV kK fX))))) fX))))
   (fW (gK (iB (ju (PE.mono (cv 0)) T.c5.cl T.e49.me gE49 hr.m T.e49.b .nil jB)))
   (fW (ij (oU (Er (gX T.c5.cl T.n5end (cv 0))))
    (gh Ao)
    gL)
   (gh (gK (ja (jM eX eY eZ gS (PE.mono (gX T.c5.cl T.n5defined (cv 0))) (fV (PE.mono (yB eX fb fc yC (gX T.c5.cl T.n5ready (cv 0)))) fX)))))))))
  (gh (i9 T.c5.cl T.n5end (jc (PE.mono (cv 0)) (PE.mono gu) rfl)))),?_⟩;have sl:=sizeLine_eq;obtain⟨na,rl,w,dx,xs,pr,n1,n2,n3,n4⟩:=c.p;refine⟨_,⟨_,_,M.o,oN⟩,_,⟨_,_,pr.o,y0 _ _ _⟩,_,rfl,⟨_,SqL.of pr.r⟩,jV (xs:=roots.map nI) (PgI T.c5.a A tu s' roots ρs ho H) ⟨none,s,b,n,rfl,M,FM.refl,r,hb,hn⟩ (fun i σ H2 _ ⟨_,_,_,_,_,_,F,_,_,_⟩=>SqL.of (F.get pr.r n3)) ?_ ?_⟩
 ·rintro i v σ H2 hx ⟨o,s1,b,m,rfl,M2,F2,r,hb,hn⟩;rw[aO]at hx;obtain⟨j,hj,rfl⟩:=dB.mp hx;have hdr:roots.drop i=j::roots.drop (i+ 1):=by obtain⟨z1,z2⟩:=au.mp hj;rw[bN z1,z2]
  rw[hdr]at r;have c2:=c.fm M F2;obtain⟨ys,e,_⟩:=M2.st;have b4:=hb.2.2.2.1;have b3:=hb.2.2.1;refine⟨_,⟨_,_,M2.o,nB⟩,⟨_,e⟩,n8,fun a ha=>?_⟩;have S1:=gb ha (.tup [.str "begin",.int (j:Int),.non]);have M3:=M2.same S1;have i1:Im (L2.Internal.upd H2 a (.tup [.str "begin",.int (j:Int),.non])) (.ref a) (Stp.beg (j:Int)).d:=
   vd ha (.cons (.flat rfl) (.cons (.flat rfl) (.cons (.flat rfl) .nil)));obtain⟨ys1,e1,l1,M4,F4⟩:=M3.stP i1;refine⟨ys1,e1,by lia,?_⟩;have F04:=(F2.trans (FM.same S1)).trans F4;have c4:=(c2.fm M2 (FM.same S1)).fm M3 F4;dsimp only[nI];generalize L2.Internal.upd (L2.Internal.upd H2 a (.tup [.str "begin",.int (j:Int),.non])) A.st (.lst (ys1++[.ref a]))=H4 at M4 F4 F04 c4⊢;have hb4:Bd (b+ 1) {s1 with st:= .beg (j:Int)::s1.st}:=by obtain⟨b1,b2,b3,b4,b5⟩:=hb;exact⟨by show s1.me.length<=_;lia,by show s1.ha.length<=_;lia,by show s1.de.length<=_;lia,by show(_::s1.st).length<=_;rw[aB];lia,by show s1.rd.length<=_;lia⟩
  cases r with
  |@full n0 _ _ _ s5 h he=>refine⟨⟨_,_,M4.o,jN gQ⟩,A,tu,n0,b+ 1,_,s',names,roots,ρs,ho,rfl,M4,c4,h,hb4,by lia,fun H5 M5 F5=>?_⟩;refine⟨_,⟨_,_,M5.o,sH⟩,_,rfl,?_⟩;rw[BY,iw he];exact jl (q _ M5 (F04.trans F5))
  |@next n0 m0 _ _ _ s5 _ v rd h he hr' t=>
   refine⟨⟨_,_,M4.o,jN gQ⟩,A,tu,n0,b+ 1,_,s5,names,roots,ρs,ho,rfl,M4,c4,h,hb4,by lia,fun H5 M5 F5=>?_⟩;have hb5:=h.bd c.ok hb4;refine⟨_,⟨_,_,M5.o,sH⟩,_,rfl,?_⟩;rw[BY,hV he];obtain⟨zs,ez,_⟩:=M5.de;obtain⟨xs',y',e',iv,M6,F6⟩:=M5.rdO hr';obtain⟨zs,ez6,lz,M7,F7⟩:=M6.deP (iv.mono (M5.tk F6));have ld:=hb5.2.2.1;refine iV ⟨_,⟨_,_,M5.o,oM⟩,⟨_,ez⟩,_,⟨_,_,M5.o,sG⟩,.inl ⟨rfl,_,SqL.of e'⟩,BQ e' ⟨zs,ez6,?_,?_⟩⟩;·rw[lz];show s5.de.length<_;lia
   ·refine⟨_,_,b+ 1+ 200*n0+ 1,m0,rfl,M7,((F04.trans F5).trans F6).trans F7,t,?_,by lia⟩;obtain⟨b1,b2,b3,b4,b5⟩:=hb5;rw[hr',aB]at b5;exact⟨by show s5.me.length<=_;lia,by show s5.ha.length<=_;lia,by show(s5.de++[v]).length<=_;rw[aQ,bc];lia,by show s5.st.length<=_;lia,by show rd.length<=_;lia⟩
 ·rintro σ H2 ⟨o,s1,b,m,rfl,M2,F2,r,hb,hn⟩;rw[aE,bZ]at r;cases r;obtain⟨M3,F3⟩:=M2.setO s1.bg (some "done");refine⟨_,_,M2.o,by show 10<1000;decide,?_⟩;rw[y8];exact q _ M3 (F2.trans F3)
structure RnA (C:Zx) (H:Hp) (r:Zx) (s:Ms):Prop where
 o:∃dx v me ha,H r=some (.ins C dx (fRn (enV s.en) v me ha s.bg))/\(∃xs,H me=some (.lst xs)/\Ims H xs (s.me.reverse.map meD))/\(∃xs,H ha=some (.lst xs)/\Ims H xs (s.ha.reverse.map haD))/\(s.en≠some ("done":Str)->v= .non)/\∀u,s.en=some ("done":Str)->s.de.getLast?=some u->Im H v u.d
inductive XRn (C CP:Zx) (vs:List V) (H:Hp) (Q:VK):Prop
 |mk (p h n0 r0 w0 dx:Zx) (tu n:Nat) (xs hs:List V) (s':Ms) (names:Zd) (roots:List Nat) (ρs:List Ro) (ho:Nat->Option Hm) (e:vs=[.ref p,.ref h,.int (tu:Int)]) (pr:PrA CP H p n0 r0 w0 dx xs names roots ρs) (eh:H h=some (.lst hs)) (ih:∀(k:Nat) (ρ:Ro),ρs[k]?=some ρ->∃y,hs[k]?=some y/\Im H y (hoD (ho k))) (ok:∀ρ∈ρs,ρ.ok) (r:qT ρs ho tu n roots s0M s') (hn:200*n<=8000000) (he:∃e,s'.en=some e) (hd:s'.en=some ("done":Str)->s'.de≠[]) (q:∀r H',gB H H'->H r=none->RnA C H' r s'->Q (.ref r) H')
def JJ (C CP:Zx):Sp:=fun vs H Q _=>XRn C CP vs H Q
theorem HE (T:Txt K mg) (W:Wk P w T):FO P w base 11 T.d13 (JJ T.c6.a T.c7.a):=by
 have gE48:=mB (base:=base) T W;refine T.d13.F.rd BA fun cdv A0 outer s0 H vs Q E hr h=>?_;obtain⟨p,h,n0,r0,w0,dx,tu,n,xs,hs,s',names,roots,ρs,ho,rfl,pr,eh,ih,ok,r,hn,⟨en,he⟩,hd,q⟩:=h;refine⟨_,(fW (pS (i:=3) BA.nd (uz T.mk5 (oP T) hr.m rfl T.c5.m T.e47.b .nil jB (fV (cv 0) (fV (cv 1) (fV (cv 2) fX)))))
  (fW (gK (iB (ju (PE.mono (cv 3)) T.c5.cl T.e48.me gE48 hr.m T.e48.b .nil jB)))
  (fW (pS (i:=4) BA.nd (um (gN lU (gX T.c5.cl T.n5end (cv 3)) gu) (gx gC (gX T.c5.cl T.n5defined (cv 3)) (vF qw fZ)) kK))
  (gh (gH (uz T.mk6 (sL T) hr.m rfl T.c6.m T.e57.b .nil jB (fV (gX T.c5.cl T.n5end (cv 3)) (fV (cv 4) (fV (gX T.c5.cl T.n5meets (cv 3)) (fV (gX T.c5.cl T.n5had (cv 3)) (fV (gX T.c5.cl T.n5begun (cv 3)) fX))))))))))),?_⟩;intro m mx hm hmx nmx;have S0:gB H (upd (upd H mx (.own m)) m (.ins T.c5.a mx [])):=hI (hI (fun _ _ e=>e) hmx _) hm _;refine⟨m,mx,p,h,(tu:Int),rfl,fY,fun H1 me ha de st rd j=>⟨rfl,?_⟩⟩;have S1:gB H H1:=fun b o e=>j.k b o (S0 b o e) (gm e hm);have l0:∀a∈[me,ha,de,st,rd],H a=none:=fun a ha=>S0.free (j.l a ha).2;let A:Mad:=⟨m,mx,p,h,me,ha,de,st,rd⟩;have nal:∀{a:Zx} {o:HO},H a=some o->a∉A.all:=fun{a o} e z=>by
  rcases ak.mp z with z|z;·rw[z,hm]at e;cases e
  ·rw[l0 a z]at e;cases e
 have em:∀a∈[me,ha,de,st,rd],H1 a=some (.lst []):=fun a ha=>(j.l a ha).1;have M1:Mc T.c5.a H1 A tu s0M:=⟨j.o,⟨_,em me (by simp),.nil⟩,⟨_,em ha (by simp),.nil⟩,⟨_,em de (by simp),.nil⟩,⟨_,em st (by simp),.nil⟩,⟨_,em rd (by simp),.nil⟩,j.n⟩;have k1:=gB.tk S1;have c1:Ctx T.c7.a H1 A names roots ρs ho:=⟨⟨n0,r0,w0,dx,xs,pr.same S1,nal pr.o,nal pr.n,nal pr.r,nal pr.w⟩,⟨hs,S1 _ _ eh,nal eh,fun k ρ e=>let⟨y,a,b⟩:=ih k ρ e;⟨y,a,b.mono k1⟩⟩,ok⟩;dsimp only[hJ];refine⟨⟨_,_,M1.o,jN gQ⟩,A,tu,n,0,s0M,s',names,roots,ρs,ho,rfl,M1,c1,r,⟨cM _,cM _,cM _,cM _,cM _⟩,by lia,fun H2 M2 F2=>?_⟩;have S2:gB H H2:=fun b o e=>F2.get (S1 b o e) (nal e);have fin:∀v,(s'.en≠some ("done":Str)->v= .non)->(∀u,s'.en=some ("done":Str)->s'.de.getLast?=some u->Im H2 v u.d)->Gy (GI T.c6.a (HD T.c6.a) [] E0 (oi (Gj T.c5.a "end" (cV 3)) (oi (cV 4) (oi (Gj T.c5.a "meets" (cV 3)) (oi (Gj T.c5.a "had" (cV 3)) (oi (Gj T.c5.a "begun" (cV 3)) AF)))))) {nx:=fun _ H'=>Q .non H',rt:=Q} [some (.ref p),some (.ref h),some (.int tu),some (.ref m),some v] H2:=fun v h1 h2=>by refine⟨_,⟨_,_,M2.o,sH⟩,_,⟨_,_,M2.o,wD⟩,_,⟨_,_,M2.o,BL⟩,_,⟨_,_,M2.o,sI⟩,fun rr rx hrr hrx nrx=>?_⟩;have S3:gB H2 (upd (upd H2 rx (.own rr)) rr (.ins T.c6.a rx [])):=hI (hI (fun _ _ e=>e) hrx _) hrr _;refine⟨rr,rx,me,ha,enV s'.en,v,(s'.bg:Int),rfl,fY,fun H4 e4 k4=>⟨rfl,?_⟩⟩;have S4:gB H2 H4:=fun b o e=>k4 b o (S3 b o e) (gm e hrr);obtain⟨xs1,e1,i1⟩:=M2.me;obtain⟨xs2,e2,i2⟩:=M2.ha;have tk4:=gB.tk S4;exact q rr H4 (S2.trans S4) (S2.free hrr) ⟨rx,v,me,ha,e4,⟨xs1,S4 _ _ e1,i1.mono tk4⟩,⟨xs2,S4 _ _ e2,i2.mono tk4⟩,h1,fun u a b=>(h2 u a b).mono tk4⟩
 refine⟨_,⟨_,_,M2.o,sH⟩,?_⟩;by_cases hdn:s'.en=some ("done":Str);·obtain⟨l,u,hl⟩:∃l u,s'.de=l++[u]:=⟨_,_,(bI (hd hdn)).symm⟩;obtain⟨zs,ez,iz⟩:=M2.de;rw[hl]at iz;obtain⟨ys,y,rfl,_,iy⟩:=vc iz;rw[hdn];dsimp only[tC,cEq,onB,enV];rw[hV rfl];refine jl ⟨_,⟨_,_,M2.o,oM⟩,_,rfl,_,ez,gk (qv ys y) ?_⟩;dsimp only[hJ];exact fin y (fun n=>absurd hdn n) fun u' _ e=>by rw[hl,cm]at e;cases e;exact iy
 ·rw[he];dsimp only[tC,cEq,onB,enV];rw[iw (fun z=>hdn (by rw[he,z]))];refine iV ?_;dsimp only[hJ];exact fin .non (fun _=>rfl) (fun u e=>absurd e hdn)
open GR.Internal (Op Gp toks mG jC gP isName WOk TAt lR)
theorem FH (x:Str):x.cps.toList.length=x.length:=by rw[fu];rfl
def zf (w:Str):Prop:=w.cps.toList≠[]/\∀k∈w.cps.toList,k≠32/\k≠10/\k≠40/\k≠41
theorem smfg:∀c∈(GR.Internal.SM++GR.Internal.FG).cps.toList,c≠32/\c≠10/\c≠40/\c≠41:=gQ
theorem nP {w:Str} (h:GR.Internal.isName w=true):zf w/\w.length<=12:=by unfold GR.Internal.isName at h;simp only[fj,decide_eq_true_eq]at h;refine⟨⟨fun z=>?_,fun k hk=>smfg k (GR.Internal.allIn_mem h.2 k hk)⟩,h.1.1.1.2⟩;have:=FH w;rw[z]at this;have:=h.1.1.1.1;simp at*;lia
theorem fgp:∀c∈GR.Internal.FG.cps.toList,c≠32/\c≠10/\c≠40/\c≠41:=gQ
theorem Dz {n:Int} (h0:0<=n) (h1:n<10^60):zf (TM.Internal.numS n)/\(TM.Internal.numS n).length<=60:=by obtain⟨f1,f2,f3⟩:=GR.Internal.str_fig (k:=59) h0 h1;refine⟨⟨fun z=>?_,fun k hk=>fgp k (f1 k hk)⟩,f3⟩;obtain⟨c,r,e⟩:=GR.Internal.first_of (x:=TM.Internal.numS n) f2;rw[z]at e;cases e
def okW (w:Str):Prop:=w≠""/\w.length<=60/\∀c∈w.cps.toList,c<128
structure Gi (x:Str) (ts:Zd) (a b:Nat):Prop where
 op:Op x ts
 ln:x.length+ 1<=a
 wl:ts.length<=b
 ok:∀w∈ts,okW w
theorem BZ {x:Str} {n:Nat} (hp:zf x) (hl:x.length<=n) (hn:n<=60) (ha:∀c∈x.cps.toList,c<128):Gi x [x] (n+ 1) 1:=by refine⟨Op.word hp.1 hp.2,by lia,cM _,fun w hw=>?_⟩;rw[bj.mp hw];refine⟨fun z=>hp.1 (by rw[z];rfl),by lia,ha⟩
theorem JK:∀c∈(GR.Internal.SM++GR.Internal.FG).cps.toList,c<128:=gQ
theorem JL:∀c∈GR.Internal.FG.cps.toList,c<128:=gQ
theorem B0 {w:Str} (h:isName w=true):Gi w [w] 13 1:=by obtain⟨h1,h2⟩:=nP h;refine BZ h1 h2 (by decide) fun c hc=>JK c ?_;unfold isName at h;simp only[fj]at h;exact GR.Internal.allIn_mem h.2 c hc
theorem HF {n:Int} (h0:0<=n) (h1:n<10^60):Gi (TM.Internal.numS n) [TM.Internal.numS n] 61 1:=by obtain⟨a,b⟩:=Dz h0 h1;obtain⟨f1,_,_⟩:=GR.Internal.str_fig (k:=59) h0 h1;exact BZ a b (by decide) fun c hc=>JL c (f1 c hc)
def dtk (n:Str) (t:TM.Internal.Tr):List Str:=("(":Str)::"def"::n::(t.tk++[(")":Str)])
def Ag:List Str->List TM.Internal.Tr->List Str
 |n::ns,t::ts=>dtk n t++Ag ns ts
 |_,_=>[]
theorem zg:∀{ns:Zd} {ts:List TM.Internal.Tr},ns.length=ts.length->(∀n∈ns,isName n=true)->TM.Internal.oks ts->(∀t∈ts,t.nest<=24)->∀(rows:List Dt) (names:Zd) (roots:List Dt),rows.length+TM.Internal.szs ts<=160->
  jC (Ag ns ts) rows names roots=some (names++ns,roots++(TM.Internal.offs ts rows.length).map TM.Internal.kD,rows++TM.Internal.rws ts rows.length)
 |[],[],_,_,_,_,rows,names,roots,_=>by show jC [] rows names roots=_;rw[GR.Internal.defs_nil,TM.Internal.offs,TM.Internal.rws,aF,aW,aF,aF]
 |n::ns,t::ts,hl,hn,ho,hd,rows,names,roots,hz=>by
  rw[TM.Internal.oks]at ho;rw[TM.Internal.szs]at hz;have e:=TM.Internal.rd_all 24 t ho.1 (hd t ah) ((")":Str)::Ag ns ts) rows (by lia);have lr:(rows++t.rw rows.length).length=rows.length+t.sz:=by rw[aQ,TM.Internal.Tr.rw_len]
  have h1:Ag (n::ns) (t::ts)=("(":Str)::"def"::n::(t.tk++(")":Str)::Ag ns ts):=by show dtk n t++Ag ns ts=_;unfold dtk;rw[aU,aU,aU,bM];rfl
  rw[h1,GR.Internal.defs_yes (hn n ah) e,zg (by simpa using hl) (fun x hx=>hn x (aj _ hx)) ho.2 (fun x hx=>hd x (aj _ hx)) _ _ _ (by rw[lr];lia),lr,TM.Internal.offs,TM.Internal.rws,aD,bM,bM,bM];rfl
theorem DA {ns:Zd} {ts:List TM.Internal.Tr} (hl:ns.length=ts.length) (hn:∀n∈ns,isName n=true) (ho:TM.Internal.oks ts) (hd:∀t∈ts,t.nest<=24) (hz:TM.Internal.szs ts<=160) (h1:1<=ns.length) (h12:ns.length<=12):mG (Ag ns ts)=some (ns,(TM.Internal.offs ts 0).map TM.Internal.kD,TM.Internal.rws ts 0):=by unfold mG;rw[zg hl hn ho hd [] [] [] (by rw[aV,da];exact hz)];show(if 1<=([]++ns).length/\([]++ns).length<=12 then _ else _)=_;rw[bT,gY ⟨h1,h12⟩];rfl
theorem HG {ws:Zd} (hl:ws.length<=30000) (h:∀w∈ws,okW w):WOk ws:=⟨hl,fun x hx=>by obtain⟨a,b,c⟩:=h x hx;exact⟨a,by lia,fun k hk=>by have:=c k hk;lia⟩⟩
mutual
def gF:Dt->Bool
 | .flat v=>(match v with| .int _=>true| .str _=>true|_=>false)
 | .tup ds=>decide (ds.length<=1000)&&gFs ds
 | .lst _=>false
def gFs:List Dt->Bool
 |[]=>true
 |d::ds=>gF d&&gFs ds
end
mutual
theorem HH {K:Zp} {H:Hp}:∀{x:V} {d:Dt},TAt K H x d->gF d=true->Im H x d
 |_,_,.flat h,g=> .flat (by
   rename_i v
   cases v with
   |int n=>rfl
   |str z=>rfl
   |_=>simp[gF]at g)
 |_,_,.tup h hs,g=>by rw[gF,fj]at g;exact .tup h (rj hs g.2)
theorem rj {K:Zp} {H:Hp}:∀{xs:List V} {ds:List Dt},lR K H xs ds->gFs ds=true->Ims H xs ds
 |_,_,.nil,_=> .nil
 |_,_,.cons h t,g=>by rw[gFs,fj]at g;exact .cons (HH h g.1) (rj t g.2)
end
theorem HI {H:Hp}:∀{ps:List Nat} {xs:List V},Ims H xs (ps.map TM.Internal.kD)->xs=ps.map fun k:Nat=>V.int (k:Int)
 |[],xs,h=>by cases h;rfl
 |p::ps,xs,h=>by
  rw[aD,TM.Internal.kD]at h
  cases h with
  |cons h t=>cases h;rw[HI t];rfl
inductive Kx where
 |num (n:Int)
 |nam (w:Str) (k:Nat) (v:Vl)
 |row
 |op (o:Str)
inductive Xt where
 |mk (m:Int) (κ:Kx) (ks:List Xt)
def v0 (vs:List Vl) (i:Nat):Vl:=vs.getD i (.num 0 0)
def Kx.v (m:Int) (vs:List Vl):Kx->Option Vl
 | .num n=>some (.num n m)
 | .nam _ _ v=>some v
 | .row=>some (.row (vs.map Vl.th) m)
 | .op o=>if o="sub" then some (.num ((v0 vs 0).n-(v0 vs 1).n) m)else if o="size" then some (.num ((v0 vs 0).l.length:Int) m)else if o="at" then some (atV (v0 vs 0).l (v0 vs 1).n (v0 vs 2))else if(v0 vs 0).l.length+(v0 vs 1).l.length<=60 then some (.row ((v0 vs 0).l++(v0 vs 1).l) m)else none
def Kx.m (m:Int) (vs:List Vl):Kx->List (Int×Int×Int)
 | .op o=>if o="size" then[((v0 vs 0).p,m,0)]else[((v0 vs 0).p,m,0),((v0 vs 1).p,m,1)]
 |_=>[]
mutual
def Xt.val:Xt->Option Vl
 | .mk m κ ks=>match ko ks with
  |some vs=>κ.v m vs
  |none=>none
def ko:List Xt->Option (List Vl)
 |[]=>some []
 |t::ts=>match t.val,ko ts with
  |some v,some vs=>some (v::vs)
  |_,_=>none
end
mutual
def Xt.ms:Xt->List Int
 | .mk m _ ks=>m::msX ks
def msX:List Xt->List Int
 |[]=>[]
 |t::ts=>t.ms++msX ts
end
def haO (m:Int):Option Vl->List (Int×Int)
 |some v=>[(m,v.p)]
 |none=>[]
def meO (m:Int) (κ:Kx):Option (List Vl)->List (Int×Int×Int)
 |some vs=>κ.m m vs
 |none=>[]
mutual
def Xt.ha:Xt->List (Int×Int)
 | .mk m κ ks=>haX ks++haO m (Xt.mk m κ ks).val
def haX:List Xt->List (Int×Int)
 |[]=>[]
 |t::ts=>t.ha++haX ts
end
mutual
def Xt.me:Xt->List (Int×Int×Int)
 | .mk m κ ks=>meX ks++meO m κ (ko ks)
def meX:List Xt->List (Int×Int×Int)
 |[]=>[]
 |t::ts=>t.me++meX ts
end
def Kx.t (n:Nat):Kx->TM.Internal.Kn
 | .num n=> .num n
 | .nam w _ _=> .name w
 | .row=> .row n
 | .op o=> .op o n
mutual
def Xt.tr:Xt->TM.Internal.Tr
 | .mk _ κ ks=> .mk (κ.t ks.length) (trX ks)
def trX:List Xt->List TM.Internal.Tr
 |[]=>[]
 |t::ts=>t.tr::trX ts
end
def Kx.x (xs:Zd):Kx->Str
 | .num n=>TM.Internal.numS n
 | .nam w _ _=>w
 | .row=>"("++Str.join " " ("row"::xs)++")"
 | .op o=>"("++Str.join " " (o::xs)++")"
mutual
def Xt.tx:Xt->Str
 | .mk _ κ ks=>κ.x (txX ks)
def txX:List Xt->List Str
 |[]=>[]
 |t::ts=>t.tx::txX ts
end
def kA:List Xt->Nat->List Nat
 |[],_=>[]
 |t::ts,p=>p::kA ts (p+t.ms.length)
def Kx.r (ps:List Nat):Kx->Ro
 | .num n=> .num n
 | .nam w _ _=> .name w
 | .row=> .row (ps.map fun k:Nat=>(k:Int))
 | .op o=> .op o (ps.map fun k:Nat=>(k:Int))
mutual
def Xt.ro:Xt->Nat->List Ro
 | .mk _ κ ks,p=>κ.r (kA ks (p+ 1))::iS ks (p+ 1)
def iS:List Xt->Nat->List Ro
 |[],_=>[]
 |t::ts,p=>t.ro p++iS ts (p+t.ms.length)
end
def isN (v:Option Vl):Prop:=∃n p,v=some (.num n p)
def isR (v:Option Vl):Prop:=∃l p,v=some (.row l p)/\l.length<=60
def Kx.ok (ws:Zd) (vs:List Vl):Kx->List (Option Vl)->Prop
 | .num n,l=>l=[]/\0<=n/\n<10^60
 | .nam w k v,l=>l=[]/\ws[k]?=some w/\vs[k]?=some v
 | .row,l=>l.length<=8/\∀v∈l,isN v
 | .op o,l=>(o="sub"/\∃a b,l=[a,b]/\isN a/\isN b)\/(o="size"/\∃a,l=[a]/\isR a)\/(o="at"/\∃a b c,l=[a,b,c]/\isR a/\isN b/\isN c)\/(o="join"/\∃a b,l=[a,b]/\isR a/\(isR b\/b=none))
mutual
def Xt.ok (ws:Zd) (vs:List Vl):Xt->Prop
 | .mk _ κ ks=>κ.ok ws vs (ks.map Xt.val)/\okL ws vs ks
def okL (ws:Zd) (vs:List Vl):List Xt->Prop
 |[]=>True
 |t::ts=>t.ok ws vs/\okL ws vs ts
end
theorem oQ:∀{ts:List Xt} {vs:List Vl},ko ts=some vs->ts.map Xt.val=vs.map some
 |[],vs,h=>by rw[ko]at h;cases h;rfl
 |t::ts,vs,h=>by
  rw[ko]at h;split at h;·rename_i v us e1 e2;cases h;rw[aD,aD,e1,oQ e2]
  ·cases h
theorem pI:∀{ts:List Xt},(∀t∈ts,t.val≠none)->∃vs,ko ts=some vs
 |[],_=>⟨[],by rw[ko]⟩
 |t::ts,h=>by
  obtain⟨vs,e⟩:=pI (ts:=ts) fun u hu=>h u (aj _ hu)
  cases ev:t.val with
  |none=>exact absurd ev (h t ah)
  |some v=>exact⟨v::vs,by rw[ko,ev,e]⟩
mutual
theorem Xt.ro_len:∀(t:Xt) (p:Nat),(t.ro p).length=t.ms.length
 | .mk m κ ks,p=>by rw[Xt.ro,Xt.ms,aB,aB,lW ks]
theorem lW:∀(ts:List Xt) (p:Nat),(iS ts p).length=(msX ts).length
 |[],_=>by rw[iS,msX];rfl
 |t::ts,p=>by rw[iS,msX,aQ,aQ,Xt.ro_len t,lW ts]
end
mutual
theorem Xt.tr_sz:∀t:Xt,t.tr.sz=t.ms.length
 | .mk m κ ks=>by rw[Xt.tr,TM.Internal.Tr.sz,Xt.ms,aB,JM ks];lia
theorem JM:∀ts:List Xt,TM.Internal.szs (trX ts)=(msX ts).length
 |[]=>by rw[trX,TM.Internal.szs,msX];rfl
 |t::ts=>by rw[trX,TM.Internal.szs,msX,Xt.tr_sz t,JM ts,aQ]
end
theorem zh:∀(ts:List Xt) (p:Nat),kA ts p=TM.Internal.offs (trX ts) p
 |[],_=>by rw[trX,TM.Internal.offs];rfl
 |t::ts,p=>by rw[kA,zh ts,trX,TM.Internal.offs,Xt.tr_sz]
theorem pJ:∀(ts:List Xt) (p:Nat),(kA ts p).length=ts.length
 |[],_=>rfl
 |t::ts,p=>by rw[kA,aB,aB,pJ ts]
theorem Kx.r_d (κ:Kx) (ps:List Nat):(κ.r ps).d= .tup ((κ.t ps.length).rw ps):=by
 cases κ with
 |num n=>rfl
 |nam w k v=>rfl
 |row=>show Dt.tup [sD "row",.tup ((ps.map fun k:Nat=>(k:Int)).map kD)]=_;rw[bC];rfl
 |op o=>show Dt.tup (sD o::(ps.map fun k:Nat=>(k:Int)).map kD)=_;rw[bC];rfl
mutual
theorem Xt.ro_d:∀(t:Xt) (p:Nat),(t.ro p).map Ro.d=t.tr.rw p
 | .mk m κ ks,p=>by rw[Xt.ro,Xt.tr,TM.Internal.Tr.rw,aD,yb ks,Kx.r_d,zh,TM.Internal.offs_len,show(trX ks).length=ks.length by rw[<-TM.Internal.offs_len (trX ks) 0,<-zh,pJ]]
theorem yb:∀(ts:List Xt) (p:Nat),(iS ts p).map Ro.d=TM.Internal.rws (trX ts) p
 |[],_=>by rw[iS,trX,TM.Internal.rws];rfl
 |t::ts,p=>by rw[iS,bo,Xt.ro_d t,yb ts,trX,TM.Internal.rws,Xt.tr_sz]
end
def p2 (π:Int->Int) (t:Int×Int):Int×Int:=(π t.1,π t.2)
def p3 (π:Int->Int) (t:Int×Int×Int):Int×Int×Int:=(π t.1,π t.2.1,t.2.2)
def pt (π:Int->Int) (t:Int×Int):Int×Int:=(t.1,π t.2)
def Vl.mp (π:Int->Int):Vl->Vl
 | .num n p=> .num n (π p)
 | .row l p=> .row (l.map (pt π)) (π p)
theorem mp_p (π:Int->Int) (v:Vl):(v.mp π).p=π v.p:=by cases v<;>rfl
theorem HJ (π:Int->Int) (l:List (Int×Int)) (n:Int) (v:Vl):(atV l n v).mp π=atV (l.map (pt π)) n (v.mp π):=by
 cases n with
 |negSucc k=>rfl
 |ofNat k=>
  unfold atV;dsimp only;rw[aO]
  cases l[k]? with
  |none=>rfl
  |some t=>rfl
def Sub {α:Type} (l:List α) (p:Nat) (L:List α):Prop:=∀(j:Nat) (x:α),l[j]?=some x->L[p+j]?=some x
theorem Sub.cons {α:Type} {x:α} {l L:List α} {p:Nat} (h:Sub (x::l) p L):L[p]?=some x/\Sub l (p+ 1) L:=⟨h 0 x rfl,fun j y e=>by rw[show p+ 1+j=p+(j+ 1) by lia];exact h (j+ 1) y e⟩
theorem Sub.app {α:Type} {a b L:List α} {p:Nat} (h:Sub (a++b) p L):Sub a p L/\Sub b (p+a.length) L:=⟨fun j y e=>h j y (by rw[aN (au.mp e).1];exact e),fun j y e=>by rw[dr];exact h (a.length+j) y (by rw[aM (cX _ _),dt];exact e)⟩
def ve:List Xt->Prop
 |[]=>True
 |t::ts=>(t.val=none->ts=[])/\ve ts
theorem B2:∀{ts:List Xt} {us:List Vl},ko ts=some us->ve ts
 |[],_,_=>trivial
 |t::ts,us,h=>by
  rw[ko]at h;split at h;·rename_i v vs e1 e2;exact⟨fun z=>absurd (e1.symm.trans z) (fun y=>nomatch y),B2 e2⟩
  ·cases h
theorem FI {l:List (Option Vl)}:∀{us:List Vl},us.map some=l->∀v∈l,v≠none:=fun{us} e v hv z=>by rw[<-e]at hv;obtain⟨u,_,rfl⟩:=bf.mp hv;cases z
theorem B3 {π:Int->Int}:∀{us:List Vl},(∀v∈us.map some,isN v)->us.map (Vl.mp π)=((us.map Vl.th).map (pt π)).map thV
 |[],_=>rfl
 |u::us,h=>by obtain⟨n,p,e⟩:=h (some u) ah;cases e;rw[aD,aD,aD,aD,B3 fun v hv=>h v (aj _ hv)];rfl
theorem pK:∀{us ws:List Vl},us.map some=ws.map some->us=ws
 |[],[],_=>rfl
 |u::us,w::ws,h=>by rw[aD,aD]at h;rw[dw.inj (List.cons.inj h).1,pK (List.cons.inj h).2]
 |[],_::_,h=>by cases h
 |_::_,[],h=>by cases h
theorem wm_k {ws:Zd} {vs us:List Vl} {κ:Kx} {π:Int->Int} {G:Str->Option Hm} {hm:Option Hm} {m:Int} {p:Nat} {ps:List Nat} {s:Ms} (ok:κ.ok ws vs (us.map some)) (hG:∀(k:Nat) (w:Str),ws[k]?=some w->k<vs.length->G w=some ((("def":Str),(k:Int)):Hm)) (hh:∀w,κ.r ps= .name w->hm=G w) (hd:s.de=vs.map (Vl.mp π)) (e:π m=(p:Int)):
  (∀v,κ.v m us=some v->Wm hm (p:Int) s (κ.r ps) (us.map (Vl.mp π)) (sZ p (v.mp π) {s with me:=((κ.m m us).map (p3 π)).reverse++s.me}))/\(κ.v m us=none->Wm hm (p:Int) s (κ.r ps) (us.map (Vl.mp π)) {s with me:=((κ.m m us).map (p3 π)).reverse++s.me,en:=some "full"}):=by
 cases κ with
 |num n=>obtain⟨h1,_⟩:=ok;have:us=[]:=cn.mp h1;subst this;refine⟨fun v hv=>?_,fun z=>nomatch z⟩;cases hv;show Wm hm p s (.num n) [] (sZ p (.num n (π m)) s);rw[e];exact .num
 |nam w k v=>obtain⟨h1,h2,h3⟩:=ok;have:us=[]:=cn.mp h1;subst this;refine⟨fun v' hv=>?_,fun z=>nomatch z⟩;cases hv;exact .name ((hh w rfl).trans (hG k w h2 (au.mp h3).1)) (by rw[hd,aO,h3];rfl)
 |row=>refine⟨fun v hv=>?_,fun z=>nomatch z⟩;cases hv;rw[B3 ok.2];show Wm hm p s (.row _) _ (sZ p (.row ((us.map Vl.th).map (pt π)) (π m)) s);rw[e];exact .row
 |op o=>
  rcases ok with⟨rfl,a,b,hl,⟨n,q,rfl⟩,n',q',rfl⟩|⟨rfl,a,hl,l,q,rfl,_⟩|⟨rfl,a,b,c,hl,⟨l,q,rfl,_⟩,⟨n,q',rfl⟩,n',q'',rfl⟩|⟨rfl,a,b,hl,⟨l,q,rfl,h1⟩,hb⟩;·obtain rfl:us=[.num n q,.num n' q']:=pK hl;refine⟨fun v hv=>?_,fun z=>nomatch z⟩;cases hv;show Wm hm p s _ _ (sZ p (.num (n-n') (π m)) {s with me:=(π q',π m,1)::(π q,π m,0)::s.me});rw[e];exact .sub
  ·obtain rfl:us=[.row l q]:=pK hl;refine⟨fun v hv=>?_,fun z=>nomatch z⟩;cases hv;show Wm hm p s (.op "size" _) [.row (l.map (pt π)) (π q)] (sZ p (.num (l.length:Int) (π m)) {s with me:=(π q,π m,0)::s.me});rw[e,show l.length=(l.map (pt π)).length by rw[aE]];exact .size
  ·obtain rfl:us=[.row l q,.num n q',.num n' q'']:=pK hl;refine⟨fun v hv=>?_,fun z=>nomatch z⟩;cases hv;show Wm hm p s (.op "at" _) [.row (l.map (pt π)) (π q),.num n (π q'),.num n' (π q'')] (sZ p ((atV l n (.num n' q'')).mp π) {s with me:=(π q',π m,1)::(π q,π m,0)::s.me});rw[e,HJ];exact .at
  ·rcases hb with⟨l',q',rfl,h2⟩|rfl
   ·obtain rfl:us=[.row l q,.row l' q']:=pK hl;have e2:(Kx.op "join").v m [.row l q,.row l' q']=if l.length+l'.length<=60 then some (.row (l++l') m)else none:=rfl;rw[e2];have a1:(l.map (pt π)).length=l.length:=aE ..;have a2:(l'.map (pt π)).length=l'.length:=aE ..;refine⟨fun v hv=>?_,fun z=>?_⟩
    ·split at hv;·cases hv;show Wm hm p s (.op "join" _) [.row (l.map (pt π)) (π q),.row (l'.map (pt π)) (π q')] (sZ p (.row ((l++l').map (pt π)) (π m)) {s with me:=(π q',π m,1)::(π q,π m,0)::s.me});rw[e,bo];exact .join (by lia) (by lia) (by lia)
     ·cases hv
    ·split at z;·cases z
     ·show Wm hm p s (.op "join" _) [.row (l.map (pt π)) (π q),.row (l'.map (pt π)) (π q')] {s with me:=(π q',π m,1)::(π q,π m,0)::s.me,en:=some "full"};rw[e];exact .full (by lia) (by lia) (by lia)
   ·exact absurd rfl (FI hl none (aj _ ah))
theorem FJ {ws:Zd} {vs:List Vl} {κ:Kx} {ks:List Xt} (ok:κ.ok ws vs (ks.map Xt.val)):(∃us,ko ks=some us/\κ.ok ws vs (us.map some))\/(ko ks=none/\ve ks/\κ= .op "join"):=by
 cases e:ko ks with
 |some us=>exact .inl ⟨us,rfl,by rw[<-oQ e];exact ok⟩
 |none=>
  have no:¬∀t∈ks,t.val≠none:=fun h=>by obtain⟨us,z⟩:=pI h;rw[e]at z;cases z
  have all:(∀v∈ks.map Xt.val,v≠none)->False:=fun h=>no fun t ht=>h _ (cq ht);refine .inr ?_
  cases κ with
  |num n=>exact(all (by rw[ok.1];exact fun v hv=>nomatch hv)).elim
  |nam w k v=>exact(all (by rw[ok.1];exact fun v hv=>nomatch hv)).elim
  |row=>exact(all fun v hv z=>by obtain⟨n,p,e⟩:=ok.2 v hv;rw[e]at z;cases z).elim
  |op o=>
   have n1:∀{v:Option Vl},isN v->v≠none:=fun⟨n,p,e⟩ z=>by rw[e]at z;cases z
   have n2:∀{v:Option Vl},isR v->v≠none:=fun⟨n,p,e,_⟩ z=>by rw[e]at z;cases z
   rcases ok with⟨_,a,b,hl,h1,h2⟩|⟨_,a,hl,h1⟩|⟨_,a,b,c,hl,h1,h2,h3⟩|⟨rfl,a,b,hl,h1,h2⟩;·exact(all (by rw[hl];simp only[ak,bD,or_false];rintro v (rfl|rfl);exact n1 h1;exact n1 h2)).elim
   ·exact(all (by rw[hl];simp only[ak,bD,or_false];rintro v rfl;exact n2 h1)).elim
   ·exact(all (by rw[hl];simp only[ak,bD,or_false];rintro v (rfl|rfl|rfl);exact n2 h1;exact n1 h2;exact n1 h3)).elim
   ·refine⟨rfl,?_,rfl⟩;match ks,hl with
    |[x,y],hl=>have hx:x.val=a:=(List.cons.inj hl).1;exact⟨fun z=>absurd (hx▸z) (n2 h1),(fun _=>rfl),trivial⟩
def pP (s:Ms) (π:Int->Int) (n:Nat) (me:List (Int×Int×Int)) (ha:List (Int×Int)) (r:List Stp) (rd:List Vl):Ms:={s with bg:=s.bg+n,me:=(me.map (p3 π)).reverse++s.me,ha:=(ha.map (p2 π)).reverse++s.ha,st:=r,rd:=rd}
structure Ful (s:Ms) (π:Int->Int) (n:Nat) (me:List (Int×Int×Int)) (ha:List (Int×Int)) (s2:Ms):Prop where
 en:s2.en=some "full"
 bg:s2.bg=s.bg+n
 me:s2.me=(me.map (p3 π)).reverse++s.me
 ha:s2.ha=(ha.map (p2 π)).reverse++s.ha
theorem B4 {s:Ms} {π:Int->Int} {n n':Nat} {me me':List (Int×Int×Int)} {ha ha':List (Int×Int)} {r r':List Stp} {rd rd':List Vl}:pP (pP s π n me ha r rd) π n' me' ha' r' rd'=pP s π (n+n') (me++me') (ha++ha') r' rd':=by unfold pP;simp only[bo,cu,bM,dr]
theorem Ful.app {s s2:Ms} {π:Int->Int} {n n':Nat} {me me':List (Int×Int×Int)} {ha ha':List (Int×Int)} {r:List Stp} {rd:List Vl} (h:Ful (pP s π n me ha r rd) π n' me' ha' s2):Ful s π (n+n') (me++me') (ha++ha') s2:=by obtain⟨h1,h2,h3,h4⟩:=h;exact⟨h1,by rw[h2];exact dr ..,by rw[h3,bo,cu,bM];rfl,by rw[h4,bo,cu,bM];rfl⟩
theorem HK:∀(vs r l:List Vl),tkR vs.length (vs.reverse++r) l=some (vs++l,r):=by
 have go:∀(us r l:List Vl),tkR us.length (us++r) l=some (us.reverse++l,r):=by
  intro us
  induction us with
  |nil=>intro r l;rfl
  |cons u us ih=>intro r l;rw[aB,aU,tkR,ih,bb,bM];rfl
 intro vs r l;have:=go vs.reverse r l;rw[bG,cw]at this;exact this
theorem JN {ws:Zd} {vs:List Vl} {κ:Kx} {ks:List Xt} (ok:κ.ok ws vs (ks.map Xt.val)) (p:Nat):qu (κ.r (kA ks p))=(kA ks p).map fun k:Nat=>(k:Int):=by
 cases κ with
 |num n=>rw[cn.mp ok.1];rfl
 |nam w k v=>rw[cn.mp ok.1];rfl
 |row=>rfl
 |op o=>rfl
section
variable {ρs:List Ro} {ho:Nat->Option Hm} {tu:Nat} {ws:Zd} {vs:List Vl} {π:Int->Int} {M:List Int} {G:Str->Option Hm}
mutual
theorem HL (hπ:∀(j:Nat) (m:Int),M[j]?=some m->π m=(j:Int)) (hG:∀(k:Nat) (w:Str),ws[k]?=some w->k<vs.length->G w=some ((("def":Str),(k:Int)):Hm)):
  ∀(t:Xt) (p:Nat),t.ok ws vs->Sub (t.ro p) p ρs->Sub t.ms p M->(∀(q:Nat) (w:Str),ρs[q]?=some (.name w)->p<=q->q<p+t.ms.length->ho q=G w)->∀{s:Ms} {r:List Stp},s.en=none->s.st= .beg (p:Int)::r->s.de=vs.map (Vl.mp π)->s.bg+t.ms.length<=tu->
  (∀v,t.val=some v->∀{n:Nat} {s2:Ms},xZ ρs ho tu n (pP s π t.ms.length t.me t.ha r (v.mp π::s.rd)) s2->xZ ρs ho tu (n+ 2*t.ms.length) s s2)/\(t.val=none->∃n s2,n<=2*t.ms.length/\xZ ρs ho tu n s s2/\Ful s π t.ms.length t.me t.ha s2)
 | .mk m κ ks,p,ok,hr,hm,hh,s,r,h0,hs,hd,hb=>by
  rw[Xt.ok]at ok;rw[Xt.ro]at hr;rw[Xt.ms]at hm hh hb;rw[aB]at hh hb;obtain⟨hw,hr⟩:=Sub.cons hr;obtain⟨hm0,hm⟩:=Sub.cons hm;have e:=hπ _ _ hm0;have hf:=JN ok.1 (p+ 1);have K:=Eb hπ hG ks (p+ 1) ok.2 hr hm (fun q w e h1 h2=>hh q w e (by lia) (by lia)) (s:={s with bg:=s.bg+ 1,st:=(qu (κ.r (kA ks (p+ 1)))).map Stp.beg++ .par (p:Int)::r}) (r:= .par (p:Int)::r) h0 (by rw[hf]) hd (by show s.bg+ 1+_<=_;lia);have lm:(Xt.mk m κ ks).ms.length=(msX ks).length+ 1:=by rw[Xt.ms,aB]
  rw[lm,Xt.me,Xt.ha,Xt.val];have b1:s.bg<tu:=by lia
  rcases FJ ok.1 with⟨us,e1,ok1⟩|⟨e1,hl,rfl⟩
  ·rw[e1];dsimp only;obtain⟨w1,w2⟩:=wm_k (us:=us) (s:=pP s π (1+(msX ks).length) (meX ks) (haX ks) r s.rd) (m:=m) (p:=p) (hm:=ho p) (ps:=kA ks (p+ 1)) ok1 hG (fun w e=>hh p w (by rw[hw,e]) (cM _) (by lia)) hd e;have lu:(qu (κ.r (kA ks (p+ 1)))).length=(us.map (Vl.mp π)).length:=by rw[hf,aE,pJ,aE,<-aE (as:=ks) (f:=Xt.val),oQ e1,aE]
   have tk:tkR (qu (κ.r (kA ks (p+ 1)))).length ((us.map (Vl.mp π)).reverse++s.rd) []=some (us.map (Vl.mp π),s.rd):=by rw[lu,HK,aF]
   have ea:∀{x:Ms} {v:Vl},x={s with bg:=s.bg+ 1,st:=(qu (κ.r (kA ks (p+ 1)))).map Stp.beg++ .par (p:Int)::r}->pP x π (msX ks).length (meX ks) (haX ks) (.par (p:Int)::r) ((us.map (Vl.mp π)).reverse++s.rd)={pP s π (1+(msX ks).length) (meX ks) (haX ks) r s.rd with st:= .par (p:Int)::r,rd:=(us.map (Vl.mp π)).reverse++s.rd}:=fun hx=>by rw[hx];unfold pP;rw[<-dr]
   refine⟨fun v hv n s2 R=>?_,fun hv=>?_⟩
   ·rw[hv]at R;have R':=K.1 us e1 (n:=n+ 1) (s2:=s2) (by
     rw[ea (v:=v) rfl];refine .step h0 (.par rfl hw tk (w1 v hv)) ?_;have z:sZ p (v.mp π) {pP s π (1+(msX ks).length) (meX ks) (haX ks) r s.rd with me:=((κ.m m us).map (p3 π)).reverse++(pP s π (1+(msX ks).length) (meX ks) (haX ks) r s.rd).me}=pP s π ((msX ks).length+ 1) (meX ks++meO m κ (some us)) (haX ks++haO m (some v)) r (v.mp π::s.rd):=by unfold sZ pP meO haO;rw[mp_p];simp only[bo,cu,bM,Nat.add_comm 1,aD,aW,bb,List.reverse_nil,bT,aU,p2,e]
     rw[z];exact R);rw[show n+ 2*((msX ks).length+ 1)=n+ 1+ 2*(msX ks).length+ 1 by lia];exact .step h0 (.beg hs hw b1) R'
   ·rw[hv];have R':=K.1 us e1 (n:=1) (by rw[ea (v:= .num 0 0) rfl];exact .step h0 (.par rfl hw tk (w2 hv)) (.stop (.inl (fun z=>nomatch z))));refine⟨_,_,?_,.step h0 (.beg hs hw b1) R',rfl,?_,?_,?_⟩;·lia
    ·show s.bg+(1+(msX ks).length)=_;lia
    ·show((κ.m m us).map (p3 π)).reverse++(((meX ks).map (p3 π)).reverse++s.me)=_;rw[meO,bo,cu,bM]
    ·show((haX ks).map (p2 π)).reverse++s.ha=_;rw[haO,aF]
  ·rw[e1];dsimp only;refine⟨(fun v hv=>nomatch hv),fun _=>?_⟩;obtain⟨n,s2,hn,R,F⟩:=K.2 e1 hl;refine⟨n+ 1,s2,by lia,.step h0 (.beg hs hw b1) R,F.en,?_,?_,?_⟩;·rw[F.bg];show s.bg+ 1+_=_;lia
   ·rw[F.me,meO,aF]
   ·rw[F.ha,haO,aF]
theorem Eb (hπ:∀(j:Nat) (m:Int),M[j]?=some m->π m=(j:Int)) (hG:∀(k:Nat) (w:Str),ws[k]?=some w->k<vs.length->G w=some ((("def":Str),(k:Int)):Hm)):
  ∀(ts:List Xt) (p:Nat),okL ws vs ts->Sub (iS ts p) p ρs->Sub (msX ts) p M->(∀(q:Nat) (w:Str),ρs[q]?=some (.name w)->p<=q->q<p+(msX ts).length->ho q=G w)->∀{s:Ms} {r:List Stp},s.en=none->s.st=((kA ts p).map fun k:Nat=>(k:Int)).map Stp.beg++r->s.de=vs.map (Vl.mp π)->s.bg+(msX ts).length<=tu->
  (∀us,ko ts=some us->∀{n:Nat} {s2:Ms},xZ ρs ho tu n (pP s π (msX ts).length (meX ts) (haX ts) r ((us.map (Vl.mp π)).reverse++s.rd)) s2->xZ ρs ho tu (n+ 2*(msX ts).length) s s2)/\(ko ts=none->ve ts->∃n s2,n<=2*(msX ts).length/\xZ ρs ho tu n s s2/\Ful s π (msX ts).length (meX ts) (haX ts) s2)
 |[],p,ok,hr,hm,hh,s,r,h0,hs,hd,hb=>by
  rw[msX,meX,haX,ko];refine⟨fun us hv n s2 R=>?_,fun z=>nomatch z⟩;cases hv;have:pP s π 0 [] [] r ([]++s.rd)=s:=by unfold pP;have hs:s.st=r:=hs;rw[<-hs];rfl
  rw[aV,aW,List.reverse_nil,this]at R;exact R
 |t::ts,p,ok,hr,hm,hh,s,r,h0,hs,hd,hb=>by
  rw[okL]at ok;rw[iS]at hr;rw[msX]at hm hh hb;rw[aQ]at hh hb;obtain⟨ra,rb⟩:=Sub.app hr;obtain⟨ma,mb⟩:=Sub.app hm;rw[Xt.ro_len]at rb;have T:=HL hπ hG t p ok.1 ra ma (fun q w e h1 h2=>hh q w e h1 (by lia)) (s:=s) (r:=((kA ts (p+t.ms.length)).map fun k:Nat=>(k:Int)).map Stp.beg++r) h0 hs hd (by lia);rw[msX,meX,haX,ko,aQ]
  cases ev:t.val with
  |none=>refine⟨(fun us hv=>nomatch hv),fun _ hl=>?_⟩;have:ts=[]:=hl.1 ev;subst this;obtain⟨n,s2,hn,R,F⟩:=T.2 ev;rw[msX,meX,haX,aF,aF];exact⟨n,s2,by lia,R,F⟩
  |some v=>
   have X:=Eb hπ hG ts (p+t.ms.length) ok.2 rb mb (fun q w e h1 h2=>hh q w e (by lia) (by lia)) (s:=pP s π t.ms.length t.me t.ha (((kA ts (p+t.ms.length)).map fun k:Nat=>(k:Int)).map Stp.beg++r) (v.mp π::s.rd)) (r:=r) h0 rfl hd (by show s.bg+_+_<=_;lia)
   cases eu:ko ts with
   |none=>refine⟨(fun us hv=>nomatch hv),fun _ hl=>?_⟩;obtain⟨n,s2,hn,R,F⟩:=X.2 eu hl.2;exact⟨_,s2,by lia,T.1 v ev R,F.app⟩
   |some us=>refine⟨fun us' hv n s2 R=>?_,fun z=>nomatch z⟩;cases hv;rw[show n+ 2*(t.ms.length+(msX ts).length)=n+ 2*(msX ts).length+ 2*t.ms.length by lia];refine T.1 v ev (X.1 us eu ?_);rw[B4];rw[aD,bb,bM]at R;exact R
end
end
def okX (ws:Zd):List Vl->List Xt->Prop
 |_,[]=>True
 |vs,t::ts=>t.ok ws vs/\okX ws (vs++[t.val.getD (.num 0 0)]) ts
def dX:List Xt->Nat->Nat->Nat->Nat
 |[],_,d,_=>d
 |t::ts,p,d,q=>if q<p+t.ms.length then d else dX ts (p+t.ms.length) (d+ 1) q
theorem Xt.pos:∀t:Xt,0<t.ms.length
 | .mk m κ ks=>by rw[Xt.ms];exact Nat.succ_pos _
theorem Ec:∀{ts:List Xt} {p i r:Nat},(kA ts p)[i]?=some r->p<=r/\r<p+(msX ts).length
 |[],p,i,r,h=>by cases h
 |t::ts,p,0,r,h=>by cases h;have:=t.pos;rw[msX,aQ];lia
 |t::ts,p,i+ 1,r,h=>by have:=Ec (show(kA ts (p+t.ms.length))[i]?=some r from h);rw[msX,aQ];lia
theorem r_pl (κ:Kx) (ps:List Nat) {c:Int} (h:c∈(κ.r ps).pl):∃k∈ps,c=((k:Nat):Int):=by
 cases κ with
 |num n=>cases h
 |nam w k v=>cases h
 |row=>obtain⟨k,hk,e⟩:=bf.mp h;exact⟨k,hk,e.symm⟩
 |op o=>obtain⟨k,hk,e⟩:=bf.mp h;exact⟨k,hk,e.symm⟩
mutual
theorem Xt.kid:∀(t:Xt) (p:Nat) {j:Nat} {ρ:Ro} {c:Int},(t.ro p)[j]?=some ρ->c∈ρ.pl->∃m:Nat,c=(m:Int)/\p+j<m/\m<p+t.ms.length
 | .mk m κ ks,p,j,ρ,c,h,hc=>by
  rw[Xt.ro]at h;rw[Xt.ms,aB];match j,h with
  |0,h=>cases h;obtain⟨k,hk,rfl⟩:=r_pl κ _ hc;obtain⟨i,hi⟩:=cx hk;have:=Ec hi;exact⟨k,rfl,by lia,by lia⟩
  |j+ 1,h=>obtain⟨m,e,h1,h2⟩:=Kv ks (p+ 1) (show(iS ks (p+ 1))[j]?=some ρ from h) hc;exact⟨m,e,by lia,by lia⟩
theorem Kv:∀(ts:List Xt) (p:Nat) {j:Nat} {ρ:Ro} {c:Int},(iS ts p)[j]?=some ρ->c∈ρ.pl->∃m:Nat,c=(m:Int)/\p+j<m/\m<p+(msX ts).length
 |[],p,j,ρ,c,h,hc=>by rw[iS]at h;cases h
 |t::ts,p,j,ρ,c,h,hc=>by
  rw[iS]at h;rw[msX,aQ];by_cases z:j<t.ms.length;·rw[aN (by rw[Xt.ro_len];exact z)]at h;obtain⟨m,e,h1,h2⟩:=Xt.kid t p h hc;exact⟨m,e,by lia,by lia⟩
  ·rw[aM (by rw[Xt.ro_len];lia),Xt.ro_len]at h;obtain⟨m,e,h1,h2⟩:=Kv ts (p+t.ms.length) h hc;exact⟨m,e,by lia,by lia⟩
end
theorem pl_k {ws:Zd} {vs:List Vl} {κ:Kx} {ks:List Xt} (ok:κ.ok ws vs (ks.map Xt.val)) (p:Nat):(κ.r (kA ks p)).pl=(kA ks p).map fun k:Nat=>(k:Int):=by
 cases κ with
 |num n=>rw[cn.mp ok.1];rfl
 |nam w k v=>rw[cn.mp ok.1];rfl
 |row=>rfl
 |op o=>rfl
mutual
theorem Xt.reach {ws:Zd} {vs:List Vl}:∀(t:Xt),t.ok ws vs->∀(p j:Nat),j<t.ms.length->j=0\/∃(j':Nat) (ρ:Ro),j'<j/\(t.ro p)[j']?=some ρ/\((p+j:Nat):Int)∈ρ.pl
 | .mk m κ ks,ok,p,j,h=>by
  rw[Xt.ok]at ok;rw[Xt.ms,aB]at h;rw[Xt.ro];match j,h with
  |0,h=>exact .inl rfl
  |j+ 1,h=>
   refine .inr ?_;have e:p+ 1+j=p+(j+ 1):=by lia
   rcases Ed ks ok.2 (p+ 1) j (by lia)with⟨i,hi⟩|⟨j',ρ,h1,h2,h3⟩;·rw[e]at hi;exact⟨0,_,Nat.succ_pos _,rfl,by rw[pl_k ok.1];exact bf.mpr ⟨_,aP hi,rfl⟩⟩
   ·rw[e]at h3;exact⟨j'+ 1,ρ,by lia,h2,h3⟩
theorem Ed {ws:Zd} {vs:List Vl}:∀(ts:List Xt),okL ws vs ts->∀(p j:Nat),j<(msX ts).length->(∃i:Nat,(kA ts p)[i]?=some (p+j))\/∃(j':Nat) (ρ:Ro),j'<j/\(iS ts p)[j']?=some ρ/\((p+j:Nat):Int)∈ρ.pl
 |[],_,p,j,h=>by rw[msX]at h;cases h
 |t::ts,ok,p,j,h=>by
  rw[okL]at ok;rw[msX,aQ]at h;rw[iS];by_cases z:j<t.ms.length
  ·rcases Xt.reach t ok.1 p j z with rfl|⟨j',ρ,h1,h2,h3⟩;·exact .inl ⟨0,rfl⟩
   ·exact .inr ⟨j',ρ,h1,by rw[aN (by rw[Xt.ro_len];lia)];exact h2,h3⟩
  ·have e:p+t.ms.length+(j-t.ms.length)=p+j:=by lia
   rcases Ed ts ok.2 (p+t.ms.length) (j-t.ms.length) (by lia)with⟨i,hi⟩|⟨j',ρ,h1,h2,h3⟩;·rw[e]at hi;exact .inl ⟨i+ 1,hi⟩
   ·rw[e]at h3;exact .inr ⟨t.ms.length+j',ρ,by lia,by rw[aM (by rw[Xt.ro_len];lia),Xt.ro_len,dt];exact h2,h3⟩
end
theorem Kw {ws:Zd} {vs:List Vl} {κ:Kx} {ks:List Xt} (ok:κ.ok ws vs (ks.map Xt.val)) (p:Nat):(κ.r (kA ks p)).ok/\(κ.r (kA ks p)).isF=false/\((κ.r (kA ks p)).ex=(κ.r (kA ks p)).pl.map fun _=>none)/\∀w,κ.r (kA ks p)= .name w->∃k,ws[k]?=some w/\k<vs.length:=by
 have ll:((kA ks p).map fun k:Nat=>(k:Int)).length=(ks.map Xt.val).length:=by rw[aE,pJ,aE]
 cases κ with
 |num n=>exact⟨trivial,rfl,rfl,fun w e=>nomatch e⟩
 |nam w k v=>exact⟨trivial,rfl,rfl,fun w' e=>by cases e;exact⟨k,ok.2.1,(au.mp ok.2.2).1⟩⟩
 |row=>exact⟨by show((kA ks p).map fun k:Nat=>(k:Int)).length<=100;rw[ll];exact cH ok.1 (by decide),rfl,rfl,fun w e=>nomatch e⟩
 |op o=>refine⟨?_,rfl,rfl,fun w e=>nomatch e⟩;show o∈plain/\((kA ks p).map fun k:Nat=>(k:Int)).length<=100;rw[ll];rcases ok with⟨rfl,a,b,hl,_⟩|⟨rfl,a,hl,_⟩|⟨rfl,a,b,c,hl,_⟩|⟨rfl,a,b,hl,_⟩<;>rw[hl]<;>exact⟨gQ,du rfl⟩
mutual
theorem Xt.rok {ws:Zd} {vs:List Vl}:∀(t:Xt) (p:Nat),t.ok ws vs->∀ρ∈t.ro p,ρ.ok/\ρ.isF=false/\(ρ.ex=ρ.pl.map fun _=>none)/\∀w,ρ= .name w->∃k,ws[k]?=some w/\k<vs.length
 | .mk m κ ks,p,h,ρ,hr=>by
  rw[Xt.ok]at h;rw[Xt.ro]at hr;rcases ak.mp hr with rfl|hr;·exact Kw h.1 _
  ·exact Ky ks _ h.2 ρ hr
theorem Ky {ws:Zd} {vs:List Vl}:∀(ts:List Xt) (p:Nat),okL ws vs ts->∀ρ∈iS ts p,ρ.ok/\ρ.isF=false/\(ρ.ex=ρ.pl.map fun _=>none)/\∀w,ρ= .name w->∃k,ws[k]?=some w/\k<vs.length
 |[],p,_,ρ,hr=>by rw[iS]at hr;cases hr
 |t::ts,p,h,ρ,hr=>by
  rw[okL]at h;rw[iS]at hr;rcases ao.mp hr with hr|hr;·exact Xt.rok t p h.1 ρ hr
  ·exact Ky ts _ h.2 ρ hr
end
theorem B5 {ws:Zd}:∀{ts:List Xt} {vs:List Vl} {p:Nat},okX ws vs ts->∀{j:Nat} {ρ:Ro},(iS ts p)[j]?=some ρ->ρ.ok/\ρ.isF=false/\(ρ.ex=ρ.pl.map fun _=>none)/\(∀w,ρ= .name w->∃k,ws[k]?=some w/\k<dX ts p vs.length (p+j))/\∀c∈ρ.pl,∃m:Nat,c=(m:Int)/\p+j<m/\dX ts p vs.length m=dX ts p vs.length (p+j)
 |[],vs,p,_,j,ρ,h=>by rw[iS]at h;cases h
 |t::ts,vs,p,ok,j,ρ,h=>by
  rw[iS]at h;by_cases z:j<t.ms.length;·rw[aN (by rw[Xt.ro_len];exact z)]at h;obtain⟨h1,h2,h3,h4⟩:=t.rok p ok.1 ρ (aP h);refine⟨h1,h2,h3,fun w e=>by rw[dX,gY (by lia)];exact h4 w e,fun c hc=>?_⟩;obtain⟨m,e,g1,g2⟩:=t.kid p h hc;exact⟨m,e,g1,by rw[dX,dX,gY g2,gY (by lia)]⟩
  ·rw[aM (by rw[Xt.ro_len];lia),Xt.ro_len]at h;have e:p+t.ms.length+(j-t.ms.length)=p+j:=by lia
   obtain⟨h1,h2,h3,h4,h5⟩:=B5 ok.2 h;rw[e,aQ,bc]at h4 h5;refine⟨h1,h2,h3,fun w e=>by rw[dX,gJ (by lia)];exact h4 w e,fun c hc=>?_⟩;obtain⟨m,e,g1,g2⟩:=h5 c hc;exact⟨m,e,g1,by rw[dX,dX,gJ (by lia),gJ (by lia)];exact g2⟩
theorem yc:∀{ts:List Xt} {p d i r:Nat},(kA ts p)[i]?=some r->p<=r/\r<p+(msX ts).length/\dX ts p d r=d+i
 |[],p,d,i,r,h=>by cases h
 |t::ts,p,d,0,r,h=>by cases h;have:=t.pos;rw[msX,aQ];exact⟨cM _,by lia,by rw[dX,gY (by lia)];rfl⟩
 |t::ts,p,d,i+ 1,r,h=>by obtain⟨h1,h2,h3⟩:=yc (d:=d+ 1) (show(kA ts (p+t.ms.length))[i]?=some r from h);rw[msX,aQ];exact⟨by lia,by lia,by rw[dX,gJ (by lia),h3];lia⟩
theorem Ee {ws:Zd}:∀{ts:List Xt} {vs:List Vl} {p j:Nat},okX ws vs ts->j<(msX ts).length->(∃i:Nat,(kA ts p)[i]?=some (p+j))\/∃(j':Nat) (ρ:Ro),j'<j/\(iS ts p)[j']?=some ρ/\((p+j:Nat):Int)∈ρ.pl
 |[],vs,p,j,_,h=>by rw[msX]at h;cases h
 |t::ts,vs,p,j,ok,h=>by
  rw[msX,aQ]at h;rw[iS];by_cases z:j<t.ms.length
  ·rcases t.reach ok.1 p j z with rfl|⟨j',ρ,h1,h2,h3⟩;·exact .inl ⟨0,rfl⟩
   ·exact .inr ⟨j',ρ,h1,by rw[aN (by rw[Xt.ro_len];lia)];exact h2,h3⟩
  ·have e:p+t.ms.length+(j-t.ms.length)=p+j:=by lia
   rcases Ee (ts:=ts) (p:=p+t.ms.length) (j:=j-t.ms.length) ok.2 (by lia)with⟨i,hi⟩|⟨j',ρ,h1,h2,h3⟩;·rw[e]at hi;exact .inl ⟨i+ 1,hi⟩
   ·rw[e]at h3;exact .inr ⟨t.ms.length+j',ρ,by lia,by rw[aM (by rw[Xt.ro_len];lia),Xt.ro_len,dt];exact h2,h3⟩
theorem FL {ns:Zd} (hn:ns.Nodup):∀{d k:Nat} {w:Str},ns[k]?=some w->k<d->G0 ns d w=some ((("def":Str),(k:Int)):Hm)
 |0,k,w,_,h=>absurd h (dh _)
 |d+ 1,k,w,e,h=>by
  rw[G0];have hk:=(au.mp e).1;by_cases z:k=d;·subst z;rw[e];exact gY rfl
  ·have ih:=FL hn e (show k<d by lia)
   cases ed:ns[d]? with
   |none=>exact ih
   |some x=>refine(gJ fun c=>z ?_).trans ih;rw[c]at e;exact(List.getElem?_inj hk hn).mp (e.trans ed.symm)
theorem HM:∀{ts:List Xt} {p d q:Nat},q<p+(msX ts).length->p<=q->dX ts p d q<d+ts.length
 |[],p,d,q,h,h'=>by rw[msX]at h;have h:q<p+ 0:=h;lia
 |t::ts,p,d,q,h,h'=>by
  rw[msX,aQ]at h;rw[dX,aB];split;·lia
  ·have:=HM (ts:=ts) (p:=p+t.ms.length) (d:=d+ 1) (q:=q) (by lia) (by lia);lia
section
variable {ws:Zd} {ts:List Xt}
def HN (ws:Zd) (ts:List Xt):Nat->Str->Option Hm:=fun q=>G0 (ws.take ts.length) (dX ts 0 0 q)
theorem B6 {k:Nat} {w:Str} (e:ws[k]?=some w) (h:k<ts.length):(ws.take ts.length)[k]?=some w:=by rw[cy,gY h];exact e
theorem HP (hn:ws.Nodup) (hl:ts.length<=12) (hw:ts.length<=ws.length) (ok:okX ws [] ts) (hz:(msX ts).length<=160):Cw (ws.take ts.length) (kA ts 0) (iS ts 0) (HN ws ts):=by
 have hN:(ws.take ts.length).Nodup:=hn.sublist (List.take_sublist _ _);have lt:(ws.take ts.length).length=ts.length:=by rw[aK];lia
 have at':∀{j:Nat} {ρ:Ro},(iS ts 0)[j]?=some ρ->_:=fun{j ρ} h=>B5 (p:=0) (vs:=[]) ok h;refine⟨hN,by lia,by rw[pJ,lt],fun ρ hρ=>?_,by rw[lW];lia,fun i r h=>?_,fun i r ρ h hr=>?_,fun k ρ j c e hk hc he=>?_,fun k hk=>?_,fun k x hk=>?_⟩;·obtain⟨j,hj⟩:=cx hρ;exact(at' hj).1
 ·rw[lW];have:=(yc (d:=0) h).2.1;lia
 ·rw[(at' hr).2.1,gJ fg,HN,(yc h).2.2,da]
 ·obtain⟨_,_,h3,_,h5⟩:=at' hk;obtain⟨m,e1,g1,g2⟩:=h5 c (aP hc);rw[h3,aO,hc]at he;cases he;rw[da]at g1 g2;exact⟨m,e1,g1,by unfold HN;rw[show dX ts 0 0 m=dX ts 0 0 k from g2];rfl⟩
 ·rw[lW]at hk;rcases Ee (p:=0) (vs:=[]) ok hk with⟨i,h⟩|⟨j',ρ,h1,h2,h3⟩;·rw[da]at h;exact .inl ⟨i,h⟩
  ·rw[da]at h3;exact .inr ⟨j',ρ,h1,h2,h3⟩
 ·obtain⟨_,_,_,h4,_⟩:=at' hk;obtain⟨i,e,hi⟩:=h4 x rfl;rw[da]at hi;have hi:i<dX ts 0 0 k:=hi;have hkl:=(au.mp hk).1;rw[lW]at hkl;have:=HM (ts:=ts) (p:=0) (d:=0) (q:=k) (by lia) (cO _);exact⟨_,FL hN (B6 e (by lia)) hi⟩
end
theorem Kz {ρs:List Ro} {ho:Nat->Option Hm} {tu:Nat} {ws ns:Zd} {π:Int->Int} {M:List Int} {rest:List Nat} (hπ:∀(j:Nat) (m:Int),M[j]?=some m->π m=(j:Int)) (hn:ns.Nodup):
  ∀(ts:List Xt) (vs:List Vl) (p:Nat),okX ws vs ts->ve ts->(∀(k:Nat) (w:Str),ws[k]?=some w->k<vs.length+ts.length->ns[k]?=some w)->Sub (iS ts p) p ρs->Sub (msX ts) p M->(∀(q:Nat) (w:Str),ρs[q]?=some (.name w)->p<=q->q<p+(msX ts).length->ho q=G0 ns (dX ts p vs.length q) w)->
  ∀s:Ms,s.en=none->s.st=[]->s.rd=[]->s.de=vs.map (Vl.mp π)->s.bg+(msX ts).length<=tu->
  (∀us,ko ts=some us->rest=[]->∃n,n<=2*(msX ts).length+ 3*ts.length/\qT ρs ho tu n (kA ts p++rest) s {pP s π (msX ts).length (meX ts) (haX ts) [] []with en:=some "done",de:=(vs++us).map (Vl.mp π)})/\(ko ts=none->∃n s2,n<=2*(msX ts).length+ 3*ts.length/\qT ρs ho tu n (kA ts p++rest) s s2/\Ful s π (msX ts).length (meX ts) (haX ts) s2)
 |[],vs,p,_,_,_,_,_,_,s,h0,h1,h2,h3,_=>by
  rw[ko,msX,meX,haX];refine⟨fun us e er=>?_,fun z=>nomatch z⟩;cases e;subst er;refine⟨0,cM _,?_⟩;rw[aF];have:({pP s π ([]:List Int).length [] [] [] []with en:=some ("done":Str),de:=(vs++[]).map (Vl.mp π)}:Ms)={s with en:=some "done"}:=by unfold pP;rw[aF,<-h1,<-h2,<-h3];rfl
  rw[this];exact .done
 |t::ts,vs,p,ok,hl,hN,hr,hm,hh,s,h0,h1,h2,h3,hb=>by
  rw[iS]at hr;rw[msX]at hm hh hb;rw[aQ]at hb hh;obtain⟨ra,rb⟩:=Sub.app hr;obtain⟨ma,mb⟩:=Sub.app hm;rw[Xt.ro_len]at rb;rw[aB]at hN;have X:=HL (ρs:=ρs) (ho:=ho) (tu:=tu) (G:=G0 ns vs.length) hπ (fun k w e h=>FL hn (hN k w e (by lia)) h) t p ok.1 ra ma (fun q w e g1 g2=>by rw[hh q w e g1 (by lia),dX,gY g2]) (s:={s with st:= .beg (p:Int)::s.st}) (r:=s.st) h0 rfl h3 (by show s.bg+_<=_;lia);rw[msX,meX,haX,ko,aQ,aB]
  cases ev:t.val with
  |none=>refine⟨(fun us hv=>nomatch hv),fun _=>?_⟩;have:ts=[]:=hl.1 ev;subst this;obtain⟨n,s2,hn',R,F⟩:=X.2 ev;rw[msX,meX,haX,aF,aF];exact⟨n+ 3,s2,by rw[aV];lia,.full R (by rw[F.en];exact fun z=>nomatch z),F.en,F.bg,F.me,F.ha⟩
  |some v=>
   have R:=X.1 v ev (.stop (.inr (show(pP _ π _ _ _ s.st _).st=[]from h1)));have ok2:=ok.2;rw[ev]at ok2;have I:=Kz (ρs:=ρs) (ho:=ho) (tu:=tu) (ws:=ws) (rest:=rest) hπ hn ts (vs++[v]) (p+t.ms.length) ok2 hl.2 (fun k w e h=>hN k w e (by rw[aQ,bc]at h;lia)) rb mb (fun q w e g1 g2=>by rw[hh q w e (by lia) (by lia),dX,gJ (by lia),aQ,bc]) {pP s π t.ms.length t.me t.ha s.st s.rd with de:=s.de++[v.mp π]} h0 h1 h2 (by show s.de++_=_;rw[h3,bo];rfl) (by show s.bg+_+_<=_;lia);have nx:∀{m:Nat} {s2:Ms},qT ρs ho tu m (kA ts (p+t.ms.length)++rest) {pP s π t.ms.length t.me t.ha s.st s.rd with de:=s.de++[v.mp π]} s2->qT ρs ho tu (0+ 2*t.ms.length+m+ 3) (kA (t::ts) p++rest) s s2:=fun h=> .next R h0 rfl h
   cases eu:ko ts with
   |none=>refine⟨(fun us hv=>nomatch hv),fun _=>?_⟩;obtain⟨n,s2,hn',RP,F⟩:=I.2 eu;exact⟨_,s2,by lia,nx RP,(show Ful (pP s π t.ms.length t.me t.ha s.st s.rd) π _ _ _ s2 from⟨F.en,F.bg,F.me,F.ha⟩).app⟩
   |some us=>
    refine⟨fun us' hv er=>?_,fun z=>nomatch z⟩;cases hv;obtain⟨n,hn',RP⟩:=I.1 us eu er;refine⟨_,?_,nx (m:=n) ?_⟩;·lia
    have z:({pP {pP s π t.ms.length t.me t.ha s.st s.rd with de:=s.de++[v.mp π]} π (msX ts).length (meX ts) (haX ts) [] []with en:=some ("done":Str),de:=(vs++[v]++us).map (Vl.mp π)}:Ms)={pP s π (t.ms.length+(msX ts).length) (t.me++meX ts) (t.ha++haX ts) [] []with en:=some "done",de:=(vs++v::us).map (Vl.mp π)}:=by rw[<-B4 (r:=s.st) (rd:=s.rd),bM];rfl
    rw[<-z];exact RP
open GR.Internal (Op Gp toks mG jC gP isName WOk TAt lR)
theorem vf:∀ts:List Xt,trX ts=ts.map Xt.tr
 |[]=>by rw[trX];rfl
 |t::ts=>by rw[trX,vf ts];rfl
theorem yd:∀{a b:List Dt},gFs a=true->gFs b=true->gFs (a++b)=true
 |[],b,_,h=>h
 |d::a,b,h,k=>by rw[gFs,fj]at h;rw[aU,gFs,h.1,yd h.2 k];rfl
theorem B7:∀l:List Int,gFs (l.map kD)=true
 |[]=>rfl
 |k::l=>by rw[aD,gFs,B7 l];rfl
theorem HQ:∀l:List Nat,gFs (l.map TM.Internal.kD)=true
 |[]=>rfl
 |k::l=>by rw[aD,gFs,HQ l];rfl
theorem gF_r {ws:Zd} {vs:List Vl} {κ:Kx} {ks:List Xt} (ok:κ.ok ws vs (ks.map Xt.val)) (p:Nat):gF (κ.r (kA ks p)).d=true:=by
 have o:=(Kw ok p).1
 cases κ with
 |num n=>rfl
 |nam w k v=>rfl
 |row=>
  have o:((kA ks p).map fun k:Nat=>(k:Int)).length<=100:=o;show gF (.tup [sD "row",.tup (((kA ks p).map fun k:Nat=>(k:Int)).map kD)])=true;have z:gF (.tup (((kA ks p).map fun k:Nat=>(k:Int)).map kD))=true:=by rw[gF,B7,hV (by rw[aE];lia)];rfl
  rw[gF,gFs,gFs,gFs,z];rfl
 |op q=>have o:((kA ks p).map fun k:Nat=>(k:Int)).length<=100:=o.2;show gF (.tup (sD q::((kA ks p).map fun k:Nat=>(k:Int)).map kD))=true;rw[gF,gFs,B7,hV (by rw[aB,aE];lia)];rfl
mutual
theorem Xt.gf {ws:Zd} {vs:List Vl}:∀(t:Xt) (p:Nat),t.ok ws vs->gFs ((t.ro p).map Ro.d)=true
 | .mk m κ ks,p,ok=>by rw[Xt.ok]at ok;rw[Xt.ro,aD,gFs,gF_r ok.1,gfL ks _ ok.2];rfl
theorem gfL {ws:Zd} {vs:List Vl}:∀(ts:List Xt) (p:Nat),okL ws vs ts->gFs ((iS ts p).map Ro.d)=true
 |[],_,_=>by rw[iS];rfl
 |t::ts,p,ok=>by rw[okL]at ok;rw[iS,bo];exact yd (Xt.gf t p ok.1) (gfL ts _ ok.2)
end
theorem gfX {ws:Zd}:∀(ts:List Xt) (vs:List Vl) (p:Nat),okX ws vs ts->gFs ((iS ts p).map Ro.d)=true
 |[],_,_,_=>by rw[iS];rfl
 |t::ts,vs,p,ok=>by rw[iS,bo];exact yd (t.gf p ok.1) (gfX ts _ _ ok.2)
theorem B8 {ts us:Zd} (h:∀w∈ts,okW w) (k:∀w∈us,okW w):∀w∈ts++us,okW w:=fun w hw=>(ao.mp hw).elim (h w) (k w)
structure Gt (x:Str) (ts:Zd) (n:Nat):Prop where
 op:Op x ts
 l:x.length+ 1<=80*n
 k:ts.length<=4*n
 o:∀w∈ts,okW w
theorem B9 (x:Str):x++""=x:=T1.str_ext (by rw[GR.Internal.app_codes];exact aF _)
def spS:List Str->Str
 |[]=>""
 |x::l=>" "++x++spS l
theorem Ca:∀(l:Zd) (h:Str),Str.join " " (h::l)=h++spS l
 |[],h=>by show h=h++"";exact(B9 h).symm
 |x::l,h=>by show h++" "++Str.join " " (x::l)=h++(" "++x++spS l);rw[Ca l x];simp only[GR.Internal.cat_assoc]
def DB:List Str:=["row","sub","size","at","join"]
theorem five:∀o∈DB,zf o/\o.length<=4/\okW o:=fun o h=>by simp only[DB,ak,bD,or_false]at h;rcases h with rfl|rfl|rfl|rfl|rfl<;>(refine⟨⟨?_,?_⟩,?_,?_,?_,?_⟩<;>decide+kernel)
theorem Cb:okW "("/\okW ")"/\okW "def":=by refine⟨⟨?_,?_,?_⟩,⟨?_,?_,?_⟩,?_,?_,?_⟩<;>decide+kernel
theorem Cc {o:Str} {xs:Zd} {us:Zd} {n:Nat} (ho:o∈DB) (hop:∀{x:Str} {ts:Zd},Op x ts->Op (x++spS xs) (ts++us)) (hl:(spS xs).length<=80*n) (hk:us.length<=4*n) (hu:∀w∈us,okW w):Gt ("("++Str.join " " (o::xs)++")") (("(":Str)::o::(us++[(")":Str)])) (n+ 1):=by
 obtain⟨o1,o2,o3⟩:=five o ho;have e:("(":Str)++Str.join " " (o::xs)++")"="("++o++spS xs++")":=by rw[Ca];simp only[GR.Internal.cat_assoc]
 have b1:Gp "(" ["("]:=gQ;have q:=(hop (b1.app_op (Op.word o1.1 o1.2))).close.op;refine⟨?_,?_,?_,fun w hw=>?_⟩;·rw[e];simpa only[aU,bT,bM]using q
 ·rw[e];simp only[Str.length_append];rw[show("(":Str).length=1 by decide+kernel,show(")":Str).length=1 by decide+kernel];lia
 ·simp only[aB,aQ,aV];lia
 ·rcases ak.mp hw with rfl|hw;·exact Cb.1
  ·rcases ak.mp hw with rfl|hw;·exact o3
   ·rcases ao.mp hw with hw|hw;·exact hu w hw
    ·rw[bj.mp hw];exact Cb.2.1
theorem HR {ws:Zd} {vs:List Vl} {o:Str} {ks:List Xt} (ok:(Kx.op o).ok ws vs (ks.map Xt.val)):o∈DB/\(o,ks.length)∈TM.Internal.ops:=by
 have ll:ks.length=(ks.map Xt.val).length:=(aE ..).symm;rw[ll];rcases ok with⟨rfl,a,b,hl,_⟩|⟨rfl,a,hl,_⟩|⟨rfl,a,b,c,hl,_⟩|⟨rfl,a,b,hl,_⟩<;>rw[hl];·exact⟨gQ,(by decide+kernel:(("sub",2):Str×Nat)∈TM.Internal.ops)⟩
 ·exact⟨gQ,(by decide+kernel:(("size",1):Str×Nat)∈TM.Internal.ops)⟩
 ·exact⟨gQ,(by decide+kernel:(("at",3):Str×Nat)∈TM.Internal.ops)⟩
 ·exact⟨gQ,(by decide+kernel:(("join",2):Str×Nat)∈TM.Internal.ops)⟩
mutual
theorem Xt.gt {ws:Zd} {vs:List Vl} (hw:∀w∈ws,isName w=true):∀t:Xt,t.ok ws vs->Gt t.tx t.tr.tk t.ms.length/\t.tr.ok
 | .mk m κ ks,h=>by
  rw[Xt.ok]at h;obtain⟨g1,g2,g3,g4,g5⟩:=gtL hw ks h.2;have lt:(trX ks).length=ks.length:=by rw[vf,aE]
  rw[Xt.tx,Xt.tr,Xt.ms,aB,TM.Internal.Tr.tk,TM.Internal.Tr.ok]
  cases κ with
  |num n=>have g:=HF h.1.2.1 h.1.2.2;cases cn.mp h.1.1;exact⟨⟨g.op,by have:=g.ln;show(TM.Internal.numS n).length+ 1<=_;lia,by show 1<=_;lia,g.ok⟩,h.1.2,by rw[lt];rfl,g5⟩
  |nam w k v=>have nw:=hw w (aP h.1.2.1);have g:=B0 nw;cases cn.mp h.1.1;exact⟨⟨g.op,by have:=g.ln;show w.length+ 1<=_;lia,by show 1<=_;lia,g.ok⟩,nw,by rw[lt];rfl,g5⟩
  |row=>exact⟨Cc gQ g1 g2 g3 g4,by have:=h.1.1;rw[aE]at this;exact this,by rw[lt];rfl,g5⟩
  |op o=>obtain⟨o1,o2⟩:=HR h.1;exact⟨Cc o1 g1 g2 g3 g4,o2,by rw[lt];rfl,g5⟩
theorem gtL {ws:Zd} {vs:List Vl} (hw:∀w∈ws,isName w=true):∀ts:List Xt,okL ws vs ts->(∀{x:Str} {us:Zd},Op x us->Op (x++spS (txX ts)) (us++(TM.Internal.tks (trX ts)).flatten))/\(spS (txX ts)).length<=80*(msX ts).length/\(TM.Internal.tks (trX ts)).flatten.length<=4*(msX ts).length/\(∀w∈(TM.Internal.tks (trX ts)).flatten,okW w)/\TM.Internal.oks (trX ts)
 |[],_=>by rw[txX,trX,msX,TM.Internal.tks,TM.Internal.oks];refine⟨fun{x us} h=>?_,cM _,cM _,(fun w hw=>nomatch hw),trivial⟩;show Op (x++"") (us++[]);rw[B9,aF];exact h
 |t::ts,h=>by
  rw[okL]at h;obtain⟨g,k⟩:=Xt.gt hw t h.1;obtain⟨g1,g2,g3,g4,g5⟩:=gtL hw ts h.2;rw[txX,trX,msX,TM.Internal.tks,TM.Internal.oks,bQ,aQ,aQ];refine⟨fun{x us} hx=>?_,?_,by have:=g.k;lia,B8 g.o g4,k,g5⟩;·show Op (x++(" "++t.tx++spS (txX ts))) _;have:=g1 (hx.gap.app_op g.op);rw[bM]at this;simpa only[GR.Internal.cat_assoc]using this
  ·show(" "++t.tx++spS (txX ts)).length<=_;rw[Str.length_append,Str.length_append,show(" ":Str).length=1 by decide+kernel];have:=g.l;lia
end
def lnS (w x:Str):Str:="(def "++w++" "++x++")"
def lnX:List Str->List Xt->List Str
 |w::ws,t::ts=>lnS w t.tx::lnX ws ts
 |_,_=>[]
structure Gu (x:Str) (ts:Zd) (n:Nat):Prop where
 g:Gp x ts
 l:x.length<=100*n
 k:ts.length<=8*n
 o:∀w∈ts,okW w
theorem JO {w x:Str} {ts:Zd} {n:Nat} (hw:isName w=true) (g:Gt x ts n) (hn:0<n):Gu (lnS w x) ((["(","def",w]:Zd)++ts++[(")":Str)]) n/\(lnS w x).length+ 1<=100*n:=by
 have gw:=B0 hw;have b1:Gp "(def " ["(","def"]:=gQ;have:=gw.ln;have:=g.l;have:=g.k;have hl:(lnS w x).length+ 1<=100*n:=by unfold lnS;simp only[Str.length_append];rw[show("(def ":Str).length=5 by decide+kernel,show(" ":Str).length=1 by decide+kernel,show(")":Str).length=1 by decide+kernel];lia
 refine⟨⟨((b1.app_op gw.op).gap.app_op g.op).close,by lia,?_,?_⟩,hl⟩;·simp only[aQ,aB,aV];lia
 ·refine B8 (B8 (fun v hv=>?_) g.o) fun v hv=>by rw[bj.mp hv];exact Cb.2.1
  rcases ak.mp hv with rfl|hv;·exact Cb.1
  ·rcases ak.mp hv with rfl|hv;·exact Cb.2.2
   ·exact gw.ok v hv
theorem FN {ws:Zd} (hw:∀w∈ws,isName w=true):∀{ns:Zd} {ts:List Xt} {vs:List Vl},(∀n∈ns,isName n=true)->ns.length=ts.length->okX ws vs ts->Gu (Str.join "\n" (lnX ns ts)) (Ag ns (trX ts)) (msX ts).length/\TM.Internal.oks (trX ts)
 |[],[],vs,_,_,_=>⟨⟨by rw[trX];exact(by decide+kernel:GR.Internal.Gp "" []),by rw[msX];exact gQ,by rw[trX];exact cO _,fun w hw=>by rw[trX]at hw;cases hw⟩,by rw[trX,TM.Internal.oks];trivial⟩
 |n::ns,t::ts,vs,hn,hl,ok=>by
  obtain⟨g,k⟩:=t.gt hw ok.1;obtain⟨g1,l1⟩:=JO (hn n ah) g t.pos;obtain⟨g2,k2⟩:=FN hw (ns:=ns) (ts:=ts) (fun x hx=>hn x (aj _ hx)) (by simpa using hl) ok.2;have e:Ag (n::ns) (trX (t::ts))=((["(","def",n]:Zd)++t.tr.tk++[(")":Str)])++Ag ns (trX ts):=by rw[trX,Ag,dtk];simp only[aU,bT,bM]
  refine⟨?_,by rw[trX,TM.Internal.oks];exact⟨k,k2⟩⟩;rw[e,msX,aQ];match ns,ts,hl,g2 with
  |[],[],_,g2=>
   refine⟨?_,cH g1.l (by lia),?_,B8 g1.o g2.o⟩;·show Gp (lnS n t.tx) (_++[]);rw[aF];exact g1.g
   ·show(_++[]).length<=_;rw[aF];exact cH g1.k (by lia)
  |n2::ns,t2::ts,_,g2=>have nl:Gp "\n" []:=gQ;have q:=(g1.g.app nl).app g2.g;rw[aF]at q;refine⟨q,?_,by rw[aQ];have:=g1.k;have:=g2.k;lia,B8 g1.o g2.o⟩;show(lnS n t.tx++"\n"++Str.join "\n" (lnX (n2::ns) (t2::ts))).length<=_;rw[Str.length_append,Str.length_append,show("\n":Str).length=1 by decide+kernel];have:=g2.l;lia
theorem JP {ws ns:Zd} {ts:List Xt} (hw:∀w∈ws,isName w=true) (hn:∀n∈ns,isName n=true) (hl:ns.length=ts.length) (ok:okX ws [] ts) (hd:∀t∈ts,t.tr.nest<=24) (hz:(msX ts).length<=160) (h1:1<=ts.length) (h2:ts.length<=12):mG (Ag ns (trX ts))=some (ns,(kA ts 0).map TM.Internal.kD,(iS ts 0).map Ro.d):=by obtain⟨_,k⟩:=FN hw hn hl ok;rw[yb,zh];rw[vf]at k⊢;exact DA (by rw[aE];exact hl) hn k (fun t ht=>by obtain⟨u,hu,rfl⟩:=bf.mp ht;exact hd u hu) (by rw[<-vf,JM];exact hz) (by lia) (by lia)
theorem KA:("abcdefghijklmnopqrstuvwxyz0123456789":Str).cps.toList.length=36:=gQ
theorem emN (a:Int) {m:Int} (h:0<m):∃n:Nat,a%m=(n:Int)/\(n:Int)<m:=by have:=fE a (Int.ne_of_gt h);have:=fF a h;exact⟨(a%m).toNat,by lia,by lia⟩
theorem oR (c:Nat):(⟨#[c]⟩:Str).length=1:=rfl
def sgn (k:Nat):Nat:=("abcdefghijklmnop":Str).cps.toList.getD k 0
def w1 (A B:Str) (k:Nat):Str:=A++⟨#[sgn k]⟩++B
def t7 (z:Int):Nat:=(atI ("t7":Str).cps.toList z).getD 0
def part (j:Nat):Int:=([8,4,2,1]:List Int).getD j 1
def bit (k j:Nat):Nat:=t7 ((0+(k:Int))/part j%2)
def w2 (x:Str) (k:Nat):Nat->Str
 |0=>x
 |j+ 1=>w2 x k j++⟨#[bit k j]⟩
theorem Cd {l:List Nat} {i:Nat} (h:i<l.length):atI l (0+(i:Int))=some (l.getD i 0):=by rw[Int.zero_add,bq,bB h];exact gj (bB h)
theorem nQ (a b:Str):(a++b).cps.toList=a.cps.toList++b.cps.toList:=fA
theorem JQ {x:Str} {j:Int} (h0:0<=j) (h1:j<=x.length):(Txt.slice x none (some j)).cps.toList=x.cps.toList.take j.toNat:=by have e:Txt.slice x none (some j)=⟨((x.cps.toList.drop (0:Int).toNat).take (j-0).toNat).toArray⟩:=eq_of_beq (PyProof.Rows.slice_closes_to ⟨h0,h1⟩);rw[e];show((x.cps.toList.drop 0).take (j-0).toNat)=_;rw[cf,Int.sub_zero]
theorem FP {x:Str} {j:Int} (h0:0<=j) (h1:j<=x.length):(Txt.slice x (some j) none).cps.toList=x.cps.toList.drop j.toNat:=by have e:Txt.slice x (some j) none=⟨((x.cps.toList.drop j.toNat).take ((x.cps.toList.length:Int)-j).toNat).toArray⟩:=eq_of_beq (PyProof.Rows.slice_closes_from ⟨h0,h1⟩);rw[e];show((x.cps.toList.drop j.toNat).take ((x.cps.toList.length:Int)-j).toNat)=_;rw[cc];rw[aY];lia
theorem FQ:∀c∈("abcdefghijklmnopqrstuvwxyz0123456789":Str).cps.toList,c∈(GR.Internal.SM++GR.Internal.FG).cps.toList:=gQ
theorem HS:∀c∈GR.Internal.SM.cps.toList,c∈(GR.Internal.SM++GR.Internal.FG).cps.toList:=gQ
theorem FR:∀i:Nat,i<26->("abcdefghijklmnopqrstuvwxyz0123456789":Str).cps.toList.getD i 0∈GR.Internal.SM.cps.toList:=gQ
def Nms (x:Str):Prop:=(∃c r,x.cps.toList=c::r/\c∈GR.Internal.SM.cps.toList)/\∀c∈x.cps.toList,c∈(GR.Internal.SM++GR.Internal.FG).cps.toList
theorem HU:∀v∈GR.Internal.KWV,∃s:Str,v= .str s/\s.length<=4:=fun v hv=>by unfold GR.Internal.KWV at hv;simp only[ak,bD,or_false]at hv;rcases hv with rfl|rfl|rfl|rfl|rfl|rfl|rfl|rfl|rfl|rfl|rfl|rfl|rfl|rfl|rfl<;>exact⟨_,rfl,gQ⟩
theorem HV {w:Str} {l:List Nat} (e:w.cps.toList=l) (h5:5<=l.length) (h12:l.length<=12) (h0:∃c,l[0]?=some c/\c∈GR.Internal.SM.cps.toList) (ha:∀c∈l,c∈(GR.Internal.SM++GR.Internal.FG).cps.toList):GR.Internal.isName w=true:=by
 have hl:w.length=l.length:=by rw[<-e];rfl
 obtain⟨c,h0,hc⟩:=h0;have f1:GR.Internal.firstIn w GR.Internal.SM=true:=by
  unfold GR.Internal.firstIn;rw[e]
  cases l with
  |nil=>cases h0
  |cons d r=>cases h0;exact hV hc
 have f2:GR.Internal.allIn w (GR.Internal.SM++GR.Internal.FG)=true:=bK.mpr fun c hc=>hV (ha c (e▸hc));have hk:inV (.str w) GR.Internal.KWV=false:=by
  cases z:inV (.str w) GR.Internal.KWV with
  |false=>rfl
  |true=>
   unfold inV at z;obtain⟨y,hy,q⟩:=bh.mp z;obtain⟨s,rfl,hs⟩:=HU y hy;have:s=w:=by simpa[eqV]using q
   rw[this]at hs;lia
 unfold GR.Internal.isName;rw[hl,hV (by lia:1<=l.length),hV h12,hk,f1,f2];rfl
theorem Ef:∀k,k<16->sgn k∈GR.Internal.SM.cps.toList:=gQ
theorem HW:∀k:Nat,k<16->∀c∈[bit k 0,bit k 1,bit k 2,bit k 3],c∈(GR.Internal.SM++GR.Internal.FG).cps.toList:=gQ
theorem JR {x:Str} {a:Int} {k:Nat} (hx:Nms x) (h4:4<=x.length) (h11:x.length<=11) (a0:0<=a) (a1:a<=x.length) (hk:k<16):GR.Internal.isName (w1 (Txt.slice x none (some a)) (Txt.slice x (some a) none) k)=true:=by
 have hl:x.cps.toList.length=x.length:=rfl;obtain⟨⟨c0,r,hc,hs⟩,xin⟩:=hx;refine HV (l:=x.cps.toList.take a.toNat++[sgn k]++x.cps.toList.drop a.toNat) (by rw[w1,nQ,nQ,JQ a0 a1,FP a0 a1]) ?_ ?_ ?_ ?_;·rw[aQ,aQ,bc,aK,aY];lia
 ·rw[aQ,aQ,bc,aK,aY];lia
 ·by_cases z:a.toNat=0;·rw[z];exact⟨sgn k,rfl,Ef k hk⟩
  ·refine⟨c0,?_,hs⟩;rw[bM,aN (by rw[aK];lia),cy,gY (by lia),hc];rfl
 ·intro d hd;rcases ao.mp hd with hd|hd
  ·rcases ao.mp hd with hd|hd;·exact xin d (cz hd)
   ·rw[bj.mp hd];exact HS _ (Ef k hk)
  ·exact xin d (bO hd)
theorem Eh (x:Str) (k:Nat):(w2 x k 4).cps.toList=x.cps.toList++[bit k 0,bit k 1,bit k 2,bit k 3]:=by simp only[w2,nQ,bM];rfl
theorem JS {x:Str} {k:Nat} (hx:Nms x) (h8:x.length<=8) (hk:k<16):GR.Internal.isName (w2 x k 4)=true:=by
 have hl:x.cps.toList.length=x.length:=rfl;obtain⟨⟨c0,r,hc,hs⟩,xin⟩:=hx;refine HV (Eh x k) ?_ ?_ ⟨c0,by rw[hc];rfl,hs⟩ ?_;·rw[aQ,hc];show 5<=r.length+ 1+ 4;lia
 ·rw[aQ];show _+ 4<=12;lia
 ·intro d hd;rcases ao.mp hd with hd|hd;·exact xin d hd
  ·exact HW k hk d hd
theorem FT:∀i,i<16->∀j,j<16->sgn i=sgn j->i=j:=gQ
theorem HX (A B:Str) {i j:Nat} (hi:i<16) (hj:j<16) (e:w1 A B i=w1 A B j):i=j:=by have h:=congrArg (fun z:Str=>z.cps.toList) e;simp only[w1,nQ]at h;have h2:=cA (List.append_cancel_right h);injection h2 with h3 _;exact FT i hi j hj h3
theorem FU:∀i,i<16->∀j,j<16->[bit i 0,bit i 1,bit i 2,bit i 3]=[bit j 0,bit j 1,bit j 2,bit j 3]->i=j:=gQ
theorem HY (x:Str) {i j:Nat} (hi:i<16) (hj:j<16) (e:w2 x i 4=w2 x j 4):i=j:=by have h:=congrArg (fun z:Str=>z.cps.toList) e;simp only[Eh]at h;exact FU i hi j hj (cA h)
theorem nd16 {f:Nat->Str} (h:∀{i j:Nat},i<16->j<16->f i=f j->i=j):((aa 16).map f).Nodup:=by refine List.pairwise_map.mpr ((List.nodup_range (n:=16)).imp_of_mem fun hi hj ne e=>ne (h (af.mp hi) (af.mp hj) e))
theorem ug {f:Nat->Str} (i:Nat):(aa (i+ 1)).map f=(aa i).map f++[f i]:=by rw[List.range_succ,bo];rfl
structure Wd (H:Hp) (l:Zx) (ws:Zd):Prop where
 e:H l=some (.lst (ws.map V.str))
 l:ws.length=16
 n:∀x∈ws,GR.Internal.isName x=true
 d:ws.Nodup
def wJ:Sp:=fun vs H Q _=>X2 fun(c:Int) (m:Nat)=>Y4 (vs=[.int c,.int (m:Int)]) (1<=m) (m<=100) (∀x:Str,x.length=m->Nms x->Q (.str x) H)
theorem wK (T:Txt K mg):FO P w base 1 T.d27 wJ:=by
 refine T.d27.F.rd i6 fun _ A _ s H vs Q E hr h=>?_;obtain⟨c,m,rfl,h0,h1,q⟩:=h;refine⟨_,(fW (pS (i:=2) i6.nd gu)
  (fW (pS (i:=3) i6.nd gu)
  (fW (jk PassesOwn.never rfl (mJ rfl T.z_range (fV (cv 1) fX)) (pN (i:=4) i6.nd)
   (fW (pS (i:=5) i6.nd fZ)
   (fW (ij (gN lU (cv 4) fZ)
    (gh (pS (i:=5) i6.nd fZ))
    gL)
   (fW (pS (i:=3) i6.nd (ic lM (cv 3) (gx Bj (cv 2) (ic lT (cv 0) (cv 5)))))
   (gh (pS (i:=0) i6.nd (ic lK (cv 0) fZ)))))))
  (gh (gH (cv 3)))))),?_⟩;have sl:=sizeLine_eq;refine⟨_,rfl,by lia,by lia,mK (fun i σ H2=>X4 fun(y:Str) (c:Int) (o o2:Option V)=>Y5 (σ=[some (.int c),some (.int (m:Int)),some (.str "abcdefghijklmnopqrstuvwxyz0123456789"),some (.str y),o,o2]) (H2=H) (y.length=i) ((∀c∈y.cps.toList,c∈(GR.Internal.SM++GR.Internal.FG).cps.toList)) ((0<i->∃c r,y.cps.toList=c::r/\c∈GR.Internal.SM.cps.toList)))
  ⟨"",c,none,none,rfl,rfl,rfl,(fun c hc=>nomatch hc),fun z=>absurd z (by decide)⟩ ?_ ?_⟩
 ·rintro i σ H2 hi ⟨y,c,o,o2,rfl,rfl,hy,ha,hf⟩;have stp:∀n:Int,(n=26\/n=36)->(0<i\/n=26)->∃ch:Nat,atI ("abcdefghijklmnopqrstuvwxyz0123456789":Str).cps.toList (c%n)=some ch/\∃(y':Str),y++⟨#[ch]⟩=y'/\y'.length=i+ 1/\(∀c∈y'.cps.toList,c∈(GR.Internal.SM++GR.Internal.FG).cps.toList)/\∃c r,y'.cps.toList=c::r/\c∈GR.Internal.SM.cps.toList:=fun n hn hi0=>by
   have hp:(0:Int)<n:=by lia
   have a0:=fE c (Int.ne_of_gt hp);have a1:=fF c hp;obtain⟨ch,e,mm⟩:=D3 ("abcdefghijklmnopqrstuvwxyz0123456789":Str).cps.toList (c%n) a0 (by rw[KA];lia);refine⟨ch,e,_,rfl,by rw[Str.length_append,oR,hy],fun d hd=>?_,?_⟩
   ·rw[nQ]at hd;rcases ao.mp hd with hd|hd;·exact ha d hd
    ·rw[bj.mp hd];exact FQ _ mm
   ·rw[nQ];rcases hi0 with z|z;·obtain⟨d,r,hd,hs⟩:=hf z;exact⟨d,r++[ch],by rw[hd];rfl,hs⟩
    ·by_cases iz:0<i;·obtain⟨d,r,hd,hs⟩:=hf iz;exact⟨d,r++[ch],by rw[hd];rfl,hs⟩
     ·have e0:y.cps.toList=[]:=bS (show y.length=0 by lia);refine⟨ch,[],by rw[e0];rfl,?_⟩;have h26:=FR (c%n).toNat (by lia);have e2:=Cd (l:=("abcdefghijklmnopqrstuvwxyz0123456789":Str).cps.toList) (i:=(c%n).toNat) (by rw[KA];lia);rw[show(0:Int)+((c%n).toNat:Int)=c%n by lia,e]at e2;rw[dw.inj e2];exact h26
  show(if(false ^^ decide ((0:Int)+(i:Int)=0))=true then _ else _);rw[fo];by_cases z:(0:Int)+(i:Int)=0;·rw[hV z];obtain⟨ch,e,y',rfl,h1',h2',h3'⟩:=stp 26 (.inl rfl) (.inr rfl);exact jl ⟨(by show(0:Int)<26;decide),sz gQ,gk e ⟨by rw[oR];lia,⟨by decide,by decide⟩,_,_,_,_,rfl,rfl,h1',h2',fun _=>h3'⟩⟩
  ·rw[iw z];obtain⟨ch,e,y',rfl,h1',h2',h3'⟩:=stp 36 (.inr rfl) (.inl (by lia));exact iV ⟨(by show(0:Int)<36;decide),sz gQ,gk e ⟨by rw[oR];lia,⟨by decide,by decide⟩,_,_,_,_,rfl,rfl,h1',h2',fun _=>h3'⟩⟩
 ·rintro σ H2 ⟨y,c,o,o2,rfl,rfl,hy,ha,hf⟩;exact q y (by lia) ⟨hf (by lia),ha⟩
def vg:Sp:=fun vs H Q _=>∃c:Int,vs=[.int c]/\∀l ws H',gB H H'->H l=none->Wd H' l ws->Q (.ref l) H'
theorem vh (T:Txt K mg):FO P w base 2 T.d28 vg:=by
 refine T.d28.F.rd ie fun _ A _ s H vs Q E hr h=>?_;obtain⟨c,rfl,q⟩:=h;refine⟨_,(fW (pS (i:=0) ie.nd (ic lT (cv 0) (ic yJ fZ fZ)))
  (fW (pS (i:=1) ie.nd (ic qE (ic lT (cv 0) fZ) fZ))
  (fW (pS (i:=2) ie.nd (gR fX))
  (fW (ij (gN lU (ic lT (ic lK (cv 0) fZ) fZ) fZ)
   (fW (pS (i:=3) ie.nd (pF T.d27 (wK T) hr.m (fV (ic lK (cv 0) fZ) (fV (ic qE (cv 1) fZ) fX))))
   (fW (pS (i:=4) ie.nd (ic lT (ic lK (cv 0) fZ) (ic qE (cv 1) fZ)))
   (fW (jk PassesOwn.never rfl (mJ rfl T.z_range (fV fZ fX)) (pN (i:=5) ie.nd)
    (gh (gK (ja (jM eX eY eZ gS (PE.mono (cv 2)) (fV (PE.mono (ic lM (ic lM (ph DU (cv 3) uA (pU (cv 4))) (gx Bj gu (cv 5))) (ph DU (cv 3) (pU (cv 4)) uA))) fX))))))
   (gh (gH (cv 2))))))
   gL)
  (fW (pS (i:=3) ie.nd (pF T.d27 (wK T) hr.m (fV (ic lK (cv 0) fZ) (fV (cv 1) fX))))
  (fW (jk PassesOwn.never rfl (mJ rfl T.z_range (fV fZ fX)) (pN (i:=5) ie.nd)
   (fW (pS (i:=6) ie.nd (cv 3))
   (fW (jk PassesOwn.never rfl (jm (gR (fV fZ (fV fZ (fV fZ (fV fZ fX)))))) (pN (i:=7) ie.nd)
    (gh (pS (i:=6) ie.nd (ic lM (cv 6) (gx Bj gu (ic lT (ic lK (cv 5) (cv 7)) fZ))))))
   (gh (gK (ja (jM eX eY eZ gS (PE.mono (cv 2)) (fV (PE.mono (cv 6)) fX))))))))
  (gh (gH (cv 2))))))))),?_⟩;have sl:=sizeLine_eq;refine⟨⟨by decide,by decide,by decide⟩,(by show(0:Int)<10^(24:Int).toNat;decide+kernel),?_⟩;dsimp only[hJ];generalize c%10^(24:Int).toNat=c;have s0:=fE c (show(8:Int)≠0 by decide);have s1:=fF c (show(0:Int)<8 by decide);obtain⟨m,hm⟩:∃m:Nat,c%8+ 1=(m:Int):=⟨(c%8+ 1).toNat,by lia⟩;refine⟨(by show(0:Int)<8;decide),qL,fun l hl=>?_⟩;have S1:gB H (upd H l (.lst [])):=gb hl _;have e1:(upd H l (.lst [])) l=some (.lst []):=fY;dsimp only[hJ];generalize upd H l (.lst [])=H1 at S1 e1⊢;rw[hm];have fin:∀(f:Nat->Str) (H2:Hp),gB H H2->H2 l=some (.lst (((aa 16).map f).map V.str))->(∀k,k<16->GR.Internal.isName (f k)=true)->(∀{i j:Nat},i<16->j<16->f i=f j->i=j)->Q (.ref l) H2:=fun f H2 S e hn hd=>q l _ H2 S hl ⟨e,by rw[aE,cB],fun x hx=>by obtain⟨k,hk,rfl⟩:=bf.mp hx;exact hn k (af.mp hk),nd16 hd⟩;refine⟨⟨by decide,by decide⟩,(by show(0:Int)<2;decide),?_⟩;dsimp only[tC,cEq,onB];rw[fo]
 cases decide (c/8%2=0)with
 |true=>
  refine jl ⟨⟨by decide,by decide⟩,_,m+ 3,rfl,by lia,by lia,fun x hx nx=>⟨⟨by decide,by decide⟩,(by show(0:Int)<(m:Int)+ 4;lia),?_⟩⟩;dsimp only[hJ];have a0:=fE (c/16) (show((m:Int)+ 4)≠0 by lia);have a1:=fF (c/16) (show 0<((m:Int)+ 4) by lia);generalize c/16%((m:Int)+ 4)=at_ at a0 a1⊢;have la:=Txt.slice_le x none (some at_);have lb:=Txt.slice_le x (some at_) none;refine⟨16,rfl,by decide,by decide,mK (fun i σ H2=>∃(o:Option V),Y3 (σ=[some (.int c),some (.int (m:Int)),some (.ref l),some (.str x),some (.int at_),o,none,none]) (gB H H2) (H2 l=some (.lst (((aa i).map (w1 (Txt.slice x none (some at_)) (Txt.slice x (some at_) none))).map V.str))))
   ⟨none,rfl,S1,e1⟩ ?_ ?_⟩;·rintro i σ H2 hi ⟨o,rfl,S,e⟩;have hi16:i<16:=hi;have e1:=Cd (l:=("abcdefghijklmnop":Str).cps.toList) (i:=i) (by rw[show("abcdefghijklmnop":Str).cps.toList.length=16 by decide+kernel];lia);refine⟨⟨_,e⟩,at_,rfl,_,rfl,by lia,sz gQ,gk e1 ⟨by rw[oR];lia,at_,rfl,_,rfl,by lia,by rw[Str.length_append,oR];lia,_,e,by rw[aE,aE,cB];lia,?_⟩⟩;refine⟨_,rfl,hI S hl _,?_⟩;rw[fY,ug,bo];rfl
  ·rintro σ H2 ⟨o,rfl,S,e⟩;exact fin _ H2 S e (fun k hk=>JR nx (by lia) (by lia) a0 (by lia) hk) (HX _ _)
 |false=>
  refine iV ⟨⟨by decide,by decide⟩,_,m,rfl,by lia,by lia,fun x hx nx=>?_⟩;dsimp only[hJ];refine⟨16,rfl,by decide,by decide,mK (fun i σ H2=>X3 fun(o o2 o3:Option V)=>Y3 (σ=[some (.int c),some (.int (m:Int)),some (.ref l),some (.str x),none,o,o2,o3]) (gB H H2) (H2 l=some (.lst (((aa i).map fun k=>w2 x k 4).map V.str))))
   ⟨none,none,none,rfl,S1,e1⟩ ?_ ?_⟩
  ·rintro i σ H2 hi ⟨o,o2,o3,rfl,S,e⟩;have hi16:i<16:=hi;refine⟨JY,fun p hp=>⟨p,rfl,⟨_,SqL.of fY⟩,?_⟩⟩;have S2:gB H (upd H2 p (.lst [V.int 8,V.int 4,V.int 2,V.int 1])):=S.trans (gb hp _);have nlp:l≠p:=gm e hp;refine jV (xs:=[V.int 8,V.int 4,V.int 2,V.int 1]) (fun j σ H3=>∃(o3:Option V),Y3 (σ=[some (.int c),some (.int (m:Int)),some (.ref l),some (.str x),none,some (.int (0+(i:Int))),some (.str (w2 x i j)),o3]) (H3=upd H2 p (.lst [V.int 8,V.int 4,V.int 2,V.int 1])) ((w2 x i j).length<=100+j))
    ⟨o3,rfl,rfl,by show x.length<=_;lia⟩ (fun j σ H3 _ ⟨o4,_,e3,_⟩=>by rw[e3];exact SqL.of fY) ?_ ?_
   ·rintro j v σ H3 hv ⟨o4,rfl,rfl,hy⟩;have hj:j<4:=(au.mp hv).1;have hn:v= .int (part j)/\0<part j/\part j<1073741824:=by
     match j,hj,hv with
     |0,_,hv=>cases hv;exact⟨rfl,by decide,by decide⟩
     |1,_,hv=>cases hv;exact⟨rfl,by decide,by decide⟩
     |2,_,hv=>cases hv;exact⟨rfl,by decide,by decide⟩
     |3,_,hv=>cases hv;exact⟨rfl,by decide,by decide⟩
    obtain⟨rfl,n0,n1⟩:=hn;obtain⟨ch,e1,_⟩:=D3 ("t7":Str).cps.toList ((0+(i:Int))/part j%2) (fE _ (by decide)) (by rw[show("t7":Str).cps.toList.length=2 by decide+kernel];exact fF _ (by decide));have ech:ch=bit i j:=by rw[bit,t7,e1];rfl
    subst ech;exact⟨⟨n0,n1⟩,(by show(0:Int)<2;decide),sz gQ,gk e1 ⟨by rw[oR];lia,_,rfl,rfl,by rw[w2,Str.length_append,oR];lia⟩⟩
   ·rintro σ H3 ⟨o4,rfl,rfl,hy⟩;have e4:(upd H2 p (.lst [V.int 8,V.int 4,V.int 2,V.int 1])) l=some (.lst (((aa i).map fun k=>w2 x k 4).map V.str)):=by rw[gr nlp];exact e
    refine⟨⟨_,e4⟩,_,e4,by rw[aE,aE,cB];lia,?_⟩;refine⟨_,_,_,rfl,hI S2 hl _,?_⟩;rw[fY,ug,bo];rfl
  ·rintro σ H2 ⟨o,o2,o3,rfl,S,e⟩;exact fin _ H2 S e (fun k hk=>JS nx (by lia) hk) (HY x)
def mask (H:Hp) (M:List Zx):Hp:=fun a=>if a∈M then none else H a
theorem iK {H:Hp} {M:List Zx} {a:Zx} {u:HO} (h:a∉M) (e:H a=some u):mask H M a=some u:=by unfold mask;rw[gJ h];exact e
theorem jz {H:Hp} {M:List Zx} {a:Zx} {u:HO} (e:mask H M a=some u):a∉M/\H a=some u:=by
 unfold mask at e;split at e;·cases e
 ·exact⟨‹_›,e⟩
theorem gT {H:Hp} {M:List Zx}:gB (mask H M) H:=fun b u e=>(jz e).2
def Fr (M:List Zx) (H H':Hp):Prop:=∀b o,H b=some o->b∉M->H' b=some o
theorem Fr.mask {M:List Zx} {H H':Hp} (f:Fr M H H'):gB (mask H M) (mask H' M):=fun b u e=>iK (jz e).1 (f _ _ (jz e).2 (jz e).1)
theorem Fr.trans {M:List Zx} {H H1 H2:Hp} (f:Fr M H H1) (g:Fr M H1 H2):Fr M H H2:=fun b o e n=>g b o (f b o e n) n
theorem Fr.same {M:List Zx} {H H':Hp} (s:gB H H'):Fr M H H':=fun b o e _=>s b o e
theorem Fr.le {M N:List Zx} {H H':Hp} (f:Fr M H H') (h:∀a∈M,a∈N):Fr N H H':=fun b o e n=>f b o e fun z=>n (h b z)
def qD (j:Nat) (t:Xt):List Dt:=if j=2 then t.ms.map kD else if j=3 then t.ha.map haD else t.me.map meD
def pD (m:Int) (j:Nat) (ts:List Xt):List Dt:=if j=2 then(m::msX ts).map kD else if j=3 then(haX ts).map haD else(meX ts).map meD
def vD:Option Vl->Dt
 |some v=>v.d
 |none=> .flat .non
inductive XtA (H:Hp) (x:V) (t:Xt):Prop
 |mk (a:Zx) (v:V) (A:Nat->Zx) (e:x= .ref a) (ea:H a=some (.lst [.str t.tx,v,.ref (A 2),.ref (A 3),.ref (A 4)])) (iv:Im H v (vD t.val)) (hp:∀j,2<=j->j<5->∃xs,H (A j)=some (.lst xs)/\Ims H xs (qD j t))
theorem XtA.same {H H':Hp} {x:V} {t:Xt} (h:XtA H x t) (s:gB H H'):XtA H' x t:=by obtain⟨a,v,A,e,ea,iv,hp⟩:=h;have k:=gB.tk s;exact⟨a,v,A,e,s _ _ ea,iv.mono k,fun j h2 h5=>let⟨xs,e,i⟩:=hp j h2 h5;⟨xs,s _ _ e,i.mono k⟩⟩
inductive rk (H:Hp):List V->List Xt->Prop
 |nil:rk H [] []
 |cons {x:V} {t:Xt} {xs:List V} {ts:List Xt} (h:XtA H x t) (r:rk H xs ts):rk H (x::xs) (t::ts)
theorem rk.same {H H':Hp} (s:gB H H') {xs:List V} {ts:List Xt} (h:rk H xs ts):rk H' xs ts:=by
 induction h with
 |nil=>exact .nil
 |cons h r ih=>exact .cons (h.same s) ih
theorem rk.len {H:Hp}:∀{xs:List V} {ts:List Xt},rk H xs ts->xs.length=ts.length
 |_,_,.nil=>rfl
 |_,_,.cons h r=>congrArg (·+ 1) r.len
theorem rk.at {H:Hp} {xs:List V} {ts:List Xt} (h:rk H xs ts):∀{i:Nat} {t:Xt},ts[i]?=some t->∃x,xs[i]?=some x/\XtA H x t:=by
 induction h with
 |nil=>exact fun e=>nomatch e
 |cons h r ih=>exact fun{k x} e=>by cases k with|zero=>cases e;exact⟨_,rfl,h⟩|succ k=>exact ih (i:=k) e
theorem rk.snoc {H:Hp} {x:V} {t:Xt} (k:XtA H x t):∀{xs:List V} {ts:List Xt},rk H xs ts->rk H (xs++[x]) (ts++[t])
 |_,_,.nil=> .cons k .nil
 |_,_,.cons h r=> .cons h (r.snoc k)
theorem mC:∀(a b:List Xt),msX (a++b)=msX a++msX b
 |[],b=>by rw[bT,msX,bT]
 |t::a,b=>by rw[aU,msX,msX,mC a b,bM]
theorem vj:∀(a b:List Xt),haX (a++b)=haX a++haX b
 |[],b=>by rw[bT,haX,bT]
 |t::a,b=>by rw[aU,haX,haX,vj a b,bM]
theorem vm:∀(a b:List Xt),meX (a++b)=meX a++meX b
 |[],b=>by rw[bT,meX,bT]
 |t::a,b=>by rw[aU,meX,meX,vm a b,bM]
theorem FV {m:Int} {j:Nat} {ts:List Xt} {t:Xt}:pD m j (ts++[t])=pD m j ts++qD j t:=by
 unfold pD qD;rw[mC,vj,vm,msX,msX,haX,haX,meX,meX,aF,aF,aF];split;·rw[aD,bo];rfl
 ·split<;>rw[bo]
mutual
theorem Xt.lens:∀t:Xt,t.ha.length<=t.ms.length/\t.me.length<=2*t.ms.length
 | .mk m κ ks=>by
  obtain⟨h1,h2⟩:=DC ks;rw[Xt.ha,Xt.me,Xt.ms,aQ,aQ,aB];have a:(haO m (Xt.mk m κ ks).val).length<=1:=by cases(Xt.mk m κ ks).val<;>exact du rfl
  have b:(meO m κ (ko ks)).length<=2:=by
   cases ko ks with
   |none=>exact cO _
   |some vs=>
    cases κ with
    |op o=>show(if o="size" then _ else _:List (Int×Int×Int)).length<=2;split<;>exact du rfl
    |_=>exact cO _
  lia
theorem DC:∀ts:List Xt,(haX ts).length<=(msX ts).length/\(meX ts).length<=2*(msX ts).length
 |[]=>by rw[haX,meX,msX];exact⟨cM _,cO _⟩
 |t::ts=>by obtain⟨h1,h2⟩:=Xt.lens t;obtain⟨h3,h4⟩:=DC ts;rw[haX,meX,msX,aQ,aQ,aQ];lia
end
theorem HZ (j:Nat) (t:Xt):(qD j t).length<=2*t.ms.length:=by
 obtain⟨h1,h2⟩:=t.lens;unfold qD;split;·rw[aE];lia
 ·split<;>rw[aE]<;>lia
theorem zj (m:Int) (j:Nat) (ts:List Xt):(pD m j ts).length<=2*(msX ts).length+ 1:=by
 obtain⟨h1,h2⟩:=DC ts;unfold pD;split;·rw[aE,aB];lia
 ·split<;>rw[aE]<;>lia
theorem pL (m:Int) (κ:Kx):(Xt.mk m κ []).val=κ.v m []:=by rw[Xt.val,ko]
theorem DD (m:Int) (κ:Kx):(Xt.mk m κ []).tx=κ.x []:=by rw[Xt.tx,txX]
theorem kn (m:Int) (κ:Kx):(Xt.mk m κ []).ms=[m]:=by rw[Xt.ms,msX]
theorem Ia {m:Int} {κ:Kx} {v:Vl} (h:κ.v m []=some v):(Xt.mk m κ []).ha=[(m,v.p)]:=by rw[Xt.ha,pL,h,haX];rfl
theorem Ib (m:Int) (κ:Kx) (h:∀o,κ≠ .op o):(Xt.mk m κ []).me=[]:=by
 rw[Xt.me,meX,ko]
 cases κ with
 |op o=>exact absurd rfl (h o)
 |_=>rfl
def Fh (H:Hp) (fr:Zx) (n:Nat):Prop:=H fr=some (.lst (aI n .non))
theorem Ah {H:Hp} {M:List Zx} {a:Zx} (hM:∀b∈M,∃o,H b=some o) (h:H a=none):a∉M:=fun z=>by obtain⟨o,e⟩:=hM a z;rw[e]at h;cases h
theorem gU {H H':Hp} {M:List Zx} (s:gB H H'):gB (mask H M) (mask H' M):=(Fr.same s).mask
theorem zk {H:Hp} {M:List Zx} {m q:Int} {v:V} {t:Xt} (hM:∀b∈M,∃o,H b=some o) (iv:Im (mask H M) v (vD t.val)) {x:Str} (e1:t.tx=x) (e2:t.ms=[m]) (e3:t.ha=[(m,q)]) (e4:t.me=[]) {l1 t2 l2 l3 a:Zx} (h1:H l1=none) (h2:(upd H l1 (.lst [.int m])) t2=none) (h3:(upd (upd H l1 (.lst [.int m])) t2 (.tup [.int m,.int q])) l2=none) (h4:(upd (upd (upd H l1 (.lst [.int m])) t2 (.tup [.int m,.int q])) l2 (.lst [.ref t2])) l3=none) (h5:(upd (upd (upd (upd H l1 (.lst [.int m])) t2 (.tup [.int m,.int q])) l2 (.lst [.ref t2])) l3 (.lst [])) a=none):
  gB H (upd (upd (upd (upd (upd H l1 (.lst [.int m])) t2 (.tup [.int m,.int q])) l2 (.lst [.ref t2])) l3 (.lst [])) a (.lst [.str x,v,.ref l1,.ref l2,.ref l3]))/\XtA (mask (upd (upd (upd (upd (upd H l1 (.lst [.int m])) t2 (.tup [.int m,.int q])) l2 (.lst [.ref t2])) l3 (.lst [])) a (.lst [.str x,v,.ref l1,.ref l2,.ref l3])) M) (.ref a) t:=by
 have S1:=gb h1 (.lst [.int m]);have S2:=gb h2 (.tup [.int m,.int q]);have S3:=gb h3 (.lst [.ref t2]);have S4:=gb h4 (.lst []);have S5:=gb h5 (.lst [.str x,v,.ref l1,.ref l2,.ref l3]);have S45:=S4.trans S5;have S35:=S3.trans S45;have S25:=S2.trans S35;have S15:=S1.trans S25;have nm:∀{b:Zx},H b=none->b∉M:=fun h=>Ah hM h;have g1:=iK (nm h1) (S25 l1 _ fY);have g2:=iK (nm (S1.free h2)) (S35 t2 _ fY);have g3:=iK (nm ((S1.trans S2).free h3)) (S45 l2 _ fY);have g4:=iK (nm (((S1.trans S2).trans S3).free h4)) (S5 l3 _ fY);subst e1;refine⟨S15,a,v,fun j=>if j=2 then l1 else if j=3 then l2 else l3,rfl,iK (nm ((((S1.trans S2).trans S3).trans S4).free h5)) fY,iv.mono (gB.tk (gU S15)),fun j j2 j5=>?_⟩;unfold qD;by_cases z:j=2;·rw[gY z,gY z,e2];exact⟨_,g1,.cons (.flat rfl) .nil⟩
 ·rw[gJ z,gJ z];by_cases z:j=3;·rw[gY z,gY z,e3];exact⟨_,g3,.cons (.tup g2 (.cons (.flat rfl) (.cons (.flat rfl) .nil))) .nil⟩
  ·rw[gJ z,gJ z,e4];exact⟨_,g4,.nil⟩
theorem Ic {n:Int} (h0:0<=n) (h1:n<10^60):n.natAbs.log2<1920:=by
 by_cases hz:n.natAbs=0;·rw[hz];decide+kernel
 ·rw[Nat.log2_lt hz];have h2:n.natAbs<10^60:=by lia
  have h3:(10:Nat)^60<=2^200:=gQ;have h4:(2:Nat)^200<=2^1920:=Nat.pow_le_pow_right (by decide) (by decide);lia
def wL:Sp:=fun vs H Q _=>X2 fun(fr:Zx) (n:Nat)=>Y4 (vs=[.ref fr]) (Fh H fr n) (n<=1000) (Q (.int ((n+ 1:Nat):Int)) (upd H fr (.lst (aI (n+ 1) .non))))
theorem jt (T:Txt K mg):FO P w base 1 T.d29 wL:=by
 refine T.d29.F.rd wx fun _ A _ s H vs Q E hr h=>?_;obtain⟨fr,n,rfl,ef,hn,q⟩:=h;refine⟨_,(fW (gK (ja (jM eX eY eZ gS (PE.mono (cv 0)) (fV (PE.mono kK) fX))))
  (gh (gH (gG gA rfl T.z_len iH (fV (cv 0) fX))))),?_⟩;have sl:=sizeLine_eq;refine⟨⟨_,ef⟩,_,ef,by rw[aR];lia,?_⟩;refine⟨fr,_,rfl,.inl (SqL.of fY),?_⟩;rw[<-cC,aR];exact q
inductive XNu (vs:List V) (H:Hp) (Q:VK):Prop
 |mk (M:List Zx) (fr:Zx) (n:Nat) (c:Int) (e:vs=[.ref fr,.int c]) (hM:∀b∈M,∃o,H b=some o) (hf:fr∈M) (ef:Fh H fr n) (hn:n<=1000) (hc:0<=c/\c<10^60) (q:∀x H',Fr [fr] H H'->Fh H' fr (n+ 1)->XtA (mask H' M) x (.mk ((n+ 1:Nat):Int) (.num c) [])->Q x H')
def tj:Sp:=fun vs H Q _=>XNu vs H Q
theorem kJ {H:Hp} {M:List Zx} {a:Zx} {o:HO} (hM:∀b∈M,∃o,H b=some o):∀b∈M,∃o',(upd H a o) b=some o':=fun b hb=>by
 by_cases z:b=a;·rw[z];exact⟨_,fY⟩
 ·rw[gr z];exact hM b hb
theorem kO {H:Hp} {a:Zx} {o:HO}:Fr [a] H (upd H a o):=fun b u e n=>by rw[gr (fun z=>n (bj.mpr z))];exact e
theorem n6 (T:Txt K mg):FO P w base 2 T.d30 tj:=by
 refine T.d30.F.rd nU fun _ A _ s H vs Q E hr h=>?_;obtain⟨M,fr,n,c,rfl,hM,hf,ef,hn,hc,q⟩:=h;refine⟨_,(fW (pS (i:=2) nU.nd (pF T.d29 (jt T) hr.m (fV (cv 0) fX)))
  (gh (gH (gR (fV (jL vJ rfl T.z_str GS (fV (cv 1) fX)) (fV (ik (fV gu (fV (cv 1) (fV (cv 2) fX)))) (fV (gR (fV (cv 2) fX)) (fV (gR (fV (ik (fV (cv 2) (fV (cv 2) fX))) fX)) (fV (gR fX) fX))))))))),?_⟩;refine⟨fr,n,rfl,ef,hn,?_⟩;have ef1:Fh (upd H fr (.lst (aI (n+ 1) .non))) fr (n+ 1):=fY;have F1:Fr [fr] H (upd H fr (.lst (aI (n+ 1) .non))):=kO;have hM1:=kJ (a:=fr) (o:= .lst (aI (n+ 1) .non)) hM;dsimp only[hJ];generalize upd H fr (.lst (aI (n+ 1) .non))=H1 at ef1 F1 hM1⊢;refine⟨c,rfl,?_,n8,fun a1 h1=>?_⟩;·exact Ic hc.1 hc.2
 have S1:=gb h1 (.tup [.str "num",.int c,.int ((n+ 1:Nat):Int)]);have hM2:=kJ (a:=a1) (o:= .tup [.str "num",.int c,.int ((n+ 1:Nat):Int)]) hM1;have iv:Im (mask (upd H1 a1 (.tup [.str "num",.int c,.int ((n+ 1:Nat):Int)])) M) (.ref a1) (Vl.num c ((n+ 1:Nat):Int)).d:= .tup (iK (Ah hM1 h1) fY) (.cons (.flat rfl) (.cons (.flat rfl) (.cons (.flat rfl) .nil)));dsimp only;generalize upd H1 a1 (.tup [.str "num",.int c,.int ((n+ 1:Nat):Int)])=H2 at S1 hM2 iv⊢;refine⟨rp,fun l1 k1=>⟨oT,fun t2 k2=>⟨rp,fun l2 k3=>⟨qL,fun l3 k4=>⟨Ip,fun a k5=>?_⟩⟩⟩⟩⟩;obtain⟨S2,x⟩:=zk (t:= .mk ((n+ 1:Nat):Int) (.num c) []) hM2 (by rw[pL];exact iv) (DD _ _) (kn _ _) (Ia (v:= .num c _) rfl) (Ib _ _ (fun o z=>nomatch z)) k1 k2 k3 k4 k5;exact q _ _ ((F1.trans (Fr.same S1)).trans (Fr.same S2)) ((S1.trans S2) _ _ ef1) x
inductive XNa (vs:List V) (H:Hp) (Q:VK):Prop
 |mk (M:List Zx) (fr:Zx) (n k:Nat) (w:Str) (v:V) (u:Vl) (e:vs=[.ref fr,.str w,v]) (hM:∀b∈M,∃o,H b=some o) (hf:fr∈M) (ef:Fh H fr n) (hn:n<=1000) (iv:Im (mask H M) v u.d) (q:∀x H',Fr [fr] H H'->Fh H' fr (n+ 1)->XtA (mask H' M) x (.mk ((n+ 1:Nat):Int) (.nam w k u) [])->Q x H')
def vp:Sp:=fun vs H Q _=>XNa vs H Q
theorem mD (T:Txt K mg):FO P w base 2 T.d31 vp:=by
 refine T.d31.F.rd pB fun _ A _ s H vs Q E hr h=>?_;obtain⟨M,fr,n,k,w,v,u,rfl,hM,hf,ef,hn,iv,q⟩:=h;refine⟨_,(fW (pS (i:=3) pB.nd (pF T.d29 (jt T) hr.m (fV (cv 0) fX)))
  (gh (gH (gR (fV (cv 1) (fV (cv 2) (fV (gR (fV (cv 3) fX)) (fV (gR (fV (ik (fV (cv 3) (fV (gx gE (cv 2) (vF qw fZ)) fX))) fX)) (fV (gR fX) fX))))))))),?_⟩;refine⟨fr,n,rfl,ef,hn,?_⟩;have ef1:Fh (upd H fr (.lst (aI (n+ 1) .non))) fr (n+ 1):=fY;have F1:Fr [fr] H (upd H fr (.lst (aI (n+ 1) .non))):=kO;have hM1:=kJ (a:=fr) (o:= .lst (aI (n+ 1) .non)) hM;have iv1:=iv.mono (gB.tk (Fr.mask (F1.le (N:=M) (fun a ha=>by rw[bj.mp ha];exact hf))));dsimp only[hJ];generalize upd H fr (.lst (aI (n+ 1) .non))=H1 at ef1 F1 hM1 iv1⊢;refine⟨rp,fun l1 k1=>?_⟩;obtain⟨tv,y,rfl,etv,_⟩:=sJ (iv1.mono (gB.tk gT));refine⟨_,rfl,_,gb k1 _ _ _ etv,gk (by rfl) ⟨oT,fun t2 k2=>⟨rp,fun l2 k3=>⟨qL,fun l3 k4=>⟨Ip,fun a k5=>?_⟩⟩⟩⟩⟩;obtain⟨S2,x⟩:=zk (t:= .mk ((n+ 1:Nat):Int) (.nam w k u) []) hM1 (by rw[pL];exact iv1) (DD _ _) (kn _ _) (Ia (v:=u) rfl) (Ib _ _ (fun o z=>nomatch z)) k1 k2 k3 k4 k5;exact q _ _ (F1.trans (Fr.same S2)) (S2 _ _ ef1) x
theorem oS {H:Hp} {M N:List Zx} (h:∀a∈M,a∈N):gB (mask H N) (mask H M):=fun b u e=>iK (fun z=>(jz e).1 (h b z)) (jz e).2
def oV:Option Str->V
 |none=> .non
 |some w=> .str w
def cN:List (Option Str)->Nat
 |[]=>0
 |none::p=>cN p+ 1
 |some _::p=>cN p
def txF:List (Option Str)->List Xt->List Str
 |some w::p,ts=>w::txF p ts
 |none::p,t::ts=>t.tx::txF p ts
 |_,_=>[]
theorem qJ:∀(p q:List (Option Str)),cN (p++q)=cN p+cN q
 |[],q=>(da _).symm
 |none::p,q=>by rw[aU,cN,cN,qJ p q];lia
 |some _::p,q=>by rw[aU,cN,cN,qJ p q]
theorem vq {w:Str}:∀{p:List (Option Str)} {ts:List Xt},cN p<=ts.length->txF (p++[some w]) ts=txF p ts++[w]
 |[],ts,_=>by cases ts<;>rfl
 |none::p,[],h=>absurd h (Nat.not_succ_le_zero _)
 |none::p,t::ts,h=>congrArg (t.tx::·) (vq (p:=p) (ts:=ts) (Nat.le_of_succ_le_succ h))
 |some v::p,ts,h=>congrArg (v::·) (vq (p:=p) (ts:=ts) h)
theorem vt {t:Xt}:∀{p:List (Option Str)} {ts:List Xt},ts[cN p]?=some t->txF (p++[none]) ts=txF p ts++[t.tx]
 |[],ts,h=>by
  cases ts with
  |nil=>cases h
  |cons u us=>cases h;rfl
 |none::p,[],h=>by cases h
 |none::p,u::ts,h=>congrArg (u.tx::·) (vt (p:=p) (ts:=ts) h)
 |some v::p,ts,h=>congrArg (v::·) (vt (p:=p) (ts:=ts) h)
theorem vw:∀(p:List (Option Str)) (ts:List Xt),(txF p ts).length<=p.length
 |[],ts=>by cases ts<;>exact cM _
 |none::p,[]=>cO _
 |none::p,t::ts=>dj (vw p ts)
 |some v::p,ts=>dj (vw p ts)
theorem Ce {b:Nat}:∀{l:Zd},(∀w∈l,w.length<=b)->(l.map (·.length)).sum<=l.length*b
 |[],_=>cO _
 |w::l,h=>by have:=Ce (l:=l) fun x hx=>h x (aj _ hx);have:=h w ah;rw[aD,List.sum_cons,aB,Nat.succ_mul];lia
theorem zl {z:Str} {b:Nat}:∀{l:Zd},(∀w∈l,w.length<=b)->(Str.join z l).length<=l.length*(b+z.length)
 |[],_=>cO _
 |[w],h=>by have:=h w ah;show w.length<=1*_;lia
 |w::v::l,h=>by have:=zl (z:=z) (l:=v::l) fun x hx=>h x (aj _ hx);have:=h w ah;show(w++z++Str.join z (v::l)).length<=_;rw[Str.length_append,Str.length_append,aB,Nat.succ_mul];lia
theorem ye {b:Nat}:∀{p:List (Option Str)} {ts:List Xt},(∀w,some w∈p->w.length<=b)->(∀t∈ts,t.tx.length<=b)->∀w∈txF p ts,w.length<=b
 |[],ts,_,_,w,h=>by cases ts<;>cases h
 |none::p,[],_,_,w,h=>by cases h
 |none::p,t::ts,h1,h2,w,h=>by
  rcases ak.mp h with rfl|h;·exact h2 t ah
  ·exact ye (p:=p) (fun v hv=>h1 v (aj _ hv)) (fun u hu=>h2 u (aj _ hu)) w h
 |some v::p,ts,h1,h2,w,h=>by
  rcases ak.mp h with rfl|h;·exact h1 _ ah
  ·exact ye (p:=p) (ts:=ts) (fun u hu=>h1 u (aj _ hu)) h2 w h
inductive PtA (H0 H:Hp) (M:List Zx) (a:Zx) (m:Int) (x:Str) (ts:List Xt):Prop
 |mk (A:Nat->Zx) (h0:H0 a=none) (ea:H a=some (.lst [.str x,.non,.ref (A 2),.ref (A 3),.ref (A 4)])) (hp:∀j,2<=j->j<5->A j≠a/\∃xs,(mask H (a::M)) (A j)=some (.lst xs)/\Ims (mask H (a::M)) xs (pD m j ts))
def PaS (H:Hp) (N:List Zx) (wl:Zx) (m:Int) (ts:List Xt) (k b:Nat):Prop:=∃A:Nat->Zx,H wl=some (.lst [.str "",.non,.ref (A 2),.ref (A 3),.ref (A 4)])/\∀j,2<=j->j<5->∃xs,(mask H N) (A j)=some (.lst xs)/\Ims (mask H N) xs (pD m j (ts.take (if j<b then k+ 1 else k)))
theorem PaS.fr {H H':Hp} {N:List Zx} {wl:Zx} {m:Int} {ts:List Xt} {k b:Nat} (h:PaS H N wl m ts k b) (f:Fr N H H') (e:H' wl=H wl):PaS H' N wl m ts k b:=by obtain⟨A,e1,hp⟩:=h;exact⟨A,by rw[e];exact e1,fun j h2 h5=>let⟨xs,e,i⟩:=hp j h2 h5;⟨xs,f.mask _ _ e,i.mono (gB.tk f.mask)⟩⟩
inductive XFo (vs:List V) (H:Hp) (Q:VK):Prop
 |mk (M:List Zx) (m:Int) (pl il:Zx) (pat:List (Option Str)) (xs:List V) (ts:List Xt) (e:vs=[.int m,.ref pl,.ref il]) (hM:∀b∈M,∃o,H b=some o) (ep:H pl=some (.lst (pat.map oV))) (ei:H il=some (.lst xs)) (hx:rk (mask H M) xs ts) (hc:cN pat=ts.length) (hl:pat.length<=40) (hz:(msX ts).length<=1000) (hp:∀w,some w∈pat->w.length<=100000) (ht:∀t∈ts,t.tx.length<=100000) (q:∀a H',gB H H'->PtA H H' M a m ("("++Str.join " " (txF pat ts)++")") ts->Q (.ref a) H')
def wM:Sp:=fun vs H Q _=>XFo vs H Q
theorem kH (T:Txt K mg):FO P w base 1 T.d32 wM:=by
 refine T.d32.F.rd jo fun _ A _ s H vs Q E hr h=>?_;obtain⟨M,m,pl,il,pat,xs,ts,rfl,hM,ep,ei,hx,hc,hl,hz,hp,ht,q⟩:=h;refine⟨_,(fW (pS (i:=3) jo.nd (gR fX))
  (fW (pS (i:=4) jo.nd (gR (fV gu (fV kK (fV (gR (fV (cv 0) fX)) (fV (gR fX) (fV (gR fX) fX)))))))
  (fW (pS (i:=5) jo.nd fZ)
  (fW (jk PassesOwn.never rfl (jm (cv 1)) (pN (i:=6) jo.nd)
   (gh (ij (oU (tK (cv 6)))
    (fW (gK (ja (jM eX eY eZ gS (PE.mono (cv 3)) (fV (PE.mono (gx gC (gx gC (cv 2) (cv 5)) fZ)) fX))))
    (fW (jk PassesOwn.never rfl (jm (gR (fV fZ (fV fZ (fV fZ fX))))) (pN (i:=7) jo.nd)
     (gh (rF (ic qA (gx gC (cv 4) (cv 7)) (gx gC (gx gC (cv 2) (cv 5)) (cv 7))) (rE (cv 4) (cv 7) lY))))
    (gh (pS (i:=5) jo.nd (ic qE (cv 5) fZ)))))
    (gh (gK (ja (jM eX eY eZ gS (PE.mono (cv 3)) (fV (PE.mono (cv 6)) fX))))))))
  (fW (rF (ic lM (ic lM gu (jM eW fe ff Bl gu (fV (cv 3) fX))) gu) (rE (cv 4) fZ lY))
  (gh (gH (cv 4)))))))),?_⟩;have sl:=sizeLine_eq;refine⟨qL,fun tl htl=>?_⟩;have S1:=gb htl (.lst []);have et:(upd H tl (.lst [])) tl=some (.lst []):=fY;dsimp only[hJ];generalize upd H tl (.lst [])=H1 at S1 et⊢;refine⟨rp,fun l2 h2=>⟨qL,fun l3 h3=>⟨qL,fun l4 h4=>⟨Ip,fun wl hwl=>?_⟩⟩⟩⟩;have S2:=gb h2 (.lst [.int m]);have S3:=gb h3 (.lst []);have S4:=gb h4 (.lst []);have S5:=gb hwl (.lst [.str "",.non,.ref l2,.ref l3,.ref l4]);have S15:=((S2.trans S3).trans S4).trans S5;have g2:=((S3.trans S4).trans S5) _ _ (fY (H:=H1) (a:=l2) (o:= .lst [.int m]));have g3:=(S4.trans S5) _ _ (fY (a:=l3) (o:= .lst []));have g4:=S5 _ _ (fY (a:=l4) (o:= .lst []));have gw:=fY (H:=upd (upd (upd H1 l2 (.lst [.int m])) l3 (.lst [])) l4 (.lst [])) (a:=wl) (o:= .lst [.str "",.non,.ref l2,.ref l3,.ref l4]);have n3:=S2.free h3;have n4:=(S2.trans S3).free h4;have nw:=((S2.trans S3).trans S4).free hwl;have et2:=S15 _ _ et;have hwl0:H wl=none:=S1.free nw;have ntw:tl≠wl:=gm et nw;have w2:l2≠wl:=gm ((S3.trans S4) _ _ (fY (a:=l2))) hwl;have w3:l3≠wl:=gm (S4 _ _ (fY (a:=l3))) hwl;have w4:l4≠wl:=gm (fY (a:=l4)) hwl;have S02:=S1.trans S15;dsimp only[hJ];generalize upd (upd (upd (upd H1 l2 (.lst [.int m])) l3 (.lst [])) l4 (.lst [])) wl (.lst [.str "",.non,.ref l2,.ref l3,.ref l4])=H2 at g2 g3 g4 gw et2 S02⊢;clear S2 S3 S4 S5 S15 hwl h3 h4;have notN:∀{b:Zx},H1 b=none->b≠wl->b∉tl::wl::M:=fun{b} h n z=>by
  rcases ak.mp z with z|z;·rw[z,et]at h;cases h
  ·rcases ak.mp z with z|z;·exact n z
   ·exact Ah hM (S1.free h) z
 have mN:∀{H3:Hp},gB H H3->gB (mask H M) (mask H3 (tl::wl::M)):=fun S b u e=>by
  obtain⟨e1,e2⟩:=jz e;refine iK (fun z=>?_) (S _ _ e2);rcases ak.mp z with z|z;·rw[z,htl]at e2;cases e2
  ·rcases ak.mp z with z|z;·rw[z,hwl0]at e2;cases e2
   ·exact e1 z
 have P0:PaS H2 (tl::wl::M) wl m ts 0 2:=by
  refine⟨fun j=>if j=2 then l2 else if j=3 then l3 else l4,gw,fun j j2 j5=>?_⟩;rw[gJ (by lia:¬j<2)];unfold pD;dsimp only;by_cases z:j=2;·rw[gY z,gY z];exact⟨_,iK (notN h2 w2) g2,.cons (.flat rfl) .nil⟩
  ·rw[gJ z,gJ z];by_cases z:j=3;·rw[gY z,gY z];exact⟨_,iK (notN n3 w3) g3,.nil⟩
   ·rw[gJ z,gJ z];exact⟨_,iK (notN n4 w4) g4,.nil⟩
 refine⟨pl,rfl,⟨_,SqL.of (S02 _ _ ep)⟩,jV (xs:=pat.map oV) (fun i σ H3=>X2 fun o6 o7=>Y4 (σ=[some (.int m),some (.ref pl),some (.ref il),some (.ref tl),some (.ref wl),some (.int ((cN (pat.take i):Nat):Int)),o6,o7]) (gB H H3) (H3 tl=some (.lst ((txF (pat.take i) ts).map V.str))) (PaS H3 (tl::wl::M) wl m ts (cN (pat.take i)) 2)) ⟨_,_,rfl,S02,et2,P0⟩ (fun i σ H3 _ ⟨_,_,_,S,_,_⟩=>SqL.of (S _ _ ep)) ?_ ?_⟩
 ·rintro i v σ H3 hv ⟨o6,o7,rfl,S3,e3,P3⟩;rw[aO]at hv;obtain⟨o,ho,rfl⟩:=dB.mp hv;have hil:=(au.mp ho).1;have tk:pat.take (i+ 1)=pat.take i++[o]:=by rw[cb,ho];rfl
  have ck:cN pat=cN (pat.take (i+ 1))+cN (pat.drop (i+ 1)):=by rw[<-qJ,b6]
  have lt:=vw (pat.take i) ts;rw[aK]at lt;rw[tk,qJ]at ck;have uw:∀{z:HO},(upd H3 tl z) wl=H3 wl:=gr ntw.symm;have ft:∀{z:HO},Fr (tl::wl::M) H3 (upd H3 tl z):=kO.le (fun a ha=>by rw[bj.mp ha];exact ah)
  cases o with
  |some w=>
   refine⟨_,rfl,?_⟩;dsimp only;rw[iw (show oV (some w)≠ .non from fun z=>nomatch z)];refine iV ⟨⟨_,e3⟩,_,e3,by rw[aE];lia,?_⟩;have hk:cN (pat.take i)<=ts.length:=by lia
   refine⟨_,_,by rw[tk,qJ];rfl,hI S3 htl _,?_,?_⟩;·rw[fY,tk,vq hk,bo];rfl
   ·rw[tk,qJ];exact P3.fr ft uw
  |none=>
   have hk:cN (pat.take i)<ts.length:=by have:cN [none]=1:=rfl;lia
   obtain⟨t,ht'⟩:∃t,ts[cN (pat.take i)]?=some t:=⟨_,bB hk⟩;have tks:ts.take (cN (pat.take i)+ 1)=ts.take (cN (pat.take i))++[t]:=by rw[cb,ht'];rfl
   obtain⟨x,hxk,hX⟩:=(hx.same (mN S3)).at ht';obtain⟨ai,vi,B,rfl,eai,_,hB⟩:=hX;have eai3:=gT _ _ eai;refine⟨_,rfl,?_⟩;dsimp only;rw[hV (show oV none= .non from rfl)];refine jl ⟨⟨_,e3⟩,_,S3 _ _ ei,gk (gj hxk) ⟨_,eai3,gk (gj (j:=0) rfl) ⟨_,e3,by rw[aE];lia,?_⟩⟩⟩;have S4:=hI S3 htl (.lst ((txF (pat.take i) ts).map V.str++[.str t.tx]));have e4:(upd H3 tl (.lst ((txF (pat.take i) ts).map V.str++[.str t.tx]))) tl=some (.lst ((txF (pat.take (i+ 1)) ts).map V.str)):=by rw[fY,tk,vt ht',bo];rfl
   have P4:=P3.fr (ft (z:= .lst ((txF (pat.take i) ts).map V.str++[.str t.tx]))) uw;have F4:=(ft (z:= .lst ((txF (pat.take i) ts).map V.str++[.str t.tx]))).mask;dsimp only;generalize upd H3 tl (.lst ((txF (pat.take i) ts).map V.str++[.str t.tx]))=H4 at S4 e4 P4 F4⊢;refine⟨n8,fun lp hlp=>⟨lp,rfl,⟨_,SqL.of fY⟩,?_⟩⟩;have S5:=gb hlp (.lst [.int 2,.int 3,.int 4]);have F5:gB (mask H3 (tl::wl::M)) (mask (upd H4 lp (.lst [.int 2,.int 3,.int 4])) (tl::wl::M)):=fun b u e=>gU S5 _ _ (F4 _ _ e);have wlp:wl≠lp:=by obtain⟨_,e,_⟩:=P4;exact gm e hlp
   have tlp:tl≠lp:=gm e4 hlp;refine jV (xs:=[.int 2,.int 3,.int 4]) (fun j σ H5=>∃o7,Y6 (σ=[some (.int m),some (.ref pl),some (.ref il),some (.ref tl),some (.ref wl),some (.int ((cN (pat.take i):Nat):Int)),some .non,o7]) (gB H H5) (H5 tl=some (.lst ((txF (pat.take (i+ 1)) ts).map V.str))) (H5 lp=some (.lst [.int 2,.int 3,.int 4])) (gB (mask H3 (tl::wl::M)) (mask H5 (tl::wl::M))) (PaS H5 (tl::wl::M) wl m ts (cN (pat.take i)) (j+ 2))) ⟨_,rfl,S4.trans S5,S5 _ _ e4,fY,F5,P4.fr (Fr.same S5) (gr wlp)⟩ (fun j σ H5 _ ⟨_,_,_,_,e,_,_⟩=>SqL.of e) ?_ ?_
   ·rintro j v σ H5 hv ⟨o7,rfl,S5,e5,el5,F5,A5,ew5,hp5⟩;have hj:j<3:=(au.mp hv).1;obtain⟨rfl,at1,at2,ix,st⟩:v= .int ((j+ 2:Nat):Int)/\atI [V.str "",.non,.ref (A5 2),.ref (A5 3),.ref (A5 4)] ((j+ 2:Nat):Int)=some (.ref (A5 (j+ 2)))/\atI [V.str t.tx,vi,.ref (B 2),.ref (B 3),.ref (B 4)] ((j+ 2:Nat):Int)=some (.ref (B (j+ 2)))/\ixN 5 ((j+ 2:Nat):Int)=some (j+ 2)/\∀z:Zx,([V.str "",.non,.ref (A5 2),.ref (A5 3),.ref (A5 4)]).set (j+ 2) (.ref z)=[.str "",.non,.ref (if 2=j+ 2 then z else A5 2),.ref (if 3=j+ 2 then z else A5 3),.ref (if 4=j+ 2 then z else A5 4)]:=by
     match j,hj,hv with
     |0,_,hv=>cases hv;exact⟨rfl,rfl,rfl,rfl,fun z=>rfl⟩
     |1,_,hv=>cases hv;exact⟨rfl,rfl,rfl,rfl,fun z=>rfl⟩
     |2,_,hv=>cases hv;exact⟨rfl,rfl,rfl,rfl,fun z=>rfl⟩
    obtain⟨us,eu,iu⟩:=hp5 (j+ 2) (by lia) (by lia);obtain⟨zs,ez,iz⟩:=hB (j+ 2) (by lia) (by lia);rw[gJ (by lia:¬j+ 2<j+ 2)]at iu;have lu:=iu.length;have lz:=iz.length;have b1:=zj m (j+ 2) (ts.take (cN (pat.take i)));have b2:=HZ (j+ 2) t;have b3:(msX (ts.take (cN (pat.take i)))).length+t.ms.length<=(msX ts).length:=by
     conv=>rhs;rw[<-b6 (cN (pat.take i)+ 1) ts,mC,tks,mC,msX,msX,aF,aQ,aQ]
     lia
    refine⟨_,ew5,gk at1 ⟨_,S5 _ _ ei,gk (gj hxk) ⟨_,gT _ _ (F5 _ _ eai),gk at2 ⟨_,_,_,_,rfl,rfl,gT _ _ eu,gT _ _ (F5 _ _ ez),by lia,fun p hp'=>?_⟩⟩⟩⟩;have S6:=gb hp' (.lst (us++zs));have np:p∉tl::wl::M:=fun z=>by
     rcases ak.mp z with z|z;·rw[z,e5]at hp';cases hp'
     ·rcases ak.mp z with z|z;·rw[z,ew5]at hp';cases hp'
      ·exact Ah hM (S5.free hp') z
    refine⟨wl,_,_,_,rfl,rfl,S6 _ _ ew5,ix,?_⟩;rw[st];have F7:Fr (tl::wl::M) (upd H5 p (.lst (us++zs))) (upd (upd H5 p (.lst (us++zs))) wl (.lst [.str "",.non,.ref (if 2=j+ 2 then p else A5 2),.ref (if 3=j+ 2 then p else A5 3),.ref (if 4=j+ 2 then p else A5 4)])):=kO.le (fun a ha=>by rw[bj.mp ha];exact aj _ ah);have F67:gB (mask H5 (tl::wl::M)) (mask (upd (upd H5 p (.lst (us++zs))) wl (.lst [.str "",.non,.ref (if 2=j+ 2 then p else A5 2),.ref (if 3=j+ 2 then p else A5 3),.ref (if 4=j+ 2 then p else A5 4)])) (tl::wl::M)):=fun b u e=>F7.mask _ _ (gU S6 _ _ e);refine⟨_,rfl,hI (S5.trans S6) hwl0 _,by rw[gr ntw];exact S6 _ _ e5,by rw[gr wlp.symm];exact S6 _ _ el5,fun b u e=>F67 _ _ (F5 _ _ e),fun i=>if i=j+ 2 then p else A5 i,fY,fun i' i2 i5=>?_⟩;dsimp only;by_cases z:i'=j+ 2;·rw[gY z,gY (by lia:i'<j+ 1+ 2),z,tks,FV];exact⟨_,F7.mask _ _ (iK np fY),(iu.mono (gB.tk F67)).app (iz.mono (gB.tk fun b u e=>F67 _ _ (F5 _ _ e)))⟩
    ·rw[gJ z];obtain⟨ys,e,ii⟩:=hp5 i' i2 i5;rw[show(if i'<j+ 1+ 2 then cN (pat.take i)+ 1 else cN (pat.take i))=if i'<j+ 2 then cN (pat.take i)+ 1 else cN (pat.take i) by split<;>split<;>lia];exact⟨ys,F67 _ _ e,ii.mono (gB.tk F67)⟩
   ·rintro σ H5 ⟨o7,rfl,S5,e5,_,F5,A5,ew5,hp5⟩;refine⟨_,_,by rw[tk,qJ];rfl,S5,e5,A5,ew5,fun j j2 j5=>?_⟩;obtain⟨ys,e,i⟩:=hp5 j j2 j5;rw[gY (show j<([V.int 2,V.int 3,V.int 4]).length+ 2 from j5)]at i;rw[gJ (by lia:¬j<2),tk,qJ];exact⟨ys,e,i⟩
 ·rintro σ H3 ⟨o6,o7,rfl,S3,e3,A3,ew3,hp3⟩;rw[aE,bw]at e3 hp3;have lt:=vw pat ts;have bt:=ye hp ht;have l1:=Ce bt;have l2:=zl (z:=" ") bt;have l3:(txF pat ts).length*100000<=40*100000:=dv _ (by lia);have l4:(txF pat ts).length*(100000+(" ":Str).length)<=40*100001:=by rw[show(" ":Str).length=1 by decide+kernel];exact dv _ (by lia)
  refine⟨rfl," ",tl,_,rfl,rfl,SqL.of e3,by rw[show(" ":Str).length=1 by decide+kernel];lia,?_⟩;refine⟨by rw[show("(":Str).length=1 by decide+kernel];lia,by rw[Str.length_append,show("(":Str).length=1 by decide+kernel,show(")":Str).length=1 by decide+kernel];lia,?_⟩;refine⟨wl,_,0,0,rfl,rfl,ew3,rfl,?_⟩;have F4:Fr (tl::wl::M) H3 (upd H3 wl (.lst [.str ("("++Str.join " " (txF pat ts)++")"),.non,.ref (A3 2),.ref (A3 3),.ref (A3 4)])):=kO.le (fun a ha=>by rw[bj.mp ha];exact aj _ ah);refine q wl _ (hI S3 hwl0 _) ⟨A3,hwl0,fY,fun j j2 j5=>?_⟩;obtain⟨ys,e,i⟩:=hp3 j j2 j5;rw[gJ (by lia:¬j<2),hc,bw]at i;have F5:gB (mask H3 (tl::wl::M)) (mask (upd H3 wl (.lst [.str ("("++Str.join " " (txF pat ts)++")"),.non,.ref (A3 2),.ref (A3 3),.ref (A3 4)])) (wl::M)):=fun b u e=>oS (fun a ha=>aj _ ha) _ _ (F4.mask _ _ e);exact⟨fun z=>(jz e).1 (by rw[z];exact aj _ ah),ys,F5 _ _ e,i.mono (gB.tk F5)⟩
theorem PtA.same {H0 H H':Hp} {M:List Zx} {a:Zx} {m:Int} {x:Str} {ts:List Xt} (h:PtA H0 H M a m x ts) (s:gB H H'):PtA H0 H' M a m x ts:=by obtain⟨A,h0,ea,hp⟩:=h;exact⟨A,h0,s _ _ ea,fun j j2 j5=>let⟨n,xs,e,i⟩:=hp j j2 j5;⟨n,xs,gU s _ _ e,i.mono (gB.tk (gU s))⟩⟩
theorem zm {H:Hp}:∀{ps:List Int} {xs:List V},Ims H xs (ps.map kD)->xs=ps.map V.int
 |[],xs,h=>by cases h;rfl
 |p::ps,xs,h=>by
  rw[aD,kD]at h
  cases h with
  |cons h t=>cases h;rw[zm t];rfl
inductive XVa (vs:List V) (H:Hp) (Q:VK):Prop
 |mk (H0:Hp) (M:List Zx) (a ml:Zx) (v:V) (m:Int) (x:Str) (ts:List Xt) (t:Xt) (mts:List (Int×Int×Int)) (zs:List V) (e:vs=[.ref a,v,.ref ml]) (S:gB H0 H) (hM:∀b∈M,∃o,H0 b=some o) (p:PtA H0 H M a m x ts) (u:Vl) (hu:t.val=some u) (iv:Im (mask H (a::M)) v u.d) (em:(mask H (a::M)) ml=some (.lst zs)) (im:Ims (mask H (a::M)) zs (mts.map meD)) (h1:t.tx=x) (h2:t.ms=m::msX ts) (h3:t.ha=haX ts++[(m,u.p)]) (h4:t.me=meX ts++mts) (hz:(msX ts).length<=1000) (hm:mts.length<=10) (q:∀H',gB H0 H'->XtA (mask H' M) (.ref a) t->Q (.ref a) H')
def tq:Sp:=fun vs H Q _=>XVa vs H Q
theorem jO (T:Txt K mg):FO P w base 1 T.d33 tq:=by
 refine T.d33.F.rd sS fun _ A _ s H vs Q E hr h=>?_;obtain⟨H0,M,a,ml,v,m,x,ts,t,mts,zs,rfl,S,hM,⟨A,h0,ea,hp⟩,u,hu,iv,em,im,h1,h2,h3,h4,hz,hm,q⟩:=h;refine⟨_,(fW (rF (cv 1) (rE (cv 0) fZ lY))
  (fW (rF (ic qA (gx gC (cv 0) fZ) (gR (fV (ik (fV (gx gC (gx gC (cv 0) fZ) fZ) (fV (gx gE (cv 1) (vF qw fZ)) fX))) fX))) (rE (cv 0) fZ lY))
  (fW (rF (ic qA (gx gC (cv 0) fZ) (cv 2)) (rE (cv 0) fZ lY))
  (gh (gH (cv 0)))))),?_⟩;have sl:=sizeLine_eq;obtain⟨n2,x2,e2,i2⟩:=hp 2 (by decide) (by decide);obtain⟨n3,x3,e3,i3⟩:=hp 3 (by decide) (by decide);obtain⟨n4,x4,e4,i4⟩:=hp 4 (by decide) (by decide);have l3:=i3.length;have l4:=i4.length;have l5:=im.length;rw[aE]at l5;have b3:=zj m 3 ts;have b4:=zj m 4 ts;have hx2:x2=(m::msX ts).map V.int:=zm i2;subst hx2;obtain⟨tv,y,rfl,ev,_⟩:=sJ iv;refine⟨a,_,1,1,rfl,rfl,ea,rfl,?_⟩;have F1:Fr (a::M) H (upd H a (.lst [.str x,.ref tv,.ref (A 2),.ref (A 3),.ref (A 4)])):=kO.le (fun b hb=>by rw[bj.mp hb];exact ah);have ea1:(upd H a (.lst [.str x,.ref tv,.ref (A 2),.ref (A 3),.ref (A 4)])) a=some (.lst [.str x,.ref tv,.ref (A 2),.ref (A 3),.ref (A 4)]):=fY;have S1:gB H0 (upd H a (.lst [.str x,.ref tv,.ref (A 2),.ref (A 3),.ref (A 4)])):=hI S h0 _;show Cv _ _ _ [some (.ref a),some (.ref tv),some (.ref ml)] (upd H a (.lst [.str x,.ref tv,.ref (A 2),.ref (A 3),.ref (A 4)]));generalize upd H a (.lst [.str x,.ref tv,.ref (A 2),.ref (A 3),.ref (A 4)])=H1 at F1 ea1 S1⊢;have K1:=F1.mask;refine⟨_,ea1,gk (gj (j:=3) rfl) ⟨_,ea1,gk (gj (j:=2) rfl) ⟨_,gT _ _ (K1 _ _ e2),gk (gj (j:=0) rfl) ⟨_,rfl,_,gT _ _ (K1 _ _ ev),gk (by rfl) ⟨oT,fun t2 k2=>⟨rp,fun lt k3=>?_⟩⟩⟩⟩⟩⟩;have S2:=gb k2 (.tup [.int m,.int u.p]);have S3:=gb k3 (.lst [.ref t2]);have S23:=S2.trans S3;have K2:gB (mask H (a::M)) (mask (upd (upd H1 t2 (.tup [.int m,.int u.p])) lt (.lst [.ref t2])) (a::M)):=fun b u e=>gU S23 _ _ (K1 _ _ e);have nN:∀{H':Hp} {b:Zx},gB H0 H'->H' a=some (.lst [.str x,.ref tv,.ref (A 2),.ref (A 3),.ref (A 4)])->H' b=none->b∉a::M:=fun S' e' h z=>by
  rcases ak.mp z with z|z;·rw[z,e']at h;cases h
  ·exact Ah hM (S'.free h) z
 have et2:=iK (nN S1 ea1 k2) (S3 _ _ (fY (a:=t2) (o:= .tup [.int m,.int u.p])));refine⟨_,_,_,_,rfl,rfl,gT _ _ (K2 _ _ e3),fY,by show x3.length+ 1<=_;lia,fun p hp'=>?_⟩;have S4:=gb hp' (.lst (x3++[.ref t2]));have ea4:=(S23.trans S4) _ _ ea1;have np:=nN (S1.trans S23) (S23 _ _ ea1) hp';have ep:mask (upd (upd (upd H1 t2 (.tup [.int m,.int u.p])) lt (.lst [.ref t2])) p (.lst (x3++[.ref t2]))) (a::M) p=some (.lst (x3++[.ref t2])):=iK np fY;have K4:gB (mask H (a::M)) (mask (upd (upd (upd H1 t2 (.tup [.int m,.int u.p])) lt (.lst [.ref t2])) p (.lst (x3++[.ref t2]))) (a::M)):=fun b u e=>gU S4 _ _ (K2 _ _ e);have ip:Ims (mask (upd (upd (upd H1 t2 (.tup [.int m,.int u.p])) lt (.lst [.ref t2])) p (.lst (x3++[.ref t2]))) (a::M)) (x3++[.ref t2]) (qD 3 t):=by show Ims _ _ (t.ha.map haD);rw[h3,bo];exact(i3.mono (gB.tk K4)).app (.cons (.tup (gU S4 _ _ et2) (.cons (.flat rfl) (.cons (.flat rfl) .nil))) .nil)
 have S04:=S1.trans (S23.trans S4);dsimp only;generalize upd (upd (upd H1 t2 (.tup [.int m,.int u.p])) lt (.lst [.ref t2])) p (.lst (x3++[.ref t2]))=H4 at S04 K4 ea4 ep ip⊢;refine⟨a,_,3,3,rfl,rfl,ea4,rfl,?_⟩;have F5:Fr (a::M) H4 (upd H4 a (.lst [.str x,.ref tv,.ref (A 2),.ref p,.ref (A 4)])):=kO.le (fun b hb=>by rw[bj.mp hb];exact ah);have ea5:(upd H4 a (.lst [.str x,.ref tv,.ref (A 2),.ref p,.ref (A 4)])) a=some (.lst [.str x,.ref tv,.ref (A 2),.ref p,.ref (A 4)]):=fY;have S05:gB H0 (upd H4 a (.lst [.str x,.ref tv,.ref (A 2),.ref p,.ref (A 4)])):=hI S04 h0 _;show Cv _ _ _ [some (.ref a),some (.ref tv),some (.ref ml)] (upd H4 a (.lst [.str x,.ref tv,.ref (A 2),.ref p,.ref (A 4)]));generalize upd H4 a (.lst [.str x,.ref tv,.ref (A 2),.ref p,.ref (A 4)])=H5 at F5 ea5 S05⊢;have K5:gB (mask H (a::M)) (mask H5 (a::M)):=fun b u e=>F5.mask _ _ (K4 _ _ e);refine⟨_,ea5,gk (gj (j:=4) rfl) ⟨_,_,_,_,rfl,rfl,gT _ _ (K5 _ _ e4),gT _ _ (K5 _ _ em),by lia,fun r hr'=>?_⟩⟩;have S6:=gb hr' (.lst (x4++zs));have nr:r∉a::M:=fun z=>by
  rcases ak.mp z with z|z;·rw[z,ea5]at hr';cases hr'
  ·exact Ah hM (S05.free hr') z
 refine⟨a,_,4,4,rfl,rfl,S6 _ _ ea5,rfl,?_⟩;have F7:Fr (a::M) (upd H5 r (.lst (x4++zs))) (upd (upd H5 r (.lst (x4++zs))) a (.lst [.str x,.ref tv,.ref (A 2),.ref p,.ref r])):=kO.le (fun b hb=>by rw[bj.mp hb];exact ah);have K57:gB (mask H5 (a::M)) (mask (upd (upd H5 r (.lst (x4++zs))) a (.lst [.str x,.ref tv,.ref (A 2),.ref p,.ref r])) M):=fun b u e=>oS (fun c hc=>aj _ hc) _ _ (F7.mask _ _ (gU S6 _ _ e));have K7:gB (mask H (a::M)) (mask (upd (upd H5 r (.lst (x4++zs))) a (.lst [.str x,.ref tv,.ref (A 2),.ref p,.ref r])) M):=fun b u e=>K57 _ _ (K5 _ _ e);refine q _ (hI (S05.trans S6) h0 _) ⟨a,.ref tv,fun j=>if j=2 then A 2 else if j=3 then p else r,rfl,by rw[h1];exact iK (Ah hM h0) fY,by rw[hu];exact iv.mono (gB.tk K7),fun j j2 j5=>?_⟩;obtain rfl|rfl|rfl:j=2\/j=3\/j=4:=by lia
 ·exact⟨_,K7 _ _ e2,by show Ims _ _ (t.ms.map kD);rw[h2];exact i2.mono (gB.tk K7)⟩
 ·exact⟨_,K57 _ _ (F5.mask _ _ ep),ip.mono (gB.tk fun b u e=>K57 _ _ (F5.mask _ _ e))⟩
 ·exact⟨_,oS (fun c hc=>aj _ hc) _ _ (F7.mask _ _ (iK nr fY)),by show Ims _ _ (t.me.map meD);rw[h4,bo];exact(i4.mono (gB.tk K7)).app (im.mono (gB.tk K7))⟩
theorem yf {t u:TS} {D:rA} {σ:St} {H:Hp} (N:St->Hp->Prop) (h:∀nx:St->Hp->Prop,(∀σ' H',N σ' H'->nx σ' H')->t {D with nx:=nx} σ H) (k:∀σ' H',N σ' H'->u D σ' H'):Cv t u D σ H:=h _ k
theorem yg:∀ts:List Xt,txF (aI ts.length none) ts=txX ts
 |[]=>by rw[txX];rfl
 |t::ts=>by rw[txX,aB,bR,<-yg ts];rfl
theorem Ei:∀n:Nat,cN (aI n none)=n
 |0=>rfl
 |n+ 1=>by rw[bR,cN,Ei n]
def Cy (κ:Kx) (n:Nat):List (Option Str):=(match κ with| .op o=>some o|_=>some "row")::aI n none
theorem FW {m:Int} {κ:Kx} {ts:List Xt} (h:κ= .row\/∃o,κ= .op o):"("++Str.join " " (txF (Cy κ ts.length) ts)++")"=(Xt.mk m κ ts).tx:=by
 rw[Xt.tx];rcases h with rfl|⟨o,rfl⟩;·show "("++Str.join " " ("row"::txF (aI ts.length none) ts)++")"=_;rw[yg];rfl
 ·show "("++Str.join " " (o::txF (aI ts.length none) ts)++")"=_;rw[yg];rfl
theorem qK {m:Int} {κ:Kx} {ts:List Xt} {us:List Vl} (h:ko ts=some us):(Xt.mk m κ ts).val=κ.v m us/\(Xt.mk m κ ts).me=meX ts++κ.m m us:=by rw[Xt.val,Xt.me,h];exact⟨rfl,rfl⟩
theorem FX {m:Int} {κ:Kx} {ts:List Xt}:(Xt.mk m κ ts).ha=haX ts++haO m (Xt.mk m κ ts).val:=by rw[Xt.ha]
theorem nH {m:Int} {κ:Kx} {ts:List Xt}:(Xt.mk m κ ts).ms=m::msX ts:=by rw[Xt.ms]
theorem JT {a:Xt} {v:Vl} (h:a.val=some v):ko [a]=some [v]:=by rw[ko,ko,h]
theorem Ie {a b:Xt} {v u:Vl} (h:a.val=some v) (k:b.val=some u):ko [a,b]=some [v,u]:=by rw[ko,JT k,h]
theorem val3 {a b c:Xt} {v u x:Vl} (h:a.val=some v) (k:b.val=some u) (l:c.val=some x):ko [a,b,c]=some [v,u,x]:=by rw[ko,Ie k l,h]
theorem ms1 (a:Xt):(msX [a]).length=a.ms.length:=by rw[msX,msX,aF]
theorem ms2 (a b:Xt):(msX [a,b]).length=a.ms.length+b.ms.length:=by rw[msX,aQ,ms1]
theorem ms3 (a b c:Xt):(msX [a,b,c]).length=a.ms.length+(b.ms.length+c.ms.length):=by rw[msX,aQ,ms2]
section
variable {H5 H6 H7:Hp} {M:List Zx} {wl:Zx} {m:Int} {x:Str} {ts:List Xt}
theorem nwO {c:Zx} {u:HO} (pt:PtA H5 H7 M wl m x ts) (S:gB H5 H7) (e:H5 c=some u) (nM:c∉M):mask H7 (wl::M) c=some u:=by obtain⟨A,h0,_,_⟩:=pt;exact iK (fun z=>by rcases ak.mp z with z|z;rw[z,h0]at e;cases e;exact nM z) (S _ _ e)
theorem nwN {c:Zx} {u:HO} (hM:∀b∈M,∃o,H5 b=some o) (pt:PtA H5 H6 M wl m x ts) (S:gB H5 H6) (h:H6 c=none) (e:H7 c=some u):mask H7 (wl::M) c=some u:=by obtain⟨A,_,ea,_⟩:=pt;exact iK (fun z=>by rcases ak.mp z with z|z;rw[z,ea]at h;cases h;exact Ah hM (S.free h) z) e
theorem pM {ml:Zx} {v:V} {κ:Kx} {us:List Vl} {u:Vl} {zs:List V} {Q:VK} (hM:∀b∈M,∃o,H5 b=some o) (S:gB H5 H7) (pt:PtA H5 H7 M wl m ("("++Str.join " " (txF (Cy κ ts.length) ts)++")") ts) (hκ:κ= .row\/∃o,κ= .op o) (hv:ko ts=some us) (hu:κ.v m us=some u) (iv:Im (mask H7 (wl::M)) v u.d) (em:mask H7 (wl::M) ml=some (.lst zs)) (im:Ims (mask H7 (wl::M)) zs ((κ.m m us).map meD)) (hz:(msX ts).length<=1000) (hl:(κ.m m us).length<=10) (q:∀H',gB H5 H'->XtA (mask H' M) (.ref wl) (.mk m κ ts)->Q (.ref wl) H'):XVa [.ref wl,v,.ref ml] H7 Q:=by obtain⟨n1,n2⟩:=qK (m:=m) (κ:=κ) hv;exact⟨H5,M,wl,ml,v,m,_,ts,.mk m κ ts,_,zs,rfl,S,hM,pt,u,n1.trans hu,iv,em,im,(FW hκ).symm,nH,by rw[FX,n1,hu];rfl,n2,hz,hl,q⟩
end
inductive XSu (vs:List V) (H:Hp) (Q:VK):Prop
 |mk (M:List Zx) (fr:Zx) (n:Nat) (o:Str) (xa xb:V) (a b:Xt) (na pa nb pb:Int) (e:vs=[.ref fr,.str o,xa,xb]) (hM:∀b∈M,∃o,H b=some o) (hf:fr∈M) (ef:Fh H fr n) (hn:n<=1000) (ho:o="sub") (ha:XtA (mask H M) xa a) (hb:XtA (mask H M) xb b) (va:a.val=some (.num na pa)) (vb:b.val=some (.num nb pb)) (hz:a.ms.length+b.ms.length<=1000) (ht:a.tx.length<=100000/\b.tx.length<=100000) (q:∀x H',Fr [fr] H H'->Fh H' fr (n+ 1)->XtA (mask H' M) x (.mk ((n+ 1:Nat):Int) (.op o) [a,b])->Q x H')
def yh:Sp:=fun vs H Q _=>XSu vs H Q
theorem XtA.num {H:Hp} {x:V} {t:Xt} {n p:Int} (h:XtA H x t) (hv:t.val=some (.num n p)):∃(a tv:Zx) (r:List V),x= .ref a/\H a=some (.lst (.str t.tx:: .ref tv::r))/\H tv=some (.tup [.str "num",.int n,.int p]):=by obtain⟨a,v,A,rfl,ea,iv,_⟩:=h;rw[hv]at iv;obtain⟨tv,rfl,e⟩:=zd (show Im H v (Vl.num n p).d from iv);exact⟨a,tv,_,rfl,ea,e⟩
theorem yi (T:Txt K mg):FO P w base 2 T.d34 yh:=by
 refine T.d34.F.rd lq fun _ A _ s H vs Q E hr h=>?_;obtain⟨M,fr,n,o,xa,xb,a,b,na,pa,nb,pb,rfl,hM,hf,ef,hn,ho,ha,hb,va,vb,hz,ht,q⟩:=h;refine⟨_,(fW (pS (i:=4) lq.nd (pF T.d29 (jt T) hr.m (fV (cv 0) fX)))
  (fW (pS (i:=5) lq.nd (ic qE (gx gE (gx gC (cv 2) fZ) fZ) (gx gE (gx gC (cv 3) fZ) fZ)))
  (fW (ij (gN lU (cv 1) gu)
   (gh (pS (i:=5) lq.nd (ic rR (gx gE (gx gC (cv 2) fZ) fZ) (gx gE (gx gC (cv 3) fZ) fZ))))
   gL)
  (fW (pS (i:=6) lq.nd (gR (fV (ik (fV (gx gE (gx gC (cv 2) fZ) fZ) (fV (cv 4) (fV fZ fX)))) (fV (ik (fV (gx gE (gx gC (cv 3) fZ) fZ) (fV (cv 4) (fV fZ fX)))) fX))))
  (gh (gH (pF T.d33 (jO T) hr.m (fV (pF T.d32 (kH T) hr.m (fV (cv 4) (fV (gR (fV (cv 1) (fV kK (fV kK fX)))) (fV (gR (fV (cv 2) (fV (cv 3) fX))) fX)))) (fV (ik (fV gu (fV (cv 5) (fV (cv 4) fX)))) (fV (cv 6) fX)))))))))),?_⟩;refine⟨fr,n,rfl,ef,hn,?_⟩;have ef1:Fh (upd H fr (.lst (aI (n+ 1) .non))) fr (n+ 1):=fY;have F1:Fr [fr] H (upd H fr (.lst (aI (n+ 1) .non))):=kO;have hM1:=kJ (a:=fr) (o:= .lst (aI (n+ 1) .non)) hM;have K1:=Fr.mask (F1.le (N:=M) (fun a ha=>by rw[bj.mp ha];exact hf));replace ha:=ha.same K1;replace hb:=hb.same K1;dsimp only[hJ];generalize upd H fr (.lst (aI (n+ 1) .non))=H1 at ef1 F1 hM1 ha hb⊢;obtain⟨ia,ta,ra,rfl,eia,eta⟩:=(ha.same gT).num va;obtain⟨ib,tb,rb,rfl,eib,etb⟩:=(hb.same gT).num vb;refine⟨_,eia,gk (gj (j:=1) rfl) ⟨_,eta,gk (gj (j:=1) rfl) ⟨_,eib,gk (gj (j:=1) rfl) ⟨_,etb,gk (gj (j:=1) rfl) ?_⟩⟩⟩⟩;dsimp only[cI0,hJ];refine yf (fun σ' H'=>σ'=[some (.ref fr),some (.str o),some (.ref ia),some (.ref ib),some (.int ((n+ 1:Nat):Int)),some (.int (na-nb)),none]/\H'=H1) ?_ ?_;·intro nx hnx;show(if(false ^^ decide (o="sub"))=true then _ else _);rw[fo,hV ho];exact jl ⟨_,eia,gk (gj (j:=1) rfl) ⟨_,eta,gk (gj (j:=1) rfl) ⟨_,eib,gk (gj (j:=1) rfl) ⟨_,etb,gk (gj (j:=1) rfl) (hnx _ _ ⟨rfl,rfl⟩)⟩⟩⟩⟩
 rintro _ H1' ⟨rfl,eH⟩;cases eH;refine⟨_,eia,gk (gj (j:=1) rfl) ⟨_,eta,gk (gj (j:=2) rfl) ⟨n8,fun t1 k1=>?_⟩⟩⟩;have S1:=gb k1 (.tup [.int pa,.int ((n+ 1:Nat):Int),.int 0]);refine⟨_,S1 _ _ eib,gk (gj (j:=1) rfl) ⟨_,S1 _ _ etb,gk (gj (j:=2) rfl) ⟨n8,fun t2 k2=>⟨oT,fun ml k3=>?_⟩⟩⟩⟩;have S2:=gb k2 (.tup [.int pb,.int ((n+ 1:Nat):Int),.int 1]);have S3:=gb k3 (.lst [.ref t1,.ref t2]);have g1:=(S2.trans S3) _ _ (fY (a:=t1) (o:= .tup [.int pa,.int ((n+ 1:Nat):Int),.int 0]));have g2:=S3 _ _ (fY (a:=t2) (o:= .tup [.int pb,.int ((n+ 1:Nat):Int),.int 1]));have g3:=fY (H:=upd (upd H1 t1 (.tup [.int pa,.int ((n+ 1:Nat):Int),.int 0])) t2 (.tup [.int pb,.int ((n+ 1:Nat):Int),.int 1])) (a:=ml) (o:= .lst [.ref t1,.ref t2]);have S13:=(S1.trans S2).trans S3;have n2:=S1.free k2;have n3:=(S1.trans S2).free k3;dsimp only[hJ];generalize upd (upd (upd H1 t1 (.tup [.int pa,.int ((n+ 1:Nat):Int),.int 0])) t2 (.tup [.int pb,.int ((n+ 1:Nat):Int),.int 1])) ml (.lst [.ref t1,.ref t2])=H3 at g1 g2 g3 S13⊢;refine⟨n8,fun pl k4=>⟨oT,fun il k5=>?_⟩⟩;have S4:=gb k4 (.lst [.str o,.non,.non]);have S5:=gb k5 (.lst [.ref ia,.ref ib]);have g4:=S5 _ _ (fY (a:=pl) (o:= .lst [.str o,.non,.non]));have g5:=fY (H:=upd H3 pl (.lst [.str o,.non,.non])) (a:=il) (o:= .lst [.ref ia,.ref ib]);have S15:=S13.trans (S4.trans S5);have S35:=S4.trans S5;dsimp only;generalize upd (upd H3 pl (.lst [.str o,.non,.non])) il (.lst [.ref ia,.ref ib])=H5 at g4 g5 S15 S35⊢;have hM5:∀b∈M,∃o,H5 b=some o:=fun b hb=>let⟨u,e⟩:=hM1 b hb;⟨u,S15 _ _ e⟩;have nM:∀{b:Zx},H1 b=none->b∉M:=fun h=>Ah hM1 h;refine⟨M,((n+ 1:Nat):Int),pl,il,Cy (.op o) [a,b].length,_,[a,b],rfl,hM5,g4,g5,.cons (ha.same (gU S15)) (.cons (hb.same (gU S15)) .nil),rfl,by show 3<=40;decide,?_,fun w hw=>?_,fun t ht'=>?_,fun wl H6 S6 pt=>?_⟩;·rw[ms2];exact hz
 ·have hw:some w∈([some o,none,none]:List (Option Str)):=hw;simp only[ak,dw.injEq,bD,or_false,reduceCtorEq]at hw;rw[hw,ho];decide+kernel
 ·rcases ak.mp ht' with rfl|ht';·exact ht.1
  ·rw[bj.mp ht'];exact ht.2
 refine⟨n8,fun tv k7=>?_⟩;have S7:=gb k7 (.tup [.str "num",.int (na-nb),.int ((n+ 1:Nat):Int)]);have S67:=S6.trans S7;have pt7:=pt.same S7;have V:XVa [.ref wl,.ref tv,.ref ml] (upd H6 tv (.tup [.str "num",.int (na-nb),.int ((n+ 1:Nat):Int)])) Q:=pM (κ:= .op o) (u:= .num (na-nb) ((n+ 1:Nat):Int)) hM5 S67 pt7 (.inr ⟨_,rfl⟩) (Ie va vb) (by rw[ho];rfl) (.tup (nwN hM5 pt S6 k7 fY) (.cons (.flat rfl) (.cons (.flat rfl) (.cons (.flat rfl) .nil)))) (nwO pt7 S67 (S35 _ _ g3) (nM n3)) (by rw[ho];exact .cons (.tup (nwO pt7 S67 (S35 _ _ g1) (nM k1)) (.cons (.flat rfl) (.cons (.flat rfl) (.cons (.flat rfl) .nil)))) (.cons (.tup (nwO pt7 S67 (S35 _ _ g2) (nM n2)) (.cons (.flat rfl) (.cons (.flat rfl) (.cons (.flat rfl) .nil)))) .nil)) (by rw[ms2];exact hz) (by rw[ho];show 2<=10;decide) fun H8 S8 x=>q _ _ ((F1.trans (Fr.same S15)).trans (Fr.same S8)) (S8 _ _ (S15 _ _ ef1)) x;exact V
open GR.Internal (isName)
structure Tg (ws:Zd) (vs:List Vl) (t:Xt) (lo hi:Nat):Prop where
 ok:t.ok ws vs
 nv:isN t.val
 nd:t.ms.Nodup
 rg:∀m∈t.ms,(lo:Int)<m/\m<=(hi:Int)
 ns:t.tr.nest<=3
 l:t.ms.length<=hi-lo
theorem jj (m:Int) (κ:Kx) (ks:List Xt):(Xt.mk m κ ks).tr.nest=1+TM.Internal.nests (trX ks):=by rw[Xt.tr,TM.Internal.Tr.nest]
theorem iC (t:Xt) (ts:List Xt):TM.Internal.nests (trX (t::ts))=max t.tr.nest (TM.Internal.nests (trX ts)):=by rw[trX,TM.Internal.nests]
theorem iL:TM.Internal.nests (trX [])=0:=by rw[trX,TM.Internal.nests]
theorem FY {ws:Zd} {vs:List Vl} {κ:Kx} {lo:Nat} (ok:κ.ok ws vs []) (nv:isN (κ.v ((lo+ 1:Nat):Int) [])):Tg ws vs (.mk ((lo+ 1:Nat):Int) κ []) lo (lo+ 1):=by
 refine⟨by rw[Xt.ok,okL];exact⟨ok,trivial⟩,by rw[pL];exact nv,?_,fun m hm=>?_,?_,?_⟩;·rw[kn];exact aG.mpr ⟨(fun z=>nomatch z),cg⟩
 ·rw[kn]at hm;rw[bj.mp hm];lia
 ·rw[jj,iL];decide
 ·rw[kn,bc];lia
theorem zo {ws:Zd} {vs:List Vl} {c:Int} (h:0<=c/\c<10^60):(Kx.num c).ok ws vs []:=⟨rfl,h⟩
theorem Ai {ws:Zd} {vs:List Vl} (hw:∀w∈ws,isName w=true) {t:Xt} (ok:t.ok ws vs) (hl:t.ms.length<=1000):t.tx.length<=100000:=by have:=(t.gt hw ok).1.l;lia
theorem Cf {m:Int} {w:Str} {k:Nat} {v:Vl} (h:w.length<=12):(Xt.mk m (.nam w k v) []).tx.length<=100000:=by rw[DD];exact cH h (by decide)
theorem pO {H H':Hp} {M:List Zx} {fr:Zx} {n:Nat} (hM:∀b∈M,∃o,H b=some o) (F:Fr [fr] H H') (f:Fh H' fr n):∀b∈M,∃o,H' b=some o:=fun b hb=>by
 by_cases z:b=fr;·rw[z];exact⟨_,f⟩
 ·obtain⟨u,e⟩:=hM b hb;exact⟨u,F _ _ e (fun y=>z (bj.mp y))⟩
theorem nR {H H':Hp} {M:List Zx} {fr:Zx} (F:Fr [fr] H H') (hf:fr∈M):gB (mask H M) (mask H' M):=(F.le (N:=M) (fun a ha=>by rw[bj.mp ha];exact hf)).mask
structure Th (ws:Zd) (vs:List Vl) (M:List Zx) (fr:Zx) (n k:Nat) (w:Str) (v:V) (l:List (Int×Int)) (p:Int) (H:Hp):Prop where
 hM:∀b∈M,∃o,H b=some o
 hf:fr∈M
 ef:Fh H fr n
 hn:n<=900
 hw:∀w∈ws,isName w=true
 iv:Im (mask H M) v (Vl.row l p).d
 l6:l.length<=60
 wk:ws[k]?=some w
 vk:vs[k]?=some (.row l p)
inductive XSz (vs':List V) (H:Hp) (Q:VK):Prop
 |mk (ws:Zd) (vs:List Vl) (M:List Zx) (fr:Zx) (n k:Nat) (w:Str) (v:V) (l:List (Int×Int)) (p:Int) (e:vs'=[.ref fr,.str w,v]) (h:Th ws vs M fr n k w v l p H) (q:∀x H' t,Fr [fr] H H'->Fh H' fr (n+ 2)->XtA (mask H' M) x t->Tg ws vs t n (n+ 2)->Q x H')
def wN:Sp:=fun vs H Q _=>XSz vs H Q
theorem wO (T:Txt K mg):FO P w base 3 T.d42 wN:=by
 refine T.d42.F.rd nu fun _ A _ s H vs Q E hr h=>?_;obtain⟨ws,vs,M,fr,n,k,w,v,l,p,rfl,⟨hM,hf,ef,hn,hw,iv,l6,wk,vk⟩,q⟩:=h;refine⟨_,(fW (pS (i:=3) nu.nd (pF T.d29 (jt T) hr.m (fV (cv 0) fX)))
  (fW (pS (i:=4) nu.nd (pF T.d32 (kH T) hr.m (fV (cv 3) (fV (gR (fV gu (fV kK fX))) (fV (gR (fV (pF T.d31 (mD T) hr.m (fV (cv 0) (fV (cv 1) (fV (cv 2) fX)))) fX)) fX)))))
  (gh (gH (pF T.d33 (jO T) hr.m (fV (cv 4) (fV (ik (fV gu (fV (gG gA rfl T.z_len iH (fV (gx gE (cv 2) fZ) fX)) (fV (cv 3) fX)))) (fV (gR (fV (ik (fV (gx gE (cv 2) fZ) (fV (cv 3) (fV fZ fX)))) fX)) fX)))))))),?_⟩;refine⟨fr,n,rfl,ef,by lia,?_⟩;have ef1:Fh (upd H fr (.lst (aI (n+ 1) .non))) fr (n+ 1):=fY;have F1:Fr [fr] H (upd H fr (.lst (aI (n+ 1) .non))):=kO;have hM1:=kJ (a:=fr) (o:= .lst (aI (n+ 1) .non)) hM;replace iv:=iv.mono (gB.tk (nR F1 hf));dsimp only[hJ];generalize upd H fr (.lst (aI (n+ 1) .non))=H1 at ef1 F1 hM1 iv⊢;refine⟨oT,fun pl k4=>?_⟩;have S2:=gb k4 (.lst [.str "size",.non]);have g4:=fY (H:=H1) (a:=pl) (o:= .lst [.str "size",.non]);have hM2:=kJ (a:=pl) (o:= .lst [.str "size",.non]) hM1;have plf:pl≠fr:=(gm ef1 k4).symm;replace ef1:=S2 _ _ ef1;replace iv:=iv.mono (gB.tk (gU S2));replace F1:=F1.trans (Fr.same S2);dsimp only;generalize upd H1 pl (.lst [.str "size",.non])=H2 at g4 hM2 ef1 iv F1⊢;refine⟨M,fr,n+ 1,k,w,v,.row l p,rfl,hM2,hf,ef1,by lia,iv,fun x H3 F3 f3 X3=>?_⟩;have hM3:=pO hM2 F3 f3;replace iv:=iv.mono (gB.tk (nR F3 hf));replace g4:=F3 _ _ g4 (fun z=>plf (bj.mp z));replace F1:=F1.trans F3;refine⟨rp,fun il k5=>?_⟩;have S4:=gb k5 (.lst [x]);have g5:=fY (H:=H3) (a:=il) (o:= .lst [x]);replace g4:=S4 _ _ g4;replace f3:=S4 _ _ f3;replace X3:=X3.same (gU S4);replace iv:=iv.mono (gB.tk (gU S4));have hM4:=kJ (a:=il) (o:= .lst [x]) hM3;replace F1:=F1.trans (Fr.same S4);dsimp only;generalize upd H3 il (.lst [x])=H4 at g4 g5 f3 X3 iv hM4 F1⊢;have w12:=(nP (hw w (aP wk))).2;refine⟨M,((n+ 1:Nat):Int),pl,il,Cy (.op "size") [(.mk ((n+ 1+ 1:Nat):Int) (.nam w k (.row l p)) []:Xt)].length,_,[.mk ((n+ 1+ 1:Nat):Int) (.nam w k (.row l p)) []],rfl,hM4,g4,g5,.cons X3 .nil,rfl,by show 2<=40;decide,?_,fun w' hw'=>?_,fun t ht'=>?_,fun wl H6 S6 pt=>?_⟩;·rw[ms1,kn];exact du rfl
 ·have hw':some w'∈([some "size",none]:List (Option Str)):=hw';simp only[ak,dw.injEq,bD,or_false,reduceCtorEq]at hw';rw[hw'];decide+kernel
 ·rw[bj.mp ht'];exact Cf w12
 obtain⟨tr,ur,zr,rfl,etr,eur,ir⟩:=nZ (iv.mono (gB.tk gT));have lr:=ir.length;rw[aE]at lr;dsimp only[hJ];refine⟨_,S6 _ _ etr,gk (gj (j:=1) rfl) ⟨ur,_,rfl,.inr (SqT.of (S6 _ _ eur)),n8,fun tv k7=>?_⟩⟩;rw[lr];have S7:=gb k7 (.tup [.str "num",.int (l.length:Int),.int ((n+ 1:Nat):Int)]);have iv7:=fY (H:=H6) (a:=tv) (o:= .tup [.str "num",.int (l.length:Int),.int ((n+ 1:Nat):Int)]);refine⟨_,(S6.trans S7) _ _ etr,gk (gj (j:=2) rfl) ⟨n8,fun t1 k8=>⟨rp,fun ml k9=>?_⟩⟩⟩;have S8:=gb k8 (.tup [.int p,.int ((n+ 1:Nat):Int),.int 0]);have S9:=gb k9 (.lst [.ref t1]);have S69:=(S7.trans S8).trans S9;have e7:=(S8.trans S9) _ _ iv7;have e8:=S9 _ _ (fY (a:=t1) (o:= .tup [.int p,.int ((n+ 1:Nat):Int),.int 0]));have e9:=fY (H:=upd (upd H6 tv (.tup [.str "num",.int (l.length:Int),.int ((n+ 1:Nat):Int)])) t1 (.tup [.int p,.int ((n+ 1:Nat):Int),.int 0])) (a:=ml) (o:= .lst [.ref t1]);have m8:=S7.free k8;have m9:=(S7.trans S8).free k9;dsimp only;generalize upd (upd (upd H6 tv (.tup [.str "num",.int (l.length:Int),.int ((n+ 1:Nat):Int)])) t1 (.tup [.int p,.int ((n+ 1:Nat):Int),.int 0])) ml (.lst [.ref t1])=H9 at S69 e7 e8 e9⊢;have nv:(Xt.mk ((n+ 1+ 1:Nat):Int) (.nam w k (.row l p)) []).val=some (.row l p):=by rw[pL];rfl
 have V:XVa [.ref wl,.ref tv,.ref ml] H9 Q:=pM (κ:= .op "size") (u:= .num (l.length:Int) ((n+ 1:Nat):Int)) hM4 (S6.trans S69) (pt.same S69) (.inr ⟨_,rfl⟩) (JT nv) rfl (.tup (nwN hM4 pt S6 k7 e7) (.cons (.flat rfl) (.cons (.flat rfl) (.cons (.flat rfl) .nil)))) (nwN hM4 pt S6 m9 e9) (.cons (.tup (nwN hM4 pt S6 m8 e8) (.cons (.flat rfl) (.cons (.flat rfl) (.cons (.flat rfl) .nil)))) .nil) (by rw[ms1,kn];exact du rfl) (by show 1<=10;decide) fun H8 S8 x=>q _ _ _ (F1.trans (Fr.same S8)) (S8 _ _ f3) x ?_;·exact V
 refine⟨?_,?_,?_,fun m hm=>?_,?_,?_⟩;·rw[Xt.ok,okL,okL,Xt.ok,okL];exact⟨.inr (.inl ⟨rfl,_,by rw[aD,nv];rfl,_,_,rfl,l6⟩),⟨⟨rfl,wk,vk⟩,trivial⟩,trivial⟩
 ·rw[(qK (JT nv)).1];exact⟨_,_,rfl⟩
 ·rw[nH,msX,kn,msX];simp only[aF,aG,bj,bD,not_false_eq_true,cg,and_true];lia
 ·rw[nH,msX,kn,msX]at hm;simp only[aF,ak,bD,or_false]at hm;lia
 ·rw[jj,iC,iL,jj,iL];decide
 ·rw[nH,aB,ms1,kn,bc];lia
open GR.Internal (isName)
theorem DE (c:Int):0<=c%10^(60:Int).toNat/\c%10^(60:Int).toNat<10^60:=⟨fE _ gQ,fF _ gQ⟩
theorem p60:(0:Int)<10^(60:Int).toNat:=gQ
theorem zp {ws:Zd} {vs:List Vl} {lo:Nat} {c:Int} (h:0<=c/\c<10^60):Tg ws vs (.mk ((lo+ 1:Nat):Int) (.num c) []) lo (lo+ 1):=FY (zo h) ⟨_,_,rfl⟩
theorem nJ (m c:Int):(Xt.mk m (.num c) []).val=some (.num c m):=by rw[pL];rfl
theorem Ig {ws:Zd} {vs:List Vl} {lo:Nat} {c:Int} (h:0<=c/\c<10^60):Tg ws vs (.mk ((lo+ 1+ 1+ 1+ 1:Nat):Int) (.op "sub") [.mk ((lo+ 1+ 1:Nat):Int) (.num 1) [],.mk ((lo+ 1+ 1+ 1:Nat):Int) (.num c) []]) lo (lo+ 4)/\(Xt.mk ((lo+ 1+ 1+ 1+ 1:Nat):Int) (.op "sub") [.mk ((lo+ 1+ 1:Nat):Int) (.num 1) [],.mk ((lo+ 1+ 1+ 1:Nat):Int) (.num c) []]).val=some (.num (1-c) ((lo+ 1+ 1+ 1+ 1:Nat):Int)):=by
 have v1:=nJ ((lo+ 1+ 1:Nat):Int) 1;have v2:=nJ ((lo+ 1+ 1+ 1:Nat):Int) c;have hv:=(qK (m:=((lo+ 1+ 1+ 1+ 1:Nat):Int)) (κ:= .op "sub") (Ie v1 v2)).1;have ms:(Xt.mk ((lo+ 1+ 1+ 1+ 1:Nat):Int) (.op "sub") [.mk ((lo+ 1+ 1:Nat):Int) (.num 1) [],.mk ((lo+ 1+ 1+ 1:Nat):Int) (.num c) []]).ms=[((lo+ 1+ 1+ 1+ 1:Nat):Int),((lo+ 1+ 1:Nat):Int),((lo+ 1+ 1+ 1:Nat):Int)]:=by rw[nH,msX,msX,msX,kn,kn];rfl
 refine⟨⟨?_,by rw[hv];exact⟨_,_,rfl⟩,?_,fun m hm=>?_,?_,?_⟩,hv⟩;·rw[Xt.ok,okL,okL,okL,Xt.ok,okL,Xt.ok,okL];exact⟨.inl ⟨rfl,_,_,by rw[aD,aD,v1,v2];rfl,⟨_,_,rfl⟩,_,_,rfl⟩,⟨zo (by decide),trivial⟩,⟨zo h,trivial⟩,trivial⟩
 ·rw[ms];simp only[aG,ak,bD,or_false,not_or,not_false_eq_true,cg,and_true];lia
 ·rw[ms]at hm;simp only[ak,bD,or_false]at hm;lia
 ·rw[jj,iC,iC,iL,jj,jj,iL];decide
 ·rw[ms];show 3<=_;lia
inductive Spt (ws:Zd) (vs:List Vl) (M:List Zx) (fr:Zx) (n:Nat) (nn:Int) (H H':Hp) (x:V):Prop
 |mk (t:Xt) (hi:Nat) (p:Int) (F:Fr [fr] H H') (f:Fh H' fr hi) (X:XtA (mask H' M) x t) (g:Tg ws vs t n hi) (hv:t.val=some (.num nn p)) (h1:n+ 1<=hi) (h4:hi<=n+ 4) (ht:t.tr.nest<=2)
inductive XTa (vs':List V) (H:Hp) (Q:VK):Prop
 |mk (ws:Zd) (vs:List Vl) (M:List Zx) (fr:Zx) (n k:Nat) (w:Str) (v:V) (l:List (Int×Int)) (p c:Int) (e:vs'=[.ref fr,.str w,v,.int c]) (h:Th ws vs M fr n k w v l p H) (q:∀x H' t hi,Fr [fr] H H'->Fh H' fr hi->XtA (mask H' M) x t->Tg ws vs t n hi->n<hi->hi<=n+ 7->Q x H')
def qU:Sp:=fun vs H Q _=>XTa vs H Q
theorem qV (T:Txt K mg):FO P w base 3 T.d41 qU:=by
 have gD30:=n6 (P:=P) (w:=w) (base:=base) T;refine T.d41.F.rd ig fun _ A _ s H vs Q E hr h=>?_;obtain⟨ws,vs,M,fr,n,k,w,v,l,p,c,rfl,⟨hM,hf,ef,hn,hw,iv,l6,wk,vk⟩,q⟩:=h;refine⟨_,(fW (pS (i:=4) ig.nd (ic rR (ic lT (cv 3) (ic qE (gG gA rfl T.z_len iH (fV (gx gE (cv 2) fZ) fX)) fZ)) fZ))
  (fW (pS (i:=5) ig.nd (pF T.d30 gD30 hr.m (fV (cv 0) (fV (gG (vI rfl) rfl T.z_max D1 (fV (cv 4) (fV fZ fX))) fX))))
  (fW (ij (gN E4 (cv 4) fZ)
   (gh (pS (i:=5) ig.nd (pF T.d34 (yi T) hr.m (fV (cv 0) (fV gu (fV (pF T.d30 gD30 hr.m (fV (cv 0) (fV fZ fX))) (fV (pF T.d30 gD30 hr.m (fV (cv 0) (fV (ic rR fZ (cv 4)) fX))) fX)))))))
   gL)
  (fW (pS (i:=6) ig.nd (pF T.d30 gD30 hr.m (fV (cv 0) (fV (ic lT (ic lK (cv 3) fZ) (ic yJ fZ fZ)) fX))))
  (fW (pS (i:=7) ig.nd (pF T.d29 (jt T) hr.m (fV (cv 0) fX)))
  (fW (pS (i:=8) ig.nd (gx gC (cv 6) fZ))
  (fW (ij (oY vG Et fZ (cv 4) (gG gA rfl T.z_len iH (fV (gx gE (cv 2) fZ) fX)))
   (gh (pS (i:=8) ig.nd (gx gE (gx gE (cv 2) fZ) (cv 4))))
   gL)
  (fW (pS (i:=9) ig.nd (pF T.d32 (kH T) hr.m (fV (cv 7) (fV (gR (fV gu (fV kK (fV kK (fV kK fX))))) (fV (gR (fV (pF T.d31 (mD T) hr.m (fV (cv 0) (fV (cv 1) (fV (cv 2) fX)))) (fV (cv 5) (fV (cv 6) fX)))) fX)))))
  (gh (gH (pF T.d33 (jO T) hr.m (fV (cv 9) (fV (cv 8) (fV (gR (fV (ik (fV (gx gE (cv 2) fZ) (fV (cv 7) (fV fZ fX)))) (fV (ik (fV (gx gE (gx gC (cv 5) fZ) fZ) (fV (cv 7) (fV fZ fX)))) fX))) fX)))))))))))))),?_⟩;have iv0:=iv;obtain⟨tr,ur,zr,rfl,etr,eur,ir⟩:=nZ iv;have lr:=ir.length;rw[aE]at lr;refine⟨_,gT _ _ etr,gk (gj (j:=1) rfl) ⟨ur,_,rfl,.inr (SqT.of (gT _ _ eur)),(by show(0:Int)<(zr.length:Int)+ 6;lia),?_⟩⟩;dsimp only[tC,cI0,hJ];rw[lr];have c0:=fE c (show((l.length:Int)+ 6)≠0 by lia);have c1:=fF c (show 0<(l.length:Int)+ 6 by lia);obtain⟨nn,enn,n1,n2⟩:∃nn:Int,c%((l.length:Int)+ 6)-2=nn/\-2<=nn/\nn<64:=⟨_,rfl,by lia,by lia⟩;rw[enn];obtain⟨mx,emx,mx0,mx1,mx2⟩:∃mx:Int,(if(0:Int)>nn then 0 else nn)=mx/\0<=mx/\mx<10^60/\(¬nn<0->mx=nn):=⟨_,rfl,by split<;>lia,by split<;>lia,by split<;>lia⟩;refine⟨_,_,rfl,?_⟩;rw[emx];refine⟨M,fr,n,mx,rfl,hM,hf,ef,by lia,⟨mx0,mx1⟩,fun x1 H1 F1 f1 X1=>?_⟩;dsimp only[hJ];have hM1:=pO hM F1 f1;refine yf (fun σ' H'=>∃x,σ'=[some (.ref fr),some (.str w),some (.ref tr),some (.int c),some (.int nn),some x,none,none,none,none]/\Spt ws vs M fr n nn H H' x) ?_ ?_
 ·intro nx hnx;show(if(decide (nn<0))=true then _ else _);by_cases z:nn<0;·rw[hV z];refine jl ⟨M,fr,n+ 1,1,rfl,hM1,hf,f1,by lia,by decide,fun x2 H2 F2 f2 X2=>?_⟩;have hM2:=pO hM1 F2 f2;refine⟨M,fr,n+ 1+ 1,1-nn,rfl,hM2,hf,f2,by lia,⟨by lia,by lia⟩,fun x3 H3 F3 f3 X3=>?_⟩;have hM3:=pO hM2 F3 f3;obtain⟨g,gv⟩:=Ig (ws:=ws) (vs:=vs) (lo:=n) (c:=1-nn) ⟨by lia,by lia⟩;refine⟨M,fr,n+ 1+ 1+ 1,"sub",x2,x3,_,_,1,_,1-nn,_,rfl,hM3,hf,f3,by lia,rfl,X2.same (nR F3 hf),X3,nJ _ _,nJ _ _,by rw[kn,kn];exact du rfl,⟨by rw[DD];exact(by decide+kernel:(TM.Internal.numS 1).length<=100000),Ai hw (zp (ws:=ws) (vs:=vs) (lo:=n+ 1+ 1) (c:=1-nn) ⟨by lia,by lia⟩).ok (by rw[kn];exact du rfl)⟩,fun x4 H4 F4 f4 X4=>hnx _ _ ⟨x4,rfl,_,n+ 4,_,((F1.trans F2).trans F3).trans F4,f4,X4,g,by rw[gv,show(1:Int)-(1-nn)=nn by lia],by lia,by lia,?_⟩⟩;rw[jj,iC,iC,iL,jj,jj,iL];decide
  ·rw[iw z];have e:=mx2 z;subst e;exact iV (hnx _ _ ⟨x1,rfl,_,n+ 1,_,F1,f1,X1,zp ⟨mx0,mx1⟩,nJ _ _,by lia,by lia,by rw[jj,iL];decide⟩)
 rintro _ H2 ⟨xs,rfl,⟨ts,hi,ps,F2,f2,X2,g2,hv2,h1,h4,nt⟩⟩;have hM2:=pO hM F2 f2;refine⟨⟨by decide,by decide⟩,⟨by decide,by decide,by decide⟩,p60,M,fr,hi,_,rfl,hM2,hf,f2,by lia,DE _,fun xo H3 F3 f3 X3=>?_⟩;dsimp only[hJ];generalize hoc:c/80%10^(60:Int).toNat=oc at X3;have hoc':=DE (c/80);rw[hoc]at hoc';have hM3:=pO hM2 F3 f3;replace X2:=X2.same (nR F3 hf);refine⟨fr,hi+ 1,rfl,f3,by lia,?_⟩;have f4:Fh (upd H3 fr (.lst (aI (hi+ 1+ 1) .non))) fr (hi+ 1+ 1):=fY;have F34:Fr [fr] H3 (upd H3 fr (.lst (aI (hi+ 1+ 1) .non))):=kO;have hM4:=kJ (a:=fr) (o:= .lst (aI (hi+ 1+ 1) .non)) hM3;replace X2:=X2.same (nR F34 hf);replace X3:=X3.same (nR F34 hf);have F4:=(F2.trans F3).trans F34;dsimp only[hJ];generalize upd H3 fr (.lst (aI (hi+ 1+ 1) .non))=H4 at f4 F34 hM4 X2 X3 F4⊢;have iv4:=iv0.mono (gB.tk (nR F4 hf));have etr4:=gB.tk (nR F4 hf) _ _ etr;have eur4:=gB.tk (nR F4 hf) _ _ eur;have ir4:=ir.mono (gB.tk (nR F4 hf));obtain⟨io,vo,Bo,rfl,eio,ivo,_⟩:=id X3;rw[nJ]at ivo;refine⟨_,gT _ _ eio,gk (gj (j:=1) rfl) ?_⟩;dsimp only[hJ];refine yf (fun σ' H'=>∃xv,Y3 (σ'=[some (.ref fr),some (.str w),some (.ref tr),some (.int c),some (.int nn),some xs,some (.ref io),some (.int ((hi+ 1+ 1:Nat):Int)),some xv,none]) (Im (mask H4 M) xv (atV l nn (.num oc ((hi+ 1:Nat):Int))).d) (H'=H4)) ?_ ?_
 ·intro nx hnx;refine⟨0,nn,rfl,rfl,?_⟩
  cases nn with
  |ofNat j=>
   refine⟨true,congrArg V.bl (hV (Int.natCast_nonneg j)),jl ⟨_,gT _ _ etr4,gk (gj (j:=1) rfl) ⟨ur,zr,rfl,.inr (SqT.of (gT _ _ eur4)),_,_,rfl,rfl,?_⟩⟩⟩;by_cases hj:j<l.length;·obtain⟨d,hd',im⟩:=jP ir4 (bB (show j<zr.length by lia));rw[aO,bB hj]at hd';cases hd';refine⟨true,congrArg V.bl (hV (show((j:Nat):Int)<(zr.length:Int) by lia)),jl ⟨_,gT _ _ etr4,gk (gj (j:=1) rfl) ⟨_,gT _ _ eur4,gk (gj (bB (show j<zr.length by lia))) (hnx _ _ ⟨_,rfl,?_,rfl⟩)⟩⟩⟩;unfold atV;dsimp only;rw[bB hj];exact im
   ·refine⟨false,congrArg V.bl (iw (show ¬((j:Nat):Int)<(zr.length:Int) by lia)),iV (hnx _ _ ⟨_,rfl,?_,rfl⟩)⟩;unfold atV;dsimp only;rw[bF (by lia)];exact ivo
  |negSucc j=>exact⟨false,congrArg V.bl (iw (by lia)),iV ⟨false,rfl,iV (hnx _ _ ⟨_,rfl,ivo,rfl⟩)⟩⟩
 rintro _ H4' ⟨xv,rfl,ixv,eH⟩;cases eH;refine⟨JY,fun pl k4=>?_⟩;have S5:=gb k4 (.lst [.str "at",.non,.non,.non]);have g4:=fY (H:=H4) (a:=pl) (o:= .lst [.str "at",.non,.non,.non]);have hM5:=kJ (a:=pl) (o:= .lst [.str "at",.non,.non,.non]) hM4;have plf:pl≠fr:=(gm f4 k4).symm;have f5:=S5 _ _ f4;dsimp only;generalize upd H4 pl (.lst [.str "at",.non,.non,.non])=H5 at S5 g4 hM5 f5⊢;refine⟨M,fr,hi+ 1+ 1,k,w,.ref tr,.row l p,rfl,hM5,hf,f5,by lia,iv4.mono (gB.tk (gU S5)),fun xn H6 F6 f6 X6=>?_⟩;have hM6:=pO hM5 F6 f6;have K46:gB (mask H4 M) (mask H6 M):=fun b u e=>nR F6 hf _ _ (gU S5 _ _ e);replace g4:=F6 _ _ g4 (fun z=>plf (bj.mp z));refine⟨n8,fun il k5=>?_⟩;have S7:=gb k5 (.lst [xn,xs,.ref io]);have g5:=fY (H:=H6) (a:=il) (o:= .lst [xn,xs,.ref io]);replace g4:=S7 _ _ g4;have f7:=S7 _ _ f6;have hM7:=kJ (a:=il) (o:= .lst [xn,xs,.ref io]) hM6;have F7:=(F4.trans (Fr.same S5)).trans (F6.trans (Fr.same S7));replace X6:=X6.same (gU S7);have K47:gB (mask H4 M) (mask (upd H6 il (.lst [xn,xs,.ref io])) M):=fun b u e=>gU S7 _ _ (K46 _ _ e);dsimp only;generalize upd H6 il (.lst [xn,xs,.ref io])=H7 at g4 g5 f7 hM7 F7 X6 K47⊢;replace X2:=X2.same K47;replace X3:=X3.same K47;have w12:=(nP (hw w (aP wk))).2;have l2:=g2.l;have g3:=zp (ws:=ws) (vs:=vs) (lo:=hi) (c:=oc) hoc';have z3:(msX [.mk ((hi+ 1+ 1+ 1:Nat):Int) (.nam w k (.row l p)) [],ts,.mk ((hi+ 1:Nat):Int) (.num oc) []]).length<=1000:=by rw[ms3,kn,kn];show 1+(ts.ms.length+ 1)<=1000;lia
 refine⟨M,((hi+ 1+ 1:Nat):Int),pl,il,Cy (.op "at") [(.mk ((hi+ 1+ 1+ 1:Nat):Int) (.nam w k (.row l p)) []:Xt),ts,.mk ((hi+ 1:Nat):Int) (.num oc) []].length,_,[.mk ((hi+ 1+ 1+ 1:Nat):Int) (.nam w k (.row l p)) [],ts,.mk ((hi+ 1:Nat):Int) (.num oc) []],rfl,hM7,g4,g5,.cons X6 (.cons X2 (.cons X3 .nil)),rfl,by show 4<=40;decide,z3,fun w' hw'=>?_,fun t ht'=>?_,fun wl H8 S8 pt=>?_⟩;·have hw':some w'∈([some "at",none,none,none]:List (Option Str)):=hw';simp only[ak,dw.injEq,bD,or_false,reduceCtorEq]at hw';rw[hw'];decide+kernel
 ·simp only[ak,bD,or_false]at ht';rcases ht' with rfl|rfl|rfl;·exact Cf w12
  ·exact Ai hw g2.ok (by lia)
  ·exact Ai hw g3.ok (by rw[kn];exact du rfl)
 dsimp only[hJ];have etr7:=gT _ _ (K47 _ _ etr4);obtain⟨js,tsv,rs,ex,ejs,etsv⟩:=(X2.same gT).num hv2;cases ex;refine⟨_,S8 _ _ etr7,gk (gj (j:=2) rfl) ⟨n8,fun t1 k7=>?_⟩⟩;have S9:=gb k7 (.tup [.int p,.int ((hi+ 1+ 1:Nat):Int),.int 0]);refine⟨_,(S8.trans S9) _ _ ejs,gk (gj (j:=1) rfl) ⟨_,(S8.trans S9) _ _ etsv,gk (gj (j:=2) rfl) ⟨n8,fun t2 k8=>⟨oT,fun ml k9=>?_⟩⟩⟩⟩;have S10:=gb k8 (.tup [.int ps,.int ((hi+ 1+ 1:Nat):Int),.int 1]);have S11:=gb k9 (.lst [.ref t1,.ref t2]);have S69:=(S9.trans S10).trans S11;have e7:=(S10.trans S11) _ _ (fY (a:=t1) (o:= .tup [.int p,.int ((hi+ 1+ 1:Nat):Int),.int 0]));have e8:=S11 _ _ (fY (a:=t2) (o:= .tup [.int ps,.int ((hi+ 1+ 1:Nat):Int),.int 1]));have e9:=fY (H:=upd (upd H8 t1 (.tup [.int p,.int ((hi+ 1+ 1:Nat):Int),.int 0])) t2 (.tup [.int ps,.int ((hi+ 1+ 1:Nat):Int),.int 1])) (a:=ml) (o:= .lst [.ref t1,.ref t2]);have m8:=S9.free k8;have m9:=(S9.trans S10).free k9;dsimp only;generalize upd (upd (upd H8 t1 (.tup [.int p,.int ((hi+ 1+ 1:Nat):Int),.int 0])) t2 (.tup [.int ps,.int ((hi+ 1+ 1:Nat):Int),.int 1])) ml (.lst [.ref t1,.ref t2])=H9 at S69 e7 e8 e9⊢;have nv:(Xt.mk ((hi+ 1+ 1+ 1:Nat):Int) (.nam w k (.row l p)) []).val=some (.row l p):=by rw[pL];rfl
 have S79:=S8.trans S69;have pt9:=pt.same S69;have vv:=val3 nv hv2 (nJ ((hi+ 1:Nat):Int) oc);have ivv:Im (mask H9 (wl::M)) xv (atV l nn (.num oc ((hi+ 1:Nat):Int))).d:=by refine(ixv.mono (gB.tk K47)).mono fun a xs e=>?_;obtain⟨n1',n2'⟩:=jz e;exact nwO pt9 S79 n2' n1'
 have V:XVa [.ref wl,xv,.ref ml] H9 Q:=pM (κ:= .op "at") (u:=atV l nn (.num oc ((hi+ 1:Nat):Int))) hM7 S79 pt9 (.inr ⟨_,rfl⟩) vv rfl ivv (nwN hM7 pt S8 m9 e9) (.cons (.tup (nwN hM7 pt S8 k7 e7) (.cons (.flat rfl) (.cons (.flat rfl) (.cons (.flat rfl) .nil)))) (.cons (.tup (nwN hM7 pt S8 m8 e8) (.cons (.flat rfl) (.cons (.flat rfl) (.cons (.flat rfl) .nil)))) .nil)) z3 (by show 2<=10;decide) fun H8' S8' x=>q _ _ _ (hi+ 3) (F7.trans (Fr.same S8')) (S8' _ _ f7) x ?_ (by lia) (by lia);·exact V
 have ms:(Xt.mk ((hi+ 1+ 1:Nat):Int) (.op "at") [.mk ((hi+ 1+ 1+ 1:Nat):Int) (.nam w k (.row l p)) [],ts,.mk ((hi+ 1:Nat):Int) (.num oc) []]).ms=((hi+ 1+ 1:Nat):Int)::((hi+ 1+ 1+ 1:Nat):Int)::(ts.ms++[((hi+ 1:Nat):Int)]):=by rw[nH,msX,msX,msX,msX,kn,kn];rfl
 have rg:∀m∈ts.ms++[((hi+ 1:Nat):Int)],(n:Int)<m/\m<=((hi+ 1:Nat):Int):=fun m hm=>by
  rcases ao.mp hm with hm|hm;·have:=g2.rg m hm;lia
  ·rw[bj.mp hm];lia
 refine⟨?_,?_,?_,fun m hm=>?_,?_,?_⟩;·rw[Xt.ok,okL,okL,okL,okL,Xt.ok,okL,Xt.ok,okL];exact⟨.inr (.inr (.inl ⟨rfl,_,_,_,by rw[aD,aD,aD,nv];rfl,⟨_,_,rfl,l6⟩,⟨_,_,hv2⟩,_,_,nJ _ _⟩)),⟨⟨rfl,wk,vk⟩,trivial⟩,g2.ok,⟨zo hoc',trivial⟩,trivial⟩
 ·rw[(qK vv).1];show isN (some (atV l nn (.num oc ((hi+ 1:Nat):Int))));unfold atV;split;·split<;>exact⟨_,_,rfl⟩
  ·exact⟨_,_,rfl⟩
 ·rw[ms,aG,aG,b9];refine⟨fun z=>?_,fun z=>?_,g2.nd,aG.mpr ⟨(fun z=>nomatch z),cg⟩,fun a ha b hb z=>?_⟩
  ·rcases ak.mp z with z|z;·lia
   ·have:=rg _ z;lia
  ·have:=rg _ z;lia
  ·have:=g2.rg a ha;have:=bj.mp hb;lia
 ·rw[ms]at hm;rcases ak.mp hm with rfl|hm;·lia
  ·rcases ak.mp hm with rfl|hm;·lia
   ·have:=rg _ hm;lia
 ·rw[jj,iC,iC,iC,iL,jj,jj,iL];lia
 ·rw[ms,aB,aB,aQ,bc];lia
open GR.Internal (isName)
theorem zq {T:TT} {A B:TS} {D:rA} {σ:St} {H:Hp} (b:Bool) (h:∀k:Bool->Hp->Prop,k b H->T σ H k) (hk:if b=true then A D σ H else B D σ H):CC T A B D σ H:=h _ hk
structure Tgs (ws:Zd) (vs:List Vl) (ts:List Xt) (lo hi:Nat):Prop where
 ok:okL ws vs ts
 nv:∀t∈ts,isN t.val
 nd:(msX ts).Nodup
 rg:∀m∈msX ts,(lo:Int)<m/\m<=(hi:Int)
 ns:TM.Internal.nests (trX ts)<=3
 l:(msX ts).length<=hi-lo
theorem zt {ws:Zd} {vs:List Vl} {t:Xt} (h:t.ok ws vs):∀{ts:List Xt},okL ws vs ts->okL ws vs (ts++[t])
 |[],_=>by rw[bT,okL,okL];exact⟨h,trivial⟩
 |u::ts,k=>by rw[okL]at k;rw[aU,okL];exact⟨k.1,zt h k.2⟩
theorem uh (t:Xt):∀ts:List Xt,TM.Internal.nests (trX (ts++[t]))=max (TM.Internal.nests (trX ts)) t.tr.nest
 |[]=>by rw[bT,iC,iL];lia
 |u::ts=>by rw[aU,iC,iC,uh t ts];lia
theorem rm (ts:List Xt) (t:Xt):msX (ts++[t])=msX ts++t.ms:=by rw[mC,msX,msX,aF]
theorem Ej {lo m hi:Nat} {a b:List Int} (ha:a.Nodup) (hb:b.Nodup) (ra:∀x∈a,(lo:Int)<x/\x<=(m:Int)) (rb:∀x∈b,(m:Int)<x/\x<=(hi:Int)) (h1:lo<=m) (h2:m<=hi):(a++b).Nodup/\∀x∈a++b,(lo:Int)<x/\x<=(hi:Int):=by
 refine⟨b9.mpr ⟨ha,hb,fun x hx y hy z=>?_⟩,fun x hx=>?_⟩;·have:=ra x hx;have:=rb y hy;lia
 ·rcases ao.mp hx with hx|hx;·have:=ra x hx;lia
  ·have:=rb x hx;lia
theorem Tgs.snoc {ws:Zd} {vs:List Vl} {ts:List Xt} {t:Xt} {lo m hi:Nat} (h:Tgs ws vs ts lo m) (g:Tg ws vs t m hi) (h1:lo<=m) (h2:m<=hi):Tgs ws vs (ts++[t]) lo hi:=by
 obtain⟨a,b⟩:=Ej h.nd g.nd h.rg g.rg h1 h2;rw[<-rm]at a b;refine⟨zt g.ok h.ok,fun u hu=>?_,a,b,?_,?_⟩
 ·rcases ao.mp hu with hu|hu;·exact h.nv u hu
  ·rw[bj.mp hu];exact g.nv
 ·rw[uh];exact di.mpr ⟨h.ns,g.ns⟩
 ·rw[rm,aQ];have:=h.l;have:=g.l;lia
structure It2 (ws:Zd) (vs:List Vl) (t:Xt) (lo hi d:Nat):Prop where
 ok:t.ok ws vs
 nv:isR t.val\/t.val=none
 nd:t.ms.Nodup
 rg:∀m∈t.ms,(lo:Int)<m/\m<=(hi:Int)
 ns:t.tr.nest<=d
 l:t.ms.length<=hi-lo
def Lst (ws:Zd) (vs:List Vl) (its:List Xt):Prop:=its=[]\/∃us u l p w,its=us++[u]/\u.val=some (.row l p)/\l.length<=60/\vs[us.length]?=some (.row l p)/\ws[us.length]?=some w
theorem Cg {ws:Zd} {vs:List Vl}:∀{ts:List Xt},okL ws vs ts->∀t∈ts,t.ok ws vs/\t.ms.length<=(msX ts).length
 |[],_,t,h=>by cases h
 |u::ts,ok,t,h=>by
  rw[okL]at ok;rw[msX,aQ];rcases ak.mp h with rfl|h;·exact⟨ok.1,cX _ _⟩
  ·obtain⟨a,b⟩:=Cg ok.2 t h;exact⟨a,by lia⟩
theorem DF {ts:List Xt} (h:∀t∈ts,isN t.val):∃us,ko ts=some us/\∀v∈us.map some,isN v:=by
 obtain⟨us,e⟩:=pI fun t ht z=>by obtain⟨n,p,e⟩:=h t ht;rw[e]at z;cases z
 refine⟨us,e,fun v hv=>?_⟩;rw[<-oQ e]at hv;obtain⟨t,ht,rfl⟩:=bf.mp hv;exact h t ht
theorem th_d {us:List Vl} (h:∀v∈us.map some,isN v):(us.map Vl.th).map thD=us.map Vl.d:=by rw[bC];refine bW fun u hu=>?_;obtain⟨n,p,e⟩:=h (some u) (cq hu);cases e;rfl
theorem rk.mem {H:Hp} {xs:List V} {ts:List Xt} (h:rk H xs ts):∀{k:Nat} {x:V},xs[k]?=some x->∃t,ts[k]?=some t/\XtA H x t:=by
 induction h with
 |nil=>exact fun e=>nomatch e
 |cons h r ih=>exact fun{k x} e=>by cases k with|zero=>cases e;exact⟨_,rfl,h⟩|succ k=>exact ih (k:=k) e
structure Mk (ws:Zd) (vs:List Vl) (M:List Zx) (fr wl il:Zx) (n:Nat) (xs:List V) (its:List Xt) (H:Hp):Prop where
 hM:∀b∈M,∃o,H b=some o
 hf:fr∈M
 ef:Fh H fr n
 hw:∀w∈ws,isName w=true
 ew:mask H M wl=some (.lst (ws.map V.str))
 ei:H il=some (.lst xs)
 nif:il≠fr
 hx:rk (mask H M) xs its
 hl:Lst ws vs its
inductive XRw (vs':List V) (H:Hp) (Q:VK):Prop
 |mk (ws:Zd) (vs:List Vl) (M:List Zx) (fr wl il cl:Zx) (n:Nat) (xs:List V) (its:List Xt) (ks:List Int) (e:vs'=[.ref fr,.ref wl,.ref il,.ref cl]) (h:Mk ws vs M fr wl il n xs its H) (hn:n<=400) (ec:H cl=some (.lst (ks.map V.int))) (ncf:cl≠fr) (hk:ks.length<=7) (q:∀x H' t n',Fr [fr] H H'->Fh H' fr n'->XtA (mask H' M) x t->It2 ws vs t n n' 4->isR t.val->n<n'->(50<=n\/its=[]->n'<=n+ 8)->(n<50->n'<=63)->Q x H')
def yj:Sp:=fun vs H Q _=>XRw vs H Q
theorem yk (T:Txt K mg):FO P w base 4 T.d43 yj:=by
 refine T.d43.F.rd ky fun _ A _ s H vs Q E hr h=>?_;obtain⟨ws,vs,M,fr,wl,il,cl,n,xs,its,ks,rfl,⟨hM,hf,ef,hw,ew,ei,nif,hx,hl⟩,hn,ec,ncf,hk,q⟩:=h;refine⟨_,(fW (pS (i:=4) ky.nd (gR fX))
  (fW (jk PassesOwn.never rfl (jm (cv 3)) (pN (i:=5) ky.nd)
   (fW (pS (i:=6) ky.nd (ic lT (cv 5) (ic yJ fZ fZ)))
   (gh (ij (PW.pt (tL (gN E4 (gG gA rfl T.z_len iH (fV (cv 0) fX)) fZ) (tL (gN zR (gG gA rfl T.z_len iH (fV (cv 2) fX)) fZ) (uk (gN lU (ic lT (cv 6) fZ) fZ)))))
    (gh (gK (ja (jM eX eY eZ gS (PE.mono (cv 4)) (fV (PE.mono (pF T.d42 (wO T) hr.m (fV (cv 0) (fV (gx gC (cv 1) (ic rR (gG gA rfl T.z_len iH (fV (cv 2) fX)) fZ)) (fV (gx gC (gx gC (cv 2) (vF qw fZ)) fZ) fX))))) fX)))))
    (gh (ij (PW.pt (tL (gN E4 (gG gA rfl T.z_len iH (fV (cv 0) fX)) fZ) (tL (gN zR (gG gA rfl T.z_len iH (fV (cv 2) fX)) fZ) (uk (gN lU (ic lT (cv 6) fZ) fZ)))))
     (gh (gK (ja (jM eX eY eZ gS (PE.mono (cv 4)) (fV (PE.mono (pF T.d41 (qV T) hr.m (fV (cv 0) (fV (gx gC (cv 1) (ic rR (gG gA rfl T.z_len iH (fV (cv 2) fX)) fZ)) (fV (gx gC (gx gC (cv 2) (vF qw fZ)) fZ) (fV (ic lK (cv 6) fZ) fX)))))) fX)))))
     (gh (gK (ja (jM eX eY eZ gS (PE.mono (cv 4)) (fV (PE.mono (pF T.d30 (n6 T) hr.m (fV (cv 0) (fV (ic lT (ic lK (cv 6) fZ) (ic yJ fZ fZ)) fX)))) fX)))))))))))
  (fW (pS (i:=7) ky.nd (pF T.d29 (jt T) hr.m (fV (cv 0) fX)))
  (fW (pS (i:=8) ky.nd (pF T.d32 (kH T) hr.m (fV (cv 7) (fV (ic qA (gR (fV gu fX)) (sN rfl (ES (x:="_law_thing") rfl gQ gQ rfl rfl) (jm (cv 4)) (fun _ _ _ _ _=>mS) (fun _ _ _ _ _=>kK))) (fV (cv 4) fX)))))
  (gh (gH (pF T.d33 (jO T) hr.m (fV (cv 8) (fV (ik (fV gu (fV (jL jx rfl T.z_tuple jW (fV (sN rfl (ES (x:="_law_thing") rfl gQ gQ rfl rfl) (jm (cv 4)) (fun _ _ _ _ _=>mS) (fun _ _ _ _ _=>(gx gC (cv 0) fZ))) fX)) (fV (cv 7) fX)))) (fV (gR fX) fX)))))))))),?_⟩;have sl:=sizeLine_eq;have lx:=hx.len;refine⟨qL,fun tl htl=>?_⟩;have S1:=gb htl (.lst []);have et:(upd H tl (.lst [])) tl=some (.lst []):=fY;have ef1:=S1 _ _ ef;have tlf:tl≠fr:=(gm ef htl).symm;dsimp only[hJ];generalize upd H tl (.lst [])=H1 at S1 et ef1⊢;have mM:∀{H':Hp},Fr [fr] H H'->gB (mask H M) (mask H' (tl::M)):=fun F b u e=>by
  obtain⟨e1,e2⟩:=jz e;refine iK (fun z=>?_) (F _ _ e2 (fun z=>e1 (by rw[bj.mp z];exact hf)));rcases ak.mp z with z|z;·rw[z,htl]at e2;cases e2
  ·exact e1 z
 refine⟨cl,rfl,⟨_,SqL.of (S1 _ _ ec)⟩,jV (xs:=ks.map V.int) (fun i σ H3=>∃o5 o6 ys ts m,σ=[some (.ref fr),some (.ref wl),some (.ref il),some (.ref cl),some (.ref tl),o5,o6,none,none]/\Fr [fr] H H3/\Fh H3 fr m/\H3 tl=some (.lst ys)/\rk (mask H3 (tl::M)) ys ts/\Tgs ws vs ts n m/\ts.length=i/\n<=m/\(50<=n\/its=[]->m<=n+i)/\(n<50->m<=55+i)) ⟨_,_,[],[],n,rfl,Fr.same S1,ef1,et,.nil,⟨trivial,(fun t ht=>nomatch ht),cg,(fun t ht=>nomatch ht),by rw[iL];decide,cO _⟩,rfl,cM _,fun _=>cM _,fun _=>by lia⟩ (fun i σ H3 _ ⟨_,_,_,_,_,_,F,_⟩=>SqL.of (F _ _ ec (fun z=>ncf (bj.mp z)))) ?_ ?_⟩
 ·rintro i v σ H3 hv ⟨o5,o6,ys,ts,m,rfl,F3,f3,e3,x3,g3,lt,lm,b1,b2⟩;rw[aO]at hv;obtain⟨c,hc,rfl⟩:=dB.mp hv;have hil:=(au.mp hc).1;have ly:=x3.len;refine⟨⟨by decide,by decide,by decide⟩,(by show(0:Int)<10^(64:Int).toNat;decide+kernel),?_⟩;dsimp only[hJ];generalize c%10^(64:Int).toNat=c;have ei3:=F3 _ _ ei (fun z=>nif (bj.mp z));have hM3:∀b∈tl::M,∃o,H3 b=some o:=fun b hb=>by
   rcases ak.mp hb with rfl|hb;·exact⟨_,e3⟩
   ·exact pO hM F3 f3 b hb
  have hfN:fr∈tl::M:=aj _ hf;have done:∀{x:V} {H':Hp} {t:Xt} {hi:Nat} {o5 o6:Option V},Fr [fr] H3 H'->Fh H' fr hi->XtA (mask H' (tl::M)) x t->Tg ws vs t m hi->m<=hi->(m<50/\its≠[]/\hi<=m+ 7\/hi<=m+ 1)->∃zs,H' tl=some (.lst zs)/\zs.length<sizeLine/\∃o5' o6' ys ts m,([some (.ref fr),some (.ref wl),some (.ref il),some (.ref cl),some (.ref tl),o5,o6,none,none]:St)=[some (.ref fr),some (.ref wl),some (.ref il),some (.ref cl),some (.ref tl),o5',o6',none,none]/\Fr [fr] H (upd H' tl (.lst (zs++[x])))/\Fh (upd H' tl (.lst (zs++[x]))) fr m/\(upd H' tl (.lst (zs++[x]))) tl=some (.lst ys)/\rk (mask (upd H' tl (.lst (zs++[x]))) (tl::M)) ys ts/\Tgs ws vs ts n m/\ts.length=i+ 1/\n<=m/\(50<=n\/its=[]->m<=n+(i+ 1))/\(n<50->m<=55+(i+ 1)):=fun{x H' t hi o5 o6} F f X g h1 h2=>by
   have e':=F _ _ e3 (fun z=>tlf (bj.mp z));have Ft:Fr (tl::M) H' (upd H' tl (.lst (ys++[x]))):=kO.le (fun b hb=>by rw[bj.mp hb];exact ah);have FF:Fr (tl::M) H3 H':=F.le (fun b hb=>by rw[bj.mp hb];exact hfN);refine⟨ys,e',by lia,_,_,ys++[x],ts++[t],hi,rfl,fun b u e nb=>?_,by rw[Fh,gr tlf.symm];exact f,fY,(x3.same (FF.trans Ft).mask).snoc (X.same Ft.mask),g3.snoc g lm h1,by rw[aQ,lt];rfl,by lia,fun z=>?_,fun z=>?_⟩;·rw[gr (fun z=>by rw[z,htl]at e;cases e)];exact F _ _ (F3 _ _ e nb) nb
   ·have:=b1 z;rcases h2 with⟨h3,h4,h5⟩|h2
    ·rcases z with z|z;·lia
     ·exact absurd z h4
    ·lia
   ·have:=b2 z;lia
  have tst:∀(j:Int) (k:Bool->Hp->Prop),k (decide (m<50)&&(decide (0<xs.length)&&decide (c%4=j))) H3->(if decide (((aI m V.non).length:Int)<50)=true then(∃p ys,[V.ref il]=[V.ref p]/\(SqL K H3 p ys\/SqT K H3 p ys)/\if decide ((0:Int)<(ys.length:Int))=true then((0:Int)<4/\k (false ^^ decide (c%4=j)) H3)else k false H3)else k false H3):=fun j k hk=>by
   rw[show decide (((aI m V.non).length:Int)<50)=decide (m<50) by rw[aR];exact decide_eq_decide.mpr (by lia)]
   cases h1:decide (m<50)with
   |false=>rw[h1]at hk;exact iV hk
   |true=>
    rw[h1]at hk;refine jl ⟨il,_,rfl,.inl (SqL.of ei3),?_⟩;rw[show decide ((0:Int)<(xs.length:Int))=decide (0<xs.length)from decide_eq_decide.mpr (by lia)]
    cases h2:decide (0<xs.length)with
    |false=>rw[h2]at hk;exact iV hk
    |true=>rw[h2]at hk;exact jl ⟨by decide,by rw[fo];exact hk⟩
  have ew3:=gT _ _ (mM F3 _ _ ew);have lst:∀{b:Bool},(decide (m<50)&&(decide (0<xs.length)&&b))=true->m<50/\its≠[]/\∃(k:Nat) (l:List (Int×Int)) (p:Int) (w:Str) (ai:Zx) (vi:V) (z:V) (r zs:List V),xs=zs++[.ref ai]/\H3 ai=some (.lst (z::vi::r))/\(xs.length:Int)-1=(k:Int)/\Th ws vs (tl::M) fr m k w vi l p H3:=fun{b} h=>by
   rw[fj,fj,decide_eq_true_eq,decide_eq_true_eq]at h;obtain⟨h1,h2,_⟩:=h;have ne:its≠[]:=fun z=>by rw[z]at lx;rw[lx]at h2;cases h2
   obtain⟨us,u,l,p,w,hu,uv,l6,vk,wk⟩:=hl.resolve_left ne;have hk:its[us.length]?=some u:=by rw[hu,aM (cM _),df];rfl
   have hul:its.length=us.length+ 1:=by rw[hu,aQ];rfl
   obtain⟨xu,hxu,hX⟩:=(hx.same (mM F3)).at hk;obtain⟨zs,y,hys⟩:∃ys y,xs=ys++[y]:=⟨_,_,(bI (fun e=>by rw[e]at h2;cases h2)).symm⟩;have hy:y=xu:=by
    have l2:zs.length=us.length:=by
     have:xs.length=zs.length+ 1:=by rw[hys,aQ];rfl
     lia
    rw[hys,aM (by lia),l2,df]at hxu;cases hxu;rfl
   subst hy;obtain⟨ai,vi,B,rfl,eai,ivi,_⟩:=hX;rw[uv]at ivi;exact⟨h1,ne,us.length,l,p,w,ai,vi,_,_,zs,hys,gT _ _ eai,by lia,hM3,hfN,f3,by lia,hw,ivi,l6,wk,vk⟩
  have wix:∀{k:Nat} {w:Str},(xs.length:Int)-1=(k:Int)->ws[k]?=some w->atI (ws.map V.str) ((xs.length:Int)-1)=some (.str w):=fun e h=>by rw[e];exact gj (by rw[aO,h];rfl)
  refine zq (decide (m<50)&&(decide (0<xs.length)&&decide (c%4=2))) (fun k hk=>⟨fr,_,rfl,.inl (SqL.of f3),tst 2 k hk⟩) ?_
  cases hb2:(decide (m<50)&&(decide (0<xs.length)&&decide (c%4=2)))with
  |true=>obtain⟨h1,ne,k,l,p,w,ai,vi,z,r,zs,hys,eai,ek,th⟩:=lst hb2;refine jl ⟨⟨_,e3⟩,il,_,rfl,.inl (SqL.of ei3),_,ew3,gk (v:=V.str w) (wix ek th.wk) ⟨_,rfl,_,ei3,gk (v:=V.ref ai) (by rw[hys];exact qv zs _) ⟨_,eai,gk (gj (j:=1) rfl) ?_⟩⟩⟩;exact⟨ws,vs,tl::M,fr,m,k,w,vi,l,p,rfl,th,fun x H' t F f X g=>done F f X g (by lia) (.inl ⟨h1,ne,by lia⟩)⟩
  |false=>
   refine iV ?_;refine zq (decide (m<50)&&(decide (0<xs.length)&&decide (c%4=3))) (fun k hk=>⟨fr,_,rfl,.inl (SqL.of f3),tst 3 k hk⟩) ?_
   cases hb3:(decide (m<50)&&(decide (0<xs.length)&&decide (c%4=3)))with
   |true=>obtain⟨h1,ne,k,l,p,w,ai,vi,z,r,zs,hys,eai,ek,th⟩:=lst hb3;refine jl ⟨⟨_,e3⟩,il,_,rfl,.inl (SqL.of ei3),_,ew3,gk (v:=V.str w) (wix ek th.wk) ⟨_,rfl,_,ei3,gk (v:=V.ref ai) (by rw[hys];exact qv zs _) ⟨_,eai,gk (gj (j:=1) rfl) ⟨⟨by decide,by decide⟩,?_⟩⟩⟩⟩;exact⟨ws,vs,tl::M,fr,m,k,w,vi,l,p,_,rfl,th,fun x H' t hi F f X g h2 h3=>done F f X g (by lia) (.inl ⟨h1,ne,h3⟩)⟩
   |false=>refine iV ⟨⟨_,e3⟩,⟨by decide,by decide⟩,⟨by decide,by decide,by decide⟩,p60,tl::M,fr,m,_,rfl,hM3,hfN,f3,by lia,DE _,fun x H' F f X=>done F f X (zp (DE _)) (by lia) (.inr (by lia))⟩
 ·rintro σ H3 ⟨o5,o6,ys,ts,m,rfl,F3,f3,e3,x3,g3,lt,lm,b1,b2⟩;rw[aE]at lt b1 b2;have hm9:m<=500:=by
   by_cases z:50<=n;·have:=b1 (.inl z);lia
   ·have:=b2 (by lia);lia
  refine⟨fr,m,rfl,f3,by lia,?_⟩;have f4:Fh (upd H3 fr (.lst (aI (m+ 1) .non))) fr (m+ 1):=fY;have F34:Fr [fr] H3 (upd H3 fr (.lst (aI (m+ 1) .non))):=kO;have hM4:=kJ (a:=fr) (o:= .lst (aI (m+ 1) .non)) (pO hM F3 f3);have e4:=F34 _ _ e3 (fun z=>tlf (bj.mp z));have x4:=(x3.same (nR F34 (aj _ hf))).same (oS (H:=upd H3 fr (.lst (aI (m+ 1) .non))) (M:=M) (N:=tl::M) fun a ha=>aj _ ha);have F4:=F3.trans F34;dsimp only[hJ];generalize upd H3 fr (.lst (aI (m+ 1) .non))=H4 at f4 F34 hM4 e4 x4 F4⊢;have ly:=x4.len;refine⟨rp,fun l1 k1=>⟨tl,rfl,⟨_,SqL.of (gb k1 _ _ _ e4)⟩,fun D hD=>?_⟩⟩;have S5:=gb k1 (.lst [.str "row"]);have g1:=fY (H:=H4) (a:=l1) (o:= .lst [.str "row"]);generalize upd H4 l1 (.lst [.str "row"])=H5 at S5 g1 hD⊢;refine v8 ys.length (by lia) (fun zs _=>zs=aI zs.length .non) (fun _ _ _ h _=>h) hD rfl (fun k H6 S6 hk'=>yH (S5 _ _ e4) S6 hk') (fun H6 S6=>yI (S5 _ _ e4) S6) rfl (fun k H6 v H7 zs Z S6 hk' y hz hl' hZ=>hZ _ _ (by obtain⟨rfl,_⟩:=y;exact fun _ _ e=>e) (by rw[aQ,bc,cC,<-hz])) ?_;intro H6 zs S6 hz hl6 eD;rw[hl6]at hz;subst hz;refine⟨_,_,_,_,rfl,rfl,S6 _ _ g1,eD,by rw[aR];show 1+_<=_;lia,fun pl k2=>?_⟩;have S7:=gb k2 (.lst ([.str "row"]++aI ys.length .non));have g2:=fY (H:=H6) (a:=pl) (o:= .lst ([.str "row"]++aI ys.length .non));have S47:=(S5.trans S6).trans S7;dsimp only;generalize upd H6 pl (.lst ([.str "row"]++aI ys.length .non))=H7 at S7 g2 S47⊢;have hM7:∀b∈M,∃o,H7 b=some o:=fun b hb=>let⟨u,e⟩:=hM4 b hb;⟨u,S47 _ _ e⟩;have x7:=x4.same (gU S47);have lg:=g3.l;refine⟨M,((m+ 1:Nat):Int),pl,tl,Cy .row ts.length,ys,ts,rfl,hM7,?_,S47 _ _ e4,x7,by show cN (aI ts.length none)=_;rw[Ei],?_,by lia,fun w' hw'=>?_,fun t ht'=>?_,fun wl' H8 S8 pt=>?_⟩;·rw[g2,ly];show _=some (HO.lst (V.str "row"::(aI ts.length none).map oV));rw[List.map_replicate];rfl
  ·show(aI ts.length none).length+ 1<=40;rw[aR];lia
  ·rcases ak.mp hw' with e|e;·cases e;decide+kernel
   ·have:=List.eq_of_mem_replicate e;cases this
  ·have o:=Cg g3.ok t ht';exact Ai hw o.1 (by have:=o.2;lia)
  obtain⟨us,eus,nus⟩:=DF g3.nv;have mus:=oQ eus;have lus:us.length=ts.length:=by have:=congrArg aJ mus;rw[aE,aE]at this;lia
  dsimp only[hJ];refine⟨tl,rfl,⟨_,SqL.of ((S47.trans S8) _ _ e4)⟩,fun D2 hD2=>?_⟩;have e8:=(S47.trans S8) _ _ e4;refine v8 ys.length (by lia) (fun zs _=>Ims (mask H7 M) zs ((us.take zs.length).map Vl.d)) (fun _ _ _ h _=>h) hD2 rfl (fun k H9 S9 hk'=>yH e8 S9 hk') (fun H9 S9=>yI e8 S9) .nil ?_ ?_
  ·intro k H9 v H10 zs Z S9 hk' y hz hl' hZ;obtain⟨rfl,hv⟩:=y;have hv:=hv _ (SqL.of (S9 _ _ e8));obtain⟨t,ht,hX⟩:=x7.mem hv;obtain⟨u,hu⟩:∃u,us[k]?=some u:=⟨_,bB (by lia)⟩;have tv:t.val=some u:=by have:=congrArg (fun l=>l[k]?) mus;simp only[aO,ht,hu]at this;exact dw.inj this
   obtain⟨a,vi,B,rfl,ea,ivi,_⟩:=hX;rw[tv]at ivi;refine⟨_,S9 _ _ (S8 _ _ (gT _ _ ea)),gk (gj (j:=1) rfl) (hZ _ _ (fun _ _ e=>e) ?_)⟩;rw[aQ,hl',bc,cb,hu,bo,<-hl'];exact hz.app (.cons ivi .nil)
  intro H9 zs S9 hz9 hl9 eD2;rw[hl9,cc (by lia),<-th_d nus]at hz9;refine⟨D2,zs,rfl,.inl ⟨SqL.of eD2,fun a1 j1=>⟨n8,fun tv j2=>⟨qL,fun ml j3=>?_⟩⟩⟩⟩;have S10:=gb j1 (.tup zs);have S11:=gb j2 (.tup [.str "row",.ref a1,.int ((m+ 1:Nat):Int)]);have S12:=gb j3 (.lst []);have S812:=S9.trans ((S10.trans S11).trans S12);have y1:=(S11.trans S12) _ _ (fY (a:=a1) (o:= .tup zs));have y2:=S12 _ _ (fY (a:=tv) (o:= .tup [.str "row",.ref a1,.int ((m+ 1:Nat):Int)]));have y3:=fY (H:=upd (upd H9 a1 (.tup zs)) tv (.tup [.str "row",.ref a1,.int ((m+ 1:Nat):Int)])) (a:=ml) (o:= .lst []);have m1:=S9.free j1;have m2:=(S9.trans S10).free j2;have m3:=((S9.trans S10).trans S11).free j3;dsimp only;generalize upd (upd (upd H9 a1 (.tup zs)) tv (.tup [.str "row",.ref a1,.int ((m+ 1:Nat):Int)])) ml (.lst [])=H12 at S812 y1 y2 y3⊢;have S712:=S8.trans S812;have pt12:=pt.same S812;have iz:Ims (mask H12 (wl'::M)) zs ((us.map Vl.th).map thD):=hz9.mono fun a xs e=>by obtain⟨n1',n2'⟩:=jz e;exact nwO pt12 S712 n2' n1'
  have V:XVa [.ref wl',.ref tv,.ref ml] H12 Q:=pM (κ:= .row) (u:= .row (us.map Vl.th) ((m+ 1:Nat):Int)) hM7 S712 pt12 (.inl rfl) eus rfl (.tup (nwN hM7 pt S8 m2 y2) (.cons (.flat rfl) (.cons (.tup (nwN hM7 pt S8 m1 y1) iz) (.cons (.flat rfl) .nil)))) (nwN hM7 pt S8 m3 y3) .nil (by lia) (cO _) fun H8' S8' x=>q _ _ _ (m+ 1) ((F4.trans (Fr.same S47)).trans (Fr.same S8')) (S8' _ _ (S47 _ _ f4)) x ?_ ?_ (by lia) (fun z=>by have:=b1 z;lia) (fun z=>by have:=b2 z;lia);·exact V
  ·have iv:isR (Xt.mk ((m+ 1:Nat):Int) .row ts).val:=by rw[(qK eus).1];exact⟨_,_,rfl,by rw[aE];lia⟩
   refine⟨?_,.inl iv,?_,fun x hx'=>?_,?_,?_⟩;·rw[Xt.ok];exact⟨⟨by rw[aE];lia,by rw[mus];exact nus⟩,g3.ok⟩
   ·rw[nH,aG];exact⟨fun z=>by have:=g3.rg _ z;lia,g3.nd⟩
   ·rw[nH]at hx';rcases ak.mp hx' with rfl|hx';·lia
    ·have:=g3.rg x hx';lia
   ·rw[jj];have:=g3.ns;lia
   ·rw[nH,aB];lia
  ·rw[(qK eus).1];exact⟨_,_,rfl,by rw[aE];lia⟩
open GR.Internal (isName)
theorem PtA.non {H0 H:Hp} {M:List Zx} {a:Zx} {m:Int} {κ:Kx} {ts:List Xt} (hM:∀b∈M,∃o,H0 b=some o) (h:PtA H0 H M a m ("("++Str.join " " (txF (Cy κ ts.length) ts)++")") ts) (hκ:κ= .row\/∃o,κ= .op o) (hv:(Xt.mk m κ ts).val=none) (hm:(Xt.mk m κ ts).me=meX ts):XtA (mask H M) (.ref a) (.mk m κ ts):=by
 obtain⟨A,h0,ea,hp⟩:=h;refine⟨a,.non,A,rfl,by rw[<-FW hκ];exact iK (Ah hM h0) ea,by rw[hv];exact .flat rfl,fun j j2 j5=>?_⟩;obtain⟨_,xs,e,i⟩:=hp j j2 j5;have S:gB (mask H (a::M)) (mask H M):=oS fun c hc=>aj _ hc;refine⟨xs,S _ _ e,?_⟩;have q:qD j (.mk m κ ts)=pD m j ts:=by unfold qD pD;rw[nH,hm,FX,hv,haO,aF]
 rw[q];exact i.mono (gB.tk S)
theorem FZ {K:Zp} {H:Hp} {N:List Zx} {a b:Zx} {xs ys:List V} {ds es:List Dt} {Q:VK} (ea:mask H N a=some (.tup xs)) (eb:mask H N b=some (.tup ys)) (ia:Ims (mask H N) xs ds) (ib:Ims (mask H N) ys es) (hl:xs.length+ys.length<=sizeLine) (hN:∀p,H p=none->p∉N) (q:∀(z:Zx) (zs:List V) (H':Hp),gB H H'->mask H' N z=some (.tup zs)->Ims (mask H' N) zs (ds++es)->Q (.ref z) H'):E5 K (.ref a) (.ref b) H Q:=by
 refine⟨a,b,xs,ys,rfl,rfl,SqT.of (gT _ _ ea),SqT.of (gT _ _ eb),hl,fun z=>?_,fun z=>?_,fun p hp=>?_⟩;·subst z;cases ia;exact q b ys H (fun _ _ e=>e) eb ib
 ·subst z;cases ib;rw[aF]at q;exact q a xs H (fun _ _ e=>e) ea ia
 ·exact q p _ _ (gb hp _) (iK (hN p hp) fY) ((ia.app ib).mono (gB.tk (gU (gb hp _))))
inductive XJn (vs':List V) (H:Hp) (Q:VK):Prop
 |mk (M:List Zx) (fr:Zx) (n:Nat) (xa xb:V) (a b:Xt) (l:List (Int×Int)) (p:Int) (e:vs'=[.ref fr,xa,xb]) (hM:∀b∈M,∃o,H b=some o) (hf:fr∈M) (ef:Fh H fr n) (hn:n<=900) (ha:XtA (mask H M) xa a) (hb:XtA (mask H M) xb b) (va:a.val=some (.row l p)) (la:l.length<=60) (vb:isR b.val\/b.val=none) (hz:a.ms.length+b.ms.length<=1000) (ht:a.tx.length<=100000/\b.tx.length<=100000) (q:∀x H',Fr [fr] H H'->Fh H' fr (n+ 1)->XtA (mask H' M) x (.mk ((n+ 1:Nat):Int) (.op "join") [a,b])->Q x H')
def tD:Sp:=fun vs H Q _=>XJn vs H Q
theorem tE (T:Txt K mg):FO P w base 2 T.d44 tD:=by
 refine T.d44.F.rd kz fun _ A _ s H vs Q E hr h=>?_;obtain⟨M,fr,n,xa,xb,a,b,l,p,rfl,hM,hf,ef,hn,ha,hb,va,la,vb,hz,ht,q⟩:=h;refine⟨_,(fW (pS (i:=3) kz.nd (pF T.d29 (jt T) hr.m (fV (cv 0) fX)))
  (fW (pS (i:=4) kz.nd (pF T.d32 (kH T) hr.m (fV (cv 3) (fV (gR (fV gu (fV kK (fV kK fX)))) (fV (gR (fV (cv 1) (fV (cv 2) fX))) fX)))))
  (fW (ij (oU (tK (gx gC (cv 2) fZ)))
   (gh (gH (cv 4)))
   gL)
  (fW (pS (i:=5) kz.nd (gR (fV (ik (fV (gx gE (gx gC (cv 1) fZ) fZ) (fV (cv 3) (fV fZ fX)))) (fV (ik (fV (gx gE (gx gC (cv 2) fZ) fZ) (fV (cv 3) (fV fZ fX)))) fX))))
  (fW (ij (gN zR (ic qE (gG gA rfl T.z_len iH (fV (gx gE (gx gC (cv 1) fZ) fZ) fX)) (gG gA rfl T.z_len iH (fV (gx gE (gx gC (cv 2) fZ) fZ) fX))) fZ)
   (fW (rF (ic qA (gx gC (cv 4) fZ) (cv 5)) (rE (cv 4) fZ lY))
   (gh (gH (cv 4))))
   gL)
  (gh (gH (pF T.d33 (jO T) hr.m (fV (cv 4) (fV (ik (fV gu (fV (ic Bm (gx gE (gx gC (cv 1) fZ) fZ) (gx gE (gx gC (cv 2) fZ) fZ)) (fV (cv 3) fX)))) (fV (cv 5) fX))))))))))),?_⟩;have sl:=sizeLine_eq;refine⟨fr,n,rfl,ef,by lia,?_⟩;have ef1:Fh (upd H fr (.lst (aI (n+ 1) .non))) fr (n+ 1):=fY;have F1:Fr [fr] H (upd H fr (.lst (aI (n+ 1) .non))):=kO;have hM1:=kJ (a:=fr) (o:= .lst (aI (n+ 1) .non)) hM;replace ha:=ha.same (nR F1 hf);replace hb:=hb.same (nR F1 hf);dsimp only[hJ];generalize upd H fr (.lst (aI (n+ 1) .non))=H1 at ef1 F1 hM1 ha hb⊢;refine⟨n8,fun pl k4=>⟨oT,fun il k5=>?_⟩⟩;have S4:=gb k4 (.lst [.str "join",.non,.non]);have S5:=gb k5 (.lst [xa,xb]);have g4:=S5 _ _ (fY (a:=pl) (o:= .lst [.str "join",.non,.non]));have g5:=fY (H:=upd H1 pl (.lst [.str "join",.non,.non])) (a:=il) (o:= .lst [xa,xb]);have S15:=S4.trans S5;dsimp only;generalize upd (upd H1 pl (.lst [.str "join",.non,.non])) il (.lst [xa,xb])=H5 at g4 g5 S15⊢;have hM5:∀b∈M,∃o,H5 b=some o:=fun b hb=>let⟨u,e⟩:=hM1 b hb;⟨u,S15 _ _ e⟩;replace ha:=ha.same (gU S15);replace hb:=hb.same (gU S15);have F5:=F1.trans (Fr.same (M:=[fr]) S15);have f5:=S15 _ _ ef1;have two:(msX [a,b]).length<=1000:=by rw[ms2];exact hz
 refine⟨M,((n+ 1:Nat):Int),pl,il,Cy (.op "join") [a,b].length,_,[a,b],rfl,hM5,g4,g5,.cons ha (.cons hb .nil),rfl,by show 3<=40;decide,two,fun w hw=>?_,fun t ht'=>?_,fun wl H6 S6 pt=>?_⟩;·have hw:some w∈([some "join",none,none]:List (Option Str)):=hw;simp only[ak,dw.injEq,bD,or_false,reduceCtorEq]at hw;rw[hw];decide+kernel
 ·rcases ak.mp ht' with rfl|ht';·exact ht.1
  ·rw[bj.mp ht'];exact ht.2
 dsimp only[hJ];have fin:∀{H':Hp},gB H5 H'->XtA (mask H' M) (.ref wl) (.mk ((n+ 1:Nat):Int) (.op "join") [a,b])->Q (.ref wl) H':=fun S X=>q _ _ (F5.trans (Fr.same S)) (S _ _ f5) X;obtain⟨ib,vi,B,rfl,eib,ivb,_⟩:=hb;refine⟨_,S6 _ _ (gT _ _ eib),gk (gj (j:=1) rfl) ⟨_,rfl,?_⟩⟩;rcases vb with⟨l',p',vb,lb⟩|vb
 ·rw[vb]at ivb;obtain⟨tb,ub,zb,rfl,etb,eub,izb⟩:=nZ (show Im (mask H5 M) vi (Vl.row l' p').d from ivb);obtain⟨ia,va',A',rfl,eia,iva,_⟩:=ha;rw[va]at iva;obtain⟨ta,ua,za,rfl,eta,eua,iza⟩:=nZ (show Im (mask H5 M) va' (Vl.row l p).d from iva);have lza:=iza.length;have lzb:=izb.length;rw[aE]at lza lzb;have vv:=Ie va vb;obtain⟨nv,nm⟩:=qK (m:=((n+ 1:Nat):Int)) (κ:= .op "join") vv;have nv:(Xt.mk ((n+ 1:Nat):Int) (.op "join") [a,b]).val=if l.length+l'.length<=60 then some (.row (l++l') ((n+ 1:Nat):Int))else none:=nv;have nm:(Xt.mk ((n+ 1:Nat):Int) (.op "join") [a,b]).me=meX [a,b]++[(p,((n+ 1:Nat):Int),0),(p',((n+ 1:Nat):Int),1)]:=nm;have k6:∀{c:Zx} {u:HO},mask H5 M c=some u->H6 c=some u:=fun e=>S6 _ _ (gT _ _ e);dsimp only;rw[iw (fun z=>nomatch z)];refine iV ⟨_,k6 eia,gk (gj (j:=1) rfl) ⟨_,k6 eta,gk (gj (j:=2) rfl) ⟨n8,fun t1 j1=>?_⟩⟩⟩;have S7:=gb j1 (.tup [.int p,.int ((n+ 1:Nat):Int),.int 0]);refine⟨_,S7 _ _ (k6 eib),gk (gj (j:=1) rfl) ⟨_,S7 _ _ (k6 etb),gk (gj (j:=2) rfl) ⟨n8,fun t2 j2=>⟨oT,fun ml j3=>?_⟩⟩⟩⟩;have S8:=gb j2 (.tup [.int p',.int ((n+ 1:Nat):Int),.int 1]);have S9:=gb j3 (.lst [.ref t1,.ref t2]);have S69:=(S7.trans S8).trans S9;have y1:=(S8.trans S9) _ _ (fY (a:=t1) (o:= .tup [.int p,.int ((n+ 1:Nat):Int),.int 0]));have y2:=S9 _ _ (fY (a:=t2) (o:= .tup [.int p',.int ((n+ 1:Nat):Int),.int 1]));have y3:=fY (H:=upd (upd H6 t1 (.tup [.int p,.int ((n+ 1:Nat):Int),.int 0])) t2 (.tup [.int p',.int ((n+ 1:Nat):Int),.int 1])) (a:=ml) (o:= .lst [.ref t1,.ref t2]);have m2:=S7.free j2;have m3:=(S7.trans S8).free j3;dsimp only[hJ];generalize upd (upd (upd H6 t1 (.tup [.int p,.int ((n+ 1:Nat):Int),.int 0])) t2 (.tup [.int p',.int ((n+ 1:Nat):Int),.int 1])) ml (.lst [.ref t1,.ref t2])=H9 at S69 y1 y2 y3⊢;have S59:=S6.trans S69;have pt9:=pt.same S69;have k9:∀{c:Zx} {u:HO},mask H5 M c=some u->H9 c=some u:=fun e=>S69 _ _ (k6 e);have im:Ims (mask H9 (wl::M)) [.ref t1,.ref t2] (([(p,((n+ 1:Nat):Int),0),(p',((n+ 1:Nat):Int),1)]:List (Int×Int×Int)).map meD):= .cons (.tup (nwN hM5 pt S6 j1 y1) (.cons (.flat rfl) (.cons (.flat rfl) (.cons (.flat rfl) .nil)))) (.cons (.tup (nwN hM5 pt S6 m2 y2) (.cons (.flat rfl) (.cons (.flat rfl) (.cons (.flat rfl) .nil)))) .nil);have eml:=nwN hM5 pt S6 m3 y3;refine⟨_,k9 eia,gk (gj (j:=1) rfl) ⟨_,k9 eta,gk (gj (j:=1) rfl) ⟨ua,_,rfl,.inr (SqT.of (k9 eua)),_,k9 eib,gk (gj (j:=1) rfl) ⟨_,k9 etb,gk (gj (j:=1) rfl) ⟨ub,_,rfl,.inr (SqT.of (k9 eub)),?_⟩⟩⟩⟩⟩;dsimp only[tC,cI0,onB];by_cases h60:l.length+l'.length<=60
  ·rw[gY h60]at nv;rw[iw (show ¬(60:Int)<(za.length:Int)+(zb.length:Int) by lia)];refine iV ?_;dsimp only[qM];refine⟨_,k9 eia,gk (gj (j:=1) rfl) ⟨_,k9 eta,gk (gj (j:=1) rfl) ⟨_,k9 eib,gk (gj (j:=1) rfl) ⟨_,k9 etb,gk (gj (j:=1) rfl) ?_⟩⟩⟩⟩;have kN:∀{c:Zx} {u:HO},mask H5 M c=some u->mask H9 (wl::M) c=some u:=fun e=>nwO pt9 S59 (jz e).2 (jz e).1;have ewl:∃o,H6 wl=some o:=by obtain⟨A,_,e,_⟩:=pt;exact⟨_,e⟩
   refine FZ (N:=wl::M) (kN eua) (kN eub) (iza.mono fun a xs e=>kN e) (izb.mono fun a xs e=>kN e) (by lia) (fun c hc z=>?_) fun zz zs H10 S10 ez iz=>?_
   ·rcases ak.mp z with z|z;·obtain⟨o,e⟩:=ewl;rw[z,S69 _ _ e]at hc;cases hc
    ·exact Ah hM5 (S59.free hc) z
   rw[<-bo]at iz;refine⟨n8,fun tv j4=>?_⟩;have S11:=gb j4 (.tup [.str "row",.ref zz,.int ((n+ 1:Nat):Int)]);have S911:=S10.trans S11;have S611:=S69.trans S911;have K911:gB (mask H9 (wl::M)) (mask (upd H10 tv (.tup [.str "row",.ref zz,.int ((n+ 1:Nat):Int)])) (wl::M)):=gU S911;have vu:(Kx.op "join").v ((n+ 1:Nat):Int) [.row l p,.row l' p']=some (.row (l++l') ((n+ 1:Nat):Int)):=by show(if l.length+l'.length<=60 then some (Vl.row (l++l') ((n+ 1:Nat):Int))else none)=_;rw[gY h60]
   have V:XVa [.ref wl,.ref tv,.ref ml] (upd H10 tv (.tup [.str "row",.ref zz,.int ((n+ 1:Nat):Int)])) Q:=pM (κ:= .op "join") (u:= .row (l++l') ((n+ 1:Nat):Int)) hM5 (S59.trans S911) (pt9.same S911) (.inr ⟨_,rfl⟩) vv vu (.tup (nwN hM5 pt S6 ((S69.trans S10).free j4) fY) (.cons (.flat rfl) (.cons (.tup (gU S11 _ _ ez) (iz.mono (gB.tk (gU S11)))) (.cons (.flat rfl) .nil)))) (K911 _ _ eml) (im.mono (gB.tk K911)) two (by show 2<=10;decide) fun H12 S12 X=>fin S12 X;exact V
  ·rw[gJ h60]at nv;rw[hV (show(60:Int)<(za.length:Int)+(zb.length:Int) by lia)];obtain⟨A,h0,ea,hp⟩:=pt9;obtain⟨n4,x4,e4,i4⟩:=hp 4 (by decide) (by decide);have l4:=i4.length;have b4:=zj ((n+ 1:Nat):Int) 4 [a,b];refine jl ⟨_,ea,gk (gj (j:=4) rfl) ⟨_,_,_,_,rfl,rfl,gT _ _ e4,gT _ _ eml,by show _+ 2<=_;lia,fun r hr'=>?_⟩⟩;have S10:=gb hr' (.lst (x4++[.ref t1,.ref t2]));have nr:r∉wl::M:=fun z=>by
    rcases ak.mp z with z|z;·rw[z,ea]at hr';cases hr'
    ·exact Ah hM5 (S59.free hr') z
   refine⟨wl,_,4,4,rfl,rfl,S10 _ _ ea,rfl,?_⟩;have F11:Fr (wl::M) (upd H9 r (.lst (x4++[.ref t1,.ref t2]))) (upd (upd H9 r (.lst (x4++[.ref t1,.ref t2]))) wl (.lst [.str ("("++Str.join " " (txF (Cy (.op "join") [a,b].length) [a,b])++")"),.non,.ref (A 2),.ref (A 3),.ref r])):=kO.le (fun b hb=>by rw[bj.mp hb];exact ah);have K11:gB (mask H9 (wl::M)) (mask (upd (upd H9 r (.lst (x4++[.ref t1,.ref t2]))) wl (.lst [.str ("("++Str.join " " (txF (Cy (.op "join") [a,b].length) [a,b])++")"),.non,.ref (A 2),.ref (A 3),.ref r])) M):=fun c u e=>oS (fun c hc=>aj _ hc) _ _ (F11.mask _ _ (gU S10 _ _ e));refine fin (hI (S59.trans S10) h0 _) ⟨wl,.non,fun j=>if j=2 then A 2 else if j=3 then A 3 else r,rfl,by rw[<-FW (.inr ⟨_,rfl⟩)];exact iK (Ah hM5 h0) fY,by rw[nv];exact .flat rfl,fun j j2 j5=>?_⟩;obtain rfl|rfl|rfl:j=2\/j=3\/j=4:=by lia
   ·obtain⟨_,xs,e,i⟩:=hp 2 (by decide) (by decide);exact⟨xs,K11 _ _ e,by show Ims _ _ ((Xt.mk ((n+ 1:Nat):Int) (.op "join") [a,b]).ms.map kD);rw[nH];exact i.mono (gB.tk K11)⟩
   ·obtain⟨_,xs,e,i⟩:=hp 3 (by decide) (by decide);exact⟨xs,K11 _ _ e,by show Ims _ _ ((Xt.mk ((n+ 1:Nat):Int) (.op "join") [a,b]).ha.map haD);rw[FX,nv,haO,aF];exact i.mono (gB.tk K11)⟩
   ·exact⟨_,oS (fun c hc=>aj _ hc) _ _ (F11.mask _ _ (iK nr fY)),by show Ims _ _ ((Xt.mk ((n+ 1:Nat):Int) (.op "join") [a,b]).me.map meD);rw[nm,bo];exact(i4.mono (gB.tk K11)).app (im.mono (gB.tk K11))⟩
 ·rw[vb]at ivb;cases ivb;dsimp only;rw[hV rfl];have vn:ko [a,b]=none:=by rw[ko,va,ko,vb]
  refine jl (fin S6 (pt.non hM5 (.inr ⟨_,rfl⟩) (by rw[Xt.val,vn]) (by rw[Xt.me,vn,meO,aF])))
open GR.Internal (isName)
def gv (t:Xt):Vl:=t.val.getD (.num 0 0)
theorem vx {ws:Zd} {t:Xt}:∀{ts:List Xt} {vs:List Vl},okX ws vs ts->t.ok ws (vs++ts.map gv)->okX ws vs (ts++[t])
 |[],vs,_,h=>⟨by rw[aW,aF]at h;exact h,trivial⟩
 |u::ts,vs,k,h=>⟨k.1,vx k.2 (by rw[bM];exact h)⟩
theorem wQ {t:Xt}:∀{ts:List Xt},(∀u∈ts,isR u.val)->ve (ts++[t])
 |[],_=>⟨(fun _=>rfl),trivial⟩
 |u::ts,h=>⟨fun z=>absurd z (by obtain⟨l,p,e,_⟩:=h u ah;rw[e];exact fun y=>nomatch y),wQ fun v hv=>h v (aj _ hv)⟩
theorem It2.join {ws:Zd} {vs:List Vl} {t:Xt} {lo m d k:Nat} {w:Str} {l:List (Int×Int)} {p:Int} (h:It2 ws vs t lo m d) (hd:1<=d) (wk:ws[k]?=some w) (vk:vs[k]?=some (.row l p)) (l6:l.length<=60) (hm:lo<=m):
  (isR t.val->It2 ws vs (.mk ((m+ 1+ 1:Nat):Int) (.op "join") [t,.mk ((m+ 1:Nat):Int) (.nam w k (.row l p)) []]) lo (m+ 2) (d+ 1))/\It2 ws vs (.mk ((m+ 1+ 1:Nat):Int) (.op "join") [.mk ((m+ 1:Nat):Int) (.nam w k (.row l p)) [],t]) lo (m+ 2) (d+ 1):=by
 have nv:(Xt.mk ((m+ 1:Nat):Int) (.nam w k (.row l p)) []).val=some (.row l p):=by rw[pL];rfl
 have no:(Xt.mk ((m+ 1:Nat):Int) (.nam w k (.row l p)) []).ok ws vs:=by rw[Xt.ok,okL];exact⟨⟨rfl,wk,vk⟩,trivial⟩
 have nn:(Xt.mk ((m+ 1:Nat):Int) (.nam w k (.row l p)) []).tr.nest=1:=by rw[jj,iL]
 have hl:=h.l;have hns:=h.ns;have vjn:∀{a b:Xt} {q:Int},isR a.val->isR b.val->isR (Xt.mk q (.op "join") [a,b]).val\/(Xt.mk q (.op "join") [a,b]).val=none:=fun{a b q} ⟨l1,p1,e1,h1⟩ ⟨l2,p2,e2,h2⟩=>by
  rw[(qK (Ie e1 e2)).1];show isR (if l1.length+l2.length<=60 then some (Vl.row (l1++l2) q)else none)\/(if l1.length+l2.length<=60 then some (Vl.row (l1++l2) q)else none)=none;by_cases z:l1.length+l2.length<=60;·rw[gY z];exact .inl ⟨_,_,rfl,by rw[aQ];exact z⟩
  ·exact .inr (gJ z)
 have r1:∀x,x=((m+ 1+ 1:Nat):Int)\/x∈t.ms\/x=((m+ 1:Nat):Int)->(lo:Int)<x/\x<=((m+ 2:Nat):Int):=fun x hx=>by
  rcases hx with rfl|hx|rfl;·lia
  ·have:=h.rg x hx;lia
  ·lia
 have n1:((m+ 1:Nat):Int)∉t.ms:=fun z=>by have:=h.rg _ z;lia
 have n2:((m+ 1+ 1:Nat):Int)∉t.ms:=fun z=>by have:=h.rg _ z;lia
 refine⟨fun hv=>⟨?_,vjn hv ⟨_,_,nv,l6⟩,?_,fun x hx=>r1 x ?_,?_,?_⟩,?_,?_,?_,fun x hx=>r1 x ?_,?_,?_⟩;·rw[Xt.ok,okL,okL,okL];exact⟨.inr (.inr (.inr ⟨rfl,_,_,rfl,hv,.inl ⟨_,_,nv,l6⟩⟩)),h.ok,no,trivial⟩
 ·rw[nH,msX,msX,msX,kn,aF,aG,b9];refine⟨fun z=>?_,h.nd,aG.mpr ⟨(fun z=>nomatch z),cg⟩,fun x hx y hy z=>n1 ?_⟩
  ·rcases ao.mp z with z|z;·exact n2 z
   ·have:=bj.mp z;lia
  ·rw[<-bj.mp hy,<-z];exact hx
 ·rw[nH,msX,msX,msX,kn,aF]at hx;rcases ak.mp hx with hx|hx;·exact .inl hx
  ·rcases ao.mp hx with hx|hx;·exact .inr (.inl hx)
   ·exact .inr (.inr (bj.mp hx))
 ·rw[jj,iC,iC,iL,nn];lia
 ·rw[nH,aB,ms2,kn,bc];lia
 ·rw[Xt.ok,okL,okL,okL];exact⟨.inr (.inr (.inr ⟨rfl,_,_,rfl,⟨_,_,nv,l6⟩,h.nv⟩)),no,h.ok,trivial⟩
 ·rcases h.nv with hv|hv;·exact vjn ⟨_,_,nv,l6⟩ hv
  ·exact .inr (by rw[Xt.val,ko,ko,nv,hv])
 ·rw[nH,msX,msX,msX,kn,aF,aG,aU,bT,aG];refine⟨fun z=>?_,n1,h.nd⟩;rcases ak.mp z with z|z;·lia
  ·exact n2 z
 ·rw[nH,msX,msX,msX,kn,aF,aU,bT]at hx;rcases ak.mp hx with hx|hx;·exact .inl hx
  ·rcases ak.mp hx with hx|hx;·exact .inr (.inr hx)
   ·exact .inr (.inl hx)
 ·rw[jj,iC,iC,iL,nn];lia
 ·rw[nH,aB,ms2,kn,bc];lia
theorem Ih {N:Int} (h1:2<=N) (h2:N<=63):1<=rsz 1 N 7/\rsz 1 N 7<=9:=by unfold rsz;rw[gY (by lia)];lia
theorem Ci (ns:List Int) (k:Nat):∃ms:List Int,xy (ns.map V.int) (some (1+(k:Int)*7)) (some (1+(k:Int)*7+ 7))=ms.map V.int/\ms.length<=7:=by
 refine⟨(ns.drop (HT.Internal.sIx (ns.map V.int).length 0 (some (1+(k:Int)*7)))).take (HT.Internal.sIx (ns.map V.int).length (ns.map V.int).length (some (1+(k:Int)*7+ 7))-HT.Internal.sIx (ns.map V.int).length 0 (some (1+(k:Int)*7))),?_,?_⟩;·unfold xy;rw[<-List.map_drop,<-List.map_take]
 ·rw[aK];have e:∀{d:Nat} {v:Int},0<=v->HT.Internal.sIx (ns.map V.int).length d (some v)=min v.toNat (ns.map V.int).length:=fun h=>gJ (by lia);rw[e (by lia),e (by lia)];lia
structure Fin (ws:Zd) (ts:List Xt):Prop where
 ok:okX ws [] ts
 la:ve ts
 nd:(msX ts).Nodup
 ns:∀t∈ts,t.tr.nest<=24
 l1:1<=ts.length
 l12:ts.length<=9
 l:(msX ts).length<=159
 rv:∀t∈ts,t.val≠none->isR t.val
structure Df (ws:Zd) (ts:List Xt) (n:Nat):Prop where
 ok:okX ws [] ts
 rv:∀t∈ts,isR t.val
 nd:(msX ts).Nodup
 rg:∀m∈msX ts,((0:Nat):Int)<m/\m<=(n:Int)
 ns:∀t∈ts,t.tr.nest<=24
 l:(msX ts).length<=n
theorem Df.snoc {ws:Zd} {ts:List Xt} {t:Xt} {n n':Nat} (d:Df ws ts n) (g:It2 ws (ts.map gv) t n n' 24) (h:n<=n'):okX ws [] (ts++[t])/\(msX (ts++[t])).Nodup/\(∀m∈msX (ts++[t]),((0:Nat):Int)<m/\m<=(n':Int))/\(∀u∈ts++[t],u.tr.nest<=24)/\(msX (ts++[t])).length<=n':=by
 obtain⟨a,b⟩:=Ej d.nd g.nd d.rg g.rg (cO _) h;rw[<-rm]at a b;refine⟨vx d.ok g.ok,a,b,fun u hu=>?_,?_⟩
 ·rcases ao.mp hu with hu|hu;·exact d.ns u hu
  ·rw[bj.mp hu];exact g.ns
 ·rw[rm,aQ];have:=d.l;have:=g.l;lia
theorem Df.lst {ws:Zd} {ts:List Xt} {n:Nat} (d:Df ws ts n) (h:ts.length<=ws.length):Lst ws (ts.map gv) ts:=by
 by_cases z:ts=[];·exact .inl z
 ·obtain⟨us,u,hu⟩:∃us u,ts=us++[u]:=⟨_,_,(bI z).symm⟩;obtain⟨l,p,e,l6⟩:=d.rv u (by rw[hu];exact aA _ (cD _));have hul:ts.length=us.length+ 1:=by rw[hu,aQ];rfl
  obtain⟨w,hw⟩:∃w,ws[us.length]?=some w:=⟨_,bB (by lia)⟩;refine .inr ⟨us,u,l,p,w,hu,e,l6,?_,hw⟩;rw[aO,hu,aM (cM _),df];show some (gv u)=_;rw[gv,e];rfl
open GR.Internal (isName)
theorem DG (ns:List Int) (lo hi:Option Int):∃ms:List Int,xy (ns.map V.int) lo hi=ms.map V.int/\ms.length<=ns.length:=by
 refine⟨(ns.drop (HT.Internal.sIx (ns.map V.int).length 0 lo)).take (HT.Internal.sIx (ns.map V.int).length (ns.map V.int).length hi-HT.Internal.sIx (ns.map V.int).length 0 lo),?_,?_⟩;·unfold xy;rw[<-List.map_drop,<-List.map_take]
 ·rw[aK,aY];lia
inductive ItH (H1 H':Hp) (M:List Zx) (fr:Zx) (ws:Zd) (vs:List Vl) (n b j:Nat) (x:V):Prop
 |mk (t:Xt) (m:Nat) (F:Fr [fr] H1 H') (f:Fh H' fr m) (X:XtA (mask H' M) x t) (g:It2 ws vs t n m (4+j)) (h0:j=0->isR t.val) (h1:n<m) (h2:m<=b+ 2*j)
inductive XIt (K:Zp) (vs:List V) (H:Hp) (Q:VK):Prop
 |mk (wl sc:Zx) (ws:Zd) (ns:List Int) (e:vs=[.ref wl,.ref sc]) (hw:Wd H wl ws) (hs:SqL K H sc (ns.map V.int)) (hl:ns.length<=63) (q:∀il xs ts H',gB H H'->H il=none->H' il=some (.lst xs)->rk H' xs ts->Fin ws ts->Q (.ref il) H')
def vy (K:Zp):Sp:=fun vs H Q _=>XIt K vs H Q
theorem vz (T:Txt K mg):FO P w base 5 T.d45 (vy K):=by
 refine T.d45.F.rd iA fun _ A _ s H vs Q E hr h=>?_;obtain⟨wl,sc,ws,ns,rfl,hw,hs,hl,q⟩:=h;refine⟨_,(fW (pS (i:=2) iA.nd (gR fX))
  (fW (pS (i:=3) iA.nd (gR fX))
  (fW (jk PassesOwn.never rfl (Bq rfl T.z_range (fV fZ (fV (gG (vI rfl) rfl T.z_max D1 (fV fZ (fV (gG (Az rfl) rfl T.z_min G3 (fV (gG gA rfl T.z_len iH (fV (cv 1) fX)) (fV fZ fX))) fX))) (fV fZ fX)))) (pN (i:=4) iA.nd)
   (fW (pS (i:=5) iA.nd (ph AR (cv 1) (pU (cv 4)) (pU (ic qE (cv 4) fZ))))
   (fW (pS (i:=6) iA.nd (pF T.d43 (yk T) hr.m (fV (cv 2) (fV (cv 0) (fV (cv 3) (fV (cv 5) fX))))))
   (fW (pS (i:=7) iA.nd (ic lT (ic lK (gG (v7 rfl) rfl T.z_sum DT (fV (cv 5) fX)) fZ) fZ))
   (fW (jk PassesOwn.never rfl (mJ rfl T.z_range (fV (ic Ha (gx gC (gR (fV fZ (fV fZ (fV fZ (fV fZ (fV fZ fX)))))) (cv 7)) (jL AA rfl T.z_int yD (fV (oh zR (gG gA rfl T.z_len iH (fV (cv 3) fX)) fZ) fX))) fX)) (pN (i:=8) iA.nd)
    (fW (pS (i:=9) iA.nd (pF T.d31 (mD T) hr.m (fV (cv 2) (fV (gx gC (cv 0) (ic rR (gG gA rfl T.z_len iH (fV (cv 3) fX)) fZ)) (fV (gx gC (gx gC (cv 3) (vF qw fZ)) fZ) fX)))))
    (gh (ij (gN lU (cv 7) fZ)
     (gh (pS (i:=6) iA.nd (pF T.d44 (tE T) hr.m (fV (cv 2) (fV (cv 6) (fV (cv 9) fX))))))
     (gh (pS (i:=6) iA.nd (pF T.d44 (tE T) hr.m (fV (cv 2) (fV (cv 9) (fV (cv 6) fX))))))))))
   (fW (gK (ja (jM eX eY eZ gS (PE.mono (cv 3)) (fV (PE.mono (cv 6)) fX))))
   (gh (ij (oU (tK (gx gC (cv 6) fZ)))
    (gh (gH (cv 3)))
    gL))))))))
  (gh (gH (cv 3)))))),?_⟩;have sl:=sizeLine_eq;have l16:=hw.l;refine⟨qL,fun fr hfr=>?_⟩;have S1:=gb hfr (.lst []);have ef:(upd H fr (.lst [])) fr=some (.lst []):=fY;dsimp only[hJ];generalize upd H fr (.lst [])=H1 at S1 ef⊢;refine⟨qL,fun il hil=>?_⟩;have S2:=gb hil (.lst []);have ei:(upd H1 il (.lst [])) il=some (.lst []):=fY;have nif:il≠fr:=(gm ef hil).symm;have hil0:=S1.free hil;have S02:=S1.trans S2;replace ef:=S2 _ _ ef;dsimp only[hJ];generalize upd H1 il (.lst [])=H2 at S02 ef ei⊢;clear S1 S2 hil;have mH:∀{H':Hp} {b:Zx} {u:HO},gB H H'->H b=some u->mask H' [fr,il] b=some u:=fun S e=>iK (fun z=>by
  rcases ak.mp z with z|z;·rw[z,hfr]at e;cases e
  ·rw[bj.mp z,hil0]at e;cases e) (S _ _ e);obtain⟨N,eN,N1,N2⟩:∃N:Int,(if(if(64:Int)<((ns.map V.int).length:Int)then 64 else((ns.map V.int).length:Int))>2 then(if(64:Int)<((ns.map V.int).length:Int)then 64 else((ns.map V.int).length:Int))else 2)=N/\2<=N/\N<=63:=⟨_,rfl,by rw[aE];split<;>lia,by rw[aE];split<;>(try split)<;>lia⟩;obtain⟨r1,r2⟩:=Ih N1 N2;refine⟨sc,_,rfl,.inl (S02.seq hs),_,_,rfl,_,_,rfl,1,N,7,by rw[<-eN],⟨by decide,by decide,by lia,by lia,by decide,by decide⟩,?_⟩;refine Dc (fun i σ H3=>X9 fun o4 o5 o6 o7 o8 o9 xs ts n=>Y9 (σ=[some (.ref wl),some (.ref sc),some (.ref fr),some (.ref il),o4,o5,o6,o7,o8,o9]) (gB H H3) (Fh H3 fr n) (H3 il=some (.lst xs)) (rk (mask H3 [fr,il]) xs ts) (Df ws ts n) (ts.length=i) ((i=0->n=0)) (n<=43+ 12*i)) ⟨none,none,none,none,none,none,[],[],0,rfl,S02,ef,ei,.nil,⟨trivial,(fun t ht=>nomatch ht),cg,(fun m hm=>nomatch hm),(fun t ht=>nomatch ht),cM _⟩,rfl,fun _=>rfl,by lia⟩ ?_ ?_
 ·rintro i σ H3 hi ⟨o4,o5,o6,o7,o8,o9,xs,ts,n,rfl,S3,f3,e3,x3,d3,lt,ln0,ln⟩;have lx:=x3.len;dsimp only[hJ];obtain⟨ks,ek,lk⟩:=Ci ns i;refine⟨_,rfl,_,rfl,sc,_,rfl,S3.seq hs,fun cl hcl=>?_⟩;rw[ek];have S4:=gb hcl (.lst (ks.map V.int));have ec:=fY (H:=H3) (a:=cl) (o:= .lst (ks.map V.int));have ncf:cl≠fr:=(gm f3 hcl).symm;have nci:cl≠il:=(gm e3 hcl).symm;replace f3:=S4 _ _ f3;replace e3:=S4 _ _ e3;replace x3:=x3.same (gU S4);replace S3:=S3.trans S4;dsimp only[hJ];generalize upd H3 cl (.lst (ks.map V.int))=H4 at ec f3 e3 x3 S3⊢;clear S4 hcl;have dom:∀{H':Hp} {k:Nat},Fh H' fr k->Fr [fr] H4 H'->∀b∈[fr,il],∃o,H' b=some o:=fun f F b hb=>by
   rcases ak.mp hb with rfl|hb;·exact⟨_,f⟩
   ·rw[bj.mp hb];exact⟨_,F _ _ e3 (fun z=>nif (bj.mp z))⟩
  have hl4:=d3.lst (show ts.length<=ws.length by lia);refine⟨ws,ts.map gv,[fr,il],fr,wl,il,cl,n,xs,ts,ks,rfl,⟨dom f3 (fun _ _ e _=>e),ah,f3,hw.n,mH S3 hw.e,e3,nif,x3,hl4⟩,by lia,ec,ncf,lk,fun x H5 t n' F5 f5 X5 g5 rt h1 h2 h3=>?_⟩;dsimp only[hJ];have ec5:=F5 _ _ ec (fun z=>ncf (bj.mp z));refine⟨cl,ks,rfl,SqL.of ec5,fun s0=>⟨⟨by decide,by decide⟩,(by show(0:Int)<5;decide),?_⟩⟩;dsimp only[hJ];obtain⟨ch,ech,lch⟩:=emN (s0/3) (m:=5) (by decide);rw[ech];have e5:=F5 _ _ e3 (fun z=>nif (bj.mp z));refine⟨Ip,fun l5 k5=>?_⟩;have S6:=gb k5 (.lst [.int 0,.int 1,.int 1,.int 1,.int 2]);obtain⟨c5,hc5,c52,c51⟩:∃c:Nat,([V.int 0,.int 1,.int 1,.int 1,.int 2])[ch]?=some (.int (c:Int))/\c<=2/\(ch=1->c<=1):=by
   match ch,(show ch<5 by lia)with
   |0,_=>exact⟨0,rfl,by decide,fun z=>by cases z⟩
   |1,_=>exact⟨1,rfl,by decide,fun _=>by decide⟩
   |2,_=>exact⟨1,rfl,by decide,fun z=>by cases z⟩
   |3,_=>exact⟨1,rfl,by decide,fun z=>by cases z⟩
   |4,_=>exact⟨2,rfl,by decide,fun z=>by cases z⟩
  refine⟨_,fY,gk (v:=V.int (c5:Int)) (gj hc5) ⟨il,_,rfl,.inl (SqL.of (S6 _ _ e5)),.inr ⟨_,rfl,?_⟩⟩⟩;obtain⟨r,hr,hr2,hr1,hr0⟩:∃r:Nat,(c5:Int)*(if decide ((0:Int)<(xs.length:Int))=true then 1 else 0)=(r:Int)/\r<=2/\(ch=1->r<=1)/\(ts=[]->r=0):=by
   by_cases z:(0:Int)<(xs.length:Int);·refine⟨c5,by rw[hV z,gY rfl,Int.mul_one],c52,c51,fun y=>?_⟩;rw[y]at lx;rw[lx]at z;cases z
   ·exact⟨0,by rw[iw z,gJ fg,Int.mul_zero];rfl,by decide,fun _=>by decide,fun _=>rfl⟩
  have F6:=F5.trans (Fr.same (M:=[fr]) S6);replace f5:=S6 _ _ f5;replace X5:=X5.same (gU S6);have e6:=S6 _ _ e5;dsimp only;generalize upd H5 l5 (.lst [.int 0,.int 1,.int 1,.int 1,.int 2])=H6 at F6 f5 X5 e6⊢;refine⟨?_,?_⟩;·exact .inl ⟨by lia,by lia⟩
  dsimp only;rw[hr];have b0:n<=n':=by lia
  refine⟨(r:Int),rfl,by lia,by lia,?_⟩;refine mK (D:={nx:=_,rt:=Q,bk:=fun _ _=>True,ct:=fun _ _=>True}) (fun j σ H7=>X3 fun o8 o9 x=>σ=[some (.ref wl),some (.ref sc),some (.ref fr),some (.ref il),some (.int (1+(i:Int)*7)),some (.ref cl),some x,some (.int (ch:Int)),o8,o9]/\ItH H4 H7 [fr,il] fr ws (ts.map gv) n n' j x) ⟨o8,o9,x,rfl,t,n',F6,f5,X5,g5,fun _=>rt,h1,by lia⟩ ?_ ?_
  ·rintro j σ H7 hj ⟨o8,o9,x,rfl,⟨t,m,F7,f7,X7,g7,g0,m1,m2⟩⟩;rw[fC]at hj;have ne:ts≠[]:=fun z=>by have:=hr0 z;lia
   obtain⟨us,u,l,p,w,hu,uv,l6,vk,wk⟩:=hl4.resolve_left ne;have hk:ts[us.length]?=some u:=by rw[hu,aM (cM _),df];rfl
   have hul:ts.length=us.length+ 1:=by rw[hu,aQ];rfl
   have hM7:=dom f7 F7;have x7:=x3.same (nR F7 ah);obtain⟨xu,hxu,hX⟩:=x7.at hk;obtain⟨zs,y,hys⟩:∃ys y,xs=ys++[y]:=⟨_,_,(bI (fun e=>by rw[e]at lx;rw[<-lx]at hul;cases hul)).symm⟩;have hy:y=xu:=by
    have l2:zs.length=us.length:=by
     have:xs.length=zs.length+ 1:=by rw[hys,aQ];rfl
     lia
    rw[hys,aM (by lia),l2,df]at hxu;cases hxu;rfl
   subst hy;obtain⟨ai,vi,B,rfl,eai,ivi,_⟩:=hX;rw[uv]at ivi;have e7:=F7 _ _ e3 (fun z=>nif (bj.mp z));have S7:gB H H7:=fun b u e=>F7 _ _ (S3 _ _ e) (fun z=>by rw[bj.mp z,hfr]at e;cases e);have bm:m<=200:=by
    by_cases z:50<=n;·have:=h2 (.inl z);lia
    ·have:=h3 (by lia);lia
   refine⟨il,_,rfl,.inl (SqL.of e7),_,S7 _ _ hw.e,gk (v:=V.str w) (show atI (ws.map V.str) ((xs.length:Int)-1)=some (.str w) by rw[show((xs.length:Int)-1)=((us.length:Nat):Int) by lia];exact gj (by rw[aO,wk];rfl)) ⟨_,rfl,_,e7,gk (v:=V.ref ai) (by rw[hys];exact qv zs _) ⟨_,gT _ _ eai,gk (gj (j:=1) rfl) ?_⟩⟩⟩;refine⟨[fr,il],fr,m,us.length,w,vi,.row l p,rfl,hM7,ah,f7,by lia,ivi,fun xn H8 F8 f8 X8=>?_⟩;dsimp only[hJ];have F48:=F7.trans F8;have hM8:=dom f8 F48;have X7':=X7.same (nR F8 ah);obtain⟨jn1,jn2⟩:=g7.join (by lia) wk vk l6 (by lia);have lt7:=g7.l;have tt:=Ai hw.n g7.ok (by lia);have tn:=Cf (m:=((m+ 1:Nat):Int)) (k:=us.length) (v:= .row l p) (nP (hw.n w (aP wk))).2;have nv:(Xt.mk ((m+ 1:Nat):Int) (.nam w us.length (.row l p)) []).val=some (.row l p):=by rw[pL];rfl
   have nl:(Xt.mk ((m+ 1:Nat):Int) (.nam w us.length (.row l p)) []).ms.length=1:=by rw[kn];rfl
   show(if(false ^^ decide ((ch:Int)=1))=true then _ else _);rw[fo];by_cases z:(ch:Int)=1
   ·rw[hV z];have j0:j=0:=by have:=hr1 (by lia);lia
    obtain⟨lt',pt',evt,l6'⟩:=g0 j0;refine jl ⟨[fr,il],fr,m+ 1,x,xn,t,_,lt',pt',rfl,hM8,ah,f8,by lia,X7',X8,evt,l6',.inl ⟨_,_,nv,l6⟩,by rw[nl];lia,⟨tt,tn⟩,fun x9 H9 F9 f9 X9=>?_⟩;exact⟨_,_,x9,rfl,_,m+ 2,F48.trans F9,f9,X9,jn1 ⟨_,_,evt,l6'⟩,fun z=>absurd z (cW _),by lia,by lia⟩
   ·rw[iw z];refine iV ⟨[fr,il],fr,m+ 1,xn,x,_,t,l,p,rfl,hM8,ah,f8,by lia,X8,X7',nv,l6,g7.nv,by rw[nl];lia,⟨tn,tt⟩,fun x9 H9 F9 f9 X9=>?_⟩;exact⟨_,_,x9,rfl,_,m+ 2,F48.trans F9,f9,X9,jn2,fun z=>absurd z (cW _),by lia,by lia⟩
  ·rintro σ H7 ⟨o8,o9,x,rfl,⟨t,m,F7,f7,X7,g7,g0,m1,m2⟩⟩;rw[fC]at m2 g7;have g24:It2 ws (ts.map gv) t n m 24:=⟨g7.ok,g7.nv,g7.nd,g7.rg,cH g7.ns (by lia),g7.l⟩;have e7:=F7 _ _ e3 (fun z=>nif (bj.mp z));have S7:gB H H7:=fun b u e=>F7 _ _ (S3 _ _ e) (fun z=>by rw[bj.mp z,hfr]at e;cases e);have bm:m<=43+ 12*(i+ 1):=by
    by_cases zi:i=0;·have z0:=ln0 zi;have ze:ts=[]:=bS (by lia);have:=h2 (.inr ze);have:=hr0 ze;lia
    ·by_cases z:50<=n;·have:=h2 (.inl z);lia
     ·have:=h3 (by lia);lia
   refine⟨⟨_,e7⟩,xs,e7,by lia,?_⟩;have Fi:Fr [fr,il] H7 (upd H7 il (.lst (xs++[x]))):=kO.le (fun b hb=>aj _ hb);have Ff:Fr [fr,il] H4 H7:=F7.le (fun b hb=>by rw[bj.mp hb];exact ah);have X8:=X7.same Fi.mask;have x8:=(x3.same (Ff.trans Fi).mask).snoc X8;have S8:=hI S7 hil0 (.lst (xs++[x]));have f8:Fh (upd H7 il (.lst (xs++[x]))) fr m:=by rw[Fh,gr nif.symm];exact f7
   have e8:(upd H7 il (.lst (xs++[x]))) il=some (.lst (xs++[x])):=fY;dsimp only;generalize upd H7 il (.lst (xs++[x]))=H8 at X8 x8 S8 f8 e8⊢;obtain⟨d1,d2,d3',d4,d5⟩:=d3.snoc g24 (by lia);obtain⟨ai,vi,B,rfl,eai,ivi,_⟩:=X8;refine⟨_,gT _ _ eai,gk (gj (j:=1) rfl) ⟨_,rfl,?_⟩⟩;rcases g7.nv with⟨lv,pv,ev,l6v⟩|ev;·rw[ev]at ivi;obtain⟨tb,ub,zb,rfl,_⟩:=nZ (show Im (mask H8 [fr,il]) vi (Vl.row lv pv).d from ivi);rw[iw (fun z=>nomatch z)];exact iV ⟨_,_,_,_,_,_,_,ts++[t],m,rfl,S8,f8,e8,x8,⟨d1,fun u hu=>(ao.mp hu).elim (d3.rv u) (fun hu=>by rw[bj.mp hu];exact⟨_,_,ev,l6v⟩),d2,d3',d4,d5⟩,by rw[aQ,lt];rfl,fun z=>absurd z (cW _),bm⟩
   ·rw[ev]at ivi;cases ivi;rw[hV rfl];exact jl (q il _ _ H8 S8 hil0 e8 (x8.same gT) ⟨d1,wQ d3.rv,d2,d4,by rw[aQ,bc];lia,by rw[aQ,bc];lia,by lia,fun u hu z=>(ao.mp hu).elim (d3.rv u) (fun hu=>by rw[bj.mp hu]at z⊢;exact absurd ev z)⟩)
 ·rintro σ H3 ⟨o4,o5,o6,o7,o8,o9,xs,ts,n,rfl,S3,f3,e3,x3,d3,lt,ln0,ln⟩;exact q il xs ts H3 S3 hil0 e3 (x3.same gT) ⟨d3.ok,by obtain⟨us,e⟩:=pI (ts:=ts) fun t ht z=>(by obtain⟨l,p,e,_⟩:=d3.rv t ht;rw[e]at z;exact nomatch z);exact B2 e,d3.nd,d3.ns,by lia,by lia,by have:=d3.l;lia,fun u hu _=>d3.rv u hu⟩
def ixM:List Int->Int->Int
 |[],_=>0
 |a::l,m=>if a=m then 0 else ixM l m+ 1
theorem Cj:∀{l:List Int},l.Nodup->∀(j:Nat) (m:Int),l[j]?=some m->ixM l m=(j:Int)
 |[],_,j,m,h=>by cases h
 |a::l,nd,0,m,h=>by cases h;exact gY rfl
 |a::l,nd,j+ 1,m,h=>by have nd:=aG.mp nd;rw[ixM,gJ (fun z=>nd.1 (by rw[z];exact aP (show l[j]?=some m from h))),Cj nd.2 j m h];lia
def Vl.ins (M:List Int) (v:Vl):Prop:=v.p∈M/\∀t∈v.l,t.2∈M
theorem vA {M:List Int} {n p:Int} (h:p∈M):(Vl.num n p).ins M:=⟨h,fun t ht=>nomatch ht⟩
theorem th_p (v:Vl):v.th.2=v.p:=by cases v<;>rfl
theorem Ii {M:List Int} {l:List (Int×Int)} {n:Int} {v:Vl} (h:∀t∈l,t.2∈M) (hv:v.ins M):(atV l n v).ins M:=by
 cases n with
 |negSucc k=>exact hv
 |ofNat k=>
  unfold atV;dsimp only
  cases e:l[k]? with
  |none=>exact hv
  |some t=>exact vA (h t (aP e))
theorem JU {ws:Zd} {vs us:List Vl} {κ:Kx} {m:Int} {M:List Int} (ok:κ.ok ws vs (us.map some)) (hv:∀v∈vs,v.ins M) (hu:∀u∈us,u.ins M) (hm:m∈M):(∀v,κ.v m us=some v->v.ins M)/\∀q∈κ.m m us,q.1∈M/\q.2.1∈M:=by
 cases κ with
 |num n=>exact⟨fun v e=>by cases e;exact vA hm,fun q hq=>nomatch hq⟩
 |nam w k v=>exact⟨fun v' e=>by cases e;exact hv _ (aP ok.2.2),fun q hq=>nomatch hq⟩
 |row=>refine⟨fun v e=>?_,fun q hq=>nomatch hq⟩;cases e;refine⟨hm,fun t ht=>?_⟩;obtain⟨u,h1,rfl⟩:=bf.mp ht;rw[th_p];exact(hu u h1).1
 |op o=>
  have two:∀{a b:Int},a∈M->b∈M->∀q∈[(a,m,(0:Int)),(b,m,1)],q.1∈M/\q.2.1∈M:=fun h1 h2 q hq=>by
   rcases ak.mp hq with rfl|hq;·exact⟨h1,hm⟩
   ·rw[bj.mp hq];exact⟨h2,hm⟩
  rcases ok with⟨rfl,a,b,hl,⟨n,q,rfl⟩,n',q',rfl⟩|⟨rfl,a,hl,l,q,rfl,_⟩|⟨rfl,a,b,c,hl,⟨l,q,rfl,_⟩,⟨n,q',rfl⟩,n',q'',rfl⟩|⟨rfl,a,b,hl,⟨l,q,rfl,h1⟩,hb⟩;·obtain rfl:us=[.num n q,.num n' q']:=pK hl;have g1:=hu _ ah;have g2:=hu _ (aj _ ah);exact⟨fun v e=>by cases e;exact vA hm,two g1.1 g2.1⟩
  ·obtain rfl:us=[.row l q]:=pK hl;have g1:=hu _ ah;exact⟨fun v e=>by cases e;exact vA hm,fun x hx=>by rw[bj.mp (show x∈[(q,m,(0:Int))]from hx)];exact⟨g1.1,hm⟩⟩
  ·obtain rfl:us=[.row l q,.num n q',.num n' q'']:=pK hl;have g1:=hu _ ah;have g2:=hu _ (aj _ ah);have g3:=hu _ (aj _ (aj _ ah));exact⟨fun v e=>by cases e;exact Ii g1.2 g3,two g1.1 g2.1⟩
  ·rcases hb with⟨l',q',rfl,h2⟩|rfl
   ·obtain rfl:us=[.row l q,.row l' q']:=pK hl;have g1:=hu _ ah;have g2:=hu _ (aj _ ah);refine⟨fun v e=>?_,two g1.1 g2.1⟩;have e:(if l.length+l'.length<=60 then some (Vl.row (l++l') m)else none)=some v:=e;split at e;·cases e;exact⟨hm,fun t ht=>(ao.mp ht).elim (g1.2 t) (g2.2 t)⟩
    ·cases e
   ·exact absurd rfl (FI hl none (aj _ ah))
mutual
theorem Xt.ins {ws:Zd} {vs:List Vl} {M:List Int} (hv:∀v∈vs,v.ins M):∀t:Xt,t.ok ws vs->(∀m∈t.ms,m∈M)->(∀v,t.val=some v->v.ins M)/\(∀p∈t.ha,p.1∈M/\p.2∈M)/\∀q∈t.me,q.1∈M/\q.2.1∈M
 | .mk m κ ks,ok,h=>by
  rw[Xt.ok]at ok;rw[Xt.ms]at h;have hm:=h m ah;obtain⟨g1,g2,g3⟩:=KC hv ks ok.2 fun x hx=>h x (aj _ hx);rw[Xt.ha,Xt.me]
  cases e:ko ks with
  |none=>
   have z:(Xt.mk m κ ks).val=none:=by rw[Xt.val,e]
   rw[z];refine⟨(fun v y=>nomatch y),fun p hp=>?_,fun q hq=>?_⟩;·exact(ao.mp hp).elim (g2 p) (fun y=>nomatch y)
   ·exact(ao.mp hq).elim (g3 q) (fun y=>nomatch y)
  |some us=>
   have z:(Xt.mk m κ ks).val=κ.v m us:=by rw[Xt.val,e]
   obtain⟨k1,k2⟩:=JU (by rw[<-oQ e];exact ok.1) hv (g1 us e) hm;rw[z];refine⟨k1,fun p hp=>?_,fun q hq=>(ao.mp hq).elim (g3 q) (k2 q)⟩;rcases ao.mp hp with hp|hp;·exact g2 p hp
   ·cases ev:κ.v m us with
    |none=>rw[ev]at hp;cases hp
    |some v=>rw[ev]at hp;rw[bj.mp (show p∈[(m,v.p)]from hp)];exact⟨hm,(k1 v ev).1⟩
theorem KC {ws:Zd} {vs:List Vl} {M:List Int} (hv:∀v∈vs,v.ins M):∀ts:List Xt,okL ws vs ts->(∀m∈msX ts,m∈M)->(∀us,ko ts=some us->∀u∈us,u.ins M)/\(∀p∈haX ts,p.1∈M/\p.2∈M)/\∀q∈meX ts,q.1∈M/\q.2.1∈M
 |[],_,_=>by rw[haX,meX,ko];exact⟨(fun us e u hu=>by rw[<-dw.inj e]at hu;cases hu),(fun p hp=>nomatch hp),fun q hq=>nomatch hq⟩
 |t::ts,ok,h=>by
  rw[okL]at ok;rw[msX]at h;obtain⟨a1,a2,a3⟩:=Xt.ins hv t ok.1 fun x hx=>h x (aq _ hx);obtain⟨b1,b2,b3⟩:=KC hv ts ok.2 fun x hx=>h x (aA _ hx);rw[haX,meX,ko];refine⟨fun us e u hu=>?_,fun p hp=>(ao.mp hp).elim (a2 p) (b2 p),fun q hq=>(ao.mp hq).elim (a3 q) (b3 q)⟩;split at e
  ·rename_i v vs' e1 e2;cases e;rcases ak.mp hu with rfl|hu;·exact a1 _ e1
   ·exact b1 _ e2 u hu
  ·cases e
end
theorem JV {ws:Zd} {M:List Int}:∀{ts:List Xt} {vs:List Vl},(∀v∈vs,v.ins M)->okX ws vs ts->ve ts->(∀m∈msX ts,m∈M)->∀t∈ts,(∀v,t.val=some v->v.ins M)/\(∀p∈t.ha,p.1∈M/\p.2∈M)/\∀q∈t.me,q.1∈M/\q.2.1∈M
 |[],vs,_,_,_,_,t,h=>by cases h
 |u::ts,vs,hv,ok,la,hm,t,h=>by
  rw[msX]at hm;have g:=u.ins hv ok.1 fun m h=>hm m (aq _ h);rcases ak.mp h with rfl|h;·exact g
  ·cases e:u.val with
   |none=>rw[la.1 e]at h;cases h
   |some v=>have ok2:=ok.2;rw[e]at ok2;exact JV (vs:=vs++[v]) (fun x h=>(ao.mp h).elim (hv x) (fun h=>by rw[bj.mp h];exact g.1 v e)) ok2 la.2 (fun m h=>hm m (aA _ h)) t h
structure Pc (kvs:List (Key×V)) (L:List Int):Prop where
 l:kvs.length=L.length
 y:∀(j:Nat) (m:Int),L[j]?=some m->jK kvs (.inl m)=some (.int (j:Int))
 n:∀m,m∉L->jK kvs (.inl m)=none
theorem Pc.put {kvs:List (Key×V)} {L:List Int} {m:Int} (h:Pc kvs L) (nm:m∉L):Pc (oj kvs (.inl m) (.int (kvs.length:Int))) (L++[m]):=by
 refine⟨by rw[yA _ (h.n m nm),aQ,aQ,h.l];rfl,fun j x e=>?_,fun x hx=>?_⟩
 ·rw[iT];by_cases z:j<L.length;·rw[aN z]at e;rw[gJ (fun q=>nm (by rw[<-Sum.inl.inj q];exact aP e))];exact h.y j x e
  ·rw[aM (by lia)]at e;have hj:j-L.length=0:=by have:=(au.mp e).1;rw[bc]at this;lia
   rw[hj]at e;cases e;rw[gY rfl,h.l,show L.length=j by lia]
 ·rw[iT,gJ (fun q=>hx (by rw[Sum.inl.inj q];exact aA _ (cD _)))];exact h.n x fun z=>hx (aq _ z)
theorem Pc.at {kvs:List (Key×V)} {L:List Int} {m:Int} (h:Pc kvs L) (nd:L.Nodup) (hm:m∈L):jK kvs (.inl m)=some (.int (ixM L m)):=by obtain⟨j,hj⟩:=cx hm;rw[h.y j m hj,Cj nd j m hj]
theorem zu {ts:List Xt} {t:Xt} {i:Nat} (h:ts[i]?=some t):msX (ts.take (i+ 1))=msX (ts.take i)++t.ms/\haX (ts.take (i+ 1))=haX (ts.take i)++t.ha/\meX (ts.take (i+ 1))=meX (ts.take i)++t.me:=by rw[cb,h];show msX (ts.take i++[t])=_/\haX (ts.take i++[t])=_/\meX (ts.take i++[t])=_;rw[mC,vj,vm,msX,msX,haX,haX,meX,meX,aF,aF,aF];exact⟨rfl,rfl,rfl⟩
theorem Cn {K:Zp} {a:Zx} {te:TE} {Q:VK} {τ:St} {H1:Hp} {D:Zx} {xs:List V} {α:Type} {f g:α->Dt} {l:List α} (e:H1 a=some (.lst xs)) (I:Ims H1 xs (l.map f)) (hn:l.length<=1000) (hD:H1 D=none) (hτ:τ.set 0 none=τ)
  (ht:∀x∈l,∀(v:V) H (R:VK),gB H1 H->Im H v (f x)->(∀y H',gB H H'->Im H' y (g x)->R y H')->te (τ.set 0 (some v)) H R)
  (hq:∀H' zs,gB H1 H'->H' D=some (.lst zs)->Ims H' zs (l.map g)->Q (.ref D) H'):LcP (Itl K a) 0 uD te Q τ H1 D:=by
 have sl:=sizeLine_eq;have lx:=I.length;rw[aE]at lx;refine v8 l.length (by lia) (fun ys H=>Ims H ys ((l.take ys.length).map g)) (fun xs H H' h k=>h.mono k) hD hτ (fun k H S h=>yH e S (by lia)) (fun H S=>by rw[<-lx];exact yI e S) .nil ?_ ?_;·intro k H v H3 ys Z S hk y hys hl hz;obtain⟨rfl,hv⟩:=y;have hv:=hv _ (SqL.of (S _ _ e));obtain⟨d,hd,him⟩:=jP I hv;obtain⟨x,hx⟩:∃x,l[k]?=some x:=⟨_,bB hk⟩;rw[aO,hx]at hd;cases hd;refine ht x (aP hx) v H3 Z S (him.mono (gB.tk S)) fun y H' S' iy=>hz _ _ S' ?_;rw[aQ,hl,bc,cb,hx,bo,<-hl];exact(hys.mono (gB.tk S')).app (.cons iy .nil)
 ·intro H' ys S hys hl e';rw[hl,bw]at hys;exact hq H' ys S e' hys
theorem im3 {H:Hp} {x:V} {a b c:Int} (h:Im H x (.tup [kD a,kD b,kD c])):∃t,x= .ref t/\H t=some (.tup [.int a,.int b,.int c]):=by
 cases h with
 |tup e i=>
  cases i with
  |cons h1 i=>
   cases i with
   |cons h2 i=>
    cases i with
    |cons h3 i=>cases i;cases h1;cases h2;cases h3;exact⟨_,rfl,e⟩
inductive PlA (H:Hp) (a:Zx) (ts:List Xt):Prop
 |mk (dp hl ml:Zx) (kvs:List (Key×V)) (ys zs:List V) (e:H a=some (.lst [.ref dp,.ref hl,.ref ml])) (ed:H dp=some (.dK kvs)) (p:Pc kvs (msX ts)) (eh:H hl=some (.lst ys)) (ih:Ims H ys ((haX ts).map fun t=>haD (p2 (ixM (msX ts)) t))) (em:H ml=some (.lst zs)) (im:Ims H zs ((meX ts).map fun t=>meD (p3 (ixM (msX ts)) t)))
inductive XPl (vs:List V) (H:Hp) (Q:VK):Prop
 |mk (il:Zx) (ws:Zd) (xs:List V) (ts:List Xt) (e:vs=[.ref il]) (ei:H il=some (.lst xs)) (hx:rk H xs ts) (F:Fin ws ts) (q:∀a H',gB H H'->PlA H' a ts->Q (.ref a) H')
def tF:Sp:=fun vs H Q _=>XPl vs H Q
theorem tG (T:Txt K mg):FO P w base 1 T.d35 tF:=by
 refine T.d35.F.rd iF fun _ A _ s H vs Q E hr h=>?_;have hu:=vW hr;obtain⟨il,ws,xs,ts,rfl,ei,hx,F,q⟩:=h;refine⟨_,(fW (pS (i:=1) iF.nd pd)
  (fW (jk PassesOwn.never rfl (jm (cv 0)) (pN (i:=2) iF.nd)
   (gh (jk PassesOwn.never rfl (jm (gx gC (cv 2) fZ)) (pN (i:=3) iF.nd)
    (gh (mQ hu (cv 1) (cv 3) (gG vX rfl T.z_len iH (fV (cv 1) fX)) rfl)))))
  (fW (pS (i:=4) iF.nd (gR fX))
  (fW (pS (i:=5) iF.nd (gR fX))
  (fW (jk PassesOwn.never rfl (jm (cv 0)) (pN (i:=2) iF.nd)
   (fW (pS (i:=4) iF.nd (ic qA (cv 4) (sN rfl (Kr (x:="_law_pair") ["_law_places"] [("_law_places",1,s.heap.objs.size+ 1)]) (jm (gx gC (cv 2) fZ)) (fun _ _ _ _ _=>mS) (fun _ _ _ _ _=>(ik (fV (mP hu (cv 1) (gx gE (cv 0) fZ)) (fV (mP hu (cv 1) (gx gE (cv 0) fZ)) fX)))))))
   (gh (pS (i:=5) iF.nd (ic qA (cv 5) (sN rfl (Kr (x:="_law_one") ["_law_places"] [("_law_places",1,s.heap.objs.size+ 1)]) (jm (gx gC (cv 2) fZ)) (fun _ _ _ _ _=>mS) (fun _ _ _ _ _=>(ik (fV (mP hu (cv 1) (gx gE (cv 0) fZ)) (fV (mP hu (cv 1) (gx gE (cv 0) fZ)) (fV (gx gE (cv 0) fZ) fX)))))))))))
  (gh (gH (gR (fV (cv 1) (fV (cv 4) (fV (cv 5) fX))))))))))),?_⟩;have sl:=sizeLine_eq;have lz:=F.l;have lx:=hx.len;have l12:=F.l12;intro dp hdp;have S1:=gb hdp (.dK []);have ed:(upd H dp (.dK [])) dp=some (.dK []):=fY;dsimp only[hJ];generalize upd H dp (.dK [])=H1 at S1 ed⊢;have P0:Pc [] []:=⟨rfl,(fun j m e=>nomatch e),fun m _=>rfl⟩;refine⟨il,rfl,⟨_,SqL.of (S1 _ _ ei)⟩,jV (xs:=xs) (fun i σ H3=>X3 fun o2 o3 kvs=>Y4 (σ=[some (.ref il),some (.ref dp),o2,o3,none,none]) (gB H H3) (H3 dp=some (.dK kvs)) (Pc kvs (msX (ts.take i)))) ⟨_,_,[],rfl,S1,ed,P0⟩ (fun i σ H3 _ ⟨_,_,_,_,S,_,_⟩=>SqL.of (S _ _ ei)) ?_ ?_⟩
 ·rintro i x σ H3 hxi ⟨o2,o3,kvs,rfl,S3,e3,p3'⟩;have hil:=(au.mp hxi).1;obtain⟨t,ht⟩:∃t,ts[i]?=some t:=⟨_,bB (by lia)⟩;obtain⟨x',hx',hX⟩:=hx.at ht;rw[hxi]at hx';cases hx';obtain⟨a,v,A,rfl,ea,_,hp⟩:=hX;obtain⟨us,eu,iu⟩:=hp 2 (by decide) (by decide);cases zm iu;obtain⟨tk,_,_⟩:=zu ht;have nd:(msX (ts.take i)++t.ms).Nodup:=by rw[<-tk];have nd:=F.nd;rw[<-b6 (i+ 1) ts,mC]at nd;exact(b9.mp nd).1
  have tl:(msX (ts.take i)).length+t.ms.length<=160:=by rw[<-aQ,<-tk];have e:=congrArg aJ (mC (ts.take (i+ 1)) (ts.drop (i+ 1)));rw[b6,aQ]at e;lia
  refine⟨_,S3 _ _ ea,gk (gj (j:=2) rfl) ⟨_,rfl,⟨_,SqL.of (S3 _ _ eu)⟩,jV (xs:=t.ms.map V.int) (fun j σ H4=>X2 fun o3 kvs=>Y4 (σ=[some (.ref il),some (.ref dp),some (.ref a),o3,none,none]) (gB H H4) (H4 dp=some (.dK kvs)) (Pc kvs (msX (ts.take i)++t.ms.take j))) ⟨_,kvs,rfl,S3,e3,by rw[List.take_zero,aF];exact p3'⟩ (fun j σ H4 _ ⟨_,_,_,S,_,_⟩=>SqL.of (S _ _ eu)) ?_ ?_⟩⟩
  ·rintro j v σ H4 hv ⟨o3,kvs,rfl,S4,e4,p4⟩;rw[aO]at hv;obtain⟨m,hm,rfl⟩:=dB.mp hv;have nm:m∉msX (ts.take i)++t.ms.take j:=fun z=>by
    have e:msX (ts.take i)++t.ms=(msX (ts.take i)++t.ms.take j)++t.ms.drop j:=by rw[bM,b6]
    rw[e,b9]at nd;refine nd.2.2 m z m ?_ rfl;obtain⟨z1,z2⟩:=au.mp hm;rw[bN z1,z2];exact ah
   have kl:=p4.l;rw[aQ,aK]at kl;refine⟨dp,_,rfl,e4,dp,_,rfl,zH.k (k:=Sum.inl m) e4 (by lia),?_⟩;refine⟨_,_,rfl,hI S4 hdp _,fY,?_⟩;rw[cb,hm,<-bM];exact p4.put nm
  ·rintro σ H4 ⟨o3,kvs,rfl,S4,e4,p4⟩;rw[aE,bw,<-tk]at p4;exact⟨_,_,kvs,rfl,S4,e4,p4⟩
 ·rintro σ H3 ⟨o2,o3,kvs,rfl,S3,e3,p3'⟩;rw[lx,bw]at p3';have dg:∀{H':Hp} {m:Int},H' dp=some (.dK kvs)->m∈msX ts->w6 H' dp (.int m) (some (.int (ixM (msX ts) m))):=fun{H' m} e hm=>by have g:=w6.k (k:=(Sum.inl m:Key)) e;rw[p3'.at F.nd hm]at g;exact g
  have inn:=JV (M:=msX ts) (vs:=[]) (fun v hv=>nomatch hv) F.ok F.la (fun m h=>h);refine⟨qL,fun h0 hh0=>?_⟩;have S4:=gb hh0 (.lst []);have eh0:(upd H3 h0 (.lst [])) h0=some (.lst []):=fY;dsimp only[hJ];generalize upd H3 h0 (.lst [])=H4 at S4 eh0⊢;refine⟨qL,fun m0 hm0=>?_⟩;have S5:=gb hm0 (.lst []);have em0:(upd H4 m0 (.lst [])) m0=some (.lst []):=fY;replace eh0:=S5 _ _ eh0;replace S5:=S4.trans S5;dsimp only[hJ];generalize upd H4 m0 (.lst [])=H5 at S5 eh0 em0⊢;have S05:=S3.trans S5;refine⟨il,rfl,⟨_,SqL.of (S05 _ _ ei)⟩,jV (xs:=xs) (fun i σ H6=>X6 fun o2 o3 hl ml ys zs=>Y6 (σ=[some (.ref il),some (.ref dp),o2,o3,some (.ref hl),some (.ref ml)]) (gB H5 H6) (H6 hl=some (.lst ys)) (Ims H6 ys ((haX (ts.take i)).map fun t=>haD (p2 (ixM (msX ts)) t))) (H6 ml=some (.lst zs)) (Ims H6 zs ((meX (ts.take i)).map fun t=>meD (p3 (ixM (msX ts)) t)))) ⟨_,_,h0,m0,[],[],rfl,fun _ _ e=>e,eh0,.nil,em0,.nil⟩ (fun i σ H6 _ ⟨_,_,_,_,_,_,_,S,_,_,_,_⟩=>SqL.of ((S05.trans S) _ _ ei)) ?_ ?_⟩
  ·rintro i x σ H6 hxi ⟨o2,o3,hl,ml,ys,zs,rfl,S6,eh,ih,em,im⟩;have hil:=(au.mp hxi).1;obtain⟨t,ht⟩:∃t,ts[i]?=some t:=⟨_,bB (by lia)⟩;have S06:=S05.trans S6;obtain⟨x',hx',hX⟩:=(hx.same S06).at ht;rw[hxi]at hx';cases hx';obtain⟨a,v,A,rfl,ea,_,hp⟩:=hX;obtain⟨_,i2,i3⟩:=inn t (aP ht);obtain⟨us,eu,iu⟩:=hp 3 (by decide) (by decide);obtain⟨vs',ev,iv⟩:=hp 4 (by decide) (by decide);obtain⟨_,tk2,tk3⟩:=zu ht;obtain⟨lt1,lt2⟩:=t.lens;obtain⟨lt3,lt4⟩:=DC ts;have ltk:=congrArg aJ tk2;have ltm:=congrArg aJ tk3;have e1:=congrArg aJ (vj (ts.take (i+ 1)) (ts.drop (i+ 1)));have e2:=congrArg aJ (vm (ts.take (i+ 1)) (ts.drop (i+ 1)));rw[b6,aQ]at e1 e2;rw[aQ]at ltk ltm;have e6:=(S5.trans S6) _ _ e3;have lh:=ih.length;have lm':=im.length;rw[aE]at lh lm';refine⟨_,ea,gk (gj (j:=3) rfl) ⟨_,rfl,⟨_,SqL.of eu⟩,fun D hD=>?_⟩⟩;refine Cn (f:=haD) (g:=fun t=>haD (p2 (ixM (msX ts)) t)) (l:=t.ha) eu iu (by lia) hD rfl (fun p hp' v H7 R S7 im' hR=>?_) fun H7 ws' S7 eD iD=>?_;·obtain⟨tp,y1,y2,rfl,etp,j1,j2⟩:=BV im';cases j1;cases j2;exact⟨_,etp,gk (gj (j:=0) rfl) ⟨dp,_,rfl,dg (S7 _ _ e6) (i2 p hp').1,_,etp,gk (gj (j:=1) rfl) ⟨dp,_,rfl,dg (S7 _ _ e6) (i2 p hp').2,oT,fun b hb=>hR _ _ (gb hb _) (vd hb (.cons (.flat rfl) (.cons (.flat rfl) .nil)))⟩⟩⟩
   have lw:=iD.length;rw[aE]at lw;refine⟨_,_,_,_,rfl,rfl,S7 _ _ eh,eD,by lia,fun h1 hh1=>?_⟩;have S8:=gb hh1 (.lst (ys++ws'));have eh1:(upd H7 h1 (.lst (ys++ws'))) h1=some (.lst (ys++ws')):=fY;have ih1:Ims (upd H7 h1 (.lst (ys++ws'))) (ys++ws') ((haX (ts.take (i+ 1))).map fun t=>haD (p2 (ixM (msX ts)) t)):=by rw[tk2,bo];exact(ih.mono (gB.tk (S7.trans S8))).app (iD.mono (gB.tk S8))
   have S68:=S7.trans S8;dsimp only[hJ];generalize upd H7 h1 (.lst (ys++ws'))=H8 at S68 eh1 ih1⊢;refine⟨_,S68 _ _ ea,gk (gj (j:=4) rfl) ⟨_,rfl,⟨_,SqL.of (S68 _ _ ev)⟩,fun D2 hD2=>?_⟩⟩;refine Cn (f:=meD) (g:=fun t=>meD (p3 (ixM (msX ts)) t)) (l:=t.me) (S68 _ _ ev) (iv.mono (gB.tk S68)) (by lia) hD2 rfl (fun p hp' v H9 R S9 im' hR=>?_) fun H9 ws2 S9 eD2 iD2=>?_;·obtain⟨tp,rfl,etp⟩:=im3 im';exact⟨_,etp,gk (gj (j:=0) rfl) ⟨dp,_,rfl,dg ((S68.trans S9) _ _ e6) (i3 p hp').1,_,etp,gk (gj (j:=1) rfl) ⟨dp,_,rfl,dg ((S68.trans S9) _ _ e6) (i3 p hp').2,_,etp,gk (gj (j:=2) rfl) ⟨n8,fun b hb=>hR _ _ (gb hb _) (vd hb (.cons (.flat rfl) (.cons (.flat rfl) (.cons (.flat rfl) .nil))))⟩⟩⟩⟩
   have lw2:=iD2.length;rw[aE]at lw2;refine⟨_,_,_,_,rfl,rfl,(S68.trans S9) _ _ em,eD2,by lia,fun m1 hm1=>?_⟩;have S10:=gb hm1 (.lst (zs++ws2));refine⟨_,_,h1,m1,ys++ws',zs++ws2,rfl,(S6.trans S68).trans (S9.trans S10),(S9.trans S10) _ _ eh1,ih1.mono (gB.tk (S9.trans S10)),fY,?_⟩;rw[tk3,bo];exact(im.mono (gB.tk ((S68.trans S9).trans S10))).app (iD2.mono (gB.tk S10))
  ·rintro σ H6 ⟨o2,o3,hl,ml,ys,zs,rfl,S6,eh,ih,em,im⟩;rw[lx,bw]at ih im;refine⟨n8,fun a ha=>?_⟩;have S7:=gb ha (.lst [.ref dp,.ref hl,.ref ml]);have k7:=gB.tk S7;exact q a _ ((S05.trans S6).trans S7) ⟨dp,hl,ml,kvs,ys,zs,fY,((S5.trans S6).trans S7) _ _ e3,p3',S7 _ _ eh,ih.mono k7,S7 _ _ em,im.mono k7⟩
theorem El:∀{ns:Zd} {ts:List Xt} {k:Nat} {w:Str} {t:Xt},ns[k]?=some w->ts[k]?=some t->(lnX ns ts)[k]?=some (lnS w t.tx)
 |n::ns,u::ts,0,w,t,h1,h2=>by cases h1;cases h2;rfl
 |n::ns,u::ts,k+ 1,w,t,h1,h2=>El (ns:=ns) (ts:=ts) h1 h2
 |[],_,k,w,t,h1,_=>by cases h1
 |n::ns,[],k,w,t,_,h2=>by cases h2
theorem Co:∀{ns:Zd} {ts:List Xt},ns.length=ts.length->(lnX ns ts).length=ts.length
 |[],[],_=>rfl
 |n::ns,t::ts,h=>congrArg (·+ 1) (Co (ns:=ns) (ts:=ts) (by simpa using h))
theorem F0 {α:Type} {l:List α} {k:Nat} {x:α} (h:l[k]?=some x):l.take (k+ 1)=l.take k++[x]:=by rw[cb,h];rfl
theorem Cp {ws:Zd}:∀{ts:List Xt} {vs:List Vl},okX ws vs ts->∀t∈ts,(∃vs',t.ok ws vs')/\t.ms.length<=(msX ts).length
 |[],vs,_,t,h=>by cases h
 |u::ts,vs,ok,t,h=>by
  rw[msX,aQ];rcases ak.mp h with rfl|h;·exact⟨⟨_,ok.1⟩,cX _ _⟩
  ·obtain⟨a,b⟩:=Cp ok.2 t h;exact⟨a,by lia⟩
theorem Ga {w x:Str}:(lnS w x).length=w.length+x.length+ 7:=by unfold lnS;rw[Str.length_append,Str.length_append,Str.length_append,Str.length_append,show("(def ":Str).length=5 by decide+kernel,show(" ":Str).length=1 by decide+kernel,show(")":Str).length=1 by decide+kernel];lia
theorem Cq:∀{ns:Zd} {ts:List Xt},(∀w∈ns,w.length<=12)->(∀t∈ts,t.tx.length<=100000)->∀l∈lnX ns ts,l.length<=100100
 |n::ns,t::ts,h1,h2,l,h=>by
  rcases ak.mp h with rfl|h;·have:=h1 n ah;have:=h2 t ah;rw[Ga];lia
  ·exact Cq (fun w hw=>h1 w (aj _ hw)) (fun w hw=>h2 w (aj _ hw)) l h
 |[],_,_,_,l,h=>by cases h
 |n::ns,[],_,_,l,h=>by cases h
def Txs (H:Hp) (xs:List V) (ts:List Xt):Prop:=xs.length=ts.length/\∀(k:Nat) (t:Xt),ts[k]?=some t->∃a l,xs[k]?=some (.ref a)/\H a=some (.lst (.str t.tx::l))
theorem rk.txs {H:Hp} {xs:List V} {ts:List Xt} (h:rk H xs ts):Txs H xs ts:=⟨h.len,fun k t e=>by obtain⟨x,hx,a,v,A,rfl,ea,_⟩:=h.at e;exact⟨a,_,hx,ea⟩⟩
inductive XTx (vs:List V) (H:Hp) (Q:VK):Prop
 |mk (wl il:Zx) (ws:Zd) (xs:List V) (ts:List Xt) (e:vs=[.ref wl,.ref il]) (hw:Wd H wl ws) (ei:H il=some (.lst xs)) (hx:Txs H xs ts) (l12:ts.length<=12) (txl:∀t∈ts,t.tx.length<=100000) (q:∀H',gB H H'->Q (.str (Str.join "\n" (lnX (ws.take ts.length) ts))) H')
def wR:Sp:=fun vs H Q _=>XTx vs H Q
theorem wU (T:Txt K mg):FO P w base 1 T.d36 wR:=by
 refine T.d36.F.rd wy fun _ A _ s H vs Q E hr h=>?_;obtain⟨wl,il,ws,xs,ts,rfl,hw,ei,⟨lx,hx⟩,l12,txl,q⟩:=h;refine⟨_,(gh (gH (jM eW fe ff Bl gu (fV (G5 (g:=IJ K 2 (Ar (hJ 0) (Ar (hJ 1) II))) rfl (Jw (x:="_law_k") (y:="_law_item") ["_law_words_here"] [("_law_words_here",0,s.heap.objs.size+ 1)]) (xE rfl T.z_enumerate (fV (cv 1) fX)) (pgP rfl gQ rfl rfl) (fun _ _ _ _ _=>(ic lM (ic lM (ic lM (ic lM gu (gx gC (cv 2) (cv 0))) gu) (gx gC (cv 1) fZ)) gu))) fX)))),?_⟩;have sl:=sizeLine_eq;have l16:=hw.l;have lnn:(ws.take ts.length).length=ts.length:=by rw[aK];lia
 have hl:=Co (ns:=ws.take ts.length) (ts:=ts) lnn;refine⟨rfl,il,rfl,⟨_,SqL.of ei⟩,fun D hD=>?_⟩;refine⟨fun k m σ' H2=>Y5 (m=ts.length-k) (k<=ts.length) ((∃u v,σ'=[u,v,some (.ref wl)])) (gB H H2) (H2 D=some (.lst (((lnX (ws.take ts.length) ts).take k).map V.str))),⟨ts.length,by simp,cO _,⟨none,none,rfl⟩,gb hD _,fY⟩,?_⟩;rintro k m σ' H2 ⟨rfl,hk,⟨u,v,rfl⟩,S,eD⟩;by_cases hlt:k<ts.length
 ·refine .inr ⟨⟨xs,xs[k]'(by lia),SqL.of (S _ _ ei),bB (by lia)⟩,?_⟩;rintro v H3 ⟨tp,x,rfl,htp,rfl,hx'⟩;have hx':=hx' xs (SqL.of (S _ _ ei));obtain⟨t,ht⟩:∃t,ts[k]?=some t:=⟨_,bB hlt⟩;obtain⟨a,al,hx2,ea⟩:=hx k t ht;rw[hx']at hx2;cases hx2;obtain⟨wk,hwk⟩:∃w,ws[k]?=some w:=⟨_,bB (by lia)⟩;have S3:=gb htp (.tup [.int (k:Int),.ref a]);have S03:=S.trans S3;refine⟨tp,_,rfl,SqT.of fY,rfl,_,_,rfl,_,_,rfl,rfl,?_⟩;have lw:=(nP (hw.n wk (aP hwk))).2;have lt:=txl t (aP ht);refine⟨_,S03 _ _ hw.e,gk (v:=V.str wk) (gj (by rw[aO,hwk];rfl)) ⟨by rw[show("(def ":Str).length=5 by decide+kernel];lia,by rw[Str.length_append,show("(def ":Str).length=5 by decide+kernel,show(" ":Str).length=1 by decide+kernel];lia,_,S03 _ _ ea,gk (gj (j:=0) rfl) ⟨?_,?_,?_⟩⟩⟩;·rw[Str.length_append,Str.length_append,show("(def ":Str).length=5 by decide+kernel,show(" ":Str).length=1 by decide+kernel];lia
  ·rw[Str.length_append,Str.length_append,Str.length_append,show("(def ":Str).length=5 by decide+kernel,show(" ":Str).length=1 by decide+kernel,show(")":Str).length=1 by decide+kernel];lia
  refine⟨_,S3 _ _ eD,by rw[aE,aK];lia,ts.length-(k+ 1),by lia,rfl,hlt,⟨_,_,rfl⟩,hI S03 hD _,?_⟩;rw[fY,F0 (El (by rw[cy,gY hlt];exact hwk) ht),bo];rfl
 ·have e:k=ts.length:=by lia
  subst e;refine .inl ⟨⟨xs,SqL.of (S _ _ ei),lx.symm⟩,?_⟩;rw[cc (by lia)]at eD;have sm:=Ce (Cq (ns:=ws.take ts.length) (fun w hw'=>(nP (hw.n w (cz hw'))).2) txl);rw[hl]at sm;have sm2:ts.length*100100<=12*100100:=dv _ l12;exact⟨"\n",D,_,rfl,rfl,SqL.of eD,by rw[hl,show("\n":Str).length=1 by decide+kernel];lia,q _ S⟩
mutual
theorem Gb {K:Zp} {H:Hp}:∀{v:V} {d:Dt},Im H v d->At K H v d
 |v,_,.flat h=> .flat (by cases v<;>first|rfl|cases h)
 |_,_,.tup h hs=> .tup (SqT.of h) (vB hs)
theorem vB {K:Zp} {H:Hp}:∀{v:List V} {d:List Dt},Ims H v d->Ats K H v d
 |_,_,.nil=> .nil
 |_,_,.cons h hs=> .cons (Gb h) (vB hs)
end
mutual
theorem Ij:∀{d:Dt},gF d=true->eqD d d=true/\qC d d=true
 | .flat v,h=>by
  cases v with
  |int n=>exact⟨by simp[eqD,eqV],by rfl⟩
  |str z=>exact⟨by simp[eqD,eqV],by rfl⟩
  |_=>simp[gF]at h
 | .tup ds,h=>by rw[gF,fj]at h;exact Cr h.2
 | .lst _,h=>by simp[gF]at h
theorem Cr:∀{ds:List Dt},gFs ds=true->xD ds ds=true/\sO ds ds=true
 |[],_=>⟨rfl,rfl⟩
 |d::ds,h=>by rw[gFs,fj]at h;obtain⟨a,b⟩:=Ij h.1;obtain⟨c,e⟩:=Cr h.2;rw[xD,sO,a,b,c,e];exact⟨rfl,rfl⟩
end
theorem yl {α:Type} {f:α->Dt} (h:∀a,gF (f a)=true):∀l:List α,gFs (l.map f)=true
 |[]=>rfl
 |a::l=>by rw[aD,gFs,h a,yl h l];rfl
theorem ym {α:Type} {f:α->Dt} {b:Nat} (h:∀a,sP (f a)<=b):∀l:List α,jT (l.map f)<=b
 |[]=>cO _
 |a::l=>by rw[aD,jT];exact di.mpr ⟨h a,ym h l⟩
theorem JW {H:Hp} {v:V} {ns:List Int} (h:Im H v (.tup (ns.map kD))):∃t,v= .ref t/\H t=some (.tup (ns.map V.int)):=by
 cases h with
 |tup e i=>cases zm i;exact⟨_,rfl,e⟩
theorem Gd (n:Nat):(aI n true).all id=true:=by
 induction n with
 |zero=>rfl
 |succ n ih=>rw[bR,ba,ih];rfl
theorem yn {en v:V} {me ha:Zx} {bg:Int}:(fRn en v me ha bg).lookup ("end":Str)=some en/\(fRn en v me ha bg).lookup ("value":Str)=some v/\(fRn en v me ha bg).lookup ("meets":Str)=some (.ref me)/\(fRn en v me ha bg).lookup ("had":Str)=some (.ref ha)/\(fRn en v me ha bg).lookup ("begun":Str)=some (.int bg):=⟨by kernel_rfl,by kernel_rfl,by kernel_rfl,by kernel_rfl,by kernel_rfl⟩
def DH:Sp:=fun vs H Q _=>∃n:Int,vs=[.int n]/\Q (.bl true) H
theorem mE (T:Txt K mg):FO P w base 1 T.d37 DH:=by refine T.d37.F.rd uX fun cdv A0 outer s0 H vs Q E hr h=>?_;obtain⟨n,rfl,q⟩:=h;refine⟨_,(gh (gH (tM (gG kP rfl T.z_isinstance iM (fV (cv 0) (fV (pj rfl T.z_int yD) fX))) (rD (Gw (gG kP rfl T.z_isinstance iM (fV (cv 0) (fV (pj rfl T.z_bool EO) fX)))))))),?_⟩;exact⟨_,_,_,_,true,rfl,fun _ r=>r,.int n,rfl,_,rfl,jl ⟨_,_,_,_,false,rfl,fun _ r=>r,.int n,rfl,_,rfl,q⟩⟩
inductive XTu (vs:List V) (H:Hp) (Q:VK):Prop
 |mk (a b:Zx) (k:Nat) (α:Type) (l:List α) (g:α->List Int) (xs ys:List V) (e:vs=[.ref a,.ref b,.int (k:Int)]) (ea:H a=some (.lst xs)) (eb:H b=some (.lst ys)) (ia:Ims H xs (l.map fun x=> .tup ((g x).map kD))) (ib:Ims H ys (l.map fun x=> .tup ((g x).map kD))) (hk:∀x,(g x).length=k) (k9:k<=9) (q:∀H',gB H H'->Q (.bl true) H')
def tH:Sp:=fun vs H Q _=>XTu vs H Q
theorem tI (T:Txt K mg):FO P w base 2 T.d38 tH:=by
 refine T.d38.F.rd nV fun cdv A0 outer s0 H vs Q E hr h=>?_;obtain⟨a,b,k,α,l,g,xs,ys,rfl,ea,eb,ia,ib,hk,k9,q⟩:=h;refine⟨_,(fW (ij (kM (jA (gG kP rfl T.z_isinstance iM (fV (cv 0) (fV (pj rfl T.z_list AZ) fX)))))
   (gh (gH rB))
   gL)
  (fW (jk PassesOwn.never rfl (jm (cv 0)) (pN (i:=3) nV.nd)
   (gh (ij (PW.pt (oW (kM (jA (gG kP rfl T.z_isinstance iM (fV (cv 3) (fV (pj rfl T.z_tuple jW) fX))))) (oW (gN uH (gG gA rfl T.z_len iH (fV (cv 3) fX)) (cv 2)) (rC (kM (jA (gG (yF rfl) rfl T.z_all DS (fV (sN rfl (ES (x:="_law_x") rfl gQ gQ rfl rfl) (tN (cv 3)) (fun _ _ _ _ _=>mS) (fun _ _ _ _ _=>(pF T.d37 (mE T) hr.m (fV (cv 0) fX)))) fX))))))))
    (gh (gH rB))
    gL)))
  (gh (gH (oh (G1 hr) (cv 0) (cv 1)))))),?_⟩;have sl:=sizeLine_eq;refine⟨_,_,_,_,true,rfl,fun _ r=>r,.lst ea,rfl,_,rfl,iV ?_⟩;dsimp only[qM];refine⟨a,rfl,⟨_,SqL.of ea⟩,jV (xs:=xs) (fun i σ H3=>∃o,σ=[some (.ref a),some (.ref b),some (.int (k:Int)),o]/\gB H H3) ⟨_,rfl,fun _ _ e=>e⟩ (fun i σ H3 _ ⟨_,_,S⟩=>SqL.of (S _ _ ea)) ?_ ?_⟩
 ·rintro i v σ H3 hv ⟨o,rfl,S⟩;obtain⟨d,hd,im⟩:=jP ia hv;rw[aO]at hd;obtain⟨x,hx,rfl⟩:=dB.mp hd;obtain⟨t,rfl,et⟩:=JW (im.mono (gB.tk S));refine⟨_,_,_,_,true,rfl,fun _ r=>r,.tup et,rfl,_,rfl,?_⟩;refine iV ⟨t,_,rfl,.inr (SqT.of et),?_⟩;show(if(true ^^ decide ((((g x).map V.int).length:Int)=(k:Int)))=true then _ else _);rw[aE,hk,hV rfl];refine iV ⟨t,rfl,⟨_,SqT.of et⟩,fun D hD=>?_⟩;have lk:((g x).map V.int).length=k:=by rw[aE];exact hk x
  refine v8 k (by lia) (fun ys _=>ys=aI ys.length (.bl true)) (fun _ _ _ h _=>h) hD rfl (fun j H4 S4 hj=>D4 et S4 (by lia)) (fun H4 S4=>by rw[<-lk];exact D5 et S4) rfl ?_ ?_;·intro j H4 v H5 zs Z S4 hj y hz hl hZ;obtain⟨rfl,hv'⟩:=y;have hv':=hv' _ (SqT.of (S4 _ _ et));rw[aO]at hv';obtain⟨n,_,rfl⟩:=dB.mp hv';exact⟨n,rfl,hZ _ _ (fun _ _ e=>e) (by rw[aQ,bc,cC,<-hz])⟩
  ·intro H4 zs S4 hz hl eD;refine⟨D,aI zs.length true,rfl,SqL.of (by rw[eD,List.map_replicate,<-hz]),_,rfl,?_⟩;rw[Gd];exact iV ⟨_,rfl,S.trans S4⟩
 ·rintro σ H3 ⟨o,rfl,S⟩;have hg:gFs (l.map fun x=> .tup ((g x).map kD))=true:=yl (fun x=>by rw[gF,fj];exact⟨hV (by rw[aE,hk];lia),yl (fun n=>rfl) _⟩) l;obtain⟨e1,e2⟩:=Cr hg;have tk:=gB.tk S;refine⟨a,b,.lst (l.map fun x=> .tup ((g x).map kD)),.lst (l.map fun x=> .tup ((g x).map kD)),rfl,rfl,.lst (SqL.of (S _ _ ea)) (vB (ia.mono tk)),.lst (SqL.of (S _ _ eb)) (vB (ib.mono tk)),?_,?_,?_⟩;·rw[qC,gY rfl];exact e2
  ·rw[sP];have:=ym (f:=fun x=>Dt.tup ((g x).map kD)) (b:=1) (fun x=>by rw[sP];exact dj (ym (f:=kD) (b:=0) (fun n=>cM _) _)) l;lia
  ·rw[gJ fg,eqD,e1];exact q _ S
open GR.Internal (isName mG)
theorem wW:∀(a b:List Xt) (p:Nat),iS (a++b) p=iS a p++iS b (p+(msX a).length)
 |[],b,p=>by rw[bT,iS,msX];rfl
 |t::a,b,p=>by rw[aU,iS,iS,msX,wW a b,bM,aQ,dr]
theorem zv:∀(a b:List Xt) (p:Nat),kA (a++b) p=kA a p++kA b (p+(msX a).length)
 |[],b,p=>by rw[bT,kA,msX];rfl
 |t::a,b,p=>by rw[aU,kA,kA,msX,zv a b,aU,aQ,dr]
theorem Em:∀(a b:List Xt) {p d q:Nat},q<p+(msX a).length->p<=q->dX (a++b) p d q=dX a p d q
 |[],b,p,d,q,h,h'=>by rw[msX]at h;have h:q<p+ 0:=h;lia
 |t::a,b,p,d,q,h,h'=>by
  rw[msX,aQ]at h;rw[aU,dX,dX];split;·rfl
  ·exact Em a b (by lia) (by lia)
def hoX (ws:Zd) (ts:List Xt):Nat->Option Hm:=fun k=>match(iS ts 0)[k]? with
 |some ρ=>duo (HN ws ts) k ρ
 |none=>none
theorem En {ws:Zd} {ts:List Xt} {k:Nat} {ρ:Ro} (h:(iS ts 0)[k]?=some ρ):hoX ws ts k=duo (HN ws ts) k ρ:=by unfold hoX;rw[h]
def t0:Xt:= .mk 0 (.num 0) []
def Eg (H:Hp) (ts:List Xt) (en:Str) (v:V):Prop:=(en="done"/\∃t u,ts.getLast?=some t/\t.val=some u/\Im H v (u.mp (ixM (msX ts))).d)\/(en="full"/\ko ts=none/\v= .non)
inductive RnX (C:Zx) (H:Hp) (r:Zx) (ts:List Xt) (en:Str) (v:V):Prop
 |mk (dx me ha:Zx) (xs ys:List V) (o:H r=some (.ins C dx (fRn (.str en) v me ha ((msX ts).length:Int)))) (em:H me=some (.lst xs)) (im:Ims H xs ((meX ts).map fun t=>meD (p3 (ixM (msX ts)) t))) (eh:H ha=some (.lst ys)) (ih:Ims H ys ((haX ts).map fun t=>haD (p2 (ixM (msX ts)) t))) (eg:Eg H ts en v)
theorem Ik {j:Nat} {σ:St} {a:Str} {H:Hp} {F:Bool->Hp->Prop} (hj:σ[j]?=some (some (.str a))) (h:F false H):cV j σ H fun y H2=>cEq true (.str a) y H2 fun x H'=>onB x fun k=>F k H':=by show onV σ[j]? _;rw[hj];show F (xor true (decide (a=a))) H;rw[hV rfl];exact h
theorem Il {j:Nat} {σ:St} {a:Int} {H:Hp} {F:Bool->Hp->Prop} (hj:σ[j]?=some (some (.int a))) (h:F false H):cV j σ H fun y H2=>cEq true (.int a) y H2 fun x H'=>onB x fun k=>F k H':=by show onV σ[j]? _;rw[hj];show F (xor true (decide (a=a))) H;rw[hV rfl];exact h
theorem zw:∀{ts:List Xt} {us:List Vl} {t:Xt},ko (ts++[t])=some us->∃vs u,us=vs++[u]/\t.val=some u
 |[],us,t,h=>by
  rw[bT,ko,ko]at h
  cases e:t.val with
  |none=>rw[e]at h;cases h
  |some v=>rw[e]at h;cases h;exact⟨[],v,rfl,rfl⟩
 |x::ts,us,t,h=>by
  rw[aU,ko]at h;split at h;·rename_i v vs e1 e2;cases h;obtain⟨ws,u,rfl,e⟩:=zw e2;exact⟨v::ws,u,rfl,e⟩
  ·cases h
inductive XRa (C:Zx) (vs:List V) (H:Hp) (Q:VK):Prop
 |mk (ws:Zd) (ts rs:List Xt) (e:vs=[.str (Str.join "\n" (lnX (ws.take (ts++rs).length) (ts++rs))),.int 2000]) (hn:∀w∈ws,isName w=true) (hd:ws.Nodup) (hl:ws.length=16) (F:Fin ws ts) (h:((∃us,ko ts=some us)/\rs=[])\/(ko ts=none/\rs=[t0])) (q:∀r H' en v,gB H H'->RnX C H' r ts en v->Q (.ref r) H')
def yo (C:Zx):Sp:=fun vs H Q _=>XRa C vs H Q
theorem yp (T:Txt K mg) (D:Dk P w K mg) (W:Wk P w T):FO P w base 148 T.d39 (yo T.c6.a):=by
 have g1:=Ab (P:=P) (w:=w) (base:=base) T;have g2:=Ac T g1;have g3:=wA T g1;have ga:=sx (P:=P) (w:=w) (base:=base) T;have g4:=sU (P:=P) (w:=w) (base:=base) T ga;have gc:=sV (P:=P) (w:=w) (base:=base) T;have gp:=oH T g4;have gn:=oJ T g4 g2;have ge:=BE T D ga g4 gp gn g2 g3 gc 24;have gD18:=Fq T (xQ T) (pE T) ga gp gn ge gc (oK T);have gD13:=HE (base:=base) T W;clear g1 g2 g3 ga g4 gc gp gn ge;refine T.d39.F.rd sk fun cdv A0 outer s H vs Q E hr h=>?_;obtain⟨ws,ts,rs,rfl,hn,hd,hl,F,h,q⟩:=h;refine⟨_,(fW (pS (i:=2) sk.nd (pR gD18 hr.m rfl T.d18.m T.d18.k T.d18.b .nil Jc (fV (cv 0) fX)))
  (gh (gH (pF T.d13 gD13 hr.m (fV (cv 2) (fV (pF T.d20 (xU T) hr.m (fV (cv 2) fX)) (fV (cv 1) fX))))))),?_⟩;have l9:=F.l12;have l159:=F.l;have t0m:t0.ms=[0]:=kn _ _;have lr:rs.length<=1/\(msX rs).length<=1:=by
  rcases h with⟨_,rfl⟩|⟨_,rfl⟩;·rw[msX];exact⟨cO _,cO _⟩
  ·rw[msX,msX,t0m];exact⟨cM _,cM _⟩
 have okr:okX ws [] (ts++rs):=by
  rcases h with⟨_,rfl⟩|⟨_,rfl⟩;·rw[aF];exact F.ok
  ·refine vx F.ok ?_;rw[t0,Xt.ok,okL];exact⟨⟨rfl,by decide,gQ⟩,trivial⟩
 have nsr:∀t∈ts++rs,t.tr.nest<=24:=fun t ht=>by
  rcases ao.mp ht with ht|ht;·exact F.ns t ht
  ·rcases h with⟨_,rfl⟩|⟨_,rfl⟩;·cases ht
   ·rw[bj.mp ht,t0,jj,iL];decide
 have lmr:(msX (ts++rs)).length=(msX ts).length+(msX rs).length:=by rw[mC,aQ]
 have ltr:(ts++rs).length=ts.length+rs.length:=aQ;have l1:=F.l1;have rwa:=wW ts rs 0;have ofa:=zv ts rs 0;have dxa:∀{q:Nat},q<(msX ts).length->dX (ts++rs) 0 0 q=dX ts 0 0 q:=fun{q} hq=>Em ts rs (by lia) (cO _);have l12:(ts++rs).length<=12:=by lia
 have l160:(msX (ts++rs)).length<=160:=by lia
 have lnn:(ws.take (ts++rs).length).length=(ts++rs).length:=by rw[aK];lia
 have hn':∀n∈ws.take (ts++rs).length,isName n=true:=fun n h=>hn n (cz h);obtain⟨pq,_⟩:=FN hn hn' lnn okr;have et:GR.Internal.toks (Str.join "\n" (lnX (ws.take (ts++rs).length) (ts++rs)))=Ag (ws.take (ts++rs).length) (trX (ts++rs)):=pq.g.op;have rd:=JP hn hn' lnn okr nsr l160 (by lia) l12;rw[<-et]at rd;have ql:=pq.l;have qk:=pq.k;have qo:=pq.o;have gfr:=gfX (ts++rs) [] 0 okr;have gd:=HP hd l12 (by lia) okr l160;have tka:∀(k:Nat) (w:Str),ws[k]?=some w->k<([]:List Vl).length+ts.length->(ws.take (ts++rs).length)[k]?=some w:=fun k w e h=>B6 e (by rw[aV]at h;lia);have rP:=Kz (ρs:=iS (ts++rs) 0) (ho:=hoX ws (ts++rs)) (tu:=2000) (ws:=ws) (ns:=ws.take (ts++rs).length) (π:=ixM (msX ts)) (M:=msX ts) (rest:=kA rs (0+(msX ts).length)) (Cj F.nd) gd.nn ts [] 0 F.ok F.la tka (fun j x e=>by rw[da,rwa,aN (au.mp e).1];exact e) (fun j x e=>by rw[da];exact e) (fun q w e _ hq=>by rw[En e];show G0 (ws.take (ts++rs).length) (dX (ts++rs) 0 0 q) w=_;rw[dxa (by lia)];rfl) s0M rfl rfl rfl rfl (by show 0+_<=_;lia);rw[<-ofa]at rP;have fin:∃(n:Nat) (s2:Ms) (en:Str),n<=1000/\qT (iS (ts++rs) 0) (hoX ws (ts++rs)) 2000 n (kA (ts++rs) 0) s0M s2/\s2.en=some en/\s2.bg=(msX ts).length/\s2.me.reverse=(meX ts).map (p3 (ixM (msX ts)))/\s2.ha.reverse=(haX ts).map (p2 (ixM (msX ts)))/\(s2.en=some ("done":Str)->s2.de≠[])/\∀(H':Hp) (v:V),(s2.en≠some ("done":Str)->v= .non)->(∀u,s2.en=some ("done":Str)->s2.de.getLast?=some u->Im H' v u.d)->Eg H' ts en v:=by
  rcases h with⟨⟨us,e⟩,er⟩|⟨e,er⟩
  ·obtain⟨n,hn2,R⟩:=rP.1 us e (by rw[er];rfl);obtain⟨ls,t,hu⟩:∃us u,ts=us++[u]:=⟨_,_,(bI (fun e=>by rw[e]at l1;cases l1)).symm⟩;obtain⟨vs,u,ev,et⟩:=zw (by rw[<-hu];exact e);have dl:(([]++us).map (Vl.mp (ixM (msX ts)))).getLast?=some (u.mp (ixM (msX ts))):=by rw[bT,ev,bo];exact cm
   refine⟨n,_,"done",by lia,R,rfl,da _,?_,?_,fun _ z=>?_,fun H' v _ hv=> .inl ⟨rfl,t,u,by rw[hu,cm],et,hv _ rfl dl⟩⟩;·show(((meX ts).map (p3 (ixM (msX ts)))).reverse++[]).reverse=_;rw[aF,cw]
   ·show(((haX ts).map (p2 (ixM (msX ts)))).reverse++[]).reverse=_;rw[aF,cw]
   ·have z:([]++us).map (Vl.mp (ixM (msX ts)))=[]:=z;rw[z]at dl;cases dl
  ·obtain⟨n,s2,hn2,R,Fu⟩:=rP.2 e;have nd:s2.en≠some ("done":Str):=by rw[Fu.en];exact fun z=>absurd (dw.inj z) gQ
   refine⟨n,s2,"full",by lia,R,Fu.en,Fu.bg.trans (da _),?_,?_,fun z=>absurd z nd,fun H' v hv _=> .inr ⟨rfl,e,hv nd⟩⟩;·rw[Fu.me];show(((meX ts).map (p3 (ixM (msX ts)))).reverse++[]).reverse=_;rw[aF,cw]
   ·rw[Fu.ha];show(((haX ts).map (p2 (ixM (msX ts)))).reverse++[]).reverse=_;rw[aF,cw]
 obtain⟨n,s2,en,hn2,R,een,ebg,eme,eha,hde,heg⟩:=fin;clear rP rwa ofa dxa tka h okr nsr lmr;generalize ts++rs=tr at*;refine⟨_,_,rfl,by lia,GR.Internal.toks_v _,by rw[et];exact HG (by lia) qo,fun names roots rows g nl tl rl rtv rwv H5 hread S5 _ _ _ pr tr' tw=>?_,fun hno=>absurd (rd.symm.trans hno) (by simp)⟩;rw[rd]at hread;obtain⟨rfl,rfl,rfl⟩:ws.take tr.length=names/\(kA tr 0).map TM.Internal.kD=roots/\(iS tr 0).map Ro.d=rows:=by have:=dw.inj hread;exact⟨congrArg Prod.fst this,congrArg (fun x=>x.2.1) this,congrArg (fun x=>x.2.2) this⟩
 have ertv:=HI (rj tr' (HQ _));have erwv:=rj tw gfr;obtain⟨dx,ob⟩:=pr.ob;have prr:=pr.rt;rw[ertv]at prr;have prA:PrA T.c7.a H5 g nl tl rl dx rwv (ws.take tr.length) (kA tr 0) (iS tr 0):=⟨ob,pr.nm,prr,pr.rw,erwv⟩;dsimp only[hJ];refine⟨g,nl,tl,rl,dx,rwv,_,_,_,_,rfl,prA,gd,fun lh2 ys H6 S6 _ el6 ly hoa=>?_⟩;refine⟨g,lh2,nl,tl,rl,dx,2000,n,rwv,ys,s2,_,_,_,hoX ws tr,rfl,prA.same S6,el6,fun i ρ hi=>?_,gd.ok,R,by lia,⟨_,een⟩,hde,fun r H7 S7 _ ra=>?_⟩;·have hil:=(au.mp hi).1;obtain⟨y,hy⟩:∃y,ys[i]?=some y:=⟨_,bB (by lia)⟩;exact⟨y,hy,by rw[En hi];exact hoa i y ρ hy hi⟩
 obtain⟨dx',v,me,ha,o1,⟨xs1,em,im⟩,⟨ys1,eh,ih⟩,v1,v2⟩:=ra.o;rw[een,ebg]at o1;rw[eme,bC]at im;rw[eha,bC]at ih;exact q r H7 en v ((S5.trans S6).trans S7) ⟨dx',me,ha,xs1,ys1,o1,em,im,eh,ih,heg H7 v v1 v2⟩
inductive XTo (C:Zx) (vs:List V) (H:Hp) (Q:VK):Prop
 |mk (r pa:Zx) (ts:List Xt) (en:Str) (v:V) (e:vs=[.ref r,.str en,.int ((msX ts).length:Int),.ref pa]) (ra:RnX C H r ts en v) (pl:PlA H pa ts) (q:∀H',gB H H'->Q (.bl true) H')
def wX (C:Zx):Sp:=fun vs H Q _=>XTo C vs H Q
theorem wY (T:Txt K mg):FO P w base 3 T.d40 (wX T.c6.a):=by
 refine T.d40.F.rd wz fun cdv A0 outer s H vs Q E hr h=>?_;obtain⟨r,pa,ts,en,v,rfl,⟨dx,me,ha,xs,ys,o,em,im,eh,ih,_⟩,⟨dp,hl,ml,kvs,ys2,zs2,ep,ed,_,eh2,ih2,em2,im2⟩,q⟩:=h;refine⟨_,(fW (ij (PW.pt (oW (gN uH (gX T.c6.cl T.n6end (cv 0)) (cv 1)) (oW (kM (jA (pF T.d37 (mE T) hr.m (fV (gX T.c6.cl T.n6begun (cv 0)) fX)))) (rC (gN uH (gX T.c6.cl T.n6begun (cv 0)) (cv 2))))))
   (gh (gH rB))
   gL)
  (gh (gH (tM (pF T.d38 (tI T) hr.m (fV (gX T.c6.cl T.n6had (cv 0)) (fV (gx gC (cv 3) fZ) (fV fZ fX)))) (rD (pF T.d38 (tI T) hr.m (fV (gX T.c6.cl T.n6meets (cv 0)) (fV (gx gC (cv 3) fZ) (fV fZ fX))))))))),?_⟩;obtain⟨f1,f2,f3,f4,f5⟩:=yn (en:= .str en) (v:=v) (me:=me) (ha:=ha) (bg:=((msX ts).length:Int));refine⟨_,⟨_,_,o,f1⟩,?_⟩;refine Ik rfl ?_;refine iV ⟨_,⟨_,_,o,f5⟩,_,rfl,_,rfl,iV ⟨_,⟨_,_,o,f5⟩,?_⟩⟩;refine Il rfl ?_;refine iV ?_;dsimp only[qM];refine⟨_,⟨_,_,o,f4⟩,_,ep,gk (gj (j:=1) rfl) ?_⟩;refine⟨ha,hl,2,_,haX ts,fun t=>[ixM (msX ts) t.1,ixM (msX ts) t.2],ys,ys2,rfl,eh,eh2,ih,ih2,fun _=>rfl,by decide,fun H1 S1=>⟨_,rfl,jl ?_⟩⟩;have tk:=gB.tk S1;refine⟨_,⟨_,_,S1 _ _ o,f3⟩,_,S1 _ _ ep,gk (gj (j:=2) rfl) ?_⟩;exact⟨me,ml,3,_,meX ts,fun t=>[ixM (msX ts) t.1,ixM (msX ts) t.2.1,t.2.2],xs,zs2,rfl,S1 _ _ em,S1 _ _ em2,im.mono tk,im2.mono tk,fun _=>rfl,by decide,fun H2 S2=>q H2 (S1.trans S2)⟩
theorem KD {σ:St} {a:Int} {H:Hp} {F:Bool->Hp->Prop} (h:F false H):tC (.int a) σ H fun y H2=>cEq true (.int a) y H2 fun x H'=>onB x fun k=>F k H':=by show F (xor true (decide (a=a))) H;rw[hV rfl];exact h
theorem nexS {σ:St} {a:Str} {H:Hp} {F:Bool->Hp->Prop} (h:F false H):tC (.str a) σ H fun y H2=>cEq true (.str a) y H2 fun x H'=>onB x fun k=>F k H':=by show F (xor true (decide (a=a))) H;rw[hV rfl];exact h
theorem nexV {a:Int} {H:Hp} {F:Bool->Hp->Prop} (h:F false H):cEq true (.int a) (.int a) H fun x H'=>onB x fun k=>F k H':=by show F (xor true (decide (a=a))) H;rw[hV rfl];exact h
theorem DI {K:Zp} {a b:Zx} {xs ys:List V} {g:TG} {tb:TS} {D:rA} {σ:St} {H:Hp} (Pv:Nat->St->Hp->Prop) (h0:Pv 0 σ H) (hl:∀i σ H,i<=xs.length->Pv i σ H->SqT K H a xs/\SqT K H b ys) (hn:ys.length=xs.length)
  (hs:∀(i:Nat) (x y:V) (σ:St) (H:Hp) (T:Zx),xs[i]?=some x->ys[i]?=some y->Pv i σ H->H T=none->g (.ref T) σ (upd H T (.tup [x,y])) fun σ2 H2=>tb {D with nx:=Pv (i+ 1),ct:=Pv (i+ 1),bk:=D.nx} σ2 H2) (hd:∀σ H,Pv xs.length σ H->D.nx σ H):
  ∃W:Nat->Nat->St->Hp->Prop,(∃m,W 0 m σ H)/\∀i m σ H,W i m σ H->
   ((Itg tS tS K a b).stop i H/\D.nx σ H)\/((Itg tS tS K a b).go i H/\∃N:St->Hp->Prop,(∀σ' H',N σ' H'->∃m',m'<m/\W (i+ 1) m' σ' H')/\∀x H',(Itg tS tS K a b).yld i H x H'->g x σ H' fun σ2 H2=>tb {D with nx:=N,ct:=N,bk:=D.nx} σ2 H2):=by
 refine⟨fun i m σ H=>Y3 (m=xs.length-i) (i<=xs.length) (Pv i σ H),⟨xs.length,by simp,cO _,h0⟩,?_⟩;rintro i m σ H ⟨rfl,hi,p⟩;obtain⟨q1,q2⟩:=hl i σ H hi p;by_cases hlt:i<xs.length;·refine .inr ⟨⟨xs,ys,xs[i],ys[i]'(by lia),q1,q2,by simp[hlt],bB (by lia)⟩,Pv (i+ 1),fun σ' H' p'=>⟨xs.length-(i+ 1),by lia,rfl,hlt,p'⟩,fun v H' y=>?_⟩;obtain⟨T,x,y,rfl,hT,rfl,hx,hy⟩:=y;exact hs i x y σ H T (hx xs q1) (hy ys q2) p hT
 ·have e:i=xs.length:=by lia
  subst e;exact .inl ⟨⟨xs,ys,q1,q2,by lia⟩,hd σ H p⟩
theorem Io {H:Hp} {x:V} {t:Int×Int} (h:Im H x (thD t)):∃a,x= .ref a/\H a=some (.tup [.str "num",.int t.1,.int t.2]):=by
 cases h with
 |tup e i=>
  cases i with
  |cons h1 i=>
   cases i with
   |cons h2 i=>
    cases i with
    |cons h3 i=>cases i;cases h1;cases h2;cases h3;exact⟨_,rfl,e⟩
theorem Ct {H:Hp} {x:V} {l:List (Int×Int)} {p:Int} (h:Im H x (Vl.row l p).d):∃a b zs,x= .ref a/\H a=some (.tup [.str "row",.ref b,.int p])/\H b=some (.tup zs)/\Ims H zs (l.map thD):=by
 cases h with
 |tup e i=>
  cases i with
  |cons h1 i=>
   cases i with
   |cons h2 i=>
    cases i with
    |cons h3 i=>
     cases i;cases h1;cases h3
     cases h2 with
     |tup e2 i2=>exact⟨_,_,_,rfl,e,e2,i2⟩
theorem DJ {ts:List Xt} {t:Xt} (h:t∈ts) (e:t.val=none):ko ts=none:=by
 cases ev:ko ts with
 |none=>rfl
 |some us=>exact absurd e (FI (oQ ev).symm t.val (cq h))
theorem zx {t:Xt}:∀{us:List Xt},ve (us++[t])->t.val≠none->∀u∈us++[t],u.val≠none
 |[],_,h,u,hu=>by rw[bj.mp hu];exact h
 |x::us,l,h,u,hu=>by
  rcases ak.mp hu with rfl|hu;·exact fun z=>absurd (l.1 z) (List.append_ne_nil_of_right_ne_nil _ (bL _ _))
  ·exact zx l.2 h u hu
inductive XAl (vs:List V) (H:Hp) (Q:VK):Prop
 |mk (v d:V) (dp:Zx) (kvs:List (Key×V)) (M:List Int) (l:List (Int×Int)) (p:Int) (e:vs=[v,d,.ref dp]) (iv:Im H v (Vl.row (l.map (pt (ixM M))) (ixM M p)).d) (id:Im H d (Vl.row l p).d) (ed:H dp=some (.dK kvs)) (pc:Pc kvs M) (nd:M.Nodup) (hm:(Vl.row l p).ins M) (q:∀H',gB H H'->Q (.bl true) H')
def vC:Sp:=fun vs H Q _=>XAl vs H Q
theorem vE (T:Txt K mg):FO P w base 2 T.d46 vC:=by
 refine T.d46.F.rd my fun cdv A0 outer s H vs Q E hr h=>?_;have hu:=vW hr;obtain⟨v,d,dp,kvs,M,l,p,rfl,iv,id,ed,pc,nd,hm,q⟩:=h;refine⟨_,(fW (ij (PW.pt (oW (kM (jA (gG kP rfl T.z_isinstance iM (fV (cv 0) (fV (pj rfl T.z_tuple jW) fX))))) (oW (gN uH (gG gA rfl T.z_len iH (fV (cv 0) fX)) fZ) (oW (gN uH (gx gE (cv 0) fZ) gu) (rC (kM (jA (pF T.d37 (mE T) hr.m (fV (gx gE (cv 0) fZ) fX)))))))))
   (gh (gH rB))
   gL)
  (fW (ij (PW.pt (oW (gN uH (gx gE (cv 0) fZ) (mP hu (cv 2) (gx gE (cv 1) fZ))) (oW (kM (jA (gG kP rfl T.z_isinstance iM (fV (gx gE (cv 0) fZ) (fV (pj rfl T.z_tuple jW) fX))))) (rC (gN uH (gG gA rfl T.z_len iH (fV (gx gE (cv 0) fZ) fX)) (gG gA rfl T.z_len iH (fV (gx gE (cv 1) fZ) fX)))))))
   (gh (gH rB))
   gL)
  (fW (jk PassesOwn.never rfl (E3 rfl T.z_zip (fV (gx gE (cv 0) fZ) (fV (gx gE (cv 1) fZ) fX))) (yv rfl (lF (pN (i:=3) my.nd) (lF (pN (i:=4) my.nd) uo)))
   (fW (ij (PW.pt (oW (kM (jA (gG kP rfl T.z_isinstance iM (fV (cv 3) (fV (pj rfl T.z_tuple jW) fX))))) (oW (gN uH (gG gA rfl T.z_len iH (fV (cv 3) fX)) fZ) (oW (kM (jA (pF T.d37 (mE T) hr.m (fV (gx gE (cv 3) fZ) fX)))) (rC (kM (jA (pF T.d37 (mE T) hr.m (fV (gx gE (cv 3) fZ) fX)))))))))
    (gh (gH rB))
    gL)
   (gh (ij (gN (G2 hr) (cv 3) (ik (fV gu (fV (gx gE (cv 4) fZ) (fV (mP hu (cv 2) (gx gE (cv 4) fZ)) fX)))))
    (gh (gH rB))
    gL))))
  (gh (gH rB))))),?_⟩;obtain⟨tv,bv,xs,rfl,ev,ebv,ixs⟩:=Ct iv;obtain⟨td,bd,ys,rfl,etd,ebd,iys⟩:=Ct id;have dg:∀{H':Hp} {m:Int},gB H H'->m∈M->w6 H' dp (.int m) (some (.int (ixM M m))):=fun{H' m} S hm=>by have g:=w6.k (k:=(Sum.inl m:Key)) (S _ _ ed);rw[pc.at nd hm]at g;exact g
 have lx:=ixs.length;have ly:=iys.length;rw[aE]at lx ly;rw[aE]at lx;refine⟨_,_,_,_,true,rfl,fun _ r=>r,.tup ev,rfl,_,rfl,iV ⟨tv,_,rfl,.inr (SqT.of ev),?_⟩⟩;refine KD ?_;refine iV ⟨_,ev,gk (gj (j:=0) rfl) ?_⟩;refine nexS ?_;refine iV ⟨_,ev,gk (gj (j:=2) rfl) ⟨_,rfl,_,rfl,iV ?_⟩⟩;dsimp only[qM];refine⟨_,ev,gk (gj (j:=2) rfl) ⟨_,etd,gk (gj (j:=2) rfl) ⟨dp,_,rfl,dg (fun _ _ e=>e) hm.1,?_⟩⟩⟩;refine nexV ?_;refine iV ⟨_,ev,gk (gj (j:=1) rfl) ⟨_,_,_,_,true,rfl,fun _ r=>r,.tup ebv,rfl,_,rfl,iV ⟨_,ev,gk (gj (j:=1) rfl) ⟨bv,_,rfl,.inr (SqT.of ebv),_,etd,gk (gj (j:=1) rfl) ⟨bd,_,rfl,.inr (SqT.of ebd),?_⟩⟩⟩⟩⟩;show(if(true ^^ decide ((xs.length:Int)=(ys.length:Int)))=true then _ else _);rw[hV (show(xs.length:Int)=(ys.length:Int) by lia)];refine iV ?_;dsimp only[qM];refine⟨_,ev,gk (gj (j:=1) rfl) ⟨_,etd,gk (gj (j:=1) rfl) ⟨bv,bd,rfl,⟨_,SqT.of ebv⟩,⟨_,SqT.of ebd⟩,DI (xs:=xs) (ys:=ys) (fun i σ H3=>X2 fun o3 o4=>σ=[some (.ref tv),some (.ref td),some (.ref dp),o3,o4]/\gB H H3) ⟨_,_,rfl,fun _ _ e=>e⟩ (fun i σ H3 _ ⟨_,_,_,S⟩=>⟨SqT.of (S _ _ ebv),SqT.of (S _ _ ebd)⟩) (by lia) ?_ ?_⟩⟩⟩
 ·rintro i x y σ H3 tp hx hy ⟨o3,o4,rfl,S⟩ htp;have sT:=gb htp (.tup [x,y]);have S2:=S.trans sT;obtain⟨d1,hd1,i1⟩:=jP ixs hx;obtain⟨d2,hd2,i2⟩:=jP iys hy;rw[aO]at hd2;obtain⟨t,ht,rfl⟩:=dB.mp hd2;rw[aO,aO,ht]at hd1;cases hd1;obtain⟨ax,rfl,eax⟩:=Io (i1.mono (gB.tk S2));obtain⟨ay,rfl,eay⟩:=Io (i2.mono (gB.tk S2));refine⟨tp,_,rfl,SqT.of fY,rfl,_,_,rfl,_,_,rfl,rfl,?_⟩;generalize upd H3 tp (.tup [.ref ax,.ref ay])=H4 at S2 eax eay⊢;refine⟨_,_,_,_,true,rfl,fun _ r=>r,.tup eax,rfl,_,rfl,iV ⟨ax,_,rfl,.inr (SqT.of eax),?_⟩⟩;refine KD ?_;refine iV ⟨_,eax,gk (gj (j:=1) rfl) ⟨_,rfl,_,rfl,iV ⟨_,eax,gk (gj (j:=2) rfl) ⟨_,rfl,_,rfl,iV ?_⟩⟩⟩⟩;dsimp only[qM];refine⟨_,eay,gk (gj (j:=1) rfl) ⟨_,eay,gk (gj (j:=2) rfl) ⟨dp,_,rfl,dg S2 (hm.2 t (aP ht)),n8,fun b hb=>?_⟩⟩⟩;have S5:=gb hb (.tup [.str "num",.int t.1,.int (ixM M t.2)]);have gg:gF (thD (pt (ixM M) t))=true:=by simp only[thD,gF,gFs,sD,kD];rfl
  obtain⟨ge,gc⟩:=Ij gg;refine⟨ax,b,thD (pt (ixM M) t),thD (pt (ixM M) t),rfl,rfl,Gb ((i1.mono (gB.tk S2)).mono (gB.tk S5)),Gb (vd hb (.cons (.flat rfl) (.cons (.flat rfl) (.cons (.flat rfl) .nil)))),gc,by simp only[thD,sP,jT,sD,kD];decide,?_⟩;rw[gY rfl,ge];have no:¬((!true)=true):=by decide
  dsimp only[onB,qM];rw[gJ no];exact⟨_,_,rfl,S2.trans S5⟩
 ·rintro σ H3 ⟨o3,o4,rfl,S⟩;exact q _ S
theorem Cu:t0.tx="0":=by rw[t0,Xt.tx];show TM.Internal.numS 0="0";decide+kernel
theorem Ge {f:Zx} {fd:Zs} (T:Txt K mg) (D:Dk P w K mg) (W:Wk P w T) (F:Fun K "law" "law" uS f fd):rK P w K mg base CX0 150 f fd ["_law_script"] (yU K):=by
 have gD39:=yp (base:=base) T D W;refine F.rd sq fun _ A _ s H vs Q E hr h=>?_;obtain⟨ad,ns,rfl,hsq,hlen,q⟩:=h;refine⟨_,(fW (pS (i:=1) sq.nd (pF T.d28 (vh T) hr.m (fV (gG (v7 rfl) rfl T.z_sum DT (fV (ph AR (cv 0) uA (pU fZ)) fX)) fX)))
  (fW (pS (i:=2) sq.nd (pF T.d45 (vz T) hr.m (fV (cv 1) (fV (cv 0) fX))))
  (fW (pS (i:=3) sq.nd (pF T.d35 (tG T) hr.m (fV (cv 2) fX)))
  (fW (pS (i:=4) sq.nd (gG vX rfl T.z_len iH (fV (gx gC (cv 3) fZ) fX)))
  (fW (ij (oU (tK (gx gC (gx gC (cv 2) (vF qw fZ)) fZ)))
   (fW (pS (i:=5) sq.nd (pF T.d39 gD39 hr.m (fV (pF T.d36 (wU T) hr.m (fV (cv 1) (fV (ic qA (cv 2) (gR (fV (gR (fV gu fX)) fX))) fX))) (fV fZ fX))))
   (gh (gH (tM (Gv (tK (gX T.c6.cl T.n6value (cv 5)))) (rD (pF T.d40 (wY T) hr.m (fV (cv 5) (fV gu (fV (cv 4) (fV (cv 3) fX))))))))))
   gL)
  (fW (pS (i:=5) sq.nd (pF T.d39 gD39 hr.m (fV (pF T.d36 (wU T) hr.m (fV (cv 1) (fV (cv 2) fX))) (fV fZ fX))))
  (gh (gH (tM (pF T.d40 (wY T) hr.m (fV (cv 5) (fV gu (fV (cv 4) (fV (cv 3) fX))))) (rD (pF T.d46 (vE T) hr.m (fV (gX T.c6.cl T.n6value (cv 5)) (fV (gx gC (gx gC (cv 2) (vF qw fZ)) fZ) (fV (gx gC (cv 3) fZ) fX)))))))))))))),?_⟩;have sl:=sizeLine_eq;obtain⟨ks1,ek1,_⟩:=DG ns none (some 1);refine⟨_,rfl,ad,_,rfl,hsq,fun c1 hc1=>⟨c1,ks1,rfl,SqL.of (by rw[fY,ek1]),fun n0=>?_⟩⟩;have S1:=gb hc1 (.lst (xy (ns.map V.int) none (some 1)));dsimp only;generalize upd H c1 (.lst (xy (ns.map V.int) none (some 1)))=H1 at S1⊢;refine⟨n0,rfl,fun wl ws H2 S2 _ hw=>?_⟩;dsimp only[hJ];have S02:=S1.trans S2;refine⟨wl,ad,ws,ns,rfl,hw,S02.seq hsq,hlen,fun il xs ts H3 S3 _ ei hx Fi=>?_⟩;dsimp only[hJ];refine⟨il,ws,xs,ts,rfl,ei,hx,Fi,fun pa H4 S4 pl=>?_⟩;dsimp only[hJ];have S34:=S3.trans S4;have hw4:Wd H4 wl ws:=⟨S34 _ _ hw.e,hw.l,hw.n,hw.d⟩;have ei4:=S4 _ _ ei;have hx4:=hx.same S4;obtain⟨dp,hl,ml,kvs,ys,zs,ep,ed,pc,eh,ih,em,im⟩:=pl;have plm:∀{H':Hp},gB H4 H'->PlA H' pa ts:=fun{H'} S=>⟨dp,hl,ml,kvs,ys,zs,S _ _ ep,S _ _ ed,pc,S _ _ eh,ih.mono (gB.tk S),S _ _ em,im.mono (gB.tk S)⟩;refine⟨_,ep,gk (gj (j:=0) rfl) ⟨dp,_,rfl,ed,?_⟩⟩;dsimp only[hJ];rw[pc.l];have l1:=Fi.l1;have l9:=Fi.l12;have lx:=hx.len;obtain⟨us,t,hu⟩:∃us u,ts=us++[u]:=⟨_,_,(bI (fun e=>by rw[e]at l1;cases l1)).symm⟩;have tm:t∈ts:=by rw[hu];exact aA _ (cD _)
 have hk:ts[us.length]?=some t:=by rw[hu,aM (cM _),df];rfl
 have lu:ts.length=us.length+ 1:=by rw[hu,aQ];rfl
 obtain⟨xu,hxu,hX⟩:=hx4.at hk;obtain⟨zs',y,hys⟩:∃ys y,xs=ys++[y]:=⟨_,_,(bI (fun e=>by rw[e]at lx;rw[<-lx]at lu;cases lu)).symm⟩;have hy:y=xu:=by
  have l2:zs'.length=us.length:=by
   have:xs.length=zs'.length+ 1:=by rw[hys,aQ];rfl
   lia
  rw[hys,aM (by lia),l2,df]at hxu;cases hxu;rfl
 subst hy;obtain⟨ai,vi,B,rfl,eai,ivi,_⟩:=hX;have txl:∀t∈ts,t.tx.length<=100000:=fun t ht=>by obtain⟨⟨_,o⟩,l⟩:=Cp Fi.ok t ht;have:=Fi.l;exact Ai hw.n o (by lia)
 refine⟨_,rfl,_,ei4,gk (v:=V.ref ai) (by rw[hys];exact qv zs' _) ⟨_,eai,gk (gj (j:=1) rfl) ⟨_,rfl,?_⟩⟩⟩
 cases etv:t.val with
 |none=>
  rw[etv]at ivi;cases ivi;rw[hV rfl];refine jl ⟨rp,fun b1 hb1=>?_⟩;have S5:=gb hb1 (.lst [.str "0"]);have eb1:(upd H4 b1 (.lst [.str "0"])) b1=some (.lst [.str "0"]):=fY;dsimp only;generalize upd H4 b1 (.lst [.str "0"])=H5 at S5 eb1⊢;refine⟨rp,fun b2 hb2=>?_⟩;have S6:=gb hb2 (.lst [.ref b1]);have eb2:(upd H5 b2 (.lst [.ref b1])) b2=some (.lst [.ref b1]):=fY;replace eb1:=S6 _ _ eb1;replace S6:=S5.trans S6;generalize upd H5 b2 (.lst [.ref b1])=H6 at S6 eb1 eb2⊢;refine⟨_,_,_,_,rfl,rfl,S6 _ _ ei4,eb2,by rw[bc];lia,fun b3 hb3=>?_⟩;have S7:=gb hb3 (.lst (xs++[.ref b1]));have eb3:(upd H6 b3 (.lst (xs++[.ref b1]))) b3=some (.lst (xs++[.ref b1])):=fY;replace eb1:=S7 _ _ eb1;replace S7:=S6.trans S7;dsimp only;generalize upd H6 b3 (.lst (xs++[.ref b1]))=H7 at S7 eb1 eb3⊢;have hw7:Wd H7 wl ws:=⟨S7 _ _ hw4.e,hw.l,hw.n,hw.d⟩;have tx7:Txs H7 (xs++[.ref b1]) (ts++[t0]):=by
   obtain⟨a,b⟩:=(hx4.same S7).txs;refine⟨by rw[aQ,aQ,a];rfl,fun k u e=>?_⟩;by_cases z:k<ts.length;·rw[aN z]at e;obtain⟨c,m,h1,h2⟩:=b k u e;exact⟨c,m,by rw[aN (by lia)];exact h1,h2⟩
   ·rw[aM (by lia)]at e;have hj:k-ts.length=0:=by have:=(au.mp e).1;rw[bc]at this;lia
    rw[hj]at e;cases e;refine⟨b1,[],by rw[aM (by lia),a,hj];rfl,?_⟩;rw[Cu];exact eb1
  refine⟨wl,b3,ws,_,ts++[t0],rfl,hw7,eb3,tx7,by rw[aQ,bc];lia,fun u hu=>(ao.mp hu).elim (txl u) (fun hu=>by rw[bj.mp hu,Cu];decide+kernel),fun H8 S8=>?_⟩;refine⟨ws,ts,[t0],rfl,hw.n,hw.d,hw.l,Fi,.inr ⟨DJ tm etv,rfl⟩,fun r H9 en v S9 ra=>?_⟩;dsimp only[hJ];have S49:=(S7.trans S8).trans S9;have ra2:=ra;obtain⟨dx,me,ha,xs1,ys1,o,_,_,_,_,eg⟩:=ra;obtain⟨rfl,rfl⟩:en="full"/\v= .non:=by
   rcases eg with⟨_,t',u,h1,h2,_⟩|⟨h1,_,h2⟩;·rw[hu,cm]at h1;cases h1;rw[etv]at h2;cases h2
   ·exact⟨h1,h2⟩
  obtain⟨_,f2,_⟩:=yn (en:= .str "full") (v:= .non) (me:=me) (ha:=ha) (bg:=((msX ts).length:Int));refine⟨_,⟨_,_,o,f2⟩,_,rfl,?_⟩;exact⟨r,pa,ts,"full",.non,rfl,ra2,plm S49,fun H10 _=>q _⟩
 |some u=>
  obtain⟨l,p,eu,l6⟩:=Fi.rv t tm (by rw[etv];exact fun z=>nomatch z);rw[eu]at etv;cases etv;rw[eu]at ivi;obtain⟨tb,ub,zb,rfl,_⟩:=nZ (show Im H4 vi (Vl.row l p).d from ivi);rw[iw (fun z=>nomatch z)];refine iV ?_;dsimp only[qM];obtain⟨vs,hvs⟩:=pI (ts:=ts) (by rw[hu];exact zx (by rw[<-hu];exact Fi.la) (by rw[eu];exact fun z=>nomatch z));refine⟨wl,il,ws,xs,ts,rfl,hw4,ei4,hx4.txs,by lia,txl,fun H5 S5=>?_⟩;refine⟨ws,ts,[],by simp only[aF],hw.n,hw.d,hw.l,Fi,.inl ⟨⟨vs,hvs⟩,rfl⟩,fun r H6 en v S6 ra=>?_⟩;dsimp only[hJ];have S46:=S5.trans S6;have ra2:=ra;obtain⟨dx,me,ha,xs1,ys1,o,_,_,_,_,eg⟩:=ra;obtain⟨rfl,iv⟩:en="done"/\Im H6 v ((Vl.row l p).mp (ixM (msX ts))).d:=by
   rcases eg with⟨h0,t',u,h1,h2,h3⟩|⟨_,h1,_⟩;·rw[hu,cm]at h1;cases h1;rw[eu]at h2;cases h2;exact⟨h0,h3⟩
   ·rw[hvs]at h1;cases h1
  obtain⟨_,f2,_⟩:=yn (en:= .str "done") (v:=v) (me:=me) (ha:=ha) (bg:=((msX ts).length:Int));refine⟨r,pa,ts,"done",v,rfl,ra2,plm S46,fun H7 S7=>⟨_,rfl,jl ?_⟩⟩;have S47:=S46.trans S7;refine⟨_,⟨_,_,S7 _ _ o,f2⟩,_,rfl,_,S47 _ _ ei4,gk (v:=V.ref ai) (by rw[hys];exact qv zs' _) ⟨_,S47 _ _ eai,gk (gj (j:=1) rfl) ⟨_,S47 _ _ ep,gk (gj (j:=0) rfl) ?_⟩⟩⟩;exact⟨v,_,dp,kvs,msX ts,l,p,rfl,iv.mono (gB.tk S7),ivi.mono (gB.tk S47),S47 _ _ ed,pc,Fi.nd,(JV (M:=msX ts) (vs:=[]) (fun v hv=>nomatch hv) Fi.ok Fi.la (fun m h=>h) t tm).1 _ eu,fun H9 S9=>q _⟩
open GR.Internal (stP stT)
abbrev Lt:=List (Str×Tok×Zx)
abbrev Lt.kv (l:Lt):List (Key×V):=l.map fun p=>(Sum.inr p.1,V.ref p.2.2)
inductive Al (K:Zp):Lt->List (Str×List Bool)->Prop
 |nil:Al K [] []
 |cons {k:Str} {t:Tok} {q:Zx} {ps:List Bool} {l:Lt} {s:List (Str×List Bool)} (h:∀H:Hp,SqT K H q (ps.map pV)) (r:Al K l s):Al K ((k,t,q)::l) ((k,ps)::s)
theorem Al.go {K:Zp} {h:Str}:∀{l:Lt} {s:List (Str×List Bool)},Al K l s->((s.find? fun p=>decide (p.1=h))=none->jK l.kv (Sum.inr h)=none)/\∀ps,(s.find? fun p=>decide (p.1=h)).map (·.2)=some ps->∃q,jK l.kv (Sum.inr h)=some (.ref q)/\∀H:Hp,SqT K H q (ps.map pV)
 |_,_,.nil=>⟨fun _=>rfl,fun _ e=>(nomatch e)⟩
 |(k,t,q)::l,_,.cons x r=>by
  obtain⟨a,b⟩:=Al.go (h:=h) r;rw[aS];by_cases e:k=h;·subst e;rw[hV rfl,Lt.kv,aD,jv rfl];exact⟨(fun z=>nomatch z),fun ps z=>by cases z;exact⟨q,rfl,x⟩⟩
  ·rw[iw e,Lt.kv,aD,jw (fun z=>e (Sum.inr.inj z))];exact⟨a,b⟩
def zG {P:Zu} {w:Zv} {K:Zp} {mg:Zc} {a:Zx} {n:Nat} {es:Array DictEntry} {l:Lt} (m:mg "STEADY_FORMS"=some (.ref a)) (ha:(a==sysModules)=false) (hl:K.lookup a=some ⟨.type "dict",none,.dict es n,#[]⟩) (he:es.toList=l.map fun p=>⟨PyData.keyHash w.params p.1,.str p.1 p.2.1,.ref p.2.2⟩) (hn:(l.map (·.1)).Nodup) (h:Al K l stT):Dk P w K mg:=⟨a,m,l.kv,yG ha hl he hn,fun k e=>by unfold stP at e;exact h.go.1 (Option.map_eq_none_iff.mp e),fun k ps e=>by unfold stP at e;exact h.go.2 ps e⟩
def JX {P:Zu} {w:Zv} {K:Zp} {mg:Zc} (T:Txt K mg) {a:Zx} {n:Nat} {es:Array DictEntry} {t_num t_name t_fn t_call t_let t_rec t_get t_tag t_case t_row t_at t_join t_size t_add t_sub t_less:Tok} {q_fn q_call q_let q_rec q_get q_tag q_case q_add q_less:Zx} (m:mg "WORKERS"=some (.ref a)) (ha:(a==sysModules)=false) (hl:K.lookup a=some ⟨.type "dict",none,.dict es n,#[]⟩) (he:es.toList=([("num",t_num,T.d6.a),("name",t_name,T.d7.a),("fn",t_fn,q_fn),("call",t_call,q_call),("let",t_let,q_let),("rec",t_rec,q_rec),("get",t_get,q_get),("tag",t_tag,q_tag),("case",t_case,q_case),("row",t_row,T.d8.a),("at",t_at,T.d9.a),("join",t_join,T.d10.a),("size",t_size,T.d11.a),("add",t_add,q_add),("sub",t_sub,T.d12.a),("less",t_less,q_less)]:Lt).map fun p=>⟨PyData.keyHash w.params p.1,.str p.1 p.2.1,.ref p.2.2⟩):Wk P w T:=⟨a,m,_,yG ha hl he (by show(["num","name","fn","call","let","rec","get","tag","case","row","at","join","size","add","sub","less"]:Zd).Nodup;decide+kernel),fun hw=>by
  cases hw with
  |num=>exact⟨_,_,by kernel_rfl,.num,_,rfl⟩
  |name _ _=>exact⟨_,_,by kernel_rfl,.name,_,rfl⟩
  |row=>exact⟨_,_,by kernel_rfl,.row,_,rfl⟩
  |sub=>exact⟨_,_,by kernel_rfl,.sub,_,rfl⟩
  |size=>exact⟨_,_,by kernel_rfl,.size,_,rfl⟩
  |«at»=>exact⟨_,_,by kernel_rfl,.att,_,rfl⟩
  |join _ _ _=>exact⟨_,_,by kernel_rfl,.join,_,rfl⟩
  |full _ _ _=>exact⟨_,_,by kernel_rfl,.join,_,rfl⟩⟩
end K61.Internal
structure PySem.W.Fast:Prop where
 (tw513125273385631507 tw14624639463732438757 tw3387814254817794867 tw17460216248692528713 tw11752894404411610098 tw4786028642360402336 tw10449189639785775466 tw8318994792780990261 tw14258359286885641866 tw17293055977810627844 tw12614050607257504001 tw15447357363902004584 tw9466763682423150613 tw13179765955496986417 tw65724460379489028 tw6006437191988702618 tw6900278455788862003 tw3596016591299928982 tw10700020691461451781 tw13428578050581987006 tw14950439567022534439 tw3266527387657655461 tw1889536581170552539 tw2685292513578374736 tw11700254517435762890 tw8545346074652154877 tw10254726368546922211 tw15627437216026906518 tw5595443112116412699 tw15088555012442757857 tw4024216517812184657 tw12814374080585325793 tw16822601660840807725 tw1603190752351668183 tw3317283438645262548 tw816325104772585125 tw13349004175195405666 tw14545716932122604494 tw6640857179284159314 tw4224084454507057704 tw11890188150313902750 tw11475956149875387464 tw4810458537903220483 tw12029033803776931978 tw17401986758417364675 tw2489632183654818727 tw6629082083051792999 tw12621227954074007575 tw4853820593921100477 tw3795458491139320602 tw11381275459616313932 tw14685389064487937032 tw3034609663090501712 tw16850355092822211583 tw2078029012155998487 tw6057071016360592861 tw866656041696665714 tw8520988796062654385 tw13447396207260207108 tw7003208585619644558 tw6137882744352831751 tw5054336016387108259 tw217200684880669460 tw2857217320893115127 tw3032070850508717811 tw3400532718924619484 tw4887551990406943221 tw11318469135989146950 tw14336129975161510400 tw6073580505522844734 tw2215935508571010321 tw1949619323864733619 tw5600712760006779183 tw13035976086477780787 tw9087313291046821244 tw8933550877872961172 tw8039179566406272904 tw147339941270833779 tw13261709813691424698 tw15363617817121075896 tw14585502316272320666 tw16817238834061587608 tw8607135041964594510 tw15029071516838765791 tw6629661519271959074 tw1054237493438196025 tw11544736092733263593 tw4745746590038699929 tw15888544892974188859 tw14228568388871228632 tw15551189329372894719 tw8912233469438035026 tw12186749917788537097 tw17729805972076668885 tw8936961091665400972 tw4671595962243605395 tw10063154295146921484 tw11195442561274244757 tw4209305526913888909 tw4675286936540653680 tw1942501513466219372 tw13018433008205908731 tw12312098430701009919 tw5095504726787260871 tw5874159624056905036 tw3167894587871374411 tw2102587032727108718 tw8941318940712010148 tw4287540149323076432 tw4381705206130538348 tw12300193831283859772 tw2923378699942303282 tw11044910230096684337 tw6020905221970365445 tw4865369998792533589 tw9007264319488503451 tw10667036546513037306 tw4404087313302851797 tw8190775957763041205 tw14716351016429107171 tw762703200251918714 tw684075604002872666 tw4476393805758103075 tw16865382542035146062 tw16527223495476845925 tw8510677913509272308 tw16043888565979280295 tw10115134800588935874 tw15656281353947961901 tw3154744177567801333 tw11603489276997875202 tw10043910389006220362 tw682304861270084905 tw11290586995413409045 tw1472265979856930938 tw14332992886732572583 tw11000689645851299484 tw15738949552938837963 tw12720463523979753188 tw3237338210022176133 tw16791461328430391673 tw6286840623739306953 tw7824745729624955518 tw5586902659485811518 tw17238617103937685350 tw10680484827238568490 tw18304719830156388636 tw4147669577569811571 tw7196328112003732670 tw914648505850584619 tw10241549436824642651 tw5057066507117417762 tw39831240731450858 tw6960387304846833541 tw7441146050718885037 tw12130729863719758354 tw7349105937496255493 tw14890294956331336901 tw11989949730010588246 tw959354923078930270 tw9805705045914687717 tw9000981090057892534 tw13902252550939621950 tw2654783418520888644 tw158171264951795309 tw17088356739468435095 tw15691219534303861112 tw4657880335851601620 tw10706928347386643974 tw10190131075616354401 tw12973657264150124767 tw3101391871160934645 tw9839198643430585024 tw12596343392570678434 tw15739102604880775895 tw7489915600389504864 tw7154613552194816815 tw1914628609508384791 tw6529609550586381649 tw12782265527380014293 tw2832758514157449065 tw18112673501799296126 tw9824833117675784878 tw14450961501748258608 tw14648161157762044516 tw3779619526994459120 tw4259686057309365397 tw20049663398578533 tw4339351461874682301 tw1799938062674503957 tw7351215651583044533 tw10857873624755695898 tw5675915213297387547 tw3180967353915595776 tw4742391069670238565 tw4131418859598253540 tw16637521604414114713 tw1242870266198853041 tw13469786629715038009 tw17079844659303916902 tw11945894620205508222 tw17088590691938589267 tw5865015402437365321 tw2497982452345808931 tw16577180215680803675 tw13589069193624194155 tw112375127371171351 tw12772921545541554112 tw9813620903928028213 tw9373100055159048428 tw6328426245212378585 tw13636280054029156080 tw17178727208528199738 tw10458045765763769261 tw14167494330421853030 tw1320309036299577400 tw14116247307410894264 tw6973852846414425517 tw5726977546141891090 tw3732761692751392774 tw2861082527727203920 tw13147034490429396661 tw4662158836372231688 tw1230974109668473109 tw2551055105216151629 tw14893501671407668606 tw1029291166677006271 tw10627220651571434525 tw1261644294901968056 tw12831931461075565241 tw16718223172578544123 tw7113978679074738152 tw260615784928282008 tw711902268047827766 tw883585656167315475 tw10109887457211567178 tw17220781298350156699 tw17480528237548629945 tw18055891672542494196 tw6612072253955879870 tw4577605370904291672 tw13994747092210406792 tw9966372156407527193 tw4811028674872624166 tw7797434134343924540 tw5084877220547839316 tw948214563878605824 tw7290228978954163617 tw5000899375853881102 tw11017811971016818713 tw1156577978572666849 tw11616470593562105490 tw10382758294437833032 tw5847400509767118752 tw5866256193846853539 tw12629215171252345211 tw14771150119069882692:True)
namespace K61.Internal
open PySem L2.Internal
theorem all_mk {l:PySem.W.OpenLaw} {w:Zv} {K:Zp} {h:Zt} {mg:Zc} {fa fL:Zx} (X:K.In h) (G:h.Ns mainGlobals mg) (hfa:mg "law"=some (.ref fa))
  {u1:Tok} {u2:Tok} {u3:Tok} {p4:Zx} {w4_0 w4_1 w4_2 w4_3 w4_4 w4_5 w4_6 w4_7 w4_8 w4_9 w4_10 w4_11 w4_12 w4_13 w4_14:Tok} {od4:Option Zx} {n4:Nat} {sl4:Array (Option Zz)} {u5:Tok} {u6:Tok} {u7:Tok} {u8:Tok} {u9:Tok} {u10:Tok} {u11:Tok} {u12:Tok}
  {pW:Zx} {nW:Nat} {tW0 tW1 tW2 tW3 tW4 tW5 tW6 tW7 tW8 tW9 tW10 tW11 tW12 tW13 tW14 tW15:Tok} {fW0 fW1 fW2 fW3 fW4 fW5 fW6 fW7 fW8 fW9 fW10 fW11 fW12 fW13 fW14 fW15:Zx}
  {pD:Zx} {nD:Nat} {tD1 tD2 tD3 tD4 tD5 tD6 tD7 tD8 tD9 tD10 tD11:Tok} {qD1 qD2 qD3 qD4 qD5 qD6 qD7 qD8 qD9 qD10 qD11:Zx} {odD1:Option Zx} {nD1:Nat} {slD1:Array (Option Zz)} {uD1_0 uD1_1:Tok} {odD2:Option Zx} {nD2:Nat} {slD2:Array (Option Zz)} {uD2_0 uD2_1:Tok} {odD3:Option Zx} {nD3:Nat} {slD3:Array (Option Zz)} {uD3_0 uD3_1 uD3_2:Tok} {odD4:Option Zx} {nD4:Nat} {slD4:Array (Option Zz)} {uD4_0 uD4_1:Tok} {odD5:Option Zx} {nD5:Nat} {slD5:Array (Option Zz)} {uD5_0 uD5_1:Tok} {odD6:Option Zx} {nD6:Nat} {slD6:Array (Option Zz)} {uD6_0 uD6_1 uD6_2:Tok} {odD7:Option Zx} {nD7:Nat} {slD7:Array (Option Zz)} {uD7_0 uD7_1:Tok} {odD8:Option Zx} {nD8:Nat} {slD8:Array (Option Zz)} {uD8_0:Tok} {odD9:Option Zx} {nD9:Nat} {slD9:Array (Option Zz)} {uD9_0 uD9_1:Tok} {odD10:Option Zx} {nD10:Nat} {slD10:Array (Option Zz)} {uD10_0 uD10_1:Tok} {odD11:Option Zx} {nD11:Nat} {slD11:Array (Option Zz)} {uD11_0 uD11_1:Tok}
  {fU C1 C2 C3 C4 C5 C6 C7 C8:Zx} {odL anL:Option Zx} {slL:Array (Option Zz)} {ocL kVL dcL pmL cdL ctL:Zz}
  (g1:eL K mainGlobals "MOST_JOINED"=some (some (.int 60 u1)))
  (g2:eL K mainGlobals "LETTERS"=some (some (.str "abcdefghijklmnopqrstuvwxyz" u2)))
  (g3:eL K mainGlobals "FIGURES"=some (some (.str "0123456789" u3)))
  (g4:eL K mainGlobals "KEPT_WORDS"=some (some (.ref p4)))
  (h4:K.lookup p4=some ⟨.type "tuple",od4,.seq #[.str "def" w4_0,.str "fn" w4_1,.str "call" w4_2,.str "let" w4_3,.str "rec" w4_4,.str "get" w4_5,.str "tag" w4_6,.str "case" w4_7,.str "row" w4_8,.str "at" w4_9,.str "join" w4_10,.str "size" w4_11,.str "add" w4_12,.str "sub" w4_13,.str "less" w4_14] n4,sl4⟩)
  (g5:eL K mainGlobals "MOST_FIGURES"=some (some (.int 60 u5)))
  (g6:eL K mainGlobals "MOST_SIGNS"=some (some (.int 12 u6)))
  (g7:eL K mainGlobals "MOST_DEFINITIONS"=some (some (.int 12 u7)))
  (g8:eL K mainGlobals "MOST_FIELDS"=some (some (.int 6 u8)))
  (g9:eL K mainGlobals "MOST_ARMS"=some (some (.int 6 u9)))
  (g10:eL K mainGlobals "MOST_THINGS"=some (some (.int 8 u10)))
  (g11:eL K mainGlobals "MOST_PLACES"=some (some (.int 160 u11)))
  (g12:eL K mainGlobals "MOST_NEST"=some (some (.int 24 u12)))
  (a1:Fm K "parts_of" p8)
  (a2:Fm K "places_in" oo)
  (a3:Fm K "flat" By)
  (a4:Fm K "first_parts" l8)
  (a5:Fm K "held_value" mY)
  (a6:Fm K "work_num" p9)
  (a7:Fm K "work_name" oq)
  (a8:Fm K "work_row" qa)
  (a9:Fm K "work_at" sd)
  (a10:Fm K "work_join" ot)
  (a11:Fm K "work_size" ou)
  (a12:Fm K "work_sub" qb)
  (a13:Fm K "run" Fg)
  (a14:Fm K "words_of" qc)
  (a15:Fm K "is_name" se)
  (a16:Fm K "is_number" ow)
  (a17:Fm K "made_of" sg)
  (a18:Fm K "read" Bz)
  (a19:Fm K "check_count" md)
  (a20:Fm K "homes_of" qd)
  (a21:Fm K "refuse_twice" lN)
  (a22:Fm K "words_once" mZ)
  (a23:Fm K "home_of" sh)
  (a24:Fm K "root_scopes" mf)
  (a25:Fm K "inner_scopes" lO)
  (a26:Fm K "widened" si)
  (a27:Fm K "_law_stem" ox)
  (a28:Fm K "_law_words" m7)
  (a29:Fm K "_law_mark" oy)
  (a30:Fm K "_law_number" mh)
  (a31:Fm K "_law_named" nh)
  (a32:Fm K "_law_form" oz)
  (a33:Fm K "_law_valued" mi)
  (a34:Fm K "_law_sum" qg)
  (a35:Fm K "_law_placed" mj)
  (a36:Fm K "_law_text" oA)
  (a37:Fm K "_law_whole" nj)
  (a38:Fm K "_law_tuples" mn)
  (a39:Fm K "_law_ran" qh)
  (a40:Fm K "_law_told" oB)
  (a41:Fm K "_law_thing_at" kX)
  (a42:Fm K "_law_size" oC)
  (a43:Fm K "_law_row" qi)
  (a44:Fm K "_law_joined" mq)
  (a45:Fm K "_law_items" nk)
  (a46:Fm K "_law_alike" nq)
  (c1:eL K mainGlobals "FlowError"=some (some (.ref C1)))
  (c2:eL K mainGlobals "BadText"=some (some (.ref C2)))
  (x2:eI K C2 [.type "ValueError",.type "Exception",.type "BaseException",.type "object"] "ValueError.__new__"=true)
  (c3:eL K mainGlobals "Twice"=some (some (.ref C3)))
  (c4:eL K mainGlobals "NoName"=some (some (.ref C4)))
  (c5:Cm K "Machine" C5)
  (n5program:dM K (.ref C5) "program"=some none)
  (n5homes:dM K (.ref C5) "homes"=some none)
  (n5turns:dM K (.ref C5) "turns"=some none)
  (n5begun:dM K (.ref C5) "begun"=some none)
  (n5end:dM K (.ref C5) "end"=some none)
  (n5meets:dM K (.ref C5) "meets"=some none)
  (n5had:dM K (.ref C5) "had"=some none)
  (n5defined:dM K (.ref C5) "defined"=some none)
  (n5steps:dM K (.ref C5) "steps"=some none)
  (n5ready:dM K (.ref C5) "ready"=some none)
  (e47:Mm K C5 "__init__" "Machine.__init__" jX)
  (e48:Mm K C5 "work_program" "Machine.work_program" jh)
  (e49:Mm K C5 "work_steps" "Machine.work_steps" jD)
  (e50:Mm K C5 "begin" "Machine.begin" kY)
  (e51:Mm K C5 "work_parts" "Machine.work_parts" jE)
  (e52:Mm K C5 "take_ready" "Machine.take_ready" jF)
  (e53:Mm K C5 "finish" "Machine.finish" kI)
  (e54:Mm K C5 "comes" "Machine.comes" kZ)
  (e55:Mm K C5 "comes_as" "Machine.comes_as" jY)
  (e56:Mm K C5 "both_come_as" "Machine.both_come_as" ji)
  (c6:Cm K "Run" C6)
  (n6end:dM K (.ref C6) "end"=some none)
  (n6value:dM K (.ref C6) "value"=some none)
  (n6meets:dM K (.ref C6) "meets"=some none)
  (n6had:dM K (.ref C6) "had"=some none)
  (n6begun:dM K (.ref C6) "begun"=some none)
  (e57:Mm K C6 "__init__" "Run.__init__" lP)
  (c7:Cm K "Program" C7)
  (n7names:dM K (.ref C7) "names"=some none)
  (n7roots:dM K (.ref C7) "roots"=some none)
  (n7rows:dM K (.ref C7) "rows"=some none)
  (e58:Mm K C7 "__init__" "Program.__init__" jZ)
  (c8:Cm K "Reader" C8)
  (n8words:dM K (.ref C8) "words"=some none)
  (n8taken:dM K (.ref C8) "taken"=some none)
  (n8rows:dM K (.ref C8) "rows"=some none)
  (e59:Mm K C8 "__init__" "Reader.__init__" kr)
  (e60:Mm K C8 "ahead" "Reader.ahead" lQ)
  (e61:Mm K C8 "take" "Reader.take" mw)
  (e62:Mm K C8 "pass_over" "Reader.pass_over" ka)
  (e63:Mm K C8 "take_name" "Reader.take_name" kb)
  (e64:Mm K C8 "take_expr" "Reader.take_expr" ke)
  (e65:Mm K C8 "take_row" "Reader.take_row" ku)
  (e66:Mm K C8 "take_form" "Reader.take_form" kf)
  (e67:Mm K C8 "take_steady" "Reader.take_steady" jG)
  (e68:Mm K C8 "take_fields" "Reader.take_fields" jH)
  (e69:Mm K C8 "take_arms" "Reader.take_arms" kg)
  (e70:Mm K C8 "take_things" "Reader.take_things" jI)
  (z_ValueError:eL K mainGlobals "ValueError"=some none)
  (z_all:eL K mainGlobals "all"=some none)
  (z_bool:eL K mainGlobals "bool"=some none)
  (z_dict:eL K mainGlobals "dict"=some none)
  (z_enumerate:eL K mainGlobals "enumerate"=some none)
  (z_int:eL K mainGlobals "int"=some none)
  (z_isinstance:eL K mainGlobals "isinstance"=some none)
  (z_len:eL K mainGlobals "len"=some none)
  (z_list:eL K mainGlobals "list"=some none)
  (z_max:eL K mainGlobals "max"=some none)
  (z_min:eL K mainGlobals "min"=some none)
  (z_range:eL K mainGlobals "range"=some none)
  (z_reversed:eL K mainGlobals "reversed"=some none)
  (z_str:eL K mainGlobals "str"=some none)
  (z_sum:eL K mainGlobals "sum"=some none)
  (z_tuple:eL K mainGlobals "tuple"=some none)
  (z_zip:eL K mainGlobals "zip"=some none)
  (w0:eL K mainGlobals "work_num"=some (some (.ref fW0)))
  (w1:eL K mainGlobals "work_name"=some (some (.ref fW1)))
  (w9:eL K mainGlobals "work_row"=some (some (.ref fW9)))
  (w10:eL K mainGlobals "work_at"=some (some (.ref fW10)))
  (w11:eL K mainGlobals "work_join"=some (some (.ref fW11)))
  (w12:eL K mainGlobals "work_size"=some (some (.ref fW12)))
  (w14:eL K mainGlobals "work_sub"=some (some (.ref fW14)))
  (gW:eL K mainGlobals "WORKERS"=some (some (.ref pW)))
  (sW:(pW==sysModules)=false)
  (hW:K.lookup pW=some ⟨.type "dict",none,.dict #[⟨PyData.keyHash w.params "num",.str "num" tW0,.ref fW0⟩,⟨PyData.keyHash w.params "name",.str "name" tW1,.ref fW1⟩,⟨PyData.keyHash w.params "fn",.str "fn" tW2,.ref fW2⟩,⟨PyData.keyHash w.params "call",.str "call" tW3,.ref fW3⟩,⟨PyData.keyHash w.params "let",.str "let" tW4,.ref fW4⟩,⟨PyData.keyHash w.params "rec",.str "rec" tW5,.ref fW5⟩,⟨PyData.keyHash w.params "get",.str "get" tW6,.ref fW6⟩,⟨PyData.keyHash w.params "tag",.str "tag" tW7,.ref fW7⟩,⟨PyData.keyHash w.params "case",.str "case" tW8,.ref fW8⟩,⟨PyData.keyHash w.params "row",.str "row" tW9,.ref fW9⟩,⟨PyData.keyHash w.params "at",.str "at" tW10,.ref fW10⟩,⟨PyData.keyHash w.params "join",.str "join" tW11,.ref fW11⟩,⟨PyData.keyHash w.params "size",.str "size" tW12,.ref fW12⟩,⟨PyData.keyHash w.params "add",.str "add" tW13,.ref fW13⟩,⟨PyData.keyHash w.params "sub",.str "sub" tW14,.ref fW14⟩,⟨PyData.keyHash w.params "less",.str "less" tW15,.ref fW15⟩] nW,#[]⟩)
  (gD:eL K mainGlobals "STEADY_FORMS"=some (some (.ref pD)))
  (sD:(pD==sysModules)=false)
  (hD:K.lookup pD=some ⟨.type "dict",none,.dict #[⟨PyData.keyHash w.params "fn",.str "fn" tD1,.ref qD1⟩,⟨PyData.keyHash w.params "call",.str "call" tD2,.ref qD2⟩,⟨PyData.keyHash w.params "let",.str "let" tD3,.ref qD3⟩,⟨PyData.keyHash w.params "get",.str "get" tD4,.ref qD4⟩,⟨PyData.keyHash w.params "tag",.str "tag" tD5,.ref qD5⟩,⟨PyData.keyHash w.params "at",.str "at" tD6,.ref qD6⟩,⟨PyData.keyHash w.params "join",.str "join" tD7,.ref qD7⟩,⟨PyData.keyHash w.params "size",.str "size" tD8,.ref qD8⟩,⟨PyData.keyHash w.params "add",.str "add" tD9,.ref qD9⟩,⟨PyData.keyHash w.params "sub",.str "sub" tD10,.ref qD10⟩,⟨PyData.keyHash w.params "less",.str "less" tD11,.ref qD11⟩] nD,#[]⟩)
  (hD1:K.lookup qD1=some ⟨.type "tuple",odD1,.seq #[.str "name" uD1_0,.str "expr" uD1_1] nD1,slD1⟩)
  (hD2:K.lookup qD2=some ⟨.type "tuple",odD2,.seq #[.str "expr" uD2_0,.str "expr" uD2_1] nD2,slD2⟩)
  (hD3:K.lookup qD3=some ⟨.type "tuple",odD3,.seq #[.str "name" uD3_0,.str "expr" uD3_1,.str "expr" uD3_2] nD3,slD3⟩)
  (hD4:K.lookup qD4=some ⟨.type "tuple",odD4,.seq #[.str "expr" uD4_0,.str "name" uD4_1] nD4,slD4⟩)
  (hD5:K.lookup qD5=some ⟨.type "tuple",odD5,.seq #[.str "name" uD5_0,.str "expr" uD5_1] nD5,slD5⟩)
  (hD6:K.lookup qD6=some ⟨.type "tuple",odD6,.seq #[.str "expr" uD6_0,.str "expr" uD6_1,.str "expr" uD6_2] nD6,slD6⟩)
  (hD7:K.lookup qD7=some ⟨.type "tuple",odD7,.seq #[.str "expr" uD7_0,.str "expr" uD7_1] nD7,slD7⟩)
  (hD8:K.lookup qD8=some ⟨.type "tuple",odD8,.seq #[.str "expr" uD8_0] nD8,slD8⟩)
  (hD9:K.lookup qD9=some ⟨.type "tuple",odD9,.seq #[.str "expr" uD9_0,.str "expr" uD9_1] nD9,slD9⟩)
  (hD10:K.lookup qD10=some ⟨.type "tuple",odD10,.seq #[.str "expr" uD10_0,.str "expr" uD10_1] nD10,slD10⟩)
  (hD11:K.lookup qD11=some ⟨.type "tuple",odD11,.seq #[.str "expr" uD11_0,.str "expr" uD11_1] nD11,slD11⟩)
  (aL:eL K mainGlobals "law"=some (some (.ref fL))) (lL:K.lookup fL=some ⟨ocL,odL,.func (eE "law" "law" (lJ uS) (kq uS) (gq uS) .none kVL dcL pmL anL cdL ctL),slL⟩) (cL:eF K cdL "law"=true) (kL:dW K (.ref fL)=true):
  ∃fd:Zs,(∀(s:Zy) (v:Zz),BindsTo s fd ⟨[v],[]⟩ [("_law_script",v)])/\∀base:Zt,K.In base->base.Ns mainGlobals mg->rK l.prog w K mg base CX0 150 fa fd ["_law_script"] (yU K):=by have e:=hfa.symm.trans (eO X G aL);cases e;have T:Txt K mg:=⟨u1,eO X G g1,u2,eO X G g2,u3,eO X G g3,p4,eO X G g4,fun _=> .inr ⟨_,_,_,h4,rfl,rfl,IB,(.cons ⟨_,rfl⟩ (.cons ⟨_,rfl⟩ (.cons ⟨_,rfl⟩ (.cons ⟨_,rfl⟩ (.cons ⟨_,rfl⟩ (.cons ⟨_,rfl⟩ (.cons ⟨_,rfl⟩ (.cons ⟨_,rfl⟩ (.cons ⟨_,rfl⟩ (.cons ⟨_,rfl⟩ (.cons ⟨_,rfl⟩ (.cons ⟨_,rfl⟩ (.cons ⟨_,rfl⟩ (.cons ⟨_,rfl⟩ (.cons ⟨_,rfl⟩ .nil)))))))))))))))⟩,u5,eO X G g5,u6,eO X G g6,u7,eO X G g7,u8,eO X G g8,u9,eO X G g9,u10,eO X G g10,u11,eO X G g11,u12,eO X G g12,a1.x X G,a2.x X G,a3.x X G,a4.x X G,a5.x X G,a6.x X G,a7.x X G,a8.x X G,a9.x X G,a10.x X G,a11.x X G,a12.x X G,a13.x X G,a14.x X G,a15.x X G,a16.x X G,a17.x X G,a18.x X G,a19.x X G,a20.x X G,a21.x X G,a22.x X G,a23.x X G,a24.x X G,a25.x X G,a26.x X G,a27.x X G,a28.x X G,a29.x X G,a30.x X G,a31.x X G,a32.x X G,a33.x X G,a34.x X G,a35.x X G,a36.x X G,a37.x X G,a38.x X G,a39.x X G,a40.x X G,a41.x X G,a42.x X G,a43.x X G,a44.x X G,a45.x X G,a46.x X G,⟨C1,eO X G c1⟩,⟨C2,eO X G c2⟩,x2,⟨C3,eO X G c3⟩,⟨C4,eO X G c4⟩,c5.x X G,n5program,n5homes,n5turns,n5begun,n5end,n5meets,n5had,n5defined,n5steps,n5ready,e47.x,c5.k e47.x,e48.x,e49.x,e50.x,e51.x,e52.x,e53.x,e54.x,e55.x,e56.x,c6.x X G,n6end,n6value,n6meets,n6had,n6begun,e57.x,c6.k e57.x,c7.x X G,n7names,n7roots,n7rows,e58.x,c7.k e58.x,c8.x X G,n8words,n8taken,n8rows,e59.x,c8.k e59.x,e60.x,e61.x,e62.x,e63.x,e64.x,e65.x,e66.x,e67.x,e68.x,e69.x,e70.x,eP X G z_ValueError,eP X G z_all,eP X G z_bool,eP X G z_dict,eP X G z_enumerate,eP X G z_int,eP X G z_isinstance,eP X G z_len,eP X G z_list,eP X G z_max,eP X G z_min,eP X G z_range,eP X G z_reversed,eP X G z_str,eP X G z_sum,eP X G z_tuple,eP X G z_zip⟩;have z:=(eO X G w0).symm.trans T.d6.m;cases z;have z:=(eO X G w1).symm.trans T.d7.m;cases z;have z:=(eO X G w9).symm.trans T.d8.m;cases z;have z:=(eO X G w10).symm.trans T.d9.m;cases z;have z:=(eO X G w11).symm.trans T.d10.m;cases z;have z:=(eO X G w12).symm.trans T.d11.m;cases z;have z:=(eO X G w14).symm.trans T.d12.m;cases z;exact⟨eE "law" "law" (lJ uS) (kq uS) (gq uS) .none kVL dcL pmL anL cdL ctL,fun s v=> .of_eq rfl,fun base _ _=>Ge T (zG (l:=[("fn",tD1,qD1),("call",tD2,qD2),("let",tD3,qD3),("get",tD4,qD4),("tag",tD5,qD5),("at",tD6,qD6),("join",tD7,qD7),("size",tD8,qD8),("add",tD9,qD9),("sub",tD10,qD10),("less",tD11,qD11)]) (eO X G gD) sD hD rfl (by show(["fn","call","let","get","tag","at","join","size","add","sub","less"]:Zd).Nodup;decide+kernel) (.cons (fun _=> .inr ⟨_,_,_,hD1,rfl,rfl,oT,(.cons ⟨_,rfl⟩ (.cons ⟨_,rfl⟩ .nil))⟩)<| .cons (fun _=> .inr ⟨_,_,_,hD2,rfl,rfl,oT,(.cons ⟨_,rfl⟩ (.cons ⟨_,rfl⟩ .nil))⟩)<| .cons (fun _=> .inr ⟨_,_,_,hD3,rfl,rfl,n8,(.cons ⟨_,rfl⟩ (.cons ⟨_,rfl⟩ (.cons ⟨_,rfl⟩ .nil)))⟩)<| .cons (fun _=> .inr ⟨_,_,_,hD4,rfl,rfl,oT,(.cons ⟨_,rfl⟩ (.cons ⟨_,rfl⟩ .nil))⟩)<| .cons (fun _=> .inr ⟨_,_,_,hD5,rfl,rfl,oT,(.cons ⟨_,rfl⟩ (.cons ⟨_,rfl⟩ .nil))⟩)<| .cons (fun _=> .inr ⟨_,_,_,hD6,rfl,rfl,n8,(.cons ⟨_,rfl⟩ (.cons ⟨_,rfl⟩ (.cons ⟨_,rfl⟩ .nil)))⟩)<| .cons (fun _=> .inr ⟨_,_,_,hD7,rfl,rfl,oT,(.cons ⟨_,rfl⟩ (.cons ⟨_,rfl⟩ .nil))⟩)<| .cons (fun _=> .inr ⟨_,_,_,hD8,rfl,rfl,rp,(.cons ⟨_,rfl⟩ .nil)⟩)<| .cons (fun _=> .inr ⟨_,_,_,hD9,rfl,rfl,oT,(.cons ⟨_,rfl⟩ (.cons ⟨_,rfl⟩ .nil))⟩)<| .cons (fun _=> .inr ⟨_,_,_,hD10,rfl,rfl,oT,(.cons ⟨_,rfl⟩ (.cons ⟨_,rfl⟩ .nil))⟩)<| .cons (fun _=> .inr ⟨_,_,_,hD11,rfl,rfl,oT,(.cons ⟨_,rfl⟩ (.cons ⟨_,rfl⟩ .nil))⟩)<| .nil)) (JX T (eO X G gW) sW hW rfl) (rO (st:=uS) lL cL kL)⟩
theorem walk {l:PySem.W.OpenLaw} {q:Zu} {loose:Zd} {XP:(Str->Option Zz)->Zt->Prop} {YP:Zv->Zt->Prop} {d:DefRec} {K:Params->Zp} (hn:l.most=some 63) (hdf:d.params.defaults=[])
  (hY:∀(w:Zv) (h:Zt),YP w h->(K w.params).In h)
  (F:∀(w:Zv) (mg:Zc) (fa:Zx) (h:Zt),(K w.params).In h->h.Ns mainGlobals mg->mg d.name=some (.ref fa)->
   ∃fd:Zs,(∀(s:Zy) (u:Zz),BindsTo s fd ⟨[u],[]⟩ [("_law_script",u)])/\∀base:Zt,(K w.params).In base->base.Ns mainGlobals mg->rK l.prog w (K w.params) mg base CX0 150 fa fd ["_law_script"] (yU (K w.params))):
  PySem.W.WalkO q loose XP YP l.row.toRowW d [] (fun f vs=>PySem.call f vs):=
 L2.Internal.walk_of (n:=63) (k:=150) (x:="_law_script") (CX:=fun _=>CX0) (sp:=fun w=>yU (K w.params)) hn (by decide) hdf ⟨rfl,by decide,by decide⟩ hY F (fun _ _ a ns hl _ hS=>⟨a,ns,rfl,hS,hl,fun _=>rfl⟩) fun _ _ _ _ _ z=>z
end K61.Internal
open PySem PySem.W PyProof.Rows
set_option maxRecDepth 100000 in
set_option maxHeartbeats 0 in
theorem PySem.Challenge.cw_flowkinds_k61_rows_holds : PySem.Challenge.rw_flowkinds_k61_rows.Holds := by
 w_on;o_law;k_head;(case hw => w_witness2);k_fill;refine K61.Internal.walk (l:=PySem.Challenge.rw_flowkinds_k61_rows) rfl rfl (fun w h Y=>PySem.W.kIn_of Y) ?F;case F =>intro w mg fa h KX G hmg;apply K61.Internal.all_mk KX G hmg;all_goals first|(apply K61.Internal.Fm.mk<;>k_is)|(apply K61.Internal.Mm.mk<;>k_is)|(apply K61.Internal.Cm.mk<;>k_is)|k_is|kts_exm|kit_is|k_exc|rfl|(constructor<;>first|kit_is|(constructor<;>k_is))
