import PyProof.Rows.All
import Wide.All
import OpenK.AllK
import Wide.FinOn
import Lean
import PyProof.EqAt
import PyProof.EqKinds
import PyProof.TupleCall
import PyProof.NeKinds
import PySem.Challenge.RW_flowkinds_k62_records_and_tags
set_option Elab.async false
set_option linter.all false
set_option maxRecDepth 100000
set_option maxHeartbeats 4000000
set_option genInjectivity false
set_option genSizeOf false
set_option bootstrap.genMatcherCode false
set_option compiler.extract_closed false
theorem gN {c:Prop} {h:Decidable c} (hnc:¬c) {α:Sort u} {t e:α}:(ite c t e)=e:=if_neg hnc
theorem gU {c:Prop} {h:Decidable c} (hc:c) {α:Sort u} {t e:α}:(ite c t e)=t:=if_pos hc
theorem hI {p:Prop} [Decidable p] (h:p):decide p=true:=decide_eq_true h
theorem ik {p:Prop} [Decidable p] (h:¬p):decide p=false:=decide_eq_false h
theorem iq {p:Prop} (h:p:=by decide+kernel):p:=h
theorem pP:0<=PySem.sizeLine:=by decide
theorem wo:1<=PySem.sizeLine:=by decide
theorem ow:2<=PySem.sizeLine:=by decide
theorem qq:3<=PySem.sizeLine:=by decide
theorem zln4:4<=PySem.sizeLine:=by decide
theorem HF:5<=PySem.sizeLine:=by decide
theorem HN:15<=PySem.sizeLine:=by decide
open List renaming all_cons→ba,all_eq_true→bR,all_map→bB,any_cons→aU,any_eq_true→bj,append_assoc→bV,append_cancel_left→cC,append_nil→aE,cons_append→aV,cons_ne_nil→bS,dropLast_concat_getLast→bP,drop_eq_getElem_cons→bT,drop_eq_nil_iff→bK,drop_length→b6,drop_zero→cj,eq_nil_of_length_eq_zero→bX,filterMap_cons→ag,filter_append→bQ,find?_cons→aT,forall_mem_cons→bY,getD_eq_getElem?_getD→bu,getElem?_append_left→aN,getElem?_append_right→aM,getElem?_cons_succ→bJ,getElem?_eq_getElem→bF,getElem?_eq_none→bM,getElem?_eq_some_iff→au,getElem?_inj→cz,getElem?_map→aO,getElem?_of_mem→cy,getElem?_range→cJ,getElem?_set_ne→aw,getElem?_set_self→av,getElem?_take→cA,getElem?_zip_eq_some→cq,getElem_mem→bL,getLast?_concat→cu,length→aJ,length_append→aR,length_cons→aA,length_drop→aZ,length_eq_one_iff→bD,length_eq_zero_iff→bO,length_filter_le→bx,length_map→aD,length_nil→aW,length_range→cF,length_replicate→aS,length_reverse→bN,length_singleton→bf,length_take→aK,length_zip→b9,lookup→aB,lookup_cons→bq,map→bH,map_append→bp,map_congr_left→bZ,map_cons→aC,map_fst_zip→cw,map_map→bG,map_nil→aX,mem_append→ao,mem_append_left→aq,mem_append_right→az,mem_cons→ak,mem_cons_of_mem→aj,mem_cons_self→ah,mem_iff_getElem?→cn,mem_map→bh,mem_of_getElem?→aQ,mem_of_mem_drop→bU,mem_of_mem_take→cB,mem_range→af,mem_singleton→bo,mem_singleton_self→cK,nil_append→bW,nodup_append→cc,nodup_cons→aF,nodup_nil→cm,not_mem_nil→bI,of_mem_zip→aG,pairwise_lt_range→cH,pairwise_map→cD,range→aa,range_succ→cE,range_succ_eq_map→bA,replicate→aH,replicate_succ'→cG,reverse_cons→bc,reverse_reverse→cx,set_set→bw,size_toArray→aY,take_add_one→cf,take_append_drop→cb,take_length→bz,take_of_length_le→cg,take_sublist→aP,zip→bE
open Nat renaming add_assoc→dm,add_comm→dC,add_sub_cancel_left→dz,le_add_right→c9,le_of_lt→cR,le_of_succ_le_succ→dy,le_refl→cW,le_succ→cZ,le_succ_of_le→dw,le_trans→cQ,lt_irrefl→cO,lt_of_lt_of_le→cM,lt_of_succ_lt_succ→dA,lt_succ_of_lt→c7,lt_succ_self→cY,max_le→du,min_self→c8,mul_le_mul_right→dD,ne_of_gt→cU,ne_of_lt→cP,not_lt_zero→dt,sub_self→di,succ→dr,succ_le_succ→dv,succ_pos→dB,toDigits→da,toDigits_append_toDigits→dh,toDigits_of_lt_base→df,zero_add→dj,zero_le→cX
open Option renaming isSome_iff_exists→dF,isSome_map→dH,map_eq_some_iff→dI,map_some→dG,some→dE
open PySem.W renaming callWith_K→eG,cellsFrom_some→eJ,codeIn→eL,codeRec_of→eM,emptyDict→dZ,findIn→dQ,fnOf→eK,hasDictIn→dP,instObj→dJ,isFn→dS,keepIn→eA,kia_one→eC,kitOne→eB,kitx_dict→eF,kitx_list→eE,lookIn→dN,makesIn→dY,methodCall_KW→eI,methodObj→dM,mg_none_of→eT,mg_of→eS,nsIn→eQ,nsOkIn→eP,plainGet→dO,plainGet_of→dR,plainOver→dU,specialIn→ee,subIn→eO,tailIn→eR,takerIn→dW
open PySem.F renaming args_tuple_add_2→eX,entry_tuple_add→eW,plainAttrs_list→fc,plainAttrs_str→fb,slot_dict_getitem→eU,slot_dict_update→eY,slot_list_append→fe,slot_list_index→eZ,slot_list_pop→fh,slot_str_join→fk,slot_tuple_add→eV,type_list_append→fg,type_list_pop→fj,type_str_join→fq
open Bool renaming and_eq_true→fz,and_false→fA,eq_iff_iff→fw,false_ne_true→fu,false_xor→fB,true_xor→fC
open Array renaming getElem?_eq_getElem→fF,getElem?_toList→fE,length_toList→fD,toList_append→fG
open Int renaming emod_lt_of_pos→fN,emod_nonneg→fM,eq_ofNat_of_zero_le→fJ,toNat_natCast→fH,zero_add→fK
open PySem.Heap renaming get?_push_of_some→fS,get?_push_size→fQ,get?_update_other→fW,get?_update_self→fV,lt_size→fO,size_push→fU
open PyProof.Rows renaming callWith_type1→fX,slot_tuple_getitem→fY
open PySem renaming Value→Zz,Shared→Zy,Addr→Zx,Around→Zw,World→Zv,Program→Zu,Heap→Zt,FuncData→Zs,Expr→Zr,Stmt→Zq
open PySem.W renaming Frag→Zp
abbrev Za:=List (PySem.Addr×PySem.Obj)
abbrev Zb:=PySem.Value->PySem.Shared->Prop
abbrev Zc:=PySem.Str->Option PySem.Value
abbrev Zd:=List PySem.Str
noncomputable section
namespace L2.Internal
theorem auR (h:True=True:=by rfl):True:=trivial
theorem auD (h:True:=by decide):True:=trivial
theorem auI (h:True->True=True:=by intro _;rfl):True:=trivial
theorem auL (h:True=True\/True:=by first|exact .inl rfl|exact .inr rfl|assumption):True:=trivial
open PySem PySem.Spec PyProof.Rows
abbrev Key:=Sum Int Str
def yV:Key->Zz->Bool
 | .inl k,v=>Value.isInt k v
 | .inr x,v=>Value.isStrOf x v
def keyH (w:Zv):Key->Int
 | .inl k=>hashInt k
 | .inr x=>hashStr w x
theorem iW:∀{k:Key} {v:Zz},yV k v=true->(∃i t,k=Sum.inl i/\v=Value.int i t)\/(∃x t,k=Sum.inr x/\v=Value.str x t)
 | .inl i,v,h=>by obtain⟨t,e⟩:=Value.isInt_shape (k:=i) (v:=v) h;exact .inl ⟨i,t,rfl,e⟩
 | .inr x,v,h=>by obtain⟨t,e⟩:=Value.isStrOf_shape (x:=x) (v:=v) h;exact .inr ⟨x,t,rfl,e⟩
theorem zN (i:Int) (t:Tok):yV (.inl i) (.int i t)=true:=by simp[yV,Value.isInt]
theorem qC (x:Str) (t:Tok):yV (.inr x) (.str x t)=true:=by simp[yV,Value.isStrOf]
theorem FI (a b:Int):decide ((Sum.inl a:Key)=Sum.inl b)=(a==b):=by
 by_cases e:a=b;·subst e;simp
 ·have h:¬(Sum.inl a:Key)=Sum.inl b:=fun q=>e (Sum.inl.inj q);rw[ik h];exact(beq_eq_false_iff_ne.mpr e).symm
theorem FJ (a b:Str):decide ((Sum.inr a:Key)=Sum.inr b)=decide (a=b):=by
 by_cases e:a=b;·subst e;simp
 ·have h:¬(Sum.inr a:Key)=Sum.inr b:=fun q=>e (Sum.inr.inj q);rw[ik h,ik e]
theorem FL (a:Int) (b:Str):decide ((Sum.inl a:Key)=Sum.inr b)=false:=ik (fun q=>nomatch q)
theorem FN (a:Str) (b:Int):decide ((Sum.inr a:Key)=Sum.inl b)=false:=ik (fun q=>nomatch q)
def jg (prog:Zu) (w:Zv):PySem.KeyKind prog w Key where
 is:=yV
 hash:=keyH w
 inj:=fun v a b ha hb=>by
  rcases iW ha with⟨i,t,rfl,rfl⟩|⟨x,t,rfl,rfl⟩
  ·rcases iW hb with⟨j,u,rfl,e⟩|⟨y,u,rfl,e⟩;·injection e with e1 _;rw[e1]
   ·exact nomatch e
  ·rcases iW hb with⟨j,u,rfl,e⟩|⟨y,u,rfl,e⟩;·exact nomatch e
   ·injection e with e1 _;rw[e1]
 byValue:=fun k v h=>by rcases iW h with⟨i,t,rfl,rfl⟩|⟨x,t,rfl,rfl⟩<;>rfl
 pyHash:=fun hv h=>by
  rcases iW hv with⟨i,t,rfl,rfl⟩|⟨x,t,rfl,rfl⟩;·exact wpAny_pyHash_int h
  ·exact wpAny_pyHash_str h
 eqBool:=fun hu hv h=>by
  rcases iW hu with⟨i,t,rfl,rfl⟩|⟨x,t,rfl,rfl⟩
  ·rcases iW hv with⟨j,u,rfl,rfl⟩|⟨y,u,rfl,rfl⟩;·rw[FI]at h;exact wpAny_eqBool_int h
   ·rw[FL]at h;exact SeqAt.EqAt.int_str i t y u _ _ _ _ h
  ·rcases iW hv with⟨j,u,rfl,rfl⟩|⟨y,u,rfl,rfl⟩;·rw[FN]at h;exact SeqAt.EqAt.str_int x t j u _ _ _ _ h
   ·rw[FJ]at h;exact wpAny_eqBool_str h
 «strs»:=fun k x t v h=>by
  rcases iW h with⟨i,u,rfl,e⟩|⟨y,u,rfl,e⟩;·exact nomatch e
  ·injection e with e1 _;subst e1;cases v<;>rfl
theorem wu (prog:Zu) (w:Zv) (i:Int) (t:Tok):(jg prog w).is (.inl i) (.int i t)=true:=zN i t
theorem wx (prog:Zu) (w:Zv) (x:Str) (t:Tok):(jg prog w).is (.inr x) (.str x t)=true:=qC x t
end L2.Internal
namespace L2.Internal
open PySem PySem.Spec PyProof.Rows
set_option genInjectivity true in
inductive V where
 |non|bl (b:Bool)|int (i:Int)|str (x:Str)|byt (b:Array UInt8)|flt (b:UInt64)|ref (a:Zx)|ty (n:String)
 deriving DecidableEq
def iQ:V->Zz->Prop
 | .non,u=>u=Value.none
 | .bl b,u=>u=Value.bool b
 | .int i,u=>∃t,u=Value.int i t
 | .str x,u=>∃t,u=Value.str x t
 | .byt b,u=>∃t,u=Value.bytes b t
 | .flt b,u=>∃t,u=Value.float b t
 | .ref a,u=>u=Value.ref a
 | .ty n,u=>u=Value.type n
abbrev iU:List V->List Zz->Prop:=Paired iQ
theorem iU.length {xs:List V} {us:List Zz} (r:iU xs us):xs.length=us.length:=Paired.length r
theorem iU.get:∀{xs:List V} {us:List Zz} {i:Nat} {x:V},iU xs us->xs[i]?=some x->∃u,us[i]?=some u/\iQ x u
 |_,_,_,_,.nil,e=>by simp at e
 |_,_,0,_,.cons r _,e=>by simp at e;subst e;exact⟨_,rfl,r⟩
 |_,_,i+ 1,x,.cons _ t,e=>by obtain⟨u,h1,h2⟩:=iU.get (i:=i) (x:=x) t (by simpa using e);exact⟨u,by simpa using h1,h2⟩
theorem iU.set {x:V} {u:Zz} (r:iQ x u):∀{xs:List V} {us:List Zz} (i:Nat),iU xs us->iU (xs.set i x) (us.set i u)
 |_,_,_,.nil=> .nil
 |_,_,0,.cons _ t=> .cons r t
 |_,_,i+ 1,.cons q t=> .cons q (iU.set r i t)
theorem iU.append:∀{xs ys:List V} {us ws:List Zz},iU xs us->iU ys ws->iU (xs++ys) (us++ws)
 |_,_,_,_,.nil,s=>s
 |_,_,_,_,.cons r t,s=> .cons r (iU.append t s)
theorem iU.take:∀{xs:List V} {us:List Zz} (n:Nat),iU xs us->iU (xs.take n) (us.take n)
 |_,_,0,_=> .nil
 |_,_,_+ 1,.nil=> .nil
 |_,_,n+ 1,.cons r t=> .cons r (iU.take n t)
theorem iU.drop:∀{xs:List V} {us:List Zz} (n:Nat),iU xs us->iU (xs.drop n) (us.drop n)
 |_,_,0,r=>r
 |_,_,_+ 1,.nil=> .nil
 |_,_,n+ 1,.cons _ t=>iU.drop n t
def sU:Option V->Option Zz->Prop
 |some v,some u=>iQ v u
 |none,none=>True
 |_,_=>False
def KV {κ:Type}:List (κ×V)->List (κ×Zz)->Prop:=Paired fun(p:κ×V) (q:κ×Zz)=>p.1=q.1/\iQ p.2 q.2
def kV:Key->V
 | .inl i=> .int i
 | .inr x=> .str x
inductive HO where
 |lst (xs:List V)
 |tup (xs:List V)
 |dK (kvs:List (Key×V))|dT (kvs:List (List Key×V))
 |set (S:Int->Bool) (n:Nat)
 |ins (C dx:Zx) (fs:List (Str×V))
 |own (x:Zx)
 |xd (fs:List (Str×V))
 |met (f x:Zx)
 |rng (lo hi:Int)
 |frz (o:Obj) (u:HO)
 |tbl (ps:Array Zz)
 |ext (φ:Zt->Prop)
abbrev Hp:=Zx->Option HO
def yW (h:Zt) (a:Zx) (items:Array Zz):Prop:=∃o,h.get? a=some o/\o.cls= .type "tuple"/\∃n,o.data= .seq items n/\o.dict=none
theorem yW.tup {h:Zt} {a:Zx} {items:Array Zz}:yW h a items->IsTup h a items
 |⟨o,h1,h2,n,h3,_⟩=>⟨o,h1,h2,n,h3⟩
theorem yW.lt {h:Zt} {a:Zx} {items:Array Zz} (p:yW h a items):a<h.objs.size:=by obtain⟨o,e,_⟩:=p;exact fO e
theorem yW.new (h:Zt) (items:Array Zz):yW (h.push {cls:= .type "tuple",data:= .seq items}) h.objs.size items:=⟨_,fQ _ rfl,rfl,_,rfl,rfl⟩
def upd (H:Hp) (a:Zx) (o:HO):Hp:=fun b=>if b=a then some o else H b
theorem gb {H:Hp} {a:Zx} {o:HO}:upd H a o a=some o:=by unfold upd;rw[gU rfl]
theorem gx {H:Hp} {a b:Zx} {o:HO} (h:b≠a):upd H a o b=H b:=by unfold upd;rw[gN h]
theorem sV {H:Hp} {a:Zx} {o u:HO}:upd (upd H a o) a u=upd H a u:=by funext b;unfold upd;split<;>rfl
theorem kI {H:Hp} {a b:Zx} {o u:HO} (h:H a=some o) (h':H b=some u) (d:o≠u):a≠b:=by intro e;subst e;rw[h]at h';exact d (dE.inj h')
theorem gr {H:Hp} {a b:Zx} {o:HO} (h:H a=some o) (h':H b=none):a≠b:=by intro e;subst e;rw[h]at h';cases h'
section
variable (P:Zu) (w:Zv)
def jL (H:Hp) (h:Zt) (a:Zx):HO->Prop
 | .lst xs=>xs.length<=sizeLine/\∃(its:List Zz) (n:Nat),iU xs its/\h.get? a=some {cls:= .type "list",data:= .seq its.toArray n}
 | .tup xs=>xs.length<=sizeLine/\∃its:List Zz,iU xs its/\yW h a its.toArray
 | .dK kvs=>kvs.length<=sizeLine/\(a==sysModules)=false/\∃vs,KV kvs vs/\h.DictOf (jg P w) a vs
 | .dT kvs=>kvs.length<=sizeLine/\(a==sysModules)=false/\∃xs:List (List Key×Zx×Zz),
   Paired (fun(p:List Key×V) (q:List Key×Zx×Zz)=>p.1=q.1/\H q.2.1=some (.tup (p.1.map kV))/\iQ p.2 q.2.2) kvs xs/\
   ∃o es ep,h.get? a=some o/\o.ExactDict/\o.data= .dict es ep/\es.toList=xs.map (entryOfKey (tupleKind (jg P w)))/\(xs.map (·.1)).Nodup
 | .set S n=>h.SetOf (intKind P w) a S n
 | .ins C dx fs=>H dx=some (.own a)/\fs.length<=1000/\dx≠a/\h.get? a=some (dJ C dx)/\
   ∃mA,h.Ns1 dx mA/\(∀f,sU (fs.lookup f) (mA f))/\PySem.Within mA (fs.map (·.1))
 | .own _=>∃o,h.get? a=some o
 | .xd fs=>∃mA,h.Ns1 a mA/\∀f,sU (fs.lookup f) (mA f)
 | .rng lo hi=>∃t u v,h.get? a=some {cls:= .type "range",data:= .fields #[.int lo t,.int hi u,.int 1 v]}
 | .frz o u=>h.get? a=some o/\jL H h a u
 | .tbl ps=>h.get? a=some {cls:= .none,data:= .fields ps}
 | .met f x=>h.get? a=some (dM (.ref f) (.ref x))
 | .ext φ=>φ h/\(∃o,h.get? a=some o)/\∀h1 h2:Zt,φ h1->(∀o,h1.get? a=some o->h2.get? a=some o)->φ h2
def HOk (H:Hp) (h:Zt):Prop:=∀a o,H a=some o->jL P w H h a o
end
section
variable {P:Zu} {w:Zv} {H H':Hp} {h h':Zt} {a:Zx} {o:HO}
theorem jL.lt (x:jL P w H h a o):a<h.objs.size:=by
 cases o with
 |lst xs=>obtain⟨_,_,_,_,e⟩:=x;exact fO e
 |tup xs=>obtain⟨_,_,_,p⟩:=x;exact p.lt
 |dK kvs=>obtain⟨_,_,_,_,o,_,_,e,_⟩:=x;exact fO e
 |dT kvs=>obtain⟨_,_,_,_,o,_,_,e,_⟩:=x;exact fO e
 |set S n=>obtain⟨o,_,_,_,e,_⟩:=x;exact fO e
 |ins C dx fs=>obtain⟨_,_,_,e,_⟩:=x;exact fO e
 |own y=>obtain⟨_,e⟩:=x;exact fO e
 |xd fs=>obtain⟨_,⟨_,_,_,e,_⟩,_⟩:=x;exact fO e
 |rng lo hi=>obtain⟨_,_,_,e⟩:=x;exact fO e
 |frz ob u=>obtain⟨e,_⟩:=x;exact fO e
 |tbl ps=>exact fO (show h.get? a=some _ from x)
 |met f y=>exact fO (show h.get? a=some _ from x)
 |ext φ=>obtain⟨_,⟨_,e⟩,_⟩:=x;exact fO e
theorem Paired.mapP {α β:Type} {F G:α->β->Prop}:∀{l₁:List α} {l₂:List β},Paired F l₁ l₂->(∀a b,F a b->G a b)->Paired G l₁ l₂
 |_,_,.nil,_=> .nil
 |_,_,.cons r t,f=> .cons (f _ _ r) (Paired.mapP t f)
theorem jL.stay (x:jL P w H h a o) (k:∀b u,(b=a\/H b=some (.own a))->h.get? b=some u->h'.get? b=some u)
  (ho:∀b,H b=some (.own a)->H' b=some (.own a)) (ht:∀b xs,H b=some (.tup xs)->H' b=some (.tup xs)):jL P w H' h' a o:=by
 induction o with
 |lst xs=>obtain⟨z,its,n,r,e⟩:=x;exact⟨z,its,n,r,k _ _ (.inl rfl) e⟩
 |tup xs=>obtain⟨z,its,r,ob,e,c⟩:=x;exact⟨z,its,r,ob,k _ _ (.inl rfl) e,c⟩
 |dK kvs=>obtain⟨z,y,vs,r,ob,es,ep,e,c⟩:=x;exact⟨z,y,vs,r,ob,es,ep,k _ _ (.inl rfl) e,c⟩
 |dT kvs=>obtain⟨z,y,xs,r,ob,es,ep,e,c⟩:=x;exact⟨z,y,xs,Paired.mapP r fun p q z=>⟨z.1,ht _ _ z.2.1,z.2.2⟩,ob,es,ep,k _ _ (.inl rfl) e,c⟩
 |set S n=>obtain⟨ob,es,ep,t,e,c⟩:=x;exact⟨ob,es,ep,t,k _ _ (.inl rfl) e,c⟩
 |ins C dx fs=>obtain⟨d,z,ne,e,mA,⟨od,es,ep,e2,c⟩,r⟩:=x;exact⟨ho _ d,z,ne,k _ _ (.inl rfl) e,mA,⟨od,es,ep,k _ _ (.inr d) e2,c⟩,r⟩
 |own y=>obtain⟨ob,e⟩:=x;exact⟨ob,k _ _ (.inl rfl) e⟩
 |xd fs=>obtain⟨mA,⟨od,es,ep,e,c⟩,r⟩:=x;exact⟨mA,⟨od,es,ep,k _ _ (.inl rfl) e,c⟩,r⟩
 |rng lo hi=>obtain⟨t,u,v,e⟩:=x;exact⟨t,u,v,k _ _ (.inl rfl) e⟩
 |frz ob u ih=>obtain⟨e,q⟩:=x;exact⟨k _ _ (.inl rfl) e,ih q⟩
 |tbl ps=>have e:h.get? a=some {cls:= .none,data:= .fields ps}:=x;show h'.get? a=some {cls:= .none,data:= .fields ps};exact k a _ (.inl rfl) e
 |met f y=>have e:h.get? a=some (dM (.ref f) (.ref y)):=x;show h'.get? a=some (dM (.ref f) (.ref y));exact k a _ (.inl rfl) e
 |ext φ=>obtain⟨p,⟨o,e⟩,st⟩:=x;exact⟨st _ _ p fun o q=>k _ _ (.inl rfl) q,⟨o,k _ _ (.inl rfl) e⟩,st⟩
theorem HOk.lt (x:HOk P w H h) (e:H a=some o):a<h.objs.size:=(x a o e).lt
theorem HOk.fresh (x:HOk P w H h) (e:h.objs.size<=a):H a=none:=by
 cases q:H a with
 |none=>rfl
 |some u=>exact absurd (cM (x.lt q) e) (cO _)
theorem HOk.kept (x:HOk P w H h) (k:∀b u,h.get? b=some u->h'.get? b=some u):HOk P w H h':=fun a o e=>
 (x a o e).stay (fun b u _ q=>k b u q) (fun _ q=>q) fun _ _ q=>q
theorem HOk.laid (x:HOk P w H h) (k:∀b u,h.get? b=some u->h'.get? b=some u) (hp:h.objs.size<=a) (new:jL P w (upd H a o) h' a o):HOk P w (upd H a o) h':=fun b u e=>by
 have hn:=x.fresh hp;by_cases hb:b=a;·subst hb;rw[gb]at e;cases e;exact new
 ·rw[gx hb]at e;exact(x b u e).stay (fun c v _ q=>k c v q) (fun c q=>by rw[gx (gr q hn)];exact q) fun c xs q=>by rw[gx (gr q hn)];exact q
end
def Rd (H:Hp) (a:Zx) (u:HO):Prop:=H a=some u\/∃o,H a=some (.frz o u)
theorem Rd.ok {P:Zu} {w:Zv} {H:Hp} {h:Zt} {a:Zx} {u:HO} (r:Rd H a u) (x:HOk P w H h):jL P w H h a u:=by
 rcases r with r|⟨o,r⟩;·exact x a u r
 ·obtain⟨_,q⟩:=x a _ r;exact q
def Mut:Option HO->Prop
 |some (.lst _)=>True
 |some (.dK _)=>True
 |some (.dT _)=>True
 |some (.set _ _)=>True
 |some (.ins _ _ _)=>True
 |some (.ext _)=>True
 |_=>False
section
variable {P:Zu} {w:Zv} {H:Hp} {h h':Zt} {x e:Zx} {o':HO}
theorem HOk.write (ok:HOk P w H h) (mu:Mut (H x)) (he:e=x\/H e=some (.own x)) (k:∀b u,b≠e->h.get? b=some u->h'.get? b=some u) (heo:∃u,h'.get? e=some u)
  (new:jL P w (upd H x o') h' x o'):HOk P w (upd H x o') h':=fun b u q=>by
 have nown:∀c y,H c=some (.own y)->c≠x:=fun c y r z=>by subst z;rw[r]at mu;exact mu
 have ntup:∀c xs,H c=some (.tup xs)->c≠x:=fun c xs r z=>by subst z;rw[r]at mu;exact mu
 by_cases hb:b=x;·subst hb;rw[gb]at q;cases q;exact new
 ·rw[gx hb]at q;by_cases hbe:b=e
  ·have q':H b=some (.own x):=by
    rcases he with z|z;·exact absurd (hbe.trans z) hb
    ·rw[hbe];exact z
   rw[q]at q';cases q';obtain⟨v,hv⟩:=heo;exact⟨v,by rw[hbe];exact hv⟩
  ·refine(ok b u q).stay (fun c v hc r=>k c v ?_ r) (fun c r=>by rw[gx (nown c b r)];exact r) fun c xs r=>by rw[gx (ntup c xs r)];exact r
   rcases hc with rfl|hc;·exact hbe
   ·rintro rfl;rcases he with z|z;·exact nown c b hc z
    ·rw[hc]at z;cases z;exact hb rfl
end
structure Un (fs ex:List Zx) (H H':Hp) (h h':Zt):Prop where
 keep:∀b o,h.get? b=some o->H b=none->b∉fs->b∉ex->h'.get? b=some o
 slot:∀b o,h.get? b=some o->H b=none->b∈fs->b∉ex->∃sl,h'.get? b=some {o with slots:=sl}
 free:∀b o,h.get? b=some o->H b=none->b∉ex->H' b=none
 there:∀b o,h.get? b=some o->b∉ex->∃o',h'.get? b=some o'
 tups:∀b xs,H b=some (.tup xs)->H' b=some (.tup xs)
 frzs:∀b o u,H b=some (.frz o u)->H' b=some (.frz o u)
 tbls:∀b ps,H b=some (.tbl ps)->∃more,H' b=some (.tbl (ps++more))
section
variable {fs fs' ex ex':List Zx} {H H1 H2:Hp} {h h1 h2 h':Zt} {a x e:Zx} {o:HO}
theorem Un.any (u:Un fs ex H H1 h h1) {b:Zx} {ob:Obj} (q:h.get? b=some ob) (n:H b=none) (hx:b∉ex):∃sl,h1.get? b=some {ob with slots:=sl}:=by
 by_cases hb:b∈fs;·exact u.slot b ob q n hb hx
 ·exact⟨ob.slots,u.keep b ob q n hb hx⟩
theorem Un.trans (a:Un fs ex H H1 h h1) (b:Un fs ex H1 H2 h1 h2):Un fs ex H H2 h h2 where
 keep:=fun c ob q n hc hx=>b.keep c ob (a.keep c ob q n hc hx) (a.free c ob q n hx) hc hx
 slot:=fun c ob q n hc hx=>by obtain⟨sl,e1⟩:=a.slot c ob q n hc hx;obtain⟨sl',e2⟩:=b.slot c _ e1 (a.free c ob q n hx) hc hx;exact⟨sl',e2⟩
 free:=fun c ob q n hx=>by obtain⟨o',e1⟩:=a.there c ob q hx;exact b.free c o' e1 (a.free c ob q n hx) hx
 there:=fun c ob q hx=>by obtain⟨o',e1⟩:=a.there c ob q hx;exact b.there c o' e1 hx
 tups:=fun c xs q=>b.tups c xs (a.tups c xs q)
 frzs:=fun c ob xs q=>b.frzs c ob xs (a.frzs c ob xs q)
 tbls:=fun c ps q=>by obtain⟨m1,e1⟩:=a.tbls c ps q;obtain⟨m2,e2⟩:=b.tbls c _ e1;exact⟨m1++m2,by rw[e2,Array.append_assoc]⟩
theorem Un.kept (k:∀b u,h.get? b=some u->h'.get? b=some u):Un fs ex H H h h':=
 ⟨fun b ob q _ _ _=>k b ob q,fun b ob q _ _ _=>⟨ob.slots,k b ob q⟩,fun _ _ _ n _=>n,fun b ob q _=>⟨ob,k b ob q⟩,fun _ _ q=>q,fun _ _ _ q=>q,fun _ ps q=>⟨#[],by rw[q];simp⟩⟩
theorem Un.refl:Un fs ex H H h h:=Un.kept fun _ _ q=>q
theorem Un.laid (k:∀b u,h.get? b=some u->h'.get? b=some u) (hp:h.objs.size<=a) (hn:H a=none):Un fs ex H (upd H a o) h h' where
 keep:=fun b u q _ _ _=>k b u q
 slot:=fun b u q _ _ _=>⟨u.slots,k b u q⟩
 free:=fun b u q n _=>by rw[gx (cP (cM (fO q) hp))];exact n
 there:=fun b u q _=>⟨u,k b u q⟩
 tups:=fun b xs q=>by rw[gx (gr q hn)];exact q
 frzs:=fun b u xs q=>by rw[gx (gr q hn)];exact q
 tbls:=fun b ps q=>⟨#[],by rw[gx (gr q hn),q];simp⟩
theorem Un.write (mu:Mut (H x)) (he:e=x\/H e=some (.own x)) (k:∀b u,b≠e->h.get? b=some u->h'.get? b=some u) (heo:∃u,h'.get? e=some u):Un fs ex H (upd H x o) h h':=by
 have hx:∀b,H b=none->b≠x:=fun b n z=>by subst z;rw[n]at mu;exact mu
 have hb:∀b,H b=none->b≠e:=fun b n z=>by
  subst z;rcases he with r|r;·exact hx b n r
  ·rw[n]at r;cases r
 have hm:∀b u,H b=some u->¬Mut (some u)->b≠x:=fun b u q nm z=>by subst z;rw[q]at mu;exact nm mu
 refine⟨fun b u q n _ _=>k b u (hb b n) q,fun b u q n _ _=>⟨u.slots,k b u (hb b n) q⟩,fun b u q n _=>by rw[gx (hx b n)];exact n,fun b u q _=>?_,
  fun b xs q=>by rw[gx (hm b _ q fun z=>z)];exact q,fun b u xs q=>by rw[gx (hm b _ q fun z=>z)];exact q,fun b ps q=>⟨#[],by rw[gx (hm b _ q fun z=>z),q];simp⟩⟩;by_cases hbe:b=e;·subst hbe;exact heo
 ·exact⟨u,k b u hbe q⟩
end
def trk (h:Zt) (H:Hp):List Zx:=(aa h.objs.size).filter fun a=>(H a).isSome
def B1 (h:Zt) (H:Hp):Zt:=PySem.W.hideAll h (trk h H)
theorem zO (h:Zt) (H:Hp):(B1 h H).objs.size=h.objs.size:=PySem.W.hideAll_size _ _
theorem B2 {h:Zt} {H:Hp} {b:Zx} {o:Obj} (e:h.get? b=some o) (n:H b=none):(B1 h H).get? b=some o:=
 PySem.W.hideAll_get _ e fun hm=>by have q:(H b).isSome=true:=(List.mem_filter.mp hm).2;rw[n]at q;simp at q
theorem D0 {h:Zt} {H:Hp} {b:Zx} {o:Obj} (e:(B1 h H).get? b=some o):h.get? b=some o/\H b=none:=by
 have e':h.get? b=some o:=PySem.W.of_hideAll (trk h H) e;refine⟨e',?_⟩
 cases q:H b with
 |none=>rfl
 |some x=>have hm:b∈trk h H:=List.mem_filter.mpr ⟨af.mpr (fO e'),by simp[q]⟩;have z:(B1 h H).get? b=none:=PySem.W.hideAll_none (trk h H) hm;rw[z]at e;cases e
structure Mod (K:Zp) (mg:Zc) (base:Zt):Prop where
 kin:K.In base
 glob:base.Ns mainGlobals mg
 blt:∃mb,base.Ns builtinsNs mb/\∀x:Str,x≠"__name__"->mb x=bootBuiltins x
 nolimit:base.NoLimit
structure Cx where
 prog:Zu
 w:Zv
 K:Zp
 mg:Str->Option Zz
 base:Zt
 A:Zw
 N:List Str
 s₀:Zy
 H₀:Hp
 env:Env
 outer:List Env
 stack:List Env
 ex:List Zx
 fn:Str->Bool
 calm:Bool
 pn:Za
 xe:Zz->Zy->Prop
def frs (l:List Env):List Zx:=l.filterMap (·.frame)
abbrev Cx.fs (X:Cx):List Zx:=frs X.outer
def Vis (sc:Scope) (x:Str):Prop:=sc.names.lookup x=some .local\/sc.names.lookup x=some .cell\/sc.names.lookup x=some .free
def Loc (sc:Scope) (x:Str):Prop:=sc.names.lookup x=some .local\/sc.names.lookup x=some .cell
def Look (env:Env) (h:Zt) (m:Zc) (x:Str) (u:Zz):Prop:=
 (env.kindOf x=some .local/\m x=some u)\/((env.kindOf x=some .cell\/env.kindOf x=some .free)/\∃c,env.cells.lookup x=some c/\h.IsCell c (some u))
structure Cx.Ok (X:Cx):Prop where
 mod:Mod X.K X.mg X.base
 kind:X.env.scope.kind= .function
 glob:X.env.globals=mainGlobals
 blt:X.env.builtins=builtinsNs
 above:X.s₀.heap.objs.size<=X.env.locals
 inj:∀x y c,X.env.cells.lookup x=some c->X.env.cells.lookup y=some c->x=y
 has:∀x,(X.env.kindOf x=some .cell\/X.env.kindOf x=some .free)->∃c,X.env.cells.lookup x=some c
 cab:∀x c,X.fn x=true->X.env.cells.lookup x=some c->X.s₀.heap.objs.size<=c
 hd:X.calm=true->X.A.handled=none
 frames:X.A.frames=some X.stack
 stk:X.stack=X.outer\/(X.stack=X.env::X.outer/\X.env.frame=some X.env.locals)
 exf:∀b∈X.ex,b≠X.env.locals/\∀x c,X.env.cells.lookup x=some c->c≠b
 bs:∀b o,X.base.get? b=some o->X.s₀.heap.get? b=some o/\X.H₀ b=none
 bsz:X.base.objs.size<=X.s₀.heap.objs.size
 noex:∀b o,X.base.get? b=some o->b∉X.ex
 exfs:∀b∈X.ex,b∉X.fs
 funs:X.s₀.heap.FunFrames X.base X.outer
 frf:∀b∈X.fs,X.H₀ b=none
structure Inv (X:Cx) (pz:Za) (σ:List (Option V)) (H:Hp) (s:Zy):Prop where
 ok:X.Ok
 os:s.os=X.s₀.os
 bare:AllBare s.gens
 base:Un X.fs X.ex X.H₀ H X.s₀.heap s.heap
 loc:∃m,s.heap.Ns X.env.locals m/\∀(i:Nat) (x:Str) (v:V),X.N[i]?=some x->σ[i]?=some (some v)->Vis X.env.scope x->∃u,iQ v u/\Look X.env s.heap m x u
 cell:∀x c,X.env.cells.lookup x=some c->∃v,s.heap.IsCell c v
 free:H X.env.locals=none
 freeC:∀x c,X.env.cells.lookup x=some c->H c=none
 pin:∀p∈X.pn++pz,s.heap.get? p.1=some p.2/\H p.1=none/\p.1≠X.env.locals/\p.1∉X.fs/\∀v,p.2.data≠ .cell v
 hok:HOk X.prog X.w H s.heap
 len:σ.length=X.N.length
section
variable {X:Cx} {pz:Za} {σ:List (Option V)} {H H':Hp} {s:Zy} {h':Zt}
theorem Cx.Ok.nofr (ok:X.Ok) {b:Zx} {o:Obj} (e:X.base.get? b=some o):b∉X.fs:=fun hb=>by have:=(ok.funs.mem hb).1;rw[e]at this;cases this
theorem Inv.bs (I:Inv X pz σ H s):∀b o,X.base.get? b=some o->s.heap.get? b=some o/\H b=none:=fun b o e=>
 ⟨I.base.keep b o (I.ok.bs b o e).1 (I.ok.bs b o e).2 (I.ok.nofr e) (I.ok.noex b o e),I.base.free b o (I.ok.bs b o e).1 (I.ok.bs b o e).2 (I.ok.noex b o e)⟩
theorem Inv.bk (I:Inv X pz σ H s):∀b o,X.base.get? b=some o->s.heap.get? b=some o:=fun b o e=>(I.bs b o e).1
theorem Inv.mod (I:Inv X pz σ H s):Mod X.K X.mg X.base:=I.ok.mod
theorem Inv.kIn (I:Inv X pz σ H s):X.K.In s.heap:=I.ok.mod.kin.keeps I.bk
theorem Inv.lt (I:Inv X pz σ H s):X.env.locals<s.heap.objs.size:=let⟨_,hn,_⟩:=I.loc;hn.lt
theorem Inv.sz (I:Inv X pz σ H s):X.s₀.heap.objs.size<=s.heap.objs.size:=cQ I.ok.above (cR I.lt)
theorem Inv.nofs (I:Inv X pz σ H s) {a:Zx} (h:s.heap.objs.size<=a):a∉X.fs:=fun hb=>by obtain⟨_,o,ho,_⟩:=I.ok.funs.mem hb;exact absurd (cM (fO ho) (cQ I.sz h)) (cO _)
theorem Inv.cne (I:Inv X pz σ H s):∀x c,X.env.cells.lookup x=some c->c≠X.env.locals:=fun x c e z=>by obtain⟨v,o,ho,hd⟩:=I.cell x c e;obtain⟨m,⟨o',es,ep,ho',hd',_⟩,_⟩:=I.loc;rw[z,ho']at ho;cases ho;rw[hd']at hd;cases hd
theorem Inv.funs (I:Inv X pz σ H s):s.heap.FunFrames X.base X.outer:=by
 have all:∀(l:List Env),(∀b∈frs l,b∈X.fs)->X.s₀.heap.FunFrames X.base l->s.heap.FunFrames X.base l:=by
  intro l
  induction l with
  |nil=>intro _ _;trivial
  |cons env r ih=>intro hs hl;obtain⟨hk,⟨L,o,hf,hn,ho,hd⟩,hr⟩:=hl;have hL:L∈X.fs:=hs L (by unfold frs;rw[ag,hf];exact ah);obtain⟨sl,e⟩:=I.base.slot L o ho (I.ok.frf L hL) hL fun z=>I.ok.exfs L z hL;exact⟨hk,⟨L,_,hf,hn,e,hd⟩,ih (fun b hb=>hs b (by unfold frs;rw[ag,hf];exact aj _ hb)) hr⟩
 exact all X.outer (fun _ hb=>hb) I.ok.funs
theorem Inv.stack (I:Inv X pz σ H s):s.heap.FunFrames X.base X.stack:=by
 rcases I.ok.stk with e|⟨e,hf⟩;·rw[e];exact I.funs
 ·rw[e];obtain⟨m,hn,_⟩:=I.loc;refine .cons (by rw[I.ok.kind];decide) hf hn ?_ I.funs;exact Heap.get?_none_of_le (cQ I.ok.bsz I.ok.above)
theorem Inv.stkSub (I:Inv X pz σ H s):∀b∈frs X.stack,b∈X.env.locals::X.fs:=fun b hb=>by
 rcases I.ok.stk with e|⟨e,hf⟩;·rw[e]at hb;exact aj _ hb
 ·rw[e]at hb;unfold frs at hb;rw[ag,hf]at hb;exact hb
theorem Inv.stkFree (I:Inv X pz σ H s):∀b∈frs X.stack,H b=none:=fun b hb=>by
 rcases ak.mp (I.stkSub b hb)with e|hb;·rw[e];exact I.free
 ·obtain⟨_,o,ho,_⟩:=I.ok.funs.mem hb;exact I.base.free b o ho (I.ok.frf b hb) fun z=>I.ok.exfs b z hb
theorem Inv.step {g':Array GenState} {t':Nat} {d':Drawn} {ch:List Zx} (I:Inv X pz σ H s)
  (hch:∀b∈ch,(b∈X.ex\/X.s₀.heap.objs.size<=b)/\b≠X.env.locals/\(∀x c,X.env.cells.lookup x=some c->c≠b)/\∀p∈X.pn++pz,p.1≠b)
  (keep:∀b o,b≠X.env.locals->b∉X.fs->b∉ch->s.heap.get? b=some o->H b=none->h'.get? b=some o)
  (slot:∀b o,b≠X.env.locals->b∈X.fs->b∉ch->s.heap.get? b=some o->H b=none->∃sl,h'.get? b=some {o with slots:=sl}) (free:∀b o,b∉ch->s.heap.get? b=some o->H b=none->H' b=none)
  (there:∀b o,b∉ch->s.heap.get? b=some o->∃o',h'.get? b=some o')
  (tups:∀b xs,H b=some (.tup xs)->H' b=some (.tup xs)) (frzs:∀b o u,H b=some (.frz o u)->H' b=some (.frz o u)) (tbls:∀b ps,H b=some (.tbl ps)->∃more,H' b=some (.tbl (ps++more)))
  (ns:∀m,s.heap.Ns X.env.locals m->h'.Ns X.env.locals m) (hok:HOk X.prog X.w H' h') (hg:AllBare g'):
  Inv X pz σ H' {s with heap:=h',gens:=g',drawn:=d',toks:=t'}:=by
 have neL:∀b o,X.s₀.heap.get? b=some o->b≠X.env.locals:=fun b o e=>cP (cM (fO e) I.ok.above);have neC:∀b o,X.s₀.heap.get? b=some o->b∉X.ex->b∉ch:=fun b o e hx hb=>by
  rcases(hch b hb).1 with z|z;·exact hx z
  ·exact absurd (cM (fO e) z) (cO _)
 have cellK:∀x c,X.env.cells.lookup x=some c->∀v,s.heap.IsCell c v->h'.IsCell c v:=fun x c e v ⟨o,ho,hd⟩=>by
  have nch:c∉ch:=fun z=>(hch c z).2.2.1 x c e rfl;by_cases hc:c∈X.fs;·obtain⟨sl,q⟩:=slot c o (I.cne x c e) hc nch ho (I.freeC x c e);exact⟨_,q,hd⟩
  ·exact⟨o,keep c o (I.cne x c e) hc nch ho (I.freeC x c e),hd⟩
 refine⟨I.ok,I.os,hg,⟨fun b o e n hb hx=>?_,fun b o e n hb hx=>?_,fun b o e n hx=>?_,fun b o e hx=>?_,fun b xs e=>tups b xs (I.base.tups b xs e),fun b o xs e=>frzs b o xs (I.base.frzs b o xs e),fun b ps e=>?_⟩,?_,fun x c e=>?_,?_,fun x c e=>?_,fun p hp=>?_,hok,I.len⟩;·exact keep b o (neL b o e) hb (neC b o e hx) (I.base.keep b o e n hb hx) (I.base.free b o e n hx)
 ·obtain⟨sl,e1⟩:=I.base.slot b o e n hb hx;obtain⟨sl',e2⟩:=slot b _ (neL b o e) hb (neC b o e hx) e1 (I.base.free b o e n hx);exact⟨sl',e2⟩
 ·obtain⟨o',e1⟩:=I.base.there b o e hx;exact free b o' (neC b o e hx) e1 (I.base.free b o e n hx)
 ·obtain⟨o',e1⟩:=I.base.there b o e hx;exact there b o' (neC b o e hx) e1
 ·obtain⟨m1,e1⟩:=I.base.tbls b ps e;obtain⟨m2,e2⟩:=tbls b _ e1;exact⟨m1++m2,by rw[e2,Array.append_assoc]⟩
 ·obtain⟨m,hn,hl⟩:=I.loc;refine⟨m,ns m hn,fun i x v e1 e2 e3=>?_⟩;obtain⟨u,r,l⟩:=hl i x v e1 e2 e3;refine⟨u,r,?_⟩;rcases l with l|⟨k,c,e,z⟩;·exact .inl l
  ·exact .inr ⟨k,c,e,cellK x c e _ z⟩
 ·obtain⟨v,z⟩:=I.cell x c e;exact⟨v,cellK x c e v z⟩
 ·obtain⟨m,⟨o,_,_,ho,_⟩,_⟩:=I.loc;exact free _ o (fun z=>(hch _ z).2.1 rfl) ho I.free
 ·obtain⟨v,o,ho,hd⟩:=I.cell x c e;exact free c o (fun z=>(hch c z).2.2.1 x c e rfl) ho (I.freeC x c e)
 ·obtain⟨e,n,ne,nf,d⟩:=I.pin p hp;have nch:p.1∉ch:=fun z=>(hch p.1 z).2.2.2 p hp rfl;exact⟨keep p.1 p.2 ne nf nch e n,free p.1 p.2 nch e n,ne,nf,d⟩
theorem Inv.un {t':Nat} (I:Inv X pz σ H s) (u:Un X.fs [] H H' s.heap h') (hok:HOk X.prog X.w H' h'):Inv X pz σ H' {s with heap:=h',toks:=t'}:=by
 obtain⟨m,⟨o,es,ep,ho,r⟩,_⟩:=id I.loc;obtain⟨sl,hL⟩:=u.any ho I.free (by simp);exact I.step (g':=s.gens) (d':=s.drawn) (ch:=[]) (fun _ z=>nomatch z) (fun b o _ hb _ e n=>u.keep b o e n hb (by simp)) (fun b o _ hb _ e n=>u.slot b o e n hb (by simp)) (fun b o _ e n=>u.free b o e n (by simp)) (fun b o _ e=>u.there b o e (by simp)) u.tups u.frzs u.tbls (fun m' hm=>by obtain⟨o',es',ep',ho',r'⟩:=hm;rw[ho]at ho';cases ho';exact⟨_,es',ep',hL,r'⟩) hok I.bare
theorem Inv.call {g':Array GenState} {t':Nat} {d':Drawn} {ch:List Zx} (I:Inv X pz σ H s) (u:Un (frs X.stack) ch H H' s.heap h') (hok:HOk X.prog X.w H' h') (hg:AllBare g')
  (hch:∀b∈ch,(b∈X.ex\/X.s₀.heap.objs.size<=b)/\b≠X.env.locals/\(∀x c,X.env.cells.lookup x=some c->c≠b)/\∀p∈X.pn++pz,p.1≠b):
  Inv X pz σ H' {s with heap:=h',gens:=g',drawn:=d',toks:=t'}:=by
 obtain⟨m,⟨o,es,ep,ho,r⟩,_⟩:=id I.loc;obtain⟨sl,hL⟩:=u.any ho I.free fun z=>(hch _ z).2.1 rfl;exact I.step (ch:=ch) hch (fun b o hL hb hc e n=>u.keep b o e n (fun z=>(ak.mp (I.stkSub b z)).elim hL hb) hc) (fun b o _ _ hc e n=>u.any e n hc) (fun b o hc e n=>u.free b o e n hc) (fun b o hc e=>u.there b o e hc) u.tups u.frzs u.tbls (fun m' hm=>by obtain⟨o',es',ep',ho',r'⟩:=hm;rw[ho]at ho';cases ho';exact⟨_,es',ep',hL,r'⟩) hok hg
theorem Inv.turned {t':Nat} {it:Zx} (I:Inv X pz σ H s) (k:∀b o,b≠it->s.heap.get? b=some o->h'.get? b=some o) (hn:H it=none) (hL:it≠X.env.locals)
  (h1:it∈X.ex\/X.s₀.heap.objs.size<=it) (h2:∀x c,X.env.cells.lookup x=some c->c≠it) (h3:∀p∈X.pn++pz,p.1≠it):Inv X pz σ H {s with heap:=h',toks:=t'}:=by
 have nit:∀b u,H b=some u->b≠it:=fun b u e z=>by rw[z,hn]at e;cases e
 refine I.step (g':=s.gens) (d':=s.drawn) (ch:=[it]) (fun b hb=>?_) (fun b o _ _ hc e _=>k b o (fun z=>hc (by simp[z])) e) (fun b o _ _ hc e _=>⟨o.slots,k b o (fun z=>hc (by simp[z])) e⟩) (fun _ _ _ _ n=>n)
  (fun b o hc e=>⟨o,k b o (fun z=>hc (by simp[z])) e⟩) (fun _ _ e=>e) (fun _ _ _ e=>e) (fun b ps e=>⟨#[],by rw[e];simp⟩) (fun m hm=>?_) (fun b u e=>?_) I.bare
 ·have e:b=it:=by simpa using hb
  subst e;exact⟨h1,hL,h2,h3⟩
 ·obtain⟨o,es,ep,ho,r⟩:=hm;exact⟨o,es,ep,k _ o (Ne.symm hL) ho,r⟩
 ·refine(I.hok b u e).stay (fun c v hc q=>k c v ?_ q) (fun _ q=>q) fun _ _ q=>q;rcases hc with z|z;·rw[z];exact nit b u e
  ·exact nit c _ z
theorem Inv.tok (I:Inv X pz σ H s) (t:Nat):Inv X pz σ H {s with toks:=t}:=I.un (h':=s.heap) (t':=t) Un.refl I.hok
theorem Inv.kept {t':Nat} (I:Inv X pz σ H s) (k:∀b u,s.heap.get? b=some u->h'.get? b=some u):Inv X pz σ H {s with heap:=h',toks:=t'}:=I.un (Un.kept k) (I.hok.kept k)
theorem Inv.laid {a:Zx} {o:HO} {t':Nat} (I:Inv X pz σ H s) (k:∀b u,s.heap.get? b=some u->h'.get? b=some u) (hp:s.heap.objs.size<=a) (new:jL X.prog X.w (upd H a o) h' a o):
  Inv X pz σ (upd H a o) {s with heap:=h',toks:=t'}:=I.un (Un.laid k hp (I.hok.fresh hp)) (I.hok.laid k hp new)
theorem Inv.write {x e:Zx} {o:HO} {t':Nat} (I:Inv X pz σ H s) (mu:Mut (H x)) (he:e=x\/H e=some (.own x)) (k:∀b u,b≠e->s.heap.get? b=some u->h'.get? b=some u) (heo:∃u,h'.get? e=some u)
  (new:jL X.prog X.w (upd H x o) h' x o):Inv X pz σ (upd H x o) {s with heap:=h',toks:=t'}:=I.un (Un.write mu he k heo) (I.hok.write mu he k heo new)
theorem Inv.pins_of {pins':Za} (I:Inv X pz σ H s) (h:∀p∈pins',s.heap.get? p.1=some p.2/\H p.1=none/\p.1≠X.env.locals/\p.1∉X.fs/\∀v,p.2.data≠ .cell v):Inv X pins' σ H s:=
 ⟨I.ok,I.os,I.bare,I.base,I.loc,I.cell,I.free,I.freeC,fun p hp=>(ao.mp hp).elim (fun z=>I.pin p (aq _ z)) (h p),I.hok,I.len⟩
theorem xR {N:Zd} (hN:N.Nodup) {i j:Nat} {x:Str} (a:N[i]?=some x) (b:N[j]?=some x):i=j:=by obtain⟨h1,e1⟩:=au.mp a;obtain⟨h2,e2⟩:=au.mp b;exact(List.getElem_inj hN).mp (e1.trans e2.symm)
theorem zP {M:Model} {A:Zw} {E:Zb} {i:Nat} {x:Str} {v:V} {u:Zz} {Q:Unit->Zy->Prop} (I:Inv X pz σ H s) (hN:X.N.Nodup) (hi:X.N[i]?=some x) (hx:Loc X.env.scope x) (r:iQ v u)
  (h:∀s',Inv X pz (σ.set i (some v)) H s'->(∃a,Heap.SameBut a s.heap s'.heap/\(a=X.env.locals\/X.env.cells.lookup x=some a))->Q () s') (hf:autoParam (X.fn x=true\/X.env.scope.names.lookup x=some .local) auL._auto_1):wpAny M A (storeName X.env x u) Q E s:=by
 obtain⟨m,hn,hl⟩:=id I.loc;have hcls:(X.env.scope.kind== .class||(X.env.scope.kind== .module&&X.env.locals !=X.env.globals))=false:=by rw[I.ok.kind];rfl
 have hiσ:i<σ.length:=by rw[I.len];exact(au.mp hi).1
 have cne:=I.cne;have tracked:∀{a:Zx} {h':Zt},(∃o,s.heap.get? a=some o/\H a=none)->Heap.SameBut a s.heap h'->HOk X.prog X.w H h':=fun{a h'} ha hs b ob e=>by
  obtain⟨_,_,hfree⟩:=ha;refine(I.hok b ob e).stay (fun c w' hc q=>(hs.2 c ?_).trans q) (fun _ q=>q) fun _ _ q=>q;rintro rfl;rcases hc with rfl|hc;·rw[hfree]at e;cases e
  ·rw[hfree]at hc;cases hc
 rcases hx with hk|hk
 ·refine wpAny_storeName_local hk hn (fun h' hn' hs=>?_) hcls;obtain⟨oL,_,_,hoL,_⟩:=id hn;refine h _ ⟨I.ok,I.os,I.bare,⟨fun b o e n hb hx=>?_,fun b o e n hb hx=>?_,I.base.free,fun b o e hx=>?_,I.base.tups,I.base.frzs,I.base.tbls⟩,⟨_,hn',fun j y v' e1 e2 e3=>?_⟩,fun y c e=>?_,I.free,I.freeC,fun p hp=>?_,tracked ⟨oL,hoL,I.free⟩ hs,by simpa using I.len⟩ ⟨_,hs,.inl rfl⟩;·exact(hs.2 b (cP (cM (fO e) I.ok.above))).trans (I.base.keep b o e n hb hx)
  ·obtain⟨sl,e1⟩:=I.base.slot b o e n hb hx;exact⟨sl,(hs.2 b (cP (cM (fO e) I.ok.above))).trans e1⟩
  ·obtain⟨o',e1⟩:=I.base.there b o e hx;exact⟨o',(hs.2 b (cP (cM (fO e) I.ok.above))).trans e1⟩
  ·by_cases hj:j=i;·subst hj;rw[hi]at e1;cases e1;rw[av hiσ]at e2;cases e2;exact⟨u,r,.inl ⟨hk,by simp⟩⟩
   ·rw[aw (Ne.symm hj)]at e2;obtain⟨u',r',q⟩:=hl j y v' e1 e2 e3;refine⟨u',r',?_⟩;rcases q with⟨k,e⟩|⟨k,c,e,z⟩;·refine .inl ⟨k,?_⟩;have:y≠x:=fun e=>hj (xR hN e1 (e▸hi));simp[this,e]
    ·exact .inr ⟨k,c,e,z.sameBut hs (cne y c e)⟩
  ·obtain⟨w',z⟩:=I.cell y c e;exact⟨w',z.sameBut hs (cne y c e)⟩
  ·obtain⟨e,n,ne,nf,d⟩:=I.pin p hp;exact⟨(hs.2 p.1 ne).trans e,n,ne,nf,d⟩
 ·have hfn:X.fn x=true:=by
   rcases hf with z|z;·exact z
   ·rw[z]at hk;cases hk
  obtain⟨c,hc⟩:=I.ok.has x (.inl hk);obtain⟨w',z⟩:=I.cell x c hc;refine wpAny_storeName_cell I.ok.kind hk hc z (fun h' hc' hs=>?_);obtain⟨oc,hoc,hocd⟩:=id z;refine h {s with heap:=h'} ⟨I.ok,I.os,I.bare,⟨fun b o e n hb hx=>?_,fun b o e n hb hx=>?_,I.base.free,fun b o e hx=>?_,I.base.tups,I.base.frzs,I.base.tbls⟩,⟨m,hn.sameBut hs (Ne.symm (cne x c hc)),fun j y v' e1 e2 e3=>?_⟩,fun y c' e=>?_,I.free,I.freeC,fun p hp=>?_,tracked ⟨oc,hoc,I.freeC x c hc⟩ hs,by simpa using I.len⟩ ⟨c,hs,.inr hc⟩;·exact(hs.2 b (cP (cM (fO e) (I.ok.cab x c hfn hc)))).trans (I.base.keep b o e n hb hx)
  ·obtain⟨sl,e1⟩:=I.base.slot b o e n hb hx;exact⟨sl,(hs.2 b (cP (cM (fO e) (I.ok.cab x c hfn hc)))).trans e1⟩
  ·obtain⟨o',e1⟩:=I.base.there b o e hx;exact⟨o',(hs.2 b (cP (cM (fO e) (I.ok.cab x c hfn hc)))).trans e1⟩
  ·by_cases hj:j=i;·subst hj;rw[hi]at e1;cases e1;rw[av hiσ]at e2;cases e2;exact⟨u,r,.inr ⟨.inl hk,c,hc,hc'⟩⟩
   ·rw[aw (Ne.symm hj)]at e2;obtain⟨u',r',q⟩:=hl j y v' e1 e2 e3;refine⟨u',r',?_⟩;rcases q with q|⟨k,c',e,z'⟩;·exact .inl q
    ·refine .inr ⟨k,c',e,z'.sameBut hs ?_⟩;rintro rfl;exact hj (xR hN e1 (I.ok.inj _ _ _ e hc▸hi))
  ·by_cases hcc:c'=c;·subst hcc;exact⟨_,hc'⟩
   ·obtain⟨w2,z2⟩:=I.cell y c' e;exact⟨w2,z2.sameBut hs hcc⟩
  ·obtain⟨e,n,ne,nf,d⟩:=I.pin p hp;refine⟨(hs.2 p.1 ?_).trans e,n,ne,nf,d⟩;intro q;rw[q,hoc]at e;have q':oc=p.2:=dE.inj e;exact d w' (by rw[<-q'];exact hocd)
theorem ox {M:Model} {A:Zw} {E:Zb} {i:Nat} {x:Str} {v:V} {u:Zz} {Q:Unit->Zy->Prop} (I:Inv X pz σ H s) (hN:X.N.Nodup) (hi:X.N[i]?=some x) (hx:Loc X.env.scope x) (r:iQ v u)
  (h:∀s',Inv X pz (σ.set i (some v)) H s'->Q () s') (hf:autoParam (X.fn x=true\/X.env.scope.names.lookup x=some .local) auL._auto_1):wpAny M A (storeName X.env x u) Q E s:=
 zP I hN hi hx r (fun s' I' _=>h s' I') hf
theorem Inv.call' {s':Zy} {ch:List Zx} (I:Inv X pz σ H s) (ho:s'.os=s.os) (u:Un (frs X.stack) ch H H' s.heap s'.heap) (hok:HOk X.prog X.w H' s'.heap) (hg:AllBare s'.gens)
  (hch:∀b∈ch,(b∈X.ex\/X.s₀.heap.objs.size<=b)/\b≠X.env.locals/\(∀x c,X.env.cells.lookup x=some c->c≠b)/\∀p∈X.pn++pz,p.1≠b):Inv X pz σ H' s':=by obtain⟨h',g',d',t',o'⟩:=s';have e:o'=s.os:=ho;subst e;exact I.call (g':=g') (t':=t') (d':=d') u hok hg hch
end
abbrev XK:=Zz->Option Zx->Hp->Prop
abbrev St:=List (Option V)
abbrev VK:=V->Hp->Prop
abbrev TE:=St->Hp->VK->Prop
abbrev TT:=St->Hp->(Bool->Hp->Prop)->Prop
abbrev TA:=St->Hp->(List V->Hp->Prop)->Prop
structure rO where
 nx:St->Hp->Prop
 rt:VK
 bk:St->Hp->Prop:=fun _ _=>False
 ct:St->Hp->Prop:=fun _ _=>False
abbrev TS:=rO->St->Hp->Prop
def EP (X:Cx) (pz:Za) (σ:St) (Q:VK) (u:Zz) (s':Zy):Prop:=∃v H',Inv X pz σ H' s'/\iQ v u/\Q v H'
def TP (X:Cx) (pz:Za) (σ:St) (Q:Bool->Hp->Prop) (b:Bool) (s':Zy):Prop:=∃H',Inv X pz σ H' s'/\Q b H'
def AP (X:Cx) (pz:Za) (σ:St) (Q:List V->Hp->Prop) (us:List Zz) (s':Zy):Prop:=∃vs H',Inv X pz σ H' s'/\iU vs us/\Q vs H'
def SP (X:Cx) (pz:Za) (D:rO) (f:Flow) (s':Zy):Prop:=
 match f with
 | .next=>∃σ' H',Inv X pz σ' H' s'/\D.nx σ' H'
 | .brk=>∃σ' H',Inv X pz σ' H' s'/\D.bk σ' H'
 | .cont=>∃σ' H',Inv X pz σ' H' s'/\D.ct σ' H'
 | .ret u=>∃v σ' H',Inv X pz σ' H' s'/\iQ v u/\D.rt v H'
def PE (X:Cx) (e:Zr) (t:TE):Prop:=
 ∀(pz:Za) (s:Zy) (σ:St) (H:Hp) (Q:VK),Inv X pz σ H s->t σ H Q->wpAny (model X.prog X.w) X.A (eval e X.env) (EP X pz σ Q) X.xe s
def PT (X:Cx) (e:Zr) (t:TT):Prop:=
 ∀(pz:Za) (s:Zy) (σ:St) (H:Hp) (Q:Bool->Hp->Prop),Inv X pz σ H s->t σ H Q->wpAny (model X.prog X.w) X.A (isTrue e X.env (eval e X.env)) (TP X pz σ Q) X.xe s
def PW (X:Cx) (e:Zr) (t:TT):Prop:=
 ∀(whole:Sem Zz) (pz:Za) (s:Zy) (σ:St) (H:Hp) (Q:Bool->Hp->Prop),Inv X pz σ H s->t σ H Q->wpAny (model X.prog X.w) X.A (isTrue e X.env whole) (TP X pz σ Q) X.xe s
theorem PW.pt {X:Cx} {e:Zr} {t:TT} (h:PW X e t):PT X e t:=h _
def PA (X:Cx) (es:List Zr) (t:TA):Prop:=
 ∀(pos:Pos) (pz:Za) (s:Zy) (σ:St) (H:Hp) (Q:List V->Hp->Prop),Inv X pz σ H s->t σ H Q->wpAny (model X.prog X.w) X.A (spliced (backTo pos (starEach es X.env))) (AP X pz σ Q) X.xe s
def PS (X:Cx) (st:Zq) (t:TS):Prop:=
 ∀(pz:Za) (s:Zy) (σ:St) (H:Hp) (D:rO),Inv X pz σ H s->t D σ H->wpAny (model X.prog X.w) X.A (exec st X.env) (SP X pz D) X.xe s
def PSs (X:Cx) (st:List Zq) (t:TS):Prop:=
 ∀(pz:Za) (s:Zy) (σ:St) (H:Hp) (D:rO),Inv X pz σ H s->t D σ H->wpAny (model X.prog X.w) X.A (execs st X.env) (SP X pz D) X.xe s
theorem thn {α:Type} {t:Sem α} {Q Q':α->Zy->Prop} {M:Model} {A:Zw} {E:Zb} {s:Zy} (h:wpAny M A t Q E s) (hQ:∀a s,Q a s->Q' a s):wpAny M A t Q' E s:=wpAny_mono h hQ fun _ _ x=>x
section
variable {X:Cx}
def JA (i:Nat):TE:=fun σ H Q=>∃v,σ[i]?=some (some v)/\Q v H
def tC (v:V):TE:=fun _ H Q=>Q v H
theorem FP {i:Nat} {x:Str} {pos:Pos} (hN:X.N[i]?=some x) (hv:Vis X.env.scope x) (hd:autoParam ((x==("__debug__":Str))=false) auD._auto_1) (hcd:autoParam ((x==("__classdict__":Str))=false) auD._auto_1):PE X (.Name x pos) (JA i):=by
 intro pz s σ H Q I h;obtain⟨v,e,h⟩:=h;obtain⟨m,hn,hl⟩:=I.loc;obtain⟨u,r,l⟩:=hl i x v hN e hv;have fin:EP X pz σ Q u s:=⟨v,H,I,r,h⟩;rcases l with⟨hk,hm⟩|⟨hk,c,hc,hcell⟩;·exact wpAny_Name (wpAny_loadName_local I.ok.kind hk hn hm fin) hd
 ·rcases hk with hk|hk;·exact wpAny_Name (wpAny_loadName_cell I.ok.kind hk hc hcell fin) hd
  ·exact wpAny_Name (wpAny_loadName_free I.ok.kind hk hc hcell fin hcd) hd
theorem gh {i j pos}:PE X (.Constant (.int i) j pos) (tC (.int i)):=fun _ _ _ H _ I h=>wpAny_Constant_int ⟨.int i,H,I.tok _,⟨_,rfl⟩,h⟩
theorem oQ {b j pos}:PE X (.Constant (.bool b) j pos) (tC (.bl b)):=fun _ _ _ H _ I h=>Constant_bool ⟨.bl b,H,I,rfl,h⟩
theorem lM {j pos}:PE X (.Constant .none j pos) (tC .non):=fun _ _ _ H _ I h=>Constant_none ⟨.non,H,I,rfl,h⟩
theorem gE {x j pos}:PE X (.Constant (.str x) j pos) (tC (.str x)):=fun _ _ _ H _ I h=>Calls.Constant_str ⟨.str x,H,I.tok _,⟨_,rfl⟩,h⟩
def Gl (X:Cx) (x:Str):Prop:=X.env.kindOf x=some .globalImplicit
theorem wy {E:Zb} {pz:Za} {s:Zy} {σ:St} {H:Hp} {x:Str} {u:Zz} {pos:Pos} {Q:Zb} (I:Inv X pz σ H s) (hg:Gl X x) (hm:X.mg x=some u) (h:Q u s)
  (hd:autoParam ((x==("__debug__":Str))=false) auD._auto_1):wpAny (model X.prog X.w) X.A (eval (.Name x pos) X.env) Q E s:=
 Calls.Name_function_global I.ok.kind hg (Calls.loadGlobal_global (by rw[I.ok.glob];exact I.mod.glob.keeps I.bk) hm h) hd
theorem nA {E:Zb} {pz:Za} {s:Zy} {σ:St} {H:Hp} {x:Str} {u:Zz} {pos:Pos} {Q:Zb} (I:Inv X pz σ H s) (hg:Gl X x) (hm:X.mg x=none) (hv:bootBuiltins x=some u) (h:Q u s)
  (hn:autoParam (x≠"__name__") auD._auto_1) (hd:autoParam ((x==("__debug__":Str))=false) auD._auto_1):wpAny (model X.prog X.w) X.A (eval (.Name x pos) X.env) Q E s:=by obtain⟨mb,h1,h2⟩:=I.mod.blt;exact Calls.Name_function_global I.ok.kind hg (Calls.loadGlobal_builtin (by rw[I.ok.glob];exact I.mod.glob.keeps I.bk) hm (by rw[I.ok.blt];exact h1.keeps I.bk) ((h2 x hn).trans hv) h) hd
theorem wz {x:Str} {v:V} {u:Zz} {pos:Pos} (hg:Gl X x) (hm:X.mg x=some u) (r:iQ v u) (hd:autoParam ((x==("__debug__":Str))=false) auD._auto_1):PE X (.Name x pos) (tC v):=
 fun _ _ _ H _ I h=>wy I hg hm ⟨v,H,I,r,h⟩ hd
theorem D4 {x:Str} {v:V} {u:Zz} {pos:Pos} (hg:Gl X x) (hm:X.mg x=none) (hv:bootBuiltins x=some u) (r:iQ v u) (hn:autoParam (x≠"__name__") auD._auto_1) (hd:autoParam ((x==("__debug__":Str))=false) auD._auto_1):PE X (.Name x pos) (tC v):=
 fun _ _ _ H _ I h=>nA I hg hm hv ⟨v,H,I,r,h⟩ hn hd
variable {a b:Zr} {ta tb:TE} {pos:Pos}
def PC (X:Cx) (op:CmpOp) (a b:Zr) (t:TE):Prop:=
 ∀(pz:Za) (s:Zy) (σ:St) (H:Hp) (Q:VK),Inv X pz σ H s->t σ H Q->
  wpAny (model X.prog X.w) X.A (eval a X.env) (fun v s₁=>wpAny (model X.prog X.w) X.A (eval b X.env) (fun u s₂=>wpAny (model X.prog X.w) X.A (compareOp op v u) (EP X pz σ Q) X.xe s₂) X.xe s₁) X.xe s
theorem xS (b:Zr) {op:CmpOp} (h:op≠ .In) (h2:op≠ .NotIn):behindInMarks op b=false:=by
 have e1:(op==CmpOp.In)=false:=by cases op<;>first|rfl|exact absurd rfl h
 have e2:(op==CmpOp.NotIn)=false:=by cases op<;>first|rfl|exact absurd rfl h2
 cases b<;>simp[behindInMarks,e1,e2]
def tIsN (ta:TE):TE:=fun σ H Q=>ta σ H fun x H1=>Q (.bl (decide (x= .non))) H1
def HP (ta:TE):TE:=fun σ H Q=>ta σ H fun x H1=>Q (.bl (!decide (x= .non))) H1
theorem iQ.none_iff {x:V} {v:Zz} (r:iQ x v):(v==Value.none)=decide (x= .non):=by
 cases x with
 |non=>cases r;rfl
 |bl _=>cases r;rfl
 |int _=>obtain⟨t,rfl⟩:=r;rfl
 |str _=>obtain⟨t,rfl⟩:=r;rfl
 |byt _=>obtain⟨t,rfl⟩:=r;rfl
 |flt _=>obtain⟨t,rfl⟩:=r;rfl
 |ref _=>cases r;rfl
 |ty _=>cases r;rfl
theorem CN {j pos'} (ha:PE X a ta):PC X .Is a (.Constant .none j pos') (tIsN ta):=by intro pz s σ H Q I h;refine thn (ha pz s σ H _ I h) ?_;rintro v s1 ⟨x,H1,I1,r1,q1⟩;exact Constant_none (is_none_gen ⟨.bl _,H1,I1,by rw[r1.none_iff];rfl,q1⟩)
theorem D5 {j pos'} (ha:PE X a ta):PC X .IsNot a (.Constant .none j pos') (HP ta):=by intro pz s σ H Q I h;refine thn (ha pz s σ H _ I h) ?_;rintro v s1 ⟨x,H1,I1,r1,q1⟩;exact Constant_none (isnot_none_gen ⟨.bl _,H1,I1,by rw[r1.none_iff];rfl,q1⟩)
def tB (t:TE):TT:=fun σ H Q=>t σ H fun x H1=>∃c,x= .bl c/\Q c H1
theorem CO {op:CmpOp} {t:TE} (h:PC X op a b t) (h1:behindInMarks op b=false:=by first|exact xS _ (by decide) (by decide)|rfl):PE X (.Compare a [op] [b] pos) t:=fun pz s σ H Q I hw=>wpAny_Compare1 (h pz s σ H Q I hw) h1
theorem sh {op:CmpOp} {t:TE} (h:PC X op a b t) (h1:behindInMarks op b=false:=by first|exact xS _ (by decide) (by decide)|rfl):PT X (.Compare a [op] [b] pos) (tB t):=by intro pz s σ H Q I hw;refine wpAny_isTrue_Compare1 (thn (h pz s σ H _ I hw) fun v s1 h1=>thn h1 fun u s2 h2=>thn h2 ?_) h1;rintro c s3 ⟨x,H1,I1,r1,q1⟩;obtain⟨d,rfl,q⟩:=q1;cases r1;exact wpAny_truthy_bool ⟨H1,I1,q⟩
theorem jM {e:Zr} {t:TE} (h:PE X e t) (he:autoParam (∀whole,isTrue e X.env whole=(do let v<-whole;standAt e.pos;holding [v] (truthy v))) auI._auto_1):PT X e (tB t):=by intro pz s σ H Q I hw;refine isTrue_plain (thn (h pz s σ H _ I hw) ?_) (he _);rintro v s1 ⟨x,H1,I1,r1,q1⟩;obtain⟨d,rfl,q⟩:=q1;cases r1;exact wpAny_truthy_bool ⟨H1,I1,q⟩
variable {tA tB':TT} {rest:List Zr}
def tAnd (t u:TT):TT:=fun σ H Q=>t σ H fun c H1=>if c=true then u σ H1 Q else Q false H1
def tOr (t u:TT):TT:=fun σ H Q=>t σ H fun c H1=>if c=true then Q true H1 else u σ H1 Q
def tNot (t:TT):TT:=fun σ H Q=>t σ H fun c H1=>Q (!c) H1
theorem sX (ha:PT X a tA):PW X (.BoolOp .And [a] pos) tA:=by
 intro wh pz s σ H Q I h;refine isTrue_and (thn (ha pz s σ H Q I h) fun c s1 e=>?_)
 cases c with
 |true=>exact isTrue_and_nil e
 |false=>exact e
theorem pQ (ha:PT X a tA):PW X (.BoolOp .Or [a] pos) tA:=by
 intro wh pz s σ H Q I h;refine isTrue_or (thn (ha pz s σ H Q I h) fun c s1 e=>?_)
 cases c with
 |false=>exact isTrue_or_nil e
 |true=>exact e
theorem xT (ha:PT X a tA) (hb:PW X (.BoolOp .And (b::rest) pos) tB'):PW X (.BoolOp .And (a::b::rest) pos) (tAnd tA tB'):=by
 intro wh pz s σ H Q I h;refine isTrue_and (thn (ha pz s σ H _ I h) ?_);rintro c s1 ⟨H1,I1,q1⟩
 cases c with
 |true=>exact hb wh pz s1 σ H1 Q I1 q1
 |false=>exact⟨H1,I1,q1⟩
theorem qa (ha:PT X a tA) (hb:PW X (.BoolOp .Or (b::rest) pos) tB'):PW X (.BoolOp .Or (a::b::rest) pos) (tOr tA tB'):=by
 intro wh pz s σ H Q I h;refine isTrue_or (thn (ha pz s σ H _ I h) ?_);rintro c s1 ⟨H1,I1,q1⟩
 cases c with
 |true=>exact⟨H1,I1,q1⟩
 |false=>exact hb wh pz s1 σ H1 Q I1 q1
theorem kE (ha:PT X a tA):PT X (.UnaryOp .Not a pos) (tNot tA):=by intro pz s σ H Q I h;exact isTrue_not (ha pz s σ H (fun c H1=>Q (!c) H1) I h)
def HQ (ta tb:TE):TE:=fun σ H Q=>ta σ H fun x H1=>∃c,x= .bl c/\if c=true then tb σ H1 Q else Q (.bl false) H1
def tOrV (ta tb:TE):TE:=fun σ H Q=>ta σ H fun x H1=>∃c,x= .bl c/\if c=true then Q (.bl true) H1 else tb σ H1 Q
def HR (ta:TE):TE:=fun σ H Q=>ta σ H fun x H1=>∃c,x= .bl c/\Q (.bl (!c)) H1
theorem qE {op} {t:TE} (h:PE X a t):PE X (.BoolOp op [a] pos) t:=fun pz s σ H Q I hw=>BoolOp_one (h pz s σ H Q I hw)
theorem si (ha:PE X a ta) (hb:PE X (.BoolOp .And (b::rest) pos) tb):PE X (.BoolOp .And (a::b::rest) pos) (HQ ta tb):=by
 intro pz s σ H Q I h;refine BoolOp_and (thn (ha pz s σ H _ I h) ?_);rintro v s1 ⟨x,H1,I1,r1,q1⟩;obtain⟨c,rfl,q1⟩:=q1;cases r1;refine wpAny_truthy_bool ?_
 cases c with
 |true=>exact hb pz s1 σ H1 Q I1 q1
 |false=>exact⟨.bl false,H1,I1,rfl,q1⟩
theorem HS (ha:PE X a ta) (hb:PE X (.BoolOp .Or (b::rest) pos) tb):PE X (.BoolOp .Or (a::b::rest) pos) (tOrV ta tb):=by
 intro pz s σ H Q I h;refine BoolOp_or (thn (ha pz s σ H _ I h) ?_);rintro v s1 ⟨x,H1,I1,r1,q1⟩;obtain⟨c,rfl,q1⟩:=q1;cases r1;refine wpAny_truthy_bool ?_
 cases c with
 |false=>exact hb pz s1 σ H1 Q I1 q1
 |true=>exact⟨.bl true,H1,I1,rfl,q1⟩
theorem FQ (ha:PE X a ta):PE X (.UnaryOp .Not a pos) (HR ta):=by intro pz s σ H Q I h;refine UnaryOp_ (thn (ha pz s σ H _ I h) ?_);rintro v s1 ⟨x,H1,I1,r1,q1⟩;obtain⟨c,rfl,q1⟩:=q1;cases r1;exact not_of (wpAny_truthy_bool ⟨.bl (!c),H1,I1,rfl,q1⟩)
def tIf (t:TT) (ta tb:TE):TE:=fun σ H Q=>t σ H fun c H1=>if c=true then ta σ H1 Q else tb σ H1 Q
theorem qr {c:Zr} (hc:PT X c tA) (ha:PE X a ta) (hb:PE X b tb):PE X (.IfExp c a b pos) (tIf tA ta tb):=by
 intro pz s σ H Q I h;refine wpAny_IfExp (thn (hc pz s σ H _ I h) ?_);rintro d s1 ⟨H1,I1,q1⟩
 cases d with
 |true=>exact ha pz s1 σ H1 Q I1 q1
 |false=>exact hb pz s1 σ H1 Q I1 q1
end
def SqL (K:Zp) (H:Hp) (a:Zx) (xs:List V):Prop:=
 Rd H a (.lst xs)\/
  ∃(o:Obj) (its:Array Zz) (n:Nat),K.lookup a=some o/\o.cls= .type "list"/\o.dict=none/\o.data= .seq its n/\its.size<=sizeLine/\iU xs its.toList
def SqT (K:Zp) (H:Hp) (a:Zx) (xs:List V):Prop:=
 Rd H a (.tup xs)\/
  ∃(o:Obj) (its:Array Zz) (n:Nat),K.lookup a=some o/\o.cls= .type "tuple"/\o.data= .seq its n/\its.size<=sizeLine/\iU xs its.toList
def absV:Zz->Option V
 | .none=>some .non
 | .bool b=>some (.bl b)
 | .int i _=>some (.int i)
 | .str x _=>some (.str x)
 | .bytes b _=>some (.byt b)
 | .float b _=>some (.flt b)
 | .ref a=>some (.ref a)
 | .type n=>some (.ty n)
 |_=>none
theorem iQ.abs {x:V} {u:Zz} (r:iQ x u):absV u=some x:=by
 cases x with
 |non=>cases r;rfl
 |bl _=>cases r;rfl
 |int _=>obtain⟨t,rfl⟩:=r;rfl
 |str _=>obtain⟨t,rfl⟩:=r;rfl
 |byt _=>obtain⟨t,rfl⟩:=r;rfl
 |flt _=>obtain⟨t,rfl⟩:=r;rfl
 |ref _=>cases r;rfl
 |ty _=>cases r;rfl
theorem iQ.inj {x y:V} {u:Zz} (r:iQ x u) (q:iQ y u):x=y:=dE.inj (r.abs.symm.trans q.abs)
theorem iU.inj {xs ys:List V} {us:List Zz} (h:iU xs us):iU ys us->xs=ys:=by
 induction h generalizing ys with
 |nil=>exact fun k=>by cases k;rfl
 |cons r t ih=>exact fun k=>by cases k with|cons r' t'=>rw[r.inj r',ih t']
section
variable {X:Cx} {pz:Za} {σ:St} {H:Hp} {s:Zy} {a:Zx} {xs ys:List V}
theorem SqL.of {K:Zp} (h:H a=some (.lst xs)):SqL K H a xs:= .inl (.inl h)
theorem SqT.of {K:Zp} (h:H a=some (.tup xs)):SqT K H a xs:= .inl (.inl h)
theorem Inv.list (I:Inv X pz σ H s) (h:SqL X.K H a xs):∃its:List Zz,iU xs its/\PlainL s.heap a its.toArray/\xs.length<=sizeLine:=by
 rcases h with h|⟨o,its,n,hk,hc,hd,hs,hz,r⟩;·obtain⟨z,its,n,r,e⟩:=h.ok I.hok;exact⟨its,r,⟨_,n,e,rfl,rfl,rfl⟩,z⟩
 ·refine⟨its.toList,r,⟨o,n,I.kIn a o hk,hc,hd,by simpa using hs⟩,?_⟩;have e:=r.length;simp only[fD]at e;lia
theorem Inv.tuple (I:Inv X pz σ H s) (h:SqT X.K H a xs):∃its:List Zz,iU xs its/\IsTup s.heap a its.toArray/\xs.length<=sizeLine:=by
 rcases h with h|⟨o,its,n,hk,hc,hs,hz,r⟩;·obtain⟨z,its,r,p⟩:=h.ok I.hok;exact⟨its,r,p.tup,z⟩
 ·refine⟨its.toList,r,⟨o,I.kIn a o hk,hc,n,by simpa using hs⟩,?_⟩;have e:=r.length;simp only[fD]at e;lia
theorem Inv.list_inj (I:Inv X pz σ H s) (h:SqL X.K H a xs) (h':SqL X.K H a ys):xs=ys:=by
 obtain⟨its,r,⟨o,n,e,_,_,d⟩,_⟩:=I.list h;obtain⟨its',r',⟨o',n',e',_,_,d'⟩,_⟩:=I.list h';rw[e]at e';cases e';rw[d]at d';injection d' with d1 _;have:its=its':=by simpa using congrArg Array.toList d1
 subst this;exact r.inj r'
theorem Inv.tuple_inj (I:Inv X pz σ H s) (h:SqT X.K H a xs) (h':SqT X.K H a ys):xs=ys:=by
 obtain⟨its,r,⟨o,e,_,n,d⟩,_⟩:=I.tuple h;obtain⟨its',r',⟨o',e',_,n',d'⟩,_⟩:=I.tuple h';rw[e]at e';cases e';rw[d]at d';injection d' with d1 _;have:its=its':=by simpa using congrArg Array.toList d1
 subst this;exact r.inj r'
end
abbrev Cx.wish (X:Cx) (E:Zb):Cx:={X with xe:=E}
abbrev Cx.nox (X:Cx):Cx:=X.wish fun _ _=>False
theorem Cx.Ok.wish {X:Cx} (ok:X.Ok) (E:Zb):(X.wish E).Ok:=
 ⟨ok.mod,ok.kind,ok.glob,ok.blt,ok.above,ok.inj,ok.has,ok.cab,ok.hd,ok.frames,ok.stk,ok.exf,ok.bs,ok.bsz,ok.noex,ok.exfs,ok.funs,ok.frf⟩
theorem Cx.Ok.unwish {X:Cx} {E:Zb} (ok:(X.wish E).Ok):X.Ok:=
 ⟨ok.mod,ok.kind,ok.glob,ok.blt,ok.above,ok.inj,ok.has,ok.cab,ok.hd,ok.frames,ok.stk,ok.exf,ok.bs,ok.bsz,ok.noex,ok.exfs,ok.funs,ok.frf⟩
section
variable {X:Cx} {pz:Za} {σ:St} {H:Hp} {s:Zy} {E:Zb}
theorem Inv.wish (I:Inv X pz σ H s) (E:Zb):Inv (X.wish E) pz σ H s:=⟨I.ok.wish E,I.os,I.bare,I.base,I.loc,I.cell,I.free,I.freeC,I.pin,I.hok,I.len⟩
theorem Inv.unwish (I:Inv (X.wish E) pz σ H s):Inv X pz σ H s:=⟨I.ok.unwish,I.os,I.bare,I.base,I.loc,I.cell,I.free,I.freeC,I.pin,I.hok,I.len⟩
theorem SP.unwish {D:rO} {f:Flow} {s':Zy} (h:SP (X.wish E) pz D f s'):SP X pz D f s':=by
 cases f with
 |next=>obtain⟨σ',H',I,q⟩:=h;exact⟨σ',H',I.unwish,q⟩
 |brk=>obtain⟨σ',H',I,q⟩:=h;exact⟨σ',H',I.unwish,q⟩
 |cont=>obtain⟨σ',H',I,q⟩:=h;exact⟨σ',H',I.unwish,q⟩
 |ret u=>obtain⟨v,σ',H',I,r,q⟩:=h;exact⟨v,σ',H',I.unwish,r,q⟩
theorem PE.nox {e:Zr} {t:TE} (h:PE X.nox e t):PE X e t:=fun pz s σ H Q I hw=>
 wpAny_mono (h pz s σ H Q (I.wish _) hw) (fun _ _ ⟨v,H',I',r,q⟩=>⟨v,H',I'.unwish,r,q⟩) fun _ _ z=>False.elim z
theorem PT.nox {e:Zr} {t:TT} (h:PT X.nox e t):PT X e t:=fun pz s σ H Q I hw=>
 wpAny_mono (h pz s σ H Q (I.wish _) hw) (fun _ _ ⟨H',I',q⟩=>⟨H',I'.unwish,q⟩) fun _ _ z=>False.elim z
theorem PSs.nox {st:List Zq} {t:TS} (h:PSs X.nox st t):PSs X st t:=fun pz s σ H D I hw=>
 wpAny_mono (h pz s σ H D (I.wish _) hw) (fun _ _ q=>q.unwish) fun _ _ z=>False.elim z
end
section
variable {X:Cx} {st:Zq} {rest:List Zq} {t u:TS} {e:Zr} {te:TE} {pos:Pos}
def qb:TS:=fun D σ H=>D.nx σ H
def BZ (t u:TS):TS:=fun D σ H=>t {D with nx:=u D} σ H
theorem gK:PSs X [] qb:=fun _ _ σ H _ I h=>wpAny_execs_nil ⟨σ,H,I,h⟩
theorem f9 (h1:PS X st t) (h2:PSs X rest u):PSs X (st::rest) (BZ t u):=by
 intro pz s σ H D I h;refine wpAny_execs_cons (thn (h1 pz s σ H {D with nx:=u D} I h) fun f s1 q=>?_)
 cases f with
 |next=>obtain⟨σ',H',I',q⟩:=q;exact h2 pz s1 σ' H' D I' q
 |ret v=>exact q
 |brk=>exact q
 |cont=>exact q
theorem gj (h1:PS X st t):PSs X [st] t:=by
 intro pz s σ H D I h;refine wpAny_execs_cons (thn (h1 pz s σ H D I h) fun f s1 q=>?_)
 cases f with
 |next=>exact wpAny_execs_nil q
 |ret v=>exact q
 |brk=>exact q
 |cont=>exact q
theorem Inv.quiet {pz:Za} {σ:St} {H:Hp} {s:Zy} (I:Inv X pz σ H s):interactive X.env=false:=by simp[interactive,I.ok.kind]
def FR (te:TE):TS:=fun D σ H=>te σ H fun _ H1=>D.nx σ H1
theorem gL (he:PE X e te) (hs:autoParam (swapsWith e none pos.line X.env=pure false) auR._auto_1):PS X (.Expr e pos) (FR te):=by intro pz s σ H D I h;exact wpAny_Expr_any (thn (he pz s σ H _ I h) fun v s1 ⟨x,H1,I1,r1,q1⟩=>⟨σ,H1,I1,q1⟩) I.quiet hs
def B3 (te:TE):TS:=fun D σ H=>te σ H D.rt
theorem gG (he:PE X e te):PS X (.Return (some e) pos) (B3 te):=by intro pz s σ H D I h;exact wpAny_Return_some (thn (he pz s σ H _ I h) fun v s1 ⟨x,H1,I1,r1,q1⟩=>⟨x,σ,H1,I1,r1,q1⟩)
def HU:TS:=fun D _ H=>D.rt .non H
theorem zQ:PS X (.Return none pos) HU:=fun _ _ σ H _ I h=>wpAny_Return_none ⟨.non,σ,H,I,rfl,h⟩
def CQ (c:TT) (t u:TS):TS:=fun D σ H=>c σ H fun b H1=>if b=true then t D σ H1 else u D σ H1
theorem ie {c:Zr} {a b:List Zq} {tc:TT} (hc:PT X c tc) (ha:PSs X a t) (hb:PSs X b u):PS X (.If c a b pos) (CQ tc t u):=by
 intro pz s σ H D I h;refine wpAny_If (thn (hc pz s σ H _ I h) ?_);rintro d s1 ⟨H1,I1,q1⟩
 cases d with
 |true=>exact ha pz s1 σ H1 D I1 q1
 |false=>exact hb pz s1 σ H1 D I1 q1
def CS:TS:=fun _ _ _=>False
theorem kj:PS X st CS:=fun _ _ _ _ _ _ h=>h.elim
theorem uU {sts:List Zq}:PSs X sts CS:=fun _ _ _ _ _ _ h=>h.elim
end
abbrev TG:=V->St->Hp->(St->Hp->Prop)->Prop
abbrev TGs:=List V->St->Hp->(St->Hp->Prop)->Prop
def PG (X:Cx) (target:Zr) (t:TG):Prop:=
 ∀(pz:Za) (s:Zy) (σ:St) (H:Hp) (v:V) (u:Zz) (Q:St->Hp->Prop),Inv X pz σ H s->iQ v u->t v σ H Q->
  wpAny (model X.prog X.w) X.A (assign target X.env u) (fun _ s'=>∃σ' H',Inv X pz σ' H' s'/\Q σ' H') X.xe s
def PGs (X:Cx) (ts:List Zr) (t:TGs):Prop:=
 ∀(pz:Za) (s:Zy) (σ:St) (H:Hp) (vs:List V) (us:List Zz) (Q:St->Hp->Prop),Inv X pz σ H s->iU vs us->t vs σ H Q->
  wpAny (model X.prog X.w) X.A (assignInOrder ((assignEach ts X.env).map (·.2)) us) (fun _ s'=>∃σ' H',Inv X pz σ' H' s'/\Q σ' H') X.xe s
abbrev HV:=V->V->V->Hp->(Hp->Prop)->Prop
def JB (X:Cx) (t:HV):Prop:=
 ∀(pz:Za) (s:Zy) (σ:St) (H:Hp) (o i v:V) (ov iv u:Zz) (Q:Hp->Prop),Inv X pz σ H s->iQ o ov->iQ i iv->iQ v u->t o i v H Q->
  wpAny (model X.prog X.w) X.A (setItem ov iv u) (fun _ s'=>∃H',Inv X pz σ H' s'/\Q H') X.xe s
section
variable {X:Cx} {pos:Pos}
def gY (i:Nat):TG:=fun v σ H Q=>Q (σ.set i (some v)) H
theorem wA {i:Nat} {x:Str} (hN:X.N.Nodup) (hi:X.N[i]?=some x) (hx:Loc X.env.scope x) (hf:autoParam (X.fn x=true\/X.env.scope.names.lookup x=some .local) auL._auto_1):PG X (.Name x pos) (gY i):=by intro pz s σ H v u Q I r h;exact wpAny_assign_Name (ox I hN hi hx r (fun s' I'=>⟨_,H,I',h⟩) hf)
def FT:TGs:=fun vs σ H Q=>vs=[]/\Q σ H
def sY (t:TG) (u:TGs):TGs:=fun vs σ H Q=>∃v r,vs=v::r/\t v σ H fun σ' H'=>u r σ' H' Q
theorem sZ:PGs X [] FT:=by intro pz s σ H vs us Q I r h;obtain⟨e,h⟩:=h;subst e;cases r;exact assignInOrder_nil ⟨σ,H,I,h⟩
theorem kZ {e:Zr} {es:List Zr} {t:TG} {u:TGs} (h1:PG X e t) (h2:PGs X es u)
  (hs:autoParam ((assignEach (e::es) X.env).map (·.2)=assign e X.env::(assignEach es X.env).map (·.2)) auR._auto_1):PGs X (e::es) (sY t u):=by
 intro pz s σ H vs us Q I r h;obtain⟨v,vr,e1,h⟩:=h;subst e1
 cases r with
 |cons r rr=>rw[hs];refine assignInOrder_cons (thn (h1 pz s σ H _ _ _ I r h) ?_);rintro _ s1 ⟨σ1,H1,I1,q1⟩;exact h2 pz s1 σ1 H1 _ _ Q I1 rr q1
def FU (K:Zp) (n:Nat) (t:TGs):TG:=fun v σ H Q=>∃a xs,v= .ref a/\SqT K H a xs/\xs.length=n/\t xs σ H Q
theorem xU {es:List Zr} {k:Nat} {t:TGs} {n:Nat} (hc:X.calm=true) (h:PGs X es t)
  (hn:autoParam ((assignEach es X.env).length=n) auR._auto_1) (hst:autoParam ((assignEach es X.env).findIdx? (·.1)=none) auR._auto_1):PG X (.Tuple es k pos) (FU X.K n t):=by intro pz s σ H v u Q I r hw;obtain⟨a,xs,e1,hq,hl,hw⟩:=hw;subst e1;cases r;obtain⟨its,rv,ht,hz⟩:=I.tuple hq;refine assign_Tuple_tuple (I.ok.hd hc) ht (by simp[hn,<-hl,rv.length]) hst fun h' hx=>?_;have I1:Inv X pz σ H {s with heap:=h'}:=I.kept (t':=s.toks) fun b o e=>hx b o (cP (fO e)) e;exact h pz _ σ H xs _ Q I1 (by simpa using rv) hw
def gSub (to ti:TE) (t:HV):TG:=fun v σ H Q=>to σ H fun o H1=>ti σ H1 fun i H2=>t o i v H2 fun H3=>Q σ H3
theorem sj {o i:Zr} {to ti:TE} {t:HV} (ho:PE X o to) (hi:PE X i ti) (hs:JB X t)
  (ha:∀v,assign (.Subscript o i pos) X.env v=(do
   let ov<-holding [v] (eval o X.env)
   let iv<-holding [v,ov] (eval i X.env)
   standAt pos
   holding [v,ov,iv] (setItem ov iv v)
   release [v,ov,iv] []):=by intro _;rfl):PG X (.Subscript o i pos) (gSub to ti t):=by intro pz s σ H v u Q I r h;rw[ha];refine wpAny_bind (wpAny_holding (thn (ho pz s σ H _ I h) ?_));rintro ov s1 ⟨x,H1,I1,r1,q1⟩;refine wpAny_bind (wpAny_holding (thn (hi pz s1 σ H1 _ I1 q1) ?_));rintro iv s2 ⟨y,H2,I2,r2,q2⟩;refine wpAny_bind (wpAny_standAt (wpAny_bind (wpAny_holding (thn (hs pz s2 σ H2 x y v ov iv u _ I2 r1 r2 r q2) ?_))));rintro _ s3 ⟨H3,I3,q3⟩;exact wpAny_release ⟨σ,H3,I3,q3⟩
def FV (te:TE) (g:TG):TS:=fun D σ H=>te σ H fun x H1=>g x σ H1 D.nx
theorem sk {tg e:Zr} {te:TE} {g:TG} (he:PE X e te) (hg:PG X tg g) (hs:autoParam (swapsWithSole [tg] e pos.line X.env=pure false) auR._auto_1) (hw:autoParam (swappedStores [tg] e X.env=pure none) auR._auto_1)
  (h1:autoParam ((assignEach [tg] X.env).map (·.2)=[assign tg X.env]) auR._auto_1):PS X (.Assign [tg] e pos) (FV te g):=by intro pz s σ H D I h;refine wpAny_Assign_stores (thn (he pz s σ H _ I h) ?_) hs hw;rintro v s1 ⟨x,H1,I1,r1,q1⟩;rw[h1];exact thn (hg pz s1 σ H1 x v _ I1 r1 q1) fun _ s2 q=>q
theorem FW {i:Nat} {x:Str} {e:Zr} {te:TE} {pos':Pos} (hN:X.N.Nodup) (hi:X.N[i]?=some x) (hx:Loc X.env.scope x) (he:PE X e te) (hs:autoParam (swapsWith e (some (.Name x pos')) pos.line X.env=pure false) auR._auto_1) (hf:autoParam (X.fn x=true\/X.env.scope.names.lookup x=some .local) auL._auto_1):
  PS X (.Assign [.Name x pos'] e pos) (FV te (gY i)):=by intro pz s σ H D I h;refine wpAny_Assign_Name (thn (he pz s σ H _ I h) ?_) hs;rintro v s1 ⟨y,H1,I1,r1,q1⟩;exact ox I1 hN hi hx r1 (fun s2 I2=>⟨_,H1,I2,q1⟩) hf
end
section
variable {X:Cx} {pos:Pos}
def FX (c:TT) (tb:TS):TS:=fun D σ H=>∃W:Nat->St->Hp->Prop,(∃m,W m σ H)/\∀m σ H,W m σ H->
 c σ H fun b H1=>if b=true then ∃N:St->Hp->Prop,(∀σ' H',N σ' H'->∃m',m'<m/\W m' σ' H')/\tb {D with nx:=N,ct:=N,bk:=D.nx} σ H1 else D.nx σ H1
theorem oy {c:Zr} {body:List Zq} {tc:TT} {tb:TS} (hp:PassesOwn (model X.prog X.w) X.A X.env X.xe) (hc:PT X c tc) (hb:PSs X body tb):PS X (.While c body [] pos) (FX tc tb):=by
 intro pz s σ H D I h;obtain⟨W,⟨m0,w0⟩,turn⟩:=h;refine wpAny_While (codeAny_whileLoop (fun n s'=>∃σ' H',Inv X pz σ' H' s'/\W n σ' H') ?_ m0 ⟨σ,H,I,w0⟩);rintro n s1 ⟨σ1,H1,I1,w1⟩;refine wpAny_passesOwn hp (thn (hc pz s1 σ1 H1 _ I1 (turn n σ1 H1 w1)) ?_);rintro b s2 ⟨H2,I2,q2⟩
 cases b with
 |true=>
  obtain⟨N,hN,q2⟩:=q2;rw[gU rfl];refine wpAny_passesOwn hp (thn (hb pz s2 σ1 H2 _ I2 q2) fun f s3 q3=>?_)
  cases f with
  |next=>obtain⟨σ3,H3,I3,n3⟩:=q3;obtain⟨m',hm,w3⟩:=hN σ3 H3 n3;exact⟨m',hm,σ3,H3,I3,w3⟩
  |cont=>obtain⟨σ3,H3,I3,n3⟩:=q3;obtain⟨m',hm,w3⟩:=hN σ3 H3 n3;exact⟨m',hm,σ3,H3,I3,w3⟩
  |brk=>exact q3
  |ret v=>exact q3
 |false=>rw[gN fu];exact wpAny_execs_nil ⟨σ1,H2,I2,q2⟩
end
structure It where
 go:Nat->Hp->Prop
 yld:Nat->Hp->V->Hp->Prop
 stop:Nat->Hp->Prop
def uS (X:Cx) (pz:Za) (H:Hp) (b:Zx):Prop:=
 H b=none/\b≠X.env.locals/\b∉X.fs/\(b∈X.ex\/X.s₀.heap.objs.size<=b)/\(∀x c,X.env.cells.lookup x=some c->c≠b)/\∀p∈X.pn++pz,p.1≠b
theorem Inv.fpOk {X:Cx} {pz:Za} {σ:St} {H H':Hp} {s:Zy} {b:Zx} (I:Inv X pz σ H s) (hb:s.heap.objs.size<=b) (hn:H' b=none):uS X pz H' b:=by
 refine⟨hn,cU (cM I.lt hb),I.nofs hb,.inr (cQ I.sz hb),fun x c e z=>?_,fun p hp z=>?_⟩;·obtain⟨v,q⟩:=I.cell x c e;exact absurd (cM q.lt (by rw[z];exact hb)) (cO _)
 ·exact absurd (cM (fO (I.pin p hp).1) (by rw[z];exact hb)) (cO _)
structure B4 (P:Zu) (w:Zv) (K:Zp) (tg:Zr) (J:It) (fp:List Zx) (it:Zx) (tn:Nat->Zt->Prop):Prop where
 mem:it∈fp
 obj:∀i h,tn i h->∀b∈fp,∃o,h.get? b=some o/\∀v,o.data≠ .cell v
 keep:∀i h h',tn i h->(∀b∈fp,∀o,h.get? b=some o->h'.get? b=some o)->tn i h'
 item:∀(X:Cx),X.prog=P->X.w=w->X.K=K->X.calm=true->∀(i:Nat) (pz:Za) (s:Zy) (σ:St) (H:Hp) (E:Zb),Inv X pz σ H s->(∀b∈fp,uS X pz H b)->tn i s.heap->J.go i H->
  wpAny (model P w) X.A (pyNext (.ref it)) (fun r s1=>∃u,r=some u/\
   wpAny (model P w) X.A (letOwnedTupleGo tg (.ref it) u) (fun _ s2=>∃x H',Inv X pz σ H' s2/\iQ x u/\J.yld i H x H'/\tn (i+ 1) s2.heap/\∀b∈fp,H' b=none) E s1) E s
 done:∀(X:Cx),X.prog=P->X.w=w->X.K=K->X.calm=true->∀(i:Nat) (pz:Za) (s:Zy) (σ:St) (H:Hp) (E:Zb),Inv X pz σ H s->(∀b∈fp,uS X pz H b)->tn i s.heap->J.stop i H->
  wpAny (model P w) X.A (pyNext (.ref it)) (fun r s1=>r=none/\Inv X pz σ H s1) E s
 self:∀(A:Zw) (i:Nat) (s:Zy) (Q:Zb) (E:Zb),tn i s.heap->Q (.ref it) s->wpAny (model P w) A (pyIter (.ref it)) Q E s
abbrev TI:=St->Hp->(It->Hp->Prop)->Prop
def PIE (X:Cx) (pz:Za) (σ:St) (tg:Zr) (R:It->Hp->Prop) (itv:Zz) (s2:Zy):Prop:=
 ∃(it:Zx) (fp:List Zx) (tn:Nat->Zt->Prop) (J:It) (H':Hp),itv= .ref it/\Inv X pz σ H' s2/\B4 X.prog X.w X.K tg J fp it tn/\tn 0 s2.heap/\(∀b∈fp,uS X pz H' b)/\R J H'
def PI (X:Cx) (tg iter:Zr) (wi:TI):Prop:=
 ∀(pz:Za) (s:Zy) (σ:St) (H:Hp) (R:It->Hp->Prop),Inv X pz σ H s->wi σ H R->
  wpAny (model X.prog X.w) X.A (eval iter X.env) (fun v s1=>wpAny (model X.prog X.w) X.A (pyIter v) (PIE X pz σ tg R) X.xe s1) X.xe s
theorem yX {M : Model} {A : Zw} {E : Zz -> Zy -> Prop} {s : Zy} {tg : Zr} {it : Zx} {u : Zz} {o : Obj} {n : String} {vs : Array Zz} {Q : Unit -> Zy -> Prop} (ho : s.heap.get? it = some o) (hc : o.cls = .type n) (hd : o.data = .fields vs)
  (hn : ["enumerate", "zip", "dict_itemiterator", "dict_reverseitemiterator", "odict_iterator", "itertools.zip_longest", "itertools.pairwise"].contains n = false) (hQ : Q () s) : wpAny M A (letOwnedTupleGo tg (.ref it) u) Q E s := by
 unfold letOwnedTupleGo;cases tg <;> first
  | exact wpAny_pure hQ
  | (cases u <;> first
    | exact wpAny_pure hQ
    | (refine wpAny_bind (wpAny_load ho ?_);rw [hc, hd];show wpAny M A (if (["enumerate", "zip", "dict_itemiterator", "dict_reverseitemiterator", "odict_iterator", "itertools.zip_longest", "itertools.pairwise"].contains n && vs[0]? == some (rawInt _)) = true then _ else _) Q E s;rw [gN (by intro h; rw [hn, Bool.false_and] at h; cases h)];exact wpAny_pure hQ))
def Itl (K:Zp) (a:Zx):It:=
 ⟨fun i H=>∃xs x,SqL K H a xs/\xs[i]?=some x,fun i H x H'=>H'=H/\∀xs,SqL K H a xs->xs[i]?=some x,fun i H=>∃xs,SqL K H a xs/\xs.length<=i⟩
def Itt (K:Zp) (a:Zx):It:=
 ⟨fun i H=>∃xs x,SqT K H a xs/\xs[i]?=some x,fun i H x H'=>H'=H/\∀xs,SqT K H a xs->xs[i]?=some x,fun i H=>∃xs,SqT K H a xs/\xs.length<=i⟩
def Itr (lo:Int) (n:Nat):It:=⟨fun i _=>i<n,fun i H x H'=>H'=H/\x= .int (lo+i),fun i _=>n<=i⟩
theorem zR {P:Zu} {w:Zv} {K:Zp} {tg:Zr} (a it:Zx):B4 P w K tg (Itl K a) [it] it (fun i h=>h.IsListIter it a i) where
 mem:=by simp
 obj:=fun i h st b hb=>by
  have e:b=it:=by simpa using hb
  subst e;obtain⟨o,e,c,d⟩:=st;exact⟨o,e,fun v z=>by rw[d]at z;cases z⟩
 keep:=fun i h h' st k=>st.at fun o e=>k it (by simp) o e
 item:=by intro X hP hw hK hc i pz s σ H E I hf st hg;subst hP hw hK;obtain⟨xs,x,hq,hx⟩:=hg;obtain⟨its,rv,p,hz⟩:=I.list hq;obtain⟨u,hu,ru⟩:=rv.get hx;obtain⟨f0,f1,f2,f3,f4,f5⟩:=hf it (by simp);refine wpAny_pyNext_list_item st p.isList (x:=u) (by simpa using hu) fun h' st' sb=>?_;have I1:Inv X pz σ H {s with heap:=h'}:=I.turned (t':=s.toks) (fun b o hb e=>(sb.2 b hb).trans e) f0 f1 f3 f4 f5;obtain⟨o,e,c,d⟩:=id st';exact⟨u,rfl,yX (s:={s with heap:=h'}) e c d (by decide) ⟨x,H,I1,ru,⟨rfl,fun ys hy=>by rw[I.list_inj hy hq];exact hx⟩,st',fun b hb=>(hf b hb).1⟩⟩
 done:=by intro X hP hw hK hc i pz s σ H E I hf st hg;subst hP hw hK;obtain⟨xs,hq,hx⟩:=hg;obtain⟨its,rv,p,hz⟩:=I.list hq;obtain⟨f0,f1,f2,f3,f4,f5⟩:=hf it (by simp);have hl:=rv.length;exact wpAny_pyNext_list_end (I.ok.hd hc) st p.isList (by simp;lia) fun h' eb=>⟨rfl,I.turned (t':=s.toks) (fun b o hb e=>eb b o hb e) f0 f1 f3 f4 f5⟩
 self:=fun _ _ _ _ _ st h=>wpAny_pyIter_listiter st h
theorem yY {P:Zu} {w:Zv} {K:Zp} {tg:Zr} (a it:Zx):B4 P w K tg (Itt K a) [it] it (fun i h=>h.IsTupleIter it a i) where
 mem:=by simp
 obj:=fun i h st b hb=>by
  have e:b=it:=by simpa using hb
  subst e;obtain⟨o,e,c,d⟩:=st;exact⟨o,e,fun v z=>by rw[d]at z;cases z⟩
 keep:=fun i h h' st k=>st.at fun o e=>k it (by simp) o e
 item:=by intro X hP hw hK hc i pz s σ H E I hf st hg;subst hP hw hK;obtain⟨xs,x,hq,hx⟩:=hg;obtain⟨its,rv,p,hz⟩:=I.tuple hq;obtain⟨u,hu,ru⟩:=rv.get hx;obtain⟨f0,f1,f2,f3,f4,f5⟩:=hf it (by simp);refine wpAny_pyNext_tuple_item st (show s.heap.IsTuple a its.toArray from p) (x:=u) (by simpa using hu) fun h' st' sb=>?_;have I1:Inv X pz σ H {s with heap:=h'}:=I.turned (t':=s.toks) (fun b o hb e=>(sb.2 b hb).trans e) f0 f1 f3 f4 f5;obtain⟨o,e,c,d⟩:=id st';exact⟨u,rfl,yX (s:={s with heap:=h'}) e c d (by decide) ⟨x,H,I1,ru,⟨rfl,fun ys hy=>by rw[I.tuple_inj hy hq];exact hx⟩,st',fun b hb=>(hf b hb).1⟩⟩
 done:=by intro X hP hw hK hc i pz s σ H E I hf st hg;subst hP hw hK;obtain⟨xs,hq,hx⟩:=hg;obtain⟨its,rv,p,hz⟩:=I.tuple hq;obtain⟨f0,f1,f2,f3,f4,f5⟩:=hf it (by simp);have hl:=rv.length;exact wpAny_pyNext_tuple_end (I.ok.hd hc) st (show s.heap.IsTuple a its.toArray from p) (by simp;lia) fun h' eb=>⟨rfl,I.turned (t':=s.toks) (fun b o hb e=>eb b o hb e) f0 f1 f3 f4 f5⟩
 self:=fun _ _ _ _ _ st h=>wpAny_pyIter_tupleiter st h
theorem yZ {P:Zu} {w:Zv} {K:Zp} {tg:Zr} (it:Zx) (lo:Int) (n:Nat):B4 P w K tg (Itr lo n) [it] it (fun i h=>IsRangeIter h it (lo+(i:Nat)*1) ((n:Int)-(i:Nat)) 1) where
 mem:=by simp
 obj:=fun i h st b hb=>by
  have e:b=it:=by simpa using hb
  subst e;exact⟨_,st,fun v z=>by have z':Data.fields _=Data.cell v:=z;cases z'⟩
 keep:=fun i h h' st k=>k it (by simp) _ st
 item:=by intro X hP hw hK hc i pz s σ H E I hf st hg;subst hP hw hK;obtain⟨f0,f1,f2,f3,f4,f5⟩:=hf it (by simp);have W:=Walks.range (prog:=X.prog) (w:=X.w) (I.ok.hd hc) it lo 1 n;refine W.item i s _ _ hg st fun v h' tk hv st' kk=>?_;obtain⟨t,rfl⟩:=hv;have I1:Inv X pz σ H {s with heap:=h',toks:=tk}:=I.turned (fun b o hb e=>kk b o (by simpa using hb) e) f0 f1 f3 f4 f5;refine⟨_,rfl,yX (s:={s with heap:=h',toks:=tk}) (n:="range_iterator") st' rfl rfl (by decide) ⟨.int (lo+i),H,I1,⟨t,?_⟩,⟨rfl,rfl⟩,st',fun b hb=>(hf b hb).1⟩⟩;rw[Int.mul_one]
 done:=by intro X hP hw hK hc i pz s σ H E I hf st hg;subst hP hw hK;obtain⟨f0,f1,f2,f3,f4,f5⟩:=hf it (by simp);exact wpAny_pyNext_range_end (I.ok.hd hc) st (by have:n<=i:=hg;lia) fun h' eb=>⟨rfl,I.turned (t':=s.toks) (fun b o hb e=>eb b o hb e) f0 f1 f3 f4 f5⟩
 self:=fun _ _ _ _ _ st h=>wpAny_pyIter_rangeiter st h
section
variable {X:Cx} {tg:Zr}
def HW (K:Zp) (tl:TE):TI:=fun σ H R=>tl σ H fun x H1=>∃a,x= .ref a/\(∃xs,SqL K H1 a xs)/\R (Itl K a) H1
def iTup (K:Zp) (tl:TE):TI:=fun σ H R=>tl σ H fun x H1=>∃a,x= .ref a/\(∃xs,SqT K H1 a xs)/\R (Itt K a) H1
theorem jq {l:Zr} {tl:TE} (hl:PE X l tl):PI X tg l (HW X.K tl):=by
 intro pz s σ H R I h;refine thn (hl pz s σ H _ I h) ?_;rintro v s1 ⟨x,H1,I1,r1,q1⟩;obtain⟨a,e,⟨xs,hq⟩,q⟩:=q1;subst e;cases r1;obtain⟨its,rv,p,hz⟩:=I1.list hq;refine wpAny_pyIter_list p.isList ?_;refine⟨s1.heap.objs.size,[s1.heap.objs.size],_,_,H1,rfl,I1.kept (t':=s1.toks) fun b o e=>fS _ e,zR a _,⟨_,fQ _ rfl,rfl,rfl⟩,fun b hb=>?_,q⟩;have e:b=s1.heap.objs.size:=by simpa using hb
 subst e;exact I1.fpOk (cW _) (I1.hok.fresh (cW _))
theorem qF {l:Zr} {tl:TE} (hl:PE X l tl):PI X tg l (iTup X.K tl):=by
 intro pz s σ H R I h;refine thn (hl pz s σ H _ I h) ?_;rintro v s1 ⟨x,H1,I1,r1,q1⟩;obtain⟨a,e,⟨xs,hq⟩,q⟩:=q1;subst e;cases r1;obtain⟨its,rv,p,hz⟩:=I1.tuple hq;refine wpAny_pyIter_tuple (show s1.heap.IsTuple a its.toArray from p) ?_;refine⟨s1.heap.objs.size,[s1.heap.objs.size],_,_,H1,rfl,I1.kept (t':=s1.toks) fun b o e=>fS _ e,yY a _,⟨_,fQ _ rfl,rfl,rfl⟩,fun b hb=>?_,q⟩;have e:b=s1.heap.objs.size:=by simpa using hb
 subst e;exact I1.fpOk (cW _) (I1.hok.fresh (cW _))
theorem B5 {pz:Za} {σ:St} {H:Hp} {s:Zy} {R:It->Hp->Prop} {E:Zb} {lo hi:Int} {t u v:Tok} {tk:Nat} (I:Inv X pz σ H s) (h1: -(2^62)<=lo) (h2:lo<2^62) (h3: -(2^62)<=hi) (h4:hi<2^62)
  (q:R (Itr lo (hi-lo).toNat) H):wpAny (model X.prog X.w) X.A (pyIter (.ref s.heap.objs.size)) (PIE X pz σ tg R) E {s with heap:=s.heap.push {cls:= .type "range",data:= .fields #[.int lo t,.int hi u,.int 1 v]},toks:=tk}:=by
 refine wpAny_pyIter_range (IsRange.new ..) (small_one h1 h2 h3 h4) ?_;have I1:Inv X pz σ H {s with heap:=s.heap.push {cls:= .type "range",data:= .fields #[.int lo t,.int hi u,.int 1 v]},toks:=tk}:=I.kept fun b o e=>fS _ e;refine⟨(s.heap.push {cls:= .type "range",data:= .fields #[.int lo t,.int hi u,.int 1 v]}).objs.size,[(s.heap.push {cls:= .type "range",data:= .fields #[.int lo t,.int hi u,.int 1 v]}).objs.size],_,_,H,rfl,
  I1.kept (t':=tk) fun b o e=>fS _ e,yZ _ lo (hi-lo).toNat,?_,fun b hb=>?_,q⟩
 ·have e1:lo+((0:Nat):Int)*1=lo:=by simp
  have e2:(((hi-lo).toNat:Nat):Int)-((0:Nat):Int)=Builtin.Range.rangeSize lo hi 1:=by rw[rangeSize_one];split<;>lia
  show IsRangeIter _ _ (lo+((0:Nat):Int)*1) ((((hi-lo).toNat:Nat):Int)-((0:Nat):Int)) 1;rw[e1,e2];exact fQ _ rfl
 ·have e:b=(s.heap.push {cls:= .type "range",data:= .fields #[.int lo t,.int hi u,.int 1 v]}).objs.size:=by simpa using hb
  subst e;exact I1.fpOk (cW _) (I1.hok.fresh (cW _))
def HX (ta:TA):TI:=fun σ H R=>ta σ H fun vs H1=>∃j:Int,vs=[.int j]/\-(2^62)<=j/\j<2^62/\R (Itr 0 j.toNat) H1
theorem ku {a:Zr} {ta:TA} {p pos:Pos} (hg:Gl X "range") (hm:X.mg "range"=none) (ha:PA X [a] ta) (hs:autoParam (starEach [a] X.env=[(false,eval a X.env)]) auR._auto_1):PI X tg (.Call (.Name "range" p) [a] [] pos) (HX ta):=by
 intro pz s σ H R I h;refine Call_ (nA I hg hm boot_range (fX (thn (ha pos pz s σ H _ I h) ?_) hs rfl));rintro us s1 ⟨vs,H1,I1,r1,q1⟩;obtain⟨j,e,q1,q2,q⟩:=q1;subst e
 cases r1 with
 |cons r rr=>cases rr;obtain⟨t,rfl⟩:=r;exact call_range_1 (B5 I1 (by lia) (by lia) q1 q2 (by simpa using q))
def tFor (wi:TI) (g:TG) (tb:TS):TS:=fun D σ H=>wi σ H fun J H1=>∃W:Nat->Nat->St->Hp->Prop,(∃m,W 0 m σ H1)/\∀i m σ H,W i m σ H->
 (J.stop i H/\D.nx σ H)\/(J.go i H/\∃N:St->Hp->Prop,(∀σ' H',N σ' H'->∃m',m'<m/\W (i+ 1) m' σ' H')/\∀x H',J.yld i H x H'->g x σ H' fun σ2 H2=>tb {D with nx:=N,ct:=N,bk:=D.nx} σ2 H2)
def qG (fp:List Zx) (h:Zt):Za:=fp.filterMap fun b=>(h.get? b).map fun o=>(b,o)
theorem jI {fp:List Zx} {h:Zt} {b:Zx} {o:Obj} (hb:b∈fp) (e:h.get? b=some o):(b,o)∈qG fp h:=List.mem_filterMap.mpr ⟨b,hb,by rw[e];rfl⟩
theorem zS {fp:List Zx} {h:Zt} {p:Zx×Obj} (hp:p∈qG fp h):p.1∈fp/\h.get? p.1=some p.2:=by
 obtain⟨b,hb,e⟩:=List.mem_filterMap.mp hp
 cases q:h.get? b with
 |none=>rw[q]at e;cases e
 |some o=>rw[q]at e;have e':(b,o)=p:=dE.inj e;subst e';exact⟨hb,q⟩
theorem Inv.pinned {pz:Za} {σ:St} {H:Hp} {s:Zy} {fp:List Zx} (I:Inv X pz σ H s) (hf:∀b∈fp,uS X pz H b) (ho:∀b∈fp,∃o,s.heap.get? b=some o/\∀v,o.data≠ .cell v):Inv X (pz++qG fp s.heap) σ H s:=
 I.pins_of fun p hp=>(ao.mp hp).elim (fun z=>I.pin p (az _ z)) fun z=>by obtain⟨hb,e⟩:=zS z;obtain⟨f0,f1,f2,_⟩:=hf p.1 hb;obtain⟨o,e',d⟩:=ho p.1 hb;rw[e]at e';cases e';exact⟨e,f0,f1,f2,d⟩
theorem Inv.unpinned {pz pl:Za} {σ:St} {H:Hp} {s:Zy} (I:Inv X (pz++pl) σ H s):Inv X pz σ H s:=I.pins_of fun p hp=>I.pin p (az _ (aq _ hp))
theorem jb {iter:Zr} {body:List Zq} {wi:TI} {g:TG} {tb:TS} {pos:Pos} (hp:PassesOwn (model X.prog X.w) X.A X.env X.xe) (hc:X.calm=true) (hi:PI X tg iter wi) (hg:PG X tg g) (hb:PSs X body tb)
  (hs:autoParam (∀x,foldedSetIterable iter X.env x=pure x) auI._auto_1):PS X (.For tg iter body [] pos) (tFor wi g tb):=by
 intro pz s σ H D I h;refine wpAny_For (thn (hi pz s σ H _ I h) fun v s1 h1=>thn h1 fun itv s2 h2=>?_) hs;obtain⟨it,fp,tn,J,H2,e,I2,T,st2,f2,W,⟨m0,w0⟩,turn⟩:=h2;subst e;have stat:∀{H':Hp},(∀b∈fp,H' b=none)->∀b∈fp,uS X pz H' b:=fun hn b hb=>⟨hn b hb,(f2 b hb).2⟩;refine codeAny_forLoop_any (fun n s'=>∃i σ' H',Inv X pz σ' H' s'/\tn i s'.heap/\(∀b∈fp,H' b=none)/\W i n σ' H') ?_ m0 ⟨0,σ,H2,I2,st2,fun b hb=>(f2 b hb).1,w0⟩;rintro n s3 ⟨i,σ3,H3,I3,st3,fr3,w3⟩;rcases turn i n σ3 H3 w3 with⟨stop,qn⟩|⟨go,N,hN,step⟩;·refine wpAny_passesOwn hp (thn (T.done X rfl rfl rfl hc i pz s3 σ3 H3 X.xe I3 (stat fr3) st3 stop) fun r s4 ⟨hr,I4⟩=>?_);subst hr;exact wpAny_execs_nil ⟨σ3,H3,I4,qn⟩
 ·refine wpAny_passesOwn hp (thn (T.item X rfl rfl rfl hc i pz s3 σ3 H3 X.xe I3 (stat fr3) st3 go) ?_);rintro r s4 ⟨u,rfl,h4⟩;refine wpAny_passesOwn hp (thn h4 ?_);rintro _ s5 ⟨x,H5,I5,r5,y5,st5,fr5⟩;have I5':=I5.pinned (stat fr5) (T.obj _ _ st5);refine wpAny_passesOwn hp (thn (hg _ s5 σ3 H5 x u _ I5' r5 (step x H5 y5)) ?_);rintro _ s6 ⟨σ6,H6,I6,q6⟩;refine wpAny_passesOwn hp (thn (hb _ s6 σ6 H6 _ I6 q6) fun f s7 q7=>?_);have again:∀{σ7:St} {H7:Hp},Inv X (pz++qG fp s5.heap) σ7 H7 s7->N σ7 H7->∃m,m<n/\∃i σ' H',Inv X pz σ' H' s7/\tn i s7.heap/\(∀b∈fp,H' b=none)/\W i m σ' H':=fun{σ7 H7} I7 n7=>by obtain⟨m',hm,w7⟩:=hN σ7 H7 n7;refine⟨m',hm,i+ 1,σ7,H7,I7.unpinned,T.keep _ _ _ st5 fun b hb o e=>(I7.pin (b,o) (az _ (az _ (jI hb e)))).1,fun b hb=>?_,w7⟩;obtain⟨o,e,d⟩:=T.obj _ _ st5 b hb;exact(I7.pin (b,o) (az _ (az _ (jI hb e)))).2.1
  cases f with
  |next=>obtain⟨σ7,H7,I7,n7⟩:=q7;exact again I7 n7
  |cont=>obtain⟨σ7,H7,I7,n7⟩:=q7;exact again I7 n7
  |brk=>obtain⟨σ7,H7,I7,q7⟩:=q7;exact⟨σ7,H7,I7.unpinned,q7⟩
  |ret v=>obtain⟨x7,σ7,H7,I7,r7,q7⟩:=q7;exact⟨x7,σ7,H7,I7.unpinned,r7,q7⟩
end
theorem jE {K:Zp} {a:Zx} {xs:List V} {g:TG} {tb:TS} {D:rO} {σ:St} {H:Hp} (Pv:Nat->St->Hp->Prop) (h0:Pv 0 σ H) (hl:∀i σ H,i<=xs.length->Pv i σ H->SqL K H a xs)
  (hs:∀i x σ H,xs[i]?=some x->Pv i σ H->g x σ H fun σ2 H2=>tb {D with nx:=Pv (i+ 1),ct:=Pv (i+ 1),bk:=D.nx} σ2 H2) (hd:∀σ H,Pv xs.length σ H->D.nx σ H):
  ∃W:Nat->Nat->St->Hp->Prop,(∃m,W 0 m σ H)/\∀i m σ H,W i m σ H->
   ((Itl K a).stop i H/\D.nx σ H)\/((Itl K a).go i H/\∃N:St->Hp->Prop,(∀σ' H',N σ' H'->∃m',m'<m/\W (i+ 1) m' σ' H')/\∀x H',(Itl K a).yld i H x H'->g x σ H' fun σ2 H2=>tb {D with nx:=N,ct:=N,bk:=D.nx} σ2 H2):=by
 refine⟨fun i m σ H=>m=xs.length-i/\i<=xs.length/\Pv i σ H,⟨xs.length,by simp,cX _,h0⟩,?_⟩;rintro i m σ H ⟨rfl,hi,p⟩;have q:=hl i σ H hi p;by_cases hlt:i<xs.length;·refine .inr ⟨⟨xs,xs[i],q,by simp[hlt]⟩,Pv (i+ 1),fun σ' H' p'=>⟨xs.length-(i+ 1),by lia,rfl,hlt,p'⟩,fun x H' y=>?_⟩;obtain⟨e,y⟩:=y;subst e;exact hs i x σ _ (y xs q) p
 ·have e:i=xs.length:=by lia
  subst e;exact .inl ⟨⟨xs,q,cW _⟩,hd σ H p⟩
theorem wB {K:Zp} {a:Zx} {xs:List V} {g:TG} {tb:TS} {D:rO} {σ:St} {H:Hp} (Pv:Nat->St->Hp->Prop) (h0:Pv 0 σ H) (hl:∀i σ H,i<=xs.length->Pv i σ H->SqT K H a xs)
  (hs:∀i x σ H,xs[i]?=some x->Pv i σ H->g x σ H fun σ2 H2=>tb {D with nx:=Pv (i+ 1),ct:=Pv (i+ 1),bk:=D.nx} σ2 H2) (hd:∀σ H,Pv xs.length σ H->D.nx σ H):
  ∃W:Nat->Nat->St->Hp->Prop,(∃m,W 0 m σ H)/\∀i m σ H,W i m σ H->
   ((Itt K a).stop i H/\D.nx σ H)\/((Itt K a).go i H/\∃N:St->Hp->Prop,(∀σ' H',N σ' H'->∃m',m'<m/\W (i+ 1) m' σ' H')/\∀x H',(Itt K a).yld i H x H'->g x σ H' fun σ2 H2=>tb {D with nx:=N,ct:=N,bk:=D.nx} σ2 H2):=by
 refine⟨fun i m σ H=>m=xs.length-i/\i<=xs.length/\Pv i σ H,⟨xs.length,by simp,cX _,h0⟩,?_⟩;rintro i m σ H ⟨rfl,hi,p⟩;have q:=hl i σ H hi p;by_cases hlt:i<xs.length;·refine .inr ⟨⟨xs,xs[i],q,by simp[hlt]⟩,Pv (i+ 1),fun σ' H' p'=>⟨xs.length-(i+ 1),by lia,rfl,hlt,p'⟩,fun x H' y=>?_⟩;obtain⟨e,y⟩:=y;subst e;exact hs i x σ _ (y xs q) p
 ·have e:i=xs.length:=by lia
  subst e;exact .inl ⟨⟨xs,q,cW _⟩,hd σ H p⟩
theorem mw {lo:Int} {n:Nat} {g:TG} {tb:TS} {D:rO} {σ:St} {H:Hp} (Pv:Nat->St->Hp->Prop) (h0:Pv 0 σ H)
  (hs:∀i σ H,i<n->Pv i σ H->g (.int (lo+i)) σ H fun σ2 H2=>tb {D with nx:=Pv (i+ 1),ct:=Pv (i+ 1),bk:=D.nx} σ2 H2) (hd:∀σ H,Pv n σ H->D.nx σ H):
  ∃W:Nat->Nat->St->Hp->Prop,(∃m,W 0 m σ H)/\∀i m σ H,W i m σ H->
   ((Itr lo n).stop i H/\D.nx σ H)\/((Itr lo n).go i H/\∃N:St->Hp->Prop,(∀σ' H',N σ' H'->∃m',m'<m/\W (i+ 1) m' σ' H')/\∀x H',(Itr lo n).yld i H x H'->g x σ H' fun σ2 H2=>tb {D with nx:=N,ct:=N,bk:=D.nx} σ2 H2):=by
 refine⟨fun i m σ H=>m=n-i/\i<=n/\Pv i σ H,⟨n,by simp,cX _,h0⟩,?_⟩;rintro i m σ H ⟨rfl,hi,p⟩;by_cases hlt:i<n;·refine .inr ⟨hlt,Pv (i+ 1),fun σ' H' p'=>⟨n-(i+ 1),by lia,rfl,hlt,p'⟩,fun x H' y=>?_⟩;obtain⟨e,y⟩:=y;subst e y;exact hs i σ _ hlt p
 ·have e:i=n:=by lia
  subst e;exact .inl ⟨cW _,hd σ H p⟩
abbrev R2:=V->V->Hp->VK->Prop
def OpR (X:Cx) (f:Zz->Zz->Sem Zz) (r:R2):Prop:=
 ∀(pz:Za) (s:Zy) (σ:St) (H:Hp) (x y:V) (v u:Zz) (Q:VK),Inv X pz σ H s->iQ x v->iQ y u->r x y H Q->
  wpAny (model X.prog X.w) X.A (f v u) (EP X pz σ Q) X.xe s
def UnR (X:Cx) (f:Zz->Sem Zz) (r:V->Hp->VK->Prop):Prop:=
 ∀(pz:Za) (s:Zy) (σ:St) (H:Hp) (x:V) (v:Zz) (Q:VK),Inv X pz σ H s->iQ x v->r x H Q->
  wpAny (model X.prog X.w) X.A (f v) (EP X pz σ Q) X.xe s
def ny (X:Cx) (f:Zz) (r:List V->Hp->VK->Prop):Prop:=
 ∀(pz:Za) (s:Zy) (σ:St) (H:Hp) (xs:List V) (us:List Zz) (Q:VK),Inv X pz σ H s->iU xs us->r xs H Q->
  wpAny (model X.prog X.w) X.A (call f us) (EP X pz σ Q) X.xe s
def tOp (r:R2) (ta tb:TE):TE:=fun σ H Q=>ta σ H fun x H1=>tb σ H1 fun y H2=>r x y H2 Q
def tUn (r:V->Hp->VK->Prop) (ta:TE):TE:=fun σ H Q=>ta σ H fun x H1=>r x H1 Q
def rI (C:Int->Int->Prop) (g:Int->Int->V):R2:=fun x y H Q=>∃i j,x= .int i/\y= .int j/\C i j/\Q (g i j) H
def rI0 (g:Int->Int->V):R2:=fun x y H Q=>∃i j,x= .int i/\y= .int j/\Q (g i j) H
def rU (g:Int->V):V->Hp->VK->Prop:=fun x H Q=>∃i,x= .int i/\Q (g i) H
section
variable {X:Cx} {a b c:Zr} {ta tb tc:TE} {pos:Pos}
theorem HY (ha:PE X a ta) (hb:PE X b tb) {pz:Za} {s:Zy} {σ:St} {H:Hp} {R:V->V->Hp->Prop} (I:Inv X pz σ H s)
  (h:ta σ H fun x H1=>tb σ H1 fun y H2=>R x y H2) {Q:Zb} {f:Zz->Zz->Sem Zz}
  (hf:∀v u s2 x y H2,Inv X pz σ H2 s2->iQ x v->iQ y u->R x y H2->wpAny (model X.prog X.w) X.A (f v u) Q X.xe s2):
  wpAny (model X.prog X.w) X.A (eval a X.env) (fun v s₁=>wpAny (model X.prog X.w) X.A (eval b X.env) (fun u s₂=>wpAny (model X.prog X.w) X.A (f v u) Q X.xe s₂) X.xe s₁) X.xe s:=by refine thn (ha pz s σ H _ I h) ?_;rintro v s1 ⟨x,H1,I1,r1,q1⟩;refine thn (hb pz s1 σ H1 _ I1 q1) ?_;rintro u s2 ⟨y,H2,I2,r2,q2⟩;exact hf v u s2 x y H2 I2 r1 r2 q2
theorem gX {op:Operator} {r:R2} (ho:OpR X (binaryOp op) r) (ha:PE X a ta) (hb:PE X b tb):PE X (.BinOp a op b pos) (tOp r ta tb):=by intro pz s σ H Q I h;exact wpAny_BinOp (HY ha hb I h fun v u s2 x y H2 I2 rx ry q=>ho pz s2 σ H2 x y v u Q I2 rx ry q)
theorem y0 {op:UnaryOp} {r:V->Hp->VK->Prop} (ho:UnR X (unaryOp op) r) (ha:PE X a ta):PE X (.UnaryOp op a pos) (tUn r ta):=by intro pz s σ H Q I h;exact UnaryOp_ (thn (ha pz s σ H _ I h) fun v s1 ⟨x,H1,I1,r1,q1⟩=>ho pz s1 σ H1 x v Q I1 r1 q1)
theorem opI {f:Zz->Zz->Sem Zz} {C:Int->Int->Prop} {g:Int->Int->Int}
  (rule:∀(i j:Int) (t u:Tok) (s:Zy) (Q:Zb) (E:Zb),C i j->Q (.int (g i j) s.toks) {s with toks:=s.toks+ 1}->wpAny (model X.prog X.w) X.A (f (.int i t) (.int j u)) Q E s):
  OpR X f (rI C fun i j=> .int (g i j)):=by intro pz s σ H x y v u Q I rx ry h;obtain⟨i,j,rfl,rfl,hc,q⟩:=h;obtain⟨t,rfl⟩:=rx;obtain⟨t',rfl⟩:=ry;exact rule i j t t' s _ _ hc ⟨.int (g i j),H,I.tok _,⟨_,rfl⟩,q⟩
theorem JC {f:Zz->Zz->Sem Zz} {g:Int->Int->Int}
  (rule:∀(i j:Int) (t u:Tok) (s:Zy) (Q:Zb) (E:Zb),Q (.int (g i j) s.toks) {s with toks:=s.toks+ 1}->wpAny (model X.prog X.w) X.A (f (.int i t) (.int j u)) Q E s):
  OpR X f (rI0 fun i j=> .int (g i j)):=by intro pz s σ H x y v u Q I rx ry h;obtain⟨i,j,rfl,rfl,q⟩:=h;obtain⟨t,rfl⟩:=rx;obtain⟨t',rfl⟩:=ry;exact rule i j t t' s _ _ ⟨.int (g i j),H,I.tok _,⟨_,rfl⟩,q⟩
theorem HG {f:Zz->Zz->Sem Zz} {g:Int->Int->Bool}
  (rule:∀(i j:Int) (t u:Tok) (s:Zy) (Q:Zb) (E:Zb),Q (.bool (g i j)) s->wpAny (model X.prog X.w) X.A (f (.int i t) (.int j u)) Q E s):
  OpR X f (rI0 fun i j=> .bl (g i j)):=by intro pz s σ H x y v u Q I rx ry h;obtain⟨i,j,rfl,rfl,q⟩:=h;obtain⟨t,rfl⟩:=rx;obtain⟨t',rfl⟩:=ry;exact rule i j t t' s _ _ ⟨.bl (g i j),H,I,rfl,q⟩
def HZ (i j:Int):Prop:=0<j/\j<1073741824
def JD (i j:Int):Prop:=0<=j/\j<=1000000/\i.natAbs<2^64
theorem CU:OpR X (binaryOp .Add) (rI0 fun i j=> .int (i+j)):=JC fun _ _ _ _ _ _ _ q=>add_int q
theorem FY:OpR X (binaryOp .Sub) (rI0 fun i j=> .int (i-j)):=JC fun _ _ _ _ _ _ _ q=>sub_int q
theorem D6:OpR X (binaryOp .FloorDiv) (rI HZ fun i j=> .int (i/j)):=opI fun i j _ _ _ _ _ hc q=>by have h1:(0:Int)<j:=hc.1;have h2:j<1073741824:=hc.2;exact floordiv_int (by lia) (by rw[Int.fdiv_eq_ediv_of_nonneg i (by lia)];exact q) (.inl (PyProof.noPylong_small (by lia)))
theorem FZ:OpR X (binaryOp .Mod) (rI (fun _ j=>0<j) fun i j=> .int (i%j)):=opI fun i j _ _ _ _ _ hc q=>by have h1:(0:Int)<j:=hc;exact mod_int' (by lia) (by rw[Int.fmod_eq_emod_of_nonneg i (by lia)];exact q)
theorem F0:OpR X (binaryOp .Pow) (rI JD fun i j=> .int (i^j.toNat)):=opI fun _ _ _ _ _ _ _ hc q=>pow_int_small hc.1 hc.2.1 hc.2.2 q
theorem unI {f:Zz->Sem Zz} {g:Int->Int}
  (rule:∀(i:Int) (t:Tok) (s:Zy) (Q:Zb) (E:Zb),Q (.int (g i) s.toks) {s with toks:=s.toks+ 1}->wpAny (model X.prog X.w) X.A (f (.int i t)) Q E s):
  UnR X f (rU fun i=> .int (g i)):=by intro pz s σ H x v Q I rx h;obtain⟨i,rfl,q⟩:=h;obtain⟨t,rfl⟩:=rx;exact rule i t s _ _ ⟨.int (g i),H,I.tok _,⟨_,rfl⟩,q⟩
theorem sq:UnR X (unaryOp .USub) (rU fun i=> .int (-i)):=unI fun _ _ _ _ _ q=>neg_int q
end
def JE:V->V->Bool
 | .non,.non=>true| .non,.int _=>true| .int _,.non=>true| .non,.bl _=>true| .bl _,.non=>true| .non,.str _=>true| .str _,.non=>true
 | .int _,.int _=>true| .bl _,.bl _=>true| .str _,.str _=>true| .byt _,.byt _=>true
 | .int _,.str _=>true| .str _,.int _=>true| .bl _,.str _=>true| .str _,.bl _=>true
 |_,_=>false
def rEq:R2:=fun x y H Q=>JE x y=true/\Q (.bl (decide (x=y))) H
def rNe:R2:=fun x y H Q=>JE x y=true/\Q (.bl (!decide (x=y))) H
theorem zT {i j:Int}:decide (V.int i=V.int j)=(i==j):=by rw[fw];simp
theorem CV {i j:Bool}:decide (V.bl i=V.bl j)=(i==j):=by rw[fw];simp
theorem zU {i j:Str}:decide (V.str i=V.str j)=(i==j):=by rw[fw];simp
theorem zV {i j:Array UInt8}:decide (V.byt i=V.byt j)=(i.toList==j.toList):=by rw[fw];cases i;cases j;simp
section
variable {X:Cx} {a b c:Zr} {ta tb tc:TE} {pos:Pos}
theorem iK {pz:Za} {σ:St} {H:Hp} {s:Zy} {Q:VK} {k k':Bool} (I:Inv X pz σ H s) (q:Q (.bl k) H) (e:k=k'):EP X pz σ Q (.bool k') s:=by subst e;exact⟨.bl k,H,I,rfl,q⟩
theorem tj:OpR X (compareOp .Eq) rEq:=by
 intro pz s σ H x y v u Q I rx ry h;obtain⟨hs,q⟩:=h
 cases x with
 |non=>
  cases rx
  cases y with
  |non=>cases ry;exact PySem.EqNone.eq_none_none (iK I q (by simp))
  |bl j=>cases ry;exact PySem.EqNone.eq_none_bool (iK I q (by simp))
  |int j=>obtain⟨t',rfl⟩:=ry;exact PySem.EqNone.eq_none_int (iK I q (by simp))
  |str j=>obtain⟨t',rfl⟩:=ry;exact PySem.EqNone.eq_none_str (iK I q (by simp))
  |_=>exact absurd (show false=true from hs) fu
 |bl i=>
  cases rx
  cases y with
  |non=>cases ry;exact PySem.EqNone.eq_bool_none (iK I q (by simp))
  |bl j=>cases ry;exact eq_bool (iK I q CV)
  |str j=>obtain⟨t',rfl⟩:=ry;exact PySem.EqMixed.eq_bool_str (iK I q (by simp))
  |_=>exact absurd (show false=true from hs) fu
 |int i=>
  obtain⟨t,rfl⟩:=rx
  cases y with
  |non=>cases ry;exact PySem.EqNone.eq_int_none (iK I q (by simp))
  |int j=>obtain⟨t',rfl⟩:=ry;exact eq_int (iK I q zT)
  |str j=>obtain⟨t',rfl⟩:=ry;exact PySem.EqMixed.eq_int_str (iK I q (by simp))
  |_=>exact absurd (show false=true from hs) fu
 |str i=>
  obtain⟨t,rfl⟩:=rx
  cases y with
  |non=>cases ry;exact PySem.EqNone.eq_str_none (iK I q (by simp))
  |bl j=>cases ry;exact PySem.EqMixed.eq_str_bool (iK I q (by simp))
  |int j=>obtain⟨t',rfl⟩:=ry;exact PySem.EqMixed.eq_str_int (iK I q (by simp))
  |str j=>obtain⟨t',rfl⟩:=ry;exact eq_str (iK I q zU)
  |_=>exact absurd (show false=true from hs) fu
 |byt i=>
  obtain⟨t,rfl⟩:=rx
  cases y with
  |byt j=>obtain⟨t',rfl⟩:=ry;exact PySem.W.eq_bytes (iK I q zV)
  |_=>exact absurd (show false=true from hs) fu
 |_=>cases y<;>exact absurd (show false=true from hs) fu
theorem oz:OpR X (compareOp .NotEq) rNe:=by
 intro pz s σ H x y v u Q I rx ry h;obtain⟨hs,q⟩:=h
 cases x with
 |non=>
  cases rx
  cases y with
  |non=>cases ry;exact PySem.EqNone.ne_none_none (iK I q (by simp))
  |bl j=>cases ry;exact PySem.EqNone.ne_none_bool (iK I q (by simp))
  |int j=>obtain⟨t',rfl⟩:=ry;exact PySem.EqNone.ne_none_int (iK I q (by simp))
  |str j=>obtain⟨t',rfl⟩:=ry;exact PySem.EqNone.ne_none_str (iK I q (by simp))
  |_=>exact absurd (show false=true from hs) fu
 |bl i=>
  cases rx
  cases y with
  |non=>cases ry;exact PySem.EqNone.ne_bool_none (iK I q (by simp))
  |bl j=>cases ry;exact ne_bool (iK I q (congrArg not CV))
  |str j=>obtain⟨t',rfl⟩:=ry;exact PySem.EqMixed.ne_bool_str (iK I q (by simp))
  |_=>exact absurd (show false=true from hs) fu
 |int i=>
  obtain⟨t,rfl⟩:=rx
  cases y with
  |non=>cases ry;exact PySem.EqNone.ne_int_none (iK I q (by simp))
  |int j=>obtain⟨t',rfl⟩:=ry;exact ne_int (iK I q (congrArg not zT))
  |str j=>obtain⟨t',rfl⟩:=ry;exact PySem.EqMixed.ne_int_str (iK I q (by simp))
  |_=>exact absurd (show false=true from hs) fu
 |str i=>
  obtain⟨t,rfl⟩:=rx
  cases y with
  |non=>cases ry;exact PySem.EqNone.ne_str_none (iK I q (by simp))
  |bl j=>cases ry;exact PySem.EqMixed.ne_str_bool (iK I q (by simp))
  |int j=>obtain⟨t',rfl⟩:=ry;exact PySem.EqMixed.ne_str_int (iK I q (by simp))
  |str j=>obtain⟨t',rfl⟩:=ry;exact ne_str (iK I q (congrArg not zU))
  |_=>exact absurd (show false=true from hs) fu
 |byt i=>
  obtain⟨t,rfl⟩:=rx
  cases y with
  |byt j=>obtain⟨t',rfl⟩:=ry;exact PySem.W.ne_bytes (iK I q (congrArg not zV))
  |_=>exact absurd (show false=true from hs) fu
 |_=>cases y<;>exact absurd (show false=true from hs) fu
theorem Ia:OpR X (compareOp .Lt) (rI0 fun i j=> .bl (decide (i<j))):=HG fun _ _ _ _ _ _ _ q=>lt_int q
theorem y8:OpR X (compareOp .LtE) (rI0 fun i j=> .bl (decide (i<=j))):=HG fun _ _ _ _ _ _ _ q=>le_int q
theorem F9:OpR X (compareOp .Gt) (rI0 fun i j=> .bl (decide (j<i))):=HG fun _ _ _ _ _ _ _ q=>gt_int q
theorem Ib:OpR X (compareOp .GtE) (rI0 fun i j=> .bl (decide (j<=i))):=HG fun _ _ _ _ _ _ _ q=>ge_int q
theorem uV:OpR X (compareOp .In) (fun x y H Q=>∃i j,x= .str i/\y= .str j/\Q (.bl (!(Builtin.Str.occurrences j i 0 j.length 1).isEmpty)) H):=by intro pz s σ H x y v u Q I rx ry h;obtain⟨i,j,rfl,rfl,q⟩:=h;obtain⟨t,rfl⟩:=rx;obtain⟨t',rfl⟩:=ry;exact in_str (iK I q rfl)
theorem zW (b:Zr) {op:CmpOp} (h:autoParam (op≠ .In) auD._auto_1) (h2:autoParam (op≠ .NotIn) auD._auto_1):behindInMarks op b=false:=by
 have e1:(op==CmpOp.In)=false:=by cases op<;>first|rfl|exact absurd rfl h
 have e2:(op==CmpOp.NotIn)=false:=by cases op<;>first|rfl|exact absurd rfl h2
 cases b<;>simp[behindInMarks,e1,e2]
theorem my {op:CmpOp} {r:R2} (ho:OpR X (compareOp op) r) (ha:PE X a ta) (hb:PE X b tb) (hm:behindInMarks op b=false:=by exact zW _):PE X (.Compare a [op] [b] pos) (tOp r ta tb):=by intro pz s σ H Q I h;exact wpAny_Compare1 (HY ha hb I h fun v u s2 x y H2 I2 rx ry q=>ho pz s2 σ H2 x y v u Q I2 rx ry q) hm
def Ga (t:TE):TT:=fun σ H Q=>t σ H fun x H'=>∃k,x= .bl k/\Q k H'
theorem jr {op:CmpOp} {r:R2} (ho:OpR X (compareOp op) r) (ha:PE X a ta) (hb:PE X b tb) (hm:behindInMarks op b=false:=by exact zW _):PT X (.Compare a [op] [b] pos) (Ga (tOp r ta tb)):=by
 intro pz s σ H Q I h;refine wpAny_isTrue_Compare1 (thn (ha pz s σ H _ I h) fun v s1 ⟨x,H1,I1,r1,q1⟩=>thn (hb pz s1 σ H1 _ I1 q1) fun u s2 ⟨y,H2,I2,r2,q2⟩=>
  thn (ho pz s2 σ H2 x y v u _ I2 r1 r2 q2) fun c s3 ⟨z,H3,I3,r3,k,e,q3⟩=>?_) hm;subst e;cases r3;exact wpAny_truthy_bool ⟨H3,I3,q3⟩
def Gb (r r':R2) (ta tb tc:TE):TE:=fun σ H Q=>ta σ H fun x H1=>tb σ H1 fun y H2=>r x y H2 fun z H3=>∃k,z= .bl k/\
 (if k=true then tc σ H3 fun w' H4=>r' y w' H4 Q else Q (.bl false) H3)
theorem tq {op op':CmpOp} {r r':R2} (ho:OpR X (compareOp op) r) (ho':OpR X (compareOp op') r') (ha:PE X a ta) (hb:PE X b tb) (hc:PE X c tc)
  (hm:lastMarks [op,op'] [b,c]=false:=by with_unfolding_all rfl):PT X (.Compare a [op,op'] [b,c] pos) (Ga (Gb r r' ta tb tc)):=by
 intro pz s σ H Q I h;refine isTrue_chain (thn (ha pz s σ H _ I h) fun v s1 ⟨x,H1,I1,r1,q1⟩=>test_link (thn (hb pz s1 σ H1 _ I1 q1) fun u s2 ⟨y,H2,I2,r2,q2⟩=>
  thn (ho pz s2 σ H2 x y v u _ I2 r1 r2 q2) fun d s3 ⟨z,H3,I3,r3,k,e,q3⟩=>?_)) hm;subst e;cases r3;refine wpAny_truthy_bool ?_
 cases k with
 |false=>obtain⟨k',e',q'⟩:=q3;cases e';exact ite_ff ⟨H3,I3,q'⟩
 |true=>refine ite_tt (test_last (thn (hc pz s3 σ H3 _ I3 q3) fun w' s4 ⟨z',H4,I4,r4,q4⟩=>thn (ho' pz s4 σ H4 y z' u w' _ I4 r2 r4 q4) ?_));rintro d' s5 ⟨z2,H5,I5,r5,k2,rfl,q5⟩;cases r5;exact wpAny_truthy_bool ⟨H5,I5,q5⟩
theorem sr:(sizeLine:Nat)<2^63:=by rw[sizeLine_eq];decide
theorem su:OpR X (binaryOp .Add) (fun x y H Q=>∃i j,x= .str i/\y= .str j/\i.length+j.length<=sizeLine/\Q (.str (i++j)) H):=by intro pz s σ H x y v u Q I rx ry h;obtain⟨i,j,rfl,rfl,hz,q⟩:=h;obtain⟨t,rfl⟩:=rx;obtain⟨t',rfl⟩:=ry;exact add_str (fun t' tk=>⟨.str (i++j),H,I.tok _,⟨_,rfl⟩,q⟩) hz
theorem mz {x:V} {us:List Zz} (r:iU [x] us):∃u,us=[u]/\iQ x u:=by
 cases r with
 |cons r1 r2=>cases r2;exact⟨_,rfl,r1⟩
theorem y9 {x y:V} {us:List Zz} (r:iU [x,y] us):∃u w',us=[u,w']/\iQ x u/\iQ y w':=by
 cases r with
 |cons r1 r2=>
  cases r2 with
  |cons r3 r4=>cases r4;exact⟨_,_,rfl,r1,r3⟩
theorem zX (hc:X.calm=true):ny X (.builtin "max") (fun xs H Q=>∃i j,xs=[.int i,.int j]/\Q (.int (if j>i then j else i)) H):=by
 intro pz s σ H xs us Q I r h;obtain⟨i,j,rfl,q⟩:=h;obtain⟨u,w',rfl,⟨t,rfl⟩,⟨t',rfl⟩⟩:=y9 r;refine max_two_ints (I.ok.hd hc) fun h' tk k=>⟨_,H,I.kept k,?_,q⟩;by_cases hj:j>i;·rw[gU hj,gU hj];exact⟨_,rfl⟩
 ·rw[gN hj,gN hj];exact⟨_,rfl⟩
theorem uW (hc:X.calm=true):ny X (.builtin "min") (fun xs H Q=>∃i j,xs=[.int i,.int j]/\Q (.int (if j<i then j else i)) H):=by
 intro pz s σ H xs us Q I r h;obtain⟨i,j,rfl,q⟩:=h;obtain⟨u,w',rfl,⟨t,rfl⟩,⟨t',rfl⟩⟩:=y9 r;refine min_two_ints (I.ok.hd hc) fun h' tk k=>⟨_,H,I.kept k,?_,q⟩;by_cases hj:j<i;·rw[gU hj,gU hj];exact⟨_,rfl⟩
 ·rw[gN hj,gN hj];exact⟨_,rfl⟩
theorem uX:ny X (.type "str") (fun xs H Q=>∃i,xs=[.int i]/\i.natAbs.log2<1920/\Q (.str (toString i)) H):=by intro pz s σ H xs us Q I r h;obtain⟨i,rfl,hz,q⟩:=h;obtain⟨u,rfl,t,rfl⟩:=mz r;exact PySem.P.str_of_int hz ⟨.str _,H,I.tok _,⟨_,rfl⟩,q⟩
end
structure D7 (h:Zt) (x dx C:Zx) (mA:Zc):Prop where
 obj:h.get? x=some (dJ C dx)
 ns:h.Ns1 dx mA
 ne:dx≠x
theorem zY {h:Zt} {dx:Zx} {mA:Zc} (n:h.Ns1 dx mA):∃od,h.get? dx=some od/\∀name,dN name od=some (mA name):=by
 obtain⟨o,es,ep,ho,hd,hk,_,hm⟩:=n;refine⟨o,ho,fun name=>?_⟩;have e:=hm name;unfold nsFind findBy at e;rw[<-Array.find?_toList]at e;unfold dN;rw[hd];dsimp only;split;·rename_i y q;rw[q]at e;exact congrArg some e
 ·rename_i q;rw[q]at e;have a:es.toList.any (·.refKey)=false:=by rw[List.any_eq_false];intro y hy;obtain⟨z,t,hkey⟩:=hk y (Array.mem_toList_iff.mp hy);simp[DictEntry.refKey,hkey]
  have a':¬es.toList.any (·.refKey)=true:=by rw[a];exact fu
  rw[gN a'];exact congrArg some e
theorem D7.look {h:Zt} {x dx C:Zx} {mA:Zc} (I:D7 h x dx C mA):∃od,PySem.W.InstAt h x (dJ C dx) C (some od)/\∀name,dN name od=some (mA name):=
 let⟨od,ho,hl⟩:=zY I.ns
 ⟨od,⟨I.obj,rfl,rfl,ho⟩,hl⟩
section
variable {prog:Zu} {w:Zv} {A:Zw} {E:Zb} {s:Zy} {K:Zp} {x dx C f:Zx} {mA:Zc} {name:Str} {v:Zz}
theorem D8 {expr:Bool} {Q:Zb} (X:K.In s.heap) (I:D7 s.heap x dx C mA) (hg:dO K C name=true) (hh:dP K C=true)
  (ha:dQ K (.ref C) name=some none) (hv:mA name=some v) (hv':PySem.W.handedIn v=true) (h:Q v {s with toks:=s.toks+ 1}):
  wpAny (model prog w) A (getAttr (.ref x) name expr) Q E s:=by obtain⟨od,J,hl⟩:=I.look;exact PySem.W.get_value X J (dR hg).1 (PySem.W.findObj_own hh ha rfl (by rw[hl,hv])) hv' h
theorem B6 {pl:Sem Bool} {Q:Zz×List Zz->Zy->Prop} (X:K.In s.heap) (I:D7 s.heap x dx C mA) (hg:dO K C name=true)
  (hf:dQ K (.ref C) name=some (some (.ref f))) (ht:dS K (.ref f)=true) (hv:mA name=none) (h:Q (.ref f,[.ref x]) s):
  wpAny (model prog w) A (getMethod (.ref x) name pl) Q E s:=by obtain⟨od,J,hl⟩:=I.look;exact PySem.W.method_fn X J (dR hg).1 (dR hg).2 hf (beq_iff_eq.mp ht) (by show(dN name od).map (·.isSome)=some false;rw[hl,hv];rfl) h
theorem D9 {ns:Zd} {Q:Unit->Zy->Prop} (X:K.In s.heap) (I:D7 s.heap x dx C mA)
  (hs:dQ K (.ref C) "__setattr__"=some (some (.builtin "object.__setattr__"))) (hp:dU K C=true) (ht:dW K C name=some none) (hh:dP K C=true)
  (hw:PySem.Within mA ns) (hsz:ns.length<=sizeLine)
  (h:∀h',D7 h' x dx C (fun y=>if y=name then some v else mA y)->Heap.SameBut dx s.heap h'->Q () {s with heap:=h',toks:=s.toks+ 2}):
  wpAny (model prog w) A (setAttr (.ref x) name v) Q E s:=by obtain⟨od,J,hl⟩:=I.look;refine PySem.W.set_plain X J hs (PySem.W.osa_open (s:={s with toks:=s.toks+ 1}) (r:=none) X J hp ht fun b=>?_);obtain⟨cd,hc,hd'⟩:=PySem.W.any_some hh;have hx:s.heap.get? x=some ⟨.ref C,some dx,.plain,#[]⟩:=I.obj;refine wpAny_bind (wpAny_pure (wpAny_bind (wpAny_bind (wpAny_loadPart hx (wpAny_bind (PySem.W.Looks.here (s:={s with toks:=s.toks+ 1}) (PySem.W.looks_clsIn X hc) ?_))))));rw[hd'];refine wpAny_pure (a:=some dx) (wpAny_bind (wpAny_pure (wpAny_bind ?_)));refine wpAny_nsSet1 (s:={s with toks:=s.toks+ 1}) I.ns fun h' hn2 hs2=>?_;obtain⟨oD,esD,epD,hoD,hdD,hcD⟩:=hn2.count (PySem.Within.cons name v hw);refine wpAny_bind (wpAny_lookBehind hoD (by rw[hdD];exact pastItsLine_dict (cQ hcD (by rw[aA];lia))) ?_);exact wpAny_pure (h _ ⟨(hs2.2 _ (Ne.symm I.ne)).trans I.obj,hn2,I.ne⟩ hs2)
theorem B7 {R:Result->Zy->Prop} {vs:List Zz} {kw:List (Str×Zz)} (X:K.In s.heap) (hm:dY K C=true)
  (hi:dQ K (.ref C) "__init__"=some (some (.ref f))) (hf:PySem.W.typeIn K (.ref f)=some (.type "function"))
  (h:codeAny (model prog w) (A.under (.builtin "type.__call__" ⟨.ref C::vs,kw⟩)) (.call (.ref f) ⟨.ref (s.heap.objs.size+ 1)::vs,kw⟩) (PySem.W.InitBack (s.heap.objs.size+ 1) R)
   {s with heap:=(s.heap.push dZ).push (dJ C s.heap.objs.size)}):
  codeAny (model prog w) A (.call (.ref C) ⟨vs,kw⟩) R s:=by obtain⟨hh,g,d,t,os⟩:=s;exact PySem.W.make_core (PySem.W.makes_of X hm) (PySem.W.looks_findIn X hi) (fun self=>PySem.W.bind_fn X self hf) (.inl rfl) h
end
def mY (f:Str) (v:V):List (Str×V)->List (Str×V)
 |[]=>[(f,v)]
 |(g,x)::r=>if g=f then(g,v)::r else(g,x)::mY f v r
theorem qH (f g:Str) (v:V):∀fs:List (Str×V),(mY f v fs).lookup g=if g=f then some v else fs.lookup g
 |[]=>by
  show aB g [(f,v)]=_;by_cases h:g=f;·have hb:(g==f)=true:=beq_iff_eq.mpr h;simp only[aB,hb,gU h]
  ·have hb:(g==f)=false:=beq_eq_false_iff_ne.mpr h;simp only[aB,hb,gN h]
 |(k,x)::r=>by
  have ih:=qH f g v r;rw[show mY f v ((k,x)::r)=(if k=f then(k,v)::r else(k,x)::mY f v r)from rfl];by_cases hk:k=f
  ·rw[gU hk];by_cases h:g=k;·have hb:(g==k)=true:=beq_iff_eq.mpr h;simp only[aB,hb,gU (h.trans hk)]
   ·have hb:(g==k)=false:=beq_eq_false_iff_ne.mpr h;simp only[aB,hb,gN (fun e:g=f=>h (e.trans hk.symm))]
  ·rw[gN hk];by_cases h:g=k;·have hb:(g==k)=true:=beq_iff_eq.mpr h;simp only[aB,hb,gN (fun e:g=f=>hk (h.symm.trans e))]
   ·have hb:(g==k)=false:=beq_eq_false_iff_ne.mpr h;simp only[aB,hb];exact ih
theorem qI (f:Str) (v:V):∀fs:List (Str×V),f∈(mY f v fs).map (·.1)/\∀g,g∈fs.map (·.1)->g∈(mY f v fs).map (·.1)
 |[]=>⟨by simp[mY],fun g h=>by simp at h⟩
 |(k,x)::r=>by
  obtain⟨i1,i2⟩:=qI f v r;rw[show mY f v ((k,x)::r)=(if k=f then(k,v)::r else(k,x)::mY f v r)from rfl];by_cases hk:k=f;·rw[gU hk];subst hk;exact⟨by simp,fun g h=>by simpa using h⟩
  ·rw[gN hk];refine⟨?_,fun g h=>?_⟩;·rw[aC];exact aj _ i1
   ·rw[aC]at h⊢;rcases ak.mp h with e|e;·exact ak.mpr (.inl e)
    ·exact aj _ (i2 g e)
theorem qJ (f:Str) (v:V):∀fs:List (Str×V),(mY f v fs).length<=fs.length+ 1
 |[]=>by simp[mY]
 |(k,x)::r=>by
  have ih:=qJ f v r;rw[show mY f v ((k,x)::r)=(if k=f then(k,v)::r else(k,x)::mY f v r)from rfl];by_cases hk:k=f;·rw[gU hk,aA,aA];lia
  ·rw[gN hk,aA,aA];lia
theorem sU.some_of {v:V} {o:Option Zz} (r:sU (some v) o):∃u,o=some u/\iQ v u:=by
 cases o with
 |none=>exact(show False from r).elim
 |some u=>exact⟨u,rfl,r⟩
theorem sU.none_of {o:Option Zz} (r:sU none o):o=none:=by
 cases o with
 |none=>rfl
 |some u=>exact(show False from r).elim
theorem zZ {v:V} {u:Zz} (r:iQ v u):PySem.W.handedIn u=true:=by
 cases v with
 |non=>cases(show u=Value.none from r);rfl
 |bl b=>cases(show u=Value.bool b from r);rfl
 |int i=>obtain⟨t,e⟩:=(show ∃t,u=Value.int i t from r);cases e;rfl
 |str x=>obtain⟨t,e⟩:=(show ∃t,u=Value.str x t from r);cases e;rfl
 |byt b=>obtain⟨t,e⟩:=(show ∃t,u=Value.bytes b t from r);cases e;rfl
 |flt b=>obtain⟨t,e⟩:=(show ∃t,u=Value.float b t from r);cases e;rfl
 |ref a=>cases(show u=Value.ref a from r);rfl
 |ty n=>cases(show u=Value.type n from r);rfl
section
variable {P:Zu} {w:Zv} {H H':Hp} {h h':Zt} {a C dx:Zx} {fs fs':List (Str×V)}
theorem tD (hok:HOk P w H h) (e:H a=some (.ins C dx fs)):∃mA,D7 h a dx C mA/\(∀f,sU (fs.lookup f) (mA f))/\PySem.Within mA (fs.map (·.1))/\fs.length<=1000/\H dx=some (.own a):=by obtain⟨d,z,ne,ob,mA,n,r,q⟩:=(show jL P w H h a (.ins C dx fs)from hok a _ e);exact⟨mA,⟨ob,n,ne⟩,r,q,z,d⟩
end
structure Cls (K:Zp) (C:Zx):Prop where
 pg:dO K C Str.empty=true
 hd:dP K C=true
 po:dU K C=true
 sa:dQ K (.ref C) "__setattr__"=some (some (.builtin "object.__setattr__"))
theorem Cls.get {K:Zp} {C:Zx} (c:Cls K C) (f:Str):dO K C f=true:=c.pg
def iN (K:Zp) (C:Zx) (f:Str):Prop:=dQ K (.ref C) f=some none
theorem iN.taker {K:Zp} {C:Zx} {f:Str} (n:iN K C f):dW K C f=some none:=by unfold dW;rw[show dQ K (.ref C) f=some none from n];rfl
structure Con (K:Zp) (C:Zx) (f:Str) (v:V) (u:Zz):Prop where
 at_:dQ K (.ref C) f=some (some u)
 rel:iQ v u
 get:ee K u "__get__"=some none
 cp:PySem.W.copiedNames.contains f=false
structure HH (K:Zp) (C:Zx) (m:Str) (f:Zx):Prop where
 at_:dQ K (.ref C) m=some (some (.ref f))
 fn:dS K (.ref f)=true
 kp:eA K (.ref f)=true
section
variable {X:Cx} {pz:Za} {σ:St} {H:Hp} {s:Zy} {a C dx:Zx} {fs:List (Str×V)} {f:Str} {v:V} {A:Zw} {E:Zb}
theorem sv {b:Bool} {Q:Zb} (I:Inv X pz σ H s) (e:H a=some (.ins C dx fs)) (c:Cls X.K C) (n:iN X.K C f) (l:fs.lookup f=some v)
  (h:∀u s',Inv X pz σ H s'->iQ v u->Q u s'):wpAny (model X.prog X.w) A (getAttr (.ref a) f b) Q E s:=by obtain⟨mA,O,r,_,_,_⟩:=tD I.hok e;obtain⟨u,hu,ru⟩:=sU.some_of (v:=v) (o:=mA f) (by rw[<-l];exact r f);exact D8 I.kIn O (c.get f) c.hd n hu (zZ ru) (h u _ (I.tok _) ru)
theorem sx {m:Str} {g:Zx} {pl:Sem Bool} {Q:Zz×List Zz->Zy->Prop} (I:Inv X pz σ H s) (e:H a=some (.ins C dx fs)) (c:Cls X.K C) (k:HH X.K C m g) (l:fs.lookup m=none)
  (h:Q (.ref g,[.ref a]) s):wpAny (model X.prog X.w) A (getMethod (.ref a) m pl) Q E s:=by obtain⟨mA,O,r,_,_,_⟩:=tD I.hok e;have hn:mA m=none:=sU.none_of (by rw[<-l];exact r m);exact B6 I.kIn O (c.get m) k.at_ k.fn hn h
theorem sy {y:V} {u:Zz} {Q:Unit->Zy->Prop} (I:Inv X pz σ H s) (e:H a=some (.ins C dx fs)) (c:Cls X.K C) (n:iN X.K C f) (hl:fs.length<1000) (ry:iQ y u)
  (h:∀s',Inv X pz σ (upd H a (.ins C dx (mY f y fs))) s'->Q () s'):wpAny (model X.prog X.w) A (setAttr (.ref a) f u) Q E s:=by
 obtain⟨mA,O,r,wi,_,ho⟩:=tD I.hok e;have hz:(fs.map (·.1)).length<=sizeLine:=by rw[aD,sizeLine_eq];lia
 refine D9 I.kIn O c.sa c.po n.taker c.hd wi hz fun h' O' sb=>h _ ?_;have hd:∃o,h'.get? dx=some o:=let⟨o,_,_,e',_⟩:=O'.ns;⟨o,e'⟩;refine I.write (x:=a) (e:=dx) (by rw[e];exact True.intro) (.inr ho) (fun b q hb z=>(sb.2 b hb).trans z) hd ?_;refine⟨by rw[gx O.ne];exact ho,?_,O.ne,O'.obj,_,O'.ns,fun g=>?_,fun g hg=>?_⟩;·have:=qJ f y fs;lia
 ·show sU ((mY f y fs).lookup g) (if g=f then some u else mA g);rw[qH];by_cases q:g=f;·rw[gU q,gU q];exact ry
  ·rw[gN q,gN q];exact r g
 ·by_cases q:g=f;·rw[q];exact(qI f y fs).1
  ·refine(qI f y fs).2 g (wi g fun z=>hg ?_);show(if g=f then some u else mA g)=none;rw[gN q];exact z
theorem Inv.made (I:Inv X pz σ H s):Inv X pz σ (upd (upd H s.heap.objs.size (.own (s.heap.objs.size+ 1))) (s.heap.objs.size+ 1) (.ins C s.heap.objs.size []))
  {s with heap:=(s.heap.push dZ).push (dJ C s.heap.objs.size)}:=by
 have e1:(s.heap.push dZ).get? s.heap.objs.size=some dZ:=fQ s.heap rfl;have e2:((s.heap.push dZ).push (dJ C s.heap.objs.size)).get? (s.heap.objs.size+ 1)=some (dJ C s.heap.objs.size):=by have:=fQ (s.heap.push dZ) (o:=dJ C s.heap.objs.size) rfl;rwa[fU]at this
 have e3:(s.heap.push dZ).Ns s.heap.objs.size (fun _=>none):=⟨dZ,#[],_,e1,rfl,(fun e he=>absurd he (by simp)),fun _=>rfl⟩;have I1:=I.laid (a:=s.heap.objs.size) (o:= .own (s.heap.objs.size+ 1)) (h':=s.heap.push dZ) (t':=s.toks) (fun b u q=>fS _ q) (cW _) ⟨_,e1⟩;refine I1.laid (a:=s.heap.objs.size+ 1) (o:= .ins C s.heap.objs.size []) (t':=s.toks) (fun b u q=>fS _ q) (Nat.le_of_eq (fU _ _)) ?_;have ne:s.heap.objs.size≠s.heap.objs.size+ 1:=cP (cY _);refine⟨by rw[gx ne,gb],cX _,ne,e2,fun _=>none,(Heap.Ns1.of_empty e3).at fun o q=>fS _ q,fun _=>True.intro,fun y hy=>absurd rfl hy⟩
theorem Ea {prog:Zu} {w:Zv} {env:Env} {e:Zr} {f:Str} {pos:Pos} {s:Zy} {Q:Zb} (hb:attributeBase e f env (eval e env)=eval e env)
  (h:wpAny (model prog w) A (eval e env) (fun o s₁=>wpAny (model prog w) A (getAttr o f true) Q E s₁) E s):wpAny (model prog w) A (eval (.Attribute e f pos) env) Q E s:=
 Attribute_any_ h (by rw[arm_eval_Attribute,hb])
end
def tFld (K:Zp) (ta:TE) (f:Str):TE:=fun σ H Q=>ta σ H fun x H1=>∃a C dx fs v,x= .ref a/\H1 a=some (.ins C dx fs)/\Cls K C/\iN K C f/\fs.lookup f=some v/\Q v H1
def JF (K:Zp) (ta tv:TE) (f:Str):TS:=fun D σ H=>tv σ H fun y H1=>ta σ H1 fun x H2=>∃a C dx fs,x= .ref a/\H2 a=some (.ins C dx fs)/\Cls K C/\iN K C f/\fs.length<1000/\
 D.nx σ (upd H2 a (.ins C dx (mY f y fs)))
def JG (X:Cx) (op:Operator) (rd:V->V->Hp->VK->Prop):Prop:=
 ∀(pz:Za) (s:Zy) (σ:St) (H:Hp) (x y:V) (u v:Zz) (Q:VK),Inv X pz σ H s->iQ x u->iQ y v->rd x y H Q->wpAny (model X.prog X.w) X.A (inplaceOp op u v) (EP X pz σ Q) X.xe s
def Eb (K:Zp) (ta tv:TE) (rd:V->V->Hp->VK->Prop) (f:Str):TS:=fun D σ H=>ta σ H fun x H1=>∃a C dx fs v,x= .ref a/\H1 a=some (.ins C dx fs)/\Cls K C/\iN K C f/\fs.lookup f=some v/\
 tv σ H1 fun y H2=>rd v y H2 fun z H3=>∃dx' fs',H3 a=some (.ins C dx' fs')/\fs'.length<1000/\D.nx σ (upd H3 a (.ins C dx' (mY f z fs')))
section
variable {X:Cx} {o e value:Zr} {f:Str} {pos pos' tpos:Pos} {ta tv:TE}
theorem oA (he:PE X e ta) (hb:attributeBase e f X.env (eval e X.env)=eval e X.env):PE X (.Attribute e f pos) (tFld X.K ta f):=by intro pz s σ H Q I h;refine Ea hb (thn (he pz s σ H _ I h) ?_);rintro u s1 ⟨x,H1,I1,rx,a,C,dx,fs,v,rfl,ea,c,n,l,q⟩;obtain rfl:u=Value.ref a:=rx;exact sv I1 ea c n l fun u' s2 I2 ru=>⟨v,H1,I2,ru,q⟩
theorem je (ha:PE X o ta) (hv:PE X value tv) (hs:swapsWith value (some (.Attribute o f pos')) pos.line X.env=pure false):PS X (.Assign [.Attribute o f pos'] value pos) (JF X.K ta tv f):=by intro pz s σ H D I h;refine plainObj_wpAny_Assign_Attribute (thn (hv pz s σ H _ I h) fun u s1 ⟨y,H1,I1,ry,q⟩=>thn (ha pz s1 σ H1 _ I1 q) ?_) hs;rintro ov s2 ⟨x,H2,I2,rx,a,C,dx,fs,rfl,ea,c,n,l,q2⟩;obtain rfl:ov=Value.ref a:=rx;exact sy I2 ea c n l ry fun s3 I3=>⟨σ,_,I3,q2⟩
theorem uY {op:Operator} {rd:V->V->Hp->VK->Prop} (ha:PE X o ta) (hv:PE X value tv) (hop:JG X op rd):PS X (.AugAssign (.Attribute o f tpos) op value pos) (Eb X.K ta tv rd f):=by intro pz s σ H D I h;refine wpAny_AugAssign_AttributeAny (thn (ha pz s σ H _ I h) ?_);rintro ov s1 ⟨x,H1,I1,rx,a,C,dx,fs,v,rfl,ea,c,n,l,q⟩;obtain rfl:ov=Value.ref a:=rx;refine sv I1 ea c n l fun u s2 I2 ru=>thn (hv pz s2 σ H1 _ I2 q) fun w3 s3 ⟨y,H2,I3,ry,q3⟩=>thn (hop pz s3 σ H2 v y u w3 _ I3 ru ry q3) ?_;rintro w4 s4 ⟨z,H3,I4,rz,dx',fs',ea',l',q4⟩;exact sy I4 ea' c n l' rz fun s5 I5=>⟨σ,_,I5,q4⟩
def rAdd:V->V->Hp->VK->Prop:=fun x y H Q=>∃i j,x= .int i/\y= .int j/\Q (.int (i+j)) H
theorem CW:JG X .Add rAdd:=by rintro pz s σ H x y u v Q I rx ry ⟨i,j,rfl,rfl,q⟩;obtain⟨t,rfl⟩:=(show ∃t,u=Value.int i t from rx);obtain⟨t',rfl⟩:=(show ∃t',v=Value.int j t' from ry);exact PyProof.Rows.iadd_int ⟨.int (i+j),H,I.tok _,⟨_,rfl⟩,q⟩
end
section
variable {X:Cx} {pz:Za} {σ:St} {H:Hp} {s:Zy} {A:Zw} {E:Zb} {Q:Zb} {c:Zz} {b:Bool}
inductive wC (K:Zp) (H:Hp):V->Zz->Prop where
 |non:wC K H .non (.type "NoneType")
 |bl (x:Bool):wC K H (.bl x) (.type "bool")
 |int (i:Int):wC K H (.int i) (.type "int")
 |str (x:Str):wC K H (.str x) (.type "str")
 |flt (x:UInt64):wC K H (.flt x) (.type "float")
 |lst {a:Zx} {xs:List V} (e:H a=some (.lst xs)):wC K H (.ref a) (.type "list")
 |frz {a:Zx} {o:Obj} {xs:List V} (e:H a=some (.frz o (.lst xs))):wC K H (.ref a) (.type "list")
 |tup {a:Zx} {xs:List V} (e:H a=some (.tup xs)):wC K H (.ref a) (.type "tuple")
 |dK {a:Zx} {kvs:List (Key×V)} (e:H a=some (.dK kvs)):wC K H (.ref a) (.type "dict")
 |dT {a:Zx} {kvs:List (List Key×V)} (e:H a=some (.dT kvs)):wC K H (.ref a) (.type "dict")
 |ins {a C dx:Zx} {fs:List (Str×V)} (e:H a=some (.ins C dx fs)) (cl:Cls K C) (ha:dQ K (.ref C) "__class__"=some (some (.builtin "object.__class__")))
   (hn:ee K (.builtin "object.__class__") "__get__"=some (some (.builtin "getset_descriptor.__get__"))) (htk:PySem.W.takesIn K (.builtin "object.__class__")=some true)
   (hm:PySem.W.mroIn K C (.type "object")=some true):wC K H (.ref a) (.ref C)
theorem z5 {x:V} {u t:Zz} (I:Inv X pz σ H s) (rx:iQ x u) (ty:wC X.K H x t) (e:eB X.K t c=some b) (h:∀tk,Q (.bool b) {s with toks:=tk}):
  wpAny (model X.prog X.w) A (call (.builtin "isinstance") [u,c]) Q E s:=by
 cases ty with
 |non=>cases(show u=Value.none from rx);exact eC PySem.W.kitx_none I.kIn True.intro e (fun z=>nomatch z) h
 |bl y=>cases(show u=Value.bool y from rx);exact eC PySem.W.kitx_bool I.kIn True.intro e (fun z=>nomatch z) h
 |int i=>obtain⟨t,q⟩:=(show ∃t,u=Value.int i t from rx);cases q;exact eC PySem.W.kitx_int I.kIn True.intro e (fun z=>nomatch z) h
 |str y=>obtain⟨t,q⟩:=(show ∃t,u=Value.str y t from rx);cases q;exact eC PySem.W.kitx_str I.kIn True.intro e (fun z=>nomatch z) h
 |flt y=>obtain⟨t,q⟩:=(show ∃t,u=Value.float y t from rx);cases q;exact eC PySem.W.kitx_float I.kIn True.intro e (fun z=>nomatch z) h
 |@lst a xs ea=>cases(show u=Value.ref a from rx);obtain⟨_,_,n,_,h1⟩:=(show jL X.prog X.w H s.heap a (.lst xs)from I.hok a _ ea);exact eC eE I.kIn ⟨_,h1,rfl⟩ e (fun z=>nomatch z) h
 |@frz a ob xs ea=>cases(show u=Value.ref a from rx);obtain⟨_,_,_,n,_,h1⟩:=(show jL X.prog X.w H s.heap a (.frz ob (.lst xs))from I.hok a _ ea);exact eC eE I.kIn ⟨_,h1,rfl⟩ e (fun z=>nomatch z) h
 |@tup a xs ea=>cases(show u=Value.ref a from rx);obtain⟨_,_,_,p⟩:=(show jL X.prog X.w H s.heap a (.tup xs)from I.hok a _ ea);obtain⟨o,h1,h2,_⟩:=p;exact eC PySem.W.kitx_tuple I.kIn ⟨o,h1,h2⟩ e (fun z=>nomatch z) h
 |@dK a kvs ea=>cases(show u=Value.ref a from rx);obtain⟨_,_,vs,_,p⟩:=(show jL X.prog X.w H s.heap a (.dK kvs)from I.hok a _ ea);obtain⟨o,es,ep,h1,h2,_⟩:=p;exact eC eF I.kIn ⟨o,h1,h2.1⟩ e (fun z=>nomatch z) h
 |@dT a kvs ea=>cases(show u=Value.ref a from rx);obtain⟨_,_,xs,_,o,es,ep,h1,h2,_⟩:=(show jL X.prog X.w H s.heap a (.dT kvs)from I.hok a _ ea);exact eC eF I.kIn ⟨o,h1,h2.1⟩ e (fun z=>nomatch z) h
 |@ins a C dx fs ea cl ha hn htk hm=>cases(show u=Value.ref a from rx);obtain⟨mA,O,_⟩:=tD I.hok ea;obtain⟨od,J,_⟩:=O.look;exact eC (PySem.W.kitx_own (cl.get _) cl.hd ha hn htk hm) I.kIn J e (fun z=>nomatch z) h
end
structure mZ (k:Nat) (A:Zw):Prop where
 hd:A.handled=none
 dp:A.depth+ 2*k+ 5<recursionLimit
 un:A.units+ 16*k+ 200<cLine
theorem mZ.mono {j k:Nat} {A:Zw} (r:mZ k A) (h:j<=k):mZ j A:=⟨r.hd,by have:=r.dp;lia,by have:=r.un;lia⟩
theorem mZ.m {j k:Nat} {A:Zw} (r:mZ k A) (h:autoParam (j<=k) auD._auto_1):mZ j A:=r.mono h
theorem mZ.deeper {k:Nat} {A:Zw} (r:mZ (k+ 1) A) (env:Env):mZ k (A.deeper env):=
 ⟨r.hd,by have:=r.dp;show A.depth+ 1+ 2*k+ 5<_;lia,by have:=r.un;show A.units+ 3+ 16*k+ 200<_;lia⟩
theorem za {A:Zw} {C:Zx} {us:List Zz} {kw:List (Str×Zz)}:(A.under (.builtin "type.__call__" ⟨.ref C::us,kw⟩)).depth=A.depth+ 1:=by first|rfl|simp[Around.under,Code.weight,Code.isCreation,Code.isGuard,Code.isCaller,Code.frames,Code.isFrame,guardIds]
theorem zb {A:Zw} {C:Zx} {us:List Zz} {kw:List (Str×Zz)}:(A.under (.builtin "type.__call__" ⟨.ref C::us,kw⟩)).units=A.units+ 1:=by first|rfl|simp[Around.under,Code.cUnits,Code.frames,Code.isFrame]
theorem mZ.make {k:Nat} {A:Zw} (r:mZ (k+ 1) A) (C:Zx) (us:List Zz) (kw:List (Str×Zz)):mZ k (A.under (.builtin "type.__call__" ⟨.ref C::us,kw⟩)):=
 ⟨r.hd,by have:=r.dp;rw[za];lia,by have:=r.un;rw[zb];lia⟩
theorem mZ.depth {k:Nat} {A:Zw} (r:mZ k A):A.depth<recursionLimit:=by have:=r.dp;lia
theorem mZ.units {k:Nat} {A:Zw} (r:mZ k A):A.units+ 64<cLine:=by have:=r.un;lia
def zM:TA:=fun _ H Q=>Q [] H
def lN (ta:TE) (tr:TA):TA:=fun σ H Q=>ta σ H fun x H1=>tr σ H1 fun xs H2=>Q (x::xs) H2
section
variable {X:Cx} {e:Zr} {es:List Zr} {te:TE} {t:TA} {pos:Pos}
theorem gf:PA X [] zM:=fun _ _ _ _ H Q I h=>Calls.spliced_nil ⟨[],H,I,.nil,h⟩
theorem fZ (ha:PE X e te) (hr:PA X es t) (hs:autoParam (starEach (e::es) X.env=(false,eval e X.env)::starEach es X.env) auR._auto_1):PA X (e::es) (lN te t):=by intro pos pz s σ H Q I h;rw[hs];show wpAny _ _ (spliced ((false,eval e X.env)::backTo pos (starEach es X.env))) _ _ s;refine Calls.spliced_cons (thn (ha pz s σ H _ I h) ?_);rintro u s1 ⟨x,H1,I1,r1,q1⟩;exact thn (hr pos pz s1 σ H1 _ I1 q1) fun us s2 ⟨xs,H2,I2,r2,q2⟩=>⟨x::xs,H2,I2,.cons r1 r2,q2⟩
def Ic (t:TA):TE:=fun σ H Q=>t σ H fun xs H1=>xs.length<=sizeLine/\∀p,H1 p=none->Q (.ref p) (upd H1 p (.tup xs))
def Ie (t:TA):TE:=fun σ H Q=>t σ H fun xs H1=>xs.length<=sizeLine/\∀p,H1 p=none->Q (.ref p) (upd H1 p (.lst xs))
theorem ij {x1} (h:PA X es t):PE X (.Tuple es x1 pos) (Ic t):=by intro pz s σ H Q I hq;refine wpAny_Tuple_spliced (thn (h pos pz s σ H _ I hq) fun us s1 ⟨xs,H1,I1,r,z,q⟩=>⟨by rw[<-r.length];exact z,?_⟩);have hf:H1 s1.heap.objs.size=none:=I1.hok.fresh (cW _);refine⟨.ref s1.heap.objs.size,upd H1 s1.heap.objs.size (.tup xs),I1.laid (t':=s1.toks) (fun b u e=>fS _ e) (cW _) ?_,rfl,q _ hf⟩;exact⟨z,us,r,⟨_,fQ _ rfl,rfl,_,rfl,rfl⟩⟩
theorem gT (h:PA X es t):PE X (.List es pos) (Ie t):=by intro pz s σ H Q I hq;refine wpAny_List_spliced (thn (h pos pz s σ H _ I hq) fun us s1 ⟨xs,H1,I1,r,z,q⟩=>⟨by rw[<-r.length];exact z,?_⟩);have hf:H1 s1.heap.objs.size=none:=I1.hok.fresh (cW _);refine⟨.ref s1.heap.objs.size,upd H1 s1.heap.objs.size (.lst xs),I1.laid (t':=s1.toks) (fun b u e=>fS _ e) (cW _) ?_,rfl,q _ hf⟩;exact⟨z,us,0,r,fQ _ rfl⟩
end
abbrev Sp:=List V->Hp->VK->XK->Prop
abbrev CXT:=List Env->Hp->Zy->XK->Zz->Zy->Prop
structure Ec (P:Zu) (w:Zv) (K:Zp) (mg:Zc) (base:Zt) (A:Zw) (outer:List Env) (s:Zy) (H:Hp):Prop where
 frames:A.frames=some outer
 mod:Mod K mg base
 bs:∀b o,base.get? b=some o->s.heap.get? b=some o/\H b=none
 bsz:base.objs.size<=s.heap.objs.size
 funs:s.heap.FunFrames base outer
 frf:∀b∈frs outer,H b=none
 hok:HOk P w H s.heap
 bare:AllBare s.gens
def CE (outer:List Env) (P:Zu) (w:Zv) (H:Hp) (s:Zy) (Q:VK) (u:Zz) (s':Zy):Prop:=
 ∃v H',s'.os=s.os/\AllBare s'.gens/\Un (frs outer) [] H H' s.heap s'.heap/\HOk P w H' s'.heap/\iQ v u/\Q v H'
def CR (CX:CXT) (outer:List Env) (P:Zu) (w:Zv) (H:Hp) (s:Zy) (Q:VK) (E:XK) (r:Result) (s':Zy):Prop:=
 match r with
 | .ok (.ret u)=>CE outer P w H s Q u s'
 | .ok _=>False
 | .error e=>CX outer H s E e s'
structure sA (P:Zu) (w:Zv) (K:Zp) (mg:Zc) (base:Zt) (CX:CXT) (k:Nat) (f:Zx) (fd:Zs) (ps:Zd) (sp:Sp):Prop where
 len:∀vs H Q E,sp vs H Q E->vs.length=ps.length
 run:∀(A:Zw) (outer:List Env) (s:Zy) (H:Hp) (args:Args) (us:List Zz) (vs:List V) (Q:VK) (E:XK),mZ k A->Ec P w K mg base A outer s H->BindsTo s fd args (ps.zip us)->iU vs us->sp vs H Q E->
  codeAny (model P w) A (.call (.ref f) args) (CR CX outer P w H s Q E) s
theorem Ec.make {P:Zu} {w:Zv} {K:Zp} {mg:Zc} {base:Zt} {A:Zw} {outer:List Env} {s:Zy} {H:Hp} (e:Ec P w K mg base A outer s H) (C:Zx) (us:List Zz) (kw:List (Str×Zz)):
  Ec P w K mg base (A.under (.builtin "type.__call__" ⟨.ref C::us,kw⟩)) outer s H:=⟨by first|exact e.frames|(simpa[Around.under,Code.envs,Code.isFrame,pushEnvs]using e.frames),e.mod,e.bs,e.bsz,e.funs,e.frf,e.hok,e.bare⟩
section
variable {X:Cx} {pz:Za} {σ:St} {H:Hp} {s s':Zy}
theorem Inv.env0 (I:Inv X pz σ H s):Ec X.prog X.w X.K X.mg X.base X.A X.stack s H:=
 ⟨I.ok.frames,I.ok.mod,I.bs,cQ I.ok.bsz I.sz,I.stack,I.stkFree,I.hok,I.bare⟩
theorem Inv.after {Q:VK} {u:Zz} (I:Inv X pz σ H s) (h:CE X.stack X.prog X.w H s Q u s'):EP X pz σ Q u s':=by obtain⟨v,H',os,bare,un,hok,r,q⟩:=h;obtain⟨hh,g,d,t,os'⟩:=s';obtain rfl:os'=s.os:=os;exact⟨v,H',I.call (h':=hh) (g':=g) (d':=d) (t':=t) (ch:=[]) un hok bare (fun b z=>absurd z (by simp)),r,q⟩
end
def B8 (sp:Sp) (dvs:List V) (E:XK) (t:TA):TE:=fun σ H Q=>t σ H fun vs H1=>sp (vs++dvs) H1 Q E
def Ed (C:Zx) (m:Str) (sp:Sp) (dvs:List V) (E:XK) (ta:TE) (t:TA):TE:=fun σ H Q=>ta σ H fun x H1=>∃a dx fs,x= .ref a/\H1 a=some (.ins C dx fs)/\fs.lookup m=none/\
 t σ H1 fun vs H2=>sp (x::(vs++dvs)) H2 Q E
def Gd (C:Zx) (sp:Sp) (dvs:List V) (E:XK) (t:TA):TE:=fun σ H Q=>t σ H fun vs H1=>∀x dx,H1 x=none->H1 dx=none->dx≠x->
 sp (.ref x::(vs++dvs)) (upd (upd H1 dx (.own x)) x (.ins C dx [])) (fun v H2=>v= .non/\Q (.ref x) H2) E
def oR (K:Zp) (fd:Zs) (ps:Zd) (ds:List Zz):Prop:=
 ∀(s:Zy) (us:List Zz),K.In s.heap->(us++ds).length=ps.length->BindsTo s fd ⟨us,[]⟩ (ps.zip (us++ds))
theorem oR.all {K:Zp} {fd:Zs} {ps:Zd} (h:∀us:List Zz,us.length=ps.length->bindArgs fd ⟨us,[]⟩=pure (ps.zip us)):oR K fd ps []:=fun s us _ hl=>by rw[aE]at hl⊢;exact .of_eq (h us hl)
def pR (CX:CXT) (X:Cx) (E:XK):Prop:=∀(pz:Za) (σ:St) (H:Hp) (s:Zy) (e:Zz) (s':Zy),Inv X pz σ H s->CX X.stack H s E e s'->X.xe e s'
section
variable {X:Cx} {CX:CXT} {k:Nat} {f C:Zx} {fd:Zs} {ps:Zd} {sp:Sp} {dvs:List V} {ds:List Zz} {E:XK} {x m:Str} {p pos apos:Pos} {e o:Zr} {es:List Zr} {ta:TE} {t:TA}
theorem xV {pz:Za} {σ:St} {H:Hp} {s:Zy} {Q:VK} {us:List Zz} {vs:List V} (F:sA X.prog X.w X.K X.mg X.base CX k f fd ps sp) (hr:mZ k X.A) (hb:oR X.K fd ps ds) (hd:iU dvs ds) (hx:pR CX X E)
  (I:Inv X pz σ H s) (r:iU vs us) (h:sp (vs++dvs) H Q E):wpAny (model X.prog X.w) X.A (call (.ref f) us) (EP X pz σ Q) X.xe s:=by
 have r2:iU (vs++dvs) (us++ds):=r.append hd;have hl:(us++ds).length=ps.length:=by rw[<-r2.length];exact F.len _ _ _ _ h
 refine wpAny_call (codeAny_mono (F.run X.A X.stack s H ⟨us,[]⟩ (us++ds) (vs++dvs) Q E hr I.env0 (hb s us I.kIn hl) r2 h) fun r s' hq=>?_)
 cases r with
 |error e=>exact hx pz σ H s e s' I hq
 |ok fl=>
  cases fl with
  |ret u=>exact I.after hq
  |next=>exact False.elim hq
  |brk=>exact False.elim hq
  |cont=>exact False.elim hq
theorem Ee (F:sA X.prog X.w X.K X.mg X.base CX k f fd ps sp) (hr:mZ k X.A) (hg:Gl X x) (hm:X.mg x=some (.ref f)) (hk:eA X.K (.ref f)=true) (hb:oR X.K fd ps ds) (hd:iU dvs ds) (hx:pR CX X E)
  (ha:PA X (e::es) t) (hdb:autoParam ((x==("__debug__":Str))=false) auD._auto_1) (he:autoParam (starEach (e::es) X.env=(false,eval e X.env)::starEach es X.env) auR._auto_1) (hpl:autoParam ((backTo pos (starEach es X.env)).any (·.1)=false) auR._auto_1):
  PE X (.Call (.Name x p) (e::es) [] pos) (B8 sp dvs E t):=by intro pz s σ H Q I h;refine wpAny_Call_Name_kw (wy I hg hm ?_ hdb);refine eG (h₀:=X.base) I.ok.mod.kin hk (thn (ha pos pz s σ H _ I h) fun us s1 ⟨vs,H1,I1,r,q⟩=>⟨I1.kIn,?_⟩) he hpl;exact xV F hr hb hd hx I1 r q
theorem iA {pl:Sem Bool} (he:PE X o ta) (c:Cls X.K C) (hm:HH X.K C m f) (F:sA X.prog X.w X.K X.mg X.base CX k f fd ps sp) (hr:mZ k X.A) (hb:oR X.K fd ps ds) (hd:iU dvs ds) (hx:pR CX X E) (ha:PA X (e::es) t)
  (hst:autoParam (starEach (e::es) X.env=(false,eval e X.env)::starEach es X.env) auR._auto_1) (hpl:autoParam ((backTo pos (starEach es X.env)).any (·.1)=false) auR._auto_1)
  (ht:eval (.Call (.Attribute o m apos) (e::es) [] pos) X.env=(do
   let ov<-eval o X.env
   standAt apos.atName
   let(f,first)<-holding [ov] (getMethod ov m pl)
   callWith pos f first (backTo pos (starEach (e::es) X.env)) (backToKw pos (keywordEach [] X.env))):=by rfl):
  PE X (.Call (.Attribute o m apos) (e::es) [] pos) (Ed C m sp dvs E ta t):=by intro pz s σ H Q I h;refine eI (pl:=pl) (thn (he pz s σ H _ I h) ?_) ht;rintro u s1 ⟨x,H1,I1,rx,a,dx,fs,rfl,ea,l,q⟩;obtain rfl:u=Value.ref a:=rx;refine sx I1 ea c hm l ?_;refine eG (first:=[.ref a]) (h₀:=X.base) I.ok.mod.kin hm.kp (thn (ha pos pz s1 σ H1 _ I1 q) fun us s2 ⟨vs,H2,I2,r,q2⟩=>⟨I2.kIn,?_⟩) hst hpl;exact xV (us:= .ref a::us) (vs:= .ref a::vs) F hr hb hd hx I2 (.cons rfl r) q2
theorem jF {pl:Sem Bool} (he:PE X o ta) (c:Cls X.K C) (hm:HH X.K C m f) (F:sA X.prog X.w X.K X.mg X.base CX k f fd ps sp) (hr:mZ k X.A) (hb:oR X.K fd ps ds) (hd:iU dvs ds) (hx:pR CX X E)
  (ht:eval (.Call (.Attribute o m apos) [] [] pos) X.env=(do
   let ov<-eval o X.env
   standAt apos.atName
   let(f,first)<-holding [ov] (getMethod ov m pl)
   callWith pos f first (backTo pos (starEach [] X.env)) (backToKw pos (keywordEach [] X.env))):=by rfl):
  PE X (.Call (.Attribute o m apos) [] [] pos) (Ed C m sp dvs E ta zM):=by intro pz s σ H Q I h;refine eI (pl:=pl) (thn (he pz s σ H _ I h) ?_) ht;rintro u s1 ⟨x,H1,I1,rx,a,dx,fs,rfl,ea,l,q⟩;obtain rfl:u=Value.ref a:=rx;refine sx I1 ea c hm l ?_;exact PySem.W.callWith_K0 (first:=[.ref a]) I1.kIn hm.kp (xV (us:=[.ref a]) (vs:=[.ref a]) F hr hb hd hx I1 (.cons rfl .nil) q)
structure Mk (K:Zp) (C f:Zx):Prop where
 makes:dY K C=true
 init:dQ K (.ref C) "__init__"=some (some (.ref f))
 fn:dS K (.ref f)=true
 kp:eA K (.ref C)=true
theorem B9 {pz:Za} {σ:St} {H:Hp} {s:Zy} {Q:VK} {us:List Zz} {vs:List V} (M:Mk X.K C f) (F:sA X.prog X.w X.K X.mg X.base CX k f fd ps sp) (hr:mZ (k+ 1) X.A) (hb:oR X.K fd ps ds) (hd:iU dvs ds)
  (hx:pR CX X E) (I:Inv X pz σ H s) (r:iU vs us)
  (h:∀x dx,H x=none->H dx=none->dx≠x->sp (.ref x::(vs++dvs)) (upd (upd H dx (.own x)) x (.ins C dx [])) (fun v H2=>v= .non/\Q (.ref x) H2) E):
  wpAny (model X.prog X.w) X.A (call (.ref C) us) (EP X pz σ Q) X.xe s:=by
 have hq:=h (s.heap.objs.size+ 1) s.heap.objs.size (I.hok.fresh (cZ _)) (I.hok.fresh (cW _)) (cP (cY _));have I2:=Inv.made (C:=C) I;have r2:iU (V.ref (s.heap.objs.size+ 1)::(vs++dvs)) (Value.ref (s.heap.objs.size+ 1)::(us++ds)):= .cons rfl (r.append hd);have hl:(Value.ref (s.heap.objs.size+ 1)::us++ds).length=ps.length:=by have e:=r2.length;rw[F.len _ _ _ _ hq]at e;exact e.symm
 refine wpAny_call (B7 (f:=f) I.kIn M.makes M.init (beq_iff_eq.mp M.fn) (codeAny_mono (F.run _ X.stack _ _ ⟨Value.ref (s.heap.objs.size+ 1)::us,[]⟩ (Value.ref (s.heap.objs.size+ 1)::(us++ds)) _ _ E (hr.make C us [])
  (I2.env0.make C us []) (hb _ (Value.ref (s.heap.objs.size+ 1)::us) I2.kIn hl) r2 hq) fun r s' hq'=>?_))
 cases r with
 |error e=>exact hx pz σ _ _ e s' I2 hq'
 |ok fl=>
  cases fl with
  |ret u=>obtain⟨v,H',I3,rv,ev,q3⟩:=I2.after hq';subst ev;exact⟨rv,⟨V.ref (s.heap.objs.size+ 1),H',I3,rfl,q3⟩⟩
  |next=>exact False.elim hq'
  |brk=>exact False.elim hq'
  |cont=>exact False.elim hq'
theorem tE (M:Mk X.K C f) (F:sA X.prog X.w X.K X.mg X.base CX k f fd ps sp) (hr:mZ (k+ 1) X.A) (hg:Gl X x) (hm:X.mg x=some (.ref C)) (hb:oR X.K fd ps ds) (hd:iU dvs ds) (hx:pR CX X E)
  (ha:PA X (e::es) t) (hdb:autoParam ((x==("__debug__":Str))=false) auD._auto_1) (he:autoParam (starEach (e::es) X.env=(false,eval e X.env)::starEach es X.env) auR._auto_1) (hpl:autoParam ((backTo pos (starEach es X.env)).any (·.1)=false) auR._auto_1):
  PE X (.Call (.Name x p) (e::es) [] pos) (Gd C sp dvs E t):=by intro pz s σ H Q I h;refine wpAny_Call_Name_kw (wy I hg hm ?_ hdb);refine eG (h₀:=X.base) I.ok.mod.kin M.kp (thn (ha pos pz s σ H _ I h) fun us s1 ⟨vs,H1,I1,r,q⟩=>⟨I1.kIn,?_⟩) he hpl;exact B9 M F hr hb hd hx I1 r q
end
section
variable {X:Cx} {CX:CXT} {k:Nat} {f C:Zx} {fd:Zs} {ps ks:Zd} {sp:Sp} {E:XK} {x m:Str} {p pos apos kpos:Pos} {e o:Zr} {es:List Zr} {kws:List Keyword} {te ta:TE} {t tk:TA} {nm:Option Str}
variable {g:List Zz->List Zz->List Zz} {gV:List V->List V->List V}
end
structure gB (N P:Zd) (sc:Scope):Prop where
 kind:sc.kind= .function
 co:sc.isCoroutine=false
 gen:sc.isGenerator=false
 nd:N.Nodup
 pre:N.take P.length=P
 par:∀x∈P,sc.names.lookup x=some .local\/sc.names.lookup x=some .cell
 nofree:∀y∈sc.names,y.2≠ .free
theorem uZ {kindOf:Str->Option NameKind} {x:Str}:∀{binds:List (Str×Zz)} {m:Zc},(∀v,(x,v)∉binds)->bindL kindOf binds m x=m x
 |[],_,_=>rfl
 |(n,v)::r,m,h=>by
  unfold bindL;rw[uZ fun w hw=>h w (aj _ hw)];split
  ·have:x≠n:=by rintro rfl;exact h v ah
   simp[this]
  ·rfl
theorem u4 {kindOf:Str->Option NameKind} {x:Str}:∀{binds:List (Str×Zz)} {m:Zc},(∀v,(x,v)∉binds)->bindC kindOf binds m x=m x
 |[],_,_=>rfl
 |(n,v)::r,m,h=>by
  unfold bindC;rw[u4 fun w hw=>h w (aj _ hw)];split;·rfl
  ·have:x≠n:=by rintro rfl;exact h v ah
   simp[this]
theorem va {kindOf:Str->Option NameKind} {x:Str} {v:Zz}:∀{P:Zd} {vs:List Zz} {i:Nat} {m:Zc},P.Nodup->P[i]?=some x->vs[i]?=some v->kindOf x=some .local->
  bindL kindOf (P.zip vs) m x=some v
 |[],_,_,_,_,h,_,_=>by simp at h
 |_::_,[],_,_,_,_,h,_=>by simp at h
 |p::P,w::vs,0,m,nd,h1,h2,hk=>by simp at h1 h2;subst h1;subst h2;show bindL kindOf ((p,w)::P.zip vs) m p=_;unfold bindL;rw[uZ fun v hv=>(aF.mp nd).1 (aG hv).1,gU hk];simp
 |p::P,w::vs,i+ 1,m,nd,h1,h2,hk=>by show bindL kindOf ((p,w)::P.zip vs) m x=_;unfold bindL;exact va (i:=i) (aF.mp nd).2 (by simpa using h1) (by simpa using h2) hk
theorem vb {kindOf:Str->Option NameKind} {x:Str} {v:Zz}:∀{P:Zd} {vs:List Zz} {i:Nat} {m:Zc},P.Nodup->P[i]?=some x->vs[i]?=some v->kindOf x≠some .local->
  bindC kindOf (P.zip vs) m x=some v
 |[],_,_,_,_,h,_,_=>by simp at h
 |_::_,[],_,_,_,_,h,_=>by simp at h
 |p::P,w::vs,0,m,nd,h1,h2,hk=>by simp at h1 h2;subst h1;subst h2;show bindC kindOf ((p,w)::P.zip vs) m p=_;unfold bindC;rw[u4 fun v hv=>(aF.mp nd).1 (aG hv).1,gN hk];simp
 |p::P,w::vs,i+ 1,m,nd,h1,h2,hk=>by show bindC kindOf ((p,w)::P.zip vs) m x=_;unfold bindC;exact vb (i:=i) (aF.mp nd).2 (by simpa using h1) (by simpa using h2) hk
def qc (N:Zd) (vs:List V):St:=vs.map some++aH (N.length-vs.length) none
def B0 (CX:CXT) (P:Zu) (w:Zv) (K:Zp) (mg:Zc) (base:Zt) (N:Zd) (qual:Str) (scope:Scope) (f:Zx) (cd:Zz) (A:Zw) (outer:List Env) (s:Zy) (H:Hp) (E:XK):Cx where
 prog:=P
 w:=w
 K:=K
 mg:=mg
 base:=base
 A:=A.deeper (envOfC qual scope s.heap.objs.size f cd)
 N:=N
 s₀:=s
 H₀:=H
 env:=envOfC qual scope s.heap.objs.size f cd
 outer:=outer
 stack:=envOfC qual scope s.heap.objs.size f cd::outer
 ex:=[]
 calm:=true
 fn:=fun _=>true
 pn:=[]
 xe:=fun e s'=>wpAny (model P w) (A.deeper (envOfC qual scope s.heap.objs.size f cd)) (leaving (envOfC qual scope s.heap.objs.size f cd) e) (fun _ s''=>CX outer H s E e s'') (fun e' s''=>CX outer H s E e' s'') s'
theorem xW {sc:Scope} {n:Nat} {x:Str} (h:sc.names.lookup x=some .cell):∃c,(cellsFrom n sc.names []).lookup x=some c:=by have q:=eJ sc.names n [] (.inl h);exact dF.mp q
theorem vc {CX:CXT} {P:Zu} {w:Zv} {K:Zp} {mg:Zc} {base:Zt} {N ps:Zd} {qual:Str} {scope:Scope} {f:Zx} {cd:Zz} {A:Zw} {outer:List Env} {s s1:Zy} {H:Hp} {E:XK} {us:List Zz} {vs:List V}
  (S:gB N ps scope) (hd:A.handled=none) (e0:Ec P w K mg base A outer s H) (hl:vs.length=ps.length) (r:iU vs us)
  (x:InCallC s s.heap.objs.size (bindL (envOfC qual scope s.heap.objs.size f cd).kindOf (ps.zip us) fun _=>none) (cellsFrom (s.heap.objs.size+ 1) scope.names []) (bindC (envOfC qual scope s.heap.objs.size f cd).kindOf (ps.zip us) fun _=>none) s1):
  Inv (B0 CX P w K mg base N qual scope f cd A outer s H E) [] (qc N vs) H s1:=by
 have hpl:ps.length<=N.length:=by have:=congrArg aJ S.pre;rw[aK]at this;lia
 obtain⟨h1,tk,rfl,hk⟩:=x.done;have noA:∀b:Zx,b∉(B0 CX P w K mg base N qual scope f cd A outer s H E).ex:=fun b z=>absurd (show b∈([]:List Zx)from z) (by simp);refine⟨⟨e0.mod,S.kind,rfl,rfl,cW _,fun y z c h1 h2=>?_,fun y hy=>?_,fun y c _ h=>?_,fun _=>hd,Around.frames_deeper e0.frames,.inr ⟨rfl,rfl⟩,fun b z=>absurd z (noA b),e0.bs,e0.bsz,fun b _ _=>noA b,fun b z=>absurd z (noA b),e0.funs,e0.frf⟩,
  rfl,e0.bare,Un.kept hk,⟨_,x.toInCall.ns,fun i y v h1 h2 h3=>?_⟩,fun y c h=>⟨_,x.cell y c h⟩,e0.hok.fresh (cW _),fun y c h=>?_,fun p hp=>absurd (show p∈([]:Za)from hp) (by simp),e0.hok.kept hk,?_⟩;·exact name_of_addr x.apart (PySem.mem_of_lookup h1) (PySem.mem_of_lookup h2)
 ·have hy:scope.names.lookup y=some .cell\/scope.names.lookup y=some .free:=hy;rcases hy with hy|hy;·exact xW hy
  ·exact absurd rfl (S.nofree _ (PySem.mem_of_lookup hy))
 ·exact cR (x.above y c (PySem.mem_of_lookup h))
 ·have hi:i<vs.length:=by
   unfold qc at h2;by_cases hi:i<vs.length;·exact hi
   ·rw[aM (by simpa using hi)]at h2;rw[List.getElem?_replicate]at h2;split at h2<;>cases h2
  have ha:vs[i]?=some v:=by
   unfold qc at h2;rw[aN (by simpa using hi),aO]at h2
   cases e:vs[i]? with
   |none=>rw[e]at h2;cases h2
   |some a=>rw[e]at h2;cases h2;rfl
  obtain⟨u,hu,rv⟩:=r.get ha;have hp:ps[i]?=some y:=by rw[<-S.pre,List.getElem?_take_of_lt (by lia)];exact h1
  have ndP:ps.Nodup:=by rw[<-S.pre];exact S.nd.sublist (aP _ _)
  refine⟨u,rv,?_⟩;rcases S.par y (aQ hp)with k|k;·exact .inl ⟨k,va ndP hp hu k⟩
  ·obtain⟨c,e⟩:=xW (n:=s.heap.objs.size+ 1) k;refine .inr ⟨.inl k,c,e,?_⟩;have q:=x.cell y c e;rw[vb ndP hp hu (by show scope.names.lookup y≠_;rw[k];decide)]at q;exact q
 ·exact e0.hok.fresh (cR (x.above y c (PySem.mem_of_lookup h)))
 ·unfold qc;show _=N.length;rw[aR,aD,aS];lia
theorem Ig {CX:CXT} {P:Zu} {w:Zv} {K:Zp} {mg:Zc} {base:Zt} {k:Nat} {f:Zx} {name qual:Str} {params:Arguments} {body:List Zq} {scope:Scope} {dV kV doc pm cdv ct oc:Zz} {an od:Option Zx}
  {osl:Array (Option Zz)} {N ps:Zd} {sp:Sp} (lk:K.lookup f=some ⟨oc,od,.func (eK name qual params body scope dV kV doc pm an cdv ct),osl⟩) (hcd:eL K cdv qual=true) (S:gB N ps scope)
  (len:∀vs H Q E,sp vs H Q E->vs.length=ps.length)
  (hbody:∀(A:Zw) (outer:List Env) (s:Zy) (H:Hp) (vs:List V) (Q:VK) (E:XK),mZ k (A.deeper (envOfC qual scope s.heap.objs.size f cdv))->sp vs H Q E->
   ∃t,PSs (B0 CX P w K mg base N qual scope f cdv A outer s H E) body t/\t {nx:=fun _ H'=>Q .non H',rt:=Q} (qc N vs) H):
  sA P w K mg base CX (k+ 1) f (eK name qual params body scope dV kV doc pm an cdv ct) ps sp:=by
 refine⟨len,fun A outer s H args us vs Q E hr e0 hb r hsp=>?_⟩;have hl:=len _ _ _ _ hsp;have KX:K.In s.heap:=e0.mod.kin.keeps fun b o e=>(e0.bs b o e).1;have lim:s.heap.NoLimit:=e0.mod.nolimit.keeps fun b o e=>(e0.bs b o e).1;have hkind:∀y∈ps.zip us,scope.names.lookup y.1=some .local\/(scope.names.lookup y.1=some .cell/\((cellsFrom (s.heap.objs.size+ 1) scope.names []).lookup y.1).isSome=true):=fun⟨n,v⟩ hy=>by
  rcases S.par n (aG hy).1 with q|q;·exact .inl q
  ·exact .inr ⟨q,eJ _ _ _ (.inl q)⟩
 refine codeAny_call_function hr.depth (KX _ _ lk) rfl S.co S.gen rfl (eM KX hcd) (hb _ _ _ _ ?_);refine wpAny_newFunctionEnv_cells S.kind hkind fun env he s1 x=>?_;subst he;refine⟨lim.keeps x.toInCall.keep,codeAny_func ?_⟩;obtain⟨t,ht,hq⟩:=hbody A outer s H vs Q E (hr.deeper _) hsp;have I:Inv (B0 CX P w K mg base N qual scope f cdv A outer s H E) [] (qc N vs) H s1:=vc S hr.hd e0 hl r x;refine wpAny_mono (ht [] s1 (qc N vs) H _ I hq) (fun fl s' hs=>?_) fun e s' hs=>hs;have fin:∀{σ':St} {H':Hp} {v:V} {u:Zz},Inv (B0 CX P w K mg base N qual scope f cdv A outer s H E) [] σ' H' s'->iQ v u->Q v H'->CE outer P w H s Q u s':=
  fun{σ' H' v u} J rv q=>⟨v,H',J.os,J.bare,J.base,J.hok,rv,q⟩
 cases fl with
 |ret u=>obtain⟨v,σ',H',J,rv,q⟩:=hs;exact fin J rv q
 |next=>obtain⟨σ',H',J,q⟩:=hs;exact fin (v:=V.non) (u:=Value.none) J rfl q
 |brk=>obtain⟨_,_,_,q⟩:=hs;exact False.elim q
 |cont=>obtain⟨_,_,_,q⟩:=hs;exact False.elim q
section
variable {X:Cx} {x:Str} {p pos:Pos} {e:Zr} {es:List Zr} {t:TA} {id T:String} {r:List V->Hp->VK->Prop}
def tCB (r:List V->Hp->VK->Prop) (t:TA):TE:=fun σ H Q=>t σ H fun vs H1=>r vs H1 Q
theorem gM (hc:ny X (.builtin id) r) (hg:Gl X x) (hm:X.mg x=none) (hv:bootBuiltins x=some (.builtin id)) (ha:PA X (e::es) t) (hn:autoParam (x≠"__name__") auD._auto_1) (hdb:autoParam ((x==("__debug__":Str))=false) auD._auto_1)
  (he:autoParam (starEach (e::es) X.env=(false,eval e X.env)::starEach es X.env) auR._auto_1) (hpl:autoParam ((backTo pos (starEach es X.env)).any (·.1)=false) auR._auto_1):PE X (.Call (.Name x p) (e::es) [] pos) (tCB r t):=by intro pz s σ H Q I h;refine wpAny_Call_Name_kw (nA I hg hm hv ?_ hn hdb);exact PyProof.Rows.callWith_builtin1 (thn (ha pos pz s σ H _ I h) fun us s1 ⟨vs,H1,I1,r1,q1⟩=>hc pz s1 σ H1 vs us Q I1 r1 q1) he hpl
theorem jA (hc:ny X (.type T) r) (hg:Gl X x) (hm:X.mg x=none) (hv:bootBuiltins x=some (.type T)) (ha:PA X (e::es) t) (hn:autoParam (x≠"__name__") auD._auto_1) (hdb:autoParam ((x==("__debug__":Str))=false) auD._auto_1)
  (he:autoParam (starEach (e::es) X.env=(false,eval e X.env)::starEach es X.env) auR._auto_1) (hpl:autoParam ((backTo pos (starEach es X.env)).any (·.1)=false) auR._auto_1):PE X (.Call (.Name x p) (e::es) [] pos) (tCB r t):=by intro pz s σ H Q I h;refine wpAny_Call_Name_kw (nA I hg hm hv ?_ hn hdb);exact fX (thn (ha pos pz s σ H _ I h) fun us s1 ⟨vs,H1,I1,r1,q1⟩=>hc pz s1 σ H1 vs us Q I1 r1 q1) he hpl
end
section
variable {κ:Type} [DecidableEq κ]
def jB (kvs:List (κ×V)) (k:κ):Option V:=(kvs.find? fun kv=>decide (kv.1=k)).map (·.2)
def lP (kvs:List (κ×V)) (k:κ) (v:V):List (κ×V):=
 if(kvs.any fun kv=>decide (kv.1=k))=true then kvs.map (fun kv=>if kv.1=k then(kv.1,v)else kv)else kvs++[(k,v)]
theorem iX {p:κ×V} {r:List (κ×V)} {k:κ} (e:p.1=k):jB (p::r) k=some p.2:=by simp[jB,aT,e]
theorem iY {p:κ×V} {r:List (κ×V)} {k:κ} (e:¬p.1=k):jB (p::r) k=jB r k:=by simp[jB,aT,e]
theorem lg (k:κ):∀kvs:List (κ×V),(kvs.any fun kv=>decide (kv.1=k))=(jB kvs k).isSome
 |[]=>rfl
 |p::r=>by
  rw[aU];by_cases e:p.1=k;·simp only[iX e,hI e,Bool.true_or,Option.isSome_some]
  ·rw[iY e,ik e,Bool.false_or];exact lg k r
theorem xX (k j:κ) (y:V):∀kvs:List (κ×V),jB (kvs.map fun kv=>if kv.1=k then(kv.1,y)else kv) j=(jB kvs j).map fun x=>if j=k then y else x
 |[]=>rfl
 |p::r=>by
  have ih:=xX k j y r;rw[aC];by_cases h:p.1=k
  ·rw[gU h];by_cases e:p.1=j;·rw[iX (p:=(p.1,y)) e,iX e,dG,gU (e.symm.trans h)]
   ·rw[iY (p:=(p.1,y)) e,iY e,ih]
  ·rw[gN h];by_cases e:p.1=j;·rw[iX (p:=p) e,iX e,dG,gN (fun z=>h (e.trans z))]
   ·rw[iY (p:=p) e,iY e,ih]
theorem vd (k j:κ) (y:V):∀kvs:List (κ×V),jB kvs k=none->jB (kvs++[(k,y)]) j=if j=k then some y else jB kvs j
 |[],_=>by
  by_cases e:k=j;·rw[gU e.symm];exact iX (p:=(k,y)) e
  ·rw[gN (fun z=>e z.symm)];exact iY (p:=(k,y)) e
 |p::r,hn=>by
  rw[aV];have hk:¬p.1=k:=fun z=>by rw[iX z]at hn;cases hn
  rw[iY hk]at hn;have ih:=vd k j y r hn;by_cases e:p.1=j;·rw[iX e,iX e,gN (fun z=>hk (e.trans z))]
  ·rw[iY e,iY e,ih]
theorem iM (kvs:List (κ×V)) (k j:κ) (y:V):jB (lP kvs k y) j=if j=k then some y else jB kvs j:=by
 unfold lP;by_cases a:(kvs.any fun kv=>decide (kv.1=k))=true
 ·rw[gU a,xX];rw[lg]at a;by_cases e:j=k;·obtain⟨x,hx⟩:=dF.mp a;rw[gU e,e,hx,dG,gU rfl]
  ·rw[gN e]
   cases jB kvs j with
   |none=>rfl
   |some x=>rw[dG,gN e]
 ·rw[gN a];refine vd k j y kvs ?_;rw[lg]at a
  cases q:jB kvs k with
  |none=>rfl
  |some x=>rw[q]at a;exact(a rfl).elim
theorem ig (kvs:List (κ×V)) (k:κ) (v:V):(lP kvs k v).length<=kvs.length+ 1:=by
 unfold lP;split;·rw[aD];lia
 ·rw[aR,aA,aW];lia
theorem xY {kvs:List (κ×V)} {k:κ} (v:V) (h:jB kvs k=none):lP kvs k v=kvs++[(k,v)]:=by unfold lP;rw[lg,h];exact gN (by decide)
theorem sU.isSome_eq {o:Option V} {u:Option Zz} (r:sU o u):o.isSome=u.isSome:=by
 cases o with
 |none=>cases u with
  |none=>rfl
  |some _=>exact(show False from r).elim
 |some _=>cases u with
  |none=>exact(show False from r).elim
  |some _=>rfl
theorem sU.getD {o:Option V} {u:Option Zz} {d:V} {d':Zz} (r:sU o u) (rd:iQ d d'):iQ (o.getD d) (u.getD d'):=by
 cases o with
 |none=>cases u with
  |none=>exact rd
  |some _=>exact(show False from r).elim
 |some _=>cases u with
  |none=>exact(show False from r).elim
  |some _=>exact r
theorem KV.val {kvs:List (κ×V)} {vs:List (κ×Zz)} (r:KV kvs vs) (k:κ):sU (jB kvs k) (valueAt vs k):=by
 unfold KV at r
 induction r with
 |nil=>exact True.intro
 |@cons p q ps qs h t ih=>
  obtain⟨h1,h2⟩:=h;by_cases e:p.1=k
  ·have e':q.1=k:=h1.symm.trans e;have b:valueAt (q::qs) k=some q.2:=by simp[valueAt,aT,e']
   rw[iX e,b];exact h2
  ·have e':¬q.1=k:=fun z=>e (h1.trans z);have b:valueAt (q::qs) k=valueAt qs k:=by simp[valueAt,aT,e']
   rw[iY e,b];exact ih
theorem KV.any {kvs:List (κ×V)} {vs:List (κ×Zz)} (r:KV kvs vs) (k:κ):(kvs.any fun kv=>decide (kv.1=k))=vs.any fun kv=>decide (kv.1=k):=by
 unfold KV at r
 induction r with
 |nil=>rfl
 |cons h t ih=>rw[aU,aU,ih,h.1]
theorem KV.repl {kvs:List (κ×V)} {vs:List (κ×Zz)} (r:KV kvs vs) (k:κ) {y:V} {u:Zz} (ry:iQ y u):
  KV (kvs.map fun kv=>if kv.1=k then(kv.1,y)else kv) (vs.map fun kv=>if kv.1=k then(kv.1,u)else kv):=by
 unfold KV at r⊢
 induction r with
 |nil=>exact .nil
 |@cons p q ps qs h t ih=>
  rw[aC,aC];refine .cons ?_ ih;obtain⟨h1,h2⟩:=h;by_cases e:p.1=k;·rw[gU e,gU (h1.symm.trans e)];exact⟨h1,ry⟩
  ·rw[gN e,gN (fun z=>e (h1.trans z))];exact⟨h1,h2⟩
theorem KV.put {kvs:List (κ×V)} {vs:List (κ×Zz)} (r:KV kvs vs) (k:κ) {y:V} {u:Zz} (ry:iQ y u):KV (lP kvs k y) (stored vs k u):=by
 unfold lP stored;rw[r.any k];by_cases e:(vs.any fun kv=>decide (kv.1=k))=true;·rw[gU e,gU e];exact r.repl k ry
 ·rw[gN e,gN e];exact Paired.snoc r ⟨rfl,ry⟩
theorem KV.length {kvs:List (κ×V)} {vs:List (κ×Zz)} (r:KV kvs vs):kvs.length=vs.length:=Paired.length r
end
theorem tF {P:Zu} {w:Zv} {k:Key} {u:Zz} (r:iQ (kV k) u):(jg P w).is k u=true:=by
 cases k with
 |inl i=>obtain⟨t,e⟩:=(show ∃t,u=Value.int i t from r);subst e;exact wu P w i t
 |inr x=>obtain⟨t,e⟩:=(show ∃t,u=Value.str x t from r);subst e;exact wx P w x t
theorem ve {P:Zu} {w:Zv}:∀{ks:List Key} {us:List Zz},iU (ks.map kV) us->ItemsAre (jg P w) ks us
 |[],_,r=>by rw[aX]at r;cases r;exact .nil
 |k::ks,_,r=>by
  rw[aC]at r
  cases r with
  |cons h t=>exact .cons (tF h) (ve t)
abbrev KT (H:Hp):List (List Key×V)->List (List Key×Zx×Zz)->Prop:=Paired fun p q=>p.1=q.1/\H q.2.1=some (.tup (p.1.map kV))/\iQ p.2 q.2.2
theorem KT.val {H:Hp} {kvs:List (List Key×V)} {xs:List (List Key×Zx×Zz)} (r:KT H kvs xs) (k:List Key):sU (jB kvs k) ((atKey xs k).map (·.2)):=by
 induction r with
 |nil=>exact True.intro
 |@cons p q ps qs h t ih=>
  obtain⟨h1,_,h2⟩:=h;by_cases e:p.1=k
  ·have e':q.1=k:=h1.symm.trans e;have b:atKey (q::qs) k=some q.2:=by simp[atKey,aT,e']
   rw[iX e,b];exact h2
  ·have e':¬q.1=k:=fun z=>e (h1.trans z);have b:atKey (q::qs) k=atKey qs k:=by simp[atKey,aT,e']
   rw[iY e,b];exact ih
theorem KT.repl {H:Hp} {kvs:List (List Key×V)} {xs:List (List Key×Zx×Zz)} (r:KT H kvs xs) (k:List Key) {y:V} {u:Zz} (ry:iQ y u):
  KT H (kvs.map fun kv=>if kv.1=k then(kv.1,y)else kv) (xs.map (putAt k u)):=by
 induction r with
 |nil=>exact .nil
 |@cons p q ps qs h t ih=>
  rw[aC,aC];refine .cons ?_ ih;obtain⟨h1,h2,h3⟩:=h;unfold putAt;by_cases e:p.1=k;·rw[gU e,gU (h1.symm.trans e)];exact⟨h1,h2,ry⟩
  ·rw[gN e,gN (fun z=>e (h1.trans z))];exact⟨h1,h2,h3⟩
theorem KT.put {H:Hp} {kvs:List (List Key×V)} {xs:List (List Key×Zx×Zz)} (r:KT H kvs xs) (k:List Key) {b:Zx} {y:V} {u:Zz} (hb:H b=some (.tup (k.map kV))) (ry:iQ y u):
  KT H (lP kvs k y) (storedH xs k b u):=by
 have e:(kvs.any fun kv=>decide (kv.1=k))=(atKey xs k).isSome:=by rw[lg,(r.val k).isSome_eq,dH]
 unfold lP storedH;rw[e];by_cases q:(atKey xs k).isSome=true;·rw[gU q,gU q];exact r.repl k ry
 ·rw[gN q,gN q];exact Paired.snoc r ⟨rfl,hb,ry⟩
theorem KT.keeps {H H':Hp} {kvs:List (List Key×V)} {xs:List (List Key×Zx×Zz)} (r:KT H kvs xs) (ht:∀b ys,H b=some (.tup ys)->H' b=some (.tup ys)):KT H' kvs xs:=
 Paired.mapP r fun _ _ z=>⟨z.1,ht _ _ z.2.1,z.2.2⟩
section
variable {P:Zu} {w:Zv} {H:Hp} {h:Zt} {a:Zx}
theorem Ge {u:HO} (ok:HOk P w H h) (e:Rd H a u):jL P w H h a u:=e.ok ok
theorem zc {kvs:List (Key×V)} (ok:HOk P w H h) (e:Rd H a (.dK kvs)):kvs.length<=sizeLine/\(a==sysModules)=false/\∃vs,KV kvs vs/\h.DictOf (jg P w) a vs:=
 show jL P w H h a (.dK kvs)from Ge ok e
theorem vf {kvs:List (Key×V)} (ok:HOk P w H h) (e:H a=some (.dK kvs)):kvs.length<=sizeLine/\(a==sysModules)=false/\∃vs,KV kvs vs/\h.DictOf (jg P w) a vs:=zc ok (.inl e)
theorem vg {ks:List Key} (ok:HOk P w H h) (e:H a=some (.tup (ks.map kV))):(tupleKind (jg P w)).is h ks a:=by obtain⟨_,its,r,o,h1,h2,n,h3,_⟩:=(show jL P w H h a (.tup (ks.map kV))from ok a _ e);exact⟨o,its.toArray,n,h1,h2,h3,by simpa using ve r⟩
theorem z6 {kvs:List (List Key×V)} (ok:HOk P w H h) (e:Rd H a (.dT kvs)):kvs.length<=sizeLine/\(a==sysModules)=false/\
  ∃xs,KT H kvs xs/\h.DictOfH (tupleKind (jg P w)) a xs:=by
 obtain⟨z,y,xs,r,o,es,ep,h1,h2,h3,h4,h5⟩:=(show jL P w H h a (.dT kvs)from Ge ok e);refine⟨z,y,xs,r,o,es,ep,h1,h2,h3,h4,fun x hx=>?_,h5⟩;have all:∀{l:List (List Key×V)} {m:List (List Key×Zx×Zz)},KT H l m->∀x∈m,(tupleKind (jg P w)).is h x.1 x.2.1:=by
  intro l m q
  induction q with
  |nil=>intro x hx;exact nomatch hx
  |@cons p q ps qs hq t ih=>
   intro x hx;rcases ak.mp hx with e|hx;·subst e;exact vg ok (by rw[<-hq.1];exact hq.2.1)
   ·exact ih x hx
 exact all r x hx
theorem Ih {kvs:List (List Key×V)} (ok:HOk P w H h) (e:H a=some (.dT kvs)):kvs.length<=sizeLine/\(a==sysModules)=false/\
  ∃xs,KT H kvs xs/\h.DictOfH (tupleKind (jg P w)) a xs:=z6 ok (.inl e)
end
def sC (H:Hp) (a:Zx) (y:V) (r:Option V):Prop:=
 (∃kvs k,Rd H a (.dK kvs)/\y=kV k/\r=jB kvs k)\/∃kvs k b,Rd H a (.dT kvs)/\y= .ref b/\H b=some (.tup (k.map kV))/\r=jB kvs k
def ze (H:Hp) (a:Zx) (y v:V) (H':Hp):Prop:=
 (∃kvs k,H a=some (.dK kvs)/\y=kV k/\kvs.length<sizeLine/\H'=upd H a (.dK (lP kvs k v)))\/
 ∃kvs k b,H a=some (.dT kvs)/\y= .ref b/\H b=some (.tup (k.map kV))/\kvs.length<sizeLine/\H'=upd H a (.dT (lP kvs k v))
theorem sC.k {H:Hp} {a:Zx} {kvs:List (Key×V)} {k:Key} (e:H a=some (.dK kvs)):sC H a (kV k) (jB kvs k):= .inl ⟨kvs,k,.inl e,rfl,rfl⟩
theorem ze.k {H:Hp} {a:Zx} {kvs:List (Key×V)} {k:Key} {v:V} (e:H a=some (.dK kvs)) (hl:kvs.length<sizeLine):ze H a (kV k) v (upd H a (.dK (lP kvs k v))):= .inl ⟨kvs,k,e,rfl,hl,rfl⟩
section
variable {X:Cx} {pz:Za} {σ:St} {H:Hp} {s:Zy} {a:Zx} {y v:V} {u r:Zz} {o:Option V} {A:Zw} {E:Zb}
theorem Inv.big (I:Inv X pz σ H s):sysModules<s.heap.objs.size:=by have h:mainGlobals<s.heap.objs.size:=(I.mod.glob.keeps I.bk).lt;exact Nat.lt_trans (by decide) h
theorem z7 {Q:Zb} (hu:A.units+ 1<cLine) (I:Inv X pz σ H s) (g:sC H a y (some v)) (ry:iQ y u) (h:∀w' s',Inv X pz σ H s'->iQ v w'->Q w' s'):
  wpAny (model X.prog X.w) A (getItem (.ref a) u) Q E s:=by
 rcases g with⟨kvs,k,e,ey,l⟩|⟨kvs,k,b,e,ey,eb,l⟩;·subst ey;obtain⟨z,hd,vs,rel,dd⟩:=zc I.hok e;obtain⟨w',hw,rw'⟩:=sU.some_of (v:=v) (o:=valueAt vs k) (by rw[l];exact rel.val k);exact wpAny_getItem_of (tF ry) dd.mapOf hw (h w' _ (I.tok _) rw')
 ·subst ey;cases(show u=Value.ref b from ry);obtain⟨z,hd,xs,rel,dd⟩:=z6 I.hok e;obtain⟨w',hw,rw'⟩:=sU.some_of (v:=v) (o:=(atKey xs k).map (·.2)) (by rw[l];exact rel.val k);obtain⟨p,hp,hp2⟩:=dI.mp hw;refine wpAny_getItem_heap (tupleKind_room_in1 hu) (vg I.hok eb) dd hp ?_;rw[hp2];exact h w' _ (I.tok _) rw'
theorem d_in {Q:Zb} (hu:A.units+ 1<cLine) (I:Inv X pz σ H s) (g:sC H a y o) (ry:iQ y u) (h:∀s',Inv X pz σ H s'->Q (.bool o.isSome) s'):
  wpAny (model X.prog X.w) A (compareOp .In u (.ref a)) Q E s:=by
 rcases g with⟨kvs,k,e,ey,l⟩|⟨kvs,k,b,e,ey,eb,l⟩;·subst ey;obtain⟨z,hd,vs,rel,dd⟩:=zc I.hok e;refine wpAny_in_of (tF ry) hd dd.mapOf ?_;rw[<-(rel.val k).isSome_eq,<-l];exact h _ (I.tok _)
 ·subst ey;cases(show u=Value.ref b from ry);obtain⟨z,hd,xs,rel,dd⟩:=z6 I.hok e;refine wpAny_in_heap (tupleKind_room_in1 hu) (vg I.hok eb) hd dd ?_;have q:=(rel.val k).isSome_eq;rw[dH]at q;rw[<-q,<-l];exact h _ (I.tok _)
theorem Ef {Q:Zb} (hu:A.units+ 1<cLine) (I:Inv X pz σ H s) (g:sC H a y o) (ry:iQ y u) (h:∀s',Inv X pz σ H s'->Q (.bool (!o.isSome)) s'):
  wpAny (model X.prog X.w) A (compareOp .NotIn u (.ref a)) Q E s:=by
 rcases g with⟨kvs,k,e,ey,l⟩|⟨kvs,k,b,e,ey,eb,l⟩;·subst ey;obtain⟨z,hd,vs,rel,dd⟩:=zc I.hok e;refine wpAny_notIn_of (tF ry) hd dd.mapOf ?_;rw[<-(rel.val k).isSome_eq,<-l];exact h _ (I.tok _)
 ·subst ey;cases(show u=Value.ref b from ry);obtain⟨z,hd,xs,rel,dd⟩:=z6 I.hok e;refine wpAny_notIn_heap (tupleKind_room_in1 hu) (vg I.hok eb) hd dd ?_;have q:=(rel.val k).isSome_eq;rw[dH]at q;rw[<-q,<-l];exact h _ (I.tok _)
theorem qK {h':Zt} {t':Nat} {ob:HO} (I:Inv X pz σ H s) (mu:Mut (H a)) (hs:Heap.SameBut a s.heap h') (he:∃q,h'.get? a=some q) (new:jL X.prog X.w (upd H a ob) h' a ob):
  Inv X pz σ (upd H a ob) {s with heap:=h',toks:=t'}:=
 I.write (x:=a) (e:=a) mu (.inl rfl) (fun b q hb z=>(hs.2 b hb).trans z) he new
theorem qL {P:Zu} {w:Zv} {H':Hp} {h':Zt} {kvs:List (Key×V)} {vs:List (Key×Zz)} (z:kvs.length<=sizeLine) (hd:(a==sysModules)=false) (rel:KV kvs vs) (dd:h'.DictOf (jg P w) a vs):
  jL P w H' h' a (.dK kvs):=⟨z,hd,vs,rel,dd⟩
theorem z8 {H':Hp} {Q:Unit->Zy->Prop} (hu:A.units+ 1<cLine) (I:Inv X pz σ H s) (g:ze H a y v H') (ry:iQ y u) (rv:iQ v r) (h:∀s',Inv X pz σ H' s'->Q () s'):
  wpAny (model X.prog X.w) A (setItem (.ref a) u r) Q E s:=by
 rcases g with⟨kvs,k,e,ey,l,eH⟩|⟨kvs,k,b,e,ey,eb,l,eH⟩
 ·subst ey eH;obtain⟨z,hd,vs,rel,dd⟩:=vf I.hok e;have hz:vs.length<=sizeLine:=by rw[<-rel.length];exact z
  have hl:(lP kvs k v).length<=sizeLine:=by have:=ig kvs k v;lia
  refine wpAny_setItem_pairs (hsz:=hz) (tF ry) dd fun h' dd' hs=>h _ ?_;have he:∃q,h'.get? a=some q:=let⟨q,_,_,hq,_⟩:=dd';⟨q,hq⟩;exact qK I (by rw[e];exact True.intro) hs he (qL hl hd (rel.put k rv) dd')
 ·subst ey eH;cases(show u=Value.ref b from ry);obtain⟨z,hd,xs,rel,dd⟩:=Ih I.hok e;have hz:xs.length<=sizeLine:=by rw[<-Paired.length rel];exact z
  have hl:(lP kvs k v).length<=sizeLine:=by have:=ig kvs k v;lia
  refine wpAny_setItem_heap (hsz:=hz) (tupleKind_room_in1 hu) (vg I.hok eb) dd fun h' dd' hs=>h _ ?_;obtain⟨q,es,ep,hq,h2,h3,h4,_,h5⟩:=dd';refine qK I (by rw[e];exact True.intro) hs ⟨q,hq⟩ ⟨hl,hd,_,(rel.put k eb rv).keeps fun c ys ec=>?_,q,es,ep,hq,h2,h3,h4,h5⟩;rw[gx (kI ec e (fun z=>nomatch z))];exact ec
end
section
variable {X:Cx} {pz:Za} {σ:St} {H:Hp} {s:Zy} {a:Zx} {kvs:List (Key×V)} {k:Key} {u:Zz} {A:Zw} {E:Zb}
theorem Ii {Q:Zb} (I:Inv X pz σ H s) (e:Rd H a (.dK kvs)) (h:∀t s',Inv X pz σ H s'->Q (.int kvs.length t) s'):wpAny (model X.prog X.w) A (call (.builtin "len") [.ref a]) Q E s:=by obtain⟨z,hd,vs,rel,dd⟩:=zc I.hok e;refine call_len_dict hd dd (by rw[<-rel.length];rw[sizeLine_eq]at z;lia) ?_;rw[<-rel.length];exact h _ _ (I.tok _)
end
def Ij (i:Zr):Prop:=∀ov iv,subscripted i false ov iv=operate [ov,iv] (getItem ov iv)
theorem z9 {prog:Zu} {w:Zv} {A:Zw} {E:Zb} {s:Zy} {env:Env} {value slice:Zr} {pos:Pos} {T id:String} {Q:Zb}
  (hl:typeLookup (.type T) "__getitem__"=pure (some (.builtin id))) (hs:Ij slice)
  (h:wpAny (model prog w) A (eval value env) (fun o s₁=>wpAny (model prog w) A (eval slice env) (fun i s₂=>s₂.TypeIs o T/\wpAny (model prog w) A (getItem o i) Q E s₂) E s₁) E s):
  wpAny (model prog w) A (eval (.Subscript value slice pos) env) Q E s:=by
 refine Subscript_ (wpAny_mono h (fun o s₁ h₁=>wpAny_mono h₁ (fun i s₂ h₂=>?_) fun _ _ x=>x) fun _ _ x=>x);obtain⟨hT,h₂⟩:=h₂;unfold subscriptTail;refine wpAny_bind ?_;rw[getitemInPython_of_ne hT.not_modules];refine wpAny_bind (wpAny_specialOf hT hl ?_);have fin:wpAny (model prog w) A (subscripted slice false o i) (fun r s₃=>wpAny (model prog w) A (letTemporaryGo value o r >>= fun _=>pure r) Q E s₃) E s₂:=by rw[hs o i];exact wpAny_operating (wpAny_mono h₂ (fun r s₃ h₃=>wpAny_bind (wpAny_letTemporaryGo (wpAny_pure h₃))) fun _ _ x=>x)
 first
  |exact wpAny_pure (wpAny_bind fin)
  |exact wpAny_bind (wpAny_pure (wpAny_bind fin))
  |exact wpAny_bind fin
theorem wD {X:Cx} {pz:Za} {σ:St} {H:Hp} {s:Zy} {a:Zx} {y:V} {o:Option V} (I:Inv X pz σ H s) (g:sC H a y o):s.TypeIs (.ref a) "dict":=by
 rcases g with⟨kvs,k,e,_,_⟩|⟨kvs,k,b,e,_,_,_⟩;·obtain⟨_,_,vs,_,dd⟩:=zc I.hok e;exact dd.typeIs
 ·obtain⟨_,_,xs,_,dd⟩:=z6 I.hok e;exact dd.typeIs
def Ik (td ty:TE):TE:=fun σ H Q=>td σ H fun x H1=>ty σ H1 fun y H2=>∃a v,x= .ref a/\sC H2 a y (some v)/\Q v H2
def tDIn (ty td:TE):TE:=fun σ H Q=>ty σ H fun y H1=>td σ H1 fun x H2=>∃a o,x= .ref a/\sC H2 a y o/\Q (.bl o.isSome) H2
def Eg (ty td:TE):TE:=fun σ H Q=>ty σ H fun y H1=>td σ H1 fun x H2=>∃a o,x= .ref a/\sC H2 a y o/\Q (.bl (!o.isSome)) H2
def Il (td ty tv:TE):TS:=fun D σ H=>tv σ H fun v H1=>td σ H1 fun x H2=>ty σ H2 fun y H3=>∃a H4,x= .ref a/\ze H3 a y v H4/\D.nx σ H4
section
variable {X:Cx} {o i e value:Zr} {pos pos' tpos:Pos} {td ty tv:TE}
theorem lQ (hu:X.A.units+ 1<cLine) (ho:PE X o td) (hi:PE X i ty) (hs:Ij i:=by exact fun _ _=>rfl):PE X (.Subscript o i pos) (Ik td ty):=by intro pz s σ H Q I h;refine z9 eU.lookup hs (thn (ho pz s σ H _ I h) fun u s1 ⟨x,H1,I1,rx,q1⟩=>thn (hi pz s1 σ H1 _ I1 q1) ?_);rintro iv s2 ⟨y,H2,I2,ry,a,v,rfl,g,q2⟩;obtain rfl:u=Value.ref a:=rx;exact⟨wD I2 g,z7 hu I2 g ry fun w' s3 I3 rw'=>⟨v,H2,I3,rw',q2⟩⟩
theorem Aa (hu:X.A.units+ 1<cLine) (hi:PE X i ty) (ho:PE X o td):PC X .In i o (tDIn ty td):=by intro pz s σ H Q I h;refine thn (hi pz s σ H _ I h) fun iv s1 ⟨y,H1,I1,ry,q1⟩=>thn (ho pz s1 σ H1 _ I1 q1) ?_;rintro u s2 ⟨x,H2,I2,rx,a,ov,rfl,g,q2⟩;obtain rfl:u=Value.ref a:=rx;exact d_in hu I2 g ry fun s3 I3=>⟨.bl ov.isSome,H2,I3,rfl,q2⟩
theorem Ab (hu:X.A.units+ 1<cLine) (hi:PE X i ty) (ho:PE X o td):PC X .NotIn i o (Eg ty td):=by intro pz s σ H Q I h;refine thn (hi pz s σ H _ I h) fun iv s1 ⟨y,H1,I1,ry,q1⟩=>thn (ho pz s1 σ H1 _ I1 q1) ?_;rintro u s2 ⟨x,H2,I2,rx,a,ov,rfl,g,q2⟩;obtain rfl:u=Value.ref a:=rx;exact Ef hu I2 g ry fun s3 I3=>⟨.bl (!ov.isSome),H2,I3,rfl,q2⟩
theorem mB (hu:X.A.units+ 1<cLine) (ho:PE X o td) (hi:PE X i ty) (hv:PE X value tv) (hs:swapsWith value (some (.Subscript o i pos')) pos.line X.env=pure false):
  PS X (.Assign [.Subscript o i pos'] value pos) (Il td ty tv):=by intro pz s σ H D I h;refine wpAny_Assign_Subscript (thn (hv pz s σ H _ I h) fun r s1 ⟨v,H1,I1,rv,q1⟩=>thn (ho pz s1 σ H1 _ I1 q1) fun u s2 ⟨x,H2,I2,rx,q2⟩=>thn (hi pz s2 σ H2 _ I2 q2) ?_) hs;rintro iv s3 ⟨y,H3,I3,ry,a,H4,rfl,g,q3⟩;obtain rfl:u=Value.ref a:=rx;exact z8 hu I3 g ry rv fun s4 I4=>⟨σ,H4,I4,q3⟩
end
theorem Ca {P:Zu} {w:Zv} {H:Hp} (h:Zt) (hb:sysModules<h.objs.size):jL P w H (h.push {cls:= .type "dict",data:= .dict #[]}) h.objs.size (.dK []):=
 ⟨cX _,beq_eq_false_iff_ne.mpr (Ne.symm (cP hb)),[],.nil,Heap.DictOf.new h⟩
def Gf:TE:=fun _ H Q=>∀p,H p=none->Q (.ref p) (upd H p (.dK []))
section
variable {X:Cx} {pos:Pos}
theorem m7:PE X (.Dict [] [] pos) Gf:=fun pz s σ H Q I h=>
 wpAny_Dict_empty ⟨.ref s.heap.objs.size,_,I.laid (a:=s.heap.objs.size) (o:= .dK []) (t':=s.toks) (fun _ _ q=>fS _ q) (cW _) (Ca s.heap I.big),rfl,h _ (I.hok.fresh (cW _))⟩
end
def jh (kvs more:List (Key×V)):List (Key×V):=more.foldl (fun acc kv=>lP acc kv.1 kv.2) kvs
theorem KV.merge:∀{more:List (Key×V)} {rs:List (Key×Zz)} {kvs:List (Key×V)} {vs:List (Key×Zz)},KV more rs->KV kvs vs->KV (jh kvs more) (merged vs rs):=by
 intro more rs kvs vs r;unfold KV at r
 induction r generalizing kvs vs with
 |nil=>intro q;exact q
 |@cons p q ps qs h t ih=>
  intro r0;have e:KV (lP kvs p.1 p.2) (stored vs q.1 q.2):=by have:=r0.put p.1 h.2;rw[<-h.1];exact this
  exact ih e
theorem lR:∀(more kvs:List (Key×V)),(jh kvs more).length<=kvs.length+more.length
 |[],kvs=>by show kvs.length<=kvs.length+ 0;lia
 |p::r,kvs=>by have h1:=lR r (lP kvs p.1 p.2);have h2:=ig kvs p.1 p.2;show(jh (lP kvs p.1 p.2) r).length<=_;rw[aA];lia
structure M1 (X:Cx) (o:Zr) (m:Str) (apos:Pos) (e:Zr) (cpos:Pos):Prop where
 base:attributeBase o m X.env (eval o X.env)=eval o X.env
 few:((backTo cpos (starEach [e] X.env)).all (fun x=>!x.1)&&(backToKw cpos (keywordEach [] X.env)).all (fun x=>x.1.isSome)
  &&decide (([e]:List Zr).length+([]:List Keyword).length+(if([]:List Keyword).isEmpty then 0 else 1)<30))=true
 line:(apos.endLine==cpos.line)=true
 trees:backTo cpos (starEach [e] X.env)=[(false,eval e X.env)]
structure M2 (X:Cx) (o:Zr) (m:Str) (apos:Pos) (e f:Zr) (cpos:Pos):Prop where
 base:attributeBase o m X.env (eval o X.env)=eval o X.env
 few:((backTo cpos (starEach [e,f] X.env)).all (fun x=>!x.1)&&(backToKw cpos (keywordEach [] X.env)).all (fun x=>x.1.isSome)
  &&decide (([e,f]:List Zr).length+([]:List Keyword).length+(if([]:List Keyword).isEmpty then 0 else 1)<30))=true
 line:(apos.endLine==cpos.line)=true
 trees:backTo cpos (starEach [e,f] X.env)=[(false,eval e X.env),(false,eval f X.env)]
section
variable {X:Cx} {pz:Za} {σ:St} {H:Hp} {s:Zy} {a:Zx} {y d:V} {u r:Zz} {o:Option V} {A:Zw} {E:Zb}
end
section
variable {X:Cx} {o e f:Zr} {apos cpos:Pos} {td ty tx:TE}
end
section
variable {X:Cx} {pz:Za} {σ:St} {H:Hp} {s:Zy} {a:Zx} {kvs:List (Key×V)} {A:Zw} {E:Zb}
end
section
variable {X:Cx} {pz:Za} {σ:St} {H:Hp} {s:Zy} {a:Zx} {y:V} {u:Zz} {A:Zw} {E:Zb}
end
end L2.Internal
namespace HT.Internal
open PySem PyProof.Rows
section
open PySem.SeqAt
open PySem.AutoSeq1 (wpAny_loadPart')
open PySem.MeetsSeq PySem.MeetsSeq2 PySem.MeetsSeq3
end
section
variable {prog:Zu} {w:Zv} {A:Zw} {E:Zb} {s:Zy}
theorem cat_tup {t b:Zx} {vs ws:List Zz} {Q:Zb} (ht:IsTup s.heap t vs.toArray) (hb:IsTup s.heap b ws.toArray) (hv:vs≠[])
  (h1:ws=[]->Q (.ref t) s) (h2:ws≠[]->Q (.ref s.heap.objs.size) {s with heap:=s.heap.push {cls:= .type "tuple",data:= .seq (vs++ws).toArray}})
  (hsz:vs.length+ws.length<=sizeLine):wpAny (model prog w) A (binaryOp .Add (.ref t) (.ref b)) Q E s:=by
 obtain⟨⟨cls,dd,data,sl⟩,ho,hc,n,hd⟩:=id ht;obtain⟨⟨cls2,dd2,data2,sl2⟩,ho2,hc2,n2,hd2⟩:=id hb;simp only at hc hd hc2 hd2;subst hc hd hc2 hd2;have e:vs.toArray++ws.toArray=(vs++ws).toArray:=by simp
 by_cases hw:ws=[]
 ·exact concat_meets ⟨_,ho,rfl⟩ ⟨_,ho2,rfl⟩ noFill_tuple_add seq_tuple_add eV eW (eX _ _)
   (tuple_addW1 t b vs.toArray ws.toArray n n2 dd dd2 sl sl2 (by simpa using hv) (by simp[hw])) ⟨ho,ho2,h1 hw⟩
 ·refine concat_meets ⟨_,ho,rfl⟩ ⟨_,ho2,rfl⟩ noFill_tuple_add seq_tuple_add eV eW (eX _ _)
   (tuple_addW2 t b vs.toArray ws.toArray n n2 dd dd2 sl sl2 (by simpa using hv) (by simpa using hw) (by rw[aY,aY];exact hsz)) ⟨ho,ho2,?_⟩;rw[e];exact h2 hw
def sIx (n d:Nat):Option Int->Nat
 |none=>d
 |some v=>if v<0 then(v+(n:Int)).toNat else min v.toNat n
theorem sIx_none (n d:Nat):sIx n d none=d:=rfl
theorem sIx_nat (n d k:Nat):sIx n d (some (k:Int))=min k n:=by show(if(k:Int)<0 then((k:Int)+(n:Int)).toNat else min (k:Int).toNat n)=min k n;rw[gN (by lia),fH]
theorem Gg (n d:Nat) (hd:d<=n) (o:Option Int):sIx n d o<=n:=by
 cases o with
 |none=>exact hd
 |some v=>
  show(if v<0 then(v+(n:Int)).toNat else min v.toNat n)<=n;by_cases hv:v<0;·rw[gU hv];lia
  ·rw[gN hv];exact Nat.min_le_right _ _
theorem Ac (v:Int) (n d:Nat):(if v<0 then max (v+(n:Int)) 0 else min v (n:Int))=((sIx n d (some v):Nat):Int):=by
 show(if v<0 then max (v+(n:Int)) 0 else min v (n:Int))=(((if v<0 then(v+(n:Int)).toNat else min v.toNat n):Nat):Int);by_cases hv:v<0;·simp only[gU hv];lia
 ·simp only[gN hv];lia
theorem zf (lo hi:Option Int) (n:Nat):Builtin.Slice.sliceAdjust lo hi 1 (n:Int)=(((sIx n 0 lo:Nat):Int),((sIx n n hi:Nat):Int)):=by
 have h1:¬((1:Int)<0):=by lia
 unfold Builtin.Slice.sliceAdjust;simp only[h1,if_false];refine Prod.ext ?_ ?_
 ·cases lo with
  |none=>rfl
  |some v=>exact Ac v n 0
 ·cases hi with
  |none=>rfl
  |some v=>exact Ac v n n
theorem zg (i j:Nat):Builtin.Slice.slicePlaces (i:Int) (j:Int) 1=j-i:=by
 unfold Builtin.Slice.slicePlaces;have h1:(1:Int)>0:=by lia
 simp only[h1,if_true,Int.ediv_one];split<;>lia
theorem sE {v:Zz} {o:Option Int} {Q:Option Int->Zy->Prop} (p:IsPart v o) (h:Q o s):wpAny (model prog w) A (Builtin.Slice.slicePartIndex v) Q E s:=by
 cases p with
 |none=>exact slicePart_none h
 |int i t=>exact slicePart_int h
theorem qd {sl:Zx} {vl vu:Zz} {lo hi:Option Int} {n:Nat} {Q:Int×Int×Nat->Zy->Prop} (hs:s.heap.IsSliceOf sl vl vu .none) (pl:IsPart vl lo) (pu:IsPart vu hi)
  (h:Q (((sIx n 0 lo:Nat):Int),1,sIx n n hi-sIx n 0 lo) s):wpAny (model prog w) A (Builtin.Slice.sliceApplied (.ref sl) (pure (n:Int))) Q E s:=by obtain⟨os,hos,hcs,hds⟩:=id hs;unfold Builtin.Slice.sliceApplied Builtin.Slice.sliceFields;refine wpAny_bind (wpAny_bind (wpAny_field hos hds (x:=vl) rfl (wpAny_bind (wpAny_field hos hds (x:=vu) rfl (wpAny_bind (wpAny_field hos hds (x:= .none) rfl (wpAny_pure ?_)))))));refine wpAny_bind (slicePart_none ?_);show wpAny _ _ (if((1:Int)==0)=true then _ else _) _ _ s;rw[gN (by decide)];refine wpAny_bind (sE pl (wpAny_bind (sE pu (wpAny_bind (wpAny_pure ?_)))));show wpAny _ _ (match Builtin.Slice.sliceAdjust lo hi 1 (n:Int)with|(lo,hi)=>pure (lo,(1:Int),Builtin.Slice.slicePlaces lo hi 1)) _ _ s;rw[zf lo hi n];show wpAny _ _ (pure (((sIx n 0 lo:Nat):Int),(1:Int),Builtin.Slice.slicePlaces ((sIx n 0 lo:Nat):Int) ((sIx n n hi:Nat):Int) 1)) _ _ s;rw[zg];exact wpAny_pure h
theorem Cb (xs:Array Zz) (i k:Nat):((aa k).filterMap fun(m:Nat)=>xs[((i:Int)+(m:Int)*1).toNat]?).toArray=((xs.toList.drop i).take k).toArray:=by
 have e:(fun(m:Nat)=>xs[((i:Int)+(m:Int)*1).toNat]?)=fun m=>xs[i+m]?:=by
  funext m;have:((i:Int)+(m:Int)*1).toNat=i+m:=by lia
  rw[this]
 rw[e];have:=pick_run xs i k;rw[List.filterMap_map]at this;have e2:((fun x=>xs[x]?)∘fun x=>i+x)=fun m=>xs[i+m]?:=rfl;rw[e2]at this;rw[this]
theorem getItem_tuple_cut {t sl:Zx} {items:Array Zz} {vl vu:Zz} {lo hi:Option Int} {Q:Zb} (ht:IsTup s.heap t items) (hs:s.heap.IsSliceOf sl vl vu .none) (pl:IsPart vl lo) (pu:IsPart vu hi)
  (hw:¬(sIx items.size 0 lo=0/\sIx items.size items.size hi=items.size))
  (h:Q (.ref s.heap.objs.size) {s with heap:=s.heap.push {cls:= .type "tuple",data:= .seq ((items.toList.drop (sIx items.size 0 lo)).take (sIx items.size items.size hi-sIx items.size 0 lo)).toArray}})
  (hsz:items.size<=sizeLine):wpAny (model prog w) A (getItem (.ref t) (.ref sl)) Q E s:=by
 have htake:sizeOk (.seq ((items.toList.drop (sIx items.size 0 lo)).take (sIx items.size items.size hi-sIx items.size 0 lo)).toArray):=by show((items.toList.drop (sIx items.size 0 lo)).take (sIx items.size items.size hi-sIx items.size 0 lo)).toArray.size<=sizeLine;rw[aY,aK,aZ,fD];lia
 have hj:sIx items.size items.size hi<=items.size:=Gg _ _ (cW _) hi;obtain⟨os,hos,hcs,hds⟩:=id hs;have hTs:s.TypeIs (.ref sl) "slice":=⟨os,hos,hcs⟩;unfold getItem;try with_reducible refine wpAny_holding ?_
 first|refine wpAny_bind (wpAny_pure ?_)|skip
 refine wpAny_bind (wpAny_sequenceKey ht.typeIs (by decide) ?_);refine wpAny_bind (wpAny_callSpecial?_slot (name:=Str.ofString "__getitem__") ht.typeIs fY
  (wpAny_call_entry fY ht.typeIs entry_tuple_getitem ?_ (args_tuple_getitem _ _)));show wpAny _ _ (Builtin.Tuple.tupleItemsOf (.ref t) >>= _) _ _ s;refine wpAny_bind (tupleItemsOf_ ht ?_);refine wpAny_bind (wpAny_typeOf hTs ?_);rw[gU (by decide)];refine wpAny_bind (qd hs pl pu ?_);have hno:¬((((sIx items.size 0 lo:Nat):Int)==0&&(1:Int)==1&&(sIx items.size items.size hi-sIx items.size 0 lo)==items.size)=true):=by intro q;rw[fz,fz]at q;have q1:((sIx items.size 0 lo:Nat):Int)=0:=eq_of_beq q.1.1;have q2:sIx items.size items.size hi-sIx items.size 0 lo=items.size:=eq_of_beq q.2;exact hw ⟨by lia,by lia⟩
 show wpAny _ _ (if(((sIx items.size 0 lo:Nat):Int)==0&&(1:Int)==1&&(sIx items.size items.size hi-sIx items.size 0 lo)==items.size)=true then _ else _) _ _ s;rw[gN hno,Cb];first
  |exact wpAny_bind (m:=Builtin.Tuple.tupleExact _) (wpAny_newObj_type (wpAny_pure ⟨_,rfl,wpAny_pure h⟩) htake)
  |exact wpAny_bind (m:=Builtin.Tuple.tupleExact _) (wpAny_newObj_type (wpAny_bind (wpAny_pure (wpAny_pure ⟨_,rfl,wpAny_pure h⟩))) htake)
  |exact wpAny_bind (wpAny_bind (m:=Builtin.Tuple.tupleExact _) (wpAny_newObj_type (wpAny_pure (wpAny_pure ⟨_,rfl,wpAny_pure h⟩)) htake))
  |exact wpAny_bind (wpAny_bind (m:=Builtin.Tuple.tupleExact _) (wpAny_newObj_type (wpAny_pure ⟨_,rfl,wpAny_pure h⟩) htake))
end
end HT.Internal
namespace L2.Internal
open PySem PySem.Spec PyProof.Rows
abbrev TO:=St->Hp->(Option Int->Hp->Prop)->Prop
def PO (X:Cx) (e:Option Zr) (t:TO):Prop:=
 ∀(pz:Za) (s:Zy) (σ:St) (H:Hp) (Q:Option Int->Hp->Prop),Inv X pz σ H s->t σ H Q->
  wpAny (model X.prog X.w) X.A (evalPart e X.env) (fun u s'=>∃o H',Inv X pz σ H' s'/\IsPart u o/\Q o H') X.xe s
def Eh:TO:=fun _ H Q=>Q none H
def Io (t:TE):TO:=fun σ H Q=>t σ H fun x H1=>∃i,x= .int i/\Q (some i) H1
theorem zh {ns:List Int}:∀{us:List Zz},iU (ns.map V.int) us->IntsAre us ns:=by
 induction ns with
 |nil=>intro us r;rw[aX]at r;cases r;exact .nil
 |cons n ns ih=>
  intro us r;rw[aC]at r
  cases r with
  |cons r1 r2=>obtain⟨t,e⟩:=r1;subst e;exact .cons n t (ih r2)
section
variable {X:Cx} {e:Zr} {te:TE} {lo hi:Option Zr} {tl th:TO} {pos p2:Pos}
theorem oS:PO X none Eh:=by intro pz s σ H Q I h;rw[evalPart_none];exact wpAny_pure ⟨none,H,I,.none,h⟩
theorem mC (h:PE X e te):PO X (some e) (Io te):=by intro pz s σ H Q I hw;rw[evalPart_some];refine thn (h pz s σ H _ I hw) ?_;rintro u s1 ⟨x,H1,I1,r1,q1⟩;obtain⟨i,rfl,q⟩:=q1;obtain⟨t,rfl⟩:=r1;exact⟨some i,H1,I1,.int i t,q⟩
def SlR (X:Cx) (r:V->Option Int->Option Int->Hp->VK->Prop):Prop:=
 ∀(pz:Za) (s:Zy) (σ:St) (H:Hp) (x:V) (v vl vu:Zz) (lo hi:Option Int) (sl:Zx) (Q:VK),Inv X pz σ H s->iQ x v->s.heap.IsSliceOf sl vl vu .none->IsPart vl lo->IsPart vu hi->r x lo hi H Q->
  ∃T id,typeLookup (.type T) "__getitem__"=pure (some (.builtin id))/\s.TypeIs v T/\wpAny (model X.prog X.w) X.A (getItem v (.ref sl)) (EP X pz σ Q) X.xe s
def tSl (r:V->Option Int->Option Int->Hp->VK->Prop) (te:TE) (tl th:TO):TE:=fun σ H Q=>te σ H fun x H1=>tl σ H1 fun l H2=>th σ H2 fun u H3=>r x l u H3 Q
theorem lT {r:V->Option Int->Option Int->Hp->VK->Prop} (hr:SlR X r) (he:PE X e te) (hl:PO X lo tl) (hu:PO X hi th):PE X (.Subscript e (.Slice lo hi none p2) pos) (tSl r te tl th):=by intro pz s σ H Q I h;refine Subscript_ (thn (he pz s σ H _ I h) ?_);rintro v s1 ⟨x,H1,I1,r1,q1⟩;refine wpAny_Slice (thn (hl pz s1 σ H1 _ I1 q1) fun vl s2 ⟨l,H2,I2,pl,q2⟩=>thn (hu pz s2 σ H2 _ I2 q2) ?_);rintro vu s3 ⟨u,H3,I3,pu,q3⟩;rw[evalPart_none];refine wpAny_pure ?_;have I4:Inv X pz σ H3 {s3 with heap:=s3.heap.push {cls:= .type "slice",data:= .fields #[vl,vu,.none]}}:=I3.kept (t':=s3.toks) fun b ob q=>fS _ q;obtain⟨T,id,hT,ht,hg⟩:=hr pz {s3 with heap:=s3.heap.push {cls:= .type "slice",data:= .fields #[vl,vu,.none]}} σ H3 x v vl vu l u s3.heap.objs.size Q I4 r1 (Heap.IsSliceOf.new ..) pl pu q3;show wpAny (model X.prog X.w) X.A (subscriptTail e (.Slice lo hi none p2) v (.ref s3.heap.objs.size)) (EP X pz σ Q) X.xe {s3 with heap:=s3.heap.push {cls:= .type "slice",data:= .fields #[vl,vu,.none]}};exact tail_any (ops:=[.ref s3.heap.objs.size,v]) ht hT hg (by with_unfolding_all rfl)
def vh (xs:List V) (lo hi:Option Int):List V:=(xs.drop (HT.Internal.sIx xs.length 0 lo)).take (HT.Internal.sIx xs.length xs.length hi-HT.Internal.sIx xs.length 0 lo)
theorem qM (xs:List V) (lo hi:Option Int):(vh xs lo hi).length<=xs.length:=by unfold vh;rw[aK,aZ];lia
def rSlT (K:Zp):V->Option Int->Option Int->Hp->VK->Prop:=fun x lo hi H Q=>∃a xs,x= .ref a/\SqT K H a xs/\
 ¬(HT.Internal.sIx xs.length 0 lo=0/\HT.Internal.sIx xs.length xs.length hi=xs.length)/\∀p,H p=none->Q (.ref p) (upd H p (.tup (vh xs lo hi)))
theorem Gh:SlR X (rSlT X.K):=by
 intro pz s σ H x v vl vu lo hi sl Q I rx hs pl pu h;obtain⟨a,xs,rfl,hx,hw,q⟩:=h;cases rx;obtain⟨its,r,ht,hz⟩:=I.tuple hx;have hlen:its.toArray.size=xs.length:=by rw[aY];exact r.length.symm
 refine⟨"tuple",_,fY.lookup,ht.typeIs,?_⟩;refine HT.Internal.getItem_tuple_cut ht hs pl pu (by rw[hlen];exact hw) ?_ (by rw[hlen];exact hz);rw[hlen];refine⟨.ref s.heap.objs.size,_,I.laid (t':=s.toks) (o:= .tup (vh xs lo hi)) (fun b ob q=>fS _ q) (cW _) ?_,rfl,q _ (I.hok.fresh (cW _))⟩;exact⟨cQ (qM xs lo hi) hz,_,(r.drop (HT.Internal.sIx xs.length 0 lo)).take (HT.Internal.sIx xs.length xs.length hi-HT.Internal.sIx xs.length 0 lo),yW.new _ _⟩
def Ip (K:Zp):R2:=fun x y H Q=>∃a b xs ys,x= .ref a/\y= .ref b/\SqT K H a xs/\SqT K H b ys/\xs≠[]/\xs.length+ys.length<=sizeLine/\
 (ys=[]->Q (.ref a) H)/\(ys≠[]->∀p,H p=none->Q (.ref p) (upd H p (.tup (xs++ys))))
theorem iU.nil_iff {xs:List V} {us:List Zz} (r:iU xs us):us=[]↔xs=[]:=by
 cases r with
 |nil=>simp
 |cons _ _=>simp
theorem Ei:OpR X (binaryOp .Add) (Ip X.K):=by intro pz s σ H x y v u Q I rx ry h;obtain⟨a,b,xs,ys,rfl,rfl,ha,hb,hx,hz,q1,q2⟩:=h;cases rx;cases ry;obtain⟨its,r1,p1,_⟩:=I.tuple ha;obtain⟨its2,r2,p2,_⟩:=I.tuple hb;refine HT.Internal.cat_tup p1 p2 (fun z=>hx (r1.nil_iff.mp z)) (fun z=>⟨.ref a,H,I,rfl,q1 (r2.nil_iff.mp z)⟩) (fun z=>?_) (by rw[<-r1.length,<-r2.length];exact hz);refine⟨.ref s.heap.objs.size,_,I.laid (t':=s.toks) (o:= .tup (xs++ys)) (fun b ob q=>fS _ q) (cW _) ?_,rfl,q2 (fun w=>z (r2.nil_iff.mpr w)) _ (I.hok.fresh (cW _))⟩;exact⟨by rw[aR];exact hz,_,r1.append r2,yW.new _ _⟩
end
def ixN (n:Nat) (i:Int):Option Nat:=if 0<=i then(if i<n then some i.toNat else none)else if-(n:Int)<=i then some (i+n).toNat else none
def atI {α:Type} (xs:List α) (i:Int):Option α:=(ixN xs.length i).bind fun j=>xs[j]?
theorem Ad {n:Nat} {i:Int} {j:Nat} (h:ixN n i=some j):seqIndex? i n=some j/\j<n/\-(n:Int)<=i/\i<n:=by
 unfold ixN at h;by_cases h0:0<=i
 ·rw[gU h0]at h;by_cases h1:i<n;·rw[gU h1]at h;have e:i.toNat=j:=dE.inj h;exact⟨by rw[seqIndex_of h0 h1,e],by lia,by lia,h1⟩
  ·rw[gN h1]at h;cases h
 ·rw[gN h0]at h;by_cases h1: -(n:Int)<=i;·rw[gU h1]at h;have e:(i+n).toNat=j:=dE.inj h;exact⟨by rw[seqIndex_neg (by lia) h1,e],by lia,h1,by lia⟩
  ·rw[gN h1]at h;cases h
theorem wF {α:Type} {xs:List α} {i:Int} {v:α} (h:atI xs i=some v):∃j,seqIndex? i xs.length=some j/\xs[j]?=some v/\j<xs.length/\-(xs.length:Int)<=i/\i<xs.length:=by
 unfold atI at h
 cases e:ixN xs.length i with
 |none=>rw[e]at h;cases h
 |some j=>rw[e]at h;obtain⟨h1,h2,h3,h4⟩:=Ad e;exact⟨j,h1,h,h2,h3,h4⟩
theorem gq {α:Type} {xs:List α} {j:Nat} {v:α} (h:xs[j]?=some v):atI xs (j:Int)=some v:=by
 have hj:j<xs.length:=(au.mp h).1;have e:ixN xs.length (j:Int)=some j:=by unfold ixN;rw[gU (by lia),gU (by lia)];simp
 unfold atI;rw[e];exact h
def Ej (b:Zr):Prop:=∀o i,subscripted b false o i=operate [o,i] (getItem o i)
def IxR (X:Cx) (r:R2):Prop:=
 ∀(value slice:Zr) (pz:Za) (s:Zy) (σ:St) (H:Hp) (x y:V) (v u:Zz) (Q:VK),Inv X pz σ H s->iQ x v->iQ y u->r x y H Q->
  subscripted slice false v u=operate [v,u] (getItem v u)->wpAny (model X.prog X.w) X.A (subscriptTail value slice v u) (EP X pz σ Q) X.xe s
def MtR (X:Cx) (id:String) (r:V->List V->Hp->VK->Prop):Prop:=
 ∀(pz:Za) (s:Zy) (σ:St) (H:Hp) (x:V) (xs:List V) (v:Zz) (us:List Zz) (Q:VK),Inv X pz σ H s->iQ x v->iU xs us->r x xs H Q->
  wpAny (model X.prog X.w) X.A (call (.builtin id) (v::us)) (EP X pz σ Q) X.xe s
section
variable {X:Cx} {a b:Zr} {ta tb:TE} {pos:Pos}
theorem gy {r:R2} (hr:IxR X r) (ha:PE X a ta) (hb:PE X b tb) (hs:Ej b:=by exact fun _ _=>rfl):PE X (.Subscript a b pos) (tOp r ta tb):=by intro pz s σ H Q I h;exact Subscript_ (HY ha hb I h fun v u s2 x y H2 I2 rx ry q=>hr a b pz s2 σ H2 x y v u Q I2 rx ry q (hs _ _))
def rIxL (K:Zp):R2:=fun x y H Q=>∃p xs i v,x= .ref p/\y= .int i/\SqL K H p xs/\atI xs i=some v/\Q v H
def rIxT (K:Zp):R2:=fun x y H Q=>∃p xs i v,x= .ref p/\y= .int i/\SqT K H p xs/\atI xs i=some v/\Q v H
def rIxS:R2:=fun x y H Q=>∃z i c,x= .str z/\y= .int i/\z.length<=sizeLine/\atI z.cps.toList i=some c/\Q (.str ⟨#[c]⟩) H
theorem Ae:IxR X (rIxL X.K):=by
 intro value slice pz s σ H x y v u Q I rx ry h hs;obtain⟨p,xs,i,z,rfl,rfl,hq,he,q⟩:=h;cases rx;obtain⟨t,rfl⟩:=ry;obtain⟨its,r,pl,hz⟩:=I.list hq;obtain⟨j,h1,h2,h3,h4,h5⟩:=wF he;obtain⟨w,ew,rw'⟩:=r.get h2;have hl:=r.length;have hn:=sr;have fin:EP X pz σ Q w s:=⟨z,H,I,rw',q⟩;by_cases h0:0<=i
 ·have hj:i.toNat=j:=by rw[seqIndex_of h0 h5]at h1;exact dE.inj h1
  exact item_listR pl.isList h0 (by lia) (by rw[hj];simpa using ew) fin hs
 ·have hj:(i+(its.toArray.size:Int)).toNat=j:=by rw[seqIndex_neg (by lia) h4]at h1;rw[aY,<-hl];exact dE.inj h1
  exact subscriptTail_builtinR (x:=w) pl.isList.typeIs slot_list_getitem.lookup
   (wpAny_getItem_list_neg (Q:=fun r s'=>r=w/\EP X pz σ Q r s') pl.isList (by lia) (by rw[aY]<;>lia) (by lia) (by rw[hj];simpa using ew) ⟨rfl,fin⟩) hs
theorem Gj:IxR X (rIxT X.K):=by
 intro value slice pz s σ H x y v u Q I rx ry h hs;obtain⟨p,xs,i,z,rfl,rfl,hq,he,q⟩:=h;cases rx;obtain⟨t,rfl⟩:=ry;obtain⟨its,r,pl,hz⟩:=I.tuple hq;obtain⟨j,h1,h2,h3,h4,h5⟩:=wF he;obtain⟨w,ew,rw'⟩:=r.get h2;have hl:=r.length;have hn:=sr;have fin:EP X pz σ Q w s:=⟨z,H,I,rw',q⟩;exact subscriptTail_builtinR (x:=w) pl.typeIs slot_tuple_getitem.lookup
  (getItem_tuple (j:=j) (Q:=fun r s'=>r=w/\EP X pz σ Q r s') pl (by lia) (by lia) (by rw[aY,<-hl];exact h1) (by simpa using ew) ⟨rfl,fin⟩) hs
theorem Af:IxR X rIxS:=by
 intro value slice pz s σ H x y v u Q I rx ry h hs;obtain⟨z,i,c,rfl,rfl,hz,he,q⟩:=h;obtain⟨t,rfl⟩:=rx;obtain⟨t',rfl⟩:=ry;obtain⟨j,h1,h2,h3,h4,h5⟩:=wF he;have hl:z.cps.toList.length=z.length:=by simp[Str.length]
 rw[hl]at h1 h4 h5;have hn:=sr;exact tail_any (typeIs_str s z t) slot_str_getitem.lookup (getItem_str (c:=c) (by have e1:decide (i< -(2^63:Int))=false:=ik (by lia);have e2:decide (i≥2^63)=false:=ik (by lia);rw[e1,e2,Bool.or_false]) (by rw[h1];simpa using h2) ⟨.str ⟨#[c]⟩,H,I.tok _,⟨_,rfl⟩,q⟩) hs
theorem zi (its:List Zz) (n j:Nat) (u:Zz):Obj.mapSeq (·.setIfInBounds j u) {cls:= .type "list",data:= .seq its.toArray n}={cls:= .type "list",data:= .seq (its.set j u).toArray n}:=by simp[Obj.mapSeq]
theorem Inv.lst {pz:Za} {σ:St} {H:Hp} {s:Zy} {p:Zx} {xs:List V} (I:Inv X pz σ H s) (h:H p=some (.lst xs)):
  ∃(its:List Zz) (n:Nat),iU xs its/\s.heap.get? p=some {cls:= .type "list",data:= .seq its.toArray n}/\xs.length<=sizeLine:=by obtain⟨z,its,n,r,e⟩:=I.hok p _ h;exact⟨its,n,r,e,z⟩
theorem Inv.lstUpd {pz:Za} {σ:St} {H:Hp} {s:Zy} {p:Zx} {xs ys:List V} {its its':List Zz} {n n':Nat} {f:Obj->Obj} (I:Inv X pz σ H s) (h:H p=some (.lst xs))
  (ho:s.heap.get? p=some {cls:= .type "list",data:= .seq its.toArray n}) (hf:f {cls:= .type "list",data:= .seq its.toArray n}={cls:= .type "list",data:= .seq its'.toArray n'}) (r:iU ys its') (hz:ys.length<=sizeLine) (t:Nat):
  Inv X pz σ (upd H p (.lst ys)) {s with heap:=s.heap.update p f,toks:=t}:=by
 have e:(s.heap.update p f).get? p=some {cls:= .type "list",data:= .seq its'.toArray n'}:=by rw[fV f ho (by rw[hf]<;>rfl),hf]
 refine I.write (x:=p) (e:=p) (by rw[h];trivial) (.inl rfl) (fun b u hb q=>(fW _ _ (Ne.symm hb)).trans q) ⟨_,e⟩ ?_;exact⟨hz,its',n',r,e⟩
def Iq:V->V->V->Hp->(Hp->Prop)->Prop:=fun o i v H Q=>∃p xs k j,o= .ref p/\i= .int k/\H p=some (.lst xs)/\ixN xs.length k=some j/\Q (upd H p (.lst (xs.set j v)))
theorem nh:JB X Iq:=by
 intro pz s σ H o i v ov iv u Q I ro ri rv h;obtain⟨p,xs,k,j,rfl,rfl,hp,hj,q⟩:=h;cases ro;obtain⟨t,rfl⟩:=ri;obtain⟨its,n,r,ho,hz⟩:=I.lst hp;obtain⟨h1,h2,h3,h4⟩:=Ad hj;have hl:=r.length;have hn:=sr;have I':Inv X pz σ (upd H p (.lst (xs.set j v))) {s with heap:=s.heap.update p (Obj.mapSeq (·.setIfInBounds j u))}:=
  I.lstUpd hp ho (zi its n j u) (r.set rv j) (by rw[List.length_set];exact hz) s.toks;by_cases h0:0<=k
 ·have hk:k.toNat=j:=by rw[seqIndex_of h0 h4]at h1;exact dE.inj h1
  exact PySem.W.ki_setAt ho h0 (by lia) (by rw[aY,<-hl];exact h4) (by rw[hk];exact⟨_,I',q⟩)
 ·have hk:(k+(its.toArray.size:Int)).toNat=j:=by rw[seqIndex_neg (by lia) h3]at h1;rw[aY,<-hl];exact dE.inj h1
  exact PySem.W.ki_setBack ho (by lia) (by rw[aY,<-hl];exact h3) (by lia) (by rw[hk];exact⟨_,I',q⟩)
theorem vj (lo hi:Option Int) (n:Nat):(sliceBounds lo hi none n).1=((HT.Internal.sIx n 0 lo:Nat):Int)/\(sliceBounds lo hi none n).2.1=((HT.Internal.sIx n n hi:Nat):Int)/\(sliceBounds lo hi none n).2.2=1:=by
 refine⟨?_,?_,rfl⟩
 ·cases lo with
  |none=>simp[sliceBounds,HT.Internal.sIx]
  |some i=>
   simp only[sliceBounds,HT.Internal.sIx,Option.getD_none,show(1:Int)>0 by decide,if_true];by_cases h:i<0;·simp only[h,if_true]<;>lia
   ·simp only[h,if_false]<;>lia
 ·cases hi with
  |none=>simp[sliceBounds,HT.Internal.sIx]
  |some i=>
   simp only[sliceBounds,HT.Internal.sIx,Option.getD_none,show(1:Int)>0 by decide,if_true];by_cases h:i<0;·simp only[h,if_true]<;>lia
   ·simp only[h,if_false]<;>lia
theorem tG (its:List Zz) (lo hi:Option Int):slicePick its.toArray lo hi none=((its.drop (HT.Internal.sIx its.length 0 lo)).take (HT.Internal.sIx its.length its.length hi-HT.Internal.sIx its.length 0 lo)).toArray:=by obtain⟨h1,h2,h3⟩:=vj lo hi its.toArray.size;unfold slicePick;rw[h1,h2,h3];simp only[sliceRange_one,pick_run,aY]<;>rfl
def rSlL (K:Zp):V->Option Int->Option Int->Hp->VK->Prop:=fun x lo hi H Q=>∃a xs,x= .ref a/\SqL K H a xs/\∀p,H p=none->Q (.ref p) (upd H p (.lst (vh xs lo hi)))
theorem tH:SlR X (rSlL X.K):=by intro pz s σ H x v vl vu lo hi sl Q I rx hs pl pu h;obtain⟨a,xs,rfl,hx,q⟩:=h;cases rx;obtain⟨its,r,ht,hz⟩:=I.list hx;have hlen:=r.length;refine⟨"list",_,slot_list_getitem.lookup,ht.isList.typeIs,?_⟩;refine wpAny_getItem_list_slice ht.isList hs pl pu .none (by simp) ?_ (by rw[aY]<;>lia);rw[tG,<-hlen];refine⟨.ref s.heap.objs.size,_,I.laid (t':=s.toks) (o:= .lst (vh xs lo hi)) (fun b ob q=>fS _ q) (cW _) ?_,rfl,q _ (I.hok.fresh (cW _))⟩;exact⟨cQ (qM xs lo hi) hz,_,0,(r.drop (HT.Internal.sIx xs.length 0 lo)).take (HT.Internal.sIx xs.length xs.length hi-HT.Internal.sIx xs.length 0 lo),fQ _ rfl⟩
def qe:V->Bool
 | .non=>true
 | .bl _=>true
 | .int _=>true
 | .str _=>true
 |_=>false
def eqV:V->V->Bool
 | .non,.non=>true
 | .bl a,.bl b=>a==b
 | .bl a,.int b=>(if a then 1 else 0)==b
 | .int a,.bl b=>a==(if b then 1 else 0)
 | .int a,.int b=>a==b
 | .str a,.str b=>a==b
 |_,_=>false
theorem vm {A:Zw} {s:Zy} {y x:V} {u v:Zz} (ry:iQ y u) (rx:iQ x v) (fy:qe y=true) (fx:qe x=true):SeqAt.EqAt A s u v (eqV y x):=by
 cases y with
 |non=>
  cases ry
  cases x with
  |non=>cases rx;exact SeqAt.EqAt.same _
  |bl b=>cases rx;exact SeqAt.EqAt.none_bool b
  |int b=>obtain⟨t,rfl⟩:=rx;exact SeqAt.EqAt.none_int b t
  |str b=>obtain⟨t,rfl⟩:=rx;exact SeqAt.EqAt.none_str b t
  |_=>exact absurd (show false=true from fx) fu
 |bl a=>
  cases ry
  cases x with
  |non=>cases rx;exact SeqAt.EqAt.bool_none a
  |bl b=>cases rx;exact SeqAt.EqAt.bool_bool a b
  |int b=>obtain⟨t,rfl⟩:=rx;exact SeqAt.EqAt.bool_int a b t
  |str b=>obtain⟨t,rfl⟩:=rx;exact SeqAt.EqAt.bool_str a b t
  |_=>exact absurd (show false=true from fx) fu
 |int a=>
  obtain⟨t',rfl⟩:=ry
  cases x with
  |non=>cases rx;exact SeqAt.EqAt.int_none a t'
  |bl b=>cases rx;exact SeqAt.EqAt.int_bool a t' b
  |int b=>obtain⟨t,rfl⟩:=rx;exact SeqAt.EqAt.int_int a t' b t
  |str b=>obtain⟨t,rfl⟩:=rx;exact SeqAt.EqAt.int_str a t' b t
  |_=>exact absurd (show false=true from fx) fu
 |str a=>
  obtain⟨t',rfl⟩:=ry
  cases x with
  |non=>cases rx;exact SeqAt.EqAt.str_none a t'
  |bl b=>cases rx;exact SeqAt.EqAt.str_bool a t' b
  |int b=>obtain⟨t,rfl⟩:=rx;exact SeqAt.EqAt.str_int a t' b t
  |str b=>obtain⟨t,rfl⟩:=rx;exact SeqAt.EqAt.str_str a t' b t
  |_=>exact absurd (show false=true from fx) fu
 |_=>exact absurd (show false=true from fy) fu
def eqU (x:V) (u:Zz):Bool:=match u with
 | .none=>eqV .non x
 | .bool b=>eqV (.bl b) x
 | .int i _=>eqV (.int i) x
 | .str z _=>eqV (.str z) x
 |_=>false
theorem CY {x y:V} {u:Zz} (r:iQ y u) (f:qe y=true):eqU x u=eqV y x:=by
 cases y with
 |non=>cases r;rfl
 |bl b=>cases r;rfl
 |int i=>obtain⟨t,rfl⟩:=r;rfl
 |str z=>obtain⟨t,rfl⟩:=r;rfl
 |_=>exact absurd (show false=true from f) fu
theorem wG {x:V}:∀{xs:List V} {us:List Zz},iU xs us->xs.all qe=true->us.any (eqU x)=xs.any fun y=>eqV y x
 |_,_,.nil,_=>rfl
 |y::xs,u::us,.cons r t,f=>by rw[ba,fz]at f;rw[aU,aU,CY r f.1,wG t f.2]
theorem tI {A:Zw} {s:Zy} {x:V} {v:Zz} (rx:iQ x v) (fx:qe x=true):∀{xs:List V} {us:List Zz},iU xs us->xs.all qe=true->∀u∈us,SeqAt.EqAt A s u v (eqU x u)
 |_,_,.nil,_=>fun u hu=>by cases hu
 |y::xs,u::us,.cons r t,f=>fun u' hu=>by
  rw[ba,fz]at f;rcases ak.mp hu with rfl|hu;·rw[CY r f.1];exact vm r rx f.1 fx
  ·exact tI rx fx t f.2 u' hu
def inV (x:V) (xs:List V):Bool:=xs.any fun y=>eqV y x
def rIn (K:Zp) (neg:Bool):R2:=fun x y H Q=>∃p xs,y= .ref p/\(SqL K H p xs\/SqT K H p xs)/\qe x=true/\xs.all qe=true/\Q (.bl (if neg then !inV x xs else inV x xs)) H
theorem vn:OpR X (compareOp .In) (rIn X.K false):=by
 intro pz s σ H x y v u Q I rx ry h;obtain⟨p,xs,rfl,hq,fx,fs,q⟩:=h;cases ry;rcases hq with hq|hq;·obtain⟨its,r,pl,hz⟩:=I.list hq;refine SeqAt.in_listAt (eqU x) pl.isList (fun w hw=>tI rx fx r fs w (by simpa using hw)) ⟨.bl _,H,I,rfl,?_⟩;rw[show its.toArray.any (eqU x)=its.any (eqU x) by simp,wG r fs];exact q
 ·obtain⟨its,r,pl,hz⟩:=I.tuple hq;refine SeqAt.in_tupleAt (eqU x) pl (fun w hw=>tI rx fx r fs w (by simpa using hw)) ⟨.bl _,H,I,rfl,?_⟩;rw[show its.toArray.any (eqU x)=its.any (eqU x) by simp,wG r fs];exact q
theorem gQ:ny X (.builtin "len") (fun xs H Q=>∃p ys,xs=[.ref p]/\(SqL X.K H p ys\/SqT X.K H p ys)/\Q (.int ys.length) H):=by
 intro pz s σ H xs us Q I r h;obtain⟨p,ys,rfl,hq,q⟩:=h;obtain⟨u,rfl,rx⟩:=mz r;cases rx;have hn:=sr;rcases hq with hq|hq;·obtain⟨its,r',pl,hz⟩:=I.list hq;have hlen:=r'.length;exact Calls.call_len_list pl.isList (by simp only[aY]<;>lia) ⟨.int ys.length,H,I.tok _,⟨s.toks+ 1,by rw[aY,hlen]⟩,q⟩
 ·obtain⟨its,r',pl,hz⟩:=I.tuple hq;have hlen:=r'.length;exact len_tuple pl (by simp only[aY]<;>lia) ⟨.int ys.length,H,I.tok _,⟨s.toks+ 1,by rw[aY,hlen]⟩,q⟩
theorem pT:ny X (.builtin "len") (fun xs H Q=>∃z,xs=[.str z]/\z.length<=sizeLine/\Q (.int z.length) H):=by intro pz s σ H xs us Q I r h;obtain⟨z,rfl,hz,q⟩:=h;obtain⟨u,rfl,t,rfl⟩:=mz r;have hn:=sr;exact len_str (by lia) ⟨.int z.length,H,I.tok _,⟨_,rfl⟩,q⟩
theorem jN:ny X (.type "tuple") (fun xs H Q=>∃p ys,xs=[.ref p]/\((SqL X.K H p ys/\∀l,H l=none->Q (.ref l) (upd H l (.tup ys)))\/(SqT X.K H p ys/\Q (.ref p) H))):=by
 intro pz s σ H xs us Q I r h;obtain⟨p,ys,rfl,h⟩:=h;obtain⟨u,rfl,rx⟩:=mz r;cases rx;rcases h with⟨hq,q⟩|⟨hq,q⟩
 ·obtain⟨its,r',pl,hz⟩:=I.list hq;have hlen:=r'.length;refine call_tuple_list pl.isList (fun h' kp=>?_) (by simp only[aY]<;>lia);have I1:Inv X pz σ H {s with heap:=h'}:=I.kept (t':=s.toks) kp;have I2:Inv X pz σ (upd H h'.objs.size (.tup ys)) {s with heap:=h'.push {cls:= .type "tuple",data:= .seq its.toArray}}:=
   I1.laid (t':=s.toks) (fun b o e=>fS _ e) (cW _) (show jL X.prog X.w _ _ _ (.tup ys)from⟨hz,its,r',yW.new _ _⟩);exact⟨.ref h'.objs.size,_,I2,rfl,q _ (I1.hok.fresh (cW _))⟩
 ·obtain⟨its,r',pl,hz⟩:=I.tuple hq;exact call_tuple_same pl ⟨.ref p,H,I,rfl,q⟩
def tyV (K:Zp) (T:String) (x:V) (H:Hp):Prop:=match x with
 | .str _=>T="str"
 | .int _=>T="int"
 | .ref p=>(T="list"/\∃xs,SqL K H p xs)\/(T="tuple"/\∃o,K.lookup p=some o/\o.cls= .type "tuple"/\o.dict=none)\/
   (T="dict"/\((∃kvs,H p=some (.dK kvs))\/∃kvs,H p=some (.dT kvs)))\/(T="set"/\∃S n,H p=some (.set S n))
 |_=>False
theorem CZ {pz:Za} {σ:St} {H:Hp} {s:Zy} {T:String} {x:V} {v:Zz} (I:Inv X pz σ H s) (r:iQ x v) (ty:tyV X.K T x H):
  s.TypeIs v T/\∀a,v= .ref a->∃ob,s.heap.get? a=some ob/\ob.dict=none:=by
 cases x with
 |str z=>obtain⟨t,rfl⟩:=r;cases(show T="str" from ty);exact⟨typeIs_str s z t,fun _ e=>nomatch e⟩
 |int i=>obtain⟨t,rfl⟩:=r;cases(show T="int" from ty);exact⟨typeIs_int s i t,fun _ e=>nomatch e⟩
 |ref p=>
  cases r;rcases ty with⟨rfl,xs,hq⟩|⟨rfl,o,hk,hc,hd⟩|⟨rfl,hk⟩|⟨rfl,S,n,hk⟩;·obtain⟨its,_,pl,_⟩:=I.list hq;refine⟨pl.isList.typeIs,fun a e=>?_⟩;cases e;obtain⟨o,n,e,c,hd,_⟩:=pl;exact⟨o,e,hd⟩
  ·refine⟨⟨o,I.kIn p o hk,hc⟩,fun a e=>?_⟩;cases e;exact⟨o,I.kIn _ o hk,hd⟩
  ·have z:∃o,s.heap.get? p=some o/\o.ExactDict:=by
    rcases hk with⟨kvs,hk⟩|⟨kvs,hk⟩;·obtain⟨_,_,_,_,o,_,_,e,ex,_⟩:=I.hok p _ hk;exact⟨o,e,ex⟩
    ·obtain⟨_,_,_,_,o,_,_,e,ex,_⟩:=I.hok p _ hk;exact⟨o,e,ex⟩
   obtain⟨o,e,ex⟩:=z;refine⟨⟨o,e,ex.1⟩,fun a e2=>?_⟩;cases e2;exact⟨o,e,ex.2.1⟩
  ·obtain⟨o,_,_,_,e,ex,_⟩:=I.hok p _ hk;refine⟨⟨o,e,ex.1⟩,fun a e2=>?_⟩;cases e2;exact⟨o,e,ex.2.1⟩
 |_=>exact False.elim ty
def tBM0 (K:Zp) (T:String) (r:V->List V->Hp->VK->Prop) (to:TE):TE:=fun σ H Q=>to σ H fun x H1=>tyV K T x H1/\r x [] H1 Q
def tBM (K:Zp) (T:String) (r:V->List V->Hp->VK->Prop) (to:TE) (t:TA):TE:=fun σ H Q=>to σ H fun x H1=>tyV K T x H1/\t σ H1 fun xs H2=>r x xs H2 Q
variable {o e:Zr} {es:List Zr} {to:TE} {t:TA} {name:Str} {apos cpos:Pos} {T id:String} {r:V->List V->Hp->VK->Prop}
theorem xZ (pa:PlainAttrs T) (slot:Slot T name id) (hty:typeOf (.builtin id)=pure (.type "method_descriptor")) (hm:MtR X id r) (ho:PE X o to)
  (hbase:autoParam (attributeBase o name X.env (eval o X.env)=eval o X.env) auR._auto_1) (hline:autoParam ((apos.endLine==cpos.line)=true) auR._auto_1):PE X (.Call (.Attribute o name apos) [] [] cpos) (tBM0 X.K T r to):=by intro pz s σ H Q I h;refine wpAny_Call_method0_late hbase hline (thn (ho pz s σ H _ I h) ?_);rintro v s1 ⟨x,H1,I1,r1,ty,q1⟩;obtain⟨h1,h2⟩:=CZ I1 r1 ty;exact⟨T,id,pa,slot,hty,h1,h2,Calls.callWith_builtin rfl (PySem.evalArgs_none (hm pz s1 σ H1 x [] v [] Q I1 r1 .nil q1))⟩
theorem jt (pa:PlainAttrs T) (slot:Slot T name id) (hty:typeOf (.builtin id)=pure (.type "method_descriptor")) (hm:MtR X id r) (ho:PE X o to) (ha:PA X (e::es) t)
  (hbase:autoParam (attributeBase o name X.env (eval o X.env)=eval o X.env) auR._auto_1)
  (hfew:((backTo cpos (starEach (e::es) X.env)).all (fun x=>!x.1)&&(backToKw cpos (keywordEach [] X.env)).all (fun x=>x.1.isSome)
   &&decide ((e::es).length+([]:List Keyword).length+(if([]:List Keyword).isEmpty then 0 else 1)<30))=true:=by rfl)
  (hline:autoParam ((apos.endLine==cpos.line)=true) auR._auto_1) (hs:autoParam (starEach (e::es) X.env=(false,eval e X.env)::starEach es X.env) auR._auto_1) (hplain:autoParam ((backTo cpos (starEach es X.env)).any (·.1)=false) auR._auto_1):
  PE X (.Call (.Attribute o name apos) (e::es) [] cpos) (tBM X.K T r to t):=by intro pz s σ H Q I h;refine wpAny_Call_method_late hbase hfew hline rfl (thn (ho pz s σ H _ I h) ?_);rintro v s1 ⟨x,H1,I1,r1,ty,q1⟩;obtain⟨h1,h2⟩:=CZ I1 r1 ty;refine⟨T,id,pa,slot,hty,h1,h2,?_⟩;have hA:=ha cpos pz s1 σ H1 _ I1 q1;rw[hs]at hA⊢;refine Calls.callWith_builtin (by show(false||(backTo cpos (starEach es X.env)).any (·.1))=false;rw[hplain]<;>rfl) (Calls.evalArgs_plain ?_);exact thn hA fun us s2 ⟨vs,H2,I2,r2,q2⟩=>hm pz s2 σ H2 x vs v us Q I2 r1 r2 q2
end
def MtM (X:Cx) (id:String) (r:V->List V->Hp->VK->Prop):Prop:=
 ∀(pz:Za) (s:Zy) (σ:St) (H:Hp) (x:V) (xs:List V) (v:Zz) (us:List Zz) (Q:VK),Inv X pz σ H s->iQ x v->iU xs us->r x xs H Q->
  wpAny (model X.prog X.w) X.A (call (.builtin id) (v::us)) (EP X pz σ Q) X.xe s
theorem iU.one {x:V} {us:List Zz} (h:iU [x] us):∃u,us=[u]/\iQ x u:=by cases h with|cons r t=>cases t;exact⟨_,rfl,r⟩
theorem iU.zero:∀{us:List Zz},iU [] us->us=[]
 |_,.nil=>rfl
theorem iU.dropLast {xs:List V} {us:List Zz} (h:iU xs us):iU xs.dropLast us.dropLast:=by
 induction h with
 |nil=>exact .nil
 |cons r t ih=>
  cases t with
  |nil=>exact .nil
  |cons q t'=>exact .cons r ih
theorem iU.reverse {xs:List V} {us:List Zz} (h:iU xs us):iU xs.reverse us.reverse:=by
 induction h with
 |nil=>exact .nil
 |cons r t ih=>rw[bc,bc];exact iU.append ih (.cons r .nil)
theorem zj {α:Type} (l:List α):l.eraseIdx (l.length-1)=l.dropLast:=by
 induction l with
 |nil=>rfl
 |cons a r ih=>
  cases r with
  |nil=>rfl
  |cons b r=>
   have e:(a::b::r).length-1=((b::r).length-1)+ 1:=by have h1:(a::b::r).length=r.length+ 2:=rfl;have h2:(b::r).length=r.length+ 1:=rfl;lia
   rw[e,List.eraseIdx_cons_succ,ih];all_goals rfl
section
variable {X:Cx} {pz:Za} {σ:St} {H:Hp} {s:Zy} {l b:Zx} {xs ys zs:List V}
theorem Inv.lset {its its':List Zz} {n:Nat} {f:Array Zz->Array Zz} {t':Nat} (I:Inv X pz σ H s) (hH:H l=some (.lst xs))
  (e:s.heap.get? l=some {cls:= .type "list",data:= .seq its.toArray n}) (hf:f its.toArray=its'.toArray) (hv:iU ys its') (hz:ys.length<=sizeLine):
  Inv X pz σ (upd H l (.lst ys)) {s with heap:=s.heap.update l (Obj.mapSeq f),toks:=t'}:=by have q:=PySem.IsL.update e f;rw[hf]at q;refine I.write (x:=l) (e:=l) (by rw[hH];exact trivial) (.inl rfl) (fun b' u hb hu=>(fW s.heap (Obj.mapSeq f) (Ne.symm hb)).trans hu) ⟨_,q⟩ ?_;exact⟨hz,its',_,hv,q⟩
theorem Inv.lnew {its:List Zz} {t':Nat} (I:Inv X pz σ H s) (hv:iU ys its) (hz:ys.length<=sizeLine):
  Inv X pz σ (upd H s.heap.objs.size (.lst ys)) {s with heap:=s.heap.push {cls:= .type "list",data:= .seq its.toArray},toks:=t'}:=
 I.laid (fun _ _ q=>fS _ q) (cW _) ⟨hz,its,0,hv,fQ _ rfl⟩
theorem Inv.fresh (I:Inv X pz σ H s):H s.heap.objs.size=none:=I.hok.fresh (cW _)
theorem Inv.lstM (I:Inv X pz σ H s) (hH:H l=some (.lst xs)):xs.length<=sizeLine/\∃(its:List Zz) (n:Nat),iU xs its/\xs.length=its.length/\s.heap.get? l=some {cls:= .type "list",data:= .seq its.toArray n}:=by obtain⟨z,its,n,r,e⟩:=I.hok l _ hH;exact⟨z,its,n,r,r.length,e⟩
theorem Cc {n:Nat} (h:n<=sizeLine):Builtin.List.listTooLong n=false:=by unfold Builtin.List.listTooLong;exact ik (by lia)
end
section
variable {X:Cx}
def Ag:V->List V->Hp->VK->Prop:=fun x vs H Q=>∃l xs y,x= .ref l/\vs=[y]/\H l=some (.lst xs)/\xs.length<sizeLine/\Q .non (upd H l (.lst (xs++[y])))
theorem gR:MtM X "list.append" Ag:=by intro pz s σ H x vs v us Q I rx rv h;obtain⟨l,xs,y,rfl,rfl,hH,hz,q⟩:=h;cases rx;obtain⟨u,rfl,ru⟩:=rv.one;obtain⟨z,its,n,r,hl,e⟩:=I.lstM hH;refine call_meets F.slot_list_append ⟨_,e,rfl⟩ F.entry_list_append (F.args_list_append_2 _ _) (PySem.list_append l its.toArray n u (by rw[aY];lia)) ⟨e,?_⟩;refine⟨.non,_,I.lset (its':=its++[u]) hH e (by simp) (r.append (.cons ru .nil)) ?_,rfl,q⟩;rw[aR,bf];lia
def El:V->List V->Hp->VK->Prop:=fun x vs H Q=>∃l b xs zs,x= .ref l/\vs=[.ref b]/\H l=some (.lst xs)/\H b=some (.lst zs)/\xs.length+zs.length<=sizeLine/\Q .non (upd H l (.lst (xs++zs)))
theorem Ah:MtM X "list.extend" El:=by
 intro pz s σ H x vs v us Q I rx rv h;obtain⟨l,b,xs,zs,rfl,rfl,hH,hB,hz,q⟩:=h;cases rx;obtain⟨u,rfl,ru⟩:=rv.one;cases ru;obtain⟨z,its,n,r,hl,e⟩:=I.lstM hH;obtain⟨z2,its2,n2,r2,hl2,e2⟩:=I.lstM hB;have hsz:its.toArray.size+its2.toArray.size<=sizeLine:=by rw[aY,aY];lia
 have hlong:¬(!its.toArray.isEmpty&&Builtin.List.listTooLong (its.toArray.size+its2.toArray.size))=true:=by rw[Cc hsz,fA];exact fu
 refine call_meets F.slot_list_extend ⟨_,e,rfl⟩ F.entry_list_extend (F.args_list_extend_2 _ _)
  (AutoSeq1.list_extend_list_list_0 l its.toArray n b its2.toArray n2 hlong (by rw[aY];lia) (by lia)) ⟨e,e2,?_⟩;refine⟨.non,_,I.lset (its':=its++its2) hH e (by simp) (r.append r2) ?_,rfl,q⟩;rw[aR];lia
def JH:V->List V->Hp->VK->Prop:=fun x vs H Q=>∃l xs y,x= .ref l/\vs=[]/\H l=some (.lst xs)/\xs[xs.length-1]?=some y/\Q y (upd H l (.lst xs.dropLast))
theorem ya:MtM X "list.pop" JH:=by
 intro pz s σ H x vs v us Q I rx rv h;obtain⟨l,xs,y,rfl,rfl,hH,hy,q⟩:=h;cases rx;have hus:=rv.zero;subst hus;obtain⟨z,its,n,r,hl,e⟩:=I.lstM hH;obtain⟨u,hu,ru⟩:=r.get hy;have hy':its.toArray[its.toArray.size-1]?=some u:=by show its.toArray[its.length-1]?=some u;rw[<-fE,<-hl];exact hu
 refine call_meets F.slot_list_pop ⟨_,e,rfl⟩ F.entry_list_pop (F.args_list_pop_1 _) (MeetsSeq.list_pop_last l its.toArray n u hy' (by rw[aY];lia)) ⟨e,?_⟩;refine⟨y,_,I.lset (its':=its.dropLast) hH e ?_ r.dropLast ?_,ru,q⟩;·show its.toArray.eraseIdxIfInBounds (its.toArray.size-1)=its.dropLast.toArray;rw[aY,List.eraseIdxIfInBounds_toArray,zj]
 ·rw[List.length_dropLast];lia
def rCat:R2:=fun x y H Q=>∃l b xs zs,x= .ref l/\y= .ref b/\H l=some (.lst xs)/\H b=some (.lst zs)/\xs.length+zs.length<=sizeLine/\∀p,H p=none->Q (.ref p) (upd H p (.lst (xs++zs)))
theorem pU:OpR X (binaryOp .Add) rCat:=by
 intro pz s σ H x y v u Q I rx ry h;obtain⟨l,b,xs,zs,rfl,rfl,hH,hB,hz,q⟩:=h;cases rx;cases ry;obtain⟨z,its,n,r,hl,e⟩:=I.lstM hH;obtain⟨z2,its2,n2,r2,hl2,e2⟩:=I.lstM hB;refine PySem.P.add_list e e2 ?_ (by rw[aY,aY];lia);have ea:its.toArray++its2.toArray=(its++its2).toArray:=by simp
 rw[ea];exact⟨.ref _,_,I.lnew (t':=s.toks) (r.append r2) (by rw[aR];lia),rfl,q _ I.fresh⟩
end
section
variable {prog:Zu} {w:Zv} {A:Zw} {E:Zb} {s:Zy}
end
section
variable {X:Cx}
end
end L2.Internal
namespace Att.Internal
open PySem PySem.W PySem.Calls PyProof.Rows
theorem qN {P:Params} {h:Zt}:∀(ns:List Int) (vs:List Zz),WellAll P h vs (ns.map WData.int)->IntsAre vs ns:=by
 intro ns
 induction ns with
 |nil=>intro vs w;rw[aX]at w;cases w;exact .nil
 |cons n ns ih=>
  intro vs w;rw[aC]at w
  cases w with
  |cons a b=>cases a;exact .cons _ _ (ih _ b)
theorem Ai {l:OpenLaw} {n:Nat} (hn:l.most=some n) {P:Params} {h:Zt} {args:List WData} {vals:List Zz}
  (hpre:l.row.toRowW.claim.pre args=true) (hwl:WellAll P h vals args):
  ∃a vs ns,vals=[Value.ref a]/\args=[WData.list (ns.map WData.int)]/\h.get? a=some {cls:= .type "list",data:= .seq vs.toArray}/\IntsAre vs ns/\ns.length<=n:=by
 have hsh:WShape.hasAll [] args [.list .int]=true:=(pre_splitW hpre).1;have hc:l.pre.holds [] {args:=args}=true:=(pre_splitW hpre).2;obtain⟨d,r,rfl,h1,h2⟩:=hasAllW_cons hsh;obtain rfl:=hasAllW_nil h2;obtain⟨xs,rfl,h3⟩:=hasW_list h1;obtain⟨ns,rfl⟩:=items_int h3;have hlen:ns.length<=n:=by
  unfold OpenLaw.pre at hc;have h4:(WTm.not (.lt (.lit (.int (n:Int))) (.len (.arg 0)))).holds [] {args:=[.list (ns.map .int)]}=true:=by have h4:=(holds_andW hc).1;rw[hn]at h4;exact h4
  have h5:=condW_of h4 (w_not (w_lt w_lit (w_len_list (w_arg rfl))));rw[aD]at h5;refine Nat.le_of_not_lt fun q=>?_;have q':(n:Int)<((ns.length:Nat):Int):=by lia
  first
   |(rw[hI q']at h5;exact absurd h5 (by decide))
   |(simp at h5;lia)
 cases hwl with
 |cons w1 w2=>
  cases w2
  cases w1 with
  |list ho hall=>exact⟨_,_,ns,rfl,rfl,ho,qN ns _ hall,hlen⟩
theorem Aj (l:OpenLaw) (args:List WData):l.row.toRowW.claim.post args (.bool true) args=true:=
 postW_of (r:=l.row.toRowW) (X:=(true==true))
  (show WShape.has [] (.bool true) .bool=true by first|rfl|decide|simp[WShape.has,WShape.arms,WShape.armsAll])
  (show(WTm.eq .res (.lit (.bool true))).value [] {args:=args,res:=some (.bool true),after:=args}=some (.bool (true==true))from w_eq_bool (w_res rfl) w_lit) rfl
theorem attach_call {l:OpenLaw} {n:Nat} {q:Zu} {loose:Zd} {XP:(Str->Option Zz)->Zt->Prop} {YP:Zv->Zt->Prop} {d:DefRec}
  (hn:l.most=some n) (hdf:d.params.defaults=[])
  (call:∀(w:Zv) (s₀ s₁:Zy) (mg mb:Zc) (fa:Zx) (o:Obj) (pm cd doc:Zz) (a:Zx) (vs:List Zz) (ns:List Int),
   Ground q loose [] XP w s₀ mg mb s₁.heap->YP w s₁.heap->
   s₁.heap.get? fa=some o->o.data= .func (docDef d.name d.params d.body d.scope pm cd doc)->s₁.heap.CodeRec cd d.name->mg d.name=some (.ref fa)->
   s₁.heap.get? a=some {cls:= .type "list",data:= .seq vs.toArray}->IntsAre vs ns->ns.length<=n->s₁.gens=#[]->
   codeAny (model l.prog w) callerA (.call (.ref fa) ⟨[.ref a],[]⟩) (fun r s'=>r= .ok (.ret (.bool true))/\OldK s₁.heap s'.heap/\s'.os=s₁.os/\AllBare s'.gens) s₁):
  WalkO q loose XP YP l.row.toRowW d [] (fun f vs=>PySem.call f vs):=by intro w s₀ s₁ mg mb G Y fa o pm cd doc dV kV ho hd hcd hD hmg hg args vals as hpre hlay hrd hwl hlo;obtain rfl:dV= .none:=Dflts.none hD hdf;obtain rfl:kV= .none:=Dflts.noKw hD;obtain⟨a,vs,ns,rfl,rfl,hobj,hints,hlen⟩:=Ai hn hpre hwl;refine enter_call (codeAny_mono (call w s₀ s₁ mg mb fa o pm cd doc a vs ns G Y ho (fd_plain hd) hcd hmg hobj hints hlen hg) fun r s' hq=>?_);obtain⟨rfl,h2,h3,h4⟩:=hq;exact⟨.inl ⟨.bool true,.bool true,[],rfl,fun _=>rfl,.bool true,Aj l _,fun _=>⟨List.Pairwise.nil,fun _ hm=>(nomatch hm)⟩⟩,h2,h3,h4⟩
section
variable {prog:Zu} {w:Zv} {A:Zw} {E:Zb} {s:Zy} {K:Frag}
end
end Att.Internal
namespace L2.Internal
open PySem PySem.Spec PyProof.Rows
theorem vp:∀{vs:List Zz} {ns:List Int},IntsAre vs ns->iU (ns.map V.int) vs
 |_,_,.nil=> .nil
 |_,_,.cons n t h=> .cons ⟨t,rfl⟩ (vp h)
def Ir (H:Hp):Prop:=∀b,H b=none\/∃o xs,H b=some (.frz o (.lst xs))
theorem Cd {P:Zu} {w:Zv} {K:Zp} {mg mb:Zc} {CX:CXT} {k:Nat} {fa a:Zx} {fd:Zs} {x:Str} {sp:Sp} {s₁:Zy} {vs:List Zz} {ns:List Int}
  (KX:K.In s₁.heap) (hns:s₁.heap.Ns mainGlobals mg) (hb:s₁.heap.Ns builtinsNs mb) (hbb:∀x:Str,x≠"__name__"->mb x=bootBuiltins x) (hlim:s₁.heap.NoLimit) (hg:s₁.gens=#[])
  (ha:s₁.heap.get? a=some {cls:= .type "list",data:= .seq vs.toArray}) (hi:IntsAre vs ns) (hl:ns.length<=sizeLine) (hr:mZ k callerA)
  (F:∀base:Zt,K.In base->base.Ns mainGlobals mg->sA P w K mg base CX k fa fd [x] sp) (hbind:∀(s:Zy) (u:Zz),BindsTo s fd ⟨[u],[]⟩ [(x,u)])
  (hsp:∀H:Hp,Ir H->SqL K H a (ns.map V.int)->sp [.ref a] H (fun v _=>v= .bl true) fun _ _ _=>False)
  (hCX:∀H e s',CX [] H s₁ (fun _ _ _=>False) e s'->False):
  codeAny (model P w) callerA (.call (.ref fa) ⟨[.ref a],[]⟩) (fun r s'=>r= .ok (.ret (.bool true))/\OldK s₁.heap s'.heap/\s'.os=s₁.os/\AllBare s'.gens) s₁:=by
 have rv:=vp hi;have lenV:=hi.length;have core:∀H:Hp,Ir H->SqL K H a (ns.map V.int)->HOk P w H s₁.heap->(∀b,H b≠none->b=a)->(H a≠none->K.lookup a=none)->
   codeAny (model P w) callerA (.call (.ref fa) ⟨[.ref a],[]⟩) (fun r s'=>r= .ok (.ret (.bool true))/\OldK s₁.heap s'.heap/\s'.os=s₁.os/\AllBare s'.gens) s₁:=by
  intro H hO hS hok hA hK;have base_of:∀{b:Zx} {o:Obj},s₁.heap.get? b=some o->H b=none->(B1 s₁.heap H).get? b=some o:=fun e n=>B2 e n;have noA:∀{b:Zx} {o:Obj} {es:Array DictEntry} {ep:Nat},s₁.heap.get? b=some o->o.data= .dict es ep->H b=none:=fun{b o es ep} e d=>by
   cases q:H b with
   |none=>rfl
   |some u=>have e':b=a:=hA b (by rw[q];simp);subst e';rw[ha]at e;cases e;have d':Data.seq vs.toArray _=Data.dict es ep:=d;cases d'
  have nsK:∀{b:Zx} {m:Zc},s₁.heap.Ns b m->(B1 s₁.heap H).Ns b m:=fun{b m} ⟨o,es,ep,e,d,r⟩=>⟨o,es,ep,base_of e (noA e d),d,r⟩;have hKb:K.In (B1 s₁.heap H):=fun b o e=>base_of (KX b o e) (by
   cases q:H b with
   |none=>rfl
   |some u=>have e':b=a:=hA b (by rw[q];simp);subst e';rw[hK (by rw[q];simp)]at e;cases e);have hM:Mod K mg (B1 s₁.heap H):=⟨hKb,nsK hns,⟨mb,nsK hb,hbb⟩,let⟨mc,h1,h2⟩:=hlim;⟨mc,nsK h1,h2⟩⟩;have e0:Ec P w K mg (B1 s₁.heap H) callerA [] s₁ H:=⟨rfl,hM,fun b o e=>D0 e,Nat.le_of_eq (zO _ _),trivial,fun b hb=>absurd (show b∈([]:List Zx)from hb) (by simp),hok,.of_eq hg⟩;refine codeAny_mono ((F _ hKb (nsK hns)).run callerA [] s₁ H ⟨[.ref a],[]⟩ [.ref a] [.ref a] _ _ hr e0 (hbind s₁ (.ref a)) (.cons rfl .nil) (hsp H hO hS)) fun r s' h=>?_
  cases r with
  |error e=>exact(hCX H e s' h).elim
  |ok fl=>
   cases fl with
   |next=>exact False.elim h
   |brk=>exact False.elim h
   |cont=>exact False.elim h
   |ret u=>
    obtain⟨v,H',os,bare,un,hok',r',q⟩:=h;have q':v= .bl true:=q;subst q';obtain rfl:u=Value.bool true:=r';refine⟨rfl,OldK.of_keep fun b o e=>?_,os,bare⟩
    cases q:H b with
    |none=>exact un.keep b o e q (by intro z;exact absurd (show b∈([]:List Zx)from z) (by simp)) (by simp)
    |some u=>
     rcases hO b with z|⟨ob,xs,z⟩;·rw[q]at z;cases z
     ·have z2:=un.frzs b ob _ z;obtain⟨e1,_⟩:=hok b _ z;obtain⟨e2,_⟩:=hok' b _ z2;rw[e]at e1;cases e1;exact e2
 cases hk:K.lookup a with
 |some o=>have e:=KX a o hk;rw[ha]at e;cases e;refine core (fun _=>none) (fun _=> .inl rfl) (.inr ⟨_,vs.toArray,_,hk,rfl,rfl,rfl,by rw[aY,lenV];exact hl,by simpa using rv⟩) (fun b u z=>by have z':(none:Option HO)=some u:=z;cases z') (fun b z=>absurd rfl z) fun z=>absurd rfl z
 |none=>
  refine core (fun b=>if b=a then some (.frz {cls:= .type "list",data:= .seq vs.toArray} (.lst (ns.map V.int)))else none) (fun b=>?_) (.inl (.inr ⟨{cls:= .type "list",data:= .seq vs.toArray},gU rfl⟩)) (fun b u z=>?_) (fun b z=>?_) fun _=>hk
  ·by_cases hb:b=a;·exact .inr ⟨_,_,gU hb⟩
   ·exact .inl (gN hb)
  ·by_cases hb:b=a;·have z':=(gU hb).symm.trans z;cases z';subst hb;exact⟨ha,by rw[aD];exact hl,vs,_,rv,ha⟩
   ·have z':=(gN hb).symm.trans z;cases z'
  ·by_cases hb:b=a;·exact hb
   ·exact absurd (gN hb) z
theorem walk_of {l:PySem.W.OpenLaw} {n k:Nat} {q:Zu} {loose:Zd} {XP:(Str->Option Zz)->Zt->Prop} {YP:Zv->Zt->Prop} {d:DefRec} {K:Params->Zp} {CX:Zv->CXT} {sp:Zv->Sp} {x:Str}
  (hn:l.most=some n) (hn2:n<=sizeLine) (hdf:d.params.defaults=[]) (hr:mZ k callerA)
  (hY:∀(w:Zv) (h:Zt),YP w h->(K w.params).In h)
  (F:∀(w:Zv) (mg:Zc) (fa:Zx) (h:Zt),(K w.params).In h->h.Ns mainGlobals mg->mg d.name=some (.ref fa)->
   ∃fd:Zs,(∀(s:Zy) (u:Zz),BindsTo s fd ⟨[u],[]⟩ [(x,u)])/\
    ∀base:Zt,(K w.params).In base->base.Ns mainGlobals mg->sA l.prog w (K w.params) mg base (CX w) k fa fd [x] (sp w))
  (hsp:∀(w:Zv) (H:Hp) (a:Zx) (ns:List Int),ns.length<=n->Ir H->SqL (K w.params) H a (ns.map V.int)->sp w [.ref a] H (fun v _=>v= .bl true) fun _ _ _=>False)
  (hCX:∀(w:Zv) (H:Hp) (s:Zy) (e:Zz) (s':Zy),CX w [] H s (fun _ _ _=>False) e s'->False):
  PySem.W.WalkO q loose XP YP l.row.toRowW d [] (fun f vs=>PySem.call f vs):=by refine Att.Internal.attach_call hn hdf fun w s₀ s₁ mg mb fa o pm cd doc a vs ns G Y ho hd hcd hmg hobj hints hlen hg=>?_;have KX:=hY w _ Y;obtain⟨fd,hb,hF⟩:=F w mg fa _ KX G.T.g hmg;exact Cd KX G.T.g G.T.b G.T.builtins G.T.nolimit hg hobj hints (cQ hlen hn2) hr hF hb (fun H hO hS=>hsp w H a ns hlen hO hS) fun H e s'=>hCX w H s₁ e s'
def iF (s:Zq) (j:Nat):Zq:=match s with
 | .ClassDef _ _ _ body _ _ _ _ _ _ _=>body.getD j (.Pass ⟨0,0,0,0⟩)
 |_=> .Pass ⟨0,0,0,0⟩
def lB (s:Zq):Arguments:=match s with
 | .FunctionDef _ a _ _ _ _ _ _ _ _=>a
 |_=>{posonlyargs:=[],args:=[],vararg:=none,kwonlyargs:=[],kw_defaults:=[],kwarg:=none,defaults:=[]}
def kB (s:Zq):List Zq:=match s with
 | .FunctionDef _ _ b _ _ _ _ _ _ _=>b
 |_=>[]
def gv (s:Zq):Scope:=match s with
 | .FunctionDef _ _ _ _ _ _ sc _ _ _=>sc
 |_=>{kind:= .function,names:=[],isGenerator:=false,isCoroutine:=false}
abbrev CX0:CXT:=fun _ _ _ _ _ _=>False
abbrev E0:XK:=fun _ _ _=>False
theorem iO {X:Cx}:pR CX0 X E0:=fun _ _ _ _ _ _ _ h=>h.elim
structure Fun (K:Zp) (x qual:Str) (st:Zq) (f:Zx) (fd:Zs):Prop where
 ex:∃(oc:Zz) (od:Option Zx) (kV doc pm:Zz) (an:Option Zx) (cdv ct:Zz) (osl:Array (Option Zz)),
  fd=eK x qual (lB st) (kB st) (gv st) .none kV doc pm an cdv ct/\K.lookup f=some ⟨oc,od,.func fd,osl⟩/\eL K cdv qual=true
 kp:eA K (.ref f)=true
section
variable {P:Zu} {w:Zv} {K:Zp} {mg:Zc} {base:Zt}
theorem Fun.ok {x qual:Str} {st:Zq} {f:Zx} {fd:Zs} {N ps:Zd} {k:Nat} {sp:Sp} (F:Fun K x qual st f fd) (S:gB N ps (gv st)) (len:∀vs H Q E,sp vs H Q E->vs.length=ps.length)
  (hbody:∀(cdv:Zz) (A:Zw) (outer:List Env) (s:Zy) (H:Hp) (vs:List V) (Q:VK) (E:XK),mZ k (A.deeper (envOfC qual (gv st) s.heap.objs.size f cdv))->sp vs H Q E->
   ∃t,PSs (B0 CX0 P w K mg base N qual (gv st) f cdv A outer s H E).nox (kB st) t/\t {nx:=fun _ H'=>Q .non H',rt:=Q} (qc N vs) H):sA P w K mg base CX0 (k+ 1) f fd ps sp:=by obtain⟨oc,od,kV,doc,pm,an,cdv,ct,osl,rfl,lk,hcd⟩:=F.ex;refine Ig lk hcd S len fun A outer s H vs Q E hr hsp=>?_;obtain⟨t,h,q⟩:=hbody cdv A outer s H vs Q E hr hsp;exact⟨t,h.nox,q⟩
theorem Fun.binds {x qual:Str} {st:Zq} {f:Zx} {fd:Zs} {ps:Zd} (F:Fun K x qual st f fd)
  (h:∀(kV doc pm:Zz) (an:Option Zx) (cdv ct:Zz) (us:List Zz),us.length=ps.length->bindArgs (eK x qual (lB st) (kB st) (gv st) .none kV doc pm an cdv ct) ⟨us,[]⟩=pure (ps.zip us)):oR K fd ps []:=by obtain⟨oc,od,kV,doc,pm,an,cdv,ct,osl,rfl,lk,hcd⟩:=F.ex;exact .all (h kV doc pm an cdv ct)
theorem qO {x qual:Str} {st:Zq} {f:Zx} {oc:Zz} {od an:Option Zx} {osl:Array (Option Zz)} {kV doc pm cdv ct:Zz} (l:K.lookup f=some ⟨oc,od,.func (eK x qual (lB st) (kB st) (gv st) .none kV doc pm an cdv ct),osl⟩)
  (c:eL K cdv qual=true) (k:eA K (.ref f)=true):Fun K x qual st f (eK x qual (lB st) (kB st) (gv st) .none kV doc pm an cdv ct):=⟨⟨oc,od,kV,doc,pm,an,cdv,ct,osl,rfl,l,c⟩,k⟩
end
theorem rP {A:Zw} {k:Nat} (hr:mZ k A):A.units+ 1<cLine:=Nat.lt_of_le_of_lt (Nat.add_le_add_left (by decide:1<=64) _) hr.units
section
variable {X:Cx}
theorem pv (i:Nat) {x:Str} {pos:Pos} (hN:autoParam (X.N[i]?=some x) auR._auto_1) (hv:Vis X.env.scope x:=by first|exact Or.inl rfl|exact Or.inr (.inl rfl)|exact Or.inr (.inr rfl)) (hd:autoParam ((x==("__debug__":Str))=false) auD._auto_1)
  (hcd:autoParam ((x==("__classdict__":Str))=false) auD._auto_1):PE X (.Name x pos) (JA i):=FP hN hv hd hcd
end
theorem iL {A B:Prop} (h:B):if false=true then A else B:=by rw[gN fu];exact h
theorem jJ {A B:Prop} (h:A):if true=true then A else B:=by rw[gU rfl];exact h
theorem Iu {c A B:Prop} [Decidable c] (h1:c->A) (h2:¬c->B):if c then A else B:=by
 by_cases h:c;·rw[gU h];exact h1 h
 ·rw[gN h];exact h2 h
theorem Iv {c A B:Prop} [Decidable c] (hc:c) (h:B):if(!decide c)=true then A else B:=by rw[hI hc];exact iL h
def gC (H H':Hp):Prop:=∀b o,H b=some o->H' b=some o
theorem gC.refl (H:Hp):gC H H:=fun _ _ h=>h
theorem gC.trans {H H1 H2:Hp} (a:gC H H1) (b:gC H1 H2):gC H H2:=fun c o h=>b c o (a c o h)
theorem gC.free {H H':Hp} (e:gC H H') {l:Zx} (h:H' l=Option.none):H l=Option.none:=by
 cases q:H l with
 |none=>rfl
 |some o=>rw[e l o q]at h;cases h
theorem gC.seq {K:Zp} {H H':Hp} {a:Zx} {xs:List V} (e:gC H H') (h:SqL K H a xs):SqL K H' a xs:=by
 rcases h with(h|⟨o,h⟩)|h;·exact .inl (.inl (e _ _ h))
 ·exact .inl (.inr ⟨o,e _ _ h⟩)
 ·exact .inr h
section
variable {X:Cx}
theorem Ak:ny X (.builtin "len") (fun xs H Q=>∃a kvs,xs=[V.ref a]/\H a=some (.dK kvs)/\Q (.int kvs.length) H):=by intro pz s σ H xs us Q I r h;obtain⟨a,kvs,rfl,ha,q⟩:=h;obtain⟨u,rfl,ru⟩:=mz r;cases ru;exact Ii I (.inl ha) fun t s' I'=>⟨.int kvs.length,H,I',⟨t,rfl⟩,q⟩
end
section
variable {κ:Type} [DecidableEq κ]
theorem Ce {kvs:List (κ×V)} {k:κ} (h:jB kvs k=none):¬k∈kvs.map (·.1):=by intro m;obtain⟨p,hp,e⟩:=bh.mp m;have q:(kvs.any fun kv=>decide (kv.1=k))=true:=bj.mpr ⟨p,hp,hI e⟩;rw[lg,h]at q;exact absurd q (by simp)
theorem Em {kvs:List (κ×V)} {k:κ} {v:V} (h:jB kvs k=some v):k∈kvs.map (·.1):=by
 have q:(kvs.any fun kv=>decide (kv.1=k))=true:=by rw[lg,h];all_goals rfl
 obtain⟨p,hp,e⟩:=bj.mp q;exact bh.mpr ⟨p,hp,of_decide_eq_true e⟩
theorem Am:∀{l:List κ} {k:κ},l.Nodup->¬k∈l->(l++[k]).Nodup
 |[],k,_,_=>by simp
 |a::r,k,h,hk=>by
  obtain⟨h1,h2⟩:=aF.mp h;show(a::(r++[k])).Nodup;refine aF.mpr ⟨fun m=>?_,Am h2 fun m=>hk (ak.mpr (Or.inr m))⟩;rcases ao.mp m with q|q;·exact h1 q
  ·exact hk (ak.mpr (Or.inl (bo.mp q).symm))
theorem Eo {kvs:List (κ×V)} {k:κ} (v:V) (hn:(kvs.map (·.1)).Nodup) (h:jB kvs k=none):((lP kvs k v).map (·.1)).Nodup:=by rw[xY v h,bp];exact Am hn (Ce h)
end
section
variable {X:Cx}
theorem wH {x:Str} {i:Int} {t:Tok} {pos:Pos} (hg:Gl X x) (hm:X.mg x=some (.int i t)) (hd:autoParam ((x==("__debug__":Str))=false) auD._auto_1):PE X (.Name x pos) (tC (.int i)):=wz hg hm (show iQ (.int i) _ from⟨t,rfl⟩) hd
theorem Cf {x y:Str} {t:Tok} {pos:Pos} (hg:Gl X x) (hm:X.mg x=some (.str y t)) (hd:autoParam ((x==("__debug__":Str))=false) auD._auto_1):PE X (.Name x pos) (tC (.str y)):=wz hg hm (show iQ (.str y) _ from⟨t,rfl⟩) hd
theorem Cg {x:Str} {a:Zx} {pos:Pos} (hg:Gl X x) (hm:X.mg x=some (.ref a)) (hd:autoParam ((x==("__debug__":Str))=false) auD._auto_1):PE X (.Name x pos) (tC (.ref a)):=wz hg hm (show iQ (.ref a) _ from rfl) hd
theorem oB {x:Str} {n:String} {pos:Pos} (hg:Gl X x) (hm:X.mg x=none) (hv:bootBuiltins x=some (.type n)) (hn:autoParam (x≠"__name__") auD._auto_1) (hd:autoParam ((x==("__debug__":Str))=false) auD._auto_1):PE X (.Name x pos) (tC (.ty n)):=D4 hg hm hv (show iQ (.ty n) _ from rfl) hn hd
end
theorem ji:bootBuiltins "len"=some (.builtin "len"):=iq
theorem C0:bootBuiltins "all"=some (.builtin "all"):=iq
theorem C5:bootBuiltins "sum"=some (.builtin "sum"):=iq
theorem iG:bootBuiltins "isinstance"=some (.builtin "isinstance"):=iq
theorem An:bootBuiltins "int"=some (.type "int"):=iq
theorem Gk:bootBuiltins "str"=some (.type "str"):=iq
theorem Ep:bootBuiltins "bool"=some (.type "bool"):=iq
theorem Ao:bootBuiltins "list"=some (.type "list"):=iq
theorem kn:bootBuiltins "tuple"=some (.type "tuple"):=iq
theorem wI:bootBuiltins "dict"=some (.type "dict"):=iq
def Its (x:Str):It:=⟨fun i _=>i<x.cps.size,fun i H v H'=>H'=H/\∃c,x.cps[i]?=some c/\v= .str ⟨#[c]⟩,fun i _=>i=x.cps.size⟩
theorem yb {P:Zu} {w:Zv} {K:Zp} {tg:Zr} (it:Zx) (T:String) (x:Str) (t:Tok)
  (hT:["enumerate","zip","dict_itemiterator","dict_reverseitemiterator","odict_iterator","itertools.zip_longest","itertools.pairwise"].contains T=false)
  (W:∀A:Zw,A.handled=none->Walks P w A it [it] [it] x.cps.size (SignAt x) (fun i h=>h.IsStrIter it T x t i))
  (hself:∀(A:Zw) (i:Nat) (s:Zy) (Q:Zb) (E:Zb),s.heap.IsStrIter it T x t i->Q (.ref it) s->wpAny (model P w) A (pyIter (.ref it)) Q E s):
  B4 P w K tg (Its x) [it] it (fun i h=>h.IsStrIter it T x t i) where
 mem:=by simp
 obj:=fun i h st b hb=>by
  have e:b=it:=by simpa using hb
  subst e;obtain⟨o,e,c,d⟩:=st;exact⟨o,e,fun v z=>by rw[d]at z;cases z⟩
 keep:=fun i h h' st k=>by obtain⟨o,e,r⟩:=st;exact⟨o,k it (by simp) o e,r⟩
 item:=by intro X hP hw hK hc i pz s σ H E I hf st hg;subst hP hw hK;obtain⟨f0,f1,f2,f3,f4,f5⟩:=hf it (by simp);refine(W X.A (I.ok.hd hc)).item i s _ _ hg st fun v h' tk hv st' kk=>?_;obtain⟨c,u,hc',rfl⟩:=hv;have I1:Inv X pz σ H {s with heap:=h',toks:=tk}:=I.turned (fun b o hb e=>kk b o (by simpa using hb) e) f0 f1 f3 f4 f5;obtain⟨o,e,c1,d⟩:=id st';exact⟨_,rfl,yX (s:={s with heap:=h',toks:=tk}) e c1 d hT ⟨.str ⟨#[c]⟩,H,I1,⟨u,rfl⟩,⟨rfl,c,hc',rfl⟩,st',fun b hb=>(hf b hb).1⟩⟩
 done:=by intro X hP hw hK hc i pz s σ H E I hf st hg;subst hP hw hK;obtain⟨f0,f1,f2,f3,f4,f5⟩:=hf it (by simp);have hg':i=x.cps.size:=hg;subst hg';exact(W X.A (I.ok.hd hc)).done s _ _ st fun h' tk kk=>⟨rfl,I.turned (fun b o hb e=>kk b o (by simpa using hb) e) f0 f1 f3 f4 f5⟩
 self:=fun A i s Q E st h=>hself A i s Q E st h
section
variable {X:Cx} {tg:Zr}
def iStr (tl:TE):TI:=fun σ H R=>tl σ H fun v H1=>∃x,v= .str x/\R (Its x) H1
theorem Gm {l:Zr} {tl:TE} (hl:PE X l tl):PI X tg l (iStr tl):=by
 intro pz s σ H R I h;refine thn (hl pz s σ H _ I h) ?_;rintro v s1 ⟨y,H1,I1,r1,q1⟩;obtain⟨x,e,q⟩:=q1;subst e;obtain⟨t,rfl⟩:=r1;have fp:∀b∈[s1.heap.objs.size],uS X pz H1 b:=fun b hb=>by
  have e:b=s1.heap.objs.size:=by simpa using hb
  subst e;exact I1.fpOk (cW _) (I1.hok.fresh (cW _))
 cases ha:x.cps.all (·<128)
 ·refine wpAny_pyIter_wide ha ?_;exact⟨s1.heap.objs.size,[s1.heap.objs.size],_,_,H1,rfl,I1.kept (t':=s1.toks) fun b o e=>fS _ e,
   yb _ "str_iterator" x t (by decide) (fun A hA=>Walks.strWide hA _ x t) (fun _ _ _ _ _ st h=>wpAny_pyIter_striter_wide st h),⟨_,fQ _ rfl,rfl,rfl⟩,fp,q⟩
 ·refine wpAny_pyIter_ascii ha ?_;exact⟨s1.heap.objs.size,[s1.heap.objs.size],_,_,H1,rfl,I1.kept (t':=s1.toks) fun b o e=>fS _ e,
   yb _ "str_ascii_iterator" x t (by decide) (fun A hA=>Walks.strAscii hA _ x t) (fun _ _ _ _ _ st h=>wpAny_pyIter_striter_ascii st h),⟨_,fQ _ rfl,rfl,rfl⟩,fp,q⟩
end
def blk (X:Cx) (N:Zd) (scope:Scope) (cl:List (Str×Zx)) (C:Zx) (s₀:Zy) (H₀:Hp) (ex:List Zx) (pz:Za):Cx:=
 {X with N:=N,s₀:=s₀,H₀:=H₀,env:=compEnvC scope cl C X.env,outer:=X.stack,stack:=X.stack,ex:=ex,fn:=fun _=>false,pn:=X.pn++pz,xe:=fun _ _=>False}
def PTs (X:Cx) (cs:List Zr) (t:TT):Prop:=
 ∀(pz:Za) (s:Zy) (σ:St) (H:Hp) (Q:Bool->Hp->Prop),Inv X pz σ H s->t σ H Q->
  wpAny (model X.prog X.w) X.A (forIn cs true fun c r=>if r=true then do let ok<-isTrue c X.env (eval c X.env);pure (ForInStep.yield ok)else pure (ForInStep.yield r)) (TP X pz σ Q) X.xe s
def oT:TT:=fun _ H Q=>Q true H
theorem lC {X:Cx}:PTs X [] oT:=fun pz s σ H Q I h=>wpAny_pure ⟨H,I,h⟩
theorem Ap {X:Cx} {c:Zr} {t:TT} (h:PT X c t):PTs X [c] t:=fun pz s σ H Q I hw=>wpAny_tests_one (h pz s σ H Q I hw)
structure oU (X:Cx) (N:Zd) (scope:Scope) (cl:List (Str×Zx)) (f:St->St) (i:Nat) (x:Str):Prop where
 kind:scope.kind= .function
 cell:∀y∈scope.names,y.2≠ .cell
 names:∀y∈scope.names,y.2= .local->scope.names.lookup y.1=some .local
 clos:closureFor scope X.env=pure cl
 lk:∀y c,cl.lookup y=some c->X.env.cells.lookup y=some c
 has:∀y,((relabel scope X.env).names.lookup y=some .cell\/(relabel scope X.env).names.lookup y=some .free)->∃c,cl.lookup y=some c
 nd:N.Nodup
 ix:N[i]?=some x
 loc:scope.names.lookup x=some .local
 len:∀σ,σ.length=X.N.length->(f σ).length=N.length
 val:∀(σ:St) (k:Nat) (y:Str) (v:V),N[k]?=some y->(f σ)[k]?=some (some v)->∃j:Nat,X.N[j]?=some y/\σ[j]?=some (some v)/\X.env.scope.names.lookup y=some .cell/\(relabel scope X.env).names.lookup y=some .cell
theorem wJ {X:Cx} {N:Zd} {scope:Scope} {cl:List (Str×Zx)} {f:St->St} {i:Nat} {x:Str} (B:oU X N scope cl f i x) {pz:Za} {σ:St} {H:Hp} {s:Zy} {h₁:Zt} {tk:Nat} {m:Zc} {ex:List Zx}
  (I:Inv X pz σ H s) (hex:∀b∈ex,uS X pz H b/\b<s.heap.objs.size) (keep:∀b o,s.heap.get? b=some o->h₁.get? b=some o) (hn:h₁.Ns s.heap.objs.size m):
  Inv (blk X N scope cl s.heap.objs.size s H ex pz) [] (f σ) H {s with heap:=h₁,toks:=tk}:=by
 have nst:∀b,b≠X.env.locals->b∉X.fs->b∉frs X.stack:=fun b h1 h2 hb=>(ak.mp (I.stkSub b hb)).elim h1 h2;have ltC:∀y c,X.env.cells.lookup y=some c->c<s.heap.objs.size:=fun y c e=>by obtain⟨v,o,ho,_⟩:=I.cell y c e;exact fO ho
 refine⟨⟨I.ok.mod,B.kind,I.ok.glob,I.ok.blt,cW _,fun y z c h1 h2=>I.ok.inj y z c (B.lk y c h1) (B.lk z c h2),fun y hy=>B.has y hy,fun y c h=>(nomatch h),I.ok.hd,I.ok.frames,.inl rfl,fun b hb=>?_,I.bs,cQ I.ok.bsz I.sz,fun b o e hb=>?_,fun b hb=>?_,I.stack,I.stkFree⟩,
  rfl,I.bare,Un.kept keep,⟨m,hn,fun k y v e1 e2 e3=>?_⟩,fun y c e=>?_,I.hok.fresh (cW _),fun y c e=>I.freeC y c (B.lk y c e),fun p hp=>?_,I.hok.kept keep,B.len σ I.len⟩;·obtain⟨⟨_,_,_,_,hc,_⟩,lt⟩:=hex b hb;exact⟨cP lt,fun y c e=>hc y c (B.lk y c e)⟩
 ·obtain⟨⟨_,_,_,h4,_,_⟩,_⟩:=hex b hb;rcases h4 with z|z;·exact I.ok.noex b o e z
  ·exact absurd (cM (fO (I.ok.bs b o e).1) z) (cO _)
 ·obtain⟨⟨_,h2,h3,_,_,_⟩,_⟩:=hex b hb;exact nst b h2 h3
 ·obtain⟨j,h1,h2,h3,h4⟩:=B.val σ k y v e1 e2;obtain⟨m',_,hl⟩:=I.loc;obtain⟨u,r,l⟩:=hl j y v h1 h2 (.inr (.inl h3));refine⟨u,r,?_⟩;rcases l with⟨hk,_⟩|⟨_,c,hc,z⟩;·have hk':X.env.scope.names.lookup y=some .local:=hk;rw[h3]at hk';cases hk'
  ·obtain⟨c',hc'⟩:=B.has y (.inl h4);have e:c'=c:=dE.inj ((B.lk y c' hc').symm.trans hc);subst e;obtain⟨o,ho,hd⟩:=z;exact .inr ⟨.inl h4,c',hc',o,keep _ o ho,hd⟩
 ·obtain⟨v,o,ho,hd⟩:=I.cell y c (B.lk y c e);exact⟨v,o,keep _ o ho,hd⟩
 ·rw[aE]at hp;obtain⟨e,n,ne,nf,d⟩:=I.pin p hp;exact⟨keep _ _ e,n,cP (fO e),nst _ ne nf,d⟩
theorem hJ {env:Env}:∀{names:List (Str×NameKind)} {x:Str} {k:NameKind},
  (names.map fun(n,k)=>if(k==NameKind.free&&env.scope.kind== .function&&env.kindOf n==some .cell)then(n,NameKind.cell)else(n,k)).lookup x=some k->
  ∃k0,names.lookup x=some k0/\(k=k0\/(k0= .free/\k= .cell))
 |[],_,_,h=>by simp at h
 |(n,k0)::r,x,k,h=>by
  have ih:=@hJ env r x k;have h:aB x ((if(k0==NameKind.free&&env.scope.kind== .function&&env.kindOf n==some .cell)=true then(n,NameKind.cell)else(n,k0))::(r.map fun(n,k)=>if(k==NameKind.free&&env.scope.kind== .function&&env.kindOf n==some .cell)then(n,NameKind.cell)else(n,k)))=some k:=h
  cases hx:x==n with
  |true=>
   by_cases hc:(k0==NameKind.free&&env.scope.kind== .function&&env.kindOf n==some .cell)=true
   ·rw[gU hc]at h;simp only[bq,hx]at h⊢;have hf:k0= .free:=by have hc':=hc;simp only[fz]at hc';exact eq_of_beq hc'.1.1
    exact⟨k0,rfl,.inr ⟨hf,(dE.inj h).symm⟩⟩
   ·rw[gN hc]at h;simp only[bq,hx]at h⊢;exact⟨k0,rfl,.inl (dE.inj h).symm⟩
  |false=>
   have h2:(r.map fun(n,k)=>if(k==NameKind.free&&env.scope.kind== .function&&env.kindOf n==some .cell)then(n,NameKind.cell)else(n,k)).lookup x=some k:=by
    by_cases hc:(k0==NameKind.free&&env.scope.kind== .function&&env.kindOf n==some .cell)=true;·rw[gU hc]at h;simp only[bq,hx]at h;exact h
    ·rw[gN hc]at h;simp only[bq,hx]at h;exact h
   obtain⟨k1,e1,e2⟩:=ih h2;exact⟨k1,by simp only[bq,hx];exact e1,e2⟩
theorem iZ {env:Env} (hk:env.scope.kind= .function):∀{names:List (Str×NameKind)} {x:Str},env.scope.names.lookup x=some .cell->names.lookup x=some .free->
  (names.map fun(n,k)=>if(k==NameKind.free&&env.scope.kind== .function&&env.kindOf n==some .cell)then(n,NameKind.cell)else(n,k)).lookup x=some .cell
 |[],_,_,h=>by simp at h
 |(n,k0)::r,x,hc,h=>by
  have ih:=@iZ env hk r x hc;show aB x ((if(k0==NameKind.free&&env.scope.kind== .function&&env.kindOf n==some .cell)=true then(n,NameKind.cell)else(n,k0))::_)=_
  cases hx:x==n with
  |true=>
   simp only[bq,hx]at h;cases h;have e:x=n:=eq_of_beq hx;have hc':env.kindOf n=some .cell:=by rw[<-e];exact hc
   simp[bq,hx,hk,hc']
  |false=>
   simp only[bq,hx]at h;by_cases hq:(k0==NameKind.free&&env.scope.kind== .function&&env.kindOf n==some .cell)=true;·rw[gU hq];simp only[bq,hx];exact ih h
   ·rw[gN hq];simp only[bq,hx];exact ih h
theorem FA {X:Cx} {scope:Scope} {x:Str} (hk:scope.kind= .function) (hn:∀p∈scope.names,p.2≠ .cell/\p.2≠ .free) (hl:∀y∈scope.names,y.2= .local->scope.names.lookup y.1=some .local)
  (hx:scope.names.lookup x=some .local) (hc:closureFor scope X.env=pure []):oU X [x] scope [] (fun _=>[none]) 0 x where
 kind:=hk
 cell:=fun y hy=>(hn y hy).1
 names:=hl
 clos:=hc
 lk:=fun y c h=>by simp at h
 has:=fun y h=>by
  rcases h with h|h
  ·obtain⟨k0,e,z⟩:=hJ h;have m:=hn _ (PySem.mem_of_lookup e);rcases z with z|⟨z,_⟩;·exact absurd z.symm m.1
   ·exact absurd z m.2
  ·obtain⟨k0,e,z⟩:=hJ h;have m:=hn _ (PySem.mem_of_lookup e);rcases z with z|⟨z,_⟩;·exact absurd z.symm m.2
   ·exact absurd z m.2
 nd:=by simp
 ix:=rfl
 loc:=hx
 len:=fun _ _=>rfl
 val:=fun σ k y v h1 h2=>by
  cases k with
  |zero=>simp at h2
  |succ k=>simp at h2
theorem blk1 {X:Cx} {scope:Scope} {x y:Str} {j:Nat} {c0:Zx} (hk:scope.kind= .function) (hn:∀p∈scope.names,p.2≠ .cell/\(p.2= .free->p.1=y)) (hl:∀y∈scope.names,y.2= .local->scope.names.lookup y.1=some .local)
  (hx:scope.names.lookup x=some .local) (hy:scope.names.lookup y=some .free) (hc:closureFor scope X.env=pure [(y,c0)]) (hc0:X.env.cells.lookup y=some c0) (hok:X.env.scope.kind= .function) (hyo:X.env.scope.names.lookup y=some .cell)
  (hj:X.N[j]?=some y):oU X [x,y] scope [(y,c0)] (fun σ=>[none,σ.getD j none]) 0 x where
 kind:=hk
 cell:=fun y hy=>(hn y hy).1
 names:=hl
 clos:=hc
 lk:=fun z c h=>by
  cases e:z==y with
  |true=>simp only[bq,e]at h;have ez:z=y:=eq_of_beq e;rw[ez,hc0];exact h
  |false=>simp only[bq,e,List.lookup_nil]at h;cases h
 has:=fun z h=>by
  have ez:z=y:=by
   rcases h with h|h
   ·obtain⟨k0,e,q⟩:=hJ h;have m:=hn _ (PySem.mem_of_lookup e);rcases q with q|⟨q,_⟩;·exact absurd q.symm m.1
    ·exact m.2 q
   ·obtain⟨k0,e,q⟩:=hJ h;have m:=hn _ (PySem.mem_of_lookup e);rcases q with q|⟨q,_⟩;·exact m.2 q.symm
    ·exact m.2 q
  exact⟨c0,by rw[ez];simp[bq]⟩
 nd:=by
  have e:x≠y:=fun e=>by rw[e,hy]at hx;cases hx
  simp[e]
 ix:=rfl
 loc:=hx
 len:=fun _ _=>rfl
 val:=fun σ k z v h1 h2=>by
  cases k with
  |zero=>simp at h2
  |succ k=>
   cases k with
   |zero=>
    have ez:z=y:=by simpa using h1.symm
    subst ez;have e:σ.getD j none=some v:=by simpa using h2
    rw[bu]at e;refine⟨j,hj,?_,hyo,iZ hok hyo hy⟩
    cases q:σ[j]? with
    |none=>rw[q]at e;cases e
    |some o=>rw[q]at e;exact congrArg some e
   |succ k=>simp at h2
def LcP (J:It) (i:Nat) (tt:TT) (te:TE) (Q:VK) (τ:St) (H1:Hp) (D:Zx):Prop:=
 ∃W:Nat->Nat->St->Hp->Prop,(∃m,W 0 m τ (upd H1 D (.lst [])))/\∀k m σ' H2,W k m σ' H2->
  (J.stop k H2/\Q (.ref D) H2)\/(J.go k H2/\∀v H3,J.yld k H2 v H3->tt (σ'.set i (some v)) H3 fun ok H4=>if ok=true
   then te (σ'.set i (some v)) H4 fun y H5=>∃xs,H5 D=some (.lst xs)/\xs.length<sizeLine/\∃m',m'<m/\W (k+ 1) m' (σ'.set i (some v)) (upd H5 D (.lst (xs++[y])))
   else ∃m',m'<m/\W (k+ 1) m' (σ'.set i (some v)) H4)
def tLC (wi:TI) (f:St->St) (i:Nat) (tt:TT) (te:TE):TE:=fun σ H Q=>wi σ H fun J H1=>∀D,H1 D=none->LcP J i tt te Q (f σ) H1 D
theorem Er {X:Cx} {elt iter:Zr} {x:Str} {px:Pos} {ifs:List Zr} {scope:Scope} {pos pos':Pos} {N:Zd} {cl:List (Str×Zx)} {f:St->St} {i:Nat} {wi:TI} {tt:TT} {te:TE} {use:Option (Zz->Sem Unit)} {Qp:Zb}
  {pz:Za} {s:Zy} {σ:St} {H:Hp} {Q:VK}
  (hc:X.calm=true) (B:oU X N scope cl f i x) (hi:PI X (.Name x px) iter wi)
  (htt:∀C s₀ H₀ ex pz,PTs (blk X N scope cl C s₀ H₀ ex pz) ifs tt) (hte:∀C s₀ H₀ ex pz,PE (blk X N scope cl C s₀ H₀ ex pz) elt te)
  (hs:∀x,foldedSetIterable iter X.env x=pure x) (I:Inv X pz σ H s) (h:tLC wi f i tt te σ H Q)
  (fin:∀(fl:Flow) (s3 s6:Zy) (H3 H5:Hp) (d:Zx) (m:Zc),Inv X pz σ H3 s3->Inv X pz σ H5 s6->H5 s3.heap.objs.size=none->s6.heap.Ns s3.heap.objs.size m->Q (.ref d) H5->
   compPost (model X.prog X.w) X.A X.xe use Qp (.ref d) s3.heap.objs.size (.ok fl) s6):
  wpAny (model X.prog X.w) X.A (comprehension (.ListComp elt [⟨.Name x px,iter,ifs,0⟩] scope pos) scope X.env pos' (newList []) false (eval iter X.env) use) Qp X.xe s:=by
 refine wpAny_comprehension_free (use:=use) rfl hs B.clos B.kind B.names (thn (hi pz s σ H _ I h) fun xv s1 h1=>thn h1 fun itv s2 h2=>?_);obtain⟨it,fp,tn,J,H2,rfl,I2,T,st2,f2,q⟩:=h2;have hD:H2 s2.heap.objs.size=none:=I2.fresh;obtain⟨W,⟨m0,w0⟩,turn⟩:=q _ hD;refine wpAny_newObj_type (wpAny_newFunctionEnv B.cell (by intro y hy;simp at hy) (fun h₁ hns₁ hsb₁=>?_) B.kind);have I3:Inv X pz σ (upd H2 s2.heap.objs.size (.lst [])) {s2 with heap:=s2.heap.push {cls:= .type "list",data:= .seq ([]:List Zz).toArray}}:=I2.lnew (its:=[]) (ys:=[]) (t':=s2.toks) .nil (cX _);have lt2:∀b∈fp,b<s2.heap.objs.size:=fun b hb=>by obtain⟨o,ho,_⟩:=T.obj _ _ st2 b hb;exact fO ho
 have fp3:∀b∈fp,uS X pz (upd H2 s2.heap.objs.size (.lst [])) b:=fun b hb=>by refine⟨?_,(f2 b hb).2⟩;rw[gx (cP (lt2 b hb))];exact(f2 b hb).1
 generalize hs3:({s2 with heap:=s2.heap.push {cls:= .type "list",data:= .seq ([]:List Zz).toArray}}:Zy)=s3 at I3 hns₁ hsb₁⊢;have eh:s2.heap.push {cls:= .type "list",data:= .seq ([]:List Zz).toArray}=s3.heap:=by rw[<-hs3]
 have lt3:∀b∈fp,b<s3.heap.objs.size:=fun b hb=>by rw[<-eh,fU];exact c7 (lt2 b hb)
 have old:∀b o,s3.heap.get? b=some o->h₁.get? b=some o:=fun b o e=>hsb₁.extBut b o (cP (fO e)) (fS _ e);have I4:=wJ (tk:=s3.toks+([]:List (Str×Zz)).length) B I3 (ex:=fp) (fun b hb=>⟨fp3 b hb,lt3 b hb⟩) old hns₁;have st4:tn 0 h₁:=T.keep _ _ _ st2 fun b _ o e=>old b o (by rw[<-eh];exact fS _ e);have fpB:∀{H':Hp},(∀b∈fp,H' b=none)->∀b∈fp,uS (blk X N scope cl s3.heap.objs.size s3 (upd H2 s2.heap.objs.size (.lst [])) fp pz) [] H' b:=fun{H'} hn b hb=>by obtain⟨_,g2,g3,g4,g5,g6⟩:=f2 b hb;refine⟨hn b hb,cP (lt3 b hb),fun z=>(ak.mp (I3.stkSub b z)).elim g2 g3,.inl hb,fun y c e=>g5 y c (B.lk y c e),fun p hp=>?_⟩;rw[aE]at hp;exact g6 p hp
 have loop:∀s4:Zy,s4={s3 with heap:=h₁,toks:=s3.toks+([]:List (Str×Zz)).length}->
   codeAny (model X.prog X.w) X.A (.compLoop (.ListComp elt [⟨.Name x px,iter,ifs,0⟩] scope pos) 0 (.ref it) (.ref s2.heap.objs.size) (compEnvC scope cl s3.heap.objs.size X.env))
    (compPost (model X.prog X.w) X.A X.xe use Qp (.ref s2.heap.objs.size) s3.heap.objs.size) s4:=by
  rintro s4 rfl;refine codeAny_compLoop_tests (I:=fun n s'=>∃k σ' H',Inv (blk X N scope cl s3.heap.objs.size s3 (upd H2 s2.heap.objs.size (.lst [])) fp pz) [] σ' H' s'/\tn k s'.heap/\(∀b∈fp,H' b=none)/\W k n σ' H') ?_ m0
   ⟨0,f σ,_,I4,st4,fun b hb=>(fp3 b hb).1,w0⟩;rintro n s5 ⟨k,σ5,H5,I5,st5,fr5,w5⟩;rcases turn k n σ5 H5 w5 with⟨stop,qn⟩|⟨go,step⟩
  ·refine wpAny_mono (T.done (blk X N scope cl s3.heap.objs.size s3 (upd H2 s2.heap.objs.size (.lst [])) fp pz) rfl rfl rfl hc k [] s5 σ5 H5 _ I5 (fpB fr5) st5 stop) (fun r s6 h6=>?_) fun _ _ z=>z;obtain⟨hr,I6⟩:=h6;subst hr;obtain⟨m6,hn6,_⟩:=id I6.loc;have I7:Inv X pz σ H5 s6:=I3.call' (s':=s6) (ch:=fp) I6.os I6.base I6.hok I6.bare fun b hb=>by obtain⟨_,g2,g3,g4,g5,g6⟩:=f2 b hb;exact⟨g4,g2,g5,g6⟩
   exact fin _ s3 s6 _ H5 _ m6 I3 I7 I6.free hn6 qn
  ·refine wpAny_mono (T.item (blk X N scope cl s3.heap.objs.size s3 (upd H2 s2.heap.objs.size (.lst [])) fp pz) rfl rfl rfl hc k [] s5 σ5 H5 _ I5 (fpB fr5) st5 go) (fun r s6 h6=>?_) fun _ _ z=>z;obtain⟨u,hr,h6⟩:=h6;subst hr;show wpAny _ _ (pure () >>= fun _=>assign (.Name x px) (compEnvC scope cl s3.heap.objs.size X.env) u) _ _ s6;refine wpAny_bind (wpAny_mono (show wpAny _ _ (pure ()) _ _ s6 from h6) (fun _ s7 h7=>?_) fun _ _ z=>z);obtain⟨v,H7,I7,r7,y7,st7,fr7⟩:=h7;have I7':=I7.pinned (fpB fr7) (T.obj _ _ st7);refine wpAny_assign_Name (ox (X:=blk X N scope cl s3.heap.objs.size s3 (upd H2 s2.heap.objs.size (.lst [])) fp pz) I7' B.nd B.ix (.inl (lookup_relabel_local B.loc)) r7 (fun s8 I8=>?_) (.inr (lookup_relabel_local B.loc)));have back:∀{σ9:St} {H9:Hp} {s9:Zy},Inv (blk X N scope cl s3.heap.objs.size s3 (upd H2 s2.heap.objs.size (.lst [])) fp pz) ([]++qG fp s7.heap) σ9 H9 s9->(∃m',m'<n/\W (k+ 1) m' σ9 H9)->
     ∃m',m'<n/\∃k σ' H',Inv (blk X N scope cl s3.heap.objs.size s3 (upd H2 s2.heap.objs.size (.lst [])) fp pz) [] σ' H' s9/\tn k s9.heap/\(∀b∈fp,H' b=none)/\W k m' σ' H':=fun{σ9 H9 s9} I9 q9=>by obtain⟨m',hm,w9⟩:=q9;refine⟨m',hm,k+ 1,σ9,H9,I9.unpinned,T.keep _ _ _ st7 fun b hb o e=>(I9.pin (b,o) (az _ (az _ (jI hb e)))).1,fun b hb=>?_,w9⟩;obtain⟨o,e,d⟩:=T.obj _ _ st7 b hb;exact(I9.pin (b,o) (az _ (az _ (jI hb e)))).2.1
   refine wpAny_mono (htt _ _ _ _ _ _ s8 _ H7 _ I8 (step v H7 y7)) (fun ok s9 h9=>?_) fun _ _ z=>False.elim z;obtain⟨H9,I9,q9⟩:=h9
   cases ok with
   |false=>rw[gN fu];rw[gN fu]at q9;exact back I9 q9
   |true=>rw[gU rfl];rw[gU rfl]at q9;refine wpAny_mono (hte _ _ _ _ _ _ s9 _ H9 _ I9 q9) (fun y s10 h10=>?_) fun _ _ z=>False.elim z;obtain⟨v10,H10,I10,r10,xs,hx10,hz,q10⟩:=h10;refine wpAny_mono (gR (X:=blk X N scope cl s3.heap.objs.size s3 (upd H2 s2.heap.objs.size (.lst [])) fp pz) _ s10 _ H10 (.ref s2.heap.objs.size) [v10] _ [y] (fun _ H11=>H11=upd H10 s2.heap.objs.size (.lst (xs++[v10]))) I10 rfl (.cons r10 .nil) ⟨_,xs,v10,rfl,rfl,hx10,hz,rfl⟩) (fun _ s11 h11=>?_) fun _ _ z=>False.elim z;obtain⟨_,H11,I11,_,e11⟩:=h11;subst e11;exact back I11 q10
 exact codeAny_compStart_list (loop _ rfl) (T.self _ 0 _ _ _ st4 (loop _ rfl))
theorem qf {X:Cx} {elt iter:Zr} {x:Str} {px:Pos} {ifs:List Zr} {scope:Scope} {pos:Pos} {N:Zd} {cl:List (Str×Zx)} {f:St->St} {i:Nat} {wi:TI} {tt:TT} {te:TE}
  (hc:X.calm=true) (B:oU X N scope cl f i x) (hi:PI X (.Name x px) iter wi)
  (htt:∀C s₀ H₀ ex pz,PTs (blk X N scope cl C s₀ H₀ ex pz) ifs tt) (hte:∀C s₀ H₀ ex pz,PE (blk X N scope cl C s₀ H₀ ex pz) elt te)
  (hs:autoParam (∀x,foldedSetIterable iter X.env x=pure x) auI._auto_1):PE X (.ListComp elt [⟨.Name x px,iter,ifs,0⟩] scope pos) (tLC wi f i tt te):=by
 intro pz s σ H Q I h;rw[eval_ListComp];refine Er hc B hi htt hte hs I h fun fl s3 s6 H3 H5 d m I3 I7 fr hn qn=>?_;refine⟨m,hn,fun h' sb=>⟨.ref d,H5,?_,rfl,qn⟩⟩;exact Inv.turned (h':=h') (t':=s6.toks) (it:=s3.heap.objs.size) I7 (fun b o hb e=>(sb.2 b hb).trans e) fr (cU I3.lt) (.inr I3.sz) (fun z c e q=>by obtain⟨v,q2⟩:=I3.cell z c e;exact absurd (q▸q2.lt) (cO _)) fun p hp q=>absurd (q▸fO (I3.pin p hp).1) (cO _)
theorem Gn {J:It} {xs:List V} {i:Nat} {tt:TT} {te:TE} {Q:VK} {τ:St} {H1:Hp} {D:Zx} (p:V->Bool) (g:V->V) (hD:H1 D=none) (hz:xs.length<=sizeLine) (hτ:τ.set i none=τ)
  (hgo:∀k H,gC H1 H->k<xs.length->J.go k H) (hy:∀k H v H',gC H1 H->J.yld k H v H'->H'=H/\xs[k]?=some v) (hst:∀H,gC H1 H->J.stop xs.length H)
  (htt:∀(k:Nat) v H R,xs[k]?=some v->gC H1 H->R (p v) H->tt (τ.set i (some v)) H R)
  (hte:∀(k:Nat) v H R,xs[k]?=some v->p v=true->gC H1 H->R (g v) H->te (τ.set i (some v)) H R)
  (hq:∀H',gC H1 H'->H' D=some (.lst ((xs.filter p).map g))->Q (.ref D) H'):LcP J i tt te Q τ H1 D:=by
 have sm:∀o,gC H1 (upd H1 D o):=fun o b u e=>by rw[gx (gr e hD)];exact e
 refine⟨fun k m σ' H2=>m=xs.length-k/\k<=xs.length/\(∃o,σ'=τ.set i o)/\H2=upd H1 D (.lst (((xs.take k).filter p).map g)),⟨xs.length,by simp,cX _,⟨none,hτ.symm⟩,by simp⟩,?_⟩;rintro k m σ' H2 ⟨rfl,hk,⟨o,rfl⟩,rfl⟩;by_cases hlt:k<xs.length
 ·refine .inr ⟨hgo k _ (sm _) hlt,fun v H3 y=>?_⟩;obtain⟨e,hv⟩:=hy k _ v H3 (sm _) y;subst e;rw[bw];refine htt k v _ _ hv (sm _) ?_;have tk:(xs.take (k+ 1)).filter p=(xs.take k).filter p++(if p v then[v]else[]):=take_succ_filter p xs k v hv;have ll:((xs.take k).filter p).length<=k:=by refine cQ (bx _ _) ?_;rw[aK];lia
  cases hp:p v with
  |true=>rw[gU rfl];refine hte k v _ _ hv hp (sm _) ?_;refine⟨_,gb,by rw[aD];lia,xs.length-(k+ 1),by lia,rfl,hlt,⟨some v,rfl⟩,?_⟩;rw[sV,tk,hp,gU rfl,bp];rfl
  |false=>rw[gN fu];refine⟨xs.length-(k+ 1),by lia,rfl,hlt,⟨some v,rfl⟩,?_⟩;rw[tk,hp,gN fu,aE]
 ·have e:k=xs.length:=by lia
  subst e;refine .inl ⟨hst _ (sm _),hq _ (sm _) ?_⟩;rw[gb,bz]
section
variable {X:Cx}
theorem Ci {bs:List Bool}:∀{us:List Zz},iU (bs.map V.bl) us->us=bs.map Value.bool:=by
 induction bs with
 |nil=>intro us r;rw[aX]at r;cases r;rfl
 |cons n ns ih=>
  intro us r;rw[aC]at r
  cases r with
  |cons r1 r2=>cases(show _=Value.bool n from r1);rw[ih r2];rfl
theorem zk (bs:List Bool):((aa bs.length).all fun i=>(bs[i]?).getD true)=bs.all id:=by
 induction bs with
 |nil=>rfl
 |cons b r ih=>rw[aA,bA,ba,bB,ba,<-ih];rfl
theorem zm {h h':Zt} {o:Obj} (hk:∀b x,b∉[h.objs.size]->(h.push o).get? b=some x->h'.get? b=some x):∀b x,h.get? b=some x->h'.get? b=some x:=
 fun b x e=>hk b x (fun hm=>by rw[bo.mp hm]at e;exact cO _ (fO e)) (fS _ e)
theorem yc (hc:X.calm=true):ny X (.builtin "all") (fun xs H Q=>∃(a:Zx) (bs:List Bool),xs=[.ref a]/\SqL X.K H a (bs.map V.bl)/\Q (.bl (bs.all id)) H):=by
 intro pz s σ H xs us Q I r h;obtain⟨a,bs,rfl,ha,q⟩:=h;obtain⟨u,rfl,ru⟩:=mz r;cases ru;obtain⟨its,rv,pl,hz⟩:=I.list ha;have ei:=Ci rv;subst ei;have hl:s.heap.IsList a (bs.map Value.bool).toArray:=pl.isList;have hlt:a<s.heap.objs.size:=by obtain⟨_,e,_⟩:=hl;exact fO e
 refine call_all_walk (wpAny_pyIter_list hl ?_);refine⟨s.heap.objs.size,[s.heap.objs.size,a],[s.heap.objs.size],(bs.map Value.bool).toArray.size,_,_,fun i=>(bs[i]?).getD true,rfl,Walks.list (A:=X.A.in1) (I.ok.hd hc) _ a (cP hlt) (bs.map Value.bool).toArray,
  ⟨⟨_,fQ _ rfl,rfl,rfl⟩,hl.push _⟩,fun i v s' Q' E' hP hQ=>?_,fun h' tk hk=>?_⟩
 ·have hv:(bs.map Value.bool)[i]?=some v:=by simpa using hP
  rw[aO]at hv
  cases e:bs[i]? with
  |none=>rw[e]at hv;cases hv
  |some b=>rw[e]at hv;have e2:v=Value.bool b:=(dE.inj hv).symm;subst e2;simp only[e,Option.getD_some]at hQ;exact wpAny_truthy_bool hQ
 ·have e:((aa (bs.map Value.bool).toArray.size).all fun i=>(bs[i]?).getD true)=bs.all id:=by rw[aY,aD];exact zk bs
  rw[e];exact⟨.bl (bs.all id),H,I.kept (zm hk),rfl,q⟩
def rSlS:V->Option Int->Option Int->Hp->VK->Prop:=fun x lo hi H Q=>∃z,x= .str z/\z.length<=sizeLine/\Q (.str (Txt.slice z lo hi)) H
theorem C6:SlR X rSlS:=by
 intro pz s σ H x v vl vu lo hi sl Q I rx hs pl pu h;obtain⟨z,rfl,hz,q⟩:=h;obtain⟨t,rfl⟩:=rx;refine⟨"str",_,F.slot_str_getitem.lookup,typeIs_str _ _ _,?_⟩;have fin:∀t' k,EP X pz σ Q (.str (Txt.slice z lo hi) t') {s with toks:=k}:=fun t' k=>⟨.str _,H,I.tok k,⟨t',rfl⟩,q⟩
 cases pl with
 |none=>
  cases pu with
  |none=>exact wpAny_getItem_str_slice (l:=none) (u:=none) (st:=none) hs rfl (post_val_or_str ⟨cQ (Txt.slice_le z _ _) hz,fun t' k=>fin t' k⟩)
  |int j u=>exact wpAny_getItem_str_slice (l:=none) (u:=some (j,u)) (st:=none) hs rfl (post_val_or_str ⟨cQ (Txt.slice_le z _ _) hz,fun t' k=>fin t' k⟩)
 |int i u'=>
  cases pu with
  |none=>exact wpAny_getItem_str_slice (l:=some (i,u')) (u:=none) (st:=none) hs rfl (post_val_or_str ⟨cQ (Txt.slice_le z _ _) hz,fun t' k=>fin t' k⟩)
  |int j u=>exact wpAny_getItem_str_slice (l:=some (i,u')) (u:=some (j,u)) (st:=none) hs rfl (post_val_or_str ⟨cQ (Txt.slice_le z _ _) hz,fun t' k=>fin t' k⟩)
theorem kG:ny X (.builtin "isinstance") (fun xs H Q=>∃x v c t b,xs=[x,v]/\(∀u,iQ v u->u=c)/\wC X.K H x t/\eB X.K t c=some b/\Q (.bl b) H):=by intro pz s σ H xs us Q I r h;obtain⟨x,v,c,t,b,rfl,hc,ht,hk,q⟩:=h;obtain⟨u,u',rfl,ru,ru'⟩:=y9 r;cases hc u' ru';exact z5 I ru ht hk fun tk=>⟨.bl b,H,I.tok tk,rfl,q⟩
end
section
variable {X:Cx}
open Builtin Builtin.Str in
theorem Gq {prog:Zu} {w:Zv} {A:Zw} {E:Zb} {s:Zy} {x y:Str} {t u:Tok} {Q:Zb} (hy:(y.length==0)=false)
  (h:∀l k,l.map (·.1)=Txt.split x y->Q (.ref s.heap.objs.size) {s with heap:=s.heap.push {cls:= .type "list",data:= .seq (strValues l).toArray},toks:=k}) (hsz:x.length+ 2<=sizeLine):
  wpAny (model prog w) A (call (.builtin "str.split") [.str x t,.str y u]) Q E s:=by
 have hn:(partsBetween x (occurrences x y 0 x.length (x.length+ 1)) y.length).length<=sizeLine:=by have e1:=StrLaws.occ_length_le x y 0 x.length (x.length+ 1);rw[length_partsBetween];lia
 cases h1:(decide (x.length<y.length)||decide (strKind x<strKind y))
 ·cases hf:(occurrences x y 0 x.length (x.length+ 1)).isEmpty;·refine call_meets F.slot_str_split (typeIs_str _ _ _) F.entry_str_split (F.args_str_split_2 _ _) (meets_str_split_sep x y t u h1 hy hf (by lia) hn) ?_;show wants Q E _ {s with toks:=_,heap:=s.heap.push {cls:= .type "list",data:= .seq (strsFrom s.toks (partsBetween x (occurrences x y 0 x.length (x.length+ 1)) y.length)).toArray}};rw[strsFrom_eq];exact h (numbered s.toks _) _ ((numbered_texts _ _).trans ((gN (ne_true_of_eq_false h1)).trans (gN (ne_true_of_eq_false hf))).symm)
  ·exact call_meets F.slot_str_split (typeIs_str _ _ _) F.entry_str_split (F.args_str_split_2 _ _) (meets_str_split_not_found x y t u h1 hy hf)
    (h [(x,t)] s.toks ((gN (ne_true_of_eq_false h1)).trans (gU hf)).symm)
 ·exact call_meets F.slot_str_split (typeIs_str _ _ _) F.entry_str_split (F.args_str_split_2 _ _) (meets_str_split_cannot_occur x y t u h1)
   (h [(x,t)] s.toks (gU h1).symm)
theorem vq:∀l:List (Str×Tok),iU ((l.map (·.1)).map V.str) (strValues l)
 |[]=> .nil
 |p::r=> .cons ⟨p.2,rfl⟩ (vq r)
theorem qP (x y:Str):(Txt.split x y).length<=x.length+ 2:=by
 unfold Txt.split;split;·show 1<=_;lia
 ·split;·show 1<=_;lia
  ·have e1:=StrLaws.occ_length_le x y 0 x.length (x.length+ 1);rw[length_partsBetween];lia
def Gr:V->List V->Hp->VK->Prop:=fun x xs H Q=>∃z y,x= .str z/\xs=[.str y]/\(y.length==0)=false/\z.length+ 2<=sizeLine/\∀l,H l=none->Q (.ref l) (upd H l (.lst ((Txt.split z y).map V.str)))
theorem Cj:MtR X "str.split" Gr:=by intro pz s σ H x xs v us Q I rx rs h;obtain⟨z,y,rfl,rfl,hy,hz,q⟩:=h;obtain⟨t,rfl⟩:=rx;obtain⟨u,rfl,ru⟩:=mz rs;obtain⟨t',rfl⟩:=ru;refine Gq hy (fun l k hl=>?_) hz;have hv:=vq l;rw[hl]at hv;exact⟨.ref s.heap.objs.size,_,I.lnew hv (by rw[aD];exact cQ (qP z y) hz),rfl,q _ I.fresh⟩
def PE1 (X:Cx) (e:Zr) (t:TE):Prop:=
 ∀(pz:Za) (s:Zy) (σ:St) (H:Hp) (Q:VK),Inv X pz σ H s->1<=s.toks->t σ H Q->wpAny (model X.prog X.w) X.A (eval e X.env) (fun u s'=>1<=s'.toks/\EP X pz σ Q u s') X.xe s
theorem PE.one {e:Zr} {t:TE} (h:PE X e t):PE1 X e t:=fun pz s σ H Q I ht hw=>wpAny_mono (wpAny_toks_of ht (h pz s σ H Q I hw)) (fun _ _ z=>z) fun _ _ z=>z.2
def Iw (to:TE) (y z:Str):TE:=fun σ H Q=>to σ H fun v H1=>∃x,v= .str x/\x.length+(x.length+ 1)*z.length<=16777216/\Q (.str (Txt.replace x y z)) H1
theorem tJ {o:Zr} {to:TE} {y z:Str} {k1 k2 p1 p2 apos cpos} (ho:PE1 X o to) (hyz:(y==z)=false)
  (hbase:autoParam (attributeBase o "replace" X.env (eval o X.env)=eval o X.env) auR._auto_1)
  (hfew:((backTo cpos (starEach [.Constant (.str y) k1 p1,.Constant (.str z) k2 p2] X.env)).all (fun x=>!x.1)&&(backToKw cpos (keywordEach [] X.env)).all (fun x=>x.1.isSome)
   &&decide (([.Constant (.str y) k1 p1,.Constant (.str z) k2 p2]:List Zr).length+([]:List Keyword).length+(if([]:List Keyword).isEmpty then 0 else 1)<30))=true:=by rfl)
  (hline:autoParam ((apos.endLine==cpos.line)=true) auR._auto_1):PE1 X (.Call (.Attribute o "replace" apos) [.Constant (.str y) k1 p1,.Constant (.str z) k2 p2] [] cpos) (Iw to y z):=by intro pz s σ H Q I ht h;refine wpAny_Call_method_late hbase hfew hline rfl (thn (ho pz s σ H _ I ht h) fun v s1 q1=>?_);obtain⟨ht1,v1,H1,I1,r1,x,rfl,hb,q⟩:=q1;obtain⟨t,rfl⟩:=r1;refine⟨"str","str.replace",F.plainAttrs_str,F.slot_str_replace,F.type_str_replace,typeIs_str _ _ _,(fun _ e=>nomatch e),?_⟩;refine Calls.callWith_builtin rfl (Calls.evalArgs_plain ?_);show wpAny _ _ (spliced ((false,eval (.Constant (.str y) k1 p1) X.env)::backTo cpos (starEach [.Constant (.str z) k2 p2] X.env))) _ _ s1;refine Calls.spliced_cons (Calls.Constant_str ?_);show wpAny _ _ (spliced ((false,eval (.Constant (.str z) k2 p2) X.env)::backTo cpos (starEach [] X.env))) _ _ _;refine Calls.spliced_cons (Calls.Constant_str (Calls.spliced_nil ?_));refine wpAny_mono (wpAny_toks_of (n:=1) (by show 1<=s1.toks+ 1+ 1;lia) (SC.replace (Q:=EP X pz σ Q) (E:=X.xe) (u:=s1.toks) (v:=s1.toks+ 1) (Nat.pos_iff_ne_zero.mp ht1) (Nat.succ_ne_zero _) (cP (cY _)) hyz hb fun t' k=>⟨.str _,H1,?_,⟨t',rfl⟩,q⟩)) (fun _ _ z=>z) fun _ _ z=>z.2;exact I1.tok k
def FC (X:Cx) (st:List Zq) (t:TS):Prop:=
 ∀(pz:Za) (s:Zy) (σ:St) (H:Hp) (D:rO),Inv X pz σ H s->1<=s.toks->t D σ H->wpAny (model X.prog X.w) X.A (execs st X.env) (SP X pz D) X.xe s
theorem Cn {i:Nat} {x:Str} {e:Zr} {te:TE} {pos pos':Pos} {rest:List Zq} {u:TS} (hN:X.N.Nodup) (hi:X.N[i]?=some x) (hx:Loc X.env.scope x) (he:PE1 X e te) (hr:PSs X rest u)
  (hs:autoParam (swapsWith e (some (.Name x pos')) pos.line X.env=pure false) auR._auto_1) (hf:autoParam (X.fn x=true\/X.env.scope.names.lookup x=some .local) auL._auto_1):
  FC X (.Assign [.Name x pos'] e pos::rest) (BZ (FV te (gY i)) u):=by intro pz s σ H D I ht h;refine wpAny_execs_cons (wpAny_Assign_Name (thn (he pz s σ H _ I ht h) fun v s1 q1=>?_) hs);obtain⟨_,y,H1,I1,r1,q⟩:=q1;exact ox I1 hN hi hx r1 (fun s2 I2=>hr pz s2 _ H1 D I2 q) hf
theorem FC.nox {st:List Zq} {t:TS} (h:FC X.nox st t):FC X st t:=fun pz s σ H D I ht hw=>
 wpAny_mono (h pz s σ H D (I.wish _) ht hw) (fun _ _ q=>q.unwish) fun _ _ z=>False.elim z
end
theorem Gv {CX:CXT} {P:Zu} {w:Zv} {K:Zp} {mg:Zc} {base:Zt} {k:Nat} {f:Zx} {name qual p:Str} {params:Arguments} {body:List Zq} {scope:Scope} {dV kV doc pm cdv ct oc:Zz} {an od:Option Zx}
  {osl:Array (Option Zz)} {N:Zd} {sp:Sp} (lk:K.lookup f=some ⟨oc,od,.func (eK name qual params body scope dV kV doc pm an cdv ct),osl⟩) (hcd:eL K cdv qual=true) (S:gB N [p] scope)
  (nc:∀x∈scope.names,x.2≠ .cell) (nc2:∀n,cellsFrom n scope.names []=[]) (len:∀vs H Q E,sp vs H Q E->vs.length=1)
  (hbody:∀(A:Zw) (outer:List Env) (s:Zy) (H:Hp) (vs:List V) (Q:VK) (E:XK),mZ k (A.deeper (envOfC qual scope s.heap.objs.size f cdv))->sp vs H Q E->
   ∃t,FC (B0 CX P w K mg base N qual scope f cdv A outer s H E) body t/\t {nx:=fun _ H'=>Q .non H',rt:=Q} (qc N vs) H):
  sA P w K mg base CX (k+ 1) f (eK name qual params body scope dV kV doc pm an cdv ct) [p] sp:=by
 refine⟨len,fun A outer s H args us vs Q E hr e0 hb r hsp=>?_⟩;have hl:=len _ _ _ _ hsp;have hul:us.length=1:=by rw[<-r.length];exact hl
 obtain⟨u,rfl⟩:=bD.mp hul;have KX:K.In s.heap:=e0.mod.kin.keeps fun b o e=>(e0.bs b o e).1;have lim:s.heap.NoLimit:=e0.mod.nolimit.keeps fun b o e=>(e0.bs b o e).1;have hpl:scope.names.lookup p=some .local:=by
  rcases S.par p (by simp)with q|q;·exact q
  ·exact absurd rfl (nc _ (PySem.mem_of_lookup q))
 refine codeAny_call_function hr.depth (KX _ _ lk) rfl S.co S.gen rfl (eM KX hcd) (hb _ _ _ _ ?_);refine wpAny_newFunctionEnv nc (fun x hx=>?_) (fun h' hn hs=>?_) S.kind
 ·have e:x=(p,u):=by simpa using hx
  rw[e];exact hpl
 have keep:∀b o,s.heap.get? b=some o->h'.get? b=some o:=fun b o e=>hs.extBut b o (cP (fO e)) (fS _ e);refine⟨lim.keeps keep,codeAny_func ?_⟩;obtain⟨t,ht,hq⟩:=hbody A outer s H vs Q E (hr.deeper _) hsp;have em:(fun x=>(bE [p] [u]).reverse.lookup x)=bindL (envOfC qual scope s.heap.objs.size f cdv).kindOf (bE [p] [u]) fun _=>none:=by
  funext x;show(match x==p with|true=>some u|false=>none)=(if(envOfC qual scope s.heap.objs.size f cdv).kindOf p=some .local then fun y=>if y=p then some u else none else fun _=>none) x;rw[gU (show(envOfC qual scope s.heap.objs.size f cdv).kindOf p=some .local from hpl)]
  cases e:x==p with
  |true=>rw[gU (eq_of_beq e)]
  |false=>rw[gN (ne_of_beq_false e)]
 have x:InCallC s s.heap.objs.size (bindL (envOfC qual scope s.heap.objs.size f cdv).kindOf (bE [p] [u]) fun _=>none) (cellsFrom (s.heap.objs.size+ 1) scope.names []) (bindC (envOfC qual scope s.heap.objs.size f cdv).kindOf (bE [p] [u]) fun _=>none)
   {s with heap:=h',toks:=s.toks+(bE [p] [u]).length}:=by rw[nc2];refine⟨⟨⟨h',_,rfl⟩,?_,keep,cW _⟩,fun n c e=>by simp at e,List.Pairwise.nil,fun n c e=>by simp at e⟩;rw[<-em];exact hn
 have I:Inv (B0 CX P w K mg base N qual scope f cdv A outer s H E) [] (qc N vs) H {s with heap:=h',toks:=s.toks+(bE [p] [u]).length}:=vc S hr.hd e0 hl r x;have eenv:newEnv (eK name qual params body scope dV kV doc pm an cdv ct).scope s.heap.objs.size (eK name qual params body scope dV kV doc pm an cdv ct).globals (eK name qual params body scope dV kV doc pm an cdv ct).closure
   ((eK name qual params body scope dV kV doc pm an cdv ct).qualname++".<locals>.") (some f) (eK name qual params body scope dV kV doc pm an cdv ct).code none (eK name qual params body scope dV kV doc pm an cdv ct).builtins=envOfC qual scope s.heap.objs.size f cdv:=by unfold envOfC;rw[nc2];rfl
 rw[eenv];have go:=ht [] _ (qc N vs) H _ I (by show 1<=s.toks+ 1;lia) hq;refine wpAny_mono go (fun fl s' hs=>?_) fun e s' hs=>hs;have fin:∀{σ':St} {H':Hp} {v:V} {u:Zz},Inv (B0 CX P w K mg base N qual scope f cdv A outer s H E) [] σ' H' s'->iQ v u->Q v H'->CE outer P w H s Q u s':=
  fun{σ' H' v u} J rv q=>⟨v,H',J.os,J.bare,J.base,J.hok,rv,q⟩
 cases fl with
 |ret u=>obtain⟨v,σ',H',J,rv,q⟩:=hs;exact fin J rv q
 |next=>obtain⟨σ',H',J,q⟩:=hs;exact fin (v:=V.non) (u:=Value.none) J rfl q
 |brk=>obtain⟨_,_,_,q⟩:=hs;exact False.elim q
 |cont=>obtain⟨_,_,_,q⟩:=hs;exact False.elim q
section
variable {X:Cx} {st:Zq} {rest:List Zq} {t u:TS}
end
section
variable {P:Zu} {w:Zv} {H H':Hp} {h h':Zt} {a:Zx} {o:HO}
end
structure Fl (P:Zu) (w:Zv) (outer:List Env) (H:Hp) (s:Zy) (B:Zt) (H':Hp) (s':Zy):Prop where
 os:s'.os=s.os
 bare:AllBare s'.gens
 un:Un (frs outer) [] H H' s.heap s'.heap
 hok:HOk P w H' s'.heap
 stay:B.StaysIn s'.heap
 trk:∀b u,H' b=some u->∃o,B.get? b=some o
 old:∀b o,s.heap.get? b=some o->b∉frs outer->∃o',B.get? b=some o'
section
variable {X:Cx} {pz:Za} {σ:St} {H H':Hp} {s s':Zy} {B h:Zt}
theorem Inv.track {ea:Zx} {o:HO} (I:Inv X pz σ H s) (hn:H ea=none) (h0:X.s₀.heap.get? ea=none) (hL:ea≠X.env.locals) (hC:∀x c,X.env.cells.lookup x=some c->c≠ea) (hP:∀p∈X.pn++pz,p.1≠ea)
  (new:jL X.prog X.w (upd H ea o) s.heap ea o):Inv X pz σ (upd H ea o) s:=by
 have ne:∀b u,H b=some u->b≠ea:=fun b u e z=>by rw[z,hn]at e;cases e
 refine⟨I.ok,I.os,I.bare,⟨I.base.keep,I.base.slot,fun b ob e n hx=>?_,I.base.there,fun b xs e=>?_,fun b ob u e=>?_,fun b ps e=>?_⟩,I.loc,I.cell,?_,fun x c e=>?_,fun p hp=>?_,fun b u e=>?_,I.len⟩;·rw[gx (fun z=>by rw[z,h0]at e;cases e)];exact I.base.free b ob e n hx
 ·have e1:=I.base.tups b xs e;rw[gx (ne b _ e1)];exact e1
 ·have e1:=I.base.frzs b ob u e;rw[gx (ne b _ e1)];exact e1
 ·obtain⟨more,e1⟩:=I.base.tbls b ps e;exact⟨more,by rw[gx (ne b _ e1)];exact e1⟩
 ·rw[gx (Ne.symm hL)];exact I.free
 ·rw[gx (hC x c e)];exact I.freeC x c e
 ·obtain⟨e,n,n2,nf,d⟩:=I.pin p hp;exact⟨e,by rw[gx (hP p hp)];exact n,n2,nf,d⟩
 ·by_cases hb:b=ea;·subst hb;rw[gb]at e;cases e;exact new
  ·rw[gx hb]at e;exact(I.hok b u e).stay (fun _ _ _ q=>q) (fun c z=>by rw[gx (ne c _ z)];exact z) fun c xs z=>by rw[gx (ne c _ z)];exact z
end
section
variable {P:Zu} {w:Zv} {K:Zp} {mg:Zc} {base:Zt} {N:Zd} {qual:Str} {scope:Scope} {f:Zx} {cd:Zz} {A:Zw} {outer:List Env} {s₀:Zy} {H₀:Hp} {E:XK}
end
def Es:List Zz:=[.type "ValueError",.type "Exception",.type "BaseException",.type "object"]
abbrev ExcV (K:Zp) (C:Zx):Prop:=PySem.W.excIn K C Es "ValueError.__new__"=true
section
variable {X:Cx} {C:Zx} {E:XK} {x:Str} {np cpos pos:Pos} {e:Zr} {es:List Zr} {t:TA}
end
section
variable {P:Zu} {w:Zv} {K:Zp} {mg:Zc} {base:Zt}
end
section
variable {X:Cx} {pz:Za} {σ:St} {H:Hp} {s:Zy}
end
section
variable {X:Cx} {CX:CXT} {k:Nat} {f Y:Zx} {fd:Zs} {ps:Zd} {sp:Sp} {dvs:List V} {ds:List Zz} {E:XK} {x y n:Str} {p pos pos' py hpos tpos:Pos} {e:Zr} {es:List Zr} {t:TA} {b₀:Zq} {body:List Zq} {tb:TS} {i:Nat}
end
section
variable {X:Cx} {e:Zr} {es:List Zr} {te:TE} {pos:Pos}
end
section
variable {X:Cx}
theorem vt:ny X (.type "int") (fun xs H Q=>∃x n,xs=[.str x]/\intText? x=some n/\x.length<=640/\Q (.int n) H):=by intro pz s σ H xs us Q I r h;obtain⟨x,n,rfl,hn,hl,q⟩:=h;obtain⟨u,rfl,rx⟩:=mz r;obtain⟨t,rfl⟩:=rx;exact PySem.W.KIN.call_text hn hl ⟨.int n,H,I.tok _,⟨_,rfl⟩,q⟩
end
inductive Dt where
 |flat (v:V)
 |tup (l:List Dt)
 |lst (l:List Dt)
mutual
inductive At (K:Zp) (H:Hp):V->Dt->Prop where
 |flat {v:V} (h:qe v=true):At K H v (.flat v)
 |tup {a:Zx} {xs:List V} {ds:List Dt} (h:SqT K H a xs) (hs:Ats K H xs ds):At K H (.ref a) (.tup ds)
 |lst {a:Zx} {xs:List V} {ds:List Dt} (h:SqL K H a xs) (hs:Ats K H xs ds):At K H (.ref a) (.lst ds)
inductive Ats (K:Zp) (H:Hp):List V->List Dt->Prop where
 |nil:Ats K H [] []
 |cons {x:V} {d:Dt} {xs:List V} {ds:List Dt} (h:At K H x d) (hs:Ats K H xs ds):Ats K H (x::xs) (d::ds)
end
mutual
def eqD:Dt->Dt->Bool
 | .flat a,.flat b=>eqV a b
 | .tup l,.tup m=>uT l m
 | .lst l,.lst m=>uT l m
 |_,_=>false
def uT:List Dt->List Dt->Bool
 |[],[]=>true
 |x::xs,y::ys=>eqD x y&&uT xs ys
 |_,_=>false
end
mutual
def pX:Dt->Dt->Bool
 | .flat _,.flat _=>true
 | .tup l,.tup m=>rQ l m
 | .lst l,.lst m=>if l.length=m.length then rQ l m else true
 |_,_=>false
def rQ:List Dt->List Dt->Bool
 |x::xs,y::ys=>pX x y&&rQ xs ys
 |_,_=>true
end
mutual
def qt:Dt->Nat
 | .flat _=>0
 | .tup l=>jO l+ 1
 | .lst l=>jO l+ 1
def jO:List Dt->Nat
 |[]=>0
 |x::xs=>max (qt x) (jO xs)
end
theorem Ats.length {K:Zp} {H:Hp}:∀{xs:List V} {ds:List Dt},Ats K H xs ds->xs.length=ds.length
 |_,_,.nil=>rfl
 |_,_,.cons _ t=>by rw[aA,aA,Ats.length t]
theorem Ats.get {K:Zp} {H:Hp}:∀{xs:List V} {ds:List Dt} {j:Nat} {x:V},Ats K H xs ds->xs[j]?=some x->∃d,ds[j]?=some d/\At K H x d
 |_,_,0,_,.cons h _,e=>⟨_,rfl,by cases e;exact h⟩
 |_,_,j+ 1,_,.cons _ t,e=>Ats.get (j:=j) t e
 |_,_,_,_,.nil,e=>by simp at e
theorem tK:∀(l m:List Dt),l.length≠m.length->uT l m=false
 |[],[],h=>absurd rfl h
 |x::xs,y::ys,h=>by rw[uT,tK xs ys (fun e=>h (by rw[aA,aA,e])),fA]
 |[],y::ys,_=>by rw[uT];all_goals simp
 |x::xs,[],_=>by rw[uT];all_goals simp
def zo (l m:List Dt) (j:Nat):Bool:=match l[j]?,m[j]? with
 |some a,some b=>eqD a b
 |_,_=>false
theorem oW:∀(l m:List Dt),l.length=m.length->((aa l.length).all fun j=>zo l m j)=uT l m
 |[],[],_=>by rw[uT];rfl
 |x::xs,y::ys,h=>by have ih:=oW xs ys (by simpa using h);rw[aA,bA,ba,bB,uT,<-ih];rfl
 |[],_::_,h=>by simp at h
 |_::_,[],h=>by simp at h
theorem mD:∀{l m:List Dt} {j:Nat} {a b:Dt},rQ l m=true->l[j]?=some a->m[j]?=some b->pX a b=true
 |x::xs,y::ys,0,a,b,h,e1,e2=>by rw[rQ,fz]at h;cases e1;cases e2;exact h.1
 |x::xs,y::ys,j+ 1,a,b,h,e1,e2=>by rw[rQ,fz]at h;exact mD (j:=j) h.2 e1 e2
 |[],_,_,_,_,_,e1,_=>by simp at e1
 |_::_,[],_,_,_,_,_,e2=>by simp at e2
theorem depDs_get:∀{l:List Dt} {j:Nat} {a:Dt},l[j]?=some a->qt a<=jO l
 |x::xs,0,a,e=>by cases e;rw[jO];exact Nat.le_max_left ..
 |x::xs,j+ 1,a,e=>by rw[jO];exact cQ (depDs_get (j:=j) e) (Nat.le_max_right ..)
 |[],_,_,e=>by simp at e
theorem vw {v:V} (h:qe v=true):eqV v v=true:=by
 cases v with
 |non=>rfl
 |bl b=>show(b==b)=true;simp
 |int i=>show(i==i)=true;simp
 |str x=>show(x==x)=true;simp
 |_=>exact absurd h fu
section
variable {X:Cx} {pz:Za} {σ:St} {H:Hp} {s:Zy}
mutual
theorem At.same (I:Inv X pz σ H s):∀{x:V} {d e:Dt},At X.K H x d->At X.K H x e->pX d e=true->eqD d e=true
 |_,_,_,.flat h,k,c=>by
  cases k with
  |flat _=>rw[eqD];exact vw h
  |tup _ _=>exact absurd h fu
  |lst _ _=>exact absurd h fu
 |_,_,_,.tup h hs,k,c=>by
  cases k with
  |flat h=>exact absurd h fu
  |tup h' hs'=>have e:=I.tuple_inj h h';subst e;rw[pX]at c;rw[eqD];exact Ats.same I hs hs' c
  |lst _ _=>simp[pX]at c
 |_,_,_,.lst h hs,k,c=>by
  cases k with
  |flat h=>exact absurd h fu
  |tup _ _=>simp[pX]at c
  |lst h' hs'=>have e:=I.list_inj h h';subst e;rw[pX,gU (hs.length.symm.trans hs'.length)]at c;rw[eqD];exact Ats.same I hs hs' c
theorem Ats.same (I:Inv X pz σ H s):∀{xs:List V} {l m:List Dt},Ats X.K H xs l->Ats X.K H xs m->rQ l m=true->uT l m=true
 |_,_,_,.nil,k,_=>by cases k;rw[uT]
 |_,_,_,.cons h t,k,c=>by
  cases k with
  |cons h' t'=>rw[rQ,fz]at c;rw[uT,At.same I h h' c.1,Ats.same I t t' c.2];rfl
end
def Els (K:Zp) (H:Hp) (A:Zw) (s:Zy) (ds es:List Dt):Prop:=
 ∀(j:Nat) (d1 d2:Dt) (x y:V) (u v:Zz),ds[j]?=some d1->es[j]?=some d2->iQ x u->iQ y v->At K H x d1->At K H y d2->SeqAt.EqAt A s u v (eqD d1 d2)
theorem els {A:Zw} {xs ys:List V} {its its2:List Zz} {ds es:List Dt} (r:iU xs its) (r2:iU ys its2) (hs:Ats X.K H xs ds) (hs':Ats X.K H ys es) (EL:Els X.K H A s ds es):
  ∀j (h1:j<its.toArray.size) (h2:j<its2.toArray.size),SeqAt.EqAt A s its.toArray[j] its2.toArray[j] (zo ds es j):=fun j h1 h2=>by
 have l1:=r.length;have l2:=r2.length;have h1':j<xs.length:=by simp only[aY]at h1;lia
 have h2':j<ys.length:=by simp only[aY]at h2;lia
 obtain⟨w1,e1,q1⟩:=r.get (bF h1');obtain⟨w2,e2,q2⟩:=r2.get (bF h2');obtain⟨d1,f1,p1⟩:=hs.get (bF h1');obtain⟨d2,f2,p2⟩:=hs'.get (bF h2');have g1:its.toArray[j]=w1:=by simpa using(au.mp e1).2
 have g2:its2.toArray[j]=w2:=by simpa using(au.mp e2).2
 have ed:zo ds es j=eqD d1 d2:=by unfold zo;rw[f1,f2]
 rw[g1,g2,ed];exact EL j d1 d2 _ _ _ _ f1 f2 q1 q2 p1 p2
theorem Et {ds es:List Dt} {n m:Nat} (h1:n=ds.length) (h2:m=es.length):((aa (min n m)).all (zo ds es)&&n==m)=eqD (.tup ds) (.tup es):=by
 subst h1 h2;rw[eqD];by_cases hl:ds.length=es.length;·rw[<-oW ds es hl,<-hl,c8];simp
 ·rw[tK ds es hl,beq_eq_false_iff_ne.mpr hl,fA]
theorem Eu {ds es:List Dt} {n:Nat} (h1:n=ds.length) (h:ds.length=es.length):((aa n).all (zo ds es))=eqD (.lst ds) (.lst es):=by subst h1;rw[eqD,<-oW ds es h]
theorem Aq {A:Zw} {a b:Zx} {xs ys:List V} {ds es:List Dt} (I:Inv X pz σ H s) (h:SqT X.K H a xs) (hs:Ats X.K H xs ds) (h':SqT X.K H b ys) (hs':Ats X.K H ys es) (hu:A.units<cLine) (EL:Els X.K H A.in1 s ds es):
  SeqAt.RcAt A s (.ref a) (.ref b) (eqD (.tup ds) (.tup es))/\SeqAt.RcNeAt A s (.ref a) (.ref b) (!eqD (.tup ds) (.tup es)):=by
 obtain⟨its,r,pl,_⟩:=I.tuple h;obtain⟨its2,r2,pl2,_⟩:=I.tuple h';have e:=els r r2 hs hs' EL;have l1:its.toArray.size=ds.length:=by rw[aY,<-r.length,hs.length]
 have l2:its2.toArray.size=es.length:=by rw[aY,<-r2.length,hs'.length]
 have k1:=SeqAt.RcAt.tuples (A:=A) (s:=s) pl pl2 hu e;have k2:=SeqAt.RcNeAt.tuples (A:=A) (s:=s) pl pl2 hu e;rw[Et l1 l2]at k1 k2;exact⟨k1,k2⟩
theorem C7 {A:Zw} {a b:Zx} {xs ys:List V} {ds es:List Dt} (I:Inv X pz σ H s) (h:SqL X.K H a xs) (hs:Ats X.K H xs ds) (h':SqL X.K H b ys) (hs':Ats X.K H ys es) (hu:A.units<cLine) (EL:ds.length=es.length->Els X.K H A.in1 s ds es):
  SeqAt.RcAt A s (.ref a) (.ref b) (eqD (.lst ds) (.lst es))/\SeqAt.RcNeAt A s (.ref a) (.ref b) (!eqD (.lst ds) (.lst es)):=by
 obtain⟨its,r,pl,_⟩:=I.list h;obtain⟨its2,r2,pl2,_⟩:=I.list h';have l1:its.toArray.size=ds.length:=by rw[aY,<-r.length,hs.length]
 have l2:its2.toArray.size=es.length:=by rw[aY,<-r2.length,hs'.length]
 by_cases hl:ds.length=es.length;·have e:=els r r2 hs hs' (EL hl);have k1:=SeqAt.RcAt.lists (A:=A) (s:=s) pl.isList pl2.isList (by rw[l1,l2,hl]) hu e;have k2:=SeqAt.RcNeAt.lists (A:=A) (s:=s) pl.isList pl2.isList (by rw[l1,l2,hl]) hu e;rw[Eu l1 hl]at k1 k2;exact⟨k1,k2⟩
 ·have hne:(its.toArray.size !=its2.toArray.size)=true:=by rw[l1,l2];exact bne_iff_ne.mpr hl
  have k1:=SeqAt.RcAt.lists_lengths (A:=A) (s:=s) pl.isList pl2.isList hne hu;have k2:=SeqAt.RcNeAt.lists_lengths (A:=A) (s:=s) pl.isList pl2.isList hne hu;rw[eqD,tK ds es hl];exact⟨k1,k2⟩
theorem C8 (I:Inv X pz σ H s):∀(n:Nat) (A:Zw) {x y:V} {u v:Zz} {d e:Dt},iQ x u->iQ y v->At X.K H x d->At X.K H y e->pX d e=true->qt d<=n->A.units+n<cLine->SeqAt.EqAt A s u v (eqD d e):=by
 intro n
 induction n with
 |zero=>
  intro A x y u v d e rx ry hx hy c hd hu
  cases hx with
  |flat h=>
   cases hy with
   |flat h'=>rw[eqD];exact vm rx ry h h'
   |tup _ _=>simp[pX]at c
   |lst _ _=>simp[pX]at c
  |tup _ _=>rw[qt]at hd;lia
  |lst _ _=>rw[qt]at hd;lia
 |succ n ih=>
  intro A x y u v d e rx ry hx hy c hd hu
  cases hx with
  |flat h=>
   cases hy with
   |flat h'=>rw[eqD];exact vm rx ry h h'
   |tup _ _=>simp[pX]at c
   |lst _ _=>simp[pX]at c
  |@tup a xs ds h hs=>
   cases hy with
   |flat _=>simp[pX]at c
   |lst _ _=>simp[pX]at c
   |@tup b ys es h' hs'=>
    cases rx;cases ry;by_cases hab:a=b;·subst hab;rw[At.same I (.tup h hs) (.tup h' hs') c];exact SeqAt.EqAt.same _
    ·rw[pX]at c;rw[qt]at hd;refine SeqAt.EqAt.of_refs hab (Aq I h hs h' hs' (by lia) fun j d1 d2 x y u v f1 f2 q1 q2 p1 p2=>?_).1;exact ih A.in1 q1 q2 p1 p2 (mD c f1 f2) (cQ (depDs_get f1) (by lia)) (by show A.units+ 1+n<cLine;lia)
  |@lst a xs ds h hs=>
   cases hy with
   |flat _=>simp[pX]at c
   |tup _ _=>simp[pX]at c
   |@lst b ys es h' hs'=>
    cases rx;cases ry;by_cases hab:a=b;·subst hab;rw[At.same I (.lst h hs) (.lst h' hs') c];exact SeqAt.EqAt.same _
    ·rw[qt]at hd;refine SeqAt.EqAt.of_refs hab (C7 I h hs h' hs' (by lia) fun hl j d1 d2 x y u v f1 f2 q1 q2 p1 p2=>?_).1;rw[pX,gU hl]at c;exact ih A.in1 q1 q2 p1 p2 (mD c f1 f2) (cQ (depDs_get f1) (by lia)) (by show A.units+ 1+n<cLine;lia)
def rEqD (K:Zp) (neg:Bool):R2:=fun x y H Q=>∃a b d e,x= .ref a/\y= .ref b/\At K H x d/\At K H y e/\pX d e=true/\qt d<=100/\Q (.bl (if neg then !eqD d e else eqD d e)) H
theorem rcD (I:Inv X pz σ H s) {A:Zw} {a b:Zx} {d e:Dt} (hx:At X.K H (.ref a) d) (hy:At X.K H (.ref b) e) (c:pX d e=true) (hd:qt d<=100) (hu:A.units+ 101<cLine):
  SeqAt.RcAt A s (.ref a) (.ref b) (eqD d e)/\SeqAt.RcNeAt A s (.ref a) (.ref b) (!eqD d e):=by
 cases hx with
 |flat h=>exact absurd h fu
 |@tup a xs ds h hs=>
  cases hy with
  |flat h=>exact absurd h fu
  |lst _ _=>simp[pX]at c
  |@tup b ys es h' hs'=>rw[pX]at c;rw[qt]at hd;refine Aq I h hs h' hs' (by lia) fun j d1 d2 x y u v f1 f2 q1 q2 p1 p2=>?_;exact C8 I 100 A.in1 q1 q2 p1 p2 (mD c f1 f2) (cQ (depDs_get f1) (by lia)) (by show A.units+ 1+ 100<cLine;lia)
 |@lst a xs ds h hs=>
  cases hy with
  |flat h=>exact absurd h fu
  |tup _ _=>simp[pX]at c
  |@lst b ys es h' hs'=>rw[qt]at hd;refine C7 I h hs h' hs' (by lia) fun hl j d1 d2 x y u v f1 f2 q1 q2 p1 p2=>?_;rw[pX,gU hl]at c;exact C8 I 100 A.in1 q1 q2 p1 p2 (mD c f1 f2) (cQ (depDs_get f1) (by lia)) (by show A.units+ 1+ 100<cLine;lia)
end
section
variable {X:Cx}
theorem Gw {k:Nat} (hr:mZ k X.A):OpR X (compareOp .Eq) (rEqD X.K false):=by intro pz s σ H x y v u Q I rx ry h;obtain⟨a,b,d,e,rfl,rfl,hx,hy,c,hd,q⟩:=h;cases rx;cases ry;have hu:=hr.un;exact(rcD I hx hy c hd (by lia)).1 _ _ _ _ ⟨.bl _,H,I,rfl,q⟩
end
def Ar (P:Zu) (w:Zv) (K:Zp) (a:Zx) (kvs:List (Key×V)):Prop:=(a==sysModules)=false/\∃vs,KV kvs vs/\∀h:Zt,K.In h->h.DictOf (jg P w) a vs
theorem ye {P:Zu} {w:Zv} {K:Zp} {a:Zx} {es:Array DictEntry} {n:Nat} {l:List (Str×Tok×Zx)} (ha:(a==sysModules)=false) (hl:K.lookup a=some ⟨.type "dict",none,.dict es n,#[]⟩)
  (he:es.toList=l.map fun p=>⟨PyData.keyHash w.params p.1,.str p.1 p.2.1,.ref p.2.2⟩) (hn:(l.map (·.1)).Nodup):Ar P w K a (l.map fun p=>(Sum.inr p.1,V.ref p.2.2)):=by
 refine⟨ha,l.map fun p=>(Sum.inr p.1,Value.ref p.2.2),?_,fun h hk=>?_⟩
 ·clear he hn
  induction l with
  |nil=>exact .nil
  |cons p r ih=>exact .cons ⟨rfl,rfl⟩ ih
 ·refine⟨_,es,n,hk _ _ hl,⟨rfl,rfl,rfl⟩,rfl,fun e hm=>?_,?_,?_⟩
  ·have hm':e∈es.toList:=by simpa using hm
   rw[he]at hm';obtain⟨p,_,rfl⟩:=bh.mp hm';exact⟨Sum.inr p.1,qC p.1 p.2.1,rfl⟩
  ·rw[he];clear he hn
   induction l with
   |nil=>exact .nil
   |cons p r ih=>exact .cons (qC p.1 p.2.1) rfl ih
  ·rw[bG];have e:(bH ((fun(x:Key×Zz)=>x.1)∘fun(p:Str×Tok×Zx)=>((Sum.inr p.1:Key),Value.ref p.2.2)) l)=(l.map (·.1)).map (Sum.inr:Str->Key):=by rw[bG];rfl
   rw[e];exact List.Pairwise.map _ (fun a b h z=>h (Sum.inr.inj z)) hn
def Ew (a:Zx) (kvs:List (Key×V)) (ty td:TE):TE:=fun σ H Q=>ty σ H fun y H1=>td σ H1 fun x H2=>∃k,x= .ref a/\y=kV k/\Q (.bl (!(jB kvs k).isSome)) H2
def Iy (a:Zx) (kvs:List (Key×V)) (td ty:TE):TE:=fun σ H Q=>td σ H fun x H1=>ty σ H1 fun y H2=>∃k v,x= .ref a/\y=kV k/\jB kvs k=some v/\Q v H2
section
variable {X:Cx} {o i:Zr} {pos:Pos} {td ty:TE} {a:Zx} {kvs:List (Key×V)}
theorem As (d:Ar X.prog X.w X.K a kvs) (hi:PE X i ty) (ho:PE X o td):PC X .NotIn i o (Ew a kvs ty td):=by intro pz s σ H Q I h;refine thn (hi pz s σ H _ I h) fun iv s1 ⟨y,H1,I1,ry,q1⟩=>thn (ho pz s1 σ H1 _ I1 q1) ?_;rintro u s2 ⟨x,H2,I2,rx,k,ex,ey,q2⟩;subst ex ey;obtain rfl:u=Value.ref a:=rx;obtain⟨hs,vs,rel,dd⟩:=d;refine wpAny_notIn_of (tF ry) hs (dd _ I2.kIn).mapOf ?_;rw[<-(rel.val k).isSome_eq];exact⟨.bl _,H2,I2.tok _,rfl,q2⟩
theorem Au (d:Ar X.prog X.w X.K a kvs) (ho:PE X o td) (hi:PE X i ty) (hs:Ij i:=by exact fun _ _=>rfl):PE X (.Subscript o i pos) (Iy a kvs td ty):=by intro pz s σ H Q I h;refine z9 eU.lookup hs (thn (ho pz s σ H _ I h) fun u s1 ⟨x,H1,I1,rx,q1⟩=>thn (hi pz s1 σ H1 _ I1 q1) ?_);rintro iv s2 ⟨y,H2,I2,ry,k,v,ex,ey,hv,q2⟩;subst ex ey;obtain rfl:u=Value.ref a:=rx;obtain⟨_,vs,rel,dd⟩:=d;obtain⟨w',hw,rw'⟩:=sU.some_of (v:=v) (o:=valueAt vs k) (by rw[<-hv];exact rel.val k);exact⟨(dd _ I2.kIn).typeIs,wpAny_getItem_of (tF ry) (dd _ I2.kIn).mapOf hw ⟨v,H2,I2.tok _,rw',q2⟩⟩
end
section
variable {X:Cx}
end
section
variable {X:Cx} {k:Nat} {f Y:Zx} {fd:Zs} {ps:Zd} {sp:Sp} {dvs:List V} {ds:List Zz} {x y n:Str} {p pos pos' py hpos tpos pn:Pos} {e:Zr} {es:List Zr} {t:TA} {b₀:Zq} {body:List Zq} {tb:TS} {i:Nat}
end
end L2.Internal
namespace L2.Internal
theorem C9:PySem.bootBuiltins "min"=some (.builtin "min"):=iq
end L2.Internal
namespace L2.Internal
open PySem PySem.Spec PyProof.Rows
section
variable {X:Cx} {pz:Za} {σ:St} {H:Hp} {s:Zy} {h':Zt}
theorem Inv.turnedL {t':Nat} {ch:List Zx} (I:Inv X pz σ H s) (k:∀b o,b∉ch->s.heap.get? b=some o->h'.get? b=some o) (hf:∀b∈ch,uS X pz H b):Inv X pz σ H {s with heap:=h',toks:=t'}:=by
 have nit:∀b u,H b=some u->b∉ch:=fun b u e z=>by have q:=(hf b z).1;rw[q]at e;cases e
 refine I.step (g':=s.gens) (d':=s.drawn) (ch:=ch) (fun b hb=>?_) (fun b o _ _ hc e _=>k b o hc e) (fun b o _ _ hc e _=>⟨o.slots,k b o hc e⟩) (fun _ _ _ _ n=>n)
  (fun b o hc e=>⟨o,k b o hc e⟩) (fun _ _ e=>e) (fun _ _ _ e=>e) (fun b ps e=>⟨#[],by rw[e];simp⟩) (fun m hm=>?_) (fun b u e=>?_) I.bare;·obtain⟨_,f1,_,f3,f4,f5⟩:=hf b hb;exact⟨f3,f1,f4,f5⟩
 ·obtain⟨o,es,ep,ho,r⟩:=hm;exact⟨o,es,ep,k _ o (fun z=>(hf _ z).2.1 rfl) ho,r⟩
 ·refine(I.hok b u e).stay (fun c v hc q=>k c v ?_ q) (fun _ q=>q) fun _ _ q=>q;rcases hc with z|z;·rw[z];exact nit b u e
  ·exact nit c _ z
theorem Inv.pairNew {T:Zx} {h:Zt} {tk:Nat} {ux uy:Zz} {x y:V} (I:Inv X pz σ H s) (hT:s.heap.objs.size<=T) (J:Inv X pz σ H {s with heap:=h,toks:=tk}) (ht:yW h T #[ux,uy]) (rx:iQ x ux) (ry:iQ y uy):
  H T=none/\Inv X pz σ (upd H T (.tup [x,y])) {s with heap:=h,toks:=tk}:=by
 have f:=I.fpOk (H':=H) hT (I.hok.fresh hT);refine⟨f.1,J.track f.1 ?_ f.2.1 f.2.2.2.2.1 f.2.2.2.2.2 ⟨by show 2<=sizeLine;decide,[ux,uy],.cons rx (.cons ry .nil),ht⟩⟩
 cases q:X.s₀.heap.get? T with
 |none=>rfl
 |some o=>exact absurd (cM (fO q) (cQ I.sz hT)) (cO _)
end
theorem Gx:bootBuiltins "zip"=some (.type "zip"):=iq
theorem vy:bootBuiltins "enumerate"=some (.type "enumerate"):=iq
theorem SqL.old {X:Cx} {pz:Za} {σ:St} {H:Hp} {s:Zy} {a:Zx} {xs:List V} (I:Inv X pz σ H s) (h:SqL X.K H a xs):a<s.heap.objs.size:=by obtain⟨its,_,p,_⟩:=I.list h;obtain⟨o,e,_⟩:=p.isList;exact fO e
section
variable {X:Cx}
end
def Ite (K:Zp) (a:Zx):It:=
 ⟨fun i H=>∃xs x,SqL K H a xs/\xs[i]?=some x,
   fun i H v H'=>∃T x,v= .ref T/\H T=none/\H'=upd H T (.tup [.int (i:Int),x])/\∀xs,SqL K H a xs->xs[i]?=some x,
   fun i H=>∃xs,SqL K H a xs/\i=xs.length⟩
def ESt (e it a:Zx) (i:Nat) (h:Zt):Prop:=(∃old,IsEnum h e it i old)/\h.IsListIter it a i
theorem Av {P:Zu} {w:Zv} {K:Zp} {es:List Zr} {kk:Nat} {tp:Pos} {a e it:Zx} (h1:e≠it) (h2:a≠e) (h3:a≠it):B4 P w K (.Tuple es kk tp) (Ite K a) [e,it] e (ESt e it a) where
 mem:=by simp
 obj:=fun i h st c hc=>by
  obtain⟨⟨old,g1⟩,⟨o4,g4,_,d4⟩⟩:=st;simp only[ak,bI,or_false]at hc;rcases hc with q|q<;>subst q;·exact⟨_,g1,fun v q=>nomatch q⟩
  ·exact⟨_,g4,fun v q=>by rw[d4]at q;cases q⟩
 keep:=fun i h h' st k=>by obtain⟨⟨old,g1⟩,g4⟩:=st;exact⟨⟨old,k e (by simp) _ g1⟩,g4.at fun o q=>k it (by simp) o q⟩
 item:=by
  intro X hP hw hK hc i pz s σ H E I hf st hg;subst hP hw hK;obtain⟨xs,x,qx,ex⟩:=hg;obtain⟨i1s,r1,p1,z1⟩:=I.list qx;obtain⟨g1,g4⟩:=st;obtain⟨old,g1'⟩:=g1;obtain⟨ux,hux,rr1⟩:=r1.get ex;have lte:e<s.heap.objs.size:=fO g1';refine wpAny_pyNext_enum_item g1' g4 p1.isList (x:=ux) (by simpa using hux) h1 fun k1 ho hit' hT hsz hk=>?_;have kk1:∀c o,c∉[e,it]->s.heap.get? c=some o->k1.get? c=some o:=fun c o hc q=>hk c o (fun z=>hc (by simp[z])) (fun z=>hc (by simp[z])) q;have J1:Inv X pz σ H {s with heap:=k1,toks:=s.toks+ 1}:=I.turnedL kk1 hf;refine⟨.ref s.heap.objs.size,rfl,wpAny_letOwnedTupleGo_enum ho fun k2 he' sb=>?_⟩;have J2:Inv X pz σ H {s with heap:=k2,toks:=s.toks+ 1}:=Inv.turnedL (s:={s with heap:=k1,toks:=s.toks+ 1}) (h':=k2) (t':=s.toks+ 1) (ch:=[e]) J1 (fun c o hc q=>(sb.2 c (fun z=>hc (by simp[z]))).trans q) fun c hc=>hf c (by simp only[ak,bI,or_false]at hc⊢;simp[hc]);have ht2:yW k2 s.heap.objs.size #[.int i s.toks,ux]:=⟨_,(sb.2 _ (cU lte)).trans hT,rfl,_,rfl,rfl⟩;obtain⟨fT,J3⟩:=I.pairNew (x:= .int (i:Int)) (cW _) J2 ht2 ⟨s.toks,rfl⟩ rr1;refine⟨.ref s.heap.objs.size,_,J3,rfl,⟨_,x,rfl,fT,rfl,fun l hl=>by rw[I.list_inj hl qx];exact ex⟩,⟨⟨_,by simpa using he'⟩,hit'.at fun o y=>(sb.2 it h1.symm).trans y⟩,fun c hc=>?_⟩;rw[gx (fun q=>?_)];·exact(hf c hc).1
  ·have lt:c<s.heap.objs.size:=by
    obtain⟨o4,e4,_⟩:=g4;simp only[ak,bI,or_false]at hc;rcases hc with q|q<;>subst q;·exact lte
    ·exact fO e4
   exact absurd lt (by rw[q];exact cO _)
 done:=by
  intro X hP hw hK hc i pz s σ H E I hf st hg;subst hP hw hK;obtain⟨xs,qx,ei⟩:=hg;obtain⟨i1s,r1,p1,z1⟩:=I.list qx;obtain⟨g1,g4⟩:=st;have W:=WalksT.enumerate (prog:=X.prog) (w:=X.w) (I.ok.hd hc) e it a h1 h2 h3 i1s.toArray;have l1:=r1.length;have q:i=i1s.toArray.size:=by simp only[aY];lia
  subst q;exact W.done s _ _ ⟨g1,g4,p1.isList⟩ fun h1 tk hk=>⟨rfl,I.turnedL hk hf⟩
 self:=fun _ _ _ _ _ st h=>by obtain⟨⟨old,g1⟩,_⟩:=st;exact wpAny_pyIter_enum g1 h
def Iz (K:Zp) (ta:TA):TI:=fun σ H R=>ta σ H fun vs H1=>∃a,vs=[.ref a]/\(∃xs,SqL K H1 a xs)/\R (Ite K a) H1
section
variable {X:Cx}
theorem wK {es:List Zr} {kk:Nat} {tp:Pos} {a:Zr} {ta:TA} {p pos:Pos} (hg:Gl X "enumerate") (hm:X.mg "enumerate"=none) (ha:PA X [a] ta) (hs:autoParam (starEach [a] X.env=[(false,eval a X.env)]) auR._auto_1):
  PI X (.Tuple es kk tp) (.Call (.Name "enumerate" p) [a] [] pos) (Iz X.K ta):=by
 intro pz s σ H R I h;refine Call_ (nA I hg hm vy (fX (thn (ha pos pz s σ H _ I h) ?_) hs rfl));rintro us s1 ⟨vs,H1,I1,r1,q1⟩;obtain⟨l1,e,⟨xs,q1⟩,q⟩:=q1;subst e;obtain⟨u,rfl,ru⟩:=mz r1;cases ru;obtain⟨i1s,w1,p1,z1⟩:=I1.list q1;have o1:@LT.lt Nat _ l1 s1.heap.objs.size:=SqL.old I1 q1;refine call_enumerate_list p1.isList fun h1 hE hi1 hsz hk=>wpAny_pyIter_enum hE ?_;refine⟨_,_,_,_,H1,rfl,I1.kept (t':=s1.toks) hk,Av (fun(h:@Eq Nat _ _)=>by lia) (fun(h:@Eq Nat _ _)=>by lia) (fun(h:@Eq Nat _ _)=>by lia),⟨⟨_,hE⟩,hi1⟩,fun c hc=>?_,q⟩;have ge:s1.heap.objs.size<=c:=by simp only[ak,bI,or_false]at hc;rcases hc with h|h<;>rw[h]<;>first|exact cW _|exact c9 _ _
 exact I1.fpOk ge (I1.hok.fresh ge)
end
def LcG (J:It) (g:TG) (te:TE) (Q:VK) (τ:St) (H1:Hp) (D:Zx):Prop:=
 ∃W:Nat->Nat->St->Hp->Prop,(∃m,W 0 m τ (upd H1 D (.lst [])))/\∀k m σ' H2,W k m σ' H2->
  (J.stop k H2/\Q (.ref D) H2)\/(J.go k H2/\∀v H3,J.yld k H2 v H3->g v σ' H3 fun σ4 H4=>te σ4 H4 fun y H5=>∃xs,H5 D=some (.lst xs)/\xs.length<sizeLine/\∃m',m'<m/\W (k+ 1) m' σ4 (upd H5 D (.lst (xs++[y]))))
def tLG (wi:TI) (f:St->St) (g:TG) (te:TE):TE:=fun σ H Q=>wi σ H fun J H1=>∀D,H1 D=none->LcG J g te Q (f σ) H1 D
theorem Gy {X:Cx} {elt iter:Zr} {es:List Zr} {kk:Nat} {tp:Pos} {x:Str} {scope:Scope} {pos:Pos} {N:Zd} {cl:List (Str×Zx)} {f:St->St} {i:Nat} {wi:TI} {g:TG} {te:TE}
  (hc:X.calm=true) (B:oU X N scope cl f i x) (hi:PI X (.Tuple es kk tp) iter wi)
  (hg:∀C s₀ H₀ ex pz,PG (blk X N scope cl C s₀ H₀ ex pz) (.Tuple es kk tp) g) (hte:∀C s₀ H₀ ex pz,PE (blk X N scope cl C s₀ H₀ ex pz) elt te)
  (hs:autoParam (∀x,foldedSetIterable iter X.env x=pure x) auI._auto_1):PE X (.ListComp elt [⟨.Tuple es kk tp,iter,[],0⟩] scope pos) (tLG wi f g te):=by
 intro pz s σ H Q I h;rw[eval_ListComp];refine wpAny_comprehension_free (use:=none) rfl hs B.clos B.kind B.names (thn (hi pz s σ H _ I h) fun xv s1 h1=>thn h1 fun itv s2 h2=>?_);obtain⟨it,fp,tn,J,H2,rfl,I2,T,st2,f2,q⟩:=h2;have hD:H2 s2.heap.objs.size=none:=I2.fresh;obtain⟨W,⟨m0,w0⟩,turn⟩:=q _ hD;refine wpAny_newObj_type (wpAny_newFunctionEnv B.cell (by intro y hy;simp at hy) (fun h₁ hns₁ hsb₁=>?_) B.kind);have I3:Inv X pz σ (upd H2 s2.heap.objs.size (.lst [])) {s2 with heap:=s2.heap.push {cls:= .type "list",data:= .seq ([]:List Zz).toArray}}:=I2.lnew (its:=[]) (ys:=[]) (t':=s2.toks) .nil (cX _);have lt2:∀b∈fp,b<s2.heap.objs.size:=fun b hb=>by obtain⟨o,ho,_⟩:=T.obj _ _ st2 b hb;exact fO ho
 have fp3:∀b∈fp,uS X pz (upd H2 s2.heap.objs.size (.lst [])) b:=fun b hb=>by refine⟨?_,(f2 b hb).2⟩;rw[gx (cP (lt2 b hb))];exact(f2 b hb).1
 generalize hs3:({s2 with heap:=s2.heap.push {cls:= .type "list",data:= .seq ([]:List Zz).toArray}}:Zy)=s3 at I3 hns₁ hsb₁⊢;have eh:s2.heap.push {cls:= .type "list",data:= .seq ([]:List Zz).toArray}=s3.heap:=by rw[<-hs3]
 have lt3:∀b∈fp,b<s3.heap.objs.size:=fun b hb=>by rw[<-eh,fU];exact c7 (lt2 b hb)
 have old:∀b o,s3.heap.get? b=some o->h₁.get? b=some o:=fun b o e=>hsb₁.extBut b o (cP (fO e)) (fS _ e);have I4:=wJ (tk:=s3.toks+([]:List (Str×Zz)).length) B I3 (ex:=fp) (fun b hb=>⟨fp3 b hb,lt3 b hb⟩) old hns₁;have st4:tn 0 h₁:=T.keep _ _ _ st2 fun b _ o e=>old b o (by rw[<-eh];exact fS _ e);have fpB:∀{H':Hp},(∀b∈fp,H' b=none)->∀b∈fp,uS (blk X N scope cl s3.heap.objs.size s3 (upd H2 s2.heap.objs.size (.lst [])) fp pz) [] H' b:=fun{H'} hn b hb=>by obtain⟨_,g2,g3,g4,g5,g6⟩:=f2 b hb;refine⟨hn b hb,cP (lt3 b hb),fun z=>(ak.mp (I3.stkSub b z)).elim g2 g3,.inl hb,fun y c e=>g5 y c (B.lk y c e),fun p hp=>?_⟩;rw[aE]at hp;exact g6 p hp
 have loop:∀s4:Zy,s4={s3 with heap:=h₁,toks:=s3.toks+([]:List (Str×Zz)).length}->
   codeAny (model X.prog X.w) X.A (.compLoop (.ListComp elt [⟨.Tuple es kk tp,iter,[],0⟩] scope pos) 0 (.ref it) (.ref s2.heap.objs.size) (compEnvC scope cl s3.heap.objs.size X.env))
    (compPost (model X.prog X.w) X.A X.xe none (EP X pz σ Q) (.ref s2.heap.objs.size) s3.heap.objs.size) s4:=by
  rintro s4 rfl;refine PyProof.Rows.LCp.codeAny_compLoop_pair (I:=fun n s'=>∃k σ' H',Inv (blk X N scope cl s3.heap.objs.size s3 (upd H2 s2.heap.objs.size (.lst [])) fp pz) [] σ' H' s'/\tn k s'.heap/\(∀b∈fp,H' b=none)/\W k n σ' H') ?_ m0
   ⟨0,f σ,_,I4,st4,fun b hb=>(fp3 b hb).1,w0⟩;rintro n s5 ⟨k,σ5,H5,I5,st5,fr5,w5⟩;rcases turn k n σ5 H5 w5 with⟨stop,qn⟩|⟨go,step⟩
  ·refine wpAny_mono (T.done (blk X N scope cl s3.heap.objs.size s3 (upd H2 s2.heap.objs.size (.lst [])) fp pz) rfl rfl rfl hc k [] s5 σ5 H5 _ I5 (fpB fr5) st5 stop) (fun r s6 h6=>?_) fun _ _ z=>z;obtain⟨hr,I6⟩:=h6;subst hr;obtain⟨m6,hn6,_⟩:=id I6.loc;refine⟨m6,hn6,fun h' sb=>?_⟩;have nC:∀b o,s3.heap.get? b=some o->b≠s3.heap.objs.size:=fun b o e=>cP (fO e);have u6:Un (frs X.stack) fp (upd H2 s2.heap.objs.size (.lst [])) H5 s3.heap s6.heap:=I6.base;have u7:Un (frs X.stack) fp (upd H2 s2.heap.objs.size (.lst [])) H5 s3.heap h':=
    ⟨fun b o e z1 z2 z3=>(sb.2 b (nC b o e)).trans (u6.keep b o e z1 z2 z3),fun b o e z1 z2 z3=>by obtain⟨sl,e1⟩:=u6.slot b o e z1 z2 z3;exact⟨sl,(sb.2 b (nC b o e)).trans e1⟩,u6.free,fun b o e z=>by obtain⟨o',e1⟩:=u6.there b o e z;exact⟨o',(sb.2 b (nC b o e)).trans e1⟩,u6.tups,u6.frzs,u6.tbls⟩;have hok7:HOk X.prog X.w H5 h':=fun b o e=>(I6.hok b o e).stay (fun c w' hcc e1=>(sb.2 c (fun z=>by
     have fr:H5 s3.heap.objs.size=none:=I6.free;rcases hcc with y|y;·rw[<-y,z,fr]at e;cases e
     ·rw[z,fr]at y;cases y)).trans e1) (fun _ z=>z) fun _ _ z=>z;have I7:Inv X pz σ H5 {s6 with heap:=h'}:=I3.call' (s':={s6 with heap:=h'}) (ch:=fp) I6.os u7 hok7 I6.bare fun b hb=>by obtain⟨_,g2,g3,g4,g5,g6⟩:=f2 b hb;exact⟨g4,g2,g5,g6⟩
   exact⟨.ref s2.heap.objs.size,H5,I7,rfl,qn⟩
  ·refine wpAny_mono (T.item (blk X N scope cl s3.heap.objs.size s3 (upd H2 s2.heap.objs.size (.lst [])) fp pz) rfl rfl rfl hc k [] s5 σ5 H5 _ I5 (fpB fr5) st5 go) (fun r s6 h6=>?_) fun _ _ z=>z;obtain⟨u,hr,h6⟩:=h6;subst hr;refine wpAny_mono h6 (fun _ s7 h7=>?_) fun _ _ z=>z;obtain⟨v,H7,I7,r7,y7,st7,fr7⟩:=h7;have I7':=I7.pinned (fpB fr7) (T.obj _ _ st7);have back:∀{σ9:St} {H9:Hp} {s9:Zy},Inv (blk X N scope cl s3.heap.objs.size s3 (upd H2 s2.heap.objs.size (.lst [])) fp pz) ([]++qG fp s7.heap) σ9 H9 s9->(∃m',m'<n/\W (k+ 1) m' σ9 H9)->
     ∃m',m'<n/\∃k σ' H',Inv (blk X N scope cl s3.heap.objs.size s3 (upd H2 s2.heap.objs.size (.lst [])) fp pz) [] σ' H' s9/\tn k s9.heap/\(∀b∈fp,H' b=none)/\W k m' σ' H':=fun{σ9 H9 s9} I9 q9=>by obtain⟨m',hm,w9⟩:=q9;refine⟨m',hm,k+ 1,σ9,H9,I9.unpinned,T.keep _ _ _ st7 fun b hb o e=>(I9.pin (b,o) (az _ (az _ (jI hb e)))).1,fun b hb=>?_,w9⟩;obtain⟨o,e,d⟩:=T.obj _ _ st7 b hb;exact(I9.pin (b,o) (az _ (az _ (jI hb e)))).2.1
   refine wpAny_mono (hg s3.heap.objs.size s3 (upd H2 s2.heap.objs.size (.lst [])) fp pz _ s7 σ5 H7 v u _ I7' r7 (step v H7 y7)) (fun _ s8 h8=>?_) fun _ _ z=>False.elim z;obtain⟨σ8,H8,I8,q8⟩:=h8;refine wpAny_mono (hte _ _ _ _ _ _ s8 _ H8 _ I8 q8) (fun y s10 h10=>?_) fun _ _ z=>False.elim z;obtain⟨v10,H10,I10,r10,xs,hx10,hz,q10⟩:=h10;refine wpAny_mono (gR (X:=blk X N scope cl s3.heap.objs.size s3 (upd H2 s2.heap.objs.size (.lst [])) fp pz) _ s10 _ H10 (.ref s2.heap.objs.size) [v10] _ [y] (fun _ H11=>H11=upd H10 s2.heap.objs.size (.lst (xs++[v10]))) I10 rfl (.cons r10 .nil) ⟨_,xs,v10,rfl,rfl,hx10,hz,rfl⟩) (fun _ s11 h11=>?_) fun _ _ z=>False.elim z;obtain⟨_,H11,I11,_,e11⟩:=h11;subst e11;exact back I11 q10
 exact codeAny_compStart_list (loop _ rfl) (T.self _ 0 _ _ _ st4 (loop _ rfl))
theorem IA {X:Cx} {scope:Scope} {x y:Str} (hk:scope.kind= .function) (hn:∀p∈scope.names,p.2≠ .cell/\p.2≠ .free) (hl:∀y∈scope.names,y.2= .local->scope.names.lookup y.1=some .local)
  (hx:scope.names.lookup x=some .local) (hxy:[x,y].Nodup) (hc:closureFor scope X.env=pure []):oU X [x,y] scope [] (fun _=>[none,none]) 0 x where
 kind:=hk
 cell:=fun y hy=>(hn y hy).1
 names:=hl
 clos:=hc
 lk:=fun y c h=>by simp at h
 has:=fun y h=>by
  rcases h with h|h
  ·obtain⟨k0,e,z⟩:=hJ h;have m:=hn _ (PySem.mem_of_lookup e);rcases z with z|⟨z,_⟩;·exact absurd z.symm m.1
   ·exact absurd z m.2
  ·obtain⟨k0,e,z⟩:=hJ h;have m:=hn _ (PySem.mem_of_lookup e);rcases z with z|⟨z,_⟩;·exact absurd z.symm m.2
   ·exact absurd z m.2
 nd:=hxy
 ix:=rfl
 loc:=hx
 len:=fun _ _=>rfl
 val:=fun σ k y v h1 h2=>by
  match k with
  |0=>simp at h2
  |1=>simp at h2
  |k+ 2=>simp at h2
theorem oX {z:Str}:∀{cap:List (Str×Nat×Zx)},z∈cap.map (·.1)->∃c,(cap.map fun p=>(p.1,p.2.2)).lookup z=some c
 |[],h=>by simp at h
 |p::r,h=>by
  cases e:z==p.1 with
  |true=>exact⟨p.2.2,by simp only[aC,bq,e]⟩
  |false=>
   have q:z∈r.map (·.1):=by
    rcases ak.mp h with y|y;·rw[y]at e;simp at e
    ·exact y
   obtain⟨c,hc⟩:=oX q;exact⟨c,by simp only[aC,bq,e];exact hc⟩
theorem blkC {X:Cx} {scope:Scope} {x:Str} (ns:Zd) (cap:List (Str×Nat×Zx)) (hns:cap.map (·.1)=ns) (hk:scope.kind= .function) (hn:∀p∈scope.names,p.2≠ .cell/\(p.2= .free->p.1∈ns)) (hl:∀y∈scope.names,y.2= .local->scope.names.lookup y.1=some .local)
  (hx:scope.names.lookup x=some .local) (hnd:(x::ns).Nodup) (hc:closureFor scope X.env=pure (cap.map fun p=>(p.1,p.2.2))) (hok:X.env.scope.kind= .function)
  (h:∀p∈cap,scope.names.lookup p.1=some .free/\X.env.cells.lookup p.1=some p.2.2/\X.env.scope.names.lookup p.1=some .cell/\X.N[p.2.1]?=some p.1):
  oU X (x::ns) scope (cap.map fun p=>(p.1,p.2.2)) (fun σ=>none::cap.map fun p=>σ.getD p.2.1 none) 0 x where
 kind:=hk
 cell:=fun y hy=>(hn y hy).1
 names:=hl
 clos:=hc
 lk:=fun z c q=>by have m:=PySem.mem_of_lookup q;obtain⟨p,hp,e⟩:=bh.mp m;cases e;exact(h p hp).2.1
 has:=fun z q=>by
  refine oX ?_;rw[hns];rcases q with q|q
  ·obtain⟨k0,e,q⟩:=hJ q;have m:=hn _ (PySem.mem_of_lookup e);rcases q with q|⟨q,_⟩;·exact absurd q.symm m.1
   ·exact m.2 q
  ·obtain⟨k0,e,q⟩:=hJ q;have m:=hn _ (PySem.mem_of_lookup e);rcases q with q|⟨q,_⟩;·exact m.2 q.symm
   ·exact m.2 q
 nd:=hnd
 ix:=rfl
 loc:=hx
 len:=fun _ _=>by simp[<-hns]
 val:=fun σ k z v h1 h2=>by
  cases k with
  |zero=>simp at h2
  |succ k=>
   rw[<-hns,bJ,aO]at h1;rw[bJ,aO]at h2
   cases e:cap[k]? with
   |none=>rw[e]at h1;cases h1
   |some p=>
    rw[e]at h1 h2;have ez:p.1=z:=dE.inj h1;have ev:σ.getD p.2.1 none=some v:=dE.inj h2;subst ez;obtain⟨a1,a2,a3,a4⟩:=h p (aQ e);rw[bu]at ev;refine⟨p.2.1,a4,?_,a3,iZ hok a3 a1⟩
    cases q:σ[p.2.1]? with
    |none=>rw[q]at ev;cases ev
    |some o=>rw[q]at ev;exact congrArg some ev
section
variable {X:Cx}
end
section
variable {X:Cx} {CX:CXT} {k:Nat} {f C:Zx} {fd:Zs} {ps:Zd} {sp:Sp} {dvs:List V} {ds:List Zz} {E:XK} {m:Str} {pos apos:Pos} {e o:Zr} {es:List Zr} {t:TA}
end
section
variable {X:Cx}
theorem Gz:bootBuiltins "max"=some (.builtin "max"):=iq
theorem vz (hc:X.calm=true):ny X (.builtin "sum") (fun xs H Q=>∃(a:Zx) (ns:List Int),xs=[.ref a]/\SqL X.K H a (ns.map V.int)/\∀n,Q (.int n) H):=by intro pz s σ H xs us Q I r h;obtain⟨a,ns,rfl,hq,q⟩:=h;obtain⟨u,rfl,ru⟩:=mz r;cases ru;obtain⟨its,rv,p,hz⟩:=I.list hq;obtain⟨zs,e⟩:=(zh rv).allInts.items;have l:=p.isList;rw[e]at l;exact sum_intListG (I.ok.hd hc) l fun h' tk t' hk=>⟨.int _,H,I.kept (t':=tk) hk,⟨_,rfl⟩,q _⟩
end
section
variable {prog:Zu} {w:Zv} {A:Zw} {E:Zb} {s:Zy}
theorem GA {j t:Zx} {i:Nat} {its} {x:Zz} {Q:Zb} (g:s.heap.IsTupleIter j t i) (d:s.heap.IsTuple t its) (e:its[i]?=some x)
  (k:∀h',h'.IsTupleIter j t (i+ 1)->Heap.SameBut j s.heap h'->Q x {s with heap:=h'}):wpAny (model prog w) A (Builtin.SmallTypes.nextOf (.ref j)) Q E s:=by obtain⟨og,gg,gc,gd⟩:=id g;obtain⟨od,dd,_,dn,de⟩:=d;unfold Builtin.SmallTypes.nextOf;refine wpAny_bind (wpAny_callSpecial?_slot (name:=Str.ofString "__next__") g.typeIs F.slot_tuple_iterator_next (wpAny_call_entry F.slot_tuple_iterator_next g.typeIs F.entry_tuple_iterator_next ?_ (F.args_tuple_iterator_next_1 _)));show wpAny _ _ (field (.ref j) 0 >>= _) _ _ s;refine wpAny_bind (wpAny_field gg gd (x:= .ref t) rfl ?_);show wpAny _ _ (if(Value.ref t==Value.none)=true then _ else _) _ _ s;rw[gN (show ¬((Value.ref t==Value.none)=true)from fun q=>nomatch q)];show wpAny _ _ (field (.ref j) 1 >>= _) _ _ s;refine wpAny_bind (wpAny_field gg gd (x:= .int i 0) rfl ?_);refine wpAny_bind (wpAny_seqItems dd de ?_);simp only[fH,e];refine wpAny_bind (wpAny_setField gg gd (by simp) (wpAny_pure ⟨x,rfl,wpAny_pure (k _ ?_ (Heap.SameBut.update ..))⟩));exact⟨_,fV _ gg (Obj.isFreed_of_fields (Obj.data_mapFields gd _)),(Obj.cls_mapFields ..).trans gc,by rw[Obj.data_mapFields gd];simp[rawInt]⟩
theorem zp {j t:Zx} {i:Nat} {its} {Q:Zb} (hh:A.handled=none) (g:s.heap.IsTupleIter j t i) (d:s.heap.IsTuple t its) (e:its[i]?=none)
  (k:∀h' x,Heap.ExtBut j s.heap h'->(∃o,h'.get? x=some o/\o.cls= .type "StopIteration")->E (.ref x) {s with heap:=h'}):wpAny (model prog w) A (Builtin.SmallTypes.nextOf (.ref j)) Q E s:=by
 obtain⟨og,gg,gc,gd⟩:=id g;obtain⟨od,dd,_,dn,de⟩:=d;unfold Builtin.SmallTypes.nextOf;refine wpAny_bind (wpAny_callSpecial?_slot (name:=Str.ofString "__next__") g.typeIs F.slot_tuple_iterator_next (wpAny_call_entry F.slot_tuple_iterator_next g.typeIs F.entry_tuple_iterator_next ?_ (F.args_tuple_iterator_next_1 _)));show wpAny _ _ (field (.ref j) 0 >>= _) _ _ s;refine wpAny_bind (wpAny_field gg gd (x:= .ref t) rfl ?_);show wpAny _ _ (if(Value.ref t==Value.none)=true then _ else _) _ _ s;rw[gN (show ¬((Value.ref t==Value.none)=true)from fun q=>nomatch q)];show wpAny _ _ (field (.ref j) 1 >>= _) _ _ s;refine wpAny_bind (wpAny_field gg gd (x:= .int i 0) rfl ?_);refine wpAny_bind (wpAny_seqItems dd de ?_);simp only[fH,e];refine wpAny_bind (wpAny_rule (wpAny_bind (wpAny_setField gg gd (by simp) ?_)));show wpAny _ _ (newExc (.type "StopIteration") [] >>= _) _ _ _;refine wpAny_bind ?_;simp only[newExc,newTuple];refine wpAny_bind (wpAny_newObj_type ?_ (by size_fits));refine wpAny_bind (m:=firstArgMember _ _) (wpAny_of_eq (a:=Value.none) (by first|rfl|(unfold firstArgMember;rfl)) ?_);refine wpAny_newObj_type ?_ (by size_fits);simp only[raiseNew];refine wpAny_bind (wpAny_handled ?_);first|rw[hh]|rw[show A.in1.handled=none from hh]
 exact wpAny_bind (wpAny_pure (wpAny_throw (k _ _ (((Heap.SameBut.update ..).extBut.push _).push _) ⟨_,fQ _ rfl,rfl⟩)))
end
theorem SqT.old {X:Cx} {pz:Za} {σ:St} {H:Hp} {s:Zy} {a:Zx} {xs:List V} (I:Inv X pz σ H s) (h:SqT X.K H a xs):a<s.heap.objs.size:=by obtain⟨its,_,p,_⟩:=I.tuple h;obtain⟨o,e,_⟩:=p;exact fO e
def SI (c:String) (h:Zt) (j t:Zx) (i:Nat):Prop:=∃o,h.get? j=some o/\o.cls= .type c/\o.data= .fields #[.ref t,.int i 0]
theorem SI.extBut {c:String} {h h':Zt} {j b t:Zx} {i:Nat} (g:SI c h j t i) (e:Heap.ExtBut b h h') (n:j≠b):SI c h' j t i:=let⟨o,e1,r⟩:=g;⟨o,e _ _ n e1,r⟩
structure Sk where
 it:String
 S:Zt->Zx->Array Zz->Prop
 Sq:Zp->Hp->Zx->List V->Prop
 ext:∀{h h':Zt} {a b:Zx} {xs:Array Zz},S h a xs->Heap.ExtBut b h h'->a≠b->S h' a xs
 push:∀{h:Zt} {a:Zx} {xs:Array Zz},S h a xs->∀o,S (h.push o) a xs
 nx:∀{prog:Zu} {w:Zv} {A:Zw} {E:Zb} {s:Zy} {j t:Zx} {i:Nat} {its:Array Zz} {x:Zz} {Q:Zb},SI it s.heap j t i->S s.heap t its->its[i]?=some x->(∀h',SI it h' j t (i+ 1)->Heap.SameBut j s.heap h'->Q x {s with heap:=h'})->wpAny (model prog w) A (Builtin.SmallTypes.nextOf (.ref j)) Q E s
 ne:∀{prog:Zu} {w:Zv} {A:Zw} {E:Zb} {s:Zy} {j t:Zx} {i:Nat} {its:Array Zz} {Q:Zb},A.handled=none->SI it s.heap j t i->S s.heap t its->its[i]?=none->(∀h' x,Heap.ExtBut j s.heap h'->(∃o,h'.get? x=some o/\o.cls= .type "StopIteration")->E (.ref x) {s with heap:=h'})->wpAny (model prog w) A (Builtin.SmallTypes.nextOf (.ref j)) Q E s
 iter:∀{prog:Zu} {w:Zv} {A:Zw} {E:Zb} {s:Zy} {t:Zx} {its:Array Zz} {Q:Zb},S s.heap t its->Q (.ref s.heap.objs.size) {s with heap:=s.heap.push {cls:= .type it,data:= .fields #[.ref t,.int 0 0]}}->wpAny (model prog w) A (pyIter (.ref t)) Q E s
 inv:∀{X:Cx} {pz:Za} {σ:St} {H:Hp} {s:Zy} {a:Zx} {xs:List V},Inv X pz σ H s->Sq X.K H a xs->∃its,iU xs its/\S s.heap a its.toArray/\xs.length<=sizeLine
 inj:∀{X:Cx} {pz:Za} {σ:St} {H:Hp} {s:Zy} {a:Zx} {xs ys:List V},Inv X pz σ H s->Sq X.K H a xs->Sq X.K H a ys->xs=ys
 old:∀{X:Cx} {pz:Za} {σ:St} {H:Hp} {s:Zy} {a:Zx} {xs:List V},Inv X pz σ H s->Sq X.K H a xs->a<s.heap.objs.size
def tS:Sk:=⟨"tuple_iterator",Heap.IsTuple,SqT,fun a b c=>a.extBut b c,fun a o=>a.push o,fun a b c d=>GA a b c d,fun a b c d e=>zp a b c d e,fun a b=>wpAny_pyIter_tuple a b,fun I q=>I.tuple q,fun I a b=>I.tuple_inj a b,fun I q=>SqT.old I q⟩
def lS:Sk:=⟨"list_iterator",Heap.IsList,SqL,fun a b c=>a.extBut b c,fun a o=>a.push o,fun a b c d=>wpAny_nextOf_list_item a b c d,fun a b c d e=>wpAny_nextOf_list_end a b c d e,fun a b=>wpAny_pyIter_list a b,fun I q=>let⟨its,r,p,z⟩:=I.list q;⟨its,r,p.isList,z⟩,fun I a b=>I.list_inj a b,fun I q=>SqL.old I q⟩
section
variable {prog:Zu} {w:Zv} {A:Zw} {E:Zb} {s:Zy}
theorem Ex {u1 u2:Sk} {z TI TO j1 j2 t1 t2:Zx} {k1 k2:Nat} {xs ys:Array Zz} {x y a b:Zz} {Q:Zb} (D:ZipApart z TI TO j1 j2 t1 t2)
  (gz:IsZip s.heap z TI TO .none) (gI:IsPair s.heap TI (.ref j1) (.ref j2)) (gO:IsPair s.heap TO a b)
  (g1:SI u1.it s.heap j1 t1 k1) (g2:SI u2.it s.heap j2 t2 k2) (d1:u1.S s.heap t1 xs) (d2:u2.S s.heap t2 ys) (ex:xs[k1]?=some x) (ey:ys[k2]?=some y)
  (k:∀h',IsZip h' z TI TO (rawInt s.heap.objs.size)->IsPair h' TO x y->SI u1.it h' j1 t1 (k1+ 1)->SI u2.it h' j2 t2 (k2+ 1)->IsPair h' s.heap.objs.size x y->h'.objs.size=s.heap.objs.size+ 1->
   (∀c o,c≠z->c≠TO->c≠j1->c≠j2->s.heap.get? c=some o->h'.get? c=some o)->Q (.ref s.heap.objs.size) {s with heap:=h'}):
  wpAny (model prog w) A (Builtin.«zip.__next__» ⟨[.ref z],[]⟩) (fun fin s'=>∃v,fin= .done (.ret v)/\Q v s') E s:=by
 show wpAny _ _ (field (.ref z) 2 >>= _) _ _ _;refine wpAny_bind (wpAny_field gz rfl (x:= .bool false) rfl ?_);show wpAny _ _ (field (.ref z) 3 >>= _) _ _ _;refine wpAny_bind (wpAny_field gz rfl (x:= .ref TI) rfl ?_);refine wpAny_bind (wpAny_seqItems gI rfl ?_);show wpAny _ _ (Builtin.SmallTypes.ownedTupleIsFree (.ref z) >>= _) _ _ _;refine wpAny_bind ?_;unfold Builtin.SmallTypes.ownedTupleIsFree;refine wpAny_bind (wpAny_field gz rfl (x:= .none) rfl (wpAny_pure ?_));simp only[if_true];refine wpAny_bind (wpAny_rule (wpAny_bind (wpAny_field gz rfl (x:= .ref TO) rfl ?_)));refine wpAny_bind (wpAny_setField_rec gz (by simp) fun q1 gz1 b1=>?_);replace gz1:IsZip q1 z TI TO .ellipsis:=gz1;refine wpAny_bind ?_;simp only[List.zipIdx_cons,List.zipIdx_nil,List.forIn_cons,List.forIn_nil];refine wpAny_bind (wpAny_bind (wpAny_onRaise ?_));show wpAny _ _ (Builtin.SmallTypes.nextOf (.ref j1) >>= _) _ _ _;refine wpAny_bind (u1.nx (g1.extBut b1.extBut D.i1z) (u1.ext d1 b1.extBut D.l1z) ex fun q2 g12 b2=>wpAny_pure ?_);have gO2:IsPair q2 TO a b:=b2.extBut _ _ D.TOi1 (b1.extBut _ _ D.TOz gO);refine wpAny_bind (wpAny_seqItems gO2 rfl (wpAny_bind (wpAny_updateSeq_pair gO2 fun q3 gO3 b3=>?_)));replace gO3:IsPair q3 TO x b:=gO3;refine wpAny_bind (wpAny_letGo (wpAny_pure (wpAny_bind (wpAny_bind (wpAny_onRaise ?_)))));show wpAny _ _ (Builtin.SmallTypes.nextOf (.ref j2) >>= _) _ _ _;refine wpAny_bind (u2.nx (((g2.extBut b1.extBut D.i2z).extBut b2.extBut D.i12.symm).extBut b3.extBut D.TOi2.symm) (u2.ext (u2.ext (u2.ext d2 b1.extBut D.l2z) b2.extBut D.l2i1) b3.extBut D.l2TO) ey fun q4 g24 b4=>wpAny_pure ?_);have gO4:IsPair q4 TO x b:=b4.extBut _ _ D.TOi2 gO3;refine wpAny_bind (wpAny_seqItems gO4 rfl (wpAny_bind (wpAny_updateSeq_pair gO4 fun q5 gO5 b5=>?_)));replace gO5:IsPair q5 TO x y:=gO5;refine wpAny_bind (wpAny_letGo (wpAny_pure (wpAny_pure (wpAny_bind (wpAny_seqItems gO5 rfl (wpAny_bind (wpAny_newTuple ?_)))))));have sz:q5.objs.size=s.heap.objs.size:=by rw[b5.1,b4.1,b3.1,b2.1,b1.1]
 have gz5:IsZip q5 z TI TO .ellipsis:=b5.extBut _ _ D.TOz.symm (b4.extBut _ _ D.i2z.symm (b3.extBut _ _ D.TOz.symm (b2.extBut _ _ D.i1z.symm gz1)));have kp5:∀c o,c≠z->c≠TO->c≠j1->c≠j2->s.heap.get? c=some o->q5.get? c=some o:=fun c o n1 n2 n3 n4 e=>
  b5.extBut _ _ n2 (b4.extBut _ _ n4 (b3.extBut _ _ n2 (b2.extBut _ _ n3 (b1.extBut _ _ n1 e))));have g15:SI u1.it q5 j1 t1 (k1+ 1):=((g12.extBut b3.extBut D.TOi1.symm).extBut b4.extBut D.i12).extBut b5.extBut D.TOi1.symm;have g25:SI u2.it q5 j2 t2 (k2+ 1):=g24.extBut b5.extBut D.TOi2.symm;have zlt:z<q5.objs.size:=fO gz5;show wpAny _ _ (Builtin.SmallTypes.ownedTupleHandOut (.ref z) (.ref q5.objs.size) >>= _) _ _ _;refine wpAny_bind ?_;unfold Builtin.SmallTypes.ownedTupleHandOut;have gz6:IsZip (q5.push {cls:= .type "tuple",data:= .seq #[x,y]}) z TI TO .ellipsis:=fS _ gz5;refine wpAny_bind (wpAny_setField_rec gz6 (by simp) fun q7 gz7 b7=>?_);replace gz7:IsZip q7 z TI TO (rawInt q5.objs.size):=gz7;refine wpAny_setField_rec gz7 (by simp) fun q8 gz8 b8=>?_;replace gz8:IsZip q8 z TI TO (rawInt q5.objs.size):=gz8;have up:∀c o,c≠z->q5.get? c=some o->q8.get? c=some o:=fun c o n1 e=>b8.extBut _ _ n1 (b7.extBut _ _ n1 (fS _ e));have gT8:IsPair q8 q5.objs.size x y:=b8.extBut _ _ (cU zlt) (b7.extBut _ _ (cU zlt) (fQ _ rfl));have sz8:q8.objs.size=q5.objs.size+ 1:=by rw[b8.1,b7.1,fU]
 rw[sz]at gz8 gT8 sz8;refine wpAny_pure ⟨_,rfl,?_⟩;show Q (.ref q5.objs.size) _;rw[sz];refine k q8 gz8 (up _ _ D.TOz gO5) ?_ ?_ gT8 sz8 fun c o n1 n2 n3 n4 e=>up c o n1 (kp5 c o n1 n2 n3 n4 e);·obtain⟨o,e,r⟩:=g15;exact⟨o,up _ o D.i1z e,r⟩
 ·obtain⟨o,e,r⟩:=g25;exact⟨o,up _ o D.i2z e,r⟩
theorem GB {u1 u2:Sk} {z TI TO j1 j2 t1 t2:Zx} {k1 k2:Nat} {xs ys:Array Zz} {a b:Zz} {Q:Fin->Zy->Prop} (hh:A.handled=none) (D:ZipApart z TI TO j1 j2 t1 t2)
  (gz:IsZip s.heap z TI TO .none) (gI:IsPair s.heap TI (.ref j1) (.ref j2)) (gO:IsPair s.heap TO a b)
  (g1:SI u1.it s.heap j1 t1 k1) (g2:SI u2.it s.heap j2 t2 k2) (d1:u1.S s.heap t1 xs) (d2:u2.S s.heap t2 ys) (hend:xs[k1]?=none\/ys[k2]?=none)
  (k:∀h' e,(∀c o,c≠z->c≠TO->c≠j1->c≠j2->s.heap.get? c=some o->h'.get? c=some o)->(∃o,h'.get? e=some o/\o.cls= .type "StopIteration")->E (.ref e) {s with heap:=h'}):
  wpAny (model prog w) A (Builtin.«zip.__next__» ⟨[.ref z],[]⟩) Q E s:=by
 show wpAny _ _ (field (.ref z) 2 >>= _) _ _ _;refine wpAny_bind (wpAny_field gz rfl (x:= .bool false) rfl ?_);show wpAny _ _ (field (.ref z) 3 >>= _) _ _ _;refine wpAny_bind (wpAny_field gz rfl (x:= .ref TI) rfl ?_);refine wpAny_bind (wpAny_seqItems gI rfl ?_);show wpAny _ _ (Builtin.SmallTypes.ownedTupleIsFree (.ref z) >>= _) _ _ _;refine wpAny_bind ?_;unfold Builtin.SmallTypes.ownedTupleIsFree;refine wpAny_bind (wpAny_field gz rfl (x:= .none) rfl (wpAny_pure ?_));simp only[if_true];refine wpAny_bind (wpAny_rule (wpAny_bind (wpAny_field gz rfl (x:= .ref TO) rfl ?_)));refine wpAny_bind (wpAny_setField_rec gz (by simp) fun q1 gz1 b1=>?_);replace gz1:IsZip q1 z TI TO .ellipsis:=gz1;refine wpAny_bind ?_;simp only[List.zipIdx_cons,List.zipIdx_nil,List.forIn_cons,List.forIn_nil];refine wpAny_bind (wpAny_bind (wpAny_onRaise ?_));show wpAny _ _ (Builtin.SmallTypes.nextOf (.ref j1) >>= _) _ _ _
 cases ex:xs[k1]? with
 |none=>
  refine wpAny_bind (u1.ne hh (g1.extBut b1.extBut D.i1z) (u1.ext d1 b1.extBut D.l1z) ex fun q2 e b2 he=>?_);obtain⟨oe,hoe,hce⟩:=he;have gz2:IsZip q2 z TI TO .ellipsis:=b2 _ _ D.i1z.symm gz1;have nz:e≠z:=fun q=>by subst q;rw[gz2]at hoe;cases hoe;simp at hce
  refine wpAny_setField_rec gz2 (by simp) fun q3 _ b3=>k q3 e (fun c o n1 _ n3 _ q=>b3.extBut _ _ n1 (b2 _ _ n3 (b1.extBut _ _ n1 q))) ⟨oe,b3.extBut _ _ nz hoe,hce⟩
 |some x=>
  have ey:ys[k2]?=none:=hend.elim (fun q=>by rw[ex]at q;cases q) id;refine wpAny_bind (u1.nx (g1.extBut b1.extBut D.i1z) (u1.ext d1 b1.extBut D.l1z) ex fun q2 g12 b2=>wpAny_pure ?_);have gO2:IsPair q2 TO a b:=b2.extBut _ _ D.TOi1 (b1.extBut _ _ D.TOz gO);refine wpAny_bind (wpAny_seqItems gO2 rfl (wpAny_bind (wpAny_updateSeq_pair gO2 fun q3 gO3 b3=>?_)));refine wpAny_bind (wpAny_letGo (wpAny_pure (wpAny_bind (wpAny_bind (wpAny_onRaise ?_)))));show wpAny _ _ (Builtin.SmallTypes.nextOf (.ref j2) >>= _) _ _ _;refine wpAny_bind (u2.ne hh (((g2.extBut b1.extBut D.i2z).extBut b2.extBut D.i12.symm).extBut b3.extBut D.TOi2.symm) (u2.ext (u2.ext (u2.ext d2 b1.extBut D.l2z) b2.extBut D.l2i1) b3.extBut D.l2TO) ey fun q4 e b4 he=>?_);obtain⟨oe,hoe,hce⟩:=he;have gz4:IsZip q4 z TI TO .ellipsis:=b4 _ _ D.i2z.symm (b3.extBut _ _ D.TOz.symm (b2.extBut _ _ D.i1z.symm gz1));have nz:e≠z:=fun q=>by subst q;rw[gz4]at hoe;cases hoe;simp at hce
  refine wpAny_setField_rec gz4 (by simp) fun q5 _ b5=>k q5 e (fun c o n1 n2 n3 n4 q=>b5.extBut _ _ n1 (b4 _ _ n4 (b3.extBut _ _ n2 (b2.extBut _ _ n3 (b1.extBut _ _ n1 q))))) ⟨oe,b5.extBut _ _ nz hoe,hce⟩
theorem Aw {u1 u2:Sk} {z TI TO j1 j2 t1 t2:Zx} {k1 k2:Nat} {xs ys:Array Zz} {x y a b:Zz} {Q:Option Zz->Zy->Prop} (D:ZipApart z TI TO j1 j2 t1 t2)
  (gz:IsZip s.heap z TI TO .none) (gI:IsPair s.heap TI (.ref j1) (.ref j2)) (gO:IsPair s.heap TO a b)
  (g1:SI u1.it s.heap j1 t1 k1) (g2:SI u2.it s.heap j2 t2 k2) (d1:u1.S s.heap t1 xs) (d2:u2.S s.heap t2 ys) (ex:xs[k1]?=some x) (ey:ys[k2]?=some y)
  (k:∀h',IsZip h' z TI TO (rawInt s.heap.objs.size)->IsPair h' TO x y->SI u1.it h' j1 t1 (k1+ 1)->SI u2.it h' j2 t2 (k2+ 1)->IsPair h' s.heap.objs.size x y->h'.objs.size=s.heap.objs.size+ 1->
   (∀c o,c≠z->c≠TO->c≠j1->c≠j2->s.heap.get? c=some o->h'.get? c=some o)->Q (some (.ref s.heap.objs.size)) {s with heap:=h'}):
  wpAny (model prog w) A (pyNext (.ref z)) Q E s:=by
 have tz:s.TypeIs (.ref z) "zip":=⟨_,gz,rfl⟩;unfold pyNext;exact wpAny_bind (wpAny_attempt (wpAny_callSpecial?_slot (name:=Str.ofString "__next__") tz F.slot_zip_next (wpAny_call_entry F.slot_zip_next tz F.entry_zip_next
   (Ex D gz gI gO g1 g2 d1 d2 ex ey fun h' a1 a2 a3 a4 a5 a6 a7=>wpAny_pure (k h' a1 a2 a3 a4 a5 a6 a7)) (F.args_zip_next_1 _))))
theorem tL {u1 u2:Sk} {z TI TO j1 j2 t1 t2:Zx} {k1 k2:Nat} {xs ys:Array Zz} {a b:Zz} {Q:Option Zz->Zy->Prop} (hh:A.handled=none) (D:ZipApart z TI TO j1 j2 t1 t2)
  (gz:IsZip s.heap z TI TO .none) (gI:IsPair s.heap TI (.ref j1) (.ref j2)) (gO:IsPair s.heap TO a b)
  (g1:SI u1.it s.heap j1 t1 k1) (g2:SI u2.it s.heap j2 t2 k2) (d1:u1.S s.heap t1 xs) (d2:u2.S s.heap t2 ys) (hend:xs[k1]?=none\/ys[k2]?=none)
  (k:∀h',(∀c o,c≠z->c≠TO->c≠j1->c≠j2->s.heap.get? c=some o->h'.get? c=some o)->Q none {s with heap:=h'}):wpAny (model prog w) A (pyNext (.ref z)) Q E s:=by have tz:s.TypeIs (.ref z) "zip":=⟨_,gz,rfl⟩;unfold pyNext;refine wpAny_bind (wpAny_attempt (wpAny_callSpecial?_slot (name:=Str.ofString "__next__") tz F.slot_zip_next (wpAny_call_entry F.slot_zip_next tz F.entry_zip_next (GB hh D gz gI gO g1 g2 d1 d2 hend fun h' e kp he=>?_) (F.args_zip_next_1 _))));obtain⟨o,ho,hc⟩:=he;exact wpAny_bind (wpAny_isInstance (T:="StopIteration") (b:=true) ⟨o,ho,hc⟩ isSubtype_stop (wpAny_pure (k _ kp)))
end
abbrev zt1 (u1:Sk) (h:Zt) (t1:Zx):Zt:=h.push {cls:= .type u1.it,data:= .fields #[.ref t1,.int 0 0]}
abbrev zt2 (u1 u2:Sk) (h:Zt) (t1 t2:Zx):Zt:=(zt1 u1 h t1).push {cls:= .type u2.it,data:= .fields #[.ref t2,.int 0 0]}
abbrev zt3 (u1 u2:Sk) (h:Zt) (t1 t2:Zx):Zt:=(zt2 u1 u2 h t1 t2).push {cls:= .type "tuple",data:= .seq #[.ref h.objs.size,.ref (zt1 u1 h t1).objs.size]}
abbrev zt4 (u1 u2:Sk) (h:Zt) (t1 t2:Zx):Zt:=(zt3 u1 u2 h t1 t2).push {cls:= .type "tuple",data:= .seq #[.none,.none]}
abbrev zt5 (u1 u2:Sk) (h:Zt) (t1 t2:Zx):Zt:=(zt4 u1 u2 h t1 t2).push {cls:= .type "zip",data:= .fields #[.none,.bool false,.bool false,.ref (zt2 u1 u2 h t1 t2).objs.size,.ref (zt3 u1 u2 h t1 t2).objs.size]}
theorem GC (u1 u2:Sk) (t1 t2:Zx) (xs ys:Array Zz):Meets (Builtin.«zip.__new__» ⟨[.type "zip",.ref t1,.ref t2],[]⟩) (fun _ R s=>u1.S s.heap t1 xs/\u2.S s.heap t2 ys/\R (.ok (.ret (.ref (zt4 u1 u2 s.heap t1 t2).objs.size))) {s with heap:=zt5 u1 u2 s.heap t1 t2}):=
 .of_wp fun prog w A R s h=>by obtain⟨hp,g,d,tk,os⟩:=s;obtain⟨d1,d2,h⟩:=h;have hsub:=sub_zip;have dd1:u1.S (Shared.heap ⟨hp,g,d,tk,os⟩) t1 xs:=d1;have dd2:u2.S (Shared.heap ⟨hp.push {cls:= .type u1.it,data:= .fields #[.ref t1,.int 0 0]},g,d,tk,os⟩) t2 ys:=u2.push d2 _;wp_walk using u1.iter dd1,u2.iter dd2;exact⟨_,rfl,h⟩
section
variable {prog:Zu} {w:Zv} {A:Zw} {E:Zb} {s:Zy}
theorem Ax {u1 u2:Sk} {t1 t2:Zx} {xs ys:Array Zz} {Q:Zb} (d1:u1.S s.heap t1 xs) (d2:u2.S s.heap t2 ys)
  (k:∀h',IsZip h' (s.heap.objs.size+ 4) (s.heap.objs.size+ 2) (s.heap.objs.size+ 3) .none->IsPair h' (s.heap.objs.size+ 2) (.ref s.heap.objs.size) (.ref (s.heap.objs.size+ 1))->
   IsPair h' (s.heap.objs.size+ 3) .none .none->SI u1.it h' s.heap.objs.size t1 0->SI u2.it h' (s.heap.objs.size+ 1) t2 0->(∀c o,s.heap.get? c=some o->h'.get? c=some o)->Q (.ref (s.heap.objs.size+ 4)) {s with heap:=h'}):
  wpAny (model prog w) A (call (.type "zip") [.ref t1,.ref t2]) Q E s:=by
 refine callType_new F.called_zip (by decide) (F.typeCall_zip_2 _ _) (F.newCall_zip_2 _ _) (fun obj=>F.args_object_init_3 obj _ _) F.entry_zip_new (GC u1 u2 t1 t2 xs ys) ⟨d1,d2,?_⟩;have z1:(zt1 u1 s.heap t1).objs.size=s.heap.objs.size+ 1:=fU ..;have z2:(zt2 u1 u2 s.heap t1 t2).objs.size=s.heap.objs.size+ 2:=by rw[fU,z1]
 have z3:(zt3 u1 u2 s.heap t1 t2).objs.size=s.heap.objs.size+ 3:=by rw[fU,z2]
 have z4:(zt4 u1 u2 s.heap t1 t2).objs.size=s.heap.objs.size+ 4:=by rw[fU,z3]
 have m5:(zt5 u1 u2 s.heap t1 t2).get? (zt4 u1 u2 s.heap t1 t2).objs.size=some _:=fQ _ rfl;have m4:(zt5 u1 u2 s.heap t1 t2).get? (zt3 u1 u2 s.heap t1 t2).objs.size=some _:=fS _ (fQ _ rfl);have m3:(zt5 u1 u2 s.heap t1 t2).get? (zt2 u1 u2 s.heap t1 t2).objs.size=some _:=fS _ (fS _ (fQ _ rfl));have m2:(zt5 u1 u2 s.heap t1 t2).get? (zt1 u1 s.heap t1).objs.size=some _:=fS _ (fS _ (fS _ (fQ _ rfl)));have m1:(zt5 u1 u2 s.heap t1 t2).get? s.heap.objs.size=some _:=fS _ (fS _ (fS _ (fS _ (fQ _ rfl))));show _/\_;rw[z2,z3,z4]at m5;rw[z1,z2]at m3;rw[z3]at m4;rw[z1]at m2;rw[z4];exact⟨⟨_,m5,rfl⟩,k _ m5 m3 m4 ⟨_,m1,rfl,rfl⟩ ⟨_,m2,rfl,rfl⟩ fun c o q=>fS _ (fS _ (fS _ (fS _ (fS _ q))))⟩
end
def Itg (u1 u2:Sk) (K:Zp) (a b:Zx):It:=
 ⟨fun i H=>∃xs ys x y,u1.Sq K H a xs/\u2.Sq K H b ys/\xs[i]?=some x/\ys[i]?=some y,
   fun i H v H'=>∃T x y,v= .ref T/\H T=none/\H'=upd H T (.tup [x,y])/\(∀xs,u1.Sq K H a xs->xs[i]?=some x)/\∀ys,u2.Sq K H b ys->ys[i]?=some y,
   fun i H=>∃xs ys,u1.Sq K H a xs/\u2.Sq K H b ys/\i=min xs.length ys.length⟩
def ZTSt (u1 u2:Sk) (z TI TO i1 i2 a b:Zx) (i:Nat) (h:Zt):Prop:=IsZip h z TI TO .none/\IsPair h TI (.ref i1) (.ref i2)/\(∃u v,IsPair h TO u v)/\SI u1.it h i1 a i/\SI u2.it h i2 b i
theorem Ay {u1 u2:Sk} {P:Zu} {w:Zv} {K:Zp} {es:List Zr} {kk:Nat} {tp:Pos} {a b z TI TO i1 i2:Zx} (D:ZipApart z TI TO i1 i2 a b):B4 P w K (.Tuple es kk tp) (Itg u1 u2 K a b) [z,TI,TO,i1,i2] z (ZTSt u1 u2 z TI TO i1 i2 a b) where
 mem:=by simp
 obj:=fun i h st c hc=>by
  obtain⟨g1,g2,⟨u,v,g3⟩,⟨o4,g4,_,d4⟩,⟨o5,g5,_,d5⟩⟩:=st;simp only[ak,bI,or_false]at hc;rcases hc with e|e|e|e|e<;>subst e;·exact⟨_,g1,fun v q=>nomatch q⟩
  ·exact⟨_,g2,fun v q=>nomatch q⟩
  ·exact⟨_,g3,fun v q=>nomatch q⟩
  ·exact⟨_,g4,fun v q=>by rw[d4]at q;cases q⟩
  ·exact⟨_,g5,fun v q=>by rw[d5]at q;cases q⟩
 keep:=fun i h h' st k=>by obtain⟨g1,g2,⟨u,v,g3⟩,⟨o4,g4,r4⟩,⟨o5,g5,r5⟩⟩:=st;exact⟨k z (by simp) _ g1,k TI (by simp) _ g2,⟨u,v,k TO (by simp) _ g3⟩,⟨o4,k i1 (by simp) o4 g4,r4⟩,⟨o5,k i2 (by simp) o5 g5,r5⟩⟩
 item:=by
  intro X hP hw hK hc i pz s σ H E I hf st hg;subst hP hw hK;obtain⟨xs,ys,x,y,qx,qy,ex,ey⟩:=hg;obtain⟨i1s,r1,p1,z1⟩:=u1.inv I qx;obtain⟨i2s,r2,p2,z2⟩:=u2.inv I qy;obtain⟨g1,g2,⟨u,v,g3⟩,g4,g5⟩:=st;obtain⟨ux,hux,rr1⟩:=r1.get ex;obtain⟨uy,huy,rr2⟩:=r2.get ey;have hw:∀c∈[z,TO,i1,i2],uS X pz H c:=fun c hc=>hf c (by simp only[ak,bI,or_false]at hc⊢;first|(rcases hc with h|h|h|h<;>simp[h])|simp[hc]);refine Aw D g1 g2 g3 g4 g5 (show u1.S s.heap a i1s.toArray from p1) (show u2.S s.heap b i2s.toArray from p2) (x:=ux) (y:=uy) (by simpa using hux) (by simpa using huy) fun h1 a1 a2 a3 a4 a5 a6 hk=>?_;have kk1:∀c o,c∉[z,TO,i1,i2]->s.heap.get? c=some o->h1.get? c=some o:=fun c o hc e=>hk c o (fun q=>hc (by simp[q])) (fun q=>hc (by simp[q])) (fun q=>hc (by simp[q])) (fun q=>hc (by simp[q])) e;have J1:Inv X pz σ H {s with heap:=h1,toks:=s.toks}:=I.turnedL kk1 hw;refine⟨.ref s.heap.objs.size,rfl,wpAny_letOwnedTupleGo_zip a1 fun h2 a1' sb=>?_⟩;have J2:Inv X pz σ H {s with heap:=h2,toks:=s.toks}:=Inv.turnedL (s:={s with heap:=h1,toks:=s.toks}) (h':=h2) (t':=s.toks) (ch:=[z]) J1 (fun c o hc e=>sb.extBut _ _ (fun q=>hc (by simp[q])) e) fun c hc=>hf c (by simp only[ak,bI,or_false]at hc⊢;first|(rcases hc with h|h|h|h<;>simp[h])|simp[hc]);have zlt:z<s.heap.objs.size:=fO g1;have ht2:yW h2 s.heap.objs.size #[ux,uy]:=⟨_,sb.extBut _ _ (cU zlt) a5,rfl,_,rfl,rfl⟩;obtain⟨fT,J3⟩:=I.pairNew (cW _) J2 ht2 rr1 rr2;refine⟨.ref s.heap.objs.size,_,J3,rfl,⟨_,x,y,rfl,fT,rfl,fun l hl=>by rw[u1.inj I hl qx];exact ex,fun l hl=>by rw[u2.inj I hl qy];exact ey⟩,
   ⟨a1',sb.extBut _ _ D.TIz (hk _ _ D.TIz D.TITO D.TIi1 D.TIi2 g2),⟨_,_,sb.extBut _ _ D.TOz a2⟩,a3.extBut sb.extBut D.i1z,a4.extBut sb.extBut D.i2z⟩,fun c hc=>?_⟩;rw[gx (fun q=>?_)];·exact(hf c hc).1
  ·have lt:c<s.heap.objs.size:=by
    obtain⟨o4,e4,_⟩:=g4;obtain⟨o5,e5,_⟩:=g5;simp only[ak,bI,or_false]at hc;rcases hc with e|e|e|e|e<;>subst e;·exact fO g1
    ·exact fO g2
    ·exact fO g3
    ·exact fO e4
    ·exact fO e5
   exact absurd lt (by rw[q];exact cO _)
 done:=by intro X hP hw hK hc i pz s σ H E I hf st hg;subst hP hw hK;obtain⟨xs,ys,qx,qy,ei⟩:=hg;obtain⟨i1s,r1,p1,z1⟩:=u1.inv I qx;obtain⟨i2s,r2,p2,z2⟩:=u2.inv I qy;obtain⟨g1,g2,⟨u,v,g3⟩,g4,g5⟩:=st;have l1:=r1.length;have l2:=r2.length;refine tL (I.ok.hd hc) D g1 g2 g3 g4 g5 (show u1.S s.heap a i1s.toArray from p1) (show u2.S s.heap b i2s.toArray from p2) ?_ fun h1 hk=>⟨rfl,I.turnedL (t':=s.toks) (ch:=[z,TO,i1,i2]) (fun c o hc e=>hk c o (fun q=>hc (by simp[q])) (fun q=>hc (by simp[q])) (fun q=>hc (by simp[q])) (fun q=>hc (by simp[q])) e) fun c hc=>hf c (by simp only[ak,bI,or_false]at hc⊢;first|(rcases hc with h|h|h|h<;>simp[h])|simp[hc])⟩;simp only[List.getElem?_toArray,List.getElem?_eq_none_iff];lia
 self:=fun _ _ _ _ _ st h=>wpAny_pyIter_zip st.1 h
def Ey (u1 u2:Sk) (K:Zp) (ta:TA):TI:=fun σ H R=>ta σ H fun vs H1=>∃a b,vs=[.ref a,.ref b]/\(∃xs,u1.Sq K H1 a xs)/\(∃ys,u2.Sq K H1 b ys)/\R (Itg u1 u2 K a b) H1
section
variable {X:Cx}
theorem Az (u1 u2:Sk) {es:List Zr} {kk:Nat} {tp:Pos} {a b:Zr} {ta:TA} {p pos:Pos} (hg:Gl X "zip") (hm:X.mg "zip"=none) (ha:PA X [a,b] ta) (hs:autoParam (starEach [a,b] X.env=[(false,eval a X.env),(false,eval b X.env)]) auR._auto_1) (hs2:autoParam (starEach [b] X.env=[(false,eval b X.env)]) auR._auto_1):
  PI X (.Tuple es kk tp) (.Call (.Name "zip" p) [a,b] [] pos) (Ey u1 u2 X.K ta):=by
 intro pz s σ H R I h;refine Call_ (nA I hg hm Gx (fX (thn (ha pos pz s σ H _ I h) ?_) (by rw[hs,hs2]) (by rw[hs2];rfl)));rintro us s1 ⟨vs,H1,I1,r1,q1⟩;obtain⟨l1,l2,e,⟨xs,q1⟩,⟨ys,q2⟩,q⟩:=q1;subst e;obtain⟨u,v,rfl,ru,rv⟩:=y9 r1;cases ru;cases rv;obtain⟨i1s,w1,p1,z1⟩:=u1.inv I1 q1;obtain⟨i2s,w2,p2,z2⟩:=u2.inv I1 q2;have o1:@LT.lt Nat _ l1 s1.heap.objs.size:=u1.old I1 q1;have o2:@LT.lt Nat _ l2 s1.heap.objs.size:=u2.old I1 q2;refine Ax (show u1.S s1.heap l1 i1s.toArray from p1) (show u2.S s1.heap l2 i2s.toArray from p2) fun h1 hz hTI hTO hi1 hi2 hk=>wpAny_pyIter_zip hz ?_;have D:ZipApart (s1.heap.objs.size+ 4) (s1.heap.objs.size+ 2) (s1.heap.objs.size+ 3) s1.heap.objs.size (s1.heap.objs.size+ 1) l1 l2:=by constructor<;>exact fun(h:@Eq Nat _ _)=>by lia
 refine⟨_,_,_,_,H1,rfl,I1.kept (t':=s1.toks) hk,Ay D,⟨hz,hTI,⟨_,_,hTO⟩,hi1,hi2⟩,fun c hc=>?_,q⟩;have ge:s1.heap.objs.size<=c:=by simp only[ak,bI,or_false]at hc;rcases hc with h|h|h|h|h<;>rw[h]<;>first|exact cW _|exact c9 _ _
 exact I1.fpOk ge (I1.hok.fresh ge)
theorem Ez {es:List Zr} {kk:Nat} {tp:Pos} {a b:Zr} {ta:TA} {p pos:Pos} (hg:Gl X "zip") (hm:X.mg "zip"=none) (ha:PA X [a,b] ta) (hs:autoParam (starEach [a,b] X.env=[(false,eval a X.env),(false,eval b X.env)]) auR._auto_1) (hs2:autoParam (starEach [b] X.env=[(false,eval b X.env)]) auR._auto_1):
  PI X (.Tuple es kk tp) (.Call (.Name "zip" p) [a,b] [] pos) (Ey tS tS X.K ta):=Az tS tS hg hm ha hs hs2
theorem EA {es:List Zr} {kk:Nat} {tp:Pos} {a b:Zr} {ta:TA} {p pos:Pos} (hg:Gl X "zip") (hm:X.mg "zip"=none) (ha:PA X [a,b] ta) (hs:autoParam (starEach [a,b] X.env=[(false,eval a X.env),(false,eval b X.env)]) auR._auto_1) (hs2:autoParam (starEach [b] X.env=[(false,eval b X.env)]) auR._auto_1):
  PI X (.Tuple es kk tp) (.Call (.Name "zip" p) [a,b] [] pos) (Ey tS lS X.K ta):=Az tS lS hg hm ha hs hs2
end
theorem zq:typeLookup (.type "tuple") "keys"=pure none:=by rw[typeLookup_type,builtinLookup_eq_fast];kernel_rfl
section
variable {prog:Zu} {w:Zv} {A:Zw} {E:Zb} {s:Zy}
theorem EB {a:Zx} {xs:Array Zz} {k:Nat} {sl:Array (Option Zz)} {Q:Option Zz->Zy->Prop} (hx:s.heap.get? a=some {cls:= .type "tuple",dict:=none,data:= .seq xs k,slots:=sl}) (hA:A.handled=none)
  (q:∀h' tk,(∀b o,s.heap.get? b=some o->h'.get? b=some o)->Q none {s with heap:=h',toks:=tk}):wpAny (model prog w) A (getAttr? (.ref a) "keys") Q E s:=by
 obtain⟨hp,g,d,tk,os⟩:=s;have hT:∀tk',(⟨hp,g,d,tk',os⟩:Zy).TypeIs (.ref a) "tuple":=fun _=>⟨_,hx,rfl⟩;have f1:=sub_AttributeError;have f3:=F.slot_tuple_getattribute.lookup;have f4:=F.slot_tuple_getattribute.bind (.ref a);have f5:=am_tuple_getattr_none;unfold getAttr? getAttrBy? getAttrBy;repeat(any_goals(first|assumption|exact hT _|((with_reducible show wpAny _ _ (call (Value.builtin "tuple.__getattribute__") _ _) _ _ _);refine call_meets F.slot_tuple_getattribute (hT _) am_entry_tuple_getattribute (F.args_tuple_getattribute_2 _ _) (meets_getattribute_miss_tuple a xs k sl "keys" _ zq iq iq) ⟨hx,hA,fun h' tk' e hx'=>?_⟩)|wp_step))
 obtain⟨t',u',he⟩:=hx'.there;show wpAny _ _ (getattributeRaised _ _ _ _ _ _ _) _ _ _;unfold getattributeRaised;repeat(any_goals(first|assumption|wp_step))
 exact q h' tk' hx'.keeps
end
inductive Prs (H:Hp):List V->List (Str×V)->Prop
 |nil:Prs H [] []
 |cons {a:Zx} {p:Str×V} {l:List V} {m:List (Str×V)}:H a=some (.tup [.str p.1,p.2])->Prs H l m->Prs H (.ref a::l) (p::m)
theorem kq:entryFor table "dict.update.loop"=some Builtin.«dict.update.loop»:=entryFor_of_tree (by kernel_rfl)
def kf (p:Str×V):Key×V:=(Sum.inr p.1,p.2)
section
variable {X:Cx} {pz:Za} {σ:St} {H:Hp} {d it t:Zx} {vs:List V} {A:Zw} {R:Result->Zy->Prop}
theorem vA (hA:A.handled=none) (hd:H d=none) (ht:H t=some (.tup vs)):∀(rest:List (Str×V)) (ys:List V) (i:Nat) (acc:List (Key×V)) (s:Zy),
  Inv X pz σ (upd H d (.dK acc)) s->uS X pz (upd H d (.dK acc)) it->s.heap.IsTupleIter it t i->vs.drop i=ys->Prs H ys rest->acc.length+rest.length<=1000->
  (∀s',Inv X pz σ (upd H d (.dK (jh acc (rest.map kf)))) s'->R (.ok (.ret .none)) s')->
  codeAny (model X.prog X.w) A (.builtin "dict.update.loop" ⟨[.ref d,.ref it,.int (i:Int) 0,.none],[]⟩) R s
 |[],ys,i,acc,s,I,f,st,ey,hp,hn,k=>by
  cases hp;have ht':(upd H d (.dK acc)) t=some (.tup vs):=by rw[gx (gr ht hd)];exact ht
  obtain⟨its,rv,p,hz⟩:=I.tuple (SqT.of ht');obtain⟨f0,f1,f2,f3,f4,f5⟩:=f;have hl:=rv.length;have hi:vs.length<=i:=bK.mp ey;refine codeAny_builtin kq ?_;unfold Builtin.«dict.update.loop»;show wpAny _ _ (pyNext (.ref it) >>= _) _ _ s;refine wpAny_bind (wpAny_pyNext_tuple_end (by exact hA) st (show s.heap.IsTuple t its.toArray from p) (by simp;lia) fun h' eb=>?_);have I1:Inv X pz σ (upd H d (.dK acc)) {s with heap:=h'}:=I.turned (t':=s.toks) (fun b o hb e=>eb b o hb e) f0 f1 f3 f4 f5;exact wpAny_bind (wpAny_pure (wpAny_pure (k _ I1)))
 |pr::rest,ys,i,acc,s,I,f,st,ey,hp0,hn,k=>by
  obtain⟨a,l,rfl,ha,hp⟩:∃a l,ys= .ref a::l/\H a=some (.tup [.str pr.1,pr.2])/\Prs H l rest:=by
   cases hp0 with
   |cons h1 h2=>exact⟨_,_,rfl,h1,h2⟩
  have ht':(upd H d (.dK acc)) t=some (.tup vs):=by rw[gx (gr ht hd)];exact ht
  have ha':(upd H d (.dK acc)) a=some (.tup [.str pr.1,pr.2]):=by rw[gx (gr ha hd)];exact ha
  obtain⟨its,rv,p,hz⟩:=I.tuple (SqT.of ht');have ff:=f;obtain⟨f0,f1,f2,f3,f4,f5⟩:=f;have hvi:vs[i]?=some (.ref a):=by have:=congrArg (·[0]?) ey;simpa using this
  obtain⟨u,hu,ru⟩:=rv.get hvi;cases ru;refine codeAny_builtin kq ?_;unfold Builtin.«dict.update.loop»;show wpAny _ _ (pyNext (.ref it) >>= _) _ _ s;refine wpAny_bind (wpAny_pyNext_tuple_item st (show s.heap.IsTuple t its.toArray from p) (x:= .ref a) (by simpa using hu) fun h' st' sb=>?_);have I1:Inv X pz σ (upd H d (.dK acc)) {s with heap:=h'}:=I.turned (t':=s.toks) (fun b o hb e=>(sb.2 b hb).trans e) f0 f1 f3 f4 f5;obtain⟨its2,rv2,⟨ob,hob,hoc,on,hod⟩,_⟩:=I1.tuple (SqT.of ha');obtain⟨kx,vx,rfl,⟨tk,rfl⟩,rvx⟩:=y9 rv2;obtain⟨z,hds,vs2,rel,dd⟩:=vf I1.hok (show(upd H d (.dK acc)) d=some (.dK acc)from gb);refine wpAny_bind (wpAny_holding (wpAny_bind (wpAny_tryCatch ?_)));unfold Builtin.Dict.pairItems;refine wpAny_bind (wpAny_typeOf (T:="tuple") ⟨ob,hob,hoc⟩ ?_);rw[gU (by decide)];refine wpAny_bind (wpAny_seqItems hob hod ?_);refine wpAny_pure ?_;show wpAny _ _ (holding [Value.str pr.1 tk,vx] (dictSet d (.str pr.1 tk) vx)) _ _ _;have hv2:vs2.length<=sizeLine:=by rw[<-rel.length];exact z
  have hn':acc.length+(rest.length+ 1)<=1000:=hn;have hl:(lP acc (Sum.inr pr.1) pr.2).length<=1000:=by have:=ig acc (Sum.inr pr.1) pr.2;lia
  have hl2:(lP acc (Sum.inr pr.1) pr.2).length+rest.length<=1000:=by have:=ig acc (Sum.inr pr.1) pr.2;lia
  refine wpAny_holding (wpAny_dictSet_pairs (hsz:=hv2) (k:=(Sum.inr pr.1:Key)) (tF (k:=(Sum.inr pr.1:Key)) (show iQ (kV (Sum.inr pr.1)) _ from⟨tk,rfl⟩)) dd fun h2 dd2 sb2=>?_);have he:∃q,h2.get? d=some q:=let⟨q,_,_,hq,_⟩:=dd2;⟨q,hq⟩;have I2:=qK (t':=s.toks+ 1) I1 (by rw[gb];exact True.intro) sb2 he (qL (kvs:=lP acc (Sum.inr pr.1) pr.2) (cQ hl (by decide)) hds (rel.put (Sum.inr pr.1) rvx) dd2);rw[sV]at I2;have hid:it≠d:=fun e=>by rw[e,gb]at f0;exact nomatch f0
  obtain⟨oi,hoi,ri⟩:=st';have st2:h2.IsTupleIter it t (i+ 1):=⟨oi,(sb2.2 it hid).trans hoi,ri⟩;refine wpAny_pure ⟨Code.quiet_builtin _ iq,?_⟩;have ey2:vs.drop (i+ 1)=l:=by rw[<-List.tail_drop,ey];rfl
  exact vA hA hd ht rest l (i+ 1) (lP acc (Sum.inr pr.1) pr.2) _ I2 ⟨by rw[gx hid]at f0⊢;exact f0,f1,f2,f3,f4,f5⟩ st2 ey2 hp hl2 k
end
section
variable {X:Cx}
theorem zr (hc:X.calm=true):ny X (.type "dict") (fun xs H Q=>∃(t:Zx) (vs:List V) (kvs:List (Str×V)),xs=[.ref t]/\H t=some (.tup vs)/\Prs H vs kvs/\kvs.length<=1000/\∀d,H d=none->Q (.ref d) (upd H d (.dK (jh [] (kvs.map kf))))):=by
 intro pz s σ H xs us Q I r h;obtain⟨t,vs,kvs,rfl,ht,hp,hn,q⟩:=h;obtain⟨u,rfl,ru⟩:=mz r;cases ru;obtain⟨_,its,rv,o,ho,hcl,n,hd,hdd⟩:=(show jL X.prog X.w H s.heap t (.tup vs)from I.hok t _ ht);obtain⟨oc,od,odt,osl⟩:=o;cases(show oc=_ from hcl);cases(show odt=_ from hd);cases(show od=_ from hdd);refine callType_codes (Q₁:=fun obj s₁=>obj= .ref s.heap.objs.size/\s₁={s with heap:=s.heap.push {cls:= .type "dict",data:= .dict #[]}}) F.kt_called_dict (F.kt_typeCall_dict_1 _) F.entry_dict_init (kt_code_dict_new _ ⟨rfl,rfl⟩) ?_;rintro obj s₁ ⟨rfl,rfl⟩;have hnew:(s.heap.push {cls:= .type "dict",data:= .dict #[]}).DictOf (jg X.prog X.w) s.heap.objs.size []:=Heap.DictOf.new s.heap;refine⟨hnew.typeIs,F.args_dict_init_2 _ _,?_⟩;unfold Builtin.«dict.__init__»;refine wpAny_bind ?_;unfold Builtin.Dict.selfAndRest;refine wpAny_bind (wpAny_notOrdered_dict hnew.typeIs ?_);show wpAny _ _ (pure (s.heap.objs.size,[Value.ref t])) _ _ _;refine wpAny_pure ?_;show wpAny _ _ (Builtin.Dict.updateFrom "dict.__init__" s.heap.objs.size (.ref t) [] .none) _ _ _;unfold Builtin.Dict.updateFrom;have ho1:=fS {cls:= .type "dict",data:= .dict #[]} ho;refine wpAny_bind (wpAny_typeOf (T:="tuple") ⟨_,ho1,rfl⟩ ?_);rw[gU (by decide)];refine wpAny_bind (EB ho1 (by exact I.ok.hd hc) fun h1 tk1 kp1=>?_);rw[gU (by rfl)];refine wpAny_bind (wpAny_rule ?_);have I1:Inv X pz σ (upd H s.heap.objs.size (.dK [])) {s with heap:=h1,toks:=tk1}:=by
  refine I.laid (fun b u e=>kp1 b u (fS _ e)) (cW _) (qL (by decide) ?_ .nil ?_);·have hb:=I.big;exact beq_false_of_ne (cU hb)
  ·obtain⟨o,es,ep,ho,r⟩:=hnew;exact⟨o,es,ep,kp1 _ _ ho,r⟩
 have ho2:h1.IsTuple t its.toArray:=⟨_,kp1 _ _ ho1,rfl,n,rfl⟩;refine wpAny_bind (wpAny_pyIter_tuple (show({s with heap:=h1,toks:=tk1}:Zy).heap.IsTuple t its.toArray from ho2) ?_);have f:=I1.fpOk (cW _) (I1.hok.fresh (cW _));have I2:Inv X pz σ (upd H s.heap.objs.size (.dK [])) {s with heap:=h1.push {cls:= .type "tuple_iterator",data:= .fields #[.ref t,.int 0 0]},toks:=tk1}:=I1.kept (t':=tk1) fun b o e=>fS _ e;refine wpAny_pure ⟨Code.quiet_builtin _ iq,?_⟩;refine vA (A:=X.A.in1) (by exact I.ok.hd hc) (I.hok.fresh (cW _)) ht kvs vs 0 [] _ I2 f ⟨_,fQ _ rfl,rfl,rfl⟩ rfl hp (by simpa using hn) fun s' J=>?_;exact⟨rfl,.ref s.heap.objs.size,_,J,rfl,q _ (I.hok.fresh (cW _))⟩
end
end L2.Internal
namespace BO.Internal
open PySem L2.Internal
def rIsi (K:Zp):List V->Hp->VK->Prop:=fun xs H Q=>∃x v c t b,xs=[x,v]/\(∀u,iQ v u->u=c)/\wC K H x t/\eB K t c=some b/\Q (.bl b) H
theorem sz {n:Nat} (h:n<=100000):n<=sizeLine:=cQ h (by decide)
theorem gi {H:Hp} {p:Zx} (h:H p=none) (o:HO):gC H (upd H p o):=fun b u q=>by rw[gx (gr q h)];exact q
theorem Dc {α:Type} (l:List α) (i:Int) (h0:0<=i) (h1:i<(l.length:Int)):∃c,atI l i=some c/\c∈l:=by
 have e:i=((i.toNat:Nat):Int):=by lia
 have hi:i.toNat<l.length:=by lia
 refine⟨l[i.toNat],?_,bL hi⟩;have z:atI l ((i.toNat:Nat):Int)=some l[i.toNat]:=gq (bF hi);rw[<-e]at z;exact z
def flN:V->Bool
 | .non=>true
 | .int _=>true
 | .str _=>true
 |_=>false
mutual
inductive Im (H:Hp):V->Dt->Prop where
 |flat {v:V} (h:flN v=true):Im H v (.flat v)
 |tup {a:Zx} {xs:List V} {ds:List Dt} (h:H a=some (.tup xs)) (hs:Ims H xs ds):Im H (.ref a) (.tup ds)
inductive Ims (H:Hp):List V->List Dt->Prop where
 |nil:Ims H [] []
 |cons {x:V} {d:Dt} {xs:List V} {ds:List Dt} (h:Im H x d) (hs:Ims H xs ds):Ims H (x::xs) (d::ds)
end
mutual
inductive Dta (H:Hp):V->Dt->Prop where
 |flat {v:V} (h:flN v=true):Dta H v (.flat v)
 |tup {a:Zx} {xs:List V} {ds:List Dt} (h:H a=some (.tup xs)) (hs:Dd H xs ds):Dta H (.ref a) (.tup ds)
 |lst {a:Zx} {xs:List V} {ds:List Dt} (h:H a=some (.lst xs)) (hs:Dd H xs ds):Dta H (.ref a) (.lst ds)
inductive Dd (H:Hp):List V->List Dt->Prop where
 |nil:Dd H [] []
 |cons {x:V} {d:Dt} {xs:List V} {ds:List Dt} (h:Dta H x d) (hs:Dd H xs ds):Dd H (x::xs) (d::ds)
end
def TK (H H':Hp):Prop:=∀a xs,H a=some (.tup xs)->H' a=some (.tup xs)
theorem gC.tk {H H':Hp} (s:gC H H'):TK H H':=fun a xs e=>s a _ e
mutual
theorem Im.mono {H H':Hp} (k:TK H H'):∀{v:V} {d:Dt},Im H v d->Im H' v d
 |_,_,.flat h=> .flat h
 |_,_,.tup h hs=> .tup (k _ _ h) (Ims.mono k hs)
theorem Ims.mono {H H':Hp} (k:TK H H'):∀{v:List V} {d:List Dt},Ims H v d->Ims H' v d
 |_,_,.nil=> .nil
 |_,_,.cons h hs=> .cons (Im.mono k h) (Ims.mono k hs)
end
theorem Dd.length {H:Hp}:∀{xs:List V} {ds:List Dt},Dd H xs ds->xs.length=ds.length
 |_,_,.nil=>rfl
 |_,_,.cons _ t=>by rw[aA,aA,Dd.length t]
theorem Ims.length {H:Hp}:∀{xs:List V} {ds:List Dt},Ims H xs ds->xs.length=ds.length
 |_,_,.nil=>rfl
 |_,_,.cons _ t=>by rw[aA,aA,Ims.length t]
theorem Ims.app {H:Hp}:∀{xs ys:List V} {ds es:List Dt},Ims H xs ds->Ims H ys es->Ims H (xs++ys) (ds++es)
 |_,_,_,_,.nil,h=>h
 |_,_,_,_,.cons a b,h=> .cons a (Ims.app b h)
inductive FD {α β:Type} (F:α->β->Prop):List α->List β->Prop
 |nil:FD F [] []
 |cons {a:α} {b:β} {l:List α} {m:List β}:F a b->FD F l m->FD F (a::l) (b::m)
theorem FD.length {α β:Type} {F:α->β->Prop}:∀{l:List α} {m:List β},FD F l m->l.length=m.length
 |_,_,.nil=>rfl
 |_,_,.cons _ t=>by rw[aA,aA,FD.length t]
inductive Us where
 |num (a p s:Int)
 |call (a p s x y:Int)
 |take (a p s:Int) (l:List (Str×Int))
 |case (a p s:Int) (l:List (Str×Int))
 |row (a p s x:Int)
structure Mkg where
 s:Str
 f:Dt
 a:Int
 p:Int
structure Cs where
 M:Zx
 N:Zx
 C:Zx
 T:Zx
 K:Zx
 R:Zx
 B:Zx
def Fz:HO->Prop
 | .tup _=>True
 | .ins _ _ fs=>fs.length≠5\/∃v r,fs=(("at":Str),v)::r
 |_=>False
def FK (H H':Hp):Prop:=∀a o,H a=some o->Fz o->H' a=some o
theorem FK.tk {H H':Hp} (k:FK H H'):TK H H':=fun a xs e=>k a _ e trivial
theorem FK.trans {H H1 H2:Hp} (a:FK H H1) (b:FK H1 H2):FK H H2:=fun c o e f=>b c o (a c o e f) f
theorem sF {J:It} {i:Nat} {te:TE} {Q:VK} {τ:St} {H1:Hp} {D:Zx} (n:Nat) (hn:n<sizeLine) (R:List V->Hp->Prop) (hR:∀xs H H',R xs H->TK H H'->R xs H') (hD:H1 D=none) (hτ:τ.set i none=τ)
  (hgo:∀k H,gC H1 H->k<n->J.go k H) (hst:∀H,gC H1 H->J.stop n H) (h0:R [] H1)
  (step:∀k H v H3 xs (Z:VK),gC H1 H->k<n->J.yld k H v H3->R xs H->xs.length=k->(∀y H5,gC H H5->R (xs++[y]) H5->Z y H5)->te (τ.set i (some v)) H3 Z)
  (hq:∀H' xs,gC H1 H'->R xs H'->xs.length=n->H' D=some (.lst xs)->Q (.ref D) H'):LcP J i oT te Q τ H1 D:=by
 have nd:∀(H5:Hp) (xs ys:List V),H5 D=some (.lst xs)->TK H5 (upd H5 D (.lst ys)):=fun H5 xs ys e a zs q=>by rw[gx (kI q e (fun z=>nomatch z))];exact q
 have up:∀{H:Hp} (o:HO),gC H1 H->gC H1 (upd H D o):=fun{H} o S b u e=>by rw[gx (gr e hD)];exact S b u e
 refine⟨fun k m σ' H2=>m=n-k/\k<=n/\(∃o,σ'=τ.set i o)/\gC H1 H2/\∃xs,H2 D=some (.lst xs)/\xs.length=k/\R xs H2,⟨n,by simp,cX _,⟨none,hτ.symm⟩,gi hD _,[],gb,rfl,hR _ _ _ h0 (gC.tk (gi hD _))⟩,?_⟩;rintro k m σ' H2 ⟨rfl,hk,⟨o,rfl⟩,S,xs,e,hl,hr⟩;by_cases hlt:k<n;·refine .inr ⟨hgo k H2 S hlt,fun v H3 y=>?_⟩;rw[bw];refine step k H2 v H3 xs _ S hlt y hr hl fun y H5 S5 r5=>?_;refine⟨xs,S5 D _ e,by lia,n-(k+ 1),by lia,rfl,hlt,⟨some v,rfl⟩,up _ (S.trans S5),xs++[y],gb,by rw[aR,hl];rfl,hR _ _ _ r5 (nd H5 _ _ (S5 D _ e))⟩
 ·have e1:k=n:=by lia
  subst e1;exact .inl ⟨hst H2 S,hq H2 xs S hr hl e⟩
theorem De {K:Zp} {a:Zx} {xs:List V} {k:Nat} {H1 H:Hp} (e:H1 a=some (.lst xs)) (S:gC H1 H) (h:k<xs.length):(Itl K a).go k H:=⟨xs,xs[k],SqL.of (S a _ e),bF h⟩
theorem Dg {K:Zp} {a:Zx} {xs:List V} {H1 H:Hp} (e:H1 a=some (.lst xs)) (S:gC H1 H):(Itl K a).stop xs.length H:=⟨xs,SqL.of (S a _ e),cW _⟩
theorem AA {K:Zp} {a:Zx} {xs:List V} {k:Nat} {H1 H:Hp} (e:H1 a=some (.tup xs)) (S:gC H1 H) (h:k<xs.length):(Itt K a).go k H:=⟨xs,xs[k],SqT.of (S a _ e),bF h⟩
theorem AB {K:Zp} {a:Zx} {xs:List V} {H1 H:Hp} (e:H1 a=some (.tup xs)) (S:gC H1 H):(Itt K a).stop xs.length H:=⟨xs,SqT.of (S a _ e),cW _⟩
inductive Ls (H:Hp):List Zx->List (List V)->Prop
 |nil:Ls H [] []
 |cons {a:Zx} {c:List V} {l:List Zx} {m:List (List V)}:H a=some (.lst c)->Ls H l m->Ls H (a::l) (c::m)
structure Sd where
 b:Zx
 dx:Zx
 p0:Zx
 p1:Zx
 p2:Zx
 p3:Zx
 d:Zx
 q0:Zx
 q1:Zx
 q2:Zx
 q3:Zx
structure Bd where
 pts:List Int
 mks:List Mkg
 uss:List Us
 fls:List (Int×Int)
 root:Int
theorem yf {H:Hp} {a:Zx} {xs:List V} {o:HO} (h:H a=some (.lst xs)):FK H (upd H a o):=fun b u e f=>by rw[gx (kI e h (fun z=>by rw[z]at f;exact f))];exact e
section
variable {c:Cs} {H H':Hp} {S:Sd} {E D:Bd}
end
def Frm (M:List Zx) (H H':Hp):Prop:=∀a o,H a=some o->a∉M->H' a=some o
theorem Frm.trans {M:List Zx} {H H1 H2:Hp} (a:Frm M H H1) (b:Frm M H1 H2):Frm M H H2:=fun c o e n=>b c o (a c o e n) n
inductive Mf where
 |num
 |fn (x y:Int)
 |rcd (l:List (Str×Int))
 |tag (w:Str) (x:Int)
 |row (x:Int)
 |any
end BO.Internal
namespace L2.Internal
open PySem PySem.Spec PyProof.Rows
section
variable {X:Cx} {e a b o f:Zr} {st:Zq} {ta tb td ty tx to:TE} {pos apos cpos:Pos}
theorem PE.weak {t t':TE} (h:PE X e t) (m:∀σ H Q,t' σ H Q->t σ H Q):PE X e t':=fun pz s σ H Q I q=>h pz s σ H Q I (m σ H Q q)
theorem PT.weak {t t':TT} (h:PT X e t) (m:∀σ H Q,t' σ H Q->t σ H Q):PT X e t':=fun pz s σ H Q I q=>h pz s σ H Q I (m σ H Q q)
theorem PS.weak {t t':TS} (h:PS X st t) (m:∀D σ H,t' D σ H->t D σ H):PS X st t':=fun pz s σ H D I q=>h pz s σ H D I (m D σ H q)
theorem OpR.weak {g:Zz->Zz->Sem Zz} {r r':R2} (h:OpR X g r) (m:∀x y H Q,r' x y H Q->r x y H Q):OpR X g r':=fun pz s σ H x y v u Q I rx ry q=>h pz s σ H x y v u Q I rx ry (m x y H Q q)
theorem IxR.weak {r r':R2} (h:IxR X r) (m:∀x y H Q,r' x y H Q->r x y H Q):IxR X r':=fun value slice pz s σ H x y v u Q I rx ry q hs=>h value slice pz s σ H x y v u Q I rx ry (m x y H Q q) hs
def mT (t:TE):TE:=fun σ H Q=>∃Q0:VK,t σ H Q0/\∀x H1,Q0 x H1->Q x H1
theorem PE.mono {t:TE} (h:PE X e t):PE X e (mT t):=fun pz s σ H Q I ⟨Q0,h0,m⟩=>thn (h pz s σ H Q0 I h0) fun v s1 ⟨x,H1,I1,r1,q1⟩=>⟨x,H1,I1,r1,m x H1 q1⟩
def mR (r:R2):R2:=fun x y H Q=>∃Q0:VK,r x y H Q0/\∀x H1,Q0 x H1->Q x H1
theorem OpR.mono {g:Zz->Zz->Sem Zz} {r:R2} (h:OpR X g r):OpR X g (mR r):=fun pz s σ H x y v u Q I rx ry ⟨Q0,h0,m⟩=>thn (h pz s σ H x y v u Q0 I rx ry h0) fun v s1 ⟨x,H1,I1,r1,q1⟩=>⟨x,H1,I1,r1,m x H1 q1⟩
def onV:Option (Option V)->(V->Prop)->Prop
 |some (some v),k=>k v
 |_,_=>False
def onS {α:Type}:Option α->(α->Prop)->Prop
 |some v,k=>k v
 |none,_=>False
theorem gu {α:Type} {x:Option α} {v:α} {k:α->Prop} (h:x=some v) (q:k v):onS x k:=by rw[h];exact q
theorem AD {α:Type} {x:Option α} {k:α->Prop} (h:onS x k):∃v,x=some v/\k v:=by
 cases x with
 |none=>exact h.elim
 |some v=>exact⟨v,rfl,h⟩
def cV (i:Nat):TE:=fun σ H Q=>onV σ[i]? fun v=>Q v H
theorem cv (i:Nat) {x:Str} {pos:Pos} (hN:autoParam (X.N[i]?=some x) auR._auto_1) (hv:Vis X.env.scope x:=by first|exact Or.inl rfl|exact Or.inr (.inl rfl)|exact Or.inr (.inr rfl)) (hd:autoParam ((x==("__debug__":Str))=false) auD._auto_1)
  (hcd:autoParam ((x==("__classdict__":Str))=false) auD._auto_1):PE X (.Name x pos) (cV i):=(pv i hN hv hd hcd).weak fun σ H Q h=>by
 unfold cV at h
 cases q:σ[i]? with
 |none=>rw[q]at h;exact h.elim
 |some o=>
  rw[q]at h
  cases o with
  |none=>exact h.elim
  |some v=>exact⟨v,q,h⟩
def cI0 (g:Int->Int->V):R2:=fun x y H Q=>match x,y with
 | .int i,.int j=>Q (g i j) H
 |_,_=>False
def cI (C:Int->Int->Prop) (g:Int->Int->V):R2:=fun x y H Q=>match x,y with
 | .int i,.int j=>C i j/\Q (g i j) H
 |_,_=>False
theorem vB {g:Int->Int->V}:∀x y H Q,cI0 g x y H Q->rI0 g x y H Q:=fun x y H Q h=>by
 unfold cI0 at h;split at h;·exact⟨_,_,rfl,rfl,h⟩
 ·exact h.elim
theorem EC {C:Int->Int->Prop} {g:Int->Int->V}:∀x y H Q,cI C g x y H Q->rI C g x y H Q:=fun x y H Q h=>by
 unfold cI at h;split at h;·exact⟨_,_,rfl,rfl,h.1,h.2⟩
 ·exact h.elim
theorem nB:OpR X (binaryOp .Add) (cI0 fun i j=> .int (i+j)):=CU.weak vB
theorem Dh:OpR X (binaryOp .Sub) (cI0 fun i j=> .int (i-j)):=FY.weak vB
theorem jG:OpR X (binaryOp .FloorDiv) (cI HZ fun i j=> .int (i/j)):=D6.weak EC
theorem jo:OpR X (binaryOp .Mod) (cI (fun _ j=>0<j) fun i j=> .int (i%j)):=FZ.weak EC
theorem yg:OpR X (binaryOp .Pow) (cI JD fun i j=> .int (i^j.toNat)):=F0.weak EC
theorem IB:OpR X (compareOp .Lt) (cI0 fun i j=> .bl (decide (i<j))):=Ia.weak vB
theorem ED:OpR X (compareOp .Gt) (cI0 fun i j=> .bl (decide (j<i))):=F9.weak vB
theorem GD:OpR X (compareOp .GtE) (cI0 fun i j=> .bl (decide (j<=i))):=Ib.weak vB
def cEq (n:Bool):R2:=fun x y H Q=>match x,y with
 | .int i,.int j=>Q (.bl (xor n (decide (i=j)))) H
 | .str i,.str j=>Q (.bl (xor n (decide (i=j)))) H
 |_,_=>False
theorem JI {i j:Str}:decide (V.str i=V.str j)=decide (i=j):=by rw[fw];simp
theorem JJ {i j:Int}:decide (V.int i=V.int j)=decide (i=j):=by rw[fw];simp
theorem jZ:OpR X (compareOp .Eq) (cEq false):=tj.weak fun x y H Q h=>by
 unfold cEq at h;split at h;·refine⟨rfl,?_⟩;rw[JJ];rw[fB]at h;exact h
 ·refine⟨rfl,?_⟩;rw[JI];rw[fB]at h;exact h
 ·exact h.elim
theorem qQ:OpR X (compareOp .NotEq) (cEq true):=oz.weak fun x y H Q h=>by
 unfold cEq at h;split at h;·refine⟨rfl,?_⟩;rw[JJ];rw[fC]at h;exact h
 ·refine⟨rfl,?_⟩;rw[JI];rw[fC]at h;exact h
 ·exact h.elim
def onB:V->(Bool->Prop)->Prop
 | .bl k,q=>q k
 |_,_=>False
theorem GF {x:V} {k:Bool->Prop} (h:onB x k):∃c,x= .bl c/\k c:=by cases x<;>first|exact⟨_,rfl,h⟩|exact h.elim
def cT (t:TE):TT:=fun σ H Q=>t σ H fun x H'=>onB x fun k=>Q k H'
theorem gH {op:CmpOp} {r:R2} (ho:OpR X (compareOp op) r) (ha:PE X a ta) (hb:PE X b tb) (hm:behindInMarks op b=false:=by exact zW _):PT X (.Compare a [op] [b] pos) (cT (tOp r ta tb)):=
 (jr ho.mono ha.mono hb.mono hm).weak fun σ H Q h=>⟨_,h,fun x H1 h1=>⟨_,h1,fun y H2 h2=>⟨_,h2,fun z H' h3=>GF h3⟩⟩⟩
def JK:R2:=fun x y H Q=>match x,y with
 | .ref p,.int i=>∃xs,H p=some (.lst xs)/\onS (atI xs i) fun v=>Q v H
 |_,_=>False
def EE:R2:=fun x y H Q=>match x,y with
 | .ref p,.int i=>∃xs,H p=some (.tup xs)/\onS (atI xs i) fun v=>Q v H
 |_,_=>False
def JL:R2:=fun x y H Q=>match x,y with
 | .str z,.int i=>z.length<=sizeLine/\onS (atI z.cps.toList i) fun c=>Q (.str ⟨#[c]⟩) H
 |_,_=>False
theorem gJ:IxR X JK:=Ae.weak fun x y H Q h=>by
 unfold JK at h;split at h;·obtain⟨xs,e,h⟩:=h;obtain⟨v,ev,h⟩:=AD h;exact⟨_,xs,_,v,rfl,rfl,SqL.of e,ev,h⟩
 ·exact h.elim
theorem gA:IxR X EE:=Gj.weak fun x y H Q h=>by
 unfold EE at h;split at h;·obtain⟨xs,e,h⟩:=h;obtain⟨v,ev,h⟩:=AD h;exact⟨_,xs,_,v,rfl,rfl,SqT.of e,ev,h⟩
 ·exact h.elim
theorem AE:IxR X JL:=Af.weak fun x y H Q h=>by
 unfold JL at h;split at h;·obtain⟨e,h⟩:=h;obtain⟨v,ev,h⟩:=AD h;exact⟨_,_,v,rfl,rfl,e,ev,h⟩
 ·exact h.elim
def Fd (H:Hp) (a C:Zx) (f:Str) (v:V):Prop:=∃dx fs,H a=some (.ins C dx fs)/\fs.lookup f=some v
def Nf (H:Hp) (a C:Zx) (m:Str):Prop:=∃dx fs,H a=some (.ins C dx fs)/\fs.lookup m=none
def FE (C:Zx) (f:Str) (ta:TE):TE:=fun σ H Q=>ta σ H fun x H1=>match x with
 | .ref a=>∃v,Fd H1 a C f v/\Q v H1
 |_=>False
theorem gS {C:Zx} {f:Str} (c:Cls X.K C) (n:iN X.K C f) (he:PE X e ta) (hb:autoParam (attributeBase e f X.env (eval e X.env)=eval e X.env) auR._auto_1):PE X (.Attribute e f pos) (FE C f ta):=
 (oA he.mono hb).weak fun σ H Q h=>⟨_,h,fun x H1 h1=>by
  cases x with
  |ref a=>obtain⟨v,⟨dx,fs,ea,ev⟩,q⟩:=h1;exact⟨a,C,dx,fs,v,rfl,ea,c,n,ev,q⟩
  |_=>exact h1.elim⟩
def IC (C:Zx) (m:Str) (sp:Sp) (dvs:List V) (E:XK) (ta:TE) (t:TA):TE:=fun σ H Q=>ta σ H fun x H1=>match x with
 | .ref a=>Nf H1 a C m/\t σ H1 fun vs H2=>sp (.ref a::(vs++dvs)) H2 Q E
 |_=>False
theorem i6 {C:Zx} {m:Str} {sp:Sp} {dvs:List V} {E:XK} {t:TA} (h:PE X e (Ed C m sp dvs E (mT ta) t)):PE X e (IC C m sp dvs E ta t):=h.weak fun σ H Q h=>⟨_,h,fun x H1 h1=>by
  cases x with
  |ref a=>obtain⟨⟨dx,fs,ea,l⟩,q⟩:=h1;exact⟨a,dx,fs,rfl,ea,l,q⟩
  |_=>exact h1.elim⟩
def ID (C:Zx) (f:Str) (ta tv:TE):TS:=fun D σ H=>tv σ H fun y H1=>ta σ H1 fun x H2=>match x with
 | .ref a=>∃dx fs,H2 a=some (.ins C dx fs)/\fs.length<1000/\D.nx σ (upd H2 a (.ins C dx (mY f y fs)))
 |_=>False
theorem jc {C:Zx} {f:Str} {tv:TE} (c:Cls X.K C) (n:iN X.K C f) (h:PS X st (JF X.K (mT ta) (mT tv) f)):PS X st (ID C f ta tv):=h.weak fun D σ H h=>⟨_,h,fun y H1 h1=>⟨_,h1,fun x H2 h2=>by
  cases x with
  |ref a=>obtain⟨dx,fs,ea,l,q⟩:=h2;exact⟨a,C,dx,fs,rfl,ea,c,n,l,q⟩
  |_=>exact h2.elim⟩⟩
def cS:R2:=fun x y H Q=>match x,y with
 | .str i,.str j=>i.length+j.length<=sizeLine/\Q (.str (i++j)) H
 |_,_=>False
theorem lD:OpR X (binaryOp .Add) cS:=su.weak fun x y H Q h=>by
 unfold cS at h;split at h;·exact⟨_,_,rfl,rfl,h.1,h.2⟩
 ·exact h.elim
def JM (to ta:TE):TE:=fun σ H Q=>to σ H fun x H1=>match x with
 | .ref l=>(∃xs,H1 l=some (.lst xs))/\ta σ H1 fun y H2=>∃xs,H2 l=some (.lst xs)/\xs.length<sizeLine/\Q .non (upd H2 l (.lst (xs++[y])))
 |_=>False
theorem iS (h:PE X e (tBM X.K "list" Ag (mT to) (lN (mT ta) zM))):PE X e (JM to ta):=h.weak fun σ H Q h=>⟨_,h,fun x H1 h1=>by
  cases x with
  |ref l=>obtain⟨⟨xs,e⟩,q⟩:=h1;exact⟨.inl ⟨rfl,xs,SqL.of e⟩,_,q,fun y H2 ⟨xs,e,hl,q2⟩=>⟨l,xs,y,rfl,rfl,e,hl,q2⟩⟩
  |_=>exact h1.elim⟩
end
end L2.Internal
namespace BO.Internal
open PySem L2.Internal
structure Rw where
 w:Bool
 a:Int
 b:Int
 y:Option (Int×Int)
end BO.Internal
namespace L2.Internal
open PySem PySem.Spec PyProof.Rows
section
variable {X:Cx}
end
def Itv (K:Zp) (a:Zx) (n:Nat):It:=
 ⟨fun i H=>i<n/\∃xs,SqL K H a xs/\xs.length=n,fun i H x H'=>H'=H/\∀xs,SqL K H a xs->xs[n-1-i]?=some x,fun i _=>i=n⟩
theorem Co {P:Zu} {w:Zv} {K:Zp} {tg:Zr} (a it:Zx) (n:Nat):B4 P w K tg (Itv K a n) [it] it (fun i h=>h.IsRevIter it a ((n:Int)-1-(i:Int))) where
 mem:=by simp
 obj:=fun i h st b hb=>by
  have e:b=it:=by simpa using hb
  subst e;obtain⟨o,e,c,d⟩:=st;exact⟨o,e,fun v z=>by rw[d]at z;cases z⟩
 keep:=fun i h h' st k=>st.at fun o e=>k it (by simp) o e
 item:=by
  intro X hP hw hK hc i pz s σ H E I hf st hg;subst hP hw hK;obtain⟨hi,xs,hq,hn⟩:=hg;obtain⟨its,rv,p,hz⟩:=I.list hq;have hlt:n-1-i<xs.length:=by lia
  obtain⟨u,hu,ru⟩:=rv.get (bF hlt);obtain⟨f0,f1,f2,f3,f4,f5⟩:=hf it (by simp);have e:(n:Int)-1-(i:Int)=((n-1-i:Nat):Int):=by lia
  have st':=st;rw[e]at st';refine wpAny_pyNext_rev_item st' p.isList (x:=u) (by simpa using hu) fun h' st2 sb=>?_;have e2:((n-1-i:Nat):Int)-1=(n:Int)-1-((i+ 1:Nat):Int):=by lia
  rw[e2]at st2;have I1:Inv X pz σ H {s with heap:=h'}:=I.turned (t':=s.toks) (fun b o hb e=>(sb.2 b hb).trans e) f0 f1 f3 f4 f5;obtain⟨o,eo,c,d⟩:=id st2;exact⟨u,rfl,yX (s:={s with heap:=h'}) eo c d (by decide) ⟨xs[n-1-i],H,I1,ru,⟨rfl,fun ys hy=>by rw[I.list_inj hy hq];exact bF hlt⟩,st2,fun b hb=>(hf b hb).1⟩⟩
 done:=by
  intro X hP hw hK hc i pz s σ H E I hf st hg;subst hP hw hK;have hi:i=n:=hg;subst hi;obtain⟨f0,f1,f2,f3,f4,f5⟩:=hf it (by simp);have e:(i:Int)-1-(i:Int)= -1:=by lia
  have st':=st;rw[e]at st';exact wpAny_pyNext_rev_end (I.ok.hd hc) st' fun h' eb=>⟨rfl,I.turned (t':=s.toks) (fun b o hb e=>eb b o hb e) f0 f1 f3 f4 f5⟩
 self:=fun _ _ _ _ _ st h=>wpAny_pyIter_revIter st h
def iRev (K:Zp) (ta:TA):TI:=fun σ H R=>ta σ H fun vs H1=>∃a xs,vs=[.ref a]/\SqL K H1 a xs/\R (Itv K a xs.length) H1
theorem qR:bootBuiltins "reversed"=some (.type "reversed"):=by first|rfl|decide+kernel
section
variable {X:Cx}
theorem GG {tg:Zr} {a:Zr} {ta:TA} {p pos:Pos} (hg:Gl X "reversed") (hm:X.mg "reversed"=none) (ha:PA X [a] ta) (hs:autoParam (starEach [a] X.env=[(false,eval a X.env)]) auR._auto_1):
  PI X tg (.Call (.Name "reversed" p) [a] [] pos) (iRev X.K ta):=by
 intro pz s σ H R I h;refine Call_ (nA I hg hm qR (fX (thn (ha pos pz s σ H _ I h) ?_) hs rfl));rintro us s1 ⟨vs,H1,I1,r1,q1⟩;obtain⟨l1,xs,e,hq,q⟩:=q1;subst e;obtain⟨u,rfl,ru⟩:=mz r1;cases ru;obtain⟨i1s,w1,p1,z1⟩:=I1.list hq;have hl:=w1.length;refine call_reversed_list p1.isList ?_;have sz:((i1s.toArray.size:Nat):Int)-1=(xs.length:Int)-1-((0:Nat):Int):=by simp only[aY];lia
 rw[sz];have st:(s1.heap.push (revObj l1 ((xs.length:Int)-1-((0:Nat):Int)))).IsRevIter s1.heap.objs.size l1 ((xs.length:Int)-1-((0:Nat):Int)):=⟨_,fQ _ rfl,rfl,rfl⟩;refine wpAny_pyIter_revIter (s:={s1 with heap:=s1.heap.push (revObj l1 ((xs.length:Int)-1-((0:Nat):Int)))}) st ?_;refine⟨s1.heap.objs.size,[s1.heap.objs.size],_,_,H1,rfl,I1.kept (t':=s1.toks) fun b o e=>fS _ e,Co l1 _ xs.length,st,fun b hb=>?_,q⟩;have e:b=s1.heap.objs.size:=by simpa using hb
 subst e;exact I1.fpOk (cW _) (I1.hok.fresh (cW _))
theorem AF:MtR X "dict.update" (fun x xs H Q=>∃d o kvs more,x= .ref d/\xs=[.ref o]/\d≠o/\H d=some (.dK kvs)/\H o=some (.dK more)/\kvs.length+more.length<=sizeLine/\Q .non (upd H d (.dK (jh kvs more)))):=by intro pz s σ H x xs v us Q I rx rs h;obtain⟨d,o,kvs,more,rfl,rfl,hne,hd,ho,hl,q⟩:=h;cases rx;obtain⟨u,rfl,ru⟩:=mz rs;cases ru;obtain⟨z1,s1,vs,rel,dd⟩:=vf I.hok hd;obtain⟨z2,s2,ws,rel2,dd2⟩:=vf I.hok ho;refine call_meetsIn eY dd.typeIs PySem.F.entry_dict_update (PySem.F.args_dict_update_2 _ _) (meets_dict_update (jg X.prog X.w) d o hne s2) ⟨vs,ws,dd,dd2,by rw[<-rel.length,<-rel2.length];exact hl,fun h' dd' _ sb=>?_⟩;have he:∃q,h'.get? d=some q:=let⟨q,_,_,hq,_⟩:=dd';⟨q,hq⟩;have hl':(jh kvs more).length<=sizeLine:=cQ (lR more kvs) hl;exact⟨.non,_,qK (t':=s.toks) I (by rw[hd];exact True.intro) sb he (qL hl' s1 (rel2.merge rel) dd'),rfl,q⟩
end
section
variable {X:Cx}
theorem IE {scope:Scope} {x y:Str} (ns:Zd) (cap:List (Str×Nat×Zx)) (hns:cap.map (·.1)=ns) (hk:scope.kind= .function) (hn:∀p∈scope.names,p.2≠ .cell/\(p.2= .free->p.1∈ns)) (hl:∀y∈scope.names,y.2= .local->scope.names.lookup y.1=some .local)
  (hx:scope.names.lookup x=some .local) (hnd:(x::y::ns).Nodup) (hc:closureFor scope X.env=pure (cap.map fun p=>(p.1,p.2.2))) (hok:X.env.scope.kind= .function)
  (h:∀p∈cap,scope.names.lookup p.1=some .free/\X.env.cells.lookup p.1=some p.2.2/\X.env.scope.names.lookup p.1=some .cell/\X.N[p.2.1]?=some p.1):
  oU X (x::y::ns) scope (cap.map fun p=>(p.1,p.2.2)) (fun σ=>none::none::cap.map fun p=>σ.getD p.2.1 none) 0 x where
 kind:=hk
 cell:=fun y hy=>(hn y hy).1
 names:=hl
 clos:=hc
 lk:=fun z c q=>by obtain⟨p,hp,e⟩:=bh.mp (PySem.mem_of_lookup q);cases e;exact(h p hp).2.1
 has:=fun z q=>by
  refine oX ?_;rw[hns];rcases q with q|q
  ·obtain⟨k0,e,q⟩:=hJ q;have m:=hn _ (PySem.mem_of_lookup e);rcases q with q|⟨q,_⟩;·exact absurd q.symm m.1
   ·exact m.2 q
  ·obtain⟨k0,e,q⟩:=hJ q;have m:=hn _ (PySem.mem_of_lookup e);rcases q with q|⟨q,_⟩;·exact m.2 q.symm
   ·exact m.2 q
 nd:=hnd
 ix:=rfl
 loc:=hx
 len:=fun _ _=>by simp[<-hns]
 val:=fun σ k z v h1 h2=>by
  match k with
  |0=>simp at h2
  |1=>simp at h2
  |k+ 2=>
   rw[<-hns,bJ,bJ,aO]at h1;rw[bJ,bJ,aO]at h2
   cases e:cap[k]? with
   |none=>rw[e]at h1;cases h1
   |some p=>
    rw[e]at h1 h2;have ez:p.1=z:=dE.inj h1;have ev:σ.getD p.2.1 none=some v:=dE.inj h2;subst ez;obtain⟨a1,a2,a3,a4⟩:=h p (aQ e);rw[bu]at ev;refine⟨p.2.1,a4,?_,a3,iZ hok a3 a1⟩
    cases q:σ[p.2.1]? with
    |none=>rw[q]at ev;cases ev
    |some o=>rw[q]at ev;exact congrArg some ev
end
section
variable {X:Cx} {pz:Za} {σ:St} {H:Hp} {s:Zy}
end
section
variable {prog:Zu} {w:Zv} {A:Zw} {R:Result->Zy->Prop} {I:Zx} {fp wr:List Zx} {n:Nat} {P:Nat->Zz->Prop} {St:Nat->Zt->Prop}
end
section
variable {prog:Zu} {w:Zv} {A:Zw} {E:Zb} {s:Zy} {l:Zx} {xs:Array (Int×Tok)}
end
section
variable {X:Cx}
end
section
variable {X:Cx}
end
theorem zt:typeLookup (.type "list_reverseiterator") "__len__"=pure none:=by rw[typeLookup_type,builtinLookup_eq_fast];kernel_rfl
theorem Cp:typeLookup (.type "list_reverseiterator") "__length_hint__"=pure (some (.builtin "list_reverseiterator.__length_hint__")):=by rw[typeLookup_type,builtinLookup_eq_fast];kernel_rfl
section
variable {prog:Zu} {w:Zv} {A:Zw} {s:Zy}
theorem Cq {E:Zb} {it l:Zx} {i:Int} {Q:Bool->Zy->Prop} (hit:s.heap.IsRevIter it l i) (h:Q false s):wpAny (model prog w) A (Builtin.List.listLengthHint (.ref it)) Q E s:=by unfold Builtin.List.listLengthHint;refine wpAny_bind (wpAny_specialOf hit.typeIs zt ?_);show wpAny _ _ (specialOf (Value.ref it) (Str.ofString "__length_hint__") >>= _) _ _ _;refine wpAny_bind (wpAny_specialOf hit.typeIs Cp ?_);generalize hid:("list_reverseiterator.__length_hint__":String)=idr;wp_delta;rw[show splitId idr=some ("list_reverseiterator","__length_hint__")from by subst hid;decide+kernel];subst hid;refine wpAny_bind (wpAny_isInstance (T:="list_reverseiterator") (b:=true) hit.typeIs (by rw[isSubtype_type];kernel_rfl) ?_);refine wpAny_ite_split (fun hz=>absurd hz (by decide)) (fun _=>?_);refine wpAny_ite_split (fun _=>?_) (fun hz=>absurd iq hz);exact wpAny_ite_split (fun hz=>absurd hz (by decide)) (fun _=>wpAny_pure h)
theorem zu {R:Result->Zy->Prop} {it l:Zx} {items:Array Zz} (hh:A.handled=none) (hit:s.heap.IsRevIter it l ((items.size:Int)-1)) (hl:s.heap.IsList l items) (hne:l≠it) (hz:items.size<=sizeLine) (D:Zx) (res:Zz) (c0:Nat)
  (hD:s.heap.get? D=some {cls:= .type "list",data:= .seq #[] c0}) (hDi:D≠it) (hDl:D≠l)
  (hR:∀h2 tk acc c2,(∀b o,b≠D->b≠it->s.heap.get? b=some o->h2.get? b=some o)->h2.get? D=some {cls:= .type "list",dict:=none,data:= .seq acc c2,slots:=#[]}->
   ItemsOf (fun i v=>items[items.size-1-i]?=some v) acc items.size->R (.ok (.ret res)) {s with heap:=h2,toks:=tk}):
  wpAny (model prog w) A.in1 (Builtin.List.listExtendWith (.ref D) (.ref it) res)
   (fun fin s'=>match fin with| .done f=>R (.ok f) s'| .again c'=>c'.quiet=true/\codeAny (model prog w) A c' R s') (fun e s'=>R (.error e) s') s:=by
 have W:=(Walks.listRev (prog:=prog) (w:=w) (A:=A.in1) hh it l hne items).toS;unfold Builtin.List.listExtendWith;refine wpAny_bind (wpAny_typeOf hit.typeIs ?_);have h1:Builtin.List.listSameRef (.ref D) (.ref it)=false:=by simp[Builtin.List.listSameRef,hDi]
 have h2:(Value.type "list_reverseiterator"==Value.type "list")=false:=by decide
 have h3:(Value.type "list_reverseiterator"==Value.type "tuple")=false:=by decide
 simp only[h1,h2,h3,Bool.or_false,Bool.false_eq_true,if_false];refine wpAny_bind (wpAny_pyIter_revIter hit ?_);refine wpAny_bind (wpAny_holding (Cq hit ?_));refine wpAny_ite_split (fun hz=>absurd hz (by decide)) (fun _=>?_);refine wpAny_pure ⟨plainId_quiet F.plain_extend_loop _,codeAny_extend_loopS W hz D (fun hm=>?_) res items.size 0 _ #[] c0 rfl (cX _) ⟨cX _,by simpa using hit,hl⟩ hD (ItemsOf.nil _) fun s' acc c2 hm hS hacc=>?_⟩
 ·rcases ak.mp hm with e|hm;·exact hDi e
  ·exact hDl (bo.mp hm)
 ·rw[Moved.eq_with hm];refine hR s'.heap s'.toks acc c2 (fun b o hb hb2 e=>hm.heap b o (fun hmem=>?_) e) hS hacc;rcases ak.mp hmem with e'|hmem;·exact hb e'
  ·exact hb2 (bo.mp hmem)
theorem tM {E:Zb} {Q:Zb} {it l:Zx} {items:Array Zz} (hh:A.handled=none) (hit:s.heap.IsRevIter it l ((items.size:Int)-1)) (hl:s.heap.IsList l items) (hne:l≠it) (hz:items.size<=sizeLine)
  (hQ:∀h2 tk acc c2,(∀b o,b≠it->s.heap.get? b=some o->h2.get? b=some o)->h2.get? s.heap.objs.size=some {cls:= .type "list",dict:=none,data:= .seq acc c2,slots:=#[]}->
   ItemsOf (fun i v=>items[items.size-1-i]?=some v) acc items.size->Q (.ref s.heap.objs.size) {s with heap:=h2,toks:=tk}):
  wpAny (model prog w) A (call (.type "list") [.ref it]) Q E s:=by
 have hi:it<s.heap.objs.size:=by obtain⟨o,e,_⟩:=hit;exact fO e
 have hll:l<s.heap.objs.size:=by obtain⟨o,e,_⟩:=hl;exact fO e
 refine callType_codes (Q₁:=fun obj s₁=>obj= .ref s.heap.objs.size/\s₁={s with heap:=s.heap.push {cls:= .type "list",data:= .seq #[]}}) F.called_list (F.typeCall_list_1 _) F.entry_list_init (code_list_new _ ⟨rfl,rfl⟩) fun obj s1 h1=>?_;obtain⟨rfl,rfl⟩:=h1;have hS:(s.heap.push {cls:= .type "list",data:= .seq #[]}).get? s.heap.objs.size=some {cls:= .type "list",data:= .seq #[]}:=fQ _ rfl;have hit1:(s.heap.push {cls:= .type "list",data:= .seq #[]}).IsRevIter it l ((items.size:Int)-1):=hit.at fun o e=>fS _ e;have hl1:(s.heap.push {cls:= .type "list",data:= .seq #[]}).IsList l items:=hl.push _;refine⟨⟨_,hS,rfl⟩,F.args_list_init_2 _ _,?_⟩;show wpAny _ A.in1.in1 (do let old<-Builtin.List.listItems (.ref s.heap.objs.size);Builtin.List.listUpdate (.ref s.heap.objs.size) (fun _=>#[]);letGo old.toList.reverse;Builtin.List.listExtendWith (.ref s.heap.objs.size) (.ref it) .none) _ _ _;refine wpAny_bind ?_;unfold Builtin.List.listItems;refine wpAny_bind (wpAny_seqItems hS rfl (wpAny_pure ?_));show wpAny _ A.in1.in1 (updateSeq s.heap.objs.size (fun _=>#[]) >>= fun _=>letGo (#[]:Array Zz).toList.reverse >>= fun _=>Builtin.List.listExtendWith (.ref s.heap.objs.size) (.ref it) .none) _ _ _;refine wpAny_bind (wpAny_updateSeq hS rfl ?_);have hS2:=fV (Obj.mapSeq (fun _=>(#[]:Array Zz))) hS rfl;refine wpAny_bind (wpAny_letGo ?_);have ni:s.heap.objs.size≠it:=cU hi;have nl:s.heap.objs.size≠l:=cU hll;refine zu (A:=A.in1) hh (hit1.at fun o e=>(fW _ _ ni).trans e) (hl1.at fun o e=>(fW _ _ nl).trans e) hne hz _ .none _ hS2 ni nl fun h2 tk acc c2 hk hD hacc=>?_;exact⟨rfl,hQ h2 tk acc c2 (fun b o hb e=>hk b o (cP (fO e)) hb ((fW _ _ (cU (fO e))).trans (fS _ e))) hD hacc⟩
end
section
variable {X:Cx}
def tLR (K:Zp) (ta:TA):TE:=fun σ H Q=>ta σ H fun vs H1=>∃a xs,vs=[.ref a]/\SqL K H1 a xs/\∀l,H1 l=none->Q (.ref l) (upd H1 l (.lst xs.reverse))
theorem zw {a:Zr} {ta:TA} {p pos p2 pos2:Pos} (hc:X.calm=true) (hg:Gl X "list") (hm:X.mg "list"=none) (hg2:Gl X "reversed") (hm2:X.mg "reversed"=none) (ha:PA X [a] ta)
  (hs:autoParam (starEach [a] X.env=[(false,eval a X.env)]) auR._auto_1) (hs2:autoParam (starEach [.Call (.Name "reversed" p2) [a] [] pos2] X.env=[(false,eval (.Call (.Name "reversed" p2) [a] [] pos2) X.env)]) auR._auto_1):
  PE X (.Call (.Name "list" p) [.Call (.Name "reversed" p2) [a] [] pos2] [] pos) (tLR X.K ta):=by
 intro pz s σ H Q I h;refine wpAny_Call_Name_kw (nA I hg hm Ao ?_ (by decide) (by decide));refine fX ?_ hs2 rfl;rw[hs2];refine Calls.spliced_cons ?_;refine Call_ (nA I hg2 hm2 qR (fX (thn (ha pos2 pz s σ H _ I h) ?_) hs rfl));rintro us s1 ⟨vs,H1,I1,r1,q1⟩;obtain⟨l1,xs,e,hq,q⟩:=q1;subst e;obtain⟨u,rfl,ru⟩:=mz r1;cases ru;obtain⟨i1s,w1,p1,z1⟩:=I1.list hq;have hlen:=w1.length;refine call_reversed_list p1.isList ?_;refine Calls.spliced_nil ?_;have st:(s1.heap.push (revObj l1 ((i1s.toArray.size:Int)-1))).IsRevIter s1.heap.objs.size l1 ((i1s.toArray.size:Int)-1):=⟨_,fQ _ rfl,rfl,rfl⟩;have hlt:l1<s1.heap.objs.size:=by obtain⟨o,e,_⟩:=p1.isList;exact fO e
 refine tM (I1.ok.hd hc) st (p1.isList.push _) (cP hlt) (by rw[aY];lia) fun h2 tk acc c2 hk hD hacc=>?_;have kp:∀b o,s1.heap.get? b=some o->h2.get? b=some o:=fun b o e=>hk b o (cP (fO e)) (fS _ e);have sz:(s1.heap.push (revObj l1 ((i1s.toArray.size:Int)-1))).objs.size=s1.heap.objs.size+ 1:=fU ..;have hv:iU xs.reverse acc.toList:=by
  have e2:acc.toList=i1s.reverse:=by
   refine List.ext_getElem? fun j=>?_;by_cases hj:j<acc.size
   ·have h3:=hacc.2 j acc[j] (fF hj);have hs3:acc.size=i1s.length:=by have h9:=hacc.1;simpa using h9
    rw[aY]at h3;rw[List.getElem?_reverse (show j<i1s.length by lia)];rw[fE,fF hj,<-h3];simp
   ·have h4:acc.size=i1s.length:=by have h9:=hacc.1;simpa using h9
    rw[bM (by simpa using hj),bM (by rw[bN];lia)]
  rw[e2];exact w1.reverse
 refine⟨.ref (s1.heap.objs.size+ 1),_,?_,by rw[sz];rfl,q (s1.heap.objs.size+ 1) (I1.hok.fresh (cZ _))⟩;refine I1.laid (a:=s1.heap.objs.size+ 1) (t':=tk) kp (cZ _) ⟨by rw[bN];exact z1,acc.toList,c2,hv,?_⟩;rw[<-sz];simpa using hD
end
end L2.Internal
namespace L2.Internal
open PySem PySem.Spec PyProof.Rows PySem.W
section
variable {prog:Zu} {w:Zv} {A:Zw} {E:Zb} {s:Zy}
end
section
variable {X:Cx}
end
section
variable {fs ex:List Zx} {H H':Hp} {h h':Zt}
end
section
variable {X:Cx} {pz:Za} {σ:St} {H H':Hp} {s:Zy} {h':Zt}
end
section
variable {X:Cx}
end
end L2.Internal
namespace L2.Internal
open PySem PySem.Spec PyProof.Rows
mutual
def nlD:Dt->Bool
 | .flat _=>true
 | .tup l=>Di l
 | .lst _=>false
def Di:List Dt->Bool
 |[]=>true
 |x::xs=>nlD x&&Di xs
end
theorem tN:∀{l:List Dt} {j:Nat} {a:Dt},Di l=true->l[j]?=some a->nlD a=true
 |x::xs,0,a,h,e=>by cases e;rw[Di,fz]at h;exact h.1
 |x::xs,j+ 1,a,h,e=>by rw[Di,fz]at h;exact tN h.2 e
 |[],j,a,_,e=>by simp at e
section
variable {X:Cx} {pz:Za} {σ:St} {H:Hp} {s:Zy}
mutual
theorem AG (I:Inv X pz σ H s):∀{x:V} {d e:Dt},At X.K H x d->At X.K H x e->nlD d=true->nlD e=true->eqD d e=true
 |_,_,_,.flat h,.flat _,_,_=>by rw[eqD];exact vw h
 |_,_,_,.tup h hs,.tup h' hs',n,n'=>by have e:=I.tuple_inj h h';subst e;rw[nlD]at n n';rw[eqD];exact yh I hs hs' n n'
 |_,_,_,.flat h,.tup _ _,_,_=>absurd h fu
 |_,_,_,.tup _ _,.flat h,_,_=>absurd h fu
 |_,_,_,.lst _ _,_,n,_=>by rw[nlD]at n;cases n
 |_,_,_,_,.lst _ _,_,n=>by rw[nlD]at n;cases n
theorem yh (I:Inv X pz σ H s):∀{xs:List V} {l m:List Dt},Ats X.K H xs l->Ats X.K H xs m->Di l=true->Di m=true->uT l m=true
 |_,_,_,.nil,.nil,_,_=>by rw[uT]
 |_,_,_,.cons h t,.cons h' t',n,n'=>by rw[Di,fz]at n n';rw[uT,AG I h h' n.1 n'.1,yh I t t' n.2 n'.2];rfl
end
theorem nJ {A:Zw} (I:Inv X pz σ H s) {x:V} {u:Zz} {b:Zx} {ys:List V} (r:iQ x u) (hx:qe x=true) (h:SqT X.K H b ys) (hu:A.units<cLine):SeqAt.EqAt A s u (.ref b) false/\SeqAt.EqAt A s (.ref b) u false:=by
 obtain⟨its,_,pl,_⟩:=I.tuple h
 cases x with
 |non=>cases r;exact⟨.none_tuple pl hu,.tuple_none pl hu⟩
 |bl k=>cases r;exact⟨.bool_tuple _ pl hu,.tuple_bool _ pl hu⟩
 |int i=>obtain⟨t,rfl⟩:=r;exact⟨.int_tuple _ _ pl hu,.tuple_int _ _ pl hu⟩
 |str z=>obtain⟨t,rfl⟩:=r;exact⟨.str_tuple _ _ pl hu,.tuple_str _ _ pl hu⟩
 |_=>cases hx
theorem GH (I:Inv X pz σ H s):∀(n:Nat) (A:Zw) {x y:V} {u v:Zz} {d e:Dt},iQ x u->iQ y v->At X.K H x d->At X.K H y e->nlD d=true->nlD e=true->qt d<=n->A.units+n<cLine->SeqAt.EqAt A s u v (eqD d e):=by
 intro n
 induction n with
 |zero=>
  intro A x y u v d e rx ry hx hy n1 n2 hd hu
  cases hx with
  |flat h=>
   cases hy with
   |flat h'=>rw[eqD];exact vm rx ry h h'
   |tup h' _=>cases ry;simp only[eqD];exact(nJ I rx h h' (by lia)).1
   |lst _ _=>rw[nlD]at n2;cases n2
  |tup _ _=>rw[qt]at hd;lia
  |lst _ _=>rw[qt]at hd;lia
 |succ n ih=>
  intro A x y u v d e rx ry hx hy n1 n2 hd hu
  cases hx with
  |flat h=>
   cases hy with
   |flat h'=>rw[eqD];exact vm rx ry h h'
   |tup h' _=>cases ry;simp only[eqD];exact(nJ I rx h h' (by lia)).1
   |lst _ _=>rw[nlD]at n2;cases n2
  |lst _ _=>rw[nlD]at n1;cases n1
  |@tup a xs ds h hs=>
   cases hy with
   |flat h'=>cases rx;simp only[eqD];exact(nJ I ry h' h (by lia)).2
   |lst _ _=>rw[nlD]at n2;cases n2
   |@tup b ys es h' hs'=>
    cases rx;cases ry;by_cases hab:a=b;·subst hab;rw[AG I (.tup h hs) (.tup h' hs') n1 n2];exact SeqAt.EqAt.same _
    ·rw[qt]at hd;rw[nlD]at n1 n2;refine SeqAt.EqAt.of_refs hab (Aq I h hs h' hs' (by lia) fun j d1 d2 x y u v f1 f2 q1 q2 p1 p2=>?_).1;exact ih A.in1 q1 q2 p1 p2 (tN n1 f1) (tN n2 f2) (cQ (depDs_get f1) (by lia)) (by show A.units+ 1+n<cLine;lia)
end
section
variable {X:Cx}
end
section
open PySem.SeqAt
open PySem.AutoSeq1 (wpAny_loadPart')
open PySem.MeetsSeq PySem.MeetsSeq2 PySem.MeetsSeq3
end
section
variable {X:Cx}
end
section
variable {X:Cx}
end
section
variable {X:Cx}
end
theorem sG:∀{ys:Zd} {its:List Zz},iU (ys.map V.str) its->∃l:List (Str×Tok),its=strValues l/\l.map (·.1)=ys
 |[],its,h=>by
  cases its with
  |nil=>exact⟨[],rfl,rfl⟩
  |cons a b=>exact absurd h.length (by simp)
 |y::ys,its,h=>by
  cases its with
  |nil=>exact absurd h.length (by simp)
  |cons u its=>
   obtain⟨t,rfl⟩:∃t,u= .str y t:=by obtain⟨v,hv,r⟩:=h.get (i:=0) (show((y::ys).map V.str)[0]?=some (.str y)from rfl);cases hv;exact r
   obtain⟨l,e1,e2⟩:=sG (ys:=ys) (its:=its) (by
    cases h with
    |cons _ h=>exact h);exact⟨(y,t)::l,by rw[e1];rfl,by rw[aC,e2]⟩
section
variable {X:Cx}
def IF (K:Zp):V->List V->Hp->VK->Prop:=fun x xs H Q=>∃(z:Str) (a:Zx) (ys:Zd),x= .str z/\xs=[.ref a]/\SqL K H a (ys.map V.str)/\(ys.map (·.length)).sum+ys.length*z.length<=sizeLine/\Q (.str (Str.join z ys)) H
theorem AH:MtR X "str.join" (IF X.K):=by
 intro pz s σ H x xs v us Q I rx rs h;obtain⟨z,a,ys,rfl,rfl,hq,hz,q⟩:=h;obtain⟨t,rfl⟩:=rx;obtain⟨u,rfl,ru⟩:=mz rs;cases ru;obtain⟨its,rv,p,_⟩:=I.list hq;obtain⟨l,e1,e2⟩:=sG rv;have hl:=p.isList;rw[e1]at hl;refine SC.join hl e2 ?_ fun t' k=>?_
 ·unfold JoinOk;rw[StrLaws.joinTotal];have:¬(ys.map (·.length)).sum+ys.length*z.length>sizeLine:=by lia
  show(!Builtin.Str.tooLong _)=true;unfold Builtin.Str.tooLong;rw[ik this];rfl
 ·have e:Txt.join z ys=Str.join z ys:=StrLaws.glued_eq_join z ys;rw[e];exact⟨.str _,H,I.tok k,⟨_,rfl⟩,q⟩
end
section
variable {X:Cx}
end
section
variable {X:Cx}
end
section
variable {prog:Zu} {w:Zv} {A:Zw} {E:Zb} {h:Zt} {g:Array GenState} {d:Drawn} {t:Nat} {os:OsState} {a D:Zx} {o:Obj} {K:Zp}
structure JN (K:Zp) (D:Zx):Prop where
 ga:dQ K (.ref D) "__getattribute__"=some (some (.builtin "BaseException.__getattribute__"))
 gn:dQ K (.ref D) "__getattr__"=some none
 cl:dQ K (.ref D) "__class__"=some (some (.builtin "object.__class__"))
 sb:eO K (.ref D) (.type "BaseException")=some true
 so:eO K (.ref D) (.type "object")=some true
 is:dP K D=true
end
section
variable {X:Cx}
end
open Sem (wp)
def DK (h h':Zt):Prop:=∀b o,h.get? b=some o->∃o',h'.get? b=some o'/\o'.dict=o.dict/\o'.cls=o.cls
theorem DK.trans {h h1 h2:Zt} (a:DK h h1) (b:DK h1 h2):DK h h2:=fun x o e=>by obtain⟨o1,e1,d1,c1⟩:=a x o e;obtain⟨o2,e2,d2,c2⟩:=b x o1 e1;exact⟨o2,e2,d2.trans d1,c2.trans c1⟩
section
variable {prog:Zu} {w:Zv} {A:Zw} {E:Zb} {h:Zt} {g:Array GenState} {d:Drawn} {t:Nat} {os:OsState} {a D dx:Zx} {o:Obj} {K:Zp} {name:Str} {v:Zz} {mA:Zc}
end
open Builtin Builtin.ObjectAttr
section
variable {prog:Zu} {w:Zv} {A:Zw} {E:Zb} {h:Zt} {g:Array GenState} {d:Drawn} {t:Nat} {os:OsState} {a D dx:Zx} {o:Obj} {K:Zp} {name:Str} {v:Zz} {mA:Zc} {cd:ClassData} {vs:Array Zz}
structure JO (K:Zp) (D:Zx):Prop where
 xc:JN K D
 sa:dQ K (.ref D) "__setattr__"=some (some (.builtin "object.__setattr__"))
 mro:∃cd,PySem.W.clsIn K D=some cd/\cd.hasDict=true/\∀self,refuseLoop self "__setattr__" cd.mro=pure ()
end
section
variable {prog:Zu} {w:Zv} {A:Zw} {E:Zb} {h:Zt} {g:Array GenState} {d:Drawn} {t:Nat} {os:OsState}
variable {nm q:Str} {C N:Zx} {bs bm bmB:List Zz} {hdct:Bool} {sn:Zd} {sub:List Zz} {ab:Bool} {col:Option Bool} {dd:Option Zx} {k0 k1 k2 k3 k5:Option Zz} {B newId initId:String}
end
section
variable {prog:Zu} {w:Zv} {A:Zw} {E:Zb} {s:Zy} {env:Env}
variable {nm q:Str} {C N:Zx} {bs bm bmB:List Zz} {hdct:Bool} {sn:Zd} {sub:List Zz} {ab:Bool} {col:Option Bool} {dd:Option Zx} {k0 k1 k2 k3 k5:Option Zz} {B newId initId:String}
end
section
variable {P:Zu} {w:Zv} {H:Hp} {h:Zt} {a C dx:Zx}
end
section
variable {X:Cx} {pz:Za} {σ:St} {H:Hp} {s:Zy} {A:Zw} {E:Zb} {a C dx:Zx} {f:Str} {fs:List (Str×V)}
end
section
variable {X:Cx} {o value e:Zr} {ta tv:TE} {f:Str} {pos pos':Pos}
end
section
variable {P:Zu} {w:Zv} {K:Zp} {mg:Zc} {base:Zt} {N:Zd} {qual:Str} {scope:Scope} {f:Zx} {cd:Zz} {A:Zw} {outer:List Env} {s₀:Zy} {H₀:Hp} {E:XK}
end
structure JP (K:Zp) (C fI:Zx):Prop where
 at_:∃bm N nm q bs hdct sn sub ab col dd k0 k1 k2 k3 k5,K.lookup C=some (excClassObj nm q C N bs bm hdct sn sub ab col dd k0 k1 k2 k3 k5 "ValueError.__new__")/\eP K N=true/\eQ K N "__init__"=some (some (.ref fI))/\eR K Es bm=true
 fn:∃oI,K.lookup fI=some oI/\oI.cls= .type "function"
section
variable {X:Cx} {C fI:Zx} {E:XK} {x:Str} {np cpos pos:Pos} {e:Zr} {es:List Zr} {t:TA} {k:Nat} {fd:Zs} {ps:Zd} {sp:Sp}
end
section
variable {X:Cx} {Y:Zx} {y n:Str} {py hpos:Pos} {b₀:Zq} {body:List Zq} {tb:TS} {i:Nat}
variable {k j:Nat} {f:Zx} {fd:Zs} {ps:Zd} {sp:Sp} {dvs:List V} {ds:List Zz} {x v:Str} {p pv pos pos' tpos:Pos} {e:Zr} {es:List Zr} {t:TA}
end
open Builtin Builtin.ObjectAttr
theorem qS {K:Zp} (self:Zz):∀{l:List Zz},eR K Es l=true->refuseLoop self "__setattr__" l=pure ()
 |[],z=>by cases(beq_iff_eq.mp z:Es=[])
 |v::r,z=>by
  unfold eR at z;rcases Bool.or_eq_true_iff.mp z with q|q;·rw[beq_iff_eq.mp q];exact PySem.F.store_ValueError.passes self
  ·split at q
   ·rename_i A;rw[refuseLoop_ref];split at q;·rename_i c d cd sl lk;rw[fz]at q;exact qS self q.2
    ·cases q
   ·cases q
section
variable {K:Zp} {C fI N:Zx} {nm q:Str} {bs bm:List Zz} {sn:Zd} {sub:List Zz} {ab:Bool} {col:Option Bool} {dd:Option Zx} {k0 k1 k2 k3 k5:Option Zz} {oI:Obj}
theorem GI (lk:K.lookup C=some (excClassObj nm q C N bs bm true sn sub ab col dd k0 k1 k2 k3 k5 "ValueError.__new__")) (tl:eR K Es bm=true) (xc:JN K C) (sa:dQ K (.ref C) "__setattr__"=some (some (.builtin "object.__setattr__"))):JO K C:=by refine⟨xc,sa,_,by unfold PySem.W.clsIn;rw[lk],rfl,fun self=>?_⟩;show refuseLoop self "__setattr__" (.ref C::bm)=pure ();rw[refuseLoop_ref];exact qS self tl
theorem GJ (lk:K.lookup C=some (excClassObj nm q C N bs bm true sn sub ab col dd k0 k1 k2 k3 k5 "ValueError.__new__")) (no:eP K N=true) (ni:eQ K N "__init__"=some (some (.ref fI))) (tl:eR K Es bm=true) (lI:K.lookup fI=some oI) (cI:oI.cls= .type "function"):JP K C fI:=
 ⟨⟨bm,N,nm,q,bs,true,sn,sub,ab,col,dd,k0,k1,k2,k3,k5,lk,no,ni,tl⟩,⟨oI,lI,cI⟩⟩
end
section
variable {P:Zu} {w:Zv} {K:Zp} {mg:Zc} {base:Zt}
end
section
variable {prog:Zu} {w:Zv} {A:Zw} {E:Zb} {s:Zy}
end
section
variable {X:Cx}
end
section
variable {X:Cx}
end
section
variable {P:Zu} {w:Zv} {K:Zp} {mg:Zc} {base:Zt} {N:Zd} {qual:Str} {scope:Scope} {f:Zx} {cd:Zz} {A:Zw} {outer:List Env} {s₀:Zy} {H₀:Hp} {E:XK}
end
section
variable {X:Cx} {i:Nat} {Y:Zx} {y n:Str} {py hpos:Pos} {b₀:Zq} {body:List Zq} {tb:TS}
variable {k:Nat} {f:Zx} {fd:Zs} {ps:Zd} {sp:Sp} {dvs:List V} {ds:List Zz} {x:Str} {p pos pos' tpos:Pos} {e:Zr} {es:List Zr} {t:TA}
end
section
variable {X:Cx}
end
section
variable {X:Cx} {CX:CXT} {k:Nat} {E:XK} {c e:Zr} {es:List Zr} {tc:TE} {t:TA} {pos:Pos} {S:Zx->Sp->Prop}
def JQ (X:Cx) (CX:CXT) (k:Nat) (f:Zx) (sp:Sp):Prop:=∃fd ps,sA X.prog X.w X.K X.mg X.base CX k f fd ps sp/\eA X.K (.ref f)=true/\oR X.K fd ps []
def GK (S:Zx->Sp->Prop) (E:XK) (tc:TE) (t:TA):TE:=fun σ H Q=>tc σ H fun x H1=>∃f sp,x= .ref f/\S f sp/\t σ H1 fun vs H2=>sp vs H2 Q E
theorem Cr (hS:∀f sp,S f sp->JQ X CX k f sp) (hr:mZ k X.A) (hx:pR CX X E) (hc:PE X c tc) (ha:PA X (e::es) t)
  (hq:autoParam (eval (.Call c (e::es) [] pos) X.env=(do callWith pos (<-eval c X.env) [] (backTo pos (starEach (e::es) X.env)) (backToKw pos (keywordEach [] X.env)))) auR._auto_1)
  (he:autoParam (starEach (e::es) X.env=(false,eval e X.env)::starEach es X.env) auR._auto_1) (hpl:autoParam ((backTo pos (starEach es X.env)).any (·.1)=false) auR._auto_1):
  PE X (.Call c (e::es) [] pos) (GK S E tc t):=by intro pz s σ H Q I h;rw[hq];refine wpAny_bind (thn (hc pz s σ H _ I h) ?_);rintro u s1 ⟨v,H1,I1,r1,f,sp,rfl,hs,q1⟩;obtain rfl:u=Value.ref f:=r1;obtain⟨fd,ps,F,hk,hb⟩:=hS f sp hs;refine eG (h₀:=X.base) I1.ok.mod.kin hk (thn (ha pos pz s1 σ H1 _ I1 q1) fun us s2 ⟨vs,H2,I2,r,q⟩=>⟨I2.kIn,?_⟩) he hpl;exact xV F hr hb .nil hx I2 r (by rw[aE];exact q)
end
end L2.Internal
namespace HT.Internal
open PySem PySem.Spec PyProof.Rows L2.Internal
section
variable {prog:Zu} {w:Zv} {A:Zw} {E:Zb} {s:Zy}
end
end HT.Internal
namespace L2.Internal
open PySem PySem.Spec PyProof.Rows
section
variable {X:Cx}
end
theorem Ct {X:Cx} {elt iter:Zr} {es:List Zr} {kk:Nat} {tp:Pos} {x:Str} {scope:Scope} {pos pos':Pos} {N:Zd} {cl:List (Str×Zx)} {f:St->St} {i:Nat} {wi:TI} {g:TG} {te:TE} {use:Option (Zz->Sem Unit)} {Qp:Zb}
  {pz:Za} {s:Zy} {σ:St} {H:Hp} {Q:VK}
  (hc:X.calm=true) (B:oU X N scope cl f i x) (hi:PI X (.Tuple es kk tp) iter wi)
  (hg:∀C s₀ H₀ ex pz,PG (blk X N scope cl C s₀ H₀ ex pz) (.Tuple es kk tp) g) (hte:∀C s₀ H₀ ex pz,PE (blk X N scope cl C s₀ H₀ ex pz) elt te)
  (hs:∀x,foldedSetIterable iter X.env x=pure x) (I:Inv X pz σ H s) (h:tLG wi f g te σ H Q)
  (fin:∀(fl:Flow) (s3 s6:Zy) (H3 H5:Hp) (d:Zx) (m:Zc),Inv X pz σ H3 s3->Inv X pz σ H5 s6->H5 s3.heap.objs.size=none->s6.heap.Ns s3.heap.objs.size m->Q (.ref d) H5->
   compPost (model X.prog X.w) X.A X.xe use Qp (.ref d) s3.heap.objs.size (.ok fl) s6):
  wpAny (model X.prog X.w) X.A (comprehension (.ListComp elt [⟨.Tuple es kk tp,iter,[],0⟩] scope pos) scope X.env pos' (newList []) false (eval iter X.env) use) Qp X.xe s:=by
 refine wpAny_comprehension_free (use:=use) rfl hs B.clos B.kind B.names (thn (hi pz s σ H _ I h) fun xv s1 h1=>thn h1 fun itv s2 h2=>?_);obtain⟨it,fp,tn,J,H2,rfl,I2,T,st2,f2,q⟩:=h2;have hD:H2 s2.heap.objs.size=none:=I2.fresh;obtain⟨W,⟨m0,w0⟩,turn⟩:=q _ hD;refine wpAny_newObj_type (wpAny_newFunctionEnv B.cell (by intro y hy;simp at hy) (fun h₁ hns₁ hsb₁=>?_) B.kind);have I3:Inv X pz σ (upd H2 s2.heap.objs.size (.lst [])) {s2 with heap:=s2.heap.push {cls:= .type "list",data:= .seq ([]:List Zz).toArray}}:=I2.lnew (its:=[]) (ys:=[]) (t':=s2.toks) .nil (cX _);have lt2:∀b∈fp,b<s2.heap.objs.size:=fun b hb=>by obtain⟨o,ho,_⟩:=T.obj _ _ st2 b hb;exact fO ho
 have fp3:∀b∈fp,uS X pz (upd H2 s2.heap.objs.size (.lst [])) b:=fun b hb=>by refine⟨?_,(f2 b hb).2⟩;rw[gx (cP (lt2 b hb))];exact(f2 b hb).1
 generalize hs3:({s2 with heap:=s2.heap.push {cls:= .type "list",data:= .seq ([]:List Zz).toArray}}:Zy)=s3 at I3 hns₁ hsb₁⊢;have eh:s2.heap.push {cls:= .type "list",data:= .seq ([]:List Zz).toArray}=s3.heap:=by rw[<-hs3]
 have lt3:∀b∈fp,b<s3.heap.objs.size:=fun b hb=>by rw[<-eh,fU];exact c7 (lt2 b hb)
 have old:∀b o,s3.heap.get? b=some o->h₁.get? b=some o:=fun b o e=>hsb₁.extBut b o (cP (fO e)) (fS _ e);have I4:=wJ (tk:=s3.toks+([]:List (Str×Zz)).length) B I3 (ex:=fp) (fun b hb=>⟨fp3 b hb,lt3 b hb⟩) old hns₁;have st4:tn 0 h₁:=T.keep _ _ _ st2 fun b _ o e=>old b o (by rw[<-eh];exact fS _ e);have fpB:∀{H':Hp},(∀b∈fp,H' b=none)->∀b∈fp,uS (blk X N scope cl s3.heap.objs.size s3 (upd H2 s2.heap.objs.size (.lst [])) fp pz) [] H' b:=fun{H'} hn b hb=>by obtain⟨_,g2,g3,g4,g5,g6⟩:=f2 b hb;refine⟨hn b hb,cP (lt3 b hb),fun z=>(ak.mp (I3.stkSub b z)).elim g2 g3,.inl hb,fun y c e=>g5 y c (B.lk y c e),fun p hp=>?_⟩;rw[aE]at hp;exact g6 p hp
 have loop:∀s4:Zy,s4={s3 with heap:=h₁,toks:=s3.toks+([]:List (Str×Zz)).length}->
   codeAny (model X.prog X.w) X.A (.compLoop (.ListComp elt [⟨.Tuple es kk tp,iter,[],0⟩] scope pos) 0 (.ref it) (.ref s2.heap.objs.size) (compEnvC scope cl s3.heap.objs.size X.env))
    (compPost (model X.prog X.w) X.A X.xe use Qp (.ref s2.heap.objs.size) s3.heap.objs.size) s4:=by
  rintro s4 rfl;refine PyProof.Rows.LCp.codeAny_compLoop_pair (I:=fun n s'=>∃k σ' H',Inv (blk X N scope cl s3.heap.objs.size s3 (upd H2 s2.heap.objs.size (.lst [])) fp pz) [] σ' H' s'/\tn k s'.heap/\(∀b∈fp,H' b=none)/\W k n σ' H') ?_ m0
   ⟨0,f σ,_,I4,st4,fun b hb=>(fp3 b hb).1,w0⟩;rintro n s5 ⟨k,σ5,H5,I5,st5,fr5,w5⟩;rcases turn k n σ5 H5 w5 with⟨stop,qn⟩|⟨go,step⟩
  ·refine wpAny_mono (T.done (blk X N scope cl s3.heap.objs.size s3 (upd H2 s2.heap.objs.size (.lst [])) fp pz) rfl rfl rfl hc k [] s5 σ5 H5 _ I5 (fpB fr5) st5 stop) (fun r s6 h6=>?_) fun _ _ z=>z;obtain⟨hr,I6⟩:=h6;subst hr;obtain⟨m6,hn6,_⟩:=id I6.loc;have I7:Inv X pz σ H5 s6:=I3.call' (s':=s6) (ch:=fp) I6.os I6.base I6.hok I6.bare fun b hb=>by obtain⟨_,g2,g3,g4,g5,g6⟩:=f2 b hb;exact⟨g4,g2,g5,g6⟩
   exact fin _ s3 s6 _ H5 _ m6 I3 I7 I6.free hn6 qn
  ·refine wpAny_mono (T.item (blk X N scope cl s3.heap.objs.size s3 (upd H2 s2.heap.objs.size (.lst [])) fp pz) rfl rfl rfl hc k [] s5 σ5 H5 _ I5 (fpB fr5) st5 go) (fun r s6 h6=>?_) fun _ _ z=>z;obtain⟨u,hr,h6⟩:=h6;subst hr;refine wpAny_mono h6 (fun _ s7 h7=>?_) fun _ _ z=>z;obtain⟨v,H7,I7,r7,y7,st7,fr7⟩:=h7;have I7':=I7.pinned (fpB fr7) (T.obj _ _ st7);have back:∀{σ9:St} {H9:Hp} {s9:Zy},Inv (blk X N scope cl s3.heap.objs.size s3 (upd H2 s2.heap.objs.size (.lst [])) fp pz) ([]++qG fp s7.heap) σ9 H9 s9->(∃m',m'<n/\W (k+ 1) m' σ9 H9)->
     ∃m',m'<n/\∃k σ' H',Inv (blk X N scope cl s3.heap.objs.size s3 (upd H2 s2.heap.objs.size (.lst [])) fp pz) [] σ' H' s9/\tn k s9.heap/\(∀b∈fp,H' b=none)/\W k m' σ' H':=fun{σ9 H9 s9} I9 q9=>by obtain⟨m',hm,w9⟩:=q9;refine⟨m',hm,k+ 1,σ9,H9,I9.unpinned,T.keep _ _ _ st7 fun b hb o e=>(I9.pin (b,o) (az _ (az _ (jI hb e)))).1,fun b hb=>?_,w9⟩;obtain⟨o,e,d⟩:=T.obj _ _ st7 b hb;exact(I9.pin (b,o) (az _ (az _ (jI hb e)))).2.1
   refine wpAny_mono (hg s3.heap.objs.size s3 (upd H2 s2.heap.objs.size (.lst [])) fp pz _ s7 σ5 H7 v u _ I7' r7 (step v H7 y7)) (fun _ s8 h8=>?_) fun _ _ z=>False.elim z;obtain⟨σ8,H8,I8,q8⟩:=h8;refine wpAny_mono (hte _ _ _ _ _ _ s8 _ H8 _ I8 q8) (fun y s10 h10=>?_) fun _ _ z=>False.elim z;obtain⟨v10,H10,I10,r10,xs,hx10,hz,q10⟩:=h10;refine wpAny_mono (gR (X:=blk X N scope cl s3.heap.objs.size s3 (upd H2 s2.heap.objs.size (.lst [])) fp pz) _ s10 _ H10 (.ref s2.heap.objs.size) [v10] _ [y] (fun _ H11=>H11=upd H10 s2.heap.objs.size (.lst (xs++[v10]))) I10 rfl (.cons r10 .nil) ⟨_,xs,v10,rfl,rfl,hx10,hz,rfl⟩) (fun _ s11 h11=>?_) fun _ _ z=>False.elim z;obtain⟨_,H11,I11,_,e11⟩:=h11;subst e11;exact back I11 q10
 exact codeAny_compStart_list (loop _ rfl) (T.self _ 0 _ _ _ st4 (loop _ rfl))
theorem AI {X:Cx} {elt iter:Zr} {x y:Str} {j:Nat} {py spos:Pos} {es:List Zr} {kk:Nat} {tp:Pos} {scope:Scope} {pos:Pos} {N:Zd} {cl:List (Str×Zx)} {f:St->St} {i:Nat} {wi:TI} {g:TG} {te:TE}
  (hc:X.calm=true) (B:oU X N scope cl f i x) (hi:PI X (.Tuple es kk tp) iter wi)
  (hg:∀C s₀ H₀ ex pz,PG (blk X N scope cl C s₀ H₀ ex pz) (.Tuple es kk tp) g) (hte:∀C s₀ H₀ ex pz,PE (blk X N scope cl C s₀ H₀ ex pz) elt te)
  (hN:X.N.Nodup) (hj:X.N[j]?=some y) (hy:Loc X.env.scope y) (hsw:autoParam (swapsWith (.ListComp elt [⟨.Tuple es kk tp,iter,[],0⟩] scope pos) (some (.Name y py)) spos.line X.env=pure true) auR._auto_1) (hs:autoParam (∀x,foldedSetIterable iter X.env x=pure x) auI._auto_1)
  (hf:autoParam (X.fn y=true\/X.env.scope.names.lookup y=some .local) auL._auto_1):PS X (.Assign [.Name y py] (.ListComp elt [⟨.Tuple es kk tp,iter,[],0⟩] scope pos) spos) (FV (tLG wi f g te) (gY j)):=by
 intro pz s σ H En I h;rw[exec_Assign_Name_used _ _ _ _ hsw];refine wpAny_bind (wpAny_standAt (wpAny_bind ?_));show wpAny _ X.A (do let _<-comprehension (.ListComp elt [⟨.Tuple es kk tp,iter,[],0⟩] scope pos) scope X.env _ (newList []) false (eval iter X.env) (some (assign (.Name y py) X.env))) _ _ s;refine wpAny_bind (wpAny_mono (Ct (Qp:=fun _ s'=>SP X pz En .next s') hc B hi hg hte hs I h fun fl s3 s6 H3 H5 d m6 I3 I7 fr hn6 qn=>?_) (fun _ s' hq=>wpAny_pure (wpAny_pure hq)) fun _ _ e=>e);obtain⟨oC,es,ep,hoC,hdC,hkC⟩:=id hn6;have hCL:s3.heap.objs.size≠X.env.locals:=cU I3.lt;have I8:Inv X (pz++[(s3.heap.objs.size,oC)]) σ H5 s6:=I7.pins_of fun p hp=>(ao.mp hp).elim (fun z=>I7.pin p (az _ z)) fun z=>by
  have ez:p=(s3.heap.objs.size,oC):=by simpa using z
  subst ez;exact⟨hoC,fr,hCL,I3.nofs (cW _),fun v q=>by rw[hdC]at q;cases q⟩
 show wpAny _ X.A (assign (.Name y py) X.env (.ref d)) _ _ s6;refine wpAny_assign_Name (ox (X:=X) I8 hN hj hy (v:= .ref d) rfl (fun s7 I9=>?_) hf);have pC:=I9.pin (s3.heap.objs.size,oC) (az _ (az _ (by simp)));refine⟨m6,⟨oC,es,ep,pC.1,hdC,hkC⟩,fun h' sb=>?_⟩;refine⟨σ.set j (some (.ref d)),H5,?_,qn⟩;exact Inv.turned (h':=h') (t':=s7.toks) (it:=s3.heap.objs.size) I9.unpinned (fun b o hb e=>(sb.2 b hb).trans e) pC.2.1 hCL (.inr I3.sz) (fun z c e q=>by obtain⟨v,q2⟩:=I3.cell z c e;exact absurd (q▸q2.lt) (cO _)) fun p hp q=>absurd (q▸fO (I3.pin p hp).1) (cO _)
theorem AJ:typeLookup (.type "list") "keys"=pure none:=by rw[typeLookup_type,builtinLookup_eq_fast];kernel_rfl
section
variable {prog:Zu} {w:Zv} {A:Zw} {E:Zb} {s:Zy}
theorem Cu {a:Zx} {xs:Array Zz} {k:Nat} {sl:Array (Option Zz)} {Q:Option Zz->Zy->Prop} (hx:s.heap.get? a=some {cls:= .type "list",dict:=none,data:= .seq xs k,slots:=sl}) (hA:A.handled=none)
  (q:∀h' tk,(∀b o,s.heap.get? b=some o->h'.get? b=some o)->Q none {s with heap:=h',toks:=tk}):wpAny (model prog w) A (getAttr? (.ref a) "keys") Q E s:=by
 obtain⟨hp,g,d,tk,os⟩:=s;have hT:∀tk',(⟨hp,g,d,tk',os⟩:Zy).TypeIs (.ref a) "list":=fun _=>⟨_,hx,rfl⟩;have f1:=sub_AttributeError;have f3:=F.slot_list_getattribute.lookup;have f4:=F.slot_list_getattribute.bind (.ref a);have f5:=am_list_getattr_none;unfold getAttr? getAttrBy? getAttrBy;repeat(any_goals(first|assumption|exact hT _|((with_reducible show wpAny _ _ (call (Value.builtin "list.__getattribute__") _ _) _ _ _);refine call_meets F.slot_list_getattribute (hT _) am_entry_list_getattribute (F.args_list_getattribute_2 _ _) (meets_getattribute_miss_list a xs k sl "keys" _ AJ iq iq) ⟨hx,hA,fun h' tk' e hx'=>?_⟩)|wp_step))
 obtain⟨t',u',he⟩:=hx'.there;show wpAny _ _ (getattributeRaised _ _ _ _ _ _ _) _ _ _;unfold getattributeRaised;repeat(any_goals(first|assumption|wp_step))
 exact q h' tk' hx'.keeps
end
section
variable {X:Cx} {pz:Za} {σ:St} {H:Hp} {d it t:Zx} {vs:List V} {A:Zw} {R:Result->Zy->Prop}
theorem sH (hA:A.handled=none) (hd:H d=none) (ht:H t=some (.lst vs)):∀(rest:List (Str×V)) (ys:List V) (i:Nat) (acc:List (Key×V)) (s:Zy),
  Inv X pz σ (upd H d (.dK acc)) s->uS X pz (upd H d (.dK acc)) it->s.heap.IsListIter it t i->vs.drop i=ys->Prs H ys rest->acc.length+rest.length<=1000->
  (∀s',Inv X pz σ (upd H d (.dK (jh acc (rest.map kf)))) s'->R (.ok (.ret .none)) s')->
  codeAny (model X.prog X.w) A (.builtin "dict.update.loop" ⟨[.ref d,.ref it,.int (i:Int) 0,.none],[]⟩) R s
 |[],ys,i,acc,s,I,f,st,ey,hp,hn,k=>by
  cases hp;have ht':(upd H d (.dK acc)) t=some (.lst vs):=by rw[gx (gr ht hd)];exact ht
  obtain⟨its,rv,p,hz⟩:=I.list (SqL.of ht');obtain⟨f0,f1,f2,f3,f4,f5⟩:=f;have hl:=rv.length;have hi:vs.length<=i:=bK.mp ey;refine codeAny_builtin kq ?_;unfold Builtin.«dict.update.loop»;show wpAny _ _ (pyNext (.ref it) >>= _) _ _ s;refine wpAny_bind (wpAny_pyNext_list_end (by exact hA) st (show s.heap.IsList t its.toArray from p.isList) (by simp;lia) fun h' eb=>?_);have I1:Inv X pz σ (upd H d (.dK acc)) {s with heap:=h'}:=I.turned (t':=s.toks) (fun b o hb e=>eb b o hb e) f0 f1 f3 f4 f5;exact wpAny_bind (wpAny_pure (wpAny_pure (k _ I1)))
 |pr::rest,ys,i,acc,s,I,f,st,ey,hp0,hn,k=>by
  obtain⟨a,l,rfl,ha,hp⟩:∃a l,ys= .ref a::l/\H a=some (.tup [.str pr.1,pr.2])/\Prs H l rest:=by
   cases hp0 with
   |cons h1 h2=>exact⟨_,_,rfl,h1,h2⟩
  have ht':(upd H d (.dK acc)) t=some (.lst vs):=by rw[gx (gr ht hd)];exact ht
  have ha':(upd H d (.dK acc)) a=some (.tup [.str pr.1,pr.2]):=by rw[gx (gr ha hd)];exact ha
  obtain⟨its,rv,p,hz⟩:=I.list (SqL.of ht');have ff:=f;obtain⟨f0,f1,f2,f3,f4,f5⟩:=f;have hvi:vs[i]?=some (.ref a):=by have:=congrArg (·[0]?) ey;simpa using this
  obtain⟨u,hu,ru⟩:=rv.get hvi;cases ru;refine codeAny_builtin kq ?_;unfold Builtin.«dict.update.loop»;show wpAny _ _ (pyNext (.ref it) >>= _) _ _ s;refine wpAny_bind (wpAny_pyNext_list_item st (show s.heap.IsList t its.toArray from p.isList) (x:= .ref a) (by simpa using hu) fun h' st' sb=>?_);have I1:Inv X pz σ (upd H d (.dK acc)) {s with heap:=h'}:=I.turned (t':=s.toks) (fun b o hb e=>(sb.2 b hb).trans e) f0 f1 f3 f4 f5;obtain⟨its2,rv2,⟨ob,hob,hoc,on,hod⟩,_⟩:=I1.tuple (SqT.of ha');obtain⟨kx,vx,rfl,⟨tk,rfl⟩,rvx⟩:=y9 rv2;obtain⟨z,hds,vs2,rel,dd⟩:=vf I1.hok (show(upd H d (.dK acc)) d=some (.dK acc)from gb);refine wpAny_bind (wpAny_holding (wpAny_bind (wpAny_tryCatch ?_)));unfold Builtin.Dict.pairItems;refine wpAny_bind (wpAny_typeOf (T:="tuple") ⟨ob,hob,hoc⟩ ?_);rw[gU (by decide)];refine wpAny_bind (wpAny_seqItems hob hod ?_);refine wpAny_pure ?_;show wpAny _ _ (holding [Value.str pr.1 tk,vx] (dictSet d (.str pr.1 tk) vx)) _ _ _;have hv2:vs2.length<=sizeLine:=by rw[<-rel.length];exact z
  have hn':acc.length+(rest.length+ 1)<=1000:=hn;have hl:(lP acc (Sum.inr pr.1) pr.2).length<=1000:=by have:=ig acc (Sum.inr pr.1) pr.2;lia
  have hl2:(lP acc (Sum.inr pr.1) pr.2).length+rest.length<=1000:=by have:=ig acc (Sum.inr pr.1) pr.2;lia
  refine wpAny_holding (wpAny_dictSet_pairs (hsz:=hv2) (k:=(Sum.inr pr.1:Key)) (tF (k:=(Sum.inr pr.1:Key)) (show iQ (kV (Sum.inr pr.1)) _ from⟨tk,rfl⟩)) dd fun h2 dd2 sb2=>?_);have he:∃q,h2.get? d=some q:=let⟨q,_,_,hq,_⟩:=dd2;⟨q,hq⟩;have I2:=qK (t':=s.toks+ 1) I1 (by rw[gb];exact True.intro) sb2 he (qL (kvs:=lP acc (Sum.inr pr.1) pr.2) (cQ hl (by decide)) hds (rel.put (Sum.inr pr.1) rvx) dd2);rw[sV]at I2;have hid:it≠d:=fun e=>by rw[e,gb]at f0;exact nomatch f0
  obtain⟨oi,hoi,ri⟩:=st';have st2:h2.IsListIter it t (i+ 1):=⟨oi,(sb2.2 it hid).trans hoi,ri⟩;refine wpAny_pure ⟨Code.quiet_builtin _ iq,?_⟩;have ey2:vs.drop (i+ 1)=l:=by rw[<-List.tail_drop,ey];rfl
  exact sH hA hd ht rest l (i+ 1) (lP acc (Sum.inr pr.1) pr.2) _ I2 ⟨by rw[gx hid]at f0⊢;exact f0,f1,f2,f3,f4,f5⟩ st2 ey2 hp hl2 k
end
section
variable {X:Cx}
theorem zz (hc:X.calm=true):ny X (.type "dict") (fun xs H Q=>∃(t:Zx) (vs:List V) (kvs:List (Str×V)),xs=[.ref t]/\H t=some (.lst vs)/\Prs H vs kvs/\kvs.length<=1000/\∀d,H d=none->Q (.ref d) (upd H d (.dK (jh [] (kvs.map kf))))):=by
 intro pz s σ H xs us Q I r h;obtain⟨t,vs,kvs,rfl,ht,hp,hn,q⟩:=h;obtain⟨u,rfl,ru⟩:=mz r;cases ru;obtain⟨_,its,n,rv,ho⟩:=(show jL X.prog X.w H s.heap t (.lst vs)from I.hok t _ ht);refine callType_codes (Q₁:=fun obj s₁=>obj= .ref s.heap.objs.size/\s₁={s with heap:=s.heap.push {cls:= .type "dict",data:= .dict #[]}}) F.kt_called_dict (F.kt_typeCall_dict_1 _) F.entry_dict_init (kt_code_dict_new _ ⟨rfl,rfl⟩) ?_;rintro obj s₁ ⟨rfl,rfl⟩;have hnew:(s.heap.push {cls:= .type "dict",data:= .dict #[]}).DictOf (jg X.prog X.w) s.heap.objs.size []:=Heap.DictOf.new s.heap;refine⟨hnew.typeIs,F.args_dict_init_2 _ _,?_⟩;unfold Builtin.«dict.__init__»;refine wpAny_bind ?_;unfold Builtin.Dict.selfAndRest;refine wpAny_bind (wpAny_notOrdered_dict hnew.typeIs ?_);show wpAny _ _ (pure (s.heap.objs.size,[Value.ref t])) _ _ _;refine wpAny_pure ?_;show wpAny _ _ (Builtin.Dict.updateFrom "dict.__init__" s.heap.objs.size (.ref t) [] .none) _ _ _;unfold Builtin.Dict.updateFrom;have ho1:=fS {cls:= .type "dict",data:= .dict #[]} ho;refine wpAny_bind (wpAny_typeOf (T:="list") ⟨_,ho1,rfl⟩ ?_);rw[gU (by decide)];refine wpAny_bind (Cu ho1 (by exact I.ok.hd hc) fun h1 tk1 kp1=>?_);rw[gU (by rfl)];refine wpAny_bind (wpAny_rule ?_);have I1:Inv X pz σ (upd H s.heap.objs.size (.dK [])) {s with heap:=h1,toks:=tk1}:=by
  refine I.laid (fun b u e=>kp1 b u (fS _ e)) (cW _) (qL (by decide) ?_ .nil ?_);·have hb:=I.big;exact beq_false_of_ne (cU hb)
  ·obtain⟨o,es,ep,ho,r⟩:=hnew;exact⟨o,es,ep,kp1 _ _ ho,r⟩
 have ho2:h1.IsList t its.toArray:=⟨_,kp1 _ _ ho1,rfl,n,rfl⟩;refine wpAny_bind (wpAny_pyIter_list (show({s with heap:=h1,toks:=tk1}:Zy).heap.IsList t its.toArray from ho2) ?_);have f:=I1.fpOk (cW _) (I1.hok.fresh (cW _));have I2:Inv X pz σ (upd H s.heap.objs.size (.dK [])) {s with heap:=h1.push {cls:= .type "list_iterator",data:= .fields #[.ref t,.int 0 0]},toks:=tk1}:=I1.kept (t':=tk1) fun b o e=>fS _ e;refine wpAny_pure ⟨Code.quiet_builtin _ iq,?_⟩;refine sH (A:=X.A.in1) (by exact I.ok.hd hc) (I.hok.fresh (cW _)) ht kvs vs 0 [] _ I2 f ⟨_,fQ _ rfl,rfl,rfl⟩ rfl hp (by simpa using hn) fun s' J=>?_;exact⟨rfl,.ref s.heap.objs.size,_,J,rfl,q _ (I.hok.fresh (cW _))⟩
end
section
variable {X:Cx}
end
theorem zA {X:Cx}:ny X (.type "dict") (fun xs H Q=>∃(e:Zx) (kvs:List (Key×V)),xs=[.ref e]/\H e=some (.dK kvs)/\∀d,H d=none->Q (.ref d) (upd H d (.dK kvs))):=by
 intro pz s σ H xs us Q I r h;obtain⟨e,kvs,rfl,he,q⟩:=h;obtain⟨u,rfl,ru⟩:=mz r;cases ru;obtain⟨z,hds,vs,rel,dd⟩:=vf I.hok he;refine kt_call_dict hds dd (by rw[<-rel.length];exact z) fun h' hd' hs'=>?_;have hb:=I.big;have I1:Inv X pz σ (upd H s.heap.objs.size (.dK kvs)) {s with heap:=h'}:=by refine I.laid (t':=s.toks) (fun b u e=>?_) (cW _) (qL z (beq_false_of_ne (cU hb)) rel hd');rw[hs'.2 b (cP (fO e))];exact fS _ e
 exact⟨.ref s.heap.objs.size,_,I1,rfl,q _ (I.hok.fresh (cW _))⟩
end L2.Internal
namespace L2.Internal
abbrev Itzm:=Itg tS lS
end L2.Internal
namespace L2.Internal
open PySem PySem.Spec PyProof.Rows
def Itq (lo k:Int) (n:Nat):It:=⟨fun i _=>i<n,fun i H x H'=>H'=H/\x= .int (lo+(i:Int)*k),fun i _=>n<=i⟩
theorem AK {P:Zu} {w:Zv} {K:Zp} {tg:Zr} (it:Zx) (lo k:Int) (n:Nat):B4 P w K tg (Itq lo k n) [it] it (fun i h=>IsRangeIter h it (lo+(i:Nat)*k) ((n:Int)-(i:Nat)) k) where
 mem:=by simp
 obj:=fun i h st b hb=>by
  have e:b=it:=by simpa using hb
  subst e;exact⟨_,st,fun v z=>by have z':Data.fields _=Data.cell v:=z;cases z'⟩
 keep:=fun i h h' st k=>k it (by simp) _ st
 item:=by intro X hP hw hK hc i pz s σ H E I hf st hg;subst hP hw hK;obtain⟨f0,f1,f2,f3,f4,f5⟩:=hf it (by simp);have W:=Walks.range (prog:=X.prog) (w:=X.w) (I.ok.hd hc) it lo k n;refine W.item i s _ _ hg st fun v h' tk hv st' kk=>?_;obtain⟨t,rfl⟩:=hv;have I1:Inv X pz σ H {s with heap:=h',toks:=tk}:=I.turned (fun b o hb e=>kk b o (by simpa using hb) e) f0 f1 f3 f4 f5;exact⟨_,rfl,yX (s:={s with heap:=h',toks:=tk}) (n:="range_iterator") st' rfl rfl (by decide) ⟨.int (lo+(i:Int)*k),H,I1,⟨t,rfl⟩,⟨rfl,rfl⟩,st',fun b hb=>(hf b hb).1⟩⟩
 done:=by intro X hP hw hK hc i pz s σ H E I hf st hg;subst hP hw hK;obtain⟨f0,f1,f2,f3,f4,f5⟩:=hf it (by simp);exact wpAny_pyNext_range_end (I.ok.hd hc) st (by have:n<=i:=hg;lia) fun h' eb=>⟨rfl,I.turned (t':=s.toks) (fun b o hb e=>eb b o hb e) f0 f1 f3 f4 f5⟩
 self:=fun _ _ _ _ _ st h=>wpAny_pyIter_rangeiter st h
def rsz (lo hi k:Int):Nat:=if lo<hi then((hi-lo-1)/k+ 1).toNat else 0
theorem Dj {a b k:Int} (h:0<k):Builtin.Range.rangeSize a b k=(rsz a b k:Int):=by
 unfold Builtin.Range.rangeSize rsz;rw[gU h];by_cases z:a<b;·have:=Int.ediv_nonneg (show 0<=b-a-1 by lia) (Int.le_of_lt h);rw[gU z,gU z,Int.toNat_of_nonneg (by lia)]
 ·rw[gN z,gN z];rfl
theorem zB {a b k:Int} (ha:0<=a) (ha':a<2^30) (hb:0<=b) (hb':b<2^30) (h:0<k) (hk:k<1000):Builtin.Range.small a b k=true:=by
 have hz:=Dj (a:=a) (b:=b) h;have hl:(rsz a b k:Int)<2^30:=by
  unfold rsz;split;·have h1:=Int.ediv_le_self (a:=b-a-1) k (by lia);have h2:=Int.ediv_nonneg (show 0<=b-a-1 by lia) (Int.le_of_lt h);rw[Int.toNat_of_nonneg (by lia)];lia
  ·decide
 have hm:(b-a-1)/k*k<=b-a-1:=Int.ediv_mul_le _ (by lia);unfold Builtin.Range.small;rw[hz];simp only[Builtin.Range.rangeFitsLong,fz,Bool.or_eq_true,decide_eq_true_eq,beq_iff_eq,h,if_true];lia
section
variable {X:Cx} {tg:Zr}
theorem AL {pz:Za} {σ:St} {H:Hp} {s:Zy} {R:It->Hp->Prop} {E:Zb} {lo hi k:Int} {t u v:Tok} {tk:Nat} (I:Inv X pz σ H s) (h1:0<=lo) (h2:lo<2^30) (h3:0<=hi) (h4:hi<2^30) (h5:0<k) (h6:k<1000)
  (q:R (Itq lo k (rsz lo hi k)) H):wpAny (model X.prog X.w) X.A (pyIter (.ref s.heap.objs.size)) (PIE X pz σ tg R) E {s with heap:=s.heap.push {cls:= .type "range",data:= .fields #[.int lo t,.int hi u,.int k v]},toks:=tk}:=by
 refine wpAny_pyIter_range (IsRange.new ..) (zB h1 h2 h3 h4 h5 h6) ?_;have I1:Inv X pz σ H {s with heap:=s.heap.push {cls:= .type "range",data:= .fields #[.int lo t,.int hi u,.int k v]},toks:=tk}:=I.kept fun b o e=>fS _ e;refine⟨(s.heap.push {cls:= .type "range",data:= .fields #[.int lo t,.int hi u,.int k v]}).objs.size,[(s.heap.push {cls:= .type "range",data:= .fields #[.int lo t,.int hi u,.int k v]}).objs.size],_,_,H,rfl,
  I1.kept (t':=tk) fun b o e=>fS _ e,AK _ lo k (rsz lo hi k),?_,fun b hb=>?_,q⟩
 ·have e1:lo+((0:Nat):Int)*k=lo:=by simp
  have e2:((rsz lo hi k:Nat):Int)-((0:Nat):Int)=Builtin.Range.rangeSize lo hi k:=by rw[Dj h5];lia
  show IsRangeIter _ _ (lo+((0:Nat):Int)*k) (((rsz lo hi k:Nat):Int)-((0:Nat):Int)) k;rw[e1,e2];exact fQ _ rfl
 ·have e:b=(s.heap.push {cls:= .type "range",data:= .fields #[.int lo t,.int hi u,.int k v]}).objs.size:=by simpa using hb
  subst e;exact I1.fpOk (cW _) (I1.hok.fresh (cW _))
def IG (ta:TA):TI:=fun σ H R=>ta σ H fun vs H1=>∃i j k:Int,vs=[.int i,.int j,.int k]/\(0<=i/\i<2^30/\0<=j/\j<2^30/\0<k/\k<1000)/\R (Itq i k (rsz i j k)) H1
theorem AM {a b c:Zr} {ta:TA} {p pos:Pos} (hg:Gl X "range") (hm:X.mg "range"=none) (ha:PA X [a,b,c] ta) (hs:autoParam (starEach [a,b,c] X.env=[(false,eval a X.env),(false,eval b X.env),(false,eval c X.env)]) auR._auto_1) (hs2:autoParam (starEach [b,c] X.env=[(false,eval b X.env),(false,eval c X.env)]) auR._auto_1):
  PI X tg (.Call (.Name "range" p) [a,b,c] [] pos) (IG ta):=by
 intro pz s σ H R I h;refine Call_ (nA I hg hm boot_range (fX (thn (ha pos pz s σ H _ I h) ?_) (by rw[hs,hs2]) (by rw[hs2];rfl)));rintro us s1 ⟨vs,H1,I1,r1,q1⟩;obtain⟨i,j,k,e,⟨q1,q2,q3,q4,q5,q6⟩,q⟩:=q1;subst e
 cases r1 with
 |cons r rr=>
  cases rr with
  |cons r' rr=>
   cases rr with
   |cons r'' rr=>cases rr;obtain⟨t,rfl⟩:=r;obtain⟨t',rfl⟩:=r';obtain⟨t'',rfl⟩:=r'';exact call_range_3 (by lia) (AL I1 q1 q2 q3 q4 q5 q6 q) (.inl (PyProof.noPylong_small (by lia)))
end
theorem Cv {lo k:Int} {n:Nat} {g:TG} {tb:TS} {D:rO} {σ:St} {H:Hp} (Pv:Nat->St->Hp->Prop) (h0:Pv 0 σ H)
  (hs:∀i σ H,i<n->Pv i σ H->g (.int (lo+(i:Int)*k)) σ H fun σ2 H2=>tb {D with nx:=Pv (i+ 1),ct:=Pv (i+ 1),bk:=D.nx} σ2 H2) (hd:∀σ H,Pv n σ H->D.nx σ H):
  ∃W:Nat->Nat->St->Hp->Prop,(∃m,W 0 m σ H)/\∀i m σ H,W i m σ H->
   ((Itq lo k n).stop i H/\D.nx σ H)\/((Itq lo k n).go i H/\∃N:St->Hp->Prop,(∀σ' H',N σ' H'->∃m',m'<m/\W (i+ 1) m' σ' H')/\∀x H',(Itq lo k n).yld i H x H'->g x σ H' fun σ2 H2=>tb {D with nx:=N,ct:=N,bk:=D.nx} σ2 H2):=by
 refine⟨fun i m σ H=>m=n-i/\i<=n/\Pv i σ H,⟨n,by simp,cX _,h0⟩,?_⟩;rintro i m σ H ⟨rfl,hi,p⟩;by_cases hlt:i<n;·refine .inr ⟨hlt,Pv (i+ 1),fun σ' H' p'=>⟨n-(i+ 1),by lia,rfl,hlt,p'⟩,fun v H' y=>?_⟩;obtain⟨rfl,rfl⟩:=y;exact hs i σ H' hlt p
 ·have e:i=n:=by lia
  subst e;exact .inl ⟨cW _,hd σ H p⟩
section
variable {X:Cx}
def EF (K:Zp):V->List V->Hp->VK->Prop:=fun x vs H Q=>∃(l:Zx) (ns:Zd) (n:Str) (j:Nat),x= .ref l/\vs=[.str n]/\SqL K H l (ns.map V.str)/\ns.length<=1000/\ns[j]?=some n/\(∀m:Nat,m<j->ns[m]?≠some n)/\Q (.int (j:Int)) H
def HI (n:Str):Zz->Bool
 | .str i _=>decide (i=n)
 |_=>false
theorem AN {k:Nat} (hr:mZ k X.A):MtR X "list.index" (EF X.K):=by
 intro pz s σ H x vs v us Q I rx rv h;obtain⟨l,ns,n,j,rfl,rfl,hq,hl,hj,hno,q⟩:=h;cases rx;obtain⟨u,rfl,ru⟩:=rv.one;have hu:=hr.un;have sl0:sizeLine=16777216:=sizeLine_eq;obtain⟨its,r,pl,hz⟩:=I.list hq;have lz:=r.length;rw[aD]at lz;have hjl:=(au.mp hj).1;obtain⟨⟨cls,dd,data,sl⟩,ho,hcl,n',hd⟩:=id pl.isList;simp only at hcl hd;subst hcl hd;have rel:∀(i:Nat) (hi:i<its.length),∃z t,ns[i]?=some z/\its[i]=Value.str z t:=fun i hi=>by obtain⟨z,hz⟩:∃z,ns[i]?=some z:=⟨_,bF (by lia)⟩;obtain⟨w,hw,rw'⟩:=r.get (show(ns.map V.str)[i]?=some (.str z) by rw[aO,hz];rfl);rw[bF hi]at hw;cases hw;obtain⟨t,et⟩:=rw';exact⟨z,t,hz,et⟩
 refine call_meets eZ ⟨_,ho,rfl⟩ PySem.F.entry_list_index (PySem.F.args_list_index_2 _ _)
  (SeqAt.list_indexAt l its.toArray n' dd sl u (HI n) j (by rw[aY];lia) (by lia) ?_ ?_) ⟨ho,fun w hw=>?_,⟨.int (j:Int),H,I.tok _,⟨_,rfl⟩,q⟩⟩;·obtain⟨z,t,hz1,hz2⟩:=rel j (by lia);rw[hj]at hz1;cases hz1;show HI n its[j]=true;rw[hz2];exact hI rfl
 ·intro m hm hmj;rw[aY]at hm;obtain⟨z,t,hz1,hz2⟩:=rel m hm;show HI n its[m]=false;rw[hz2];refine ik fun e=>hno m hmj ?_;rw[hz1,e]
 ·have hw':w∈its:=by simpa using hw
  obtain⟨i,hi,rfl⟩:=List.getElem_of_mem hw';obtain⟨z,t,hz1,hz2⟩:=rel i hi;have rz:iQ (.str z) its[i]:=⟨t,hz2⟩;have:=GH I 100 X.A.in1 rz ru (At.flat (K:=X.K) rfl) (At.flat rfl) rfl rfl (by simp[qt]) (by show X.A.units+ 1+ 100<cLine;lia);have e:HI n its[i]=eqD (.flat (.str z)) (.flat (.str n)):=by rw[hz2];show decide (z=n)=_;rw[eqD];show decide (z=n)=(z==n);rw[fw];simp
  rw[e];exact this
end
end L2.Internal
namespace T1
open PySem
def sub (c:Nat) (z:List Nat) (l:List Nat):List Nat:=l.flatMap fun k=>if k=c then z else[k]
theorem nj (c:Nat) (z a b:List Nat):sub c z (a++b)=sub c z a++sub c z b:=List.flatMap_append ..
theorem tO (c:Nat) (z:List Nat):∀l:List Nat,¬c∈l->sub c z l=l
 |[],_=>rfl
 |k::r,h=>by have h1:¬k=c:=fun e=>h (e▸ah ..);have h2:¬c∈r:=fun m=>h (aj _ m);show(if k=c then z else[k])++sub c z r=k::r;rw[gN h1,tO c z r h2];rfl
theorem EG (c:Nat) (z:List Nat):sub c z [c]=z:=by simp[sub]
theorem yi (c:Nat) (z:Str):∀parts:List Str,(∀p∈parts,¬c∈p.cps.toList)->sub c z.cps.toList (Str.join ⟨#[c]⟩ parts).cps.toList=(Str.join z parts).cps.toList
 |[],_=>rfl
 |[p],h=>tO c _ _ (h p (bo.mpr rfl))
 |p::q::r,h=>by have ih:=yi c z (q::r) fun a ha=>h a (aj _ ha);show sub c z.cps.toList (p++⟨#[c]⟩++Str.join ⟨#[c]⟩ (q::r)).cps.toList=(p++z++Str.join z (q::r)).cps.toList;simp only[Str.cps_append,fG];rw[nj,nj,ih,tO c _ _ (h p (ah ..))];have e:sub c z.cps.toList [c]=z.cps.toList:=EG c _;rw[e]
def cut (c:Nat):List Nat->List (List Nat)
 |[]=>[[]]
 |k::r=>if k=c then[]::cut c r else match cut c r with
  |h::t=>(k::h)::t
  |[]=>[[k]]
theorem yj (c:Nat):∀l:List Nat,¬c∈l->cut c l=[l]
 |[],_=>rfl
 |k::r,h=>by have h1:¬k=c:=fun e=>h (e▸ah ..);have h2:¬c∈r:=fun m=>h (aj _ m);unfold cut;rw[gN h1,yj c r h2]
theorem yk (c:Nat):∀(p r:List Nat),¬c∈p->cut c (p++c::r)=p::cut c r
 |[],r,_=>by show(if c=c then[]::cut c r else _)=_;rw[gU rfl]
 |k::p,r,h=>by have h1:¬k=c:=fun e=>h (e▸ah ..);have h2:¬c∈p:=fun m=>h (aj _ m);show(if k=c then _ else match cut c (p++c::r)with|h::t=>(k::h)::t|[]=>[[k]])=_;rw[gN h1,yk c p r h2]
theorem yl (c:Nat):∀parts:List Str,parts≠[]->(∀p∈parts,¬c∈p.cps.toList)->cut c (Str.join ⟨#[c]⟩ parts).cps.toList=parts.map (·.cps.toList)
 |[],h,_=>absurd rfl h
 |[p],_,h=>yj c _ (h p (bo.mpr rfl))
 |p::q::r,_,h=>by
  have ih:=yl c (q::r) (by simp) fun a ha=>h a (aj _ ha);show cut c (p++⟨#[c]⟩++Str.join ⟨#[c]⟩ (q::r)).cps.toList=_;simp only[Str.cps_append,fG];have e:p.cps.toList++[c]++(Str.join ⟨#[c]⟩ (q::r)).cps.toList=p.cps.toList++c::(Str.join ⟨#[c]⟩ (q::r)).cps.toList:=by simp
  show cut c (p.cps.toList++[c]++(Str.join ⟨#[c]⟩ (q::r)).cps.toList)=_;rw[e,yk c _ _ (h p (ah ..)),ih];rfl
def step (a:List (List Nat)×List Nat) (k:Nat):List (List Nat)×List Nat:=
 if k=32 then(if a.2=[]then(a.1,[])else(a.1++[a.2],[]))else(a.1,a.2++[k])
def ym (l:List Nat):List (List Nat)×List Nat:=l.foldl step ([],[])
def all (a:List (List Nat)×List Nat):List (List Nat):=if a.2=[]then a.1 else a.1++[a.2]
theorem qT (a b:List Nat):ym (a++b)=b.foldl step (ym a):=by unfold ym;rw[List.foldl_append]
theorem AO (c:Nat):∀l,cut c l≠[]
 |[]=>by simp[cut]
 |k::r=>by
  unfold cut;split;·simp
  ·split<;>simp
theorem sI (c:Nat):∀l,cut c (l++[c])=cut c l++[[]]
 |[]=>by simp[cut]
 |k::r=>by
  have ih:=sI c r;show(if k=c then[]::cut c (r++[c])else match cut c (r++[c])with|h::t=>(k::h)::t|[]=>[[k]])=(if k=c then[]::cut c r else match cut c r with|h::t=>(k::h)::t|[]=>[[k]])++[[]];rw[ih];split;·rfl
  ·cases e:cut c r with
   |nil=>exact absurd e (AO c r)
   |cons h t=>rfl
theorem qu (c:Nat) {k:Nat} (hk:¬k=c):∀l (A:List (List Nat)) (b:List Nat),cut c l=A++[b]->cut c (l++[k])=A++[b++[k]]
 |[],A,b,h=>by
  have e:A=[]/\b=[]:=by
   cases A with
   |nil=>have h':[[]]=[b]:=h;injection h' with h1 _;exact⟨rfl,h1.symm⟩
   |cons x A=>have h':[[]]=x::(A++[b]):=h;injection h' with _ h2;simp at h2
  obtain⟨rfl,rfl⟩:=e;show(if k=c then _ else match cut c []with|h::t=>(k::h)::t|[]=>[[k]])=_;rw[gN hk];rfl
 |x::r,A,b,h=>by
  have h:(if x=c then[]::cut c r else match cut c r with|h::t=>(x::h)::t|[]=>[[x]])=A++[b]:=h;show(if x=c then[]::cut c (r++[k])else match cut c (r++[k])with|h::t=>(x::h)::t|[]=>[[x]])=A++[b++[k]];by_cases e:x=c
  ·rw[gU e]at h⊢
   cases A with
   |nil=>have h':[]::cut c r=[b]:=h;injection h' with _ h2;exact absurd h2 (AO c r)
   |cons y A=>have h':[]::cut c r=y::(A++[b]):=h;injection h' with h1 h2;rw[qu c hk r A b h2,<-h1];rfl
  ·rw[gN e]at h⊢
   cases q:cut c r with
   |nil=>exact absurd q (AO c r)
   |cons g t=>
    rw[q]at h;have h:(x::g)::t=A++[b]:=h
    cases A with
    |nil=>have h':(x::g)::t=[b]:=h;injection h' with h1 h2;rw[qu c hk r [] g (by rw[q,h2];rfl),<-h1];rfl
    |cons y A=>have h':(x::g)::t=y::(A++[b]):=h;injection h' with h1 h2;rw[qu c hk r (g::A) b (by rw[q,h2];rfl),<-h1];rfl
theorem Cw (l:List Nat):∃A,cut 32 l=A++[(ym l).2]/\A.filter (fun p=>decide (p≠[]))=(ym l).1:=by
 suffices H:∀n (l:List Nat),l.length=n->∃A,cut 32 l=A++[(ym l).2]/\A.filter (fun p=>decide (p≠[]))=(ym l).1 from H _ l rfl;intro n
 induction n with
 |zero=>intro l h;have e:l=[]:=bO.mp h;subst e;exact⟨[],rfl,rfl⟩
 |succ n ih=>
  intro l h;obtain⟨m,k,rfl⟩:∃m k,l=m++[k]:=by
   have hne:l≠[]:=by intro e;rw[e]at h;simp at h
   exact⟨l.dropLast,l.getLast hne,(bP hne).symm⟩
  obtain⟨A,h1,h2⟩:=ih m (by simp at h;exact h);rw[qT];show ∃A,cut 32 (m++[k])=A++[(step (ym m) k).2]/\A.filter (fun p=>decide (p≠[]))=(step (ym m) k).1;by_cases e:k=32
  ·subst e;refine⟨A++[(ym m).2],?_,?_⟩;·rw[sI,h1];unfold step;rw[gU rfl];split<;>rfl
   ·rw[bQ,h2];unfold step;rw[gU rfl];by_cases e2:(ym m).2=[];·rw[gU e2,e2];simp
    ·rw[gN e2];simp[e2]
  ·refine⟨A,?_,?_⟩;·unfold step;rw[gN e];exact qu 32 e m A _ h1
   ·unfold step;rw[gN e];exact h2
theorem words_cut (l:List Nat):(cut 32 l).filter (fun p=>decide (p≠[]))=all (ym l):=by
 obtain⟨A,h1,h2⟩:=Cw l;rw[h1,bQ,h2];unfold all;by_cases e:(ym l).2=[];·rw[gU e,e];simp
 ·rw[gN e];simp[e]
def ex (k:Nat):List Nat:=if k=40 then[32,40,32]else if k=41 then[32,41,32]else if k=10 then[32]else[k]
def spaced (l:List Nat):List Nat:=l.flatMap ex
theorem tP (a b:List Nat):spaced (a++b)=spaced a++spaced b:=List.flatMap_append ..
theorem spaced_sub:∀l:List Nat,sub 10 [32] (sub 41 [32,41,32] (sub 40 [32,40,32] l))=spaced l
 |[]=>rfl
 |k::r=>by
  have ih:=spaced_sub r;have e:∀(c:Nat) (z:List Nat) (l:List Nat) (k:Nat),sub c z (k::l)=(if k=c then z else[k])++sub c z l:=fun _ _ _ _=>rfl;have e2:spaced (k::r)=ex k++spaced r:=rfl;rw[e,nj,nj,ih,e2];congr 1;unfold ex;by_cases h1:k=40;·rw[gU h1,gU h1];rfl
  ·rw[gN h1,gN h1];by_cases h2:k=41;·rw[gU h2,h2];rfl
   ·rw[gN h2,e,gN h2];show sub 10 [32] ([k]++[])=_;rw[aE,e];by_cases h3:k=10;·rw[gU h3];rfl
    ·rw[gN h3];rfl
def W (l:List Nat):List (List Nat)×List Nat:=ym (spaced l)
theorem qv (a b:List Nat):W (a++b)=(spaced b).foldl step (W a):=by unfold W;rw[tP,qT]
theorem IH (a:List Nat) {k:Nat} (hk:k=32\/k=10):W (a++[k])=(all (W a),[]):=by
 rw[qv];have e:spaced [k]=[32]:=by rcases hk with e|e<;>subst e<;>rfl
 rw[e];show step (W a) 32=_;unfold step all;rw[gU rfl];split<;>rfl
theorem AQ (a:List Nat) {k:Nat} (hk:k=40\/k=41):W (a++[k])=(all (W a)++[[k]],[]):=by
 rw[qv];have e:spaced [k]=[32,k,32]:=by rcases hk with e|e<;>subst e<;>rfl
 have n32:¬k=32:=by lia
 rw[e];show step (step (step (W a) 32) k) 32=_;have e1:step (W a) 32=(all (W a),[]):=by unfold step all;rw[gU rfl];split<;>rfl
 rw[e1];show(if(32:Nat)=32 then(if(step (all (W a),[]) k).2=[]then((step (all (W a),[]) k).1,[])else((step (all (W a),[]) k).1++[(step (all (W a),[]) k).2],[]))else _)=_;have e2:step (all (W a),[]) k=(all (W a),[k]):=by unfold step;rw[gN n32];rfl
 rw[gU rfl,e2];rfl
theorem II (a:List Nat):∀p:List Nat,(∀k∈p,k≠32/\k≠10/\k≠40/\k≠41)->W (a++p)=((W a).1,(W a).2++p):=by
 intro p hp;rw[qv];have e:spaced p=p:=by
  induction p with
  |nil=>rfl
  |cons k r ih=>obtain⟨h1,h2,h3,h4⟩:=hp k (ah ..);have e2:spaced (k::r)=ex k++spaced r:=rfl;rw[e2,ih fun x hx=>hp x (aj _ hx)];unfold ex;rw[gN h3,gN h4,gN h2];rfl
 rw[e];generalize W a=b
 induction p generalizing b with
 |nil=>show b=_;rw[aE]
 |cons k r ih=>
  obtain⟨h1,h2,h3,h4⟩:=hp k (ah ..);show r.foldl step (step b k)=_;have e1:step b k=(b.1,b.2++[k]):=by unfold step;rw[gN h1]
  have e3:spaced r=r:=by
   have e2:spaced (k::r)=ex k++spaced r:=rfl;have e4:ex k=[k]:=by unfold ex;rw[gN h3,gN h4,gN h2]
   rw[e2,e4]at e;injection e
  rw[e1,ih (fun x hx=>hp x (aj _ hx)) e3];simp
open Builtin Builtin.Str
theorem replace_codes (x z:Str) (c:Nat):(Txt.replace x ⟨#[c]⟩ z).cps.toList=sub c z.cps.toList x.cps.toList:=by rw[StrLaws.replace_one,<-yi c z _ (StrLaws.split_free x c),StrLaws.join_split]
theorem Cy (x y:Str):Txt.split x y≠[]:=by
 unfold Txt.split;split;·simp
 ·split;·simp
  ·rename_i h
   cases e:occurrences x y 0 x.length (x.length+ 1)with
   |nil=>rw[e]at h;exact absurd rfl h
   |cons a r=>simp[partsBetween]
theorem split_codes (x:Str) (c:Nat):(Txt.split x ⟨#[c]⟩).map (·.cps.toList)=cut c x.cps.toList:=by have h:=yl c (Txt.split x ⟨#[c]⟩) (Cy x _) (StrLaws.split_free x c);rw[StrLaws.join_split]at h;exact h.symm
theorem flat_len (f:Nat->List Nat) (n:Nat) (h:∀k,(f k).length<=n):∀l:List Nat,(l.flatMap f).length<=n*l.length
 |[]=>by simp
 |k::r=>by rw[List.flatMap_cons,aR,aA];have h1:=h k;have h2:=flat_len f n h r;rw[Nat.mul_succ];lia
theorem str_ext {x y:Str} (h:x.cps.toList=y.cps.toList):x=y:=by obtain⟨a⟩:=x;obtain⟨b⟩:=y;have e:a=b:=Array.toList_inj.mp h;rw[e]
theorem len_codes (x:Str):x.cps.toList.length=x.length:=by rw[fD];rfl
theorem dig_len:∀(k m:Nat),m<10^(k+ 1)->(da 10 m).length<=k+ 1:=by
 intro k
 induction k with
 |zero=>intro m h;rw[df (by simpa using h)];exact cW _
 |succ k ih=>
  intro m h;by_cases h10:m<10;·rw[df h10];show 1<=_;lia
  ·have hm:m%10<10:=Nat.mod_lt m (by decide);have t:da 10 (m/10)++da 10 (m%10)=da 10 (10*(m/10)+m%10):=dh (by decide) (by lia) hm;rw[Nat.div_add_mod]at t;rw[<-t,aR,df hm];have hq:m/10<10^(k+ 1):=by rw[Nat.div_lt_iff_lt_mul (by decide)];rw[Nat.pow_succ]at h;exact h
   have:=ih (m/10) hq;show _+ 1<=_;lia
end T1
namespace GR.Internal
open PySem L2.Internal
theorem sz {n:Nat} (h:n<=100000):n<=sizeLine:=cQ h (by decide)
theorem gi {H:Hp} {p:Zx} (h:H p=none) (o:HO):gC H (upd H p o):=fun b u q=>by rw[gx (gr q h)];exact q
def wV (w:List Nat):V:= .str ⟨w.toArray⟩
def qU (l:List Nat):List V:=(T1.all (T1.W l)).map wV
theorem zC (l:List Nat):qU l=((T1.all (T1.W l)).map fun w=>(⟨w.toArray⟩:Str)).map V.str:=by unfold qU;rw[bG];rfl
def KWV:List V:=[.str "def",.str "fn",.str "call",.str "let",.str "rec",.str "get",.str "tag",.str "case",.str "row",.str "at",.str "join",.str "size",.str "add",.str "sub",.str "less"]
def SM:Str:="abcdefghijklmnopqrstuvwxyz"
def FG:Str:="0123456789"
def allIn (x y:Str):Bool:=x.cps.toList.all fun c=>decide (c∈y.cps.toList)
def firstIn (x y:Str):Bool:=match x.cps.toList with
 |[]=>false
 |c::_=>decide (c∈y.cps.toList)
def isName (x:Str):Bool:=decide (1<=x.length)&&decide (x.length<=12)&&!inV (.str x) KWV&&firstIn x SM&&allIn x (SM++FG)
theorem first_of {x:Str} (h:1<=x.length):∃c r,x.cps.toList=c::r:=by
 have e:=T1.len_codes x
 cases q:x.cps.toList with
 |nil=>rw[q]at e;simp at e;lia
 |cons c r=>exact⟨c,r,rfl⟩
theorem at0 {c:Nat} {r:List Nat}:atI (c::r) (0:Int)=some c:=gq (j:=0) rfl
def qV (x:Str):Bool:=match x.cps.toList with
 |[]=>false
 |c::_=>c==48
def mv (x:Str):Bool:=decide (1<=x.length)&&decide (x.length<=60)&&allIn x FG&&(!qV x||decide (x="0"))
def Cz (x:Str):Int:=(intText? x).getD 0
theorem EH (c:Nat):decide (V.str ⟨#[c]⟩=V.str "0")=(c==48):=by
 by_cases h:c=48;·subst h;rfl
 ·have h1:¬V.str ⟨#[c]⟩=V.str "0":=fun z=>by
   injection z with z;have e:(⟨#[c]⟩:Str).cps.toList=("0":Str).cps.toList:=by rw[z]
   have e2:[c]=[48]:=e;injection e2 with e3 _;exact h e3
  rw[ik h1];exact(beq_eq_false_iff_ne.mpr h).symm
theorem yn:∀c∈FG.cps.toList,48<=c/\c<=57:=iq
theorem allIn_mem {x y:Str} (h:allIn x y=true):∀c∈x.cps.toList,c∈y.cps.toList:=fun c hc=>of_decide_eq_true (bR.mp h c hc)
theorem zD {x:Str} (h1:1<=x.length) (h2:x.length<=100) (h:allIn x FG=true):intText? x=some (Cz x):=by
 have hd:PySem.NumText.AllDigits x.cps.toList:=fun c hc=>yn c (allIn_mem h c hc);have hne:x.cps.toList≠[]:=by obtain⟨c,r,e⟩:=first_of h1;rw[e];exact bS _ _
 have e:=PySem.intText_digits hd hne (by lia);unfold Cz;rw[e];rfl
theorem qW {x:Str} (h:mv x=true):1<=x.length/\x.length<=60/\allIn x FG=true:=by unfold mv at h;simp only[fz,decide_eq_true_eq]at h;exact⟨h.1.1.1,h.1.1.2,h.1.2⟩
theorem EI {n j:Nat} (h:j<n):ixN n (j:Int)=some j:=by unfold ixN;rw[gU (by lia),gU (by lia)];simp
def fR (wl:Zx) (k:Int) (rl:Zx):List (Str×V):=[("words",.ref wl),("taken",.int k),("rows",.ref rl)]
theorem IJ (wl:Zx) (k:Int) (rl:Zx):mY "rows" (.ref rl) (mY "taken" (.int k) (mY "words" (.ref wl) []))=fR wl k rl:=by have h1:¬(("words":Str)="taken"):=iq;have h2:¬(("words":Str)="rows"):=iq;have h3:¬(("taken":Str)="rows"):=iq;simp only[mY,gN h1,gN h2,gN h3,fR]
theorem GL (wl:Zx) (k j:Int) (rl:Zx):mY "taken" (.int j) (fR wl k rl)=fR wl j rl:=by have h1:¬(("words":Str)="taken"):=iq;simp only[mY,fR,gN h1,gU]
theorem yo (wl:Zx) (k:Int) (rl:Zx):(fR wl k rl).lookup ("words":Str)=some (.ref wl):=by unfold fR;rw[bq,show(("words":Str)=="words")=true by decide+kernel]
theorem tQ (wl:Zx) (k:Int) (rl:Zx):(fR wl k rl).lookup ("taken":Str)=some (.int k):=by unfold fR;rw[bq,show(("taken":Str)=="words")=false by decide+kernel,bq,show(("taken":Str)=="taken")=true by decide+kernel]
theorem tR (wl:Zx) (k:Int) (rl:Zx):(fR wl k rl).lookup ("rows":Str)=some (.ref rl):=by unfold fR;rw[bq,show(("rows":Str)=="words")=false by decide+kernel,bq,show(("rows":Str)=="taken")=false by decide+kernel,bq,show(("rows":Str)=="rows")=true by decide+kernel]
theorem IK (wl:Zx) (k:Int) (rl:Zx) {m:Str} (h1:(m=="words")=false) (h2:(m=="taken")=false) (h3:(m=="rows")=false):(fR wl k rl).lookup m=none:=by unfold fR;rw[bq,h1,bq,h2,bq,h3];rfl
structure qw (C:Zx) (H:Hp) (p dx wl rl:Zx) (ws:Zd) (k:Nat) (rows:List V):Prop where
 ob:H p=some (.ins C dx (fR wl (k:Int) rl))
 wd:H wl=some (.lst (ws.map V.str))
 rw:H rl=some (.lst rows)
 ne:wl≠rl
structure WOk (ws:Zd):Prop where
 len:ws.length<=30000
 one:∀x∈ws,x≠""/\x.length<=30000/\∀c∈x.cps.toList,c<16^8
def fP (a b c:Zx):List (Str×V):=[("names",.ref a),("roots",.ref b),("rows",.ref c)]
theorem IL (a b c:Zx):mY "rows" (.ref c) (mY "roots" (.ref b) (mY "names" (.ref a) []))=fP a b c:=by have h1:¬(("names":Str)="roots"):=iq;have h2:¬(("names":Str)="rows"):=iq;have h3:¬(("roots":Str)="rows"):=iq;simp only[mY,gN h1,gN h2,gN h3,fP]
theorem IM {c:Nat} (h1:48<=c) (h2:c<=57):c∈FG.cps.toList:=by
 have e:FG.cps.toList=[48,49,50,51,52,53,54,55,56,57]:=iq;rw[e];have:c=48\/c=49\/c=50\/c=51\/c=52\/c=53\/c=54\/c=55\/c=56\/c=57:=by lia
 rcases this with rfl|rfl|rfl|rfl|rfl|rfl|rfl|rfl|rfl|rfl<;>decide
theorem str_fig {n:Int} {k:Nat} (h0:0<=n) (h1:n<10^(k+ 1)):(∀c∈(PySem.Str.ofString (toString n)).cps.toList,c∈FG.cps.toList)/\1<=(PySem.Str.ofString (toString n)).length/\(PySem.Str.ofString (toString n)).length<=k+ 1:=by
 obtain⟨m,rfl⟩:=fJ h0;have hm:m<10^(k+ 1):=by
  have z:((m:Nat):Int)<((10^(k+ 1):Nat):Int):=by rw[Int.natCast_pow];exact h1
  exact Int.ofNat_lt.mp z
 have e:=PySem.W.KIN.signs_num m;have el:=T1.len_codes (PySem.Str.ofString (toString ((m:Nat):Int)));rw[e,aD]at el;refine⟨fun c hc=>?_,?_,?_⟩;·rw[e]at hc;obtain⟨ch,hch,rfl⟩:=bh.mp hc;obtain⟨r1,r2⟩:=PyProof.Rows.digit_range (Nat.isDigit_of_mem_toDigits (by decide) (by decide) hch);exact IM r1 r2
 ·have z:=PySem.toDigits_len_ge 10 m;lia
 ·have z:=T1.dig_len k m hm;lia
theorem app_codes (x y:Str):(x++y).cps.toList=x.cps.toList++y.cps.toList:=by rw[Str.cps_append,fG]
theorem qw.ne1 {C p dx wl rl:Zx} {H:Hp} {ws:Zd} {k:Nat} {rows:List V} (R:qw C H p dx wl rl ws k rows):p≠wl:=kI R.ob R.wd (fun z=>nomatch z)
theorem qw.ne2 {C p dx wl rl:Zx} {H:Hp} {ws:Zd} {k:Nat} {rows:List V} (R:qw C H p dx wl rl ws k rows):p≠rl:=kI R.ob R.rw (fun z=>nomatch z)
theorem qw.next {C p dx wl rl:Zx} {H:Hp} {ws:Zd} {k:Nat} {rows:List V} (R:qw C H p dx wl rl ws k rows) (j:Nat):qw C (upd H p (.ins C dx (fR wl (j:Int) rl))) p dx wl rl ws j rows:=
 ⟨gb,by rw[gx (Ne.symm R.ne1)];exact R.wd,by rw[gx (Ne.symm R.ne2)];exact R.rw,R.ne⟩
theorem qw.same {C p dx wl rl:Zx} {H H':Hp} {ws:Zd} {k:Nat} {rows:List V} (R:qw C H p dx wl rl ws k rows) (S:gC H H'):qw C H' p dx wl rl ws k rows:=⟨S _ _ R.ob,S _ _ R.wd,S _ _ R.rw,R.ne⟩
theorem tn0 {σ:St} {H:Hp} {Q:List V->Hp->Prop} (h:Q [] H):zM σ H Q:=h
theorem tc1 {v:V} {σ:St} {H:Hp} {Q:List V->Hp->Prop} (h:Q [v] H):lN (tC v) zM σ H Q:=h
theorem iH (wl:Zx) (k:Int) (rl:Zx) (m:Str) (h:m="ahead"\/m="pass_over"\/m="take_name"\/m="take_expr"\/m="take"\/m="take_row"\/m="take_steady"\/m="take_fields"\/m="take_arms"\/m="take_things"\/m="take_form"):(fR wl k rl).lookup m=none:=by rcases h with rfl|rfl|rfl|rfl|rfl|rfl|rfl|rfl|rfl|rfl|rfl<;>exact IK _ _ _ iq iq iq
theorem tT {H H':Hp} {p:Zx} (o:HO) (h:H p=none) (S:gC H H'):gC H (upd H' p o):=fun b u e=>by rw[gx (gr e h)];exact S b u e
def stT:List (Str×List Bool):=[("fn",[true,false]),("call",[false,false]),("let",[true,false,false]),("get",[false,true]),("tag",[true,false]),("at",[false,false,false]),
 ("join",[false,false]),("size",[false]),("add",[false,false]),("sub",[false,false]),("less",[false,false])]
def stP (h:Str):Option (List Bool):=(stT.find? fun p=>decide (p.1=h)).map (·.2)
section
variable {pe:List Str->List Dt->Option Rs} {x:Str} {r:Zd} {rows:List Dt}
end
section
variable {rows:List Dt} {names:Zd} {roots:List Dt}
end
mutual
inductive TAt (K:Zp) (H:Hp):V->Dt->Prop where
 |flat {v:V} (h:qe v=true):TAt K H v (.flat v)
 |tup {a:Zx} {xs:List V} {ds:List Dt} (h:H a=some (.tup xs)) (hs:lO K H xs ds):TAt K H (.ref a) (.tup ds)
inductive lO (K:Zp) (H:Hp):List V->List Dt->Prop where
 |nil:lO K H [] []
 |cons {x:V} {d:Dt} {xs:List V} {ds:List Dt} (h:TAt K H x d) (hs:lO K H xs ds):lO K H (x::xs) (d::ds)
end
section
variable {K:Zp} {H H':Hp}
mutual
theorem TAt.mono (k:∀a xs,H a=some (.tup xs)->H' a=some (.tup xs)):∀{x:V} {d:Dt},TAt K H x d->TAt K H' x d
 |_,_,.flat h=> .flat h
 |_,_,.tup h hs=> .tup (k _ _ h) (lO.mono k hs)
theorem lO.mono (k:∀a xs,H a=some (.tup xs)->H' a=some (.tup xs)):∀{xs:List V} {ds:List Dt},lO K H xs ds->lO K H' xs ds
 |_,_,.nil=> .nil
 |_,_,.cons h hs=> .cons (TAt.mono k h) (lO.mono k hs)
end
theorem lO.length:∀{xs:List V} {ds:List Dt},lO K H xs ds->xs.length=ds.length
 |_,_,.nil=>rfl
 |_,_,.cons _ t=>by rw[aA,aA,lO.length t]
theorem lO.app:∀{xs ys:List V} {ds es:List Dt},lO K H xs ds->lO K H ys es->lO K H (xs++ys) (ds++es)
 |_,_,_,_,.nil,q=>q
 |_,_,_,_,.cons h t,q=> .cons h (lO.app t q)
theorem lO.snoc {xs:List V} {ds:List Dt} {x:V} {d:Dt} (a:lO K H xs ds) (b:TAt K H x d):lO K H (xs++[x]) (ds++[d]):=a.app (.cons b .nil)
theorem lO.set:∀{xs:List V} {ds:List Dt} {x:V} {d:Dt} (j:Nat),lO K H xs ds->TAt K H x d->lO K H (xs.set j x) (ds.set j d)
 |_,_,_,_,_,.nil,_=> .nil
 |_,_,_,_,0,.cons _ t,q=> .cons q t
 |_,_,_,_,j+ 1,.cons h t,q=> .cons h (lO.set j t q)
end
def K2 (p q:Zx) (H H':Hp):Prop:=∀b o,H b=some o->b≠p->b≠q->H' b=some o
theorem K2.refl (p q:Zx) (H:Hp):K2 p q H H:=fun _ _ e _ _=>e
theorem K2.trans {p q:Zx} {H H1 H2:Hp} (a:K2 p q H H1) (b:K2 p q H1 H2):K2 p q H H2:=fun c o e h1 h2=>b c o (a c o e h1 h2) h1 h2
theorem gC.k2 {p q:Zx} {H H':Hp} (s:gC H H'):K2 p q H H':=fun b o e _ _=>s b o e
theorem K2.upd1 {p q:Zx} {H H':Hp} (k:K2 p q H H') (o:HO):K2 p q H (upd H' p o):=fun b u e h1 h2=>by rw[gx h1];exact k b u e h1 h2
theorem K2.upd2 {p q:Zx} {H H':Hp} (k:K2 p q H H') (o:HO):K2 p q H (upd H' q o):=fun b u e h1 h2=>by rw[gx h2];exact k b u e h1 h2
theorem K2.sqT {K:Zp} {p q:Zx} {H H':Hp} {o1 o2:HO} (k:K2 p q H H') (h1:H p=some o1) (h2:H q=some o2) (n1:∀xs,o1≠ .tup xs/\∀o,o1≠ .frz o (.tup xs)) (n2:∀xs,o2≠ .tup xs/\∀o,o2≠ .frz o (.tup xs)) {a:Zx} {xs:List V} (s:SqT K H a xs):SqT K H' a xs:=by
 rcases s with s|s
 ·refine .inl ?_;rcases s with s|⟨o,s⟩;·exact .inl (k _ _ s (kI s h1 (Ne.symm (n1 xs).1)) (kI s h2 (Ne.symm (n2 xs).1)))
  ·exact .inr ⟨o,k _ _ s (kI s h1 (Ne.symm ((n1 xs).2 o))) (kI s h2 (Ne.symm ((n2 xs).2 o)))⟩
 ·exact .inr s
def RS (K:Zp) (C:Zx) (H:Hp) (p dx wl rl:Zx) (ws rest:Zd) (rows:List Dt):Prop:=
 ∃k rv,qw C H p dx wl rl ws k rv/\ws.drop k=rest/\k<=ws.length/\lO K H rv rows
section
variable {K:Zp} {C p dx wl rl:Zx} {H H':Hp} {ws rest:Zd} {rows:List Dt}
theorem qw.sqT {k:Nat} {rv:List V} (R:qw C H p dx wl rl ws k rv) (kk:K2 p rl H H') {a:Zx} {xs:List V} (s:SqT K H a xs):SqT K H' a xs:=
 kk.sqT R.ob R.rw (fun _=>⟨(fun z=>nomatch z),fun _ z=>nomatch z⟩) (fun _=>⟨(fun z=>nomatch z),fun _ z=>nomatch z⟩) s
theorem qw.tpT {k:Nat} {rv:List V} (R:qw C H p dx wl rl ws k rv) (kk:K2 p rl H H') {a:Zx} {xs:List V} (s:H a=some (.tup xs)):H' a=some (.tup xs):=
 kk _ _ s (kI s R.ob (fun z=>nomatch z)) (kI s R.rw (fun z=>nomatch z))
theorem RS.tat (R:RS K C H p dx wl rl ws rest rows) (kk:K2 p rl H H') {x:V} {d:Dt} (t:TAt K H x d):TAt K H' x d:=by obtain⟨k,rv,R,_⟩:=R;exact t.mono fun a xs s=>qw.tpT R kk s
theorem RS.tats (R:RS K C H p dx wl rl ws rest rows) (kk:K2 p rl H H') {xs:List V} {ds:List Dt} (t:lO K H xs ds):lO K H' xs ds:=by obtain⟨k,rv,R,_⟩:=R;exact t.mono fun a xs s=>qw.tpT R kk s
theorem RS.same (R:RS K C H p dx wl rl ws rest rows) (s:gC H H'):RS K C H' p dx wl rl ws rest rows:=by obtain⟨k,rv,R,h1,h2,h3⟩:=R;exact⟨k,rv,⟨s _ _ R.ob,s _ _ R.wd,s _ _ R.rw,R.ne⟩,h1,h2,h3.mono fun a xs t=>qw.tpT R (gC.k2 s) t⟩
theorem RS.other {a:Zx} {l:List V} {o:HO} (R:RS K C H p dx wl rl ws rest rows) (ha:H a=some (.lst l)) (n1:a≠p) (n2:a≠wl) (n3:a≠rl):RS K C (upd H a o) p dx wl rl ws rest rows:=by obtain⟨k,rv,R,h1,h2,h3⟩:=R;refine⟨k,rv,⟨by rw[gx (Ne.symm n1)];exact R.ob,by rw[gx (Ne.symm n2)];exact R.wd,by rw[gx (Ne.symm n3)];exact R.rw,R.ne⟩,h1,h2,h3.mono fun b xs t=>?_⟩;rw[gx (kI t ha (fun z=>nomatch z))];exact t
theorem lO.other {a:Zx} {l:List V} {o:HO} (ha:H a=some (.lst l)) {xs:List V} {ds:List Dt} (t:lO K H xs ds):lO K (upd H a o) xs ds:=t.mono fun b xs t=>by rw[gx (kI t ha (fun z=>nomatch z))];exact t
theorem AR {k:Nat} {x:Str} {r:Zd} (h:ws.drop k=x::r):ws[k]?=some x/\ws.drop (k+ 1)=r/\k<ws.length:=by
 have hk:k<ws.length:=by
  by_cases z:k<ws.length;·exact z
  ·rw[List.drop_of_length_le (by lia)]at h;cases h
 rw[bT hk]at h;injection h with h1 h2;exact⟨by rw[bF hk,h1],h2,hk⟩
theorem RS.mem (R:RS K C H p dx wl rl ws rest rows):∀x∈rest,x∈ws:=by obtain⟨k,rv,_,h,_⟩:=R;intro x hx;rw[<-h]at hx;exact bU hx
theorem RS.ob (R:RS K C H p dx wl rl ws rest rows):∃k:Int,H p=some (.ins C dx (fR wl k rl)):=by obtain⟨k,rv,R,_⟩:=R;exact⟨_,R.ob⟩
theorem vC {H:Hp} {a b:Zx} {l xs:List V} {o:HO} (ha:H a=some (.lst l)) (t:SqT K H b xs):SqT K (upd H a o) b xs:=by
 rcases t with t|t
 ·refine .inl ?_;rcases t with t|⟨o',t⟩;·exact .inl (by rw[gx (kI t ha (fun z=>nomatch z))];exact t)
  ·exact .inr ⟨o',by rw[gx (kI t ha (fun z=>nomatch z))];exact t⟩
 ·exact .inr t
theorem RS.sqt (R:RS K C H p dx wl rl ws rest rows) (kk:K2 p rl H H') {a:Zx} {xs:List V} (t:SqT K H a xs):SqT K H' a xs:=by obtain⟨k,rv,R,_⟩:=R;exact qw.sqT R kk t
theorem yp {p q a:Zx} {H H':Hp} {o:HO} (ha:H a=none) (k:K2 p q H H'):K2 p q H (upd H' a o):=fun b u e h1 h2=>by rw[gx (gr e ha)];exact k b u e h1 h2
theorem RS.apart {fl:Zx} (R:RS K C H p dx wl rl ws rest rows) (hfl:H fl=none):fl≠p/\fl≠rl/\fl≠wl:=by obtain⟨k,rv,R,_⟩:=R;exact⟨Ne.symm (gr R.ob hfl),Ne.symm (gr R.rw hfl),Ne.symm (gr R.wd hfl)⟩
end
end GR.Internal
namespace GR.Internal
open PySem L2.Internal T1
def St1 (w:List Nat):Str:=⟨w.toArray⟩
def toks (x:Str):List Str:=(all (W x.cps.toList)).map St1
theorem toks_v (x:Str):qU x.cps.toList=(toks x).map V.str:=zC _
theorem tU:∀(s:List Nat) (p:List (List Nat)) (c:List Nat),s.foldl step (p,c)=(p++(s.foldl step ([],c)).1,(s.foldl step ([],c)).2)
 |[],p,c=>by simp
 |k::s,p,c=>by
  have e1:(k::s).foldl step (p,c)=s.foldl step (step (p,c) k):=rfl;have e2:(k::s).foldl step ([],c)=s.foldl step (step ([],c) k):=rfl;rw[e1,e2];have e3:step (p,c) k=(p++(step ([],c) k).1,(step ([],c) k).2):=by
   unfold T1.step;split;·split<;>simp
   ·simp
  rw[e3];generalize step ([],c) k=q;obtain⟨q1,q2⟩:=q;rw[tU s (p++q1) q2,tU s q1 q2,bV]
theorem yq {a b:List Nat} (h:(W a).2=[]):W (a++b)=((W a).1++(W b).1,(W b).2):=by
 rw[qv];have e:W a=((W a).1,[]):=by rw[<-h]
 rw[e,tU];rfl
def Gp (x:Str) (ts:Zd):Prop:=(W x.cps.toList).2=[]/\(W x.cps.toList).1.map St1=ts
def Op (x:Str) (ts:Zd):Prop:=toks x=ts
theorem Gp.op {x:Str} {ts:Zd} (h:Gp x ts):Op x ts:=by unfold Op toks all;rw[gU h.1,h.2]
theorem Gp.app {x y:Str} {ts us:Zd} (h:Gp x ts) (k:Gp y us):Gp (x++y) (ts++us):=by unfold Gp;rw[app_codes,yq h.1];exact⟨k.1,by rw[bp,h.2,k.2]⟩
theorem Gp.app_op {x y:Str} {ts us:Zd} (h:Gp x ts) (k:Op y us):Op (x++y) (ts++us):=by
 unfold Op toks at*;rw[app_codes,yq h.1,<-h.2,<-k];unfold all;by_cases z:(W y.cps.toList).2=[];·rw[gU z,gU z,bp]
 ·rw[gN z,gN z];simp only[bp,bV]
theorem Op.close {x:Str} {ts:Zd} (h:Op x ts):Gp (x++")") (ts++[(")":Str)]):=by unfold Gp;have e:(x++")").cps.toList=x.cps.toList++[41]:=app_codes x ")";rw[e,AQ _ (.inr rfl)];refine⟨rfl,?_⟩;rw[bp];exact congrArg (·++[(")":Str)]) h
theorem Op.gap {x:Str} {ts:Zd} (h:Op x ts):Gp (x++" ") ts:=by unfold Gp;have e:(x++" ").cps.toList=x.cps.toList++[32]:=app_codes x " ";rw[e,IH _ (.inl rfl)];exact⟨rfl,h⟩
theorem cat_assoc (x y z:Str):x++y++z=x++(y++z):=T1.str_ext (by rw[app_codes,app_codes,app_codes,app_codes,bV])
theorem Op.word {x:Str} (h0:x.cps.toList≠[]) (h:∀k∈x.cps.toList,k≠32/\k≠10/\k≠40/\k≠41):Op x [x]:=by unfold Op toks;have e:W x.cps.toList=([],x.cps.toList):=II [] x.cps.toList h;rw[e];show(if x.cps.toList=[]then _ else _:List (List Nat)).map St1=_;rw[gN h0];show[St1 x.cps.toList]=[x];exact congrArg (fun z=>[z]) (T1.str_ext rfl)
theorem vD:∀m:Nat,0<m->(da 10 m).head?≠some '0'
 |m,h=>by
  by_cases h10:m<10
  ·rw[df h10];have:m=1\/m=2\/m=3\/m=4\/m=5\/m=6\/m=7\/m=8\/m=9:=by lia
   rcases this with rfl|rfl|rfl|rfl|rfl|rfl|rfl|rfl|rfl<;>decide
  ·have hm:m%10<10:=Nat.mod_lt m (by decide);have t:da 10 (m/10)++da 10 (m%10)=da 10 (10*(m/10)+m%10):=dh (by decide) (by lia) hm;rw[Nat.div_add_mod]at t;have ih:=vD (m/10) (by lia);rw[<-t]
   cases e:da 10 (m/10)with
   |nil=>have:=PySem.toDigits_len_ge 10 (m/10);rw[e]at this;simp at this
   |cons a r=>rw[e]at ih;exact ih
termination_by m=>m
theorem num_is {n:Int} {k:Nat} (h0:0<=n) (h1:n<10^(k+ 1)) (hk:k+ 1<=60):mv (PySem.Str.ofString (toString n))=true:=by
 obtain⟨f1,f2,f3⟩:=str_fig h0 h1;obtain⟨m,rfl⟩:=fJ h0;have e:=PySem.W.KIN.signs_num m;unfold mv;have z:(!qV (PySem.Str.ofString (toString ((m:Nat):Int)))||decide (PySem.Str.ofString (toString ((m:Nat):Int))="0"))=true:=by
  by_cases hm:m=0;·subst hm;decide+kernel
  ·have d:=vD m (by lia);have:qV (PySem.Str.ofString (toString ((m:Nat):Int)))=false:=by
    unfold qV;rw[e]
    cases q:da 10 m with
    |nil=>rfl
    |cons a r=>rw[q]at d;show(a.toNat==48)=false;refine beq_eq_false_iff_ne.mpr fun w=>d ?_;show some a=some '0';exact congrArg some (Char.toNat_inj.mp w)
   rw[this];rfl
 rw[z,hI f2,hI (show _<=60 by lia)];simp only[Bool.true_and,Bool.and_true];exact bR.mpr fun c hc=>hI (f1 c hc)
section
variable {d n:Nat} {ts:Zd}
end
instance {x:Str} {ts:Zd}:Decidable (Gp x ts):=inferInstanceAs (Decidable (_/\_))
instance {x:Str} {ts:Zd}:Decidable (Op x ts):=inferInstanceAs (Decidable (_=_))
section
variable {d n:Nat} {ts:Zd}
end
end GR.Internal
namespace TM.Internal
open PySem L2.Internal GR.Internal
inductive Kn
 |num (n:Int)
 |name (w:Str)
 |tag (w:Str)
 |get (w:Str)
 |rcd (l:Zd)
 |case (l:List (Str×Str))
inductive Tr
 |mk (κ:Kn) (ks:List Tr)
def Kn.ar:Kn->Nat
 | .num _=>0
 | .name _=>0
 | .tag _=>1
 | .get _=>1
 | .rcd l=>l.length
 | .case l=>l.length+ 1
def numS (n:Int):Str:=PySem.Str.ofString (toString n)
def Kn.ok:Kn->Prop
 | .num n=>0<=n/\n<10^60
 | .name w=>isName w=true
 | .tag w=>isName w=true
 | .get w=>isName w=true
 | .rcd l=>l.length<=6/\∀w∈l,isName w=true
 | .case l=>1<=l.length/\l.length<=6/\∀p∈l,isName p.1=true/\isName p.2=true
mutual
def Tr.sz:Tr->Nat
 | .mk _ ks=>1+szs ks
def szs:List Tr->Nat
 |[]=>0
 |t::ts=>t.sz+szs ts
end
mutual
def Tr.nest:Tr->Nat
 | .mk _ ks=>1+nests ks
def nests:List Tr->Nat
 |[]=>0
 |t::ts=>max t.nest (nests ts)
end
mutual
def Tr.ok:Tr->Prop
 | .mk κ ks=>κ.ok/\ks.length=κ.ar/\oks ks
def oks:List Tr->Prop
 |[]=>True
 |t::ts=>t.ok/\oks ts
end
def wv1:List Str->List (List Str)->List Str
 |w::l,k::ks=>w::(k++wv1 l ks)
 |_,_=>[]
def wv2:List (Str×Str)->List (List Str)->List Str
 |p::l,k::ks=>p.1::p.2::(k++wv2 l ks)
 |_,_=>[]
def Kn.ws:Kn->List (List Str)->List Str
 | .tag w,ks=>w::ks.flatten
 | .get w,ks=>ks.flatten++[w]
 | .rcd l,ks=>wv1 l ks
 | .case l,k::ks=>k++wv2 l ks
 |_,ks=>ks.flatten
def Kn.s:Kn->Str
 | .num _=>"num"
 | .name _=>"name"
 | .tag _=>"tag"
 | .get _=>"get"
 | .rcd _=>"rec"
 | .case _=>"case"
def Kn.tk (κ:Kn) (ks:List (List Str)):List Str:=match κ with
 | .num n=>[numS n]
 | .name w=>[w]
 |κ=>("(":Str)::κ.s::(κ.ws ks++[(")":Str)])
mutual
def Tr.tk:Tr->List Str
 | .mk κ ks=>κ.tk (tks ks)
def tks:List Tr->List (List Str)
 |[]=>[]
 |t::ts=>t.tk::tks ts
end
def sD (s:Str):Dt:= .flat (.str s)
def kD (k:Nat):Dt:= .flat (.int (k:Int))
def Kn.rw (κ:Kn) (ps:List Nat):List Dt:=match κ,ps with
 | .num n,_=>[sD "num",.flat (.int n)]
 | .name w,_=>[sD "name",sD w]
 | .tag w,ps=>sD "tag"::sD w::ps.map kD
 | .get w,ps=>sD "get"::(ps.map kD++[sD w])
 | .rcd l,ps=>[sD "rec",.tup ((l.zip ps).map fun p=> .tup [sD p.1,kD p.2])]
 | .case l,p::ps=>[sD "case",kD p,.tup ((l.zip ps).map fun p=> .tup [sD p.1.1,sD p.1.2,kD p.2])]
 | .case _,[]=>[]
def offs:List Tr->Nat->List Nat
 |[],_=>[]
 |t::ts,p=>p::offs ts (p+t.sz)
mutual
def Tr.rw:Tr->Nat->List Dt
 | .mk κ ks,p=> .tup (κ.rw (offs ks (p+ 1)))::rws ks (p+ 1)
def rws:List Tr->Nat->List Dt
 |[],_=>[]
 |t::ts,p=>t.rw p++rws ts (p+t.sz)
end
theorem offs_len:∀(ts:List Tr) (p:Nat),(offs ts p).length=ts.length
 |[],_=>rfl
 |t::ts,p=>by rw[offs,aA,aA,offs_len ts]
mutual
theorem Tr.rw_len:∀(t:Tr) (p:Nat),(t.rw p).length=t.sz
 | .mk κ ks,p=>by rw[Tr.rw,aA,rws_len ks,Tr.sz];lia
theorem rws_len:∀(ts:List Tr) (p:Nat),(rws ts p).length=szs ts
 |[],_=>by rw[rws,szs];rfl
 |t::ts,p=>by rw[rws,szs,aR,Tr.rw_len t,rws_len ts]
end
theorem CA:isName ")"=false/\mv ")"=false:=iq
theorem name_nc {w:Str} (h:isName w=true):w≠")":=fun z=>by rw[z,CA.1]at h;cases h
theorem set_at {rows more:List Dt} {x y:Dt}:(rows++[x]++more).set rows.length y=rows++y::more:=by rw[bV,List.set_append_right _ _ (cW _),di];rfl
theorem num_is {n:Int} (h0:0<=n) (h1:n<10^60):mv (numS n)=true/\Cz (numS n)=n:=by
 refine⟨GR.Internal.num_is (k:=59) h0 h1 (by decide),?_⟩;obtain⟨f1,f2,f3⟩:=str_fig (k:=59) h0 h1;have hd:PySem.NumText.AllDigits (numS n).cps.toList:=fun c hc=>yn c (f1 c hc);have hne:(numS n).cps.toList≠[]:=by obtain⟨c,r,e⟩:=first_of (x:=numS n) f2;rw[e];exact bS _ _
 have hl:(numS n).length<=60:=f3;have e:=PySem.intText_digits hd hne (by lia);unfold Cz;rw[e];obtain⟨m,rfl⟩:=fJ h0;unfold numS;rw[PySem.W.KIN.signs_num,PySem.W.KIN.val_back];rfl
theorem IP:∀c∈SM.cps.toList,¬c∈FG.cps.toList:=iq
theorem name_nn {w:Str} (h:isName w=true):¬mv w=true:=fun z=>by obtain⟨z1,_,z3⟩:=qW z;obtain⟨c,r,ec⟩:=first_of z1;unfold isName at h;simp only[fz]at h;have hf:=h.1.2;unfold firstIn at hf;rw[ec]at hf;exact IP c (of_decide_eq_true hf) (allIn_mem z3 c (by rw[ec];exact ah))
def ptr:List (Str ⊕ Tr)->List Tr
 |[]=>[]
 | .inl _::l=>ptr l
 | .inr t::l=>t::ptr l
def pw:List (Str ⊕ Tr)->List Str
 |[]=>[]
 | .inl w::l=>w::pw l
 | .inr t::l=>t.tk++pw l
def pd:List (Str ⊕ Tr)->Nat->List Dt
 |[],_=>[]
 | .inl w::l,p=>sD w::pd l p
 | .inr t::l,p=>kD p::pd l (p+t.sz)
def isL:Str ⊕ Tr->Bool
 | .inl _=>true
 | .inr _=>false
def okP (f:Nat):Str ⊕ Tr->Prop
 | .inl w=>isName w=true
 | .inr t=>t.ok/\t.nest<=f
abbrev Its:=List (Str×List (Str ⊕ Tr))
def itr:Its->List Tr
 |[]=>[]
 |i::l=>ptr i.2++itr l
def iw:Its->List Str
 |[]=>[]
 |i::l=>i.1::(pw i.2++iw l)
def idt:Its->Nat->List Dt
 |[],_=>[]
 |i::l,p=> .tup (sD i.1::pd i.2 p)::idt l (p+szs (ptr i.2))
theorem idt_len:∀(l:Its) (p:Nat),(idt l p).length=l.length
 |[],_=>rfl
 |i::l,p=>by rw[idt,aA,aA,idt_len l]
theorem pd_len:∀(l:List (Str ⊕ Tr)) (p:Nat),(pd l p).length=l.length
 |[],_=>rfl
 | .inl _::l,p=>by rw[pd,aA,aA,pd_len l]
 | .inr _::l,p=>by rw[pd,aA,aA,pd_len l]
theorem szs_app:∀a b:List Tr,szs (a++b)=szs a+szs b
 |[],b=>by rw[bW,szs,dj]
 |t::a,b=>by rw[aV,szs,szs,szs_app a b,dm]
theorem rws_app:∀(a b:List Tr) (p:Nat),rws (a++b) p=rws a p++rws b (p+szs a)
 |[],b,p=>by rw[bW,szs,rws,bW];rfl
 |t::a,b,p=>by rw[aV,rws,rws_app a b,rws,szs,bV,dm]
def fI:List Str->List Tr->Its
 |w::l,t::ts=>(w,[.inr t])::fI l ts
 |_,_=>[]
def aI:List (Str×Str)->List Tr->Its
 |p::l,t::ts=>(p.1,[.inl p.2,.inr t])::aI l ts
 |_,_=>[]
theorem fI_is:∀{l:Zd} {ts:List Tr},l.length=ts.length->itr (fI l ts)=ts/\iw (fI l ts)=wv1 l (tks ts)/\∀p,idt (fI l ts) p=(l.zip (offs ts p)).map fun p=> .tup [sD p.1,kD p.2]
 |[],[],_=>⟨rfl,rfl,fun _=>rfl⟩
 |w::l,t::ts,h=>by
  obtain⟨a,b,c⟩:=fI_is (l:=l) (ts:=ts) (dr.inj h);refine⟨congrArg (t::·) a,?_,fun p=>?_⟩;·rw[fI,iw,b,tks,wv1];simp only[pw,aE]
  ·rw[fI,idt,c,offs];simp only[ptr,szs,Nat.add_zero];rfl
theorem aI_is:∀{l:List (Str×Str)} {ts:List Tr},l.length=ts.length->itr (aI l ts)=ts/\iw (aI l ts)=wv2 l (tks ts)/\∀p,idt (aI l ts) p=(l.zip (offs ts p)).map fun p=> .tup [sD p.1.1,sD p.1.2,kD p.2]
 |[],[],_=>⟨rfl,rfl,fun _=>rfl⟩
 |w::l,t::ts,h=>by
  obtain⟨a,b,c⟩:=aI_is (l:=l) (ts:=ts) (dr.inj h);refine⟨congrArg (t::·) a,?_,fun p=>?_⟩;·rw[aI,iw,b,tks,wv2];simp only[pw,aE,aV]
  ·rw[aI,idt,c,offs];simp only[ptr,szs,Nat.add_zero];rfl
theorem fI_ok {f:Nat}:∀{l:Zd} {ts:List Tr},(∀w∈l,isName w=true)->oks ts->nests ts<=f->∀i∈fI l ts,isName i.1=true/\i.2.map isL=[false]/\∀x∈i.2,okP f x
 |[],_,_,_,_,i,hi=>nomatch(show i∈([]:Its)from hi)
 |_::_,[],_,_,_,i,hi=>nomatch(show i∈([]:Its)from hi)
 |w::l,t::ts,hw,ho,hn,i,hi=>by
  rw[oks]at ho;rw[nests]at hn;rw[fI]at hi;rcases ak.mp hi with rfl|hi;·exact⟨hw w ah,rfl,fun x hx=>by rw[bo.mp hx];exact⟨ho.1,by lia⟩⟩
  ·exact fI_ok (fun x hx=>hw x (aj _ hx)) ho.2 (by lia) i hi
theorem aI_ok {f:Nat}:∀{l:List (Str×Str)} {ts:List Tr},(∀p∈l,isName p.1=true/\isName p.2=true)->oks ts->nests ts<=f->∀i∈aI l ts,isName i.1=true/\i.2.map isL=[true,false]/\∀x∈i.2,okP f x
 |[],_,_,_,_,i,hi=>nomatch(show i∈([]:Its)from hi)
 |_::_,[],_,_,_,i,hi=>nomatch(show i∈([]:Its)from hi)
 |w::l,t::ts,hw,ho,hn,i,hi=>by
  rw[oks]at ho;rw[nests]at hn;rw[aI]at hi;rcases ak.mp hi with rfl|hi
  ·refine⟨(hw w ah).1,rfl,fun x hx=>?_⟩;rcases ak.mp hx with rfl|hx;·exact(hw w ah).2
   ·rw[bo.mp hx];exact⟨ho.1,by lia⟩
  ·exact aI_ok (fun x hx=>hw x (aj _ hx)) ho.2 (by lia) i hi
end TM.Internal
namespace K62.Internal
open PySem L2.Internal
theorem l0 {P:List Zz->Prop} (h:P []):∀us:List Zz,us.length=0->P us:=fun us e=>by rw[bX e];exact h
theorem lS {n:Nat} {P:List Zz->Prop} (h:∀a,∀us:List Zz,us.length=n->P (a::us)):∀us:List Zz,us.length=n+ 1->P us:=fun us e=>by
 cases us with
 |nil=>cases e
 |cons a t=>exact h a t (dr.inj e)
def top (i:Nat):Zq:=PySem.Challenge.pw_flowkinds_k62_records_and_tags.main.body.getD i (.Pass ⟨0,0,0,0⟩)
variable {K:Zp} {mg:Zc} {n q:Str} {st:Zq} {ps:Zd} {C:Zx} {h:Zt}
inductive Fm (K:Zp) (n:Str) (st:Zq):Prop
 |mk {f:Zx} {od an:Option Zx} {sl:Array (Option Zz)} {oc kV dc pm cd ct:Zz} (a:eQ K mainGlobals n=some (some (.ref f))) (l:K.lookup f=some ⟨oc,od,.func (eK n n (lB st) (kB st) (gv st) .none kV dc pm an cd ct),sl⟩) (c:eL K cd n=true) (k:eA K (.ref f)=true)
inductive Mm (K:Zp) (C:Zx) (n q:Str) (st:Zq):Prop
 |mk {f:Zx} {od an:Option Zx} {sl:Array (Option Zz)} {oc kV dc pm cd ct:Zz} (i:dQ K (.ref C) n=some (some (.ref f))) (j:dS K (.ref f)=true) (l:K.lookup f=some ⟨oc,od,.func (eK n q (lB st) (kB st) (gv st) .none kV dc pm an cd ct),sl⟩) (c:eL K cd q=true) (k:eA K (.ref f)=true)
structure Cm (K:Zp) (n:Str) (C:Zx):Prop where
 a:eQ K mainGlobals n=some (some (.ref C))
 pg:dO K C Str.empty=true
 hd:dP K C=true
 po:dU K C=true
 sa:dQ K (.ref C) "__setattr__"=some (some (.builtin "object.__setattr__"))
 t1:dQ K (.ref C) "__class__"=some (some (.builtin "object.__class__"))
 t2:ee K (.builtin "object.__class__") "__get__"=some (some (.builtin "getset_descriptor.__get__"))
 t3:PySem.W.takesIn K (.builtin "object.__class__")=some true
 t4:PySem.W.mroIn K C (.type "object")=some true
 ms:dY K C=true
 kc:eA K (.ref C)=true
structure Fx (K:Zp) (mg:Zc) (n:Str) (st:Zq) (ps:Zd) where
 a:Zx
 fd:Zs
 F:Fun K n n st a fd
 b:oR K fd ps []
 m:mg n=some (.ref a)
 k:eA K (.ref a)=true
structure Mx (K:Zp) (C:Zx) (n q:Str) (st:Zq) (ps:Zd) where
 a:Zx
 fd:Zs
 F:Fun K n q st a fd
 b:oR K fd ps []
 me:HH K C n a
structure Ck (K:Zp) (mg:Zc) (n:Str) where
 a:Zx
 m:mg n=some (.ref a)
 cl:Cls K a
 ty:∀(H:Hp) (x dx:Zx) (fs:List (Str×V)),H x=some (.ins a dx fs)->wC K H (.ref x) (.ref a)
def Bf (n q:Str) (st:Zq) (ps:Zd):Prop:=∀(kV doc pm:Zz) (an:Option Zx) (cdv ct:Zz) (us:List Zz),us.length=ps.length->bindArgs (eK n q (lB st) (kB st) (gv st) .none kV doc pm an cdv ct) ⟨us,[]⟩=pure (ps.zip us)
def Fm.x (X:K.In h) (G:h.Ns mainGlobals mg) (a:Fm K n st) (hb:Bf n n st ps:=by intro _ _ _ _ _ _;repeat(first|exact l0 rfl|refine lS fun _=>?_)):Fx K mg n st ps:=Classical.choice (by obtain⟨a,l,c,k⟩:=a;exact⟨⟨_,_,qO l c k,(qO l c k).binds hb,eS X G a,k⟩⟩)
def Mm.x (a:Mm K C n q st) (hb:Bf n q st ps:=by intro _ _ _ _ _ _;repeat(first|exact l0 rfl|refine lS fun _=>?_)):Mx K C n q st ps:=Classical.choice (by obtain⟨i,j,l,c,k⟩:=a;exact⟨⟨_,_,qO l c k,(qO l c k).binds hb,⟨i,j,k⟩⟩⟩)
def Cm.x (X:K.In h) (G:h.Ns mainGlobals mg) (a:Cm K n C):Ck K mg n:=⟨C,eS X G a.a,⟨a.pg,a.hd,a.po,a.sa⟩,fun _ _ _ _ e=> .ins e ⟨a.pg,a.hd,a.po,a.sa⟩ a.t1 a.t2 a.t3 a.t4⟩
theorem sf {x:Option (Option Zz)} {a b:Zx} (h1:x=some (some (.ref a))) (h2:x=some (some (.ref b))):a=b:=by rw[h1]at h2;cases h2;rfl
theorem Cm.k (a:Cm K n C) (x:Mx K C "__init__" q st ps):Mk K C x.a:=⟨a.ms,x.me.at_,x.me.fn,a.kc⟩
abbrev FO (P:Zu) (w:Zv) (base:Zt) (k:Nat) (x:Fx K mg n st ps) (sp:Sp):Prop:=sA P w K mg base CX0 k x.a x.fd ps sp
abbrev MO (P:Zu) (w:Zv) (base:Zt) (mg:Zc) (k:Nat) (x:Mx K C n q st ps) (sp:Sp):Prop:=sA P w K mg base CX0 k x.a x.fd ps sp
abbrev oY:Zq:=top 6
abbrev nK:Zq:=top 7
abbrev AS:Zq:=top 8
abbrev lU:Zq:=top 12
abbrev mE:Zq:=top 13
abbrev oZ:Zq:=top 14
abbrev nL:Zq:=top 15
abbrev pb:Zq:=top 19
abbrev ph:Zq:=top 20
abbrev pj:Zq:=top 21
abbrev nM:Zq:=top 22
abbrev EJ:Zq:=top 33
abbrev pk:Zq:=top 48
abbrev qX:Zq:=top 49
abbrev nO:Zq:=top 50
abbrev qY:Zq:=top 51
abbrev AU:Zq:=top 52
abbrev lV:Zq:=top 53
abbrev pA:Zq:=top 56
abbrev lE:Zq:=top 57
abbrev mF:Zq:=top 58
abbrev qZ:Zq:=top 59
abbrev lW:Zq:=top 60
abbrev lF:Zq:=top 61
abbrev rf:Zq:=top 62
abbrev nP:Zq:=top 64
abbrev mG:Zq:=top 65
abbrev nQ:Zq:=top 66
abbrev lX:Zq:=top 67
abbrev mI:Zq:=top 68
abbrev nR:Zq:=top 69
abbrev lY:Zq:=top 70
abbrev mJ:Zq:=top 72
abbrev lZ:Zq:=top 73
abbrev nS:Zq:=top 74
abbrev mK:Zq:=top 75
abbrev l6:Zq:=top 76
abbrev pB:Zq:=top 77
abbrev nT:Zq:=top 78
abbrev nU:Zq:=top 79
abbrev pE:Zq:=top 80
abbrev pG:Zq:=top 81
abbrev pH:Zq:=top 82
abbrev mL:Zq:=top 83
abbrev nV:Zq:=top 84
abbrev mM:Zq:=top 85
abbrev mO:Zq:=top 86
abbrev tV:Zq:=top 87
abbrev qg:Zq:=iF (top 3) 0
abbrev pI:Zq:=iF (top 4) 0
abbrev jP:Zq:=iF (top 11) 0
abbrev jd:Zq:=iF (top 11) 1
abbrev ju:Zq:=iF (top 11) 2
abbrev kJ:Zq:=iF (top 11) 3
abbrev jv:Zq:=iF (top 11) 4
abbrev jw:Zq:=iF (top 11) 5
abbrev kC:Zq:=iF (top 11) 6
abbrev ke:Zq:=iF (top 11) 7
abbrev kK:Zq:=iF (top 11) 8
abbrev lG:Zq:=iF (top 32) 0
abbrev jQ:Zq:=iF (top 47) 0
abbrev kg:Zq:=iF (top 54) 0
abbrev lH:Zq:=iF (top 54) 1
abbrev l7:Zq:=iF (top 54) 2
abbrev jR:Zq:=iF (top 54) 3
abbrev jS:Zq:=iF (top 54) 4
abbrev jT:Zq:=iF (top 54) 5
abbrev kh:Zq:=iF (top 54) 6
abbrev jU:Zq:=iF (top 54) 7
abbrev jx:Zq:=iF (top 54) 8
abbrev jy:Zq:=iF (top 54) 9
abbrev jV:Zq:=iF (top 54) 10
theorem scK {N ps:Zd} {s:Scope} (h:gB N ps s:=by constructor<;>first|rfl|decide+kernel):gB N ps s:=h
structure Ek (K:Zp) (mg:Zc) (n:Str) where
 a:Zx
 m:mg n=some (.ref a)
inductive Jm (K:Zp) (C:Zx) (q:Str) (st:Zq):Prop
 |mk {f:Zx} {od an:Option Zx} {sl:Array (Option Zz)} {oc kV dc pm cd ct:Zz} {N:Zx} {z1 z2:Str} {y1 y2 y3:List Zz} {y4:Zd} {y5:Bool} {y6:Option Bool} {y7:Option Zx} {k0 k1 k2 k3 k5:Option Zz} (xl:K.lookup C=some ⟨.type "type",y7,.cls ⟨z1,y1,.ref C::y2,N,z2,true,y4,y3,y5,y6,false⟩,#[k0,k1,k2,k3,some (.builtin "ValueError.__new__"),k5]⟩) (xi:eQ K N "__init__"=some (some (.ref f)))
  (l:K.lookup f=some ⟨oc,od,.func (eK "__init__" q (lB st) (kB st) (gv st) .none kV dc pm an cd ct),sl⟩) (c:eL K cd q=true) (k:eA K (.ref f)=true) (xz:eP K N=true) (xt:eR K Es y2=true) (xp:oc= .type "function") (xj:dQ K (.ref C) "__setattr__"=some (some (.builtin "object.__setattr__")))
  (xa:dQ K (.ref C) "__getattribute__"=some (some (.builtin "BaseException.__getattribute__"))) (xb:dQ K (.ref C) "__getattr__"=some none) (xc:dQ K (.ref C) "__class__"=some (some (.builtin "object.__class__"))) (xd:eO K (.ref C) (.type "BaseException")=some true) (xe:eO K (.ref C) (.type "object")=some true) (xf:dP K C=true)
structure Jx (K:Zp) (C:Zx) (q:Str) (st:Zq) (ps:Zd) where
 a:Zx
 fd:Zs
 F:Fun K "__init__" q st a fd
 b:oR K fd ps []
 xi:JP K C a
 xs:JO K C
def Jm.x (a:Jm K C q st) (hb:Bf "__init__" q st ps:=by intro _ _ _ _ _ _;repeat(first|exact l0 rfl|refine lS fun _=>?_)):Jx K C q st ps:=Classical.choice (by obtain⟨xl,xi,l,c,k,xz,xt,xp,xj,xa,xb,xc,xd,xe,xf⟩:=a;exact⟨⟨_,_,qO l c k,(qO l c k).binds hb,GJ xl xz xi xt l xp,GI xl xt ⟨xa,xb,xc,xd,xe,xf⟩ xj⟩⟩)
set_option genInjectivity false in
set_option genSizeOf false in
structure Txt (K:Zp) (mg:Zc) where
 t1:Tok
 o1:mg "MOST_JOINED"=some (.int 60 t1)
 t2:Tok
 o2:mg "LETTERS"=some (.str "abcdefghijklmnopqrstuvwxyz" t2)
 t3:Tok
 o3:mg "FIGURES"=some (.str "0123456789" t3)
 t4:Zx
 o4:mg "KEPT_WORDS"=some (.ref t4)
 r4:∀H:Hp,SqT K H t4 [V.str "def",V.str "fn",V.str "call",V.str "let",V.str "rec",V.str "get",V.str "tag",V.str "case",V.str "row",V.str "at",V.str "join",V.str "size",V.str "add",V.str "sub",V.str "less"]
 t5:Tok
 o5:mg "MOST_FIGURES"=some (.int 60 t5)
 t6:Tok
 o6:mg "MOST_SIGNS"=some (.int 12 t6)
 t7:Tok
 o7:mg "MOST_DEFINITIONS"=some (.int 12 t7)
 t8:Tok
 o8:mg "MOST_FIELDS"=some (.int 6 t8)
 t9:Tok
 o9:mg "MOST_ARMS"=some (.int 6 t9)
 t10:Tok
 o10:mg "MOST_THINGS"=some (.int 8 t10)
 t11:Tok
 o11:mg "MOST_PLACES"=some (.int 160 t11)
 t12:Tok
 o12:mg "MOST_NEST"=some (.int 24 t12)
 d1:Fx K mg "parts_of" oY ["row"]
 d2:Fx K mg "places_in" nK ["row"]
 d3:Fx K mg "flat" AS ["parts"]
 d4:Fx K mg "first_parts" lU ["row"]
 d5:Fx K mg "held_value" mE ["scope","place"]
 d6:Fx K mg "work_num" oZ ["machine","row","place","scope","parts"]
 d7:Fx K mg "work_name" nL ["machine","row","place","scope","parts"]
 d8:Fx K mg "work_rec" pb ["machine","row","place","scope","parts"]
 d9:Fx K mg "work_get" ph ["machine","row","place","scope","parts"]
 d10:Fx K mg "work_tag" pj ["machine","row","place","scope","parts"]
 d11:Fx K mg "work_case" nM ["machine","row","place","scope","parts"]
 d12:Fx K mg "run" EJ ["program","homes","turns"]
 d13:Fx K mg "words_of" pk ["text"]
 d14:Fx K mg "is_name" qX ["word"]
 d15:Fx K mg "is_number" nO ["word"]
 d16:Fx K mg "made_of" qY ["word","signs"]
 d17:Fx K mg "read" AU ["text"]
 d18:Fx K mg "check_count" lV ["what","count","least","most"]
 d19:Fx K mg "homes_of" pA ["program"]
 d20:Fx K mg "refuse_twice" lE ["words"]
 d21:Fx K mg "words_once" mF ["row"]
 d22:Fx K mg "home_of" qZ ["row","place","scope"]
 d23:Fx K mg "root_scopes" lW ["program"]
 d24:Fx K mg "inner_scopes" lF ["row","scope"]
 d25:Fx K mg "widened" rf ["scope","name","home"]
 d26:Fx K mg "_law_stem" nP ["_law_cell","_law_size"]
 d27:Fx K mg "_law_words" mG ["_law_cell"]
 d28:Fx K mg "_law_mark" nQ ["_law_fresh"]
 d29:Fx K mg "_law_number" lX ["_law_fresh","_law_n"]
 d30:Fx K mg "_law_named" mI ["_law_fresh","_law_word","_law_value"]
 d31:Fx K mg "_law_form" nR ["_law_at","_law_words_here","_law_items_here"]
 d32:Fx K mg "_law_valued" lY ["_law_whole_here","_law_value","_law_meets"]
 d33:Fx K mg "_law_unrun" mJ ["_law_item"]
 d34:Fx K mg "_law_placed" lZ ["_law_items_here"]
 d35:Fx K mg "_law_text" nS ["_law_words_here","_law_items_here"]
 d36:Fx K mg "_law_whole" mK ["_law_x"]
 d37:Fx K mg "_law_tuples" l6 ["_law_found","_law_due","_law_size"]
 d38:Fx K mg "_law_ran" pB ["_law_text_here","_law_turns"]
 d39:Fx K mg "_law_told" nT ["_law_found","_law_end","_law_begun","_law_placed_here"]
 d40:Fx K mg "_law_many" nU ["_law_fresh","_law_c"]
 d41:Fx K mg "_law_rec" pE ["_law_fresh","_law_words_here","_law_item","_law_c"]
 d42:Fx K mg "_law_tag" pG ["_law_fresh","_law_words_here","_law_item","_law_c"]
 d43:Fx K mg "_law_got" pH ["_law_fresh","_law_item","_law_c"]
 d44:Fx K mg "_law_cased" mL ["_law_fresh","_law_words_here","_law_item","_law_c"]
 d45:Fx K mg "_law_next" nV ["_law_fresh","_law_words_here","_law_item","_law_cell"]
 d46:Fx K mg "_law_items" mM ["_law_words_here","_law_script"]
 d47:Fx K mg "_law_alike" mO ["_law_found","_law_due","_law_places"]
 c1:Ck K mg "Machine"
 n1program:iN K c1.a "program"
 n1homes:iN K c1.a "homes"
 n1turns:iN K c1.a "turns"
 n1begun:iN K c1.a "begun"
 n1end:iN K c1.a "end"
 n1meets:iN K c1.a "meets"
 n1had:iN K c1.a "had"
 n1defined:iN K c1.a "defined"
 n1steps:iN K c1.a "steps"
 n1ready:iN K c1.a "ready"
 e48:Mx K c1.a "__init__" "Machine.__init__" jP ["self","program","homes","turns"]
 mk1:Mk K c1.a e48.a
 e49:Mx K c1.a "work_program" "Machine.work_program" jd ["self"]
 e50:Mx K c1.a "work_steps" "Machine.work_steps" ju ["self"]
 e51:Mx K c1.a "begin" "Machine.begin" kJ ["self","place","scope"]
 e52:Mx K c1.a "work_parts" "Machine.work_parts" jv ["self","place","scope"]
 e53:Mx K c1.a "take_ready" "Machine.take_ready" jw ["self","count"]
 e54:Mx K c1.a "finish" "Machine.finish" kC ["self","place","value"]
 e55:Mx K c1.a "go_into" "Machine.go_into" ke ["self","body","scope","place"]
 e56:Mx K c1.a "comes" "Machine.comes" kK ["self","value","place","slot","fits"]
 c2:Ck K mg "Run"
 n2end:iN K c2.a "end"
 n2value:iN K c2.a "value"
 n2meets:iN K c2.a "meets"
 n2had:iN K c2.a "had"
 n2begun:iN K c2.a "begun"
 e57:Mx K c2.a "__init__" "Run.__init__" lG ["self","end","value","meets","had","begun"]
 mk2:Mk K c2.a e57.a
 c3:Ck K mg "Program"
 n3names:iN K c3.a "names"
 n3roots:iN K c3.a "roots"
 n3rows:iN K c3.a "rows"
 e58:Mx K c3.a "__init__" "Program.__init__" jQ ["self","names","roots","rows"]
 mk3:Mk K c3.a e58.a
 c4:Ck K mg "Reader"
 n4words:iN K c4.a "words"
 n4taken:iN K c4.a "taken"
 n4rows:iN K c4.a "rows"
 e59:Mx K c4.a "__init__" "Reader.__init__" kg ["self","words"]
 mk4:Mk K c4.a e59.a
 e60:Mx K c4.a "ahead" "Reader.ahead" lH ["self"]
 e61:Mx K c4.a "take" "Reader.take" l7 ["self"]
 e62:Mx K c4.a "pass_over" "Reader.pass_over" jR ["self","wanted"]
 e63:Mx K c4.a "take_name" "Reader.take_name" jS ["self"]
 e64:Mx K c4.a "take_expr" "Reader.take_expr" jT ["self","depth"]
 e65:Mx K c4.a "take_row" "Reader.take_row" kh ["self","depth"]
 e66:Mx K c4.a "take_form" "Reader.take_form" jU ["self","head","depth"]
 e67:Mx K c4.a "take_steady" "Reader.take_steady" jx ["self","parts","depth"]
 e68:Mx K c4.a "take_fields" "Reader.take_fields" jy ["self","depth"]
 e69:Mx K c4.a "take_arms" "Reader.take_arms" jV ["self","depth"]
 z_ValueError:mg "ValueError"=none
 z_all:mg "all"=none
 z_bool:mg "bool"=none
 z_dict:mg "dict"=none
 z_enumerate:mg "enumerate"=none
 z_int:mg "int"=none
 z_isinstance:mg "isinstance"=none
 z_len:mg "len"=none
 z_list:mg "list"=none
 z_max:mg "max"=none
 z_min:mg "min"=none
 z_range:mg "range"=none
 z_reversed:mg "reversed"=none
 z_str:mg "str"=none
 z_sum:mg "sum"=none
 z_tuple:mg "tuple"=none
 z_zip:mg "zip"=none
theorem wL:gB ["row"] ["row"] (gv oY):=scK
theorem vE:gB ["row"] ["row"] (gv nK):=scK
theorem tW:gB ["parts","found","part"] ["parts"] (gv AS):=scK
theorem rR:gB ["row"] ["row"] (gv lU):=scK
theorem l8:gB ["scope","place","around"] ["scope","place"] (gv mE):=scK
theorem wM:gB ["machine","row","place","scope","parts"] ["machine","row","place","scope","parts"] (gv oZ):=scK
theorem pY:gB ["machine","row","place","scope","parts","home"] ["machine","row","place","scope","parts"] (gv nL):=scK
theorem rh:gB ["machine","row","place","scope","parts","fields"] ["machine","row","place","scope","parts"] (gv pb):=scK
theorem rj:gB ["machine","row","place","scope","parts","fields"] ["machine","row","place","scope","parts"] (gv ph):=scK
theorem wN:gB ["machine","row","place","scope","parts"] ["machine","row","place","scope","parts"] (gv pj):=scK
theorem lj:gB ["machine","row","place","scope","parts","bodies","tagged","body"] ["machine","row","place","scope","parts"] (gv nM):=scK
theorem AV:gB ["program","homes","turns","machine","value"] ["program","homes","turns"] (gv EJ):=scK
theorem rk:gB ["text","spaced"] ["text"] (gv pk):=scK
theorem zE:gB ["word"] ["word"] (gv qX):=scK
theorem vF:gB ["word"] ["word"] (gv nO):=scK
theorem zF:gB ["word","signs"] ["word","signs"] (gv qY):=scK
theorem tX:gB ["text","reader","names","roots"] ["text"] (gv AU):=scK
theorem rS:gB ["what","count","least","most"] ["what","count","least","most"] (gv lV):=scK
theorem ki:gB ["program","scopes","homes","place","row","scope"] ["program"] (gv pA):=scK
theorem kM:gB ["words","seen","word"] ["words"] (gv lE):=scK
theorem tY:gB ["row"] ["row"] (gv mF):=scK
theorem zG:gB ["row","place","scope"] ["row","place","scope"] (gv qZ):=scK
theorem iI:gB ["program","scopes","earlier","number","name","root","later"] ["program"] (gv lW):=scK
theorem jW:gB ["row","scope","scopes","place","arm"] ["row","scope"] (gv lF):=scK
theorem sJ:gB ["scope","name","home","wider"] ["scope","name","home"] (gv rf):=scK
theorem iV:gB ["_law_cell","_law_size","_law_signs","_law_stem_here","_law_k","_law_many_here"] ["_law_cell","_law_size"] (gv nP):=scK
theorem hV:gB ["_law_cell","_law_size","_law_words_here","_law_stem_here","_law_at","_law_k","_law_word","_law_part"] ["_law_cell"] (gv mG):=scK
theorem vG:gB ["_law_fresh"] ["_law_fresh"] (gv nQ):=scK
theorem nE:gB ["_law_fresh","_law_n","_law_at"] ["_law_fresh","_law_n"] (gv lX):=scK
theorem oE:gB ["_law_fresh","_law_word","_law_value","_law_at"] ["_law_fresh","_law_word","_law_value"] (gv mI):=scK
theorem jj:gB ["_law_at","_law_words_here","_law_items_here","_law_texts","_law_whole_here","_law_k","_law_word","_law_part"] ["_law_at","_law_words_here","_law_items_here"] (gv nR):=scK
theorem rT:gB ["_law_whole_here","_law_value","_law_meets"] ["_law_whole_here","_law_value","_law_meets"] (gv lY):=scK
theorem tZ:gB ["_law_item"] ["_law_item"] (gv mJ):=scK
theorem iB:gB ["_law_items_here","_law_places","_law_item","_law_mark_here","_law_had","_law_meets"] ["_law_items_here"] (gv lZ):=scK
theorem vH:gB ["_law_words_here","_law_items_here"] ["_law_words_here","_law_items_here"] (gv nS):=scK
theorem ua:gB ["_law_x"] ["_law_x"] (gv mK):=scK
theorem nF:gB ["_law_found","_law_due","_law_size","_law_one"] ["_law_found","_law_due","_law_size"] (gv l6):=scK
theorem rm:gB ["_law_text_here","_law_turns","_law_program"] ["_law_text_here","_law_turns"] (gv pB):=scK
theorem vI:gB ["_law_found","_law_end","_law_begun","_law_placed_here"] ["_law_found","_law_end","_law_begun","_law_placed_here"] (gv nT):=scK
theorem vJ:gB ["_law_fresh","_law_c"] ["_law_fresh","_law_c"] (gv nU):=scK
theorem iR:gB ["_law_fresh","_law_words_here","_law_item","_law_c","_law_many_here","_law_spot","_law_names","_law_parts","_law_at","_law_pattern","_law_name","_law_value"] ["_law_fresh","_law_words_here","_law_item","_law_c"] (gv pE):=scK
theorem nX:gB ["_law_fresh","_law_words_here","_law_item","_law_c","_law_at","_law_word"] ["_law_fresh","_law_words_here","_law_item","_law_c"] (gv pG):=scK
theorem nY:gB ["_law_fresh","_law_item","_law_c","_law_at","_law_field"] ["_law_fresh","_law_item","_law_c"] (gv pH):=scK
theorem iC:gB ["_law_fresh","_law_words_here","_law_item","_law_c","_law_many_here","_law_spot","_law_base","_law_held","_law_at","_law_pattern","_law_parts","_law_k"] ["_law_fresh","_law_words_here","_law_item","_law_c"] (gv mL):=scK
theorem pZ:gB ["_law_fresh","_law_words_here","_law_item","_law_cell","_law_c"] ["_law_fresh","_law_words_here","_law_item","_law_cell"] (gv nV):=scK
theorem iP:gB ["_law_words_here","_law_script","_law_fresh","_law_items_here","_law_start","_law_item","_law_cell"] ["_law_words_here","_law_script"] (gv mM):=scK
theorem kH:gB ["_law_found","_law_due","_law_places","_law_one","_law_wanted"] ["_law_found","_law_due","_law_places"] (gv mO):=scK
theorem vK:gB ["_law_script","_law_words_here","_law_items_here","_law_placed_here","_law_found"] ["_law_script"] (gv tV):=scK
theorem zH:gB ["self","word"] ["self","word"] (gv qg):=scK
theorem yr:gB ["self","word","place"] ["self","word","place"] (gv pI):=scK
theorem nZ:gB ["self","program","homes","turns"] ["self","program","homes","turns"] (gv jP):=scK
theorem jX:gB ["self","root"] ["self"] (gv jd):=scK
theorem ky:gB ["self","step"] ["self"] (gv ju):=scK
theorem mj:gB ["self","place","scope","part"] ["self","place","scope"] (gv kJ):=scK
theorem kz:gB ["self","place","scope","row"] ["self","place","scope"] (gv jv):=scK
theorem jk:gB ["self","count","taken","number"] ["self","count"] (gv jw):=scK
theorem pJ:gB ["self","place","value"] ["self","place","value"] (gv kC):=scK
theorem oF:gB ["self","body","scope","place"] ["self","body","scope","place"] (gv ke):=scK
theorem qh:gB ["self","value","place","slot","fits"] ["self","value","place","slot","fits"] (gv kK):=scK
theorem rp:gB ["self","end","value","meets","had","begun"] ["self","end","value","meets","had","begun"] (gv lG):=scK
theorem n6:gB ["self","names","roots","rows"] ["self","names","roots","rows"] (gv jQ):=scK
theorem oG:gB ["self","words"] ["self","words"] (gv kg):=scK
theorem rq:gB ["self"] ["self"] (gv lH):=scK
theorem nG:gB ["self","word"] ["self"] (gv l7):=scK
theorem kN:gB ["self","wanted","word"] ["self","wanted"] (gv jR):=scK
theorem kO:gB ["self","word"] ["self"] (gv jS):=scK
theorem jH:gB ["self","depth","place"] ["self","depth"] (gv jT):=scK
theorem jY:gB ["self","depth","word","row"] ["self","depth"] (gv kh):=scK
theorem kP:gB ["self","head","depth","subject"] ["self","head","depth"] (gv jU):=scK
theorem jm:gB ["self","parts","depth","found","part"] ["self","parts","depth"] (gv jx):=scK
theorem kA:gB ["self","depth","found"] ["self","depth"] (gv jy):=scK
theorem kQ:gB ["self","depth","found"] ["self","depth"] (gv jV):=scK
def yt (K:Zp):Sp:=fun vs H Q _=>∃(a:Zx) (ns:List Int),vs=[.ref a]/\SqL K H a (ns.map V.int)/\ns.length<=63/\∀H',Q (.bl true) H'
theorem _root_.L2.Internal.Fun.rd {P:Zu} {w:Zv} {base:Zt} {f:Zx} {fd:Zs} {N:Zd} {k:Nat} {sp:Sp} (F:Fun K n q st f fd) (S:gB N ps (gv st)) (hbody:∀(cdv:Zz) (A:Zw) (outer:List Env) (s:Zy) (H:Hp) (vs:List V) (Q:VK) (E:XK),mZ k (A.deeper (PyProof.Rows.envOfC q (gv st) s.heap.objs.size f cdv))->sp vs H Q E->∃t,PSs (B0 CX0 P w K mg base N q (gv st) f cdv A outer s H E).nox (kB st) t/\t {nx:=fun _ H'=>Q .non H',rt:=Q} (qc N vs) H) (len:∀vs H Q E,sp vs H Q E->vs.length=ps.length:=by intro _ _ _ _ h;repeat(first|(obtain⟨rfl,_⟩:=h;rfl)|(cases h;first|(subst_vars;rfl)|rename_i h))):sA P w K mg base CX0 (k+ 1) f fd ps sp:=F.ok S len hbody
section
variable {X:Cx}
theorem pF {e:Zr} {es:List Zr} {pos p:Pos} {k:Nat} {sp:Sp} {t:TA} (x:Fx X.K X.mg n st ps) (F:sA X.prog X.w X.K X.mg X.base CX0 k x.a x.fd ps sp) (hr:mZ k X.A) (ha:PA X (e::es) t) (hg:Gl X n:=by exact rfl) (hdb:autoParam ((n==("__debug__":Str))=false) L2.Internal.auD._auto_1) (he:autoParam (starEach (e::es) X.env=(false,eval e X.env)::starEach es X.env) L2.Internal.auR._auto_1) (hpl:autoParam ((backTo pos (starEach es X.env)).any (·.1)=false) L2.Internal.auR._auto_1):PE X (.Call (.Name n p) (e::es) [] pos) (B8 sp [] E0 t):=Ee F hr hg x.m x.k x.b .nil iO ha hdb he hpl
theorem pS {i:Nat} {x:Str} {e:Zr} {te:TE} {pos pos':Pos} (hN:X.N.Nodup) (he:PE X e te) (hi:autoParam (X.N[i]?=some x) L2.Internal.auR._auto_1) (hx:Loc X.env.scope x:=by first|exact .inl rfl|exact .inr rfl) (hs:autoParam (swapsWith e (some (.Name x pos')) pos.line X.env=pure false) L2.Internal.auR._auto_1) (hf:autoParam (X.fn x=true\/X.env.scope.names.lookup x=some .local) L2.Internal.auL._auto_1):PS X (.Assign [.Name x pos'] e pos) (FV te (gY i)):=FW hN hi hx he hs hf
theorem pN {i:Nat} {x:Str} {pos:Pos} (hN:X.N.Nodup) (hi:autoParam (X.N[i]?=some x) L2.Internal.auR._auto_1) (hx:Loc X.env.scope x:=by first|exact .inl rfl|exact .inr rfl) (hf:autoParam (X.fn x=true\/X.env.scope.names.lookup x=some .local) L2.Internal.auL._auto_1):PG X (.Name x pos) (gY i):=wA hN hi hx hf
theorem GN {scope:Scope} {x:Str} (ns:Zd) (cap:List (Str×Nat×Zx)) (hns:autoParam (cap.map (·.1)=ns) L2.Internal.auR._auto_1) (hk:autoParam (scope.kind= .function) L2.Internal.auR._auto_1) (hn:∀p∈scope.names,p.2≠ .cell/\(p.2= .free->p.1∈ns):=by decide+kernel) (hl:∀y∈scope.names,y.2= .local->scope.names.lookup y.1=some .local:=by decide+kernel)
  (hx:autoParam (scope.names.lookup x=some .local) L2.Internal.auR._auto_1) (hnd:(x::ns).Nodup:=by decide+kernel) (hc:autoParam (closureFor scope X.env=pure (cap.map fun p=>(p.1,p.2.2))) L2.Internal.auR._auto_1) (hok:autoParam (X.env.scope.kind= .function) L2.Internal.auR._auto_1)
  (h:∀p∈cap,scope.names.lookup p.1=some .free/\X.env.cells.lookup p.1=some p.2.2/\X.env.scope.names.lookup p.1=some .cell/\X.N[p.2.1]?=some p.1:=by repeat(first|refine bY.mpr ⟨⟨rfl,rfl,rfl,rfl⟩,?_⟩|exact fun _ h=>absurd h bI)):
  oU X (x::ns) scope (cap.map fun p=>(p.1,p.2.2)) (fun σ=>none::cap.map fun p=>σ.getD p.2.1 none) 0 x:=blkC ns cap hns hk hn hl hx hnd hc hok h
theorem IQ {scope:Scope} {x y:Str} (ns:Zd) (cap:List (Str×Nat×Zx)) (hns:autoParam (cap.map (·.1)=ns) L2.Internal.auR._auto_1) (hk:autoParam (scope.kind= .function) L2.Internal.auR._auto_1) (hn:∀p∈scope.names,p.2≠ .cell/\(p.2= .free->p.1∈ns):=by decide+kernel) (hl:∀y∈scope.names,y.2= .local->scope.names.lookup y.1=some .local:=by decide+kernel)
  (hx:autoParam (scope.names.lookup x=some .local) L2.Internal.auR._auto_1) (hnd:(x::y::ns).Nodup:=by decide+kernel) (hc:autoParam (closureFor scope X.env=pure (cap.map fun p=>(p.1,p.2.2))) L2.Internal.auR._auto_1) (hok:autoParam (X.env.scope.kind= .function) L2.Internal.auR._auto_1)
  (h:∀p∈cap,scope.names.lookup p.1=some .free/\X.env.cells.lookup p.1=some p.2.2/\X.env.scope.names.lookup p.1=some .cell/\X.N[p.2.1]?=some p.1:=by repeat(first|refine bY.mpr ⟨⟨rfl,rfl,rfl,rfl⟩,?_⟩|exact fun _ h=>absurd h bI)):
  oU X (x::y::ns) scope (cap.map fun p=>(p.1,p.2.2)) (fun σ=>none::none::cap.map fun p=>σ.getD p.2.1 none) 0 x:=IE ns cap hns hk hn hl hx hnd hc hok h
theorem pgP {scope:Scope} {cl:List (Str×Zx)} {x y:Str} {ns:Zd} {px py tp:Pos} {kk:Nat} (hc:X.calm=true) (nd:(x::y::ns).Nodup) (hx:scope.names.lookup x=some .local) (hy:scope.names.lookup y=some .local) (C:Zx) (s₀:Zy) (H₀:Hp) (ex:List Zx) (pz:Za):PG (blk X (x::y::ns) scope cl C s₀ H₀ ex pz) (.Tuple [.Name x px,.Name y py] kk tp) (FU X.K 2 (sY (gY 0) (sY (gY 1) FT))):=
 xU (n:=2) (X:=blk X (x::y::ns) scope cl C s₀ H₀ ex pz) hc (kZ (wA (X:=blk X (x::y::ns) scope cl C s₀ H₀ ex pz) (i:=0) nd rfl (.inl (lookup_relabel_local hx)) (.inr (lookup_relabel_local hx))) (kZ (wA (X:=blk X (x::y::ns) scope cl C s₀ H₀ ex pz) (i:=1) nd rfl (.inl (lookup_relabel_local hy)) (.inr (lookup_relabel_local hy))) sZ))
end
end K62.Internal
inductive X2 {a0 a1:Type} (p:a0->a1->Prop):Prop
 |mk x0 x1:p x0 x1->X2 p
inductive X3 {a0 a1 a2:Type} (p:a0->a1->a2->Prop):Prop
 |mk x0 x1 x2:p x0 x1 x2->X3 p
inductive X4 {a0 a1 a2 a3:Type} (p:a0->a1->a2->a3->Prop):Prop
 |mk x0 x1 x2 x3:p x0 x1 x2 x3->X4 p
inductive X5 {a0 a1 a2 a3 a4:Type} (p:a0->a1->a2->a3->a4->Prop):Prop
 |mk x0 x1 x2 x3 x4:p x0 x1 x2 x3 x4->X5 p
inductive X6 {a0 a1 a2 a3 a4 a5:Type} (p:a0->a1->a2->a3->a4->a5->Prop):Prop
 |mk x0 x1 x2 x3 x4 x5:p x0 x1 x2 x3 x4 x5->X6 p
inductive X7 {a0 a1 a2 a3 a4 a5 a6:Type} (p:a0->a1->a2->a3->a4->a5->a6->Prop):Prop
 |mk x0 x1 x2 x3 x4 x5 x6:p x0 x1 x2 x3 x4 x5 x6->X7 p
inductive X10 {a0 a1 a2 a3 a4 a5 a6 a7 a8 a9:Type} (p:a0->a1->a2->a3->a4->a5->a6->a7->a8->a9->Prop):Prop
 |mk x0 x1 x2 x3 x4 x5 x6 x7 x8 x9:p x0 x1 x2 x3 x4 x5 x6 x7 x8 x9->X10 p
structure Y3 (a0 a1 a2:Prop):Prop where mk::
 (h0:a0) (h1:a1) (h2:a2)
structure Y4 (a0 a1 a2 a3:Prop):Prop where mk::
 (h0:a0) (h1:a1) (h2:a2) (h3:a3)
structure Y5 (a0 a1 a2 a3 a4:Prop):Prop where mk::
 (h0:a0) (h1:a1) (h2:a2) (h3:a3) (h4:a4)
structure Y6 (a0 a1 a2 a3 a4 a5:Prop):Prop where mk::
 (h0:a0) (h1:a1) (h2:a2) (h3:a3) (h4:a4) (h5:a5)
structure Y7 (a0 a1 a2 a3 a4 a5 a6:Prop):Prop where mk::
 (h0:a0) (h1:a1) (h2:a2) (h3:a3) (h4:a4) (h5:a5) (h6:a6)
structure Y8 (a0 a1 a2 a3 a4 a5 a6 a7:Prop):Prop where mk::
 (h0:a0) (h1:a1) (h2:a2) (h3:a3) (h4:a4) (h5:a5) (h6:a6) (h7:a7)
structure Y9 (a0 a1 a2 a3 a4 a5 a6 a7 a8:Prop):Prop where mk::
 (h0:a0) (h1:a1) (h2:a2) (h3:a3) (h4:a4) (h5:a5) (h6:a6) (h7:a7) (h8:a8)
structure Y10 (a0 a1 a2 a3 a4 a5 a6 a7 a8 a9:Prop):Prop where mk::
 (h0:a0) (h1:a1) (h2:a2) (h3:a3) (h4:a4) (h5:a5) (h6:a6) (h7:a7) (h8:a8) (h9:a9)
structure Y11 (a0 a1 a2 a3 a4 a5 a6 a7 a8 a9 a10:Prop):Prop where mk::
 (h0:a0) (h1:a1) (h2:a2) (h3:a3) (h4:a4) (h5:a5) (h6:a6) (h7:a7) (h8:a8) (h9:a9) (h10:a10)
structure Y16 (a0 a1 a2 a3 a4 a5 a6 a7 a8 a9 a10 a11 a12 a13 a14 a15:Prop):Prop where mk::
 (h0:a0) (h1:a1) (h2:a2) (h3:a3) (h4:a4) (h5:a5) (h6:a6) (h7:a7) (h8:a8) (h9:a9) (h10:a10) (h11:a11) (h12:a12) (h13:a13) (h14:a14) (h15:a15)
namespace K62.Internal
open PySem L2.Internal GR.Internal
def rA:Sp:=fun vs H Q _=>∃x:Str,Y3 (vs=[.str x]) (x.length<=30000) (∀(p:Zx) (H':Hp),gC H H'->H p=none->H' p=some (.lst (qU x.cps.toList))->Q (.ref p) H')
abbrev r1 (x:Str):Str:=Txt.replace x "(" " ( "
abbrev r2 (x:Str):Str:=Txt.replace (r1 x) ")" " ) "
abbrev r3 (x:Str):Str:=Txt.replace (r2 x) "\n" " "
theorem c1 (x:Str):(r1 x).cps.toList=T1.sub 40 [32,40,32] x.cps.toList:=T1.replace_codes x " ( " 40
theorem c2 (x:Str):(r2 x).cps.toList=T1.sub 41 [32,41,32] (T1.sub 40 [32,40,32] x.cps.toList):=by rw[<-c1];exact T1.replace_codes (r1 x) " ) " 41
theorem c3 (x:Str):(r3 x).cps.toList=T1.spaced x.cps.toList:=by rw[<-T1.spaced_sub,<-c2];exact T1.replace_codes (r2 x) " " 10
theorem wO (c:Nat) (z:List Nat) (n:Nat) (h1:1<=n) (h:z.length<=n) (l:List Nat):(T1.sub c z l).length<=n*l.length:=T1.flat_len _ n (fun k=>by split;exact h;exact h1) l
theorem l1 (x:Str):(r1 x).length<=3*x.length:=by rw[<-T1.len_codes,<-T1.len_codes,c1];exact wO _ _ 3 (by decide) (by decide) _
theorem l2 (x:Str):(r2 x).length<=9*x.length:=by
 have h:=l1 x;have e:(r2 x).length<=3*(r1 x).length:=by rw[<-T1.len_codes,<-T1.len_codes,c2,c1];exact wO _ _ 3 (by decide) (by decide) _
 lia
theorem l3 (x:Str):(r3 x).length<=9*x.length:=by
 have h:=l2 x;have e:(r3 x).length<=1*(r2 x).length:=by rw[<-T1.len_codes,<-T1.len_codes];have e3:(r3 x).cps.toList=T1.sub 10 [32] (r2 x).cps.toList:=T1.replace_codes (r2 x) " " 10;rw[e3];exact wO _ _ 1 (by decide) (by decide) _
 lia
def ne0:V->Bool:=fun v=>!decide (v=V.str "")
theorem wQ (x:Str):(((Txt.split (r3 x) " ").map V.str).filter ne0).map id=qU x.cps.toList:=by
 have e:=T1.split_codes (r3 x) 32;rw[c3]at e;have e2:T1.all (T1.W x.cps.toList)=((Txt.split (r3 x) ⟨#[32]⟩).map (·.cps.toList)).filter fun p=>decide (p≠[]):=by rw[e,T1.words_cut];rfl
 unfold qU;rw[e2,List.map_id,List.filter_map,List.filter_map,bG];show((Txt.split (r3 x) ⟨#[32]⟩).filter (ne0∘V.str)).map V.str=_;have ef:(ne0∘V.str)=((fun p=>decide (p≠[]))∘fun(y:Str)=>y.cps.toList):=by
  funext y;show(!decide (V.str y=V.str ""))=decide (y.cps.toList≠[]);by_cases h:y=("":Str);·subst h;rfl
  ·have h1:¬V.str y=V.str "":=fun z=>h (by injection z);have h2:y.cps.toList≠[]:=fun z=>h (T1.str_ext z);rw[ik h1,hI h2];rfl
 rw[ef];refine bZ fun y _=>?_;show V.str y=V.str ⟨y.cps.toList.toArray⟩;rw[Array.toArray_toList]
theorem wR (T:Txt K mg):FO P w base 1 T.d13 rA:=by
 obtain⟨oc,od,kV,doc,pm,an,cdv,ct,osl,efd,lk,hcd⟩:=T.d13.F.ex;rw[efd]at lk;show sA P w K mg base CX0 1 _ T.d13.fd _ _;rw[efd];refine Gv lk hcd rk iq (fun n=>rfl) (fun vs H Q E h=>?_) (fun A outer s H vs Q E hr h=>?_);·obtain⟨x,rfl,_⟩:=h;rfl
 obtain⟨x,rfl,hx,q⟩:=h;refine⟨_,FC.nox (Cn (i:=1) rk.nd rfl (.inl rfl) (tJ (tJ (tJ (PE.one (pv 0)) iq) iq) iq)
  (gj (gG (qf rfl (FA (x:="word") rfl iq iq rfl rfl) (jq (jt fb PySem.F.slot_str_split PySem.F.type_str_split Cj (pv 1) (fZ gE gf))) (fun _ _ _ _ _=>(Ap (jr oz (pv 0) gE))) (fun _ _ _ _ _=>(pv 0)))))),?_⟩;have h1:=l1 x;have h2:=l2 x;have h3:=l3 x;have z3:(" ( ":Str).length=3:=iq;have z3':(" ) ":Str).length=3:=iq;have z1:(" ":Str).length=1:=iq;refine⟨_,rfl,x,rfl,(by rw[z3];lia),r1 x,rfl,(by rw[z3'];lia),r2 x,rfl,(by rw[z1];lia),?_⟩;refine⟨_,rfl,rfl,r3 x," ",rfl,rfl,rfl,(by have e:sizeLine=16777216:=sizeLine_eq;lia),fun p hp=>⟨p,rfl,⟨_,SqL.of gb⟩,fun D hD=>?_⟩⟩;have sp:gC H (upd H p (.lst ((Txt.split (r3 x) " ").map V.str))):=gi hp _;have hl:=qP (r3 x) " ";refine Gn (xs:=(Txt.split (r3 x) " ").map V.str) ne0 id hD ?_ ?_ ?_ ?_ ?_ ?_ ?_ ?_;·rw[aD];have e:sizeLine=16777216:=sizeLine_eq;lia
 ·rfl
 ·intro k H' hs hk;exact⟨_,_,SqL.of (hs _ _ gb),bF hk⟩
 ·intro k H' v H'' hs hv;obtain⟨e,z⟩:=hv;exact⟨e,z _ (SqL.of (hs _ _ gb))⟩
 ·intro H' hs;exact⟨_,SqL.of (hs _ _ gb),cW _⟩
 ·intro k v H' R hv _ r;obtain⟨y,rfl⟩:∃y,v=V.str y:=by rw[aO]at hv;obtain⟨y,_,e⟩:=dI.mp hv;exact⟨y,e.symm⟩
  exact⟨_,rfl,rfl,_,rfl,r⟩
 ·intro k v H' R hv _ _ r;exact⟨_,rfl,r⟩
 ·intro H' hs hl';refine q D H' (sp.trans hs) (sp.free hD) ?_;rw[hl',wQ]
def pK:Sp:=fun vs H Q _=>X2 fun(x y:Str)=>Y3 (vs=[.str x,.str y]) (x.length<=30000) (∀H',gC H H'->Q (.bl (allIn x y)) H')
theorem zI (T:Txt K mg):FO P w base 1 T.d16 pK:=by
 refine T.d16.F.rd zF fun _ A _ s H vs Q E hr h=>?_;obtain⟨x,y,rfl,hx,q⟩:=h;refine⟨_,(gj (gG (gM (yc rfl) rfl T.z_all C0 (fZ (qf rfl (blk1 (x:="sign") (y:="signs") (j:=1) (c0:=s.heap.objs.size+ 1) rfl iq iq rfl rfl rfl rfl rfl rfl rfl) (Gm (pv 0)) (fun _ _ _ _ _=>lC) (fun _ _ _ _ _=>(my uV (pv 0) (pv 1) rfl))) gf)))),?_⟩;refine⟨_,rfl,x,rfl,fun D hD=>?_⟩;have sl:=sizeLine_eq;have ll:=T1.len_codes x;have sz':x.cps.size=x.cps.toList.length:=(fD).symm;refine Gn (xs:=x.cps.toList.map fun c=>V.str ⟨#[c]⟩) (fun _=>true) (fun v=>match v with| .str z=> .bl (!(Builtin.Str.occurrences y z 0 y.length 1).isEmpty)|_=> .non) hD ?_ ?_ ?_ ?_ ?_ ?_ ?_ ?_;·rw[aD];lia
 ·rfl
 ·intro k H' hs hk;rw[aD]at hk;show k<x.cps.size;lia
 ·intro k H' v H'' hs hv;obtain⟨e,c,hc,rfl⟩:=hv;refine⟨e,?_⟩;rw[aO,fE,hc];rfl
 ·intro H' hs;show _=x.cps.size;rw[aD];lia
 ·intro k v H' R hv _ r;exact r
 ·intro k v H' R hv _ _ r;rw[aO]at hv;obtain⟨c,_,rfl⟩:=dI.mp hv;exact⟨_,rfl,_,rfl,_,_,rfl,rfl,r⟩
 ·intro H' hs hl;refine⟨D,x.cps.toList.map fun c=>decide (c∈y.cps.toList),rfl,SqL.of ?_,?_⟩;·rw[hl,List.filter_eq_self.mpr (fun _ _=>rfl),bG,bG];refine congrArg (fun l=>some (HO.lst l)) (bZ fun c _=>?_);show V.bl _=V.bl _;rw[StrLaws.found_one]
  ·have e:(x.cps.toList.map fun c=>decide (c∈y.cps.toList)).all id=allIn x y:=by rw[bB];rfl
   rw[e];exact q H' hs
def nk:Sp:=fun vs H Q _=>∃x:Str,Y3 (vs=[.str x]) (x.length<=30000) (∀H',gC H H'->Q (.bl (isName x)) H')
theorem zJ (T:Txt K mg) (gD16:FO P w base 1 T.d16 pK):FO P w base 2 T.d14 nk:=by
 refine T.d14.F.rd zE fun _ A _ s H vs Q E hr h=>?_;obtain⟨x,rfl,hx,q⟩:=h;refine⟨_,(f9 (ie (PW.pt (qa (kE (tq y8 y8 gh (gM pT rfl T.z_len ji (fZ (pv 0) gf)) (wH rfl T.o6))) (pQ (jr vn (pv 0) (Cg rfl T.o4) rfl))))
   (gj (gG oQ))
   gK)
  (gj (gG (si (my uV (gy Af (pv 0) gh) (Cf rfl T.o2) rfl) (qE (pF T.d16 gD16 hr.m (fZ (pv 0) (fZ (gX su (Cf rfl T.o2) (Cf rfl T.o3)) gf)))))))),?_⟩;have sl:=sizeLine_eq;refine⟨_,rfl,x,rfl,by lia,_,_,rfl,rfl,_,rfl,?_⟩;refine Iu (fun c1=>?_) (fun c1=>?_)
 ·have h1:1<=x.length:=by have z:=of_decide_eq_true c1;lia
  refine⟨_,_,rfl,rfl,_,rfl,?_⟩;by_cases c2:x.length<=12
  ·rw[show decide ((x.length:Int)<=12)=true from hI (by lia)];refine iL ⟨_,rfl,T.t4,KWV,rfl,.inr (T.r4 H),rfl,rfl,_,rfl,?_⟩;show if inV (.str x) KWV=true then _ else _
   cases ek:inV (.str x) KWV with
   |true=>
    refine jJ ?_;have e:isName x=false:=by unfold isName;rw[ek];simp
    rw[<-e];exact q H (gC.refl H)
   |false=>
    refine iL ?_;obtain⟨c,r,ec⟩:=first_of h1;refine⟨_,rfl,x,_,c,rfl,rfl,by lia,by rw[ec];exact at0,_,_,rfl,rfl,_,rfl,?_⟩;have ef:(!(Builtin.Str.occurrences ("abcdefghijklmnopqrstuvwxyz":Str) ⟨#[c]⟩ 0 ("abcdefghijklmnopqrstuvwxyz":Str).length 1).isEmpty)=firstIn x SM:=by rw[StrLaws.found_one];unfold firstIn;rw[ec];rfl
    rw[ef]
    cases e1:firstIn x SM with
    |false=>
     refine iL ?_;have e:isName x=false:=by unfold isName;rw[e1];simp
     rw[<-e];exact q H (gC.refl H)
    |true=>
     refine jJ ⟨_,rfl,_,_,rfl,rfl,?_,_,_,rfl,?_,fun H' hs=>?_⟩;·exact cQ (show(26:Nat)+ 10<=100 by decide) (sz (cW _)|>cQ (by decide))
     ·lia
     ·have e:isName x=allIn x (SM++FG):=by unfold isName;rw[e1,ek,hI h1,hI c2];rfl
      have q':=q H' hs;rw[e]at q';exact q'
  ·rw[show decide ((x.length:Int)<=12)=false from ik (by lia)];refine jJ ?_;have e:isName x=false:=by unfold isName;rw[ik c2];simp
   show if true=true then _ else _;refine jJ ?_;rw[<-e];exact q H (gC.refl H)
 ·have h1:¬1<=x.length:=by intro z;exact c1 (hI (by lia))
  refine⟨_,rfl,jJ ?_⟩;show if true=true then _ else _;refine jJ ?_;have e:isName x=false:=by unfold isName;rw[ik h1];simp
  rw[<-e];exact q H (gC.refl H)
def mP:Sp:=fun vs H Q _=>∃x:Str,Y3 (vs=[.str x]) (x.length<=30000) (∀H',gC H H'->Q (.bl (mv x)) H')
theorem vL (T:Txt K mg) (gD16:FO P w base 1 T.d16 pK):FO P w base 2 T.d15 mP:=by
 refine T.d15.F.rd vF fun _ A _ s H vs Q E hr h=>?_;obtain⟨x,rfl,hx,q⟩:=h;refine⟨_,(f9 (ie (PW.pt (qa (kE (tq y8 y8 gh (gM pT rfl T.z_len ji (fZ (pv 0) gf)) (wH rfl T.o5))) (pQ (kE (jM (pF T.d16 gD16 hr.m (fZ (pv 0) (fZ (Cf rfl T.o3) gf))))))))
   (gj (gG oQ))
   gK)
  (gj (gG (HS (my oz (gy Af (pv 0) gh) gE) (qE (my tj (pv 0) gE)))))),?_⟩;have sl:=sizeLine_eq;refine⟨_,rfl,x,rfl,by lia,_,_,rfl,rfl,_,rfl,?_⟩;refine Iu (fun c1=>?_) (fun c1=>?_)
 ·have h1:1<=x.length:=by have z:=of_decide_eq_true c1;lia
  refine⟨_,_,rfl,rfl,_,rfl,?_⟩;by_cases c2:x.length<=60
  ·rw[show decide ((x.length:Int)<=60)=true from hI (by lia)];refine iL ⟨_,rfl,x,_,rfl,hx,fun H' hs=>⟨_,rfl,?_⟩⟩;show if(!allIn x FG)=true then _ else _
   cases e1:allIn x FG with
   |false=>
    refine jJ ?_;have e:mv x=false:=by unfold mv;rw[e1];simp
    rw[<-e];exact q H' hs
   |true=>
    refine iL ?_;obtain⟨c,r,ec⟩:=first_of h1;refine⟨_,rfl,x,_,c,rfl,rfl,by lia,by rw[ec];exact at0,rfl,_,rfl,?_⟩;have ef:qV x=(c==48):=by unfold qV;rw[ec]
    rw[EH,<-ef]
    cases e2:qV x with
    |false=>
     refine jJ ?_;have e:mv x=true:=by unfold mv;rw[e1,e2,hI h1,hI c2];rfl
     rw[<-e];exact q H' hs
    |true=>
     refine iL ⟨_,rfl,rfl,?_⟩;have e:mv x=decide (V.str x=V.str "0"):=by
      unfold mv;rw[e1,e2,hI h1,hI c2];by_cases h0:x="0";·subst h0;rfl
      ·have h1:¬V.str x=V.str "0":=fun z=>h0 (by injection z);rw[ik h0,ik h1];rfl
     rw[<-e];exact q H' hs
  ·rw[show decide ((x.length:Int)<=60)=false from ik (by lia)];refine jJ ?_;have e:mv x=false:=by unfold mv;rw[ik c2];simp
   show if true=true then _ else _;refine jJ ?_;rw[<-e];exact q H (gC.refl H)
 ·have h1:¬1<=x.length:=by intro z;exact c1 (hI (by lia))
  refine⟨_,rfl,jJ ?_⟩;show if true=true then _ else _;refine jJ ?_;have e:mv x=false:=by unfold mv;rw[ik h1];simp
  rw[<-e];exact q H (gC.refl H)
open TM.Internal (Tr Its pw pd ptr isL okP itr iw idt szs rws sD kD)
inductive Rp (K:Zp) (C:Zx) (as:List V) (a b:Zd) (c d:List Dt) (A:Hp->V->Prop) (vs:List V) (H:Hp) (Q:VK):Prop
 |mk (p dx wl rl:Zx) (ws:Zd) (e:vs= .ref p::as) (R:RS K C H p dx wl rl ws a c) (W:WOk ws) (q:∀v H',RS K C H' p dx wl rl ws b d->K2 p rl H H'->A H' v->Q v H')
theorem Rp.len {C:Zx} {as:List V} {a b:Zd} {c d:List Dt} {A:Hp->V->Prop} {vs:List V} {H:Hp} {Q:VK} (h:Rp K C as a b c d A vs H Q):vs.length=as.length+ 1:=by obtain⟨_,_,_,_,_,rfl,_⟩:=h;rfl
def lq (C:Zx):Sp:=fun vs H Q _=>X4 fun(p dx wl:Zx) (ws:Zd)=>Y4 (vs=[.ref p,.ref wl]) (H p=some (.ins C dx [])) (H wl=some (.lst (ws.map V.str))) (∀(rl:Zx) (H':Hp),H rl=none->qw C H' p dx wl rl ws 0 []->(∀b o,H b=some o->b≠p->H' b=some o)->Q .non H')
theorem oH (T:Txt K mg):MO P w base mg 1 T.e59 (lq T.c4.a):=by
 refine T.e59.F.rd oG fun _ A _ s H vs Q E hr h=>?_;obtain⟨p,dx,wl,ws,rfl,hp,hw,k⟩:=h;refine⟨_,(f9 (je (pv 0) (pv 1) rfl)
  (f9 (je (pv 0) gh rfl)
  (gj (je (pv 0) (gT gf) rfl)))),?_⟩;have pw:wl≠p:=kI hw hp (fun z=>nomatch z);refine⟨_,rfl,_,rfl,p,T.c4.a,dx,[],rfl,hp,T.c4.cl,T.n4words,(by show 0<1000;decide),?_⟩;refine⟨_,rfl,p,T.c4.a,dx,_,rfl,gb,T.c4.cl,T.n4taken,(by show 1<1000;decide),?_⟩;refine⟨pP,fun rl hrl=>?_⟩;have nrl:p≠rl:=gr gb hrl;rw[gx (Ne.symm nrl),gx (Ne.symm nrl)]at hrl;refine⟨_,rfl,p,T.c4.a,dx,_,rfl,by rw[gx nrl];exact gb,T.c4.cl,T.n4rows,(by show 2<1000;decide),?_⟩;have wrl:wl≠rl:=gr hw hrl;refine k rl _ hrl ⟨?_,?_,?_,wrl⟩ fun b o e hb=>?_;·rw[gb];exact congrArg (fun l=>some (HO.ins T.c4.a dx l)) (IJ wl 0 rl)
 ·rw[gx pw,gx wrl,gx pw,gx pw];exact hw
 ·rw[gx (Ne.symm nrl)];exact gb
 ·rw[gx hb,gx (gr e hrl),gx hb,gx hb];exact e
def iT (K:Zp) (C:Zx):Sp:=fun vs H Q _=>X2 fun r rows=>Rp K C [] r r rows rows (fun _ v=>v= .str (r.headD "")) vs H Q
theorem rB (T:Txt K mg):MO P w base mg 1 T.e60 (iT K T.c4.a):=by
 refine T.e60.F.ok rq (fun vs H Q E ⟨_,_,h⟩=>h.len) (fun _ A _ s H vs Q E hr h=>?_);obtain⟨r,rows,p,dx,wl,rl,ws,rfl,RR,W,q⟩:=h;refine⟨_,(f9 (ie (jr tj (oA (pv 0) rfl) (gM gQ rfl T.z_len ji (fZ (oA (pv 0) rfl) gf)))
   (gj (gG gE))
   gK)
  (gj (gG (gy Ae (oA (pv 0) rfl) (oA (pv 0) rfl))))),?_⟩;have q:=q _ H RR (K2.refl _ _ _) rfl;obtain⟨k,rv,R,h1,hk,h3⟩:=RR;rw[<-h1,List.headD_eq_head?_getD,List.head?_drop]at q;refine⟨_,rfl,p,_,dx,_,_,rfl,R.ob,T.c4.cl,T.n4taken,tQ _ _ _,_,rfl,p,_,dx,_,_,rfl,R.ob,T.c4.cl,T.n4words,yo _ _ _,wl,_,rfl,.inl (SqL.of R.wd),rfl,_,rfl,Iu (fun c=>?_) (fun c=>?_)⟩;·have z:=of_decide_eq_true c;injection z with z;rw[aD]at z;rw[bM (by lia)]at q;exact q
 ·have hlt:k<ws.length:=by
   by_cases z:k<ws.length;·exact z
   ·refine absurd (hI ?_) c;rw[aD];exact congrArg V.int (by lia)
  rw[bF hlt]at q;refine⟨_,rfl,p,_,dx,_,_,rfl,R.ob,T.c4.cl,T.n4words,yo _ _ _,_,rfl,p,_,dx,_,_,rfl,R.ob,T.c4.cl,T.n4taken,tQ _ _ _,wl,_,_,_,rfl,rfl,SqL.of R.wd,gq (j:=k) (v:= .str ws[k]) ?_,q⟩;rw[aO,bF hlt];rfl
def jC (K:Zp) (C:Zx):Sp:=fun vs H Q _=>X3 fun x r rows=>Rp K C [] (x::r) r rows rows (fun _ v=>v= .str x) vs H Q
theorem rV (T:Txt K mg) (gE60:MO P w base mg 1 T.e60 (iT K T.c4.a)):MO P w base mg 2 T.e61 (jC K T.c4.a):=by
 refine T.e61.F.ok nG (fun vs H Q E ⟨_,_,_,h⟩=>h.len) (fun _ A _ s H vs Q E hr h=>?_);obtain⟨x,r,rows,p,dx,wl,rl,ws,rfl,RR,W,q⟩:=h;refine⟨_,(f9 (pS (i:=1) nG.nd (jF (pv 0) T.c4.cl T.e60.me gE60 hr.m T.e60.b .nil iO))
  (f9 (ie (jr tj (pv 1) gE)
   (gj kj)
   gK)
  (f9 (uY (pv 0) gh CW)
  (gj (gG (pv 1)))))),?_⟩;obtain⟨k0,h0⟩:=RR.ob;refine⟨_,rfl,p,dx,_,rfl,h0,iH _ _ _ _ (.inl rfl),?_⟩;refine tn0 ⟨_,_,p,dx,wl,rl,ws,rfl,RR,W,?_⟩;rintro _ H1 R1 k1 rfl;have hx:=(W.one x (RR.mem x (ah ..))).1;obtain⟨k,rv,R,h1,h2,h3⟩:=R1;refine⟨_,rfl,rfl,_,rfl,?_⟩;rw[ik (fun z:V.str ((x::r).headD "")=V.str ""=>hx (by injection z))];refine iL ⟨_,rfl,p,_,dx,_,_,rfl,R.ob,T.c4.cl,T.n4taken,tQ _ _ _,_,_,rfl,rfl,dx,_,R.ob,(by show 3<1000;decide),_,rfl,?_⟩;obtain⟨e1,e2,e3⟩:=AR h1;have kk:K2 p rl H1 (upd H1 p (.ins T.c4.a dx (fR wl ((k+ 1:Nat):Int) rl))):=K2.upd1 (K2.refl p rl H1) _;have q:=q (.str x) _ ⟨k+ 1,rv,R.next (k+ 1),e2,by lia,h3.mono fun a xs t=>qw.tpT R kk t⟩ (k1.trans kk) rfl;rw[<-GL wl (k:Int) _ rl]at q;exact q
def i7 (K:Zp) (C:Zx):Sp:=fun vs H Q _=>X3 fun y r rows=>Rp K C [.str y] (y::r) r rows rows (fun _ v=>v= .non) vs H Q
theorem n8 (T:Txt K mg) (gE61:MO P w base mg 2 T.e61 (jC K T.c4.a)):MO P w base mg 3 T.e62 (i7 K T.c4.a):=by
 refine T.e62.F.ok kN (fun vs H Q E ⟨_,_,_,h⟩=>h.len) (fun _ A _ s H vs Q E hr h=>?_);obtain⟨x,r,rows,p,dx,wl,rl,ws,rfl,R,W,q⟩:=h;refine⟨_,(f9 (pS (i:=2) kN.nd (jF (pv 0) T.c4.cl T.e61.me gE61 hr.m T.e61.b .nil iO))
  (gj (ie (jr oz (pv 2) (pv 1))
   (gj kj)
   gK))),?_⟩;obtain⟨k0,h0⟩:=R.ob;refine⟨_,rfl,p,dx,_,rfl,h0,iH _ _ _ _ (by simp),?_⟩;refine tn0 ⟨_,_,_,p,dx,wl,rl,ws,rfl,R,W,?_⟩;rintro _ H1 R1 k1 rfl;exact⟨_,rfl,_,rfl,rfl,_,rfl,Iv rfl (q _ _ R1 k1 rfl)⟩
def i8 (K:Zp) (C:Zx):Sp:=fun vs H Q _=>X3 fun x r rows=>isName x=true/\Rp K C [] (x::r) r rows rows (fun _ v=>v= .str x) vs H Q
theorem n9 (T:Txt K mg) (gE61:MO P w base mg 2 T.e61 (jC K T.c4.a)) (gD14:FO P w base 2 T.d14 nk):
  MO P w base mg 3 T.e63 (i8 K T.c4.a):=by
 refine T.e63.F.ok kO (fun vs H Q E ⟨_,_,_,_,h⟩=>h.len) (fun _ A _ s H vs Q E hr h=>?_);obtain⟨x,r,rows,hn,p,dx,wl,rl,ws,rfl,R,W,q⟩:=h;refine⟨_,(f9 (pS (i:=1) kO.nd (jF (pv 0) T.c4.cl T.e61.me gE61 hr.m T.e61.b .nil iO))
  (f9 (ie (kE (jM (pF T.d14 gD14 hr.m (fZ (pv 1) gf))))
   (gj kj)
   gK)
  (gj (gG (pv 1))))),?_⟩;obtain⟨k0,h0⟩:=R.ob;refine⟨_,rfl,p,dx,_,rfl,h0,iH _ _ _ _ (by simp),?_⟩;refine tn0 ⟨_,_,_,p,dx,wl,rl,ws,rfl,R,W,?_⟩;rintro _ H1 R1 k1 rfl;refine⟨_,rfl,x,rfl,(W.one x (R.mem x (ah ..))).2.1,fun H' hs=>⟨_,rfl,?_⟩⟩;rw[hn];exact iL ⟨_,rfl,q _ _ (R1.same hs) (k1.trans (gC.k2 hs)) rfl⟩
def jD:Sp:=fun vs H Q E=>X4 fun(x:Str) (n a b:Nat)=>Y4 (vs=[.str x,.int n,.int a,.int b]) (a<=n) (n<=b) (Q .non H)
theorem rW (T:Txt K mg):FO P w base 1 T.d18 jD:=by
 refine T.d18.F.rd rS fun _ A _ s H vs Q E hr h=>?_;obtain⟨x,n,a,b,rfl,h1,h2,q⟩:=h;refine⟨_,(gj (ie (kE (tq y8 y8 (pv 2) (pv 1) (pv 3)))
   (gj kj)
   gK)),?_⟩;refine⟨_,rfl,_,rfl,_,_,rfl,rfl,_,rfl,?_⟩;rw[show decide ((a:Int)<=(n:Int))=true from hI (by lia)];refine jJ ⟨_,rfl,_,_,rfl,rfl,_,rfl,?_⟩;rw[show decide ((n:Int)<=(b:Int))=true from hI (by lia)];exact iL q
open TM.Internal (Tr Its pw pd ptr isL okP itr iw idt szs rws sD kD)
def GO (K:Zp) (C:Zx) (f:Nat):Sp:=fun vs H Q _=>X3 fun(t:Tr) (r:Zd) (rows:List Dt)=>Y4 (t.ok) (t.nest<=f) (rows.length+t.sz<=160) (Rp K C [.int (25-(f:Int))] (t.tk++r) r rows (rows++t.rw rows.length) (fun _ v=>v= .int (rows.length:Int)) vs H Q)
def pV (b:Bool):V:=if b then .str "name" else .str "expr"
def isT (K:Zp) (ds:List Dt) (H:Hp) (v:V):Prop:=∃t,v= .ref t/\TAt K H v (.tup ds)
def HJ (K:Zp) (C:Zx) (f:Nat):Sp:=fun vs H Q _=>X4 fun(ps:List (Str ⊕ Tr)) (pt:Zx) (r:Zd) (rows:List Dt)=>Y5 ((∀x∈ps,okP f x)) (rows.length+szs (ptr ps)<=160) (SqT K H pt ((ps.map isL).map pV)) (ps.length<=3) (Rp K C [.ref pt,.int (25-(f:Int))] (pw ps++r) r rows (rows++rws (ptr ps) rows.length) (isT K (pd ps rows.length)) vs H Q)
def HK (K:Zp) (C:Zx) (f:Nat) (bs:List Bool) (lo hi:Nat):Sp:=fun vs H Q _=>X3 fun(l:Its) (r:Zd) (rows:List Dt)=>Y5 ((∀i∈l,isName i.1=true/\i.2.map isL=bs/\∀x∈i.2,okP f x)) (lo<=l.length) (l.length<=hi) (rows.length+szs (itr l)<=160) (Rp K C [.int (25-(f:Int))] (iw l++(")":Str)::r) ((")":Str)::r) rows (rows++rws (itr l) rows.length) (isT K (idt l rows.length)) vs H Q)
theorem rw_len {t:Tr} {rows:List Dt}:(rows++t.rw rows.length).length=rows.length+t.sz:=by rw[aR,TM.Internal.Tr.rw_len]
theorem rws_len {ts:List Tr} {rows:List Dt}:(rows++rws ts rows.length).length=rows.length+szs ts:=by rw[aR,TM.Internal.rws_len]
theorem AW {H:Hp} {a b:Zx} {xs:List V} {o:HO} (ha:H a=none) (t:SqT K H b xs):SqT K (upd H a o) b xs:=by
 rcases t with(t|⟨o',t⟩)|t;·exact .inl (.inl (by rw[gx (gr t ha)];exact t))
 ·exact .inl (.inr ⟨o',by rw[gx (gr t ha)];exact t⟩)
 ·exact .inr t
theorem AX (T:Txt K mg) (f:Nat)
  (gE63:MO P w base mg 3 T.e63 (i8 K T.c4.a))
  (gE64:MO P w base mg (5*f+ 5) T.e64 (GO K T.c4.a f)):
  MO P w base mg (5*f+ 6) T.e67 (HJ K T.c4.a f):=by
 refine T.e67.F.ok jm (fun vs H Q E ⟨_,_,_,_,_,_,_,_,h⟩=>h.len) (fun _ A _ s H vs Q E hr h=>?_);obtain⟨ps,pt,r,rows,hok,h160,hpt,hps,p,dx,wl,rl,ws,rfl,R,W,q⟩:=h;refine⟨_,(f9 (pS (i:=3) jm.nd (gT gf))
  (f9 (jb PassesOwn.never rfl (qF (pv 1)) (pN (i:=4) jm.nd)
   (gj (ie (jr tj (pv 4) gE)
    (gj (gL (jt fc fe fg gR (pv 3) (fZ (jF (pv 0) T.c4.cl T.e63.me gE63 (hr.mono (by lia)) T.e63.b .nil iO) gf))))
    (gj (gL (jt fc fe fg gR (pv 3) (fZ (iA (pv 0) T.c4.cl T.e64.me gE64 (hr.mono (by lia)) T.e64.b .nil iO (fZ (pv 2) gf)) gf)))))))
  (gj (gG (jA jN rfl T.z_tuple kn (fZ (pv 3) gf)))))),?_⟩;have sl:=sizeLine_eq;refine⟨pP,fun fl hfl=>?_⟩;obtain⟨fp,frl,fwl⟩:=R.apart hfl;refine⟨_,rfl,pt,rfl,⟨_,AW hfl hpt⟩,wB (K:=K) (a:=pt) (xs:=(ps.map isL).map pV) (fun i σ H2=>X4 fun(o:Option V) (acc:List Dt) (fv:List V) (rows2:List Dt)=>
   Y10 (σ=[some (.ref p),some (.ref pt),some (.int (25-(f:Int))),some (.ref fl),o]) (SqT K H2 pt ((ps.map isL).map pV)) (RS K T.c4.a H2 p dx wl rl ws (pw (ps.drop i)++r) rows2) (K2 p rl H H2) (H2 fl=some (.lst fv)) (lO K H2 fv acc) (acc.length=i) (rows2.length+szs (ptr (ps.drop i))<=160) (
   rows2++rws (ptr (ps.drop i)) rows2.length=rows++rws (ptr ps) rows.length) (acc++pd (ps.drop i) rows2.length=pd ps rows.length))
  ⟨none,[],[],rows,rfl,AW hfl hpt,R.same (gi hfl (.lst [])),gC.k2 (gi hfl _),gb,.nil,rfl,h160,rfl,rfl⟩ (fun i σ H2 _ ⟨_,_,_,_,_,z,_,_,_,_,_,_,_,_⟩=>z) ?_ ?_⟩
 ·rintro i y σ H2 hi ⟨o,acc,fv,rows2,rfl,hpt2,R2,k2,hfl2,tf,hacc,hr2,e1,e2⟩;rw[aO,aO]at hi;obtain⟨b,hb,rfl⟩:=dI.mp hi;obtain⟨c,hc,rfl⟩:=dI.mp hb;have hlt:i<ps.length:=(au.mp hc).1;have ed:ps.drop i=c::ps.drop (i+ 1):=by rw[bT hlt,(au.mp hc).2]
  rw[ed]at R2 hr2 e1 e2;have lf:fv.length<sizeLine:=by rw[tf.length];lia
  obtain⟨k',hk⟩:=R2.ob;have ok:=hok c (aQ hc)
  cases c with
  |inl x=>refine⟨_,rfl,rfl,_,rfl,jJ ⟨_,rfl,.inl ⟨rfl,_,SqL.of hfl2⟩,_,rfl,p,dx,_,rfl,hk,iH _ _ _ _ (by simp),?_⟩⟩;refine tn0 ⟨x,_,rows2,ok,p,dx,wl,rl,ws,rfl,R2,W,?_⟩;rintro _ H3 R3 k3 rfl;have h3:H3 fl=some (.lst fv):=k3 _ _ hfl2 fp frl;rw[pd]at e2;exact⟨fl,fv,_,rfl,rfl,h3,lf,_,acc++[sD x],_,rows2,rfl,vC h3 (R2.sqt k3 hpt2),R3.other h3 fp fwl frl,yp hfl (k2.trans k3),gb,((R2.tats k3 tf).snoc (.flat rfl)).other h3,(by rw[aR,hacc];rfl),hr2,e1,(by rw[bV];exact e2)⟩
  |inr t=>rw[ptr,szs]at hr2;rw[ptr,rws,<-bV,<-rw_len]at e1;rw[pd,<-rw_len]at e2;rw[pw,bV]at R2;refine⟨_,rfl,rfl,_,rfl,iL ⟨_,rfl,.inl ⟨rfl,_,SqL.of hfl2⟩,_,rfl,p,dx,_,rfl,hk,iH _ _ _ _ (by simp),_,rfl,t,_,rows2,ok.1,ok.2,by lia,p,dx,wl,rl,ws,rfl,R2,W,?_⟩⟩;rintro _ H3 R3 k3 rfl;have h3:H3 fl=some (.lst fv):=k3 _ _ hfl2 fp frl;exact⟨fl,fv,_,rfl,rfl,h3,lf,_,acc++[kD rows2.length],_,_,rfl,vC h3 (R2.sqt k3 hpt2),R3.other h3 fp fwl frl,yp hfl (k2.trans k3),gb,((R2.tats k3 tf).snoc (.flat rfl)).other h3,(by rw[aR,hacc];rfl),(by rw[rw_len];lia),e1,(by rw[bV];exact e2)⟩
 ·rintro σ H2 ⟨o,acc,fv,rows2,rfl,hpt2,R2,k2,hfl2,tf,hacc,hr2,e1,e2⟩;rw[aD,aD,b6]at R2 e1 e2;refine⟨_,rfl,fl,fv,rfl,.inl ⟨SqL.of hfl2,fun t ht=>?_⟩⟩;have s:=gi ht (.tup fv);rw[show rows2=rows2++rws (ptr []) rows2.length by rw[ptr,rws,aE],e1]at R2;exact q _ _ (R2.same s) (k2.trans (gC.k2 s)) ⟨t,rfl,.tup gb (by rw[<-e2,pd,aE];exact R2.tats (gC.k2 s) tf)⟩
open TM.Internal (Tr Its pw pd ptr isL okP itr iw idt szs rws sD kD szs_app rws_app)
theorem AY (T:Txt K mg) (f:Nat)
  (gE60:MO P w base mg 1 T.e60 (iT K T.c4.a))
  (gE67:MO P w base mg (5*f+ 6) T.e67 (HJ K T.c4.a f))
  (gD18:FO P w base 1 T.d18 jD):
  MO P w base mg (5*f+ 7) T.e68 (HK K T.c4.a f [false] 0 6):=by
 refine T.e68.F.ok kA (fun vs H Q E ⟨_,_,_,_,_,_,_,h⟩=>h.len) (fun _ A _ s H vs Q E hr h=>?_);obtain⟨l,r,rows,hok,hlo,hhi,h160,p,dx,wl,rl,ws,rfl,R,W,q⟩:=h;refine⟨_,(f9 (pS (i:=2) kA.nd (gT gf))
  (f9 (oy PassesOwn.never (jr oz (jF (pv 0) T.c4.cl T.e60.me gE60 (hr.mono (by lia)) T.e60.b .nil iO) gE)
   (gj (gL (jt fc fe fg gR (pv 2) (fZ (iA (pv 0) T.c4.cl T.e67.me gE67 (hr.mono (by lia)) T.e67.b .nil iO (fZ (ij (fZ gE (fZ gE gf))) (fZ (pv 1) gf))) gf)))))
  (f9 (gL (pF T.d18 gD18 (hr.mono (by lia)) (fZ gE (fZ (gM gQ rfl T.z_len ji (fZ (pv 2) gf)) (fZ gh (fZ (wH rfl T.o8) gf))))))
  (gj (gG (jA jN rfl T.z_tuple kn (fZ (pv 2) gf))))))),?_⟩;have sl:=sizeLine_eq;refine⟨pP,fun fl hfl=>?_⟩;obtain⟨fp,frl,fwl⟩:=R.apart hfl;refine⟨fun m σ H2=>X4 fun(l2:Its) (acc:List Dt) (fv:List V) (rows2:List Dt)=>Y11 (m=l2.length) ((∀i∈l2,i∈l)) (σ=[some (.ref p),some (.int (25-(f:Int))),some (.ref fl)]) (RS K T.c4.a H2 p dx wl rl ws (iw l2++(")":Str)::r) rows2) (K2 p rl H H2) (H2 fl=some (.lst fv)) (lO K H2 fv acc) (acc.length+l2.length=l.length) (rows2.length+szs (itr l2)<=160) (
   rows2++rws (itr l2) rows2.length=rows++rws (itr l) rows.length) (acc++idt l2 rows2.length=idt l rows.length),
  ⟨_,l,[],[],rows,rfl,fun _ h=>h,rfl,R.same (gi hfl (.lst [])),gC.k2 (gi hfl _),gb,.nil,(by show 0+_=_;lia),h160,rfl,rfl⟩,?_⟩;rintro m σ H2 ⟨l2,acc,fv,rows2,rfl,hin,rfl,R2,k2,hfl2,tf,hlen,hr2,e1,e2⟩;have tl:=tf.length;obtain⟨k',hk⟩:=R2.ob;refine⟨_,rfl,p,dx,_,rfl,hk,iH _ _ _ _ (.inl rfl),?_⟩;refine tn0 ⟨_,_,p,dx,wl,rl,ws,rfl,R2,W,?_⟩;rintro _ H3 R3 k3 rfl;have k3':=k2.trans k3;have h3:H3 fl=some (.lst fv):=k3 _ _ hfl2 fp frl;have tf3:=R2.tats k3 tf;refine⟨rfl,_,rfl,?_⟩
 cases l2 with
 |nil=>refine iL ⟨_,rfl,fl,fv,rfl,.inl (SqL.of h3),_,fv.length,0,6,rfl,by simp only[aW]at hlen;lia,by simp only[aW]at hlen;lia,?_⟩;refine⟨_,rfl,fl,fv,rfl,.inl ⟨SqL.of h3,fun t ht=>?_⟩⟩;have s:=gi ht (.tup fv);rw[show rows2=rows2++rws (itr []) rows2.length by rw[itr,rws,aE],e1]at R3;exact q _ _ (R3.same s) (k3'.trans (gC.k2 s)) ⟨t,rfl,.tup gb (by rw[<-e2,idt,aE];exact R3.tats (gC.k2 s) tf3)⟩
 |cons i l2=>obtain⟨hn,hb,ho⟩:=hok i (hin i ah);rw[ik (fun z:V.str ((iw (i::l2)++(")":Str)::r).headD "")=V.str ")"=>TM.Internal.name_nc hn (by injection z))];obtain⟨k',hk⟩:=R3.ob;refine jJ ⟨_,fun σ' H' z=>z,?_⟩;refine⟨_,rfl,.inl ⟨rfl,_,SqL.of h3⟩,_,rfl,p,dx,_,rfl,hk,iH _ _ _ _ (by simp),ow,fun pt hpt=>?_⟩;have s4:=gi hpt (.tup [.str "name",.str "expr"]);rw[itr,szs_app]at hr2;rw[itr,rws_app,<-bV,<-rws_len]at e1;rw[idt,<-rws_len]at e2;have R4:=R3.same s4;rw[iw,show i.1::(pw i.2++iw l2)++(")":Str)::r=pw (.inl i.1::i.2)++(iw l2++(")":Str)::r) by rw[pw,aV,aV,bV]]at R4;refine⟨_,rfl,.inl i.1::i.2,pt,_,rows2,(fun x hx=>(ak.mp hx).elim (fun e=>e▸hn) (ho x)),(by show _+szs (ptr i.2)<=_;lia),(by rw[aC,hb];exact .inl (.inl gb)),(by have:=congrArg aJ hb;rw[aD]at this;rw[aA,this];decide),p,dx,wl,rl,ws,rfl,R4,W,?_⟩;rintro _ H5 R5 k5 ⟨t,rfl,ht⟩;have h5:H5 fl=some (.lst fv):=k5 _ _ (s4 _ _ h3) fp frl;refine⟨fl,fv,_,rfl,rfl,h5,by simp only[aA]at hlen;lia,l2.length,cY _,l2,acc++[.tup (sD i.1::pd i.2 rows2.length)],_,_,rfl,(fun j hj=>hin j (aj _ hj)),rfl,R5.other h5 fp fwl frl,yp hfl (k3'.trans ((gC.k2 s4).trans k5)),gb,((R3.tats ((gC.k2 s4).trans k5) tf3).snoc ht).other h5,(by rw[aR];simp only[aA]at hlen;show acc.length+ 1+_=_;lia),(by show _+_<=_;rw[show ptr (.inl i.1::i.2)=ptr i.2 from rfl,rws_len];lia),e1,(by rw[bV];exact e2)⟩
theorem EK (T:Txt K mg) (f:Nat)
  (gE60:MO P w base mg 1 T.e60 (iT K T.c4.a))
  (gE67:MO P w base mg (5*f+ 6) T.e67 (HJ K T.c4.a f))
  (gD18:FO P w base 1 T.d18 jD):
  MO P w base mg (5*f+ 7) T.e69 (HK K T.c4.a f [true,false] 1 6):=by
 refine T.e69.F.ok kQ (fun vs H Q E ⟨_,_,_,_,_,_,_,h⟩=>h.len) (fun _ A _ s H vs Q E hr h=>?_);obtain⟨l,r,rows,hok,hlo,hhi,h160,p,dx,wl,rl,ws,rfl,R,W,q⟩:=h;refine⟨_,(f9 (pS (i:=2) kQ.nd (gT gf))
  (f9 (oy PassesOwn.never (jr oz (jF (pv 0) T.c4.cl T.e60.me gE60 (hr.mono (by lia)) T.e60.b .nil iO) gE)
   (gj (gL (jt fc fe fg gR (pv 2) (fZ (iA (pv 0) T.c4.cl T.e67.me gE67 (hr.mono (by lia)) T.e67.b .nil iO (fZ (ij (fZ gE (fZ gE (fZ gE gf)))) (fZ (pv 1) gf))) gf)))))
  (f9 (gL (pF T.d18 gD18 (hr.mono (by lia)) (fZ gE (fZ (gM gQ rfl T.z_len ji (fZ (pv 2) gf)) (fZ gh (fZ (wH rfl T.o9) gf))))))
  (gj (gG (jA jN rfl T.z_tuple kn (fZ (pv 2) gf))))))),?_⟩;have sl:=sizeLine_eq;refine⟨pP,fun fl hfl=>?_⟩;obtain⟨fp,frl,fwl⟩:=R.apart hfl;refine⟨fun m σ H2=>X4 fun(l2:Its) (acc:List Dt) (fv:List V) (rows2:List Dt)=>Y11 (m=l2.length) ((∀i∈l2,i∈l)) (σ=[some (.ref p),some (.int (25-(f:Int))),some (.ref fl)]) (RS K T.c4.a H2 p dx wl rl ws (iw l2++(")":Str)::r) rows2) (K2 p rl H H2) (H2 fl=some (.lst fv)) (lO K H2 fv acc) (acc.length+l2.length=l.length) (rows2.length+szs (itr l2)<=160) (
   rows2++rws (itr l2) rows2.length=rows++rws (itr l) rows.length) (acc++idt l2 rows2.length=idt l rows.length),
  ⟨_,l,[],[],rows,rfl,fun _ h=>h,rfl,R.same (gi hfl (.lst [])),gC.k2 (gi hfl _),gb,.nil,(by show 0+_=_;lia),h160,rfl,rfl⟩,?_⟩;rintro m σ H2 ⟨l2,acc,fv,rows2,rfl,hin,rfl,R2,k2,hfl2,tf,hlen,hr2,e1,e2⟩;have tl:=tf.length;obtain⟨k',hk⟩:=R2.ob;refine⟨_,rfl,p,dx,_,rfl,hk,iH _ _ _ _ (.inl rfl),?_⟩;refine tn0 ⟨_,_,p,dx,wl,rl,ws,rfl,R2,W,?_⟩;rintro _ H3 R3 k3 rfl;have k3':=k2.trans k3;have h3:H3 fl=some (.lst fv):=k3 _ _ hfl2 fp frl;have tf3:=R2.tats k3 tf;refine⟨rfl,_,rfl,?_⟩
 cases l2 with
 |nil=>refine iL ⟨_,rfl,fl,fv,rfl,.inl (SqL.of h3),_,fv.length,1,6,rfl,by simp only[aW]at hlen;lia,by simp only[aW]at hlen;lia,?_⟩;refine⟨_,rfl,fl,fv,rfl,.inl ⟨SqL.of h3,fun t ht=>?_⟩⟩;have s:=gi ht (.tup fv);rw[show rows2=rows2++rws (itr []) rows2.length by rw[itr,rws,aE],e1]at R3;exact q _ _ (R3.same s) (k3'.trans (gC.k2 s)) ⟨t,rfl,.tup gb (by rw[<-e2,idt,aE];exact R3.tats (gC.k2 s) tf3)⟩
 |cons i l2=>obtain⟨hn,hb,ho⟩:=hok i (hin i ah);rw[ik (fun z:V.str ((iw (i::l2)++(")":Str)::r).headD "")=V.str ")"=>TM.Internal.name_nc hn (by injection z))];obtain⟨k',hk⟩:=R3.ob;refine jJ ⟨_,fun σ' H' z=>z,?_⟩;refine⟨_,rfl,.inl ⟨rfl,_,SqL.of h3⟩,_,rfl,p,dx,_,rfl,hk,iH _ _ _ _ (by simp),qq,fun pt hpt=>?_⟩;have s4:=gi hpt (.tup [.str "name",.str "name",.str "expr"]);rw[itr,szs_app]at hr2;rw[itr,rws_app,<-bV,<-rws_len]at e1;rw[idt,<-rws_len]at e2;have R4:=R3.same s4;rw[iw,show i.1::(pw i.2++iw l2)++(")":Str)::r=pw (.inl i.1::i.2)++(iw l2++(")":Str)::r) by rw[pw,aV,aV,bV]]at R4;refine⟨_,rfl,.inl i.1::i.2,pt,_,rows2,(fun x hx=>(ak.mp hx).elim (fun e=>e▸hn) (ho x)),(by show _+szs (ptr i.2)<=_;lia),(by rw[aC,hb];exact .inl (.inl gb)),(by have:=congrArg aJ hb;rw[aD]at this;rw[aA,this];decide),p,dx,wl,rl,ws,rfl,R4,W,?_⟩;rintro _ H5 R5 k5 ⟨t,rfl,ht⟩;have h5:H5 fl=some (.lst fv):=k5 _ _ (s4 _ _ h3) fp frl;refine⟨fl,fv,_,rfl,rfl,h5,by simp only[aA]at hlen;lia,l2.length,cY _,l2,acc++[.tup (sD i.1::pd i.2 rows2.length)],_,_,rfl,(fun j hj=>hin j (aj _ hj)),rfl,R5.other h5 fp fwl frl,yp hfl (k3'.trans ((gC.k2 s4).trans k5)),gb,((R3.tats ((gC.k2 s4).trans k5) tf3).snoc ht).other h5,(by rw[aR];simp only[aA]at hlen;show acc.length+ 1+_=_;lia),(by show _+_<=_;rw[show ptr (.inl i.1::i.2)=ptr i.2 from rfl,rws_len];lia),e1,(by rw[bV];exact e2)⟩
open TM.Internal (Tr Kn Its pw pd ptr isL okP itr iw idt szs rws sD kD tks offs oks nests)
structure Dk (P:Zu) (w:Zv) (K:Zp) (mg:Zc) where
 a:Zx
 m:mg "STEADY_FORMS"=some (.ref a)
 kvs:List (Key×V)
 kd:Ar P w K a kvs
 yes:∀h ps,stP h=some ps->∃q,jB kvs (Sum.inr h)=some (.ref q)/\∀H:Hp,SqT K H q (ps.map pV)
def br:Kn->Bool
 | .num _=>false
 | .name _=>false
 |_=>true
inductive Std (f:Nat) (κ:Kn) (ks:List Tr):Prop
 |mk (ps:List (Str ⊕ Tr)) (h1:κ.s≠"rec") (h2:κ.s≠"case") (h3:κ.s≠"row") (st:stP κ.s=some (ps.map isL)) (w:pw ps=κ.ws (tks ks)) (t:ptr ps=ks) (d:∀p,κ.rw (offs ks p)=sD κ.s::pd ps p) (ok:∀x∈ps,okP f x) (ne:ps≠[]) (l:ps.length<=3)
theorem GP {f:Nat} {κ:Kn} {ks:List Tr} (hb:br κ=true) (h1:κ.ok) (h2:ks.length=κ.ar) (h3:oks ks) (h4:nests ks<=f):(∃l,κ= .rcd l)\/(∃l,κ= .case l)\/Std f κ ks:=by
 have one:ks.length=1->∃t:Tr,ks=[t]/\t.ok/\t.nest<=f:=fun e=>by obtain⟨t,rfl⟩:=bD.mp e;rw[oks]at h3;rw[nests]at h4;exact⟨t,rfl,h3.1,by lia⟩
 cases κ with
 |num n=>cases hb
 |name w=>cases hb
 |rcd l=>exact .inl ⟨l,rfl⟩
 |case l=>exact .inr (.inl ⟨l,rfl⟩)
 |tag w=>
  obtain⟨t,rfl,o,n⟩:=one h2;have d:("tag":Str)≠"rec"/\("tag":Str)≠"case"/\("tag":Str)≠"row"/\stP "tag"=some [true,false]:=iq;refine .inr (.inr ⟨[.inl w,.inr t],d.1,d.2.1,d.2.2.1,d.2.2.2,rfl,rfl,fun _=>rfl,fun x hx=>?_,bS _ _,(by show 2<=3;decide)⟩);rcases ak.mp hx with rfl|hx;·exact h1
  ·rw[bo.mp hx];exact⟨o,n⟩
 |get w=>
  obtain⟨t,rfl,o,n⟩:=one h2;have d:("get":Str)≠"rec"/\("get":Str)≠"case"/\("get":Str)≠"row"/\stP "get"=some [false,true]:=iq;refine .inr (.inr ⟨[.inr t,.inl w],d.1,d.2.1,d.2.2.1,d.2.2.2,?_,rfl,fun _=>rfl,fun x hx=>?_,bS _ _,(by show 2<=3;decide)⟩);·show t.tk++[w]=(t.tk++[])++[w];rw[aE]
  rcases ak.mp hx with rfl|hx;·exact⟨o,n⟩
  ·rw[bo.mp hx];exact h1
def JR (K:Zp) (C:Zx) (f:Nat):Sp:=fun vs H Q _=>X4 fun(κ:Kn) (ks:List Tr) (r:Zd) (rows:List Dt)=>Y7 (κ.ok) (ks.length=κ.ar) (oks ks) (nests ks<=f) (rows.length+szs ks<=160) (br κ=true) (Rp K C [.str κ.s,.int (25-(f:Int))] (κ.ws (tks ks)++(")":Str)::r) ((")":Str)::r) rows (rows++rws ks rows.length) (isT K (κ.rw (offs ks rows.length))) vs H Q)
theorem EM (T:Txt K mg) (D:Dk P w K mg) (f:Nat)
  (gE64:MO P w base mg (5*f+ 5) T.e64 (GO K T.c4.a f))
  (gE67:MO P w base mg (5*f+ 6) T.e67 (HJ K T.c4.a f))
  (gE68:MO P w base mg (5*f+ 7) T.e68 (HK K T.c4.a f [false] 0 6))
  (gE69:MO P w base mg (5*f+ 7) T.e69 (HK K T.c4.a f [true,false] 1 6)):
  MO P w base mg (5*f+ 8) T.e66 (JR K T.c4.a f):=by
 refine T.e66.F.ok kP (fun vs H Q E ⟨_,_,_,_,_,_,_,_,_,_,h⟩=>h.len) (fun _ A _ s H vs Q E hr h=>?_);obtain⟨κ,ks,r,rows,h1,h2,h3,h4,h160,hb,p,dx,wl,rl,ws,rfl,R,W,q⟩:=h;refine⟨_,(f9 (ie (jr tj (pv 1) gE)
   (gj (gG (ij (fZ gE (fZ (iA (pv 0) T.c4.cl T.e68.me gE68 (hr.mono (by lia)) T.e68.b .nil iO (fZ (pv 2) gf)) gf)))))
   gK)
  (f9 (ie (jr tj (pv 1) gE)
   (f9 (pS (i:=3) kP.nd (iA (pv 0) T.c4.cl T.e64.me gE64 (hr.mono (by lia)) T.e64.b .nil iO (fZ (pv 2) gf)))
   (gj (gG (ij (fZ gE (fZ (pv 3) (fZ (iA (pv 0) T.c4.cl T.e69.me gE69 (hr.mono (by lia)) T.e69.b .nil iO (fZ (pv 2) gf)) gf)))))))
   gK)
  (f9 (ie (jr tj (pv 1) gE)
   uU
   gK)
  (f9 (ie (sh (As D.kd (pv 1) (Cg rfl D.m)) rfl)
   (gj kj)
   gK)
  (gj (gG (gX Ei (ij (fZ (pv 1) gf)) (iA (pv 0) T.c4.cl T.e67.me gE67 (hr.mono (by lia)) T.e67.b .nil iO (fZ (Au D.kd (Cg rfl D.m) (pv 1)) (fZ (pv 2) gf)))))))))),?_⟩;have sl:=sizeLine_eq;obtain⟨k',hk⟩:=R.ob;refine⟨_,rfl,rfl,_,rfl,?_⟩;rcases GP hb h1 h2 h3 h4 with⟨l,rfl⟩|⟨l,rfl⟩|⟨ps,n1,n2,n3,st,ew,et,ed,ok,ne,le⟩
 ·have h2:ks.length=l.length:=h2;obtain⟨i1,i2,i3⟩:=TM.Internal.fI_is (l:=l) (ts:=ks) h2.symm;have e:TM.Internal.Kn.ws (.rcd l) (tks ks)=iw (TM.Internal.fI l ks):=i2.symm;rw[e]at R;have il:(TM.Internal.fI l ks).length=l.length:=by have:=congrArg aJ (i3 0);rw[TM.Internal.idt_len,aD,b9,TM.Internal.offs_len]at this;lia
  refine jJ ⟨_,rfl,p,dx,_,rfl,hk,iH _ _ _ _ (by simp),_,rfl,TM.Internal.fI l ks,r,rows,TM.Internal.fI_ok h1.2 h3 h4,cX _,by rw[il];exact h1.1,by rw[i1];exact h160,p,dx,wl,rl,ws,rfl,R,W,?_⟩;rw[i1,i3];rintro _ H1 R1 k1 ⟨t,rfl,ht⟩;refine⟨ow,fun u hu=>?_⟩;have s:=gi hu (.tup [.str "rec",.ref t]);exact q _ _ (R1.same s) (k1.trans (gC.k2 s)) ⟨u,rfl,.tup gb (.cons (.flat rfl) (.cons (R1.tat (gC.k2 s) ht) .nil))⟩
 ·cases ks with
  |nil=>cases h2
  |cons t0 ts=>
   have hl:l.length=ts.length:=(dr.inj h2).symm;obtain⟨i1,i2,i3⟩:=TM.Internal.aI_is hl;rw[szs]at h160;rw[oks]at h3;rw[nests]at h4;have e:TM.Internal.Kn.ws (.case l) (tks (t0::ts))++(")":Str)::r=t0.tk++(iw (TM.Internal.aI l ts)++(")":Str)::r):=by rw[i2,<-bV];rfl
   rw[e]at R;have il:(TM.Internal.aI l ts).length=l.length:=by have:=congrArg aJ (i3 0);rw[TM.Internal.idt_len,aD,b9,TM.Internal.offs_len]at this;lia
   refine iL ⟨_,rfl,rfl,_,rfl,jJ ⟨_,rfl,p,dx,_,rfl,hk,iH _ _ _ _ (by simp),_,rfl,t0,_,rows,h3.1,by lia,by lia,p,dx,wl,rl,ws,rfl,R,W,?_⟩⟩;rintro _ H1 R1 k1 rfl;obtain⟨k1',hk1⟩:=R1.ob;refine⟨_,rfl,_,rfl,p,dx,_,rfl,hk1,iH _ _ _ _ (by simp),_,rfl,TM.Internal.aI l ts,r,_,TM.Internal.aI_ok h1.2.2 h3.2 (by lia),by rw[il];exact h1.1,by rw[il];exact h1.2.1,by rw[i1,rw_len];lia,p,dx,wl,rl,ws,rfl,R1,W,?_⟩;rw[i1,i3,rw_len,bV];rintro _ H2 R2 k2 ⟨t,rfl,ht⟩;refine⟨qq,fun u hu=>?_⟩;have s:=gi hu (.tup [.str "case",.int (rows.length:Int),.ref t]);exact q _ _ (by rw[rws];exact R2.same s) ((k1.trans k2).trans (gC.k2 s)) ⟨u,rfl,.tup gb (.cons (.flat rfl) (.cons (.flat rfl) (.cons (R2.tat (gC.k2 s) ht) .nil)))⟩
 ·rw[ik (fun z:V.str κ.s=V.str "rec"=>n1 (by injection z))];refine iL ⟨_,rfl,rfl,_,rfl,?_⟩;rw[ik (fun z:V.str κ.s=V.str "case"=>n2 (by injection z))];refine iL ⟨_,rfl,rfl,_,rfl,?_⟩;rw[ik (fun z:V.str κ.s=V.str "row"=>n3 (by injection z))];refine iL ⟨_,rfl,Sum.inr κ.s,rfl,rfl,_,rfl,?_⟩;obtain⟨dq,ev,hq⟩:=D.yes _ _ st;rw[ev];refine iL ⟨_,rfl,wo,fun t1 ht1=>?_⟩;have s1:=gi ht1 (.tup [.str κ.s]);rw[<-ew]at R;have R1:=R.same s1;obtain⟨k1',hk1⟩:=R1.ob;refine⟨_,rfl,p,dx,_,rfl,hk1,iH _ _ _ _ (by simp),_,rfl,Sum.inr κ.s,_,rfl,rfl,ev,_,rfl,ps,dq,_,rows,ok,by rw[et];exact h160,hq _,le,p,dx,wl,rl,ws,rfl,R1,W,?_⟩;rw[et];rintro _ H2 R2 k2 ⟨t,rfl,ht⟩
  cases ht with
  |tup hsq hts=>
   rename_i xs;have l2:=hts.length;rw[TM.Internal.pd_len]at l2;have hne:xs≠[]:=fun z=>by rw[z]at l2;exact ne (bO.mp l2.symm)
   refine⟨t1,t,[.str κ.s],xs,rfl,rfl,R1.sqt k2 (.inl (.inl gb)),.inl (.inl hsq),(fun z=>nomatch z),(by show 1+xs.length<=_;lia),fun z=>absurd z hne,fun _ u hu=>?_⟩;have s:=gi hu (.tup ([.str κ.s]++xs));exact q _ _ (R2.same s) (((gC.k2 s1).trans k2).trans (gC.k2 s)) ⟨u,rfl,by rw[ed];exact .tup gb (.cons (.flat rfl) (R2.tats (gC.k2 s) hts))⟩
def JS (K:Zp) (C:Zx) (f:Nat):Sp:=fun vs H Q _=>X4 fun(κ:Kn) (ks:List Tr) (r:Zd) (rows:List Dt)=>Y6 (κ.ok) (ks.length=κ.ar) (oks ks) (nests ks<=f) (rows.length+szs ks<=160) (Rp K C [.int (25-((f+ 1:Nat):Int))] (κ.tk (tks ks)++r) r rows (rows++rws ks rows.length) (isT K (κ.rw (offs ks rows.length))) vs H Q)
theorem GQ (T:Txt K mg) (f:Nat)
  (gE61:MO P w base mg 2 T.e61 (jC K T.c4.a))
  (gE62:MO P w base mg 3 T.e62 (i7 K T.c4.a))
  (gD14:FO P w base 2 T.d14 nk)
  (gD15:FO P w base 2 T.d15 mP)
  (gE66:MO P w base mg (5*f+ 8) T.e66 (JR K T.c4.a f)):
  MO P w base mg (5*f+ 9) T.e65 (JS K T.c4.a f):=by
 refine T.e65.F.ok jY (fun vs H Q E ⟨_,_,_,_,_,_,_,_,_,h⟩=>h.len) (fun _ A _ s H vs Q E hr h=>?_);obtain⟨κ,ks,r,rows,h1,h2,h3,h4,h160,p,dx,wl,rl,ws,rfl,R,W,q⟩:=h;refine⟨_,(f9 (pS (i:=2) jY.nd (jF (pv 0) T.c4.cl T.e61.me gE61 (hr.mono (by lia)) T.e61.b .nil iO))
  (f9 (ie (jM (pF T.d15 gD15 (hr.mono (by lia)) (fZ (pv 2) gf)))
   (gj (gG (ij (fZ gE (fZ (jA vt rfl T.z_int An (fZ (pv 2) gf)) gf)))))
   gK)
  (f9 (ie (jM (pF T.d14 gD14 (hr.mono (by lia)) (fZ (pv 2) gf)))
   (gj (gG (ij (fZ gE (fZ (pv 2) gf)))))
   gK)
  (f9 (ie (jr oz (pv 2) gE)
   (gj kj)
   gK)
  (f9 (pS (i:=3) jY.nd (iA (pv 0) T.c4.cl T.e66.me gE66 (hr.mono (by lia)) T.e66.b .nil iO (fZ (jF (pv 0) T.c4.cl T.e61.me gE61 (hr.mono (by lia)) T.e61.b .nil iO) (fZ (gX CU (pv 1) gh) gf))))
  (f9 (gL (iA (pv 0) T.c4.cl T.e62.me gE62 (hr.mono (by lia)) T.e62.b .nil iO (fZ gE gf)))
  (gj (gG (pv 3))))))))),?_⟩;obtain⟨k',hk⟩:=R.ob;obtain⟨x,r1,ex⟩:∃x r1,κ.tk (tks ks)++r=x::r1:=by cases κ<;>exact⟨_,_,rfl⟩
 have hk3:(∃n,κ= .num n)\/(∃w,κ= .name w)\/br κ=true/\κ.tk (tks ks)++r=("(":Str)::κ.s::(κ.ws (tks ks)++(")":Str)::r):=by
  have e:("(":Str)::κ.s::(κ.ws (tks ks)++[(")":Str)])++r=("(":Str)::κ.s::(κ.ws (tks ks)++(")":Str)::r):=by rw[aV,aV,bV];rfl
  cases κ with
  |num n=>exact .inl ⟨n,rfl⟩
  |name w=>exact .inr (.inl ⟨w,rfl⟩)
  |_=>exact .inr (.inr ⟨rfl,e⟩)
 rw[ex]at R hk3;have xl:=(W.one x (R.mem x (ah ..))).2.1;refine⟨_,rfl,p,dx,_,rfl,hk,iH _ _ _ _ (by simp),?_⟩;refine tn0 ⟨_,_,_,p,dx,wl,rl,ws,rfl,R,W,?_⟩;rintro _ H1 R1 k1 rfl;refine⟨_,rfl,x,rfl,xl,fun H2 s2=>⟨_,rfl,?_⟩⟩;have R2:=R1.same s2;have k2:=k1.trans (gC.k2 (p:=p) (q:=rl) s2);rcases hk3 with⟨n,rfl⟩|⟨y,rfl⟩|⟨hb,e⟩;·have ex:TM.Internal.numS n::r=x::r1:=ex;injection ex with e1 e2;subst e1 e2;obtain⟨n1,n2⟩:=TM.Internal.num_is h1.1 h1.2;obtain⟨m1,m2,m3⟩:=qW n1;obtain rfl:=bX h2;rw[rws,aE]at q;rw[n1];refine jJ ⟨_,rfl,_,n,rfl,by rw[zD m1 (by lia) m3,n2],by lia,ow,fun t ht=>?_⟩;have s:=gi ht (.tup [.str "num",.int n]);exact q _ _ (R2.same s) (k2.trans (gC.k2 s)) ⟨t,rfl,.tup gb (.cons (.flat rfl) (.cons (.flat rfl) .nil))⟩
 ·have ex:y::r=x::r1:=ex;injection ex with e1 e2;subst e1 e2;have h1:isName y=true:=h1;obtain rfl:=bX h2;rw[rws,aE]at q;rw[Bool.eq_false_iff.mpr (TM.Internal.name_nn h1)];refine iL ⟨_,rfl,y,rfl,xl,fun H3 s3=>⟨_,rfl,?_⟩⟩;rw[h1];refine jJ ⟨_,rfl,ow,fun t ht=>?_⟩;have s:=gi ht (.tup [.str "name",.str y]);exact q _ _ ((R2.same s3).same s) ((k2.trans (gC.k2 s3)).trans (gC.k2 s)) ⟨t,rfl,.tup gb (.cons (.flat rfl) (.cons (.flat rfl) .nil))⟩
 ·injection e with e1 e2;subst e1 e2;refine iL ⟨_,rfl,_,rfl,xl,fun H3 s3=>⟨_,rfl,?_⟩⟩;have R3:=R2.same s3;have k3:=k2.trans (gC.k2 (p:=p) (q:=rl) s3);obtain⟨k3',hk3⟩:=R3.ob;refine iL ⟨_,rfl,rfl,_,rfl,iL ⟨_,rfl,p,dx,_,rfl,hk3,iH _ _ _ _ (by simp),_,rfl,p,dx,_,rfl,hk3,iH _ _ _ _ (by simp),?_⟩⟩;refine tn0 ⟨_,_,_,p,dx,wl,rl,ws,rfl,R3,W,?_⟩;rintro _ H4 R4 k4 rfl;refine⟨_,rfl,_,_,rfl,rfl,κ,ks,r,rows,h1,h2,h3,h4,h160,hb,p,dx,wl,rl,ws,(by show[V.ref p,V.str κ.s,V.int (25-((f+ 1:Nat):Int)+ 1)]=_;rw[show(25-((f+ 1:Nat):Int)+ 1)=25-(f:Int) by lia]),R4,W,?_⟩;rintro _ H5 R5 k5 ⟨t,rfl,ht⟩;obtain⟨k5',hk5⟩:=R5.ob;refine⟨_,rfl,p,dx,_,rfl,hk5,iH _ _ _ _ (by simp),?_⟩;refine tc1 ⟨_,_,_,p,dx,wl,rl,ws,rfl,R5,W,?_⟩;rintro _ H6 R6 k6 rfl;exact⟨_,rfl,q _ _ R6 (((k3.trans k4).trans k5).trans k6) ⟨t,rfl,R5.tat k6 ht⟩⟩
theorem CB (T:Txt K mg) (f:Nat)
  (gE65:MO P w base mg (5*f+ 9) T.e65 (JS K T.c4.a f)):
  MO P w base mg (5*(f+ 1)+ 5) T.e64 (GO K T.c4.a (f+ 1)):=by
 refine T.e64.F.ok (k:=5*f+ 9) jH (fun vs H Q E ⟨_,_,_,_,_,_,h⟩=>h.len) (fun _ A _ s H vs Q E hr h=>?_);obtain⟨⟨κ,ks⟩,r,rows,ok,hn,h160,p,dx,wl,rl,ws,rfl,R,W,q⟩:=h;rw[TM.Internal.Tr.ok]at ok;rw[TM.Internal.Tr.nest]at hn;rw[TM.Internal.Tr.sz]at h160;rw[TM.Internal.Tr.tk]at R;rw[TM.Internal.Tr.rw]at q;refine⟨_,(f9 (ie (jr F9 (pv 1) (wH rfl T.o12))
   (gj kj)
   gK)
  (f9 (pS (i:=2) jH.nd (gM gQ rfl T.z_len ji (fZ (oA (pv 0) rfl) gf)))
  (f9 (ie (jr tj (pv 2) (wH rfl T.o11))
   (gj kj)
   gK)
  (f9 (gL (jt fc fe fg gR (oA (pv 0) rfl) (fZ lM gf)))
  (f9 (sk (iA (pv 0) T.c4.cl T.e65.me gE65 (hr.mono (by lia)) T.e65.b .nil iO (fZ (pv 1) gf)) (sj (oA (pv 0) rfl) (pv 2) nh))
  (gj (gG (pv 2)))))))),?_⟩;have sl:=sizeLine_eq;obtain⟨k,rv,R',h1,h2,h3⟩:=R;have tl:=h3.length;refine⟨_,rfl,_,_,rfl,rfl,_,rfl,?_⟩;rw[ik (by lia)];refine iL ⟨_,rfl,p,_,dx,_,_,rfl,R'.ob,T.c4.cl,T.n4rows,tR _ _ _,rl,_,rfl,.inl (SqL.of R'.rw),?_⟩;refine⟨_,rfl,rfl,_,rfl,?_⟩;rw[ik (show ¬V.int ((rv.length:Nat):Int)=V.int 160 from fun z=>by injection z with z;lia)];refine iL ⟨_,rfl,p,_,dx,_,_,rfl,R'.ob,T.c4.cl,T.n4rows,tR _ _ _,.inl ⟨rfl,_,SqL.of R'.rw⟩,rl,_,_,rfl,rfl,R'.rw,by lia,?_⟩;have npr:=R'.ne2;have nwr:=R'.ne;have R1':qw T.c4.a (upd H rl (.lst (rv++[.non]))) p dx wl rl ws k (rv++[.non]):=⟨by rw[gx npr];exact R'.ob,by rw[gx nwr];exact R'.wd,gb,nwr⟩;have k1:K2 p rl H (upd H rl (.lst (rv++[.non]))):=(K2.refl p rl H).upd2 _;have lr:(rows++[Dt.flat .non]).length=rows.length+ 1:=by rw[aR];rfl
 refine⟨_,rfl,p,dx,_,rfl,R1'.ob,iH _ _ _ _ (by simp),_,rfl,κ,ks,r,rows++[.flat .non],ok.1,ok.2.1,ok.2.2,by lia,by lia,p,dx,wl,rl,ws,rfl,⟨k,_,R1',h1,h2,(h3.snoc (.flat rfl)).other R'.rw⟩,W,?_⟩;rw[lr];rintro _ H2 ⟨kk,rv2,R2',g1,g2,g3⟩ k2 ⟨t,rfl,ht⟩;have tl2:=g3.length;rw[aR,lr]at tl2;refine⟨_,rfl,p,_,dx,_,_,rfl,R2'.ob,T.c4.cl,T.n4rows,tR _ _ _,_,rfl,rl,_,_,rv.length,rfl,rfl,R2'.rw,EI (by lia),?_⟩;refine⟨_,rfl,q _ _ ⟨kk,_,⟨?_,?_,gb,nwr⟩,g1,g2,?_⟩ ((k1.trans k2).upd2 _) (by rw[tl])⟩;·rw[gx npr];exact R2'.ob
 ·rw[gx nwr];exact R2'.wd
 ·have:=(lO.set rows.length g3 ht).other (o:= .lst (rv2.set rv.length (.ref t))) R2'.rw;rw[TM.Internal.set_at]at this;rw[tl]at this⊢;exact this
theorem AZ (T:Txt K mg) (D:Dk P w K mg)
  (gE60:MO P w base mg 1 T.e60 (iT K T.c4.a))
  (gE61:MO P w base mg 2 T.e61 (jC K T.c4.a))
  (gE62:MO P w base mg 3 T.e62 (i7 K T.c4.a))
  (gE63:MO P w base mg 3 T.e63 (i8 K T.c4.a))
  (gD14:FO P w base 2 T.d14 nk)
  (gD15:FO P w base 2 T.d15 mP)
  (gD18:FO P w base 1 T.d18 jD):
  ∀f,MO P w base mg (5*f+ 5) T.e64 (GO K T.c4.a f)
 |0=>by refine T.e64.F.ok jH (fun vs H Q E ⟨_,_,_,_,_,_,h⟩=>h.len) (fun _ A _ s H vs Q E hr h=>⟨_,uU,?_⟩);obtain⟨⟨κ,ks⟩,_,_,_,hn,_⟩:=h;rw[TM.Internal.Tr.nest]at hn;lia
 |f+ 1=>by have g:=AZ T D gE60 gE61 gE62 gE63 gD14 gD15 gD18 f;have gs:=AX T f gE63 g;exact CB T f (GQ T f gE61 gE62 gD14 gD15 (EM T D f g gs (AY T f gE60 gs gD18) (EK T f gE60 gs gD18)))
open TM.Internal (Tr Kn szs rws kD offs oks)
def dtk (n:Str) (t:TM.Internal.Tr):List Str:=("(":Str)::"def"::n::(t.tk++[(")":Str)])
def yu:List Str->List TM.Internal.Tr->List Str
 |n::ns,t::ts=>dtk n t++yu ns ts
 |_,_=>[]
def kR (C:Zx):Sp:=fun vs H Q _=>X5 fun(p dx a b c:Zx)=>Y3 (vs=[.ref p,.ref a,.ref b,.ref c]) (H p=some (.ins C dx [])) (∀H',H' p=some (.ins C dx (fP a b c))->(∀z o,H z=some o->z≠p->H' z=some o)->Q .non H')
theorem oa (T:Txt K mg):MO P w base mg 1 T.e58 (kR T.c3.a):=by
 refine T.e58.F.rd n6 fun _ A _ s H vs Q E hr h=>?_;obtain⟨p,dx,a,b,c,rfl,hp,k⟩:=h;refine⟨_,(f9 (je (pv 0) (pv 1) rfl)
  (f9 (je (pv 0) (pv 2) rfl)
  (gj (je (pv 0) (pv 3) rfl)))),?_⟩;refine⟨_,rfl,_,rfl,p,T.c3.a,dx,[],rfl,hp,T.c3.cl,T.n3names,(by show 0<1000;decide),?_⟩;refine⟨_,rfl,_,rfl,p,T.c3.a,dx,_,rfl,gb,T.c3.cl,T.n3roots,(by show 1<1000;decide),?_⟩;refine⟨_,rfl,_,rfl,p,T.c3.a,dx,_,rfl,gb,T.c3.cl,T.n3rows,(by show 2<1000;decide),?_⟩;refine k _ ?_ fun z o e hz=>?_;·rw[gb];exact congrArg (fun l=>some (HO.ins T.c3.a dx l)) (IL a b c)
 ·rw[gx hz,gx hz,gx hz];exact e
structure PrAt (C:Zx) (H:Hp) (g:Zx) (nl tl rl:Zx) (names roots rows:List V):Prop where
 ob:∃dx,H g=some (.ins C dx (fP nl tl rl))
 nm:H nl=some (.lst names)
 rt:H tl=some (.lst roots)
 rw:H rl=some (.lst rows)
 n1:nl≠tl
 n2:nl≠rl
 n3:tl≠rl
inductive Xrd (K:Zp) (C:Zx) (vs:List V) (H:Hp) (Q:VK):Prop
 |mk (x:Str) (ns:Zd) (ts:List Tr) (e:vs=[.str x]) (hx:x.length<=30000) (hw:qU x.cps.toList=(yu ns ts).map V.str) (W:WOk (yu ns ts)) (hl:ns.length=ts.length) (hn:∀n∈ns,isName n=true) (ho:oks ts) (hd:∀t∈ts,t.nest<=24) (hz:szs ts<=160) (h1:1<=ns.length) (h12:ns.length<=12)
  (q:∀g nl tl rl rtv rwv H',gC H H'->PrAt C H' g nl tl rl (ns.map V.str) rtv rwv->lO K H' rtv ((offs ts 0).map kD)->lO K H' rwv (rws ts 0)->Q (.ref g) H')
def EN (K:Zp) (C:Zx):Sp:=fun vs H Q _=>Xrd K C vs H Q
theorem ub {p rl:Zx} {H H1 H2:Hp} (np:H p=none) (nr:H rl=none) (s:gC H H1) (k:K2 p rl H1 H2):gC H H2:=fun b o e=>k b o (s b o e) (gr e np) (gr e nr)
theorem EO (T:Txt K mg) (gD13:FO P w base 1 T.d13 rA) (gE59:MO P w base mg 1 T.e59 (lq T.c4.a))
  (gE60:MO P w base mg 1 T.e60 (iT K T.c4.a))
  (gE62:MO P w base mg 3 T.e62 (i7 K T.c4.a))
  (gE63:MO P w base mg 3 T.e63 (i8 K T.c4.a))
  (gE64:MO P w base mg (5*24+ 5) T.e64 (GO K T.c4.a 24))
  (gD18:FO P w base 1 T.d18 jD)
  (gE58:MO P w base mg 1 T.e58 (kR T.c3.a)):
  FO P w base 126 T.d17 (EN K T.c3.a):=by
 refine T.d17.F.rd tX fun _ A _ s H vs Q E hr h=>?_;obtain⟨x,ns,ts,rfl,hx,hw,W,hl,hn,ho,hd,hz,h1,h12,q⟩:=h;refine⟨_,(f9 (pS (i:=1) tX.nd (tE T.mk4 gE59 (hr.mono (by lia)) rfl T.c4.m T.e59.b .nil iO (fZ (pF T.d13 gD13 (hr.mono (by lia)) (fZ (pv 0) gf)) gf)))
  (f9 (pS (i:=2) tX.nd (gT gf))
  (f9 (pS (i:=3) tX.nd (gT gf))
  (f9 (oy PassesOwn.never (jr oz (jF (pv 1) T.c4.cl T.e60.me gE60 (hr.mono (by lia)) T.e60.b .nil iO) gE)
   (f9 (gL (iA (pv 1) T.c4.cl T.e62.me gE62 (hr.mono (by lia)) T.e62.b .nil iO (fZ gE gf)))
   (f9 (gL (iA (pv 1) T.c4.cl T.e62.me gE62 (hr.mono (by lia)) T.e62.b .nil iO (fZ gE gf)))
   (f9 (gL (jt fc fe fg gR (pv 2) (fZ (jF (pv 1) T.c4.cl T.e63.me gE63 (hr.mono (by lia)) T.e63.b .nil iO) gf)))
   (f9 (gL (jt fc fe fg gR (pv 3) (fZ (iA (pv 1) T.c4.cl T.e64.me gE64 (hr.mono (by lia)) T.e64.b .nil iO (fZ gh gf)) gf)))
   (gj (gL (iA (pv 1) T.c4.cl T.e62.me gE62 (hr.mono (by lia)) T.e62.b .nil iO (fZ gE gf)))))))))
  (f9 (gL (pF T.d18 gD18 (hr.mono (by lia)) (fZ gE (fZ (gM gQ rfl T.z_len ji (fZ (pv 2) gf)) (fZ gh (fZ (wH rfl T.o7) gf))))))
  (gj (gG (tE T.mk3 gE58 (hr.mono (by lia)) rfl T.c3.m T.e58.b .nil iO (fZ (pv 2) (fZ (pv 3) (fZ (oA (pv 1) rfl) gf))))))))))),?_⟩;have sl:=sizeLine_eq;refine⟨_,rfl,x,rfl,hx,fun wl H1 s1 nwl hwl p dx np ndx nex=>?_⟩;rw[hw]at hwl;generalize hws:yu ns ts=ws at W hwl;have wp:wl≠p:=gr hwl np;have wdx:wl≠dx:=gr hwl ndx;refine⟨p,dx,wl,ws,rfl,gb,by rw[gx wp,gx wdx];exact hwl,fun rl H2 nrl R2 keep=>⟨rfl,?_⟩⟩;have np0:H p=none:=s1.free np;have S1:gC H (upd (upd H1 dx (.own p)) p (.ins T.c4.a dx [])):=tT _ np0 (tT _ (s1.free ndx) s1);have nr0:H rl=none:=S1.free nrl;have S2:gC H H2:=fun b o e=>keep b o (S1 b o e) (gr e np0);refine⟨pP,fun nl hnl=>⟨pP,fun tl htl=>?_⟩⟩;have nn0:H nl=none:=S2.free hnl;have S3:gC H (upd H2 nl (.lst [])):=S2.trans (gi hnl _);have nt0:H tl=none:=S3.free htl;have S4:gC H (upd (upd H2 nl (.lst [])) tl (.lst [])):=S3.trans (gi htl _);have R3:=R2.same (gi hnl (.lst []));have R4:RS K T.c4.a (upd (upd H2 nl (.lst [])) tl (.lst [])) p dx wl rl ws ws []:=⟨0,[],R3.same (gi htl (.lst [])),rfl,cX _,.nil⟩;have ntn:nl≠tl:=gr gb htl;have hN4:upd (upd H2 nl (.lst [])) tl (.lst []) nl=some (.lst []):=by rw[gx ntn];exact gb
 have hT4:upd (upd H2 nl (.lst [])) tl (.lst []) tl=some (.lst []):=gb;have pn:nl≠p:=Ne.symm (gr R2.ob hnl);have rn:nl≠rl:=Ne.symm (gr R2.rw hnl);have pt:tl≠p:=Ne.symm (gr R3.ob htl);have rt:tl≠rl:=Ne.symm (gr R3.rw htl);have wn:nl≠wl:=Ne.symm (gr R2.wd hnl);have wt:tl≠wl:=Ne.symm (gr R3.wd htl);generalize hH4:upd (upd H2 nl (.lst [])) tl (.lst [])=H4 at R4 S4 hN4 hT4;have R4:RS K T.c4.a H4 p dx wl rl ws (yu ns ts) []:=by rw[hws];exact R4
 refine⟨fun m σ H5=>X6 fun(ms:Zd) (us:List Tr) (names:Zd) (roots:List Dt) (rtv:List V) (rows:List Dt)=>Y16 (m=us.length) (ms.length=us.length) ((∀n∈ms,isName n=true)) (oks us) ((∀t∈us,t.nest<=24)) (σ=[some (.str x),some (.ref p),some (.ref nl),some (.ref tl)]) (RS K T.c4.a H5 p dx wl rl ws (yu ms us) rows) (gC H H5) (H5 nl=some (.lst (names.map V.str))) (H5 tl=some (.lst rtv)) (lO K H5 rtv roots) (names++ms=ns) (roots.length=names.length) (rows.length+szs us<=160) (rows++rws us rows.length=rws ts 0) (roots++(offs us rows.length).map kD=(offs ts 0).map kD),
  ⟨_,ns,ts,[],[],[],[],rfl,hl,hn,ho,hd,rfl,R4,S4,hN4,hT4,.nil,rfl,rfl,(by show 0+_<=_;lia),rfl,rfl⟩,?_⟩;rintro m σ H5 ⟨ms,us,names,roots,rtv,rows,rfl,hl5,hn5,ho5,hd5,rfl,R5,S5,hN5,hT5,ht5,en,hlr,hrows,e1,e2⟩;obtain⟨k5,hk5⟩:=R5.ob;have lroot:=ht5.length;have ln:=congrArg aJ en;rw[aR]at ln;refine⟨_,rfl,p,dx,_,rfl,hk5,iH _ _ _ _ (.inl rfl),?_⟩;refine tn0 ⟨_,_,p,dx,wl,rl,ws,rfl,R5,W,?_⟩;rintro _ H6 R6 k6 rfl;have hN6:H6 nl=some (.lst (names.map V.str)):=k6 _ _ hN5 pn rn;have hT6:H6 tl=some (.lst rtv):=k6 _ _ hT5 pt rt;have S6:=ub np0 nr0 S5 k6;have ht6:=R5.tats k6 ht5;obtain⟨k6',hk6⟩:=R6.ob;refine⟨rfl,_,rfl,?_⟩
 cases us with
 |nil=>obtain rfl:=bX hl5;rw[aE]at en;rw[rws,aE]at e1;rw[offs,aX,aE]at e2;subst en e1 e2;have lm:(names.map V.str).length=names.length:=aD ..;refine iL ⟨_,rfl,nl,_,rfl,.inl (SqL.of hN6),_,(names.map V.str).length,1,12,rfl,by lia,by lia,?_⟩;refine⟨_,rfl,_,rfl,_,rfl,p,_,dx,_,_,rfl,hk6,T.c4.cl,T.n4rows,tR _ _ _,fun g dg ng ndg neg=>?_⟩;refine⟨g,dg,nl,tl,rl,rfl,gb,fun H7 hg keep7=>⟨rfl,?_⟩⟩;have k7:gC H6 H7:=fun b o e=>keep7 b o (by rw[gx (gr e ng),gx (gr e ndg)];exact e) (gr e ng);obtain⟨k,rv,R',g1,g2,g3⟩:=R6;have kk:K2 p rl H6 H7:=gC.k2 k7;exact q g nl tl rl rtv rv H7 (S6.trans k7) ⟨⟨dg,hg⟩,k7 _ _ hN6,k7 _ _ hT6,k7 _ _ R'.rw,ntn,rn,rt⟩ (ht6.mono fun a xs t=>qw.tpT R' kk t) (g3.mono fun a xs t=>qw.tpT R' kk t)
 |cons t us=>
  cases ms with
  |nil=>cases hl5
  |cons c ms=>
   rw[oks]at ho5;rw[szs]at hrows;rw[rws,<-bV,<-rw_len]at e1;rw[offs,<-rw_len,aC]at e2;have ew:yu (c::ms) (t::us)=("(":Str)::"def"::c::(t.tk++(")":Str)::yu ms us):=by show dtk c t++yu ms us=_;unfold dtk;rw[aV,aV,aV,bV];rfl
   rw[ew]at R6⊢;refine jJ ⟨_,fun σ' H' z=>z,?_⟩;refine⟨_,rfl,p,dx,_,rfl,hk6,iH _ _ _ _ (by simp),?_⟩;refine tc1 ⟨_,_,_,p,dx,wl,rl,ws,rfl,R6,W,?_⟩;rintro _ H7 R7 k7 rfl;obtain⟨k7',hk7⟩:=R7.ob;refine⟨_,rfl,p,dx,_,rfl,hk7,iH _ _ _ _ (by simp),?_⟩;refine tc1 ⟨_,_,_,p,dx,wl,rl,ws,rfl,R7,W,?_⟩;rintro _ H8 R8 k8 rfl;have kk8:=k7.trans k8;obtain⟨k8',hk8⟩:=R8.ob;refine⟨_,rfl,.inl ⟨rfl,_,SqL.of (kk8 _ _ hN6 pn rn)⟩,_,rfl,p,dx,_,rfl,hk8,iH _ _ _ _ (by simp),?_⟩;refine tn0 ⟨_,_,_,hn5 c ah,p,dx,wl,rl,ws,rfl,R8,W,?_⟩;rintro _ H9 R9 k9 rfl;have kk9:=kk8.trans k9;have hN9:H9 nl=some (.lst (names.map V.str)):=kk9 _ _ hN6 pn rn;have hT9:H9 tl=some (.lst rtv):=kk9 _ _ hT6 pt rt;refine⟨nl,_,_,rfl,rfl,hN9,(by rw[aD];lia),?_⟩;have R10:=R9.other (o:= .lst (names.map V.str++[.str c])) hN9 pn wn rn;have S10:gC H (upd H9 nl (.lst (names.map V.str++[.str c]))):=tT _ nn0 (ub np0 nr0 S6 kk9);have hT10:upd H9 nl (.lst (names.map V.str++[.str c])) tl=some (.lst rtv):=by rw[gx (Ne.symm ntn)];exact hT9
   have ht10:=(R6.tats kk9 ht6).other (o:= .lst (names.map V.str++[.str c])) hN9;obtain⟨k10',hk10⟩:=R10.ob;refine⟨_,rfl,.inl ⟨rfl,_,SqL.of hT10⟩,_,rfl,p,dx,_,rfl,hk10,iH _ _ _ _ (by simp),?_⟩;refine tc1 ⟨t,_,rows,ho5.1,hd5 t ah,by lia,p,dx,wl,rl,ws,rfl,R10,W,?_⟩;rintro _ H11 R11 k11 rfl;have hN11:H11 nl=some (.lst (names.map V.str++[.str c])):=k11 _ _ gb pn rn;have hT11:H11 tl=some (.lst rtv):=k11 _ _ hT10 pt rt;refine⟨tl,_,_,rfl,rfl,hT11,(by lia),?_⟩;have R12:=R11.other (o:= .lst (rtv++[.int (rows.length:Int)])) hT11 pt wt rt;have ht12:=((R10.tats k11 ht10).snoc (.flat (v:= .int (rows.length:Int)) rfl)).other (o:= .lst (rtv++[.int (rows.length:Int)])) hT11;have hN12:upd H11 tl (.lst (rtv++[.int (rows.length:Int)])) nl=some (.lst (names.map V.str++[.str c])):=by rw[gx ntn];exact hN11
   have S12:gC H (upd H11 tl (.lst (rtv++[.int (rows.length:Int)]))):=tT _ nt0 (ub np0 nr0 S10 k11);obtain⟨k12',hk12⟩:=R12.ob;refine⟨_,rfl,p,dx,_,rfl,hk12,iH _ _ _ _ (by simp),?_⟩;refine tc1 ⟨_,_,_,p,dx,wl,rl,ws,rfl,R12,W,?_⟩;rintro _ H13 R13 k13 rfl;refine⟨us.length,cY _,ms,us,names++[c],roots++[kD rows.length],_,_,rfl,dr.inj hl5,(fun n h=>hn5 n (aj _ h)),ho5.2,(fun n h=>hd5 n (aj _ h)),rfl,R13,ub np0 nr0 S12 k13,?_,k13 _ _ gb pt rt,R12.tats k13 ht12,?_,?_,by rw[rw_len];lia,e1,?_⟩;·rw[bp];exact k13 _ _ hN12 pn rn
   ·rw[bV];exact en
   ·rw[aR,aR,hlr];rfl
   ·rw[bV];exact e2
end K62.Internal
namespace K62.Internal
open PySem L2.Internal BO.Internal
seal L2.Internal.PE L2.Internal.PA L2.Internal.PS L2.Internal.PSs L2.Internal.PT L2.Internal.PI
theorem hG {H H2:Hp} {l:Zx} (s:gC H H2) (h:H l=none) (o:HO):gC H (upd H2 l o):=fun b u e=>by rw[gx (gr e h)];exact s b u e
abbrev Hm:=Str×Int
def hmD (h:Hm):Dt:= .tup [.flat (.str h.1),.flat (.int h.2)]
def Sc (H:Hp) (a:Zx) (g:Str->Option Hm) (n:Nat):Prop:=∃kvs:List (Key×V),Y3 (H a=some (.dK kvs)) (kvs.length<=n) (∀w:Str,match g w with
 |none=>jB kvs (.inr w)=none
 |some h=>∃t,jB kvs (.inr w)=some (.ref t)/\H t=some (.tup [.str h.1,.int h.2]))
theorem Sc.same {H H':Hp} {a:Zx} {g:Str->Option Hm} {n:Nat} (h:Sc H a g n) (s:gC H H'):Sc H' a g n:=by
 obtain⟨kvs,e,l,h⟩:=h;refine⟨kvs,s _ _ e,l,fun w=>?_⟩;have:=h w
 cases hg:g w with
 |none=>rw[hg]at this;exact this
 |some z=>rw[hg]at this;obtain⟨t,h1,h2⟩:=this;exact⟨t,h1,s _ _ h2⟩
def wid (g:Str->Option Hm) (x:Str) (h:Hm):Str->Option Hm:=fun w=>if w=x then some h else g w
def zK:Sp:=fun vs H Q _=>X6 fun(a t:Zx) (g:Str->Option Hm) (n:Nat) (x:Str) (h:Hm)=>Y5 (vs=[.ref a,.str x,.ref t]) (Sc H a g n) (n<10000) (H t=some (.tup [.str h.1,.int h.2])) (∀b H',gC H H'->H b=none->Sc H' b (wid g x h) (n+ 1)->Q (.ref b) H')
theorem sL (T:Txt K mg):FO P w base 1 T.d25 zK:=by
 refine T.d25.F.rd sJ fun _ A _ s H vs Q E hr h=>?_;have hu:=rP hr;obtain⟨a,t,g,n,x,h,rfl,⟨kvs,e,l,hk⟩,hn,et,q⟩:=h;refine⟨_,(f9 (pS (i:=3) sJ.nd (jA zA rfl T.z_dict wI (fZ (cv 0) gf)))
  (f9 (mB hu (cv 3) (cv 1) (cv 2) rfl)
  (gj (gG (cv 3))))),?_⟩;have sl:=sizeLine_eq;refine⟨a,kvs,rfl,e,fun b hb=>?_⟩;have s1:=gi hb (.dK kvs);have eb:(upd H b (.dK kvs)) b=some (.dK kvs):=gb;dsimp only[gY];refine⟨b,_,rfl,ze.k (k:=Sum.inr x) eb (by lia),?_⟩;have tk:∀{y:Zx} {xs:List V},H y=some (.tup xs)->(upd (upd H b (.dK kvs)) b (.dK (lP kvs (Sum.inr x) (.ref t)))) y=some (.tup xs):=fun{y xs} ey=>by rw[gx (kI (s1 _ _ ey) eb (fun h=>nomatch h))];exact s1 _ _ ey
 refine q b _ (hG s1 hb _) hb ⟨_,gb,cQ (ig _ _ _) (by lia),fun w=>?_⟩;unfold wid;by_cases hw:w=x;·rw[gU hw];exact⟨t,by rw[iM,gU (by rw[hw])],tk et⟩
 ·rw[gN hw];have hh:=hk w;have hv:jB (lP kvs (Sum.inr x) (.ref t)) (.inr w)=jB kvs (.inr w):=by rw[iM,gN (fun z=>hw (by injection z))]
  cases hg:g w with
  |none=>rw[hg]at hh;exact hv.trans hh
  |some z=>rw[hg]at hh;obtain⟨t',h1,h2⟩:=hh;exact⟨t',hv.trans h1,tk h2⟩
def rC:Sp:=fun vs H Q _=>X2 fun(a:Zx) (ws:Zd)=>Y5 (vs=[.ref a]) (H a=some (.lst (ws.map V.str))) (ws.Nodup) (ws.length<=10000) (∀H',gC H H'->Q .non H')
theorem rD (T:Txt K mg):FO P w base 1 T.d20 rC:=by
 refine T.d20.F.rd kM fun _ A _ s H vs Q E hr h=>?_;have hu:=rP hr;obtain⟨a,ws,rfl,e,nd,hl,q⟩:=h;refine⟨_,(f9 (pS (i:=1) kM.nd m7)
  (gj (jb PassesOwn.never rfl (jq (cv 0)) (pN (i:=2) kM.nd)
   (f9 (ie (sh (Aa hu (cv 2) (cv 1)) rfl)
    (gj kj)
    gK)
   (gj (mB hu (cv 1) (cv 2) oQ rfl)))))),?_⟩;have sl:=sizeLine_eq;intro d hd;have s1:=gi hd (.dK []);have ed:(upd H d (.dK [])) d=some (.dK []):=gb;dsimp only[gY];generalize upd H d (.dK [])=H1 at s1 ed⊢;refine⟨a,rfl,⟨_,SqL.of (s1 _ _ e)⟩,jE (xs:=ws.map V.str) (fun i σ H2=>X2 fun(o:Option V) (kvs:List (Key×V))=>Y5 (σ=[some (.ref a),some (.ref d),o]) (gC H H2) (H2 d=some (.dK kvs)) (kvs.length<=i) (∀w:Str,w∉ws.take i->jB kvs (.inr w)=none))
  ⟨none,[],rfl,s1,ed,cX _,fun _ _=>rfl⟩ (fun i σ H2 _ ⟨_,_,_,S,_,_,_⟩=>SqL.of (S _ _ e)) ?_ ?_⟩
 ·rintro i v σ H2 hv ⟨o,kvs,rfl,S,ek,hk,hn⟩;have hi:=(au.mp hv).1;rw[aD]at hi;rw[aO]at hv;obtain⟨x,hx⟩:∃x,ws[i]?=some x:=⟨_,bF hi⟩;rw[hx]at hv;cases hv;have hxn:x∉ws.take i:=fun hm=>by
   have h1:(ws.take i++ws.drop i).Nodup:=by rw[cb];exact nd
   rw[cc]at h1;obtain⟨z1,z2⟩:=au.mp hx;exact h1.2.2 _ hm _ (by rw[bT z1,z2];simp) rfl
  have g:=sC.k (k:=(Sum.inr x:Key)) ek;rw[hn x hxn]at g;refine⟨d,none,rfl,g,_,rfl,iL ?_⟩;refine⟨d,_,rfl,ze.k (k:=Sum.inr x) ek (by lia),_,_,rfl,hG S hd _,gb,cQ (ig _ _ _) (by lia),fun w hw=>?_⟩;rw[iM];rw[cf,hx]at hw;have h1:w≠x:=fun z=>hw (by simp[z]);rw[gN (fun z=>h1 (by injection z))];exact hn w fun z=>hw (aq _ z)
 ·rintro σ H2 ⟨o,kvs,rfl,S,_⟩;exact q H2 S
def sM:Sp:=fun vs H Q _=>∃(t a:Zx) (k:Int) (g:Str->Option Hm) (n:Nat) (s:Str) (r:List V),vs=[.ref t,.int k,.ref a]/\H t=some (.tup (.str s::r))/\Sc H a g n/\(s≠"name"->Q .non H)/\(s="name"->∃(x:Str) (h:Hm),r=[.str x]/\g x=some h/\∀p,H p=some (.tup [.str h.1,.int h.2])->Q (.ref p) H)
theorem zL (T:Txt K mg):FO P w base 1 T.d22 sM:=by
 refine T.d22.F.rd zG fun _ A _ s H vs Q E hr h=>?_;have hu:=rP hr;obtain⟨t,a,k,g,n,s',r,rfl,et,⟨kvs,e,l,hk⟩,q1,q2⟩:=h;refine⟨_,(f9 (ie (gH qQ (gy gA (cv 0) gh) gE)
   (gj (gG lM))
   gK)
  (f9 (ie (sh (Ab hu (gy gA (cv 0) gh) (cv 2)) rfl)
   (gj kj)
   gK)
  (gj (gG (lQ hu (cv 2) (gy gA (cv 0) gh)))))),?_⟩;refine⟨_,et,gu (gq (j:=0) rfl) ?_⟩;dsimp only[tC,cEq,onB];by_cases hs:s'="name";·obtain⟨x,h,rfl,hg,q⟩:=q2 hs;rw[hI hs];have hh:=hk x;rw[hg]at hh;obtain⟨p,h1,h2⟩:=hh;have g:=sC.k (k:=(Sum.inr x:Key)) e;rw[h1]at g;exact iL ⟨_,et,gu (gq (j:=1) rfl) ⟨a,_,rfl,g,_,rfl,iL ⟨_,et,gu (gq (j:=1) rfl) ⟨a,_,rfl,g,q p h2⟩⟩⟩⟩
 ·rw[ik hs];exact jJ (q1 hs)
mutual
def flV:Dt->List V
 | .flat v=>[v]
 | .tup ds=>jz ds
 | .lst _=>[]
def jz:List Dt->List V
 |[]=>[]
 |d::ds=>flV d++jz ds
end
mutual
def okF:Dt->Bool
 | .flat v=>(match v with| .int _=>true| .str _=>true|_=>false)
 | .tup ds=>p6 ds
 | .lst _=>false
def p6:List Dt->Bool
 |[]=>true
 |d::ds=>okF d&&p6 ds
end
theorem vM:∀(l:List Dt) (d:Dt),jz (l++[d])=jz l++flV d
 |[],d=>by simp[jz]
 |a::l,d=>by rw[aV,jz,jz,vM l d,bV]
theorem yw:∀{l:List Dt} {i:Nat} {d:Dt},p6 l=true->l[i]?=some d->okF d=true
 |a::l,0,d,h,e=>by cases e;rw[p6,fz]at h;exact h.1
 |a::l,i+ 1,d,h,e=>by rw[p6,fz]at h;rw[bJ]at e;exact yw h.2 e
theorem mQ:∀(l:List Dt) (i:Nat),(jz (l.take i)).length<=(jz l).length
 |[],i=>by simp[jz]
 |a::l,0=>by simp[jz]
 |a::l,i+ 1=>by rw[List.take_succ_cons,jz,jz,aR,aR];have:=mQ l i;lia
theorem sN:∀{l:List Dt} {i:Nat} {d:Dt},l[i]?=some d->(flV d).length<=(jz l).length
 |a::l,0,d,e=>by cases e;rw[jz,aR];lia
 |a::l,i+ 1,d,e=>by rw[bJ]at e;have:=sN e;rw[jz,aR];lia
theorem jf {H:Hp}:∀{xs:List V} {ds:List Dt} {j:Nat} {x:V},Ims H xs ds->xs[j]?=some x->∃d,ds[j]?=some d/\Im H x d
 |_,_,0,_,.cons h _,e=>⟨_,rfl,by cases e;exact h⟩
 |_,_,j+ 1,_,.cons _ t,e=>by rw[bJ]at e;obtain⟨d,e1,e2⟩:=jf t e;exact⟨d,by rw[bJ];exact e1,e2⟩
def A1 (n:Nat):Sp:=fun vs H Q _=>X3 fun(t:Zx) (xs:List V) (ds:List Dt)=>Y7 (vs=[.ref t]) (H t=some (.tup xs)) (Ims H xs ds) (p6 ds=true) (jO ds<n) ((jz ds).length<=10000) (∀l H',gC H H'->H l=none->H' l=some (.lst (jz ds))->Q (.ref l) H')
theorem ER (T:Txt K mg):∀n:Nat,FO P w base (n+ 1) T.d3 (A1 n):=by
 intro n
 induction n with
 |zero=>refine T.d3.F.rd tW fun cdv A outer s H vs Q E hr h=>?_;obtain⟨t,xs,ds,rfl,et,hx,hok,hd,hl,q⟩:=h;exact absurd hd (dt _)
 |succ n ih=>
  have gD3:=ih;refine T.d3.F.rd tW fun cdv A outer s H vs Q E hr h=>?_;obtain⟨t,xs,ds,rfl,et,hx,hok,hd,hl,q⟩:=h;refine⟨_,(f9 (pS (i:=1) tW.nd (gT gf))
  (f9 (jb PassesOwn.never rfl (qF (cv 0)) (pN (i:=2) tW.nd)
   (gj (ie (jM (gM kG rfl T.z_isinstance iG (fZ (cv 2) (fZ (oB rfl T.z_tuple kn) gf))))
    (gj (gL (jt fc PySem.F.slot_list_extend PySem.F.type_list_extend Ah (cv 1) (fZ (pF T.d3 gD3 (hr.mono (by lia)) (fZ (cv 2) gf)) gf))))
    (gj (gL (iS (jt fc fe fg gR (PE.mono (cv 1)) (fZ (PE.mono (cv 2)) gf))))))))
  (gj (gG (cv 1))))),?_⟩;have sl:=sizeLine_eq;have lx:=hx.length;refine⟨pP,fun f hf=>?_⟩;have s1:=gi hf (.lst []);have e1:(upd H f (.lst [])) f=some (.lst []):=gb;dsimp only[gY];generalize upd H f (.lst [])=H1 at s1 e1⊢;refine⟨t,rfl,⟨_,SqT.of (s1 _ _ et)⟩,wB (xs:=xs) (fun i σ H2=>∃(o:Option V),σ=[some (.ref t),some (.ref f),o]/\gC H H2/\H2 f=some (.lst (jz (ds.take i)))) ⟨none,rfl,s1,by simpa[jz]using e1⟩ (fun i σ H2 _ ⟨_,_,S,_⟩=>SqT.of (S _ _ et)) ?_ ?_⟩
  ·rintro i v σ H2 hv ⟨o,rfl,S,e⟩;obtain⟨d,hdi,him⟩:=jf hx hv;have him2:=him.mono (gC.tk S);have hok1:=yw hok hdi;have tl:=mQ ds i;have gl:=sN hdi;have nxt:jz (ds.take (i+ 1))=jz (ds.take i)++flV d:=by rw[cf,hdi];exact vM _ _
   cases him2 with
   |flat hfl=>
    rw[flV]at nxt gl;have ap:(∃xs,H2 f=some (.lst xs))/\∃xs,H2 f=some (.lst xs)/\xs.length<sizeLine/\∃(o:Option V),[some (V.ref t),some (V.ref f),some v]=[some (V.ref t),some (.ref f),o]/\gC H (upd H2 f (.lst (xs++[v])))/\(upd H2 f (.lst (xs++[v]))) f=some (.lst (jz (ds.take (i+ 1)))):=
     ⟨⟨_,e⟩,_,e,by lia,_,rfl,hG S hf _,by rw[gb,nxt]⟩
    cases v with
    |int n=>exact⟨_,_,_,_,false,rfl,fun _ r=>r,.int n,rfl,_,rfl,iL ap⟩
    |str x=>exact⟨_,_,_,_,false,rfl,fun _ r=>r,.str x,rfl,_,rfl,iL ap⟩
    |_=>simp[okF]at hok1
   |@tup a ys es ha hs=>rw[flV]at nxt gl;rw[okF]at hok1;have hdd:=L2.Internal.depDs_get hdi;rw[qt]at hdd;refine⟨_,_,_,_,true,rfl,fun _ r=>r,.tup ha,rfl,_,rfl,jJ ⟨.inl ⟨rfl,_,SqL.of e⟩,a,ys,es,rfl,ha,hs,hok1,by lia,by lia,fun l H3 S3 hl3 e3=>?_⟩⟩;refine⟨f,l,_,_,rfl,rfl,S3 _ _ e,e3,?_,_,rfl,hG (S.trans S3) hf _,by rw[gb,nxt]⟩;have h1:(jz (ds.take (i+ 1))).length<=(jz ds).length:=mQ ds (i+ 1);rw[nxt,aR]at h1;lia
  ·rintro σ H2 ⟨o,rfl,S,e⟩;rw[cg (by lia)]at e;exact q f H2 S hf e
inductive Ro
 |num (n:Int)
 |name (w:Str)
 |fn (w:Str) (k:Int)
 |tag (w:Str) (k:Int)
 |lt (w:Str) (a b:Int)
 |get (k:Int) (w:Str)
 |rcd (l:List (Str×Int))
 |case (k:Int) (l:List (Str×Str×Int))
 |row (ks:List Int)
 |op (s:Str) (ks:List Int)
def kD (k:Int):Dt:= .flat (.int k)
def sD (s:Str):Dt:= .flat (.str s)
def fdD (p:Str×Int):Dt:= .tup [sD p.1,kD p.2]
def amD (p:Str×Str×Int):Dt:= .tup [sD p.1,sD p.2.1,kD p.2.2]
def Ro.s:Ro->Str
 | .num _=>"num"
 | .name _=>"name"
 | .fn _ _=>"fn"
 | .tag _ _=>"tag"
 | .lt _ _ _=>"let"
 | .get _ _=>"get"
 | .rcd _=>"rec"
 | .case _ _=>"case"
 | .row _=>"row"
 | .op s _=>s
def Ro.r:Ro->List Dt
 | .num n=>[kD n]
 | .name w=>[sD w]
 | .fn w k=>[sD w,kD k]
 | .tag w k=>[sD w,kD k]
 | .lt w a b=>[sD w,kD a,kD b]
 | .get k w=>[kD k,sD w]
 | .rcd l=>[.tup (l.map fdD)]
 | .case k l=>[kD k,.tup (l.map amD)]
 | .row ks=>[.tup (ks.map kD)]
 | .op _ ks=>ks.map kD
def Ro.d (ρ:Ro):Dt:= .tup (sD ρ.s::ρ.r)
def plain:List Str:=["size","at","call","join","add","sub","less"]
def Ro.ok:Ro->Prop
 | .rcd l=>l.length<=100/\(l.map Prod.fst).Nodup
 | .case _ l=>l.length<=100/\(l.map Prod.fst).Nodup
 | .row ks=>ks.length<=100
 | .op s ks=>s∈plain/\ks.length<=100
 |_=>True
def Ro.pl:Ro->List Int
 | .num _=>[]
 | .name _=>[]
 | .fn _ k=>[k]
 | .tag _ k=>[k]
 | .lt _ a b=>[a,b]
 | .get k _=>[k]
 | .rcd l=>l.map Prod.snd
 | .case k l=>k::l.map fun p=>p.2.2
 | .row ks=>ks
 | .op _ ks=>ks
def Ro.pt:Ro->List V
 | .num _=>[]
 | .name _=>[]
 |ρ=>jz ρ.r
theorem A2:∀ks:List Int,p6 (ks.map kD)=true/\jz (ks.map kD)=ks.map V.int/\jO (ks.map kD)=0
 |[]=>⟨by simp[p6],by simp[jz],by simp[jO]⟩
 |k::ks=>by
  obtain⟨h1,h2,h3⟩:=A2 ks;refine⟨?_,?_,?_⟩;·rw[aC,p6,h1];rfl
  ·rw[aC,jz,h2];rfl
  ·rw[aC,jO,h3];rfl
theorem GS:∀l:List (Str×Int),p6 (l.map fdD)=true/\(jz (l.map fdD)).length=2*l.length/\jO (l.map fdD)<=1
 |[]=>⟨by simp[p6],by simp[jz],by simp[jO]⟩
 |k::ks=>by
  obtain⟨h1,h2,h3⟩:=GS ks;refine⟨?_,?_,?_⟩;·rw[aC,p6,h1];rfl
  ·rw[aC,jz,aR,h2];show 2+_=_;rw[aA];lia
  ·rw[aC,jO];exact du.mpr ⟨cW 1,h3⟩
theorem GU:∀l:List (Str×Str×Int),p6 (l.map amD)=true/\(jz (l.map amD)).length=3*l.length/\jO (l.map amD)<=1
 |[]=>⟨by simp[p6],by simp[jz],by simp[jO]⟩
 |k::ks=>by
  obtain⟨h1,h2,h3⟩:=GU ks;refine⟨?_,?_,?_⟩;·rw[aC,p6,h1];rfl
  ·rw[aC,jz,aR,h2];show 3+_=_;rw[aA];lia
  ·rw[aC,jO];exact du.mpr ⟨cW 1,h3⟩
theorem Ro.fl (ρ:Ro) (h:ρ.ok):p6 ρ.r=true/\jO ρ.r<3/\(jz ρ.r).length<=10000:=by
 cases ρ with
 |rcd l=>
  obtain⟨h1,h2,h3⟩:=GS l;have hl:l.length<=100:=h.1;refine⟨?_,?_,?_⟩;·show p6 [.tup (l.map fdD)]=true;rw[p6,okF,h1,p6];rfl
  ·show jO [.tup (l.map fdD)]<3;rw[jO,qt,jO];lia
  ·show(jz [.tup (l.map fdD)]).length<=_;rw[jz,flV,jz,aE,h2];lia
 |case k l=>
  obtain⟨h1,h2,h3⟩:=GU l;have hl:l.length<=100:=h.1;refine⟨?_,?_,?_⟩;·show p6 [kD k,.tup (l.map amD)]=true;simp[p6,okF,kD,h1]
  ·show jO [kD k,.tup (l.map amD)]<3;simp only[jO,qt,kD];lia
  ·show(jz [kD k,.tup (l.map amD)]).length<=_;simp only[jz,flV,kD,aE,aR,h2,bf];lia
 |row ks=>
  obtain⟨h1,h2,h3⟩:=A2 ks;have hl:ks.length<=100:=h;refine⟨?_,?_,?_⟩;·show p6 [.tup (ks.map kD)]=true;rw[p6,okF,h1,p6];rfl
  ·show jO [.tup (ks.map kD)]<3;rw[jO,qt,jO,h3];lia
  ·show(jz [.tup (ks.map kD)]).length<=_;rw[jz,flV,jz,aE,h2,aD];lia
 |op s ks=>obtain⟨h1,h2,h3⟩:=A2 ks;have hl:ks.length<=100:=h.2;exact⟨h1,by show jO (ks.map kD)<3;lia,by show(jz (ks.map kD)).length<=_;rw[h2,aD];lia⟩
 |_=>exact⟨rfl,by simp[Ro.r,kD,sD,jO,qt],by simp[Ro.r,kD,sD,jz,flV]⟩
theorem IS (y:V) (ys:List V):vh (y::ys) (some 1) none=ys/\¬(HT.Internal.sIx (y::ys).length 0 (some 1)=0/\HT.Internal.sIx (y::ys).length (y::ys).length none=(y::ys).length):=by
 have e:HT.Internal.sIx (y::ys).length 0 (some 1)=1:=by show HT.Internal.sIx (y::ys).length 0 (some ((1:Nat):Int))=1;rw[HT.Internal.sIx_nat,aA];lia
 refine⟨?_,fun h=>by rw[e]at h;exact absurd h.1 (by decide)⟩;unfold vh;rw[e,HT.Internal.sIx_none,List.drop_succ_cons,cj,aA,Nat.add_sub_cancel,bz]
theorem IT (ρ:Ro) (h:ρ.ok):inV (.str ρ.s) [.str "num",.str "name"]=(match ρ with| .num _=>true| .name _=>true|_=>false):=by
 cases ρ with
 |op s ks=>have hs:s∈plain:=h.1;show inV (.str s) _=false;simp only[plain,ak,bI,or_false]at hs;rcases hs with rfl|rfl|rfl|rfl|rfl|rfl|rfl<;>decide+kernel
 |_=>simp only[Ro.s];decide+kernel
def wU:Sp:=fun vs H Q _=>X2 fun(t:Zx) (ρ:Ro)=>Y4 (vs=[.ref t]) (Im H (.ref t) ρ.d) (ρ.ok) (∀l H',gC H H'->H l=none->H' l=some (.lst ρ.pt)->Q (.ref l) H')
theorem wW (T:Txt K mg):FO P w base 5 T.d1 wU:=by
 have gD3:=ER (P:=P) (w:=w) (base:=base) T 3;refine T.d1.F.rd wL fun _ A _ s H vs Q E hr h=>?_;obtain⟨t,ρ,rfl,hi,ho,q⟩:=h;refine⟨_,(f9 (ie (gH vn (gy gA (cv 0) gh) (ij (fZ gE (fZ gE gf))) rfl)
   (gj (gG (gT gf)))
   gK)
  (gj (gG (pF T.d3 gD3 hr.m (fZ (lT Gh (cv 0) (mC gh) oS) gf))))),?_⟩;have sl:=sizeLine_eq;obtain⟨f1,f2,f3⟩:=ρ.fl ho
 cases hi with
 |@tup _ ys _ et hs=>
  cases hs with
  |@cons y _ ys _ h1 hs=>
   cases h1;refine⟨_,et,gu (gq (j:=0) rfl) ?_⟩;refine⟨ow,fun p hp=>⟨p,[.str "num",.str "name"],rfl,.inr (SqT.of gb),rfl,rfl,?_⟩⟩;have s1:=gi hp (.tup [.str "num",.str "name"]);generalize upd H p (.tup [.str "num",.str "name"])=H1 at s1⊢;dsimp only[onB];rw[show(if false=true then !inV (.str ρ.s) [.str "num",.str "name"]else inV (.str ρ.s) [.str "num",.str "name"])=_ from IT ρ ho];have yes:ρ.pt=[]->(B3 (Ie zM) {nx:=fun _ H'=>Q .non H',rt:=Q}:St->Hp->Prop) [some (.ref t)] H1:=fun e=>⟨pP,fun l hl=>q l _ (s1.trans (gi hl _)) (s1.free hl) (by rw[gb,e])⟩;have no:ρ.pt=jz ρ.r->∃n:Int,V.int 1= .int n/\∃a xs,V.ref t= .ref a/\SqT K H1 a xs/\¬(HT.Internal.sIx xs.length 0 (some n)=0/\HT.Internal.sIx xs.length xs.length none=xs.length)/\∀pc,H1 pc=none->A1 3 [.ref pc] (upd H1 pc (.tup (vh xs (some n) none))) Q E:=fun e=>by obtain⟨c1,c2⟩:=IS (.str ρ.s) ys;refine⟨1,rfl,t,_,rfl,SqT.of (s1 _ _ et),c2,fun pc hpc=>?_⟩;rw[c1];have s2:=gi hpc (.tup ys);exact⟨pc,ys,ρ.r,rfl,gb,hs.mono (gC.tk (s1.trans s2)),f1,f2,f3,fun l H' S hl e'=>q l H' ((s1.trans s2).trans S) ((s1.trans s2).free hl) (by rw[e',e])⟩
   cases ρ with
   |num n=>exact jJ (yes rfl)
   |name n=>exact jJ (yes rfl)
   |fn a b=>exact iL (no rfl)
   |tag a b=>exact iL (no rfl)
   |lt a b c=>exact iL (no rfl)
   |get a b=>exact iL (no rfl)
   |rcd a=>exact iL (no rfl)
   |case a b=>exact iL (no rfl)
   |row a=>exact iL (no rfl)
   |op a b=>exact iL (no rfl)
theorem GV {J:It} {xs:List V} {i:Nat} {tt:TT} {te:TE} {Q:VK} {τ:St} {H1:Hp} {D:Zx} (p:V->Bool) (g:V->V) (hD:H1 D=none) (hz:xs.length<=sizeLine) (hτ:τ.set i none=τ)
  (hgo:∀k H,gC H1 H->k<xs.length->J.go k H) (hy:∀k H v H',gC H1 H->k<xs.length->J.yld k H v H'->H'=H/\xs[k]?=some v) (hst:∀H,gC H1 H->J.stop xs.length H)
  (htt:∀(k:Nat) v H R,xs[k]?=some v->gC H1 H->R (p v) H->tt (τ.set i (some v)) H R)
  (hte:∀(k:Nat) v H R,xs[k]?=some v->p v=true->gC H1 H->R (g v) H->te (τ.set i (some v)) H R)
  (hq:∀H',gC H1 H'->H' D=some (.lst ((xs.filter p).map g))->Q (.ref D) H'):LcP J i tt te Q τ H1 D:=by
 have sm:∀o,gC H1 (upd H1 D o):=fun o b u e=>by rw[gx (gr e hD)];exact e
 refine⟨fun k m σ' H2=>Y4 (m=xs.length-k) (k<=xs.length) ((∃o,σ'=τ.set i o)) (H2=upd H1 D (.lst (((xs.take k).filter p).map g))),⟨xs.length,by simp,cX _,⟨none,hτ.symm⟩,by simp⟩,?_⟩;rintro k m σ' H2 ⟨rfl,hk,⟨o,rfl⟩,rfl⟩;by_cases hlt:k<xs.length
 ·refine .inr ⟨hgo k _ (sm _) hlt,fun v H3 y=>?_⟩;obtain⟨e,hv⟩:=hy k _ v H3 (sm _) hlt y;subst e;rw[bw];refine htt k v _ _ hv (sm _) ?_;have tk:(xs.take (k+ 1)).filter p=(xs.take k).filter p++(if p v then[v]else[]):=take_succ_filter p xs k v hv;have ll:((xs.take k).filter p).length<=k:=by refine cQ (bx _ _) ?_;rw[aK];lia
  cases hp:p v with
  |true=>rw[gU rfl];refine hte k v _ _ hv hp (sm _) ?_;refine⟨_,gb,by rw[aD];lia,xs.length-(k+ 1),by lia,rfl,hlt,⟨some v,rfl⟩,?_⟩;rw[sV,tk,hp,gU rfl,bp];rfl
  |false=>rw[gN fu];refine⟨xs.length-(k+ 1),by lia,rfl,hlt,⟨some v,rfl⟩,?_⟩;rw[tk,hp,gN fu,aE]
 ·have e:k=xs.length:=by lia
  subst e;refine .inl ⟨hst _ (sm _),hq _ (sm _) ?_⟩;rw[gb,bz]
def isI:V->Bool
 | .int _=>true
 |_=>false
theorem A4:∀ks:List Int,(ks.map V.int).filter isI=ks.map V.int
 |[]=>rfl
 |k::ks=>by rw[aC,List.filter_cons_of_pos rfl,A4 ks]
theorem Dl:∀l:List (Str×Int),(jz (l.map fdD)).filter isI=(l.map Prod.snd).map V.int
 |[]=>by simp[jz]
 |p::l=>by have:=Dl l;rw[aC,jz,bQ,this];rfl
theorem Dm:∀l:List (Str×Str×Int),(jz (l.map amD)).filter isI=(l.map fun p=>p.2.2).map V.int
 |[]=>by simp[jz]
 |p::l=>by have:=Dm l;rw[aC,jz,bQ,this];rfl
theorem Ro.pt_pl (ρ:Ro):ρ.pt.filter isI=ρ.pl.map V.int:=by
 cases ρ with
 |rcd l=>show(jz [.tup (l.map fdD)]).filter isI=_;rw[jz,flV,jz,aE];exact Dl l
 |case k l=>show(jz [kD k,.tup (l.map amD)]).filter isI=_;rw[jz,jz,jz,flV,aE,bQ,Dm l];rfl
 |row ks=>show(jz [.tup (ks.map kD)]).filter isI=_;rw[jz,flV,jz,aE,(A2 ks).2.1];exact A4 ks
 |op s ks=>show(jz (ks.map kD)).filter isI=_;rw[(A2 ks).2.1];exact A4 ks
 |_=>rfl
theorem Ro.pt_le (ρ:Ro) (h:ρ.ok):ρ.pt.length<=10000:=by
 have:=(ρ.fl h).2.2
 cases ρ with
 |num n=>exact cX _
 |name n=>exact cX _
 |_=>exact this
theorem GW:∀(d:Dt),okF d=true->∀v∈flV d,(∃n,v= .int n)\/∃s,v= .str s:=by
 intro d;refine Dt.rec (motive_1:=fun d=>okF d=true->∀v∈flV d,(∃n,v= .int n)\/∃s,v= .str s) (motive_2:=fun ds=>p6 ds=true->∀v∈jz ds,(∃n,v= .int n)\/∃s,v= .str s) ?_ ?_ ?_ ?_ ?_ d;·intro v h x hx;rw[flV,bo]at hx;subst hx;cases x<;>first|exact .inl ⟨_,rfl⟩|exact .inr ⟨_,rfl⟩|simp[okF]at h
 ·intro ds ih h v hv;rw[flV]at hv;rw[okF]at h;exact ih h v hv
 ·intro ds ih h;rw[okF]at h;cases h
 ·intro _ v hv;rw[jz]at hv;cases hv
 ·intro d ds h1 h2 h v hv;rw[jz]at hv;rw[p6,fz]at h;rcases ao.mp hv with hv|hv;·exact h1 h.1 v hv
  ·exact h2 h.2 v hv
theorem Ro.pt_is (ρ:Ro) (h:ρ.ok):∀v∈ρ.pt,(∃n,v= .int n)\/∃s,v= .str s:=by
 have h1:=(ρ.fl h).1;have h2:=GW (.tup ρ.r) (by rw[okF];exact h1);rw[flV]at h2
 cases ρ with
 |num n=>intro v hv;cases hv
 |name n=>intro v hv;cases hv
 |_=>exact h2
def vN:Sp:=fun vs H Q _=>X2 fun(t:Zx) (ρ:Ro)=>Y4 (vs=[.ref t]) (Im H (.ref t) ρ.d) (ρ.ok) (∀l H',gC H H'->H l=none->H' l=some (.lst (ρ.pl.map V.int))->Q (.ref l) H')
theorem p7 (T:Txt K mg):FO P w base 6 T.d2 vN:=by
 refine T.d2.F.rd vE fun _ A _ s H vs Q E hr h=>?_;obtain⟨t,ρ,rfl,hi,ho,q⟩:=h;refine⟨_,(gj (gG (qf rfl (FA (x:="part") rfl iq iq rfl rfl) (jq (pF T.d1 (wW T) hr.m (fZ (cv 0) gf))) (fun _ _ _ _ _=>(Ap (jM (gM (r:=rIsi K) kG rfl T.z_isinstance iG (fZ (cv 0) (fZ (oB rfl T.z_int An) gf)))))) (fun _ _ _ _ _=>(cv 0))))),?_⟩;have sl:=sizeLine_eq;have lp:=ρ.pt_le ho;refine⟨t,ρ,rfl,hi,ho,fun l H1 S1 hl e1=>⟨l,rfl,⟨_,SqL.of e1⟩,fun D hD=>?_⟩⟩;refine GV (xs:=ρ.pt) isI id hD (by lia) rfl (fun k H S h=>De e1 S h) (fun k H v H' S h y=>⟨y.1,y.2 _ (SqL.of (S _ _ e1))⟩) (fun H S=>Dg e1 S) ?_ ?_ ?_
 ·intro k v H2 R hv S hR;rcases ρ.pt_is ho v (aQ hv)with⟨n,rfl⟩|⟨x,rfl⟩;·exact⟨_,_,_,_,true,rfl,fun _ r=>r,.int n,rfl,_,rfl,hR⟩
  ·exact⟨_,_,_,_,false,rfl,fun _ r=>r,.str x,rfl,_,rfl,hR⟩
 ·intro k v H2 R hv hp S hR;exact hR
 ·intro H' S e;rw[List.map_id,ρ.pt_pl]at e;exact q D H' (S1.trans S) (S1.free hD) e
def Ro.ws:Ro->List Str
 | .rcd l=>l.map Prod.fst
 | .case _ l=>l.map Prod.fst
 |_=>[]
theorem Ro.ws_nd (ρ:Ro) (h:ρ.ok):ρ.ws.Nodup/\ρ.ws.length<=100:=by
 cases ρ with
 |rcd l=>exact⟨h.2,by show(l.map Prod.fst).length<=_;rw[aD];exact h.1⟩
 |case k l=>exact⟨h.2,by show(l.map Prod.fst).length<=_;rw[aD];exact h.1⟩
 |_=>exact⟨cm,cX _⟩
theorem oz (ρ:Ro) (h:ρ.ok) (x:Str) (hx:x∈(["rec","case","fn","let","name","num"]:Zd)):(∃s ks,ρ= .op s ks)->decide (ρ.s=x)=false:=by rintro⟨s,ks,rfl⟩;have hs:s∈plain:=h.1;show decide (s=x)=false;simp only[plain,ak,bI,or_false]at hs hx;rcases hs with rfl|rfl|rfl|rfl|rfl|rfl|rfl<;>rcases hx with rfl|rfl|rfl|rfl|rfl|rfl<;>decide+kernel
def Ro.isR:Ro->Bool
 | .rcd _=>true
 |_=>false
def Ro.isC:Ro->Bool
 | .case _ _=>true
 |_=>false
def Ro.isF:Ro->Bool
 | .fn _ _=>true
 |_=>false
def Ro.isL:Ro->Bool
 | .lt _ _ _=>true
 |_=>false
theorem Ro.hd (ρ:Ro) (h:ρ.ok):decide (ρ.s="rec")=ρ.isR/\decide (ρ.s="case")=ρ.isC/\decide (ρ.s="fn")=ρ.isF/\decide (ρ.s="let")=ρ.isL:=by
 cases ρ with
 |op s ks=>exact⟨oz _ h _ iq ⟨s,ks,rfl⟩,oz _ h _ iq ⟨s,ks,rfl⟩,oz _ h _ iq ⟨s,ks,rfl⟩,oz _ h _ iq ⟨s,ks,rfl⟩⟩
 |num a=>exact(show decide (("num":Str)="rec")=false/\decide (("num":Str)="case")=false/\decide (("num":Str)="fn")=false/\decide (("num":Str)="let")=false from by decide+kernel)
 |name a=>exact(show decide (("name":Str)="rec")=false/\decide (("name":Str)="case")=false/\decide (("name":Str)="fn")=false/\decide (("name":Str)="let")=false from by decide+kernel)
 |fn a b=>exact(show decide (("fn":Str)="rec")=false/\decide (("fn":Str)="case")=false/\decide (("fn":Str)="fn")=true/\decide (("fn":Str)="let")=false from by decide+kernel)
 |tag a b=>exact(show decide (("tag":Str)="rec")=false/\decide (("tag":Str)="case")=false/\decide (("tag":Str)="fn")=false/\decide (("tag":Str)="let")=false from by decide+kernel)
 |lt a b c=>exact(show decide (("let":Str)="rec")=false/\decide (("let":Str)="case")=false/\decide (("let":Str)="fn")=false/\decide (("let":Str)="let")=true from by decide+kernel)
 |get a b=>exact(show decide (("get":Str)="rec")=false/\decide (("get":Str)="case")=false/\decide (("get":Str)="fn")=false/\decide (("get":Str)="let")=false from by decide+kernel)
 |rcd a=>exact(show decide (("rec":Str)="rec")=true/\decide (("rec":Str)="case")=false/\decide (("rec":Str)="fn")=false/\decide (("rec":Str)="let")=false from by decide+kernel)
 |case a b=>exact(show decide (("case":Str)="rec")=false/\decide (("case":Str)="case")=true/\decide (("case":Str)="fn")=false/\decide (("case":Str)="let")=false from by decide+kernel)
 |row a=>exact(show decide (("row":Str)="rec")=false/\decide (("row":Str)="case")=false/\decide (("row":Str)="fn")=false/\decide (("row":Str)="let")=false from by decide+kernel)
theorem yx {a:Zx} {te:TE} {Q:VK} {τ:St} {H1:Hp} {D:Zx} {xs:List V} {α:Type} {f:α->Dt} {g:α->Str} {l:List α} (e:H1 a=some (.tup xs)) (I:Ims H1 xs (l.map f)) (hn:l.length<=100) (hD:H1 D=none) (hτ:τ.set 0 none=τ)
  (ht:∀(x:α) (v:V) H (R:VK),Im H v (f x)->R (.str (g x)) H->te (τ.set 0 (some v)) H R)
  (hq:∀H',gC H1 H'->H' D=some (.lst ((l.map g).map V.str))->Q (.ref D) H'):LcP (Itt K a) 0 oT te Q τ H1 D:=by
 have sl:=sizeLine_eq;have lx:=I.length;rw[aD]at lx;refine sF l.length (by lia) (fun ys H=>ys=((l.take ys.length).map g).map V.str) (fun xs H H' h _=>h) hD hτ (fun k H S h=>AA e S (by lia)) (fun H S=>by rw[<-lx];exact AB e S) rfl ?_ ?_;·intro k H v H3 ys Z S hk y hys hl hz;obtain⟨rfl,hv⟩:=y;have hv:=hv _ (SqT.of (S _ _ e));obtain⟨d,hd,him⟩:=jf I hv;rw[aO]at hd;obtain⟨x,hx⟩:∃x,l[k]?=some x:=⟨_,bF hk⟩;rw[hx]at hd;cases hd;refine ht x v H3 Z (him.mono (gC.tk S)) (hz _ _ (gC.refl _) ?_);rw[aR,hl,bf,cf,hx,bp,bp,<-hl,<-hys];rfl
 ·intro H' ys S hys hl e';rw[hl,bz]at hys;exact hq H' S (by rw[e',hys])
def uc:Sp:=fun vs H Q _=>X2 fun(t:Zx) (ρ:Ro)=>Y4 (vs=[.ref t]) (Im H (.ref t) ρ.d) (ρ.ok) (∀l H',gC H H'->H l=none->H' l=some (.lst (ρ.ws.map V.str))->Q (.ref l) H')
theorem ud (T:Txt K mg):FO P w base 1 T.d21 uc:=by
 refine T.d21.F.rd tY fun _ A _ s H vs Q E hr h=>?_;obtain⟨t,ρ,rfl,hi,ho,q⟩:=h;refine⟨_,(f9 (ie (gH jZ (gy gA (cv 0) gh) gE)
   (gj (gG (qf rfl (FA (x:="field") rfl iq iq rfl rfl) (qF (gy gA (cv 0) gh)) (fun _ _ _ _ _=>lC) (fun _ _ _ _ _=>(gy gA (cv 0) gh)))))
   gK)
  (f9 (ie (gH jZ (gy gA (cv 0) gh) gE)
   (gj (gG (qf rfl (FA (x:="arm") rfl iq iq rfl rfl) (qF (gy gA (cv 0) gh)) (fun _ _ _ _ _=>lC) (fun _ _ _ _ _=>(gy gA (cv 0) gh)))))
   gK)
  (gj (gG (gT gf))))),?_⟩;have sl:=sizeLine_eq;obtain⟨h1,h2,_,_⟩:=ρ.hd ho
 cases hi with
 |@tup _ ys _ et hs=>
  cases hs with
  |@cons y _ ys _ hy hs=>
   cases hy;refine⟨_,et,gu (gq (j:=0) rfl) ?_⟩;dsimp only[tC,cEq,onB];rw[fB,h1];have non:ρ.ws=[]->(B3 (Ie zM) {nx:=fun _ H'=>Q .non H',rt:=Q}:St->Hp->Prop) [some (.ref t)] H:=fun e=>⟨pP,fun l hl=>q l _ (gi hl _) hl (by rw[gb,e];rfl)⟩
   cases ρ with
   |rcd l=>
    refine jJ ?_
    cases hs with
    |cons hx _=>
     cases hx with
     |@tup ta xs _ eta hxs=>
      refine⟨_,et,gu (gq (j:=1) rfl) ⟨ta,rfl,⟨_,SqT.of eta⟩,fun D hD=>?_⟩⟩;refine yx (f:=fdD) (g:=Prod.fst) eta hxs ho.1 hD rfl ?_ (fun H' S e=>q D H' S hD e);intro x v H2 R hv hR
      cases hv with
      |tup ev hvs=>
       cases hvs with
       |cons a _=>cases a;exact⟨_,ev,gu (gq (j:=0) rfl) hR⟩
   |case k l=>
    refine iL ⟨_,et,gu (gq (j:=0) rfl) ?_⟩;dsimp only[tC,cEq,onB];rw[fB,h2];refine jJ ?_
    cases hs with
    |cons _ hs=>
     cases hs with
     |cons hx _=>
      cases hx with
      |@tup ta xs _ eta hxs=>
       refine⟨_,et,gu (gq (j:=2) rfl) ⟨ta,rfl,⟨_,SqT.of eta⟩,fun D hD=>?_⟩⟩;refine yx (f:=amD) (g:=Prod.fst) eta hxs ho.1 hD rfl ?_ (fun H' S e=>q D H' S hD e);intro x v H2 R hv hR
       cases hv with
       |tup ev hvs=>
        cases hvs with
        |cons a _=>cases a;exact⟨_,ev,gu (gq (j:=0) rfl) hR⟩
   |_=>refine iL ⟨_,et,gu (gq (j:=0) rfl) ?_⟩;dsimp only[tC,cEq,onB];rw[fB,h2];exact iL (non rfl)
def exG (g:Str->Option Hm):Option (Str×Hm)->(Str->Option Hm)
 |none=>g
 |some (x,h)=>wid g x h
def Ro.ex:Ro->List (Option (Str×Hm))
 | .fn w k=>[some (w,("fn",k))]
 | .lt w a _=>[none,some (w,("let",a))]
 | .case _ l=>none::l.map fun p=>some (p.2.1,("arm",p.2.2))
 |ρ=>ρ.pl.map fun _=>none
theorem Sc.le {H:Hp} {a:Zx} {g:Str->Option Hm} {n m:Nat} (h:Sc H a g n) (l:n<=m):Sc H a g m:=by obtain⟨kvs,e,l',h⟩:=h;exact⟨kvs,e,cQ l' l,h⟩
theorem Sc.upd {H:Hp} {a d:Zx} {g:Str->Option Hm} {n:Nat} {kv:List (Key×V)} {o:HO} (h:Sc H a g n) (e:H d=some (.dK kv)) (ne:a≠d):Sc (L2.Internal.upd H d o) a g n:=by
 obtain⟨kvs,e1,l,h⟩:=h;refine⟨kvs,by rw[gx ne];exact e1,l,fun w=>?_⟩;have:=h w
 cases hg:g w with
 |none=>rw[hg]at this;exact this
 |some z=>rw[hg]at this;obtain⟨t,h1,h2⟩:=this;exact⟨t,h1,by rw[gx (kI h2 e (fun z=>nomatch z))];exact h2⟩
theorem Sc.dk {H:Hp} {a:Zx} {g:Str->Option Hm} {n:Nat} (h:Sc H a g n):∃kv,H a=some (.dK kv):=by obtain⟨kvs,e,_⟩:=h;exact⟨kvs,e⟩
theorem yy {kvs:List (Key×V)} {k:Key} (v:V) (hn:(kvs.map (·.1)).Nodup):((lP kvs k v).map (·.1)).Nodup:=by
 cases q:jB kvs k with
 |none=>exact Eo v hn q
 |some x=>
  have e:(lP kvs k v).map (·.1)=kvs.map (·.1):=by unfold lP;rw[lg,q];rw[gU (show(some x).isSome=true from rfl),bG];refine bZ fun p _=>?_;show(if p.1=k then(p.1,v)else p).1=p.1;split<;>rfl
  rw[e];exact hn
theorem oh:∀(more kvs:List (Key×V)) (k:Key),(more.map (·.1)).Nodup->jB (jh kvs more) k=match jB more k with|some v=>some v|none=>jB kvs k
 |[],kvs,k,_=>rfl
 |p::more,kvs,k,nd=>by
  obtain⟨h1,h2⟩:=aF.mp (show(p.1::more.map (·.1)).Nodup from nd);show jB (jh (lP kvs p.1 p.2) more) k=_;rw[oh more _ k h2];by_cases e:p.1=k
  ·rw[iX e];have:jB more k=none:=by
    cases q:jB more k with
    |none=>rfl
    |some x=>exact absurd (Em q) (by rw[<-e];exact h1)
   rw[this];show jB (lP kvs p.1 p.2) k=some p.2;rw[iM,gU e.symm]
  ·rw[iY e]
   cases q:jB more k with
   |some x=>rfl
   |none=>show jB (lP kvs p.1 p.2) k=jB kvs k;rw[iM,gN (fun z=>e z.symm)]
def InS (W:Zx->Prop) (H:Hp) (kvs:List (Key×V)) (ρ:Ro) (g:Str->Option Hm) (n:Nat):Prop:=∀c:Int,(jB kvs (.inl c)=none/\c∉ρ.pl)\/∃(j:Nat) (e:Option (Str×Hm)) (a:Zx),W a/\ρ.pl[j]?=some c/\ρ.ex[j]?=some e/\jB kvs (.inl c)=some (.ref a)/\Sc H a (exG g e) (n+ 1)
theorem GX {x:Str} {A B u:TS} {D:rO} {σ:St} {H:Hp} {t:Zx} {ys:List V} {s:Str} {b:Bool} (hσ:σ[0]?=some (some (.ref t))) (et:H t=some (.tup (.str s::ys))) (hb:decide (s=x)=b) (k:if b=true then A {D with nx:=u D} σ H else B {D with nx:=u D} σ H):
  BZ (CQ (cT (tOp (cEq false) (tOp EE (cV 0) (tC (.int 0))) (tC (.str x)))) A B) u D σ H:=by show onV σ[0]? _;rw[hσ];refine⟨_,et,gu (gq (j:=0) rfl) ?_⟩;dsimp only[tC,cEq,onB];rw[fB,hb];exact k
theorem oJ {x:Str} {A u:TS} {D:rO} {σ:St} {H:Hp} {t:Zx} {ys:List V} {s:Str} (hσ:σ[0]?=some (some (.ref t))) (et:H t=some (.tup (.str s::ys))) (hb:decide (s=x)=false) (k:u D σ H):
  BZ (CQ (cT (tOp (cEq false) (tOp EE (cV 0) (tC (.int 0))) (tC (.str x)))) A qb) u D σ H:=GX hσ et hb (iL k)
theorem A6 {x:Str} {A B u:TS} {D:rO} {σ:St} {H:Hp} {t:Zx} {ys:List V} {s:Str} (hσ:σ[0]?=some (some (.ref t))) (et:H t=some (.tup (.str s::ys))) (hb:decide (s=x)=true) (k:A {D with nx:=u D} σ H):
  BZ (CQ (cT (tOp (cEq false) (tOp EE (cV 0) (tC (.int 0))) (tC (.str x)))) A B) u D σ H:=GX hσ et hb (jJ k)
theorem Ro.pl_le (ρ:Ro) (h:ρ.ok):ρ.pl.length<=101:=by
 cases ρ with
 |rcd l=>show(l.map Prod.snd).length<=_;rw[aD];exact cQ h.1 (by decide)
 |case k l=>show(k::l.map fun p=>p.2.2).length<=_;rw[aA,aD];have:=h.1;lia
 |row ks=>exact cQ h (by decide)
 |op s ks=>exact cQ h.2 (by decide)
 |_=>simp[Ro.pl]
theorem A7 {W:Zx->Prop} {H:Hp} {kvs:List (Key×V)} {ρ:Ro} {g:Str->Option Hm} {n:Nat} {a:Zx} (hW:W a) (hx:ρ.ex=ρ.pl.map fun _=>none) (hs:Sc H a g n) (hv:∀c:Int,jB kvs (.inl c)=if c∈ρ.pl then some (.ref a)else none):InS W H kvs ρ g n:=by
 intro c;by_cases h:c∈ρ.pl;·obtain⟨j,hj⟩:=cn.mp h;exact .inr ⟨j,none,a,hW,hj,by rw[hx,aO,hj];rfl,by rw[hv c,gU h],hs.le (cZ _)⟩
 ·exact .inl ⟨by rw[hv c,gN h],h⟩
def rE:Sp:=fun vs H Q _=>X5 fun(t a:Zx) (ρ:Ro) (g:Str->Option Hm) (n:Nat)=>Y6 (vs=[.ref t,.ref a]) (Im H (.ref t) ρ.d) (ρ.ok) (Sc H a g n) (n<9000) (
 ∀d kvs H',gC H H'->H d=none->H' d=some (.dK kvs)->(kvs.map (·.1)).Nodup->kvs.length<=300->InS (fun b=>b=a\/H b=none) H' kvs ρ g n->Q (.ref d) H')
theorem rF (T:Txt K mg):FO P w base 7 T.d24 rE:=by
 refine T.d24.F.rd jW fun _ A _ s H vs Q E hr h=>?_;have hu:=rP hr;obtain⟨t,a,ρ,g,n,rfl,hi,ho,hsc,hn,q⟩:=h;refine⟨_,(f9 (pS (i:=2) jW.nd m7)
  (f9 (jb PassesOwn.never rfl (jq (pF T.d2 (p7 T) hr.m (fZ (cv 0) gf))) (pN (i:=3) jW.nd)
   (gj (mB hu (cv 2) (cv 3) (cv 1) rfl)))
  (f9 (ie (gH jZ (gy gA (cv 0) gh) gE)
   (gj (mB hu (cv 2) (gy gA (cv 0) gh) (pF T.d25 (sL T) hr.m (fZ (cv 1) (fZ (gy gA (cv 0) gh) (fZ (ij (fZ gE (fZ (gy gA (cv 0) gh) gf))) gf)))) rfl))
   gK)
  (f9 (ie (gH jZ (gy gA (cv 0) gh) gE)
   (gj (mB hu (cv 2) (gy gA (cv 0) gh) (pF T.d25 (sL T) hr.m (fZ (cv 1) (fZ (gy gA (cv 0) gh) (fZ (ij (fZ gE (fZ (gy gA (cv 0) gh) gf))) gf)))) rfl))
   gK)
  (f9 (ie (gH jZ (gy gA (cv 0) gh) gE)
   (gj (jb PassesOwn.never rfl (qF (gy gA (cv 0) gh)) (pN (i:=4) jW.nd)
    (gj (mB hu (cv 2) (gy gA (cv 4) gh) (pF T.d25 (sL T) hr.m (fZ (cv 1) (fZ (gy gA (cv 4) gh) (fZ (ij (fZ gE (fZ (gy gA (cv 4) gh) gf))) gf)))) rfl))))
   gK)
  (gj (gG (cv 2)))))))),?_⟩;have sl:=sizeLine_eq;obtain⟨_,h2,h3,h4⟩:=ρ.hd ho;have lp:=ρ.pl_le ho;intro d hd;have s1:=gi hd (.dK []);have ed:(upd H d (.dK [])) d=some (.dK []):=gb;dsimp only[gY];generalize upd H d (.dK [])=H1 at s1 ed⊢;have nad:a≠d:=by obtain⟨kv,e⟩:=hsc.dk;exact gr e hd
 refine⟨t,ρ,rfl,hi.mono (gC.tk s1),ho,fun l H1' S1 hl e1=>⟨l,rfl,⟨_,SqL.of e1⟩,jE (xs:=ρ.pl.map V.int) (fun i σ H2=>X2 fun(o:Option V) (kvs:List (Key×V))=>Y7 (σ=[some (.ref t),some (.ref a),some (.ref d),o,none]) (gC H H2) (H2 l=some (.lst (ρ.pl.map V.int))) (H2 d=some (.dK kvs)) ((kvs.map (·.1)).Nodup) (kvs.length<=i) (∀c:Int,jB kvs (.inl c)=if c∈ρ.pl.take i then some (.ref a)else none))
  ⟨none,[],rfl,s1.trans S1,e1,S1 _ _ ed,cm,cX _,fun c=>by rw[List.take_zero,gN bI];rfl⟩ (fun i σ H2 _ ⟨_,_,_,_,e,_,_,_,_⟩=>SqL.of e) ?_ ?_⟩⟩
 ·rintro i v σ H2 hv ⟨o,kvs,rfl,S,el,ek,nd,hk,hc⟩;rw[aO]at hv;obtain⟨c,hcc,rfl⟩:=dI.mp hv;have hi:=(au.mp hcc).1;have nld:l≠d:=(gr ed hl).symm;refine⟨d,_,rfl,ze.k (k:=Sum.inl c) ek (by lia),_,_,rfl,hG S hd _,by rw[gx nld];exact el,gb,yy _ nd,cQ (ig _ _ _) (by lia),fun c'=>?_⟩;rw[iM,cf,hcc];by_cases z:c'=c;·rw[gU (by rw[z]),gU (by simp[z])]
  ·rw[gN (fun y=>z (by injection y)),hc c'];simp[z]
 ·rintro σ H2 ⟨o,kvs,rfl,S,el,ek,nd,hk,hc⟩;rw[aD,bz]at hc;rw[aD]at hk;have hi2:=hi;have hsc2:=hsc.same S;have fin:∀{o3 o4:Option V} {H3:Hp} {kvs:List (Key×V)},gC H H3->H3 d=some (.dK kvs)->(kvs.map (·.1)).Nodup->kvs.length<=300->InS (fun b=>b=a\/H b=none) H3 kvs ρ g n->(B3 (cV 2) {nx:=fun _ H'=>Q .non H',rt:=Q}:St->Hp->Prop) [some (.ref t),some (.ref a),some (.ref d),o3,o4] H3:=fun S3 e3 n3 l3 i3=>q d _ _ S3 hd e3 n3 l3 i3
  cases hi2 with
  |@tup _ ys _ et0 hs=>
   have et:=S _ _ et0
   cases hs with
   |@cons y _ ys _ hy hs=>
    cases hy;dsimp only
    cases ρ with
    |fn x k=>
     cases hs with
     |cons a1 hs=>
      cases hs with
      |cons a2 hs=>
       cases a1;cases a2;cases hs;refine A6 rfl et h3 ⟨_,et,gu (gq (j:=1) rfl) ⟨_,et,gu (gq (j:=2) rfl) ⟨ow,fun p hp=>?_⟩⟩⟩;have sp:=gi hp (.tup [.str "fn",.int k]);refine⟨a,p,g,n,x,("fn",k),rfl,hsc2.same sp,by lia,gb,fun b H4 S4 hb sc4=>?_⟩;have S24:=sp.trans S4;refine⟨_,S24 _ _ et,gu (gq (j:=2) rfl) ⟨d,_,rfl,ze.k (k:=Sum.inl k) (S24 _ _ ek) (by lia),?_⟩⟩;have nbd:b≠d:=(gr (sp _ _ ek) hb).symm;have et5:(upd H4 d (.dK (lP kvs (Sum.inl k) (.ref b)))) t=some (.tup (.str "fn"::[.str x,.int k])):=by rw[gx (kI (S24 _ _ et) (S24 _ _ ek) (fun z=>nomatch z))];exact S24 _ _ et
       dsimp only;refine oJ rfl et5 h4 (oJ rfl et5 h2 (fin (hG (S.trans S24) hd _) gb (yy _ nd) (cQ (ig _ _ _) (by lia)) fun c=>?_));by_cases z:c=k;·exact .inr ⟨0,_,b,.inr ((S.trans sp).free hb),by rw[z];rfl,rfl,by rw[iM,gU (by rw[z])],sc4.upd (S24 _ _ ek) nbd⟩
       ·exact .inl ⟨by rw[iM,gN (fun y=>z (by injection y)),hc c,gN (by simpa[Ro.pl]using z)],by simpa[Ro.pl]using z⟩
    |lt x k1 k2=>
     refine oJ rfl et h3 ?_
     cases hs with
     |cons a1 hs=>
      cases hs with
      |cons a2 hs=>
       cases hs with
       |cons a3 hs=>
        cases a1;cases a2;cases a3;cases hs;refine A6 rfl et h4 ⟨_,et,gu (gq (j:=1) rfl) ⟨_,et,gu (gq (j:=2) rfl) ⟨ow,fun p hp=>?_⟩⟩⟩;have sp:=gi hp (.tup [.str "let",.int k1]);refine⟨a,p,g,n,x,("let",k1),rfl,hsc2.same sp,by lia,gb,fun b H4 S4 hb sc4=>?_⟩;have S24:=sp.trans S4;refine⟨_,S24 _ _ et,gu (gq (j:=3) rfl) ⟨d,_,rfl,ze.k (k:=Sum.inl k2) (S24 _ _ ek) (by lia),?_⟩⟩;have nbd:b≠d:=(gr (sp _ _ ek) hb).symm;have et5:(upd H4 d (.dK (lP kvs (Sum.inl k2) (.ref b)))) t=some (.tup (.str "let"::[.str x,.int k1,.int k2])):=by rw[gx (kI (S24 _ _ et) (S24 _ _ ek) (fun z=>nomatch z))];exact S24 _ _ et
        dsimp only;refine oJ rfl et5 h2 (fin (hG (S.trans S24) hd _) gb (yy _ nd) (cQ (ig _ _ _) (by lia)) fun c=>?_);by_cases z:c=k2;·exact .inr ⟨1,_,b,.inr ((S.trans sp).free hb),by rw[z];rfl,rfl,by rw[iM,gU (by rw[z])],sc4.upd (S24 _ _ ek) nbd⟩
        ·by_cases z1:c=k1;·exact .inr ⟨0,_,a,.inl rfl,by rw[z1];rfl,rfl,by rw[iM,gN (fun y=>z (by injection y)),hc c,gU (by simp[Ro.pl,z1])],((hsc2.same S24).upd (S24 _ _ ek) nad).le (cZ _)⟩
         ·exact .inl ⟨by rw[iM,gN (fun y=>z (by injection y)),hc c,gN (by simp[Ro.pl,z,z1])],by simp[Ro.pl,z,z1]⟩
    |case k0 l=>
     refine oJ rfl et h3 (oJ rfl et h4 ?_)
     cases hs with
     |cons a1 hs=>
      cases hs with
      |cons a2 hs=>
       cases a1;cases hs
       cases a2 with
       |@tup ta xs _ eta hxs=>
        have lx:=hxs.length;rw[aD]at lx;have hl100:l.length<=100:=ho.1;refine A6 rfl et h2 ⟨_,et,gu (gq (j:=2) rfl) ⟨ta,rfl,⟨_,SqT.of (S _ _ eta)⟩,wB (xs:=xs) (fun i σ H3=>X2 fun(o4:Option V) (kvs:List (Key×V))=>Y6 (σ=[some (.ref t),some (.ref a),some (.ref d),o,o4]) (gC H H3) (H3 d=some (.dK kvs)) ((kvs.map (·.1)).Nodup) (kvs.length<=101+i) (∀c:Int,(∃(j:Nat) (p:Str×Str×Int) (b:Zx),j<i/\l[j]?=some p/\p.2.2=c/\jB kvs (.inl c)=some (.ref b)/\(b≠d/\H b=none)/\Sc H3 b (wid g p.2.1 ("arm",c)) (n+ 1))\/((∀(j:Nat) (p:Str×Str×Int),j<i->l[j]?=some p->p.2.2≠c)/\jB kvs (.inl c)=if c∈(Ro.case k0 l).pl then some (.ref a)else none)))
         ⟨none,kvs,rfl,S,ek,nd,by lia,fun c=> .inr ⟨fun j p hj=>absurd hj (dt _),hc c⟩⟩ (fun i σ H3 _ ⟨_,_,_,S3,_,_,_,_⟩=>SqT.of (S3 _ _ eta)) ?_ ?_⟩⟩
        ·rintro i v σ H3 hv ⟨o4,kvs,rfl,S3,ek,nd,hk,hc⟩;obtain⟨dd,hdd,him⟩:=jf hxs hv;rw[aO]at hdd;obtain⟨⟨tg,x,kk⟩,hp,rfl⟩:=dI.mp hdd;have hi:=(au.mp hp).1
         cases him with
         |@tup tb _ _ eb hb=>
          cases hb with
          |cons b1 hb=>
           cases hb with
           |cons b2 hb=>
            cases hb with
            |cons b3 hb=>
             cases b1;cases b2;cases b3;cases hb;refine⟨_,S3 _ _ eb,gu (gq (j:=1) rfl) ⟨_,S3 _ _ eb,gu (gq (j:=2) rfl) ⟨ow,fun p hp'=>?_⟩⟩⟩;have sp:=gi hp' (.tup [.str "arm",.int kk]);refine⟨a,p,g,n,x,("arm",kk),rfl,(hsc.same S3).same sp,by lia,gb,fun b H4 S4 hb sc4=>?_⟩;have S34:=sp.trans S4;refine⟨_,S34 _ _ (S3 _ _ eb),gu (gq (j:=2) rfl) ⟨d,_,rfl,ze.k (k:=Sum.inl kk) (S34 _ _ ek) (by lia),?_⟩⟩;have nbd:b≠d:=(gr (sp _ _ ek) hb).symm;refine⟨_,_,rfl,hG (S3.trans S34) hd _,gb,yy _ nd,cQ (ig _ _ _) (by lia),fun c=>?_⟩;by_cases z:c=kk;·exact .inl ⟨i,_,b,cY _,hp,z.symm,by rw[iM,gU (by rw[z])],⟨nbd,(S3.trans sp).free hb⟩,by rw[z];exact sc4.upd (S34 _ _ ek) nbd⟩
             ·rcases hc c with⟨j,p,b',c1,c2,c3,c4,c5,c6⟩|⟨c1,c2⟩;·exact .inl ⟨j,p,b',c7 c1,c2,c3,by rw[iM,gN (fun y=>z (by injection y))];exact c4,c5,(c6.same S34).upd (S34 _ _ ek) c5.1⟩
              ·refine .inr ⟨fun j p hj hp2=>?_,by rw[iM,gN (fun y=>z (by injection y))];exact c2⟩;by_cases e:j=i;·rw[e,hp]at hp2;cases hp2;exact fun y=>z y.symm
               ·exact c1 j p (by lia) hp2
        ·rintro σ H3 ⟨o4,kvs,rfl,S3,ek,nd,hk,hc⟩;refine fin (o3:=o) (o4:=o4) S3 ek nd (by lia) fun c=>?_;rcases hc c with⟨j,p,b',c1,c2,c3,c4,c5,c6⟩|⟨c1,c2⟩
         ·refine .inr ⟨j+ 1,some (p.2.1,("arm",p.2.2)),b',.inr c5.2,?_,?_,c4,?_⟩;·show(k0::l.map fun p=>p.2.2)[j+ 1]?=_;rw[bJ,aO,c2,<-c3];rfl
          ·show(none::l.map fun p=>some (p.2.1,(("arm":Str),p.2.2)))[j+ 1]?=_;rw[bJ,aO,c2];rfl
          ·rw[c3];exact c6
         ·by_cases z:c=k0;·exact .inr ⟨0,none,a,.inl rfl,by rw[z];rfl,rfl,by rw[c2,gU (by simp[Ro.pl,z])],(hsc.same S3).le (cZ _)⟩
          ·have nm:c∉(Ro.case k0 l).pl:=fun hm=>by
            rcases ak.mp (show c∈(k0::l.map fun p=>p.2.2)from hm)with h|h;·exact z h
            ·obtain⟨p,hp,e⟩:=bh.mp h;obtain⟨j,hj⟩:=cn.mp hp;exact c1 j p (by rw[lx];exact(au.mp hj).1) hj e
           exact .inl ⟨by rw[c2,gN nm],nm⟩
    |_=>exact oJ rfl et h3 (oJ rfl et h4 (oJ rfl et h2 (fin S ek nd (by lia) (A7 (.inl rfl) rfl hsc2 hc))))
theorem yz {K:Zp} {a:Zx} {xs:List V} {g:TG} {tb:TS} {D:rO} {σ:St} {H:Hp} (Pv:Nat->St->Hp->Prop) (h0:Pv 0 σ H) (hl:∀i σ H,i<=xs.length->Pv i σ H->SqL K H a xs)
  (hs:∀(i:Nat) (x:V) (σ:St) (H:Hp) (T:Zx),xs[i]?=some x->Pv i σ H->H T=none->g (.ref T) σ (upd H T (.tup [.int (i:Int),x])) fun σ2 H2=>tb {D with nx:=Pv (i+ 1),ct:=Pv (i+ 1),bk:=D.nx} σ2 H2) (hd:∀σ H,Pv xs.length σ H->D.nx σ H):
  ∃W:Nat->Nat->St->Hp->Prop,(∃m,W 0 m σ H)/\∀i m σ H,W i m σ H->
   ((Ite K a).stop i H/\D.nx σ H)\/((Ite K a).go i H/\∃N:St->Hp->Prop,(∀σ' H',N σ' H'->∃m',m'<m/\W (i+ 1) m' σ' H')/\∀x H',(Ite K a).yld i H x H'->g x σ H' fun σ2 H2=>tb {D with nx:=N,ct:=N,bk:=D.nx} σ2 H2):=by
 refine⟨fun i m σ H=>Y3 (m=xs.length-i) (i<=xs.length) (Pv i σ H),⟨xs.length,by simp,cX _,h0⟩,?_⟩;rintro i m σ H ⟨rfl,hi,p⟩;have q:=hl i σ H hi p;by_cases hlt:i<xs.length;·refine .inr ⟨⟨xs,xs[i],q,by simp[hlt]⟩,Pv (i+ 1),fun σ' H' p'=>⟨xs.length-(i+ 1),by lia,rfl,hlt,p'⟩,fun v H' y=>?_⟩;obtain⟨T,x,rfl,hT,rfl,hx⟩:=y;exact hs i x σ H T (hx xs q) p hT
 ·have e:i=xs.length:=by lia
  subst e;exact .inl ⟨⟨xs,q,rfl⟩,hd σ H p⟩
theorem ES {f:Str} {v:V} {r:List (Str×V)}:aB f ((f,v)::r)=some v:=by rw[bq,show(f==f)=true by simp]
theorem ET {f g:Str} {v:V} {r:List (Str×V)} (h:(f==g)=false):aB f ((g,v)::r)=aB f r:=by rw[bq,h]
def fP (n r w:Zx):List (Str×V):=[("names",.ref n),("roots",.ref r),("rows",.ref w)]
theorem yA (n r w:Zx):(fP n r w).lookup ("names":Str)=some (.ref n):=ES
theorem yB (n r w:Zx):(fP n r w).lookup ("roots":Str)=some (.ref r):=(ET iq).trans ES
theorem ue (n r w:Zx):(fP n r w).lookup ("rows":Str)=some (.ref w):=(ET iq).trans ((ET iq).trans ES)
def nI (k:Nat):V:= .int (k:Int)
structure PrA (C:Zx) (H:Hp) (p n r w dx:Zx) (xs:List V) (names:Zd) (roots:List Nat) (ρs:List Ro):Prop where
 o:H p=some (.ins C dx (fP n r w))
 n:H n=some (.lst (names.map V.str))
 r:H r=some (.lst (roots.map nI))
 w:H w=some (.lst xs)
 i:Ims H xs (ρs.map Ro.d)
theorem PrA.same {C:Zx} {H H':Hp} {p n r w dx:Zx} {xs:List V} {names:Zd} {roots:List Nat} {ρs:List Ro} (h:PrA C H p n r w dx xs names roots ρs) (s:gC H H'):PrA C H' p n r w dx xs names roots ρs:=⟨s _ _ h.o,s _ _ h.n,s _ _ h.r,s _ _ h.w,h.i.mono (gC.tk s)⟩
def G0 (names:Zd):Nat->(Str->Option Hm)
 |0=>fun _=>none
 |d+ 1=>match names[d]? with
  |some x=>wid (G0 names d) x ("def",(d:Int))
  |none=>G0 names d
structure IU (names:Zd) (roots:List Nat) (ρs:List Ro) (out:Nat->Str->Option Hm):Prop where
 nn:names.Nodup
 nl:names.length<=12
 rl:roots.length=names.length
 ok:∀ρ∈ρs,ρ.ok
 pn:ρs.length<=1000
 rlt:∀(i r:Nat),roots[i]?=some r->r<ρs.length
 root:∀(i r:Nat) (ρ:Ro),roots[i]?=some r->ρs[r]?=some ρ->out r=if ρ.isF=true then G0 names (i+ 1)else G0 names i
 kid:∀(k:Nat) (ρ:Ro) (j:Nat) (c:Int) (e:Option (Str×Hm)),ρs[k]?=some ρ->ρ.pl[j]?=some c->ρ.ex[j]?=some e->∃m:Nat,c=(m:Int)/\k<m/\out m=exG (out k) e
 reach:∀k:Nat,k<ρs.length->(∃i:Nat,roots[i]?=some k)\/∃(k':Nat) (ρ:Ro),k'<k/\ρs[k']?=some ρ/\(k:Int)∈ρ.pl
 nm:∀(k:Nat) (x:Str),ρs[k]?=some (.name x)->∃h,out k x=some h
def duo (out:Nat->Str->Option Hm) (k:Nat):Ro->Option Hm
 | .name x=>out k x
 |_=>none
def hoD:Option Hm->Dt
 |none=> .flat .non
 |some h=>hmD h
theorem uf {H:Hp} {xs:List V} {ρs:List Ro} {k:Nat} {ρ:Ro} (h:Ims H xs (ρs.map Ro.d)) (e:ρs[k]?=some ρ):∃(t:Zx) (ys:List V),xs[k]?=some (.ref t)/\H t=some (.tup (.str ρ.s::ys))/\Ims H ys ρ.r/\Im H (.ref t) ρ.d:=by
 have lx:=h.length;rw[aD]at lx;have hk:=(au.mp e).1;obtain⟨d,hd,him⟩:=jf h (bF (show k<xs.length by lia));rw[aO,e]at hd;cases hd;have h0:xs[k]?=some xs[k]:=bF (by lia);generalize xs[k]=v at h0 him;have him':=him
 cases him with
 |@tup t ys _ et hs=>
  cases hs with
  |cons a hs=>cases a;exact⟨t,_,h0,et,hs,him'⟩
def rX (C:Zx):Sp:=fun vs H Q _=>X10 fun(p n r w dx:Zx) (xs:List V) (names:Zd) (roots:List Nat) (ρs:List Ro) (out:Nat->Str->Option Hm)=>Y4 (vs=[.ref p]) (PrA C H p n r w dx xs names roots ρs) (IU names roots ρs out) (
 ∀d kvs H',gC H H'->H d=none->H' d=some (.dK kvs)->kvs.length<=12->(∀(i c:Nat),roots[i]?=some c->∃a,a≠d/\jB kvs (.inl (c:Int))=some (.ref a)/\Sc H' a (out c) 20)->Q (.ref d) H')
theorem rY (T:Txt K mg):FO P w base 2 T.d23 (rX T.c3.a):=by
 refine T.d23.F.rd iI fun _ A _ s H vs Q E hr h=>?_;have hu:=rP hr;obtain⟨p,n,r,w,dx,xs,names,roots,ρs,out,rfl,pr,gd,q⟩:=h;refine⟨_,(f9 (pS (i:=1) iI.nd m7)
  (f9 (pS (i:=2) iI.nd m7)
  (f9 (jb PassesOwn.never rfl (wK rfl T.z_enumerate (fZ (gS T.c3.cl T.n3names (cv 0)) gf)) (xU rfl (kZ (pN (i:=3) iI.nd) (kZ (pN (i:=4) iI.nd) sZ)))
   (f9 (pS (i:=5) iI.nd (gy gJ (gS T.c3.cl T.n3roots (cv 0)) (cv 3)))
   (f9 (pS (i:=6) iI.nd (pF T.d25 (sL T) hr.m (fZ (cv 2) (fZ (cv 4) (fZ (ij (fZ gE (fZ (cv 3) gf))) gf)))))
   (f9 (mB hu (cv 1) (cv 5) (qr (gH jZ (gy gA (gy gJ (gS T.c3.cl T.n3rows (cv 0)) (cv 5)) gh) gE) (cv 6) (cv 2)) rfl)
   (gj (pS (i:=2) iI.nd (cv 6)))))))
  (gj (gG (cv 1)))))),?_⟩;have sl:=sizeLine_eq;intro d hd;have s1:=gi hd (.dK []);have ed:(upd H d (.dK [])) d=some (.dK []):=gb;dsimp only[gY];generalize upd H d (.dK [])=H1 at s1 ed⊢;intro ae hae;have s2:=gi hae (.dK []);have ea:(upd H1 ae (.dK [])) ae=some (.dK []):=gb;dsimp only[gY];generalize upd H1 ae (.dK [])=H2 at s2 ea⊢;have nad:ae≠d:=(gr ed hae).symm;have pr2:=pr.same (s1.trans s2);have nl:=gd.nl;refine⟨_,⟨dx,_,pr2.o,yA _ _ _⟩,n,rfl,⟨_,SqL.of pr2.n⟩,yz (xs:=names.map V.str) (fun i σ H3=>∃(o3 o4 o5 o6:Option V) (ae:Zx) (kvs:List (Key×V)),σ=[some (.ref p),some (.ref d),some (.ref ae),o3,o4,o5,o6]/\gC H H3/\H3 d=some (.dK kvs)/\kvs.length<=i/\ae≠d/\Sc H3 ae (G0 names i) i/\∀(i' c:Nat),i'<i->roots[i']?=some c->∃a,a≠d/\jB kvs (.inl (c:Int))=some (.ref a)/\Sc H3 a (out c) 20)
  ⟨none,none,none,none,ae,[],rfl,s1.trans s2,s2 _ _ ed,cW _,nad,⟨[],ea,cW _,fun w=>rfl⟩,fun i' c h=>absurd h (dt _)⟩ (fun i σ H3 _ ⟨_,_,_,_,_,_,_,S,_⟩=>SqL.of (S _ _ pr.n)) ?_ ?_⟩
 ·rintro i v σ H3 t hx ⟨o3,o4,o5,o6,ae,kvs,rfl,S,ek,hk,nad,sca,hroots⟩ ht;rw[aO]at hx;obtain⟨x,hx',rfl⟩:=dI.mp hx;clear hx;have hx:=hx';have hi:=(au.mp hx).1;have rl:=gd.rl;obtain⟨c,hc⟩:∃c,roots[i]?=some c:=⟨_,bF (by lia)⟩;have hcl:=gd.rlt i c hc;obtain⟨ρ,hρ⟩:∃ρ,ρs[c]?=some ρ:=⟨_,bF hcl⟩;have sT:=gi ht (.tup [.int (i:Int),.str x]);refine⟨t,_,rfl,SqT.of gb,rfl,_,_,rfl,_,_,rfl,rfl,?_⟩;have S4:=S.trans sT;generalize upd H3 t (.tup [.int (i:Int),.str x])=H4 at sT S4;have pr4:=pr.same S4;have hcI:(roots.map nI)[i]?=some (.int (c:Int)):=by rw[aO,hc];rfl
  refine⟨_,⟨dx,_,pr4.o,yB _ _ _⟩,_,pr4.r,gu (gq hcI) ?_⟩;refine⟨ow,fun pp hpp=>?_⟩;have s5:=gi hpp (.tup [.str "def",.int (i:Int)]);refine⟨ae,pp,G0 names i,i,x,("def",(i:Int)),rfl,(sca.same sT).same s5,by lia,gb,fun b H6 S6 hb sc6=>?_⟩;have S36:=(sT.trans s5).trans S6;have SH6:=S.trans S36;have pr6:=pr.same SH6;obtain⟨tr,ys,hxt,etr,_,_⟩:=uf pr6.i hρ;refine⟨_,⟨dx,_,pr6.o,ue _ _ _⟩,_,pr6.w,gu (gq hxt) ⟨_,etr,gu (gq (j:=0) rfl) ?_⟩⟩;dsimp only[tC,cEq,onB];obtain⟨_,_,h3,_⟩:=ρ.hd (gd.ok ρ (aQ hρ));rw[fB,h3];have nbd:b≠d:=(gr (s5 _ _ (sT _ _ ek)) hb).symm;have g1:G0 names (i+ 1)=wid (G0 names i) x ("def",(i:Int)):=by rw[G0,hx]
  have hout:=gd.root i c ρ hc hρ;have nx:∀z:Zx,z≠d->Sc H6 z (out c) 20->∃(a:Zx) (H':Hp),V.ref d= .ref a/\ze H6 a (.int (c:Int)) (.ref z) H'/\∃(o3 o4 o5 o6:Option V) (ae:Zx) (kvs:List (Key×V)),[some (V.ref p),some (.ref d),some (.ref b),some (.int (i:Int)),some (.str x),some (.int (c:Int)),some (.ref b)]=[some (V.ref p),some (.ref d),some (.ref ae),o3,o4,o5,o6]/\gC H H'/\H' d=some (.dK kvs)/\kvs.length<=i+ 1/\ae≠d/\Sc H' ae (G0 names (i+ 1)) (i+ 1)/\∀(i' c:Nat),i'<i+ 1->roots[i']?=some c->∃a,a≠d/\jB kvs (.inl (c:Int))=some (.ref a)/\Sc H' a (out c) 20:=fun z nzd hz=>by
   have e6:=S36 _ _ ek;refine⟨d,_,rfl,ze.k (k:=Sum.inl (c:Int)) e6 (by lia),_,_,_,_,b,_,rfl,hG SH6 hd _,gb,cQ (ig _ _ _) (by lia),nbd,by rw[g1];exact sc6.upd e6 nbd,fun i' c' hi' hc'=>?_⟩;by_cases y:c'=c;·rw[y];exact⟨z,nzd,by rw[iM,gU rfl],hz.upd e6 nzd⟩
   ·have:i'≠i:=fun z=>y (by rw[z,hc]at hc';exact(dE.inj hc').symm);obtain⟨a,h1,h2,h3⟩:=hroots i' c' (by lia) hc';exact⟨a,h1,by rw[iM,gN (fun z=>y (by injection z with z;lia))];exact h2,(h3.same S36).upd e6 h1⟩
  cases hF:ρ.isF with
  |true=>rw[hF,gU rfl,g1]at hout;exact jJ (nx b nbd (by rw[hout];exact sc6.le (by lia)))
  |false=>rw[hF,gN fu]at hout;exact iL (nx ae nad (by rw[hout];exact(sca.same S36).le (by lia)))
 ·rintro σ H3 ⟨o3,o4,o5,o6,ae,kvs,rfl,S,ek,hk,nad,sca,hroots⟩;rw[aD]at hk hroots;refine q d kvs H3 S hd ek (by lia) fun i c hc=>?_;have rl:=gd.rl;exact hroots i c (by have:=(au.mp hc).1;lia) hc
def HoA (H:Hp) (xs:List V) (ρs:List Ro) (out:Nat->Str->Option Hm):Prop:=∀(k:Nat) (x:V) (ρ:Ro),xs[k]?=some x->ρs[k]?=some ρ->Im H x (hoD (duo out k ρ))
theorem Ro.nm_ne (ρ:Ro) (h:ρ.ok) (hn:∀x,ρ≠ .name x):ρ.s≠"name":=by
 cases ρ with
 |name x=>exact absurd rfl (hn x)
 |op s ks=>exact of_decide_eq_false (oz _ h "name" iq ⟨s,ks,rfl⟩)
 |num a=>exact(show("num":Str)≠"name" from by decide+kernel)
 |fn a b=>exact(show("fn":Str)≠"name" from by decide+kernel)
 |tag a b=>exact(show("tag":Str)≠"name" from by decide+kernel)
 |lt a b c=>exact(show("let":Str)≠"name" from by decide+kernel)
 |get a b=>exact(show("get":Str)≠"name" from by decide+kernel)
 |rcd a=>exact(show("rec":Str)≠"name" from by decide+kernel)
 |case a b=>exact(show("case":Str)≠"name" from by decide+kernel)
 |row a=>exact(show("row":Str)≠"name" from by decide+kernel)
theorem CC {H H7:Hp} {ρ:Ro} {zs:List V} {out:Nat->Str->Option Hm} {i:Nat} {Qx:VK} (rok:ρ.ok) (hzs:Ims H zs ρ.r) (hn:∀x,ρ= .name x->∃h,out i x=some h) (key:∀y,Im H7 y (hoD (duo out i ρ))->Qx y H7):
  (ρ.s≠"name"->Qx .non H7)/\(ρ.s="name"->∃(x:Str) (h:Hm),zs=[.str x]/\out i x=some h/\∀p,H7 p=some (.tup [.str h.1,.int h.2])->Qx (.ref p) H7):=by
 have no:(∀x,ρ≠ .name x)->duo out i ρ=none->(ρ.s≠"name"->Qx .non H7)/\(ρ.s="name"->∃(x:Str) (h:Hm),zs=[.str x]/\out i x=some h/\∀p,H7 p=some (.tup [.str h.1,.int h.2])->Qx (.ref p) H7):=fun h e=>⟨fun _=>key _ (by rw[e];exact .flat rfl),fun z=>absurd z (ρ.nm_ne rok h)⟩
 cases ρ with
 |name x=>
  refine⟨fun z=>absurd rfl z,fun _=>?_⟩;obtain⟨h,hh⟩:=hn x rfl
  cases hzs with
  |cons a b=>cases a;cases b;refine⟨x,h,rfl,hh,fun p hp=>key _ ?_⟩;show Im H7 _ (hoD (out i x));rw[hh];exact .tup hp (.cons (.flat rfl) (.cons (.flat rfl) .nil))
 |_=>exact no (fun x z=>nomatch z) rfl
theorem A8 {H H7:Hp} {ρ:Ro} {zs:List V} {out:Nat->Str->Option Hm} {i:Nat} {Qx:VK} {E:XK} {t a:Zx} {n:Nat} {σ:St} (rok:ρ.ok) (hzs:Ims H zs ρ.r) (hn:∀x,ρ= .name x->∃h,out i x=some h) (et:H7 t=some (.tup (.str ρ.s::zs))) (sc:Sc H7 a (out i) n) (h4:σ[4]?=some (some (.ref t))) (h3:σ[3]?=some (some (.int (i:Int)))) (h5:σ[5]?=some (some (.ref a))) (key:∀y,Im H7 y (hoD (duo out i ρ))->Qx y H7):
  B8 sM [] E (lN (cV 4) (lN (cV 3) (lN (cV 5) zM))) σ H7 Qx:=by show onV σ[4]? _;rw[h4];show onV σ[3]? _;rw[h3];show onV σ[5]? _;rw[h5];exact⟨t,a,(i:Int),out i,n,ρ.s,zs,rfl,et,sc,CC rok hzs hn key⟩
theorem Dn {H:Hp} {l:Zx} {u o:HO} (e:H l=some u) (nt:∀zs,u≠ .tup zs):TK H (upd H l o):=fun a xs q=>by rw[gx (kI q e (fun z=>nt _ z.symm))];exact q
theorem Sc.updL {H:Hp} {a l:Zx} {g:Str->Option Hm} {n:Nat} {ys:List V} {o:HO} (h:Sc H a g n) (e:H l=some (.lst ys)):Sc (L2.Internal.upd H l o) a g n:=by
 obtain⟨kvs,e1,l',h⟩:=h;refine⟨kvs,by rw[gx (kI e1 e (fun z=>nomatch z))];exact e1,l',fun w=>?_⟩;have:=h w
 cases hg:g w with
 |none=>rw[hg]at this;exact this
 |some z=>rw[hg]at this;obtain⟨t,h1,h2⟩:=this;exact⟨t,h1,by rw[gx (kI h2 e (fun z=>nomatch z))];exact h2⟩
def wX (C:Zx):Sp:=fun vs H Q _=>X10 fun(p n r w dx:Zx) (xs:List V) (names:Zd) (roots:List Nat) (ρs:List Ro) (out:Nat->Str->Option Hm)=>Y4 (vs=[.ref p]) (PrA C H p n r w dx xs names roots ρs) (IU names roots ρs out) (
 ∀l ys H',gC H H'->H l=none->H' l=some (.lst ys)->ys.length=ρs.length->HoA H' ys ρs out->Q (.ref l) H')
theorem wY (T:Txt K mg):FO P w base 8 T.d19 (wX T.c3.a):=by
 refine T.d19.F.rd ki fun _ A _ s H vs Q E hr h=>?_;have hu:=rP hr;obtain⟨p,n,r,w,dx,xs,names,roots,ρs,out,rfl,pr,gd,q⟩:=h;refine⟨_,(f9 (gL (pF T.d20 (rD T) hr.m (fZ (gS T.c3.cl T.n3names (cv 0)) gf)))
  (f9 (pS (i:=1) ki.nd (pF T.d23 (rY T) hr.m (fZ (cv 0) gf)))
  (f9 (pS (i:=2) ki.nd (gT gf))
  (f9 (jb PassesOwn.never rfl (wK rfl T.z_enumerate (fZ (gS T.c3.cl T.n3rows (cv 0)) gf)) (xU rfl (kZ (pN (i:=3) ki.nd) (kZ (pN (i:=4) ki.nd) sZ)))
   (f9 (pS (i:=5) ki.nd (lQ hu (cv 1) (cv 3)))
   (f9 (gL (pF T.d20 (rD T) hr.m (fZ (pF T.d21 (ud T) hr.m (fZ (cv 4) gf)) gf)))
   (f9 (gL (iS (jt fc fe fg gR (PE.mono (cv 2)) (fZ (PE.mono (pF T.d22 (zL T) hr.m (fZ (cv 4) (fZ (cv 3) (fZ (cv 5) gf))))) gf))))
   (gj (gL (jt PySem.F.plainAttrs_dict eY PySem.F.type_dict_update AF (cv 1) (fZ (pF T.d24 (rF T) hr.m (fZ (cv 4) (fZ (cv 5) gf))) gf))))))))
  (gj (gG (cv 2))))))),?_⟩;have sl:=sizeLine_eq;have nl:=gd.nl;have pn:=gd.pn;refine⟨_,⟨dx,_,pr.o,yA _ _ _⟩,n,names,rfl,pr.n,gd.nn,by lia,fun H1 S1=>?_⟩;refine⟨p,n,r,w,dx,xs,names,roots,ρs,out,rfl,pr.same S1,gd,fun d kvs H2 S2 hd ed hk hroots=>?_⟩;refine⟨pP,fun lh hlh=>?_⟩;have s3:=gi hlh (.lst []);have el:(upd H2 lh (.lst [])) lh=some (.lst []):=gb;dsimp only[gY];generalize upd H2 lh (.lst [])=H3 at s3 el⊢;have S13:=(S1.trans S2).trans s3;have hd0:H d=none:=S1.free hd;have hl0:H lh=none:=(S1.trans S2).free hlh;have ndl:d≠lh:=gr ed hlh;have pr3:=pr.same S13;have lx:=pr.i.length;rw[aD]at lx;refine⟨_,⟨dx,_,pr3.o,ue _ _ _⟩,w,rfl,⟨_,SqL.of pr3.w⟩,yz (xs:=xs) (fun i σ H4=>X5 fun(o3 o4 o5:Option V) (kvs:List (Key×V)) (ys:List V)=>Y8 (σ=[some (.ref p),some (.ref d),some (.ref lh),o3,o4,o5]) (gC H H4) (H4 d=some (.dK kvs)) (kvs.length<=12+ 300*i) (H4 lh=some (.lst ys)) (ys.length=i) (HoA H4 ys ρs out) (
   ∀c:Nat,((∃i':Nat,roots[i']?=some c)\/∃(k':Nat) (ρ:Ro),k'<i/\ρs[k']?=some ρ/\(c:Int)∈ρ.pl)->∃a,a≠d/\jB kvs (.inl (c:Int))=some (.ref a)/\Sc H4 a (out c) (20+c)))
  ⟨none,none,none,kvs,[],rfl,S13,s3 _ _ ed,by lia,el,rfl,fun k x ρ h=>(by cases h),fun c hc=>?_⟩ (fun i σ H4 _ ⟨_,_,_,_,_,_,S,_,_,_,_,_,_⟩=>SqL.of (S _ _ pr.w)) ?_ ?_⟩
 ·rcases hc with⟨i,hi⟩|⟨k',ρ,h,_⟩;·obtain⟨a,h1,h2,h3⟩:=hroots i c hi;exact⟨a,h1,h2,(h3.same s3).le (by lia)⟩
  ·exact absurd h (dt _)
 ·rintro i v σ H4 t hx ⟨o3,o4,o5,kvs,ys,rfl,S,ek,hk,el,hyl,ho,hsc⟩ ht;have hi:=(au.mp hx).1;obtain⟨ρ,hρ⟩:∃ρ,ρs[i]?=some ρ:=⟨_,bF (by lia)⟩;have rok:=gd.ok ρ (aQ hρ);obtain⟨tr,zs,hxt,etr,hzs,him⟩:=uf pr.i hρ;rw[hxt]at hx;cases hx;obtain⟨a,nad,hva,sca⟩:=hsc i (gd.reach i (by lia));have sT:=gi ht (.tup [.int (i:Int),.ref tr]);refine⟨t,_,rfl,SqT.of gb,rfl,_,_,rfl,_,_,rfl,rfl,?_⟩;have S5:=S.trans sT;generalize upd H4 t (.tup [.int (i:Int),.ref tr])=H5 at sT S5;have g:=sC.k (k:=(Sum.inl (i:Int):Key)) (sT _ _ ek);rw[hva]at g;refine⟨d,_,rfl,g,?_⟩;refine⟨tr,ρ,rfl,him.mono (gC.tk S5),rok,fun lw H6 S6 hlw e6=>⟨lw,ρ.ws,rfl,e6,(ρ.ws_nd rok).1,cQ (ρ.ws_nd rok).2 (by decide),fun H7 S7=>?_⟩⟩;have S47:=(sT.trans S6).trans S7;have S07:=S.trans S47;have el7:=S47 _ _ el;have ek7:=S47 _ _ ek;have sca7:=sca.same S47;refine⟨⟨_,el7⟩,A8 rok hzs (fun x e=>gd.nm i x (by rw[hρ,e])) (S07 _ _ etr) sca7 rfl rfl rfl fun y hy=>?_⟩;refine⟨_,el7,by lia,?_⟩;have S08:=hG (o:= .lst (ys++[y])) S07 hl0;have tk8:TK H7 (upd H7 lh (.lst (ys++[y]))):=Dn el7 (fun zs z=>nomatch z);have ek8:(upd H7 lh (.lst (ys++[y]))) d=some (.dK kvs):=by rw[gx ndl];exact ek7
  have el8:(upd H7 lh (.lst (ys++[y]))) lh=some (.lst (ys++[y])):=gb;have sc8:∀{z:Zx} {g:Str->Option Hm} {m:Nat},Sc H4 z g m->Sc (upd H7 lh (.lst (ys++[y]))) z g m:=fun h=>(h.same S47).updL el7;generalize upd H7 lh (.lst (ys++[y]))=H8 at S08 tk8 ek8 el8 sc8;refine⟨.inr (.inr (.inl ⟨rfl,.inl ⟨_,ek8⟩⟩)),tr,a,ρ,out i,20+i,rfl,him.mono (gC.tk S08),rok,sc8 sca,by lia,fun d2 kvs2 H9 S9 hd2 e9 nd9 l9 in9=>⟨d,d2,kvs,kvs2,rfl,rfl,gr ek8 hd2,S9 _ _ ek8,e9,by lia,?_⟩⟩;have tk9:TK H9 (upd H9 d (.dK (jh kvs kvs2))):=Dn (S9 _ _ ek8) (fun zs z=>nomatch z);have tkA:TK H4 (upd H9 d (.dK (jh kvs kvs2))):=fun b u e=>tk9 _ _ (S9 _ _ (tk8 _ _ (S47 _ _ e)));refine⟨_,_,_,_,ys++[y],rfl,hG (S08.trans S9) hd0 _,gb,cQ (lR _ _) (by lia),by rw[gx ndl.symm];exact S9 _ _ el8,by rw[aR,hyl];rfl,?_,?_⟩
  ·intro k x ρ' hx hρ';by_cases hki:k<ys.length;·rw[aN hki]at hx;exact(ho k x ρ' hx hρ').mono tkA
   ·have hk2:=(au.mp hx).1;rw[aR,bf]at hk2;have e:k=ys.length:=by lia
    subst e;rw[aM (cW _),di]at hx;cases hx;rw[hyl]at hρ'⊢;rw[hρ]at hρ';cases hρ';exact hy.mono fun b u e=>tk9 _ _ (S9 _ _ (tk8 _ _ e))
  ·intro c hc;rw[oh _ _ _ nd9];rcases in9 (c:Int)with⟨h1,h2⟩|⟨j,e,a',hW,hj,he,hv,hs⟩
   ·rw[h1];obtain⟨a',g1,g2,g3⟩:=hsc c (by
     rcases hc with h|⟨k',ρ',k1,k2,k3⟩;·exact .inl h
     ·refine .inr ⟨k',ρ',?_,k2,k3⟩;by_cases z:k'=i;·rw[z,hρ]at k2;cases k2;exact absurd k3 h2
      ·lia);exact⟨a',g1,g2,((sc8 g3).same S9).upd (S9 _ _ ek8) g1⟩
   ·rw[hv];have na:a'≠d:=by
     rcases hW with h|h;·rw[h];exact nad
     ·exact(gr ek8 h).symm
    obtain⟨m,e1,e2,e3⟩:=gd.kid i ρ j _ e hρ hj he;have em:c=m:=by lia
    subst em;exact⟨a',na,rfl,by rw[e3];exact(hs.upd (S9 _ _ ek8) na).le (by lia)⟩
 ·rintro σ H4 ⟨o3,o4,o5,kvs,ys,rfl,S,ek,hk,el,hyl,ho,hsc⟩;exact q lh ys H4 S hl0 el (by lia) ho
mutual
inductive Vl where
 |num (n p:Int)
 |rcd (l:Vls) (p:Int)
 |tag (t:Str) (v:Vl) (p:Int)
inductive Vls where
 |nil
 |cons (w:Str) (v:Vl) (t:Vls)
end
mutual
def Vl.d:Vl->Dt
 | .num n p=> .tup [sD "num",kD n,kD p]
 | .rcd l p=> .tup [sD "rec",.tup l.ds,kD p]
 | .tag t v p=> .tup [sD "tag",.tup [sD t,v.d],kD p]
def Vls.ds:Vls->List Dt
 | .nil=>[]
 | .cons w v t=> .tup [sD w,v.d]::t.ds
end
inductive Ev where
 |nil
 |cons (b:Int) (v:Vl) (sc:Ev)
def Ev.d:Ev->Dt
 | .nil=> .flat .non
 | .cons b v sc=> .tup [kD b,v.d,sc.d]
def Vl.s:Vl->Str
 | .num _ _=>"num"
 | .rcd _ _=>"rec"
 | .tag _ _ _=>"tag"
def Vl.b:Vl->Dt
 | .num n _=>kD n
 | .rcd l _=> .tup l.ds
 | .tag t v _=> .tup [sD t,v.d]
def Vl.p:Vl->Int
 | .num _ p=>p
 | .rcd _ p=>p
 | .tag _ _ p=>p
theorem IV (v:Vl):v.d= .tup [sD v.s,v.b,kD v.p]:=by cases v<;>rw[Vl.d]<;>rfl
def fdL:Vls->List (Str×Vl)
 | .nil=>[]
 | .cons w v t=>(w,v)::fdL t
def fdO:List (Str×Vl)->Vls
 |[]=> .nil
 |p::t=> .cons p.1 p.2 (fdO t)
theorem FF:∀l,fdL (fdO l)=l
 |[]=>rfl
 |p::t=>congrArg (p::·) (FF t)
def fvD (p:Str×Vl):Dt:= .tup [sD p.1,p.2.d]
theorem FH:∀l:Vls,l.ds=(fdL l).map fvD
 | .nil=>by rw[Vls.ds];rfl
 | .cons w v t=>by rw[Vls.ds,FH t];rfl
inductive Stp where
 |beg (p:Int) (sc:Ev)
 |par (p:Int) (sc:Ev)
 |hand (p:Int)
def Stp.d:Stp->Dt
 | .beg p sc=> .tup [sD "begin",kD p,sc.d]
 | .par p sc=> .tup [sD "parts",kD p,sc.d]
 | .hand p=> .tup [sD "hand",kD p,.flat .non]
def meD (t:Int×Int×Int):Dt:= .tup [kD t.1,kD t.2.1,kD t.2.2]
def haD (t:Int×Int):Dt:= .tup [kD t.1,kD t.2]
structure Ms where
 bg:Nat
 en:Option Str
 me:List (Int×Int×Int)
 ha:List (Int×Int)
 de:List Vl
 st:List Stp
 rd:List Vl
def sO (p:Int) (v:Vl) (s:Ms):Ms:={s with ha:=(p,v.p)::s.ha,rd:=v::s.rd}
def EU (b:Int) (sc:Ev) (p:Int) (s:Ms):Ms:={s with st:= .beg b sc:: .hand p::s.st}
def CD (v:Vl) (p k:Int) (s:Ms):Ms:={s with me:=(v.p,p,k)::s.me}
def A9:Ev->Int->Option Vl
 | .nil,_=>none
 | .cons b v sc,p=>if b=p then some v else A9 sc p
def pL:Ro->List Int
 | .fn _ _=>[]
 | .lt _ a _=>[a]
 | .case k _=>[k]
 |ρ=>ρ.pl
def lkV:List (Str×Vl)->Str->Option Vl
 |[],_=>none
 |p::t,x=>if p.1=x then some p.2 else lkV t x
def lkI:List (Str×Str×Int)->Str->Option Int
 |[],_=>none
 |p::t,x=>if p.1=x then some p.2.2 else lkI t x
inductive Wm (hm:Option Hm) (p:Int) (sc:Ev) (s:Ms):Ro->List Vl->Ms->Prop
 |num {n:Int}:Wm hm p sc s (.num n) [] (sO p (.num n p) s)
 |nameD {x:Str} {h:Nat} {v:Vl} (e:hm=some ((("def":Str),(h:Int)):Hm)) (hv:s.de[h]?=some v):Wm hm p sc s (.name x) [] (sO p v s)
 |nameH {x:Str} {h:Hm} {v:Vl} (e:hm=some h) (hd:h.1≠"def") (hv:A9 sc h.2=some v):Wm hm p sc s (.name x) [] (sO p v s)
 |rcd {l:List (Str×Int)} {vs:List Vl} (hl:vs.length=l.length):Wm hm p sc s (.rcd l) vs (sO p (.rcd (fdO ((l.map Prod.fst).zip vs)) p) s)
 |tag {x:Str} {k:Int} {v:Vl}:Wm hm p sc s (.tag x k) [v] (sO p (.tag x v p) s)
 |get {k:Int} {w:Str} {l:Vls} {q:Int} {v:Vl} (hv:lkV (fdL l) w=some v) (hn:((fdL l).map Prod.fst).Nodup) (hl:(fdL l).length<=100):Wm hm p sc s (.get k w) [.rcd l q] (sO p v (CD (.rcd l q) p 0 s))
 |case {k:Int} {l:List (Str×Str×Int)} {t:Str} {v:Vl} {q b:Int} (hb:lkI l t=some b):Wm hm p sc s (.case k l) [.tag t v q] (EU b (.cons b v sc) p (CD (.tag t v q) p 0 s))
def tkR:Nat->List Vl->List Vl->Option (List Vl×List Vl)
 |0,r,l=>some (l,r)
 |n+ 1,v::r,l=>tkR n r (v::l)
 |_+ 1,[],_=>none
inductive Sp1 (ρs:List Ro) (ho:Nat->Option Hm) (tu:Nat) (s:Ms):Ms->Prop
 |beg {p:Nat} {sc:Ev} {ρ:Ro} {r:List Stp} (hs:s.st= .beg (p:Int) sc::r) (hk:ρs[p]?=some ρ) (hb:s.bg<tu):Sp1 ρs ho tu s {s with bg:=s.bg+ 1,st:=(pL ρ).map (fun k=>Stp.beg k sc)++ .par (p:Int) sc::r}
 |par {p:Nat} {sc:Ev} {ρ:Ro} {r:List Stp} {l rd:List Vl} {s':Ms} (hs:s.st= .par (p:Int) sc::r) (hk:ρs[p]?=some ρ) (ht:tkR (pL ρ).length s.rd []=some (l,rd)) (hw:Wm (ho p) (p:Int) sc {s with st:=r,rd:=rd} ρ l s'):Sp1 ρs ho tu s s'
 |hand {p:Nat} {v:Vl} {r:List Stp} {rd:List Vl} (hs:s.st= .hand (p:Int)::r) (hr:s.rd=v::rd):Sp1 ρs ho tu s (sO p v {s with st:=r,rd:=rd})
def fMc (p h:Zx) (tu bg:Int) (en:V) (me ha de st rd:Zx):List (Str×V):=[("program",.ref p),("homes",.ref h),("turns",.int tu),("begun",.int bg),("end",en),("meets",.ref me),("had",.ref ha),("defined",.ref de),("steps",.ref st),("ready",.ref rd)]
def enV:Option Str->V
 |none=> .non
 |some s=> .str s
structure Mad where
 m:Zx
 dx:Zx
 p:Zx
 h:Zx
 me:Zx
 ha:Zx
 de:Zx
 st:Zx
 rd:Zx
def Mad.ls (A:Mad):List Zx:=[A.me,A.ha,A.de,A.st,A.rd]
structure Mc (C:Zx) (H:Hp) (A:Mad) (tu:Nat) (s:Ms):Prop where
 o:H A.m=some (.ins C A.dx (fMc A.p A.h tu s.bg (enV s.en) A.me A.ha A.de A.st A.rd))
 me:∃xs,H A.me=some (.lst xs)/\Ims H xs (s.me.reverse.map meD)
 ha:∃xs,H A.ha=some (.lst xs)/\Ims H xs (s.ha.reverse.map haD)
 de:∃xs,H A.de=some (.lst xs)/\Ims H xs (s.de.map Vl.d)
 st:∃xs,H A.st=some (.lst xs)/\Ims H xs (s.st.reverse.map Stp.d)
 rd:∃xs,H A.rd=some (.lst xs)/\Ims H xs (s.rd.reverse.map Vl.d)
 nd:A.ls.Nodup
def FM (A:Mad) (H H':Hp):Prop:=∀a o,H a=some o->a≠A.m->a∉A.ls->H' a=some o
theorem FM.refl {A:Mad} {H:Hp}:FM A H H:=fun _ _ e _ _=>e
theorem FM.trans {A:Mad} {H H1 H2:Hp} (f:FM A H H1) (g:FM A H1 H2):FM A H H2:=fun a o e n m=>g a o (f a o e n m) n m
theorem FM.same {A:Mad} {H H':Hp} (S:gC H H'):FM A H H':=fun a o e _ _=>S a o e
section
variable {C:Zx} {H H':Hp} {A:Mad} {tu:Nat} {s:Ms}
theorem Mc.out (M:Mc C H A tu s) {a:Zx} {xs:List V} (e:H a=some (.tup xs)):a≠A.m/\a∉A.ls:=by
 obtain⟨o,⟨_,e1,_⟩,⟨_,e2,_⟩,⟨_,e3,_⟩,⟨_,e4,_⟩,⟨_,e5,_⟩,_⟩:=M;refine⟨fun z=>?_,fun z=>?_⟩;·rw[z,o]at e;cases e
 ·simp only[Mad.ls,ak,bI,or_false]at z;rcases z with rfl|rfl|rfl|rfl|rfl;·rw[e1]at e;cases e
  ·rw[e2]at e;cases e
  ·rw[e3]at e;cases e
  ·rw[e4]at e;cases e
  ·rw[e5]at e;cases e
theorem Mc.tk (M:Mc C H A tu s) (F:FM A H H'):TK H H':=fun a xs e=>F a _ e (M.out e).1 (M.out e).2
theorem Mc.same (M:Mc C H A tu s) (S:gC H H'):Mc C H' A tu s:=by obtain⟨o,⟨x1,e1,i1⟩,⟨x2,e2,i2⟩,⟨x3,e3,i3⟩,⟨x4,e4,i4⟩,⟨x5,e5,i5⟩,nd⟩:=M;have k:=gC.tk S;exact⟨S _ _ o,⟨x1,S _ _ e1,i1.mono k⟩,⟨x2,S _ _ e2,i2.mono k⟩,⟨x3,S _ _ e3,i3.mono k⟩,⟨x4,S _ _ e4,i4.mono k⟩,⟨x5,S _ _ e5,i5.mono k⟩,nd⟩
theorem Mc.upd (M:Mc C H A tu s) {a:Zx} {xs ys:List V} (ha:a∈A.ls) (e:H a=some (.lst xs)) {s':Ms} (hb:s'.bg=s.bg) (he:s'.en=s.en)
  (h1:if a=A.me then Ims H ys (s'.me.reverse.map meD)else s'.me=s.me) (h2:if a=A.ha then Ims H ys (s'.ha.reverse.map haD)else s'.ha=s.ha) (h3:if a=A.de then Ims H ys (s'.de.map Vl.d)else s'.de=s.de)
  (h4:if a=A.st then Ims H ys (s'.st.reverse.map Stp.d)else s'.st=s.st) (h5:if a=A.rd then Ims H ys (s'.rd.reverse.map Vl.d)else s'.rd=s.rd):Mc C (upd H a (.lst ys)) A tu s'/\FM A H (upd H a (.lst ys)):=by
 have k:TK H (L2.Internal.upd H a (.lst ys)):=(yf e).tk;have part:∀{b:Zx} {α:Type} {f:α->Dt} {l l':List α},(∃zs,H b=some (.lst zs)/\Ims H zs (l.map f))->(if a=b then Ims H ys (l'.map f)else l'=l)->∃zs,(L2.Internal.upd H a (.lst ys)) b=some (.lst zs)/\Ims (L2.Internal.upd H a (.lst ys)) zs (l'.map f):=fun{b α f l l'} ⟨zs,e0,i0⟩ h=>by
  by_cases z:a=b;·rw[gU z]at h;subst z;exact⟨ys,gb,h.mono k⟩
  ·rw[gN z]at h;rw[h];exact⟨zs,by rw[gx (Ne.symm z)];exact e0,i0.mono k⟩
 obtain⟨o,p1,p2,p3,p4,p5,nd⟩:=M;have rev:∀{b:Zx} {α:Type} {f:α->Dt} {l l':List α},(if a=b then Ims H ys (l'.reverse.map f)else l'=l)->if a=b then Ims H ys (l'.reverse.map f)else l'.reverse=l.reverse:=fun{b α f l l'} h=>by
  by_cases z:a=b;·rw[gU z]at h⊢;exact h
  ·rw[gN z]at h⊢;rw[h]
 refine⟨⟨?_,part p1 (rev h1),part p2 (rev h2),part p3 h3,part p4 (rev h4),part p5 (rev h5),nd⟩,fun b o' e' n m=>by rw[gx (fun z=>m (by rw[z];exact ha))];exact e'⟩;rw[gx (fun z=>by rw[<-z,o]at e;cases e),hb,he];exact o
end
def Bd (n:Nat) (s:Ms):Prop:=s.me.length<=n/\s.ha.length<=n/\s.de.length<=n/\s.st.length<=n/\s.rd.length<=n
theorem Bd.mono {n m:Nat} {s:Ms} (h:Bd n s) (k:n<=m):Bd m s:=⟨cQ h.1 k,cQ h.2.1 k,cQ h.2.2.1 k,cQ h.2.2.2.1 k,cQ h.2.2.2.2 k⟩
section
variable {C:Zx} {H H':Hp} {A:Mad} {tu:Nat} {s:Ms}
theorem Mc.nds (M:Mc C H A tu s):(A.me≠A.ha/\A.me≠A.de/\A.me≠A.st/\A.me≠A.rd)/\(A.ha≠A.de/\A.ha≠A.st/\A.ha≠A.rd)/\(A.de≠A.st/\A.de≠A.rd)/\A.st≠A.rd:=by have n:=M.nd;simp only[Mad.ls,aF,ak,bI,or_false,not_or]at n;exact⟨n.1,n.2.1,n.2.2.1,n.2.2.2.1⟩
theorem Mc.meP (M:Mc C H A tu s) {x:V} {t:Int×Int×Int} (ix:Im H x (meD t)):∃xs,H A.me=some (.lst xs)/\xs.length=s.me.length/\Mc C (L2.Internal.upd H A.me (.lst (xs++[x]))) A tu {s with me:=t::s.me}/\FM A H (L2.Internal.upd H A.me (.lst (xs++[x]))):=by obtain⟨⟨a,b,c,d⟩,_⟩:=M.nds;obtain⟨xs,e,i⟩:=M.me;refine⟨xs,e,by rw[i.length,aD,bN],M.upd (by simp[Mad.ls]) e rfl rfl (by rw[gU rfl,bc,bp];exact i.app (.cons ix .nil)) (by rw[gN a]) (by rw[gN b]) (by rw[gN c]) (by rw[gN d])⟩
theorem Mc.haP (M:Mc C H A tu s) {x:V} {t:Int×Int} (ix:Im H x (haD t)):∃xs,H A.ha=some (.lst xs)/\xs.length=s.ha.length/\Mc C (L2.Internal.upd H A.ha (.lst (xs++[x]))) A tu {s with ha:=t::s.ha}/\FM A H (L2.Internal.upd H A.ha (.lst (xs++[x]))):=by obtain⟨⟨a,_⟩,⟨b,c,d⟩,_⟩:=M.nds;obtain⟨xs,e,i⟩:=M.ha;refine⟨xs,e,by rw[i.length,aD,bN],M.upd (by simp[Mad.ls]) e rfl rfl (by rw[gN a.symm]) (by rw[gU rfl,bc,bp];exact i.app (.cons ix .nil)) (by rw[gN b]) (by rw[gN c]) (by rw[gN d])⟩
theorem Mc.deP (M:Mc C H A tu s) {x:V} {v:Vl} (ix:Im H x v.d):∃xs,H A.de=some (.lst xs)/\xs.length=s.de.length/\Mc C (L2.Internal.upd H A.de (.lst (xs++[x]))) A tu {s with de:=s.de++[v]}/\FM A H (L2.Internal.upd H A.de (.lst (xs++[x]))):=by obtain⟨⟨_,a,_⟩,⟨b,_⟩,⟨c,d⟩,_⟩:=M.nds;obtain⟨xs,e,i⟩:=M.de;refine⟨xs,e,by rw[i.length,aD],M.upd (by simp[Mad.ls]) e rfl rfl (by rw[gN a.symm]) (by rw[gN b.symm]) (by rw[gU rfl,bp];exact i.app (.cons ix .nil)) (by rw[gN c]) (by rw[gN d])⟩
theorem Mc.stP (M:Mc C H A tu s) {x:V} {t:Stp} (ix:Im H x t.d):∃xs,H A.st=some (.lst xs)/\xs.length=s.st.length/\Mc C (L2.Internal.upd H A.st (.lst (xs++[x]))) A tu {s with st:=t::s.st}/\FM A H (L2.Internal.upd H A.st (.lst (xs++[x]))):=by obtain⟨⟨_,_,a,_⟩,⟨_,b,_⟩,⟨c,_⟩,d⟩:=M.nds;obtain⟨xs,e,i⟩:=M.st;refine⟨xs,e,by rw[i.length,aD,bN],M.upd (by simp[Mad.ls]) e rfl rfl (by rw[gN a.symm]) (by rw[gN b.symm]) (by rw[gN c.symm]) (by rw[gU rfl,bc,bp];exact i.app (.cons ix .nil)) (by rw[gN d])⟩
theorem Mc.rdP (M:Mc C H A tu s) {x:V} {v:Vl} (ix:Im H x v.d):∃xs,H A.rd=some (.lst xs)/\xs.length=s.rd.length/\Mc C (L2.Internal.upd H A.rd (.lst (xs++[x]))) A tu {s with rd:=v::s.rd}/\FM A H (L2.Internal.upd H A.rd (.lst (xs++[x]))):=by obtain⟨⟨_,_,_,a⟩,⟨_,_,b⟩,⟨_,c⟩,d⟩:=M.nds;obtain⟨xs,e,i⟩:=M.rd;refine⟨xs,e,by rw[i.length,aD,bN],M.upd (by simp[Mad.ls]) e rfl rfl (by rw[gN a.symm]) (by rw[gN b.symm]) (by rw[gN c.symm]) (by rw[gN d.symm]) (by rw[gU rfl,bc,bp];exact i.app (.cons ix .nil))⟩
theorem ug {H:Hp} {α:Type} {f:α->Dt} {xs:List V} {l:List α} {a:α} (h:Ims H xs ((l++[a]).map f)):∃ys y,xs=ys++[y]/\Ims H ys (l.map f)/\Im H y (f a):=by
 have go:∀{ds:List Dt} {xs:List V} {d:Dt},Ims H xs (ds++[d])->∃ys v,xs=ys++[v]/\Ims H ys ds/\Im H v d:=fun{ds}=>by
  induction ds with
  |nil=>
   intro xs d h
   cases h with
   |cons h1 hs=>cases hs;exact⟨[],_,rfl,.nil,h1⟩
  |cons d0 ds ih=>
   intro xs d h
   cases h with
   |cons h1 hs=>obtain⟨ys,v,rfl,h2,h3⟩:=ih hs;exact⟨_::ys,v,rfl,.cons h1 h2,h3⟩
 rw[bp]at h;exact go h
theorem Mc.stO (M:Mc C H A tu s) {t:Stp} {r:List Stp} (hs:s.st=t::r):∃xs x,H A.st=some (.lst (xs++[x]))/\Im H x t.d/\Mc C (L2.Internal.upd H A.st (.lst xs)) A tu {s with st:=r}/\FM A H (L2.Internal.upd H A.st (.lst xs)):=by obtain⟨⟨_,_,a,_⟩,⟨_,b,_⟩,⟨c,_⟩,d⟩:=M.nds;obtain⟨xs,e,i⟩:=M.st;rw[hs,bc]at i;obtain⟨ys,y,rfl,h1,h2⟩:=ug i;refine⟨ys,y,e,h2,M.upd (by simp[Mad.ls]) e rfl rfl (by rw[gN a.symm]) (by rw[gN b.symm]) (by rw[gN c.symm]) (by rw[gU rfl];exact h1) (by rw[gN d])⟩
theorem Mc.rdO (M:Mc C H A tu s) {v:Vl} {r:List Vl} (hs:s.rd=v::r):∃xs x,H A.rd=some (.lst (xs++[x]))/\Im H x v.d/\Mc C (L2.Internal.upd H A.rd (.lst xs)) A tu {s with rd:=r}/\FM A H (L2.Internal.upd H A.rd (.lst xs)):=by obtain⟨⟨_,_,_,a⟩,⟨_,_,b⟩,⟨_,c⟩,d⟩:=M.nds;obtain⟨xs,e,i⟩:=M.rd;rw[hs,bc]at i;obtain⟨ys,y,rfl,h1,h2⟩:=ug i;refine⟨ys,y,e,h2,M.upd (by simp[Mad.ls]) e rfl rfl (by rw[gN a.symm]) (by rw[gN b.symm]) (by rw[gN c.symm]) (by rw[gN d.symm]) (by rw[gU rfl];exact h1)⟩
theorem Mc.setO (M:Mc C H A tu s) (bg:Nat) (en:Option Str):Mc C (L2.Internal.upd H A.m (.ins C A.dx (fMc A.p A.h tu bg (enV en) A.me A.ha A.de A.st A.rd))) A tu {s with bg:=bg,en:=en}/\FM A H (L2.Internal.upd H A.m (.ins C A.dx (fMc A.p A.h tu bg (enV en) A.me A.ha A.de A.st A.rd))):=by
 have F:FM A H (L2.Internal.upd H A.m (.ins C A.dx (fMc A.p A.h tu bg (enV en) A.me A.ha A.de A.st A.rd))):=fun a o e n _=>by rw[gx n];exact e
 have k:=M.tk F;obtain⟨o,⟨x1,e1,i1⟩,⟨x2,e2,i2⟩,⟨x3,e3,i3⟩,⟨x4,e4,i4⟩,⟨x5,e5,i5⟩,nd⟩:=M;have ne:∀{b:Zx} {zs:List V},H b=some (.lst zs)->b≠A.m:=fun e z=>by rw[z,o]at e;cases e
 exact⟨⟨gb,⟨x1,by rw[gx (ne e1)];exact e1,i1.mono k⟩,⟨x2,by rw[gx (ne e2)];exact e2,i2.mono k⟩,⟨x3,by rw[gx (ne e3)];exact e3,i3.mono k⟩,⟨x4,by rw[gx (ne e4)];exact e4,i4.mono k⟩,⟨x5,by rw[gx (ne e5)];exact e5,i5.mono k⟩,nd⟩,F⟩
end
section
variable {p h me ha de st rd:Zx} {tu bg:Int} {en:V}
theorem Ba:(fMc p h tu bg en me ha de st rd).lookup ("had":Str)=some (.ref ha):=by kernel_rfl
theorem vO:(fMc p h tu bg en me ha de st rd).lookup ("meets":Str)=some (.ref me):=by kernel_rfl
theorem oj:(fMc p h tu bg en me ha de st rd).lookup ("defined":Str)=some (.ref de):=by kernel_rfl
theorem kS:(fMc p h tu bg en me ha de st rd).lookup ("steps":Str)=some (.ref st):=by kernel_rfl
theorem oK:(fMc p h tu bg en me ha de st rd).lookup ("ready":Str)=some (.ref rd):=by kernel_rfl
theorem rG:(fMc p h tu bg en me ha de st rd).lookup ("end":Str)=some en:=by kernel_rfl
theorem rH:(fMc p h tu bg en me ha de st rd).lookup ("begun":Str)=some (.int bg):=by kernel_rfl
theorem Bb:(fMc p h tu bg en me ha de st rd).lookup ("turns":Str)=some (.int tu):=by kernel_rfl
end
theorem CF {p h me ha de st rd:Zx} {tu bg:Int} {en v:V}:mY "end" v (fMc p h tu bg en me ha de st rd)=fMc p h tu bg v me ha de st rd:=by kernel_rfl
theorem qi {H:Hp} {t:Zx} {xs:List V} {ds:List Dt} (h:H t=none) (i:Ims H xs ds):Im (L2.Internal.upd H t (.tup xs)) (.ref t) (.tup ds):= .tup gb (i.mono (gC.tk (gi h _)))
def Bc (C:Zx):Sp:=fun vs H Q _=>X7 fun(A:Mad) (tu:Nat) (s:Ms) (b pl:Int) (x:V) (sc:Ev)=>Y5 (vs=[.ref A.m,.int b,x,.int pl]) (Mc C H A tu s) (Im H x sc.d) (s.st.length<10000000) (∀H',Mc C H' A tu (EU b sc pl s)->FM A H H'->Q .non H')
theorem oM (T:Txt K mg):MO P w base mg 1 T.e55 (Bc T.c1.a):=by
 refine T.e55.F.rd oF fun cdv A0 outer s0 H vs Q E hr h=>?_;obtain⟨A,tu,s,b,pl,x,sc,rfl,M,ix,ls,q⟩:=h;refine⟨_,(f9 (gL (iS (jt fc fe fg gR (PE.mono (gS T.c1.cl T.n1steps (cv 0))) (fZ (PE.mono (ij (fZ gE (fZ (cv 3) (fZ lM gf))))) gf))))
  (gj (gL (iS (jt fc fe fg gR (PE.mono (gS T.c1.cl T.n1steps (cv 0))) (fZ (PE.mono (ij (fZ gE (fZ (cv 1) (fZ (cv 2) gf))))) gf)))))),?_⟩;have sl:=sizeLine_eq;obtain⟨xs,e,_⟩:=M.st;refine⟨_,⟨_,_,M.o,kS⟩,⟨_,e⟩,qq,fun t ht=>?_⟩;have S1:=gi ht (.tup [.str "hand",.int pl,.non]);have M1:=M.same S1;have i1:Im (L2.Internal.upd H t (.tup [.str "hand",.int pl,.non])) (.ref t) (Stp.hand pl).d:=qi ht (.cons (.flat rfl) (.cons (.flat rfl) (.cons (.flat rfl) .nil)));have ix1:=ix.mono (gC.tk S1);generalize L2.Internal.upd H t (.tup [.str "hand",.int pl,.non])=H1 at S1 M1 i1 ix1⊢;obtain⟨xs1,e1,l1,M2,F2⟩:=M1.stP i1;refine⟨xs1,e1,by lia,?_⟩;have ix2:=ix1.mono (M1.tk F2);have F02:=(FM.same (A:=A) S1).trans F2;dsimp only;generalize L2.Internal.upd H1 A.st (.lst (xs1++[.ref t]))=H2 at M2 F2 F02 ix2⊢;obtain⟨xs,e,_⟩:=M2.st;refine⟨_,⟨_,_,M2.o,kS⟩,⟨_,e⟩,qq,fun t2 ht2=>?_⟩;have S3:=gi ht2 (.tup [.str "begin",.int b,x]);have M3:=M2.same S3;have i3:Im (L2.Internal.upd H2 t2 (.tup [.str "begin",.int b,x])) (.ref t2) (Stp.beg b sc).d:=qi ht2 (.cons (.flat rfl) (.cons (.flat rfl) (.cons ix2 .nil)));obtain⟨xs3,e3,l3,M4,F4⟩:=M3.stP i3;refine⟨xs3,e3,?_,q _ M4 ((F02.trans (FM.same S3)).trans F4)⟩;rw[l3];show(Stp.hand pl::s.st).length<_;rw[aA];lia
def Be (C:Zx):Sp:=fun vs H Q _=>X6 fun(A:Mad) (tu:Nat) (s:Ms) (pl:Int) (x:V) (v:Vl)=>Y6 (vs=[.ref A.m,.int pl,x]) (Mc C H A tu s) (Im H x v.d) (s.ha.length<10000000) (s.rd.length<10000000) (∀H',Mc C H' A tu (sO pl v s)->FM A H H'->Q .non H')
theorem oN {H:Hp} {x:V} {v:Vl} (h:Im H x v.d):∃t y,x= .ref t/\H t=some (.tup [.str v.s,y,.int v.p])/\Im H y v.b:=by
 rw[IV]at h
 cases h with
 |tup e i=>
  cases i with
  |cons h1 i=>
   cases i with
   |cons h2 i=>
    cases i with
    |cons h3 i=>
     cases i
     cases h1 with
     |flat f1=>cases h3 with
      |flat f3=>exact⟨_,_,rfl,e,h2⟩
theorem iJ (T:Txt K mg):MO P w base mg 1 T.e54 (Be T.c1.a):=by
 refine T.e54.F.rd pJ fun cdv A0 outer s0 H vs Q E hr h=>?_;obtain⟨A,tu,s,pl,x,v,rfl,M,ix,lh,lr,q⟩:=h;refine⟨_,(f9 (gL (iS (jt fc fe fg gR (PE.mono (gS T.c1.cl T.n1had (cv 0))) (fZ (PE.mono (ij (fZ (cv 1) (fZ (gy gA (cv 2) gh) gf)))) gf))))
  (gj (gL (iS (jt fc fe fg gR (PE.mono (gS T.c1.cl T.n1ready (cv 0))) (fZ (PE.mono (cv 2)) gf)))))),?_⟩;have sl:=sizeLine_eq;obtain⟨xs,e,_⟩:=M.ha;obtain⟨t0,y,rfl,e0,iy⟩:=oN ix;refine⟨_,⟨_,_,M.o,Ba⟩,⟨_,e⟩,_,e0,gu (gq (j:=2) rfl) ⟨ow,fun t ht=>?_⟩⟩;have S1:=gi ht (.tup [.int pl,.int v.p]);have M1:=M.same S1;have i1:Im (L2.Internal.upd H t (.tup [.int pl,.int v.p])) (.ref t) (haD (pl,v.p)):=qi ht (.cons (.flat rfl) (.cons (.flat rfl) .nil));have ix1:=ix.mono (gC.tk S1);generalize L2.Internal.upd H t (.tup [.int pl,.int v.p])=H1 at S1 M1 i1 ix1⊢;obtain⟨xs1,e1,l1,M2,F2⟩:=M1.haP i1;refine⟨xs1,e1,by lia,?_⟩;have ix2:=ix1.mono (M1.tk F2);have F02:=(FM.same (A:=A) S1).trans F2;dsimp only;generalize L2.Internal.upd H1 A.ha (.lst (xs1++[.ref t]))=H2 at M2 F2 F02 ix2⊢;obtain⟨xs3,e3,l3,M4,F4⟩:=M2.rdP ix2;exact⟨_,⟨_,_,M2.o,oK⟩,⟨_,e3⟩,xs3,e3,by rw[l3];show s.rd.length<_;lia,q _ M4 (F02.trans F4)⟩
theorem kF {p h me ha de st rd:Zx} {tu bg:Int} {en:V} {n:Str} (hn:((["program","homes","turns","begun","end","meets","had","defined","steps","ready"]:Zd).all fun x=>!(n==x))=true):(fMc p h tu bg en me ha de st rd).lookup n=none:=by simp only[ba,List.all_nil,Bool.and_true,fz,Bool.not_eq_true']at hn;obtain⟨h1,h2,h3,h4,h5,h6,h7,h8,h9,h10⟩:=hn;simp only[fMc,bq,h1,h2,h3,h4,h5,h6,h7,h8,h9,h10,List.lookup_nil]
def GY (C:Zx):Sp:=fun vs H Q _=>X7 fun(A:Mad) (tu:Nat) (s:Ms) (x:V) (v:Vl) (pl k:Int)=>Y5 (vs=[.ref A.m,x,.int pl,.int k,.bl true]) (Mc C H A tu s) (Im H x v.d) (s.me.length<10000000) (∀H',Mc C H' A tu (CD v pl k s)->FM A H H'->Q (.bl true) H')
theorem mq (T:Txt K mg):MO P w base mg 1 T.e56 (GY T.c1.a):=by
 refine T.e56.F.rd qh fun cdv A0 outer s0 H vs Q E hr h=>?_;obtain⟨A,tu,s,x,v,pl,k,rfl,M,ix,lm,q⟩:=h;refine⟨_,(f9 (gL (iS (jt fc fe fg gR (PE.mono (gS T.c1.cl T.n1meets (cv 0))) (fZ (PE.mono (ij (fZ (gy gA (cv 1) gh) (fZ (cv 2) (fZ (cv 3) gf))))) gf))))
  (f9 (ie (kE (jM (cv 4)))
   (gj (jc T.c1.cl T.n1end (je (PE.mono (cv 0)) (PE.mono gE) rfl)))
   gK)
  (gj (gG (cv 4))))),?_⟩;have sl:=sizeLine_eq;obtain⟨xs,e,_⟩:=M.me;obtain⟨t0,y,rfl,e0,iy⟩:=oN ix;refine⟨_,⟨_,_,M.o,vO⟩,⟨_,e⟩,_,e0,gu (gq (j:=2) rfl) ⟨qq,fun t ht=>?_⟩⟩;have S1:=gi ht (.tup [.int v.p,.int pl,.int k]);have M1:=M.same S1;have i1:Im (L2.Internal.upd H t (.tup [.int v.p,.int pl,.int k])) (.ref t) (meD (v.p,pl,k)):=qi ht (.cons (.flat rfl) (.cons (.flat rfl) (.cons (.flat rfl) .nil)));generalize L2.Internal.upd H t (.tup [.int v.p,.int pl,.int k])=H1 at S1 M1 i1⊢;obtain⟨xs1,e1,l1,M2,F2⟩:=M1.meP i1;refine⟨xs1,e1,by lia,?_⟩;have F02:=(FM.same (A:=A) S1).trans F2;dsimp only;generalize L2.Internal.upd H1 A.me (.lst (xs1++[.ref t]))=H2 at M2 F2 F02⊢;exact⟨_,rfl,iL (q _ M2 F02)⟩
theorem EV {K:Zp} {a:Zx} {xs:List V} {g:TG} {tb:TS} {D:rO} {σ:St} {H:Hp} (Pv:Nat->St->Hp->Prop) (h0:Pv 0 σ H) (hl:∀i σ H,i<=xs.length->Pv i σ H->SqL K H a xs)
  (hs:∀(i:Nat) (x:V) (σ:St) (H:Hp),i<xs.length->xs[xs.length-1-i]?=some x->Pv i σ H->g x σ H fun σ2 H2=>tb {D with nx:=Pv (i+ 1),ct:=Pv (i+ 1),bk:=D.nx} σ2 H2) (hd:∀σ H,Pv xs.length σ H->D.nx σ H):
  ∃W:Nat->Nat->St->Hp->Prop,(∃m,W 0 m σ H)/\∀i m σ H,W i m σ H->
   ((Itv K a xs.length).stop i H/\D.nx σ H)\/((Itv K a xs.length).go i H/\∃N:St->Hp->Prop,(∀σ' H',N σ' H'->∃m',m'<m/\W (i+ 1) m' σ' H')/\∀x H',(Itv K a xs.length).yld i H x H'->g x σ H' fun σ2 H2=>tb {D with nx:=N,ct:=N,bk:=D.nx} σ2 H2):=by
 refine⟨fun i m σ H=>Y3 (m=xs.length-i) (i<=xs.length) (Pv i σ H),⟨xs.length,by simp,cX _,h0⟩,?_⟩;rintro i m σ H ⟨rfl,hi,p⟩;have q:=hl i σ H hi p;by_cases hlt:i<xs.length;·refine .inr ⟨⟨hlt,xs,q,rfl⟩,Pv (i+ 1),fun σ' H' p'=>⟨xs.length-(i+ 1),by lia,rfl,hlt,p'⟩,fun v H' y=>?_⟩;obtain⟨rfl,hx⟩:=y;exact hs i v σ H' hlt (hx xs q) p
 ·have e:i=xs.length:=by lia
  subst e;exact .inl ⟨rfl,hd σ H p⟩
theorem qz:∀{n:Nat} {r l l' r':List Vl},tkR n r l=some (l',r')->n<=r.length/\l'=(r.take n).reverse++l/\r'=r.drop n
 |0,r,l,l',r',h=>by cases h;exact⟨cX _,rfl,rfl⟩
 |n+ 1,v::r,l,l',r',h=>by obtain⟨a,b,c⟩:=qz (n:=n) h;exact⟨by simpa using a,by rw[b];simp,by rw[c];rfl⟩
 |n+ 1,[],l,l',r',h=>by cases h
def Mad.all (A:Mad):List Zx:=A.m::A.ls
theorem FM.get {A:Mad} {H H':Hp} (F:FM A H H') {a:Zx} {o:HO} (e:H a=some o) (n:a∉A.all):H' a=some o:=F a o e (fun z=>n (by rw[z];exact ah)) fun z=>n (aj _ z)
theorem FM.upd {A:Mad} {H H':Hp} {l:Zx} {o:HO} (F:FM A H H') (h:H l=none):FM A H (L2.Internal.upd H' l o):=fun a u e n m=>by rw[gx (gr e h)];exact F a u e n m
theorem Mc.new {C:Zx} {H:Hp} {A:Mad} {tu:Nat} {s:Ms} (M:Mc C H A tu s) {l:Zx} (h:H l=none):l∉A.all:=fun z=>by
 obtain⟨o,⟨_,e1,_⟩,⟨_,e2,_⟩,⟨_,e3,_⟩,⟨_,e4,_⟩,⟨_,e5,_⟩,_⟩:=M;simp only[Mad.all,Mad.ls,ak,bI,or_false]at z;rcases z with rfl|rfl|rfl|rfl|rfl|rfl;·rw[h]at o;cases o
 ·rw[h]at e1;cases e1
 ·rw[h]at e2;cases e2
 ·rw[h]at e3;cases e3
 ·rw[h]at e4;cases e4
 ·rw[h]at e5;cases e5
theorem Mc.oth {C:Zx} {H:Hp} {A:Mad} {tu:Nat} {s:Ms} (M:Mc C H A tu s) {l:Zx} {xs:List V} {o:HO} (h:l∉A.all) (e:H l=some (.lst xs)):Mc C (L2.Internal.upd H l o) A tu s:=by have k:TK H (L2.Internal.upd H l o):=(yf e).tk;have ne:∀{b:Zx},b∈A.all->(L2.Internal.upd H l o) b=H b:=fun m=>gx fun z=>h (by rw[<-z];exact m);obtain⟨o,⟨x1,e1,i1⟩,⟨x2,e2,i2⟩,⟨x3,e3,i3⟩,⟨x4,e4,i4⟩,⟨x5,e5,i5⟩,nd⟩:=M;exact⟨by rw[ne (by simp[Mad.all])];exact o,⟨x1,by rw[ne (by simp[Mad.all,Mad.ls])];exact e1,i1.mono k⟩,⟨x2,by rw[ne (by simp[Mad.all,Mad.ls])];exact e2,i2.mono k⟩,⟨x3,by rw[ne (by simp[Mad.all,Mad.ls])];exact e3,i3.mono k⟩,⟨x4,by rw[ne (by simp[Mad.all,Mad.ls])];exact e4,i4.mono k⟩,⟨x5,by rw[ne (by simp[Mad.all,Mad.ls])];exact e5,i5.mono k⟩,nd⟩
theorem EW {H:Hp}:∀{xs:List V} {ds:List Dt},Ims H xs ds->Ims H xs.reverse ds.reverse:=fun{xs ds} h=>by
 induction ds generalizing xs with
 |nil=>cases h;exact .nil
 |cons d ds i=>
  cases h with
  |cons a b=>rw[bc,bc];exact(i b).app (.cons a .nil)
abbrev hdT (i:Nat) (x:Str):TT:=cT (tOp (cEq false) (tOp EE (cV i) (tC (.int 0))) (tC (.str x)))
theorem yC {i:Nat} {x s:Str} {t:Zx} {ys:List V} {σ:St} {H:Hp} {k:Bool->Hp->Prop} {b:Bool} (hσ:σ[i]?=some (some (.ref t))) (et:H t=some (.tup (.str s::ys))) (e:decide (s=x)=b) (h:k b H):hdT i x σ H k:=by show onV σ[i]? _;rw[hσ];refine⟨_,et,gu (gq (j:=0) rfl) ?_⟩;dsimp only[tC,cEq,onB];rw[fB,e];exact h
theorem sP {i:Nat} {x s:Str} {t:Zx} {ys:List V} {σ:St} {H:Hp} {T u:TS} {D:rO} (hσ:σ[i]?=some (some (.ref t))) (et:H t=some (.tup (.str s::ys))) (e:decide (s=x)=false) (h:u D σ H):BZ (CQ (hdT i x) T qb) u D σ H:=yC hσ et e (iL h)
theorem Bg {i:Nat} {x s:Str} {t:Zx} {ys:List V} {σ:St} {H:Hp} {T u:TS} {D:rO} (hσ:σ[i]?=some (some (.ref t))) (et:H t=some (.tup (.str s::ys))) (e:decide (s=x)=true) (h:T {D with nx:=u D} σ H):BZ (CQ (hdT i x) T qb) u D σ H:=yC hσ et e (jJ h)
theorem GZ {a b:Int} {H:Hp} {F:Bool->Hp->Prop} (e:¬b<=a) (h:F false H):cI0 (fun i j=> .bl (decide (j<=i))) (.int a) (.int b) H fun x H'=>onB x fun k=>F k H':=by show F (decide (b<=a)) H;rw[ik e];exact h
theorem sQ {H:Hp} {t:Zx} {ρ:Ro} (h:Im H (.ref t) ρ.d):∃ys,H t=some (.tup (.str ρ.s::ys))/\Ims H ys ρ.r:=by
 unfold Ro.d at h
 cases h with
 |tup e i=>
  cases i with
  |cons a i=>cases a;exact⟨_,e,i⟩
theorem yD {H:Hp} {l:Zx} {ys:List V} {y:V} {Q:VK} (e:H l=some (.lst (ys++[y]))) (q:Q y (L2.Internal.upd H l (.lst ys))):JH (.ref l) [] H Q:=⟨l,_,y,rfl,rfl,e,by rw[aR,bf,Nat.add_sub_cancel,aM (cW _),di];rfl,by rw[List.dropLast_concat];exact q⟩
inductive XTr (C:Zx) (vs:List V) (H:Hp) (Q:VK):Prop
 |mk (A:Mad) (tu:Nat) (s:Ms) (n:Nat) (l rd:List Vl) (e:vs=[.ref A.m,.int (n:Int)]) (M:Mc C H A tu s) (hn:n<=1000) (ht:tkR n s.rd []=some (l,rd)) (q:∀H' a xs,H a=none->H' a=some (.lst xs)->Ims H' xs (l.map Vl.d)->Mc C H' A tu {s with rd:=rd}->FM A H H'->Q (.ref a) H')
def IW (C:Zx):Sp:=fun vs H Q _=>XTr C vs H Q
def TrI (C:Zx) (A:Mad) (tu:Nat) (s:Ms) (n:Nat) (H:Hp) (tl:Zx) (i:Nat) (σ:St) (H2:Hp):Prop:=X2 fun(o:Option V) (xs:List V)=>Y5 (σ=[some (.ref A.m),some (.int (n:Int)),some (.ref tl),o]) (H2 tl=some (.lst xs)) (Ims H2 xs ((s.rd.take i).map Vl.d)) (Mc C H2 A tu {s with rd:=s.rd.drop i}) (FM A H H2)
theorem mS (T:Txt K mg):MO P w base mg 1 T.e53 (IW T.c1.a):=by
 refine T.e53.F.rd jk fun cdv A0 outer s0 H vs Q E hr h=>?_;obtain⟨A,tu,s,n,l,rd,rfl,M,hn,ht,q⟩:=h;refine⟨_,(f9 (pS (i:=2) jk.nd (gT gf))
  (f9 (jb PassesOwn.never rfl (ku rfl T.z_range (fZ (cv 1) gf)) (pN (i:=3) jk.nd)
   (gj (gL (iS (jt fc fe fg gR (PE.mono (cv 2)) (fZ (PE.mono (xZ fc fh fj ya (gS T.c1.cl T.n1ready (cv 0)))) gf))))))
  (gj (gG (zw rfl rfl T.z_list rfl T.z_reversed (fZ (cv 2) gf)))))),?_⟩;have sl:=sizeLine_eq;obtain⟨t1,t2,t3⟩:=qz ht;refine⟨pP,fun tl htl=>?_⟩;have S1:=gi htl (.lst []);have M1:=M.same S1;have nt:=M.new htl;have e1:(L2.Internal.upd H tl (.lst [])) tl=some (.lst []):=gb;dsimp only[gY];refine⟨_,rfl,by lia,by lia,mw (TrI T.c1.a A tu s n H tl) ⟨none,[],rfl,e1,.nil,M1,FM.same S1⟩ ?_ ?_⟩
 ·rintro i σ H2 hi ⟨o,xs,rfl,e2,i2,M2,F2⟩;rw[fH]at hi;obtain⟨v,hv⟩:∃v,s.rd[i]?=some v:=⟨_,bF (by lia)⟩;have hdr:s.rd.drop i=v::s.rd.drop (i+ 1):=by obtain⟨z1,z2⟩:=au.mp hv;rw[bT z1,z2]
  obtain⟨ys,y,er,iy,M3,F3⟩:=M2.rdO hdr;have e3:(L2.Internal.upd H2 A.rd (.lst ys)) tl=some (.lst xs):=F3.get e2 nt;have i3:=i2.mono (M2.tk F3);have iy3:=iy.mono (M2.tk F3);have F03:=F2.trans F3;refine⟨⟨_,e2⟩,_,⟨_,_,M2.o,oK⟩,.inl ⟨rfl,_,SqL.of er⟩,yD er ⟨xs,e3,?_,?_⟩⟩;·rw[i2.length,aD,aK];lia
  dsimp only;generalize L2.Internal.upd H2 A.rd (.lst ys)=H3 at e3 i3 iy3 F03 M3⊢;refine⟨_,_,rfl,gb,?_,M3.oth nt e3,F03.upd htl⟩;rw[cf,hv,bp];exact(i3.app (.cons iy3 .nil)).mono (yf e3).tk
 ·rintro σ H2 ⟨o,xs,rfl,e2,i2,M2,F2⟩;rw[fH]at i2 M2;refine⟨tl,xs,rfl,SqL.of e2,fun a ha=>?_⟩;have S3:=gi ha (.lst xs.reverse);refine q _ a _ ?_ gb ?_ (by rw[t3];exact M2.same S3) (F2.trans (FM.same S3))
  ·cases hh:H a with
   |none=>rfl
   |some o=>
    by_cases z:a∈A.all;·exact absurd z (M2.new ha)
    ·rw[F2.get hh z]at ha;cases ha
  ·rw[t2,aE,List.map_reverse];exact(EW i2).mono (gC.tk S3)
inductive XFp (ρ:Ro) (vs:List V) (H:Hp) (Q:VK):Prop
 |mk (t:Zx) (e:vs=[.ref t]) (it:Im H (.ref t) ρ.d) (q:∀l H',gC H H'->H l=none->H' l=some (.lst ((pL ρ).map V.int))->Q (.ref l) H')
def IX:Sp:=fun vs H Q _=>∃ρ:Ro,ρ.ok/\XFp ρ vs H Q
theorem nH (T:Txt K mg):FO P w base 7 T.d4 IX:=by
 refine T.d4.F.rd rR fun cdv A0 outer s0 H vs Q E hr h=>?_;obtain⟨ρ,ro,t,rfl,it,q⟩:=h;refine⟨_,(f9 (ie (gH jZ (gy gA (cv 0) gh) gE)
   (gj (gG (gT gf)))
   gK)
  (f9 (ie (gH jZ (gy gA (cv 0) gh) gE)
   (gj (gG (gT (fZ (gy gA (cv 0) gh) gf))))
   gK)
  (f9 (ie (gH jZ (gy gA (cv 0) gh) gE)
   (gj (gG (gT (fZ (gy gA (cv 0) gh) gf))))
   gK)
  (gj (gG (pF T.d2 (p7 T) hr.m (fZ (cv 0) gf))))))),?_⟩;obtain⟨ys,et,iy⟩:=sQ it;obtain⟨_,hC,hF,hL⟩:=ρ.hd ro
 cases ρ with
 |fn w k=>exact Bg rfl et hF ⟨pP,fun l hl=>q l _ (gi hl _) hl gb⟩
 |lt w a b=>
  cases iy with
  |cons h1 iy=>
   cases iy with
   |cons h2 iy=>cases h2;exact sP rfl et hF (Bg rfl et hL ⟨_,et,gu (gq (j:=2) rfl) ⟨wo,fun l hl=>q l _ (gi hl _) hl gb⟩⟩)
 |case a b=>
  cases iy with
  |cons h1 iy=>cases h1;exact sP rfl et hF (sP rfl et hL (Bg rfl et hC ⟨_,et,gu (gq (j:=1) rfl) ⟨wo,fun l hl=>q l _ (gi hl _) hl gb⟩⟩))
 |_=>exact sP rfl et hF (sP rfl et hL (sP rfl et hC ⟨t,_,rfl,it,ro,q⟩))
structure Ctx (CP:Zx) (H:Hp) (A:Mad) (names:Zd) (roots:List Nat) (ρs:List Ro) (ho:Nat->Option Hm):Prop where
 p:∃n r w dx xs,PrA CP H A.p n r w dx xs names roots ρs/\A.p∉A.all/\n∉A.all/\r∉A.all/\w∉A.all
 h:∃hs,H A.h=some (.lst hs)/\A.h∉A.all/\∀(k:Nat) (ρ:Ro),ρs[k]?=some ρ->∃y,hs[k]?=some y/\Im H y (hoD (ho k))
 ok:∀ρ∈ρs,ρ.ok
theorem Ctx.fm {C CP:Zx} {H H':Hp} {A:Mad} {tu:Nat} {s:Ms} {names:Zd} {roots:List Nat} {ρs:List Ro} {ho:Nat->Option Hm} (c:Ctx CP H A names roots ρs ho) (M:Mc C H A tu s) (F:FM A H H'):Ctx CP H' A names roots ρs ho:=by have k:=M.tk F;obtain⟨⟨n,r,w,dx,xs,pr,n1,n2,n3,n4⟩,⟨hs,e,n5,hh⟩,ok⟩:=c;exact⟨⟨n,r,w,dx,xs,⟨F.get pr.o n1,F.get pr.n n2,F.get pr.r n3,F.get pr.w n4,pr.i.mono k⟩,n1,n2,n3,n4⟩,⟨hs,F.get e n5,n5,fun j ρ hj=>let⟨y,a,b⟩:=hh j ρ hj;⟨y,a,b.mono k⟩⟩,ok⟩
theorem om {p h me ha de st rd:Zx} {tu bg:Int} {en:V}:(fMc p h tu bg en me ha de st rd).lookup ("program":Str)=some (.ref p):=by kernel_rfl
theorem vP {p h me ha de st rd:Zx} {tu bg:Int} {en:V}:(fMc p h tu bg en me ha de st rd).lookup ("homes":Str)=some (.ref h):=by kernel_rfl
theorem EX {p h me ha de st rd:Zx} {tu bg v:Int} {en:V}:mY "begun" (.int v) (fMc p h tu bg en me ha de st rd)=fMc p h tu v en me ha de st rd:=by kernel_rfl
theorem wZ {ρ:Ro} (h:ρ.ok):(pL ρ).length<=101:=by
 cases ρ with
 |rcd l=>have:l.length<=100:=h.1;show(l.map _).length<=_;rw[aD];lia
 |row l=>have:l.length<=100:=h;show l.length<=_;lia
 |op o l=>have:l.length<=100:=h.2;show l.length<=_;lia
 |_=>exact of_decide_eq_true rfl
theorem Bh {C:Zx} {H:Hp} {A:Mad} {tu:Nat} {s:Ms} {σ:St} {j i:Nat} {m:Str} {p:Int} {x:V} {sc:Ev} {t:Stp} {D:rO} (hσ:σ[0]?=some (some (.ref A.m))) (hp:σ[j]?=some (some (.int p))) (hx:σ[i]?=some (some x)) (M:Mc C H A tu s) (ix:Im H x sc.d) (ht:t.d= .tup [sD m,kD p,sc.d]) (ls:s.st.length<10000000) (k:∀H',Mc C H' A tu {s with st:=t::s.st}->FM A H H'->D.nx σ H'):
  FR (JM (FE C "steps" (cV 0)) (Ic (lN (tC (.str m)) (lN (cV j) (lN (cV i) zM))))) D σ H:=by
 have sl:=sizeLine_eq;show onV σ[0]? _;rw[hσ];obtain⟨xs,e,_⟩:=M.st;refine⟨_,⟨_,_,M.o,kS⟩,⟨_,e⟩,?_⟩;show onV σ[j]? _;rw[hp];show onV σ[i]? _;rw[hx];refine⟨qq,fun a ha=>?_⟩;have S1:=gi ha (.tup [.str m,.int p,x]);have M1:=M.same S1;have i1:Im (L2.Internal.upd H a (.tup [.str m,.int p,x])) (.ref a) t.d:=by rw[ht];exact qi ha (.cons (.flat rfl) (.cons (.flat rfl) (.cons ix .nil)))
 obtain⟨xs1,e1,l1,M2,F2⟩:=M1.stP i1;exact⟨xs1,e1,by lia,k _ M2 ((FM.same S1).trans F2)⟩
inductive XBe (C CP:Zx) (vs:List V) (H:Hp) (Q:VK):Prop
 |mk (A:Mad) (tu:Nat) (s:Ms) (p:Int) (sc:Ev) (x:V) (ρ:Ro) (names:Zd) (roots:List Nat) (ρs:List Ro) (ho:Nat->Option Hm) (e:vs=[.ref A.m,.int p,x]) (M:Mc C H A tu s) (c:Ctx CP H A names roots ρs ho) (ht:s.bg<tu) (hk:∃k:Nat,p=k/\ρs[k]?=some ρ) (ix:Im H x sc.d) (hb:Bd 9000000 s) (q:∀H',Mc C H' A tu {s with bg:=s.bg+ 1,st:=(pL ρ).map (fun k=>Stp.beg k sc)++ .par p sc::s.st}->FM A H H'->Q .non H')
def IY (C CP:Zx):Sp:=fun vs H Q _=>XBe C CP vs H Q
def BgI (C:Zx) (A:Mad) (tu:Nat) (s:Ms) (k:Nat) (sc:Ev) (x:V) (ρ:Ro) (H:Hp) (lp:Zx) (i:Nat) (σ:St) (H2:Hp):Prop:=∃(o:Option V),Y5 (σ=[some (.ref A.m),some (.int (k:Int)),some x,o]) (Mc C H2 A tu {s with bg:=s.bg+ 1,st:=((pL ρ).drop ((pL ρ).length-i)).map (fun k=> .beg k sc)++ .par (k:Int) sc::s.st}) (Im H2 x sc.d) (FM A H H2) (H2 lp=some (.lst ((pL ρ).map V.int)))
theorem qj (T:Txt K mg):MO P w base mg 8 T.e51 (IY T.c1.a T.c3.a):=by
 refine T.e51.F.rd mj fun cdv A0 outer s0 H vs Q E hr h=>?_;obtain⟨A,tu,s,p,sc,x,ρ,names,roots,ρs,ho,rfl,M,c,ht,hk,ix,hb,q⟩:=h;refine⟨_,(f9 (ie (gH GD (gS T.c1.cl T.n1begun (cv 0)) (gS T.c1.cl T.n1turns (cv 0)))
   (f9 (jc T.c1.cl T.n1end (je (PE.mono (cv 0)) (PE.mono gE) rfl))
   (gj zQ))
   gK)
  (f9 (uY (cv 0) gh CW)
  (f9 (gL (iS (jt fc fe fg gR (PE.mono (gS T.c1.cl T.n1steps (cv 0))) (fZ (PE.mono (ij (fZ gE (fZ (cv 1) (fZ (cv 2) gf))))) gf))))
  (gj (jb PassesOwn.never rfl (GG rfl T.z_reversed (fZ (pF T.d4 (nH T) hr.m (fZ (gy gJ (gS T.c3.cl T.n3rows (gS T.c1.cl T.n1program (cv 0))) (cv 1)) gf)) gf)) (pN (i:=3) mj.nd)
   (gj (gL (iS (jt fc fe fg gR (PE.mono (gS T.c1.cl T.n1steps (cv 0))) (fZ (PE.mono (ij (fZ gE (fZ (cv 3) (fZ (cv 2) gf))))) gf)))))))))),?_⟩;have sl:=sizeLine_eq;refine⟨_,⟨_,_,M.o,rH⟩,_,⟨_,_,M.o,Bb⟩,?_⟩;refine GZ (by lia) (iL ?_);obtain⟨k,rfl,hk1⟩:=hk;replace hk:=hk1;obtain⟨M1,F1⟩:=M.setO (s.bg+ 1) s.en;refine⟨A.m,_,_,_,_,rfl,M.o,T.c1.cl,T.n1begun,rH,?_⟩;refine⟨_,_,rfl,rfl,_,_,M.o,by show 10<1000;decide,?_⟩;rw[show((s.bg:Int)+ 1)=((s.bg+ 1:Nat):Int) by lia,EX];have ix1:=ix.mono (M.tk F1);have c1:=c.fm M F1;dsimp only;generalize L2.Internal.upd H A.m (.ins T.c1.a A.dx (fMc A.p A.h tu ((s.bg+ 1:Nat):Int) (enV s.en) A.me A.ha A.de A.st A.rd))=H1 at M1 F1 ix1 c1⊢;have lst:=hb.2.2.2.1;refine Bh (sc:=sc) (t:= .par (k:Int) sc) (m:="parts") rfl rfl rfl M1 ix1 rfl (by show s.st.length<_;lia) fun H2 M2 F2=>?_;have ix2:=ix1.mono (M1.tk F2);have F02:=F1.trans F2;have c2:=c1.fm M1 F2;obtain⟨n,r,w,dx,xs,pr,n1,n2,n3,n4⟩:=c2.p;obtain⟨tr,ys,hxt,etr,_,him⟩:=uf pr.i hk;have rok:=c.ok ρ (aQ hk);refine⟨_,⟨_,_,M2.o,om⟩,_,⟨_,_,pr.o,ue _ _ _⟩,_,pr.w,gu (gq hxt) ⟨ρ,rok,tr,rfl,him,fun lp H3 S3 hlp e3=>?_⟩⟩;have M3:=M2.same S3;have nl:=M2.new hlp;have fl:(pL ρ).length<=101:=wZ rok;refine⟨lp,_,rfl,SqL.of e3,EV (xs:=(pL ρ).map V.int) (BgI T.c1.a A tu s k sc x ρ H lp) ⟨none,rfl,?_,ix2.mono (gC.tk S3),F02.trans (FM.same S3),e3⟩ (fun i σ H4 _ ⟨_,_,_,_,_,e⟩=>SqL.of e) ?_ ?_⟩;·rw[Nat.sub_zero,b6];exact M3
 ·rintro i v σ H4 hi hx ⟨o,rfl,M4,ix4,F4,e4⟩;rw[aD]at hi hx;rw[aO]at hx;obtain⟨j,hj,rfl⟩:=dI.mp hx;refine Bh (sc:=sc) (t:= .beg j sc) (m:="begin") rfl rfl rfl M4 ix4 rfl ?_ fun H5 M5 F5=>⟨_,rfl,?_,ix4.mono (M4.tk F5),F4.trans F5,F5.get e4 nl⟩;·show(((pL ρ).drop _).map _++_::s.st).length<_;rw[aR,aD,aA,aZ];lia
  ·have e:(pL ρ).drop ((pL ρ).length-(i+ 1))=j::(pL ρ).drop ((pL ρ).length-i):=by obtain⟨z1,z2⟩:=au.mp hj;rw[show(pL ρ).length-(i+ 1)=(pL ρ).length-1-i by lia,bT z1,z2,show(pL ρ).length-1-i+ 1=(pL ρ).length-i by lia]
   rw[e];exact M5
 ·rintro σ H4 ⟨o,rfl,M4,ix4,F4,e4⟩;rw[aD,di,cj]at M4;exact q _ M4 F4
theorem Dp {j:Nat} {σ:St} {a b:Int} {H:Hp} {F:Bool->Hp->Prop} {c:Bool} (hj:σ[j]?=some (some (.int b))) (e:decide (a=b)=c) (h:F (!c) H):cV j σ H fun y H2=>cEq true (.int a) y H2 fun x H'=>onB x fun k=>F k H':=by show onV σ[j]? _;rw[hj];show F (xor true (decide (a=b))) H;rw[e,fC];exact h
def Ev.sz:Ev->Nat
 | .nil=>0
 | .cons _ _ sc=>sc.sz+ 1
inductive XHv (vs:List V) (H:Hp) (Q:VK):Prop
 |mk (sc:Ev) (p:Int) (v:Vl) (x:V) (e:vs=[x,.int p]) (ix:Im H x sc.d) (hv:A9 sc p=some v) (q:∀y,Im H y v.d->Q y H)
def IZ:Sp:=fun vs H Q _=>XHv vs H Q
theorem G1 {H:Hp} {x:V} {b:Int} {v:Vl} {sc:Ev} (h:Im H x (Ev.cons b v sc).d):∃t y z,x= .ref t/\H t=some (.tup [.int b,y,z])/\Im H y v.d/\Im H z sc.d:=by
 rw[Ev.d]at h
 cases h with
 |tup e i=>
  cases i with
  |cons h1 i=>
   cases i with
   |cons h2 i=>
    cases i with
    |cons h3 i=>cases i;cases h1;exact⟨_,_,_,rfl,e,h2,h3⟩
def HvI (x0:V) (p:Int) (v:Vl) (H:Hp) (m:Nat) (σ:St) (H2:Hp):Prop:=H2=H/\X2 fun(sc:Ev) (x:V)=>Y4 (m=sc.sz) (σ=[some x0,some (.int p),some x]) (Im H x sc.d) (A9 sc p=some v)
theorem uh (T:Txt K mg):FO P w base 1 T.d5 IZ:=by
 refine T.d5.F.rd l8 fun cdv A0 outer s0 H vs Q E hr h=>?_;obtain⟨sc,p,v,x,rfl,ix,hv,q⟩:=h;refine⟨_,(f9 (pS (i:=2) l8.nd (cv 0))
  (f9 (oy PassesOwn.never (gH qQ (gy gA (cv 2) gh) (cv 1))
   (gj (pS (i:=2) l8.nd (gy gA (cv 2) gh))))
  (gj (gG (gy gA (cv 2) gh))))),?_⟩;refine⟨HvI x p v H,⟨_,rfl,sc,x,rfl,rfl,ix,hv⟩,?_⟩;rintro m σ H2 ⟨rfl,sc,y,rfl,rfl,iy,hv⟩
 cases sc with
 |nil=>cases hv
 |cons b u sc=>
  obtain⟨t,y1,z,rfl,et,i1,i2⟩:=G1 iy;refine⟨_,et,gu (gq (j:=0) rfl) ?_⟩;unfold A9 at hv;by_cases e:b=p;·rw[gU e]at hv;cases hv;refine Dp rfl (hI e) ?_;exact iL ⟨_,et,gu (gq (j:=1) rfl) (q _ i1)⟩
  ·rw[gN e]at hv;refine Dp rfl (ik e) ?_;exact jJ ⟨fun σ' H'=>HvI x p v H2 sc.sz σ' H',fun σ' H' h=>⟨_,cY _,h⟩,⟨_,et,gu (gq (j:=2) rfl) ⟨rfl,sc,z,rfl,rfl,i2,hv⟩⟩⟩
inductive XW (C CP:Zx) (U:Ro->Prop) (vs:List V) (H:Hp) (Q:VK):Prop
 |mk (A:Mad) (tu:Nat) (s s':Ms) (k:Nat) (sc:Ev) (t ps:Zx) (x:V) (xs:List V) (l:List Vl) (ρ:Ro) (names:Zd) (roots:List Nat) (ρs:List Ro) (ho:Nat->Option Hm) (e:vs=[.ref A.m,.ref t,.int (k:Int),x,.ref ps]) (M:Mc C H A tu s) (c:Ctx CP H A names roots ρs ho) (hk:ρs[k]?=some ρ) (hu:U ρ) (it:Im H (.ref t) ρ.d) (ix:Im H x sc.d) (ep:H ps=some (.lst xs)) (np:ps∉A.all) (il:Ims H xs (l.map Vl.d)) (hb:Bd 9000000 s) (hw:Wm (ho k) k sc s ρ l s') (q:∀H',Mc C H' A tu s'->FM A H H'->Q .non H')
def pM (C CP:Zx) (U:Ro->Prop):Sp:=fun vs H Q _=>XW C CP U vs H Q
theorem Bi {C:Zx} {H:Hp} {A:Mad} {tu:Nat} {s:Ms} {k:Int} {a:Zx} {xs:List V} {ds:List Dt} {v:Vl} {Q:VK} (M:Mc C H A tu s) (hb:Bd 9500000 s) (ha:H a=none) (i:Ims H xs ds) (hv:v.d= .tup ds) (q:∀H',Mc C H' A tu (sO k v s)->FM A H H'->Q .non H'):Be C [.ref A.m,.int k,.ref a] (L2.Internal.upd H a (.tup xs)) Q E0:=
 have b1:=hb.2.1
 have b2:=hb.2.2.2.2
 ⟨A,tu,s,k,_,v,rfl,M.same (gi ha _),by rw[hv];exact qi ha i,by lia,by lia,fun H' M' F'=>q H' M' ((FM.same (gi ha _)).trans F')⟩
theorem ui {C:Zx} {H:Hp} {A:Mad} {tu:Nat} {s:Ms} {k:Int} {x:V} {v:Vl} {Q:VK} (M:Mc C H A tu s) (hb:Bd 9500000 s) (i:Im H x v.d) (q:∀H',Mc C H' A tu (sO k v s)->FM A H H'->Q .non H'):Be C [.ref A.m,.int k,x] H Q E0:=
 have b1:=hb.2.1
 have b2:=hb.2.2.2.2
 ⟨A,tu,s,k,_,v,rfl,M,i,by lia,by lia,q⟩
theorem Bd.le {n m:Nat} {s:Ms} (h:Bd n s) (k:autoParam (n<=m) L2.Internal.auD._auto_1):Bd m s:=h.mono k
theorem xg (T:Txt K mg):FO P w base 4 T.d6 (pM T.c1.a T.c3.a fun ρ=>∃n,ρ= .num n):=by
 refine T.d6.F.rd wM fun cdv A0 outer s0 H vs Q E hr h=>?_;obtain⟨A,tu,s,s',k,sc,t,ps,x,xs,l,ρ,names,roots,ρs,ho,rfl,M,c,hk,⟨n,rfl⟩,it,ix,ep,np,il,hb,hw,q⟩:=h;refine⟨_,(gj (gL (i6 (iA (PE.mono (cv 0)) T.c1.cl T.e54.me (iJ T) hr.m T.e54.b .nil iO (fZ (cv 2) (fZ (ij (fZ gE (fZ (gy gA (cv 1) gh) (fZ (cv 2) gf)))) gf)))))),?_⟩;obtain⟨ys,et,iy⟩:=sQ it
 cases iy with
 |cons h1 iy=>cases h1;cases hw;exact⟨⟨_,_,M.o,kF iq⟩,_,et,gu (gq (j:=1) rfl) ⟨qq,fun a ha=>Bi (v:= .num n k) M hb.le ha (.cons (.flat rfl) (.cons (.flat rfl) (.cons (.flat rfl) .nil))) (by rw[Vl.d];rfl) q⟩⟩
theorem yE {i:Nat} {x s:Str} {t:Zx} {ys:List V} {σ:St} {H:Hp} {T u:TS} {D:rO} (hσ:σ[i]?=some (some (.ref t))) (et:H t=some (.tup (.str s::ys))) (e:decide (s=x)=false) (h:u D σ H):CQ (hdT i x) T u D σ H:=yC hσ et e (iL h)
theorem Bj {i:Nat} {x s:Str} {t:Zx} {ys:List V} {σ:St} {H:Hp} {T u:TS} {D:rO} (hσ:σ[i]?=some (some (.ref t))) (et:H t=some (.tup (.str s::ys))) (e:decide (s=x)=true) (h:T D σ H):CQ (hdT i x) T u D σ H:=yC hσ et e (jJ h)
theorem I0 {H:Hp} {xs:List V} {a:Vl} (h:Ims H xs ([a].map Vl.d)):∃x,xs=[x]/\Im H x a.d:=by
 cases h with
 |cons h1 h=>cases h;exact⟨_,rfl,h1⟩
theorem kT {H:Hp} {x:V} {a b:Dt} (h:Im H x (.tup [a,b])):∃t y z,x= .ref t/\H t=some (.tup [y,z])/\Im H y a/\Im H z b:=by
 cases h with
 |tup e i=>
  cases i with
  |cons h1 i=>
   cases i with
   |cons h2 i=>cases i;exact⟨_,_,_,rfl,e,h1,h2⟩
theorem EY {C:Zx} {H:Hp} {A:Mad} {tu:Nat} {s:Ms} {k b:Int} {a:Zx} {xs:List V} {ds:List Dt} {sc:Ev} {Q:VK} (M:Mc C H A tu s) (hb:Bd 9500000 s) (ha:H a=none) (i:Ims H xs ds) (hv:sc.d= .tup ds) (q:∀H',Mc C H' A tu (EU b sc k s)->FM A H H'->Q .non H'):Bc C [.ref A.m,.int b,.ref a,.int k] (L2.Internal.upd H a (.tup xs)) Q E0:=
 have b1:=hb.2.2.2.1
 ⟨A,tu,s,b,k,_,sc,rfl,M.same (gi ha _),by rw[hv];exact qi ha i,by lia,fun H' M' F'=>q H' M' ((FM.same (gi ha _)).trans F')⟩
theorem Bd.come {v:Vl} {p k:Int} {s:Ms} {n:Nat} (h:Bd n s):Bd (n+ 1) (CD v p k s):=by obtain⟨a,b,c,d,e⟩:=h;exact⟨dv a,dw b,dw c,dw d,dw e⟩
theorem Dq {H:Hp} {x:V} {l:Vls} {p:Int} (h:Im H x (Vl.rcd l p).d):∃t u zs,x= .ref t/\H t=some (.tup [.str "rec",.ref u,.int p])/\H u=some (.tup zs)/\Ims H zs ((fdL l).map fvD):=by
 obtain⟨t,y,rfl,e,i⟩:=oN h;have i:Im H y (.tup l.ds):=i;rw[FH]at i
 cases i with
 |tup e2 i2=>exact⟨t,_,_,rfl,e,e2,i2⟩
theorem Dr {H:Hp} {x:V} {w:Str} {v:Vl} {p:Int} (h:Im H x (Vl.tag w v p).d):∃t u z,x= .ref t/\H t=some (.tup [.str "tag",.ref u,.int p])/\H u=some (.tup [.str w,z])/\Im H z v.d:=by obtain⟨t,y,rfl,e,i⟩:=oN h;obtain⟨u,y1,z,rfl,eu,i1,i2⟩:=kT (show Im H y (.tup [sD w,v.d])from i);cases i1;exact⟨t,u,z,rfl,e,eu,i2⟩
theorem Ds {H:Hp}:∀{zs:List V} {l:List (Str×Vl)},Ims H zs (l.map fvD)->∃m:List (Str×V),Prs H zs m/\m.map Prod.fst=l.map Prod.fst/\∀w v,lkV l w=some v->∃y,jB (m.map kf) (Sum.inr w)=some y/\Im H y v.d
 |[],[],_=>⟨[],.nil,rfl,fun w v e=>nomatch e⟩
 |z::zs,p::l,h=>by
  cases h with
  |cons h1 h2=>
   obtain⟨m,pm,em,g⟩:=Ds h2;obtain⟨t,y1,y,rfl,et,i1,i2⟩:=kT (show Im H z (.tup [sD p.1,p.2.d])from h1);cases i1;refine⟨(p.1,y)::m,.cons et pm,by rw[aC,aC,em],fun w v e=>?_⟩;rw[lkV]at e;by_cases c:p.1=w;·rw[gU c]at e;cases e;exact⟨y,by rw[aC,iX (show(kf (p.1,y)).1=Sum.inr w from congrArg Sum.inr c)];rfl,i2⟩
   ·rw[gN c]at e;obtain⟨y',e',i'⟩:=g w v e;exact⟨y',by rw[aC,iY (fun z=>c (Sum.inr.inj z)),e'],i'⟩
theorem Du {m:List (Str×V)} (h:(m.map Prod.fst).Nodup) (w:Str):jB (jh [] (m.map kf)) (Sum.inr w)=jB (m.map kf) (Sum.inr w):=by
 have nd:((m.map kf).map (·.1)).Nodup:=by
  rw[bG];have e:bH ((fun(x:Key×V)=>x.1)∘kf) m=(m.map Prod.fst).map (Sum.inr:Str->Key):=by rw[bG];rfl
  rw[e];exact List.Pairwise.map _ (fun a b h z=>h (Sum.inr.inj z)) h
 rw[oh _ _ _ nd];cases jB (m.map kf) (Sum.inr w)<;>rfl
def amP (p:Str×Str×Int):Str×V:=(p.1,.int p.2.2)
theorem Dv:∀(l:List (Str×Str×Int)) (t:Str),jB ((l.map amP).map kf) (Sum.inr t)=(lkI l t).map V.int
 |[],t=>rfl
 |p::l,t=>by
  rw[aC,aC,lkI];by_cases e:p.1=t;·rw[gU e,iX (show(kf (amP p)).1=Sum.inr t from congrArg Sum.inr e)];rfl
  ·rw[gN e,iY (fun z=>e (Sum.inr.inj z)),Dv l t]
theorem yF {H H':Hp} (k:TK H H'):∀{l:List V} {m:List (Str×V)},Prs H l m->Prs H' l m:=fun h=>by
 induction h with
 |nil=>exact .nil
 |cons h t i=>exact .cons (k _ _ h) i
theorem CG {H:Hp} {a:Zx} {p:Str×V} (e:H a=some (.tup [.str p.1,p.2])):∀{l:List V} {m:List (Str×V)},Prs H l m->Prs H (l++[.ref a]) (m++[p]):=fun h=>by
 induction h with
 |nil=>exact .cons e .nil
 |cons h t i=>exact .cons h i
theorem EZ {K:Zp} {a:Zx} {te:TE} {Q:VK} {τ:St} {H1:Hp} {D:Zx} {xs:List V} {α:Type} {f:α->Dt} {g:α->Str×V} {l:List α} (e:H1 a=some (.tup xs)) (I:Ims H1 xs (l.map f)) (hn:l.length<=100) (hD:H1 D=none) (hτ:τ.set 0 none=τ)
  (ht:∀(x:α) (v:V) H (R:VK),Im H v (f x)->(∀p,H p=none->R (.ref p) (upd H p (.tup [.str (g x).1,(g x).2])))->te (τ.set 0 (some v)) H R)
  (hq:∀H' zs,gC H1 H'->H' D=some (.lst zs)->Prs H' zs (l.map g)->Q (.ref D) H'):LcP (Itt K a) 0 oT te Q τ H1 D:=by
 have sl:=sizeLine_eq;have lx:=I.length;rw[aD]at lx;refine sF l.length (by lia) (fun ys H=>Prs H ys ((l.take ys.length).map g)) (fun xs H H' h k=>yF k h) hD hτ (fun k H S h=>AA e S (by lia)) (fun H S=>by rw[<-lx];exact AB e S) .nil ?_ ?_;·intro k H v H3 ys Z S hk y hys hl hz;obtain⟨rfl,hv⟩:=y;have hv:=hv _ (SqT.of (S _ _ e));obtain⟨d,hd,him⟩:=jf I hv;rw[aO]at hd;obtain⟨x,hx⟩:∃x,l[k]?=some x:=⟨_,bF hk⟩;rw[hx]at hd;cases hd;refine ht x v H3 Z (him.mono (gC.tk S)) fun p hp=>hz _ _ (gi hp _) ?_;rw[aR,hl,bf,cf,hx,bp,<-hl];exact CG gb (yF (gC.tk (gi hp _)) hys)
 ·intro H' ys S hys hl e';rw[hl,bz]at hys;exact hq H' ys S e' hys
theorem E1 {K:Zp} {b l D:Zx} {Q:VK} {H1:Hp} {fs xs:List V} {ks:List (Str×Int)} {vs:List Vl} {u0 v0:Option V} (eb:H1 b=some (.tup fs)) (ib:Ims H1 fs (ks.map fdD)) (el:H1 l=some (.lst xs)) (il:Ims H1 xs (vs.map Vl.d)) (hl:vs.length=ks.length) (hk:ks.length<=100) (hD:H1 D=none)
  (hq:∀H' zs,gC H1 H'->H' D=some (.lst zs)->Ims H' zs (((ks.map Prod.fst).zip vs).map fvD)->Q (.ref D) H'):LcG (Itzm K b l) (FU K 2 (sY (gY 0) (sY (gY 1) FT))) (Ic (lN (tOp EE (cV 0) (tC (.int 0))) (lN (cV 1) zM))) Q [u0,v0] H1 D:=by
 have sl:=sizeLine_eq;have l1:=ib.length;have l2:=il.length;rw[aD]at l1 l2;have lz:((ks.map Prod.fst).zip vs).length=ks.length:=by rw[b9,aD];lia
 refine⟨fun k m σ' H2=>Y5 (m=ks.length-k) (k<=ks.length) ((∃u v,σ'=[u,v])) (gC H1 H2) (∃zs,H2 D=some (.lst zs)/\Ims H2 zs ((((ks.map Prod.fst).zip vs).take k).map fvD)),⟨ks.length,rfl,cX _,⟨_,_,rfl⟩,gi hD _,[],gb,.nil⟩,?_⟩;rintro k m σ' H2 ⟨rfl,hk',⟨u,v,rfl⟩,S,zs,ez,iz⟩;by_cases hlt:k<ks.length
 ·obtain⟨f,hf⟩:∃f,fs[k]?=some f:=⟨_,bF (by lia)⟩;obtain⟨y,hy⟩:∃y,xs[k]?=some y:=⟨_,bF (by lia)⟩;refine .inr ⟨⟨_,_,_,_,SqT.of (S _ _ eb),SqL.of (S _ _ el),hf,hy⟩,?_⟩;rintro z H3 ⟨T,x,y',rfl,hT,rfl,hx,hy'⟩;have e1:=hx _ (SqT.of (S _ _ eb));have e2:=hy' _ (SqL.of (S _ _ el));rw[hf]at e1;rw[hy]at e2;cases e1;cases e2;obtain⟨d1,g1,j1⟩:=jf ib hf;obtain⟨d2,g2,j2⟩:=jf il hy;obtain⟨p,hp⟩:∃p,ks[k]?=some p:=⟨_,bF hlt⟩;obtain⟨v,hv⟩:∃v,vs[k]?=some v:=⟨_,bF (by lia)⟩;rw[aO,hp]at g1;rw[aO,hv]at g2;cases g1;cases g2;obtain⟨a,y1,y2,rfl,ea,i1,_⟩:=kT j1;cases i1;have S3:=gi hT (.tup [.ref a,y]);refine⟨T,_,rfl,SqT.of gb,rfl,_,_,rfl,_,_,rfl,rfl,?_⟩;refine⟨_,S3 _ _ (S _ _ ea),gu (gq (j:=0) rfl) ⟨ow,fun t ht=>?_⟩⟩;have S4:=gi ht (.tup [.str p.1,y]);have S34:=S3.trans S4;have e4:=S34 _ _ ez;have lzs:=iz.length;rw[aD,aK,lz]at lzs;have k4:TK _ (L2.Internal.upd (L2.Internal.upd (L2.Internal.upd H2 T (.tup [.ref a,y])) t (.tup [.str p.1,y])) D (.lst (zs++[.ref t]))):=(yf e4).tk;refine⟨zs,e4,by lia,ks.length-(k+ 1),by lia,rfl,hlt,⟨_,_,rfl⟩,?_,_,gb,?_⟩;·intro q u e;rw[gx (gr e hD)];exact S34 _ _ (S _ _ e)
  ·rw[cf,show((ks.map Prod.fst).zip vs)[k]?=some (p.1,v) by rw[cq,aO,hp];exact⟨rfl,hv⟩,bp];exact((iz.mono (gC.tk S34)).mono k4).app (.cons (.tup (k4 _ _ (gb (a:=t) (o:= .tup [.str p.1,y]))) (.cons (.flat rfl) (.cons (((j2.mono (gC.tk S)).mono (gC.tk S34)).mono k4) .nil))) .nil)
 ·have e1:k=ks.length:=by lia
  subst e1;refine .inl ⟨⟨_,_,SqT.of (S _ _ eb),SqL.of (S _ _ el),by lia⟩,hq H2 zs S ez ?_⟩;rw[cg (by lia)]at iz;exact iz
theorem xh (T:Txt K mg):FO P w base 4 T.d10 (pM T.c1.a T.c3.a fun ρ=>X2 fun n b=>ρ= .tag n b):=by
 refine T.d10.F.rd wN fun cdv A0 outer s0 H vs Q E hr h=>?_;obtain⟨A,tu,s,s',k,sc,t,ps,x,xs,l,ρ,names,roots,ρs,ho,rfl,M,c,hk,⟨n,b,rfl⟩,it,ix,ep,np,il,hb,hw,q⟩:=h;refine⟨_,(gj (gL (i6 (iA (PE.mono (cv 0)) T.c1.cl T.e54.me (iJ T) hr.m T.e54.b .nil iO (fZ (cv 2) (fZ (ij (fZ gE (fZ (ij (fZ (gy gA (cv 1) gh) (fZ (gy gJ (cv 4) gh) gf))) (fZ (cv 2) gf)))) gf)))))),?_⟩;obtain⟨ys,et,iy⟩:=sQ it;obtain⟨y,et⟩:∃y,H t=some (.tup [.str "tag",.str n,y]):=by
  cases iy with
  |cons h1 iy=>
   cases h1
   cases iy with
   |cons h2 iy=>cases iy;exact⟨_,et⟩
 cases hw with
 |@tag _ _ v=>obtain⟨y,rfl,iv⟩:=I0 il;refine⟨⟨_,_,M.o,kF iq⟩,_,et,gu (gq (j:=1) rfl) ⟨_,ep,gu (gq (j:=0) rfl) ⟨ow,fun a1 h1=>⟨qq,fun a ha=>?_⟩⟩⟩⟩;have S1:=gi h1 (.tup [.str n,y]);exact Bi (v:= .tag n v k) (M.same S1) hb.le ha (.cons (.flat rfl) (.cons (qi h1 (.cons (.flat rfl) (.cons iv .nil))) (.cons (.flat rfl) .nil))) (by rw[Vl.d];rfl) fun H' M' F'=>q H' M' ((FM.same S1).trans F')
theorem vQ (T:Txt K mg):FO P w base 4 T.d7 (pM T.c1.a T.c3.a fun ρ=>∃n,ρ= .name n):=by
 refine T.d7.F.rd pY fun cdv A0 outer s0 H vs Q E hr h=>?_;obtain⟨A,tu,s,s',k,sc,t,ps,x,xs,l,ρ,names,roots,ρs,ho,rfl,M,c,hk,⟨n,rfl⟩,it,ix,ep,np,il,hb,hw,q⟩:=h;refine⟨_,(f9 (pS (i:=5) pY.nd (gy gJ (gS T.c1.cl T.n1homes (cv 0)) (cv 2)))
  (gj (ie (gH jZ (gy gA (cv 5) gh) gE)
   (gj (gL (i6 (iA (PE.mono (cv 0)) T.c1.cl T.e54.me (iJ T) hr.m T.e54.b .nil iO (fZ (cv 2) (fZ (gy gJ (gS T.c1.cl T.n1defined (cv 0)) (gy gA (cv 5) gh)) gf))))))
   (gj (gL (i6 (iA (PE.mono (cv 0)) T.c1.cl T.e54.me (iJ T) hr.m T.e54.b .nil iO (fZ (cv 2) (fZ (pF T.d5 (uh T) hr.m (fZ (cv 3) (fZ (gy gA (cv 5) gh) gf))) gf))))))))),?_⟩;obtain⟨hs,eh,_,hh⟩:=c.h;obtain⟨y,ey,iy⟩:=hh k _ hk
 cases hw with
 |@nameD _ h v e hv=>rw[e]at iy;obtain⟨th,y1,y2,rfl,eth,i1,i2⟩:=kT (show Im H y (.tup [.flat (.str "def"),.flat (.int h)])from iy);cases i1;cases i2;refine⟨_,⟨_,_,M.o,vP⟩,_,eh,gu (gq ey) ?_⟩;dsimp only[gY];obtain⟨zs,ez,iz⟩:=M.de;have lz:=iz.length;rw[aD]at lz;have hjl:=(au.mp hv).1;obtain⟨d,hd',im⟩:=jf iz (bF (show h<zs.length by lia));rw[aO,hv]at hd';cases hd';refine Bj rfl eth (hI rfl) ?_;exact⟨⟨_,_,M.o,kF iq⟩,_,⟨_,_,M.o,oj⟩,_,eth,gu (gq (j:=1) rfl) ⟨_,ez,gu (gq (bF (show h<zs.length by lia))) (ui M hb.le im q)⟩⟩
 |@nameH _ h v e hd hv=>rw[e]at iy;obtain⟨th,y1,y2,rfl,eth,i1,i2⟩:=kT (show Im H y (.tup [.flat (.str h.1),.flat (.int h.2)])from iy);cases i1;cases i2;refine⟨_,⟨_,_,M.o,vP⟩,_,eh,gu (gq ey) ?_⟩;dsimp only[gY];refine yE rfl eth (ik hd) ?_;exact⟨⟨_,_,M.o,kF iq⟩,_,eth,gu (gq (j:=1) rfl) ⟨sc,h.2,v,x,rfl,ix,hv,fun y iy=>ui M hb.le iy q⟩⟩
theorem xk (T:Txt K mg):FO P w base 4 T.d8 (pM T.c1.a T.c3.a fun ρ=>∃ks,ρ= .rcd ks):=by
 refine T.d8.F.rd rh fun cdv A0 outer s0 H vs Q E hr h=>?_;obtain⟨A,tu,s,s',k,sc,t,ps,x,xs,l,ρ,names,roots,ρs,ho,rfl,M,c,hk,⟨ks,rfl⟩,it,ix,ep,np,il,hb,hw,q⟩:=h;refine⟨_,(f9 (AI (j:=5) (g:=FU K 2 (sY (gY 0) (sY (gY 1) FT))) rfl (IA (x:="field") (y:="value") rfl iq iq rfl (by decide) rfl) (EA rfl T.z_zip (fZ (gy gA (cv 1) gh) (fZ (cv 4) gf))) (pgP rfl iq rfl rfl) (fun _ _ _ _ _=>(ij (fZ (gy gA (cv 0) gh) (fZ (cv 1) gf)))) rh.nd rfl (.inl rfl))
  (gj (gL (i6 (iA (PE.mono (cv 0)) T.c1.cl T.e54.me (iJ T) hr.m T.e54.b .nil iO (fZ (cv 2) (fZ (ij (fZ gE (fZ (jA jN rfl T.z_tuple kn (fZ (cv 5) gf)) (fZ (cv 2) gf)))) gf))))))),?_⟩
 cases hw with
 |@rcd ks vs hl=>
  obtain⟨ys,et,iy⟩:=sQ it;have rok:ks.length<=100/\_:=c.ok _ (aQ hk);obtain⟨u,fs,et,eu,iu⟩:∃u fs,H t=some (.tup [.str "rec",.ref u])/\H u=some (.tup fs)/\Ims H fs (ks.map fdD):=by
   cases iy with
   |cons h1 iy=>
    cases iy
    cases h1 with
    |tup e2 i2=>exact⟨_,_,et,e2,i2⟩
  refine⟨_,et,gu (gq (j:=1) rfl) ⟨u,ps,rfl,⟨_,SqT.of eu⟩,⟨_,SqL.of ep⟩,fun D hD=>?_⟩⟩;refine E1 eu iu ep il hl rok.1 hD fun H2 zs S2 eD iz=>?_;dsimp only[gY];have M2:=M.same S2;refine⟨⟨_,_,M2.o,kF iq⟩,D,_,rfl,.inl ⟨SqL.of eD,fun a1 h1=>⟨qq,fun a ha=>?_⟩⟩⟩;have S1:=gi h1 (.tup zs);exact Bi (v:= .rcd (fdO ((ks.map Prod.fst).zip l)) k) (M2.same S1) hb.le ha (.cons (.flat rfl) (.cons (qi h1 iz) (.cons (.flat rfl) .nil))) (by rw[Vl.d,FH,FF];rfl) fun H' M' F'=>q H' M' ((FM.same (S2.trans S1)).trans F')
theorem xm (T:Txt K mg):FO P w base 4 T.d9 (pM T.c1.a T.c3.a fun ρ=>X2 fun k0 w0=>ρ= .get k0 w0):=by
 refine T.d9.F.rd rj fun cdv A0 outer s0 H vs Q E hr h=>?_;have hu:=rP hr;obtain⟨A,tu,s,s',k,sc,t,ps,x,xs,l,ρ,names,roots,ρs,ho,rfl,M,c,hk,⟨k0,w0,rfl⟩,it,ix,ep,np,il,hb,hw,q⟩:=h;refine⟨_,(f9 (pS (i:=5) rj.nd (qr (gH jZ (gy gA (gy gJ (cv 4) gh) gh) gE) (jA (zr rfl) rfl T.z_dict wI (fZ (gy gA (gy gJ (cv 4) gh) gh) gf)) m7))
  (gj (ie (jM (i6 (iA (PE.mono (cv 0)) T.c1.cl T.e56.me (mq T) hr.m T.e56.b .nil iO (fZ (gy gJ (cv 4) gh) (fZ (cv 2) (fZ gh (fZ (CO (Aa hu (gy gA (cv 1) gh) (cv 5)) rfl) gf)))))))
   (gj (gL (i6 (iA (PE.mono (cv 0)) T.c1.cl T.e54.me (iJ T) hr.m T.e54.b .nil iO (fZ (cv 2) (fZ (lQ hu (cv 5) (gy gA (cv 1) gh)) gf))))))
   gK))),?_⟩
 cases hw with
 |@get _ _ lr pr v hv hn hl=>
  obtain⟨y,rfl,iv⟩:=I0 il;obtain⟨ys,et,iy⟩:=sQ it;obtain⟨y1,et⟩:∃y1,H t=some (.tup [.str "get",y1,.str w0]):=by
   cases iy with
   |cons h1 iy=>
    cases iy with
    |cons h2 iy=>cases h2;cases iy;exact⟨_,et⟩
  obtain⟨t0,u,zs,rfl,e0,eu,iz⟩:=Dq iv;obtain⟨m,pm,em,gm⟩:=Ds iz;obtain⟨z,g0,iz⟩:=gm w0 v hv;have lm:m.length<=100:=by rw[<-aD (f:=Prod.fst),em,aD];exact hl
  rw[<-Du (by rw[em];exact hn)]at g0;refine⟨_,ep,gu (gq (j:=0) rfl) ⟨_,e0,gu (gq (j:=0) rfl) ?_⟩⟩;dsimp only[tC,cEq,onB];rw[hI rfl];refine jJ ⟨_,ep,gu (gq (j:=0) rfl) ⟨_,e0,gu (gq (j:=1) rfl) ⟨u,_,m,rfl,eu,pm,by lia,fun d hd=>?_⟩⟩⟩;have S2:=gi hd (.dK (jh [] (m.map kf)));have ed:(L2.Internal.upd H d (.dK (jh [] (m.map kf)))) d=some (.dK (jh [] (m.map kf))):=gb;dsimp only[gY];generalize L2.Internal.upd H d (.dK (jh [] (m.map kf)))=H2 at S2 ed⊢;have M2:=M.same S2;have g:=sC.k (k:=(Sum.inr w0:Key)) ed;rw[g0]at g;have b1:=hb.1;have nd:=M.new hd;have ep2:=S2 _ _ ep;refine⟨⟨_,_,M2.o,kF iq⟩,_,ep2,gu (gq (j:=0) rfl) ⟨_,S2 _ _ et,gu (gq (j:=2) rfl) ⟨d,_,rfl,g,A,tu,s,_,_,k,0,rfl,M2,iv.mono (gC.tk S2),by lia,fun H3 M3 F3=>⟨_,rfl,jJ ?_⟩⟩⟩⟩;have g3:=sC.k (k:=(Sum.inr w0:Key)) (F3.get ed nd);rw[g0]at g3;exact⟨⟨_,_,M3.o,kF iq⟩,_,M2.tk F3 _ _ (S2 _ _ et),gu (gq (j:=2) rfl) ⟨d,_,rfl,g3,ui M3 hb.come.le ((iz.mono (gC.tk S2)).mono (M2.tk F3)) fun H' M' F'=>q H' M' (((FM.same S2).trans F3).trans F')⟩⟩
theorem vR (T:Txt K mg):FO P w base 4 T.d11 (pM T.c1.a T.c3.a fun ρ=>X2 fun b ks=>ρ= .case b ks):=by
 refine T.d11.F.rd lj fun cdv A0 outer s0 H vs Q E hr h=>?_;have hu:=rP hr;obtain⟨A,tu,s,s',k,sc,t,ps,x,xs,l,ρ,names,roots,ρs,ho,rfl,M,c,hk,⟨b,ks,rfl⟩,it,ix,ep,np,il,hb,hw,q⟩:=h;refine⟨_,(f9 (pS (i:=5) lj.nd (jA (zz rfl) rfl T.z_dict wI (fZ (qf rfl (FA (x:="arm") rfl iq iq rfl rfl) (qF (gy gA (cv 1) gh)) (fun _ _ _ _ _=>lC) (fun _ _ _ _ _=>(ij (fZ (gy gA (cv 0) gh) (fZ (gy gA (cv 0) gh) gf))))) gf)))
  (f9 (pS (i:=6) lj.nd (gy gA (gy gJ (cv 4) gh) gh))
  (gj (ie (jM (i6 (iA (PE.mono (cv 0)) T.c1.cl T.e56.me (mq T) hr.m T.e56.b .nil iO (fZ (gy gJ (cv 4) gh) (fZ (cv 2) (fZ gh (fZ (si (my jZ (gy gA (gy gJ (cv 4) gh) gh) gE) (qE (CO (Aa hu (gy gA (cv 6) gh) (cv 5)) rfl))) gf)))))))
   (f9 (pS (i:=7) lj.nd (lQ hu (cv 5) (gy gA (cv 6) gh)))
   (gj (gL (i6 (iA (PE.mono (cv 0)) T.c1.cl T.e55.me (oM T) hr.m T.e55.b .nil iO (fZ (cv 7) (fZ (ij (fZ (cv 7) (fZ (gy gA (cv 6) gh) (fZ (cv 3) gf)))) (fZ (cv 2) gf))))))))
   gK)))),?_⟩;obtain⟨ys,et,iy⟩:=sQ it;have rok:(ks.length<=100/\(ks.map Prod.fst).Nodup):=c.ok _ (aQ hk);obtain⟨u,zs,et,eu,iz⟩:∃u zs,H t=some (.tup [.str "case",.int b,.ref u])/\H u=some (.tup zs)/\Ims H zs (ks.map amD):=by
  cases iy with
  |cons h1 iy=>
   cases h1
   cases iy with
   |cons h2 iy=>
    cases iy
    cases h2 with
    |tup e2 i2=>exact⟨_,_,et,e2,i2⟩
 refine⟨_,et,gu (gq (j:=2) rfl) ⟨u,rfl,⟨_,SqT.of eu⟩,fun D hD=>?_⟩⟩;refine EZ (g:=amP) eu iz rok.1 hD rfl (fun p v H2 R im hR=>?_) fun H1 ws S1 eD pD=>?_
 ·cases im with
  |tup e2 i2=>
   cases i2 with
   |cons h1 i2=>
    cases h1
    cases i2 with
    |cons h2 i2=>
     cases h2
     cases i2 with
     |cons h3 i2=>cases h3;exact⟨_,e2,gu (gq (j:=0) rfl) ⟨_,e2,gu (gq (j:=2) rfl) ⟨ow,hR⟩⟩⟩
 refine⟨D,ws,_,rfl,eD,pD,by rw[aD];lia,fun d hd=>?_⟩;have S2:=S1.trans (gi hd (.dK (jh [] ((ks.map amP).map kf))));have ed:(L2.Internal.upd H1 d (.dK (jh [] ((ks.map amP).map kf)))) d=some (.dK (jh [] ((ks.map amP).map kf))):=gb;dsimp only[gY];generalize L2.Internal.upd H1 d (.dK (jh [] ((ks.map amP).map kf)))=H2 at S2 ed⊢;have M2:=M.same S2
 cases hw with
 |@case _ _ tg v pv bd hbd=>
  obtain⟨y,rfl,iv⟩:=I0 il;have g0:jB (jh [] ((ks.map amP).map kf)) (Sum.inr tg)=some (.int bd):=by rw[Du (by rw[bG];exact rok.2),Dv,hbd];rfl
  have ep2:=S2 _ _ ep;have iv2:=iv.mono (gC.tk S2);obtain⟨t0,u0,z,rfl,e0,eu0,iz⟩:=Dr iv2;refine⟨_,ep2,gu (gq (j:=0) rfl) ⟨_,e0,gu (gq (j:=1) rfl) ?_⟩⟩;dsimp only[gY];refine⟨⟨_,_,M2.o,kF iq⟩,_,ep2,gu (gq (j:=0) rfl) ⟨_,ep2,gu (gq (j:=0) rfl) ⟨_,e0,gu (gq (j:=0) rfl) ?_⟩⟩⟩;have b1:=hb.1;have nd:=(M.same S1).new hd;have F2:FM A H H2:=FM.same S2;have g:=sC.k (k:=(Sum.inr tg:Key)) ed;rw[g0]at g;dsimp only[tC,cEq];refine⟨_,rfl,?_⟩;rw[fB,hI rfl];refine jJ ⟨_,eu0,gu (gq (j:=0) rfl) ⟨d,_,rfl,g,A,tu,s,_,.tag tg v pv,k,0,rfl,M2,iv2,by lia,fun H3 M3 F3=>⟨_,rfl,?_⟩⟩⟩;have k3:=M2.tk F3;have g3:=sC.k (k:=(Sum.inr tg:Key)) (F3.get ed nd);rw[g0]at g3;exact jJ ⟨_,k3 _ _ eu0,gu (gq (j:=0) rfl) ⟨d,_,rfl,g3,⟨_,_,M3.o,kF iq⟩,_,k3 _ _ eu0,gu (gq (j:=1) rfl) ⟨qq,fun a ha=>EY (sc:= .cons bd v sc) M3 hb.come.le ha (.cons (.flat rfl) (.cons (iz.mono k3) (.cons ((ix.mono (gC.tk S2)).mono k3) .nil))) (by rw[Ev.d];rfl) fun H' M' F'=>q H' M' ((F2.trans F3).trans F')⟩⟩⟩
inductive WkS (T:Txt K mg):Zx->Sp->Prop
 |num:WkS T T.d6.a (pM T.c1.a T.c3.a fun ρ=>∃n,ρ= .num n)
 |name:WkS T T.d7.a (pM T.c1.a T.c3.a fun ρ=>∃n,ρ= .name n)
 |tag:WkS T T.d10.a (pM T.c1.a T.c3.a fun ρ=>X2 fun n b=>ρ= .tag n b)
 |rcd:WkS T T.d8.a (pM T.c1.a T.c3.a fun ρ=>∃ks,ρ= .rcd ks)
 |case:WkS T T.d11.a (pM T.c1.a T.c3.a fun ρ=>X2 fun b ks=>ρ= .case b ks)
 |get:WkS T T.d9.a (pM T.c1.a T.c3.a fun ρ=>X2 fun k0 w0=>ρ= .get k0 w0)
theorem WkS.at {T:Txt K mg} {X:Cx} (e1:X.prog=P) (e2:X.w=w) (e3:X.K=K) (e4:X.mg=mg) (e5:X.base=base) {f:Zx} {sp:Sp} (h:WkS T f sp):JQ X CX0 4 f sp:=by
 subst e1 e2 e3 e4 e5
 cases h with
 |num=>exact⟨_,_,xg T,T.d6.k,T.d6.b⟩
 |name=>exact⟨_,_,vQ T,T.d7.k,T.d7.b⟩
 |tag=>exact⟨_,_,xh T,T.d10.k,T.d10.b⟩
 |rcd=>exact⟨_,_,xk T,T.d8.k,T.d8.b⟩
 |case=>exact⟨_,_,vR T,T.d11.k,T.d11.b⟩
 |get=>exact⟨_,_,xm T,T.d9.k,T.d9.b⟩
structure Wk (P:Zu) (w:Zv) (T:Txt K mg) where
 a:Zx
 m:mg "WORKERS"=some (.ref a)
 kvs:List (Key×V)
 kd:Ar P w K a kvs
 yes:∀{hm p sc s ρ l s'},Wm hm p sc s ρ l s'->∃f U,jB kvs (Sum.inr ρ.s)=some (.ref f)/\WkS T f (pM T.c1.a T.c3.a U)/\U ρ
inductive XWp (C CP:Zx) (vs:List V) (H:Hp) (Q:VK):Prop
 |mk (A:Mad) (tu:Nat) (s s':Ms) (k:Nat) (sc:Ev) (x:V) (ρ:Ro) (l rd:List Vl) (names:Zd) (roots:List Nat) (ρs:List Ro) (ho:Nat->Option Hm) (e:vs=[.ref A.m,.int (k:Int),x]) (M:Mc C H A tu s) (c:Ctx CP H A names roots ρs ho) (hk:ρs[k]?=some ρ) (ix:Im H x sc.d) (hb:Bd 9000000 s) (ht:tkR (pL ρ).length s.rd []=some (l,rd)) (hw:Wm (ho k) k sc {s with rd:=rd} ρ l s') (q:∀H',Mc C H' A tu s'->FM A H H'->Q .non H')
def Ja (C CP:Zx):Sp:=fun vs H Q _=>XWp C CP vs H Q
theorem mU (T:Txt K mg) (W:Wk P w T):MO P w base mg 8 T.e52 (Ja T.c1.a T.c3.a):=by
 refine T.e52.F.rd kz fun cdv A0 outer s0 H vs Q E hr h=>?_;obtain⟨A,tu,s,s',k,sc,x,ρ,l,rd,names,roots,ρs,ho,rfl,M,c,hk,ix,hb,ht,hw,q⟩:=h;refine⟨_,(f9 (pS (i:=3) kz.nd (gy gJ (gS T.c3.cl T.n3rows (gS T.c1.cl T.n1program (cv 0))) (cv 1)))
  (gj (gL (Cr (fun f sp (h:WkS T f sp)=>h.at rfl rfl rfl rfl rfl) hr.m iO (Au W.kd (Cg rfl W.m) (gy gA (cv 3) gh)) (fZ (cv 0) (fZ (cv 3) (fZ (cv 1) (fZ (cv 2) (fZ (i6 (iA (PE.mono (cv 0)) T.c1.cl T.e53.me (mS T) hr.m T.e53.b .nil iO (fZ (gM gQ rfl T.z_len ji (fZ (pF T.d4 (nH T) hr.m (fZ (cv 3) gf)) gf)) gf))) gf))))))))),?_⟩;obtain⟨n,r,w,dx,xs,pr,n1,n2,n3,n4⟩:=c.p;obtain⟨tr,ys,hxt,etr,_,him⟩:=uf pr.i hk;have rok:=c.ok ρ (aQ hk);obtain⟨f,U,hv,hS,hU⟩:=W.yes hw;refine⟨_,⟨_,_,M.o,om⟩,_,⟨_,_,pr.o,ue _ _ _⟩,_,pr.w,gu (gq hxt) ?_⟩;dsimp only[gY];refine⟨_,etr,gu (gq (j:=0) rfl) ⟨Sum.inr ρ.s,_,rfl,rfl,hv,f,_,rfl,hS,?_⟩⟩;refine⟨⟨_,_,M.o,kF iq⟩,ρ,rok,tr,rfl,him,fun lp H1 S1 hlp e1=>?_⟩;have M1:=M.same S1;have fl:(pL ρ).length<=101:=wZ rok;refine⟨lp,_,rfl,.inl (SqL.of e1),A,tu,s,(pL ρ).length,l,rd,?_,M1,by lia,ht,fun H2 ps zs h0 ep iz M2 F2=>?_⟩;·rw[aD];rfl
 have c2:=(c.fm M (FM.same S1)).fm M1 F2;have k2:TK H H2:=fun a xs e=>M1.tk F2 _ _ (gC.tk S1 _ _ e);have F02:=(FM.same (A:=A) S1).trans F2;obtain⟨t1,_,t3⟩:=qz ht;refine⟨A,tu,_,s',k,sc,tr,ps,x,zs,l,ρ,names,roots,ρs,ho,rfl,M2,c2,hk,hU,him.mono k2,ix.mono k2,ep,M1.new h0,iz,?_,hw,fun H' M' F'=>q H' M' (F02.trans F')⟩;obtain⟨b1,b2,b3,b4,b5⟩:=hb;exact⟨b1,b2,b3,b4,by show rd.length<=_;rw[t3,aZ];lia⟩
inductive sR (ρs:List Ro) (ho:Nat->Option Hm) (tu:Nat):Nat->Ms->Ms->Prop
 |stop {n:Nat} {s:Ms} (h:s.en≠none\/s.st=[]):sR ρs ho tu n s s
 |step {n:Nat} {s s' s2:Ms} (h0:s.en=none) (h:Sp1 ρs ho tu s s') (r:sR ρs ho tu n s' s2):sR ρs ho tu (n+ 1) s s2
theorem Jb {hm:Option Hm} {p:Int} {sc:Ev} {ρ:Ro} {l:List Vl} {s s':Ms} {n:Nat} (h:Wm hm p sc s ρ l s') (b:Bd n s):Bd (n+ 3) s':=by
 have fi:∀{v:Vl} {s:Ms} {n:Nat},Bd n s->Bd (n+ 1) (sO p v s):=fun⟨b1,b2,b3,b4,b5⟩=>⟨dw b1,dv b2,dw b3,dw b4,dv b5⟩
 cases h with
 |get _ _ _=>exact(fi b.come).mono (by lia)
 |case _=>obtain⟨b1,b2,b3,b4,b5⟩:=b.come;have le:∀{k:Nat},k<=n+ 1->k<=n+ 3:=fun h=>cQ h (by lia);exact⟨le b1,le b2,le b3,dv (dv b4),le b5⟩
 |num=>exact(fi b).mono (by lia)
 |nameD _ _=>exact(fi b).mono (by lia)
 |nameH _ _ _=>exact(fi b).mono (by lia)
 |rcd _=>exact(fi b).mono (by lia)
 |tag=>exact(fi b).mono (by lia)
theorem Bk {ρs:List Ro} {ho:Nat->Option Hm} {tu n:Nat} {s s':Ms} (ok:∀ρ∈ρs,ρ.ok) (h:Sp1 ρs ho tu s s') (b:Bd n s):Bd (n+ 200) s':=by
 obtain⟨b1,b2,b3,b4,b5⟩:=b
 cases h with
 |@beg p sc ρ r hs hk hb=>have fl:=wZ (ok ρ (aQ hk));rw[hs,aA]at b4;exact⟨by show s.me.length<=_;lia,by show s.ha.length<=_;lia,by show s.de.length<=_;lia,by show(bH _ _++_::r).length<=_;rw[aR,aD,aA];lia,by show s.rd.length<=_;lia⟩
 |@par p sc ρ r l rd _ hs hk ht hw=>obtain⟨_,_,t3⟩:=qz ht;rw[hs,aA]at b4;exact(Jb (n:=n) hw ⟨b1,b2,b3,by show r.length<=_;lia,by show rd.length<=_;rw[t3,aZ];lia⟩).mono (by lia)
 |@hand p v r rd hs hr=>rw[hs,aA]at b4;rw[hr,aA]at b5;exact⟨by show s.me.length<=_;lia,by show(_::s.ha).length<=_;rw[aA];lia,by show s.de.length<=_;lia,by show r.length<=_;lia,by show(v::rd).length<=_;rw[aA];lia⟩
theorem sR.bd {ρs:List Ro} {ho:Nat->Option Hm} {tu n:Nat} {s s':Ms} (ok:∀ρ∈ρs,ρ.ok) (r:sR ρs ho tu n s s'):∀{b:Nat},Bd b s->Bd (b+ 200*n) s':=by
 induction r with
 |stop h=>exact fun hb=>hb.mono (by lia)
 |step h0 h r ih=>exact fun hb=>(ih (Bk ok h hb)).mono (by lia)
theorem sR.le {ρs:List Ro} {ho:Nat->Option Hm} {tu n:Nat} {s s':Ms} (r:sR ρs ho tu n s s'):∀{m:Nat},n<=m->sR ρs ho tu m s s':=by
 induction r with
 |stop h=>exact fun _=> .stop h
 |@step n _ _ _ h0 h r ih=>
  intro m hm
  cases m with
  |zero=>exact absurd hm (Nat.not_succ_le_zero _)
  |succ m=>exact .step h0 h (ih (dy hm))
theorem Bl (e:Option Str):decide (enV e=V.non)=decide (e=none):=by
 cases e with
 |none=>rfl
 |some x=>rw[ik (fun z=>nomatch z),ik (fun z=>nomatch z)]
theorem G2 {H:Hp} {x:V} {t:Stp} (h:Im H x t.d):∃a y,x= .ref a/\match t with
  | .beg p sc=>H a=some (.tup [.str "begin",.int p,y])/\Im H y sc.d
  | .par p sc=>H a=some (.tup [.str "parts",.int p,y])/\Im H y sc.d
  | .hand p=>H a=some (.tup [.str "hand",.int p,y]):=by
 have go:∀{m:Str} {p:Int} {d:Dt},Im H x (.tup [sD m,kD p,d])->∃a y,x= .ref a/\H a=some (.tup [.str m,.int p,y])/\Im H y d:=fun h=>by
  cases h with
  |tup e i=>
   cases i with
   |cons h1 i=>
    cases h1
    cases i with
    |cons h2 i=>
     cases h2
     cases i with
     |cons h3 i=>cases i;exact⟨_,_,rfl,e,h3⟩
 cases t with
 |beg p sc=>obtain⟨a,y,e,h1,h2⟩:=go h;exact⟨a,y,e,h1,h2⟩
 |par p sc=>obtain⟨a,y,e,h1,h2⟩:=go h;exact⟨a,y,e,h1,h2⟩
 |hand p=>obtain⟨a,y,e,h1,h2⟩:=go h;exact⟨a,y,e,h1⟩
inductive XWs (C CP:Zx) (vs:List V) (H:Hp) (Q:VK):Prop
 |mk (A:Mad) (tu n b:Nat) (s s':Ms) (names:Zd) (roots:List Nat) (ρs:List Ro) (ho:Nat->Option Hm) (e:vs=[.ref A.m]) (M:Mc C H A tu s) (c:Ctx CP H A names roots ρs ho) (r:sR ρs ho tu n s s') (hb:Bd b s) (hn:b+ 200*n<=9000000) (q:∀H',Mc C H' A tu s'->FM A H H'->Q .non H')
def Jc (C CP:Zx):Sp:=fun vs H Q _=>XWs C CP vs H Q
def WsI (C CP:Zx) (A:Mad) (tu:Nat) (s':Ms) (ρs:List Ro) (ho:Nat->Option Hm) (H:Hp) (m:Nat) (σ:St) (H2:Hp):Prop:=X3 fun(o:Option V) (s1:Ms) (b:Nat)=>Y6 (σ=[some (.ref A.m),o]) (Mc C H2 A tu s1) (FM A H H2) (sR ρs ho tu m s1 s') (Bd b s1) (b+ 200*m<=9000000)
theorem mV (T:Txt K mg) (W:Wk P w T):MO P w base mg 9 T.e50 (Jc T.c1.a T.c3.a):=by
 have gE52:=mU (base:=base) T W;refine T.e50.F.rd ky fun cdv A0 outer s0 H vs Q E hr h=>?_;obtain⟨A,tu,n,b,s,s',names,roots,ρs,ho,rfl,M,c,r,hb,hn,q⟩:=h;refine⟨_,(gj (oy PassesOwn.never (PW.pt (xT (sh (CN (gS T.c1.cl T.n1end (cv 0)))) (sX (gH ED (gM gQ rfl T.z_len ji (fZ (gS T.c1.cl T.n1steps (cv 0)) gf)) gh))))
   (f9 (pS (i:=1) ky.nd (xZ fc fh fj ya (gS T.c1.cl T.n1steps (cv 0))))
   (gj (ie (gH jZ (gy gA (cv 1) gh) gE)
    (gj (gL (i6 (iA (PE.mono (cv 0)) T.c1.cl T.e51.me (qj T) hr.m T.e51.b .nil iO (fZ (gy gA (cv 1) gh) (fZ (gy gA (cv 1) gh) gf))))))
    (gj (ie (gH jZ (gy gA (cv 1) gh) gE)
     (gj (gL (i6 (iA (PE.mono (cv 0)) T.c1.cl T.e52.me gE52 hr.m T.e52.b .nil iO (fZ (gy gA (cv 1) gh) (fZ (gy gA (cv 1) gh) gf))))))
     (gj (gL (i6 (iA (PE.mono (cv 0)) T.c1.cl T.e54.me (iJ T) hr.m T.e54.b .nil iO (fZ (gy gA (cv 1) gh) (fZ (xZ fc fh fj ya (gS T.c1.cl T.n1ready (cv 0))) gf))))))))))))),?_⟩;refine⟨WsI T.c1.a T.c3.a A tu s' ρs ho H,⟨n,none,s,b,rfl,M,FM.refl,r,hb,hn⟩,?_⟩;rintro m σ H2 ⟨o,s1,b,rfl,M2,F2,r,hb,hn⟩;have c2:=c.fm M F2;refine⟨_,⟨_,_,M2.o,rG⟩,_,rfl,?_⟩;rw[Bl]
 cases r with
 |stop hs=>
  by_cases he:s'.en=none;·rw[hI he];have hs:=hs.resolve_left (fun z=>z he);obtain⟨xs,e,i⟩:=M2.st;rw[hs]at i;cases i;refine jJ ⟨_,⟨_,_,M2.o,kS⟩,_,_,rfl,.inl (SqL.of e),?_⟩;dsimp only[tC,cI0,onB];rw[ik (show ¬(0:Int)<(([]:List V).length:Int)from fun z=>absurd z (by decide))];exact iL (q _ M2 F2)
  ·rw[ik he];exact iL (iL (q _ M2 F2))
 |@step n _ s3 _ h0 h r=>
  rw[hI h0];refine jJ ⟨_,⟨_,_,M2.o,kS⟩,?_⟩;have hb3:=Bk c.ok h hb;have hbb:Bd 9000000 s1:=hb.mono (by lia);have hn3:b+ 200+ 200*n<=9000000:=by lia
  obtain⟨t,rs,hst⟩:∃t rs,s1.st=t::rs:=by cases h with
   |beg hs _ _=>exact⟨_,_,hs⟩
   |par hs _ _ _=>exact⟨_,_,hs⟩
   |hand hs _=>exact⟨_,_,hs⟩
  obtain⟨xs,y,e,iy,M3,F3⟩:=M2.stO hst;have done:∀(o:Option V) H',Mc T.c1.a H' A tu s3->FM A (L2.Internal.upd H2 A.st (.lst xs)) H'->WsI T.c1.a T.c3.a A tu s' ρs ho H n [some (.ref A.m),o] H':=fun o H' M' F'=>⟨o,s3,b+ 200,rfl,M',(F2.trans F3).trans F',r,hb3,hn3⟩;have iy3:=iy.mono (M2.tk F3);have c3:=c2.fm M2 F3;refine⟨_,_,rfl,.inl (SqL.of e),?_⟩;dsimp only[tC,cI0,onB];rw[hI (show(0:Int)<((xs++[y]).length:Int) by rw[aR,bf];lia)];refine jJ ⟨WsI T.c1.a T.c3.a A tu s' ρs ho H n,fun σ' H' h=>⟨n,cY n,h⟩,?_⟩;refine⟨_,⟨_,_,M2.o,kS⟩,.inl ⟨rfl,_,SqL.of e⟩,yD e ?_⟩;dsimp only[gY];generalize L2.Internal.upd H2 A.st (.lst xs)=H3 at M3 F3 iy3 c3 done⊢;obtain⟨a,z,rfl,hh⟩:=G2 iy3;have bd3:Bd 9000000 {s1 with st:=rs}:=by obtain⟨b1,b2,b3,b4,b5⟩:=hbb;rw[hst,aA]at b4;exact⟨b1,b2,b3,by show rs.length<=_;lia,b5⟩
  cases h with
  |@beg p sc ρ r hs hk hbt=>rw[hs]at hst;cases hst;refine Bj rfl hh.1 (hI rfl) ⟨⟨_,_,M3.o,kF iq⟩,_,hh.1,gu (gq (j:=1) rfl) ⟨_,hh.1,gu (gq (j:=2) rfl) ?_⟩⟩;exact⟨A,tu,_,p,sc,z,ρ,names,roots,ρs,ho,rfl,M3,c3,hbt,⟨p,rfl,hk⟩,hh.2,bd3,fun H' M' F'=>done _ H' M' F'⟩
  |@par p sc ρ r l rd _ hs hk ht hw=>rw[hs]at hst;cases hst;refine yE rfl hh.1 (by show decide (("parts":Str)="begin")=false;decide+kernel) (Bj rfl hh.1 (hI rfl) ⟨⟨_,_,M3.o,kF iq⟩,_,hh.1,gu (gq (j:=1) rfl) ⟨_,hh.1,gu (gq (j:=2) rfl) ?_⟩⟩);exact⟨A,tu,_,s3,p,sc,z,ρ,l,rd,names,roots,ρs,ho,rfl,M3,c3,hk,hh.2,bd3,ht,hw,fun H' M' F'=>done _ H' M' F'⟩
  |@hand p v r rd hs hr'=>rw[hs]at hst;cases hst;obtain⟨xs',y',e',iv,M4,F4⟩:=M3.rdO (show({s1 with st:=rs}:Ms).rd=v::rd from hr');refine yE rfl hh (by show decide (("hand":Str)="begin")=false;decide+kernel) (yE rfl hh (by show decide (("hand":Str)="parts")=false;decide+kernel) ⟨⟨_,_,M3.o,kF iq⟩,_,hh,gu (gq (j:=1) rfl) ⟨_,⟨_,_,M3.o,oK⟩,.inl ⟨rfl,_,SqL.of e'⟩,yD e' ?_⟩⟩);refine ui (Q:=fun _ H'=>WsI T.c1.a T.c3.a A tu s' ρs ho H n [some (.ref A.m),some (.ref a)] H') M4 ?_ (iv.mono (M3.tk F4)) fun H' M' F'=>done _ H' M' (F4.trans F');obtain⟨b1,b2,b3,b4,b5⟩:=bd3;have b5:s1.rd.length<=9000000:=b5;rw[hr',aA]at b5;exact⟨cQ b1 (by decide),cQ b2 (by decide),cQ b3 (by decide),cQ b4 (by decide),by show rd.length<=_;lia⟩
structure MJ (C dx m:Zx) (H H':Hp) (fs:List (Str×V)) (ls:List Zx):Prop where
 o:H' m=some (.ins C dx fs)
 k:∀z o,H z=some o->z≠m->H' z=some o
 l:∀a∈ls,H' a=some (.lst [])/\H a=none
 n:ls.Nodup
 m0:m∉ls
section
variable {C dx m:Zx} {H H':Hp} {fs:List (Str×V)} {ls:List Zx}
theorem MJ.fld (j:MJ C dx m H H' fs ls) (gs:List (Str×V)):MJ C dx m H (upd H' m (.ins C dx gs)) gs ls:=⟨gb,fun z o e n=>by rw[gx n];exact j.k z o e n,fun a ha=>⟨by rw[gx (fun z=>j.m0 (by rw[<-z];exact ha))];exact(j.l a ha).1,(j.l a ha).2⟩,j.n,j.m0⟩
theorem MJ.new (j:MJ C dx m H H' fs ls) (hm:(H m).isSome=true) {a:Zx} (h:H' a=none):MJ C dx m H (upd H' a (.lst [])) fs (ls++[a]):=by
 have nm:a≠m:=fun z=>by rw[z,j.o]at h;cases h
 have h0:H a=none:=by
  cases e:H a with
  |none=>rfl
  |some o=>rw[j.k a o e nm]at h;cases h
 have nl:a∉ls:=fun z=>by rw[(j.l a z).1]at h;cases h
 refine⟨by rw[gx nm.symm];exact j.o,fun z o e n=>by rw[gx (gr e h0)];exact j.k z o e n,fun b hb=>?_,?_,fun z=>?_⟩
 ·rcases ao.mp hb with hb|hb;·exact⟨by rw[gx (fun z=>nl (by rw[<-z];exact hb))];exact(j.l b hb).1,(j.l b hb).2⟩
  ·rw[bo.mp hb];exact⟨gb,h0⟩
 ·rw[cc];refine⟨j.n,aF.mpr ⟨(fun z=>by cases z),cm⟩,fun x hx y hy z=>nl ?_⟩;rw[bo.mp hy]at z;rw[<-z];exact hx
 ·rcases ao.mp z with z|z;·exact j.m0 z
  ·exact nm (bo.mp z).symm
theorem MJ.f1 (j:MJ C dx m H H' fs ls) {x:Str} {v:V} {R:Hp->Prop} (k:∀H2,MJ C dx m H H2 (mY x v fs) ls->R H2) (hl:decide (fs.length<1000)=true:=by kernel_rfl):∃d f,H' m=some (.ins C d f)/\f.length<1000/\R (upd H' m (.ins C d (mY x v f))):=⟨dx,fs,j.o,of_decide_eq_true hl,k _ (j.fld _)⟩
theorem MJ.f2 (j:MJ C dx m H H' fs ls) (hm:(H m).isSome=true) {x:Str} {R:Zx->Hp->Prop} (k:∀a H2,MJ C dx m H H2 (mY x (.ref a) fs) (ls++[a])->R a H2) (hl:decide (fs.length<1000)=true:=by kernel_rfl):0<=sizeLine/\∀a,H' a=none->∃d f,(upd H' a (.lst [])) m=some (.ins C d f)/\f.length<1000/\R a (upd (upd H' a (.lst [])) m (.ins C d (mY x (.ref a) f))):=⟨cX _,fun a h=>(j.new hm h).f1 (k a) hl⟩
theorem MJ.eq {gs:List (Str×V)} (j:MJ C dx m H H' fs ls) (e:fs=gs):MJ C dx m H H' gs ls:=e▸j
end
def s0M:Ms:=⟨0,none,[],[],[],[],[]⟩
inductive XMi (C:Zx) (vs:List V) (H:Hp) (Q:VK):Prop
 |mk (m dx p h:Zx) (tu:Int) (e:vs=[.ref m,.ref p,.ref h,.int tu]) (o:H m=some (.ins C dx [])) (q:∀H' me ha de st rd,MJ C dx m H H' (fMc p h tu 0 .non me ha de st rd) [me,ha,de,st,rd]->Q .non H')
def Jd (C:Zx):Sp:=fun vs H Q _=>XMi C vs H Q
theorem oo (T:Txt K mg):MO P w base mg 1 T.e48 (Jd T.c1.a):=by
 refine T.e48.F.rd nZ fun cdv A0 outer s0 H vs Q E hr h=>?_;obtain⟨m,dx,p,h,tu,rfl,o,q⟩:=h;refine⟨_,(f9 (jc T.c1.cl T.n1program (je (PE.mono (cv 0)) (PE.mono (cv 1)) rfl))
  (f9 (jc T.c1.cl T.n1homes (je (PE.mono (cv 0)) (PE.mono (cv 2)) rfl))
  (f9 (jc T.c1.cl T.n1turns (je (PE.mono (cv 0)) (PE.mono (cv 3)) rfl))
  (f9 (jc T.c1.cl T.n1begun (je (PE.mono (cv 0)) (PE.mono gh) rfl))
  (f9 (jc T.c1.cl T.n1end (je (PE.mono (cv 0)) (PE.mono lM) rfl))
  (f9 (jc T.c1.cl T.n1meets (je (PE.mono (cv 0)) (PE.mono (gT gf)) rfl))
  (f9 (jc T.c1.cl T.n1had (je (PE.mono (cv 0)) (PE.mono (gT gf)) rfl))
  (f9 (jc T.c1.cl T.n1defined (je (PE.mono (cv 0)) (PE.mono (gT gf)) rfl))
  (f9 (jc T.c1.cl T.n1steps (je (PE.mono (cv 0)) (PE.mono (gT gf)) rfl))
  (gj (jc T.c1.cl T.n1ready (je (PE.mono (cv 0)) (PE.mono (gT gf)) rfl)))))))))))),?_⟩;have im:(H m).isSome=true:=by rw[o];rfl
 have j0:MJ T.c1.a dx m H H [] []:=⟨o,fun _ _ e _=>e,fun a ha=>(by cases ha),cm,fun z=>(by cases z)⟩;refine j0.f1 fun H1 j1=>j1.f1 fun H2 j2=>j2.f1 fun H3 j3=>j3.f1 fun H4 j4=>j4.f1 fun H5 j5=>?_;refine j5.f2 im fun me H6 j6=>j6.f2 im fun ha H7 j7=>j7.f2 im fun de H8 j8=>j8.f2 im fun st H9 j9=>j9.f2 im fun rd H10 j10=>q _ me ha de st rd (j10.eq (by kernel_rfl))
def fRn (en v:V) (me ha:Zx) (bg:Int):List (Str×V):=[("end",en),("value",v),("meets",.ref me),("had",.ref ha),("begun",.int bg)]
inductive XRi (C:Zx) (vs:List V) (H:Hp) (Q:VK):Prop
 |mk (m dx me ha:Zx) (en v:V) (bg:Int) (e:vs=[.ref m,en,v,.ref me,.ref ha,.int bg]) (o:H m=some (.ins C dx [])) (q:∀H',H' m=some (.ins C dx (fRn en v me ha bg))->(∀z o,H z=some o->z≠m->H' z=some o)->Q .non H')
def G3 (C:Zx):Sp:=fun vs H Q _=>XRi C vs H Q
theorem rJ (T:Txt K mg):MO P w base mg 1 T.e57 (G3 T.c2.a):=by
 refine T.e57.F.rd rp fun cdv A0 outer s0 H vs Q E hr h=>?_;obtain⟨m,dx,me,ha,en,v,bg,rfl,o,q⟩:=h;refine⟨_,(f9 (jc T.c2.cl T.n2end (je (PE.mono (cv 0)) (PE.mono (cv 1)) rfl))
  (f9 (jc T.c2.cl T.n2value (je (PE.mono (cv 0)) (PE.mono (cv 2)) rfl))
  (f9 (jc T.c2.cl T.n2meets (je (PE.mono (cv 0)) (PE.mono (cv 3)) rfl))
  (f9 (jc T.c2.cl T.n2had (je (PE.mono (cv 0)) (PE.mono (cv 4)) rfl))
  (gj (jc T.c2.cl T.n2begun (je (PE.mono (cv 0)) (PE.mono (cv 5)) rfl))))))),?_⟩;refine⟨_,_,o,(by show 0<1000;decide),_,_,gb,(by show 1<1000;decide),_,_,gb,(by show 2<1000;decide),_,_,gb,(by show 3<1000;decide),_,_,gb,(by show 4<1000;decide),?_⟩;refine q _ ?_ fun z o e hz=>?_;·rw[gb];exact congrArg (fun l=>some (HO.ins T.c2.a dx l)) (by kernel_rfl)
 ·rw[gx hz,gx hz,gx hz,gx hz,gx hz];exact e
inductive vS (ρs:List Ro) (ho:Nat->Option Hm) (tu:Nat):Nat->List Nat->Ms->Ms->Prop
 |done {s:Ms}:vS ρs ho tu 0 [] s {s with en:=some "done"}
 |next {n m r:Nat} {rs:List Nat} {s s' s2:Ms} {v:Vl} {rd:List Vl} (h:sR ρs ho tu n {s with st:= .beg (r:Int) .nil::s.st} s') (he:s'.en=none) (hr:s'.rd=v::rd) (t:vS ρs ho tu m rs {s' with rd:=rd,de:=s'.de++[v]} s2):vS ρs ho tu (n+m+ 3) (r::rs) s s2
 |full {n r:Nat} {rs:List Nat} {s s':Ms} (h:sR ρs ho tu n {s with st:= .beg (r:Int) .nil::s.st} s') (he:s'.en≠none):vS ρs ho tu (n+ 3) (r::rs) s s'
theorem xn {α:Type} (ys:List α) (y:α):atI (ys++[y]) (-1)=some y:=by unfold atI ixN;rw[gN (by decide),aR,bf,gU (by lia),show((-1:Int)+((ys.length+ 1:Nat):Int)).toNat=ys.length by lia];show(ys++[y])[ys.length]?=_;rw[aM (cW _),di];rfl
inductive XPg (C CP:Zx) (vs:List V) (H:Hp) (Q:VK):Prop
 |mk (A:Mad) (tu n b:Nat) (s s':Ms) (names:Zd) (roots:List Nat) (ρs:List Ro) (ho:Nat->Option Hm) (e:vs=[.ref A.m]) (M:Mc C H A tu s) (c:Ctx CP H A names roots ρs ho) (r:vS ρs ho tu n roots s s') (hb:Bd b s) (hn:b+ 200*n<=8000000) (q:∀H',Mc C H' A tu s'->FM A H H'->Q .non H')
def Je (C CP:Zx):Sp:=fun vs H Q _=>XPg C CP vs H Q
def PgI (C:Zx) (A:Mad) (tu:Nat) (s':Ms) (roots:List Nat) (ρs:List Ro) (ho:Nat->Option Hm) (H:Hp) (i:Nat) (σ:St) (H2:Hp):Prop:=X4 fun(o:Option V) (s1:Ms) (b m:Nat)=>Y6 (σ=[some (.ref A.m),o]) (Mc C H2 A tu s1) (FM A H H2) (vS ρs ho tu m (roots.drop i) s1 s') (Bd b s1) (b+ 200*m<=8000000)
theorem md (T:Txt K mg) (W:Wk P w T):MO P w base mg 10 T.e49 (Je T.c1.a T.c3.a):=by
 have gE50:=mV (base:=base) T W;refine T.e49.F.rd jX fun cdv A0 outer s0 H vs Q E hr h=>?_;obtain⟨A,tu,n,b,s,s',names,roots,ρs,ho,rfl,M,c,r,hb,hn,q⟩:=h;refine⟨_,(f9 (jb PassesOwn.never rfl (jq (gS T.c3.cl T.n3roots (gS T.c1.cl T.n1program (cv 0)))) (pN (i:=1) jX.nd)
   (f9 (gL (iS (jt fc fe fg gR (PE.mono (gS T.c1.cl T.n1steps (cv 0))) (fZ (PE.mono (ij (fZ gE (fZ (cv 1) (fZ lM gf))))) gf))))
   (f9 (gL (i6 (jF (PE.mono (cv 0)) T.c1.cl T.e50.me gE50 hr.m T.e50.b .nil iO)))
   (f9 (ie (sh (D5 (gS T.c1.cl T.n1end (cv 0))))
    (gj zQ)
    gK)
   (gj (gL (iS (jt fc fe fg gR (PE.mono (gS T.c1.cl T.n1defined (cv 0))) (fZ (PE.mono (xZ fc fh fj ya (gS T.c1.cl T.n1ready (cv 0)))) gf)))))))))
  (gj (jc T.c1.cl T.n1end (je (PE.mono (cv 0)) (PE.mono gE) rfl)))),?_⟩;have sl:=sizeLine_eq;obtain⟨na,rl,w,dx,xs,pr,n1,n2,n3,n4⟩:=c.p;refine⟨_,⟨_,_,M.o,om⟩,_,⟨_,_,pr.o,yB _ _ _⟩,_,rfl,⟨_,SqL.of pr.r⟩,jE (xs:=roots.map nI) (PgI T.c1.a A tu s' roots ρs ho H) ⟨none,s,b,n,rfl,M,FM.refl,r,hb,hn⟩ (fun i σ H2 _ ⟨_,_,_,_,_,_,F,_,_,_⟩=>SqL.of (F.get pr.r n3)) ?_ ?_⟩
 ·rintro i v σ H2 hx ⟨o,s1,b,m,rfl,M2,F2,r,hb,hn⟩;rw[aO]at hx;obtain⟨j,hj,rfl⟩:=dI.mp hx;have hdr:roots.drop i=j::roots.drop (i+ 1):=by obtain⟨z1,z2⟩:=au.mp hj;rw[bT z1,z2]
  rw[hdr]at r;have c2:=c.fm M F2;obtain⟨ys,e,_⟩:=M2.st;have b4:=hb.2.2.2.1;have b3:=hb.2.2.1;refine⟨_,⟨_,_,M2.o,kS⟩,⟨_,e⟩,qq,fun a ha=>?_⟩;have S1:=gi ha (.tup [.str "begin",.int (j:Int),.non]);have M3:=M2.same S1;have i1:Im (L2.Internal.upd H2 a (.tup [.str "begin",.int (j:Int),.non])) (.ref a) (Stp.beg (j:Int) .nil).d:=
   qi ha (.cons (.flat rfl) (.cons (.flat rfl) (.cons (.flat rfl) .nil)));obtain⟨ys1,e1,l1,M4,F4⟩:=M3.stP i1;refine⟨ys1,e1,by lia,?_⟩;have F04:=(F2.trans (FM.same S1)).trans F4;have c4:=(c2.fm M2 (FM.same S1)).fm M3 F4;dsimp only[nI];generalize L2.Internal.upd (L2.Internal.upd H2 a (.tup [.str "begin",.int (j:Int),.non])) A.st (.lst (ys1++[.ref a]))=H4 at M4 F4 F04 c4⊢;have hb4:Bd (b+ 1) {s1 with st:= .beg (j:Int) .nil::s1.st}:=by obtain⟨b1,b2,b3,b4,b5⟩:=hb;exact⟨by show s1.me.length<=_;lia,by show s1.ha.length<=_;lia,by show s1.de.length<=_;lia,by show(_::s1.st).length<=_;rw[aA];lia,by show s1.rd.length<=_;lia⟩
  cases r with
  |@full n0 _ _ _ s5 h he=>refine⟨⟨_,_,M4.o,kF iq⟩,A,tu,n0,b+ 1,_,s',names,roots,ρs,ho,rfl,M4,c4,h,hb4,by lia,fun H5 M5 F5=>?_⟩;refine⟨_,⟨_,_,M5.o,rG⟩,_,rfl,?_⟩;rw[Bl,ik he];exact jJ (q _ M5 (F04.trans F5))
  |@next n0 m0 _ _ _ s5 _ v rd h he hr' t=>
   refine⟨⟨_,_,M4.o,kF iq⟩,A,tu,n0,b+ 1,_,s5,names,roots,ρs,ho,rfl,M4,c4,h,hb4,by lia,fun H5 M5 F5=>?_⟩;have hb5:=h.bd c.ok hb4;refine⟨_,⟨_,_,M5.o,rG⟩,_,rfl,?_⟩;rw[Bl,hI he];obtain⟨zs,ez,_⟩:=M5.de;obtain⟨xs',y',e',iv,M6,F6⟩:=M5.rdO hr';obtain⟨zs,ez6,lz,M7,F7⟩:=M6.deP (iv.mono (M5.tk F6));have ld:=hb5.2.2.1;refine iL ⟨_,⟨_,_,M5.o,oj⟩,⟨_,ez⟩,_,⟨_,_,M5.o,oK⟩,.inl ⟨rfl,_,SqL.of e'⟩,yD e' ⟨zs,ez6,?_,?_⟩⟩;·rw[lz];show s5.de.length<_;lia
   ·refine⟨_,_,b+ 1+ 200*n0+ 1,m0,rfl,M7,((F04.trans F5).trans F6).trans F7,t,?_,by lia⟩;obtain⟨b1,b2,b3,b4,b5⟩:=hb5;rw[hr',aA]at b5;exact⟨by show s5.me.length<=_;lia,by show s5.ha.length<=_;lia,by show(s5.de++[v]).length<=_;rw[aR,bf];lia,by show s5.st.length<=_;lia,by show rd.length<=_;lia⟩
 ·rintro σ H2 ⟨o,s1,b,m,rfl,M2,F2,r,hb,hn⟩;rw[aD,b6]at r;cases r;obtain⟨M3,F3⟩:=M2.setO s1.bg (some "done");refine⟨_,_,M2.o,by show 10<1000;decide,?_⟩;rw[CF];exact q _ M3 (F2.trans F3)
structure RnA (C:Zx) (H:Hp) (r:Zx) (s:Ms):Prop where
 o:∃dx v me ha,H r=some (.ins C dx (fRn (enV s.en) v me ha s.bg))/\(∃xs,H me=some (.lst xs)/\Ims H xs (s.me.reverse.map meD))/\(∃xs,H ha=some (.lst xs)/\Ims H xs (s.ha.reverse.map haD))/\(s.en≠some ("done":Str)->v= .non)/\∀u,s.en=some ("done":Str)->s.de.getLast?=some u->Im H v u.d
inductive XRn (C CP:Zx) (vs:List V) (H:Hp) (Q:VK):Prop
 |mk (p h n0 r0 w0 dx:Zx) (tu n:Nat) (xs hs:List V) (s':Ms) (names:Zd) (roots:List Nat) (ρs:List Ro) (ho:Nat->Option Hm) (e:vs=[.ref p,.ref h,.int (tu:Int)]) (pr:PrA CP H p n0 r0 w0 dx xs names roots ρs) (eh:H h=some (.lst hs)) (ih:∀(k:Nat) (ρ:Ro),ρs[k]?=some ρ->∃y,hs[k]?=some y/\Im H y (hoD (ho k))) (ok:∀ρ∈ρs,ρ.ok) (r:vS ρs ho tu n roots s0M s') (hn:200*n<=8000000) (he:∃e,s'.en=some e) (hd:s'.en=some ("done":Str)->s'.de≠[]) (q:∀r H',gC H H'->H r=none->RnA C H' r s'->Q (.ref r) H')
def Jf (C CP:Zx):Sp:=fun vs H Q _=>XRn C CP vs H Q
theorem G4 (T:Txt K mg) (W:Wk P w T):FO P w base 11 T.d12 (Jf T.c2.a T.c3.a):=by
 have gE49:=md (base:=base) T W;refine T.d12.F.rd AV fun cdv A0 outer s0 H vs Q E hr h=>?_;obtain⟨p,h,n0,r0,w0,dx,tu,n,xs,hs,s',names,roots,ρs,ho,rfl,pr,eh,ih,ok,r,hn,⟨en,he⟩,hd,q⟩:=h;refine⟨_,(f9 (pS (i:=3) AV.nd (tE T.mk1 (oo T) hr.m rfl T.c1.m T.e48.b .nil iO (fZ (cv 0) (fZ (cv 1) (fZ (cv 2) gf)))))
  (f9 (gL (i6 (jF (PE.mono (cv 3)) T.c1.cl T.e49.me gE49 hr.m T.e49.b .nil iO)))
  (f9 (pS (i:=4) AV.nd (qr (gH jZ (gS T.c1.cl T.n1end (cv 3)) gE) (gy gJ (gS T.c1.cl T.n1defined (cv 3)) (y0 sq gh)) lM))
  (gj (gG (tE T.mk2 (rJ T) hr.m rfl T.c2.m T.e57.b .nil iO (fZ (gS T.c1.cl T.n1end (cv 3)) (fZ (cv 4) (fZ (gS T.c1.cl T.n1meets (cv 3)) (fZ (gS T.c1.cl T.n1had (cv 3)) (fZ (gS T.c1.cl T.n1begun (cv 3)) gf))))))))))),?_⟩;intro m mx hm hmx nmx;have S0:gC H (upd (upd H mx (.own m)) m (.ins T.c1.a mx [])):=hG (hG (fun _ _ e=>e) hmx _) hm _;refine⟨m,mx,p,h,(tu:Int),rfl,gb,fun H1 me ha de st rd j=>⟨rfl,?_⟩⟩;have S1:gC H H1:=fun b o e=>j.k b o (S0 b o e) (gr e hm);have l0:∀a∈[me,ha,de,st,rd],H a=none:=fun a ha=>S0.free (j.l a ha).2;let A:Mad:=⟨m,mx,p,h,me,ha,de,st,rd⟩;have nal:∀{a:Zx} {o:HO},H a=some o->a∉A.all:=fun{a o} e z=>by
  rcases ak.mp z with z|z;·rw[z,hm]at e;cases e
  ·rw[l0 a z]at e;cases e
 have em:∀a∈[me,ha,de,st,rd],H1 a=some (.lst []):=fun a ha=>(j.l a ha).1;have M1:Mc T.c1.a H1 A tu s0M:=⟨j.o,⟨_,em me (by simp),.nil⟩,⟨_,em ha (by simp),.nil⟩,⟨_,em de (by simp),.nil⟩,⟨_,em st (by simp),.nil⟩,⟨_,em rd (by simp),.nil⟩,j.n⟩;have k1:=gC.tk S1;have c1:Ctx T.c3.a H1 A names roots ρs ho:=⟨⟨n0,r0,w0,dx,xs,pr.same S1,nal pr.o,nal pr.n,nal pr.r,nal pr.w⟩,⟨hs,S1 _ _ eh,nal eh,fun k ρ e=>let⟨y,a,b⟩:=ih k ρ e;⟨y,a,b.mono k1⟩⟩,ok⟩;dsimp only[gY];refine⟨⟨_,_,M1.o,kF iq⟩,A,tu,n,0,s0M,s',names,roots,ρs,ho,rfl,M1,c1,r,⟨cW _,cW _,cW _,cW _,cW _⟩,by lia,fun H2 M2 F2=>?_⟩;have S2:gC H H2:=fun b o e=>F2.get (S1 b o e) (nal e);have fin:∀v,(s'.en≠some ("done":Str)->v= .non)->(∀u,s'.en=some ("done":Str)->s'.de.getLast?=some u->Im H2 v u.d)->B3 (Gd T.c2.a (G3 T.c2.a) [] E0 (lN (FE T.c1.a "end" (cV 3)) (lN (cV 4) (lN (FE T.c1.a "meets" (cV 3)) (lN (FE T.c1.a "had" (cV 3)) (lN (FE T.c1.a "begun" (cV 3)) zM)))))) {nx:=fun _ H'=>Q .non H',rt:=Q} [some (.ref p),some (.ref h),some (.int tu),some (.ref m),some v] H2:=fun v h1 h2=>by refine⟨_,⟨_,_,M2.o,rG⟩,_,⟨_,_,M2.o,vO⟩,_,⟨_,_,M2.o,Ba⟩,_,⟨_,_,M2.o,rH⟩,fun rr rx hrr hrx nrx=>?_⟩;have S3:gC H2 (upd (upd H2 rx (.own rr)) rr (.ins T.c2.a rx [])):=hG (hG (fun _ _ e=>e) hrx _) hrr _;refine⟨rr,rx,me,ha,enV s'.en,v,(s'.bg:Int),rfl,gb,fun H4 e4 k4=>⟨rfl,?_⟩⟩;have S4:gC H2 H4:=fun b o e=>k4 b o (S3 b o e) (gr e hrr);obtain⟨xs1,e1,i1⟩:=M2.me;obtain⟨xs2,e2,i2⟩:=M2.ha;have tk4:=gC.tk S4;exact q rr H4 (S2.trans S4) (S2.free hrr) ⟨rx,v,me,ha,e4,⟨xs1,S4 _ _ e1,i1.mono tk4⟩,⟨xs2,S4 _ _ e2,i2.mono tk4⟩,h1,fun u a b=>(h2 u a b).mono tk4⟩
 refine⟨_,⟨_,_,M2.o,rG⟩,?_⟩;by_cases hdn:s'.en=some ("done":Str);·obtain⟨l,u,hl⟩:∃l u,s'.de=l++[u]:=⟨_,_,(bP (hd hdn)).symm⟩;obtain⟨zs,ez,iz⟩:=M2.de;rw[hl]at iz;obtain⟨ys,y,rfl,_,iy⟩:=ug iz;rw[hdn];dsimp only[tC,cEq,onB,enV];rw[hI rfl];refine jJ ⟨_,⟨_,_,M2.o,oj⟩,_,rfl,_,ez,gu (xn ys y) ?_⟩;dsimp only[gY];exact fin y (fun n=>absurd hdn n) fun u' _ e=>by rw[hl,cu]at e;cases e;exact iy
 ·rw[he];dsimp only[tC,cEq,onB,enV];rw[ik (fun z=>hdn (by rw[he,z]))];refine iL ?_;dsimp only[gY];exact fin .non (fun _=>rfl) (fun u e=>absurd e hdn)
open GR.Internal (Op Gp toks isName WOk TAt lO)
theorem E2 (x:Str):x.cps.toList.length=x.length:=by rw[fD];rfl
def yG (w:Str):Prop:=w.cps.toList≠[]/\∀k∈w.cps.toList,k≠32/\k≠10/\k≠40/\k≠41
theorem smfg:∀c∈(GR.Internal.SM++GR.Internal.FG).cps.toList,c≠32/\c≠10/\c≠40/\c≠41:=iq
theorem mf {w:Str} (h:GR.Internal.isName w=true):yG w/\w.length<=12:=by unfold GR.Internal.isName at h;simp only[fz,decide_eq_true_eq]at h;refine⟨⟨fun z=>?_,fun k hk=>smfg k (GR.Internal.allIn_mem h.2 k hk)⟩,h.1.1.1.2⟩;have:=E2 w;rw[z]at this;have:=h.1.1.1.1;simp at*;lia
theorem fgp:∀c∈GR.Internal.FG.cps.toList,c≠32/\c≠10/\c≠40/\c≠41:=iq
theorem CH {n:Int} (h0:0<=n) (h1:n<10^60):yG (TM.Internal.numS n)/\(TM.Internal.numS n).length<=60:=by obtain⟨f1,f2,f3⟩:=GR.Internal.str_fig (k:=59) h0 h1;refine⟨⟨fun z=>?_,fun k hk=>fgp k (f1 k hk)⟩,f3⟩;obtain⟨c,r,e⟩:=GR.Internal.first_of (x:=TM.Internal.numS n) f2;rw[z]at e;cases e
def okW (w:Str):Prop:=w≠""/\w.length<=60/\∀c∈w.cps.toList,c<128
structure Gi (x:Str) (ts:Zd) (a b:Nat):Prop where
 op:Op x ts
 ln:x.length+ 1<=a
 wl:ts.length<=b
 ok:∀w∈ts,okW w
theorem Bm {x:Str} {n:Nat} (hp:yG x) (hl:x.length<=n) (hn:n<=60) (ha:∀c∈x.cps.toList,c<128):Gi x [x] (n+ 1) 1:=by refine⟨Op.word hp.1 hp.2,by lia,cW _,fun w hw=>?_⟩;rw[bo.mp hw];refine⟨fun z=>hp.1 (by rw[z];rfl),by lia,ha⟩
theorem Jg:∀c∈(GR.Internal.SM++GR.Internal.FG).cps.toList,c<128:=iq
theorem Jh:∀c∈GR.Internal.FG.cps.toList,c<128:=iq
theorem xo {w:Str} (h:isName w=true):Gi w [w] 13 1:=by obtain⟨h1,h2⟩:=mf h;refine Bm h1 h2 (by decide) fun c hc=>Jg c ?_;unfold isName at h;simp only[fz]at h;exact GR.Internal.allIn_mem h.2 c hc
theorem Bn {n:Int} (h0:0<=n) (h1:n<10^60):Gi (TM.Internal.numS n) [TM.Internal.numS n] 61 1:=by obtain⟨a,b⟩:=CH h0 h1;obtain⟨f1,_,_⟩:=GR.Internal.str_fig (k:=59) h0 h1;exact Bm a b (by decide) fun c hc=>Jh c (f1 c hc)
theorem G5 {ws:Zd} (hl:ws.length<=30000) (h:∀w∈ws,okW w):WOk ws:=⟨hl,fun x hx=>by obtain⟨a,b,c⟩:=h x hx;exact⟨a,by lia,fun k hk=>by have:=c k hk;lia⟩⟩
mutual
def gF:Dt->Bool
 | .flat v=>(match v with| .int _=>true| .str _=>true|_=>false)
 | .tup ds=>decide (ds.length<=1000)&&gFs ds
 | .lst _=>false
def gFs:List Dt->Bool
 |[]=>true
 |d::ds=>gF d&&gFs ds
end
mutual
theorem G6 {K:Zp} {H:Hp}:∀{x:V} {d:Dt},TAt K H x d->gF d=true->Im H x d
 |_,_,.flat h,g=> .flat (by
   rename_i v
   cases v with
   |int n=>rfl
   |str z=>rfl
   |_=>simp[gF]at g)
 |_,_,.tup h hs,g=>by rw[gF,fz]at g;exact .tup h (qA hs g.2)
theorem qA {K:Zp} {H:Hp}:∀{xs:List V} {ds:List Dt},lO K H xs ds->gFs ds=true->Ims H xs ds
 |_,_,.nil,_=> .nil
 |_,_,.cons h t,g=>by rw[gFs,fz]at g;exact .cons (G6 h g.1) (qA t g.2)
end
theorem G7 {H:Hp}:∀{ps:List Nat} {xs:List V},Ims H xs (ps.map TM.Internal.kD)->xs=ps.map fun k:Nat=>V.int (k:Int)
 |[],xs,h=>by cases h;rfl
 |p::ps,xs,h=>by
  rw[aC,TM.Internal.kD]at h
  cases h with
  |cons h t=>cases h;rw[G7 t];rfl
inductive Kx where
 |num (n:Int)
 |nam (w:Str) (k:Nat) (v:Vl)
 |rcd (l:Zd)
 |tag (w:Str)
 |get (w:Str)
 |case (l:Zd) (h:Str) (ms:List Int) (i:Nat)
inductive Xt where
 |mk (m:Int) (κ:Kx) (ks:List Xt)
def v0 (vs:List Vl):Vl:=vs.headD (.num 0 0)
def Vl.fl:Vl->Vls
 | .rcd l _=>l
 |_=> .nil
def Vl.inn:Vl->Vl
 | .tag _ v _=>v
 |v=>v
def Kx.v (m:Int) (vs:List Vl):Kx->Vl
 | .num n=> .num n m
 | .nam _ _ v=>v
 | .rcd l=> .rcd (fdO (l.zip vs)) m
 | .tag w=> .tag w (v0 vs) m
 | .get w=>(lkV (fdL (v0 vs).fl) w).getD (.num 0 0)
 | .case _ _ _ _=>(v0 vs).inn
def Kx.m (m:Int) (vs:List Vl):Kx->List (Int×Int×Int)
 | .get _=>[((v0 vs).p,m,0)]
 | .case _ _ _ _=>[((v0 vs).p,m,0)]
 |_=>[]
def Kx.lm:Kx->List Int
 | .case _ _ ms _=>ms
 |_=>[]
def Kx.lh (v:Vl):Kx->List (Int×Int)
 | .case _ _ ms i=>[(ms.getD i 0,v.p)]
 |_=>[]
def Kx.hd:Kx->Str
 | .case _ h _ _=>h
 |_=>""
def lfR (h:Str) (i:Nat):Nat->List Int->List Ro
 |_,[]=>[]
 |j,_::ms=>(if j=i then .name h else .num (j:Int))::lfR h i (j+ 1) ms
def lfT (h:Str) (i:Nat):Nat->List Int->List TM.Internal.Tr
 |_,[]=>[]
 |j,_::ms=> .mk (if j=i then .name h else .num (j:Int)) []::lfT h i (j+ 1) ms
def lfX (h:Str) (i j:Nat):Str:=if j=i then h else TM.Internal.numS (j:Int)
def Kx.lr:Kx->List Ro
 | .case _ h ms i=>lfR h i 0 ms
 |_=>[]
def Kx.lt:Kx->List TM.Internal.Tr
 | .case _ h ms i=>lfT h i 0 ms
 |_=>[]
mutual
def Xt.val:Xt->Vl
 | .mk m κ ks=>κ.v m (ir ks)
def ir:List Xt->List Vl
 |[]=>[]
 |t::ts=>t.val::ir ts
end
mutual
def Xt.ms:Xt->List Int
 | .mk m κ ks=>m::(msX ks++κ.lm)
def msX:List Xt->List Int
 |[]=>[]
 |t::ts=>t.ms++msX ts
end
mutual
def Xt.ha:Xt->List (Int×Int)
 | .mk m κ ks=>haX ks++κ.lh (κ.v m (ir ks))++[(m,(κ.v m (ir ks)).p)]
def haX:List Xt->List (Int×Int)
 |[]=>[]
 |t::ts=>t.ha++haX ts
end
mutual
def Xt.me:Xt->List (Int×Int×Int)
 | .mk m κ ks=>meX ks++κ.m m (ir ks)
def meX:List Xt->List (Int×Int×Int)
 |[]=>[]
 |t::ts=>t.me++meX ts
end
def Kx.t:Kx->TM.Internal.Kn
 | .num n=> .num n
 | .nam w _ _=> .name w
 | .rcd l=> .rcd l
 | .tag w=> .tag w
 | .get w=> .get w
 | .case l h _ _=> .case (l.map fun t=>(t,h))
mutual
def Xt.tr:Xt->TM.Internal.Tr
 | .mk _ κ ks=> .mk κ.t (trX ks++κ.lt)
def trX:List Xt->List TM.Internal.Tr
 |[]=>[]
 |t::ts=>t.tr::trX ts
end
def ilv:List Str->List Str->List Str
 |w::ws,x::xs=>w::x::ilv ws xs
 |_,_=>[]
def arX (h:Str) (i:Nat):Nat->List Str->List Str
 |_,[]=>[]
 |j,t::ts=>t::h::lfX h i j::arX h i (j+ 1) ts
def Kx.xs (xs:Zd):Kx->List Str
 | .num n=>[TM.Internal.numS n]
 | .nam w _ _=>[w]
 | .rcd l=>"rec"::ilv l xs
 | .tag w=>"tag"::w::xs
 | .get w=>("get":Str)::(xs++[w])
 | .case l h _ i=>("case":Str)::(xs++arX h i 0 l)
def Kx.x (xs:Zd):Kx->Str
 | .num n=>TM.Internal.numS n
 | .nam w _ _=>w
 |κ=>"("++Str.join " " (κ.xs xs)++")"
mutual
def Xt.tx:Xt->Str
 | .mk _ κ ks=>κ.x (txX ks)
def txX:List Xt->List Str
 |[]=>[]
 |t::ts=>t.tx::txX ts
end
def kY:List Xt->Nat->List Nat
 |[],_=>[]
 |t::ts,p=>p::kY ts (p+t.ms.length)
def xq (h:Str):List Str->Nat->List (Str×Str×Int)
 |[],_=>[]
 |t::ts,q=>(t,h,(q:Int))::xq h ts (q+ 1)
def h0 (ps:List Nat):Int:=((ps.headD 0:Nat):Int)
def Kx.r (ps:List Nat) (q:Nat):Kx->Ro
 | .num n=> .num n
 | .nam w _ _=> .name w
 | .rcd l=> .rcd (l.zip (ps.map fun k:Nat=>(k:Int)))
 | .tag w=> .tag w (h0 ps)
 | .get w=> .get (h0 ps) w
 | .case l h _ _=> .case (h0 ps) (xq h l q)
mutual
def Xt.ro:Xt->Nat->List Ro
 | .mk _ κ ks,p=>κ.r (kY ks (p+ 1)) (p+ 1+(msX ks).length)::(i9 ks (p+ 1)++κ.lr)
def i9:List Xt->Nat->List Ro
 |[],_=>[]
 |t::ts,p=>t.ro p++i9 ts (p+t.ms.length)
end
def Kx.ok (ws:Zd) (vs:List Vl):Kx->List Vl->Prop
 | .num n,l=>l=[]/\0<=n/\n<10^60
 | .nam w k v,l=>l=[]/\ws[k]?=some w/\vs[k]?=some v
 | .rcd l',l=>l.length=l'.length/\l'.length<=6/\l'.Nodup/\∀w∈l',w∈ws
 | .tag w,l=>(∃a,l=[a])/\w∈ws
 | .get w,l=>(∃a q v,l=[.rcd a q]/\lkV (fdL a) w=some v/\((fdL a).map Prod.fst).Nodup/\(fdL a).length<=6)/\w∈ws
 | .case l' h ms i,l=>(∃t v q,l=[.tag t v q]/\l'[i]?=some t)/\ms.length=l'.length/\l'.length<=6/\l'.Nodup/\(∀w∈l',w∈ws)/\h∈ws
mutual
def Xt.ok (ws:Zd) (vs:List Vl):Xt->Prop
 | .mk _ κ ks=>κ.ok ws vs (ir ks)/\okL ws vs ks
def okL (ws:Zd) (vs:List Vl):List Xt->Prop
 |[]=>True
 |t::ts=>t.ok ws vs/\okL ws vs ts
end
theorem ja:∀ts:List Xt,(ir ts).length=ts.length
 |[]=>by rw[ir];rfl
 |t::ts=>by rw[ir,aA,aA,ja ts]
theorem xr (h:Str) (i:Nat):∀(j:Nat) (ms:List Int),(lfR h i j ms).length=ms.length
 |_,[]=>rfl
 |j,m::ms=>congrArg (·+ 1) (xr h i (j+ 1) ms)
theorem uj (h:Str) (i:Nat):∀(j:Nat) (ms:List Int),(lfT h i j ms).length=ms.length/\TM.Internal.szs (lfT h i j ms)=ms.length
 |_,[]=>⟨rfl,by rw[lfT,TM.Internal.szs];rfl⟩
 |j,m::ms=>⟨congrArg (·+ 1) (uj h i (j+ 1) ms).1,by rw[lfT,TM.Internal.szs,TM.Internal.Tr.sz,TM.Internal.szs,(uj h i (j+ 1) ms).2,aA];lia⟩
theorem G8 (κ:Kx):κ.lr.length=κ.lm.length:=by
 cases κ with
 |case l h ms i=>exact xr h i 0 ms
 |_=>rfl
theorem G9 (κ:Kx):κ.lt.length=κ.lm.length/\TM.Internal.szs κ.lt=κ.lm.length:=by
 cases κ with
 |case l h ms i=>exact uj h i 0 ms
 |_=>exact⟨rfl,by show TM.Internal.szs []=0;rw[TM.Internal.szs]⟩
mutual
theorem Xt.ro_len:∀(t:Xt) (p:Nat),(t.ro p).length=t.ms.length
 | .mk m κ ks,p=>by rw[Xt.ro,Xt.ms,aA,aA,aR,aR,iE ks,G8]
theorem iE:∀(ts:List Xt) (p:Nat),(i9 ts p).length=(msX ts).length
 |[],_=>by rw[i9,msX];rfl
 |t::ts,p=>by rw[i9,msX,aR,aR,Xt.ro_len t,iE ts]
end
mutual
theorem Xt.tr_sz:∀t:Xt,t.tr.sz=t.ms.length
 | .mk m κ ks=>by rw[Xt.tr,TM.Internal.Tr.sz,Xt.ms,aA,TM.Internal.szs_app,HL ks,aR,(G9 κ).2];lia
theorem HL:∀ts:List Xt,TM.Internal.szs (trX ts)=(msX ts).length
 |[]=>by rw[trX,TM.Internal.szs,msX];rfl
 |t::ts=>by rw[trX,TM.Internal.szs,msX,Xt.tr_sz t,HL ts,aR]
end
theorem Bo:∀(ts:List Xt) (p:Nat),kY ts p=TM.Internal.offs (trX ts) p
 |[],_=>by rw[trX,TM.Internal.offs];rfl
 |t::ts,p=>by rw[kY,Bo ts,trX,TM.Internal.offs,Xt.tr_sz]
theorem nq:∀(ts:List Xt) (p:Nat),(kY ts p).length=ts.length
 |[],_=>rfl
 |t::ts,p=>by rw[kY,aA,aA,nq ts]
theorem yH:∀(a b:List TM.Internal.Tr) (p:Nat),TM.Internal.offs (a++b) p=TM.Internal.offs a p++TM.Internal.offs b (p+TM.Internal.szs a)
 |[],b,p=>by rw[bW,TM.Internal.szs];rfl
 |t::a,b,p=>by rw[aV,TM.Internal.offs,yH a b,TM.Internal.offs,TM.Internal.szs,aV,dm]
def upQ:Nat->Nat->List Nat
 |0,_=>[]
 |n+ 1,q=>q::upQ n (q+ 1)
theorem Bp (h:Str) (i:Nat):∀(j:Nat) (ms:List Int) (q:Nat),TM.Internal.offs (lfT h i j ms) q=upQ ms.length q
 |_,[],q=>rfl
 |j,m::ms,q=>by rw[lfT,TM.Internal.offs,TM.Internal.Tr.sz,TM.Internal.szs,Bp h i (j+ 1) ms,aA,upQ]
theorem Bq (h:Str) (i:Nat):∀(j:Nat) (ms:List Int) (q:Nat),TM.Internal.rws (lfT h i j ms) q=(lfR h i j ms).map Ro.d
 |_,[],q=>by rw[lfT,TM.Internal.rws];rfl
 |j,m::ms,q=>by rw[lfT,TM.Internal.rws,TM.Internal.Tr.rw,TM.Internal.rws,Bq h i (j+ 1) ms,lfR,aC];split<;>rfl
theorem Dw (h:Str):∀(l:Zd) (q:Nat),(xq h l q).map amD=((l.map fun t=>(t,h)).zip (upQ l.length q)).map fun p=> .tup [TM.Internal.sD p.1.1,TM.Internal.sD p.1.2,TM.Internal.kD p.2]
 |[],q=>rfl
 |t::l,q=>by rw[xq,aC,Dw h l];rfl
theorem Kx.r_d {ws:Zd} {vs:List Vl} {κ:Kx} {ks:List Xt} (ok:κ.ok ws vs (ir ks)) (p:Nat):(κ.r (kY ks p) (p+(msX ks).length)).d= .tup (κ.t.rw (kY ks p++TM.Internal.offs κ.lt (p+(msX ks).length))):=by
 have one:∀{a:Vl},ir ks=[a]->∃q,kY ks p=[q]:=fun e=>by
  have l:ks.length=1:=by rw[<-ja,e];rfl
  match ks,l with
  |[t],_=>exact⟨p,rfl⟩
 have nil:TM.Internal.offs [] (p+(msX ks).length)=[]:=rfl
 cases κ with
 |num n=>rfl
 |nam w k v=>rfl
 |rcd l=>show Dt.tup [sD "rec",.tup ((l.zip ((kY ks p).map fun k:Nat=>(k:Int))).map fdD)]= .tup [sD "rec",.tup ((l.zip (kY ks p++[])).map fun p=> .tup [TM.Internal.sD p.1,TM.Internal.kD p.2])];rw[aE,List.zip_map_right,bG];rfl
 |tag w=>obtain⟨a,e⟩:=ok.1;obtain⟨q,e⟩:=one e;rw[e];rfl
 |get w=>obtain⟨a,q,v,e,_⟩:=ok.1;obtain⟨q,e⟩:=one e;rw[e];rfl
 |case l h ms i=>obtain⟨⟨t,v,q,e,_⟩,hl,_⟩:=ok;obtain⟨q,e⟩:=one e;rw[e];show Dt.tup [sD "case",kD _,.tup ((xq h l _).map amD)]= .tup (TM.Internal.Kn.rw (.case _) (q::TM.Internal.offs (lfT h i 0 ms) _));rw[Dw,Bp,hl];rfl
mutual
theorem Xt.ro_d {ws:Zd} {vs:List Vl}:∀(t:Xt) (p:Nat),t.ok ws vs->(t.ro p).map Ro.d=t.tr.rw p
 | .mk m κ ks,p,ok=>by
  rw[Xt.ok]at ok;have e:κ.lr.map Ro.d=TM.Internal.rws κ.lt (p+ 1+(msX ks).length):=by
   cases κ with
   |case l h ms i=>exact(Bq h i 0 ms _).symm
   |_=>show[]=TM.Internal.rws [] _;rw[TM.Internal.rws]
  rw[Xt.ro,Xt.tr,TM.Internal.Tr.rw,aC,bp,Br ks _ ok.2,Kx.r_d ok.1,yH,TM.Internal.rws_app,HL,<-Bo,e]
theorem Br {ws:Zd} {vs:List Vl}:∀(ts:List Xt) (p:Nat),okL ws vs ts->(i9 ts p).map Ro.d=TM.Internal.rws (trX ts) p
 |[],_,_=>by rw[i9,trX,TM.Internal.rws];rfl
 |t::ts,p,ok=>by rw[okL]at ok;rw[i9,bp,Xt.ro_d t p ok.1,Br ts _ ok.2,trX,TM.Internal.rws,Xt.tr_sz]
end
def p2 (π:Int->Int) (t:Int×Int):Int×Int:=(π t.1,π t.2)
def p3 (π:Int->Int) (t:Int×Int×Int):Int×Int×Int:=(π t.1,π t.2.1,t.2.2)
mutual
def Vl.mp (π:Int->Int):Vl->Vl
 | .num n p=> .num n (π p)
 | .rcd l p=> .rcd (l.mp π) (π p)
 | .tag t v p=> .tag t (v.mp π) (π p)
def Vls.mp (π:Int->Int):Vls->Vls
 | .nil=> .nil
 | .cons w v t=> .cons w (v.mp π) (t.mp π)
end
def pv (π:Int->Int) (p:Str×Vl):Str×Vl:=(p.1,p.2.mp π)
section
variable {π:Int->Int}
theorem Ji (π:Int->Int) (v:Vl):(v.mp π).p=π v.p:=by cases v<;>rw[Vl.mp]<;>rfl
theorem vT:∀l:Vls,fdL (l.mp π)=(fdL l).map (pv π)
 | .nil=>by rw[Vls.mp];rfl
 | .cons w v t=>by rw[Vls.mp,fdL,vT t];rfl
theorem Dx:∀l:List (Str×Vl),(fdO l).mp π=fdO (l.map (pv π))
 |[]=>by rw[fdO,Vls.mp];rfl
 |p::l=>by rw[fdO,Vls.mp,Dx l];rfl
theorem Dy:∀(l:Zd) (us:List Vl),(l.zip us).map (pv π)=l.zip (us.map (Vl.mp π))
 |[],_=>rfl
 |_::_,[]=>rfl
 |w::l,u::us=>by rw[List.zip_cons_cons,aC,Dy l us];rfl
theorem Dz (w:Str):∀l:List (Str×Vl),lkV (l.map (pv π)) w=(lkV l w).map (Vl.mp π)
 |[]=>rfl
 |p::l=>by rw[aC,lkV,lkV,Dz w l];show(if p.1=w then some (p.2.mp π)else _)=_;split<;>rfl
theorem Ha (l:List (Str×Vl)):(l.map (pv π)).map Prod.fst=l.map Prod.fst:=by rw[bG];rfl
end
def Sub {α:Type} (l:List α) (p:Nat) (L:List α):Prop:=∀(j:Nat) (x:α),l[j]?=some x->L[p+j]?=some x
theorem Sub.cons {α:Type} {x:α} {l L:List α} {p:Nat} (h:Sub (x::l) p L):L[p]?=some x/\Sub l (p+ 1) L:=⟨h 0 x rfl,fun j y e=>by rw[show p+ 1+j=p+(j+ 1) by lia];exact h (j+ 1) y e⟩
theorem Sub.app {α:Type} {a b L:List α} {p:Nat} (h:Sub (a++b) p L):Sub a p L/\Sub b (p+a.length) L:=⟨fun j y e=>h j y (by rw[aN (au.mp e).1];exact e),fun j y e=>by rw[dm];exact h (a.length+j) y (by rw[aM (c9 _ _),dz];exact e)⟩
def Kx.hk:Kx->Option Hm
 | .nam _ k _=>some ((("def":Str),(k:Int)):Hm)
 |_=>none
def lfH (i:Nat):Nat->List Int->Nat->List (Option Hm)
 |_,[],_=>[]
 |j,_::ms,q=>(if j=i then some ((("arm":Str),(q:Int)):Hm)else none)::lfH i (j+ 1) ms (q+ 1)
def Kx.lh' (q:Nat):Kx->List (Option Hm)
 | .case _ _ ms i=>lfH i 0 ms q
 |_=>[]
mutual
def Xt.hl:Xt->Nat->List (Option Hm)
 | .mk _ κ ks,p=>κ.hk::(hlX ks (p+ 1)++κ.lh' (p+ 1+(msX ks).length))
def hlX:List Xt->Nat->List (Option Hm)
 |[],_=>[]
 |t::ts,p=>t.hl p++hlX ts (p+t.ms.length)
end
theorem Bs (i:Nat):∀(j:Nat) (ms:List Int) (q:Nat),(lfH i j ms q).length=ms.length
 |_,[],_=>rfl
 |j,m::ms,q=>congrArg (·+ 1) (Bs i (j+ 1) ms (q+ 1))
theorem Hb (κ:Kx) (q:Nat):(κ.lh' q).length=κ.lm.length:=by
 cases κ with
 |case l h ms i=>exact Bs i 0 ms q
 |_=>rfl
mutual
theorem Xt.hl_len:∀(t:Xt) (p:Nat),(t.hl p).length=t.ms.length
 | .mk m κ ks,p=>by rw[Xt.hl,Xt.ms,aA,aA,aR,aR,kU ks,Hb]
theorem kU:∀(ts:List Xt) (p:Nat),(hlX ts p).length=(msX ts).length
 |[],_=>by rw[hlX,msX];rfl
 |t::ts,p=>by rw[hlX,msX,aR,aR,Xt.hl_len t,kU ts]
end
def wq (l:List (Option Hm)) (p:Nat) (ho:Nat->Option Hm):Prop:=∀(j:Nat) (h:Hm),l[j]?=some (some h)->ho (p+j)=some h
theorem wq.cons {x:Option Hm} {l:List (Option Hm)} {ho:Nat->Option Hm} {p:Nat} (h:wq (x::l) p ho):(∀y,x=some y->ho p=some y)/\wq l (p+ 1) ho:=⟨fun y e=>h 0 y (by rw[e];rfl),fun j y e=>by rw[show p+ 1+j=p+(j+ 1) by lia];exact h (j+ 1) y e⟩
theorem wq.app {a b:List (Option Hm)} {ho:Nat->Option Hm} {p:Nat} (h:wq (a++b) p ho):wq a p ho/\wq b (p+a.length) ho:=⟨fun j y e=>h j y (by rw[aN (au.mp e).1];exact e),fun j y e=>by rw[dm];exact h (a.length+j) y (by rw[aM (c9 _ _),dz];exact e)⟩
theorem DA (h:Str) (i:Nat):∀{ms:List Int} {j k:Nat},k<ms.length->j+k=i->(lfR h i j ms)[k]?=some (.name h)
 |_::ms,j,0,_,e=>by rw[lfR,gU (show j=i from e)];rfl
 |_::ms,j,k+ 1,hk,e=>by rw[lfR];exact DA h i (dA hk) (by lia)
theorem DB (i:Nat):∀{ms:List Int} {j k q:Nat},k<ms.length->j+k=i->(lfH i j ms q)[k]?=some (some ((("arm":Str),((q+k:Nat):Int)):Hm))
 |_::ms,j,0,q,_,e=>by rw[lfH,gU (show j=i from e)];rfl
 |_::ms,j,k+ 1,q,hk,e=>by rw[lfH,show q+(k+ 1)=q+ 1+k by lia];exact DB i (dA hk) (by lia)
theorem DC {h t:Str}:∀{l:Zd} {q i:Nat},l.Nodup->l[i]?=some t->lkI (xq h l q) t=some ((q+i:Nat):Int)
 |x::l,q,0,_,e=>by cases e;rw[xq,lkI,gU rfl];rfl
 |x::l,q,i+ 1,nd,e=>by have nd:=aF.mp nd;have e:l[i]?=some t:=e;rw[xq,lkI,gN (fun z=>nd.1 (by rw[show x=t from z];exact aQ e)),DC nd.2 e,show q+ 1+i=q+(i+ 1) by lia]
theorem wm_k {ws:Zd} {vs us:List Vl} {κ:Kx} {π:Int->Int} {hm:Option Hm} {m:Int} {p q:Nat} {ps:List Nat} {sc:Ev} {s:Ms} (ok:κ.ok ws vs us) (hc:∀l h ms i,κ≠ .case l h ms i) (hp:ps.length=us.length) (hh:∀y,κ.hk=some y->hm=some y) (hd:s.de=vs.map (Vl.mp π)) (e:π m=(p:Int)):
  Wm hm (p:Int) sc s (κ.r ps q) (us.map (Vl.mp π)) (sO p ((κ.v m us).mp π) {s with me:=((κ.m m us).map (p3 π)).reverse++s.me}):=by
 cases κ with
 |num n=>obtain⟨rfl,_⟩:=ok;show Wm hm p sc s (.num n) [] (sO p ((Vl.num n m).mp π) s);rw[Vl.mp,e];exact .num
 |nam w k v=>obtain⟨rfl,h2,h3⟩:=ok;exact .nameD (hh _ rfl) (by rw[hd,aO,h3];rfl)
 |rcd l=>obtain⟨h1,_⟩:=ok;have z:(l.zip (ps.map fun k:Nat=>(k:Int))).map Prod.fst=l:=cw (by rw[aD,hp,h1];exact cW _);show Wm hm p sc s (.rcd _) _ (sO p ((Vl.rcd (fdO (l.zip us)) m).mp π) s);rw[Vl.mp,e,Dx,Dy];have:=Wm.rcd (hm:=hm) (p:=p) (sc:=sc) (s:=s) (l:=l.zip (ps.map fun k:Nat=>(k:Int))) (vs:=us.map (Vl.mp π)) (by rw[b9,aD,aD];lia);rw[z]at this;exact this
 |tag w=>obtain⟨⟨a,rfl⟩,_⟩:=ok;show Wm hm p sc s (.tag w _) [a.mp π] (sO p ((Vl.tag w a m).mp π) s);rw[Vl.mp,e];exact .tag
 |get w=>
  obtain⟨⟨a,q',v,rfl,h1,h2,h3⟩,_⟩:=ok;have z:(Kx.get w).v m [.rcd a q']=v:=by show(lkV (fdL a) w).getD _=_;rw[h1];rfl
  rw[z];have mr:(Vl.rcd a q').mp π= .rcd (a.mp π) (π q'):=by rw[Vl.mp]
  show Wm hm p sc s (.get _ w) [(Vl.rcd a q').mp π] (sO p (v.mp π) {s with me:=(π q',π m,0)::s.me});rw[e,mr];exact .get (l:=a.mp π) (q:=π q') (by rw[vT,Dz,h1];rfl) (by rw[vT,Ha];exact h2) (by rw[vT,aD];lia)
 |case l h ms i=>exact absurd rfl (hc l h ms i)
def qm (s:Ms) (π:Int->Int) (me:List (Int×Int×Int)) (ha:List (Int×Int)) (r:List Stp) (rd:List Vl):Ms:={s with bg:=s.bg+ha.length,me:=(me.map (p3 π)).reverse++s.me,ha:=(ha.map (p2 π)).reverse++s.ha,st:=r,rd:=rd}
theorem Bt {s:Ms} {π:Int->Int} {me me':List (Int×Int×Int)} {ha ha':List (Int×Int)} {r r':List Stp} {rd rd':List Vl}:qm (qm s π me ha r rd) π me' ha' r' rd'=qm s π (me++me') (ha++ha') r' rd':=by unfold qm;simp only[bp,List.reverse_append,bV,dm,aR]
theorem Hc:∀(vs r l:List Vl),tkR vs.length (vs.reverse++r) l=some (vs++l,r):=by
 have go:∀(us r l:List Vl),tkR us.length (us++r) l=some (us.reverse++l,r):=by
  intro us
  induction us with
  |nil=>intro r l;rfl
  |cons u us ih=>intro r l;rw[aA,aV,tkR,ih,bc,bV];rfl
 intro vs r l;have:=go vs.reverse r l;rw[bN,cx]at this;exact this
theorem HM {ks:List Xt} {a:Vl} {p:Nat} (e:ir ks=[a]):kY ks p=[p]:=by
 have l:ks.length=1:=by rw[<-ja,e];rfl
 match ks,l with
 |[t],_=>rfl
theorem CI {ws:Zd} {vs:List Vl} {κ:Kx} {ks:List Xt} (ok:κ.ok ws vs (ir ks)) (p q:Nat):pL (κ.r (kY ks p) q)=(kY ks p).map fun k:Nat=>(k:Int):=by
 have nil:ir ks=[]->ks=[]:=fun e=>bX (by rw[<-ja,e];rfl)
 cases κ with
 |num n=>rw[nil ok.1];rfl
 |nam w k v=>rw[nil ok.1];rfl
 |rcd l=>exact List.map_snd_zip (by rw[aD,nq,<-ja,ok.1];exact cW _)
 |tag w=>obtain⟨a,e⟩:=ok.1;rw[HM e];rfl
 |get w=>obtain⟨a,q,v,e,_⟩:=ok.1;rw[HM e];rfl
 |case l h ms i=>obtain⟨t,v,q,e,_⟩:=ok.1;rw[HM e];rfl
section
variable {ρs:List Ro} {ho:Nat->Option Hm} {tu:Nat} {ws:Zd} {vs:List Vl} {π:Int->Int} {M:List Int}
theorem Jj (hπ:∀(j:Nat) (m:Int),M[j]?=some m->π m=(j:Int)) {m:Int} {κ:Kx} {ks:List Xt} {p:Nat} (ok:κ.ok ws vs (ir ks)) (hw:ρs[p]?=some (κ.r (kY ks (p+ 1)) (p+ 1+(msX ks).length))) (e:π m=(p:Int)) (hr:Sub κ.lr (p+ 1+(msX ks).length) ρs) (hm:Sub κ.lm (p+ 1+(msX ks).length) M) (hk:∀y,κ.hk=some y->ho p=some y) (hh:wq (κ.lh' (p+ 1+(msX ks).length)) (p+ 1+(msX ks).length) ho)
  {s:Ms} {r:List Stp} (h0:s.en=none) (hs:s.st= .par (p:Int) .nil::r) {rd:List Vl} (hrd:s.rd=((ir ks).map (Vl.mp π)).reverse++rd) (hd:s.de=vs.map (Vl.mp π)) (hb:s.bg+(κ.lh (κ.v m (ir ks))).length<=tu) {n:Nat} {s2:Ms}
  (R:sR ρs ho tu n {s with bg:=s.bg+(κ.lh (κ.v m (ir ks))).length,me:=((κ.m m (ir ks)).map (p3 π)).reverse++s.me,ha:=((κ.lh (κ.v m (ir ks))++[(m,(κ.v m (ir ks)).p)]).map (p2 π)).reverse++s.ha,st:=r,rd:=(κ.v m (ir ks)).mp π::rd} s2):sR ρs ho tu (n+ 1+ 3*(κ.lh (κ.v m (ir ks))).length) s s2:=by
 have hf:=CI ok (p+ 1) (p+ 1+(msX ks).length);have lu:(pL (κ.r (kY ks (p+ 1)) (p+ 1+(msX ks).length))).length=((ir ks).map (Vl.mp π)).length:=by rw[hf,aD,nq,aD,ja]
 have tk:tkR (pL (κ.r (kY ks (p+ 1)) (p+ 1+(msX ks).length))).length s.rd []=some ((ir ks).map (Vl.mp π),rd):=by rw[lu,hrd,Hc,aE]
 by_cases hc:∀l h ms i,κ≠ .case l h ms i
 ·have w1:=wm_k (ws:=ws) (vs:=vs) (us:=ir ks) (κ:=κ) (π:=π) (hm:=ho p) (m:=m) (p:=p) (q:=p+ 1+(msX ks).length) (ps:=kY ks (p+ 1)) (sc:= .nil) (s:={s with st:=r,rd:=rd}) ok hc (by rw[nq,ja]) hk hd e;have lz:κ.lh (κ.v m (ir ks))=[]:=by
   cases κ with
   |case l h ms i=>exact absurd rfl (hc l h ms i)
   |_=>rfl
  rw[lz]at R⊢;refine .step h0 (.par hs hw tk w1) ?_;have z:sO p ((κ.v m (ir ks)).mp π) {s with st:=r,rd:=rd,me:=((κ.m m (ir ks)).map (p3 π)).reverse++s.me}={s with bg:=s.bg+([]:List (Int×Int)).length,me:=((κ.m m (ir ks)).map (p3 π)).reverse++s.me,ha:=(([]++[(m,(κ.v m (ir ks)).p)]).map (p2 π)).reverse++s.ha,st:=r,rd:=(κ.v m (ir ks)).mp π::rd}:=by unfold sO;rw[Ji,<-e];rfl
  exact z▸R
 ·obtain⟨l,h,ms,i,rfl⟩:∃l h ms i,κ= .case l h ms i:=Classical.byContradiction fun z=>hc fun l h ms i e=>z ⟨l,h,ms,i,e⟩;obtain⟨⟨t,v,q,ev,et⟩,hl,h6,nd,_⟩:=ok;have il:i<ms.length:=by rw[hl];exact(au.mp et).1
  have rb:=hr i _ (DA h i (j:=0) il (dj _));have mb:=hπ _ _ (hm i _ (bF il));have hb':=hh i _ (DB i (j:=0) (q:=p+ 1+(msX ks).length) il (dj _));have mi:ms.getD i 0=ms[i]:=by rw[bu,bF il];rfl
  rw[ev]at tk;have mt:(Vl.tag t v q).mp π= .tag t (v.mp π) (π q):=by rw[Vl.mp]
  have eb:((p+ 1+(msX ks).length+i:Nat):Int)=π (ms.getD i 0):=by rw[mi,mb]
  have vv:(Kx.case l h ms i).v m (ir ks)=v:=by show(v0 (ir ks)).inn=v;rw[ev];rfl
  have mm:(Kx.case l h ms i).m m (ir ks)=[(q,m,0)]:=by show[((v0 (ir ks)).p,m,0)]=_;rw[ev];rfl
  rw[vv,mm]at R;have w1:=Wm.case (hm:=ho p) (p:=(p:Int)) (sc:= .nil) (s:={s with st:=r,rd:=rd}) (k:=K62.Internal.h0 (kY ks (p+ 1))) (v:=v.mp π) (q:=π q) (DC (h:=h) (q:=p+ 1+(msX ks).length) nd et);rw[<-mt]at w1;have b1:s.bg+ 1<=tu:=by rw[vv]at hb;exact hb
  refine(sR.step h0 (.par hs hw tk w1) (.step h0 (.beg rfl rb b1) (.step h0 (.par rfl rb (rd:=rd) rfl (.nameH hb' (by show("arm":Str)≠"def";decide+kernel) (v:=v.mp π) (gU rfl))) (.step h0 (.hand rfl rfl) ?_)))).le (n:=n+ 1+ 1+ 1+ 1) (by rw[vv];show _<=n+ 1+ 3*1;lia);have z:sO p (v.mp π) {s with bg:=s.bg+ 1,me:=(π q,(p:Int),0)::s.me,ha:=(((p+ 1+(msX ks).length+i:Nat):Int),(v.mp π).p)::s.ha,st:=r,rd:=rd}={s with bg:=s.bg+((Kx.case l h ms i).lh v).length,me:=([(q,m,0)].map (p3 π)).reverse++s.me,ha:=(((Kx.case l h ms i).lh v++[(m,v.p)]).map (p2 π)).reverse++s.ha,st:=r,rd:=v.mp π::rd}:=by unfold sO;rw[Ji,<-e,eb];rfl
  exact z▸R
mutual
theorem Hd (hπ:∀(j:Nat) (m:Int),M[j]?=some m->π m=(j:Int)):
  ∀(t:Xt) (p:Nat),t.ok ws vs->Sub (t.ro p) p ρs->Sub t.ms p M->wq (t.hl p) p ho->∀{s:Ms} {r:List Stp},s.en=none->s.st= .beg (p:Int) .nil::r->s.de=vs.map (Vl.mp π)->s.bg+t.ha.length<=tu->
  ∀{n:Nat} {s2:Ms},sR ρs ho tu n (qm s π t.me t.ha r (t.val.mp π::s.rd)) s2->sR ρs ho tu (n+ 3*t.ha.length) s s2
 | .mk m κ ks,p,ok,hr,hm,hh,s,r,h0,hs,hd,hb,n,s2,R=>by
  rw[Xt.ok]at ok;rw[Xt.ro]at hr;rw[Xt.ms]at hm;rw[Xt.hl]at hh;rw[Xt.ha,aR,aR,bf]at hb;obtain⟨hw,hr⟩:=Sub.cons hr;obtain⟨hr,hrl⟩:=Sub.app hr;obtain⟨hm0,hm⟩:=Sub.cons hm;obtain⟨hm,hml⟩:=Sub.app hm;obtain⟨hk,hh⟩:=wq.cons hh;obtain⟨hh,hhl⟩:=wq.app hh;rw[iE]at hrl;rw[kU]at hhl;have e:=hπ _ _ hm0;have hf:=CI ok.1 (p+ 1) (p+ 1+(msX ks).length);rw[Xt.me,Xt.ha,Xt.val]at R;rw[Xt.ha,aR,aR,bf];have R1:=Jj (tu:=tu) (s:=qm {s with bg:=s.bg+ 1} π (meX ks) (haX ks) (.par (p:Int) .nil::r) (((ir ks).map (Vl.mp π)).reverse++s.rd)) hπ ok.1 hw e hrl hml hk hhl h0 rfl rfl hd (by show s.bg+ 1+(haX ks).length+_<=_;lia) (n:=n) (s2:=s2) (by
   have z:qm s π (meX ks++κ.m m (ir ks)) (haX ks++κ.lh (κ.v m (ir ks))++[(m,(κ.v m (ir ks)).p)]) r ((κ.v m (ir ks)).mp π::s.rd)={qm {s with bg:=s.bg+ 1} π (meX ks) (haX ks) (.par (p:Int) .nil::r) (((ir ks).map (Vl.mp π)).reverse++s.rd)with bg:=s.bg+ 1+(haX ks).length+(κ.lh (κ.v m (ir ks))).length,me:=((κ.m m (ir ks)).map (p3 π)).reverse++(((meX ks).map (p3 π)).reverse++s.me),ha:=((κ.lh (κ.v m (ir ks))++[(m,(κ.v m (ir ks)).p)]).map (p2 π)).reverse++(((haX ks).map (p2 π)).reverse++s.ha),st:=r,rd:=(κ.v m (ir ks)).mp π::s.rd}:=by unfold qm;simp only[bp,List.reverse_append,bV,aR,bf];rw[show s.bg+((haX ks).length+((κ.lh (κ.v m (ir ks))).length+ 1))=s.bg+ 1+(haX ks).length+(κ.lh (κ.v m (ir ks))).length by lia]
   exact z▸R);have R2:=DD hπ ks (p+ 1) ok.2 hr hm hh (s:={s with bg:=s.bg+ 1,st:=(pL (κ.r (kY ks (p+ 1)) (p+ 1+(msX ks).length))).map (fun k=>Stp.beg k .nil)++ .par (p:Int) .nil::r}) (r:= .par (p:Int) .nil::r) h0 (by rw[hf]) hd (by show s.bg+ 1+_<=_;lia) R1;exact(sR.step h0 (.beg hs hw (by lia)) R2).le (by lia)
theorem DD (hπ:∀(j:Nat) (m:Int),M[j]?=some m->π m=(j:Int)):
  ∀(ts:List Xt) (p:Nat),okL ws vs ts->Sub (i9 ts p) p ρs->Sub (msX ts) p M->wq (hlX ts p) p ho->∀{s:Ms} {r:List Stp},s.en=none->s.st=((kY ts p).map fun k:Nat=>(k:Int)).map (fun k=>Stp.beg k .nil)++r->s.de=vs.map (Vl.mp π)->s.bg+(haX ts).length<=tu->
  ∀{n:Nat} {s2:Ms},sR ρs ho tu n (qm s π (meX ts) (haX ts) r (((ir ts).map (Vl.mp π)).reverse++s.rd)) s2->sR ρs ho tu (n+ 3*(haX ts).length) s s2
 |[],p,ok,hr,hm,hh,s,r,h0,hs,hd,hb,n,s2,R=>by
  rw[meX,haX,ir]at R;rw[haX];have:qm s π [] [] r (([]:List Vl).reverse++s.rd)=s:=by unfold qm;have hs:s.st=r:=hs;rw[<-hs];rfl
  rw[aX,this]at R;exact R
 |t::ts,p,ok,hr,hm,hh,s,r,h0,hs,hd,hb,n,s2,R=>by rw[okL]at ok;rw[i9]at hr;rw[msX]at hm;rw[hlX]at hh;rw[haX,aR]at hb;obtain⟨ra,rb⟩:=Sub.app hr;obtain⟨ma,mb⟩:=Sub.app hm;obtain⟨ka,kb⟩:=wq.app hh;rw[Xt.ro_len]at rb;rw[Xt.hl_len]at kb;rw[haX,aR];rw[meX,haX,ir,aC,bc,bV]at R;have X:=DD hπ ts (p+t.ms.length) ok.2 rb mb kb (s:=qm s π t.me t.ha (((kY ts (p+t.ms.length)).map fun k:Nat=>(k:Int)).map (fun k=>Stp.beg k .nil)++r) (t.val.mp π::s.rd)) (r:=r) h0 rfl hd (by show s.bg+_+_<=_;lia) (n:=n) (s2:=s2) (by rw[Bt];exact R);exact(Hd hπ t p ok.1 ra ma ka h0 hs hd (by lia) X).le (by lia)
end
end
def okX (ws:Zd):List Vl->List Xt->Prop
 |_,[]=>True
 |vs,t::ts=>t.ok ws vs/\okX ws (vs++[t.val]) ts
def dX:List Xt->Nat->Nat->Nat->Nat
 |[],_,d,_=>d
 |t::ts,p,d,q=>if q<p+t.ms.length then d else dX ts (p+t.ms.length) (d+ 1) q
mutual
def Xt.hw:Xt->List (Option Str)
 | .mk _ κ ks=>none::(hwX ks++κ.lm.map fun _=>some κ.hd)
def hwX:List Xt->List (Option Str)
 |[]=>[]
 |t::ts=>t.hw++hwX ts
end
mutual
theorem Xt.hw_len:∀t:Xt,t.hw.length=t.ms.length
 | .mk m κ ks=>by rw[Xt.hw,Xt.ms,aA,aA,aR,aR,lJ ks,aD]
theorem lJ:∀ts:List Xt,(hwX ts).length=(msX ts).length
 |[]=>by rw[hwX,msX];rfl
 |t::ts=>by rw[hwX,msX,aR,aR,Xt.hw_len t,lJ ts]
end
theorem Xt.pos:∀t:Xt,0<t.ms.length
 | .mk m κ ks=>by rw[Xt.ms];exact dB _
theorem Bu:∀{ts:List Xt} {p i r:Nat},(kY ts p)[i]?=some r->∃k,r=p+k/\k<(msX ts).length/\(hwX ts)[k]?=some none
 |[],p,i,r,h=>by cases h
 | .mk m κ ks::ts,p,0,r,h=>by cases h;have:=(Xt.mk m κ ks).pos;refine⟨0,rfl,by rw[msX,aR];lia,by rw[hwX,Xt.hw];rfl⟩
 |t::ts,p,i+ 1,r,h=>by obtain⟨k,rfl,h1,h2⟩:=Bu (show(kY ts (p+t.ms.length))[i]?=some r from h);refine⟨t.ms.length+k,dm ..,by rw[msX,aR];lia,?_⟩;rw[hwX,aM (by rw[Xt.hw_len];lia),Xt.hw_len,dz];exact h2
theorem Bv (h:Str):∀{l:Zd} {q i:Nat} {a:Str×Str×Int},(xq h l q)[i]?=some a->i<l.length/\a.2=(h,((q+i:Nat):Int))
 |t::l,q,0,a,e=>by cases e;exact⟨dB _,rfl⟩
 |t::l,q,i+ 1,a,e=>by obtain⟨h1,h2⟩:=Bv h (show(xq h l (q+ 1))[i]?=some a from e);exact⟨Nat.succ_lt_succ h1,by rw[h2,show q+ 1+i=q+(i+ 1) by lia]⟩
theorem uk (h:Str):∀(l:Zd) (q:Nat),(xq h l q).length=l.length
 |[],_=>rfl
 |t::l,q=>congrArg (·+ 1) (uk h l (q+ 1))
theorem yI (h:Str):∀(l:Zd) (q:Nat),(xq h l q).map Prod.fst=l
 |[],_=>rfl
 |t::l,q=>congrArg (t::·) (yI h l (q+ 1))
theorem Jk {ws:Zd} {vs:List Vl} {κ:Kx} {ks:List Xt} (ok:κ.ok ws vs (ir ks)) (p q:Nat) {j:Nat} {c:Int} {e:Option (Str×Hm)} (hc:(κ.r (kY ks p) q).pl[j]?=some c) (he:(κ.r (kY ks p) q).ex[j]?=some e):(∃(i r:Nat),(kY ks p)[i]?=some r/\c=(r:Int)/\e=none)\/∃i:Nat,i<κ.lm.length/\c=((q+i:Nat):Int)/\e=some (κ.hd,(("arm":Str),((q+i:Nat):Int))):=by
 have out:∀{l:List Int},(∃g:List (Option (Str×Hm)),g=l.map (fun _=>none)/\g[j]?=some e)->l=(kY ks p).map (fun k:Nat=>(k:Int))->l[j]?=some c->∃(i r:Nat),(kY ks p)[i]?=some r/\c=(r:Int)/\e=none:=fun{l} ⟨g,eg,hg⟩ el h=>by rw[eg,aO,h]at hg;cases hg;rw[el,aO]at h;obtain⟨r,h1,h2⟩:=dI.mp h;exact⟨j,r,h1,h2.symm,rfl⟩
 have f:=CI ok p q
 cases κ with
 |num n=>cases hc
 |nam w k v=>cases hc
 |rcd l=>exact .inl (out ⟨_,rfl,he⟩ f hc)
 |tag w=>exact .inl (out ⟨_,rfl,he⟩ f hc)
 |get w=>exact .inl (out ⟨_,rfl,he⟩ f hc)
 |case l h ms i=>
  cases j with
  |zero=>cases hc;cases he;obtain⟨t,v,q',e,_⟩:=ok.1;rw[HM e];exact .inl ⟨0,p,rfl,rfl,rfl⟩
  |succ j=>have hc:((xq h l q).map fun p=>p.2.2)[j]?=some c:=hc;have he:((xq h l q).map fun p=>(some (p.2.1,(("arm":Str),p.2.2)):Option (Str×Hm)))[j]?=some e:=he;rw[aO]at hc he;obtain⟨a,ha,rfl⟩:=dI.mp hc;rw[ha]at he;cases he;obtain⟨h1,h2⟩:=Bv h ha;refine .inr ⟨j,by show j<ms.length;rw[ok.2.1];exact h1,by rw[h2],?_⟩;show some (a.2.1,(("arm":Str),a.2.2))=_;rw[h2];rfl
theorem r_ok {ws:Zd} {vs:List Vl} {κ:Kx} {ks:List Xt} (ok:κ.ok ws vs (ir ks)) (p q:Nat):(κ.r (kY ks p) q).ok/\(κ.r (kY ks p) q).isF=false/\∀w,κ.r (kY ks p) q= .name w->∃k,ws[k]?=some w/\k<vs.length/\κ.hk=some ((("def":Str),(k:Int)):Hm):=by
 cases κ with
 |num n=>exact⟨trivial,rfl,fun w e=>nomatch e⟩
 |nam w k v=>exact⟨trivial,rfl,fun w' e=>by cases e;exact⟨k,ok.2.1,(au.mp ok.2.2).1,rfl⟩⟩
 |rcd l=>
  refine⟨⟨?_,?_⟩,rfl,fun w e=>nomatch e⟩;·rw[b9];have:=ok.2.1;lia
  ·rw[cw (by rw[aD,nq,<-ja,ok.1];exact cW _)];exact ok.2.2.1
 |tag w=>exact⟨trivial,rfl,fun w e=>nomatch e⟩
 |get w=>exact⟨trivial,rfl,fun w e=>nomatch e⟩
 |case l h ms i=>exact⟨⟨by rw[uk];have:=ok.2.2.1;lia,by rw[yI];exact ok.2.2.2.1⟩,rfl,fun w e=>nomatch e⟩
theorem DE (h:Str) (i:Nat):∀{ms:List Int} {j k q:Nat} {ρ:Ro},(lfR h i j ms)[k]?=some ρ->ρ.ok/\ρ.isF=false/\ρ.pl=[]/\∀w,ρ= .name w->w=h/\(lfH i j ms q)[k]?=some (some ((("arm":Str),((q+k:Nat):Int)):Hm))
 |m::ms,j,0,q,ρ,e=>by
  rw[lfR]at e;by_cases z:j=i;·rw[gU z]at e;cases e;exact⟨trivial,rfl,rfl,fun w e=>by cases e;exact⟨rfl,by rw[lfH,gU z];rfl⟩⟩
  ·rw[gN z]at e;cases e;exact⟨trivial,rfl,rfl,fun w e=>nomatch e⟩
 |m::ms,j,k+ 1,q,ρ,e=>by obtain⟨a,b,c,d⟩:=DE h i (q:=q+ 1) (show(lfR h i (j+ 1) ms)[k]?=some ρ from e);refine⟨a,b,c,fun w e=>⟨(d w e).1,?_⟩⟩;rw[lfH,show q+(k+ 1)=q+ 1+k by lia];exact(d w e).2
 |[],_,_,_,_,e=>by cases e
structure Pl (ws:Zd) (n p:Nat) (hl:List (Option Hm)) (hw:List (Option Str)) (j:Nat) (ρ:Ro) (len:Nat):Prop where
 ok:ρ.ok
 f:ρ.isF=false
 nm:∀w,ρ= .name w->(hw[j]?=some none/\∃k,ws[k]?=some w/\k<n/\hl[j]?=some (some ((("def":Str),(k:Int)):Hm)))\/(hw[j]?=some (some w)/\hl[j]?=some (some ((("arm":Str),((p+j:Nat):Int)):Hm)))
 kid:∀(i:Nat) (c:Int) (e:Option (Str×Hm)),ρ.pl[i]?=some c->ρ.ex[i]?=some e->hw[j]?=some none/\∃k,c=((p+k:Nat):Int)/\j<k/\k<len/\((e=none/\hw[k]?=some none)\/∃h,e=some (h,(("arm":Str),((p+k:Nat):Int)))/\hw[k]?=some (some h))
theorem Pl.shift {ws:Zd} {n p d len len':Nat} {hl a b:List (Option Hm)} {hw u v:List (Option Str)} {j:Nat} {ρ:Ro} (h:Pl ws n (p+d) hl hw j ρ len) (ha:a.length=d) (hu:u.length=d) (lh:hl.length=len) (lw:hw.length=len) (hj:j<len) (hn:d+len<=len'):Pl ws n p (a++hl++b) (u++hw++v) (d+j) ρ len':=by
 have g1:∀{k:Nat},k<len->(a++hl++b)[d+k]?=hl[k]?:=fun{k} hk=>by rw[bV,aM (by lia),ha,dz,aN (by lia)]
 have g2:∀{k:Nat},k<len->(u++hw++v)[d+k]?=hw[k]?:=fun{k} hk=>by rw[bV,aM (by lia),hu,dz,aN (by lia)]
 obtain⟨h1,h2,h3,h4⟩:=h;refine⟨h1,h2,fun w e=>?_,fun i c e hc he=>?_⟩;·rw[g1 hj,g2 hj,<-dm];exact h3 w e
 ·obtain⟨w,k,e1,k1,k2,k3⟩:=h4 i c e hc he;refine⟨by rw[g2 hj];exact w,d+k,by rw[<-dm];exact e1,by lia,by lia,?_⟩;rw[g2 k2,<-dm];exact k3
mutual
theorem Xt.at {ws:Zd} {vs:List Vl}:∀(t:Xt) (p:Nat),t.ok ws vs->∀{j:Nat} {ρ:Ro},(t.ro p)[j]?=some ρ->Pl ws vs.length p (t.hl p) t.hw j ρ t.ms.length
 | .mk m κ ks,p,ok,j,ρ,h=>by
  rw[Xt.ok]at ok;rw[Xt.ro]at h;rw[Xt.hl,Xt.hw,Xt.ms,aA,aR]
  cases j with
  |zero=>
   cases h;obtain⟨h1,h2,h3⟩:=r_ok ok.1 (p+ 1) (p+ 1+(msX ks).length);refine⟨h1,h2,fun w e=> .inl ⟨rfl,?_⟩,fun i c e hc he=>⟨rfl,?_⟩⟩;·obtain⟨k,a,b,c⟩:=h3 w e;exact⟨k,a,b,by rw[c];rfl⟩
   ·rcases Jk ok.1 _ _ hc he with⟨i,r,h1,h2,rfl⟩|⟨i,h1,h2,rfl⟩;·obtain⟨k,rfl,k1,k2⟩:=Bu h1;exact⟨1+k,by rw[h2,dm],by lia,by lia,.inl ⟨rfl,by rw[dC 1 k,bJ,aN (by rw[lJ];exact k1)];exact k2⟩⟩
    ·refine⟨(msX ks).length+i+ 1,by rw[h2,show p+ 1+(msX ks).length+i=p+((msX ks).length+i+ 1) by lia],by lia,by lia,.inr ⟨κ.hd,by rw[show p+ 1+(msX ks).length+i=p+((msX ks).length+i+ 1) by lia],?_⟩⟩;rw[bJ,aM (by rw[lJ];lia),lJ,dz,aO,bF h1];rfl
  |succ j=>
   have h:(i9 ks (p+ 1)++κ.lr)[j]?=some ρ:=h;by_cases z:j<(msX ks).length;·rw[aN (by rw[iE];exact z)]at h;have k:=(atL ks (p+ 1) ok.2 h).shift (a:=[κ.hk]) (u:=[none]) (b:=κ.lh' (p+ 1+(msX ks).length)) (v:=κ.lm.map fun _=>some κ.hd) (len':=(msX ks).length+κ.lm.length+ 1) rfl rfl (kU _ _) (lJ _) z (by lia);rw[dC 1 j]at k;exact k
   ·rw[aM (by rw[iE];lia),iE]at h
    cases κ with
    |case l hh ms i=>
     obtain⟨a,b,c,d⟩:=DE hh i (q:=p+ 1+(msX ks).length) (show(lfR hh i 0 ms)[j-(msX ks).length]?=some ρ from h);have jl:j-(msX ks).length<ms.length:=by have:=(au.mp (show(lfR hh i 0 ms)[j-(msX ks).length]?=some ρ from h)).1;rw[xr]at this;exact this
     refine⟨a,b,fun w e=> .inr ⟨?_,?_⟩,fun i c' e hc=>by rw[c]at hc;cases hc⟩;·rw[(d w e).1,bJ,aM (by rw[lJ];lia),lJ,aO,bF (show j-(msX ks).length<(Kx.case l hh ms i).lm.length from jl)];rfl
     ·rw[bJ,aM (by rw[kU];lia),kU];refine(d w e).2.trans ?_;rw[show p+ 1+(msX ks).length+(j-(msX ks).length)=p+(j+ 1) by lia]
    |_=>cases h
theorem atL {ws:Zd} {vs:List Vl}:∀(ts:List Xt) (p:Nat),okL ws vs ts->∀{j:Nat} {ρ:Ro},(i9 ts p)[j]?=some ρ->Pl ws vs.length p (hlX ts p) (hwX ts) j ρ (msX ts).length
 |[],p,_,j,ρ,h=>by rw[i9]at h;cases h
 |t::ts,p,ok,j,ρ,h=>by
  rw[okL]at ok;rw[i9]at h;rw[hlX,hwX,msX,aR];by_cases z:j<t.ms.length;·rw[aN (by rw[Xt.ro_len];exact z)]at h;have k:=(Xt.at t p ok.1 h).shift (d:=0) (a:=[]) (u:=[]) (b:=hlX ts (p+t.ms.length)) (v:=hwX ts) (len':=t.ms.length+(msX ts).length) rfl rfl (Xt.hl_len _ _) (Xt.hw_len _) z (by lia);rw[dj]at k;exact k
  ·rw[aM (by rw[Xt.ro_len];lia),Xt.ro_len]at h;have k:=(atL ts (p+t.ms.length) ok.2 h).shift (a:=t.hl p) (u:=t.hw) (b:=[]) (v:=[]) (len':=t.ms.length+(msX ts).length) (Xt.hl_len _ _) (Xt.hw_len _) (kU _ _) (lJ _) (by have:=(au.mp h).1;rw[iE]at this;exact this) (by lia);rw[aE,aE,show t.ms.length+(j-t.ms.length)=j by lia]at k;exact k
end
theorem pl_k {ws:Zd} {vs:List Vl} {κ:Kx} {ks:List Xt} (ok:κ.ok ws vs (ir ks)) (p q:Nat):(∀{r:Nat},r∈kY ks p->(r:Int)∈(κ.r (kY ks p) q).pl)/\∀{i:Nat},i<κ.lm.length->((q+i:Nat):Int)∈(κ.r (kY ks p) q).pl:=by
 have f:=CI ok p q;have go:∀{l:List Int},l=(kY ks p).map (fun k:Nat=>(k:Int))->∀{r:Nat},r∈kY ks p->(r:Int)∈l:=fun e r h=>by rw[e];exact bh.mpr ⟨r,h,rfl⟩
 cases κ with
 |num n=>exact⟨go f,fun h=>nomatch h⟩
 |nam w k v=>exact⟨go f,fun h=>nomatch h⟩
 |rcd l=>exact⟨go f,fun h=>nomatch h⟩
 |tag w=>exact⟨go f,fun h=>nomatch h⟩
 |get w=>exact⟨go f,fun h=>nomatch h⟩
 |case l h ms i=>
  refine⟨fun hr=>?_,fun{i'} hi=>?_⟩;·exact List.mem_of_mem_head? (by have:=go f hr;rw[show pL ((Kx.case l h ms i).r (kY ks p) q)=[h0 (kY ks p)]from rfl]at this;rw[bo.mp this];rfl)
  ·refine aj _ (bh.mpr ?_);have hi:i'<(xq h l q).length:=by rw[uk,<-ok.2.1];exact hi
   exact⟨_,bL hi,by rw[(Bv h (bF hi)).2]⟩
mutual
theorem Xt.reach {ws:Zd} {vs:List Vl}:∀(t:Xt),t.ok ws vs->∀(p j:Nat),j<t.ms.length->j=0\/∃(j':Nat) (ρ:Ro),j'<j/\(t.ro p)[j']?=some ρ/\((p+j:Nat):Int)∈ρ.pl
 | .mk m κ ks,ok,p,j,h=>by
  rw[Xt.ok]at ok;rw[Xt.ms,aA,aR]at h;rw[Xt.ro];obtain⟨k1,k2⟩:=pl_k ok.1 (p+ 1) (p+ 1+(msX ks).length);match j,h with
  |0,h=>exact .inl rfl
  |j+ 1,h=>
   refine .inr ?_;have e:p+ 1+j=p+(j+ 1):=by lia
   by_cases z:j<(msX ks).length
   ·rcases DF ks ok.2 (p+ 1) j z with⟨i,hi⟩|⟨j',ρ,h1,h2,h3⟩;·rw[e]at hi;exact⟨0,_,dB _,rfl,k1 (aQ hi)⟩
    ·rw[e]at h3;exact⟨j'+ 1,ρ,by lia,by rw[bJ,aN (by rw[iE];lia)];exact h2,h3⟩
   ·refine⟨0,_,dB _,rfl,?_⟩;have:=k2 (i:=j-(msX ks).length) (by lia);rw[show p+ 1+(msX ks).length+(j-(msX ks).length)=p+(j+ 1) by lia]at this;exact this
theorem DF {ws:Zd} {vs:List Vl}:∀(ts:List Xt),okL ws vs ts->∀(p j:Nat),j<(msX ts).length->(∃i:Nat,(kY ts p)[i]?=some (p+j))\/∃(j':Nat) (ρ:Ro),j'<j/\(i9 ts p)[j']?=some ρ/\((p+j:Nat):Int)∈ρ.pl
 |[],_,p,j,h=>by rw[msX]at h;cases h
 |t::ts,ok,p,j,h=>by
  rw[okL]at ok;rw[msX,aR]at h;rw[i9];by_cases z:j<t.ms.length
  ·rcases Xt.reach t ok.1 p j z with rfl|⟨j',ρ,h1,h2,h3⟩;·exact .inl ⟨0,rfl⟩
   ·exact .inr ⟨j',ρ,h1,by rw[aN (by rw[Xt.ro_len];lia)];exact h2,h3⟩
  ·have e:p+t.ms.length+(j-t.ms.length)=p+j:=by lia
   rcases DF ts ok.2 (p+t.ms.length) (j-t.ms.length) (by lia)with⟨i,hi⟩|⟨j',ρ,h1,h2,h3⟩;·rw[e]at hi;exact .inl ⟨i+ 1,hi⟩
   ·rw[e]at h3;exact .inr ⟨t.ms.length+j',ρ,by lia,by rw[aM (by rw[Xt.ro_len];lia),Xt.ro_len,dz];exact h2,h3⟩
end
theorem DG {ws:Zd}:∀{ts:List Xt} {vs:List Vl} {p j:Nat},okX ws vs ts->j<(msX ts).length->(∃i:Nat,(kY ts p)[i]?=some (p+j))\/∃(j':Nat) (ρ:Ro),j'<j/\(i9 ts p)[j']?=some ρ/\((p+j:Nat):Int)∈ρ.pl
 |[],vs,p,j,_,h=>by rw[msX]at h;cases h
 |t::ts,vs,p,j,ok,h=>by
  rw[msX,aR]at h;rw[i9];by_cases z:j<t.ms.length
  ·rcases t.reach ok.1 p j z with rfl|⟨j',ρ,h1,h2,h3⟩;·exact .inl ⟨0,rfl⟩
   ·exact .inr ⟨j',ρ,h1,by rw[aN (by rw[Xt.ro_len];lia)];exact h2,h3⟩
  ·have e:p+t.ms.length+(j-t.ms.length)=p+j:=by lia
   rcases DG (ts:=ts) (p:=p+t.ms.length) (j:=j-t.ms.length) ok.2 (by lia)with⟨i,hi⟩|⟨j',ρ,h1,h2,h3⟩;·rw[e]at hi;exact .inl ⟨i+ 1,hi⟩
   ·rw[e]at h3;exact .inr ⟨t.ms.length+j',ρ,by lia,by rw[aM (by rw[Xt.ro_len];lia),Xt.ro_len,dz];exact h2,h3⟩
theorem DH (ρ:Ro):ρ.ex.length=ρ.pl.length:=by
 cases ρ with
 |case k l=>show(none::l.map _).length=(k::l.map _).length;rw[aA,aA,aD,aD]
 |fn w k=>rfl
 |lt w a b=>rfl
 |_=>exact aD ..
theorem um {ws:Zd}:∀{ts:List Xt} {vs:List Vl} {p:Nat},okX ws vs ts->∀{j:Nat} {ρ:Ro},(i9 ts p)[j]?=some ρ->Pl ws (dX ts p vs.length (p+j)) p (hlX ts p) (hwX ts) j ρ (msX ts).length/\∀c∈ρ.pl,∀m:Nat,c=(m:Int)->dX ts p vs.length m=dX ts p vs.length (p+j)
 |[],vs,p,_,j,ρ,h=>by rw[i9]at h;cases h
 |t::ts,vs,p,ok,j,ρ,h=>by
  rw[i9]at h;rw[hlX,hwX,msX,aR];by_cases z:j<t.ms.length;·rw[aN (by rw[Xt.ro_len];exact z)]at h;have A:=t.at p ok.1 h;have k:=A.shift (d:=0) (a:=[]) (u:=[]) (b:=hlX ts (p+t.ms.length)) (v:=hwX ts) (len':=t.ms.length+(msX ts).length) rfl rfl (Xt.hl_len _ _) (Xt.hw_len _) z (by lia);rw[dj]at k;refine⟨by rw[dX,gU (by lia)];exact k,fun c hc m e=>?_⟩;obtain⟨i,hi⟩:=cy hc;have hx:∃e,ρ.ex[i]?=some e:=⟨_,bF (by have:=(au.mp hi).1;rw[DH];exact this)⟩;obtain⟨e',he⟩:=hx;obtain⟨_,k,e1,k1,k2,_⟩:=A.kid i c e' hi he;rw[dX,dX,gU (by lia),gU (by lia)]
  ·rw[aM (by rw[Xt.ro_len];lia),Xt.ro_len]at h;have e:p+t.ms.length+(j-t.ms.length)=p+j:=by lia
   obtain⟨A,B⟩:=um ok.2 h;rw[e,aR,bf]at A B;have k:=A.shift (a:=t.hl p) (u:=t.hw) (b:=[]) (v:=[]) (len':=t.ms.length+(msX ts).length) (Xt.hl_len _ _) (Xt.hw_len _) (kU _ _) (lJ _) (by have:=(au.mp h).1;rw[iE]at this;exact this) (by lia);rw[aE,aE,show t.ms.length+(j-t.ms.length)=j by lia]at k;refine⟨by rw[dX,gN (by lia)];exact k,fun c hc m e=>?_⟩;obtain⟨i,hi⟩:=cy hc;have hx:∃e,ρ.ex[i]?=some e:=⟨_,bF (by have:=(au.mp hi).1;rw[DH];exact this)⟩;obtain⟨e',he⟩:=hx;obtain⟨_,k,e1,k1,k2,_⟩:=A.kid i c e' hi he;rw[dX,dX,gN (by lia),gN (by lia)];exact B c hc m e
theorem xw:∀{ts:List Xt} {p d i r:Nat},(kY ts p)[i]?=some r->p<=r/\r<p+(msX ts).length/\dX ts p d r=d+i
 |[],p,d,i,r,h=>by cases h
 |t::ts,p,d,0,r,h=>by cases h;have:=t.pos;rw[msX,aR];exact⟨cW _,by lia,by rw[dX,gU (by lia)];rfl⟩
 |t::ts,p,d,i+ 1,r,h=>by obtain⟨h1,h2,h3⟩:=xw (d:=d+ 1) (show(kY ts (p+t.ms.length))[i]?=some r from h);rw[msX,aR];exact⟨by lia,by lia,by rw[dX,gN (by lia),h3];lia⟩
theorem He {ns:Zd} (hn:ns.Nodup):∀{d k:Nat} {w:Str},ns[k]?=some w->k<d->G0 ns d w=some ((("def":Str),(k:Int)):Hm)
 |0,k,w,_,h=>absurd h (dt _)
 |d+ 1,k,w,e,h=>by
  rw[G0];have hk:=(au.mp e).1;by_cases z:k=d;·subst z;rw[e];exact gU rfl
  ·have ih:=He hn e (show k<d by lia)
   cases ed:ns[d]? with
   |none=>exact ih
   |some x=>refine(gN fun c=>z ?_).trans ih;rw[c]at e;exact(cz hk hn).mp (e.trans ed.symm)
theorem Hf:∀{ts:List Xt} {p d q:Nat},q<p+(msX ts).length->p<=q->dX ts p d q<d+ts.length
 |[],p,d,q,h,h'=>by rw[msX]at h;have h:q<p+ 0:=h;lia
 |t::ts,p,d,q,h,h'=>by
  rw[msX,aR]at h;rw[dX,aA];split;·lia
  ·have:=Hf (ts:=ts) (p:=p+t.ms.length) (d:=d+ 1) (q:=q) (by lia) (by lia);lia
section
variable {ws:Zd} {ts:List Xt}
def Hg (hw:List (Option Str)) (q:Nat):Option (Str×Hm):=(hw[q]?.getD none).map fun h=>(h,(("arm":Str),(q:Int)))
def DI (ws:Zd) (ts:List Xt):Nat->Str->Option Hm:=fun q=>exG (G0 (ws.take ts.length) (dX ts 0 0 q)) (Hg (hwX ts) q)
theorem E3 {k:Nat} {w:Str} (e:ws[k]?=some w) (h:k<ts.length):(ws.take ts.length)[k]?=some w:=by rw[cA,gU h];exact e
theorem uo {hw:List (Option Str)} {q:Nat} (h:hw[q]?=some none):Hg hw q=none:=by unfold Hg;rw[h];rfl
theorem Bw {hw:List (Option Str)} {q:Nat} {x:Str} (h:hw[q]?=some (some x)):Hg hw q=some (x,(("arm":Str),(q:Int))):=by unfold Hg;rw[h];rfl
theorem DJ (hn:ws.Nodup) (ok:okX ws [] ts) {k:Nat} {x:Str} (hk:(i9 ts 0)[k]?=some (.name x)):∃h,(hlX ts 0)[k]?=some (some h)/\DI ws ts k x=some h:=by
 have hN:(ws.take ts.length).Nodup:=hn.sublist (aP _ _);have A:=(um (p:=0) (vs:=[]) ok hk).1;have hkl:=(au.mp hk).1;rw[iE]at hkl;have:=Hf (ts:=ts) (p:=0) (d:=0) (q:=k) (by lia) (cX _);rcases A.nm x rfl with⟨h1,i,e,hi,h2⟩|⟨h1,h2⟩;·rw[dj]at hi;have hi:i<dX ts 0 0 k:=hi;exact⟨_,h2,by unfold DI;rw[uo h1];exact He hN (E3 e (by lia)) hi⟩
 ·rw[dj]at h2;exact⟨_,h2,by unfold DI;rw[Bw h1];exact gU rfl⟩
theorem Hh (hn:ws.Nodup) (hl:ts.length<=12) (hw:ts.length<=ws.length) (ok:okX ws [] ts) (hz:(msX ts).length<=160):IU (ws.take ts.length) (kY ts 0) (i9 ts 0) (DI ws ts):=by
 have hN:(ws.take ts.length).Nodup:=hn.sublist (aP _ _);have lt:(ws.take ts.length).length=ts.length:=by rw[aK];lia
 have at':∀{j:Nat} {ρ:Ro},(i9 ts 0)[j]?=some ρ->_:=fun{j ρ} h=>um (p:=0) (vs:=[]) ok h;refine⟨hN,by lia,by rw[nq,lt],fun ρ hρ=>?_,by rw[iE];lia,fun i r h=>?_,fun i r ρ h hr=>?_,fun k ρ j c e hk hc he=>?_,fun k hk=>?_,fun k x hk=>?_⟩;·obtain⟨j,hj⟩:=cy hρ;exact(at' hj).1.ok
 ·rw[iE];have:=(xw (d:=0) h).2.1;lia
 ·obtain⟨k,e,_,h2⟩:=Bu h;rw[dj]at e;subst e;rw[(at' hr).1.f,gN fu,DI,(xw h).2.2,dj,uo h2];rfl
 ·obtain⟨A,B⟩:=at' hk;obtain⟨h1,m,e1,g1,g2,g3⟩:=A.kid j c e hc he;have dd:=B c (aQ hc) (0+m) e1;rw[dj]at e1 dd;rw[dj]at dd;have dd:dX ts 0 0 m=dX ts 0 0 k:=dd;refine⟨m,e1,g1,?_⟩;unfold DI;rw[uo h1,dd];rcases g3 with⟨rfl,g3⟩|⟨h,rfl,g3⟩;·rw[uo g3];rfl
  ·rw[Bw g3,dj];rfl
 ·rw[iE]at hk;rcases DG (p:=0) (vs:=[]) ok hk with⟨i,h⟩|⟨j',ρ,h1,h2,h3⟩;·rw[dj]at h;exact .inl ⟨i,h⟩
  ·rw[dj]at h3;exact .inr ⟨j',ρ,h1,h2,h3⟩
 ·obtain⟨h,_,e⟩:=DJ hn ok hk;exact⟨h,e⟩
end
theorem JT {ρs:List Ro} {ho:Nat->Option Hm} {tu:Nat} {ws:Zd} {π:Int->Int} {M:List Int} (hπ:∀(j:Nat) (m:Int),M[j]?=some m->π m=(j:Int)):
  ∀(ts:List Xt) (vs:List Vl) (p:Nat),okX ws vs ts->Sub (i9 ts p) p ρs->Sub (msX ts) p M->wq (hlX ts p) p ho->
  ∀s:Ms,s.en=none->s.st=[]->s.rd=[]->s.de=vs.map (Vl.mp π)->s.bg+(haX ts).length<=tu->
  vS ρs ho tu (3*(haX ts).length+ 3*ts.length) (kY ts p) s {qm s π (meX ts) (haX ts) [] []with en:=some "done",de:=(vs++ir ts).map (Vl.mp π)}
 |[],vs,p,_,_,_,_,s,h0,h1,h2,h3,_=>by
  rw[ir,meX,haX];have:({qm s π [] [] [] []with en:=some ("done":Str),de:=(vs++[]).map (Vl.mp π)}:Ms)={s with en:=some "done"}:=by unfold qm;rw[aE,<-h1,<-h2,<-h3];rfl
  rw[this];exact .done
 |t::ts,vs,p,ok,hr,hm,hh,s,h0,h1,h2,h3,hb=>by
  rw[i9]at hr;rw[msX]at hm;rw[hlX]at hh;rw[haX,aR]at hb;obtain⟨ra,rb⟩:=Sub.app hr;obtain⟨ma,mb⟩:=Sub.app hm;obtain⟨ka,kb⟩:=wq.app hh;rw[Xt.ro_len]at rb;rw[Xt.hl_len]at kb;have X:=Hd (ρs:=ρs) (ho:=ho) (tu:=tu) hπ t p ok.1 ra ma ka (s:={s with st:= .beg (p:Int) .nil::s.st}) (r:=s.st) h0 rfl h3 (by show s.bg+_<=_;lia) (n:=0) (.stop (.inr (show(qm _ π _ _ s.st _).st=[]from h1)));have I:=JT (ρs:=ρs) (ho:=ho) (tu:=tu) (ws:=ws) hπ ts (vs++[t.val]) (p+t.ms.length) ok.2 rb mb kb {qm s π t.me t.ha s.st s.rd with de:=s.de++[t.val.mp π]} h0 h1 h2 (by show s.de++_=_;rw[h3,bp];rfl) (by show s.bg+_+_<=_;lia);rw[meX,haX,ir,aR,aA];have z:({qm {qm s π t.me t.ha s.st s.rd with de:=s.de++[t.val.mp π]} π (meX ts) (haX ts) [] []with en:=some ("done":Str),de:=(vs++[t.val]++ir ts).map (Vl.mp π)}:Ms)={qm s π (t.me++meX ts) (t.ha++haX ts) [] []with en:=some "done",de:=(vs++t.val::ir ts).map (Vl.mp π)}:=by rw[<-Bt (r:=s.st) (rd:=s.rd),bV];rfl
  rw[<-z,show 3*(t.ha.length+(haX ts).length)+ 3*(ts.length+ 1)=0+ 3*t.ha.length+(3*(haX ts).length+ 3*ts.length)+ 3 by lia];exact .next X h0 rfl I
open GR.Internal (Op Gp toks isName WOk TAt lO)
theorem uq:∀ts:List Xt,trX ts=ts.map Xt.tr
 |[]=>by rw[trX];rfl
 |t::ts=>by rw[trX,uq ts];rfl
theorem DL:∀l:List (Str×Int),gFs (l.map fdD)=true
 |[]=>rfl
 |k::l=>by rw[aC,gFs,DL l];rfl
theorem DM:∀l:List (Str×Str×Int),gFs (l.map amD)=true
 |[]=>rfl
 |k::l=>by rw[aC,gFs,DM l];rfl
theorem Hj {ρ:Ro} (h:ρ.ok) (n:∀o ks,ρ≠ .op o ks) (n2:∀ks,ρ≠ .row ks):gF ρ.d=true:=by
 cases ρ with
 |rcd l=>
  have o:l.length<=100:=h.1;show gF (.tup [sD "rec",.tup (l.map fdD)])=true;have z:gF (.tup (l.map fdD))=true:=by rw[gF,DL,hI (by rw[aD];lia)];rfl
  rw[gF,gFs,gFs,gFs,z];rfl
 |case k l=>
  have o:l.length<=100:=h.1;show gF (.tup [sD "case",kD k,.tup (l.map amD)])=true;have z:gF (.tup (l.map amD))=true:=by rw[gF,DM,hI (by rw[aD];lia)];rfl
  rw[gF,gFs,gFs,gFs,gFs,z];rfl
 |op o ks=>exact absurd rfl (n o ks)
 |row ks=>exact absurd rfl (n2 ks)
 |_=>rfl
theorem Bx:∀{l:List Ro},(∀ρ∈l,gF ρ.d=true)->gFs (l.map Ro.d)=true
 |[],_=>rfl
 |ρ::l,h=>by rw[aC,gFs,h ρ ah,Bx fun r hr=>h r (aj _ hr)];rfl
def Ro.pln:Ro->Bool
 | .op _ _=>false
 | .row _=>false
 |_=>true
theorem E4 (h:Str) (i:Nat):∀{j:Nat} {ms:List Int},∀ρ∈lfR h i j ms,ρ.pln=true:=fun{j ms}=>by
 induction ms generalizing j with
 |nil=>intro ρ hr;cases hr
 |cons m ms ih=>
  intro ρ hr;rcases ak.mp hr with e|hr;·rw[e];split<;>rfl
  ·exact ih ρ hr
mutual
theorem Xt.pln:∀(t:Xt) (p:Nat),∀ρ∈t.ro p,ρ.pln=true
 | .mk m κ ks,p,ρ,hr=>by
  rw[Xt.ro]at hr;rcases ak.mp hr with rfl|hr;·cases κ<;>rfl
  ·rcases ao.mp hr with hr|hr;·exact Jl ks _ ρ hr
   ·cases κ with
    |case l h ms i=>exact E4 h i ρ hr
    |_=>cases hr
theorem Jl:∀(ts:List Xt) (p:Nat),∀ρ∈i9 ts p,ρ.pln=true
 |[],p,ρ,hr=>by rw[i9]at hr;cases hr
 |t::ts,p,ρ,hr=>by
  rw[i9]at hr;rcases ao.mp hr with hr|hr;·exact Xt.pln t p ρ hr
  ·exact Jl ts _ ρ hr
end
theorem gfX {ws:Zd} (ts:List Xt) (vs:List Vl) (p:Nat) (ok:okX ws vs ts):gFs ((i9 ts p).map Ro.d)=true:=Bx fun ρ hr=>by have h:=Jl ts p ρ hr;obtain⟨j,hj⟩:=cy hr;exact Hj (um ok hj).1.ok (fun o ks e=>by rw[e]at h;cases h) (fun ks e=>by rw[e]at h;cases h)
theorem By {ts us:Zd} (h:∀w∈ts,okW w) (k:∀w∈us,okW w):∀w∈ts++us,okW w:=fun w hw=>(ao.mp hw).elim (h w) (k w)
structure Gt (x:Str) (ts:Zd) (n:Nat):Prop where
 op:Op x ts
 l:x.length+ 1<=100*n
 k:ts.length<=10*n
 o:∀w∈ts,okW w
theorem ur (x:Str):x++""=x:=T1.str_ext (by rw[GR.Internal.app_codes];exact aE _)
def spS:List Str->Str
 |[]=>""
 |x::l=>" "++x++spS l
theorem Bz:∀(l:Zd) (h:Str),Str.join " " (h::l)=h++spS l
 |[],h=>by show h=h++"";exact(ur h).symm
 |x::l,h=>by show h++" "++Str.join " " (x::l)=h++(" "++x++spS l);rw[Bz l x];simp only[GR.Internal.cat_assoc]
theorem E5 (x:Str):("":Str)++x=x:=T1.str_ext (by rw[GR.Internal.app_codes];exact bW _)
theorem xx:∀a b:List Str,spS (a++b)=spS a++spS b
 |[],b=>(E5 _).symm
 |x::a,b=>by rw[aV,spS,spS,xx a b];simp only[GR.Internal.cat_assoc]
structure Gs (xs us:Zd) (n k:Nat):Prop where
 op:∀{x:Str} {ts:Zd},Op x ts->Op (x++spS xs) (ts++us)
 l:(spS xs).length<=n
 k:us.length<=k
 o:∀w∈us,okW w
theorem Gs.nil:Gs [] [] 0 0:=⟨fun{x ts} h=>by rw[aE];show Op (x++"") ts;rw[ur];exact h,cW _,cW _,fun w hw=>nomatch hw⟩
theorem Gs.app {xs us ys vs:Zd} {n k n' k':Nat} (a:Gs xs us n k) (b:Gs ys vs n' k'):Gs (xs++ys) (us++vs) (n+n') (k+k'):=⟨fun{x ts} h=>by rw[xx,<-GR.Internal.cat_assoc,<-bV];exact b.op (a.op h),by rw[xx,Str.length_append];have:=a.l;have:=b.l;lia,by rw[aR];have:=a.k;have:=b.k;lia,By a.o b.o⟩
theorem Gs.one {x:Str} {ts:Zd} {n k:Nat} (g:Op x ts) (hl:x.length+ 1<=n) (hk:ts.length<=k) (ho:∀w∈ts,okW w):Gs [x] ts n k:=⟨fun{y us} h=>by show Op (y++(" "++x++"")) _;rw[ur,<-GR.Internal.cat_assoc];exact h.gap.app_op g,by show(" "++x++"":Str).length<=_;rw[ur,Str.length_append,show(" ":Str).length=1 by decide+kernel];lia,hk,ho⟩
theorem Gs.le {xs us:Zd} {n k n' k':Nat} (g:Gs xs us n k) (h1:n<=n') (h2:k<=k'):Gs xs us n' k':=⟨g.op,cQ g.l h1,cQ g.k h2,g.o⟩
theorem Gs.nm {w:Str} (h:isName w=true):Gs [w] [w] 13 1:=by have g:=xo h;exact .one g.op (by have:=g.ln;lia) (cW _) g.ok
def E6:List Str:=["rec","tag","get","case"]
theorem five:∀o∈E6,yG o/\o.length<=4/\okW o:=fun o h=>by simp only[E6,ak,bI,or_false]at h;rcases h with rfl|rfl|rfl|rfl<;>(refine⟨⟨?_,?_⟩,?_,?_,?_,?_⟩<;>decide+kernel)
theorem BA:okW "("/\okW ")"/\okW "def":=by refine⟨⟨?_,?_,?_⟩,⟨?_,?_,?_⟩,?_,?_,?_⟩<;>decide+kernel
theorem uu {o:Str} {xs us:Zd} {n k m:Nat} (ho:o∈E6) (g:Gs xs us n k) (hn:n+ 8<=100*m) (hk:k+ 3<=10*m):Gt ("("++Str.join " " (o::xs)++")") (("(":Str)::o::(us++[(")":Str)])) m:=by
 obtain⟨o1,o2,o3⟩:=five o ho;have e:("(":Str)++Str.join " " (o::xs)++")"="("++o++spS xs++")":=by rw[Bz];simp only[GR.Internal.cat_assoc]
 have b1:Gp "(" ["("]:=iq;have q:=(g.op (b1.app_op (Op.word o1.1 o1.2))).close.op;have:=g.l;have:=g.k;refine⟨?_,?_,?_,fun w hw=>?_⟩;·rw[e];simpa only[aV,bW,bV]using q
 ·rw[e];simp only[Str.length_append];rw[show("(":Str).length=1 by decide+kernel,show(")":Str).length=1 by decide+kernel];lia
 ·simp only[aA,aR,aW];lia
 ·rcases ak.mp hw with rfl|hw;·exact BA.1
  ·rcases ak.mp hw with rfl|hw;·exact o3
   ·rcases ao.mp hw with hw|hw;·exact g.o w hw
    ·rw[bo.mp hw];exact BA.2.1
theorem BB:∀a b:List TM.Internal.Tr,TM.Internal.tks (a++b)=TM.Internal.tks a++TM.Internal.tks b
 |[],b=>by rw[bW,TM.Internal.tks,bW]
 |t::a,b=>by rw[aV,TM.Internal.tks,TM.Internal.tks,BB a b,aV]
theorem oq:∀{a b:List TM.Internal.Tr},TM.Internal.oks a->TM.Internal.oks b->TM.Internal.oks (a++b)
 |[],b,_,h=>h
 |t::a,b,h,k=>by rw[TM.Internal.oks]at h;rw[aV,TM.Internal.oks];exact⟨h.1,oq h.2 k⟩
theorem xy:∀{ts:List Xt},(∀t∈ts,Gt t.tx t.tr.tk t.ms.length)->Gs (txX ts) (TM.Internal.tks (trX ts)).flatten (100*(msX ts).length) (10*(msX ts).length)
 |[],_=>by rw[txX,trX,msX,TM.Internal.tks];exact .nil
 |t::ts,h=>by have g:=h t ah;rw[txX,trX,msX,TM.Internal.tks,List.flatten_cons,aR];exact((Gs.one g.op g.l g.k g.o).app (xy fun u hu=>h u (aj _ hu))).le (by lia) (by lia)
theorem vU:∀{l:Zd} {ts:List Xt},l.length=ts.length->(∀w∈l,isName w=true)->(∀t∈ts,Gt t.tx t.tr.tk t.ms.length)->Gs (ilv l (txX ts)) (TM.Internal.wv1 l (TM.Internal.tks (trX ts))) (100*(msX ts).length+ 13*l.length) (10*(msX ts).length+l.length)
 |[],[],_,_,_=>by rw[txX,trX,msX,TM.Internal.tks];exact .nil
 |w::l,t::ts,hl,hw,h=>by have g:=h t ah;rw[txX,trX,msX,TM.Internal.tks,ilv,TM.Internal.wv1,aR,aA];have:=(Gs.nm (hw w ah)).app ((Gs.one g.op g.l g.k g.o).app (vU (l:=l) (ts:=ts) (dr.inj hl) (fun x hx=>hw x (aj _ hx)) fun u hu=>h u (aj _ hu)));exact this.le (by lia) (by lia)
theorem Jn {h:Str} (hh:isName h=true) (i j:Nat) (hj:j<10):Gs [lfX h i j] (TM.Internal.Tr.tk (.mk (if j=i then .name h else .num (j:Int)) [])) 62 1/\TM.Internal.Tr.ok (.mk (if j=i then .name h else .num (j:Int)) []):=by
 unfold lfX;rw[TM.Internal.Tr.tk,TM.Internal.Tr.ok,TM.Internal.oks];by_cases z:j=i;·rw[gU z,gU z];exact⟨(Gs.nm hh).le (by lia) (by lia),hh,rfl,trivial⟩
 ·rw[gN z,gN z];have b0:(0:Int)<=(j:Int)/\(j:Int)<10^60:=⟨by lia,by lia⟩;have g:=Bn b0.1 b0.2;exact⟨.one g.op (by have:=g.ln;lia) (cW _) g.ok,b0,rfl,trivial⟩
theorem BC {h:Str} (hh:isName h=true) (i:Nat):∀{l:Zd} {ms:List Int} {j:Nat},ms.length=l.length->(∀w∈l,isName w=true)->j+l.length<=9->Gs (arX h i j l) (TM.Internal.wv2 (l.map fun t=>(t,h)) (TM.Internal.tks (lfT h i j ms))) (88*l.length) (3*l.length)/\TM.Internal.oks (lfT h i j ms)
 |[],[],j,_,_,_=>⟨by rw[lfT,TM.Internal.tks];exact .nil,by rw[lfT,TM.Internal.oks];trivial⟩
 |t::l,m::ms,j,hl,hw,hj=>by rw[aA]at hj;obtain⟨a,b⟩:=Jn hh i j (by lia);obtain⟨c,d⟩:=BC hh i (l:=l) (ms:=ms) (j:=j+ 1) (dr.inj hl) (fun x hx=>hw x (aj _ hx)) (by lia);rw[lfT,TM.Internal.tks,arX,aC,TM.Internal.wv2,aA,TM.Internal.oks];exact⟨((Gs.nm (hw t ah)).app ((Gs.nm hh).app (a.app c))).le (by lia) (by lia),b,d⟩
mutual
theorem Xt.gt {ws:Zd} {vs:List Vl} (hw:∀w∈ws,isName w=true):∀t:Xt,t.ok ws vs->Gt t.tx t.tr.tk t.ms.length/\t.tr.ok
 | .mk m κ ks,h=>by
  rw[Xt.ok]at h;obtain⟨gk,gt,g5⟩:=gtL hw ks h.2;have lt:(trX ks).length=(ir ks).length:=by rw[uq,aD,ja]
  have nil:ir ks=[]->ks=[]:=fun e=>bX (by rw[<-ja,e];rfl);have one:∀{a:Vl},ir ks=[a]->∃t,TM.Internal.tks (trX ks)=[t]:=fun e=>by
   rw[e]at lt;match trX ks,lt with
   |[t],_=>exact⟨t.tk,by rw[TM.Internal.tks,TM.Internal.tks]⟩
  rw[Xt.tx,Xt.tr,Xt.ms,aA,aR,TM.Internal.Tr.tk,TM.Internal.Tr.ok,BB,aR,lt]
  cases κ with
  |num n=>have g:=Bn h.1.2.1 h.1.2.2;cases nil h.1.1;exact⟨⟨g.op,by have:=g.ln;show(TM.Internal.numS n).length+ 1<=_;lia,by show 1<=_;lia,g.ok⟩,h.1.2,by rw[ir];rfl,oq g5 (by show TM.Internal.oks [];rw[TM.Internal.oks];trivial)⟩
  |nam w k v=>have nw:=hw w (aQ h.1.2.1);have g:=xo nw;cases nil h.1.1;exact⟨⟨g.op,by have:=g.ln;show w.length+ 1<=_;lia,by show 1<=_;lia,g.ok⟩,nw,by rw[ir];rfl,oq g5 (by show TM.Internal.oks [];rw[TM.Internal.oks];trivial)⟩
  |rcd l=>obtain⟨h1,h2,h3,h4⟩:=h.1;have nl:∀w∈l,isName w=true:=fun w hl=>hw w (h4 w hl);have f:=vU (l:=l) (by rw[<-h1,ja]) nl gt;have:Kx.lt (.rcd l)=[]:=rfl;refine⟨?_,⟨h2,nl⟩,by rw[h1];rfl,oq g5 (by show TM.Internal.oks [];rw[TM.Internal.oks];trivial)⟩;show Gt ("("++Str.join " " ("rec"::ilv l (txX ks))++")") (("(":Str)::"rec"::(TM.Internal.wv1 l (TM.Internal.tks (trX ks)++TM.Internal.tks [])++[(")":Str)])) _;rw[TM.Internal.tks,aE];exact uu iq f (by lia) (by lia)
  |tag w=>obtain⟨⟨a,ea⟩,h4⟩:=h.1;refine⟨?_,hw w h4,by rw[ea];rfl,oq g5 (by show TM.Internal.oks [];rw[TM.Internal.oks];trivial)⟩;show Gt ("("++Str.join " " ("tag"::w::txX ks)++")") (("(":Str)::"tag"::(w::(TM.Internal.tks (trX ks)++TM.Internal.tks []).flatten++[(")":Str)])) _;rw[TM.Internal.tks,aE];exact uu iq ((Gs.nm (hw w h4)).app gk) (by lia) (by lia)
  |get w=>obtain⟨⟨a,q,v,ea,_⟩,h4⟩:=h.1;refine⟨?_,hw w h4,by rw[ea];rfl,oq g5 (by show TM.Internal.oks [];rw[TM.Internal.oks];trivial)⟩;show Gt ("("++Str.join " " ("get"::(txX ks++[w]))++")") (("(":Str)::"get"::((TM.Internal.tks (trX ks)++TM.Internal.tks []).flatten++[w]++[(")":Str)])) _;rw[TM.Internal.tks,aE];exact uu iq (gk.app (Gs.nm (hw w h4))) (by lia) (by lia)
  |case l hh ms i=>
   obtain⟨⟨t,v,q,ea,et⟩,h1,h2,h3,h4,h5⟩:=h.1;have nl:∀w∈l,isName w=true:=fun w hl=>hw w (h4 w hl);obtain⟨f,k⟩:=BC (hw hh h5) i (l:=l) (ms:=ms) (j:=0) h1 nl (by lia);obtain⟨tk,etk⟩:=one ea;have lm:(Kx.case l hh ms i).lm.length=l.length:=h1;have l1:1<=l.length:=by have:=(au.mp et).1;lia
   refine⟨?_,⟨by rw[aD];exact l1,by rw[aD];exact h2,fun p hp=>?_⟩,?_,oq g5 k⟩
   ·show Gt ("("++Str.join " " ("case"::(txX ks++arX hh i 0 l))++")") (TM.Internal.Kn.tk (.case (l.map fun t=>(t,hh))) (TM.Internal.tks (trX ks)++TM.Internal.tks (lfT hh i 0 ms))) _;rw[etk]at gk⊢;have e:([tk]:List (List Str)).flatten=tk:=by rw[List.flatten_cons,List.flatten_nil,aE]
    rw[e]at gk;show Gt _ (("(":Str)::"case"::(tk++TM.Internal.wv2 (l.map fun t=>(t,hh)) (TM.Internal.tks (lfT hh i 0 ms))++[(")":Str)])) _;exact uu iq (gk.app f) (by lia) (by lia)
   ·obtain⟨t,ht,rfl⟩:=bh.mp hp;exact⟨nl t ht,hw hh h5⟩
   ·rw[ea];show 1+(lfT hh i 0 ms).length=(l.map _).length+ 1;rw[(uj hh i 0 ms).1,aD,h1,dC]
theorem gtL {ws:Zd} {vs:List Vl} (hw:∀w∈ws,isName w=true):∀ts:List Xt,okL ws vs ts->Gs (txX ts) (TM.Internal.tks (trX ts)).flatten (100*(msX ts).length) (10*(msX ts).length)/\(∀t∈ts,Gt t.tx t.tr.tk t.ms.length)/\TM.Internal.oks (trX ts)
 |[],_=>⟨xy (fun t ht=>nomatch ht),(fun t ht=>nomatch ht),by rw[trX,TM.Internal.oks];trivial⟩
 |t::ts,h=>by
  rw[okL]at h;obtain⟨g,k⟩:=Xt.gt hw t h.1;obtain⟨_,g2,g5⟩:=gtL hw ts h.2;have a:∀u∈t::ts,Gt u.tx u.tr.tk u.ms.length:=fun u hu=>by
   rcases ak.mp hu with rfl|hu;·exact g
   ·exact g2 u hu
  exact⟨xy a,a,by rw[trX,TM.Internal.oks];exact⟨k,g5⟩⟩
end
def lnS (w x:Str):Str:="(def "++w++" "++x++")"
def lnX:List Str->List Xt->List Str
 |w::ws,t::ts=>lnS w t.tx::lnX ws ts
 |_,_=>[]
structure Gu (x:Str) (ts:Zd) (n:Nat):Prop where
 g:Gp x ts
 l:x.length<=130*n
 k:ts.length<=16*n
 o:∀w∈ts,okW w
theorem Jo {w x:Str} {ts:Zd} {n:Nat} (hw:isName w=true) (g:Gt x ts n) (hn:0<n):Gu (lnS w x) ((["(","def",w]:Zd)++ts++[(")":Str)]) n/\(lnS w x).length+ 1<=130*n:=by
 have gw:=xo hw;have b1:Gp "(def " ["(","def"]:=iq;have:=gw.ln;have:=g.l;have:=g.k;have hl:(lnS w x).length+ 1<=130*n:=by unfold lnS;simp only[Str.length_append];rw[show("(def ":Str).length=5 by decide+kernel,show(" ":Str).length=1 by decide+kernel,show(")":Str).length=1 by decide+kernel];lia
 refine⟨⟨((b1.app_op gw.op).gap.app_op g.op).close,by lia,?_,?_⟩,hl⟩;·simp only[aR,aA,aW];lia
 ·refine By (By (fun v hv=>?_) g.o) fun v hv=>by rw[bo.mp hv];exact BA.2.1
  rcases ak.mp hv with rfl|hv;·exact BA.1
  ·rcases ak.mp hv with rfl|hv;·exact BA.2.2
   ·exact gw.ok v hv
theorem Hk {ws:Zd} (hw:∀w∈ws,isName w=true):∀{ns:Zd} {ts:List Xt} {vs:List Vl},(∀n∈ns,isName n=true)->ns.length=ts.length->okX ws vs ts->Gu (Str.join "\n" (lnX ns ts)) (yu ns (trX ts)) (msX ts).length/\TM.Internal.oks (trX ts)
 |[],[],vs,_,_,_=>⟨⟨by rw[trX];exact(by decide+kernel:GR.Internal.Gp "" []),by rw[msX];exact iq,by rw[trX];exact cX _,fun w hw=>by rw[trX]at hw;cases hw⟩,by rw[trX,TM.Internal.oks];trivial⟩
 |n::ns,t::ts,vs,hn,hl,ok=>by
  obtain⟨g,k⟩:=t.gt hw ok.1;obtain⟨g1,l1⟩:=Jo (hn n ah) g t.pos;obtain⟨g2,k2⟩:=Hk hw (ns:=ns) (ts:=ts) (fun x hx=>hn x (aj _ hx)) (by simpa using hl) ok.2;have e:yu (n::ns) (trX (t::ts))=((["(","def",n]:Zd)++t.tr.tk++[(")":Str)])++yu ns (trX ts):=by rw[trX,yu,dtk];simp only[aV,bW,bV]
  refine⟨?_,by rw[trX,TM.Internal.oks];exact⟨k,k2⟩⟩;rw[e,msX,aR];match ns,ts,hl,g2 with
  |[],[],_,g2=>
   refine⟨?_,cQ g1.l (by lia),?_,By g1.o g2.o⟩;·show Gp (lnS n t.tx) (_++[]);rw[aE];exact g1.g
   ·show(_++[]).length<=_;rw[aE];exact cQ g1.k (by lia)
  |n2::ns,t2::ts,_,g2=>have nl:Gp "\n" []:=iq;have q:=(g1.g.app nl).app g2.g;rw[aE]at q;refine⟨q,?_,by rw[aR];have:=g1.k;have:=g2.k;lia,By g1.o g2.o⟩;show(lnS n t.tx++"\n"++Str.join "\n" (lnX (n2::ns) (t2::ts))).length<=_;rw[Str.length_append,Str.length_append,show("\n":Str).length=1 by decide+kernel];have:=g2.l;lia
theorem Hl {ws:Zd}:∀{ts:List Xt} {vs:List Vl} {p:Nat},okX ws vs ts->(i9 ts p).map Ro.d=TM.Internal.rws (trX ts) p
 |[],_,_,_=>by rw[i9,trX,TM.Internal.rws];rfl
 |t::ts,vs,p,ok=>by rw[i9,bp,Xt.ro_d t p ok.1,Hl ok.2,trX,TM.Internal.rws,Xt.tr_sz]
theorem JU:("abcdefghijklmnopqrstuvwxyz0123456789":Str).cps.toList.length=36:=iq
theorem ot (c:Nat):(⟨#[c]⟩:Str).length=1:=rfl
def sgn (k:Nat):Nat:=("abcdefghijklmnop":Str).cps.toList.getD k 0
def w1 (A B:Str) (k:Nat):Str:=A++⟨#[sgn k]⟩++B
def t7 (z:Int):Nat:=(atI ("t7":Str).cps.toList z).getD 0
def part (j:Nat):Int:=([8,4,2,1]:List Int).getD j 1
def bit (k j:Nat):Nat:=t7 ((0+(k:Int))/part j%2)
def w2 (x:Str) (k:Nat):Nat->Str
 |0=>x
 |j+ 1=>w2 x k j++⟨#[bit k j]⟩
theorem BD {l:List Nat} {i:Nat} (h:i<l.length):atI l (0+(i:Int))=some (l.getD i 0):=by rw[fK,bu,bF h];exact gq (bF h)
theorem nu (a b:Str):(a++b).cps.toList=a.cps.toList++b.cps.toList:=fG
theorem Jp {x:Str} {j:Int} (h0:0<=j) (h1:j<=x.length):(Txt.slice x none (some j)).cps.toList=x.cps.toList.take j.toNat:=by have e:Txt.slice x none (some j)=⟨((x.cps.toList.drop (0:Int).toNat).take (j-0).toNat).toArray⟩:=eq_of_beq (PyProof.Rows.slice_closes_to ⟨h0,h1⟩);rw[e];show((x.cps.toList.drop 0).take (j-0).toNat)=_;rw[cj,Int.sub_zero]
theorem E7 {x:Str} {j:Int} (h0:0<=j) (h1:j<=x.length):(Txt.slice x (some j) none).cps.toList=x.cps.toList.drop j.toNat:=by have e:Txt.slice x (some j) none=⟨((x.cps.toList.drop j.toNat).take ((x.cps.toList.length:Int)-j).toNat).toArray⟩:=eq_of_beq (PyProof.Rows.slice_closes_from ⟨h0,h1⟩);rw[e];show((x.cps.toList.drop j.toNat).take ((x.cps.toList.length:Int)-j).toNat)=_;rw[cg];rw[aZ];lia
theorem E8:∀c∈("abcdefghijklmnopqrstuvwxyz0123456789":Str).cps.toList,c∈(GR.Internal.SM++GR.Internal.FG).cps.toList:=iq
theorem Hn:∀c∈GR.Internal.SM.cps.toList,c∈(GR.Internal.SM++GR.Internal.FG).cps.toList:=iq
theorem E9:∀i:Nat,i<26->("abcdefghijklmnopqrstuvwxyz0123456789":Str).cps.toList.getD i 0∈GR.Internal.SM.cps.toList:=iq
def Nms (x:Str):Prop:=(∃c r,x.cps.toList=c::r/\c∈GR.Internal.SM.cps.toList)/\∀c∈x.cps.toList,c∈(GR.Internal.SM++GR.Internal.FG).cps.toList
theorem Ho:∀v∈GR.Internal.KWV,∃s:Str,v= .str s/\s.length<=4:=fun v hv=>by unfold GR.Internal.KWV at hv;simp only[ak,bI,or_false]at hv;rcases hv with rfl|rfl|rfl|rfl|rfl|rfl|rfl|rfl|rfl|rfl|rfl|rfl|rfl|rfl|rfl<;>exact⟨_,rfl,iq⟩
theorem Hq {w:Str} {l:List Nat} (e:w.cps.toList=l) (h5:5<=l.length) (h12:l.length<=12) (h0:∃c,l[0]?=some c/\c∈GR.Internal.SM.cps.toList) (ha:∀c∈l,c∈(GR.Internal.SM++GR.Internal.FG).cps.toList):GR.Internal.isName w=true:=by
 have hl:w.length=l.length:=by rw[<-e];rfl
 obtain⟨c,h0,hc⟩:=h0;have f1:GR.Internal.firstIn w GR.Internal.SM=true:=by
  unfold GR.Internal.firstIn;rw[e]
  cases l with
  |nil=>cases h0
  |cons d r=>cases h0;exact hI hc
 have f2:GR.Internal.allIn w (GR.Internal.SM++GR.Internal.FG)=true:=bR.mpr fun c hc=>hI (ha c (e▸hc));have hk:inV (.str w) GR.Internal.KWV=false:=by
  cases z:inV (.str w) GR.Internal.KWV with
  |false=>rfl
  |true=>
   unfold inV at z;obtain⟨y,hy,q⟩:=bj.mp z;obtain⟨s,rfl,hs⟩:=Ho y hy;have:s=w:=by simpa[eqV]using q
   rw[this]at hs;lia
 unfold GR.Internal.isName;rw[hl,hI (by lia:1<=l.length),hI h12,hk,f1,f2];rfl
theorem DN:∀k,k<16->sgn k∈GR.Internal.SM.cps.toList:=iq
theorem Hr:∀k:Nat,k<16->∀c∈[bit k 0,bit k 1,bit k 2,bit k 3],c∈(GR.Internal.SM++GR.Internal.FG).cps.toList:=iq
theorem Jq {x:Str} {a:Int} {k:Nat} (hx:Nms x) (h4:4<=x.length) (h11:x.length<=11) (a0:0<=a) (a1:a<=x.length) (hk:k<16):GR.Internal.isName (w1 (Txt.slice x none (some a)) (Txt.slice x (some a) none) k)=true:=by
 have hl:x.cps.toList.length=x.length:=rfl;obtain⟨⟨c0,r,hc,hs⟩,xin⟩:=hx;refine Hq (l:=x.cps.toList.take a.toNat++[sgn k]++x.cps.toList.drop a.toNat) (by rw[w1,nu,nu,Jp a0 a1,E7 a0 a1]) ?_ ?_ ?_ ?_;·rw[aR,aR,bf,aK,aZ];lia
 ·rw[aR,aR,bf,aK,aZ];lia
 ·by_cases z:a.toNat=0;·rw[z];exact⟨sgn k,rfl,DN k hk⟩
  ·refine⟨c0,?_,hs⟩;rw[bV,aN (by rw[aK];lia),cA,gU (by lia),hc];rfl
 ·intro d hd;rcases ao.mp hd with hd|hd
  ·rcases ao.mp hd with hd|hd;·exact xin d (cB hd)
   ·rw[bo.mp hd];exact Hn _ (DN k hk)
  ·exact xin d (bU hd)
theorem DO (x:Str) (k:Nat):(w2 x k 4).cps.toList=x.cps.toList++[bit k 0,bit k 1,bit k 2,bit k 3]:=by simp only[w2,nu,bV];rfl
theorem Jr {x:Str} {k:Nat} (hx:Nms x) (h8:x.length<=8) (hk:k<16):GR.Internal.isName (w2 x k 4)=true:=by
 have hl:x.cps.toList.length=x.length:=rfl;obtain⟨⟨c0,r,hc,hs⟩,xin⟩:=hx;refine Hq (DO x k) ?_ ?_ ⟨c0,by rw[hc];rfl,hs⟩ ?_;·rw[aR,hc];show 5<=r.length+ 1+ 4;lia
 ·rw[aR];show _+ 4<=12;lia
 ·intro d hd;rcases ao.mp hd with hd|hd;·exact xin d hd
  ·exact Hr k hk d hd
theorem Fb:∀i,i<16->∀j,j<16->sgn i=sgn j->i=j:=iq
theorem Hs (A B:Str) {i j:Nat} (hi:i<16) (hj:j<16) (e:w1 A B i=w1 A B j):i=j:=by have h:=congrArg (fun z:Str=>z.cps.toList) e;simp only[w1,nu]at h;have h2:=cC (List.append_cancel_right h);injection h2 with h3 _;exact Fb i hi j hj h3
theorem Fc:∀i,i<16->∀j,j<16->[bit i 0,bit i 1,bit i 2,bit i 3]=[bit j 0,bit j 1,bit j 2,bit j 3]->i=j:=iq
theorem Ht (x:Str) {i j:Nat} (hi:i<16) (hj:j<16) (e:w2 x i 4=w2 x j 4):i=j:=by have h:=congrArg (fun z:Str=>z.cps.toList) e;simp only[DO]at h;exact Fc i hi j hj (cC h)
theorem nd16 {f:Nat->Str} (h:∀{i j:Nat},i<16->j<16->f i=f j->i=j):((aa 16).map f).Nodup:=by refine cD.mpr ((List.nodup_range (n:=16)).imp_of_mem fun hi hj ne e=>ne (h (af.mp hi) (af.mp hj) e))
theorem sS {f:Nat->Str} (i:Nat):(aa (i+ 1)).map f=(aa i).map f++[f i]:=by rw[cE,bp];rfl
structure Wd (H:Hp) (l:Zx) (ws:Zd):Prop where
 e:H l=some (.lst (ws.map V.str))
 l:ws.length=16
 n:∀x∈ws,GR.Internal.isName x=true
 d:ws.Nodup
def vV:Sp:=fun vs H Q _=>X2 fun(c:Int) (m:Nat)=>Y4 (vs=[.int c,.int (m:Int)]) (1<=m) (m<=100) (∀x:Str,x.length=m->Nms x->Q (.str x) H)
theorem vW (T:Txt K mg):FO P w base 1 T.d26 vV:=by
 refine T.d26.F.rd iV fun _ A _ s H vs Q E hr h=>?_;obtain⟨c,m,rfl,h0,h1,q⟩:=h;refine⟨_,(f9 (pS (i:=2) iV.nd gE)
  (f9 (pS (i:=3) iV.nd gE)
  (f9 (jb PassesOwn.never rfl (ku rfl T.z_range (fZ (cv 1) gf)) (pN (i:=4) iV.nd)
   (f9 (pS (i:=5) iV.nd gh)
   (f9 (ie (gH jZ (cv 4) gh)
    (gj (pS (i:=5) iV.nd gh))
    gK)
   (f9 (pS (i:=3) iV.nd (gX lD (cv 3) (gy AE (cv 2) (gX jo (cv 0) (cv 5)))))
   (gj (pS (i:=0) iV.nd (gX jG (cv 0) gh)))))))
  (gj (gG (cv 3)))))),?_⟩;have sl:=sizeLine_eq;refine⟨_,rfl,by lia,by lia,mw (fun i σ H2=>X4 fun(y:Str) (c:Int) (o o2:Option V)=>Y5 (σ=[some (.int c),some (.int (m:Int)),some (.str "abcdefghijklmnopqrstuvwxyz0123456789"),some (.str y),o,o2]) (H2=H) (y.length=i) ((∀c∈y.cps.toList,c∈(GR.Internal.SM++GR.Internal.FG).cps.toList)) ((0<i->∃c r,y.cps.toList=c::r/\c∈GR.Internal.SM.cps.toList)))
  ⟨"",c,none,none,rfl,rfl,rfl,(fun c hc=>nomatch hc),fun z=>absurd z (by decide)⟩ ?_ ?_⟩
 ·rintro i σ H2 hi ⟨y,c,o,o2,rfl,rfl,hy,ha,hf⟩;have stp:∀n:Int,(n=26\/n=36)->(0<i\/n=26)->∃ch:Nat,atI ("abcdefghijklmnopqrstuvwxyz0123456789":Str).cps.toList (c%n)=some ch/\∃(y':Str),y++⟨#[ch]⟩=y'/\y'.length=i+ 1/\(∀c∈y'.cps.toList,c∈(GR.Internal.SM++GR.Internal.FG).cps.toList)/\∃c r,y'.cps.toList=c::r/\c∈GR.Internal.SM.cps.toList:=fun n hn hi0=>by
   have hp:(0:Int)<n:=by lia
   have a0:=fM c (Int.ne_of_gt hp);have a1:=fN c hp;obtain⟨ch,e,mm⟩:=Dc ("abcdefghijklmnopqrstuvwxyz0123456789":Str).cps.toList (c%n) a0 (by rw[JU];lia);refine⟨ch,e,_,rfl,by rw[Str.length_append,ot,hy],fun d hd=>?_,?_⟩
   ·rw[nu]at hd;rcases ao.mp hd with hd|hd;·exact ha d hd
    ·rw[bo.mp hd];exact E8 _ mm
   ·rw[nu];rcases hi0 with z|z;·obtain⟨d,r,hd,hs⟩:=hf z;exact⟨d,r++[ch],by rw[hd];rfl,hs⟩
    ·by_cases iz:0<i;·obtain⟨d,r,hd,hs⟩:=hf iz;exact⟨d,r++[ch],by rw[hd];rfl,hs⟩
     ·have e0:y.cps.toList=[]:=bX (show y.length=0 by lia);refine⟨ch,[],by rw[e0];rfl,?_⟩;have h26:=E9 (c%n).toNat (by lia);have e2:=BD (l:=("abcdefghijklmnopqrstuvwxyz0123456789":Str).cps.toList) (i:=(c%n).toNat) (by rw[JU];lia);rw[show(0:Int)+((c%n).toNat:Int)=c%n by lia,e]at e2;rw[dE.inj e2];exact h26
  show(if(false ^^ decide ((0:Int)+(i:Int)=0))=true then _ else _);rw[fB];by_cases z:(0:Int)+(i:Int)=0;·rw[hI z];obtain⟨ch,e,y',rfl,h1',h2',h3'⟩:=stp 26 (.inl rfl) (.inr rfl);exact jJ ⟨(by show(0:Int)<26;decide),sz iq,gu e ⟨by rw[ot];lia,⟨by decide,by decide⟩,_,_,_,_,rfl,rfl,h1',h2',fun _=>h3'⟩⟩
  ·rw[ik z];obtain⟨ch,e,y',rfl,h1',h2',h3'⟩:=stp 36 (.inr rfl) (.inl (by lia));exact iL ⟨(by show(0:Int)<36;decide),sz iq,gu e ⟨by rw[ot];lia,⟨by decide,by decide⟩,_,_,_,_,rfl,rfl,h1',h2',fun _=>h3'⟩⟩
 ·rintro σ H2 ⟨y,c,o,o2,rfl,rfl,hy,ha,hf⟩;exact q y (by lia) ⟨hf (by lia),ha⟩
def uv:Sp:=fun vs H Q _=>∃c:Int,vs=[.int c]/\∀l ws H',gC H H'->H l=none->Wd H' l ws->Q (.ref l) H'
theorem uz (T:Txt K mg):FO P w base 2 T.d27 uv:=by
 refine T.d27.F.rd hV fun _ A _ s H vs Q E hr h=>?_;obtain⟨c,rfl,q⟩:=h;refine⟨_,(f9 (pS (i:=0) hV.nd (gX jo (cv 0) (gX yg gh gh)))
  (f9 (pS (i:=1) hV.nd (gX nB (gX jo (cv 0) gh) gh))
  (f9 (pS (i:=2) hV.nd (gT gf))
  (f9 (ie (gH jZ (gX jo (gX jG (cv 0) gh) gh) gh)
   (f9 (pS (i:=3) hV.nd (pF T.d26 (vW T) hr.m (fZ (gX jG (cv 0) gh) (fZ (gX nB (cv 1) gh) gf))))
   (f9 (pS (i:=4) hV.nd (gX jo (gX jG (cv 0) gh) (gX nB (cv 1) gh)))
   (f9 (jb PassesOwn.never rfl (ku rfl T.z_range (fZ gh gf)) (pN (i:=5) hV.nd)
    (gj (gL (iS (jt fc fe fg gR (PE.mono (cv 2)) (fZ (PE.mono (gX lD (gX lD (lT C6 (cv 3) oS (mC (cv 4))) (gy AE gE (cv 5))) (lT C6 (cv 3) (mC (cv 4)) oS))) gf))))))
   (gj (gG (cv 2))))))
   gK)
  (f9 (pS (i:=3) hV.nd (pF T.d26 (vW T) hr.m (fZ (gX jG (cv 0) gh) (fZ (cv 1) gf))))
  (f9 (jb PassesOwn.never rfl (ku rfl T.z_range (fZ gh gf)) (pN (i:=5) hV.nd)
   (f9 (pS (i:=6) hV.nd (cv 3))
   (f9 (jb PassesOwn.never rfl (jq (gT (fZ gh (fZ gh (fZ gh (fZ gh gf)))))) (pN (i:=7) hV.nd)
    (gj (pS (i:=6) hV.nd (gX lD (cv 6) (gy AE gE (gX jo (gX jG (cv 5) (cv 7)) gh))))))
   (gj (gL (iS (jt fc fe fg gR (PE.mono (cv 2)) (fZ (PE.mono (cv 6)) gf))))))))
  (gj (gG (cv 2))))))))),?_⟩;have sl:=sizeLine_eq;refine⟨⟨by decide,by decide,by decide⟩,(by show(0:Int)<10^(24:Int).toNat;decide+kernel),?_⟩;dsimp only[gY];generalize c%10^(24:Int).toNat=c;have s0:=fM c (show(8:Int)≠0 by decide);have s1:=fN c (show(0:Int)<8 by decide);obtain⟨m,hm⟩:∃m:Nat,c%8+ 1=(m:Int):=⟨(c%8+ 1).toNat,by lia⟩;refine⟨(by show(0:Int)<8;decide),pP,fun l hl=>?_⟩;have S1:gC H (upd H l (.lst [])):=gi hl _;have e1:(upd H l (.lst [])) l=some (.lst []):=gb;dsimp only[gY];generalize upd H l (.lst [])=H1 at S1 e1⊢;rw[hm];have fin:∀(f:Nat->Str) (H2:Hp),gC H H2->H2 l=some (.lst (((aa 16).map f).map V.str))->(∀k,k<16->GR.Internal.isName (f k)=true)->(∀{i j:Nat},i<16->j<16->f i=f j->i=j)->Q (.ref l) H2:=fun f H2 S e hn hd=>q l _ H2 S hl ⟨e,by rw[aD,cF],fun x hx=>by obtain⟨k,hk,rfl⟩:=bh.mp hx;exact hn k (af.mp hk),nd16 hd⟩;refine⟨⟨by decide,by decide⟩,(by show(0:Int)<2;decide),?_⟩;dsimp only[tC,cEq,onB];rw[fB]
 cases decide (c/8%2=0)with
 |true=>
  refine jJ ⟨⟨by decide,by decide⟩,_,m+ 3,rfl,by lia,by lia,fun x hx nx=>⟨⟨by decide,by decide⟩,(by show(0:Int)<(m:Int)+ 4;lia),?_⟩⟩;dsimp only[gY];have a0:=fM (c/16) (show((m:Int)+ 4)≠0 by lia);have a1:=fN (c/16) (show 0<((m:Int)+ 4) by lia);generalize c/16%((m:Int)+ 4)=at_ at a0 a1⊢;have la:=Txt.slice_le x none (some at_);have lb:=Txt.slice_le x (some at_) none;refine⟨16,rfl,by decide,by decide,mw (fun i σ H2=>∃(o:Option V),Y3 (σ=[some (.int c),some (.int (m:Int)),some (.ref l),some (.str x),some (.int at_),o,none,none]) (gC H H2) (H2 l=some (.lst (((aa i).map (w1 (Txt.slice x none (some at_)) (Txt.slice x (some at_) none))).map V.str))))
   ⟨none,rfl,S1,e1⟩ ?_ ?_⟩;·rintro i σ H2 hi ⟨o,rfl,S,e⟩;have hi16:i<16:=hi;have e1:=BD (l:=("abcdefghijklmnop":Str).cps.toList) (i:=i) (by rw[show("abcdefghijklmnop":Str).cps.toList.length=16 by decide+kernel];lia);refine⟨⟨_,e⟩,at_,rfl,_,rfl,by lia,sz iq,gu e1 ⟨by rw[ot];lia,at_,rfl,_,rfl,by lia,by rw[Str.length_append,ot];lia,_,e,by rw[aD,aD,cF];lia,?_⟩⟩;refine⟨_,rfl,hG S hl _,?_⟩;rw[gb,sS,bp];rfl
  ·rintro σ H2 ⟨o,rfl,S,e⟩;exact fin _ H2 S e (fun k hk=>Jq nx (by lia) (by lia) a0 (by lia) hk) (Hs _ _)
 |false=>
  refine iL ⟨⟨by decide,by decide⟩,_,m,rfl,by lia,by lia,fun x hx nx=>?_⟩;dsimp only[gY];refine⟨16,rfl,by decide,by decide,mw (fun i σ H2=>X3 fun(o o2 o3:Option V)=>Y3 (σ=[some (.int c),some (.int (m:Int)),some (.ref l),some (.str x),none,o,o2,o3]) (gC H H2) (H2 l=some (.lst (((aa i).map fun k=>w2 x k 4).map V.str))))
   ⟨none,none,none,rfl,S1,e1⟩ ?_ ?_⟩
  ·rintro i σ H2 hi ⟨o,o2,o3,rfl,S,e⟩;have hi16:i<16:=hi;refine⟨zln4,fun p hp=>⟨p,rfl,⟨_,SqL.of gb⟩,?_⟩⟩;have S2:gC H (upd H2 p (.lst [V.int 8,V.int 4,V.int 2,V.int 1])):=S.trans (gi hp _);have nlp:l≠p:=gr e hp;refine jE (xs:=[V.int 8,V.int 4,V.int 2,V.int 1]) (fun j σ H3=>∃(o3:Option V),Y3 (σ=[some (.int c),some (.int (m:Int)),some (.ref l),some (.str x),none,some (.int (0+(i:Int))),some (.str (w2 x i j)),o3]) (H3=upd H2 p (.lst [V.int 8,V.int 4,V.int 2,V.int 1])) ((w2 x i j).length<=100+j))
    ⟨o3,rfl,rfl,by show x.length<=_;lia⟩ (fun j σ H3 _ ⟨o4,_,e3,_⟩=>by rw[e3];exact SqL.of gb) ?_ ?_
   ·rintro j v σ H3 hv ⟨o4,rfl,rfl,hy⟩;have hj:j<4:=(au.mp hv).1;have hn:v= .int (part j)/\0<part j/\part j<1073741824:=by
     match j,hj,hv with
     |0,_,hv=>cases hv;exact⟨rfl,by decide,by decide⟩
     |1,_,hv=>cases hv;exact⟨rfl,by decide,by decide⟩
     |2,_,hv=>cases hv;exact⟨rfl,by decide,by decide⟩
     |3,_,hv=>cases hv;exact⟨rfl,by decide,by decide⟩
    obtain⟨rfl,n0,n1⟩:=hn;obtain⟨ch,e1,_⟩:=Dc ("t7":Str).cps.toList ((0+(i:Int))/part j%2) (fM _ (by decide)) (by rw[show("t7":Str).cps.toList.length=2 by decide+kernel];exact fN _ (by decide));have ech:ch=bit i j:=by rw[bit,t7,e1];rfl
    subst ech;exact⟨⟨n0,n1⟩,(by show(0:Int)<2;decide),sz iq,gu e1 ⟨by rw[ot];lia,_,rfl,rfl,by rw[w2,Str.length_append,ot];lia⟩⟩
   ·rintro σ H3 ⟨o4,rfl,rfl,hy⟩;have e4:(upd H2 p (.lst [V.int 8,V.int 4,V.int 2,V.int 1])) l=some (.lst (((aa i).map fun k=>w2 x k 4).map V.str)):=by rw[gx nlp];exact e
    refine⟨⟨_,e4⟩,_,e4,by rw[aD,aD,cF];lia,?_⟩;refine⟨_,_,_,rfl,hG S2 hl _,?_⟩;rw[gb,sS,bp];rfl
  ·rintro σ H2 ⟨o,o2,o3,rfl,S,e⟩;exact fin _ H2 S e (fun k hk=>Jr nx (by lia) hk) (Ht x)
def mask (H:Hp) (M:List Zx):Hp:=fun a=>if a∈M then none else H a
theorem ic {H:Hp} {M:List Zx} {a:Zx} {u:HO} (h:a∉M) (e:H a=some u):mask H M a=some u:=by unfold mask;rw[gN h];exact e
theorem jn {H:Hp} {M:List Zx} {a:Zx} {u:HO} (e:mask H M a=some u):a∉M/\H a=some u:=by
 unfold mask at e;split at e;·cases e
 ·exact⟨‹_›,e⟩
theorem gP {H:Hp} {M:List Zx}:gC (mask H M) H:=fun b u e=>(jn e).2
def Fr (M:List Zx) (H H':Hp):Prop:=∀b o,H b=some o->b∉M->H' b=some o
theorem Fr.mask {M:List Zx} {H H':Hp} (f:Fr M H H'):gC (mask H M) (mask H' M):=fun b u e=>ic (jn e).1 (f _ _ (jn e).2 (jn e).1)
theorem Fr.trans {M:List Zx} {H H1 H2:Hp} (f:Fr M H H1) (g:Fr M H1 H2):Fr M H H2:=fun b o e n=>g b o (f b o e n) n
theorem Fr.same {M:List Zx} {H H':Hp} (s:gC H H'):Fr M H H':=fun b o e _=>s b o e
theorem Fr.le {M N:List Zx} {H H':Hp} (f:Fr M H H') (h:∀a∈M,a∈N):Fr N H H':=fun b o e n=>f b o e fun z=>n (h b z)
structure Jt where
 tx:Str
 val:Vl
 ms:List Int
 ha:List (Int×Int)
 me:List (Int×Int×Int)
def Xt.j (t:Xt):Jt:=⟨t.tx,t.val,t.ms,t.ha,t.me⟩
def msJ:List Jt->List Int
 |[]=>[]
 |t::ts=>t.ms++msJ ts
def haJ:List Jt->List (Int×Int)
 |[]=>[]
 |t::ts=>t.ha++haJ ts
def meJ:List Jt->List (Int×Int×Int)
 |[]=>[]
 |t::ts=>t.me++meJ ts
def Jt.b (t:Jt):Prop:=t.ha.length<=t.ms.length/\t.me.length<=t.ms.length
def qD (j:Nat) (t:Jt):List Dt:=if j=2 then t.ms.map kD else if j=3 then t.ha.map haD else t.me.map meD
def pD (m:Int) (j:Nat) (ts:List Jt):List Dt:=if j=2 then(m::msJ ts).map kD else if j=3 then(haJ ts).map haD else(meJ ts).map meD
inductive XtA (H:Hp) (x:V) (t:Jt):Prop
 |mk (a:Zx) (v:V) (A:Nat->Zx) (e:x= .ref a) (ea:H a=some (.lst [.str t.tx,v,.ref (A 2),.ref (A 3),.ref (A 4)])) (iv:Im H v t.val.d) (hb:t.b) (hp:∀j,2<=j->j<5->∃xs,H (A j)=some (.lst xs)/\Ims H xs (qD j t))
theorem XtA.same {H H':Hp} {x:V} {t:Jt} (h:XtA H x t) (s:gC H H'):XtA H' x t:=by obtain⟨a,v,A,e,ea,iv,hb,hp⟩:=h;have k:=gC.tk s;exact⟨a,v,A,e,s _ _ ea,iv.mono k,hb,fun j h2 h5=>let⟨xs,e,i⟩:=hp j h2 h5;⟨xs,s _ _ e,i.mono k⟩⟩
inductive qp (H:Hp):List V->List Jt->Prop
 |nil:qp H [] []
 |cons {x:V} {t:Jt} {xs:List V} {ts:List Jt} (h:XtA H x t) (r:qp H xs ts):qp H (x::xs) (t::ts)
theorem qp.same {H H':Hp} (s:gC H H'):∀{xs:List V} {ts:List Jt},qp H xs ts->qp H' xs ts:=fun h=>by
 induction h with
 |nil=>exact .nil
 |cons h r i=>exact .cons (h.same s) i
theorem qp.len {H:Hp}:∀{xs:List V} {ts:List Jt},qp H xs ts->xs.length=ts.length
 |_,_,.nil=>rfl
 |_,_,.cons h r=>congrArg (·+ 1) r.len
theorem qp.at {H:Hp}:∀{xs:List V} {ts:List Jt},qp H xs ts->∀{i:Nat} {t:Jt},ts[i]?=some t->∃x,xs[i]?=some x/\XtA H x t:=fun h=>by
 induction h with
 |nil=>intro i t e;cases e
 |cons h r ih=>
  intro i t e
  cases i with
  |zero=>cases e;exact⟨_,rfl,h⟩
  |succ i=>exact ih e
theorem qp.snoc {H:Hp} {x:V} {t:Jt} (k:XtA H x t):∀{xs:List V} {ts:List Jt},qp H xs ts->qp H (xs++[x]) (ts++[t]):=fun h=>by
 induction h with
 |nil=>exact .cons k .nil
 |cons h r i=>exact .cons h i
theorem rK:∀(a b:List Jt),msJ (a++b)=msJ a++msJ b
 |[],b=>by rw[bW,msJ,bW]
 |t::a,b=>by rw[aV,msJ,msJ,rK a b,bV]
theorem xA:∀(a b:List Jt),haJ (a++b)=haJ a++haJ b
 |[],b=>by rw[bW,haJ,bW]
 |t::a,b=>by rw[aV,haJ,haJ,xA a b,bV]
theorem xB:∀(a b:List Jt),meJ (a++b)=meJ a++meJ b
 |[],b=>by rw[bW,meJ,bW]
 |t::a,b=>by rw[aV,meJ,meJ,xB a b,bV]
theorem Fe {m:Int} {j:Nat} {ts:List Jt} {t:Jt}:pD m j (ts++[t])=pD m j ts++qD j t:=by
 unfold pD qD;rw[rK,xA,xB,msJ,msJ,haJ,haJ,meJ,meJ,aE,aE,aE];split;·rw[aC,bp];rfl
 ·split<;>rw[bp]
mutual
theorem Xt.lens {ws:Zd} {vs:List Vl}:∀t:Xt,t.ok ws vs->t.ha.length<=t.ms.length/\t.me.length<=t.ms.length
 | .mk m κ ks,ok=>by
  rw[Xt.ok]at ok;obtain⟨h1,h2⟩:=Hu ks ok.2;rw[Xt.ha,Xt.me,Xt.ms];simp only[aR,aA,aW]
  cases κ with
  |case l h ms i=>obtain⟨⟨t,v,q,_,et⟩,hl,_⟩:=ok.1;have:=(au.mp et).1;exact⟨by show(haX ks).length+(0+ 1)+(0+ 1)<=(msX ks).length+ms.length+ 1;lia,by show(meX ks).length+(0+ 1)<=(msX ks).length+ms.length+ 1;lia⟩
  |get w=>exact⟨by show(haX ks).length+ 0+(0+ 1)<=(msX ks).length+ 0+ 1;lia,by show(meX ks).length+(0+ 1)<=(msX ks).length+ 0+ 1;lia⟩
  |_=>exact⟨by show(haX ks).length+ 0+(0+ 1)<=(msX ks).length+ 0+ 1;lia,by show(meX ks).length+ 0<=(msX ks).length+ 0+ 1;lia⟩
theorem Hu {ws:Zd} {vs:List Vl}:∀ts:List Xt,okL ws vs ts->(haX ts).length<=(msX ts).length/\(meX ts).length<=(msX ts).length
 |[],_=>by rw[haX,meX,msX];exact⟨cW _,cW _⟩
 |t::ts,ok=>by rw[okL]at ok;obtain⟨h1,h2⟩:=Xt.lens t ok.1;obtain⟨h3,h4⟩:=Hu ts ok.2;rw[haX,meX,msX,aR,aR,aR];lia
end
theorem Fg:∀{ts:List Jt},(∀t∈ts,t.b)->(haJ ts).length<=(msJ ts).length/\(meJ ts).length<=(msJ ts).length
 |[],_=>⟨cW _,cW _⟩
 |t::ts,h=>by obtain⟨h1,h2⟩:=h t ah;obtain⟨h3,h4⟩:=Fg (ts:=ts) fun u hu=>h u (aj _ hu);rw[haJ,meJ,msJ,aR,aR,aR];lia
theorem Hv (j:Nat) {t:Jt} (h:t.b):(qD j t).length<=2*t.ms.length:=by
 obtain⟨h1,h2⟩:=h;unfold qD;split;·rw[aD];lia
 ·split<;>rw[aD]<;>lia
theorem BE (m:Int) (j:Nat) {ts:List Jt} (h:∀t∈ts,t.b):(pD m j ts).length<=2*(msJ ts).length+ 1:=by
 obtain⟨h1,h2⟩:=Fg h;unfold pD;split;·rw[aD,aA];lia
 ·split<;>rw[aD]<;>lia
theorem Hw {J:It} {i:Nat} {te:TE} {Q:VK} {τ:St} {H1:Hp} {D:Zx} (n:Nat) (hn:n<sizeLine) (R:Nat->List V->Hp->Prop) (hτ:τ.set i none=τ) (h0:R 0 [] (upd H1 D (.lst []))) (hgo:∀k xs H,R k xs H->k<n->J.go k H) (hst:∀xs H,R n xs H->J.stop n H)
  (step:∀k xs H v H3 (Z:VK),k<n->xs.length=k->R k xs H->J.yld k H v H3->(∀y H5,H5 D=some (.lst xs)->R (k+ 1) (xs++[y]) (upd H5 D (.lst (xs++[y])))->Z y H5)->te (τ.set i (some v)) H3 Z) (hq:∀xs H,xs.length=n->R n xs H->Q (.ref D) H):LcP J i oT te Q τ H1 D:=by
 refine⟨fun k m σ' H2=>Y4 (m=n-k) (k<=n) ((∃o,σ'=τ.set i o)) (∃xs,xs.length=k/\R k xs H2),⟨n,by simp,cX _,⟨none,hτ.symm⟩,[],rfl,h0⟩,?_⟩;rintro k m σ' H2 ⟨rfl,hk,⟨o,rfl⟩,xs,hl,hr⟩;by_cases hlt:k<n;·refine .inr ⟨hgo k xs H2 hr hlt,fun v H3 y=>?_⟩;rw[bw];refine step k xs H2 v H3 _ hlt hl hr y fun y H5 e r5=>?_;exact⟨xs,e,by lia,n-(k+ 1),by lia,rfl,hlt,⟨some v,rfl⟩,xs++[y],by rw[aR,hl];rfl,r5⟩
 ·have e1:k=n:=by lia
  subst e1;exact .inl ⟨hst xs H2 hr,hq xs H2 hl hr⟩
theorem JV (m n:Int):(Xt.mk m (.num n) []).j=⟨TM.Internal.numS n,.num n m,[m],[(m,m)],[]⟩:=by unfold Xt.j;rw[Xt.tx,Xt.val,Xt.ms,Xt.ha,Xt.me,msX,haX,meX];rfl
theorem lf_v (m:Int) (w:Str) (k:Nat) (v:Vl):(Xt.mk m (.nam w k v) []).j=⟨w,v,[m],[(m,v.p)],[]⟩:=by unfold Xt.j;rw[Xt.tx,Xt.val,Xt.ms,Xt.ha,Xt.me,msX,haX,meX];rfl
def Fh (H:Hp) (fr:Zx) (n:Nat):Prop:=H fr=some (.lst (aH n .non))
theorem vX {H:Hp} {M:List Zx} {a:Zx} (hM:∀b∈M,∃o,H b=some o) (h:H a=none):a∉M:=fun z=>by obtain⟨o,e⟩:=hM a z;rw[e]at h;cases h
theorem gZ {H H':Hp} {M:List Zx} (s:gC H H'):gC (mask H M) (mask H' M):=(Fr.same s).mask
theorem yJ {H:Hp} {M:List Zx} {m q:Int} {v:V} {t:Jt} (hM:∀b∈M,∃o,H b=some o) (iv:Im (mask H M) v t.val.d) {x:Str} (e1:t.tx=x) (e2:t.ms=[m]) (e3:t.ha=[(m,q)]) (e4:t.me=[]) {l1 t2 l2 l3 a:Zx} (h1:H l1=none) (h2:(upd H l1 (.lst [.int m])) t2=none) (h3:(upd (upd H l1 (.lst [.int m])) t2 (.tup [.int m,.int q])) l2=none) (h4:(upd (upd (upd H l1 (.lst [.int m])) t2 (.tup [.int m,.int q])) l2 (.lst [.ref t2])) l3=none) (h5:(upd (upd (upd (upd H l1 (.lst [.int m])) t2 (.tup [.int m,.int q])) l2 (.lst [.ref t2])) l3 (.lst [])) a=none):
  gC H (upd (upd (upd (upd (upd H l1 (.lst [.int m])) t2 (.tup [.int m,.int q])) l2 (.lst [.ref t2])) l3 (.lst [])) a (.lst [.str x,v,.ref l1,.ref l2,.ref l3]))/\XtA (mask (upd (upd (upd (upd (upd H l1 (.lst [.int m])) t2 (.tup [.int m,.int q])) l2 (.lst [.ref t2])) l3 (.lst [])) a (.lst [.str x,v,.ref l1,.ref l2,.ref l3])) M) (.ref a) t:=by
 have S1:=gi h1 (.lst [.int m]);have S2:=gi h2 (.tup [.int m,.int q]);have S3:=gi h3 (.lst [.ref t2]);have S4:=gi h4 (.lst []);have S5:=gi h5 (.lst [.str x,v,.ref l1,.ref l2,.ref l3]);have S45:=S4.trans S5;have S35:=S3.trans S45;have S25:=S2.trans S35;have S15:=S1.trans S25;have nm:∀{b:Zx},H b=none->b∉M:=fun h=>vX hM h;have g1:=ic (nm h1) (S25 l1 _ gb);have g2:=ic (nm (S1.free h2)) (S35 t2 _ gb);have g3:=ic (nm ((S1.trans S2).free h3)) (S45 l2 _ gb);have g4:=ic (nm (((S1.trans S2).trans S3).free h4)) (S5 l3 _ gb);subst e1;refine⟨S15,a,v,fun j=>if j=2 then l1 else if j=3 then l2 else l3,rfl,ic (nm ((((S1.trans S2).trans S3).trans S4).free h5)) gb,iv.mono (gC.tk (gZ S15)),by unfold Jt.b;rw[e2,e3,e4];exact⟨cW _,cX _⟩,fun j j2 j5=>?_⟩;unfold qD;by_cases z:j=2;·rw[gU z,gU z,e2];exact⟨_,g1,.cons (.flat rfl) .nil⟩
 ·rw[gN z,gN z];by_cases z:j=3;·rw[gU z,gU z,e3];exact⟨_,g3,.cons (.tup g2 (.cons (.flat rfl) (.cons (.flat rfl) .nil))) .nil⟩
  ·rw[gN z,gN z,e4];exact⟨_,g4,.nil⟩
theorem Hx {n:Int} (h0:0<=n) (h1:n<10^60):n.natAbs.log2<1920:=by
 by_cases hz:n.natAbs=0;·rw[hz];decide+kernel
 ·rw[Nat.log2_lt hz];have h2:n.natAbs<10^60:=by lia
  have h3:(10:Nat)^60<=2^200:=iq;have h4:(2:Nat)^200<=2^1920:=Nat.pow_le_pow_right (by decide) (by decide);lia
def vY:Sp:=fun vs H Q _=>X2 fun(fr:Zx) (n:Nat)=>Y4 (vs=[.ref fr]) (Fh H fr n) (n<=1000) (Q (.int ((n+ 1:Nat):Int)) (upd H fr (.lst (aH (n+ 1) .non))))
theorem jK (T:Txt K mg):FO P w base 1 T.d28 vY:=by
 refine T.d28.F.rd vG fun _ A _ s H vs Q E hr h=>?_;obtain⟨fr,n,rfl,ef,hn,q⟩:=h;refine⟨_,(f9 (gL (iS (jt fc fe fg gR (PE.mono (cv 0)) (fZ (PE.mono lM) gf))))
  (gj (gG (gM gQ rfl T.z_len ji (fZ (cv 0) gf))))),?_⟩;have sl:=sizeLine_eq;refine⟨⟨_,ef⟩,_,ef,by rw[aS];lia,?_⟩;refine⟨fr,_,rfl,.inl (SqL.of gb),?_⟩;rw[<-cG,aS];exact q
inductive XNu (vs:List V) (H:Hp) (Q:VK):Prop
 |mk (M:List Zx) (fr:Zx) (n:Nat) (c:Int) (e:vs=[.ref fr,.int c]) (hM:∀b∈M,∃o,H b=some o) (hf:fr∈M) (ef:Fh H fr n) (hn:n<=1000) (hc:0<=c/\c<10^60) (q:∀x H',Fr [fr] H H'->Fh H' fr (n+ 1)->XtA (mask H' M) x ⟨TM.Internal.numS c,.num c ((n+ 1:Nat):Int),[((n+ 1:Nat):Int)],[(((n+ 1:Nat):Int),((n+ 1:Nat):Int))],[]⟩->Q x H')
def rZ:Sp:=fun vs H Q _=>XNu vs H Q
theorem kW {H:Hp} {M:List Zx} {a:Zx} {o:HO} (hM:∀b∈M,∃o,H b=some o):∀b∈M,∃o',(upd H a o) b=some o':=fun b hb=>by
 by_cases z:b=a;·rw[z];exact⟨_,gb⟩
 ·rw[gx z];exact hM b hb
theorem kX {H:Hp} {a:Zx} {o:HO}:Fr [a] H (upd H a o):=fun b u e n=>by rw[gx (fun z=>n (bo.mpr z))];exact e
theorem lK (T:Txt K mg):FO P w base 2 T.d29 rZ:=by
 refine T.d29.F.rd nE fun _ A _ s H vs Q E hr h=>?_;obtain⟨M,fr,n,c,rfl,hM,hf,ef,hn,hc,q⟩:=h;refine⟨_,(f9 (pS (i:=2) nE.nd (pF T.d28 (jK T) hr.m (fZ (cv 0) gf)))
  (gj (gG (gT (fZ (jA uX rfl T.z_str Gk (fZ (cv 1) gf)) (fZ (ij (fZ gE (fZ (cv 1) (fZ (cv 2) gf)))) (fZ (gT (fZ (cv 2) gf)) (fZ (gT (fZ (ij (fZ (cv 2) (fZ (cv 2) gf))) gf)) (fZ (gT gf) gf))))))))),?_⟩;refine⟨fr,n,rfl,ef,hn,?_⟩;have ef1:Fh (upd H fr (.lst (aH (n+ 1) .non))) fr (n+ 1):=gb;have F1:Fr [fr] H (upd H fr (.lst (aH (n+ 1) .non))):=kX;have hM1:=kW (a:=fr) (o:= .lst (aH (n+ 1) .non)) hM;dsimp only[gY];generalize upd H fr (.lst (aH (n+ 1) .non))=H1 at ef1 F1 hM1⊢;refine⟨c,rfl,?_,qq,fun a1 h1=>?_⟩;·exact Hx hc.1 hc.2
 have S1:=gi h1 (.tup [.str "num",.int c,.int ((n+ 1:Nat):Int)]);have hM2:=kW (a:=a1) (o:= .tup [.str "num",.int c,.int ((n+ 1:Nat):Int)]) hM1;have iv:Im (mask (upd H1 a1 (.tup [.str "num",.int c,.int ((n+ 1:Nat):Int)])) M) (.ref a1) (Vl.num c ((n+ 1:Nat):Int)).d:= .tup (ic (vX hM1 h1) gb) (.cons (.flat rfl) (.cons (.flat rfl) (.cons (.flat rfl) .nil)));dsimp only;generalize upd H1 a1 (.tup [.str "num",.int c,.int ((n+ 1:Nat):Int)])=H2 at S1 hM2 iv⊢;refine⟨wo,fun l1 k1=>⟨ow,fun t2 k2=>⟨wo,fun l2 k3=>⟨pP,fun l3 k4=>⟨HF,fun a k5=>?_⟩⟩⟩⟩⟩;obtain⟨S2,x⟩:=yJ (t:=⟨TM.Internal.numS c,.num c ((n+ 1:Nat):Int),[((n+ 1:Nat):Int)],[(((n+ 1:Nat):Int),((n+ 1:Nat):Int))],[]⟩) hM2 iv rfl rfl rfl rfl k1 k2 k3 k4 k5;exact q _ _ ((F1.trans (Fr.same S1)).trans (Fr.same S2)) ((S1.trans S2) _ _ ef1) x
inductive XNa (vs:List V) (H:Hp) (Q:VK):Prop
 |mk (M:List Zx) (fr:Zx) (n:Nat) (w:Str) (v:V) (u:Vl) (e:vs=[.ref fr,.str w,v]) (hM:∀b∈M,∃o,H b=some o) (hf:fr∈M) (ef:Fh H fr n) (hn:n<=1000) (iv:Im (mask H M) v u.d) (q:∀x H',Fr [fr] H H'->Fh H' fr (n+ 1)->XtA (mask H' M) x ⟨w,u,[((n+ 1:Nat):Int)],[(((n+ 1:Nat):Int),u.p)],[]⟩->Q x H')
def uA:Sp:=fun vs H Q _=>XNa vs H Q
theorem oO (T:Txt K mg):FO P w base 2 T.d30 uA:=by
 refine T.d30.F.rd oE fun _ A _ s H vs Q E hr h=>?_;obtain⟨M,fr,n,w,v,u,rfl,hM,hf,ef,hn,iv,q⟩:=h;refine⟨_,(f9 (pS (i:=3) oE.nd (pF T.d28 (jK T) hr.m (fZ (cv 0) gf)))
  (gj (gG (gT (fZ (cv 1) (fZ (cv 2) (fZ (gT (fZ (cv 3) gf)) (fZ (gT (fZ (ij (fZ (cv 3) (fZ (gy gA (cv 2) (y0 sq gh)) gf))) gf)) (fZ (gT gf) gf))))))))),?_⟩;refine⟨fr,n,rfl,ef,hn,?_⟩;have ef1:Fh (upd H fr (.lst (aH (n+ 1) .non))) fr (n+ 1):=gb;have F1:Fr [fr] H (upd H fr (.lst (aH (n+ 1) .non))):=kX;have hM1:=kW (a:=fr) (o:= .lst (aH (n+ 1) .non)) hM;have iv1:=iv.mono (gC.tk (Fr.mask (F1.le (N:=M) (fun a ha=>by rw[bo.mp ha];exact hf))));dsimp only[gY];generalize upd H fr (.lst (aH (n+ 1) .non))=H1 at ef1 F1 hM1 iv1⊢;refine⟨wo,fun l1 k1=>?_⟩;obtain⟨tv,y,rfl,etv,_⟩:=oN (iv1.mono (gC.tk gP));refine⟨_,rfl,_,gi k1 _ _ _ etv,gu (by rfl) ⟨ow,fun t2 k2=>⟨wo,fun l2 k3=>⟨pP,fun l3 k4=>⟨HF,fun a k5=>?_⟩⟩⟩⟩⟩;obtain⟨S2,x⟩:=yJ (t:=⟨w,u,[((n+ 1:Nat):Int)],[(((n+ 1:Nat):Int),u.p)],[]⟩) hM1 iv1 rfl rfl rfl rfl k1 k2 k3 k4 k5;exact q _ _ (F1.trans (Fr.same S2)) (S2 _ _ ef1) x
theorem rL {H:Hp} {M N:List Zx} (h:∀a∈M,a∈N):gC (mask H N) (mask H M):=fun b u e=>ic (fun z=>(jn e).1 (h b z)) (jn e).2
def oV:Option Str->V
 |none=> .non
 |some w=> .str w
def cN:List (Option Str)->Nat
 |[]=>0
 |none::p=>cN p+ 1
 |some _::p=>cN p
def txF:List (Option Str)->List Jt->List Str
 |some w::p,ts=>w::txF p ts
 |none::p,t::ts=>t.tx::txF p ts
 |_,_=>[]
theorem p8:∀(p q:List (Option Str)),cN (p++q)=cN p+cN q
 |[],q=>(dj _).symm
 |none::p,q=>by rw[aV,cN,cN,p8 p q];lia
 |some _::p,q=>by rw[aV,cN,cN,p8 p q]
theorem uB {w:Str}:∀{p:List (Option Str)} {ts:List Jt},cN p<=ts.length->txF (p++[some w]) ts=txF p ts++[w]
 |[],ts,_=>by cases ts<;>rfl
 |none::p,[],h=>absurd h (Nat.not_succ_le_zero _)
 |none::p,t::ts,h=>congrArg (t.tx::·) (uB (p:=p) (ts:=ts) (dy h))
 |some v::p,ts,h=>congrArg (v::·) (uB (p:=p) (ts:=ts) h)
theorem uC {t:Jt}:∀{p:List (Option Str)} {ts:List Jt},ts[cN p]?=some t->txF (p++[none]) ts=txF p ts++[t.tx]
 |[],ts,h=>by
  cases ts with
  |nil=>cases h
  |cons u us=>cases h;rfl
 |none::p,[],h=>by cases h
 |none::p,u::ts,h=>congrArg (u.tx::·) (uC (p:=p) (ts:=ts) h)
 |some v::p,ts,h=>congrArg (v::·) (uC (p:=p) (ts:=ts) h)
theorem uD:∀(p:List (Option Str)) (ts:List Jt),(txF p ts).length<=p.length
 |[],ts=>by cases ts<;>exact cW _
 |none::p,[]=>cX _
 |none::p,t::ts=>dv (uD p ts)
 |some v::p,ts=>dv (uD p ts)
theorem BF {b:Nat}:∀{l:Zd},(∀w∈l,w.length<=b)->(l.map (·.length)).sum<=l.length*b
 |[],_=>cX _
 |w::l,h=>by have:=BF (l:=l) fun x hx=>h x (aj _ hx);have:=h w ah;rw[aC,List.sum_cons,aA,Nat.succ_mul];lia
theorem yK {z:Str} {b:Nat}:∀{l:Zd},(∀w∈l,w.length<=b)->(Str.join z l).length<=l.length*(b+z.length)
 |[],_=>cX _
 |[w],h=>by have:=h w ah;show w.length<=1*_;lia
 |w::v::l,h=>by have:=yK (z:=z) (l:=v::l) fun x hx=>h x (aj _ hx);have:=h w ah;show(w++z++Str.join z (v::l)).length<=_;rw[Str.length_append,Str.length_append,aA,Nat.succ_mul];lia
theorem xC {b:Nat}:∀{p:List (Option Str)} {ts:List Jt},(∀w,some w∈p->w.length<=b)->(∀t∈ts,t.tx.length<=b)->∀w∈txF p ts,w.length<=b
 |[],ts,_,_,w,h=>by cases ts<;>cases h
 |none::p,[],_,_,w,h=>by cases h
 |none::p,t::ts,h1,h2,w,h=>by
  rcases ak.mp h with rfl|h;·exact h2 t ah
  ·exact xC (p:=p) (fun v hv=>h1 v (aj _ hv)) (fun u hu=>h2 u (aj _ hu)) w h
 |some v::p,ts,h1,h2,w,h=>by
  rcases ak.mp h with rfl|h;·exact h1 _ ah
  ·exact xC (p:=p) (ts:=ts) (fun u hu=>h1 u (aj _ hu)) h2 w h
theorem qp.b {H:Hp}:∀{xs:List V} {ts:List Jt},qp H xs ts->∀t∈ts,t.b:=fun h=>by
 induction h with
 |nil=>intro t ht;cases ht
 |cons h r i=>
  intro t ht;rcases ak.mp ht with rfl|ht;·cases h;assumption
  ·exact i t ht
inductive PtA (H0 H:Hp) (M:List Zx) (a:Zx) (m:Int) (x:Str) (ts:List Jt):Prop
 |mk (A:Nat->Zx) (h0:H0 a=none) (ea:H a=some (.lst [.str x,.non,.ref (A 2),.ref (A 3),.ref (A 4)])) (hp:∀j,2<=j->j<5->A j≠a/\∃xs,(mask H (a::M)) (A j)=some (.lst xs)/\Ims (mask H (a::M)) xs (pD m j ts))
def PaS (H:Hp) (N:List Zx) (wl:Zx) (m:Int) (ts:List Jt) (k b:Nat):Prop:=∃A:Nat->Zx,H wl=some (.lst [.str "",.non,.ref (A 2),.ref (A 3),.ref (A 4)])/\∀j,2<=j->j<5->∃xs,(mask H N) (A j)=some (.lst xs)/\Ims (mask H N) xs (pD m j (ts.take (if j<b then k+ 1 else k)))
theorem PaS.fr {H H':Hp} {N:List Zx} {wl:Zx} {m:Int} {ts:List Jt} {k b:Nat} (h:PaS H N wl m ts k b) (f:Fr N H H') (e:H' wl=H wl):PaS H' N wl m ts k b:=by obtain⟨A,e1,hp⟩:=h;exact⟨A,by rw[e];exact e1,fun j h2 h5=>let⟨xs,e,i⟩:=hp j h2 h5;⟨xs,f.mask _ _ e,i.mono (gC.tk f.mask)⟩⟩
inductive XFo (vs:List V) (H:Hp) (Q:VK):Prop
 |mk (M:List Zx) (m:Int) (pl il:Zx) (pat:List (Option Str)) (xs:List V) (ts:List Jt) (e:vs=[.int m,.ref pl,.ref il]) (hM:∀b∈M,∃o,H b=some o) (ep:H pl=some (.lst (pat.map oV))) (ei:H il=some (.lst xs)) (hx:qp (mask H M) xs ts) (hc:cN pat=ts.length) (hl:pat.length<=40) (hz:(msJ ts).length<=1000) (hp:∀w,some w∈pat->w.length<=100000) (ht:∀t∈ts,t.tx.length<=100000) (q:∀a H',gC H H'->PtA H H' M a m ("("++Str.join " " (txF pat ts)++")") ts->Q (.ref a) H')
def vZ:Sp:=fun vs H Q _=>XFo vs H Q
theorem lA (T:Txt K mg):FO P w base 1 T.d31 vZ:=by
 refine T.d31.F.rd jj fun _ A _ s H vs Q E hr h=>?_;obtain⟨M,m,pl,il,pat,xs,ts,rfl,hM,ep,ei,hx,hc,hl,hz,hp,ht,q⟩:=h;refine⟨_,(f9 (pS (i:=3) jj.nd (gT gf))
  (f9 (pS (i:=4) jj.nd (gT (fZ gE (fZ lM (fZ (gT (fZ (cv 0) gf)) (fZ (gT gf) (fZ (gT gf) gf)))))))
  (f9 (pS (i:=5) jj.nd gh)
  (f9 (jb PassesOwn.never rfl (jq (cv 1)) (pN (i:=6) jj.nd)
   (gj (ie (sh (CN (cv 6)))
    (f9 (gL (iS (jt fc fe fg gR (PE.mono (cv 3)) (fZ (PE.mono (gy gJ (gy gJ (cv 2) (cv 5)) gh)) gf))))
    (f9 (jb PassesOwn.never rfl (jq (gT (fZ gh (fZ gh (fZ gh gf))))) (pN (i:=7) jj.nd)
     (gj (sk (gX pU (gy gJ (cv 4) (cv 7)) (gy gJ (gy gJ (cv 2) (cv 5)) (cv 7))) (sj (cv 4) (cv 7) nh))))
    (gj (pS (i:=5) jj.nd (gX nB (cv 5) gh)))))
    (gj (gL (iS (jt fc fe fg gR (PE.mono (cv 3)) (fZ (PE.mono (cv 6)) gf))))))))
  (f9 (sk (gX lD (gX lD gE (jt fb fk fq AH gE (fZ (cv 3) gf))) gE) (sj (cv 4) gh nh))
  (gj (gG (cv 4)))))))),?_⟩;have sl:=sizeLine_eq;refine⟨pP,fun tl htl=>?_⟩;have S1:=gi htl (.lst []);have et:(upd H tl (.lst [])) tl=some (.lst []):=gb;dsimp only[gY];generalize upd H tl (.lst [])=H1 at S1 et⊢;refine⟨wo,fun l2 h2=>⟨pP,fun l3 h3=>⟨pP,fun l4 h4=>⟨HF,fun wl hwl=>?_⟩⟩⟩⟩;have S2:=gi h2 (.lst [.int m]);have S3:=gi h3 (.lst []);have S4:=gi h4 (.lst []);have S5:=gi hwl (.lst [.str "",.non,.ref l2,.ref l3,.ref l4]);have S15:=((S2.trans S3).trans S4).trans S5;have g2:=((S3.trans S4).trans S5) _ _ (gb (H:=H1) (a:=l2) (o:= .lst [.int m]));have g3:=(S4.trans S5) _ _ (gb (a:=l3) (o:= .lst []));have g4:=S5 _ _ (gb (a:=l4) (o:= .lst []));have gw:=gb (H:=upd (upd (upd H1 l2 (.lst [.int m])) l3 (.lst [])) l4 (.lst [])) (a:=wl) (o:= .lst [.str "",.non,.ref l2,.ref l3,.ref l4]);have n3:=S2.free h3;have n4:=(S2.trans S3).free h4;have nw:=((S2.trans S3).trans S4).free hwl;have et2:=S15 _ _ et;have hwl0:H wl=none:=S1.free nw;have ntw:tl≠wl:=gr et nw;have w2:l2≠wl:=gr ((S3.trans S4) _ _ (gb (a:=l2))) hwl;have w3:l3≠wl:=gr (S4 _ _ (gb (a:=l3))) hwl;have w4:l4≠wl:=gr (gb (a:=l4)) hwl;have S02:=S1.trans S15;dsimp only[gY];generalize upd (upd (upd (upd H1 l2 (.lst [.int m])) l3 (.lst [])) l4 (.lst [])) wl (.lst [.str "",.non,.ref l2,.ref l3,.ref l4])=H2 at g2 g3 g4 gw et2 S02⊢;clear S2 S3 S4 S5 S15 hwl h3 h4;have notN:∀{b:Zx},H1 b=none->b≠wl->b∉tl::wl::M:=fun{b} h n z=>by
  rcases ak.mp z with z|z;·rw[z,et]at h;cases h
  ·rcases ak.mp z with z|z;·exact n z
   ·exact vX hM (S1.free h) z
 have mN:∀{H3:Hp},gC H H3->gC (mask H M) (mask H3 (tl::wl::M)):=fun S b u e=>by
  obtain⟨e1,e2⟩:=jn e;refine ic (fun z=>?_) (S _ _ e2);rcases ak.mp z with z|z;·rw[z,htl]at e2;cases e2
  ·rcases ak.mp z with z|z;·rw[z,hwl0]at e2;cases e2
   ·exact e1 z
 have P0:PaS H2 (tl::wl::M) wl m ts 0 2:=by
  refine⟨fun j=>if j=2 then l2 else if j=3 then l3 else l4,gw,fun j j2 j5=>?_⟩;rw[gN (by lia:¬j<2)];unfold pD;dsimp only;by_cases z:j=2;·rw[gU z,gU z];exact⟨_,ic (notN h2 w2) g2,.cons (.flat rfl) .nil⟩
  ·rw[gN z,gN z];by_cases z:j=3;·rw[gU z,gU z];exact⟨_,ic (notN n3 w3) g3,.nil⟩
   ·rw[gN z,gN z];exact⟨_,ic (notN n4 w4) g4,.nil⟩
 refine⟨pl,rfl,⟨_,SqL.of (S02 _ _ ep)⟩,jE (xs:=pat.map oV) (fun i σ H3=>X2 fun o6 o7=>Y4 (σ=[some (.int m),some (.ref pl),some (.ref il),some (.ref tl),some (.ref wl),some (.int ((cN (pat.take i):Nat):Int)),o6,o7]) (gC H H3) (H3 tl=some (.lst ((txF (pat.take i) ts).map V.str))) (PaS H3 (tl::wl::M) wl m ts (cN (pat.take i)) 2)) ⟨_,_,rfl,S02,et2,P0⟩ (fun i σ H3 _ ⟨_,_,_,S,_,_⟩=>SqL.of (S _ _ ep)) ?_ ?_⟩
 ·rintro i v σ H3 hv ⟨o6,o7,rfl,S3,e3,P3⟩;rw[aO]at hv;obtain⟨o,ho,rfl⟩:=dI.mp hv;have hil:=(au.mp ho).1;have tk:pat.take (i+ 1)=pat.take i++[o]:=by rw[cf,ho];rfl
  have ck:cN pat=cN (pat.take (i+ 1))+cN (pat.drop (i+ 1)):=by rw[<-p8,cb]
  have lt:=uD (pat.take i) ts;rw[aK]at lt;rw[tk,p8]at ck;have uw:∀{z:HO},(upd H3 tl z) wl=H3 wl:=gx ntw.symm;have ft:∀{z:HO},Fr (tl::wl::M) H3 (upd H3 tl z):=kX.le (fun a ha=>by rw[bo.mp ha];exact ah)
  cases o with
  |some w=>
   refine⟨_,rfl,?_⟩;dsimp only;rw[ik (show oV (some w)≠ .non from fun z=>nomatch z)];refine iL ⟨⟨_,e3⟩,_,e3,by rw[aD];lia,?_⟩;have hk:cN (pat.take i)<=ts.length:=by lia
   refine⟨_,_,by rw[tk,p8];rfl,hG S3 htl _,?_,?_⟩;·rw[gb,tk,uB hk,bp];rfl
   ·rw[tk,p8];exact P3.fr ft uw
  |none=>
   have hk:cN (pat.take i)<ts.length:=by have:cN [none]=1:=rfl;lia
   obtain⟨t,ht'⟩:∃t,ts[cN (pat.take i)]?=some t:=⟨_,bF hk⟩;have tks:ts.take (cN (pat.take i)+ 1)=ts.take (cN (pat.take i))++[t]:=by rw[cf,ht'];rfl
   obtain⟨x,hxk,hX⟩:=(hx.same (mN S3)).at ht';obtain⟨ai,vi,B,rfl,eai,_,tb,hB⟩:=hX;have eai3:=gP _ _ eai;refine⟨_,rfl,?_⟩;dsimp only;rw[hI (show oV none= .non from rfl)];refine jJ ⟨⟨_,e3⟩,_,S3 _ _ ei,gu (gq hxk) ⟨_,eai3,gu (gq (j:=0) rfl) ⟨_,e3,by rw[aD];lia,?_⟩⟩⟩;have S4:=hG S3 htl (.lst ((txF (pat.take i) ts).map V.str++[.str t.tx]));have e4:(upd H3 tl (.lst ((txF (pat.take i) ts).map V.str++[.str t.tx]))) tl=some (.lst ((txF (pat.take (i+ 1)) ts).map V.str)):=by rw[gb,tk,uC ht',bp];rfl
   have P4:=P3.fr (ft (z:= .lst ((txF (pat.take i) ts).map V.str++[.str t.tx]))) uw;have F4:=(ft (z:= .lst ((txF (pat.take i) ts).map V.str++[.str t.tx]))).mask;dsimp only;generalize upd H3 tl (.lst ((txF (pat.take i) ts).map V.str++[.str t.tx]))=H4 at S4 e4 P4 F4⊢;refine⟨qq,fun lp hlp=>⟨lp,rfl,⟨_,SqL.of gb⟩,?_⟩⟩;have S5:=gi hlp (.lst [.int 2,.int 3,.int 4]);have F5:gC (mask H3 (tl::wl::M)) (mask (upd H4 lp (.lst [.int 2,.int 3,.int 4])) (tl::wl::M)):=fun b u e=>gZ S5 _ _ (F4 _ _ e);have wlp:wl≠lp:=by obtain⟨_,e,_⟩:=P4;exact gr e hlp
   have tlp:tl≠lp:=gr e4 hlp;refine jE (xs:=[.int 2,.int 3,.int 4]) (fun j σ H5=>∃o7,Y6 (σ=[some (.int m),some (.ref pl),some (.ref il),some (.ref tl),some (.ref wl),some (.int ((cN (pat.take i):Nat):Int)),some .non,o7]) (gC H H5) (H5 tl=some (.lst ((txF (pat.take (i+ 1)) ts).map V.str))) (H5 lp=some (.lst [.int 2,.int 3,.int 4])) (gC (mask H3 (tl::wl::M)) (mask H5 (tl::wl::M))) (PaS H5 (tl::wl::M) wl m ts (cN (pat.take i)) (j+ 2))) ⟨_,rfl,S4.trans S5,S5 _ _ e4,gb,F5,P4.fr (Fr.same S5) (gx wlp)⟩ (fun j σ H5 _ ⟨_,_,_,_,e,_,_⟩=>SqL.of e) ?_ ?_
   ·rintro j v σ H5 hv ⟨o7,rfl,S5,e5,el5,F5,A5,ew5,hp5⟩;have hj:j<3:=(au.mp hv).1;obtain⟨rfl,at1,at2,ix,st⟩:v= .int ((j+ 2:Nat):Int)/\atI [V.str "",.non,.ref (A5 2),.ref (A5 3),.ref (A5 4)] ((j+ 2:Nat):Int)=some (.ref (A5 (j+ 2)))/\atI [V.str t.tx,vi,.ref (B 2),.ref (B 3),.ref (B 4)] ((j+ 2:Nat):Int)=some (.ref (B (j+ 2)))/\ixN 5 ((j+ 2:Nat):Int)=some (j+ 2)/\∀z:Zx,([V.str "",.non,.ref (A5 2),.ref (A5 3),.ref (A5 4)]).set (j+ 2) (.ref z)=[.str "",.non,.ref (if 2=j+ 2 then z else A5 2),.ref (if 3=j+ 2 then z else A5 3),.ref (if 4=j+ 2 then z else A5 4)]:=by
     match j,hj,hv with
     |0,_,hv=>cases hv;exact⟨rfl,rfl,rfl,rfl,fun z=>rfl⟩
     |1,_,hv=>cases hv;exact⟨rfl,rfl,rfl,rfl,fun z=>rfl⟩
     |2,_,hv=>cases hv;exact⟨rfl,rfl,rfl,rfl,fun z=>rfl⟩
    obtain⟨us,eu,iu⟩:=hp5 (j+ 2) (by lia) (by lia);obtain⟨zs,ez,iz⟩:=hB (j+ 2) (by lia) (by lia);rw[gN (by lia:¬j+ 2<j+ 2)]at iu;have lu:=iu.length;have lz:=iz.length;have b1:=BE m (j+ 2) (ts:=ts.take (cN (pat.take i))) fun u hu=>hx.b u (cB hu);have b2:=Hv (j+ 2) tb;have b3:(msJ (ts.take (cN (pat.take i)))).length+t.ms.length<=(msJ ts).length:=by
     conv=>rhs;rw[<-cb (cN (pat.take i)+ 1) ts,rK,tks,rK,msJ,msJ,aE,aR,aR]
     lia
    refine⟨_,ew5,gu at1 ⟨_,S5 _ _ ei,gu (gq hxk) ⟨_,gP _ _ (F5 _ _ eai),gu at2 ⟨_,_,_,_,rfl,rfl,gP _ _ eu,gP _ _ (F5 _ _ ez),by lia,fun p hp'=>?_⟩⟩⟩⟩;have S6:=gi hp' (.lst (us++zs));have np:p∉tl::wl::M:=fun z=>by
     rcases ak.mp z with z|z;·rw[z,e5]at hp';cases hp'
     ·rcases ak.mp z with z|z;·rw[z,ew5]at hp';cases hp'
      ·exact vX hM (S5.free hp') z
    refine⟨wl,_,_,_,rfl,rfl,S6 _ _ ew5,ix,?_⟩;rw[st];have F7:Fr (tl::wl::M) (upd H5 p (.lst (us++zs))) (upd (upd H5 p (.lst (us++zs))) wl (.lst [.str "",.non,.ref (if 2=j+ 2 then p else A5 2),.ref (if 3=j+ 2 then p else A5 3),.ref (if 4=j+ 2 then p else A5 4)])):=kX.le (fun a ha=>by rw[bo.mp ha];exact aj _ ah);have F67:gC (mask H5 (tl::wl::M)) (mask (upd (upd H5 p (.lst (us++zs))) wl (.lst [.str "",.non,.ref (if 2=j+ 2 then p else A5 2),.ref (if 3=j+ 2 then p else A5 3),.ref (if 4=j+ 2 then p else A5 4)])) (tl::wl::M)):=fun b u e=>F7.mask _ _ (gZ S6 _ _ e);refine⟨_,rfl,hG (S5.trans S6) hwl0 _,by rw[gx ntw];exact S6 _ _ e5,by rw[gx wlp.symm];exact S6 _ _ el5,fun b u e=>F67 _ _ (F5 _ _ e),fun i=>if i=j+ 2 then p else A5 i,gb,fun i' i2 i5=>?_⟩;dsimp only;by_cases z:i'=j+ 2;·rw[gU z,gU (by lia:i'<j+ 1+ 2),z,tks,Fe];exact⟨_,F7.mask _ _ (ic np gb),(iu.mono (gC.tk F67)).app (iz.mono (gC.tk fun b u e=>F67 _ _ (F5 _ _ e)))⟩
    ·rw[gN z];obtain⟨ys,e,ii⟩:=hp5 i' i2 i5;rw[show(if i'<j+ 1+ 2 then cN (pat.take i)+ 1 else cN (pat.take i))=if i'<j+ 2 then cN (pat.take i)+ 1 else cN (pat.take i) by split<;>split<;>lia];exact⟨ys,F67 _ _ e,ii.mono (gC.tk F67)⟩
   ·rintro σ H5 ⟨o7,rfl,S5,e5,_,F5,A5,ew5,hp5⟩;refine⟨_,_,by rw[tk,p8];rfl,S5,e5,A5,ew5,fun j j2 j5=>?_⟩;obtain⟨ys,e,i⟩:=hp5 j j2 j5;rw[gU (show j<([V.int 2,V.int 3,V.int 4]).length+ 2 from j5)]at i;rw[gN (by lia:¬j<2),tk,p8];exact⟨ys,e,i⟩
 ·rintro σ H3 ⟨o6,o7,rfl,S3,e3,A3,ew3,hp3⟩;rw[aD,bz]at e3 hp3;have lt:=uD pat ts;have bt:=xC hp ht;have l1:=BF bt;have l2:=yK (z:=" ") bt;have l3:(txF pat ts).length*100000<=40*100000:=dD _ (by lia);have l4:(txF pat ts).length*(100000+(" ":Str).length)<=40*100001:=by rw[show(" ":Str).length=1 by decide+kernel];exact dD _ (by lia)
  refine⟨rfl," ",tl,_,rfl,rfl,SqL.of e3,by rw[show(" ":Str).length=1 by decide+kernel];lia,?_⟩;refine⟨by rw[show("(":Str).length=1 by decide+kernel];lia,by rw[Str.length_append,show("(":Str).length=1 by decide+kernel,show(")":Str).length=1 by decide+kernel];lia,?_⟩;refine⟨wl,_,0,0,rfl,rfl,ew3,rfl,?_⟩;have F4:Fr (tl::wl::M) H3 (upd H3 wl (.lst [.str ("("++Str.join " " (txF pat ts)++")"),.non,.ref (A3 2),.ref (A3 3),.ref (A3 4)])):=kX.le (fun a ha=>by rw[bo.mp ha];exact aj _ ah);refine q wl _ (hG S3 hwl0 _) ⟨A3,hwl0,gb,fun j j2 j5=>?_⟩;obtain⟨ys,e,i⟩:=hp3 j j2 j5;rw[gN (by lia:¬j<2),hc,bz]at i;have F5:gC (mask H3 (tl::wl::M)) (mask (upd H3 wl (.lst [.str ("("++Str.join " " (txF pat ts)++")"),.non,.ref (A3 2),.ref (A3 3),.ref (A3 4)])) (wl::M)):=fun b u e=>rL (fun a ha=>aj _ ha) _ _ (F4.mask _ _ e);exact⟨fun z=>(jn e).1 (by rw[z];exact aj _ ah),ys,F5 _ _ e,i.mono (gC.tk F5)⟩
theorem PtA.same {H0 H H':Hp} {M:List Zx} {a:Zx} {m:Int} {x:Str} {ts:List Jt} (h:PtA H0 H M a m x ts) (s:gC H H'):PtA H0 H' M a m x ts:=by obtain⟨A,h0,ea,hp⟩:=h;exact⟨A,h0,s _ _ ea,fun j j2 j5=>let⟨n,xs,e,i⟩:=hp j j2 j5;⟨n,xs,gZ s _ _ e,i.mono (gC.tk (gZ s))⟩⟩
theorem yL {H:Hp}:∀{ps:List Int} {xs:List V},Ims H xs (ps.map kD)->xs=ps.map V.int
 |[],xs,h=>by cases h;rfl
 |p::ps,xs,h=>by
  rw[aC,kD]at h
  cases h with
  |cons h t=>cases h;rw[yL t];rfl
inductive XVa (vs:List V) (H:Hp) (Q:VK):Prop
 |mk (H0:Hp) (M:List Zx) (a ml:Zx) (v:V) (m:Int) (x:Str) (ts:List Jt) (t:Jt) (mts:List (Int×Int×Int)) (zs:List V) (e:vs=[.ref a,v,.ref ml]) (S:gC H0 H) (hM:∀b∈M,∃o,H0 b=some o) (p:PtA H0 H M a m x ts) (u:Vl) (hu:t.val=u) (iv:Im (mask H (a::M)) v u.d) (em:(mask H (a::M)) ml=some (.lst zs)) (im:Ims (mask H (a::M)) zs (mts.map meD)) (h1:t.tx=x) (h2:t.ms=m::msJ ts) (h3:t.ha=haJ ts++[(m,u.p)]) (h4:t.me=meJ ts++mts) (hz:(msJ ts).length<=1000) (hm:mts.length<=1) (hb:∀t∈ts,t.b) (q:∀H',gC H0 H'->XtA (mask H' M) (.ref a) t->Q (.ref a) H')
def r6:Sp:=fun vs H Q _=>XVa vs H Q
theorem kr (T:Txt K mg):FO P w base 1 T.d32 r6:=by
 refine T.d32.F.rd rT fun _ A _ s H vs Q E hr h=>?_;obtain⟨H0,M,a,ml,v,m,x,ts,t,mts,zs,rfl,S,hM,⟨A,h0,ea,hp⟩,u,hu,iv,em,im,h1,h2,h3,h4,hz,hm,hb,q⟩:=h;refine⟨_,(f9 (sk (cv 1) (sj (cv 0) gh nh))
  (f9 (sk (gX pU (gy gJ (cv 0) gh) (gT (fZ (ij (fZ (gy gJ (gy gJ (cv 0) gh) gh) (fZ (gy gA (cv 1) (y0 sq gh)) gf))) gf))) (sj (cv 0) gh nh))
  (f9 (sk (gX pU (gy gJ (cv 0) gh) (cv 2)) (sj (cv 0) gh nh))
  (gj (gG (cv 0)))))),?_⟩;have sl:=sizeLine_eq;obtain⟨n2,x2,e2,i2⟩:=hp 2 (by decide) (by decide);obtain⟨n3,x3,e3,i3⟩:=hp 3 (by decide) (by decide);obtain⟨n4,x4,e4,i4⟩:=hp 4 (by decide) (by decide);have l3:=i3.length;have l4:=i4.length;have l5:=im.length;rw[aD]at l5;have b3:=BE m 3 hb;have b4:=BE m 4 hb;have hx2:x2=(m::msJ ts).map V.int:=yL i2;subst hx2;obtain⟨tv,y,rfl,ev,_⟩:=oN iv;refine⟨a,_,1,1,rfl,rfl,ea,rfl,?_⟩;have F1:Fr (a::M) H (upd H a (.lst [.str x,.ref tv,.ref (A 2),.ref (A 3),.ref (A 4)])):=kX.le (fun b hb=>by rw[bo.mp hb];exact ah);have ea1:(upd H a (.lst [.str x,.ref tv,.ref (A 2),.ref (A 3),.ref (A 4)])) a=some (.lst [.str x,.ref tv,.ref (A 2),.ref (A 3),.ref (A 4)]):=gb;have S1:gC H0 (upd H a (.lst [.str x,.ref tv,.ref (A 2),.ref (A 3),.ref (A 4)])):=hG S h0 _;show BZ _ _ _ [some (.ref a),some (.ref tv),some (.ref ml)] (upd H a (.lst [.str x,.ref tv,.ref (A 2),.ref (A 3),.ref (A 4)]));generalize upd H a (.lst [.str x,.ref tv,.ref (A 2),.ref (A 3),.ref (A 4)])=H1 at F1 ea1 S1⊢;have K1:=F1.mask;refine⟨_,ea1,gu (gq (j:=3) rfl) ⟨_,ea1,gu (gq (j:=2) rfl) ⟨_,gP _ _ (K1 _ _ e2),gu (gq (j:=0) rfl) ⟨_,rfl,_,gP _ _ (K1 _ _ ev),gu (by rfl) ⟨ow,fun t2 k2=>⟨wo,fun lt k3=>?_⟩⟩⟩⟩⟩⟩;have S2:=gi k2 (.tup [.int m,.int u.p]);have S3:=gi k3 (.lst [.ref t2]);have S23:=S2.trans S3;have K2:gC (mask H (a::M)) (mask (upd (upd H1 t2 (.tup [.int m,.int u.p])) lt (.lst [.ref t2])) (a::M)):=fun b u e=>gZ S23 _ _ (K1 _ _ e);have nN:∀{H':Hp} {b:Zx},gC H0 H'->H' a=some (.lst [.str x,.ref tv,.ref (A 2),.ref (A 3),.ref (A 4)])->H' b=none->b∉a::M:=fun S' e' h z=>by
  rcases ak.mp z with z|z;·rw[z,e']at h;cases h
  ·exact vX hM (S'.free h) z
 have et2:=ic (nN S1 ea1 k2) (S3 _ _ (gb (a:=t2) (o:= .tup [.int m,.int u.p])));refine⟨_,_,_,_,rfl,rfl,gP _ _ (K2 _ _ e3),gb,by show x3.length+ 1<=_;lia,fun p hp'=>?_⟩;have S4:=gi hp' (.lst (x3++[.ref t2]));have ea4:=(S23.trans S4) _ _ ea1;have np:=nN (S1.trans S23) (S23 _ _ ea1) hp';have ep:mask (upd (upd (upd H1 t2 (.tup [.int m,.int u.p])) lt (.lst [.ref t2])) p (.lst (x3++[.ref t2]))) (a::M) p=some (.lst (x3++[.ref t2])):=ic np gb;have K4:gC (mask H (a::M)) (mask (upd (upd (upd H1 t2 (.tup [.int m,.int u.p])) lt (.lst [.ref t2])) p (.lst (x3++[.ref t2]))) (a::M)):=fun b u e=>gZ S4 _ _ (K2 _ _ e);have ip:Ims (mask (upd (upd (upd H1 t2 (.tup [.int m,.int u.p])) lt (.lst [.ref t2])) p (.lst (x3++[.ref t2]))) (a::M)) (x3++[.ref t2]) (qD 3 t):=by show Ims _ _ (t.ha.map haD);rw[h3,bp];exact(i3.mono (gC.tk K4)).app (.cons (.tup (gZ S4 _ _ et2) (.cons (.flat rfl) (.cons (.flat rfl) .nil))) .nil)
 have S04:=S1.trans (S23.trans S4);dsimp only;generalize upd (upd (upd H1 t2 (.tup [.int m,.int u.p])) lt (.lst [.ref t2])) p (.lst (x3++[.ref t2]))=H4 at S04 K4 ea4 ep ip⊢;refine⟨a,_,3,3,rfl,rfl,ea4,rfl,?_⟩;have F5:Fr (a::M) H4 (upd H4 a (.lst [.str x,.ref tv,.ref (A 2),.ref p,.ref (A 4)])):=kX.le (fun b hb=>by rw[bo.mp hb];exact ah);have ea5:(upd H4 a (.lst [.str x,.ref tv,.ref (A 2),.ref p,.ref (A 4)])) a=some (.lst [.str x,.ref tv,.ref (A 2),.ref p,.ref (A 4)]):=gb;have S05:gC H0 (upd H4 a (.lst [.str x,.ref tv,.ref (A 2),.ref p,.ref (A 4)])):=hG S04 h0 _;show BZ _ _ _ [some (.ref a),some (.ref tv),some (.ref ml)] (upd H4 a (.lst [.str x,.ref tv,.ref (A 2),.ref p,.ref (A 4)]));generalize upd H4 a (.lst [.str x,.ref tv,.ref (A 2),.ref p,.ref (A 4)])=H5 at F5 ea5 S05⊢;have K5:gC (mask H (a::M)) (mask H5 (a::M)):=fun b u e=>F5.mask _ _ (K4 _ _ e);refine⟨_,ea5,gu (gq (j:=4) rfl) ⟨_,_,_,_,rfl,rfl,gP _ _ (K5 _ _ e4),gP _ _ (K5 _ _ em),by lia,fun r hr'=>?_⟩⟩;have S6:=gi hr' (.lst (x4++zs));have nr:r∉a::M:=fun z=>by
  rcases ak.mp z with z|z;·rw[z,ea5]at hr';cases hr'
  ·exact vX hM (S05.free hr') z
 refine⟨a,_,4,4,rfl,rfl,S6 _ _ ea5,rfl,?_⟩;have F7:Fr (a::M) (upd H5 r (.lst (x4++zs))) (upd (upd H5 r (.lst (x4++zs))) a (.lst [.str x,.ref tv,.ref (A 2),.ref p,.ref r])):=kX.le (fun b hb=>by rw[bo.mp hb];exact ah);have K57:gC (mask H5 (a::M)) (mask (upd (upd H5 r (.lst (x4++zs))) a (.lst [.str x,.ref tv,.ref (A 2),.ref p,.ref r])) M):=fun b u e=>rL (fun c hc=>aj _ hc) _ _ (F7.mask _ _ (gZ S6 _ _ e));have K7:gC (mask H (a::M)) (mask (upd (upd H5 r (.lst (x4++zs))) a (.lst [.str x,.ref tv,.ref (A 2),.ref p,.ref r])) M):=fun b u e=>K57 _ _ (K5 _ _ e);refine q _ (hG (S05.trans S6) h0 _) ⟨a,.ref tv,fun j=>if j=2 then A 2 else if j=3 then p else r,rfl,by rw[h1];exact ic (vX hM h0) gb,by rw[hu];exact iv.mono (gC.tk K7),?_,fun j j2 j5=>?_⟩;·obtain⟨g1,g2⟩:=Fg hb;unfold Jt.b;rw[h2,h3,h4];simp only[aR,aA,aW];lia
 obtain rfl|rfl|rfl:j=2\/j=3\/j=4:=by lia
 ·exact⟨_,K7 _ _ e2,by show Ims _ _ (t.ms.map kD);rw[h2];exact i2.mono (gC.tk K7)⟩
 ·exact⟨_,K57 _ _ (F5.mask _ _ ep),ip.mono (gC.tk fun b u e=>K57 _ _ (F5.mask _ _ e))⟩
 ·exact⟨_,rL (fun c hc=>aj _ hc) _ _ (F7.mask _ _ (ic nr gb)),by show Ims _ _ (t.me.map meD);rw[h4,bp];exact(i4.mono (gC.tk K7)).app (im.mono (gC.tk K7))⟩
open GR.Internal (isName)
mutual
def Vl.ok (ws:Zd):Vl->Prop
 | .num _ _=>True
 | .rcd l _=>(1<=(fdL l).length/\(fdL l).length<=6/\((fdL l).map Prod.fst).Nodup)/\l.ok ws
 | .tag w v _=>w∈ws/\v.ok ws
def Vls.ok (ws:Zd):Vls->Prop
 | .nil=>True
 | .cons w v t=>w∈ws/\v.ok ws/\t.ok ws
end
theorem BG {ws:Zd}:∀{l:Vls},l.ok ws↔∀p∈fdL l,p.1∈ws/\p.2.ok ws
 | .nil=>by rw[Vls.ok];exact⟨(fun _ p hp=>nomatch hp),fun _=>trivial⟩
 | .cons w v t=>by
  rw[Vls.ok,BG (l:=t)];refine⟨fun⟨a,b,c⟩ p hp=>?_,fun h=>⟨(h _ ah).1,(h _ ah).2,fun p hp=>h p (aj _ hp)⟩⟩;rcases ak.mp hp with rfl|hp;·exact⟨a,b⟩
  ·exact c p hp
structure Ti (ws:Zd) (vs:List Vl) (t:Xt) (lo hi d:Nat):Prop where
 ok:t.ok ws vs
 vo:t.val.ok ws
 nd:t.ms.Nodup
 rg:∀m∈t.ms,(lo:Int)<m/\m<=(hi:Int)
 ns:t.tr.nest<=d
 l:t.ms.length<=hi-lo
theorem pO (m:Int) (κ:Kx) (ks:List Xt):(Xt.mk m κ ks).tr.nest=1+TM.Internal.nests (trX ks++κ.lt):=by rw[Xt.tr,TM.Internal.Tr.nest]
theorem mW:∀a b:List TM.Internal.Tr,TM.Internal.nests (a++b)=max (TM.Internal.nests a) (TM.Internal.nests b)
 |[],b=>by rw[bW,TM.Internal.nests,Nat.zero_max]
 |t::a,b=>by rw[aV,TM.Internal.nests,TM.Internal.nests,mW a b,Nat.max_assoc]
theorem nv (t:Xt) (ts:List Xt):TM.Internal.nests (trX (t::ts))=max t.tr.nest (TM.Internal.nests (trX ts)):=by rw[trX,TM.Internal.nests]
theorem mX:TM.Internal.nests (trX [])=0:=by rw[trX,TM.Internal.nests]
theorem DP {ws:Zd} {vs:List Vl} {t:Xt} {lo n d:Nat} {κ:Kx} (h:Ti ws vs t lo n d) (hl:lo<=n) (ok:κ.ok ws vs [t.val]) (hm:κ.lm=[]/\κ.lt=[]) (vo:(κ.v ((n+ 1:Nat):Int) [t.val]).ok ws):Ti ws vs (.mk ((n+ 1:Nat):Int) κ [t]) lo (n+ 1) (d+ 1):=by
 obtain⟨h1,h2,h3,h4,h5,h6⟩:=h;have em:(Xt.mk ((n+ 1:Nat):Int) κ [t]).ms=((n+ 1:Nat):Int)::t.ms:=by rw[Xt.ms,msX,msX,hm.1,aE,aE]
 refine⟨by rw[Xt.ok,okL,okL,ir,ir];exact⟨ok,h1,trivial⟩,by rw[Xt.val,ir,ir];exact vo,?_,fun m hm'=>?_,?_,?_⟩;·rw[em];exact aF.mpr ⟨fun z=>by have:=(h4 _ z).2;lia,h3⟩
 ·rw[em]at hm';rcases ak.mp hm' with rfl|z;·lia
  ·have:=h4 _ z;lia
 ·rw[pO,hm.2,aE,nv,mX];lia
 ·rw[em,aA];lia
theorem Ti.tx {ws:Zd} {vs:List Vl} {t:Xt} {lo n d:Nat} (h:Ti ws vs t lo n d) (hw:∀w∈ws,isName w=true) (hn:n<=1000):t.j.tx.length<=100000/\t.j.ms.length<=1000:=by have:=(t.gt hw h.ok).1.l;have:=h.l;exact⟨by show t.tx.length<=_;lia,by show t.ms.length<=_;lia⟩
theorem Ti.b {ws:Zd} {vs:List Vl} {t:Xt} {lo n d:Nat} (h:Ti ws vs t lo n d):t.j.b:=t.lens h.ok
theorem DQ {H H':Hp} {M:List Zx} {fr:Zx} {n:Nat} (hM:∀b∈M,∃o,H b=some o) (F:Fr [fr] H H') (f:Fh H' fr n):∀b∈M,∃o,H' b=some o:=fun b hb=>by
 by_cases z:b=fr;·rw[z];exact⟨_,f⟩
 ·obtain⟨u,e⟩:=hM b hb;exact⟨u,F _ _ e (fun y=>z (bo.mp y))⟩
theorem v3 {H H':Hp} {M:List Zx} {fr:Zx} (F:Fr [fr] H H') (hf:fr∈M):gC (mask H M) (mask H' M):=(F.le (N:=M) (fun a ha=>by rw[bo.mp ha];exact hf)).mask
section
variable {H5 H6 H7:Hp} {M:List Zx} {wl:Zx} {m:Int} {x:Str} {ts:List Jt}
theorem nwO {c:Zx} {u:HO} (pt:PtA H5 H7 M wl m x ts) (S:gC H5 H7) (e:mask H5 M c=some u):mask H7 (wl::M) c=some u:=by obtain⟨A,h0,_,_⟩:=pt;obtain⟨e1,e2⟩:=jn e;exact ic (fun z=>by rcases ak.mp z with z|z;rw[z,h0]at e2;cases e2;exact e1 z) (S _ _ e2)
theorem nwN {c:Zx} {u:HO} (hM:∀b∈M,∃o,H5 b=some o) (pt:PtA H5 H6 M wl m x ts) (S:gC H5 H6) (h:H6 c=none) (e:H7 c=some u):mask H7 (wl::M) c=some u:=by obtain⟨A,_,ea,_⟩:=pt;exact ic (fun z=>by rcases ak.mp z with z|z;rw[z,ea]at h;cases h;exact vX hM (S.free h) z) e
end
def mx (n:Nat):Nat:=if 34<=n then 1 else if n<16 then 6 else 4
structure Mk5 (ws:Zd) (vs:List Vl) (M:List Zx) (fr wl:Zx) (n lo d:Nat) (H:Hp) (x:V) (t:Xt):Prop where
 hM:∀b∈M,∃o,H b=some o
 hf:fr∈M
 ef:Fh H fr n
 hn:n<=900
 hl:lo<=n
 hw:∀w∈ws,isName w=true
 n16:ws.length=16
 wn:ws.Nodup
 ew:mask H M wl=some (.lst (ws.map V.str))
 X:XtA (mask H M) x t.j
 ti:Ti ws vs t lo n d
 hd:1<=d
def Rs (ws:Zd) (vs:List Vl) (M:List Zx) (fr:Zx) (n lo d:Nat) (H:Hp) (Q:VK):Prop:=∀x' H' t' n',n<n'->n'<=n+ 1+mx n->Fr [fr] H H'->Fh H' fr n'->XtA (mask H' M) x' t'.j->Ti ws vs t' lo n' (d+ 1)->Q x' H'
theorem DR (n:Nat):1<=mx n:=by unfold mx;split<;>(try split)<;>decide
inductive XTg (vs':List V) (H:Hp) (Q:VK):Prop
 |mk (ws:Zd) (vs:List Vl) (M:List Zx) (fr wl:Zx) (n lo d:Nat) (x:V) (t:Xt) (c:Int) (e:vs'=[.ref fr,.ref wl,x,.int c]) (h:Mk5 ws vs M fr wl n lo d H x t) (hc:0<=c) (q:Rs ws vs M fr n lo d H Q)
def xD:Sp:=fun vs H Q _=>XTg vs H Q
theorem xE (T:Txt K mg):FO P w base 2 T.d42 xD:=by
 refine T.d42.F.rd nX fun _ A _ s H vs Q E hr h=>?_;obtain⟨ws,vs,M,fr,wl,n,lo,d,x,t,c,rfl,⟨hM,hf,ef,hn,hl,hw,n16,wn,ew,X,ti,hd⟩,hc,q⟩:=h;refine⟨_,(f9 (pS (i:=4) nX.nd (pF T.d28 (jK T) hr.m (fZ (cv 0) gf)))
  (f9 (pS (i:=5) nX.nd (gy gJ (cv 1) (gX jo (cv 3) gh)))
  (gj (gG (pF T.d32 (kr T) hr.m (fZ (pF T.d31 (lA T) hr.m (fZ (cv 4) (fZ (gT (fZ gE (fZ (cv 5) (fZ lM gf)))) (fZ (gT (fZ (cv 2) gf)) gf)))) (fZ (ij (fZ gE (fZ (ij (fZ (cv 5) (fZ (gy gJ (cv 2) gh) gf))) (fZ (cv 4) gf)))) (fZ (gT gf) gf)))))))),?_⟩;refine⟨fr,n,rfl,ef,by lia,?_⟩;have ef1:Fh (upd H fr (.lst (aH (n+ 1) .non))) fr (n+ 1):=gb;have F1:Fr [fr] H (upd H fr (.lst (aH (n+ 1) .non))):=kX;have hM1:=kW (a:=fr) (o:= .lst (aH (n+ 1) .non)) hM;replace X:=X.same (v3 F1 hf);replace ew:=v3 F1 hf _ _ ew;dsimp only[gY];generalize upd H fr (.lst (aH (n+ 1) .non))=H1 at ef1 F1 hM1 X ew⊢;obtain⟨j,hj,hj16⟩:∃j:Nat,c%16=(j:Int)/\j<16:=⟨(c%16).toNat,by lia,by lia⟩;have hj:c%16=(j:Int):=hj;obtain⟨wd,hwd⟩:∃wd,ws[j]?=some wd:=⟨_,bF (by lia)⟩;have mem:=aQ hwd;refine⟨(by show(0:Int)<16;decide),_,gP _ _ ew,gu (by rw[hj];exact gq (by rw[aO,hwd];rfl)) ?_⟩;dsimp only[gY];show B3 _ _ [some (.ref fr),some (.ref wl),some x,some (.int c),some (.int ((n+ 1:Nat):Int)),some (.str wd)] H1;refine⟨qq,fun pl k1=>⟨wo,fun il k2=>?_⟩⟩;have S1:=gi k1 (.lst [.str "tag",.str wd,.non]);have S2:=gi k2 (.lst [x]);have S12:=S1.trans S2;have ep:=S2 _ _ (gb (H:=H1) (a:=pl) (o:= .lst [.str "tag",.str wd,.non]));have ei:=gb (H:=upd H1 pl (.lst [.str "tag",.str wd,.non])) (a:=il) (o:= .lst [x]);have hM2:=kW (a:=il) (o:= .lst [x]) (kW (a:=pl) (o:= .lst [.str "tag",.str wd,.non]) hM1);replace X:=X.same (gZ S12);replace ef1:=S12 _ _ ef1;replace F1:=F1.trans (Fr.same S12);dsimp only;generalize upd (upd H1 pl (.lst [.str "tag",.str wd,.non])) il (.lst [x])=H2 at ep ei hM2 X ef1 F1⊢;obtain⟨tx1,tx2⟩:=ti.tx hw (by lia);have w12:=(mf (hw wd mem)).2;refine⟨M,((n+ 1:Nat):Int),pl,il,[some "tag",some wd,none],_,[t.j],rfl,hM2,ep,ei,.cons X .nil,rfl,by show 3<=40;decide,by show(t.j.ms++[]).length<=_;rw[aE];exact tx2,fun w' hw'=>?_,fun u hu=>by rw[bo.mp hu];exact tx1,fun wl' H6 S6 pt=>?_⟩
 ·simp only[ak,dE.injEq,bI,or_false,reduceCtorEq]at hw';rcases hw' with rfl|rfl;·decide+kernel
  ·lia
 obtain⟨ai,v,B,rfl,ea,iv,tb,_⟩:=X;refine⟨_,S6 _ _ (gP _ _ ea),gu (gq (j:=1) rfl) ⟨ow,fun t1 k7=>⟨qq,fun tv k8=>⟨pP,fun ml k9=>?_⟩⟩⟩⟩;have S7:=gi k7 (.tup [.str wd,v]);have S8:=gi k8 (.tup [.str "tag",.ref t1,.int ((n+ 1:Nat):Int)]);have S9:=gi k9 (.lst []);have S69:=(S7.trans S8).trans S9;have e7:=(S8.trans S9) _ _ (gb (a:=t1) (o:= .tup [.str wd,v]));have e8:=S9 _ _ (gb (a:=tv) (o:= .tup [.str "tag",.ref t1,.int ((n+ 1:Nat):Int)]));have e9:=gb (H:=upd (upd H6 t1 (.tup [.str wd,v])) tv (.tup [.str "tag",.ref t1,.int ((n+ 1:Nat):Int)])) (a:=ml) (o:= .lst []);have m8:=S7.free k8;have m9:=(S7.trans S8).free k9;dsimp only;generalize upd (upd (upd H6 t1 (.tup [.str wd,v])) tv (.tup [.str "tag",.ref t1,.int ((n+ 1:Nat):Int)])) ml (.lst [])=H9 at S69 e7 e8 e9⊢;have pt9:=pt.same S69;have iv9:Im (mask H9 (wl'::M)) v t.val.d:=iv.mono (fun a xs e=>nwO pt9 (S6.trans S69) e);refine⟨H2,M,wl',ml,.ref tv,((n+ 1:Nat):Int),_,[t.j],(Xt.mk ((n+ 1:Nat):Int) (.tag wd) [t]).j,[],[],rfl,S6.trans S69,hM2,pt9,.tag wd t.val ((n+ 1:Nat):Int),(by show(Xt.mk ((n+ 1:Nat):Int) (.tag wd) [t]).val=_;rw[Xt.val,ir,ir];rfl),by rw[Vl.d];exact .tup (nwN hM2 pt S6 m8 e8) (.cons (.flat rfl) (.cons (.tup (nwN hM2 pt S6 k7 e7) (.cons (.flat rfl) (.cons iv9 .nil))) (.cons (.flat rfl) .nil))),nwN hM2 pt S6 m9 e9,.nil,?_,?_,?_,?_,by show(t.j.ms++[]).length<=_;rw[aE];exact tx2,cX _,fun u hu=>by rw[bo.mp hu];exact tb,fun H' S' X'=>q _ _ _ (n+ 1) (by lia) (by have:=DR n;lia) (F1.trans (Fr.same S')) (S' _ _ ef1) X' (DP ti hl ⟨⟨_,rfl⟩,mem⟩ ⟨rfl,rfl⟩ (by show Vl.ok ws (.tag wd t.val _);rw[Vl.ok];exact⟨mem,ti.vo⟩))⟩;·show(Xt.mk ((n+ 1:Nat):Int) (.tag wd) [t]).tx=_;rw[Xt.tx,txX,txX];rfl
 ·show(Xt.mk ((n+ 1:Nat):Int) (.tag wd) [t]).ms=_;rw[Xt.ms,msX,msX];show _::(t.ms++[]++[])=_::(t.ms++[]);rw[aE]
 ·show(Xt.mk ((n+ 1:Nat):Int) (.tag wd) [t]).ha=_;rw[Xt.ha,haX,haX,ir,ir];show t.ha++[]++[]++_=t.ha++[]++_;rw[aE,aE];rfl
 ·show(Xt.mk ((n+ 1:Nat):Int) (.tag wd) [t]).me=_;rw[Xt.me,meX,meX];show t.me++[]++[]=t.me++[]++[];rfl
open GR.Internal (isName)
theorem BH:∀{l:List (Str×Vl)} {j:Nat} {p:Str×Vl},(l.map Prod.fst).Nodup->l[j]?=some p->lkV l p.1=some p.2
 |q::l,0,p,_,e=>by cases e;rw[lkV,gU rfl]
 |q::l,j+ 1,p,nd,e=>by rw[aC,aF]at nd;have e:l[j]?=some p:=e;rw[lkV,gN (fun z=>nd.1 (by rw[z];exact List.mem_map_of_mem (aQ e))),BH nd.2 e]
inductive XGo (vs':List V) (H:Hp) (Q:VK):Prop
 |mk (ws:Zd) (vs:List Vl) (M:List Zx) (fr wl:Zx) (n lo d:Nat) (x:V) (t:Xt) (c:Int) (l:Vls) (p:Int) (e:vs'=[.ref fr,x,.int c]) (h:Mk5 ws vs M fr wl n lo d H x t) (hv:t.val= .rcd l p) (hc:0<=c) (q:Rs ws vs M fr n lo d H Q)
def xF:Sp:=fun vs H Q _=>XGo vs H Q
theorem xG (T:Txt K mg):FO P w base 2 T.d43 xF:=by
 refine T.d43.F.rd nY fun _ A _ s H vs Q E hr h=>?_;obtain⟨ws,vs,M,fr,wl,n,lo,d,x,t,c,l,p,rfl,⟨hM,hf,ef,hn,hl,hw,n16,wn,ew,X,ti,hd⟩,hv,hc,q⟩:=h;refine⟨_,(f9 (pS (i:=3) nY.nd (pF T.d28 (jK T) hr.m (fZ (cv 0) gf)))
  (f9 (pS (i:=4) nY.nd (gy gA (gy gA (gy gJ (cv 1) gh) gh) (gX jo (cv 2) (gM gQ rfl T.z_len ji (fZ (gy gA (gy gJ (cv 1) gh) gh) gf)))))
  (gj (gG (pF T.d32 (kr T) hr.m (fZ (pF T.d31 (lA T) hr.m (fZ (cv 3) (fZ (gT (fZ gE (fZ lM (fZ (gy gA (cv 4) gh) gf)))) (fZ (gT (fZ (cv 1) gf)) gf)))) (fZ (gy gA (cv 4) gh) (fZ (gT (fZ (ij (fZ (gy gA (gy gJ (cv 1) gh) gh) (fZ (cv 3) (fZ gh gf)))) gf)) gf)))))))),?_⟩;refine⟨fr,n,rfl,ef,by lia,?_⟩;have ef1:Fh (upd H fr (.lst (aH (n+ 1) .non))) fr (n+ 1):=gb;have F1:Fr [fr] H (upd H fr (.lst (aH (n+ 1) .non))):=kX;have hM1:=kW (a:=fr) (o:= .lst (aH (n+ 1) .non)) hM;replace X:=X.same (v3 F1 hf);dsimp only[gY];generalize upd H fr (.lst (aH (n+ 1) .non))=H1 at ef1 F1 hM1 X⊢;have vo:=ti.vo;rw[hv,Vl.ok,BG]at vo;obtain⟨⟨f1,f6,fn⟩,fo⟩:=vo;have X0:=X;obtain⟨ai,v,B,rfl,ea,iv,tb,_⟩:=X0;replace iv:Im (mask H1 M) v t.val.d:=iv;have iv0:=iv;rw[hv]at iv0;obtain⟨t0,u,zs,rfl,e0,eu,iz⟩:=Dq iv0;have lz:=iz.length;rw[aD]at lz;have hm0:(0:Int)<(zs.length:Int):=by lia
 have hm1:=fM c (show(zs.length:Int)≠0 by lia);have hm2:=fN c hm0;obtain⟨j,hj⟩:∃j:Nat,c%(zs.length:Int)=(j:Int):=⟨(c%(zs.length:Int)).toNat,by lia⟩;obtain⟨fd,hfd⟩:∃fd,(fdL l)[j]?=some fd:=⟨_,bF (by lia)⟩;obtain⟨z,hz⟩:∃z,zs[j]?=some z:=⟨_,bF (by lia)⟩;obtain⟨dd,hdd,im⟩:=jf iz hz;rw[aO,hfd]at hdd;cases hdd;obtain⟨tf,y1,y2,rfl,etf,i1,i2⟩:=kT (show Im _ z (.tup [sD fd.1,fd.2.d])from im);cases i1;have mem:=(fo fd (aQ hfd)).1;have a1:=gP _ _ ea;have a2:=gP _ _ e0;have a3:=gP _ _ eu;have a4:=gP _ _ etf;refine⟨_,a1,gu (gq (j:=1) rfl) ⟨_,a2,gu (gq (j:=1) rfl) ⟨_,a1,gu (gq (j:=1) rfl) ⟨_,a2,gu (gq (j:=1) rfl) ⟨u,_,rfl,.inr (SqT.of a3),hm0,_,a3,gu (by rw[hj];exact gq hz) ?_⟩⟩⟩⟩⟩;dsimp only[gY];show B3 _ _ [some (.ref fr),some (.ref ai),some (.int c),some (.int ((n+ 1:Nat):Int)),some (.ref tf)] H1;refine⟨_,a4,gu (gq (j:=0) rfl) ⟨qq,fun pl k1=>⟨wo,fun il k2=>?_⟩⟩⟩;have S1:=gi k1 (.lst [.str "get",.non,.str fd.1]);have S2:=gi k2 (.lst [.ref ai]);have S12:=S1.trans S2;have ep:=S2 _ _ (gb (H:=H1) (a:=pl) (o:= .lst [.str "get",.non,.str fd.1]));have ei:=gb (H:=upd H1 pl (.lst [.str "get",.non,.str fd.1])) (a:=il) (o:= .lst [.ref ai]);have hM2:=kW (a:=il) (o:= .lst [.ref ai]) (kW (a:=pl) (o:= .lst [.str "get",.non,.str fd.1]) hM1);replace X:=X.same (gZ S12);replace ef1:=S12 _ _ ef1;replace F1:=F1.trans (Fr.same S12);have i2':=i2.mono (gC.tk (gZ (M:=M) S12));replace a1:=S12 _ _ a1;replace a2:=S12 _ _ a2;replace a4:=S12 _ _ a4;dsimp only;generalize upd (upd H1 pl (.lst [.str "get",.non,.str fd.1])) il (.lst [.ref ai])=H2 at ep ei hM2 X ef1 F1 i2' a1 a2 a4⊢;obtain⟨tx1,tx2⟩:=ti.tx hw (by lia);have w12:=(mf (hw fd.1 mem)).2;refine⟨M,((n+ 1:Nat):Int),pl,il,[some "get",none,some fd.1],_,[t.j],rfl,hM2,ep,ei,.cons X .nil,rfl,by show 3<=40;decide,by show(t.j.ms++[]).length<=_;rw[aE];exact tx2,fun w' hw'=>?_,fun u hu=>by rw[bo.mp hu];exact tx1,fun wl' H6 S6 pt=>?_⟩
 ·simp only[ak,dE.injEq,bI,or_false,reduceCtorEq,false_or]at hw';rcases hw' with rfl|rfl;·decide+kernel
  ·lia
 refine⟨_,S6 _ _ a4,gu (gq (j:=1) rfl) ⟨_,S6 _ _ a1,gu (gq (j:=1) rfl) ⟨_,S6 _ _ a2,gu (gq (j:=2) rfl) ⟨qq,fun t1 k8=>⟨wo,fun ml k9=>?_⟩⟩⟩⟩⟩;have S8:=gi k8 (.tup [.int p,.int ((n+ 1:Nat):Int),.int 0]);have S9:=gi k9 (.lst [.ref t1]);have S69:=S8.trans S9;have e8:=S9 _ _ (gb (a:=t1) (o:= .tup [.int p,.int ((n+ 1:Nat):Int),.int 0]));have e9:=gb (H:=upd H6 t1 (.tup [.int p,.int ((n+ 1:Nat):Int),.int 0])) (a:=ml) (o:= .lst [.ref t1]);have m9:=S8.free k9;dsimp only;generalize upd (upd H6 t1 (.tup [.int p,.int ((n+ 1:Nat):Int),.int 0])) ml (.lst [.ref t1])=H9 at S69 e8 e9⊢;have pt9:=pt.same S69;have kk:Kx.v ((n+ 1:Nat):Int) [t.val] (.get fd.1)=fd.2:=by show(lkV (fdL t.val.fl) fd.1).getD _=_;rw[hv];show(lkV (fdL l) fd.1).getD _=_;rw[BH fn hfd];rfl
 have km:Kx.m ((n+ 1:Nat):Int) [t.val] (.get fd.1)=[(p,((n+ 1:Nat):Int),0)]:=by show[(t.val.p,_,_)]=_;rw[hv];rfl
 have ko:Kx.ok ws vs (.get fd.1) [t.val]:=⟨⟨l,p,fd.2,by rw[hv],BH fn hfd,fn,f6⟩,mem⟩;refine⟨H2,M,wl',ml,y2,((n+ 1:Nat):Int),_,[t.j],(Xt.mk ((n+ 1:Nat):Int) (.get fd.1) [t]).j,[(p,((n+ 1:Nat):Int),0)],[.ref t1],rfl,S6.trans S69,hM2,pt9,fd.2,(by show(Xt.mk ((n+ 1:Nat):Int) (.get fd.1) [t]).val=_;rw[Xt.val,ir,ir];exact kk),i2'.mono (fun a xs e=>nwO pt9 (S6.trans S69) e),nwN hM2 pt S6 m9 e9,.cons (.tup (nwN hM2 pt S6 k8 e8) (.cons (.flat rfl) (.cons (.flat rfl) (.cons (.flat rfl) .nil)))) .nil,?_,?_,?_,?_,by show(t.j.ms++[]).length<=_;rw[aE];exact tx2,cW _,fun u hu=>by rw[bo.mp hu];exact tb,fun H' S' X'=>q _ _ _ (n+ 1) (by lia) (by have:=DR n;lia) (F1.trans (Fr.same S')) (S' _ _ ef1) X' (DP ti hl ko ⟨rfl,rfl⟩ (by rw[kk];exact(fo fd (aQ hfd)).2))⟩;·show(Xt.mk ((n+ 1:Nat):Int) (.get fd.1) [t]).tx=_;rw[Xt.tx,txX,txX];rfl
 ·show(Xt.mk ((n+ 1:Nat):Int) (.get fd.1) [t]).ms=_;rw[Xt.ms,msX,msX];show _::(t.ms++[]++[])=_::(t.ms++[]);rw[aE]
 ·show(Xt.mk ((n+ 1:Nat):Int) (.get fd.1) [t]).ha=_;rw[Xt.ha,haX,haX,ir,ir,kk];show t.ha++[]++[]++_=t.ha++[]++_;rw[aE,aE]
 ·show(Xt.mk ((n+ 1:Nat):Int) (.get fd.1) [t]).me=_;rw[Xt.me,meX,meX,ir,ir,km];rfl
open GR.Internal (isName)
theorem qB:∀ts:List Xt,ir ts=ts.map Xt.val
 |[]=>by rw[ir];rfl
 |t::ts=>by rw[ir,qB ts];rfl
theorem ou:∀(a b:List Xt),msX (a++b)=msX a++msX b
 |[],b=>by rw[bW,msX,bW]
 |t::a,b=>by rw[aV,msX,msX,ou a b,bV]
theorem BI:∀ts:List Xt,msJ (ts.map Xt.j)=msX ts/\haJ (ts.map Xt.j)=haX ts/\meJ (ts.map Xt.j)=meX ts
 |[]=>by rw[msX,haX,meX];exact⟨rfl,rfl,rfl⟩
 |t::ts=>by obtain⟨a,b,c⟩:=BI ts;rw[msX,haX,meX,<-a,<-b,<-c];exact⟨rfl,rfl,rfl⟩
theorem BJ {ws:Zd} {vs:List Vl}:∀{ts:List Xt},(∀t∈ts,t.ok ws vs)->okL ws vs ts
 |[],_=>by rw[okL];trivial
 |t::ts,h=>by rw[okL];exact⟨h t ah,BJ fun u hu=>h u (aj _ hu)⟩
theorem v5 {d:Nat}:∀{ts:List Xt},(∀t∈ts,t.tr.nest<=d)->TM.Internal.nests (trX ts)<=d
 |[],_=>by rw[mX];exact cX _
 |t::ts,h=>by rw[nv];exact du.mpr ⟨h t ah,v5 fun u hu=>h u (aj _ hu)⟩
def nuX (m n:Int):Xt:= .mk m (.num n) []
def kdX (t:Xt) (n spot:Nat) (b:Int) (i:Nat):Xt:=if i=spot then t else nuX ((n+(if i<spot then i+ 1 else i):Nat):Int) ((b+(0+(i:Int)))%10^60)
def cnt (spot k:Nat):Nat:=if spot<k then k-1 else k
def kds (t:Xt) (n spot:Nat) (b:Int) (k:Nat):List Xt:=(aa k).map (kdX t n spot b)
theorem uE (t:Xt) (n spot:Nat) (b:Int) (k:Nat):kds t n spot b (k+ 1)=kds t n spot b k++[kdX t n spot b k]:=by unfold kds;rw[cE,bp];rfl
theorem DS {t:Xt} {n spot:Nat} {b:Int} (nd:t.ms.Nodup) (hi:∀m∈t.ms,m<=(n:Int)):∀k:Nat,(msX (kds t n spot b k)).Nodup/\(∀m∈msX (kds t n spot b k),(spot<k/\m∈t.ms)\/((n:Int)<m/\m<=((n+cnt spot k:Nat):Int)))/\(msX (kds t n spot b k)).length<=cnt spot k+t.ms.length
 |0=>by rw[show kds t n spot b 0=[]from rfl,msX];exact⟨cm,(fun m hm=>nomatch hm),cX _⟩
 |k+ 1=>by
  obtain⟨h1,h2,h3⟩:=DS (spot:=spot) (b:=b) nd hi k;rw[uE,ou,msX,msX,aE,aR];by_cases e:k=spot
  ·subst e;have ek:kdX t n k b k=t:=gU rfl;have c0:cnt k k=k:=gN (cO _);have c1:cnt k (k+ 1)=k:=by unfold cnt;rw[gU (cY _)];rfl
   rw[ek,c1];rw[c0]at h2 h3;have h2':∀m∈msX (kds t n k b k),(n:Int)<m/\m<=((n+k:Nat):Int):=fun m hm=>(h2 m hm).resolve_left (fun z=>cO _ z.1);refine⟨cc.mpr ⟨h1,nd,fun x hx y hy z=>?_⟩,fun m hm=>?_,?_⟩;·have:=(h2' x hx).1;have:=hi y hy;lia
   ·rcases ao.mp hm with hm|hm;·exact .inr (h2' m hm)
    ·exact .inl ⟨cY _,hm⟩
   ·have l:(msX (kds t n k b k)).length<=k:=by
     have:∀j:Nat,j<=k->(msX (kds t n k b j)).length<=j:=fun j=>by
      induction j with
      |zero=>intro _;rw[show kds t n k b 0=[]from rfl,msX];exact cW _
      |succ j ih=>intro hj;rw[uE,ou,msX,msX,aE,aR,show kdX t n k b j=nuX _ _ from gN (by lia),nuX,Xt.ms,msX];have:=ih (by lia);show _+ 1<=_;lia
     exact this k (cW _)
    lia
  ·have ek:kdX t n spot b k=nuX ((n+(cnt spot (k+ 1)):Nat):Int) ((b+(0+(k:Int)))%10^60):=by
    unfold kdX cnt;rw[gN e];split;·rw[gN (by lia)]
    ·rw[gU (by lia)];rfl
   have c1:cnt spot (k+ 1)=cnt spot k+ 1:=by unfold cnt;split<;>split<;>lia
   rw[ek,c1,nuX,Xt.ms,msX];show(msX _++[_]).Nodup/\_;refine⟨cc.mpr ⟨h1,aF.mpr ⟨(fun z=>nomatch z),cm⟩,fun x hx y hy z=>?_⟩,fun m hm=>?_,?_⟩
   ·have hy:=bo.mp hy;rcases h2 x hx with⟨_,h⟩|h;·have:=hi x h;lia
    ·lia
   ·rcases ao.mp hm with hm|hm
    ·rcases h2 m hm with⟨h,h'⟩|h;·exact .inl ⟨by lia,h'⟩
     ·exact .inr (by lia)
    ·exact .inr (by rw[bo.mp (show m∈[_]from hm)];lia)
   ·show _+ 1<=_;lia
theorem BK (x:Int):0<=x%10^60/\x%10^60<10^60:=⟨fM _ (by decide),fN _ (by decide)⟩
theorem BL {ws:Zd} {vs:List Vl} {t:Xt} {lo n d:Nat} (ti:Ti ws vs t lo n d) (hd:1<=d) {spot k:Nat} {b:Int}:∀u∈kds t n spot b k,u.ok ws vs/\u.val.ok ws/\u.tr.nest<=d/\u.j.b:=fun u hu=>by
 obtain⟨i,_,rfl⟩:=bh.mp hu;unfold kdX;split;·exact⟨ti.ok,ti.vo,ti.ns,ti.b⟩
 ·have ok:∀m n:Int,0<=n/\n<10^60->(nuX m n).ok ws vs:=fun m n h=>by rw[nuX,Xt.ok,okL,ir];exact⟨⟨rfl,h⟩,trivial⟩
  refine⟨ok _ _ (BK _),?_,?_,Xt.lens _ (ok _ _ (BK _))⟩;·rw[nuX,Xt.val];show Vl.ok ws (.num _ _);rw[Vl.ok];trivial
  ·rw[nuX,pO,mW,mX];show 1+max 0 (TM.Internal.nests [])<=d;rw[TM.Internal.nests];exact hd
def nmF (ws:Zd) (c:Int) (k:Nat):Str:=ws.getD ((c+(0+(k:Int)))%16).toNat ""
theorem v7 {ws:Zd} (n16:ws.length=16) (c:Int) (k:Nat):∃j:Nat,(c+(0+(k:Int)))%16=(j:Int)/\ws[j]?=some (nmF ws c k):=by have h1:=fM (c+(0+(k:Int))) (show(16:Int)≠0 by decide);have h2:=fN (c+(0+(k:Int))) (show(0:Int)<16 by decide);obtain⟨j,hj⟩:∃j:Nat,(c+(0+(k:Int)))%16=(j:Int):=⟨((c+(0+(k:Int)))%16).toNat,by lia⟩;refine⟨j,hj,?_⟩;unfold nmF;rw[hj,fH,bu,bF (show j<ws.length by lia)];rfl
def nms (ws:Zd) (c:Int) (k:Nat):List Str:=(aa k).map (nmF ws c)
theorem v8 {ws:Zd} (n16:ws.length=16) (wn:ws.Nodup) {c:Int} {k:Nat} (hk:k<=6):(nms ws c k).length=k/\(nms ws c k).Nodup/\∀w∈nms ws c k,w∈ws:=by
 refine⟨by unfold nms;rw[aD,cF],?_,fun w hw=>?_⟩;·unfold nms;refine cD.mpr (cH.imp_of_mem fun{i j} hi hj hij z=>?_);have hj:=af.mp hj;obtain⟨a,ea,ha⟩:=v7 n16 c i;obtain⟨b,eb,hb⟩:=v7 n16 c j;have z:nmF ws c i=nmF ws c j:=z;rw[z]at ha;have:a=b:=(cz (au.mp ha).1 wn).mp (ha.trans hb.symm);lia
 ·obtain⟨i,_,rfl⟩:=bh.mp hw;obtain⟨j,_,h⟩:=v7 n16 c i;exact aQ h
theorem Hy {ws:Zd} {vs:List Vl} {t:Xt} {lo n d:Nat} (ti:Ti ws vs t lo n d) (hl:lo<=n) (hd:1<=d) (n16:ws.length=16) (wn:ws.Nodup) {spot k:Nat} {b c:Int} (hs:spot<k) (hk:k<=6):Ti ws vs (.mk ((n+k:Nat):Int) (.rcd (nms ws c k)) (kds t n spot b k)) lo (n+k) (d+ 1):=by
 obtain⟨l1,l2,l3⟩:=v8 n16 wn (c:=c) hk;have al:=BL ti hd (spot:=spot) (k:=k) (b:=b);obtain⟨m1,m2,m3⟩:=DS (spot:=spot) (b:=b) ti.nd (fun m hm=>(ti.rg m hm).2) k;have ck:cnt spot k=k-1:=gU hs;rw[ck]at m2 m3;have kl:(kds t n spot b k).length=k:=by unfold kds;rw[aD,cF]
 have em:(Xt.mk ((n+k:Nat):Int) (.rcd (nms ws c k)) (kds t n spot b k)).ms=((n+k:Nat):Int)::msX (kds t n spot b k):=by rw[Xt.ms];show _::(_++[])=_;rw[aE]
 have zl:((nms ws c k).zip (ir (kds t n spot b k))).length=k:=by rw[b9,ja,kl,l1];exact c8 _
 have r:=ti.rg;have tl:=ti.l;refine⟨?_,?_,?_,fun m hm=>?_,?_,?_⟩;·rw[Xt.ok];exact⟨⟨by rw[ja,kl,l1],by lia,l2,l3⟩,BJ fun u hu=>(al u hu).1⟩
 ·rw[Xt.val];show Vl.ok ws (.rcd (fdO ((nms ws c k).zip (ir (kds t n spot b k)))) _);rw[Vl.ok,BG,FF];refine⟨⟨by lia,by lia,?_⟩,fun p hp=>?_⟩;·rw[cw (by rw[ja,kl,l1];exact cW _)];exact l2
  ·have:=aG (show(p.1,p.2)∈_ from hp);refine⟨l3 _ this.1,?_⟩;have h:=this.2;rw[qB]at h;obtain⟨u,hu,e⟩:=bh.mp h;rw[<-e];exact(al u hu).2.1
 ·rw[em];refine aF.mpr ⟨fun z=>?_,m1⟩;rcases m2 _ z with⟨_,h⟩|h;·have:=(r _ h).2;lia
  ·lia
 ·rw[em]at hm;rcases ak.mp hm with rfl|hm;·lia
  ·rcases m2 _ hm with⟨_,h⟩|h;·have:=r _ h;lia
   ·lia
 ·rw[pO,mW];have:=v5 (d:=d) (ts:=kds t n spot b k) fun u hu=>(al u hu).2.2.1;show 1+max _ (TM.Internal.nests [])<=_;rw[TM.Internal.nests];lia
 ·rw[em,aA];lia
open GR.Internal (isName)
def yM:List Str->List (Option Str)
 |[]=>[]
 |w::l=>some w::none::yM l
theorem yN:∀a b:List Str,yM (a++b)=yM a++yM b
 |[],b=>rfl
 |w::a,b=>by rw[aV,yM,yN a b];rfl
theorem uF:∀l:List Str,(yM l).length=2*l.length
 |[]=>rfl
 |w::l=>by rw[yM,aA,aA,uF l,aA];lia
theorem DT:∀l:List Str,cN (yM l)=l.length
 |[]=>rfl
 |w::l=>by rw[yM,cN,cN,DT l,aA]
theorem yO:∀{l:Zd} {w:Str},some w∈yM l->w∈l
 |v::l,w,h=>by
  rcases ak.mp h with h|h;·cases h;exact ah
  ·rcases ak.mp h with h|h;·cases h
   ·exact aj _ (yO h)
theorem BM:∀{l:Zd} {ts:List Xt},l.length=ts.length->txF (yM l) (ts.map Xt.j)=ilv l (txX ts)
 |[],[],_=>by rw[txX];rfl
 |w::l,t::ts,h=>by rw[txX,ilv,<-BM (l:=l) (ts:=ts) (dr.inj h)];rfl
theorem Fj {H H':Hp} {M:List Zx} (k:TK H H'):TK (mask H M) (mask H' M):=fun a xs e=>ic (jn e).1 (k _ _ (jn e).2)
theorem DU:∀{ts:List Xt} {t:Xt},t∈ts->t.ms.length<=(msX ts).length
 |u::ts,t,h=>by
  rw[msX,aR];rcases ak.mp h with rfl|h;·lia
  ·have:=DU h;lia
inductive XMa (vs:List V) (H:Hp) (Q:VK):Prop
 |mk (fr:Zx) (n:Nat) (c:Int) (e:vs=[.ref fr,.int c]) (ef:Fh H fr n) (q:∀k:Nat,1<=k->k<=mx n->k<=6->Q (.int (k:Int)) H)
def v9:Sp:=fun vs H Q _=>XMa vs H Q
theorem p9 (T:Txt K mg):FO P w base 1 T.d40 v9:=by
 refine T.d40.F.rd vJ fun _ A _ s H vs Q E hr h=>?_;obtain⟨fr,n,c,rfl,ef,q⟩:=h;refine⟨_,(f9 (ie (gH GD (gM gQ rfl T.z_len ji (fZ (cv 0) gf)) gh)
   (gj (gG gh))
   gK)
  (f9 (ie (PW.pt (xT (gH IB (gM gQ rfl T.z_len ji (fZ (cv 0) gf)) gh) (sX (gH jZ (gX jo (cv 1) gh) gh))))
   (gj (gG (gX nB gh (gX jo (cv 1) gh))))
   gK)
  (gj (gG (gX nB gh (gX jo (cv 1) gh)))))),?_⟩;have ef:H fr=some (.lst (aH n .non)):=ef;have h2:=fM c (show(2:Int)≠0 by decide);have h2':=fN c (show(0:Int)<2 by decide);have h4:=fM c (show(4:Int)≠0 by decide);have h4':=fN c (show(0:Int)<4 by decide);unfold mx at q;have tell:∀{x:Int} (k:Nat),x=(k:Int)->1<=k->k<=(if 34<=n then 1 else if n<16 then 6 else 4)->k<=6->Q (.int x) H:=fun k e a b c=>by rw[e];exact q k a b c
 refine⟨fr,_,rfl,.inl (SqL.of ef),?_⟩;dsimp only[tC,cI0,onB];rw[aS];by_cases z:34<=n;·rw[hI (show(34:Int)<=(n:Int) by lia)];exact jJ (tell 1 rfl (by decide) (by rw[gU z];decide) (by decide))
 rw[ik (show ¬(34:Int)<=(n:Int) by lia)];rw[gN z]at tell;refine iL ⟨fr,_,rfl,.inl (SqL.of ef),?_⟩;dsimp only[tC,cI0,onB];rw[aS];have last:(B3 (tOp (cI0 fun i j=>V.int (i+j)) (tC (V.int 1)) (tOp (cI (fun x j=>0<j) fun i j=>V.int (i%j)) (cV 1) (tC (V.int 4))))) {nx:=fun x H'=>Q V.non H',rt:=Q} [some (.ref fr),some (.int c)] H:=by refine⟨(by show(0:Int)<4;decide),?_⟩;exact tell (1+(c%4).toNat) (by lia) (by lia) (by split<;>lia) (by lia)
 by_cases z2:n<16
 ·rw[hI (show(n:Int)<16 by lia)];rw[gU z2]at tell;refine jJ ⟨(by show(0:Int)<3;decide),?_⟩;dsimp only[tC,cEq,onB];rw[fB];by_cases z3:c%3=1;·rw[hI z3];refine jJ ⟨(by show(0:Int)<2;decide),?_⟩;exact tell (5+(c%2).toNat) (by lia) (by lia) (by lia) (by lia)
  ·rw[ik z3];exact iL last
 ·rw[ik (show ¬(n:Int)<16 by lia)];exact iL (iL last)
inductive XRe (vs':List V) (H:Hp) (Q:VK):Prop
 |mk (ws:Zd) (vs:List Vl) (M:List Zx) (fr wl:Zx) (n lo d:Nat) (x:V) (t:Xt) (c:Int) (e:vs'=[.ref fr,.ref wl,x,.int c]) (h:Mk5 ws vs M fr wl n lo d H x t) (hc:0<=c) (q:Rs ws vs M fr n lo d H Q)
def rM:Sp:=fun vs H Q _=>XRe vs H Q
theorem xH (T:Txt K mg):FO P w base 3 T.d41 rM:=by
 refine T.d41.F.rd iR fun _ A _ s H vs Q E hr h=>?_;obtain⟨ws,vs,M,fr,wl,n,lo,d,x,t,c,rfl,⟨hM,hf,ef,hn,hl,hw,n16,wn,ew,X,ti,hd⟩,hc,q⟩:=h;refine⟨_,(f9 (pS (i:=4) iR.nd (pF T.d40 (p9 T) hr.m (fZ (cv 0) (fZ (cv 3) gf))))
  (f9 (pS (i:=5) iR.nd (gX jo (gX jG (cv 3) gh) (cv 4)))
  (f9 (pS (i:=6) iR.nd (qf rfl (GN (x:="_law_k") ["_law_words_here","_law_c"] [("_law_words_here",1,s.heap.objs.size+ 2),("_law_c",3,s.heap.objs.size+ 4)]) (ku rfl T.z_range (fZ (cv 4) gf)) (fun _ _ _ _ _=>lC) (fun _ _ _ _ _=>(gy gJ (cv 1) (gX jo (gX nB (gX jG (cv 2) gh) (cv 0)) gh)))))
  (f9 (pS (i:=7) iR.nd (qf rfl (GN (x:="_law_k") ["_law_spot","_law_item","_law_fresh","_law_c"] [("_law_spot",5,s.heap.objs.size+ 5),("_law_item",2,s.heap.objs.size+ 3),("_law_fresh",0,s.heap.objs.size+ 1),("_law_c",3,s.heap.objs.size+ 4)]) (ku rfl T.z_range (fZ (cv 4) gf)) (fun _ _ _ _ _=>lC) (fun _ _ _ _ _=>(qr (gH jZ (cv 0) (cv 1)) (cv 2) (pF T.d29 (lK T) hr.m (fZ (cv 3) (fZ (gX jo (gX nB (gX jG (cv 4) gh) (cv 0)) (gX yg gh gh)) gf)))))))
  (f9 (pS (i:=8) iR.nd (pF T.d28 (jK T) hr.m (fZ (cv 0) gf)))
  (f9 (pS (i:=9) iR.nd (gT (fZ gE gf)))
  (f9 (jb PassesOwn.never rfl (jq (cv 6)) (pN (i:=10) iR.nd)
   (gj (pS (i:=9) iR.nd (gX pU (cv 9) (gT (fZ (cv 10) (fZ lM gf)))))))
  (f9 (pS (i:=11) iR.nd (ij (fZ gE (fZ (jA jN rfl T.z_tuple kn (fZ (qf rfl (GN (x:="_law_k") ["_law_parts","_law_names"] [("_law_parts",7,s.heap.objs.size+ 7),("_law_names",6,s.heap.objs.size+ 6)]) (ku rfl T.z_range (fZ (cv 4) gf)) (fun _ _ _ _ _=>lC) (fun _ _ _ _ _=>(ij (fZ (gy gJ (cv 2) (cv 0)) (fZ (gy gJ (gy gJ (cv 1) (cv 0)) gh) gf))))) gf)) (fZ (cv 8) gf)))))
  (gj (gG (pF T.d32 (kr T) hr.m (fZ (pF T.d31 (lA T) hr.m (fZ (cv 8) (fZ (cv 9) (fZ (cv 7) gf)))) (fZ (cv 11) (fZ (gT gf) gf)))))))))))))),?_⟩;have sl:=sizeLine_eq;refine⟨fr,n,c,rfl,ef,fun k k1 kx k6=>?_⟩;dsimp only[gY];obtain⟨spot,hspot,hsk⟩:∃spot:Nat,c/4%(k:Int)=(spot:Int)/\spot<k:=by have a:=fM (c/4) (show(k:Int)≠0 by lia);have b:=fN (c/4) (show(0:Int)<(k:Int) by lia);exact⟨(c/4%(k:Int)).toNat,by lia,by lia⟩
 refine⟨⟨by decide,by decide⟩,(by show(0:Int)<(k:Int);lia),?_⟩;dsimp only[gY];rw[hspot];refine⟨(k:Int),rfl,by lia,by lia,fun D1 hD1=>?_⟩;rw[fH];refine sF k (by lia) (fun ys _=>ys=(nms ws (c/16) ys.length).map V.str) (fun _ _ _ h _=>h) hD1 rfl (fun k H S h=>h) (fun H S=>cW _) rfl ?_ ?_;·intro i H3 v H4 ys Z S hi y hys hl' hz;obtain⟨rfl,rfl⟩:=y;obtain⟨j,ej,hj⟩:=v7 n16 (c/16) i;refine⟨⟨by decide,by decide⟩,(by show(0:Int)<16;decide),?_⟩;dsimp only;rw[ej];refine⟨_,S _ _ (gP _ _ ew),gu (gq (show(ws.map V.str)[j]?=some (.str (nmF ws (c/16) i)) by rw[aO,hj];rfl)) (hz _ _ (fun _ _ e=>e) ?_)⟩;unfold nms at hys⊢;rw[aR,hl',bf,cE,bp,bp];rw[hl']at hys;rw[<-hys];rfl
 intro H1 ys S1 hys hl1 eD1;rw[hl1]at hys;subst hys;replace X:=X.same (gZ S1);replace ew:=gZ S1 _ _ ew;have ef1:=S1 _ _ ef;have hM1:∀b∈M,∃o,H1 b=some o:=fun b hb=>let⟨o,e⟩:=hM b hb;⟨o,S1 _ _ e⟩;have nD1:D1∉M:=vX hM hD1;replace eD1:mask H1 M D1=some (.lst ((nms ws (c/16) k).map V.str)):=ic nD1 eD1;have F1:Fr [fr] H H1:=Fr.same S1;clear S1 hD1 hM ef;dsimp only[gY];refine⟨(k:Int),rfl,by lia,by lia,fun D2 hD2=>?_⟩;rw[fH];have Df:D2≠fr:=(gr ef1 hD2).symm;have nD2:D2∉M:=vX hM1 hD2;refine Hw k (by lia) (fun i ys Hi=>Y4 (Fr [fr] H1 Hi) (Fh Hi fr (n+cnt spot i)) (Hi D2=some (.lst ys)) (qp (mask Hi (D2::M)) ys ((kds t n spot (c/256) i).map Xt.j))) rfl ?_ (fun _ _ _ _ h=>h) (fun _ _ _=>cW _) ?_ ?_;·refine⟨Fr.same (gi hD2 _),by rw[Fh,gx Df.symm];exact ef1,gb,.nil⟩
 ·rintro i ys Hi v H3 Z hi hl' ⟨Fi,fi,eD,xi⟩ y hz;obtain⟨rfl,rfl⟩:=y;have KM:gC (mask H1 M) (mask H3 (D2::M)):=fun b u e=>by
   obtain⟨e1,e2⟩:=jn e;refine ic (fun z=>?_) (Fi _ _ e2 fun z=>e1 (by rw[bo.mp z];exact hf));rcases ak.mp z with z|z;·rw[z,hD2]at e2;cases e2
   ·exact e1 z
  have hb:0+(i:Int)=(i:Int):=fK _;have dom:∀b∈D2::M,∃o,H3 b=some o:=fun b hb=>by
   rcases ak.mp hb with rfl|hb;·exact⟨_,eD⟩
   ·by_cases z:b=fr;·rw[z];exact⟨_,fi⟩
    ·obtain⟨u,e⟩:=hM1 b hb;exact⟨u,Fi _ _ e (fun y=>z (bo.mp y))⟩
  have F5D:∀{H5:Hp} {x:V},Fr (D2::M) H5 (upd H5 D2 (.lst (ys++[x]))):=kX.le (fun b hb=>by rw[bo.mp hb];exact ah);show(if(xor false (decide (0+(i:Int)=(spot:Int))))=true then(_:Prop)else _);rw[fB,hb];rw[uE,bp]at hz;by_cases e:i=spot
  ·rw[hI (by lia)];have ek:kdX t n spot (c/256) i=t:=gU e;rw[ek]at hz;have c1:cnt spot (i+ 1)=cnt spot i:=by unfold cnt;split<;>split<;>lia
   rw[c1]at hz;refine jJ (hz x H3 eD ⟨fun b u e' hb'=>?_,by rw[Fh,gx Df.symm];exact fi,gb,?_⟩);·rw[gx (fun z=>by rw[z,hD2]at e';cases e')];exact Fi _ _ e' hb'
   ·exact(xi.same F5D.mask).snoc ((X.same KM).same F5D.mask)
  ·rw[ik (by lia)];have c1:cnt spot (i+ 1)=cnt spot i+ 1:=by unfold cnt;split<;>split<;>lia
   have ek:(kdX t n spot (c/256) i).j=⟨TM.Internal.numS ((c/256+(0+(i:Int)))%10^60),.num ((c/256+(0+(i:Int)))%10^60) ((n+cnt spot i+ 1:Nat):Int),[((n+cnt spot i+ 1:Nat):Int)],[(((n+cnt spot i+ 1:Nat):Int),((n+cnt spot i+ 1:Nat):Int))],[]⟩:=by unfold kdX;rw[gN e,nuX,JV,show n+(if i<spot then i+ 1 else i)=n+cnt spot i+ 1 by unfold cnt;split<;>split<;>lia]
   have b1:cnt spot i<=6:=by unfold cnt;split<;>lia
   refine iL ⟨⟨by decide,by decide⟩,⟨by decide,by decide,by decide⟩,(by show(0:Int)<10^(60:Int).toNat;decide+kernel),D2::M,fr,n+cnt spot i,_,rfl,dom,aj _ hf,fi,by lia,BK _,fun x H5 F5 f5 x5=>hz x H5 (F5 _ _ eD (fun z=>Df (bo.mp z))) ⟨fun b u e' hb'=>?_,?_,gb,?_⟩⟩;·rw[gx (fun z=>by rw[z,hD2]at e';cases e')];exact F5 _ _ (Fi _ _ e' hb') hb'
   ·rw[Fh,gx Df.symm,c1];exact f5
   ·have F35:Fr (D2::M) H3 H5:=F5.le (fun b hb=>by rw[bo.mp hb];exact aj _ hf);refine(xi.same (F35.trans F5D).mask).snoc ?_;rw[ek,hb];exact x5.same F5D.mask
 rintro ys H3 hl2 ⟨F3,f3,eD2,x3⟩;have hM3:∀b∈M,∃o,H3 b=some o:=DQ hM1 F3 f3;have K3:=v3 F3 hf;replace x3:=x3.same (rL (H:=H3) (M:=M) (N:=D2::M) fun a ha=>aj _ ha);replace eD2:mask H3 M D2=some (.lst ys):=ic nD2 eD2;replace eD1:=K3 _ _ eD1;have F03:=F1.trans F3;have ck:cnt spot k=k-1:=gU hsk;rw[ck]at f3;clear F1 F3 K3 hM1 X ew;dsimp only[gY];refine⟨fr,n+(k-1),rfl,f3,by lia,?_⟩;have enk:n+(k-1)+ 1=n+k:=by lia
 rw[enk];have ef4:Fh (upd H3 fr (.lst (aH (n+k) .non))) fr (n+k):=gb;have F4:Fr [fr] H3 (upd H3 fr (.lst (aH (n+k) .non))):=kX;have hM4:=kW (a:=fr) (o:= .lst (aH (n+k) .non)) hM3;have K4:=v3 F4 hf;replace x3:=x3.same K4;replace eD1:=K4 _ _ eD1;replace eD2:=K4 _ _ eD2;replace F03:=F03.trans F4;dsimp only[gY];generalize upd H3 fr (.lst (aH (n+k) .non))=H4 at ef4 hM4 x3 eD1 eD2 F03⊢;clear F4 K4 hM3 f3;refine⟨wo,fun p0 hp0=>?_⟩;have S5:=gi hp0 (.lst [.str "rec"]);have e5:=gb (H:=H4) (a:=p0) (o:= .lst [.str "rec"]);dsimp only[gY];obtain⟨n1,n2,n3⟩:=v8 n16 wn (c:=c/16) k6;refine⟨D1,rfl,⟨_,SqL.of (S5 _ _ (gP _ _ eD1))⟩,jE (xs:=(nms ws (c/16) k).map V.str) (fun i σ H5=>X2 fun p o10=>Y3 (σ=[some (.ref fr),some (.ref wl),some x,some (.int c),some (.int (k:Int)),some (.int (spot:Int)),some (.ref D1),some (.ref D2),some (.int ((n+k:Nat):Int)),some (.ref p),o10,none]) (gC H4 H5) (H5 p=some (.lst ((some ("rec":Str)::yM ((nms ws (c/16) k).take i)).map oV)))) ⟨_,_,rfl,S5,e5⟩ (fun i σ H5 _ ⟨_,_,_,S,_⟩=>SqL.of (S _ _ (gP _ _ eD1))) ?_ ?_⟩
 ·rintro i v σ H5 hv ⟨p,o10,rfl,S,ep⟩;rw[aO]at hv;obtain⟨nm,hnm,rfl⟩:=dI.mp hv;have hi:=(au.mp hnm).1;refine⟨ow,fun l2 h2=>⟨_,_,_,_,rfl,rfl,gi h2 _ _ _ ep,gb,?_,fun p2 hp2=>?_⟩⟩;·rw[aD,aA,uF,aK];show _+ 2<=_;lia
  refine⟨p2,_,rfl,S.trans ((gi h2 _).trans (gi hp2 _)),?_⟩;rw[gb,cf,hnm,show(some nm).toList=[nm]from rfl,yN];show some (HO.lst (_++[V.str nm,V.non]))=some (HO.lst (bH oV ((some ("rec":Str)::yM ((nms ws (c/16) k).take i))++[some nm,none])));rw[bp];rfl
 rintro σ H5 ⟨p,o10,rfl,S,ep⟩;rw[aD,bz]at ep;have kl:(kds t n spot (c/256) k).length=k:=by unfold kds;rw[aD,cF]
 have vl:(ir (kds t n spot (c/256) k)).length=k:=by rw[ja,kl]
 have zl:((nms ws (c/16) k).zip (ir (kds t n spot (c/256) k))).length=k:=by rw[b9,vl,n1];exact c8 _
 have hM5:∀b∈M,∃o,H5 b=some o:=fun b hb=>let⟨o,e⟩:=hM4 b hb;⟨o,S _ _ e⟩;have K5:=gZ (M:=M) S;replace x3:=x3.same K5;replace eD1:=K5 _ _ eD1;replace eD2:=K5 _ _ eD2;have ef5:=S _ _ ef4;have F05:=F03.trans (Fr.same S);clear S K5 hM4 ef4 F03 S5 e5;refine⟨(k:Int),rfl,by lia,by lia,fun D3 hD3=>?_⟩;rw[fH];refine sF k (by lia) (fun ys H=>Ims (mask H M) ys ((((nms ws (c/16) k).zip (ir (kds t n spot (c/256) k))).take ys.length).map fvD)) (fun _ _ _ h tk=>h.mono (Fj tk)) hD3 rfl (fun k H S h=>h) (fun H S=>cW _) .nil ?_ ?_
 ·intro i H6 v H7 zs Z S hi y hys hl' hz;obtain⟨rfl,rfl⟩:=y;obtain⟨nm,hnm⟩:∃nm,(nms ws (c/16) k)[i]?=some nm:=⟨_,bF (by lia)⟩;obtain⟨u,hu⟩:∃u,(kds t n spot (c/256) k)[i]?=some u:=⟨_,bF (by lia)⟩;obtain⟨x,hx,hX⟩:=x3.at (i:=i) (t:=u.j) (by rw[aO,hu];rfl);obtain⟨ai,v,B,rfl,ea,iv,_,_⟩:=hX.same (gZ S);have hb:0+(i:Int)=(i:Int):=fK _;rw[hb];refine⟨_,S _ _ (gP _ _ eD1),gu (gq (by rw[aO,hnm];rfl)) ⟨_,S _ _ (gP _ _ eD2),gu (gq hx) ⟨_,gP _ _ ea,gu (gq (j:=1) rfl) ⟨ow,fun tp htp=>?_⟩⟩⟩⟩;have Sn:=gi htp (.tup [.str nm,v]);refine hz _ _ Sn ?_;have ez:((nms ws (c/16) k).zip (ir (kds t n spot (c/256) k)))[i]?=some (nm,u.val):=by rw[cq,qB,aO,hu];exact⟨hnm,rfl⟩
  rw[aR,hl',bf,cf,ez,bp];rw[hl']at hys;have nt:tp∉M:=vX (fun b hb=>let⟨o,e⟩:=hM5 b hb;⟨o,S _ _ e⟩) htp;refine(hys.mono (gC.tk (gZ Sn))).app (.cons (.tup (ic nt gb) (.cons (.flat rfl) (.cons (iv.mono (gC.tk (gZ Sn))) .nil))) .nil)
 intro H6 zs S6 hzs hl6 eD3;rw[hl6,cg (by lia)]at hzs;refine⟨D3,_,rfl,.inl ⟨SqL.of eD3,fun tu htu=>⟨qq,fun tv htv=>?_⟩⟩⟩;have S7:=gi htu (.tup zs);have S8:=gi htv (.tup [.str "rec",.ref tu,.int ((n+k:Nat):Int)]);have S58:=S6.trans (S7.trans S8);have hM6:∀b∈M,∃o,H6 b=some o:=fun b hb=>let⟨o,e⟩:=hM5 b hb;⟨o,S6 _ _ e⟩;have ntu:tu∉M:=vX hM6 htu;have ntv:tv∉M:=vX (fun b hb=>let⟨o,e⟩:=hM6 b hb;⟨o,S7 _ _ e⟩) htv;have iv8:Im (mask (upd (upd H6 tu (.tup zs)) tv (.tup [.str "rec",.ref tu,.int ((n+k:Nat):Int)])) M) (.ref tv) (Vl.rcd (fdO ((nms ws (c/16) k).zip (ir (kds t n spot (c/256) k)))) ((n+k:Nat):Int)).d:=by rw[Vl.d,FH,FF];exact .tup (ic ntv gb) (.cons (.flat rfl) (.cons (.tup (ic ntu (S8 _ _ gb)) (hzs.mono (gC.tk (gZ (S7.trans S8))))) (.cons (.flat rfl) .nil)))
 have hM8:∀b∈M,∃o,(upd (upd H6 tu (.tup zs)) tv (.tup [.str "rec",.ref tu,.int ((n+k:Nat):Int)])) b=some o:=fun b hb=>let⟨o,e⟩:=hM5 b hb;⟨o,S58 _ _ e⟩;have x8:=x3.same (gZ S58);have eD28:=S58 _ _ (gP _ _ eD2);have ep8:=S58 _ _ ep;have ef8:=S58 _ _ ef5;have F08:=F05.trans (Fr.same S58);dsimp only[gY];generalize upd (upd H6 tu (.tup zs)) tv (.tup [.str "rec",.ref tu,.int ((n+k:Nat):Int)])=H8 at iv8 hM8 x8 eD28 ep8 ef8 F08⊢;have al:=BL ti hd (spot:=spot) (k:=k) (b:=c/256);have RT:=Hy ti hl hd n16 wn (b:=c/256) (c:=c/16) hsk k6;obtain⟨j1,j2,j3⟩:=BI (kds t n spot (c/256) k);have ml:(msX (kds t n spot (c/256) k)).length<=1000:=by have:=RT.l;rw[Xt.ms,aA,aR]at this;lia
 refine⟨M,((n+k:Nat):Int),p,D2,some ("rec":Str)::yM (nms ws (c/16) k),_,(kds t n spot (c/256) k).map Xt.j,rfl,hM8,ep8,eD28,x8,by rw[cN,DT,n1,aD,kl],by rw[aA,uF,n1];lia,by rw[j1];exact ml,fun w' hw'=>?_,fun u hu=>?_,fun wl' H9 S9 pt=>?_⟩
 ·rcases ak.mp hw' with h|h;·cases h;decide+kernel
  ·have:=(mf (hw w' (n3 w' (yO h)))).2;lia
 ·obtain⟨u',hu',rfl⟩:=bh.mp hu;have g:=(u'.gt hw (al u' hu').1).1.l;have ml':u'.ms.length<=1000:=cQ (DU hu') ml;show u'.tx.length<=_;lia
 refine⟨pP,fun m2 hm2=>?_⟩;have S10:=gi hm2 (.lst []);have e10:=gb (H:=H9) (a:=m2) (o:= .lst []);dsimp only;generalize upd H9 m2 (.lst [])=H10 at S10 e10⊢;have pt10:=pt.same S10;refine⟨H8,M,wl',m2,.ref tv,((n+k:Nat):Int),_,(kds t n spot (c/256) k).map Xt.j,(Xt.mk ((n+k:Nat):Int) (.rcd (nms ws (c/16) k)) (kds t n spot (c/256) k)).j,[],[],rfl,S9.trans S10,hM8,pt10,Vl.rcd (fdO ((nms ws (c/16) k).zip (ir (kds t n spot (c/256) k)))) ((n+k:Nat):Int),(by show(Xt.mk ((n+k:Nat):Int) (.rcd (nms ws (c/16) k)) (kds t n spot (c/256) k)).val=_;rw[Xt.val];rfl),iv8.mono (fun a xs e=>nwO pt10 (S9.trans S10) e),nwN hM8 pt S9 hm2 e10,.nil,?_,?_,?_,?_,by rw[j1];exact ml,cX _,fun u hu=>?_,fun H' S' X'=>q _ _ _ (n+k) (by lia) (by lia) (F08.trans (Fr.same S')) (S' _ _ ef8) X' RT⟩;·show(Xt.mk ((n+k:Nat):Int) (.rcd (nms ws (c/16) k)) (kds t n spot (c/256) k)).tx=_;rw[Xt.tx,txF,BM (by rw[n1,kl])];rfl
 ·show(Xt.mk ((n+k:Nat):Int) (.rcd (nms ws (c/16) k)) (kds t n spot (c/256) k)).ms=_;rw[Xt.ms,j1];show _::(_++[])=_;rw[aE]
 ·show(Xt.mk ((n+k:Nat):Int) (.rcd (nms ws (c/16) k)) (kds t n spot (c/256) k)).ha=_;rw[Xt.ha,j2];show _++[]++_=_;rw[aE];rfl
 ·show(Xt.mk ((n+k:Nat):Int) (.rcd (nms ws (c/16) k)) (kds t n spot (c/256) k)).me=_;rw[Xt.me,j3];rfl
 ·obtain⟨u',hu',rfl⟩:=bh.mp hu;exact(al u' hu').2.2.2
open GR.Internal (isName)
theorem yP (h:Str) (i:Nat):∀{ms:List Int} {j:Nat},TM.Internal.nests (lfT h i j ms)<=1
 |[],j=>by rw[lfT,TM.Internal.nests];exact cX _
 |m::ms,j=>by have:=yP h i (ms:=ms) (j:=j+ 1);rw[lfT,TM.Internal.nests,TM.Internal.Tr.nest,TM.Internal.nests];lia
inductive XUn (vs:List V) (H:Hp) (Q:VK):Prop
 |mk (M:List Zx) (x:V) (t:Jt) (e:vs=[x]) (hM:∀b∈M,∃o,H b=some o) (X:XtA (mask H M) x t) (q:∀x' H',gC H H'->XtA (mask H' M) x' {t with ha:=[],me:=[]}->Q x' H')
def uG:Sp:=fun vs H Q _=>XUn vs H Q
theorem uH (T:Txt K mg):FO P w base 1 T.d33 uG:=by
 refine T.d33.F.rd tZ fun _ A _ s H vs Q E hr h=>?_;obtain⟨M,x,t,rfl,hM,⟨a,v,B,rfl,ea,iv,hb,hp⟩,q⟩:=h;refine⟨_,(gj (gG (gX pU (lT tH (cv 0) oS (mC gh)) (gT (fZ (gT gf) (fZ (gT gf) gf)))))),?_⟩;obtain⟨xs,e2,i2⟩:=hp 2 (by decide) (by decide);refine⟨_,rfl,a,_,rfl,SqL.of (gP _ _ ea),fun c hc=>?_⟩;have ec:vh [V.str t.tx,v,.ref (B 2),.ref (B 3),.ref (B 4)] none (some 3)=[.str t.tx,v,.ref (B 2)]:=rfl;rw[ec];refine⟨pP,fun l1 h1=>⟨pP,fun l2 h2=>⟨ow,fun l3 h3=>?_⟩⟩⟩;have S0:=gi hc (.lst [.str t.tx,v,.ref (B 2)]);have S1:=gi h1 (.lst []);have S2:=gi h2 (.lst []);have S3:=gi h3 (.lst [.ref l1,.ref l2]);have gc:=((S1.trans S2).trans S3) _ _ (gb (H:=H) (a:=c) (o:= .lst [.str t.tx,v,.ref (B 2)]));have g1:=(S2.trans S3) _ _ (gb (a:=l1) (o:= .lst []));have g2:=S3 _ _ (gb (a:=l2) (o:= .lst []));have g3:=gb (H:=upd (upd (upd H c (.lst [.str t.tx,v,.ref (B 2)])) l1 (.lst [])) l2 (.lst [])) (a:=l3) (o:= .lst [.ref l1,.ref l2]);have m1:=vX hM (S0.free h1);have m2:=vX hM ((S0.trans S1).free h2);have S03:=((S0.trans S1).trans S2).trans S3;dsimp only;generalize upd (upd (upd (upd H c (.lst [.str t.tx,v,.ref (B 2)])) l1 (.lst [])) l2 (.lst [])) l3 (.lst [.ref l1,.ref l2])=H4 at gc g1 g2 g3 S03⊢;refine⟨_,_,_,_,rfl,rfl,gc,g3,HF,fun r hr=>?_⟩;have S4:=gi hr (.lst [.str t.tx,v,.ref (B 2),.ref l1,.ref l2]);have S04:=S03.trans S4;have K4:=gZ (M:=M) S04;refine q _ _ S04 ⟨r,v,fun j=>if j=2 then B 2 else if j=3 then l1 else l2,rfl,ic (vX hM (S03.free hr)) gb,iv.mono (gC.tk K4),⟨cX _,cX _⟩,fun j j2 j5=>?_⟩;obtain rfl|rfl|rfl:j=2\/j=3\/j=4:=by lia
 ·exact⟨xs,K4 _ _ e2,i2.mono (gC.tk K4)⟩
 ·exact⟨[],ic m1 (S4 _ _ g1),.nil⟩
 ·exact⟨[],ic m2 (S4 _ _ g2),.nil⟩
def DV (h:Str) (v:Vl) (n spot i:Nat):Jt:=if i=spot then⟨h,v,[((n+ 2+i:Nat):Int)],[(((n+ 2+i:Nat):Int),v.p)],[]⟩else⟨TM.Internal.numS (i:Int),.num (i:Int) ((n+ 2+i:Nat):Int),[((n+ 2+i:Nat):Int)],[],[]⟩
def arms (h:Str) (v:Vl) (n spot k:Nat):List Jt:=(aa k).map (DV h v n spot)
def mks (n k:Nat):List Int:=(aa k).map fun i=>((n+ 2+i:Nat):Int)
theorem wa (h:Str) (v:Vl) (n spot k:Nat):arms h v n spot (k+ 1)=arms h v n spot k++[DV h v n spot k]:=by unfold arms;rw[cE,bp];rfl
theorem CJ (n k:Nat):mks n (k+ 1)=mks n k++[((n+ 2+k:Nat):Int)]:=by unfold mks;rw[cE,bp];rfl
theorem BN (h:Str) (v:Vl) (n spot:Nat):∀k:Nat,msJ (arms h v n spot k)=mks n k/\haJ (arms h v n spot k)=(if spot<k then[(((n+ 2+spot:Nat):Int),v.p)]else[])/\meJ (arms h v n spot k)=[]
 |0=>⟨rfl,by rw[gN (dt _)];rfl,rfl⟩
 |k+ 1=>by
  obtain⟨h1,h2,h3⟩:=BN h v n spot k;rw[wa,rK,xA,xB,h1,h2,h3,CJ];unfold DV;by_cases e:k=spot;·subst e;rw[gU rfl,gN (cO _),gU (cY _)];exact⟨rfl,rfl,rfl⟩
  ·rw[gN e];refine⟨rfl,?_,rfl⟩;show _++([]++[])=_;rw[aE,aE];split;·rw[gU (by lia)]
   ·rw[gN (by lia)]
theorem Hz (h:Str) (v:Vl) (n spot k:Nat):∀u∈arms h v n spot k,u.b/\(h.length<=12->k<=6->u.tx.length<=100000):=fun u hu=>by
 obtain⟨i,hi,rfl⟩:=bh.mp hu;unfold DV;split;·exact⟨⟨cW _,cX _⟩,fun h1 _=>by show h.length<=_;lia⟩
 ·refine⟨⟨cX _,cX _⟩,fun _ h6=>?_⟩;have:=af.mp hi;have g:=(Bn (n:=(i:Int)) (by lia) (by lia)).ln;show(TM.Internal.numS (i:Int)).length<=_;lia
def r8 (h:Str):List Str->List (Option Str)
 |[]=>[]
 |w::l=>some w::some h::none::r8 h l
theorem yQ (h:Str):∀a b:List Str,r8 h (a++b)=r8 h a++r8 h b
 |[],b=>rfl
 |w::a,b=>by rw[aV,r8,yQ h a b];rfl
theorem uI (h:Str):∀l:List Str,(r8 h l).length=3*l.length
 |[]=>rfl
 |w::l=>by rw[r8,aA,aA,aA,uI h l,aA];lia
theorem DW (h:Str):∀l:List Str,cN (r8 h l)=l.length
 |[]=>rfl
 |w::l=>by rw[r8,cN,cN,cN,DW h l,aA]
theorem yR {h:Str}:∀{l:Zd} {w:Str},some w∈r8 h l->w∈l\/w=h
 |v::l,w,m=>by
  rcases ak.mp m with m|m;·cases m;exact .inl ah
  ·rcases ak.mp m with m|m;·cases m;exact .inr rfl
   ·rcases ak.mp m with m|m;·cases m
    ·exact(yR m).imp (aj _) id
theorem BP {h:Str} {spot:Nat}:∀{l:Zd} {js:List Jt} {j:Nat},js.length=l.length->(∀(i:Nat) (u:Jt),js[i]?=some u->u.tx=lfX h spot (j+i))->txF (r8 h l) js=arX h spot j l
 |[],[],j,_,_=>rfl
 |w::l,u::js,j,e,hx=>by have h0:=hx 0 u rfl;rw[arX,<-BP (h:=h) (spot:=spot) (l:=l) (js:=js) (j:=j+ 1) (dr.inj e) (fun i v hv=>by rw[hx (i+ 1) v hv,show j+(i+ 1)=j+ 1+i by lia])];show w::h::u.tx::txF (r8 h l) js=_;rw[h0];rfl
theorem Fn {ws:Zd} {vs:List Vl} {t:Xt} {lo n d:Nat} {tg:Str} {v:Vl} {p:Int} (ti:Ti ws vs t lo n d) (hl:lo<=n) (hd:1<=d) (hv:t.val= .tag tg v p) (n16:ws.length=16) (wn:ws.Nodup) {spot k:Nat} {b:Int} {h:Str} (hs:spot<k) (hk:k<=6) (hb:nmF ws b spot=tg) (hh:h∈ws):Ti ws vs (.mk ((n+ 1:Nat):Int) (.case (nms ws b k) h (mks n k) spot) [t]) lo (n+ 1+k) (d+ 1):=by
 obtain⟨l1,l2,l3⟩:=v8 n16 wn (c:=b) hk;have ml:(mks n k).length=k:=by unfold mks;rw[aD,cF]
 have em:(Xt.mk ((n+ 1:Nat):Int) (.case (nms ws b k) h (mks n k) spot) [t]).ms=((n+ 1:Nat):Int)::(t.ms++mks n k):=by rw[Xt.ms,msX,msX,aE];rfl
 have r:=ti.rg;have tl:=ti.l;have mr:∀m∈mks n k,((n+ 1:Nat):Int)<m/\m<=((n+ 1+k:Nat):Int):=fun m hm=>by obtain⟨i,hi,rfl⟩:=bh.mp hm;have:=af.mp hi;lia
 have mn:(mks n k).Nodup:=by unfold mks;exact cD.mpr (cH.imp_of_mem fun{i j} _ _ hij z=>by lia)
 have vo:=ti.vo;rw[hv,Vl.ok]at vo;have ats:(nms ws b k)[spot]?=some tg:=by unfold nms;rw[aO,cJ hs];exact congrArg some hb
 refine⟨?_,?_,?_,fun m hm=>?_,?_,?_⟩;·rw[Xt.ok,okL,okL,ir,ir];exact⟨⟨⟨tg,v,p,by rw[hv],ats⟩,by rw[ml,l1],by lia,l2,l3,hh⟩,ti.ok,trivial⟩
 ·rw[Xt.val,ir,ir];show Vl.ok ws t.val.inn;rw[hv];exact vo.2
 ·rw[em];refine aF.mpr ⟨fun z=>?_,cc.mpr ⟨ti.nd,mn,fun x hx y hy z=>?_⟩⟩
  ·rcases ao.mp z with z|z;·have:=(r _ z).2;lia
   ·have:=(mr _ z).1;lia
  ·have:=(r _ hx).2;have:=(mr _ hy).1;lia
 ·rw[em]at hm;rcases ak.mp hm with rfl|hm;·lia
  ·rcases ao.mp hm with hm|hm;·have:=r _ hm;lia
   ·have:=mr _ hm;lia
 ·rw[pO,mW,nv,mX];have:TM.Internal.nests (lfT h spot 0 (mks n k))<=1:=yP h spot;have:=ti.ns;show 1+max _ (TM.Internal.nests (lfT h spot 0 (mks n k)))<=_;lia
 ·rw[em,aA,aR,ml];lia
open GR.Internal (isName)
inductive XCa (vs':List V) (H:Hp) (Q:VK):Prop
 |mk (ws:Zd) (vs:List Vl) (M:List Zx) (fr wl:Zx) (n lo d:Nat) (x:V) (t:Xt) (c:Int) (tg:Str) (v:Vl) (p:Int) (e:vs'=[.ref fr,.ref wl,x,.int c]) (h:Mk5 ws vs M fr wl n lo d H x t) (hv:t.val= .tag tg v p) (hc:0<=c) (q:Rs ws vs M fr n lo d H Q)
def uJ:Sp:=fun vs H Q _=>XCa vs H Q
theorem uK (T:Txt K mg):FO P w base 3 T.d44 uJ:=by
 refine T.d44.F.rd iC fun _ A _ s H vs Q E hr h=>?_;obtain⟨ws,vs,M,fr,wl,n,lo,d,x,t,c,tg,v,p,rfl,⟨hM,hf,ef,hn,hl,hw,n16,wn,ew,X,ti,hd⟩,hv,hc,q⟩:=h;refine⟨_,(f9 (pS (i:=4) iC.nd (pF T.d40 (p9 T) hr.m (fZ (cv 0) (fZ (cv 3) gf))))
  (f9 (pS (i:=5) iC.nd (gX jo (gX jG (cv 3) gh) (cv 4)))
  (f9 (pS (i:=6) iC.nd (gX Dh (jt fc eZ PySem.F.type_list_index (AN hr) (cv 1) (fZ (gy gA (gy gA (gy gJ (cv 2) gh) gh) gh) gf)) (cv 5)))
  (f9 (pS (i:=7) iC.nd (gy gJ (cv 1) (gX jo (gX jG (cv 3) gh) gh)))
  (f9 (pS (i:=8) iC.nd (pF T.d28 (jK T) hr.m (fZ (cv 0) gf)))
  (f9 (pS (i:=9) iC.nd (gT (fZ gE (fZ lM gf))))
  (f9 (pS (i:=10) iC.nd (gT (fZ (cv 2) gf)))
  (f9 (jb PassesOwn.never rfl (ku rfl T.z_range (fZ (cv 4) gf)) (pN (i:=11) iC.nd)
   (f9 (pS (i:=9) iC.nd (gX pU (cv 9) (gT (fZ (gy gJ (cv 1) (gX jo (gX nB (cv 6) (cv 11)) gh)) (fZ (cv 7) (fZ lM gf))))))
   (gj (ie (gH jZ (cv 11) (cv 5))
    (gj (gL (iS (jt fc fe fg gR (PE.mono (cv 10)) (fZ (PE.mono (pF T.d30 (oO T) hr.m (fZ (cv 0) (fZ (cv 7) (fZ (gy gA (gy gA (gy gJ (cv 2) gh) gh) gh) gf))))) gf)))))
    (gj (gL (iS (jt fc fe fg gR (PE.mono (cv 10)) (fZ (PE.mono (pF T.d33 (uH T) hr.m (fZ (pF T.d29 (lK T) hr.m (fZ (cv 0) (fZ (cv 11) gf))) gf))) gf)))))))))
  (gj (gG (pF T.d32 (kr T) hr.m (fZ (pF T.d31 (lA T) hr.m (fZ (cv 8) (fZ (cv 9) (fZ (cv 10) gf)))) (fZ (gy gA (gy gA (gy gJ (cv 2) gh) gh) gh) (fZ (gT (fZ (ij (fZ (gy gA (gy gJ (cv 2) gh) gh) (fZ (cv 8) (fZ gh gf)))) gf)) gf)))))))))))))),?_⟩;have sl:=sizeLine_eq;refine⟨fr,n,c,rfl,ef,fun k k1 kx k6=>?_⟩;dsimp only[gY];obtain⟨spot,hspot,hsk⟩:∃spot:Nat,c/4%(k:Int)=(spot:Int)/\spot<k:=by have a:=fM (c/4) (show(k:Int)≠0 by lia);have b:=fN (c/4) (show(0:Int)<(k:Int) by lia);exact⟨(c/4%(k:Int)).toNat,by lia,by lia⟩
 refine⟨⟨by decide,by decide⟩,(by show(0:Int)<(k:Int);lia),?_⟩;dsimp only[gY];rw[hspot];have X0:=X;obtain⟨ai,y,B,rfl,ea,iv,tb,_⟩:=X0;replace iv:Im (mask H M) y t.val.d:=iv;rw[hv]at iv;obtain⟨t0,u0,z0,rfl,e0,eu0,iz⟩:=Dr iv;have vo:=ti.vo;rw[hv,Vl.ok]at vo;obtain⟨vo1,vo2⟩:=vo;obtain⟨ix,hix⟩:=cy vo1;have hix16:=(au.mp hix).1;rw[n16]at hix16;have ew0:=gP _ _ ew;refine⟨.inl ⟨rfl,_,SqL.of ew0⟩,_,gP _ _ ea,gu (gq (j:=1) rfl) ⟨_,gP _ _ e0,gu (gq (j:=1) rfl) ⟨_,gP _ _ eu0,gu (gq (j:=0) rfl) ⟨wl,ws,tg,ix,rfl,rfl,SqL.of ew0,by lia,hix,fun m hm z=>?_,?_⟩⟩⟩⟩;·have:=(cz (au.mp z).1 wn).mp (z.trans hix.symm);lia
 obtain⟨j,hj,hj16⟩:∃j:Nat,c/16%16=(j:Int)/\j<16:=⟨(c/16%16).toNat,by lia,by lia⟩;obtain⟨h,hh⟩:∃h,ws[j]?=some h:=⟨_,bF (by lia)⟩;have hm:=aQ hh;dsimp only[gY];refine⟨⟨by decide,by decide⟩,(by show(0:Int)<16;decide),_,ew0,gu (by rw[hj];exact gq (by rw[aO,hh];rfl)) ?_⟩;dsimp only[gY];refine⟨fr,n,rfl,ef,by lia,?_⟩;have ef1:Fh (upd H fr (.lst (aH (n+ 1) .non))) fr (n+ 1):=gb;have F1:Fr [fr] H (upd H fr (.lst (aH (n+ 1) .non))):=kX;have hM1:=kW (a:=fr) (o:= .lst (aH (n+ 1) .non)) hM;have K1:=v3 F1 hf;replace X:=X.same K1;replace ew:=K1 _ _ ew;replace ea:=K1 _ _ ea;replace e0:=K1 _ _ e0;replace eu0:=K1 _ _ eu0;replace iz:=iz.mono (gC.tk K1);dsimp only[gY];generalize upd H fr (.lst (aH (n+ 1) .non))=H1 at ef1 F1 hM1 X ew ea e0 eu0 iz⊢;clear K1 hM ef ew0;refine⟨ow,fun p0 hp0=>?_⟩;dsimp only[gY];refine⟨wo,fun pl hpl=>?_⟩;have S1:=gi hp0 (.lst [.str "case",.non]);have S2:=gi hpl (.lst [.ref ai]);have ep0:=S2 _ _ (gb (H:=H1) (a:=p0) (o:= .lst [.str "case",.non]));have epl:=gb (H:=upd H1 p0 (.lst [.str "case",.non])) (a:=pl) (o:= .lst [.ref ai]);have S12:=S1.trans S2;have n0:H1 pl=none:=S1.free hpl;have plf:pl≠fr:=(gr ef1 n0).symm;have npl:pl∉M:=vX hM1 n0;dsimp only[gY];generalize upd (upd H1 p0 (.lst [.str "case",.non])) pl (.lst [.ref ai])=H2 at ep0 epl S12⊢;refine⟨(k:Int),rfl,by lia,by lia,?_⟩;rw[fH];have bb:((ix:Int)-(spot:Int))=((ix:Int)-(spot:Int)):=rfl;generalize hbs:((ix:Int)-(spot:Int))=bs at⊢;have hsp:nmF ws bs spot=tg:=by unfold nmF;rw[show(bs+(0+(spot:Int)))%16=(ix:Int) by lia,fH,bu,hix];rfl
 refine mw (fun i σ H5=>∃p o11,σ=[some (.ref fr),some (.ref wl),some (.ref ai),some (.int c),some (.int (k:Int)),some (.int (spot:Int)),some (.int bs),some (.str h),some (.int ((n+ 1:Nat):Int)),some (.ref p),some (.ref pl),o11]/\Fr [fr] H1 H5/\Fh H5 fr (n+ 1+i)/\H5 p=some (.lst ((some ("case":Str)::none::r8 h ((nms ws bs k).take i)).map oV))/\p≠fr/\p≠pl/\∃ys,H5 pl=some (.lst (.ref ai::ys))/\qp (mask H5 (pl::M)) ys (arms h v n spot i)) ⟨p0,none,rfl,Fr.same S12,S12 _ _ ef1,ep0,?_,?_,[],epl,.nil⟩ ?_ ?_;·exact(gr ef1 hp0).symm
 ·exact gr (gb (H:=H1) (a:=p0) (o:= .lst [.str "case",.non])) hpl
 ·rintro i σ H5 hi ⟨p,o11,rfl,F5,f5,ep,pf,pp,ys,ey,xs⟩;have hb0:0+(i:Int)=(i:Int):=fK _;have K5:=v3 F5 hf;have nl1:((nms ws bs k).take i).length=i:=by rw[aK,(v8 n16 wn (c:=bs) k6).1];lia
  obtain⟨j',ej,hj'⟩:=v7 n16 bs i;have hnm:(nms ws bs k)[i]?=some (nmF ws bs i):=by unfold nms;rw[aO,cJ hi];rfl
  dsimp only[gY];rw[hb0]at ej⊢;refine⟨(by show(0:Int)<16;decide),_,gP _ _ (K5 _ _ ew),gu (by rw[ej];exact gq (by rw[aO,hj'];rfl)) ⟨qq,fun l3 h3=>⟨_,_,_,_,rfl,rfl,gi h3 _ _ _ ep,gb,?_,fun p2 hp2=>?_⟩⟩⟩;·rw[aD,aA,aA,uI,nl1];show _+ 3<=_;lia
  have S6:=gi h3 (.lst [.str (nmF ws bs i),.str h,.non]);have S7:=gi hp2 (.lst ((some ("case":Str)::none::r8 h ((nms ws bs k).take i)).map oV++[.str (nmF ws bs i),.str h,.non]));have S57:=S6.trans S7;have ep7:(upd (upd H5 l3 (.lst [.str (nmF ws bs i),.str h,.non])) p2 (.lst ((some ("case":Str)::none::r8 h ((nms ws bs k).take i)).map oV++[.str (nmF ws bs i),.str h,.non]))) p2=some (.lst ((some ("case":Str)::none::r8 h ((nms ws bs k).take (i+ 1))).map oV)):=by rw[gb,cf,hnm,show(some (nmF ws bs i)).toList=[nmF ws bs i]from rfl,yQ];show some (HO.lst (_++[V.str (nmF ws bs i),V.str h,V.non]))=some (HO.lst (bH oV ((some ("case":Str)::none::r8 h ((nms ws bs k).take i))++[some (nmF ws bs i),some h,none])));rw[bp];rfl
  have pf7:p2≠fr:=(gr (S6 _ _ f5) hp2).symm;have pp7:p2≠pl:=(gr (S6 _ _ ey) hp2).symm;replace F5:=F5.trans (Fr.same S57);replace f5:=S57 _ _ f5;replace ey:=S57 _ _ ey;replace xs:=xs.same (gZ S57);dsimp only[gY];generalize upd (upd H5 l3 (.lst [.str (nmF ws bs i),.str h,.non])) p2 (.lst ((some ("case":Str)::none::r8 h ((nms ws bs k).take i)).map oV++[.str (nmF ws bs i),.str h,.non]))=H7 at ep7 F5 f5 ey xs⊢;clear S6 S7 S57 K5 ep pf pp hp2 h3;have KM:gC (mask H1 M) (mask H7 (pl::M)):=fun b u e=>by
   obtain⟨e1,e2⟩:=jn e;refine ic (fun z=>?_) (F5 _ _ e2 fun z=>e1 (by rw[bo.mp z];exact hf));rcases ak.mp z with z|z;·rw[z,n0]at e2;cases e2
   ·exact e1 z
  have dom:∀{m:Nat} {H8:Hp},Fr [fr] H7 H8->Fh H8 fr m->∀b∈pl::M,∃o,H8 b=some o:=fun F f b hb=>by
   rcases ak.mp hb with rfl|hb;·exact⟨_,F _ _ ey (fun z=>plf (bo.mp z))⟩
   ·by_cases z:b=fr;·rw[z];exact⟨_,f⟩
    ·obtain⟨u,e⟩:=hM1 b hb;exact⟨u,F _ _ (F5 _ _ e (fun y=>z (bo.mp y))) (fun y=>z (bo.mp y))⟩
  have ly:=xs.len;have la:(arms h v n spot i).length=i:=by unfold arms;rw[aD,cF]
  have fin:∀{x:V} {H8:Hp},Fr [fr] H7 H8->Fh H8 fr (n+ 1+i+ 1)->XtA (mask H8 (pl::M)) x (DV h v n spot i)->∃zs,H8 pl=some (.lst zs)/\zs.length<sizeLine/\∃p o11,[some (V.ref fr),some (.ref wl),some (.ref ai),some (.int c),some (.int (k:Int)),some (.int (spot:Int)),some (.int bs),some (.str h),some (.int ((n+ 1:Nat):Int)),some (.ref p2),some (.ref pl),some (.int (i:Int))]=[some (.ref fr),some (.ref wl),some (.ref ai),some (.int c),some (.int (k:Int)),some (.int (spot:Int)),some (.int bs),some (.str h),some (.int ((n+ 1:Nat):Int)),some (.ref p),some (.ref pl),o11]/\Fr [fr] H1 (upd H8 pl (.lst (zs++[x])))/\Fh (upd H8 pl (.lst (zs++[x]))) fr (n+ 1+(i+ 1))/\(upd H8 pl (.lst (zs++[x]))) p=some (.lst ((some ("case":Str)::none::r8 h ((nms ws bs k).take (i+ 1))).map oV))/\p≠fr/\p≠pl/\∃ys,(upd H8 pl (.lst (zs++[x]))) pl=some (.lst (.ref ai::ys))/\qp (mask (upd H8 pl (.lst (zs++[x]))) (pl::M)) ys (arms h v n spot (i+ 1)):=fun{x H8} F8 f8 x8=>by
   have F5D:Fr (pl::M) H8 (upd H8 pl (.lst (.ref ai::ys++[x]))):=kX.le (fun b hb=>by rw[bo.mp hb];exact ah);have F78:Fr (pl::M) H7 H8:=F8.le (fun b hb=>by rw[bo.mp hb];exact aj _ hf);refine⟨_,F8 _ _ ey (fun z=>plf (bo.mp z)),by rw[aA];lia,p2,_,rfl,fun b u e' hb'=>?_,by rw[Fh,gx plf.symm];exact f8,by rw[gx pp7];exact F8 _ _ ep7 (fun z=>pf7 (bo.mp z)),pf7,pp7,ys++[x],gb,?_⟩;·rw[gx (fun z=>by rw[z,n0]at e';cases e')];exact F8 _ _ (F5 _ _ e' hb') hb'
   ·rw[wa];exact(xs.same (F78.trans F5D).mask).snoc (x8.same F5D.mask)
  show(if(xor false (decide ((i:Int)=(spot:Int))))=true then(_:Prop)else _);rw[fB];by_cases e:i=spot;·rw[hI (by lia)];refine jJ ⟨⟨_,ey⟩,_,gP _ _ (KM _ _ ea),gu (gq (j:=1) rfl) ⟨_,gP _ _ (KM _ _ e0),gu (gq (j:=1) rfl) ⟨_,gP _ _ (KM _ _ eu0),gu (gq (j:=1) rfl) ⟨pl::M,fr,n+ 1+i,h,z0,v,rfl,dom (fun _ _ e _=>e) f5,aj _ hf,f5,by lia,iz.mono (gC.tk KM),fun x H8 F8 f8 x8=>fin F8 f8 ?_⟩⟩⟩⟩;rw[show DV h v n spot i=⟨h,v,[((n+ 2+i:Nat):Int)],[(((n+ 2+i:Nat):Int),v.p)],[]⟩from gU e,show n+ 2+i=n+ 1+i+ 1 by lia];exact x8
  ·rw[ik (by lia)];refine iL ⟨⟨_,ey⟩,pl::M,fr,n+ 1+i,(i:Int),rfl,dom (fun _ _ e _=>e) f5,aj _ hf,f5,by lia,⟨by lia,by lia⟩,fun x H8 F8 f8 x8=>?_⟩;refine⟨pl::M,x,_,rfl,dom F8 f8,x8,fun x' H9 S9 x9=>fin (F8.trans (Fr.same S9)) (S9 _ _ f8) ?_⟩;rw[show DV h v n spot i=⟨TM.Internal.numS (i:Int),.num (i:Int) ((n+ 2+i:Nat):Int),[((n+ 2+i:Nat):Int)],[],[]⟩from gN e,show n+ 2+i=n+ 1+i+ 1 by lia];exact x9
 rintro σ H5 ⟨p1,o11,rfl,F5,f5,ep,pf,pp,ys,ey,xs⟩;obtain⟨n1,n2,n3⟩:=v8 n16 wn (c:=bs) k6;rw[cg (by lia)]at ep;have K5:=v3 F5 hf;have hM5:=DQ hM1 F5 f5;have la:(arms h v n spot k).length=k:=by unfold arms;rw[aD,cF]
 have x5:qp (mask H5 M) (.ref ai::ys) (t.j::arms h v n spot k):= .cons (X.same K5) (xs.same (rL fun a ha=>aj _ ha));have CT:=Fn ti hl hd hv n16 wn hsk k6 hsp hm;obtain⟨a1,a2,a3⟩:=BN h v n spot k;have ab:=Hz h v n spot k;have em:(Xt.mk ((n+ 1:Nat):Int) (.case (nms ws bs k) h (mks n k) spot) [t]).ms=((n+ 1:Nat):Int)::(t.ms++mks n k):=by rw[Xt.ms,msX,msX,aE];rfl
 have ml:(t.ms++mks n k).length<=1000:=by have:=CT.l;rw[em,aA]at this;lia
 have w12:∀w∈ws,w.length<=12:=fun w hw'=>(mf (hw w hw')).2;obtain⟨tx1,tx2⟩:=ti.tx hw (by lia);refine⟨M,((n+ 1:Nat):Int),p1,pl,some ("case":Str)::none::r8 h (nms ws bs k),_,t.j::arms h v n spot k,rfl,hM5,ep,ey,x5,by rw[cN,cN,DW,n1,aA,la],by rw[aA,aA,uI,n1];lia,by rw[msJ,a1];exact ml,fun w' hw'=>?_,fun u hu=>?_,fun wl' H6 S6 pt=>?_⟩
 ·rcases ak.mp hw' with e|e;·cases e;decide+kernel
  ·rcases ak.mp e with e|e;·cases e
   ·rcases yR e with e|rfl;·have:=w12 w' (n3 w' e);lia
    ·have:=w12 w' hm;lia
 ·rcases ak.mp hu with rfl|hu;·exact tx1
  ·exact(ab u hu).2 (w12 h hm) k6
 have KK.Internal:∀{H':Hp},gC H5 H'->gC (mask H1 M) H':=fun S b u e=>S _ _ (gP _ _ (K5 _ _ e));refine⟨_,KK.Internal S6 _ _ ea,gu (gq (j:=1) rfl) ⟨_,KK.Internal S6 _ _ e0,gu (gq (j:=1) rfl) ⟨_,KK.Internal S6 _ _ eu0,gu (gq (j:=1) rfl) ⟨_,KK.Internal S6 _ _ ea,gu (gq (j:=1) rfl) ⟨_,KK.Internal S6 _ _ e0,gu (gq (j:=2) rfl) ⟨qq,fun t1 k8=>⟨wo,fun m2 k9=>?_⟩⟩⟩⟩⟩⟩⟩;have S8:=gi k8 (.tup [.int p,.int ((n+ 1:Nat):Int),.int 0]);have S9:=gi k9 (.lst [.ref t1]);have S69:=S8.trans S9;have e8:=S9 _ _ (gb (a:=t1) (o:= .tup [.int p,.int ((n+ 1:Nat):Int),.int 0]));have e9:=gb (H:=upd H6 t1 (.tup [.int p,.int ((n+ 1:Nat):Int),.int 0])) (a:=m2) (o:= .lst [.ref t1]);have m9:=S8.free k9;dsimp only;generalize upd (upd H6 t1 (.tup [.int p,.int ((n+ 1:Nat):Int),.int 0])) m2 (.lst [.ref t1])=H9 at S69 e8 e9⊢;have pt9:=pt.same S69;have kv:t.val.inn=v:=by rw[hv];rfl
 refine⟨H5,M,wl',m2,z0,((n+ 1:Nat):Int),_,t.j::arms h v n spot k,(Xt.mk ((n+ 1:Nat):Int) (.case (nms ws bs k) h (mks n k) spot) [t]).j,[(p,((n+ 1:Nat):Int),0)],[.ref t1],rfl,S6.trans S69,hM5,pt9,v,(by show(Xt.mk ((n+ 1:Nat):Int) (.case (nms ws bs k) h (mks n k) spot) [t]).val=_;rw[Xt.val,ir,ir];exact kv),(iz.mono (gC.tk K5)).mono (fun a xs e=>nwO pt9 (S6.trans S69) e),nwN hM5 pt S6 m9 e9,.cons (.tup (nwN hM5 pt S6 k8 e8) (.cons (.flat rfl) (.cons (.flat rfl) (.cons (.flat rfl) .nil)))) .nil,?_,?_,?_,?_,by rw[msJ,a1];exact ml,cW _,fun u hu=>?_,fun H' S' X'=>q _ _ _ (n+ 1+k) (by lia) (by lia) ((F1.trans F5).trans (Fr.same S')) (S' _ _ f5) X' CT⟩
 ·show(Xt.mk ((n+ 1:Nat):Int) (.case (nms ws bs k) h (mks n k) spot) [t]).tx=_;rw[Xt.tx,txX,txX];show "("++Str.join " " ("case"::(t.tx::arX h spot 0 (nms ws bs k)))++")"="("++Str.join " " ("case"::t.tx::txF (r8 h (nms ws bs k)) (arms h v n spot k))++")";rw[BP (spot:=spot) (j:=0) (by rw[la,n1]) fun i u hu=>?_];unfold arms at hu;rw[aO]at hu;obtain⟨i',hi',rfl⟩:=dI.mp hu;have:i'=i:=by have hl':=(au.mp hi').1;rw[cF]at hl';rw[cJ hl']at hi';exact(dE.inj hi').symm
  subst this;unfold DV lfX;rw[dj];split<;>rfl
 ·show(Xt.mk ((n+ 1:Nat):Int) (.case (nms ws bs k) h (mks n k) spot) [t]).ms=_;rw[em,msJ,a1];rfl
 ·show(Xt.mk ((n+ 1:Nat):Int) (.case (nms ws bs k) h (mks n k) spot) [t]).ha=_;rw[Xt.ha,haX,haX,ir,ir,haJ,a2,gU hsk,aE];show t.ha++[((mks n k).getD spot 0,t.val.inn.p)]++[(_,t.val.inn.p)]=t.ha++[_]++[_];rw[kv,bu];unfold mks;rw[aO,cJ hsk];rfl
 ·show(Xt.mk ((n+ 1:Nat):Int) (.case (nms ws bs k) h (mks n k) spot) [t]).me=_;rw[Xt.me,meX,meX,ir,ir,meJ,a3,aE];show t.me++[(t.val.p,_,_)]=t.me++[]++[_];rw[hv,aE];rfl
 ·rcases ak.mp hu with rfl|hu;·exact tb
  ·exact(ab u hu).1
open GR.Internal (isName)
theorem yS {ws:Zd} {t:Xt}:∀{ts:List Xt} {vs:List Vl},okX ws vs ts->t.ok ws (vs++ts.map Xt.val)->okX ws vs (ts++[t])
 |[],vs,_,h=>⟨by rw[aX,aE]at h;exact h,trivial⟩
 |u::ts,vs,k,h=>⟨k.1,yS k.2 (by rw[bV];exact h)⟩
theorem uL (ts:List Xt) (t:Xt):msX (ts++[t])=msX ts++t.ms:=by rw[ou,msX,msX,aE]
theorem BQ {ws:Zd} {vs:List Vl} {κ:Kx} {n:Nat} (ok:κ.ok ws vs []) (hm:κ.lm=[]/\κ.lt=[]) (vo:(κ.v ((n+ 1:Nat):Int) []).ok ws):Ti ws vs (.mk ((n+ 1:Nat):Int) κ []) n (n+ 1) 1:=by
 have em:(Xt.mk ((n+ 1:Nat):Int) κ []).ms=[((n+ 1:Nat):Int)]:=by rw[Xt.ms,msX,hm.1];rfl
 refine⟨by rw[Xt.ok,okL,ir];exact⟨ok,trivial⟩,by rw[Xt.val,ir];exact vo,?_,fun m hm'=>?_,?_,?_⟩;·rw[em];exact aF.mpr ⟨(fun z=>nomatch z),cm⟩
 ·rw[em]at hm';rw[bo.mp hm'];lia
 ·rw[pO,hm.2,aE,mX];decide
 ·rw[em,bf];lia
def bC (c:Nat):Nat:=if c<=3 then 7*c+ 1 else if c<=6 then 7+ 5*c else 26+ 2*c
theorem Fo {c n n' d:Nat} (h:n<=bC c+d) (h':n'<=n+ 1+mx n):n'<=bC (c+ 1)+d:=by unfold bC mx at*;split at h'<;>(try split at h')<;>split at h<;>(try split at h)<;>split<;>(try split)<;>lia
theorem rN {c c':Nat} (h:c<=c'):bC c<=bC c':=by unfold bC;(repeat' split)<;>lia
structure Df (ws:Zd) (ts:List Xt) (n:Nat):Prop where
 ok:okX ws [] ts
 vo:∀t∈ts,t.val.ok ws
 nd:(msX ts).Nodup
 rg:∀m∈msX ts,((0:Nat):Int)<m/\m<=(n:Int)
 ns:∀t∈ts,t.tr.nest<=10
 l:(msX ts).length<=n
theorem Df.snoc {ws:Zd} {ts:List Xt} {t:Xt} {n n' d:Nat} (D:Df ws ts n) (g:Ti ws (ts.map Xt.val) t n n' d) (h:n<=n') (hd:d<=10):Df ws (ts++[t]) n':=by
 refine⟨yS D.ok g.ok,fun u hu=>?_,?_,fun m hm=>?_,fun u hu=>?_,?_⟩
 ·rcases ao.mp hu with hu|hu;·exact D.vo u hu
  ·rw[bo.mp hu];exact g.vo
 ·rw[uL];exact cc.mpr ⟨D.nd,g.nd,fun x hx y hy z=>by have:=D.rg x hx;have:=g.rg y hy;lia⟩
 ·rw[uL]at hm;rcases ao.mp hm with hm|hm;·have:=D.rg m hm;lia
  ·have:=g.rg m hm;lia
 ·rcases ao.mp hu with hu|hu;·exact D.ns u hu
  ·rw[bo.mp hu];exact cQ g.ns hd
 ·rw[uL,aR];have:=D.l;have:=g.l;lia
theorem HA {N:Int} (h1:2<=N) (h2:N<=63):1<=rsz 1 N 9/\rsz 1 N 9<=7:=by unfold rsz;rw[gU (by lia)];lia
theorem CK (ns:List Int) (k:Nat) (hi:Int) (hh:hi<=1+(k:Int)*9+ 9) (h0:0<=hi):∃ms:List Int,vh (ns.map V.int) (some (1+(k:Int)*9)) (some hi)=ms.map V.int/\ms.length<=9:=by
 refine⟨(ns.drop (HT.Internal.sIx (ns.map V.int).length 0 (some (1+(k:Int)*9)))).take (HT.Internal.sIx (ns.map V.int).length (ns.map V.int).length (some hi)-HT.Internal.sIx (ns.map V.int).length 0 (some (1+(k:Int)*9))),?_,?_⟩;·unfold vh;rw[<-List.map_drop,<-List.map_take]
 ·rw[aK];have e:∀{d:Nat} {v:Int},0<=v->HT.Internal.sIx (ns.map V.int).length d (some v)=min v.toNat (ns.map V.int).length:=fun h=>gN (by lia);rw[e h0,e (v:=1+(k:Int)*9) (by lia)];lia
theorem yT (ns:List Int) (lo hi:Option Int):∃ms:List Int,vh (ns.map V.int) lo hi=ms.map V.int/\ms.length<=ns.length:=by
 refine⟨(ns.drop (HT.Internal.sIx (ns.map V.int).length 0 lo)).take (HT.Internal.sIx (ns.map V.int).length (ns.map V.int).length hi-HT.Internal.sIx (ns.map V.int).length 0 lo),?_,?_⟩;·unfold vh;rw[<-List.map_drop,<-List.map_take]
 ·rw[aK,aZ];lia
inductive XNx (vs':List V) (H:Hp) (Q:VK):Prop
 |mk (ws:Zd) (vs:List Vl) (M:List Zx) (fr wl:Zx) (n lo d:Nat) (x:V) (t:Xt) (c:Int) (e:vs'=[.ref fr,.ref wl,x,.int c]) (h:Mk5 ws vs M fr wl n lo d H x t) (q:Rs ws vs M fr n lo d H Q)
def wb:Sp:=fun vs H Q _=>XNx vs H Q
theorem wc (T:Txt K mg):FO P w base 4 T.d45 wb:=by
 refine T.d45.F.rd pZ fun _ A _ s H vs Q E hr h=>?_;obtain⟨ws,vs,M,fr,wl,n,lo,d,x,t,c,rfl,h,q⟩:=h;refine⟨_,(f9 (pS (i:=4) pZ.nd (gX jo (cv 3) (gX yg gh gh)))
  (f9 (ie (gH jZ (gX jo (cv 4) gh) gh)
   (gj (gG (pF T.d42 (xE T) hr.m (fZ (cv 0) (fZ (cv 1) (fZ (cv 2) (fZ (gX jG (cv 4) gh) gf)))))))
   gK)
  (f9 (ie (PW.pt (xT (gH ED (gX jo (cv 4) gh) gh) (sX (gH jZ (gy gA (gy gJ (cv 2) gh) gh) gE))))
   (gj (gG (pF T.d43 (xG T) hr.m (fZ (cv 0) (fZ (cv 2) (fZ (gX jG (cv 4) gh) gf))))))
   gK)
  (f9 (ie (PW.pt (xT (gH ED (gX jo (cv 4) gh) gh) (sX (gH jZ (gy gA (gy gJ (cv 2) gh) gh) gE))))
   (gj (gG (pF T.d44 (uK T) hr.m (fZ (cv 0) (fZ (cv 1) (fZ (cv 2) (fZ (gX jG (cv 4) gh) gf)))))))
   gK)
  (gj (gG (pF T.d41 (xH T) hr.m (fZ (cv 0) (fZ (cv 1) (fZ (cv 2) (fZ (gX jG (cv 4) gh) gf))))))))))),?_⟩;refine⟨⟨by decide,by decide,by decide⟩,(by show(0:Int)<10^(64:Int).toNat;decide+kernel),?_⟩;dsimp only[gY];have hc:=fM c (show(10:Int)^(64:Int).toNat≠0 by decide+kernel);generalize c%10^(64:Int).toNat=k at hc⊢;have X:=h.X;obtain⟨ai,y,B,rfl,ea,iv,_,_⟩:=X;obtain⟨t0,y1,rfl,e0,_⟩:=oN (show Im _ y t.val.d from iv);have a1:=gP _ _ ea;have a2:=gP _ _ e0;have hc4:0<=k/4:=by lia
 have last:B3 (B8 rM [] E0 (lN (cV 0) (lN (cV 1) (lN (cV 2) (lN (tOp (cI HZ fun i j=>V.int (i/j)) (cV 4) (tC (V.int 4))) zM))))) {nx:=fun x H'=>Q V.non H',rt:=Q} [some (.ref fr),some (.ref wl),some (.ref ai),some (.int c),some (.int k)] H:=⟨⟨by decide,by decide⟩,ws,vs,M,fr,wl,n,lo,d,_,t,k/4,rfl,h,hc4,q⟩;refine⟨(by show(0:Int)<4;decide),?_⟩;show(if(xor false (decide (k%4=1)))=true then(_:Prop)else _);rw[fB];by_cases z1:k%4=1;·rw[hI z1];exact jJ ⟨⟨by decide,by decide⟩,ws,vs,M,fr,wl,n,lo,d,_,t,k/4,rfl,h,hc4,q⟩
 rw[ik z1];refine iL ⟨(by show(0:Int)<4;decide),?_⟩;show(if decide ((1:Int)<k%4)=true then(_:Prop)else _);by_cases z2:1<k%4
 ·rw[hI z2];refine jJ ⟨_,a1,gu (gq (j:=1) rfl) ⟨_,a2,gu (gq (j:=0) rfl) ?_⟩⟩;show(if(xor false (decide (t.val.s="rec")))=true then(_:Prop)else _);rw[fB]
  cases hv:t.val with
  |rcd l p=>rw[hI (show(Vl.rcd l p).s="rec" from rfl)];exact jJ ⟨⟨by decide,by decide⟩,ws,vs,M,fr,wl,n,lo,d,_,t,k/4,l,p,rfl,h,hv,hc4,q⟩
  |tag tg v p=>rw[ik (show(Vl.tag tg v p).s≠"rec" by show("tag":Str)≠"rec";decide+kernel)];refine iL ⟨(by show(0:Int)<4;decide),?_⟩;show(if decide ((1:Int)<k%4)=true then(_:Prop)else _);rw[hI z2];refine jJ ⟨_,a1,gu (gq (j:=1) rfl) ⟨_,a2,gu (gq (j:=0) rfl) ?_⟩⟩;show(if(xor false (decide (t.val.s="tag")))=true then(_:Prop)else _);rw[fB,hv,hI (show(Vl.tag tg v p).s="tag" from rfl)];exact jJ ⟨⟨by decide,by decide⟩,ws,vs,M,fr,wl,n,lo,d,_,t,k/4,tg,v,p,rfl,h,hv,hc4,q⟩
  |num m p=>rw[ik (show(Vl.num m p).s≠"rec" by show("num":Str)≠"rec";decide+kernel)];refine iL ⟨(by show(0:Int)<4;decide),?_⟩;show(if decide ((1:Int)<k%4)=true then(_:Prop)else _);rw[hI z2];refine jJ ⟨_,a1,gu (gq (j:=1) rfl) ⟨_,a2,gu (gq (j:=0) rfl) ?_⟩⟩;show(if(xor false (decide (t.val.s="tag")))=true then(_:Prop)else _);rw[fB,hv,ik (show(Vl.num m p).s≠"tag" by show("num":Str)≠"tag";decide+kernel)];exact iL last
 ·rw[ik z2];refine iL (iL ⟨(by show(0:Int)<4;decide),?_⟩);show(if decide ((1:Int)<k%4)=true then(_:Prop)else _);rw[ik z2];exact iL (iL last)
open GR.Internal (isName)
theorem Fp {t u:TS} {D:rO} {σ:St} {H:Hp} (N:St->Hp->Prop) (h:∀nx:St->Hp->Prop,(∀σ' H',N σ' H'->nx σ' H')->t {D with nx:=nx} σ H) (k:∀σ' H',N σ' H'->u D σ' H'):BZ t u D σ H:=h _ k
structure Fin (ws:Zd) (ts:List Xt):Prop where
 ok:okX ws [] ts
 vo:∀t∈ts,t.val.ok ws
 nd:(msX ts).Nodup
 ns:∀t∈ts,t.tr.nest<=10
 l1:1<=ts.length
 l12:ts.length<=9
 l:(msX ts).length<=159
inductive ItH (H1 H':Hp) (M:List Zx) (fr:Zx) (ws:Zd) (vs:List Vl) (n c d j:Nat) (x:V):Prop
 |mk (t:Xt) (m:Nat) (F:Fr [fr] H1 H') (f:Fh H' fr m) (X:XtA (mask H' M) x t.j) (g:Ti ws vs t n m (1+j)) (h1:n<m) (h2:m<=bC (c+j)+d)
inductive XIt (K:Zp) (vs:List V) (H:Hp) (Q:VK):Prop
 |mk (wl sc:Zx) (ws:Zd) (ns:List Int) (e:vs=[.ref wl,.ref sc]) (hw:Wd H wl ws) (hs:SqL K H sc (ns.map V.int)) (hl:ns.length<=63) (q:∀il xs ts H',gC H H'->H il=none->H' il=some (.lst xs)->qp H' xs (ts.map Xt.j)->Fin ws ts->Q (.ref il) H')
def uM (K:Zp):Sp:=fun vs H Q _=>XIt K vs H Q
theorem uN (T:Txt K mg):FO P w base 5 T.d46 (uM K):=by
 refine T.d46.F.rd iP fun _ A _ s H vs Q E hr h=>?_;obtain⟨wl,sc,ws,ns,rfl,hw,hs,hl,q⟩:=h;refine⟨_,(f9 (pS (i:=2) iP.nd (gT gf))
  (f9 (pS (i:=3) iP.nd (gT gf))
  (f9 (jb PassesOwn.never rfl (AM rfl T.z_range (fZ gh (fZ (gM (zX rfl) rfl T.z_max Gz (fZ gh (fZ (gM (uW rfl) rfl T.z_min C9 (fZ (gM gQ rfl T.z_len ji (fZ (cv 1) gf)) (fZ gh gf))) gf))) (fZ gh gf)))) (pN (i:=4) iP.nd)
   (f9 (ie (gH jZ (gM gQ rfl T.z_len ji (fZ (cv 3) gf)) gh)
    (gj (pS (i:=5) iP.nd (pF T.d29 (lK T) hr.m (fZ (cv 2) (fZ (gX jo (gM (vz rfl) rfl T.z_sum C5 (fZ (lT tH (cv 1) oS (mC gh)) gf)) (gX yg gh gh)) gf)))))
    (gj (pS (i:=5) iP.nd (pF T.d30 (oO T) hr.m (fZ (cv 2) (fZ (gy gJ (cv 0) (gX Dh (gM gQ rfl T.z_len ji (fZ (cv 3) gf)) gh)) (fZ (gy gJ (gy gJ (cv 3) (y0 sq gh)) gh) gf)))))))
   (f9 (jb PassesOwn.never rfl (jq (lT tH (cv 1) (mC (cv 4)) (mC (gM (uW rfl) rfl T.z_min C9 (fZ (gX nB (cv 4) gh) (fZ gh gf)))))) (pN (i:=6) iP.nd)
    (gj (pS (i:=5) iP.nd (pF T.d45 (wc T) hr.m (fZ (cv 2) (fZ (cv 0) (fZ (cv 5) (fZ (cv 6) gf))))))))
   (gj (gL (iS (jt fc fe fg gR (PE.mono (cv 3)) (fZ (PE.mono (cv 5)) gf))))))))
  (gj (gG (cv 3)))))),?_⟩;have sl:=sizeLine_eq;have l16:=hw.l;refine⟨pP,fun fr hfr=>?_⟩;have S1:=gi hfr (.lst []);have ef:(upd H fr (.lst [])) fr=some (.lst []):=gb;dsimp only[gY];generalize upd H fr (.lst [])=H1 at S1 ef⊢;refine⟨pP,fun il hil=>?_⟩;have S2:=gi hil (.lst []);have ei:(upd H1 il (.lst [])) il=some (.lst []):=gb;have nif:il≠fr:=(gr ef hil).symm;have hil0:=S1.free hil;have S02:=S1.trans S2;replace ef:=S2 _ _ ef;dsimp only[gY];generalize upd H1 il (.lst [])=H2 at S02 ef ei⊢;clear S1 S2 hil;have mH:∀{H':Hp} {b:Zx} {u:HO},gC H H'->H b=some u->mask H' [fr,il] b=some u:=fun S e=>ic (fun z=>by
  rcases ak.mp z with z|z;·rw[z,hfr]at e;cases e
  ·rw[bo.mp z,hil0]at e;cases e) (S _ _ e);obtain⟨N,eN,N1,N2⟩:∃N:Int,(if(if(64:Int)<((ns.map V.int).length:Int)then 64 else((ns.map V.int).length:Int))>2 then(if(64:Int)<((ns.map V.int).length:Int)then 64 else((ns.map V.int).length:Int))else 2)=N/\2<=N/\N<=63:=⟨_,rfl,by rw[aD];split<;>lia,by rw[aD];split<;>(try split)<;>lia⟩;obtain⟨r1,r2⟩:=HA N1 N2;refine⟨sc,_,rfl,.inl (S02.seq hs),_,_,rfl,_,_,rfl,1,N,9,by rw[<-eN],⟨by decide,by decide,by lia,by lia,by decide,by decide⟩,?_⟩;refine Cv (fun i σ H3=>X6 fun o4 o5 o6 xs ts n=>Y9 (σ=[some (.ref wl),some (.ref sc),some (.ref fr),some (.ref il),o4,o5,o6]) (gC H H3) (Fh H3 fr n) (H3 il=some (.lst xs)) (qp (mask H3 [fr,il]) xs (ts.map Xt.j)) (Df ws ts n) (ts.length=i) ((i=0->n=0)) (n+ 1<=bC (9*i)+i)) ⟨none,none,none,[],[],0,rfl,S02,ef,ei,.nil,⟨trivial,(fun t ht=>nomatch ht),cm,(fun m hm=>nomatch hm),(fun t ht=>nomatch ht),cW _⟩,rfl,fun _=>rfl,by decide⟩ ?_ ?_
 ·rintro i σ H3 hi ⟨o4,o5,o6,xs,ts,n,rfl,S3,f3,e3,x3,d3,lt,ln0,ln⟩;have lx:=x3.len;rw[aD]at lx;have b63:bC (9*i+ 9)+i<=200:=by have:=rN (show 9*i+ 9<=63 by lia);have:bC 63=152:=rfl;lia
  have b54:bC (9*i)+i<=200:=by have:=rN (show 9*i<=9*i+ 9 by lia);lia
  have dom:∀{H':Hp} {k:Nat},Fh H' fr k->Fr [fr] H3 H'->∀b∈[fr,il],∃o,H' b=some o:=fun f F b hb=>by
   rcases ak.mp hb with rfl|hb;·exact⟨_,f⟩
   ·rw[bo.mp hb];exact⟨_,F _ _ e3 (fun z=>nif (bo.mp z))⟩
  have SF:∀{H':Hp},Fr [fr] H3 H'->gC H H':=fun F b u e=>F _ _ (S3 _ _ e) (fun z=>by rw[bo.mp z,hfr]at e;cases e);refine Fp (fun σ' H'=>∃x,σ'=[some (.ref wl),some (.ref sc),some (.ref fr),some (.ref il),some (.int (1+(i:Int)*9)),some x,o6]/\ItH H3 H' [fr,il] fr ws (ts.map Xt.val) n (9*i) i 0 x) (fun nx hnx=>?_) ?_
  ·refine⟨il,_,rfl,.inl (SqL.of e3),?_⟩;show(if(xor false (decide ((xs.length:Int)=0)))=true then(_:Prop)else _);rw[fB];by_cases z:(xs.length:Int)=0;·rw[hI z];obtain⟨ks0,ek0,_⟩:=yT ns none (some 1);refine jJ ⟨_,rfl,sc,_,rfl,S3.seq hs,fun c1 hc1=>⟨c1,ks0,rfl,SqL.of (by rw[gb,ek0]),fun n0=>⟨⟨by decide,by decide,by decide⟩,(by show(0:Int)<10^(60:Int).toNat;decide+kernel),?_⟩⟩⟩;have S4:=gi hc1 (.lst (vh (ns.map V.int) none (some 1)));refine⟨[fr,il],fr,n,_,rfl,dom (S4 _ _ f3) (Fr.same S4),ah,S4 _ _ f3,by lia,BK n0,fun x H5 F5 f5 X5=>hnx _ _ ⟨x,rfl,nuX ((n+ 1:Nat):Int) (n0%10^60),n+ 1,(Fr.same S4).trans F5,f5,by rw[nuX,JV];exact X5,BQ ⟨rfl,BK n0⟩ ⟨rfl,rfl⟩ (by show Vl.ok ws (.num _ _);rw[Vl.ok];trivial),by lia,ln⟩⟩
   ·rw[ik z];obtain⟨us,u,hu⟩:∃us u,ts=us++[u]:=⟨_,_,(bP (fun e=>z (by rw[e]at lx;rw[lx];rfl))).symm⟩;have hul:ts.length=us.length+ 1:=by rw[hu,aR];rfl
    have hk:(ts.map Xt.j)[us.length]?=some u.j:=by rw[aO,hu,aM (cW _),di];rfl
    obtain⟨xu,hxu,hX⟩:=x3.at hk;obtain⟨zs,y,hys⟩:∃ys y,xs=ys++[y]:=⟨_,_,(bP (fun e=>by rw[e]at lx;rw[<-lx]at hul;cases hul)).symm⟩;have hy:y=xu:=by
     have l2:zs.length=us.length:=by
      have:xs.length=zs.length+ 1:=by rw[hys,aR];rfl
      lia
     rw[hys,aM (by lia),l2,di]at hxu;cases hxu;rfl
    subst hy;obtain⟨ai,vi,B,rfl,eai,ivi,_,_⟩:=hX;obtain⟨wd,hwd⟩:∃wd,ws[us.length]?=some wd:=⟨_,bF (by lia)⟩;refine iL ⟨il,_,rfl,.inl (SqL.of e3),_,S3 _ _ hw.e,gu (v:=V.str wd) (show atI (ws.map V.str) ((xs.length:Int)-1)=some (.str wd) by rw[show((xs.length:Int)-1)=((us.length:Nat):Int) by lia];exact gq (by rw[aO,hwd];rfl)) ⟨_,rfl,_,e3,gu (v:=V.ref ai) (by rw[hys];exact xn zs _) ⟨_,gP _ _ eai,gu (gq (j:=1) rfl) ?_⟩⟩⟩;have vk:(ts.map Xt.val)[us.length]?=some u.val:=by rw[aO,hu,aM (cW _),di];rfl
    refine⟨[fr,il],fr,n,wd,vi,u.val,rfl,dom f3 (fun _ _ e _=>e),ah,f3,by lia,ivi,fun x H5 F5 f5 X5=>hnx _ _ ⟨x,rfl,.mk ((n+ 1:Nat):Int) (.nam wd us.length u.val) [],n+ 1,F5,f5,by rw[lf_v];exact X5,BQ ⟨rfl,hwd,vk⟩ ⟨rfl,rfl⟩ (d3.vo u (by rw[hu];exact az _ (cK _))),by lia,ln⟩⟩
  ·rintro σ' H4 ⟨x,rfl,t,m,F4,f4,X4,g4,h1,h2⟩;obtain⟨ks,ek,lk⟩:=CK ns i (if(64:Int)<1+(i:Int)*9+ 9 then 64 else 1+(i:Int)*9+ 9) (by split<;>lia) (by split<;>lia);refine⟨_,rfl,_,_,rfl,_,rfl,sc,_,rfl,(SF F4).seq hs,fun cl hcl=>?_⟩;rw[ek];have S5:=gi hcl (.lst (ks.map V.int));have ec:=gb (H:=H4) (a:=cl) (o:= .lst (ks.map V.int));have ncf:cl≠fr:=(gr f4 hcl).symm;replace F4:=F4.trans (Fr.same S5);replace f4:=S5 _ _ f4;replace X4:=X4.same (gZ S5);dsimp only;generalize upd H4 cl (.lst (ks.map V.int))=H5 at ec F4 f4 X4⊢;clear S5 hcl;refine⟨cl,rfl,⟨_,SqL.of ec⟩,jE (D:={nx:=_,rt:=Q,bk:=fun _ _=>True,ct:=fun _ _=>True}) (xs:=ks.map V.int) (fun j σ H6=>X2 fun o6 x=>Y3 (σ=[some (.ref wl),some (.ref sc),some (.ref fr),some (.ref il),some (.int (1+(i:Int)*9)),some x,o6]) (H6 cl=some (.lst (ks.map V.int))) (ItH H3 H6 [fr,il] fr ws (ts.map Xt.val) n (9*i) i j x)) ⟨_,x,rfl,ec,t,m,F4,f4,X4,g4,h1,h2⟩ (fun j σ H6 _ ⟨_,_,_,e,_⟩=>SqL.of e) ?_ ?_⟩;·rintro j v σ H6 hv ⟨o6,x,rfl,ec,t,m,F6,f6,X6,g6,h1,h2⟩;rw[aO]at hv;obtain⟨c,hc,rfl⟩:=dI.mp hv;have hj:=(au.mp hc).1;have:=rN (show 9*i+j<=9*i+ 9 by lia);refine⟨ws,ts.map Xt.val,[fr,il],fr,wl,m,n,1+j,x,t,c,rfl,⟨dom f6 F6,ah,f6,by lia,by lia,hw.n,hw.l,hw.d,mH (SF F6) hw.e,X6,g6,by lia⟩,fun x' H7 t' n' a b F7 f7 X7 g7=>?_⟩;exact⟨_,x',rfl,F7 _ _ ec (fun z=>ncf (bo.mp z)),t',n',F6.trans F7,f7,X7,by rw[show 1+(j+ 1)=1+j+ 1 by lia];exact g7,by lia,Fo h2 b⟩
   ·rintro σ H6 ⟨o6,x,rfl,ec,t,m,F6,f6,X6,g6,h1,h2⟩;rw[aD]at g6 h2;have e6:=F6 _ _ e3 (fun z=>nif (bo.mp z));have:=rN (show 9*i+ks.length<=9*i+ 9 by lia);refine⟨⟨_,e6⟩,xs,e6,by lia,?_⟩;have Fi:Fr [fr,il] H6 (upd H6 il (.lst (xs++[x]))):=kX.le (fun b hb=>aj _ hb);have Ff:Fr [fr,il] H3 H6:=F6.le (fun b hb=>by rw[bo.mp hb];exact ah);refine⟨_,_,_,_,ts++[t],m,rfl,hG (SF F6) hil0 _,by rw[Fh,gx nif.symm];exact f6,gb,?_,d3.snoc g6 (by lia) (by lia),by rw[aR,lt];rfl,fun z=>absurd z (Nat.succ_ne_zero _),by rw[show 9*(i+ 1)=9*i+ 9 by lia];lia⟩;rw[bp];exact(x3.same (Ff.trans Fi).mask).snoc (X6.same Fi.mask)
 ·rintro σ H3 ⟨o4,o5,o6,xs,ts,n,rfl,S3,f3,e3,x3,d3,lt,ln0,ln⟩;have:=rN (show 9*(rsz 1 N 9)<=63 by lia);have:bC 63=152:=rfl;exact q il xs ts H3 S3 hil0 e3 (x3.same gP) ⟨d3.ok,d3.vo,d3.nd,d3.ns,by lia,by lia,by have:=d3.l;lia⟩
def ixM:List Int->Int->Int
 |[],_=>0
 |a::l,m=>if a=m then 0 else ixM l m+ 1
theorem BR:∀{l:List Int},l.Nodup->∀(j:Nat) (m:Int),l[j]?=some m->ixM l m=(j:Int)
 |[],_,j,m,h=>by cases h
 |a::l,nd,0,m,h=>by cases h;exact gU rfl
 |a::l,nd,j+ 1,m,h=>by have nd:=aF.mp nd;rw[ixM,gN (fun z=>nd.1 (by rw[z];exact aQ (show l[j]?=some m from h))),BR nd.2 j m h];lia
mutual
def Vl.ins (M:List Int):Vl->Prop
 | .num _ p=>p∈M
 | .rcd l p=>p∈M/\l.ins M
 | .tag _ v p=>p∈M/\v.ins M
def Vls.ins (M:List Int):Vls->Prop
 | .nil=>True
 | .cons _ v t=>v.ins M/\t.ins M
end
theorem uO {M:List Int}:∀{l:Vls},l.ins M↔∀p∈fdL l,p.2.ins M
 | .nil=>by rw[Vls.ins];exact⟨(fun _ p hp=>nomatch hp),fun _=>trivial⟩
 | .cons w v t=>by
  rw[Vls.ins,uO (l:=t)];refine⟨fun⟨a,b⟩ p hp=>?_,fun h=>⟨h _ ah,fun p hp=>h p (aj _ hp)⟩⟩;rcases ak.mp hp with rfl|hp;·exact a
  ·exact b p hp
theorem Fq {M:List Int} {v:Vl} (h:v.ins M):v.p∈M:=by
 cases v with
 |num n p=>rw[Vl.ins]at h;exact h
 |rcd l p=>rw[Vl.ins]at h;exact h.1
 |tag t v p=>rw[Vl.ins]at h;exact h.1
theorem xI {w:Str} {v:Vl}:∀{l:List (Str×Vl)},lkV l w=some v->∃p∈l,p.2=v
 |p::l,h=>by
  rw[lkV]at h;split at h;·cases h;exact⟨p,ah,rfl⟩
  ·obtain⟨q,h1,h2⟩:=xI h;exact⟨q,aj _ h1,h2⟩
theorem Js {ws:Zd} {vs us:List Vl} {κ:Kx} {m:Int} {M:List Int} (ok:κ.ok ws vs us) (hv:∀v∈vs,v.ins M) (hu:∀u∈us,u.ins M) (hm:m∈M) (hl:∀x∈κ.lm,x∈M):(κ.v m us).ins M/\(∀p∈κ.lh (κ.v m us),p.1∈M/\p.2∈M)/\∀q∈κ.m m us,q.1∈M/\q.2.1∈M:=by
 cases κ with
 |num n=>exact⟨by show Vl.ins M (.num _ _);rw[Vl.ins];exact hm,(fun p hp=>nomatch hp),fun q hq=>nomatch hq⟩
 |nam w k v=>exact⟨hv _ (aQ ok.2.2),(fun p hp=>nomatch hp),fun q hq=>nomatch hq⟩
 |rcd l=>refine⟨?_,(fun p hp=>nomatch hp),fun q hq=>nomatch hq⟩;show Vl.ins M (.rcd _ _);rw[Vl.ins,uO,FF];exact⟨hm,fun p hp=>hu _ (aG (show(p.1,p.2)∈_ from hp)).2⟩
 |tag w=>obtain⟨⟨a,rfl⟩,_⟩:=ok;refine⟨?_,(fun p hp=>nomatch hp),fun q hq=>nomatch hq⟩;show Vl.ins M (.tag _ a _);rw[Vl.ins];exact⟨hm,hu a ah⟩
 |get w=>
  obtain⟨⟨a,q,v,rfl,h1,_⟩,_⟩:=ok;have g:=hu _ ah;have g':=g;rw[Vl.ins,uO]at g';obtain⟨p,hp,rfl⟩:=xI h1;have z:(Kx.get w).v m [.rcd a q]=p.2:=by show(lkV (fdL a) w).getD _=_;rw[h1];rfl
  rw[z];exact⟨g'.2 p hp,(fun p hp=>nomatch hp),fun x hx=>by rw[bo.mp (show x∈[(q,m,(0:Int))]from hx)];exact⟨g'.1,hm⟩⟩
 |case l h ms i=>
  obtain⟨⟨t,v,q,rfl,et⟩,el,_⟩:=ok;have g:=hu _ ah;rw[Vl.ins]at g;have il:i<ms.length:=by rw[el];exact(au.mp et).1
  have mi:ms.getD i 0∈M:=by rw[bu,bF il];exact hl _ (bL il)
  exact⟨g.2,fun p hp=>by rw[bo.mp (show p∈[(ms.getD i 0,v.p)]from hp)];exact⟨mi,Fq g.2⟩,fun x hx=>by rw[bo.mp (show x∈[(q,m,(0:Int))]from hx)];exact⟨g.1,hm⟩⟩
mutual
theorem Xt.ins {ws:Zd} {vs:List Vl} {M:List Int} (hv:∀v∈vs,v.ins M):∀t:Xt,t.ok ws vs->(∀m∈t.ms,m∈M)->t.val.ins M/\(∀p∈t.ha,p.1∈M/\p.2∈M)/\∀q∈t.me,q.1∈M/\q.2.1∈M
 | .mk m κ ks,ok,h=>by
  rw[Xt.ok]at ok;rw[Xt.ms]at h;have hm:=h m ah;obtain⟨g1,g2,g3⟩:=JW hv ks ok.2 fun x hx=>h x (aj _ (aq _ hx));obtain⟨k1,k2,k3⟩:=Js ok.1 hv g1 hm fun x hx=>h x (aj _ (az _ hx));rw[Xt.ha,Xt.me,Xt.val];refine⟨k1,fun p hp=>?_,fun q hq=>(ao.mp hq).elim (g3 q) (k3 q)⟩;rcases ao.mp hp with hp|hp;·exact(ao.mp hp).elim (g2 p) (k2 p)
  ·rw[bo.mp hp];exact⟨hm,Fq k1⟩
theorem JW {ws:Zd} {vs:List Vl} {M:List Int} (hv:∀v∈vs,v.ins M):∀ts:List Xt,okL ws vs ts->(∀m∈msX ts,m∈M)->(∀u∈ir ts,u.ins M)/\(∀p∈haX ts,p.1∈M/\p.2∈M)/\∀q∈meX ts,q.1∈M/\q.2.1∈M
 |[],_,_=>by rw[haX,meX,ir];exact⟨(fun u hu=>nomatch hu),(fun p hp=>nomatch hp),fun q hq=>nomatch hq⟩
 |t::ts,ok,h=>by
  rw[okL]at ok;rw[msX]at h;obtain⟨a1,a2,a3⟩:=Xt.ins hv t ok.1 fun x hx=>h x (aq _ hx);obtain⟨b1,b2,b3⟩:=JW hv ts ok.2 fun x hx=>h x (az _ hx);rw[haX,meX,ir];refine⟨fun u hu=>?_,fun p hp=>(ao.mp hp).elim (a2 p) (b2 p),fun q hq=>(ao.mp hq).elim (a3 q) (b3 q)⟩;rcases ak.mp hu with rfl|hu;·exact a1
  ·exact b1 u hu
end
theorem Ju {ws:Zd} {M:List Int}:∀{ts:List Xt} {vs:List Vl},(∀v∈vs,v.ins M)->okX ws vs ts->(∀m∈msX ts,m∈M)->∀t∈ts,t.val.ins M/\(∀p∈t.ha,p.1∈M/\p.2∈M)/\∀q∈t.me,q.1∈M/\q.2.1∈M
 |[],vs,_,_,_,t,h=>by cases h
 |u::ts,vs,hv,ok,hm,t,h=>by
  rw[msX]at hm;have g:=u.ins hv ok.1 fun m h=>hm m (aq _ h);rcases ak.mp h with rfl|h;·exact g
  ·exact Ju (vs:=vs++[u.val]) (fun x h=>(ao.mp h).elim (hv x) (fun h=>by rw[bo.mp h];exact g.1)) ok.2 (fun m h=>hm m (az _ h)) t h
theorem xJ:∀(a b:List Xt),haX (a++b)=haX a++haX b
 |[],b=>by rw[bW,haX,bW]
 |t::a,b=>by rw[aV,haX,haX,xJ a b,bV]
theorem xK:∀(a b:List Xt),meX (a++b)=meX a++meX b
 |[],b=>by rw[bW,meX,bW]
 |t::a,b=>by rw[aV,meX,meX,xK a b,bV]
theorem Fs {ws:Zd}:∀{ts:List Xt} {vs:List Vl},okX ws vs ts->(haX ts).length<=(msX ts).length/\(meX ts).length<=(msX ts).length
 |[],vs,_=>by rw[haX,meX,msX];exact⟨cW _,cW _⟩
 |t::ts,vs,ok=>by obtain⟨h1,h2⟩:=t.lens ok.1;obtain⟨h3,h4⟩:=Fs ok.2;rw[haX,meX,msX,aR,aR,aR];lia
theorem xM {ws:Zd}:∀{ts:List Xt} {vs:List Vl},okX ws vs ts->∀t∈ts,(∃vs',t.ok ws vs')/\t.ms.length<=(msX ts).length
 |[],vs,_,t,h=>by cases h
 |u::ts,vs,ok,t,h=>by
  rw[msX,aR];rcases ak.mp h with rfl|h;·exact⟨⟨_,ok.1⟩,c9 _ _⟩
  ·obtain⟨a,b⟩:=xM ok.2 t h;exact⟨a,by lia⟩
structure Pc (kvs:List (Key×V)) (L:List Int):Prop where
 l:kvs.length=L.length
 y:∀(j:Nat) (m:Int),L[j]?=some m->jB kvs (.inl m)=some (.int (j:Int))
 n:∀m,m∉L->jB kvs (.inl m)=none
theorem Pc.put {kvs:List (Key×V)} {L:List Int} {m:Int} (h:Pc kvs L) (nm:m∉L):Pc (lP kvs (.inl m) (.int (kvs.length:Int))) (L++[m]):=by
 refine⟨by rw[xY _ (h.n m nm),aR,aR,h.l];rfl,fun j x e=>?_,fun x hx=>?_⟩
 ·rw[iM];by_cases z:j<L.length;·rw[aN z]at e;rw[gN (fun q=>nm (by rw[<-Sum.inl.inj q];exact aQ e))];exact h.y j x e
  ·rw[aM (by lia)]at e;have hj:j-L.length=0:=by have:=(au.mp e).1;rw[bf]at this;lia
   rw[hj]at e;cases e;rw[gU rfl,h.l,show L.length=j by lia]
 ·rw[iM,gN (fun q=>hx (by rw[Sum.inl.inj q];exact az _ (cK _)))];exact h.n x fun z=>hx (aq _ z)
theorem Pc.at {kvs:List (Key×V)} {L:List Int} {m:Int} (h:Pc kvs L) (nd:L.Nodup) (hm:m∈L):jB kvs (.inl m)=some (.int (ixM L m)):=by obtain⟨j,hj⟩:=cy hm;rw[h.y j m hj,BR nd j m hj]
theorem yU {ts:List Xt} {t:Xt} {i:Nat} (h:ts[i]?=some t):msX (ts.take (i+ 1))=msX (ts.take i)++t.ms/\haX (ts.take (i+ 1))=haX (ts.take i)++t.ha/\meX (ts.take (i+ 1))=meX (ts.take i)++t.me:=by rw[cf,h];show msX (ts.take i++[t])=_/\haX (ts.take i++[t])=_/\meX (ts.take i++[t])=_;rw[ou,xJ,xK,msX,msX,haX,haX,meX,meX,aE,aE,aE];exact⟨rfl,rfl,rfl⟩
theorem BS {K:Zp} {a:Zx} {te:TE} {Q:VK} {τ:St} {H1:Hp} {D:Zx} {xs:List V} {α:Type} {f g:α->Dt} {l:List α} (e:H1 a=some (.lst xs)) (I:Ims H1 xs (l.map f)) (hn:l.length<=1000) (hD:H1 D=none) (hτ:τ.set 0 none=τ)
  (ht:∀x∈l,∀(v:V) H (R:VK),gC H1 H->Im H v (f x)->(∀y H',gC H H'->Im H' y (g x)->R y H')->te (τ.set 0 (some v)) H R)
  (hq:∀H' zs,gC H1 H'->H' D=some (.lst zs)->Ims H' zs (l.map g)->Q (.ref D) H'):LcP (Itl K a) 0 oT te Q τ H1 D:=by
 have sl:=sizeLine_eq;have lx:=I.length;rw[aD]at lx;refine sF l.length (by lia) (fun ys H=>Ims H ys ((l.take ys.length).map g)) (fun xs H H' h k=>h.mono k) hD hτ (fun k H S h=>De e S (by lia)) (fun H S=>by rw[<-lx];exact Dg e S) .nil ?_ ?_;·intro k H v H3 ys Z S hk y hys hl hz;obtain⟨rfl,hv⟩:=y;have hv:=hv _ (SqL.of (S _ _ e));obtain⟨d,hd,him⟩:=jf I hv;obtain⟨x,hx⟩:∃x,l[k]?=some x:=⟨_,bF hk⟩;rw[aO,hx]at hd;cases hd;refine ht x (aQ hx) v H3 Z S (him.mono (gC.tk S)) fun y H' S' iy=>hz _ _ S' ?_;rw[aR,hl,bf,cf,hx,bp,<-hl];exact(hys.mono (gC.tk S')).app (.cons iy .nil)
 ·intro H' ys S hys hl e';rw[hl,bz]at hys;exact hq H' ys S e' hys
theorem im3 {H:Hp} {x:V} {a b c:Int} (h:Im H x (.tup [kD a,kD b,kD c])):∃t,x= .ref t/\H t=some (.tup [.int a,.int b,.int c]):=by
 cases h with
 |tup e i=>
  cases i with
  |cons h1 i=>
   cases i with
   |cons h2 i=>
    cases i with
    |cons h3 i=>cases i;cases h1;cases h2;cases h3;exact⟨_,rfl,e⟩
inductive PlA (H:Hp) (a:Zx) (ts:List Xt):Prop
 |mk (dp hl ml:Zx) (kvs:List (Key×V)) (ys zs:List V) (e:H a=some (.lst [.ref dp,.ref hl,.ref ml])) (ed:H dp=some (.dK kvs)) (p:Pc kvs (msX ts)) (eh:H hl=some (.lst ys)) (ih:Ims H ys ((haX ts).map fun t=>haD (p2 (ixM (msX ts)) t))) (em:H ml=some (.lst zs)) (im:Ims H zs ((meX ts).map fun t=>meD (p3 (ixM (msX ts)) t)))
inductive XPl (vs:List V) (H:Hp) (Q:VK):Prop
 |mk (il:Zx) (ws:Zd) (xs:List V) (ts:List Xt) (e:vs=[.ref il]) (ei:H il=some (.lst xs)) (hx:qp H xs (ts.map Xt.j)) (F:Fin ws ts) (q:∀a H',gC H H'->PlA H' a ts->Q (.ref a) H')
def r9:Sp:=fun vs H Q _=>XPl vs H Q
theorem sd (T:Txt K mg):FO P w base 1 T.d34 r9:=by
 refine T.d34.F.rd iB fun _ A _ s H vs Q E hr h=>?_;have hu:=rP hr;obtain⟨il,ws,xs,ts,rfl,ei,hx,F,q⟩:=h;refine⟨_,(f9 (pS (i:=1) iB.nd m7)
  (f9 (jb PassesOwn.never rfl (jq (cv 0)) (pN (i:=2) iB.nd)
   (gj (jb PassesOwn.never rfl (jq (gy gJ (cv 2) gh)) (pN (i:=3) iB.nd)
    (gj (mB hu (cv 1) (cv 3) (gM Ak rfl T.z_len ji (fZ (cv 1) gf)) rfl)))))
  (f9 (pS (i:=4) iB.nd (gT gf))
  (f9 (pS (i:=5) iB.nd (gT gf))
  (f9 (jb PassesOwn.never rfl (jq (cv 0)) (pN (i:=2) iB.nd)
   (f9 (pS (i:=4) iB.nd (gX pU (cv 4) (qf rfl (GN (x:="_law_pair") ["_law_places"] [("_law_places",1,s.heap.objs.size+ 1)]) (jq (gy gJ (cv 2) gh)) (fun _ _ _ _ _=>lC) (fun _ _ _ _ _=>(ij (fZ (lQ hu (cv 1) (gy gA (cv 0) gh)) (fZ (lQ hu (cv 1) (gy gA (cv 0) gh)) gf)))))))
   (gj (pS (i:=5) iB.nd (gX pU (cv 5) (qf rfl (GN (x:="_law_one") ["_law_places"] [("_law_places",1,s.heap.objs.size+ 1)]) (jq (gy gJ (cv 2) gh)) (fun _ _ _ _ _=>lC) (fun _ _ _ _ _=>(ij (fZ (lQ hu (cv 1) (gy gA (cv 0) gh)) (fZ (lQ hu (cv 1) (gy gA (cv 0) gh)) (fZ (gy gA (cv 0) gh) gf)))))))))))
  (gj (gG (gT (fZ (cv 1) (fZ (cv 4) (fZ (cv 5) gf))))))))))),?_⟩;have sl:=sizeLine_eq;have lz:=F.l;have lx:=hx.len;rw[aD]at lx;have l12:=F.l12;intro dp hdp;have S1:=gi hdp (.dK []);have ed:(upd H dp (.dK [])) dp=some (.dK []):=gb;dsimp only[gY];generalize upd H dp (.dK [])=H1 at S1 ed⊢;have P0:Pc [] []:=⟨rfl,(fun j m e=>nomatch e),fun m _=>rfl⟩;refine⟨il,rfl,⟨_,SqL.of (S1 _ _ ei)⟩,jE (xs:=xs) (fun i σ H3=>X3 fun o2 o3 kvs=>Y4 (σ=[some (.ref il),some (.ref dp),o2,o3,none,none]) (gC H H3) (H3 dp=some (.dK kvs)) (Pc kvs (msX (ts.take i)))) ⟨_,_,[],rfl,S1,ed,P0⟩ (fun i σ H3 _ ⟨_,_,_,_,S,_,_⟩=>SqL.of (S _ _ ei)) ?_ ?_⟩
 ·rintro i x σ H3 hxi ⟨o2,o3,kvs,rfl,S3,e3,p3'⟩;have hil:=(au.mp hxi).1;obtain⟨t,ht⟩:∃t,ts[i]?=some t:=⟨_,bF (by lia)⟩;obtain⟨x',hx',hX⟩:=hx.at (t:=t.j) (by rw[aO,ht];rfl);rw[hxi]at hx';cases hx';obtain⟨a,v,A,rfl,ea,_,_,hp⟩:=hX;obtain⟨us,eu,iu⟩:=hp 2 (by decide) (by decide);cases yL (show Ims H us (t.ms.map kD)from iu);obtain⟨tk,_,_⟩:=yU ht;have nd:(msX (ts.take i)++t.ms).Nodup:=by rw[<-tk];have nd:=F.nd;rw[<-cb (i+ 1) ts,ou]at nd;exact(cc.mp nd).1
  have tl:(msX (ts.take i)).length+t.ms.length<=160:=by rw[<-aR,<-tk];have e:=congrArg aJ (ou (ts.take (i+ 1)) (ts.drop (i+ 1)));rw[cb,aR]at e;lia
  refine⟨_,S3 _ _ ea,gu (gq (j:=2) rfl) ⟨_,rfl,⟨_,SqL.of (S3 _ _ eu)⟩,jE (xs:=t.ms.map V.int) (fun j σ H4=>X2 fun o3 kvs=>Y4 (σ=[some (.ref il),some (.ref dp),some (.ref a),o3,none,none]) (gC H H4) (H4 dp=some (.dK kvs)) (Pc kvs (msX (ts.take i)++t.ms.take j))) ⟨_,kvs,rfl,S3,e3,by rw[List.take_zero,aE];exact p3'⟩ (fun j σ H4 _ ⟨_,_,_,S,_,_⟩=>SqL.of (S _ _ eu)) ?_ ?_⟩⟩
  ·rintro j v σ H4 hv ⟨o3,kvs,rfl,S4,e4,p4⟩;rw[aO]at hv;obtain⟨m,hm,rfl⟩:=dI.mp hv;have nm:m∉msX (ts.take i)++t.ms.take j:=fun z=>by
    have e:msX (ts.take i)++t.ms=(msX (ts.take i)++t.ms.take j)++t.ms.drop j:=by rw[bV,cb]
    rw[e,cc]at nd;refine nd.2.2 m z m ?_ rfl;obtain⟨z1,z2⟩:=au.mp hm;rw[bT z1,z2];exact ah
   have kl:=p4.l;rw[aR,aK]at kl;refine⟨dp,_,rfl,e4,dp,_,rfl,ze.k (k:=Sum.inl m) e4 (by lia),?_⟩;refine⟨_,_,rfl,hG S4 hdp _,gb,?_⟩;rw[cf,hm,<-bV];exact p4.put nm
  ·rintro σ H4 ⟨o3,kvs,rfl,S4,e4,p4⟩;rw[aD,bz,<-tk]at p4;exact⟨_,_,kvs,rfl,S4,e4,p4⟩
 ·rintro σ H3 ⟨o2,o3,kvs,rfl,S3,e3,p3'⟩;rw[lx,bz]at p3';have dg:∀{H':Hp} {m:Int},H' dp=some (.dK kvs)->m∈msX ts->sC H' dp (.int m) (some (.int (ixM (msX ts) m))):=fun{H' m} e hm=>by have g:=sC.k (k:=(Sum.inl m:Key)) e;rw[p3'.at F.nd hm]at g;exact g
  have inn:=Ju (M:=msX ts) (vs:=[]) (fun v hv=>nomatch hv) F.ok (fun m h=>h);refine⟨pP,fun h0 hh0=>?_⟩;have S4:=gi hh0 (.lst []);have eh0:(upd H3 h0 (.lst [])) h0=some (.lst []):=gb;dsimp only[gY];generalize upd H3 h0 (.lst [])=H4 at S4 eh0⊢;refine⟨pP,fun m0 hm0=>?_⟩;have S5:=gi hm0 (.lst []);have em0:(upd H4 m0 (.lst [])) m0=some (.lst []):=gb;replace eh0:=S5 _ _ eh0;replace S5:=S4.trans S5;dsimp only[gY];generalize upd H4 m0 (.lst [])=H5 at S5 eh0 em0⊢;have S05:=S3.trans S5;refine⟨il,rfl,⟨_,SqL.of (S05 _ _ ei)⟩,jE (xs:=xs) (fun i σ H6=>X6 fun o2 o3 hl ml ys zs=>Y6 (σ=[some (.ref il),some (.ref dp),o2,o3,some (.ref hl),some (.ref ml)]) (gC H5 H6) (H6 hl=some (.lst ys)) (Ims H6 ys ((haX (ts.take i)).map fun t=>haD (p2 (ixM (msX ts)) t))) (H6 ml=some (.lst zs)) (Ims H6 zs ((meX (ts.take i)).map fun t=>meD (p3 (ixM (msX ts)) t)))) ⟨_,_,h0,m0,[],[],rfl,fun _ _ e=>e,eh0,.nil,em0,.nil⟩ (fun i σ H6 _ ⟨_,_,_,_,_,_,_,S,_,_,_,_⟩=>SqL.of ((S05.trans S) _ _ ei)) ?_ ?_⟩
  ·rintro i x σ H6 hxi ⟨o2,o3,hl,ml,ys,zs,rfl,S6,eh,ih,em,im⟩;have hil:=(au.mp hxi).1;obtain⟨t,ht⟩:∃t,ts[i]?=some t:=⟨_,bF (by lia)⟩;have S06:=S05.trans S6;obtain⟨x',hx',hX⟩:=(hx.same S06).at (t:=t.j) (by rw[aO,ht];rfl);rw[hxi]at hx';cases hx';obtain⟨a,v,A,rfl,ea,_,_,hp⟩:=hX;obtain⟨_,i2,i3⟩:=inn t (aQ ht);obtain⟨us,eu,iu⟩:=hp 3 (by decide) (by decide);obtain⟨vs',ev,iv⟩:=hp 4 (by decide) (by decide);obtain⟨_,tk2,tk3⟩:=yU ht;obtain⟨⟨_,tok⟩,_⟩:=xM F.ok t (aQ ht);obtain⟨lt1,lt2⟩:=t.lens tok;obtain⟨lt3,lt4⟩:=Fs F.ok;have ltk:=congrArg aJ tk2;have ltm:=congrArg aJ tk3;have e1:=congrArg aJ (xJ (ts.take (i+ 1)) (ts.drop (i+ 1)));have e2:=congrArg aJ (xK (ts.take (i+ 1)) (ts.drop (i+ 1)));rw[cb,aR]at e1 e2;rw[aR]at ltk ltm;have e6:=(S5.trans S6) _ _ e3;have lh:=ih.length;have lm':=im.length;rw[aD]at lh lm';refine⟨_,ea,gu (gq (j:=3) rfl) ⟨_,rfl,⟨_,SqL.of eu⟩,fun D hD=>?_⟩⟩;refine BS (f:=haD) (g:=fun t=>haD (p2 (ixM (msX ts)) t)) (l:=t.ha) eu (show Ims H6 us (t.ha.map haD)from iu) (by lia) hD rfl (fun p hp' v H7 R S7 im' hR=>?_) fun H7 ws' S7 eD iD=>?_;·obtain⟨tp,y1,y2,rfl,etp,j1,j2⟩:=kT im';cases j1;cases j2;exact⟨_,etp,gu (gq (j:=0) rfl) ⟨dp,_,rfl,dg (S7 _ _ e6) (i2 p hp').1,_,etp,gu (gq (j:=1) rfl) ⟨dp,_,rfl,dg (S7 _ _ e6) (i2 p hp').2,ow,fun b hb=>hR _ _ (gi hb _) (qi hb (.cons (.flat rfl) (.cons (.flat rfl) .nil)))⟩⟩⟩
   have lw:=iD.length;rw[aD]at lw;refine⟨_,_,_,_,rfl,rfl,S7 _ _ eh,eD,by lia,fun h1 hh1=>?_⟩;have S8:=gi hh1 (.lst (ys++ws'));have eh1:(upd H7 h1 (.lst (ys++ws'))) h1=some (.lst (ys++ws')):=gb;have ih1:Ims (upd H7 h1 (.lst (ys++ws'))) (ys++ws') ((haX (ts.take (i+ 1))).map fun t=>haD (p2 (ixM (msX ts)) t)):=by rw[tk2,bp];exact(ih.mono (gC.tk (S7.trans S8))).app (iD.mono (gC.tk S8))
   have S68:=S7.trans S8;dsimp only[gY];generalize upd H7 h1 (.lst (ys++ws'))=H8 at S68 eh1 ih1⊢;refine⟨_,S68 _ _ ea,gu (gq (j:=4) rfl) ⟨_,rfl,⟨_,SqL.of (S68 _ _ ev)⟩,fun D2 hD2=>?_⟩⟩;refine BS (f:=meD) (g:=fun t=>meD (p3 (ixM (msX ts)) t)) (l:=t.me) (S68 _ _ ev) ((show Ims H6 vs' (t.me.map meD)from iv).mono (gC.tk S68)) (by lia) hD2 rfl (fun p hp' v H9 R S9 im' hR=>?_) fun H9 ws2 S9 eD2 iD2=>?_;·obtain⟨tp,rfl,etp⟩:=im3 im';exact⟨_,etp,gu (gq (j:=0) rfl) ⟨dp,_,rfl,dg ((S68.trans S9) _ _ e6) (i3 p hp').1,_,etp,gu (gq (j:=1) rfl) ⟨dp,_,rfl,dg ((S68.trans S9) _ _ e6) (i3 p hp').2,_,etp,gu (gq (j:=2) rfl) ⟨qq,fun b hb=>hR _ _ (gi hb _) (qi hb (.cons (.flat rfl) (.cons (.flat rfl) (.cons (.flat rfl) .nil))))⟩⟩⟩⟩
   have lw2:=iD2.length;rw[aD]at lw2;refine⟨_,_,_,_,rfl,rfl,(S68.trans S9) _ _ em,eD2,by lia,fun m1 hm1=>?_⟩;have S10:=gi hm1 (.lst (zs++ws2));refine⟨_,_,h1,m1,ys++ws',zs++ws2,rfl,(S6.trans S68).trans (S9.trans S10),(S9.trans S10) _ _ eh1,ih1.mono (gC.tk (S9.trans S10)),gb,?_⟩;rw[tk3,bp];exact(im.mono (gC.tk ((S68.trans S9).trans S10))).app (iD2.mono (gC.tk S10))
  ·rintro σ H6 ⟨o2,o3,hl,ml,ys,zs,rfl,S6,eh,ih,em,im⟩;rw[lx,bz]at ih im;refine⟨qq,fun a ha=>?_⟩;have S7:=gi ha (.lst [.ref dp,.ref hl,.ref ml]);have k7:=gC.tk S7;exact q a _ ((S05.trans S6).trans S7) ⟨dp,hl,ml,kvs,ys,zs,gb,((S5.trans S6).trans S7) _ _ e3,p3',S7 _ _ eh,ih.mono k7,S7 _ _ em,im.mono k7⟩
theorem DX:∀{ns:Zd} {ts:List Xt} {k:Nat} {w:Str} {t:Xt},ns[k]?=some w->ts[k]?=some t->(lnX ns ts)[k]?=some (lnS w t.tx)
 |n::ns,u::ts,0,w,t,h1,h2=>by cases h1;cases h2;rfl
 |n::ns,u::ts,k+ 1,w,t,h1,h2=>DX (ns:=ns) (ts:=ts) h1 h2
 |[],_,k,w,t,h1,_=>by cases h1
 |n::ns,[],k,w,t,_,h2=>by cases h2
theorem BU:∀{ns:Zd} {ts:List Xt},ns.length=ts.length->(lnX ns ts).length=ts.length
 |[],[],_=>rfl
 |n::ns,t::ts,h=>congrArg (·+ 1) (BU (ns:=ns) (ts:=ts) (by simpa using h))
theorem Ft {α:Type} {l:List α} {k:Nat} {x:α} (h:l[k]?=some x):l.take (k+ 1)=l.take k++[x]:=by rw[cf,h];rfl
theorem Fu {w x:Str}:(lnS w x).length=w.length+x.length+ 7:=by unfold lnS;rw[Str.length_append,Str.length_append,Str.length_append,Str.length_append,show("(def ":Str).length=5 by decide+kernel,show(" ":Str).length=1 by decide+kernel,show(")":Str).length=1 by decide+kernel];lia
theorem BV:∀{ns:Zd} {ts:List Xt},(∀w∈ns,w.length<=12)->(∀t∈ts,t.tx.length<=100000)->∀l∈lnX ns ts,l.length<=100100
 |n::ns,t::ts,h1,h2,l,h=>by
  rcases ak.mp h with rfl|h;·have:=h1 n ah;have:=h2 t ah;rw[Fu];lia
  ·exact BV (fun w hw=>h1 w (aj _ hw)) (fun w hw=>h2 w (aj _ hw)) l h
 |[],_,_,_,l,h=>by cases h
 |n::ns,[],_,_,l,h=>by cases h
def Txs (H:Hp) (xs:List V) (ts:List Xt):Prop:=xs.length=ts.length/\∀(k:Nat) (t:Xt),ts[k]?=some t->∃a l,xs[k]?=some (.ref a)/\H a=some (.lst (.str t.tx::l))
theorem qp.txs {H:Hp} {xs:List V} {ts:List Xt} (h:qp H xs (ts.map Xt.j)):Txs H xs ts:=⟨h.len.trans (aD ..),fun k t e=>by obtain⟨x,hx,a,v,A,rfl,ea,_⟩:=h.at (t:=t.j) (by rw[aO,e];rfl);exact⟨a,_,hx,ea⟩⟩
inductive XTx (vs:List V) (H:Hp) (Q:VK):Prop
 |mk (wl il:Zx) (ws:Zd) (xs:List V) (ts:List Xt) (e:vs=[.ref wl,.ref il]) (hw:Wd H wl ws) (ei:H il=some (.lst xs)) (hx:Txs H xs ts) (l12:ts.length<=12) (txl:∀t∈ts,t.tx.length<=100000) (q:∀H',gC H H'->Q (.str (Str.join "\n" (lnX (ws.take ts.length) ts))) H')
def we:Sp:=fun vs H Q _=>XTx vs H Q
theorem wg (T:Txt K mg):FO P w base 1 T.d35 we:=by
 refine T.d35.F.rd vH fun _ A _ s H vs Q E hr h=>?_;obtain⟨wl,il,ws,xs,ts,rfl,hw,ei,⟨lx,hx⟩,l12,txl,q⟩:=h;refine⟨_,(gj (gG (jt fb fk fq AH gE (fZ (Gy (g:=FU K 2 (sY (gY 0) (sY (gY 1) FT))) rfl (IQ (x:="_law_k") (y:="_law_item") ["_law_words_here"] [("_law_words_here",0,s.heap.objs.size+ 1)]) (wK rfl T.z_enumerate (fZ (cv 1) gf)) (pgP rfl iq rfl rfl) (fun _ _ _ _ _=>(gX lD (gX lD (gX lD (gX lD gE (gy gJ (cv 2) (cv 0))) gE) (gy gJ (cv 1) gh)) gE))) gf)))),?_⟩;have sl:=sizeLine_eq;have l16:=hw.l;have lnn:(ws.take ts.length).length=ts.length:=by rw[aK];lia
 have hl:=BU (ns:=ws.take ts.length) (ts:=ts) lnn;refine⟨rfl,il,rfl,⟨_,SqL.of ei⟩,fun D hD=>?_⟩;refine⟨fun k m σ' H2=>Y5 (m=ts.length-k) (k<=ts.length) ((∃u v,σ'=[u,v,some (.ref wl)])) (gC H H2) (H2 D=some (.lst (((lnX (ws.take ts.length) ts).take k).map V.str))),⟨ts.length,by simp,cX _,⟨none,none,rfl⟩,gi hD _,gb⟩,?_⟩;rintro k m σ' H2 ⟨rfl,hk,⟨u,v,rfl⟩,S,eD⟩;by_cases hlt:k<ts.length
 ·refine .inr ⟨⟨xs,xs[k]'(by lia),SqL.of (S _ _ ei),bF (by lia)⟩,?_⟩;rintro v H3 ⟨tp,x,rfl,htp,rfl,hx'⟩;have hx':=hx' xs (SqL.of (S _ _ ei));obtain⟨t,ht⟩:∃t,ts[k]?=some t:=⟨_,bF hlt⟩;obtain⟨a,al,hx2,ea⟩:=hx k t ht;rw[hx']at hx2;cases hx2;obtain⟨wk,hwk⟩:∃w,ws[k]?=some w:=⟨_,bF (by lia)⟩;have S3:=gi htp (.tup [.int (k:Int),.ref a]);have S03:=S.trans S3;refine⟨tp,_,rfl,SqT.of gb,rfl,_,_,rfl,_,_,rfl,rfl,?_⟩;have lw:=(mf (hw.n wk (aQ hwk))).2;have lt:=txl t (aQ ht);refine⟨_,S03 _ _ hw.e,gu (v:=V.str wk) (gq (by rw[aO,hwk];rfl)) ⟨by rw[show("(def ":Str).length=5 by decide+kernel];lia,by rw[Str.length_append,show("(def ":Str).length=5 by decide+kernel,show(" ":Str).length=1 by decide+kernel];lia,_,S03 _ _ ea,gu (gq (j:=0) rfl) ⟨?_,?_,?_⟩⟩⟩;·rw[Str.length_append,Str.length_append,show("(def ":Str).length=5 by decide+kernel,show(" ":Str).length=1 by decide+kernel];lia
  ·rw[Str.length_append,Str.length_append,Str.length_append,show("(def ":Str).length=5 by decide+kernel,show(" ":Str).length=1 by decide+kernel,show(")":Str).length=1 by decide+kernel];lia
  refine⟨_,S3 _ _ eD,by rw[aD,aK];lia,ts.length-(k+ 1),by lia,rfl,hlt,⟨_,_,rfl⟩,hG S03 hD _,?_⟩;rw[gb,Ft (DX (by rw[cA,gU hlt];exact hwk) ht),bp];rfl
 ·have e:k=ts.length:=by lia
  subst e;refine .inl ⟨⟨xs,SqL.of (S _ _ ei),lx.symm⟩,?_⟩;rw[cg (by lia)]at eD;have sm:=BF (BV (ns:=ws.take ts.length) (fun w hw'=>(mf (hw.n w (cB hw'))).2) txl);rw[hl]at sm;have sm2:ts.length*100100<=12*100100:=dD _ l12;exact⟨"\n",D,_,rfl,rfl,SqL.of eD,by rw[hl,show("\n":Str).length=1 by decide+kernel];lia,q _ S⟩
mutual
theorem Jv {K:Zp} {H:Hp}:∀{v:V} {d:Dt},Im H v d->At K H v d
 |v,_,.flat h=> .flat (by cases v<;>first|rfl|cases h)
 |_,_,.tup h hs=> .tup (SqT.of h) (uP hs)
theorem uP {K:Zp} {H:Hp}:∀{v:List V} {d:List Dt},Ims H v d->Ats K H v d
 |_,_,.nil=> .nil
 |_,_,.cons h hs=> .cons (Jv h) (uP hs)
end
mutual
theorem Jw:∀{d:Dt},gF d=true->eqD d d=true/\pX d d=true
 | .flat v,h=>by
  cases v with
  |int n=>exact⟨by simp[eqD,eqV],by rfl⟩
  |str z=>exact⟨by simp[eqD,eqV],by rfl⟩
  |_=>simp[gF]at h
 | .tup ds,h=>by rw[gF,fz]at h;exact BW h.2
 | .lst _,h=>by simp[gF]at h
theorem BW:∀{ds:List Dt},gFs ds=true->uT ds ds=true/\rQ ds ds=true
 |[],_=>⟨rfl,rfl⟩
 |d::ds,h=>by rw[gFs,fz]at h;obtain⟨a,b⟩:=Jw h.1;obtain⟨c,e⟩:=BW h.2;rw[uT,rQ,a,b,c,e];exact⟨rfl,rfl⟩
end
theorem xN {α:Type} {f:α->Dt} (h:∀a,gF (f a)=true):∀l:List α,gFs (l.map f)=true
 |[]=>rfl
 |a::l=>by rw[aC,gFs,h a,xN h l];rfl
theorem xO {α:Type} {f:α->Dt} {b:Nat} (h:∀a,qt (f a)<=b):∀l:List α,jO (l.map f)<=b
 |[]=>cX _
 |a::l=>by rw[aC,jO];exact du.mpr ⟨h a,xO h l⟩
theorem Jy {H:Hp} {v:V} {ns:List Int} (h:Im H v (.tup (ns.map kD))):∃t,v= .ref t/\H t=some (.tup (ns.map V.int)):=by
 cases h with
 |tup e i=>cases yL i;exact⟨_,rfl,e⟩
theorem Fv (n:Nat):(aH n true).all id=true:=by
 induction n with
 |zero=>rfl
 |succ n ih=>rw[List.replicate_succ,ba,ih];rfl
theorem BX {en v:V} {me ha:Zx} {bg:Int}:(fRn en v me ha bg).lookup ("end":Str)=some en/\(fRn en v me ha bg).lookup ("value":Str)=some v/\(fRn en v me ha bg).lookup ("meets":Str)=some (.ref me)/\(fRn en v me ha bg).lookup ("had":Str)=some (.ref ha)/\(fRn en v me ha bg).lookup ("begun":Str)=some (.int bg):=⟨by kernel_rfl,by kernel_rfl,by kernel_rfl,by kernel_rfl,by kernel_rfl⟩
def CL:Sp:=fun vs H Q _=>∃n:Int,vs=[.int n]/\Q (.bl true) H
theorem mh (T:Txt K mg):FO P w base 1 T.d36 CL:=by refine T.d36.F.rd ua fun cdv A0 outer s0 H vs Q E hr h=>?_;obtain⟨n,rfl,q⟩:=h;refine⟨_,(gj (gG (si (gM kG rfl T.z_isinstance iG (fZ (cv 0) (fZ (oB rfl T.z_int An) gf))) (qE (FQ (gM kG rfl T.z_isinstance iG (fZ (cv 0) (fZ (oB rfl T.z_bool Ep) gf)))))))),?_⟩;exact⟨_,_,_,_,true,rfl,fun _ r=>r,.int n,rfl,_,rfl,jJ ⟨_,_,_,_,false,rfl,fun _ r=>r,.int n,rfl,_,rfl,q⟩⟩
inductive XTu (vs:List V) (H:Hp) (Q:VK):Prop
 |mk (a b:Zx) (k:Nat) (α:Type) (l:List α) (g:α->List Int) (xs ys:List V) (e:vs=[.ref a,.ref b,.int (k:Int)]) (ea:H a=some (.lst xs)) (eb:H b=some (.lst ys)) (ia:Ims H xs (l.map fun x=> .tup ((g x).map kD))) (ib:Ims H ys (l.map fun x=> .tup ((g x).map kD))) (hk:∀x,(g x).length=k) (k9:k<=9) (q:∀H',gC H H'->Q (.bl true) H')
def se:Sp:=fun vs H Q _=>XTu vs H Q
theorem sg (T:Txt K mg):FO P w base 2 T.d37 se:=by
 refine T.d37.F.rd nF fun cdv A0 outer s0 H vs Q E hr h=>?_;obtain⟨a,b,k,α,l,g,xs,ys,rfl,ea,eb,ia,ib,hk,k9,q⟩:=h;refine⟨_,(f9 (ie (kE (jM (gM kG rfl T.z_isinstance iG (fZ (cv 0) (fZ (oB rfl T.z_list Ao) gf)))))
   (gj (gG oQ))
   gK)
  (f9 (jb PassesOwn.never rfl (jq (cv 0)) (pN (i:=3) nF.nd)
   (gj (ie (PW.pt (qa (kE (jM (gM kG rfl T.z_isinstance iG (fZ (cv 3) (fZ (oB rfl T.z_tuple kn) gf))))) (qa (gH qQ (gM gQ rfl T.z_len ji (fZ (cv 3) gf)) (cv 2)) (pQ (kE (jM (gM (yc rfl) rfl T.z_all C0 (fZ (qf rfl (FA (x:="_law_x") rfl iq iq rfl rfl) (qF (cv 3)) (fun _ _ _ _ _=>lC) (fun _ _ _ _ _=>(pF T.d36 (mh T) hr.m (fZ (cv 0) gf)))) gf))))))))
    (gj (gG oQ))
    gK)))
  (gj (gG (my (Gw hr) (cv 0) (cv 1)))))),?_⟩;have sl:=sizeLine_eq;refine⟨_,_,_,_,true,rfl,fun _ r=>r,.lst ea,rfl,_,rfl,iL ?_⟩;dsimp only[qb];refine⟨a,rfl,⟨_,SqL.of ea⟩,jE (xs:=xs) (fun i σ H3=>∃o,σ=[some (.ref a),some (.ref b),some (.int (k:Int)),o]/\gC H H3) ⟨_,rfl,fun _ _ e=>e⟩ (fun i σ H3 _ ⟨_,_,S⟩=>SqL.of (S _ _ ea)) ?_ ?_⟩
 ·rintro i v σ H3 hv ⟨o,rfl,S⟩;obtain⟨d,hd,im⟩:=jf ia hv;rw[aO]at hd;obtain⟨x,hx,rfl⟩:=dI.mp hd;obtain⟨t,rfl,et⟩:=Jy (im.mono (gC.tk S));refine⟨_,_,_,_,true,rfl,fun _ r=>r,.tup et,rfl,_,rfl,?_⟩;refine iL ⟨t,_,rfl,.inr (SqT.of et),?_⟩;show(if(true ^^ decide ((((g x).map V.int).length:Int)=(k:Int)))=true then _ else _);rw[aD,hk,hI rfl];refine iL ⟨t,rfl,⟨_,SqT.of et⟩,fun D hD=>?_⟩;have lk:((g x).map V.int).length=k:=by rw[aD];exact hk x
  refine sF k (by lia) (fun ys _=>ys=aH ys.length (.bl true)) (fun _ _ _ h _=>h) hD rfl (fun j H4 S4 hj=>AA et S4 (by lia)) (fun H4 S4=>by rw[<-lk];exact AB et S4) rfl ?_ ?_;·intro j H4 v H5 zs Z S4 hj y hz hl hZ;obtain⟨rfl,hv'⟩:=y;have hv':=hv' _ (SqT.of (S4 _ _ et));rw[aO]at hv';obtain⟨n,_,rfl⟩:=dI.mp hv';exact⟨n,rfl,hZ _ _ (fun _ _ e=>e) (by rw[aR,bf,cG,<-hz])⟩
  ·intro H4 zs S4 hz hl eD;refine⟨D,aH zs.length true,rfl,SqL.of (by rw[eD,List.map_replicate,<-hz]),_,rfl,?_⟩;rw[Fv];exact iL ⟨_,rfl,S.trans S4⟩
 ·rintro σ H3 ⟨o,rfl,S⟩;have hg:gFs (l.map fun x=> .tup ((g x).map kD))=true:=xN (fun x=>by rw[gF,fz];exact⟨hI (by rw[aD,hk];lia),xN (fun n=>rfl) _⟩) l;obtain⟨e1,e2⟩:=BW hg;have tk:=gC.tk S;refine⟨a,b,.lst (l.map fun x=> .tup ((g x).map kD)),.lst (l.map fun x=> .tup ((g x).map kD)),rfl,rfl,.lst (SqL.of (S _ _ ea)) (uP (ia.mono tk)),.lst (SqL.of (S _ _ eb)) (uP (ib.mono tk)),?_,?_,?_⟩;·rw[pX,gU rfl];exact e2
  ·rw[qt];have:=xO (f:=fun x=>Dt.tup ((g x).map kD)) (b:=1) (fun x=>by rw[qt];exact dv (xO (f:=kD) (b:=0) (fun n=>cW _) _)) l;lia
  ·rw[gN fu,eqD,e1];exact q _ S
open GR.Internal (isName)
theorem DY {hh:Str} {i:Nat} {h:Hm}:∀{ms:List Int} {j k q:Nat},(lfH i j ms q)[k]?=some (some h)->(lfR hh i j ms)[k]?=some (.name hh)
 |m::ms,j,0,q,e=>by
  rw[lfH]at e;rw[lfR];by_cases z:j=i;·rw[gU z];rfl
  ·rw[gN z]at e;cases e
 |m::ms,j,k+ 1,q,e=>by rw[lfR];exact DY (show(lfH i (j+ 1) ms (q+ 1))[k]?=some (some h)from e)
 |[],_,_,_,e=>by cases e
mutual
theorem Xt.hl_nm {h:Hm}:∀(t:Xt) (p:Nat) {j:Nat},(t.hl p)[j]?=some (some h)->∃x,(t.ro p)[j]?=some (.name x)
 | .mk m κ ks,p,j,e=>by
  rw[Xt.hl]at e;rw[Xt.ro]
  cases j with
  |zero=>
   have e:κ.hk=some h:=dE.inj e
   cases κ with
   |nam w k v=>exact⟨w,rfl⟩
   |_=>cases e
  |succ j=>
   rw[bJ]at e⊢;by_cases z:j<(msX ks).length;·rw[aN (by rw[kU];exact z)]at e;rw[aN (by rw[iE];exact z)];exact BY ks _ e
   ·rw[aM (by rw[kU];lia),kU]at e;rw[aM (by rw[iE];lia),iE]
    cases κ with
    |case l hh ms i=>exact⟨hh,DY e⟩
    |_=>cases e
theorem BY {h:Hm}:∀(ts:List Xt) (p:Nat) {j:Nat},(hlX ts p)[j]?=some (some h)->∃x,(i9 ts p)[j]?=some (.name x)
 |[],p,j,e=>by rw[hlX]at e;cases e
 |t::ts,p,j,e=>by
  rw[hlX]at e;rw[i9];by_cases z:j<t.ms.length;·rw[aN (by rw[Xt.hl_len];exact z)]at e;rw[aN (by rw[Xt.ro_len];exact z)];exact Xt.hl_nm t _ e
  ·rw[aM (by rw[Xt.hl_len];lia),Xt.hl_len]at e;rw[aM (by rw[Xt.ro_len];lia),Xt.ro_len];exact BY ts _ e
end
theorem HB:∀l:List Nat,gFs (l.map TM.Internal.kD)=true
 |[]=>rfl
 |k::l=>by rw[aC,gFs,HB l];rfl
def hoX (ws:Zd) (ts:List Xt):Nat->Option Hm:=fun k=>match(i9 ts 0)[k]? with
 |some ρ=>duo (DI ws ts) k ρ
 |none=>none
theorem DZ {ws:Zd} {ts:List Xt} {k:Nat} {ρ:Ro} (h:(i9 ts 0)[k]?=some ρ):hoX ws ts k=duo (DI ws ts) k ρ:=by unfold hoX;rw[h]
inductive RnX (C:Zx) (H:Hp) (r:Zx) (ts:List Xt) (v:V):Prop
 |mk (dx me ha:Zx) (xs ys:List V) (o:H r=some (.ins C dx (fRn (.str "done") v me ha ((haX ts).length:Int)))) (em:H me=some (.lst xs)) (im:Ims H xs ((meX ts).map fun t=>meD (p3 (ixM (msX ts)) t))) (eh:H ha=some (.lst ys)) (ih:Ims H ys ((haX ts).map fun t=>haD (p2 (ixM (msX ts)) t))) (t:Xt) (tl:ts.getLast?=some t) (iv:Im H v (t.val.mp (ixM (msX ts))).d)
theorem HC {j:Nat} {σ:St} {a:Str} {H:Hp} {F:Bool->Hp->Prop} (hj:σ[j]?=some (some (.str a))) (h:F false H):cV j σ H fun y H2=>cEq true (.str a) y H2 fun x H'=>onB x fun k=>F k H':=by show onV σ[j]? _;rw[hj];show F (xor true (decide (a=a))) H;rw[hI rfl];exact h
theorem neI0 {j:Nat} {σ:St} {a:Int} {H:Hp} {F:Bool->Hp->Prop} (hj:σ[j]?=some (some (.int a))) (h:F false H):cV j σ H fun y H2=>cEq true (.int a) y H2 fun x H'=>onB x fun k=>F k H':=by show onV σ[j]? _;rw[hj];show F (xor true (decide (a=a))) H;rw[hI rfl];exact h
inductive XRa (C:Zx) (vs:List V) (H:Hp) (Q:VK):Prop
 |mk (ws:Zd) (ts:List Xt) (e:vs=[.str (Str.join "\n" (lnX (ws.take ts.length) ts)),.int 2000]) (hn:∀w∈ws,isName w=true) (hd:ws.Nodup) (hl:ws.length=16) (F:Fin ws ts) (q:∀r H' v,gC H H'->RnX C H' r ts v->Q (.ref r) H')
def xP (C:Zx):Sp:=fun vs H Q _=>XRa C vs H Q
theorem xQ (T:Txt K mg) (D:Dk P w K mg) (W:Wk P w T):FO P w base 148 T.d38 (xP T.c2.a):=by
 have g1:=zI (P:=P) (w:=w) (base:=base) T;have g2:=zJ T g1;have g3:=vL T g1;have ga:=rB (P:=P) (w:=w) (base:=base) T;have g4:=rV (P:=P) (w:=w) (base:=base) T ga;have gc:=rW (P:=P) (w:=w) (base:=base) T;have gp:=n8 T g4;have gn:=n9 T g4 g2;have ge:=AZ T D ga g4 gp gn g2 g3 gc 24;have gD17:=EO T (wR T) (oH T) ga gp gn ge gc (oa T);have gD12:=G4 (base:=base) T W;clear g1 g2 g3 ga g4 gc gp gn ge;refine T.d38.F.rd rm fun cdv A0 outer s H vs Q E hr h=>?_;obtain⟨ws,ts,rfl,hn,hd,hl,F,q⟩:=h;refine⟨_,(f9 (pS (i:=2) rm.nd (pF T.d17 gD17 hr.m (fZ (cv 0) gf)))
  (gj (gG (pF T.d12 gD12 hr.m (fZ (cv 2) (fZ (pF T.d19 (wY T) hr.m (fZ (cv 2) gf)) (fZ (cv 1) gf))))))),?_⟩;have l9:=F.l12;have l159:=F.l;have l1:=F.l1;have l12:ts.length<=12:=by lia
 have l160:(msX ts).length<=160:=by lia
 have lnn:(ws.take ts.length).length=ts.length:=by rw[aK];lia
 have hn':∀n∈ws.take ts.length,isName n=true:=fun n h=>hn n (cB h);obtain⟨pq,po⟩:=Hk hn hn' lnn F.ok;have et:GR.Internal.toks (Str.join "\n" (lnX (ws.take ts.length) ts))=yu (ws.take ts.length) (trX ts):=pq.g.op;have ql:=pq.l;have qk:=pq.k;have qo:=pq.o;have gfr:=gfX ts [] 0 F.ok;have gd:=Hh hd l12 (by lia) F.ok l160;obtain⟨lh,_⟩:=Fs F.ok;have sub:wq (hlX ts 0) 0 (hoX ws ts):=fun j h e=>by obtain⟨x,hx⟩:=BY ts 0 e;obtain⟨h',e',o⟩:=DJ hd F.ok hx;rw[e]at e';cases e';rw[dj,DZ hx];exact o
 have R:=JT (ρs:=i9 ts 0) (ho:=hoX ws ts) (tu:=2000) (ws:=ws) (π:=ixM (msX ts)) (M:=msX ts) (BR F.nd) ts [] 0 F.ok (fun j x e=>by rw[dj];exact e) (fun j x e=>by rw[dj];exact e) sub s0M rfl rfl rfl rfl (by show 0+_<=_;lia);obtain⟨ls,t,hu⟩:∃us u,ts=us++[u]:=⟨_,_,(bP (fun e=>by rw[e]at l1;cases l1)).symm⟩;have etl:ts.getLast?=some t:=by rw[hu,cu]
 have dl:(([]++ir ts).map (Vl.mp (ixM (msX ts)))).getLast?=some (t.val.mp (ixM (msX ts))):=by
  have:ir ts=ls.map Xt.val++[t.val]:=by rw[qB,hu,bp];rfl
  rw[bW,this,bp];exact cu
 have eme:(qm s0M (ixM (msX ts)) (meX ts) (haX ts) [] []).me.reverse=(meX ts).map (p3 (ixM (msX ts))):=by show(((meX ts).map (p3 (ixM (msX ts)))).reverse++[]).reverse=_;rw[aE,cx]
 have eha:(qm s0M (ixM (msX ts)) (meX ts) (haX ts) [] []).ha.reverse=(haX ts).map (p2 (ixM (msX ts))):=by show(((haX ts).map (p2 (ixM (msX ts)))).reverse++[]).reverse=_;rw[aE,cx]
 have hde:([]++ir ts).map (Vl.mp (ixM (msX ts)))≠[]:=fun z=>by rw[z]at dl;cases dl
 refine⟨_,ws.take ts.length,trX ts,rfl,by lia,by rw[<-et];exact GR.Internal.toks_v _,G5 (by lia) qo,by rw[uq,aD];exact lnn,hn',po,fun t ht=>?_,by rw[HL];exact l160,by lia,by lia,fun g nl tl rl rtv rwv H5 S5 pr tr' tw=>?_⟩;·rw[uq]at ht;obtain⟨u,hu,rfl⟩:=bh.mp ht;exact cQ (F.ns u hu) (by decide)
 rw[<-Bo]at tr';rw[<-Hl F.ok]at tw;have ertv:=G7 (qA tr' (HB _));have erwv:=qA tw gfr;obtain⟨dx,ob⟩:=pr.ob;have prr:=pr.rt;rw[ertv]at prr;have prA:PrA T.c3.a H5 g nl tl rl dx rwv (ws.take ts.length) (kY ts 0) (i9 ts 0):=⟨ob,pr.nm,prr,pr.rw,erwv⟩;dsimp only[gY];refine⟨g,nl,tl,rl,dx,rwv,_,_,_,_,rfl,prA,gd,fun lh2 ys H6 S6 _ el6 ly hoa=>?_⟩;refine⟨g,lh2,nl,tl,rl,dx,2000,_,rwv,ys,_,_,_,_,hoX ws ts,rfl,prA.same S6,el6,fun i ρ hi=>?_,gd.ok,R,by lia,⟨_,rfl⟩,fun _=>hde,fun r H7 S7 _ ra=>?_⟩;·have hil:=(au.mp hi).1;obtain⟨y,hy⟩:∃y,ys[i]?=some y:=⟨_,bF (by lia)⟩;exact⟨y,hy,by rw[DZ hi];exact hoa i y ρ hy hi⟩
 obtain⟨dx',v,me,ha,o1,⟨xs1,em,im⟩,⟨ys1,eh,ih⟩,v1,v2⟩:=ra.o;have o1:H7 r=some (.ins T.c2.a dx' (fRn (.str "done") v me ha ((0+(haX ts).length:Nat):Int))):=o1;rw[dj]at o1;replace im:Ims H7 xs1 ((qm s0M (ixM (msX ts)) (meX ts) (haX ts) [] []).me.reverse.map meD):=im;replace ih:Ims H7 ys1 ((qm s0M (ixM (msX ts)) (meX ts) (haX ts) [] []).ha.reverse.map haD):=ih;rw[eme,bG]at im;rw[eha,bG]at ih;exact q r H7 v ((S5.trans S6).trans S7) ⟨dx',me,ha,xs1,ys1,o1,em,im,eh,ih,t,etl,v2 _ rfl dl⟩
inductive XTo (C:Zx) (vs:List V) (H:Hp) (Q:VK):Prop
 |mk (r pa:Zx) (ts:List Xt) (v:V) (e:vs=[.ref r,.str "done",.int ((haX ts).length:Int),.ref pa]) (ra:RnX C H r ts v) (pl:PlA H pa ts) (q:∀H',gC H H'->Q (.bl true) H')
def wj (C:Zx):Sp:=fun vs H Q _=>XTo C vs H Q
theorem wm (T:Txt K mg):FO P w base 3 T.d39 (wj T.c2.a):=by
 refine T.d39.F.rd vI fun cdv A0 outer s H vs Q E hr h=>?_;obtain⟨r,pa,ts,v,rfl,⟨dx,me,ha,xs,ys,o,em,im,eh,ih,_,_,_⟩,⟨dp,hl,ml,kvs,ys2,zs2,ep,ed,_,eh2,ih2,em2,im2⟩,q⟩:=h;refine⟨_,(f9 (ie (PW.pt (qa (gH qQ (gS T.c2.cl T.n2end (cv 0)) (cv 1)) (qa (kE (jM (pF T.d36 (mh T) hr.m (fZ (gS T.c2.cl T.n2begun (cv 0)) gf)))) (pQ (gH qQ (gS T.c2.cl T.n2begun (cv 0)) (cv 2))))))
   (gj (gG oQ))
   gK)
  (gj (gG (si (pF T.d37 (sg T) hr.m (fZ (gS T.c2.cl T.n2had (cv 0)) (fZ (gy gJ (cv 3) gh) (fZ gh gf)))) (qE (pF T.d37 (sg T) hr.m (fZ (gS T.c2.cl T.n2meets (cv 0)) (fZ (gy gJ (cv 3) gh) (fZ gh gf))))))))),?_⟩;obtain⟨f1,f2,f3,f4,f5⟩:=BX (en:= .str "done") (v:=v) (me:=me) (ha:=ha) (bg:=((haX ts).length:Int));refine⟨_,⟨_,_,o,f1⟩,?_⟩;refine HC rfl ?_;refine iL ⟨_,⟨_,_,o,f5⟩,_,rfl,_,rfl,iL ⟨_,⟨_,_,o,f5⟩,?_⟩⟩;refine neI0 rfl ?_;refine iL ?_;dsimp only[qb];refine⟨_,⟨_,_,o,f4⟩,_,ep,gu (gq (j:=1) rfl) ?_⟩;refine⟨ha,hl,2,_,haX ts,fun t=>[ixM (msX ts) t.1,ixM (msX ts) t.2],ys,ys2,rfl,eh,eh2,ih,ih2,fun _=>rfl,by decide,fun H1 S1=>⟨_,rfl,jJ ?_⟩⟩;have tk:=gC.tk S1;refine⟨_,⟨_,_,S1 _ _ o,f3⟩,_,S1 _ _ ep,gu (gq (j:=2) rfl) ?_⟩;exact⟨me,ml,3,_,meX ts,fun t=>[ixM (msX ts) t.1,ixM (msX ts) t.2.1,t.2.2],xs,zs2,rfl,S1 _ _ em,S1 _ _ em2,im.mono tk,im2.mono tk,fun _=>rfl,by decide,fun H2 S2=>q H2 (S1.trans S2)⟩
mutual
def Vl.dep:Vl->Nat
 | .num _ _=>1
 | .rcd l _=>l.dep+ 1
 | .tag _ v _=>v.dep+ 1
def Vls.dep:Vls->Nat
 | .nil=>0
 | .cons _ v t=>max v.dep t.dep
end
theorem uQ {n:Nat}:∀{l:Vls},l.dep<=n↔∀p∈fdL l,p.2.dep<=n
 | .nil=>by rw[Vls.dep];exact⟨(fun _ p hp=>nomatch hp),fun _=>cX _⟩
 | .cons w v t=>by
  rw[Vls.dep,du,uQ (l:=t)];refine⟨fun⟨a,b⟩ p hp=>?_,fun h=>⟨h _ ah,fun p hp=>h p (aj _ hp)⟩⟩;rcases ak.mp hp with rfl|hp;·exact a
  ·exact b p hp
theorem Fw (v:Vl):1<=v.dep:=by cases v<;>rw[Vl.dep]<;>lia
mutual
theorem Xt.dp {ws:Zd} {vs:List Vl} {D:Nat} (hv:∀v∈vs,v.dep<=D):∀t:Xt,t.ok ws vs->t.val.dep<=D+t.tr.nest
 | .mk m κ ks,ok=>by
  rw[Xt.ok]at ok;have g:=dpL hv ks ok.2;have n1:TM.Internal.nests (trX ks)+ 1<=(Xt.mk m κ ks).tr.nest:=by rw[pO,mW];lia
  have o:=ok.1;rw[Xt.val];generalize ir ks=us at g o⊢
  cases κ with
  |num n=>show Vl.dep (.num _ _)<=_;rw[Vl.dep];lia
  |nam w k v=>have:=hv _ (aQ o.2.2);show v.dep<=_;lia
  |rcd l=>
   show Vl.dep (.rcd _ _)<=_;rw[Vl.dep];have:Vls.dep (fdO (l.zip us))<=D+TM.Internal.nests (trX ks):=uQ.mpr fun p hp=>by rw[FF]at hp;exact g _ (aG (show(p.1,p.2)∈_ from hp)).2
   lia
  |tag w=>obtain⟨⟨a,rfl⟩,_⟩:=o;have:=g a ah;show Vl.dep (.tag _ a _)<=_;rw[Vl.dep];lia
  |get w=>
   obtain⟨⟨a,q,v,rfl,h1,_⟩,_⟩:=o;have g:=g _ ah;rw[Vl.dep]at g;obtain⟨p,hp,rfl⟩:=xI h1;have:=(uQ (l:=a) (n:=a.dep)).mp (cW _) p hp;have z:(Kx.get w).v m [.rcd a q]=p.2:=by show(lkV (fdL a) w).getD _=_;rw[h1];rfl
   rw[z];lia
  |case l h ms i=>obtain⟨⟨t,v,q,rfl,et⟩,_⟩:=o;have g:=g _ ah;rw[Vl.dep]at g;show v.dep<=_;lia
theorem dpL {ws:Zd} {vs:List Vl} {D:Nat} (hv:∀v∈vs,v.dep<=D):∀ts:List Xt,okL ws vs ts->∀u∈ir ts,u.dep<=D+TM.Internal.nests (trX ts)
 |[],_,u,hu=>by rw[ir]at hu;cases hu
 |t::ts,ok,u,hu=>by
  rw[okL]at ok;rw[ir]at hu;rw[nv];rcases ak.mp hu with rfl|hu;·have:=Xt.dp hv t ok.1;lia
  ·have:=dpL hv ts ok.2 u hu;lia
end
theorem dpX {ws:Zd}:∀{ts:List Xt} {vs:List Vl} {D:Nat},(∀v∈vs,v.dep<=D)->okX ws vs ts->(∀t∈ts,t.tr.nest<=10)->∀t∈ts,t.val.dep<=D+ 10*ts.length
 |[],vs,D,_,_,_,t,h=>by cases h
 |u::ts,vs,D,hv,ok,hn,t,h=>by
  have g:=u.dp hv ok.1;have:=hn u ah;rw[aA];rcases ak.mp h with rfl|h;·lia
  ·have:=dpX (ts:=ts) (vs:=vs++[u.val]) (D:=D+ 10) (fun x hx=>(ao.mp hx).elim (fun hx=>by have:=hv x hx;lia) (fun hx=>by rw[bo.mp hx];lia)) ok.2 (fun v hv=>hn v (aj _ hv)) t h;lia
theorem JX {σ:St} {a:Int} {H:Hp} {F:Bool->Hp->Prop} (h:F false H):tC (.int a) σ H fun y H2=>cEq true (.int a) y H2 fun x H'=>onB x fun k=>F k H':=by show F (xor true (decide (a=a))) H;rw[hI rfl];exact h
theorem JY {a:Str} {H:Hp} {F:Bool->Hp->Prop} (h:F false H):cEq true (.str a) (.str a) H fun x H'=>onB x fun k=>F k H':=by show F (xor true (decide (a=a))) H;rw[hI rfl];exact h
theorem JZ {a:Int} {H:Hp} {F:Bool->Hp->Prop} (h:F false H):cEq true (.int a) (.int a) H fun x H'=>onB x fun k=>F k H':=by show F (xor true (decide (a=a))) H;rw[hI rfl];exact h
theorem J0 {a b:Int} (e:a=b) {H:Hp} {F:Bool->Hp->Prop} (h:F false H):cEq true (.int a) (.int b) H fun x H'=>onB x fun k=>F k H':=by rw[e];exact JZ h
theorem HD {a b:Str} (e:a=b) {σ:St} {H:Hp} {F:Bool->Hp->Prop} (h:F true H):tC (.str b) σ H fun y H2=>cEq false (.str a) y H2 fun x H'=>onB x fun k=>F k H':=by show F (xor false (decide (a=b))) H;rw[hI e];exact h
theorem HE {a b:Str} (e:a≠b) {σ:St} {H:Hp} {F:Bool->Hp->Prop} (h:F false H):tC (.str b) σ H fun y H2=>cEq false (.str a) y H2 fun x H'=>onB x fun k=>F k H':=by show F (xor false (decide (a=b))) H;rw[ik e];exact h
theorem CM {K:Zp} {a b:Zx} {xs ys:List V} {g:TG} {tb:TS} {D:rO} {σ:St} {H:Hp} (Pv:Nat->St->Hp->Prop) (h0:Pv 0 σ H) (hl:∀i σ H,i<=xs.length->Pv i σ H->SqT K H a xs/\SqT K H b ys) (hn:ys.length=xs.length)
  (hs:∀(i:Nat) (x y:V) (σ:St) (H:Hp) (T:Zx),xs[i]?=some x->ys[i]?=some y->Pv i σ H->H T=none->g (.ref T) σ (upd H T (.tup [x,y])) fun σ2 H2=>tb {D with nx:=Pv (i+ 1),ct:=Pv (i+ 1),bk:=D.nx} σ2 H2) (hd:∀σ H,Pv xs.length σ H->D.nx σ H):
  ∃W:Nat->Nat->St->Hp->Prop,(∃m,W 0 m σ H)/\∀i m σ H,W i m σ H->
   ((Itg tS tS K a b).stop i H/\D.nx σ H)\/((Itg tS tS K a b).go i H/\∃N:St->Hp->Prop,(∀σ' H',N σ' H'->∃m',m'<m/\W (i+ 1) m' σ' H')/\∀x H',(Itg tS tS K a b).yld i H x H'->g x σ H' fun σ2 H2=>tb {D with nx:=N,ct:=N,bk:=D.nx} σ2 H2):=by
 refine⟨fun i m σ H=>Y3 (m=xs.length-i) (i<=xs.length) (Pv i σ H),⟨xs.length,by simp,cX _,h0⟩,?_⟩;rintro i m σ H ⟨rfl,hi,p⟩;obtain⟨q1,q2⟩:=hl i σ H hi p;by_cases hlt:i<xs.length;·refine .inr ⟨⟨xs,ys,xs[i],ys[i]'(by lia),q1,q2,by simp[hlt],bF (by lia)⟩,Pv (i+ 1),fun σ' H' p'=>⟨xs.length-(i+ 1),by lia,rfl,hlt,p'⟩,fun v H' y=>?_⟩;obtain⟨T,x,y,rfl,hT,rfl,hx,hy⟩:=y;exact hs i x y σ H T (hx xs q1) (hy ys q2) p hT
 ·have e:i=xs.length:=by lia
  subst e;exact .inl ⟨⟨xs,ys,q1,q2,by lia⟩,hd σ H p⟩
theorem mp_s (π:Int->Int) (v:Vl):(v.mp π).s=v.s:=by cases v<;>rw[Vl.mp]<;>rfl
inductive XAl (n:Nat) (vs:List V) (H:Hp) (Q:VK):Prop
 |mk (v d:V) (dp:Zx) (kvs:List (Key×V)) (M:List Int) (u:Vl) (e:vs=[v,d,.ref dp]) (iv:Im H v (u.mp (ixM M)).d) (id:Im H d u.d) (ed:H dp=some (.dK kvs)) (pc:Pc kvs M) (nd:M.Nodup) (hm:u.ins M) (hd:u.dep<=n) (q:∀H',gC H H'->Q (.bl true) H')
def uR (n:Nat):Sp:=fun vs H Q _=>XAl n vs H Q
theorem oP (T:Txt K mg):∀n:Nat,FO P w base (n+ 2) T.d47 (uR n)
 |0=>T.d47.F.ok kH (fun vs H Q E h=>by obtain⟨v,d,dp,kvs,M,u,rfl,_⟩:=h;rfl) (fun cdv A0 outer s H vs Q E hr h=>by obtain⟨v,d,dp,kvs,M,u,rfl,_,_,_,_,_,_,hd,_⟩:=h;exact absurd (cQ (Fw u) hd) (by decide))
 |n+ 1=>by
  have gD47:=oP (P:=P) (w:=w) (base:=base) T n;refine T.d47.F.rd kH fun cdv A0 outer s H vs Q E hr h=>?_;have hu:=rP hr;obtain⟨v,d,dp,kvs,M,u,rfl,iv,id,ed,pc,nd,hm,hd,q⟩:=h;refine⟨_,(f9 (ie (PW.pt (qa (kE (jM (gM kG rfl T.z_isinstance iG (fZ (cv 0) (fZ (oB rfl T.z_tuple kn) gf))))) (qa (gH qQ (gM gQ rfl T.z_len ji (fZ (cv 0) gf)) gh) (pQ (gH qQ (gy gA (cv 0) gh) (gy gA (cv 1) gh))))))
   (gj (gG oQ))
   gK)
  (f9 (ie (PW.pt (qa (kE (jM (pF T.d36 (mh T) (hr.mono (by lia)) (fZ (gy gA (cv 0) gh) gf)))) (pQ (gH qQ (gy gA (cv 0) gh) (lQ hu (cv 2) (gy gA (cv 1) gh))))))
   (gj (gG oQ))
   gK)
  (f9 (ie (gH jZ (gy gA (cv 1) gh) gE)
   (gj (gG (si (pF T.d36 (mh T) (hr.mono (by lia)) (fZ (gy gA (cv 0) gh) gf)) (qE (my jZ (gy gA (cv 0) gh) (gy gA (cv 1) gh))))))
   gK)
  (f9 (ie (PW.pt (qa (kE (jM (gM kG rfl T.z_isinstance iG (fZ (gy gA (cv 0) gh) (fZ (oB rfl T.z_tuple kn) gf))))) (pQ (gH qQ (gM gQ rfl T.z_len ji (fZ (gy gA (cv 0) gh) gf)) (gM gQ rfl T.z_len ji (fZ (gy gA (cv 1) gh) gf))))))
   (gj (gG oQ))
   gK)
  (f9 (ie (gH jZ (gy gA (cv 1) gh) gE)
   (gj (gG (si (my jZ (gy gA (gy gA (cv 0) gh) gh) (gy gA (gy gA (cv 1) gh) gh)) (qE (pF T.d47 gD47 (hr.mono (by lia)) (fZ (gy gA (gy gA (cv 0) gh) gh) (fZ (gy gA (gy gA (cv 1) gh) gh) (fZ (cv 2) gf))))))))
   gK)
  (f9 (jb PassesOwn.never rfl (Ez rfl T.z_zip (fZ (gy gA (cv 0) gh) (fZ (gy gA (cv 1) gh) gf))) (xU rfl (kZ (pN (i:=3) kH.nd) (kZ (pN (i:=4) kH.nd) sZ)))
   (f9 (ie (PW.pt (qa (kE (jM (gM kG rfl T.z_isinstance iG (fZ (cv 3) (fZ (oB rfl T.z_tuple kn) gf))))) (qa (gH qQ (gM gQ rfl T.z_len ji (fZ (cv 3) gf)) gh) (pQ (gH qQ (gy gA (cv 3) gh) (gy gA (cv 4) gh))))))
    (gj (gG oQ))
    gK)
   (gj (ie (kE (jM (pF T.d47 gD47 (hr.mono (by lia)) (fZ (gy gA (cv 3) gh) (fZ (gy gA (cv 4) gh) (fZ (cv 2) gf))))))
    (gj (gG oQ))
    gK))))
  (gj (gG oQ)))))))),?_⟩;obtain⟨tv,yv,rfl,ev,iyv⟩:=oN iv;obtain⟨td,yd,rfl,etd,iyd⟩:=oN id;rw[mp_s,Ji]at ev;have dg:∀{H':Hp} {m:Int},gC H H'->m∈M->sC H' dp (.int m) (some (.int (ixM M m))):=fun{H' m} S hm=>by have g:=sC.k (k:=(Sum.inl m:Key)) (S _ _ ed);rw[pc.at nd hm]at g;exact g
  refine⟨_,_,_,_,true,rfl,fun _ r=>r,.tup ev,rfl,_,rfl,iL ⟨tv,_,rfl,.inr (SqT.of ev),?_⟩⟩;refine JX ?_;refine iL ⟨_,ev,gu (gq (j:=0) rfl) ⟨_,etd,gu (gq (j:=0) rfl) ?_⟩⟩;refine JY ?_;refine iL ⟨_,ev,gu (gq (j:=2) rfl) ⟨_,rfl,_,rfl,iL ?_⟩⟩;dsimp only[qb];refine⟨_,ev,gu (gq (j:=2) rfl) ⟨_,etd,gu (gq (j:=2) rfl) ⟨dp,_,rfl,dg (fun _ _ e=>e) (Fq hm),?_⟩⟩⟩;refine JZ ?_;refine iL ⟨_,etd,gu (gq (j:=0) rfl) ?_⟩;show(if(xor false (decide (u.s="num")))=true then(_:Prop)else _);rw[fB]
  cases u with
  |num m p=>rw[hI (show(Vl.num m p).s="num" from rfl)];cases(show Im H yd (kD m)from iyd);rw[Vl.mp]at iyv;cases(show Im H yv (kD m)from iyv);refine jJ ⟨_,ev,gu (gq (j:=1) rfl) ⟨m,rfl,_,rfl,jJ ⟨_,ev,gu (gq (j:=1) rfl) ⟨_,etd,gu (gq (j:=1) rfl) ?_⟩⟩⟩⟩;show Q (.bl (xor false (decide (m=m)))) H;rw[hI rfl];exact q H fun _ _ e=>e
  |tag tg x p=>rw[ik (show(Vl.tag tg x p).s≠"num" by show("tag":Str)≠"num";decide+kernel)];rw[Vl.mp]at iyv;obtain⟨bd,y1,zd,rfl,ebd,i1,izd⟩:=kT (show Im H yd (.tup [sD tg,x.d])from iyd);obtain⟨bv,y2,zv,rfl,ebv,i2,izv⟩:=kT (show Im H yv (.tup [sD tg,(x.mp (ixM M)).d])from iyv);cases i1;cases i2;refine iL ⟨_,ev,gu (gq (j:=1) rfl) ⟨_,_,_,_,true,rfl,fun _ r=>r,.tup ebv,rfl,_,rfl,iL ⟨_,ev,gu (gq (j:=1) rfl) ⟨bv,_,rfl,.inr (SqT.of ebv),_,etd,gu (gq (j:=1) rfl) ⟨bd,_,rfl,.inr (SqT.of ebd),?_⟩⟩⟩⟩⟩;refine J0 rfl ?_;refine iL ?_;dsimp only[qb];refine⟨_,etd,gu (gq (j:=0) rfl) ?_⟩;refine HD rfl ?_;refine jJ ⟨_,ev,gu (gq (j:=1) rfl) ⟨_,ebv,gu (gq (j:=0) rfl) ⟨_,etd,gu (gq (j:=1) rfl) ⟨_,ebd,gu (gq (j:=0) rfl) ?_⟩⟩⟩⟩;refine⟨_,rfl,?_⟩;rw[fB,hI rfl];rw[Vl.ins]at hm;rw[Vl.dep]at hd;refine jJ ⟨_,ev,gu (gq (j:=1) rfl) ⟨_,ebv,gu (gq (j:=1) rfl) ⟨_,etd,gu (gq (j:=1) rfl) ⟨_,ebd,gu (gq (j:=1) rfl) ?_⟩⟩⟩⟩;exact⟨zv,zd,dp,kvs,M,x,rfl,izv,izd,ed,pc,nd,hm.2,dy hd,q⟩
  |rcd l p=>
   rw[ik (show(Vl.rcd l p).s≠"num" by show("rec":Str)≠"num";decide+kernel)];rw[Vl.mp]at iyv;rw[Vl.ins,uO]at hm;rw[Vl.dep]at hd;obtain⟨bd,ys,rfl,ebd,iys⟩:∃b zs,yd= .ref b/\H b=some (.tup zs)/\Ims H zs ((fdL l).map fvD):=by
    have i:Im H yd (.tup l.ds):=iyd;rw[FH]at i
    cases i with
    |tup e2 i2=>exact⟨_,_,rfl,e2,i2⟩
   obtain⟨bv,xs,rfl,ebv,ixs⟩:∃b zs,yv= .ref b/\H b=some (.tup zs)/\Ims H zs (((fdL l).map (pv (ixM M))).map fvD):=by
    have i:Im H yv (.tup (l.mp (ixM M)).ds):=iyv;rw[FH,vT]at i
    cases i with
    |tup e2 i2=>exact⟨_,_,rfl,e2,i2⟩
   have lx:=ixs.length;have ly:=iys.length;rw[aD]at lx ly;rw[aD]at lx;refine iL ⟨_,ev,gu (gq (j:=1) rfl) ⟨_,_,_,_,true,rfl,fun _ r=>r,.tup ebv,rfl,_,rfl,iL ⟨_,ev,gu (gq (j:=1) rfl) ⟨bv,_,rfl,.inr (SqT.of ebv),_,etd,gu (gq (j:=1) rfl) ⟨bd,_,rfl,.inr (SqT.of ebd),?_⟩⟩⟩⟩⟩;refine J0 (by lia) ?_;refine iL ?_;dsimp only[qb];refine⟨_,etd,gu (gq (j:=0) rfl) ?_⟩;refine HE (show(Vl.rcd l p).s≠"tag" by show("rec":Str)≠"tag";decide+kernel) ?_;refine iL ?_;dsimp only[qb];refine⟨_,ev,gu (gq (j:=1) rfl) ⟨_,etd,gu (gq (j:=1) rfl) ⟨bv,bd,rfl,⟨_,SqT.of ebv⟩,⟨_,SqT.of ebd⟩,CM (D:={nx:=_,rt:=Q,bk:=fun _ _=>True,ct:=fun _ _=>True}) (xs:=xs) (ys:=ys) (fun i σ H3=>X2 fun o3 o4=>σ=[some (.ref tv),some (.ref td),some (.ref dp),o3,o4]/\gC H H3) ⟨_,_,rfl,fun _ _ e=>e⟩ (fun i σ H3 _ ⟨_,_,_,S⟩=>⟨SqT.of (S _ _ ebv),SqT.of (S _ _ ebd)⟩) (by lia) ?_ ?_⟩⟩⟩;·rintro i x y σ H3 tp hx hy ⟨o3,o4,rfl,S⟩ htp;have sT:=gi htp (.tup [x,y]);have S2:=S.trans sT;obtain⟨d1,hd1,i1⟩:=jf ixs hx;obtain⟨d2,hd2,i2⟩:=jf iys hy;rw[aO]at hd2;obtain⟨t,ht,rfl⟩:=dI.mp hd2;rw[aO,aO,ht]at hd1;cases hd1;obtain⟨ax,y1,zx,rfl,eax,j1,izx⟩:=kT (show Im _ x (.tup [sD t.1,(t.2.mp (ixM M)).d])from i1.mono (gC.tk S2));obtain⟨ay,y2,zy,rfl,eay,j2,izy⟩:=kT (show Im _ y (.tup [sD t.1,t.2.d])from i2.mono (gC.tk S2));cases j1;cases j2;refine⟨tp,_,rfl,SqT.of gb,rfl,_,_,rfl,_,_,rfl,rfl,?_⟩;generalize upd H3 tp (.tup [.ref ax,.ref ay])=H4 at S2 eax eay izx izy⊢;refine⟨_,_,_,_,true,rfl,fun _ r=>r,.tup eax,rfl,_,rfl,iL ⟨ax,_,rfl,.inr (SqT.of eax),?_⟩⟩;refine JX ?_;refine iL ⟨_,eax,gu (gq (j:=0) rfl) ⟨_,eay,gu (gq (j:=0) rfl) ?_⟩⟩;refine JY ?_;refine iL ?_;dsimp only[qb];have tm:=aQ ht;refine⟨_,eax,gu (gq (j:=1) rfl) ⟨_,eay,gu (gq (j:=1) rfl) ?_⟩⟩;refine⟨zx,zy,dp,kvs,M,t.2,rfl,izx,izy,S2 _ _ ed,pc,nd,hm.2 t tm,(uQ (n:=n)).mp (dy hd) t tm,fun H5 S5=>?_⟩;exact⟨_,rfl,iL ⟨_,_,rfl,S2.trans S5⟩⟩
   ·rintro σ H3 ⟨o3,o4,rfl,S⟩;exact q _ S
theorem Fy {f:Zx} {fd:Zs} (T:Txt K mg) (D:Dk P w K mg) (W:Wk P w T) (F:Fun K "law" "law" tV f fd):sA P w K mg base CX0 150 f fd ["_law_script"] (yt K):=by
 have gD38:=xQ (base:=base) T D W;have gD47:=oP (P:=P) (w:=w) (base:=base) T 100;refine F.rd vK fun _ A _ s H vs Q E hr h=>?_;obtain⟨ad,ns,rfl,hsq,hlen,q⟩:=h;refine⟨_,(f9 (pS (i:=1) vK.nd (pF T.d27 (uz T) hr.m (fZ (gM (vz rfl) rfl T.z_sum C5 (fZ (lT tH (cv 0) (mC (y0 sq gh)) oS) gf)) gf)))
  (f9 (pS (i:=2) vK.nd (pF T.d46 (uN T) hr.m (fZ (cv 1) (fZ (cv 0) gf))))
  (f9 (pS (i:=3) vK.nd (pF T.d34 (sd T) hr.m (fZ (cv 2) gf)))
  (f9 (pS (i:=4) vK.nd (pF T.d38 gD38 hr.m (fZ (pF T.d35 (wg T) hr.m (fZ (cv 1) (fZ (cv 2) gf))) (fZ gh gf))))
  (f9 (ie (kE (jM (pF T.d39 (wm T) hr.m (fZ (cv 4) (fZ gE (fZ (gM gQ rfl T.z_len ji (fZ (gy gJ (cv 3) gh) gf)) (fZ (cv 3) gf)))))))
   (gj (gG oQ))
   gK)
  (gj (gG (pF T.d47 gD47 hr.m (fZ (gS T.c2.cl T.n2value (cv 4)) (fZ (gy gJ (gy gJ (cv 2) (y0 sq gh)) gh) (fZ (gy gJ (cv 3) gh) gf))))))))))),?_⟩;have sl:=sizeLine_eq;obtain⟨ks1,ek1,_⟩:=yT ns (some (-1)) none;refine⟨_,rfl,_,rfl,ad,_,rfl,hsq,fun c1 hc1=>⟨c1,ks1,rfl,SqL.of (by rw[gb,ek1]),fun n0=>?_⟩⟩;have S1:=gi hc1 (.lst (vh (ns.map V.int) (some (-1)) none));dsimp only;generalize upd H c1 (.lst (vh (ns.map V.int) (some (-1)) none))=H1 at S1⊢;refine⟨n0,rfl,fun wl ws H2 S2 _ hw=>?_⟩;dsimp only[gY];have S02:=S1.trans S2;refine⟨wl,ad,ws,ns,rfl,hw,S02.seq hsq,hlen,fun il xs ts H3 S3 _ ei hx Fi=>?_⟩;dsimp only[gY];refine⟨il,ws,xs,ts,rfl,ei,hx,Fi,fun pa H4 S4 pl=>?_⟩;dsimp only[gY];have S34:=S3.trans S4;have hw4:Wd H4 wl ws:=⟨S34 _ _ hw.e,hw.l,hw.n,hw.d⟩;have ei4:=S4 _ _ ei;have hx4:=hx.same S4;obtain⟨dp,hl,ml,kvs,ys,zs,ep,ed,pc,eh,ih,em,im⟩:=pl;have plm:∀{H':Hp},gC H4 H'->PlA H' pa ts:=fun{H'} S=>⟨dp,hl,ml,kvs,ys,zs,S _ _ ep,S _ _ ed,pc,S _ _ eh,ih.mono (gC.tk S),S _ _ em,im.mono (gC.tk S)⟩;have l1:=Fi.l1;have l9:=Fi.l12;have lx:=hx.len;rw[aD]at lx;obtain⟨us,t,hu⟩:∃us u,ts=us++[u]:=⟨_,_,(bP (fun e=>by rw[e]at l1;cases l1)).symm⟩;have tm:t∈ts:=by rw[hu];exact az _ (cK _)
 have hk:(ts.map Xt.j)[us.length]?=some t.j:=by rw[aO,hu,aM (cW _),di];rfl
 have lu:ts.length=us.length+ 1:=by rw[hu,aR];rfl
 obtain⟨xu,hxu,hX⟩:=hx4.at hk;obtain⟨zs',y,hys⟩:∃ys y,xs=ys++[y]:=⟨_,_,(bP (fun e=>by rw[e]at lx;rw[<-lx]at lu;cases lu)).symm⟩;have hy:y=xu:=by
  have l2:zs'.length=us.length:=by
   have:xs.length=zs'.length+ 1:=by rw[hys,aR];rfl
   lia
  rw[hys,aM (by lia),l2,di]at hxu;cases hxu;rfl
 subst hy;obtain⟨ai,vi,B,rfl,eai,ivi,_,_⟩:=hX;replace ivi:Im H4 vi t.val.d:=ivi;have txl:∀t∈ts,t.tx.length<=100000:=fun t ht=>by obtain⟨⟨_,o⟩,l⟩:=xM Fi.ok t ht;have:=Fi.l;have:=(t.gt hw.n o).1.l;lia
 refine⟨wl,il,ws,xs,ts,rfl,hw4,ei4,hx4.txs,by lia,txl,fun H5 S5=>?_⟩;refine⟨ws,ts,rfl,hw.n,hw.d,hw.l,Fi,fun r H6 v S6 ra=>?_⟩;dsimp only[gY];have S46:=S5.trans S6;have ra2:=ra;obtain⟨dx,me,ha,xs1,ys1,o,_,_,_,_,t',tl,iv⟩:=ra;rw[hu,cu]at tl;cases tl;obtain⟨_,f2,_⟩:=BX (en:= .str "done") (v:=v) (me:=me) (ha:=ha) (bg:=((haX ts).length:Int));have lh:=ih.length;rw[aD]at lh;refine⟨_,S46 _ _ ep,gu (gq (j:=1) rfl) ⟨hl,_,rfl,.inl (SqL.of (S46 _ _ eh)),?_⟩⟩;rw[lh];refine⟨r,pa,ts,v,rfl,ra2,plm S46,fun H7 S7=>⟨_,rfl,iL ?_⟩⟩;dsimp only[qb];have S47:=S46.trans S7;have dp':=dpX (vs:=[]) (D:=0) (fun v hv=>nomatch hv) Fi.ok Fi.ns t tm;refine⟨_,⟨_,_,S7 _ _ o,f2⟩,_,rfl,_,S47 _ _ ei4,gu (v:=V.ref ai) (by rw[hys];exact xn zs' _) ⟨_,S47 _ _ eai,gu (gq (j:=1) rfl) ⟨_,S47 _ _ ep,gu (gq (j:=0) rfl) ?_⟩⟩⟩;exact⟨v,_,dp,kvs,msX ts,t.val,rfl,iv.mono (gC.tk S7),ivi.mono (gC.tk S47),S47 _ _ ed,pc,Fi.nd,(Ju (M:=msX ts) (vs:=[]) (fun v hv=>nomatch hv) Fi.ok (fun m h=>h) t tm).1,by lia,fun H9 S9=>q _⟩
open GR.Internal (stP stT)
abbrev Lt:=List (Str×Tok×Zx)
abbrev Lt.kv (l:Lt):List (Key×V):=l.map fun p=>(Sum.inr p.1,V.ref p.2.2)
inductive Al (K:Zp):Lt->List (Str×List Bool)->Prop
 |nil:Al K [] []
 |cons {k:Str} {t:Tok} {q:Zx} {ps:List Bool} {l:Lt} {s:List (Str×List Bool)} (h:∀H:Hp,SqT K H q (ps.map pV)) (r:Al K l s):Al K ((k,t,q)::l) ((k,ps)::s)
theorem Al.go {K:Zp} {h:Str}:∀{l:Lt} {s:List (Str×List Bool)},Al K l s->((s.find? fun p=>decide (p.1=h))=none->jB l.kv (Sum.inr h)=none)/\∀ps,(s.find? fun p=>decide (p.1=h)).map (·.2)=some ps->∃q,jB l.kv (Sum.inr h)=some (.ref q)/\∀H:Hp,SqT K H q (ps.map pV)
 |_,_,.nil=>⟨fun _=>rfl,fun _ e=>(nomatch e)⟩
 |(k,t,q)::l,_,.cons x r=>by
  obtain⟨a,b⟩:=Al.go (h:=h) r;rw[aT];by_cases e:k=h;·subst e;rw[hI rfl,Lt.kv,aC,iX rfl];exact⟨(fun z=>nomatch z),fun ps z=>by cases z;exact⟨q,rfl,x⟩⟩
  ·rw[ik e,Lt.kv,aC,iY (fun z=>e (Sum.inr.inj z))];exact⟨a,b⟩
def vf {P:Zu} {w:Zv} {K:Zp} {mg:Zc} {a:Zx} {n:Nat} {es:Array DictEntry} {l:Lt} (m:mg "STEADY_FORMS"=some (.ref a)) (ha:(a==sysModules)=false) (hl:K.lookup a=some ⟨.type "dict",none,.dict es n,#[]⟩) (he:es.toList=l.map fun p=>⟨PyData.keyHash w.params p.1,.str p.1 p.2.1,.ref p.2.2⟩) (hn:(l.map (·.1)).Nodup) (h:Al K l stT):Dk P w K mg:=⟨a,m,l.kv,ye ha hl he hn,fun k ps e=>by unfold stP at e;exact h.go.2 ps e⟩
def Jz {P:Zu} {w:Zv} {K:Zp} {mg:Zc} (T:Txt K mg) {a:Zx} {n:Nat} {es:Array DictEntry} {t_num t_name t_fn t_call t_let t_rec t_get t_tag t_case t_row t_at t_join t_size t_add t_sub t_less:Tok} {q_fn q_call q_let q_row q_at q_join q_size q_add q_sub q_less:Zx} (m:mg "WORKERS"=some (.ref a)) (ha:(a==sysModules)=false) (hl:K.lookup a=some ⟨.type "dict",none,.dict es n,#[]⟩) (he:es.toList=([("num",t_num,T.d6.a),("name",t_name,T.d7.a),("fn",t_fn,q_fn),("call",t_call,q_call),("let",t_let,q_let),("rec",t_rec,T.d8.a),("get",t_get,T.d9.a),("tag",t_tag,T.d10.a),("case",t_case,T.d11.a),("row",t_row,q_row),("at",t_at,q_at),("join",t_join,q_join),("size",t_size,q_size),("add",t_add,q_add),("sub",t_sub,q_sub),("less",t_less,q_less)]:Lt).map fun p=>⟨PyData.keyHash w.params p.1,.str p.1 p.2.1,.ref p.2.2⟩):Wk P w T:=⟨a,m,_,ye ha hl he (by show(["num","name","fn","call","let","rec","get","tag","case","row","at","join","size","add","sub","less"]:Zd).Nodup;decide+kernel),fun hw=>by
  cases hw with
  |num=>exact⟨_,_,by kernel_rfl,.num,_,rfl⟩
  |nameD _ _=>exact⟨_,_,by kernel_rfl,.name,_,rfl⟩
  |nameH _ _ _=>exact⟨_,_,by kernel_rfl,.name,_,rfl⟩
  |rcd _=>exact⟨_,_,by kernel_rfl,.rcd,_,rfl⟩
  |tag=>exact⟨_,_,by kernel_rfl,.tag,_,_,rfl⟩
  |get _ _ _=>exact⟨_,_,by kernel_rfl,.get,_,_,rfl⟩
  |case _=>exact⟨_,_,by kernel_rfl,.case,_,_,rfl⟩⟩
end K62.Internal
structure PySem.W.Fast:Prop where
 (tw2449865146182209179 tw18022200358036521435 tw627973483154498225 tw10465247217268812590 tw2056464587731838372 tw8593080192742574070 tw14190924759023854993 tw7146881964945540491 tw4220340856800129420 tw2210012884519319314 tw14334098619659273151 tw11648365152976466606 tw7778557114132664491 tw9771208615978185103 tw17040861016656422908 tw15955209567518158738 tw17934962898705296658 tw15731579021076424729 tw24118467969387509 tw2883097917245940056 tw6814775984226908347 tw4422617294025698789 tw2909251693895074459 tw7236549314788347718 tw3401741391960832835 tw18254311841551292893 tw12849561347219415244 tw3732928322322621989 tw11307813471706388992 tw946272585298775641 tw1361172043005243625 tw17704876986495580796 tw2687985791057844598 tw14365986542511484895 tw15849284237359292655 tw2511681336025216480 tw13363378208372403394 tw6473624120401076911 tw6954033337041915359 tw835035990924156059 tw1729667649852553832 tw5444344535585148713 tw11123748167037311112 tw10569938745596225354 tw14237948620320492669 tw4056879210465065868 tw7612265578736099640 tw13927097484252393987 tw17005893007973104654 tw11731438676820789540 tw467893786857582435 tw2498382101974254328 tw3227159532927317250 tw46173624792095174 tw15707198692194022115 tw2152676397871202630 tw16057068596698944392 tw2585913349301296201 tw3232515157081358265 tw17642560108189061080 tw3806415412136540715 tw17266544339245676878 tw6426352255330390461 tw4612305358648290575 tw14838321641095120815 tw810115966934618009 tw3964016149387855179 tw16268549665919287610 tw1602328461310224353 tw7975127280139328401 tw9805524416750205023 tw17281278912230241360 tw1199474753093849160 tw12932201946045330701 tw8901392585690840414 tw6815410615535357314 tw14804281856175598734 tw13166978551274006733 tw15694523685413041844 tw142009214597282044 tw9216891880157799748 tw11204918846257246462 tw1327098354946336679 tw4715083225334418292 tw1159212078779319818 tw10588245622720681357 tw16737102636412789289 tw368355174639168699 tw3978187823609758631 tw863380406582732606 tw7527394312469130711 tw2291239429951107528 tw1219273285872071557 tw14999211353274542381 tw3937753733148600247 tw16736554652159674442 tw7059731148544495280 tw2126212753766598251 tw13510490918307852842 tw5410968701357263723 tw2986801013359602244 tw7438755118707403804 tw11251392681041690503 tw6197905284242062632 tw12402533219788707193 tw15231237258546711361 tw5155974350274539050 tw8805488187796869414 tw15726590069708765170 tw4382758184433608591 tw2375144058220255989 tw8809894781121025437 tw4771561242508888548 tw9094432189838983389 tw6324896502036381593 tw15536228331655128942 tw17169886941021833779 tw3247393691988123530 tw1581434683705024147 tw8985327211907022236 tw12798701214442832572 tw11969337325702761281 tw7651555470435313829 tw3219051323256717918 tw16208157053604319304 tw5580653582969903389 tw2806853130579549858 tw13532380176726660678 tw8540822647614049115 tw5933131013561215508 tw9220993079322185995 tw13423938115639437012 tw5299357195404257612 tw6214241829032850967 tw11630676012771901303 tw6128810640306838812 tw10928032071434136473 tw195238317493428085 tw9920491755810457338 tw10877142790693683689 tw14421593873548993991 tw9303017470968908715 tw2817281787012051771 tw565054383793828056 tw6910956275188321048 tw1078492007355783020 tw16288365480997016891 tw6379093062314206764 tw14331645369051819130 tw10765098232864129659 tw7005797424835455682 tw12205414058483964621 tw10296291696868491616 tw2778229866438725748 tw1826508520855555141 tw5237738658147430232 tw4708858157454546012 tw17904938456376649829 tw12153303402739626971 tw5334617038942992628 tw108015075214480403 tw8201564566472841877 tw11770097489028740612 tw11532694638849431763 tw11911774124880334011 tw1887636278693907392 tw1570453207032949264 tw16362196029803705816 tw5784091877478999224 tw11872608342153581737 tw5575345562225375729 tw2020247240331914641 tw552621039149352018 tw7091935492040041067 tw4764062162798733488 tw13339030641541462359 tw4626041784290419681 tw501866743554424199 tw4435624779409572182 tw16045503800568377179 tw11846687225426525214 tw13476789763643298635 tw7313697482722628968 tw495023303775859471 tw7056049330209002059 tw15452497001151839499 tw11782164821922656438 tw14850197304503574275 tw13725639784225738533 tw15046807984529868924 tw14509767173682609432 tw16259686842902408687 tw4124662851358383334 tw127661754818215851 tw15611251721189694699 tw3473645944977110825 tw1147297679902568358 tw9714373707824990614 tw8273035118149598091 tw9690707187062463809 tw4317391335647405232 tw13722002923305975021 tw3509170818540202027 tw9736832484909490 tw2154850857104854875 tw14230898152628065637 tw17447422890174827826 tw16016038900089789213 tw14962407931432318199 tw1267269839148234453 tw14934947147533473025 tw865054427356550160 tw5282239877444200723 tw17352543960675650323 tw10234101294575882802 tw6142350417231282931 tw16280222582498906198 tw2281805327672107178 tw273141336175018787 tw8918435809434233510 tw5289687391153028888 tw3145380478898388265 tw820923252575590997 tw3820123549450637831 tw4859020719201968126 tw4873775803130194245 tw10269386124811038635 tw7655639621543192068 tw18224747658149513182 tw7995808045715918742 tw7498296116949462854 tw14773692903609462286 tw2917915916982320331 tw18071510203962558488 tw9572477765170729483 tw13416805894375367726 tw17941899469610145630 tw16249642382047140172 tw12925540877097584318 tw15692232258472771824 tw15280518445028235918 tw8115021428986539096 tw15176372123149463725 tw14150315740356450210 tw18324370905495406501 tw434485855391222023 tw8820662909481738452 tw9714622255637444973 tw8307810296831898144 tw5270687305784583550 tw12193657848459576477 tw13553472345413864587 tw8855533610776354780 tw3567859623345610791 tw17964604159612438578 tw16970141972723667949 tw17960210775506684526 tw2085846887400853362 tw9897071523015962952 tw11802560947868886329 tw571619692170733287 tw7244233732765491708 tw8805625344622013828 tw11971678182569307589 tw15816210051107913806 tw5801141447290819807 tw16819638145752484210 tw983359018125020857 tw4294519701960938493 tw7240537360815794206 tw4910171385065995488 tw8593374016877475318 tw3544069075678644125 tw9629123564217494951 tw15021390432482709905 tw16213215855278225998 tw11027320740703651904 tw15473553369305126816 tw16754599081017797348 tw16609544776619536395 tw14627586335468155515 tw9649528905863290962 tw13534288033060150191 tw12105115877098439263 tw13099465786735368048 tw1895486763962517208 tw14888672415588957202 tw15365111617123037210 tw14856460273275185086 tw11387633633342402337 tw6672649196170896484 tw1155758448332159204 tw6171291217644586155 tw5474962225319414448 tw3538596831263207986 tw12155284232929240983 tw420951517944287517 tw17557385287415591865 tw15466253361626110194 tw6001438363661864965 tw4672347644507828456 tw14561294054493941617 tw4954325445871887943 tw15857371940151433108 tw10398818580760345588 tw7986857160429331543 tw17565856819055399044 tw3382708872124604715 tw16263021993751246860 tw17909919904845620781 tw6786683692800625210 tw12216743023688934768 tw12882079939533743708 tw12250247406673708848 tw9210901326473659766 tw13797962027161157665 tw14276129601680968677 tw6256340596797775371 tw434380428066926317 tw11971601834026649080 tw14565491368641114521 tw2818281387509297660 tw12765622468208197695 tw524615797370697946 tw13205816650505306518 tw10744270510735801531 tw4192866282736355168 tw4731590696818499713 tw7241012270237228869 tw2114273458174163174 tw600001824026583718 tw14212006152784322729 tw10484770593740874665 tw18079349651125030155 tw16202622570552591505 tw2898799546090508338 tw12939386374088762395 tw1001897269149342143 tw9729128004621282568 tw1285962055100570805 tw15374624434409039261 tw5541293144108162526 tw12379657116220246210 tw14553764152989231460 tw6972543927332205481 tw11559017562042284368 tw2196667463742175026 tw5033946563245500915 tw17089017410972995221 tw4517224879881926838 tw1503002244047606039 tw11225016398994802232 tw2457989216552114842 tw16811783197621922911 tw12729086298459423711 tw13683878012186465444 tw15966520363407746114 tw9659704891793513282 tw9297890286230846662 tw3810563377620219387 tw4188899231304102437 tw11320413908651312869 tw1424981063393874023 tw13132110858715671217 tw12361243026333677464 tw15156106598600957343 tw3586619056142516539 tw4983763769641509955 tw11617462023216991892 tw563324943423151227 tw7598206799734556455 tw2892363877951150788 tw1960200447628661645 tw8033109904231876446 tw6940531898629562454 tw13848663742577591742 tw12008326909077243086 tw10916936727191894058 tw18145067055776352824 tw121278113652253247 tw9399732661638899745 tw3949156427190114404 tw3286505756618864129 tw9830672005520329743 tw6294529294699185920 tw7735046851492576424 tw6531576098604228652 tw10818331623198152430 tw1742965579629299730 tw18017607312960247941 tw2590142349569082357 tw5828692918157979543 tw14246938882265485476:True)
namespace K62.Internal
open PySem L2.Internal
theorem all_mk {l:PySem.W.OpenLaw} {w:Zv} {K:Zp} {h:Zt} {mg:Zc} {fa fL:Zx} (X:K.In h) (G:h.Ns mainGlobals mg) (hfa:mg "law"=some (.ref fa))
  {u1:Tok} {u2:Tok} {u3:Tok} {p4:Zx} {w4_0 w4_1 w4_2 w4_3 w4_4 w4_5 w4_6 w4_7 w4_8 w4_9 w4_10 w4_11 w4_12 w4_13 w4_14:Tok} {od4:Option Zx} {n4:Nat} {sl4:Array (Option Zz)} {u5:Tok} {u6:Tok} {u7:Tok} {u8:Tok} {u9:Tok} {u10:Tok} {u11:Tok} {u12:Tok}
  {pW:Zx} {nW:Nat} {tW0 tW1 tW2 tW3 tW4 tW5 tW6 tW7 tW8 tW9 tW10 tW11 tW12 tW13 tW14 tW15:Tok} {fW0 fW1 fW2 fW3 fW4 fW5 fW6 fW7 fW8 fW9 fW10 fW11 fW12 fW13 fW14 fW15:Zx}
  {pD:Zx} {nD:Nat} {tD1 tD2 tD3 tD4 tD5 tD6 tD7 tD8 tD9 tD10 tD11:Tok} {qD1 qD2 qD3 qD4 qD5 qD6 qD7 qD8 qD9 qD10 qD11:Zx} {odD1:Option Zx} {nD1:Nat} {slD1:Array (Option Zz)} {uD1_0 uD1_1:Tok} {odD2:Option Zx} {nD2:Nat} {slD2:Array (Option Zz)} {uD2_0 uD2_1:Tok} {odD3:Option Zx} {nD3:Nat} {slD3:Array (Option Zz)} {uD3_0 uD3_1 uD3_2:Tok} {odD4:Option Zx} {nD4:Nat} {slD4:Array (Option Zz)} {uD4_0 uD4_1:Tok} {odD5:Option Zx} {nD5:Nat} {slD5:Array (Option Zz)} {uD5_0 uD5_1:Tok} {odD6:Option Zx} {nD6:Nat} {slD6:Array (Option Zz)} {uD6_0 uD6_1 uD6_2:Tok} {odD7:Option Zx} {nD7:Nat} {slD7:Array (Option Zz)} {uD7_0 uD7_1:Tok} {odD8:Option Zx} {nD8:Nat} {slD8:Array (Option Zz)} {uD8_0:Tok} {odD9:Option Zx} {nD9:Nat} {slD9:Array (Option Zz)} {uD9_0 uD9_1:Tok} {odD10:Option Zx} {nD10:Nat} {slD10:Array (Option Zz)} {uD10_0 uD10_1:Tok} {odD11:Option Zx} {nD11:Nat} {slD11:Array (Option Zz)} {uD11_0 uD11_1:Tok}
  {C1 C2 C3 C4:Zx} {odL anL:Option Zx} {slL:Array (Option Zz)} {ocL kVL dcL pmL cdL ctL:Zz}
  (g1:eQ K mainGlobals "MOST_JOINED"=some (some (.int 60 u1)))
  (g2:eQ K mainGlobals "LETTERS"=some (some (.str "abcdefghijklmnopqrstuvwxyz" u2)))
  (g3:eQ K mainGlobals "FIGURES"=some (some (.str "0123456789" u3)))
  (g4:eQ K mainGlobals "KEPT_WORDS"=some (some (.ref p4)))
  (h4:K.lookup p4=some ⟨.type "tuple",od4,.seq #[.str "def" w4_0,.str "fn" w4_1,.str "call" w4_2,.str "let" w4_3,.str "rec" w4_4,.str "get" w4_5,.str "tag" w4_6,.str "case" w4_7,.str "row" w4_8,.str "at" w4_9,.str "join" w4_10,.str "size" w4_11,.str "add" w4_12,.str "sub" w4_13,.str "less" w4_14] n4,sl4⟩)
  (g5:eQ K mainGlobals "MOST_FIGURES"=some (some (.int 60 u5)))
  (g6:eQ K mainGlobals "MOST_SIGNS"=some (some (.int 12 u6)))
  (g7:eQ K mainGlobals "MOST_DEFINITIONS"=some (some (.int 12 u7)))
  (g8:eQ K mainGlobals "MOST_FIELDS"=some (some (.int 6 u8)))
  (g9:eQ K mainGlobals "MOST_ARMS"=some (some (.int 6 u9)))
  (g10:eQ K mainGlobals "MOST_THINGS"=some (some (.int 8 u10)))
  (g11:eQ K mainGlobals "MOST_PLACES"=some (some (.int 160 u11)))
  (g12:eQ K mainGlobals "MOST_NEST"=some (some (.int 24 u12)))
  (a1:Fm K "parts_of" oY)
  (a2:Fm K "places_in" nK)
  (a3:Fm K "flat" AS)
  (a4:Fm K "first_parts" lU)
  (a5:Fm K "held_value" mE)
  (a6:Fm K "work_num" oZ)
  (a7:Fm K "work_name" nL)
  (a8:Fm K "work_rec" pb)
  (a9:Fm K "work_get" ph)
  (a10:Fm K "work_tag" pj)
  (a11:Fm K "work_case" nM)
  (a12:Fm K "run" EJ)
  (a13:Fm K "words_of" pk)
  (a14:Fm K "is_name" qX)
  (a15:Fm K "is_number" nO)
  (a16:Fm K "made_of" qY)
  (a17:Fm K "read" AU)
  (a18:Fm K "check_count" lV)
  (a19:Fm K "homes_of" pA)
  (a20:Fm K "refuse_twice" lE)
  (a21:Fm K "words_once" mF)
  (a22:Fm K "home_of" qZ)
  (a23:Fm K "root_scopes" lW)
  (a24:Fm K "inner_scopes" lF)
  (a25:Fm K "widened" rf)
  (a26:Fm K "_law_stem" nP)
  (a27:Fm K "_law_words" mG)
  (a28:Fm K "_law_mark" nQ)
  (a29:Fm K "_law_number" lX)
  (a30:Fm K "_law_named" mI)
  (a31:Fm K "_law_form" nR)
  (a32:Fm K "_law_valued" lY)
  (a33:Fm K "_law_unrun" mJ)
  (a34:Fm K "_law_placed" lZ)
  (a35:Fm K "_law_text" nS)
  (a36:Fm K "_law_whole" mK)
  (a37:Fm K "_law_tuples" l6)
  (a38:Fm K "_law_ran" pB)
  (a39:Fm K "_law_told" nT)
  (a40:Fm K "_law_many" nU)
  (a41:Fm K "_law_rec" pE)
  (a42:Fm K "_law_tag" pG)
  (a43:Fm K "_law_got" pH)
  (a44:Fm K "_law_cased" mL)
  (a45:Fm K "_law_next" nV)
  (a46:Fm K "_law_items" mM)
  (a47:Fm K "_law_alike" mO)
  (c1:Cm K "Machine" C1)
  (n1program:dQ K (.ref C1) "program"=some none)
  (n1homes:dQ K (.ref C1) "homes"=some none)
  (n1turns:dQ K (.ref C1) "turns"=some none)
  (n1begun:dQ K (.ref C1) "begun"=some none)
  (n1end:dQ K (.ref C1) "end"=some none)
  (n1meets:dQ K (.ref C1) "meets"=some none)
  (n1had:dQ K (.ref C1) "had"=some none)
  (n1defined:dQ K (.ref C1) "defined"=some none)
  (n1steps:dQ K (.ref C1) "steps"=some none)
  (n1ready:dQ K (.ref C1) "ready"=some none)
  (e48:Mm K C1 "__init__" "Machine.__init__" jP)
  (e49:Mm K C1 "work_program" "Machine.work_program" jd)
  (e50:Mm K C1 "work_steps" "Machine.work_steps" ju)
  (e51:Mm K C1 "begin" "Machine.begin" kJ)
  (e52:Mm K C1 "work_parts" "Machine.work_parts" jv)
  (e53:Mm K C1 "take_ready" "Machine.take_ready" jw)
  (e54:Mm K C1 "finish" "Machine.finish" kC)
  (e55:Mm K C1 "go_into" "Machine.go_into" ke)
  (e56:Mm K C1 "comes" "Machine.comes" kK)
  (c2:Cm K "Run" C2)
  (n2end:dQ K (.ref C2) "end"=some none)
  (n2value:dQ K (.ref C2) "value"=some none)
  (n2meets:dQ K (.ref C2) "meets"=some none)
  (n2had:dQ K (.ref C2) "had"=some none)
  (n2begun:dQ K (.ref C2) "begun"=some none)
  (e57:Mm K C2 "__init__" "Run.__init__" lG)
  (c3:Cm K "Program" C3)
  (n3names:dQ K (.ref C3) "names"=some none)
  (n3roots:dQ K (.ref C3) "roots"=some none)
  (n3rows:dQ K (.ref C3) "rows"=some none)
  (e58:Mm K C3 "__init__" "Program.__init__" jQ)
  (c4:Cm K "Reader" C4)
  (n4words:dQ K (.ref C4) "words"=some none)
  (n4taken:dQ K (.ref C4) "taken"=some none)
  (n4rows:dQ K (.ref C4) "rows"=some none)
  (e59:Mm K C4 "__init__" "Reader.__init__" kg)
  (e60:Mm K C4 "ahead" "Reader.ahead" lH)
  (e61:Mm K C4 "take" "Reader.take" l7)
  (e62:Mm K C4 "pass_over" "Reader.pass_over" jR)
  (e63:Mm K C4 "take_name" "Reader.take_name" jS)
  (e64:Mm K C4 "take_expr" "Reader.take_expr" jT)
  (e65:Mm K C4 "take_row" "Reader.take_row" kh)
  (e66:Mm K C4 "take_form" "Reader.take_form" jU)
  (e67:Mm K C4 "take_steady" "Reader.take_steady" jx)
  (e68:Mm K C4 "take_fields" "Reader.take_fields" jy)
  (e69:Mm K C4 "take_arms" "Reader.take_arms" jV)
  (z_ValueError:eQ K mainGlobals "ValueError"=some none)
  (z_all:eQ K mainGlobals "all"=some none)
  (z_bool:eQ K mainGlobals "bool"=some none)
  (z_dict:eQ K mainGlobals "dict"=some none)
  (z_enumerate:eQ K mainGlobals "enumerate"=some none)
  (z_int:eQ K mainGlobals "int"=some none)
  (z_isinstance:eQ K mainGlobals "isinstance"=some none)
  (z_len:eQ K mainGlobals "len"=some none)
  (z_list:eQ K mainGlobals "list"=some none)
  (z_max:eQ K mainGlobals "max"=some none)
  (z_min:eQ K mainGlobals "min"=some none)
  (z_range:eQ K mainGlobals "range"=some none)
  (z_reversed:eQ K mainGlobals "reversed"=some none)
  (z_str:eQ K mainGlobals "str"=some none)
  (z_sum:eQ K mainGlobals "sum"=some none)
  (z_tuple:eQ K mainGlobals "tuple"=some none)
  (z_zip:eQ K mainGlobals "zip"=some none)
  (w0:eQ K mainGlobals "work_num"=some (some (.ref fW0)))
  (w1:eQ K mainGlobals "work_name"=some (some (.ref fW1)))
  (w5:eQ K mainGlobals "work_rec"=some (some (.ref fW5)))
  (w6:eQ K mainGlobals "work_get"=some (some (.ref fW6)))
  (w7:eQ K mainGlobals "work_tag"=some (some (.ref fW7)))
  (w8:eQ K mainGlobals "work_case"=some (some (.ref fW8)))
  (gW:eQ K mainGlobals "WORKERS"=some (some (.ref pW)))
  (sW:(pW==sysModules)=false)
  (hW:K.lookup pW=some ⟨.type "dict",none,.dict #[⟨PyData.keyHash w.params "num",.str "num" tW0,.ref fW0⟩,⟨PyData.keyHash w.params "name",.str "name" tW1,.ref fW1⟩,⟨PyData.keyHash w.params "fn",.str "fn" tW2,.ref fW2⟩,⟨PyData.keyHash w.params "call",.str "call" tW3,.ref fW3⟩,⟨PyData.keyHash w.params "let",.str "let" tW4,.ref fW4⟩,⟨PyData.keyHash w.params "rec",.str "rec" tW5,.ref fW5⟩,⟨PyData.keyHash w.params "get",.str "get" tW6,.ref fW6⟩,⟨PyData.keyHash w.params "tag",.str "tag" tW7,.ref fW7⟩,⟨PyData.keyHash w.params "case",.str "case" tW8,.ref fW8⟩,⟨PyData.keyHash w.params "row",.str "row" tW9,.ref fW9⟩,⟨PyData.keyHash w.params "at",.str "at" tW10,.ref fW10⟩,⟨PyData.keyHash w.params "join",.str "join" tW11,.ref fW11⟩,⟨PyData.keyHash w.params "size",.str "size" tW12,.ref fW12⟩,⟨PyData.keyHash w.params "add",.str "add" tW13,.ref fW13⟩,⟨PyData.keyHash w.params "sub",.str "sub" tW14,.ref fW14⟩,⟨PyData.keyHash w.params "less",.str "less" tW15,.ref fW15⟩] nW,#[]⟩)
  (gD:eQ K mainGlobals "STEADY_FORMS"=some (some (.ref pD)))
  (sD:(pD==sysModules)=false)
  (hD:K.lookup pD=some ⟨.type "dict",none,.dict #[⟨PyData.keyHash w.params "fn",.str "fn" tD1,.ref qD1⟩,⟨PyData.keyHash w.params "call",.str "call" tD2,.ref qD2⟩,⟨PyData.keyHash w.params "let",.str "let" tD3,.ref qD3⟩,⟨PyData.keyHash w.params "get",.str "get" tD4,.ref qD4⟩,⟨PyData.keyHash w.params "tag",.str "tag" tD5,.ref qD5⟩,⟨PyData.keyHash w.params "at",.str "at" tD6,.ref qD6⟩,⟨PyData.keyHash w.params "join",.str "join" tD7,.ref qD7⟩,⟨PyData.keyHash w.params "size",.str "size" tD8,.ref qD8⟩,⟨PyData.keyHash w.params "add",.str "add" tD9,.ref qD9⟩,⟨PyData.keyHash w.params "sub",.str "sub" tD10,.ref qD10⟩,⟨PyData.keyHash w.params "less",.str "less" tD11,.ref qD11⟩] nD,#[]⟩)
  (hD1:K.lookup qD1=some ⟨.type "tuple",odD1,.seq #[.str "name" uD1_0,.str "expr" uD1_1] nD1,slD1⟩)
  (hD2:K.lookup qD2=some ⟨.type "tuple",odD2,.seq #[.str "expr" uD2_0,.str "expr" uD2_1] nD2,slD2⟩)
  (hD3:K.lookup qD3=some ⟨.type "tuple",odD3,.seq #[.str "name" uD3_0,.str "expr" uD3_1,.str "expr" uD3_2] nD3,slD3⟩)
  (hD4:K.lookup qD4=some ⟨.type "tuple",odD4,.seq #[.str "expr" uD4_0,.str "name" uD4_1] nD4,slD4⟩)
  (hD5:K.lookup qD5=some ⟨.type "tuple",odD5,.seq #[.str "name" uD5_0,.str "expr" uD5_1] nD5,slD5⟩)
  (hD6:K.lookup qD6=some ⟨.type "tuple",odD6,.seq #[.str "expr" uD6_0,.str "expr" uD6_1,.str "expr" uD6_2] nD6,slD6⟩)
  (hD7:K.lookup qD7=some ⟨.type "tuple",odD7,.seq #[.str "expr" uD7_0,.str "expr" uD7_1] nD7,slD7⟩)
  (hD8:K.lookup qD8=some ⟨.type "tuple",odD8,.seq #[.str "expr" uD8_0] nD8,slD8⟩)
  (hD9:K.lookup qD9=some ⟨.type "tuple",odD9,.seq #[.str "expr" uD9_0,.str "expr" uD9_1] nD9,slD9⟩)
  (hD10:K.lookup qD10=some ⟨.type "tuple",odD10,.seq #[.str "expr" uD10_0,.str "expr" uD10_1] nD10,slD10⟩)
  (hD11:K.lookup qD11=some ⟨.type "tuple",odD11,.seq #[.str "expr" uD11_0,.str "expr" uD11_1] nD11,slD11⟩)
  (aL:eQ K mainGlobals "law"=some (some (.ref fL))) (lL:K.lookup fL=some ⟨ocL,odL,.func (eK "law" "law" (lB tV) (kB tV) (gv tV) .none kVL dcL pmL anL cdL ctL),slL⟩) (cL:eL K cdL "law"=true) (kL:eA K (.ref fL)=true):
  ∃fd:Zs,(∀(s:Zy) (v:Zz),BindsTo s fd ⟨[v],[]⟩ [("_law_script",v)])/\∀base:Zt,K.In base->base.Ns mainGlobals mg->sA l.prog w K mg base CX0 150 fa fd ["_law_script"] (yt K):=by have e:=hfa.symm.trans (eS X G aL);cases e;have T:Txt K mg:=⟨u1,eS X G g1,u2,eS X G g2,u3,eS X G g3,p4,eS X G g4,fun _=> .inr ⟨_,_,_,h4,rfl,rfl,HN,(.cons ⟨_,rfl⟩ (.cons ⟨_,rfl⟩ (.cons ⟨_,rfl⟩ (.cons ⟨_,rfl⟩ (.cons ⟨_,rfl⟩ (.cons ⟨_,rfl⟩ (.cons ⟨_,rfl⟩ (.cons ⟨_,rfl⟩ (.cons ⟨_,rfl⟩ (.cons ⟨_,rfl⟩ (.cons ⟨_,rfl⟩ (.cons ⟨_,rfl⟩ (.cons ⟨_,rfl⟩ (.cons ⟨_,rfl⟩ (.cons ⟨_,rfl⟩ .nil)))))))))))))))⟩,u5,eS X G g5,u6,eS X G g6,u7,eS X G g7,u8,eS X G g8,u9,eS X G g9,u10,eS X G g10,u11,eS X G g11,u12,eS X G g12,a1.x X G,a2.x X G,a3.x X G,a4.x X G,a5.x X G,a6.x X G,a7.x X G,a8.x X G,a9.x X G,a10.x X G,a11.x X G,a12.x X G,a13.x X G,a14.x X G,a15.x X G,a16.x X G,a17.x X G,a18.x X G,a19.x X G,a20.x X G,a21.x X G,a22.x X G,a23.x X G,a24.x X G,a25.x X G,a26.x X G,a27.x X G,a28.x X G,a29.x X G,a30.x X G,a31.x X G,a32.x X G,a33.x X G,a34.x X G,a35.x X G,a36.x X G,a37.x X G,a38.x X G,a39.x X G,a40.x X G,a41.x X G,a42.x X G,a43.x X G,a44.x X G,a45.x X G,a46.x X G,a47.x X G,c1.x X G,n1program,n1homes,n1turns,n1begun,n1end,n1meets,n1had,n1defined,n1steps,n1ready,e48.x,c1.k e48.x,e49.x,e50.x,e51.x,e52.x,e53.x,e54.x,e55.x,e56.x,c2.x X G,n2end,n2value,n2meets,n2had,n2begun,e57.x,c2.k e57.x,c3.x X G,n3names,n3roots,n3rows,e58.x,c3.k e58.x,c4.x X G,n4words,n4taken,n4rows,e59.x,c4.k e59.x,e60.x,e61.x,e62.x,e63.x,e64.x,e65.x,e66.x,e67.x,e68.x,e69.x,eT X G z_ValueError,eT X G z_all,eT X G z_bool,eT X G z_dict,eT X G z_enumerate,eT X G z_int,eT X G z_isinstance,eT X G z_len,eT X G z_list,eT X G z_max,eT X G z_min,eT X G z_range,eT X G z_reversed,eT X G z_str,eT X G z_sum,eT X G z_tuple,eT X G z_zip⟩;have z:=(eS X G w0).symm.trans T.d6.m;cases z;have z:=(eS X G w1).symm.trans T.d7.m;cases z;have z:=(eS X G w5).symm.trans T.d8.m;cases z;have z:=(eS X G w6).symm.trans T.d9.m;cases z;have z:=(eS X G w7).symm.trans T.d10.m;cases z;have z:=(eS X G w8).symm.trans T.d11.m;cases z;exact⟨eK "law" "law" (lB tV) (kB tV) (gv tV) .none kVL dcL pmL anL cdL ctL,fun s v=> .of_eq rfl,fun base _ _=>Fy T (vf (l:=[("fn",tD1,qD1),("call",tD2,qD2),("let",tD3,qD3),("get",tD4,qD4),("tag",tD5,qD5),("at",tD6,qD6),("join",tD7,qD7),("size",tD8,qD8),("add",tD9,qD9),("sub",tD10,qD10),("less",tD11,qD11)]) (eS X G gD) sD hD rfl (by show(["fn","call","let","get","tag","at","join","size","add","sub","less"]:Zd).Nodup;decide+kernel) (.cons (fun _=> .inr ⟨_,_,_,hD1,rfl,rfl,ow,(.cons ⟨_,rfl⟩ (.cons ⟨_,rfl⟩ .nil))⟩)<| .cons (fun _=> .inr ⟨_,_,_,hD2,rfl,rfl,ow,(.cons ⟨_,rfl⟩ (.cons ⟨_,rfl⟩ .nil))⟩)<| .cons (fun _=> .inr ⟨_,_,_,hD3,rfl,rfl,qq,(.cons ⟨_,rfl⟩ (.cons ⟨_,rfl⟩ (.cons ⟨_,rfl⟩ .nil)))⟩)<| .cons (fun _=> .inr ⟨_,_,_,hD4,rfl,rfl,ow,(.cons ⟨_,rfl⟩ (.cons ⟨_,rfl⟩ .nil))⟩)<| .cons (fun _=> .inr ⟨_,_,_,hD5,rfl,rfl,ow,(.cons ⟨_,rfl⟩ (.cons ⟨_,rfl⟩ .nil))⟩)<| .cons (fun _=> .inr ⟨_,_,_,hD6,rfl,rfl,qq,(.cons ⟨_,rfl⟩ (.cons ⟨_,rfl⟩ (.cons ⟨_,rfl⟩ .nil)))⟩)<| .cons (fun _=> .inr ⟨_,_,_,hD7,rfl,rfl,ow,(.cons ⟨_,rfl⟩ (.cons ⟨_,rfl⟩ .nil))⟩)<| .cons (fun _=> .inr ⟨_,_,_,hD8,rfl,rfl,wo,(.cons ⟨_,rfl⟩ .nil)⟩)<| .cons (fun _=> .inr ⟨_,_,_,hD9,rfl,rfl,ow,(.cons ⟨_,rfl⟩ (.cons ⟨_,rfl⟩ .nil))⟩)<| .cons (fun _=> .inr ⟨_,_,_,hD10,rfl,rfl,ow,(.cons ⟨_,rfl⟩ (.cons ⟨_,rfl⟩ .nil))⟩)<| .cons (fun _=> .inr ⟨_,_,_,hD11,rfl,rfl,ow,(.cons ⟨_,rfl⟩ (.cons ⟨_,rfl⟩ .nil))⟩)<| .nil)) (Jz T (eS X G gW) sW hW rfl) (qO (st:=tV) lL cL kL)⟩
theorem walk {l:PySem.W.OpenLaw} {q:Zu} {loose:Zd} {XP:(Str->Option Zz)->Zt->Prop} {YP:Zv->Zt->Prop} {d:DefRec} {K:Params->Zp} (hn:l.most=some 63) (hdf:d.params.defaults=[])
  (hY:∀(w:Zv) (h:Zt),YP w h->(K w.params).In h)
  (F:∀(w:Zv) (mg:Zc) (fa:Zx) (h:Zt),(K w.params).In h->h.Ns mainGlobals mg->mg d.name=some (.ref fa)->
   ∃fd:Zs,(∀(s:Zy) (u:Zz),BindsTo s fd ⟨[u],[]⟩ [("_law_script",u)])/\∀base:Zt,(K w.params).In base->base.Ns mainGlobals mg->sA l.prog w (K w.params) mg base CX0 150 fa fd ["_law_script"] (yt (K w.params))):
  PySem.W.WalkO q loose XP YP l.row.toRowW d [] (fun f vs=>PySem.call f vs):=
 L2.Internal.walk_of (n:=63) (k:=150) (x:="_law_script") (CX:=fun _=>CX0) (sp:=fun w=>yt (K w.params)) hn (by decide) hdf ⟨rfl,by decide,by decide⟩ hY F (fun _ _ a ns hl _ hS=>⟨a,ns,rfl,hS,hl,fun _=>rfl⟩) fun _ _ _ _ _ z=>z
end K62.Internal
open PySem PySem.W PyProof.Rows
set_option maxRecDepth 100000 in
set_option maxHeartbeats 0 in
theorem PySem.Challenge.cw_flowkinds_k62_records_and_tags_holds : PySem.Challenge.rw_flowkinds_k62_records_and_tags.Holds := by
 w_on;o_law;k_head;(case hw => w_witness2);k_fill;refine K62.Internal.walk (l:=PySem.Challenge.rw_flowkinds_k62_records_and_tags) rfl rfl (fun w h Y=>PySem.W.kIn_of Y) ?F;case F =>intro w mg fa h KX G hmg;apply K62.Internal.all_mk KX G hmg;all_goals first|(apply K62.Internal.Fm.mk<;>k_is)|(apply K62.Internal.Mm.mk<;>k_is)|(apply K62.Internal.Cm.mk<;>k_is)|k_is|rfl
