import PyProof.Rows.All
import Wide.All
import OpenK.AllK
import Wide.FinOn
import Lean
import PyProof.EqAt
import PyProof.EqKinds
import PyProof.TupleCall
import PyProof.NeKinds
import PySem.Challenge.RW_flowkinds_k64_turns
set_option Elab.async false
set_option linter.all false
set_option maxRecDepth 100000
set_option maxHeartbeats 4000000
set_option genInjectivity false
set_option genSizeOf false
set_option bootstrap.genMatcherCode false
set_option compiler.extract_closed false
theorem gN {c:Prop} {h:Decidable c} (hnc:¬c) {α:Sort u} {t e:α}:(ite c t e)=e:=if_neg hnc
theorem gT {c:Prop} {h:Decidable c} (hc:c) {α:Sort u} {t e:α}:(ite c t e)=t:=if_pos hc
theorem gM {p:Prop} [Decidable p] (h:p):decide p=true:=decide_eq_true h
theorem gQ {p:Prop} [Decidable p] (h:¬p):decide p=false:=decide_eq_false h
theorem gA {p:Prop} (h:p:=by decide+kernel):p:=h
theorem qC:0<=PySem.sizeLine:=by decide
theorem yo:1<=PySem.sizeLine:=by decide
theorem lZ:2<=PySem.sizeLine:=by decide
theorem kP:3<=PySem.sizeLine:=by decide
theorem F9:4<=PySem.sizeLine:=by decide
theorem KA:5<=PySem.sizeLine:=by decide
theorem IG:8<=PySem.sizeLine:=by decide
theorem IV:15<=PySem.sizeLine:=by decide
open List renaming all_cons→aY,all_eq_true→bO,all_map→bB,any_cons→aS,any_eq_true→bh,append_assoc→bT,append_cancel_left→cx,append_nil→aE,cons_append→aT,cons_ne_nil→bP,dropLast_concat_getLast→bM,drop_eq_getElem_cons→bR,drop_eq_nil_iff→bI,drop_length→bY,drop_of_length_le→bQ,drop_zero→cc,eq_nil_of_length_eq_zero→bV,filterMap_cons→ag,filter_append→bN,find?_cons→aR,forall_mem_cons→bW,getD_eq_getElem?_getD→bq,getElem?_append_left→aN,getElem?_append_right→aM,getElem?_cons_succ→bH,getElem?_eq_getElem→bE,getElem?_eq_none→bJ,getElem?_eq_some_iff→au,getElem?_map→aO,getElem?_of_mem→cu,getElem?_set_ne→aw,getElem?_set_self→av,getElem?_zip_eq_some→ck,getLast?_concat→cn,length→aJ,length_append→aQ,length_cons→aA,length_drop→aX,length_dropLast→bc,length_eq_one_iff→bC,length_eq_zero_iff→bL,length_filter_le→bw,length_map→aD,length_nil→aU,length_range→cy,length_reverse→bK,length_singleton→ba,length_take→aK,length_zip→bZ,lookup→aB,lookup_cons→bp,map_append→bo,map_congr_left→bX,map_cons→aC,map_fst_zip→cq,map_map→bF,map_nil→aV,mem_append→ao,mem_append_left→aq,mem_append_right→ax,mem_cons→ak,mem_cons_of_mem→aj,mem_cons_self→ai,mem_iff_getElem?→cj,mem_map→bf,mem_of_getElem?→aP,mem_of_mem_drop→bS,mem_of_mem_take→cw,mem_range→af,mem_singleton→bj,nil_append→bU,nodup_cons→aF,nodup_nil→cg,not_mem_nil→bG,of_mem_zip→aG,range→aa,range_succ_eq_map→bA,replicate→aH,reverse_cons→aZ,set_set→bu,size_toArray→aW,take_add_one→b6,take_length→bx,take_nil→cA,take_of_length_le→b9,zip→bD
open Nat renaming add_assoc→cY,add_sub_cancel→df,add_zero→c9,le_of_eq→cK,le_of_lt→cF,le_of_succ_le_succ→dh,le_refl→cH,le_succ→cO,le_trans→cE,lt_irrefl→cC,lt_of_lt_of_le→cB,lt_succ_of_lt→cP,lt_succ_self→cM,mul_le_mul_right→dj,ne_of_gt→cG,ne_of_lt→cD,not_lt_zero→da,sub_self→cW,succ→cZ,succ_le_succ→di,toDigits→cQ,toDigits_append_toDigits→cU,toDigits_of_lt_base→cR,zero_add→cX,zero_le→cJ
open Option renaming isSome_iff_exists→dt,isSome_map→dw,map_eq_some_iff→dy,map_some→du,some→dm
open PySem.W renaming callWith_K→dU,cellsFrom_some→dX,codeIn→dZ,codeRec_of→eg,emptyDict→dM,findIn→dE,fnOf→dY,hasDictIn→dD,instObj→dz,isFn→dG,keepIn→dO,kia_one→dQ,kitOne→dP,kitx_dict→dS,kitx_list→dR,lookIn→dB,makesIn→dJ,methodCall_KW→dW,methodObj→dA,mg_none_of→eG,mg_of→eF,nsIn→eC,nsOkIn→eB,plainGet→dC,plainGet_of→dF,plainOver→dH,specialIn→dN,subIn→eA,tailIn→eE,takerIn→dI
open PySem.F renaming args_tuple_add_2→eL,entry_tuple_add→eK,plainAttrs_list→eO,plainAttrs_str→eN,slot_dict_getitem→eI,slot_dict_update→eM,slot_list_append→eP,slot_list_pop→eR,slot_str_join→eT,slot_tuple_add→eJ,type_list_append→eQ,type_list_pop→eS,type_str_join→eU
open Bool renaming and_eq_true→eX,and_false→eY,eq_iff_iff→eW,false_ne_true→eV,false_xor→eZ,not_true→fb,true_xor→e8
open Array renaming getElem?_eq_getElem→fg,getElem?_toList→fe,length_toList→fc,toList_append→fh
open Int renaming emod_lt_of_pos→fu,emod_nonneg→fq,eq_ofNat_of_zero_le→fk,natCast_add→fB,natCast_nonneg→fo,ne_of_gt→ft,toNat_natCast→fj,zero_add→fA
open PySem.Heap renaming get?_push_of_some→fE,get?_push_size→fD,get?_update_other→fH,get?_update_self→fG,lt_size→fC,size_push→fF
open PyProof.Rows renaming callWith_type1→fJ,slot_tuple_getitem→fK
open PySem renaming Value→Zz,Shared→Zy,Addr→Zx,Around→Zw,World→Zv,Program→Zu,Heap→Zt,FuncData→Zs,Expr→Zr,Stmt→Zq
open PySem.W renaming Frag→Zp
open PySem renaming wpAny_bind→C5,mainGlobals→K9,wpAny→La,wpAny_pure→Lb,sizeLine_eq→Lc,starEach→Lg,mem_of_lookup→Lj,wpAny_mono→Ll,bootBuiltins→Lm,compareOp→Lp,wpAny_field→Lu,wpAny_seqItems→Lw,wpAny_truthy_bool→Lx,binaryOp→Ly,sysModules→Lz,wpAny_newObj_type→LC,backTo→LF,IsPair→LG,lookup_relabel_local→LI,behindInMarks→LJ,wpAny_holding→LK,wpAny_callSpecial?_slot→LN,sizeLine→LO,Spec→LP,wpAny_setField_rec→LR,wpAny_passesOwn→LV,attributeBase→LW,foldedSetIterable→LY,wpAny_getItem_str_slice→L1,wpAny_Call_Name_kw→L4,call_meets→L5,builtinLookup_eq_fast→L7,wpAny_call_entry→L8,closureFor→L9,codeAny→Me,keywordEach→Mg,sliceBounds→Mh,swapsWith→Ml,tupleKind_room_in1→Mo,wpAny_typeOf→Mq,getattributeRaised→Mu,typeIs_str→Mw,wpAny_assign_Name→Mz,wpAny_pyIter_list→MA
open Prod renaming fst→Ld,snd→LD
open Sum renaming inr→Le,inl→LU
open PySem.PyData renaming keyHash→Lf
open PySem.PassesOwn renaming never→Lh
open PySem.Value renaming ref→Li,bool→LH,none→LQ
open PySem.Str renaming length_append→Lk,join→Lr,ofString→Lv,ofString→Mp
open PySem.Builtin.SmallTypes renaming nextOf→Ln,ownedTupleIsFree→LB
open False renaming elim→Lo
open Ne renaming symm→Lq
open True renaming intro→LA
open PySem.NameKind renaming free→LL,cell→Ma
open PySem.Txt renaming split→LM,slice→L6,slice_le→Mt
open PySem.Builtin.List renaming listExtendWith→LS,listTooLong→Mr
open PySem.F renaming slot_tuple_iterator_next→LX
open PySem.Builtin.Slice renaming slicePlaces→LZ,sliceAdjust→Mi
open PySem.Builtin.Tuple renaming tupleExact→L0
open PySem.Builtin.Dict renaming updateFrom→L3
open Sum.inr renaming inj→Mb
open PySem.Heap renaming SameBut→Mj
open PySem.Calls renaming spliced_cons→Mn
open PySem.Code renaming quiet_builtin→Mv
open PySem.Builtin.Str renaming occurrences→My
abbrev Za:=List (PySem.Addr×PySem.Obj)
abbrev Zb:=PySem.Value->PySem.Shared->Prop
abbrev Zc:=PySem.Str->Option PySem.Value
abbrev Zd:=List PySem.Str
noncomputable section
namespace L2.Internal
def auR (h:True=True:=by rfl):True:=trivial
def auD (h:True:=by decide):True:=trivial
def auI (h:True->True=True:=by intro _;rfl):True:=trivial
def auL (h:True=True\/True:=by first|exact .inl rfl|exact .inr rfl|assumption):True:=trivial
open PySem PySem.Spec PyProof.Rows
abbrev Key:=Sum Int Str
def zp:Key->Zz->Bool
 | .inl k,v=>Value.isInt k v
 | .inr x,v=>Value.isStrOf x v
def keyH (w:Zv):Key->Int
 | .inl k=>hashInt k
 | .inr x=>hashStr w x
def iT:∀{k:Key} {v:Zz},zp k v=true->(∃i t,k=LU i/\v=Value.int i t)\/(∃x t,k=Le x/\v=Value.str x t)
 | .inl i,v,h=>by obtain⟨t,e⟩:=Value.isInt_shape (k:=i) (v:=v) h;exact .inl ⟨i,t,rfl,e⟩
 | .inr x,v,h=>by obtain⟨t,e⟩:=Value.isStrOf_shape (x:=x) (v:=v) h;exact .inr ⟨x,t,rfl,e⟩
def Ab (i:Int) (t:Tok):zp (.inl i) (.int i t)=true:=by simp[zp,Value.isInt]
def rq (x:Str) (t:Tok):zp (.inr x) (.str x t)=true:=by simp[zp,Value.isStrOf]
def Gk (a b:Int):decide ((LU a:Key)=LU b)=(a==b):=by
 by_cases e:a=b;·subst e;simp
 ·have h:¬(LU a:Key)=LU b:=fun q=>e (Sum.inl.inj q);rw[gQ h];exact(beq_eq_false_iff_ne.mpr e).symm
def Gm (a b:Str):decide ((Le a:Key)=Le b)=decide (a=b):=by
 by_cases e:a=b;·subst e;simp
 ·have h:¬(Le a:Key)=Le b:=fun q=>e (Mb q);rw[gQ h,gQ e]
def Gn (a:Int) (b:Str):decide ((LU a:Key)=Le b)=false:=gQ (fun q=>nomatch q)
def Gq (a:Str) (b:Int):decide ((Le a:Key)=LU b)=false:=gQ (fun q=>nomatch q)
def jf (prog:Zu) (w:Zv):PySem.KeyKind prog w Key where
 is:=zp
 hash:=keyH w
 inj:=fun v a b ha hb=>by
  rcases iT ha with⟨i,t,rfl,rfl⟩|⟨x,t,rfl,rfl⟩
  ·rcases iT hb with⟨j,u,rfl,e⟩|⟨y,u,rfl,e⟩;·injection e with e1 _;rw[e1]
   ·exact nomatch e
  ·rcases iT hb with⟨j,u,rfl,e⟩|⟨y,u,rfl,e⟩;·exact nomatch e
   ·injection e with e1 _;rw[e1]
 byValue:=fun k v h=>by rcases iT h with⟨i,t,rfl,rfl⟩|⟨x,t,rfl,rfl⟩<;>rfl
 pyHash:=fun hv h=>by
  rcases iT hv with⟨i,t,rfl,rfl⟩|⟨x,t,rfl,rfl⟩;·exact wpAny_pyHash_int h
  ·exact wpAny_pyHash_str h
 eqBool:=fun hu hv h=>by
  rcases iT hu with⟨i,t,rfl,rfl⟩|⟨x,t,rfl,rfl⟩
  ·rcases iT hv with⟨j,u,rfl,rfl⟩|⟨y,u,rfl,rfl⟩;·rw[Gk]at h;exact wpAny_eqBool_int h
   ·rw[Gn]at h;exact SeqAt.EqAt.int_str i t y u _ _ _ _ h
  ·rcases iT hv with⟨j,u,rfl,rfl⟩|⟨y,u,rfl,rfl⟩;·rw[Gq]at h;exact SeqAt.EqAt.str_int x t j u _ _ _ _ h
   ·rw[Gm]at h;exact wpAny_eqBool_str h
 «strs»:=fun k x t v h=>by
  rcases iT h with⟨i,u,rfl,e⟩|⟨y,u,rfl,e⟩;·exact nomatch e
  ·injection e with e1 _;subst e1;cases v<;>rfl
def wX (prog:Zu) (w:Zv) (i:Int) (t:Tok):(jf prog w).is (.inl i) (.int i t)=true:=Ab i t
def wY (prog:Zu) (w:Zv) (x:Str) (t:Tok):(jf prog w).is (.inr x) (.str x t)=true:=rq x t
end L2.Internal
namespace L2.Internal
open PySem PySem.Spec PyProof.Rows
set_option genInjectivity true in
inductive V where
 |non|bl (b:Bool)|int (i:Int)|str (x:Str)|byt (b:Array UInt8)|flt (b:UInt64)|ref (a:Zx)|ty (n:String)
 deriving DecidableEq
def iQ:V->Zz->Prop
 | .non,u=>u=LQ
 | .bl b,u=>u=LH b
 | .int i,u=>∃t,u=Value.int i t
 | .str x,u=>∃t,u=Value.str x t
 | .byt b,u=>∃t,u=Value.bytes b t
 | .flt b,u=>∃t,u=Value.float b t
 | .ref a,u=>u=Li a
 | .ty n,u=>u=Value.type n
abbrev iR:List V->List Zz->Prop:=Paired iQ
theorem iR.length {xs:List V} {us:List Zz} (r:iR xs us):xs.length=us.length:=Paired.length r
theorem iR.get:∀{xs:List V} {us:List Zz} {i:Nat} {x:V},iR xs us->xs[i]?=some x->∃u,us[i]?=some u/\iQ x u
 |_,_,_,_,.nil,e=>by simp at e
 |_,_,0,_,.cons r _,e=>by simp at e;subst e;exact⟨_,rfl,r⟩
 |_,_,i+ 1,x,.cons _ t,e=>by obtain⟨u,h1,h2⟩:=iR.get (i:=i) (x:=x) t (by simpa using e);exact⟨u,by simpa using h1,h2⟩
theorem iR.set {x:V} {u:Zz} (r:iQ x u):∀{xs:List V} {us:List Zz} (i:Nat),iR xs us->iR (xs.set i x) (us.set i u)
 |_,_,_,.nil=> .nil
 |_,_,0,.cons _ t=> .cons r t
 |_,_,i+ 1,.cons q t=> .cons q (iR.set r i t)
theorem iR.append:∀{xs ys:List V} {us ws:List Zz},iR xs us->iR ys ws->iR (xs++ys) (us++ws)
 |_,_,_,_,.nil,s=>s
 |_,_,_,_,.cons r t,s=> .cons r (iR.append t s)
theorem iR.take:∀{xs:List V} {us:List Zz} (n:Nat),iR xs us->iR (xs.take n) (us.take n)
 |_,_,0,_=> .nil
 |_,_,_+ 1,.nil=> .nil
 |_,_,n+ 1,.cons r t=> .cons r (iR.take n t)
theorem iR.drop:∀{xs:List V} {us:List Zz} (n:Nat),iR xs us->iR (xs.drop n) (us.drop n)
 |_,_,0,r=>r
 |_,_,_+ 1,.nil=> .nil
 |_,_,n+ 1,.cons _ t=>iR.drop n t
def um:Option V->Option Zz->Prop
 |some v,some u=>iQ v u
 |none,none=>True
 |_,_=>False
def KV {κ:Type}:List (κ×V)->List (κ×Zz)->Prop:=Paired fun(p:κ×V) (q:κ×Zz)=>p.1=q.1/\iQ p.2 q.2
def kV:Key->V
 | .inl i=> .int i
 | .inr x=> .str x
inductive HO where
 |lst (xs:List V)
 |tup (xs:List V)
 |dK (kvs:List (Key×V))|dT (kvs:List (List Key×V))
 |set (S:Int->Bool) (n:Nat)
 |ins (C dx:Zx) (fs:List (Str×V))
 |own (x:Zx)
 |xd (fs:List (Str×V))
 |met (f x:Zx)
 |rng (lo hi:Int)
 |frz (o:Obj) (u:HO)
 |tbl (ps:Array Zz)
 |ext (φ:Zt->Prop)
abbrev Hp:=Zx->Option HO
def yp (h:Zt) (a:Zx) (items:Array Zz):Prop:=∃o,h.get? a=some o/\o.cls= .type "tuple"/\∃n,o.data= .seq items n/\o.dict=none
def yp.tup {h:Zt} {a:Zx} {items:Array Zz}:yp h a items->IsTup h a items
 |⟨o,h1,h2,n,h3,_⟩=>⟨o,h1,h2,n,h3⟩
def yp.lt {h:Zt} {a:Zx} {items:Array Zz} (p:yp h a items):a<h.objs.size:=by obtain⟨o,e,_⟩:=p;exact fC e
def yp.new (h:Zt) (items:Array Zz):yp (h.push {cls:= .type "tuple",data:= .seq items}) h.objs.size items:=⟨_,fD _ rfl,rfl,_,rfl,rfl⟩
def upd (H:Hp) (a:Zx) (o:HO):Hp:=fun b=>if b=a then some o else H b
def fS {H:Hp} {a:Zx} {o:HO}:upd H a o a=some o:=by unfold upd;rw[gT rfl]
def f9 {H:Hp} {a b:Zx} {o:HO} (h:b≠a):upd H a o b=H b:=by unfold upd;rw[gN h]
def uo {H:Hp} {a:Zx} {o u:HO}:upd (upd H a o) a u=upd H a u:=by funext b;unfold upd;split<;>rfl
def kU {H:Hp} {a b:Zx} {o u:HO} (h:H a=some o) (h':H b=some u) (d:o≠u):a≠b:=by intro e;subst e;rw[h]at h';exact d (dm.inj h')
def fZ {H:Hp} {a b:Zx} {o:HO} (h:H a=some o) (h':H b=none):a≠b:=by intro e;subst e;rw[h]at h';cases h'
section
variable (P:Zu) (w:Zv)
def jL (H:Hp) (h:Zt) (a:Zx):HO->Prop
 | .lst xs=>xs.length<=sizeLine/\∃(its:List Zz) (n:Nat),iR xs its/\h.get? a=some {cls:= .type "list",data:= .seq its.toArray n}
 | .tup xs=>xs.length<=sizeLine/\∃its:List Zz,iR xs its/\yp h a its.toArray
 | .dK kvs=>kvs.length<=sizeLine/\(a==Lz)=false/\∃vs,KV kvs vs/\h.DictOf (jf P w) a vs
 | .dT kvs=>kvs.length<=sizeLine/\(a==Lz)=false/\∃xs:List (List Key×Zx×Zz),
   Paired (fun(p:List Key×V) (q:List Key×Zx×Zz)=>p.1=q.1/\H q.2.1=some (.tup (p.1.map kV))/\iQ p.2 q.2.2) kvs xs/\
   ∃o es ep,h.get? a=some o/\o.ExactDict/\o.data= .dict es ep/\es.toList=xs.map (entryOfKey (tupleKind (jf P w)))/\(xs.map (·.1)).Nodup
 | .set S n=>h.SetOf (intKind P w) a S n
 | .ins C dx fs=>H dx=some (.own a)/\fs.length<=1000/\dx≠a/\h.get? a=some (dz C dx)/\
   ∃mA,h.Ns1 dx mA/\(∀f,um (fs.lookup f) (mA f))/\PySem.Within mA (fs.map (·.1))
 | .own _=>∃o,h.get? a=some o
 | .xd fs=>∃mA,h.Ns1 a mA/\∀f,um (fs.lookup f) (mA f)
 | .rng lo hi=>∃t u v,h.get? a=some {cls:= .type "range",data:= .fields #[.int lo t,.int hi u,.int 1 v]}
 | .frz o u=>h.get? a=some o/\jL H h a u
 | .tbl ps=>h.get? a=some {cls:= .none,data:= .fields ps}
 | .met f x=>h.get? a=some (dA (.ref f) (.ref x))
 | .ext φ=>φ h/\(∃o,h.get? a=some o)/\∀h1 h2:Zt,φ h1->(∀o,h1.get? a=some o->h2.get? a=some o)->φ h2
def HOk (H:Hp) (h:Zt):Prop:=∀a o,H a=some o->jL P w H h a o
end
section
variable {P:Zu} {w:Zv} {H H':Hp} {h h':Zt} {a:Zx} {o:HO}
theorem jL.lt (x:jL P w H h a o):a<h.objs.size:=by
 cases o with
 |lst xs=>obtain⟨_,_,_,_,e⟩:=x;exact fC e
 |tup xs=>obtain⟨_,_,_,p⟩:=x;exact p.lt
 |dK kvs=>obtain⟨_,_,_,_,o,_,_,e,_⟩:=x;exact fC e
 |dT kvs=>obtain⟨_,_,_,_,o,_,_,e,_⟩:=x;exact fC e
 |set S n=>obtain⟨o,_,_,_,e,_⟩:=x;exact fC e
 |ins C dx fs=>obtain⟨_,_,_,e,_⟩:=x;exact fC e
 |own y=>obtain⟨_,e⟩:=x;exact fC e
 |xd fs=>obtain⟨_,⟨_,_,_,e,_⟩,_⟩:=x;exact fC e
 |rng lo hi=>obtain⟨_,_,_,e⟩:=x;exact fC e
 |frz ob u=>obtain⟨e,_⟩:=x;exact fC e
 |tbl ps=>exact fC (show h.get? a=some _ from x)
 |met f y=>exact fC (show h.get? a=some _ from x)
 |ext φ=>obtain⟨_,⟨_,e⟩,_⟩:=x;exact fC e
theorem Paired.mapP {α β:Type} {F G:α->β->Prop}:∀{l₁:List α} {l₂:List β},Paired F l₁ l₂->(∀a b,F a b->G a b)->Paired G l₁ l₂
 |_,_,.nil,_=> .nil
 |_,_,.cons r t,f=> .cons (f _ _ r) (Paired.mapP t f)
def jL.stay (x:jL P w H h a o) (k:∀b u,(b=a\/H b=some (.own a))->h.get? b=some u->h'.get? b=some u)
  (ho:∀b,H b=some (.own a)->H' b=some (.own a)) (ht:∀b xs,H b=some (.tup xs)->H' b=some (.tup xs)):jL P w H' h' a o:=by
 induction o with
 |lst xs=>obtain⟨z,its,n,r,e⟩:=x;exact⟨z,its,n,r,k _ _ (.inl rfl) e⟩
 |tup xs=>obtain⟨z,its,r,ob,e,c⟩:=x;exact⟨z,its,r,ob,k _ _ (.inl rfl) e,c⟩
 |dK kvs=>obtain⟨z,y,vs,r,ob,es,ep,e,c⟩:=x;exact⟨z,y,vs,r,ob,es,ep,k _ _ (.inl rfl) e,c⟩
 |dT kvs=>obtain⟨z,y,xs,r,ob,es,ep,e,c⟩:=x;exact⟨z,y,xs,Paired.mapP r fun p q z=>⟨z.1,ht _ _ z.2.1,z.2.2⟩,ob,es,ep,k _ _ (.inl rfl) e,c⟩
 |set S n=>obtain⟨ob,es,ep,t,e,c⟩:=x;exact⟨ob,es,ep,t,k _ _ (.inl rfl) e,c⟩
 |ins C dx fs=>obtain⟨d,z,ne,e,mA,⟨od,es,ep,e2,c⟩,r⟩:=x;exact⟨ho _ d,z,ne,k _ _ (.inl rfl) e,mA,⟨od,es,ep,k _ _ (.inr d) e2,c⟩,r⟩
 |own y=>obtain⟨ob,e⟩:=x;exact⟨ob,k _ _ (.inl rfl) e⟩
 |xd fs=>obtain⟨mA,⟨od,es,ep,e,c⟩,r⟩:=x;exact⟨mA,⟨od,es,ep,k _ _ (.inl rfl) e,c⟩,r⟩
 |rng lo hi=>obtain⟨t,u,v,e⟩:=x;exact⟨t,u,v,k _ _ (.inl rfl) e⟩
 |frz ob u ih=>obtain⟨e,q⟩:=x;exact⟨k _ _ (.inl rfl) e,ih q⟩
 |tbl ps=>have e:h.get? a=some {cls:= .none,data:= .fields ps}:=x;show h'.get? a=some {cls:= .none,data:= .fields ps};exact k a _ (.inl rfl) e
 |met f y=>have e:h.get? a=some (dA (.ref f) (.ref y)):=x;show h'.get? a=some (dA (.ref f) (.ref y));exact k a _ (.inl rfl) e
 |ext φ=>obtain⟨p,⟨o,e⟩,st⟩:=x;exact⟨st _ _ p fun o q=>k _ _ (.inl rfl) q,⟨o,k _ _ (.inl rfl) e⟩,st⟩
theorem HOk.lt (x:HOk P w H h) (e:H a=some o):a<h.objs.size:=(x a o e).lt
def HOk.fresh (x:HOk P w H h) (e:h.objs.size<=a):H a=none:=by
 cases q:H a with
 |none=>rfl
 |some u=>exact absurd (cB (x.lt q) e) (cC _)
def HOk.kept (x:HOk P w H h) (k:∀b u,h.get? b=some u->h'.get? b=some u):HOk P w H h':=fun a o e=>
 (x a o e).stay (fun b u _ q=>k b u q) (fun _ q=>q) fun _ _ q=>q
def HOk.laid (x:HOk P w H h) (k:∀b u,h.get? b=some u->h'.get? b=some u) (hp:h.objs.size<=a) (new:jL P w (upd H a o) h' a o):HOk P w (upd H a o) h':=fun b u e=>by
 have hn:=x.fresh hp;by_cases hb:b=a;·subst hb;rw[fS]at e;cases e;exact new
 ·rw[f9 hb]at e;exact(x b u e).stay (fun c v _ q=>k c v q) (fun c q=>by rw[f9 (fZ q hn)];exact q) fun c xs q=>by rw[f9 (fZ q hn)];exact q
end
def Rd (H:Hp) (a:Zx) (u:HO):Prop:=H a=some u\/∃o,H a=some (.frz o u)
def Rd.ok {P:Zu} {w:Zv} {H:Hp} {h:Zt} {a:Zx} {u:HO} (r:Rd H a u) (x:HOk P w H h):jL P w H h a u:=by
 rcases r with r|⟨o,r⟩;·exact x a u r
 ·obtain⟨_,q⟩:=x a _ r;exact q
def Mut:Option HO->Prop
 |some (.lst _)=>True
 |some (.dK _)=>True
 |some (.dT _)=>True
 |some (.set _ _)=>True
 |some (.ins _ _ _)=>True
 |some (.ext _)=>True
 |_=>False
section
variable {P:Zu} {w:Zv} {H:Hp} {h h':Zt} {x e:Zx} {o':HO}
def HOk.write (ok:HOk P w H h) (mu:Mut (H x)) (he:e=x\/H e=some (.own x)) (k:∀b u,b≠e->h.get? b=some u->h'.get? b=some u) (heo:∃u,h'.get? e=some u)
  (new:jL P w (upd H x o') h' x o'):HOk P w (upd H x o') h':=fun b u q=>by
 have nown:∀c y,H c=some (.own y)->c≠x:=fun c y r z=>by subst z;rw[r]at mu;exact mu
 have ntup:∀c xs,H c=some (.tup xs)->c≠x:=fun c xs r z=>by subst z;rw[r]at mu;exact mu
 by_cases hb:b=x;·subst hb;rw[fS]at q;cases q;exact new
 ·rw[f9 hb]at q;by_cases hbe:b=e
  ·have q':H b=some (.own x):=by
    rcases he with z|z;·exact absurd (hbe.trans z) hb
    ·rw[hbe];exact z
   rw[q]at q';cases q';obtain⟨v,hv⟩:=heo;exact⟨v,by rw[hbe];exact hv⟩
  ·refine(ok b u q).stay (fun c v hc r=>k c v ?_ r) (fun c r=>by rw[f9 (nown c b r)];exact r) fun c xs r=>by rw[f9 (ntup c xs r)];exact r
   rcases hc with rfl|hc;·exact hbe
   ·rintro rfl;rcases he with z|z;·exact nown c b hc z
    ·rw[hc]at z;cases z;exact hb rfl
end
structure Un (fs ex:List Zx) (H H':Hp) (h h':Zt):Prop where
 keep:∀b o,h.get? b=some o->H b=none->b∉fs->b∉ex->h'.get? b=some o
 slot:∀b o,h.get? b=some o->H b=none->b∈fs->b∉ex->∃sl,h'.get? b=some {o with slots:=sl}
 free:∀b o,h.get? b=some o->H b=none->b∉ex->H' b=none
 there:∀b o,h.get? b=some o->b∉ex->∃o',h'.get? b=some o'
 tups:∀b xs,H b=some (.tup xs)->H' b=some (.tup xs)
 frzs:∀b o u,H b=some (.frz o u)->H' b=some (.frz o u)
 tbls:∀b ps,H b=some (.tbl ps)->∃more,H' b=some (.tbl (ps++more))
section
variable {fs fs' ex ex':List Zx} {H H1 H2:Hp} {h h1 h2 h':Zt} {a x e:Zx} {o:HO}
def Un.any (u:Un fs ex H H1 h h1) {b:Zx} {ob:Obj} (q:h.get? b=some ob) (n:H b=none) (hx:b∉ex):∃sl,h1.get? b=some {ob with slots:=sl}:=by
 by_cases hb:b∈fs;·exact u.slot b ob q n hb hx
 ·exact⟨ob.slots,u.keep b ob q n hb hx⟩
def Un.trans (a:Un fs ex H H1 h h1) (b:Un fs ex H1 H2 h1 h2):Un fs ex H H2 h h2 where
 keep:=fun c ob q n hc hx=>b.keep c ob (a.keep c ob q n hc hx) (a.free c ob q n hx) hc hx
 slot:=fun c ob q n hc hx=>by obtain⟨sl,e1⟩:=a.slot c ob q n hc hx;obtain⟨sl',e2⟩:=b.slot c _ e1 (a.free c ob q n hx) hc hx;exact⟨sl',e2⟩
 free:=fun c ob q n hx=>by obtain⟨o',e1⟩:=a.there c ob q hx;exact b.free c o' e1 (a.free c ob q n hx) hx
 there:=fun c ob q hx=>by obtain⟨o',e1⟩:=a.there c ob q hx;exact b.there c o' e1 hx
 tups:=fun c xs q=>b.tups c xs (a.tups c xs q)
 frzs:=fun c ob xs q=>b.frzs c ob xs (a.frzs c ob xs q)
 tbls:=fun c ps q=>by obtain⟨m1,e1⟩:=a.tbls c ps q;obtain⟨m2,e2⟩:=b.tbls c _ e1;exact⟨m1++m2,by rw[e2,Array.append_assoc]⟩
def Un.kept (k:∀b u,h.get? b=some u->h'.get? b=some u):Un fs ex H H h h':=
 ⟨fun b ob q _ _ _=>k b ob q,fun b ob q _ _ _=>⟨ob.slots,k b ob q⟩,fun _ _ _ n _=>n,fun b ob q _=>⟨ob,k b ob q⟩,fun _ _ q=>q,fun _ _ _ q=>q,fun _ ps q=>⟨#[],by rw[q];simp⟩⟩
def Un.refl:Un fs ex H H h h:=Un.kept fun _ _ q=>q
def Un.laid (k:∀b u,h.get? b=some u->h'.get? b=some u) (hp:h.objs.size<=a) (hn:H a=none):Un fs ex H (upd H a o) h h' where
 keep:=fun b u q _ _ _=>k b u q
 slot:=fun b u q _ _ _=>⟨u.slots,k b u q⟩
 free:=fun b u q n _=>by rw[f9 (cD (cB (fC q) hp))];exact n
 there:=fun b u q _=>⟨u,k b u q⟩
 tups:=fun b xs q=>by rw[f9 (fZ q hn)];exact q
 frzs:=fun b u xs q=>by rw[f9 (fZ q hn)];exact q
 tbls:=fun b ps q=>⟨#[],by rw[f9 (fZ q hn),q];simp⟩
def Un.write (mu:Mut (H x)) (he:e=x\/H e=some (.own x)) (k:∀b u,b≠e->h.get? b=some u->h'.get? b=some u) (heo:∃u,h'.get? e=some u):Un fs ex H (upd H x o) h h':=by
 have hx:∀b,H b=none->b≠x:=fun b n z=>by subst z;rw[n]at mu;exact mu
 have hb:∀b,H b=none->b≠e:=fun b n z=>by
  subst z;rcases he with r|r;·exact hx b n r
  ·rw[n]at r;cases r
 have hm:∀b u,H b=some u->¬Mut (some u)->b≠x:=fun b u q nm z=>by subst z;rw[q]at mu;exact nm mu
 refine⟨fun b u q n _ _=>k b u (hb b n) q,fun b u q n _ _=>⟨u.slots,k b u (hb b n) q⟩,fun b u q n _=>by rw[f9 (hx b n)];exact n,fun b u q _=>?_,
  fun b xs q=>by rw[f9 (hm b _ q fun z=>z)];exact q,fun b u xs q=>by rw[f9 (hm b _ q fun z=>z)];exact q,fun b ps q=>⟨#[],by rw[f9 (hm b _ q fun z=>z),q];simp⟩⟩;by_cases hbe:b=e;·subst hbe;exact heo
 ·exact⟨u,k b u hbe q⟩
end
def trk (h:Zt) (H:Hp):List Zx:=(aa h.objs.size).filter fun a=>(H a).isSome
def Cj (h:Zt) (H:Hp):Zt:=PySem.W.hideAll h (trk h H)
def Ac (h:Zt) (H:Hp):(Cj h H).objs.size=h.objs.size:=PySem.W.hideAll_size _ _
def Cn {h:Zt} {H:Hp} {b:Zx} {o:Obj} (e:h.get? b=some o) (n:H b=none):(Cj h H).get? b=some o:=
 PySem.W.hideAll_get _ e fun hm=>by have q:(H b).isSome=true:=(List.mem_filter.mp hm).2;rw[n]at q;simp at q
def Ei {h:Zt} {H:Hp} {b:Zx} {o:Obj} (e:(Cj h H).get? b=some o):h.get? b=some o/\H b=none:=by
 have e':h.get? b=some o:=PySem.W.of_hideAll (trk h H) e;refine⟨e',?_⟩
 cases q:H b with
 |none=>rfl
 |some x=>have hm:b∈trk h H:=List.mem_filter.mpr ⟨af.mpr (fC e'),by simp[q]⟩;have z:(Cj h H).get? b=none:=PySem.W.hideAll_none (trk h H) hm;rw[z]at e;cases e
structure Mod (K:Zp) (mg:Zc) (base:Zt):Prop where
 kin:K.In base
 glob:base.Ns K9 mg
 blt:∃mb,base.Ns builtinsNs mb/\∀x:Str,x≠"__name__"->mb x=Lm x
 nolimit:base.NoLimit
structure Cx where
 prog:Zu
 w:Zv
 K:Zp
 mg:Str->Option Zz
 base:Zt
 A:Zw
 N:List Str
 s₀:Zy
 H₀:Hp
 env:Env
 outer:List Env
 stack:List Env
 ex:List Zx
 fn:Str->Bool
 calm:Bool
 pn:Za
 xe:Zz->Zy->Prop
def frs (l:List Env):List Zx:=l.filterMap (·.frame)
abbrev Cx.fs (X:Cx):List Zx:=frs X.outer
def Vis (sc:Scope) (x:Str):Prop:=sc.names.lookup x=some .local\/sc.names.lookup x=some .cell\/sc.names.lookup x=some .free
def Loc (sc:Scope) (x:Str):Prop:=sc.names.lookup x=some .local\/sc.names.lookup x=some .cell
def Look (env:Env) (h:Zt) (m:Zc) (x:Str) (u:Zz):Prop:=
 (env.kindOf x=some .local/\m x=some u)\/((env.kindOf x=some .cell\/env.kindOf x=some .free)/\∃c,env.cells.lookup x=some c/\h.IsCell c (some u))
structure Cx.Ok (X:Cx):Prop where
 mod:Mod X.K X.mg X.base
 kind:X.env.scope.kind= .function
 glob:X.env.globals=K9
 blt:X.env.builtins=builtinsNs
 above:X.s₀.heap.objs.size<=X.env.locals
 inj:∀x y c,X.env.cells.lookup x=some c->X.env.cells.lookup y=some c->x=y
 has:∀x,(X.env.kindOf x=some .cell\/X.env.kindOf x=some .free)->∃c,X.env.cells.lookup x=some c
 cab:∀x c,X.fn x=true->X.env.cells.lookup x=some c->X.s₀.heap.objs.size<=c
 hd:X.calm=true->X.A.handled=none
 frames:X.A.frames=some X.stack
 stk:X.stack=X.outer\/(X.stack=X.env::X.outer/\X.env.frame=some X.env.locals)
 exf:∀b∈X.ex,b≠X.env.locals/\∀x c,X.env.cells.lookup x=some c->c≠b
 bs:∀b o,X.base.get? b=some o->X.s₀.heap.get? b=some o/\X.H₀ b=none
 bsz:X.base.objs.size<=X.s₀.heap.objs.size
 noex:∀b o,X.base.get? b=some o->b∉X.ex
 exfs:∀b∈X.ex,b∉X.fs
 funs:X.s₀.heap.FunFrames X.base X.outer
 frf:∀b∈X.fs,X.H₀ b=none
structure Inv (X:Cx) (pz:Za) (σ:List (Option V)) (H:Hp) (s:Zy):Prop where
 ok:X.Ok
 os:s.os=X.s₀.os
 bare:AllBare s.gens
 base:Un X.fs X.ex X.H₀ H X.s₀.heap s.heap
 loc:∃m,s.heap.Ns X.env.locals m/\∀(i:Nat) (x:Str) (v:V),X.N[i]?=some x->σ[i]?=some (some v)->Vis X.env.scope x->∃u,iQ v u/\Look X.env s.heap m x u
 cell:∀x c,X.env.cells.lookup x=some c->∃v,s.heap.IsCell c v
 free:H X.env.locals=none
 freeC:∀x c,X.env.cells.lookup x=some c->H c=none
 pin:∀p∈X.pn++pz,s.heap.get? p.1=some p.2/\H p.1=none/\p.1≠X.env.locals/\p.1∉X.fs/\∀v,p.2.data≠ .cell v
 hok:HOk X.prog X.w H s.heap
 len:σ.length=X.N.length
section
variable {X:Cx} {pz:Za} {σ:List (Option V)} {H H':Hp} {s:Zy} {h':Zt}
def Cx.Ok.nofr (ok:X.Ok) {b:Zx} {o:Obj} (e:X.base.get? b=some o):b∉X.fs:=fun hb=>by have:=(ok.funs.mem hb).1;rw[e]at this;cases this
theorem Inv.bs (I:Inv X pz σ H s):∀b o,X.base.get? b=some o->s.heap.get? b=some o/\H b=none:=fun b o e=>
 ⟨I.base.keep b o (I.ok.bs b o e).1 (I.ok.bs b o e).2 (I.ok.nofr e) (I.ok.noex b o e),I.base.free b o (I.ok.bs b o e).1 (I.ok.bs b o e).2 (I.ok.noex b o e)⟩
def Inv.bk (I:Inv X pz σ H s):∀b o,X.base.get? b=some o->s.heap.get? b=some o:=fun b o e=>(I.bs b o e).1
theorem Inv.mod (I:Inv X pz σ H s):Mod X.K X.mg X.base:=I.ok.mod
def Inv.kIn (I:Inv X pz σ H s):X.K.In s.heap:=I.ok.mod.kin.keeps I.bk
theorem Inv.lt (I:Inv X pz σ H s):X.env.locals<s.heap.objs.size:=let⟨_,hn,_⟩:=I.loc;hn.lt
def Inv.sz (I:Inv X pz σ H s):X.s₀.heap.objs.size<=s.heap.objs.size:=cE I.ok.above (cF I.lt)
def Inv.nofs (I:Inv X pz σ H s) {a:Zx} (h:s.heap.objs.size<=a):a∉X.fs:=fun hb=>by obtain⟨_,o,ho,_⟩:=I.ok.funs.mem hb;exact absurd (cB (fC ho) (cE I.sz h)) (cC _)
def Inv.cne (I:Inv X pz σ H s):∀x c,X.env.cells.lookup x=some c->c≠X.env.locals:=fun x c e z=>by obtain⟨v,o,ho,hd⟩:=I.cell x c e;obtain⟨m,⟨o',es,ep,ho',hd',_⟩,_⟩:=I.loc;rw[z,ho']at ho;cases ho;rw[hd']at hd;cases hd
theorem Inv.funs (I:Inv X pz σ H s):s.heap.FunFrames X.base X.outer:=by
 have all:∀(l:List Env),(∀b∈frs l,b∈X.fs)->X.s₀.heap.FunFrames X.base l->s.heap.FunFrames X.base l:=by
  intro l
  induction l with
  |nil=>intro _ _;trivial
  |cons env r ih=>intro hs hl;obtain⟨hk,⟨L,o,hf,hn,ho,hd⟩,hr⟩:=hl;have hL:L∈X.fs:=hs L (by unfold frs;rw[ag,hf];exact ai);obtain⟨sl,e⟩:=I.base.slot L o ho (I.ok.frf L hL) hL fun z=>I.ok.exfs L z hL;exact⟨hk,⟨L,_,hf,hn,e,hd⟩,ih (fun b hb=>hs b (by unfold frs;rw[ag,hf];exact aj _ hb)) hr⟩
 exact all X.outer (fun _ hb=>hb) I.ok.funs
theorem Inv.stack (I:Inv X pz σ H s):s.heap.FunFrames X.base X.stack:=by
 rcases I.ok.stk with e|⟨e,hf⟩;·rw[e];exact I.funs
 ·rw[e];obtain⟨m,hn,_⟩:=I.loc;refine .cons (by rw[I.ok.kind];decide) hf hn ?_ I.funs;exact Heap.get?_none_of_le (cE I.ok.bsz I.ok.above)
def Inv.stkSub (I:Inv X pz σ H s):∀b∈frs X.stack,b∈X.env.locals::X.fs:=fun b hb=>by
 rcases I.ok.stk with e|⟨e,hf⟩;·rw[e]at hb;exact aj _ hb
 ·rw[e]at hb;unfold frs at hb;rw[ag,hf]at hb;exact hb
def Inv.stkFree (I:Inv X pz σ H s):∀b∈frs X.stack,H b=none:=fun b hb=>by
 rcases ak.mp (I.stkSub b hb)with e|hb;·rw[e];exact I.free
 ·obtain⟨_,o,ho,_⟩:=I.ok.funs.mem hb;exact I.base.free b o ho (I.ok.frf b hb) fun z=>I.ok.exfs b z hb
def Inv.step {g':Array GenState} {t':Nat} {d':Drawn} {ch:List Zx} (I:Inv X pz σ H s)
  (hch:∀b∈ch,(b∈X.ex\/X.s₀.heap.objs.size<=b)/\b≠X.env.locals/\(∀x c,X.env.cells.lookup x=some c->c≠b)/\∀p∈X.pn++pz,p.1≠b)
  (keep:∀b o,b≠X.env.locals->b∉X.fs->b∉ch->s.heap.get? b=some o->H b=none->h'.get? b=some o)
  (slot:∀b o,b≠X.env.locals->b∈X.fs->b∉ch->s.heap.get? b=some o->H b=none->∃sl,h'.get? b=some {o with slots:=sl}) (free:∀b o,b∉ch->s.heap.get? b=some o->H b=none->H' b=none)
  (there:∀b o,b∉ch->s.heap.get? b=some o->∃o',h'.get? b=some o')
  (tups:∀b xs,H b=some (.tup xs)->H' b=some (.tup xs)) (frzs:∀b o u,H b=some (.frz o u)->H' b=some (.frz o u)) (tbls:∀b ps,H b=some (.tbl ps)->∃more,H' b=some (.tbl (ps++more)))
  (ns:∀m,s.heap.Ns X.env.locals m->h'.Ns X.env.locals m) (hok:HOk X.prog X.w H' h') (hg:AllBare g'):
  Inv X pz σ H' {s with heap:=h',gens:=g',drawn:=d',toks:=t'}:=by
 have neL:∀b o,X.s₀.heap.get? b=some o->b≠X.env.locals:=fun b o e=>cD (cB (fC e) I.ok.above);have neC:∀b o,X.s₀.heap.get? b=some o->b∉X.ex->b∉ch:=fun b o e hx hb=>by
  rcases(hch b hb).1 with z|z;·exact hx z
  ·exact absurd (cB (fC e) z) (cC _)
 have cellK:∀x c,X.env.cells.lookup x=some c->∀v,s.heap.IsCell c v->h'.IsCell c v:=fun x c e v ⟨o,ho,hd⟩=>by
  have nch:c∉ch:=fun z=>(hch c z).2.2.1 x c e rfl;by_cases hc:c∈X.fs;·obtain⟨sl,q⟩:=slot c o (I.cne x c e) hc nch ho (I.freeC x c e);exact⟨_,q,hd⟩
  ·exact⟨o,keep c o (I.cne x c e) hc nch ho (I.freeC x c e),hd⟩
 refine⟨I.ok,I.os,hg,⟨fun b o e n hb hx=>?_,fun b o e n hb hx=>?_,fun b o e n hx=>?_,fun b o e hx=>?_,fun b xs e=>tups b xs (I.base.tups b xs e),fun b o xs e=>frzs b o xs (I.base.frzs b o xs e),fun b ps e=>?_⟩,?_,fun x c e=>?_,?_,fun x c e=>?_,fun p hp=>?_,hok,I.len⟩;·exact keep b o (neL b o e) hb (neC b o e hx) (I.base.keep b o e n hb hx) (I.base.free b o e n hx)
 ·obtain⟨sl,e1⟩:=I.base.slot b o e n hb hx;obtain⟨sl',e2⟩:=slot b _ (neL b o e) hb (neC b o e hx) e1 (I.base.free b o e n hx);exact⟨sl',e2⟩
 ·obtain⟨o',e1⟩:=I.base.there b o e hx;exact free b o' (neC b o e hx) e1 (I.base.free b o e n hx)
 ·obtain⟨o',e1⟩:=I.base.there b o e hx;exact there b o' (neC b o e hx) e1
 ·obtain⟨m1,e1⟩:=I.base.tbls b ps e;obtain⟨m2,e2⟩:=tbls b _ e1;exact⟨m1++m2,by rw[e2,Array.append_assoc]⟩
 ·obtain⟨m,hn,hl⟩:=I.loc;refine⟨m,ns m hn,fun i x v e1 e2 e3=>?_⟩;obtain⟨u,r,l⟩:=hl i x v e1 e2 e3;refine⟨u,r,?_⟩;rcases l with l|⟨k,c,e,z⟩;·exact .inl l
  ·exact .inr ⟨k,c,e,cellK x c e _ z⟩
 ·obtain⟨v,z⟩:=I.cell x c e;exact⟨v,cellK x c e v z⟩
 ·obtain⟨m,⟨o,_,_,ho,_⟩,_⟩:=I.loc;exact free _ o (fun z=>(hch _ z).2.1 rfl) ho I.free
 ·obtain⟨v,o,ho,hd⟩:=I.cell x c e;exact free c o (fun z=>(hch c z).2.2.1 x c e rfl) ho (I.freeC x c e)
 ·obtain⟨e,n,ne,nf,d⟩:=I.pin p hp;have nch:p.1∉ch:=fun z=>(hch p.1 z).2.2.2 p hp rfl;exact⟨keep p.1 p.2 ne nf nch e n,free p.1 p.2 nch e n,ne,nf,d⟩
def Inv.un {t':Nat} (I:Inv X pz σ H s) (u:Un X.fs [] H H' s.heap h') (hok:HOk X.prog X.w H' h'):Inv X pz σ H' {s with heap:=h',toks:=t'}:=by
 obtain⟨m,⟨o,es,ep,ho,r⟩,_⟩:=id I.loc;obtain⟨sl,hL⟩:=u.any ho I.free (by simp);exact I.step (g':=s.gens) (d':=s.drawn) (ch:=[]) (fun _ z=>nomatch z) (fun b o _ hb _ e n=>u.keep b o e n hb (by simp)) (fun b o _ hb _ e n=>u.slot b o e n hb (by simp)) (fun b o _ e n=>u.free b o e n (by simp)) (fun b o _ e=>u.there b o e (by simp)) u.tups u.frzs u.tbls (fun m' hm=>by obtain⟨o',es',ep',ho',r'⟩:=hm;rw[ho]at ho';cases ho';exact⟨_,es',ep',hL,r'⟩) hok I.bare
def Inv.call {g':Array GenState} {t':Nat} {d':Drawn} {ch:List Zx} (I:Inv X pz σ H s) (u:Un (frs X.stack) ch H H' s.heap h') (hok:HOk X.prog X.w H' h') (hg:AllBare g')
  (hch:∀b∈ch,(b∈X.ex\/X.s₀.heap.objs.size<=b)/\b≠X.env.locals/\(∀x c,X.env.cells.lookup x=some c->c≠b)/\∀p∈X.pn++pz,p.1≠b):
  Inv X pz σ H' {s with heap:=h',gens:=g',drawn:=d',toks:=t'}:=by
 obtain⟨m,⟨o,es,ep,ho,r⟩,_⟩:=id I.loc;obtain⟨sl,hL⟩:=u.any ho I.free fun z=>(hch _ z).2.1 rfl;exact I.step (ch:=ch) hch (fun b o hL hb hc e n=>u.keep b o e n (fun z=>(ak.mp (I.stkSub b z)).elim hL hb) hc) (fun b o _ _ hc e n=>u.any e n hc) (fun b o hc e n=>u.free b o e n hc) (fun b o hc e=>u.there b o e hc) u.tups u.frzs u.tbls (fun m' hm=>by obtain⟨o',es',ep',ho',r'⟩:=hm;rw[ho]at ho';cases ho';exact⟨_,es',ep',hL,r'⟩) hok hg
def Inv.turned {t':Nat} {it:Zx} (I:Inv X pz σ H s) (k:∀b o,b≠it->s.heap.get? b=some o->h'.get? b=some o) (hn:H it=none) (hL:it≠X.env.locals)
  (h1:it∈X.ex\/X.s₀.heap.objs.size<=it) (h2:∀x c,X.env.cells.lookup x=some c->c≠it) (h3:∀p∈X.pn++pz,p.1≠it):Inv X pz σ H {s with heap:=h',toks:=t'}:=by
 have nit:∀b u,H b=some u->b≠it:=fun b u e z=>by rw[z,hn]at e;cases e
 refine I.step (g':=s.gens) (d':=s.drawn) (ch:=[it]) (fun b hb=>?_) (fun b o _ _ hc e _=>k b o (fun z=>hc (by simp[z])) e) (fun b o _ _ hc e _=>⟨o.slots,k b o (fun z=>hc (by simp[z])) e⟩) (fun _ _ _ _ n=>n)
  (fun b o hc e=>⟨o,k b o (fun z=>hc (by simp[z])) e⟩) (fun _ _ e=>e) (fun _ _ _ e=>e) (fun b ps e=>⟨#[],by rw[e];simp⟩) (fun m hm=>?_) (fun b u e=>?_) I.bare
 ·have e:b=it:=by simpa using hb
  subst e;exact⟨h1,hL,h2,h3⟩
 ·obtain⟨o,es,ep,ho,r⟩:=hm;exact⟨o,es,ep,k _ o (Lq hL) ho,r⟩
 ·refine(I.hok b u e).stay (fun c v hc q=>k c v ?_ q) (fun _ q=>q) fun _ _ q=>q;rcases hc with z|z;·rw[z];exact nit b u e
  ·exact nit c _ z
def Inv.tok (I:Inv X pz σ H s) (t:Nat):Inv X pz σ H {s with toks:=t}:=I.un (h':=s.heap) (t':=t) Un.refl I.hok
theorem Inv.kept {t':Nat} (I:Inv X pz σ H s) (k:∀b u,s.heap.get? b=some u->h'.get? b=some u):Inv X pz σ H {s with heap:=h',toks:=t'}:=I.un (Un.kept k) (I.hok.kept k)
theorem Inv.laid {a:Zx} {o:HO} {t':Nat} (I:Inv X pz σ H s) (k:∀b u,s.heap.get? b=some u->h'.get? b=some u) (hp:s.heap.objs.size<=a) (new:jL X.prog X.w (upd H a o) h' a o):
  Inv X pz σ (upd H a o) {s with heap:=h',toks:=t'}:=I.un (Un.laid k hp (I.hok.fresh hp)) (I.hok.laid k hp new)
theorem Inv.write {x e:Zx} {o:HO} {t':Nat} (I:Inv X pz σ H s) (mu:Mut (H x)) (he:e=x\/H e=some (.own x)) (k:∀b u,b≠e->s.heap.get? b=some u->h'.get? b=some u) (heo:∃u,h'.get? e=some u)
  (new:jL X.prog X.w (upd H x o) h' x o):Inv X pz σ (upd H x o) {s with heap:=h',toks:=t'}:=I.un (Un.write mu he k heo) (I.hok.write mu he k heo new)
def Inv.pins_of {pins':Za} (I:Inv X pz σ H s) (h:∀p∈pins',s.heap.get? p.1=some p.2/\H p.1=none/\p.1≠X.env.locals/\p.1∉X.fs/\∀v,p.2.data≠ .cell v):Inv X pins' σ H s:=
 ⟨I.ok,I.os,I.bare,I.base,I.loc,I.cell,I.free,I.freeC,fun p hp=>(ao.mp hp).elim (fun z=>I.pin p (aq _ z)) (h p),I.hok,I.len⟩
def yq {N:Zd} (hN:N.Nodup) {i j:Nat} {x:Str} (a:N[i]?=some x) (b:N[j]?=some x):i=j:=by obtain⟨h1,e1⟩:=au.mp a;obtain⟨h2,e2⟩:=au.mp b;exact(List.getElem_inj hN).mp (e1.trans e2.symm)
def Ad {M:Model} {A:Zw} {E:Zb} {i:Nat} {x:Str} {v:V} {u:Zz} {Q:Unit->Zy->Prop} (I:Inv X pz σ H s) (hN:X.N.Nodup) (hi:X.N[i]?=some x) (hx:Loc X.env.scope x) (r:iQ v u)
  (h:∀s',Inv X pz (σ.set i (some v)) H s'->(∃a,Mj a s.heap s'.heap/\(a=X.env.locals\/X.env.cells.lookup x=some a))->Q () s') (hf:autoParam (X.fn x=true\/X.env.scope.names.lookup x=some .local) auL._auto_1):La M A (storeName X.env x u) Q E s:=by
 obtain⟨m,hn,hl⟩:=id I.loc;have hcls:(X.env.scope.kind== .class||(X.env.scope.kind== .module&&X.env.locals !=X.env.globals))=false:=by rw[I.ok.kind];rfl
 have hiσ:i<σ.length:=by rw[I.len];exact(au.mp hi).1
 have cne:=I.cne;have tracked:∀{a:Zx} {h':Zt},(∃o,s.heap.get? a=some o/\H a=none)->Mj a s.heap h'->HOk X.prog X.w H h':=fun{a h'} ha hs b ob e=>by
  obtain⟨_,_,hfree⟩:=ha;refine(I.hok b ob e).stay (fun c w' hc q=>(hs.2 c ?_).trans q) (fun _ q=>q) fun _ _ q=>q;rintro rfl;rcases hc with rfl|hc;·rw[hfree]at e;cases e
  ·rw[hfree]at hc;cases hc
 rcases hx with hk|hk
 ·refine wpAny_storeName_local hk hn (fun h' hn' hs=>?_) hcls;obtain⟨oL,_,_,hoL,_⟩:=id hn;refine h _ ⟨I.ok,I.os,I.bare,⟨fun b o e n hb hx=>?_,fun b o e n hb hx=>?_,I.base.free,fun b o e hx=>?_,I.base.tups,I.base.frzs,I.base.tbls⟩,⟨_,hn',fun j y v' e1 e2 e3=>?_⟩,fun y c e=>?_,I.free,I.freeC,fun p hp=>?_,tracked ⟨oL,hoL,I.free⟩ hs,by simpa using I.len⟩ ⟨_,hs,.inl rfl⟩;·exact(hs.2 b (cD (cB (fC e) I.ok.above))).trans (I.base.keep b o e n hb hx)
  ·obtain⟨sl,e1⟩:=I.base.slot b o e n hb hx;exact⟨sl,(hs.2 b (cD (cB (fC e) I.ok.above))).trans e1⟩
  ·obtain⟨o',e1⟩:=I.base.there b o e hx;exact⟨o',(hs.2 b (cD (cB (fC e) I.ok.above))).trans e1⟩
  ·by_cases hj:j=i;·subst hj;rw[hi]at e1;cases e1;rw[av hiσ]at e2;cases e2;exact⟨u,r,.inl ⟨hk,by simp⟩⟩
   ·rw[aw (Lq hj)]at e2;obtain⟨u',r',q⟩:=hl j y v' e1 e2 e3;refine⟨u',r',?_⟩;rcases q with⟨k,e⟩|⟨k,c,e,z⟩;·refine .inl ⟨k,?_⟩;have:y≠x:=fun e=>hj (yq hN e1 (e▸hi));simp[this,e]
    ·exact .inr ⟨k,c,e,z.sameBut hs (cne y c e)⟩
  ·obtain⟨w',z⟩:=I.cell y c e;exact⟨w',z.sameBut hs (cne y c e)⟩
  ·obtain⟨e,n,ne,nf,d⟩:=I.pin p hp;exact⟨(hs.2 p.1 ne).trans e,n,ne,nf,d⟩
 ·have hfn:X.fn x=true:=by
   rcases hf with z|z;·exact z
   ·rw[z]at hk;cases hk
  obtain⟨c,hc⟩:=I.ok.has x (.inl hk);obtain⟨w',z⟩:=I.cell x c hc;refine wpAny_storeName_cell I.ok.kind hk hc z (fun h' hc' hs=>?_);obtain⟨oc,hoc,hocd⟩:=id z;refine h {s with heap:=h'} ⟨I.ok,I.os,I.bare,⟨fun b o e n hb hx=>?_,fun b o e n hb hx=>?_,I.base.free,fun b o e hx=>?_,I.base.tups,I.base.frzs,I.base.tbls⟩,⟨m,hn.sameBut hs (Lq (cne x c hc)),fun j y v' e1 e2 e3=>?_⟩,fun y c' e=>?_,I.free,I.freeC,fun p hp=>?_,tracked ⟨oc,hoc,I.freeC x c hc⟩ hs,by simpa using I.len⟩ ⟨c,hs,.inr hc⟩;·exact(hs.2 b (cD (cB (fC e) (I.ok.cab x c hfn hc)))).trans (I.base.keep b o e n hb hx)
  ·obtain⟨sl,e1⟩:=I.base.slot b o e n hb hx;exact⟨sl,(hs.2 b (cD (cB (fC e) (I.ok.cab x c hfn hc)))).trans e1⟩
  ·obtain⟨o',e1⟩:=I.base.there b o e hx;exact⟨o',(hs.2 b (cD (cB (fC e) (I.ok.cab x c hfn hc)))).trans e1⟩
  ·by_cases hj:j=i;·subst hj;rw[hi]at e1;cases e1;rw[av hiσ]at e2;cases e2;exact⟨u,r,.inr ⟨.inl hk,c,hc,hc'⟩⟩
   ·rw[aw (Lq hj)]at e2;obtain⟨u',r',q⟩:=hl j y v' e1 e2 e3;refine⟨u',r',?_⟩;rcases q with q|⟨k,c',e,z'⟩;·exact .inl q
    ·refine .inr ⟨k,c',e,z'.sameBut hs ?_⟩;rintro rfl;exact hj (yq hN e1 (I.ok.inj _ _ _ e hc▸hi))
  ·by_cases hcc:c'=c;·subst hcc;exact⟨_,hc'⟩
   ·obtain⟨w2,z2⟩:=I.cell y c' e;exact⟨w2,z2.sameBut hs hcc⟩
  ·obtain⟨e,n,ne,nf,d⟩:=I.pin p hp;refine⟨(hs.2 p.1 ?_).trans e,n,ne,nf,d⟩;intro q;rw[q,hoc]at e;have q':oc=p.2:=dm.inj e;exact d w' (by rw[<-q'];exact hocd)
def nG {M:Model} {A:Zw} {E:Zb} {i:Nat} {x:Str} {v:V} {u:Zz} {Q:Unit->Zy->Prop} (I:Inv X pz σ H s) (hN:X.N.Nodup) (hi:X.N[i]?=some x) (hx:Loc X.env.scope x) (r:iQ v u)
  (h:∀s',Inv X pz (σ.set i (some v)) H s'->Q () s') (hf:autoParam (X.fn x=true\/X.env.scope.names.lookup x=some .local) auL._auto_1):La M A (storeName X.env x u) Q E s:=
 Ad I hN hi hx r (fun s' I' _=>h s' I') hf
def Inv.call' {s':Zy} {ch:List Zx} (I:Inv X pz σ H s) (ho:s'.os=s.os) (u:Un (frs X.stack) ch H H' s.heap s'.heap) (hok:HOk X.prog X.w H' s'.heap) (hg:AllBare s'.gens)
  (hch:∀b∈ch,(b∈X.ex\/X.s₀.heap.objs.size<=b)/\b≠X.env.locals/\(∀x c,X.env.cells.lookup x=some c->c≠b)/\∀p∈X.pn++pz,p.1≠b):Inv X pz σ H' s':=by obtain⟨h',g',d',t',o'⟩:=s';have e:o'=s.os:=ho;subst e;exact I.call (g':=g') (t':=t') (d':=d') u hok hg hch
end
abbrev XK:=Zz->Option Zx->Hp->Prop
abbrev St:=List (Option V)
abbrev VK:=V->Hp->Prop
abbrev TE:=St->Hp->VK->Prop
abbrev TT:=St->Hp->(Bool->Hp->Prop)->Prop
abbrev TA:=St->Hp->(List V->Hp->Prop)->Prop
structure pT where
 nx:St->Hp->Prop
 rt:VK
 bk:St->Hp->Prop:=fun _ _=>False
 ct:St->Hp->Prop:=fun _ _=>False
abbrev TS:=pT->St->Hp->Prop
def EP (X:Cx) (pz:Za) (σ:St) (Q:VK) (u:Zz) (s':Zy):Prop:=∃v H',Inv X pz σ H' s'/\iQ v u/\Q v H'
def TP (X:Cx) (pz:Za) (σ:St) (Q:Bool->Hp->Prop) (b:Bool) (s':Zy):Prop:=∃H',Inv X pz σ H' s'/\Q b H'
def AP (X:Cx) (pz:Za) (σ:St) (Q:List V->Hp->Prop) (us:List Zz) (s':Zy):Prop:=∃vs H',Inv X pz σ H' s'/\iR vs us/\Q vs H'
def SP (X:Cx) (pz:Za) (D:pT) (f:Flow) (s':Zy):Prop:=
 match f with
 | .next=>∃σ' H',Inv X pz σ' H' s'/\D.nx σ' H'
 | .brk=>∃σ' H',Inv X pz σ' H' s'/\D.bk σ' H'
 | .cont=>∃σ' H',Inv X pz σ' H' s'/\D.ct σ' H'
 | .ret u=>∃v σ' H',Inv X pz σ' H' s'/\iQ v u/\D.rt v H'
def PE (X:Cx) (e:Zr) (t:TE):Prop:=
 ∀(pz:Za) (s:Zy) (σ:St) (H:Hp) (Q:VK),Inv X pz σ H s->t σ H Q->La (model X.prog X.w) X.A (eval e X.env) (EP X pz σ Q) X.xe s
def PT (X:Cx) (e:Zr) (t:TT):Prop:=
 ∀(pz:Za) (s:Zy) (σ:St) (H:Hp) (Q:Bool->Hp->Prop),Inv X pz σ H s->t σ H Q->La (model X.prog X.w) X.A (isTrue e X.env (eval e X.env)) (TP X pz σ Q) X.xe s
def PW (X:Cx) (e:Zr) (t:TT):Prop:=
 ∀(whole:Sem Zz) (pz:Za) (s:Zy) (σ:St) (H:Hp) (Q:Bool->Hp->Prop),Inv X pz σ H s->t σ H Q->La (model X.prog X.w) X.A (isTrue e X.env whole) (TP X pz σ Q) X.xe s
def PW.pt {X:Cx} {e:Zr} {t:TT} (h:PW X e t):PT X e t:=h _
def PA (X:Cx) (es:List Zr) (t:TA):Prop:=
 ∀(pos:Pos) (pz:Za) (s:Zy) (σ:St) (H:Hp) (Q:List V->Hp->Prop),Inv X pz σ H s->t σ H Q->La (model X.prog X.w) X.A (spliced (LF pos (Lg es X.env))) (AP X pz σ Q) X.xe s
def PS (X:Cx) (st:Zq) (t:TS):Prop:=
 ∀(pz:Za) (s:Zy) (σ:St) (H:Hp) (D:pT),Inv X pz σ H s->t D σ H->La (model X.prog X.w) X.A (exec st X.env) (SP X pz D) X.xe s
def PSs (X:Cx) (st:List Zq) (t:TS):Prop:=
 ∀(pz:Za) (s:Zy) (σ:St) (H:Hp) (D:pT),Inv X pz σ H s->t D σ H->La (model X.prog X.w) X.A (execs st X.env) (SP X pz D) X.xe s
def thn {α:Type} {t:Sem α} {Q Q':α->Zy->Prop} {M:Model} {A:Zw} {E:Zb} {s:Zy} (h:La M A t Q E s) (hQ:∀a s,Q a s->Q' a s):La M A t Q' E s:=Ll h hQ fun _ _ x=>x
section
variable {X:Cx}
def KC (i:Nat):TE:=fun σ H Q=>∃v,σ[i]?=some (some v)/\Q v H
def tC (v:V):TE:=fun _ H Q=>Q v H
def Gr {i:Nat} {x:Str} {pos:Pos} (hN:X.N[i]?=some x) (hv:Vis X.env.scope x) (hd:autoParam ((x==("__debug__":Str))=false) auD._auto_1) (hcd:autoParam ((x==("__classdict__":Str))=false) auD._auto_1):PE X (.Name x pos) (KC i):=by
 intro pz s σ H Q I h;obtain⟨v,e,h⟩:=h;obtain⟨m,hn,hl⟩:=I.loc;obtain⟨u,r,l⟩:=hl i x v hN e hv;have fin:EP X pz σ Q u s:=⟨v,H,I,r,h⟩;rcases l with⟨hk,hm⟩|⟨hk,c,hc,hcell⟩;·exact wpAny_Name (wpAny_loadName_local I.ok.kind hk hn hm fin) hd
 ·rcases hk with hk|hk;·exact wpAny_Name (wpAny_loadName_cell I.ok.kind hk hc hcell fin) hd
  ·exact wpAny_Name (wpAny_loadName_free I.ok.kind hk hc hcell fin hcd) hd
def fQ {i j pos}:PE X (.Constant (.int i) j pos) (tC (.int i)):=fun _ _ _ H _ I h=>wpAny_Constant_int ⟨.int i,H,I.tok _,⟨_,rfl⟩,h⟩
def mh {b j pos}:PE X (.Constant (.bool b) j pos) (tC (.bl b)):=fun _ _ _ H _ I h=>Constant_bool ⟨.bl b,H,I,rfl,h⟩
def gR {j pos}:PE X (.Constant .none j pos) (tC .non):=fun _ _ _ H _ I h=>Constant_none ⟨.non,H,I,rfl,h⟩
def fX {x j pos}:PE X (.Constant (.str x) j pos) (tC (.str x)):=fun _ _ _ H _ I h=>Calls.Constant_str ⟨.str x,H,I.tok _,⟨_,rfl⟩,h⟩
def Gl (X:Cx) (x:Str):Prop:=X.env.kindOf x=some .globalImplicit
def wZ {E:Zb} {pz:Za} {s:Zy} {σ:St} {H:Hp} {x:Str} {u:Zz} {pos:Pos} {Q:Zb} (I:Inv X pz σ H s) (hg:Gl X x) (hm:X.mg x=some u) (h:Q u s)
  (hd:autoParam ((x==("__debug__":Str))=false) auD._auto_1):La (model X.prog X.w) X.A (eval (.Name x pos) X.env) Q E s:=
 Calls.Name_function_global I.ok.kind hg (Calls.loadGlobal_global (by rw[I.ok.glob];exact I.mod.glob.keeps I.bk) hm h) hd
def ph {E:Zb} {pz:Za} {s:Zy} {σ:St} {H:Hp} {x:Str} {u:Zz} {pos:Pos} {Q:Zb} (I:Inv X pz σ H s) (hg:Gl X x) (hm:X.mg x=none) (hv:Lm x=some u) (h:Q u s)
  (hn:autoParam (x≠"__name__") auD._auto_1) (hd:autoParam ((x==("__debug__":Str))=false) auD._auto_1):La (model X.prog X.w) X.A (eval (.Name x pos) X.env) Q E s:=by obtain⟨mb,h1,h2⟩:=I.mod.blt;exact Calls.Name_function_global I.ok.kind hg (Calls.loadGlobal_builtin (by rw[I.ok.glob];exact I.mod.glob.keeps I.bk) hm (by rw[I.ok.blt];exact h1.keeps I.bk) ((h2 x hn).trans hv) h) hd
def xg {x:Str} {v:V} {u:Zz} {pos:Pos} (hg:Gl X x) (hm:X.mg x=some u) (r:iQ v u) (hd:autoParam ((x==("__debug__":Str))=false) auD._auto_1):PE X (.Name x pos) (tC v):=
 fun _ _ _ H _ I h=>wZ I hg hm ⟨v,H,I,r,h⟩ hd
def Ej {x:Str} {v:V} {u:Zz} {pos:Pos} (hg:Gl X x) (hm:X.mg x=none) (hv:Lm x=some u) (r:iQ v u) (hn:autoParam (x≠"__name__") auD._auto_1) (hd:autoParam ((x==("__debug__":Str))=false) auD._auto_1):PE X (.Name x pos) (tC v):=
 fun _ _ _ H _ I h=>ph I hg hm hv ⟨v,H,I,r,h⟩ hn hd
variable {a b:Zr} {ta tb:TE} {pos:Pos}
def PC (X:Cx) (op:CmpOp) (a b:Zr) (t:TE):Prop:=
 ∀(pz:Za) (s:Zy) (σ:St) (H:Hp) (Q:VK),Inv X pz σ H s->t σ H Q->
  La (model X.prog X.w) X.A (eval a X.env) (fun v s₁=>La (model X.prog X.w) X.A (eval b X.env) (fun u s₂=>La (model X.prog X.w) X.A (Lp op v u) (EP X pz σ Q) X.xe s₂) X.xe s₁) X.xe s
def yr (b:Zr) {op:CmpOp} (h:op≠ .In) (h2:op≠ .NotIn):LJ op b=false:=by
 have e1:(op==CmpOp.In)=false:=by cases op<;>first|rfl|exact absurd rfl h
 have e2:(op==CmpOp.NotIn)=false:=by cases op<;>first|rfl|exact absurd rfl h2
 cases b<;>simp[LJ,e1,e2]
def tIsN (ta:TE):TE:=fun σ H Q=>ta σ H fun x H1=>Q (.bl (decide (x= .non))) H1
def IW (ta:TE):TE:=fun σ H Q=>ta σ H fun x H1=>Q (.bl (!decide (x= .non))) H1
def iQ.none_iff {x:V} {v:Zz} (r:iQ x v):(v==LQ)=decide (x= .non):=by
 cases x with
 |non=>cases r;rfl
 |bl _=>cases r;rfl
 |int _=>obtain⟨t,rfl⟩:=r;rfl
 |str _=>obtain⟨t,rfl⟩:=r;rfl
 |byt _=>obtain⟨t,rfl⟩:=r;rfl
 |flt _=>obtain⟨t,rfl⟩:=r;rfl
 |ref _=>cases r;rfl
 |ty _=>cases r;rfl
def Dq {j pos'} (ha:PE X a ta):PC X .Is a (.Constant .none j pos') (tIsN ta):=by intro pz s σ H Q I h;refine thn (ha pz s σ H _ I h) ?_;rintro v s1 ⟨x,H1,I1,r1,q1⟩;exact Constant_none (is_none_gen ⟨.bl _,H1,I1,by rw[r1.none_iff];rfl,q1⟩)
def Ae {j pos'} (ha:PE X a ta):PC X .IsNot a (.Constant .none j pos') (IW ta):=by intro pz s σ H Q I h;refine thn (ha pz s σ H _ I h) ?_;rintro v s1 ⟨x,H1,I1,r1,q1⟩;exact Constant_none (isnot_none_gen ⟨.bl _,H1,I1,by rw[r1.none_iff];rfl,q1⟩)
def tB (t:TE):TT:=fun σ H Q=>t σ H fun x H1=>∃c,x= .bl c/\Q c H1
def Dr {op:CmpOp} {t:TE} (h:PC X op a b t) (h1:LJ op b=false:=by first|exact yr _ (by decide) (by decide)|rfl):PE X (.Compare a [op] [b] pos) t:=fun pz s σ H Q I hw=>wpAny_Compare1 (h pz s σ H Q I hw) h1
def rA {op:CmpOp} {t:TE} (h:PC X op a b t) (h1:LJ op b=false:=by first|exact yr _ (by decide) (by decide)|rfl):PT X (.Compare a [op] [b] pos) (tB t):=by intro pz s σ H Q I hw;refine wpAny_isTrue_Compare1 (thn (h pz s σ H _ I hw) fun v s1 h1=>thn h1 fun u s2 h2=>thn h2 ?_) h1;rintro c s3 ⟨x,H1,I1,r1,q1⟩;obtain⟨d,rfl,q⟩:=q1;cases r1;exact Lx ⟨H1,I1,q⟩
def iL {e:Zr} {t:TE} (h:PE X e t) (he:autoParam (∀whole,isTrue e X.env whole=(do let v<-whole;standAt e.pos;holding [v] (truthy v))) auI._auto_1):PT X e (tB t):=by intro pz s σ H Q I hw;refine isTrue_plain (thn (h pz s σ H _ I hw) ?_) (he _);rintro v s1 ⟨x,H1,I1,r1,q1⟩;obtain⟨d,rfl,q⟩:=q1;cases r1;exact Lx ⟨H1,I1,q⟩
variable {tA tB':TT} {rest:List Zr}
def tAnd (t u:TT):TT:=fun σ H Q=>t σ H fun c H1=>if c=true then u σ H1 Q else Q false H1
def tOr (t u:TT):TT:=fun σ H Q=>t σ H fun c H1=>if c=true then Q true H1 else u σ H1 Q
def tNot (t:TT):TT:=fun σ H Q=>t σ H fun c H1=>Q (!c) H1
def mi (ha:PT X a tA):PW X (.BoolOp .And [a] pos) tA:=by
 intro wh pz s σ H Q I h;refine isTrue_and (thn (ha pz s σ H Q I h) fun c s1 e=>?_)
 cases c with
 |true=>exact isTrue_and_nil e
 |false=>exact e
def kW (ha:PT X a tA):PW X (.BoolOp .Or [a] pos) tA:=by
 intro wh pz s σ H Q I h;refine isTrue_or (thn (ha pz s σ H Q I h) fun c s1 e=>?_)
 cases c with
 |false=>exact isTrue_or_nil e
 |true=>exact e
def nR (ha:PT X a tA) (hb:PW X (.BoolOp .And (b::rest) pos) tB'):PW X (.BoolOp .And (a::b::rest) pos) (tAnd tA tB'):=by
 intro wh pz s σ H Q I h;refine isTrue_and (thn (ha pz s σ H _ I h) ?_);rintro c s1 ⟨H1,I1,q1⟩
 cases c with
 |true=>exact hb wh pz s1 σ H1 Q I1 q1
 |false=>exact⟨H1,I1,q1⟩
def mj (ha:PT X a tA) (hb:PW X (.BoolOp .Or (b::rest) pos) tB'):PW X (.BoolOp .Or (a::b::rest) pos) (tOr tA tB'):=by
 intro wh pz s σ H Q I h;refine isTrue_or (thn (ha pz s σ H _ I h) ?_);rintro c s1 ⟨H1,I1,q1⟩
 cases c with
 |true=>exact⟨H1,I1,q1⟩
 |false=>exact hb wh pz s1 σ H1 Q I1 q1
def kj (ha:PT X a tA):PT X (.UnaryOp .Not a pos) (tNot tA):=by intro pz s σ H Q I h;exact isTrue_not (ha pz s σ H (fun c H1=>Q (!c) H1) I h)
def IX (ta tb:TE):TE:=fun σ H Q=>ta σ H fun x H1=>∃c,x= .bl c/\if c=true then tb σ H1 Q else Q (.bl false) H1
def IY (ta tb:TE):TE:=fun σ H Q=>ta σ H fun x H1=>∃c,x= .bl c/\if c=true then Q (.bl true) H1 else tb σ H1 Q
def IZ (ta:TE):TE:=fun σ H Q=>ta σ H fun x H1=>∃c,x= .bl c/\Q (.bl (!c)) H1
def nS {op} {t:TE} (h:PE X a t):PE X (.BoolOp op [a] pos) t:=fun pz s σ H Q I hw=>BoolOp_one (h pz s σ H Q I hw)
def qD (ha:PE X a ta) (hb:PE X (.BoolOp .And (b::rest) pos) tb):PE X (.BoolOp .And (a::b::rest) pos) (IX ta tb):=by
 intro pz s σ H Q I h;refine BoolOp_and (thn (ha pz s σ H _ I h) ?_);rintro v s1 ⟨x,H1,I1,r1,q1⟩;obtain⟨c,rfl,q1⟩:=q1;cases r1;refine Lx ?_
 cases c with
 |true=>exact hb pz s1 σ H1 Q I1 q1
 |false=>exact⟨.bl false,H1,I1,rfl,q1⟩
def Gv (ha:PE X a ta) (hb:PE X (.BoolOp .Or (b::rest) pos) tb):PE X (.BoolOp .Or (a::b::rest) pos) (IY ta tb):=by
 intro pz s σ H Q I h;refine BoolOp_or (thn (ha pz s σ H _ I h) ?_);rintro v s1 ⟨x,H1,I1,r1,q1⟩;obtain⟨c,rfl,q1⟩:=q1;cases r1;refine Lx ?_
 cases c with
 |false=>exact hb pz s1 σ H1 Q I1 q1
 |true=>exact⟨.bl true,H1,I1,rfl,q1⟩
def Gx (ha:PE X a ta):PE X (.UnaryOp .Not a pos) (IZ ta):=by intro pz s σ H Q I h;refine UnaryOp_ (thn (ha pz s σ H _ I h) ?_);rintro v s1 ⟨x,H1,I1,r1,q1⟩;obtain⟨c,rfl,q1⟩:=q1;cases r1;exact not_of (Lx ⟨.bl (!c),H1,I1,rfl,q1⟩)
def tIf (t:TT) (ta tb:TE):TE:=fun σ H Q=>t σ H fun c H1=>if c=true then ta σ H1 Q else tb σ H1 Q
def nH {c:Zr} (hc:PT X c tA) (ha:PE X a ta) (hb:PE X b tb):PE X (.IfExp c a b pos) (tIf tA ta tb):=by
 intro pz s σ H Q I h;refine wpAny_IfExp (thn (hc pz s σ H _ I h) ?_);rintro d s1 ⟨H1,I1,q1⟩
 cases d with
 |true=>exact ha pz s1 σ H1 Q I1 q1
 |false=>exact hb pz s1 σ H1 Q I1 q1
end
def SqL (K:Zp) (H:Hp) (a:Zx) (xs:List V):Prop:=
 Rd H a (.lst xs)\/
  ∃(o:Obj) (its:Array Zz) (n:Nat),K.lookup a=some o/\o.cls= .type "list"/\o.dict=none/\o.data= .seq its n/\its.size<=sizeLine/\iR xs its.toList
def SqT (K:Zp) (H:Hp) (a:Zx) (xs:List V):Prop:=
 Rd H a (.tup xs)\/
  ∃(o:Obj) (its:Array Zz) (n:Nat),K.lookup a=some o/\o.cls= .type "tuple"/\o.data= .seq its n/\its.size<=sizeLine/\iR xs its.toList
def absV:Zz->Option V
 | .none=>some .non
 | .bool b=>some (.bl b)
 | .int i _=>some (.int i)
 | .str x _=>some (.str x)
 | .bytes b _=>some (.byt b)
 | .float b _=>some (.flt b)
 | .ref a=>some (.ref a)
 | .type n=>some (.ty n)
 |_=>none
def iQ.abs {x:V} {u:Zz} (r:iQ x u):absV u=some x:=by
 cases x with
 |non=>cases r;rfl
 |bl _=>cases r;rfl
 |int _=>obtain⟨t,rfl⟩:=r;rfl
 |str _=>obtain⟨t,rfl⟩:=r;rfl
 |byt _=>obtain⟨t,rfl⟩:=r;rfl
 |flt _=>obtain⟨t,rfl⟩:=r;rfl
 |ref _=>cases r;rfl
 |ty _=>cases r;rfl
theorem iQ.inj {x y:V} {u:Zz} (r:iQ x u) (q:iQ y u):x=y:=dm.inj (r.abs.symm.trans q.abs)
theorem iR.inj:∀{xs ys:List V} {us:List Zz},iR xs us->iR ys us->xs=ys
 |_,_,_,.nil,.nil=>rfl
 |_,_,_,.cons r t,.cons r' t'=>by rw[r.inj r',iR.inj t t']
section
variable {X:Cx} {pz:Za} {σ:St} {H:Hp} {s:Zy} {a:Zx} {xs ys:List V}
def SqL.of {K:Zp} (h:H a=some (.lst xs)):SqL K H a xs:= .inl (.inl h)
def SqT.of {K:Zp} (h:H a=some (.tup xs)):SqT K H a xs:= .inl (.inl h)
def Inv.list (I:Inv X pz σ H s) (h:SqL X.K H a xs):∃its:List Zz,iR xs its/\PlainL s.heap a its.toArray/\xs.length<=sizeLine:=by
 rcases h with h|⟨o,its,n,hk,hc,hd,hs,hz,r⟩;·obtain⟨z,its,n,r,e⟩:=h.ok I.hok;exact⟨its,r,⟨_,n,e,rfl,rfl,rfl⟩,z⟩
 ·refine⟨its.toList,r,⟨o,n,I.kIn a o hk,hc,hd,by simpa using hs⟩,?_⟩;have e:=r.length;simp only[fc]at e;lia
def Inv.tuple (I:Inv X pz σ H s) (h:SqT X.K H a xs):∃its:List Zz,iR xs its/\IsTup s.heap a its.toArray/\xs.length<=sizeLine:=by
 rcases h with h|⟨o,its,n,hk,hc,hs,hz,r⟩;·obtain⟨z,its,r,p⟩:=h.ok I.hok;exact⟨its,r,p.tup,z⟩
 ·refine⟨its.toList,r,⟨o,I.kIn a o hk,hc,n,by simpa using hs⟩,?_⟩;have e:=r.length;simp only[fc]at e;lia
def Inv.list_inj (I:Inv X pz σ H s) (h:SqL X.K H a xs) (h':SqL X.K H a ys):xs=ys:=by
 obtain⟨its,r,⟨o,n,e,_,_,d⟩,_⟩:=I.list h;obtain⟨its',r',⟨o',n',e',_,_,d'⟩,_⟩:=I.list h';rw[e]at e';cases e';rw[d]at d';injection d' with d1 _;have:its=its':=by simpa using congrArg Array.toList d1
 subst this;exact r.inj r'
def Inv.tuple_inj (I:Inv X pz σ H s) (h:SqT X.K H a xs) (h':SqT X.K H a ys):xs=ys:=by
 obtain⟨its,r,⟨o,e,_,n,d⟩,_⟩:=I.tuple h;obtain⟨its',r',⟨o',e',_,n',d'⟩,_⟩:=I.tuple h';rw[e]at e';cases e';rw[d]at d';injection d' with d1 _;have:its=its':=by simpa using congrArg Array.toList d1
 subst this;exact r.inj r'
end
abbrev Cx.wish (X:Cx) (E:Zb):Cx:={X with xe:=E}
abbrev Cx.nox (X:Cx):Cx:=X.wish fun _ _=>False
theorem Cx.Ok.wish {X:Cx} (ok:X.Ok) (E:Zb):(X.wish E).Ok:=
 ⟨ok.mod,ok.kind,ok.glob,ok.blt,ok.above,ok.inj,ok.has,ok.cab,ok.hd,ok.frames,ok.stk,ok.exf,ok.bs,ok.bsz,ok.noex,ok.exfs,ok.funs,ok.frf⟩
def Cx.Ok.unwish {X:Cx} {E:Zb} (ok:(X.wish E).Ok):X.Ok:=
 ⟨ok.mod,ok.kind,ok.glob,ok.blt,ok.above,ok.inj,ok.has,ok.cab,ok.hd,ok.frames,ok.stk,ok.exf,ok.bs,ok.bsz,ok.noex,ok.exfs,ok.funs,ok.frf⟩
section
variable {X:Cx} {pz:Za} {σ:St} {H:Hp} {s:Zy} {E:Zb}
theorem Inv.wish (I:Inv X pz σ H s) (E:Zb):Inv (X.wish E) pz σ H s:=⟨I.ok.wish E,I.os,I.bare,I.base,I.loc,I.cell,I.free,I.freeC,I.pin,I.hok,I.len⟩
theorem Inv.unwish (I:Inv (X.wish E) pz σ H s):Inv X pz σ H s:=⟨I.ok.unwish,I.os,I.bare,I.base,I.loc,I.cell,I.free,I.freeC,I.pin,I.hok,I.len⟩
theorem SP.unwish {D:pT} {f:Flow} {s':Zy} (h:SP (X.wish E) pz D f s'):SP X pz D f s':=by
 cases f with
 |next=>obtain⟨σ',H',I,q⟩:=h;exact⟨σ',H',I.unwish,q⟩
 |brk=>obtain⟨σ',H',I,q⟩:=h;exact⟨σ',H',I.unwish,q⟩
 |cont=>obtain⟨σ',H',I,q⟩:=h;exact⟨σ',H',I.unwish,q⟩
 |ret u=>obtain⟨v,σ',H',I,r,q⟩:=h;exact⟨v,σ',H',I.unwish,r,q⟩
theorem PE.nox {e:Zr} {t:TE} (h:PE X.nox e t):PE X e t:=fun pz s σ H Q I hw=>
 Ll (h pz s σ H Q (I.wish _) hw) (fun _ _ ⟨v,H',I',r,q⟩=>⟨v,H',I'.unwish,r,q⟩) fun _ _ z=>Lo z
theorem PT.nox {e:Zr} {t:TT} (h:PT X.nox e t):PT X e t:=fun pz s σ H Q I hw=>
 Ll (h pz s σ H Q (I.wish _) hw) (fun _ _ ⟨H',I',q⟩=>⟨H',I'.unwish,q⟩) fun _ _ z=>Lo z
theorem PSs.nox {st:List Zq} {t:TS} (h:PSs X.nox st t):PSs X st t:=fun pz s σ H D I hw=>
 Ll (h pz s σ H D (I.wish _) hw) (fun _ _ q=>q.unwish) fun _ _ z=>Lo z
end
section
variable {X:Cx} {st:Zq} {rest:List Zq} {t u:TS} {e:Zr} {te:TE} {pos:Pos}
def lO:TS:=fun D σ H=>D.nx σ H
def xh (t u:TS):TS:=fun D σ H=>t {D with nx:=u D} σ H
def gi:PSs X [] lO:=fun _ _ σ H _ I h=>wpAny_execs_nil ⟨σ,H,I,h⟩
def fN (h1:PS X st t) (h2:PSs X rest u):PSs X (st::rest) (xh t u):=by
 intro pz s σ H D I h;refine wpAny_execs_cons (thn (h1 pz s σ H {D with nx:=u D} I h) fun f s1 q=>?_)
 cases f with
 |next=>obtain⟨σ',H',I',q⟩:=q;exact h2 pz s1 σ' H' D I' q
 |ret v=>exact q
 |brk=>exact q
 |cont=>exact q
def fU (h1:PS X st t):PSs X [st] t:=by
 intro pz s σ H D I h;refine wpAny_execs_cons (thn (h1 pz s σ H D I h) fun f s1 q=>?_)
 cases f with
 |next=>exact wpAny_execs_nil q
 |ret v=>exact q
 |brk=>exact q
 |cont=>exact q
def Inv.quiet {pz:Za} {σ:St} {H:Hp} {s:Zy} (I:Inv X pz σ H s):interactive X.env=false:=by simp[interactive,I.ok.kind]
def Gy (te:TE):TS:=fun D σ H=>te σ H fun _ H1=>D.nx σ H1
def gv (he:PE X e te) (hs:autoParam (Ml e none pos.line X.env=pure false) auR._auto_1):PS X (.Expr e pos) (Gy te):=by intro pz s σ H D I h;exact wpAny_Expr_any (thn (he pz s σ H _ I h) fun v s1 ⟨x,H1,I1,r1,q1⟩=>⟨σ,H1,I1,q1⟩) I.quiet hs
def Ga (te:TE):TS:=fun D σ H=>te σ H D.rt
def gj (he:PE X e te):PS X (.Return (some e) pos) (Ga te):=by intro pz s σ H D I h;exact wpAny_Return_some (thn (he pz s σ H _ I h) fun v s1 ⟨x,H1,I1,r1,q1⟩=>⟨x,σ,H1,I1,r1,q1⟩)
def I0:TS:=fun D _ H=>D.rt .non H
def Af:PS X (.Return none pos) I0:=fun _ _ σ H _ I h=>wpAny_Return_none ⟨.non,σ,H,I,rfl,h⟩
def z9 (c:TT) (t u:TS):TS:=fun D σ H=>c σ H fun b H1=>if b=true then t D σ H1 else u D σ H1
def gJ {c:Zr} {a b:List Zq} {tc:TT} (hc:PT X c tc) (ha:PSs X a t) (hb:PSs X b u):PS X (.If c a b pos) (z9 tc t u):=by
 intro pz s σ H D I h;refine wpAny_If (thn (hc pz s σ H _ I h) ?_);rintro d s1 ⟨H1,I1,q1⟩
 cases d with
 |true=>exact ha pz s1 σ H1 D I1 q1
 |false=>exact hb pz s1 σ H1 D I1 q1
def Ds:TS:=fun _ _ _=>False
def ky:PS X st Ds:=fun _ _ _ _ _ _ h=>h.elim
def Ag {sts:List Zq}:PSs X sts Ds:=fun _ _ _ _ _ _ h=>h.elim
end
abbrev TG:=V->St->Hp->(St->Hp->Prop)->Prop
abbrev TGs:=List V->St->Hp->(St->Hp->Prop)->Prop
def PG (X:Cx) (target:Zr) (t:TG):Prop:=
 ∀(pz:Za) (s:Zy) (σ:St) (H:Hp) (v:V) (u:Zz) (Q:St->Hp->Prop),Inv X pz σ H s->iQ v u->t v σ H Q->
  La (model X.prog X.w) X.A (assign target X.env u) (fun _ s'=>∃σ' H',Inv X pz σ' H' s'/\Q σ' H') X.xe s
def PGs (X:Cx) (ts:List Zr) (t:TGs):Prop:=
 ∀(pz:Za) (s:Zy) (σ:St) (H:Hp) (vs:List V) (us:List Zz) (Q:St->Hp->Prop),Inv X pz σ H s->iR vs us->t vs σ H Q->
  La (model X.prog X.w) X.A (assignInOrder ((assignEach ts X.env).map (·.2)) us) (fun _ s'=>∃σ' H',Inv X pz σ' H' s'/\Q σ' H') X.xe s
abbrev Ja:=V->V->V->Hp->(Hp->Prop)->Prop
def KD (X:Cx) (t:Ja):Prop:=
 ∀(pz:Za) (s:Zy) (σ:St) (H:Hp) (o i v:V) (ov iv u:Zz) (Q:Hp->Prop),Inv X pz σ H s->iQ o ov->iQ i iv->iQ v u->t o i v H Q->
  La (model X.prog X.w) X.A (setItem ov iv u) (fun _ s'=>∃H',Inv X pz σ H' s'/\Q H') X.xe s
section
variable {X:Cx} {pos:Pos}
def gP (i:Nat):TG:=fun v σ H Q=>Q (σ.set i (some v)) H
def xk {i:Nat} {x:Str} (hN:X.N.Nodup) (hi:X.N[i]?=some x) (hx:Loc X.env.scope x) (hf:autoParam (X.fn x=true\/X.env.scope.names.lookup x=some .local) auL._auto_1):PG X (.Name x pos) (gP i):=by intro pz s σ H v u Q I r h;exact Mz (nG I hN hi hx r (fun s' I'=>⟨_,H,I',h⟩) hf)
def IH:TGs:=fun vs σ H Q=>vs=[]/\Q σ H
def xm (t:TG) (u:TGs):TGs:=fun vs σ H Q=>∃v r,vs=v::r/\t v σ H fun σ' H'=>u r σ' H' Q
def xn:PGs X [] IH:=by intro pz s σ H vs us Q I r h;obtain⟨e,h⟩:=h;subst e;cases r;exact assignInOrder_nil ⟨σ,H,I,h⟩
def nJ {e:Zr} {es:List Zr} {t:TG} {u:TGs} (h1:PG X e t) (h2:PGs X es u)
  (hs:autoParam ((assignEach (e::es) X.env).map (·.2)=assign e X.env::(assignEach es X.env).map (·.2)) auR._auto_1):PGs X (e::es) (xm t u):=by
 intro pz s σ H vs us Q I r h;obtain⟨v,vr,e1,h⟩:=h;subst e1
 cases r with
 |cons r rr=>rw[hs];refine assignInOrder_cons (thn (h1 pz s σ H _ _ _ I r h) ?_);rintro _ s1 ⟨σ1,H1,I1,q1⟩;exact h2 pz s1 σ1 H1 _ _ Q I1 rr q1
def II (K:Zp) (n:Nat) (t:TGs):TG:=fun v σ H Q=>∃a xs,v= .ref a/\SqT K H a xs/\xs.length=n/\t xs σ H Q
def Ah {es:List Zr} {k:Nat} {t:TGs} {n:Nat} (hc:X.calm=true) (h:PGs X es t)
  (hn:autoParam ((assignEach es X.env).length=n) auR._auto_1) (hst:autoParam ((assignEach es X.env).findIdx? (·.1)=none) auR._auto_1):PG X (.Tuple es k pos) (II X.K n t):=by intro pz s σ H v u Q I r hw;obtain⟨a,xs,e1,hq,hl,hw⟩:=hw;subst e1;cases r;obtain⟨its,rv,ht,hz⟩:=I.tuple hq;refine assign_Tuple_tuple (I.ok.hd hc) ht (by simp[hn,<-hl,rv.length]) hst fun h' hx=>?_;have I1:Inv X pz σ H {s with heap:=h'}:=I.kept (t':=s.toks) fun b o e=>hx b o (cD (fC e)) e;exact h pz _ σ H xs _ Q I1 (by simpa using rv) hw
def gSub (to ti:TE) (t:Ja):TG:=fun v σ H Q=>to σ H fun o H1=>ti σ H1 fun i H2=>t o i v H2 fun H3=>Q σ H3
def vF {o i:Zr} {to ti:TE} {t:Ja} (ho:PE X o to) (hi:PE X i ti) (hs:KD X t)
  (ha:∀v,assign (.Subscript o i pos) X.env v=(do
   let ov<-holding [v] (eval o X.env)
   let iv<-holding [v,ov] (eval i X.env)
   standAt pos
   holding [v,ov,iv] (setItem ov iv v)
   release [v,ov,iv] []):=by intro _;rfl):PG X (.Subscript o i pos) (gSub to ti t):=by intro pz s σ H v u Q I r h;rw[ha];refine C5 (LK (thn (ho pz s σ H _ I h) ?_));rintro ov s1 ⟨x,H1,I1,r1,q1⟩;refine C5 (LK (thn (hi pz s1 σ H1 _ I1 q1) ?_));rintro iv s2 ⟨y,H2,I2,r2,q2⟩;refine C5 (wpAny_standAt (C5 (LK (thn (hs pz s2 σ H2 x y v ov iv u _ I2 r1 r2 r q2) ?_))));rintro _ s3 ⟨H3,I3,q3⟩;exact wpAny_release ⟨σ,H3,I3,q3⟩
def El (te:TE) (g:TG):TS:=fun D σ H=>te σ H fun x H1=>g x σ H1 D.nx
def vG {tg e:Zr} {te:TE} {g:TG} (he:PE X e te) (hg:PG X tg g) (hs:autoParam (swapsWithSole [tg] e pos.line X.env=pure false) auR._auto_1) (hw:autoParam (swappedStores [tg] e X.env=pure none) auR._auto_1)
  (h1:autoParam ((assignEach [tg] X.env).map (·.2)=[assign tg X.env]) auR._auto_1):PS X (.Assign [tg] e pos) (El te g):=by intro pz s σ H D I h;refine wpAny_Assign_stores (thn (he pz s σ H _ I h) ?_) hs hw;rintro v s1 ⟨x,H1,I1,r1,q1⟩;rw[h1];exact thn (hg pz s1 σ H1 x v _ I1 r1 q1) fun _ s2 q=>q
def Gz {i:Nat} {x:Str} {e:Zr} {te:TE} {pos':Pos} (hN:X.N.Nodup) (hi:X.N[i]?=some x) (hx:Loc X.env.scope x) (he:PE X e te) (hs:autoParam (Ml e (some (.Name x pos')) pos.line X.env=pure false) auR._auto_1) (hf:autoParam (X.fn x=true\/X.env.scope.names.lookup x=some .local) auL._auto_1):
  PS X (.Assign [.Name x pos'] e pos) (El te (gP i)):=by intro pz s σ H D I h;refine wpAny_Assign_Name (thn (he pz s σ H _ I h) ?_) hs;rintro v s1 ⟨y,H1,I1,r1,q1⟩;exact nG I1 hN hi hx r1 (fun s2 I2=>⟨_,H1,I2,q1⟩) hf
end
section
variable {X:Cx} {pos:Pos}
def GA (c:TT) (tb:TS):TS:=fun D σ H=>∃W:Nat->St->Hp->Prop,(∃m,W m σ H)/\∀m σ H,W m σ H->
 c σ H fun b H1=>if b=true then ∃N:St->Hp->Prop,(∀σ' H',N σ' H'->∃m',m'<m/\W m' σ' H')/\tb {D with nx:=N,ct:=N,bk:=D.nx} σ H1 else D.nx σ H1
def nK {c:Zr} {body:List Zq} {tc:TT} {tb:TS} (hp:PassesOwn (model X.prog X.w) X.A X.env X.xe) (hc:PT X c tc) (hb:PSs X body tb):PS X (.While c body [] pos) (GA tc tb):=by
 intro pz s σ H D I h;obtain⟨W,⟨m0,w0⟩,turn⟩:=h;refine wpAny_While (codeAny_whileLoop (fun n s'=>∃σ' H',Inv X pz σ' H' s'/\W n σ' H') ?_ m0 ⟨σ,H,I,w0⟩);rintro n s1 ⟨σ1,H1,I1,w1⟩;refine LV hp (thn (hc pz s1 σ1 H1 _ I1 (turn n σ1 H1 w1)) ?_);rintro b s2 ⟨H2,I2,q2⟩
 cases b with
 |true=>
  obtain⟨N,hN,q2⟩:=q2;rw[gT rfl];refine LV hp (thn (hb pz s2 σ1 H2 _ I2 q2) fun f s3 q3=>?_)
  cases f with
  |next=>obtain⟨σ3,H3,I3,n3⟩:=q3;obtain⟨m',hm,w3⟩:=hN σ3 H3 n3;exact⟨m',hm,σ3,H3,I3,w3⟩
  |cont=>obtain⟨σ3,H3,I3,n3⟩:=q3;obtain⟨m',hm,w3⟩:=hN σ3 H3 n3;exact⟨m',hm,σ3,H3,I3,w3⟩
  |brk=>exact q3
  |ret v=>exact q3
 |false=>rw[gN eV];exact wpAny_execs_nil ⟨σ1,H2,I2,q2⟩
end
structure It where
 go:Nat->Hp->Prop
 yld:Nat->Hp->V->Hp->Prop
 stop:Nat->Hp->Prop
def wR (X:Cx) (pz:Za) (H:Hp) (b:Zx):Prop:=
 H b=none/\b≠X.env.locals/\b∉X.fs/\(b∈X.ex\/X.s₀.heap.objs.size<=b)/\(∀x c,X.env.cells.lookup x=some c->c≠b)/\∀p∈X.pn++pz,p.1≠b
def Inv.fpOk {X:Cx} {pz:Za} {σ:St} {H H':Hp} {s:Zy} {b:Zx} (I:Inv X pz σ H s) (hb:s.heap.objs.size<=b) (hn:H' b=none):wR X pz H' b:=by
 refine⟨hn,cG (cB I.lt hb),I.nofs hb,.inr (cE I.sz hb),fun x c e z=>?_,fun p hp z=>?_⟩;·obtain⟨v,q⟩:=I.cell x c e;exact absurd (cB q.lt (by rw[z];exact hb)) (cC _)
 ·exact absurd (cB (fC (I.pin p hp).1) (by rw[z];exact hb)) (cC _)
structure Du (P:Zu) (w:Zv) (K:Zp) (tg:Zr) (J:It) (fp:List Zx) (it:Zx) (tn:Nat->Zt->Prop):Prop where
 mem:it∈fp
 obj:∀i h,tn i h->∀b∈fp,∃o,h.get? b=some o/\∀v,o.data≠ .cell v
 keep:∀i h h',tn i h->(∀b∈fp,∀o,h.get? b=some o->h'.get? b=some o)->tn i h'
 item:∀(X:Cx),X.prog=P->X.w=w->X.K=K->X.calm=true->∀(i:Nat) (pz:Za) (s:Zy) (σ:St) (H:Hp) (E:Zb),Inv X pz σ H s->(∀b∈fp,wR X pz H b)->tn i s.heap->J.go i H->
  La (model P w) X.A (pyNext (.ref it)) (fun r s1=>∃u,r=some u/\
   La (model P w) X.A (letOwnedTupleGo tg (.ref it) u) (fun _ s2=>∃x H',Inv X pz σ H' s2/\iQ x u/\J.yld i H x H'/\tn (i+ 1) s2.heap/\∀b∈fp,H' b=none) E s1) E s
 done:∀(X:Cx),X.prog=P->X.w=w->X.K=K->X.calm=true->∀(i:Nat) (pz:Za) (s:Zy) (σ:St) (H:Hp) (E:Zb),Inv X pz σ H s->(∀b∈fp,wR X pz H b)->tn i s.heap->J.stop i H->
  La (model P w) X.A (pyNext (.ref it)) (fun r s1=>r=none/\Inv X pz σ H s1) E s
 self:∀(A:Zw) (i:Nat) (s:Zy) (Q:Zb) (E:Zb),tn i s.heap->Q (.ref it) s->La (model P w) A (pyIter (.ref it)) Q E s
abbrev TI:=St->Hp->(It->Hp->Prop)->Prop
def PIE (X:Cx) (pz:Za) (σ:St) (tg:Zr) (R:It->Hp->Prop) (itv:Zz) (s2:Zy):Prop:=
 ∃(it:Zx) (fp:List Zx) (tn:Nat->Zt->Prop) (J:It) (H':Hp),itv= .ref it/\Inv X pz σ H' s2/\Du X.prog X.w X.K tg J fp it tn/\tn 0 s2.heap/\(∀b∈fp,wR X pz H' b)/\R J H'
def PI (X:Cx) (tg iter:Zr) (wi:TI):Prop:=
 ∀(pz:Za) (s:Zy) (σ:St) (H:Hp) (R:It->Hp->Prop),Inv X pz σ H s->wi σ H R->
  La (model X.prog X.w) X.A (eval iter X.env) (fun v s1=>La (model X.prog X.w) X.A (pyIter v) (PIE X pz σ tg R) X.xe s1) X.xe s
def Ai {M : Model} {A : Zw} {E : Zz -> Zy -> Prop} {s : Zy} {tg : Zr} {it : Zx} {u : Zz} {o : Obj} {n : String} {vs : Array Zz} {Q : Unit -> Zy -> Prop} (ho : s.heap.get? it = some o) (hc : o.cls = .type n) (hd : o.data = .fields vs)
  (hn : ["enumerate", "zip", "dict_itemiterator", "dict_reverseitemiterator", "odict_iterator", "itertools.zip_longest", "itertools.pairwise"].contains n = false) (hQ : Q () s) : La M A (letOwnedTupleGo tg (.ref it) u) Q E s := by
 unfold letOwnedTupleGo;cases tg <;> first
  | exact Lb hQ
  | (cases u <;> first
    | exact Lb hQ
    | (refine C5 (wpAny_load ho ?_);rw [hc, hd];show La M A (if (["enumerate", "zip", "dict_itemiterator", "dict_reverseitemiterator", "odict_iterator", "itertools.zip_longest", "itertools.pairwise"].contains n && vs[0]? == some (rawInt _)) = true then _ else _) Q E s;rw [gN (by intro h; rw [hn, Bool.false_and] at h; cases h)];exact Lb hQ))
def Itl (K:Zp) (a:Zx):It:=
 ⟨fun i H=>∃xs x,SqL K H a xs/\xs[i]?=some x,fun i H x H'=>H'=H/\∀xs,SqL K H a xs->xs[i]?=some x,fun i H=>∃xs,SqL K H a xs/\xs.length<=i⟩
def Itt (K:Zp) (a:Zx):It:=
 ⟨fun i H=>∃xs x,SqT K H a xs/\xs[i]?=some x,fun i H x H'=>H'=H/\∀xs,SqT K H a xs->xs[i]?=some x,fun i H=>∃xs,SqT K H a xs/\xs.length<=i⟩
def Itr (lo:Int) (n:Nat):It:=⟨fun i _=>i<n,fun i H x H'=>H'=H/\x= .int (lo+i),fun i _=>n<=i⟩
def Aj {P:Zu} {w:Zv} {K:Zp} {tg:Zr} (a it:Zx):Du P w K tg (Itl K a) [it] it (fun i h=>h.IsListIter it a i) where
 mem:=by simp
 obj:=fun i h st b hb=>by
  have e:b=it:=by simpa using hb
  subst e;obtain⟨o,e,c,d⟩:=st;exact⟨o,e,fun v z=>by rw[d]at z;cases z⟩
 keep:=fun i h h' st k=>st.at fun o e=>k it (by simp) o e
 item:=by intro X hP hw hK hc i pz s σ H E I hf st hg;subst hP hw hK;obtain⟨xs,x,hq,hx⟩:=hg;obtain⟨its,rv,p,hz⟩:=I.list hq;obtain⟨u,hu,ru⟩:=rv.get hx;obtain⟨f0,f1,f2,f3,f4,f5⟩:=hf it (by simp);refine wpAny_pyNext_list_item st p.isList (x:=u) (by simpa using hu) fun h' st' sb=>?_;have I1:Inv X pz σ H {s with heap:=h'}:=I.turned (t':=s.toks) (fun b o hb e=>(sb.2 b hb).trans e) f0 f1 f3 f4 f5;obtain⟨o,e,c,d⟩:=id st';exact⟨u,rfl,Ai (s:={s with heap:=h'}) e c d (by decide) ⟨x,H,I1,ru,⟨rfl,fun ys hy=>by rw[I.list_inj hy hq];exact hx⟩,st',fun b hb=>(hf b hb).1⟩⟩
 done:=by intro X hP hw hK hc i pz s σ H E I hf st hg;subst hP hw hK;obtain⟨xs,hq,hx⟩:=hg;obtain⟨its,rv,p,hz⟩:=I.list hq;obtain⟨f0,f1,f2,f3,f4,f5⟩:=hf it (by simp);have hl:=rv.length;exact wpAny_pyNext_list_end (I.ok.hd hc) st p.isList (by simp;lia) fun h' eb=>⟨rfl,I.turned (t':=s.toks) (fun b o hb e=>eb b o hb e) f0 f1 f3 f4 f5⟩
 self:=fun _ _ _ _ _ st h=>wpAny_pyIter_listiter st h
def zq {P:Zu} {w:Zv} {K:Zp} {tg:Zr} (a it:Zx):Du P w K tg (Itt K a) [it] it (fun i h=>h.IsTupleIter it a i) where
 mem:=by simp
 obj:=fun i h st b hb=>by
  have e:b=it:=by simpa using hb
  subst e;obtain⟨o,e,c,d⟩:=st;exact⟨o,e,fun v z=>by rw[d]at z;cases z⟩
 keep:=fun i h h' st k=>st.at fun o e=>k it (by simp) o e
 item:=by intro X hP hw hK hc i pz s σ H E I hf st hg;subst hP hw hK;obtain⟨xs,x,hq,hx⟩:=hg;obtain⟨its,rv,p,hz⟩:=I.tuple hq;obtain⟨u,hu,ru⟩:=rv.get hx;obtain⟨f0,f1,f2,f3,f4,f5⟩:=hf it (by simp);refine wpAny_pyNext_tuple_item st (show s.heap.IsTuple a its.toArray from p) (x:=u) (by simpa using hu) fun h' st' sb=>?_;have I1:Inv X pz σ H {s with heap:=h'}:=I.turned (t':=s.toks) (fun b o hb e=>(sb.2 b hb).trans e) f0 f1 f3 f4 f5;obtain⟨o,e,c,d⟩:=id st';exact⟨u,rfl,Ai (s:={s with heap:=h'}) e c d (by decide) ⟨x,H,I1,ru,⟨rfl,fun ys hy=>by rw[I.tuple_inj hy hq];exact hx⟩,st',fun b hb=>(hf b hb).1⟩⟩
 done:=by intro X hP hw hK hc i pz s σ H E I hf st hg;subst hP hw hK;obtain⟨xs,hq,hx⟩:=hg;obtain⟨its,rv,p,hz⟩:=I.tuple hq;obtain⟨f0,f1,f2,f3,f4,f5⟩:=hf it (by simp);have hl:=rv.length;exact wpAny_pyNext_tuple_end (I.ok.hd hc) st (show s.heap.IsTuple a its.toArray from p) (by simp;lia) fun h' eb=>⟨rfl,I.turned (t':=s.toks) (fun b o hb e=>eb b o hb e) f0 f1 f3 f4 f5⟩
 self:=fun _ _ _ _ _ st h=>wpAny_pyIter_tupleiter st h
def zr {P:Zu} {w:Zv} {K:Zp} {tg:Zr} (it:Zx) (lo:Int) (n:Nat):Du P w K tg (Itr lo n) [it] it (fun i h=>IsRangeIter h it (lo+(i:Nat)*1) ((n:Int)-(i:Nat)) 1) where
 mem:=by simp
 obj:=fun i h st b hb=>by
  have e:b=it:=by simpa using hb
  subst e;exact⟨_,st,fun v z=>by have z':Data.fields _=Data.cell v:=z;cases z'⟩
 keep:=fun i h h' st k=>k it (by simp) _ st
 item:=by intro X hP hw hK hc i pz s σ H E I hf st hg;subst hP hw hK;obtain⟨f0,f1,f2,f3,f4,f5⟩:=hf it (by simp);have W:=Walks.range (prog:=X.prog) (w:=X.w) (I.ok.hd hc) it lo 1 n;refine W.item i s _ _ hg st fun v h' tk hv st' kk=>?_;obtain⟨t,rfl⟩:=hv;have I1:Inv X pz σ H {s with heap:=h',toks:=tk}:=I.turned (fun b o hb e=>kk b o (by simpa using hb) e) f0 f1 f3 f4 f5;refine⟨_,rfl,Ai (s:={s with heap:=h',toks:=tk}) (n:="range_iterator") st' rfl rfl (by decide) ⟨.int (lo+i),H,I1,⟨t,?_⟩,⟨rfl,rfl⟩,st',fun b hb=>(hf b hb).1⟩⟩;rw[Int.mul_one]
 done:=by intro X hP hw hK hc i pz s σ H E I hf st hg;subst hP hw hK;obtain⟨f0,f1,f2,f3,f4,f5⟩:=hf it (by simp);exact wpAny_pyNext_range_end (I.ok.hd hc) st (by have:n<=i:=hg;lia) fun h' eb=>⟨rfl,I.turned (t':=s.toks) (fun b o hb e=>eb b o hb e) f0 f1 f3 f4 f5⟩
 self:=fun _ _ _ _ _ st h=>wpAny_pyIter_rangeiter st h
section
variable {X:Cx} {tg:Zr}
def Jb (K:Zp) (tl:TE):TI:=fun σ H R=>tl σ H fun x H1=>∃a,x= .ref a/\(∃xs,SqL K H1 a xs)/\R (Itl K a) H1
def iTup (K:Zp) (tl:TE):TI:=fun σ H R=>tl σ H fun x H1=>∃a,x= .ref a/\(∃xs,SqT K H1 a xs)/\R (Itt K a) H1
def mq {l:Zr} {tl:TE} (hl:PE X l tl):PI X tg l (Jb X.K tl):=by
 intro pz s σ H R I h;refine thn (hl pz s σ H _ I h) ?_;rintro v s1 ⟨x,H1,I1,r1,q1⟩;obtain⟨a,e,⟨xs,hq⟩,q⟩:=q1;subst e;cases r1;obtain⟨its,rv,p,hz⟩:=I1.list hq;refine MA p.isList ?_;refine⟨s1.heap.objs.size,[s1.heap.objs.size],_,_,H1,rfl,I1.kept (t':=s1.toks) fun b o e=>fE _ e,Aj a _,⟨_,fD _ rfl,rfl,rfl⟩,fun b hb=>?_,q⟩;have e:b=s1.heap.objs.size:=by simpa using hb
 subst e;exact I1.fpOk (cH _) (I1.hok.fresh (cH _))
def rB {l:Zr} {tl:TE} (hl:PE X l tl):PI X tg l (iTup X.K tl):=by
 intro pz s σ H R I h;refine thn (hl pz s σ H _ I h) ?_;rintro v s1 ⟨x,H1,I1,r1,q1⟩;obtain⟨a,e,⟨xs,hq⟩,q⟩:=q1;subst e;cases r1;obtain⟨its,rv,p,hz⟩:=I1.tuple hq;refine wpAny_pyIter_tuple (show s1.heap.IsTuple a its.toArray from p) ?_;refine⟨s1.heap.objs.size,[s1.heap.objs.size],_,_,H1,rfl,I1.kept (t':=s1.toks) fun b o e=>fE _ e,zq a _,⟨_,fD _ rfl,rfl,rfl⟩,fun b hb=>?_,q⟩;have e:b=s1.heap.objs.size:=by simpa using hb
 subst e;exact I1.fpOk (cH _) (I1.hok.fresh (cH _))
def Co {pz:Za} {σ:St} {H:Hp} {s:Zy} {R:It->Hp->Prop} {E:Zb} {lo hi:Int} {t u v:Tok} {tk:Nat} (I:Inv X pz σ H s) (h1: -(2^62)<=lo) (h2:lo<2^62) (h3: -(2^62)<=hi) (h4:hi<2^62)
  (q:R (Itr lo (hi-lo).toNat) H):La (model X.prog X.w) X.A (pyIter (.ref s.heap.objs.size)) (PIE X pz σ tg R) E {s with heap:=s.heap.push {cls:= .type "range",data:= .fields #[.int lo t,.int hi u,.int 1 v]},toks:=tk}:=by
 refine wpAny_pyIter_range (IsRange.new ..) (small_one h1 h2 h3 h4) ?_;have I1:Inv X pz σ H {s with heap:=s.heap.push {cls:= .type "range",data:= .fields #[.int lo t,.int hi u,.int 1 v]},toks:=tk}:=I.kept fun b o e=>fE _ e;refine⟨(s.heap.push {cls:= .type "range",data:= .fields #[.int lo t,.int hi u,.int 1 v]}).objs.size,[(s.heap.push {cls:= .type "range",data:= .fields #[.int lo t,.int hi u,.int 1 v]}).objs.size],_,_,H,rfl,
  I1.kept (t':=tk) fun b o e=>fE _ e,zr _ lo (hi-lo).toNat,?_,fun b hb=>?_,q⟩
 ·have e1:lo+((0:Nat):Int)*1=lo:=by simp
  have e2:(((hi-lo).toNat:Nat):Int)-((0:Nat):Int)=Builtin.Range.rangeSize lo hi 1:=by rw[rangeSize_one];split<;>lia
  show IsRangeIter _ _ (lo+((0:Nat):Int)*1) ((((hi-lo).toNat:Nat):Int)-((0:Nat):Int)) 1;rw[e1,e2];exact fD _ rfl
 ·have e:b=(s.heap.push {cls:= .type "range",data:= .fields #[.int lo t,.int hi u,.int 1 v]}).objs.size:=by simpa using hb
  subst e;exact I1.fpOk (cH _) (I1.hok.fresh (cH _))
def Jc (ta:TA):TI:=fun σ H R=>ta σ H fun vs H1=>∃j:Int,vs=[.int j]/\-(2^62)<=j/\j<2^62/\R (Itr 0 j.toNat) H1
def jN {a:Zr} {ta:TA} {p pos:Pos} (hg:Gl X "range") (hm:X.mg "range"=none) (ha:PA X [a] ta) (hs:autoParam (Lg [a] X.env=[(false,eval a X.env)]) auR._auto_1):PI X tg (.Call (.Name "range" p) [a] [] pos) (Jc ta):=by
 intro pz s σ H R I h;refine Call_ (ph I hg hm boot_range (fJ (thn (ha pos pz s σ H _ I h) ?_) hs rfl));rintro us s1 ⟨vs,H1,I1,r1,q1⟩;obtain⟨j,e,q1,q2,q⟩:=q1;subst e
 cases r1 with
 |cons r rr=>cases rr;obtain⟨t,rfl⟩:=r;exact call_range_1 (Co I1 (by lia) (by lia) q1 q2 (by simpa using q))
def tFor (wi:TI) (g:TG) (tb:TS):TS:=fun D σ H=>wi σ H fun J H1=>∃W:Nat->Nat->St->Hp->Prop,(∃m,W 0 m σ H1)/\∀i m σ H,W i m σ H->
 (J.stop i H/\D.nx σ H)\/(J.go i H/\∃N:St->Hp->Prop,(∀σ' H',N σ' H'->∃m',m'<m/\W (i+ 1) m' σ' H')/\∀x H',J.yld i H x H'->g x σ H' fun σ2 H2=>tb {D with nx:=N,ct:=N,bk:=D.nx} σ2 H2)
def tN (fp:List Zx) (h:Zt):Za:=fp.filterMap fun b=>(h.get? b).map fun o=>(b,o)
def kT {fp:List Zx} {h:Zt} {b:Zx} {o:Obj} (hb:b∈fp) (e:h.get? b=some o):(b,o)∈tN fp h:=List.mem_filterMap.mpr ⟨b,hb,by rw[e];rfl⟩
def Ak {fp:List Zx} {h:Zt} {p:Zx×Obj} (hp:p∈tN fp h):p.1∈fp/\h.get? p.1=some p.2:=by
 obtain⟨b,hb,e⟩:=List.mem_filterMap.mp hp
 cases q:h.get? b with
 |none=>rw[q]at e;cases e
 |some o=>rw[q]at e;have e':(b,o)=p:=dm.inj e;subst e';exact⟨hb,q⟩
def Inv.pinned {pz:Za} {σ:St} {H:Hp} {s:Zy} {fp:List Zx} (I:Inv X pz σ H s) (hf:∀b∈fp,wR X pz H b) (ho:∀b∈fp,∃o,s.heap.get? b=some o/\∀v,o.data≠ .cell v):Inv X (pz++tN fp s.heap) σ H s:=
 I.pins_of fun p hp=>(ao.mp hp).elim (fun z=>I.pin p (ax _ z)) fun z=>by obtain⟨hb,e⟩:=Ak z;obtain⟨f0,f1,f2,_⟩:=hf p.1 hb;obtain⟨o,e',d⟩:=ho p.1 hb;rw[e]at e';cases e';exact⟨e,f0,f1,f2,d⟩
def Inv.unpinned {pz pl:Za} {σ:St} {H:Hp} {s:Zy} (I:Inv X (pz++pl) σ H s):Inv X pz σ H s:=I.pins_of fun p hp=>I.pin p (ax _ (aq _ hp))
def kl {iter:Zr} {body:List Zq} {wi:TI} {g:TG} {tb:TS} {pos:Pos} (hp:PassesOwn (model X.prog X.w) X.A X.env X.xe) (hc:X.calm=true) (hi:PI X tg iter wi) (hg:PG X tg g) (hb:PSs X body tb)
  (hs:autoParam (∀x,LY iter X.env x=pure x) auI._auto_1):PS X (.For tg iter body [] pos) (tFor wi g tb):=by
 intro pz s σ H D I h;refine wpAny_For (thn (hi pz s σ H _ I h) fun v s1 h1=>thn h1 fun itv s2 h2=>?_) hs;obtain⟨it,fp,tn,J,H2,e,I2,T,st2,f2,W,⟨m0,w0⟩,turn⟩:=h2;subst e;have stat:∀{H':Hp},(∀b∈fp,H' b=none)->∀b∈fp,wR X pz H' b:=fun hn b hb=>⟨hn b hb,(f2 b hb).2⟩;refine codeAny_forLoop_any (fun n s'=>∃i σ' H',Inv X pz σ' H' s'/\tn i s'.heap/\(∀b∈fp,H' b=none)/\W i n σ' H') ?_ m0 ⟨0,σ,H2,I2,st2,fun b hb=>(f2 b hb).1,w0⟩;rintro n s3 ⟨i,σ3,H3,I3,st3,fr3,w3⟩;rcases turn i n σ3 H3 w3 with⟨stop,qn⟩|⟨go,N,hN,step⟩;·refine LV hp (thn (T.done X rfl rfl rfl hc i pz s3 σ3 H3 X.xe I3 (stat fr3) st3 stop) fun r s4 ⟨hr,I4⟩=>?_);subst hr;exact wpAny_execs_nil ⟨σ3,H3,I4,qn⟩
 ·refine LV hp (thn (T.item X rfl rfl rfl hc i pz s3 σ3 H3 X.xe I3 (stat fr3) st3 go) ?_);rintro r s4 ⟨u,rfl,h4⟩;refine LV hp (thn h4 ?_);rintro _ s5 ⟨x,H5,I5,r5,y5,st5,fr5⟩;have I5':=I5.pinned (stat fr5) (T.obj _ _ st5);refine LV hp (thn (hg _ s5 σ3 H5 x u _ I5' r5 (step x H5 y5)) ?_);rintro _ s6 ⟨σ6,H6,I6,q6⟩;refine LV hp (thn (hb _ s6 σ6 H6 _ I6 q6) fun f s7 q7=>?_);have again:∀{σ7:St} {H7:Hp},Inv X (pz++tN fp s5.heap) σ7 H7 s7->N σ7 H7->∃m,m<n/\∃i σ' H',Inv X pz σ' H' s7/\tn i s7.heap/\(∀b∈fp,H' b=none)/\W i m σ' H':=fun{σ7 H7} I7 n7=>by obtain⟨m',hm,w7⟩:=hN σ7 H7 n7;refine⟨m',hm,i+ 1,σ7,H7,I7.unpinned,T.keep _ _ _ st5 fun b hb o e=>(I7.pin (b,o) (ax _ (ax _ (kT hb e)))).1,fun b hb=>?_,w7⟩;obtain⟨o,e,d⟩:=T.obj _ _ st5 b hb;exact(I7.pin (b,o) (ax _ (ax _ (kT hb e)))).2.1
  cases f with
  |next=>obtain⟨σ7,H7,I7,n7⟩:=q7;exact again I7 n7
  |cont=>obtain⟨σ7,H7,I7,n7⟩:=q7;exact again I7 n7
  |brk=>obtain⟨σ7,H7,I7,q7⟩:=q7;exact⟨σ7,H7,I7.unpinned,q7⟩
  |ret v=>obtain⟨x7,σ7,H7,I7,r7,q7⟩:=q7;exact⟨x7,σ7,H7,I7.unpinned,r7,q7⟩
end
def mv {K:Zp} {a:Zx} {xs:List V} {g:TG} {tb:TS} {D:pT} {σ:St} {H:Hp} (Pv:Nat->St->Hp->Prop) (h0:Pv 0 σ H) (hl:∀i σ H,i<=xs.length->Pv i σ H->SqL K H a xs)
  (hs:∀i x σ H,xs[i]?=some x->Pv i σ H->g x σ H fun σ2 H2=>tb {D with nx:=Pv (i+ 1),ct:=Pv (i+ 1),bk:=D.nx} σ2 H2) (hd:∀σ H,Pv xs.length σ H->D.nx σ H):
  ∃W:Nat->Nat->St->Hp->Prop,(∃m,W 0 m σ H)/\∀i m σ H,W i m σ H->
   ((Itl K a).stop i H/\D.nx σ H)\/((Itl K a).go i H/\∃N:St->Hp->Prop,(∀σ' H',N σ' H'->∃m',m'<m/\W (i+ 1) m' σ' H')/\∀x H',(Itl K a).yld i H x H'->g x σ H' fun σ2 H2=>tb {D with nx:=N,ct:=N,bk:=D.nx} σ2 H2):=by
 refine⟨fun i m σ H=>m=xs.length-i/\i<=xs.length/\Pv i σ H,⟨xs.length,by simp,cJ _,h0⟩,?_⟩;rintro i m σ H ⟨rfl,hi,p⟩;have q:=hl i σ H hi p;by_cases hlt:i<xs.length;·refine .inr ⟨⟨xs,xs[i],q,by simp[hlt]⟩,Pv (i+ 1),fun σ' H' p'=>⟨xs.length-(i+ 1),by lia,rfl,hlt,p'⟩,fun x H' y=>?_⟩;obtain⟨e,y⟩:=y;subst e;exact hs i x σ _ (y xs q) p
 ·have e:i=xs.length:=by lia
  subst e;exact .inl ⟨⟨xs,q,cH _⟩,hd σ H p⟩
def xo {K:Zp} {a:Zx} {xs:List V} {g:TG} {tb:TS} {D:pT} {σ:St} {H:Hp} (Pv:Nat->St->Hp->Prop) (h0:Pv 0 σ H) (hl:∀i σ H,i<=xs.length->Pv i σ H->SqT K H a xs)
  (hs:∀i x σ H,xs[i]?=some x->Pv i σ H->g x σ H fun σ2 H2=>tb {D with nx:=Pv (i+ 1),ct:=Pv (i+ 1),bk:=D.nx} σ2 H2) (hd:∀σ H,Pv xs.length σ H->D.nx σ H):
  ∃W:Nat->Nat->St->Hp->Prop,(∃m,W 0 m σ H)/\∀i m σ H,W i m σ H->
   ((Itt K a).stop i H/\D.nx σ H)\/((Itt K a).go i H/\∃N:St->Hp->Prop,(∀σ' H',N σ' H'->∃m',m'<m/\W (i+ 1) m' σ' H')/\∀x H',(Itt K a).yld i H x H'->g x σ H' fun σ2 H2=>tb {D with nx:=N,ct:=N,bk:=D.nx} σ2 H2):=by
 refine⟨fun i m σ H=>m=xs.length-i/\i<=xs.length/\Pv i σ H,⟨xs.length,by simp,cJ _,h0⟩,?_⟩;rintro i m σ H ⟨rfl,hi,p⟩;have q:=hl i σ H hi p;by_cases hlt:i<xs.length;·refine .inr ⟨⟨xs,xs[i],q,by simp[hlt]⟩,Pv (i+ 1),fun σ' H' p'=>⟨xs.length-(i+ 1),by lia,rfl,hlt,p'⟩,fun x H' y=>?_⟩;obtain⟨e,y⟩:=y;subst e;exact hs i x σ _ (y xs q) p
 ·have e:i=xs.length:=by lia
  subst e;exact .inl ⟨⟨xs,q,cH _⟩,hd σ H p⟩
def mY {lo:Int} {n:Nat} {g:TG} {tb:TS} {D:pT} {σ:St} {H:Hp} (Pv:Nat->St->Hp->Prop) (h0:Pv 0 σ H)
  (hs:∀i σ H,i<n->Pv i σ H->g (.int (lo+i)) σ H fun σ2 H2=>tb {D with nx:=Pv (i+ 1),ct:=Pv (i+ 1),bk:=D.nx} σ2 H2) (hd:∀σ H,Pv n σ H->D.nx σ H):
  ∃W:Nat->Nat->St->Hp->Prop,(∃m,W 0 m σ H)/\∀i m σ H,W i m σ H->
   ((Itr lo n).stop i H/\D.nx σ H)\/((Itr lo n).go i H/\∃N:St->Hp->Prop,(∀σ' H',N σ' H'->∃m',m'<m/\W (i+ 1) m' σ' H')/\∀x H',(Itr lo n).yld i H x H'->g x σ H' fun σ2 H2=>tb {D with nx:=N,ct:=N,bk:=D.nx} σ2 H2):=by
 refine⟨fun i m σ H=>m=n-i/\i<=n/\Pv i σ H,⟨n,by simp,cJ _,h0⟩,?_⟩;rintro i m σ H ⟨rfl,hi,p⟩;by_cases hlt:i<n;·refine .inr ⟨hlt,Pv (i+ 1),fun σ' H' p'=>⟨n-(i+ 1),by lia,rfl,hlt,p'⟩,fun x H' y=>?_⟩;obtain⟨e,y⟩:=y;subst e y;exact hs i σ _ hlt p
 ·have e:i=n:=by lia
  subst e;exact .inl ⟨cH _,hd σ H p⟩
abbrev R2:=V->V->Hp->VK->Prop
def OpR (X:Cx) (f:Zz->Zz->Sem Zz) (r:R2):Prop:=
 ∀(pz:Za) (s:Zy) (σ:St) (H:Hp) (x y:V) (v u:Zz) (Q:VK),Inv X pz σ H s->iQ x v->iQ y u->r x y H Q->
  La (model X.prog X.w) X.A (f v u) (EP X pz σ Q) X.xe s
def UnR (X:Cx) (f:Zz->Sem Zz) (r:V->Hp->VK->Prop):Prop:=
 ∀(pz:Za) (s:Zy) (σ:St) (H:Hp) (x:V) (v:Zz) (Q:VK),Inv X pz σ H s->iQ x v->r x H Q->
  La (model X.prog X.w) X.A (f v) (EP X pz σ Q) X.xe s
def nQ (X:Cx) (f:Zz) (r:List V->Hp->VK->Prop):Prop:=
 ∀(pz:Za) (s:Zy) (σ:St) (H:Hp) (xs:List V) (us:List Zz) (Q:VK),Inv X pz σ H s->iR xs us->r xs H Q->
  La (model X.prog X.w) X.A (call f us) (EP X pz σ Q) X.xe s
def tOp (r:R2) (ta tb:TE):TE:=fun σ H Q=>ta σ H fun x H1=>tb σ H1 fun y H2=>r x y H2 Q
def tUn (r:V->Hp->VK->Prop) (ta:TE):TE:=fun σ H Q=>ta σ H fun x H1=>r x H1 Q
def rI (C:Int->Int->Prop) (g:Int->Int->V):R2:=fun x y H Q=>∃i j,x= .int i/\y= .int j/\C i j/\Q (g i j) H
def rI0 (g:Int->Int->V):R2:=fun x y H Q=>∃i j,x= .int i/\y= .int j/\Q (g i j) H
def rU (g:Int->V):V->Hp->VK->Prop:=fun x H Q=>∃i,x= .int i/\Q (g i) H
section
variable {X:Cx} {a b c:Zr} {ta tb tc:TE} {pos:Pos}
def Jd (ha:PE X a ta) (hb:PE X b tb) {pz:Za} {s:Zy} {σ:St} {H:Hp} {R:V->V->Hp->Prop} (I:Inv X pz σ H s)
  (h:ta σ H fun x H1=>tb σ H1 fun y H2=>R x y H2) {Q:Zb} {f:Zz->Zz->Sem Zz}
  (hf:∀v u s2 x y H2,Inv X pz σ H2 s2->iQ x v->iQ y u->R x y H2->La (model X.prog X.w) X.A (f v u) Q X.xe s2):
  La (model X.prog X.w) X.A (eval a X.env) (fun v s₁=>La (model X.prog X.w) X.A (eval b X.env) (fun u s₂=>La (model X.prog X.w) X.A (f v u) Q X.xe s₂) X.xe s₁) X.xe s:=by refine thn (ha pz s σ H _ I h) ?_;rintro v s1 ⟨x,H1,I1,r1,q1⟩;refine thn (hb pz s1 σ H1 _ I1 q1) ?_;rintro u s2 ⟨y,H2,I2,r2,q2⟩;exact hf v u s2 x y H2 I2 r1 r2 q2
def gB {op:Operator} {r:R2} (ho:OpR X (Ly op) r) (ha:PE X a ta) (hb:PE X b tb):PE X (.BinOp a op b pos) (tOp r ta tb):=by intro pz s σ H Q I h;exact wpAny_BinOp (Jd ha hb I h fun v u s2 x y H2 I2 rx ry q=>ho pz s2 σ H2 x y v u Q I2 rx ry q)
def GB {op:UnaryOp} {r:V->Hp->VK->Prop} (ho:UnR X (unaryOp op) r) (ha:PE X a ta):PE X (.UnaryOp op a pos) (tUn r ta):=by intro pz s σ H Q I h;exact UnaryOp_ (thn (ha pz s σ H _ I h) fun v s1 ⟨x,H1,I1,r1,q1⟩=>ho pz s1 σ H1 x v Q I1 r1 q1)
def opI {f:Zz->Zz->Sem Zz} {C:Int->Int->Prop} {g:Int->Int->Int}
  (rule:∀(i j:Int) (t u:Tok) (s:Zy) (Q:Zb) (E:Zb),C i j->Q (.int (g i j) s.toks) {s with toks:=s.toks+ 1}->La (model X.prog X.w) X.A (f (.int i t) (.int j u)) Q E s):
  OpR X f (rI C fun i j=> .int (g i j)):=by intro pz s σ H x y v u Q I rx ry h;obtain⟨i,j,rfl,rfl,hc,q⟩:=h;obtain⟨t,rfl⟩:=rx;obtain⟨t',rfl⟩:=ry;exact rule i j t t' s _ _ hc ⟨.int (g i j),H,I.tok _,⟨_,rfl⟩,q⟩
def KG {f:Zz->Zz->Sem Zz} {g:Int->Int->Int}
  (rule:∀(i j:Int) (t u:Tok) (s:Zy) (Q:Zb) (E:Zb),Q (.int (g i j) s.toks) {s with toks:=s.toks+ 1}->La (model X.prog X.w) X.A (f (.int i t) (.int j u)) Q E s):
  OpR X f (rI0 fun i j=> .int (g i j)):=by intro pz s σ H x y v u Q I rx ry h;obtain⟨i,j,rfl,rfl,q⟩:=h;obtain⟨t,rfl⟩:=rx;obtain⟨t',rfl⟩:=ry;exact rule i j t t' s _ _ ⟨.int (g i j),H,I.tok _,⟨_,rfl⟩,q⟩
def IJ {f:Zz->Zz->Sem Zz} {g:Int->Int->Bool}
  (rule:∀(i j:Int) (t u:Tok) (s:Zy) (Q:Zb) (E:Zb),Q (.bool (g i j)) s->La (model X.prog X.w) X.A (f (.int i t) (.int j u)) Q E s):
  OpR X f (rI0 fun i j=> .bl (g i j)):=by intro pz s σ H x y v u Q I rx ry h;obtain⟨i,j,rfl,rfl,q⟩:=h;obtain⟨t,rfl⟩:=rx;obtain⟨t',rfl⟩:=ry;exact rule i j t t' s _ _ ⟨.bl (g i j),H,I,rfl,q⟩
def KH (i j:Int):Prop:=0<j/\j<1073741824
def KI (i j:Int):Prop:=0<=j/\j<=1000000/\i.natAbs<2^64
def IK (i j:Int):Prop:=(-(2^64)<i/\i<2^64)\/(-(2^64)<j/\j<2^64)
def IK.ok {i j:Int} (h:IK i j):IntMulOk i j:=by
 rcases h with⟨h1,h2⟩|⟨h1,h2⟩;·exact .of_left (intBits_le_64 h1 h2)
 ·exact .of_right (intBits_le_64 h1 h2)
def Dv:OpR X (Ly .Add) (rI0 fun i j=> .int (i+j)):=KG fun _ _ _ _ _ _ _ q=>add_int q
def GC:OpR X (Ly .Sub) (rI0 fun i j=> .int (i-j)):=KG fun _ _ _ _ _ _ _ q=>sub_int q
def GD:OpR X (Ly .Mult) (rI IK fun i j=> .int (i*j)):=opI fun _ _ _ _ _ _ _ hc q=>mul_int q hc.ok
def Em:OpR X (Ly .FloorDiv) (rI KH fun i j=> .int (i/j)):=opI fun i j _ _ _ _ _ hc q=>by have h1:(0:Int)<j:=hc.1;have h2:j<1073741824:=hc.2;exact floordiv_int (by lia) (by rw[Int.fdiv_eq_ediv_of_nonneg i (by lia)];exact q) (.inl (PyProof.noPylong_small (by lia)))
def GF:OpR X (Ly .Mod) (rI (fun _ j=>0<j) fun i j=> .int (i%j)):=opI fun i j _ _ _ _ _ hc q=>by have h1:(0:Int)<j:=hc;exact mod_int' (by lia) (by rw[Int.fmod_eq_emod_of_nonneg i (by lia)];exact q)
def GG:OpR X (Ly .Pow) (rI KI fun i j=> .int (i^j.toNat)):=opI fun _ _ _ _ _ _ _ hc q=>pow_int_small hc.1 hc.2.1 hc.2.2 q
def unI {f:Zz->Sem Zz} {g:Int->Int}
  (rule:∀(i:Int) (t:Tok) (s:Zy) (Q:Zb) (E:Zb),Q (.int (g i) s.toks) {s with toks:=s.toks+ 1}->La (model X.prog X.w) X.A (f (.int i t)) Q E s):
  UnR X f (rU fun i=> .int (g i)):=by intro pz s σ H x v Q I rx h;obtain⟨i,rfl,q⟩:=h;obtain⟨t,rfl⟩:=rx;exact rule i t s _ _ ⟨.int (g i),H,I.tok _,⟨_,rfl⟩,q⟩
def Dw:UnR X (unaryOp .USub) (rU fun i=> .int (-i)):=unI fun _ _ _ _ _ q=>neg_int q
end
def KJ:V->V->Bool
 | .non,.non=>true| .non,.int _=>true| .int _,.non=>true| .non,.bl _=>true| .bl _,.non=>true| .non,.str _=>true| .str _,.non=>true
 | .int _,.int _=>true| .bl _,.bl _=>true| .str _,.str _=>true| .byt _,.byt _=>true
 | .int _,.str _=>true| .str _,.int _=>true| .bl _,.str _=>true| .str _,.bl _=>true
 |_,_=>false
def rEq:R2:=fun x y H Q=>KJ x y=true/\Q (.bl (decide (x=y))) H
def rNe:R2:=fun x y H Q=>KJ x y=true/\Q (.bl (!decide (x=y))) H
def Am {i j:Int}:decide (V.int i=V.int j)=(i==j):=by rw[eW];simp
def Dx {i j:Bool}:decide (V.bl i=V.bl j)=(i==j):=by rw[eW];simp
def An {i j:Str}:decide (V.str i=V.str j)=(i==j):=by rw[eW];simp
def Ao {i j:Array UInt8}:decide (V.byt i=V.byt j)=(i.toList==j.toList):=by rw[eW];cases i;cases j;simp
section
variable {X:Cx} {a b c:Zr} {ta tb tc:TE} {pos:Pos}
def iF {pz:Za} {σ:St} {H:Hp} {s:Zy} {Q:VK} {k k':Bool} (I:Inv X pz σ H s) (q:Q (.bl k) H) (e:k=k'):EP X pz σ Q (.bool k') s:=by subst e;exact⟨.bl k,H,I,rfl,q⟩
def uq:OpR X (Lp .Eq) rEq:=by
 intro pz s σ H x y v u Q I rx ry h;obtain⟨hs,q⟩:=h
 cases x with
 |non=>
  cases rx
  cases y with
  |non=>cases ry;exact PySem.EqNone.eq_none_none (iF I q (by simp))
  |bl j=>cases ry;exact PySem.EqNone.eq_none_bool (iF I q (by simp))
  |int j=>obtain⟨t',rfl⟩:=ry;exact PySem.EqNone.eq_none_int (iF I q (by simp))
  |str j=>obtain⟨t',rfl⟩:=ry;exact PySem.EqNone.eq_none_str (iF I q (by simp))
  |_=>exact absurd (show false=true from hs) eV
 |bl i=>
  cases rx
  cases y with
  |non=>cases ry;exact PySem.EqNone.eq_bool_none (iF I q (by simp))
  |bl j=>cases ry;exact eq_bool (iF I q Dx)
  |str j=>obtain⟨t',rfl⟩:=ry;exact PySem.EqMixed.eq_bool_str (iF I q (by simp))
  |_=>exact absurd (show false=true from hs) eV
 |int i=>
  obtain⟨t,rfl⟩:=rx
  cases y with
  |non=>cases ry;exact PySem.EqNone.eq_int_none (iF I q (by simp))
  |int j=>obtain⟨t',rfl⟩:=ry;exact eq_int (iF I q Am)
  |str j=>obtain⟨t',rfl⟩:=ry;exact PySem.EqMixed.eq_int_str (iF I q (by simp))
  |_=>exact absurd (show false=true from hs) eV
 |str i=>
  obtain⟨t,rfl⟩:=rx
  cases y with
  |non=>cases ry;exact PySem.EqNone.eq_str_none (iF I q (by simp))
  |bl j=>cases ry;exact PySem.EqMixed.eq_str_bool (iF I q (by simp))
  |int j=>obtain⟨t',rfl⟩:=ry;exact PySem.EqMixed.eq_str_int (iF I q (by simp))
  |str j=>obtain⟨t',rfl⟩:=ry;exact eq_str (iF I q An)
  |_=>exact absurd (show false=true from hs) eV
 |byt i=>
  obtain⟨t,rfl⟩:=rx
  cases y with
  |byt j=>obtain⟨t',rfl⟩:=ry;exact PySem.W.eq_bytes (iF I q Ao)
  |_=>exact absurd (show false=true from hs) eV
 |_=>cases y<;>exact absurd (show false=true from hs) eV
def oj:OpR X (Lp .NotEq) rNe:=by
 intro pz s σ H x y v u Q I rx ry h;obtain⟨hs,q⟩:=h
 cases x with
 |non=>
  cases rx
  cases y with
  |non=>cases ry;exact PySem.EqNone.ne_none_none (iF I q (by simp))
  |bl j=>cases ry;exact PySem.EqNone.ne_none_bool (iF I q (by simp))
  |int j=>obtain⟨t',rfl⟩:=ry;exact PySem.EqNone.ne_none_int (iF I q (by simp))
  |str j=>obtain⟨t',rfl⟩:=ry;exact PySem.EqNone.ne_none_str (iF I q (by simp))
  |_=>exact absurd (show false=true from hs) eV
 |bl i=>
  cases rx
  cases y with
  |non=>cases ry;exact PySem.EqNone.ne_bool_none (iF I q (by simp))
  |bl j=>cases ry;exact ne_bool (iF I q (congrArg not Dx))
  |str j=>obtain⟨t',rfl⟩:=ry;exact PySem.EqMixed.ne_bool_str (iF I q (by simp))
  |_=>exact absurd (show false=true from hs) eV
 |int i=>
  obtain⟨t,rfl⟩:=rx
  cases y with
  |non=>cases ry;exact PySem.EqNone.ne_int_none (iF I q (by simp))
  |int j=>obtain⟨t',rfl⟩:=ry;exact ne_int (iF I q (congrArg not Am))
  |str j=>obtain⟨t',rfl⟩:=ry;exact PySem.EqMixed.ne_int_str (iF I q (by simp))
  |_=>exact absurd (show false=true from hs) eV
 |str i=>
  obtain⟨t,rfl⟩:=rx
  cases y with
  |non=>cases ry;exact PySem.EqNone.ne_str_none (iF I q (by simp))
  |bl j=>cases ry;exact PySem.EqMixed.ne_str_bool (iF I q (by simp))
  |int j=>obtain⟨t',rfl⟩:=ry;exact PySem.EqMixed.ne_str_int (iF I q (by simp))
  |str j=>obtain⟨t',rfl⟩:=ry;exact ne_str (iF I q (congrArg not An))
  |_=>exact absurd (show false=true from hs) eV
 |byt i=>
  obtain⟨t,rfl⟩:=rx
  cases y with
  |byt j=>obtain⟨t',rfl⟩:=ry;exact PySem.W.ne_bytes (iF I q (congrArg not Ao))
  |_=>exact absurd (show false=true from hs) eV
 |_=>cases y<;>exact absurd (show false=true from hs) eV
def GH:OpR X (Lp .Lt) (rI0 fun i j=> .bl (decide (i<j))):=IJ fun _ _ _ _ _ _ _ q=>lt_int q
def sZ:OpR X (Lp .LtE) (rI0 fun i j=> .bl (decide (i<=j))):=IJ fun _ _ _ _ _ _ _ q=>le_int q
def GI:OpR X (Lp .Gt) (rI0 fun i j=> .bl (decide (j<i))):=IJ fun _ _ _ _ _ _ _ q=>gt_int q
def Je:OpR X (Lp .GtE) (rI0 fun i j=> .bl (decide (j<=i))):=IJ fun _ _ _ _ _ _ _ q=>ge_int q
def vH:OpR X (Lp .In) (fun x y H Q=>∃i j,x= .str i/\y= .str j/\Q (.bl (!(My j i 0 j.length 1).isEmpty)) H):=by intro pz s σ H x y v u Q I rx ry h;obtain⟨i,j,rfl,rfl,q⟩:=h;obtain⟨t,rfl⟩:=rx;obtain⟨t',rfl⟩:=ry;exact in_str (iF I q rfl)
def Ap (b:Zr) {op:CmpOp} (h:autoParam (op≠ .In) auD._auto_1) (h2:autoParam (op≠ .NotIn) auD._auto_1):LJ op b=false:=by
 have e1:(op==CmpOp.In)=false:=by cases op<;>first|rfl|exact absurd rfl h
 have e2:(op==CmpOp.NotIn)=false:=by cases op<;>first|rfl|exact absurd rfl h2
 cases b<;>simp[LJ,e1,e2]
def jO {op:CmpOp} {r:R2} (ho:OpR X (Lp op) r) (ha:PE X a ta) (hb:PE X b tb) (hm:LJ op b=false:=by exact Ap _):PE X (.Compare a [op] [b] pos) (tOp r ta tb):=by intro pz s σ H Q I h;exact wpAny_Compare1 (Jd ha hb I h fun v u s2 x y H2 I2 rx ry q=>ho pz s2 σ H2 x y v u Q I2 rx ry q) hm
def GJ (t:TE):TT:=fun σ H Q=>t σ H fun x H'=>∃k,x= .bl k/\Q k H'
def jg {op:CmpOp} {r:R2} (ho:OpR X (Lp op) r) (ha:PE X a ta) (hb:PE X b tb) (hm:LJ op b=false:=by exact Ap _):PT X (.Compare a [op] [b] pos) (GJ (tOp r ta tb)):=by
 intro pz s σ H Q I h;refine wpAny_isTrue_Compare1 (thn (ha pz s σ H _ I h) fun v s1 ⟨x,H1,I1,r1,q1⟩=>thn (hb pz s1 σ H1 _ I1 q1) fun u s2 ⟨y,H2,I2,r2,q2⟩=>
  thn (ho pz s2 σ H2 x y v u _ I2 r1 r2 q2) fun c s3 ⟨z,H3,I3,r3,k,e,q3⟩=>?_) hm;subst e;cases r3;exact Lx ⟨H3,I3,q3⟩
def GK (r r':R2) (ta tb tc:TE):TE:=fun σ H Q=>ta σ H fun x H1=>tb σ H1 fun y H2=>r x y H2 fun z H3=>∃k,z= .bl k/\
 (if k=true then tc σ H3 fun w' H4=>r' y w' H4 Q else Q (.bl false) H3)
def pj {op op':CmpOp} {r r':R2} (ho:OpR X (Lp op) r) (ho':OpR X (Lp op') r') (ha:PE X a ta) (hb:PE X b tb) (hc:PE X c tc)
  (hm:lastMarks [op,op'] [b,c]=false:=by with_unfolding_all rfl):PT X (.Compare a [op,op'] [b,c] pos) (GJ (GK r r' ta tb tc)):=by
 intro pz s σ H Q I h;refine isTrue_chain (thn (ha pz s σ H _ I h) fun v s1 ⟨x,H1,I1,r1,q1⟩=>test_link (thn (hb pz s1 σ H1 _ I1 q1) fun u s2 ⟨y,H2,I2,r2,q2⟩=>
  thn (ho pz s2 σ H2 x y v u _ I2 r1 r2 q2) fun d s3 ⟨z,H3,I3,r3,k,e,q3⟩=>?_)) hm;subst e;cases r3;refine Lx ?_
 cases k with
 |false=>obtain⟨k',e',q'⟩:=q3;cases e';exact ite_ff ⟨H3,I3,q'⟩
 |true=>refine ite_tt (test_last (thn (hc pz s3 σ H3 _ I3 q3) fun w' s4 ⟨z',H4,I4,r4,q4⟩=>thn (ho' pz s4 σ H4 y z' u w' _ I4 r2 r4 q4) ?_));rintro d' s5 ⟨z2,H5,I5,r5,k2,rfl,q5⟩;cases r5;exact Lx ⟨H5,I5,q5⟩
def tO:(sizeLine:Nat)<2^63:=by rw[Lc];decide
def tP:OpR X (Ly .Add) (fun x y H Q=>∃i j,x= .str i/\y= .str j/\i.length+j.length<=sizeLine/\Q (.str (i++j)) H):=by intro pz s σ H x y v u Q I rx ry h;obtain⟨i,j,rfl,rfl,hz,q⟩:=h;obtain⟨t,rfl⟩:=rx;obtain⟨t',rfl⟩:=ry;exact add_str (fun t' tk=>⟨.str (i++j),H,I.tok _,⟨_,rfl⟩,q⟩) hz
def my {x:V} {us:List Zz} (r:iR [x] us):∃u,us=[u]/\iQ x u:=by
 cases r with
 |cons r1 r2=>cases r2;exact⟨_,rfl,r1⟩
def Aq {x y:V} {us:List Zz} (r:iR [x,y] us):∃u w',us=[u,w']/\iQ x u/\iQ y w':=by
 cases r with
 |cons r1 r2=>
  cases r2 with
  |cons r3 r4=>cases r4;exact⟨_,_,rfl,r1,r3⟩
def Ar (hc:X.calm=true):nQ X (.builtin "max") (fun xs H Q=>∃i j,xs=[.int i,.int j]/\Q (.int (if j>i then j else i)) H):=by
 intro pz s σ H xs us Q I r h;obtain⟨i,j,rfl,q⟩:=h;obtain⟨u,w',rfl,⟨t,rfl⟩,⟨t',rfl⟩⟩:=Aq r;refine max_two_ints (I.ok.hd hc) fun h' tk k=>⟨_,H,I.kept k,?_,q⟩;by_cases hj:j>i;·rw[gT hj,gT hj];exact⟨_,rfl⟩
 ·rw[gN hj,gN hj];exact⟨_,rfl⟩
def As:nQ X (.type "int") (fun xs H Q=>(∃i,xs=[.int i]/\Q (.int i) H)\/∃k,xs=[.bl k]/\Q (.int (if k then 1 else 0)) H):=by
 intro pz s σ H xs us Q I r h;rcases h with⟨i,rfl,q⟩|⟨k,rfl,q⟩;·obtain⟨u,rfl,t,rfl⟩:=my r;exact call_int_int ⟨.int i,H,I,⟨_,rfl⟩,q⟩
 ·obtain⟨u,rfl,r1⟩:=my r;cases r1;exact call_int_bool ⟨.int (if k then 1 else 0),H,I.tok _,⟨_,rfl⟩,q⟩
def vI:nQ X (.type "str") (fun xs H Q=>∃i,xs=[.int i]/\i.natAbs.log2<1920/\Q (.str (toString i)) H):=by intro pz s σ H xs us Q I r h;obtain⟨i,rfl,hz,q⟩:=h;obtain⟨u,rfl,t,rfl⟩:=my r;exact PySem.P.str_of_int hz ⟨.str _,H,I.tok _,⟨_,rfl⟩,q⟩
end
structure Eo (h:Zt) (x dx C:Zx) (mA:Zc):Prop where
 obj:h.get? x=some (dz C dx)
 ns:h.Ns1 dx mA
 ne:dx≠x
def Au {h:Zt} {dx:Zx} {mA:Zc} (n:h.Ns1 dx mA):∃od,h.get? dx=some od/\∀name,dB name od=some (mA name):=by
 obtain⟨o,es,ep,ho,hd,hk,_,hm⟩:=n;refine⟨o,ho,fun name=>?_⟩;have e:=hm name;unfold nsFind findBy at e;rw[<-Array.find?_toList]at e;unfold dB;rw[hd];dsimp only;split;·rename_i y q;rw[q]at e;exact congrArg some e
 ·rename_i q;rw[q]at e;have a:es.toList.any (·.refKey)=false:=by rw[List.any_eq_false];intro y hy;obtain⟨z,t,hkey⟩:=hk y (Array.mem_toList_iff.mp hy);simp[DictEntry.refKey,hkey]
  have a':¬es.toList.any (·.refKey)=true:=by rw[a];exact eV
  rw[gN a'];exact congrArg some e
def Eo.look {h:Zt} {x dx C:Zx} {mA:Zc} (I:Eo h x dx C mA):∃od,PySem.W.InstAt h x (dz C dx) C (some od)/\∀name,dB name od=some (mA name):=
 let⟨od,ho,hl⟩:=Au I.ns
 ⟨od,⟨I.obj,rfl,rfl,ho⟩,hl⟩
section
variable {prog:Zu} {w:Zv} {A:Zw} {E:Zb} {s:Zy} {K:Zp} {x dx C f:Zx} {mA:Zc} {name:Str} {v:Zz}
def Ep {expr:Bool} {Q:Zb} (X:K.In s.heap) (I:Eo s.heap x dx C mA) (hg:dC K C name=true) (hh:dD K C=true)
  (ha:dE K (.ref C) name=some none) (hv:mA name=some v) (hv':PySem.W.handedIn v=true) (h:Q v {s with toks:=s.toks+ 1}):
  La (model prog w) A (getAttr (.ref x) name expr) Q E s:=by obtain⟨od,J,hl⟩:=I.look;exact PySem.W.get_value X J (dF hg).1 (PySem.W.findObj_own hh ha rfl (by rw[hl,hv])) hv' h
def Cp {pl:Sem Bool} {Q:Zz×List Zz->Zy->Prop} (X:K.In s.heap) (I:Eo s.heap x dx C mA) (hg:dC K C name=true)
  (hf:dE K (.ref C) name=some (some (.ref f))) (ht:dG K (.ref f)=true) (hv:mA name=none) (h:Q (.ref f,[.ref x]) s):
  La (model prog w) A (getMethod (.ref x) name pl) Q E s:=by obtain⟨od,J,hl⟩:=I.look;exact PySem.W.method_fn X J (dF hg).1 (dF hg).2 hf (beq_iff_eq.mp ht) (by show(dB name od).map (·.isSome)=some false;rw[hl,hv];rfl) h
def Er {ns:Zd} {Q:Unit->Zy->Prop} (X:K.In s.heap) (I:Eo s.heap x dx C mA)
  (hs:dE K (.ref C) "__setattr__"=some (some (.builtin "object.__setattr__"))) (hp:dH K C=true) (ht:dI K C name=some none) (hh:dD K C=true)
  (hw:PySem.Within mA ns) (hsz:ns.length<=sizeLine)
  (h:∀h',Eo h' x dx C (fun y=>if y=name then some v else mA y)->Mj dx s.heap h'->Q () {s with heap:=h',toks:=s.toks+ 2}):
  La (model prog w) A (setAttr (.ref x) name v) Q E s:=by obtain⟨od,J,hl⟩:=I.look;refine PySem.W.set_plain X J hs (PySem.W.osa_open (s:={s with toks:=s.toks+ 1}) (r:=none) X J hp ht fun b=>?_);obtain⟨cd,hc,hd'⟩:=PySem.W.any_some hh;have hx:s.heap.get? x=some ⟨.ref C,some dx,.plain,#[]⟩:=I.obj;refine C5 (Lb (C5 (C5 (wpAny_loadPart hx (C5 (PySem.W.Looks.here (s:={s with toks:=s.toks+ 1}) (PySem.W.looks_clsIn X hc) ?_))))));rw[hd'];refine Lb (a:=some dx) (C5 (Lb (C5 ?_)));refine wpAny_nsSet1 (s:={s with toks:=s.toks+ 1}) I.ns fun h' hn2 hs2=>?_;obtain⟨oD,esD,epD,hoD,hdD,hcD⟩:=hn2.count (PySem.Within.cons name v hw);refine C5 (wpAny_lookBehind hoD (by rw[hdD];exact pastItsLine_dict (cE hcD (by rw[aA];lia))) ?_);exact Lb (h _ ⟨(hs2.2 _ (Lq I.ne)).trans I.obj,hn2,I.ne⟩ hs2)
def Cq {R:Result->Zy->Prop} {vs:List Zz} {kw:List (Str×Zz)} (X:K.In s.heap) (hm:dJ K C=true)
  (hi:dE K (.ref C) "__init__"=some (some (.ref f))) (hf:PySem.W.typeIn K (.ref f)=some (.type "function"))
  (h:Me (model prog w) (A.under (.builtin "type.__call__" ⟨.ref C::vs,kw⟩)) (.call (.ref f) ⟨.ref (s.heap.objs.size+ 1)::vs,kw⟩) (PySem.W.InitBack (s.heap.objs.size+ 1) R)
   {s with heap:=(s.heap.push dM).push (dz C s.heap.objs.size)}):
  Me (model prog w) A (.call (.ref C) ⟨vs,kw⟩) R s:=by obtain⟨hh,g,d,t,os⟩:=s;exact PySem.W.make_core (PySem.W.makes_of X hm) (PySem.W.looks_findIn X hi) (fun self=>PySem.W.bind_fn X self hf) (.inl rfl) h
end
def jD (f:Str) (v:V):List (Str×V)->List (Str×V)
 |[]=>[(f,v)]
 |(g,x)::r=>if g=f then(g,v)::r else(g,x)::jD f v r
theorem rC (f g:Str) (v:V):∀fs:List (Str×V),(jD f v fs).lookup g=if g=f then some v else fs.lookup g
 |[]=>by
  show aB g [(f,v)]=_;by_cases h:g=f;·have hb:(g==f)=true:=beq_iff_eq.mpr h;simp only[aB,hb,gT h]
  ·have hb:(g==f)=false:=beq_eq_false_iff_ne.mpr h;simp only[aB,hb,gN h]
 |(k,x)::r=>by
  have ih:=rC f g v r;rw[show jD f v ((k,x)::r)=(if k=f then(k,v)::r else(k,x)::jD f v r)from rfl];by_cases hk:k=f
  ·rw[gT hk];by_cases h:g=k;·have hb:(g==k)=true:=beq_iff_eq.mpr h;simp only[aB,hb,gT (h.trans hk)]
   ·have hb:(g==k)=false:=beq_eq_false_iff_ne.mpr h;simp only[aB,hb,gN (fun e:g=f=>h (e.trans hk.symm))]
  ·rw[gN hk];by_cases h:g=k;·have hb:(g==k)=true:=beq_iff_eq.mpr h;simp only[aB,hb,gN (fun e:g=f=>hk (h.symm.trans e))]
   ·have hb:(g==k)=false:=beq_eq_false_iff_ne.mpr h;simp only[aB,hb];exact ih
theorem rD (f:Str) (v:V):∀fs:List (Str×V),f∈(jD f v fs).map (·.1)/\∀g,g∈fs.map (·.1)->g∈(jD f v fs).map (·.1)
 |[]=>⟨by simp[jD],fun g h=>by simp at h⟩
 |(k,x)::r=>by
  obtain⟨i1,i2⟩:=rD f v r;rw[show jD f v ((k,x)::r)=(if k=f then(k,v)::r else(k,x)::jD f v r)from rfl];by_cases hk:k=f;·rw[gT hk];subst hk;exact⟨by simp,fun g h=>by simpa using h⟩
  ·rw[gN hk];refine⟨?_,fun g h=>?_⟩;·rw[aC];exact aj _ i1
   ·rw[aC]at h⊢;rcases ak.mp h with e|e;·exact ak.mpr (.inl e)
    ·exact aj _ (i2 g e)
theorem rE (f:Str) (v:V):∀fs:List (Str×V),(jD f v fs).length<=fs.length+ 1
 |[]=>by simp[jD]
 |(k,x)::r=>by
  have ih:=rE f v r;rw[show jD f v ((k,x)::r)=(if k=f then(k,v)::r else(k,x)::jD f v r)from rfl];by_cases hk:k=f;·rw[gT hk,aA,aA];lia
  ·rw[gN hk,aA,aA];lia
def um.some_of {v:V} {o:Option Zz} (r:um (some v) o):∃u,o=some u/\iQ v u:=by
 cases o with
 |none=>exact(show False from r).elim
 |some u=>exact⟨u,rfl,r⟩
def um.none_of {o:Option Zz} (r:um none o):o=none:=by
 cases o with
 |none=>rfl
 |some u=>exact(show False from r).elim
def Av {v:V} {u:Zz} (r:iQ v u):PySem.W.handedIn u=true:=by
 cases v with
 |non=>cases(show u=LQ from r);rfl
 |bl b=>cases(show u=LH b from r);rfl
 |int i=>obtain⟨t,e⟩:=(show ∃t,u=Value.int i t from r);cases e;rfl
 |str x=>obtain⟨t,e⟩:=(show ∃t,u=Value.str x t from r);cases e;rfl
 |byt b=>obtain⟨t,e⟩:=(show ∃t,u=Value.bytes b t from r);cases e;rfl
 |flt b=>obtain⟨t,e⟩:=(show ∃t,u=Value.float b t from r);cases e;rfl
 |ref a=>cases(show u=Li a from r);rfl
 |ty n=>cases(show u=Value.type n from r);rfl
section
variable {P:Zu} {w:Zv} {H H':Hp} {h h':Zt} {a C dx:Zx} {fs fs':List (Str×V)}
def ur (hok:HOk P w H h) (e:H a=some (.ins C dx fs)):∃mA,Eo h a dx C mA/\(∀f,um (fs.lookup f) (mA f))/\PySem.Within mA (fs.map (·.1))/\fs.length<=1000/\H dx=some (.own a):=by obtain⟨d,z,ne,ob,mA,n,r,q⟩:=(show jL P w H h a (.ins C dx fs)from hok a _ e);exact⟨mA,⟨ob,n,ne⟩,r,q,z,d⟩
end
structure Cls (K:Zp) (C:Zx):Prop where
 pg:dC K C Str.empty=true
 hd:dD K C=true
 po:dH K C=true
 sa:dE K (.ref C) "__setattr__"=some (some (.builtin "object.__setattr__"))
def Cls.get {K:Zp} {C:Zx} (c:Cls K C) (f:Str):dC K C f=true:=c.pg
def iI (K:Zp) (C:Zx) (f:Str):Prop:=dE K (.ref C) f=some none
def iI.taker {K:Zp} {C:Zx} {f:Str} (n:iI K C f):dI K C f=some none:=by unfold dI;rw[show dE K (.ref C) f=some none from n];rfl
structure Con (K:Zp) (C:Zx) (f:Str) (v:V) (u:Zz):Prop where
 at_:dE K (.ref C) f=some (some u)
 rel:iQ v u
 get:dN K u "__get__"=some none
 cp:PySem.W.copiedNames.contains f=false
structure IL (K:Zp) (C:Zx) (m:Str) (f:Zx):Prop where
 at_:dE K (.ref C) m=some (some (.ref f))
 fn:dG K (.ref f)=true
 kp:dO K (.ref f)=true
section
variable {X:Cx} {pz:Za} {σ:St} {H:Hp} {s:Zy} {a C dx:Zx} {fs:List (Str×V)} {f:Str} {v:V} {A:Zw} {E:Zb}
def tQ {b:Bool} {Q:Zb} (I:Inv X pz σ H s) (e:H a=some (.ins C dx fs)) (c:Cls X.K C) (n:iI X.K C f) (l:fs.lookup f=some v)
  (h:∀u s',Inv X pz σ H s'->iQ v u->Q u s'):La (model X.prog X.w) A (getAttr (.ref a) f b) Q E s:=by obtain⟨mA,O,r,_,_,_⟩:=ur I.hok e;obtain⟨u,hu,ru⟩:=um.some_of (v:=v) (o:=mA f) (by rw[<-l];exact r f);exact Ep I.kIn O (c.get f) c.hd n hu (Av ru) (h u _ (I.tok _) ru)
def tR {m:Str} {g:Zx} {pl:Sem Bool} {Q:Zz×List Zz->Zy->Prop} (I:Inv X pz σ H s) (e:H a=some (.ins C dx fs)) (c:Cls X.K C) (k:IL X.K C m g) (l:fs.lookup m=none)
  (h:Q (.ref g,[.ref a]) s):La (model X.prog X.w) A (getMethod (.ref a) m pl) Q E s:=by obtain⟨mA,O,r,_,_,_⟩:=ur I.hok e;have hn:mA m=none:=um.none_of (by rw[<-l];exact r m);exact Cp I.kIn O (c.get m) k.at_ k.fn hn h
def tT {y:V} {u:Zz} {Q:Unit->Zy->Prop} (I:Inv X pz σ H s) (e:H a=some (.ins C dx fs)) (c:Cls X.K C) (n:iI X.K C f) (hl:fs.length<1000) (ry:iQ y u)
  (h:∀s',Inv X pz σ (upd H a (.ins C dx (jD f y fs))) s'->Q () s'):La (model X.prog X.w) A (setAttr (.ref a) f u) Q E s:=by
 obtain⟨mA,O,r,wi,_,ho⟩:=ur I.hok e;have hz:(fs.map (·.1)).length<=sizeLine:=by rw[aD,Lc];lia
 refine Er I.kIn O c.sa c.po n.taker c.hd wi hz fun h' O' sb=>h _ ?_;have hd:∃o,h'.get? dx=some o:=let⟨o,_,_,e',_⟩:=O'.ns;⟨o,e'⟩;refine I.write (x:=a) (e:=dx) (by rw[e];exact LA) (.inr ho) (fun b q hb z=>(sb.2 b hb).trans z) hd ?_;refine⟨by rw[f9 O.ne];exact ho,?_,O.ne,O'.obj,_,O'.ns,fun g=>?_,fun g hg=>?_⟩;·have:=rE f y fs;lia
 ·show um ((jD f y fs).lookup g) (if g=f then some u else mA g);rw[rC];by_cases q:g=f;·rw[gT q,gT q];exact ry
  ·rw[gN q,gN q];exact r g
 ·by_cases q:g=f;·rw[q];exact(rD f y fs).1
  ·refine(rD f y fs).2 g (wi g fun z=>hg ?_);show(if g=f then some u else mA g)=none;rw[gN q];exact z
def Inv.made (I:Inv X pz σ H s):Inv X pz σ (upd (upd H s.heap.objs.size (.own (s.heap.objs.size+ 1))) (s.heap.objs.size+ 1) (.ins C s.heap.objs.size []))
  {s with heap:=(s.heap.push dM).push (dz C s.heap.objs.size)}:=by
 have e1:(s.heap.push dM).get? s.heap.objs.size=some dM:=fD s.heap rfl;have e2:((s.heap.push dM).push (dz C s.heap.objs.size)).get? (s.heap.objs.size+ 1)=some (dz C s.heap.objs.size):=by have:=fD (s.heap.push dM) (o:=dz C s.heap.objs.size) rfl;rwa[fF]at this
 have e3:(s.heap.push dM).Ns s.heap.objs.size (fun _=>none):=⟨dM,#[],_,e1,rfl,(fun e he=>absurd he (by simp)),fun _=>rfl⟩;have I1:=I.laid (a:=s.heap.objs.size) (o:= .own (s.heap.objs.size+ 1)) (h':=s.heap.push dM) (t':=s.toks) (fun b u q=>fE _ q) (cH _) ⟨_,e1⟩;refine I1.laid (a:=s.heap.objs.size+ 1) (o:= .ins C s.heap.objs.size []) (t':=s.toks) (fun b u q=>fE _ q) (cK (fF _ _)) ?_;have ne:s.heap.objs.size≠s.heap.objs.size+ 1:=cD (cM _);refine⟨by rw[f9 ne,fS],cJ _,ne,e2,fun _=>none,(Heap.Ns1.of_empty e3).at fun o q=>fE _ q,fun _=>LA,fun y hy=>absurd rfl hy⟩
def Es {prog:Zu} {w:Zv} {env:Env} {e:Zr} {f:Str} {pos:Pos} {s:Zy} {Q:Zb} (hb:LW e f env (eval e env)=eval e env)
  (h:La (model prog w) A (eval e env) (fun o s₁=>La (model prog w) A (getAttr o f true) Q E s₁) E s):La (model prog w) A (eval (.Attribute e f pos) env) Q E s:=
 Attribute_any_ h (by rw[arm_eval_Attribute,hb])
end
def tFld (K:Zp) (ta:TE) (f:Str):TE:=fun σ H Q=>ta σ H fun x H1=>∃a C dx fs v,x= .ref a/\H1 a=some (.ins C dx fs)/\Cls K C/\iI K C f/\fs.lookup f=some v/\Q v H1
def KL (K:Zp) (ta tv:TE) (f:Str):TS:=fun D σ H=>tv σ H fun y H1=>ta σ H1 fun x H2=>∃a C dx fs,x= .ref a/\H2 a=some (.ins C dx fs)/\Cls K C/\iI K C f/\fs.length<1000/\
 D.nx σ (upd H2 a (.ins C dx (jD f y fs)))
def KN (X:Cx) (op:Operator) (rd:V->V->Hp->VK->Prop):Prop:=
 ∀(pz:Za) (s:Zy) (σ:St) (H:Hp) (x y:V) (u v:Zz) (Q:VK),Inv X pz σ H s->iQ x u->iQ y v->rd x y H Q->La (model X.prog X.w) X.A (inplaceOp op u v) (EP X pz σ Q) X.xe s
def Et (K:Zp) (ta tv:TE) (rd:V->V->Hp->VK->Prop) (f:Str):TS:=fun D σ H=>ta σ H fun x H1=>∃a C dx fs v,x= .ref a/\H1 a=some (.ins C dx fs)/\Cls K C/\iI K C f/\fs.lookup f=some v/\
 tv σ H1 fun y H2=>rd v y H2 fun z H3=>∃dx' fs',H3 a=some (.ins C dx' fs')/\fs'.length<1000/\D.nx σ (upd H3 a (.ins C dx' (jD f z fs')))
section
variable {X:Cx} {o e value:Zr} {f:Str} {pos pos' tpos:Pos} {ta tv:TE}
def pk (he:PE X e ta) (hb:LW e f X.env (eval e X.env)=eval e X.env):PE X (.Attribute e f pos) (tFld X.K ta f):=by intro pz s σ H Q I h;refine Es hb (thn (he pz s σ H _ I h) ?_);rintro u s1 ⟨x,H1,I1,rx,a,C,dx,fs,v,rfl,ea,c,n,l,q⟩;obtain rfl:u=Li a:=rx;exact tQ I1 ea c n l fun u' s2 I2 ru=>⟨v,H1,I2,ru,q⟩
def i8 (ha:PE X o ta) (hv:PE X value tv) (hs:Ml value (some (.Attribute o f pos')) pos.line X.env=pure false):PS X (.Assign [.Attribute o f pos'] value pos) (KL X.K ta tv f):=by intro pz s σ H D I h;refine plainObj_wpAny_Assign_Attribute (thn (hv pz s σ H _ I h) fun u s1 ⟨y,H1,I1,ry,q⟩=>thn (ha pz s1 σ H1 _ I1 q) ?_) hs;rintro ov s2 ⟨x,H2,I2,rx,a,C,dx,fs,rfl,ea,c,n,l,q2⟩;obtain rfl:ov=Li a:=rx;exact tT I2 ea c n l ry fun s3 I3=>⟨σ,_,I3,q2⟩
def vJ {op:Operator} {rd:V->V->Hp->VK->Prop} (ha:PE X o ta) (hv:PE X value tv) (hop:KN X op rd):PS X (.AugAssign (.Attribute o f tpos) op value pos) (Et X.K ta tv rd f):=by intro pz s σ H D I h;refine wpAny_AugAssign_AttributeAny (thn (ha pz s σ H _ I h) ?_);rintro ov s1 ⟨x,H1,I1,rx,a,C,dx,fs,v,rfl,ea,c,n,l,q⟩;obtain rfl:ov=Li a:=rx;refine tQ I1 ea c n l fun u s2 I2 ru=>thn (hv pz s2 σ H1 _ I2 q) fun w3 s3 ⟨y,H2,I3,ry,q3⟩=>thn (hop pz s3 σ H2 v y u w3 _ I3 ru ry q3) ?_;rintro w4 s4 ⟨z,H3,I4,rz,dx',fs',ea',l',q4⟩;exact tT I4 ea' c n l' rz fun s5 I5=>⟨σ,_,I5,q4⟩
def rAdd:V->V->Hp->VK->Prop:=fun x y H Q=>∃i j,x= .int i/\y= .int j/\Q (.int (i+j)) H
def Dy:KN X .Add rAdd:=by rintro pz s σ H x y u v Q I rx ry ⟨i,j,rfl,rfl,q⟩;obtain⟨t,rfl⟩:=(show ∃t,u=Value.int i t from rx);obtain⟨t',rfl⟩:=(show ∃t',v=Value.int j t' from ry);exact PyProof.Rows.iadd_int ⟨.int (i+j),H,I.tok _,⟨_,rfl⟩,q⟩
end
section
variable {X:Cx} {pz:Za} {σ:St} {H:Hp} {s:Zy} {A:Zw} {E:Zb} {Q:Zb} {c:Zz} {b:Bool}
inductive xq (K:Zp) (H:Hp):V->Zz->Prop where
 |non:xq K H .non (.type "NoneType")
 |bl (x:Bool):xq K H (.bl x) (.type "bool")
 |int (i:Int):xq K H (.int i) (.type "int")
 |str (x:Str):xq K H (.str x) (.type "str")
 |flt (x:UInt64):xq K H (.flt x) (.type "float")
 |lst {a:Zx} {xs:List V} (e:H a=some (.lst xs)):xq K H (.ref a) (.type "list")
 |frz {a:Zx} {o:Obj} {xs:List V} (e:H a=some (.frz o (.lst xs))):xq K H (.ref a) (.type "list")
 |tup {a:Zx} {xs:List V} (e:H a=some (.tup xs)):xq K H (.ref a) (.type "tuple")
 |dK {a:Zx} {kvs:List (Key×V)} (e:H a=some (.dK kvs)):xq K H (.ref a) (.type "dict")
 |dT {a:Zx} {kvs:List (List Key×V)} (e:H a=some (.dT kvs)):xq K H (.ref a) (.type "dict")
 |ins {a C dx:Zx} {fs:List (Str×V)} (e:H a=some (.ins C dx fs)) (cl:Cls K C) (ha:dE K (.ref C) "__class__"=some (some (.builtin "object.__class__")))
   (hn:dN K (.builtin "object.__class__") "__get__"=some (some (.builtin "getset_descriptor.__get__"))) (htk:PySem.W.takesIn K (.builtin "object.__class__")=some true)
   (hm:PySem.W.mroIn K C (.type "object")=some true):xq K H (.ref a) (.ref C)
def Aw {x:V} {u t:Zz} (I:Inv X pz σ H s) (rx:iQ x u) (ty:xq X.K H x t) (e:dP X.K t c=some b) (h:∀tk,Q (.bool b) {s with toks:=tk}):
  La (model X.prog X.w) A (call (.builtin "isinstance") [u,c]) Q E s:=by
 cases ty with
 |non=>cases(show u=LQ from rx);exact dQ PySem.W.kitx_none I.kIn LA e (fun z=>nomatch z) h
 |bl y=>cases(show u=LH y from rx);exact dQ PySem.W.kitx_bool I.kIn LA e (fun z=>nomatch z) h
 |int i=>obtain⟨t,q⟩:=(show ∃t,u=Value.int i t from rx);cases q;exact dQ PySem.W.kitx_int I.kIn LA e (fun z=>nomatch z) h
 |str y=>obtain⟨t,q⟩:=(show ∃t,u=Value.str y t from rx);cases q;exact dQ PySem.W.kitx_str I.kIn LA e (fun z=>nomatch z) h
 |flt y=>obtain⟨t,q⟩:=(show ∃t,u=Value.float y t from rx);cases q;exact dQ PySem.W.kitx_float I.kIn LA e (fun z=>nomatch z) h
 |@lst a xs ea=>cases(show u=Li a from rx);obtain⟨_,_,n,_,h1⟩:=(show jL X.prog X.w H s.heap a (.lst xs)from I.hok a _ ea);exact dQ dR I.kIn ⟨_,h1,rfl⟩ e (fun z=>nomatch z) h
 |@frz a ob xs ea=>cases(show u=Li a from rx);obtain⟨_,_,_,n,_,h1⟩:=(show jL X.prog X.w H s.heap a (.frz ob (.lst xs))from I.hok a _ ea);exact dQ dR I.kIn ⟨_,h1,rfl⟩ e (fun z=>nomatch z) h
 |@tup a xs ea=>cases(show u=Li a from rx);obtain⟨_,_,_,p⟩:=(show jL X.prog X.w H s.heap a (.tup xs)from I.hok a _ ea);obtain⟨o,h1,h2,_⟩:=p;exact dQ PySem.W.kitx_tuple I.kIn ⟨o,h1,h2⟩ e (fun z=>nomatch z) h
 |@dK a kvs ea=>cases(show u=Li a from rx);obtain⟨_,_,vs,_,p⟩:=(show jL X.prog X.w H s.heap a (.dK kvs)from I.hok a _ ea);obtain⟨o,es,ep,h1,h2,_⟩:=p;exact dQ dS I.kIn ⟨o,h1,h2.1⟩ e (fun z=>nomatch z) h
 |@dT a kvs ea=>cases(show u=Li a from rx);obtain⟨_,_,xs,_,o,es,ep,h1,h2,_⟩:=(show jL X.prog X.w H s.heap a (.dT kvs)from I.hok a _ ea);exact dQ dS I.kIn ⟨o,h1,h2.1⟩ e (fun z=>nomatch z) h
 |@ins a C dx fs ea cl ha hn htk hm=>cases(show u=Li a from rx);obtain⟨mA,O,_⟩:=ur I.hok ea;obtain⟨od,J,_⟩:=O.look;exact dQ (PySem.W.kitx_own (cl.get _) cl.hd ha hn htk hm) I.kIn J e (fun z=>nomatch z) h
end
structure nL (k:Nat) (A:Zw):Prop where
 hd:A.handled=none
 dp:A.depth+ 2*k+ 5<recursionLimit
 un:A.units+ 16*k+ 200<cLine
def nL.mono {j k:Nat} {A:Zw} (r:nL k A) (h:j<=k):nL j A:=⟨r.hd,by have:=r.dp;lia,by have:=r.un;lia⟩
def nL.m {j k:Nat} {A:Zw} (r:nL k A) (h:autoParam (j<=k) auD._auto_1):nL j A:=r.mono h
theorem nL.deeper {k:Nat} {A:Zw} (r:nL (k+ 1) A) (env:Env):nL k (A.deeper env):=
 ⟨r.hd,by have:=r.dp;show A.depth+ 1+ 2*k+ 5<_;lia,by have:=r.un;show A.units+ 3+ 16*k+ 200<_;lia⟩
def zt {A:Zw} {C:Zx} {us:List Zz} {kw:List (Str×Zz)}:(A.under (.builtin "type.__call__" ⟨.ref C::us,kw⟩)).depth=A.depth+ 1:=by first|rfl|simp[Around.under,Code.weight,Code.isCreation,Code.isGuard,Code.isCaller,Code.frames,Code.isFrame,guardIds]
def zu {A:Zw} {C:Zx} {us:List Zz} {kw:List (Str×Zz)}:(A.under (.builtin "type.__call__" ⟨.ref C::us,kw⟩)).units=A.units+ 1:=by first|rfl|simp[Around.under,Code.cUnits,Code.frames,Code.isFrame]
def nL.make {k:Nat} {A:Zw} (r:nL (k+ 1) A) (C:Zx) (us:List Zz) (kw:List (Str×Zz)):nL k (A.under (.builtin "type.__call__" ⟨.ref C::us,kw⟩)):=
 ⟨r.hd,by have:=r.dp;rw[zt];lia,by have:=r.un;rw[zu];lia⟩
theorem nL.depth {k:Nat} {A:Zw} (r:nL k A):A.depth<recursionLimit:=by have:=r.dp;lia
theorem nL.units {k:Nat} {A:Zw} (r:nL k A):A.units+ 64<cLine:=by have:=r.un;lia
def yt:TA:=fun _ H Q=>Q [] H
def kI (ta:TE) (tr:TA):TA:=fun σ H Q=>ta σ H fun x H1=>tr σ H1 fun xs H2=>Q (x::xs) H2
section
variable {X:Cx} {e:Zr} {es:List Zr} {te:TE} {t:TA} {pos:Pos}
def fO:PA X [] yt:=fun _ _ _ _ H Q I h=>Calls.spliced_nil ⟨[],H,I,.nil,h⟩
def fM (ha:PE X e te) (hr:PA X es t) (hs:autoParam (Lg (e::es) X.env=(false,eval e X.env)::Lg es X.env) auR._auto_1):PA X (e::es) (kI te t):=by intro pos pz s σ H Q I h;rw[hs];show La _ _ (spliced ((false,eval e X.env)::LF pos (Lg es X.env))) _ _ s;refine Mn (thn (ha pz s σ H _ I h) ?_);rintro u s1 ⟨x,H1,I1,r1,q1⟩;exact thn (hr pos pz s1 σ H1 _ I1 q1) fun us s2 ⟨xs,H2,I2,r2,q2⟩=>⟨x::xs,H2,I2,.cons r1 r2,q2⟩
def Jf (t:TA):TE:=fun σ H Q=>t σ H fun xs H1=>xs.length<=sizeLine/\∀p,H1 p=none->Q (.ref p) (upd H1 p (.tup xs))
def GL (t:TA):TE:=fun σ H Q=>t σ H fun xs H1=>xs.length<=sizeLine/\∀p,H1 p=none->Q (.ref p) (upd H1 p (.lst xs))
def ie {x1} (h:PA X es t):PE X (.Tuple es x1 pos) (Jf t):=by intro pz s σ H Q I hq;refine wpAny_Tuple_spliced (thn (h pos pz s σ H _ I hq) fun us s1 ⟨xs,H1,I1,r,z,q⟩=>⟨by rw[<-r.length];exact z,?_⟩);have hf:H1 s1.heap.objs.size=none:=I1.hok.fresh (cH _);refine⟨.ref s1.heap.objs.size,upd H1 s1.heap.objs.size (.tup xs),I1.laid (t':=s1.toks) (fun b u e=>fE _ e) (cH _) ?_,rfl,q _ hf⟩;exact⟨z,us,r,⟨_,fD _ rfl,rfl,_,rfl,rfl⟩⟩
def gq (h:PA X es t):PE X (.List es pos) (GL t):=by intro pz s σ H Q I hq;refine wpAny_List_spliced (thn (h pos pz s σ H _ I hq) fun us s1 ⟨xs,H1,I1,r,z,q⟩=>⟨by rw[<-r.length];exact z,?_⟩);have hf:H1 s1.heap.objs.size=none:=I1.hok.fresh (cH _);refine⟨.ref s1.heap.objs.size,upd H1 s1.heap.objs.size (.lst xs),I1.laid (t':=s1.toks) (fun b u e=>fE _ e) (cH _) ?_,rfl,q _ hf⟩;exact⟨z,us,0,r,fD _ rfl⟩
end
abbrev Sp:=List V->Hp->VK->XK->Prop
abbrev CXT:=List Env->Hp->Zy->XK->Zz->Zy->Prop
structure Eu (P:Zu) (w:Zv) (K:Zp) (mg:Zc) (base:Zt) (A:Zw) (outer:List Env) (s:Zy) (H:Hp):Prop where
 frames:A.frames=some outer
 mod:Mod K mg base
 bs:∀b o,base.get? b=some o->s.heap.get? b=some o/\H b=none
 bsz:base.objs.size<=s.heap.objs.size
 funs:s.heap.FunFrames base outer
 frf:∀b∈frs outer,H b=none
 hok:HOk P w H s.heap
 bare:AllBare s.gens
def CE (outer:List Env) (P:Zu) (w:Zv) (H:Hp) (s:Zy) (Q:VK) (u:Zz) (s':Zy):Prop:=
 ∃v H',s'.os=s.os/\AllBare s'.gens/\Un (frs outer) [] H H' s.heap s'.heap/\HOk P w H' s'.heap/\iQ v u/\Q v H'
def CR (CX:CXT) (outer:List Env) (P:Zu) (w:Zv) (H:Hp) (s:Zy) (Q:VK) (E:XK) (r:Result) (s':Zy):Prop:=
 match r with
 | .ok (.ret u)=>CE outer P w H s Q u s'
 | .ok _=>False
 | .error e=>CX outer H s E e s'
structure tU (P:Zu) (w:Zv) (K:Zp) (mg:Zc) (base:Zt) (CX:CXT) (k:Nat) (f:Zx) (fd:Zs) (ps:Zd) (sp:Sp):Prop where
 len:∀vs H Q E,sp vs H Q E->vs.length=ps.length
 run:∀(A:Zw) (outer:List Env) (s:Zy) (H:Hp) (args:Args) (us:List Zz) (vs:List V) (Q:VK) (E:XK),nL k A->Eu P w K mg base A outer s H->BindsTo s fd args (ps.zip us)->iR vs us->sp vs H Q E->
  Me (model P w) A (.call (.ref f) args) (CR CX outer P w H s Q E) s
def Eu.make {P:Zu} {w:Zv} {K:Zp} {mg:Zc} {base:Zt} {A:Zw} {outer:List Env} {s:Zy} {H:Hp} (e:Eu P w K mg base A outer s H) (C:Zx) (us:List Zz) (kw:List (Str×Zz)):
  Eu P w K mg base (A.under (.builtin "type.__call__" ⟨.ref C::us,kw⟩)) outer s H:=⟨by first|exact e.frames|(simpa[Around.under,Code.envs,Code.isFrame,pushEnvs]using e.frames),e.mod,e.bs,e.bsz,e.funs,e.frf,e.hok,e.bare⟩
section
variable {X:Cx} {pz:Za} {σ:St} {H:Hp} {s s':Zy}
def Inv.env0 (I:Inv X pz σ H s):Eu X.prog X.w X.K X.mg X.base X.A X.stack s H:=
 ⟨I.ok.frames,I.ok.mod,I.bs,cE I.ok.bsz I.sz,I.stack,I.stkFree,I.hok,I.bare⟩
def Inv.after {Q:VK} {u:Zz} (I:Inv X pz σ H s) (h:CE X.stack X.prog X.w H s Q u s'):EP X pz σ Q u s':=by obtain⟨v,H',os,bare,un,hok,r,q⟩:=h;obtain⟨hh,g,d,t,os'⟩:=s';obtain rfl:os'=s.os:=os;exact⟨v,H',I.call (h':=hh) (g':=g) (d':=d) (t':=t) (ch:=[]) un hok bare (fun b z=>absurd z (by simp)),r,q⟩
end
def Cr (sp:Sp) (dvs:List V) (E:XK) (t:TA):TE:=fun σ H Q=>t σ H fun vs H1=>sp (vs++dvs) H1 Q E
def Ew (C:Zx) (m:Str) (sp:Sp) (dvs:List V) (E:XK) (ta:TE) (t:TA):TE:=fun σ H Q=>ta σ H fun x H1=>∃a dx fs,x= .ref a/\H1 a=some (.ins C dx fs)/\fs.lookup m=none/\
 t σ H1 fun vs H2=>sp (x::(vs++dvs)) H2 Q E
def GN (C:Zx) (sp:Sp) (dvs:List V) (E:XK) (t:TA):TE:=fun σ H Q=>t σ H fun vs H1=>∀x dx,H1 x=none->H1 dx=none->dx≠x->
 sp (.ref x::(vs++dvs)) (upd (upd H1 dx (.own x)) x (.ins C dx [])) (fun v H2=>v= .non/\Q (.ref x) H2) E
def pU (K:Zp) (fd:Zs) (ps:Zd) (ds:List Zz):Prop:=
 ∀(s:Zy) (us:List Zz),K.In s.heap->(us++ds).length=ps.length->BindsTo s fd ⟨us,[]⟩ (ps.zip (us++ds))
def pU.all {K:Zp} {fd:Zs} {ps:Zd} (h:∀us:List Zz,us.length=ps.length->bindArgs fd ⟨us,[]⟩=pure (ps.zip us)):pU K fd ps []:=fun s us _ hl=>by rw[aE]at hl⊢;exact .of_eq (h us hl)
def qE (CX:CXT) (X:Cx) (E:XK):Prop:=∀(pz:Za) (σ:St) (H:Hp) (s:Zy) (e:Zz) (s':Zy),Inv X pz σ H s->CX X.stack H s E e s'->X.xe e s'
section
variable {X:Cx} {CX:CXT} {k:Nat} {f C:Zx} {fd:Zs} {ps:Zd} {sp:Sp} {dvs:List V} {ds:List Zz} {E:XK} {x m:Str} {p pos apos:Pos} {e o:Zr} {es:List Zr} {ta:TE} {t:TA}
def yu {pz:Za} {σ:St} {H:Hp} {s:Zy} {Q:VK} {us:List Zz} {vs:List V} (F:tU X.prog X.w X.K X.mg X.base CX k f fd ps sp) (hr:nL k X.A) (hb:pU X.K fd ps ds) (hd:iR dvs ds) (hx:qE CX X E)
  (I:Inv X pz σ H s) (r:iR vs us) (h:sp (vs++dvs) H Q E):La (model X.prog X.w) X.A (call (.ref f) us) (EP X pz σ Q) X.xe s:=by
 have r2:iR (vs++dvs) (us++ds):=r.append hd;have hl:(us++ds).length=ps.length:=by rw[<-r2.length];exact F.len _ _ _ _ h
 refine wpAny_call (codeAny_mono (F.run X.A X.stack s H ⟨us,[]⟩ (us++ds) (vs++dvs) Q E hr I.env0 (hb s us I.kIn hl) r2 h) fun r s' hq=>?_)
 cases r with
 |error e=>exact hx pz σ H s e s' I hq
 |ok fl=>
  cases fl with
  |ret u=>exact I.after hq
  |next=>exact Lo hq
  |brk=>exact Lo hq
  |cont=>exact Lo hq
def Ex (F:tU X.prog X.w X.K X.mg X.base CX k f fd ps sp) (hr:nL k X.A) (hg:Gl X x) (hm:X.mg x=some (.ref f)) (hk:dO X.K (.ref f)=true) (hb:pU X.K fd ps ds) (hd:iR dvs ds) (hx:qE CX X E)
  (ha:PA X (e::es) t) (hdb:autoParam ((x==("__debug__":Str))=false) auD._auto_1) (he:autoParam (Lg (e::es) X.env=(false,eval e X.env)::Lg es X.env) auR._auto_1) (hpl:autoParam ((LF pos (Lg es X.env)).any (·.1)=false) auR._auto_1):
  PE X (.Call (.Name x p) (e::es) [] pos) (Cr sp dvs E t):=by intro pz s σ H Q I h;refine L4 (wZ I hg hm ?_ hdb);refine dU (h₀:=X.base) I.ok.mod.kin hk (thn (ha pos pz s σ H _ I h) fun us s1 ⟨vs,H1,I1,r,q⟩=>⟨I1.kIn,?_⟩) he hpl;exact yu F hr hb hd hx I1 r q
def gH {pl:Sem Bool} (he:PE X o ta) (c:Cls X.K C) (hm:IL X.K C m f) (F:tU X.prog X.w X.K X.mg X.base CX k f fd ps sp) (hr:nL k X.A) (hb:pU X.K fd ps ds) (hd:iR dvs ds) (hx:qE CX X E) (ha:PA X (e::es) t)
  (hst:autoParam (Lg (e::es) X.env=(false,eval e X.env)::Lg es X.env) auR._auto_1) (hpl:autoParam ((LF pos (Lg es X.env)).any (·.1)=false) auR._auto_1)
  (ht:eval (.Call (.Attribute o m apos) (e::es) [] pos) X.env=(do
   let ov<-eval o X.env
   standAt apos.atName
   let(f,first)<-holding [ov] (getMethod ov m pl)
   callWith pos f first (LF pos (Lg (e::es) X.env)) (backToKw pos (Mg [] X.env))):=by rfl):
  PE X (.Call (.Attribute o m apos) (e::es) [] pos) (Ew C m sp dvs E ta t):=by intro pz s σ H Q I h;refine dW (pl:=pl) (thn (he pz s σ H _ I h) ?_) ht;rintro u s1 ⟨x,H1,I1,rx,a,dx,fs,rfl,ea,l,q⟩;obtain rfl:u=Li a:=rx;refine tR I1 ea c hm l ?_;refine dU (first:=[.ref a]) (h₀:=X.base) I.ok.mod.kin hm.kp (thn (ha pos pz s1 σ H1 _ I1 q) fun us s2 ⟨vs,H2,I2,r,q2⟩=>⟨I2.kIn,?_⟩) hst hpl;exact yu (us:= .ref a::us) (vs:= .ref a::vs) F hr hb hd hx I2 (.cons rfl r) q2
def jm {pl:Sem Bool} (he:PE X o ta) (c:Cls X.K C) (hm:IL X.K C m f) (F:tU X.prog X.w X.K X.mg X.base CX k f fd ps sp) (hr:nL k X.A) (hb:pU X.K fd ps ds) (hd:iR dvs ds) (hx:qE CX X E)
  (ht:eval (.Call (.Attribute o m apos) [] [] pos) X.env=(do
   let ov<-eval o X.env
   standAt apos.atName
   let(f,first)<-holding [ov] (getMethod ov m pl)
   callWith pos f first (LF pos (Lg [] X.env)) (backToKw pos (Mg [] X.env))):=by rfl):
  PE X (.Call (.Attribute o m apos) [] [] pos) (Ew C m sp dvs E ta yt):=by intro pz s σ H Q I h;refine dW (pl:=pl) (thn (he pz s σ H _ I h) ?_) ht;rintro u s1 ⟨x,H1,I1,rx,a,dx,fs,rfl,ea,l,q⟩;obtain rfl:u=Li a:=rx;refine tR I1 ea c hm l ?_;exact PySem.W.callWith_K0 (first:=[.ref a]) I1.kIn hm.kp (yu (us:=[.ref a]) (vs:=[.ref a]) F hr hb hd hx I1 (.cons rfl .nil) q)
structure Mk (K:Zp) (C f:Zx):Prop where
 makes:dJ K C=true
 init:dE K (.ref C) "__init__"=some (some (.ref f))
 fn:dG K (.ref f)=true
 kp:dO K (.ref C)=true
def Ct {pz:Za} {σ:St} {H:Hp} {s:Zy} {Q:VK} {us:List Zz} {vs:List V} (M:Mk X.K C f) (F:tU X.prog X.w X.K X.mg X.base CX k f fd ps sp) (hr:nL (k+ 1) X.A) (hb:pU X.K fd ps ds) (hd:iR dvs ds)
  (hx:qE CX X E) (I:Inv X pz σ H s) (r:iR vs us)
  (h:∀x dx,H x=none->H dx=none->dx≠x->sp (.ref x::(vs++dvs)) (upd (upd H dx (.own x)) x (.ins C dx [])) (fun v H2=>v= .non/\Q (.ref x) H2) E):
  La (model X.prog X.w) X.A (call (.ref C) us) (EP X pz σ Q) X.xe s:=by
 have hq:=h (s.heap.objs.size+ 1) s.heap.objs.size (I.hok.fresh (cO _)) (I.hok.fresh (cH _)) (cD (cM _));have I2:=Inv.made (C:=C) I;have r2:iR (V.ref (s.heap.objs.size+ 1)::(vs++dvs)) (Li (s.heap.objs.size+ 1)::(us++ds)):= .cons rfl (r.append hd);have hl:(Li (s.heap.objs.size+ 1)::us++ds).length=ps.length:=by have e:=r2.length;rw[F.len _ _ _ _ hq]at e;exact e.symm
 refine wpAny_call (Cq (f:=f) I.kIn M.makes M.init (beq_iff_eq.mp M.fn) (codeAny_mono (F.run _ X.stack _ _ ⟨Li (s.heap.objs.size+ 1)::us,[]⟩ (Li (s.heap.objs.size+ 1)::(us++ds)) _ _ E (hr.make C us [])
  (I2.env0.make C us []) (hb _ (Li (s.heap.objs.size+ 1)::us) I2.kIn hl) r2 hq) fun r s' hq'=>?_))
 cases r with
 |error e=>exact hx pz σ _ _ e s' I2 hq'
 |ok fl=>
  cases fl with
  |ret u=>obtain⟨v,H',I3,rv,ev,q3⟩:=I2.after hq';subst ev;exact⟨rv,⟨V.ref (s.heap.objs.size+ 1),H',I3,rfl,q3⟩⟩
  |next=>exact Lo hq'
  |brk=>exact Lo hq'
  |cont=>exact Lo hq'
def uu (M:Mk X.K C f) (F:tU X.prog X.w X.K X.mg X.base CX k f fd ps sp) (hr:nL (k+ 1) X.A) (hg:Gl X x) (hm:X.mg x=some (.ref C)) (hb:pU X.K fd ps ds) (hd:iR dvs ds) (hx:qE CX X E)
  (ha:PA X (e::es) t) (hdb:autoParam ((x==("__debug__":Str))=false) auD._auto_1) (he:autoParam (Lg (e::es) X.env=(false,eval e X.env)::Lg es X.env) auR._auto_1) (hpl:autoParam ((LF pos (Lg es X.env)).any (·.1)=false) auR._auto_1):
  PE X (.Call (.Name x p) (e::es) [] pos) (GN C sp dvs E t):=by intro pz s σ H Q I h;refine L4 (wZ I hg hm ?_ hdb);refine dU (h₀:=X.base) I.ok.mod.kin M.kp (thn (ha pos pz s σ H _ I h) fun us s1 ⟨vs,H1,I1,r,q⟩=>⟨I1.kIn,?_⟩) he hpl;exact Ct M F hr hb hd hx I1 r q
end
section
variable {X:Cx} {CX:CXT} {k:Nat} {f C:Zx} {fd:Zs} {ps ks:Zd} {sp:Sp} {E:XK} {x m:Str} {p pos apos kpos:Pos} {e o:Zr} {es:List Zr} {kws:List Keyword} {te ta:TE} {t tk:TA} {nm:Option Str}
variable {g:List Zz->List Zz->List Zz} {gV:List V->List V->List V}
end
structure gh (N P:Zd) (sc:Scope):Prop where
 kind:sc.kind= .function
 co:sc.isCoroutine=false
 gen:sc.isGenerator=false
 nd:N.Nodup
 pre:N.take P.length=P
 par:∀x∈P,sc.names.lookup x=some .local\/sc.names.lookup x=some .cell
 nofree:∀y∈sc.names,y.2≠ .free
theorem vK {kindOf:Str->Option NameKind} {x:Str}:∀{binds:List (Str×Zz)} {m:Zc},(∀v,(x,v)∉binds)->bindL kindOf binds m x=m x
 |[],_,_=>rfl
 |(n,v)::r,m,h=>by
  unfold bindL;rw[vK fun w hw=>h w (aj _ hw)];split
  ·have:x≠n:=by rintro rfl;exact h v ai
   simp[this]
  ·rfl
theorem vL {kindOf:Str->Option NameKind} {x:Str}:∀{binds:List (Str×Zz)} {m:Zc},(∀v,(x,v)∉binds)->bindC kindOf binds m x=m x
 |[],_,_=>rfl
 |(n,v)::r,m,h=>by
  unfold bindC;rw[vL fun w hw=>h w (aj _ hw)];split;·rfl
  ·have:x≠n:=by rintro rfl;exact h v ai
   simp[this]
theorem vM {kindOf:Str->Option NameKind} {x:Str} {v:Zz}:∀{P:Zd} {vs:List Zz} {i:Nat} {m:Zc},P.Nodup->P[i]?=some x->vs[i]?=some v->kindOf x=some .local->
  bindL kindOf (P.zip vs) m x=some v
 |[],_,_,_,_,h,_,_=>by simp at h
 |_::_,[],_,_,_,_,h,_=>by simp at h
 |p::P,w::vs,0,m,nd,h1,h2,hk=>by simp at h1 h2;subst h1;subst h2;show bindL kindOf ((p,w)::P.zip vs) m p=_;unfold bindL;rw[vK fun v hv=>(aF.mp nd).1 (aG hv).1,gT hk];simp
 |p::P,w::vs,i+ 1,m,nd,h1,h2,hk=>by show bindL kindOf ((p,w)::P.zip vs) m x=_;unfold bindL;exact vM (i:=i) (aF.mp nd).2 (by simpa using h1) (by simpa using h2) hk
theorem vN {kindOf:Str->Option NameKind} {x:Str} {v:Zz}:∀{P:Zd} {vs:List Zz} {i:Nat} {m:Zc},P.Nodup->P[i]?=some x->vs[i]?=some v->kindOf x≠some .local->
  bindC kindOf (P.zip vs) m x=some v
 |[],_,_,_,_,h,_,_=>by simp at h
 |_::_,[],_,_,_,_,h,_=>by simp at h
 |p::P,w::vs,0,m,nd,h1,h2,hk=>by simp at h1 h2;subst h1;subst h2;show bindC kindOf ((p,w)::P.zip vs) m p=_;unfold bindC;rw[vL fun v hv=>(aF.mp nd).1 (aG hv).1,gN hk];simp
 |p::P,w::vs,i+ 1,m,nd,h1,h2,hk=>by show bindC kindOf ((p,w)::P.zip vs) m x=_;unfold bindC;exact vN (i:=i) (aF.mp nd).2 (by simpa using h1) (by simpa using h2) hk
def qR (N:Zd) (vs:List V):St:=vs.map some++aH (N.length-vs.length) none
def Cd (CX:CXT) (P:Zu) (w:Zv) (K:Zp) (mg:Zc) (base:Zt) (N:Zd) (qual:Str) (scope:Scope) (f:Zx) (cd:Zz) (A:Zw) (outer:List Env) (s:Zy) (H:Hp) (E:XK):Cx where
 prog:=P
 w:=w
 K:=K
 mg:=mg
 base:=base
 A:=A.deeper (envOfC qual scope s.heap.objs.size f cd)
 N:=N
 s₀:=s
 H₀:=H
 env:=envOfC qual scope s.heap.objs.size f cd
 outer:=outer
 stack:=envOfC qual scope s.heap.objs.size f cd::outer
 ex:=[]
 calm:=true
 fn:=fun _=>true
 pn:=[]
 xe:=fun e s'=>La (model P w) (A.deeper (envOfC qual scope s.heap.objs.size f cd)) (leaving (envOfC qual scope s.heap.objs.size f cd) e) (fun _ s''=>CX outer H s E e s'') (fun e' s''=>CX outer H s E e' s'') s'
def yv {sc:Scope} {n:Nat} {x:Str} (h:sc.names.lookup x=some .cell):∃c,(cellsFrom n sc.names []).lookup x=some c:=by have q:=dX sc.names n [] (.inl h);exact dt.mp q
def vO {CX:CXT} {P:Zu} {w:Zv} {K:Zp} {mg:Zc} {base:Zt} {N ps:Zd} {qual:Str} {scope:Scope} {f:Zx} {cd:Zz} {A:Zw} {outer:List Env} {s s1:Zy} {H:Hp} {E:XK} {us:List Zz} {vs:List V}
  (S:gh N ps scope) (hd:A.handled=none) (e0:Eu P w K mg base A outer s H) (hl:vs.length=ps.length) (r:iR vs us)
  (x:InCallC s s.heap.objs.size (bindL (envOfC qual scope s.heap.objs.size f cd).kindOf (ps.zip us) fun _=>none) (cellsFrom (s.heap.objs.size+ 1) scope.names []) (bindC (envOfC qual scope s.heap.objs.size f cd).kindOf (ps.zip us) fun _=>none) s1):
  Inv (Cd CX P w K mg base N qual scope f cd A outer s H E) [] (qR N vs) H s1:=by
 have hpl:ps.length<=N.length:=by have:=congrArg aJ S.pre;rw[aK]at this;lia
 obtain⟨h1,tk,rfl,hk⟩:=x.done;have noA:∀b:Zx,b∉(Cd CX P w K mg base N qual scope f cd A outer s H E).ex:=fun b z=>absurd (show b∈([]:List Zx)from z) (by simp);refine⟨⟨e0.mod,S.kind,rfl,rfl,cH _,fun y z c h1 h2=>?_,fun y hy=>?_,fun y c _ h=>?_,fun _=>hd,Around.frames_deeper e0.frames,.inr ⟨rfl,rfl⟩,fun b z=>absurd z (noA b),e0.bs,e0.bsz,fun b _ _=>noA b,fun b z=>absurd z (noA b),e0.funs,e0.frf⟩,
  rfl,e0.bare,Un.kept hk,⟨_,x.toInCall.ns,fun i y v h1 h2 h3=>?_⟩,fun y c h=>⟨_,x.cell y c h⟩,e0.hok.fresh (cH _),fun y c h=>?_,fun p hp=>absurd (show p∈([]:Za)from hp) (by simp),e0.hok.kept hk,?_⟩;·exact name_of_addr x.apart (Lj h1) (Lj h2)
 ·have hy:scope.names.lookup y=some .cell\/scope.names.lookup y=some .free:=hy;rcases hy with hy|hy;·exact yv hy
  ·exact absurd rfl (S.nofree _ (Lj hy))
 ·exact cF (x.above y c (Lj h))
 ·have hi:i<vs.length:=by
   unfold qR at h2;by_cases hi:i<vs.length;·exact hi
   ·rw[aM (by simpa using hi)]at h2;rw[List.getElem?_replicate]at h2;split at h2<;>cases h2
  have ha:vs[i]?=some v:=by
   unfold qR at h2;rw[aN (by simpa using hi),aO]at h2
   cases e:vs[i]? with
   |none=>rw[e]at h2;cases h2
   |some a=>rw[e]at h2;cases h2;rfl
  obtain⟨u,hu,rv⟩:=r.get ha;have hp:ps[i]?=some y:=by rw[<-S.pre,List.getElem?_take_of_lt (by lia)];exact h1
  have ndP:ps.Nodup:=by rw[<-S.pre];exact S.nd.sublist (List.take_sublist _ _)
  refine⟨u,rv,?_⟩;rcases S.par y (aP hp)with k|k;·exact .inl ⟨k,vM ndP hp hu k⟩
  ·obtain⟨c,e⟩:=yv (n:=s.heap.objs.size+ 1) k;refine .inr ⟨.inl k,c,e,?_⟩;have q:=x.cell y c e;rw[vN ndP hp hu (by show scope.names.lookup y≠_;rw[k];decide)]at q;exact q
 ·exact e0.hok.fresh (cF (x.above y c (Lj h)))
 ·unfold qR;show _=N.length;rw[aQ,aD,List.length_replicate];lia
def Jg {CX:CXT} {P:Zu} {w:Zv} {K:Zp} {mg:Zc} {base:Zt} {k:Nat} {f:Zx} {name qual:Str} {params:Arguments} {body:List Zq} {scope:Scope} {dV kV doc pm cdv ct oc:Zz} {an od:Option Zx}
  {osl:Array (Option Zz)} {N ps:Zd} {sp:Sp} (lk:K.lookup f=some ⟨oc,od,.func (dY name qual params body scope dV kV doc pm an cdv ct),osl⟩) (hcd:dZ K cdv qual=true) (S:gh N ps scope)
  (len:∀vs H Q E,sp vs H Q E->vs.length=ps.length)
  (hbody:∀(A:Zw) (outer:List Env) (s:Zy) (H:Hp) (vs:List V) (Q:VK) (E:XK),nL k (A.deeper (envOfC qual scope s.heap.objs.size f cdv))->sp vs H Q E->
   ∃t,PSs (Cd CX P w K mg base N qual scope f cdv A outer s H E) body t/\t {nx:=fun _ H'=>Q .non H',rt:=Q} (qR N vs) H):
  tU P w K mg base CX (k+ 1) f (dY name qual params body scope dV kV doc pm an cdv ct) ps sp:=by
 refine⟨len,fun A outer s H args us vs Q E hr e0 hb r hsp=>?_⟩;have hl:=len _ _ _ _ hsp;have KX:K.In s.heap:=e0.mod.kin.keeps fun b o e=>(e0.bs b o e).1;have lim:s.heap.NoLimit:=e0.mod.nolimit.keeps fun b o e=>(e0.bs b o e).1;have hkind:∀y∈ps.zip us,scope.names.lookup y.1=some .local\/(scope.names.lookup y.1=some .cell/\((cellsFrom (s.heap.objs.size+ 1) scope.names []).lookup y.1).isSome=true):=fun⟨n,v⟩ hy=>by
  rcases S.par n (aG hy).1 with q|q;·exact .inl q
  ·exact .inr ⟨q,dX _ _ _ (.inl q)⟩
 refine codeAny_call_function hr.depth (KX _ _ lk) rfl S.co S.gen rfl (eg KX hcd) (hb _ _ _ _ ?_);refine wpAny_newFunctionEnv_cells S.kind hkind fun env he s1 x=>?_;subst he;refine⟨lim.keeps x.toInCall.keep,codeAny_func ?_⟩;obtain⟨t,ht,hq⟩:=hbody A outer s H vs Q E (hr.deeper _) hsp;have I:Inv (Cd CX P w K mg base N qual scope f cdv A outer s H E) [] (qR N vs) H s1:=vO S hr.hd e0 hl r x;refine Ll (ht [] s1 (qR N vs) H _ I hq) (fun fl s' hs=>?_) fun e s' hs=>hs;have fin:∀{σ':St} {H':Hp} {v:V} {u:Zz},Inv (Cd CX P w K mg base N qual scope f cdv A outer s H E) [] σ' H' s'->iQ v u->Q v H'->CE outer P w H s Q u s':=
  fun{σ' H' v u} J rv q=>⟨v,H',J.os,J.bare,J.base,J.hok,rv,q⟩
 cases fl with
 |ret u=>obtain⟨v,σ',H',J,rv,q⟩:=hs;exact fin J rv q
 |next=>obtain⟨σ',H',J,q⟩:=hs;exact fin (v:=V.non) (u:=LQ) J rfl q
 |brk=>obtain⟨_,_,_,q⟩:=hs;exact Lo q
 |cont=>obtain⟨_,_,_,q⟩:=hs;exact Lo q
section
variable {X:Cx} {x:Str} {p pos:Pos} {e:Zr} {es:List Zr} {t:TA} {id T:String} {r:List V->Hp->VK->Prop}
def tCB (r:List V->Hp->VK->Prop) (t:TA):TE:=fun σ H Q=>t σ H fun vs H1=>r vs H1 Q
def gC (hc:nQ X (.builtin id) r) (hg:Gl X x) (hm:X.mg x=none) (hv:Lm x=some (.builtin id)) (ha:PA X (e::es) t) (hn:autoParam (x≠"__name__") auD._auto_1) (hdb:autoParam ((x==("__debug__":Str))=false) auD._auto_1)
  (he:autoParam (Lg (e::es) X.env=(false,eval e X.env)::Lg es X.env) auR._auto_1) (hpl:autoParam ((LF pos (Lg es X.env)).any (·.1)=false) auR._auto_1):PE X (.Call (.Name x p) (e::es) [] pos) (tCB r t):=by intro pz s σ H Q I h;refine L4 (ph I hg hm hv ?_ hn hdb);exact PyProof.Rows.callWith_builtin1 (thn (ha pos pz s σ H _ I h) fun us s1 ⟨vs,H1,I1,r1,q1⟩=>hc pz s1 σ H1 vs us Q I1 r1 q1) he hpl
def iG (hc:nQ X (.type T) r) (hg:Gl X x) (hm:X.mg x=none) (hv:Lm x=some (.type T)) (ha:PA X (e::es) t) (hn:autoParam (x≠"__name__") auD._auto_1) (hdb:autoParam ((x==("__debug__":Str))=false) auD._auto_1)
  (he:autoParam (Lg (e::es) X.env=(false,eval e X.env)::Lg es X.env) auR._auto_1) (hpl:autoParam ((LF pos (Lg es X.env)).any (·.1)=false) auR._auto_1):PE X (.Call (.Name x p) (e::es) [] pos) (tCB r t):=by intro pz s σ H Q I h;refine L4 (ph I hg hm hv ?_ hn hdb);exact fJ (thn (ha pos pz s σ H _ I h) fun us s1 ⟨vs,H1,I1,r1,q1⟩=>hc pz s1 σ H1 vs us Q I1 r1 q1) he hpl
end
section
variable {κ:Type} [DecidableEq κ]
def jH (kvs:List (κ×V)) (k:κ):Option V:=(kvs.find? fun kv=>decide (kv.1=k)).map (·.2)
def mS (kvs:List (κ×V)) (k:κ) (v:V):List (κ×V):=
 if(kvs.any fun kv=>decide (kv.1=k))=true then kvs.map (fun kv=>if kv.1=k then(kv.1,v)else kv)else kvs++[(k,v)]
def iU {p:κ×V} {r:List (κ×V)} {k:κ} (e:p.1=k):jH (p::r) k=some p.2:=by simp[jH,aR,e]
def iV {p:κ×V} {r:List (κ×V)} {k:κ} (e:¬p.1=k):jH (p::r) k=jH r k:=by simp[jH,aR,e]
theorem lG (k:κ):∀kvs:List (κ×V),(kvs.any fun kv=>decide (kv.1=k))=(jH kvs k).isSome
 |[]=>rfl
 |p::r=>by
  rw[aS];by_cases e:p.1=k;·simp only[iU e,gM e,Bool.true_or,Option.isSome_some]
  ·rw[iV e,gQ e,Bool.false_or];exact lG k r
theorem yw (k j:κ) (y:V):∀kvs:List (κ×V),jH (kvs.map fun kv=>if kv.1=k then(kv.1,y)else kv) j=(jH kvs j).map fun x=>if j=k then y else x
 |[]=>rfl
 |p::r=>by
  have ih:=yw k j y r;rw[aC];by_cases h:p.1=k
  ·rw[gT h];by_cases e:p.1=j;·rw[iU (p:=(p.1,y)) e,iU e,du,gT (e.symm.trans h)]
   ·rw[iV (p:=(p.1,y)) e,iV e,ih]
  ·rw[gN h];by_cases e:p.1=j;·rw[iU (p:=p) e,iU e,du,gN (fun z=>h (e.trans z))]
   ·rw[iV (p:=p) e,iV e,ih]
theorem vP (k j:κ) (y:V):∀kvs:List (κ×V),jH kvs k=none->jH (kvs++[(k,y)]) j=if j=k then some y else jH kvs j
 |[],_=>by
  by_cases e:k=j;·rw[gT e.symm];exact iU (p:=(k,y)) e
  ·rw[gN (fun z=>e z.symm)];exact iV (p:=(k,y)) e
 |p::r,hn=>by
  rw[aT];have hk:¬p.1=k:=fun z=>by rw[iU z]at hn;cases hn
  rw[iV hk]at hn;have ih:=vP k j y r hn;by_cases e:p.1=j;·rw[iU e,iU e,gN (fun z=>hk (e.trans z))]
  ·rw[iV e,iV e,ih]
def iP (kvs:List (κ×V)) (k j:κ) (y:V):jH (mS kvs k y) j=if j=k then some y else jH kvs j:=by
 unfold mS;by_cases a:(kvs.any fun kv=>decide (kv.1=k))=true
 ·rw[gT a,yw];rw[lG]at a;by_cases e:j=k;·obtain⟨x,hx⟩:=dt.mp a;rw[gT e,e,hx,du,gT rfl]
  ·rw[gN e]
   cases jH kvs j with
   |none=>rfl
   |some x=>rw[du,gN e]
 ·rw[gN a];refine vP k j y kvs ?_;rw[lG]at a
  cases q:jH kvs k with
  |none=>rfl
  |some x=>rw[q]at a;exact(a rfl).elim
def ig (kvs:List (κ×V)) (k:κ) (v:V):(mS kvs k v).length<=kvs.length+ 1:=by
 unfold mS;split;·rw[aD];lia
 ·rw[aQ,aA,aU];lia
def Cu {kvs:List (κ×V)} {k:κ} (v:V) (h:jH kvs k=none):mS kvs k v=kvs++[(k,v)]:=by unfold mS;rw[lG,h];exact gN (by decide)
def um.isSome_eq {o:Option V} {u:Option Zz} (r:um o u):o.isSome=u.isSome:=by
 cases o with
 |none=>cases u with
  |none=>rfl
  |some _=>exact(show False from r).elim
 |some _=>cases u with
  |none=>exact(show False from r).elim
  |some _=>rfl
theorem um.getD {o:Option V} {u:Option Zz} {d:V} {d':Zz} (r:um o u) (rd:iQ d d'):iQ (o.getD d) (u.getD d'):=by
 cases o with
 |none=>cases u with
  |none=>exact rd
  |some _=>exact(show False from r).elim
 |some _=>cases u with
  |none=>exact(show False from r).elim
  |some _=>exact r
def KV.val {kvs:List (κ×V)} {vs:List (κ×Zz)} (r:KV kvs vs) (k:κ):um (jH kvs k) (valueAt vs k):=by
 unfold KV at r
 induction r with
 |nil=>exact LA
 |@cons p q ps qs h t ih=>
  obtain⟨h1,h2⟩:=h;by_cases e:p.1=k
  ·have e':q.1=k:=h1.symm.trans e;have b:valueAt (q::qs) k=some q.2:=by simp[valueAt,aR,e']
   rw[iU e,b];exact h2
  ·have e':¬q.1=k:=fun z=>e (h1.trans z);have b:valueAt (q::qs) k=valueAt qs k:=by simp[valueAt,aR,e']
   rw[iV e,b];exact ih
theorem KV.any {kvs:List (κ×V)} {vs:List (κ×Zz)} (r:KV kvs vs) (k:κ):(kvs.any fun kv=>decide (kv.1=k))=vs.any fun kv=>decide (kv.1=k):=by
 unfold KV at r
 induction r with
 |nil=>rfl
 |cons h t ih=>rw[aS,aS,ih,h.1]
def KV.repl {kvs:List (κ×V)} {vs:List (κ×Zz)} (r:KV kvs vs) (k:κ) {y:V} {u:Zz} (ry:iQ y u):
  KV (kvs.map fun kv=>if kv.1=k then(kv.1,y)else kv) (vs.map fun kv=>if kv.1=k then(kv.1,u)else kv):=by
 unfold KV at r⊢
 induction r with
 |nil=>exact .nil
 |@cons p q ps qs h t ih=>
  rw[aC,aC];refine .cons ?_ ih;obtain⟨h1,h2⟩:=h;by_cases e:p.1=k;·rw[gT e,gT (h1.symm.trans e)];exact⟨h1,ry⟩
  ·rw[gN e,gN (fun z=>e (h1.trans z))];exact⟨h1,h2⟩
def KV.put {kvs:List (κ×V)} {vs:List (κ×Zz)} (r:KV kvs vs) (k:κ) {y:V} {u:Zz} (ry:iQ y u):KV (mS kvs k y) (stored vs k u):=by
 unfold mS stored;rw[r.any k];by_cases e:(vs.any fun kv=>decide (kv.1=k))=true;·rw[gT e,gT e];exact r.repl k ry
 ·rw[gN e,gN e];exact Paired.snoc r ⟨rfl,ry⟩
theorem KV.length {kvs:List (κ×V)} {vs:List (κ×Zz)} (r:KV kvs vs):kvs.length=vs.length:=Paired.length r
end
def uv {P:Zu} {w:Zv} {k:Key} {u:Zz} (r:iQ (kV k) u):(jf P w).is k u=true:=by
 cases k with
 |inl i=>obtain⟨t,e⟩:=(show ∃t,u=Value.int i t from r);subst e;exact wX P w i t
 |inr x=>obtain⟨t,e⟩:=(show ∃t,u=Value.str x t from r);subst e;exact wY P w x t
theorem vQ {P:Zu} {w:Zv}:∀{ks:List Key} {us:List Zz},iR (ks.map kV) us->ItemsAre (jf P w) ks us
 |[],_,r=>by rw[aV]at r;cases r;exact .nil
 |k::ks,_,r=>by
  rw[aC]at r
  cases r with
  |cons h t=>exact .cons (uv h) (vQ t)
abbrev KT (H:Hp):List (List Key×V)->List (List Key×Zx×Zz)->Prop:=Paired fun p q=>p.1=q.1/\H q.2.1=some (.tup (p.1.map kV))/\iQ p.2 q.2.2
def KT.val {H:Hp} {kvs:List (List Key×V)} {xs:List (List Key×Zx×Zz)} (r:KT H kvs xs) (k:List Key):um (jH kvs k) ((atKey xs k).map (·.2)):=by
 induction r with
 |nil=>exact LA
 |@cons p q ps qs h t ih=>
  obtain⟨h1,_,h2⟩:=h;by_cases e:p.1=k
  ·have e':q.1=k:=h1.symm.trans e;have b:atKey (q::qs) k=some q.2:=by simp[atKey,aR,e']
   rw[iU e,b];exact h2
  ·have e':¬q.1=k:=fun z=>e (h1.trans z);have b:atKey (q::qs) k=atKey qs k:=by simp[atKey,aR,e']
   rw[iV e,b];exact ih
def KT.repl {H:Hp} {kvs:List (List Key×V)} {xs:List (List Key×Zx×Zz)} (r:KT H kvs xs) (k:List Key) {y:V} {u:Zz} (ry:iQ y u):
  KT H (kvs.map fun kv=>if kv.1=k then(kv.1,y)else kv) (xs.map (putAt k u)):=by
 induction r with
 |nil=>exact .nil
 |@cons p q ps qs h t ih=>
  rw[aC,aC];refine .cons ?_ ih;obtain⟨h1,h2,h3⟩:=h;unfold putAt;by_cases e:p.1=k;·rw[gT e,gT (h1.symm.trans e)];exact⟨h1,h2,ry⟩
  ·rw[gN e,gN (fun z=>e (h1.trans z))];exact⟨h1,h2,h3⟩
def KT.put {H:Hp} {kvs:List (List Key×V)} {xs:List (List Key×Zx×Zz)} (r:KT H kvs xs) (k:List Key) {b:Zx} {y:V} {u:Zz} (hb:H b=some (.tup (k.map kV))) (ry:iQ y u):
  KT H (mS kvs k y) (storedH xs k b u):=by
 have e:(kvs.any fun kv=>decide (kv.1=k))=(atKey xs k).isSome:=by rw[lG,(r.val k).isSome_eq,dw]
 unfold mS storedH;rw[e];by_cases q:(atKey xs k).isSome=true;·rw[gT q,gT q];exact r.repl k ry
 ·rw[gN q,gN q];exact Paired.snoc r ⟨rfl,hb,ry⟩
def KT.keeps {H H':Hp} {kvs:List (List Key×V)} {xs:List (List Key×Zx×Zz)} (r:KT H kvs xs) (ht:∀b ys,H b=some (.tup ys)->H' b=some (.tup ys)):KT H' kvs xs:=
 Paired.mapP r fun _ _ z=>⟨z.1,ht _ _ z.2.1,z.2.2⟩
section
variable {P:Zu} {w:Zv} {H:Hp} {h:Zt} {a:Zx}
def GO {u:HO} (ok:HOk P w H h) (e:Rd H a u):jL P w H h a u:=e.ok ok
def Ax {kvs:List (Key×V)} (ok:HOk P w H h) (e:Rd H a (.dK kvs)):kvs.length<=sizeLine/\(a==Lz)=false/\∃vs,KV kvs vs/\h.DictOf (jf P w) a vs:=
 show jL P w H h a (.dK kvs)from GO ok e
def vR {kvs:List (Key×V)} (ok:HOk P w H h) (e:H a=some (.dK kvs)):kvs.length<=sizeLine/\(a==Lz)=false/\∃vs,KV kvs vs/\h.DictOf (jf P w) a vs:=Ax ok (.inl e)
def vS {ks:List Key} (ok:HOk P w H h) (e:H a=some (.tup (ks.map kV))):(tupleKind (jf P w)).is h ks a:=by obtain⟨_,its,r,o,h1,h2,n,h3,_⟩:=(show jL P w H h a (.tup (ks.map kV))from ok a _ e);exact⟨o,its.toArray,n,h1,h2,h3,by simpa using vQ r⟩
def Ay {kvs:List (List Key×V)} (ok:HOk P w H h) (e:Rd H a (.dT kvs)):kvs.length<=sizeLine/\(a==Lz)=false/\
  ∃xs,KT H kvs xs/\h.DictOfH (tupleKind (jf P w)) a xs:=by
 obtain⟨z,y,xs,r,o,es,ep,h1,h2,h3,h4,h5⟩:=(show jL P w H h a (.dT kvs)from GO ok e);refine⟨z,y,xs,r,o,es,ep,h1,h2,h3,h4,fun x hx=>?_,h5⟩;have all:∀{l:List (List Key×V)} {m:List (List Key×Zx×Zz)},KT H l m->∀x∈m,(tupleKind (jf P w)).is h x.1 x.2.1:=by
  intro l m q
  induction q with
  |nil=>intro x hx;exact nomatch hx
  |@cons p q ps qs hq t ih=>
   intro x hx;rcases ak.mp hx with e|hx;·subst e;exact vS ok (by rw[<-hq.1];exact hq.2.1)
   ·exact ih x hx
 exact all r x hx
def Jh {kvs:List (List Key×V)} (ok:HOk P w H h) (e:H a=some (.dT kvs)):kvs.length<=sizeLine/\(a==Lz)=false/\
  ∃xs,KT H kvs xs/\h.DictOfH (tupleKind (jf P w)) a xs:=Ay ok (.inl e)
end
def wU (H:Hp) (a:Zx) (y:V) (r:Option V):Prop:=
 (∃kvs k,Rd H a (.dK kvs)/\y=kV k/\r=jH kvs k)\/∃kvs k b,Rd H a (.dT kvs)/\y= .ref b/\H b=some (.tup (k.map kV))/\r=jH kvs k
def Aa (H:Hp) (a:Zx) (y v:V) (H':Hp):Prop:=
 (∃kvs k,H a=some (.dK kvs)/\y=kV k/\kvs.length<sizeLine/\H'=upd H a (.dK (mS kvs k v)))\/
 ∃kvs k b,H a=some (.dT kvs)/\y= .ref b/\H b=some (.tup (k.map kV))/\kvs.length<sizeLine/\H'=upd H a (.dT (mS kvs k v))
theorem wU.k {H:Hp} {a:Zx} {kvs:List (Key×V)} {k:Key} (e:H a=some (.dK kvs)):wU H a (kV k) (jH kvs k):= .inl ⟨kvs,k,.inl e,rfl,rfl⟩
theorem Aa.k {H:Hp} {a:Zx} {kvs:List (Key×V)} {k:Key} {v:V} (e:H a=some (.dK kvs)) (hl:kvs.length<sizeLine):Aa H a (kV k) v (upd H a (.dK (mS kvs k v))):= .inl ⟨kvs,k,e,rfl,hl,rfl⟩
section
variable {X:Cx} {pz:Za} {σ:St} {H:Hp} {s:Zy} {a:Zx} {y v:V} {u r:Zz} {o:Option V} {A:Zw} {E:Zb}
def Inv.big (I:Inv X pz σ H s):Lz<s.heap.objs.size:=by have h:K9<s.heap.objs.size:=(I.mod.glob.keeps I.bk).lt;exact Nat.lt_trans (by decide) h
def Az {Q:Zb} (hu:A.units+ 1<cLine) (I:Inv X pz σ H s) (g:wU H a y (some v)) (ry:iQ y u) (h:∀w' s',Inv X pz σ H s'->iQ v w'->Q w' s'):
  La (model X.prog X.w) A (getItem (.ref a) u) Q E s:=by
 rcases g with⟨kvs,k,e,ey,l⟩|⟨kvs,k,b,e,ey,eb,l⟩;·subst ey;obtain⟨z,hd,vs,rel,dd⟩:=Ax I.hok e;obtain⟨w',hw,rw'⟩:=um.some_of (v:=v) (o:=valueAt vs k) (by rw[l];exact rel.val k);exact wpAny_getItem_of (uv ry) dd.mapOf hw (h w' _ (I.tok _) rw')
 ·subst ey;cases(show u=Li b from ry);obtain⟨z,hd,xs,rel,dd⟩:=Ay I.hok e;obtain⟨w',hw,rw'⟩:=um.some_of (v:=v) (o:=(atKey xs k).map (·.2)) (by rw[l];exact rel.val k);obtain⟨p,hp,hp2⟩:=dy.mp hw;refine wpAny_getItem_heap (Mo hu) (vS I.hok eb) dd hp ?_;rw[hp2];exact h w' _ (I.tok _) rw'
def d_in {Q:Zb} (hu:A.units+ 1<cLine) (I:Inv X pz σ H s) (g:wU H a y o) (ry:iQ y u) (h:∀s',Inv X pz σ H s'->Q (.bool o.isSome) s'):
  La (model X.prog X.w) A (Lp .In u (.ref a)) Q E s:=by
 rcases g with⟨kvs,k,e,ey,l⟩|⟨kvs,k,b,e,ey,eb,l⟩;·subst ey;obtain⟨z,hd,vs,rel,dd⟩:=Ax I.hok e;refine wpAny_in_of (uv ry) hd dd.mapOf ?_;rw[<-(rel.val k).isSome_eq,<-l];exact h _ (I.tok _)
 ·subst ey;cases(show u=Li b from ry);obtain⟨z,hd,xs,rel,dd⟩:=Ay I.hok e;refine wpAny_in_heap (Mo hu) (vS I.hok eb) hd dd ?_;have q:=(rel.val k).isSome_eq;rw[dw]at q;rw[<-q,<-l];exact h _ (I.tok _)
def Ey {Q:Zb} (hu:A.units+ 1<cLine) (I:Inv X pz σ H s) (g:wU H a y o) (ry:iQ y u) (h:∀s',Inv X pz σ H s'->Q (.bool (!o.isSome)) s'):
  La (model X.prog X.w) A (Lp .NotIn u (.ref a)) Q E s:=by
 rcases g with⟨kvs,k,e,ey,l⟩|⟨kvs,k,b,e,ey,eb,l⟩;·subst ey;obtain⟨z,hd,vs,rel,dd⟩:=Ax I.hok e;refine wpAny_notIn_of (uv ry) hd dd.mapOf ?_;rw[<-(rel.val k).isSome_eq,<-l];exact h _ (I.tok _)
 ·subst ey;cases(show u=Li b from ry);obtain⟨z,hd,xs,rel,dd⟩:=Ay I.hok e;refine wpAny_notIn_heap (Mo hu) (vS I.hok eb) hd dd ?_;have q:=(rel.val k).isSome_eq;rw[dw]at q;rw[<-q,<-l];exact h _ (I.tok _)
def rF {h':Zt} {t':Nat} {ob:HO} (I:Inv X pz σ H s) (mu:Mut (H a)) (hs:Mj a s.heap h') (he:∃q,h'.get? a=some q) (new:jL X.prog X.w (upd H a ob) h' a ob):
  Inv X pz σ (upd H a ob) {s with heap:=h',toks:=t'}:=
 I.write (x:=a) (e:=a) mu (.inl rfl) (fun b q hb z=>(hs.2 b hb).trans z) he new
def rG {P:Zu} {w:Zv} {H':Hp} {h':Zt} {kvs:List (Key×V)} {vs:List (Key×Zz)} (z:kvs.length<=sizeLine) (hd:(a==Lz)=false) (rel:KV kvs vs) (dd:h'.DictOf (jf P w) a vs):
  jL P w H' h' a (.dK kvs):=⟨z,hd,vs,rel,dd⟩
def AA {H':Hp} {Q:Unit->Zy->Prop} (hu:A.units+ 1<cLine) (I:Inv X pz σ H s) (g:Aa H a y v H') (ry:iQ y u) (rv:iQ v r) (h:∀s',Inv X pz σ H' s'->Q () s'):
  La (model X.prog X.w) A (setItem (.ref a) u r) Q E s:=by
 rcases g with⟨kvs,k,e,ey,l,eH⟩|⟨kvs,k,b,e,ey,eb,l,eH⟩
 ·subst ey eH;obtain⟨z,hd,vs,rel,dd⟩:=vR I.hok e;have hz:vs.length<=sizeLine:=by rw[<-rel.length];exact z
  have hl:(mS kvs k v).length<=sizeLine:=by have:=ig kvs k v;lia
  refine wpAny_setItem_pairs (hsz:=hz) (uv ry) dd fun h' dd' hs=>h _ ?_;have he:∃q,h'.get? a=some q:=let⟨q,_,_,hq,_⟩:=dd';⟨q,hq⟩;exact rF I (by rw[e];exact LA) hs he (rG hl hd (rel.put k rv) dd')
 ·subst ey eH;cases(show u=Li b from ry);obtain⟨z,hd,xs,rel,dd⟩:=Jh I.hok e;have hz:xs.length<=sizeLine:=by rw[<-Paired.length rel];exact z
  have hl:(mS kvs k v).length<=sizeLine:=by have:=ig kvs k v;lia
  refine wpAny_setItem_heap (hsz:=hz) (Mo hu) (vS I.hok eb) dd fun h' dd' hs=>h _ ?_;obtain⟨q,es,ep,hq,h2,h3,h4,_,h5⟩:=dd';refine rF I (by rw[e];exact LA) hs ⟨q,hq⟩ ⟨hl,hd,_,(rel.put k eb rv).keeps fun c ys ec=>?_,q,es,ep,hq,h2,h3,h4,h5⟩;rw[f9 (kU ec e (fun z=>nomatch z))];exact ec
end
section
variable {X:Cx} {pz:Za} {σ:St} {H:Hp} {s:Zy} {a:Zx} {kvs:List (Key×V)} {k:Key} {u:Zz} {A:Zw} {E:Zb}
end
def Ji (i:Zr):Prop:=∀ov iv,subscripted i false ov iv=operate [ov,iv] (getItem ov iv)
def AB {prog:Zu} {w:Zv} {A:Zw} {E:Zb} {s:Zy} {env:Env} {value slice:Zr} {pos:Pos} {T id:String} {Q:Zb}
  (hl:typeLookup (.type T) "__getitem__"=pure (some (.builtin id))) (hs:Ji slice)
  (h:La (model prog w) A (eval value env) (fun o s₁=>La (model prog w) A (eval slice env) (fun i s₂=>s₂.TypeIs o T/\La (model prog w) A (getItem o i) Q E s₂) E s₁) E s):
  La (model prog w) A (eval (.Subscript value slice pos) env) Q E s:=by
 refine Subscript_ (Ll h (fun o s₁ h₁=>Ll h₁ (fun i s₂ h₂=>?_) fun _ _ x=>x) fun _ _ x=>x);obtain⟨hT,h₂⟩:=h₂;unfold subscriptTail;refine C5 ?_;rw[getitemInPython_of_ne hT.not_modules];refine C5 (wpAny_specialOf hT hl ?_);have fin:La (model prog w) A (subscripted slice false o i) (fun r s₃=>La (model prog w) A (letTemporaryGo value o r >>= fun _=>pure r) Q E s₃) E s₂:=by rw[hs o i];exact wpAny_operating (Ll h₂ (fun r s₃ h₃=>C5 (wpAny_letTemporaryGo (Lb h₃))) fun _ _ x=>x)
 first
  |exact Lb (C5 fin)
  |exact C5 (Lb (C5 fin))
  |exact C5 fin
def xr {X:Cx} {pz:Za} {σ:St} {H:Hp} {s:Zy} {a:Zx} {y:V} {o:Option V} (I:Inv X pz σ H s) (g:wU H a y o):s.TypeIs (.ref a) "dict":=by
 rcases g with⟨kvs,k,e,_,_⟩|⟨kvs,k,b,e,_,_,_⟩;·obtain⟨_,_,vs,_,dd⟩:=Ax I.hok e;exact dd.typeIs
 ·obtain⟨_,_,xs,_,dd⟩:=Ay I.hok e;exact dd.typeIs
def Jj (td ty:TE):TE:=fun σ H Q=>td σ H fun x H1=>ty σ H1 fun y H2=>∃a v,x= .ref a/\wU H2 a y (some v)/\Q v H2
def tDIn (ty td:TE):TE:=fun σ H Q=>ty σ H fun y H1=>td σ H1 fun x H2=>∃a o,x= .ref a/\wU H2 a y o/\Q (.bl o.isSome) H2
def Ez (ty td:TE):TE:=fun σ H Q=>ty σ H fun y H1=>td σ H1 fun x H2=>∃a o,x= .ref a/\wU H2 a y o/\Q (.bl (!o.isSome)) H2
def Jk (td ty tv:TE):TS:=fun D σ H=>tv σ H fun v H1=>td σ H1 fun x H2=>ty σ H2 fun y H3=>∃a H4,x= .ref a/\Aa H3 a y v H4/\D.nx σ H4
section
variable {X:Cx} {o i e value:Zr} {pos pos' tpos:Pos} {td ty tv:TE}
def uw (hu:X.A.units+ 1<cLine) (ho:PE X o td) (hi:PE X i ty) (hs:Ji i:=by exact fun _ _=>rfl):PE X (.Subscript o i pos) (Jj td ty):=by intro pz s σ H Q I h;refine AB eI.lookup hs (thn (ho pz s σ H _ I h) fun u s1 ⟨x,H1,I1,rx,q1⟩=>thn (hi pz s1 σ H1 _ I1 q1) ?_);rintro iv s2 ⟨y,H2,I2,ry,a,v,rfl,g,q2⟩;obtain rfl:u=Li a:=rx;exact⟨xr I2 g,Az hu I2 g ry fun w' s3 I3 rw'=>⟨v,H2,I3,rw',q2⟩⟩
def AD (hu:X.A.units+ 1<cLine) (hi:PE X i ty) (ho:PE X o td):PC X .In i o (tDIn ty td):=by intro pz s σ H Q I h;refine thn (hi pz s σ H _ I h) fun iv s1 ⟨y,H1,I1,ry,q1⟩=>thn (ho pz s1 σ H1 _ I1 q1) ?_;rintro u s2 ⟨x,H2,I2,rx,a,ov,rfl,g,q2⟩;obtain rfl:u=Li a:=rx;exact d_in hu I2 g ry fun s3 I3=>⟨.bl ov.isSome,H2,I3,rfl,q2⟩
def AE (hu:X.A.units+ 1<cLine) (hi:PE X i ty) (ho:PE X o td):PC X .NotIn i o (Ez ty td):=by intro pz s σ H Q I h;refine thn (hi pz s σ H _ I h) fun iv s1 ⟨y,H1,I1,ry,q1⟩=>thn (ho pz s1 σ H1 _ I1 q1) ?_;rintro u s2 ⟨x,H2,I2,rx,a,ov,rfl,g,q2⟩;obtain rfl:u=Li a:=rx;exact Ey hu I2 g ry fun s3 I3=>⟨.bl (!ov.isSome),H2,I3,rfl,q2⟩
def om (hu:X.A.units+ 1<cLine) (ho:PE X o td) (hi:PE X i ty) (hv:PE X value tv) (hs:Ml value (some (.Subscript o i pos')) pos.line X.env=pure false):
  PS X (.Assign [.Subscript o i pos'] value pos) (Jk td ty tv):=by intro pz s σ H D I h;refine wpAny_Assign_Subscript (thn (hv pz s σ H _ I h) fun r s1 ⟨v,H1,I1,rv,q1⟩=>thn (ho pz s1 σ H1 _ I1 q1) fun u s2 ⟨x,H2,I2,rx,q2⟩=>thn (hi pz s2 σ H2 _ I2 q2) ?_) hs;rintro iv s3 ⟨y,H3,I3,ry,a,H4,rfl,g,q3⟩;obtain rfl:u=Li a:=rx;exact AA hu I3 g ry rv fun s4 I4=>⟨σ,H4,I4,q3⟩
end
def Cv {P:Zu} {w:Zv} {H:Hp} (h:Zt) (hb:Lz<h.objs.size):jL P w H (h.push {cls:= .type "dict",data:= .dict #[]}) h.objs.size (.dK []):=
 ⟨cJ _,beq_eq_false_iff_ne.mpr (Lq (cD hb)),[],.nil,Heap.DictOf.new h⟩
def GP:TE:=fun _ H Q=>∀p,H p=none->Q (.ref p) (upd H p (.dK []))
section
variable {X:Cx} {pos:Pos}
def pA:PE X (.Dict [] [] pos) GP:=fun pz s σ H Q I h=>
 wpAny_Dict_empty ⟨.ref s.heap.objs.size,_,I.laid (a:=s.heap.objs.size) (o:= .dK []) (t':=s.toks) (fun _ _ q=>fE _ q) (cH _) (Cv s.heap I.big),rfl,h _ (I.hok.fresh (cH _))⟩
end
def jP (kvs more:List (Key×V)):List (Key×V):=more.foldl (fun acc kv=>mS acc kv.1 kv.2) kvs
def KV.merge:∀{more:List (Key×V)} {rs:List (Key×Zz)} {kvs:List (Key×V)} {vs:List (Key×Zz)},KV more rs->KV kvs vs->KV (jP kvs more) (merged vs rs):=by
 intro more rs kvs vs r;unfold KV at r
 induction r generalizing kvs vs with
 |nil=>intro q;exact q
 |@cons p q ps qs h t ih=>
  intro r0;have e:KV (mS kvs p.1 p.2) (stored vs q.1 q.2):=by have:=r0.put p.1 h.2;rw[<-h.1];exact this
  exact ih e
theorem mB:∀(more kvs:List (Key×V)),(jP kvs more).length<=kvs.length+more.length
 |[],kvs=>by show kvs.length<=kvs.length+ 0;lia
 |p::r,kvs=>by have h1:=mB r (mS kvs p.1 p.2);have h2:=ig kvs p.1 p.2;show(jP (mS kvs p.1 p.2) r).length<=_;rw[aA];lia
structure M1 (X:Cx) (o:Zr) (m:Str) (apos:Pos) (e:Zr) (cpos:Pos):Prop where
 base:LW o m X.env (eval o X.env)=eval o X.env
 few:((LF cpos (Lg [e] X.env)).all (fun x=>!x.1)&&(backToKw cpos (Mg [] X.env)).all (fun x=>x.1.isSome)
  &&decide (([e]:List Zr).length+([]:List Keyword).length+(if([]:List Keyword).isEmpty then 0 else 1)<30))=true
 line:(apos.endLine==cpos.line)=true
 trees:LF cpos (Lg [e] X.env)=[(false,eval e X.env)]
structure M2 (X:Cx) (o:Zr) (m:Str) (apos:Pos) (e f:Zr) (cpos:Pos):Prop where
 base:LW o m X.env (eval o X.env)=eval o X.env
 few:((LF cpos (Lg [e,f] X.env)).all (fun x=>!x.1)&&(backToKw cpos (Mg [] X.env)).all (fun x=>x.1.isSome)
  &&decide (([e,f]:List Zr).length+([]:List Keyword).length+(if([]:List Keyword).isEmpty then 0 else 1)<30))=true
 line:(apos.endLine==cpos.line)=true
 trees:LF cpos (Lg [e,f] X.env)=[(false,eval e X.env),(false,eval f X.env)]
section
variable {X:Cx} {pz:Za} {σ:St} {H:Hp} {s:Zy} {a:Zx} {y d:V} {u r:Zz} {o:Option V} {A:Zw} {E:Zb}
end
section
variable {X:Cx} {o e f:Zr} {apos cpos:Pos} {td ty tx:TE}
end
section
variable {X:Cx} {pz:Za} {σ:St} {H:Hp} {s:Zy} {a:Zx} {kvs:List (Key×V)} {A:Zw} {E:Zb}
end
section
variable {X:Cx} {pz:Za} {σ:St} {H:Hp} {s:Zy} {a:Zx} {y:V} {u:Zz} {A:Zw} {E:Zb}
end
end L2.Internal
namespace HT.Internal
open PySem PyProof.Rows
section
open PySem.SeqAt
open PySem.AutoSeq1 (wpAny_loadPart')
open PySem.MeetsSeq PySem.MeetsSeq2 PySem.MeetsSeq3
end
section
variable {prog:Zu} {w:Zv} {A:Zw} {E:Zb} {s:Zy}
def cat_tup {t b:Zx} {vs ws:List Zz} {Q:Zb} (ht:IsTup s.heap t vs.toArray) (hb:IsTup s.heap b ws.toArray) (hv:vs≠[])
  (h1:ws=[]->Q (.ref t) s) (h2:ws≠[]->Q (.ref s.heap.objs.size) {s with heap:=s.heap.push {cls:= .type "tuple",data:= .seq (vs++ws).toArray}})
  (hsz:vs.length+ws.length<=sizeLine):La (model prog w) A (Ly .Add (.ref t) (.ref b)) Q E s:=by
 obtain⟨⟨cls,dd,data,sl⟩,ho,hc,n,hd⟩:=id ht;obtain⟨⟨cls2,dd2,data2,sl2⟩,ho2,hc2,n2,hd2⟩:=id hb;simp only at hc hd hc2 hd2;subst hc hd hc2 hd2;have e:vs.toArray++ws.toArray=(vs++ws).toArray:=by simp
 by_cases hw:ws=[]
 ·exact concat_meets ⟨_,ho,rfl⟩ ⟨_,ho2,rfl⟩ noFill_tuple_add seq_tuple_add eJ eK (eL _ _)
   (tuple_addW1 t b vs.toArray ws.toArray n n2 dd dd2 sl sl2 (by simpa using hv) (by simp[hw])) ⟨ho,ho2,h1 hw⟩
 ·refine concat_meets ⟨_,ho,rfl⟩ ⟨_,ho2,rfl⟩ noFill_tuple_add seq_tuple_add eJ eK (eL _ _)
   (tuple_addW2 t b vs.toArray ws.toArray n n2 dd dd2 sl sl2 (by simpa using hv) (by simpa using hw) (by rw[aW,aW];exact hsz)) ⟨ho,ho2,?_⟩;rw[e];exact h2 hw
def sIx (n d:Nat):Option Int->Nat
 |none=>d
 |some v=>if v<0 then(v+(n:Int)).toNat else min v.toNat n
def sIx_none (n d:Nat):sIx n d none=d:=rfl
def sIx_nat (n d k:Nat):sIx n d (some (k:Int))=min k n:=by show(if(k:Int)<0 then((k:Int)+(n:Int)).toNat else min (k:Int).toNat n)=min k n;rw[gN (by lia),fj]
def GQ (n d:Nat) (hd:d<=n) (o:Option Int):sIx n d o<=n:=by
 cases o with
 |none=>exact hd
 |some v=>
  show(if v<0 then(v+(n:Int)).toNat else min v.toNat n)<=n;by_cases hv:v<0;·rw[gT hv];lia
  ·rw[gN hv];exact Nat.min_le_right _ _
def AF (v:Int) (n d:Nat):(if v<0 then max (v+(n:Int)) 0 else min v (n:Int))=((sIx n d (some v):Nat):Int):=by
 show(if v<0 then max (v+(n:Int)) 0 else min v (n:Int))=(((if v<0 then(v+(n:Int)).toNat else min v.toNat n):Nat):Int);by_cases hv:v<0;·simp only[gT hv];lia
 ·simp only[gN hv];lia
def zv (lo hi:Option Int) (n:Nat):Mi lo hi 1 (n:Int)=(((sIx n 0 lo:Nat):Int),((sIx n n hi:Nat):Int)):=by
 have h1:¬((1:Int)<0):=by lia
 unfold Mi;simp only[h1,if_false];refine Prod.ext ?_ ?_
 ·cases lo with
  |none=>rfl
  |some v=>exact AF v n 0
 ·cases hi with
  |none=>rfl
  |some v=>exact AF v n n
def zw (i j:Nat):LZ (i:Int) (j:Int) 1=j-i:=by
 unfold LZ;have h1:(1:Int)>0:=by lia
 simp only[h1,if_true,Int.ediv_one];split<;>lia
def tV {v:Zz} {o:Option Int} {Q:Option Int->Zy->Prop} (p:IsPart v o) (h:Q o s):La (model prog w) A (Builtin.Slice.slicePartIndex v) Q E s:=by
 cases p with
 |none=>exact slicePart_none h
 |int i t=>exact slicePart_int h
def qS {sl:Zx} {vl vu:Zz} {lo hi:Option Int} {n:Nat} {Q:Int×Int×Nat->Zy->Prop} (hs:s.heap.IsSliceOf sl vl vu .none) (pl:IsPart vl lo) (pu:IsPart vu hi)
  (h:Q (((sIx n 0 lo:Nat):Int),1,sIx n n hi-sIx n 0 lo) s):La (model prog w) A (Builtin.Slice.sliceApplied (.ref sl) (pure (n:Int))) Q E s:=by obtain⟨os,hos,hcs,hds⟩:=id hs;unfold Builtin.Slice.sliceApplied Builtin.Slice.sliceFields;refine C5 (C5 (Lu hos hds (x:=vl) rfl (C5 (Lu hos hds (x:=vu) rfl (C5 (Lu hos hds (x:= .none) rfl (Lb ?_)))))));refine C5 (slicePart_none ?_);show La _ _ (if((1:Int)==0)=true then _ else _) _ _ s;rw[gN (by decide)];refine C5 (tV pl (C5 (tV pu (C5 (Lb ?_)))));show La _ _ (match Mi lo hi 1 (n:Int)with|(lo,hi)=>pure (lo,(1:Int),LZ lo hi 1)) _ _ s;rw[zv lo hi n];show La _ _ (pure (((sIx n 0 lo:Nat):Int),(1:Int),LZ ((sIx n 0 lo:Nat):Int) ((sIx n n hi:Nat):Int) 1)) _ _ s;rw[zw];exact Lb h
def Cw (xs:Array Zz) (i k:Nat):((aa k).filterMap fun(m:Nat)=>xs[((i:Int)+(m:Int)*1).toNat]?).toArray=((xs.toList.drop i).take k).toArray:=by
 have e:(fun(m:Nat)=>xs[((i:Int)+(m:Int)*1).toNat]?)=fun m=>xs[i+m]?:=by
  funext m;have:((i:Int)+(m:Int)*1).toNat=i+m:=by lia
  rw[this]
 rw[e];have:=pick_run xs i k;rw[List.filterMap_map]at this;have e2:((fun x=>xs[x]?)∘fun x=>i+x)=fun m=>xs[i+m]?:=rfl;rw[e2]at this;rw[this]
def getItem_tuple_cut {t sl:Zx} {items:Array Zz} {vl vu:Zz} {lo hi:Option Int} {Q:Zb} (ht:IsTup s.heap t items) (hs:s.heap.IsSliceOf sl vl vu .none) (pl:IsPart vl lo) (pu:IsPart vu hi)
  (hw:¬(sIx items.size 0 lo=0/\sIx items.size items.size hi=items.size))
  (h:Q (.ref s.heap.objs.size) {s with heap:=s.heap.push {cls:= .type "tuple",data:= .seq ((items.toList.drop (sIx items.size 0 lo)).take (sIx items.size items.size hi-sIx items.size 0 lo)).toArray}})
  (hsz:items.size<=sizeLine):La (model prog w) A (getItem (.ref t) (.ref sl)) Q E s:=by
 have htake:sizeOk (.seq ((items.toList.drop (sIx items.size 0 lo)).take (sIx items.size items.size hi-sIx items.size 0 lo)).toArray):=by show((items.toList.drop (sIx items.size 0 lo)).take (sIx items.size items.size hi-sIx items.size 0 lo)).toArray.size<=sizeLine;rw[aW,aK,aX,fc];lia
 have hj:sIx items.size items.size hi<=items.size:=GQ _ _ (cH _) hi;obtain⟨os,hos,hcs,hds⟩:=id hs;have hTs:s.TypeIs (.ref sl) "slice":=⟨os,hos,hcs⟩;unfold getItem;try with_reducible refine LK ?_
 first|refine C5 (Lb ?_)|skip
 refine C5 (wpAny_sequenceKey ht.typeIs (by decide) ?_);refine C5 (LN (name:=Mp "__getitem__") ht.typeIs fK
  (L8 fK ht.typeIs entry_tuple_getitem ?_ (args_tuple_getitem _ _)));show La _ _ (Builtin.Tuple.tupleItemsOf (.ref t) >>= _) _ _ s;refine C5 (tupleItemsOf_ ht ?_);refine C5 (Mq hTs ?_);rw[gT (by decide)];refine C5 (qS hs pl pu ?_);have hno:¬((((sIx items.size 0 lo:Nat):Int)==0&&(1:Int)==1&&(sIx items.size items.size hi-sIx items.size 0 lo)==items.size)=true):=by intro q;rw[eX,eX]at q;have q1:((sIx items.size 0 lo:Nat):Int)=0:=eq_of_beq q.1.1;have q2:sIx items.size items.size hi-sIx items.size 0 lo=items.size:=eq_of_beq q.2;exact hw ⟨by lia,by lia⟩
 show La _ _ (if(((sIx items.size 0 lo:Nat):Int)==0&&(1:Int)==1&&(sIx items.size items.size hi-sIx items.size 0 lo)==items.size)=true then _ else _) _ _ s;rw[gN hno,Cw];first
  |exact C5 (m:=L0 _) (LC (Lb ⟨_,rfl,Lb h⟩) htake)
  |exact C5 (m:=L0 _) (LC (C5 (Lb (Lb ⟨_,rfl,Lb h⟩))) htake)
  |exact C5 (C5 (m:=L0 _) (LC (Lb (Lb ⟨_,rfl,Lb h⟩)) htake))
  |exact C5 (C5 (m:=L0 _) (LC (Lb ⟨_,rfl,Lb h⟩) htake))
end
end HT.Internal
namespace L2.Internal
open PySem PySem.Spec PyProof.Rows
abbrev TO:=St->Hp->(Option Int->Hp->Prop)->Prop
def PO (X:Cx) (e:Option Zr) (t:TO):Prop:=
 ∀(pz:Za) (s:Zy) (σ:St) (H:Hp) (Q:Option Int->Hp->Prop),Inv X pz σ H s->t σ H Q->
  La (model X.prog X.w) X.A (evalPart e X.env) (fun u s'=>∃o H',Inv X pz σ H' s'/\IsPart u o/\Q o H') X.xe s
def EA:TO:=fun _ H Q=>Q none H
def Jl (t:TE):TO:=fun σ H Q=>t σ H fun x H1=>∃i,x= .int i/\Q (some i) H1
def zx {ns:List Int}:∀{us:List Zz},iR (ns.map V.int) us->IntsAre us ns:=by
 induction ns with
 |nil=>intro us r;rw[aV]at r;cases r;exact .nil
 |cons n ns ih=>
  intro us r;rw[aC]at r
  cases r with
  |cons r1 r2=>obtain⟨t,e⟩:=r1;subst e;exact .cons n t (ih r2)
section
variable {X:Cx} {e:Zr} {te:TE} {lo hi:Option Zr} {tl th:TO} {pos p2:Pos}
def lP:PO X none EA:=by intro pz s σ H Q I h;rw[evalPart_none];exact Lb ⟨none,H,I,.none,h⟩
def lQ (h:PE X e te):PO X (some e) (Jl te):=by intro pz s σ H Q I hw;rw[evalPart_some];refine thn (h pz s σ H _ I hw) ?_;rintro u s1 ⟨x,H1,I1,r1,q1⟩;obtain⟨i,rfl,q⟩:=q1;obtain⟨t,rfl⟩:=r1;exact⟨some i,H1,I1,.int i t,q⟩
def SlR (X:Cx) (r:V->Option Int->Option Int->Hp->VK->Prop):Prop:=
 ∀(pz:Za) (s:Zy) (σ:St) (H:Hp) (x:V) (v vl vu:Zz) (lo hi:Option Int) (sl:Zx) (Q:VK),Inv X pz σ H s->iQ x v->s.heap.IsSliceOf sl vl vu .none->IsPart vl lo->IsPart vu hi->r x lo hi H Q->
  ∃T id,typeLookup (.type T) "__getitem__"=pure (some (.builtin id))/\s.TypeIs v T/\La (model X.prog X.w) X.A (getItem v (.ref sl)) (EP X pz σ Q) X.xe s
def tSl (r:V->Option Int->Option Int->Hp->VK->Prop) (te:TE) (tl th:TO):TE:=fun σ H Q=>te σ H fun x H1=>tl σ H1 fun l H2=>th σ H2 fun u H3=>r x l u H3 Q
def kz {r:V->Option Int->Option Int->Hp->VK->Prop} (hr:SlR X r) (he:PE X e te) (hl:PO X lo tl) (hu:PO X hi th):PE X (.Subscript e (.Slice lo hi none p2) pos) (tSl r te tl th):=by intro pz s σ H Q I h;refine Subscript_ (thn (he pz s σ H _ I h) ?_);rintro v s1 ⟨x,H1,I1,r1,q1⟩;refine wpAny_Slice (thn (hl pz s1 σ H1 _ I1 q1) fun vl s2 ⟨l,H2,I2,pl,q2⟩=>thn (hu pz s2 σ H2 _ I2 q2) ?_);rintro vu s3 ⟨u,H3,I3,pu,q3⟩;rw[evalPart_none];refine Lb ?_;have I4:Inv X pz σ H3 {s3 with heap:=s3.heap.push {cls:= .type "slice",data:= .fields #[vl,vu,.none]}}:=I3.kept (t':=s3.toks) fun b ob q=>fE _ q;obtain⟨T,id,hT,ht,hg⟩:=hr pz {s3 with heap:=s3.heap.push {cls:= .type "slice",data:= .fields #[vl,vu,.none]}} σ H3 x v vl vu l u s3.heap.objs.size Q I4 r1 (Heap.IsSliceOf.new ..) pl pu q3;show La (model X.prog X.w) X.A (subscriptTail e (.Slice lo hi none p2) v (.ref s3.heap.objs.size)) (EP X pz σ Q) X.xe {s3 with heap:=s3.heap.push {cls:= .type "slice",data:= .fields #[vl,vu,.none]}};exact tail_any (ops:=[.ref s3.heap.objs.size,v]) ht hT hg (by with_unfolding_all rfl)
def rb (xs:List V) (lo hi:Option Int):List V:=(xs.drop (HT.Internal.sIx xs.length 0 lo)).take (HT.Internal.sIx xs.length xs.length hi-HT.Internal.sIx xs.length 0 lo)
def rH (xs:List V) (lo hi:Option Int):(rb xs lo hi).length<=xs.length:=by unfold rb;rw[aK,aX];lia
def rSlT (K:Zp):V->Option Int->Option Int->Hp->VK->Prop:=fun x lo hi H Q=>∃a xs,x= .ref a/\SqT K H a xs/\
 ¬(HT.Internal.sIx xs.length 0 lo=0/\HT.Internal.sIx xs.length xs.length hi=xs.length)/\∀p,H p=none->Q (.ref p) (upd H p (.tup (rb xs lo hi)))
def GS:SlR X (rSlT X.K):=by
 intro pz s σ H x v vl vu lo hi sl Q I rx hs pl pu h;obtain⟨a,xs,rfl,hx,hw,q⟩:=h;cases rx;obtain⟨its,r,ht,hz⟩:=I.tuple hx;have hlen:its.toArray.size=xs.length:=by rw[aW];exact r.length.symm
 refine⟨"tuple",_,fK.lookup,ht.typeIs,?_⟩;refine HT.Internal.getItem_tuple_cut ht hs pl pu (by rw[hlen];exact hw) ?_ (by rw[hlen];exact hz);rw[hlen];refine⟨.ref s.heap.objs.size,_,I.laid (t':=s.toks) (o:= .tup (rb xs lo hi)) (fun b ob q=>fE _ q) (cH _) ?_,rfl,q _ (I.hok.fresh (cH _))⟩;exact⟨cE (rH xs lo hi) hz,_,(r.drop (HT.Internal.sIx xs.length 0 lo)).take (HT.Internal.sIx xs.length xs.length hi-HT.Internal.sIx xs.length 0 lo),yp.new _ _⟩
def Jn (K:Zp):R2:=fun x y H Q=>∃a b xs ys,x= .ref a/\y= .ref b/\SqT K H a xs/\SqT K H b ys/\xs≠[]/\xs.length+ys.length<=sizeLine/\
 (ys=[]->Q (.ref a) H)/\(ys≠[]->∀p,H p=none->Q (.ref p) (upd H p (.tup (xs++ys))))
def iR.nil_iff {xs:List V} {us:List Zz} (r:iR xs us):us=[]↔xs=[]:=by
 cases r with
 |nil=>simp
 |cons _ _=>simp
def EB:OpR X (Ly .Add) (Jn X.K):=by intro pz s σ H x y v u Q I rx ry h;obtain⟨a,b,xs,ys,rfl,rfl,ha,hb,hx,hz,q1,q2⟩:=h;cases rx;cases ry;obtain⟨its,r1,p1,_⟩:=I.tuple ha;obtain⟨its2,r2,p2,_⟩:=I.tuple hb;refine HT.Internal.cat_tup p1 p2 (fun z=>hx (r1.nil_iff.mp z)) (fun z=>⟨.ref a,H,I,rfl,q1 (r2.nil_iff.mp z)⟩) (fun z=>?_) (by rw[<-r1.length,<-r2.length];exact hz);refine⟨.ref s.heap.objs.size,_,I.laid (t':=s.toks) (o:= .tup (xs++ys)) (fun b ob q=>fE _ q) (cH _) ?_,rfl,q2 (fun w=>z (r2.nil_iff.mpr w)) _ (I.hok.fresh (cH _))⟩;exact⟨by rw[aQ];exact hz,_,r1.append r2,yp.new _ _⟩
end
def ixN (n:Nat) (i:Int):Option Nat:=if 0<=i then(if i<n then some i.toNat else none)else if-(n:Int)<=i then some (i+n).toNat else none
def atI {α:Type} (xs:List α) (i:Int):Option α:=(ixN xs.length i).bind fun j=>xs[j]?
def AG {n:Nat} {i:Int} {j:Nat} (h:ixN n i=some j):seqIndex? i n=some j/\j<n/\-(n:Int)<=i/\i<n:=by
 unfold ixN at h;by_cases h0:0<=i
 ·rw[gT h0]at h;by_cases h1:i<n;·rw[gT h1]at h;have e:i.toNat=j:=dm.inj h;exact⟨by rw[seqIndex_of h0 h1,e],by lia,by lia,h1⟩
  ·rw[gN h1]at h;cases h
 ·rw[gN h0]at h;by_cases h1: -(n:Int)<=i;·rw[gT h1]at h;have e:(i+n).toNat=j:=dm.inj h;exact⟨by rw[seqIndex_neg (by lia) h1,e],by lia,h1,by lia⟩
  ·rw[gN h1]at h;cases h
def xu {α:Type} {xs:List α} {i:Int} {v:α} (h:atI xs i=some v):∃j,seqIndex? i xs.length=some j/\xs[j]?=some v/\j<xs.length/\-(xs.length:Int)<=i/\i<xs.length:=by
 unfold atI at h
 cases e:ixN xs.length i with
 |none=>rw[e]at h;cases h
 |some j=>rw[e]at h;obtain⟨h1,h2,h3,h4⟩:=AG e;exact⟨j,h1,h,h2,h3,h4⟩
def fV {α:Type} {xs:List α} {j:Nat} {v:α} (h:xs[j]?=some v):atI xs (j:Int)=some v:=by
 have hj:j<xs.length:=(au.mp h).1;have e:ixN xs.length (j:Int)=some j:=by unfold ixN;rw[gT (by lia),gT (by lia)];simp
 unfold atI;rw[e];exact h
def EC (b:Zr):Prop:=∀o i,subscripted b false o i=operate [o,i] (getItem o i)
def IxR (X:Cx) (r:R2):Prop:=
 ∀(value slice:Zr) (pz:Za) (s:Zy) (σ:St) (H:Hp) (x y:V) (v u:Zz) (Q:VK),Inv X pz σ H s->iQ x v->iQ y u->r x y H Q->
  subscripted slice false v u=operate [v,u] (getItem v u)->La (model X.prog X.w) X.A (subscriptTail value slice v u) (EP X pz σ Q) X.xe s
def MtR (X:Cx) (id:String) (r:V->List V->Hp->VK->Prop):Prop:=
 ∀(pz:Za) (s:Zy) (σ:St) (H:Hp) (x:V) (xs:List V) (v:Zz) (us:List Zz) (Q:VK),Inv X pz σ H s->iQ x v->iR xs us->r x xs H Q->
  La (model X.prog X.w) X.A (call (.builtin id) (v::us)) (EP X pz σ Q) X.xe s
section
variable {X:Cx} {a b:Zr} {ta tb:TE} {pos:Pos}
def gf {r:R2} (hr:IxR X r) (ha:PE X a ta) (hb:PE X b tb) (hs:EC b:=by exact fun _ _=>rfl):PE X (.Subscript a b pos) (tOp r ta tb):=by intro pz s σ H Q I h;exact Subscript_ (Jd ha hb I h fun v u s2 x y H2 I2 rx ry q=>hr a b pz s2 σ H2 x y v u Q I2 rx ry q (hs _ _))
def rIxL (K:Zp):R2:=fun x y H Q=>∃p xs i v,x= .ref p/\y= .int i/\SqL K H p xs/\atI xs i=some v/\Q v H
def rIxT (K:Zp):R2:=fun x y H Q=>∃p xs i v,x= .ref p/\y= .int i/\SqT K H p xs/\atI xs i=some v/\Q v H
def rIxS:R2:=fun x y H Q=>∃z i c,x= .str z/\y= .int i/\z.length<=sizeLine/\atI z.cps.toList i=some c/\Q (.str ⟨#[c]⟩) H
def AH:IxR X (rIxL X.K):=by
 intro value slice pz s σ H x y v u Q I rx ry h hs;obtain⟨p,xs,i,z,rfl,rfl,hq,he,q⟩:=h;cases rx;obtain⟨t,rfl⟩:=ry;obtain⟨its,r,pl,hz⟩:=I.list hq;obtain⟨j,h1,h2,h3,h4,h5⟩:=xu he;obtain⟨w,ew,rw'⟩:=r.get h2;have hl:=r.length;have hn:=tO;have fin:EP X pz σ Q w s:=⟨z,H,I,rw',q⟩;by_cases h0:0<=i
 ·have hj:i.toNat=j:=by rw[seqIndex_of h0 h5]at h1;exact dm.inj h1
  exact item_listR pl.isList h0 (by lia) (by rw[hj];simpa using ew) fin hs
 ·have hj:(i+(its.toArray.size:Int)).toNat=j:=by rw[seqIndex_neg (by lia) h4]at h1;rw[aW,<-hl];exact dm.inj h1
  exact subscriptTail_builtinR (x:=w) pl.isList.typeIs slot_list_getitem.lookup
   (wpAny_getItem_list_neg (Q:=fun r s'=>r=w/\EP X pz σ Q r s') pl.isList (by lia) (by rw[aW]<;>lia) (by lia) (by rw[hj];simpa using ew) ⟨rfl,fin⟩) hs
def GU:IxR X (rIxT X.K):=by
 intro value slice pz s σ H x y v u Q I rx ry h hs;obtain⟨p,xs,i,z,rfl,rfl,hq,he,q⟩:=h;cases rx;obtain⟨t,rfl⟩:=ry;obtain⟨its,r,pl,hz⟩:=I.tuple hq;obtain⟨j,h1,h2,h3,h4,h5⟩:=xu he;obtain⟨w,ew,rw'⟩:=r.get h2;have hl:=r.length;have hn:=tO;have fin:EP X pz σ Q w s:=⟨z,H,I,rw',q⟩;exact subscriptTail_builtinR (x:=w) pl.typeIs slot_tuple_getitem.lookup
  (getItem_tuple (j:=j) (Q:=fun r s'=>r=w/\EP X pz σ Q r s') pl (by lia) (by lia) (by rw[aW,<-hl];exact h1) (by simpa using ew) ⟨rfl,fin⟩) hs
def AI:IxR X rIxS:=by
 intro value slice pz s σ H x y v u Q I rx ry h hs;obtain⟨z,i,c,rfl,rfl,hz,he,q⟩:=h;obtain⟨t,rfl⟩:=rx;obtain⟨t',rfl⟩:=ry;obtain⟨j,h1,h2,h3,h4,h5⟩:=xu he;have hl:z.cps.toList.length=z.length:=by simp[Str.length]
 rw[hl]at h1 h4 h5;have hn:=tO;exact tail_any (Mw s z t) slot_str_getitem.lookup (getItem_str (c:=c) (by have e1:decide (i< -(2^63:Int))=false:=gQ (by lia);have e2:decide (i≥2^63)=false:=gQ (by lia);rw[e1,e2,Bool.or_false]) (by rw[h1];simpa using h2) ⟨.str ⟨#[c]⟩,H,I.tok _,⟨_,rfl⟩,q⟩) hs
def zy (its:List Zz) (n j:Nat) (u:Zz):Obj.mapSeq (·.setIfInBounds j u) {cls:= .type "list",data:= .seq its.toArray n}={cls:= .type "list",data:= .seq (its.set j u).toArray n}:=by simp[Obj.mapSeq]
theorem Inv.lst {pz:Za} {σ:St} {H:Hp} {s:Zy} {p:Zx} {xs:List V} (I:Inv X pz σ H s) (h:H p=some (.lst xs)):
  ∃(its:List Zz) (n:Nat),iR xs its/\s.heap.get? p=some {cls:= .type "list",data:= .seq its.toArray n}/\xs.length<=sizeLine:=by obtain⟨z,its,n,r,e⟩:=I.hok p _ h;exact⟨its,n,r,e,z⟩
def Inv.lstUpd {pz:Za} {σ:St} {H:Hp} {s:Zy} {p:Zx} {xs ys:List V} {its its':List Zz} {n n':Nat} {f:Obj->Obj} (I:Inv X pz σ H s) (h:H p=some (.lst xs))
  (ho:s.heap.get? p=some {cls:= .type "list",data:= .seq its.toArray n}) (hf:f {cls:= .type "list",data:= .seq its.toArray n}={cls:= .type "list",data:= .seq its'.toArray n'}) (r:iR ys its') (hz:ys.length<=sizeLine) (t:Nat):
  Inv X pz σ (upd H p (.lst ys)) {s with heap:=s.heap.update p f,toks:=t}:=by
 have e:(s.heap.update p f).get? p=some {cls:= .type "list",data:= .seq its'.toArray n'}:=by rw[fG f ho (by rw[hf]<;>rfl),hf]
 refine I.write (x:=p) (e:=p) (by rw[h];trivial) (.inl rfl) (fun b u hb q=>(fH _ _ (Lq hb)).trans q) ⟨_,e⟩ ?_;exact⟨hz,its',n',r,e⟩
def Jo:V->V->V->Hp->(Hp->Prop)->Prop:=fun o i v H Q=>∃p xs k j,o= .ref p/\i= .int k/\H p=some (.lst xs)/\ixN xs.length k=some j/\Q (upd H p (.lst (xs.set j v)))
def pB:KD X Jo:=by
 intro pz s σ H o i v ov iv u Q I ro ri rv h;obtain⟨p,xs,k,j,rfl,rfl,hp,hj,q⟩:=h;cases ro;obtain⟨t,rfl⟩:=ri;obtain⟨its,n,r,ho,hz⟩:=I.lst hp;obtain⟨h1,h2,h3,h4⟩:=AG hj;have hl:=r.length;have hn:=tO;have I':Inv X pz σ (upd H p (.lst (xs.set j v))) {s with heap:=s.heap.update p (Obj.mapSeq (·.setIfInBounds j u))}:=
  I.lstUpd hp ho (zy its n j u) (r.set rv j) (by rw[List.length_set];exact hz) s.toks;by_cases h0:0<=k
 ·have hk:k.toNat=j:=by rw[seqIndex_of h0 h4]at h1;exact dm.inj h1
  exact PySem.W.ki_setAt ho h0 (by lia) (by rw[aW,<-hl];exact h4) (by rw[hk];exact⟨_,I',q⟩)
 ·have hk:(k+(its.toArray.size:Int)).toNat=j:=by rw[seqIndex_neg (by lia) h3]at h1;rw[aW,<-hl];exact dm.inj h1
  exact PySem.W.ki_setBack ho (by lia) (by rw[aW,<-hl];exact h3) (by lia) (by rw[hk];exact⟨_,I',q⟩)
def vT (lo hi:Option Int) (n:Nat):(Mh lo hi none n).1=((HT.Internal.sIx n 0 lo:Nat):Int)/\(Mh lo hi none n).2.1=((HT.Internal.sIx n n hi:Nat):Int)/\(Mh lo hi none n).2.2=1:=by
 refine⟨?_,?_,rfl⟩
 ·cases lo with
  |none=>simp[Mh,HT.Internal.sIx]
  |some i=>
   simp only[Mh,HT.Internal.sIx,Option.getD_none,show(1:Int)>0 by decide,if_true];by_cases h:i<0;·simp only[h,if_true]<;>lia
   ·simp only[h,if_false]<;>lia
 ·cases hi with
  |none=>simp[Mh,HT.Internal.sIx]
  |some i=>
   simp only[Mh,HT.Internal.sIx,Option.getD_none,show(1:Int)>0 by decide,if_true];by_cases h:i<0;·simp only[h,if_true]<;>lia
   ·simp only[h,if_false]<;>lia
def uz (its:List Zz) (lo hi:Option Int):slicePick its.toArray lo hi none=((its.drop (HT.Internal.sIx its.length 0 lo)).take (HT.Internal.sIx its.length its.length hi-HT.Internal.sIx its.length 0 lo)).toArray:=by obtain⟨h1,h2,h3⟩:=vT lo hi its.toArray.size;unfold slicePick;rw[h1,h2,h3];simp only[sliceRange_one,pick_run,aW]<;>rfl
def rSlL (K:Zp):V->Option Int->Option Int->Hp->VK->Prop:=fun x lo hi H Q=>∃a xs,x= .ref a/\SqL K H a xs/\∀p,H p=none->Q (.ref p) (upd H p (.lst (rb xs lo hi)))
def oo:SlR X (rSlL X.K):=by intro pz s σ H x v vl vu lo hi sl Q I rx hs pl pu h;obtain⟨a,xs,rfl,hx,q⟩:=h;cases rx;obtain⟨its,r,ht,hz⟩:=I.list hx;have hlen:=r.length;refine⟨"list",_,slot_list_getitem.lookup,ht.isList.typeIs,?_⟩;refine wpAny_getItem_list_slice ht.isList hs pl pu .none (by simp) ?_ (by rw[aW]<;>lia);rw[uz,<-hlen];refine⟨.ref s.heap.objs.size,_,I.laid (t':=s.toks) (o:= .lst (rb xs lo hi)) (fun b ob q=>fE _ q) (cH _) ?_,rfl,q _ (I.hok.fresh (cH _))⟩;exact⟨cE (rH xs lo hi) hz,_,0,(r.drop (HT.Internal.sIx xs.length 0 lo)).take (HT.Internal.sIx xs.length xs.length hi-HT.Internal.sIx xs.length 0 lo),fD _ rfl⟩
def rJ:V->Bool
 | .non=>true
 | .bl _=>true
 | .int _=>true
 | .str _=>true
 |_=>false
def eqV:V->V->Bool
 | .non,.non=>true
 | .bl a,.bl b=>a==b
 | .bl a,.int b=>(if a then 1 else 0)==b
 | .int a,.bl b=>a==(if b then 1 else 0)
 | .int a,.int b=>a==b
 | .str a,.str b=>a==b
 |_,_=>false
def AJ {A:Zw} {s:Zy} {y x:V} {u v:Zz} (ry:iQ y u) (rx:iQ x v) (fy:rJ y=true) (fx:rJ x=true):SeqAt.EqAt A s u v (eqV y x):=by
 cases y with
 |non=>
  cases ry
  cases x with
  |non=>cases rx;exact SeqAt.EqAt.same _
  |bl b=>cases rx;exact SeqAt.EqAt.none_bool b
  |int b=>obtain⟨t,rfl⟩:=rx;exact SeqAt.EqAt.none_int b t
  |str b=>obtain⟨t,rfl⟩:=rx;exact SeqAt.EqAt.none_str b t
  |_=>exact absurd (show false=true from fx) eV
 |bl a=>
  cases ry
  cases x with
  |non=>cases rx;exact SeqAt.EqAt.bool_none a
  |bl b=>cases rx;exact SeqAt.EqAt.bool_bool a b
  |int b=>obtain⟨t,rfl⟩:=rx;exact SeqAt.EqAt.bool_int a b t
  |str b=>obtain⟨t,rfl⟩:=rx;exact SeqAt.EqAt.bool_str a b t
  |_=>exact absurd (show false=true from fx) eV
 |int a=>
  obtain⟨t',rfl⟩:=ry
  cases x with
  |non=>cases rx;exact SeqAt.EqAt.int_none a t'
  |bl b=>cases rx;exact SeqAt.EqAt.int_bool a t' b
  |int b=>obtain⟨t,rfl⟩:=rx;exact SeqAt.EqAt.int_int a t' b t
  |str b=>obtain⟨t,rfl⟩:=rx;exact SeqAt.EqAt.int_str a t' b t
  |_=>exact absurd (show false=true from fx) eV
 |str a=>
  obtain⟨t',rfl⟩:=ry
  cases x with
  |non=>cases rx;exact SeqAt.EqAt.str_none a t'
  |bl b=>cases rx;exact SeqAt.EqAt.str_bool a t' b
  |int b=>obtain⟨t,rfl⟩:=rx;exact SeqAt.EqAt.str_int a t' b t
  |str b=>obtain⟨t,rfl⟩:=rx;exact SeqAt.EqAt.str_str a t' b t
  |_=>exact absurd (show false=true from fx) eV
 |_=>exact absurd (show false=true from fy) eV
def eqU (x:V) (u:Zz):Bool:=match u with
 | .none=>eqV .non x
 | .bool b=>eqV (.bl b) x
 | .int i _=>eqV (.int i) x
 | .str z _=>eqV (.str z) x
 |_=>false
def Dz {x y:V} {u:Zz} (r:iQ y u) (f:rJ y=true):eqU x u=eqV y x:=by
 cases y with
 |non=>cases r;rfl
 |bl b=>cases r;rfl
 |int i=>obtain⟨t,rfl⟩:=r;rfl
 |str z=>obtain⟨t,rfl⟩:=r;rfl
 |_=>exact absurd (show false=true from f) eV
theorem rK {x:V}:∀{xs:List V} {us:List Zz},iR xs us->xs.all rJ=true->us.any (eqU x)=xs.any fun y=>eqV y x
 |_,_,.nil,_=>rfl
 |y::xs,u::us,.cons r t,f=>by rw[aY,eX]at f;rw[aS,aS,Dz r f.1,rK t f.2]
theorem pE {A:Zw} {s:Zy} {x:V} {v:Zz} (rx:iQ x v) (fx:rJ x=true):∀{xs:List V} {us:List Zz},iR xs us->xs.all rJ=true->∀u∈us,SeqAt.EqAt A s u v (eqU x u)
 |_,_,.nil,_=>fun u hu=>by cases hu
 |y::xs,u::us,.cons r t,f=>fun u' hu=>by
  rw[aY,eX]at f;rcases ak.mp hu with rfl|hu;·rw[Dz r f.1];exact AJ r rx f.1 fx
  ·exact pE rx fx t f.2 u' hu
def inV (x:V) (xs:List V):Bool:=xs.any fun y=>eqV y x
def rIn (K:Zp) (neg:Bool):R2:=fun x y H Q=>∃p xs,y= .ref p/\(SqL K H p xs\/SqT K H p xs)/\rJ x=true/\xs.all rJ=true/\Q (.bl (if neg then !inV x xs else inV x xs)) H
def vU:OpR X (Lp .In) (rIn X.K false):=by
 intro pz s σ H x y v u Q I rx ry h;obtain⟨p,xs,rfl,hq,fx,fs,q⟩:=h;cases ry;rcases hq with hq|hq;·obtain⟨its,r,pl,hz⟩:=I.list hq;refine SeqAt.in_listAt (eqU x) pl.isList (fun w hw=>pE rx fx r fs w (by simpa using hw)) ⟨.bl _,H,I,rfl,?_⟩;rw[show its.toArray.any (eqU x)=its.any (eqU x) by simp,rK r fs];exact q
 ·obtain⟨its,r,pl,hz⟩:=I.tuple hq;refine SeqAt.in_tupleAt (eqU x) pl (fun w hw=>pE rx fx r fs w (by simpa using hw)) ⟨.bl _,H,I,rfl,?_⟩;rw[show its.toArray.any (eqU x)=its.any (eqU x) by simp,rK r fs];exact q
def vV:OpR X (Lp .NotIn) (rIn X.K true):=by
 intro pz s σ H x y v u Q I rx ry h;obtain⟨p,xs,rfl,hq,fx,fs,q⟩:=h;cases ry;rcases hq with hq|hq;·obtain⟨its,r,pl,hz⟩:=I.list hq;refine SeqAt.notIn_listAt (eqU x) pl.isList (fun w hw=>pE rx fx r fs w (by simpa using hw)) ⟨.bl _,H,I,rfl,?_⟩;rw[show its.toArray.any (eqU x)=its.any (eqU x) by simp,rK r fs];exact q
 ·obtain⟨its,r,pl,hz⟩:=I.tuple hq;refine SeqAt.notIn_tupleAt (eqU x) pl (fun w hw=>pE rx fx r fs w (by simpa using hw)) ⟨.bl _,H,I,rfl,?_⟩;rw[show its.toArray.any (eqU x)=its.any (eqU x) by simp,rK r fs];exact q
def gx:nQ X (.builtin "len") (fun xs H Q=>∃p ys,xs=[.ref p]/\(SqL X.K H p ys\/SqT X.K H p ys)/\Q (.int ys.length) H):=by
 intro pz s σ H xs us Q I r h;obtain⟨p,ys,rfl,hq,q⟩:=h;obtain⟨u,rfl,rx⟩:=my r;cases rx;have hn:=tO;rcases hq with hq|hq;·obtain⟨its,r',pl,hz⟩:=I.list hq;have hlen:=r'.length;exact Calls.call_len_list pl.isList (by simp only[aW]<;>lia) ⟨.int ys.length,H,I.tok _,⟨s.toks+ 1,by rw[aW,hlen]⟩,q⟩
 ·obtain⟨its,r',pl,hz⟩:=I.tuple hq;have hlen:=r'.length;exact len_tuple pl (by simp only[aW]<;>lia) ⟨.int ys.length,H,I.tok _,⟨s.toks+ 1,by rw[aW,hlen]⟩,q⟩
def qF:nQ X (.builtin "len") (fun xs H Q=>∃z,xs=[.str z]/\z.length<=sizeLine/\Q (.int z.length) H):=by intro pz s σ H xs us Q I r h;obtain⟨z,rfl,hz,q⟩:=h;obtain⟨u,rfl,t,rfl⟩:=my r;have hn:=tO;exact len_str (by lia) ⟨.int z.length,H,I.tok _,⟨_,rfl⟩,q⟩
def mZ:nQ X (.type "list") (fun xs H Q=>∃p ys,xs=[.ref p]/\(SqL X.K H p ys\/SqT X.K H p ys)/\∀l,H l=none->Q (.ref l) (upd H l (.lst ys))):=by
 intro pz s σ H xs us Q I r h;obtain⟨p,ys,rfl,hq,q⟩:=h;obtain⟨u,rfl,rx⟩:=my r;cases rx;have fin:∀(its:List Zz),iR ys its->ys.length<=sizeLine->∀(h':Zt) (c':Nat),(∀b o',s.heap.get? b=some o'->h'.get? b=some o')->
   h'.get? s.heap.objs.size=some {cls:= .type "list",dict:=none,data:= .seq its.toArray c',slots:=#[]}->EP X pz σ Q (.ref s.heap.objs.size) {s with heap:=h'}:=fun its r' hz h' c' kp e=>
  ⟨.ref s.heap.objs.size,_,I.laid (t':=s.toks) kp (cH _) (show jL X.prog X.w _ h' _ (.lst ys)from⟨hz,its,c',r',e⟩),rfl,q _ (I.hok.fresh (cH _))⟩;rcases hq with hq|hq;·obtain⟨its,r',pl,hz⟩:=I.list hq;have hlen:=r'.length;obtain⟨o,ho,hc,n,hd⟩:=pl.isList;exact call_list_seq p (.inl rfl) ho hc hd (fun h' c' kp e=>fin its r' hz h' c' kp e) (by simp only[aW]<;>lia)
 ·obtain⟨its,r',pl,hz⟩:=I.tuple hq;have hlen:=r'.length;obtain⟨o,ho,hc,n,hd⟩:=pl;exact call_list_seq p (.inr rfl) ho hc hd (fun h' c' kp e=>fin its r' hz h' c' kp e) (by simp only[aW]<;>lia)
def jo:nQ X (.type "tuple") (fun xs H Q=>∃p ys,xs=[.ref p]/\((SqL X.K H p ys/\∀l,H l=none->Q (.ref l) (upd H l (.tup ys)))\/(SqT X.K H p ys/\Q (.ref p) H))):=by
 intro pz s σ H xs us Q I r h;obtain⟨p,ys,rfl,h⟩:=h;obtain⟨u,rfl,rx⟩:=my r;cases rx;rcases h with⟨hq,q⟩|⟨hq,q⟩
 ·obtain⟨its,r',pl,hz⟩:=I.list hq;have hlen:=r'.length;refine call_tuple_list pl.isList (fun h' kp=>?_) (by simp only[aW]<;>lia);have I1:Inv X pz σ H {s with heap:=h'}:=I.kept (t':=s.toks) kp;have I2:Inv X pz σ (upd H h'.objs.size (.tup ys)) {s with heap:=h'.push {cls:= .type "tuple",data:= .seq its.toArray}}:=
   I1.laid (t':=s.toks) (fun b o e=>fE _ e) (cH _) (show jL X.prog X.w _ _ _ (.tup ys)from⟨hz,its,r',yp.new _ _⟩);exact⟨.ref h'.objs.size,_,I2,rfl,q _ (I1.hok.fresh (cH _))⟩
 ·obtain⟨its,r',pl,hz⟩:=I.tuple hq;exact call_tuple_same pl ⟨.ref p,H,I,rfl,q⟩
def tyV (K:Zp) (T:String) (x:V) (H:Hp):Prop:=match x with
 | .str _=>T="str"
 | .int _=>T="int"
 | .ref p=>(T="list"/\∃xs,SqL K H p xs)\/(T="tuple"/\∃o,K.lookup p=some o/\o.cls= .type "tuple"/\o.dict=none)\/
   (T="dict"/\((∃kvs,H p=some (.dK kvs))\/∃kvs,H p=some (.dT kvs)))\/(T="set"/\∃S n,H p=some (.set S n))
 |_=>False
def DA {pz:Za} {σ:St} {H:Hp} {s:Zy} {T:String} {x:V} {v:Zz} (I:Inv X pz σ H s) (r:iQ x v) (ty:tyV X.K T x H):
  s.TypeIs v T/\∀a,v= .ref a->∃ob,s.heap.get? a=some ob/\ob.dict=none:=by
 cases x with
 |str z=>obtain⟨t,rfl⟩:=r;cases(show T="str" from ty);exact⟨Mw s z t,fun _ e=>nomatch e⟩
 |int i=>obtain⟨t,rfl⟩:=r;cases(show T="int" from ty);exact⟨typeIs_int s i t,fun _ e=>nomatch e⟩
 |ref p=>
  cases r;rcases ty with⟨rfl,xs,hq⟩|⟨rfl,o,hk,hc,hd⟩|⟨rfl,hk⟩|⟨rfl,S,n,hk⟩;·obtain⟨its,_,pl,_⟩:=I.list hq;refine⟨pl.isList.typeIs,fun a e=>?_⟩;cases e;obtain⟨o,n,e,c,hd,_⟩:=pl;exact⟨o,e,hd⟩
  ·refine⟨⟨o,I.kIn p o hk,hc⟩,fun a e=>?_⟩;cases e;exact⟨o,I.kIn _ o hk,hd⟩
  ·have z:∃o,s.heap.get? p=some o/\o.ExactDict:=by
    rcases hk with⟨kvs,hk⟩|⟨kvs,hk⟩;·obtain⟨_,_,_,_,o,_,_,e,ex,_⟩:=I.hok p _ hk;exact⟨o,e,ex⟩
    ·obtain⟨_,_,_,_,o,_,_,e,ex,_⟩:=I.hok p _ hk;exact⟨o,e,ex⟩
   obtain⟨o,e,ex⟩:=z;refine⟨⟨o,e,ex.1⟩,fun a e2=>?_⟩;cases e2;exact⟨o,e,ex.2.1⟩
  ·obtain⟨o,_,_,_,e,ex,_⟩:=I.hok p _ hk;refine⟨⟨o,e,ex.1⟩,fun a e2=>?_⟩;cases e2;exact⟨o,e,ex.2.1⟩
 |_=>exact Lo ty
def tBM0 (K:Zp) (T:String) (r:V->List V->Hp->VK->Prop) (to:TE):TE:=fun σ H Q=>to σ H fun x H1=>tyV K T x H1/\r x [] H1 Q
def tBM (K:Zp) (T:String) (r:V->List V->Hp->VK->Prop) (to:TE) (t:TA):TE:=fun σ H Q=>to σ H fun x H1=>tyV K T x H1/\t σ H1 fun xs H2=>r x xs H2 Q
variable {o e:Zr} {es:List Zr} {to:TE} {t:TA} {name:Str} {apos cpos:Pos} {T id:String} {r:V->List V->Hp->VK->Prop}
def rL (pa:PlainAttrs T) (slot:Slot T name id) (hty:typeOf (.builtin id)=pure (.type "method_descriptor")) (hm:MtR X id r) (ho:PE X o to)
  (hbase:autoParam (LW o name X.env (eval o X.env)=eval o X.env) auR._auto_1) (hline:autoParam ((apos.endLine==cpos.line)=true) auR._auto_1):PE X (.Call (.Attribute o name apos) [] [] cpos) (tBM0 X.K T r to):=by intro pz s σ H Q I h;refine wpAny_Call_method0_late hbase hline (thn (ho pz s σ H _ I h) ?_);rintro v s1 ⟨x,H1,I1,r1,ty,q1⟩;obtain⟨h1,h2⟩:=DA I1 r1 ty;exact⟨T,id,pa,slot,hty,h1,h2,Calls.callWith_builtin rfl (PySem.evalArgs_none (hm pz s1 σ H1 x [] v [] Q I1 r1 .nil q1))⟩
def jq (pa:PlainAttrs T) (slot:Slot T name id) (hty:typeOf (.builtin id)=pure (.type "method_descriptor")) (hm:MtR X id r) (ho:PE X o to) (ha:PA X (e::es) t)
  (hbase:autoParam (LW o name X.env (eval o X.env)=eval o X.env) auR._auto_1)
  (hfew:((LF cpos (Lg (e::es) X.env)).all (fun x=>!x.1)&&(backToKw cpos (Mg [] X.env)).all (fun x=>x.1.isSome)
   &&decide ((e::es).length+([]:List Keyword).length+(if([]:List Keyword).isEmpty then 0 else 1)<30))=true:=by rfl)
  (hline:autoParam ((apos.endLine==cpos.line)=true) auR._auto_1) (hs:autoParam (Lg (e::es) X.env=(false,eval e X.env)::Lg es X.env) auR._auto_1) (hplain:autoParam ((LF cpos (Lg es X.env)).any (·.1)=false) auR._auto_1):
  PE X (.Call (.Attribute o name apos) (e::es) [] cpos) (tBM X.K T r to t):=by intro pz s σ H Q I h;refine wpAny_Call_method_late hbase hfew hline rfl (thn (ho pz s σ H _ I h) ?_);rintro v s1 ⟨x,H1,I1,r1,ty,q1⟩;obtain⟨h1,h2⟩:=DA I1 r1 ty;refine⟨T,id,pa,slot,hty,h1,h2,?_⟩;have hA:=ha cpos pz s1 σ H1 _ I1 q1;rw[hs]at hA⊢;refine Calls.callWith_builtin (by show(false||(LF cpos (Lg es X.env)).any (·.1))=false;rw[hplain]<;>rfl) (Calls.evalArgs_plain ?_);exact thn hA fun us s2 ⟨vs,H2,I2,r2,q2⟩=>hm pz s2 σ H2 x vs v us Q I2 r1 r2 q2
end
def MtM (X:Cx) (id:String) (r:V->List V->Hp->VK->Prop):Prop:=
 ∀(pz:Za) (s:Zy) (σ:St) (H:Hp) (x:V) (xs:List V) (v:Zz) (us:List Zz) (Q:VK),Inv X pz σ H s->iQ x v->iR xs us->r x xs H Q->
  La (model X.prog X.w) X.A (call (.builtin id) (v::us)) (EP X pz σ Q) X.xe s
def iR.one:∀{x:V} {us:List Zz},iR [x] us->∃u,us=[u]/\iQ x u
 |_,_,.cons r .nil=>⟨_,rfl,r⟩
def iR.zero:∀{us:List Zz},iR [] us->us=[]
 |_,.nil=>rfl
theorem iR.dropLast {xs:List V} {us:List Zz} (h:iR xs us):iR xs.dropLast us.dropLast:=by
 induction h with
 |nil=>exact .nil
 |cons r t ih=>
  cases t with
  |nil=>exact .nil
  |cons q t'=>exact .cons r ih
theorem iR.reverse {xs:List V} {us:List Zz} (h:iR xs us):iR xs.reverse us.reverse:=by
 induction h with
 |nil=>exact .nil
 |cons r t ih=>rw[aZ,aZ];exact iR.append ih (.cons r .nil)
def zA {α:Type} (l:List α):l.eraseIdx (l.length-1)=l.dropLast:=by
 induction l with
 |nil=>rfl
 |cons a r ih=>
  cases r with
  |nil=>rfl
  |cons b r=>
   have e:(a::b::r).length-1=((b::r).length-1)+ 1:=by have h1:(a::b::r).length=r.length+ 2:=rfl;have h2:(b::r).length=r.length+ 1:=rfl;lia
   rw[e,List.eraseIdx_cons_succ,ih];all_goals rfl
section
variable {X:Cx} {pz:Za} {σ:St} {H:Hp} {s:Zy} {l b:Zx} {xs ys zs:List V}
def Inv.lset {its its':List Zz} {n:Nat} {f:Array Zz->Array Zz} {t':Nat} (I:Inv X pz σ H s) (hH:H l=some (.lst xs))
  (e:s.heap.get? l=some {cls:= .type "list",data:= .seq its.toArray n}) (hf:f its.toArray=its'.toArray) (hv:iR ys its') (hz:ys.length<=sizeLine):
  Inv X pz σ (upd H l (.lst ys)) {s with heap:=s.heap.update l (Obj.mapSeq f),toks:=t'}:=by have q:=PySem.IsL.update e f;rw[hf]at q;refine I.write (x:=l) (e:=l) (by rw[hH];exact trivial) (.inl rfl) (fun b' u hb hu=>(fH s.heap (Obj.mapSeq f) (Lq hb)).trans hu) ⟨_,q⟩ ?_;exact⟨hz,its',_,hv,q⟩
def Inv.lnew {its:List Zz} {t':Nat} (I:Inv X pz σ H s) (hv:iR ys its) (hz:ys.length<=sizeLine):
  Inv X pz σ (upd H s.heap.objs.size (.lst ys)) {s with heap:=s.heap.push {cls:= .type "list",data:= .seq its.toArray},toks:=t'}:=
 I.laid (fun _ _ q=>fE _ q) (cH _) ⟨hz,its,0,hv,fD _ rfl⟩
theorem Inv.fresh (I:Inv X pz σ H s):H s.heap.objs.size=none:=I.hok.fresh (cH _)
def Inv.lstM (I:Inv X pz σ H s) (hH:H l=some (.lst xs)):xs.length<=sizeLine/\∃(its:List Zz) (n:Nat),iR xs its/\xs.length=its.length/\s.heap.get? l=some {cls:= .type "list",data:= .seq its.toArray n}:=by obtain⟨z,its,n,r,e⟩:=I.hok l _ hH;exact⟨z,its,n,r,r.length,e⟩
def Cy {n:Nat} (h:n<=sizeLine):Mr n=false:=by unfold Mr;exact gQ (by lia)
end
section
variable {X:Cx}
def AK:V->List V->Hp->VK->Prop:=fun x vs H Q=>∃l xs y,x= .ref l/\vs=[y]/\H l=some (.lst xs)/\xs.length<sizeLine/\Q .non (upd H l (.lst (xs++[y])))
def gK:MtM X "list.append" AK:=by intro pz s σ H x vs v us Q I rx rv h;obtain⟨l,xs,y,rfl,rfl,hH,hz,q⟩:=h;cases rx;obtain⟨u,rfl,ru⟩:=rv.one;obtain⟨z,its,n,r,hl,e⟩:=I.lstM hH;refine L5 F.slot_list_append ⟨_,e,rfl⟩ F.entry_list_append (F.args_list_append_2 _ _) (PySem.list_append l its.toArray n u (by rw[aW];lia)) ⟨e,?_⟩;refine⟨.non,_,I.lset (its':=its++[u]) hH e (by simp) (r.append (.cons ru .nil)) ?_,rfl,q⟩;rw[aQ,ba];lia
def ED:V->List V->Hp->VK->Prop:=fun x vs H Q=>∃l b xs zs,x= .ref l/\vs=[.ref b]/\H l=some (.lst xs)/\H b=some (.lst zs)/\xs.length+zs.length<=sizeLine/\Q .non (upd H l (.lst (xs++zs)))
def AL:MtM X "list.extend" ED:=by
 intro pz s σ H x vs v us Q I rx rv h;obtain⟨l,b,xs,zs,rfl,rfl,hH,hB,hz,q⟩:=h;cases rx;obtain⟨u,rfl,ru⟩:=rv.one;cases ru;obtain⟨z,its,n,r,hl,e⟩:=I.lstM hH;obtain⟨z2,its2,n2,r2,hl2,e2⟩:=I.lstM hB;have hsz:its.toArray.size+its2.toArray.size<=sizeLine:=by rw[aW,aW];lia
 have hlong:¬(!its.toArray.isEmpty&&Mr (its.toArray.size+its2.toArray.size))=true:=by rw[Cy hsz,eY];exact eV
 refine L5 F.slot_list_extend ⟨_,e,rfl⟩ F.entry_list_extend (F.args_list_extend_2 _ _)
  (AutoSeq1.list_extend_list_list_0 l its.toArray n b its2.toArray n2 hlong (by rw[aW];lia) (by lia)) ⟨e,e2,?_⟩;refine⟨.non,_,I.lset (its':=its++its2) hH e (by simp) (r.append r2) ?_,rfl,q⟩;rw[aQ];lia
def KO:V->List V->Hp->VK->Prop:=fun x vs H Q=>∃l xs y,x= .ref l/\vs=[]/\H l=some (.lst xs)/\xs[xs.length-1]?=some y/\Q y (upd H l (.lst xs.dropLast))
def tW:MtM X "list.pop" KO:=by
 intro pz s σ H x vs v us Q I rx rv h;obtain⟨l,xs,y,rfl,rfl,hH,hy,q⟩:=h;cases rx;have hus:=rv.zero;subst hus;obtain⟨z,its,n,r,hl,e⟩:=I.lstM hH;obtain⟨u,hu,ru⟩:=r.get hy;have hy':its.toArray[its.toArray.size-1]?=some u:=by show its.toArray[its.length-1]?=some u;rw[<-fe,<-hl];exact hu
 refine L5 F.slot_list_pop ⟨_,e,rfl⟩ F.entry_list_pop (F.args_list_pop_1 _) (MeetsSeq.list_pop_last l its.toArray n u hy' (by rw[aW];lia)) ⟨e,?_⟩;refine⟨y,_,I.lset (its':=its.dropLast) hH e ?_ r.dropLast ?_,ru,q⟩;·show its.toArray.eraseIdxIfInBounds (its.toArray.size-1)=its.dropLast.toArray;rw[aW,List.eraseIdxIfInBounds_toArray,zA]
 ·rw[bc];lia
def GV:V->List V->Hp->VK->Prop:=fun x vs H Q=>∃l xs,x= .ref l/\vs=[]/\H l=some (.lst xs)/\Q .non (upd H l (.lst []))
def Cz:MtM X "list.clear" GV:=by intro pz s σ H x vs v us Q I rx rv h;obtain⟨l,xs,rfl,rfl,hH,q⟩:=h;cases rx;have hus:=rv.zero;subst hus;obtain⟨z,its,n,r,hl,e⟩:=I.lstM hH;refine L5 F.slot_list_clear ⟨_,e,rfl⟩ F.entry_list_clear (F.args_list_clear_1 _) (AutoSeq1.list_clear_list_0 l its.toArray n (by rw[aW];lia)) ⟨e,?_⟩;exact⟨.non,_,I.lset (its':=[]) (ys:=[]) hH e rfl .nil (cJ _),rfl,q⟩
def rCat:R2:=fun x y H Q=>∃l b xs zs,x= .ref l/\y= .ref b/\H l=some (.lst xs)/\H b=some (.lst zs)/\xs.length+zs.length<=sizeLine/\∀p,H p=none->Q (.ref p) (upd H p (.lst (xs++zs)))
def DB:OpR X (Ly .Add) rCat:=by
 intro pz s σ H x y v u Q I rx ry h;obtain⟨l,b,xs,zs,rfl,rfl,hH,hB,hz,q⟩:=h;cases rx;cases ry;obtain⟨z,its,n,r,hl,e⟩:=I.lstM hH;obtain⟨z2,its2,n2,r2,hl2,e2⟩:=I.lstM hB;refine PySem.P.add_list e e2 ?_ (by rw[aW,aW];lia);have ea:its.toArray++its2.toArray=(its++its2).toArray:=by simp
 rw[ea];exact⟨.ref _,_,I.lnew (t':=s.toks) (r.append r2) (by rw[aQ];lia),rfl,q _ I.fresh⟩
end
section
variable {prog:Zu} {w:Zv} {A:Zw} {E:Zb} {s:Zy}
end
section
variable {X:Cx}
end
end L2.Internal
namespace Att.Internal
open PySem PySem.W PySem.Calls PyProof.Rows
def rM {P:Params} {h:Zt}:∀(ns:List Int) (vs:List Zz),WellAll P h vs (ns.map WData.int)->IntsAre vs ns:=by
 intro ns
 induction ns with
 |nil=>intro vs w;rw[aV]at w;cases w;exact .nil
 |cons n ns ih=>
  intro vs w;rw[aC]at w
  cases w with
  |cons a b=>cases a;exact .cons _ _ (ih _ b)
def AM {l:OpenLaw} {n:Nat} (hn:l.most=some n) {P:Params} {h:Zt} {args:List WData} {vals:List Zz}
  (hpre:l.row.toRowW.claim.pre args=true) (hwl:WellAll P h vals args):
  ∃a vs ns,vals=[Li a]/\args=[WData.list (ns.map WData.int)]/\h.get? a=some {cls:= .type "list",data:= .seq vs.toArray}/\IntsAre vs ns/\ns.length<=n:=by
 have hsh:WShape.hasAll [] args [.list .int]=true:=(pre_splitW hpre).1;have hc:l.pre.holds [] {args:=args}=true:=(pre_splitW hpre).2;obtain⟨d,r,rfl,h1,h2⟩:=hasAllW_cons hsh;obtain rfl:=hasAllW_nil h2;obtain⟨xs,rfl,h3⟩:=hasW_list h1;obtain⟨ns,rfl⟩:=items_int h3;have hlen:ns.length<=n:=by
  unfold OpenLaw.pre at hc;have h4:(WTm.not (.lt (.lit (.int (n:Int))) (.len (.arg 0)))).holds [] {args:=[.list (ns.map .int)]}=true:=by have h4:=(holds_andW hc).1;rw[hn]at h4;exact h4
  have h5:=condW_of h4 (w_not (w_lt w_lit (w_len_list (w_arg rfl))));rw[aD]at h5;refine Nat.le_of_not_lt fun q=>?_;have q':(n:Int)<((ns.length:Nat):Int):=by lia
  first
   |(rw[gM q']at h5;exact absurd h5 (by decide))
   |(simp at h5;lia)
 cases hwl with
 |cons w1 w2=>
  cases w2
  cases w1 with
  |list ho hall=>exact⟨_,_,ns,rfl,rfl,ho,rM ns _ hall,hlen⟩
def AN (l:OpenLaw) (args:List WData):l.row.toRowW.claim.post args (.bool true) args=true:=
 postW_of (r:=l.row.toRowW) (X:=(true==true))
  (show WShape.has [] (.bool true) .bool=true by first|rfl|decide|simp[WShape.has,WShape.arms,WShape.armsAll])
  (show(WTm.eq .res (.lit (.bool true))).value [] {args:=args,res:=some (.bool true),after:=args}=some (.bool (true==true))from w_eq_bool (w_res rfl) w_lit) rfl
def attach_call {l:OpenLaw} {n:Nat} {q:Zu} {loose:Zd} {XP:(Str->Option Zz)->Zt->Prop} {YP:Zv->Zt->Prop} {d:DefRec}
  (hn:l.most=some n) (hdf:d.params.defaults=[])
  (call:∀(w:Zv) (s₀ s₁:Zy) (mg mb:Zc) (fa:Zx) (o:Obj) (pm cd doc:Zz) (a:Zx) (vs:List Zz) (ns:List Int),
   Ground q loose [] XP w s₀ mg mb s₁.heap->YP w s₁.heap->
   s₁.heap.get? fa=some o->o.data= .func (docDef d.name d.params d.body d.scope pm cd doc)->s₁.heap.CodeRec cd d.name->mg d.name=some (.ref fa)->
   s₁.heap.get? a=some {cls:= .type "list",data:= .seq vs.toArray}->IntsAre vs ns->ns.length<=n->s₁.gens=#[]->
   Me (model l.prog w) callerA (.call (.ref fa) ⟨[.ref a],[]⟩) (fun r s'=>r= .ok (.ret (.bool true))/\OldK s₁.heap s'.heap/\s'.os=s₁.os/\AllBare s'.gens) s₁):
  WalkO q loose XP YP l.row.toRowW d [] (fun f vs=>PySem.call f vs):=by intro w s₀ s₁ mg mb G Y fa o pm cd doc dV kV ho hd hcd hD hmg hg args vals as hpre hlay hrd hwl hlo;obtain rfl:dV= .none:=Dflts.none hD hdf;obtain rfl:kV= .none:=Dflts.noKw hD;obtain⟨a,vs,ns,rfl,rfl,hobj,hints,hlen⟩:=AM hn hpre hwl;refine enter_call (codeAny_mono (call w s₀ s₁ mg mb fa o pm cd doc a vs ns G Y ho (fd_plain hd) hcd hmg hobj hints hlen hg) fun r s' hq=>?_);obtain⟨rfl,h2,h3,h4⟩:=hq;exact⟨.inl ⟨.bool true,.bool true,[],rfl,fun _=>rfl,.bool true,AN l _,fun _=>⟨List.Pairwise.nil,fun _ hm=>(nomatch hm)⟩⟩,h2,h3,h4⟩
section
variable {prog:Zu} {w:Zv} {A:Zw} {E:Zb} {s:Zy} {K:Frag}
end
end Att.Internal
namespace L2.Internal
open PySem PySem.Spec PyProof.Rows
theorem vW:∀{vs:List Zz} {ns:List Int},IntsAre vs ns->iR (ns.map V.int) vs
 |_,_,.nil=> .nil
 |_,_,.cons n t h=> .cons ⟨t,rfl⟩ (vW h)
def Jp (H:Hp):Prop:=∀b,H b=none\/∃o xs,H b=some (.frz o (.lst xs))
def CA {P:Zu} {w:Zv} {K:Zp} {mg mb:Zc} {CX:CXT} {k:Nat} {fa a:Zx} {fd:Zs} {x:Str} {sp:Sp} {s₁:Zy} {vs:List Zz} {ns:List Int}
  (KX:K.In s₁.heap) (hns:s₁.heap.Ns K9 mg) (hb:s₁.heap.Ns builtinsNs mb) (hbb:∀x:Str,x≠"__name__"->mb x=Lm x) (hlim:s₁.heap.NoLimit) (hg:s₁.gens=#[])
  (ha:s₁.heap.get? a=some {cls:= .type "list",data:= .seq vs.toArray}) (hi:IntsAre vs ns) (hl:ns.length<=sizeLine) (hr:nL k callerA)
  (F:∀base:Zt,K.In base->base.Ns K9 mg->tU P w K mg base CX k fa fd [x] sp) (hbind:∀(s:Zy) (u:Zz),BindsTo s fd ⟨[u],[]⟩ [(x,u)])
  (hsp:∀H:Hp,Jp H->SqL K H a (ns.map V.int)->sp [.ref a] H (fun v _=>v= .bl true) fun _ _ _=>False)
  (hCX:∀H e s',CX [] H s₁ (fun _ _ _=>False) e s'->False):
  Me (model P w) callerA (.call (.ref fa) ⟨[.ref a],[]⟩) (fun r s'=>r= .ok (.ret (.bool true))/\OldK s₁.heap s'.heap/\s'.os=s₁.os/\AllBare s'.gens) s₁:=by
 have rv:=vW hi;have lenV:=hi.length;have core:∀H:Hp,Jp H->SqL K H a (ns.map V.int)->HOk P w H s₁.heap->(∀b,H b≠none->b=a)->(H a≠none->K.lookup a=none)->
   Me (model P w) callerA (.call (.ref fa) ⟨[.ref a],[]⟩) (fun r s'=>r= .ok (.ret (.bool true))/\OldK s₁.heap s'.heap/\s'.os=s₁.os/\AllBare s'.gens) s₁:=by
  intro H hO hS hok hA hK;have base_of:∀{b:Zx} {o:Obj},s₁.heap.get? b=some o->H b=none->(Cj s₁.heap H).get? b=some o:=fun e n=>Cn e n;have noA:∀{b:Zx} {o:Obj} {es:Array DictEntry} {ep:Nat},s₁.heap.get? b=some o->o.data= .dict es ep->H b=none:=fun{b o es ep} e d=>by
   cases q:H b with
   |none=>rfl
   |some u=>have e':b=a:=hA b (by rw[q];simp);subst e';rw[ha]at e;cases e;have d':Data.seq vs.toArray _=Data.dict es ep:=d;cases d'
  have nsK:∀{b:Zx} {m:Zc},s₁.heap.Ns b m->(Cj s₁.heap H).Ns b m:=fun{b m} ⟨o,es,ep,e,d,r⟩=>⟨o,es,ep,base_of e (noA e d),d,r⟩;have hKb:K.In (Cj s₁.heap H):=fun b o e=>base_of (KX b o e) (by
   cases q:H b with
   |none=>rfl
   |some u=>have e':b=a:=hA b (by rw[q];simp);subst e';rw[hK (by rw[q];simp)]at e;cases e);have hM:Mod K mg (Cj s₁.heap H):=⟨hKb,nsK hns,⟨mb,nsK hb,hbb⟩,let⟨mc,h1,h2⟩:=hlim;⟨mc,nsK h1,h2⟩⟩;have e0:Eu P w K mg (Cj s₁.heap H) callerA [] s₁ H:=⟨rfl,hM,fun b o e=>Ei e,cK (Ac _ _),trivial,fun b hb=>absurd (show b∈([]:List Zx)from hb) (by simp),hok,.of_eq hg⟩;refine codeAny_mono ((F _ hKb (nsK hns)).run callerA [] s₁ H ⟨[.ref a],[]⟩ [.ref a] [.ref a] _ _ hr e0 (hbind s₁ (.ref a)) (.cons rfl .nil) (hsp H hO hS)) fun r s' h=>?_
  cases r with
  |error e=>exact(hCX H e s' h).elim
  |ok fl=>
   cases fl with
   |next=>exact Lo h
   |brk=>exact Lo h
   |cont=>exact Lo h
   |ret u=>
    obtain⟨v,H',os,bare,un,hok',r',q⟩:=h;have q':v= .bl true:=q;subst q';obtain rfl:u=LH true:=r';refine⟨rfl,OldK.of_keep fun b o e=>?_,os,bare⟩
    cases q:H b with
    |none=>exact un.keep b o e q (by intro z;exact absurd (show b∈([]:List Zx)from z) (by simp)) (by simp)
    |some u=>
     rcases hO b with z|⟨ob,xs,z⟩;·rw[q]at z;cases z
     ·have z2:=un.frzs b ob _ z;obtain⟨e1,_⟩:=hok b _ z;obtain⟨e2,_⟩:=hok' b _ z2;rw[e]at e1;cases e1;exact e2
 cases hk:K.lookup a with
 |some o=>have e:=KX a o hk;rw[ha]at e;cases e;refine core (fun _=>none) (fun _=> .inl rfl) (.inr ⟨_,vs.toArray,_,hk,rfl,rfl,rfl,by rw[aW,lenV];exact hl,by simpa using rv⟩) (fun b u z=>by have z':(none:Option HO)=some u:=z;cases z') (fun b z=>absurd rfl z) fun z=>absurd rfl z
 |none=>
  refine core (fun b=>if b=a then some (.frz {cls:= .type "list",data:= .seq vs.toArray} (.lst (ns.map V.int)))else none) (fun b=>?_) (.inl (.inr ⟨{cls:= .type "list",data:= .seq vs.toArray},gT rfl⟩)) (fun b u z=>?_) (fun b z=>?_) fun _=>hk
  ·by_cases hb:b=a;·exact .inr ⟨_,_,gT hb⟩
   ·exact .inl (gN hb)
  ·by_cases hb:b=a;·have z':=(gT hb).symm.trans z;cases z';subst hb;exact⟨ha,by rw[aD];exact hl,vs,_,rv,ha⟩
   ·have z':=(gN hb).symm.trans z;cases z'
  ·by_cases hb:b=a;·exact hb
   ·exact absurd (gN hb) z
def walk_of {l:PySem.W.OpenLaw} {n k:Nat} {q:Zu} {loose:Zd} {XP:(Str->Option Zz)->Zt->Prop} {YP:Zv->Zt->Prop} {d:DefRec} {K:Params->Zp} {CX:Zv->CXT} {sp:Zv->Sp} {x:Str}
  (hn:l.most=some n) (hn2:n<=sizeLine) (hdf:d.params.defaults=[]) (hr:nL k callerA)
  (hY:∀(w:Zv) (h:Zt),YP w h->(K w.params).In h)
  (F:∀(w:Zv) (mg:Zc) (fa:Zx) (h:Zt),(K w.params).In h->h.Ns K9 mg->mg d.name=some (.ref fa)->
   ∃fd:Zs,(∀(s:Zy) (u:Zz),BindsTo s fd ⟨[u],[]⟩ [(x,u)])/\
    ∀base:Zt,(K w.params).In base->base.Ns K9 mg->tU l.prog w (K w.params) mg base (CX w) k fa fd [x] (sp w))
  (hsp:∀(w:Zv) (H:Hp) (a:Zx) (ns:List Int),ns.length<=n->Jp H->SqL (K w.params) H a (ns.map V.int)->sp w [.ref a] H (fun v _=>v= .bl true) fun _ _ _=>False)
  (hCX:∀(w:Zv) (H:Hp) (s:Zy) (e:Zz) (s':Zy),CX w [] H s (fun _ _ _=>False) e s'->False):
  PySem.W.WalkO q loose XP YP l.row.toRowW d [] (fun f vs=>PySem.call f vs):=by refine Att.Internal.attach_call hn hdf fun w s₀ s₁ mg mb fa o pm cd doc a vs ns G Y ho hd hcd hmg hobj hints hlen hg=>?_;have KX:=hY w _ Y;obtain⟨fd,hb,hF⟩:=F w mg fa _ KX G.T.g hmg;exact CA KX G.T.g G.T.b G.T.builtins G.T.nolimit hg hobj hints (cE hlen hn2) hr hF hb (fun H hO hS=>hsp w H a ns hlen hO hS) fun H e s'=>hCX w H s₁ e s'
def iq (s:Zq) (j:Nat):Zq:=match s with
 | .ClassDef _ _ _ body _ _ _ _ _ _ _=>body.getD j (.Pass ⟨0,0,0,0⟩)
 |_=> .Pass ⟨0,0,0,0⟩
def lR (s:Zq):Arguments:=match s with
 | .FunctionDef _ a _ _ _ _ _ _ _ _=>a
 |_=>{posonlyargs:=[],args:=[],vararg:=none,kwonlyargs:=[],kw_defaults:=[],kwarg:=none,defaults:=[]}
def kJ (s:Zq):List Zq:=match s with
 | .FunctionDef _ _ b _ _ _ _ _ _ _=>b
 |_=>[]
def f6 (s:Zq):Scope:=match s with
 | .FunctionDef _ _ _ _ _ _ sc _ _ _=>sc
 |_=>{kind:= .function,names:=[],isGenerator:=false,isCoroutine:=false}
abbrev CX0:CXT:=fun _ _ _ _ _ _=>False
abbrev E0:XK:=fun _ _ _=>False
def gY {X:Cx}:qE CX0 X E0:=fun _ _ _ _ _ _ _ h=>h.elim
structure Fun (K:Zp) (x qual:Str) (st:Zq) (f:Zx) (fd:Zs):Prop where
 ex:∃(oc:Zz) (od:Option Zx) (kV doc pm:Zz) (an:Option Zx) (cdv ct:Zz) (osl:Array (Option Zz)),
  fd=dY x qual (lR st) (kJ st) (f6 st) .none kV doc pm an cdv ct/\K.lookup f=some ⟨oc,od,.func fd,osl⟩/\dZ K cdv qual=true
 kp:dO K (.ref f)=true
section
variable {P:Zu} {w:Zv} {K:Zp} {mg:Zc} {base:Zt}
def Fun.ok {x qual:Str} {st:Zq} {f:Zx} {fd:Zs} {N ps:Zd} {k:Nat} {sp:Sp} (F:Fun K x qual st f fd) (S:gh N ps (f6 st)) (len:∀vs H Q E,sp vs H Q E->vs.length=ps.length)
  (hbody:∀(cdv:Zz) (A:Zw) (outer:List Env) (s:Zy) (H:Hp) (vs:List V) (Q:VK) (E:XK),nL k (A.deeper (envOfC qual (f6 st) s.heap.objs.size f cdv))->sp vs H Q E->
   ∃t,PSs (Cd CX0 P w K mg base N qual (f6 st) f cdv A outer s H E).nox (kJ st) t/\t {nx:=fun _ H'=>Q .non H',rt:=Q} (qR N vs) H):tU P w K mg base CX0 (k+ 1) f fd ps sp:=by obtain⟨oc,od,kV,doc,pm,an,cdv,ct,osl,rfl,lk,hcd⟩:=F.ex;refine Jg lk hcd S len fun A outer s H vs Q E hr hsp=>?_;obtain⟨t,h,q⟩:=hbody cdv A outer s H vs Q E hr hsp;exact⟨t,h.nox,q⟩
def Fun.binds {x qual:Str} {st:Zq} {f:Zx} {fd:Zs} {ps:Zd} (F:Fun K x qual st f fd)
  (h:∀(kV doc pm:Zz) (an:Option Zx) (cdv ct:Zz) (us:List Zz),us.length=ps.length->bindArgs (dY x qual (lR st) (kJ st) (f6 st) .none kV doc pm an cdv ct) ⟨us,[]⟩=pure (ps.zip us)):pU K fd ps []:=by obtain⟨oc,od,kV,doc,pm,an,cdv,ct,osl,rfl,lk,hcd⟩:=F.ex;exact .all (h kV doc pm an cdv ct)
def rN {x qual:Str} {st:Zq} {f:Zx} {oc:Zz} {od an:Option Zx} {osl:Array (Option Zz)} {kV doc pm cdv ct:Zz} (l:K.lookup f=some ⟨oc,od,.func (dY x qual (lR st) (kJ st) (f6 st) .none kV doc pm an cdv ct),osl⟩)
  (c:dZ K cdv qual=true) (k:dO K (.ref f)=true):Fun K x qual st f (dY x qual (lR st) (kJ st) (f6 st) .none kV doc pm an cdv ct):=⟨⟨oc,od,kV,doc,pm,an,cdv,ct,osl,rfl,l,c⟩,k⟩
end
def vX {A:Zw} {k:Nat} (hr:nL k A):A.units+ 1<cLine:=Nat.lt_of_le_of_lt (Nat.add_le_add_left (by decide:1<=64) _) hr.units
section
variable {X:Cx}
def pv (i:Nat) {x:Str} {pos:Pos} (hN:autoParam (X.N[i]?=some x) auR._auto_1) (hv:Vis X.env.scope x:=by first|exact Or.inl rfl|exact Or.inr (.inl rfl)|exact Or.inr (.inr rfl)) (hd:autoParam ((x==("__debug__":Str))=false) auD._auto_1)
  (hcd:autoParam ((x==("__classdict__":Str))=false) auD._auto_1):PE X (.Name x pos) (KC i):=Gr hN hv hd hcd
end
def gX {A B:Prop} (h:B):if false=true then A else B:=by rw[gN eV];exact h
def iC {A B:Prop} (h:A):if true=true then A else B:=by rw[gT rfl];exact h
def Jq {c A B:Prop} [Decidable c] (h1:c->A) (h2:¬c->B):if c then A else B:=by
 by_cases h:c;·rw[gT h];exact h1 h
 ·rw[gN h];exact h2 h
def Jr {c A B:Prop} [Decidable c] (hc:c) (h:B):if(!decide c)=true then A else B:=by rw[gM hc];exact gX h
def gE (H H':Hp):Prop:=∀b o,H b=some o->H' b=some o
def gE.refl (H:Hp):gE H H:=fun _ _ h=>h
def gE.trans {H H1 H2:Hp} (a:gE H H1) (b:gE H1 H2):gE H H2:=fun c o h=>b c o (a c o h)
def gE.free {H H':Hp} (e:gE H H') {l:Zx} (h:H' l=Option.none):H l=Option.none:=by
 cases q:H l with
 |none=>rfl
 |some o=>rw[e l o q]at h;cases h
def gE.seq {K:Zp} {H H':Hp} {a:Zx} {xs:List V} (e:gE H H') (h:SqL K H a xs):SqL K H' a xs:=by
 rcases h with(h|⟨o,h⟩)|h;·exact .inl (.inl (e _ _ h))
 ·exact .inl (.inr ⟨o,e _ _ h⟩)
 ·exact .inr h
section
variable {X:Cx}
end
section
variable {κ:Type} [DecidableEq κ]
def CB {kvs:List (κ×V)} {k:κ} (h:jH kvs k=none):¬k∈kvs.map (·.1):=by intro m;obtain⟨p,hp,e⟩:=bf.mp m;have q:(kvs.any fun kv=>decide (kv.1=k))=true:=bh.mpr ⟨p,hp,gM e⟩;rw[lG,h]at q;exact absurd q (by simp)
def EE {kvs:List (κ×V)} {k:κ} {v:V} (h:jH kvs k=some v):k∈kvs.map (·.1):=by
 have q:(kvs.any fun kv=>decide (kv.1=k))=true:=by rw[lG,h];all_goals rfl
 obtain⟨p,hp,e⟩:=bh.mp q;exact bf.mpr ⟨p,hp,of_decide_eq_true e⟩
theorem AO:∀{l:List κ} {k:κ},l.Nodup->¬k∈l->(l++[k]).Nodup
 |[],k,_,_=>by simp
 |a::r,k,h,hk=>by
  obtain⟨h1,h2⟩:=aF.mp h;show(a::(r++[k])).Nodup;refine aF.mpr ⟨fun m=>?_,AO h2 fun m=>hk (ak.mpr (Or.inr m))⟩;rcases ao.mp m with q|q;·exact h1 q
  ·exact hk (ak.mpr (Or.inl (bj.mp q).symm))
def EF {kvs:List (κ×V)} {k:κ} (v:V) (hn:(kvs.map (·.1)).Nodup) (h:jH kvs k=none):((mS kvs k v).map (·.1)).Nodup:=by rw[Cu v h,bo];exact AO hn (CB h)
end
section
variable {X:Cx}
def uA {x:Str} {i:Int} {t:Tok} {pos:Pos} (hg:Gl X x) (hm:X.mg x=some (.int i t)) (hd:autoParam ((x==("__debug__":Str))=false) auD._auto_1):PE X (.Name x pos) (tC (.int i)):=xg hg hm (show iQ (.int i) _ from⟨t,rfl⟩) hd
def CC {x y:Str} {t:Tok} {pos:Pos} (hg:Gl X x) (hm:X.mg x=some (.str y t)) (hd:autoParam ((x==("__debug__":Str))=false) auD._auto_1):PE X (.Name x pos) (tC (.str y)):=xg hg hm (show iQ (.str y) _ from⟨t,rfl⟩) hd
def AQ {x:Str} {a:Zx} {pos:Pos} (hg:Gl X x) (hm:X.mg x=some (.ref a)) (hd:autoParam ((x==("__debug__":Str))=false) auD._auto_1):PE X (.Name x pos) (tC (.ref a)):=xg hg hm (show iQ (.ref a) _ from rfl) hd
def rO {x:Str} {n:String} {pos:Pos} (hg:Gl X x) (hm:X.mg x=none) (hv:Lm x=some (.type n)) (hn:autoParam (x≠"__name__") auD._auto_1) (hd:autoParam ((x==("__debug__":Str))=false) auD._auto_1):PE X (.Name x pos) (tC (.ty n)):=Ej hg hm hv (show iQ (.ty n) _ from rfl) hn hd
end
def iJ:Lm "len"=some (.builtin "len"):=gA
def DC:Lm "all"=some (.builtin "all"):=gA
def DD:Lm "sum"=some (.builtin "sum"):=gA
def iM:Lm "isinstance"=some (.builtin "isinstance"):=gA
def yx:Lm "int"=some (.type "int"):=gA
def GW:Lm "str"=some (.type "str"):=gA
def EG:Lm "bool"=some (.type "bool"):=gA
def rP:Lm "list"=some (.type "list"):=gA
def kQ:Lm "tuple"=some (.type "tuple"):=gA
def xw:Lm "dict"=some (.type "dict"):=gA
def Its (x:Str):It:=⟨fun i _=>i<x.cps.size,fun i H v H'=>H'=H/\∃c,x.cps[i]?=some c/\v= .str ⟨#[c]⟩,fun i _=>i=x.cps.size⟩
def yy {P:Zu} {w:Zv} {K:Zp} {tg:Zr} (it:Zx) (T:String) (x:Str) (t:Tok)
  (hT:["enumerate","zip","dict_itemiterator","dict_reverseitemiterator","odict_iterator","itertools.zip_longest","itertools.pairwise"].contains T=false)
  (W:∀A:Zw,A.handled=none->Walks P w A it [it] [it] x.cps.size (SignAt x) (fun i h=>h.IsStrIter it T x t i))
  (hself:∀(A:Zw) (i:Nat) (s:Zy) (Q:Zb) (E:Zb),s.heap.IsStrIter it T x t i->Q (.ref it) s->La (model P w) A (pyIter (.ref it)) Q E s):
  Du P w K tg (Its x) [it] it (fun i h=>h.IsStrIter it T x t i) where
 mem:=by simp
 obj:=fun i h st b hb=>by
  have e:b=it:=by simpa using hb
  subst e;obtain⟨o,e,c,d⟩:=st;exact⟨o,e,fun v z=>by rw[d]at z;cases z⟩
 keep:=fun i h h' st k=>by obtain⟨o,e,r⟩:=st;exact⟨o,k it (by simp) o e,r⟩
 item:=by intro X hP hw hK hc i pz s σ H E I hf st hg;subst hP hw hK;obtain⟨f0,f1,f2,f3,f4,f5⟩:=hf it (by simp);refine(W X.A (I.ok.hd hc)).item i s _ _ hg st fun v h' tk hv st' kk=>?_;obtain⟨c,u,hc',rfl⟩:=hv;have I1:Inv X pz σ H {s with heap:=h',toks:=tk}:=I.turned (fun b o hb e=>kk b o (by simpa using hb) e) f0 f1 f3 f4 f5;obtain⟨o,e,c1,d⟩:=id st';exact⟨_,rfl,Ai (s:={s with heap:=h',toks:=tk}) e c1 d hT ⟨.str ⟨#[c]⟩,H,I1,⟨u,rfl⟩,⟨rfl,c,hc',rfl⟩,st',fun b hb=>(hf b hb).1⟩⟩
 done:=by intro X hP hw hK hc i pz s σ H E I hf st hg;subst hP hw hK;obtain⟨f0,f1,f2,f3,f4,f5⟩:=hf it (by simp);have hg':i=x.cps.size:=hg;subst hg';exact(W X.A (I.ok.hd hc)).done s _ _ st fun h' tk kk=>⟨rfl,I.turned (fun b o hb e=>kk b o (by simpa using hb) e) f0 f1 f3 f4 f5⟩
 self:=fun A i s Q E st h=>hself A i s Q E st h
section
variable {X:Cx} {tg:Zr}
def iStr (tl:TE):TI:=fun σ H R=>tl σ H fun v H1=>∃x,v= .str x/\R (Its x) H1
def GX {l:Zr} {tl:TE} (hl:PE X l tl):PI X tg l (iStr tl):=by
 intro pz s σ H R I h;refine thn (hl pz s σ H _ I h) ?_;rintro v s1 ⟨y,H1,I1,r1,q1⟩;obtain⟨x,e,q⟩:=q1;subst e;obtain⟨t,rfl⟩:=r1;have fp:∀b∈[s1.heap.objs.size],wR X pz H1 b:=fun b hb=>by
  have e:b=s1.heap.objs.size:=by simpa using hb
  subst e;exact I1.fpOk (cH _) (I1.hok.fresh (cH _))
 cases ha:x.cps.all (·<128)
 ·refine wpAny_pyIter_wide ha ?_;exact⟨s1.heap.objs.size,[s1.heap.objs.size],_,_,H1,rfl,I1.kept (t':=s1.toks) fun b o e=>fE _ e,
   yy _ "str_iterator" x t (by decide) (fun A hA=>Walks.strWide hA _ x t) (fun _ _ _ _ _ st h=>wpAny_pyIter_striter_wide st h),⟨_,fD _ rfl,rfl,rfl⟩,fp,q⟩
 ·refine wpAny_pyIter_ascii ha ?_;exact⟨s1.heap.objs.size,[s1.heap.objs.size],_,_,H1,rfl,I1.kept (t':=s1.toks) fun b o e=>fE _ e,
   yy _ "str_ascii_iterator" x t (by decide) (fun A hA=>Walks.strAscii hA _ x t) (fun _ _ _ _ _ st h=>wpAny_pyIter_striter_ascii st h),⟨_,fD _ rfl,rfl,rfl⟩,fp,q⟩
end
def blk (X:Cx) (N:Zd) (scope:Scope) (cl:List (Str×Zx)) (C:Zx) (s₀:Zy) (H₀:Hp) (ex:List Zx) (pz:Za):Cx:=
 {X with N:=N,s₀:=s₀,H₀:=H₀,env:=compEnvC scope cl C X.env,outer:=X.stack,stack:=X.stack,ex:=ex,fn:=fun _=>false,pn:=X.pn++pz,xe:=fun _ _=>False}
def PTs (X:Cx) (cs:List Zr) (t:TT):Prop:=
 ∀(pz:Za) (s:Zy) (σ:St) (H:Hp) (Q:Bool->Hp->Prop),Inv X pz σ H s->t σ H Q->
  La (model X.prog X.w) X.A (forIn cs true fun c r=>if r=true then do let ok<-isTrue c X.env (eval c X.env);pure (ForInStep.yield ok)else pure (ForInStep.yield r)) (TP X pz σ Q) X.xe s
def uB:TT:=fun _ H Q=>Q true H
def mC {X:Cx}:PTs X [] uB:=fun pz s σ H Q I h=>Lb ⟨H,I,h⟩
def AR {X:Cx} {c:Zr} {t:TT} (h:PT X c t):PTs X [c] t:=fun pz s σ H Q I hw=>wpAny_tests_one (h pz s σ H Q I hw)
structure pX (X:Cx) (N:Zd) (scope:Scope) (cl:List (Str×Zx)) (f:St->St) (i:Nat) (x:Str):Prop where
 kind:scope.kind= .function
 cell:∀y∈scope.names,y.2≠ .cell
 names:∀y∈scope.names,y.2= .local->scope.names.lookup y.1=some .local
 clos:L9 scope X.env=pure cl
 lk:∀y c,cl.lookup y=some c->X.env.cells.lookup y=some c
 has:∀y,((relabel scope X.env).names.lookup y=some .cell\/(relabel scope X.env).names.lookup y=some .free)->∃c,cl.lookup y=some c
 nd:N.Nodup
 ix:N[i]?=some x
 loc:scope.names.lookup x=some .local
 len:∀σ,σ.length=X.N.length->(f σ).length=N.length
 val:∀(σ:St) (k:Nat) (y:Str) (v:V),N[k]?=some y->(f σ)[k]?=some (some v)->∃j:Nat,X.N[j]?=some y/\σ[j]?=some (some v)/\X.env.scope.names.lookup y=some .cell/\(relabel scope X.env).names.lookup y=some .cell
def AS {X:Cx} {N:Zd} {scope:Scope} {cl:List (Str×Zx)} {f:St->St} {i:Nat} {x:Str} (B:pX X N scope cl f i x) {pz:Za} {σ:St} {H:Hp} {s:Zy} {h₁:Zt} {tk:Nat} {m:Zc} {ex:List Zx}
  (I:Inv X pz σ H s) (hex:∀b∈ex,wR X pz H b/\b<s.heap.objs.size) (keep:∀b o,s.heap.get? b=some o->h₁.get? b=some o) (hn:h₁.Ns s.heap.objs.size m):
  Inv (blk X N scope cl s.heap.objs.size s H ex pz) [] (f σ) H {s with heap:=h₁,toks:=tk}:=by
 have nst:∀b,b≠X.env.locals->b∉X.fs->b∉frs X.stack:=fun b h1 h2 hb=>(ak.mp (I.stkSub b hb)).elim h1 h2;have ltC:∀y c,X.env.cells.lookup y=some c->c<s.heap.objs.size:=fun y c e=>by obtain⟨v,o,ho,_⟩:=I.cell y c e;exact fC ho
 refine⟨⟨I.ok.mod,B.kind,I.ok.glob,I.ok.blt,cH _,fun y z c h1 h2=>I.ok.inj y z c (B.lk y c h1) (B.lk z c h2),fun y hy=>B.has y hy,fun y c h=>(nomatch h),I.ok.hd,I.ok.frames,.inl rfl,fun b hb=>?_,I.bs,cE I.ok.bsz I.sz,fun b o e hb=>?_,fun b hb=>?_,I.stack,I.stkFree⟩,
  rfl,I.bare,Un.kept keep,⟨m,hn,fun k y v e1 e2 e3=>?_⟩,fun y c e=>?_,I.hok.fresh (cH _),fun y c e=>I.freeC y c (B.lk y c e),fun p hp=>?_,I.hok.kept keep,B.len σ I.len⟩;·obtain⟨⟨_,_,_,_,hc,_⟩,lt⟩:=hex b hb;exact⟨cD lt,fun y c e=>hc y c (B.lk y c e)⟩
 ·obtain⟨⟨_,_,_,h4,_,_⟩,_⟩:=hex b hb;rcases h4 with z|z;·exact I.ok.noex b o e z
  ·exact absurd (cB (fC (I.ok.bs b o e).1) z) (cC _)
 ·obtain⟨⟨_,h2,h3,_,_,_⟩,_⟩:=hex b hb;exact nst b h2 h3
 ·obtain⟨j,h1,h2,h3,h4⟩:=B.val σ k y v e1 e2;obtain⟨m',_,hl⟩:=I.loc;obtain⟨u,r,l⟩:=hl j y v h1 h2 (.inr (.inl h3));refine⟨u,r,?_⟩;rcases l with⟨hk,_⟩|⟨_,c,hc,z⟩;·have hk':X.env.scope.names.lookup y=some .local:=hk;rw[h3]at hk';cases hk'
  ·obtain⟨c',hc'⟩:=B.has y (.inl h4);have e:c'=c:=dm.inj ((B.lk y c' hc').symm.trans hc);subst e;obtain⟨o,ho,hd⟩:=z;exact .inr ⟨.inl h4,c',hc',o,keep _ o ho,hd⟩
 ·obtain⟨v,o,ho,hd⟩:=I.cell y c (B.lk y c e);exact⟨v,o,keep _ o ho,hd⟩
 ·rw[aE]at hp;obtain⟨e,n,ne,nf,d⟩:=I.pin p hp;exact⟨keep _ _ e,n,cD (fC e),nst _ ne nf,d⟩
theorem hV {env:Env}:∀{names:List (Str×NameKind)} {x:Str} {k:NameKind},
  (names.map fun(n,k)=>if(k==LL&&env.scope.kind== .function&&env.kindOf n==some .cell)then(n,Ma)else(n,k)).lookup x=some k->
  ∃k0,names.lookup x=some k0/\(k=k0\/(k0= .free/\k= .cell))
 |[],_,_,h=>by simp at h
 |(n,k0)::r,x,k,h=>by
  have ih:=@hV env r x k;have h:aB x ((if(k0==LL&&env.scope.kind== .function&&env.kindOf n==some .cell)=true then(n,Ma)else(n,k0))::(r.map fun(n,k)=>if(k==LL&&env.scope.kind== .function&&env.kindOf n==some .cell)then(n,Ma)else(n,k)))=some k:=h
  cases hx:x==n with
  |true=>
   by_cases hc:(k0==LL&&env.scope.kind== .function&&env.kindOf n==some .cell)=true
   ·rw[gT hc]at h;simp only[bp,hx]at h⊢;have hf:k0= .free:=by have hc':=hc;simp only[eX]at hc';exact eq_of_beq hc'.1.1
    exact⟨k0,rfl,.inr ⟨hf,(dm.inj h).symm⟩⟩
   ·rw[gN hc]at h;simp only[bp,hx]at h⊢;exact⟨k0,rfl,.inl (dm.inj h).symm⟩
  |false=>
   have h2:(r.map fun(n,k)=>if(k==LL&&env.scope.kind== .function&&env.kindOf n==some .cell)then(n,Ma)else(n,k)).lookup x=some k:=by
    by_cases hc:(k0==LL&&env.scope.kind== .function&&env.kindOf n==some .cell)=true;·rw[gT hc]at h;simp only[bp,hx]at h;exact h
    ·rw[gN hc]at h;simp only[bp,hx]at h;exact h
   obtain⟨k1,e1,e2⟩:=ih h2;exact⟨k1,by simp only[bp,hx];exact e1,e2⟩
theorem iW {env:Env} (hk:env.scope.kind= .function):∀{names:List (Str×NameKind)} {x:Str},env.scope.names.lookup x=some .cell->names.lookup x=some .free->
  (names.map fun(n,k)=>if(k==LL&&env.scope.kind== .function&&env.kindOf n==some .cell)then(n,Ma)else(n,k)).lookup x=some .cell
 |[],_,_,h=>by simp at h
 |(n,k0)::r,x,hc,h=>by
  have ih:=@iW env hk r x hc;show aB x ((if(k0==LL&&env.scope.kind== .function&&env.kindOf n==some .cell)=true then(n,Ma)else(n,k0))::_)=_
  cases hx:x==n with
  |true=>
   simp only[bp,hx]at h;cases h;have e:x=n:=eq_of_beq hx;have hc':env.kindOf n=some .cell:=by rw[<-e];exact hc
   simp[bp,hx,hk,hc']
  |false=>
   simp only[bp,hx]at h;by_cases hq:(k0==LL&&env.scope.kind== .function&&env.kindOf n==some .cell)=true;·rw[gT hq];simp only[bp,hx];exact ih h
   ·rw[gN hq];simp only[bp,hx];exact ih h
def Gb {X:Cx} {scope:Scope} {x:Str} (hk:scope.kind= .function) (hn:∀p∈scope.names,p.2≠ .cell/\p.2≠ .free) (hl:∀y∈scope.names,y.2= .local->scope.names.lookup y.1=some .local)
  (hx:scope.names.lookup x=some .local) (hc:L9 scope X.env=pure []):pX X [x] scope [] (fun _=>[none]) 0 x where
 kind:=hk
 cell:=fun y hy=>(hn y hy).1
 names:=hl
 clos:=hc
 lk:=fun y c h=>by simp at h
 has:=fun y h=>by
  rcases h with h|h
  ·obtain⟨k0,e,z⟩:=hV h;have m:=hn _ (Lj e);rcases z with z|⟨z,_⟩;·exact absurd z.symm m.1
   ·exact absurd z m.2
  ·obtain⟨k0,e,z⟩:=hV h;have m:=hn _ (Lj e);rcases z with z|⟨z,_⟩;·exact absurd z.symm m.2
   ·exact absurd z m.2
 nd:=by simp
 ix:=rfl
 loc:=hx
 len:=fun _ _=>rfl
 val:=fun σ k y v h1 h2=>by
  cases k with
  |zero=>simp at h2
  |succ k=>simp at h2
def blk1 {X:Cx} {scope:Scope} {x y:Str} {j:Nat} {c0:Zx} (hk:scope.kind= .function) (hn:∀p∈scope.names,p.2≠ .cell/\(p.2= .free->p.1=y)) (hl:∀y∈scope.names,y.2= .local->scope.names.lookup y.1=some .local)
  (hx:scope.names.lookup x=some .local) (hy:scope.names.lookup y=some .free) (hc:L9 scope X.env=pure [(y,c0)]) (hc0:X.env.cells.lookup y=some c0) (hok:X.env.scope.kind= .function) (hyo:X.env.scope.names.lookup y=some .cell)
  (hj:X.N[j]?=some y):pX X [x,y] scope [(y,c0)] (fun σ=>[none,σ.getD j none]) 0 x where
 kind:=hk
 cell:=fun y hy=>(hn y hy).1
 names:=hl
 clos:=hc
 lk:=fun z c h=>by
  cases e:z==y with
  |true=>simp only[bp,e]at h;have ez:z=y:=eq_of_beq e;rw[ez,hc0];exact h
  |false=>simp only[bp,e,List.lookup_nil]at h;cases h
 has:=fun z h=>by
  have ez:z=y:=by
   rcases h with h|h
   ·obtain⟨k0,e,q⟩:=hV h;have m:=hn _ (Lj e);rcases q with q|⟨q,_⟩;·exact absurd q.symm m.1
    ·exact m.2 q
   ·obtain⟨k0,e,q⟩:=hV h;have m:=hn _ (Lj e);rcases q with q|⟨q,_⟩;·exact m.2 q.symm
    ·exact m.2 q
  exact⟨c0,by rw[ez];simp[bp]⟩
 nd:=by
  have e:x≠y:=fun e=>by rw[e,hy]at hx;cases hx
  simp[e]
 ix:=rfl
 loc:=hx
 len:=fun _ _=>rfl
 val:=fun σ k z v h1 h2=>by
  cases k with
  |zero=>simp at h2
  |succ k=>
   cases k with
   |zero=>
    have ez:z=y:=by simpa using h1.symm
    subst ez;have e:σ.getD j none=some v:=by simpa using h2
    rw[bq]at e;refine⟨j,hj,?_,hyo,iW hok hyo hy⟩
    cases q:σ[j]? with
    |none=>rw[q]at e;cases e
    |some o=>rw[q]at e;exact congrArg some e
   |succ k=>simp at h2
def LcP (J:It) (i:Nat) (tt:TT) (te:TE) (Q:VK) (τ:St) (H1:Hp) (D:Zx):Prop:=
 ∃W:Nat->Nat->St->Hp->Prop,(∃m,W 0 m τ (upd H1 D (.lst [])))/\∀k m σ' H2,W k m σ' H2->
  (J.stop k H2/\Q (.ref D) H2)\/(J.go k H2/\∀v H3,J.yld k H2 v H3->tt (σ'.set i (some v)) H3 fun ok H4=>if ok=true
   then te (σ'.set i (some v)) H4 fun y H5=>∃xs,H5 D=some (.lst xs)/\xs.length<sizeLine/\∃m',m'<m/\W (k+ 1) m' (σ'.set i (some v)) (upd H5 D (.lst (xs++[y])))
   else ∃m',m'<m/\W (k+ 1) m' (σ'.set i (some v)) H4)
def tLC (wi:TI) (f:St->St) (i:Nat) (tt:TT) (te:TE):TE:=fun σ H Q=>wi σ H fun J H1=>∀D,H1 D=none->LcP J i tt te Q (f σ) H1 D
def AU {X:Cx} {elt iter:Zr} {x:Str} {px:Pos} {ifs:List Zr} {scope:Scope} {pos pos':Pos} {N:Zd} {cl:List (Str×Zx)} {f:St->St} {i:Nat} {wi:TI} {tt:TT} {te:TE} {use:Option (Zz->Sem Unit)} {Qp:Zb}
  {pz:Za} {s:Zy} {σ:St} {H:Hp} {Q:VK}
  (hc:X.calm=true) (B:pX X N scope cl f i x) (hi:PI X (.Name x px) iter wi)
  (htt:∀C s₀ H₀ ex pz,PTs (blk X N scope cl C s₀ H₀ ex pz) ifs tt) (hte:∀C s₀ H₀ ex pz,PE (blk X N scope cl C s₀ H₀ ex pz) elt te)
  (hs:∀x,LY iter X.env x=pure x) (I:Inv X pz σ H s) (h:tLC wi f i tt te σ H Q)
  (fin:∀(fl:Flow) (s3 s6:Zy) (H3 H5:Hp) (d:Zx) (m:Zc),Inv X pz σ H3 s3->Inv X pz σ H5 s6->H5 s3.heap.objs.size=none->s6.heap.Ns s3.heap.objs.size m->Q (.ref d) H5->
   compPost (model X.prog X.w) X.A X.xe use Qp (.ref d) s3.heap.objs.size (.ok fl) s6):
  La (model X.prog X.w) X.A (comprehension (.ListComp elt [⟨.Name x px,iter,ifs,0⟩] scope pos) scope X.env pos' (newList []) false (eval iter X.env) use) Qp X.xe s:=by
 refine wpAny_comprehension_free (use:=use) rfl hs B.clos B.kind B.names (thn (hi pz s σ H _ I h) fun xv s1 h1=>thn h1 fun itv s2 h2=>?_);obtain⟨it,fp,tn,J,H2,rfl,I2,T,st2,f2,q⟩:=h2;have hD:H2 s2.heap.objs.size=none:=I2.fresh;obtain⟨W,⟨m0,w0⟩,turn⟩:=q _ hD;refine LC (wpAny_newFunctionEnv B.cell (by intro y hy;simp at hy) (fun h₁ hns₁ hsb₁=>?_) B.kind);have I3:Inv X pz σ (upd H2 s2.heap.objs.size (.lst [])) {s2 with heap:=s2.heap.push {cls:= .type "list",data:= .seq ([]:List Zz).toArray}}:=I2.lnew (its:=[]) (ys:=[]) (t':=s2.toks) .nil (cJ _);have lt2:∀b∈fp,b<s2.heap.objs.size:=fun b hb=>by obtain⟨o,ho,_⟩:=T.obj _ _ st2 b hb;exact fC ho
 have fp3:∀b∈fp,wR X pz (upd H2 s2.heap.objs.size (.lst [])) b:=fun b hb=>by refine⟨?_,(f2 b hb).2⟩;rw[f9 (cD (lt2 b hb))];exact(f2 b hb).1
 generalize hs3:({s2 with heap:=s2.heap.push {cls:= .type "list",data:= .seq ([]:List Zz).toArray}}:Zy)=s3 at I3 hns₁ hsb₁⊢;have eh:s2.heap.push {cls:= .type "list",data:= .seq ([]:List Zz).toArray}=s3.heap:=by rw[<-hs3]
 have lt3:∀b∈fp,b<s3.heap.objs.size:=fun b hb=>by rw[<-eh,fF];exact cP (lt2 b hb)
 have old:∀b o,s3.heap.get? b=some o->h₁.get? b=some o:=fun b o e=>hsb₁.extBut b o (cD (fC e)) (fE _ e);have I4:=AS (tk:=s3.toks+([]:List (Str×Zz)).length) B I3 (ex:=fp) (fun b hb=>⟨fp3 b hb,lt3 b hb⟩) old hns₁;have st4:tn 0 h₁:=T.keep _ _ _ st2 fun b _ o e=>old b o (by rw[<-eh];exact fE _ e);have fpB:∀{H':Hp},(∀b∈fp,H' b=none)->∀b∈fp,wR (blk X N scope cl s3.heap.objs.size s3 (upd H2 s2.heap.objs.size (.lst [])) fp pz) [] H' b:=fun{H'} hn b hb=>by obtain⟨_,g2,g3,g4,g5,g6⟩:=f2 b hb;refine⟨hn b hb,cD (lt3 b hb),fun z=>(ak.mp (I3.stkSub b z)).elim g2 g3,.inl hb,fun y c e=>g5 y c (B.lk y c e),fun p hp=>?_⟩;rw[aE]at hp;exact g6 p hp
 have loop:∀s4:Zy,s4={s3 with heap:=h₁,toks:=s3.toks+([]:List (Str×Zz)).length}->
   Me (model X.prog X.w) X.A (.compLoop (.ListComp elt [⟨.Name x px,iter,ifs,0⟩] scope pos) 0 (.ref it) (.ref s2.heap.objs.size) (compEnvC scope cl s3.heap.objs.size X.env))
    (compPost (model X.prog X.w) X.A X.xe use Qp (.ref s2.heap.objs.size) s3.heap.objs.size) s4:=by
  rintro s4 rfl;refine codeAny_compLoop_tests (I:=fun n s'=>∃k σ' H',Inv (blk X N scope cl s3.heap.objs.size s3 (upd H2 s2.heap.objs.size (.lst [])) fp pz) [] σ' H' s'/\tn k s'.heap/\(∀b∈fp,H' b=none)/\W k n σ' H') ?_ m0
   ⟨0,f σ,_,I4,st4,fun b hb=>(fp3 b hb).1,w0⟩;rintro n s5 ⟨k,σ5,H5,I5,st5,fr5,w5⟩;rcases turn k n σ5 H5 w5 with⟨stop,qn⟩|⟨go,step⟩
  ·refine Ll (T.done (blk X N scope cl s3.heap.objs.size s3 (upd H2 s2.heap.objs.size (.lst [])) fp pz) rfl rfl rfl hc k [] s5 σ5 H5 _ I5 (fpB fr5) st5 stop) (fun r s6 h6=>?_) fun _ _ z=>z;obtain⟨hr,I6⟩:=h6;subst hr;obtain⟨m6,hn6,_⟩:=id I6.loc;have I7:Inv X pz σ H5 s6:=I3.call' (s':=s6) (ch:=fp) I6.os I6.base I6.hok I6.bare fun b hb=>by obtain⟨_,g2,g3,g4,g5,g6⟩:=f2 b hb;exact⟨g4,g2,g5,g6⟩
   exact fin _ s3 s6 _ H5 _ m6 I3 I7 I6.free hn6 qn
  ·refine Ll (T.item (blk X N scope cl s3.heap.objs.size s3 (upd H2 s2.heap.objs.size (.lst [])) fp pz) rfl rfl rfl hc k [] s5 σ5 H5 _ I5 (fpB fr5) st5 go) (fun r s6 h6=>?_) fun _ _ z=>z;obtain⟨u,hr,h6⟩:=h6;subst hr;show La _ _ (pure () >>= fun _=>assign (.Name x px) (compEnvC scope cl s3.heap.objs.size X.env) u) _ _ s6;refine C5 (Ll (show La _ _ (pure ()) _ _ s6 from h6) (fun _ s7 h7=>?_) fun _ _ z=>z);obtain⟨v,H7,I7,r7,y7,st7,fr7⟩:=h7;have I7':=I7.pinned (fpB fr7) (T.obj _ _ st7);refine Mz (nG (X:=blk X N scope cl s3.heap.objs.size s3 (upd H2 s2.heap.objs.size (.lst [])) fp pz) I7' B.nd B.ix (.inl (LI B.loc)) r7 (fun s8 I8=>?_) (.inr (LI B.loc)));have back:∀{σ9:St} {H9:Hp} {s9:Zy},Inv (blk X N scope cl s3.heap.objs.size s3 (upd H2 s2.heap.objs.size (.lst [])) fp pz) ([]++tN fp s7.heap) σ9 H9 s9->(∃m',m'<n/\W (k+ 1) m' σ9 H9)->
     ∃m',m'<n/\∃k σ' H',Inv (blk X N scope cl s3.heap.objs.size s3 (upd H2 s2.heap.objs.size (.lst [])) fp pz) [] σ' H' s9/\tn k s9.heap/\(∀b∈fp,H' b=none)/\W k m' σ' H':=fun{σ9 H9 s9} I9 q9=>by obtain⟨m',hm,w9⟩:=q9;refine⟨m',hm,k+ 1,σ9,H9,I9.unpinned,T.keep _ _ _ st7 fun b hb o e=>(I9.pin (b,o) (ax _ (ax _ (kT hb e)))).1,fun b hb=>?_,w9⟩;obtain⟨o,e,d⟩:=T.obj _ _ st7 b hb;exact(I9.pin (b,o) (ax _ (ax _ (kT hb e)))).2.1
   refine Ll (htt _ _ _ _ _ _ s8 _ H7 _ I8 (step v H7 y7)) (fun ok s9 h9=>?_) fun _ _ z=>Lo z;obtain⟨H9,I9,q9⟩:=h9
   cases ok with
   |false=>rw[gN eV];rw[gN eV]at q9;exact back I9 q9
   |true=>rw[gT rfl];rw[gT rfl]at q9;refine Ll (hte _ _ _ _ _ _ s9 _ H9 _ I9 q9) (fun y s10 h10=>?_) fun _ _ z=>Lo z;obtain⟨v10,H10,I10,r10,xs,hx10,hz,q10⟩:=h10;refine Ll (gK (X:=blk X N scope cl s3.heap.objs.size s3 (upd H2 s2.heap.objs.size (.lst [])) fp pz) _ s10 _ H10 (.ref s2.heap.objs.size) [v10] _ [y] (fun _ H11=>H11=upd H10 s2.heap.objs.size (.lst (xs++[v10]))) I10 rfl (.cons r10 .nil) ⟨_,xs,v10,rfl,rfl,hx10,hz,rfl⟩) (fun _ s11 h11=>?_) fun _ _ z=>Lo z;obtain⟨_,H11,I11,_,e11⟩:=h11;subst e11;exact back I11 q10
 exact codeAny_compStart_list (loop _ rfl) (T.self _ 0 _ _ _ st4 (loop _ rfl))
def tj {X:Cx} {elt iter:Zr} {x:Str} {px:Pos} {ifs:List Zr} {scope:Scope} {pos:Pos} {N:Zd} {cl:List (Str×Zx)} {f:St->St} {i:Nat} {wi:TI} {tt:TT} {te:TE}
  (hc:X.calm=true) (B:pX X N scope cl f i x) (hi:PI X (.Name x px) iter wi)
  (htt:∀C s₀ H₀ ex pz,PTs (blk X N scope cl C s₀ H₀ ex pz) ifs tt) (hte:∀C s₀ H₀ ex pz,PE (blk X N scope cl C s₀ H₀ ex pz) elt te)
  (hs:autoParam (∀x,LY iter X.env x=pure x) auI._auto_1):PE X (.ListComp elt [⟨.Name x px,iter,ifs,0⟩] scope pos) (tLC wi f i tt te):=by
 intro pz s σ H Q I h;rw[eval_ListComp];refine AU hc B hi htt hte hs I h fun fl s3 s6 H3 H5 d m I3 I7 fr hn qn=>?_;refine⟨m,hn,fun h' sb=>⟨.ref d,H5,?_,rfl,qn⟩⟩;exact Inv.turned (h':=h') (t':=s6.toks) (it:=s3.heap.objs.size) I7 (fun b o hb e=>(sb.2 b hb).trans e) fr (cG I3.lt) (.inr I3.sz) (fun z c e q=>by obtain⟨v,q2⟩:=I3.cell z c e;exact absurd (q▸q2.lt) (cC _)) fun p hp q=>absurd (q▸fC (I3.pin p hp).1) (cC _)
def GY {J:It} {xs:List V} {i:Nat} {tt:TT} {te:TE} {Q:VK} {τ:St} {H1:Hp} {D:Zx} (p:V->Bool) (g:V->V) (hD:H1 D=none) (hz:xs.length<=sizeLine) (hτ:τ.set i none=τ)
  (hgo:∀k H,gE H1 H->k<xs.length->J.go k H) (hy:∀k H v H',gE H1 H->J.yld k H v H'->H'=H/\xs[k]?=some v) (hst:∀H,gE H1 H->J.stop xs.length H)
  (htt:∀(k:Nat) v H R,xs[k]?=some v->gE H1 H->R (p v) H->tt (τ.set i (some v)) H R)
  (hte:∀(k:Nat) v H R,xs[k]?=some v->p v=true->gE H1 H->R (g v) H->te (τ.set i (some v)) H R)
  (hq:∀H',gE H1 H'->H' D=some (.lst ((xs.filter p).map g))->Q (.ref D) H'):LcP J i tt te Q τ H1 D:=by
 have sm:∀o,gE H1 (upd H1 D o):=fun o b u e=>by rw[f9 (fZ e hD)];exact e
 refine⟨fun k m σ' H2=>m=xs.length-k/\k<=xs.length/\(∃o,σ'=τ.set i o)/\H2=upd H1 D (.lst (((xs.take k).filter p).map g)),⟨xs.length,by simp,cJ _,⟨none,hτ.symm⟩,by simp⟩,?_⟩;rintro k m σ' H2 ⟨rfl,hk,⟨o,rfl⟩,rfl⟩;by_cases hlt:k<xs.length
 ·refine .inr ⟨hgo k _ (sm _) hlt,fun v H3 y=>?_⟩;obtain⟨e,hv⟩:=hy k _ v H3 (sm _) y;subst e;rw[bu];refine htt k v _ _ hv (sm _) ?_;have tk:(xs.take (k+ 1)).filter p=(xs.take k).filter p++(if p v then[v]else[]):=take_succ_filter p xs k v hv;have ll:((xs.take k).filter p).length<=k:=by refine cE (bw _ _) ?_;rw[aK];lia
  cases hp:p v with
  |true=>rw[gT rfl];refine hte k v _ _ hv hp (sm _) ?_;refine⟨_,fS,by rw[aD];lia,xs.length-(k+ 1),by lia,rfl,hlt,⟨some v,rfl⟩,?_⟩;rw[uo,tk,hp,gT rfl,bo];rfl
  |false=>rw[gN eV];refine⟨xs.length-(k+ 1),by lia,rfl,hlt,⟨some v,rfl⟩,?_⟩;rw[tk,hp,gN eV,aE]
 ·have e:k=xs.length:=by lia
  subst e;refine .inl ⟨hst _ (sm _),hq _ (sm _) ?_⟩;rw[fS,bx]
section
variable {X:Cx}
def CD {bs:List Bool}:∀{us:List Zz},iR (bs.map V.bl) us->us=bs.map LH:=by
 induction bs with
 |nil=>intro us r;rw[aV]at r;cases r;rfl
 |cons n ns ih=>
  intro us r;rw[aC]at r
  cases r with
  |cons r1 r2=>cases(show _=LH n from r1);rw[ih r2];rfl
def zB (bs:List Bool):((aa bs.length).all fun i=>(bs[i]?).getD true)=bs.all id:=by
 induction bs with
 |nil=>rfl
 |cons b r ih=>rw[aA,bA,aY,bB,aY,<-ih];rfl
def zC {h h':Zt} {o:Obj} (hk:∀b x,b∉[h.objs.size]->(h.push o).get? b=some x->h'.get? b=some x):∀b x,h.get? b=some x->h'.get? b=some x:=
 fun b x e=>hk b x (fun hm=>by rw[bj.mp hm]at e;exact cC _ (fC e)) (fE _ e)
def yz (hc:X.calm=true):nQ X (.builtin "all") (fun xs H Q=>∃(a:Zx) (bs:List Bool),xs=[.ref a]/\SqL X.K H a (bs.map V.bl)/\Q (.bl (bs.all id)) H):=by
 intro pz s σ H xs us Q I r h;obtain⟨a,bs,rfl,ha,q⟩:=h;obtain⟨u,rfl,ru⟩:=my r;cases ru;obtain⟨its,rv,pl,hz⟩:=I.list ha;have ei:=CD rv;subst ei;have hl:s.heap.IsList a (bs.map LH).toArray:=pl.isList;have hlt:a<s.heap.objs.size:=by obtain⟨_,e,_⟩:=hl;exact fC e
 refine call_all_walk (MA hl ?_);refine⟨s.heap.objs.size,[s.heap.objs.size,a],[s.heap.objs.size],(bs.map LH).toArray.size,_,_,fun i=>(bs[i]?).getD true,rfl,Walks.list (A:=X.A.in1) (I.ok.hd hc) _ a (cD hlt) (bs.map LH).toArray,
  ⟨⟨_,fD _ rfl,rfl,rfl⟩,hl.push _⟩,fun i v s' Q' E' hP hQ=>?_,fun h' tk hk=>?_⟩
 ·have hv:(bs.map LH)[i]?=some v:=by simpa using hP
  rw[aO]at hv
  cases e:bs[i]? with
  |none=>rw[e]at hv;cases hv
  |some b=>rw[e]at hv;have e2:v=LH b:=(dm.inj hv).symm;subst e2;simp only[e,Option.getD_some]at hQ;exact Lx hQ
 ·have e:((aa (bs.map LH).toArray.size).all fun i=>(bs[i]?).getD true)=bs.all id:=by rw[aW,aD];exact zB bs
  rw[e];exact⟨.bl (bs.all id),H,I.kept (zC hk),rfl,q⟩
def rSlS:V->Option Int->Option Int->Hp->VK->Prop:=fun x lo hi H Q=>∃z,x= .str z/\z.length<=sizeLine/\Q (.str (L6 z lo hi)) H
def DE:SlR X rSlS:=by
 intro pz s σ H x v vl vu lo hi sl Q I rx hs pl pu h;obtain⟨z,rfl,hz,q⟩:=h;obtain⟨t,rfl⟩:=rx;refine⟨"str",_,F.slot_str_getitem.lookup,Mw _ _ _,?_⟩;have fin:∀t' k,EP X pz σ Q (.str (L6 z lo hi) t') {s with toks:=k}:=fun t' k=>⟨.str _,H,I.tok k,⟨t',rfl⟩,q⟩
 cases pl with
 |none=>
  cases pu with
  |none=>exact L1 (l:=none) (u:=none) (st:=none) hs rfl (post_val_or_str ⟨cE (Mt z _ _) hz,fun t' k=>fin t' k⟩)
  |int j u=>exact L1 (l:=none) (u:=some (j,u)) (st:=none) hs rfl (post_val_or_str ⟨cE (Mt z _ _) hz,fun t' k=>fin t' k⟩)
 |int i u'=>
  cases pu with
  |none=>exact L1 (l:=some (i,u')) (u:=none) (st:=none) hs rfl (post_val_or_str ⟨cE (Mt z _ _) hz,fun t' k=>fin t' k⟩)
  |int j u=>exact L1 (l:=some (i,u')) (u:=some (j,u)) (st:=none) hs rfl (post_val_or_str ⟨cE (Mt z _ _) hz,fun t' k=>fin t' k⟩)
def lH:nQ X (.builtin "isinstance") (fun xs H Q=>∃x v c t b,xs=[x,v]/\(∀u,iQ v u->u=c)/\xq X.K H x t/\dP X.K t c=some b/\Q (.bl b) H):=by intro pz s σ H xs us Q I r h;obtain⟨x,v,c,t,b,rfl,hc,ht,hk,q⟩:=h;obtain⟨u,u',rfl,ru,ru'⟩:=Aq r;cases hc u' ru';exact Aw I ru ht hk fun tk=>⟨.bl b,H,I.tok tk,rfl,q⟩
end
section
variable {X:Cx}
open Builtin Builtin.Str in
def GZ {prog:Zu} {w:Zv} {A:Zw} {E:Zb} {s:Zy} {x y:Str} {t u:Tok} {Q:Zb} (hy:(y.length==0)=false)
  (h:∀l k,l.map (·.1)=LM x y->Q (.ref s.heap.objs.size) {s with heap:=s.heap.push {cls:= .type "list",data:= .seq (strValues l).toArray},toks:=k}) (hsz:x.length+ 2<=sizeLine):
  La (model prog w) A (call (.builtin "str.split") [.str x t,.str y u]) Q E s:=by
 have hn:(partsBetween x (occurrences x y 0 x.length (x.length+ 1)) y.length).length<=sizeLine:=by have e1:=StrLaws.occ_length_le x y 0 x.length (x.length+ 1);rw[length_partsBetween];lia
 cases h1:(decide (x.length<y.length)||decide (strKind x<strKind y))
 ·cases hf:(occurrences x y 0 x.length (x.length+ 1)).isEmpty;·refine L5 F.slot_str_split (Mw _ _ _) F.entry_str_split (F.args_str_split_2 _ _) (meets_str_split_sep x y t u h1 hy hf (by lia) hn) ?_;show wants Q E _ {s with toks:=_,heap:=s.heap.push {cls:= .type "list",data:= .seq (strsFrom s.toks (partsBetween x (occurrences x y 0 x.length (x.length+ 1)) y.length)).toArray}};rw[strsFrom_eq];exact h (numbered s.toks _) _ ((numbered_texts _ _).trans ((gN (ne_true_of_eq_false h1)).trans (gN (ne_true_of_eq_false hf))).symm)
  ·exact L5 F.slot_str_split (Mw _ _ _) F.entry_str_split (F.args_str_split_2 _ _) (meets_str_split_not_found x y t u h1 hy hf)
    (h [(x,t)] s.toks ((gN (ne_true_of_eq_false h1)).trans (gT hf)).symm)
 ·exact L5 F.slot_str_split (Mw _ _ _) F.entry_str_split (F.args_str_split_2 _ _) (meets_str_split_cannot_occur x y t u h1)
   (h [(x,t)] s.toks (gT h1).symm)
theorem vY:∀l:List (Str×Tok),iR ((l.map (·.1)).map V.str) (strValues l)
 |[]=> .nil
 |p::r=> .cons ⟨p.2,rfl⟩ (vY r)
def rQ (x y:Str):(LM x y).length<=x.length+ 2:=by
 unfold LM;split;·show 1<=_;lia
 ·split;·show 1<=_;lia
  ·have e1:=StrLaws.occ_length_le x y 0 x.length (x.length+ 1);rw[length_partsBetween];lia
def G1:V->List V->Hp->VK->Prop:=fun x xs H Q=>∃z y,x= .str z/\xs=[.str y]/\(y.length==0)=false/\z.length+ 2<=sizeLine/\∀l,H l=none->Q (.ref l) (upd H l (.lst ((LM z y).map V.str)))
def CF:MtR X "str.split" G1:=by intro pz s σ H x xs v us Q I rx rs h;obtain⟨z,y,rfl,rfl,hy,hz,q⟩:=h;obtain⟨t,rfl⟩:=rx;obtain⟨u,rfl,ru⟩:=my rs;obtain⟨t',rfl⟩:=ru;refine GZ hy (fun l k hl=>?_) hz;have hv:=vY l;rw[hl]at hv;exact⟨.ref s.heap.objs.size,_,I.lnew hv (by rw[aD];exact cE (rQ z y) hz),rfl,q _ I.fresh⟩
def PE1 (X:Cx) (e:Zr) (t:TE):Prop:=
 ∀(pz:Za) (s:Zy) (σ:St) (H:Hp) (Q:VK),Inv X pz σ H s->1<=s.toks->t σ H Q->La (model X.prog X.w) X.A (eval e X.env) (fun u s'=>1<=s'.toks/\EP X pz σ Q u s') X.xe s
def PE.one {e:Zr} {t:TE} (h:PE X e t):PE1 X e t:=fun pz s σ H Q I ht hw=>Ll (wpAny_toks_of ht (h pz s σ H Q I hw)) (fun _ _ z=>z) fun _ _ z=>z.2
def Jt (to:TE) (y z:Str):TE:=fun σ H Q=>to σ H fun v H1=>∃x,v= .str x/\x.length+(x.length+ 1)*z.length<=16777216/\Q (.str (Txt.replace x y z)) H1
def uC {o:Zr} {to:TE} {y z:Str} {k1 k2 p1 p2 apos cpos} (ho:PE1 X o to) (hyz:(y==z)=false)
  (hbase:autoParam (LW o "replace" X.env (eval o X.env)=eval o X.env) auR._auto_1)
  (hfew:((LF cpos (Lg [.Constant (.str y) k1 p1,.Constant (.str z) k2 p2] X.env)).all (fun x=>!x.1)&&(backToKw cpos (Mg [] X.env)).all (fun x=>x.1.isSome)
   &&decide (([.Constant (.str y) k1 p1,.Constant (.str z) k2 p2]:List Zr).length+([]:List Keyword).length+(if([]:List Keyword).isEmpty then 0 else 1)<30))=true:=by rfl)
  (hline:autoParam ((apos.endLine==cpos.line)=true) auR._auto_1):PE1 X (.Call (.Attribute o "replace" apos) [.Constant (.str y) k1 p1,.Constant (.str z) k2 p2] [] cpos) (Jt to y z):=by intro pz s σ H Q I ht h;refine wpAny_Call_method_late hbase hfew hline rfl (thn (ho pz s σ H _ I ht h) fun v s1 q1=>?_);obtain⟨ht1,v1,H1,I1,r1,x,rfl,hb,q⟩:=q1;obtain⟨t,rfl⟩:=r1;refine⟨"str","str.replace",F.plainAttrs_str,F.slot_str_replace,F.type_str_replace,Mw _ _ _,(fun _ e=>nomatch e),?_⟩;refine Calls.callWith_builtin rfl (Calls.evalArgs_plain ?_);show La _ _ (spliced ((false,eval (.Constant (.str y) k1 p1) X.env)::LF cpos (Lg [.Constant (.str z) k2 p2] X.env))) _ _ s1;refine Mn (Calls.Constant_str ?_);show La _ _ (spliced ((false,eval (.Constant (.str z) k2 p2) X.env)::LF cpos (Lg [] X.env))) _ _ _;refine Mn (Calls.Constant_str (Calls.spliced_nil ?_));refine Ll (wpAny_toks_of (n:=1) (by show 1<=s1.toks+ 1+ 1;lia) (SC.replace (Q:=EP X pz σ Q) (E:=X.xe) (u:=s1.toks) (v:=s1.toks+ 1) (Nat.pos_iff_ne_zero.mp ht1) (Nat.succ_ne_zero _) (cD (cM _)) hyz hb fun t' k=>⟨.str _,H1,?_,⟨t',rfl⟩,q⟩)) (fun _ _ z=>z) fun _ _ z=>z.2;exact I1.tok k
def Ge (X:Cx) (st:List Zq) (t:TS):Prop:=
 ∀(pz:Za) (s:Zy) (σ:St) (H:Hp) (D:pT),Inv X pz σ H s->1<=s.toks->t D σ H->La (model X.prog X.w) X.A (execs st X.env) (SP X pz D) X.xe s
def CG {i:Nat} {x:Str} {e:Zr} {te:TE} {pos pos':Pos} {rest:List Zq} {u:TS} (hN:X.N.Nodup) (hi:X.N[i]?=some x) (hx:Loc X.env.scope x) (he:PE1 X e te) (hr:PSs X rest u)
  (hs:autoParam (Ml e (some (.Name x pos')) pos.line X.env=pure false) auR._auto_1) (hf:autoParam (X.fn x=true\/X.env.scope.names.lookup x=some .local) auL._auto_1):
  Ge X (.Assign [.Name x pos'] e pos::rest) (xh (El te (gP i)) u):=by intro pz s σ H D I ht h;refine wpAny_execs_cons (wpAny_Assign_Name (thn (he pz s σ H _ I ht h) fun v s1 q1=>?_) hs);obtain⟨_,y,H1,I1,r1,q⟩:=q1;exact nG I1 hN hi hx r1 (fun s2 I2=>hr pz s2 _ H1 D I2 q) hf
theorem Ge.nox {st:List Zq} {t:TS} (h:Ge X.nox st t):Ge X st t:=fun pz s σ H D I ht hw=>
 Ll (h pz s σ H D (I.wish _) ht hw) (fun _ _ q=>q.unwish) fun _ _ z=>Lo z
end
def G2 {CX:CXT} {P:Zu} {w:Zv} {K:Zp} {mg:Zc} {base:Zt} {k:Nat} {f:Zx} {name qual p:Str} {params:Arguments} {body:List Zq} {scope:Scope} {dV kV doc pm cdv ct oc:Zz} {an od:Option Zx}
  {osl:Array (Option Zz)} {N:Zd} {sp:Sp} (lk:K.lookup f=some ⟨oc,od,.func (dY name qual params body scope dV kV doc pm an cdv ct),osl⟩) (hcd:dZ K cdv qual=true) (S:gh N [p] scope)
  (nc:∀x∈scope.names,x.2≠ .cell) (nc2:∀n,cellsFrom n scope.names []=[]) (len:∀vs H Q E,sp vs H Q E->vs.length=1)
  (hbody:∀(A:Zw) (outer:List Env) (s:Zy) (H:Hp) (vs:List V) (Q:VK) (E:XK),nL k (A.deeper (envOfC qual scope s.heap.objs.size f cdv))->sp vs H Q E->
   ∃t,Ge (Cd CX P w K mg base N qual scope f cdv A outer s H E) body t/\t {nx:=fun _ H'=>Q .non H',rt:=Q} (qR N vs) H):
  tU P w K mg base CX (k+ 1) f (dY name qual params body scope dV kV doc pm an cdv ct) [p] sp:=by
 refine⟨len,fun A outer s H args us vs Q E hr e0 hb r hsp=>?_⟩;have hl:=len _ _ _ _ hsp;have hul:us.length=1:=by rw[<-r.length];exact hl
 obtain⟨u,rfl⟩:=bC.mp hul;have KX:K.In s.heap:=e0.mod.kin.keeps fun b o e=>(e0.bs b o e).1;have lim:s.heap.NoLimit:=e0.mod.nolimit.keeps fun b o e=>(e0.bs b o e).1;have hpl:scope.names.lookup p=some .local:=by
  rcases S.par p (by simp)with q|q;·exact q
  ·exact absurd rfl (nc _ (Lj q))
 refine codeAny_call_function hr.depth (KX _ _ lk) rfl S.co S.gen rfl (eg KX hcd) (hb _ _ _ _ ?_);refine wpAny_newFunctionEnv nc (fun x hx=>?_) (fun h' hn hs=>?_) S.kind
 ·have e:x=(p,u):=by simpa using hx
  rw[e];exact hpl
 have keep:∀b o,s.heap.get? b=some o->h'.get? b=some o:=fun b o e=>hs.extBut b o (cD (fC e)) (fE _ e);refine⟨lim.keeps keep,codeAny_func ?_⟩;obtain⟨t,ht,hq⟩:=hbody A outer s H vs Q E (hr.deeper _) hsp;have em:(fun x=>(bD [p] [u]).reverse.lookup x)=bindL (envOfC qual scope s.heap.objs.size f cdv).kindOf (bD [p] [u]) fun _=>none:=by
  funext x;show(match x==p with|true=>some u|false=>none)=(if(envOfC qual scope s.heap.objs.size f cdv).kindOf p=some .local then fun y=>if y=p then some u else none else fun _=>none) x;rw[gT (show(envOfC qual scope s.heap.objs.size f cdv).kindOf p=some .local from hpl)]
  cases e:x==p with
  |true=>rw[gT (eq_of_beq e)]
  |false=>rw[gN (ne_of_beq_false e)]
 have x:InCallC s s.heap.objs.size (bindL (envOfC qual scope s.heap.objs.size f cdv).kindOf (bD [p] [u]) fun _=>none) (cellsFrom (s.heap.objs.size+ 1) scope.names []) (bindC (envOfC qual scope s.heap.objs.size f cdv).kindOf (bD [p] [u]) fun _=>none)
   {s with heap:=h',toks:=s.toks+(bD [p] [u]).length}:=by rw[nc2];refine⟨⟨⟨h',_,rfl⟩,?_,keep,cH _⟩,fun n c e=>by simp at e,List.Pairwise.nil,fun n c e=>by simp at e⟩;rw[<-em];exact hn
 have I:Inv (Cd CX P w K mg base N qual scope f cdv A outer s H E) [] (qR N vs) H {s with heap:=h',toks:=s.toks+(bD [p] [u]).length}:=vO S hr.hd e0 hl r x;have eenv:newEnv (dY name qual params body scope dV kV doc pm an cdv ct).scope s.heap.objs.size (dY name qual params body scope dV kV doc pm an cdv ct).globals (dY name qual params body scope dV kV doc pm an cdv ct).closure
   ((dY name qual params body scope dV kV doc pm an cdv ct).qualname++".<locals>.") (some f) (dY name qual params body scope dV kV doc pm an cdv ct).code none (dY name qual params body scope dV kV doc pm an cdv ct).builtins=envOfC qual scope s.heap.objs.size f cdv:=by unfold envOfC;rw[nc2];rfl
 rw[eenv];have go:=ht [] _ (qR N vs) H _ I (by show 1<=s.toks+ 1;lia) hq;refine Ll go (fun fl s' hs=>?_) fun e s' hs=>hs;have fin:∀{σ':St} {H':Hp} {v:V} {u:Zz},Inv (Cd CX P w K mg base N qual scope f cdv A outer s H E) [] σ' H' s'->iQ v u->Q v H'->CE outer P w H s Q u s':=
  fun{σ' H' v u} J rv q=>⟨v,H',J.os,J.bare,J.base,J.hok,rv,q⟩
 cases fl with
 |ret u=>obtain⟨v,σ',H',J,rv,q⟩:=hs;exact fin J rv q
 |next=>obtain⟨σ',H',J,q⟩:=hs;exact fin (v:=V.non) (u:=LQ) J rfl q
 |brk=>obtain⟨_,_,_,q⟩:=hs;exact Lo q
 |cont=>obtain⟨_,_,_,q⟩:=hs;exact Lo q
section
variable {X:Cx} {st:Zq} {rest:List Zq} {t u:TS}
end
section
variable {P:Zu} {w:Zv} {H H':Hp} {h h':Zt} {a:Zx} {o:HO}
end
structure Fl (P:Zu) (w:Zv) (outer:List Env) (H:Hp) (s:Zy) (B:Zt) (H':Hp) (s':Zy):Prop where
 os:s'.os=s.os
 bare:AllBare s'.gens
 un:Un (frs outer) [] H H' s.heap s'.heap
 hok:HOk P w H' s'.heap
 stay:B.StaysIn s'.heap
 trk:∀b u,H' b=some u->∃o,B.get? b=some o
 old:∀b o,s.heap.get? b=some o->b∉frs outer->∃o',B.get? b=some o'
section
variable {X:Cx} {pz:Za} {σ:St} {H H':Hp} {s s':Zy} {B h:Zt}
def Inv.track {ea:Zx} {o:HO} (I:Inv X pz σ H s) (hn:H ea=none) (h0:X.s₀.heap.get? ea=none) (hL:ea≠X.env.locals) (hC:∀x c,X.env.cells.lookup x=some c->c≠ea) (hP:∀p∈X.pn++pz,p.1≠ea)
  (new:jL X.prog X.w (upd H ea o) s.heap ea o):Inv X pz σ (upd H ea o) s:=by
 have ne:∀b u,H b=some u->b≠ea:=fun b u e z=>by rw[z,hn]at e;cases e
 refine⟨I.ok,I.os,I.bare,⟨I.base.keep,I.base.slot,fun b ob e n hx=>?_,I.base.there,fun b xs e=>?_,fun b ob u e=>?_,fun b ps e=>?_⟩,I.loc,I.cell,?_,fun x c e=>?_,fun p hp=>?_,fun b u e=>?_,I.len⟩;·rw[f9 (fun z=>by rw[z,h0]at e;cases e)];exact I.base.free b ob e n hx
 ·have e1:=I.base.tups b xs e;rw[f9 (ne b _ e1)];exact e1
 ·have e1:=I.base.frzs b ob u e;rw[f9 (ne b _ e1)];exact e1
 ·obtain⟨more,e1⟩:=I.base.tbls b ps e;exact⟨more,by rw[f9 (ne b _ e1)];exact e1⟩
 ·rw[f9 (Lq hL)];exact I.free
 ·rw[f9 (hC x c e)];exact I.freeC x c e
 ·obtain⟨e,n,n2,nf,d⟩:=I.pin p hp;exact⟨e,by rw[f9 (hP p hp)];exact n,n2,nf,d⟩
 ·by_cases hb:b=ea;·subst hb;rw[fS]at e;cases e;exact new
  ·rw[f9 hb]at e;exact(I.hok b u e).stay (fun _ _ _ q=>q) (fun c z=>by rw[f9 (ne c _ z)];exact z) fun c xs z=>by rw[f9 (ne c _ z)];exact z
end
section
variable {P:Zu} {w:Zv} {K:Zp} {mg:Zc} {base:Zt} {N:Zd} {qual:Str} {scope:Scope} {f:Zx} {cd:Zz} {A:Zw} {outer:List Env} {s₀:Zy} {H₀:Hp} {E:XK}
end
def EH:List Zz:=[.type "ValueError",.type "Exception",.type "BaseException",.type "object"]
abbrev ExcV (K:Zp) (C:Zx):Prop:=PySem.W.excIn K C EH "ValueError.__new__"=true
section
variable {X:Cx} {C:Zx} {E:XK} {x:Str} {np cpos pos:Pos} {e:Zr} {es:List Zr} {t:TA}
end
section
variable {P:Zu} {w:Zv} {K:Zp} {mg:Zc} {base:Zt}
end
section
variable {X:Cx} {pz:Za} {σ:St} {H:Hp} {s:Zy}
end
section
variable {X:Cx} {CX:CXT} {k:Nat} {f Y:Zx} {fd:Zs} {ps:Zd} {sp:Sp} {dvs:List V} {ds:List Zz} {E:XK} {x y n:Str} {p pos pos' py hpos tpos:Pos} {e:Zr} {es:List Zr} {t:TA} {b₀:Zq} {body:List Zq} {tb:TS} {i:Nat}
end
section
variable {X:Cx} {e:Zr} {es:List Zr} {te:TE} {pos:Pos}
end
section
variable {X:Cx}
def vZ:nQ X (.type "int") (fun xs H Q=>∃x n,xs=[.str x]/\intText? x=some n/\x.length<=640/\Q (.int n) H):=by intro pz s σ H xs us Q I r h;obtain⟨x,n,rfl,hn,hl,q⟩:=h;obtain⟨u,rfl,rx⟩:=my r;obtain⟨t,rfl⟩:=rx;exact PySem.W.KIN.call_text hn hl ⟨.int n,H,I.tok _,⟨_,rfl⟩,q⟩
end
inductive Dt where
 |flat (v:V)
 |tup (l:List Dt)
 |lst (l:List Dt)
mutual
inductive At (K:Zp) (H:Hp):V->Dt->Prop where
 |flat {v:V} (h:rJ v=true):At K H v (.flat v)
 |tup {a:Zx} {xs:List V} {ds:List Dt} (h:SqT K H a xs) (hs:Ats K H xs ds):At K H (.ref a) (.tup ds)
 |lst {a:Zx} {xs:List V} {ds:List Dt} (h:SqL K H a xs) (hs:Ats K H xs ds):At K H (.ref a) (.lst ds)
inductive Ats (K:Zp) (H:Hp):List V->List Dt->Prop where
 |nil:Ats K H [] []
 |cons {x:V} {d:Dt} {xs:List V} {ds:List Dt} (h:At K H x d) (hs:Ats K H xs ds):Ats K H (x::xs) (d::ds)
end
mutual
def eqD:Dt->Dt->Bool
 | .flat a,.flat b=>eqV a b
 | .tup l,.tup m=>uD l m
 | .lst l,.lst m=>uD l m
 |_,_=>false
def uD:List Dt->List Dt->Bool
 |[],[]=>true
 |x::xs,y::ys=>eqD x y&&uD xs ys
 |_,_=>false
end
mutual
def pG:Dt->Dt->Bool
 | .flat _,.flat _=>true
 | .tup l,.tup m=>pH l m
 | .lst l,.lst m=>if l.length=m.length then pH l m else true
 |_,_=>false
def pH:List Dt->List Dt->Bool
 |x::xs,y::ys=>pG x y&&pH xs ys
 |_,_=>true
end
mutual
def sY:Dt->Nat
 | .flat _=>0
 | .tup l=>iK l+ 1
 | .lst l=>iK l+ 1
def iK:List Dt->Nat
 |[]=>0
 |x::xs=>max (sY x) (iK xs)
end
theorem Ats.length {K:Zp} {H:Hp}:∀{xs:List V} {ds:List Dt},Ats K H xs ds->xs.length=ds.length
 |_,_,.nil=>rfl
 |_,_,.cons _ t=>by rw[aA,aA,Ats.length t]
theorem Ats.get {K:Zp} {H:Hp}:∀{xs:List V} {ds:List Dt} {j:Nat} {x:V},Ats K H xs ds->xs[j]?=some x->∃d,ds[j]?=some d/\At K H x d
 |_,_,0,_,.cons h _,e=>⟨_,rfl,by cases e;exact h⟩
 |_,_,j+ 1,_,.cons _ t,e=>Ats.get (j:=j) t e
 |_,_,_,_,.nil,e=>by simp at e
theorem uE:∀(l m:List Dt),l.length≠m.length->uD l m=false
 |[],[],h=>absurd rfl h
 |x::xs,y::ys,h=>by rw[uD,uE xs ys (fun e=>h (by rw[aA,aA,e])),eY]
 |[],y::ys,_=>by rw[uD];all_goals simp
 |x::xs,[],_=>by rw[uD];all_goals simp
def zD (l m:List Dt) (j:Nat):Bool:=match l[j]?,m[j]? with
 |some a,some b=>eqD a b
 |_,_=>false
theorem pY:∀(l m:List Dt),l.length=m.length->((aa l.length).all fun j=>zD l m j)=uD l m
 |[],[],_=>by rw[uD];rfl
 |x::xs,y::ys,h=>by have ih:=pY xs ys (by simpa using h);rw[aA,bA,aY,bB,uD,<-ih];rfl
 |[],_::_,h=>by simp at h
 |_::_,[],h=>by simp at h
theorem m7:∀{l m:List Dt} {j:Nat} {a b:Dt},pH l m=true->l[j]?=some a->m[j]?=some b->pG a b=true
 |x::xs,y::ys,0,a,b,h,e1,e2=>by rw[pH,eX]at h;cases e1;cases e2;exact h.1
 |x::xs,y::ys,j+ 1,a,b,h,e1,e2=>by rw[pH,eX]at h;exact m7 (j:=j) h.2 e1 e2
 |[],_,_,_,_,_,e1,_=>by simp at e1
 |_::_,[],_,_,_,_,_,e2=>by simp at e2
theorem depDs_get:∀{l:List Dt} {j:Nat} {a:Dt},l[j]?=some a->sY a<=iK l
 |x::xs,0,a,e=>by cases e;rw[iK];exact Nat.le_max_left ..
 |x::xs,j+ 1,a,e=>by rw[iK];exact cE (depDs_get (j:=j) e) (Nat.le_max_right ..)
 |[],_,_,e=>by simp at e
def AV {v:V} (h:rJ v=true):eqV v v=true:=by
 cases v with
 |non=>rfl
 |bl b=>show(b==b)=true;simp
 |int i=>show(i==i)=true;simp
 |str x=>show(x==x)=true;simp
 |_=>exact absurd h eV
section
variable {X:Cx} {pz:Za} {σ:St} {H:Hp} {s:Zy}
mutual
theorem At.same (I:Inv X pz σ H s):∀{x:V} {d e:Dt},At X.K H x d->At X.K H x e->pG d e=true->eqD d e=true
 |_,_,_,.flat h,k,c=>by
  cases k with
  |flat _=>rw[eqD];exact AV h
  |tup _ _=>exact absurd h eV
  |lst _ _=>exact absurd h eV
 |_,_,_,.tup h hs,k,c=>by
  cases k with
  |flat h=>exact absurd h eV
  |tup h' hs'=>have e:=I.tuple_inj h h';subst e;rw[pG]at c;rw[eqD];exact Ats.same I hs hs' c
  |lst _ _=>simp[pG]at c
 |_,_,_,.lst h hs,k,c=>by
  cases k with
  |flat h=>exact absurd h eV
  |tup _ _=>simp[pG]at c
  |lst h' hs'=>have e:=I.list_inj h h';subst e;rw[pG,gT (hs.length.symm.trans hs'.length)]at c;rw[eqD];exact Ats.same I hs hs' c
theorem Ats.same (I:Inv X pz σ H s):∀{xs:List V} {l m:List Dt},Ats X.K H xs l->Ats X.K H xs m->pH l m=true->uD l m=true
 |_,_,_,.nil,k,_=>by cases k;rw[uD]
 |_,_,_,.cons h t,k,c=>by
  cases k with
  |cons h' t'=>rw[pH,eX]at c;rw[uD,At.same I h h' c.1,Ats.same I t t' c.2];rfl
end
def Els (K:Zp) (H:Hp) (A:Zw) (s:Zy) (ds es:List Dt):Prop:=
 ∀(j:Nat) (d1 d2:Dt) (x y:V) (u v:Zz),ds[j]?=some d1->es[j]?=some d2->iQ x u->iQ y v->At K H x d1->At K H y d2->SeqAt.EqAt A s u v (eqD d1 d2)
def els {A:Zw} {xs ys:List V} {its its2:List Zz} {ds es:List Dt} (r:iR xs its) (r2:iR ys its2) (hs:Ats X.K H xs ds) (hs':Ats X.K H ys es) (EL:Els X.K H A s ds es):
  ∀j (h1:j<its.toArray.size) (h2:j<its2.toArray.size),SeqAt.EqAt A s its.toArray[j] its2.toArray[j] (zD ds es j):=fun j h1 h2=>by
 have l1:=r.length;have l2:=r2.length;have h1':j<xs.length:=by simp only[aW]at h1;lia
 have h2':j<ys.length:=by simp only[aW]at h2;lia
 obtain⟨w1,e1,q1⟩:=r.get (bE h1');obtain⟨w2,e2,q2⟩:=r2.get (bE h2');obtain⟨d1,f1,p1⟩:=hs.get (bE h1');obtain⟨d2,f2,p2⟩:=hs'.get (bE h2');have g1:its.toArray[j]=w1:=by simpa using(au.mp e1).2
 have g2:its2.toArray[j]=w2:=by simpa using(au.mp e2).2
 have ed:zD ds es j=eqD d1 d2:=by unfold zD;rw[f1,f2]
 rw[g1,g2,ed];exact EL j d1 d2 _ _ _ _ f1 f2 q1 q2 p1 p2
def EI {ds es:List Dt} {n m:Nat} (h1:n=ds.length) (h2:m=es.length):((aa (min n m)).all (zD ds es)&&n==m)=eqD (.tup ds) (.tup es):=by
 subst h1 h2;rw[eqD];by_cases hl:ds.length=es.length;·rw[<-pY ds es hl,<-hl,Nat.min_self];simp
 ·rw[uE ds es hl,beq_eq_false_iff_ne.mpr hl,eY]
def EJ {ds es:List Dt} {n:Nat} (h1:n=ds.length) (h:ds.length=es.length):((aa n).all (zD ds es))=eqD (.lst ds) (.lst es):=by subst h1;rw[eqD,<-pY ds es h]
def DF {A:Zw} {a b:Zx} {xs ys:List V} {ds es:List Dt} (I:Inv X pz σ H s) (h:SqT X.K H a xs) (hs:Ats X.K H xs ds) (h':SqT X.K H b ys) (hs':Ats X.K H ys es) (hu:A.units<cLine) (EL:Els X.K H A.in1 s ds es):
  SeqAt.RcAt A s (.ref a) (.ref b) (eqD (.tup ds) (.tup es))/\SeqAt.RcNeAt A s (.ref a) (.ref b) (!eqD (.tup ds) (.tup es)):=by
 obtain⟨its,r,pl,_⟩:=I.tuple h;obtain⟨its2,r2,pl2,_⟩:=I.tuple h';have e:=els r r2 hs hs' EL;have l1:its.toArray.size=ds.length:=by rw[aW,<-r.length,hs.length]
 have l2:its2.toArray.size=es.length:=by rw[aW,<-r2.length,hs'.length]
 have k1:=SeqAt.RcAt.tuples (A:=A) (s:=s) pl pl2 hu e;have k2:=SeqAt.RcNeAt.tuples (A:=A) (s:=s) pl pl2 hu e;rw[EI l1 l2]at k1 k2;exact⟨k1,k2⟩
def DG {A:Zw} {a b:Zx} {xs ys:List V} {ds es:List Dt} (I:Inv X pz σ H s) (h:SqL X.K H a xs) (hs:Ats X.K H xs ds) (h':SqL X.K H b ys) (hs':Ats X.K H ys es) (hu:A.units<cLine) (EL:ds.length=es.length->Els X.K H A.in1 s ds es):
  SeqAt.RcAt A s (.ref a) (.ref b) (eqD (.lst ds) (.lst es))/\SeqAt.RcNeAt A s (.ref a) (.ref b) (!eqD (.lst ds) (.lst es)):=by
 obtain⟨its,r,pl,_⟩:=I.list h;obtain⟨its2,r2,pl2,_⟩:=I.list h';have l1:its.toArray.size=ds.length:=by rw[aW,<-r.length,hs.length]
 have l2:its2.toArray.size=es.length:=by rw[aW,<-r2.length,hs'.length]
 by_cases hl:ds.length=es.length;·have e:=els r r2 hs hs' (EL hl);have k1:=SeqAt.RcAt.lists (A:=A) (s:=s) pl.isList pl2.isList (by rw[l1,l2,hl]) hu e;have k2:=SeqAt.RcNeAt.lists (A:=A) (s:=s) pl.isList pl2.isList (by rw[l1,l2,hl]) hu e;rw[EJ l1 hl]at k1 k2;exact⟨k1,k2⟩
 ·have hne:(its.toArray.size !=its2.toArray.size)=true:=by rw[l1,l2];exact bne_iff_ne.mpr hl
  have k1:=SeqAt.RcAt.lists_lengths (A:=A) (s:=s) pl.isList pl2.isList hne hu;have k2:=SeqAt.RcNeAt.lists_lengths (A:=A) (s:=s) pl.isList pl2.isList hne hu;rw[eqD,uE ds es hl];exact⟨k1,k2⟩
def DH (I:Inv X pz σ H s):∀(n:Nat) (A:Zw) {x y:V} {u v:Zz} {d e:Dt},iQ x u->iQ y v->At X.K H x d->At X.K H y e->pG d e=true->sY d<=n->A.units+n<cLine->SeqAt.EqAt A s u v (eqD d e):=by
 intro n
 induction n with
 |zero=>
  intro A x y u v d e rx ry hx hy c hd hu
  cases hx with
  |flat h=>
   cases hy with
   |flat h'=>rw[eqD];exact AJ rx ry h h'
   |tup _ _=>simp[pG]at c
   |lst _ _=>simp[pG]at c
  |tup _ _=>rw[sY]at hd;lia
  |lst _ _=>rw[sY]at hd;lia
 |succ n ih=>
  intro A x y u v d e rx ry hx hy c hd hu
  cases hx with
  |flat h=>
   cases hy with
   |flat h'=>rw[eqD];exact AJ rx ry h h'
   |tup _ _=>simp[pG]at c
   |lst _ _=>simp[pG]at c
  |@tup a xs ds h hs=>
   cases hy with
   |flat _=>simp[pG]at c
   |lst _ _=>simp[pG]at c
   |@tup b ys es h' hs'=>
    cases rx;cases ry;by_cases hab:a=b;·subst hab;rw[At.same I (.tup h hs) (.tup h' hs') c];exact SeqAt.EqAt.same _
    ·rw[pG]at c;rw[sY]at hd;refine SeqAt.EqAt.of_refs hab (DF I h hs h' hs' (by lia) fun j d1 d2 x y u v f1 f2 q1 q2 p1 p2=>?_).1;exact ih A.in1 q1 q2 p1 p2 (m7 c f1 f2) (cE (depDs_get f1) (by lia)) (by show A.units+ 1+n<cLine;lia)
  |@lst a xs ds h hs=>
   cases hy with
   |flat _=>simp[pG]at c
   |tup _ _=>simp[pG]at c
   |@lst b ys es h' hs'=>
    cases rx;cases ry;by_cases hab:a=b;·subst hab;rw[At.same I (.lst h hs) (.lst h' hs') c];exact SeqAt.EqAt.same _
    ·rw[sY]at hd;refine SeqAt.EqAt.of_refs hab (DG I h hs h' hs' (by lia) fun hl j d1 d2 x y u v f1 f2 q1 q2 p1 p2=>?_).1;rw[pG,gT hl]at c;exact ih A.in1 q1 q2 p1 p2 (m7 c f1 f2) (cE (depDs_get f1) (by lia)) (by show A.units+ 1+n<cLine;lia)
def G3 (K:Zp) (neg:Bool):R2:=fun x y H Q=>∃a b d e,x= .ref a/\y= .ref b/\At K H x d/\At K H y e/\pG d e=true/\sY d<=100/\Q (.bl (if neg then !eqD d e else eqD d e)) H
def rcD (I:Inv X pz σ H s) {A:Zw} {a b:Zx} {d e:Dt} (hx:At X.K H (.ref a) d) (hy:At X.K H (.ref b) e) (c:pG d e=true) (hd:sY d<=100) (hu:A.units+ 101<cLine):
  SeqAt.RcAt A s (.ref a) (.ref b) (eqD d e)/\SeqAt.RcNeAt A s (.ref a) (.ref b) (!eqD d e):=by
 cases hx with
 |flat h=>exact absurd h eV
 |@tup a xs ds h hs=>
  cases hy with
  |flat h=>exact absurd h eV
  |lst _ _=>simp[pG]at c
  |@tup b ys es h' hs'=>rw[pG]at c;rw[sY]at hd;refine DF I h hs h' hs' (by lia) fun j d1 d2 x y u v f1 f2 q1 q2 p1 p2=>?_;exact DH I 100 A.in1 q1 q2 p1 p2 (m7 c f1 f2) (cE (depDs_get f1) (by lia)) (by show A.units+ 1+ 100<cLine;lia)
 |@lst a xs ds h hs=>
  cases hy with
  |flat h=>exact absurd h eV
  |tup _ _=>simp[pG]at c
  |@lst b ys es h' hs'=>rw[sY]at hd;refine DG I h hs h' hs' (by lia) fun hl j d1 d2 x y u v f1 f2 q1 q2 p1 p2=>?_;rw[pG,gT hl]at c;exact DH I 100 A.in1 q1 q2 p1 p2 (m7 c f1 f2) (cE (depDs_get f1) (by lia)) (by show A.units+ 1+ 100<cLine;lia)
end
section
variable {X:Cx}
def yA {k:Nat} (hr:nL k X.A):OpR X (Lp .Eq) (G3 X.K false):=by intro pz s σ H x y v u Q I rx ry h;obtain⟨a,b,d,e,rfl,rfl,hx,hy,c,hd,q⟩:=h;cases rx;cases ry;have hu:=hr.un;exact(rcD I hx hy c hd (by lia)).1 _ _ _ _ ⟨.bl _,H,I,rfl,q⟩
def AW {k:Nat} (hr:nL k X.A):OpR X (Lp .NotEq) (G3 X.K true):=by intro pz s σ H x y v u Q I rx ry h;obtain⟨a,b,d,e,rfl,rfl,hx,hy,c,hd,q⟩:=h;cases rx;cases ry;have hu:=hr.un;exact(rcD I hx hy c hd (by lia)).2 _ _ _ _ ⟨.bl _,H,I,rfl,q⟩
end
def AX (P:Zu) (w:Zv) (K:Zp) (a:Zx) (kvs:List (Key×V)):Prop:=(a==Lz)=false/\∃vs,KV kvs vs/\∀h:Zt,K.In h->h.DictOf (jf P w) a vs
def yB {P:Zu} {w:Zv} {K:Zp} {a:Zx} {es:Array DictEntry} {n:Nat} {l:List (Str×Tok×Zx)} (ha:(a==Lz)=false) (hl:K.lookup a=some ⟨.type "dict",none,.dict es n,#[]⟩)
  (he:es.toList=l.map fun p=>⟨Lf w.params p.1,.str p.1 p.2.1,.ref p.2.2⟩) (hn:(l.map (·.1)).Nodup):AX P w K a (l.map fun p=>(Le p.1,V.ref p.2.2)):=by
 refine⟨ha,l.map fun p=>(Le p.1,Li p.2.2),?_,fun h hk=>?_⟩
 ·clear he hn
  induction l with
  |nil=>exact .nil
  |cons p r ih=>exact .cons ⟨rfl,rfl⟩ ih
 ·refine⟨_,es,n,hk _ _ hl,⟨rfl,rfl,rfl⟩,rfl,fun e hm=>?_,?_,?_⟩
  ·have hm':e∈es.toList:=by simpa using hm
   rw[he]at hm';obtain⟨p,_,rfl⟩:=bf.mp hm';exact⟨Le p.1,rq p.1 p.2.1,rfl⟩
  ·rw[he];clear he hn
   induction l with
   |nil=>exact .nil
   |cons p r ih=>exact .cons (rq p.1 p.2.1) rfl ih
  ·rw[bF];have e:(List.map ((fun(x:Key×Zz)=>x.1)∘fun(p:Str×Tok×Zx)=>((Le p.1:Key),Li p.2.2)) l)=(l.map (·.1)).map (Le:Str->Key):=by rw[bF];rfl
   rw[e];exact List.Pairwise.map _ (fun a b h z=>h (Mb z)) hn
def EK (a:Zx) (kvs:List (Key×V)) (ty td:TE):TE:=fun σ H Q=>ty σ H fun y H1=>td σ H1 fun x H2=>∃k,x= .ref a/\y=kV k/\Q (.bl (!(jH kvs k).isSome)) H2
def Ju (a:Zx) (kvs:List (Key×V)) (td ty:TE):TE:=fun σ H Q=>td σ H fun x H1=>ty σ H1 fun y H2=>∃k v,x= .ref a/\y=kV k/\jH kvs k=some v/\Q v H2
section
variable {X:Cx} {o i:Zr} {pos:Pos} {td ty:TE} {a:Zx} {kvs:List (Key×V)}
def AY (d:AX X.prog X.w X.K a kvs) (hi:PE X i ty) (ho:PE X o td):PC X .NotIn i o (EK a kvs ty td):=by intro pz s σ H Q I h;refine thn (hi pz s σ H _ I h) fun iv s1 ⟨y,H1,I1,ry,q1⟩=>thn (ho pz s1 σ H1 _ I1 q1) ?_;rintro u s2 ⟨x,H2,I2,rx,k,ex,ey,q2⟩;subst ex ey;obtain rfl:u=Li a:=rx;obtain⟨hs,vs,rel,dd⟩:=d;refine wpAny_notIn_of (uv ry) hs (dd _ I2.kIn).mapOf ?_;rw[<-(rel.val k).isSome_eq];exact⟨.bl _,H2,I2.tok _,rfl,q2⟩
def AZ (d:AX X.prog X.w X.K a kvs) (ho:PE X o td) (hi:PE X i ty) (hs:Ji i:=by exact fun _ _=>rfl):PE X (.Subscript o i pos) (Ju a kvs td ty):=by intro pz s σ H Q I h;refine AB eI.lookup hs (thn (ho pz s σ H _ I h) fun u s1 ⟨x,H1,I1,rx,q1⟩=>thn (hi pz s1 σ H1 _ I1 q1) ?_);rintro iv s2 ⟨y,H2,I2,ry,k,v,ex,ey,hv,q2⟩;subst ex ey;obtain rfl:u=Li a:=rx;obtain⟨_,vs,rel,dd⟩:=d;obtain⟨w',hw,rw'⟩:=um.some_of (v:=v) (o:=valueAt vs k) (by rw[<-hv];exact rel.val k);exact⟨(dd _ I2.kIn).typeIs,wpAny_getItem_of (uv ry) (dd _ I2.kIn).mapOf hw ⟨v,H2,I2.tok _,rw',q2⟩⟩
end
section
variable {X:Cx}
end
section
variable {X:Cx} {k:Nat} {f Y:Zx} {fd:Zs} {ps:Zd} {sp:Sp} {dvs:List V} {ds:List Zz} {x y n:Str} {p pos pos' py hpos tpos pn:Pos} {e:Zr} {es:List Zr} {t:TA} {b₀:Zq} {body:List Zq} {tb:TS} {i:Nat}
end
end L2.Internal
namespace L2.Internal
end L2.Internal
namespace L2.Internal
open PySem PySem.Spec PyProof.Rows
section
variable {X:Cx} {pz:Za} {σ:St} {H:Hp} {s:Zy} {h':Zt}
def Inv.turnedL {t':Nat} {ch:List Zx} (I:Inv X pz σ H s) (k:∀b o,b∉ch->s.heap.get? b=some o->h'.get? b=some o) (hf:∀b∈ch,wR X pz H b):Inv X pz σ H {s with heap:=h',toks:=t'}:=by
 have nit:∀b u,H b=some u->b∉ch:=fun b u e z=>by have q:=(hf b z).1;rw[q]at e;cases e
 refine I.step (g':=s.gens) (d':=s.drawn) (ch:=ch) (fun b hb=>?_) (fun b o _ _ hc e _=>k b o hc e) (fun b o _ _ hc e _=>⟨o.slots,k b o hc e⟩) (fun _ _ _ _ n=>n)
  (fun b o hc e=>⟨o,k b o hc e⟩) (fun _ _ e=>e) (fun _ _ _ e=>e) (fun b ps e=>⟨#[],by rw[e];simp⟩) (fun m hm=>?_) (fun b u e=>?_) I.bare;·obtain⟨_,f1,_,f3,f4,f5⟩:=hf b hb;exact⟨f3,f1,f4,f5⟩
 ·obtain⟨o,es,ep,ho,r⟩:=hm;exact⟨o,es,ep,k _ o (fun z=>(hf _ z).2.1 rfl) ho,r⟩
 ·refine(I.hok b u e).stay (fun c v hc q=>k c v ?_ q) (fun _ q=>q) fun _ _ q=>q;rcases hc with z|z;·rw[z];exact nit b u e
  ·exact nit c _ z
def Inv.pairNew {T:Zx} {h:Zt} {tk:Nat} {ux uy:Zz} {x y:V} (I:Inv X pz σ H s) (hT:s.heap.objs.size<=T) (J:Inv X pz σ H {s with heap:=h,toks:=tk}) (ht:yp h T #[ux,uy]) (rx:iQ x ux) (ry:iQ y uy):
  H T=none/\Inv X pz σ (upd H T (.tup [x,y])) {s with heap:=h,toks:=tk}:=by
 have f:=I.fpOk (H':=H) hT (I.hok.fresh hT);refine⟨f.1,J.track f.1 ?_ f.2.1 f.2.2.2.2.1 f.2.2.2.2.2 ⟨by show 2<=sizeLine;decide,[ux,uy],.cons rx (.cons ry .nil),ht⟩⟩
 cases q:X.s₀.heap.get? T with
 |none=>rfl
 |some o=>exact absurd (cB (fC q) (cE I.sz hT)) (cC _)
end
def G4:Lm "zip"=some (.type "zip"):=gA
def v5:Lm "enumerate"=some (.type "enumerate"):=gA
def SqL.old {X:Cx} {pz:Za} {σ:St} {H:Hp} {s:Zy} {a:Zx} {xs:List V} (I:Inv X pz σ H s) (h:SqL X.K H a xs):a<s.heap.objs.size:=by obtain⟨its,_,p,_⟩:=I.list h;obtain⟨o,e,_⟩:=p.isList;exact fC e
section
variable {X:Cx}
end
def Ite (K:Zp) (a:Zx):It:=
 ⟨fun i H=>∃xs x,SqL K H a xs/\xs[i]?=some x,
   fun i H v H'=>∃T x,v= .ref T/\H T=none/\H'=upd H T (.tup [.int (i:Int),x])/\∀xs,SqL K H a xs->xs[i]?=some x,
   fun i H=>∃xs,SqL K H a xs/\i=xs.length⟩
def ESt (e it a:Zx) (i:Nat) (h:Zt):Prop:=(∃old,IsEnum h e it i old)/\h.IsListIter it a i
def A1 {P:Zu} {w:Zv} {K:Zp} {es:List Zr} {kk:Nat} {tp:Pos} {a e it:Zx} (h1:e≠it) (h2:a≠e) (h3:a≠it):Du P w K (.Tuple es kk tp) (Ite K a) [e,it] e (ESt e it a) where
 mem:=by simp
 obj:=fun i h st c hc=>by
  obtain⟨⟨old,g1⟩,⟨o4,g4,_,d4⟩⟩:=st;simp only[ak,bG,or_false]at hc;rcases hc with q|q<;>subst q;·exact⟨_,g1,fun v q=>nomatch q⟩
  ·exact⟨_,g4,fun v q=>by rw[d4]at q;cases q⟩
 keep:=fun i h h' st k=>by obtain⟨⟨old,g1⟩,g4⟩:=st;exact⟨⟨old,k e (by simp) _ g1⟩,g4.at fun o q=>k it (by simp) o q⟩
 item:=by
  intro X hP hw hK hc i pz s σ H E I hf st hg;subst hP hw hK;obtain⟨xs,x,qx,ex⟩:=hg;obtain⟨i1s,r1,p1,z1⟩:=I.list qx;obtain⟨g1,g4⟩:=st;obtain⟨old,g1'⟩:=g1;obtain⟨ux,hux,rr1⟩:=r1.get ex;have lte:e<s.heap.objs.size:=fC g1';refine wpAny_pyNext_enum_item g1' g4 p1.isList (x:=ux) (by simpa using hux) h1 fun k1 ho hit' hT hsz hk=>?_;have kk1:∀c o,c∉[e,it]->s.heap.get? c=some o->k1.get? c=some o:=fun c o hc q=>hk c o (fun z=>hc (by simp[z])) (fun z=>hc (by simp[z])) q;have J1:Inv X pz σ H {s with heap:=k1,toks:=s.toks+ 1}:=I.turnedL kk1 hf;refine⟨.ref s.heap.objs.size,rfl,wpAny_letOwnedTupleGo_enum ho fun k2 he' sb=>?_⟩;have J2:Inv X pz σ H {s with heap:=k2,toks:=s.toks+ 1}:=Inv.turnedL (s:={s with heap:=k1,toks:=s.toks+ 1}) (h':=k2) (t':=s.toks+ 1) (ch:=[e]) J1 (fun c o hc q=>(sb.2 c (fun z=>hc (by simp[z]))).trans q) fun c hc=>hf c (by simp only[ak,bG,or_false]at hc⊢;simp[hc]);have ht2:yp k2 s.heap.objs.size #[.int i s.toks,ux]:=⟨_,(sb.2 _ (cG lte)).trans hT,rfl,_,rfl,rfl⟩;obtain⟨fT,J3⟩:=I.pairNew (x:= .int (i:Int)) (cH _) J2 ht2 ⟨s.toks,rfl⟩ rr1;refine⟨.ref s.heap.objs.size,_,J3,rfl,⟨_,x,rfl,fT,rfl,fun l hl=>by rw[I.list_inj hl qx];exact ex⟩,⟨⟨_,by simpa using he'⟩,hit'.at fun o y=>(sb.2 it h1.symm).trans y⟩,fun c hc=>?_⟩;rw[f9 (fun q=>?_)];·exact(hf c hc).1
  ·have lt:c<s.heap.objs.size:=by
    obtain⟨o4,e4,_⟩:=g4;simp only[ak,bG,or_false]at hc;rcases hc with q|q<;>subst q;·exact lte
    ·exact fC e4
   exact absurd lt (by rw[q];exact cC _)
 done:=by
  intro X hP hw hK hc i pz s σ H E I hf st hg;subst hP hw hK;obtain⟨xs,qx,ei⟩:=hg;obtain⟨i1s,r1,p1,z1⟩:=I.list qx;obtain⟨g1,g4⟩:=st;have W:=WalksT.enumerate (prog:=X.prog) (w:=X.w) (I.ok.hd hc) e it a h1 h2 h3 i1s.toArray;have l1:=r1.length;have q:i=i1s.toArray.size:=by simp only[aW];lia
  subst q;exact W.done s _ _ ⟨g1,g4,p1.isList⟩ fun h1 tk hk=>⟨rfl,I.turnedL hk hf⟩
 self:=fun _ _ _ _ _ st h=>by obtain⟨⟨old,g1⟩,_⟩:=st;exact wpAny_pyIter_enum g1 h
def Jv (K:Zp) (ta:TA):TI:=fun σ H R=>ta σ H fun vs H1=>∃a,vs=[.ref a]/\(∃xs,SqL K H1 a xs)/\R (Ite K a) H1
section
variable {X:Cx}
def A2 {es:List Zr} {kk:Nat} {tp:Pos} {a:Zr} {ta:TA} {p pos:Pos} (hg:Gl X "enumerate") (hm:X.mg "enumerate"=none) (ha:PA X [a] ta) (hs:autoParam (Lg [a] X.env=[(false,eval a X.env)]) auR._auto_1):
  PI X (.Tuple es kk tp) (.Call (.Name "enumerate" p) [a] [] pos) (Jv X.K ta):=by
 intro pz s σ H R I h;refine Call_ (ph I hg hm v5 (fJ (thn (ha pos pz s σ H _ I h) ?_) hs rfl));rintro us s1 ⟨vs,H1,I1,r1,q1⟩;obtain⟨l1,e,⟨xs,q1⟩,q⟩:=q1;subst e;obtain⟨u,rfl,ru⟩:=my r1;cases ru;obtain⟨i1s,w1,p1,z1⟩:=I1.list q1;have o1:@LT.lt Nat _ l1 s1.heap.objs.size:=SqL.old I1 q1;refine call_enumerate_list p1.isList fun h1 hE hi1 hsz hk=>wpAny_pyIter_enum hE ?_;refine⟨_,_,_,_,H1,rfl,I1.kept (t':=s1.toks) hk,A1 (fun(h:@Eq Nat _ _)=>by lia) (fun(h:@Eq Nat _ _)=>by lia) (fun(h:@Eq Nat _ _)=>by lia),⟨⟨_,hE⟩,hi1⟩,fun c hc=>?_,q⟩;have ge:s1.heap.objs.size<=c:=by simp only[ak,bG,or_false]at hc;rcases hc with h|h<;>rw[h]<;>first|exact cH _|exact Nat.le_add_right _ _
 exact I1.fpOk ge (I1.hok.fresh ge)
end
def LcG (J:It) (g:TG) (te:TE) (Q:VK) (τ:St) (H1:Hp) (D:Zx):Prop:=
 ∃W:Nat->Nat->St->Hp->Prop,(∃m,W 0 m τ (upd H1 D (.lst [])))/\∀k m σ' H2,W k m σ' H2->
  (J.stop k H2/\Q (.ref D) H2)\/(J.go k H2/\∀v H3,J.yld k H2 v H3->g v σ' H3 fun σ4 H4=>te σ4 H4 fun y H5=>∃xs,H5 D=some (.lst xs)/\xs.length<sizeLine/\∃m',m'<m/\W (k+ 1) m' σ4 (upd H5 D (.lst (xs++[y]))))
def tLG (wi:TI) (f:St->St) (g:TG) (te:TE):TE:=fun σ H Q=>wi σ H fun J H1=>∀D,H1 D=none->LcG J g te Q (f σ) H1 D
def Jw {X:Cx} {scope:Scope} {x y:Str} (hk:scope.kind= .function) (hn:∀p∈scope.names,p.2≠ .cell/\p.2≠ .free) (hl:∀y∈scope.names,y.2= .local->scope.names.lookup y.1=some .local)
  (hx:scope.names.lookup x=some .local) (hxy:[x,y].Nodup) (hc:L9 scope X.env=pure []):pX X [x,y] scope [] (fun _=>[none,none]) 0 x where
 kind:=hk
 cell:=fun y hy=>(hn y hy).1
 names:=hl
 clos:=hc
 lk:=fun y c h=>by simp at h
 has:=fun y h=>by
  rcases h with h|h
  ·obtain⟨k0,e,z⟩:=hV h;have m:=hn _ (Lj e);rcases z with z|⟨z,_⟩;·exact absurd z.symm m.1
   ·exact absurd z m.2
  ·obtain⟨k0,e,z⟩:=hV h;have m:=hn _ (Lj e);rcases z with z|⟨z,_⟩;·exact absurd z.symm m.2
   ·exact absurd z m.2
 nd:=hxy
 ix:=rfl
 loc:=hx
 len:=fun _ _=>rfl
 val:=fun σ k y v h1 h2=>by
  match k with
  |0=>simp at h2
  |1=>simp at h2
  |k+ 2=>simp at h2
theorem pZ {z:Str}:∀{cap:List (Str×Nat×Zx)},z∈cap.map (·.1)->∃c,(cap.map fun p=>(p.1,p.2.2)).lookup z=some c
 |[],h=>by simp at h
 |p::r,h=>by
  cases e:z==p.1 with
  |true=>exact⟨p.2.2,by simp only[aC,bp,e]⟩
  |false=>
   have q:z∈r.map (·.1):=by
    rcases ak.mp h with y|y;·rw[y]at e;simp at e
    ·exact y
   obtain⟨c,hc⟩:=pZ q;exact⟨c,by simp only[aC,bp,e];exact hc⟩
def blkC {X:Cx} {scope:Scope} {x:Str} (ns:Zd) (cap:List (Str×Nat×Zx)) (hns:cap.map (·.1)=ns) (hk:scope.kind= .function) (hn:∀p∈scope.names,p.2≠ .cell/\(p.2= .free->p.1∈ns)) (hl:∀y∈scope.names,y.2= .local->scope.names.lookup y.1=some .local)
  (hx:scope.names.lookup x=some .local) (hnd:(x::ns).Nodup) (hc:L9 scope X.env=pure (cap.map fun p=>(p.1,p.2.2))) (hok:X.env.scope.kind= .function)
  (h:∀p∈cap,scope.names.lookup p.1=some .free/\X.env.cells.lookup p.1=some p.2.2/\X.env.scope.names.lookup p.1=some .cell/\X.N[p.2.1]?=some p.1):
  pX X (x::ns) scope (cap.map fun p=>(p.1,p.2.2)) (fun σ=>none::cap.map fun p=>σ.getD p.2.1 none) 0 x where
 kind:=hk
 cell:=fun y hy=>(hn y hy).1
 names:=hl
 clos:=hc
 lk:=fun z c q=>by have m:=Lj q;obtain⟨p,hp,e⟩:=bf.mp m;cases e;exact(h p hp).2.1
 has:=fun z q=>by
  refine pZ ?_;rw[hns];rcases q with q|q
  ·obtain⟨k0,e,q⟩:=hV q;have m:=hn _ (Lj e);rcases q with q|⟨q,_⟩;·exact absurd q.symm m.1
   ·exact m.2 q
  ·obtain⟨k0,e,q⟩:=hV q;have m:=hn _ (Lj e);rcases q with q|⟨q,_⟩;·exact m.2 q.symm
   ·exact m.2 q
 nd:=hnd
 ix:=rfl
 loc:=hx
 len:=fun _ _=>by simp[<-hns]
 val:=fun σ k z v h1 h2=>by
  cases k with
  |zero=>simp at h2
  |succ k=>
   rw[<-hns,bH,aO]at h1;rw[bH,aO]at h2
   cases e:cap[k]? with
   |none=>rw[e]at h1;cases h1
   |some p=>
    rw[e]at h1 h2;have ez:p.1=z:=dm.inj h1;have ev:σ.getD p.2.1 none=some v:=dm.inj h2;subst ez;obtain⟨a1,a2,a3,a4⟩:=h p (aP e);rw[bq]at ev;refine⟨p.2.1,a4,?_,a3,iW hok a3 a1⟩
    cases q:σ[p.2.1]? with
    |none=>rw[q]at ev;cases ev
    |some o=>rw[q]at ev;exact congrArg some ev
section
variable {X:Cx}
end
section
variable {X:Cx} {CX:CXT} {k:Nat} {f C:Zx} {fd:Zs} {ps:Zd} {sp:Sp} {dvs:List V} {ds:List Zz} {E:XK} {m:Str} {pos apos:Pos} {e o:Zr} {es:List Zr} {t:TA}
end
section
variable {X:Cx}
def G5:Lm "max"=some (.builtin "max"):=gA
def v7 (hc:X.calm=true):nQ X (.builtin "sum") (fun xs H Q=>∃(a:Zx) (ns:List Int),xs=[.ref a]/\SqL X.K H a (ns.map V.int)/\∀n,Q (.int n) H):=by intro pz s σ H xs us Q I r h;obtain⟨a,ns,rfl,hq,q⟩:=h;obtain⟨u,rfl,ru⟩:=my r;cases ru;obtain⟨its,rv,p,hz⟩:=I.list hq;obtain⟨zs,e⟩:=(zx rv).allInts.items;have l:=p.isList;rw[e]at l;exact sum_intListG (I.ok.hd hc) l fun h' tk t' hk=>⟨.int _,H,I.kept (t':=tk) hk,⟨_,rfl⟩,q _⟩
end
def CH {X:Cx} {elt iter:Zr} {x y:Str} {j:Nat} {py spos:Pos} {px:Pos} {ifs:List Zr} {scope:Scope} {pos:Pos} {N:Zd} {cl:List (Str×Zx)} {f:St->St} {i:Nat} {wi:TI} {tt:TT} {te:TE}
  (hc:X.calm=true) (B:pX X N scope cl f i x) (hi:PI X (.Name x px) iter wi)
  (htt:∀C s₀ H₀ ex pz,PTs (blk X N scope cl C s₀ H₀ ex pz) ifs tt) (hte:∀C s₀ H₀ ex pz,PE (blk X N scope cl C s₀ H₀ ex pz) elt te)
  (hN:X.N.Nodup) (hj:X.N[j]?=some y) (hy:Loc X.env.scope y) (hsw:autoParam (Ml (.ListComp elt [⟨.Name x px,iter,ifs,0⟩] scope pos) (some (.Name y py)) spos.line X.env=pure true) auR._auto_1) (hs:autoParam (∀x,LY iter X.env x=pure x) auI._auto_1)
  (hf:autoParam (X.fn y=true\/X.env.scope.names.lookup y=some .local) auL._auto_1):PS X (.Assign [.Name y py] (.ListComp elt [⟨.Name x px,iter,ifs,0⟩] scope pos) spos) (El (tLC wi f i tt te) (gP j)):=by
 intro pz s σ H En I h;rw[exec_Assign_Name_used _ _ _ _ hsw];refine C5 (wpAny_standAt (C5 ?_));show La _ X.A (do let _<-comprehension (.ListComp elt [⟨.Name x px,iter,ifs,0⟩] scope pos) scope X.env _ (newList []) false (eval iter X.env) (some (assign (.Name y py) X.env))) _ _ s;refine C5 (Ll (AU (Qp:=fun _ s'=>SP X pz En .next s') hc B hi htt hte hs I h fun fl s3 s6 H3 H5 d m6 I3 I7 fr hn6 qn=>?_) (fun _ s' hq=>Lb (Lb hq)) fun _ _ e=>e);obtain⟨oC,es,ep,hoC,hdC,hkC⟩:=id hn6;have hCL:s3.heap.objs.size≠X.env.locals:=cG I3.lt;have I8:Inv X (pz++[(s3.heap.objs.size,oC)]) σ H5 s6:=I7.pins_of fun p hp=>(ao.mp hp).elim (fun z=>I7.pin p (ax _ z)) fun z=>by
  have ez:p=(s3.heap.objs.size,oC):=by simpa using z
  subst ez;exact⟨hoC,fr,hCL,I3.nofs (cH _),fun v q=>by rw[hdC]at q;cases q⟩
 show La _ X.A (assign (.Name y py) X.env (.ref d)) _ _ s6;refine Mz (nG (X:=X) I8 hN hj hy (v:= .ref d) rfl (fun s7 I9=>?_) hf);have pC:=I9.pin (s3.heap.objs.size,oC) (ax _ (ax _ (by simp)));refine⟨m6,⟨oC,es,ep,pC.1,hdC,hkC⟩,fun h' sb=>?_⟩;refine⟨σ.set j (some (.ref d)),H5,?_,qn⟩;exact Inv.turned (h':=h') (t':=s7.toks) (it:=s3.heap.objs.size) I9.unpinned (fun b o hb e=>(sb.2 b hb).trans e) pC.2.1 hCL (.inr I3.sz) (fun z c e q=>by obtain⟨v,q2⟩:=I3.cell z c e;exact absurd (q▸q2.lt) (cC _)) fun p hp q=>absurd (q▸fC (I3.pin p hp).1) (cC _)
section
variable {prog:Zu} {w:Zv} {A:Zw} {E:Zb} {s:Zy}
def G6 {j t:Zx} {i:Nat} {its} {x:Zz} {Q:Zb} (g:s.heap.IsTupleIter j t i) (d:s.heap.IsTuple t its) (e:its[i]?=some x)
  (k:∀h',h'.IsTupleIter j t (i+ 1)->Mj j s.heap h'->Q x {s with heap:=h'}):La (model prog w) A (Ln (.ref j)) Q E s:=by obtain⟨og,gg,gc,gd⟩:=id g;obtain⟨od,dd,_,dn,de⟩:=d;unfold Ln;refine C5 (LN (name:=Mp "__next__") g.typeIs LX (L8 LX g.typeIs F.entry_tuple_iterator_next ?_ (F.args_tuple_iterator_next_1 _)));show La _ _ (field (.ref j) 0 >>= _) _ _ s;refine C5 (Lu gg gd (x:= .ref t) rfl ?_);show La _ _ (if(Li t==LQ)=true then _ else _) _ _ s;rw[gN (show ¬((Li t==LQ)=true)from fun q=>nomatch q)];show La _ _ (field (.ref j) 1 >>= _) _ _ s;refine C5 (Lu gg gd (x:= .int i 0) rfl ?_);refine C5 (Lw dd de ?_);simp only[fj,e];refine C5 (wpAny_setField gg gd (by simp) (Lb ⟨x,rfl,Lb (k _ ?_ (Heap.SameBut.update ..))⟩));exact⟨_,fG _ gg (Obj.isFreed_of_fields (Obj.data_mapFields gd _)),(Obj.cls_mapFields ..).trans gc,by rw[Obj.data_mapFields gd];simp[rawInt]⟩
def zE {j t:Zx} {i:Nat} {its} {Q:Zb} (hh:A.handled=none) (g:s.heap.IsTupleIter j t i) (d:s.heap.IsTuple t its) (e:its[i]?=none)
  (k:∀h' x,Heap.ExtBut j s.heap h'->(∃o,h'.get? x=some o/\o.cls= .type "StopIteration")->E (.ref x) {s with heap:=h'}):La (model prog w) A (Ln (.ref j)) Q E s:=by
 obtain⟨og,gg,gc,gd⟩:=id g;obtain⟨od,dd,_,dn,de⟩:=d;unfold Ln;refine C5 (LN (name:=Mp "__next__") g.typeIs LX (L8 LX g.typeIs F.entry_tuple_iterator_next ?_ (F.args_tuple_iterator_next_1 _)));show La _ _ (field (.ref j) 0 >>= _) _ _ s;refine C5 (Lu gg gd (x:= .ref t) rfl ?_);show La _ _ (if(Li t==LQ)=true then _ else _) _ _ s;rw[gN (show ¬((Li t==LQ)=true)from fun q=>nomatch q)];show La _ _ (field (.ref j) 1 >>= _) _ _ s;refine C5 (Lu gg gd (x:= .int i 0) rfl ?_);refine C5 (Lw dd de ?_);simp only[fj,e];refine C5 (wpAny_rule (C5 (wpAny_setField gg gd (by simp) ?_)));show La _ _ (newExc (.type "StopIteration") [] >>= _) _ _ _;refine C5 ?_;simp only[newExc,newTuple];refine C5 (LC ?_ (by size_fits));refine C5 (m:=firstArgMember _ _) (wpAny_of_eq (a:=LQ) (by first|rfl|(unfold firstArgMember;rfl)) ?_);refine LC ?_ (by size_fits);simp only[raiseNew];refine C5 (wpAny_handled ?_);first|rw[hh]|rw[show A.in1.handled=none from hh]
 exact C5 (Lb (wpAny_throw (k _ _ (((Heap.SameBut.update ..).extBut.push _).push _) ⟨_,fD _ rfl,rfl⟩)))
end
def SqT.old {X:Cx} {pz:Za} {σ:St} {H:Hp} {s:Zy} {a:Zx} {xs:List V} (I:Inv X pz σ H s) (h:SqT X.K H a xs):a<s.heap.objs.size:=by obtain⟨its,_,p,_⟩:=I.tuple h;obtain⟨o,e,_⟩:=p;exact fC e
def SI (c:String) (h:Zt) (j t:Zx) (i:Nat):Prop:=∃o,h.get? j=some o/\o.cls= .type c/\o.data= .fields #[.ref t,.int i 0]
def SI.extBut {c:String} {h h':Zt} {j b t:Zx} {i:Nat} (g:SI c h j t i) (e:Heap.ExtBut b h h') (n:j≠b):SI c h' j t i:=let⟨o,e1,r⟩:=g;⟨o,e _ _ n e1,r⟩
structure Sk where
 it:String
 S:Zt->Zx->Array Zz->Prop
 Sq:Zp->Hp->Zx->List V->Prop
 ext:∀{h h':Zt} {a b:Zx} {xs:Array Zz},S h a xs->Heap.ExtBut b h h'->a≠b->S h' a xs
 push:∀{h:Zt} {a:Zx} {xs:Array Zz},S h a xs->∀o,S (h.push o) a xs
 nx:∀{prog:Zu} {w:Zv} {A:Zw} {E:Zb} {s:Zy} {j t:Zx} {i:Nat} {its:Array Zz} {x:Zz} {Q:Zb},SI it s.heap j t i->S s.heap t its->its[i]?=some x->(∀h',SI it h' j t (i+ 1)->Mj j s.heap h'->Q x {s with heap:=h'})->La (model prog w) A (Ln (.ref j)) Q E s
 ne:∀{prog:Zu} {w:Zv} {A:Zw} {E:Zb} {s:Zy} {j t:Zx} {i:Nat} {its:Array Zz} {Q:Zb},A.handled=none->SI it s.heap j t i->S s.heap t its->its[i]?=none->(∀h' x,Heap.ExtBut j s.heap h'->(∃o,h'.get? x=some o/\o.cls= .type "StopIteration")->E (.ref x) {s with heap:=h'})->La (model prog w) A (Ln (.ref j)) Q E s
 iter:∀{prog:Zu} {w:Zv} {A:Zw} {E:Zb} {s:Zy} {t:Zx} {its:Array Zz} {Q:Zb},S s.heap t its->Q (.ref s.heap.objs.size) {s with heap:=s.heap.push {cls:= .type it,data:= .fields #[.ref t,.int 0 0]}}->La (model prog w) A (pyIter (.ref t)) Q E s
 inv:∀{X:Cx} {pz:Za} {σ:St} {H:Hp} {s:Zy} {a:Zx} {xs:List V},Inv X pz σ H s->Sq X.K H a xs->∃its,iR xs its/\S s.heap a its.toArray/\xs.length<=sizeLine
 inj:∀{X:Cx} {pz:Za} {σ:St} {H:Hp} {s:Zy} {a:Zx} {xs ys:List V},Inv X pz σ H s->Sq X.K H a xs->Sq X.K H a ys->xs=ys
 old:∀{X:Cx} {pz:Za} {σ:St} {H:Hp} {s:Zy} {a:Zx} {xs:List V},Inv X pz σ H s->Sq X.K H a xs->a<s.heap.objs.size
def tS:Sk:=⟨"tuple_iterator",Heap.IsTuple,SqT,fun a b c=>a.extBut b c,fun a o=>a.push o,fun a b c d=>G6 a b c d,fun a b c d e=>zE a b c d e,fun a b=>wpAny_pyIter_tuple a b,fun I q=>I.tuple q,fun I a b=>I.tuple_inj a b,fun I q=>SqT.old I q⟩
def lS:Sk:=⟨"list_iterator",Heap.IsList,SqL,fun a b c=>a.extBut b c,fun a o=>a.push o,fun a b c d=>wpAny_nextOf_list_item a b c d,fun a b c d e=>wpAny_nextOf_list_end a b c d e,fun a b=>MA a b,fun I q=>let⟨its,r,p,z⟩:=I.list q;⟨its,r,p.isList,z⟩,fun I a b=>I.list_inj a b,fun I q=>SqL.old I q⟩
section
variable {prog:Zu} {w:Zv} {A:Zw} {E:Zb} {s:Zy}
def EM {u1 u2:Sk} {z TI TO j1 j2 t1 t2:Zx} {k1 k2:Nat} {xs ys:Array Zz} {x y a b:Zz} {Q:Zb} (D:ZipApart z TI TO j1 j2 t1 t2)
  (gz:IsZip s.heap z TI TO .none) (gI:LG s.heap TI (.ref j1) (.ref j2)) (gO:LG s.heap TO a b)
  (g1:SI u1.it s.heap j1 t1 k1) (g2:SI u2.it s.heap j2 t2 k2) (d1:u1.S s.heap t1 xs) (d2:u2.S s.heap t2 ys) (ex:xs[k1]?=some x) (ey:ys[k2]?=some y)
  (k:∀h',IsZip h' z TI TO (rawInt s.heap.objs.size)->LG h' TO x y->SI u1.it h' j1 t1 (k1+ 1)->SI u2.it h' j2 t2 (k2+ 1)->LG h' s.heap.objs.size x y->h'.objs.size=s.heap.objs.size+ 1->
   (∀c o,c≠z->c≠TO->c≠j1->c≠j2->s.heap.get? c=some o->h'.get? c=some o)->Q (.ref s.heap.objs.size) {s with heap:=h'}):
  La (model prog w) A (Builtin.«zip.__next__» ⟨[.ref z],[]⟩) (fun fin s'=>∃v,fin= .done (.ret v)/\Q v s') E s:=by
 show La _ _ (field (.ref z) 2 >>= _) _ _ _;refine C5 (Lu gz rfl (x:= .bool false) rfl ?_);show La _ _ (field (.ref z) 3 >>= _) _ _ _;refine C5 (Lu gz rfl (x:= .ref TI) rfl ?_);refine C5 (Lw gI rfl ?_);show La _ _ (LB (.ref z) >>= _) _ _ _;refine C5 ?_;unfold LB;refine C5 (Lu gz rfl (x:= .none) rfl (Lb ?_));simp only[if_true];refine C5 (wpAny_rule (C5 (Lu gz rfl (x:= .ref TO) rfl ?_)));refine C5 (LR gz (by simp) fun q1 gz1 b1=>?_);replace gz1:IsZip q1 z TI TO .ellipsis:=gz1;refine C5 ?_;simp only[List.zipIdx_cons,List.zipIdx_nil,List.forIn_cons,List.forIn_nil];refine C5 (C5 (wpAny_onRaise ?_));show La _ _ (Ln (.ref j1) >>= _) _ _ _;refine C5 (u1.nx (g1.extBut b1.extBut D.i1z) (u1.ext d1 b1.extBut D.l1z) ex fun q2 g12 b2=>Lb ?_);have gO2:LG q2 TO a b:=b2.extBut _ _ D.TOi1 (b1.extBut _ _ D.TOz gO);refine C5 (Lw gO2 rfl (C5 (wpAny_updateSeq_pair gO2 fun q3 gO3 b3=>?_)));replace gO3:LG q3 TO x b:=gO3;refine C5 (wpAny_letGo (Lb (C5 (C5 (wpAny_onRaise ?_)))));show La _ _ (Ln (.ref j2) >>= _) _ _ _;refine C5 (u2.nx (((g2.extBut b1.extBut D.i2z).extBut b2.extBut D.i12.symm).extBut b3.extBut D.TOi2.symm) (u2.ext (u2.ext (u2.ext d2 b1.extBut D.l2z) b2.extBut D.l2i1) b3.extBut D.l2TO) ey fun q4 g24 b4=>Lb ?_);have gO4:LG q4 TO x b:=b4.extBut _ _ D.TOi2 gO3;refine C5 (Lw gO4 rfl (C5 (wpAny_updateSeq_pair gO4 fun q5 gO5 b5=>?_)));replace gO5:LG q5 TO x y:=gO5;refine C5 (wpAny_letGo (Lb (Lb (C5 (Lw gO5 rfl (C5 (wpAny_newTuple ?_)))))));have sz:q5.objs.size=s.heap.objs.size:=by rw[b5.1,b4.1,b3.1,b2.1,b1.1]
 have gz5:IsZip q5 z TI TO .ellipsis:=b5.extBut _ _ D.TOz.symm (b4.extBut _ _ D.i2z.symm (b3.extBut _ _ D.TOz.symm (b2.extBut _ _ D.i1z.symm gz1)));have kp5:∀c o,c≠z->c≠TO->c≠j1->c≠j2->s.heap.get? c=some o->q5.get? c=some o:=fun c o n1 n2 n3 n4 e=>
  b5.extBut _ _ n2 (b4.extBut _ _ n4 (b3.extBut _ _ n2 (b2.extBut _ _ n3 (b1.extBut _ _ n1 e))));have g15:SI u1.it q5 j1 t1 (k1+ 1):=((g12.extBut b3.extBut D.TOi1.symm).extBut b4.extBut D.i12).extBut b5.extBut D.TOi1.symm;have g25:SI u2.it q5 j2 t2 (k2+ 1):=g24.extBut b5.extBut D.TOi2.symm;have zlt:z<q5.objs.size:=fC gz5;show La _ _ (Builtin.SmallTypes.ownedTupleHandOut (.ref z) (.ref q5.objs.size) >>= _) _ _ _;refine C5 ?_;unfold Builtin.SmallTypes.ownedTupleHandOut;have gz6:IsZip (q5.push {cls:= .type "tuple",data:= .seq #[x,y]}) z TI TO .ellipsis:=fE _ gz5;refine C5 (LR gz6 (by simp) fun q7 gz7 b7=>?_);replace gz7:IsZip q7 z TI TO (rawInt q5.objs.size):=gz7;refine LR gz7 (by simp) fun q8 gz8 b8=>?_;replace gz8:IsZip q8 z TI TO (rawInt q5.objs.size):=gz8;have up:∀c o,c≠z->q5.get? c=some o->q8.get? c=some o:=fun c o n1 e=>b8.extBut _ _ n1 (b7.extBut _ _ n1 (fE _ e));have gT8:LG q8 q5.objs.size x y:=b8.extBut _ _ (cG zlt) (b7.extBut _ _ (cG zlt) (fD _ rfl));have sz8:q8.objs.size=q5.objs.size+ 1:=by rw[b8.1,b7.1,fF]
 rw[sz]at gz8 gT8 sz8;refine Lb ⟨_,rfl,?_⟩;show Q (.ref q5.objs.size) _;rw[sz];refine k q8 gz8 (up _ _ D.TOz gO5) ?_ ?_ gT8 sz8 fun c o n1 n2 n3 n4 e=>up c o n1 (kp5 c o n1 n2 n3 n4 e);·obtain⟨o,e,r⟩:=g15;exact⟨o,up _ o D.i1z e,r⟩
 ·obtain⟨o,e,r⟩:=g25;exact⟨o,up _ o D.i2z e,r⟩
def G7 {u1 u2:Sk} {z TI TO j1 j2 t1 t2:Zx} {k1 k2:Nat} {xs ys:Array Zz} {a b:Zz} {Q:Fin->Zy->Prop} (hh:A.handled=none) (D:ZipApart z TI TO j1 j2 t1 t2)
  (gz:IsZip s.heap z TI TO .none) (gI:LG s.heap TI (.ref j1) (.ref j2)) (gO:LG s.heap TO a b)
  (g1:SI u1.it s.heap j1 t1 k1) (g2:SI u2.it s.heap j2 t2 k2) (d1:u1.S s.heap t1 xs) (d2:u2.S s.heap t2 ys) (hend:xs[k1]?=none\/ys[k2]?=none)
  (k:∀h' e,(∀c o,c≠z->c≠TO->c≠j1->c≠j2->s.heap.get? c=some o->h'.get? c=some o)->(∃o,h'.get? e=some o/\o.cls= .type "StopIteration")->E (.ref e) {s with heap:=h'}):
  La (model prog w) A (Builtin.«zip.__next__» ⟨[.ref z],[]⟩) Q E s:=by
 show La _ _ (field (.ref z) 2 >>= _) _ _ _;refine C5 (Lu gz rfl (x:= .bool false) rfl ?_);show La _ _ (field (.ref z) 3 >>= _) _ _ _;refine C5 (Lu gz rfl (x:= .ref TI) rfl ?_);refine C5 (Lw gI rfl ?_);show La _ _ (LB (.ref z) >>= _) _ _ _;refine C5 ?_;unfold LB;refine C5 (Lu gz rfl (x:= .none) rfl (Lb ?_));simp only[if_true];refine C5 (wpAny_rule (C5 (Lu gz rfl (x:= .ref TO) rfl ?_)));refine C5 (LR gz (by simp) fun q1 gz1 b1=>?_);replace gz1:IsZip q1 z TI TO .ellipsis:=gz1;refine C5 ?_;simp only[List.zipIdx_cons,List.zipIdx_nil,List.forIn_cons,List.forIn_nil];refine C5 (C5 (wpAny_onRaise ?_));show La _ _ (Ln (.ref j1) >>= _) _ _ _
 cases ex:xs[k1]? with
 |none=>
  refine C5 (u1.ne hh (g1.extBut b1.extBut D.i1z) (u1.ext d1 b1.extBut D.l1z) ex fun q2 e b2 he=>?_);obtain⟨oe,hoe,hce⟩:=he;have gz2:IsZip q2 z TI TO .ellipsis:=b2 _ _ D.i1z.symm gz1;have nz:e≠z:=fun q=>by subst q;rw[gz2]at hoe;cases hoe;simp at hce
  refine LR gz2 (by simp) fun q3 _ b3=>k q3 e (fun c o n1 _ n3 _ q=>b3.extBut _ _ n1 (b2 _ _ n3 (b1.extBut _ _ n1 q))) ⟨oe,b3.extBut _ _ nz hoe,hce⟩
 |some x=>
  have ey:ys[k2]?=none:=hend.elim (fun q=>by rw[ex]at q;cases q) id;refine C5 (u1.nx (g1.extBut b1.extBut D.i1z) (u1.ext d1 b1.extBut D.l1z) ex fun q2 g12 b2=>Lb ?_);have gO2:LG q2 TO a b:=b2.extBut _ _ D.TOi1 (b1.extBut _ _ D.TOz gO);refine C5 (Lw gO2 rfl (C5 (wpAny_updateSeq_pair gO2 fun q3 gO3 b3=>?_)));refine C5 (wpAny_letGo (Lb (C5 (C5 (wpAny_onRaise ?_)))));show La _ _ (Ln (.ref j2) >>= _) _ _ _;refine C5 (u2.ne hh (((g2.extBut b1.extBut D.i2z).extBut b2.extBut D.i12.symm).extBut b3.extBut D.TOi2.symm) (u2.ext (u2.ext (u2.ext d2 b1.extBut D.l2z) b2.extBut D.l2i1) b3.extBut D.l2TO) ey fun q4 e b4 he=>?_);obtain⟨oe,hoe,hce⟩:=he;have gz4:IsZip q4 z TI TO .ellipsis:=b4 _ _ D.i2z.symm (b3.extBut _ _ D.TOz.symm (b2.extBut _ _ D.i1z.symm gz1));have nz:e≠z:=fun q=>by subst q;rw[gz4]at hoe;cases hoe;simp at hce
  refine LR gz4 (by simp) fun q5 _ b5=>k q5 e (fun c o n1 n2 n3 n4 q=>b5.extBut _ _ n1 (b4 _ _ n4 (b3.extBut _ _ n2 (b2.extBut _ _ n3 (b1.extBut _ _ n1 q))))) ⟨oe,b5.extBut _ _ nz hoe,hce⟩
def A3 {u1 u2:Sk} {z TI TO j1 j2 t1 t2:Zx} {k1 k2:Nat} {xs ys:Array Zz} {x y a b:Zz} {Q:Option Zz->Zy->Prop} (D:ZipApart z TI TO j1 j2 t1 t2)
  (gz:IsZip s.heap z TI TO .none) (gI:LG s.heap TI (.ref j1) (.ref j2)) (gO:LG s.heap TO a b)
  (g1:SI u1.it s.heap j1 t1 k1) (g2:SI u2.it s.heap j2 t2 k2) (d1:u1.S s.heap t1 xs) (d2:u2.S s.heap t2 ys) (ex:xs[k1]?=some x) (ey:ys[k2]?=some y)
  (k:∀h',IsZip h' z TI TO (rawInt s.heap.objs.size)->LG h' TO x y->SI u1.it h' j1 t1 (k1+ 1)->SI u2.it h' j2 t2 (k2+ 1)->LG h' s.heap.objs.size x y->h'.objs.size=s.heap.objs.size+ 1->
   (∀c o,c≠z->c≠TO->c≠j1->c≠j2->s.heap.get? c=some o->h'.get? c=some o)->Q (some (.ref s.heap.objs.size)) {s with heap:=h'}):
  La (model prog w) A (pyNext (.ref z)) Q E s:=by
 have tz:s.TypeIs (.ref z) "zip":=⟨_,gz,rfl⟩;unfold pyNext;exact C5 (wpAny_attempt (LN (name:=Mp "__next__") tz F.slot_zip_next (L8 F.slot_zip_next tz F.entry_zip_next
   (EM D gz gI gO g1 g2 d1 d2 ex ey fun h' a1 a2 a3 a4 a5 a6 a7=>Lb (k h' a1 a2 a3 a4 a5 a6 a7)) (F.args_zip_next_1 _))))
def uF {u1 u2:Sk} {z TI TO j1 j2 t1 t2:Zx} {k1 k2:Nat} {xs ys:Array Zz} {a b:Zz} {Q:Option Zz->Zy->Prop} (hh:A.handled=none) (D:ZipApart z TI TO j1 j2 t1 t2)
  (gz:IsZip s.heap z TI TO .none) (gI:LG s.heap TI (.ref j1) (.ref j2)) (gO:LG s.heap TO a b)
  (g1:SI u1.it s.heap j1 t1 k1) (g2:SI u2.it s.heap j2 t2 k2) (d1:u1.S s.heap t1 xs) (d2:u2.S s.heap t2 ys) (hend:xs[k1]?=none\/ys[k2]?=none)
  (k:∀h',(∀c o,c≠z->c≠TO->c≠j1->c≠j2->s.heap.get? c=some o->h'.get? c=some o)->Q none {s with heap:=h'}):La (model prog w) A (pyNext (.ref z)) Q E s:=by have tz:s.TypeIs (.ref z) "zip":=⟨_,gz,rfl⟩;unfold pyNext;refine C5 (wpAny_attempt (LN (name:=Mp "__next__") tz F.slot_zip_next (L8 F.slot_zip_next tz F.entry_zip_next (G7 hh D gz gI gO g1 g2 d1 d2 hend fun h' e kp he=>?_) (F.args_zip_next_1 _))));obtain⟨o,ho,hc⟩:=he;exact C5 (wpAny_isInstance (T:="StopIteration") (b:=true) ⟨o,ho,hc⟩ isSubtype_stop (Lb (k _ kp)))
end
abbrev zt1 (u1:Sk) (h:Zt) (t1:Zx):Zt:=h.push {cls:= .type u1.it,data:= .fields #[.ref t1,.int 0 0]}
abbrev zt2 (u1 u2:Sk) (h:Zt) (t1 t2:Zx):Zt:=(zt1 u1 h t1).push {cls:= .type u2.it,data:= .fields #[.ref t2,.int 0 0]}
abbrev zt3 (u1 u2:Sk) (h:Zt) (t1 t2:Zx):Zt:=(zt2 u1 u2 h t1 t2).push {cls:= .type "tuple",data:= .seq #[.ref h.objs.size,.ref (zt1 u1 h t1).objs.size]}
abbrev zt4 (u1 u2:Sk) (h:Zt) (t1 t2:Zx):Zt:=(zt3 u1 u2 h t1 t2).push {cls:= .type "tuple",data:= .seq #[.none,.none]}
abbrev zt5 (u1 u2:Sk) (h:Zt) (t1 t2:Zx):Zt:=(zt4 u1 u2 h t1 t2).push {cls:= .type "zip",data:= .fields #[.none,.bool false,.bool false,.ref (zt2 u1 u2 h t1 t2).objs.size,.ref (zt3 u1 u2 h t1 t2).objs.size]}
def G8 (u1 u2:Sk) (t1 t2:Zx) (xs ys:Array Zz):Meets (Builtin.«zip.__new__» ⟨[.type "zip",.ref t1,.ref t2],[]⟩) (fun _ R s=>u1.S s.heap t1 xs/\u2.S s.heap t2 ys/\R (.ok (.ret (.ref (zt4 u1 u2 s.heap t1 t2).objs.size))) {s with heap:=zt5 u1 u2 s.heap t1 t2}):=
 .of_wp fun prog w A R s h=>by obtain⟨hp,g,d,tk,os⟩:=s;obtain⟨d1,d2,h⟩:=h;have hsub:=sub_zip;have dd1:u1.S (Shared.heap ⟨hp,g,d,tk,os⟩) t1 xs:=d1;have dd2:u2.S (Shared.heap ⟨hp.push {cls:= .type u1.it,data:= .fields #[.ref t1,.int 0 0]},g,d,tk,os⟩) t2 ys:=u2.push d2 _;wp_walk using u1.iter dd1,u2.iter dd2;exact⟨_,rfl,h⟩
section
variable {prog:Zu} {w:Zv} {A:Zw} {E:Zb} {s:Zy}
def A4 {u1 u2:Sk} {t1 t2:Zx} {xs ys:Array Zz} {Q:Zb} (d1:u1.S s.heap t1 xs) (d2:u2.S s.heap t2 ys)
  (k:∀h',IsZip h' (s.heap.objs.size+ 4) (s.heap.objs.size+ 2) (s.heap.objs.size+ 3) .none->LG h' (s.heap.objs.size+ 2) (.ref s.heap.objs.size) (.ref (s.heap.objs.size+ 1))->
   LG h' (s.heap.objs.size+ 3) .none .none->SI u1.it h' s.heap.objs.size t1 0->SI u2.it h' (s.heap.objs.size+ 1) t2 0->(∀c o,s.heap.get? c=some o->h'.get? c=some o)->Q (.ref (s.heap.objs.size+ 4)) {s with heap:=h'}):
  La (model prog w) A (call (.type "zip") [.ref t1,.ref t2]) Q E s:=by
 refine callType_new F.called_zip (by decide) (F.typeCall_zip_2 _ _) (F.newCall_zip_2 _ _) (fun obj=>F.args_object_init_3 obj _ _) F.entry_zip_new (G8 u1 u2 t1 t2 xs ys) ⟨d1,d2,?_⟩;have z1:(zt1 u1 s.heap t1).objs.size=s.heap.objs.size+ 1:=fF ..;have z2:(zt2 u1 u2 s.heap t1 t2).objs.size=s.heap.objs.size+ 2:=by rw[fF,z1]
 have z3:(zt3 u1 u2 s.heap t1 t2).objs.size=s.heap.objs.size+ 3:=by rw[fF,z2]
 have z4:(zt4 u1 u2 s.heap t1 t2).objs.size=s.heap.objs.size+ 4:=by rw[fF,z3]
 have m5:(zt5 u1 u2 s.heap t1 t2).get? (zt4 u1 u2 s.heap t1 t2).objs.size=some _:=fD _ rfl;have m4:(zt5 u1 u2 s.heap t1 t2).get? (zt3 u1 u2 s.heap t1 t2).objs.size=some _:=fE _ (fD _ rfl);have m3:(zt5 u1 u2 s.heap t1 t2).get? (zt2 u1 u2 s.heap t1 t2).objs.size=some _:=fE _ (fE _ (fD _ rfl));have m2:(zt5 u1 u2 s.heap t1 t2).get? (zt1 u1 s.heap t1).objs.size=some _:=fE _ (fE _ (fE _ (fD _ rfl)));have m1:(zt5 u1 u2 s.heap t1 t2).get? s.heap.objs.size=some _:=fE _ (fE _ (fE _ (fE _ (fD _ rfl))));show _/\_;rw[z2,z3,z4]at m5;rw[z1,z2]at m3;rw[z3]at m4;rw[z1]at m2;rw[z4];exact⟨⟨_,m5,rfl⟩,k _ m5 m3 m4 ⟨_,m1,rfl,rfl⟩ ⟨_,m2,rfl,rfl⟩ fun c o q=>fE _ (fE _ (fE _ (fE _ (fE _ q))))⟩
end
def Itg (u1 u2:Sk) (K:Zp) (a b:Zx):It:=
 ⟨fun i H=>∃xs ys x y,u1.Sq K H a xs/\u2.Sq K H b ys/\xs[i]?=some x/\ys[i]?=some y,
   fun i H v H'=>∃T x y,v= .ref T/\H T=none/\H'=upd H T (.tup [x,y])/\(∀xs,u1.Sq K H a xs->xs[i]?=some x)/\∀ys,u2.Sq K H b ys->ys[i]?=some y,
   fun i H=>∃xs ys,u1.Sq K H a xs/\u2.Sq K H b ys/\i=min xs.length ys.length⟩
def ZTSt (u1 u2:Sk) (z TI TO i1 i2 a b:Zx) (i:Nat) (h:Zt):Prop:=IsZip h z TI TO .none/\LG h TI (.ref i1) (.ref i2)/\(∃u v,LG h TO u v)/\SI u1.it h i1 a i/\SI u2.it h i2 b i
def A5 {u1 u2:Sk} {P:Zu} {w:Zv} {K:Zp} {es:List Zr} {kk:Nat} {tp:Pos} {a b z TI TO i1 i2:Zx} (D:ZipApart z TI TO i1 i2 a b):Du P w K (.Tuple es kk tp) (Itg u1 u2 K a b) [z,TI,TO,i1,i2] z (ZTSt u1 u2 z TI TO i1 i2 a b) where
 mem:=by simp
 obj:=fun i h st c hc=>by
  obtain⟨g1,g2,⟨u,v,g3⟩,⟨o4,g4,_,d4⟩,⟨o5,g5,_,d5⟩⟩:=st;simp only[ak,bG,or_false]at hc;rcases hc with e|e|e|e|e<;>subst e;·exact⟨_,g1,fun v q=>nomatch q⟩
  ·exact⟨_,g2,fun v q=>nomatch q⟩
  ·exact⟨_,g3,fun v q=>nomatch q⟩
  ·exact⟨_,g4,fun v q=>by rw[d4]at q;cases q⟩
  ·exact⟨_,g5,fun v q=>by rw[d5]at q;cases q⟩
 keep:=fun i h h' st k=>by obtain⟨g1,g2,⟨u,v,g3⟩,⟨o4,g4,r4⟩,⟨o5,g5,r5⟩⟩:=st;exact⟨k z (by simp) _ g1,k TI (by simp) _ g2,⟨u,v,k TO (by simp) _ g3⟩,⟨o4,k i1 (by simp) o4 g4,r4⟩,⟨o5,k i2 (by simp) o5 g5,r5⟩⟩
 item:=by
  intro X hP hw hK hc i pz s σ H E I hf st hg;subst hP hw hK;obtain⟨xs,ys,x,y,qx,qy,ex,ey⟩:=hg;obtain⟨i1s,r1,p1,z1⟩:=u1.inv I qx;obtain⟨i2s,r2,p2,z2⟩:=u2.inv I qy;obtain⟨g1,g2,⟨u,v,g3⟩,g4,g5⟩:=st;obtain⟨ux,hux,rr1⟩:=r1.get ex;obtain⟨uy,huy,rr2⟩:=r2.get ey;have hw:∀c∈[z,TO,i1,i2],wR X pz H c:=fun c hc=>hf c (by simp only[ak,bG,or_false]at hc⊢;first|(rcases hc with h|h|h|h<;>simp[h])|simp[hc]);refine A3 D g1 g2 g3 g4 g5 (show u1.S s.heap a i1s.toArray from p1) (show u2.S s.heap b i2s.toArray from p2) (x:=ux) (y:=uy) (by simpa using hux) (by simpa using huy) fun h1 a1 a2 a3 a4 a5 a6 hk=>?_;have kk1:∀c o,c∉[z,TO,i1,i2]->s.heap.get? c=some o->h1.get? c=some o:=fun c o hc e=>hk c o (fun q=>hc (by simp[q])) (fun q=>hc (by simp[q])) (fun q=>hc (by simp[q])) (fun q=>hc (by simp[q])) e;have J1:Inv X pz σ H {s with heap:=h1,toks:=s.toks}:=I.turnedL kk1 hw;refine⟨.ref s.heap.objs.size,rfl,wpAny_letOwnedTupleGo_zip a1 fun h2 a1' sb=>?_⟩;have J2:Inv X pz σ H {s with heap:=h2,toks:=s.toks}:=Inv.turnedL (s:={s with heap:=h1,toks:=s.toks}) (h':=h2) (t':=s.toks) (ch:=[z]) J1 (fun c o hc e=>sb.extBut _ _ (fun q=>hc (by simp[q])) e) fun c hc=>hf c (by simp only[ak,bG,or_false]at hc⊢;first|(rcases hc with h|h|h|h<;>simp[h])|simp[hc]);have zlt:z<s.heap.objs.size:=fC g1;have ht2:yp h2 s.heap.objs.size #[ux,uy]:=⟨_,sb.extBut _ _ (cG zlt) a5,rfl,_,rfl,rfl⟩;obtain⟨fT,J3⟩:=I.pairNew (cH _) J2 ht2 rr1 rr2;refine⟨.ref s.heap.objs.size,_,J3,rfl,⟨_,x,y,rfl,fT,rfl,fun l hl=>by rw[u1.inj I hl qx];exact ex,fun l hl=>by rw[u2.inj I hl qy];exact ey⟩,
   ⟨a1',sb.extBut _ _ D.TIz (hk _ _ D.TIz D.TITO D.TIi1 D.TIi2 g2),⟨_,_,sb.extBut _ _ D.TOz a2⟩,a3.extBut sb.extBut D.i1z,a4.extBut sb.extBut D.i2z⟩,fun c hc=>?_⟩;rw[f9 (fun q=>?_)];·exact(hf c hc).1
  ·have lt:c<s.heap.objs.size:=by
    obtain⟨o4,e4,_⟩:=g4;obtain⟨o5,e5,_⟩:=g5;simp only[ak,bG,or_false]at hc;rcases hc with e|e|e|e|e<;>subst e;·exact fC g1
    ·exact fC g2
    ·exact fC g3
    ·exact fC e4
    ·exact fC e5
   exact absurd lt (by rw[q];exact cC _)
 done:=by intro X hP hw hK hc i pz s σ H E I hf st hg;subst hP hw hK;obtain⟨xs,ys,qx,qy,ei⟩:=hg;obtain⟨i1s,r1,p1,z1⟩:=u1.inv I qx;obtain⟨i2s,r2,p2,z2⟩:=u2.inv I qy;obtain⟨g1,g2,⟨u,v,g3⟩,g4,g5⟩:=st;have l1:=r1.length;have l2:=r2.length;refine uF (I.ok.hd hc) D g1 g2 g3 g4 g5 (show u1.S s.heap a i1s.toArray from p1) (show u2.S s.heap b i2s.toArray from p2) ?_ fun h1 hk=>⟨rfl,I.turnedL (t':=s.toks) (ch:=[z,TO,i1,i2]) (fun c o hc e=>hk c o (fun q=>hc (by simp[q])) (fun q=>hc (by simp[q])) (fun q=>hc (by simp[q])) (fun q=>hc (by simp[q])) e) fun c hc=>hf c (by simp only[ak,bG,or_false]at hc⊢;first|(rcases hc with h|h|h|h<;>simp[h])|simp[hc])⟩;simp only[List.getElem?_toArray,List.getElem?_eq_none_iff];lia
 self:=fun _ _ _ _ _ st h=>wpAny_pyIter_zip st.1 h
def G9 (u1 u2:Sk) (K:Zp) (ta:TA):TI:=fun σ H R=>ta σ H fun vs H1=>∃a b,vs=[.ref a,.ref b]/\(∃xs,u1.Sq K H1 a xs)/\(∃ys,u2.Sq K H1 b ys)/\R (Itg u1 u2 K a b) H1
section
variable {X:Cx}
def EN (u1 u2:Sk) {es:List Zr} {kk:Nat} {tp:Pos} {a b:Zr} {ta:TA} {p pos:Pos} (hg:Gl X "zip") (hm:X.mg "zip"=none) (ha:PA X [a,b] ta) (hs:autoParam (Lg [a,b] X.env=[(false,eval a X.env),(false,eval b X.env)]) auR._auto_1) (hs2:autoParam (Lg [b] X.env=[(false,eval b X.env)]) auR._auto_1):
  PI X (.Tuple es kk tp) (.Call (.Name "zip" p) [a,b] [] pos) (G9 u1 u2 X.K ta):=by
 intro pz s σ H R I h;refine Call_ (ph I hg hm G4 (fJ (thn (ha pos pz s σ H _ I h) ?_) (by rw[hs,hs2]) (by rw[hs2];rfl)));rintro us s1 ⟨vs,H1,I1,r1,q1⟩;obtain⟨l1,l2,e,⟨xs,q1⟩,⟨ys,q2⟩,q⟩:=q1;subst e;obtain⟨u,v,rfl,ru,rv⟩:=Aq r1;cases ru;cases rv;obtain⟨i1s,w1,p1,z1⟩:=u1.inv I1 q1;obtain⟨i2s,w2,p2,z2⟩:=u2.inv I1 q2;have o1:@LT.lt Nat _ l1 s1.heap.objs.size:=u1.old I1 q1;have o2:@LT.lt Nat _ l2 s1.heap.objs.size:=u2.old I1 q2;refine A4 (show u1.S s1.heap l1 i1s.toArray from p1) (show u2.S s1.heap l2 i2s.toArray from p2) fun h1 hz hTI hTO hi1 hi2 hk=>wpAny_pyIter_zip hz ?_;have D:ZipApart (s1.heap.objs.size+ 4) (s1.heap.objs.size+ 2) (s1.heap.objs.size+ 3) s1.heap.objs.size (s1.heap.objs.size+ 1) l1 l2:=by constructor<;>exact fun(h:@Eq Nat _ _)=>by lia
 refine⟨_,_,_,_,H1,rfl,I1.kept (t':=s1.toks) hk,A5 D,⟨hz,hTI,⟨_,_,hTO⟩,hi1,hi2⟩,fun c hc=>?_,q⟩;have ge:s1.heap.objs.size<=c:=by simp only[ak,bG,or_false]at hc;rcases hc with h|h|h|h|h<;>rw[h]<;>first|exact cH _|exact Nat.le_add_right _ _
 exact I1.fpOk ge (I1.hok.fresh ge)
def EO {es:List Zr} {kk:Nat} {tp:Pos} {a b:Zr} {ta:TA} {p pos:Pos} (hg:Gl X "zip") (hm:X.mg "zip"=none) (ha:PA X [a,b] ta) (hs:autoParam (Lg [a,b] X.env=[(false,eval a X.env),(false,eval b X.env)]) auR._auto_1) (hs2:autoParam (Lg [b] X.env=[(false,eval b X.env)]) auR._auto_1):
  PI X (.Tuple es kk tp) (.Call (.Name "zip" p) [a,b] [] pos) (G9 tS lS X.K ta):=EN tS lS hg hm ha hs hs2
end
def zF:typeLookup (.type "tuple") "keys"=pure none:=by rw[typeLookup_type,L7];kernel_rfl
section
variable {prog:Zu} {w:Zv} {A:Zw} {E:Zb} {s:Zy}
def ER {a:Zx} {xs:Array Zz} {k:Nat} {sl:Array (Option Zz)} {Q:Option Zz->Zy->Prop} (hx:s.heap.get? a=some {cls:= .type "tuple",dict:=none,data:= .seq xs k,slots:=sl}) (hA:A.handled=none)
  (q:∀h' tk,(∀b o,s.heap.get? b=some o->h'.get? b=some o)->Q none {s with heap:=h',toks:=tk}):La (model prog w) A (getAttr? (.ref a) "keys") Q E s:=by
 obtain⟨hp,g,d,tk,os⟩:=s;have hT:∀tk',(⟨hp,g,d,tk',os⟩:Zy).TypeIs (.ref a) "tuple":=fun _=>⟨_,hx,rfl⟩;have f1:=sub_AttributeError;have f3:=F.slot_tuple_getattribute.lookup;have f4:=F.slot_tuple_getattribute.bind (.ref a);have f5:=am_tuple_getattr_none;unfold getAttr? getAttrBy? getAttrBy;repeat(any_goals(first|assumption|exact hT _|((with_reducible show La _ _ (call (Value.builtin "tuple.__getattribute__") _ _) _ _ _);refine L5 F.slot_tuple_getattribute (hT _) am_entry_tuple_getattribute (F.args_tuple_getattribute_2 _ _) (meets_getattribute_miss_tuple a xs k sl "keys" _ zF gA gA) ⟨hx,hA,fun h' tk' e hx'=>?_⟩)|wp_step))
 obtain⟨t',u',he⟩:=hx'.there;show La _ _ (Mu _ _ _ _ _ _ _) _ _ _;unfold Mu;repeat(any_goals(first|assumption|wp_step))
 exact q h' tk' hx'.keeps
end
inductive Prs (H:Hp):List V->List (Str×V)->Prop
 |nil:Prs H [] []
 |cons {a:Zx} {p:Str×V} {l:List V} {m:List (Str×V)}:H a=some (.tup [.str p.1,p.2])->Prs H l m->Prs H (.ref a::l) (p::m)
def kC:entryFor table "dict.update.loop"=some Builtin.«dict.update.loop»:=entryFor_of_tree (by kernel_rfl)
def kf (p:Str×V):Key×V:=(Le p.1,p.2)
section
variable {X:Cx} {pz:Za} {σ:St} {H:Hp} {d it t:Zx} {vs:List V} {A:Zw} {R:Result->Zy->Prop}
theorem v8 (hA:A.handled=none) (hd:H d=none) (ht:H t=some (.tup vs)):∀(rest:List (Str×V)) (ys:List V) (i:Nat) (acc:List (Key×V)) (s:Zy),
  Inv X pz σ (upd H d (.dK acc)) s->wR X pz (upd H d (.dK acc)) it->s.heap.IsTupleIter it t i->vs.drop i=ys->Prs H ys rest->acc.length+rest.length<=1000->
  (∀s',Inv X pz σ (upd H d (.dK (jP acc (rest.map kf)))) s'->R (.ok (.ret .none)) s')->
  Me (model X.prog X.w) A (.builtin "dict.update.loop" ⟨[.ref d,.ref it,.int (i:Int) 0,.none],[]⟩) R s
 |[],ys,i,acc,s,I,f,st,ey,hp,hn,k=>by
  cases hp;have ht':(upd H d (.dK acc)) t=some (.tup vs):=by rw[f9 (fZ ht hd)];exact ht
  obtain⟨its,rv,p,hz⟩:=I.tuple (SqT.of ht');obtain⟨f0,f1,f2,f3,f4,f5⟩:=f;have hl:=rv.length;have hi:vs.length<=i:=bI.mp ey;refine codeAny_builtin kC ?_;unfold Builtin.«dict.update.loop»;show La _ _ (pyNext (.ref it) >>= _) _ _ s;refine C5 (wpAny_pyNext_tuple_end (by exact hA) st (show s.heap.IsTuple t its.toArray from p) (by simp;lia) fun h' eb=>?_);have I1:Inv X pz σ (upd H d (.dK acc)) {s with heap:=h'}:=I.turned (t':=s.toks) (fun b o hb e=>eb b o hb e) f0 f1 f3 f4 f5;exact C5 (Lb (Lb (k _ I1)))
 |pr::rest,ys,i,acc,s,I,f,st,ey,hp0,hn,k=>by
  obtain⟨a,l,rfl,ha,hp⟩:∃a l,ys= .ref a::l/\H a=some (.tup [.str pr.1,pr.2])/\Prs H l rest:=by
   cases hp0 with
   |cons h1 h2=>exact⟨_,_,rfl,h1,h2⟩
  have ht':(upd H d (.dK acc)) t=some (.tup vs):=by rw[f9 (fZ ht hd)];exact ht
  have ha':(upd H d (.dK acc)) a=some (.tup [.str pr.1,pr.2]):=by rw[f9 (fZ ha hd)];exact ha
  obtain⟨its,rv,p,hz⟩:=I.tuple (SqT.of ht');have ff:=f;obtain⟨f0,f1,f2,f3,f4,f5⟩:=f;have hvi:vs[i]?=some (.ref a):=by have:=congrArg (·[0]?) ey;simpa using this
  obtain⟨u,hu,ru⟩:=rv.get hvi;cases ru;refine codeAny_builtin kC ?_;unfold Builtin.«dict.update.loop»;show La _ _ (pyNext (.ref it) >>= _) _ _ s;refine C5 (wpAny_pyNext_tuple_item st (show s.heap.IsTuple t its.toArray from p) (x:= .ref a) (by simpa using hu) fun h' st' sb=>?_);have I1:Inv X pz σ (upd H d (.dK acc)) {s with heap:=h'}:=I.turned (t':=s.toks) (fun b o hb e=>(sb.2 b hb).trans e) f0 f1 f3 f4 f5;obtain⟨its2,rv2,⟨ob,hob,hoc,on,hod⟩,_⟩:=I1.tuple (SqT.of ha');obtain⟨kx,vx,rfl,⟨tk,rfl⟩,rvx⟩:=Aq rv2;obtain⟨z,hds,vs2,rel,dd⟩:=vR I1.hok (show(upd H d (.dK acc)) d=some (.dK acc)from fS);refine C5 (LK (C5 (wpAny_tryCatch ?_)));unfold Builtin.Dict.pairItems;refine C5 (Mq (T:="tuple") ⟨ob,hob,hoc⟩ ?_);rw[gT (by decide)];refine C5 (Lw hob hod ?_);refine Lb ?_;show La _ _ (holding [Value.str pr.1 tk,vx] (dictSet d (.str pr.1 tk) vx)) _ _ _;have hv2:vs2.length<=sizeLine:=by rw[<-rel.length];exact z
  have hn':acc.length+(rest.length+ 1)<=1000:=hn;have hl:(mS acc (Le pr.1) pr.2).length<=1000:=by have:=ig acc (Le pr.1) pr.2;lia
  have hl2:(mS acc (Le pr.1) pr.2).length+rest.length<=1000:=by have:=ig acc (Le pr.1) pr.2;lia
  refine LK (wpAny_dictSet_pairs (hsz:=hv2) (k:=(Le pr.1:Key)) (uv (k:=(Le pr.1:Key)) (show iQ (kV (Le pr.1)) _ from⟨tk,rfl⟩)) dd fun h2 dd2 sb2=>?_);have he:∃q,h2.get? d=some q:=let⟨q,_,_,hq,_⟩:=dd2;⟨q,hq⟩;have I2:=rF (t':=s.toks+ 1) I1 (by rw[fS];exact LA) sb2 he (rG (kvs:=mS acc (Le pr.1) pr.2) (cE hl (by decide)) hds (rel.put (Le pr.1) rvx) dd2);rw[uo]at I2;have hid:it≠d:=fun e=>by rw[e,fS]at f0;exact nomatch f0
  obtain⟨oi,hoi,ri⟩:=st';have st2:h2.IsTupleIter it t (i+ 1):=⟨oi,(sb2.2 it hid).trans hoi,ri⟩;refine Lb ⟨Mv _ gA,?_⟩;have ey2:vs.drop (i+ 1)=l:=by rw[<-List.tail_drop,ey];rfl
  exact v8 hA hd ht rest l (i+ 1) (mS acc (Le pr.1) pr.2) _ I2 ⟨by rw[f9 hid]at f0⊢;exact f0,f1,f2,f3,f4,f5⟩ st2 ey2 hp hl2 k
end
section
variable {X:Cx}
def zG (hc:X.calm=true):nQ X (.type "dict") (fun xs H Q=>∃(t:Zx) (vs:List V) (kvs:List (Str×V)),xs=[.ref t]/\H t=some (.tup vs)/\Prs H vs kvs/\kvs.length<=1000/\∀d,H d=none->Q (.ref d) (upd H d (.dK (jP [] (kvs.map kf))))):=by
 intro pz s σ H xs us Q I r h;obtain⟨t,vs,kvs,rfl,ht,hp,hn,q⟩:=h;obtain⟨u,rfl,ru⟩:=my r;cases ru;obtain⟨_,its,rv,o,ho,hcl,n,hd,hdd⟩:=(show jL X.prog X.w H s.heap t (.tup vs)from I.hok t _ ht);obtain⟨oc,od,odt,osl⟩:=o;cases(show oc=_ from hcl);cases(show odt=_ from hd);cases(show od=_ from hdd);refine callType_codes (Q₁:=fun obj s₁=>obj= .ref s.heap.objs.size/\s₁={s with heap:=s.heap.push {cls:= .type "dict",data:= .dict #[]}}) F.kt_called_dict (F.kt_typeCall_dict_1 _) F.entry_dict_init (kt_code_dict_new _ ⟨rfl,rfl⟩) ?_;rintro obj s₁ ⟨rfl,rfl⟩;have hnew:(s.heap.push {cls:= .type "dict",data:= .dict #[]}).DictOf (jf X.prog X.w) s.heap.objs.size []:=Heap.DictOf.new s.heap;refine⟨hnew.typeIs,F.args_dict_init_2 _ _,?_⟩;unfold Builtin.«dict.__init__»;refine C5 ?_;unfold Builtin.Dict.selfAndRest;refine C5 (wpAny_notOrdered_dict hnew.typeIs ?_);show La _ _ (pure (s.heap.objs.size,[Li t])) _ _ _;refine Lb ?_;show La _ _ (L3 "dict.__init__" s.heap.objs.size (.ref t) [] .none) _ _ _;unfold L3;have ho1:=fE {cls:= .type "dict",data:= .dict #[]} ho;refine C5 (Mq (T:="tuple") ⟨_,ho1,rfl⟩ ?_);rw[gT (by decide)];refine C5 (ER ho1 (by exact I.ok.hd hc) fun h1 tk1 kp1=>?_);rw[gT (by rfl)];refine C5 (wpAny_rule ?_);have I1:Inv X pz σ (upd H s.heap.objs.size (.dK [])) {s with heap:=h1,toks:=tk1}:=by
  refine I.laid (fun b u e=>kp1 b u (fE _ e)) (cH _) (rG (by decide) ?_ .nil ?_);·have hb:=I.big;exact beq_false_of_ne (cG hb)
  ·obtain⟨o,es,ep,ho,r⟩:=hnew;exact⟨o,es,ep,kp1 _ _ ho,r⟩
 have ho2:h1.IsTuple t its.toArray:=⟨_,kp1 _ _ ho1,rfl,n,rfl⟩;refine C5 (wpAny_pyIter_tuple (show({s with heap:=h1,toks:=tk1}:Zy).heap.IsTuple t its.toArray from ho2) ?_);have f:=I1.fpOk (cH _) (I1.hok.fresh (cH _));have I2:Inv X pz σ (upd H s.heap.objs.size (.dK [])) {s with heap:=h1.push {cls:= .type "tuple_iterator",data:= .fields #[.ref t,.int 0 0]},toks:=tk1}:=I1.kept (t':=tk1) fun b o e=>fE _ e;refine Lb ⟨Mv _ gA,?_⟩;refine v8 (A:=X.A.in1) (by exact I.ok.hd hc) (I.hok.fresh (cH _)) ht kvs vs 0 [] _ I2 f ⟨_,fD _ rfl,rfl,rfl⟩ rfl hp (by simpa using hn) fun s' J=>?_;exact⟨rfl,.ref s.heap.objs.size,_,J,rfl,q _ (I.hok.fresh (cH _))⟩
end
end L2.Internal
namespace BO.Internal
open PySem L2.Internal
def rIsi (K:Zp):List V->Hp->VK->Prop:=fun xs H Q=>∃x v c t b,xs=[x,v]/\(∀u,iQ v u->u=c)/\xq K H x t/\dP K t c=some b/\Q (.bl b) H
def sz {n:Nat} (h:n<=100000):n<=sizeLine:=cE h (by decide)
def fW {H:Hp} {p:Zx} (h:H p=none) (o:HO):gE H (upd H p o):=fun b u q=>by rw[f9 (fZ q h)];exact q
def DI {α:Type} (l:List α) (i:Int) (h0:0<=i) (h1:i<(l.length:Int)):∃c,atI l i=some c/\c∈l:=by
 have e:i=((i.toNat:Nat):Int):=by lia
 have hi:i.toNat<l.length:=by lia
 refine⟨l[i.toNat],?_,List.getElem_mem hi⟩;have z:atI l ((i.toNat:Nat):Int)=some l[i.toNat]:=fV (bE hi);rw[<-e]at z;exact z
def flN:V->Bool
 | .non=>true
 | .int _=>true
 | .str _=>true
 |_=>false
mutual
inductive Im (H:Hp):V->Dt->Prop where
 |flat {v:V} (h:flN v=true):Im H v (.flat v)
 |tup {a:Zx} {xs:List V} {ds:List Dt} (h:H a=some (.tup xs)) (hs:Ims H xs ds):Im H (.ref a) (.tup ds)
inductive Ims (H:Hp):List V->List Dt->Prop where
 |nil:Ims H [] []
 |cons {x:V} {d:Dt} {xs:List V} {ds:List Dt} (h:Im H x d) (hs:Ims H xs ds):Ims H (x::xs) (d::ds)
end
mutual
inductive Dta (H:Hp):V->Dt->Prop where
 |flat {v:V} (h:flN v=true):Dta H v (.flat v)
 |tup {a:Zx} {xs:List V} {ds:List Dt} (h:H a=some (.tup xs)) (hs:DJ H xs ds):Dta H (.ref a) (.tup ds)
 |lst {a:Zx} {xs:List V} {ds:List Dt} (h:H a=some (.lst xs)) (hs:DJ H xs ds):Dta H (.ref a) (.lst ds)
inductive DJ (H:Hp):List V->List Dt->Prop where
 |nil:DJ H [] []
 |cons {x:V} {d:Dt} {xs:List V} {ds:List Dt} (h:Dta H x d) (hs:DJ H xs ds):DJ H (x::xs) (d::ds)
end
def TK (H H':Hp):Prop:=∀a xs,H a=some (.tup xs)->H' a=some (.tup xs)
def gE.tk {H H':Hp} (s:gE H H'):TK H H':=fun a xs e=>s a _ e
mutual
theorem Im.mono {H H':Hp} (k:TK H H'):∀{v:V} {d:Dt},Im H v d->Im H' v d
 |_,_,.flat h=> .flat h
 |_,_,.tup h hs=> .tup (k _ _ h) (Ims.mono k hs)
theorem Ims.mono {H H':Hp} (k:TK H H'):∀{v:List V} {d:List Dt},Ims H v d->Ims H' v d
 |_,_,.nil=> .nil
 |_,_,.cons h hs=> .cons (Im.mono k h) (Ims.mono k hs)
end
theorem DJ.length {H:Hp}:∀{xs:List V} {ds:List Dt},DJ H xs ds->xs.length=ds.length
 |_,_,.nil=>rfl
 |_,_,.cons _ t=>by rw[aA,aA,DJ.length t]
theorem Ims.length {H:Hp}:∀{xs:List V} {ds:List Dt},Ims H xs ds->xs.length=ds.length
 |_,_,.nil=>rfl
 |_,_,.cons _ t=>by rw[aA,aA,Ims.length t]
theorem Ims.app {H:Hp}:∀{xs ys:List V} {ds es:List Dt},Ims H xs ds->Ims H ys es->Ims H (xs++ys) (ds++es)
 |_,_,_,_,.nil,h=>h
 |_,_,_,_,.cons a b,h=> .cons a (Ims.app b h)
inductive Gf {α β:Type} (F:α->β->Prop):List α->List β->Prop
 |nil:Gf F [] []
 |cons {a:α} {b:β} {l:List α} {m:List β}:F a b->Gf F l m->Gf F (a::l) (b::m)
theorem Gf.length {α β:Type} {F:α->β->Prop}:∀{l:List α} {m:List β},Gf F l m->l.length=m.length
 |_,_,.nil=>rfl
 |_,_,.cons _ t=>by rw[aA,aA,Gf.length t]
inductive Us where
 |num (a p s:Int)
 |call (a p s x y:Int)
 |take (a p s:Int) (l:List (Str×Int))
 |case (a p s:Int) (l:List (Str×Int))
 |row (a p s x:Int)
structure Mkg where
 s:Str
 f:Dt
 a:Int
 p:Int
structure Cs where
 M:Zx
 N:Zx
 C:Zx
 T:Zx
 K:Zx
 R:Zx
 B:Zx
def Fz:HO->Prop
 | .tup _=>True
 | .ins _ _ fs=>fs.length≠5\/∃v r,fs=(("at":Str),v)::r
 |_=>False
def FK (H H':Hp):Prop:=∀a o,H a=some o->Fz o->H' a=some o
def FK.tk {H H':Hp} (k:FK H H'):TK H H':=fun a xs e=>k a _ e trivial
def FK.trans {H H1 H2:Hp} (a:FK H H1) (b:FK H1 H2):FK H H2:=fun c o e f=>b c o (a c o e f) f
def rR {J:It} {i:Nat} {te:TE} {Q:VK} {τ:St} {H1:Hp} {D:Zx} (n:Nat) (hn:n<sizeLine) (R:List V->Hp->Prop) (hR:∀xs H H',R xs H->TK H H'->R xs H') (hD:H1 D=none) (hτ:τ.set i none=τ)
  (hgo:∀k H,gE H1 H->k<n->J.go k H) (hst:∀H,gE H1 H->J.stop n H) (h0:R [] H1)
  (step:∀k H v H3 xs (Z:VK),gE H1 H->k<n->J.yld k H v H3->R xs H->xs.length=k->(∀y H5,gE H H5->R (xs++[y]) H5->Z y H5)->te (τ.set i (some v)) H3 Z)
  (hq:∀H' xs,gE H1 H'->R xs H'->xs.length=n->H' D=some (.lst xs)->Q (.ref D) H'):LcP J i uB te Q τ H1 D:=by
 have nd:∀(H5:Hp) (xs ys:List V),H5 D=some (.lst xs)->TK H5 (upd H5 D (.lst ys)):=fun H5 xs ys e a zs q=>by rw[f9 (kU q e (fun z=>nomatch z))];exact q
 have up:∀{H:Hp} (o:HO),gE H1 H->gE H1 (upd H D o):=fun{H} o S b u e=>by rw[f9 (fZ e hD)];exact S b u e
 refine⟨fun k m σ' H2=>m=n-k/\k<=n/\(∃o,σ'=τ.set i o)/\gE H1 H2/\∃xs,H2 D=some (.lst xs)/\xs.length=k/\R xs H2,⟨n,by simp,cJ _,⟨none,hτ.symm⟩,fW hD _,[],fS,rfl,hR _ _ _ h0 (gE.tk (fW hD _))⟩,?_⟩;rintro k m σ' H2 ⟨rfl,hk,⟨o,rfl⟩,S,xs,e,hl,hr⟩;by_cases hlt:k<n;·refine .inr ⟨hgo k H2 S hlt,fun v H3 y=>?_⟩;rw[bu];refine step k H2 v H3 xs _ S hlt y hr hl fun y H5 S5 r5=>?_;refine⟨xs,S5 D _ e,by lia,n-(k+ 1),by lia,rfl,hlt,⟨some v,rfl⟩,up _ (S.trans S5),xs++[y],fS,by rw[aQ,hl];rfl,hR _ _ _ r5 (nd H5 _ _ (S5 D _ e))⟩
 ·have e1:k=n:=by lia
  subst e1;exact .inl ⟨hst H2 S,hq H2 xs S hr hl e⟩
def Hh {K:Zp} {a:Zx} {xs:List V} {k:Nat} {H1 H:Hp} (e:H1 a=some (.lst xs)) (S:gE H1 H) (h:k<xs.length):(Itl K a).go k H:=⟨xs,xs[k],SqL.of (S a _ e),bE h⟩
def Hi {K:Zp} {a:Zx} {xs:List V} {H1 H:Hp} (e:H1 a=some (.lst xs)) (S:gE H1 H):(Itl K a).stop xs.length H:=⟨xs,SqL.of (S a _ e),cH _⟩
def A6 {K:Zp} {a:Zx} {xs:List V} {k:Nat} {H1 H:Hp} (e:H1 a=some (.tup xs)) (S:gE H1 H) (h:k<xs.length):(Itt K a).go k H:=⟨xs,xs[k],SqT.of (S a _ e),bE h⟩
def A7 {K:Zp} {a:Zx} {xs:List V} {H1 H:Hp} (e:H1 a=some (.tup xs)) (S:gE H1 H):(Itt K a).stop xs.length H:=⟨xs,SqT.of (S a _ e),cH _⟩
inductive Ls (H:Hp):List Zx->List (List V)->Prop
 |nil:Ls H [] []
 |cons {a:Zx} {c:List V} {l:List Zx} {m:List (List V)}:H a=some (.lst c)->Ls H l m->Ls H (a::l) (c::m)
structure Sd where
 b:Zx
 dx:Zx
 p0:Zx
 p1:Zx
 p2:Zx
 p3:Zx
 d:Zx
 q0:Zx
 q1:Zx
 q2:Zx
 q3:Zx
structure Bd where
 pts:List Int
 mks:List Mkg
 uss:List Us
 fls:List (Int×Int)
 root:Int
def yC {H:Hp} {a:Zx} {xs:List V} {o:HO} (h:H a=some (.lst xs)):FK H (upd H a o):=fun b u e f=>by rw[f9 (kU e h (fun z=>by rw[z]at f;exact f))];exact e
section
variable {c:Cs} {H H':Hp} {S:Sd} {E D:Bd}
end
def Frm (M:List Zx) (H H':Hp):Prop:=∀a o,H a=some o->a∉M->H' a=some o
def Frm.trans {M:List Zx} {H H1 H2:Hp} (a:Frm M H H1) (b:Frm M H1 H2):Frm M H H2:=fun c o e n=>b c o (a c o e n) n
inductive Mf where
 |num
 |fn (x y:Int)
 |rcd (l:List (Str×Int))
 |tag (w:Str) (x:Int)
 |row (x:Int)
 |any
end BO.Internal
namespace L2.Internal
open PySem PySem.Spec PyProof.Rows
section
variable {X:Cx} {e a b o f:Zr} {st:Zq} {ta tb td ty tx to:TE} {pos apos cpos:Pos}
def PE.weak {t t':TE} (h:PE X e t) (m:∀σ H Q,t' σ H Q->t σ H Q):PE X e t':=fun pz s σ H Q I q=>h pz s σ H Q I (m σ H Q q)
def PT.weak {t t':TT} (h:PT X e t) (m:∀σ H Q,t' σ H Q->t σ H Q):PT X e t':=fun pz s σ H Q I q=>h pz s σ H Q I (m σ H Q q)
def PS.weak {t t':TS} (h:PS X st t) (m:∀D σ H,t' D σ H->t D σ H):PS X st t':=fun pz s σ H D I q=>h pz s σ H D I (m D σ H q)
def OpR.weak {g:Zz->Zz->Sem Zz} {r r':R2} (h:OpR X g r) (m:∀x y H Q,r' x y H Q->r x y H Q):OpR X g r':=fun pz s σ H x y v u Q I rx ry q=>h pz s σ H x y v u Q I rx ry (m x y H Q q)
def IxR.weak {r r':R2} (h:IxR X r) (m:∀x y H Q,r' x y H Q->r x y H Q):IxR X r':=fun value slice pz s σ H x y v u Q I rx ry q hs=>h value slice pz s σ H x y v u Q I rx ry (m x y H Q q) hs
def mT (t:TE):TE:=fun σ H Q=>∃Q0:VK,t σ H Q0/\∀x H1,Q0 x H1->Q x H1
def PE.mono {t:TE} (h:PE X e t):PE X e (mT t):=fun pz s σ H Q I ⟨Q0,h0,m⟩=>thn (h pz s σ H Q0 I h0) fun v s1 ⟨x,H1,I1,r1,q1⟩=>⟨x,H1,I1,r1,m x H1 q1⟩
def mR (r:R2):R2:=fun x y H Q=>∃Q0:VK,r x y H Q0/\∀x H1,Q0 x H1->Q x H1
def OpR.mono {g:Zz->Zz->Sem Zz} {r:R2} (h:OpR X g r):OpR X g (mR r):=fun pz s σ H x y v u Q I rx ry ⟨Q0,h0,m⟩=>thn (h pz s σ H x y v u Q0 I rx ry h0) fun v s1 ⟨x,H1,I1,r1,q1⟩=>⟨x,H1,I1,r1,m x H1 q1⟩
def onV:Option (Option V)->(V->Prop)->Prop
 |some (some v),k=>k v
 |_,_=>False
def onS {α:Type}:Option α->(α->Prop)->Prop
 |some v,k=>k v
 |none,_=>False
def fY {α:Type} {x:Option α} {v:α} {k:α->Prop} (h:x=some v) (q:k v):onS x k:=by rw[h];exact q
def A8 {α:Type} {x:Option α} {k:α->Prop} (h:onS x k):∃v,x=some v/\k v:=by
 cases x with
 |none=>exact h.elim
 |some v=>exact⟨v,rfl,h⟩
def cV (i:Nat):TE:=fun σ H Q=>onV σ[i]? fun v=>Q v H
def cv (i:Nat) {x:Str} {pos:Pos} (hN:autoParam (X.N[i]?=some x) auR._auto_1) (hv:Vis X.env.scope x:=by first|exact Or.inl rfl|exact Or.inr (.inl rfl)|exact Or.inr (.inr rfl)) (hd:autoParam ((x==("__debug__":Str))=false) auD._auto_1)
  (hcd:autoParam ((x==("__classdict__":Str))=false) auD._auto_1):PE X (.Name x pos) (cV i):=(pv i hN hv hd hcd).weak fun σ H Q h=>by
 unfold cV at h
 cases q:σ[i]? with
 |none=>rw[q]at h;exact h.elim
 |some o=>
  rw[q]at h
  cases o with
  |none=>exact h.elim
  |some v=>exact⟨v,q,h⟩
def cI0 (g:Int->Int->V):R2:=fun x y H Q=>match x,y with
 | .int i,.int j=>Q (g i j) H
 |_,_=>False
def cI (C:Int->Int->Prop) (g:Int->Int->V):R2:=fun x y H Q=>match x,y with
 | .int i,.int j=>C i j/\Q (g i j) H
 |_,_=>False
def tX {g:Int->Int->V}:∀x y H Q,cI0 g x y H Q->rI0 g x y H Q:=fun x y H Q h=>by
 unfold cI0 at h;split at h;·exact⟨_,_,rfl,rfl,h⟩
 ·exact h.elim
def CI {C:Int->Int->Prop} {g:Int->Int->V}:∀x y H Q,cI C g x y H Q->rI C g x y H Q:=fun x y H Q h=>by
 unfold cI at h;split at h;·exact⟨_,_,rfl,rfl,h.1,h.2⟩
 ·exact h.elim
def jE:OpR X (Ly .Add) (cI0 fun i j=> .int (i+j)):=Dv.weak tX
def A9:OpR X (Ly .Sub) (cI0 fun i j=> .int (i-j)):=GC.weak tX
def DL:OpR X (Ly .Mult) (cI IK fun i j=> .int (i*j)):=GD.weak CI
def jh:OpR X (Ly .FloorDiv) (cI KH fun i j=> .int (i/j)):=Em.weak CI
def hG:OpR X (Ly .Mod) (cI (fun _ j=>0<j) fun i j=> .int (i%j)):=GF.weak CI
def yD:OpR X (Ly .Pow) (cI KI fun i j=> .int (i^j.toNat)):=GG.weak CI
def tm:OpR X (Lp .Lt) (cI0 fun i j=> .bl (decide (i<j))):=GH.weak tX
def Hj:OpR X (Lp .LtE) (cI0 fun i j=> .bl (decide (i<=j))):=sZ.weak tX
def qT:OpR X (Lp .Gt) (cI0 fun i j=> .bl (decide (j<i))):=GI.weak tX
def Jy:OpR X (Lp .GtE) (cI0 fun i j=> .bl (decide (j<=i))):=Je.weak tX
def cEq (n:Bool):R2:=fun x y H Q=>match x,y with
 | .int i,.int j=>Q (.bl (xor n (decide (i=j)))) H
 | .str i,.str j=>Q (.bl (xor n (decide (i=j)))) H
 |_,_=>False
def KP {i j:Str}:decide (V.str i=V.str j)=decide (i=j):=by rw[eW];simp
def KQ {i j:Int}:decide (V.int i=V.int j)=decide (i=j):=by rw[eW];simp
def iA:OpR X (Lp .Eq) (cEq false):=uq.weak fun x y H Q h=>by
 unfold cEq at h;split at h;·refine⟨rfl,?_⟩;rw[KQ];rw[eZ]at h;exact h
 ·refine⟨rfl,?_⟩;rw[KP];rw[eZ]at h;exact h
 ·exact h.elim
def v9:OpR X (Lp .NotEq) (cEq true):=oj.weak fun x y H Q h=>by
 unfold cEq at h;split at h;·refine⟨rfl,?_⟩;rw[KQ];rw[e8]at h;exact h
 ·refine⟨rfl,?_⟩;rw[KP];rw[e8]at h;exact h
 ·exact h.elim
def onB:V->(Bool->Prop)->Prop
 | .bl k,q=>q k
 |_,_=>False
def Hk {x:V} {k:Bool->Prop} (h:onB x k):∃c,x= .bl c/\k c:=by cases x<;>first|exact⟨_,rfl,h⟩|exact h.elim
def cT (t:TE):TT:=fun σ H Q=>t σ H fun x H'=>onB x fun k=>Q k H'
def gb {op:CmpOp} {r:R2} (ho:OpR X (Lp op) r) (ha:PE X a ta) (hb:PE X b tb) (hm:LJ op b=false:=by exact Ap _):PT X (.Compare a [op] [b] pos) (cT (tOp r ta tb)):=
 (jg ho.mono ha.mono hb.mono hm).weak fun σ H Q h=>⟨_,h,fun x H1 h1=>⟨_,h1,fun y H2 h2=>⟨_,h2,fun z H' h3=>Hk h3⟩⟩⟩
def Hl:R2:=fun x y H Q=>match x,y with
 | .ref p,.int i=>∃xs,H p=some (.lst xs)/\onS (atI xs i) fun v=>Q v H
 |_,_=>False
def ES:R2:=fun x y H Q=>match x,y with
 | .ref p,.int i=>∃xs,H p=some (.tup xs)/\onS (atI xs i) fun v=>Q v H
 |_,_=>False
def KR:R2:=fun x y H Q=>match x,y with
 | .str z,.int i=>z.length<=sizeLine/\onS (atI z.cps.toList i) fun c=>Q (.str ⟨#[c]⟩) H
 |_,_=>False
def f7:IxR X Hl:=AH.weak fun x y H Q h=>by
 unfold Hl at h;split at h;·obtain⟨xs,e,h⟩:=h;obtain⟨v,ev,h⟩:=A8 h;exact⟨_,xs,_,v,rfl,rfl,SqL.of e,ev,h⟩
 ·exact h.elim
def gy:IxR X ES:=GU.weak fun x y H Q h=>by
 unfold ES at h;split at h;·obtain⟨xs,e,h⟩:=h;obtain⟨v,ev,h⟩:=A8 h;exact⟨_,xs,_,v,rfl,rfl,SqT.of e,ev,h⟩
 ·exact h.elim
def Ba:IxR X KR:=AI.weak fun x y H Q h=>by
 unfold KR at h;split at h;·obtain⟨e,h⟩:=h;obtain⟨v,ev,h⟩:=A8 h;exact⟨_,_,v,rfl,rfl,e,ev,h⟩
 ·exact h.elim
def Fd (H:Hp) (a C:Zx) (f:Str) (v:V):Prop:=∃dx fs,H a=some (.ins C dx fs)/\fs.lookup f=some v
def Nf (H:Hp) (a C:Zx) (m:Str):Prop:=∃dx fs,H a=some (.ins C dx fs)/\fs.lookup m=none
def Gg (C:Zx) (f:Str) (ta:TE):TE:=fun σ H Q=>ta σ H fun x H1=>match x with
 | .ref a=>∃v,Fd H1 a C f v/\Q v H1
 |_=>False
def gk {C:Zx} {f:Str} (c:Cls X.K C) (n:iI X.K C f) (he:PE X e ta) (hb:autoParam (LW e f X.env (eval e X.env)=eval e X.env) auR._auto_1):PE X (.Attribute e f pos) (Gg C f ta):=
 (pk he.mono hb).weak fun σ H Q h=>⟨_,h,fun x H1 h1=>by
  cases x with
  |ref a=>obtain⟨v,⟨dx,fs,ea,ev⟩,q⟩:=h1;exact⟨a,C,dx,fs,v,rfl,ea,c,n,ev,q⟩
  |_=>exact h1.elim⟩
def Jz (C:Zx) (m:Str) (sp:Sp) (dvs:List V) (E:XK) (ta:TE) (t:TA):TE:=fun σ H Q=>ta σ H fun x H1=>match x with
 | .ref a=>Nf H1 a C m/\t σ H1 fun vs H2=>sp (.ref a::(vs++dvs)) H2 Q E
 |_=>False
def gL {C:Zx} {m:Str} {sp:Sp} {dvs:List V} {E:XK} {t:TA} (h:PE X e (Ew C m sp dvs E (mT ta) t)):PE X e (Jz C m sp dvs E ta t):=h.weak fun σ H Q h=>⟨_,h,fun x H1 h1=>by
  cases x with
  |ref a=>obtain⟨⟨dx,fs,ea,l⟩,q⟩:=h1;exact⟨a,dx,fs,rfl,ea,l,q⟩
  |_=>exact h1.elim⟩
def JA (C:Zx) (f:Str) (ta tv:TE):TS:=fun D σ H=>tv σ H fun y H1=>ta σ H1 fun x H2=>match x with
 | .ref a=>∃dx fs,H2 a=some (.ins C dx fs)/\fs.length<1000/\D.nx σ (upd H2 a (.ins C dx (jD f y fs)))
 |_=>False
def iX {C:Zx} {f:Str} {tv:TE} (c:Cls X.K C) (n:iI X.K C f) (h:PS X st (KL X.K (mT ta) (mT tv) f)):PS X st (JA C f ta tv):=h.weak fun D σ H h=>⟨_,h,fun y H1 h1=>⟨_,h1,fun x H2 h2=>by
  cases x with
  |ref a=>obtain⟨dx,fs,ea,l,q⟩:=h2;exact⟨a,C,dx,fs,rfl,ea,c,n,l,q⟩
  |_=>exact h2.elim⟩⟩
def cS:R2:=fun x y H Q=>match x,y with
 | .str i,.str j=>i.length+j.length<=sizeLine/\Q (.str (i++j)) H
 |_,_=>False
def jQ:OpR X (Ly .Add) cS:=tP.weak fun x y H Q h=>by
 unfold cS at h;split at h;·exact⟨_,_,rfl,rfl,h.1,h.2⟩
 ·exact h.elim
def KS (to ta:TE):TE:=fun σ H Q=>to σ H fun x H1=>match x with
 | .ref l=>(∃xs,H1 l=some (.lst xs))/\ta σ H1 fun y H2=>∃xs,H2 l=some (.lst xs)/\xs.length<sizeLine/\Q .non (upd H2 l (.lst (xs++[y])))
 |_=>False
def iO (h:PE X e (tBM X.K "list" AK (mT to) (kI (mT ta) yt))):PE X e (KS to ta):=h.weak fun σ H Q h=>⟨_,h,fun x H1 h1=>by
  cases x with
  |ref l=>obtain⟨⟨xs,e⟩,q⟩:=h1;exact⟨.inl ⟨rfl,xs,SqL.of e⟩,_,q,fun y H2 ⟨xs,e,hl,q2⟩=>⟨l,xs,y,rfl,rfl,e,hl,q2⟩⟩
  |_=>exact h1.elim⟩
end
end L2.Internal
namespace BO.Internal
open PySem L2.Internal
structure Rw where
 w:Bool
 a:Int
 b:Int
 y:Option (Int×Int)
end BO.Internal
namespace L2.Internal
open PySem PySem.Spec PyProof.Rows
section
variable {X:Cx}
end
def Itv (K:Zp) (a:Zx) (n:Nat):It:=
 ⟨fun i H=>i<n/\∃xs,SqL K H a xs/\xs.length=n,fun i H x H'=>H'=H/\∀xs,SqL K H a xs->xs[n-1-i]?=some x,fun i _=>i=n⟩
def CJ {P:Zu} {w:Zv} {K:Zp} {tg:Zr} (a it:Zx) (n:Nat):Du P w K tg (Itv K a n) [it] it (fun i h=>h.IsRevIter it a ((n:Int)-1-(i:Int))) where
 mem:=by simp
 obj:=fun i h st b hb=>by
  have e:b=it:=by simpa using hb
  subst e;obtain⟨o,e,c,d⟩:=st;exact⟨o,e,fun v z=>by rw[d]at z;cases z⟩
 keep:=fun i h h' st k=>st.at fun o e=>k it (by simp) o e
 item:=by
  intro X hP hw hK hc i pz s σ H E I hf st hg;subst hP hw hK;obtain⟨hi,xs,hq,hn⟩:=hg;obtain⟨its,rv,p,hz⟩:=I.list hq;have hlt:n-1-i<xs.length:=by lia
  obtain⟨u,hu,ru⟩:=rv.get (bE hlt);obtain⟨f0,f1,f2,f3,f4,f5⟩:=hf it (by simp);have e:(n:Int)-1-(i:Int)=((n-1-i:Nat):Int):=by lia
  have st':=st;rw[e]at st';refine wpAny_pyNext_rev_item st' p.isList (x:=u) (by simpa using hu) fun h' st2 sb=>?_;have e2:((n-1-i:Nat):Int)-1=(n:Int)-1-((i+ 1:Nat):Int):=by lia
  rw[e2]at st2;have I1:Inv X pz σ H {s with heap:=h'}:=I.turned (t':=s.toks) (fun b o hb e=>(sb.2 b hb).trans e) f0 f1 f3 f4 f5;obtain⟨o,eo,c,d⟩:=id st2;exact⟨u,rfl,Ai (s:={s with heap:=h'}) eo c d (by decide) ⟨xs[n-1-i],H,I1,ru,⟨rfl,fun ys hy=>by rw[I.list_inj hy hq];exact bE hlt⟩,st2,fun b hb=>(hf b hb).1⟩⟩
 done:=by
  intro X hP hw hK hc i pz s σ H E I hf st hg;subst hP hw hK;have hi:i=n:=hg;subst hi;obtain⟨f0,f1,f2,f3,f4,f5⟩:=hf it (by simp);have e:(i:Int)-1-(i:Int)= -1:=by lia
  have st':=st;rw[e]at st';exact wpAny_pyNext_rev_end (I.ok.hd hc) st' fun h' eb=>⟨rfl,I.turned (t':=s.toks) (fun b o hb e=>eb b o hb e) f0 f1 f3 f4 f5⟩
 self:=fun _ _ _ _ _ st h=>wpAny_pyIter_revIter st h
def iRev (K:Zp) (ta:TA):TI:=fun σ H R=>ta σ H fun vs H1=>∃a xs,vs=[.ref a]/\SqL K H1 a xs/\R (Itv K a xs.length) H1
def rS:Lm "reversed"=some (.type "reversed"):=by first|rfl|decide+kernel
section
variable {X:Cx}
def Hn {tg:Zr} {a:Zr} {ta:TA} {p pos:Pos} (hg:Gl X "reversed") (hm:X.mg "reversed"=none) (ha:PA X [a] ta) (hs:autoParam (Lg [a] X.env=[(false,eval a X.env)]) auR._auto_1):
  PI X tg (.Call (.Name "reversed" p) [a] [] pos) (iRev X.K ta):=by
 intro pz s σ H R I h;refine Call_ (ph I hg hm rS (fJ (thn (ha pos pz s σ H _ I h) ?_) hs rfl));rintro us s1 ⟨vs,H1,I1,r1,q1⟩;obtain⟨l1,xs,e,hq,q⟩:=q1;subst e;obtain⟨u,rfl,ru⟩:=my r1;cases ru;obtain⟨i1s,w1,p1,z1⟩:=I1.list hq;have hl:=w1.length;refine call_reversed_list p1.isList ?_;have sz:((i1s.toArray.size:Nat):Int)-1=(xs.length:Int)-1-((0:Nat):Int):=by simp only[aW];lia
 rw[sz];have st:(s1.heap.push (revObj l1 ((xs.length:Int)-1-((0:Nat):Int)))).IsRevIter s1.heap.objs.size l1 ((xs.length:Int)-1-((0:Nat):Int)):=⟨_,fD _ rfl,rfl,rfl⟩;refine wpAny_pyIter_revIter (s:={s1 with heap:=s1.heap.push (revObj l1 ((xs.length:Int)-1-((0:Nat):Int)))}) st ?_;refine⟨s1.heap.objs.size,[s1.heap.objs.size],_,_,H1,rfl,I1.kept (t':=s1.toks) fun b o e=>fE _ e,CJ l1 _ xs.length,st,fun b hb=>?_,q⟩;have e:b=s1.heap.objs.size:=by simpa using hb
 subst e;exact I1.fpOk (cH _) (I1.hok.fresh (cH _))
def Bb:MtR X "dict.update" (fun x xs H Q=>∃d o kvs more,x= .ref d/\xs=[.ref o]/\d≠o/\H d=some (.dK kvs)/\H o=some (.dK more)/\kvs.length+more.length<=sizeLine/\Q .non (upd H d (.dK (jP kvs more)))):=by intro pz s σ H x xs v us Q I rx rs h;obtain⟨d,o,kvs,more,rfl,rfl,hne,hd,ho,hl,q⟩:=h;cases rx;obtain⟨u,rfl,ru⟩:=my rs;cases ru;obtain⟨z1,s1,vs,rel,dd⟩:=vR I.hok hd;obtain⟨z2,s2,ws,rel2,dd2⟩:=vR I.hok ho;refine call_meetsIn eM dd.typeIs PySem.F.entry_dict_update (PySem.F.args_dict_update_2 _ _) (meets_dict_update (jf X.prog X.w) d o hne s2) ⟨vs,ws,dd,dd2,by rw[<-rel.length,<-rel2.length];exact hl,fun h' dd' _ sb=>?_⟩;have he:∃q,h'.get? d=some q:=let⟨q,_,_,hq,_⟩:=dd';⟨q,hq⟩;have hl':(jP kvs more).length<=sizeLine:=cE (mB more kvs) hl;exact⟨.non,_,rF (t':=s.toks) I (by rw[hd];exact LA) sb he (rG hl' s1 (rel2.merge rel) dd'),rfl,q⟩
end
section
variable {X:Cx}
def JB {scope:Scope} {x y:Str} (ns:Zd) (cap:List (Str×Nat×Zx)) (hns:cap.map (·.1)=ns) (hk:scope.kind= .function) (hn:∀p∈scope.names,p.2≠ .cell/\(p.2= .free->p.1∈ns)) (hl:∀y∈scope.names,y.2= .local->scope.names.lookup y.1=some .local)
  (hx:scope.names.lookup x=some .local) (hnd:(x::y::ns).Nodup) (hc:L9 scope X.env=pure (cap.map fun p=>(p.1,p.2.2))) (hok:X.env.scope.kind= .function)
  (h:∀p∈cap,scope.names.lookup p.1=some .free/\X.env.cells.lookup p.1=some p.2.2/\X.env.scope.names.lookup p.1=some .cell/\X.N[p.2.1]?=some p.1):
  pX X (x::y::ns) scope (cap.map fun p=>(p.1,p.2.2)) (fun σ=>none::none::cap.map fun p=>σ.getD p.2.1 none) 0 x where
 kind:=hk
 cell:=fun y hy=>(hn y hy).1
 names:=hl
 clos:=hc
 lk:=fun z c q=>by obtain⟨p,hp,e⟩:=bf.mp (Lj q);cases e;exact(h p hp).2.1
 has:=fun z q=>by
  refine pZ ?_;rw[hns];rcases q with q|q
  ·obtain⟨k0,e,q⟩:=hV q;have m:=hn _ (Lj e);rcases q with q|⟨q,_⟩;·exact absurd q.symm m.1
   ·exact m.2 q
  ·obtain⟨k0,e,q⟩:=hV q;have m:=hn _ (Lj e);rcases q with q|⟨q,_⟩;·exact m.2 q.symm
   ·exact m.2 q
 nd:=hnd
 ix:=rfl
 loc:=hx
 len:=fun _ _=>by simp[<-hns]
 val:=fun σ k z v h1 h2=>by
  match k with
  |0=>simp at h2
  |1=>simp at h2
  |k+ 2=>
   rw[<-hns,bH,bH,aO]at h1;rw[bH,bH,aO]at h2
   cases e:cap[k]? with
   |none=>rw[e]at h1;cases h1
   |some p=>
    rw[e]at h1 h2;have ez:p.1=z:=dm.inj h1;have ev:σ.getD p.2.1 none=some v:=dm.inj h2;subst ez;obtain⟨a1,a2,a3,a4⟩:=h p (aP e);rw[bq]at ev;refine⟨p.2.1,a4,?_,a3,iW hok a3 a1⟩
    cases q:σ[p.2.1]? with
    |none=>rw[q]at ev;cases ev
    |some o=>rw[q]at ev;exact congrArg some ev
end
section
variable {X:Cx} {pz:Za} {σ:St} {H:Hp} {s:Zy}
end
section
variable {prog:Zu} {w:Zv} {A:Zw} {R:Result->Zy->Prop} {I:Zx} {fp wr:List Zx} {n:Nat} {P:Nat->Zz->Prop} {St:Nat->Zt->Prop}
end
section
variable {prog:Zu} {w:Zv} {A:Zw} {E:Zb} {s:Zy} {l:Zx} {xs:Array (Int×Tok)}
end
section
variable {X:Cx}
end
section
variable {X:Cx}
end
def zH:typeLookup (.type "list_reverseiterator") "__len__"=pure none:=by rw[typeLookup_type,L7];kernel_rfl
def CK:typeLookup (.type "list_reverseiterator") "__length_hint__"=pure (some (.builtin "list_reverseiterator.__length_hint__")):=by rw[typeLookup_type,L7];kernel_rfl
section
variable {prog:Zu} {w:Zv} {A:Zw} {s:Zy}
def CL {E:Zb} {it l:Zx} {i:Int} {Q:Bool->Zy->Prop} (hit:s.heap.IsRevIter it l i) (h:Q false s):La (model prog w) A (Builtin.List.listLengthHint (.ref it)) Q E s:=by unfold Builtin.List.listLengthHint;refine C5 (wpAny_specialOf hit.typeIs zH ?_);show La _ _ (specialOf (Li it) (Mp "__length_hint__") >>= _) _ _ _;refine C5 (wpAny_specialOf hit.typeIs CK ?_);generalize hid:("list_reverseiterator.__length_hint__":String)=idr;wp_delta;rw[show splitId idr=some ("list_reverseiterator","__length_hint__")from by subst hid;decide+kernel];subst hid;refine C5 (wpAny_isInstance (T:="list_reverseiterator") (b:=true) hit.typeIs (by rw[isSubtype_type];kernel_rfl) ?_);refine wpAny_ite_split (fun hz=>absurd hz (by decide)) (fun _=>?_);refine wpAny_ite_split (fun _=>?_) (fun hz=>absurd gA hz);exact wpAny_ite_split (fun hz=>absurd hz (by decide)) (fun _=>Lb h)
def zI {R:Result->Zy->Prop} {it l:Zx} {items:Array Zz} (hh:A.handled=none) (hit:s.heap.IsRevIter it l ((items.size:Int)-1)) (hl:s.heap.IsList l items) (hne:l≠it) (hz:items.size<=sizeLine) (D:Zx) (res:Zz) (c0:Nat)
  (hD:s.heap.get? D=some {cls:= .type "list",data:= .seq #[] c0}) (hDi:D≠it) (hDl:D≠l)
  (hR:∀h2 tk acc c2,(∀b o,b≠D->b≠it->s.heap.get? b=some o->h2.get? b=some o)->h2.get? D=some {cls:= .type "list",dict:=none,data:= .seq acc c2,slots:=#[]}->
   ItemsOf (fun i v=>items[items.size-1-i]?=some v) acc items.size->R (.ok (.ret res)) {s with heap:=h2,toks:=tk}):
  La (model prog w) A.in1 (LS (.ref D) (.ref it) res)
   (fun fin s'=>match fin with| .done f=>R (.ok f) s'| .again c'=>c'.quiet=true/\Me (model prog w) A c' R s') (fun e s'=>R (.error e) s') s:=by
 have W:=(Walks.listRev (prog:=prog) (w:=w) (A:=A.in1) hh it l hne items).toS;unfold LS;refine C5 (Mq hit.typeIs ?_);have h1:Builtin.List.listSameRef (.ref D) (.ref it)=false:=by simp[Builtin.List.listSameRef,hDi]
 have h2:(Value.type "list_reverseiterator"==Value.type "list")=false:=by decide
 have h3:(Value.type "list_reverseiterator"==Value.type "tuple")=false:=by decide
 simp only[h1,h2,h3,Bool.or_false,Bool.false_eq_true,if_false];refine C5 (wpAny_pyIter_revIter hit ?_);refine C5 (LK (CL hit ?_));refine wpAny_ite_split (fun hz=>absurd hz (by decide)) (fun _=>?_);refine Lb ⟨plainId_quiet F.plain_extend_loop _,codeAny_extend_loopS W hz D (fun hm=>?_) res items.size 0 _ #[] c0 rfl (cJ _) ⟨cJ _,by simpa using hit,hl⟩ hD (ItemsOf.nil _) fun s' acc c2 hm hS hacc=>?_⟩
 ·rcases ak.mp hm with e|hm;·exact hDi e
  ·exact hDl (bj.mp hm)
 ·rw[Moved.eq_with hm];refine hR s'.heap s'.toks acc c2 (fun b o hb hb2 e=>hm.heap b o (fun hmem=>?_) e) hS hacc;rcases ak.mp hmem with e'|hmem;·exact hb e'
  ·exact hb2 (bj.mp hmem)
def uG {E:Zb} {Q:Zb} {it l:Zx} {items:Array Zz} (hh:A.handled=none) (hit:s.heap.IsRevIter it l ((items.size:Int)-1)) (hl:s.heap.IsList l items) (hne:l≠it) (hz:items.size<=sizeLine)
  (hQ:∀h2 tk acc c2,(∀b o,b≠it->s.heap.get? b=some o->h2.get? b=some o)->h2.get? s.heap.objs.size=some {cls:= .type "list",dict:=none,data:= .seq acc c2,slots:=#[]}->
   ItemsOf (fun i v=>items[items.size-1-i]?=some v) acc items.size->Q (.ref s.heap.objs.size) {s with heap:=h2,toks:=tk}):
  La (model prog w) A (call (.type "list") [.ref it]) Q E s:=by
 have hi:it<s.heap.objs.size:=by obtain⟨o,e,_⟩:=hit;exact fC e
 have hll:l<s.heap.objs.size:=by obtain⟨o,e,_⟩:=hl;exact fC e
 refine callType_codes (Q₁:=fun obj s₁=>obj= .ref s.heap.objs.size/\s₁={s with heap:=s.heap.push {cls:= .type "list",data:= .seq #[]}}) F.called_list (F.typeCall_list_1 _) F.entry_list_init (code_list_new _ ⟨rfl,rfl⟩) fun obj s1 h1=>?_;obtain⟨rfl,rfl⟩:=h1;have hS:(s.heap.push {cls:= .type "list",data:= .seq #[]}).get? s.heap.objs.size=some {cls:= .type "list",data:= .seq #[]}:=fD _ rfl;have hit1:(s.heap.push {cls:= .type "list",data:= .seq #[]}).IsRevIter it l ((items.size:Int)-1):=hit.at fun o e=>fE _ e;have hl1:(s.heap.push {cls:= .type "list",data:= .seq #[]}).IsList l items:=hl.push _;refine⟨⟨_,hS,rfl⟩,F.args_list_init_2 _ _,?_⟩;show La _ A.in1.in1 (do let old<-Builtin.List.listItems (.ref s.heap.objs.size);Builtin.List.listUpdate (.ref s.heap.objs.size) (fun _=>#[]);letGo old.toList.reverse;LS (.ref s.heap.objs.size) (.ref it) .none) _ _ _;refine C5 ?_;unfold Builtin.List.listItems;refine C5 (Lw hS rfl (Lb ?_));show La _ A.in1.in1 (updateSeq s.heap.objs.size (fun _=>#[]) >>= fun _=>letGo (#[]:Array Zz).toList.reverse >>= fun _=>LS (.ref s.heap.objs.size) (.ref it) .none) _ _ _;refine C5 (wpAny_updateSeq hS rfl ?_);have hS2:=fG (Obj.mapSeq (fun _=>(#[]:Array Zz))) hS rfl;refine C5 (wpAny_letGo ?_);have ni:s.heap.objs.size≠it:=cG hi;have nl:s.heap.objs.size≠l:=cG hll;refine zI (A:=A.in1) hh (hit1.at fun o e=>(fH _ _ ni).trans e) (hl1.at fun o e=>(fH _ _ nl).trans e) hne hz _ .none _ hS2 ni nl fun h2 tk acc c2 hk hD hacc=>?_;exact⟨rfl,hQ h2 tk acc c2 (fun b o hb e=>hk b o (cD (fC e)) hb ((fH _ _ (cG (fC e))).trans (fE _ e))) hD hacc⟩
end
section
variable {X:Cx}
def tLR (K:Zp) (ta:TA):TE:=fun σ H Q=>ta σ H fun vs H1=>∃a xs,vs=[.ref a]/\SqL K H1 a xs/\∀l,H1 l=none->Q (.ref l) (upd H1 l (.lst xs.reverse))
def zJ {a:Zr} {ta:TA} {p pos p2 pos2:Pos} (hc:X.calm=true) (hg:Gl X "list") (hm:X.mg "list"=none) (hg2:Gl X "reversed") (hm2:X.mg "reversed"=none) (ha:PA X [a] ta)
  (hs:autoParam (Lg [a] X.env=[(false,eval a X.env)]) auR._auto_1) (hs2:autoParam (Lg [.Call (.Name "reversed" p2) [a] [] pos2] X.env=[(false,eval (.Call (.Name "reversed" p2) [a] [] pos2) X.env)]) auR._auto_1):
  PE X (.Call (.Name "list" p) [.Call (.Name "reversed" p2) [a] [] pos2] [] pos) (tLR X.K ta):=by
 intro pz s σ H Q I h;refine L4 (ph I hg hm rP ?_ (by decide) (by decide));refine fJ ?_ hs2 rfl;rw[hs2];refine Mn ?_;refine Call_ (ph I hg2 hm2 rS (fJ (thn (ha pos2 pz s σ H _ I h) ?_) hs rfl));rintro us s1 ⟨vs,H1,I1,r1,q1⟩;obtain⟨l1,xs,e,hq,q⟩:=q1;subst e;obtain⟨u,rfl,ru⟩:=my r1;cases ru;obtain⟨i1s,w1,p1,z1⟩:=I1.list hq;have hlen:=w1.length;refine call_reversed_list p1.isList ?_;refine Calls.spliced_nil ?_;have st:(s1.heap.push (revObj l1 ((i1s.toArray.size:Int)-1))).IsRevIter s1.heap.objs.size l1 ((i1s.toArray.size:Int)-1):=⟨_,fD _ rfl,rfl,rfl⟩;have hlt:l1<s1.heap.objs.size:=by obtain⟨o,e,_⟩:=p1.isList;exact fC e
 refine uG (I1.ok.hd hc) st (p1.isList.push _) (cD hlt) (by rw[aW];lia) fun h2 tk acc c2 hk hD hacc=>?_;have kp:∀b o,s1.heap.get? b=some o->h2.get? b=some o:=fun b o e=>hk b o (cD (fC e)) (fE _ e);have sz:(s1.heap.push (revObj l1 ((i1s.toArray.size:Int)-1))).objs.size=s1.heap.objs.size+ 1:=fF ..;have hv:iR xs.reverse acc.toList:=by
  have e2:acc.toList=i1s.reverse:=by
   refine List.ext_getElem? fun j=>?_;by_cases hj:j<acc.size
   ·have h3:=hacc.2 j acc[j] (fg hj);have hs3:acc.size=i1s.length:=by have h9:=hacc.1;simpa using h9
    rw[aW]at h3;rw[List.getElem?_reverse (show j<i1s.length by lia)];rw[fe,fg hj,<-h3];simp
   ·have h4:acc.size=i1s.length:=by have h9:=hacc.1;simpa using h9
    rw[bJ (by simpa using hj),bJ (by rw[bK];lia)]
  rw[e2];exact w1.reverse
 refine⟨.ref (s1.heap.objs.size+ 1),_,?_,by rw[sz];rfl,q (s1.heap.objs.size+ 1) (I1.hok.fresh (cO _))⟩;refine I1.laid (a:=s1.heap.objs.size+ 1) (t':=tk) kp (cO _) ⟨by rw[bK];exact z1,acc.toList,c2,hv,?_⟩;rw[<-sz];simpa using hD
end
end L2.Internal
namespace L2.Internal
open PySem PySem.Spec PyProof.Rows PySem.W
section
variable {prog:Zu} {w:Zv} {A:Zw} {E:Zb} {s:Zy}
end
section
variable {X:Cx}
end
section
variable {fs ex:List Zx} {H H':Hp} {h h':Zt}
end
section
variable {X:Cx} {pz:Za} {σ:St} {H H':Hp} {s:Zy} {h':Zt}
end
section
variable {X:Cx}
end
end L2.Internal
namespace L2.Internal
open PySem PySem.Spec PyProof.Rows
section
variable {X:Cx} {pz:Za} {σ:St} {H:Hp} {s:Zy}
end
section
variable {X:Cx}
end
section
open PySem.SeqAt
open PySem.AutoSeq1 (wpAny_loadPart')
open PySem.MeetsSeq PySem.MeetsSeq2 PySem.MeetsSeq3
end
section
variable {X:Cx}
end
section
variable {X:Cx}
end
section
variable {X:Cx}
end
theorem tY:∀{ys:Zd} {its:List Zz},iR (ys.map V.str) its->∃l:List (Str×Tok),its=strValues l/\l.map (·.1)=ys
 |[],its,h=>by
  cases its with
  |nil=>exact⟨[],rfl,rfl⟩
  |cons a b=>exact absurd h.length (by simp)
 |y::ys,its,h=>by
  cases its with
  |nil=>exact absurd h.length (by simp)
  |cons u its=>
   obtain⟨t,rfl⟩:∃t,u= .str y t:=by obtain⟨v,hv,r⟩:=h.get (i:=0) (show((y::ys).map V.str)[0]?=some (.str y)from rfl);cases hv;exact r
   obtain⟨l,e1,e2⟩:=tY (ys:=ys) (its:=its) (by
    cases h with
    |cons _ h=>exact h);exact⟨(y,t)::l,by rw[e1];rfl,by rw[aC,e2]⟩
section
variable {X:Cx}
def JC (K:Zp):V->List V->Hp->VK->Prop:=fun x xs H Q=>∃(z:Str) (a:Zx) (ys:Zd),x= .str z/\xs=[.ref a]/\SqL K H a (ys.map V.str)/\(ys.map (·.length)).sum+ys.length*z.length<=sizeLine/\Q (.str (Lr z ys)) H
def Bc:MtR X "str.join" (JC X.K):=by
 intro pz s σ H x xs v us Q I rx rs h;obtain⟨z,a,ys,rfl,rfl,hq,hz,q⟩:=h;obtain⟨t,rfl⟩:=rx;obtain⟨u,rfl,ru⟩:=my rs;cases ru;obtain⟨its,rv,p,_⟩:=I.list hq;obtain⟨l,e1,e2⟩:=tY rv;have hl:=p.isList;rw[e1]at hl;refine SC.join hl e2 ?_ fun t' k=>?_
 ·unfold JoinOk;rw[StrLaws.joinTotal];have:¬(ys.map (·.length)).sum+ys.length*z.length>sizeLine:=by lia
  show(!Builtin.Str.tooLong _)=true;unfold Builtin.Str.tooLong;rw[gQ this];rfl
 ·have e:Txt.join z ys=Lr z ys:=StrLaws.glued_eq_join z ys;rw[e];exact⟨.str _,H,I.tok k,⟨_,rfl⟩,q⟩
end
section
variable {X:Cx}
end
section
variable {X:Cx}
end
section
variable {prog:Zu} {w:Zv} {A:Zw} {E:Zb} {h:Zt} {g:Array GenState} {d:Drawn} {t:Nat} {os:OsState} {a D:Zx} {o:Obj} {K:Zp}
structure KU (K:Zp) (D:Zx):Prop where
 ga:dE K (.ref D) "__getattribute__"=some (some (.builtin "BaseException.__getattribute__"))
 gn:dE K (.ref D) "__getattr__"=some none
 cl:dE K (.ref D) "__class__"=some (some (.builtin "object.__class__"))
 sb:eA K (.ref D) (.type "BaseException")=some true
 so:eA K (.ref D) (.type "object")=some true
 is:dD K D=true
end
section
variable {X:Cx}
end
open Sem (wp)
def DK (h h':Zt):Prop:=∀b o,h.get? b=some o->∃o',h'.get? b=some o'/\o'.dict=o.dict/\o'.cls=o.cls
theorem DK.trans {h h1 h2:Zt} (a:DK h h1) (b:DK h1 h2):DK h h2:=fun x o e=>by obtain⟨o1,e1,d1,c1⟩:=a x o e;obtain⟨o2,e2,d2,c2⟩:=b x o1 e1;exact⟨o2,e2,d2.trans d1,c2.trans c1⟩
section
variable {prog:Zu} {w:Zv} {A:Zw} {E:Zb} {h:Zt} {g:Array GenState} {d:Drawn} {t:Nat} {os:OsState} {a D dx:Zx} {o:Obj} {K:Zp} {name:Str} {v:Zz} {mA:Zc}
end
open Builtin Builtin.ObjectAttr
section
variable {prog:Zu} {w:Zv} {A:Zw} {E:Zb} {h:Zt} {g:Array GenState} {d:Drawn} {t:Nat} {os:OsState} {a D dx:Zx} {o:Obj} {K:Zp} {name:Str} {v:Zz} {mA:Zc} {cd:ClassData} {vs:Array Zz}
structure KW (K:Zp) (D:Zx):Prop where
 xc:KU K D
 sa:dE K (.ref D) "__setattr__"=some (some (.builtin "object.__setattr__"))
 mro:∃cd,PySem.W.clsIn K D=some cd/\cd.hasDict=true/\∀self,refuseLoop self "__setattr__" cd.mro=pure ()
end
section
variable {prog:Zu} {w:Zv} {A:Zw} {E:Zb} {h:Zt} {g:Array GenState} {d:Drawn} {t:Nat} {os:OsState}
variable {nm q:Str} {C N:Zx} {bs bm bmB:List Zz} {hdct:Bool} {sn:Zd} {sub:List Zz} {ab:Bool} {col:Option Bool} {dd:Option Zx} {k0 k1 k2 k3 k5:Option Zz} {B newId initId:String}
end
section
variable {prog:Zu} {w:Zv} {A:Zw} {E:Zb} {s:Zy} {env:Env}
variable {nm q:Str} {C N:Zx} {bs bm bmB:List Zz} {hdct:Bool} {sn:Zd} {sub:List Zz} {ab:Bool} {col:Option Bool} {dd:Option Zx} {k0 k1 k2 k3 k5:Option Zz} {B newId initId:String}
end
section
variable {P:Zu} {w:Zv} {H:Hp} {h:Zt} {a C dx:Zx}
end
section
variable {X:Cx} {pz:Za} {σ:St} {H:Hp} {s:Zy} {A:Zw} {E:Zb} {a C dx:Zx} {f:Str} {fs:List (Str×V)}
end
section
variable {X:Cx} {o value e:Zr} {ta tv:TE} {f:Str} {pos pos':Pos}
end
section
variable {P:Zu} {w:Zv} {K:Zp} {mg:Zc} {base:Zt} {N:Zd} {qual:Str} {scope:Scope} {f:Zx} {cd:Zz} {A:Zw} {outer:List Env} {s₀:Zy} {H₀:Hp} {E:XK}
end
structure KY (K:Zp) (C fI:Zx):Prop where
 at_:∃bm N nm q bs hdct sn sub ab col dd k0 k1 k2 k3 k5,K.lookup C=some (excClassObj nm q C N bs bm hdct sn sub ab col dd k0 k1 k2 k3 k5 "ValueError.__new__")/\eB K N=true/\eC K N "__init__"=some (some (.ref fI))/\eE K EH bm=true
 fn:∃oI,K.lookup fI=some oI/\oI.cls= .type "function"
section
variable {X:Cx} {C fI:Zx} {E:XK} {x:Str} {np cpos pos:Pos} {e:Zr} {es:List Zr} {t:TA} {k:Nat} {fd:Zs} {ps:Zd} {sp:Sp}
end
section
variable {X:Cx} {Y:Zx} {y n:Str} {py hpos:Pos} {b₀:Zq} {body:List Zq} {tb:TS} {i:Nat}
variable {k j:Nat} {f:Zx} {fd:Zs} {ps:Zd} {sp:Sp} {dvs:List V} {ds:List Zz} {x v:Str} {p pv pos pos' tpos:Pos} {e:Zr} {es:List Zr} {t:TA}
end
open Builtin Builtin.ObjectAttr
theorem rT {K:Zp} (self:Zz):∀{l:List Zz},eE K EH l=true->refuseLoop self "__setattr__" l=pure ()
 |[],z=>by cases(beq_iff_eq.mp z:EH=[])
 |v::r,z=>by
  unfold eE at z;rcases Bool.or_eq_true_iff.mp z with q|q;·rw[beq_iff_eq.mp q];exact PySem.F.store_ValueError.passes self
  ·split at q
   ·rename_i A;rw[refuseLoop_ref];split at q;·rename_i c d cd sl lk;rw[eX]at q;exact rT self q.2
    ·cases q
   ·cases q
section
variable {K:Zp} {C fI N:Zx} {nm q:Str} {bs bm:List Zz} {sn:Zd} {sub:List Zz} {ab:Bool} {col:Option Bool} {dd:Option Zx} {k0 k1 k2 k3 k5:Option Zz} {oI:Obj}
def Ho (lk:K.lookup C=some (excClassObj nm q C N bs bm true sn sub ab col dd k0 k1 k2 k3 k5 "ValueError.__new__")) (tl:eE K EH bm=true) (xc:KU K C) (sa:dE K (.ref C) "__setattr__"=some (some (.builtin "object.__setattr__"))):KW K C:=by refine⟨xc,sa,_,by unfold PySem.W.clsIn;rw[lk],rfl,fun self=>?_⟩;show refuseLoop self "__setattr__" (.ref C::bm)=pure ();rw[refuseLoop_ref];exact rT self tl
def Hq (lk:K.lookup C=some (excClassObj nm q C N bs bm true sn sub ab col dd k0 k1 k2 k3 k5 "ValueError.__new__")) (no:eB K N=true) (ni:eC K N "__init__"=some (some (.ref fI))) (tl:eE K EH bm=true) (lI:K.lookup fI=some oI) (cI:oI.cls= .type "function"):KY K C fI:=
 ⟨⟨bm,N,nm,q,bs,true,sn,sub,ab,col,dd,k0,k1,k2,k3,k5,lk,no,ni,tl⟩,⟨oI,lI,cI⟩⟩
end
section
variable {P:Zu} {w:Zv} {K:Zp} {mg:Zc} {base:Zt}
end
section
variable {prog:Zu} {w:Zv} {A:Zw} {E:Zb} {s:Zy}
end
section
variable {X:Cx}
end
section
variable {X:Cx}
end
section
variable {P:Zu} {w:Zv} {K:Zp} {mg:Zc} {base:Zt} {N:Zd} {qual:Str} {scope:Scope} {f:Zx} {cd:Zz} {A:Zw} {outer:List Env} {s₀:Zy} {H₀:Hp} {E:XK}
end
section
variable {X:Cx} {i:Nat} {Y:Zx} {y n:Str} {py hpos:Pos} {b₀:Zq} {body:List Zq} {tb:TS}
variable {k:Nat} {f:Zx} {fd:Zs} {ps:Zd} {sp:Sp} {dvs:List V} {ds:List Zz} {x:Str} {p pos pos' tpos:Pos} {e:Zr} {es:List Zr} {t:TA}
end
section
variable {X:Cx}
end
section
variable {X:Cx} {CX:CXT} {k:Nat} {E:XK} {c e:Zr} {es:List Zr} {tc:TE} {t:TA} {pos:Pos} {S:Zx->Sp->Prop}
def KZ (X:Cx) (CX:CXT) (k:Nat) (f:Zx) (sp:Sp):Prop:=∃fd ps,tU X.prog X.w X.K X.mg X.base CX k f fd ps sp/\dO X.K (.ref f)=true/\pU X.K fd ps []
def Hr (S:Zx->Sp->Prop) (E:XK) (tc:TE) (t:TA):TE:=fun σ H Q=>tc σ H fun x H1=>∃f sp,x= .ref f/\S f sp/\t σ H1 fun vs H2=>sp vs H2 Q E
def CM (hS:∀f sp,S f sp->KZ X CX k f sp) (hr:nL k X.A) (hx:qE CX X E) (hc:PE X c tc) (ha:PA X (e::es) t)
  (hq:autoParam (eval (.Call c (e::es) [] pos) X.env=(do callWith pos (<-eval c X.env) [] (LF pos (Lg (e::es) X.env)) (backToKw pos (Mg [] X.env)))) auR._auto_1)
  (he:autoParam (Lg (e::es) X.env=(false,eval e X.env)::Lg es X.env) auR._auto_1) (hpl:autoParam ((LF pos (Lg es X.env)).any (·.1)=false) auR._auto_1):
  PE X (.Call c (e::es) [] pos) (Hr S E tc t):=by intro pz s σ H Q I h;rw[hq];refine C5 (thn (hc pz s σ H _ I h) ?_);rintro u s1 ⟨v,H1,I1,r1,f,sp,rfl,hs,q1⟩;obtain rfl:u=Li f:=r1;obtain⟨fd,ps,F,hk,hb⟩:=hS f sp hs;refine dU (h₀:=X.base) I1.ok.mod.kin hk (thn (ha pos pz s1 σ H1 _ I1 q1) fun us s2 ⟨vs,H2,I2,r,q⟩=>⟨I2.kIn,?_⟩) he hpl;exact yu F hr hb .nil hx I2 r (by rw[aE];exact q)
end
end L2.Internal
namespace HT.Internal
open PySem PySem.Spec PyProof.Rows L2.Internal
section
variable {prog:Zu} {w:Zv} {A:Zw} {E:Zb} {s:Zy}
end
end HT.Internal
namespace L2.Internal
open PySem PySem.Spec PyProof.Rows
section
variable {X:Cx}
end
def CN {X:Cx} {elt iter:Zr} {es:List Zr} {kk:Nat} {tp:Pos} {x:Str} {scope:Scope} {pos pos':Pos} {N:Zd} {cl:List (Str×Zx)} {f:St->St} {i:Nat} {wi:TI} {g:TG} {te:TE} {use:Option (Zz->Sem Unit)} {Qp:Zb}
  {pz:Za} {s:Zy} {σ:St} {H:Hp} {Q:VK}
  (hc:X.calm=true) (B:pX X N scope cl f i x) (hi:PI X (.Tuple es kk tp) iter wi)
  (hg:∀C s₀ H₀ ex pz,PG (blk X N scope cl C s₀ H₀ ex pz) (.Tuple es kk tp) g) (hte:∀C s₀ H₀ ex pz,PE (blk X N scope cl C s₀ H₀ ex pz) elt te)
  (hs:∀x,LY iter X.env x=pure x) (I:Inv X pz σ H s) (h:tLG wi f g te σ H Q)
  (fin:∀(fl:Flow) (s3 s6:Zy) (H3 H5:Hp) (d:Zx) (m:Zc),Inv X pz σ H3 s3->Inv X pz σ H5 s6->H5 s3.heap.objs.size=none->s6.heap.Ns s3.heap.objs.size m->Q (.ref d) H5->
   compPost (model X.prog X.w) X.A X.xe use Qp (.ref d) s3.heap.objs.size (.ok fl) s6):
  La (model X.prog X.w) X.A (comprehension (.ListComp elt [⟨.Tuple es kk tp,iter,[],0⟩] scope pos) scope X.env pos' (newList []) false (eval iter X.env) use) Qp X.xe s:=by
 refine wpAny_comprehension_free (use:=use) rfl hs B.clos B.kind B.names (thn (hi pz s σ H _ I h) fun xv s1 h1=>thn h1 fun itv s2 h2=>?_);obtain⟨it,fp,tn,J,H2,rfl,I2,T,st2,f2,q⟩:=h2;have hD:H2 s2.heap.objs.size=none:=I2.fresh;obtain⟨W,⟨m0,w0⟩,turn⟩:=q _ hD;refine LC (wpAny_newFunctionEnv B.cell (by intro y hy;simp at hy) (fun h₁ hns₁ hsb₁=>?_) B.kind);have I3:Inv X pz σ (upd H2 s2.heap.objs.size (.lst [])) {s2 with heap:=s2.heap.push {cls:= .type "list",data:= .seq ([]:List Zz).toArray}}:=I2.lnew (its:=[]) (ys:=[]) (t':=s2.toks) .nil (cJ _);have lt2:∀b∈fp,b<s2.heap.objs.size:=fun b hb=>by obtain⟨o,ho,_⟩:=T.obj _ _ st2 b hb;exact fC ho
 have fp3:∀b∈fp,wR X pz (upd H2 s2.heap.objs.size (.lst [])) b:=fun b hb=>by refine⟨?_,(f2 b hb).2⟩;rw[f9 (cD (lt2 b hb))];exact(f2 b hb).1
 generalize hs3:({s2 with heap:=s2.heap.push {cls:= .type "list",data:= .seq ([]:List Zz).toArray}}:Zy)=s3 at I3 hns₁ hsb₁⊢;have eh:s2.heap.push {cls:= .type "list",data:= .seq ([]:List Zz).toArray}=s3.heap:=by rw[<-hs3]
 have lt3:∀b∈fp,b<s3.heap.objs.size:=fun b hb=>by rw[<-eh,fF];exact cP (lt2 b hb)
 have old:∀b o,s3.heap.get? b=some o->h₁.get? b=some o:=fun b o e=>hsb₁.extBut b o (cD (fC e)) (fE _ e);have I4:=AS (tk:=s3.toks+([]:List (Str×Zz)).length) B I3 (ex:=fp) (fun b hb=>⟨fp3 b hb,lt3 b hb⟩) old hns₁;have st4:tn 0 h₁:=T.keep _ _ _ st2 fun b _ o e=>old b o (by rw[<-eh];exact fE _ e);have fpB:∀{H':Hp},(∀b∈fp,H' b=none)->∀b∈fp,wR (blk X N scope cl s3.heap.objs.size s3 (upd H2 s2.heap.objs.size (.lst [])) fp pz) [] H' b:=fun{H'} hn b hb=>by obtain⟨_,g2,g3,g4,g5,g6⟩:=f2 b hb;refine⟨hn b hb,cD (lt3 b hb),fun z=>(ak.mp (I3.stkSub b z)).elim g2 g3,.inl hb,fun y c e=>g5 y c (B.lk y c e),fun p hp=>?_⟩;rw[aE]at hp;exact g6 p hp
 have loop:∀s4:Zy,s4={s3 with heap:=h₁,toks:=s3.toks+([]:List (Str×Zz)).length}->
   Me (model X.prog X.w) X.A (.compLoop (.ListComp elt [⟨.Tuple es kk tp,iter,[],0⟩] scope pos) 0 (.ref it) (.ref s2.heap.objs.size) (compEnvC scope cl s3.heap.objs.size X.env))
    (compPost (model X.prog X.w) X.A X.xe use Qp (.ref s2.heap.objs.size) s3.heap.objs.size) s4:=by
  rintro s4 rfl;refine PyProof.Rows.LCp.codeAny_compLoop_pair (I:=fun n s'=>∃k σ' H',Inv (blk X N scope cl s3.heap.objs.size s3 (upd H2 s2.heap.objs.size (.lst [])) fp pz) [] σ' H' s'/\tn k s'.heap/\(∀b∈fp,H' b=none)/\W k n σ' H') ?_ m0
   ⟨0,f σ,_,I4,st4,fun b hb=>(fp3 b hb).1,w0⟩;rintro n s5 ⟨k,σ5,H5,I5,st5,fr5,w5⟩;rcases turn k n σ5 H5 w5 with⟨stop,qn⟩|⟨go,step⟩
  ·refine Ll (T.done (blk X N scope cl s3.heap.objs.size s3 (upd H2 s2.heap.objs.size (.lst [])) fp pz) rfl rfl rfl hc k [] s5 σ5 H5 _ I5 (fpB fr5) st5 stop) (fun r s6 h6=>?_) fun _ _ z=>z;obtain⟨hr,I6⟩:=h6;subst hr;obtain⟨m6,hn6,_⟩:=id I6.loc;have I7:Inv X pz σ H5 s6:=I3.call' (s':=s6) (ch:=fp) I6.os I6.base I6.hok I6.bare fun b hb=>by obtain⟨_,g2,g3,g4,g5,g6⟩:=f2 b hb;exact⟨g4,g2,g5,g6⟩
   exact fin _ s3 s6 _ H5 _ m6 I3 I7 I6.free hn6 qn
  ·refine Ll (T.item (blk X N scope cl s3.heap.objs.size s3 (upd H2 s2.heap.objs.size (.lst [])) fp pz) rfl rfl rfl hc k [] s5 σ5 H5 _ I5 (fpB fr5) st5 go) (fun r s6 h6=>?_) fun _ _ z=>z;obtain⟨u,hr,h6⟩:=h6;subst hr;refine Ll h6 (fun _ s7 h7=>?_) fun _ _ z=>z;obtain⟨v,H7,I7,r7,y7,st7,fr7⟩:=h7;have I7':=I7.pinned (fpB fr7) (T.obj _ _ st7);have back:∀{σ9:St} {H9:Hp} {s9:Zy},Inv (blk X N scope cl s3.heap.objs.size s3 (upd H2 s2.heap.objs.size (.lst [])) fp pz) ([]++tN fp s7.heap) σ9 H9 s9->(∃m',m'<n/\W (k+ 1) m' σ9 H9)->
     ∃m',m'<n/\∃k σ' H',Inv (blk X N scope cl s3.heap.objs.size s3 (upd H2 s2.heap.objs.size (.lst [])) fp pz) [] σ' H' s9/\tn k s9.heap/\(∀b∈fp,H' b=none)/\W k m' σ' H':=fun{σ9 H9 s9} I9 q9=>by obtain⟨m',hm,w9⟩:=q9;refine⟨m',hm,k+ 1,σ9,H9,I9.unpinned,T.keep _ _ _ st7 fun b hb o e=>(I9.pin (b,o) (ax _ (ax _ (kT hb e)))).1,fun b hb=>?_,w9⟩;obtain⟨o,e,d⟩:=T.obj _ _ st7 b hb;exact(I9.pin (b,o) (ax _ (ax _ (kT hb e)))).2.1
   refine Ll (hg s3.heap.objs.size s3 (upd H2 s2.heap.objs.size (.lst [])) fp pz _ s7 σ5 H7 v u _ I7' r7 (step v H7 y7)) (fun _ s8 h8=>?_) fun _ _ z=>Lo z;obtain⟨σ8,H8,I8,q8⟩:=h8;refine Ll (hte _ _ _ _ _ _ s8 _ H8 _ I8 q8) (fun y s10 h10=>?_) fun _ _ z=>Lo z;obtain⟨v10,H10,I10,r10,xs,hx10,hz,q10⟩:=h10;refine Ll (gK (X:=blk X N scope cl s3.heap.objs.size s3 (upd H2 s2.heap.objs.size (.lst [])) fp pz) _ s10 _ H10 (.ref s2.heap.objs.size) [v10] _ [y] (fun _ H11=>H11=upd H10 s2.heap.objs.size (.lst (xs++[v10]))) I10 rfl (.cons r10 .nil) ⟨_,xs,v10,rfl,rfl,hx10,hz,rfl⟩) (fun _ s11 h11=>?_) fun _ _ z=>Lo z;obtain⟨_,H11,I11,_,e11⟩:=h11;subst e11;exact back I11 q10
 exact codeAny_compStart_list (loop _ rfl) (T.self _ 0 _ _ _ st4 (loop _ rfl))
def Be {X:Cx} {elt iter:Zr} {x y:Str} {j:Nat} {py spos:Pos} {es:List Zr} {kk:Nat} {tp:Pos} {scope:Scope} {pos:Pos} {N:Zd} {cl:List (Str×Zx)} {f:St->St} {i:Nat} {wi:TI} {g:TG} {te:TE}
  (hc:X.calm=true) (B:pX X N scope cl f i x) (hi:PI X (.Tuple es kk tp) iter wi)
  (hg:∀C s₀ H₀ ex pz,PG (blk X N scope cl C s₀ H₀ ex pz) (.Tuple es kk tp) g) (hte:∀C s₀ H₀ ex pz,PE (blk X N scope cl C s₀ H₀ ex pz) elt te)
  (hN:X.N.Nodup) (hj:X.N[j]?=some y) (hy:Loc X.env.scope y) (hsw:autoParam (Ml (.ListComp elt [⟨.Tuple es kk tp,iter,[],0⟩] scope pos) (some (.Name y py)) spos.line X.env=pure true) auR._auto_1) (hs:autoParam (∀x,LY iter X.env x=pure x) auI._auto_1)
  (hf:autoParam (X.fn y=true\/X.env.scope.names.lookup y=some .local) auL._auto_1):PS X (.Assign [.Name y py] (.ListComp elt [⟨.Tuple es kk tp,iter,[],0⟩] scope pos) spos) (El (tLG wi f g te) (gP j)):=by
 intro pz s σ H En I h;rw[exec_Assign_Name_used _ _ _ _ hsw];refine C5 (wpAny_standAt (C5 ?_));show La _ X.A (do let _<-comprehension (.ListComp elt [⟨.Tuple es kk tp,iter,[],0⟩] scope pos) scope X.env _ (newList []) false (eval iter X.env) (some (assign (.Name y py) X.env))) _ _ s;refine C5 (Ll (CN (Qp:=fun _ s'=>SP X pz En .next s') hc B hi hg hte hs I h fun fl s3 s6 H3 H5 d m6 I3 I7 fr hn6 qn=>?_) (fun _ s' hq=>Lb (Lb hq)) fun _ _ e=>e);obtain⟨oC,es,ep,hoC,hdC,hkC⟩:=id hn6;have hCL:s3.heap.objs.size≠X.env.locals:=cG I3.lt;have I8:Inv X (pz++[(s3.heap.objs.size,oC)]) σ H5 s6:=I7.pins_of fun p hp=>(ao.mp hp).elim (fun z=>I7.pin p (ax _ z)) fun z=>by
  have ez:p=(s3.heap.objs.size,oC):=by simpa using z
  subst ez;exact⟨hoC,fr,hCL,I3.nofs (cH _),fun v q=>by rw[hdC]at q;cases q⟩
 show La _ X.A (assign (.Name y py) X.env (.ref d)) _ _ s6;refine Mz (nG (X:=X) I8 hN hj hy (v:= .ref d) rfl (fun s7 I9=>?_) hf);have pC:=I9.pin (s3.heap.objs.size,oC) (ax _ (ax _ (by simp)));refine⟨m6,⟨oC,es,ep,pC.1,hdC,hkC⟩,fun h' sb=>?_⟩;refine⟨σ.set j (some (.ref d)),H5,?_,qn⟩;exact Inv.turned (h':=h') (t':=s7.toks) (it:=s3.heap.objs.size) I9.unpinned (fun b o hb e=>(sb.2 b hb).trans e) pC.2.1 hCL (.inr I3.sz) (fun z c e q=>by obtain⟨v,q2⟩:=I3.cell z c e;exact absurd (q▸q2.lt) (cC _)) fun p hp q=>absurd (q▸fC (I3.pin p hp).1) (cC _)
def Bg:typeLookup (.type "list") "keys"=pure none:=by rw[typeLookup_type,L7];kernel_rfl
section
variable {prog:Zu} {w:Zv} {A:Zw} {E:Zb} {s:Zy}
def CO {a:Zx} {xs:Array Zz} {k:Nat} {sl:Array (Option Zz)} {Q:Option Zz->Zy->Prop} (hx:s.heap.get? a=some {cls:= .type "list",dict:=none,data:= .seq xs k,slots:=sl}) (hA:A.handled=none)
  (q:∀h' tk,(∀b o,s.heap.get? b=some o->h'.get? b=some o)->Q none {s with heap:=h',toks:=tk}):La (model prog w) A (getAttr? (.ref a) "keys") Q E s:=by
 obtain⟨hp,g,d,tk,os⟩:=s;have hT:∀tk',(⟨hp,g,d,tk',os⟩:Zy).TypeIs (.ref a) "list":=fun _=>⟨_,hx,rfl⟩;have f1:=sub_AttributeError;have f3:=F.slot_list_getattribute.lookup;have f4:=F.slot_list_getattribute.bind (.ref a);have f5:=am_list_getattr_none;unfold getAttr? getAttrBy? getAttrBy;repeat(any_goals(first|assumption|exact hT _|((with_reducible show La _ _ (call (Value.builtin "list.__getattribute__") _ _) _ _ _);refine L5 F.slot_list_getattribute (hT _) am_entry_list_getattribute (F.args_list_getattribute_2 _ _) (meets_getattribute_miss_list a xs k sl "keys" _ Bg gA gA) ⟨hx,hA,fun h' tk' e hx'=>?_⟩)|wp_step))
 obtain⟨t',u',he⟩:=hx'.there;show La _ _ (Mu _ _ _ _ _ _ _) _ _ _;unfold Mu;repeat(any_goals(first|assumption|wp_step))
 exact q h' tk' hx'.keeps
end
section
variable {X:Cx} {pz:Za} {σ:St} {H:Hp} {d it t:Zx} {vs:List V} {A:Zw} {R:Result->Zy->Prop}
theorem tZ (hA:A.handled=none) (hd:H d=none) (ht:H t=some (.lst vs)):∀(rest:List (Str×V)) (ys:List V) (i:Nat) (acc:List (Key×V)) (s:Zy),
  Inv X pz σ (upd H d (.dK acc)) s->wR X pz (upd H d (.dK acc)) it->s.heap.IsListIter it t i->vs.drop i=ys->Prs H ys rest->acc.length+rest.length<=1000->
  (∀s',Inv X pz σ (upd H d (.dK (jP acc (rest.map kf)))) s'->R (.ok (.ret .none)) s')->
  Me (model X.prog X.w) A (.builtin "dict.update.loop" ⟨[.ref d,.ref it,.int (i:Int) 0,.none],[]⟩) R s
 |[],ys,i,acc,s,I,f,st,ey,hp,hn,k=>by
  cases hp;have ht':(upd H d (.dK acc)) t=some (.lst vs):=by rw[f9 (fZ ht hd)];exact ht
  obtain⟨its,rv,p,hz⟩:=I.list (SqL.of ht');obtain⟨f0,f1,f2,f3,f4,f5⟩:=f;have hl:=rv.length;have hi:vs.length<=i:=bI.mp ey;refine codeAny_builtin kC ?_;unfold Builtin.«dict.update.loop»;show La _ _ (pyNext (.ref it) >>= _) _ _ s;refine C5 (wpAny_pyNext_list_end (by exact hA) st (show s.heap.IsList t its.toArray from p.isList) (by simp;lia) fun h' eb=>?_);have I1:Inv X pz σ (upd H d (.dK acc)) {s with heap:=h'}:=I.turned (t':=s.toks) (fun b o hb e=>eb b o hb e) f0 f1 f3 f4 f5;exact C5 (Lb (Lb (k _ I1)))
 |pr::rest,ys,i,acc,s,I,f,st,ey,hp0,hn,k=>by
  obtain⟨a,l,rfl,ha,hp⟩:∃a l,ys= .ref a::l/\H a=some (.tup [.str pr.1,pr.2])/\Prs H l rest:=by
   cases hp0 with
   |cons h1 h2=>exact⟨_,_,rfl,h1,h2⟩
  have ht':(upd H d (.dK acc)) t=some (.lst vs):=by rw[f9 (fZ ht hd)];exact ht
  have ha':(upd H d (.dK acc)) a=some (.tup [.str pr.1,pr.2]):=by rw[f9 (fZ ha hd)];exact ha
  obtain⟨its,rv,p,hz⟩:=I.list (SqL.of ht');have ff:=f;obtain⟨f0,f1,f2,f3,f4,f5⟩:=f;have hvi:vs[i]?=some (.ref a):=by have:=congrArg (·[0]?) ey;simpa using this
  obtain⟨u,hu,ru⟩:=rv.get hvi;cases ru;refine codeAny_builtin kC ?_;unfold Builtin.«dict.update.loop»;show La _ _ (pyNext (.ref it) >>= _) _ _ s;refine C5 (wpAny_pyNext_list_item st (show s.heap.IsList t its.toArray from p.isList) (x:= .ref a) (by simpa using hu) fun h' st' sb=>?_);have I1:Inv X pz σ (upd H d (.dK acc)) {s with heap:=h'}:=I.turned (t':=s.toks) (fun b o hb e=>(sb.2 b hb).trans e) f0 f1 f3 f4 f5;obtain⟨its2,rv2,⟨ob,hob,hoc,on,hod⟩,_⟩:=I1.tuple (SqT.of ha');obtain⟨kx,vx,rfl,⟨tk,rfl⟩,rvx⟩:=Aq rv2;obtain⟨z,hds,vs2,rel,dd⟩:=vR I1.hok (show(upd H d (.dK acc)) d=some (.dK acc)from fS);refine C5 (LK (C5 (wpAny_tryCatch ?_)));unfold Builtin.Dict.pairItems;refine C5 (Mq (T:="tuple") ⟨ob,hob,hoc⟩ ?_);rw[gT (by decide)];refine C5 (Lw hob hod ?_);refine Lb ?_;show La _ _ (holding [Value.str pr.1 tk,vx] (dictSet d (.str pr.1 tk) vx)) _ _ _;have hv2:vs2.length<=sizeLine:=by rw[<-rel.length];exact z
  have hn':acc.length+(rest.length+ 1)<=1000:=hn;have hl:(mS acc (Le pr.1) pr.2).length<=1000:=by have:=ig acc (Le pr.1) pr.2;lia
  have hl2:(mS acc (Le pr.1) pr.2).length+rest.length<=1000:=by have:=ig acc (Le pr.1) pr.2;lia
  refine LK (wpAny_dictSet_pairs (hsz:=hv2) (k:=(Le pr.1:Key)) (uv (k:=(Le pr.1:Key)) (show iQ (kV (Le pr.1)) _ from⟨tk,rfl⟩)) dd fun h2 dd2 sb2=>?_);have he:∃q,h2.get? d=some q:=let⟨q,_,_,hq,_⟩:=dd2;⟨q,hq⟩;have I2:=rF (t':=s.toks+ 1) I1 (by rw[fS];exact LA) sb2 he (rG (kvs:=mS acc (Le pr.1) pr.2) (cE hl (by decide)) hds (rel.put (Le pr.1) rvx) dd2);rw[uo]at I2;have hid:it≠d:=fun e=>by rw[e,fS]at f0;exact nomatch f0
  obtain⟨oi,hoi,ri⟩:=st';have st2:h2.IsListIter it t (i+ 1):=⟨oi,(sb2.2 it hid).trans hoi,ri⟩;refine Lb ⟨Mv _ gA,?_⟩;have ey2:vs.drop (i+ 1)=l:=by rw[<-List.tail_drop,ey];rfl
  exact tZ hA hd ht rest l (i+ 1) (mS acc (Le pr.1) pr.2) _ I2 ⟨by rw[f9 hid]at f0⊢;exact f0,f1,f2,f3,f4,f5⟩ st2 ey2 hp hl2 k
end
section
variable {X:Cx}
def zK (hc:X.calm=true):nQ X (.type "dict") (fun xs H Q=>∃(t:Zx) (vs:List V) (kvs:List (Str×V)),xs=[.ref t]/\H t=some (.lst vs)/\Prs H vs kvs/\kvs.length<=1000/\∀d,H d=none->Q (.ref d) (upd H d (.dK (jP [] (kvs.map kf))))):=by
 intro pz s σ H xs us Q I r h;obtain⟨t,vs,kvs,rfl,ht,hp,hn,q⟩:=h;obtain⟨u,rfl,ru⟩:=my r;cases ru;obtain⟨_,its,n,rv,ho⟩:=(show jL X.prog X.w H s.heap t (.lst vs)from I.hok t _ ht);refine callType_codes (Q₁:=fun obj s₁=>obj= .ref s.heap.objs.size/\s₁={s with heap:=s.heap.push {cls:= .type "dict",data:= .dict #[]}}) F.kt_called_dict (F.kt_typeCall_dict_1 _) F.entry_dict_init (kt_code_dict_new _ ⟨rfl,rfl⟩) ?_;rintro obj s₁ ⟨rfl,rfl⟩;have hnew:(s.heap.push {cls:= .type "dict",data:= .dict #[]}).DictOf (jf X.prog X.w) s.heap.objs.size []:=Heap.DictOf.new s.heap;refine⟨hnew.typeIs,F.args_dict_init_2 _ _,?_⟩;unfold Builtin.«dict.__init__»;refine C5 ?_;unfold Builtin.Dict.selfAndRest;refine C5 (wpAny_notOrdered_dict hnew.typeIs ?_);show La _ _ (pure (s.heap.objs.size,[Li t])) _ _ _;refine Lb ?_;show La _ _ (L3 "dict.__init__" s.heap.objs.size (.ref t) [] .none) _ _ _;unfold L3;have ho1:=fE {cls:= .type "dict",data:= .dict #[]} ho;refine C5 (Mq (T:="list") ⟨_,ho1,rfl⟩ ?_);rw[gT (by decide)];refine C5 (CO ho1 (by exact I.ok.hd hc) fun h1 tk1 kp1=>?_);rw[gT (by rfl)];refine C5 (wpAny_rule ?_);have I1:Inv X pz σ (upd H s.heap.objs.size (.dK [])) {s with heap:=h1,toks:=tk1}:=by
  refine I.laid (fun b u e=>kp1 b u (fE _ e)) (cH _) (rG (by decide) ?_ .nil ?_);·have hb:=I.big;exact beq_false_of_ne (cG hb)
  ·obtain⟨o,es,ep,ho,r⟩:=hnew;exact⟨o,es,ep,kp1 _ _ ho,r⟩
 have ho2:h1.IsList t its.toArray:=⟨_,kp1 _ _ ho1,rfl,n,rfl⟩;refine C5 (MA (show({s with heap:=h1,toks:=tk1}:Zy).heap.IsList t its.toArray from ho2) ?_);have f:=I1.fpOk (cH _) (I1.hok.fresh (cH _));have I2:Inv X pz σ (upd H s.heap.objs.size (.dK [])) {s with heap:=h1.push {cls:= .type "list_iterator",data:= .fields #[.ref t,.int 0 0]},toks:=tk1}:=I1.kept (t':=tk1) fun b o e=>fE _ e;refine Lb ⟨Mv _ gA,?_⟩;refine tZ (A:=X.A.in1) (by exact I.ok.hd hc) (I.hok.fresh (cH _)) ht kvs vs 0 [] _ I2 f ⟨_,fD _ rfl,rfl,rfl⟩ rfl hp (by simpa using hn) fun s' J=>?_;exact⟨rfl,.ref s.heap.objs.size,_,J,rfl,q _ (I.hok.fresh (cH _))⟩
def Hs (K:Zp):R2:=fun x y H Q=>∃a b xs ys,x= .ref a/\y= .ref b/\SqT K H a xs/\SqT K H b ys/\xs.length+ys.length<=sizeLine/\
 (xs=[]->Q (.ref b) H)/\(ys=[]->Q (.ref a) H)/\∀p,H p=none->Q (.ref p) (upd H p (.tup (xs++ys)))
def ET:OpR X (Ly .Add) (Hs X.K):=by
 intro pz s σ H x y v u Q I rx ry h;obtain⟨a,b,xs,ys,rfl,rfl,ha,hb,hz,q0,q1,q2⟩:=h;cases rx;cases ry;obtain⟨its,r1,p1,_⟩:=I.tuple ha;obtain⟨its2,r2,p2,_⟩:=I.tuple hb;by_cases hx:xs=[]
 ·obtain⟨⟨cls,dd,data,sl⟩,ho,hc,n,hd⟩:=id p1;obtain⟨⟨cls2,dd2,data2,sl2⟩,ho2,hc2,n2,hd2⟩:=id p2;simp only at hc hd hc2 hd2;subst hc hd hc2 hd2;exact concat_meets ⟨_,ho,rfl⟩ ⟨_,ho2,rfl⟩ noFill_tuple_add seq_tuple_add eJ eK (eL _ _)
   (tuple_addW0 a b its.toArray its2.toArray n n2 dd dd2 sl sl2 (by simp[r1.nil_iff.mpr hx])) ⟨ho,ho2,.ref b,H,I,rfl,q0 hx⟩
 refine HT.Internal.cat_tup p1 p2 (fun z=>hx (r1.nil_iff.mp z)) (fun z=>⟨.ref a,H,I,rfl,q1 (r2.nil_iff.mp z)⟩) (fun z=>?_) (by rw[<-r1.length,<-r2.length];exact hz);refine⟨.ref s.heap.objs.size,_,I.laid (t':=s.toks) (o:= .tup (xs++ys)) (fun b ob q=>fE _ q) (cH _) ?_,rfl,q2 _ (I.hok.fresh (cH _))⟩;exact⟨by rw[aQ];exact hz,_,r1.append r2,yp.new _ _⟩
end
section
variable {X:Cx}
end
def zL {X:Cx}:nQ X (.type "dict") (fun xs H Q=>∃(e:Zx) (kvs:List (Key×V)),xs=[.ref e]/\H e=some (.dK kvs)/\∀d,H d=none->Q (.ref d) (upd H d (.dK kvs))):=by
 intro pz s σ H xs us Q I r h;obtain⟨e,kvs,rfl,he,q⟩:=h;obtain⟨u,rfl,ru⟩:=my r;cases ru;obtain⟨z,hds,vs,rel,dd⟩:=vR I.hok he;refine kt_call_dict hds dd (by rw[<-rel.length];exact z) fun h' hd' hs'=>?_;have hb:=I.big;have I1:Inv X pz σ (upd H s.heap.objs.size (.dK kvs)) {s with heap:=h'}:=by refine I.laid (t':=s.toks) (fun b u e=>?_) (cH _) (rG z (beq_false_of_ne (cG hb)) rel hd');rw[hs'.2 b (cD (fC e))];exact fE _ e
 exact⟨.ref s.heap.objs.size,_,I1,rfl,q _ (I.hok.fresh (cH _))⟩
end L2.Internal
namespace L2.Internal
abbrev Itzm:=Itg tS lS
end L2.Internal
namespace T1
open PySem
def sub (c:Nat) (z:List Nat) (l:List Nat):List Nat:=l.flatMap fun k=>if k=c then z else[k]
def nM (c:Nat) (z a b:List Nat):sub c z (a++b)=sub c z a++sub c z b:=List.flatMap_append ..
theorem uH (c:Nat) (z:List Nat):∀l:List Nat,¬c∈l->sub c z l=l
 |[],_=>rfl
 |k::r,h=>by have h1:¬k=c:=fun e=>h (e▸ai ..);have h2:¬c∈r:=fun m=>h (aj _ m);show(if k=c then z else[k])++sub c z r=k::r;rw[gN h1,uH c z r h2];rfl
def EU (c:Nat) (z:List Nat):sub c z [c]=z:=by simp[sub]
theorem yE (c:Nat) (z:Str):∀parts:List Str,(∀p∈parts,¬c∈p.cps.toList)->sub c z.cps.toList (Lr ⟨#[c]⟩ parts).cps.toList=(Lr z parts).cps.toList
 |[],_=>rfl
 |[p],h=>uH c _ _ (h p (bj.mpr rfl))
 |p::q::r,h=>by have ih:=yE c z (q::r) fun a ha=>h a (aj _ ha);show sub c z.cps.toList (p++⟨#[c]⟩++Lr ⟨#[c]⟩ (q::r)).cps.toList=(p++z++Lr z (q::r)).cps.toList;simp only[Str.cps_append,fh];rw[nM,nM,ih,uH c _ _ (h p (ai ..))];have e:sub c z.cps.toList [c]=z.cps.toList:=EU c _;rw[e]
def cut (c:Nat):List Nat->List (List Nat)
 |[]=>[[]]
 |k::r=>if k=c then[]::cut c r else match cut c r with
  |h::t=>(k::h)::t
  |[]=>[[k]]
theorem yF (c:Nat):∀l:List Nat,¬c∈l->cut c l=[l]
 |[],_=>rfl
 |k::r,h=>by have h1:¬k=c:=fun e=>h (e▸ai ..);have h2:¬c∈r:=fun m=>h (aj _ m);unfold cut;rw[gN h1,yF c r h2]
theorem yG (c:Nat):∀(p r:List Nat),¬c∈p->cut c (p++c::r)=p::cut c r
 |[],r,_=>by show(if c=c then[]::cut c r else _)=_;rw[gT rfl]
 |k::p,r,h=>by have h1:¬k=c:=fun e=>h (e▸ai ..);have h2:¬c∈p:=fun m=>h (aj _ m);show(if k=c then _ else match cut c (p++c::r)with|h::t=>(k::h)::t|[]=>[[k]])=_;rw[gN h1,yG c p r h2]
theorem yH (c:Nat):∀parts:List Str,parts≠[]->(∀p∈parts,¬c∈p.cps.toList)->cut c (Lr ⟨#[c]⟩ parts).cps.toList=parts.map (·.cps.toList)
 |[],h,_=>absurd rfl h
 |[p],_,h=>yF c _ (h p (bj.mpr rfl))
 |p::q::r,_,h=>by
  have ih:=yH c (q::r) (by simp) fun a ha=>h a (aj _ ha);show cut c (p++⟨#[c]⟩++Lr ⟨#[c]⟩ (q::r)).cps.toList=_;simp only[Str.cps_append,fh];have e:p.cps.toList++[c]++(Lr ⟨#[c]⟩ (q::r)).cps.toList=p.cps.toList++c::(Lr ⟨#[c]⟩ (q::r)).cps.toList:=by simp
  show cut c (p.cps.toList++[c]++(Lr ⟨#[c]⟩ (q::r)).cps.toList)=_;rw[e,yG c _ _ (h p (ai ..)),ih];rfl
def step (a:List (List Nat)×List Nat) (k:Nat):List (List Nat)×List Nat:=
 if k=32 then(if a.2=[]then(a.1,[])else(a.1++[a.2],[]))else(a.1,a.2++[k])
def yI (l:List Nat):List (List Nat)×List Nat:=l.foldl step ([],[])
def all (a:List (List Nat)×List Nat):List (List Nat):=if a.2=[]then a.1 else a.1++[a.2]
def rV (a b:List Nat):yI (a++b)=b.foldl step (yI a):=by unfold yI;rw[List.foldl_append]
def Bh (c:Nat):∀l,cut c l≠[]
 |[]=>by simp[cut]
 |k::r=>by
  unfold cut;split;·simp
  ·split<;>simp
theorem uc (c:Nat):∀l,cut c (l++[c])=cut c l++[[]]
 |[]=>by simp[cut]
 |k::r=>by
  have ih:=uc c r;show(if k=c then[]::cut c (r++[c])else match cut c (r++[c])with|h::t=>(k::h)::t|[]=>[[k]])=(if k=c then[]::cut c r else match cut c r with|h::t=>(k::h)::t|[]=>[[k]])++[[]];rw[ih];split;·rfl
  ·cases e:cut c r with
   |nil=>exact absurd e (Bh c r)
   |cons h t=>rfl
theorem rf (c:Nat) {k:Nat} (hk:¬k=c):∀l (A:List (List Nat)) (b:List Nat),cut c l=A++[b]->cut c (l++[k])=A++[b++[k]]
 |[],A,b,h=>by
  have e:A=[]/\b=[]:=by
   cases A with
   |nil=>have h':[[]]=[b]:=h;injection h' with h1 _;exact⟨rfl,h1.symm⟩
   |cons x A=>have h':[[]]=x::(A++[b]):=h;injection h' with _ h2;simp at h2
  obtain⟨rfl,rfl⟩:=e;show(if k=c then _ else match cut c []with|h::t=>(k::h)::t|[]=>[[k]])=_;rw[gN hk];rfl
 |x::r,A,b,h=>by
  have h:(if x=c then[]::cut c r else match cut c r with|h::t=>(x::h)::t|[]=>[[x]])=A++[b]:=h;show(if x=c then[]::cut c (r++[k])else match cut c (r++[k])with|h::t=>(x::h)::t|[]=>[[x]])=A++[b++[k]];by_cases e:x=c
  ·rw[gT e]at h⊢
   cases A with
   |nil=>have h':[]::cut c r=[b]:=h;injection h' with _ h2;exact absurd h2 (Bh c r)
   |cons y A=>have h':[]::cut c r=y::(A++[b]):=h;injection h' with h1 h2;rw[rf c hk r A b h2,<-h1];rfl
  ·rw[gN e]at h⊢
   cases q:cut c r with
   |nil=>exact absurd q (Bh c r)
   |cons g t=>
    rw[q]at h;have h:(x::g)::t=A++[b]:=h
    cases A with
    |nil=>have h':(x::g)::t=[b]:=h;injection h' with h1 h2;rw[rf c hk r [] g (by rw[q,h2];rfl),<-h1];rfl
    |cons y A=>have h':(x::g)::t=y::(A++[b]):=h;injection h' with h1 h2;rw[rf c hk r (g::A) b (by rw[q,h2];rfl),<-h1];rfl
def CQ (l:List Nat):∃A,cut 32 l=A++[(yI l).2]/\A.filter (fun p=>decide (p≠[]))=(yI l).1:=by
 suffices H:∀n (l:List Nat),l.length=n->∃A,cut 32 l=A++[(yI l).2]/\A.filter (fun p=>decide (p≠[]))=(yI l).1 from H _ l rfl;intro n
 induction n with
 |zero=>intro l h;have e:l=[]:=bL.mp h;subst e;exact⟨[],rfl,rfl⟩
 |succ n ih=>
  intro l h;obtain⟨m,k,rfl⟩:∃m k,l=m++[k]:=by
   have hne:l≠[]:=by intro e;rw[e]at h;simp at h
   exact⟨l.dropLast,l.getLast hne,(bM hne).symm⟩
  obtain⟨A,h1,h2⟩:=ih m (by simp at h;exact h);rw[rV];show ∃A,cut 32 (m++[k])=A++[(step (yI m) k).2]/\A.filter (fun p=>decide (p≠[]))=(step (yI m) k).1;by_cases e:k=32
  ·subst e;refine⟨A++[(yI m).2],?_,?_⟩;·rw[uc,h1];unfold step;rw[gT rfl];split<;>rfl
   ·rw[bN,h2];unfold step;rw[gT rfl];by_cases e2:(yI m).2=[];·rw[gT e2,e2];simp
    ·rw[gN e2];simp[e2]
  ·refine⟨A,?_,?_⟩;·unfold step;rw[gN e];exact rf 32 e m A _ h1
   ·unfold step;rw[gN e];exact h2
def words_cut (l:List Nat):(cut 32 l).filter (fun p=>decide (p≠[]))=all (yI l):=by
 obtain⟨A,h1,h2⟩:=CQ l;rw[h1,bN,h2];unfold all;by_cases e:(yI l).2=[];·rw[gT e,e];simp
 ·rw[gN e];simp[e]
def ex (k:Nat):List Nat:=if k=40 then[32,40,32]else if k=41 then[32,41,32]else if k=10 then[32]else[k]
def spaced (l:List Nat):List Nat:=l.flatMap ex
def uI (a b:List Nat):spaced (a++b)=spaced a++spaced b:=List.flatMap_append ..
theorem spaced_sub:∀l:List Nat,sub 10 [32] (sub 41 [32,41,32] (sub 40 [32,40,32] l))=spaced l
 |[]=>rfl
 |k::r=>by
  have ih:=spaced_sub r;have e:∀(c:Nat) (z:List Nat) (l:List Nat) (k:Nat),sub c z (k::l)=(if k=c then z else[k])++sub c z l:=fun _ _ _ _=>rfl;have e2:spaced (k::r)=ex k++spaced r:=rfl;rw[e,nM,nM,ih,e2];congr 1;unfold ex;by_cases h1:k=40;·rw[gT h1,gT h1];rfl
  ·rw[gN h1,gN h1];by_cases h2:k=41;·rw[gT h2,h2];rfl
   ·rw[gN h2,e,gN h2];show sub 10 [32] ([k]++[])=_;rw[aE,e];by_cases h3:k=10;·rw[gT h3];rfl
    ·rw[gN h3];rfl
def W (l:List Nat):List (List Nat)×List Nat:=yI (spaced l)
def rg (a b:List Nat):W (a++b)=(spaced b).foldl step (W a):=by unfold W;rw[uI,rV]
def JD (a:List Nat) {k:Nat} (hk:k=32\/k=10):W (a++[k])=(all (W a),[]):=by
 rw[rg];have e:spaced [k]=[32]:=by rcases hk with e|e<;>subst e<;>rfl
 rw[e];show step (W a) 32=_;unfold step all;rw[gT rfl];split<;>rfl
def Bi (a:List Nat) {k:Nat} (hk:k=40\/k=41):W (a++[k])=(all (W a)++[[k]],[]):=by
 rw[rg];have e:spaced [k]=[32,k,32]:=by rcases hk with e|e<;>subst e<;>rfl
 have n32:¬k=32:=by lia
 rw[e];show step (step (step (W a) 32) k) 32=_;have e1:step (W a) 32=(all (W a),[]):=by unfold step all;rw[gT rfl];split<;>rfl
 rw[e1];show(if(32:Nat)=32 then(if(step (all (W a),[]) k).2=[]then((step (all (W a),[]) k).1,[])else((step (all (W a),[]) k).1++[(step (all (W a),[]) k).2],[]))else _)=_;have e2:step (all (W a),[]) k=(all (W a),[k]):=by unfold step;rw[gN n32];rfl
 rw[gT rfl,e2];rfl
def JE (a:List Nat):∀p:List Nat,(∀k∈p,k≠32/\k≠10/\k≠40/\k≠41)->W (a++p)=((W a).1,(W a).2++p):=by
 intro p hp;rw[rg];have e:spaced p=p:=by
  induction p with
  |nil=>rfl
  |cons k r ih=>obtain⟨h1,h2,h3,h4⟩:=hp k (ai ..);have e2:spaced (k::r)=ex k++spaced r:=rfl;rw[e2,ih fun x hx=>hp x (aj _ hx)];unfold ex;rw[gN h3,gN h4,gN h2];rfl
 rw[e];generalize W a=b
 induction p generalizing b with
 |nil=>show b=_;rw[aE]
 |cons k r ih=>
  obtain⟨h1,h2,h3,h4⟩:=hp k (ai ..);show r.foldl step (step b k)=_;have e1:step b k=(b.1,b.2++[k]):=by unfold step;rw[gN h1]
  have e3:spaced r=r:=by
   have e2:spaced (k::r)=ex k++spaced r:=rfl;have e4:ex k=[k]:=by unfold ex;rw[gN h3,gN h4,gN h2]
   rw[e2,e4]at e;injection e
  rw[e1,ih (fun x hx=>hp x (aj _ hx)) e3];simp
open Builtin Builtin.Str
def replace_codes (x z:Str) (c:Nat):(Txt.replace x ⟨#[c]⟩ z).cps.toList=sub c z.cps.toList x.cps.toList:=by rw[StrLaws.replace_one,<-yE c z _ (StrLaws.split_free x c),StrLaws.join_split]
def CS (x y:Str):LM x y≠[]:=by
 unfold LM;split;·simp
 ·split;·simp
  ·rename_i h
   cases e:occurrences x y 0 x.length (x.length+ 1)with
   |nil=>rw[e]at h;exact absurd rfl h
   |cons a r=>simp[partsBetween]
def split_codes (x:Str) (c:Nat):(LM x ⟨#[c]⟩).map (·.cps.toList)=cut c x.cps.toList:=by have h:=yH c (LM x ⟨#[c]⟩) (CS x _) (StrLaws.split_free x c);rw[StrLaws.join_split]at h;exact h.symm
theorem flat_len (f:Nat->List Nat) (n:Nat) (h:∀k,(f k).length<=n):∀l:List Nat,(l.flatMap f).length<=n*l.length
 |[]=>by simp
 |k::r=>by rw[List.flatMap_cons,aQ,aA];have h1:=h k;have h2:=flat_len f n h r;rw[Nat.mul_succ];lia
def str_ext {x y:Str} (h:x.cps.toList=y.cps.toList):x=y:=by obtain⟨a⟩:=x;obtain⟨b⟩:=y;have e:a=b:=Array.toList_inj.mp h;rw[e]
def len_codes (x:Str):x.cps.toList.length=x.length:=by rw[fc];rfl
def dig_len:∀(k m:Nat),m<10^(k+ 1)->(cQ 10 m).length<=k+ 1:=by
 intro k
 induction k with
 |zero=>intro m h;rw[cR (by simpa using h)];exact cH _
 |succ k ih=>
  intro m h;by_cases h10:m<10;·rw[cR h10];show 1<=_;lia
  ·have hm:m%10<10:=Nat.mod_lt m (by decide);have t:cQ 10 (m/10)++cQ 10 (m%10)=cQ 10 (10*(m/10)+m%10):=cU (by decide) (by lia) hm;rw[Nat.div_add_mod]at t;rw[<-t,aQ,cR hm];have hq:m/10<10^(k+ 1):=by rw[Nat.div_lt_iff_lt_mul (by decide)];rw[Nat.pow_succ]at h;exact h
   have:=ih (m/10) hq;show _+ 1<=_;lia
end T1
namespace GR.Internal
open PySem L2.Internal
def sz {n:Nat} (h:n<=100000):n<=sizeLine:=cE h (by decide)
def fW {H:Hp} {p:Zx} (h:H p=none) (o:HO):gE H (upd H p o):=fun b u q=>by rw[f9 (fZ q h)];exact q
def wV (w:List Nat):V:= .str ⟨w.toArray⟩
def wordsV (l:List Nat):List V:=(T1.all (T1.W l)).map wV
def zM (l:List Nat):wordsV l=((T1.all (T1.W l)).map fun w=>(⟨w.toArray⟩:Str)).map V.str:=by unfold wordsV;rw[bF];rfl
def KWV:List V:=[.str "def",.str "fn",.str "call",.str "let",.str "rec",.str "get",.str "tag",.str "case",.str "row",.str "at",.str "join",.str "size",.str "add",.str "sub",.str "less"]
def SM:Str:="abcdefghijklmnopqrstuvwxyz"
def FG:Str:="0123456789"
def allIn (x y:Str):Bool:=x.cps.toList.all fun c=>decide (c∈y.cps.toList)
def firstIn (x y:Str):Bool:=match x.cps.toList with
 |[]=>false
 |c::_=>decide (c∈y.cps.toList)
def isName (x:Str):Bool:=decide (1<=x.length)&&decide (x.length<=12)&&!inV (.str x) KWV&&firstIn x SM&&allIn x (SM++FG)
def first_of {x:Str} (h:1<=x.length):∃c r,x.cps.toList=c::r:=by
 have e:=T1.len_codes x
 cases q:x.cps.toList with
 |nil=>rw[q]at e;simp at e;lia
 |cons c r=>exact⟨c,r,rfl⟩
def at0 {c:Nat} {r:List Nat}:atI (c::r) (0:Int)=some c:=fV (j:=0) rfl
def rW (x:Str):Bool:=match x.cps.toList with
 |[]=>false
 |c::_=>c==48
def mX (x:Str):Bool:=decide (1<=x.length)&&decide (x.length<=60)&&allIn x FG&&(!rW x||decide (x="0"))
def CT (x:Str):Int:=(intText? x).getD 0
def EV (c:Nat):decide (V.str ⟨#[c]⟩=V.str "0")=(c==48):=by
 by_cases h:c=48;·subst h;rfl
 ·have h1:¬V.str ⟨#[c]⟩=V.str "0":=fun z=>by
   injection z with z;have e:(⟨#[c]⟩:Str).cps.toList=("0":Str).cps.toList:=by rw[z]
   have e2:[c]=[48]:=e;injection e2 with e3 _;exact h e3
  rw[gQ h1];exact(beq_eq_false_iff_ne.mpr h).symm
def yJ:∀c∈FG.cps.toList,48<=c/\c<=57:=gA
def allIn_mem {x y:Str} (h:allIn x y=true):∀c∈x.cps.toList,c∈y.cps.toList:=fun c hc=>of_decide_eq_true (bO.mp h c hc)
def zN {x:Str} (h1:1<=x.length) (h2:x.length<=100) (h:allIn x FG=true):intText? x=some (CT x):=by
 have hd:PySem.NumText.AllDigits x.cps.toList:=fun c hc=>yJ c (allIn_mem h c hc);have hne:x.cps.toList≠[]:=by obtain⟨c,r,e⟩:=first_of h1;rw[e];exact bP _ _
 have e:=PySem.intText_digits hd hne (by lia);unfold CT;rw[e];rfl
def rX {x:Str} (h:mX x=true):1<=x.length/\x.length<=60/\allIn x FG=true:=by unfold mX at h;simp only[eX,decide_eq_true_eq]at h;exact⟨h.1.1.1,h.1.1.2,h.1.2⟩
def EW {n j:Nat} (h:j<n):ixN n (j:Int)=some j:=by unfold ixN;rw[gT (by lia),gT (by lia)];simp
def fR (wl:Zx) (k:Int) (rl:Zx):List (Str×V):=[("words",.ref wl),("taken",.int k),("rows",.ref rl)]
def JF (wl:Zx) (k:Int) (rl:Zx):jD "rows" (.ref rl) (jD "taken" (.int k) (jD "words" (.ref wl) []))=fR wl k rl:=by have h1:¬(("words":Str)="taken"):=gA;have h2:¬(("words":Str)="rows"):=gA;have h3:¬(("taken":Str)="rows"):=gA;simp only[jD,gN h1,gN h2,gN h3,fR]
def Ht (wl:Zx) (k j:Int) (rl:Zx):jD "taken" (.int j) (fR wl k rl)=fR wl j rl:=by have h1:¬(("words":Str)="taken"):=gA;simp only[jD,fR,gN h1,gT]
def yK (wl:Zx) (k:Int) (rl:Zx):(fR wl k rl).lookup ("words":Str)=some (.ref wl):=by unfold fR;rw[bp,show(("words":Str)=="words")=true by decide+kernel]
def uJ (wl:Zx) (k:Int) (rl:Zx):(fR wl k rl).lookup ("taken":Str)=some (.int k):=by unfold fR;rw[bp,show(("taken":Str)=="words")=false by decide+kernel,bp,show(("taken":Str)=="taken")=true by decide+kernel]
def uK (wl:Zx) (k:Int) (rl:Zx):(fR wl k rl).lookup ("rows":Str)=some (.ref rl):=by unfold fR;rw[bp,show(("rows":Str)=="words")=false by decide+kernel,bp,show(("rows":Str)=="taken")=false by decide+kernel,bp,show(("rows":Str)=="rows")=true by decide+kernel]
def JG (wl:Zx) (k:Int) (rl:Zx) {m:Str} (h1:(m=="words")=false) (h2:(m=="taken")=false) (h3:(m=="rows")=false):(fR wl k rl).lookup m=none:=by unfold fR;rw[bp,h1,bp,h2,bp,h3];rfl
structure rh (C:Zx) (H:Hp) (p dx wl rl:Zx) (ws:Zd) (k:Nat) (rows:List V):Prop where
 ob:H p=some (.ins C dx (fR wl (k:Int) rl))
 wd:H wl=some (.lst (ws.map V.str))
 rw:H rl=some (.lst rows)
 ne:wl≠rl
structure WOk (ws:Zd):Prop where
 len:ws.length<=30000
 one:∀x∈ws,x≠""/\x.length<=30000/\∀c∈x.cps.toList,c<16^8
def fP (a b c:Zx):List (Str×V):=[("names",.ref a),("roots",.ref b),("rows",.ref c)]
def JH (a b c:Zx):jD "rows" (.ref c) (jD "roots" (.ref b) (jD "names" (.ref a) []))=fP a b c:=by have h1:¬(("names":Str)="roots"):=gA;have h2:¬(("names":Str)="rows"):=gA;have h3:¬(("roots":Str)="rows"):=gA;simp only[jD,gN h1,gN h2,gN h3,fP]
def JJ {c:Nat} (h1:48<=c) (h2:c<=57):c∈FG.cps.toList:=by
 have e:FG.cps.toList=[48,49,50,51,52,53,54,55,56,57]:=gA;rw[e];have:c=48\/c=49\/c=50\/c=51\/c=52\/c=53\/c=54\/c=55\/c=56\/c=57:=by lia
 rcases this with rfl|rfl|rfl|rfl|rfl|rfl|rfl|rfl|rfl|rfl<;>decide
def str_fig {n:Int} {k:Nat} (h0:0<=n) (h1:n<10^(k+ 1)):(∀c∈(Lv (toString n)).cps.toList,c∈FG.cps.toList)/\1<=(Lv (toString n)).length/\(Lv (toString n)).length<=k+ 1:=by
 obtain⟨m,rfl⟩:=fk h0;have hm:m<10^(k+ 1):=by
  have z:((m:Nat):Int)<((10^(k+ 1):Nat):Int):=by rw[Int.natCast_pow];exact h1
  exact Int.ofNat_lt.mp z
 have e:=PySem.W.KIN.signs_num m;have el:=T1.len_codes (Lv (toString ((m:Nat):Int)));rw[e,aD]at el;refine⟨fun c hc=>?_,?_,?_⟩;·rw[e]at hc;obtain⟨ch,hch,rfl⟩:=bf.mp hc;obtain⟨r1,r2⟩:=PyProof.Rows.digit_range (Nat.isDigit_of_mem_toDigits (by decide) (by decide) hch);exact JJ r1 r2
 ·have z:=PySem.toDigits_len_ge 10 m;lia
 ·have z:=T1.dig_len k m hm;lia
def app_codes (x y:Str):(x++y).cps.toList=x.cps.toList++y.cps.toList:=by rw[Str.cps_append,fh]
def rh.ne1 {C p dx wl rl:Zx} {H:Hp} {ws:Zd} {k:Nat} {rows:List V} (R:rh C H p dx wl rl ws k rows):p≠wl:=kU R.ob R.wd (fun z=>nomatch z)
def rh.ne2 {C p dx wl rl:Zx} {H:Hp} {ws:Zd} {k:Nat} {rows:List V} (R:rh C H p dx wl rl ws k rows):p≠rl:=kU R.ob R.rw (fun z=>nomatch z)
def rh.next {C p dx wl rl:Zx} {H:Hp} {ws:Zd} {k:Nat} {rows:List V} (R:rh C H p dx wl rl ws k rows) (j:Nat):rh C (upd H p (.ins C dx (fR wl (j:Int) rl))) p dx wl rl ws j rows:=
 ⟨fS,by rw[f9 (Lq R.ne1)];exact R.wd,by rw[f9 (Lq R.ne2)];exact R.rw,R.ne⟩
def rh.same {C p dx wl rl:Zx} {H H':Hp} {ws:Zd} {k:Nat} {rows:List V} (R:rh C H p dx wl rl ws k rows) (S:gE H H'):rh C H' p dx wl rl ws k rows:=⟨S _ _ R.ob,S _ _ R.wd,S _ _ R.rw,R.ne⟩
def tn0 {σ:St} {H:Hp} {Q:List V->Hp->Prop} (h:Q [] H):yt σ H Q:=h
def tc1 {v:V} {σ:St} {H:Hp} {Q:List V->Hp->Prop} (h:Q [v] H):kI (tC v) yt σ H Q:=h
def ir (wl:Zx) (k:Int) (rl:Zx) (m:Str) (h:m="ahead"\/m="pass_over"\/m="take_name"\/m="take_expr"\/m="take"\/m="take_row"\/m="take_steady"\/m="take_fields"\/m="take_arms"\/m="take_things"\/m="take_form"):(fR wl k rl).lookup m=none:=by rcases h with rfl|rfl|rfl|rfl|rfl|rfl|rfl|rfl|rfl|rfl|rfl<;>exact JG _ _ _ gA gA gA
def uL {H H':Hp} {p:Zx} (o:HO) (h:H p=none) (S:gE H H'):gE H (upd H' p o):=fun b u e=>by rw[f9 (fZ e h)];exact S b u e
def stT:List (Str×List Bool):=[("fn",[true,false]),("call",[false,false]),("let",[true,false,false]),("get",[false,true]),("tag",[true,false]),("at",[false,false,false]),
 ("join",[false,false]),("size",[false]),("add",[false,false]),("sub",[false,false]),("less",[false,false])]
def stP (h:Str):Option (List Bool):=(stT.find? fun p=>decide (p.1=h)).map (·.2)
section
variable {pe:List Str->List Dt->Option Rs} {x:Str} {r:Zd} {rows:List Dt}
end
section
variable {rows:List Dt} {names:Zd} {roots:List Dt}
end
mutual
inductive TAt (K:Zp) (H:Hp):V->Dt->Prop where
 |flat {v:V} (h:rJ v=true):TAt K H v (.flat v)
 |tup {a:Zx} {xs:List V} {ds:List Dt} (h:H a=some (.tup xs)) (hs:mf K H xs ds):TAt K H (.ref a) (.tup ds)
inductive mf (K:Zp) (H:Hp):List V->List Dt->Prop where
 |nil:mf K H [] []
 |cons {x:V} {d:Dt} {xs:List V} {ds:List Dt} (h:TAt K H x d) (hs:mf K H xs ds):mf K H (x::xs) (d::ds)
end
section
variable {K:Zp} {H H':Hp}
mutual
theorem TAt.mono (k:∀a xs,H a=some (.tup xs)->H' a=some (.tup xs)):∀{x:V} {d:Dt},TAt K H x d->TAt K H' x d
 |_,_,.flat h=> .flat h
 |_,_,.tup h hs=> .tup (k _ _ h) (mf.mono k hs)
theorem mf.mono (k:∀a xs,H a=some (.tup xs)->H' a=some (.tup xs)):∀{xs:List V} {ds:List Dt},mf K H xs ds->mf K H' xs ds
 |_,_,.nil=> .nil
 |_,_,.cons h hs=> .cons (TAt.mono k h) (mf.mono k hs)
end
theorem mf.length:∀{xs:List V} {ds:List Dt},mf K H xs ds->xs.length=ds.length
 |_,_,.nil=>rfl
 |_,_,.cons _ t=>by rw[aA,aA,mf.length t]
theorem mf.app:∀{xs ys:List V} {ds es:List Dt},mf K H xs ds->mf K H ys es->mf K H (xs++ys) (ds++es)
 |_,_,_,_,.nil,q=>q
 |_,_,_,_,.cons h t,q=> .cons h (mf.app t q)
def mf.snoc {xs:List V} {ds:List Dt} {x:V} {d:Dt} (a:mf K H xs ds) (b:TAt K H x d):mf K H (xs++[x]) (ds++[d]):=a.app (.cons b .nil)
theorem mf.set:∀{xs:List V} {ds:List Dt} {x:V} {d:Dt} (j:Nat),mf K H xs ds->TAt K H x d->mf K H (xs.set j x) (ds.set j d)
 |_,_,_,_,_,.nil,_=> .nil
 |_,_,_,_,0,.cons _ t,q=> .cons q t
 |_,_,_,_,j+ 1,.cons h t,q=> .cons h (mf.set j t q)
end
def K2 (p q:Zx) (H H':Hp):Prop:=∀b o,H b=some o->b≠p->b≠q->H' b=some o
def K2.refl (p q:Zx) (H:Hp):K2 p q H H:=fun _ _ e _ _=>e
def K2.trans {p q:Zx} {H H1 H2:Hp} (a:K2 p q H H1) (b:K2 p q H1 H2):K2 p q H H2:=fun c o e h1 h2=>b c o (a c o e h1 h2) h1 h2
def gE.k2 {p q:Zx} {H H':Hp} (s:gE H H'):K2 p q H H':=fun b o e _ _=>s b o e
def K2.upd1 {p q:Zx} {H H':Hp} (k:K2 p q H H') (o:HO):K2 p q H (upd H' p o):=fun b u e h1 h2=>by rw[f9 h1];exact k b u e h1 h2
def K2.upd2 {p q:Zx} {H H':Hp} (k:K2 p q H H') (o:HO):K2 p q H (upd H' q o):=fun b u e h1 h2=>by rw[f9 h2];exact k b u e h1 h2
def K2.sqT {K:Zp} {p q:Zx} {H H':Hp} {o1 o2:HO} (k:K2 p q H H') (h1:H p=some o1) (h2:H q=some o2) (n1:∀xs,o1≠ .tup xs/\∀o,o1≠ .frz o (.tup xs)) (n2:∀xs,o2≠ .tup xs/\∀o,o2≠ .frz o (.tup xs)) {a:Zx} {xs:List V} (s:SqT K H a xs):SqT K H' a xs:=by
 rcases s with s|s
 ·refine .inl ?_;rcases s with s|⟨o,s⟩;·exact .inl (k _ _ s (kU s h1 (Lq (n1 xs).1)) (kU s h2 (Lq (n2 xs).1)))
  ·exact .inr ⟨o,k _ _ s (kU s h1 (Lq ((n1 xs).2 o))) (kU s h2 (Lq ((n2 xs).2 o)))⟩
 ·exact .inr s
def RS (K:Zp) (C:Zx) (H:Hp) (p dx wl rl:Zx) (ws rest:Zd) (rows:List Dt):Prop:=
 ∃k rv,rh C H p dx wl rl ws k rv/\ws.drop k=rest/\k<=ws.length/\mf K H rv rows
section
variable {K:Zp} {C p dx wl rl:Zx} {H H':Hp} {ws rest:Zd} {rows:List Dt}
theorem rh.sqT {k:Nat} {rv:List V} (R:rh C H p dx wl rl ws k rv) (kk:K2 p rl H H') {a:Zx} {xs:List V} (s:SqT K H a xs):SqT K H' a xs:=
 kk.sqT R.ob R.rw (fun _=>⟨(fun z=>nomatch z),fun _ z=>nomatch z⟩) (fun _=>⟨(fun z=>nomatch z),fun _ z=>nomatch z⟩) s
def rh.tpT {k:Nat} {rv:List V} (R:rh C H p dx wl rl ws k rv) (kk:K2 p rl H H') {a:Zx} {xs:List V} (s:H a=some (.tup xs)):H' a=some (.tup xs):=
 kk _ _ s (kU s R.ob (fun z=>nomatch z)) (kU s R.rw (fun z=>nomatch z))
def RS.tat (R:RS K C H p dx wl rl ws rest rows) (kk:K2 p rl H H') {x:V} {d:Dt} (t:TAt K H x d):TAt K H' x d:=by obtain⟨k,rv,R,_⟩:=R;exact t.mono fun a xs s=>rh.tpT R kk s
def RS.tats (R:RS K C H p dx wl rl ws rest rows) (kk:K2 p rl H H') {xs:List V} {ds:List Dt} (t:mf K H xs ds):mf K H' xs ds:=by obtain⟨k,rv,R,_⟩:=R;exact t.mono fun a xs s=>rh.tpT R kk s
def RS.same (R:RS K C H p dx wl rl ws rest rows) (s:gE H H'):RS K C H' p dx wl rl ws rest rows:=by obtain⟨k,rv,R,h1,h2,h3⟩:=R;exact⟨k,rv,⟨s _ _ R.ob,s _ _ R.wd,s _ _ R.rw,R.ne⟩,h1,h2,h3.mono fun a xs t=>rh.tpT R (gE.k2 s) t⟩
def RS.other {a:Zx} {l:List V} {o:HO} (R:RS K C H p dx wl rl ws rest rows) (ha:H a=some (.lst l)) (n1:a≠p) (n2:a≠wl) (n3:a≠rl):RS K C (upd H a o) p dx wl rl ws rest rows:=by obtain⟨k,rv,R,h1,h2,h3⟩:=R;refine⟨k,rv,⟨by rw[f9 (Lq n1)];exact R.ob,by rw[f9 (Lq n2)];exact R.wd,by rw[f9 (Lq n3)];exact R.rw,R.ne⟩,h1,h2,h3.mono fun b xs t=>?_⟩;rw[f9 (kU t ha (fun z=>nomatch z))];exact t
def mf.other {a:Zx} {l:List V} {o:HO} (ha:H a=some (.lst l)) {xs:List V} {ds:List Dt} (t:mf K H xs ds):mf K (upd H a o) xs ds:=t.mono fun b xs t=>by rw[f9 (kU t ha (fun z=>nomatch z))];exact t
def Bj {k:Nat} {x:Str} {r:Zd} (h:ws.drop k=x::r):ws[k]?=some x/\ws.drop (k+ 1)=r/\k<ws.length:=by
 have hk:k<ws.length:=by
  by_cases z:k<ws.length;·exact z
  ·rw[bQ (by lia)]at h;cases h
 rw[bR hk]at h;injection h with h1 h2;exact⟨by rw[bE hk,h1],h2,hk⟩
def RS.mem (R:RS K C H p dx wl rl ws rest rows):∀x∈rest,x∈ws:=by obtain⟨k,rv,_,h,_⟩:=R;intro x hx;rw[<-h]at hx;exact bS hx
theorem RS.ob (R:RS K C H p dx wl rl ws rest rows):∃k:Int,H p=some (.ins C dx (fR wl k rl)):=by obtain⟨k,rv,R,_⟩:=R;exact⟨_,R.ob⟩
def wb {H:Hp} {a b:Zx} {l xs:List V} {o:HO} (ha:H a=some (.lst l)) (t:SqT K H b xs):SqT K (upd H a o) b xs:=by
 rcases t with t|t
 ·refine .inl ?_;rcases t with t|⟨o',t⟩;·exact .inl (by rw[f9 (kU t ha (fun z=>nomatch z))];exact t)
  ·exact .inr ⟨o',by rw[f9 (kU t ha (fun z=>nomatch z))];exact t⟩
 ·exact .inr t
def RS.sqt (R:RS K C H p dx wl rl ws rest rows) (kk:K2 p rl H H') {a:Zx} {xs:List V} (t:SqT K H a xs):SqT K H' a xs:=by obtain⟨k,rv,R,_⟩:=R;exact rh.sqT R kk t
def wc {p q a:Zx} {H H':Hp} {o:HO} (ha:H a=none) (k:K2 p q H H'):K2 p q H (upd H' a o):=fun b u e h1 h2=>by rw[f9 (fZ e ha)];exact k b u e h1 h2
def RS.apart {fl:Zx} (R:RS K C H p dx wl rl ws rest rows) (hfl:H fl=none):fl≠p/\fl≠rl/\fl≠wl:=by obtain⟨k,rv,R,_⟩:=R;exact⟨Lq (fZ R.ob hfl),Lq (fZ R.rw hfl),Lq (fZ R.wd hfl)⟩
end
end GR.Internal
namespace GR.Internal
open PySem L2.Internal T1
def St1 (w:List Nat):Str:=⟨w.toArray⟩
def toks (x:Str):List Str:=(all (W x.cps.toList)).map St1
def toks_v (x:Str):wordsV x.cps.toList=(toks x).map V.str:=zM _
theorem uM:∀(s:List Nat) (p:List (List Nat)) (c:List Nat),s.foldl step (p,c)=(p++(s.foldl step ([],c)).1,(s.foldl step ([],c)).2)
 |[],p,c=>by simp
 |k::s,p,c=>by
  have e1:(k::s).foldl step (p,c)=s.foldl step (step (p,c) k):=rfl;have e2:(k::s).foldl step ([],c)=s.foldl step (step ([],c) k):=rfl;rw[e1,e2];have e3:step (p,c) k=(p++(step ([],c) k).1,(step ([],c) k).2):=by
   unfold T1.step;split;·split<;>simp
   ·simp
  rw[e3];generalize step ([],c) k=q;obtain⟨q1,q2⟩:=q;rw[uM s (p++q1) q2,uM s q1 q2,bT]
def yL {a b:List Nat} (h:(W a).2=[]):W (a++b)=((W a).1++(W b).1,(W b).2):=by
 rw[rg];have e:W a=((W a).1,[]):=by rw[<-h]
 rw[e,uM];rfl
def Gp (x:Str) (ts:Zd):Prop:=(W x.cps.toList).2=[]/\(W x.cps.toList).1.map St1=ts
def Op (x:Str) (ts:Zd):Prop:=toks x=ts
def Gp.op {x:Str} {ts:Zd} (h:Gp x ts):Op x ts:=by unfold Op toks all;rw[gT h.1,h.2]
def Gp.app {x y:Str} {ts us:Zd} (h:Gp x ts) (k:Gp y us):Gp (x++y) (ts++us):=by unfold Gp;rw[app_codes,yL h.1];exact⟨k.1,by rw[bo,h.2,k.2]⟩
def Gp.app_op {x y:Str} {ts us:Zd} (h:Gp x ts) (k:Op y us):Op (x++y) (ts++us):=by
 unfold Op toks at*;rw[app_codes,yL h.1,<-h.2,<-k];unfold all;by_cases z:(W y.cps.toList).2=[];·rw[gT z,gT z,bo]
 ·rw[gN z,gN z];simp only[bo,bT]
def Op.close {x:Str} {ts:Zd} (h:Op x ts):Gp (x++")") (ts++[(")":Str)]):=by unfold Gp;have e:(x++")").cps.toList=x.cps.toList++[41]:=app_codes x ")";rw[e,Bi _ (.inr rfl)];refine⟨rfl,?_⟩;rw[bo];exact congrArg (·++[(")":Str)]) h
def Op.gap {x:Str} {ts:Zd} (h:Op x ts):Gp (x++" ") ts:=by unfold Gp;have e:(x++" ").cps.toList=x.cps.toList++[32]:=app_codes x " ";rw[e,JD _ (.inl rfl)];exact⟨rfl,h⟩
def cat_assoc (x y z:Str):x++y++z=x++(y++z):=T1.str_ext (by rw[app_codes,app_codes,app_codes,app_codes,bT])
def Op.word {x:Str} (h0:x.cps.toList≠[]) (h:∀k∈x.cps.toList,k≠32/\k≠10/\k≠40/\k≠41):Op x [x]:=by unfold Op toks;have e:W x.cps.toList=([],x.cps.toList):=JE [] x.cps.toList h;rw[e];show(if x.cps.toList=[]then _ else _:List (List Nat)).map St1=_;rw[gN h0];show[St1 x.cps.toList]=[x];exact congrArg (fun z=>[z]) (T1.str_ext rfl)
theorem we:∀m:Nat,0<m->(cQ 10 m).head?≠some '0'
 |m,h=>by
  by_cases h10:m<10
  ·rw[cR h10];have:m=1\/m=2\/m=3\/m=4\/m=5\/m=6\/m=7\/m=8\/m=9:=by lia
   rcases this with rfl|rfl|rfl|rfl|rfl|rfl|rfl|rfl|rfl<;>decide
  ·have hm:m%10<10:=Nat.mod_lt m (by decide);have t:cQ 10 (m/10)++cQ 10 (m%10)=cQ 10 (10*(m/10)+m%10):=cU (by decide) (by lia) hm;rw[Nat.div_add_mod]at t;have ih:=we (m/10) (by lia);rw[<-t]
   cases e:cQ 10 (m/10)with
   |nil=>have:=PySem.toDigits_len_ge 10 (m/10);rw[e]at this;simp at this
   |cons a r=>rw[e]at ih;exact ih
termination_by m=>m
def num_is {n:Int} {k:Nat} (h0:0<=n) (h1:n<10^(k+ 1)) (hk:k+ 1<=60):mX (Lv (toString n))=true:=by
 obtain⟨f1,f2,f3⟩:=str_fig h0 h1;obtain⟨m,rfl⟩:=fk h0;have e:=PySem.W.KIN.signs_num m;unfold mX;have z:(!rW (Lv (toString ((m:Nat):Int)))||decide (Lv (toString ((m:Nat):Int))="0"))=true:=by
  by_cases hm:m=0;·subst hm;decide+kernel
  ·have d:=we m (by lia);have:rW (Lv (toString ((m:Nat):Int)))=false:=by
    unfold rW;rw[e]
    cases q:cQ 10 m with
    |nil=>rfl
    |cons a r=>rw[q]at d;show(a.toNat==48)=false;refine beq_eq_false_iff_ne.mpr fun w=>d ?_;show some a=some '0';exact congrArg some (Char.toNat_inj.mp w)
   rw[this];rfl
 rw[z,gM f2,gM (show _<=60 by lia)];simp only[Bool.true_and,Bool.and_true];exact bO.mpr fun c hc=>gM (f1 c hc)
section
variable {d n:Nat} {ts:Zd}
end
instance {x:Str} {ts:Zd}:Decidable (Gp x ts):=inferInstanceAs (Decidable (_/\_))
instance {x:Str} {ts:Zd}:Decidable (Op x ts):=inferInstanceAs (Decidable (_=_))
section
variable {d n:Nat} {ts:Zd}
end
end GR.Internal
namespace TM.Internal
open PySem L2.Internal GR.Internal
inductive Kn
 |num (n:Int)
 |name (w:Str)
 |fn (w:Str)
 |tag (w:Str)
 |lt (w:Str)
 |get (w:Str)
 |rcd (l:Zd)
 |case (l:List (Str×Str))
 |row (m:Nat)
 |op (s:Str) (m:Nat)
inductive Tr
 |mk (κ:Kn) (ks:List Tr)
def ops:List (Str×Nat):=[("call",2),("at",3),("join",2),("size",1),("add",2),("sub",2),("less",2)]
def Kn.ar:Kn->Nat
 | .num _=>0
 | .name _=>0
 | .fn _=>1
 | .tag _=>1
 | .lt _=>2
 | .get _=>1
 | .rcd l=>l.length
 | .case l=>l.length+ 1
 | .row m=>m
 | .op _ m=>m
def numS (n:Int):Str:=Lv (toString n)
def Kn.ok:Kn->Prop
 | .num n=>0<=n/\n<10^60
 | .name w=>isName w=true
 | .fn w=>isName w=true
 | .tag w=>isName w=true
 | .lt w=>isName w=true
 | .get w=>isName w=true
 | .rcd l=>l.length<=6/\∀w∈l,isName w=true
 | .case l=>1<=l.length/\l.length<=6/\∀p∈l,isName p.1=true/\isName p.2=true
 | .row m=>m<=8
 | .op s m=>(s,m)∈ops
mutual
def Tr.sz:Tr->Nat
 | .mk _ ks=>1+szs ks
def szs:List Tr->Nat
 |[]=>0
 |t::ts=>t.sz+szs ts
end
mutual
def Tr.nest:Tr->Nat
 | .mk _ ks=>1+jM ks
def jM:List Tr->Nat
 |[]=>0
 |t::ts=>max t.nest (jM ts)
end
mutual
def Tr.ok:Tr->Prop
 | .mk κ ks=>κ.ok/\ks.length=κ.ar/\oks ks
def oks:List Tr->Prop
 |[]=>True
 |t::ts=>t.ok/\oks ts
end
def wv1:List Str->List (List Str)->List Str
 |w::l,k::ks=>w::(k++wv1 l ks)
 |_,_=>[]
def wv2:List (Str×Str)->List (List Str)->List Str
 |p::l,k::ks=>p.1::p.2::(k++wv2 l ks)
 |_,_=>[]
def Kn.ws:Kn->List (List Str)->List Str
 | .fn w,ks=>w::ks.flatten
 | .tag w,ks=>w::ks.flatten
 | .lt w,ks=>w::ks.flatten
 | .get w,ks=>ks.flatten++[w]
 | .rcd l,ks=>wv1 l ks
 | .case l,k::ks=>k++wv2 l ks
 |_,ks=>ks.flatten
def Kn.s:Kn->Str
 | .num _=>"num"
 | .name _=>"name"
 | .fn _=>"fn"
 | .tag _=>"tag"
 | .lt _=>"let"
 | .get _=>"get"
 | .rcd _=>"rec"
 | .case _=>"case"
 | .row _=>"row"
 | .op s _=>s
def Kn.tk (κ:Kn) (ks:List (List Str)):List Str:=match κ with
 | .num n=>[numS n]
 | .name w=>[w]
 |κ=>("(":Str)::κ.s::(κ.ws ks++[(")":Str)])
mutual
def Tr.tk:Tr->List Str
 | .mk κ ks=>κ.tk (tks ks)
def tks:List Tr->List (List Str)
 |[]=>[]
 |t::ts=>t.tk::tks ts
end
def sD (s:Str):Dt:= .flat (.str s)
def kD (k:Nat):Dt:= .flat (.int (k:Int))
def Kn.rw (κ:Kn) (ps:List Nat):List Dt:=match κ,ps with
 | .num n,_=>[sD "num",.flat (.int n)]
 | .name w,_=>[sD "name",sD w]
 | .fn w,ps=>sD "fn"::sD w::ps.map kD
 | .tag w,ps=>sD "tag"::sD w::ps.map kD
 | .lt w,ps=>sD "let"::sD w::ps.map kD
 | .get w,ps=>sD "get"::(ps.map kD++[sD w])
 | .rcd l,ps=>[sD "rec",.tup ((l.zip ps).map fun p=> .tup [sD p.1,kD p.2])]
 | .case l,p::ps=>[sD "case",kD p,.tup ((l.zip ps).map fun p=> .tup [sD p.1.1,sD p.1.2,kD p.2])]
 | .case _,[]=>[]
 | .row _,ps=>[sD "row",.tup (ps.map kD)]
 | .op s _,ps=>sD s::ps.map kD
def jb:List Tr->Nat->List Nat
 |[],_=>[]
 |t::ts,p=>p::jb ts (p+t.sz)
mutual
def Tr.rw:Tr->Nat->List Dt
 | .mk κ ks,p=> .tup (κ.rw (jb ks (p+ 1)))::rws ks (p+ 1)
def rws:List Tr->Nat->List Dt
 |[],_=>[]
 |t::ts,p=>t.rw p++rws ts (p+t.sz)
end
theorem offs_len:∀(ts:List Tr) (p:Nat),(jb ts p).length=ts.length
 |[],_=>rfl
 |t::ts,p=>by rw[jb,aA,aA,offs_len ts]
mutual
theorem Tr.rw_len:∀(t:Tr) (p:Nat),(t.rw p).length=t.sz
 | .mk κ ks,p=>by rw[Tr.rw,aA,rws_len ks,Tr.sz];lia
theorem rws_len:∀(ts:List Tr) (p:Nat),(rws ts p).length=szs ts
 |[],_=>by rw[rws,szs];rfl
 |t::ts,p=>by rw[rws,szs,aQ,Tr.rw_len t,rws_len ts]
end
def CU:isName ")"=false/\mX ")"=false:=gA
def name_nc {w:Str} (h:isName w=true):w≠")":=fun z=>by rw[z,CU.1]at h;cases h
def set_at {rows more:List Dt} {x y:Dt}:(rows++[x]++more).set rows.length y=rows++y::more:=by rw[bT,List.set_append_right _ _ (cH _),cW];rfl
theorem num_is {n:Int} (h0:0<=n) (h1:n<10^60):mX (numS n)=true/\CT (numS n)=n:=by
 refine⟨GR.Internal.num_is (k:=59) h0 h1 (by decide),?_⟩;obtain⟨f1,f2,f3⟩:=str_fig (k:=59) h0 h1;have hd:PySem.NumText.AllDigits (numS n).cps.toList:=fun c hc=>yJ c (f1 c hc);have hne:(numS n).cps.toList≠[]:=by obtain⟨c,r,e⟩:=first_of (x:=numS n) f2;rw[e];exact bP _ _
 have hl:(numS n).length<=60:=f3;have e:=PySem.intText_digits hd hne (by lia);unfold CT;rw[e];obtain⟨m,rfl⟩:=fk h0;unfold numS;rw[PySem.W.KIN.signs_num,PySem.W.KIN.val_back];rfl
def JK:∀c∈SM.cps.toList,¬c∈FG.cps.toList:=gA
def name_nn {w:Str} (h:isName w=true):¬mX w=true:=fun z=>by obtain⟨z1,_,z3⟩:=rX z;obtain⟨c,r,ec⟩:=first_of z1;unfold isName at h;simp only[eX]at h;have hf:=h.1.2;unfold firstIn at hf;rw[ec]at hf;exact JK c (of_decide_eq_true hf) (allIn_mem z3 c (by rw[ec];exact ai))
def ptr:List (Str ⊕ Tr)->List Tr
 |[]=>[]
 | .inl _::l=>ptr l
 | .inr t::l=>t::ptr l
def pw:List (Str ⊕ Tr)->List Str
 |[]=>[]
 | .inl w::l=>w::pw l
 | .inr t::l=>t.tk++pw l
def pd:List (Str ⊕ Tr)->Nat->List Dt
 |[],_=>[]
 | .inl w::l,p=>sD w::pd l p
 | .inr t::l,p=>kD p::pd l (p+t.sz)
def isL:Str ⊕ Tr->Bool
 | .inl _=>true
 | .inr _=>false
def okP (f:Nat):Str ⊕ Tr->Prop
 | .inl w=>isName w=true
 | .inr t=>t.ok/\t.nest<=f
abbrev Its:=List (Str×List (Str ⊕ Tr))
def itr:Its->List Tr
 |[]=>[]
 |i::l=>ptr i.2++itr l
def iw:Its->List Str
 |[]=>[]
 |i::l=>i.1::(pw i.2++iw l)
def idt:Its->Nat->List Dt
 |[],_=>[]
 |i::l,p=> .tup (sD i.1::pd i.2 p)::idt l (p+szs (ptr i.2))
theorem idt_len:∀(l:Its) (p:Nat),(idt l p).length=l.length
 |[],_=>rfl
 |i::l,p=>by rw[idt,aA,aA,idt_len l]
theorem pd_len:∀(l:List (Str ⊕ Tr)) (p:Nat),(pd l p).length=l.length
 |[],_=>rfl
 | .inl _::l,p=>by rw[pd,aA,aA,pd_len l]
 | .inr _::l,p=>by rw[pd,aA,aA,pd_len l]
theorem oq:∀a b:List Tr,szs (a++b)=szs a+szs b
 |[],b=>by rw[bU,szs,cX]
 |t::a,b=>by rw[aT,szs,szs,oq a b,cY]
theorem uN:∀(a b:List Tr) (p:Nat),rws (a++b) p=rws a p++rws b (p+szs a)
 |[],b,p=>by rw[bU,szs,rws,bU];rfl
 |t::a,b,p=>by rw[aT,rws,uN a b,rws,szs,bT,cY]
def fI:List Str->List Tr->Its
 |w::l,t::ts=>(w,[.inr t])::fI l ts
 |_,_=>[]
def aI:List (Str×Str)->List Tr->Its
 |p::l,t::ts=>(p.1,[.inl p.2,.inr t])::aI l ts
 |_,_=>[]
theorem fI_is:∀{l:Zd} {ts:List Tr},l.length=ts.length->itr (fI l ts)=ts/\iw (fI l ts)=wv1 l (tks ts)/\∀p,idt (fI l ts) p=(l.zip (jb ts p)).map fun p=> .tup [sD p.1,kD p.2]
 |[],[],_=>⟨rfl,rfl,fun _=>rfl⟩
 |w::l,t::ts,h=>by
  obtain⟨a,b,c⟩:=fI_is (l:=l) (ts:=ts) (cZ.inj h);refine⟨congrArg (t::·) a,?_,fun p=>?_⟩;·rw[fI,iw,b,tks,wv1];simp only[pw,aE]
  ·rw[fI,idt,c,jb];simp only[ptr,szs,c9];rfl
theorem aI_is:∀{l:List (Str×Str)} {ts:List Tr},l.length=ts.length->itr (aI l ts)=ts/\iw (aI l ts)=wv2 l (tks ts)/\∀p,idt (aI l ts) p=(l.zip (jb ts p)).map fun p=> .tup [sD p.1.1,sD p.1.2,kD p.2]
 |[],[],_=>⟨rfl,rfl,fun _=>rfl⟩
 |w::l,t::ts,h=>by
  obtain⟨a,b,c⟩:=aI_is (l:=l) (ts:=ts) (cZ.inj h);refine⟨congrArg (t::·) a,?_,fun p=>?_⟩;·rw[aI,iw,b,tks,wv2];simp only[pw,aE,aT]
  ·rw[aI,idt,c,jb];simp only[ptr,szs,c9];rfl
theorem fI_ok {f:Nat}:∀{l:Zd} {ts:List Tr},(∀w∈l,isName w=true)->oks ts->jM ts<=f->∀i∈fI l ts,isName i.1=true/\i.2.map isL=[false]/\∀x∈i.2,okP f x
 |[],_,_,_,_,i,hi=>nomatch(show i∈([]:Its)from hi)
 |_::_,[],_,_,_,i,hi=>nomatch(show i∈([]:Its)from hi)
 |w::l,t::ts,hw,ho,hn,i,hi=>by
  rw[oks]at ho;rw[jM]at hn;rw[fI]at hi;rcases ak.mp hi with rfl|hi;·exact⟨hw w ai,rfl,fun x hx=>by rw[bj.mp hx];exact⟨ho.1,by lia⟩⟩
  ·exact fI_ok (fun x hx=>hw x (aj _ hx)) ho.2 (by lia) i hi
theorem aI_ok {f:Nat}:∀{l:List (Str×Str)} {ts:List Tr},(∀p∈l,isName p.1=true/\isName p.2=true)->oks ts->jM ts<=f->∀i∈aI l ts,isName i.1=true/\i.2.map isL=[true,false]/\∀x∈i.2,okP f x
 |[],_,_,_,_,i,hi=>nomatch(show i∈([]:Its)from hi)
 |_::_,[],_,_,_,i,hi=>nomatch(show i∈([]:Its)from hi)
 |w::l,t::ts,hw,ho,hn,i,hi=>by
  rw[oks]at ho;rw[jM]at hn;rw[aI]at hi;rcases ak.mp hi with rfl|hi
  ·refine⟨(hw w ai).1,rfl,fun x hx=>?_⟩;rcases ak.mp hx with rfl|hx;·exact(hw w ai).2
   ·rw[bj.mp hx];exact⟨ho.1,by lia⟩
  ·exact aI_ok (fun x hx=>hw x (aj _ hx)) ho.2 (by lia) i hi
def head_nc:∀(t:Tr),t.ok->∃x r,t.tk=x::r/\x≠")"
 | .mk κ ks,h=>by
  rw[Tr.ok]at h;rw[Tr.tk]
  cases κ with
  |num n=>
   refine⟨_,_,rfl,fun z=>?_⟩;have hf:=str_fig (k:=59) h.1.1 h.1.2;have:(41:Nat)∈(numS n).cps.toList:=by rw[z];decide+kernel
   have:=hf.1 41 this;exact absurd this gA
  |name w=>exact⟨_,_,rfl,name_nc h.1⟩
  |_=>exact⟨_,_,rfl,gA⟩
theorem ptr_inr:∀ts:List Tr,ptr (ts.map .inr)=ts
 |[]=>rfl
 |t::ts=>congrArg (t::·) (ptr_inr ts)
theorem pw_inr:∀ts:List Tr,pw (ts.map .inr)=(tks ts).flatten
 |[]=>rfl
 |t::ts=>by rw[aC,pw,pw_inr ts,tks,List.flatten_cons]
theorem pd_inr:∀(ts:List Tr) (p:Nat),pd (ts.map .inr) p=(jb ts p).map kD
 |[],_=>rfl
 |t::ts,p=>by rw[aC,pd,pd_inr ts,jb,aC]
theorem okP_inr {f:Nat}:∀{ts:List Tr},oks ts->jM ts<=f->∀x∈ts.map Le,okP f x
 |[],_,_,x,hx=>nomatch hx
 |t::ts,ho,hn,x,hx=>by
  rw[oks]at ho;rw[jM]at hn;rcases ak.mp hx with rfl|hx;·exact⟨ho.1,by lia⟩
  ·exact okP_inr ho.2 (by lia) x hx
end TM.Internal
open L2.Internal renaming upd→MB
open L2.Internal.PE renaming mono→MC
open L2.Internal.SqL renaming of→MD
open TM.Internal.Tr renaming sz→ME,tk→MF,ok→MG,nest→MR,rw→Nl
open TM.Internal renaming ops→MH,offs_len→ML,numS→MM,rws→MT,kD→MV,fI→MW,aI→MX,name_nc→M8,ptr_inr→M9,idt_len→Nd,pw_inr→Nj,pd_inr→Nk,Tr→Nm
open L2.Internal.SqT renaming of→MI
open GR.Internal renaming isName→MK,SM→MN,FG→MP,cat_assoc→MS,KWV→MU,allIn_mem→MY,app_codes→MZ,str_fig→Nh,firstIn→Ni
open HT.Internal renaming sIx→MQ,sIx_none→M0,sIx_nat→Ng
namespace K64.Internal
open PySem L2.Internal
def l0 {P:List Zz->Prop} (h:P []):∀us:List Zz,us.length=0->P us:=fun us e=>by rw[bV e];exact h
def lS {n:Nat} {P:List Zz->Prop} (h:∀a,∀us:List Zz,us.length=n->P (a::us)):∀us:List Zz,us.length=n+ 1->P us:=fun us e=>by
 cases us with
 |nil=>cases e
 |cons a t=>exact h a t (cZ.inj e)
def top (i:Nat):Zq:=PySem.Challenge.pw_flowkinds_k64_turns.main.body.getD i (.Pass ⟨0,0,0,0⟩)
variable {K:Zp} {mg:Zc} {n q:Str} {st:Zq} {ps:Zd} {C:Zx} {h:Zt}
inductive Fm (K:Zp) (n:Str) (st:Zq):Prop
 |mk {f:Zx} {od an:Option Zx} {sl:Array (Option Zz)} {oc kV dc pm cd ct:Zz} (a:eC K K9 n=some (some (.ref f))) (l:K.lookup f=some ⟨oc,od,.func (dY n n (lR st) (kJ st) (f6 st) .none kV dc pm an cd ct),sl⟩) (c:dZ K cd n=true) (k:dO K (.ref f)=true)
inductive Mm (K:Zp) (C:Zx) (n q:Str) (st:Zq):Prop
 |mk {f:Zx} {od an:Option Zx} {sl:Array (Option Zz)} {oc kV dc pm cd ct:Zz} (i:dE K (.ref C) n=some (some (.ref f))) (j:dG K (.ref f)=true) (l:K.lookup f=some ⟨oc,od,.func (dY n q (lR st) (kJ st) (f6 st) .none kV dc pm an cd ct),sl⟩) (c:dZ K cd q=true) (k:dO K (.ref f)=true)
structure Cm (K:Zp) (n:Str) (C:Zx):Prop where
 a:eC K K9 n=some (some (.ref C))
 pg:dC K C Str.empty=true
 hd:dD K C=true
 po:dH K C=true
 sa:dE K (.ref C) "__setattr__"=some (some (.builtin "object.__setattr__"))
 t1:dE K (.ref C) "__class__"=some (some (.builtin "object.__class__"))
 t2:dN K (.builtin "object.__class__") "__get__"=some (some (.builtin "getset_descriptor.__get__"))
 t3:PySem.W.takesIn K (.builtin "object.__class__")=some true
 t4:PySem.W.mroIn K C (.type "object")=some true
 ms:dJ K C=true
 kc:dO K (.ref C)=true
structure Fx (K:Zp) (mg:Zc) (n:Str) (st:Zq) (ps:Zd) where
 a:Zx
 fd:Zs
 F:Fun K n n st a fd
 b:pU K fd ps []
 m:mg n=some (.ref a)
 k:dO K (.ref a)=true
structure Mx (K:Zp) (C:Zx) (n q:Str) (st:Zq) (ps:Zd) where
 a:Zx
 fd:Zs
 F:Fun K n q st a fd
 b:pU K fd ps []
 me:IL K C n a
structure Ck (K:Zp) (mg:Zc) (n:Str) where
 a:Zx
 m:mg n=some (.ref a)
 cl:Cls K a
 ty:∀(H:Hp) (x dx:Zx) (fs:List (Str×V)),H x=some (.ins a dx fs)->xq K H (.ref x) (.ref a)
def Bf (n q:Str) (st:Zq) (ps:Zd):Prop:=∀(kV doc pm:Zz) (an:Option Zx) (cdv ct:Zz) (us:List Zz),us.length=ps.length->bindArgs (dY n q (lR st) (kJ st) (f6 st) .none kV doc pm an cdv ct) ⟨us,[]⟩=pure (ps.zip us)
def Fm.x (X:K.In h) (G:h.Ns K9 mg) (a:Fm K n st) (hb:Bf n n st ps:=by intro _ _ _ _ _ _;repeat(first|exact l0 rfl|refine lS fun _=>?_)):Fx K mg n st ps:=Classical.choice (by obtain⟨a,l,c,k⟩:=a;exact⟨⟨_,_,rN l c k,(rN l c k).binds hb,eF X G a,k⟩⟩)
def Mm.x (a:Mm K C n q st) (hb:Bf n q st ps:=by intro _ _ _ _ _ _;repeat(first|exact l0 rfl|refine lS fun _=>?_)):Mx K C n q st ps:=Classical.choice (by obtain⟨i,j,l,c,k⟩:=a;exact⟨⟨_,_,rN l c k,(rN l c k).binds hb,⟨i,j,k⟩⟩⟩)
def Cm.x (X:K.In h) (G:h.Ns K9 mg) (a:Cm K n C):Ck K mg n:=⟨C,eF X G a.a,⟨a.pg,a.hd,a.po,a.sa⟩,fun _ _ _ _ e=> .ins e ⟨a.pg,a.hd,a.po,a.sa⟩ a.t1 a.t2 a.t3 a.t4⟩
def sf {x:Option (Option Zz)} {a b:Zx} (h1:x=some (some (.ref a))) (h2:x=some (some (.ref b))):a=b:=by rw[h1]at h2;cases h2;rfl
def Cm.k (a:Cm K n C) (x:Mx K C "__init__" q st ps):Mk K C x.a:=⟨a.ms,x.me.at_,x.me.fn,a.kc⟩
abbrev FO (P:Zu) (w:Zv) (base:Zt) (k:Nat) (x:Fx K mg n st ps) (sp:Sp):Prop:=tU P w K mg base CX0 k x.a x.fd ps sp
abbrev MO (P:Zu) (w:Zv) (base:Zt) (mg:Zc) (k:Nat) (x:Mx K C n q st ps) (sp:Sp):Prop:=tU P w K mg base CX0 k x.a x.fd ps sp
abbrev p9:Zq:=top 6
abbrev ot:Zq:=top 7
abbrev Bk:Zq:=top 8
abbrev mD:Zq:=top 12
abbrev m8:Zq:=top 13
abbrev qa:Zq:=top 14
abbrev ou:Zq:=top 15
abbrev rY:Zq:=top 16
abbrev ow:Zq:=top 17
abbrev qb:Zq:=top 18
abbrev qc:Zq:=top 19
abbrev qd:Zq:=top 20
abbrev qe:Zq:=top 21
abbrev oy:Zq:=top 22
abbrev qf:Zq:=top 23
abbrev rZ:Zq:=top 24
abbrev oz:Zq:=top 25
abbrev oA:Zq:=top 26
abbrev qg:Zq:=top 27
abbrev qh:Zq:=top 28
abbrev oB:Zq:=top 29
abbrev EX:Zq:=top 33
abbrev qi:Zq:=top 48
abbrev r6:Zq:=top 49
abbrev oE:Zq:=top 50
abbrev r8:Zq:=top 51
abbrev Bl:Zq:=top 52
abbrev mE:Zq:=top 53
abbrev qj:Zq:=top 56
abbrev lT:Zq:=top 57
abbrev m9:Zq:=top 58
abbrev r9:Zq:=top 59
abbrev mF:Zq:=top 60
abbrev lU:Zq:=top 61
abbrev sd:Zq:=top 62
abbrev oF:Zq:=top 64
abbrev nh:Zq:=top 65
abbrev oG:Zq:=top 66
abbrev oH:Zq:=top 67
abbrev oJ:Zq:=top 68
abbrev qk:Zq:=top 69
abbrev ql:Zq:=top 70
abbrev mG:Zq:=top 71
abbrev kX:Zq:=top 72
abbrev qm:Zq:=top 73
abbrev oK:Zq:=top 74
abbrev mH:Zq:=top 75
abbrev oM:Zq:=top 76
abbrev nj:Zq:=top 77
abbrev lV:Zq:=top 78
abbrev nk:Zq:=top 79
abbrev mI:Zq:=top 80
abbrev mJ:Zq:=top 81
abbrev nq:Zq:=top 82
abbrev kK:Zq:=top 83
abbrev uO:Zq:=top 84
abbrev qU:Zq:=iq (top 3) 0
abbrev qo:Zq:=iq (top 4) 0
abbrev jR:Zq:=iq (top 11) 0
abbrev jc:Zq:=iq (top 11) 1
abbrev jr:Zq:=iq (top 11) 2
abbrev kY:Zq:=iq (top 11) 3
abbrev js:Zq:=iq (top 11) 4
abbrev ju:Zq:=iq (top 11) 5
abbrev kM:Zq:=iq (top 11) 6
abbrev km:Zq:=iq (top 11) 7
abbrev lg:Zq:=iq (top 11) 8
abbrev jS:Zq:=iq (top 11) 9
abbrev jd:Zq:=iq (top 11) 10
abbrev lW:Zq:=iq (top 32) 0
abbrev jT:Zq:=iq (top 47) 0
abbrev kn:Zq:=iq (top 54) 0
abbrev lX:Zq:=iq (top 54) 1
abbrev mK:Zq:=iq (top 54) 2
abbrev jU:Zq:=iq (top 54) 3
abbrev jV:Zq:=iq (top 54) 4
abbrev jW:Zq:=iq (top 54) 5
abbrev ko:Zq:=iq (top 54) 6
abbrev jX:Zq:=iq (top 54) 7
abbrev jv:Zq:=iq (top 54) 8
abbrev jx:Zq:=iq (top 54) 9
abbrev jY:Zq:=iq (top 54) 10
abbrev jz:Zq:=iq (top 54) 11
def scK {N ps:Zd} {s:Scope} (h:gh N ps s:=by constructor<;>first|rfl|decide+kernel):gh N ps s:=h
structure Ek (K:Zp) (mg:Zc) (n:Str) where
 a:Zx
 m:mg n=some (.ref a)
inductive Jm (K:Zp) (C:Zx) (q:Str) (st:Zq):Prop
 |mk {f:Zx} {od an:Option Zx} {sl:Array (Option Zz)} {oc kV dc pm cd ct:Zz} {N:Zx} {z1 z2:Str} {y1 y2 y3:List Zz} {y4:Zd} {y5:Bool} {y6:Option Bool} {y7:Option Zx} {k0 k1 k2 k3 k5:Option Zz} (xl:K.lookup C=some ⟨.type "type",y7,.cls ⟨z1,y1,.ref C::y2,N,z2,true,y4,y3,y5,y6,false⟩,#[k0,k1,k2,k3,some (.builtin "ValueError.__new__"),k5]⟩) (xi:eC K N "__init__"=some (some (.ref f)))
  (l:K.lookup f=some ⟨oc,od,.func (dY "__init__" q (lR st) (kJ st) (f6 st) .none kV dc pm an cd ct),sl⟩) (c:dZ K cd q=true) (k:dO K (.ref f)=true) (xz:eB K N=true) (xt:eE K EH y2=true) (xp:oc= .type "function") (xj:dE K (.ref C) "__setattr__"=some (some (.builtin "object.__setattr__")))
  (xa:dE K (.ref C) "__getattribute__"=some (some (.builtin "BaseException.__getattribute__"))) (xb:dE K (.ref C) "__getattr__"=some none) (xc:dE K (.ref C) "__class__"=some (some (.builtin "object.__class__"))) (xd:eA K (.ref C) (.type "BaseException")=some true) (xe:eA K (.ref C) (.type "object")=some true) (xf:dD K C=true)
structure Jx (K:Zp) (C:Zx) (q:Str) (st:Zq) (ps:Zd) where
 a:Zx
 fd:Zs
 F:Fun K "__init__" q st a fd
 b:pU K fd ps []
 xi:KY K C a
 xs:KW K C
def Jm.x (a:Jm K C q st) (hb:Bf "__init__" q st ps:=by intro _ _ _ _ _ _;repeat(first|exact l0 rfl|refine lS fun _=>?_)):Jx K C q st ps:=Classical.choice (by obtain⟨xl,xi,l,c,k,xz,xt,xp,xj,xa,xb,xc,xd,xe,xf⟩:=a;exact⟨⟨_,_,rN l c k,(rN l c k).binds hb,Hq xl xz xi xt l xp,Ho xl xt ⟨xa,xb,xc,xd,xe,xf⟩ xj⟩⟩)
set_option genInjectivity false in
set_option genSizeOf false in
structure Txt (K:Zp) (mg:Zc) where
 t1:Tok
 o1:mg "MOST_JOINED"=some (.int 60 t1)
 t2:Tok
 o2:mg "LETTERS"=some (.str "abcdefghijklmnopqrstuvwxyz" t2)
 t3:Tok
 o3:mg "FIGURES"=some (.str "0123456789" t3)
 t4:Zx
 o4:mg "KEPT_WORDS"=some (.ref t4)
 r4:∀H:Hp,SqT K H t4 [V.str "def",V.str "fn",V.str "call",V.str "let",V.str "rec",V.str "get",V.str "tag",V.str "case",V.str "row",V.str "at",V.str "join",V.str "size",V.str "add",V.str "sub",V.str "less"]
 t5:Tok
 o5:mg "MOST_FIGURES"=some (.int 60 t5)
 t6:Tok
 o6:mg "MOST_SIGNS"=some (.int 12 t6)
 t7:Tok
 o7:mg "MOST_DEFINITIONS"=some (.int 12 t7)
 t8:Tok
 o8:mg "MOST_FIELDS"=some (.int 6 t8)
 t9:Tok
 o9:mg "MOST_ARMS"=some (.int 6 t9)
 t10:Tok
 o10:mg "MOST_THINGS"=some (.int 8 t10)
 t11:Tok
 o11:mg "MOST_PLACES"=some (.int 160 t11)
 t12:Tok
 o12:mg "MOST_NEST"=some (.int 24 t12)
 d1:Fx K mg "parts_of" p9 ["row"]
 d2:Fx K mg "places_in" ot ["row"]
 d3:Fx K mg "flat" Bk ["parts"]
 d4:Fx K mg "first_parts" mD ["row"]
 d5:Fx K mg "held_value" m8 ["scope","place"]
 d6:Fx K mg "work_num" qa ["machine","row","place","scope","parts"]
 d7:Fx K mg "work_name" ou ["machine","row","place","scope","parts"]
 d8:Fx K mg "work_fn" rY ["machine","row","place","scope","parts"]
 d9:Fx K mg "work_call" ow ["machine","row","place","scope","parts"]
 d10:Fx K mg "work_let" qb ["machine","row","place","scope","parts"]
 d11:Fx K mg "work_rec" qc ["machine","row","place","scope","parts"]
 d12:Fx K mg "work_get" qd ["machine","row","place","scope","parts"]
 d13:Fx K mg "work_tag" qe ["machine","row","place","scope","parts"]
 d14:Fx K mg "work_case" oy ["machine","row","place","scope","parts"]
 d15:Fx K mg "work_row" qf ["machine","row","place","scope","parts"]
 d16:Fx K mg "work_at" rZ ["machine","row","place","scope","parts"]
 d17:Fx K mg "work_join" oz ["machine","row","place","scope","parts"]
 d18:Fx K mg "work_size" oA ["machine","row","place","scope","parts"]
 d19:Fx K mg "work_add" qg ["machine","row","place","scope","parts"]
 d20:Fx K mg "work_sub" qh ["machine","row","place","scope","parts"]
 d21:Fx K mg "work_less" oB ["machine","row","place","scope","parts"]
 d22:Fx K mg "run" EX ["program","homes","turns"]
 d23:Fx K mg "words_of" qi ["text"]
 d24:Fx K mg "is_name" r6 ["word"]
 d25:Fx K mg "is_number" oE ["word"]
 d26:Fx K mg "made_of" r8 ["word","signs"]
 d27:Fx K mg "read" Bl ["text"]
 d28:Fx K mg "check_count" mE ["what","count","least","most"]
 d29:Fx K mg "homes_of" qj ["program"]
 d30:Fx K mg "refuse_twice" lT ["words"]
 d31:Fx K mg "words_once" m9 ["row"]
 d32:Fx K mg "home_of" r9 ["row","place","scope"]
 d33:Fx K mg "root_scopes" mF ["program"]
 d34:Fx K mg "inner_scopes" lU ["row","scope"]
 d35:Fx K mg "widened" sd ["scope","name","home"]
 d36:Fx K mg "_law_stem" oF ["_law_cell","_law_size"]
 d37:Fx K mg "_law_words" nh ["_law_cell"]
 d38:Fx K mg "_law_leaf" oG ["_law_word","_law_weight","_law_shape","_law_more"]
 d39:Fx K mg "_law_node" oH ["_law_words_here","_law_parts","_law_shape","_law_more"]
 d40:Fx K mg "_law_held" oJ ["_law_item","_law_var"]
 d41:Fx K mg "_law_let" qk ["_law_words_here","_law_var","_law_bound","_law_body"]
 d42:Fx K mg "_law_pop" ql ["_law_stack"]
 d43:Fx K mg "_law_number" mG ["_law_arg"]
 d44:Fx K mg "_law_by_shape" kX ["_law_words_here","_law_item","_law_arg"]
 d45:Fx K mg "_law_odd" qm ["_law_words_here","_law_item","_law_arg","_law_below"]
 d46:Fx K mg "_law_pair" oK ["_law_words_here","_law_op","_law_arg","_law_below","_law_item"]
 d47:Fx K mg "_law_single" mH ["_law_words_here","_law_op","_law_arg","_law_item"]
 d48:Fx K mg "_law_step" oM ["_law_words_here","_law_stack","_law_made","_law_c","_law_done"]
 d49:Fx K mg "_law_ended" nj ["_law_words_here","_law_item","_law_arg"]
 d50:Fx K mg "_law_program" lV ["_law_script"]
 d51:Fx K mg "_law_whole" nk ["_law_x"]
 d52:Fx K mg "_law_tuples" mI ["_law_found","_law_size"]
 d53:Fx K mg "_law_shaped" mJ ["_law_found","_law_turns"]
 d54:Fx K mg "_law_alike" nq ["_law_one","_law_other"]
 d55:Fx K mg "_law_beginning" kK ["_law_short","_law_long"]
 c1:Ek K mg "FlowError"
 c2:Ek K mg "BadText"
 c3:Ek K mg "Twice"
 c4:Ek K mg "NoName"
 c5:Ck K mg "Machine"
 n5program:iI K c5.a "program"
 n5homes:iI K c5.a "homes"
 n5turns:iI K c5.a "turns"
 n5begun:iI K c5.a "begun"
 n5end:iI K c5.a "end"
 n5meets:iI K c5.a "meets"
 n5had:iI K c5.a "had"
 n5defined:iI K c5.a "defined"
 n5steps:iI K c5.a "steps"
 n5ready:iI K c5.a "ready"
 e56:Mx K c5.a "__init__" "Machine.__init__" jR ["self","program","homes","turns"]
 mk5:Mk K c5.a e56.a
 e57:Mx K c5.a "work_program" "Machine.work_program" jc ["self"]
 e58:Mx K c5.a "work_steps" "Machine.work_steps" jr ["self"]
 e59:Mx K c5.a "begin" "Machine.begin" kY ["self","place","scope"]
 e60:Mx K c5.a "work_parts" "Machine.work_parts" js ["self","place","scope"]
 e61:Mx K c5.a "take_ready" "Machine.take_ready" ju ["self","count"]
 e62:Mx K c5.a "finish" "Machine.finish" kM ["self","place","value"]
 e63:Mx K c5.a "go_into" "Machine.go_into" km ["self","body","scope","place"]
 e64:Mx K c5.a "comes" "Machine.comes" lg ["self","value","place","slot","fits"]
 e65:Mx K c5.a "comes_as" "Machine.comes_as" jS ["self","shape","value","place","slot"]
 e66:Mx K c5.a "both_come_as" "Machine.both_come_as" jd ["self","shape","parts","place"]
 c6:Ck K mg "Run"
 n6end:iI K c6.a "end"
 n6value:iI K c6.a "value"
 n6meets:iI K c6.a "meets"
 n6had:iI K c6.a "had"
 n6begun:iI K c6.a "begun"
 e67:Mx K c6.a "__init__" "Run.__init__" lW ["self","end","value","meets","had","begun"]
 mk6:Mk K c6.a e67.a
 c7:Ck K mg "Program"
 n7names:iI K c7.a "names"
 n7roots:iI K c7.a "roots"
 n7rows:iI K c7.a "rows"
 e68:Mx K c7.a "__init__" "Program.__init__" jT ["self","names","roots","rows"]
 mk7:Mk K c7.a e68.a
 c8:Ck K mg "Reader"
 n8words:iI K c8.a "words"
 n8taken:iI K c8.a "taken"
 n8rows:iI K c8.a "rows"
 e69:Mx K c8.a "__init__" "Reader.__init__" kn ["self","words"]
 mk8:Mk K c8.a e69.a
 e70:Mx K c8.a "ahead" "Reader.ahead" lX ["self"]
 e71:Mx K c8.a "take" "Reader.take" mK ["self"]
 e72:Mx K c8.a "pass_over" "Reader.pass_over" jU ["self","wanted"]
 e73:Mx K c8.a "take_name" "Reader.take_name" jV ["self"]
 e74:Mx K c8.a "take_expr" "Reader.take_expr" jW ["self","depth"]
 e75:Mx K c8.a "take_row" "Reader.take_row" ko ["self","depth"]
 e76:Mx K c8.a "take_form" "Reader.take_form" jX ["self","head","depth"]
 e77:Mx K c8.a "take_steady" "Reader.take_steady" jv ["self","parts","depth"]
 e78:Mx K c8.a "take_fields" "Reader.take_fields" jx ["self","depth"]
 e79:Mx K c8.a "take_arms" "Reader.take_arms" jY ["self","depth"]
 e80:Mx K c8.a "take_things" "Reader.take_things" jz ["self","depth"]
 v1:dP K (.ref c6.a) (.ref c6.a)=some true
 z_ValueError:mg "ValueError"=none
 z_all:mg "all"=none
 z_bool:mg "bool"=none
 z_dict:mg "dict"=none
 z_enumerate:mg "enumerate"=none
 z_int:mg "int"=none
 z_isinstance:mg "isinstance"=none
 z_len:mg "len"=none
 z_list:mg "list"=none
 z_max:mg "max"=none
 z_range:mg "range"=none
 z_reversed:mg "reversed"=none
 z_str:mg "str"=none
 z_sum:mg "sum"=none
 z_tuple:mg "tuple"=none
 z_zip:mg "zip"=none
def xy:gh ["row"] ["row"] (f6 p9):=scK
def wg:gh ["row"] ["row"] (f6 ot):=scK
def uP:gh ["parts","found","part"] ["parts"] (f6 Bk):=scK
def tq:gh ["row"] ["row"] (f6 mD):=scK
def mL:gh ["scope","place","around"] ["scope","place"] (f6 m8):=scK
def xA:gh ["machine","row","place","scope","parts"] ["machine","row","place","scope","parts"] (f6 qa):=scK
def qG:gh ["machine","row","place","scope","parts","home"] ["machine","row","place","scope","parts"] (f6 ou):=scK
def zO:gh ["machine","row","place","scope","parts"] ["machine","row","place","scope","parts"] (f6 rY):=scK
def qH:gh ["machine","row","place","scope","parts","called"] ["machine","row","place","scope","parts"] (f6 ow):=scK
def xB:gh ["machine","row","place","scope","parts"] ["machine","row","place","scope","parts"] (f6 qb):=scK
def se:gh ["machine","row","place","scope","parts","fields"] ["machine","row","place","scope","parts"] (f6 qc):=scK
def sg:gh ["machine","row","place","scope","parts","fields"] ["machine","row","place","scope","parts"] (f6 qd):=scK
def xC:gh ["machine","row","place","scope","parts"] ["machine","row","place","scope","parts"] (f6 qe):=scK
def lJ:gh ["machine","row","place","scope","parts","bodies","tagged","body"] ["machine","row","place","scope","parts"] (f6 oy):=scK
def xD:gh ["machine","row","place","scope","parts"] ["machine","row","place","scope","parts"] (f6 qf):=scK
def qp:gh ["machine","row","place","scope","parts","things","index"] ["machine","row","place","scope","parts"] (f6 rZ):=scK
def qI:gh ["machine","row","place","scope","parts","things"] ["machine","row","place","scope","parts"] (f6 oz):=scK
def wj:gh ["machine","row","place","scope","parts"] ["machine","row","place","scope","parts"] (f6 oA):=scK
def xE:gh ["machine","row","place","scope","parts"] ["machine","row","place","scope","parts"] (f6 qg):=scK
def xF:gh ["machine","row","place","scope","parts"] ["machine","row","place","scope","parts"] (f6 qh):=scK
def qJ:gh ["machine","row","place","scope","parts","word"] ["machine","row","place","scope","parts"] (f6 oB):=scK
def Bm:gh ["program","homes","turns","machine","value"] ["program","homes","turns"] (f6 EX):=scK
def si:gh ["text","spaced"] ["text"] (f6 qi):=scK
def zP:gh ["word"] ["word"] (f6 r6):=scK
def wk:gh ["word"] ["word"] (f6 oE):=scK
def zQ:gh ["word","signs"] ["word","signs"] (f6 r8):=scK
def uQ:gh ["text","reader","names","roots"] ["text"] (f6 Bl):=scK
def tD:gh ["what","count","least","most"] ["what","count","least","most"] (f6 mE):=scK
def kq:gh ["program","scopes","homes","place","row","scope"] ["program"] (f6 qj):=scK
def lj:gh ["words","seen","word"] ["words"] (f6 lT):=scK
def uR:gh ["row"] ["row"] (f6 m9):=scK
def zR:gh ["row","place","scope"] ["row","place","scope"] (f6 r9):=scK
def iE:gh ["program","scopes","earlier","number","name","root","later"] ["program"] (f6 mF):=scK
def jZ:gh ["row","scope","scopes","place","arm"] ["row","scope"] (f6 lU):=scK
def ud:gh ["scope","name","home","wider"] ["scope","name","home"] (f6 sd):=scK
def iS:gh ["_law_cell","_law_size","_law_signs","_law_stem_here","_law_k","_law_many"] ["_law_cell","_law_size"] (f6 oF):=scK
def hX:gh ["_law_cell","_law_size","_law_words_here","_law_stem_here","_law_at","_law_k","_law_word","_law_part"] ["_law_cell"] (f6 nh):=scK
def wm:gh ["_law_word","_law_weight","_law_shape","_law_more"] ["_law_word","_law_weight","_law_shape","_law_more"] (f6 oG):=scK
def gU:gh ["_law_words_here","_law_parts","_law_shape","_law_more","_law_texts","_law_nest","_law_weight","_law_many","_law_own","_law_places","_law_at","_law_word","_law_part"] ["_law_words_here","_law_parts","_law_shape","_law_more"] (f6 oH):=scK
def qK:gh ["_law_item","_law_var","_law_many"] ["_law_item","_law_var"] (f6 oJ):=scK
def oN:gh ["_law_words_here","_law_var","_law_bound","_law_body","_law_item","_law_times"] ["_law_words_here","_law_var","_law_bound","_law_body"] (f6 qk):=scK
def xG:gh ["_law_stack"] ["_law_stack"] (f6 ql):=scK
def nT:gh ["_law_arg","_law_most"] ["_law_arg"] (f6 mG):=scK
def i9:gh ["_law_words_here","_law_item","_law_arg","_law_zero","_law_arm","_law_heads"] ["_law_words_here","_law_item","_law_arg"] (f6 kX):=scK
def sj:gh ["_law_words_here","_law_item","_law_arg","_law_below","_law_first"] ["_law_words_here","_law_item","_law_arg","_law_below"] (f6 qm):=scK
def qL:gh ["_law_words_here","_law_op","_law_arg","_law_below","_law_item","_law_word"] ["_law_words_here","_law_op","_law_arg","_law_below","_law_item"] (f6 oK):=scK
def nU:gh ["_law_words_here","_law_op","_law_arg","_law_item","_law_inner"] ["_law_words_here","_law_op","_law_arg","_law_item"] (f6 mH):=scK
def ip:gh ["_law_words_here","_law_stack","_law_made","_law_c","_law_done","_law_op","_law_arg","_law_new","_law_told","_law_item"] ["_law_words_here","_law_stack","_law_made","_law_c","_law_done"] (f6 oM):=scK
def iN:gh ["_law_words_here","_law_item","_law_arg","_law_var","_law_choice","_law_shape","_law_given"] ["_law_words_here","_law_item","_law_arg"] (f6 nj):=scK
def gS:gh ["_law_script","_law_words_here","_law_stack","_law_made","_law_texts","_law_done","_law_cell","_law_c","_law_item"] ["_law_script"] (f6 lV):=scK
def uS:gh ["_law_x"] ["_law_x"] (f6 nk):=scK
def nV:gh ["_law_found","_law_size","_law_one"] ["_law_found","_law_size"] (f6 mI):=scK
def tE:gh ["_law_found","_law_turns"] ["_law_found","_law_turns"] (f6 mJ):=scK
def uT:gh ["_law_one","_law_other"] ["_law_one","_law_other"] (f6 nq):=scK
def qr:gh ["_law_short","_law_long"] ["_law_short","_law_long"] (f6 kK):=scK
def lK:gh ["_law_script","_law_start","_law_turns","_law_text","_law_program_here","_law_homes","_law_rows","_law_kept","_law_long","_law_again","_law_fewer","_law_short"] ["_law_script"] (f6 uO):=scK
def zS:gh ["self","word"] ["self","word"] (f6 qU):=scK
def yM:gh ["self","word","place"] ["self","word","place"] (f6 qo):=scK
def oO:gh ["self","program","homes","turns"] ["self","program","homes","turns"] (f6 jR):=scK
def kb:gh ["self","root"] ["self"] (f6 jc):=scK
def kE:gh ["self","step"] ["self"] (f6 jr):=scK
def mU:gh ["self","place","scope","part"] ["self","place","scope"] (f6 kY):=scK
def kF:gh ["self","place","scope","row"] ["self","place","scope"] (f6 js):=scK
def jj:gh ["self","count","taken","number"] ["self","count"] (f6 ju):=scK
def qt:gh ["self","place","value"] ["self","place","value"] (f6 kM):=scK
def pI:gh ["self","body","scope","place"] ["self","body","scope","place"] (f6 km):=scK
def qV:gh ["self","value","place","slot","fits"] ["self","value","place","slot","fits"] (f6 lg):=scK
def oP:gh ["self","shape","value","place","slot"] ["self","shape","value","place","slot"] (f6 jS):=scK
def mM:gh ["self","shape","parts","place"] ["self","shape","parts","place"] (f6 jd):=scK
def sk:gh ["self","end","value","meets","had","begun"] ["self","end","value","meets","had","begun"] (f6 lW):=scK
def oQ:gh ["self","names","roots","rows"] ["self","names","roots","rows"] (f6 jT):=scK
def pJ:gh ["self","words"] ["self","words"] (f6 kn):=scK
def sq:gh ["self"] ["self"] (f6 lX):=scK
def nX:gh ["self","word"] ["self"] (f6 mK):=scK
def lu:gh ["self","wanted","word"] ["self","wanted"] (f6 jU):=scK
def lA:gh ["self","word"] ["self"] (f6 jV):=scK
def jI:gh ["self","depth","place"] ["self","depth"] (f6 jW):=scK
def ke:gh ["self","depth","word","row"] ["self","depth"] (f6 ko):=scK
def lB:gh ["self","head","depth","subject"] ["self","head","depth"] (f6 jX):=scK
def jk:gh ["self","parts","depth","found","part"] ["self","parts","depth"] (f6 jv):=scK
def kG:gh ["self","depth","found"] ["self","depth"] (f6 jx):=scK
def lC:gh ["self","depth","found"] ["self","depth"] (f6 jY):=scK
def kH:gh ["self","depth","found"] ["self","depth"] (f6 jz):=scK
def yN (K:Zp):Sp:=fun vs H Q _=>∃(a:Zx) (ns:List Int),vs=[.ref a]/\SqL K H a (ns.map V.int)/\ns.length<=63/\∀H',Q (.bl true) H'
def _root_.L2.Internal.Fun.rd {P:Zu} {w:Zv} {base:Zt} {f:Zx} {fd:Zs} {N:Zd} {k:Nat} {sp:Sp} (F:Fun K n q st f fd) (S:gh N ps (f6 st)) (hbody:∀(cdv:Zz) (A:Zw) (outer:List Env) (s:Zy) (H:Hp) (vs:List V) (Q:VK) (E:XK),nL k (A.deeper (PyProof.Rows.envOfC q (f6 st) s.heap.objs.size f cdv))->sp vs H Q E->∃t,PSs (Cd CX0 P w K mg base N q (f6 st) f cdv A outer s H E).nox (kJ st) t/\t {nx:=fun _ H'=>Q .non H',rt:=Q} (qR N vs) H) (len:∀vs H Q E,sp vs H Q E->vs.length=ps.length:=by intro _ _ _ _ h;repeat(first|(obtain⟨rfl,_⟩:=h;rfl)|(cases h;first|(subst_vars;rfl)|rename_i h))):tU P w K mg base CX0 (k+ 1) f fd ps sp:=F.ok S len hbody
section
variable {X:Cx}
def pF {e:Zr} {es:List Zr} {pos p:Pos} {k:Nat} {sp:Sp} {t:TA} (x:Fx X.K X.mg n st ps) (F:tU X.prog X.w X.K X.mg X.base CX0 k x.a x.fd ps sp) (hr:nL k X.A) (ha:PA X (e::es) t) (hg:Gl X n:=by exact rfl) (hdb:autoParam ((n==("__debug__":Str))=false) L2.Internal.auD._auto_1) (he:autoParam (Lg (e::es) X.env=(false,eval e X.env)::Lg es X.env) L2.Internal.auR._auto_1) (hpl:autoParam ((LF pos (Lg es X.env)).any (·.1)=false) L2.Internal.auR._auto_1):PE X (.Call (.Name n p) (e::es) [] pos) (Cr sp [] E0 t):=Ex F hr hg x.m x.k x.b .nil gY ha hdb he hpl
def pS {i:Nat} {x:Str} {e:Zr} {te:TE} {pos pos':Pos} (hN:X.N.Nodup) (he:PE X e te) (hi:autoParam (X.N[i]?=some x) L2.Internal.auR._auto_1) (hx:Loc X.env.scope x:=by first|exact .inl rfl|exact .inr rfl) (hs:autoParam (Ml e (some (.Name x pos')) pos.line X.env=pure false) L2.Internal.auR._auto_1) (hf:autoParam (X.fn x=true\/X.env.scope.names.lookup x=some .local) L2.Internal.auL._auto_1):PS X (.Assign [.Name x pos'] e pos) (El te (gP i)):=Gz hN hi hx he hs hf
def pN {i:Nat} {x:Str} {pos:Pos} (hN:X.N.Nodup) (hi:autoParam (X.N[i]?=some x) L2.Internal.auR._auto_1) (hx:Loc X.env.scope x:=by first|exact .inl rfl|exact .inr rfl) (hf:autoParam (X.fn x=true\/X.env.scope.names.lookup x=some .local) L2.Internal.auL._auto_1):PG X (.Name x pos) (gP i):=xk hN hi hx hf
def IM {scope:Scope} {x:Str} (ns:Zd) (cap:List (Str×Nat×Zx)) (hns:autoParam (cap.map (·.1)=ns) L2.Internal.auR._auto_1) (hk:autoParam (scope.kind= .function) L2.Internal.auR._auto_1) (hn:∀p∈scope.names,p.2≠ .cell/\(p.2= .free->p.1∈ns):=by decide+kernel) (hl:∀y∈scope.names,y.2= .local->scope.names.lookup y.1=some .local:=by decide+kernel)
  (hx:autoParam (scope.names.lookup x=some .local) L2.Internal.auR._auto_1) (hnd:(x::ns).Nodup:=by decide+kernel) (hc:autoParam (L9 scope X.env=pure (cap.map fun p=>(p.1,p.2.2))) L2.Internal.auR._auto_1) (hok:autoParam (X.env.scope.kind= .function) L2.Internal.auR._auto_1)
  (h:∀p∈cap,scope.names.lookup p.1=some .free/\X.env.cells.lookup p.1=some p.2.2/\X.env.scope.names.lookup p.1=some .cell/\X.N[p.2.1]?=some p.1:=by repeat(first|refine bW.mpr ⟨⟨rfl,rfl,rfl,rfl⟩,?_⟩|exact fun _ h=>absurd h bG)):
  pX X (x::ns) scope (cap.map fun p=>(p.1,p.2.2)) (fun σ=>none::cap.map fun p=>σ.getD p.2.1 none) 0 x:=blkC ns cap hns hk hn hl hx hnd hc hok h
def blkD2 {scope:Scope} {x y:Str} (ns:Zd) (cap:List (Str×Nat×Zx)) (hns:autoParam (cap.map (·.1)=ns) L2.Internal.auR._auto_1) (hk:autoParam (scope.kind= .function) L2.Internal.auR._auto_1) (hn:∀p∈scope.names,p.2≠ .cell/\(p.2= .free->p.1∈ns):=by decide+kernel) (hl:∀y∈scope.names,y.2= .local->scope.names.lookup y.1=some .local:=by decide+kernel)
  (hx:autoParam (scope.names.lookup x=some .local) L2.Internal.auR._auto_1) (hnd:(x::y::ns).Nodup:=by decide+kernel) (hc:autoParam (L9 scope X.env=pure (cap.map fun p=>(p.1,p.2.2))) L2.Internal.auR._auto_1) (hok:autoParam (X.env.scope.kind= .function) L2.Internal.auR._auto_1)
  (h:∀p∈cap,scope.names.lookup p.1=some .free/\X.env.cells.lookup p.1=some p.2.2/\X.env.scope.names.lookup p.1=some .cell/\X.N[p.2.1]?=some p.1:=by repeat(first|refine bW.mpr ⟨⟨rfl,rfl,rfl,rfl⟩,?_⟩|exact fun _ h=>absurd h bG)):
  pX X (x::y::ns) scope (cap.map fun p=>(p.1,p.2.2)) (fun σ=>none::none::cap.map fun p=>σ.getD p.2.1 none) 0 x:=JB ns cap hns hk hn hl hx hnd hc hok h
def pgP {scope:Scope} {cl:List (Str×Zx)} {x y:Str} {ns:Zd} {px py tp:Pos} {kk:Nat} (hc:X.calm=true) (nd:(x::y::ns).Nodup) (hx:scope.names.lookup x=some .local) (hy:scope.names.lookup y=some .local) (C:Zx) (s₀:Zy) (H₀:Hp) (ex:List Zx) (pz:Za):PG (blk X (x::y::ns) scope cl C s₀ H₀ ex pz) (.Tuple [.Name x px,.Name y py] kk tp) (II X.K 2 (xm (gP 0) (xm (gP 1) IH))):=
 Ah (n:=2) (X:=blk X (x::y::ns) scope cl C s₀ H₀ ex pz) hc (nJ (xk (X:=blk X (x::y::ns) scope cl C s₀ H₀ ex pz) (i:=0) nd rfl (.inl (LI hx)) (.inr (LI hx))) (nJ (xk (X:=blk X (x::y::ns) scope cl C s₀ H₀ ex pz) (i:=1) nd rfl (.inl (LI hy)) (.inr (LI hy))) xn))
end
end K64.Internal
inductive X2 {a0 a1:Type} (p:a0->a1->Prop):Prop
 |mk x0 x1:p x0 x1->X2 p
inductive X3 {a0 a1 a2:Type} (p:a0->a1->a2->Prop):Prop
 |mk x0 x1 x2:p x0 x1 x2->X3 p
inductive X4 {a0 a1 a2 a3:Type} (p:a0->a1->a2->a3->Prop):Prop
 |mk x0 x1 x2 x3:p x0 x1 x2 x3->X4 p
inductive X5 {a0 a1 a2 a3 a4:Type} (p:a0->a1->a2->a3->a4->Prop):Prop
 |mk x0 x1 x2 x3 x4:p x0 x1 x2 x3 x4->X5 p
inductive X6 {a0 a1 a2 a3 a4 a5:Type} (p:a0->a1->a2->a3->a4->a5->Prop):Prop
 |mk x0 x1 x2 x3 x4 x5:p x0 x1 x2 x3 x4 x5->X6 p
inductive X7 {a0 a1 a2 a3 a4 a5 a6:Type} (p:a0->a1->a2->a3->a4->a5->a6->Prop):Prop
 |mk x0 x1 x2 x3 x4 x5 x6:p x0 x1 x2 x3 x4 x5 x6->X7 p
inductive X8 {a0 a1 a2 a3 a4 a5 a6 a7:Type} (p:a0->a1->a2->a3->a4->a5->a6->a7->Prop):Prop
 |mk x0 x1 x2 x3 x4 x5 x6 x7:p x0 x1 x2 x3 x4 x5 x6 x7->X8 p
inductive X9 {a0 a1 a2 a3 a4 a5 a6 a7 a8:Type} (p:a0->a1->a2->a3->a4->a5->a6->a7->a8->Prop):Prop
 |mk x0 x1 x2 x3 x4 x5 x6 x7 x8:p x0 x1 x2 x3 x4 x5 x6 x7 x8->X9 p
inductive X10 {a0 a1 a2 a3 a4 a5 a6 a7 a8 a9:Type} (p:a0->a1->a2->a3->a4->a5->a6->a7->a8->a9->Prop):Prop
 |mk x0 x1 x2 x3 x4 x5 x6 x7 x8 x9:p x0 x1 x2 x3 x4 x5 x6 x7 x8 x9->X10 p
structure Y3 (a0 a1 a2:Prop):Prop where mk::
 (h0:a0) (h1:a1) (h2:a2)
structure Y4 (a0 a1 a2 a3:Prop):Prop where mk::
 (h0:a0) (h1:a1) (h2:a2) (h3:a3)
structure Y5 (a0 a1 a2 a3 a4:Prop):Prop where mk::
 (h0:a0) (h1:a1) (h2:a2) (h3:a3) (h4:a4)
structure Y6 (a0 a1 a2 a3 a4 a5:Prop):Prop where mk::
 (h0:a0) (h1:a1) (h2:a2) (h3:a3) (h4:a4) (h5:a5)
structure Y7 (a0 a1 a2 a3 a4 a5 a6:Prop):Prop where mk::
 (h0:a0) (h1:a1) (h2:a2) (h3:a3) (h4:a4) (h5:a5) (h6:a6)
structure Y8 (a0 a1 a2 a3 a4 a5 a6 a7:Prop):Prop where mk::
 (h0:a0) (h1:a1) (h2:a2) (h3:a3) (h4:a4) (h5:a5) (h6:a6) (h7:a7)
structure Y9 (a0 a1 a2 a3 a4 a5 a6 a7 a8:Prop):Prop where mk::
 (h0:a0) (h1:a1) (h2:a2) (h3:a3) (h4:a4) (h5:a5) (h6:a6) (h7:a7) (h8:a8)
structure Y10 (a0 a1 a2 a3 a4 a5 a6 a7 a8 a9:Prop):Prop where mk::
 (h0:a0) (h1:a1) (h2:a2) (h3:a3) (h4:a4) (h5:a5) (h6:a6) (h7:a7) (h8:a8) (h9:a9)
structure Y11 (a0 a1 a2 a3 a4 a5 a6 a7 a8 a9 a10:Prop):Prop where mk::
 (h0:a0) (h1:a1) (h2:a2) (h3:a3) (h4:a4) (h5:a5) (h6:a6) (h7:a7) (h8:a8) (h9:a9) (h10:a10)
structure Y12 (a0 a1 a2 a3 a4 a5 a6 a7 a8 a9 a10 a11:Prop):Prop where mk::
 (h0:a0) (h1:a1) (h2:a2) (h3:a3) (h4:a4) (h5:a5) (h6:a6) (h7:a7) (h8:a8) (h9:a9) (h10:a10) (h11:a11)
structure Y16 (a0 a1 a2 a3 a4 a5 a6 a7 a8 a9 a10 a11 a12 a13 a14 a15:Prop):Prop where mk::
 (h0:a0) (h1:a1) (h2:a2) (h3:a3) (h4:a4) (h5:a5) (h6:a6) (h7:a7) (h8:a8) (h9:a9) (h10:a10) (h11:a11) (h12:a12) (h13:a13) (h14:a14) (h15:a15)
namespace K64.Internal
open PySem L2.Internal GR.Internal
def sr:Sp:=fun vs H Q _=>∃x:Str,Y3 (vs=[.str x]) (x.length<=30000) (∀(p:Zx) (H':Hp),gE H H'->H p=none->H' p=some (.lst (wordsV x.cps.toList))->Q (.ref p) H')
abbrev r1 (x:Str):Str:=Txt.replace x "(" " ( "
abbrev r2 (x:Str):Str:=Txt.replace (r1 x) ")" " ) "
abbrev r3 (x:Str):Str:=Txt.replace (r2 x) "\n" " "
def c1 (x:Str):(r1 x).cps.toList=T1.sub 40 [32,40,32] x.cps.toList:=T1.replace_codes x " ( " 40
def c2 (x:Str):(r2 x).cps.toList=T1.sub 41 [32,41,32] (T1.sub 40 [32,40,32] x.cps.toList):=by rw[<-c1];exact T1.replace_codes (r1 x) " ) " 41
def c3 (x:Str):(r3 x).cps.toList=T1.spaced x.cps.toList:=by rw[<-T1.spaced_sub,<-c2];exact T1.replace_codes (r2 x) " " 10
def xH (c:Nat) (z:List Nat) (n:Nat) (h1:1<=n) (h:z.length<=n) (l:List Nat):(T1.sub c z l).length<=n*l.length:=T1.flat_len _ n (fun k=>by split;exact h;exact h1) l
def l1 (x:Str):(r1 x).length<=3*x.length:=by rw[<-T1.len_codes,<-T1.len_codes,c1];exact xH _ _ 3 (by decide) (by decide) _
def l2 (x:Str):(r2 x).length<=9*x.length:=by
 have h:=l1 x;have e:(r2 x).length<=3*(r1 x).length:=by rw[<-T1.len_codes,<-T1.len_codes,c2,c1];exact xH _ _ 3 (by decide) (by decide) _
 lia
def l3 (x:Str):(r3 x).length<=9*x.length:=by
 have h:=l2 x;have e:(r3 x).length<=1*(r2 x).length:=by rw[<-T1.len_codes,<-T1.len_codes];have e3:(r3 x).cps.toList=T1.sub 10 [32] (r2 x).cps.toList:=T1.replace_codes (r2 x) " " 10;rw[e3];exact xH _ _ 1 (by decide) (by decide) _
 lia
def ne0:V->Bool:=fun v=>!decide (v=V.str "")
def xI (x:Str):(((LM (r3 x) " ").map V.str).filter ne0).map id=wordsV x.cps.toList:=by
 have e:=T1.split_codes (r3 x) 32;rw[c3]at e;have e2:T1.all (T1.W x.cps.toList)=((LM (r3 x) ⟨#[32]⟩).map (·.cps.toList)).filter fun p=>decide (p≠[]):=by rw[e,T1.words_cut];rfl
 unfold wordsV;rw[e2,List.map_id,List.filter_map,List.filter_map,bF];show((LM (r3 x) ⟨#[32]⟩).filter (ne0∘V.str)).map V.str=_;have ef:(ne0∘V.str)=((fun p=>decide (p≠[]))∘fun(y:Str)=>y.cps.toList):=by
  funext y;show(!decide (V.str y=V.str ""))=decide (y.cps.toList≠[]);by_cases h:y=("":Str);·subst h;rfl
  ·have h1:¬V.str y=V.str "":=fun z=>h (by injection z);have h2:y.cps.toList≠[]:=fun z=>h (T1.str_ext z);rw[gQ h1,gM h2];rfl
 rw[ef];refine bX fun y _=>?_;show V.str y=V.str ⟨y.cps.toList.toArray⟩;rw[Array.toArray_toList]
def xJ (T:Txt K mg):FO P w base 1 T.d23 sr:=by
 obtain⟨oc,od,kV,doc,pm,an,cdv,ct,osl,efd,lk,hcd⟩:=T.d23.F.ex;rw[efd]at lk;show tU P w K mg base CX0 1 _ T.d23.fd _ _;rw[efd];refine G2 lk hcd si gA (fun n=>rfl) (fun vs H Q E h=>?_) (fun A outer s H vs Q E hr h=>?_);·obtain⟨x,rfl,_⟩:=h;rfl
 obtain⟨x,rfl,hx,q⟩:=h;refine⟨_,Ge.nox (CG (i:=1) si.nd rfl (.inl rfl) (uC (uC (uC (PE.one (pv 0)) gA) gA) gA)
  (fU (gj (tj rfl (Gb (x:="word") rfl gA gA rfl rfl) (mq (jq eN PySem.F.slot_str_split PySem.F.type_str_split CF (pv 1) (fM fX fO))) (fun _ _ _ _ _=>(AR (jg oj (pv 0) fX))) (fun _ _ _ _ _=>(pv 0)))))),?_⟩;have h1:=l1 x;have h2:=l2 x;have h3:=l3 x;have z3:(" ( ":Str).length=3:=gA;have z3':(" ) ":Str).length=3:=gA;have z1:(" ":Str).length=1:=gA;refine⟨_,rfl,x,rfl,(by rw[z3];lia),r1 x,rfl,(by rw[z3'];lia),r2 x,rfl,(by rw[z1];lia),?_⟩;refine⟨_,rfl,rfl,r3 x," ",rfl,rfl,rfl,(by have e:sizeLine=16777216:=Lc;lia),fun p hp=>⟨p,rfl,⟨_,MD fS⟩,fun D hD=>?_⟩⟩;have sp:gE H (upd H p (.lst ((LM (r3 x) " ").map V.str))):=fW hp _;have hl:=rQ (r3 x) " ";refine GY (xs:=(LM (r3 x) " ").map V.str) ne0 id hD ?_ ?_ ?_ ?_ ?_ ?_ ?_ ?_;·rw[aD];have e:sizeLine=16777216:=Lc;lia
 ·rfl
 ·intro k H' hs hk;exact⟨_,_,MD (hs _ _ fS),bE hk⟩
 ·intro k H' v H'' hs hv;obtain⟨e,z⟩:=hv;exact⟨e,z _ (MD (hs _ _ fS))⟩
 ·intro H' hs;exact⟨_,MD (hs _ _ fS),cH _⟩
 ·intro k v H' R hv _ r;obtain⟨y,rfl⟩:∃y,v=V.str y:=by rw[aO]at hv;obtain⟨y,_,e⟩:=dy.mp hv;exact⟨y,e.symm⟩
  exact⟨_,rfl,rfl,_,rfl,r⟩
 ·intro k v H' R hv _ _ r;exact⟨_,rfl,r⟩
 ·intro H' hs hl';refine q D H' (sp.trans hs) (sp.free hD) ?_;rw[hl',xI]
def qu:Sp:=fun vs H Q _=>X2 fun(x y:Str)=>Y3 (vs=[.str x,.str y]) (x.length<=30000) (∀H',gE H H'->Q (.bl (allIn x y)) H')
def zT (T:Txt K mg):FO P w base 1 T.d26 qu:=by
 refine T.d26.F.rd zQ fun _ A _ s H vs Q E hr h=>?_;obtain⟨x,y,rfl,hx,q⟩:=h;refine⟨_,(fU (gj (gC (yz rfl) rfl T.z_all DC (fM (tj rfl (blk1 (x:="sign") (y:="signs") (j:=1) (c0:=s.heap.objs.size+ 1) rfl gA gA rfl rfl rfl rfl rfl rfl rfl) (GX (pv 0)) (fun _ _ _ _ _=>mC) (fun _ _ _ _ _=>(jO vH (pv 0) (pv 1) rfl))) fO)))),?_⟩;refine⟨_,rfl,x,rfl,fun D hD=>?_⟩;have sl:=Lc;have ll:=T1.len_codes x;have sz':x.cps.size=x.cps.toList.length:=(fc).symm;refine GY (xs:=x.cps.toList.map fun c=>V.str ⟨#[c]⟩) (fun _=>true) (fun v=>match v with| .str z=> .bl (!(My y z 0 y.length 1).isEmpty)|_=> .non) hD ?_ ?_ ?_ ?_ ?_ ?_ ?_ ?_;·rw[aD];lia
 ·rfl
 ·intro k H' hs hk;rw[aD]at hk;show k<x.cps.size;lia
 ·intro k H' v H'' hs hv;obtain⟨e,c,hc,rfl⟩:=hv;refine⟨e,?_⟩;rw[aO,fe,hc];rfl
 ·intro H' hs;show _=x.cps.size;rw[aD];lia
 ·intro k v H' R hv _ r;exact r
 ·intro k v H' R hv _ _ r;rw[aO]at hv;obtain⟨c,_,rfl⟩:=dy.mp hv;exact⟨_,rfl,_,rfl,_,_,rfl,rfl,r⟩
 ·intro H' hs hl;refine⟨D,x.cps.toList.map fun c=>decide (c∈y.cps.toList),rfl,MD ?_,?_⟩;·rw[hl,List.filter_eq_self.mpr (fun _ _=>rfl),bF,bF];refine congrArg (fun l=>some (HO.lst l)) (bX fun c _=>?_);show V.bl _=V.bl _;rw[StrLaws.found_one]
  ·have e:(x.cps.toList.map fun c=>decide (c∈y.cps.toList)).all id=allIn x y:=by rw[bB];rfl
   rw[e];exact q H' hs
def nN:Sp:=fun vs H Q _=>∃x:Str,Y3 (vs=[.str x]) (x.length<=30000) (∀H',gE H H'->Q (.bl (isName x)) H')
def zU (T:Txt K mg) (gD26:FO P w base 1 T.d26 qu):FO P w base 2 T.d24 nN:=by
 refine T.d24.F.rd zP fun _ A _ s H vs Q E hr h=>?_;obtain⟨x,rfl,hx,q⟩:=h;refine⟨_,(fN (gJ (PW.pt (mj (kj (pj sZ sZ fQ (gC qF rfl T.z_len iJ (fM (pv 0) fO)) (uA rfl T.o6))) (kW (jg vU (pv 0) (AQ rfl T.o4) rfl))))
   (fU (gj mh))
   gi)
  (fU (gj (qD (jO vH (gf AI (pv 0) fQ) (CC rfl T.o2) rfl) (nS (pF T.d26 gD26 hr.m (fM (pv 0) (fM (gB tP (CC rfl T.o2) (CC rfl T.o3)) fO)))))))),?_⟩;have sl:=Lc;refine⟨_,rfl,x,rfl,by lia,_,_,rfl,rfl,_,rfl,?_⟩;refine Jq (fun c1=>?_) (fun c1=>?_)
 ·have h1:1<=x.length:=by have z:=of_decide_eq_true c1;lia
  refine⟨_,_,rfl,rfl,_,rfl,?_⟩;by_cases c2:x.length<=12
  ·rw[show decide ((x.length:Int)<=12)=true from gM (by lia)];refine gX ⟨_,rfl,T.t4,KWV,rfl,.inr (T.r4 H),rfl,rfl,_,rfl,?_⟩;show if inV (.str x) KWV=true then _ else _
   cases ek:inV (.str x) KWV with
   |true=>
    refine iC ?_;have e:isName x=false:=by unfold isName;rw[ek];simp
    rw[<-e];exact q H (gE.refl H)
   |false=>
    refine gX ?_;obtain⟨c,r,ec⟩:=first_of h1;refine⟨_,rfl,x,_,c,rfl,rfl,by lia,by rw[ec];exact at0,_,_,rfl,rfl,_,rfl,?_⟩;have ef:(!(My ("abcdefghijklmnopqrstuvwxyz":Str) ⟨#[c]⟩ 0 ("abcdefghijklmnopqrstuvwxyz":Str).length 1).isEmpty)=firstIn x SM:=by rw[StrLaws.found_one];unfold firstIn;rw[ec];rfl
    rw[ef]
    cases e1:firstIn x SM with
    |false=>
     refine gX ?_;have e:isName x=false:=by unfold isName;rw[e1];simp
     rw[<-e];exact q H (gE.refl H)
    |true=>
     refine iC ⟨_,rfl,_,_,rfl,rfl,?_,_,_,rfl,?_,fun H' hs=>?_⟩;·exact cE (show(26:Nat)+ 10<=100 by decide) (sz (cH _)|>cE (by decide))
     ·lia
     ·have e:isName x=allIn x (SM++FG):=by unfold isName;rw[e1,ek,gM h1,gM c2];rfl
      have q':=q H' hs;rw[e]at q';exact q'
  ·rw[show decide ((x.length:Int)<=12)=false from gQ (by lia)];refine iC ?_;have e:isName x=false:=by unfold isName;rw[gQ c2];simp
   show if true=true then _ else _;refine iC ?_;rw[<-e];exact q H (gE.refl H)
 ·have h1:¬1<=x.length:=by intro z;exact c1 (gM (by lia))
  refine⟨_,rfl,iC ?_⟩;show if true=true then _ else _;refine iC ?_;have e:isName x=false:=by unfold isName;rw[gQ h1];simp
  rw[<-e];exact q H (gE.refl H)
def nv:Sp:=fun vs H Q _=>∃x:Str,Y3 (vs=[.str x]) (x.length<=30000) (∀H',gE H H'->Q (.bl (mX x)) H')
def wo (T:Txt K mg) (gD26:FO P w base 1 T.d26 qu):FO P w base 2 T.d25 nv:=by
 refine T.d25.F.rd wk fun _ A _ s H vs Q E hr h=>?_;obtain⟨x,rfl,hx,q⟩:=h;refine⟨_,(fN (gJ (PW.pt (mj (kj (pj sZ sZ fQ (gC qF rfl T.z_len iJ (fM (pv 0) fO)) (uA rfl T.o5))) (kW (kj (iL (pF T.d26 gD26 hr.m (fM (pv 0) (fM (CC rfl T.o3) fO))))))))
   (fU (gj mh))
   gi)
  (fU (gj (Gv (jO oj (gf AI (pv 0) fQ) fX) (nS (jO uq (pv 0) fX)))))),?_⟩;have sl:=Lc;refine⟨_,rfl,x,rfl,by lia,_,_,rfl,rfl,_,rfl,?_⟩;refine Jq (fun c1=>?_) (fun c1=>?_)
 ·have h1:1<=x.length:=by have z:=of_decide_eq_true c1;lia
  refine⟨_,_,rfl,rfl,_,rfl,?_⟩;by_cases c2:x.length<=60
  ·rw[show decide ((x.length:Int)<=60)=true from gM (by lia)];refine gX ⟨_,rfl,x,_,rfl,hx,fun H' hs=>⟨_,rfl,?_⟩⟩;show if(!allIn x FG)=true then _ else _
   cases e1:allIn x FG with
   |false=>
    refine iC ?_;have e:mX x=false:=by unfold mX;rw[e1];simp
    rw[<-e];exact q H' hs
   |true=>
    refine gX ?_;obtain⟨c,r,ec⟩:=first_of h1;refine⟨_,rfl,x,_,c,rfl,rfl,by lia,by rw[ec];exact at0,rfl,_,rfl,?_⟩;have ef:rW x=(c==48):=by unfold rW;rw[ec]
    rw[EV,<-ef]
    cases e2:rW x with
    |false=>
     refine iC ?_;have e:mX x=true:=by unfold mX;rw[e1,e2,gM h1,gM c2];rfl
     rw[<-e];exact q H' hs
    |true=>
     refine gX ⟨_,rfl,rfl,?_⟩;have e:mX x=decide (V.str x=V.str "0"):=by
      unfold mX;rw[e1,e2,gM h1,gM c2];by_cases h0:x="0";·subst h0;rfl
      ·have h1:¬V.str x=V.str "0":=fun z=>h0 (by injection z);rw[gQ h0,gQ h1];rfl
     rw[<-e];exact q H' hs
  ·rw[show decide ((x.length:Int)<=60)=false from gQ (by lia)];refine iC ?_;have e:mX x=false:=by unfold mX;rw[gQ c2];simp
   show if true=true then _ else _;refine iC ?_;rw[<-e];exact q H (gE.refl H)
 ·have h1:¬1<=x.length:=by intro z;exact c1 (gM (by lia))
  refine⟨_,rfl,iC ?_⟩;show if true=true then _ else _;refine iC ?_;have e:mX x=false:=by unfold mX;rw[gQ h1];simp
  rw[<-e];exact q H (gE.refl H)
open TM.Internal (Tr Its pw pd ptr isL okP itr iw idt szs rws sD kD)
inductive Rp (K:Zp) (C:Zx) (as:List V) (a b:Zd) (c d:List Dt) (A:Hp->V->Prop) (vs:List V) (H:Hp) (Q:VK):Prop
 |mk (p dx wl rl:Zx) (ws:Zd) (e:vs= .ref p::as) (R:RS K C H p dx wl rl ws a c) (W:WOk ws) (q:∀v H',RS K C H' p dx wl rl ws b d->K2 p rl H H'->A H' v->Q v H')
def Rp.len {C:Zx} {as:List V} {a b:Zd} {c d:List Dt} {A:Hp->V->Prop} {vs:List V} {H:Hp} {Q:VK} (h:Rp K C as a b c d A vs H Q):vs.length=as.length+ 1:=by obtain⟨_,_,_,_,_,rfl,_⟩:=h;rfl
def lM (C:Zx):Sp:=fun vs H Q _=>X4 fun(p dx wl:Zx) (ws:Zd)=>Y4 (vs=[.ref p,.ref wl]) (H p=some (.ins C dx [])) (H wl=some (.lst (ws.map V.str))) (∀(rl:Zx) (H':Hp),H rl=none->rh C H' p dx wl rl ws 0 []->(∀b o,H b=some o->b≠p->H' b=some o)->Q .non H')
def pK (T:Txt K mg):MO P w base mg 1 T.e69 (lM T.c8.a):=by
 refine T.e69.F.rd pJ fun _ A _ s H vs Q E hr h=>?_;obtain⟨p,dx,wl,ws,rfl,hp,hw,k⟩:=h;refine⟨_,(fN (i8 (pv 0) (pv 1) rfl)
  (fN (i8 (pv 0) fQ rfl)
  (fU (i8 (pv 0) (gq fO) rfl)))),?_⟩;have pw:wl≠p:=kU hw hp (fun z=>nomatch z);refine⟨_,rfl,_,rfl,p,T.c8.a,dx,[],rfl,hp,T.c8.cl,T.n8words,(by show 0<1000;decide),?_⟩;refine⟨_,rfl,p,T.c8.a,dx,_,rfl,fS,T.c8.cl,T.n8taken,(by show 1<1000;decide),?_⟩;refine⟨qC,fun rl hrl=>?_⟩;have nrl:p≠rl:=fZ fS hrl;rw[f9 (Lq nrl),f9 (Lq nrl)]at hrl;refine⟨_,rfl,p,T.c8.a,dx,_,rfl,by rw[f9 nrl];exact fS,T.c8.cl,T.n8rows,(by show 2<1000;decide),?_⟩;have wrl:wl≠rl:=fZ hw hrl;refine k rl _ hrl ⟨?_,?_,?_,wrl⟩ fun b o e hb=>?_;·rw[fS];exact congrArg (fun l=>some (HO.ins T.c8.a dx l)) (JF wl 0 rl)
 ·rw[f9 pw,f9 wrl,f9 pw,f9 pw];exact hw
 ·rw[f9 (Lq nrl)];exact fS
 ·rw[f9 hb,f9 (fZ e hrl),f9 hb,f9 hb];exact e
def iH (K:Zp) (C:Zx):Sp:=fun vs H Q _=>X2 fun r rows=>Rp K C [] r r rows rows (fun _ v=>v= .str (r.headD "")) vs H Q
def su (T:Txt K mg):MO P w base mg 1 T.e70 (iH K T.c8.a):=by
 refine T.e70.F.ok sq (fun vs H Q E ⟨_,_,h⟩=>h.len) (fun _ A _ s H vs Q E hr h=>?_);obtain⟨r,rows,p,dx,wl,rl,ws,rfl,RR,W,q⟩:=h;refine⟨_,(fN (gJ (jg uq (pk (pv 0) rfl) (gC gx rfl T.z_len iJ (fM (pk (pv 0) rfl) fO)))
   (fU (gj fX))
   gi)
  (fU (gj (gf AH (pk (pv 0) rfl) (pk (pv 0) rfl))))),?_⟩;have q:=q _ H RR (K2.refl _ _ _) rfl;obtain⟨k,rv,R,h1,hk,h3⟩:=RR;rw[<-h1,List.headD_eq_head?_getD,List.head?_drop]at q;refine⟨_,rfl,p,_,dx,_,_,rfl,R.ob,T.c8.cl,T.n8taken,uJ _ _ _,_,rfl,p,_,dx,_,_,rfl,R.ob,T.c8.cl,T.n8words,yK _ _ _,wl,_,rfl,.inl (MD R.wd),rfl,_,rfl,Jq (fun c=>?_) (fun c=>?_)⟩;·have z:=of_decide_eq_true c;injection z with z;rw[aD]at z;rw[bJ (by lia)]at q;exact q
 ·have hlt:k<ws.length:=by
   by_cases z:k<ws.length;·exact z
   ·refine absurd (gM ?_) c;rw[aD];exact congrArg V.int (by lia)
  rw[bE hlt]at q;refine⟨_,rfl,p,_,dx,_,_,rfl,R.ob,T.c8.cl,T.n8words,yK _ _ _,_,rfl,p,_,dx,_,_,rfl,R.ob,T.c8.cl,T.n8taken,uJ _ _ _,wl,_,_,_,rfl,rfl,MD R.wd,fV (j:=k) (v:= .str ws[k]) ?_,q⟩;rw[aO,bE hlt];rfl
def jF (K:Zp) (C:Zx):Sp:=fun vs H Q _=>X3 fun x r rows=>Rp K C [] (x::r) r rows rows (fun _ v=>v= .str x) vs H Q
def tF (T:Txt K mg) (gE70:MO P w base mg 1 T.e70 (iH K T.c8.a)):MO P w base mg 2 T.e71 (jF K T.c8.a):=by
 refine T.e71.F.ok nX (fun vs H Q E ⟨_,_,_,h⟩=>h.len) (fun _ A _ s H vs Q E hr h=>?_);obtain⟨x,r,rows,p,dx,wl,rl,ws,rfl,RR,W,q⟩:=h;refine⟨_,(fN (pS (i:=1) nX.nd (jm (pv 0) T.c8.cl T.e70.me gE70 hr.m T.e70.b .nil gY))
  (fN (gJ (jg uq (pv 1) fX)
   (fU ky)
   gi)
  (fN (vJ (pv 0) fQ Dy)
  (fU (gj (pv 1)))))),?_⟩;obtain⟨k0,h0⟩:=RR.ob;refine⟨_,rfl,p,dx,_,rfl,h0,ir _ _ _ _ (.inl rfl),?_⟩;refine tn0 ⟨_,_,p,dx,wl,rl,ws,rfl,RR,W,?_⟩;rintro _ H1 R1 k1 rfl;have hx:=(W.one x (RR.mem x (ai ..))).1;obtain⟨k,rv,R,h1,h2,h3⟩:=R1;refine⟨_,rfl,rfl,_,rfl,?_⟩;rw[gQ (fun z:V.str ((x::r).headD "")=V.str ""=>hx (by injection z))];refine gX ⟨_,rfl,p,_,dx,_,_,rfl,R.ob,T.c8.cl,T.n8taken,uJ _ _ _,_,_,rfl,rfl,dx,_,R.ob,(by show 3<1000;decide),_,rfl,?_⟩;obtain⟨e1,e2,e3⟩:=Bj h1;have kk:K2 p rl H1 (upd H1 p (.ins T.c8.a dx (fR wl ((k+ 1:Nat):Int) rl))):=K2.upd1 (K2.refl p rl H1) _;have q:=q (.str x) _ ⟨k+ 1,rv,R.next (k+ 1),e2,by lia,h3.mono fun a xs t=>rh.tpT R kk t⟩ (k1.trans kk) rfl;rw[<-Ht wl (k:Int) _ rl]at q;exact q
def iY (K:Zp) (C:Zx):Sp:=fun vs H Q _=>X3 fun y r rows=>Rp K C [.str y] (y::r) r rows rows (fun _ v=>v= .non) vs H Q
def oR (T:Txt K mg) (gE71:MO P w base mg 2 T.e71 (jF K T.c8.a)):MO P w base mg 3 T.e72 (iY K T.c8.a):=by
 refine T.e72.F.ok lu (fun vs H Q E ⟨_,_,_,h⟩=>h.len) (fun _ A _ s H vs Q E hr h=>?_);obtain⟨x,r,rows,p,dx,wl,rl,ws,rfl,R,W,q⟩:=h;refine⟨_,(fN (pS (i:=2) lu.nd (jm (pv 0) T.c8.cl T.e71.me gE71 hr.m T.e71.b .nil gY))
  (fU (gJ (jg oj (pv 2) (pv 1))
   (fU ky)
   gi))),?_⟩;obtain⟨k0,h0⟩:=R.ob;refine⟨_,rfl,p,dx,_,rfl,h0,ir _ _ _ _ (by simp),?_⟩;refine tn0 ⟨_,_,_,p,dx,wl,rl,ws,rfl,R,W,?_⟩;rintro _ H1 R1 k1 rfl;exact⟨_,rfl,_,rfl,rfl,_,rfl,Jr rfl (q _ _ R1 k1 rfl)⟩
def iZ (K:Zp) (C:Zx):Sp:=fun vs H Q _=>X3 fun x r rows=>isName x=true/\Rp K C [] (x::r) r rows rows (fun _ v=>v= .str x) vs H Q
def oS (T:Txt K mg) (gE71:MO P w base mg 2 T.e71 (jF K T.c8.a)) (gD24:FO P w base 2 T.d24 nN):
  MO P w base mg 3 T.e73 (iZ K T.c8.a):=by
 refine T.e73.F.ok lA (fun vs H Q E ⟨_,_,_,_,h⟩=>h.len) (fun _ A _ s H vs Q E hr h=>?_);obtain⟨x,r,rows,hn,p,dx,wl,rl,ws,rfl,R,W,q⟩:=h;refine⟨_,(fN (pS (i:=1) lA.nd (jm (pv 0) T.c8.cl T.e71.me gE71 hr.m T.e71.b .nil gY))
  (fN (gJ (kj (iL (pF T.d24 gD24 hr.m (fM (pv 1) fO))))
   (fU ky)
   gi)
  (fU (gj (pv 1))))),?_⟩;obtain⟨k0,h0⟩:=R.ob;refine⟨_,rfl,p,dx,_,rfl,h0,ir _ _ _ _ (by simp),?_⟩;refine tn0 ⟨_,_,_,p,dx,wl,rl,ws,rfl,R,W,?_⟩;rintro _ H1 R1 k1 rfl;refine⟨_,rfl,x,rfl,(W.one x (R.mem x (ai ..))).2.1,fun H' hs=>⟨_,rfl,?_⟩⟩;rw[hn];exact gX ⟨_,rfl,q _ _ (R1.same hs) (k1.trans (gE.k2 hs)) rfl⟩
def ja:Sp:=fun vs H Q E=>X4 fun(x:Str) (n a b:Nat)=>Y4 (vs=[.str x,.int n,.int a,.int b]) (a<=n) (n<=b) (Q .non H)
def tG (T:Txt K mg):FO P w base 1 T.d28 ja:=by
 refine T.d28.F.rd tD fun _ A _ s H vs Q E hr h=>?_;obtain⟨x,n,a,b,rfl,h1,h2,q⟩:=h;refine⟨_,(fU (gJ (kj (pj sZ sZ (pv 2) (pv 1) (pv 3)))
   (fU ky)
   gi)),?_⟩;refine⟨_,rfl,_,rfl,_,_,rfl,rfl,_,rfl,?_⟩;rw[show decide ((a:Int)<=(n:Int))=true from gM (by lia)];refine iC ⟨_,rfl,_,_,rfl,rfl,_,rfl,?_⟩;rw[show decide ((n:Int)<=(b:Int))=true from gM (by lia)];exact gX q
open TM.Internal (Tr Its pw pd ptr isL okP itr iw idt szs rws sD kD)
def Gh (K:Zp) (C:Zx) (f:Nat):Sp:=fun vs H Q _=>X3 fun(t:Tr) (r:Zd) (rows:List Dt)=>Y4 (t.ok) (t.nest<=f) (rows.length+t.sz<=160) (Rp K C [.int (25-(f:Int))] (t.tk++r) r rows (rows++t.rw rows.length) (fun _ v=>v= .int (rows.length:Int)) vs H Q)
def pV (b:Bool):V:=if b then .str "name" else .str "expr"
def isT (K:Zp) (ds:List Dt) (H:Hp) (v:V):Prop:=∃t,v= .ref t/\TAt K H v (.tup ds)
def IP (K:Zp) (C:Zx) (f:Nat):Sp:=fun vs H Q _=>X4 fun(ps:List (Str ⊕ Tr)) (pt:Zx) (r:Zd) (rows:List Dt)=>Y5 ((∀x∈ps,okP f x)) (rows.length+szs (ptr ps)<=160) (SqT K H pt ((ps.map isL).map pV)) (ps.length<=3) (Rp K C [.ref pt,.int (25-(f:Int))] (pw ps++r) r rows (rows++rws (ptr ps) rows.length) (isT K (pd ps rows.length)) vs H Q)
def IQ (K:Zp) (C:Zx) (f:Nat) (bs:List Bool) (lo hi:Nat):Sp:=fun vs H Q _=>X3 fun(l:Its) (r:Zd) (rows:List Dt)=>Y5 ((∀i∈l,isName i.1=true/\i.2.map isL=bs/\∀x∈i.2,okP f x)) (lo<=l.length) (l.length<=hi) (rows.length+szs (itr l)<=160) (Rp K C [.int (25-(f:Int))] (iw l++(")":Str)::r) ((")":Str)::r) rows (rows++rws (itr l) rows.length) (isT K (idt l rows.length)) vs H Q)
theorem rw_len {t:Tr} {rows:List Dt}:(rows++t.rw rows.length).length=rows.length+t.sz:=by rw[aQ,TM.Internal.Tr.rw_len]
theorem rws_len {ts:List Tr} {rows:List Dt}:(rows++rws ts rows.length).length=rows.length+szs ts:=by rw[aQ,TM.Internal.rws_len]
def Bn {H:Hp} {a b:Zx} {xs:List V} {o:HO} (ha:H a=none) (t:SqT K H b xs):SqT K (upd H a o) b xs:=by
 rcases t with(t|⟨o',t⟩)|t;·exact .inl (.inl (by rw[f9 (fZ t ha)];exact t))
 ·exact .inl (.inr ⟨o',by rw[f9 (fZ t ha)];exact t⟩)
 ·exact .inr t
def Bo (T:Txt K mg) (f:Nat)
  (gE73:MO P w base mg 3 T.e73 (iZ K T.c8.a))
  (gE74:MO P w base mg (5*f+ 5) T.e74 (Gh K T.c8.a f)):
  MO P w base mg (5*f+ 6) T.e77 (IP K T.c8.a f):=by
 refine T.e77.F.ok jk (fun vs H Q E ⟨_,_,_,_,_,_,_,_,h⟩=>h.len) (fun _ A _ s H vs Q E hr h=>?_);obtain⟨ps,pt,r,rows,hok,h160,hpt,hps,p,dx,wl,rl,ws,rfl,R,W,q⟩:=h;refine⟨_,(fN (pS (i:=3) jk.nd (gq fO))
  (fN (kl Lh rfl (rB (pv 1)) (pN (i:=4) jk.nd)
   (fU (gJ (jg uq (pv 4) fX)
    (fU (gv (jq eO eP eQ gK (pv 3) (fM (jm (pv 0) T.c8.cl T.e73.me gE73 (hr.mono (by lia)) T.e73.b .nil gY) fO))))
    (fU (gv (jq eO eP eQ gK (pv 3) (fM (gH (pv 0) T.c8.cl T.e74.me gE74 (hr.mono (by lia)) T.e74.b .nil gY (fM (pv 2) fO)) fO)))))))
  (fU (gj (iG jo rfl T.z_tuple kQ (fM (pv 3) fO)))))),?_⟩;have sl:=Lc;refine⟨qC,fun fl hfl=>?_⟩;obtain⟨fp,frl,fwl⟩:=R.apart hfl;refine⟨_,rfl,pt,rfl,⟨_,Bn hfl hpt⟩,xo (K:=K) (a:=pt) (xs:=(ps.map isL).map pV) (fun i σ H2=>X4 fun(o:Option V) (acc:List Dt) (fv:List V) (rows2:List Dt)=>
   Y10 (σ=[some (.ref p),some (.ref pt),some (.int (25-(f:Int))),some (.ref fl),o]) (SqT K H2 pt ((ps.map isL).map pV)) (RS K T.c8.a H2 p dx wl rl ws (pw (ps.drop i)++r) rows2) (K2 p rl H H2) (H2 fl=some (.lst fv)) (mf K H2 fv acc) (acc.length=i) (rows2.length+szs (ptr (ps.drop i))<=160) (
   rows2++rws (ptr (ps.drop i)) rows2.length=rows++rws (ptr ps) rows.length) (acc++pd (ps.drop i) rows2.length=pd ps rows.length))
  ⟨none,[],[],rows,rfl,Bn hfl hpt,R.same (fW hfl (.lst [])),gE.k2 (fW hfl _),fS,.nil,rfl,h160,rfl,rfl⟩ (fun i σ H2 _ ⟨_,_,_,_,_,z,_,_,_,_,_,_,_,_⟩=>z) ?_ ?_⟩
 ·rintro i y σ H2 hi ⟨o,acc,fv,rows2,rfl,hpt2,R2,k2,hfl2,tf,hacc,hr2,e1,e2⟩;rw[aO,aO]at hi;obtain⟨b,hb,rfl⟩:=dy.mp hi;obtain⟨c,hc,rfl⟩:=dy.mp hb;have hlt:i<ps.length:=(au.mp hc).1;have ed:ps.drop i=c::ps.drop (i+ 1):=by rw[bR hlt,(au.mp hc).2]
  rw[ed]at R2 hr2 e1 e2;have lf:fv.length<sizeLine:=by rw[tf.length];lia
  obtain⟨k',hk⟩:=R2.ob;have ok:=hok c (aP hc)
  cases c with
  |inl x=>refine⟨_,rfl,rfl,_,rfl,iC ⟨_,rfl,.inl ⟨rfl,_,MD hfl2⟩,_,rfl,p,dx,_,rfl,hk,ir _ _ _ _ (by simp),?_⟩⟩;refine tn0 ⟨x,_,rows2,ok,p,dx,wl,rl,ws,rfl,R2,W,?_⟩;rintro _ H3 R3 k3 rfl;have h3:H3 fl=some (.lst fv):=k3 _ _ hfl2 fp frl;rw[pd]at e2;exact⟨fl,fv,_,rfl,rfl,h3,lf,_,acc++[sD x],_,rows2,rfl,wb h3 (R2.sqt k3 hpt2),R3.other h3 fp fwl frl,wc hfl (k2.trans k3),fS,((R2.tats k3 tf).snoc (.flat rfl)).other h3,(by rw[aQ,hacc];rfl),hr2,e1,(by rw[bT];exact e2)⟩
  |inr t=>rw[ptr,szs]at hr2;rw[ptr,rws,<-bT,<-rw_len]at e1;rw[pd,<-rw_len]at e2;rw[pw,bT]at R2;refine⟨_,rfl,rfl,_,rfl,gX ⟨_,rfl,.inl ⟨rfl,_,MD hfl2⟩,_,rfl,p,dx,_,rfl,hk,ir _ _ _ _ (by simp),_,rfl,t,_,rows2,ok.1,ok.2,by lia,p,dx,wl,rl,ws,rfl,R2,W,?_⟩⟩;rintro _ H3 R3 k3 rfl;have h3:H3 fl=some (.lst fv):=k3 _ _ hfl2 fp frl;exact⟨fl,fv,_,rfl,rfl,h3,lf,_,acc++[kD rows2.length],_,_,rfl,wb h3 (R2.sqt k3 hpt2),R3.other h3 fp fwl frl,wc hfl (k2.trans k3),fS,((R2.tats k3 tf).snoc (.flat rfl)).other h3,(by rw[aQ,hacc];rfl),(by rw[rw_len];lia),e1,(by rw[bT];exact e2)⟩
 ·rintro σ H2 ⟨o,acc,fv,rows2,rfl,hpt2,R2,k2,hfl2,tf,hacc,hr2,e1,e2⟩;rw[aD,aD,bY]at R2 e1 e2;refine⟨_,rfl,fl,fv,rfl,.inl ⟨MD hfl2,fun t ht=>?_⟩⟩;have s:=fW ht (.tup fv);rw[show rows2=rows2++rws (ptr []) rows2.length by rw[ptr,rws,aE],e1]at R2;exact q _ _ (R2.same s) (k2.trans (gE.k2 s)) ⟨t,rfl,.tup fS (by rw[<-e2,pd,aE];exact R2.tats (gE.k2 s) tf)⟩
open TM.Internal (Tr Its pw pd ptr isL okP itr iw idt szs rws sD kD oq uN oks jM jb tks)
def Bp (T:Txt K mg) (f:Nat)
  (gE70:MO P w base mg 1 T.e70 (iH K T.c8.a))
  (gE77:MO P w base mg (5*f+ 6) T.e77 (IP K T.c8.a f))
  (gD28:FO P w base 1 T.d28 ja):
  MO P w base mg (5*f+ 7) T.e78 (IQ K T.c8.a f [false] 0 6):=by
 refine T.e78.F.ok kG (fun vs H Q E ⟨_,_,_,_,_,_,_,h⟩=>h.len) (fun _ A _ s H vs Q E hr h=>?_);obtain⟨l,r,rows,hok,hlo,hhi,h160,p,dx,wl,rl,ws,rfl,R,W,q⟩:=h;refine⟨_,(fN (pS (i:=2) kG.nd (gq fO))
  (fN (nK Lh (jg oj (jm (pv 0) T.c8.cl T.e70.me gE70 (hr.mono (by lia)) T.e70.b .nil gY) fX)
   (fU (gv (jq eO eP eQ gK (pv 2) (fM (gH (pv 0) T.c8.cl T.e77.me gE77 (hr.mono (by lia)) T.e77.b .nil gY (fM (ie (fM fX (fM fX fO))) (fM (pv 1) fO))) fO)))))
  (fN (gv (pF T.d28 gD28 (hr.mono (by lia)) (fM fX (fM (gC gx rfl T.z_len iJ (fM (pv 2) fO)) (fM fQ (fM (uA rfl T.o8) fO))))))
  (fU (gj (iG jo rfl T.z_tuple kQ (fM (pv 2) fO))))))),?_⟩;have sl:=Lc;refine⟨qC,fun fl hfl=>?_⟩;obtain⟨fp,frl,fwl⟩:=R.apart hfl;refine⟨fun m σ H2=>X4 fun(l2:Its) (acc:List Dt) (fv:List V) (rows2:List Dt)=>Y11 (m=l2.length) ((∀i∈l2,i∈l)) (σ=[some (.ref p),some (.int (25-(f:Int))),some (.ref fl)]) (RS K T.c8.a H2 p dx wl rl ws (iw l2++(")":Str)::r) rows2) (K2 p rl H H2) (H2 fl=some (.lst fv)) (mf K H2 fv acc) (acc.length+l2.length=l.length) (rows2.length+szs (itr l2)<=160) (
   rows2++rws (itr l2) rows2.length=rows++rws (itr l) rows.length) (acc++idt l2 rows2.length=idt l rows.length),
  ⟨_,l,[],[],rows,rfl,fun _ h=>h,rfl,R.same (fW hfl (.lst [])),gE.k2 (fW hfl _),fS,.nil,(by show 0+_=_;lia),h160,rfl,rfl⟩,?_⟩;rintro m σ H2 ⟨l2,acc,fv,rows2,rfl,hin,rfl,R2,k2,hfl2,tf,hlen,hr2,e1,e2⟩;have tl:=tf.length;obtain⟨k',hk⟩:=R2.ob;refine⟨_,rfl,p,dx,_,rfl,hk,ir _ _ _ _ (.inl rfl),?_⟩;refine tn0 ⟨_,_,p,dx,wl,rl,ws,rfl,R2,W,?_⟩;rintro _ H3 R3 k3 rfl;have k3':=k2.trans k3;have h3:H3 fl=some (.lst fv):=k3 _ _ hfl2 fp frl;have tf3:=R2.tats k3 tf;refine⟨rfl,_,rfl,?_⟩
 cases l2 with
 |nil=>refine gX ⟨_,rfl,fl,fv,rfl,.inl (MD h3),_,fv.length,0,6,rfl,by simp only[aU]at hlen;lia,by simp only[aU]at hlen;lia,?_⟩;refine⟨_,rfl,fl,fv,rfl,.inl ⟨MD h3,fun t ht=>?_⟩⟩;have s:=fW ht (.tup fv);rw[show rows2=rows2++rws (itr []) rows2.length by rw[itr,rws,aE],e1]at R3;exact q _ _ (R3.same s) (k3'.trans (gE.k2 s)) ⟨t,rfl,.tup fS (by rw[<-e2,idt,aE];exact R3.tats (gE.k2 s) tf3)⟩
 |cons i l2=>obtain⟨hn,hb,ho⟩:=hok i (hin i ai);rw[gQ (fun z:V.str ((iw (i::l2)++(")":Str)::r).headD "")=V.str ")"=>M8 hn (by injection z))];obtain⟨k',hk⟩:=R3.ob;refine iC ⟨_,fun σ' H' z=>z,?_⟩;refine⟨_,rfl,.inl ⟨rfl,_,MD h3⟩,_,rfl,p,dx,_,rfl,hk,ir _ _ _ _ (by simp),lZ,fun pt hpt=>?_⟩;have s4:=fW hpt (.tup [.str "name",.str "expr"]);rw[itr,oq]at hr2;rw[itr,uN,<-bT,<-rws_len]at e1;rw[idt,<-rws_len]at e2;have R4:=R3.same s4;rw[iw,show i.1::(pw i.2++iw l2)++(")":Str)::r=pw (.inl i.1::i.2)++(iw l2++(")":Str)::r) by rw[pw,aT,aT,bT]]at R4;refine⟨_,rfl,.inl i.1::i.2,pt,_,rows2,(fun x hx=>(ak.mp hx).elim (fun e=>e▸hn) (ho x)),(by show _+szs (ptr i.2)<=_;lia),(by rw[aC,hb];exact .inl (.inl fS)),(by have:=congrArg aJ hb;rw[aD]at this;rw[aA,this];decide),p,dx,wl,rl,ws,rfl,R4,W,?_⟩;rintro _ H5 R5 k5 ⟨t,rfl,ht⟩;have h5:H5 fl=some (.lst fv):=k5 _ _ (s4 _ _ h3) fp frl;refine⟨fl,fv,_,rfl,rfl,h5,by simp only[aA]at hlen;lia,l2.length,cM _,l2,acc++[.tup (sD i.1::pd i.2 rows2.length)],_,_,rfl,(fun j hj=>hin j (aj _ hj)),rfl,R5.other h5 fp fwl frl,wc hfl (k3'.trans ((gE.k2 s4).trans k5)),fS,((R3.tats ((gE.k2 s4).trans k5) tf3).snoc ht).other h5,(by rw[aQ];simp only[aA]at hlen;show acc.length+ 1+_=_;lia),(by show _+_<=_;rw[show ptr (.inl i.1::i.2)=ptr i.2 from rfl,rws_len];lia),e1,(by rw[bT];exact e2)⟩
def EY (T:Txt K mg) (f:Nat)
  (gE70:MO P w base mg 1 T.e70 (iH K T.c8.a))
  (gE77:MO P w base mg (5*f+ 6) T.e77 (IP K T.c8.a f))
  (gD28:FO P w base 1 T.d28 ja):
  MO P w base mg (5*f+ 7) T.e79 (IQ K T.c8.a f [true,false] 1 6):=by
 refine T.e79.F.ok lC (fun vs H Q E ⟨_,_,_,_,_,_,_,h⟩=>h.len) (fun _ A _ s H vs Q E hr h=>?_);obtain⟨l,r,rows,hok,hlo,hhi,h160,p,dx,wl,rl,ws,rfl,R,W,q⟩:=h;refine⟨_,(fN (pS (i:=2) lC.nd (gq fO))
  (fN (nK Lh (jg oj (jm (pv 0) T.c8.cl T.e70.me gE70 (hr.mono (by lia)) T.e70.b .nil gY) fX)
   (fU (gv (jq eO eP eQ gK (pv 2) (fM (gH (pv 0) T.c8.cl T.e77.me gE77 (hr.mono (by lia)) T.e77.b .nil gY (fM (ie (fM fX (fM fX (fM fX fO)))) (fM (pv 1) fO))) fO)))))
  (fN (gv (pF T.d28 gD28 (hr.mono (by lia)) (fM fX (fM (gC gx rfl T.z_len iJ (fM (pv 2) fO)) (fM fQ (fM (uA rfl T.o9) fO))))))
  (fU (gj (iG jo rfl T.z_tuple kQ (fM (pv 2) fO))))))),?_⟩;have sl:=Lc;refine⟨qC,fun fl hfl=>?_⟩;obtain⟨fp,frl,fwl⟩:=R.apart hfl;refine⟨fun m σ H2=>X4 fun(l2:Its) (acc:List Dt) (fv:List V) (rows2:List Dt)=>Y11 (m=l2.length) ((∀i∈l2,i∈l)) (σ=[some (.ref p),some (.int (25-(f:Int))),some (.ref fl)]) (RS K T.c8.a H2 p dx wl rl ws (iw l2++(")":Str)::r) rows2) (K2 p rl H H2) (H2 fl=some (.lst fv)) (mf K H2 fv acc) (acc.length+l2.length=l.length) (rows2.length+szs (itr l2)<=160) (
   rows2++rws (itr l2) rows2.length=rows++rws (itr l) rows.length) (acc++idt l2 rows2.length=idt l rows.length),
  ⟨_,l,[],[],rows,rfl,fun _ h=>h,rfl,R.same (fW hfl (.lst [])),gE.k2 (fW hfl _),fS,.nil,(by show 0+_=_;lia),h160,rfl,rfl⟩,?_⟩;rintro m σ H2 ⟨l2,acc,fv,rows2,rfl,hin,rfl,R2,k2,hfl2,tf,hlen,hr2,e1,e2⟩;have tl:=tf.length;obtain⟨k',hk⟩:=R2.ob;refine⟨_,rfl,p,dx,_,rfl,hk,ir _ _ _ _ (.inl rfl),?_⟩;refine tn0 ⟨_,_,p,dx,wl,rl,ws,rfl,R2,W,?_⟩;rintro _ H3 R3 k3 rfl;have k3':=k2.trans k3;have h3:H3 fl=some (.lst fv):=k3 _ _ hfl2 fp frl;have tf3:=R2.tats k3 tf;refine⟨rfl,_,rfl,?_⟩
 cases l2 with
 |nil=>refine gX ⟨_,rfl,fl,fv,rfl,.inl (MD h3),_,fv.length,1,6,rfl,by simp only[aU]at hlen;lia,by simp only[aU]at hlen;lia,?_⟩;refine⟨_,rfl,fl,fv,rfl,.inl ⟨MD h3,fun t ht=>?_⟩⟩;have s:=fW ht (.tup fv);rw[show rows2=rows2++rws (itr []) rows2.length by rw[itr,rws,aE],e1]at R3;exact q _ _ (R3.same s) (k3'.trans (gE.k2 s)) ⟨t,rfl,.tup fS (by rw[<-e2,idt,aE];exact R3.tats (gE.k2 s) tf3)⟩
 |cons i l2=>obtain⟨hn,hb,ho⟩:=hok i (hin i ai);rw[gQ (fun z:V.str ((iw (i::l2)++(")":Str)::r).headD "")=V.str ")"=>M8 hn (by injection z))];obtain⟨k',hk⟩:=R3.ob;refine iC ⟨_,fun σ' H' z=>z,?_⟩;refine⟨_,rfl,.inl ⟨rfl,_,MD h3⟩,_,rfl,p,dx,_,rfl,hk,ir _ _ _ _ (by simp),kP,fun pt hpt=>?_⟩;have s4:=fW hpt (.tup [.str "name",.str "name",.str "expr"]);rw[itr,oq]at hr2;rw[itr,uN,<-bT,<-rws_len]at e1;rw[idt,<-rws_len]at e2;have R4:=R3.same s4;rw[iw,show i.1::(pw i.2++iw l2)++(")":Str)::r=pw (.inl i.1::i.2)++(iw l2++(")":Str)::r) by rw[pw,aT,aT,bT]]at R4;refine⟨_,rfl,.inl i.1::i.2,pt,_,rows2,(fun x hx=>(ak.mp hx).elim (fun e=>e▸hn) (ho x)),(by show _+szs (ptr i.2)<=_;lia),(by rw[aC,hb];exact .inl (.inl fS)),(by have:=congrArg aJ hb;rw[aD]at this;rw[aA,this];decide),p,dx,wl,rl,ws,rfl,R4,W,?_⟩;rintro _ H5 R5 k5 ⟨t,rfl,ht⟩;have h5:H5 fl=some (.lst fv):=k5 _ _ (s4 _ _ h3) fp frl;refine⟨fl,fv,_,rfl,rfl,h5,by simp only[aA]at hlen;lia,l2.length,cM _,l2,acc++[.tup (sD i.1::pd i.2 rows2.length)],_,_,rfl,(fun j hj=>hin j (aj _ hj)),rfl,R5.other h5 fp fwl frl,wc hfl (k3'.trans ((gE.k2 s4).trans k5)),fS,((R3.tats ((gE.k2 s4).trans k5) tf3).snoc ht).other h5,(by rw[aQ];simp only[aA]at hlen;show acc.length+ 1+_=_;lia),(by show _+_<=_;rw[show ptr (.inl i.1::i.2)=ptr i.2 from rfl,rws_len];lia),e1,(by rw[bT];exact e2)⟩
def K0 (K:Zp) (C:Zx) (f:Nat):Sp:=fun vs H Q _=>X3 fun(ts:List Tr) (r:Zd) (rows:List Dt)=>Y5 (oks ts) (jM ts<=f) (ts.length<=8) (rows.length+szs ts<=160) (Rp K C [.int (25-(f:Int))] ((tks ts).flatten++(")":Str)::r) ((")":Str)::r) rows (rows++rws ts rows.length) (isT K ((jb ts rows.length).map kD)) vs H Q)
def Bq (T:Txt K mg) (f:Nat)
  (gE70:MO P w base mg 1 T.e70 (iH K T.c8.a))
  (gE74:MO P w base mg (5*f+ 5) T.e74 (Gh K T.c8.a f))
  (gD28:FO P w base 1 T.d28 ja):
  MO P w base mg (5*f+ 7) T.e80 (K0 K T.c8.a f):=by
 refine T.e80.F.ok kH (fun vs H Q E ⟨_,_,_,_,_,_,_,h⟩=>h.len) (fun _ A _ s H vs Q E hr h=>?_);obtain⟨l,r,rows,hok,hn,hhi,h160,p,dx,wl,rl,ws,rfl,R,W,q⟩:=h;refine⟨_,(fN (pS (i:=2) kH.nd (gq fO))
  (fN (nK Lh (jg oj (jm (pv 0) T.c8.cl T.e70.me gE70 (hr.mono (by lia)) T.e70.b .nil gY) fX)
   (fU (gv (jq eO eP eQ gK (pv 2) (fM (gH (pv 0) T.c8.cl T.e74.me gE74 (hr.mono (by lia)) T.e74.b .nil gY (fM (pv 1) fO)) fO)))))
  (fN (gv (pF T.d28 gD28 (hr.mono (by lia)) (fM fX (fM (gC gx rfl T.z_len iJ (fM (pv 2) fO)) (fM fQ (fM (uA rfl T.o10) fO))))))
  (fU (gj (iG jo rfl T.z_tuple kQ (fM (pv 2) fO))))))),?_⟩;have sl:=Lc;refine⟨qC,fun fl hfl=>?_⟩;obtain⟨fp,frl,fwl⟩:=R.apart hfl;refine⟨fun m σ H2=>X4 fun(l2:List Tr) (acc:List Dt) (fv:List V) (rows2:List Dt)=>Y12 (m=l2.length) (oks l2) (jM l2<=f) (σ=[some (.ref p),some (.int (25-(f:Int))),some (.ref fl)]) (RS K T.c8.a H2 p dx wl rl ws ((tks l2).flatten++(")":Str)::r) rows2) (K2 p rl H H2) (H2 fl=some (.lst fv)) (mf K H2 fv acc) (acc.length+l2.length=l.length) (rows2.length+szs l2<=160) (
   rows2++rws l2 rows2.length=rows++rws l rows.length) (acc++(jb l2 rows2.length).map kD=(jb l rows.length).map kD),
  ⟨_,l,[],[],rows,rfl,hok,hn,rfl,R.same (fW hfl (.lst [])),gE.k2 (fW hfl _),fS,.nil,(by show 0+_=_;lia),h160,rfl,rfl⟩,?_⟩;rintro m σ H2 ⟨l2,acc,fv,rows2,rfl,ho2,hn2,rfl,R2,k2,hfl2,tf,hlen,hr2,e1,e2⟩;have tl:=tf.length;obtain⟨k',hk⟩:=R2.ob;refine⟨_,rfl,p,dx,_,rfl,hk,ir _ _ _ _ (.inl rfl),?_⟩;refine tn0 ⟨_,_,p,dx,wl,rl,ws,rfl,R2,W,?_⟩;rintro _ H3 R3 k3 rfl;have k3':=k2.trans k3;have h3:H3 fl=some (.lst fv):=k3 _ _ hfl2 fp frl;have tf3:=R2.tats k3 tf;refine⟨rfl,_,rfl,?_⟩
 cases l2 with
 |nil=>refine gX ⟨_,rfl,fl,fv,rfl,.inl (MD h3),_,fv.length,0,8,rfl,by simp only[aU]at hlen;lia,by simp only[aU]at hlen;lia,?_⟩;refine⟨_,rfl,fl,fv,rfl,.inl ⟨MD h3,fun t ht=>?_⟩⟩;have s:=fW ht (.tup fv);rw[show rows2=rows2++rws [] rows2.length by rw[rws,aE],e1]at R3;exact q _ _ (R3.same s) (k3'.trans (gE.k2 s)) ⟨t,rfl,.tup fS (by rw[<-e2,jb,aV,aE];exact R3.tats (gE.k2 s) tf3)⟩
 |cons t l2=>
  rw[oks]at ho2;rw[jM]at hn2;rw[szs]at hr2;rw[rws,<-bT,<-rw_len]at e1;rw[jb,aC,<-rw_len]at e2;obtain⟨x,r0,ex,hx⟩:=TM.Internal.head_nc t ho2.1;have ew:(tks (t::l2)).flatten++(")":Str)::r=t.tk++((tks l2).flatten++(")":Str)::r):=by rw[tks,List.flatten_cons,bT]
  rw[ew]at R3⊢;rw[show(t.tk++((tks l2).flatten++(")":Str)::r)).headD ""=x by rw[ex];rfl,gQ (fun z:V.str x=V.str ")"=>hx (by injection z))];obtain⟨k',hk⟩:=R3.ob;refine iC ⟨_,fun σ' H' z=>z,?_⟩;refine⟨_,rfl,.inl ⟨rfl,_,MD h3⟩,_,rfl,p,dx,_,rfl,hk,ir _ _ _ _ (by simp),_,rfl,t,_,rows2,ho2.1,by lia,by lia,p,dx,wl,rl,ws,rfl,R3,W,?_⟩;rintro _ H5 R5 k5 rfl;have h5:H5 fl=some (.lst fv):=k5 _ _ h3 fp frl;exact⟨fl,fv,_,rfl,rfl,h5,by simp only[aA]at hlen;lia,l2.length,cM _,l2,acc++[kD rows2.length],_,_,rfl,ho2.2,by lia,rfl,R5.other h5 fp fwl frl,wc hfl (k3'.trans k5),fS,((R3.tats k5 tf3).snoc (.flat rfl)).other h5,(by rw[aQ];simp only[aA]at hlen;show acc.length+ 1+_=_;lia),(by rw[rw_len];lia),e1,(by rw[bT];exact e2)⟩
open TM.Internal (Tr Kn Its pw pd ptr isL okP itr iw idt szs rws sD kD tks jb oks jM)
structure Dk (P:Zu) (w:Zv) (K:Zp) (mg:Zc) where
 a:Zx
 m:mg "STEADY_FORMS"=some (.ref a)
 kvs:List (Key×V)
 kd:AX P w K a kvs
 yes:∀h ps,stP h=some ps->∃q,jH kvs (Le h)=some (.ref q)/\∀H:Hp,SqT K H q (ps.map pV)
def br:Kn->Bool
 | .num _=>false
 | .name _=>false
 |_=>true
inductive Std (f:Nat) (κ:Kn) (ks:List Tr):Prop
 |mk (ps:List (Str ⊕ Tr)) (h1:κ.s≠"rec") (h2:κ.s≠"case") (h3:κ.s≠"row") (st:stP κ.s=some (ps.map isL)) (w:pw ps=κ.ws (tks ks)) (t:ptr ps=ks) (d:∀p,κ.rw (jb ks p)=sD κ.s::pd ps p) (ok:∀x∈ps,okP f x) (ne:ps≠[]) (l:ps.length<=3)
def Hu {f:Nat} {κ:Kn} {ks:List Tr} (hb:br κ=true) (h1:κ.ok) (h2:ks.length=κ.ar) (h3:oks ks) (h4:jM ks<=f):(∃l,κ= .rcd l)\/(∃l,κ= .case l)\/(∃m,κ= .row m)\/Std f κ ks:=by
 have okk:=TM.Internal.okP_inr h3 h4;have nam:∀(s w:Str) (m:Nat),κ.s=s->ks.length=m->isName w=true->(s≠"rec"/\s≠"case"/\s≠"row"/\stP s=some (true::aH m false))->m<=2->κ.ws (tks ks)=w::(tks ks).flatten->(∀p,κ.rw (jb ks p)=sD s::sD w::(jb ks p).map kD)->Std f κ ks:=fun s w m es l hw d hm ew ed=>by
  subst es l;refine⟨.inl w::ks.map .inr,d.1,d.2.1,d.2.2.1,?_,by rw[pw,Nj,ew],by rw[ptr,M9],fun p=>by rw[ed,pd,Nk],fun x hx=>?_,bP _ _,by rw[aA,aD];lia⟩;·rw[d.2.2.2,aC,bF,show(isL∘Le:Tr->Bool)=fun _=>false from rfl,List.map_const'];rfl
  ·rcases ak.mp hx with rfl|hx;·exact hw
   ·exact okk x hx
 have opp:∀(s:Str) (m:Nat),κ= .op s m->(s≠"rec"/\s≠"case"/\s≠"row"/\stP s=some (aH m false))->1<=m->m<=3->Std f κ ks:=fun s m e d m1 m3=>by
  subst e;have h2:ks.length=m:=h2;subst h2;refine⟨ks.map .inr,d.1,d.2.1,d.2.2.1,?_,Nj _,M9 _,fun p=>by rw[Nk];rfl,okk,fun z=>?_,by rw[aD];exact m3⟩;·show stP s=_;rw[d.2.2.2,bF,show(isL∘Le:Tr->Bool)=fun _=>false from rfl,List.map_const']
  ·rw[List.map_eq_nil_iff]at z;rw[z]at m1;exact absurd m1 (by decide)
 cases κ with
 |num n=>cases hb
 |name w=>cases hb
 |rcd l=>exact .inl ⟨l,rfl⟩
 |case l=>exact .inr (.inl ⟨l,rfl⟩)
 |row m=>exact .inr (.inr (.inl ⟨m,rfl⟩))
 |fn w=>exact .inr (.inr (.inr (nam "fn" w 1 rfl h2 h1 gA (by decide) rfl fun _=>rfl)))
 |tag w=>exact .inr (.inr (.inr (nam "tag" w 1 rfl h2 h1 gA (by decide) rfl fun _=>rfl)))
 |lt w=>exact .inr (.inr (.inr (nam "let" w 2 rfl h2 h1 gA (by decide) rfl fun _=>rfl)))
 |op s m=>have h1:(s,m)∈MH:=h1;simp only[MH,ak,Prod.mk.injEq,bG,or_false]at h1;rcases h1 with⟨rfl,rfl⟩|⟨rfl,rfl⟩|⟨rfl,rfl⟩|⟨rfl,rfl⟩|⟨rfl,rfl⟩|⟨rfl,rfl⟩|⟨rfl,rfl⟩<;>exact .inr (.inr (.inr (opp _ _ rfl gA (by decide) (by decide))))
 |get w=>
  obtain⟨t,rfl⟩:=bC.mp h2;rw[oks]at h3;rw[jM]at h4;have d:("get":Str)≠"rec"/\("get":Str)≠"case"/\("get":Str)≠"row"/\stP "get"=some [false,true]:=gA;refine .inr (.inr (.inr ⟨[.inr t,.inl w],d.1,d.2.1,d.2.2.1,d.2.2.2,?_,rfl,fun _=>rfl,fun x hx=>?_,bP _ _,(by show 2<=3;decide)⟩));·show t.tk++[w]=(t.tk++[])++[w];rw[aE]
  rcases ak.mp hx with rfl|hx;·exact⟨h3.1,by lia⟩
  ·rw[bj.mp hx];exact h1
def K1 (K:Zp) (C:Zx) (f:Nat):Sp:=fun vs H Q _=>X4 fun(κ:Kn) (ks:List Tr) (r:Zd) (rows:List Dt)=>Y7 (κ.ok) (ks.length=κ.ar) (oks ks) (jM ks<=f) (rows.length+szs ks<=160) (br κ=true) (Rp K C [.str κ.s,.int (25-(f:Int))] (κ.ws (tks ks)++(")":Str)::r) ((")":Str)::r) rows (rows++rws ks rows.length) (isT K (κ.rw (jb ks rows.length))) vs H Q)
def EZ (T:Txt K mg) (D:Dk P w K mg) (f:Nat)
  (gE74:MO P w base mg (5*f+ 5) T.e74 (Gh K T.c8.a f))
  (gE77:MO P w base mg (5*f+ 6) T.e77 (IP K T.c8.a f))
  (gE78:MO P w base mg (5*f+ 7) T.e78 (IQ K T.c8.a f [false] 0 6))
  (gE79:MO P w base mg (5*f+ 7) T.e79 (IQ K T.c8.a f [true,false] 1 6))
  (gE80:MO P w base mg (5*f+ 7) T.e80 (K0 K T.c8.a f)):
  MO P w base mg (5*f+ 8) T.e76 (K1 K T.c8.a f):=by
 refine T.e76.F.ok lB (fun vs H Q E ⟨_,_,_,_,_,_,_,_,_,_,h⟩=>h.len) (fun _ A _ s H vs Q E hr h=>?_);obtain⟨κ,ks,r,rows,h1,h2,h3,h4,h160,hb,p,dx,wl,rl,ws,rfl,R,W,q⟩:=h;refine⟨_,(fN (gJ (jg uq (pv 1) fX)
   (fU (gj (ie (fM fX (fM (gH (pv 0) T.c8.cl T.e78.me gE78 (hr.mono (by lia)) T.e78.b .nil gY (fM (pv 2) fO)) fO)))))
   gi)
  (fN (gJ (jg uq (pv 1) fX)
   (fN (pS (i:=3) lB.nd (gH (pv 0) T.c8.cl T.e74.me gE74 (hr.mono (by lia)) T.e74.b .nil gY (fM (pv 2) fO)))
   (fU (gj (ie (fM fX (fM (pv 3) (fM (gH (pv 0) T.c8.cl T.e79.me gE79 (hr.mono (by lia)) T.e79.b .nil gY (fM (pv 2) fO)) fO)))))))
   gi)
  (fN (gJ (jg uq (pv 1) fX)
   (fU (gj (ie (fM fX (fM (gH (pv 0) T.c8.cl T.e80.me gE80 (hr.mono (by lia)) T.e80.b .nil gY (fM (pv 2) fO)) fO)))))
   gi)
  (fN (gJ (rA (AY D.kd (pv 1) (AQ rfl D.m)) rfl)
   (fU ky)
   gi)
  (fU (gj (gB EB (ie (fM (pv 1) fO)) (gH (pv 0) T.c8.cl T.e77.me gE77 (hr.mono (by lia)) T.e77.b .nil gY (fM (AZ D.kd (AQ rfl D.m) (pv 1)) (fM (pv 2) fO)))))))))),?_⟩;have sl:=Lc;obtain⟨k',hk⟩:=R.ob;refine⟨_,rfl,rfl,_,rfl,?_⟩;rcases Hu hb h1 h2 h3 h4 with⟨l,rfl⟩|⟨l,rfl⟩|⟨m,rfl⟩|⟨ps,n1,n2,n3,st,ew,et,ed,ok,ne,le⟩
 ·have h2:ks.length=l.length:=h2;obtain⟨i1,i2,i3⟩:=TM.Internal.fI_is (l:=l) (ts:=ks) h2.symm;have e:TM.Internal.Kn.ws (.rcd l) (tks ks)=iw (MW l ks):=i2.symm;rw[e]at R;have il:(MW l ks).length=l.length:=by have:=congrArg aJ (i3 0);rw[Nd,aD,bZ,ML]at this;lia
  refine iC ⟨_,rfl,p,dx,_,rfl,hk,ir _ _ _ _ (by simp),_,rfl,MW l ks,r,rows,TM.Internal.fI_ok h1.2 h3 h4,cJ _,by rw[il];exact h1.1,by rw[i1];exact h160,p,dx,wl,rl,ws,rfl,R,W,?_⟩;rw[i1,i3];rintro _ H1 R1 k1 ⟨t,rfl,ht⟩;refine⟨lZ,fun u hu=>?_⟩;have s:=fW hu (.tup [.str "rec",.ref t]);exact q _ _ (R1.same s) (k1.trans (gE.k2 s)) ⟨u,rfl,.tup fS (.cons (.flat rfl) (.cons (R1.tat (gE.k2 s) ht) .nil))⟩
 ·cases ks with
  |nil=>cases h2
  |cons t0 ts=>
   have hl:l.length=ts.length:=(cZ.inj h2).symm;obtain⟨i1,i2,i3⟩:=TM.Internal.aI_is hl;rw[szs]at h160;rw[oks]at h3;rw[jM]at h4;have e:TM.Internal.Kn.ws (.case l) (tks (t0::ts))++(")":Str)::r=t0.tk++(iw (MX l ts)++(")":Str)::r):=by rw[i2,<-bT];rfl
   rw[e]at R;have il:(MX l ts).length=l.length:=by have:=congrArg aJ (i3 0);rw[Nd,aD,bZ,ML]at this;lia
   refine gX ⟨_,rfl,rfl,_,rfl,iC ⟨_,rfl,p,dx,_,rfl,hk,ir _ _ _ _ (by simp),_,rfl,t0,_,rows,h3.1,by lia,by lia,p,dx,wl,rl,ws,rfl,R,W,?_⟩⟩;rintro _ H1 R1 k1 rfl;obtain⟨k1',hk1⟩:=R1.ob;refine⟨_,rfl,_,rfl,p,dx,_,rfl,hk1,ir _ _ _ _ (by simp),_,rfl,MX l ts,r,_,TM.Internal.aI_ok h1.2.2 h3.2 (by lia),by rw[il];exact h1.1,by rw[il];exact h1.2.1,by rw[i1,rw_len];lia,p,dx,wl,rl,ws,rfl,R1,W,?_⟩;rw[i1,i3,rw_len,bT];rintro _ H2 R2 k2 ⟨t,rfl,ht⟩;refine⟨kP,fun u hu=>?_⟩;have s:=fW hu (.tup [.str "case",.int (rows.length:Int),.ref t]);exact q _ _ (by rw[rws];exact R2.same s) ((k1.trans k2).trans (gE.k2 s)) ⟨u,rfl,.tup fS (.cons (.flat rfl) (.cons (.flat rfl) (.cons (R2.tat (gE.k2 s) ht) .nil)))⟩
 ·refine gX ⟨_,rfl,rfl,_,rfl,gX ⟨_,rfl,rfl,_,rfl,iC ⟨_,rfl,p,dx,_,rfl,hk,ir _ _ _ _ (by simp),_,rfl,ks,r,rows,h3,h4,(by have h2:ks.length=m:=h2;have h1:m<=8:=h1;lia),h160,p,dx,wl,rl,ws,rfl,R,W,?_⟩⟩⟩;rintro _ H1 R1 k1 ⟨t,rfl,ht⟩;refine⟨lZ,fun u hu=>?_⟩;have s:=fW hu (.tup [.str "row",.ref t]);exact q _ _ (R1.same s) (k1.trans (gE.k2 s)) ⟨u,rfl,.tup fS (.cons (.flat rfl) (.cons (R1.tat (gE.k2 s) ht) .nil))⟩
 ·rw[gQ (fun z:V.str κ.s=V.str "rec"=>n1 (by injection z))];refine gX ⟨_,rfl,rfl,_,rfl,?_⟩;rw[gQ (fun z:V.str κ.s=V.str "case"=>n2 (by injection z))];refine gX ⟨_,rfl,rfl,_,rfl,?_⟩;rw[gQ (fun z:V.str κ.s=V.str "row"=>n3 (by injection z))];refine gX ⟨_,rfl,Le κ.s,rfl,rfl,_,rfl,?_⟩;obtain⟨dq,ev,hq⟩:=D.yes _ _ st;rw[ev];refine gX ⟨_,rfl,yo,fun t1 ht1=>?_⟩;have s1:=fW ht1 (.tup [.str κ.s]);rw[<-ew]at R;have R1:=R.same s1;obtain⟨k1',hk1⟩:=R1.ob;refine⟨_,rfl,p,dx,_,rfl,hk1,ir _ _ _ _ (by simp),_,rfl,Le κ.s,_,rfl,rfl,ev,_,rfl,ps,dq,_,rows,ok,by rw[et];exact h160,hq _,le,p,dx,wl,rl,ws,rfl,R1,W,?_⟩;rw[et];rintro _ H2 R2 k2 ⟨t,rfl,ht⟩
  cases ht with
  |tup hsq hts=>
   rename_i xs;have l2:=hts.length;rw[TM.Internal.pd_len]at l2;have hne:xs≠[]:=fun z=>by rw[z]at l2;exact ne (bL.mp l2.symm)
   refine⟨t1,t,[.str κ.s],xs,rfl,rfl,R1.sqt k2 (.inl (.inl fS)),.inl (.inl hsq),(fun z=>nomatch z),(by show 1+xs.length<=_;lia),fun z=>absurd z hne,fun _ u hu=>?_⟩;have s:=fW hu (.tup ([.str κ.s]++xs));exact q _ _ (R2.same s) (((gE.k2 s1).trans k2).trans (gE.k2 s)) ⟨u,rfl,by rw[ed];exact .tup fS (.cons (.flat rfl) (R2.tats (gE.k2 s) hts))⟩
def K3 (K:Zp) (C:Zx) (f:Nat):Sp:=fun vs H Q _=>X4 fun(κ:Kn) (ks:List Tr) (r:Zd) (rows:List Dt)=>Y6 (κ.ok) (ks.length=κ.ar) (oks ks) (jM ks<=f) (rows.length+szs ks<=160) (Rp K C [.int (25-((f+ 1:Nat):Int))] (κ.tk (tks ks)++r) r rows (rows++rws ks rows.length) (isT K (κ.rw (jb ks rows.length))) vs H Q)
def Hv (T:Txt K mg) (f:Nat)
  (gE71:MO P w base mg 2 T.e71 (jF K T.c8.a))
  (gE72:MO P w base mg 3 T.e72 (iY K T.c8.a))
  (gD24:FO P w base 2 T.d24 nN)
  (gD25:FO P w base 2 T.d25 nv)
  (gE76:MO P w base mg (5*f+ 8) T.e76 (K1 K T.c8.a f)):
  MO P w base mg (5*f+ 9) T.e75 (K3 K T.c8.a f):=by
 refine T.e75.F.ok ke (fun vs H Q E ⟨_,_,_,_,_,_,_,_,_,h⟩=>h.len) (fun _ A _ s H vs Q E hr h=>?_);obtain⟨κ,ks,r,rows,h1,h2,h3,h4,h160,p,dx,wl,rl,ws,rfl,R,W,q⟩:=h;refine⟨_,(fN (pS (i:=2) ke.nd (jm (pv 0) T.c8.cl T.e71.me gE71 (hr.mono (by lia)) T.e71.b .nil gY))
  (fN (gJ (iL (pF T.d25 gD25 (hr.mono (by lia)) (fM (pv 2) fO)))
   (fU (gj (ie (fM fX (fM (iG vZ rfl T.z_int yx (fM (pv 2) fO)) fO)))))
   gi)
  (fN (gJ (iL (pF T.d24 gD24 (hr.mono (by lia)) (fM (pv 2) fO)))
   (fU (gj (ie (fM fX (fM (pv 2) fO)))))
   gi)
  (fN (gJ (jg oj (pv 2) fX)
   (fU ky)
   gi)
  (fN (pS (i:=3) ke.nd (gH (pv 0) T.c8.cl T.e76.me gE76 (hr.mono (by lia)) T.e76.b .nil gY (fM (jm (pv 0) T.c8.cl T.e71.me gE71 (hr.mono (by lia)) T.e71.b .nil gY) (fM (gB Dv (pv 1) fQ) fO))))
  (fN (gv (gH (pv 0) T.c8.cl T.e72.me gE72 (hr.mono (by lia)) T.e72.b .nil gY (fM fX fO)))
  (fU (gj (pv 3))))))))),?_⟩;obtain⟨k',hk⟩:=R.ob;obtain⟨x,r1,ex⟩:∃x r1,κ.tk (tks ks)++r=x::r1:=by cases κ<;>exact⟨_,_,rfl⟩
 have hk3:(∃n,κ= .num n)\/(∃w,κ= .name w)\/br κ=true/\κ.tk (tks ks)++r=("(":Str)::κ.s::(κ.ws (tks ks)++(")":Str)::r):=by
  have e:("(":Str)::κ.s::(κ.ws (tks ks)++[(")":Str)])++r=("(":Str)::κ.s::(κ.ws (tks ks)++(")":Str)::r):=by rw[aT,aT,bT];rfl
  cases κ with
  |num n=>exact .inl ⟨n,rfl⟩
  |name w=>exact .inr (.inl ⟨w,rfl⟩)
  |_=>exact .inr (.inr ⟨rfl,e⟩)
 rw[ex]at R hk3;have xl:=(W.one x (R.mem x (ai ..))).2.1;refine⟨_,rfl,p,dx,_,rfl,hk,ir _ _ _ _ (by simp),?_⟩;refine tn0 ⟨_,_,_,p,dx,wl,rl,ws,rfl,R,W,?_⟩;rintro _ H1 R1 k1 rfl;refine⟨_,rfl,x,rfl,xl,fun H2 s2=>⟨_,rfl,?_⟩⟩;have R2:=R1.same s2;have k2:=k1.trans (gE.k2 (p:=p) (q:=rl) s2);rcases hk3 with⟨n,rfl⟩|⟨y,rfl⟩|⟨hb,e⟩;·have ex:MM n::r=x::r1:=ex;injection ex with e1 e2;subst e1 e2;obtain⟨n1,n2⟩:=TM.Internal.num_is h1.1 h1.2;obtain⟨m1,m2,m3⟩:=rX n1;obtain rfl:=bV h2;rw[rws,aE]at q;rw[n1];refine iC ⟨_,rfl,_,n,rfl,by rw[zN m1 (by lia) m3,n2],by lia,lZ,fun t ht=>?_⟩;have s:=fW ht (.tup [.str "num",.int n]);exact q _ _ (R2.same s) (k2.trans (gE.k2 s)) ⟨t,rfl,.tup fS (.cons (.flat rfl) (.cons (.flat rfl) .nil))⟩
 ·have ex:y::r=x::r1:=ex;injection ex with e1 e2;subst e1 e2;have h1:isName y=true:=h1;obtain rfl:=bV h2;rw[rws,aE]at q;rw[Bool.eq_false_iff.mpr (TM.Internal.name_nn h1)];refine gX ⟨_,rfl,y,rfl,xl,fun H3 s3=>⟨_,rfl,?_⟩⟩;rw[h1];refine iC ⟨_,rfl,lZ,fun t ht=>?_⟩;have s:=fW ht (.tup [.str "name",.str y]);exact q _ _ ((R2.same s3).same s) ((k2.trans (gE.k2 s3)).trans (gE.k2 s)) ⟨t,rfl,.tup fS (.cons (.flat rfl) (.cons (.flat rfl) .nil))⟩
 ·injection e with e1 e2;subst e1 e2;refine gX ⟨_,rfl,_,rfl,xl,fun H3 s3=>⟨_,rfl,?_⟩⟩;have R3:=R2.same s3;have k3:=k2.trans (gE.k2 (p:=p) (q:=rl) s3);obtain⟨k3',hk3⟩:=R3.ob;refine gX ⟨_,rfl,rfl,_,rfl,gX ⟨_,rfl,p,dx,_,rfl,hk3,ir _ _ _ _ (by simp),_,rfl,p,dx,_,rfl,hk3,ir _ _ _ _ (by simp),?_⟩⟩;refine tn0 ⟨_,_,_,p,dx,wl,rl,ws,rfl,R3,W,?_⟩;rintro _ H4 R4 k4 rfl;refine⟨_,rfl,_,_,rfl,rfl,κ,ks,r,rows,h1,h2,h3,h4,h160,hb,p,dx,wl,rl,ws,(by show[V.ref p,V.str κ.s,V.int (25-((f+ 1:Nat):Int)+ 1)]=_;rw[show(25-((f+ 1:Nat):Int)+ 1)=25-(f:Int) by lia]),R4,W,?_⟩;rintro _ H5 R5 k5 ⟨t,rfl,ht⟩;obtain⟨k5',hk5⟩:=R5.ob;refine⟨_,rfl,p,dx,_,rfl,hk5,ir _ _ _ _ (by simp),?_⟩;refine tc1 ⟨_,_,_,p,dx,wl,rl,ws,rfl,R5,W,?_⟩;rintro _ H6 R6 k6 rfl;exact⟨_,rfl,q _ _ R6 (((k3.trans k4).trans k5).trans k6) ⟨t,rfl,R5.tat k6 ht⟩⟩
def CV (T:Txt K mg) (f:Nat)
  (gE75:MO P w base mg (5*f+ 9) T.e75 (K3 K T.c8.a f)):
  MO P w base mg (5*(f+ 1)+ 5) T.e74 (Gh K T.c8.a (f+ 1)):=by
 refine T.e74.F.ok (k:=5*f+ 9) jI (fun vs H Q E ⟨_,_,_,_,_,_,h⟩=>h.len) (fun _ A _ s H vs Q E hr h=>?_);obtain⟨⟨κ,ks⟩,r,rows,ok,hn,h160,p,dx,wl,rl,ws,rfl,R,W,q⟩:=h;rw[MG]at ok;rw[MR]at hn;rw[ME]at h160;rw[MF]at R;rw[Nl]at q;refine⟨_,(fN (gJ (jg GI (pv 1) (uA rfl T.o12))
   (fU ky)
   gi)
  (fN (pS (i:=2) jI.nd (gC gx rfl T.z_len iJ (fM (pk (pv 0) rfl) fO)))
  (fN (gJ (jg uq (pv 2) (uA rfl T.o11))
   (fU ky)
   gi)
  (fN (gv (jq eO eP eQ gK (pk (pv 0) rfl) (fM gR fO)))
  (fN (vG (gH (pv 0) T.c8.cl T.e75.me gE75 (hr.mono (by lia)) T.e75.b .nil gY (fM (pv 1) fO)) (vF (pk (pv 0) rfl) (pv 2) pB))
  (fU (gj (pv 2)))))))),?_⟩;have sl:=Lc;obtain⟨k,rv,R',h1,h2,h3⟩:=R;have tl:=h3.length;refine⟨_,rfl,_,_,rfl,rfl,_,rfl,?_⟩;rw[gQ (by lia)];refine gX ⟨_,rfl,p,_,dx,_,_,rfl,R'.ob,T.c8.cl,T.n8rows,uK _ _ _,rl,_,rfl,.inl (MD R'.rw),?_⟩;refine⟨_,rfl,rfl,_,rfl,?_⟩;rw[gQ (show ¬V.int ((rv.length:Nat):Int)=V.int 160 from fun z=>by injection z with z;lia)];refine gX ⟨_,rfl,p,_,dx,_,_,rfl,R'.ob,T.c8.cl,T.n8rows,uK _ _ _,.inl ⟨rfl,_,MD R'.rw⟩,rl,_,_,rfl,rfl,R'.rw,by lia,?_⟩;have npr:=R'.ne2;have nwr:=R'.ne;have R1':rh T.c8.a (upd H rl (.lst (rv++[.non]))) p dx wl rl ws k (rv++[.non]):=⟨by rw[f9 npr];exact R'.ob,by rw[f9 nwr];exact R'.wd,fS,nwr⟩;have k1:K2 p rl H (upd H rl (.lst (rv++[.non]))):=(K2.refl p rl H).upd2 _;have lr:(rows++[Dt.flat .non]).length=rows.length+ 1:=by rw[aQ];rfl
 refine⟨_,rfl,p,dx,_,rfl,R1'.ob,ir _ _ _ _ (by simp),_,rfl,κ,ks,r,rows++[.flat .non],ok.1,ok.2.1,ok.2.2,by lia,by lia,p,dx,wl,rl,ws,rfl,⟨k,_,R1',h1,h2,(h3.snoc (.flat rfl)).other R'.rw⟩,W,?_⟩;rw[lr];rintro _ H2 ⟨kk,rv2,R2',g1,g2,g3⟩ k2 ⟨t,rfl,ht⟩;have tl2:=g3.length;rw[aQ,lr]at tl2;refine⟨_,rfl,p,_,dx,_,_,rfl,R2'.ob,T.c8.cl,T.n8rows,uK _ _ _,_,rfl,rl,_,_,rv.length,rfl,rfl,R2'.rw,EW (by lia),?_⟩;refine⟨_,rfl,q _ _ ⟨kk,_,⟨?_,?_,fS,nwr⟩,g1,g2,?_⟩ ((k1.trans k2).upd2 _) (by rw[tl])⟩;·rw[f9 npr];exact R2'.ob
 ·rw[f9 nwr];exact R2'.wd
 ·have:=(mf.set rows.length g3 ht).other (o:= .lst (rv2.set rv.length (.ref t))) R2'.rw;rw[TM.Internal.set_at]at this;rw[tl]at this⊢;exact this
theorem Br (T:Txt K mg) (D:Dk P w K mg)
  (gE70:MO P w base mg 1 T.e70 (iH K T.c8.a))
  (gE71:MO P w base mg 2 T.e71 (jF K T.c8.a))
  (gE72:MO P w base mg 3 T.e72 (iY K T.c8.a))
  (gE73:MO P w base mg 3 T.e73 (iZ K T.c8.a))
  (gD24:FO P w base 2 T.d24 nN)
  (gD25:FO P w base 2 T.d25 nv)
  (gD28:FO P w base 1 T.d28 ja):
  ∀f,MO P w base mg (5*f+ 5) T.e74 (Gh K T.c8.a f)
 |0=>by refine T.e74.F.ok jI (fun vs H Q E ⟨_,_,_,_,_,_,h⟩=>h.len) (fun _ A _ s H vs Q E hr h=>⟨_,Ag,?_⟩);obtain⟨⟨κ,ks⟩,_,_,_,hn,_⟩:=h;rw[MR]at hn;lia
 |f+ 1=>by have g:=Br T D gE70 gE71 gE72 gE73 gD24 gD25 gD28 f;have gs:=Bo T f gE73 g;exact CV T f (Hv T f gE71 gE72 gD24 gD25 (EZ T D f g gs (Bp T f gE70 gs gD28) (EY T f gE70 gs gD28) (Bq T f gE70 g gD28)))
open TM.Internal (Tr Kn szs rws kD jb oks)
def dtk (n:Str) (t:Nm):List Str:=("(":Str)::"def"::n::(t.tk++[(")":Str)])
def vD:List Str->List Nm->List Str
 |n::ns,t::ts=>dtk n t++vD ns ts
 |_,_=>[]
def lD (C:Zx):Sp:=fun vs H Q _=>X5 fun(p dx a b c:Zx)=>Y3 (vs=[.ref p,.ref a,.ref b,.ref c]) (H p=some (.ins C dx [])) (∀H',H' p=some (.ins C dx (fP a b c))->(∀z o,H z=some o->z≠p->H' z=some o)->Q .non H')
def oT (T:Txt K mg):MO P w base mg 1 T.e68 (lD T.c7.a):=by
 refine T.e68.F.rd oQ fun _ A _ s H vs Q E hr h=>?_;obtain⟨p,dx,a,b,c,rfl,hp,k⟩:=h;refine⟨_,(fN (i8 (pv 0) (pv 1) rfl)
  (fN (i8 (pv 0) (pv 2) rfl)
  (fU (i8 (pv 0) (pv 3) rfl)))),?_⟩;refine⟨_,rfl,_,rfl,p,T.c7.a,dx,[],rfl,hp,T.c7.cl,T.n7names,(by show 0<1000;decide),?_⟩;refine⟨_,rfl,_,rfl,p,T.c7.a,dx,_,rfl,fS,T.c7.cl,T.n7roots,(by show 1<1000;decide),?_⟩;refine⟨_,rfl,_,rfl,p,T.c7.a,dx,_,rfl,fS,T.c7.cl,T.n7rows,(by show 2<1000;decide),?_⟩;refine k _ ?_ fun z o e hz=>?_;·rw[fS];exact congrArg (fun l=>some (HO.ins T.c7.a dx l)) (JH a b c)
 ·rw[f9 hz,f9 hz,f9 hz];exact e
structure PrAt (C:Zx) (H:Hp) (g:Zx) (nl tl rl:Zx) (names roots rows:List V):Prop where
 ob:∃dx,H g=some (.ins C dx (fP nl tl rl))
 nm:H nl=some (.lst names)
 rt:H tl=some (.lst roots)
 rw:H rl=some (.lst rows)
 n1:nl≠tl
 n2:nl≠rl
 n3:tl≠rl
inductive Xrd (K:Zp) (C:Zx) (vs:List V) (H:Hp) (Q:VK):Prop
 |mk (x:Str) (ns:Zd) (ts:List Tr) (e:vs=[.str x]) (hx:x.length<=30000) (hw:wordsV x.cps.toList=(vD ns ts).map V.str) (W:WOk (vD ns ts)) (hl:ns.length=ts.length) (hn:∀n∈ns,isName n=true) (ho:oks ts) (hd:∀t∈ts,t.nest<=24) (hz:szs ts<=160) (h1:1<=ns.length) (h12:ns.length<=12)
  (q:∀g nl tl rl rtv rwv H',gE H H'->PrAt C H' g nl tl rl (ns.map V.str) rtv rwv->mf K H' rtv ((jb ts 0).map kD)->mf K H' rwv (rws ts 0)->Q (.ref g) H')
def E1 (K:Zp) (C:Zx):Sp:=fun vs H Q _=>Xrd K C vs H Q
def uU {p rl:Zx} {H H1 H2:Hp} (np:H p=none) (nr:H rl=none) (s:gE H H1) (k:K2 p rl H1 H2):gE H H2:=fun b o e=>k b o (s b o e) (fZ e np) (fZ e nr)
def E2 (T:Txt K mg) (gD23:FO P w base 1 T.d23 sr) (gE69:MO P w base mg 1 T.e69 (lM T.c8.a))
  (gE70:MO P w base mg 1 T.e70 (iH K T.c8.a))
  (gE72:MO P w base mg 3 T.e72 (iY K T.c8.a))
  (gE73:MO P w base mg 3 T.e73 (iZ K T.c8.a))
  (gE74:MO P w base mg (5*24+ 5) T.e74 (Gh K T.c8.a 24))
  (gD28:FO P w base 1 T.d28 ja)
  (gE68:MO P w base mg 1 T.e68 (lD T.c7.a)):
  FO P w base 126 T.d27 (E1 K T.c7.a):=by
 refine T.d27.F.rd uQ fun _ A _ s H vs Q E hr h=>?_;obtain⟨x,ns,ts,rfl,hx,hw,W,hl,hn,ho,hd,hz,h1,h12,q⟩:=h;refine⟨_,(fN (pS (i:=1) uQ.nd (uu T.mk8 gE69 (hr.mono (by lia)) rfl T.c8.m T.e69.b .nil gY (fM (pF T.d23 gD23 (hr.mono (by lia)) (fM (pv 0) fO)) fO)))
  (fN (pS (i:=2) uQ.nd (gq fO))
  (fN (pS (i:=3) uQ.nd (gq fO))
  (fN (nK Lh (jg oj (jm (pv 1) T.c8.cl T.e70.me gE70 (hr.mono (by lia)) T.e70.b .nil gY) fX)
   (fN (gv (gH (pv 1) T.c8.cl T.e72.me gE72 (hr.mono (by lia)) T.e72.b .nil gY (fM fX fO)))
   (fN (gv (gH (pv 1) T.c8.cl T.e72.me gE72 (hr.mono (by lia)) T.e72.b .nil gY (fM fX fO)))
   (fN (gv (jq eO eP eQ gK (pv 2) (fM (jm (pv 1) T.c8.cl T.e73.me gE73 (hr.mono (by lia)) T.e73.b .nil gY) fO)))
   (fN (gv (jq eO eP eQ gK (pv 3) (fM (gH (pv 1) T.c8.cl T.e74.me gE74 (hr.mono (by lia)) T.e74.b .nil gY (fM fQ fO)) fO)))
   (fU (gv (gH (pv 1) T.c8.cl T.e72.me gE72 (hr.mono (by lia)) T.e72.b .nil gY (fM fX fO)))))))))
  (fN (gv (pF T.d28 gD28 (hr.mono (by lia)) (fM fX (fM (gC gx rfl T.z_len iJ (fM (pv 2) fO)) (fM fQ (fM (uA rfl T.o7) fO))))))
  (fU (gj (uu T.mk7 gE68 (hr.mono (by lia)) rfl T.c7.m T.e68.b .nil gY (fM (pv 2) (fM (pv 3) (fM (pk (pv 1) rfl) fO))))))))))),?_⟩;have sl:=Lc;refine⟨_,rfl,x,rfl,hx,fun wl H1 s1 nwl hwl p dx np ndx nex=>?_⟩;rw[hw]at hwl;generalize hws:vD ns ts=ws at W hwl;have wp:wl≠p:=fZ hwl np;have wdx:wl≠dx:=fZ hwl ndx;refine⟨p,dx,wl,ws,rfl,fS,by rw[f9 wp,f9 wdx];exact hwl,fun rl H2 nrl R2 keep=>⟨rfl,?_⟩⟩;have np0:H p=none:=s1.free np;have S1:gE H (upd (upd H1 dx (.own p)) p (.ins T.c8.a dx [])):=uL _ np0 (uL _ (s1.free ndx) s1);have nr0:H rl=none:=S1.free nrl;have S2:gE H H2:=fun b o e=>keep b o (S1 b o e) (fZ e np0);refine⟨qC,fun nl hnl=>⟨qC,fun tl htl=>?_⟩⟩;have nn0:H nl=none:=S2.free hnl;have S3:gE H (upd H2 nl (.lst [])):=S2.trans (fW hnl _);have nt0:H tl=none:=S3.free htl;have S4:gE H (upd (upd H2 nl (.lst [])) tl (.lst [])):=S3.trans (fW htl _);have R3:=R2.same (fW hnl (.lst []));have R4:RS K T.c8.a (upd (upd H2 nl (.lst [])) tl (.lst [])) p dx wl rl ws ws []:=⟨0,[],R3.same (fW htl (.lst [])),rfl,cJ _,.nil⟩;have ntn:nl≠tl:=fZ fS htl;have hN4:upd (upd H2 nl (.lst [])) tl (.lst []) nl=some (.lst []):=by rw[f9 ntn];exact fS
 have hT4:upd (upd H2 nl (.lst [])) tl (.lst []) tl=some (.lst []):=fS;have pn:nl≠p:=Lq (fZ R2.ob hnl);have rn:nl≠rl:=Lq (fZ R2.rw hnl);have pt:tl≠p:=Lq (fZ R3.ob htl);have rt:tl≠rl:=Lq (fZ R3.rw htl);have wn:nl≠wl:=Lq (fZ R2.wd hnl);have wt:tl≠wl:=Lq (fZ R3.wd htl);generalize hH4:upd (upd H2 nl (.lst [])) tl (.lst [])=H4 at R4 S4 hN4 hT4;have R4:RS K T.c8.a H4 p dx wl rl ws (vD ns ts) []:=by rw[hws];exact R4
 refine⟨fun m σ H5=>X6 fun(ms:Zd) (us:List Tr) (names:Zd) (roots:List Dt) (rtv:List V) (rows:List Dt)=>Y16 (m=us.length) (ms.length=us.length) ((∀n∈ms,isName n=true)) (oks us) ((∀t∈us,t.nest<=24)) (σ=[some (.str x),some (.ref p),some (.ref nl),some (.ref tl)]) (RS K T.c8.a H5 p dx wl rl ws (vD ms us) rows) (gE H H5) (H5 nl=some (.lst (names.map V.str))) (H5 tl=some (.lst rtv)) (mf K H5 rtv roots) (names++ms=ns) (roots.length=names.length) (rows.length+szs us<=160) (rows++rws us rows.length=rws ts 0) (roots++(jb us rows.length).map kD=(jb ts 0).map kD),
  ⟨_,ns,ts,[],[],[],[],rfl,hl,hn,ho,hd,rfl,R4,S4,hN4,hT4,.nil,rfl,rfl,(by show 0+_<=_;lia),rfl,rfl⟩,?_⟩;rintro m σ H5 ⟨ms,us,names,roots,rtv,rows,rfl,hl5,hn5,ho5,hd5,rfl,R5,S5,hN5,hT5,ht5,en,hlr,hrows,e1,e2⟩;obtain⟨k5,hk5⟩:=R5.ob;have lroot:=ht5.length;have ln:=congrArg aJ en;rw[aQ]at ln;refine⟨_,rfl,p,dx,_,rfl,hk5,ir _ _ _ _ (.inl rfl),?_⟩;refine tn0 ⟨_,_,p,dx,wl,rl,ws,rfl,R5,W,?_⟩;rintro _ H6 R6 k6 rfl;have hN6:H6 nl=some (.lst (names.map V.str)):=k6 _ _ hN5 pn rn;have hT6:H6 tl=some (.lst rtv):=k6 _ _ hT5 pt rt;have S6:=uU np0 nr0 S5 k6;have ht6:=R5.tats k6 ht5;obtain⟨k6',hk6⟩:=R6.ob;refine⟨rfl,_,rfl,?_⟩
 cases us with
 |nil=>obtain rfl:=bV hl5;rw[aE]at en;rw[rws,aE]at e1;rw[jb,aV,aE]at e2;subst en e1 e2;have lm:(names.map V.str).length=names.length:=aD ..;refine gX ⟨_,rfl,nl,_,rfl,.inl (MD hN6),_,(names.map V.str).length,1,12,rfl,by lia,by lia,?_⟩;refine⟨_,rfl,_,rfl,_,rfl,p,_,dx,_,_,rfl,hk6,T.c8.cl,T.n8rows,uK _ _ _,fun g dg ng ndg neg=>?_⟩;refine⟨g,dg,nl,tl,rl,rfl,fS,fun H7 hg keep7=>⟨rfl,?_⟩⟩;have k7:gE H6 H7:=fun b o e=>keep7 b o (by rw[f9 (fZ e ng),f9 (fZ e ndg)];exact e) (fZ e ng);obtain⟨k,rv,R',g1,g2,g3⟩:=R6;have kk:K2 p rl H6 H7:=gE.k2 k7;exact q g nl tl rl rtv rv H7 (S6.trans k7) ⟨⟨dg,hg⟩,k7 _ _ hN6,k7 _ _ hT6,k7 _ _ R'.rw,ntn,rn,rt⟩ (ht6.mono fun a xs t=>rh.tpT R' kk t) (g3.mono fun a xs t=>rh.tpT R' kk t)
 |cons t us=>
  cases ms with
  |nil=>cases hl5
  |cons c ms=>
   rw[oks]at ho5;rw[szs]at hrows;rw[rws,<-bT,<-rw_len]at e1;rw[jb,<-rw_len,aC]at e2;have ew:vD (c::ms) (t::us)=("(":Str)::"def"::c::(t.tk++(")":Str)::vD ms us):=by show dtk c t++vD ms us=_;unfold dtk;rw[aT,aT,aT,bT];rfl
   rw[ew]at R6⊢;refine iC ⟨_,fun σ' H' z=>z,?_⟩;refine⟨_,rfl,p,dx,_,rfl,hk6,ir _ _ _ _ (by simp),?_⟩;refine tc1 ⟨_,_,_,p,dx,wl,rl,ws,rfl,R6,W,?_⟩;rintro _ H7 R7 k7 rfl;obtain⟨k7',hk7⟩:=R7.ob;refine⟨_,rfl,p,dx,_,rfl,hk7,ir _ _ _ _ (by simp),?_⟩;refine tc1 ⟨_,_,_,p,dx,wl,rl,ws,rfl,R7,W,?_⟩;rintro _ H8 R8 k8 rfl;have kk8:=k7.trans k8;obtain⟨k8',hk8⟩:=R8.ob;refine⟨_,rfl,.inl ⟨rfl,_,MD (kk8 _ _ hN6 pn rn)⟩,_,rfl,p,dx,_,rfl,hk8,ir _ _ _ _ (by simp),?_⟩;refine tn0 ⟨_,_,_,hn5 c ai,p,dx,wl,rl,ws,rfl,R8,W,?_⟩;rintro _ H9 R9 k9 rfl;have kk9:=kk8.trans k9;have hN9:H9 nl=some (.lst (names.map V.str)):=kk9 _ _ hN6 pn rn;have hT9:H9 tl=some (.lst rtv):=kk9 _ _ hT6 pt rt;refine⟨nl,_,_,rfl,rfl,hN9,(by rw[aD];lia),?_⟩;have R10:=R9.other (o:= .lst (names.map V.str++[.str c])) hN9 pn wn rn;have S10:gE H (upd H9 nl (.lst (names.map V.str++[.str c]))):=uL _ nn0 (uU np0 nr0 S6 kk9);have hT10:upd H9 nl (.lst (names.map V.str++[.str c])) tl=some (.lst rtv):=by rw[f9 (Lq ntn)];exact hT9
   have ht10:=(R6.tats kk9 ht6).other (o:= .lst (names.map V.str++[.str c])) hN9;obtain⟨k10',hk10⟩:=R10.ob;refine⟨_,rfl,.inl ⟨rfl,_,MD hT10⟩,_,rfl,p,dx,_,rfl,hk10,ir _ _ _ _ (by simp),?_⟩;refine tc1 ⟨t,_,rows,ho5.1,hd5 t ai,by lia,p,dx,wl,rl,ws,rfl,R10,W,?_⟩;rintro _ H11 R11 k11 rfl;have hN11:H11 nl=some (.lst (names.map V.str++[.str c])):=k11 _ _ fS pn rn;have hT11:H11 tl=some (.lst rtv):=k11 _ _ hT10 pt rt;refine⟨tl,_,_,rfl,rfl,hT11,(by lia),?_⟩;have R12:=R11.other (o:= .lst (rtv++[.int (rows.length:Int)])) hT11 pt wt rt;have ht12:=((R10.tats k11 ht10).snoc (.flat (v:= .int (rows.length:Int)) rfl)).other (o:= .lst (rtv++[.int (rows.length:Int)])) hT11;have hN12:upd H11 tl (.lst (rtv++[.int (rows.length:Int)])) nl=some (.lst (names.map V.str++[.str c])):=by rw[f9 ntn];exact hN11
   have S12:gE H (upd H11 tl (.lst (rtv++[.int (rows.length:Int)]))):=uL _ nt0 (uU np0 nr0 S10 k11);obtain⟨k12',hk12⟩:=R12.ob;refine⟨_,rfl,p,dx,_,rfl,hk12,ir _ _ _ _ (by simp),?_⟩;refine tc1 ⟨_,_,_,p,dx,wl,rl,ws,rfl,R12,W,?_⟩;rintro _ H13 R13 k13 rfl;refine⟨us.length,cM _,ms,us,names++[c],roots++[kD rows.length],_,_,rfl,cZ.inj hl5,(fun n h=>hn5 n (aj _ h)),ho5.2,(fun n h=>hd5 n (aj _ h)),rfl,R13,uU np0 nr0 S12 k13,?_,k13 _ _ fS pt rt,R12.tats k13 ht12,?_,?_,by rw[rw_len];lia,e1,?_⟩;·rw[bo];exact k13 _ _ hN12 pn rn
   ·rw[bT];exact en
   ·rw[aQ,aQ,hlr];rfl
   ·rw[bT];exact e2
end K64.Internal
namespace K64.Internal
open PySem L2.Internal BO.Internal
seal L2.Internal.PE L2.Internal.PA L2.Internal.PS L2.Internal.PSs L2.Internal.PT L2.Internal.PI
def gZ {H H2:Hp} {l:Zx} (s:gE H H2) (h:H l=none) (o:HO):gE H (upd H2 l o):=fun b u e=>by rw[f9 (fZ e h)];exact s b u e
abbrev Hm:=Str×Int
def hmD (h:Hm):Dt:= .tup [.flat (.str h.1),.flat (.int h.2)]
def Sc (H:Hp) (a:Zx) (g:Str->Option Hm) (n:Nat):Prop:=∃kvs:List (Key×V),Y3 (H a=some (.dK kvs)) (kvs.length<=n) (∀w:Str,match g w with
 |none=>jH kvs (.inr w)=none
 |some h=>∃t,jH kvs (.inr w)=some (.ref t)/\H t=some (.tup [.str h.1,.int h.2]))
def Sc.same {H H':Hp} {a:Zx} {g:Str->Option Hm} {n:Nat} (h:Sc H a g n) (s:gE H H'):Sc H' a g n:=by
 obtain⟨kvs,e,l,h⟩:=h;refine⟨kvs,s _ _ e,l,fun w=>?_⟩;have:=h w
 cases hg:g w with
 |none=>rw[hg]at this;exact this
 |some z=>rw[hg]at this;obtain⟨t,h1,h2⟩:=this;exact⟨t,h1,s _ _ h2⟩
def wid (g:Str->Option Hm) (x:Str) (h:Hm):Str->Option Hm:=fun w=>if w=x then some h else g w
def zV:Sp:=fun vs H Q _=>X6 fun(a t:Zx) (g:Str->Option Hm) (n:Nat) (x:Str) (h:Hm)=>Y5 (vs=[.ref a,.str x,.ref t]) (Sc H a g n) (n<10000) (H t=some (.tup [.str h.1,.int h.2])) (∀b H',gE H H'->H b=none->Sc H' b (wid g x h) (n+ 1)->Q (.ref b) H')
def ue (T:Txt K mg):FO P w base 1 T.d35 zV:=by
 refine T.d35.F.rd ud fun _ A _ s H vs Q E hr h=>?_;have hu:=vX hr;obtain⟨a,t,g,n,x,h,rfl,⟨kvs,e,l,hk⟩,hn,et,q⟩:=h;refine⟨_,(fN (pS (i:=3) ud.nd (iG zL rfl T.z_dict xw (fM (cv 0) fO)))
  (fN (om hu (cv 3) (cv 1) (cv 2) rfl)
  (fU (gj (cv 3))))),?_⟩;have sl:=Lc;refine⟨a,kvs,rfl,e,fun b hb=>?_⟩;have s1:=fW hb (.dK kvs);have eb:(upd H b (.dK kvs)) b=some (.dK kvs):=fS;dsimp only[gP];refine⟨b,_,rfl,Aa.k (k:=Le x) eb (by lia),?_⟩;have tk:∀{y:Zx} {xs:List V},H y=some (.tup xs)->(upd (upd H b (.dK kvs)) b (.dK (mS kvs (Le x) (.ref t)))) y=some (.tup xs):=fun{y xs} ey=>by rw[f9 (kU (s1 _ _ ey) eb (fun h=>nomatch h))];exact s1 _ _ ey
 refine q b _ (gZ s1 hb _) hb ⟨_,fS,cE (ig _ _ _) (by lia),fun w=>?_⟩;unfold wid;by_cases hw:w=x;·rw[gT hw];exact⟨t,by rw[iP,gT (by rw[hw])],tk et⟩
 ·rw[gN hw];have hh:=hk w;have hv:jH (mS kvs (Le x) (.ref t)) (.inr w)=jH kvs (.inr w):=by rw[iP,gN (fun z=>hw (by injection z))]
  cases hg:g w with
  |none=>rw[hg]at hh;exact hv.trans hh
  |some z=>rw[hg]at hh;obtain⟨t',h1,h2⟩:=hh;exact⟨t',hv.trans h1,tk h2⟩
def sv:Sp:=fun vs H Q _=>X2 fun(a:Zx) (ws:Zd)=>Y5 (vs=[.ref a]) (H a=some (.lst (ws.map V.str))) (ws.Nodup) (ws.length<=10000) (∀H',gE H H'->Q .non H')
def sx (T:Txt K mg):FO P w base 1 T.d30 sv:=by
 refine T.d30.F.rd lj fun _ A _ s H vs Q E hr h=>?_;have hu:=vX hr;obtain⟨a,ws,rfl,e,nd,hl,q⟩:=h;refine⟨_,(fN (pS (i:=1) lj.nd pA)
  (fU (kl Lh rfl (mq (cv 0)) (pN (i:=2) lj.nd)
   (fN (gJ (rA (AD hu (cv 2) (cv 1)) rfl)
    (fU ky)
    gi)
   (fU (om hu (cv 1) (cv 2) mh rfl)))))),?_⟩;have sl:=Lc;intro d hd;have s1:=fW hd (.dK []);have ed:(upd H d (.dK [])) d=some (.dK []):=fS;dsimp only[gP];generalize upd H d (.dK [])=H1 at s1 ed⊢;refine⟨a,rfl,⟨_,MD (s1 _ _ e)⟩,mv (xs:=ws.map V.str) (fun i σ H2=>X2 fun(o:Option V) (kvs:List (Key×V))=>Y5 (σ=[some (.ref a),some (.ref d),o]) (gE H H2) (H2 d=some (.dK kvs)) (kvs.length<=i) (∀w:Str,w∉ws.take i->jH kvs (.inr w)=none))
  ⟨none,[],rfl,s1,ed,cJ _,fun _ _=>rfl⟩ (fun i σ H2 _ ⟨_,_,_,S,_,_,_⟩=>MD (S _ _ e)) ?_ ?_⟩
 ·rintro i v σ H2 hv ⟨o,kvs,rfl,S,ek,hk,hn⟩;have hi:=(au.mp hv).1;rw[aD]at hi;rw[aO]at hv;obtain⟨x,hx⟩:∃x,ws[i]?=some x:=⟨_,bE hi⟩;rw[hx]at hv;cases hv;have hxn:x∉ws.take i:=fun hm=>by
   have h1:(ws.take i++ws.drop i).Nodup:=by rw[List.take_append_drop];exact nd
   rw[List.nodup_append]at h1;obtain⟨z1,z2⟩:=au.mp hx;exact h1.2.2 _ hm _ (by rw[bR z1,z2];simp) rfl
  have g:=wU.k (k:=(Le x:Key)) ek;rw[hn x hxn]at g;refine⟨d,none,rfl,g,_,rfl,gX ?_⟩;refine⟨d,_,rfl,Aa.k (k:=Le x) ek (by lia),_,_,rfl,gZ S hd _,fS,cE (ig _ _ _) (by lia),fun w hw=>?_⟩;rw[iP];rw[b6,hx]at hw;have h1:w≠x:=fun z=>hw (by simp[z]);rw[gN (fun z=>h1 (by injection z))];exact hn w fun z=>hw (aq _ z)
 ·rintro σ H2 ⟨o,kvs,rfl,S,_⟩;exact q H2 S
def uf:Sp:=fun vs H Q _=>∃(t a:Zx) (k:Int) (g:Str->Option Hm) (n:Nat) (s:Str) (r:List V),vs=[.ref t,.int k,.ref a]/\H t=some (.tup (.str s::r))/\Sc H a g n/\(s≠"name"->Q .non H)/\(s="name"->∃(x:Str) (h:Hm),r=[.str x]/\g x=some h/\∀p,H p=some (.tup [.str h.1,.int h.2])->Q (.ref p) H)
def zW (T:Txt K mg):FO P w base 1 T.d32 uf:=by
 refine T.d32.F.rd zR fun _ A _ s H vs Q E hr h=>?_;have hu:=vX hr;obtain⟨t,a,k,g,n,s',r,rfl,et,⟨kvs,e,l,hk⟩,q1,q2⟩:=h;refine⟨_,(fN (gJ (gb v9 (gf gy (cv 0) fQ) fX)
   (fU (gj gR))
   gi)
  (fN (gJ (rA (AE hu (gf gy (cv 0) fQ) (cv 2)) rfl)
   (fU ky)
   gi)
  (fU (gj (uw hu (cv 2) (gf gy (cv 0) fQ)))))),?_⟩;refine⟨_,et,fY (fV (j:=0) rfl) ?_⟩;dsimp only[tC,cEq,onB];by_cases hs:s'="name";·obtain⟨x,h,rfl,hg,q⟩:=q2 hs;rw[gM hs];have hh:=hk x;rw[hg]at hh;obtain⟨p,h1,h2⟩:=hh;have g:=wU.k (k:=(Le x:Key)) e;rw[h1]at g;exact gX ⟨_,et,fY (fV (j:=1) rfl) ⟨a,_,rfl,g,_,rfl,gX ⟨_,et,fY (fV (j:=1) rfl) ⟨a,_,rfl,g,q p h2⟩⟩⟩⟩
 ·rw[gQ hs];exact iC (q1 hs)
mutual
def flV:Dt->List V
 | .flat v=>[v]
 | .tup ds=>jA ds
 | .lst _=>[]
def jA:List Dt->List V
 |[]=>[]
 |d::ds=>flV d++jA ds
end
mutual
def okF:Dt->Bool
 | .flat v=>(match v with| .int _=>true| .str _=>true|_=>false)
 | .tup ds=>qM ds
 | .lst _=>false
def qM:List Dt->Bool
 |[]=>true
 |d::ds=>okF d&&qM ds
end
theorem wq:∀(l:List Dt) (d:Dt),jA (l++[d])=jA l++flV d
 |[],d=>by simp[jA]
 |a::l,d=>by rw[aT,jA,jA,wq l d,bT]
theorem yO:∀{l:List Dt} {i:Nat} {d:Dt},qM l=true->l[i]?=some d->okF d=true
 |a::l,0,d,h,e=>by cases e;rw[qM,eX]at h;exact h.1
 |a::l,i+ 1,d,h,e=>by rw[qM,eX]at h;rw[bH]at e;exact yO h.2 e
theorem ny:∀(l:List Dt) (i:Nat),(jA (l.take i)).length<=(jA l).length
 |[],i=>by simp[jA]
 |a::l,0=>by simp[jA]
 |a::l,i+ 1=>by rw[List.take_succ_cons,jA,jA,aQ,aQ];have:=ny l i;lia
theorem ug:∀{l:List Dt} {i:Nat} {d:Dt},l[i]?=some d->(flV d).length<=(jA l).length
 |a::l,0,d,e=>by cases e;rw[jA,aQ];lia
 |a::l,i+ 1,d,e=>by rw[bH]at e;have:=ug e;rw[jA,aQ];lia
theorem kg {H:Hp}:∀{xs:List V} {ds:List Dt} {j:Nat} {x:V},Ims H xs ds->xs[j]?=some x->∃d,ds[j]?=some d/\Im H x d
 |_,_,0,_,.cons h _,e=>⟨_,rfl,by cases e;exact h⟩
 |_,_,j+ 1,_,.cons _ t,e=>by rw[bH]at e;obtain⟨d,e1,e2⟩:=kg t e;exact⟨d,by rw[bH];exact e1,e2⟩
def Bs (n:Nat):Sp:=fun vs H Q _=>X3 fun(t:Zx) (xs:List V) (ds:List Dt)=>Y7 (vs=[.ref t]) (H t=some (.tup xs)) (Ims H xs ds) (qM ds=true) (iK ds<n) ((jA ds).length<=10000) (∀l H',gE H H'->H l=none->H' l=some (.lst (jA ds))->Q (.ref l) H')
def E3 (T:Txt K mg):∀n:Nat,FO P w base (n+ 1) T.d3 (Bs n):=by
 intro n
 induction n with
 |zero=>refine T.d3.F.rd uP fun cdv A outer s H vs Q E hr h=>?_;obtain⟨t,xs,ds,rfl,et,hx,hok,hd,hl,q⟩:=h;exact absurd hd (da _)
 |succ n ih=>
  have gD3:=ih;refine T.d3.F.rd uP fun cdv A outer s H vs Q E hr h=>?_;obtain⟨t,xs,ds,rfl,et,hx,hok,hd,hl,q⟩:=h;refine⟨_,(fN (pS (i:=1) uP.nd (gq fO))
  (fN (kl Lh rfl (rB (cv 0)) (pN (i:=2) uP.nd)
   (fU (gJ (iL (gC lH rfl T.z_isinstance iM (fM (cv 2) (fM (rO rfl T.z_tuple kQ) fO))))
    (fU (gv (jq eO PySem.F.slot_list_extend PySem.F.type_list_extend AL (cv 1) (fM (pF T.d3 gD3 (hr.mono (by lia)) (fM (cv 2) fO)) fO))))
    (fU (gv (iO (jq eO eP eQ gK (MC (cv 1)) (fM (MC (cv 2)) fO))))))))
  (fU (gj (cv 1))))),?_⟩;have sl:=Lc;have lx:=hx.length;refine⟨qC,fun f hf=>?_⟩;have s1:=fW hf (.lst []);have e1:(upd H f (.lst [])) f=some (.lst []):=fS;dsimp only[gP];generalize upd H f (.lst [])=H1 at s1 e1⊢;refine⟨t,rfl,⟨_,MI (s1 _ _ et)⟩,xo (xs:=xs) (fun i σ H2=>∃(o:Option V),σ=[some (.ref t),some (.ref f),o]/\gE H H2/\H2 f=some (.lst (jA (ds.take i)))) ⟨none,rfl,s1,by simpa[jA]using e1⟩ (fun i σ H2 _ ⟨_,_,S,_⟩=>MI (S _ _ et)) ?_ ?_⟩
  ·rintro i v σ H2 hv ⟨o,rfl,S,e⟩;obtain⟨d,hdi,him⟩:=kg hx hv;have him2:=him.mono (gE.tk S);have hok1:=yO hok hdi;have tl:=ny ds i;have gl:=ug hdi;have nxt:jA (ds.take (i+ 1))=jA (ds.take i)++flV d:=by rw[b6,hdi];exact wq _ _
   cases him2 with
   |flat hfl=>
    rw[flV]at nxt gl;have ap:(∃xs,H2 f=some (.lst xs))/\∃xs,H2 f=some (.lst xs)/\xs.length<sizeLine/\∃(o:Option V),[some (V.ref t),some (V.ref f),some v]=[some (V.ref t),some (.ref f),o]/\gE H (upd H2 f (.lst (xs++[v])))/\(upd H2 f (.lst (xs++[v]))) f=some (.lst (jA (ds.take (i+ 1)))):=
     ⟨⟨_,e⟩,_,e,by lia,_,rfl,gZ S hf _,by rw[fS,nxt]⟩
    cases v with
    |int n=>exact⟨_,_,_,_,false,rfl,fun _ r=>r,.int n,rfl,_,rfl,gX ap⟩
    |str x=>exact⟨_,_,_,_,false,rfl,fun _ r=>r,.str x,rfl,_,rfl,gX ap⟩
    |_=>simp[okF]at hok1
   |@tup a ys es ha hs=>rw[flV]at nxt gl;rw[okF]at hok1;have hdd:=L2.Internal.depDs_get hdi;rw[sY]at hdd;refine⟨_,_,_,_,true,rfl,fun _ r=>r,.tup ha,rfl,_,rfl,iC ⟨.inl ⟨rfl,_,MD e⟩,a,ys,es,rfl,ha,hs,hok1,by lia,by lia,fun l H3 S3 hl3 e3=>?_⟩⟩;refine⟨f,l,_,_,rfl,rfl,S3 _ _ e,e3,?_,_,rfl,gZ (S.trans S3) hf _,by rw[fS,nxt]⟩;have h1:(jA (ds.take (i+ 1))).length<=(jA ds).length:=ny ds (i+ 1);rw[nxt,aQ]at h1;lia
  ·rintro σ H2 ⟨o,rfl,S,e⟩;rw[b9 (by lia)]at e;exact q f H2 S hf e
inductive Ro
 |num (n:Int)
 |name (w:Str)
 |fn (w:Str) (k:Int)
 |tag (w:Str) (k:Int)
 |lt (w:Str) (a b:Int)
 |get (k:Int) (w:Str)
 |rcd (l:List (Str×Int))
 |case (k:Int) (l:List (Str×Str×Int))
 |row (ks:List Int)
 |op (s:Str) (ks:List Int)
def kD (k:Int):Dt:= .flat (.int k)
def sD (s:Str):Dt:= .flat (.str s)
def fdD (p:Str×Int):Dt:= .tup [sD p.1,kD p.2]
def amD (p:Str×Str×Int):Dt:= .tup [sD p.1,sD p.2.1,kD p.2.2]
def Ro.s:Ro->Str
 | .num _=>"num"
 | .name _=>"name"
 | .fn _ _=>"fn"
 | .tag _ _=>"tag"
 | .lt _ _ _=>"let"
 | .get _ _=>"get"
 | .rcd _=>"rec"
 | .case _ _=>"case"
 | .row _=>"row"
 | .op s _=>s
def Ro.r:Ro->List Dt
 | .num n=>[kD n]
 | .name w=>[sD w]
 | .fn w k=>[sD w,kD k]
 | .tag w k=>[sD w,kD k]
 | .lt w a b=>[sD w,kD a,kD b]
 | .get k w=>[kD k,sD w]
 | .rcd l=>[.tup (l.map fdD)]
 | .case k l=>[kD k,.tup (l.map amD)]
 | .row ks=>[.tup (ks.map kD)]
 | .op _ ks=>ks.map kD
def Ro.d (ρ:Ro):Dt:= .tup (sD ρ.s::ρ.r)
def plain:List Str:=["size","at","call","join","add","sub","less"]
def Ro.ok:Ro->Prop
 | .rcd l=>l.length<=100/\(l.map Ld).Nodup
 | .case _ l=>l.length<=100/\(l.map Ld).Nodup
 | .row ks=>ks.length<=100
 | .op s ks=>s∈plain/\ks.length<=100
 |_=>True
def Ro.pl:Ro->List Int
 | .num _=>[]
 | .name _=>[]
 | .fn _ k=>[k]
 | .tag _ k=>[k]
 | .lt _ a b=>[a,b]
 | .get k _=>[k]
 | .rcd l=>l.map LD
 | .case k l=>k::l.map fun p=>p.2.2
 | .row ks=>ks
 | .op _ ks=>ks
def Ro.pt:Ro->List V
 | .num _=>[]
 | .name _=>[]
 |ρ=>jA ρ.r
theorem zX:∀ks:List Int,qM (ks.map kD)=true/\jA (ks.map kD)=ks.map V.int/\iK (ks.map kD)=0
 |[]=>⟨by simp[qM],by simp[jA],by simp[iK]⟩
 |k::ks=>by
  obtain⟨h1,h2,h3⟩:=zX ks;refine⟨?_,?_,?_⟩;·rw[aC,qM,h1];rfl
  ·rw[aC,jA,h2];rfl
  ·rw[aC,iK,h3];rfl
theorem Hw:∀l:List (Str×Int),qM (l.map fdD)=true/\(jA (l.map fdD)).length=2*l.length/\iK (l.map fdD)<=1
 |[]=>⟨by simp[qM],by simp[jA],by simp[iK]⟩
 |k::ks=>by
  obtain⟨h1,h2,h3⟩:=Hw ks;refine⟨?_,?_,?_⟩;·rw[aC,qM,h1];rfl
  ·rw[aC,jA,aQ,h2];show 2+_=_;rw[aA];lia
  ·rw[aC,iK];exact Nat.max_le.mpr ⟨cH 1,h3⟩
theorem Hx:∀l:List (Str×Str×Int),qM (l.map amD)=true/\(jA (l.map amD)).length=3*l.length/\iK (l.map amD)<=1
 |[]=>⟨by simp[qM],by simp[jA],by simp[iK]⟩
 |k::ks=>by
  obtain⟨h1,h2,h3⟩:=Hx ks;refine⟨?_,?_,?_⟩;·rw[aC,qM,h1];rfl
  ·rw[aC,jA,aQ,h2];show 3+_=_;rw[aA];lia
  ·rw[aC,iK];exact Nat.max_le.mpr ⟨cH 1,h3⟩
def Ro.fl (ρ:Ro) (h:ρ.ok):qM ρ.r=true/\iK ρ.r<3/\(jA ρ.r).length<=10000:=by
 cases ρ with
 |rcd l=>
  obtain⟨h1,h2,h3⟩:=Hw l;have hl:l.length<=100:=h.1;refine⟨?_,?_,?_⟩;·show qM [.tup (l.map fdD)]=true;rw[qM,okF,h1,qM];rfl
  ·show iK [.tup (l.map fdD)]<3;rw[iK,sY,iK];lia
  ·show(jA [.tup (l.map fdD)]).length<=_;rw[jA,flV,jA,aE,h2];lia
 |case k l=>
  obtain⟨h1,h2,h3⟩:=Hx l;have hl:l.length<=100:=h.1;refine⟨?_,?_,?_⟩;·show qM [kD k,.tup (l.map amD)]=true;simp[qM,okF,kD,h1]
  ·show iK [kD k,.tup (l.map amD)]<3;simp only[iK,sY,kD];lia
  ·show(jA [kD k,.tup (l.map amD)]).length<=_;simp only[jA,flV,kD,aE,aQ,h2,ba];lia
 |row ks=>
  obtain⟨h1,h2,h3⟩:=zX ks;have hl:ks.length<=100:=h;refine⟨?_,?_,?_⟩;·show qM [.tup (ks.map kD)]=true;rw[qM,okF,h1,qM];rfl
  ·show iK [.tup (ks.map kD)]<3;rw[iK,sY,iK,h3];lia
  ·show(jA [.tup (ks.map kD)]).length<=_;rw[jA,flV,jA,aE,h2,aD];lia
 |op s ks=>obtain⟨h1,h2,h3⟩:=zX ks;have hl:ks.length<=100:=h.2;exact⟨h1,by show iK (ks.map kD)<3;lia,by show(jA (ks.map kD)).length<=_;rw[h2,aD];lia⟩
 |_=>exact⟨rfl,by simp[Ro.r,kD,sD,iK,sY],by simp[Ro.r,kD,sD,jA,flV]⟩
def JL (y:V) (ys:List V):rb (y::ys) (some 1) none=ys/\¬(MQ (y::ys).length 0 (some 1)=0/\MQ (y::ys).length (y::ys).length none=(y::ys).length):=by
 have e:MQ (y::ys).length 0 (some 1)=1:=by show MQ (y::ys).length 0 (some ((1:Nat):Int))=1;rw[Ng,aA];lia
 refine⟨?_,fun h=>by rw[e]at h;exact absurd h.1 (by decide)⟩;unfold rb;rw[e,M0,List.drop_succ_cons,cc,aA,df,bx]
def JM (ρ:Ro) (h:ρ.ok):inV (.str ρ.s) [.str "num",.str "name"]=(match ρ with| .num _=>true| .name _=>true|_=>false):=by
 cases ρ with
 |op s ks=>have hs:s∈plain:=h.1;show inV (.str s) _=false;simp only[plain,ak,bG,or_false]at hs;rcases hs with rfl|rfl|rfl|rfl|rfl|rfl|rfl<;>decide+kernel
 |_=>simp only[Ro.s];decide+kernel
def xK:Sp:=fun vs H Q _=>X2 fun(t:Zx) (ρ:Ro)=>Y4 (vs=[.ref t]) (Im H (.ref t) ρ.d) (ρ.ok) (∀l H',gE H H'->H l=none->H' l=some (.lst ρ.pt)->Q (.ref l) H')
def xM (T:Txt K mg):FO P w base 5 T.d1 xK:=by
 have gD3:=E3 (P:=P) (w:=w) (base:=base) T 3;refine T.d1.F.rd xy fun _ A _ s H vs Q E hr h=>?_;obtain⟨t,ρ,rfl,hi,ho,q⟩:=h;refine⟨_,(fN (gJ (gb vU (gf gy (cv 0) fQ) (ie (fM fX (fM fX fO))) rfl)
   (fU (gj (gq fO)))
   gi)
  (fU (gj (pF T.d3 gD3 hr.m (fM (kz GS (cv 0) (lQ fQ) lP) fO))))),?_⟩;have sl:=Lc;obtain⟨f1,f2,f3⟩:=ρ.fl ho
 cases hi with
 |@tup _ ys _ et hs=>
  cases hs with
  |@cons y _ ys _ h1 hs=>
   cases h1;refine⟨_,et,fY (fV (j:=0) rfl) ?_⟩;refine⟨lZ,fun p hp=>⟨p,[.str "num",.str "name"],rfl,.inr (MI fS),rfl,rfl,?_⟩⟩;have s1:=fW hp (.tup [.str "num",.str "name"]);generalize upd H p (.tup [.str "num",.str "name"])=H1 at s1⊢;dsimp only[onB];rw[show(if false=true then !inV (.str ρ.s) [.str "num",.str "name"]else inV (.str ρ.s) [.str "num",.str "name"])=_ from JM ρ ho];have yes:ρ.pt=[]->(Ga (GL yt) {nx:=fun _ H'=>Q .non H',rt:=Q}:St->Hp->Prop) [some (.ref t)] H1:=fun e=>⟨qC,fun l hl=>q l _ (s1.trans (fW hl _)) (s1.free hl) (by rw[fS,e])⟩;have no:ρ.pt=jA ρ.r->∃n:Int,V.int 1= .int n/\∃a xs,V.ref t= .ref a/\SqT K H1 a xs/\¬(MQ xs.length 0 (some n)=0/\MQ xs.length xs.length none=xs.length)/\∀pc,H1 pc=none->Bs 3 [.ref pc] (upd H1 pc (.tup (rb xs (some n) none))) Q E:=fun e=>by obtain⟨c1,c2⟩:=JL (.str ρ.s) ys;refine⟨1,rfl,t,_,rfl,MI (s1 _ _ et),c2,fun pc hpc=>?_⟩;rw[c1];have s2:=fW hpc (.tup ys);exact⟨pc,ys,ρ.r,rfl,fS,hs.mono (gE.tk (s1.trans s2)),f1,f2,f3,fun l H' S hl e'=>q l H' ((s1.trans s2).trans S) ((s1.trans s2).free hl) (by rw[e',e])⟩
   cases ρ with
   |num n=>exact iC (yes rfl)
   |name n=>exact iC (yes rfl)
   |fn a b=>exact gX (no rfl)
   |tag a b=>exact gX (no rfl)
   |lt a b c=>exact gX (no rfl)
   |get a b=>exact gX (no rfl)
   |rcd a=>exact gX (no rfl)
   |case a b=>exact gX (no rfl)
   |row a=>exact gX (no rfl)
   |op a b=>exact gX (no rfl)
def Hy {J:It} {xs:List V} {i:Nat} {tt:TT} {te:TE} {Q:VK} {τ:St} {H1:Hp} {D:Zx} (p:V->Bool) (g:V->V) (hD:H1 D=none) (hz:xs.length<=sizeLine) (hτ:τ.set i none=τ)
  (hgo:∀k H,gE H1 H->k<xs.length->J.go k H) (hy:∀k H v H',gE H1 H->k<xs.length->J.yld k H v H'->H'=H/\xs[k]?=some v) (hst:∀H,gE H1 H->J.stop xs.length H)
  (htt:∀(k:Nat) v H R,xs[k]?=some v->gE H1 H->R (p v) H->tt (τ.set i (some v)) H R)
  (hte:∀(k:Nat) v H R,xs[k]?=some v->p v=true->gE H1 H->R (g v) H->te (τ.set i (some v)) H R)
  (hq:∀H',gE H1 H'->H' D=some (.lst ((xs.filter p).map g))->Q (.ref D) H'):LcP J i tt te Q τ H1 D:=by
 have sm:∀o,gE H1 (upd H1 D o):=fun o b u e=>by rw[f9 (fZ e hD)];exact e
 refine⟨fun k m σ' H2=>Y4 (m=xs.length-k) (k<=xs.length) ((∃o,σ'=τ.set i o)) (H2=upd H1 D (.lst (((xs.take k).filter p).map g))),⟨xs.length,by simp,cJ _,⟨none,hτ.symm⟩,by simp⟩,?_⟩;rintro k m σ' H2 ⟨rfl,hk,⟨o,rfl⟩,rfl⟩;by_cases hlt:k<xs.length
 ·refine .inr ⟨hgo k _ (sm _) hlt,fun v H3 y=>?_⟩;obtain⟨e,hv⟩:=hy k _ v H3 (sm _) hlt y;subst e;rw[bu];refine htt k v _ _ hv (sm _) ?_;have tk:(xs.take (k+ 1)).filter p=(xs.take k).filter p++(if p v then[v]else[]):=take_succ_filter p xs k v hv;have ll:((xs.take k).filter p).length<=k:=by refine cE (bw _ _) ?_;rw[aK];lia
  cases hp:p v with
  |true=>rw[gT rfl];refine hte k v _ _ hv hp (sm _) ?_;refine⟨_,fS,by rw[aD];lia,xs.length-(k+ 1),by lia,rfl,hlt,⟨some v,rfl⟩,?_⟩;rw[uo,tk,hp,gT rfl,bo];rfl
  |false=>rw[gN eV];refine⟨xs.length-(k+ 1),by lia,rfl,hlt,⟨some v,rfl⟩,?_⟩;rw[tk,hp,gN eV,aE]
 ·have e:k=xs.length:=by lia
  subst e;refine .inl ⟨hst _ (sm _),hq _ (sm _) ?_⟩;rw[fS,bx]
def isI:V->Bool
 | .int _=>true
 |_=>false
theorem Bt:∀ks:List Int,(ks.map V.int).filter isI=ks.map V.int
 |[]=>rfl
 |k::ks=>by rw[aC,List.filter_cons_of_pos rfl,Bt ks]
theorem DM:∀l:List (Str×Int),(jA (l.map fdD)).filter isI=(l.map LD).map V.int
 |[]=>by simp[jA]
 |p::l=>by have:=DM l;rw[aC,jA,bN,this];rfl
theorem DN:∀l:List (Str×Str×Int),(jA (l.map amD)).filter isI=(l.map fun p=>p.2.2).map V.int
 |[]=>by simp[jA]
 |p::l=>by have:=DN l;rw[aC,jA,bN,this];rfl
def Ro.pt_pl (ρ:Ro):ρ.pt.filter isI=ρ.pl.map V.int:=by
 cases ρ with
 |rcd l=>show(jA [.tup (l.map fdD)]).filter isI=_;rw[jA,flV,jA,aE];exact DM l
 |case k l=>show(jA [kD k,.tup (l.map amD)]).filter isI=_;rw[jA,jA,jA,flV,aE,bN,DN l];rfl
 |row ks=>show(jA [.tup (ks.map kD)]).filter isI=_;rw[jA,flV,jA,aE,(zX ks).2.1];exact Bt ks
 |op s ks=>show(jA (ks.map kD)).filter isI=_;rw[(zX ks).2.1];exact Bt ks
 |_=>rfl
def Ro.pt_le (ρ:Ro) (h:ρ.ok):ρ.pt.length<=10000:=by
 have:=(ρ.fl h).2.2
 cases ρ with
 |num n=>exact cJ _
 |name n=>exact cJ _
 |_=>exact this
def Hz:∀(d:Dt),okF d=true->∀v∈flV d,(∃n,v= .int n)\/∃s,v= .str s:=by
 intro d;refine Dt.rec (motive_1:=fun d=>okF d=true->∀v∈flV d,(∃n,v= .int n)\/∃s,v= .str s) (motive_2:=fun ds=>qM ds=true->∀v∈jA ds,(∃n,v= .int n)\/∃s,v= .str s) ?_ ?_ ?_ ?_ ?_ d;·intro v h x hx;rw[flV,bj]at hx;subst hx;cases x<;>first|exact .inl ⟨_,rfl⟩|exact .inr ⟨_,rfl⟩|simp[okF]at h
 ·intro ds ih h v hv;rw[flV]at hv;rw[okF]at h;exact ih h v hv
 ·intro ds ih h;rw[okF]at h;cases h
 ·intro _ v hv;rw[jA]at hv;cases hv
 ·intro d ds h1 h2 h v hv;rw[jA]at hv;rw[qM,eX]at h;rcases ao.mp hv with hv|hv;·exact h1 h.1 v hv
  ·exact h2 h.2 v hv
def Ro.pt_is (ρ:Ro) (h:ρ.ok):∀v∈ρ.pt,(∃n,v= .int n)\/∃s,v= .str s:=by
 have h1:=(ρ.fl h).1;have h2:=Hz (.tup ρ.r) (by rw[okF];exact h1);rw[flV]at h2
 cases ρ with
 |num n=>intro v hv;cases hv
 |name n=>intro v hv;cases hv
 |_=>exact h2
def wu:Sp:=fun vs H Q _=>X2 fun(t:Zx) (ρ:Ro)=>Y4 (vs=[.ref t]) (Im H (.ref t) ρ.d) (ρ.ok) (∀l H',gE H H'->H l=none->H' l=some (.lst (ρ.pl.map V.int))->Q (.ref l) H')
def qN (T:Txt K mg):FO P w base 6 T.d2 wu:=by
 refine T.d2.F.rd wg fun _ A _ s H vs Q E hr h=>?_;obtain⟨t,ρ,rfl,hi,ho,q⟩:=h;refine⟨_,(fU (gj (tj rfl (Gb (x:="part") rfl gA gA rfl rfl) (mq (pF T.d1 (xM T) hr.m (fM (cv 0) fO))) (fun _ _ _ _ _=>(AR (iL (gC (r:=rIsi K) lH rfl T.z_isinstance iM (fM (cv 0) (fM (rO rfl T.z_int yx) fO)))))) (fun _ _ _ _ _=>(cv 0))))),?_⟩;have sl:=Lc;have lp:=ρ.pt_le ho;refine⟨t,ρ,rfl,hi,ho,fun l H1 S1 hl e1=>⟨l,rfl,⟨_,MD e1⟩,fun D hD=>?_⟩⟩;refine Hy (xs:=ρ.pt) isI id hD (by lia) rfl (fun k H S h=>Hh e1 S h) (fun k H v H' S h y=>⟨y.1,y.2 _ (MD (S _ _ e1))⟩) (fun H S=>Hi e1 S) ?_ ?_ ?_
 ·intro k v H2 R hv S hR;rcases ρ.pt_is ho v (aP hv)with⟨n,rfl⟩|⟨x,rfl⟩;·exact⟨_,_,_,_,true,rfl,fun _ r=>r,.int n,rfl,_,rfl,hR⟩
  ·exact⟨_,_,_,_,false,rfl,fun _ r=>r,.str x,rfl,_,rfl,hR⟩
 ·intro k v H2 R hv hp S hR;exact hR
 ·intro H' S e;rw[List.map_id,ρ.pt_pl]at e;exact q D H' (S1.trans S) (S1.free hD) e
def Ro.ws:Ro->List Str
 | .rcd l=>l.map Ld
 | .case _ l=>l.map Ld
 |_=>[]
def Ro.ws_nd (ρ:Ro) (h:ρ.ok):ρ.ws.Nodup/\ρ.ws.length<=100:=by
 cases ρ with
 |rcd l=>exact⟨h.2,by show(l.map Ld).length<=_;rw[aD];exact h.1⟩
 |case k l=>exact⟨h.2,by show(l.map Ld).length<=_;rw[aD];exact h.1⟩
 |_=>exact⟨cg,cJ _⟩
def oj (ρ:Ro) (h:ρ.ok) (x:Str) (hx:x∈(["rec","case","fn","let","name","num"]:Zd)):(∃s ks,ρ= .op s ks)->decide (ρ.s=x)=false:=by rintro⟨s,ks,rfl⟩;have hs:s∈plain:=h.1;show decide (s=x)=false;simp only[plain,ak,bG,or_false]at hs hx;rcases hs with rfl|rfl|rfl|rfl|rfl|rfl|rfl<;>rcases hx with rfl|rfl|rfl|rfl|rfl|rfl<;>decide+kernel
def Ro.isR:Ro->Bool
 | .rcd _=>true
 |_=>false
def Ro.isC:Ro->Bool
 | .case _ _=>true
 |_=>false
def Ro.isF:Ro->Bool
 | .fn _ _=>true
 |_=>false
def Ro.isL:Ro->Bool
 | .lt _ _ _=>true
 |_=>false
def Ro.hd (ρ:Ro) (h:ρ.ok):decide (ρ.s="rec")=ρ.isR/\decide (ρ.s="case")=ρ.isC/\decide (ρ.s="fn")=ρ.isF/\decide (ρ.s="let")=ρ.isL:=by
 cases ρ with
 |op s ks=>exact⟨oj _ h _ gA ⟨s,ks,rfl⟩,oj _ h _ gA ⟨s,ks,rfl⟩,oj _ h _ gA ⟨s,ks,rfl⟩,oj _ h _ gA ⟨s,ks,rfl⟩⟩
 |num a=>exact(show decide (("num":Str)="rec")=false/\decide (("num":Str)="case")=false/\decide (("num":Str)="fn")=false/\decide (("num":Str)="let")=false from by decide+kernel)
 |name a=>exact(show decide (("name":Str)="rec")=false/\decide (("name":Str)="case")=false/\decide (("name":Str)="fn")=false/\decide (("name":Str)="let")=false from by decide+kernel)
 |fn a b=>exact(show decide (("fn":Str)="rec")=false/\decide (("fn":Str)="case")=false/\decide (("fn":Str)="fn")=true/\decide (("fn":Str)="let")=false from by decide+kernel)
 |tag a b=>exact(show decide (("tag":Str)="rec")=false/\decide (("tag":Str)="case")=false/\decide (("tag":Str)="fn")=false/\decide (("tag":Str)="let")=false from by decide+kernel)
 |lt a b c=>exact(show decide (("let":Str)="rec")=false/\decide (("let":Str)="case")=false/\decide (("let":Str)="fn")=false/\decide (("let":Str)="let")=true from by decide+kernel)
 |get a b=>exact(show decide (("get":Str)="rec")=false/\decide (("get":Str)="case")=false/\decide (("get":Str)="fn")=false/\decide (("get":Str)="let")=false from by decide+kernel)
 |rcd a=>exact(show decide (("rec":Str)="rec")=true/\decide (("rec":Str)="case")=false/\decide (("rec":Str)="fn")=false/\decide (("rec":Str)="let")=false from by decide+kernel)
 |case a b=>exact(show decide (("case":Str)="rec")=false/\decide (("case":Str)="case")=true/\decide (("case":Str)="fn")=false/\decide (("case":Str)="let")=false from by decide+kernel)
 |row a=>exact(show decide (("row":Str)="rec")=false/\decide (("row":Str)="case")=false/\decide (("row":Str)="fn")=false/\decide (("row":Str)="let")=false from by decide+kernel)
def yP {a:Zx} {te:TE} {Q:VK} {τ:St} {H1:Hp} {D:Zx} {xs:List V} {α:Type} {f:α->Dt} {g:α->Str} {l:List α} (e:H1 a=some (.tup xs)) (I:Ims H1 xs (l.map f)) (hn:l.length<=100) (hD:H1 D=none) (hτ:τ.set 0 none=τ)
  (ht:∀(x:α) (v:V) H (R:VK),Im H v (f x)->R (.str (g x)) H->te (τ.set 0 (some v)) H R)
  (hq:∀H',gE H1 H'->H' D=some (.lst ((l.map g).map V.str))->Q (.ref D) H'):LcP (Itt K a) 0 uB te Q τ H1 D:=by
 have sl:=Lc;have lx:=I.length;rw[aD]at lx;refine rR l.length (by lia) (fun ys H=>ys=((l.take ys.length).map g).map V.str) (fun xs H H' h _=>h) hD hτ (fun k H S h=>A6 e S (by lia)) (fun H S=>by rw[<-lx];exact A7 e S) rfl ?_ ?_;·intro k H v H3 ys Z S hk y hys hl hz;obtain⟨rfl,hv⟩:=y;have hv:=hv _ (MI (S _ _ e));obtain⟨d,hd,him⟩:=kg I hv;rw[aO]at hd;obtain⟨x,hx⟩:∃x,l[k]?=some x:=⟨_,bE hk⟩;rw[hx]at hd;cases hd;refine ht x v H3 Z (him.mono (gE.tk S)) (hz _ _ (gE.refl _) ?_);rw[aQ,hl,ba,b6,hx,bo,bo,<-hl,<-hys];rfl
 ·intro H' ys S hys hl e';rw[hl,bx]at hys;exact hq H' S (by rw[e',hys])
def uV:Sp:=fun vs H Q _=>X2 fun(t:Zx) (ρ:Ro)=>Y4 (vs=[.ref t]) (Im H (.ref t) ρ.d) (ρ.ok) (∀l H',gE H H'->H l=none->H' l=some (.lst (ρ.ws.map V.str))->Q (.ref l) H')
def uW (T:Txt K mg):FO P w base 1 T.d31 uV:=by
 refine T.d31.F.rd uR fun _ A _ s H vs Q E hr h=>?_;obtain⟨t,ρ,rfl,hi,ho,q⟩:=h;refine⟨_,(fN (gJ (gb iA (gf gy (cv 0) fQ) fX)
   (fU (gj (tj rfl (Gb (x:="field") rfl gA gA rfl rfl) (rB (gf gy (cv 0) fQ)) (fun _ _ _ _ _=>mC) (fun _ _ _ _ _=>(gf gy (cv 0) fQ)))))
   gi)
  (fN (gJ (gb iA (gf gy (cv 0) fQ) fX)
   (fU (gj (tj rfl (Gb (x:="arm") rfl gA gA rfl rfl) (rB (gf gy (cv 0) fQ)) (fun _ _ _ _ _=>mC) (fun _ _ _ _ _=>(gf gy (cv 0) fQ)))))
   gi)
  (fU (gj (gq fO))))),?_⟩;have sl:=Lc;obtain⟨h1,h2,_,_⟩:=ρ.hd ho
 cases hi with
 |@tup _ ys _ et hs=>
  cases hs with
  |@cons y _ ys _ hy hs=>
   cases hy;refine⟨_,et,fY (fV (j:=0) rfl) ?_⟩;dsimp only[tC,cEq,onB];rw[eZ,h1];have non:ρ.ws=[]->(Ga (GL yt) {nx:=fun _ H'=>Q .non H',rt:=Q}:St->Hp->Prop) [some (.ref t)] H:=fun e=>⟨qC,fun l hl=>q l _ (fW hl _) hl (by rw[fS,e];rfl)⟩
   cases ρ with
   |rcd l=>
    refine iC ?_
    cases hs with
    |cons hx _=>
     cases hx with
     |@tup ta xs _ eta hxs=>
      refine⟨_,et,fY (fV (j:=1) rfl) ⟨ta,rfl,⟨_,MI eta⟩,fun D hD=>?_⟩⟩;refine yP (f:=fdD) (g:=Ld) eta hxs ho.1 hD rfl ?_ (fun H' S e=>q D H' S hD e);intro x v H2 R hv hR
      cases hv with
      |tup ev hvs=>
       cases hvs with
       |cons a _=>cases a;exact⟨_,ev,fY (fV (j:=0) rfl) hR⟩
   |case k l=>
    refine gX ⟨_,et,fY (fV (j:=0) rfl) ?_⟩;dsimp only[tC,cEq,onB];rw[eZ,h2];refine iC ?_
    cases hs with
    |cons _ hs=>
     cases hs with
     |cons hx _=>
      cases hx with
      |@tup ta xs _ eta hxs=>
       refine⟨_,et,fY (fV (j:=2) rfl) ⟨ta,rfl,⟨_,MI eta⟩,fun D hD=>?_⟩⟩;refine yP (f:=amD) (g:=Ld) eta hxs ho.1 hD rfl ?_ (fun H' S e=>q D H' S hD e);intro x v H2 R hv hR
       cases hv with
       |tup ev hvs=>
        cases hvs with
        |cons a _=>cases a;exact⟨_,ev,fY (fV (j:=0) rfl) hR⟩
   |_=>refine gX ⟨_,et,fY (fV (j:=0) rfl) ?_⟩;dsimp only[tC,cEq,onB];rw[eZ,h2];exact gX (non rfl)
def exG (g:Str->Option Hm):Option (Str×Hm)->(Str->Option Hm)
 |none=>g
 |some (x,h)=>wid g x h
def Ro.ex:Ro->List (Option (Str×Hm))
 | .fn w k=>[some (w,("fn",k))]
 | .lt w a _=>[none,some (w,("let",a))]
 | .case _ l=>none::l.map fun p=>some (p.2.1,("arm",p.2.2))
 |ρ=>ρ.pl.map fun _=>none
def Sc.le {H:Hp} {a:Zx} {g:Str->Option Hm} {n m:Nat} (h:Sc H a g n) (l:n<=m):Sc H a g m:=by obtain⟨kvs,e,l',h⟩:=h;exact⟨kvs,e,cE l' l,h⟩
def Sc.upd {H:Hp} {a d:Zx} {g:Str->Option Hm} {n:Nat} {kv:List (Key×V)} {o:HO} (h:Sc H a g n) (e:H d=some (.dK kv)) (ne:a≠d):Sc (MB H d o) a g n:=by
 obtain⟨kvs,e1,l,h⟩:=h;refine⟨kvs,by rw[f9 ne];exact e1,l,fun w=>?_⟩;have:=h w
 cases hg:g w with
 |none=>rw[hg]at this;exact this
 |some z=>rw[hg]at this;obtain⟨t,h1,h2⟩:=this;exact⟨t,h1,by rw[f9 (kU h2 e (fun z=>nomatch z))];exact h2⟩
def Sc.dk {H:Hp} {a:Zx} {g:Str->Option Hm} {n:Nat} (h:Sc H a g n):∃kv,H a=some (.dK kv):=by obtain⟨kvs,e,_⟩:=h;exact⟨kvs,e⟩
def yQ {kvs:List (Key×V)} {k:Key} (v:V) (hn:(kvs.map (·.1)).Nodup):((mS kvs k v).map (·.1)).Nodup:=by
 cases q:jH kvs k with
 |none=>exact EF v hn q
 |some x=>
  have e:(mS kvs k v).map (·.1)=kvs.map (·.1):=by unfold mS;rw[lG,q];rw[gT (show(some x).isSome=true from rfl),bF];refine bX fun p _=>?_;show(if p.1=k then(p.1,v)else p).1=p.1;split<;>rfl
  rw[e];exact hn
theorem mN:∀(more kvs:List (Key×V)) (k:Key),(more.map (·.1)).Nodup->jH (jP kvs more) k=match jH more k with|some v=>some v|none=>jH kvs k
 |[],kvs,k,_=>rfl
 |p::more,kvs,k,nd=>by
  obtain⟨h1,h2⟩:=aF.mp (show(p.1::more.map (·.1)).Nodup from nd);show jH (jP (mS kvs p.1 p.2) more) k=_;rw[mN more _ k h2];by_cases e:p.1=k
  ·rw[iU e];have:jH more k=none:=by
    cases q:jH more k with
    |none=>rfl
    |some x=>exact absurd (EE q) (by rw[<-e];exact h1)
   rw[this];show jH (mS kvs p.1 p.2) k=some p.2;rw[iP,gT e.symm]
  ·rw[iV e]
   cases q:jH more k with
   |some x=>rfl
   |none=>show jH (mS kvs p.1 p.2) k=jH kvs k;rw[iP,gN (fun z=>e z.symm)]
def InS (W:Zx->Prop) (H:Hp) (kvs:List (Key×V)) (ρ:Ro) (g:Str->Option Hm) (n:Nat):Prop:=∀c:Int,(jH kvs (.inl c)=none/\c∉ρ.pl)\/∃(j:Nat) (e:Option (Str×Hm)) (a:Zx),W a/\ρ.pl[j]?=some c/\ρ.ex[j]?=some e/\jH kvs (.inl c)=some (.ref a)/\Sc H a (exG g e) (n+ 1)
def HA {x:Str} {A B u:TS} {D:pT} {σ:St} {H:Hp} {t:Zx} {ys:List V} {s:Str} {b:Bool} (hσ:σ[0]?=some (some (.ref t))) (et:H t=some (.tup (.str s::ys))) (hb:decide (s=x)=b) (k:if b=true then A {D with nx:=u D} σ H else B {D with nx:=u D} σ H):
  xh (z9 (cT (tOp (cEq false) (tOp ES (cV 0) (tC (.int 0))) (tC (.str x)))) A B) u D σ H:=by show onV σ[0]? _;rw[hσ];refine⟨_,et,fY (fV (j:=0) rfl) ?_⟩;dsimp only[tC,cEq,onB];rw[eZ,hb];exact k
def pL {x:Str} {A u:TS} {D:pT} {σ:St} {H:Hp} {t:Zx} {ys:List V} {s:Str} (hσ:σ[0]?=some (some (.ref t))) (et:H t=some (.tup (.str s::ys))) (hb:decide (s=x)=false) (k:u D σ H):
  xh (z9 (cT (tOp (cEq false) (tOp ES (cV 0) (tC (.int 0))) (tC (.str x)))) A lO) u D σ H:=HA hσ et hb (gX k)
def Bu {x:Str} {A B u:TS} {D:pT} {σ:St} {H:Hp} {t:Zx} {ys:List V} {s:Str} (hσ:σ[0]?=some (some (.ref t))) (et:H t=some (.tup (.str s::ys))) (hb:decide (s=x)=true) (k:A {D with nx:=u D} σ H):
  xh (z9 (cT (tOp (cEq false) (tOp ES (cV 0) (tC (.int 0))) (tC (.str x)))) A B) u D σ H:=HA hσ et hb (iC k)
def Ro.pl_le (ρ:Ro) (h:ρ.ok):ρ.pl.length<=101:=by
 cases ρ with
 |rcd l=>show(l.map LD).length<=_;rw[aD];exact cE h.1 (by decide)
 |case k l=>show(k::l.map fun p=>p.2.2).length<=_;rw[aA,aD];have:=h.1;lia
 |row ks=>exact cE h (by decide)
 |op s ks=>exact cE h.2 (by decide)
 |_=>simp[Ro.pl]
def Bv {W:Zx->Prop} {H:Hp} {kvs:List (Key×V)} {ρ:Ro} {g:Str->Option Hm} {n:Nat} {a:Zx} (hW:W a) (hx:ρ.ex=ρ.pl.map fun _=>none) (hs:Sc H a g n) (hv:∀c:Int,jH kvs (.inl c)=if c∈ρ.pl then some (.ref a)else none):InS W H kvs ρ g n:=by
 intro c;by_cases h:c∈ρ.pl;·obtain⟨j,hj⟩:=cj.mp h;exact .inr ⟨j,none,a,hW,hj,by rw[hx,aO,hj];rfl,by rw[hv c,gT h],hs.le (cO _)⟩
 ·exact .inl ⟨by rw[hv c,gN h],h⟩
def sy:Sp:=fun vs H Q _=>X5 fun(t a:Zx) (ρ:Ro) (g:Str->Option Hm) (n:Nat)=>Y6 (vs=[.ref t,.ref a]) (Im H (.ref t) ρ.d) (ρ.ok) (Sc H a g n) (n<9000) (
 ∀d kvs H',gE H H'->H d=none->H' d=some (.dK kvs)->(kvs.map (·.1)).Nodup->kvs.length<=300->InS (fun b=>b=a\/H b=none) H' kvs ρ g n->Q (.ref d) H')
def sA (T:Txt K mg):FO P w base 7 T.d34 sy:=by
 refine T.d34.F.rd jZ fun _ A _ s H vs Q E hr h=>?_;have hu:=vX hr;obtain⟨t,a,ρ,g,n,rfl,hi,ho,hsc,hn,q⟩:=h;refine⟨_,(fN (pS (i:=2) jZ.nd pA)
  (fN (kl Lh rfl (mq (pF T.d2 (qN T) hr.m (fM (cv 0) fO))) (pN (i:=3) jZ.nd)
   (fU (om hu (cv 2) (cv 3) (cv 1) rfl)))
  (fN (gJ (gb iA (gf gy (cv 0) fQ) fX)
   (fU (om hu (cv 2) (gf gy (cv 0) fQ) (pF T.d35 (ue T) hr.m (fM (cv 1) (fM (gf gy (cv 0) fQ) (fM (ie (fM fX (fM (gf gy (cv 0) fQ) fO))) fO)))) rfl))
   gi)
  (fN (gJ (gb iA (gf gy (cv 0) fQ) fX)
   (fU (om hu (cv 2) (gf gy (cv 0) fQ) (pF T.d35 (ue T) hr.m (fM (cv 1) (fM (gf gy (cv 0) fQ) (fM (ie (fM fX (fM (gf gy (cv 0) fQ) fO))) fO)))) rfl))
   gi)
  (fN (gJ (gb iA (gf gy (cv 0) fQ) fX)
   (fU (kl Lh rfl (rB (gf gy (cv 0) fQ)) (pN (i:=4) jZ.nd)
    (fU (om hu (cv 2) (gf gy (cv 4) fQ) (pF T.d35 (ue T) hr.m (fM (cv 1) (fM (gf gy (cv 4) fQ) (fM (ie (fM fX (fM (gf gy (cv 4) fQ) fO))) fO)))) rfl))))
   gi)
  (fU (gj (cv 2)))))))),?_⟩;have sl:=Lc;obtain⟨_,h2,h3,h4⟩:=ρ.hd ho;have lp:=ρ.pl_le ho;intro d hd;have s1:=fW hd (.dK []);have ed:(upd H d (.dK [])) d=some (.dK []):=fS;dsimp only[gP];generalize upd H d (.dK [])=H1 at s1 ed⊢;have nad:a≠d:=by obtain⟨kv,e⟩:=hsc.dk;exact fZ e hd
 refine⟨t,ρ,rfl,hi.mono (gE.tk s1),ho,fun l H1' S1 hl e1=>⟨l,rfl,⟨_,MD e1⟩,mv (xs:=ρ.pl.map V.int) (fun i σ H2=>X2 fun(o:Option V) (kvs:List (Key×V))=>Y7 (σ=[some (.ref t),some (.ref a),some (.ref d),o,none]) (gE H H2) (H2 l=some (.lst (ρ.pl.map V.int))) (H2 d=some (.dK kvs)) ((kvs.map (·.1)).Nodup) (kvs.length<=i) (∀c:Int,jH kvs (.inl c)=if c∈ρ.pl.take i then some (.ref a)else none))
  ⟨none,[],rfl,s1.trans S1,e1,S1 _ _ ed,cg,cJ _,fun c=>by rw[List.take_zero,gN bG];rfl⟩ (fun i σ H2 _ ⟨_,_,_,_,e,_,_,_,_⟩=>MD e) ?_ ?_⟩⟩
 ·rintro i v σ H2 hv ⟨o,kvs,rfl,S,el,ek,nd,hk,hc⟩;rw[aO]at hv;obtain⟨c,hcc,rfl⟩:=dy.mp hv;have hi:=(au.mp hcc).1;have nld:l≠d:=(fZ ed hl).symm;refine⟨d,_,rfl,Aa.k (k:=LU c) ek (by lia),_,_,rfl,gZ S hd _,by rw[f9 nld];exact el,fS,yQ _ nd,cE (ig _ _ _) (by lia),fun c'=>?_⟩;rw[iP,b6,hcc];by_cases z:c'=c;·rw[gT (by rw[z]),gT (by simp[z])]
  ·rw[gN (fun y=>z (by injection y)),hc c'];simp[z]
 ·rintro σ H2 ⟨o,kvs,rfl,S,el,ek,nd,hk,hc⟩;rw[aD,bx]at hc;rw[aD]at hk;have hi2:=hi;have hsc2:=hsc.same S;have fin:∀{o3 o4:Option V} {H3:Hp} {kvs:List (Key×V)},gE H H3->H3 d=some (.dK kvs)->(kvs.map (·.1)).Nodup->kvs.length<=300->InS (fun b=>b=a\/H b=none) H3 kvs ρ g n->(Ga (cV 2) {nx:=fun _ H'=>Q .non H',rt:=Q}:St->Hp->Prop) [some (.ref t),some (.ref a),some (.ref d),o3,o4] H3:=fun S3 e3 n3 l3 i3=>q d _ _ S3 hd e3 n3 l3 i3
  cases hi2 with
  |@tup _ ys _ et0 hs=>
   have et:=S _ _ et0
   cases hs with
   |@cons y _ ys _ hy hs=>
    cases hy;dsimp only
    cases ρ with
    |fn x k=>
     cases hs with
     |cons a1 hs=>
      cases hs with
      |cons a2 hs=>
       cases a1;cases a2;cases hs;refine Bu rfl et h3 ⟨_,et,fY (fV (j:=1) rfl) ⟨_,et,fY (fV (j:=2) rfl) ⟨lZ,fun p hp=>?_⟩⟩⟩;have sp:=fW hp (.tup [.str "fn",.int k]);refine⟨a,p,g,n,x,("fn",k),rfl,hsc2.same sp,by lia,fS,fun b H4 S4 hb sc4=>?_⟩;have S24:=sp.trans S4;refine⟨_,S24 _ _ et,fY (fV (j:=2) rfl) ⟨d,_,rfl,Aa.k (k:=LU k) (S24 _ _ ek) (by lia),?_⟩⟩;have nbd:b≠d:=(fZ (sp _ _ ek) hb).symm;have et5:(upd H4 d (.dK (mS kvs (LU k) (.ref b)))) t=some (.tup (.str "fn"::[.str x,.int k])):=by rw[f9 (kU (S24 _ _ et) (S24 _ _ ek) (fun z=>nomatch z))];exact S24 _ _ et
       dsimp only;refine pL rfl et5 h4 (pL rfl et5 h2 (fin (gZ (S.trans S24) hd _) fS (yQ _ nd) (cE (ig _ _ _) (by lia)) fun c=>?_));by_cases z:c=k;·exact .inr ⟨0,_,b,.inr ((S.trans sp).free hb),by rw[z];rfl,rfl,by rw[iP,gT (by rw[z])],sc4.upd (S24 _ _ ek) nbd⟩
       ·exact .inl ⟨by rw[iP,gN (fun y=>z (by injection y)),hc c,gN (by simpa[Ro.pl]using z)],by simpa[Ro.pl]using z⟩
    |lt x k1 k2=>
     refine pL rfl et h3 ?_
     cases hs with
     |cons a1 hs=>
      cases hs with
      |cons a2 hs=>
       cases hs with
       |cons a3 hs=>
        cases a1;cases a2;cases a3;cases hs;refine Bu rfl et h4 ⟨_,et,fY (fV (j:=1) rfl) ⟨_,et,fY (fV (j:=2) rfl) ⟨lZ,fun p hp=>?_⟩⟩⟩;have sp:=fW hp (.tup [.str "let",.int k1]);refine⟨a,p,g,n,x,("let",k1),rfl,hsc2.same sp,by lia,fS,fun b H4 S4 hb sc4=>?_⟩;have S24:=sp.trans S4;refine⟨_,S24 _ _ et,fY (fV (j:=3) rfl) ⟨d,_,rfl,Aa.k (k:=LU k2) (S24 _ _ ek) (by lia),?_⟩⟩;have nbd:b≠d:=(fZ (sp _ _ ek) hb).symm;have et5:(upd H4 d (.dK (mS kvs (LU k2) (.ref b)))) t=some (.tup (.str "let"::[.str x,.int k1,.int k2])):=by rw[f9 (kU (S24 _ _ et) (S24 _ _ ek) (fun z=>nomatch z))];exact S24 _ _ et
        dsimp only;refine pL rfl et5 h2 (fin (gZ (S.trans S24) hd _) fS (yQ _ nd) (cE (ig _ _ _) (by lia)) fun c=>?_);by_cases z:c=k2;·exact .inr ⟨1,_,b,.inr ((S.trans sp).free hb),by rw[z];rfl,rfl,by rw[iP,gT (by rw[z])],sc4.upd (S24 _ _ ek) nbd⟩
        ·by_cases z1:c=k1;·exact .inr ⟨0,_,a,.inl rfl,by rw[z1];rfl,rfl,by rw[iP,gN (fun y=>z (by injection y)),hc c,gT (by simp[Ro.pl,z1])],((hsc2.same S24).upd (S24 _ _ ek) nad).le (cO _)⟩
         ·exact .inl ⟨by rw[iP,gN (fun y=>z (by injection y)),hc c,gN (by simp[Ro.pl,z,z1])],by simp[Ro.pl,z,z1]⟩
    |case k0 l=>
     refine pL rfl et h3 (pL rfl et h4 ?_)
     cases hs with
     |cons a1 hs=>
      cases hs with
      |cons a2 hs=>
       cases a1;cases hs
       cases a2 with
       |@tup ta xs _ eta hxs=>
        have lx:=hxs.length;rw[aD]at lx;have hl100:l.length<=100:=ho.1;refine Bu rfl et h2 ⟨_,et,fY (fV (j:=2) rfl) ⟨ta,rfl,⟨_,MI (S _ _ eta)⟩,xo (xs:=xs) (fun i σ H3=>X2 fun(o4:Option V) (kvs:List (Key×V))=>Y6 (σ=[some (.ref t),some (.ref a),some (.ref d),o,o4]) (gE H H3) (H3 d=some (.dK kvs)) ((kvs.map (·.1)).Nodup) (kvs.length<=101+i) (∀c:Int,(∃(j:Nat) (p:Str×Str×Int) (b:Zx),j<i/\l[j]?=some p/\p.2.2=c/\jH kvs (.inl c)=some (.ref b)/\(b≠d/\H b=none)/\Sc H3 b (wid g p.2.1 ("arm",c)) (n+ 1))\/((∀(j:Nat) (p:Str×Str×Int),j<i->l[j]?=some p->p.2.2≠c)/\jH kvs (.inl c)=if c∈(Ro.case k0 l).pl then some (.ref a)else none)))
         ⟨none,kvs,rfl,S,ek,nd,by lia,fun c=> .inr ⟨fun j p hj=>absurd hj (da _),hc c⟩⟩ (fun i σ H3 _ ⟨_,_,_,S3,_,_,_,_⟩=>MI (S3 _ _ eta)) ?_ ?_⟩⟩
        ·rintro i v σ H3 hv ⟨o4,kvs,rfl,S3,ek,nd,hk,hc⟩;obtain⟨dd,hdd,him⟩:=kg hxs hv;rw[aO]at hdd;obtain⟨⟨tg,x,kk⟩,hp,rfl⟩:=dy.mp hdd;have hi:=(au.mp hp).1
         cases him with
         |@tup tb _ _ eb hb=>
          cases hb with
          |cons b1 hb=>
           cases hb with
           |cons b2 hb=>
            cases hb with
            |cons b3 hb=>
             cases b1;cases b2;cases b3;cases hb;refine⟨_,S3 _ _ eb,fY (fV (j:=1) rfl) ⟨_,S3 _ _ eb,fY (fV (j:=2) rfl) ⟨lZ,fun p hp'=>?_⟩⟩⟩;have sp:=fW hp' (.tup [.str "arm",.int kk]);refine⟨a,p,g,n,x,("arm",kk),rfl,(hsc.same S3).same sp,by lia,fS,fun b H4 S4 hb sc4=>?_⟩;have S34:=sp.trans S4;refine⟨_,S34 _ _ (S3 _ _ eb),fY (fV (j:=2) rfl) ⟨d,_,rfl,Aa.k (k:=LU kk) (S34 _ _ ek) (by lia),?_⟩⟩;have nbd:b≠d:=(fZ (sp _ _ ek) hb).symm;refine⟨_,_,rfl,gZ (S3.trans S34) hd _,fS,yQ _ nd,cE (ig _ _ _) (by lia),fun c=>?_⟩;by_cases z:c=kk;·exact .inl ⟨i,_,b,cM _,hp,z.symm,by rw[iP,gT (by rw[z])],⟨nbd,(S3.trans sp).free hb⟩,by rw[z];exact sc4.upd (S34 _ _ ek) nbd⟩
             ·rcases hc c with⟨j,p,b',c1,c2,c3,c4,c5,c6⟩|⟨c1,c2⟩;·exact .inl ⟨j,p,b',cP c1,c2,c3,by rw[iP,gN (fun y=>z (by injection y))];exact c4,c5,(c6.same S34).upd (S34 _ _ ek) c5.1⟩
              ·refine .inr ⟨fun j p hj hp2=>?_,by rw[iP,gN (fun y=>z (by injection y))];exact c2⟩;by_cases e:j=i;·rw[e,hp]at hp2;cases hp2;exact fun y=>z y.symm
               ·exact c1 j p (by lia) hp2
        ·rintro σ H3 ⟨o4,kvs,rfl,S3,ek,nd,hk,hc⟩;refine fin (o3:=o) (o4:=o4) S3 ek nd (by lia) fun c=>?_;rcases hc c with⟨j,p,b',c1,c2,c3,c4,c5,c6⟩|⟨c1,c2⟩
         ·refine .inr ⟨j+ 1,some (p.2.1,("arm",p.2.2)),b',.inr c5.2,?_,?_,c4,?_⟩;·show(k0::l.map fun p=>p.2.2)[j+ 1]?=_;rw[bH,aO,c2,<-c3];rfl
          ·show(none::l.map fun p=>some (p.2.1,(("arm":Str),p.2.2)))[j+ 1]?=_;rw[bH,aO,c2];rfl
          ·rw[c3];exact c6
         ·by_cases z:c=k0;·exact .inr ⟨0,none,a,.inl rfl,by rw[z];rfl,rfl,by rw[c2,gT (by simp[Ro.pl,z])],(hsc.same S3).le (cO _)⟩
          ·have nm:c∉(Ro.case k0 l).pl:=fun hm=>by
            rcases ak.mp (show c∈(k0::l.map fun p=>p.2.2)from hm)with h|h;·exact z h
            ·obtain⟨p,hp,e⟩:=bf.mp h;obtain⟨j,hj⟩:=cj.mp hp;exact c1 j p (by rw[lx];exact(au.mp hj).1) hj e
           exact .inl ⟨by rw[c2,gN nm],nm⟩
    |_=>exact pL rfl et h3 (pL rfl et h4 (pL rfl et h2 (fin S ek nd (by lia) (Bv (.inl rfl) rfl hsc2 hc))))
def yR {K:Zp} {a:Zx} {xs:List V} {g:TG} {tb:TS} {D:pT} {σ:St} {H:Hp} (Pv:Nat->St->Hp->Prop) (h0:Pv 0 σ H) (hl:∀i σ H,i<=xs.length->Pv i σ H->SqL K H a xs)
  (hs:∀(i:Nat) (x:V) (σ:St) (H:Hp) (T:Zx),xs[i]?=some x->Pv i σ H->H T=none->g (.ref T) σ (upd H T (.tup [.int (i:Int),x])) fun σ2 H2=>tb {D with nx:=Pv (i+ 1),ct:=Pv (i+ 1),bk:=D.nx} σ2 H2) (hd:∀σ H,Pv xs.length σ H->D.nx σ H):
  ∃W:Nat->Nat->St->Hp->Prop,(∃m,W 0 m σ H)/\∀i m σ H,W i m σ H->
   ((Ite K a).stop i H/\D.nx σ H)\/((Ite K a).go i H/\∃N:St->Hp->Prop,(∀σ' H',N σ' H'->∃m',m'<m/\W (i+ 1) m' σ' H')/\∀x H',(Ite K a).yld i H x H'->g x σ H' fun σ2 H2=>tb {D with nx:=N,ct:=N,bk:=D.nx} σ2 H2):=by
 refine⟨fun i m σ H=>Y3 (m=xs.length-i) (i<=xs.length) (Pv i σ H),⟨xs.length,by simp,cJ _,h0⟩,?_⟩;rintro i m σ H ⟨rfl,hi,p⟩;have q:=hl i σ H hi p;by_cases hlt:i<xs.length;·refine .inr ⟨⟨xs,xs[i],q,by simp[hlt]⟩,Pv (i+ 1),fun σ' H' p'=>⟨xs.length-(i+ 1),by lia,rfl,hlt,p'⟩,fun v H' y=>?_⟩;obtain⟨T,x,rfl,hT,rfl,hx⟩:=y;exact hs i x σ H T (hx xs q) p hT
 ·have e:i=xs.length:=by lia
  subst e;exact .inl ⟨⟨xs,q,rfl⟩,hd σ H p⟩
def E4 {f:Str} {v:V} {r:List (Str×V)}:aB f ((f,v)::r)=some v:=by rw[bp,show(f==f)=true by simp]
def E5 {f g:Str} {v:V} {r:List (Str×V)} (h:(f==g)=false):aB f ((g,v)::r)=aB f r:=by rw[bp,h]
def fP (n r w:Zx):List (Str×V):=[("names",.ref n),("roots",.ref r),("rows",.ref w)]
def yS (n r w:Zx):(fP n r w).lookup ("names":Str)=some (.ref n):=E4
def yT (n r w:Zx):(fP n r w).lookup ("roots":Str)=some (.ref r):=(E5 gA).trans E4
def oU (n r w:Zx):(fP n r w).lookup ("rows":Str)=some (.ref w):=(E5 gA).trans ((E5 gA).trans E4)
def nI (k:Nat):V:= .int (k:Int)
structure PrA (C:Zx) (H:Hp) (p n r w dx:Zx) (xs:List V) (names:Zd) (roots:List Nat) (ρs:List Ro):Prop where
 o:H p=some (.ins C dx (fP n r w))
 n:H n=some (.lst (names.map V.str))
 r:H r=some (.lst (roots.map nI))
 w:H w=some (.lst xs)
 i:Ims H xs (ρs.map Ro.d)
def PrA.same {C:Zx} {H H':Hp} {p n r w dx:Zx} {xs:List V} {names:Zd} {roots:List Nat} {ρs:List Ro} (h:PrA C H p n r w dx xs names roots ρs) (s:gE H H'):PrA C H' p n r w dx xs names roots ρs:=⟨s _ _ h.o,s _ _ h.n,s _ _ h.r,s _ _ h.w,h.i.mono (gE.tk s)⟩
def G0 (names:Zd):Nat->(Str->Option Hm)
 |0=>fun _=>none
 |d+ 1=>match names[d]? with
  |some x=>wid (G0 names d) x ("def",(d:Int))
  |none=>G0 names d
structure IS (names:Zd) (roots:List Nat) (ρs:List Ro) (out:Nat->Str->Option Hm):Prop where
 nn:names.Nodup
 nl:names.length<=12
 rl:roots.length=names.length
 ok:∀ρ∈ρs,ρ.ok
 pn:ρs.length<=1000
 rlt:∀(i r:Nat),roots[i]?=some r->r<ρs.length
 root:∀(i r:Nat) (ρ:Ro),roots[i]?=some r->ρs[r]?=some ρ->out r=if ρ.isF=true then G0 names (i+ 1)else G0 names i
 kid:∀(k:Nat) (ρ:Ro) (j:Nat) (c:Int) (e:Option (Str×Hm)),ρs[k]?=some ρ->ρ.pl[j]?=some c->ρ.ex[j]?=some e->∃m:Nat,c=(m:Int)/\k<m/\out m=exG (out k) e
 reach:∀k:Nat,k<ρs.length->(∃i:Nat,roots[i]?=some k)\/∃(k':Nat) (ρ:Ro),k'<k/\ρs[k']?=some ρ/\(k:Int)∈ρ.pl
 nm:∀(k:Nat) (x:Str),ρs[k]?=some (.name x)->∃h,out k x=some h
def duo (out:Nat->Str->Option Hm) (k:Nat):Ro->Option Hm
 | .name x=>out k x
 |_=>none
def hoD:Option Hm->Dt
 |none=> .flat .non
 |some h=>hmD h
def uX {H:Hp} {xs:List V} {ρs:List Ro} {k:Nat} {ρ:Ro} (h:Ims H xs (ρs.map Ro.d)) (e:ρs[k]?=some ρ):∃(t:Zx) (ys:List V),xs[k]?=some (.ref t)/\H t=some (.tup (.str ρ.s::ys))/\Ims H ys ρ.r/\Im H (.ref t) ρ.d:=by
 have lx:=h.length;rw[aD]at lx;have hk:=(au.mp e).1;obtain⟨d,hd,him⟩:=kg h (bE (show k<xs.length by lia));rw[aO,e]at hd;cases hd;have h0:xs[k]?=some xs[k]:=bE (by lia);generalize xs[k]=v at h0 him;have him':=him
 cases him with
 |@tup t ys _ et hs=>
  cases hs with
  |cons a hs=>cases a;exact⟨t,_,h0,et,hs,him'⟩
def tH (C:Zx):Sp:=fun vs H Q _=>X10 fun(p n r w dx:Zx) (xs:List V) (names:Zd) (roots:List Nat) (ρs:List Ro) (out:Nat->Str->Option Hm)=>Y4 (vs=[.ref p]) (PrA C H p n r w dx xs names roots ρs) (IS names roots ρs out) (
 ∀d kvs H',gE H H'->H d=none->H' d=some (.dK kvs)->kvs.length<=12->(∀(i c:Nat),roots[i]?=some c->∃a,a≠d/\jH kvs (.inl (c:Int))=some (.ref a)/\Sc H' a (out c) 20)->Q (.ref d) H')
def tI (T:Txt K mg):FO P w base 2 T.d33 (tH T.c7.a):=by
 refine T.d33.F.rd iE fun _ A _ s H vs Q E hr h=>?_;have hu:=vX hr;obtain⟨p,n,r,w,dx,xs,names,roots,ρs,out,rfl,pr,gd,q⟩:=h;refine⟨_,(fN (pS (i:=1) iE.nd pA)
  (fN (pS (i:=2) iE.nd pA)
  (fN (kl Lh rfl (A2 rfl T.z_enumerate (fM (gk T.c7.cl T.n7names (cv 0)) fO)) (Ah rfl (nJ (pN (i:=3) iE.nd) (nJ (pN (i:=4) iE.nd) xn)))
   (fN (pS (i:=5) iE.nd (gf f7 (gk T.c7.cl T.n7roots (cv 0)) (cv 3)))
   (fN (pS (i:=6) iE.nd (pF T.d35 (ue T) hr.m (fM (cv 2) (fM (cv 4) (fM (ie (fM fX (fM (cv 3) fO))) fO)))))
   (fN (om hu (cv 1) (cv 5) (nH (gb iA (gf gy (gf f7 (gk T.c7.cl T.n7rows (cv 0)) (cv 5)) fQ) fX) (cv 6) (cv 2)) rfl)
   (fU (pS (i:=2) iE.nd (cv 6)))))))
  (fU (gj (cv 1)))))),?_⟩;have sl:=Lc;intro d hd;have s1:=fW hd (.dK []);have ed:(upd H d (.dK [])) d=some (.dK []):=fS;dsimp only[gP];generalize upd H d (.dK [])=H1 at s1 ed⊢;intro ae hae;have s2:=fW hae (.dK []);have ea:(upd H1 ae (.dK [])) ae=some (.dK []):=fS;dsimp only[gP];generalize upd H1 ae (.dK [])=H2 at s2 ea⊢;have nad:ae≠d:=(fZ ed hae).symm;have pr2:=pr.same (s1.trans s2);have nl:=gd.nl;refine⟨_,⟨dx,_,pr2.o,yS _ _ _⟩,n,rfl,⟨_,MD pr2.n⟩,yR (xs:=names.map V.str) (fun i σ H3=>∃(o3 o4 o5 o6:Option V) (ae:Zx) (kvs:List (Key×V)),σ=[some (.ref p),some (.ref d),some (.ref ae),o3,o4,o5,o6]/\gE H H3/\H3 d=some (.dK kvs)/\kvs.length<=i/\ae≠d/\Sc H3 ae (G0 names i) i/\∀(i' c:Nat),i'<i->roots[i']?=some c->∃a,a≠d/\jH kvs (.inl (c:Int))=some (.ref a)/\Sc H3 a (out c) 20)
  ⟨none,none,none,none,ae,[],rfl,s1.trans s2,s2 _ _ ed,cH _,nad,⟨[],ea,cH _,fun w=>rfl⟩,fun i' c h=>absurd h (da _)⟩ (fun i σ H3 _ ⟨_,_,_,_,_,_,_,S,_⟩=>MD (S _ _ pr.n)) ?_ ?_⟩
 ·rintro i v σ H3 t hx ⟨o3,o4,o5,o6,ae,kvs,rfl,S,ek,hk,nad,sca,hroots⟩ ht;rw[aO]at hx;obtain⟨x,hx',rfl⟩:=dy.mp hx;clear hx;have hx:=hx';have hi:=(au.mp hx).1;have rl:=gd.rl;obtain⟨c,hc⟩:∃c,roots[i]?=some c:=⟨_,bE (by lia)⟩;have hcl:=gd.rlt i c hc;obtain⟨ρ,hρ⟩:∃ρ,ρs[c]?=some ρ:=⟨_,bE hcl⟩;have sT:=fW ht (.tup [.int (i:Int),.str x]);refine⟨t,_,rfl,MI fS,rfl,_,_,rfl,_,_,rfl,rfl,?_⟩;have S4:=S.trans sT;generalize upd H3 t (.tup [.int (i:Int),.str x])=H4 at sT S4;have pr4:=pr.same S4;have hcI:(roots.map nI)[i]?=some (.int (c:Int)):=by rw[aO,hc];rfl
  refine⟨_,⟨dx,_,pr4.o,yT _ _ _⟩,_,pr4.r,fY (fV hcI) ?_⟩;refine⟨lZ,fun pp hpp=>?_⟩;have s5:=fW hpp (.tup [.str "def",.int (i:Int)]);refine⟨ae,pp,G0 names i,i,x,("def",(i:Int)),rfl,(sca.same sT).same s5,by lia,fS,fun b H6 S6 hb sc6=>?_⟩;have S36:=(sT.trans s5).trans S6;have SH6:=S.trans S36;have pr6:=pr.same SH6;obtain⟨tr,ys,hxt,etr,_,_⟩:=uX pr6.i hρ;refine⟨_,⟨dx,_,pr6.o,oU _ _ _⟩,_,pr6.w,fY (fV hxt) ⟨_,etr,fY (fV (j:=0) rfl) ?_⟩⟩;dsimp only[tC,cEq,onB];obtain⟨_,_,h3,_⟩:=ρ.hd (gd.ok ρ (aP hρ));rw[eZ,h3];have nbd:b≠d:=(fZ (s5 _ _ (sT _ _ ek)) hb).symm;have g1:G0 names (i+ 1)=wid (G0 names i) x ("def",(i:Int)):=by rw[G0,hx]
  have hout:=gd.root i c ρ hc hρ;have nx:∀z:Zx,z≠d->Sc H6 z (out c) 20->∃(a:Zx) (H':Hp),V.ref d= .ref a/\Aa H6 a (.int (c:Int)) (.ref z) H'/\∃(o3 o4 o5 o6:Option V) (ae:Zx) (kvs:List (Key×V)),[some (V.ref p),some (.ref d),some (.ref b),some (.int (i:Int)),some (.str x),some (.int (c:Int)),some (.ref b)]=[some (V.ref p),some (.ref d),some (.ref ae),o3,o4,o5,o6]/\gE H H'/\H' d=some (.dK kvs)/\kvs.length<=i+ 1/\ae≠d/\Sc H' ae (G0 names (i+ 1)) (i+ 1)/\∀(i' c:Nat),i'<i+ 1->roots[i']?=some c->∃a,a≠d/\jH kvs (.inl (c:Int))=some (.ref a)/\Sc H' a (out c) 20:=fun z nzd hz=>by
   have e6:=S36 _ _ ek;refine⟨d,_,rfl,Aa.k (k:=LU (c:Int)) e6 (by lia),_,_,_,_,b,_,rfl,gZ SH6 hd _,fS,cE (ig _ _ _) (by lia),nbd,by rw[g1];exact sc6.upd e6 nbd,fun i' c' hi' hc'=>?_⟩;by_cases y:c'=c;·rw[y];exact⟨z,nzd,by rw[iP,gT rfl],hz.upd e6 nzd⟩
   ·have:i'≠i:=fun z=>y (by rw[z,hc]at hc';exact(dm.inj hc').symm);obtain⟨a,h1,h2,h3⟩:=hroots i' c' (by lia) hc';exact⟨a,h1,by rw[iP,gN (fun z=>y (by injection z with z;lia))];exact h2,(h3.same S36).upd e6 h1⟩
  cases hF:ρ.isF with
  |true=>rw[hF,gT rfl,g1]at hout;exact iC (nx b nbd (by rw[hout];exact sc6.le (by lia)))
  |false=>rw[hF,gN eV]at hout;exact gX (nx ae nad (by rw[hout];exact(sca.same S36).le (by lia)))
 ·rintro σ H3 ⟨o3,o4,o5,o6,ae,kvs,rfl,S,ek,hk,nad,sca,hroots⟩;rw[aD]at hk hroots;refine q d kvs H3 S hd ek (by lia) fun i c hc=>?_;have rl:=gd.rl;exact hroots i c (by have:=(au.mp hc).1;lia) hc
def HoA (H:Hp) (xs:List V) (ρs:List Ro) (out:Nat->Str->Option Hm):Prop:=∀(k:Nat) (x:V) (ρ:Ro),xs[k]?=some x->ρs[k]?=some ρ->Im H x (hoD (duo out k ρ))
def Ro.nm_ne (ρ:Ro) (h:ρ.ok) (hn:∀x,ρ≠ .name x):ρ.s≠"name":=by
 cases ρ with
 |name x=>exact absurd rfl (hn x)
 |op s ks=>exact of_decide_eq_false (oj _ h "name" gA ⟨s,ks,rfl⟩)
 |num a=>exact(show("num":Str)≠"name" from by decide+kernel)
 |fn a b=>exact(show("fn":Str)≠"name" from by decide+kernel)
 |tag a b=>exact(show("tag":Str)≠"name" from by decide+kernel)
 |lt a b c=>exact(show("let":Str)≠"name" from by decide+kernel)
 |get a b=>exact(show("get":Str)≠"name" from by decide+kernel)
 |rcd a=>exact(show("rec":Str)≠"name" from by decide+kernel)
 |case a b=>exact(show("case":Str)≠"name" from by decide+kernel)
 |row a=>exact(show("row":Str)≠"name" from by decide+kernel)
def CW {H H7:Hp} {ρ:Ro} {zs:List V} {out:Nat->Str->Option Hm} {i:Nat} {Qx:VK} (rok:ρ.ok) (hzs:Ims H zs ρ.r) (hn:∀x,ρ= .name x->∃h,out i x=some h) (key:∀y,Im H7 y (hoD (duo out i ρ))->Qx y H7):
  (ρ.s≠"name"->Qx .non H7)/\(ρ.s="name"->∃(x:Str) (h:Hm),zs=[.str x]/\out i x=some h/\∀p,H7 p=some (.tup [.str h.1,.int h.2])->Qx (.ref p) H7):=by
 have no:(∀x,ρ≠ .name x)->duo out i ρ=none->(ρ.s≠"name"->Qx .non H7)/\(ρ.s="name"->∃(x:Str) (h:Hm),zs=[.str x]/\out i x=some h/\∀p,H7 p=some (.tup [.str h.1,.int h.2])->Qx (.ref p) H7):=fun h e=>⟨fun _=>key _ (by rw[e];exact .flat rfl),fun z=>absurd z (ρ.nm_ne rok h)⟩
 cases ρ with
 |name x=>
  refine⟨fun z=>absurd rfl z,fun _=>?_⟩;obtain⟨h,hh⟩:=hn x rfl
  cases hzs with
  |cons a b=>cases a;cases b;refine⟨x,h,rfl,hh,fun p hp=>key _ ?_⟩;show Im H7 _ (hoD (out i x));rw[hh];exact .tup hp (.cons (.flat rfl) (.cons (.flat rfl) .nil))
 |_=>exact no (fun x z=>nomatch z) rfl
def Bw {H H7:Hp} {ρ:Ro} {zs:List V} {out:Nat->Str->Option Hm} {i:Nat} {Qx:VK} {E:XK} {t a:Zx} {n:Nat} {σ:St} (rok:ρ.ok) (hzs:Ims H zs ρ.r) (hn:∀x,ρ= .name x->∃h,out i x=some h) (et:H7 t=some (.tup (.str ρ.s::zs))) (sc:Sc H7 a (out i) n) (h4:σ[4]?=some (some (.ref t))) (h3:σ[3]?=some (some (.int (i:Int)))) (h5:σ[5]?=some (some (.ref a))) (key:∀y,Im H7 y (hoD (duo out i ρ))->Qx y H7):
  Cr uf [] E (kI (cV 4) (kI (cV 3) (kI (cV 5) yt))) σ H7 Qx:=by show onV σ[4]? _;rw[h4];show onV σ[3]? _;rw[h3];show onV σ[5]? _;rw[h5];exact⟨t,a,(i:Int),out i,n,ρ.s,zs,rfl,et,sc,CW rok hzs hn key⟩
def DO {H:Hp} {l:Zx} {u o:HO} (e:H l=some u) (nt:∀zs,u≠ .tup zs):TK H (upd H l o):=fun a xs q=>by rw[f9 (kU q e (fun z=>nt _ z.symm))];exact q
def Sc.updL {H:Hp} {a l:Zx} {g:Str->Option Hm} {n:Nat} {ys:List V} {o:HO} (h:Sc H a g n) (e:H l=some (.lst ys)):Sc (MB H l o) a g n:=by
 obtain⟨kvs,e1,l',h⟩:=h;refine⟨kvs,by rw[f9 (kU e1 e (fun z=>nomatch z))];exact e1,l',fun w=>?_⟩;have:=h w
 cases hg:g w with
 |none=>rw[hg]at this;exact this
 |some z=>rw[hg]at this;obtain⟨t,h1,h2⟩:=this;exact⟨t,h1,by rw[f9 (kU h2 e (fun z=>nomatch z))];exact h2⟩
def xN (C:Zx):Sp:=fun vs H Q _=>X10 fun(p n r w dx:Zx) (xs:List V) (names:Zd) (roots:List Nat) (ρs:List Ro) (out:Nat->Str->Option Hm)=>Y4 (vs=[.ref p]) (PrA C H p n r w dx xs names roots ρs) (IS names roots ρs out) (
 ∀l ys H',gE H H'->H l=none->H' l=some (.lst ys)->ys.length=ρs.length->HoA H' ys ρs out->Q (.ref l) H')
def xO (T:Txt K mg):FO P w base 8 T.d29 (xN T.c7.a):=by
 refine T.d29.F.rd kq fun _ A _ s H vs Q E hr h=>?_;have hu:=vX hr;obtain⟨p,n,r,w,dx,xs,names,roots,ρs,out,rfl,pr,gd,q⟩:=h;refine⟨_,(fN (gv (pF T.d30 (sx T) hr.m (fM (gk T.c7.cl T.n7names (cv 0)) fO)))
  (fN (pS (i:=1) kq.nd (pF T.d33 (tI T) hr.m (fM (cv 0) fO)))
  (fN (pS (i:=2) kq.nd (gq fO))
  (fN (kl Lh rfl (A2 rfl T.z_enumerate (fM (gk T.c7.cl T.n7rows (cv 0)) fO)) (Ah rfl (nJ (pN (i:=3) kq.nd) (nJ (pN (i:=4) kq.nd) xn)))
   (fN (pS (i:=5) kq.nd (uw hu (cv 1) (cv 3)))
   (fN (gv (pF T.d30 (sx T) hr.m (fM (pF T.d31 (uW T) hr.m (fM (cv 4) fO)) fO)))
   (fN (gv (iO (jq eO eP eQ gK (MC (cv 2)) (fM (MC (pF T.d32 (zW T) hr.m (fM (cv 4) (fM (cv 3) (fM (cv 5) fO))))) fO))))
   (fU (gv (jq PySem.F.plainAttrs_dict eM PySem.F.type_dict_update Bb (cv 1) (fM (pF T.d34 (sA T) hr.m (fM (cv 4) (fM (cv 5) fO))) fO))))))))
  (fU (gj (cv 2))))))),?_⟩;have sl:=Lc;have nl:=gd.nl;have pn:=gd.pn;refine⟨_,⟨dx,_,pr.o,yS _ _ _⟩,n,names,rfl,pr.n,gd.nn,by lia,fun H1 S1=>?_⟩;refine⟨p,n,r,w,dx,xs,names,roots,ρs,out,rfl,pr.same S1,gd,fun d kvs H2 S2 hd ed hk hroots=>?_⟩;refine⟨qC,fun lh hlh=>?_⟩;have s3:=fW hlh (.lst []);have el:(upd H2 lh (.lst [])) lh=some (.lst []):=fS;dsimp only[gP];generalize upd H2 lh (.lst [])=H3 at s3 el⊢;have S13:=(S1.trans S2).trans s3;have hd0:H d=none:=S1.free hd;have hl0:H lh=none:=(S1.trans S2).free hlh;have ndl:d≠lh:=fZ ed hlh;have pr3:=pr.same S13;have lx:=pr.i.length;rw[aD]at lx;refine⟨_,⟨dx,_,pr3.o,oU _ _ _⟩,w,rfl,⟨_,MD pr3.w⟩,yR (xs:=xs) (fun i σ H4=>X5 fun(o3 o4 o5:Option V) (kvs:List (Key×V)) (ys:List V)=>Y8 (σ=[some (.ref p),some (.ref d),some (.ref lh),o3,o4,o5]) (gE H H4) (H4 d=some (.dK kvs)) (kvs.length<=12+ 300*i) (H4 lh=some (.lst ys)) (ys.length=i) (HoA H4 ys ρs out) (
   ∀c:Nat,((∃i':Nat,roots[i']?=some c)\/∃(k':Nat) (ρ:Ro),k'<i/\ρs[k']?=some ρ/\(c:Int)∈ρ.pl)->∃a,a≠d/\jH kvs (.inl (c:Int))=some (.ref a)/\Sc H4 a (out c) (20+c)))
  ⟨none,none,none,kvs,[],rfl,S13,s3 _ _ ed,by lia,el,rfl,fun k x ρ h=>(by cases h),fun c hc=>?_⟩ (fun i σ H4 _ ⟨_,_,_,_,_,_,S,_,_,_,_,_,_⟩=>MD (S _ _ pr.w)) ?_ ?_⟩
 ·rcases hc with⟨i,hi⟩|⟨k',ρ,h,_⟩;·obtain⟨a,h1,h2,h3⟩:=hroots i c hi;exact⟨a,h1,h2,(h3.same s3).le (by lia)⟩
  ·exact absurd h (da _)
 ·rintro i v σ H4 t hx ⟨o3,o4,o5,kvs,ys,rfl,S,ek,hk,el,hyl,ho,hsc⟩ ht;have hi:=(au.mp hx).1;obtain⟨ρ,hρ⟩:∃ρ,ρs[i]?=some ρ:=⟨_,bE (by lia)⟩;have rok:=gd.ok ρ (aP hρ);obtain⟨tr,zs,hxt,etr,hzs,him⟩:=uX pr.i hρ;rw[hxt]at hx;cases hx;obtain⟨a,nad,hva,sca⟩:=hsc i (gd.reach i (by lia));have sT:=fW ht (.tup [.int (i:Int),.ref tr]);refine⟨t,_,rfl,MI fS,rfl,_,_,rfl,_,_,rfl,rfl,?_⟩;have S5:=S.trans sT;generalize upd H4 t (.tup [.int (i:Int),.ref tr])=H5 at sT S5;have g:=wU.k (k:=(LU (i:Int):Key)) (sT _ _ ek);rw[hva]at g;refine⟨d,_,rfl,g,?_⟩;refine⟨tr,ρ,rfl,him.mono (gE.tk S5),rok,fun lw H6 S6 hlw e6=>⟨lw,ρ.ws,rfl,e6,(ρ.ws_nd rok).1,cE (ρ.ws_nd rok).2 (by decide),fun H7 S7=>?_⟩⟩;have S47:=(sT.trans S6).trans S7;have S07:=S.trans S47;have el7:=S47 _ _ el;have ek7:=S47 _ _ ek;have sca7:=sca.same S47;refine⟨⟨_,el7⟩,Bw rok hzs (fun x e=>gd.nm i x (by rw[hρ,e])) (S07 _ _ etr) sca7 rfl rfl rfl fun y hy=>?_⟩;refine⟨_,el7,by lia,?_⟩;have S08:=gZ (o:= .lst (ys++[y])) S07 hl0;have tk8:TK H7 (upd H7 lh (.lst (ys++[y]))):=DO el7 (fun zs z=>nomatch z);have ek8:(upd H7 lh (.lst (ys++[y]))) d=some (.dK kvs):=by rw[f9 ndl];exact ek7
  have el8:(upd H7 lh (.lst (ys++[y]))) lh=some (.lst (ys++[y])):=fS;have sc8:∀{z:Zx} {g:Str->Option Hm} {m:Nat},Sc H4 z g m->Sc (upd H7 lh (.lst (ys++[y]))) z g m:=fun h=>(h.same S47).updL el7;generalize upd H7 lh (.lst (ys++[y]))=H8 at S08 tk8 ek8 el8 sc8;refine⟨.inr (.inr (.inl ⟨rfl,.inl ⟨_,ek8⟩⟩)),tr,a,ρ,out i,20+i,rfl,him.mono (gE.tk S08),rok,sc8 sca,by lia,fun d2 kvs2 H9 S9 hd2 e9 nd9 l9 in9=>⟨d,d2,kvs,kvs2,rfl,rfl,fZ ek8 hd2,S9 _ _ ek8,e9,by lia,?_⟩⟩;have tk9:TK H9 (upd H9 d (.dK (jP kvs kvs2))):=DO (S9 _ _ ek8) (fun zs z=>nomatch z);have tkA:TK H4 (upd H9 d (.dK (jP kvs kvs2))):=fun b u e=>tk9 _ _ (S9 _ _ (tk8 _ _ (S47 _ _ e)));refine⟨_,_,_,_,ys++[y],rfl,gZ (S08.trans S9) hd0 _,fS,cE (mB _ _) (by lia),by rw[f9 ndl.symm];exact S9 _ _ el8,by rw[aQ,hyl];rfl,?_,?_⟩
  ·intro k x ρ' hx hρ';by_cases hki:k<ys.length;·rw[aN hki]at hx;exact(ho k x ρ' hx hρ').mono tkA
   ·have hk2:=(au.mp hx).1;rw[aQ,ba]at hk2;have e:k=ys.length:=by lia
    subst e;rw[aM (cH _),cW]at hx;cases hx;rw[hyl]at hρ'⊢;rw[hρ]at hρ';cases hρ';exact hy.mono fun b u e=>tk9 _ _ (S9 _ _ (tk8 _ _ e))
  ·intro c hc;rw[mN _ _ _ nd9];rcases in9 (c:Int)with⟨h1,h2⟩|⟨j,e,a',hW,hj,he,hv,hs⟩
   ·rw[h1];obtain⟨a',g1,g2,g3⟩:=hsc c (by
     rcases hc with h|⟨k',ρ',k1,k2,k3⟩;·exact .inl h
     ·refine .inr ⟨k',ρ',?_,k2,k3⟩;by_cases z:k'=i;·rw[z,hρ]at k2;cases k2;exact absurd k3 h2
      ·lia);exact⟨a',g1,g2,((sc8 g3).same S9).upd (S9 _ _ ek8) g1⟩
   ·rw[hv];have na:a'≠d:=by
     rcases hW with h|h;·rw[h];exact nad
     ·exact(fZ ek8 h).symm
    obtain⟨m,e1,e2,e3⟩:=gd.kid i ρ j _ e hρ hj he;have em:c=m:=by lia
    subst em;exact⟨a',na,rfl,by rw[e3];exact(hs.upd (S9 _ _ ek8) na).le (by lia)⟩
 ·rintro σ H4 ⟨o3,o4,o5,kvs,ys,rfl,S,ek,hk,el,hyl,ho,hsc⟩;exact q lh ys H4 S hl0 el (by lia) ho
mutual
inductive Vl where
 |num (n p:Int)
 |fn (b:Int) (sc:Ev) (p:Int)
 |rcd (l:Vls) (p:Int)
 |tag (t:Str) (v:Vl) (p:Int)
 |row (l:Vlr) (p:Int)
inductive Ev where
 |nil
 |cons (b:Int) (v:Vl) (sc:Ev)
inductive Vls where
 |nil
 |cons (w:Str) (v:Vl) (t:Vls)
inductive Vlr where
 |nil
 |cons (v:Vl) (t:Vlr)
end
mutual
def Vl.d:Vl->Dt
 | .num n p=> .tup [sD "num",kD n,kD p]
 | .fn b sc p=> .tup [sD "fn",.tup [kD b,sc.d],kD p]
 | .rcd l p=> .tup [sD "rec",.tup l.ds,kD p]
 | .tag t v p=> .tup [sD "tag",.tup [sD t,v.d],kD p]
 | .row l p=> .tup [sD "row",.tup l.ds,kD p]
def Ev.d:Ev->Dt
 | .nil=> .flat .non
 | .cons b v sc=> .tup [kD b,v.d,sc.d]
def Vls.ds:Vls->List Dt
 | .nil=>[]
 | .cons w v t=> .tup [sD w,v.d]::t.ds
def Vlr.ds:Vlr->List Dt
 | .nil=>[]
 | .cons v t=>v.d::t.ds
end
def Vl.s:Vl->Str
 | .num _ _=>"num"
 | .fn _ _ _=>"fn"
 | .rcd _ _=>"rec"
 | .tag _ _ _=>"tag"
 | .row _ _=>"row"
def Vl.b:Vl->Dt
 | .num n _=>kD n
 | .fn b sc _=> .tup [kD b,sc.d]
 | .rcd l _=> .tup l.ds
 | .tag t v _=> .tup [sD t,v.d]
 | .row l _=> .tup l.ds
def Vl.p:Vl->Int
 | .num _ p=>p
 | .fn _ _ p=>p
 | .rcd _ p=>p
 | .tag _ _ p=>p
 | .row _ p=>p
def JO (v:Vl):v.d= .tup [sD v.s,v.b,kD v.p]:=by cases v<;>rw[Vl.d]<;>rfl
def uh:Vlr->List Vl
 | .nil=>[]
 | .cons v t=>v::uh t
def Cg:List Vl->Vlr
 |[]=> .nil
 |v::t=> .cons v (Cg t)
theorem Bx:∀l,uh (Cg l)=l
 |[]=>rfl
 |v::t=>congrArg (v::·) (Bx t)
theorem CY:∀l:Vlr,l.ds=(uh l).map Vl.d
 | .nil=>by rw[Vlr.ds];rfl
 | .cons v t=>by rw[Vlr.ds,CY t];rfl
def fdL:Vls->List (Str×Vl)
 | .nil=>[]
 | .cons w v t=>(w,v)::fdL t
def fdO:List (Str×Vl)->Vls
 |[]=> .nil
 |p::t=> .cons p.1 p.2 (fdO t)
theorem JP:∀l,fdL (fdO l)=l
 |[]=>rfl
 |p::t=>congrArg (p::·) (JP t)
def fvD (p:Str×Vl):Dt:= .tup [sD p.1,p.2.d]
theorem JQ:∀l:Vls,l.ds=(fdL l).map fvD
 | .nil=>by rw[Vls.ds];rfl
 | .cons w v t=>by rw[Vls.ds,JQ t];rfl
inductive Stp where
 |beg (p:Int) (sc:Ev)
 |par (p:Int) (sc:Ev)
 |hand (p:Int)
def Stp.d:Stp->Dt
 | .beg p sc=> .tup [sD "begin",kD p,sc.d]
 | .par p sc=> .tup [sD "parts",kD p,sc.d]
 | .hand p=> .tup [sD "hand",kD p,.flat .non]
def meD (t:Int×Int×Int):Dt:= .tup [kD t.1,kD t.2.1,kD t.2.2]
def haD (t:Int×Int):Dt:= .tup [kD t.1,kD t.2]
structure Ms where
 bg:Nat
 en:Option Str
 me:List (Int×Int×Int)
 ha:List (Int×Int)
 de:List Vl
 st:List Stp
 rd:List Vl
def atZ {α:Type} (l:List α):Int->Option α
 | .ofNat k=>l[k]?
 | .negSucc _=>none
def kR (p:Int) (v:Vl) (s:Ms):Ms:={s with ha:=(p,v.p)::s.ha,rd:=v::s.rd}
def pM (b:Int) (sc:Ev) (p:Int) (s:Ms):Ms:={s with st:= .beg b sc:: .hand p::s.st}
def ij (v:Vl) (p k:Int) (f:Bool) (s:Ms):Ms:={s with me:=(v.p,p,k)::s.me,en:=if f then s.en else some "wrong"}
def qW:Ev->Int->Option Vl
 | .nil,_=>none
 | .cons b v sc,p=>if b=p then some v else qW sc p
def ma:Ro->List Int
 | .fn _ _=>[]
 | .lt _ a _=>[a]
 | .case k _=>[k]
 |ρ=>ρ.pl
def lkV:List (Str×Vl)->Str->Option Vl
 |[],_=>none
 |p::t,x=>if p.1=x then some p.2 else lkV t x
def lkI:List (Str×Str×Int)->Str->Option Int
 |[],_=>none
 |p::t,x=>if p.1=x then some p.2.2 else lkI t x
def isS (s:Str) (v:Vl):Bool:=decide (v.s=s)
def mO:Vl->Int
 | .num n _=>n
 |_=>0
def kr:Vl->List Vl
 | .row l _=>uh l
 |_=>[]
def iB (sh:Str) (a b:Vl) (p:Int) (s:Ms):Ms×Bool:=
 if isS sh a then(ij b p 1 (isS sh b) (ij a p 0 true s),isS sh b)else(ij a p 0 false s,false)
def E6 (b:Bool) (p:Int):Vl:= .tag (if b then "yes" else "no") (.rcd .nil p) p
def ku (ho:Option Hm) (p:Int) (sc:Ev):Ro->List Vl->Ms->Option Ms
 | .num n,[],s=>some (kR p (.num n p) s)
 | .name _,[],s=>match ho with
  |some h=>if h.1="def" then(atZ s.de h.2).map fun v=>kR p v s else(qW sc h.2).map fun v=>kR p v s
  |none=>none
 | .fn _ k,[],s=>some (kR p (.fn k sc p) s)
 | .tag w _,[v],s=>some (kR p (.tag w v p) s)
 | .lt _ a b,[v],s=>some (pM b (.cons a v sc) p s)
 | .get _ w,[v],s=>match v with
  | .rcd l _=>if((fdL l).map Ld).Nodup/\(fdL l).length<=100 then match lkV (fdL l) w with
   |some x=>some (kR p x (ij v p 0 true s))
   |none=>some (ij v p 0 false s)
   else none
  |_=>some (ij v p 0 false s)
 | .rcd l,vs,s=>if l.length=vs.length then some (kR p (.rcd (fdO (bD (l.map Ld) vs)) p) s)else none
 | .case _ l,[v],s=>match v with
  | .tag t x _=>match lkI l t with
   |some b=>some (pM b (.cons b x sc) p (ij v p 0 true s))
   |none=>some (ij v p 0 false s)
  |_=>some (ij v p 0 false s)
 | .row _,vs,s=>some (kR p (.row (Cg vs) p) s)
 | .op o _,vs,s=>
  if o="call" then match vs with
   |[f,a]=>match f with
    | .fn b e _=>some (pM b (.cons b a e) p (ij f p 0 true s))
    |_=>some (ij f p 0 false s)
   |_=>none
  else if o="size" then match vs with
   |[v]=>if isS "row" v then some (kR p (.num (kr v).length p) (ij v p 0 true s))else some (ij v p 0 false s)
   |_=>none
  else if o="at" then match vs with
   |[v,n,x]=>if isS "row" v then if isS "num" n then some (kR p (if 0<=mO n/\mO n<(kr v).length then(kr v).getD (mO n).toNat x else x) (ij n p 1 true (ij v p 0 true s)))else some (ij n p 1 false (ij v p 0 true s))else some (ij v p 0 false s)
   |_=>none
  else match vs with
   |[a,b]=>if o="join" then if(iB "row" a b p s).2 then if 500<(kr a).length\/500<(kr b).length then none else if 60<(kr a++kr b).length then some {(iB "row" a b p s).1 with en:=some "full"}else some (kR p (.row (Cg (kr a++kr b)) p) (iB "row" a b p s).1)else some (iB "row" a b p s).1
    else if(iB "num" a b p s).2 then some (kR p (if o="add" then .num (mO a+mO b) p else if o="sub" then .num (mO a-mO b) p else E6 (decide (mO a<mO b)) p) (iB "num" a b p s).1)else some (iB "num" a b p s).1
   |_=>none
 |_,_,_=>none
def tkR:Nat->List Vl->List Vl->Option (List Vl×List Vl)
 |0,r,l=>some (l,r)
 |n+ 1,v::r,l=>tkR n r (v::l)
 |_+ 1,[],_=>none
def nA (ρs:List Ro) (ho:Nat->Option Hm) (s:Ms):Option Ms:=match s.st with
 |[]=>none
 | .beg p sc::r=>match atZ ρs p with
  |some ρ=>some {s with bg:=s.bg+ 1,st:=(ma ρ).map (fun k=> .beg k sc)++ .par p sc::r}
  |none=>none
 | .par p sc::r=>match atZ ρs p with
  |some ρ=>match tkR (ma ρ).length s.rd []with
   |some (l,rd)=>ku (ho p.toNat) p sc ρ l {s with st:=r,rd:=rd}
   |none=>none
  |none=>none
 | .hand p::r=>match s.rd with
  |v::rd=>some (kR p v {s with st:=r,rd:=rd})
  |[]=>none
def qX:List Stp->Bool
 | .beg _ _::_=>true
 |_=>false
def mP (ρs:List Ro) (ho:Nat->Option Hm) (tu:Nat) (s:Ms):Option Ms:=if qX s.st=true/\tu<=s.bg then some {s with en:=some "turns",st:=s.st.tail}else nA ρs ho s
def fMc (p h:Zx) (tu bg:Int) (en:V) (me ha de st rd:Zx):List (Str×V):=[("program",.ref p),("homes",.ref h),("turns",.int tu),("begun",.int bg),("end",en),("meets",.ref me),("had",.ref ha),("defined",.ref de),("steps",.ref st),("ready",.ref rd)]
def enV:Option Str->V
 |none=> .non
 |some s=> .str s
structure Mad where
 m:Zx
 dx:Zx
 p:Zx
 h:Zx
 me:Zx
 ha:Zx
 de:Zx
 st:Zx
 rd:Zx
def Mad.ls (A:Mad):List Zx:=[A.me,A.ha,A.de,A.st,A.rd]
structure Mc (C:Zx) (H:Hp) (A:Mad) (tu:Nat) (s:Ms):Prop where
 o:H A.m=some (.ins C A.dx (fMc A.p A.h tu s.bg (enV s.en) A.me A.ha A.de A.st A.rd))
 me:∃xs,H A.me=some (.lst xs)/\Ims H xs (s.me.reverse.map meD)
 ha:∃xs,H A.ha=some (.lst xs)/\Ims H xs (s.ha.reverse.map haD)
 de:∃xs,H A.de=some (.lst xs)/\Ims H xs (s.de.map Vl.d)
 st:∃xs,H A.st=some (.lst xs)/\Ims H xs (s.st.reverse.map Stp.d)
 rd:∃xs,H A.rd=some (.lst xs)/\Ims H xs (s.rd.reverse.map Vl.d)
 nd:A.ls.Nodup
def FM (A:Mad) (H H':Hp):Prop:=∀a o,H a=some o->a≠A.m->a∉A.ls->H' a=some o
def FM.refl {A:Mad} {H:Hp}:FM A H H:=fun _ _ e _ _=>e
def FM.trans {A:Mad} {H H1 H2:Hp} (f:FM A H H1) (g:FM A H1 H2):FM A H H2:=fun a o e n m=>g a o (f a o e n m) n m
def FM.same {A:Mad} {H H':Hp} (S:gE H H'):FM A H H':=fun a o e _ _=>S a o e
section
variable {C:Zx} {H H':Hp} {A:Mad} {tu:Nat} {s:Ms}
def Mc.out (M:Mc C H A tu s) {a:Zx} {xs:List V} (e:H a=some (.tup xs)):a≠A.m/\a∉A.ls:=by
 obtain⟨o,⟨_,e1,_⟩,⟨_,e2,_⟩,⟨_,e3,_⟩,⟨_,e4,_⟩,⟨_,e5,_⟩,_⟩:=M;refine⟨fun z=>?_,fun z=>?_⟩;·rw[z,o]at e;cases e
 ·simp only[Mad.ls,ak,bG,or_false]at z;rcases z with rfl|rfl|rfl|rfl|rfl;·rw[e1]at e;cases e
  ·rw[e2]at e;cases e
  ·rw[e3]at e;cases e
  ·rw[e4]at e;cases e
  ·rw[e5]at e;cases e
def Mc.tk (M:Mc C H A tu s) (F:FM A H H'):TK H H':=fun a xs e=>F a _ e (M.out e).1 (M.out e).2
def Mc.same (M:Mc C H A tu s) (S:gE H H'):Mc C H' A tu s:=by obtain⟨o,⟨x1,e1,i1⟩,⟨x2,e2,i2⟩,⟨x3,e3,i3⟩,⟨x4,e4,i4⟩,⟨x5,e5,i5⟩,nd⟩:=M;have k:=gE.tk S;exact⟨S _ _ o,⟨x1,S _ _ e1,i1.mono k⟩,⟨x2,S _ _ e2,i2.mono k⟩,⟨x3,S _ _ e3,i3.mono k⟩,⟨x4,S _ _ e4,i4.mono k⟩,⟨x5,S _ _ e5,i5.mono k⟩,nd⟩
theorem Mc.upd (M:Mc C H A tu s) {a:Zx} {xs ys:List V} (ha:a∈A.ls) (e:H a=some (.lst xs)) {s':Ms} (hb:s'.bg=s.bg) (he:s'.en=s.en)
  (h1:if a=A.me then Ims H ys (s'.me.reverse.map meD)else s'.me=s.me) (h2:if a=A.ha then Ims H ys (s'.ha.reverse.map haD)else s'.ha=s.ha) (h3:if a=A.de then Ims H ys (s'.de.map Vl.d)else s'.de=s.de)
  (h4:if a=A.st then Ims H ys (s'.st.reverse.map Stp.d)else s'.st=s.st) (h5:if a=A.rd then Ims H ys (s'.rd.reverse.map Vl.d)else s'.rd=s.rd):Mc C (upd H a (.lst ys)) A tu s'/\FM A H (upd H a (.lst ys)):=by
 have k:TK H (MB H a (.lst ys)):=(yC e).tk;have part:∀{b:Zx} {α:Type} {f:α->Dt} {l l':List α},(∃zs,H b=some (.lst zs)/\Ims H zs (l.map f))->(if a=b then Ims H ys (l'.map f)else l'=l)->∃zs,(MB H a (.lst ys)) b=some (.lst zs)/\Ims (MB H a (.lst ys)) zs (l'.map f):=fun{b α f l l'} ⟨zs,e0,i0⟩ h=>by
  by_cases z:a=b;·rw[gT z]at h;subst z;exact⟨ys,fS,h.mono k⟩
  ·rw[gN z]at h;rw[h];exact⟨zs,by rw[f9 (Lq z)];exact e0,i0.mono k⟩
 obtain⟨o,p1,p2,p3,p4,p5,nd⟩:=M;have rev:∀{b:Zx} {α:Type} {f:α->Dt} {l l':List α},(if a=b then Ims H ys (l'.reverse.map f)else l'=l)->if a=b then Ims H ys (l'.reverse.map f)else l'.reverse=l.reverse:=fun{b α f l l'} h=>by
  by_cases z:a=b;·rw[gT z]at h⊢;exact h
  ·rw[gN z]at h⊢;rw[h]
 refine⟨⟨?_,part p1 (rev h1),part p2 (rev h2),part p3 h3,part p4 (rev h4),part p5 (rev h5),nd⟩,fun b o' e' n m=>by rw[f9 (fun z=>m (by rw[z];exact ha))];exact e'⟩;rw[f9 (fun z=>by rw[<-z,o]at e;cases e),hb,he];exact o
end
def Bd (n:Nat) (s:Ms):Prop:=s.me.length<=n/\s.ha.length<=n/\s.de.length<=n/\s.st.length<=n/\s.rd.length<=n
def Bd.mono {n m:Nat} {s:Ms} (h:Bd n s) (k:n<=m):Bd m s:=⟨cE h.1 k,cE h.2.1 k,cE h.2.2.1 k,cE h.2.2.2.1 k,cE h.2.2.2.2 k⟩
section
variable {C:Zx} {H H':Hp} {A:Mad} {tu:Nat} {s:Ms}
def Mc.nds (M:Mc C H A tu s):(A.me≠A.ha/\A.me≠A.de/\A.me≠A.st/\A.me≠A.rd)/\(A.ha≠A.de/\A.ha≠A.st/\A.ha≠A.rd)/\(A.de≠A.st/\A.de≠A.rd)/\A.st≠A.rd:=by have n:=M.nd;simp only[Mad.ls,aF,ak,bG,or_false,not_or]at n;exact⟨n.1,n.2.1,n.2.2.1,n.2.2.2.1⟩
def Mc.meP (M:Mc C H A tu s) {x:V} {t:Int×Int×Int} (ix:Im H x (meD t)):∃xs,H A.me=some (.lst xs)/\xs.length=s.me.length/\Mc C (MB H A.me (.lst (xs++[x]))) A tu {s with me:=t::s.me}/\FM A H (MB H A.me (.lst (xs++[x]))):=by obtain⟨⟨a,b,c,d⟩,_⟩:=M.nds;obtain⟨xs,e,i⟩:=M.me;refine⟨xs,e,by rw[i.length,aD,bK],M.upd (by simp[Mad.ls]) e rfl rfl (by rw[gT rfl,aZ,bo];exact i.app (.cons ix .nil)) (by rw[gN a]) (by rw[gN b]) (by rw[gN c]) (by rw[gN d])⟩
def Mc.haP (M:Mc C H A tu s) {x:V} {t:Int×Int} (ix:Im H x (haD t)):∃xs,H A.ha=some (.lst xs)/\xs.length=s.ha.length/\Mc C (MB H A.ha (.lst (xs++[x]))) A tu {s with ha:=t::s.ha}/\FM A H (MB H A.ha (.lst (xs++[x]))):=by obtain⟨⟨a,_⟩,⟨b,c,d⟩,_⟩:=M.nds;obtain⟨xs,e,i⟩:=M.ha;refine⟨xs,e,by rw[i.length,aD,bK],M.upd (by simp[Mad.ls]) e rfl rfl (by rw[gN a.symm]) (by rw[gT rfl,aZ,bo];exact i.app (.cons ix .nil)) (by rw[gN b]) (by rw[gN c]) (by rw[gN d])⟩
def Mc.deP (M:Mc C H A tu s) {x:V} {v:Vl} (ix:Im H x v.d):∃xs,H A.de=some (.lst xs)/\xs.length=s.de.length/\Mc C (MB H A.de (.lst (xs++[x]))) A tu {s with de:=s.de++[v]}/\FM A H (MB H A.de (.lst (xs++[x]))):=by obtain⟨⟨_,a,_⟩,⟨b,_⟩,⟨c,d⟩,_⟩:=M.nds;obtain⟨xs,e,i⟩:=M.de;refine⟨xs,e,by rw[i.length,aD],M.upd (by simp[Mad.ls]) e rfl rfl (by rw[gN a.symm]) (by rw[gN b.symm]) (by rw[gT rfl,bo];exact i.app (.cons ix .nil)) (by rw[gN c]) (by rw[gN d])⟩
def Mc.stP (M:Mc C H A tu s) {x:V} {t:Stp} (ix:Im H x t.d):∃xs,H A.st=some (.lst xs)/\xs.length=s.st.length/\Mc C (MB H A.st (.lst (xs++[x]))) A tu {s with st:=t::s.st}/\FM A H (MB H A.st (.lst (xs++[x]))):=by obtain⟨⟨_,_,a,_⟩,⟨_,b,_⟩,⟨c,_⟩,d⟩:=M.nds;obtain⟨xs,e,i⟩:=M.st;refine⟨xs,e,by rw[i.length,aD,bK],M.upd (by simp[Mad.ls]) e rfl rfl (by rw[gN a.symm]) (by rw[gN b.symm]) (by rw[gN c.symm]) (by rw[gT rfl,aZ,bo];exact i.app (.cons ix .nil)) (by rw[gN d])⟩
def Mc.rdP (M:Mc C H A tu s) {x:V} {v:Vl} (ix:Im H x v.d):∃xs,H A.rd=some (.lst xs)/\xs.length=s.rd.length/\Mc C (MB H A.rd (.lst (xs++[x]))) A tu {s with rd:=v::s.rd}/\FM A H (MB H A.rd (.lst (xs++[x]))):=by obtain⟨⟨_,_,_,a⟩,⟨_,_,b⟩,⟨_,c⟩,d⟩:=M.nds;obtain⟨xs,e,i⟩:=M.rd;refine⟨xs,e,by rw[i.length,aD,bK],M.upd (by simp[Mad.ls]) e rfl rfl (by rw[gN a.symm]) (by rw[gN b.symm]) (by rw[gN c.symm]) (by rw[gN d.symm]) (by rw[gT rfl,aZ,bo];exact i.app (.cons ix .nil))⟩
def uY {H:Hp} {α:Type} {f:α->Dt} {xs:List V} {l:List α} {a:α} (h:Ims H xs ((l++[a]).map f)):∃ys y,xs=ys++[y]/\Ims H ys (l.map f)/\Im H y (f a):=by
 have go:∀{ds:List Dt} {xs:List V} {d:Dt},Ims H xs (ds++[d])->∃ys v,xs=ys++[v]/\Ims H ys ds/\Im H v d:=fun{ds}=>by
  induction ds with
  |nil=>
   intro xs d h
   cases h with
   |cons h1 hs=>cases hs;exact⟨[],_,rfl,.nil,h1⟩
  |cons d0 ds ih=>
   intro xs d h
   cases h with
   |cons h1 hs=>obtain⟨ys,v,rfl,h2,h3⟩:=ih hs;exact⟨_::ys,v,rfl,.cons h1 h2,h3⟩
 rw[bo]at h;exact go h
def Mc.stO (M:Mc C H A tu s) {t:Stp} {r:List Stp} (hs:s.st=t::r):∃xs x,H A.st=some (.lst (xs++[x]))/\Im H x t.d/\Mc C (MB H A.st (.lst xs)) A tu {s with st:=r}/\FM A H (MB H A.st (.lst xs)):=by obtain⟨⟨_,_,a,_⟩,⟨_,b,_⟩,⟨c,_⟩,d⟩:=M.nds;obtain⟨xs,e,i⟩:=M.st;rw[hs,aZ]at i;obtain⟨ys,y,rfl,h1,h2⟩:=uY i;refine⟨ys,y,e,h2,M.upd (by simp[Mad.ls]) e rfl rfl (by rw[gN a.symm]) (by rw[gN b.symm]) (by rw[gN c.symm]) (by rw[gT rfl];exact h1) (by rw[gN d])⟩
def Mc.rdO (M:Mc C H A tu s) {v:Vl} {r:List Vl} (hs:s.rd=v::r):∃xs x,H A.rd=some (.lst (xs++[x]))/\Im H x v.d/\Mc C (MB H A.rd (.lst xs)) A tu {s with rd:=r}/\FM A H (MB H A.rd (.lst xs)):=by obtain⟨⟨_,_,_,a⟩,⟨_,_,b⟩,⟨_,c⟩,d⟩:=M.nds;obtain⟨xs,e,i⟩:=M.rd;rw[hs,aZ]at i;obtain⟨ys,y,rfl,h1,h2⟩:=uY i;refine⟨ys,y,e,h2,M.upd (by simp[Mad.ls]) e rfl rfl (by rw[gN a.symm]) (by rw[gN b.symm]) (by rw[gN c.symm]) (by rw[gN d.symm]) (by rw[gT rfl];exact h1)⟩
def Mc.setO (M:Mc C H A tu s) (bg:Nat) (en:Option Str):Mc C (MB H A.m (.ins C A.dx (fMc A.p A.h tu bg (enV en) A.me A.ha A.de A.st A.rd))) A tu {s with bg:=bg,en:=en}/\FM A H (MB H A.m (.ins C A.dx (fMc A.p A.h tu bg (enV en) A.me A.ha A.de A.st A.rd))):=by
 have F:FM A H (MB H A.m (.ins C A.dx (fMc A.p A.h tu bg (enV en) A.me A.ha A.de A.st A.rd))):=fun a o e n _=>by rw[f9 n];exact e
 have k:=M.tk F;obtain⟨o,⟨x1,e1,i1⟩,⟨x2,e2,i2⟩,⟨x3,e3,i3⟩,⟨x4,e4,i4⟩,⟨x5,e5,i5⟩,nd⟩:=M;have ne:∀{b:Zx} {zs:List V},H b=some (.lst zs)->b≠A.m:=fun e z=>by rw[z,o]at e;cases e
 exact⟨⟨fS,⟨x1,by rw[f9 (ne e1)];exact e1,i1.mono k⟩,⟨x2,by rw[f9 (ne e2)];exact e2,i2.mono k⟩,⟨x3,by rw[f9 (ne e3)];exact e3,i3.mono k⟩,⟨x4,by rw[f9 (ne e4)];exact e4,i4.mono k⟩,⟨x5,by rw[f9 (ne e5)];exact e5,i5.mono k⟩,nd⟩,F⟩
end
section
variable {p h me ha de st rd:Zx} {tu bg:Int} {en:V}
def By:(fMc p h tu bg en me ha de st rd).lookup ("had":Str)=some (.ref ha):=by kernel_rfl
def wx:(fMc p h tu bg en me ha de st rd).lookup ("meets":Str)=some (.ref me):=by kernel_rfl
def oW:(fMc p h tu bg en me ha de st rd).lookup ("defined":Str)=some (.ref de):=by kernel_rfl
def lE:(fMc p h tu bg en me ha de st rd).lookup ("steps":Str)=some (.ref st):=by kernel_rfl
def pO:(fMc p h tu bg en me ha de st rd).lookup ("ready":Str)=some (.ref rd):=by kernel_rfl
def sC:(fMc p h tu bg en me ha de st rd).lookup ("end":Str)=some en:=by kernel_rfl
def sE:(fMc p h tu bg en me ha de st rd).lookup ("begun":Str)=some (.int bg):=by kernel_rfl
def Bz:(fMc p h tu bg en me ha de st rd).lookup ("turns":Str)=some (.int tu):=by kernel_rfl
end
def oX {H:Hp} {t:Zx} {xs:List V} {ds:List Dt} (h:H t=none) (i:Ims H xs ds):Im (MB H t (.tup xs)) (.ref t) (.tup ds):= .tup fS (i.mono (gE.tk (fW h _)))
def BA (C:Zx):Sp:=fun vs H Q _=>X7 fun(A:Mad) (tu:Nat) (s:Ms) (b pl:Int) (x:V) (sc:Ev)=>Y5 (vs=[.ref A.m,.int b,x,.int pl]) (Mc C H A tu s) (Im H x sc.d) (s.st.length<10000000) (∀H',Mc C H' A tu (pM b sc pl s)->FM A H H'->Q .non H')
def kh (T:Txt K mg):MO P w base mg 1 T.e63 (BA T.c5.a):=by
 refine T.e63.F.rd pI fun cdv A0 outer s0 H vs Q E hr h=>?_;obtain⟨A,tu,s,b,pl,x,sc,rfl,M,ix,ls,q⟩:=h;refine⟨_,(fN (gv (iO (jq eO eP eQ gK (MC (gk T.c5.cl T.n5steps (cv 0))) (fM (MC (ie (fM fX (fM (cv 3) (fM gR fO))))) fO))))
  (fU (gv (iO (jq eO eP eQ gK (MC (gk T.c5.cl T.n5steps (cv 0))) (fM (MC (ie (fM fX (fM (cv 1) (fM (cv 2) fO))))) fO)))))),?_⟩;have sl:=Lc;obtain⟨xs,e,_⟩:=M.st;refine⟨_,⟨_,_,M.o,lE⟩,⟨_,e⟩,kP,fun t ht=>?_⟩;have S1:=fW ht (.tup [.str "hand",.int pl,.non]);have M1:=M.same S1;have i1:Im (MB H t (.tup [.str "hand",.int pl,.non])) (.ref t) (Stp.hand pl).d:=oX ht (.cons (.flat rfl) (.cons (.flat rfl) (.cons (.flat rfl) .nil)));have ix1:=ix.mono (gE.tk S1);generalize MB H t (.tup [.str "hand",.int pl,.non])=H1 at S1 M1 i1 ix1⊢;obtain⟨xs1,e1,l1,M2,F2⟩:=M1.stP i1;refine⟨xs1,e1,by lia,?_⟩;have ix2:=ix1.mono (M1.tk F2);have F02:=(FM.same (A:=A) S1).trans F2;dsimp only;generalize MB H1 A.st (.lst (xs1++[.ref t]))=H2 at M2 F2 F02 ix2⊢;obtain⟨xs,e,_⟩:=M2.st;refine⟨_,⟨_,_,M2.o,lE⟩,⟨_,e⟩,kP,fun t2 ht2=>?_⟩;have S3:=fW ht2 (.tup [.str "begin",.int b,x]);have M3:=M2.same S3;have i3:Im (MB H2 t2 (.tup [.str "begin",.int b,x])) (.ref t2) (Stp.beg b sc).d:=oX ht2 (.cons (.flat rfl) (.cons (.flat rfl) (.cons ix2 .nil)));obtain⟨xs3,e3,l3,M4,F4⟩:=M3.stP i3;refine⟨xs3,e3,?_,q _ M4 ((F02.trans (FM.same S3)).trans F4)⟩;rw[l3];show(Stp.hand pl::s.st).length<_;rw[aA];lia
def wy (C:Zx):Sp:=fun vs H Q _=>X6 fun(A:Mad) (tu:Nat) (s:Ms) (pl:Int) (x:V) (v:Vl)=>Y6 (vs=[.ref A.m,.int pl,x]) (Mc C H A tu s) (Im H x v.d) (s.ha.length<10000000) (s.rd.length<10000000) (∀H',Mc C H' A tu (kR pl v s)->FM A H H'->Q .non H')
def nY {H:Hp} {x:V} {v:Vl} (h:Im H x v.d):∃t y,x= .ref t/\H t=some (.tup [.str v.s,y,.int v.p])/\Im H y v.b:=by
 rw[JO]at h
 cases h with
 |tup e i=>
  cases i with
  |cons h1 i=>
   cases i with
   |cons h2 i=>
    cases i with
    |cons h3 i=>
     cases i
     cases h1 with
     |flat f1=>cases h3 with
      |flat f3=>exact⟨_,_,rfl,e,h2⟩
def gG (T:Txt K mg):MO P w base mg 1 T.e62 (wy T.c5.a):=by
 refine T.e62.F.rd qt fun cdv A0 outer s0 H vs Q E hr h=>?_;obtain⟨A,tu,s,pl,x,v,rfl,M,ix,lh,lr,q⟩:=h;refine⟨_,(fN (gv (iO (jq eO eP eQ gK (MC (gk T.c5.cl T.n5had (cv 0))) (fM (MC (ie (fM (cv 1) (fM (gf gy (cv 2) fQ) fO)))) fO))))
  (fU (gv (iO (jq eO eP eQ gK (MC (gk T.c5.cl T.n5ready (cv 0))) (fM (MC (cv 2)) fO)))))),?_⟩;have sl:=Lc;obtain⟨xs,e,_⟩:=M.ha;obtain⟨t0,y,rfl,e0,iy⟩:=nY ix;refine⟨_,⟨_,_,M.o,By⟩,⟨_,e⟩,_,e0,fY (fV (j:=2) rfl) ⟨lZ,fun t ht=>?_⟩⟩;have S1:=fW ht (.tup [.int pl,.int v.p]);have M1:=M.same S1;have i1:Im (MB H t (.tup [.int pl,.int v.p])) (.ref t) (haD (pl,v.p)):=oX ht (.cons (.flat rfl) (.cons (.flat rfl) .nil));have ix1:=ix.mono (gE.tk S1);generalize MB H t (.tup [.int pl,.int v.p])=H1 at S1 M1 i1 ix1⊢;obtain⟨xs1,e1,l1,M2,F2⟩:=M1.haP i1;refine⟨xs1,e1,by lia,?_⟩;have ix2:=ix1.mono (M1.tk F2);have F02:=(FM.same (A:=A) S1).trans F2;dsimp only;generalize MB H1 A.ha (.lst (xs1++[.ref t]))=H2 at M2 F2 F02 ix2⊢;obtain⟨xs3,e3,l3,M4,F4⟩:=M2.rdP ix2;exact⟨_,⟨_,_,M2.o,pO⟩,⟨_,e3⟩,xs3,e3,by rw[l3];show s.rd.length<_;lia,q _ M4 (F02.trans F4)⟩
def ik {p h me ha de st rd:Zx} {tu bg:Int} {en:V} {n:Str} (hn:((["program","homes","turns","begun","end","meets","had","defined","steps","ready"]:Zd).all fun x=>!(n==x))=true):(fMc p h tu bg en me ha de st rd).lookup n=none:=by simp only[aY,List.all_nil,Bool.and_true,eX,Bool.not_eq_true']at hn;obtain⟨h1,h2,h3,h4,h5,h6,h7,h8,h9,h10⟩:=hn;simp only[fMc,bp,h1,h2,h3,h4,h5,h6,h7,h8,h9,h10,List.lookup_nil]
def rj {p h me ha de st rd:Zx} {tu bg:Int} {en v:V}:jD "end" v (fMc p h tu bg en me ha de st rd)=fMc p h tu bg v me ha de st rd:=by kernel_rfl
def HB (C:Zx):Sp:=fun vs H Q _=>X8 fun(A:Mad) (tu:Nat) (s:Ms) (x:V) (v:Vl) (pl k:Int) (f:Bool)=>Y5 (vs=[.ref A.m,x,.int pl,.int k,.bl f]) (Mc C H A tu s) (Im H x v.d) (s.me.length<10000000) (∀H',Mc C H' A tu (ij v pl k f s)->FM A H H'->Q (.bl f) H')
def kN (T:Txt K mg):MO P w base mg 1 T.e64 (HB T.c5.a):=by
 refine T.e64.F.rd qV fun cdv A0 outer s0 H vs Q E hr h=>?_;obtain⟨A,tu,s,x,v,pl,k,f,rfl,M,ix,lm,q⟩:=h;refine⟨_,(fN (gv (iO (jq eO eP eQ gK (MC (gk T.c5.cl T.n5meets (cv 0))) (fM (MC (ie (fM (gf gy (cv 1) fQ) (fM (cv 2) (fM (cv 3) fO))))) fO))))
  (fN (gJ (kj (iL (cv 4)))
   (fU (iX T.c5.cl T.n5end (i8 (MC (cv 0)) (MC fX) rfl)))
   gi)
  (fU (gj (cv 4))))),?_⟩;have sl:=Lc;obtain⟨xs,e,_⟩:=M.me;obtain⟨t0,y,rfl,e0,iy⟩:=nY ix;refine⟨_,⟨_,_,M.o,wx⟩,⟨_,e⟩,_,e0,fY (fV (j:=2) rfl) ⟨kP,fun t ht=>?_⟩⟩;have S1:=fW ht (.tup [.int v.p,.int pl,.int k]);have M1:=M.same S1;have i1:Im (MB H t (.tup [.int v.p,.int pl,.int k])) (.ref t) (meD (v.p,pl,k)):=oX ht (.cons (.flat rfl) (.cons (.flat rfl) (.cons (.flat rfl) .nil)));generalize MB H t (.tup [.int v.p,.int pl,.int k])=H1 at S1 M1 i1⊢;obtain⟨xs1,e1,l1,M2,F2⟩:=M1.meP i1;refine⟨xs1,e1,by lia,?_⟩;have F02:=(FM.same (A:=A) S1).trans F2;dsimp only;generalize MB H1 A.me (.lst (xs1++[.ref t]))=H2 at M2 F2 F02⊢
 cases f with
 |true=>refine⟨_,rfl,gX ?_⟩;exact q _ M2 F02
 |false=>obtain⟨M3,F3⟩:=M2.setO s.bg (some "wrong");refine⟨_,rfl,iC ⟨_,_,M2.o,by show 10<1000;decide,?_⟩⟩;rw[rj];exact q _ M3 (F02.trans F3)
def HC (C:Zx):Sp:=fun vs H Q _=>X8 fun(A:Mad) (tu:Nat) (s:Ms) (sh:Str) (x:V) (v:Vl) (pl k:Int)=>Y5 (vs=[.ref A.m,.str sh,x,.int pl,.int k]) (Mc C H A tu s) (Im H x v.d) (s.me.length<10000000) (∀H',Mc C H' A tu (ij v pl k (isS sh v) s)->FM A H H'->Q (.bl (isS sh v)) H')
def i6 (T:Txt K mg):MO P w base mg 2 T.e65 (HC T.c5.a):=by refine T.e65.F.rd oP fun cdv A0 outer s0 H vs Q E hr h=>?_;obtain⟨A,tu,s,sh,x,v,pl,k,rfl,M,ix,lm,q⟩:=h;refine⟨_,(fU (gj (gL (gH (MC (cv 0)) T.c5.cl T.e64.me (kN T) hr.m T.e64.b .nil gY (fM (cv 2) (fM (cv 3) (fM (cv 4) (fM (jO iA (gf gy (cv 2) fQ) (cv 1)) fO)))))))),?_⟩;obtain⟨t0,y,rfl,e0,iy⟩:=nY ix;refine⟨⟨_,_,M.o,ik gA⟩,_,e0,fY (fV (j:=0) rfl) ⟨A,tu,s,_,v,pl,k,isS sh v,?_,M,ix,lm,fun H' M' F'=>q H' M' F'⟩⟩;rw[eZ];rfl
def E7 (C:Zx):Sp:=fun vs H Q _=>X10 fun(A:Mad) (tu:Nat) (s:Ms) (sh:Str) (ps:Zx) (x y:V) (a b:Vl) (pl:Int)=>Y9 (vs=[.ref A.m,.str sh,.ref ps,.int pl]) (Mc C H A tu s) (H ps=some (.lst [x,y])) (ps≠A.m) (ps∉A.ls) (Im H x a.d) (Im H y b.d) (s.me.length<9500000) (∀H',Mc C H' A tu (iB sh a b pl s).1->FM A H H'->Q (.bl (iB sh a b pl s).2) H')
def iD (T:Txt K mg):MO P w base mg 3 T.e66 (E7 T.c5.a):=by
 refine T.e66.F.rd mM fun cdv A0 outer s0 H vs Q E hr h=>?_;obtain⟨A,tu,s,sh,ps,x,y,a,b,pl,rfl,M,ep,n1,n2,ix,iy,lm,q⟩:=h;refine⟨_,(fU (gj (qD (gL (gH (MC (cv 0)) T.c5.cl T.e65.me (i6 T) hr.m T.e65.b .nil gY (fM (cv 1) (fM (gf f7 (cv 2) fQ) (fM (cv 3) (fM fQ fO)))))) (nS (gL (gH (MC (cv 0)) T.c5.cl T.e65.me (i6 T) hr.m T.e65.b .nil gY (fM (cv 1) (fM (gf f7 (cv 2) fQ) (fM (cv 3) (fM fQ fO)))))))))),?_⟩;refine⟨⟨_,_,M.o,ik gA⟩,_,ep,fY (fV (j:=0) rfl) ⟨A,tu,s,sh,x,a,pl,0,rfl,M,ix,by lia,fun H1 M1 F1=>?_⟩⟩;have ep1:=F1 _ _ ep n1 n2;have iy1:=iy.mono (M.tk F1);unfold iB at q
 cases hs:isS sh a with
 |false=>rw[hs]at M1 q;exact⟨_,rfl,gX (q _ M1 F1)⟩
 |true=>rw[hs]at M1 q;refine⟨_,rfl,iC ⟨⟨_,_,M1.o,ik gA⟩,_,ep1,fY (fV (j:=1) rfl) ⟨A,tu,_,sh,y,b,pl,1,rfl,M1,iy1,?_,fun H2 M2 F2=>q _ M2 (F1.trans F2)⟩⟩⟩;show(_::s.me).length<_;rw[aA];lia
def E8 {K:Zp} {a:Zx} {xs:List V} {g:TG} {tb:TS} {D:pT} {σ:St} {H:Hp} (Pv:Nat->St->Hp->Prop) (h0:Pv 0 σ H) (hl:∀i σ H,i<=xs.length->Pv i σ H->SqL K H a xs)
  (hs:∀(i:Nat) (x:V) (σ:St) (H:Hp),i<xs.length->xs[xs.length-1-i]?=some x->Pv i σ H->g x σ H fun σ2 H2=>tb {D with nx:=Pv (i+ 1),ct:=Pv (i+ 1),bk:=D.nx} σ2 H2) (hd:∀σ H,Pv xs.length σ H->D.nx σ H):
  ∃W:Nat->Nat->St->Hp->Prop,(∃m,W 0 m σ H)/\∀i m σ H,W i m σ H->
   ((Itv K a xs.length).stop i H/\D.nx σ H)\/((Itv K a xs.length).go i H/\∃N:St->Hp->Prop,(∀σ' H',N σ' H'->∃m',m'<m/\W (i+ 1) m' σ' H')/\∀x H',(Itv K a xs.length).yld i H x H'->g x σ H' fun σ2 H2=>tb {D with nx:=N,ct:=N,bk:=D.nx} σ2 H2):=by
 refine⟨fun i m σ H=>Y3 (m=xs.length-i) (i<=xs.length) (Pv i σ H),⟨xs.length,by simp,cJ _,h0⟩,?_⟩;rintro i m σ H ⟨rfl,hi,p⟩;have q:=hl i σ H hi p;by_cases hlt:i<xs.length;·refine .inr ⟨⟨hlt,xs,q,rfl⟩,Pv (i+ 1),fun σ' H' p'=>⟨xs.length-(i+ 1),by lia,rfl,hlt,p'⟩,fun v H' y=>?_⟩;obtain⟨rfl,hx⟩:=y;exact hs i v σ H' hlt (hx xs q) p
 ·have e:i=xs.length:=by lia
  subst e;exact .inl ⟨rfl,hd σ H p⟩
theorem rk:∀{n:Nat} {r l l' r':List Vl},tkR n r l=some (l',r')->n<=r.length/\l'=(r.take n).reverse++l/\r'=r.drop n
 |0,r,l,l',r',h=>by cases h;exact⟨cJ _,rfl,rfl⟩
 |n+ 1,v::r,l,l',r',h=>by obtain⟨a,b,c⟩:=rk (n:=n) h;exact⟨by simpa using a,by rw[b];simp,by rw[c];rfl⟩
 |n+ 1,[],l,l',r',h=>by cases h
def Mad.all (A:Mad):List Zx:=A.m::A.ls
def FM.get {A:Mad} {H H':Hp} (F:FM A H H') {a:Zx} {o:HO} (e:H a=some o) (n:a∉A.all):H' a=some o:=F a o e (fun z=>n (by rw[z];exact ai)) fun z=>n (aj _ z)
def FM.upd {A:Mad} {H H':Hp} {l:Zx} {o:HO} (F:FM A H H') (h:H l=none):FM A H (MB H' l o):=fun a u e n m=>by rw[f9 (fZ e h)];exact F a u e n m
def Mc.new {C:Zx} {H:Hp} {A:Mad} {tu:Nat} {s:Ms} (M:Mc C H A tu s) {l:Zx} (h:H l=none):l∉A.all:=fun z=>by
 obtain⟨o,⟨_,e1,_⟩,⟨_,e2,_⟩,⟨_,e3,_⟩,⟨_,e4,_⟩,⟨_,e5,_⟩,_⟩:=M;simp only[Mad.all,Mad.ls,ak,bG,or_false]at z;rcases z with rfl|rfl|rfl|rfl|rfl|rfl;·rw[h]at o;cases o
 ·rw[h]at e1;cases e1
 ·rw[h]at e2;cases e2
 ·rw[h]at e3;cases e3
 ·rw[h]at e4;cases e4
 ·rw[h]at e5;cases e5
def Mc.oth {C:Zx} {H:Hp} {A:Mad} {tu:Nat} {s:Ms} (M:Mc C H A tu s) {l:Zx} {xs:List V} {o:HO} (h:l∉A.all) (e:H l=some (.lst xs)):Mc C (MB H l o) A tu s:=by have k:TK H (MB H l o):=(yC e).tk;have ne:∀{b:Zx},b∈A.all->(MB H l o) b=H b:=fun m=>f9 fun z=>h (by rw[<-z];exact m);obtain⟨o,⟨x1,e1,i1⟩,⟨x2,e2,i2⟩,⟨x3,e3,i3⟩,⟨x4,e4,i4⟩,⟨x5,e5,i5⟩,nd⟩:=M;exact⟨by rw[ne (by simp[Mad.all])];exact o,⟨x1,by rw[ne (by simp[Mad.all,Mad.ls])];exact e1,i1.mono k⟩,⟨x2,by rw[ne (by simp[Mad.all,Mad.ls])];exact e2,i2.mono k⟩,⟨x3,by rw[ne (by simp[Mad.all,Mad.ls])];exact e3,i3.mono k⟩,⟨x4,by rw[ne (by simp[Mad.all,Mad.ls])];exact e4,i4.mono k⟩,⟨x5,by rw[ne (by simp[Mad.all,Mad.ls])];exact e5,i5.mono k⟩,nd⟩
def E9 {H:Hp}:∀{xs:List V} {ds:List Dt},Ims H xs ds->Ims H xs.reverse ds.reverse:=fun{xs ds} h=>by
 induction ds generalizing xs with
 |nil=>cases h;exact .nil
 |cons d ds i=>
  cases h with
  |cons a b=>rw[aZ,aZ];exact(i b).app (.cons a .nil)
abbrev hdT (i:Nat) (x:Str):TT:=cT (tOp (cEq false) (tOp ES (cV i) (tC (.int 0))) (tC (.str x)))
def yU {i:Nat} {x s:Str} {t:Zx} {ys:List V} {σ:St} {H:Hp} {k:Bool->Hp->Prop} {b:Bool} (hσ:σ[i]?=some (some (.ref t))) (et:H t=some (.tup (.str s::ys))) (e:decide (s=x)=b) (h:k b H):hdT i x σ H k:=by show onV σ[i]? _;rw[hσ];refine⟨_,et,fY (fV (j:=0) rfl) ?_⟩;dsimp only[tC,cEq,onB];rw[eZ,e];exact h
def ui {i:Nat} {x s:Str} {t:Zx} {ys:List V} {σ:St} {H:Hp} {T u:TS} {D:pT} (hσ:σ[i]?=some (some (.ref t))) (et:H t=some (.tup (.str s::ys))) (e:decide (s=x)=false) (h:u D σ H):xh (z9 (hdT i x) T lO) u D σ H:=yU hσ et e (gX h)
def BB {i:Nat} {x s:Str} {t:Zx} {ys:List V} {σ:St} {H:Hp} {T u:TS} {D:pT} (hσ:σ[i]?=some (some (.ref t))) (et:H t=some (.tup (.str s::ys))) (e:decide (s=x)=true) (h:T {D with nx:=u D} σ H):xh (z9 (hdT i x) T lO) u D σ H:=yU hσ et e (iC h)
def HD {a b:Int} {H:Hp} {F:Bool->Hp->Prop} (e:¬b<=a) (h:F false H):cI0 (fun i j=> .bl (decide (j<=i))) (.int a) (.int b) H fun x H'=>onB x fun k=>F k H':=by show F (decide (b<=a)) H;rw[gQ e];exact h
def HE {a b:Int} {H:Hp} {F:Bool->Hp->Prop} (e:b<=a) (h:F true H):cI0 (fun i j=> .bl (decide (j<=i))) (.int a) (.int b) H fun x H'=>onB x fun k=>F k H':=by show F (decide (b<=a)) H;rw[gM e];exact h
def qO {H:Hp} {t:Zx} {ρ:Ro} (h:Im H (.ref t) ρ.d):∃ys,H t=some (.tup (.str ρ.s::ys))/\Ims H ys ρ.r:=by
 unfold Ro.d at h
 cases h with
 |tup e i=>
  cases i with
  |cons a i=>cases a;exact⟨_,e,i⟩
def yV {H:Hp} {l:Zx} {ys:List V} {y:V} {Q:VK} (e:H l=some (.lst (ys++[y]))) (q:Q y (MB H l (.lst ys))):KO (.ref l) [] H Q:=⟨l,_,y,rfl,rfl,e,by rw[aQ,ba,df,aM (cH _),cW];rfl,by rw[List.dropLast_concat];exact q⟩
inductive XTr (C:Zx) (vs:List V) (H:Hp) (Q:VK):Prop
 |mk (A:Mad) (tu:Nat) (s:Ms) (n:Nat) (l rd:List Vl) (e:vs=[.ref A.m,.int (n:Int)]) (M:Mc C H A tu s) (hn:n<=1000) (ht:tkR n s.rd []=some (l,rd)) (q:∀H' a xs,H a=none->H' a=some (.lst xs)->Ims H' xs (l.map Vl.d)->Mc C H' A tu {s with rd:=rd}->FM A H H'->Q (.ref a) H')
def JR (C:Zx):Sp:=fun vs H Q _=>XTr C vs H Q
def TrI (C:Zx) (A:Mad) (tu:Nat) (s:Ms) (n:Nat) (H:Hp) (tl:Zx) (i:Nat) (σ:St) (H2:Hp):Prop:=X2 fun(o:Option V) (xs:List V)=>Y5 (σ=[some (.ref A.m),some (.int (n:Int)),some (.ref tl),o]) (H2 tl=some (.lst xs)) (Ims H2 xs ((s.rd.take i).map Vl.d)) (Mc C H2 A tu {s with rd:=s.rd.drop i}) (FM A H H2)
def nB (T:Txt K mg):MO P w base mg 1 T.e61 (JR T.c5.a):=by
 refine T.e61.F.rd jj fun cdv A0 outer s0 H vs Q E hr h=>?_;obtain⟨A,tu,s,n,l,rd,rfl,M,hn,ht,q⟩:=h;refine⟨_,(fN (pS (i:=2) jj.nd (gq fO))
  (fN (kl Lh rfl (jN rfl T.z_range (fM (cv 1) fO)) (pN (i:=3) jj.nd)
   (fU (gv (iO (jq eO eP eQ gK (MC (cv 2)) (fM (MC (rL eO eR eS tW (gk T.c5.cl T.n5ready (cv 0)))) fO))))))
  (fU (gj (zJ rfl rfl T.z_list rfl T.z_reversed (fM (cv 2) fO)))))),?_⟩;have sl:=Lc;obtain⟨t1,t2,t3⟩:=rk ht;refine⟨qC,fun tl htl=>?_⟩;have S1:=fW htl (.lst []);have M1:=M.same S1;have nt:=M.new htl;have e1:(MB H tl (.lst [])) tl=some (.lst []):=fS;dsimp only[gP];refine⟨_,rfl,by lia,by lia,mY (TrI T.c5.a A tu s n H tl) ⟨none,[],rfl,e1,.nil,M1,FM.same S1⟩ ?_ ?_⟩
 ·rintro i σ H2 hi ⟨o,xs,rfl,e2,i2,M2,F2⟩;rw[fj]at hi;obtain⟨v,hv⟩:∃v,s.rd[i]?=some v:=⟨_,bE (by lia)⟩;have hdr:s.rd.drop i=v::s.rd.drop (i+ 1):=by obtain⟨z1,z2⟩:=au.mp hv;rw[bR z1,z2]
  obtain⟨ys,y,er,iy,M3,F3⟩:=M2.rdO hdr;have e3:(MB H2 A.rd (.lst ys)) tl=some (.lst xs):=F3.get e2 nt;have i3:=i2.mono (M2.tk F3);have iy3:=iy.mono (M2.tk F3);have F03:=F2.trans F3;refine⟨⟨_,e2⟩,_,⟨_,_,M2.o,pO⟩,.inl ⟨rfl,_,MD er⟩,yV er ⟨xs,e3,?_,?_⟩⟩;·rw[i2.length,aD,aK];lia
  dsimp only;generalize MB H2 A.rd (.lst ys)=H3 at e3 i3 iy3 F03 M3⊢;refine⟨_,_,rfl,fS,?_,M3.oth nt e3,F03.upd htl⟩;rw[b6,hv,bo];exact(i3.app (.cons iy3 .nil)).mono (yC e3).tk
 ·rintro σ H2 ⟨o,xs,rfl,e2,i2,M2,F2⟩;rw[fj]at i2 M2;refine⟨tl,xs,rfl,MD e2,fun a ha=>?_⟩;have S3:=fW ha (.lst xs.reverse);refine q _ a _ ?_ fS ?_ (by rw[t3];exact M2.same S3) (F2.trans (FM.same S3))
  ·cases hh:H a with
   |none=>rfl
   |some o=>
    by_cases z:a∈A.all;·exact absurd z (M2.new ha)
    ·rw[F2.get hh z]at ha;cases ha
  ·rw[t2,aE,List.map_reverse];exact(E9 i2).mono (gE.tk S3)
inductive XFp (ρ:Ro) (vs:List V) (H:Hp) (Q:VK):Prop
 |mk (t:Zx) (e:vs=[.ref t]) (it:Im H (.ref t) ρ.d) (q:∀l H',gE H H'->H l=none->H' l=some (.lst ((ma ρ).map V.int))->Q (.ref l) H')
def JS:Sp:=fun vs H Q _=>∃ρ:Ro,ρ.ok/\XFp ρ vs H Q
def nZ (T:Txt K mg):FO P w base 7 T.d4 JS:=by
 refine T.d4.F.rd tq fun cdv A0 outer s0 H vs Q E hr h=>?_;obtain⟨ρ,ro,t,rfl,it,q⟩:=h;refine⟨_,(fN (gJ (gb iA (gf gy (cv 0) fQ) fX)
   (fU (gj (gq fO)))
   gi)
  (fN (gJ (gb iA (gf gy (cv 0) fQ) fX)
   (fU (gj (gq (fM (gf gy (cv 0) fQ) fO))))
   gi)
  (fN (gJ (gb iA (gf gy (cv 0) fQ) fX)
   (fU (gj (gq (fM (gf gy (cv 0) fQ) fO))))
   gi)
  (fU (gj (pF T.d2 (qN T) hr.m (fM (cv 0) fO))))))),?_⟩;obtain⟨ys,et,iy⟩:=qO it;obtain⟨_,hC,hF,hL⟩:=ρ.hd ro
 cases ρ with
 |fn w k=>exact BB rfl et hF ⟨qC,fun l hl=>q l _ (fW hl _) hl fS⟩
 |lt w a b=>
  cases iy with
  |cons h1 iy=>
   cases iy with
   |cons h2 iy=>cases h2;exact ui rfl et hF (BB rfl et hL ⟨_,et,fY (fV (j:=2) rfl) ⟨yo,fun l hl=>q l _ (fW hl _) hl fS⟩⟩)
 |case a b=>
  cases iy with
  |cons h1 iy=>cases h1;exact ui rfl et hF (ui rfl et hL (BB rfl et hC ⟨_,et,fY (fV (j:=1) rfl) ⟨yo,fun l hl=>q l _ (fW hl _) hl fS⟩⟩))
 |_=>exact ui rfl et hF (ui rfl et hL (ui rfl et hC ⟨t,_,rfl,it,ro,q⟩))
structure Ctx (CP:Zx) (H:Hp) (A:Mad) (names:Zd) (roots:List Nat) (ρs:List Ro) (ho:Nat->Option Hm):Prop where
 p:∃n r w dx xs,PrA CP H A.p n r w dx xs names roots ρs/\A.p∉A.all/\n∉A.all/\r∉A.all/\w∉A.all
 h:∃hs,H A.h=some (.lst hs)/\A.h∉A.all/\∀(k:Nat) (ρ:Ro),ρs[k]?=some ρ->∃y,hs[k]?=some y/\Im H y (hoD (ho k))
 ok:∀ρ∈ρs,ρ.ok
def Ctx.fm {C CP:Zx} {H H':Hp} {A:Mad} {tu:Nat} {s:Ms} {names:Zd} {roots:List Nat} {ρs:List Ro} {ho:Nat->Option Hm} (c:Ctx CP H A names roots ρs ho) (M:Mc C H A tu s) (F:FM A H H'):Ctx CP H' A names roots ρs ho:=by have k:=M.tk F;obtain⟨⟨n,r,w,dx,xs,pr,n1,n2,n3,n4⟩,⟨hs,e,n5,hh⟩,ok⟩:=c;exact⟨⟨n,r,w,dx,xs,⟨F.get pr.o n1,F.get pr.n n2,F.get pr.r n3,F.get pr.w n4,pr.i.mono k⟩,n1,n2,n3,n4⟩,⟨hs,F.get e n5,n5,fun j ρ hj=>let⟨y,a,b⟩:=hh j ρ hj;⟨y,a,b.mono k⟩⟩,ok⟩
def oY {p h me ha de st rd:Zx} {tu bg:Int} {en:V}:(fMc p h tu bg en me ha de st rd).lookup ("program":Str)=some (.ref p):=by kernel_rfl
def BC {p h me ha de st rd:Zx} {tu bg:Int} {en:V}:(fMc p h tu bg en me ha de st rd).lookup ("homes":Str)=some (.ref h):=by kernel_rfl
def Fb {p h me ha de st rd:Zx} {tu bg v:Int} {en:V}:jD "begun" (.int v) (fMc p h tu bg en me ha de st rd)=fMc p h tu v en me ha de st rd:=by kernel_rfl
def xP {ρ:Ro} (h:ρ.ok):(ma ρ).length<=101:=by
 cases ρ with
 |rcd l=>have:l.length<=100:=h.1;show(l.map _).length<=_;rw[aD];lia
 |row l=>have:l.length<=100:=h;show l.length<=_;lia
 |op o l=>have:l.length<=100:=h.2;show l.length<=_;lia
 |_=>exact of_decide_eq_true rfl
def BD {C:Zx} {H:Hp} {A:Mad} {tu:Nat} {s:Ms} {σ:St} {j i:Nat} {m:Str} {p:Int} {x:V} {sc:Ev} {t:Stp} {D:pT} (hσ:σ[0]?=some (some (.ref A.m))) (hp:σ[j]?=some (some (.int p))) (hx:σ[i]?=some (some x)) (M:Mc C H A tu s) (ix:Im H x sc.d) (ht:t.d= .tup [sD m,kD p,sc.d]) (ls:s.st.length<10000000) (k:∀H',Mc C H' A tu {s with st:=t::s.st}->FM A H H'->D.nx σ H'):
  Gy (KS (Gg C "steps" (cV 0)) (Jf (kI (tC (.str m)) (kI (cV j) (kI (cV i) yt))))) D σ H:=by
 have sl:=Lc;show onV σ[0]? _;rw[hσ];obtain⟨xs,e,_⟩:=M.st;refine⟨_,⟨_,_,M.o,lE⟩,⟨_,e⟩,?_⟩;show onV σ[j]? _;rw[hp];show onV σ[i]? _;rw[hx];refine⟨kP,fun a ha=>?_⟩;have S1:=fW ha (.tup [.str m,.int p,x]);have M1:=M.same S1;have i1:Im (MB H a (.tup [.str m,.int p,x])) (.ref a) t.d:=by rw[ht];exact oX ha (.cons (.flat rfl) (.cons (.flat rfl) (.cons ix .nil)))
 obtain⟨xs1,e1,l1,M2,F2⟩:=M1.stP i1;exact⟨xs1,e1,by lia,k _ M2 ((FM.same S1).trans F2)⟩
inductive XBe (C CP:Zx) (vs:List V) (H:Hp) (Q:VK):Prop
 |mk (A:Mad) (tu:Nat) (s:Ms) (p:Int) (sc:Ev) (x:V) (ρ:Ro) (names:Zd) (roots:List Nat) (ρs:List Ro) (ho:Nat->Option Hm) (e:vs=[.ref A.m,.int p,x]) (M:Mc C H A tu s) (c:Ctx CP H A names roots ρs ho) (hk:tu<=s.bg\/∃k:Nat,p=k/\ρs[k]?=some ρ) (ix:Im H x sc.d) (hb:Bd 9000000 s) (q:∀H',Mc C H' A tu (if tu<=s.bg then{s with en:=some "turns"}else{s with bg:=s.bg+ 1,st:=(ma ρ).map (fun k=> .beg k sc)++ .par p sc::s.st})->FM A H H'->Q .non H')
def JT (C CP:Zx):Sp:=fun vs H Q _=>XBe C CP vs H Q
def BgI (C:Zx) (A:Mad) (tu:Nat) (s:Ms) (k:Nat) (sc:Ev) (x:V) (ρ:Ro) (H:Hp) (lp:Zx) (i:Nat) (σ:St) (H2:Hp):Prop:=∃(o:Option V),Y5 (σ=[some (.ref A.m),some (.int (k:Int)),some x,o]) (Mc C H2 A tu {s with bg:=s.bg+ 1,st:=((ma ρ).drop ((ma ρ).length-i)).map (fun k=> .beg k sc)++ .par (k:Int) sc::s.st}) (Im H2 x sc.d) (FM A H H2) (H2 lp=some (.lst ((ma ρ).map V.int)))
def qY (T:Txt K mg):MO P w base mg 8 T.e59 (JT T.c5.a T.c7.a):=by
 refine T.e59.F.rd mU fun cdv A0 outer s0 H vs Q E hr h=>?_;obtain⟨A,tu,s,p,sc,x,ρ,names,roots,ρs,ho,rfl,M,c,hk,ix,hb,q⟩:=h;refine⟨_,(fN (gJ (gb Jy (gk T.c5.cl T.n5begun (cv 0)) (gk T.c5.cl T.n5turns (cv 0)))
   (fN (iX T.c5.cl T.n5end (i8 (MC (cv 0)) (MC fX) rfl))
   (fU Af))
   gi)
  (fN (vJ (cv 0) fQ Dy)
  (fN (gv (iO (jq eO eP eQ gK (MC (gk T.c5.cl T.n5steps (cv 0))) (fM (MC (ie (fM fX (fM (cv 1) (fM (cv 2) fO))))) fO))))
  (fU (kl Lh rfl (Hn rfl T.z_reversed (fM (pF T.d4 (nZ T) hr.m (fM (gf f7 (gk T.c7.cl T.n7rows (gk T.c5.cl T.n5program (cv 0))) (cv 1)) fO)) fO)) (pN (i:=3) mU.nd)
   (fU (gv (iO (jq eO eP eQ gK (MC (gk T.c5.cl T.n5steps (cv 0))) (fM (MC (ie (fM fX (fM (cv 3) (fM (cv 2) fO))))) fO)))))))))),?_⟩;have sl:=Lc;refine⟨_,⟨_,_,M.o,sE⟩,_,⟨_,_,M.o,Bz⟩,?_⟩;by_cases ht:tu<=s.bg;·rw[gT ht]at q;obtain⟨M3,F3⟩:=M.setO s.bg (some "turns");refine HE (by lia) (iC ⟨_,_,M.o,by show 10<1000;decide,?_⟩);rw[rj];exact q _ M3 F3
 rw[gN ht]at q;refine HD (by lia) (gX ?_);obtain⟨k,rfl,hk1⟩:=hk.resolve_left ht;replace hk:=hk1;obtain⟨M1,F1⟩:=M.setO (s.bg+ 1) s.en;refine⟨A.m,_,_,_,_,rfl,M.o,T.c5.cl,T.n5begun,sE,?_⟩;refine⟨_,_,rfl,rfl,_,_,M.o,by show 10<1000;decide,?_⟩;rw[show((s.bg:Int)+ 1)=((s.bg+ 1:Nat):Int) by lia,Fb];have ix1:=ix.mono (M.tk F1);have c1:=c.fm M F1;dsimp only;generalize MB H A.m (.ins T.c5.a A.dx (fMc A.p A.h tu ((s.bg+ 1:Nat):Int) (enV s.en) A.me A.ha A.de A.st A.rd))=H1 at M1 F1 ix1 c1⊢;have lst:=hb.2.2.2.1;refine BD (sc:=sc) (t:= .par (k:Int) sc) (m:="parts") rfl rfl rfl M1 ix1 rfl (by show s.st.length<_;lia) fun H2 M2 F2=>?_;have ix2:=ix1.mono (M1.tk F2);have F02:=F1.trans F2;have c2:=c1.fm M1 F2;obtain⟨n,r,w,dx,xs,pr,n1,n2,n3,n4⟩:=c2.p;obtain⟨tr,ys,hxt,etr,_,him⟩:=uX pr.i hk;have rok:=c.ok ρ (aP hk);refine⟨_,⟨_,_,M2.o,oY⟩,_,⟨_,_,pr.o,oU _ _ _⟩,_,pr.w,fY (fV hxt) ⟨ρ,rok,tr,rfl,him,fun lp H3 S3 hlp e3=>?_⟩⟩;have M3:=M2.same S3;have nl:=M2.new hlp;have fl:(ma ρ).length<=101:=xP rok;refine⟨lp,_,rfl,MD e3,E8 (xs:=(ma ρ).map V.int) (BgI T.c5.a A tu s k sc x ρ H lp) ⟨none,rfl,?_,ix2.mono (gE.tk S3),F02.trans (FM.same S3),e3⟩ (fun i σ H4 _ ⟨_,_,_,_,_,e⟩=>MD e) ?_ ?_⟩;·rw[Nat.sub_zero,bY];exact M3
 ·rintro i v σ H4 hi hx ⟨o,rfl,M4,ix4,F4,e4⟩;rw[aD]at hi hx;rw[aO]at hx;obtain⟨j,hj,rfl⟩:=dy.mp hx;refine BD (sc:=sc) (t:= .beg j sc) (m:="begin") rfl rfl rfl M4 ix4 rfl ?_ fun H5 M5 F5=>⟨_,rfl,?_,ix4.mono (M4.tk F5),F4.trans F5,F5.get e4 nl⟩;·show(((ma ρ).drop _).map _++_::s.st).length<_;rw[aQ,aD,aA,aX];lia
  ·have e:(ma ρ).drop ((ma ρ).length-(i+ 1))=j::(ma ρ).drop ((ma ρ).length-i):=by obtain⟨z1,z2⟩:=au.mp hj;rw[show(ma ρ).length-(i+ 1)=(ma ρ).length-1-i by lia,bR z1,z2,show(ma ρ).length-1-i+ 1=(ma ρ).length-i by lia]
   rw[e];exact M5
 ·rintro σ H4 ⟨o,rfl,M4,ix4,F4,e4⟩;rw[aD,cW,cc]at M4;exact q _ M4 F4
def DP {j:Nat} {σ:St} {a b:Int} {H:Hp} {F:Bool->Hp->Prop} {c:Bool} (hj:σ[j]?=some (some (.int b))) (e:decide (a=b)=c) (h:F (!c) H):cV j σ H fun y H2=>cEq true (.int a) y H2 fun x H'=>onB x fun k=>F k H':=by show onV σ[j]? _;rw[hj];show F (xor true (decide (a=b))) H;rw[e,e8];exact h
def Ev.sz:Ev->Nat
 | .nil=>0
 | .cons _ _ sc=>sc.sz+ 1
inductive XHv (vs:List V) (H:Hp) (Q:VK):Prop
 |mk (sc:Ev) (p:Int) (v:Vl) (x:V) (e:vs=[x,.int p]) (ix:Im H x sc.d) (hv:qW sc p=some v) (q:∀y,Im H y v.d->Q y H)
def JU:Sp:=fun vs H Q _=>XHv vs H Q
def HF {H:Hp} {x:V} {b:Int} {v:Vl} {sc:Ev} (h:Im H x (Ev.cons b v sc).d):∃t y z,x= .ref t/\H t=some (.tup [.int b,y,z])/\Im H y v.d/\Im H z sc.d:=by
 rw[Ev.d]at h
 cases h with
 |tup e i=>
  cases i with
  |cons h1 i=>
   cases i with
   |cons h2 i=>
    cases i with
    |cons h3 i=>cases i;cases h1;exact⟨_,_,_,rfl,e,h2,h3⟩
def HvI (x0:V) (p:Int) (v:Vl) (H:Hp) (m:Nat) (σ:St) (H2:Hp):Prop:=H2=H/\X2 fun(sc:Ev) (x:V)=>Y4 (m=sc.sz) (σ=[some x0,some (.int p),some x]) (Im H x sc.d) (qW sc p=some v)
def uZ (T:Txt K mg):FO P w base 1 T.d5 JU:=by
 refine T.d5.F.rd mL fun cdv A0 outer s0 H vs Q E hr h=>?_;obtain⟨sc,p,v,x,rfl,ix,hv,q⟩:=h;refine⟨_,(fN (pS (i:=2) mL.nd (cv 0))
  (fN (nK Lh (gb v9 (gf gy (cv 2) fQ) (cv 1))
   (fU (pS (i:=2) mL.nd (gf gy (cv 2) fQ))))
  (fU (gj (gf gy (cv 2) fQ))))),?_⟩;refine⟨HvI x p v H,⟨_,rfl,sc,x,rfl,rfl,ix,hv⟩,?_⟩;rintro m σ H2 ⟨rfl,sc,y,rfl,rfl,iy,hv⟩
 cases sc with
 |nil=>cases hv
 |cons b u sc=>
  obtain⟨t,y1,z,rfl,et,i1,i2⟩:=HF iy;refine⟨_,et,fY (fV (j:=0) rfl) ?_⟩;unfold qW at hv;by_cases e:b=p;·rw[gT e]at hv;cases hv;refine DP rfl (gM e) ?_;exact gX ⟨_,et,fY (fV (j:=1) rfl) (q _ i1)⟩
  ·rw[gN e]at hv;refine DP rfl (gQ e) ?_;exact iC ⟨fun σ' H'=>HvI x p v H2 sc.sz σ' H',fun σ' H' h=>⟨_,cM _,h⟩,⟨_,et,fY (fV (j:=2) rfl) ⟨rfl,sc,z,rfl,rfl,i2,hv⟩⟩⟩
inductive XW (C CP:Zx) (U:Ro->Prop) (vs:List V) (H:Hp) (Q:VK):Prop
 |mk (A:Mad) (tu:Nat) (s s':Ms) (k:Nat) (sc:Ev) (t ps:Zx) (x:V) (xs:List V) (l:List Vl) (ρ:Ro) (names:Zd) (roots:List Nat) (ρs:List Ro) (ho:Nat->Option Hm) (e:vs=[.ref A.m,.ref t,.int (k:Int),x,.ref ps]) (M:Mc C H A tu s) (c:Ctx CP H A names roots ρs ho) (hk:ρs[k]?=some ρ) (hu:U ρ) (it:Im H (.ref t) ρ.d) (ix:Im H x sc.d) (ep:H ps=some (.lst xs)) (np:ps∉A.all) (il:Ims H xs (l.map Vl.d)) (hb:Bd 9000000 s) (hw:ku (ho k) k sc ρ l s=some s') (q:∀H',Mc C H' A tu s'->FM A H H'->Q .non H')
def jB (C CP:Zx) (U:Ro->Prop):Sp:=fun vs H Q _=>XW C CP U vs H Q
def n8 {C:Zx} {H:Hp} {A:Mad} {tu:Nat} {s:Ms} {k:Int} {a:Zx} {xs:List V} {ds:List Dt} {v:Vl} {Q:VK} (M:Mc C H A tu s) (hb:Bd 9500000 s) (ha:H a=none) (i:Ims H xs ds) (hv:v.d= .tup ds) (q:∀H',Mc C H' A tu (kR k v s)->FM A H H'->Q .non H'):wy C [.ref A.m,.int k,.ref a] (MB H a (.tup xs)) Q E0:=
 have b1:=hb.2.1
 have b2:=hb.2.2.2.2
 ⟨A,tu,s,k,_,v,rfl,M.same (fW ha _),by rw[hv];exact oX ha i,by lia,by lia,fun H' M' F'=>q H' M' ((FM.same (fW ha _)).trans F')⟩
def sF {C:Zx} {H:Hp} {A:Mad} {tu:Nat} {s:Ms} {k:Int} {x:V} {v:Vl} {Q:VK} (M:Mc C H A tu s) (hb:Bd 9500000 s) (i:Im H x v.d) (q:∀H',Mc C H' A tu (kR k v s)->FM A H H'->Q .non H'):wy C [.ref A.m,.int k,x] H Q E0:=
 have b1:=hb.2.1
 have b2:=hb.2.2.2.2
 ⟨A,tu,s,k,_,v,rfl,M,i,by lia,by lia,q⟩
def Bd.le {n m:Nat} {s:Ms} (h:Bd n s) (k:autoParam (n<=m) L2.Internal.auD._auto_1):Bd m s:=h.mono k
def xQ (T:Txt K mg):FO P w base 4 T.d6 (jB T.c5.a T.c7.a fun ρ=>∃n,ρ= .num n):=by
 refine T.d6.F.rd xA fun cdv A0 outer s0 H vs Q E hr h=>?_;obtain⟨A,tu,s,s',k,sc,t,ps,x,xs,l,ρ,names,roots,ρs,ho,rfl,M,c,hk,⟨n,rfl⟩,it,ix,ep,np,il,hb,hw,q⟩:=h;refine⟨_,(fU (gv (gL (gH (MC (cv 0)) T.c5.cl T.e62.me (gG T) hr.m T.e62.b .nil gY (fM (cv 2) (fM (ie (fM fX (fM (gf gy (cv 1) fQ) (fM (cv 2) fO)))) fO)))))),?_⟩;obtain⟨ys,et,iy⟩:=qO it
 cases iy with
 |cons h1 iy=>
  cases h1
  cases l with
  |cons v l=>exact nomatch(show(none:Option Ms)=some s' from hw)
  |nil=>cases dm.inj hw;exact⟨⟨_,_,M.o,ik gA⟩,_,et,fY (fV (j:=1) rfl) ⟨kP,fun a ha=>n8 (v:= .num n k) M hb.le ha (.cons (.flat rfl) (.cons (.flat rfl) (.cons (.flat rfl) .nil))) (by rw[Vl.d];rfl) q⟩⟩
def yW {i:Nat} {x s:Str} {t:Zx} {ys:List V} {σ:St} {H:Hp} {T u:TS} {D:pT} (hσ:σ[i]?=some (some (.ref t))) (et:H t=some (.tup (.str s::ys))) (e:decide (s=x)=false) (h:u D σ H):z9 (hdT i x) T u D σ H:=yU hσ et e (gX h)
def BE {i:Nat} {x s:Str} {t:Zx} {ys:List V} {σ:St} {H:Hp} {T u:TS} {D:pT} (hσ:σ[i]?=some (some (.ref t))) (et:H t=some (.tup (.str s::ys))) (e:decide (s=x)=true) (h:T D σ H):z9 (hdT i x) T u D σ H:=yU hσ et e (iC h)
def HG {H:Hp} {xs:List V} {a:Vl} (h:Ims H xs ([a].map Vl.d)):∃x,xs=[x]/\Im H x a.d:=by
 cases h with
 |cons h1 h=>cases h;exact⟨_,rfl,h1⟩
def HH {H:Hp} {xs:List V} {a b:Vl} (h:Ims H xs ([a,b].map Vl.d)):∃x y,xs=[x,y]/\Im H x a.d/\Im H y b.d:=by
 cases h with
 |cons h1 h=>
  cases h with
  |cons h2 h=>cases h;exact⟨_,_,rfl,h1,h2⟩
def sG {H:Hp} {x:V} {a b:Dt} (h:Im H x (.tup [a,b])):∃t y z,x= .ref t/\H t=some (.tup [y,z])/\Im H y a/\Im H z b:=by
 cases h with
 |tup e i=>
  cases i with
  |cons h1 i=>
   cases i with
   |cons h2 i=>cases i;exact⟨_,_,_,rfl,e,h1,h2⟩
def pP {α:Type} {l:List α} {i:Int} {a:α} (h:atZ l i=some a):∃k:Nat,i=(k:Int)/\l[k]?=some a:=by
 cases i with
 |ofNat k=>exact⟨k,rfl,h⟩
 |negSucc k=>cases h
def xR {C:Zx} {H:Hp} {A:Mad} {tu:Nat} {s:Ms} {k b:Int} {a:Zx} {xs:List V} {ds:List Dt} {sc:Ev} {Q:VK} (M:Mc C H A tu s) (hb:Bd 9500000 s) (ha:H a=none) (i:Ims H xs ds) (hv:sc.d= .tup ds) (q:∀H',Mc C H' A tu (pM b sc k s)->FM A H H'->Q .non H'):BA C [.ref A.m,.int b,.ref a,.int k] (MB H a (.tup xs)) Q E0:=
 have b1:=hb.2.2.2.1
 ⟨A,tu,s,b,k,_,sc,rfl,M.same (fW ha _),by rw[hv];exact oX ha i,by lia,fun H' M' F'=>q H' M' ((FM.same (fW ha _)).trans F')⟩
def Bd.come {v:Vl} {p k:Int} {f:Bool} {s:Ms} (h:Bd 9000000 s):Bd 9400000 (ij v p k f s):=by obtain⟨a,b,c,d,e⟩:=h;exact⟨by show(_::s.me).length<=_;rw[aA];lia,cE b (by decide),cE c (by decide),cE d (by decide),cE e (by decide)⟩
def zY (T:Txt K mg):FO P w base 4 T.d8 (jB T.c5.a T.c7.a fun ρ=>X2 fun n b=>ρ= .fn n b):=by
 refine T.d8.F.rd zO fun cdv A0 outer s0 H vs Q E hr h=>?_;obtain⟨A,tu,s,s',k,sc,t,ps,x,xs,l,ρ,names,roots,ρs,ho,rfl,M,c,hk,⟨n,b,rfl⟩,it,ix,ep,np,il,hb,hw,q⟩:=h;refine⟨_,(fU (gv (gL (gH (MC (cv 0)) T.c5.cl T.e62.me (gG T) hr.m T.e62.b .nil gY (fM (cv 2) (fM (ie (fM fX (fM (ie (fM (gf gy (cv 1) fQ) (fM (cv 3) fO))) (fM (cv 2) fO)))) fO)))))),?_⟩;obtain⟨ys,et,iy⟩:=qO it;obtain⟨y,et⟩:∃y,H t=some (.tup [.str "fn",y,.int b]):=by
  cases iy with
  |cons h1 iy=>
   cases iy with
   |cons h2 iy=>cases h2;cases iy;exact⟨_,et⟩
 cases l with
 |cons v l=>exact nomatch(show(none:Option Ms)=some s' from hw)
 |nil=>cases dm.inj hw;refine⟨⟨_,_,M.o,ik gA⟩,_,et,fY (fV (j:=2) rfl) ⟨lZ,fun a1 h1=>⟨kP,fun a ha=>?_⟩⟩⟩;have S1:=fW h1 (.tup [.int b,x]);exact n8 (v:= .fn b sc k) (M.same S1) hb.le ha (.cons (.flat rfl) (.cons (oX h1 (.cons (.flat rfl) (.cons ix .nil))) (.cons (.flat rfl) .nil))) (by rw[Vl.d];rfl) fun H' M' F'=>q H' M' ((FM.same S1).trans F')
def xS (T:Txt K mg):FO P w base 4 T.d10 (jB T.c5.a T.c7.a fun ρ=>X3 fun n a b=>ρ= .lt n a b):=by
 refine T.d10.F.rd xB fun cdv A0 outer s0 H vs Q E hr h=>?_;obtain⟨A,tu,s,s',k,sc,t,ps,x,xs,l,ρ,names,roots,ρs,ho,rfl,M,c,hk,⟨n,b0,b,rfl⟩,it,ix,ep,np,il,hb,hw,q⟩:=h;refine⟨_,(fU (gv (gL (gH (MC (cv 0)) T.c5.cl T.e63.me (kh T) hr.m T.e63.b .nil gY (fM (gf gy (cv 1) fQ) (fM (ie (fM (gf gy (cv 1) fQ) (fM (gf f7 (cv 4) fQ) (fM (cv 3) fO)))) (fM (cv 2) fO))))))),?_⟩;obtain⟨ys,et,iy⟩:=qO it;obtain⟨y,et⟩:∃y,H t=some (.tup [.str "let",y,.int b0,.int b]):=by
  cases iy with
  |cons h1 iy=>
   cases iy with
   |cons h2 iy=>
    cases h2
    cases iy with
    |cons h3 iy=>cases h3;cases iy;exact⟨_,et⟩
 match l,hw,il with
 |[],hw,_=>exact nomatch(show(none:Option Ms)=some s' from hw)
 |_::_::_,hw,_=>exact nomatch(show(none:Option Ms)=some s' from hw)
 |[v],hw,il=>obtain⟨y,rfl,iv⟩:=HG il;cases dm.inj hw;exact⟨⟨_,_,M.o,ik gA⟩,_,et,fY (fV (j:=3) rfl) ⟨_,et,fY (fV (j:=2) rfl) ⟨_,ep,fY (fV (j:=0) rfl) ⟨kP,fun a ha=>xR (sc:= .cons b0 v sc) M hb.le ha (.cons (.flat rfl) (.cons iv (.cons ix .nil))) (by rw[Ev.d];rfl) q⟩⟩⟩⟩
def xT (T:Txt K mg):FO P w base 4 T.d13 (jB T.c5.a T.c7.a fun ρ=>X2 fun n b=>ρ= .tag n b):=by
 refine T.d13.F.rd xC fun cdv A0 outer s0 H vs Q E hr h=>?_;obtain⟨A,tu,s,s',k,sc,t,ps,x,xs,l,ρ,names,roots,ρs,ho,rfl,M,c,hk,⟨n,b,rfl⟩,it,ix,ep,np,il,hb,hw,q⟩:=h;refine⟨_,(fU (gv (gL (gH (MC (cv 0)) T.c5.cl T.e62.me (gG T) hr.m T.e62.b .nil gY (fM (cv 2) (fM (ie (fM fX (fM (ie (fM (gf gy (cv 1) fQ) (fM (gf f7 (cv 4) fQ) fO))) (fM (cv 2) fO)))) fO)))))),?_⟩;obtain⟨ys,et,iy⟩:=qO it;obtain⟨y,et⟩:∃y,H t=some (.tup [.str "tag",.str n,y]):=by
  cases iy with
  |cons h1 iy=>
   cases h1
   cases iy with
   |cons h2 iy=>cases iy;exact⟨_,et⟩
 match l,hw,il with
 |[],hw,_=>exact nomatch(show(none:Option Ms)=some s' from hw)
 |_::_::_,hw,_=>exact nomatch(show(none:Option Ms)=some s' from hw)
 |[v],hw,il=>obtain⟨y,rfl,iv⟩:=HG il;cases dm.inj hw;refine⟨⟨_,_,M.o,ik gA⟩,_,et,fY (fV (j:=1) rfl) ⟨_,ep,fY (fV (j:=0) rfl) ⟨lZ,fun a1 h1=>⟨kP,fun a ha=>?_⟩⟩⟩⟩;have S1:=fW h1 (.tup [.str n,y]);exact n8 (v:= .tag n v k) (M.same S1) hb.le ha (.cons (.flat rfl) (.cons (oX h1 (.cons (.flat rfl) (.cons iv .nil))) (.cons (.flat rfl) .nil))) (by rw[Vl.d];rfl) fun H' M' F'=>q H' M' ((FM.same S1).trans F')
def wz (T:Txt K mg):FO P w base 4 T.d7 (jB T.c5.a T.c7.a fun ρ=>∃n,ρ= .name n):=by
 refine T.d7.F.rd qG fun cdv A0 outer s0 H vs Q E hr h=>?_;obtain⟨A,tu,s,s',k,sc,t,ps,x,xs,l,ρ,names,roots,ρs,ho,rfl,M,c,hk,⟨n,rfl⟩,it,ix,ep,np,il,hb,hw,q⟩:=h;refine⟨_,(fN (pS (i:=5) qG.nd (gf f7 (gk T.c5.cl T.n5homes (cv 0)) (cv 2)))
  (fU (gJ (gb iA (gf gy (cv 5) fQ) fX)
   (fU (gv (gL (gH (MC (cv 0)) T.c5.cl T.e62.me (gG T) hr.m T.e62.b .nil gY (fM (cv 2) (fM (gf f7 (gk T.c5.cl T.n5defined (cv 0)) (gf gy (cv 5) fQ)) fO))))))
   (fU (gv (gL (gH (MC (cv 0)) T.c5.cl T.e62.me (gG T) hr.m T.e62.b .nil gY (fM (cv 2) (fM (pF T.d5 (uZ T) hr.m (fM (cv 3) (fM (gf gy (cv 5) fQ) fO))) fO))))))))),?_⟩
 cases l with
 |cons v l=>exact nomatch(show(none:Option Ms)=some s' from hw)
 |nil=>
  obtain⟨hs,eh,_,hh⟩:=c.h;obtain⟨y,ey,iy⟩:=hh k _ hk;have hw:(match ho k with|some h=>if h.1="def" then(atZ s.de h.2).map fun v=>kR k v s else(qW sc h.2).map fun v=>kR k v s|none=>none)=some s':=hw
  cases e:ho k with
  |none=>rw[e]at hw;cases hw
  |some h=>
   rw[e]at hw iy;obtain⟨th,y1,y2,rfl,eth,i1,i2⟩:=sG (show Im H y (.tup [.flat (.str h.1),.flat (.int h.2)])from iy);cases i1;cases i2;have hw:(if h.1="def" then(atZ s.de h.2).map fun v=>kR k v s else(qW sc h.2).map fun v=>kR k v s)=some s':=hw;refine⟨_,⟨_,_,M.o,BC⟩,_,eh,fY (fV ey) ?_⟩;dsimp only[gP];by_cases hd:h.1="def";·rw[gT hd]at hw;obtain⟨v,hv,rfl⟩:=dy.mp hw;obtain⟨j,ej,hj⟩:=pP hv;obtain⟨zs,ez,iz⟩:=M.de;have lz:=iz.length;rw[aD]at lz;have hjl:=(au.mp hj).1;obtain⟨d,hd',im⟩:=kg iz (bE (show j<zs.length by lia));rw[aO,hj]at hd';cases hd';refine BE rfl eth (gM hd) ?_;exact⟨⟨_,_,M.o,ik gA⟩,_,⟨_,_,M.o,oW⟩,_,eth,fY (fV (j:=1) rfl) ⟨_,ez,fY (by rw[ej];exact fV (bE (show j<zs.length by lia))) (sF M hb.le im q)⟩⟩
   ·rw[gN hd]at hw;obtain⟨v,hv,rfl⟩:=dy.mp hw;refine yW rfl eth (gQ hd) ?_;exact⟨⟨_,_,M.o,ik gA⟩,_,eth,fY (fV (j:=1) rfl) ⟨sc,h.2,v,x,rfl,ix,hv,fun y iy=>sF M hb.le iy q⟩⟩
section
variable {hm:Option Hm} {p:Int} {sc:Ev} {ks:List Int} {s s':Ms} {a b:Vl}
def uj {o:Str} (h2:o="call"\/o="join"\/o="add"\/o="sub"\/o="less") {l:List Vl} (h:ku hm p sc (.op o ks) l s=some s'):∃a b,l=[a,b]:=by
 have no:∀l',l'=l->ku hm p sc (.op o ks) l' s=none->False:=fun l' e z=>by rw[e,h]at z;cases z
 match l,no with
 |[a,b],_=>exact⟨a,b,rfl⟩
 |[],no=>exact(no _ rfl (by rcases h2 with rfl|rfl|rfl|rfl|rfl<;>kernel_rfl)).elim
 |[_],no=>exact(no _ rfl (by rcases h2 with rfl|rfl|rfl|rfl|rfl<;>kernel_rfl)).elim
 |_::_::_::_,no=>exact(no _ rfl (by rcases h2 with rfl|rfl|rfl|rfl|rfl<;>kernel_rfl)).elim
def xU:ku hm p sc (.op "call" ks) [a,b] s=match a with
  | .fn c e _=>some (pM c (.cons c b e) p (ij a p 0 true s))
  |_=>some (ij a p 0 false s):=by kernel_rfl
def xV:ku hm p sc (.op "join" ks) [a,b] s=if(iB "row" a b p s).2 then if 500<(kr a).length\/500<(kr b).length then none else if 60<(kr a++kr b).length then some {(iB "row" a b p s).1 with en:=some "full"}else some (kR p (.row (Cg (kr a++kr b)) p) (iB "row" a b p s).1)else some (iB "row" a b p s).1:=by kernel_rfl
def BF:ku hm p sc (.op "add" ks) [a,b] s=if(iB "num" a b p s).2 then some (kR p (.num (mO a+mO b) p) (iB "num" a b p s).1)else some (iB "num" a b p s).1:=by kernel_rfl
def BG:ku hm p sc (.op "sub" ks) [a,b] s=if(iB "num" a b p s).2 then some (kR p (.num (mO a-mO b) p) (iB "num" a b p s).1)else some (iB "num" a b p s).1:=by kernel_rfl
def xW:ku hm p sc (.op "less" ks) [a,b] s=if(iB "num" a b p s).2 then some (kR p (E6 (decide (mO a<mO b)) p) (iB "num" a b p s).1)else some (iB "num" a b p s).1:=by kernel_rfl
def sH {sh:Str} (h:(iB sh a b p s).2=true):a.s=sh/\b.s=sh:=by
 unfold iB at h
 cases e:isS sh a with
 |false=>rw[e]at h;cases h
 |true=>rw[e]at h;exact⟨of_decide_eq_true e,of_decide_eq_true h⟩
def Bd.both {sh:Str} (h:Bd 9000000 s):Bd 9400000 (iB sh a b p s).1:=by
 obtain⟨h1,h2,h3,h4,h5⟩:=h;have d:(9000000:Nat)<=9400000:=by decide
 unfold iB
 cases isS sh a with
 |false=>exact⟨by show(_::s.me).length<=_;rw[aA];lia,cE h2 d,cE h3 d,cE h4 d,cE h5 d⟩
 |true=>exact⟨by show(_::_::s.me).length<=_;rw[aA,aA];lia,cE h2 d,cE h3 d,cE h4 d,cE h5 d⟩
end
def sI {v:Vl} (h:v.s="num"):∃n p,v= .num n p:=by
 cases v with
 |num n p=>exact⟨n,p,rfl⟩
 |fn _ _ _=>exact absurd (show("fn":Str)="num" from h) gA
 |rcd _ _=>exact absurd (show("rec":Str)="num" from h) gA
 |tag _ _ _=>exact absurd (show("tag":Str)="num" from h) gA
 |row _ _=>exact absurd (show("row":Str)="num" from h) gA
def sJ {v:Vl} (h:v.s="row"):∃n p,v= .row n p:=by
 cases v with
 |row n p=>exact⟨n,p,rfl⟩
 |fn _ _ _=>exact absurd (show("fn":Str)="row" from h) gA
 |rcd _ _=>exact absurd (show("rec":Str)="row" from h) gA
 |tag _ _ _=>exact absurd (show("tag":Str)="row" from h) gA
 |num _ _=>exact absurd (show("num":Str)="row" from h) gA
def sL {H:Hp} {x:V} {n p:Int} (h:Im H x (Vl.num n p).d):∃t,x= .ref t/\H t=some (.tup [.str "num",.int n,.int p]):=by obtain⟨t,y,rfl,e,i⟩:=nY h;cases(show Im H y (kD n)from i);exact⟨t,rfl,e⟩
def DQ {C:Zx} {H:Hp} {A:Mad} {tu:Nat} {s:Ms} {k:Int} {a1 a2 a3 a:Zx} {f:Bool} {Q:VK} (M:Mc C H A tu s) (hb:Bd 9500000 s) (h1:H a1=none) (h2:(MB H a1 (.tup [])) a2=none) (h3:(MB (MB H a1 (.tup [])) a2 (.tup [.str "rec",.ref a1,.int k])) a3=none)
  (h4:(MB (MB (MB H a1 (.tup [])) a2 (.tup [.str "rec",.ref a1,.int k])) a3 (.tup [.str (if f then "yes" else "no"),.ref a2])) a=none) (q:∀H',Mc C H' A tu (kR k (E6 f k) s)->FM A H H'->Q .non H'):
  wy C [.ref A.m,.int k,.ref a] (MB (MB (MB (MB H a1 (.tup [])) a2 (.tup [.str "rec",.ref a1,.int k])) a3 (.tup [.str (if f then "yes" else "no"),.ref a2])) a (.tup [.str "tag",.ref a3,.int k])) Q E0:=by have S:=((fW h1 (.tup [])).trans (fW h2 (.tup [.str "rec",.ref a1,.int k]))).trans (fW h3 (.tup [.str (if f then "yes" else "no"),.ref a2]));exact n8 (v:=E6 f k) (M.same S) hb h4 (.cons (.flat rfl) (.cons (oX h3 (.cons (.flat rfl) (.cons (oX h2 (.cons (.flat rfl) (.cons (oX h1 .nil) (.cons (.flat rfl) .nil)))) .nil))) (.cons (.flat rfl) .nil))) (by unfold E6;rw[Vl.d,Vl.d,Vls.ds];rfl) fun H' M' F'=>q H' M' ((FM.same S).trans F')
def xX (T:Txt K mg):FO P w base 4 T.d15 (jB T.c5.a T.c7.a fun ρ=>∃ks,ρ= .row ks):=by refine T.d15.F.rd xD fun cdv A0 outer s0 H vs Q E hr h=>?_;obtain⟨A,tu,s,s',k,sc,t,ps,x,xs,l,ρ,names,roots,ρs,ho,rfl,M,c,hk,⟨ks,rfl⟩,it,ix,ep,np,il,hb,hw,q⟩:=h;refine⟨_,(fU (gv (gL (gH (MC (cv 0)) T.c5.cl T.e62.me (gG T) hr.m T.e62.b .nil gY (fM (cv 2) (fM (ie (fM fX (fM (iG jo rfl T.z_tuple kQ (fM (cv 4) fO)) (fM (cv 2) fO)))) fO)))))),?_⟩;cases dm.inj (show some (kR k (.row (Cg l) k) s)=some s' from hw);refine⟨⟨_,_,M.o,ik gA⟩,ps,xs,rfl,.inl ⟨MD ep,fun a1 h1=>⟨kP,fun a ha=>?_⟩⟩⟩;have S1:=fW h1 (.tup xs);exact n8 (v:= .row (Cg l) k) (M.same S1) hb.le ha (.cons (.flat rfl) (.cons (oX h1 il) (.cons (.flat rfl) .nil))) (by rw[Vl.d,CY,Bx];rfl) fun H' M' F'=>q H' M' ((FM.same S1).trans F')
def wA (T:Txt K mg):FO P w base 4 T.d9 (jB T.c5.a T.c7.a fun ρ=>∃ks,ρ= .op "call" ks):=by
 refine T.d9.F.rd qH fun cdv A0 outer s0 H vs Q E hr h=>?_;obtain⟨A,tu,s,s',k,sc,t,ps,x,xs,l,ρ,names,roots,ρs,ho,rfl,M,c,hk,⟨ks,rfl⟩,it,ix,ep,np,il,hb,hw,q⟩:=h;refine⟨_,(fU (gJ (iL (gL (gH (MC (cv 0)) T.c5.cl T.e65.me (i6 T) hr.m T.e65.b .nil gY (fM fX (fM (gf f7 (cv 4) fQ) (fM (cv 2) (fM fQ fO)))))))
   (fN (pS (i:=5) qH.nd (gf gy (gf f7 (cv 4) fQ) fQ))
   (fU (gv (gL (gH (MC (cv 0)) T.c5.cl T.e63.me (kh T) hr.m T.e63.b .nil gY (fM (gf gy (cv 5) fQ) (fM (ie (fM (gf gy (cv 5) fQ) (fM (gf f7 (cv 4) fQ) (fM (gf gy (cv 5) fQ) fO)))) (fM (cv 2) fO))))))))
   gi)),?_⟩;obtain⟨f,a,rfl⟩:=uj (.inl rfl) hw;obtain⟨x0,x1,rfl,i0,i1⟩:=HH il;rw[xU]at hw;have b1:=hb.1;refine⟨⟨_,_,M.o,ik gA⟩,_,ep,fY (fV (j:=0) rfl) ⟨A,tu,s,"fn",x0,f,k,0,rfl,M,i0,by lia,fun H1 M1 F1=>?_⟩⟩;have ep1:=F1.get ep np;have i01:=i0.mono (M.tk F1);have i11:=i1.mono (M.tk F1);have no:f.s≠"fn"->some (ij f k 0 false s)=some s'->isS "fn" f=false/\∀H',Mc T.c5.a H' A tu (ij f k 0 (isS "fn" f) s)->FM A H H'->Q .non H':=fun n e=>by have:isS "fn" f=false:=gQ n;refine⟨this,?_⟩;rw[this,dm.inj e];exact q
 cases f with
 |fn c e pf=>
  have e1:isS "fn" (.fn c e pf)=true:=by kernel_rfl
  rw[e1]at M1⊢;cases dm.inj (show some (pM c (.cons c a e) k (ij (.fn c e pf) k 0 true s))=some s' from hw);obtain⟨t0,y,rfl,et,iy⟩:=nY i01;obtain⟨t1,y1,y2,rfl,et1,j1,j2⟩:=sG (show Im H1 y (.tup [kD c,e.d])from iy);cases j1;refine⟨_,rfl,iC ⟨_,ep1,fY (fV (j:=0) rfl) ⟨_,et,fY (fV (j:=1) rfl) ?_⟩⟩⟩;exact⟨⟨_,_,M1.o,ik gA⟩,_,et1,fY (fV (j:=0) rfl) ⟨_,et1,fY (fV (j:=0) rfl) ⟨_,ep1,fY (fV (j:=1) rfl) ⟨_,et1,fY (fV (j:=1) rfl) ⟨kP,fun a' ha=>xR (sc:= .cons c a e) M1 hb.come.le ha (.cons (.flat rfl) (.cons i11 (.cons j2 .nil))) (by rw[Ev.d];rfl) fun H' M' F'=>q H' M' (F1.trans F')⟩⟩⟩⟩⟩
 |num _ _=>obtain⟨z,qq⟩:=no (by show("num":Str)≠"fn";decide+kernel) hw;rw[z]at qq M1⊢;exact⟨_,rfl,gX (qq _ M1 F1)⟩
 |rcd _ _=>obtain⟨z,qq⟩:=no (by show("rec":Str)≠"fn";decide+kernel) hw;rw[z]at qq M1⊢;exact⟨_,rfl,gX (qq _ M1 F1)⟩
 |tag _ _ _=>obtain⟨z,qq⟩:=no (by show("tag":Str)≠"fn";decide+kernel) hw;rw[z]at qq M1⊢;exact⟨_,rfl,gX (qq _ M1 F1)⟩
 |row _ _=>obtain⟨z,qq⟩:=no (by show("row":Str)≠"fn";decide+kernel) hw;rw[z]at qq M1⊢;exact⟨_,rfl,gX (qq _ M1 F1)⟩
def xY (T:Txt K mg):FO P w base 4 T.d19 (jB T.c5.a T.c7.a fun ρ=>∃ks,ρ= .op "add" ks):=by
 refine T.d19.F.rd xE fun cdv A0 outer s0 H vs Q E hr h=>?_;obtain⟨A,tu,s,s',k,sc,t,ps,x,xs,l,ρ,names,roots,ρs,ho,rfl,M,c,hk,⟨ks,rfl⟩,it,ix,ep,np,il,hb,hw,q⟩:=h;refine⟨_,(fU (gJ (iL (gL (gH (MC (cv 0)) T.c5.cl T.e66.me (iD T) hr.m T.e66.b .nil gY (fM fX (fM (cv 4) (fM (cv 2) fO))))))
   (fU (gv (gL (gH (MC (cv 0)) T.c5.cl T.e62.me (gG T) hr.m T.e62.b .nil gY (fM (cv 2) (fM (ie (fM fX (fM (gB jE (gf gy (gf f7 (cv 4) fQ) fQ) (gf gy (gf f7 (cv 4) fQ) fQ)) (fM (cv 2) fO)))) fO))))))
   gi)),?_⟩;obtain⟨a,b,rfl⟩:=uj (.inr (.inr (.inl rfl))) hw;obtain⟨x0,x1,rfl,i0,i1⟩:=HH il;rw[BF]at hw;have b1:=hb.1;refine⟨⟨_,_,M.o,ik gA⟩,A,tu,s,"num",ps,x0,x1,a,b,k,rfl,M,ep,fun z=>np (by rw[z];exact ai),fun z=>np (aj _ z),i0,i1,by lia,fun H1 M1 F1=>?_⟩
 cases e:(iB "num" a b k s).2 with
 |false=>rw[e,gN eV]at hw;cases dm.inj hw;exact⟨_,rfl,gX (q _ M1 F1)⟩
 |true=>rw[e,gT rfl]at hw;obtain⟨ea,eb⟩:=sH e;obtain⟨n,pn,rfl⟩:=sI ea;obtain⟨m,pm,rfl⟩:=sI eb;cases dm.inj hw;obtain⟨ta,rfl,eta⟩:=sL (i0.mono (M.tk F1));obtain⟨tb,rfl,etb⟩:=sL (i1.mono (M.tk F1));have ep1:=F1.get ep np;exact⟨_,rfl,iC ⟨⟨_,_,M1.o,ik gA⟩,_,ep1,fY (fV (j:=0) rfl) ⟨_,eta,fY (fV (j:=1) rfl) ⟨_,ep1,fY (fV (j:=1) rfl) ⟨_,etb,fY (fV (j:=1) rfl) ⟨kP,fun a' ha=>n8 (v:= .num (n+m) k) M1 hb.both.le ha (.cons (.flat rfl) (.cons (.flat rfl) (.cons (.flat rfl) .nil))) (by rw[Vl.d];rfl) fun H' M' F'=>q H' M' (F1.trans F')⟩⟩⟩⟩⟩⟩
def xZ (T:Txt K mg):FO P w base 4 T.d20 (jB T.c5.a T.c7.a fun ρ=>∃ks,ρ= .op "sub" ks):=by
 refine T.d20.F.rd xF fun cdv A0 outer s0 H vs Q E hr h=>?_;obtain⟨A,tu,s,s',k,sc,t,ps,x,xs,l,ρ,names,roots,ρs,ho,rfl,M,c,hk,⟨ks,rfl⟩,it,ix,ep,np,il,hb,hw,q⟩:=h;refine⟨_,(fU (gJ (iL (gL (gH (MC (cv 0)) T.c5.cl T.e66.me (iD T) hr.m T.e66.b .nil gY (fM fX (fM (cv 4) (fM (cv 2) fO))))))
   (fU (gv (gL (gH (MC (cv 0)) T.c5.cl T.e62.me (gG T) hr.m T.e62.b .nil gY (fM (cv 2) (fM (ie (fM fX (fM (gB A9 (gf gy (gf f7 (cv 4) fQ) fQ) (gf gy (gf f7 (cv 4) fQ) fQ)) (fM (cv 2) fO)))) fO))))))
   gi)),?_⟩;obtain⟨a,b,rfl⟩:=uj (.inr (.inr (.inr (.inl rfl)))) hw;obtain⟨x0,x1,rfl,i0,i1⟩:=HH il;rw[BG]at hw;have b1:=hb.1;refine⟨⟨_,_,M.o,ik gA⟩,A,tu,s,"num",ps,x0,x1,a,b,k,rfl,M,ep,fun z=>np (by rw[z];exact ai),fun z=>np (aj _ z),i0,i1,by lia,fun H1 M1 F1=>?_⟩
 cases e:(iB "num" a b k s).2 with
 |false=>rw[e,gN eV]at hw;cases dm.inj hw;exact⟨_,rfl,gX (q _ M1 F1)⟩
 |true=>rw[e,gT rfl]at hw;obtain⟨ea,eb⟩:=sH e;obtain⟨n,pn,rfl⟩:=sI ea;obtain⟨m,pm,rfl⟩:=sI eb;cases dm.inj hw;obtain⟨ta,rfl,eta⟩:=sL (i0.mono (M.tk F1));obtain⟨tb,rfl,etb⟩:=sL (i1.mono (M.tk F1));have ep1:=F1.get ep np;exact⟨_,rfl,iC ⟨⟨_,_,M1.o,ik gA⟩,_,ep1,fY (fV (j:=0) rfl) ⟨_,eta,fY (fV (j:=1) rfl) ⟨_,ep1,fY (fV (j:=1) rfl) ⟨_,etb,fY (fV (j:=1) rfl) ⟨kP,fun a' ha=>n8 (v:= .num (n-m) k) M1 hb.both.le ha (.cons (.flat rfl) (.cons (.flat rfl) (.cons (.flat rfl) .nil))) (by rw[Vl.d];rfl) fun H' M' F'=>q H' M' (F1.trans F')⟩⟩⟩⟩⟩⟩
def wB (T:Txt K mg):FO P w base 4 T.d21 (jB T.c5.a T.c7.a fun ρ=>∃ks,ρ= .op "less" ks):=by
 refine T.d21.F.rd qJ fun cdv A0 outer s0 H vs Q E hr h=>?_;obtain⟨A,tu,s,s',k,sc,t,ps,x,xs,l,ρ,names,roots,ρs,ho,rfl,M,c,hk,⟨ks,rfl⟩,it,ix,ep,np,il,hb,hw,q⟩:=h;refine⟨_,(fU (gJ (iL (gL (gH (MC (cv 0)) T.c5.cl T.e66.me (iD T) hr.m T.e66.b .nil gY (fM fX (fM (cv 4) (fM (cv 2) fO))))))
   (fN (pS (i:=5) qJ.nd (nH (gb tm (gf gy (gf f7 (cv 4) fQ) fQ) (gf gy (gf f7 (cv 4) fQ) fQ)) fX fX))
   (fU (gv (gL (gH (MC (cv 0)) T.c5.cl T.e62.me (gG T) hr.m T.e62.b .nil gY (fM (cv 2) (fM (ie (fM fX (fM (ie (fM (cv 5) (fM (ie (fM fX (fM (ie fO) (fM (cv 2) fO)))) fO))) (fM (cv 2) fO)))) fO)))))))
   gi)),?_⟩;obtain⟨a,b,rfl⟩:=uj (.inr (.inr (.inr (.inr rfl)))) hw;obtain⟨x0,x1,rfl,i0,i1⟩:=HH il;rw[xW]at hw;have b1:=hb.1;refine⟨⟨_,_,M.o,ik gA⟩,A,tu,s,"num",ps,x0,x1,a,b,k,rfl,M,ep,fun z=>np (by rw[z];exact ai),fun z=>np (aj _ z),i0,i1,by lia,fun H1 M1 F1=>?_⟩
 cases e:(iB "num" a b k s).2 with
 |false=>rw[e,gN eV]at hw;cases dm.inj hw;exact⟨_,rfl,gX (q _ M1 F1)⟩
 |true=>
  rw[e,gT rfl]at hw;obtain⟨ea,eb⟩:=sH e;obtain⟨n,pn,rfl⟩:=sI ea;obtain⟨m,pm,rfl⟩:=sI eb;cases dm.inj hw;obtain⟨ta,rfl,eta⟩:=sL (i0.mono (M.tk F1));obtain⟨tb,rfl,etb⟩:=sL (i1.mono (M.tk F1));have ep1:=F1.get ep np;refine⟨_,rfl,iC ⟨_,ep1,fY (fV (j:=0) rfl) ⟨_,eta,fY (fV (j:=1) rfl) ⟨_,ep1,fY (fV (j:=1) rfl) ⟨_,etb,fY (fV (j:=1) rfl) ?_⟩⟩⟩⟩⟩;dsimp only[cI0,onB]
  cases hd:decide (n<m)with
  |true=>refine iC ?_;dsimp only[gP,tC];exact⟨⟨_,_,M1.o,ik gA⟩,qC,fun a1 h1=>⟨kP,fun a2 h2=>⟨lZ,fun a3 h3=>⟨kP,fun a' ha=>DQ (f:=true) M1 hb.both.le h1 h2 h3 ha (by rw[<-hd];exact fun H' M' F'=>q H' M' (F1.trans F'))⟩⟩⟩⟩
  |false=>refine gX ?_;dsimp only[gP,tC];exact⟨⟨_,_,M1.o,ik gA⟩,qC,fun a1 h1=>⟨kP,fun a2 h2=>⟨lZ,fun a3 h3=>⟨kP,fun a' ha=>DQ (f:=false) M1 hb.both.le h1 h2 h3 ha (by rw[<-hd];exact fun H' M' F'=>q H' M' (F1.trans F'))⟩⟩⟩⟩
def yX {H:Hp} {x:V} {l:Vlr} {p:Int} (h:Im H x (Vl.row l p).d):∃t u zs,x= .ref t/\H t=some (.tup [.str "row",.ref u,.int p])/\H u=some (.tup zs)/\Ims H zs ((uh l).map Vl.d):=by
 obtain⟨t,y,rfl,e,i⟩:=nY h;have i:Im H y (.tup l.ds):=i;rw[CY]at i
 cases i with
 |tup e2 i2=>exact⟨t,_,_,rfl,e,e2,i2⟩
def Fc {K:Zp} {H:Hp} {a b:Zx} {xs ys:List V} {ds es:List Dt} {Q:VK} (ea:H a=some (.tup xs)) (eb:H b=some (.tup ys)) (ia:Ims H xs ds) (ib:Ims H ys es) (hl:xs.length+ys.length<=sizeLine) (q:∀(z:Zx) (zs:List V) (H':Hp),gE H H'->H' z=some (.tup zs)->Ims H' zs (ds++es)->Q (.ref z) H'):Hs K (.ref a) (.ref b) H Q:=by
 refine⟨a,b,xs,ys,rfl,rfl,MI ea,MI eb,hl,fun z=>?_,fun z=>?_,fun p hp=>?_⟩;·subst z;cases ia;exact q b ys H (fun _ _ e=>e) eb ib
 ·subst z;cases ib;rw[aE]at q;exact q a xs H (fun _ _ e=>e) ea ia
 ·exact q p _ _ (fW hp _) fS ((ia.app ib).mono (gE.tk (fW hp _)))
def BH {v:Vl} (h:v.s="tag"):∃t x p,v= .tag t x p:=by
 cases v with
 |tag n x p=>exact⟨n,x,p,rfl⟩
 |fn _ _ _=>exact absurd (show("fn":Str)="tag" from h) gA
 |rcd _ _=>exact absurd (show("rec":Str)="tag" from h) gA
 |row _ _=>exact absurd (show("row":Str)="tag" from h) gA
 |num _ _=>exact absurd (show("num":Str)="tag" from h) gA
def qv {hm:Option Hm} {p b:Int} {sc:Ev} {ks:List (Str×Str×Int)} {s:Ms} {v:Vl} (h:v.s≠"tag"):ku hm p sc (.case b ks) [v] s=some (ij v p 0 false s):=by
 cases v with
 |tag _ _ _=>exact absurd rfl h
 |_=>rfl
theorem u4 {H H':Hp} (k:TK H H'):∀{l:List V} {m:List (Str×V)},Prs H l m->Prs H' l m
 |_,_,.nil=> .nil
 |_,_,.cons h t=> .cons (k _ _ h) (u4 k t)
theorem yY {H:Hp} {a:Zx} {p:Str×V} (e:H a=some (.tup [.str p.1,p.2])):∀{l:List V} {m:List (Str×V)},Prs H l m->Prs H (l++[.ref a]) (m++[p])
 |_,_,.nil=> .cons e .nil
 |_,_,.cons h t=> .cons h (yY e t)
def amP (p:Str×Str×Int):Str×V:=(p.1,.int p.2.2)
def Fe {K:Zp} {a:Zx} {te:TE} {Q:VK} {τ:St} {H1:Hp} {D:Zx} {xs:List V} {α:Type} {f:α->Dt} {g:α->Str×V} {l:List α} (e:H1 a=some (.tup xs)) (I:Ims H1 xs (l.map f)) (hn:l.length<=100) (hD:H1 D=none) (hτ:τ.set 0 none=τ)
  (ht:∀(x:α) (v:V) H (R:VK),Im H v (f x)->(∀p,H p=none->R (.ref p) (upd H p (.tup [.str (g x).1,(g x).2])))->te (τ.set 0 (some v)) H R)
  (hq:∀H' zs,gE H1 H'->H' D=some (.lst zs)->Prs H' zs (l.map g)->Q (.ref D) H'):LcP (Itt K a) 0 uB te Q τ H1 D:=by
 have sl:=Lc;have lx:=I.length;rw[aD]at lx;refine rR l.length (by lia) (fun ys H=>Prs H ys ((l.take ys.length).map g)) (fun xs H H' h k=>u4 k h) hD hτ (fun k H S h=>A6 e S (by lia)) (fun H S=>by rw[<-lx];exact A7 e S) .nil ?_ ?_;·intro k H v H3 ys Z S hk y hys hl hz;obtain⟨rfl,hv⟩:=y;have hv:=hv _ (MI (S _ _ e));obtain⟨d,hd,him⟩:=kg I hv;rw[aO]at hd;obtain⟨x,hx⟩:∃x,l[k]?=some x:=⟨_,bE hk⟩;rw[hx]at hd;cases hd;refine ht x v H3 Z (him.mono (gE.tk S)) fun p hp=>hz _ _ (fW hp _) ?_;rw[aQ,hl,ba,b6,hx,bo,<-hl];exact yY fS (u4 (gE.tk (fW hp _)) hys)
 ·intro H' ys S hys hl e';rw[hl,bx]at hys;exact hq H' ys S e' hys
theorem DR:∀(l:List (Str×Str×Int)) (t:Str),jH ((l.map amP).map kf) (Le t)=(lkI l t).map V.int
 |[],t=>rfl
 |p::l,t=>by
  rw[aC,aC,lkI];by_cases e:p.1=t;·rw[gT e,iU (show(kf (amP p)).1=Le t from congrArg Le e)];rfl
  ·rw[gN e,iV (fun z=>e (Mb z)),DR l t]
def BI {l:List (Str×Str×Int)} (h:(l.map Ld).Nodup) (t:Str):jH (jP [] ((l.map amP).map kf)) (Le t)=(lkI l t).map V.int:=by
 have nd:(((l.map amP).map kf).map (·.1)).Nodup:=by
  rw[bF,bF];have e:List.map (((fun(x:Key×V)=>x.1)∘kf)∘amP) l=(l.map Ld).map (Le:Str->Key):=by rw[bF];rfl
  rw[e];exact List.Pairwise.map _ (fun a b h z=>h (Mb z)) h
 rw[mN _ _ _ nd,DR];cases lkI l t<;>rfl
def wC (T:Txt K mg):FO P w base 4 T.d17 (jB T.c5.a T.c7.a fun ρ=>∃ks,ρ= .op "join" ks):=by
 refine T.d17.F.rd qI fun cdv A0 outer s0 H vs Q E hr h=>?_;obtain⟨A,tu,s,s',k,sc,t,ps,x,xs,l,ρ,names,roots,ρs,ho,rfl,M,c,hk,⟨ks,rfl⟩,it,ix,ep,np,il,hb,hw,q⟩:=h;refine⟨_,(fU (gJ (iL (gL (gH (MC (cv 0)) T.c5.cl T.e66.me (iD T) hr.m T.e66.b .nil gY (fM fX (fM (cv 4) (fM (cv 2) fO))))))
   (fN (pS (i:=5) qI.nd (gB ET (gf gy (gf f7 (cv 4) fQ) fQ) (gf gy (gf f7 (cv 4) fQ) fQ)))
   (fU (gJ (gb qT (gC gx rfl T.z_len iJ (fM (cv 5) fO)) (uA rfl T.o1))
    (fU (iX T.c5.cl T.n5end (i8 (MC (cv 0)) (MC fX) rfl)))
    (fU (gv (gL (gH (MC (cv 0)) T.c5.cl T.e62.me (gG T) hr.m T.e62.b .nil gY (fM (cv 2) (fM (ie (fM fX (fM (cv 5) (fM (cv 2) fO)))) fO)))))))))
   gi)),?_⟩;have sl:=Lc;obtain⟨a,b,rfl⟩:=uj (.inr (.inl rfl)) hw;obtain⟨x0,x1,rfl,i0,i1⟩:=HH il;rw[xV]at hw;have b1:=hb.1;refine⟨⟨_,_,M.o,ik gA⟩,A,tu,s,"row",ps,x0,x1,a,b,k,rfl,M,ep,fun z=>np (by rw[z];exact ai),fun z=>np (aj _ z),i0,i1,by lia,fun H1 M1 F1=>?_⟩
 cases e:(iB "row" a b k s).2 with
 |false=>rw[e,gN eV]at hw;cases dm.inj hw;exact⟨_,rfl,gX (q _ M1 F1)⟩
 |true=>
  rw[e,gT rfl]at hw;obtain⟨ea,eb⟩:=sH e;obtain⟨n,pn,rfl⟩:=sJ ea;obtain⟨m,pm,rfl⟩:=sJ eb;by_cases h5:500<(kr (.row n pn)).length\/500<(kr (.row m pm)).length;·rw[gT h5]at hw;cases hw
  rw[gN h5]at hw;have h5:(uh n).length<=500/\(uh m).length<=500:=by rw[not_or,Nat.not_lt,Nat.not_lt]at h5;exact h5
  obtain⟨ta,ua,za,rfl,eta,eua,ia⟩:=yX (i0.mono (M.tk F1));obtain⟨tb,ub,zb,rfl,etb,eub,ib⟩:=yX (i1.mono (M.tk F1));have ep1:=F1.get ep np;have la:=ia.length;have lb:=ib.length;rw[aD]at la lb;refine⟨_,rfl,iC ⟨_,ep1,fY (fV (j:=0) rfl) ⟨_,eta,fY (fV (j:=1) rfl) ⟨_,ep1,fY (fV (j:=1) rfl) ⟨_,etb,fY (fV (j:=1) rfl) ?_⟩⟩⟩⟩⟩;refine Fc eua eub ia ib (by lia) fun z zs H2 S2 ez iz=>?_;rw[<-bo]at iz;have M2:=M1.same S2;have F2:=F1.trans (FM.same S2);have lz:=iz.length;rw[aD]at lz;dsimp only[gP];refine⟨z,zs,rfl,.inr (MI ez),?_⟩;by_cases h6:60<(uh n++uh m).length;·rw[gT (show 60<(kr (.row n pn)++kr (.row m pm)).length from h6)]at hw;cases dm.inj hw;dsimp only[tC,cI0,onB];rw[gM (show(60:Int)<(zs.length:Int) by lia)];refine iC ⟨_,_,M2.o,by show 10<1000;decide,?_⟩;rw[rj];obtain⟨M3,F3⟩:=M2.setO _ (some "full");exact q _ M3 (F2.trans F3)
  ·rw[gN (show ¬60<(kr (.row n pn)++kr (.row m pm)).length from h6)]at hw;cases dm.inj hw;dsimp only[tC,cI0,onB];rw[gQ (show ¬(60:Int)<(zs.length:Int) by lia)];refine gX ⟨⟨_,_,M2.o,ik gA⟩,kP,fun a' ha=>n8 (v:= .row (Cg (uh n++uh m)) k) M2 hb.both.le ha (.cons (.flat rfl) (.cons (.tup ez iz) (.cons (.flat rfl) .nil))) (by rw[Vl.d,CY,Bx];rfl) fun H' M' F'=>q H' M' (F2.trans F')⟩
def wD (T:Txt K mg):FO P w base 4 T.d14 (jB T.c5.a T.c7.a fun ρ=>X2 fun b ks=>ρ= .case b ks):=by
 refine T.d14.F.rd lJ fun cdv A0 outer s0 H vs Q E hr h=>?_;have hu:=vX hr;obtain⟨A,tu,s,s',k,sc,t,ps,x,xs,l,ρ,names,roots,ρs,ho,rfl,M,c,hk,⟨b,ks,rfl⟩,it,ix,ep,np,il,hb,hw,q⟩:=h;refine⟨_,(fN (pS (i:=5) lJ.nd (iG (zK rfl) rfl T.z_dict xw (fM (tj rfl (Gb (x:="arm") rfl gA gA rfl rfl) (rB (gf gy (cv 1) fQ)) (fun _ _ _ _ _=>mC) (fun _ _ _ _ _=>(ie (fM (gf gy (cv 0) fQ) (fM (gf gy (cv 0) fQ) fO))))) fO)))
  (fN (pS (i:=6) lJ.nd (gf gy (gf f7 (cv 4) fQ) fQ))
  (fU (gJ (iL (gL (gH (MC (cv 0)) T.c5.cl T.e64.me (kN T) hr.m T.e64.b .nil gY (fM (gf f7 (cv 4) fQ) (fM (cv 2) (fM fQ (fM (qD (jO iA (gf gy (gf f7 (cv 4) fQ) fQ) fX) (nS (Dr (AD hu (gf gy (cv 6) fQ) (cv 5)) rfl))) fO)))))))
   (fN (pS (i:=7) lJ.nd (uw hu (cv 5) (gf gy (cv 6) fQ)))
   (fU (gv (gL (gH (MC (cv 0)) T.c5.cl T.e63.me (kh T) hr.m T.e63.b .nil gY (fM (cv 7) (fM (ie (fM (cv 7) (fM (gf gy (cv 6) fQ) (fM (cv 3) fO)))) (fM (cv 2) fO))))))))
   gi)))),?_⟩;obtain⟨ys,et,iy⟩:=qO it;have rok:(ks.length<=100/\(ks.map Ld).Nodup):=c.ok _ (aP hk);obtain⟨u,zs,et,eu,iz⟩:∃u zs,H t=some (.tup [.str "case",.int b,.ref u])/\H u=some (.tup zs)/\Ims H zs (ks.map amD):=by
  cases iy with
  |cons h1 iy=>
   cases h1
   cases iy with
   |cons h2 iy=>
    cases iy
    cases h2 with
    |tup e2 i2=>exact⟨_,_,et,e2,i2⟩
 refine⟨_,et,fY (fV (j:=2) rfl) ⟨u,rfl,⟨_,MI eu⟩,fun D hD=>?_⟩⟩;refine Fe (g:=amP) eu iz rok.1 hD rfl (fun p v H2 R im hR=>?_) fun H1 ws S1 eD pD=>?_
 ·cases im with
  |tup e2 i2=>
   cases i2 with
   |cons h1 i2=>
    cases h1
    cases i2 with
    |cons h2 i2=>
     cases h2
     cases i2 with
     |cons h3 i2=>cases h3;exact⟨_,e2,fY (fV (j:=0) rfl) ⟨_,e2,fY (fV (j:=2) rfl) ⟨lZ,hR⟩⟩⟩
 refine⟨D,ws,_,rfl,eD,pD,by rw[aD];lia,fun d hd=>?_⟩;have S2:=S1.trans (fW hd (.dK (jP [] ((ks.map amP).map kf))));have ed:(MB H1 d (.dK (jP [] ((ks.map amP).map kf)))) d=some (.dK (jP [] ((ks.map amP).map kf))):=fS;dsimp only[gP];generalize MB H1 d (.dK (jP [] ((ks.map amP).map kf)))=H2 at S2 ed⊢;have M2:=M.same S2;match l,hw,il with
 |[],hw,_=>exact nomatch(show(none:Option Ms)=some s' from hw)
 |_::_::_,hw,_=>exact nomatch(show(none:Option Ms)=some s' from hw)
 |[v],hw,il=>
  obtain⟨y,rfl,iv⟩:=HG il;have iv2:=iv.mono (gE.tk S2);have ep2:=S2 _ _ ep;obtain⟨t0,y,rfl,et0,iy⟩:=nY iv2;refine⟨_,ep2,fY (fV (j:=0) rfl) ⟨_,et0,fY (fV (j:=1) rfl) ?_⟩⟩;dsimp only[gP];refine⟨⟨_,_,M2.o,ik gA⟩,_,ep2,fY (fV (j:=0) rfl) ⟨_,ep2,fY (fV (j:=0) rfl) ⟨_,et0,fY (fV (j:=0) rfl) ?_⟩⟩⟩;have b1:=hb.1;have nd:=(M.same S1).new hd;have F2:FM A H H2:=FM.same S2;dsimp only[tC,cEq];refine⟨_,rfl,?_⟩;rw[eZ];by_cases nt:v.s="tag"
  ·obtain⟨t',x',pt,rfl⟩:=BH nt;obtain⟨ty,y1,y2,rfl,ety,j1,j2⟩:=sG (show Im H2 y (.tup [sD t',x'.d])from iy);cases j1;rw[gM (show(Vl.tag t' x' pt).s="tag" from rfl)];have g:=wU.k (k:=(Le t':Key)) ed;rw[BI rok.2]at g;have hw:(match lkI ks t' with|some b=>some (pM b (.cons b x' sc) k (ij (.tag t' x' pt) k 0 true s))|none=>some (ij (.tag t' x' pt) k 0 false s))=some s':=hw;refine iC ⟨_,ety,fY (fV (j:=0) rfl) ⟨d,_,rfl,g,A,tu,s,_,.tag t' x' pt,k,0,_,rfl,M2,iv2,by lia,fun H3 M3 F3=>⟨_,rfl,?_⟩⟩⟩
   cases e:lkI ks t' with
   |none=>rw[e]at hw M3;cases dm.inj hw;exact gX (q _ M3 (F2.trans F3))
   |some bd=>rw[e]at hw M3;cases dm.inj hw;have k3:=M2.tk F3;have g3:=wU.k (k:=(Le t':Key)) (F3.get ed nd);rw[BI rok.2,e]at g3;exact iC ⟨_,k3 _ _ ety,fY (fV (j:=0) rfl) ⟨d,_,rfl,g3,⟨_,_,M3.o,ik gA⟩,_,k3 _ _ ety,fY (fV (j:=1) rfl) ⟨kP,fun a ha=>xR (sc:= .cons bd x' sc) M3 hb.come.le ha (.cons (.flat rfl) (.cons (j2.mono k3) (.cons ((ix.mono (gE.tk S2)).mono k3) .nil))) (by rw[Ev.d];rfl) fun H' M' F'=>q H' M' ((F2.trans F3).trans F')⟩⟩⟩
  ·rw[qv nt]at hw;rw[gQ nt];refine gX ⟨A,tu,s,_,v,k,0,false,rfl,M2,iv2,by lia,fun H3 M3 F3=>⟨_,rfl,gX ?_⟩⟩;cases dm.inj hw;exact q _ M3 (F2.trans F3)
def va {t u:TS} {D:pT} {σ:St} {H:Hp} (N:St->Hp->Prop) (k:∀σ' H',N σ' H'->u D σ' H') (w:∀D':pT,(∀σ' H',N σ' H'->D'.nx σ' H')->t D' σ H):xh t u D σ H:=w {D with nx:=u D} k
def HI {H:Hp} {x:V} {l:Vls} {p:Int} (h:Im H x (Vl.rcd l p).d):∃t u zs,x= .ref t/\H t=some (.tup [.str "rec",.ref u,.int p])/\H u=some (.tup zs)/\Ims H zs ((fdL l).map fvD):=by
 obtain⟨t,y,rfl,e,i⟩:=nY h;have i:Im H y (.tup l.ds):=i;rw[JQ]at i
 cases i with
 |tup e2 i2=>exact⟨t,_,_,rfl,e,e2,i2⟩
theorem DS {H:Hp}:∀{zs:List V} {l:List (Str×Vl)},Ims H zs (l.map fvD)->∃m:List (Str×V),Prs H zs m/\m.map Ld=l.map Ld/\∀w,(∃v y,lkV l w=some v/\jH (m.map kf) (Le w)=some y/\Im H y v.d)\/(lkV l w=none/\jH (m.map kf) (Le w)=none)
 |[],[],_=>⟨[],.nil,rfl,fun w=> .inr ⟨rfl,rfl⟩⟩
 |z::zs,p::l,h=>by
  cases h with
  |cons h1 h2=>
   obtain⟨m,pm,em,g⟩:=DS h2;obtain⟨t,y1,y,rfl,et,i1,i2⟩:=sG (show Im H z (.tup [sD p.1,p.2.d])from h1);cases i1;refine⟨(p.1,y)::m,.cons et pm,by rw[aC,aC,em],fun w=>?_⟩;rw[lkV];by_cases c:p.1=w;·rw[gT c];exact .inl ⟨p.2,y,rfl,by rw[aC,iU (show(kf (p.1,y)).1=Le w from congrArg Le c)];rfl,i2⟩
   ·rw[gN c,aC,iV (fun z=>c (Mb z))];exact g w
def HJ {m:List (Str×V)} (h:(m.map Ld).Nodup) (w:Str):jH (jP [] (m.map kf)) (Le w)=jH (m.map kf) (Le w):=by
 have nd:((m.map kf).map (·.1)).Nodup:=by
  rw[bF];have e:List.map ((fun(x:Key×V)=>x.1)∘kf) m=(m.map Ld).map (Le:Str->Key):=by rw[bF];rfl
  rw[e];exact List.Pairwise.map _ (fun a b h z=>h (Mb z)) h
 rw[mN _ _ _ nd];cases jH (m.map kf) (Le w)<;>rfl
def Ff {K:Zp} {b l D:Zx} {Q:VK} {H1:Hp} {fs xs:List V} {ks:List (Str×Int)} {vs:List Vl} {u0 v0:Option V} (eb:H1 b=some (.tup fs)) (ib:Ims H1 fs (ks.map fdD)) (el:H1 l=some (.lst xs)) (il:Ims H1 xs (vs.map Vl.d)) (hl:vs.length=ks.length) (hk:ks.length<=100) (hD:H1 D=none)
  (hq:∀H' zs,gE H1 H'->H' D=some (.lst zs)->Ims H' zs (((ks.map Ld).zip vs).map fvD)->Q (.ref D) H'):LcG (Itzm K b l) (II K 2 (xm (gP 0) (xm (gP 1) IH))) (Jf (kI (tOp ES (cV 0) (tC (.int 0))) (kI (cV 1) yt))) Q [u0,v0] H1 D:=by
 have sl:=Lc;have l1:=ib.length;have l2:=il.length;rw[aD]at l1 l2;have lz:((ks.map Ld).zip vs).length=ks.length:=by rw[bZ,aD];lia
 refine⟨fun k m σ' H2=>Y5 (m=ks.length-k) (k<=ks.length) ((∃u v,σ'=[u,v])) (gE H1 H2) (∃zs,H2 D=some (.lst zs)/\Ims H2 zs ((((ks.map Ld).zip vs).take k).map fvD)),⟨ks.length,rfl,cJ _,⟨_,_,rfl⟩,fW hD _,[],fS,.nil⟩,?_⟩;rintro k m σ' H2 ⟨rfl,hk',⟨u,v,rfl⟩,S,zs,ez,iz⟩;by_cases hlt:k<ks.length
 ·obtain⟨f,hf⟩:∃f,fs[k]?=some f:=⟨_,bE (by lia)⟩;obtain⟨y,hy⟩:∃y,xs[k]?=some y:=⟨_,bE (by lia)⟩;refine .inr ⟨⟨_,_,_,_,MI (S _ _ eb),MD (S _ _ el),hf,hy⟩,?_⟩;rintro z H3 ⟨T,x,y',rfl,hT,rfl,hx,hy'⟩;have e1:=hx _ (MI (S _ _ eb));have e2:=hy' _ (MD (S _ _ el));rw[hf]at e1;rw[hy]at e2;cases e1;cases e2;obtain⟨d1,g1,j1⟩:=kg ib hf;obtain⟨d2,g2,j2⟩:=kg il hy;obtain⟨p,hp⟩:∃p,ks[k]?=some p:=⟨_,bE hlt⟩;obtain⟨v,hv⟩:∃v,vs[k]?=some v:=⟨_,bE (by lia)⟩;rw[aO,hp]at g1;rw[aO,hv]at g2;cases g1;cases g2;obtain⟨a,y1,y2,rfl,ea,i1,_⟩:=sG j1;cases i1;have S3:=fW hT (.tup [.ref a,y]);refine⟨T,_,rfl,MI fS,rfl,_,_,rfl,_,_,rfl,rfl,?_⟩;refine⟨_,S3 _ _ (S _ _ ea),fY (fV (j:=0) rfl) ⟨lZ,fun t ht=>?_⟩⟩;have S4:=fW ht (.tup [.str p.1,y]);have S34:=S3.trans S4;have e4:=S34 _ _ ez;have lzs:=iz.length;rw[aD,aK,lz]at lzs;have k4:TK _ (MB (MB (MB H2 T (.tup [.ref a,y])) t (.tup [.str p.1,y])) D (.lst (zs++[.ref t]))):=(yC e4).tk;refine⟨zs,e4,by lia,ks.length-(k+ 1),by lia,rfl,hlt,⟨_,_,rfl⟩,?_,_,fS,?_⟩;·intro q u e;rw[f9 (fZ e hD)];exact S34 _ _ (S _ _ e)
  ·rw[b6,show((ks.map Ld).zip vs)[k]?=some (p.1,v) by rw[ck,aO,hp];exact⟨rfl,hv⟩,bo];exact((iz.mono (gE.tk S34)).mono k4).app (.cons (.tup (k4 _ _ (fS (a:=t) (o:= .tup [.str p.1,y]))) (.cons (.flat rfl) (.cons (((j2.mono (gE.tk S)).mono (gE.tk S34)).mono k4) .nil))) .nil)
 ·have e1:k=ks.length:=by lia
  subst e1;refine .inl ⟨⟨_,_,MI (S _ _ eb),MD (S _ _ el),by lia⟩,hq H2 zs S ez ?_⟩;rw[b9 (by lia)]at iz;exact iz
section
variable {hm:Option Hm} {p:Int} {sc:Ev} {ks:List Int} {a b x:Vl} {s:Ms}
def Fg:ku hm p sc (.op "at" ks) [a,b,x] s=if isS "row" a then if isS "num" b then some (kR p (if 0<=mO b/\mO b<(kr a).length then(kr a).getD (mO b).toNat x else x) (ij b p 1 true (ij a p 0 true s)))else some (ij b p 1 false (ij a p 0 true s))else some (ij a p 0 false s):=by kernel_rfl
def ya:ku hm p sc (.op "size" ks) [a] s=if isS "row" a then some (kR p (.num (kr a).length p) (ij a p 0 true s))else some (ij a p 0 false s):=by kernel_rfl
def HK {l:List Vl} {s':Ms} (h:ku hm p sc (.op "at" ks) l s=some s'):∃a b x,l=[a,b,x]:=by
 match l,h with
 |[a,b,x],_=>exact⟨a,b,x,rfl⟩
 |[],h=>exact nomatch(show(none:Option Ms)=some s' from h)
 |[_],h=>exact nomatch(show(none:Option Ms)=some s' from h)
 |[_,_],h=>exact nomatch(show(none:Option Ms)=some s' from h)
 |_::_::_::_::_,h=>exact nomatch(show(none:Option Ms)=some s' from h)
def BJ {l:List Vl} {s':Ms} (h:ku hm p sc (.op "size" ks) l s=some s'):∃a,l=[a]:=by
 match l,h with
 |[a],_=>exact⟨a,rfl⟩
 |[],h=>exact nomatch(show(none:Option Ms)=some s' from h)
 |_::_::_,h=>exact nomatch(show(none:Option Ms)=some s' from h)
def sM {v:Vl} {k0:Int} {w:Str} (h:v.s≠"rec"):ku hm p sc (.get k0 w) [v] s=some (ij v p 0 false s):=by
 cases v with
 |rcd _ _=>exact absurd rfl h
 |_=>rfl
def DT {l:List Vl} {s':Ms} {k0:Int} {w:Str} (h:ku hm p sc (.get k0 w) l s=some s'):∃v,l=[v]:=by
 match l,h with
 |[v],_=>exact⟨v,rfl⟩
 |[],h=>cases h
 |_::_::_,h=>cases h
end
def Bd.come2 {a b:Vl} {p q k j:Int} {f g:Bool} {s:Ms} (h:Bd 9000000 s):Bd 9400000 (ij b q j g (ij a p k f s)):=by
 obtain⟨h1,h2,h3,h4,h5⟩:=h;have d:(9000000:Nat)<=9400000:=by decide
 exact⟨by show(_::_::s.me).length<=_;rw[aA,aA];lia,cE h2 d,cE h3 d,cE h4 d,cE h5 d⟩
def BK {v:Vl} (h:v.s="rec"):∃l p,v= .rcd l p:=by
 cases v with
 |rcd l p=>exact⟨l,p,rfl⟩
 |fn _ _ _=>exact absurd (show("fn":Str)="rec" from h) gA
 |num _ _=>exact absurd (show("num":Str)="rec" from h) gA
 |tag _ _ _=>exact absurd (show("tag":Str)="rec" from h) gA
 |row _ _=>exact absurd (show("row":Str)="rec" from h) gA
def GtI (A:Mad) (H:Hp) (σ0:St) (k:Int) (v:Vl) (w:Str) (s s':Ms) (σ:St) (H2:Hp):Prop:=X2 fun d kvs=>Y5 (σ=σ0++[some (.ref d)]) (gE H H2) (d∉A.all) (H2 d=some (.dK kvs)) (((∃u y,jH kvs (Le w)=some y/\Im H2 y u.d/\s'=kR k u (ij v k 0 true s))\/(jH kvs (Le w)=none/\s'=ij v k 0 false s)))
def yc (T:Txt K mg):FO P w base 4 T.d11 (jB T.c5.a T.c7.a fun ρ=>∃ks,ρ= .rcd ks):=by
 refine T.d11.F.rd se fun cdv A0 outer s0 H vs Q E hr h=>?_;obtain⟨A,tu,s,s',k,sc,t,ps,x,xs,l,ρ,names,roots,ρs,ho,rfl,M,c,hk,⟨ks,rfl⟩,it,ix,ep,np,il,hb,hw,q⟩:=h;refine⟨_,(fN (Be (j:=5) (g:=II K 2 (xm (gP 0) (xm (gP 1) IH))) rfl (Jw (x:="field") (y:="value") rfl gA gA rfl (by decide) rfl) (EO rfl T.z_zip (fM (gf gy (cv 1) fQ) (fM (cv 4) fO))) (pgP rfl gA rfl rfl) (fun _ _ _ _ _=>(ie (fM (gf gy (cv 0) fQ) (fM (cv 1) fO)))) se.nd rfl (.inl rfl))
  (fU (gv (gL (gH (MC (cv 0)) T.c5.cl T.e62.me (gG T) hr.m T.e62.b .nil gY (fM (cv 2) (fM (ie (fM fX (fM (iG jo rfl T.z_tuple kQ (fM (cv 5) fO)) (fM (cv 2) fO)))) fO))))))),?_⟩;have hw:(if ks.length=l.length then some (kR k (.rcd (fdO ((ks.map Ld).zip l)) k) s)else none)=some s':=hw;by_cases hl:ks.length=l.length
 ·rw[gT hl]at hw;cases dm.inj hw;obtain⟨ys,et,iy⟩:=qO it;have rok:ks.length<=100/\_:=c.ok _ (aP hk);obtain⟨u,fs,et,eu,iu⟩:∃u fs,H t=some (.tup [.str "rec",.ref u])/\H u=some (.tup fs)/\Ims H fs (ks.map fdD):=by
   cases iy with
   |cons h1 iy=>
    cases iy
    cases h1 with
    |tup e2 i2=>exact⟨_,_,et,e2,i2⟩
  refine⟨_,et,fY (fV (j:=1) rfl) ⟨u,ps,rfl,⟨_,MI eu⟩,⟨_,MD ep⟩,fun D hD=>?_⟩⟩;refine Ff eu iu ep il hl.symm rok.1 hD fun H2 zs S2 eD iz=>?_;dsimp only[gP];have M2:=M.same S2;refine⟨⟨_,_,M2.o,ik gA⟩,D,_,rfl,.inl ⟨MD eD,fun a1 h1=>⟨kP,fun a ha=>?_⟩⟩⟩;have S1:=fW h1 (.tup zs);exact n8 (v:= .rcd (fdO ((ks.map Ld).zip l)) k) (M2.same S1) hb.le ha (.cons (.flat rfl) (.cons (oX h1 iz) (.cons (.flat rfl) .nil))) (by rw[Vl.d,JQ,JP];rfl) fun H' M' F'=>q H' M' ((FM.same (S2.trans S1)).trans F')
 ·rw[gN hl]at hw;cases hw
def yd (T:Txt K mg):FO P w base 4 T.d12 (jB T.c5.a T.c7.a fun ρ=>X2 fun k0 w0=>ρ= .get k0 w0):=by
 refine T.d12.F.rd sg fun cdv A0 outer s0 H vs Q E hr h=>?_;have hu:=vX hr;obtain⟨A,tu,s,s',k,sc,t,ps,x,xs,l,ρ,names,roots,ρs,ho,rfl,M,c,hk,⟨k0,w0,rfl⟩,it,ix,ep,np,il,hb,hw,q⟩:=h;refine⟨_,(fN (pS (i:=5) sg.nd (nH (gb iA (gf gy (gf f7 (cv 4) fQ) fQ) fX) (iG (zG rfl) rfl T.z_dict xw (fM (gf gy (gf f7 (cv 4) fQ) fQ) fO)) pA))
  (fU (gJ (iL (gL (gH (MC (cv 0)) T.c5.cl T.e64.me (kN T) hr.m T.e64.b .nil gY (fM (gf f7 (cv 4) fQ) (fM (cv 2) (fM fQ (fM (Dr (AD hu (gf gy (cv 1) fQ) (cv 5)) rfl) fO)))))))
   (fU (gv (gL (gH (MC (cv 0)) T.c5.cl T.e62.me (gG T) hr.m T.e62.b .nil gY (fM (cv 2) (fM (uw hu (cv 5) (gf gy (cv 1) fQ)) fO))))))
   gi))),?_⟩;obtain⟨v,rfl⟩:=DT hw;obtain⟨y,rfl,iv⟩:=HG il;obtain⟨ys,et,iy⟩:=qO it;obtain⟨y1,et⟩:∃y1,H t=some (.tup [.str "get",y1,.str w0]):=by
  cases iy with
  |cons h1 iy=>
   cases iy with
   |cons h2 iy=>cases h2;cases iy;exact⟨_,et⟩
 obtain⟨t0,yb,rfl,e0,ib⟩:=nY iv;refine va (GtI A H [some (.ref A.m),some (.ref t),some (.int (k:Int)),some x,some (.ref ps)] k v w0 s s') ?_ ?_;rotate_left
 ·intro D' hD;refine⟨_,ep,fY (fV (j:=0) rfl) ⟨_,e0,fY (fV (j:=0) rfl) ?_⟩⟩;dsimp only[tC,cEq,onB];by_cases hs:v.s="rec"
  ·obtain⟨fl,pr,rfl⟩:=BK hs;obtain⟨t1,u,zs,e1,e2,eu,iz⟩:=HI iv;cases e1;rw[e0]at e2;cases e2;have hw:(if((fdL fl).map Ld).Nodup/\(fdL fl).length<=100 then(match lkV (fdL fl) w0 with|some x=>some (kR k x (ij (.rcd fl pr) k 0 true s))|none=>some (ij (.rcd fl pr) k 0 false s))else none)=some s':=hw;by_cases hn:((fdL fl).map Ld).Nodup/\(fdL fl).length<=100
   ·rw[gT hn]at hw;obtain⟨m,pm,em,gm⟩:=DS iz;have lm:m.length<=100:=by rw[<-aD (f:=Ld),em,aD];exact hn.2
    rw[gM hs];refine iC ⟨_,ep,fY (fV (j:=0) rfl) ⟨_,e0,fY (fV (j:=1) rfl) ⟨u,_,m,rfl,eu,pm,by lia,fun d hd=>hD _ _ ⟨d,_,rfl,fW hd _,M.new hd,fS,?_⟩⟩⟩⟩;rw[HJ (by rw[em];exact hn.1)];rcases gm w0 with⟨u,y,g1,g2,g3⟩|⟨g1,g2⟩;·rw[g1]at hw;exact .inl ⟨u,y,g2,g3.mono (gE.tk (fW hd _)),(dm.inj hw).symm⟩
    ·rw[g1]at hw;exact .inr ⟨g2,(dm.inj hw).symm⟩
   ·rw[gN hn]at hw;cases hw
  ·rw[sM hs]at hw;rw[gQ hs];exact gX (fun d hd=>hD _ _ ⟨d,[],rfl,fW hd _,M.new hd,fS,.inr ⟨rfl,(dm.inj hw).symm⟩⟩)
 rintro _ H2 ⟨d,kvs,rfl,S2,nd,ed,cs⟩;have M2:=M.same S2;have g:=wU.k (k:=(Le w0:Key)) ed;have b1:=hb.1;have ep2:=S2 _ _ ep;rcases cs with⟨u,y,g0,iu,rfl⟩|⟨g0,rfl⟩;·rw[g0]at g;refine⟨⟨_,_,M2.o,ik gA⟩,_,ep2,fY (fV (j:=0) rfl) ⟨_,S2 _ _ et,fY (fV (j:=2) rfl) ⟨d,_,rfl,g,A,tu,s,_,v,k,0,true,rfl,M2,iv.mono (gE.tk S2),by lia,fun H3 M3 F3=>⟨_,rfl,iC ?_⟩⟩⟩⟩;have g3:=wU.k (k:=(Le w0:Key)) (F3.get ed nd);rw[g0]at g3;exact⟨⟨_,_,M3.o,ik gA⟩,_,M2.tk F3 _ _ (S2 _ _ et),fY (fV (j:=2) rfl) ⟨d,_,rfl,g3,sF M3 hb.come.le (iu.mono (M2.tk F3)) fun H' M' F'=>q H' M' (((FM.same S2).trans F3).trans F')⟩⟩
 ·rw[g0]at g;exact⟨⟨_,_,M2.o,ik gA⟩,_,ep2,fY (fV (j:=0) rfl) ⟨_,S2 _ _ et,fY (fV (j:=2) rfl) ⟨d,_,rfl,g,A,tu,s,_,v,k,0,false,rfl,M2,iv.mono (gE.tk S2),by lia,fun H3 M3 F3=>⟨_,rfl,gX (q _ M3 ((FM.same S2).trans F3))⟩⟩⟩⟩
def wF (T:Txt K mg):FO P w base 4 T.d18 (jB T.c5.a T.c7.a fun ρ=>∃ks,ρ= .op "size" ks):=by
 refine T.d18.F.rd wj fun cdv A0 outer s0 H vs Q E hr h=>?_;obtain⟨A,tu,s,s',k,sc,t,ps,x,xs,l,ρ,names,roots,ρs,ho,rfl,M,c,hk,⟨ks,rfl⟩,it,ix,ep,np,il,hb,hw,q⟩:=h;refine⟨_,(fU (gJ (iL (gL (gH (MC (cv 0)) T.c5.cl T.e65.me (i6 T) hr.m T.e65.b .nil gY (fM fX (fM (gf f7 (cv 4) fQ) (fM (cv 2) (fM fQ fO)))))))
   (fU (gv (gL (gH (MC (cv 0)) T.c5.cl T.e62.me (gG T) hr.m T.e62.b .nil gY (fM (cv 2) (fM (ie (fM fX (fM (gC gx rfl T.z_len iJ (fM (gf gy (gf f7 (cv 4) fQ) fQ) fO)) (fM (cv 2) fO)))) fO))))))
   gi)),?_⟩;have sl:=Lc;obtain⟨v,rfl⟩:=BJ hw;rw[ya]at hw;obtain⟨x0,rfl,i0⟩:=HG il;have b1:=hb.1;refine⟨⟨_,_,M.o,ik gA⟩,_,ep,fY (fV (j:=0) rfl) ⟨A,tu,s,"row",x0,v,k,0,rfl,M,i0,by lia,fun H1 M1 F1=>⟨_,rfl,?_⟩⟩⟩
 cases e:isS "row" v with
 |false=>rw[e]at M1 hw;cases dm.inj hw;exact gX (q _ M1 F1)
 |true=>rw[e]at M1 hw;cases dm.inj hw;obtain⟨l,pq,rfl⟩:=sJ (of_decide_eq_true e);obtain⟨ta,ua,za,rfl,eta,eua,ia⟩:=yX (i0.mono (M.tk F1));have la:=ia.length;rw[aD]at la;refine iC ⟨⟨_,_,M1.o,ik gA⟩,_,F1.get ep np,fY (fV (j:=0) rfl) ⟨_,eta,fY (fV (j:=1) rfl) ⟨ua,_,rfl,.inr (MI eua),kP,fun a' ha=>?_⟩⟩⟩;rw[la];exact n8 (v:= .num ((uh l).length:Int) k) M1 hb.come.le ha (.cons (.flat rfl) (.cons (.flat rfl) (.cons (.flat rfl) .nil))) (by rw[Vl.d];rfl) fun H' M' F'=>q H' M' (F1.trans F')
def zZ (T:Txt K mg):FO P w base 4 T.d16 (jB T.c5.a T.c7.a fun ρ=>∃ks,ρ= .op "at" ks):=by
 refine T.d16.F.rd qp fun cdv A0 outer s0 H vs Q E hr h=>?_;obtain⟨A,tu,s,s',k,sc,t,ps,x,xs,l,ρ,names,roots,ρs,ho,rfl,M,c,hk,⟨ks,rfl⟩,it,ix,ep,np,il,hb,hw,q⟩:=h;refine⟨_,(fU (gJ (PW.pt (nR (iL (gL (gH (MC (cv 0)) T.c5.cl T.e65.me (i6 T) hr.m T.e65.b .nil gY (fM fX (fM (gf f7 (cv 4) fQ) (fM (cv 2) (fM fQ fO))))))) (mi (iL (gL (gH (MC (cv 0)) T.c5.cl T.e65.me (i6 T) hr.m T.e65.b .nil gY (fM fX (fM (gf f7 (cv 4) fQ) (fM (cv 2) (fM fQ fO))))))))))
   (fN (pS (i:=5) qp.nd (gf gy (gf f7 (cv 4) fQ) fQ))
   (fN (pS (i:=6) qp.nd (gf gy (gf f7 (cv 4) fQ) fQ))
   (fU (gv (gL (gH (MC (cv 0)) T.c5.cl T.e62.me (gG T) hr.m T.e62.b .nil gY (fM (cv 2) (fM (nH (pj sZ GH fQ (cv 6) (gC gx rfl T.z_len iJ (fM (cv 5) fO))) (gf gy (cv 5) (cv 6)) (gf f7 (cv 4) fQ)) fO))))))))
   gi)),?_⟩;have sl:=Lc;obtain⟨v,n,x2,rfl⟩:=HK hw;rw[Fg]at hw;obtain⟨y0,y1,y2,rfl,i0,i1,i2⟩:∃y0 y1 y2,xs=[y0,y1,y2]/\Im H y0 v.d/\Im H y1 n.d/\Im H y2 x2.d:=by
  cases il with
  |cons h1 il=>
   cases il with
   |cons h2 il=>
    cases il with
    |cons h3 il=>cases il;exact⟨_,_,_,rfl,h1,h2,h3⟩
 have b1:=hb.1;refine⟨⟨_,_,M.o,ik gA⟩,_,ep,fY (fV (j:=0) rfl) ⟨A,tu,s,"row",y0,v,k,0,rfl,M,i0,by lia,fun H1 M1 F1=>⟨_,rfl,?_⟩⟩⟩
 cases e:isS "row" v with
 |false=>rw[e]at M1 hw;cases dm.inj hw;exact gX (q _ M1 F1)
 |true=>
 rw[e,gT rfl]at hw;rw[e]at M1;obtain⟨l,p0,rfl⟩:=sJ (of_decide_eq_true e);have ep1:=F1.get ep np;have b2:(ij (Vl.row l p0) k 0 true s).me.length<=9000001:=by show(_::s.me).length<=_;rw[aA];lia
 refine iC ⟨⟨_,_,M1.o,ik gA⟩,_,ep1,fY (fV (j:=1) rfl) ⟨A,tu,_,"num",y1,n,k,1,rfl,M1,i1.mono (M.tk F1),by lia,fun H2 M2 F2=>⟨_,rfl,?_⟩⟩⟩;have F02:=F1.trans F2
 cases e2:isS "num" n with
 |false=>rw[e2]at M2 hw;cases dm.inj hw;exact gX (q _ M2 F02)
 |true=>
 rw[e2,gT rfl]at hw;rw[e2]at M2;obtain⟨n,p1,rfl⟩:=sI (of_decide_eq_true e2);cases dm.inj hw;have k2:TK H H2:=fun a xs e=>M1.tk F2 _ _ (M.tk F1 _ _ e);have ep2:=F2.get ep1 np;obtain⟨ta,ua,za,rfl,eta,eua,ia⟩:=yX (i0.mono k2);obtain⟨tb,rfl,etb⟩:=sL (i1.mono k2);have la:=ia.length;rw[aD]at la;refine iC ⟨_,ep2,fY (fV (j:=0) rfl) ⟨_,eta,fY (fV (j:=1) rfl) ?_⟩⟩;dsimp only[gP];refine⟨_,ep2,fY (fV (j:=1) rfl) ⟨_,etb,fY (fV (j:=1) rfl) ?_⟩⟩;dsimp only[gP];refine⟨⟨_,_,M2.o,ik gA⟩,0,n,rfl,rfl,?_⟩;have fin:∀{u:Vl} {x:V},u=(if 0<=n/\n<(uh l).length then(uh l).getD n.toNat x2 else x2)->Im H2 x u.d->wy T.c5.a [.ref A.m,.int k,x] H2 Q E0:=fun eu im=>sF M2 hb.come2.le im fun H' M' F'=>q H' (by rw[eu]at M';exact M') (F02.trans F')
 cases n with
 |ofNat j=>
  refine⟨true,congrArg V.bl (gM (fo j)),iC ⟨ua,za,rfl,.inr (MI eua),_,_,rfl,rfl,?_⟩⟩;by_cases hj:j<(uh l).length;·obtain⟨d,hd',im⟩:=kg ia (bE (show j<za.length by lia));rw[aO,bE hj]at hd';cases hd';refine⟨true,congrArg V.bl (gM (show((j:Nat):Int)<(za.length:Int) by lia)),iC ⟨_,eua,fY (fV (bE (show j<za.length by lia))) (fin ?_ im)⟩⟩;rw[gT ⟨fo j,by show(j:Int)<_;lia⟩,bq];show _=((uh l)[j]?).getD x2;rw[bE hj];rfl
  ·refine⟨false,congrArg V.bl (gQ (show ¬((j:Nat):Int)<(za.length:Int) by lia)),gX ⟨_,ep2,fY (fV (j:=2) rfl) (fin ?_ (i2.mono k2))⟩⟩;rw[gN (fun z=>hj (by have:(j:Int)<_:=z.2;lia))]
 |negSucc j=>exact⟨false,congrArg V.bl (gQ (by lia)),gX ⟨false,rfl,gX ⟨_,ep2,fY (fV (j:=2) rfl) (fin (by rw[gN (fun z=>by have:=z.1;lia)]) (i2.mono k2))⟩⟩⟩
def U0:Ro->Prop
 | .op o _=>o∈plain
 |_=>True
inductive WkS (T:Txt K mg):Zx->Sp->Prop
 |num:WkS T T.d6.a (jB T.c5.a T.c7.a fun ρ=>∃n,ρ= .num n)
 |name:WkS T T.d7.a (jB T.c5.a T.c7.a fun ρ=>∃n,ρ= .name n)
 |fn:WkS T T.d8.a (jB T.c5.a T.c7.a fun ρ=>X2 fun n b=>ρ= .fn n b)
 |call:WkS T T.d9.a (jB T.c5.a T.c7.a fun ρ=>∃ks,ρ= .op "call" ks)
 |lt:WkS T T.d10.a (jB T.c5.a T.c7.a fun ρ=>X3 fun n a b=>ρ= .lt n a b)
 |tag:WkS T T.d13.a (jB T.c5.a T.c7.a fun ρ=>X2 fun n b=>ρ= .tag n b)
 |case:WkS T T.d14.a (jB T.c5.a T.c7.a fun ρ=>X2 fun b ks=>ρ= .case b ks)
 |row:WkS T T.d15.a (jB T.c5.a T.c7.a fun ρ=>∃ks,ρ= .row ks)
 |join:WkS T T.d17.a (jB T.c5.a T.c7.a fun ρ=>∃ks,ρ= .op "join" ks)
 |add:WkS T T.d19.a (jB T.c5.a T.c7.a fun ρ=>∃ks,ρ= .op "add" ks)
 |sub:WkS T T.d20.a (jB T.c5.a T.c7.a fun ρ=>∃ks,ρ= .op "sub" ks)
 |rcd:WkS T T.d11.a (jB T.c5.a T.c7.a fun ρ=>∃ks,ρ= .rcd ks)
 |get:WkS T T.d12.a (jB T.c5.a T.c7.a fun ρ=>X2 fun k0 w0=>ρ= .get k0 w0)
 |size:WkS T T.d18.a (jB T.c5.a T.c7.a fun ρ=>∃ks,ρ= .op "size" ks)
 |ix:WkS T T.d16.a (jB T.c5.a T.c7.a fun ρ=>∃ks,ρ= .op "at" ks)
 |less:WkS T T.d21.a (jB T.c5.a T.c7.a fun ρ=>∃ks,ρ= .op "less" ks)
def WkS.at {T:Txt K mg} {X:Cx} (e1:X.prog=P) (e2:X.w=w) (e3:X.K=K) (e4:X.mg=mg) (e5:X.base=base) {f:Zx} {sp:Sp} (h:WkS T f sp):KZ X CX0 4 f sp:=by
 subst e1 e2 e3 e4 e5
 cases h with
 |num=>exact⟨_,_,xQ T,T.d6.k,T.d6.b⟩
 |name=>exact⟨_,_,wz T,T.d7.k,T.d7.b⟩
 |fn=>exact⟨_,_,zY T,T.d8.k,T.d8.b⟩
 |call=>exact⟨_,_,wA T,T.d9.k,T.d9.b⟩
 |lt=>exact⟨_,_,xS T,T.d10.k,T.d10.b⟩
 |tag=>exact⟨_,_,xT T,T.d13.k,T.d13.b⟩
 |case=>exact⟨_,_,wD T,T.d14.k,T.d14.b⟩
 |row=>exact⟨_,_,xX T,T.d15.k,T.d15.b⟩
 |join=>exact⟨_,_,wC T,T.d17.k,T.d17.b⟩
 |add=>exact⟨_,_,xY T,T.d19.k,T.d19.b⟩
 |sub=>exact⟨_,_,xZ T,T.d20.k,T.d20.b⟩
 |rcd=>exact⟨_,_,yc T,T.d11.k,T.d11.b⟩
 |get=>exact⟨_,_,yd T,T.d12.k,T.d12.b⟩
 |size=>exact⟨_,_,wF T,T.d18.k,T.d18.b⟩
 |ix=>exact⟨_,_,zZ T,T.d16.k,T.d16.b⟩
 |less=>exact⟨_,_,wB T,T.d21.k,T.d21.b⟩
structure Wk (P:Zu) (w:Zv) (T:Txt K mg) where
 a:Zx
 m:mg "WORKERS"=some (.ref a)
 kvs:List (Key×V)
 kd:AX P w K a kvs
 yes:∀ρ,U0 ρ->∃f U,jH kvs (Le ρ.s)=some (.ref f)/\WkS T f (jB T.c5.a T.c7.a U)/\U ρ
inductive XWp (C CP:Zx) (vs:List V) (H:Hp) (Q:VK):Prop
 |mk (A:Mad) (tu:Nat) (s s':Ms) (k:Nat) (sc:Ev) (x:V) (ρ:Ro) (l rd:List Vl) (names:Zd) (roots:List Nat) (ρs:List Ro) (ho:Nat->Option Hm) (e:vs=[.ref A.m,.int (k:Int),x]) (M:Mc C H A tu s) (c:Ctx CP H A names roots ρs ho) (hk:ρs[k]?=some ρ) (hu:U0 ρ) (ix:Im H x sc.d) (hb:Bd 9000000 s) (ht:tkR (ma ρ).length s.rd []=some (l,rd)) (hw:ku (ho k) k sc ρ l {s with rd:=rd}=some s') (q:∀H',Mc C H' A tu s'->FM A H H'->Q .non H')
def JV (C CP:Zx):Sp:=fun vs H Q _=>XWp C CP vs H Q
def nC (T:Txt K mg) (W:Wk P w T):MO P w base mg 8 T.e60 (JV T.c5.a T.c7.a):=by
 refine T.e60.F.rd kF fun cdv A0 outer s0 H vs Q E hr h=>?_;obtain⟨A,tu,s,s',k,sc,x,ρ,l,rd,names,roots,ρs,ho,rfl,M,c,hk,hu,ix,hb,ht,hw,q⟩:=h;refine⟨_,(fN (pS (i:=3) kF.nd (gf f7 (gk T.c7.cl T.n7rows (gk T.c5.cl T.n5program (cv 0))) (cv 1)))
  (fU (gv (CM (fun f sp (h:WkS T f sp)=>h.at rfl rfl rfl rfl rfl) hr.m gY (AZ W.kd (AQ rfl W.m) (gf gy (cv 3) fQ)) (fM (cv 0) (fM (cv 3) (fM (cv 1) (fM (cv 2) (fM (gL (gH (MC (cv 0)) T.c5.cl T.e61.me (nB T) hr.m T.e61.b .nil gY (fM (gC gx rfl T.z_len iJ (fM (pF T.d4 (nZ T) hr.m (fM (cv 3) fO)) fO)) fO))) fO))))))))),?_⟩;obtain⟨n,r,w,dx,xs,pr,n1,n2,n3,n4⟩:=c.p;obtain⟨tr,ys,hxt,etr,_,him⟩:=uX pr.i hk;have rok:=c.ok ρ (aP hk);obtain⟨f,U,hv,hS,hU⟩:=W.yes ρ hu;refine⟨_,⟨_,_,M.o,oY⟩,_,⟨_,_,pr.o,oU _ _ _⟩,_,pr.w,fY (fV hxt) ?_⟩;dsimp only[gP];refine⟨_,etr,fY (fV (j:=0) rfl) ⟨Le ρ.s,_,rfl,rfl,hv,f,_,rfl,hS,?_⟩⟩;refine⟨⟨_,_,M.o,ik gA⟩,ρ,rok,tr,rfl,him,fun lp H1 S1 hlp e1=>?_⟩;have M1:=M.same S1;have fl:(ma ρ).length<=101:=xP rok;refine⟨lp,_,rfl,.inl (MD e1),A,tu,s,(ma ρ).length,l,rd,?_,M1,by lia,ht,fun H2 ps zs h0 ep iz M2 F2=>?_⟩;·rw[aD];rfl
 have c2:=(c.fm M (FM.same S1)).fm M1 F2;have k2:TK H H2:=fun a xs e=>M1.tk F2 _ _ (gE.tk S1 _ _ e);have F02:=(FM.same (A:=A) S1).trans F2;obtain⟨t1,_,t3⟩:=rk ht;refine⟨A,tu,_,s',k,sc,tr,ps,x,zs,l,ρ,names,roots,ρs,ho,rfl,M2,c2,hk,hU,him.mono k2,ix.mono k2,ep,M1.new h0,iz,?_,hw,fun H' M' F'=>q H' M' (F02.trans F')⟩;obtain⟨b1,b2,b3,b4,b5⟩:=hb;exact⟨b1,b2,b3,b4,by show rd.length<=_;rw[t3,aX];lia⟩
structure Gw (d:Nat) (s s':Ms):Prop where
 me:∃a,s'.me=a++s.me/\a.length<=2
 ha:∃a,s'.ha=a++s.ha/\a.length<=1
 de:s'.de=s.de
 st:s'.st.length<=s.st.length+ 200
 rd:s'.rd.length<=s.rd.length+ 1
 bg:s'.bg=s.bg+d%2
 en:d≠2->s'.en=some ("turns":Str)->s.en=some ("turns":Str)
def Fh {m:Str} (h:m≠"turns") {P:Prop} (z:some m=some ("turns":Str)):P:=absurd (dm.inj z) h
def lY {p k:Int} {v:Vl} {f:Bool} {s:Ms}:(ij v p k f s).en=some ("turns":Str)->s.en=some ("turns":Str):=by
 cases f with
 |true=>exact id
 |false=>exact Fh gA
def yZ {p:Int} {v:Vl} {s s0:Ms} (h1:∃a,s.me=a++s0.me/\a.length<=2) (h2:s.ha=s0.ha) (h3:s.de=s0.de) (h4:s.st=s0.st) (h5:s.rd=s0.rd) (h6:s.bg=s0.bg) (h7:s.en=some ("turns":Str)->s0.en=some ("turns":Str)):Gw 0 s0 (kR p v s):=⟨h1,⟨[_],by rw[<-h2];rfl,cH _⟩,h3,by show s.st.length<=_;rw[h4];lia,by show(v::s.rd).length<=_;rw[aA,h5];lia,h6,fun _ z=>h7 z⟩
def BL {p b:Int} {sc:Ev} {s s0:Ms} (h1:∃a,s.me=a++s0.me/\a.length<=2) (h2:s.ha=s0.ha) (h3:s.de=s0.de) (h4:s.st=s0.st) (h5:s.rd=s0.rd) (h6:s.bg=s0.bg) (h7:s.en=some ("turns":Str)->s0.en=some ("turns":Str)):Gw 0 s0 (pM b sc p s):=⟨h1,⟨[],h2,cJ _⟩,h3,by show(_::_::s.st).length<=_;rw[aA,aA,h4];lia,by show s.rd.length<=_;rw[h5];lia,h6,fun _ z=>h7 z⟩
def Fi {p k:Int} {v:Vl} {f:Bool} {s:Ms}:Gw 0 s (ij v p k f s):=⟨⟨[_],rfl,cO _⟩,⟨[],rfl,cJ _⟩,rfl,by show s.st.length<=_;lia,by show s.rd.length<=_;lia,rfl,fun _=>lY⟩
def nO {sh:Str} {a b:Vl} {p:Int} {s:Ms}:(∃l,(iB sh a b p s).1.me=l++s.me/\l.length<=2)/\(iB sh a b p s).1.ha=s.ha/\(iB sh a b p s).1.de=s.de/\(iB sh a b p s).1.st=s.st/\(iB sh a b p s).1.rd=s.rd/\(iB sh a b p s).1.bg=s.bg/\((iB sh a b p s).1.en=some ("turns":Str)->s.en=some ("turns":Str)):=by
 unfold iB
 cases isS sh a with
 |false=>exact⟨⟨[_],rfl,cO _⟩,rfl,rfl,rfl,rfl,rfl,lY⟩
 |true=>exact⟨⟨[_,_],rfl,cH _⟩,rfl,rfl,rfl,rfl,rfl,fun z=>lY (lY z)⟩
def sN {sh:Str} {a b:Vl} {p:Int} {s:Ms} {e:Option Str} (he:e=some ("turns":Str)->s.en=some ("turns":Str)):Gw 0 s {(iB sh a b p s).1 with en:=e}:=by obtain⟨h1,h2,h3,h4,h5,h6,h7⟩:=nO (sh:=sh) (a:=a) (b:=b) (p:=p) (s:=s);exact⟨h1,⟨[],h2,cJ _⟩,h3,by show(iB sh a b p s).1.st.length<=_;rw[h4];lia,by show(iB sh a b p s).1.rd.length<=_;rw[h5];lia,h6,fun _ z=>he z⟩
def vb {sh:Str} {a b v:Vl} {p q:Int} {s:Ms}:Gw 0 s (kR q v (iB sh a b p s).1):=by obtain⟨h1,h2,h3,h4,h5,h6,h7⟩:=nO (sh:=sh) (a:=a) (b:=b) (p:=p) (s:=s);exact yZ h1 h2 h3 h4 h5 h6 h7
def Fj {p k q:Int} {v u:Vl} {f:Bool} {s:Ms}:Gw 0 s (kR q u (ij v p k f s)):=yZ ⟨[_],rfl,cO _⟩ rfl rfl rfl rfl rfl lY
def CZ {p k q b:Int} {v:Vl} {f:Bool} {sc:Ev} {s:Ms}:Gw 0 s (pM b sc q (ij v p k f s)):=BL ⟨[_],rfl,cO _⟩ rfl rfl rfl rfl rfl lY
def Fn {hm:Option Hm} {p:Int} {sc:Ev} {ρ:Ro} {l:List Vl} {s s':Ms} (hu:U0 ρ) (h:ku hm p sc ρ l s=some s'):Gw 0 s s':=by
 have fi:∀{v:Vl},some (kR p v s)=some s'->Gw 0 s s':=fun e=>by cases dm.inj e;exact yZ ⟨[],rfl,cJ _⟩ rfl rfl rfl rfl rfl id
 have cm:∀{v:Vl} {k:Int} {f:Bool},some (ij v p k f s)=some s'->Gw 0 s s':=fun e=>by cases dm.inj e;exact Fi
 have cf:∀{v u:Vl} {k:Int} {f:Bool},some (kR p u (ij v p k f s))=some s'->Gw 0 s s':=fun e=>by cases dm.inj e;exact Fj
 have ci:∀{v:Vl} {k b:Int} {f:Bool} {sc:Ev},some (pM b sc p (ij v p k f s))=some s'->Gw 0 s s':=fun e=>by cases dm.inj e;exact CZ
 cases ρ with
 |get a b=>
  obtain⟨v,rfl⟩:=DT h;by_cases nt:v.s="rec"
  ·obtain⟨fl,pt,rfl⟩:=BK nt;have h:(if((fdL fl).map Ld).Nodup/\(fdL fl).length<=100 then(match lkV (fdL fl) b with|some x=>some (kR p x (ij (.rcd fl pt) p 0 true s))|none=>some (ij (.rcd fl pt) p 0 false s))else none)=some s':=h;split at h
   ·split at h;·exact cf h
    ·exact cm h
   ·cases h
  ·rw[sM nt]at h;exact cm h
 |rcd ks=>
  have h:(if ks.length=l.length then some (kR p (.rcd (fdO ((ks.map Ld).zip l)) p) s)else none)=some s':=h;split at h;·exact fi h
  ·cases h
 |num n=>cases l with
  |nil=>exact fi h
  |cons _ _=>cases h
 |fn n b=>cases l with
  |nil=>exact fi h
  |cons _ _=>cases h
 |row ks=>exact fi h
 |name n=>cases l with
  |cons _ _=>cases h
  |nil=>
   cases hm with
   |none=>cases h
   |some hm=>have h:(if hm.1="def" then(atZ s.de hm.2).map fun v=>kR p v s else(qW sc hm.2).map fun v=>kR p v s)=some s':=h;split at h<;>obtain⟨v,_,e⟩:=dy.mp h<;>exact fi (congrArg some e)
 |tag n b=>match l,h with
  |[v],h=>exact fi h
 |lt n a b=>match l,h with
  |[v],h=>cases dm.inj h;exact BL ⟨[],rfl,cJ _⟩ rfl rfl rfl rfl rfl id
 |case b ks=>match l,h with
  |[v],h=>
   by_cases nt:v.s="tag"
   ·obtain⟨t,x,pt,rfl⟩:=BH nt;have h:(match lkI ks t with|some b=>some (pM b (.cons b x sc) p (ij (.tag t x pt) p 0 true s))|none=>some (ij (.tag t x pt) p 0 false s))=some s':=h;split at h;·exact ci h
    ·exact cm h
   ·rw[qv nt]at h;exact cm h
 |op o ks=>
  have hu:o∈plain:=hu;simp only[plain,ak,bG,or_false]at hu;rcases hu with rfl|rfl|hu
  ·obtain⟨a,rfl⟩:=BJ h;rw[ya]at h;split at h;·exact cf h
   ·exact cm h
  ·obtain⟨a,b,x,rfl⟩:=HK h;rw[Fg]at h;split at h
   ·split at h;·cases dm.inj h;exact yZ ⟨[_,_],rfl,cH _⟩ rfl rfl rfl rfl rfl fun z=>lY (lY z)
    ·cases dm.inj h;exact⟨⟨[_,_],rfl,cH _⟩,⟨[],rfl,cJ _⟩,rfl,by show s.st.length<=_;lia,by show s.rd.length<=_;lia,rfl,fun _ z=>lY (lY z)⟩
   ·exact cm h
  obtain⟨a,b,rfl⟩:=uj hu h;rcases hu with rfl|rfl|rfl|rfl|rfl
  ·rw[xU]at h;split at h;·exact ci h
   ·exact cm h
  ·rw[xV]at h;split at h
   ·split at h;·cases h
    ·split at h;·cases dm.inj h;exact sN (Fh gA)
     ·cases dm.inj h;exact vb
   ·cases dm.inj h;exact sN nO.2.2.2.2.2.2
  ·rw[BF]at h;split at h;·cases dm.inj h;exact vb
   ·cases dm.inj h;exact sN nO.2.2.2.2.2.2
  ·rw[BG]at h;split at h;·cases dm.inj h;exact vb
   ·cases dm.inj h;exact sN nO.2.2.2.2.2.2
  ·rw[xW]at h;split at h;·cases dm.inj h;exact vb
   ·cases dm.inj h;exact sN nO.2.2.2.2.2.2
inductive wW (ρs:List Ro) (ho:Nat->Option Hm) (tu:Nat):Nat->Ms->Ms->Prop
 |stop {s:Ms} (h:s.en≠none\/s.st=[]):wW ρs ho tu 0 s s
 |step {n:Nat} {s s' s2:Ms} (h0:s.en=none) (h:mP ρs ho tu s=some s') (r:wW ρs ho tu n s' s2):wW ρs ho tu (n+ 1) s s2
def vc {ρs:List Ro} {ho:Nat->Option Hm} {tu:Nat} {s s':Ms} (ok:∀ρ∈ρs,ρ.ok) (hu:∀ρ∈ρs,U0 ρ) (h:mP ρs ho tu s=some s'):Gw 0 s s'\/qX s.st=true/\(Gw 1 s s'\/tu<=s.bg/\Gw 2 s s'):=by
 unfold mP at h;split at h;·rename_i z;cases dm.inj h;refine .inr ⟨z.1,.inr ⟨z.2,⟨[],rfl,cJ _⟩,⟨[],rfl,cJ _⟩,rfl,by show s.st.tail.length<=_;rw[List.length_tail];lia,by show s.rd.length<=_;lia,rfl,fun z=>absurd rfl z⟩⟩
 unfold nA at h
 cases hs:s.st with
 |nil=>rw[hs]at h;cases h
 |cons t r=>
  rw[hs]at h
  cases t with
  |beg p sc=>
   have h:(match atZ ρs p with|some ρ=>some {s with bg:=s.bg+ 1,st:=(ma ρ).map (fun k=>Stp.beg k sc)++ .par p sc::r}|none=>none)=some s':=h
   cases e:atZ ρs p with
   |none=>rw[e]at h;cases h
   |some ρ=>rw[e]at h;obtain⟨k,rfl,hk⟩:=pP e;cases dm.inj h;have fl:=xP (ok ρ (aP hk));refine .inr ⟨rfl,.inl ⟨⟨[],rfl,cJ _⟩,⟨[],rfl,cJ _⟩,rfl,by show(List.map _ _++_::r).length<=_;rw[aQ,aD,aA,hs,aA];lia,by show s.rd.length<=_;lia,rfl,fun _=>id⟩⟩
  |par p sc=>
   have h:(match atZ ρs p with|some ρ=>(match tkR (ma ρ).length s.rd []with|some (l,rd)=>ku (ho p.toNat) p sc ρ l {s with st:=r,rd:=rd}|none=>none)|none=>none)=some s':=h
   cases e:atZ ρs p with
   |none=>rw[e]at h;cases h
   |some ρ=>
    rw[e]at h;obtain⟨k,rfl,hk⟩:=pP e;have h:(match tkR (ma ρ).length s.rd []with|some (l,rd)=>ku (ho (k:Int).toNat) k sc ρ l {s with st:=r,rd:=rd}|none=>none)=some s':=h
    cases et:tkR (ma ρ).length s.rd []with
    |none=>rw[et]at h;cases h
    |some z=>obtain⟨l,rd⟩:=z;rw[et]at h;have g:=Fn (hu ρ (aP hk)) (show ku _ _ _ _ _ _=_ from h);obtain⟨_,_,t3⟩:=rk et;have g4:s'.st.length<=r.length+ 200:=g.st;have g5:s'.rd.length<=rd.length+ 1:=g.rd;rw[t3,aX]at g5;exact .inl ⟨g.me,g.ha,g.de,by rw[hs,aA];lia,by lia,g.bg,g.en⟩
  |hand p=>
   cases hr:s.rd with
   |nil=>rw[hr]at h;cases h
   |cons v rd=>rw[hr]at h;cases dm.inj (show some (kR p v {s with st:=r,rd:=rd})=some s' from h);exact .inl ⟨⟨[],rfl,cJ _⟩,⟨[_],rfl,cH _⟩,rfl,by show r.length<=_;rw[hs,aA];lia,by show(v::rd).length<=_;rw[hr];lia,rfl,fun _=>id⟩
def Gw.bd {d n:Nat} {s s':Ms} (g:Gw d s s') (b:Bd n s):Bd (n+ 200) s':=by obtain⟨b1,b2,b3,b4,b5⟩:=b;obtain⟨a,e1,l1⟩:=g.me;obtain⟨c,e2,l2⟩:=g.ha;have:=g.st;have:=g.rd;exact⟨by rw[e1,aQ];lia,by rw[e2,aQ];lia,by rw[g.de];lia,by lia,by lia⟩
def BM {ρs:List Ro} {ho:Nat->Option Hm} {tu n:Nat} {s s':Ms} (ok:∀ρ∈ρs,ρ.ok) (hu:∀ρ∈ρs,U0 ρ) (h:mP ρs ho tu s=some s') (b:Bd n s):Bd (n+ 200) s':=by rcases vc ok hu h with g|⟨_,g|⟨_,g⟩⟩<;>exact g.bd b
def BN (e:Option Str):decide (enV e=V.non)=decide (e=none):=by
 cases e with
 |none=>rfl
 |some x=>rw[gQ (fun z=>nomatch z),gQ (fun z=>nomatch z)]
def HL {H:Hp} {x:V} {t:Stp} (h:Im H x t.d):∃a y,x= .ref a/\match t with
  | .beg p sc=>H a=some (.tup [.str "begin",.int p,y])/\Im H y sc.d
  | .par p sc=>H a=some (.tup [.str "parts",.int p,y])/\Im H y sc.d
  | .hand p=>H a=some (.tup [.str "hand",.int p,y]):=by
 have go:∀{m:Str} {p:Int} {d:Dt},Im H x (.tup [sD m,kD p,d])->∃a y,x= .ref a/\H a=some (.tup [.str m,.int p,y])/\Im H y d:=fun h=>by
  cases h with
  |tup e i=>
   cases i with
   |cons h1 i=>
    cases h1
    cases i with
    |cons h2 i=>
     cases h2
     cases i with
     |cons h3 i=>cases i;exact⟨_,_,rfl,e,h3⟩
 cases t with
 |beg p sc=>obtain⟨a,y,e,h1,h2⟩:=go h;exact⟨a,y,e,h1,h2⟩
 |par p sc=>obtain⟨a,y,e,h1,h2⟩:=go h;exact⟨a,y,e,h1,h2⟩
 |hand p=>obtain⟨a,y,e,h1,h2⟩:=go h;exact⟨a,y,e,h1⟩
inductive XWs (C CP:Zx) (vs:List V) (H:Hp) (Q:VK):Prop
 |mk (A:Mad) (tu n b:Nat) (s s':Ms) (names:Zd) (roots:List Nat) (ρs:List Ro) (ho:Nat->Option Hm) (e:vs=[.ref A.m]) (M:Mc C H A tu s) (c:Ctx CP H A names roots ρs ho) (hu:∀ρ∈ρs,U0 ρ) (r:wW ρs ho tu n s s') (hb:Bd b s) (hn:b+ 200*n<=9000000) (q:∀H',Mc C H' A tu s'->FM A H H'->Q .non H')
def JW (C CP:Zx):Sp:=fun vs H Q _=>XWs C CP vs H Q
def WsI (C CP:Zx) (A:Mad) (tu:Nat) (s':Ms) (ρs:List Ro) (ho:Nat->Option Hm) (H:Hp) (m:Nat) (σ:St) (H2:Hp):Prop:=X3 fun(o:Option V) (s1:Ms) (b:Nat)=>Y6 (σ=[some (.ref A.m),o]) (Mc C H2 A tu s1) (FM A H H2) (wW ρs ho tu m s1 s') (Bd b s1) (b+ 200*m<=9000000)
def nE (T:Txt K mg) (W:Wk P w T):MO P w base mg 9 T.e58 (JW T.c5.a T.c7.a):=by
 have gE60:=nC (base:=base) T W;refine T.e58.F.rd kE fun cdv A0 outer s0 H vs Q E hr h=>?_;obtain⟨A,tu,n,b,s,s',names,roots,ρs,ho,rfl,M,c,hu,r,hb,hn,q⟩:=h;refine⟨_,(fU (nK Lh (PW.pt (nR (rA (Dq (gk T.c5.cl T.n5end (cv 0)))) (mi (gb qT (gC gx rfl T.z_len iJ (fM (gk T.c5.cl T.n5steps (cv 0)) fO)) fQ))))
   (fN (pS (i:=1) kE.nd (rL eO eR eS tW (gk T.c5.cl T.n5steps (cv 0))))
   (fU (gJ (gb iA (gf gy (cv 1) fQ) fX)
    (fU (gv (gL (gH (MC (cv 0)) T.c5.cl T.e59.me (qY T) hr.m T.e59.b .nil gY (fM (gf gy (cv 1) fQ) (fM (gf gy (cv 1) fQ) fO))))))
    (fU (gJ (gb iA (gf gy (cv 1) fQ) fX)
     (fU (gv (gL (gH (MC (cv 0)) T.c5.cl T.e60.me gE60 hr.m T.e60.b .nil gY (fM (gf gy (cv 1) fQ) (fM (gf gy (cv 1) fQ) fO))))))
     (fU (gv (gL (gH (MC (cv 0)) T.c5.cl T.e62.me (gG T) hr.m T.e62.b .nil gY (fM (gf gy (cv 1) fQ) (fM (rL eO eR eS tW (gk T.c5.cl T.n5ready (cv 0))) fO))))))))))))),?_⟩;refine⟨WsI T.c5.a T.c7.a A tu s' ρs ho H,⟨n,none,s,b,rfl,M,FM.refl,r,hb,hn⟩,?_⟩;rintro m σ H2 ⟨o,s1,b,rfl,M2,F2,r,hb,hn⟩;have c2:=c.fm M F2;refine⟨_,⟨_,_,M2.o,sC⟩,_,rfl,?_⟩;rw[BN]
 cases r with
 |stop hs=>
  by_cases he:s'.en=none;·rw[gM he];have hs:=hs.resolve_left (fun z=>z he);obtain⟨xs,e,i⟩:=M2.st;rw[hs]at i;cases i;refine iC ⟨_,⟨_,_,M2.o,lE⟩,_,_,rfl,.inl (MD e),?_⟩;dsimp only[tC,cI0,onB];rw[gQ (show ¬(0:Int)<(([]:List V).length:Int)from fun z=>absurd z (by decide))];exact gX (q _ M2 F2)
  ·rw[gQ he];exact gX (gX (q _ M2 F2))
 |@step n _ s3 _ h0 h r=>
  rw[gM h0];have hb3:Bd (b+ 200) s3:=BM c.ok hu h hb;have hbb:Bd 9000000 s1:=hb.mono (by lia);have hn3:b+ 200+ 200*n<=9000000:=by lia
  obtain⟨t,rs,hst⟩:∃t rs,s1.st=t::rs:=by
   cases e:s1.st with
   |cons t rs=>exact⟨t,rs,rfl⟩
   |nil=>unfold mP at h;rw[gN (by rw[e];exact fun z=>nomatch z.1)]at h;unfold nA at h;rw[e]at h;cases h
  obtain⟨xs,y,e,iy,M3,F3⟩:=M2.stO hst;have done:∀(o:Option V) H',Mc T.c5.a H' A tu s3->FM A (MB H2 A.st (.lst xs)) H'->WsI T.c5.a T.c7.a A tu s' ρs ho H n [some (.ref A.m),o] H':=fun o H' M' F'=>⟨o,s3,b+ 200,rfl,M',(F2.trans F3).trans F',r,hb3,hn3⟩;refine iC ⟨_,⟨_,_,M2.o,lE⟩,_,_,rfl,.inl (MD e),?_⟩;dsimp only[tC,cI0,onB];rw[gM (show(0:Int)<((xs++[y]).length:Int) by rw[aQ,ba];lia)];refine iC ⟨_,fun σ' H' p=>⟨n,cM _,p⟩,_,⟨_,_,M2.o,lE⟩,.inl ⟨rfl,_,MD e⟩,yV e ?_⟩;have iy3:=iy.mono (M2.tk F3);have c3:=c2.fm M2 F3;dsimp only[gP];generalize MB H2 A.st (.lst xs)=H3 at M3 F3 iy3 c3 done⊢;have bd3:Bd 9000000 {s1 with st:=rs}:=by obtain⟨b1,b2,b3,b4,b5⟩:=hbb;exact⟨b1,b2,b3,by rw[hst,aA]at b4;show rs.length<=_;lia,b5⟩
  unfold mP at h;obtain⟨a,z,rfl,hh⟩:=HL iy3
  cases t with
  |beg p sc=>
   refine BE rfl hh.1 gA ⟨⟨_,_,M3.o,ik gA⟩,_,hh.1,fY (fV (j:=1) rfl) ⟨_,hh.1,fY (fV (j:=2) rfl) ?_⟩⟩;by_cases ht:tu<=s1.bg;·rw[gT ⟨by rw[hst];rfl,ht⟩]at h;cases dm.inj h;refine⟨A,tu,_,p,sc,z,.num 0,names,roots,ρs,ho,rfl,M3,c3,.inl ht,hh.2,bd3,fun H' M' F'=>done _ H' ?_ F'⟩;rw[gT (show tu<=s1.bg from ht)]at M';rw[hst];exact M'
   ·rw[gN (fun z=>ht z.2)]at h;unfold nA at h;rw[hst]at h;have h:(match atZ ρs p with|some ρ=>some {s1 with bg:=s1.bg+ 1,st:=(ma ρ).map (fun k=>Stp.beg k sc)++ .par p sc::rs}|none=>none)=some s3:=h
    cases ea:atZ ρs p with
    |none=>rw[ea]at h;cases h
    |some ρ=>rw[ea]at h;cases dm.inj h;refine⟨A,tu,_,p,sc,z,ρ,names,roots,ρs,ho,rfl,M3,c3,.inr (pP ea),hh.2,bd3,fun H' M' F'=>done _ H' ?_ F'⟩;rw[gN (show ¬tu<=s1.bg from ht)]at M';exact M'
  |par p sc=>
   rw[gN (fun z=>by rw[hst]at z;exact nomatch z.1)]at h;unfold nA at h;rw[hst]at h;have h:(match atZ ρs p with|some ρ=>(match tkR (ma ρ).length s1.rd []with|some (l,rd)=>ku (ho p.toNat) p sc ρ l {s1 with st:=rs,rd:=rd}|none=>none)|none=>none)=some s3:=h
   cases ea:atZ ρs p with
   |none=>rw[ea]at h;cases h
   |some ρ=>
    rw[ea]at h;obtain⟨k,rfl,hk⟩:=pP ea;have h:(match tkR (ma ρ).length s1.rd []with|some (l,rd)=>ku (ho (k:Int).toNat) k sc ρ l {s1 with st:=rs,rd:=rd}|none=>none)=some s3:=h
    cases et:tkR (ma ρ).length s1.rd []with
    |none=>rw[et]at h;cases h
    |some zz=>obtain⟨l,rd⟩:=zz;rw[et]at h;refine yW rfl hh.1 gA (BE rfl hh.1 gA ⟨⟨_,_,M3.o,ik gA⟩,_,hh.1,fY (fV (j:=1) rfl) ⟨_,hh.1,fY (fV (j:=2) rfl) ?_⟩⟩);exact⟨A,tu,_,s3,k,sc,z,ρ,l,rd,names,roots,ρs,ho,rfl,M3,c3,hk,hu ρ (aP hk),hh.2,bd3,et,h,fun H' M' F'=>done _ H' M' F'⟩
  |hand p=>
   rw[gN (fun z=>by rw[hst]at z;exact nomatch z.1)]at h;unfold nA at h;rw[hst]at h
   cases hr':s1.rd with
   |nil=>rw[hr']at h;cases h
   |cons v rd=>rw[hr']at h;cases dm.inj (show some (kR p v {s1 with st:=rs,rd:=rd})=some s3 from h);obtain⟨xs',y',e',iv,M4,F4⟩:=M3.rdO (show({s1 with st:=rs}:Ms).rd=v::rd from hr');refine yW rfl hh gA (yW rfl hh gA ⟨⟨_,_,M3.o,ik gA⟩,_,hh,fY (fV (j:=1) rfl) ⟨_,⟨_,_,M3.o,pO⟩,.inl ⟨rfl,_,MD e'⟩,yV e' ?_⟩⟩);refine sF (Q:=fun _ H'=>WsI T.c5.a T.c7.a A tu s' ρs ho H n [some (.ref A.m),some (.ref a)] H') M4 ?_ (iv.mono (M3.tk F4)) fun H' M' F'=>done _ H' M' (F4.trans F');obtain⟨b1,b2,b3,b4,b5⟩:=bd3;have b5:s1.rd.length<=9000000:=b5;rw[hr',aA]at b5;exact⟨cE b1 (by decide),cE b2 (by decide),cE b3 (by decide),cE b4 (by decide),by show rd.length<=_;lia⟩
structure MJ (C dx m:Zx) (H H':Hp) (fs:List (Str×V)) (ls:List Zx):Prop where
 o:H' m=some (.ins C dx fs)
 k:∀z o,H z=some o->z≠m->H' z=some o
 l:∀a∈ls,H' a=some (.lst [])/\H a=none
 n:ls.Nodup
 m0:m∉ls
section
variable {C dx m:Zx} {H H':Hp} {fs:List (Str×V)} {ls:List Zx}
def MJ.fld (j:MJ C dx m H H' fs ls) (gs:List (Str×V)):MJ C dx m H (upd H' m (.ins C dx gs)) gs ls:=⟨fS,fun z o e n=>by rw[f9 n];exact j.k z o e n,fun a ha=>⟨by rw[f9 (fun z=>j.m0 (by rw[<-z];exact ha))];exact(j.l a ha).1,(j.l a ha).2⟩,j.n,j.m0⟩
def MJ.new (j:MJ C dx m H H' fs ls) (hm:(H m).isSome=true) {a:Zx} (h:H' a=none):MJ C dx m H (upd H' a (.lst [])) fs (ls++[a]):=by
 have nm:a≠m:=fun z=>by rw[z,j.o]at h;cases h
 have h0:H a=none:=by
  cases e:H a with
  |none=>rfl
  |some o=>rw[j.k a o e nm]at h;cases h
 have nl:a∉ls:=fun z=>by rw[(j.l a z).1]at h;cases h
 refine⟨by rw[f9 nm.symm];exact j.o,fun z o e n=>by rw[f9 (fZ e h0)];exact j.k z o e n,fun b hb=>?_,?_,fun z=>?_⟩
 ·rcases ao.mp hb with hb|hb;·exact⟨by rw[f9 (fun z=>nl (by rw[<-z];exact hb))];exact(j.l b hb).1,(j.l b hb).2⟩
  ·rw[bj.mp hb];exact⟨fS,h0⟩
 ·rw[List.nodup_append];refine⟨j.n,aF.mpr ⟨(fun z=>by cases z),cg⟩,fun x hx y hy z=>nl ?_⟩;rw[bj.mp hy]at z;rw[<-z];exact hx
 ·rcases ao.mp z with z|z;·exact j.m0 z
  ·exact nm (bj.mp z).symm
end
def s0M:Ms:=⟨0,none,[],[],[],[],[]⟩
inductive XMi (C:Zx) (vs:List V) (H:Hp) (Q:VK):Prop
 |mk (m dx p h:Zx) (tu:Int) (e:vs=[.ref m,.ref p,.ref h,.int tu]) (o:H m=some (.ins C dx [])) (q:∀H' me ha de st rd,MJ C dx m H H' (fMc p h tu 0 .non me ha de st rd) [me,ha,de,st,rd]->Q .non H')
def JX (C:Zx):Sp:=fun vs H Q _=>XMi C vs H Q
def oZ (T:Txt K mg):MO P w base mg 1 T.e56 (JX T.c5.a):=by
 refine T.e56.F.rd oO fun cdv A0 outer s0 H vs Q E hr h=>?_;obtain⟨m,dx,p,h,tu,rfl,o,q⟩:=h;refine⟨_,(fN (iX T.c5.cl T.n5program (i8 (MC (cv 0)) (MC (cv 1)) rfl))
  (fN (iX T.c5.cl T.n5homes (i8 (MC (cv 0)) (MC (cv 2)) rfl))
  (fN (iX T.c5.cl T.n5turns (i8 (MC (cv 0)) (MC (cv 3)) rfl))
  (fN (iX T.c5.cl T.n5begun (i8 (MC (cv 0)) (MC fQ) rfl))
  (fN (iX T.c5.cl T.n5end (i8 (MC (cv 0)) (MC gR) rfl))
  (fN (iX T.c5.cl T.n5meets (i8 (MC (cv 0)) (MC (gq fO)) rfl))
  (fN (iX T.c5.cl T.n5had (i8 (MC (cv 0)) (MC (gq fO)) rfl))
  (fN (iX T.c5.cl T.n5defined (i8 (MC (cv 0)) (MC (gq fO)) rfl))
  (fN (iX T.c5.cl T.n5steps (i8 (MC (cv 0)) (MC (gq fO)) rfl))
  (fU (iX T.c5.cl T.n5ready (i8 (MC (cv 0)) (MC (gq fO)) rfl)))))))))))),?_⟩;have im:(H m).isSome=true:=by rw[o];rfl
 have j0:MJ T.c5.a dx m H H [] []:=⟨o,fun _ _ e _=>e,fun a ha=>(by cases ha),cg,fun z=>(by cases z)⟩;refine⟨_,_,o,(by show 0<1000;decide),?_⟩;have j1:=j0.fld (jD "program" (.ref p) []);dsimp only;generalize upd H m (.ins T.c5.a dx (jD "program" (.ref p) []))=H1 at j1⊢;refine⟨_,_,j1.o,(by show 1<1000;decide),?_⟩;have j2:=j1.fld (jD "homes" (.ref h) (jD "program" (.ref p) []));dsimp only;generalize upd H1 m _=H2 at j2⊢;refine⟨_,_,j2.o,(by show 2<1000;decide),?_⟩;have j3:=j2.fld (jD "turns" (.int tu) (jD "homes" (.ref h) (jD "program" (.ref p) [])));dsimp only;generalize upd H2 m _=H3 at j3⊢;refine⟨_,_,j3.o,(by show 3<1000;decide),?_⟩;have j4:=j3.fld (jD "begun" (.int 0) (jD "turns" (.int tu) (jD "homes" (.ref h) (jD "program" (.ref p) []))));dsimp only;generalize upd H3 m _=H4 at j4⊢;refine⟨_,_,j4.o,(by show 4<1000;decide),?_⟩;have e5:jD "end" .non (jD "begun" (.int 0) (jD "turns" (.int tu) (jD "homes" (.ref h) (jD "program" (.ref p) []))))=([("program",.ref p),("homes",.ref h),("turns",.int tu),("begun",.int 0),("end",.non)]:List (Str×V)):=by kernel_rfl
 have j5:=j4.fld (jD "end" .non (jD "begun" (.int 0) (jD "turns" (.int tu) (jD "homes" (.ref h) (jD "program" (.ref p) [])))));dsimp only;generalize upd H4 m _=H5 at j5⊢;rw[e5]at j5;refine⟨qC,fun me h6=>?_⟩;have k6:=j5.new im h6;refine⟨_,_,k6.o,(by show 5<1000;decide),?_⟩;have j6:=k6.fld (jD "meets" (.ref me) [("program",.ref p),("homes",.ref h),("turns",.int tu),("begun",.int 0),("end",.non)]);dsimp only;generalize upd (upd H5 me _) m _=H6 at j6⊢;refine⟨qC,fun ha h7=>?_⟩;have k7:=j6.new im h7;refine⟨_,_,k7.o,(by show 6<1000;decide),?_⟩;have j7:=k7.fld (jD "had" (.ref ha) (jD "meets" (.ref me) [("program",.ref p),("homes",.ref h),("turns",.int tu),("begun",.int 0),("end",.non)]));dsimp only;generalize upd (upd H6 ha _) m _=H7 at j7⊢;refine⟨qC,fun de h8=>?_⟩;have k8:=j7.new im h8;refine⟨_,_,k8.o,(by show 7<1000;decide),?_⟩;have j8:=k8.fld (jD "defined" (.ref de) (jD "had" (.ref ha) (jD "meets" (.ref me) [("program",.ref p),("homes",.ref h),("turns",.int tu),("begun",.int 0),("end",.non)])));dsimp only;generalize upd (upd H7 de _) m _=H8 at j8⊢;refine⟨qC,fun st h9=>?_⟩;have k9:=j8.new im h9;refine⟨_,_,k9.o,(by show 8<1000;decide),?_⟩;have j9:=k9.fld (jD "steps" (.ref st) (jD "defined" (.ref de) (jD "had" (.ref ha) (jD "meets" (.ref me) [("program",.ref p),("homes",.ref h),("turns",.int tu),("begun",.int 0),("end",.non)]))));dsimp only;generalize upd (upd H8 st _) m _=H9 at j9⊢;refine⟨qC,fun rd h10=>?_⟩;have k10:=j9.new im h10;refine⟨_,_,k10.o,(by show 9<1000;decide),?_⟩;refine q _ me ha de st rd ?_;have j10:=k10.fld (fMc p h tu 0 .non me ha de st rd);have e10:jD "ready" (.ref rd) (jD "steps" (.ref st) (jD "defined" (.ref de) (jD "had" (.ref ha) (jD "meets" (.ref me) [("program",.ref p),("homes",.ref h),("turns",.int tu),("begun",.int 0),("end",.non)]))))=fMc p h tu 0 .non me ha de st rd:=by kernel_rfl
 rw[e10];exact j10
def fRn (en v:V) (me ha:Zx) (bg:Int):List (Str×V):=[("end",en),("value",v),("meets",.ref me),("had",.ref ha),("begun",.int bg)]
inductive XRi (C:Zx) (vs:List V) (H:Hp) (Q:VK):Prop
 |mk (m dx me ha:Zx) (en v:V) (bg:Int) (e:vs=[.ref m,en,v,.ref me,.ref ha,.int bg]) (o:H m=some (.ins C dx [])) (q:∀H',H' m=some (.ins C dx (fRn en v me ha bg))->(∀z o,H z=some o->z≠m->H' z=some o)->Q .non H')
def HM (C:Zx):Sp:=fun vs H Q _=>XRi C vs H Q
def sO (T:Txt K mg):MO P w base mg 1 T.e67 (HM T.c6.a):=by
 refine T.e67.F.rd sk fun cdv A0 outer s0 H vs Q E hr h=>?_;obtain⟨m,dx,me,ha,en,v,bg,rfl,o,q⟩:=h;refine⟨_,(fN (iX T.c6.cl T.n6end (i8 (MC (cv 0)) (MC (cv 1)) rfl))
  (fN (iX T.c6.cl T.n6value (i8 (MC (cv 0)) (MC (cv 2)) rfl))
  (fN (iX T.c6.cl T.n6meets (i8 (MC (cv 0)) (MC (cv 3)) rfl))
  (fN (iX T.c6.cl T.n6had (i8 (MC (cv 0)) (MC (cv 4)) rfl))
  (fU (iX T.c6.cl T.n6begun (i8 (MC (cv 0)) (MC (cv 5)) rfl))))))),?_⟩;refine⟨_,_,o,(by show 0<1000;decide),_,_,fS,(by show 1<1000;decide),_,_,fS,(by show 2<1000;decide),_,_,fS,(by show 3<1000;decide),_,_,fS,(by show 4<1000;decide),?_⟩;refine q _ ?_ fun z o e hz=>?_;·rw[fS];exact congrArg (fun l=>some (HO.ins T.c6.a dx l)) (by kernel_rfl)
 ·rw[f9 hz,f9 hz,f9 hz,f9 hz,f9 hz];exact e
def wW.bd {ρs:List Ro} {ho:Nat->Option Hm} {tu n:Nat} {s s':Ms} (ok:∀ρ∈ρs,ρ.ok) (hu:∀ρ∈ρs,U0 ρ) (r:wW ρs ho tu n s s'):∀{b:Nat},Bd b s->Bd (b+ 200*n) s':=by
 induction r with
 |stop h=>exact fun hb=>hb
 |step h0 h r ih=>exact fun hb=>(ih (BM ok hu h hb)).mono (by lia)
inductive qw (ρs:List Ro) (ho:Nat->Option Hm) (tu:Nat):Nat->List Nat->Ms->Ms->Prop
 |done {s:Ms}:qw ρs ho tu 0 [] s {s with en:=some "done"}
 |ends {n r:Nat} {rs:List Nat} {s s':Ms} (h:wW ρs ho tu n {s with st:= .beg (r:Int) .nil::s.st} s') (he:s'.en≠none):qw ρs ho tu n (r::rs) s s'
 |next {n m r:Nat} {rs:List Nat} {s s' s2:Ms} {v:Vl} {rd:List Vl} (h:wW ρs ho tu n {s with st:= .beg (r:Int) .nil::s.st} s') (he:s'.en=none) (hr:s'.rd=v::rd) (t:qw ρs ho tu m rs {s' with rd:=rd,de:=s'.de++[v]} s2):qw ρs ho tu (n+m+ 3) (r::rs) s s2
def Fo {α:Type} (ys:List α) (y:α):atI (ys++[y]) (-1)=some y:=by unfold atI ixN;rw[gN (by decide),aQ,ba,gT (by lia),show((-1:Int)+((ys.length+ 1:Nat):Int)).toNat=ys.length by lia];show(ys++[y])[ys.length]?=_;rw[aM (cH _),cW];rfl
inductive XPg (C CP:Zx) (vs:List V) (H:Hp) (Q:VK):Prop
 |mk (A:Mad) (tu n b:Nat) (s s':Ms) (names:Zd) (roots:List Nat) (ρs:List Ro) (ho:Nat->Option Hm) (e:vs=[.ref A.m]) (M:Mc C H A tu s) (c:Ctx CP H A names roots ρs ho) (hu:∀ρ∈ρs,U0 ρ) (r:qw ρs ho tu n roots s s') (hb:Bd b s) (hn:b+ 200*n<=8000000) (q:∀H',Mc C H' A tu s'->FM A H H'->Q .non H')
def JY (C CP:Zx):Sp:=fun vs H Q _=>XPg C CP vs H Q
def PgI (C:Zx) (A:Mad) (tu:Nat) (s':Ms) (roots:List Nat) (ρs:List Ro) (ho:Nat->Option Hm) (H:Hp) (i:Nat) (σ:St) (H2:Hp):Prop:=X4 fun(o:Option V) (s1:Ms) (b m:Nat)=>Y6 (σ=[some (.ref A.m),o]) (Mc C H2 A tu s1) (FM A H H2) (qw ρs ho tu m (roots.drop i) s1 s') (Bd b s1) (b+ 200*m<=8000000)
def mQ (T:Txt K mg) (W:Wk P w T):MO P w base mg 10 T.e57 (JY T.c5.a T.c7.a):=by
 have gE58:=nE (base:=base) T W;refine T.e57.F.rd kb fun cdv A0 outer s0 H vs Q E hr h=>?_;obtain⟨A,tu,n,b,s,s',names,roots,ρs,ho,rfl,M,c,hu,r,hb,hn,q⟩:=h;refine⟨_,(fN (kl Lh rfl (mq (gk T.c7.cl T.n7roots (gk T.c5.cl T.n5program (cv 0)))) (pN (i:=1) kb.nd)
   (fN (gv (iO (jq eO eP eQ gK (MC (gk T.c5.cl T.n5steps (cv 0))) (fM (MC (ie (fM fX (fM (cv 1) (fM gR fO))))) fO))))
   (fN (gv (gL (jm (MC (cv 0)) T.c5.cl T.e58.me gE58 hr.m T.e58.b .nil gY)))
   (fN (gJ (rA (Ae (gk T.c5.cl T.n5end (cv 0))))
    (fU Af)
    gi)
   (fU (gv (iO (jq eO eP eQ gK (MC (gk T.c5.cl T.n5defined (cv 0))) (fM (MC (rL eO eR eS tW (gk T.c5.cl T.n5ready (cv 0)))) fO)))))))))
  (fU (iX T.c5.cl T.n5end (i8 (MC (cv 0)) (MC fX) rfl)))),?_⟩;have sl:=Lc;obtain⟨na,rl,w,dx,xs,pr,n1,n2,n3,n4⟩:=c.p;refine⟨_,⟨_,_,M.o,oY⟩,_,⟨_,_,pr.o,yT _ _ _⟩,_,rfl,⟨_,MD pr.r⟩,mv (xs:=roots.map nI) (PgI T.c5.a A tu s' roots ρs ho H) ⟨none,s,b,n,rfl,M,FM.refl,r,hb,hn⟩ (fun i σ H2 _ ⟨_,_,_,_,_,_,F,_,_,_⟩=>MD (F.get pr.r n3)) ?_ ?_⟩
 ·rintro i v σ H2 hx ⟨o,s1,b,m,rfl,M2,F2,r,hb,hn⟩;rw[aO]at hx;obtain⟨j,hj,rfl⟩:=dy.mp hx;have hdr:roots.drop i=j::roots.drop (i+ 1):=by obtain⟨z1,z2⟩:=au.mp hj;rw[bR z1,z2]
  rw[hdr]at r;have c2:=c.fm M F2;obtain⟨ys,e,_⟩:=M2.st;have b4:=hb.2.2.2.1;have b3:=hb.2.2.1;refine⟨_,⟨_,_,M2.o,lE⟩,⟨_,e⟩,kP,fun a ha=>?_⟩;have S1:=fW ha (.tup [.str "begin",.int (j:Int),.non]);have M3:=M2.same S1;have i1:Im (MB H2 a (.tup [.str "begin",.int (j:Int),.non])) (.ref a) (Stp.beg (j:Int) .nil).d:=by rw[Stp.d,Ev.d];exact oX ha (.cons (.flat rfl) (.cons (.flat rfl) (.cons (.flat rfl) .nil)))
  obtain⟨ys1,e1,l1,M4,F4⟩:=M3.stP i1;refine⟨ys1,e1,by lia,?_⟩;have F04:=(F2.trans (FM.same S1)).trans F4;have c4:=(c2.fm M2 (FM.same S1)).fm M3 F4;dsimp only[nI];generalize MB (MB H2 a (.tup [.str "begin",.int (j:Int),.non])) A.st (.lst (ys1++[.ref a]))=H4 at M4 F4 F04 c4⊢;have hb4:Bd (b+ 1) {s1 with st:= .beg (j:Int) .nil::s1.st}:=by obtain⟨b1,b2,b3,b4,b5⟩:=hb;exact⟨by show s1.me.length<=_;lia,by show s1.ha.length<=_;lia,by show s1.de.length<=_;lia,by show(_::s1.st).length<=_;rw[aA];lia,by show s1.rd.length<=_;lia⟩
  cases r with
  |ends h he=>refine⟨⟨_,_,M4.o,ik gA⟩,A,tu,m,b+ 1,_,s',names,roots,ρs,ho,rfl,M4,c4,hu,h,hb4,by lia,fun H5 M5 F5=>?_⟩;refine⟨_,⟨_,_,M5.o,sC⟩,_,rfl,?_⟩;rw[BN,gQ he];exact iC (q _ M5 (F04.trans F5))
  |@next n0 m0 _ _ _ s5 _ v rd h he hr' t=>
   refine⟨⟨_,_,M4.o,ik gA⟩,A,tu,n0,b+ 1,_,s5,names,roots,ρs,ho,rfl,M4,c4,hu,h,hb4,by lia,fun H5 M5 F5=>?_⟩;have hb5:=h.bd c.ok hu hb4;refine⟨_,⟨_,_,M5.o,sC⟩,_,rfl,?_⟩;rw[BN,gM he];obtain⟨zs,ez,_⟩:=M5.de;obtain⟨xs',y',e',iv,M6,F6⟩:=M5.rdO hr';obtain⟨zs,ez6,lz,M7,F7⟩:=M6.deP (iv.mono (M5.tk F6));have ld:=hb5.2.2.1;refine gX ⟨_,⟨_,_,M5.o,oW⟩,⟨_,ez⟩,_,⟨_,_,M5.o,pO⟩,.inl ⟨rfl,_,MD e'⟩,yV e' ⟨zs,ez6,?_,?_⟩⟩;·rw[lz];show s5.de.length<_;lia
   ·refine⟨_,_,b+ 1+ 200*n0+ 1,m0,rfl,M7,((F04.trans F5).trans F6).trans F7,t,?_,by lia⟩;obtain⟨b1,b2,b3,b4,b5⟩:=hb5;rw[hr',aA]at b5;exact⟨by show s5.me.length<=_;lia,by show s5.ha.length<=_;lia,by show(s5.de++[v]).length<=_;rw[aQ,ba];lia,by show s5.st.length<=_;lia,by show rd.length<=_;lia⟩
 ·rintro σ H2 ⟨o,s1,b,m,rfl,M2,F2,r,hb,hn⟩;rw[aD,bY]at r;cases r;obtain⟨M3,F3⟩:=M2.setO s1.bg (some "done");refine⟨_,_,M2.o,by show 10<1000;decide,?_⟩;rw[rj];exact q _ M3 (F2.trans F3)
structure RnA (C:Zx) (H0 H:Hp) (r:Zx) (s:Ms):Prop where
 o:∃dx v me ha,(H0 me=none/\H0 ha=none/\me≠ha)/\H r=some (.ins C dx (fRn (enV s.en) v me ha s.bg))/\(∃xs,H me=some (.lst xs)/\Ims H xs (s.me.reverse.map meD))/\(∃xs,H ha=some (.lst xs)/\Ims H xs (s.ha.reverse.map haD))/\(s.en≠some ("done":Str)->v= .non)/\∀u,s.en=some ("done":Str)->s.de.getLast?=some u->Im H v u.d
inductive XRn (C CP:Zx) (vs:List V) (H:Hp) (Q:VK):Prop
 |mk (p h n0 r0 w0 dx:Zx) (tu n:Nat) (xs hs:List V) (s':Ms) (names:Zd) (roots:List Nat) (ρs:List Ro) (ho:Nat->Option Hm) (e:vs=[.ref p,.ref h,.int (tu:Int)]) (pr:PrA CP H p n0 r0 w0 dx xs names roots ρs) (eh:H h=some (.lst hs)) (ih:∀(k:Nat) (ρ:Ro),ρs[k]?=some ρ->∃y,hs[k]?=some y/\Im H y (hoD (ho k))) (ok:∀ρ∈ρs,ρ.ok) (hu:∀ρ∈ρs,U0 ρ) (r:qw ρs ho tu n roots s0M s') (hn:200*n<=8000000) (he:∃e,s'.en=some e) (hd:s'.en=some ("done":Str)->s'.de≠[]) (q:∀r H',gE H H'->H r=none->RnA C H H' r s'->Q (.ref r) H')
def HN (C CP:Zx):Sp:=fun vs H Q _=>XRn C CP vs H Q
def HP (T:Txt K mg) (W:Wk P w T):FO P w base 11 T.d22 (HN T.c6.a T.c7.a):=by
 have gE57:=mQ (base:=base) T W;refine T.d22.F.rd Bm fun cdv A0 outer s0 H vs Q E hr h=>?_;obtain⟨p,h,n0,r0,w0,dx,tu,n,xs,hs,s',names,roots,ρs,ho,rfl,pr,eh,ih,ok,hu,r,hn,⟨en,he⟩,hd,q⟩:=h;refine⟨_,(fN (pS (i:=3) Bm.nd (uu T.mk5 (oZ T) hr.m rfl T.c5.m T.e56.b .nil gY (fM (cv 0) (fM (cv 1) (fM (cv 2) fO)))))
  (fN (gv (gL (jm (MC (cv 3)) T.c5.cl T.e57.me gE57 hr.m T.e57.b .nil gY)))
  (fN (pS (i:=4) Bm.nd (nH (gb iA (gk T.c5.cl T.n5end (cv 3)) fX) (gf f7 (gk T.c5.cl T.n5defined (cv 3)) (GB Dw fQ)) gR))
  (fU (gj (uu T.mk6 (sO T) hr.m rfl T.c6.m T.e67.b .nil gY (fM (gk T.c5.cl T.n5end (cv 3)) (fM (cv 4) (fM (gk T.c5.cl T.n5meets (cv 3)) (fM (gk T.c5.cl T.n5had (cv 3)) (fM (gk T.c5.cl T.n5begun (cv 3)) fO))))))))))),?_⟩;intro m mx hm hmx nmx;have S0:gE H (upd (upd H mx (.own m)) m (.ins T.c5.a mx [])):=gZ (gZ (fun _ _ e=>e) hmx _) hm _;refine⟨m,mx,p,h,(tu:Int),rfl,fS,fun H1 me ha de st rd j=>⟨rfl,?_⟩⟩;have S1:gE H H1:=fun b o e=>j.k b o (S0 b o e) (fZ e hm);have l0:∀a∈[me,ha,de,st,rd],H a=none:=fun a ha=>S0.free (j.l a ha).2;let A:Mad:=⟨m,mx,p,h,me,ha,de,st,rd⟩;have nal:∀{a:Zx} {o:HO},H a=some o->a∉A.all:=fun{a o} e z=>by
  rcases ak.mp z with z|z;·rw[z,hm]at e;cases e
  ·rw[l0 a z]at e;cases e
 have em:∀a∈[me,ha,de,st,rd],H1 a=some (.lst []):=fun a ha=>(j.l a ha).1;have M1:Mc T.c5.a H1 A tu s0M:=⟨j.o,⟨_,em me (by simp),.nil⟩,⟨_,em ha (by simp),.nil⟩,⟨_,em de (by simp),.nil⟩,⟨_,em st (by simp),.nil⟩,⟨_,em rd (by simp),.nil⟩,j.n⟩;have k1:=gE.tk S1;have c1:Ctx T.c7.a H1 A names roots ρs ho:=⟨⟨n0,r0,w0,dx,xs,pr.same S1,nal pr.o,nal pr.n,nal pr.r,nal pr.w⟩,⟨hs,S1 _ _ eh,nal eh,fun k ρ e=>let⟨y,a,b⟩:=ih k ρ e;⟨y,a,b.mono k1⟩⟩,ok⟩;dsimp only[gP];refine⟨⟨_,_,M1.o,ik gA⟩,A,tu,n,0,s0M,s',names,roots,ρs,ho,rfl,M1,c1,hu,r,⟨cH _,cH _,cH _,cH _,cH _⟩,by lia,fun H2 M2 F2=>?_⟩;have S2:gE H H2:=fun b o e=>F2.get (S1 b o e) (nal e);have fin:∀v,(s'.en≠some ("done":Str)->v= .non)->(∀u,s'.en=some ("done":Str)->s'.de.getLast?=some u->Im H2 v u.d)->Ga (GN T.c6.a (HM T.c6.a) [] E0 (kI (Gg T.c5.a "end" (cV 3)) (kI (cV 4) (kI (Gg T.c5.a "meets" (cV 3)) (kI (Gg T.c5.a "had" (cV 3)) (kI (Gg T.c5.a "begun" (cV 3)) yt)))))) {nx:=fun _ H'=>Q .non H',rt:=Q} [some (.ref p),some (.ref h),some (.int tu),some (.ref m),some v] H2:=fun v h1 h2=>by refine⟨_,⟨_,_,M2.o,sC⟩,_,⟨_,_,M2.o,wx⟩,_,⟨_,_,M2.o,By⟩,_,⟨_,_,M2.o,sE⟩,fun rr rx hrr hrx nrx=>?_⟩;have S3:gE H2 (upd (upd H2 rx (.own rr)) rr (.ins T.c6.a rx [])):=gZ (gZ (fun _ _ e=>e) hrx _) hrr _;refine⟨rr,rx,me,ha,enV s'.en,v,(s'.bg:Int),rfl,fS,fun H4 e4 k4=>⟨rfl,?_⟩⟩;have S4:gE H2 H4:=fun b o e=>k4 b o (S3 b o e) (fZ e hrr);obtain⟨xs1,e1,i1⟩:=M2.me;obtain⟨xs2,e2,i2⟩:=M2.ha;have tk4:=gE.tk S4;exact q rr H4 (S2.trans S4) (S2.free hrr) ⟨rx,v,me,ha,⟨l0 me (by simp),l0 ha (by simp),M1.nds.1.1⟩,e4,⟨xs1,S4 _ _ e1,i1.mono tk4⟩,⟨xs2,S4 _ _ e2,i2.mono tk4⟩,h1,fun u a b=>(h2 u a b).mono tk4⟩
 refine⟨_,⟨_,_,M2.o,sC⟩,?_⟩;by_cases hdn:s'.en=some ("done":Str);·obtain⟨l,u,hl⟩:∃l u,s'.de=l++[u]:=⟨_,_,(bM (hd hdn)).symm⟩;obtain⟨zs,ez,iz⟩:=M2.de;rw[hl]at iz;obtain⟨ys,y,rfl,_,iy⟩:=uY iz;rw[hdn];dsimp only[tC,cEq,onB,enV];rw[gM rfl];refine iC ⟨_,⟨_,_,M2.o,oW⟩,_,rfl,_,ez,fY (Fo ys y) ?_⟩;dsimp only[gP];exact fin y (fun n=>absurd hdn n) fun u' _ e=>by rw[hl,cn]at e;cases e;exact iy
 ·rw[he];dsimp only[tC,cEq,onB,enV];rw[gQ (fun z=>hdn (by rw[he,z]))];refine gX ?_;dsimp only[gP];exact fin .non (fun _=>rfl) (fun u e=>absurd e hdn)
section
variable {ρs:List Ro} {ho:Nat->Option Hm} {tu:Nat}
def DU {s s1:Ms} (hb:qX s.st=true) (h:nA ρs ho s=some s1):s1.bg=s.bg+ 1:=by
 unfold nA at h
 cases e:s.st with
 |nil=>rw[e]at hb;cases hb
 |cons t r=>
  rw[e]at h hb
  cases t with
  |beg p sc=>
   have h:(match atZ ρs p with|some ρ=>some {s with bg:=s.bg+ 1,st:=(ma ρ).map (fun k=>Stp.beg k sc)++ .par p sc::r}|none=>none)=some s1:=h
   cases ea:atZ ρs p with
   |none=>rw[ea]at h;cases h
   |some ρ=>rw[ea]at h;cases dm.inj h;rfl
  |par p sc=>cases hb
  |hand p=>cases hb
def n9 (s:Ms) (h:¬(qX s.st=true/\tu<=s.bg)):mP ρs ho tu s=nA ρs ho s:=by unfold mP;rw[gN h]
def vd (ok:∀ρ∈ρs,ρ.ok) (hu:∀ρ∈ρs,U0 ρ) {s s1:Ms} (h:nA ρs ho s=some s1):Gw 0 s s1\/qX s.st=true/\Gw 1 s s1:=by
 have e:=n9 (ρs:=ρs) (ho:=ho) (tu:=s.bg+ 1) s (fun z=>absurd z.2 (Nat.not_succ_le_self _));rcases vc ok hu (e.trans h)with g|⟨b,g|⟨c,_⟩⟩;·exact .inl g
 ·exact .inr ⟨b,g⟩
 ·exact absurd c (Nat.not_succ_le_self _)
structure Ext (s t:Ms):Prop where
 b:s.bg<=t.bg
 m:∃a,t.me=a++s.me
 h:∃a,t.ha=a++s.ha
def Ext.refl (s:Ms):Ext s s:=⟨cH _,⟨[],rfl⟩,[],rfl⟩
def Ext.trans {s t u:Ms} (a:Ext s t) (c:Ext t u):Ext s u:=by obtain⟨b,⟨x,e⟩,y,f⟩:=a;obtain⟨b',⟨x',e'⟩,y',f'⟩:=c;exact⟨cE b b',⟨x'++x,by rw[e',e,bT]⟩,y'++y,by rw[f',f,bT]⟩
def Gw.ext {d:Nat} {s t:Ms} (g:Gw d s t):Ext s t:=by obtain⟨a,e1,_⟩:=g.me;obtain⟨c,e2,_⟩:=g.ha;exact⟨by rw[g.bg];lia,⟨a,e1⟩,c,e2⟩
def C0 (ok:∀ρ∈ρs,ρ.ok) (hu:∀ρ∈ρs,U0 ρ) {s s1:Ms} (h:mP ρs ho tu s=some s1):Ext s s1:=by rcases vc ok hu h with g|⟨_,g|⟨_,g⟩⟩<;>exact g.ext
def ve (ok:∀ρ∈ρs,ρ.ok) (hu:∀ρ∈ρs,U0 ρ) {n:Nat} {s t:Ms} (r:wW ρs ho tu n s t):Ext s t:=by
 induction r with
 |stop h=>exact .refl _
 |step h0 h r i=>exact(C0 ok hu h).trans i
def yf (ok:∀ρ∈ρs,ρ.ok) (hu:∀ρ∈ρs,U0 ρ) {s s1:Ms} (h:mP ρs ho tu s=some s1) (hb:s.bg<=tu):s1.bg<=tu:=by
 by_cases z:qX s.st=true/\tu<=s.bg;·unfold mP at h;rw[gT z]at h;cases dm.inj h;exact hb
 ·rw[n9 s z]at h;rcases vd ok hu h with g|⟨b,g⟩;·rw[g.bg];exact hb
  ·rw[g.bg];have:¬tu<=s.bg:=fun y=>z ⟨b,y⟩;lia
def Fp (ok:∀ρ∈ρs,ρ.ok) (hu:∀ρ∈ρs,U0 ρ) {s s1:Ms} (h:mP ρs ho tu s=some s1) (hb:s.bg<=tu) (he:s.en=none) (et:s1.en=some ("turns":Str)):s1.bg=tu:=by
 rcases vc ok hu h with g|⟨_,g|⟨c,g⟩⟩;·have:=g.en (by decide) et;rw[he]at this;cases this
 ·have:=g.en (by decide) et;rw[he]at this;cases this
 ·have:=g.bg;lia
def Fq (ok:∀ρ∈ρs,ρ.ok) (hu:∀ρ∈ρs,U0 ρ) {n:Nat} {s t:Ms} (r:wW ρs ho tu n s t):s.bg<=tu->(s.en=some ("turns":Str)->s.bg=tu)->t.en=some ("turns":Str)->t.bg=tu:=by
 induction r with
 |stop h=>exact fun _ h=>h
 |step h0 h r i=>exact fun hb _=>i (yf ok hu h hb) fun z=>Fp ok hu h hb h0 z
def vf (ok:∀ρ∈ρs,ρ.ok) (hu:∀ρ∈ρs,U0 ρ) {n:Nat} {s t:Ms} (r:wW ρs ho tu n s t):s.bg<=tu->t.bg<=tu:=by
 induction r with
 |stop h=>exact id
 |step h0 h r i=>exact fun hb=>i (yf ok hu h hb)
def Two (tu:Nat) (s1 s2:Ms):Prop:=s1=s2\/(s1.en=some ("turns":Str)/\s1.bg=tu/\tu<s2.bg/\Ext s1 s2)
def rm (ok:∀ρ∈ρs,ρ.ok) (hu:∀ρ∈ρs,U0 ρ) {tv:Nat} (l:tu<=tv) {n:Nat} {s s1:Ms} (r:wW ρs ho tu n s s1):∀{m:Nat} {s2:Ms},s.bg<=tu->wW ρs ho tv m s s2->Two tu s1 s2:=by
 induction r with
 |@stop s h=>
  intro m s2 hb k
  cases k with
  |stop _=>exact .inl rfl
  |step h0 h1 _=>
   refine absurd h fun h=>?_;rcases h with h|h;·exact h h0
   ·unfold mP at h1;rw[gN (fun z=>by rw[h]at z;exact nomatch z.1)]at h1;unfold nA at h1;rw[h]at h1;cases h1
 |@step n s s' s1 h0 h r i=>
  intro m s2 hb k
  cases k with
  |stop h'=>
   refine absurd h' fun h'=>?_;rcases h' with h'|h';·exact h' h0
   ·unfold mP at h;rw[gN (fun z=>by rw[h']at z;exact nomatch z.1)]at h;unfold nA at h;rw[h']at h;cases h
  |@step m' _ s'' _ _ h' k=>
   by_cases z:qX s.st=true/\tu<=s.bg
   ·have e1:s'={s with en:=some "turns",st:=s.st.tail}:=by unfold mP at h;rw[gT z]at h;exact(dm.inj h).symm
    have e2:s1=s':=by
     cases r with
     |stop _=>rfl
     |step a _ _=>rw[e1]at a;cases a
    subst e2;have bt:s.bg=tu:=by have:=z.2;lia
    by_cases y:tv<=s.bg
    ·have e:s''=s1:=by unfold mP at h';rw[gT ⟨z.1,y⟩]at h';rw[e1];exact(dm.inj h').symm
     subst e;have e3:s2=s'':=by
      cases k with
      |stop _=>rfl
      |step a _ _=>rw[e1]at a;cases a
     exact .inl e3.symm
    ·rw[n9 s (fun w=>y w.2)]at h';have b1:=DU z.1 h';have x:=ve ok hu k;have xb:=x.b;have g:Ext s s'':=by rcases vd ok hu h' with g|⟨_,g⟩<;>exact g.ext
     have xx:=g.trans x;refine .inr ⟨by rw[e1],by rw[e1];exact bt,by lia,?_⟩;rw[e1];exact⟨xx.b,xx.m,xx.h⟩
   ·have y:¬(qX s.st=true/\tv<=s.bg):=fun y=>z ⟨y.1,by lia⟩;have hb1:=yf ok hu h hb;rw[n9 s z]at h;rw[n9 s y,h]at h';cases dm.inj h';exact i hb1 k
end
section
variable {ρs:List Ro} {ho:Nat->Option Hm} {tu:Nat}
def wG (ok:∀ρ∈ρs,ρ.ok) (hu:∀ρ∈ρs,U0 ρ) {n:Nat} {rs:List Nat} {s t:Ms} (r:qw ρs ho tu n rs s t):s.bg<=tu->s.en=none->Ext s t/\t.bg<=tu/\(t.en=some ("turns":Str)->t.bg=tu):=by
 induction r with
 |@done s=>exact fun hb he=>⟨⟨cH _,⟨[],rfl⟩,[],rfl⟩,hb,Fh gA⟩
 |@ends n r rs s s' h he=>exact fun hb h0=>⟨let e:=ve ok hu h;⟨e.b,e.m,e.h⟩,vf ok hu h hb,Fq ok hu h hb fun z=>by(rw[show({s with st:= .beg (r:Int) .nil::s.st}:Ms).en=s.en from rfl,h0]at z;cases z)⟩
 |@next n m r rs s s' s2 v rd h he hr t i=>intro hb h0;have e:=ve ok hu h;have bb:s'.bg<=tu:=vf ok hu h hb;obtain⟨a,b,c⟩:=i bb he;exact⟨Ext.trans (t:=s') ⟨e.b,e.m,e.h⟩ ⟨a.b,a.m,a.h⟩,b,c⟩
def wH (ok:∀ρ∈ρs,ρ.ok) (hu:∀ρ∈ρs,U0 ρ) {tv:Nat} (l:tu<=tv) {n:Nat} {rs:List Nat} {s s1:Ms} (r:qw ρs ho tu n rs s s1):∀{m:Nat} {s2:Ms},s.bg<=tu->s.en=none->qw ρs ho tv m rs s s2->Two tu s1 s2:=by
 induction r with
 |done=>intro m s2 hb h0 k;cases k;exact .inl rfl
 |@ends n r rs s s' h he=>
  intro m s2 hb h0 k
  cases k with
  |ends h' _=>exact rm ok hu l h hb h'
  |@next _ m' _ _ _ s'' _ v rd h' he' hr t=>
   rcases rm ok hu l h hb h' with e|⟨a,b,c,d⟩;·rw[e]at he;exact absurd he' he
   ·have bb:s''.bg<=tv:=vf ok hu h' (cE hb l);obtain⟨x,_⟩:=wG ok hu t bb he';have xb:s''.bg<=s2.bg:=x.b;exact .inr ⟨a,b,by lia,d.trans ⟨xb,x.m,x.h⟩⟩
 |@next n m r rs s s' s1 v rd h he hr t i=>
  intro m2 s2 hb h0 k
  cases k with
  |ends h' he'=>
   rcases rm ok hu l h hb h' with e|⟨a,_⟩;·rw[e]at he;exact absurd he he'
   ·rw[he]at a;cases a
  |next h' he' hr' t'=>
   rcases rm ok hu l h hb h' with e|⟨a,_⟩;·subst e;rw[hr]at hr';cases hr';have bb:s'.bg<=tu:=vf ok hu h hb;exact i bb he t'
   ·rw[he]at a;cases a
end
open TM.Internal (Kn Tr jb szs oks)
abbrev Gl:=List (Ro×(Str->Option Hm))
def roK:Kn->List Nat->Ro
 | .num n,_=> .num n
 | .name w,_=> .name w
 | .fn w,p::_=> .fn w p
 | .tag w,p::_=> .tag w p
 | .lt w,p::q::_=> .lt w p q
 | .get w,p::_=> .get p w
 | .rcd l,ps=> .rcd ((l.zip ps).map fun q=>(q.1,(q.2:Int)))
 | .case l,p::ps=> .case p ((l.zip ps).map fun q=>(q.1.1,q.1.2,(q.2:Int)))
 | .row _,ps=> .row (ps.map fun p:Nat=>(p:Int))
 | .op s _,ps=> .op s (ps.map fun p:Nat=>(p:Int))
 |_,_=> .num 0
mutual
def plT:Tr->Nat->(Str->Option Hm)->Gl
 | .mk κ ks,p,g=>(roK κ (jb ks (p+ 1)),g)::C9 ks (p+ 1) (roK κ (jb ks (p+ 1))).ex g
def C9:List Tr->Nat->List (Option (Str×Hm))->(Str->Option Hm)->Gl
 |[],_,_,_=>[]
 |t::ts,p,es,g=>plT t p (exG g (es.headD none))++C9 ts (p+t.sz) es.tail g
end
mutual
def PlT (G:Gl):Tr->Nat->(Str->Option Hm)->Prop
 | .mk κ ks,p,g=>G[p]?=some (roK κ (jb ks (p+ 1)),g)/\DV G ks (p+ 1) (roK κ (jb ks (p+ 1))).ex g
def DV (G:Gl):List Tr->Nat->List (Option (Str×Hm))->(Str->Option Hm)->Prop
 |[],_,_,_=>True
 |t::ts,p,es,g=>PlT G t p (exG g (es.headD none))/\DV G ts (p+t.sz) es.tail g
end
mutual
theorem vg:∀(t:Tr) (p:Nat) (g:Str->Option Hm),(plT t p g).length=t.sz
 | .mk κ ks,p,g=>by rw[plT,aA,y8,Tr.sz];lia
theorem y8:∀(ts:List Tr) (p:Nat) (es:List (Option (Str×Hm))) (g:Str->Option Hm),(C9 ts p es g).length=szs ts
 |[],_,_,_=>rfl
 |t::ts,p,es,g=>by rw[C9,aQ,vg,y8,szs]
end
mutual
theorem DW:∀(t:Tr) {p:Nat} {g:Str->Option Hm} {G l1 l2:Gl},G=l1++(plT t p g++l2)->l1.length=p->PlT G t p g
 | .mk κ ks,p,g,G,l1,l2,e,h=>by rw[plT]at e;refine⟨?_,BP ks (l1:=l1++[_]) (l2:=l2) (by rw[e,bT];rfl) (by rw[aQ,h];rfl)⟩;rw[e,aM (by lia),h,cW];rfl
theorem BP:∀(ts:List Tr) {p:Nat} {es:List (Option (Str×Hm))} {g:Str->Option Hm} {G l1 l2:Gl},G=l1++(C9 ts p es g++l2)->l1.length=p->DV G ts p es g
 |[],_,_,_,_,_,_,_,_=>trivial
 |t::ts,p,es,g,G,l1,l2,e,h=>by rw[C9,bT]at e;exact⟨DW t e h,BP ts (l1:=l1++_) (l2:=l2) (by rw[e,bT]) (by rw[aQ,h,vg])⟩
end
theorem BQ {G:Gl}:∀{ts:List Tr} {p:Nat} {es:List (Option (Str×Hm))} {g:Str->Option Hm} {j c:Nat},DV G ts p es g->(jb ts p)[j]?=some c->∃t,ts[j]?=some t/\PlT G t c (exG g (es[j]?.getD none))/\p<=c/\c+t.sz<=p+szs ts
 |[],p,es,g,j,c,_,h=>by cases h
 |t::ts,p,es,g,0,c,a,h=>by
  cases h;refine⟨t,rfl,?_,cH _,by rw[szs];lia⟩;have e:es[0]?.getD none=es.headD none:=by cases es<;>rfl
  rw[e];exact a.1
 |t::ts,p,es,g,j+ 1,c,a,h=>by
  obtain⟨t',e,b,l1,l2⟩:=BQ a.2 (show(jb ts (p+t.sz))[j]?=some c from h);refine⟨t',e,?_,by lia,by rw[szs];lia⟩;have e:es.tail[j]?=es[j+ 1]?:=by cases es<;>simp
  rw[<-e];exact b
def bnK:Kn->List (Option Str)
 | .fn w=>[some w]
 | .lt w=>[none,some w]
 | .case l=>none::l.map fun a=>some a.2
 |_=>[]
def adN (N:Str->Prop):Option Str->Str->Prop
 |none=>N
 |some w=>fun u=>u=w\/N u
def ndK:Kn->(Str->Prop)->Prop
 | .name w,N=>N w
 | .rcd l,_=>l.Nodup
 | .case l,_=>(l.map Ld).Nodup
 |_,_=>True
mutual
def okN:Tr->(Str->Prop)->Prop
 | .mk κ ks,N=>ndK κ N/\vE ks (bnK κ) N
def vE:List Tr->List (Option Str)->(Str->Prop)->Prop
 |[],_,_=>True
 |t::ts,bs,N=>okN t (adN N (bs.headD none))/\vE ts bs.tail N
end
def y9 {N M:Str->Prop} (h:∀w,N w->M w) (x:Option Str):∀w,adN N x w->adN M x w:=fun w a=>by
 cases x with
 |none=>exact h w a
 |some z=>exact a.imp_right (h w)
mutual
theorem kS:∀(t:Tr) {N M:Str->Prop},(∀w,N w->M w)->okN t N->okN t M
 | .mk κ ks,N,M,h,a=>by
  unfold okN at a⊢;refine⟨?_,wI ks h a.2⟩;have a1:=a.1
  cases κ with
  |name w=>exact h w a1
  |_=>exact a1
theorem wI:∀(ts:List Tr) {bs:List (Option Str)} {N M:Str->Prop},(∀w,N w->M w)->vE ts bs N->vE ts bs M
 |[],_,_,_,_,_=>by unfold vE;trivial
 |t::ts,bs,N,M,h,a=>by unfold vE at a⊢;exact⟨kS t (y9 h _) a.1,wI ts h a.2⟩
end
theorem BR:∀{ts:List Tr} {bs:List (Option Str)} {N:Str->Prop} {j:Nat} {t:Tr},vE ts bs N->ts[j]?=some t->okN t (adN N (bs[j]?.getD none))
 |[],_,_,j,t,_,h=>by cases h
 |t::ts,bs,N,0,_,a,h=>by
  cases h;unfold vE at a;have e:bs[0]?.getD none=bs.headD none:=by cases bs<;>rfl
  rw[e];exact a.1
 |t::ts,bs,N,j+ 1,t',a,h=>by
  unfold vE at a;have e:bs.tail[j]?=bs[j+ 1]?:=by cases bs<;>simp
  have:=BR (j:=j) a.2 (show ts[j]?=some t' from h);rw[e]at this;exact this
theorem DX:∀{ts:List Tr} {j:Nat} {t:Tr},oks ts->ts[j]?=some t->t.ok
 |[],j,t,_,h=>by cases h
 |t::ts,0,_,a,h=>by cases h;unfold oks at a;exact a.1
 |t::ts,j+ 1,t',a,h=>by unfold oks at a;exact DX (j:=j) a.2 h
def dom (g:Str->Option Hm) (w:Str):Prop:=g w≠none
def DY {g:Str->Option Hm} {e:Option (Str×Hm)} {b:Option Str} (h:e.map Ld=b) (w:Str) (a:adN (dom g) b w):dom (exG g e) w:=by
 subst h
 cases e with
 |none=>exact a
 |some x=>
  unfold dom exG wid;dsimp only;split;·exact fun z=>nomatch z
  ·rename_i n;rcases a with a|a;·exact absurd a n
   ·exact a
theorem yg {α:Type}:∀(l:List α) (ps:List Nat),ps.length=l.length->(l.zip ps).map (fun q=>(q.2:Int))=ps.map (fun p:Nat=>(p:Int))
 |[],[],_=>rfl
 |_::l,p::ps,h=>congrArg ((p:Int)::·) (yg l ps (cZ.inj h))
def wJ {κ:Kn} {ps:List Nat} (h:ps.length=κ.ar):(roK κ ps).pl=ps.map (fun p:Nat=>(p:Int))/\∀j:Nat,((roK κ ps).ex[j]?.getD none).map Ld=(bnK κ)[j]?.getD none:=by
 have non:∀(l:List Int) (j:Nat),((l.map fun _=>(none:Option (Str×Hm)))[j]?.getD none).map Ld=none:=fun l j=>by rw[aO];cases l[j]?<;>rfl
 cases κ with
 |num n=>cases bV h;exact⟨rfl,non _⟩
 |name w=>cases bV h;exact⟨rfl,non _⟩
 |fn w=>obtain⟨a,rfl⟩:=bC.mp h;exact⟨rfl,fun j=>by match j with|0=>rfl|j+ 1=>rfl⟩
 |tag w=>obtain⟨a,rfl⟩:=bC.mp h;exact⟨rfl,non _⟩
 |get w=>obtain⟨a,rfl⟩:=bC.mp h;exact⟨rfl,non _⟩
 |lt w=>
  match ps,h with
  |[a,b],_=>exact⟨rfl,fun j=>by match j with|0=>rfl|1=>rfl|j+ 2=>rfl⟩
 |rcd l=>exact⟨(bF ..).trans (yg l ps h),non _⟩
 |row m=>exact⟨rfl,non _⟩
 |op s m=>exact⟨rfl,non _⟩
 |case l=>
  match ps,h with
  |p::ps,h=>
   have h:ps.length=l.length:=cZ.inj h;refine⟨?_,fun j=>?_⟩;·show(p:Int)::((l.zip ps).map fun q=>(q.1.1,q.1.2,(q.2:Int))).map (fun q=>q.2.2)=_;rw[bF,aC];exact congrArg ((p:Int)::·) (yg l ps h)
   ·match j with
    |0=>rfl
    |j+ 1=>
     show((((l.zip ps).map fun q=>(q.1.1,q.1.2,(q.2:Int))).map fun p=>some (p.2.1,(("arm":Str),p.2.2)))[j]?.getD none).map Ld=((l.map fun a=>some a.2)[j]?).getD none;rw[aO,aO,aO];by_cases z:j<l.length;·rw[bE (show j<(l.zip ps).length by rw[bZ];lia),bE z,List.getElem_zip];rfl
     ·rw[bJ (show(l.zip ps).length<=j by rw[bZ];lia),bJ (by lia)];rfl
def AtG (G:Gl) (p:Nat) (t:Tr) (g:Str->Option Hm):Prop:=PlT G t p g/\t.ok/\okN t (dom g)
def AtG.kid {G:Gl} {p:Nat} {κ:Kn} {ks:List Tr} {g:Str->Option Hm} (h:AtG G p (.mk κ ks) g) {j c:Nat} (hc:(jb ks (p+ 1))[j]?=some c):∃t,ks[j]?=some t/\AtG G c t (exG g ((roK κ (jb ks (p+ 1))).ex[j]?.getD none))/\p<c/\c+t.sz<=p+(Tr.mk κ ks).sz:=by obtain⟨a,b,d⟩:=h;unfold PlT at a;unfold MG at b;unfold okN at d;obtain⟨t,e,x,l1,l2⟩:=BQ a.2 hc;refine⟨t,e,⟨x,DX b.2.2 e,kS t (DY ?_) (BR d.2 e)⟩,by lia,by rw[ME];lia⟩;exact(wJ (by rw[ML];exact b.2.1)).2 j
def AtG.row {G:Gl} {p:Nat} {κ:Kn} {ks:List Tr} {g:Str->Option Hm} (h:AtG G p (.mk κ ks) g):G[p]?=some (roK κ (jb ks (p+ 1)),g)/\κ.ok/\(jb ks (p+ 1)).length=κ.ar/\ndK κ (dom g):=by obtain⟨a,b,d⟩:=h;unfold PlT at a;unfold MG at b;unfold okN at d;exact⟨a.1,b.1,by rw[ML];exact b.2.1,d.1⟩
open TM.Internal (Kn Tr jb szs oks)
def Cov (n:Nat) (g:Str->Option Hm) (sc:Ev):Prop:=∀w k q,g w=some (k,q)->(k="def"/\∃d:Nat,q=(d:Int)/\d<n)\/(k≠"def"/\∃v,qW sc q=some v)
section
variable (G:Gl) (n:Nat)
def Bdy (b c:Int) (sc:Ev):Prop:=∃(m:Nat) (t:Tr) (g:Str->Option Hm),b=(m:Int)/\AtG G m t g/\∀v,Cov n g (.cons c v sc)
mutual
def OkV:Vl->Prop
 | .num _ _=>True
 | .fn b sc _=>OkE sc/\Bdy G n b b sc
 | .rcd l _=>OkS l/\((fdL l).map Ld).Nodup/\(fdL l).length<=100
 | .tag _ v _=>OkV v
 | .row l _=>OkR l/\(uh l).length<=60
def OkE:Ev->Prop
 | .nil=>True
 | .cons _ v sc=>OkV v/\OkE sc
def OkS:Vls->Prop
 | .nil=>True
 | .cons _ v t=>OkV v/\OkS t
def OkR:Vlr->Prop
 | .nil=>True
 | .cons v t=>OkV v/\OkR t
end
end
def Cov.mono {n m:Nat} {g:Str->Option Hm} {sc:Ev} (h:Cov n g sc) (l:n<=m):Cov m g sc:=fun w k q e=>(h w k q e).imp_left fun⟨a,d,b,c⟩=>⟨a,d,b,cB c l⟩
section
variable {G:Gl} {n m:Nat}
mutual
theorem OkV.mono (l:n<=m):∀v:Vl,OkV G n v->OkV G m v
 | .num _ _,_=>by unfold OkV;trivial
 | .fn b sc p,h=>by unfold OkV at h⊢;obtain⟨h1,k,t,g,e,a,c⟩:=h;exact⟨OkE.mono l sc h1,k,t,g,e,a,fun v=>(c v).mono l⟩
 | .rcd r p,h=>by unfold OkV at h⊢;exact⟨OkS.mono l r h.1,h.2⟩
 | .tag w v p,h=>by unfold OkV at h⊢;exact OkV.mono l v h
 | .row r p,h=>by unfold OkV at h⊢;exact⟨OkR.mono l r h.1,h.2⟩
theorem OkE.mono (l:n<=m):∀v:Ev,OkE G n v->OkE G m v
 | .nil,_=>by unfold OkE;trivial
 | .cons b v sc,h=>by unfold OkE at h⊢;exact⟨OkV.mono l v h.1,OkE.mono l sc h.2⟩
theorem OkS.mono (l:n<=m):∀v:Vls,OkS G n v->OkS G m v
 | .nil,_=>by unfold OkS;trivial
 | .cons b v t,h=>by unfold OkS at h⊢;exact⟨OkV.mono l v h.1,OkS.mono l t h.2⟩
theorem OkR.mono (l:n<=m):∀v:Vlr,OkR G n v->OkR G m v
 | .nil,_=>by unfold OkR;trivial
 | .cons v t,h=>by unfold OkR at h⊢;exact⟨OkV.mono l v h.1,OkR.mono l t h.2⟩
end
def Dc {k p:Int}:OkV G n (.num k p):=by unfold OkV;trivial
theorem HQ:∀{sc:Ev} {q:Int} {v:Vl},OkE G n sc->qW sc q=some v->OkV G n v
 | .nil,q,v,_,e=>by cases e
 | .cons b u sc,q,v,h,e=>by
  unfold OkE at h;unfold qW at e;by_cases z:b=q;·rw[gT z]at e;cases e;exact h.1
  ·rw[gN z]at e;exact HQ h.2 e
theorem DZ:∀{l:List (Str×Vl)},(∀p∈l,OkV G n p.2)->OkS G n (fdO l)
 |[],_=>by show OkS G n .nil;unfold OkS;trivial
 |p::l,h=>by show OkS G n (.cons p.1 p.2 (fdO l));unfold OkS;exact⟨h p ai,DZ fun q hq=>h q (aj _ hq)⟩
theorem HR:∀{l:Vls} {w:Str} {v:Vl},OkS G n l->lkV (fdL l) w=some v->OkV G n v
 | .nil,w,v,_,e=>by cases e
 | .cons u x l,w,v,h,e=>by
  unfold OkS at h;have e:(if u=w then some x else lkV (fdL l) w)=some v:=e;by_cases z:u=w;·rw[gT z]at e;cases e;exact h.1
  ·rw[gN z]at e;exact HR h.2 e
theorem Fs:∀{l:List Vl},(∀p∈l,OkV G n p)->OkR G n (Cg l)
 |[],_=>by show OkR G n .nil;unfold OkR;trivial
 |p::l,h=>by show OkR G n (.cons p (Cg l));unfold OkR;exact⟨h p ai,Fs fun q hq=>h q (aj _ hq)⟩
theorem Dd:∀{l:Vlr},OkR G n l->∀v∈uh l,OkV G n v
 | .nil,_,v,hv=>by cases hv
 | .cons u l,h,v,hv=>by
  unfold OkR at h;rcases ak.mp hv with rfl|hv;·exact h.1
  ·exact Dd h.2 v hv
def Sok (G:Gl) (n:Nat) (p:Int) (sc:Ev):Prop:=∃(m:Nat) (t:Tr) (g:Str->Option Hm),p=(m:Int)/\AtG G m t g/\Cov n g sc/\OkE G n sc
def Bdy.sok {b c:Int} {sc:Ev} {v:Vl} (h:Bdy G n b c sc) (hs:OkE G n sc) (hv:OkV G n v):Sok G n b (.cons c v sc):=by obtain⟨m,t,g,e,a,k⟩:=h;exact⟨m,t,g,e,a,k v,by unfold OkE;exact⟨hv,hs⟩⟩
def D0 {g:Str->Option Hm} {sc:Ev} {w k:Str} {b:Int} (h:Cov n g sc) (hk:k≠"def") (v:Vl):Cov n (exG g (some (w,(k,b)))) (.cons b v sc):=fun u k' q e=>by
 have e:(if u=w then some (k,b)else g u)=some (k',q):=e;by_cases z:u=w;·rw[gT z]at e;cases e;exact .inr ⟨hk,v,gT rfl⟩
 ·rw[gN z]at e;refine(h u k' q e).imp_right fun⟨a,x,y⟩=>⟨a,?_⟩;by_cases y':b=q;·exact⟨v,gT y'⟩
  ·exact⟨x,(gN y').trans y⟩
inductive Out (G:Gl) (n:Nat) (k:Int) (s s':Ms):Prop
 |fin (v:Vl) (m:List (Int×Int×Int)) (h:OkV G n v) (e:s'=kR k v {s with me:=m})
 |into (b:Int) (sc:Ev) (m:List (Int×Int×Int)) (h:Sok G n b sc) (e:s'=pM b sc k {s with me:=m})
 |stop (h:s'.en=some ("wrong":Str)\/s'.en=some ("full":Str))
def HS {b:Bool} {k:Int}:OkV G n (E6 b k):=by unfold E6 OkV;unfold OkV;exact⟨by unfold OkS;trivial,cg,by show 0<=100;decide⟩
def BS {sh:Str} {a b:Vl} {p:Int} {s:Ms} (h:(iB sh a b p s).2=false):(iB sh a b p s).1.en=some ("wrong":Str):=by
 unfold iB at h⊢
 cases e:isS sh a with
 |false=>rfl
 |true=>rw[e]at h;rw[show isS sh b=false from h];rfl
def BU {sh:Str} {a b:Vl} {p:Int} {s:Ms} (h:(iB sh a b p s).2=true):(iB sh a b p s).1={s with me:=(b.p,p,1)::(a.p,p,0)::s.me}:=by
 unfold iB at h⊢
 cases e:isS sh a with
 |false=>rw[e]at h;cases h
 |true=>rw[e]at h;rw[show isS sh b=true from h];rfl
def sP {l:List Vl} (h:l.length=1):∃a,l=[a]:=bC.mp h
def sQ {l:List Vl} (h:l.length=2):∃a b,l=[a,b]:=by
 match l,h with
 |[a,b],_=>exact⟨a,b,rfl⟩
def Ft {l:List Vl} (h:l.length=3):∃a b c,l=[a,b,c]:=by
 match l,h with
 |[a,b,c],_=>exact⟨a,b,c,rfl⟩
theorem D1:∀{l:List (Str×Str×Int)} {t:Str} {b:Int},lkI l t=some b->∃(j:Nat) (x:Str),l[j]?=some (t,x,b)
 |[],t,b,e=>by cases e
 |p::l,t,b,e=>by
  unfold lkI at e;by_cases z:p.1=t;·rw[gT z]at e;cases e;exact⟨0,p.2.1,by rw[<-z];rfl⟩
  ·rw[gN z]at e;obtain⟨j,x,h⟩:=D1 e;exact⟨j+ 1,x,h⟩
def Fu {hm:Option Hm} {p:Int} {sc:Ev} {ks:List Int} {o:Str} {m:Nat} {l:List Vl} {s:Ms} (ho:(o,m)∈MH) (hl:l.length=m) (ov:∀v∈l,OkV G n v):∃s',ku hm p sc (.op o ks) l s=some s'/\Out G n p s s':=by
 simp only[MH,ak,Prod.mk.injEq,bG,or_false]at ho;have num2:∀{a b:Vl} {f:Vl},OkV G n f->∃s',(if(iB "num" a b p s).2 then some (kR p f (iB "num" a b p s).1)else some (iB "num" a b p s).1)=some s'/\Out G n p s s':=fun{a b f} hf=>by
  cases e:(iB "num" a b p s).2 with
  |true=>rw[gT rfl];exact⟨_,rfl,.fin f _ hf (by rw[BU e])⟩
  |false=>rw[gN eV];exact⟨_,rfl,.stop (.inl (BS e))⟩
 rcases ho with⟨rfl,rfl⟩|⟨rfl,rfl⟩|⟨rfl,rfl⟩|⟨rfl,rfl⟩|⟨rfl,rfl⟩|⟨rfl,rfl⟩|⟨rfl,rfl⟩
 ·obtain⟨a,b,rfl⟩:=sQ hl;rw[xU]
  cases a with
  |fn c e pf=>have h:=ov _ ai;unfold OkV at h;exact⟨_,rfl,.into c _ _ (h.2.sok h.1 (ov b (by simp))) rfl⟩
  |_=>exact⟨_,rfl,.stop (.inl rfl)⟩
 ·obtain⟨a,b,x,rfl⟩:=Ft hl;rw[Fg]
  cases e:isS "row" a with
  |false=>exact⟨_,rfl,.stop (.inl rfl)⟩
  |true=>
   rw[gT rfl]
   cases e2:isS "num" b with
   |false=>exact⟨_,rfl,.stop (.inl rfl)⟩
   |true=>
    rw[gT rfl];refine⟨_,rfl,.fin _ ((b.p,p,1)::(a.p,p,0)::s.me) ?_ rfl⟩;obtain⟨r,pr,rfl⟩:=sJ (of_decide_eq_true e);have h:=ov _ ai;unfold OkV at h;have ox:=ov x (by simp);split
    ·rw[bq]
     cases er:(kr (.row r pr))[(mO b).toNat]? with
     |none=>exact ox
     |some u=>exact Dd h.1 u (aP er)
    ·exact ox
 ·obtain⟨a,b,rfl⟩:=sQ hl;rw[xV]
  cases e:(iB "row" a b p s).2 with
  |false=>rw[gN eV];exact⟨_,rfl,.stop (.inl (BS e))⟩
  |true=>
   obtain⟨ea,eb⟩:=sH e;obtain⟨r,pr,rfl⟩:=sJ ea;obtain⟨u,pu,rfl⟩:=sJ eb;have h:=ov _ ai;have h':=ov (.row u pu) (by simp);unfold OkV at h h';rw[gT rfl,gN (by show ¬(500<(uh r).length\/500<(uh u).length);lia)];by_cases z:60<(kr (.row r pr)++kr (.row u pu)).length;·rw[gT z];exact⟨_,rfl,.stop (.inr rfl)⟩
   ·rw[gN z];refine⟨_,rfl,.fin _ _ ?_ (by rw[BU e])⟩;unfold OkV;refine⟨Fs fun v hv=>?_,by rw[Bx];exact Nat.not_lt.mp z⟩;rcases ao.mp hv with hv|hv;·exact Dd h.1 v hv
    ·exact Dd h'.1 v hv
 ·obtain⟨a,rfl⟩:=sP hl;rw[ya]
  cases e:isS "row" a with
  |false=>exact⟨_,rfl,.stop (.inl rfl)⟩
  |true=>rw[gT rfl];exact⟨_,rfl,.fin _ ((a.p,p,0)::s.me) Dc rfl⟩
 ·obtain⟨a,b,rfl⟩:=sQ hl;rw[BF];exact num2 Dc
 ·obtain⟨a,b,rfl⟩:=sQ hl;rw[BG];exact num2 Dc
 ·obtain⟨a,b,rfl⟩:=sQ hl;rw[xW];exact num2 HS
def Fv {κ:Kn} {ps:List Nat} (h:ps.length=κ.ar):(ma (roK κ ps)).length<=ps.length/\∀(j:Nat) (c:Int),(ma (roK κ ps))[j]?=some c->∃q:Nat,c=(q:Int)/\ps[j]?=some q/\(roK κ ps).ex[j]?.getD none=none:=by
 have pl:=(wJ h).1;have gen:∀l:List Int,l=ps.map (fun p:Nat=>(p:Int))->l.length<=ps.length/\∀(j:Nat) (c:Int),l[j]?=some c->∃q:Nat,c=(q:Int)/\ps[j]?=some q/\(l.map fun _=>(none:Option (Str×Hm)))[j]?.getD none=none:=fun l e=>by refine⟨by rw[e,aD];exact cH _,fun j c hj=>?_⟩;rw[aO,hj];rw[e,aO]at hj;obtain⟨q,h1,rfl⟩:=dy.mp hj;exact⟨q,rfl,h1,rfl⟩
 cases κ with
 |fn w=>obtain⟨a,rfl⟩:=bC.mp h;exact⟨cJ _,fun j c z=>nomatch z⟩
 |lt w=>
  match ps,h with
  |[a,b],_=>exact⟨by show 1<=2;decide,fun j c z=>by match j,z with|0,z=>cases z;exact⟨a,rfl,rfl,rfl⟩⟩
 |case l=>
  match ps,h with
  |p::ps,h=>exact⟨by show 1<=_;rw[aA];lia,fun j c z=>by match j,z with|0,z=>cases z;exact⟨p,rfl,rfl,rfl⟩⟩
 |tag w=>obtain⟨a,rfl⟩:=bC.mp h;exact gen _ pl
 |get w=>obtain⟨a,rfl⟩:=bC.mp h;exact gen _ pl
 |num w=>cases bV h;exact gen _ pl
 |name w=>cases bV h;exact gen _ pl
 |rcd l=>exact gen _ pl
 |row m=>exact gen _ pl
 |op s m=>exact gen _ pl
def Fw {k:Nat} {κ:Kn} {ks:List Tr} {g:Str->Option Hm} {hm:Option Hm} {sc:Ev} {l:List Vl} {s:Ms} (h:AtG G k (.mk κ ks) g) (cv:Cov n g sc) (oe:OkE G n sc) (hh:∀w,κ= .name w->hm=g w) (hl:l.length=(ma (roK κ (jb ks (k+ 1)))).length) (ov:∀v∈l,OkV G n v) (hd:s.de.length=n) (od:∀v∈s.de,OkV G n v):∃s',ku hm k sc (roK κ (jb ks (k+ 1))) l s=some s'/\Out G n k s s':=by
 obtain⟨_,hk,ha,nd⟩:=h.row;have kid:=@AtG.kid _ _ _ _ _ h;have bdy:∀{j c:Nat} {w kd:Str} {x:Int},(jb ks (k+ 1))[j]?=some c->(roK κ (jb ks (k+ 1))).ex[j]?.getD none=some (w,(kd,x))->kd≠"def"->Bdy G n c x sc:=fun hc he hn=>by obtain⟨t,_,a,_⟩:=kid hc;rw[he]at a;exact⟨_,t,_,rfl,a,fun v=>D0 cv hn v⟩
 generalize jb ks (k+ 1)=ps at ha hl kid bdy⊢;have nil:l.length=0->l=[]:=bV
 cases κ with
 |num i=>cases nil hl;exact⟨_,rfl,.fin _ s.me Dc rfl⟩
 |name w=>
  cases nil hl;rw[hh w rfl]
  cases e:g w with
  |none=>exact absurd e nd
  |some z=>
   obtain⟨kd,q⟩:=z;show ∃s',(if kd="def" then(atZ s.de q).map fun v=>kR k v s else(qW sc q).map fun v=>kR k v s)=some s'/\_;rcases cv w kd q e with⟨c,d,rfl,hd'⟩|⟨c,v,hv⟩;·rw[gT c,show atZ s.de (d:Int)=s.de[d]? from rfl,bE (by lia)];exact⟨_,rfl,.fin _ s.me (od _ (List.getElem_mem _)) rfl⟩
   ·rw[gN c,hv];exact⟨_,rfl,.fin _ s.me (HQ oe hv) rfl⟩
 |fn w=>obtain⟨a,rfl⟩:=bC.mp ha;cases nil hl;exact⟨_,rfl,.fin _ s.me (by unfold OkV;exact⟨oe,bdy (j:=0) rfl rfl gA⟩) rfl⟩
 |tag w=>obtain⟨a,rfl⟩:=bC.mp ha;obtain⟨v,rfl⟩:=sP hl;exact⟨_,rfl,.fin _ s.me (by unfold OkV;exact ov v (by simp)) rfl⟩
 |lt w=>
  match ps,ha with
  |[a,b],_=>obtain⟨v,rfl⟩:=sP hl;exact⟨_,rfl,.into _ _ s.me ((bdy (j:=1) (c:=b) (w:=w) (kd:="let") (x:=(a:Int)) rfl rfl gA).sok oe (ov v (by simp))) rfl⟩
 |get w=>
  obtain⟨a,rfl⟩:=bC.mp ha;obtain⟨v,rfl⟩:=sP hl;show ∃s',ku hm k sc (.get a w) [v] s=some s'/\_;by_cases z:v.s="rec"
  ·obtain⟨r,pr,rfl⟩:=BK z;have h:=ov _ ai;unfold OkV at h;show ∃s',(if((fdL r).map Ld).Nodup/\(fdL r).length<=100 then(match lkV (fdL r) w with|some x=>some (kR k x (ij (.rcd r pr) k 0 true s))|none=>some (ij (.rcd r pr) k 0 false s))else none)=some s'/\_;rw[gT h.2]
   cases e:lkV (fdL r) w with
   |none=>exact⟨_,rfl,.stop (.inl rfl)⟩
   |some x=>exact⟨_,rfl,.fin x ((pr,k,0)::s.me) (HR h.1 e) rfl⟩
  ·rw[sM z];exact⟨_,rfl,.stop (.inl rfl)⟩
 |rcd r=>
  have hl:l.length=(((r.zip ps).map fun q=>(q.1,(q.2:Int))).map LD).length:=hl;have ha:ps.length=r.length:=ha;rw[aD,aD,bZ]at hl;have e1:((r.zip ps).map fun q=>(q.1,(q.2:Int))).length=l.length:=by rw[aD,bZ];lia
  have e2:((r.zip ps).map fun q=>(q.1,(q.2:Int))).map Ld=r:=by rw[bF];show(r.zip ps).map Ld=r;exact cq (by lia)
  show ∃s',(if((r.zip ps).map fun q=>(q.1,(q.2:Int))).length=l.length then some (kR k (.rcd (fdO (bD (((r.zip ps).map fun q=>(q.1,(q.2:Int))).map Ld) l)) k) s)else none)=some s'/\_;rw[gT e1,e2];refine⟨_,rfl,.fin _ s.me ?_ rfl⟩;unfold OkV;rw[JP,cq (by lia)];refine⟨DZ fun p hp=>ov _ (aG hp).2,nd,?_⟩;rw[bZ];have:=hk.1;lia
 |case r=>
  match ps,ha with
  |p::ps,ha=>
   have ha:ps.length=r.length:=cZ.inj ha;obtain⟨v,rfl⟩:=sP hl;show ∃s',ku hm k sc (.case p ((r.zip ps).map fun q=>(q.1.1,q.1.2,(q.2:Int)))) [v] s=some s'/\_;by_cases z:v.s="tag"
   ·obtain⟨t,x,pt,rfl⟩:=BH z;have h:=ov _ ai;unfold OkV at h;show ∃s',(match lkI ((r.zip ps).map fun q=>(q.1.1,q.1.2,(q.2:Int))) t with|some b=>some (pM b (.cons b x sc) k (ij (.tag t x pt) k 0 true s))|none=>some (ij (.tag t x pt) k 0 false s))=some s'/\_
    cases e:lkI ((r.zip ps).map fun q=>(q.1.1,q.1.2,(q.2:Int))) t with
    |none=>exact⟨_,rfl,.stop (.inl rfl)⟩
    |some b=>
     obtain⟨j,y,hj⟩:=D1 e;have hj':=hj;rw[aO]at hj;obtain⟨q,hq,eq⟩:=dy.mp hj;cases eq;have hz:=(ck.mp hq).2;exact⟨_,rfl,.into _ _ ((pt,k,0)::s.me) ((bdy (j:=j+ 1) (c:=q.2) (w:=q.1.2) (kd:="arm") (x:=(q.2:Int)) hz (by show((((r.zip ps).map fun q=>(q.1.1,q.1.2,(q.2:Int))).map fun p=>some (p.2.1,(("arm":Str),p.2.2)))[j]?).getD none=_;rw[aO,hj'];rfl) gA).sok oe h) rfl⟩
   ·rw[qv z];exact⟨_,rfl,.stop (.inl rfl)⟩
 |row m=>have hl:l.length=(ps.map fun p:Nat=>(p:Int)).length:=hl;have ha:ps.length=m:=ha;have hk:m<=8:=hk;rw[aD]at hl;exact⟨_,rfl,.fin _ s.me (by unfold OkV;rw[Bx];exact⟨Fs ov,by lia⟩) rfl⟩
 |op o m=>have hl:l.length=(ps.map fun p:Nat=>(p:Int)).length:=hl;have ha:ps.length=m:=ha;rw[aD]at hl;exact Fu (hk:(o,m)∈MH) (by lia) ov
end
open TM.Internal (Kn Tr jb szs oks)
def Ci (G:Gl):List Stp->Nat->Prop
 |[],c=>c=1
 | .beg _ _::r,c=>Ci G r (c+ 1)
 | .par p _::r,c=>∃(k:Nat) (ρ:Ro) (g:Str->Option Hm),p=(k:Int)/\G[k]?=some (ρ,g)/\(ma ρ).length<=c/\Ci G r (c-(ma ρ).length+ 1)
 | .hand _::r,c=>1<=c/\Ci G r c
def StO (G:Gl) (n:Nat):Stp->Prop
 | .beg p sc=>Sok G n p sc
 | .par p sc=>Sok G n p sc
 | .hand _=>True
def pnd:List Stp->Nat
 |[]=>0
 | .beg _ _::r=>pnd r
 | .par _ _::r=>pnd r+ 1
 | .hand _::r=>pnd r+ 1
def mu:List Stp->Nat
 |[]=>0
 | .beg _ _::r=>mu r
 | .par _ _::r=>mu r+ 2
 | .hand _::r=>mu r+ 1
structure OkM (G:Gl) (n:Nat) (s:Ms):Prop where
 de:s.de.length=n
 dv:∀v∈s.de,OkV G n v
 rd:∀v∈s.rd,OkV G n v
 st:∀x∈s.st,StO G n x
 bl:Ci G s.st s.rd.length
 ct:s.bg=s.ha.length+pnd s.st
theorem BV (G:Gl) (sc:Ev) (x:List Stp):∀(l:List Int) (c:Nat),(Ci G (l.map (fun k=>Stp.beg k sc)++x) c=Ci G x (c+l.length))/\pnd (l.map (fun k=>Stp.beg k sc)++x)=pnd x/\mu (l.map (fun k=>Stp.beg k sc)++x)=mu x
 |[],c=>⟨rfl,rfl,rfl⟩
 |k::l,c=>by obtain⟨a,b,d⟩:=BV G sc x l (c+ 1);refine⟨?_,b,d⟩;show Ci G (l.map _++x) (c+ 1)=_;rw[a,aA,cY,Nat.add_comm 1]
theorem D2:∀(n:Nat) (r l:List Vl),n<=r.length->tkR n r l=some ((r.take n).reverse++l,r.drop n)
 |0,r,l,_=>rfl
 |n+ 1,[],l,h=>absurd h (Nat.not_succ_le_zero _)
 |n+ 1,v::r,l,h=>by show tkR n r (v::l)=_;rw[D2 n r (v::l) (dh h)];simp
section
variable {G:Gl} {n:Nat} {ho:Nat->Option Hm}
def HoG (G:Gl) (ho:Nat->Option Hm):Prop:=∀(k:Nat) (w:Str) (g:Str->Option Hm),G[k]?=some (.name w,g)->ho k=g w
def Fy {k:Nat} {ρ:Ro} {g:Str->Option Hm} (h:G[k]?=some (ρ,g)):atZ (G.map Ld) (k:Int)=some ρ:=by show(G.map Ld)[k]?=_;rw[aO,h];rfl
def BW (hg:HoG G ho) {s:Ms} (M:OkM G n s) (he:s.en=none) {t:Stp} {r:List Stp} (hs:s.st=t::r):∃s',nA (G.map Ld) ho s=some s'/\((s'.en=some ("wrong":Str)\/s'.en=some ("full":Str))\/(s'.en=none/\OkM G n s'/\((qX s.st=true/\s'.bg=s.bg+ 1/\mu s'.st=mu s.st+ 2)\/(s'.bg=s.bg/\mu s'.st+ 1<=mu s.st)))):=by
 obtain⟨m1,m2,m3,m4,m5,m6⟩:=M;rw[hs]at m4 m5 m6;have mr:∀x∈r,StO G n x:=fun x hx=>m4 x (aj _ hx);unfold nA;rw[hs]
 cases t with
 |beg p sc=>
  obtain⟨k,⟨κ,ks⟩,g,rfl,at_,cv,oe⟩:=m4 _ ai;obtain⟨hr,hk,ha,nd⟩:=at_.row;dsimp only;rw[Fy hr];obtain⟨f1,f2⟩:=Fv ha;obtain⟨b1,b2,b3⟩:=BV G sc (.par (k:Int) sc::r) (ma (roK κ (jb ks (k+ 1)))) s.rd.length;refine⟨_,rfl,.inr ⟨he,⟨m1,m2,m3,fun x hx=>?_,?_,?_⟩,.inl ⟨rfl,rfl,b3⟩⟩⟩
  ·rcases ao.mp hx with hx|hx;·obtain⟨j,hj,rfl⟩:=bf.mp hx;obtain⟨i,hi⟩:=cu hj;obtain⟨q,rfl,h1,h2⟩:=f2 i j hi;obtain⟨u,_,a,_⟩:=at_.kid h1;rw[h2]at a;exact⟨q,u,g,rfl,a,cv,oe⟩
   ·rcases ak.mp hx with rfl|hx;·exact⟨k,_,g,rfl,at_,cv,oe⟩
    ·exact mr x hx
  ·show Ci G _ s.rd.length;rw[b1];exact⟨k,_,g,rfl,hr,Nat.le_add_left _ _,by rw[df];exact m5⟩
  ·show s.bg+ 1=s.ha.length+pnd _;rw[b2,m6];rfl
 |par p sc=>
  obtain⟨k,⟨κ,ks⟩,g,rfl,at_,cv,oe⟩:=m4 _ ai;obtain⟨hr,hk,ha,nd⟩:=at_.row;obtain⟨k',ρ,g',e1,e2,l1,bl⟩:=m5;cases Int.ofNat.inj e1;rw[hr]at e2;cases e2;dsimp only;rw[Fy hr];dsimp only;rw[D2 _ _ _ l1];dsimp only;obtain⟨s',h1,out⟩:=Fw (hm:=ho k) (l:=(s.rd.take (ma (roK κ (jb ks (k+ 1)))).length).reverse++[]) (s:={s with st:=r,rd:=s.rd.drop (ma (roK κ (jb ks (k+ 1)))).length}) at_ cv oe (fun w e=>hg k w g (by rw[hr,e];rfl)) (by rw[aE,bK,aK];lia) (fun v hv=>by rw[aE]at hv;exact m3 v (cw (List.mem_reverse.mp hv))) m1 m2;refine⟨s',h1,?_⟩;have rl:(s.rd.drop (ma (roK κ (jb ks (k+ 1)))).length).length+ 1=s.rd.length-(ma (roK κ (jb ks (k+ 1)))).length+ 1:=by rw[aX]
  have ro:∀v∈s.rd.drop (ma (roK κ (jb ks (k+ 1)))).length,OkV G n v:=fun v hv=>m3 v (bS hv)
  cases out with
  |fin v m hv e=>
   subst e;refine .inr ⟨he,⟨m1,m2,fun u hu=>?_,mr,?_,?_⟩,.inr ⟨rfl,by show mu r+ 1<=mu r+ 2;lia⟩⟩
   ·rcases ak.mp hu with rfl|hu;·exact hv
    ·exact ro u hu
   ·show Ci G r (_::_).length;rw[aA,rl];exact bl
   ·show s.bg=(_::s.ha).length+pnd r;rw[m6,aA];show _+(pnd r+ 1)=_;lia
  |into b sc' m hv e=>
   subst e;refine .inr ⟨he,⟨m1,m2,ro,fun x hx=>?_,?_,?_⟩,.inr ⟨rfl,by show mu r+ 1+ 1<=mu r+ 2;lia⟩⟩
   ·rcases ak.mp hx with rfl|hx;·exact hv
    ·rcases ak.mp hx with rfl|hx;·trivial
     ·exact mr x hx
   ·rw[<-rl]at bl;exact⟨Nat.le_add_left _ _,bl⟩
   ·show s.bg=s.ha.length+(pnd r+ 1);rw[m6];rfl
  |stop h=>exact .inl h
 |hand p=>
  obtain⟨l1,bl⟩:=m5
  cases hr:s.rd with
  |nil=>rw[hr]at l1;exact absurd l1 (by decide)
  |cons v rd=>rw[hr]at m3 bl;refine⟨_,rfl,.inr ⟨he,⟨m1,m2,m3,mr,bl,?_⟩,.inr ⟨rfl,cH _⟩⟩⟩;show s.bg=(_::s.ha).length+pnd r;rw[m6,aA];show _+(pnd r+ 1)=_;lia
def Ens (e:Option Str):Prop:=e=some ("turns":Str)\/e=some ("wrong":Str)\/e=some ("full":Str)
def Ens.ne {e:Option Str} (h:Ens e):e≠none/\e≠some ("done":Str):=by rcases h with rfl|rfl|rfl<;>exact⟨(fun z=>nomatch z),fun z=>absurd (dm.inj z) gA⟩
def HU {ρs:List Ro} (ok:∀ρ∈ρs,ρ.ok) (hu:∀ρ∈ρs,U0 ρ) {s s1:Ms} {t:Stp} {r:List Stp} (hs:s.st=t::r) (ct:s.bg=s.ha.length+pnd s.st) (h:nA ρs ho s=some s1):s1.ha.length<=s1.bg:=by
 obtain⟨⟨a,e,l⟩,b⟩:(∃a,s1.ha=a++s.ha/\a.length<=1)/\s.bg<=s1.bg:=by rcases vd ok hu h with g|⟨_,g⟩<;>exact⟨g.ha,g.ext.b⟩
 rw[e,aQ];by_cases z:qX s.st=true;·have:=DU z h;lia
 ·rw[hs]at ct z
  cases t with
  |beg p sc=>exact absurd rfl z
  |par p sc=>have:pnd (.par p sc::r)=pnd r+ 1:=rfl;lia
  |hand p=>have:pnd (.hand p::r)=pnd r+ 1:=rfl;lia
def FA (hg:HoG G ho) (ok:∀ρ∈G.map Ld,ρ.ok) (hu:∀ρ∈G.map Ld,U0 ρ) {tu:Nat}:∀(N:Nat) (s:Ms),OkM G n s->s.en=none->s.bg<=tu->3*(tu-s.bg)+mu s.st<=N->∃m s',wW (G.map Ld) ho tu m s s'/\((Ens s'.en/\m<=N+ 1/\s'.ha.length<=s'.bg)\/(s'.en=none/\OkM G n s'/\s'.st=[]/\s'.bg<=tu/\m+ 3*(tu-s'.bg)<=N)):=by
 intro N
 induction N with
 |zero=>
  intro s M he hb hN
  cases hs:s.st with
  |nil=>exact⟨0,s,.stop (.inr hs),.inr ⟨he,M,hs,hb,by lia⟩⟩
  |cons t r=>
   by_cases z:qX s.st=true/\tu<=s.bg;·exact⟨1,_,.step he (by unfold mP;rw[gT z]) (.stop (.inl (by intro w;cases w))),.inl ⟨.inl rfl,cH _,by have:=M.ct;show s.ha.length<=s.bg;lia⟩⟩
   ·obtain⟨s1,h1,h2|⟨_,_,⟨b,e1,e2⟩|⟨e1,e2⟩⟩⟩:=BW hg M he hs;·exact⟨1,s1,.step he ((n9 s z).trans h1) (.stop (.inl (Ens.ne (.inr h2)).1)),.inl ⟨.inr h2,cH _,HU ok hu hs M.ct h1⟩⟩
    ·exact absurd ⟨b,by lia⟩ z
    ·lia
 |succ N ih=>
  intro s M he hb hN
  cases hs:s.st with
  |nil=>exact⟨0,s,.stop (.inr hs),.inr ⟨he,M,hs,hb,by lia⟩⟩
  |cons t r=>
   by_cases z:qX s.st=true/\tu<=s.bg;·exact⟨1,_,.step he (by unfold mP;rw[gT z]) (.stop (.inl (by intro w;cases w))),.inl ⟨.inl rfl,by lia,by have:=M.ct;show s.ha.length<=s.bg;lia⟩⟩
   ·obtain⟨s1,h1,h2|⟨he1,M1,k⟩⟩:=BW hg M he hs;·exact⟨1,s1,.step he ((n9 s z).trans h1) (.stop (.inl (Ens.ne (.inr h2)).1)),.inl ⟨.inr h2,by lia,HU ok hu hs M.ct h1⟩⟩
    ·have hb1:s1.bg<=tu:=by
      rcases k with⟨b,e1,_⟩|⟨e1,_⟩;·have:¬tu<=s.bg:=fun y=>z ⟨b,y⟩;lia
      ·lia
     have hN1:3*(tu-s1.bg)+mu s1.st<=N:=by
      rcases k with⟨b,e1,e2⟩|⟨e1,e2⟩;·have:¬tu<=s.bg:=fun y=>z ⟨b,y⟩;lia
      ·lia
     obtain⟨m,s',R,x⟩:=ih s1 M1 he1 hb1 hN1;refine⟨m+ 1,s',.step he ((n9 s z).trans h1) R,?_⟩;rcases x with⟨a,b,f⟩|⟨a,b,c,d,e⟩;·exact .inl ⟨a,by lia,f⟩
     ·exact .inr ⟨a,b,c,d,by lia⟩
def DfA (G:Gl) (i r:Nat):Prop:=∃t g,AtG G r t g/\((∃w ks,t= .mk (.fn w) ks/\Cov (i+ 1) g .nil)\/Cov i g .nil)
def D3:OkE G n .nil:=by unfold OkE;trivial
def FC (hg:HoG G ho) (ok:∀ρ∈G.map Ld,ρ.ok) (hu:∀ρ∈G.map Ld,U0 ρ) {tu i r:Nat} {s:Ms} (D:DfA G i r) (h0:s.en=none) (h1:s.st=[]) (h2:s.rd=[]) (h3:s.de.length=i) (h4:∀v∈s.de,OkV G i v) (h5:s.bg=s.ha.length) (hb:s.bg<=tu):∃m s',wW (G.map Ld) ho tu m {s with st:= .beg (r:Int) .nil::s.st} s'/\((Ens s'.en/\m<=3*(tu-s.bg)+ 1/\s'.ha.length<=s'.bg)\/(s'.en=none/\s'.st=[]/\s'.bg<=tu/\s'.bg=s'.ha.length/\m+ 3*(tu-s'.bg)<=3*(tu-s.bg)/\∃v,s'.rd=[v]/\s'.de.length=i/\∀u∈s'.de++[v],OkV G (i+ 1) u)):=by
 obtain⟨t,g,at_,⟨w,ks,rfl,cv⟩|cv⟩:=D
 ·by_cases z:tu<=s.bg;·exact⟨1,_,.step h0 (by unfold mP;exact gT ⟨rfl,z⟩) (.stop (.inl (by intro w;cases w))),.inl ⟨.inl rfl,by lia,by show s.ha.length<=s.bg;lia⟩⟩
  obtain⟨hr,hk,ha,nd⟩:=at_.row;obtain⟨a,ea⟩:=bC.mp ha;rw[ea]at hr;have hz:=Fy hr;obtain⟨u,_,ka,_⟩:=at_.kid (j:=0) (c:=a) (by rw[ea];rfl);rw[ea]at ka;have vo:OkV G (i+ 1) (.fn a .nil r):=by unfold OkV;exact⟨D3,a,u,_,rfl,ka,fun v=>D0 cv gA v⟩
  refine⟨2,{s with bg:=s.bg+ 1,rd:=[.fn a .nil r],ha:=((r:Int),(r:Int))::s.ha},.step h0 ?_ (.step (s':={s with bg:=s.bg+ 1,rd:=[.fn a .nil r],ha:=((r:Int),(r:Int))::s.ha}) (show({s with bg:=s.bg+ 1,st:=[.par (r:Int) .nil]}:Ms).en=none from h0) ?_ (.stop (.inr h1))),.inr ⟨h0,h1,by show s.bg+ 1<=tu;lia,by show s.bg+ 1=(_::s.ha).length;rw[aA,h5],by show 2+ 3*(tu-(s.bg+ 1))<=_;lia,_,rfl,h3,fun u hu=>?_⟩⟩;·refine(n9 {s with st:= .beg (r:Int) .nil::s.st} (fun y=>z y.2)).trans ?_;unfold nA;dsimp only;rw[hz,h1];rfl
  ·refine(n9 {s with bg:=s.bg+ 1,st:=[.par (r:Int) .nil]} (fun y=>(by have y1:=y.1;cases y1))).trans ?_;unfold nA;dsimp only;rw[hz];show some (kR r (.fn a .nil r) {s with bg:=s.bg+ 1,st:=[],rd:=s.rd})=_;rw[h2,<-h1];rfl
  ·rcases ao.mp hu with hu|hu;·exact(h4 u hu).mono (cO _) u
   ·rw[bj.mp hu];exact vo
 ·obtain⟨m,s',R,x⟩:=FA (ho:=ho) (tu:=tu) hg ok hu (3*(tu-s.bg)) {s with st:= .beg (r:Int) .nil::s.st} ⟨h3,h4,fun v hv=>by(rw[show({s with st:= .beg (r:Int) .nil::s.st}:Ms).rd=s.rd from rfl,h2]at hv;cases hv),fun x hx=>by rw[h1]at hx;rw[bj.mp hx];exact⟨r,t,g,rfl,at_,cv,D3⟩,by show Ci G s.st (s.rd.length+ 1);rw[h1,h2];rfl,by show s.bg=s.ha.length+pnd s.st;rw[h1,h5];rfl⟩ h0 hb (by show _+mu s.st<=_;rw[h1];exact cH _);refine⟨m,s',R,x.imp_right fun⟨a,b,c,d,e⟩=>⟨a,c,d,?_,e,?_⟩⟩;·rw[b.ct,c];rfl
  ·have:=b.bl;rw[c]at this;obtain⟨v,hv⟩:=bC.mp (show s'.rd.length=1 from this);refine⟨v,hv,b.de,fun u hu=>?_⟩;rcases ao.mp hu with hu|hu;·exact OkV.mono (cO _) u (b.dv u hu)
   ·rw[bj.mp hu];exact OkV.mono (cO _) v (b.rd v (by rw[hv];exact bj.mpr rfl))
theorem zc (hg:HoG G ho) (ok:∀ρ∈G.map Ld,ρ.ok) (hu:∀ρ∈G.map Ld,U0 ρ) {tu:Nat}:∀(rs:List Nat) (i:Nat) (s:Ms),(∀(j r:Nat),rs[j]?=some r->DfA G (i+j) r)->s.en=none->s.st=[]->s.rd=[]->s.de.length=i->(∀v∈s.de,OkV G i v)->s.bg=s.ha.length->s.bg<=tu->0<i+rs.length->∃m s',qw (G.map Ld) ho tu m rs s s'/\m<=3*(tu-s.bg)+ 4*rs.length+ 1/\((Ens s'.en/\s'.ha.length<=s'.bg)\/(s'.en=some ("done":Str)/\s'.de≠[]/\s'.bg=s'.ha.length))
 |[],i,s,_,h0,h1,h2,h3,h4,h5,hb,hi=>⟨0,_,.done,cJ _,.inr ⟨rfl,fun z=>by(have z:s.de=[]:=z;rw[z]at h3;have hi:0<i+ 0:=hi;have h3:0=i:=h3;lia),h5⟩⟩
 |r::rs,i,s,hd,h0,h1,h2,h3,h4,h5,hb,hi=>by
  obtain⟨m,s',R,⟨a,b,b2⟩|⟨a,b,c,d,e,v,f,g,k⟩⟩:=FC hg ok hu (hd 0 r rfl) h0 h1 h2 h3 h4 h5 hb;·exact⟨m,s',.ends R a.ne.1,by rw[aA];lia,.inl ⟨a,b2⟩⟩
  ·obtain⟨m',s2,P,x,y⟩:=zc hg ok hu rs (i+ 1) {s' with rd:=[],de:=s'.de++[v]} (fun j r h=>by have:=hd (j+ 1) r h;rwa[show i+(j+ 1)=i+ 1+j by lia]at this) a b rfl (by show(s'.de++[v]).length=_;rw[aQ,g];rfl) k d c (by lia);refine⟨m+m'+ 3,s2,.next R a f P,?_,y⟩;have x:m'<=3*(tu-s'.bg)+ 4*rs.length+ 1:=x;rw[aA];lia
end
open TM.Internal (Kn Tr jb szs oks)
mutual
theorem K4 {G:Gl}:∀(t:Tr) {p:Nat} {g:Str->Option Hm},AtG G p t g->∀k,p<=k->k<p+t.sz->∃t' g',AtG G k t' g'
 | .mk κ ks,p,g,h,k,l1,l2=>by
  by_cases z:k=p;·subst z;exact⟨_,_,h⟩
  ·have ha:=h.row.2.2.1;obtain⟨a,b,d⟩:=h;unfold PlT at a;unfold MG at b;unfold okN at d;rw[ME]at l2;exact HV ks a.2 b.2.2 d.2 (wJ ha).2 k (by lia) (by lia)
theorem HV {G:Gl}:∀(ts:List Tr) {p:Nat} {es:List (Option (Str×Hm))} {bs:List (Option Str)} {g:Str->Option Hm},DV G ts p es g->oks ts->vE ts bs (dom g)->(∀j:Nat,(es[j]?.getD none).map Ld=bs[j]?.getD none)->∀k,p<=k->k<p+szs ts->∃t' g',AtG G k t' g'
 |[],_,_,_,_,_,_,_,_,k,l1,l2=>by rw[szs]at l2;lia
 |t::ts,p,es,bs,g,a,b,d,e,k,l1,l2=>by
  unfold DV at a;unfold oks at b;unfold vE at d;rw[szs]at l2;by_cases z:k<p+t.sz;·refine K4 t ⟨a.1,b.1,kS t (DY ?_) d.1⟩ k l1 z;have:=e 0;cases es<;>cases bs<;>exact this
  ·refine HV ts a.2 b.2 d.2 (fun j=>?_) k (by lia) (by lia);have:=e (j+ 1);cases es<;>cases bs<;>simpa using this
end
mutual
theorem D4 {G:Gl}:∀(t:Tr) {p:Nat} {g:Str->Option Hm},PlT G t p g->t.ok->∀k,p<k->k<p+t.sz->∃(k':Nat) (ρ:Ro) (g':Str->Option Hm),k'<k/\G[k']?=some (ρ,g')/\(k:Int)∈ρ.pl
 | .mk κ ks,p,g,a,b,k,l1,l2=>by
  unfold PlT at a;unfold MG at b;rw[ME]at l2;rcases BX ks a.2 b.2.2 k (by lia) (by lia)with⟨j,hj⟩|h;·refine⟨p,_,_,l1,a.1,?_⟩;rw[(wJ (by rw[ML];exact b.2.1)).1];exact bf.mpr ⟨k,aP hj,rfl⟩
  ·exact h
theorem BX {G:Gl}:∀(ts:List Tr) {p:Nat} {es:List (Option (Str×Hm))} {g:Str->Option Hm},DV G ts p es g->oks ts->∀k,p<=k->k<p+szs ts->(∃j:Nat,(jb ts p)[j]?=some k)\/∃(k':Nat) (ρ:Ro) (g':Str->Option Hm),k'<k/\G[k']?=some (ρ,g')/\(k:Int)∈ρ.pl
 |[],_,_,_,_,_,k,l1,l2=>by rw[szs]at l2;lia
 |t::ts,p,es,g,a,b,k,l1,l2=>by
  unfold DV at a;unfold oks at b;rw[szs]at l2;by_cases y:k=p;·subst y;exact .inl ⟨0,rfl⟩
  by_cases z:k<p+t.sz;·exact .inr (D4 t a.1 b.1 k (by lia) z)
  ·rcases BX ts a.2 b.2 k (by lia) (by lia)with⟨j,hj⟩|h;·exact .inl ⟨j+ 1,hj⟩
   ·exact .inr h
end
def HW {κ:Kn} {ps:List Nat} {N:Str->Prop} (h:κ.ok) (ha:ps.length=κ.ar) (nd:ndK κ N):(roK κ ps).ok:=by
 cases κ with
 |num n=>cases bV ha;trivial
 |name w=>cases bV ha;trivial
 |fn w=>obtain⟨a,rfl⟩:=bC.mp ha;trivial
 |tag w=>obtain⟨a,rfl⟩:=bC.mp ha;trivial
 |get w=>obtain⟨a,rfl⟩:=bC.mp ha;trivial
 |lt w=>
  match ps,ha with
  |[a,b],_=>trivial
 |rcd l=>have ha:ps.length=l.length:=ha;have h6:l.length<=6:=h.1;refine⟨by rw[aD,bZ];lia,?_⟩;rw[bF,show(Ld∘fun q:Str×Nat=>(q.1,(q.2:Int)))=Ld from rfl,cq (by lia)];exact nd
 |case l=>
  match ps,ha with
  |p::ps,ha=>have ha:ps.length=l.length:=cZ.inj ha;have h6:l.length<=6:=h.2.1;refine⟨by rw[aD,bZ];lia,?_⟩;rw[bF,show(Ld∘fun q:(Str×Str)×Nat=>(q.1.1,q.1.2,(q.2:Int)))=Ld∘Ld from rfl,<-bF,cq (by lia)];exact nd
 |row m=>have ha:ps.length=m:=ha;have h8:m<=8:=h;show(ps.map _).length<=100;rw[aD];lia
 |op o m=>
  have ha:ps.length=m:=ha;have h:(o,m)∈MH:=h;have:o∈plain/\m<=3:=by simp only[MH,ak,Prod.mk.injEq,bG,or_false]at h;rcases h with⟨rfl,rfl⟩|⟨rfl,rfl⟩|⟨rfl,rfl⟩|⟨rfl,rfl⟩|⟨rfl,rfl⟩|⟨rfl,rfl⟩|⟨rfl,rfl⟩<;>exact⟨gA,by decide⟩
  exact⟨this.1,by rw[aD];lia⟩
def JZ {κ:Kn} {ps:List Nat} (ha:ps.length=κ.ar):(roK κ ps).d= .tup (κ.rw ps):=by
 have kd:(fun p:Nat=>MV p)=kD∘fun p:Nat=>(p:Int):=rfl
 cases κ with
 |num n=>cases bV ha;rfl
 |name w=>cases bV ha;rfl
 |fn w=>obtain⟨a,rfl⟩:=bC.mp ha;rfl
 |tag w=>obtain⟨a,rfl⟩:=bC.mp ha;rfl
 |get w=>obtain⟨a,rfl⟩:=bC.mp ha;rfl
 |lt w=>
  match ps,ha with
  |[a,b],_=>rfl
 |rcd l=>show Dt.tup [sD "rec",.tup (((l.zip ps).map _).map fdD)]=_;rw[bF];rfl
 |case l=>
  match ps,ha with
  |p::ps,_=>show Dt.tup [sD "case",kD p,.tup (((l.zip ps).map _).map amD)]=_;rw[bF];rfl
 |row m=>show Dt.tup [sD "row",.tup ((ps.map _).map kD)]=_;rw[bF];rfl
 |op o m=>show Dt.tup (sD o::(ps.map _).map kD)=_;rw[bF];rfl
mutual
theorem HX:∀(t:Tr) (p:Nat) (g:Str->Option Hm),t.ok->(plT t p g).map (fun x=>x.1.d)=t.rw p
 | .mk κ ks,p,g,h=>by unfold MG at h;rw[plT,aC,Nl,D5 ks _ _ _ h.2.2,JZ (by rw[ML];exact h.2.1)]
theorem D5:∀(ts:List Tr) (p:Nat) (es:List (Option (Str×Hm))) (g:Str->Option Hm),oks ts->(C9 ts p es g).map (fun x=>x.1.d)=MT ts p
 |[],_,_,_,_=>by rw[C9,MT];rfl
 |t::ts,p,es,g,h=>by unfold oks at h;rw[C9,bo,HX t _ _ h.1,D5 ts _ _ _ h.2,MT]
end
theorem zd {ns:Zd} {w:Str} {d:Nat} (e:ns[d]?=some w):∀{i:Nat},d<i->dom (G0 ns i) w
 |0,h=>absurd h (da _)
 |i+ 1,h=>by
  unfold dom;rw[G0];by_cases z:d=i;·subst z;rw[e];exact fun z=>nomatch(gT (c:=w=w) (t:=some ((("def":Str),(d:Int)):Hm)) (e:=G0 ns d w) rfl).symm.trans z
  ·have ih:=zd e (show d<i by lia)
   cases ns[i]? with
   |none=>exact ih
   |some x=>
    show(if w=x then some ((("def":Str),(i:Int)):Hm)else G0 ns i w)≠none;split;·exact fun z=>nomatch z
    ·exact ih
theorem D6 {ns:Zd} {w k:Str} {q:Int}:∀{i:Nat},G0 ns i w=some (k,q)->k="def"/\∃d:Nat,q=(d:Int)/\d<i
 |0,h=>by cases h
 |i+ 1,h=>by
  rw[G0]at h;have go:G0 ns i w=some (k,q)->k="def"/\∃d:Nat,q=(d:Int)/\d<i+ 1:=fun h=>by obtain⟨a,d,b,c⟩:=D6 h;exact⟨a,d,b,by lia⟩
  cases e:ns[i]? with
  |none=>rw[e]at h;exact go h
  |some x=>
   rw[e]at h;have h:(if w=x then some ((("def":Str),(i:Int)):Hm)else G0 ns i w)=some (k,q):=h;split at h;·cases h;exact⟨rfl,i,rfl,cM _⟩
   ·exact go h
def D7 {ns:Zd} (i:Nat):Cov i (G0 ns i) .nil:=fun _ _ _ h=> .inl (D6 h)
def isFn:Tr->Bool
 | .mk (.fn _) _=>true
 |_=>false
def gD (ns:Zd) (i:Nat) (t:Tr):Str->Option Hm:=if isFn t=true then G0 ns (i+ 1)else G0 ns i
def pgG (ns:Zd):List Tr->Nat->Nat->Gl
 |[],_,_=>[]
 |t::ts,i,p=>plT t p (gD ns i t)++pgG ns ts (i+ 1) (p+t.sz)
theorem BY (ns:Zd):∀(ts:List Tr) (i p:Nat),(pgG ns ts i p).length=szs ts
 |[],_,_=>rfl
 |t::ts,i,p=>by rw[pgG,aQ,vg,BY ns ts,szs]
theorem HY (ns:Zd):∀(ts:List Tr) (i p:Nat),oks ts->(pgG ns ts i p).map (fun x=>x.1.d)=MT ts p
 |[],_,_,_=>by rw[pgG,MT];rfl
 |t::ts,i,p,h=>by unfold oks at h;rw[pgG,bo,HX t _ _ h.1,HY ns ts _ _ h.2,MT]
def okD (ns:Zd):List Tr->Nat->Prop
 |[],_=>True
 |t::ts,i=>(t.ok/\okN t (dom (gD ns i t)))/\okD ns ts (i+ 1)
theorem yh {ns:Zd}:∀{ts:List Tr} {i:Nat},okD ns ts i->oks ts
 |[],_,_=>by unfold oks;trivial
 |t::ts,i,h=>by unfold oks;exact⟨h.1.1,yh h.2⟩
theorem FD {ns:Zd} {G:Gl}:∀{ts:List Tr} {i p:Nat} {l1:Gl},G=l1++pgG ns ts i p->l1.length=p->okD ns ts i->(∀k,p<=k->k<p+szs ts->(∃t g,AtG G k t g)/\((∃j:Nat,(jb ts p)[j]?=some k)\/∃(k':Nat) (ρ:Ro) (g':Str->Option Hm),k'<k/\G[k']?=some (ρ,g')/\(k:Int)∈ρ.pl))/\∀j r:Nat,(jb ts p)[j]?=some r->r<p+szs ts/\∃t,AtG G r t (gD ns (i+j) t)
 |[],i,p,l1,_,_,_=>⟨fun k a b=>by(rw[szs]at b;lia),fun j r h=>by cases h⟩
 |t::ts,i,p,l1,e,hl,h=>by
  rw[pgG]at e;have A:AtG G p t (gD ns i t):=⟨DW t e hl,h.1.1,h.1.2⟩;have tp:0<t.sz:=by cases t;rw[ME];lia
  obtain⟨B,C⟩:=FD (G:=G) (ts:=ts) (i:=i+ 1) (p:=p+t.sz) (l1:=l1++plT t p (gD ns i t)) (by rw[e,bT]) (by rw[aQ,hl,vg]) h.2;refine⟨fun k a b=>?_,fun j r hj=>?_⟩
  ·rw[szs]at b;by_cases z:k<p+t.sz
   ·refine⟨K4 t A k a z,?_⟩;by_cases y:k=p;·subst y;exact .inl ⟨0,rfl⟩
    ·exact .inr (D4 t A.1 A.2.1 k (by lia) z)
   ·obtain⟨b1,b2⟩:=B k (by lia) (by lia);refine⟨b1,b2.imp_left fun⟨j,hj⟩=>⟨j+ 1,hj⟩⟩
  ·rw[szs];match j,hj with
   |0,hj=>cases hj;exact⟨by lia,t,A⟩
   |j+ 1,hj=>obtain⟨c1,u,c2⟩:=C j r hj;exact⟨by lia,u,by rw[show i+(j+ 1)=i+ 1+j by lia];exact c2⟩
def HZ {κ:Kn} {ks:List Tr} {ps:List Nat} (h:ps.length=κ.ar):(roK κ ps).isF=isFn (.mk κ ks):=by
 cases κ with
 |fn w=>obtain⟨a,rfl⟩:=bC.mp h;rfl
 |tag w=>obtain⟨a,rfl⟩:=bC.mp h;rfl
 |get w=>obtain⟨a,rfl⟩:=bC.mp h;rfl
 |lt w=>
  match ps,h with
  |[a,b],_=>rfl
 |case l=>
  match ps,h with
  |p::ps,_=>rfl
 |_=>rfl
def D8 (G:Gl) (k:Nat):Str->Option Hm:=match G[k]? with
 |some x=>x.2
 |none=>fun _=>none
def yi {G:Gl} {k:Nat} {ρ:Ro} {g:Str->Option Hm} (h:G[k]?=some (ρ,g)):D8 G k=g:=by unfold D8;rw[h]
def Ia {G:Gl} {k:Nat} {t:Tr} {g:Str->Option Hm} {ρ:Ro} (A:AtG G k t g) (h:(G.map Ld)[k]?=some ρ):∃κ ks,t= .mk κ ks/\ρ=roK κ (jb ks (k+ 1))/\D8 G k=g:=by obtain⟨κ,ks⟩:=t;have a:=A.row.1;rw[aO,a]at h;exact⟨κ,ks,rfl,(dm.inj h).symm,yi a⟩
def FE {ns:Zd} {ts:List Tr} (nd:ns.Nodup) (nl:ns.length<=12) (hl:ts.length=ns.length) (ok:okD ns ts 0) (hz:szs ts<=160):IS ns (jb ts 0) ((pgG ns ts 0 0).map Ld) (D8 (pgG ns ts 0 0)):=by
 obtain⟨A,B⟩:=FD (ns:=ns) (G:=pgG ns ts 0 0) (l1:=[]) rfl rfl ok;have ln:=BY ns ts 0 0;have lm:((pgG ns ts 0 0).map Ld).length=szs ts:=by rw[aD,ln]
 have at':∀{k:Nat} {ρ:Ro},((pgG ns ts 0 0).map Ld)[k]?=some ρ->∃κ ks g,AtG (pgG ns ts 0 0) k (.mk κ ks) g/\ρ=roK κ (jb ks (k+ 1))/\D8 (pgG ns ts 0 0) k=g:=fun{k ρ} h=>by have:=(au.mp h).1;obtain⟨t,g,a⟩:=(A k (cJ _) (by lia)).1;obtain⟨κ,ks,rfl,e1,e2⟩:=Ia a h;exact⟨κ,ks,g,a,e1,e2⟩
 refine⟨nd,nl,by rw[ML,hl],fun ρ hρ=>?_,by lia,fun i r h=>by have:=(B i r h).1;lia,fun i r ρ h hr=>?_,fun k ρ j c e hk hc he=>?_,fun k hk=>?_,fun k x hk=>?_⟩;·obtain⟨k,hk⟩:=cu hρ;obtain⟨κ,ks,g,a,rfl,_⟩:=at' hk;obtain⟨_,h2,h3,h4⟩:=a.row;exact HW h2 h3 h4
 ·obtain⟨_,t,a⟩:=B i r h;obtain⟨κ,ks,rfl,rfl,e⟩:=Ia a hr;rw[e,cX,HZ (ks:=ks) a.row.2.2.1];rfl
 ·obtain⟨κ,ks,g,a,rfl,e2⟩:=at' hk;rw[(wJ a.row.2.2.1).1,aO]at hc;obtain⟨m,hm,rfl⟩:=dy.mp hc;obtain⟨t,_,b,l1,_⟩:=a.kid hm;rw[he]at b;refine⟨m,rfl,l1,?_⟩;obtain⟨κ',ks'⟩:=t;rw[yi b.row.1,e2];rfl
 ·rcases(A k (cJ _) (by lia)).2 with h|⟨k',ρ,g',h1,h2,h3⟩;·exact .inl h
  ·exact .inr ⟨k',ρ,h1,by rw[aO,h2];rfl,h3⟩
 ·obtain⟨κ,ks,g,a,e1,e2⟩:=at' hk;obtain⟨_,_,h3,h4⟩:=a.row;have:κ= .name x:=by
   generalize jb ks (k+ 1)=ps at e1 h3
   cases κ with
   |name w=>cases e1;rfl
   |fn w=>obtain⟨a,rfl⟩:=bC.mp h3;cases e1
   |tag w=>obtain⟨a,rfl⟩:=bC.mp h3;cases e1
   |get w=>obtain⟨a,rfl⟩:=bC.mp h3;cases e1
   |lt w=>
    match ps,h3 with
    |[a,b],_=>cases e1
   |case l=>
    match ps,h3 with
    |p::ps,_=>cases e1
   |_=>cases e1
  subst this;rw[e2];exact Option.ne_none_iff_exists'.mp h4
def Ib {ns:Zd} {ts:List Tr} (ok:okD ns ts 0):(∀j r:Nat,(jb ts 0)[j]?=some r->DfA (pgG ns ts 0 0) j r)/\HoG (pgG ns ts 0 0) (fun k=>match(pgG ns ts 0 0)[k]? with|some x=>duo (D8 (pgG ns ts 0 0)) k x.1|none=>none):=by
 obtain⟨A,B⟩:=FD (ns:=ns) (G:=pgG ns ts 0 0) (l1:=[]) rfl rfl ok;refine⟨fun j r h=>?_,fun k w g h=>?_⟩
 ·obtain⟨_,t,a⟩:=B j r h;rw[cX]at a;refine⟨t,_,a,?_⟩;unfold gD;obtain⟨κ,ks⟩:=t
  cases e:isFn (.mk κ ks)with
  |false=>rw[gN eV];exact .inr (D7 j)
  |true=>
   rw[gT rfl]
   cases κ with
   |fn w=>exact .inl ⟨w,ks,rfl,D7 _⟩
   |_=>cases e
 ·dsimp only;rw[h];show D8 _ k w=g w;rw[yi h]
open GR.Internal (Op Gp toks isName WOk TAt mf)
def FF (x:Str):x.cps.toList.length=x.length:=by rw[fc];rfl
def ze (w:Str):Prop:=w.cps.toList≠[]/\∀k∈w.cps.toList,k≠32/\k≠10/\k≠40/\k≠41
def smfg:∀c∈(MN++MP).cps.toList,c≠32/\c≠10/\c≠40/\c≠41:=gA
def pQ {w:Str} (h:MK w=true):ze w/\w.length<=12:=by unfold MK at h;simp only[eX,decide_eq_true_eq]at h;refine⟨⟨fun z=>?_,fun k hk=>smfg k (MY h.2 k hk)⟩,h.1.1.1.2⟩;have:=FF w;rw[z]at this;have:=h.1.1.1.1;simp at*;lia
def fgp:∀c∈GR.Internal.FG.cps.toList,c≠32/\c≠10/\c≠40/\c≠41:=gA
def Dg {n:Int} (h0:0<=n) (h1:n<10^60):ze (MM n)/\(MM n).length<=60:=by obtain⟨f1,f2,f3⟩:=Nh (k:=59) h0 h1;refine⟨⟨fun z=>?_,fun k hk=>fgp k (f1 k hk)⟩,f3⟩;obtain⟨c,r,e⟩:=GR.Internal.first_of (x:=MM n) f2;rw[z]at e;cases e
def okW (w:Str):Prop:=w≠""/\w.length<=60/\∀c∈w.cps.toList,c<128
structure Gi (x:Str) (ts:Zd) (a b:Nat):Prop where
 op:Op x ts
 ln:x.length+ 1<=a
 wl:ts.length<=b
 ok:∀w∈ts,okW w
def BZ {x:Str} {n:Nat} (hp:ze x) (hl:x.length<=n) (hn:n<=60) (ha:∀c∈x.cps.toList,c<128):Gi x [x] (n+ 1) 1:=by refine⟨Op.word hp.1 hp.2,by lia,cH _,fun w hw=>?_⟩;rw[bj.mp hw];refine⟨fun z=>hp.1 (by rw[z];rfl),by lia,ha⟩
def J0:∀c∈(MN++MP).cps.toList,c<128:=gA
def J4:∀c∈GR.Internal.FG.cps.toList,c<128:=gA
def yj {w:Str} (h:isName w=true):Gi w [w] 13 1:=by obtain⟨h1,h2⟩:=pQ h;refine BZ h1 h2 (by decide) fun c hc=>J0 c ?_;unfold isName at h;simp only[eX]at h;exact MY h.2 c hc
def Ic {n:Int} (h0:0<=n) (h1:n<10^60):Gi (MM n) [MM n] 61 1:=by obtain⟨a,b⟩:=Dg h0 h1;obtain⟨f1,_,_⟩:=Nh (k:=59) h0 h1;exact BZ a b (by decide) fun c hc=>J4 c (f1 c hc)
def Ie {ws:Zd} (hl:ws.length<=30000) (h:∀w∈ws,okW w):WOk ws:=⟨hl,fun x hx=>by obtain⟨a,b,c⟩:=h x hx;exact⟨a,by lia,fun k hk=>by have:=c k hk;lia⟩⟩
mutual
def gF:Dt->Bool
 | .flat v=>(match v with| .int _=>true| .str _=>true|_=>false)
 | .tup ds=>decide (ds.length<=1000)&&gFs ds
 | .lst _=>false
def gFs:List Dt->Bool
 |[]=>true
 |d::ds=>gF d&&gFs ds
end
mutual
theorem Ig {K:Zp} {H:Hp}:∀{x:V} {d:Dt},TAt K H x d->gF d=true->Im H x d
 |_,_,.flat h,g=> .flat (by
   rename_i v
   cases v with
   |int n=>rfl
   |str z=>rfl
   |_=>simp[gF]at g)
 |_,_,.tup h hs,g=>by rw[gF,eX]at g;exact .tup h (rp hs g.2)
theorem rp {K:Zp} {H:Hp}:∀{xs:List V} {ds:List Dt},mf K H xs ds->gFs ds=true->Ims H xs ds
 |_,_,.nil,_=> .nil
 |_,_,.cons h t,g=>by rw[gFs,eX]at g;exact .cons (Ig h g.1) (rp t g.2)
end
theorem Ih {H:Hp}:∀{ps:List Nat} {xs:List V},Ims H xs (ps.map MV)->xs=ps.map fun k:Nat=>V.int (k:Int)
 |[],xs,h=>by cases h;rfl
 |p::ps,xs,h=>by
  rw[aC,MV]at h
  cases h with
  |cons h t=>cases h;rw[Ih t];rfl
open GR.Internal (Op Gp toks isName WOk TAt mf)
open TM.Internal (Kn Tr jb szs oks tks jM)
def B0 {ts us:Zd} (h:∀w∈ts,okW w) (k:∀w∈us,okW w):∀w∈ts++us,okW w:=fun w hw=>(ao.mp hw).elim (h w) (k w)
structure Gt (x:Str) (ts:Zd) (n:Nat):Prop where
 op:Op x ts
 l:x.length+ 1<=100*n
 k:ts.length<=10*n
 o:∀w∈ts,okW w
def vh (x:Str):x++""=x:=T1.str_ext (by rw[MZ];exact aE _)
def spS:List Str->Str
 |[]=>""
 |x::l=>" "++x++spS l
theorem B1:∀(l:Zd) (h:Str),Lr " " (h::l)=h++spS l
 |[],h=>by show h=h++"";exact(vh h).symm
 |x::l,h=>by show h++" "++Lr " " (x::l)=h++(" "++x++spS l);rw[B1 l x];simp only[MS]
def FH (x:Str):("":Str)++x=x:=T1.str_ext (by rw[MZ];exact bU _)
theorem yk:∀a b:List Str,spS (a++b)=spS a++spS b
 |[],b=>(FH _).symm
 |x::a,b=>by rw[aT,spS,spS,yk a b];simp only[MS]
structure Gs (xs us:Zd) (n k:Nat):Prop where
 op:∀{x:Str} {ts:Zd},Op x ts->Op (x++spS xs) (ts++us)
 l:(spS xs).length<=n
 k:us.length<=k
 o:∀w∈us,okW w
def Gs.nil:Gs [] [] 0 0:=⟨fun{x ts} h=>by rw[aE];show Op (x++"") ts;rw[vh];exact h,cH _,cH _,fun w hw=>nomatch hw⟩
def Gs.app {xs us ys vs:Zd} {n k n' k':Nat} (a:Gs xs us n k) (b:Gs ys vs n' k'):Gs (xs++ys) (us++vs) (n+n') (k+k'):=⟨fun{x ts} h=>by rw[yk,<-MS,<-bT];exact b.op (a.op h),by rw[yk,Lk];have:=a.l;have:=b.l;lia,by rw[aQ];have:=a.k;have:=b.k;lia,B0 a.o b.o⟩
def Gs.one {x:Str} {ts:Zd} {n k:Nat} (g:Op x ts) (hl:x.length+ 1<=n) (hk:ts.length<=k) (ho:∀w∈ts,okW w):Gs [x] ts n k:=⟨fun{y us} h=>by show Op (y++(" "++x++"")) _;rw[vh,<-MS];exact h.gap.app_op g,by show(" "++x++"":Str).length<=_;rw[vh,Lk,show(" ":Str).length=1 by decide+kernel];lia,hk,ho⟩
def Gs.le {xs us:Zd} {n k n' k':Nat} (g:Gs xs us n k) (h1:n<=n') (h2:k<=k'):Gs xs us n' k':=⟨g.op,cE g.l h1,cE g.k h2,g.o⟩
def Gs.nm {w:Str} (h:isName w=true):Gs [w] [w] 13 1:=by have g:=yj h;exact .one g.op (by have:=g.ln;lia) (cH _) g.ok
def vi:List Str:=["rec","tag","get","case","fn","let","call","row","at","join","size","add","sub","less"]
def J5:∀o∈vi,ze o/\o.length<=4/\okW o:=fun o h=>by simp only[vi,ak,bG,or_false]at h;rcases h with rfl|rfl|rfl|rfl|rfl|rfl|rfl|rfl|rfl|rfl|rfl|rfl|rfl|rfl<;>(refine⟨⟨?_,?_⟩,?_,?_,?_,?_⟩<;>decide+kernel)
def z5:okW "("/\okW ")"/\okW "def":=by refine⟨⟨?_,?_,?_⟩,⟨?_,?_,?_⟩,?_,?_,?_⟩<;>decide+kernel
def FI {o:Str} {xs us:Zd} {n k m:Nat} (ho:o∈vi) (g:Gs xs us n k) (hn:n+ 8<=100*m) (hk:k+ 3<=10*m):Gt ("("++Lr " " (o::xs)++")") (("(":Str)::o::(us++[(")":Str)])) m:=by
 obtain⟨o1,o2,o3⟩:=J5 o ho;have e:("(":Str)++Lr " " (o::xs)++")"="("++o++spS xs++")":=by rw[B1];simp only[MS]
 have b1:Gp "(" ["("]:=gA;have q:=(g.op (b1.app_op (Op.word o1.1 o1.2))).close.op;have:=g.l;have:=g.k;refine⟨?_,?_,?_,fun w hw=>?_⟩;·rw[e];simpa only[aT,bU,bT]using q
 ·rw[e];simp only[Lk];rw[show("(":Str).length=1 by decide+kernel,show(")":Str).length=1 by decide+kernel];lia
 ·simp only[aA,aQ,aU];lia
 ·rcases ak.mp hw with rfl|hw;·exact z5.1
  ·rcases ak.mp hw with rfl|hw;·exact o3
   ·rcases ao.mp hw with hw|hw;·exact g.o w hw
    ·rw[bj.mp hw];exact z5.2.1
theorem zf {z:Str} {b:Nat}:∀{l:Zd},(∀w∈l,w.length<=b)->(Lr z l).length<=l.length*(b+z.length)
 |[],_=>cJ _
 |[w],h=>by have:=h w ai;show w.length<=1*_;lia
 |w::v::l,h=>by have:=zf (z:=z) (l:=v::l) fun x hx=>h x (aj _ hx);have:=h w ai;show(w++z++Lr z (v::l)).length<=_;rw[Lk,Lk,aA,Nat.succ_mul];lia
structure It where
 tx:Str
 ne:Nat
 wt:Nat
 mn:Nat->Nat
 own:Bool
 pl:Nat
 sh:Str
 mo:Str
def txF:List (Option Str)->List It->List Str
 |some w::p,ts=>w::txF p ts
 |none::p,t::ts=>t.tx::txF p ts
 |none::_,[]=>[]
 |[],_=>[]
def wkF:List (Option Str)->List (List Str)->List Str
 |some w::p,ks=>w::wkF p ks
 |none::p,k::ks=>k++wkF p ks
 |none::_,[]=>[]
 |[],_=>[]
def cN:List (Option Str)->Nat
 |[]=>0
 |none::p=>cN p+ 1
 |some _::p=>cN p
def cS:List (Option Str)->Nat
 |[]=>0
 |none::p=>cS p
 |some _::p=>cS p+ 1
structure JI (it:It) (t:Tr):Prop where
 gt:Gt it.tx t.tk t.sz
 ok:t.ok
 ne:t.nest<=it.ne
 pl:t.sz=it.pl
 mo:it.sh="rec"\/it.sh="tag"->isName it.mo=true
 mw:∀v,it.mn v<=it.wt
theorem B2:∀(p:List (Option Str)) (qs:List (It×Tr)),cN p=qs.length->(∀w,some w∈p->isName w=true)->(∀q∈qs,JI q.1 q.2)->Gs (txF p (qs.map Ld)) (wkF p (tks (qs.map LD))) (100*szs (qs.map LD)+ 13*cS p) (10*szs (qs.map LD)+cS p)
 |[],[],_,_,_=> .nil
 |[],_::_,h,_,_=>by cases h
 |none::p,[],h,_,_=>by cases h
 |some w::p,qs,h,hw,hq=>by have a:=B2 p qs h (fun v hv=>hw v (aj _ hv)) hq;exact((Gs.nm (hw w ai)).app a).le (by rw[cS];lia) (by rw[cS];lia)
 |none::p,q::qs,h,hw,hq=>by have a:=B2 p qs (cZ.inj h) (fun v hv=>hw v (aj _ hv)) fun u hu=>hq u (aj _ hu);have g:=(hq q ai).gt;have b:=(Gs.one g.op g.l g.k g.o).app a;rw[aC,aC,tks,txF,wkF,szs,cS];exact b.le (by lia) (by lia)
def neL:List It->Nat
 |[]=>0
 |t::ts=>max t.ne (neL ts)
def wtL:List It->Nat
 |[]=>0
 |t::ts=>t.wt+wtL ts
def plL:List It->Nat
 |[]=>0
 |t::ts=>t.pl+plL ts
def mnL (ts:List It) (v:Nat):Nat:=match ts with
 |[]=>0
 |t::ts=>t.mn v+mnL ts v
def owL:List It->Bool
 |[]=>false
 |t::ts=>t.own||owL ts
theorem K5 (t:It):∀ts:List It,neL (ts++[t])=max (neL ts) t.ne/\wtL (ts++[t])=wtL ts+t.wt/\plL (ts++[t])=plL ts+t.pl/\(∀v,mnL (ts++[t]) v=mnL ts v+t.mn v)/\owL (ts++[t])=(owL ts||t.own)
 |[]=>by simp[neL,wtL,plL,mnL,owL]
 |u::ts=>by
  obtain⟨a,b,c,d,e⟩:=K5 t ts;refine⟨?_,?_,?_,fun v=>?_,?_⟩;·rw[aT,neL,neL,a];lia
  ·rw[aT,wtL,wtL,b];lia
  ·rw[aT,plL,plL,c];lia
  ·rw[aT,mnL,mnL,d];lia
  ·rw[aT,owL,owL,e,Bool.or_assoc]
def kO (hs:List (Option Str)) (ps:List It) (sh mo:Str):It:=⟨"("++Lr " " (txF hs ps)++")",neL ps+ 1,1+wtL ps,mnL ps,owL ps,1+plL ps,sh,mo⟩
theorem K6 {v:Nat}:∀{ps:List It},(∀p∈ps,p.mn v<=p.wt)->mnL ps v<=wtL ps
 |[],_=>cH _
 |p::ps,h=>by have:=h p ai;have:=K6 fun q hq=>h q (aj _ hq);rw[mnL,wtL];lia
theorem K7:∀{qs:List (It×Tr)},(∀q∈qs,JI q.1 q.2)->jM (qs.map LD)<=neL (qs.map Ld)/\szs (qs.map LD)=plL (qs.map Ld)/\oks (qs.map LD)
 |[],_=>⟨cH _,rfl,by show oks [];unfold oks;trivial⟩
 |q::qs,h=>by obtain⟨a,b,c⟩:=K7 fun u hu=>h u (aj _ hu);have j:=h q ai;have:=j.ne;have:=j.pl;rw[aC,aC,jM,neL,szs,plL,oks];exact⟨by lia,by lia,j.ok,c⟩
def JI.node {κ:Kn} {o:Str} {p:List (Option Str)} {qs:List (It×Tr)} {sh mo:Str} (hq:∀q∈qs,JI q.1 q.2) (ho:o∈vi) (hs:κ.tk (tks (qs.map LD))=("(":Str)::o::(wkF p (tks (qs.map LD))++[(")":Str)])) (hc:cN p=qs.length) (hn:∀w,some w∈p->isName w=true) (h5:cS p<=5) (ok:κ.ok) (ar:qs.length=κ.ar) (hm:sh="rec"\/sh="tag"->isName mo=true):JI (kO (some o::p) (qs.map Ld) sh mo) (.mk κ (qs.map LD)):=by
 obtain⟨a,b,c⟩:=K7 hq;refine⟨?_,?_,?_,?_,hm,fun v=>?_⟩;·rw[MF,hs,ME];exact FI ho (B2 p qs hc hn hq) (by lia) (by lia)
 ·rw[MG];exact⟨ok,by rw[aD];exact ar,c⟩
 ·rw[MR];show _<=neL _+ 1;lia
 ·rw[ME,b];rfl
 ·show mnL _ v<=1+wtL _;have:=K6 (v:=v) (ps:=qs.map Ld) fun p hp=>by obtain⟨q,hq',rfl⟩:=bf.mp hp;exact(hq q hq').mw v
  lia
def Nf (ws:Zd) (m:Nat) (it:It) (w:Str):Prop:=(∃v,v<3/\ws[v]?=some w/\it.mn v≠0)\/(∃d,d<m/\ws[3+d]?=some w)\/(it.own=true/\ws[3+m]?=some w)
def lF (it:It) (v:Nat):It:={it with mn:=fun k=>if k=v then 0 else it.mn k}
def lF.ji {it:It} {t:Tr} (h:JI it t) (v:Nat):JI (lF it v) t:=⟨h.gt,h.ok,h.ne,h.pl,h.mo,fun k=>by
 show(if k=v then 0 else it.mn k)<=it.wt;split;·exact cJ _
 ·exact h.mw k⟩
def Nf.held {ws:Zd} {m v:Nat} {it:It} {w x:Str} (hx:ws[v]?=some x) (h:Nf ws m it w):w=x\/Nf ws m (lF it v) w:=by
 rcases h with⟨k,k3,e,n⟩|h|h
 ·by_cases z:k=v;·subst z;rw[hx]at e;exact .inl (dm.inj e).symm
  ·exact .inr (.inl ⟨k,k3,e,by show(if k=v then 0 else it.mn k)≠0;rw[gN z];exact n⟩)
 ·exact .inr (.inr (.inl h))
 ·exact .inr (.inr (.inr h))
theorem B3 {it:It} {v:Nat}:∀{ps:List It},it∈ps->it.mn v<=mnL ps v
 |p::ps,h=>by
  rw[mnL];rcases ak.mp h with rfl|h;·lia
  ·have:=B3 (v:=v) h;lia
theorem B4 {it:It}:∀{ps:List It},it∈ps->it.own=true->owL ps=true
 |p::ps,h,e=>by
  rw[owL];rcases ak.mp h with rfl|h;·rw[e];rfl
  ·rw[B4 h e,Bool.or_true]
def Nf.sub {ws:Zd} {m:Nat} {it jt:It} {ps:List It} {w:Str} (hp:it∈ps) (hm:∀v,mnL ps v<=jt.mn v) (ho:owL ps=true->jt.own=true) (h:Nf ws m it w):Nf ws m jt w:=by
 rcases h with⟨k,k3,e,n⟩|h|⟨a,b⟩;·have:=B3 (v:=k) hp;have:=hm k;exact .inl ⟨k,k3,e,by lia⟩
 ·exact .inr (.inl h)
 ·exact .inr (.inr ⟨ho (B4 hp a),b⟩)
structure JN (ws:Zd) (m:Nat) (it:It) (t:Tr):Prop where
 j:JI it t
 n:okN t (Nf ws m it)
def Kid (ws:Zd) (m:Nat) (it:It) (t:Tr) (b:Option Str):Prop:=JI it t/\okN t (adN (Nf ws m it) b)
def JN.kid {ws:Zd} {m:Nat} {it:It} {t:Tr} (h:JN ws m it t) (b:Option Str):Kid ws m it t b:=⟨h.j,kS t (fun w z=>by cases b with|none=>exact z|some x=>exact .inr z) h.n⟩
def JN.bind {ws:Zd} {m v:Nat} {x:Str} {it:It} {t:Tr} (h:JN ws m it t) (hx:ws[v]?=some x):Kid ws m (lF it v) t (some x):=⟨lF.ji h.j v,kS t (fun w z=>z.held hx) h.n⟩
inductive D9 (ws:Zd) (m:Nat):List (It×Tr)->List (Option Str)->Prop
 |nil {bs:List (Option Str)}:D9 ws m [] bs
 |cons {q:It×Tr} {qs:List (It×Tr)} {bs:List (Option Str)} (h:Kid ws m q.1 q.2 (bs.headD none)) (r:D9 ws m qs bs.tail):D9 ws m (q::qs) bs
def D9.ji {ws:Zd} {m:Nat} {qs:List (It×Tr)} {bs:List (Option Str)} (h:D9 ws m qs bs):∀q∈qs,JI q.1 q.2:=by
 induction h with
 |nil=>intro q hq;cases hq
 |cons h r ih=>
  intro q hq;rcases ak.mp hq with rfl|hq;·exact h.1
  ·exact ih q hq
def D9.ok {ws:Zd} {m:Nat} {jt:It} {ps:List It} (hm:∀v,mnL ps v<=jt.mn v) (ho:owL ps=true->jt.own=true) {qs:List (It×Tr)} {bs:List (Option Str)} (h:D9 ws m qs bs):(∀q∈qs,q.1∈ps)->vE (qs.map LD) bs (Nf ws m jt):=by
 induction h with
 |nil=>intro _;unfold vE;trivial
 |cons h r ih=>intro hp;rw[aC];unfold vE;exact⟨kS _ (y9 (fun w z=>z.sub (hp _ ai) hm ho) _) h.2,ih fun q hq=>hp q (aj _ hq)⟩
theorem JN.node {ws:Zd} {m:Nat} {κ:Kn} {o:Str} {p:List (Option Str)} {qs:List (It×Tr)} {sh mo:Str} (hk:D9 ws m qs (bnK κ)) (ho:o∈vi) (hs:κ.tk (tks (qs.map LD))=("(":Str)::o::(wkF p (tks (qs.map LD))++[(")":Str)])) (hc:cN p=qs.length) (hn:∀w,some w∈p->isName w=true) (h5:cS p<=5) (ok:κ.ok) (ar:qs.length=κ.ar) (hm:sh="rec"\/sh="tag"->isName mo=true) (nd:∀N,ndK κ N):JN ws m (kO (some o::p) (qs.map Ld) sh mo) (.mk κ (qs.map LD)):=by refine⟨JI.node hk.ji ho hs hc hn h5 ok ar hm,?_⟩;unfold okN;exact⟨nd _,hk.ok (ps:=qs.map Ld) (fun v=>cH _) id fun q hq=>bf.mpr ⟨q,hq,rfl⟩⟩
open GR.Internal (Op Gp toks isName)
open TM.Internal (Kn Tr jb szs oks tks jM)
def wK (x:Str) (wt:Nat) (sh mo:Str):It:=⟨x,1,wt,fun _=>0,false,1,sh,mo⟩
def wL {P:Prop} {s:Str} (a:s≠"rec") (b:s≠"tag") (h:s="rec"\/s="tag"):P:=absurd h fun h=>h.elim a b
def mV {P:Prop} (h:("any":Str)="rec"\/("any":Str)="tag"):P:=wL gA gA h
def zh {P:Prop} (h:("num":Str)="rec"\/("num":Str)="tag"):P:=wL gA gA h
def zi {P:Prop} (h:("row":Str)="rec"\/("row":Str)="tag"):P:=wL gA gA h
def Dh {P:Prop} (h:("fn":Str)="rec"\/("fn":Str)="tag"):P:=wL gA gA h
def FJ {P:Prop} (h:("both":Str)="rec"\/("both":Str)="tag"):P:=wL gA gA h
def vk:oks []:=by unfold oks;trivial
def sR {ws:Zd} {m:Nat} {n:Int} (h0:0<=n) (h1:n<10^60):JN ws m (wK (MM n) 1 "num" "") (.mk (.num n) []):=by
 have g:=Ic h0 h1;refine⟨⟨⟨?_,?_,?_,?_⟩,?_,?_,?_,zh,fun _=>cJ _⟩,?_⟩;·rw[MF];exact g.op
 ·rw[ME,szs];have:=g.ln;show(MM n).length+ 1<=_;lia
 ·rw[MF,ME,szs];show 1<=_;lia
 ·rw[MF];exact g.ok
 ·rw[MG];exact⟨⟨h0,h1⟩,rfl,vk⟩
 ·rw[MR,jM];exact cH _
 ·rw[ME,szs];rfl
 ·unfold okN vE;exact⟨trivial,trivial⟩
def qP {x:Str} {wt:Nat} {mn:Nat->Nat} {own:Bool} {sh mo:Str} (h:isName x=true) (hm:sh="rec"\/sh="tag"->isName mo=true) (hw:∀v,mn v<=wt):JI ⟨x,1,wt,mn,own,1,sh,mo⟩ (.mk (.name x) []):=by
 have g:=yj h;refine⟨⟨?_,?_,?_,?_⟩,?_,?_,?_,hm,hw⟩;·rw[MF];exact g.op
 ·rw[ME,szs];have:=g.ln;show x.length+ 1<=_;lia
 ·rw[MF,ME,szs];show 1<=_;lia
 ·rw[MF];exact g.ok
 ·rw[MG];exact⟨h,rfl,vk⟩
 ·rw[MR,jM];exact cH _
 ·rw[ME,szs]
def qQ {x:Str} {N:Str->Prop} (h:N x):okN (.mk (.name x) []) N:=by unfold okN vE;exact⟨h,trivial⟩
def zj {ws:Zd} {m:Nat}:(∀mo,isName mo=true->JN ws m (wK "(rec)" 1 "rec" mo) (.mk (.rcd []) []))/\JN ws m (wK "(row)" 1 "row" "") (.mk (.row 0) []):=by
 have br:=z5;have f1:=(J5 "rec" gA).2.2;have f2:=(J5 "row" gA).2.2;have ok:∀{o:Str},okW o->∀w∈(["(",o,")"]:Zd),okW w:=fun ho w hw=>by
  rcases ak.mp hw with rfl|hw;·exact br.1
  ·rcases ak.mp hw with rfl|hw;·exact ho
   ·rw[bj.mp hw];exact br.2.1
 have g1:Gp "(rec)" ["(","rec",")"]:=gA;have g2:Gp "(row)" ["(","row",")"]:=gA;refine⟨fun mo hm=>⟨⟨⟨?_,?_,?_,?_⟩,?_,?_,?_,fun _=>hm,fun _=>cJ _⟩,?_⟩,⟨⟨?_,?_,?_,?_⟩,?_,?_,?_,zi,fun _=>cJ _⟩,?_⟩;·rw[MF];exact g1.op
 ·rw[ME,szs];show("(rec)":Str).length+ 1<=_;decide+kernel
 ·rw[MF,ME,szs];show 3<=_;lia
 ·rw[MF];exact ok f1
 ·rw[MG];exact⟨⟨by decide,fun w hw=>nomatch hw⟩,rfl,vk⟩
 ·rw[MR,jM];exact cH _
 ·rw[ME,szs];rfl
 ·unfold okN vE;exact⟨cg,trivial⟩
 ·rw[MF];exact g2.op
 ·rw[ME,szs];show("(row)":Str).length+ 1<=_;decide+kernel
 ·rw[MF,ME,szs];show 3<=_;lia
 ·rw[MF];exact ok f2
 ·rw[MG];exact⟨by show 0<=8;decide,rfl,vk⟩
 ·rw[MR,jM];exact cH _
 ·rw[ME,szs];rfl
 ·unfold okN vE;exact⟨trivial,trivial⟩
section
variable {ws:Zd} {m v:Nat} {x w:Str} {a b c:It} {t u r:Tr} {sh mo:Str}
def ki {P:Str->Prop} {w:Str} (h:P w) {p:List (Option Str)} (hp:∀v,some v∈p->P v):∀v,some v∈some w::p->P v:=fun v hv=>by
 rcases ak.mp hv with e|hv;·cases e;exact h
 ·exact hp v hv
def jC {P:Str->Prop} {p:List (Option Str)} (hp:∀v,some v∈p->P v):∀v,some v∈none::p->P v:=fun v hv=>by
 rcases ak.mp hv with e|hv;·cases e
 ·exact hp v hv
def mW {P:Str->Prop}:∀v,some v∈([]:List (Option Str))->P v:=fun v hv=>nomatch hv
def lb {a b:Nat} (h:Nat.ble a b=true):a<=b:=Nat.le_of_ble_eq_true h
def Di (h:Kid ws m a t (some x)) (hx:isName x=true):JN ws m (kO [some "fn",some x,none] [a] "fn" "") (.mk (.fn x) [t]):=JN.node (κ:= .fn x) (qs:=[(a,t)]) (.cons h .nil) gA rfl rfl (ki hx (jC mW)) (lb rfl) hx rfl Dh fun _=>trivial
def Ii (h:JN ws m a t) (hx:isName x=true):JN ws m (kO [some "tag",some x,none] [a] "tag" x) (.mk (.tag x) [t]):=JN.node (κ:= .tag x) (qs:=[(a,t)]) (.cons (h.kid _) .nil) gA rfl rfl (ki hx (jC mW)) (lb rfl) hx rfl (fun _=>hx) fun _=>trivial
def Ea (h:JN ws m a t) (hx:isName x=true):JN ws m (kO [some "get",none,some x] [a] "any" "") (.mk (.get x) [t]):=JN.node (κ:= .get x) (qs:=[(a,t)]) (.cons (h.kid _) .nil) gA (by show _::_::((t.tk++[])++[x]++[_])=_::_::((t.tk++[x])++[_]);rw[aE];rfl) rfl (jC (ki hx mW)) (lb rfl) hx rfl mV fun _=>trivial
def FL (h:JN ws m a t) (hx:isName x=true):JN ws m (kO [some "rec",some x,none] [a] "rec" x) (.mk (.rcd [x]) [t]):=JN.node (κ:= .rcd [x]) (qs:=[(a,t)]) (.cons (h.kid _) .nil) gA rfl rfl (ki hx (jC mW)) (lb rfl) ⟨lb rfl,fun v hv=>by rw[bj.mp hv];exact hx⟩ rfl (fun _=>hx) fun _=>aF.mpr ⟨(fun z=>nomatch z),cg⟩
def FN (h:JN ws m a t) (h':JN ws m b u) (hx:isName x=true) (hw:isName w=true) (ne:x≠w):JN ws m (kO [some "rec",some x,none,some w,none] [a,b] "rec" w) (.mk (.rcd [x,w]) [t,u]):=JN.node (κ:= .rcd [x,w]) (qs:=[(a,t),(b,u)]) (.cons (h.kid _) (.cons (h'.kid _) .nil)) gA rfl rfl (ki hx (jC (ki hw (jC mW)))) (lb rfl) ⟨lb rfl,fun v hv=>by
  rcases ak.mp hv with rfl|hv;·exact hx
  ·rw[bj.mp hv];exact hw⟩ rfl (fun _=>hw) fun _=>aF.mpr ⟨fun z=>ne (bj.mp z),aF.mpr ⟨(fun z=>nomatch z),cg⟩⟩
def FP (h:JN ws m a t):JN ws m (kO [some "row",none] [a] "row" "") (.mk (.row 1) [t]):=JN.node (κ:= .row 1) (qs:=[(a,t)]) (.cons (h.kid _) .nil) gA rfl rfl (jC mW) (lb rfl) (by show 1<=8;decide) rfl zi fun _=>trivial
def FQ (h:JN ws m a t) (h':JN ws m b u):JN ws m (kO [some "row",none,none] [a,b] "row" "") (.mk (.row 2) [t,u]):=JN.node (κ:= .row 2) (qs:=[(a,t),(b,u)]) (.cons (h.kid _) (.cons (h'.kid _) .nil)) gA rfl rfl (jC (jC mW)) (lb rfl) (by show 2<=8;decide) rfl zi fun _=>trivial
def Ij {o:Str} (ho:(o,1)∈MH) (hh:o∈vi) (h:JN ws m a t) (hm:sh="rec"\/sh="tag"->isName mo=true):JN ws m (kO [some o,none] [a] sh mo) (.mk (.op o 1) [t]):=JN.node (κ:= .op o 1) (qs:=[(a,t)]) (.cons (h.kid _) .nil) hh rfl rfl (jC mW) (lb rfl) ho rfl hm fun _=>trivial
def oh {o:Str} (ho:(o,2)∈MH) (hh:o∈vi) (h:JN ws m a t) (h':JN ws m b u) (hm:sh="rec"\/sh="tag"->isName mo=true):JN ws m (kO [some o,none,none] [a,b] sh mo) (.mk (.op o 2) [t,u]):=JN.node (κ:= .op o 2) (qs:=[(a,t),(b,u)]) (.cons (h.kid _) (.cons (h'.kid _) .nil)) hh rfl rfl (jC (jC mW)) (lb rfl) ho rfl hm fun _=>trivial
def Ik (h:JN ws m a t) (h':JN ws m b u) (h'':JN ws m c r):JN ws m (kO [some "at",none,none,none] [a,b,c] "any" "") (.mk (.op "at" 3) [t,u,r]):=JN.node (κ:= .op "at" 3) (qs:=[(a,t),(b,u),(c,r)]) (.cons (h.kid _) (.cons (h'.kid _) (.cons (h''.kid _) .nil))) gA rfl rfl (jC (jC (jC mW))) (lb rfl) (by show _∈MH;decide+kernel) rfl mV fun _=>trivial
def Dj (h:JN ws m a t) (h':Kid ws m b u (some x)) (hw:isName w=true) (hx:isName x=true):JN ws m (kO [some "case",none,some w,some x,none] [a,b] "any" "") (.mk (.case [(w,x)]) [t,u]):=JN.node (κ:= .case [(w,x)]) (qs:=[(a,t),(b,u)]) (.cons (h.kid _) (.cons h' .nil)) gA rfl rfl (jC (ki hw (ki hx (jC mW)))) (lb rfl) ⟨lb rfl,lb rfl,fun p hp=>by rw[bj.mp hp];exact⟨hw,hx⟩⟩ rfl mV fun _=>aF.mpr ⟨(fun z=>nomatch z),cg⟩
def zk {w' x':Str} (h:JN ws m a t) (h':Kid ws m b u (some x)) (h'':Kid ws m c r (some x')) (hw:isName w=true) (hx:isName x=true) (hw':isName w'=true) (hx':isName x'=true) (ne:w≠w') (hm:sh="rec"\/sh="tag"->isName mo=true):JN ws m (kO [some "case",none,some w,some x,none,some w',some x',none] [a,b,c] sh mo) (.mk (.case [(w,x),(w',x')]) [t,u,r]):=JN.node (κ:= .case [(w,x),(w',x')]) (qs:=[(a,t),(b,u),(c,r)]) (.cons (h.kid _) (.cons h' (.cons h'' .nil))) gA rfl rfl (jC (ki hw (ki hx (jC (ki hw' (ki hx' (jC mW))))))) (lb rfl) ⟨lb rfl,lb rfl,fun p hp=>by
  rcases ak.mp hp with rfl|hp;·exact⟨hw,hx⟩
  ·rw[bj.mp hp];exact⟨hw',hx'⟩⟩ rfl hm fun _=>aF.mpr ⟨fun z=>ne (bj.mp z),aF.mpr ⟨(fun z=>nomatch z),cg⟩⟩
def B5 (x:Str) (v:Nat) (a b:It):It:=
 let n:=kO [some "let",some x,none,none] [a,lF b v] b.sh b.mo
 {n with wt:=n.wt+b.mn v*a.wt,mn:=fun k=>n.mn k+b.mn v*a.mn k}
def Eb (h:JN ws m a t) (h':JN ws m b u) (hv:ws[v]?=some x) (hx:isName x=true):JN ws m (B5 x v a b) (.mk (.lt x) [t,u]):=by
 have g:JN ws m (kO [some "let",some x,none,none] [a,lF b v] b.sh b.mo) (.mk (.lt x) [t,u]):=JN.node (κ:= .lt x) (qs:=[(a,t),(lF b v,u)]) (.cons (h.kid _) (.cons (h'.bind hv) .nil)) gA rfl rfl (ki hx (jC (jC mW))) (lb rfl) hx rfl h'.j.mo fun _=>trivial;obtain⟨⟨g1,g2,g3,g4,g5,g6⟩,g7⟩:=g;refine⟨⟨g1,g2,g3,g4,g5,fun k=>Nat.add_le_add (g6 k) (Nat.mul_le_mul_left _ (h.j.mw k))⟩,kS _ (fun w z=>?_) g7⟩;rcases z with⟨k,k3,e,n⟩|z|z;·exact .inl ⟨k,k3,e,fun y=>n (Nat.eq_zero_of_add_eq_zero_right y)⟩
 ·exact .inr (.inl z)
 ·exact .inr (.inr z)
end
def K8:("abcdefghijklmnopqrstuvwxyz0123456789":Str).cps.toList.length=36:=gA
def emN (a:Int) {m:Int} (h:0<m):∃n:Nat,a%m=(n:Int)/\(n:Int)<m:=by have:=fq a (ft h);have:=fu a h;exact⟨(a%m).toNat,by lia,by lia⟩
def pb (c:Nat):(⟨#[c]⟩:Str).length=1:=rfl
def sgn (k:Nat):Nat:=("abcdefghijklmnop":Str).cps.toList.getD k 0
def w1 (A B:Str) (k:Nat):Str:=A++⟨#[sgn k]⟩++B
def t7 (z:Int):Nat:=(atI ("t7":Str).cps.toList z).getD 0
def part (j:Nat):Int:=([8,4,2,1]:List Int).getD j 1
def bit (k j:Nat):Nat:=t7 ((0+(k:Int))/part j%2)
def w2 (x:Str) (k:Nat):Nat->Str
 |0=>x
 |j+ 1=>w2 x k j++⟨#[bit k j]⟩
def B6 {l:List Nat} {i:Nat} (h:i<l.length):atI l (0+(i:Int))=some (l.getD i 0):=by rw[fA,bq,bE h];exact fV (bE h)
def nP (a b:Str):(a++b).cps.toList=a.cps.toList++b.cps.toList:=fh
def J6 {x:Str} {j:Int} (h0:0<=j) (h1:j<=x.length):(L6 x none (some j)).cps.toList=x.cps.toList.take j.toNat:=by have e:L6 x none (some j)=⟨((x.cps.toList.drop (0:Int).toNat).take (j-0).toNat).toArray⟩:=eq_of_beq (PyProof.Rows.slice_closes_to ⟨h0,h1⟩);rw[e];show((x.cps.toList.drop 0).take (j-0).toNat)=_;rw[cc,Int.sub_zero]
def FR {x:Str} {j:Int} (h0:0<=j) (h1:j<=x.length):(L6 x (some j) none).cps.toList=x.cps.toList.drop j.toNat:=by have e:L6 x (some j) none=⟨((x.cps.toList.drop j.toNat).take ((x.cps.toList.length:Int)-j).toNat).toArray⟩:=eq_of_beq (PyProof.Rows.slice_closes_from ⟨h0,h1⟩);rw[e];show((x.cps.toList.drop j.toNat).take ((x.cps.toList.length:Int)-j).toNat)=_;rw[b9];rw[aX];lia
def FT:∀c∈("abcdefghijklmnopqrstuvwxyz0123456789":Str).cps.toList,c∈(MN++MP).cps.toList:=gA
def Il:∀c∈GR.Internal.SM.cps.toList,c∈(MN++MP).cps.toList:=gA
def FU:∀i:Nat,i<26->("abcdefghijklmnopqrstuvwxyz0123456789":Str).cps.toList.getD i 0∈GR.Internal.SM.cps.toList:=gA
def Nms (x:Str):Prop:=(∃c r,x.cps.toList=c::r/\c∈GR.Internal.SM.cps.toList)/\∀c∈x.cps.toList,c∈(MN++MP).cps.toList
def Io:∀v∈MU,∃s:Str,v= .str s/\s.length<=4:=fun v hv=>by unfold MU at hv;simp only[ak,bG,or_false]at hv;rcases hv with rfl|rfl|rfl|rfl|rfl|rfl|rfl|rfl|rfl|rfl|rfl|rfl|rfl|rfl|rfl<;>exact⟨_,rfl,gA⟩
def Ip {w:Str} {l:List Nat} (e:w.cps.toList=l) (h5:5<=l.length) (h12:l.length<=12) (h0:∃c,l[0]?=some c/\c∈GR.Internal.SM.cps.toList) (ha:∀c∈l,c∈(MN++MP).cps.toList):MK w=true:=by
 have hl:w.length=l.length:=by rw[<-e];rfl
 obtain⟨c,h0,hc⟩:=h0;have f1:Ni w MN=true:=by
  unfold Ni;rw[e]
  cases l with
  |nil=>cases h0
  |cons d r=>cases h0;exact gM hc
 have f2:GR.Internal.allIn w (MN++MP)=true:=bO.mpr fun c hc=>gM (ha c (e▸hc));have hk:inV (.str w) MU=false:=by
  cases z:inV (.str w) MU with
  |false=>rfl
  |true=>unfold inV at z;obtain⟨y,hy,q⟩:=bh.mp z;obtain⟨s,rfl,hs⟩:=Io y hy;have:s=w:=eq_of_beq (show(s==w)=true from q);rw[this]at hs;lia
 unfold MK;rw[hl,gM (by lia:1<=l.length),gM h12,hk,f1,f2];rfl
def Ec:∀k,k<16->sgn k∈GR.Internal.SM.cps.toList:=gA
def Iq:∀k:Nat,k<16->∀c∈[bit k 0,bit k 1,bit k 2,bit k 3],c∈(MN++MP).cps.toList:=gA
def J7 {x:Str} {a:Int} {k:Nat} (hx:Nms x) (h4:4<=x.length) (h11:x.length<=11) (a0:0<=a) (a1:a<=x.length) (hk:k<16):MK (w1 (L6 x none (some a)) (L6 x (some a) none) k)=true:=by
 have hl:x.cps.toList.length=x.length:=rfl;obtain⟨⟨c0,r,hc,hs⟩,xin⟩:=hx;refine Ip (l:=x.cps.toList.take a.toNat++[sgn k]++x.cps.toList.drop a.toNat) (by rw[w1,nP,nP,J6 a0 a1,FR a0 a1]) ?_ ?_ ?_ ?_;·rw[aQ,aQ,ba,aK,aX];lia
 ·rw[aQ,aQ,ba,aK,aX];lia
 ·by_cases z:a.toNat=0;·rw[z];exact⟨sgn k,rfl,Ec k hk⟩
  ·refine⟨c0,?_,hs⟩;rw[bT,aN (by rw[aK];lia),List.getElem?_take,gT (by lia),hc];rfl
 ·intro d hd;rcases ao.mp hd with hd|hd
  ·rcases ao.mp hd with hd|hd;·exact xin d (cw hd)
   ·rw[bj.mp hd];exact Il _ (Ec k hk)
  ·exact xin d (bS hd)
def Ed (x:Str) (k:Nat):(w2 x k 4).cps.toList=x.cps.toList++[bit k 0,bit k 1,bit k 2,bit k 3]:=by simp only[w2,nP,bT];rfl
def J8 {x:Str} {k:Nat} (hx:Nms x) (h8:x.length<=8) (hk:k<16):MK (w2 x k 4)=true:=by
 have hl:x.cps.toList.length=x.length:=rfl;obtain⟨⟨c0,r,hc,hs⟩,xin⟩:=hx;refine Ip (Ed x k) ?_ ?_ ⟨c0,by rw[hc];rfl,hs⟩ ?_;·rw[aQ,hc];show 5<=r.length+ 1+ 4;lia
 ·rw[aQ];show _+ 4<=12;lia
 ·intro d hd;rcases ao.mp hd with hd|hd;·exact xin d hd
  ·exact Iq k hk d hd
def FV:∀i,i<16->∀j,j<16->sgn i=sgn j->i=j:=gA
def Ir (A B:Str) {i j:Nat} (hi:i<16) (hj:j<16) (e:w1 A B i=w1 A B j):i=j:=by have h:=congrArg (fun z:Str=>z.cps.toList) e;simp only[w1,nP]at h;have h2:=cx (List.append_cancel_right h);injection h2 with h3 _;exact FV i hi j hj h3
def FW:∀i,i<16->∀j,j<16->[bit i 0,bit i 1,bit i 2,bit i 3]=[bit j 0,bit j 1,bit j 2,bit j 3]->i=j:=gA
def Iu (x:Str) {i j:Nat} (hi:i<16) (hj:j<16) (e:w2 x i 4=w2 x j 4):i=j:=by have h:=congrArg (fun z:Str=>z.cps.toList) e;simp only[Ed]at h;exact FW i hi j hj (cx h)
def nd16 {f:Nat->Str} (h:∀{i j:Nat},i<16->j<16->f i=f j->i=j):((aa 16).map f).Nodup:=by refine List.pairwise_map.mpr ((List.nodup_range (n:=16)).imp_of_mem fun hi hj ne e=>ne (h (af.mp hi) (af.mp hj) e))
def uk {f:Nat->Str} (i:Nat):(aa (i+ 1)).map f=(aa i).map f++[f i]:=by rw[List.range_succ,bo];rfl
structure Wd (H:Hp) (l:Zx) (ws:Zd):Prop where
 e:H l=some (.lst (ws.map V.str))
 l:ws.length=16
 n:∀x∈ws,MK x=true
 d:ws.Nodup
def wM:Sp:=fun vs H Q _=>X2 fun(c:Int) (m:Nat)=>Y4 (vs=[.int c,.int (m:Int)]) (1<=m) (m<=100) (∀x:Str,x.length=m->Nms x->Q (.str x) H)
def wN (T:Txt K mg):FO P w base 1 T.d36 wM:=by
 refine T.d36.F.rd iS fun _ A _ s H vs Q E hr h=>?_;obtain⟨c,m,rfl,h0,h1,q⟩:=h;refine⟨_,(fN (pS (i:=2) iS.nd fX)
  (fN (pS (i:=3) iS.nd fX)
  (fN (kl Lh rfl (jN rfl T.z_range (fM (cv 1) fO)) (pN (i:=4) iS.nd)
   (fN (pS (i:=5) iS.nd fQ)
   (fN (gJ (gb iA (cv 4) fQ)
    (fU (pS (i:=5) iS.nd fQ))
    gi)
   (fN (pS (i:=3) iS.nd (gB jQ (cv 3) (gf Ba (cv 2) (gB hG (cv 0) (cv 5)))))
   (fU (pS (i:=0) iS.nd (gB jh (cv 0) fQ)))))))
  (fU (gj (cv 3)))))),?_⟩;have sl:=Lc;refine⟨_,rfl,by lia,by lia,mY (fun i σ H2=>X4 fun(y:Str) (c:Int) (o o2:Option V)=>Y5 (σ=[some (.int c),some (.int (m:Int)),some (.str "abcdefghijklmnopqrstuvwxyz0123456789"),some (.str y),o,o2]) (H2=H) (y.length=i) ((∀c∈y.cps.toList,c∈(MN++MP).cps.toList)) ((0<i->∃c r,y.cps.toList=c::r/\c∈GR.Internal.SM.cps.toList)))
  ⟨"",c,none,none,rfl,rfl,rfl,(fun c hc=>nomatch hc),fun z=>absurd z (by decide)⟩ ?_ ?_⟩
 ·rintro i σ H2 hi ⟨y,c,o,o2,rfl,rfl,hy,ha,hf⟩;have stp:∀n:Int,(n=26\/n=36)->(0<i\/n=26)->∃ch:Nat,atI ("abcdefghijklmnopqrstuvwxyz0123456789":Str).cps.toList (c%n)=some ch/\∃(y':Str),y++⟨#[ch]⟩=y'/\y'.length=i+ 1/\(∀c∈y'.cps.toList,c∈(MN++MP).cps.toList)/\∃c r,y'.cps.toList=c::r/\c∈GR.Internal.SM.cps.toList:=fun n hn hi0=>by
   have hp:(0:Int)<n:=by lia
   have a0:=fq c (ft hp);have a1:=fu c hp;obtain⟨ch,e,mm⟩:=DI ("abcdefghijklmnopqrstuvwxyz0123456789":Str).cps.toList (c%n) a0 (by rw[K8];lia);refine⟨ch,e,_,rfl,by rw[Lk,pb,hy],fun d hd=>?_,?_⟩
   ·rw[nP]at hd;rcases ao.mp hd with hd|hd;·exact ha d hd
    ·rw[bj.mp hd];exact FT _ mm
   ·rw[nP];rcases hi0 with z|z;·obtain⟨d,r,hd,hs⟩:=hf z;exact⟨d,r++[ch],by rw[hd];rfl,hs⟩
    ·by_cases iz:0<i;·obtain⟨d,r,hd,hs⟩:=hf iz;exact⟨d,r++[ch],by rw[hd];rfl,hs⟩
     ·have e0:y.cps.toList=[]:=bV (show y.length=0 by lia);refine⟨ch,[],by rw[e0];rfl,?_⟩;have h26:=FU (c%n).toNat (by lia);have e2:=B6 (l:=("abcdefghijklmnopqrstuvwxyz0123456789":Str).cps.toList) (i:=(c%n).toNat) (by rw[K8];lia);rw[show(0:Int)+((c%n).toNat:Int)=c%n by lia,e]at e2;rw[dm.inj e2];exact h26
  show(if(false ^^ decide ((0:Int)+(i:Int)=0))=true then _ else _);rw[eZ];by_cases z:(0:Int)+(i:Int)=0;·rw[gM z];obtain⟨ch,e,y',rfl,h1',h2',h3'⟩:=stp 26 (.inl rfl) (.inr rfl);exact iC ⟨(by show(0:Int)<26;decide),sz gA,fY e ⟨by rw[pb];lia,⟨by decide,by decide⟩,_,_,_,_,rfl,rfl,h1',h2',fun _=>h3'⟩⟩
  ·rw[gQ z];obtain⟨ch,e,y',rfl,h1',h2',h3'⟩:=stp 36 (.inr rfl) (.inl (by lia));exact gX ⟨(by show(0:Int)<36;decide),sz gA,fY e ⟨by rw[pb];lia,⟨by decide,by decide⟩,_,_,_,_,rfl,rfl,h1',h2',fun _=>h3'⟩⟩
 ·rintro σ H2 ⟨y,c,o,o2,rfl,rfl,hy,ha,hf⟩;exact q y (by lia) ⟨hf (by lia),ha⟩
def vt:Sp:=fun vs H Q _=>∃c:Int,vs=[.int c]/\∀l ws H',gE H H'->H l=none->Wd H' l ws->Q (.ref l) H'
def vv (T:Txt K mg):FO P w base 2 T.d37 vt:=by
 refine T.d37.F.rd hX fun _ A _ s H vs Q E hr h=>?_;obtain⟨c,rfl,q⟩:=h;refine⟨_,(fN (pS (i:=0) hX.nd (gB hG (cv 0) (gB yD fQ fQ)))
  (fN (pS (i:=1) hX.nd (gB jE (gB hG (cv 0) fQ) fQ))
  (fN (pS (i:=2) hX.nd (gq fO))
  (fN (gJ (gb iA (gB hG (gB jh (cv 0) fQ) fQ) fQ)
   (fN (pS (i:=3) hX.nd (pF T.d36 (wN T) hr.m (fM (gB jh (cv 0) fQ) (fM (gB jE (cv 1) fQ) fO))))
   (fN (pS (i:=4) hX.nd (gB hG (gB jh (cv 0) fQ) (gB jE (cv 1) fQ)))
   (fN (kl Lh rfl (jN rfl T.z_range (fM fQ fO)) (pN (i:=5) hX.nd)
    (fU (gv (iO (jq eO eP eQ gK (MC (cv 2)) (fM (MC (gB jQ (gB jQ (kz DE (cv 3) lP (lQ (cv 4))) (gf Ba fX (cv 5))) (kz DE (cv 3) (lQ (cv 4)) lP))) fO))))))
   (fU (gj (cv 2))))))
   gi)
  (fN (pS (i:=3) hX.nd (pF T.d36 (wN T) hr.m (fM (gB jh (cv 0) fQ) (fM (cv 1) fO))))
  (fN (kl Lh rfl (jN rfl T.z_range (fM fQ fO)) (pN (i:=5) hX.nd)
   (fN (pS (i:=6) hX.nd (cv 3))
   (fN (kl Lh rfl (mq (gq (fM fQ (fM fQ (fM fQ (fM fQ fO)))))) (pN (i:=7) hX.nd)
    (fU (pS (i:=6) hX.nd (gB jQ (cv 6) (gf Ba fX (gB hG (gB jh (cv 5) (cv 7)) fQ))))))
   (fU (gv (iO (jq eO eP eQ gK (MC (cv 2)) (fM (MC (cv 6)) fO))))))))
  (fU (gj (cv 2))))))))),?_⟩;have sl:=Lc;refine⟨⟨by decide,by decide,by decide⟩,(by show(0:Int)<10^(24:Int).toNat;decide+kernel),?_⟩;dsimp only[gP];generalize c%10^(24:Int).toNat=c;have s0:=fq c (show(8:Int)≠0 by decide);have s1:=fu c (show(0:Int)<8 by decide);obtain⟨m,hm⟩:∃m:Nat,c%8+ 1=(m:Int):=⟨(c%8+ 1).toNat,by lia⟩;refine⟨(by show(0:Int)<8;decide),qC,fun l hl=>?_⟩;have S1:gE H (upd H l (.lst [])):=fW hl _;have e1:(upd H l (.lst [])) l=some (.lst []):=fS;dsimp only[gP];generalize upd H l (.lst [])=H1 at S1 e1⊢;rw[hm];have fin:∀(f:Nat->Str) (H2:Hp),gE H H2->H2 l=some (.lst (((aa 16).map f).map V.str))->(∀k,k<16->MK (f k)=true)->(∀{i j:Nat},i<16->j<16->f i=f j->i=j)->Q (.ref l) H2:=fun f H2 S e hn hd=>q l _ H2 S hl ⟨e,by rw[aD,cy],fun x hx=>by obtain⟨k,hk,rfl⟩:=bf.mp hx;exact hn k (af.mp hk),nd16 hd⟩;refine⟨⟨by decide,by decide⟩,(by show(0:Int)<2;decide),?_⟩;dsimp only[tC,cEq,onB];rw[eZ]
 cases decide (c/8%2=0)with
 |true=>
  refine iC ⟨⟨by decide,by decide⟩,_,m+ 3,rfl,by lia,by lia,fun x hx nx=>⟨⟨by decide,by decide⟩,(by show(0:Int)<(m:Int)+ 4;lia),?_⟩⟩;dsimp only[gP];have a0:=fq (c/16) (show((m:Int)+ 4)≠0 by lia);have a1:=fu (c/16) (show 0<((m:Int)+ 4) by lia);generalize c/16%((m:Int)+ 4)=at_ at a0 a1⊢;have la:=Mt x none (some at_);have lb:=Mt x (some at_) none;refine⟨16,rfl,by decide,by decide,mY (fun i σ H2=>∃(o:Option V),Y3 (σ=[some (.int c),some (.int (m:Int)),some (.ref l),some (.str x),some (.int at_),o,none,none]) (gE H H2) (H2 l=some (.lst (((aa i).map (w1 (L6 x none (some at_)) (L6 x (some at_) none))).map V.str))))
   ⟨none,rfl,S1,e1⟩ ?_ ?_⟩;·rintro i σ H2 hi ⟨o,rfl,S,e⟩;have hi16:i<16:=hi;have e1:=B6 (l:=("abcdefghijklmnop":Str).cps.toList) (i:=i) (by rw[show("abcdefghijklmnop":Str).cps.toList.length=16 by decide+kernel];lia);refine⟨⟨_,e⟩,at_,rfl,_,rfl,by lia,sz gA,fY e1 ⟨by rw[pb];lia,at_,rfl,_,rfl,by lia,by rw[Lk,pb];lia,_,e,by rw[aD,aD,cy];lia,?_⟩⟩;refine⟨_,rfl,gZ S hl _,?_⟩;rw[fS,uk,bo];rfl
  ·rintro σ H2 ⟨o,rfl,S,e⟩;exact fin _ H2 S e (fun k hk=>J7 nx (by lia) (by lia) a0 (by lia) hk) (Ir _ _)
 |false=>
  refine gX ⟨⟨by decide,by decide⟩,_,m,rfl,by lia,by lia,fun x hx nx=>?_⟩;dsimp only[gP];refine⟨16,rfl,by decide,by decide,mY (fun i σ H2=>X3 fun(o o2 o3:Option V)=>Y3 (σ=[some (.int c),some (.int (m:Int)),some (.ref l),some (.str x),none,o,o2,o3]) (gE H H2) (H2 l=some (.lst (((aa i).map fun k=>w2 x k 4).map V.str))))
   ⟨none,none,none,rfl,S1,e1⟩ ?_ ?_⟩
  ·rintro i σ H2 hi ⟨o,o2,o3,rfl,S,e⟩;have hi16:i<16:=hi;refine⟨F9,fun p hp=>⟨p,rfl,⟨_,MD fS⟩,?_⟩⟩;have S2:gE H (upd H2 p (.lst [V.int 8,V.int 4,V.int 2,V.int 1])):=S.trans (fW hp _);have nlp:l≠p:=fZ e hp;refine mv (xs:=[V.int 8,V.int 4,V.int 2,V.int 1]) (fun j σ H3=>∃(o3:Option V),Y3 (σ=[some (.int c),some (.int (m:Int)),some (.ref l),some (.str x),none,some (.int (0+(i:Int))),some (.str (w2 x i j)),o3]) (H3=upd H2 p (.lst [V.int 8,V.int 4,V.int 2,V.int 1])) ((w2 x i j).length<=100+j))
    ⟨o3,rfl,rfl,by show x.length<=_;lia⟩ (fun j σ H3 _ ⟨o4,_,e3,_⟩=>by rw[e3];exact MD fS) ?_ ?_
   ·rintro j v σ H3 hv ⟨o4,rfl,rfl,hy⟩;have hj:j<4:=(au.mp hv).1;have hn:v= .int (part j)/\0<part j/\part j<1073741824:=by
     match j,hj,hv with
     |0,_,hv=>cases hv;exact⟨rfl,by decide,by decide⟩
     |1,_,hv=>cases hv;exact⟨rfl,by decide,by decide⟩
     |2,_,hv=>cases hv;exact⟨rfl,by decide,by decide⟩
     |3,_,hv=>cases hv;exact⟨rfl,by decide,by decide⟩
    obtain⟨rfl,n0,n1⟩:=hn;obtain⟨ch,e1,_⟩:=DI ("t7":Str).cps.toList ((0+(i:Int))/part j%2) (fq _ (by decide)) (by rw[show("t7":Str).cps.toList.length=2 by decide+kernel];exact fu _ (by decide));have ech:ch=bit i j:=by rw[bit,t7,e1];rfl
    subst ech;exact⟨⟨n0,n1⟩,(by show(0:Int)<2;decide),sz gA,fY e1 ⟨by rw[pb];lia,_,rfl,rfl,by rw[w2,Lk,pb];lia⟩⟩
   ·rintro σ H3 ⟨o4,rfl,rfl,hy⟩;have e4:(upd H2 p (.lst [V.int 8,V.int 4,V.int 2,V.int 1])) l=some (.lst (((aa i).map fun k=>w2 x k 4).map V.str)):=by rw[f9 nlp];exact e
    refine⟨⟨_,e4⟩,_,e4,by rw[aD,aD,cy];lia,?_⟩;refine⟨_,_,_,rfl,gZ S2 hl _,?_⟩;rw[fS,uk,bo];rfl
  ·rintro σ H2 ⟨o,o2,o3,rfl,S,e⟩;exact fin _ H2 S e (fun k hk=>J8 nx (by lia) hk) (Iu x)
open TM.Internal (Kn Tr)
def itV (I:It) (cs:Zx):List V:=[.str I.tx,.int (I.ne:Int),.int (I.wt:Int),.ref cs,.bl I.own,.int (I.pl:Int),.str I.sh,.str I.mo]
def cV3 (c:Nat->Nat):List V:=[.int (c 0:Int),.int (c 1:Int),.int (c 2:Int)]
def ItA (H:Hp) (x:V) (I:It):Prop:=X2 fun a cs=>Y3 (x= .ref a) (H a=some (.lst (itV I cs))) (H cs=some (.lst (cV3 I.mn)))
def ItA.same {H H':Hp} {x:V} {I:It} (h:ItA H x I) (S:gE H H'):ItA H' x I:=by obtain⟨a,cs,rfl,e1,e2⟩:=h;exact⟨a,cs,rfl,S _ _ e1,S _ _ e2⟩
structure ItN (H H':Hp) (a cs:Zx) (I:It):Prop where
 sm:gE H H'
 na:H a=none
 nc:H cs=none
 ne:a≠cs
 ea:H' a=some (.lst (itV I cs))
 ec:H' cs=some (.lst (cV3 I.mn))
def ItN.it {H H':Hp} {a cs:Zx} {I:It} (h:ItN H H' a cs I):ItA H' (.ref a) I:=⟨a,cs,rfl,h.ea,h.ec⟩
def at3 {c:Nat->Nat} {k:Nat} (h:k<3):atI (cV3 c) (k:Int)=some (.int (c k:Int)):=by
 refine fV ?_;match k,h with
 |0,_=>rfl
 |1,_=>rfl
 |2,_=>rfl
def Gj {c:Nat->Nat} {k:Nat} (h:k<3):atI (cV3 c) (0+(k:Int))=some (.int (c k:Int)):=by rw[fA];exact at3 h
def Dl {c:Nat->Nat} {k:Nat} (h:k<3):(cV3 c).take (k+ 1)=(cV3 c).take k++[.int (c k:Int)]:=by
 match k,h with
 |0,_=>rfl
 |1,_=>rfl
 |2,_=>rfl
def Iv {i j n:Nat} {a b:Bool} {p:Zx} {xs:List V} {m:Int} {σ:St} {H:Hp} {Q:VK} (h1:σ[i]?=some (some (.bl a))) (h2:σ[j]?=some (some (.ref p))) (e:H p=some (.lst xs)) (hx:atI xs m=some (.bl b)) (q:Q (.bl (a||b)) H):IY (cV i) (tOp Hl (cV j) (tC (.int m))) σ H Q:=by
 show onV σ[i]? _;rw[h1];refine⟨a,rfl,?_⟩
 cases a with
 |true=>exact iC q
 |false=>refine gX ?_;show onV σ[j]? _;rw[h2];exact⟨_,e,fY hx q⟩
def Iw {i j g:Nat} {a b:Bool} {p:Zx} {xs:List V} {m:Int} {σ:St} {H:Hp} {R:TS} {D:pT} (h1:σ[i]?=some (some (.bl a))) (h2:σ[j]?=some (some (.ref p))) (e:H p=some (.lst xs)) (hx:atI xs m=some (.bl b)) (q:R D (σ.set g (some (.bl (a||b)))) H):xh (El (IY (cV i) (tOp Hl (cV j) (tC (.int m)))) (gP g)) R D σ H:=Iv (n:=0) h1 h2 e hx q
def FS (st:Zx) (H H':Hp):Prop:=∀a o,H a=some o->a≠st->H' a=some o
def FS.trans {st:Zx} {H H1 H2:Hp} (f:FS st H H1) (g:FS st H1 H2):FS st H H2:=fun a o e n=>g a o (f a o e n) n
def FS.same {st:Zx} {H H':Hp} (S:gE H H'):FS st H H':=fun a o e _=>S a o e
def Stk (H:Hp) (st:Zx) (sn:Nat) (J:It->Prop):Prop:=∃xs,Y3 (H st=some (.lst xs)) (xs.length<=sn) (∀x∈xs,∃I,ItA H x I/\J I)
def ItA.fs {H H':Hp} {st:Zx} {sn:Nat} {J:It->Prop} {x:V} {I:It} (h:ItA H x I) (k:Stk H st sn J) (F:FS st H H'):ItA H' x I:=by
 obtain⟨xs,es,_,al⟩:=k;obtain⟨a,cs,rfl,e1,e2⟩:=h;have no:∀v:V,(∀b,v≠ .ref b)->v∉xs:=fun v hv m=>by obtain⟨_,⟨_,_,e,_⟩,_⟩:=al _ m;exact hv _ e
 refine⟨a,cs,rfl,F _ _ e1 fun z=>?_,F _ _ e2 fun z=>?_⟩;·rw[z,es]at e1;cases dm.inj e1;exact no (.str I.tx) (fun _ z=>nomatch z) (by simp[itV])
 ·rw[z,es]at e2;cases dm.inj e2;exact no (.int (I.mn 0:Int)) (fun _ z=>nomatch z) (by simp[cV3])
theorem Stk.same {H H':Hp} {st:Zx} {sn:Nat} {J:It->Prop} (k:Stk H st sn J) (S:gE H H'):Stk H' st sn J:=by obtain⟨xs,es,l,al⟩:=k;exact⟨xs,S _ _ es,l,fun x hx=>let⟨I,h,j⟩:=al x hx;⟨I,h.same S,j⟩⟩
inductive z6 (H:Hp):List V->List It->Prop
 |nil:z6 H [] []
 |cons {x:V} {t:It} {xs:List V} {ts:List It} (h:ItA H x t) (r:z6 H xs ts):z6 H (x::xs) (t::ts)
def z6.len {H:Hp} {xs:List V} {ts:List It} (h:z6 H xs ts):xs.length=ts.length:=by
 induction h with
 |nil=>rfl
 |cons h r i=>exact congrArg (·+ 1) i
def z6.at {H:Hp} {xs:List V} {ts:List It} (h:z6 H xs ts):∀{i:Nat} {t:It},ts[i]?=some t->∃x,xs[i]?=some x/\ItA H x t:=by
 induction h with
 |nil=>intro i t e;cases e
 |cons h r ih=>
  intro i t e
  cases i with
  |zero=>cases e;exact⟨_,rfl,h⟩
  |succ i=>exact ih e
def oV:Option Str->V
 |none=> .non
 |some w=> .str w
theorem vw {w:Str}:∀{p:List (Option Str)} {ts:List It},cN p<=ts.length->txF (p++[some w]) ts=txF p ts++[w]
 |[],ts,_=>by cases ts<;>rfl
 |none::p,[],h=>by cases h
 |none::p,t::ts,h=>congrArg (t.tx::·) (vw (p:=p) (ts:=ts) (dh h))
 |some v::p,ts,h=>congrArg (v::·) (vw (p:=p) (ts:=ts) h)
theorem vy {t:It}:∀{p:List (Option Str)} {ts:List It},ts[cN p]?=some t->txF (p++[none]) ts=txF p ts++[t.tx]
 |[],u::ts,h=>by cases h;rfl
 |[],[],h=>by cases h
 |none::p,[],h=>by cases h
 |none::p,u::ts,h=>congrArg (u.tx::·) (vy (p:=p) (ts:=ts) h)
 |some v::p,ts,h=>congrArg (v::·) (vy (p:=p) (ts:=ts) h)
theorem vz:∀(p:List (Option Str)) (ts:List It),(txF p ts).length<=p.length
 |[],ts=>cH _
 |none::p,[]=>cJ _
 |none::p,t::ts=>di (vz p ts)
 |some v::p,ts=>di (vz p ts)
theorem Dm (o:Option Str):∀p:List (Option Str),cN (p++[o])=cN p+match o with|none=>1|some _=>0
 |[]=>by cases o<;>rfl
 |none::p=>by rw[aT,cN,cN,Dm o p];lia
 |some v::p=>by rw[aT,cN,cN,Dm o p]
def B7 (p:List (Option Str)) (i:Nat):cN (p.take i)<=cN p:=by
 induction p generalizing i with
 |nil=>rw[cA];exact cH _
 |cons a p ih=>
  cases i with
  |zero=>exact cJ _
  |succ i=>have:=ih i;rw[List.take_succ_cons];cases a<;>rw[cN,cN]<;>lia
theorem yl {b:Nat}:∀{p:List (Option Str)} {ts:List It},(∀w,some w∈p->w.length<=b)->(∀t∈ts,t.tx.length<=b)->∀w∈txF p ts,w.length<=b
 |[],ts,_,_,w,h=>by cases ts<;>cases h
 |none::p,[],_,_,w,h=>by cases h
 |none::p,t::ts,h1,h2,w,h=>by
  rcases ak.mp h with rfl|h;·exact h2 t ai
  ·exact yl (p:=p) (fun v hv=>h1 v (aj _ hv)) (fun u hu=>h2 u (aj _ hu)) w h
 |some v::p,ts,h1,h2,w,h=>by
  rcases ak.mp h with rfl|h;·exact h1 _ ai
  ·exact yl (p:=p) (ts:=ts) (fun u hu=>h1 u (aj _ hu)) h2 w h
theorem ym {b:Nat}:∀{l:Zd},(∀w∈l,w.length<=b)->(l.map (·.length)).sum<=l.length*b
 |[],_=>cJ _
 |w::l,h=>by have:=ym (l:=l) fun x hx=>h x (aj _ hx);have:=h w ai;rw[aC,List.sum_cons,aA,Nat.succ_mul];lia
inductive XLf (vs:List V) (H:Hp) (Q:VK):Prop
 |mk (n sh mo:Str) (w:Nat) (e:vs=[.str n,.int (w:Int),.str sh,.str mo]) (q:∀H' a cs,ItN H H' a cs (wK n w sh mo)->Q (.ref a) H')
def J9:Sp:=fun vs H Q _=>XLf vs H Q
def jJ (T:Txt K mg):FO P w base 1 T.d38 J9:=by
 refine T.d38.F.rd wm fun cdv A0 outer s0 H vs Q E hr h=>?_;obtain⟨n,sh,mo,w',rfl,q⟩:=h;refine⟨_,(fU (gj (gq (fM (cv 0) (fM fQ (fM (cv 1) (fM (gq (fM fQ (fM fQ (fM fQ fO)))) (fM mh (fM fQ (fM (cv 2) (fM (cv 3) fO))))))))))),?_⟩;refine⟨kP,fun cs hc=>⟨IG,fun a ha=>?_⟩⟩;have S1:=fW hc (.lst [.int 0,.int 0,.int 0]);have S2:=fW ha (.lst [.str n,.int 1,.int (w':Int),.ref cs,.bl false,.int 1,.str sh,.str mo]);have ne:a≠cs:=fun z=>by rw[z,fS]at ha;cases ha
 exact q _ a cs ⟨S1.trans S2,S1.free ha,hc,ne,fS,S2 _ _ fS⟩
inductive XHe (vs:List V) (H:Hp) (Q:VK):Prop
 |mk (x:V) (v:Nat) (I:It) (e:vs=[x,.int (v:Int)]) (i:ItA H x I) (q:∀H' a cs,ItN H H' a cs (lF I v)->Q (.ref a) H')
def Ka:Sp:=fun vs H Q _=>XHe vs H Q
def lN (T:Txt K mg):FO P w base 1 T.d40 Ka:=by
 refine T.d40.F.rd qK fun cdv A0 outer s H vs Q E hr h=>?_;obtain⟨x,v,I,rfl,⟨p,cs,rfl,ep,ec⟩,q⟩:=h;refine⟨_,(fN (CH (j:=2) rfl (IM (x:="_law_k") ["_law_var","_law_item"] [("_law_var",1,s.heap.objs.size+ 2),("_law_item",0,s.heap.objs.size+ 1)]) (jN rfl T.z_range (fM fQ fO)) (fun _ _ _ _ _=>mC) (fun _ _ _ _ _=>(nH (gb iA (cv 0) (cv 1)) fQ (gf f7 (gf f7 (cv 2) fQ) (cv 0)))) qK.nd rfl (.inl rfl))
  (fU (gj (gB DB (gB DB (kz oo (cv 0) lP (lQ fQ)) (gq (fM (cv 2) fO))) (kz oo (cv 0) (lQ fQ) lP))))),?_⟩;have sl:=Lc;refine⟨3,rfl,by decide,by decide,fun D hD=>?_⟩;refine rR 3 (by lia) (fun zs H5=>zs=(cV3 (lF I v).mn).take zs.length) (fun _ _ _ h _=>h) hD rfl (fun k _ _ h=>h) (fun _ _=>cH _) rfl ?_ ?_
 ·rintro k H5 x H6 zs Z S5 hk ⟨rfl,rfl⟩ hz lz kZ;subst lz;have fin:(lF I v).mn zs.length=(if zs.length=v then 0 else I.mn zs.length):=rfl;have go:∀n:Int,n=((lF I v).mn zs.length:Int)->Z (.int n) H6:=fun n e=>kZ _ _ (fun _ _ e=>e) (by rw[aQ,ba,Dl hk,<-hz,e]);show if(false ^^ decide (0+(zs.length:Int)=(v:Int)))=true then _ else _;by_cases z:zs.length=v;·rw[gM (by lia)];exact iC (go 0 (by rw[fin,gT z];rfl))
  ·rw[gQ (by lia)];exact gX ⟨_,S5 _ _ ep,fY (fV (j:=3) rfl) ⟨_,S5 _ _ ec,fY (Gj hk) (go _ (by rw[fin,gN z]))⟩⟩
 ·intro H5 zs S5 hz lz ez;rw[lz]at hz;have hz:zs=cV3 (lF I v).mn:=hz;subst hz;have ep5:=S5 _ _ ep;refine⟨3,rfl,p,_,rfl,MD ep5,fun p1 h1=>⟨yo,fun p2 h2=>?_⟩⟩;have T1:=fW h1 (.lst (rb (itV I cs) none (some 3)));have T2:=fW h2 (.lst [.ref D]);have e1:=T2 _ _ (fS (H:=H5) (a:=p1) (o:= .lst (rb (itV I cs) none (some 3))));have T12:=T1.trans T2;have e2:(upd (upd H5 p1 (.lst (rb (itV I cs) none (some 3)))) p2 (.lst [.ref D])) p2=some (.lst [.ref D]):=fS;generalize upd (upd H5 p1 _) p2 _=H6 at T12 e1 e2⊢;refine⟨p1,p2,_,_,rfl,rfl,e1,e2,(by show 3+ 1<=sizeLine;decide),fun p3 h3=>?_⟩;have T3:=fW h3 (.lst (rb (itV I cs) none (some 3)++[.ref D]));have e3:(upd H6 p3 (.lst (rb (itV I cs) none (some 3)++[.ref D]))) p3=some (.lst (rb (itV I cs) none (some 3)++[.ref D])):=fS;generalize upd H6 p3 _=H7 at T3 e3⊢;refine⟨4,rfl,p,_,rfl,MD (T3 _ _ (T12 _ _ ep5)),fun p4 h4=>?_⟩;have T4:=fW h4 (.lst (rb (itV I cs) (some 4) none));have e4:(upd H7 p4 (.lst (rb (itV I cs) (some 4) none))) p4=some (.lst (rb (itV I cs) (some 4) none)):=fS;have e34:=T4 _ _ e3;generalize upd H7 p4 _=H8 at T4 e4 e34⊢;refine⟨p3,p4,_,_,rfl,rfl,e34,e4,(by show 4+ 4<=sizeLine;decide),fun a ha=>?_⟩;have T:=S5.trans (T12.trans (T3.trans T4));have eD:=(T12.trans (T3.trans T4)) _ _ ez;exact q _ a D ⟨T.trans (fW ha _),T.free ha,hD,(fun z=>by rw[z,eD]at ha;cases ha),fS,fW ha _ _ _ eD⟩
inductive XNd (vs:List V) (H:Hp) (Q:VK):Prop
 |mk (hl pl:Zx) (p:List (Option Str)) (xs:List V) (its:List It) (sh mo:Str) (e:vs=[.ref hl,.ref pl,.str sh,.str mo]) (eh:H hl=some (.lst (p.map oV))) (ep:H pl=some (.lst xs)) (ix:z6 H xs its) (hc:cN p<=its.length) (ha:cN p=its.length) (l8:p.length<=8) (hw:∀w,some w∈p->w.length<=200000) (ht:∀t∈its,t.tx.length<=200000) (q:∀H' a cs,ItN H H' a cs (kO p its sh mo)->Q (.ref a) H')
def FX:Sp:=fun vs H Q _=>XNd vs H Q
def jK (T:Txt K mg):FO P w base 1 T.d39 FX:=by
 refine T.d39.F.rd gU fun cdv A0 outer s H vs Q E hr h=>?_;obtain⟨hl,pl,p,xs,its,sh,mo,rfl,eh,ep,ix,hc,ha',l8,hw,ht,q⟩:=h;refine⟨_,(fN (pS (i:=4) gU.nd (gq fO))
  (fN (pS (i:=5) gU.nd fQ)
  (fN (pS (i:=6) gU.nd fQ)
  (fN (pS (i:=7) gU.nd (gq (fM fQ (fM fQ (fM fQ fO)))))
  (fN (pS (i:=8) gU.nd mh)
  (fN (pS (i:=9) gU.nd fQ)
  (fN (pS (i:=10) gU.nd fQ)
  (fN (kl Lh rfl (mq (cv 0)) (pN (i:=11) gU.nd)
   (fU (gJ (rA (Dq (cv 11)))
    (fN (pS (i:=12) gU.nd (gf f7 (cv 1) (cv 10)))
    (fN (pS (i:=10) gU.nd (gB jE (cv 10) fQ))
    (fN (gv (iO (jq eO eP eQ gK (MC (cv 4)) (fM (MC (gf f7 (cv 12) fQ)) fO))))
    (fN (pS (i:=5) gU.nd (gC (Ar rfl) rfl T.z_max G5 (fM (cv 5) (fM (gf f7 (cv 12) fQ) fO))))
    (fN (pS (i:=6) gU.nd (gB jE (cv 6) (gf f7 (cv 12) fQ)))
    (fN (pS (i:=7) gU.nd (tj rfl (IM (x:="_law_k") ["_law_part","_law_many"] [("_law_part",12,s.heap.objs.size+ 2),("_law_many",7,s.heap.objs.size+ 1)]) (jN rfl T.z_range (fM fQ fO)) (fun _ _ _ _ _=>mC) (fun _ _ _ _ _=>(gB jE (gf f7 (cv 2) (cv 0)) (gf f7 (gf f7 (cv 1) fQ) (cv 0))))))
    (fN (pS (i:=8) gU.nd (Gv (cv 8) (nS (gf f7 (cv 12) fQ))))
    (fU (pS (i:=9) gU.nd (gB jE (cv 9) (gf f7 (cv 12) fQ)))))))))))
    (fU (gv (iO (jq eO eP eQ gK (MC (cv 4)) (fM (MC (cv 11)) fO))))))))
  (fU (gj (gq (fM (gB jQ (gB jQ fX (jq eN eT eU Bc fX (fM (cv 4) fO))) fX) (fM (gB jE (cv 5) fQ) (fM (cv 6) (fM (cv 7) (fM (cv 8) (fM (cv 9) (fM (cv 2) (fM (cv 3) fO))))))))))))))))))),?_⟩;have sl:=Lc;refine⟨qC,fun tl htl=>?_⟩;have S1:=fW htl (.lst []);have e1:(upd H tl (.lst [])) tl=some (.lst []):=fS;dsimp only[gP];generalize upd H tl (.lst [])=H1 at S1 e1⊢;refine⟨kP,fun m hm=>?_⟩;have S2:=fW hm (.lst [.int 0,.int 0,.int 0]);dsimp only[gP];refine⟨hl,rfl,⟨_,MD (S2 _ _ (S1 _ _ eh))⟩,mv (xs:=p.map oV) (fun i σ H2=>X3 fun(o11 o12:Option V) (mn:Zx)=>Y6 (σ=[some (.ref hl),some (.ref pl),some (.str sh),some (.str mo),some (.ref tl),some (.int (neL (its.take (cN (p.take i))):Int)),some (.int ((1+wtL (its.take (cN (p.take i))):Nat):Int)),some (.ref mn),some (.bl (owL (its.take (cN (p.take i))))),some (.int ((1+plL (its.take (cN (p.take i))):Nat):Int)),some (.int (cN (p.take i):Int)),o11,o12]) (gE H H2) (H2 tl=some (.lst ((txF (p.take i) its).map V.str))) (mn≠tl) (H mn=none) (H2 mn=some (.lst (cV3 (mnL (its.take (cN (p.take i))))))))
  ⟨none,none,m,rfl,S1.trans S2,S2 _ _ e1,(fun z=>by rw[z,e1]at hm;cases hm),S1.free hm,fS⟩ (fun i σ H2 _ ⟨_,_,_,_,S,_,_,_,_⟩=>MD (S _ _ eh)) ?_ ?_⟩
 ·rintro i v σ H2 hv ⟨o11,o12,mn,rfl,S,etl,nmt,nmn,emn⟩;rw[aO]at hv;obtain⟨o,hpi,rfl⟩:=dy.mp hv;have tk:p.take (i+ 1)=p.take i++[o]:=by rw[b6,hpi];rfl
  have lt:=vz (p.take i) its;have lp:(p.take i).length<=8:=by rw[aK];lia
  have hk:cN (p.take i)<=its.length:=cE (B7 p i) hc
  cases o with
  |some x=>
   have ek:cN (p.take (i+ 1))=cN (p.take i):=by rw[tk,Dm]<;>rfl
   refine⟨_,rfl,gX ⟨⟨_,etl⟩,_,etl,by rw[aD];lia,?_⟩⟩;refine⟨_,_,mn,by rw[ek];rfl,gZ S htl _,?_,nmt,nmn,by rw[f9 nmt,ek];exact emn⟩;rw[fS,tk,vw hk,bo];rfl
  |none=>
   have ek:cN (p.take (i+ 1))=cN (p.take i)+ 1:=by rw[tk,Dm]<;>rfl
   have hlt:cN (p.take i)<its.length:=by have:=B7 p (i+ 1);lia
   obtain⟨t,hti⟩:∃t,its[cN (p.take i)]?=some t:=⟨_,bE hlt⟩;obtain⟨x,hx,a,cs,rfl,ea,ec⟩:=ix.at hti;have ts:its.take (cN (p.take i)+ 1)=its.take (cN (p.take i))++[t]:=by rw[b6,hti];rfl
   obtain⟨n1,n2,n3,n4,n5⟩:=K5 t (its.take (cN (p.take i)));rw[<-ts]at n1 n2 n3 n4 n5;refine⟨_,rfl,iC ⟨_,S _ _ ep,fY (fV hx) ?_⟩⟩;dsimp only[gP];refine⟨⟨_,etl⟩,_,S _ _ ea,fY (fV (j:=0) rfl) ⟨_,etl,by rw[aD];lia,?_⟩⟩;have S3:gE H (upd H2 tl (.lst ((txF (p.take i) its).map V.str++[.str t.tx]))):=gZ S htl _;have em3:(upd H2 tl (.lst ((txF (p.take i) its).map V.str++[.str t.tx]))) mn=some (.lst (cV3 (mnL (its.take (cN (p.take i)))))):=by rw[f9 nmt];exact emn
   have et3:(upd H2 tl (.lst ((txF (p.take i) its).map V.str++[.str t.tx]))) tl=some (.lst ((txF (p.take i) its).map V.str++[.str t.tx])):=fS;dsimp only;generalize upd H2 tl (.lst ((txF (p.take i) its).map V.str++[.str t.tx]))=H3 at S3 em3 et3⊢;have ea3:=S3 _ _ ea;have emx:(if((t.ne:Nat):Int)>(neL (its.take (cN (p.take i))):Int)then((t.ne:Nat):Int)else(neL (its.take (cN (p.take i))):Int))=(neL (its.take (cN (p.take i)+ 1)):Int):=by rw[n1];split<;>lia
   refine⟨_,ea3,fY (fV (j:=1) rfl) ⟨_,_,rfl,?_⟩⟩;dsimp only[gP];rw[emx];refine⟨_,ea3,fY (fV (j:=2) rfl) ?_⟩;dsimp only[gP];refine⟨3,rfl,by decide,by decide,fun D hD=>?_⟩;refine rR 3 (by lia) (fun zs H5=>zs=(cV3 (mnL (its.take (cN (p.take i)+ 1)))).take zs.length) (fun _ _ _ h _=>h) hD rfl (fun k _ _ h=>h) (fun _ _=>cH _) rfl ?_ ?_;·rintro k H5 x H6 zs Z S5 hk ⟨rfl,rfl⟩ hz lz kZ;refine⟨_,S5 _ _ em3,fY (Gj hk) ?_⟩;refine⟨_,S5 _ _ ea3,fY (fV (j:=3) rfl) ⟨_,S5 _ _ (S3 _ _ ec),fY (Gj hk) ?_⟩⟩;subst lz;refine kZ _ _ (fun _ _ e=>e) ?_;rw[aQ,ba,Dl hk,<-hz,n4,fB]
   ·intro H5 zs S5 hz lz ez;rw[lz]at hz;have hz:zs=cV3 (mnL (its.take (cN (p.take i)+ 1))):=hz;subst hz;have ea5:=S5 _ _ ea3;dsimp only[gP];refine Iw (b:=t.own) rfl rfl ea5 (fV (j:=4) rfl) ?_;refine⟨_,ea5,fY (fV (j:=5) rfl) ?_⟩;refine⟨some .non,some (.ref a),D,?_,S3.trans S5,?_,(fun z=>by rw[z,et3]at hD;cases hD),S3.free hD,by rw[ek];exact ez⟩;·rw[ek,n2,n3,n5,show((1+(wtL (its.take (cN (p.take i)))+t.wt):Nat):Int)=((1+wtL (its.take (cN (p.take i))):Nat):Int)+(t.wt:Int) by lia,show((1+(plL (its.take (cN (p.take i)))+t.pl):Nat):Int)=((1+plL (its.take (cN (p.take i))):Nat):Int)+(t.pl:Int) by lia,show((cN (p.take i)+ 1:Nat):Int)=(cN (p.take i):Int)+ 1 by lia];rfl
    ·rw[S5 _ _ et3,tk,vy hti,bo];rfl
 ·rintro σ H2 ⟨o11,o12,mn,rfl,S,etl,nmt,nmn,emn⟩;rw[aD,bx,ha',bx]at*;have lm:∀w∈txF p its,w.length<=200000:=yl hw ht;have s1:=ym lm;have s2:=zf (z:=" ") lm;have l3:=vz p its;have s3:(txF p its).length*200000<=8*200000:=dj _ (cE l3 l8);have s4:(txF p its).length*(200000+(" ":Str).length)<=8*(200000+(" ":Str).length):=dj _ (cE l3 l8);have z1:(" ":Str).length=1:=gA;have z2:("(":Str).length=1:=gA;have z3:(")":Str).length=1:=gA;rw[z1]at s2 s4;refine⟨rfl," ",tl,_,rfl,rfl,MD etl,by rw[z1];lia,by rw[z2];lia,by rw[Lk,z2,z3];lia,?_⟩;refine⟨IG,fun a ha=>?_⟩;have nea:a≠mn:=fun z=>by rw[z,emn]at ha;cases ha
  exact q _ a mn ⟨S.trans (fW ha _),S.free ha,nmn,nea,fS,fW ha _ _ _ emn⟩
open TM.Internal (Kn Tr)
def Iy {n:Int} (h0:0<=n) (h1:n<10^60):n.natAbs.log2<1920:=by
 by_cases hz:n.natAbs=0;·rw[hz];decide+kernel
 ·rw[Nat.log2_lt hz];have h2:n.natAbs<10^60:=by lia
  have h3:(10:Nat)^60<=2^200:=gA;have h4:(2:Nat)^200<=2^1920:=Nat.pow_le_pow_right (by decide) (by decide);lia
def Gd (ws:Zd) (m:Nat) (it:It):Prop:=∃t,JN ws m it t
theorem Gd.tx {ws:Zd} {m:Nat} {it:It} (h:Gd ws m it) (hp:it.pl<=2000):it.tx.length<=200000:=by obtain⟨t,j,_⟩:=h;have:=j.gt.l;have:=j.pl;lia
def nuI (n:Int):It:=wK (MM n) 1 "num" ""
def nuI.gd {ws:Zd} {m:Nat} {n:Int} (h0:0<=n) (h1:n<10^60):Gd ws m (nuI n):=⟨_,sR h0 h1⟩
def Kb:nuI 0=wK "0" 1 "num" "":=by have:MM 0="0":=gA;unfold nuI;rw[this]
inductive XPo (vs:List V) (H:Hp) (Q:VK):Prop
 |mk (st:Zx) (sn:Nat) (J:It->Prop) (e:vs=[.ref st]) (k:Stk H st sn J) (j:J (nuI 0)) (q:∀H' x I,FS st H H'->Stk H' st sn J->ItA H' x I->J I->Q x H')
def Kc:Sp:=fun vs H Q _=>XPo vs H Q
def sS (T:Txt K mg):FO P w base 2 T.d42 Kc:=by
 refine T.d42.F.rd xG fun cdv A0 outer s0 H vs Q E hr h=>?_;obtain⟨st,sn,J,rfl,k,j,q⟩:=h;refine⟨_,(fN (gJ (gb iA (gC gx rfl T.z_len iJ (fM (cv 0) fO)) fQ)
   (fU (gj (pF T.d38 (jJ T) hr.m (fM fX (fM fQ (fM fX (fM fX fO)))))))
   gi)
  (fU (gj (rL eO eR eS tW (cv 0))))),?_⟩;obtain⟨xs,es,ls,al⟩:=id k;refine⟨st,_,rfl,.inl (MD es),?_⟩;show if(false ^^ decide ((xs.length:Int)=0))=true then _ else _;by_cases z:xs.length=0;·rw[gM (by lia)];refine iC ?_;refine⟨_,_,_,1,rfl,fun H' a cs N=>?_⟩;rw[<-Kb]at N;exact q _ _ (nuI 0) (FS.same N.sm) (k.same N.sm) N.it j
 ·rw[gQ (by lia)];refine gX ?_;have hy:xs[xs.length-1]?=some (xs[xs.length-1]'(by lia)):=bE (by lia);obtain⟨I,hI',hJ⟩:=al _ (aP hy);refine⟨.inl ⟨rfl,_,MD es⟩,st,xs,_,rfl,rfl,es,hy,?_⟩;have F:FS st H (MB H st (.lst xs.dropLast)):=fun a o e n=>by rw[f9 n];exact e
  exact q _ _ I F ⟨xs.dropLast,fS,by rw[bc];lia,fun x hx=>let⟨I',h,j⟩:=al x (List.dropLast_subset _ hx);⟨I',h.fs k F,j⟩⟩ (hI'.fs k F) hJ
inductive XNu (vs:List V) (H:Hp) (Q:VK):Prop
 |mk (c:Int) (e:vs=[.int c]) (q:∀H' a cs n,0<=n->n<10^60->ItN H H' a cs (nuI n)->Q (.ref a) H')
def Kd:Sp:=fun vs H Q _=>XNu vs H Q
def jG (T:Txt K mg):FO P w base 2 T.d43 Kd:=by
 refine T.d43.F.rd nT fun cdv A0 outer s0 H vs Q E hr h=>?_;obtain⟨c,rfl,q⟩:=h;refine⟨_,(fN (pS (i:=1) nT.nd (gf f7 (gq (fM fQ (fM (gB yD fQ fQ) (fM (gB yD fQ fQ) fO)))) (gB hG (cv 0) fQ)))
  (fU (gj (pF T.d38 (jJ T) hr.m (fM (iG vI rfl T.z_str GW (fM (gB hG (gB jh (cv 0) fQ) (cv 1)) fO)) (fM fQ (fM fX (fM fX fO)))))))),?_⟩;obtain⟨k,ek,hk⟩:=emN c (show(0:Int)<3 by decide);obtain⟨mo,em,m0,m1⟩:∃mo:Int,([V.int 100,V.int (10^(9:Int).toNat),V.int (10^(60:Int).toNat)]:List V)[k]?=some (.int mo)/\0<mo/\mo<=10^60:=by
  match k,hk with
  |0,_=>exact⟨_,rfl,by decide,by decide⟩
  |1,_=>exact⟨_,rfl,gA,gA⟩
  |2,_=>exact⟨_,rfl,gA,gA⟩
 refine⟨⟨by decide,by decide,by decide⟩,⟨by decide,by decide,by decide⟩,kP,fun p1 h1=>⟨(show(0:Int)<3 by decide),?_⟩⟩;dsimp only;rw[ek];refine⟨_,fS,fY (fV em) ?_⟩;dsimp only[gP];have n0:=fq (c/3) (ft m0);have n1:=fu (c/3) m0;have n2:c/3%mo<10^60:=by lia
 refine⟨⟨by decide,by decide⟩,m0,_,rfl,Iy n0 n2,_,_,_,1,rfl,fun H' a cs N=>q H' a cs (c/3%mo) n0 n2 ?_⟩;have S1:=fW h1 (.lst [.int 100,.int (10^(9:Int).toNat),.int (10^(60:Int).toNat)]);exact⟨S1.trans N.sm,S1.free N.na,S1.free N.nc,N.ne,N.ea,N.ec⟩
inductive XLt (vs:List V) (H:Hp) (Q:VK):Prop
 |mk (wl:Zx) (ws:Zd) (v:Nat) (w:Str) (x y:V) (b d:It) (e:vs=[.ref wl,.int (v:Int),x,y]) (hw:Wd H wl ws) (hv:v<3) (ew:ws[v]?=some w) (ix:ItA H x b) (iy:ItA H y d) (lb:b.tx.length<=200000) (ld:d.tx.length<=200000) (mb:b.wt<=1000000/\∀k,b.mn k<=1000000) (md:d.mn v<=1000000) (q:∀H' z,gE H H'->ItA H' z (B5 w v b d)->Q z H')
def Ke:Sp:=fun vs H Q _=>XLt vs H Q
def sU (T:Txt K mg):FO P w base 2 T.d41 Ke:=by
 refine T.d41.F.rd oN fun cdv A0 outer s H vs Q E hr h=>?_;obtain⟨wa,ws,v,w0,x,y,b,d,rfl,hw,hv,ew,ix,iy,lb,ld,mb,md,q⟩:=h;refine⟨_,(fN (pS (i:=4) oN.nd (pF T.d39 (jK T) hr.m (fM (gq (fM fX (fM (gf f7 (cv 0) (cv 1)) (fM gR (fM gR fO))))) (fM (gq (fM (cv 2) (fM (pF T.d40 (lN T) hr.m (fM (cv 3) (fM (cv 1) fO))) fO))) (fM (gf f7 (cv 3) fQ) (fM (gf f7 (cv 3) fQ) fO))))))
  (fN (pS (i:=5) oN.nd (gf f7 (gf f7 (cv 3) fQ) (cv 1)))
  (fN (vG (gB jE (gf f7 (cv 4) fQ) (gB DL (cv 5) (gf f7 (cv 2) fQ))) (vF (cv 4) fQ pB))
  (fN (vG (tj rfl (IM (x:="_law_k") ["_law_times","_law_item","_law_bound"] [("_law_times",5,s.heap.objs.size+ 3),("_law_item",4,s.heap.objs.size+ 2),("_law_bound",2,s.heap.objs.size+ 1)]) (jN rfl T.z_range (fM fQ fO)) (fun _ _ _ _ _=>mC) (fun _ _ _ _ _=>(gB jE (gf f7 (gf f7 (cv 2) fQ) (cv 0)) (gB DL (cv 1) (gf f7 (gf f7 (cv 3) fQ) (cv 0)))))) (vF (cv 4) fQ pB))
  (fU (gj (cv 4))))))),?_⟩;have sl:=Lc;obtain⟨a2,c2,rfl,ea2,ec2⟩:=iy;refine⟨_,hw.e,fY (v:= .str w0) (fV (by rw[aO,ew];rfl)) ⟨F9,fun l1 h1=>?_⟩⟩;have T1:=fW h1 (.lst [.str "let",.str w0,.non,.non]);have e1:(upd H l1 (.lst [.str "let",.str w0,.non,.non])) l1=some (.lst [.str "let",.str w0,.non,.non]):=fS;dsimp only;generalize upd H l1 _=H1 at T1 e1⊢;refine⟨_,v,d,rfl,⟨a2,c2,rfl,T1 _ _ ea2,T1 _ _ ec2⟩,fun H2 ah ch N2=>⟨lZ,fun l2 h2=>?_⟩⟩;have T2:=fW h2 (.lst [x,.ref ah]);have T12:=T1.trans (N2.sm.trans T2);have ixA:=ix.same T12;have ihA:ItA (upd H2 l2 (.lst [x,.ref ah])) (.ref ah) (lF d v):=N2.it.same T2;have e2:(upd H2 l2 (.lst [x,.ref ah])) l2=some (.lst [x,.ref ah]):=fS;have e12:=(N2.sm.trans T2) _ _ e1;dsimp only;generalize upd H2 l2 _=H3 at T12 ixA ihA e2 e12⊢;refine⟨_,T12 _ _ ea2,fY (fV (j:=6) rfl) ⟨_,T12 _ _ ea2,fY (fV (j:=7) rfl) ?_⟩⟩;have lw:=(pQ (hw.n w0 (aP ew))).2;refine⟨l1,l2,[some "let",some w0,none,none],_,[b,lF d v],d.sh,d.mo,rfl,e12,e2,.cons ixA (.cons ihA .nil),(by show 2<=2;decide),rfl,(by show 4<=8;decide),ki gA (ki (by lia) (jC (jC mW))),fun t ht=>?_,fun H4 a cs N=>?_⟩
 ·rcases ak.mp ht with rfl|ht;·exact lb
  ·rw[bj.mp ht];exact ld
 dsimp only[gP];have S4:=T12.trans N.sm;obtain⟨a1,c1,rfl,ea1,ec1⟩:=ix;have na:H a=none:=T12.free N.na;refine⟨_,S4 _ _ ea2,fY (fV (j:=3) rfl) ⟨_,S4 _ _ ec2,fY (at3 hv) ?_⟩⟩;dsimp only[gP];refine⟨_,N.ea,fY (fV (j:=2) rfl) ⟨_,S4 _ _ ea1,fY (fV (j:=2) rfl) ⟨.inl ⟨by lia,by lia⟩,?_⟩⟩⟩;refine⟨a,_,2,2,rfl,rfl,N.ea,rfl,?_⟩;let I:=kO [some "let",some w0,none,none] [b,lF d v] d.sh d.mo;have F5:∀{p:Zx} {o:HO},H p=some o->(MB H4 a (.lst ((itV I cs).set 2 (.int ((I.wt:Int)+(d.mn v:Int)*(b.wt:Int)))))) p=some o:=fun e=>by rw[f9 (fZ e na)];exact S4 _ _ e
 have ea5:(MB H4 a (.lst ((itV I cs).set 2 (.int ((I.wt:Int)+(d.mn v:Int)*(b.wt:Int)))))) a=some (.lst ((itV I cs).set 2 (.int ((I.wt:Int)+(d.mn v:Int)*(b.wt:Int))))):=fS;have ec5:(MB H4 a (.lst ((itV I cs).set 2 (.int ((I.wt:Int)+(d.mn v:Int)*(b.wt:Int)))))) cs=some (.lst (cV3 I.mn)):=by rw[f9 N.ne.symm];exact N.ec
 show xh _ _ _ _ (MB H4 a (.lst ((itV I cs).set 2 (.int ((I.wt:Int)+(d.mn v:Int)*(b.wt:Int))))));generalize(MB H4 a (.lst ((itV I cs).set 2 (.int ((I.wt:Int)+(d.mn v:Int)*(b.wt:Int))))))=H5 at F5 ea5 ec5;refine⟨3,rfl,by decide,by decide,fun D hD=>?_⟩;refine rR 3 (by lia) (fun zs H6=>zs=(cV3 (B5 w0 v b d).mn).take zs.length) (fun _ _ _ h _=>h) hD rfl (fun k _ _ h=>h) (fun _ _=>cH _) rfl ?_ ?_;·rintro k H6 x H7 zs Z S6 hk ⟨rfl,rfl⟩ hz lz kZ;subst lz;have mk:=mb.2 zs.length;refine⟨_,S6 _ _ ea5,fY (fV (j:=3) rfl) ⟨_,S6 _ _ ec5,fY (Gj hk) ?_⟩⟩;refine⟨_,S6 _ _ (F5 ea1),fY (fV (j:=3) rfl) ⟨_,S6 _ _ (F5 ec1),fY (Gj hk) ⟨.inl ⟨by lia,by lia⟩,?_⟩⟩⟩;refine kZ _ _ (fun _ _ e=>e) ?_;rw[aQ,ba,Dl hk,<-hz];show zs++[.int ((I.mn zs.length:Int)+(d.mn v:Int)*(b.mn zs.length:Int))]=zs++[.int ((I.mn zs.length+d.mn v*b.mn zs.length:Nat):Int)];rw[fB,Int.natCast_mul]
 ·intro H6 zs S6 hz lz ez;rw[lz]at hz;have hz:zs=cV3 (B5 w0 v b d).mn:=hz;subst hz;have ea6:=S6 _ _ ea5;refine⟨a,_,3,3,rfl,rfl,ea6,rfl,?_⟩;have nea:D≠a:=fun z=>by rw[z,ea5]at hD;cases hD
  refine q _ _ (fun p o e=>by rw[f9 (fZ e na)];exact S6 _ _ (F5 e)) ⟨a,D,rfl,?_,by rw[f9 nea];exact ez⟩;rw[fS];have e:((B5 w0 v b d).wt:Int)=(I.wt:Int)+(d.mn v:Int)*(b.wt:Int):=by show((I.wt+d.mn v*b.wt:Nat):Int)=_;rw[fB,Int.natCast_mul]
  unfold itV;rw[e];rfl
open TM.Internal (Kn Tr)
def lc6 {l:Nat} (h:l<=12):l<=200000:=by lia
def z7 {A u:TS} {D:pT} {σ:St} {H:Hp} {i:Nat} {a cs:Zx} {it:It} {x:Str} (hσ:σ[i]?=some (some (.ref a))) (ea:H a=some (.lst (itV it cs))) (k1:it.sh=x->A {D with nx:=u D} σ H) (k2:it.sh≠x->u D σ H):xh (z9 (cT (tOp (cEq false) (tOp Hl (cV i) (tC (.int 6))) (tC (.str x)))) A lO) u D σ H:=by
 show onV σ[i]? _;rw[hσ];refine⟨_,ea,fY (fV (j:=6) rfl) ?_⟩;dsimp only[tC,cEq,onB];rw[eZ];by_cases h:it.sh=x;·rw[gM h];exact iC (k1 h)
 ·rw[gQ h];exact gX (k2 h)
theorem z6.same {H H':Hp} {xs:List V} {its:List It} (h:z6 H xs its) (S:gE H H'):z6 H' xs its:=by
 induction h with
 |nil=>exact .nil
 |cons h r i=>exact .cons (h.same S) i
def Wd.at {H:Hp} {wl:Zx} {ws:Zd} (hw:Wd H wl ws) {k:Nat} (hk:k<16):∃w,ws[k]?=some w/\(ws.map V.str)[k]?=some (.str w)/\MK w=true/\w.length<=12:=by have l:=hw.l;have e:ws[k]?=some (ws[k]'(by lia)):=bE _;exact⟨_,e,by rw[aO,e];rfl,hw.n _ (aP e),(pQ (hw.n _ (aP e))).2⟩
def Wd.same {H H':Hp} {wl:Zx} {ws:Zd} (hw:Wd H wl ws) (S:gE H H'):Wd H' wl ws:=⟨S _ _ hw.e,hw.l,hw.n,hw.d⟩
def t1 {a:It} (h:a.tx.length<=200000):∀t∈[a],t.tx.length<=200000:=fun t ht=>by rw[bj.mp ht];exact h
def t2 {a b:It} (h:a.tx.length<=200000) (h':b.tx.length<=200000):∀t∈[a,b],t.tx.length<=200000:=fun t ht=>(ak.mp ht).elim (fun e=>e▸h) (t1 h' t)
def t3 {a b c:It} (h:a.tx.length<=200000) (h':b.tx.length<=200000) (h'':c.tx.length<=200000):∀t∈[a,b,c],t.tx.length<=200000:=fun t ht=>(ak.mp ht).elim (fun e=>e▸h) (t2 h' h'' t)
def s4 {s:Str} (h:s.length<=12:=by decide+kernel):s.length<=200000:=by lia
def B8 {n:Int} (h0:0<=n) (h1:n<10^60):(nuI n).tx.length<=200000:=Gd.tx (ws:=[]) (m:=0) (nuI.gd h0 h1) (by show 1<=2000;decide)
def i7 {H:Hp} {l1 l2:Zx} (p:List (Option Str)) {xs:List V} {its:List It} {sh mo:Str} {Q:VK} (h1:H l1=none) (h2:(MB H l1 (.lst (p.map oV))) l2=none) (ix:z6 H xs its) (hc:cN p=its.length) (l8:p.length<=8) (hw:∀w,some w∈p->w.length<=200000) (ht:∀t∈its,t.tx.length<=200000) (q:∀H' z,gE H H'->ItA H' z (kO p its sh mo)->Q z H'):FX [.ref l1,.ref l2,.str sh,.str mo] (MB (MB H l1 (.lst (p.map oV))) l2 (.lst xs)) Q E0:=by have T1:=fW h1 (.lst (p.map oV));have T2:=fW h2 (.lst xs);have T:=T1.trans T2;have is:z6 (MB (MB H l1 (.lst (p.map oV))) l2 (.lst xs)) xs its:=ix.same T;exact⟨l1,l2,p,xs,its,sh,mo,rfl,T2 _ _ fS,fS,is,cK hc,hc,l8,hw,ht,fun H' a cs N=>q H' _ (T.trans N.sm) N.it⟩
inductive XBs (vs:List V) (H:Hp) (Q:VK):Prop
 |mk (wl:Zx) (ws:Zd) (m:Nat) (x:V) (it:It) (c:Int) (e:vs=[.ref wl,x,.int c]) (hw:Wd H wl ws) (hm:m<=12) (ix:ItA H x it) (g:Gd ws m it) (lp:it.pl<=200) (lm:it.wt<=10000) (q:∀H' z jt,gE H H'->ItA H' z jt->Gd ws m jt->Q z H')
def Kf:Sp:=fun vs H Q _=>XBs vs H Q
def qZ (T:Txt K mg):FO P w base 4 T.d44 Kf:=by
 have gD39:=jK (P:=P) (w:=w) (base:=base) T;refine T.d44.F.rd i9 fun cdv A0 outer s H vs Q E hr h=>?_;obtain⟨wl,ws,m,x,it,c,rfl,hw,hm,⟨a,cs,rfl,ea,ec⟩,⟨t,g⟩,lp,lm,q⟩:=h;refine⟨_,(fN (pS (i:=3) i9.nd (pF T.d43 (jG T) hr.m (fM (cv 2) fO)))
  (fN (gJ (gb iA (gf f7 (cv 1) fQ) fX)
   (fU (gj (pF T.d39 gD39 hr.m (fM (gq (fM (gf f7 (gq (fM fX (fM fX fO))) (gB hG (cv 2) fQ)) (fM gR (fM gR fO)))) (fM (gq (fM (cv 1) (fM (cv 3) fO))) (fM fX (fM fX fO)))))))
   gi)
  (fN (gJ (gb iA (gf f7 (cv 1) fQ) fX)
   (fU (gj (pF T.d39 gD39 hr.m (fM (gq (fM fX (fM gR (fM gR fO)))) (fM (gq (fM (cv 1) (fM (cv 3) fO))) (fM fX (fM fX fO)))))))
   gi)
  (fN (gJ (gb iA (gf f7 (cv 1) fQ) fX)
   (fU (gj (pF T.d39 gD39 hr.m (fM (gq (fM fX (fM gR (fM (gf f7 (cv 1) fQ) fO)))) (fM (gq (fM (cv 1) fO)) (fM fX (fM fX fO)))))))
   gi)
  (fN (gJ (gb iA (gf f7 (cv 1) fQ) fX)
   (fN (pS (i:=4) i9.nd (pF T.d38 (jJ T) hr.m (fM (gf f7 (cv 0) (gB hG (cv 2) fQ)) (fM fQ (fM fX (fM fX fO))))))
   (fU (gj (pF T.d39 gD39 hr.m (fM (gq (fM fX (fM gR (fM (gf f7 (cv 1) fQ) (fM (gf f7 (cv 0) (gB hG (cv 2) fQ)) (fM gR fO)))))) (fM (gq (fM (cv 1) (fM (cv 4) fO))) (fM fX (fM fX fO))))))))
   gi)
  (fN (gJ (gb iA (gf f7 (cv 1) fQ) fX)
   (fN (pS (i:=4) i9.nd (pF T.d38 (jJ T) hr.m (fM (gf f7 (cv 0) (gB hG (cv 2) fQ)) (fM fQ (fM fX (fM (gf f7 (cv 0) fQ) fO))))))
   (fN (pS (i:=5) i9.nd (gq (fM fX (fM gR (fM fX (fM (gf f7 (cv 0) (gB hG (cv 2) fQ)) (fM gR (fM fX (fM (gf f7 (cv 0) fQ) (fM gR fO))))))))))
   (fU (gj (pF T.d39 gD39 hr.m (fM (cv 5) (fM (gq (fM (cv 1) (fM (cv 4) (fM (cv 3) fO)))) (fM fX (fM fX fO)))))))))
   gi)
  (fN (gJ (gb iA (gf f7 (cv 1) fQ) fX)
   (fU (gj (pF T.d39 gD39 hr.m (fM (gq (fM fX (fM gR fO))) (fM (gq (fM (cv 1) fO)) (fM fX (fM fX fO)))))))
   gi)
  (fU (gj (pF T.d41 (sU T) hr.m (fM (cv 0) (fM (gB hG (cv 2) fQ) (fM (cv 3) (fM (cv 1) fO)))))))))))))),?_⟩;have sl:=Lc;have tx:=(Gd.tx ⟨t,g⟩ (by lia):it.tx.length<=200000);refine⟨c,rfl,fun H1 az cz n n0 n1 N=>?_⟩;dsimp only[gP];have zg:=sR (ws:=ws) (m:=m) n0 n1;have S1:=N.sm;have iz:=N.it;have ea1:=S1 _ _ ea;have ec1:=S1 _ _ ec;have g:=JN.mk g.j g.n;have hw1:=hw.same S1;have nt:=B8 n0 n1;obtain⟨k,ek,hk⟩:=emN c (show(0:Int)<3 by decide);obtain⟨w0,ew,ev,nw,lw⟩:=hw1.at (show k<16 by lia);obtain⟨x0,ex0,exv,nx0,lx0⟩:=hw1.at (show 0<16 by decide);have ia:ItA H1 (.ref a) it:=⟨a,cs,rfl,ea1,ec1⟩;refine z7 rfl ea1 (fun hs=>?_) fun _=>?_
 ·obtain⟨j,ej,hj⟩:=emN c (show(0:Int)<2 by decide);obtain⟨o,eo,ho,hh,lo⟩:∃o:Str,([V.str "add",V.str "sub"]:List V)[j]?=some (.str o)/\(o,2)∈MH/\o∈vi/\o.length<=12:=by
   match j,hj with
   |0,_=>exact⟨_,rfl,gA,gA,gA⟩
   |1,_=>exact⟨_,rfl,gA,gA,gA⟩
  refine⟨lZ,fun p0 h0=>⟨(show(0:Int)<2 by decide),?_⟩⟩;dsimp only;rw[ej];have T0:=fW h0 (.lst [.str "add",.str "sub"]);refine⟨_,fS,fY (fV eo) ⟨kP,fun l1 h1=>⟨lZ,fun l2 h2=>?_⟩⟩⟩;exact i7 [some o,none,none] h1 h2 (.cons (ia.same T0) (.cons (iz.same T0) .nil)) rfl (lb rfl) (ki (lc6 lo) (jC (jC mW))) (t2 tx nt) fun H' z S i=>q H' z _ (S1.trans (T0.trans S)) i ⟨_,oh ho hh g zg zh⟩
 refine z7 rfl ea1 (fun hs=>?_) fun _=>?_;·refine⟨kP,fun l1 h1=>⟨lZ,fun l2 h2=>?_⟩⟩;exact i7 [some "call",none,none] h1 h2 (.cons ia (.cons iz .nil)) rfl (lb rfl) (ki s4 (jC (jC mW))) (t2 tx nt) fun H' z S i=>q H' z _ (S1.trans S) i ⟨_,oh gA gA g zg mV⟩
 refine z7 rfl ea1 (fun hs=>?_) fun _=>?_;·have nm:=g.j.mo (.inl hs);have lm:=(pQ nm).2;refine⟨_,ea1,fY (fV (j:=7) rfl) ⟨kP,fun l1 h1=>⟨yo,fun l2 h2=>?_⟩⟩⟩;exact i7 [some "get",none,some it.mo] h1 h2 (.cons ia .nil) rfl (lb rfl) (ki s4 (jC (ki (lc6 lm) mW))) (t1 tx) fun H' z S i=>q H' z _ (S1.trans S) i ⟨_,Ea g nm⟩
 refine z7 rfl ea1 (fun hs=>?_) fun _=>?_;·have nm:=g.j.mo (.inr hs);have lm:=(pQ nm).2;refine⟨(show(0:Int)<3 by decide),?_⟩;dsimp only;rw[ek];refine⟨_,hw1.e,fY (fV ev) ⟨_,_,_,1,rfl,fun H2 ar cr N2=>?_⟩⟩;dsimp only[gP];refine⟨_,N2.sm _ _ ea1,fY (fV (j:=7) rfl) ⟨(show(0:Int)<3 by decide),?_⟩⟩;dsimp only;rw[ek];refine⟨_,N2.sm _ _ hw1.e,fY (fV ev) ⟨KA,fun l1 h1=>⟨lZ,fun l2 h2=>?_⟩⟩⟩;exact i7 [some "case",none,some it.mo,some w0,none] h1 h2 (.cons (ia.same N2.sm) (.cons N2.it .nil)) rfl (lb rfl) (ki s4 (jC (ki (lc6 lm) (ki (lc6 lw) (jC mW))))) (t2 tx (lc6 lw)) fun H' z S i=>q H' z _ (S1.trans (N2.sm.trans S)) i ⟨_,Dj g ⟨qP nw mV (fun _=>cJ _),qQ (.inl rfl)⟩ nm nw⟩
 refine z7 rfl ea1 (fun hs=>?_) fun _=>?_;·refine⟨(show(0:Int)<3 by decide),?_⟩;dsimp only;rw[ek];refine⟨_,hw1.e,fY (fV ev) ⟨_,hw1.e,fY (fV exv) ⟨_,_,_,1,rfl,fun H2 ar cr N2=>?_⟩⟩⟩;dsimp only[gP];refine⟨(show(0:Int)<3 by decide),?_⟩;dsimp only;rw[ek];refine⟨_,N2.sm _ _ hw1.e,fY (fV ev) ⟨_,N2.sm _ _ hw1.e,fY (fV exv) ⟨IG,fun l1 h1=>?_⟩⟩⟩;dsimp only[gP];refine⟨kP,fun l2 h2=>?_⟩;exact i7 [some "case",none,some "yes",some w0,none,some "no",some x0,none] h1 h2 (.cons (ia.same N2.sm) (.cons N2.it (.cons (iz.same N2.sm) .nil))) rfl (lb rfl) (ki s4 (jC (ki s4 (ki (lc6 lw) (jC (ki s4 (ki (lc6 lx0) (jC mW)))))))) (t3 tx (lc6 lw) nt) fun H' z S i=>q H' z _ (S1.trans (N2.sm.trans S)) i ⟨_,zk g ⟨qP nw (fun _=>nx0) (fun _=>cJ _),qQ (.inl rfl)⟩ (zg.kid _) gA nw gA nx0 gA mV⟩
 refine z7 rfl ea1 (fun hs=>?_) fun _=>?_;·refine⟨lZ,fun l1 h1=>⟨yo,fun l2 h2=>?_⟩⟩;exact i7 [some "size",none] h1 h2 (.cons ia .nil) rfl (lb rfl) (ki s4 (jC mW)) (t1 tx) fun H' z S i=>q H' z _ (S1.trans S) i ⟨_,Ij gA gA g zh⟩
 refine⟨(show(0:Int)<3 by decide),?_⟩;dsimp only;rw[ek];have mw:=g.j.mw k;exact⟨wl,ws,k,w0,.ref az,.ref a,nuI n,it,rfl,hw1,by lia,ew,iz,ia,nt,tx,⟨by show 1<=1000000;decide,fun _=>cJ _⟩,by lia,fun H' z S i=>q H' z _ (S1.trans S) i ⟨_,Eb zg g ew nw⟩⟩
open TM.Internal (Kn Tr)
def B9 {ws:Zd} (d:ws.Nodup) {i j:Nat} {x y:Str} (hx:ws[i]?=some x) (hy:ws[j]?=some y) (n:i≠j):x≠y:=fun z=>by subst z;exact n ((List.getElem?_inj (au.mp hx).1 d).mp (hx.trans hy.symm))
def zl {t u:TS} {D:pT} {σ:St} {H:Hp} (N:St->Hp->Prop) (k:∀σ' H',N σ' H'->u D σ' H') (w:∀nx:St->Hp->Prop,(∀σ' H',N σ' H'->nx σ' H')->t {D with nx:=nx} σ H):xh t u D σ H:=w (u D) k
def Ca {A:TS} {u:TS} {D:pT} {σ:St} {H:Hp} {i:Nat} {o n:Int} (hσ:σ[i]?=some (some (.int o))) (k1:o=n->A {D with nx:=u D} σ H) (k2:o≠n->u D σ H):xh (z9 (cT (tOp (cEq false) (cV i) (tC (.int n)))) A lO) u D σ H:=by
 show onV σ[i]? _;rw[hσ];show if(false ^^ decide (o=n))=true then _ else _;by_cases z:o=n;·rw[gM z];exact iC (k1 z)
 ·rw[gQ z];exact gX (k2 z)
def Kg {A:TS} {u:TS} {D:pT} {σ:St} {H:Hp} {i:Nat} {o n:Int} (hσ:σ[i]?=some (some (.int o))) (k1:o<n->A {D with nx:=u D} σ H) (k2:¬o<n->u D σ H):xh (z9 (cT (tOp (cI0 fun i j=>V.bl (decide (i<j))) (cV i) (tC (.int n)))) A lO) u D σ H:=by
 show onV σ[i]? _;rw[hσ];show if decide (o<n)=true then _ else _;by_cases z:o<n;·rw[gM z];exact iC (k1 z)
 ·rw[gQ z];exact gX (k2 z)
inductive XOd (vs:List V) (H:Hp) (Q:VK):Prop
 |mk (wl:Zx) (ws:Zd) (m:Nat) (x y:V) (it jt:It) (c:Int) (e:vs=[.ref wl,x,.int c,y]) (hw:Wd H wl ws) (ix:ItA H x it) (iy:ItA H y jt) (g:Gd ws m it) (g':Gd ws m jt) (lp:it.pl<=200) (lq:jt.pl<=200) (q:∀H' z kt,gE H H'->ItA H' z kt->Gd ws m kt->Q z H')
def Kh:Sp:=fun vs H Q _=>XOd vs H Q
def yn (T:Txt K mg):FO P w base 4 T.d45 Kh:=by
 have gD39:=jK (P:=P) (w:=w) (base:=base) T;refine T.d45.F.rd sj fun cdv A0 outer s H vs Q E hr h=>?_;obtain⟨wl,ws,m,x,y,it,jt,c,rfl,hw,ix,iy,⟨t,g⟩,⟨u,g'⟩,lp,lq,q⟩:=h;refine⟨_,(fN (gJ (gb iA (gB hG (cv 2) fQ) fQ)
   (fU (gj (pF T.d39 gD39 hr.m (fM (gq (fM fX (fM gR (fM (gf f7 (cv 0) (gB hG (gB jh (cv 2) fQ) fQ)) fO)))) (fM (gq (fM (cv 1) fO)) (fM fX (fM fX fO)))))))
   gi)
  (fN (gJ (gb iA (gB hG (cv 2) fQ) fQ)
   (fN (pS (i:=4) sj.nd (pF T.d40 (lN T) hr.m (fM (cv 1) (fM (gB hG (gB jh (cv 2) fQ) fQ) fO))))
   (fU (gj (pF T.d39 gD39 hr.m (fM (gq (fM fX (fM gR (fM (gf f7 (cv 0) fQ) (fM (gf f7 (cv 0) (gB hG (gB jh (cv 2) fQ) fQ)) (fM gR (fM (gf f7 (cv 0) fQ) (fM (gf f7 (cv 0) fQ) (fM gR fO))))))))) (fM (gq (fM (cv 3) (fM (cv 4) (fM (pF T.d43 (jG T) hr.m (fM (cv 2) fO)) fO)))) (fM (gf f7 (cv 1) fQ) (fM (gf f7 (cv 1) fQ) fO))))))))
   gi)
  (fN (gJ (gb iA (gB hG (cv 2) fQ) fQ)
   (fU (gj (pF T.d39 gD39 hr.m (fM (gq (fM fX (fM gR (fM gR (fM gR fO))))) (fM (gq (fM (cv 3) (fM (pF T.d43 (jG T) hr.m (fM (gB hG (gB jh (cv 2) fQ) fQ) fO)) (fM (cv 1) fO)))) (fM fX (fM fX fO)))))))
   gi)
  (fN (gJ (gb iA (gB hG (cv 2) fQ) fQ)
   (fU (gj (pF T.d39 gD39 hr.m (fM (gq (fM fX (fM gR (fM gR fO)))) (fM (gq (fM (cv 3) (fM (cv 1) fO))) (fM fX (fM fX fO)))))))
   gi)
  (fU (gj (pF T.d39 gD39 hr.m (fM (gq (fM fX (fM gR (fM gR fO)))) (fM (gq (fM (cv 3) (fM (cv 1) fO))) (fM fX (fM fX fO))))))))))),?_⟩;have sl:=Lc;have tx:=(Gd.tx ⟨t,g⟩ (by lia):it.tx.length<=200000);have ty:=(Gd.tx ⟨u,g'⟩ (by lia):jt.tx.length<=200000);obtain⟨x0,ex0,exv,nx0,lx0⟩:=hw.at (show 0<16 by decide);obtain⟨x1,ex1,exv1,nx1,lx1⟩:=hw.at (show 1<16 by decide);obtain⟨x2,ex2,exv2,nx2,lx2⟩:=hw.at (show 2<16 by decide);refine⟨(show(0:Int)<5 by decide),?_⟩;show if(false ^^ decide (c%5=0))=true then _ else _;by_cases z:c%5=0;·rw[gM z];obtain⟨k,ek,hk⟩:=emN (c/5) (show(0:Int)<5 by decide);obtain⟨w0,ew,ev,nw,lw⟩:=hw.at (show k<16 by lia);refine iC ⟨⟨by decide,by decide⟩,(show(0:Int)<5 by decide),?_⟩;dsimp only;rw[ek];refine⟨_,hw.e,fY (fV ev) ⟨kP,fun l1 h1=>⟨yo,fun l2 h2=>?_⟩⟩⟩;exact i7 [some "get",none,some w0] h1 h2 (.cons ix .nil) rfl (lb rfl) (ki s4 (jC (ki (lc6 lw) mW))) (t1 tx) fun H' z S i=>q H' z _ S i ⟨_,Ea g nw⟩
 rw[gQ z];refine gX ⟨(show(0:Int)<5 by decide),?_⟩;show if(false ^^ decide (c%5=1))=true then _ else _;by_cases z:c%5=1;·rw[gM z];obtain⟨k,ek,hk⟩:=emN (c/5) (show(0:Int)<3 by decide);obtain⟨w0,ew,ev,nw,lw⟩:=hw.at (show k<16 by lia);refine iC ⟨⟨by decide,by decide⟩,(show(0:Int)<3 by decide),?_⟩;dsimp only;rw[ek];refine⟨x,k,it,rfl,ix,fun H1 ah ch N1=>?_⟩;dsimp only[gP];have S1:=N1.sm;have hw1:=hw.same S1;refine⟨_,hw1.e,fY (fV exv) ⟨⟨by decide,by decide⟩,(show(0:Int)<3 by decide),?_⟩⟩;dsimp only;rw[ek];refine⟨_,hw1.e,fY (fV ev) ⟨_,hw1.e,fY (fV exv1) ⟨_,hw1.e,fY (fV exv2) ⟨IG,fun l1 h1=>?_⟩⟩⟩⟩;have T1:=fW h1 (.lst [.str "case",.non,.str x0,.str w0,.non,.str x1,.str x2,.non]);refine⟨c,rfl,fun H2 az cz n n0 n1 N2=>⟨kP,fun l2 h2=>?_⟩⟩;have S2:=S1.trans (T1.trans N2.sm);have T2:=fW h2 (.lst [y,.ref ah,.ref az]);obtain⟨a,cs,rfl,ea,ec⟩:=ix;refine⟨_,T2 _ _ (S2 _ _ ea),fY (fV (j:=6) rfl) ⟨_,T2 _ _ (S2 _ _ ea),fY (fV (j:=7) rfl) ?_⟩⟩;refine⟨l1,l2,[some "case",none,some x0,some w0,none,some x1,some x2,none],_,[jt,lF it k,nuI n],it.sh,it.mo,rfl,T2 _ _ (N2.sm _ _ fS),fS,.cons ((iy.same S2).same T2) (.cons (((N1.it.same T1).same N2.sm).same T2) (.cons (N2.it.same T2) .nil)),(lb rfl),rfl,(lb rfl),ki s4 (jC (ki (lc6 lx0) (ki (lc6 lw) (jC (ki (lc6 lx1) (ki (lc6 lx2) (jC mW))))))),t3 ty tx (B8 n0 n1),fun H3 b cb N3=>?_⟩;exact q H3 _ _ (S2.trans (T2.trans N3.sm)) N3.it ⟨_,zk g' (g.bind ew) ((sR n0 n1).kid _) nx0 nw nx1 nx2 (B9 hw.d ex0 ex1 (by decide)) g.j.mo⟩
 rw[gQ z];refine gX ⟨(show(0:Int)<5 by decide),?_⟩;show if(false ^^ decide (c%5=2))=true then _ else _;by_cases z:c%5=2;·rw[gM z];refine iC ⟨F9,fun l1 h1=>⟨⟨by decide,by decide⟩,(show(0:Int)<4 by decide),?_⟩⟩;have T1:=fW h1 (.lst [.str "at",.non,.non,.non]);refine⟨_,rfl,fun H2 az cz n n0 n1 N2=>⟨kP,fun l2 h2=>?_⟩⟩;have S2:=T1.trans N2.sm;have T2:=fW h2 (.lst [y,.ref az,x]);refine⟨l1,l2,[some "at",none,none,none],_,[jt,nuI n,it],_,_,rfl,T2 _ _ (N2.sm _ _ fS),fS,.cons ((iy.same S2).same T2) (.cons (N2.it.same T2) (.cons ((ix.same S2).same T2) .nil)),(lb rfl),rfl,(lb rfl),ki s4 (jC (jC (jC mW))),t3 ty (B8 n0 n1) tx,fun H3 b cb N3=>?_⟩;exact q H3 _ _ (S2.trans (T2.trans N3.sm)) N3.it ⟨_,Ik g' (sR n0 n1) g⟩
 rw[gQ z];refine gX ⟨(show(0:Int)<5 by decide),?_⟩;show if(false ^^ decide (c%5=3))=true then _ else _;by_cases z:c%5=3;·rw[gM z];refine iC ⟨kP,fun l1 h1=>⟨lZ,fun l2 h2=>?_⟩⟩;exact i7 [some "call",none,none] h1 h2 (.cons iy (.cons ix .nil)) rfl (lb rfl) (ki s4 (jC (jC mW))) (t2 ty tx) fun H' z S i=>q H' z _ S i ⟨_,oh gA gA g' g mV⟩
 rw[gQ z];refine gX ⟨kP,fun l1 h1=>⟨lZ,fun l2 h2=>?_⟩⟩;exact i7 [some "join",none,none] h1 h2 (.cons iy (.cons ix .nil)) rfl (lb rfl) (ki s4 (jC (jC mW))) (t2 ty tx) fun H' z S i=>q H' z _ S i ⟨_,oh gA gA g' g zi⟩
inductive XSi (vs:List V) (H:Hp) (Q:VK):Prop
 |mk (wl:Zx) (ws:Zd) (m:Nat) (x:V) (it:It) (o c:Int) (e:vs=[.ref wl,.int o,.int c,x]) (hw:Wd H wl ws) (hm:m<=12) (ix:ItA H x it) (g:Gd ws m it) (lp:it.pl<=200) (lm:it.wt<=10000) (q:∀H' z jt,gE H H'->ItA H' z jt->Gd ws m jt->Q z H')
def Ki:Sp:=fun vs H Q _=>XSi vs H Q
def tJ (T:Txt K mg):FO P w base 5 T.d47 Ki:=by
 have gD39:=jK (P:=P) (w:=w) (base:=base) T;refine T.d47.F.rd nU fun cdv A0 outer s H vs Q E hr h=>?_;obtain⟨wl,ws,m,x,it,o,c,rfl,hw,hm,ix,⟨t,g⟩,lp,lm,q⟩:=h;refine⟨_,(fN (gJ (gb tm (cv 1) fQ)
   (fN (pS (i:=4) nU.nd (pF T.d40 (lN T) hr.m (fM (cv 3) (fM (gB hG (cv 2) fQ) fO))))
   (fU (gj (pF T.d39 gD39 hr.m (fM (gq (fM fX (fM (gf f7 (cv 0) (gB hG (cv 2) fQ)) (fM gR fO)))) (fM (gq (fM (cv 4) fO)) (fM fX (fM fX fO))))))))
   gi)
  (fN (gJ (gb tm (cv 1) fQ)
   (fU (gj (pF T.d44 (qZ T) hr.m (fM (cv 0) (fM (cv 3) (fM (cv 2) fO))))))
   gi)
  (fN (gJ (gb iA (cv 1) fQ)
   (fU (gj (pF T.d39 gD39 hr.m (fM (gq (fM fX (fM (gf f7 (cv 0) (gB hG (cv 2) fQ)) (fM gR fO)))) (fM (gq (fM (cv 3) fO)) (fM fX (fM (gf f7 (cv 0) (gB hG (cv 2) fQ)) fO)))))))
   gi)
  (fN (gJ (gb iA (cv 1) fQ)
   (fU (gj (pF T.d39 gD39 hr.m (fM (gq (fM fX (fM (gf f7 (cv 0) (gB hG (cv 2) fQ)) (fM gR fO)))) (fM (gq (fM (cv 3) fO)) (fM fX (fM (gf f7 (cv 0) (gB hG (cv 2) fQ)) fO)))))))
   gi)
  (fN (gJ (gb iA (cv 1) fQ)
   (fU (gj (pF T.d39 gD39 hr.m (fM (gq (fM fX (fM gR fO))) (fM (gq (fM (cv 3) fO)) (fM fX (fM fX fO)))))))
   gi)
  (fN (gJ (gb iA (gB hG (cv 2) fQ) fQ)
   (fU (gj (pF T.d38 (jJ T) hr.m (fM fX (fM fQ (fM fX (fM (gf f7 (cv 0) fQ) fO)))))))
   gi)
  (fU (gj (pF T.d38 (jJ T) hr.m (fM fX (fM fQ (fM fX (fM fX fO))))))))))))),?_⟩;have sl:=Lc;have tx:=(Gd.tx ⟨t,g⟩ (by lia):it.tx.length<=200000);obtain⟨k,ek,hk⟩:=emN c (show(0:Int)<3 by decide);obtain⟨w0,ew,ev,nw,lw⟩:=hw.at (show k<16 by lia);obtain⟨k5,ek5,hk5⟩:=emN c (show(0:Int)<5 by decide);obtain⟨w5,ew5,ev5,nw5,lw5⟩:=hw.at (show k5<16 by lia);obtain⟨x0,ex0,exv,nx0,lx0⟩:=hw.at (show 0<16 by decide);show if decide (o<13)=true then _ else _;by_cases z:o<13;·rw[gM z];refine iC ⟨(show(0:Int)<3 by decide),?_⟩;dsimp only;rw[ek];refine⟨x,k,it,rfl,ix,fun H1 ah ch N1=>?_⟩;dsimp only[gP];refine⟨(show(0:Int)<3 by decide),?_⟩;dsimp only;rw[ek];refine⟨_,N1.sm _ _ hw.e,fY (fV ev) ⟨kP,fun l1 h1=>⟨yo,fun l2 h2=>?_⟩⟩⟩;exact i7 [some "fn",some w0,none] h1 h2 (.cons N1.it .nil) rfl (lb rfl) (ki s4 (ki (lc6 lw) (jC mW))) (t1 tx) fun H' z S i=>q H' z _ (N1.sm.trans S) i ⟨_,Di (g.bind ew) nw⟩
 rw[gQ z];refine gX ?_;show if decide (o<27)=true then _ else _;by_cases z:o<27;·rw[gM z];exact iC ⟨wl,ws,m,x,it,c,rfl,hw,hm,ix,⟨t,g⟩,lp,lm,q⟩
 rw[gQ z];refine gX ?_;show if(false ^^ decide (o=27))=true then _ else _;by_cases z:o=27;·rw[gM z];refine iC ⟨(show(0:Int)<3 by decide),?_⟩;dsimp only;rw[ek];refine⟨_,hw.e,fY (fV ev) ⟨kP,fun l1 h1=>⟨yo,fun l2 h2=>⟨(show(0:Int)<3 by decide),?_⟩⟩⟩⟩;dsimp only;rw[ek];refine⟨_,((fW h1 _).trans (fW h2 _)) _ _ hw.e,fY (fV ev) ?_⟩;exact i7 [some "tag",some w0,none] h1 h2 (.cons ix .nil) rfl (lb rfl) (ki s4 (ki (lc6 lw) (jC mW))) (t1 tx) fun H' z S i=>q H' z _ S i ⟨_,Ii g nw⟩
 rw[gQ z];refine gX ?_;show if(false ^^ decide (o=28))=true then _ else _;by_cases z:o=28;·rw[gM z];refine iC ⟨(show(0:Int)<5 by decide),?_⟩;dsimp only;rw[ek5];refine⟨_,hw.e,fY (fV ev5) ⟨kP,fun l1 h1=>⟨yo,fun l2 h2=>⟨(show(0:Int)<5 by decide),?_⟩⟩⟩⟩;dsimp only;rw[ek5];refine⟨_,((fW h1 _).trans (fW h2 _)) _ _ hw.e,fY (fV ev5) ?_⟩;exact i7 [some "rec",some w5,none] h1 h2 (.cons ix .nil) rfl (lb rfl) (ki s4 (ki (lc6 lw5) (jC mW))) (t1 tx) fun H' z S i=>q H' z _ S i ⟨_,FL g nw5⟩
 rw[gQ z];refine gX ?_;show if(false ^^ decide (o=29))=true then _ else _;by_cases z:o=29;·rw[gM z];refine iC ⟨lZ,fun l1 h1=>⟨yo,fun l2 h2=>?_⟩⟩;exact i7 [some "row",none] h1 h2 (.cons ix .nil) rfl (lb rfl) (ki s4 (jC mW)) (t1 tx) fun H' z S i=>q H' z _ S i ⟨_,FP g⟩
 rw[gQ z];refine gX ⟨(show(0:Int)<2 by decide),?_⟩;show if(false ^^ decide (c%2=0))=true then _ else _;by_cases z:c%2=0;·rw[gM z];exact iC ⟨_,hw.e,fY (fV exv) ⟨_,_,_,1,rfl,fun H' a cs N=>q H' _ _ N.sm N.it ⟨_,zj.1 _ nx0⟩⟩⟩
 ·rw[gQ z];exact gX ⟨_,_,_,1,rfl,fun H' a cs N=>q H' _ _ N.sm N.it ⟨_,zj.2⟩⟩
inductive XPa (vs:List V) (H:Hp) (Q:VK):Prop
 |mk (wl:Zx) (ws:Zd) (m:Nat) (x y:V) (it jt:It) (o c:Int) (e:vs=[.ref wl,.int o,.int c,y,x]) (hw:Wd H wl ws) (ix:ItA H x it) (iy:ItA H y jt) (g:Gd ws m it) (g':Gd ws m jt) (lp:it.pl<=200) (lq:jt.pl<=200) (lm:it.wt<=10000) (ln:jt.wt<=10000) (q:∀H' z kt,gE H H'->ItA H' z kt->Gd ws m kt->Q z H')
def Kj:Sp:=fun vs H Q _=>XPa vs H Q
def wO (T:Txt K mg):FO P w base 5 T.d46 Kj:=by
 have gD39:=jK (P:=P) (w:=w) (base:=base) T;refine T.d46.F.rd qL fun cdv A0 outer s H vs Q E hr h=>?_;obtain⟨wl,ws,m,x,y,it,jt,o,c,rfl,hw,ix,iy,⟨t,g⟩,⟨u,g'⟩,lp,lq,lm,ln,q⟩:=h;refine⟨_,(fN (gJ (PW.pt (nR (gb tm (cv 1) fQ) (mi (PW.pt (mj (gb iA (cv 1) fQ) (mj (gb iA (gf f7 (cv 3) fQ) fX) (kW (gb iA (gf f7 (cv 3) fQ) fX))))))))
   (fU (gj (pF T.d39 gD39 hr.m (fM (gq (fM fX (fM gR (fM gR fO)))) (fM (gq (fM (cv 3) (fM (cv 4) fO))) (fM fX (fM fX fO)))))))
   gi)
  (fN (gJ (gb tm (cv 1) fQ)
   (fU (gj (pF T.d41 (sU T) hr.m (fM (cv 0) (fM (gB hG (cv 2) fQ) (fM (cv 3) (fM (cv 4) fO)))))))
   gi)
  (fN (gJ (gb iA (cv 1) fQ)
   (fN (pS (i:=5) qL.nd (gf f7 (cv 0) (gB jE fQ (gB hG (cv 2) fQ))))
   (fU (gj (pF T.d39 gD39 hr.m (fM (gq (fM fX (fM (gf f7 (cv 0) fQ) (fM gR (fM (cv 5) (fM gR fO)))))) (fM (gq (fM (cv 3) (fM (cv 4) fO))) (fM fX (fM (cv 5) fO))))))))
   gi)
  (fN (gJ (gb iA (cv 1) fQ)
   (fU (gj (pF T.d39 gD39 hr.m (fM (gq (fM fX (fM gR (fM gR fO)))) (fM (gq (fM (cv 3) (fM (cv 4) fO))) (fM fX (fM fX fO)))))))
   gi)
  (fN (gJ (gb iA (cv 1) fQ)
   (fU (gj (pF T.d39 gD39 hr.m (fM (gq (fM fX (fM gR (fM gR fO)))) (fM (gq (fM (cv 3) (fM (cv 4) fO))) (fM fX (fM fX fO)))))))
   gi)
  (fN (gJ (gb iA (cv 1) fQ)
   (fU (gj (pF T.d39 gD39 hr.m (fM (gq (fM (gf f7 (gq (fM fX (fM fX fO))) (gB hG (cv 2) fQ)) (fM gR (fM gR fO)))) (fM (gq (fM (cv 3) (fM (cv 4) fO))) (fM fX (fM fX fO)))))))
   gi)
  (fN (gJ (gb iA (cv 1) fQ)
   (fU (gj (pF T.d39 gD39 hr.m (fM (gq (fM fX (fM gR (fM gR (fM gR fO))))) (fM (gq (fM (cv 3) (fM (pF T.d43 (jG T) hr.m (fM (gB hG (cv 2) fQ) fO)) (fM (cv 4) fO)))) (fM fX (fM fX fO)))))))
   gi)
  (fU (gj (pF T.d45 (yn T) hr.m (fM (cv 0) (fM (cv 4) (fM (cv 2) (fM (cv 3) fO)))))))))))))),?_⟩;have sl:=Lc;have tx:=(Gd.tx ⟨t,g⟩ (by lia):it.tx.length<=200000);have ty:=(Gd.tx ⟨u,g'⟩ (by lia):jt.tx.length<=200000);obtain⟨x0,ex0,exv,nx0,lx0⟩:=hw.at (show 0<16 by decide);refine zl (fun σ' H'=>H'=H/\σ'=[some (.ref wl),some (.int o),some (.int c),some y,some x,none]) ?_ ?_;rotate_left
 ·intro nx hD;obtain⟨b,cb,rfl,eb,ecb⟩:=iy;have iy:ItA H (.ref b) jt:=⟨b,cb,rfl,eb,ecb⟩;have no:nx [some (.ref wl),some (.int o),some (.int c),some (.ref b),some x,none] H:=hD _ _ ⟨rfl,rfl⟩;show if decide (o<16)=true then _ else _;by_cases z:o<16
  ·rw[gM z];refine iC ?_;have ye:∀k:Bool,k=true->if k=true then Ga (Cr FX [] E0 (kI (GL (kI (tC (.str "call")) (kI (tC .non) (kI (tC .non) yt)))) (kI (GL (kI (cV 3) (kI (cV 4) yt))) (kI (tC (.str "any")) (kI (tC (.str "")) yt))))) {nx:=nx,rt:=Q} [some (.ref wl),some (.int o),some (.int c),some (.ref b),some x,none] H else lO {nx:=nx,rt:=Q} [some (.ref wl),some (.int o),some (.int c),some (.ref b),some x,none] H:=fun k hk=>by subst hk;refine iC ⟨kP,fun l1 h1=>⟨lZ,fun l2 h2=>?_⟩⟩;exact i7 [some "call",none,none] h1 h2 (.cons iy (.cons ix .nil)) rfl (lb rfl) (ki s4 (jC (jC mW))) (t2 ty tx) fun H' z S i=>q H' z _ S i ⟨_,oh gA gA g' g mV⟩
   show if(false ^^ decide (o=13))=true then _ else _;by_cases z:o=13;·rw[gM z];exact iC (ye _ rfl)
   ·rw[gQ z];refine gX ⟨_,eb,fY (fV (j:=6) rfl) ?_⟩;dsimp only[tC,cEq,onB];rw[eZ];by_cases z:jt.sh="fn";·rw[gM z];exact iC (ye _ rfl)
    ·rw[gQ z];refine gX ⟨_,eb,fY (fV (j:=6) rfl) ?_⟩;dsimp only[tC,cEq,onB];rw[eZ];by_cases z:jt.sh="any";·rw[gM z];exact ye _ rfl
     ·rw[gQ z];exact gX no
  ·rw[gQ z];exact gX (gX no)
 rintro _ H ⟨rfl,rfl⟩;obtain⟨k,ek,hk⟩:=emN c (show(0:Int)<3 by decide);obtain⟨w0,ew,ev,nw,lw⟩:=hw.at (show k<16 by lia);refine Kg rfl (fun z=>?_) fun _=>?_;·refine⟨(show(0:Int)<3 by decide),?_⟩;dsimp only;rw[ek];have mw:=g.j.mw k;exact⟨wl,ws,k,w0,y,x,jt,it,rfl,hw,by lia,ew,iy,ix,ty,tx,⟨by lia,fun v=>by have:=g'.j.mw v;lia⟩,by lia,fun H' z S i=>q H' z _ S i ⟨_,Eb g' g ew nw⟩⟩
 refine Ca rfl (fun z=>?_) fun _=>?_;·obtain⟨k4,ek4,hk4⟩:=emN c (show(0:Int)<4 by decide);obtain⟨w4,ew4,ev4,nw4,lw4⟩:=hw.at (show 1+k4<16 by lia);refine⟨(show(0:Int)<4 by decide),?_⟩;dsimp only;rw[ek4];dsimp only[cI0];rw[show(1:Int)+(k4:Int)=((1+k4:Nat):Int) by lia];refine⟨_,hw.e,fY (fV ev4) ?_⟩;dsimp only[gP];refine⟨_,hw.e,fY (fV exv) ⟨KA,fun l1 h1=>⟨lZ,fun l2 h2=>?_⟩⟩⟩;exact i7 [some "rec",some x0,none,some w4,none] h1 h2 (.cons iy (.cons ix .nil)) rfl (lb rfl) (ki s4 (ki (lc6 lx0) (jC (ki (lc6 lw4) (jC mW))))) (t2 ty tx) fun H' z S i=>q H' z _ S i ⟨_,FN g' g nx0 nw4 (B9 hw.d ex0 ew4 (by lia))⟩
 refine Ca rfl (fun z=>?_) fun _=>?_;·refine⟨kP,fun l1 h1=>⟨lZ,fun l2 h2=>?_⟩⟩;exact i7 [some "row",none,none] h1 h2 (.cons iy (.cons ix .nil)) rfl (lb rfl) (ki s4 (jC (jC mW))) (t2 ty tx) fun H' z S i=>q H' z _ S i ⟨_,FQ g' g⟩
 refine Ca rfl (fun z=>?_) fun _=>?_;·refine⟨kP,fun l1 h1=>⟨lZ,fun l2 h2=>?_⟩⟩;exact i7 [some "less",none,none] h1 h2 (.cons iy (.cons ix .nil)) rfl (lb rfl) (ki s4 (jC (jC mW))) (t2 ty tx) fun H' z S i=>q H' z _ S i ⟨_,oh gA gA g' g FJ⟩
 refine Ca rfl (fun z=>?_) fun _=>?_
 ·obtain⟨j,ej,hj⟩:=emN c (show(0:Int)<2 by decide);obtain⟨o,eo,ho,hh,lo⟩:∃o:Str,([V.str "add",V.str "sub"]:List V)[j]?=some (.str o)/\(o,2)∈MH/\o∈vi/\o.length<=12:=by
   match j,hj with
   |0,_=>exact⟨_,rfl,gA,gA,gA⟩
   |1,_=>exact⟨_,rfl,gA,gA,gA⟩
  refine⟨lZ,fun p0 h0=>⟨(show(0:Int)<2 by decide),?_⟩⟩;dsimp only;rw[ej];have T0:=fW h0 (.lst [.str "add",.str "sub"]);refine⟨_,fS,fY (fV eo) ⟨kP,fun l1 h1=>⟨lZ,fun l2 h2=>?_⟩⟩⟩;exact i7 [some o,none,none] h1 h2 (.cons (iy.same T0) (.cons (ix.same T0) .nil)) rfl (lb rfl) (ki (lc6 lo) (jC (jC mW))) (t2 ty tx) fun H' z S i=>q H' z _ (T0.trans S) i ⟨_,oh ho hh g' g zh⟩
 refine Ca rfl (fun z=>?_) fun _=>?_;·refine⟨F9,fun l1 h1=>⟨(show(0:Int)<3 by decide),?_⟩⟩;have T1:=fW h1 (.lst [.str "at",.non,.non,.non]);refine⟨_,rfl,fun H2 az cz n n0 n1 N2=>⟨kP,fun l2 h2=>?_⟩⟩;have S2:=T1.trans N2.sm;have T2:=fW h2 (.lst [y,.ref az,x]);refine⟨l1,l2,[some "at",none,none,none],_,[jt,nuI n,it],_,_,rfl,T2 _ _ (N2.sm _ _ fS),fS,.cons ((iy.same S2).same T2) (.cons (N2.it.same T2) (.cons ((ix.same S2).same T2) .nil)),(lb rfl),rfl,(lb rfl),ki s4 (jC (jC (jC mW))),t3 ty (B8 n0 n1) tx,fun H3 b cb N3=>?_⟩;exact q H3 _ _ (S2.trans (T2.trans N3.sm)) N3.it ⟨_,Ik g' (sR n0 n1) g⟩
 exact⟨wl,ws,m,x,y,it,jt,c,rfl,hw,ix,iy,⟨t,g⟩,⟨u,g'⟩,lp,lq,q⟩
open GR.Internal (isName)
open TM.Internal (Kn Tr)
structure Js (ws:Zd) (m dn:Nat) (it:It):Prop where
 g:Gd ws m it
 n:it.ne<=16
 w:it.wt<=24
 p:it.pl+dn<=140\/it.pl=1
def Js.nu {ws:Zd} {m dn:Nat} {n:Int} (h0:0<=n) (h1:n<10^60):Js ws m dn (nuI n):=⟨nuI.gd h0 h1,by show 1<=16;decide,by show 1<=24;decide,.inr rfl⟩
theorem Js.pl {ws:Zd} {m dn:Nat} {it:It} (h:Js ws m dn it):it.pl<=200:=by have:=h.p;lia
def Stk.ne {H:Hp} {st a:Zx} {sn:Nat} {J:It->Prop} {l:List V} {v:V} (k:Stk H st sn J) (e:H a=some (.lst l)) (hv:v∈l) (nr:∀b,v≠ .ref b):a≠st:=fun z=>by obtain⟨xs,es,_,al⟩:=k;rw[z,es]at e;cases dm.inj e;obtain⟨_,⟨_,_,e,_⟩,_⟩:=al _ hv;exact nr _ e
def Wd.fs {H H':Hp} {wl st:Zx} {ws:Zd} {sn:Nat} {J:It->Prop} (hw:Wd H wl ws) (k:Stk H st sn J) (F:FS st H H'):Wd H' wl ws:=by obtain⟨w0,_,e,_⟩:=hw.at (show 0<16 by decide);exact⟨F _ _ hw.e (k.ne hw.e (aP e) fun b z=>nomatch z),hw.l,hw.n,hw.d⟩
def Mk (H:Hp) (ws:Zd) (m:Nat) (x:V):Prop:=∃(a:Zx) (d wt:Nat) (w sh mo:Str),x= .ref a/\H a=some (.lst [.str w,.int (wt:Int),.str sh,.str mo])/\d<m/\ws[3+d]?=some w/\(sh="rec"\/sh="tag"->isName mo=true)
def Md (H:Hp) (ml:Zx) (ws:Zd) (m:Nat):Prop:=∃xs,H ml=some (.lst xs)/\xs.length=m/\∀x∈xs,Mk H ws m x
def Md.fs {H H':Hp} {ml st:Zx} {ws:Zd} {m sn:Nat} {J:It->Prop} (h:Md H ml ws m) (k:Stk H st sn J) (n:ml≠st) (F:FS st H H'):Md H' ml ws m:=by obtain⟨xs,e,l,al⟩:=h;refine⟨xs,F _ _ e n,l,fun x hx=>?_⟩;obtain⟨a,d,wt,w,sh,mo,rfl,ea,r⟩:=al x hx;exact⟨a,d,wt,w,sh,mo,rfl,F _ _ ea (k.ne ea ai fun b z=>nomatch z),r⟩
def if2 {a:Bool} {X B:Prop} (k:B) (h:a=true->B->X):if a=true then X else B:=by
 cases a with
 |true=>exact h rfl k
 |false=>exact k
def if3 {a b:Bool} {A B:Prop} (k:A) (h:B):if a=true then A else if b=true then A else B:=by
 cases a with
 |true=>exact k
 |false=>cases b with
  |true=>exact k
  |false=>exact h
def Kk {a:Bool} {A X:Prop} (k:A) (h:a=false->A->X):if a=true then A else X:=by
 cases a with
 |true=>exact k
 |false=>exact h rfl k
inductive XSt (vs:List V) (H:Hp) (Q:VK):Prop
 |mk (wl st ml:Zx) (ws:Zd) (m sn:Nat) (c:Int) (dn:Nat) (e:vs=[.ref wl,.ref st,.ref ml,.int c,.int (dn:Int)]) (hw:Wd H wl ws) (k:Stk H st sn (Js ws m dn)) (nm:ml≠st) (md:Md H ml ws m) (hm:m<=12) (hs:sn<10000000) (q:∀H' v,FS st H H'->Stk H' st (sn+ 1) (Js ws m dn)->Q v H')
def Kl:Sp:=fun vs H Q _=>XSt vs H Q
def Nw (H:Hp) (st:Zx) (sn:Nat) (ws:Zd) (m dn:Nat) (x:V) (H':Hp):Prop:=FS st H H'/\Stk H' st sn (Js ws m dn)/\∃it,ItA H' x it/\Gd ws m it
def wQ (T:Txt K mg):FO P w base 6 T.d48 Kl:=by
 refine T.d48.F.rd ip fun cdv A0 outer s H vs Q E hr h=>?_;obtain⟨wl,st,ml,ws,m,sn,c,dn,rfl,hw,k,nm,md,hm,hs,q⟩:=h;refine⟨_,(fN (pS (i:=5) ip.nd (gB hG (cv 3) fQ))
  (fN (pS (i:=6) ip.nd (gB jh (cv 3) fQ))
  (fN (gJ (gb tm (cv 5) fQ)
   (fU (pS (i:=7) ip.nd (pF T.d43 (jG T) hr.m (fM (cv 6) fO))))
   (fU (gJ (gb tm (cv 5) fQ)
    (fN (pS (i:=7) ip.nd (pF T.d38 (jJ T) hr.m (fM (gf f7 (cv 0) (gB hG (cv 6) fQ)) (fM fQ (fM fX (fM fX fO))))))
    (fU (vG (tj rfl (IM (x:="_law_k") ["_law_arg"] [("_law_arg",6,s.heap.objs.size+ 1)]) (jN rfl T.z_range (fM fQ fO)) (fun _ _ _ _ _=>mC) (fun _ _ _ _ _=>(iG As rfl T.z_int yx (fM (jO iA (cv 0) (gB hG (cv 1) fQ)) fO)))) (vF (cv 7) fQ pB))))
    (fU (gJ (PW.pt (nR (gb iA (cv 5) fQ) (mi (gb qT (gC gx rfl T.z_len iJ (fM (cv 2) fO)) fQ))))
     (fN (pS (i:=8) ip.nd (gf f7 (cv 2) (gB hG (cv 6) (gC gx rfl T.z_len iJ (fM (cv 2) fO)))))
     (fU (pS (i:=7) ip.nd (pF T.d38 (jJ T) hr.m (fM (gf f7 (cv 8) fQ) (fM (gB jE fQ (gf f7 (cv 8) fQ)) (fM (gf f7 (cv 8) fQ) (fM (gf f7 (cv 8) fQ) fO))))))))
     (fU (gJ (gb iA (cv 5) fQ)
      (fN (pS (i:=7) ip.nd (pF T.d38 (jJ T) hr.m (fM (gf f7 (cv 0) (gB jE fQ (gC gx rfl T.z_len iJ (fM (cv 2) fO)))) (fM fQ (fM fX (fM fX fO))))))
      (fU (vG mh (vF (cv 7) fQ pB))))
      (fU (gJ (PW.pt (mj (gb tm (cv 5) fQ) (kW (gb qT (cv 5) fQ))))
       (fU (pS (i:=7) ip.nd (pF T.d47 (tJ T) hr.m (fM (cv 0) (fM (cv 5) (fM (cv 6) (fM (pF T.d42 (sS T) hr.m (fM (cv 1) fO)) fO)))))))
       (fN (pS (i:=9) ip.nd (pF T.d42 (sS T) hr.m (fM (cv 1) fO)))
       (fU (pS (i:=7) ip.nd (pF T.d46 (wO T) hr.m (fM (cv 0) (fM (cv 5) (fM (cv 6) (fM (pF T.d42 (sS T) hr.m (fM (cv 1) fO)) (fM (cv 9) fO))))))))))))))))))
  (fN (gJ (PW.pt (mj (gb qT (gf f7 (cv 7) fQ) fQ) (mj (gb qT (gf f7 (cv 7) fQ) fQ) (kW (gb qT (gB jE (gf f7 (cv 7) fQ) (cv 4)) fQ)))))
   (fU (pS (i:=7) ip.nd (pF T.d43 (jG T) hr.m (fM (cv 6) fO))))
   gi)
  (fU (gv (iO (jq eO eP eQ gK (MC (cv 1)) (fM (MC (cv 7)) fO))))))))),?_⟩;have sl:=Lc;refine⟨(show(0:Int)<32 by decide),⟨by decide,by decide⟩,?_⟩;dsimp only[gP];generalize c%32=o;generalize c/32=g;obtain⟨j,ej,hj⟩:=emN g (show(0:Int)<3 by decide);obtain⟨w0,ew,ev,nw,lw⟩:=hw.at (show j<16 by lia);obtain⟨mx,em,lm,am⟩:=id md;refine zl (fun σ' H'=>∃x o8 o9,σ'=[some (.ref wl),some (.ref st),some (.ref ml),some (.int c),some (.int (dn:Int)),some (.int o),some (.int g),some x,o8,o9]/\Nw H st sn ws m dn x H') ?_ ?_;rotate_left
 ·intro nx hD;have go:∀{x:V} {o8 o9:Option V} {H':Hp} {it:It},FS st H H'->Stk H' st sn (Js ws m dn)->ItA H' x it->Gd ws m it->nx [some (.ref wl),some (.ref st),some (.ref ml),some (.int c),some (.int (dn:Int)),some (.int o),some (.int g),some x,o8,o9] H':=fun F S i g=>hD _ _ ⟨_,_,_,rfl,F,S,_,i,g⟩;show if decide (o<3)=true then _ else _;by_cases z:o<3;·rw[gM z];exact iC ⟨_,rfl,fun H1 a cs n n0 n1 N=>go (FS.same N.sm) (k.same N.sm) N.it (nuI.gd n0 n1)⟩
  rw[gQ z];refine gX ?_;show if decide (o<7)=true then _ else _;by_cases z:o<7
  ·rw[gM z];refine iC ⟨(show(0:Int)<3 by decide),?_⟩;dsimp only;rw[ej];refine⟨_,hw.e,fY (fV ev) ⟨_,_,_,1,rfl,fun H1 a cs N=>?_⟩⟩;dsimp only[gP];refine⟨3,rfl,by decide,by decide,fun D hD'=>?_⟩;let I:It:=⟨w0,1,1,fun v=>if v=j then 1 else 0,false,1,"any",""⟩;refine rR 3 (by lia) (fun zs H6=>zs=(cV3 I.mn).take zs.length) (fun _ _ _ h _=>h) hD' rfl (fun k _ _ h=>h) (fun _ _=>cH _) rfl ?_ ?_
   ·rintro i H6 x H7 zs Z S6 hk ⟨rfl,rfl⟩ hz lz kZ;refine⟨(show(0:Int)<3 by decide),.inr ⟨_,rfl,?_⟩⟩;subst lz;rw[ej];refine kZ _ _ (fun _ _ e=>e) ?_;rw[aQ,ba,Dl hk,<-hz];have e:(decide ((0:Int)+(zs.length:Int)=(j:Int)))=decide (zs.length=j):=decide_eq_decide.mpr (by lia);show zs++[V.int (if(false ^^ decide ((0:Int)+(zs.length:Int)=(j:Int)))=true then 1 else 0)]=zs++[V.int ((if zs.length=j then 1 else 0:Nat):Int)];rw[e,eZ];by_cases y:zs.length=j;·rw[gM y,gT rfl,gT y];rfl
    ·rw[gQ y,gN eV,gN y];rfl
   ·intro H6 zs S6 hz lz ez;rw[lz]at hz;have hz:zs=cV3 I.mn:=hz;subst hz;have ea6:=S6 _ _ N.ea;have na:=N.na;refine⟨a,_,3,3,rfl,rfl,ea6,rfl,?_⟩;have nea:D≠a:=fun z=>by rw[z,N.ea]at hD';cases hD'
    have T:gE H (MB H6 a (.lst ((itV (wK w0 1 "any" "") cs).set 3 (.ref D)))):=gZ (N.sm.trans S6) na _;exact go (it:=I) (FS.same T) (k.same T) ⟨a,D,rfl,fS,by rw[f9 nea];exact ez⟩ ⟨_,qP nw mV (fun v=>by show(if v=j then 1 else 0)<=1;split<;>lia),qQ (.inl ⟨j,by lia,ew,by show(if j=j then 1 else 0)≠0;rw[gT rfl];decide⟩)⟩
  rw[gQ z];refine gX ?_;have nm3:∃w3:Str,ws[3+m]?=some w3/\(ws.map V.str)[3+m]?=some (.str w3)/\isName w3=true/\w3.length<=12:=hw.at (by lia);obtain⟨w3,ew3,ev3,nw3,lw3⟩:=nm3;show if(false ^^ decide (o=7))=true then _ else _;refine if2 ?_ fun z kB=>?_
  ·show if(false ^^ decide (o=8))=true then _ else _;by_cases z:o=8;·rw[gM z];refine iC ⟨ml,_,rfl,.inl (MD em),?_⟩;dsimp only[cI0];rw[lm,show(3:Int)+(m:Int)=((3+m:Nat):Int) by lia];refine⟨_,hw.e,fY (fV ev3) ⟨_,_,_,1,rfl,fun H1 a cs N=>?_⟩⟩;dsimp only[gP];refine⟨a,_,4,4,rfl,rfl,N.ea,rfl,?_⟩;have T:gE H (MB H1 a (.lst ((itV (wK w3 1 "fn" "") cs).set 4 (.bl true)))):=gZ N.sm N.na _;exact go (it:=⟨w3,1,1,fun _=>0,true,1,"fn",""⟩) (FS.same T) (k.same T) ⟨a,cs,rfl,fS,by rw[f9 N.ne.symm];exact N.ec⟩ ⟨_,qP nw3 Dh (fun v=>cJ _),qQ (.inr (.inr ⟨rfl,ew3⟩))⟩
   rw[gQ z];refine gX ?_;have z0:Js ws m dn (nuI 0):=Js.nu (by decide) gA;show if decide (o<13)=true then _ else if decide (o>23)=true then _ else _;refine if3 ?_ ?_;·refine⟨st,sn,_,rfl,k,z0,fun H1 x I F1 k1 ix j=>?_⟩;have w1:=hw.fs k F1;have:=j.w;exact⟨wl,ws,m,x,I,o,g,rfl,w1,hm,ix,j.g,j.pl,by lia,fun H2 z' jt S2 iz gz=>go (F1.trans (FS.same S2)) (k1.same S2) iz gz⟩
   ·refine⟨st,sn,_,rfl,k,z0,fun H1 x I F1 k1 ix j=>?_⟩;dsimp only[gP];refine⟨st,sn,_,rfl,k1,z0,fun H2 y J F2 k2 iy j2=>?_⟩;have w2:=(hw.fs k F1).fs k1 F2;have ix2:=ix.fs k1 F2;have:=j.w;have:=j2.w;exact⟨wl,ws,m,x,y,I,J,o,g,rfl,w2,ix2,iy,j.g,j2.g,j.pl,j2.pl,by lia,by lia,fun H3 z' jt S2 iz gz=>go ((F1.trans F2).trans (FS.same S2)) (k2.same S2) iz gz⟩
  ·refine⟨ml,_,rfl,.inl (MD em),?_⟩;show if decide ((mx.length:Int)>0)=true then _ else _;by_cases y:mx.length=0;·rw[gQ (by lia)];exact gX kB
   rw[gM (by lia)];refine iC ⟨ml,_,rfl,.inl (MD em),(by show(0:Int)<(mx.length:Int);lia),?_⟩;obtain⟨i,ei,hi⟩:=emN g (show(0:Int)<(mx.length:Int) by lia);dsimp only;rw[ei];obtain⟨v,hv⟩:∃v,mx[i]?=some v:=⟨_,bE (by lia)⟩;obtain⟨a,d,wt,w7,sh,mo,rfl,ea,hd,e7,hmo⟩:=am v (aP hv);refine⟨_,em,fY (fV hv) ?_⟩;dsimp only[gP];refine⟨_,ea,fY (fV (j:=0) rfl) ⟨_,ea,fY (fV (j:=1) rfl) ⟨_,ea,fY (fV (j:=2) rfl) ⟨_,ea,fY (fV (j:=3) rfl) ?_⟩⟩⟩⟩;refine⟨w7,sh,mo,1+wt,by rw[fB];rfl,fun H1 a cs N=>?_⟩;exact go (FS.same N.sm) (k.same N.sm) N.it ⟨_,qP (hw.n _ (aP e7)) hmo (fun v=>cJ _),qQ (.inr (.inl ⟨d,hd,e7⟩))⟩
 rintro _ H1 ⟨x,o8,o9,rfl,F,S,it,ix,gd⟩;obtain⟨a,cs,rfl,ea,ec⟩:=id ix;refine va (fun σ' H2=>∃y kt,σ'=[some (.ref wl),some (.ref st),some (.ref ml),some (.int c),some (.int (dn:Int)),some (.int o),some (.int g),some y,o8,o9]/\FS st H H2/\Stk H2 st sn (Js ws m dn)/\ItA H2 y kt/\Js ws m dn kt) ?_ ?_;rotate_left;·intro D' hD;refine⟨_,ea,fY (fV (j:=1) rfl) ?_⟩;show if decide ((it.ne:Int)>16)=true then _ else _;refine Kk ⟨g,rfl,fun H2 a cs n n0 n1 N=>hD _ _ ⟨_,_,rfl,F.trans (FS.same N.sm),S.same N.sm,N.it,Js.nu n0 n1⟩⟩ fun c1 kA=>?_;refine⟨_,ea,fY (fV (j:=2) rfl) ?_⟩;show if decide ((it.wt:Int)>24)=true then _ else _;refine Kk kA fun c2 kA=>?_;refine⟨_,ea,fY (fV (j:=5) rfl) ?_⟩;show if decide ((it.pl:Int)+(dn:Int)>140)=true then _ else _;refine Kk kA fun c3 _=>?_;have c1:=of_decide_eq_false c1;have c2:=of_decide_eq_false c2;have c3:=of_decide_eq_false c3;exact hD _ _ ⟨_,it,rfl,F,S,ix,gd,by lia,by lia,.inl (by lia)⟩
 rintro _ H2 ⟨y,kt,rfl,F2,⟨ys,es,ly,ay⟩,iy,jy⟩;refine⟨⟨_,es⟩,_,es,by lia,?_⟩;have F3:FS st H2 (MB H2 st (.lst (ys++[y]))):=fun a o e n=>by rw[f9 n];exact e
 have S2:Stk H2 st sn (Js ws m dn):=⟨ys,es,ly,ay⟩;refine q _ _ (F2.trans F3) ⟨_,fS,by rw[aQ];exact di ly,fun x hx=>?_⟩;rcases ao.mp hx with hx|hx;·obtain⟨I,i,j⟩:=ay x hx;exact⟨I,i.fs S2 F3,j⟩
 ·rw[bj.mp hx];exact⟨kt,iy.fs S2 F3,jy⟩
open GR.Internal (isName)
open TM.Internal (Kn Tr)
structure De (ws:Zd) (m:Nat) (it jt:It) (t:Tr):Prop where
 g:JN ws m jt t
 z:∀v,v<3->jt.mn v=0
 o:jt.own=true->isFn t=true
 n:jt.ne<=it.ne+ 7
 p:jt.pl<=it.pl+ 10
inductive XEd (vs:List V) (H:Hp) (Q:VK):Prop
 |mk (wl:Zx) (ws:Zd) (m:Nat) (x:V) (it:It) (g:Int) (e:vs=[.ref wl,x,.int g]) (hw:Wd H wl ws) (ix:ItA H x it) (j:Gd ws m it) (lp:it.pl<=200) (q:∀H' z jt t,gE H H'->ItA H' z jt->De ws m it jt t->Q z H')
def Km:Sp:=fun vs H Q _=>XEd vs H Q
def vA (T:Txt K mg):FO P w base 4 T.d49 Km:=by
 refine T.d49.F.rd iN fun cdv A0 outer s H vs Q E hr h=>?_;obtain⟨wl,ws,m,x,it,g,rfl,hw,ix,⟨t,j⟩,lp,q⟩:=h;refine⟨_,(fN (kl Lh rfl (jN rfl T.z_range (fM fQ fO)) (pN (i:=3) iN.nd)
   (fU (gJ (gb qT (gf f7 (gf f7 (cv 1) fQ) (cv 3)) fQ)
    (fN (pS (i:=4) iN.nd (gB hG (gB jh (cv 2) (gf f7 (gq (fM fQ (fM fQ (fM fQ fO)))) (cv 3))) fQ))
    (fN (pS (i:=5) iN.nd (gq (fM (gf f7 (cv 1) fQ) (fM (gf f7 (cv 1) fQ) fO))))
    (fN (pS (i:=1) iN.nd (pF T.d39 (jK T) hr.m (fM (gq (fM fX (fM (gf f7 (cv 0) (cv 3)) (fM gR fO)))) (fM (gq (fM (pF T.d40 (lN T) hr.m (fM (cv 1) (fM (cv 3) fO))) fO)) (fM fX (fM fX fO))))))
    (fU (gJ (gb qT (cv 4) fQ)
     (fN (pS (i:=6) iN.nd (gq (fM (pF T.d43 (jG T) hr.m (fM (cv 2) fO)) (fM (pF T.d38 (jJ T) hr.m (fM fX (fM fQ (fM fX (fM fX fO))))) (fM (pF T.d38 (jJ T) hr.m (fM fX (fM fQ (fM fX (fM fX fO))))) fO)))))
     (fU (pS (i:=1) iN.nd (pF T.d39 (jK T) hr.m (fM (gq (fM fX (fM gR (fM gR fO)))) (fM (gq (fM (cv 1) (fM (gf f7 (cv 6) (gB A9 (cv 4) fQ)) fO))) (fM (gf f7 (cv 5) fQ) (fM (gf f7 (cv 5) fQ) fO))))))))
     gi)))))
    gi)))
  (fN (gJ (iL (gf f7 (cv 1) fQ))
   (fU (pS (i:=1) iN.nd (pF T.d39 (jK T) hr.m (fM (gq (fM fX (fM (gf f7 (cv 0) (gB hG (cv 2) fQ)) (fM gR fO)))) (fM (gq (fM (cv 1) fO)) (fM fX (fM fX fO)))))))
   gi)
  (fU (gj (cv 1))))),?_⟩;have sl:=Lc;refine⟨3,rfl,by decide,by decide,mY (fun i σ H2=>X7 fun(y:V) (o3 o4 o5 o6:Option V) (jt:It) (t:Tr)=>Y7 (σ=[some (.ref wl),some y,some (.int g),o3,o4,o5,o6]) (gE H H2) (ItA H2 y jt) (JN ws m jt t) ((∀v,v<i->v<3->jt.mn v=0)) (jt.ne<=it.ne+ 2*i) (jt.pl<=it.pl+ 3*i))
  ⟨x,none,none,none,none,it,t,rfl,fun _ _ e=>e,ix,j,(fun v h=>absurd h (da v)),cH _,cH _⟩ ?_ ?_⟩
 ·rintro i σ H2 hi ⟨y,o3,o4,o5,o6,jt,t,rfl,S,iy,jn,mz,ln,lp2⟩;have hi3:i<3:=hi;obtain⟨a,cs,rfl,ea,ec⟩:=id iy;have tx:=(Gd.tx ⟨t,jn⟩ (by lia):jt.tx.length<=200000);refine⟨_,ea,fY (fV (j:=3) rfl) ⟨_,ec,fY (Gj hi3) ?_⟩⟩;show if decide ((jt.mn i:Int)>0)=true then _ else _;by_cases z:jt.mn i=0
  ·rw[gQ (by lia)];refine gX ⟨_,_,_,_,_,jt,t,rfl,S,iy,jn,fun v h h3=>?_,by lia,by lia⟩;by_cases y:v=i;·rw[y];exact z
   ·exact mz v (by lia) h3
  rw[gM (by lia)];have hw2:=hw.same S;obtain⟨w0,ew,ev,nw,lw⟩:=hw2.at (show i<16 by lia);obtain⟨n3,e3,hn3⟩:∃n:Int,([V.int 1,V.int 4,V.int 16]:List V)[i]?=some (.int n)/\(0<n/\n<1000):=by
   match i,hi3 with
   |0,_=>exact⟨_,rfl,by decide⟩
   |1,_=>exact⟨_,rfl,by decide⟩
   |2,_=>exact⟨_,rfl,by decide⟩
  refine iC ⟨kP,fun l1 h1=>?_⟩;have T1:=fW h1 (.lst [.int 1,.int 4,.int 16]);refine⟨_,fS,fY (by rw[fA];exact fV e3) ?_⟩;refine⟨⟨hn3.1,by lia⟩,(by show(0:Int)<4;decide),?_⟩;dsimp only[gP];obtain⟨k4,e4,hk4⟩:=emN (g/n3) (show(0:Int)<4 by decide);rw[e4];generalize MB H2 l1 _=H3 at T1⊢;have S3:=S.trans T1;have ea3:=T1 _ _ ea;have iy3:=iy.same T1;refine⟨_,ea3,fY (fV (j:=6) rfl) ⟨_,ea3,fY (fV (j:=7) rfl) ⟨lZ,fun l5 h5=>?_⟩⟩⟩;have T5:=fW h5 (.lst [.str jt.sh,.str jt.mo]);have e5:(MB H3 l5 (.lst [.str jt.sh,.str jt.mo])) l5=some (.lst [.str jt.sh,.str jt.mo]):=fS;dsimp only[gP];generalize MB H3 l5 _=H5 at T5 e5⊢;have S5:=S3.trans T5;have hw5:=hw.same S5;refine⟨_,hw5.e,fY (by rw[fA];exact fV ev) ⟨kP,fun l6 h6=>?_⟩⟩;have T6:=fW h6 (.lst [.str "fn",.str w0,.non]);have e6:(MB H5 l6 (.lst [.str "fn",.str w0,.non])) l6=some (.lst [.str "fn",.str w0,.non]):=fS;dsimp only;generalize MB H5 l6 _=H6 at T6 e6⊢;refine⟨_,i,jt,by rw[fA];rfl,(iy3.same T5).same T6,fun H7 ah ch N7=>⟨yo,fun l8 h8=>?_⟩⟩;have T8:=fW h8 (.lst [.ref ah]);refine⟨l6,l8,[some "fn",some w0,none],_,[lF jt i],"fn","",rfl,T8 _ _ (N7.sm _ _ e6),fS,.cons (N7.it.same T8) .nil,(lb rfl),rfl,(lb rfl),ki s4 (ki (lc6 lw) (jC mW)),t1 tx,fun H9 b cb N9=>?_⟩;dsimp only[gP];have T9:=T6.trans (N7.sm.trans (T8.trans N9.sm));have S9:=S5.trans T9;have F:=Di (jn.bind ew) nw;have fz:∀v,v<i+ 1->v<3->(kO [some "fn",some w0,none] [lF jt i] "fn" "").mn v=0:=fun v h h3=>by
   show(if v=i then 0 else jt.mn v)+ 0=0;split;·rfl
   ·exact mz v (by lia) h3
  have fne:(kO [some "fn",some w0,none] [lF jt i] "fn" "").ne=max jt.ne 0+ 1:=rfl;have fpl:(kO [some "fn",some w0,none] [lF jt i] "fn" "").pl=1+(jt.pl+ 0):=rfl;have ib:=N9.it;have ftx:=Gd.tx ⟨_,F⟩ (by lia);generalize kO [some "fn",some w0,none] [lF jt i] "fn" ""=I at*;show if decide ((k4:Int)>0)=true then _ else _;by_cases y:k4=0;·rw[gQ (by lia)];exact gX ⟨_,_,_,_,_,I,_,rfl,S9,ib,F,fz,by lia,by lia⟩
  rw[gM (by lia)];refine iC ⟨g,rfl,fun Ha p1 c1 n n0 n1 Na=>⟨_,_,_,1,rfl,fun Hb p2 c2 Nb=>⟨_,_,_,1,rfl,fun Hc p3 c3 Nc=>⟨kP,fun l9 h9=>?_⟩⟩⟩⟩;have Td:=fW h9 (.lst [.ref p1,.ref p2,.ref p3]);have ed:(MB Hc l9 (.lst [.ref p1,.ref p2,.ref p3])) l9=some (.lst [.ref p1,.ref p2,.ref p3]):=fS;have Tn:=Na.sm.trans (Nb.sm.trans (Nc.sm.trans Td));have i1:=((Na.it.same Nb.sm).same Nc.sm).same Td;have i2:=(Nb.it.same Nc.sm).same Td;have i3:=Nc.it.same Td;dsimp only[gP];generalize MB Hc l9 _=Hd at Td ed Tn i1 i2 i3⊢;obtain⟨v,I',J,r,hv,iv,vtx,vn,vp,vm,vj,vq⟩:∃(v:V) (I' J:It) (r:Tr),([.ref p1,.ref p2,.ref p3]:List V)[k4-1]?=some v/\ItA Hd v I'/\I'.tx.length<=200000/\I'.ne=1/\I'.pl=1/\(∀k,I'.mn k=0)/\JN ws m J r/\∀A sh mo,kO [some "call",none,none] [A,I'] sh mo=kO [some "call",none,none] [A,J] sh mo:=by
   match k4,y,hk4 with
   |1,_,_=>exact⟨_,_,_,_,rfl,i1,B8 n0 n1,rfl,rfl,fun _=>rfl,sR n0 n1,fun _ _ _=>rfl⟩
   |2,_,_=>exact⟨_,_,_,_,rfl,i2,s4,rfl,rfl,fun _=>rfl,zj.2,fun _ _ _=>rfl⟩
   |3,_,_=>exact⟨_,_,_,_,rfl,i3,s4,rfl,rfl,fun _=>rfl,zj.1 _ nw,fun _ _ _=>rfl⟩
  have ib2:=ib.same Tn;refine⟨kP,fun la ha=>?_⟩;have Ta:=fW ha (.lst [.str "call",.non,.non]);have e0:(MB Hd la (.lst [.str "call",.non,.non])) la=some (.lst [.str "call",.non,.non]):=fS;generalize MB Hd la _=He at Ta e0⊢;have hx:atI [.ref p1,.ref p2,.ref p3] ((k4:Int)-1)=some v:=by rw[show(k4:Int)-1=((k4-1:Nat):Int) by lia];exact fV hv
  refine⟨_,Ta _ _ ed,fY hx ⟨lZ,fun lc hc=>?_⟩⟩;have Tc:=fW hc (.lst [.ref b,v]);have e55:=Tc _ _ (Ta _ _ (Tn _ _ (T9 _ _ e5)));refine⟨_,e55,fY (fV (j:=0) rfl) ⟨_,e55,fY (fV (j:=1) rfl) ?_⟩⟩;refine⟨la,lc,[some "call",none,none],_,[I,I'],_,_,rfl,Tc _ _ e0,fS,.cons ((ib2.same Ta).same Tc) (.cons ((iv.same Ta).same Tc) .nil),(lb rfl),rfl,(lb rfl),ki s4 (jC (jC mW)),t2 ftx vtx,fun Hf bz cz Nz=>?_⟩;refine⟨_,_,_,_,_,_,_,rfl,S9.trans (Tn.trans (Ta.trans (Tc.trans Nz.sm))),Nz.it,by rw[vq];exact oh gA gA F vj jn.j.mo,fun k h h3=>?_,?_,?_⟩;·show I.mn k+(I'.mn k+ 0)=0;rw[fz k h h3,vm]
  ·show max I.ne (max I'.ne 0)+ 1<=_;lia
  ·show 1+(I.pl+(I'.pl+ 0))<=_;lia
 ·rintro σ H2 ⟨y,o3,o4,o5,o6,jt,t,rfl,S,iy,jn,mz,ln,lp2⟩;obtain⟨a,cs,rfl,ea,ec⟩:=id iy;have tx:=(Gd.tx ⟨t,jn⟩ (by lia):jt.tx.length<=200000);refine⟨_,ea,fY (fV (j:=4) rfl) ?_⟩;have hw2:=hw.same S;refine⟨_,rfl,?_⟩;show if jt.own=true then _ else _
  cases ho:jt.own with
  |false=>exact gX (q _ _ jt t S iy ⟨jn,fun v h=>mz v h h,fun e=>by(rw[ho]at e;cases e),by lia,by lia⟩)
  |true=>obtain⟨k,ek,hk⟩:=emN g (show(0:Int)<3 by decide);obtain⟨w0,ew,ev,nw,lw⟩:=hw2.at (show k<16 by lia);refine iC ⟨(show(0:Int)<3 by decide),?_⟩;dsimp only;rw[ek];refine⟨_,hw2.e,fY (fV ev) ⟨kP,fun l1 h1=>⟨yo,fun l2 h2=>?_⟩⟩⟩;refine i7 [some "fn",some w0,none] h1 h2 (.cons iy .nil) rfl (lb rfl) (ki s4 (ki (lc6 lw) (jC mW))) (t1 tx) fun H' z S' i=>?_;exact q H' z _ _ (S.trans S') i ⟨Di (jn.kid _) nw,fun v h=>by show jt.mn v+ 0=0;rw[mz v h h],fun _=>rfl,(by show max jt.ne 0+ 1<=_;lia),by show 1+(jt.pl+ 0)<=_;lia⟩
open GR.Internal (isName Gp Op)
open TM.Internal (Kn Tr jb szs oks tks jM)
def lnS (w x:Str):Str:="(def "++w++" "++x++")"
structure Gu (x:Str) (ts:Zd) (n:Nat):Prop where
 g:Gp x ts
 l:x.length<=130*n
 k:ts.length<=16*n
 o:∀w∈ts,okW w
def Ko {w x:Str} {ts:Zd} {n:Nat} (hw:isName w=true) (g:Gt x ts n) (hn:0<n):Gu (lnS w x) ((["(","def",w]:Zd)++ts++[(")":Str)]) n/\(lnS w x).length+ 1<=130*n:=by
 have gw:=yj hw;have b1:Gp "(def " ["(","def"]:=gA;have:=gw.ln;have:=g.l;have:=g.k;have hl:(lnS w x).length+ 1<=130*n:=by unfold lnS;simp only[Lk];rw[show("(def ":Str).length=5 by decide+kernel,show(" ":Str).length=1 by decide+kernel,show(")":Str).length=1 by decide+kernel];lia
 refine⟨⟨((b1.app_op gw.op).gap.app_op g.op).close,by lia,?_,?_⟩,hl⟩;·simp only[aQ,aA,aU];lia
 ·refine B0 (B0 (fun v hv=>?_) g.o) fun v hv=>by rw[bj.mp hv];exact z5.2.1
  rcases ak.mp hv with rfl|hv;·exact z5.1
  ·rcases ak.mp hv with rfl|hv;·exact z5.2.2
   ·exact gw.ok v hv
def Iz (t:Tr):0<t.sz:=by cases t;rw[ME];lia
structure Df where
 n:Str
 x:Str
 t:Tr
def Df.ln (d:Df):Str:=lnS d.n d.x
theorem FY:∀{ds:List Df},(∀d∈ds,isName d.n=true/\Gt d.x d.t.tk d.t.sz)->Gu (Lr "\n" (ds.map Df.ln)) (vD (ds.map Df.n) (ds.map Df.t)) (szs (ds.map Df.t))/\∀l∈ds.map Df.ln,l.length<=130*szs (ds.map Df.t)
 |[],_=>⟨⟨(by decide+kernel:GR.Internal.Gp "" []),cJ _,cJ _,fun w hw=>nomatch hw⟩,fun l hl=>nomatch hl⟩
 |d::ds,h=>by
  obtain⟨hn,g⟩:=h d ai;obtain⟨g1,l1⟩:=Ko hn g (Iz d.t);obtain⟨g2,l2⟩:=FY (ds:=ds) fun x hx=>h x (aj _ hx);have e:vD ((d::ds).map Df.n) ((d::ds).map Df.t)=((["(","def",d.n]:Zd)++d.t.tk++[(")":Str)])++vD (ds.map Df.n) (ds.map Df.t):=by rw[aC,aC,vD,dtk];simp only[aT,bU,bT]
  refine⟨?_,fun l hl=>?_⟩
  ·rw[e,aC (f:=Df.t),szs];match ds,g2 with
   |[],g2=>
    refine⟨?_,cE g1.l (by lia),?_,B0 g1.o g2.o⟩;·show Gp (lnS d.n d.x) (_++[]);rw[aE];exact g1.g
    ·show(_++[]).length<=_;rw[aE];exact cE g1.k (by lia)
   |d2::ds,g2=>have nl:Gp "\n" []:=gA;have q:=(g1.g.app nl).app g2.g;rw[aE]at q;refine⟨q,?_,by rw[aQ];have:=g1.k;have:=g2.k;lia,B0 g1.o g2.o⟩;show(lnS d.n d.x++"\n"++Lr "\n" ((d2::ds).map Df.ln)).length<=_;rw[Lk,Lk,show("\n":Str).length=1 by decide+kernel];have:=g2.l;lia
  ·rw[aC (f:=Df.t),szs];rw[aC]at hl;rcases ak.mp hl with rfl|hl;·show(lnS d.n d.x).length<=_;lia
   ·have:=l2 l hl;lia
theorem oq:∀(a b:List Tr),szs (a++b)=szs a+szs b
 |[],b=>by rw[szs,bU,cX]
 |t::a,b=>by rw[aT,szs,szs,oq a b,cY]
def Na (ws:Zd) (i:Nat) (t:Tr) (w:Str):Prop:=(∃d,d<i/\ws[3+d]?=some w)\/(isFn t=true/\ws[3+i]?=some w)
structure Pgm (ws:Zd) (ds:List Df) (dn:Nat):Prop where
 d:∀(i:Nat) (d:Df),ds[i]?=some d->ws[3+i]?=some d.n/\Gt d.x d.t.tk d.t.sz/\d.t.ok/\d.t.nest<=24/\okN d.t (Na ws i d.t)
 z:szs (ds.map Df.t)=dn
 l:dn<=150
def Pgm.add {ws:Zd} {ds:List Df} {dn:Nat} {it jt:It} {t:Tr} {w:Str} (p:Pgm ws ds dn) (hw:ws[3+ds.length]?=some w) (j:Js ws ds.length dn it) (e:De ws ds.length it jt t) (h:dn<=100):Pgm ws (ds++[⟨w,jt.tx,t⟩]) (dn+jt.pl):=by
 have jn:=e.g.j.ne;have je:=e.n;have jw:=j.n;have jp:=e.p;have jl:=j.p;refine⟨fun i d hd=>?_,?_,by lia⟩
 ·by_cases z:i<ds.length;·rw[aN z]at hd;exact p.d i d hd
  ·rw[aM (by lia)]at hd;have hi:i-ds.length=0:=by have:=(au.mp hd).1;rw[ba]at this;lia
   rw[hi]at hd;cases hd;obtain rfl:i=ds.length:=by lia
   refine⟨hw,e.g.j.gt,e.g.j.ok,(by show t.nest<=24;lia),kS _ (fun v z=>?_) e.g.n⟩;rcases z with⟨k,k3,_,n⟩|z|⟨o,z⟩;·exact absurd (e.z k k3) n
   ·exact .inl z
   ·exact .inr ⟨e.o o,z⟩
 ·rw[bo,oq,p.z];show dn+(t.sz+ 0)=_;rw[e.g.j.pl,c9]
structure Pt (x:Str) (ns:Zd) (ts:List Tr):Prop where
 tk:Op x (vD ns ts)
 xl:x.length<=30000
 o:∀w∈vD ns ts,okW w
 k:(vD ns ts).length<=30000
 l:ns.length=ts.length
 n:∀n∈ns,isName n=true
 nd:ns.Nodup
 h1:1<=ns.length
 h12:ns.length<=12
 ok:okD ns ts 0
 ne:∀t∈ts,t.nest<=24
 z:szs ts<=160
theorem zm {ns:Zd} {ts:List Tr} (h:∀(i:Nat) (t:Tr),ts[i]?=some t->t.ok/\okN t (dom (gD ns i t))):∀(n i:Nat),n+i=ts.length->okD ns (ts.drop i) i
 |0,i,e=>by rw[bQ (by lia)];trivial
 |n+ 1,i,e=>by have hi:ts[i]?=some (ts[i]'(by lia)):=bE _;rw[bR (by lia)];exact⟨h i _ hi,zm h n (i+ 1) (by lia)⟩
def Pgm.pt {ws:Zd} {ds:List Df} {dn:Nat} (p:Pgm ws ds dn) (hn:∀w∈ws,isName w=true) (nd:ws.Nodup) (h1:ds≠[]) (h8:ds.length<=8):Pt (Lr "\n" (ds.map Df.ln)) (ds.map Df.n) (ds.map Df.t):=by
 have mem:∀d∈ds,isName d.n=true/\Gt d.x d.t.tk d.t.sz/\d.t.nest<=24:=fun d hd=>by obtain⟨i,hi⟩:=cu hd;obtain⟨a,b,c,e,f⟩:=p.d i d hi;exact⟨hn _ (aP a),b,e⟩
 obtain⟨g,_⟩:=FY (ds:=ds) fun d hd=>⟨(mem d hd).1,(mem d hd).2.1⟩;have z:=p.z;have l:=p.l;have g2:=g.l;have g3:=g.k;have nsi:∀{i:Nat} {w:Str},ws[3+i]?=some w->i<ds.length->(ds.map Df.n)[i]?=some w:=fun{i w} e h=>by have hd:ds[i]?=some (ds[i]'h):=bE _;rw[aO,hd];have:=(p.d i _ hd).1;rw[e]at this;rw[dm.inj this];rfl
 refine⟨g.g.op,by lia,g.o,by lia,by rw[aD,aD],fun n hm=>?_,?_,?_,by rw[aD];lia,?_,fun t ht=>?_,by lia⟩;·obtain⟨d,hd,rfl⟩:=bf.mp hm;exact(mem d hd).1
 ·refine List.pairwise_iff_getElem.mpr fun i j hi hj hij=>?_;rw[List.getElem_map,List.getElem_map];rw[aD]at hi hj;exact B9 nd (p.d i _ (bE hi)).1 (p.d j _ (bE hj)).1 (by lia)
 ·rw[aD];exact List.length_pos_iff.mpr h1
 ·refine zm (fun i t hi=>?_) (ds.map Df.t).length 0 rfl;rw[aO]at hi;obtain⟨d,hd,rfl⟩:=dy.mp hi;obtain⟨a,b,c,e,f⟩:=p.d i d hd;have il:=(au.mp hd).1;refine⟨c,kS _ (fun w z=>?_) f⟩;unfold gD;rcases z with⟨k,hk,z⟩|⟨hf,z⟩
  ·split;·exact zd (nsi z (by lia)) (by lia)
   ·exact zd (nsi z (by lia)) hk
  ·rw[gT hf];exact zd (nsi z il) (cM _)
 ·obtain⟨d,hd,rfl⟩:=bf.mp ht;exact(mem d hd).2.2
open GR.Internal (isName Gp Op)
open TM.Internal (Kn Tr jb szs oks tks jM)
def ItA.upd {H:Hp} {p:Zx} {l:List V} {o:HO} {x:V} {I:It} (h:ItA H x I) (e:H p=some (.lst l)) (ni:∀n:Int,V.int n∉l):ItA (MB H p o) x I:=by
 obtain⟨a,cs,rfl,e1,e2⟩:=h;have n1:a≠p:=fun z=>by rw[z,e]at e1;cases dm.inj e1;exact ni (I.ne:Int) (by simp[itV])
 have n2:cs≠p:=fun z=>by rw[z,e]at e2;cases dm.inj e2;exact ni (I.mn 0:Int) (by simp[cV3])
 exact⟨a,cs,rfl,by rw[f9 n1];exact e1,by rw[f9 n2];exact e2⟩
def Md.upd {H:Hp} {p ml:Zx} {l:List V} {o:HO} {ws:Zd} {m:Nat} (h:Md H ml ws m) (e:H p=some (.lst l)) (ni:∀n:Int,V.int n∉l) (np:ml≠p):Md (MB H p o) ml ws m:=by
 obtain⟨xs,em,lm,al⟩:=h;refine⟨xs,by rw[f9 np];exact em,lm,fun x hx=>?_⟩;obtain⟨a,d,wt,w,sh,mo,rfl,ea,r⟩:=al x hx;have n1:a≠p:=fun z=>by rw[z,e]at ea;cases dm.inj ea;exact ni (wt:Int) (by simp)
 exact⟨a,d,wt,w,sh,mo,rfl,by rw[f9 n1];exact ea,r⟩
def Ee {l:Zd}:∀n:Int,V.int n∉l.map V.str:=fun n h=>by obtain⟨_,_,e⟩:=bf.mp h;cases e
def Md.noi {H:Hp} {ml:Zx} {ws:Zd} {m:Nat} {xs:List V} (h:Md H ml ws m) (e:H ml=some (.lst xs)):∀n:Int,V.int n∉xs:=fun n hn=>by obtain⟨ys,em,_,al⟩:=h;rw[e]at em;cases dm.inj em;obtain⟨_,_,_,_,_,_,e,_⟩:=al _ hn;cases e
def Stk.le {H:Hp} {st:Zx} {sn sm:Nat} {J:It->Prop} (h:Stk H st sn J) (l:sn<=sm):Stk H st sm J:=by obtain⟨xs,es,k,al⟩:=h;exact⟨xs,es,cE k l,al⟩
def vB (ns:List Int) (lo hi:Option Int):∃ms:List Int,rb (ns.map V.int) lo hi=ms.map V.int/\ms.length<=ns.length:=by
 refine⟨(ns.drop (MQ (ns.map V.int).length 0 lo)).take (MQ (ns.map V.int).length (ns.map V.int).length hi-MQ (ns.map V.int).length 0 lo),?_,?_⟩;·unfold rb;rw[<-List.map_drop,<-List.map_take]
 ·rw[aK,aX];lia
def Md.same {H H':Hp} {ml:Zx} {ws:Zd} {m:Nat} (h:Md H ml ws m) (S:gE H H'):Md H' ml ws m:=by obtain⟨xs,e,l,al⟩:=h;refine⟨xs,S _ _ e,l,fun x hx=>?_⟩;obtain⟨a,d,wt,w,sh,mo,rfl,ea,r⟩:=al x hx;exact⟨a,d,wt,w,sh,mo,rfl,S _ _ ea,r⟩
def Md.add {H:Hp} {ml lm:Zx} {ws:Zd} {m wt:Nat} {xs:List V} {w sh mo:Str} (h:Md H ml ws m) (e:H ml=some (.lst xs)) (el:H lm=some (.lst [.str w,.int (wt:Int),.str sh,.str mo])) (ew:ws[3+m]?=some w) (hm:sh="rec"\/sh="tag"->isName mo=true):Md (MB H ml (.lst (xs++[.ref lm]))) ml ws (m+ 1):=by
 have ni:=h.noi e;obtain⟨ys,ey,l,al⟩:=h;rw[e]at ey;cases dm.inj ey;have go:∀{a:Zx} {w sh mo:Str} {wt:Nat},H a=some (.lst [.str w,.int (wt:Int),.str sh,.str mo])->(MB H ml (.lst (xs++[.ref lm]))) a=some (.lst [.str w,.int (wt:Int),.str sh,.str mo]):=fun{a w sh mo wt} ea=>by
  have n1:a≠ml:=fun z=>by rw[z,e]at ea;cases dm.inj ea;exact ni (wt:Int) (by simp)
  rw[f9 n1];exact ea
 refine⟨_,fS,by rw[aQ,l];rfl,fun x hx=>?_⟩;rcases ao.mp hx with hx|hx;·obtain⟨a,d,wt,w,sh,mo,rfl,ea,hd,r⟩:=al x hx;exact⟨a,d,wt,w,sh,mo,rfl,go ea,by lia,r⟩
 ·rw[bj.mp hx];exact⟨lm,m,wt,w,sh,mo,rfl,go el,cM _,ew,hm⟩
def IA {w x:Str} (h:w.length<=12) (k:x.length<=200000):("(def ":Str).length+w.length<=sizeLine/\("(def "++w).length+(" ":Str).length<=sizeLine/\("(def "++w++" ").length+x.length<=sizeLine/\("(def "++w++" "++x).length+(")":Str).length<=sizeLine:=by have sl:=Lc;rw[Lk,Lk,Lk,show("(def ":Str).length=5 by decide+kernel,show(" ":Str).length=1 by decide+kernel,show(")":Str).length=1 by decide+kernel,Lk,Lk,Lk,show("(def ":Str).length=5 by decide+kernel,show(" ":Str).length=1 by decide+kernel];lia
def or2 {a:Bool} {A X p:Prop} (k:p->A) (ha:a=true->p) (h:a=false->(p->A)->X):if a=true then A else X:=by
 cases a with
 |true=>exact k (ha rfl)
 |false=>exact h rfl k
inductive PgS (H:Hp) (sc lq wl:Zx) (cs:List Int) (ws:Zd) (i:Nat) (σ:St) (H2:Hp):Prop
 |mk (st ml tl:Zx) (ds:List Df) (dn:Nat) (o6 o7 o8:Option V) (e:σ=[some (.ref sc),some (.ref wl),some (.ref st),some (.ref ml),some (.ref tl),some (.int (dn:Int)),o6,o7,o8]) (S:gE H H2) (hs:H st=none) (hm:H ml=none) (ht:H tl=none) (n1:ml≠st) (n2:tl≠st) (n3:ml≠tl) (w2:wl≠ml) (w3:wl≠tl) (el:H2 lq=some (.lst (cs.map V.int))) (n4:lq≠st) (n5:lq≠ml) (n6:lq≠tl) (hw:Wd H2 wl ws) (k:Stk H2 st i (Js ws ds.length dn)) (md:Md H2 ml ws ds.length) (et:H2 tl=some (.lst ((ds.map Df.ln).map V.str))) (p:Pgm ws ds dn) (l7:ds.length<=7)
def PgS.el {H H2:Hp} {sc lq wl:Zx} {cs:List Int} {ws:Zd} {i:Nat} {σ:St} (h:PgS H sc lq wl cs ws i σ H2):H2 lq=some (.lst (cs.map V.int)):=by cases h;assumption
inductive XPr (K:Zp) (vs:List V) (H:Hp) (Q:VK):Prop
 |mk (sc:Zx) (ns:List Int) (e:vs=[.ref sc]) (hq:SqL K H sc (ns.map V.int)) (h63:ns.length<=63) (q:∀H' x nms ts,gE H H'->Pt x nms ts->Q (.str x) H')
def Kp (K:Zp):Sp:=fun vs H Q _=>XPr K vs H Q
def sV (T:Txt K mg):FO P w base 7 T.d50 (Kp K):=by
 refine T.d50.F.rd gS fun cdv A0 outer s H vs Q E hr h=>?_;obtain⟨sc,ns,rfl,hq,h63,q⟩:=h;refine⟨_,(fN (pS (i:=1) gS.nd (pF T.d37 (vv T) hr.m (fM (gC (v7 rfl) rfl T.z_sum DD (fM (kz oo (cv 0) lP (lQ fQ)) fO)) fO)))
  (fN (pS (i:=2) gS.nd (gq fO))
  (fN (pS (i:=3) gS.nd (gq fO))
  (fN (pS (i:=4) gS.nd (gq fO))
  (fN (pS (i:=5) gS.nd fQ)
  (fN (kl Lh rfl (mq (kz oo (cv 0) (lQ fQ) lP)) (pN (i:=6) gS.nd)
   (fN (pS (i:=7) gS.nd (gB hG (cv 6) (gB yD fQ fQ)))
   (fU (gJ (gb iA (gB hG (cv 7) fQ) fQ)
    (fU (gJ (PW.pt (nR (gb qT (gC gx rfl T.z_len iJ (fM (cv 2) fO)) fQ) (nR (gb tm (gC gx rfl T.z_len iJ (fM (cv 3) fO)) fQ) (mi (gb Hj (cv 5) fQ)))))
     (fN (pS (i:=8) gS.nd (pF T.d49 (vA T) hr.m (fM (cv 1) (fM (rL eO eR eS tW (cv 2)) (fM (gB jh (cv 7) fQ) fO)))))
     (fN (gv (iO (jq eO eP eQ gK (MC (cv 4)) (fM (MC (gB jQ (gB jQ (gB jQ (gB jQ fX (gf f7 (cv 1) (gB jE fQ (gC gx rfl T.z_len iJ (fM (cv 3) fO))))) fX) (gf f7 (cv 8) fQ)) fX)) fO))))
     (fN (pS (i:=5) gS.nd (gB jE (cv 5) (gf f7 (cv 8) fQ)))
     (fN (gv (iO (jq eO eP eQ gK (MC (cv 3)) (fM (MC (gq (fM (gf f7 (cv 1) (gB jE fQ (gC gx rfl T.z_len iJ (fM (cv 3) fO)))) (fM (gf f7 (cv 8) fQ) (fM (gf f7 (cv 8) fQ) (fM (gf f7 (cv 8) fQ) fO)))))) fO))))
     (fU (pS (i:=2) gS.nd (gq fO)))))))
     gi))
    (fU (gv (pF T.d48 (wQ T) hr.m (fM (cv 1) (fM (cv 2) (fM (cv 3) (fM (cv 7) (fM (cv 5) fO))))))))))))
  (fN (gJ (PW.pt (mj (gb iA (gC gx rfl T.z_len iJ (fM (cv 4) fO)) fQ) (kW (PW.pt (nR (gb qT (gC gx rfl T.z_len iJ (fM (cv 2) fO)) fQ) (mi (gb Hj (cv 5) fQ)))))))
   (fN (pS (i:=8) gS.nd (pF T.d49 (vA T) hr.m (fM (cv 1) (fM (pF T.d42 (sS T) hr.m (fM (cv 2) fO)) (fM (gC gx rfl T.z_len iJ (fM (cv 0) fO)) fO)))))
   (fU (gv (iO (jq eO eP eQ gK (MC (cv 4)) (fM (MC (gB jQ (gB jQ (gB jQ (gB jQ fX (gf f7 (cv 1) (gB jE fQ (gC gx rfl T.z_len iJ (fM (cv 3) fO))))) fX) (gf f7 (cv 8) fQ)) fX)) fO))))))
   gi)
  (fU (gj (jq eN eT eU Bc fX (fM (cv 4) fO))))))))))),?_⟩;have sl:=Lc;obtain⟨m1,em1,lm1⟩:=vB ns none (some 1);obtain⟨cs,em2,lm2⟩:=vB ns (some 1) none;refine⟨_,rfl,sc,_,rfl,hq,fun l1 h1=>⟨l1,m1,rfl,MD (by rw[fS,em1]),fun n0=>?_⟩⟩;have S1:=fW h1 (.lst (rb (ns.map V.int) none (some 1)));dsimp only;generalize MB H l1 _=H1 at S1⊢;refine⟨n0,rfl,fun wl ws H2 S2 hwl hw=>?_⟩;dsimp only[gP];have S02:=S1.trans S2;refine⟨qC,fun st hs=>?_⟩;have T1:=fW hs (.lst []);have es:(MB H2 st (.lst [])) st=some (.lst []):=fS;dsimp only[gP];generalize MB H2 st _=H3 at T1 es⊢;refine⟨qC,fun ml hm=>?_⟩;have T2:=fW hm (.lst []);have em:(MB H3 ml (.lst [])) ml=some (.lst []):=fS;have es4:=T2 _ _ es;dsimp only[gP];generalize MB H3 ml _=H4 at T2 em es4⊢;refine⟨qC,fun tl ht=>?_⟩;have T3:=fW ht (.lst []);have et:(MB H4 tl (.lst [])) tl=some (.lst []):=fS;have es5:=T3 _ _ es4;have em5:=T3 _ _ em;dsimp only[gP];generalize MB H4 tl _=H5 at T3 et es5 em5⊢;have S5:=S02.trans (T1.trans (T2.trans T3));have hw5:=hw.same (T1.trans (T2.trans T3));refine⟨_,rfl,sc,_,rfl,S5.seq hq,fun lq hlq=>?_⟩;rw[em2];have T4:=fW hlq (.lst (cs.map V.int));have el:(MB H5 lq (.lst (cs.map V.int))) lq=some (.lst (cs.map V.int)):=fS;have es6:=T4 _ _ es5;have em6:=T4 _ _ em5;have et6:=T4 _ _ et;generalize MB H5 lq _=H6 at T4 el es6 em6 et6⊢;have p0:Pgm ws [] 0:=⟨fun i d h=>(by cases h),rfl,by decide⟩;refine⟨lq,rfl,⟨_,MD el⟩,?_⟩;refine mv (xs:=cs.map V.int) (fun i σ H2=>PgS H sc lq wl cs ws i σ H2) ?_ (fun i σ H7 _ h=>?_) ?_ ?_;rotate_left;·exact MD h.el
 rotate_left;rotate_left
 ·refine⟨st,ml,tl,[],0,none,none,none,rfl,S5.trans T4,S02.free hs,(S02.trans T1).free hm,(S02.trans (T1.trans T2)).free ht,?_,?_,?_,?_,?_,el,?_,?_,?_,hw5.same T4,⟨[],es6,cH _,fun x hx=>nomatch hx⟩,⟨[],em6,rfl,fun x hx=>nomatch hx⟩,et6,p0,by decide⟩;·exact(fZ es hm).symm
  ·exact(fZ es4 ht).symm
  ·exact fZ em ht
  ·exact fZ (T1 _ _ hw.e) hm
  ·exact fZ ((T1.trans T2) _ _ hw.e) ht
  ·exact(fZ es5 hlq).symm
  ·exact(fZ em5 hlq).symm
  ·exact(fZ et hlq).symm
 ·rintro i v σ H7 hv ⟨st,ml,tl,ds,dn,o6,o7,o8,rfl,S,hs,hm,ht,n1,n2,n3,w2,w3,el,n4,n5,n6,hw,k,md,et,p,l7⟩;rw[aO]at hv;obtain⟨c0,hc0,rfl⟩:=dy.mp hv;have ic:=(au.mp hc0).1;refine⟨⟨by decide,by decide,gA⟩,(show(0:Int)<10^Int.toNat 64 by decide+kernel),?_⟩;dsimp only[gP];generalize c0%10^Int.toNat 64=c;refine⟨(show(0:Int)<32 by decide),?_⟩;show if(false ^^ decide (c%32=31))=true then _ else _;by_cases z:c%32=31
  ·rw[gM z];refine iC ?_;have keep:PgS H sc lq wl cs ws (i+ 1) [some (.ref sc),some (.ref wl),some (.ref st),some (.ref ml),some (.ref tl),some (.int (dn:Int)),some (.int c0),some (.int c),o8] H7:=⟨st,ml,tl,ds,dn,_,_,_,rfl,S,hs,hm,ht,n1,n2,n3,w2,w3,el,n4,n5,n6,hw,k.le (cO _),md,et,p,l7⟩;obtain⟨xs,es,ls,al⟩:=id k;obtain⟨mx,emx,lmx,_⟩:=id md;refine⟨st,_,rfl,.inl (MD es),?_⟩;show if decide ((xs.length:Int)>0)=true then _ else _;by_cases y:xs.length=0;·rw[gQ (by lia)];exact gX keep
   rw[gM (by lia)];refine iC ⟨ml,_,rfl,.inl (MD emx),?_⟩;show if decide ((mx.length:Int)<7)=true then _ else _;by_cases y7:¬mx.length<7;·rw[gQ (by lia)];exact gX keep
   rw[gM (by lia)];refine iC ?_;show if decide ((dn:Int)<=100)=true then _ else _;by_cases y100:¬dn<=100;·rw[gQ (by lia)];exact gX keep
   rw[gM (by lia)];have hy:xs[xs.length-1]?=some (xs[xs.length-1]'(by lia)):=bE (by lia);obtain⟨I,hI,hJ⟩:=al _ (aP hy);refine iC ⟨.inl ⟨rfl,_,MD es⟩,st,xs,_,rfl,rfl,es,hy,?_⟩;have F:FS st H7 (MB H7 st (.lst xs.dropLast)):=fun a o e n=>by rw[f9 n];exact e
   have hw8:=hw.fs k F;have md8:=md.fs k n1 F;have et8:=F _ _ et n2;have el8:=F _ _ el n4;have hI8:=hI.fs k F;have S8:gE H (MB H7 st (.lst xs.dropLast)):=gZ S hs _;generalize MB H7 st (.lst xs.dropLast)=H8 at hw8 md8 et8 el8 hI8 S8⊢;refine⟨⟨by decide,by decide⟩,wl,ws,ds.length,_,I,c/32,rfl,hw8,hI8,hJ.g,hJ.pl,fun H9 zz jt t S9 iz de=>?_⟩;dsimp only[gP];have hw9:=hw8.same S9;have md9:=md8.same S9;have et9:=S9 _ _ et8;have el9:=S9 _ _ el8;have S09:=S8.trans S9;obtain⟨w3',ew3,ev3,nw3,lw3⟩:=hw9.at (show 3+ds.length<16 by lia);obtain⟨mx9,em9,lm9,_⟩:=id md9;have add:=p.add ew3 hJ de (by lia);have jp:=hJ.p;have dp:=de.p;have tx:=(Gd.tx ⟨t,de.g⟩ (by lia):jt.tx.length<=200000);obtain⟨a,b,rfl,ea,eb⟩:=id iz;have hx:atI (ws.map V.str) ((3:Int)+(mx9.length:Int))=some (.str w3'):=by rw[lm9,show(3:Int)+(ds.length:Int)=((3+ds.length:Nat):Int) by lia];exact fV ev3
   obtain⟨k1,k2,k3,k4⟩:=IA lw3 tx;refine⟨⟨_,et9⟩,ml,_,rfl,.inl (MD em9),_,hw9.e,fY hx ⟨k1,k2,_,ea,fY (fV (j:=0) rfl) ⟨k3,k4,_,et9,by rw[aD,aD];lia,?_⟩⟩⟩;have Sa:gE H (MB H9 tl (.lst ((ds.map Df.ln).map V.str++[.str ("(def "++w3'++" "++jt.tx++")")]))):=gZ S09 ht _;have eta:(MB H9 tl (.lst ((ds.map Df.ln).map V.str++[.str ("(def "++w3'++" "++jt.tx++")")]))) tl=some (.lst ((ds.map Df.ln).map V.str++[.str ("(def "++w3'++" "++jt.tx++")")])):=fS;have iza:=iz.upd (o:= .lst ((ds.map Df.ln).map V.str++[.str ("(def "++w3'++" "++jt.tx++")")])) et9 Ee;have mda:=md9.upd (o:= .lst ((ds.map Df.ln).map V.str++[.str ("(def "++w3'++" "++jt.tx++")")])) et9 Ee n3;have hwa:Wd (MB H9 tl (.lst ((ds.map Df.ln).map V.str++[.str ("(def "++w3'++" "++jt.tx++")")]))) wl ws:=⟨by rw[f9 w3];exact hw9.e,hw9.l,hw9.n,hw9.d⟩;have ela:(MB H9 tl (.lst ((ds.map Df.ln).map V.str++[.str ("(def "++w3'++" "++jt.tx++")")]))) lq=some (.lst (cs.map V.int)):=by rw[f9 n6];exact el9
   have ema:(MB H9 tl (.lst ((ds.map Df.ln).map V.str++[.str ("(def "++w3'++" "++jt.tx++")")]))) ml=some (.lst mx9):=by rw[f9 n3];exact em9
   dsimp only;generalize MB H9 tl _=Ha at Sa eta iza mda hwa ela ema⊢;obtain⟨a,b,e0,ea,eb⟩:=iza;cases e0;refine⟨_,ea,fY (fV (j:=5) rfl) ?_⟩;dsimp only[gP];refine⟨⟨_,ema⟩,ml,_,rfl,.inl (MD ema),_,hwa.e,fY hx ⟨_,ea,fY (fV (j:=2) rfl) ⟨_,ea,fY (fV (j:=6) rfl) ⟨_,ea,fY (fV (j:=7) rfl) ⟨F9,fun lm hlm=>?_⟩⟩⟩⟩⟩;have Tb:=fW hlm (.lst [.str w3',.int (jt.wt:Int),.str jt.sh,.str jt.mo]);have elm:(MB Ha lm (.lst [.str w3',.int (jt.wt:Int),.str jt.sh,.str jt.mo])) lm=some (.lst [.str w3',.int (jt.wt:Int),.str jt.sh,.str jt.mo]):=fS;generalize MB Ha lm _=Hb at Tb elm⊢;have emb:=Tb _ _ ema;refine⟨_,emb,by lia,?_⟩;have mdc:=(mda.same Tb).add emb elm ew3 de.g.j.mo;have Sc:gE H (MB Hb ml (.lst (mx9++[.ref lm]))):=gZ (Sa.trans Tb) hm _;have etc:(MB Hb ml (.lst (mx9++[.ref lm]))) tl=_:=(f9 n3.symm).trans (Tb _ _ eta);have elc:(MB Hb ml (.lst (mx9++[.ref lm]))) lq=_:=(f9 n5).trans (Tb _ _ ela);have hwc:Wd (MB Hb ml (.lst (mx9++[.ref lm]))) wl ws:=⟨(f9 w2).trans (Tb _ _ hwa.e),hwa.l,hwa.n,hwa.d⟩;have emc:(MB Hb ml (.lst (mx9++[.ref lm]))) ml=_:=fS;dsimp only;generalize MB Hb ml _=Hc at mdc Sc etc elc hwc emc⊢;refine⟨qC,fun st' hst=>?_⟩;have Td:=fW hst (.lst []);have esd:(MB Hc st' (.lst [])) st'=some (.lst []):=fS;dsimp only[gP];generalize MB Hc st' _=Hd at Td esd⊢;refine⟨st',ml,tl,ds++[⟨w3',jt.tx,t⟩],dn+jt.pl,_,_,_,by rw[fB];rfl,Sc.trans Td,Sc.free hst,hm,ht,fZ emc hst,fZ etc hst,n3,w2,w3,Td _ _ elc,fZ elc hst,n5,n6,hwc.same Td,⟨[],esd,cJ _,fun x hx=>nomatch hx⟩,?_,?_,add,?_⟩;·rw[aQ];exact mdc.same Td
   ·rw[Td _ _ etc,bo,bo];rfl
   ·rw[aQ];show ds.length+ 1<=7;lia
  ·rw[gQ z];refine gX ⟨wl,st,ml,ws,ds.length,i,c,dn,rfl,hw,k,n1,md,by lia,by lia,fun H8 v F k8=>?_⟩;exact⟨st,ml,tl,ds,dn,_,_,_,rfl,fun a o e=>F _ _ (S _ _ e) (fZ e hs),hs,hm,ht,n1,n2,n3,w2,w3,F _ _ el n4,n4,n5,n6,hw.fs k F,k8,md.fs k n1 F,F _ _ et n2,p,l7⟩
 ·rintro σ H7 ⟨st,ml,tl,ds,dn,o6,o7,o8,rfl,S,hs,hm,ht,n1,n2,n3,w2,w3,el,n4,n5,n6,hw,k,md,et,p,l7⟩;rw[aD]at k;dsimp only;refine va (fun σ' H'=>X9 fun(ds':List Df) (dn':Nat) (o1 o2 o3 o5 o6 o7 o8:Option V)=>Y6 (σ'=[some (.ref sc),o1,o2,o3,some (.ref tl),o5,o6,o7,o8]) (gE H H') (H' tl=some (.lst ((ds'.map Df.ln).map V.str))) (Pgm ws ds' dn') (ds'≠[]) (ds'.length<=8)) ?_ ?_
  ·rintro _ H8 ⟨ds',dn',o1,o2,o3,o5,o6,o7,o8,rfl,S8,et8,p8,d1,d8⟩;have gu:=(FY (ds:=ds') fun d hd=>by obtain⟨j,hj⟩:=cu hd;obtain⟨a,b,_⟩:=p8.d j d hj;exact⟨hw.n _ (aP a),b⟩).2;have z8:=p8.z;have l8:=p8.l;have sm:=ym (b:=130*150) fun l hl=>cE (gu l hl) (Nat.mul_le_mul_left _ (by lia));rw[aD]at sm;have sm2:ds'.length*(130*150)<=8*(130*150):=dj _ d8;exact⟨rfl,"\n",tl,_,rfl,rfl,MD et8,by rw[aD,show("\n":Str).length=1 by decide+kernel];lia,q _ _ _ _ S8 (p8.pt hw.n hw.d d1 d8)⟩
  intro D' hD;have d0:ds=[]->dn<=100:=fun e=>by have:=p.z;rw[e]at this;show dn<=100;have z:dn=0:=this.symm;lia
  have z0:Js ws ds.length dn (nuI 0):=Js.nu (by decide) gA;have stay:ds≠[]->D'.nx [some (.ref sc),some (.ref wl),some (.ref st),some (.ref ml),some (.ref tl),some (.int (dn:Int)),o6,o7,o8] H7:=fun h=>hD _ _ ⟨ds,dn,_,_,_,_,_,_,_,rfl,S,et,p,h,by lia⟩;refine⟨tl,_,rfl,.inl (MD et),?_⟩;show if(false ^^ decide ((((ds.map Df.ln).map V.str).length:Int)=0))=true then _ else _;rw[eZ,aD,aD];refine or2 (p:=dn<=100) (fun h100=>?_) (fun z=>d0 (bV (by have:=of_decide_eq_true z;lia))) fun z kA=>?_
  ·refine⟨st,cs.length,_,rfl,k,z0,fun H8 x I F k8 ix hJ=>?_⟩;have S8:gE H H8:=fun a o e=>F _ _ (S _ _ e) (fZ e hs);have hw8:=hw.fs k F;have md8:=md.fs k n1 F;have et8:=F _ _ et n2;refine⟨sc,_,rfl,.inl (S8.seq hq),?_⟩;refine⟨wl,ws,ds.length,_,I,_,rfl,hw8,ix,hJ.g,hJ.pl,fun H9 zz jt t S9 iz de=>?_⟩;dsimp only[gP];have hw9:=hw8.same S9;have md9:=md8.same S9;have et9:=S9 _ _ et8;have S09:=S8.trans S9;obtain⟨w3',ew3,ev3,nw3,lw3⟩:=hw9.at (show 3+ds.length<16 by lia);obtain⟨mx9,em9,lm9,_⟩:=id md9;have add:=p.add ew3 hJ de h100;have jp:=hJ.p;have dp:=de.p;have tx:=(Gd.tx ⟨t,de.g⟩ (by lia):jt.tx.length<=200000);obtain⟨a,b,rfl,ea,eb⟩:=id iz;have hx:atI (ws.map V.str) ((3:Int)+(mx9.length:Int))=some (.str w3'):=by rw[lm9,show(3:Int)+(ds.length:Int)=((3+ds.length:Nat):Int) by lia];exact fV ev3
   obtain⟨k1,k2,k3,k4⟩:=IA lw3 tx;refine⟨⟨_,et9⟩,ml,_,rfl,.inl (MD em9),_,hw9.e,fY hx ⟨k1,k2,_,ea,fY (fV (j:=0) rfl) ⟨k3,k4,_,et9,by rw[aD,aD];lia,?_⟩⟩⟩;refine hD _ _ ⟨ds++[⟨w3',jt.tx,t⟩],dn+jt.pl,_,_,_,_,_,_,_,rfl,gZ S09 ht _,?_,add,by simp,by rw[aQ];show ds.length+ 1<=8;lia⟩;rw[fS,bo,bo];rfl
  ·have hne:ds≠[]:=fun e=>by have:=of_decide_eq_false z;rw[e]at this;exact this rfl
   obtain⟨xs,es,ls,al⟩:=id k;refine⟨st,_,rfl,.inl (MD es),?_⟩;show if decide ((xs.length:Int)>0)=true then _ else _;by_cases y:xs.length=0;·rw[gQ (by lia)];exact gX (stay hne)
   rw[gM (by lia)];refine iC ?_;show if decide ((dn:Int)<=100)=true then _ else _;by_cases y100:¬dn<=100;·rw[gQ (by lia)];exact gX (stay hne)
   rw[gM (by lia)];exact iC (kA (by lia))
mutual
theorem Kq {K:Zp} {H:Hp}:∀{v:V} {d:Dt},Im H v d->At K H v d
 |v,_,.flat h=> .flat (by cases v<;>first|rfl|cases h)
 |_,_,.tup h hs=> .tup (MI h) (qz hs)
theorem qz {K:Zp} {H:Hp}:∀{v:List V} {d:List Dt},Ims H v d->Ats K H v d
 |_,_,.nil=> .nil
 |_,_,.cons h hs=> .cons (Kq h) (qz hs)
end
mutual
theorem IB:∀{d:Dt},gF d=true->eqD d d=true/\pG d d=true
 | .flat v,h=>by
  cases v with
  |int n=>exact⟨beq_self_eq_true n,rfl⟩
  |str z=>exact⟨beq_self_eq_true z,rfl⟩
  |_=>simp[gF]at h
 | .tup ds,h=>by rw[gF,eX]at h;exact zo h.2
 | .lst _,h=>by simp[gF]at h
theorem zo:∀{ds:List Dt},gFs ds=true->uD ds ds=true/\pH ds ds=true
 |[],_=>⟨rfl,rfl⟩
 |d::ds,h=>by rw[gFs,eX]at h;obtain⟨a,b⟩:=IB h.1;obtain⟨c,e⟩:=zo h.2;rw[uD,pH,a,b,c,e];exact⟨rfl,rfl⟩
end
theorem qA {α:Type} {f:α->Dt} (h:∀a,gF (f a)=true):∀l:List α,gFs (l.map f)=true
 |[]=>rfl
 |a::l=>by rw[aC,gFs,h a,qA h l];rfl
theorem sX {α:Type} {f:α->Dt} {b:Nat} (h:∀a,sY (f a)<=b):∀l:List α,iK (l.map f)<=b
 |[]=>cJ _
 |a::l=>by rw[aC,iK];exact Nat.max_le.mpr ⟨h a,sX h l⟩
theorem Ef {H:Hp}:∀{ns:List Int} {xs:List V},Ims H xs (ns.map kD)->xs=ns.map V.int
 |[],xs,h=>by cases h;rfl
 |n::ns,xs,h=>by
  rw[aC,kD]at h
  cases h with
  |cons h t=>cases h;rw[Ef t];rfl
def Kr {H:Hp} {v:V} {ns:List Int} (h:Im H v (.tup (ns.map kD))):∃t,v= .ref t/\H t=some (.tup (ns.map V.int)):=by
 cases h with
 |tup e i=>cases Ef i;exact⟨_,rfl,e⟩
def FZ (n:Nat):(aH n true).all id=true:=by
 induction n with
 |zero=>rfl
 |succ n ih=>rw[List.replicate_succ,aY,ih];rfl
def nF {en v:V} {me ha:Zx} {bg:Int}:(fRn en v me ha bg).lookup ("end":Str)=some en/\(fRn en v me ha bg).lookup ("value":Str)=some v/\(fRn en v me ha bg).lookup ("meets":Str)=some (.ref me)/\(fRn en v me ha bg).lookup ("had":Str)=some (.ref ha)/\(fRn en v me ha bg).lookup ("begun":Str)=some (.int bg):=⟨by kernel_rfl,by kernel_rfl,by kernel_rfl,by kernel_rfl,by kernel_rfl⟩
structure ShM (tu:Nat) (s:Ms):Prop where
 e:(Ens s.en/\s.ha.length<=s.bg)\/(s.en=some ("done":Str)/\s.de≠[]/\s.bg=s.ha.length)
 b:s.bg<=tu
 t:s.en=some ("turns":Str)->s.bg=tu
def ShM.le {tu:Nat} {s:Ms} (h:ShM tu s):s.ha.length<=s.bg:=by
 rcases h.e with⟨_,h⟩|⟨_,_,h⟩;·exact h
 ·exact cK h.symm
inductive Rv (C:Zx) (H:Hp) (r:Zx) (s:Ms):Prop
 |mk (dx me ha:Zx) (v:V) (xs ys:List V) (e:Str) (he:s.en=some e) (o:H r=some (.ins C dx (fRn (.str e) v me ha s.bg))) (em:H me=some (.lst xs)) (im:Ims H xs (s.me.reverse.map meD)) (eh:H ha=some (.lst ys)) (ih:Ims H ys (s.ha.reverse.map haD)) (h1:e≠"done"->v= .non) (h2:e="done"->∃t zs,v= .ref t/\H t=some (.tup zs))
def Rv.same {C:Zx} {H H':Hp} {r:Zx} {s:Ms} (h:Rv C H r s) (S:gE H H'):Rv C H' r s:=by obtain⟨dx,me,ha,v,xs,ys,e,he,o,em,im,eh,ih,h1,h2⟩:=h;have k:=gE.tk S;exact⟨dx,me,ha,v,xs,ys,e,he,S _ _ o,S _ _ em,im.mono k,S _ _ eh,ih.mono k,h1,fun z=>let⟨t,zs,a,b⟩:=h2 z;⟨t,zs,a,S _ _ b⟩⟩
theorem ShM.en {tu:Nat} {s:Ms} (h:ShM tu s):∃e,s.en=some e:=by rcases h.e with⟨h|h|h,_⟩|⟨h,_⟩<;>exact⟨_,h⟩
def ShM.dn {tu:Nat} {s:Ms} (h:ShM tu s) (e:s.en=some ("done":Str)):s.de≠[]/\s.bg=s.ha.length:=by
 rcases h.e with⟨h,_⟩|⟨_,h⟩;·exact absurd e h.ne.2
 ·exact h
def Dn:Sp:=fun vs H Q _=>∃n:Int,vs=[.int n]/\Q (.bl true) H
def pR (T:Txt K mg):FO P w base 1 T.d51 Dn:=by refine T.d51.F.rd uS fun cdv A0 outer s0 H vs Q E hr h=>?_;obtain⟨n,rfl,q⟩:=h;refine⟨_,(fU (gj (qD (gC lH rfl T.z_isinstance iM (fM (cv 0) (fM (rO rfl T.z_int yx) fO))) (nS (Gx (gC lH rfl T.z_isinstance iM (fM (cv 0) (fM (rO rfl T.z_bool EG) fO)))))))),?_⟩;exact⟨_,_,_,_,true,rfl,fun _ r=>r,.int n,rfl,_,rfl,iC ⟨_,_,_,_,false,rfl,fun _ r=>r,.int n,rfl,_,rfl,q⟩⟩
inductive XTu (vs:List V) (H:Hp) (Q:VK):Prop
 |mk (a:Zx) (k:Nat) (α:Type) (l:List α) (g:α->List Int) (xs:List V) (e:vs=[.ref a,.int (k:Int)]) (ea:H a=some (.lst xs)) (ia:Ims H xs (l.map fun x=> .tup ((g x).map kD))) (hk:∀x,(g x).length=k) (k9:k<=9) (q:∀H',gE H H'->Q (.bl true) H')
def tK:Sp:=fun vs H Q _=>XTu vs H Q
def tL (T:Txt K mg):FO P w base 2 T.d52 tK:=by
 refine T.d52.F.rd nV fun cdv A0 outer s0 H vs Q E hr h=>?_;obtain⟨a,k,α,l,g,xs,rfl,ea,ia,hk,k9,q⟩:=h;refine⟨_,(fN (gJ (kj (iL (gC lH rfl T.z_isinstance iM (fM (cv 0) (fM (rO rfl T.z_list rP) fO)))))
   (fU (gj mh))
   gi)
  (fN (kl Lh rfl (mq (cv 0)) (pN (i:=2) nV.nd)
   (fU (gJ (PW.pt (mj (kj (iL (gC lH rfl T.z_isinstance iM (fM (cv 2) (fM (rO rfl T.z_tuple kQ) fO))))) (mj (gb v9 (gC gx rfl T.z_len iJ (fM (cv 2) fO)) (cv 1)) (kW (kj (iL (gC (yz rfl) rfl T.z_all DC (fM (tj rfl (Gb (x:="_law_x") rfl gA gA rfl rfl) (rB (cv 2)) (fun _ _ _ _ _=>mC) (fun _ _ _ _ _=>(pF T.d51 (pR T) hr.m (fM (cv 0) fO)))) fO))))))))
    (fU (gj mh))
    gi)))
  (fU (gj mh)))),?_⟩;have sl:=Lc;refine⟨_,_,_,_,true,rfl,fun _ r=>r,.lst ea,rfl,_,rfl,gX ?_⟩;dsimp only[lO];refine⟨a,rfl,⟨_,MD ea⟩,mv (xs:=xs) (fun i σ H3=>∃o,σ=[some (.ref a),some (.int (k:Int)),o]/\gE H H3) ⟨_,rfl,fun _ _ e=>e⟩ (fun i σ H3 _ ⟨_,_,S⟩=>MD (S _ _ ea)) ?_ ?_⟩
 ·rintro i v σ H3 hv ⟨o,rfl,S⟩;obtain⟨d,hd,im⟩:=kg ia hv;rw[aO]at hd;obtain⟨x,hx,rfl⟩:=dy.mp hd;obtain⟨t,rfl,et⟩:=Kr (im.mono (gE.tk S));refine⟨_,_,_,_,true,rfl,fun _ r=>r,.tup et,rfl,_,rfl,?_⟩;refine gX ⟨t,_,rfl,.inr (MI et),?_⟩;show(if(true ^^ decide ((((g x).map V.int).length:Int)=(k:Int)))=true then(_:Prop)else _);rw[aD,hk,gM rfl];refine gX ⟨t,rfl,⟨_,MI et⟩,fun D hD=>?_⟩;have lk:((g x).map V.int).length=k:=by rw[aD];exact hk x
  refine rR k (by lia) (fun ys _=>ys=aH ys.length (.bl true)) (fun _ _ _ h _=>h) hD rfl (fun j H4 S4 hj=>A6 et S4 (by lia)) (fun H4 S4=>by rw[<-lk];exact A7 et S4) rfl ?_ ?_;·intro j H4 v H5 zs Z S4 hj y hz hl hZ;obtain⟨rfl,hv'⟩:=y;have hv':=hv' _ (MI (S4 _ _ et));rw[aO]at hv';obtain⟨n,_,rfl⟩:=dy.mp hv';exact⟨n,rfl,hZ _ _ (fun _ _ e=>e) (by rw[aQ,ba,List.replicate_succ',<-hz])⟩
  ·intro H4 zs S4 hz hl eD;refine⟨D,aH zs.length true,rfl,MD (by rw[eD,List.map_replicate,<-hz]),_,rfl,?_⟩;rw[FZ];exact gX ⟨_,rfl,S.trans S4⟩
 ·rintro σ H3 ⟨o,rfl,S⟩;exact q _ S
inductive XSh (C:Zx) (vs:List V) (H:Hp) (Q:VK):Prop
 |mk (r:Zx) (tu:Nat) (s:Ms) (e:vs=[.ref r,.int (tu:Int)]) (rv:Rv C H r s) (h:ShM tu s) (q:∀H',gE H H'->Q (.bl true) H')
def Ks (C:Zx):Sp:=fun vs H Q _=>XSh C vs H Q
def tM (T:Txt K mg):FO P w base 3 T.d53 (Ks T.c6.a):=by
 refine T.d53.F.rd tE fun cdv A0 outer s0 H vs Q E hr h=>?_;obtain⟨r,tu,s,rfl,⟨dx,me,ha,v,xs,ys,en,he,o,em,im,eh,ih,v1,v2⟩,h,q⟩:=h;refine⟨_,(fN (gJ (PW.pt (mj (kj (iL (gC lH rfl T.z_isinstance iM (fM (cv 0) (fM (AQ rfl T.c6.m) fO))))) (mj (gb vV (gk T.c6.cl T.n6end (cv 0)) (gq (fM fX (fM fX (fM fX (fM fX fO))))) rfl) (kW (kj (iL (pF T.d51 (pR T) hr.m (fM (gk T.c6.cl T.n6begun (cv 0)) fO))))))))
   (fU (gj mh))
   gi)
  (fN (gJ (PW.pt (mj (kj (pj sZ sZ fQ (gk T.c6.cl T.n6begun (cv 0)) (cv 1))) (kW (PW.pt (nR (gb iA (gk T.c6.cl T.n6end (cv 0)) fX) (mi (gb v9 (gk T.c6.cl T.n6begun (cv 0)) (cv 1))))))))
   (fU (gj mh))
   gi)
  (fN (gJ (PW.pt (nR (gb iA (gk T.c6.cl T.n6end (cv 0)) fX) (mi (PW.pt (mj (kj (iL (gC lH rfl T.z_isinstance iM (fM (gk T.c6.cl T.n6value (cv 0)) (fM (rO rfl T.z_tuple kQ) fO))))) (kW (gb v9 (gC gx rfl T.z_len iJ (fM (gk T.c6.cl T.n6had (cv 0)) fO)) (gk T.c6.cl T.n6begun (cv 0)))))))))
   (fU (gj mh))
   gi)
  (fN (gJ (PW.pt (nR (gb v9 (gk T.c6.cl T.n6end (cv 0)) fX) (mi (rA (Ae (gk T.c6.cl T.n6value (cv 0)))))))
   (fU (gj mh))
   gi)
  (fU (gj (qD (pF T.d52 (tL T) hr.m (fM (gk T.c6.cl T.n6had (cv 0)) (fM fQ fO))) (nS (pF T.d52 (tL T) hr.m (fM (gk T.c6.cl T.n6meets (cv 0)) (fM fQ fO))))))))))),?_⟩;obtain⟨f1,f2,f3,f4,f5⟩:=nF (en:= .str en) (v:=v) (me:=me) (ha:=ha) (bg:=(s.bg:Int));have sl:=Lc;refine⟨_,_,_,_,true,rfl,fun _ r=>r,T.c6.ty _ _ _ _ o,T.v1,_,rfl,gX ⟨_,⟨_,_,o,f1⟩,F9,fun p hp=>?_⟩⟩;have S1:=fW hp (.lst [.str "done",.str "turns",.str "wrong",.str "full"]);refine⟨p,_,rfl,.inl (MD fS),rfl,rfl,?_⟩;generalize upd H p _=H1 at S1⊢;replace o:=S1 _ _ o;replace em:=S1 _ _ em;replace eh:=S1 _ _ eh;replace im:=im.mono (gE.tk S1);replace ih:=ih.mono (gE.tk S1);have ee:en="turns"\/en="wrong"\/en="full"\/en="done":=by
  rcases h.e with⟨h|h|h,_⟩|⟨h,_⟩<;>rw[he]at h;·exact .inl (dm.inj h)
  ·exact .inr (.inl (dm.inj h))
  ·exact .inr (.inr (.inl (dm.inj h)))
  ·exact .inr (.inr (.inr (dm.inj h)))
 have ein:(if true=true then !inV (.str en) [.str "done",.str "turns",.str "wrong",.str "full"]else inV (.str en) [.str "done",.str "turns",.str "wrong",.str "full"])=false:=by rcases ee with rfl|rfl|rfl|rfl<;>kernel_rfl
 rw[ein];dsimp only[onB];have hb:=h.b;refine gX ⟨_,⟨_,_,o,f5⟩,_,rfl,_,rfl,gX ?_⟩;dsimp only[lO];have c0:(0:Int)<=(s.bg:Int):=fo _;refine⟨_,⟨_,_,o,f5⟩,_,_,rfl,rfl,_,rfl,?_⟩;rw[gM c0];refine iC ⟨_,_,rfl,rfl,_,rfl,?_⟩;show if(!decide ((s.bg:Int)<=(tu:Int)))=true then _ else _;rw[gM (show(s.bg:Int)<=(tu:Int) by lia)];refine gX ⟨_,⟨_,_,o,f1⟩,?_⟩;show if(false ^^ decide (en="turns"))=true then _ else _;refine if2 ?_ fun z kB=>⟨_,⟨_,_,o,f5⟩,?_⟩;rotate_left;·have z:=of_decide_eq_true ((eZ _).symm.trans z);show if(true ^^ decide ((s.bg:Int)=(tu:Int)))=true then _ else _;rw[gM (show(s.bg:Int)=(tu:Int) by rw[h.t (by rw[he,z])])];exact gX kB
 dsimp only[lO];refine⟨_,⟨_,_,o,f1⟩,?_⟩;show if(false ^^ decide (en="done"))=true then _ else _;refine if2 ?_ fun z kB=>?_;rotate_left;·have z:=of_decide_eq_true ((eZ _).symm.trans z);obtain⟨t,zs,rfl,et⟩:=v2 z;have hd:=(h.dn (by rw[he,z])).2;have ly:=ih.length;rw[aD,bK]at ly;refine⟨_,⟨_,_,o,f2⟩,_,_,_,_,true,rfl,fun _ r=>r,.tup (S1 _ _ et),rfl,_,rfl,gX ⟨_,⟨_,_,o,f4⟩,_,_,rfl,.inl (MD eh),_,⟨_,_,o,f5⟩,?_⟩⟩;show if(true ^^ decide ((ys.length:Int)=(s.bg:Int)))=true then _ else _;rw[gM (show(ys.length:Int)=(s.bg:Int) by lia)];exact gX kB
 dsimp only[lO];refine⟨_,⟨_,_,o,f1⟩,?_⟩;show if(true ^^ decide (en="done"))=true then _ else _;refine if2 ?_ fun z kB=>⟨_,⟨_,_,o,f2⟩,_,rfl,?_⟩;rotate_left
 ·have z:en≠"done":=fun y=>by rw[gM y]at z;cases z
  show if(!decide (v= .non))=true then _ else _;rw[v1 z];exact gX kB
 dsimp only[lO];refine⟨_,⟨_,_,o,f4⟩,?_⟩;refine⟨ha,2,_,s.ha.reverse,fun t=>[t.1,t.2],ys,rfl,eh,ih,fun _=>rfl,by decide,fun H2 S2=>⟨_,rfl,iC ?_⟩⟩;refine⟨_,⟨_,_,S2 _ _ o,f3⟩,?_⟩;exact⟨me,3,_,s.me.reverse,fun t=>[t.1,t.2.1,t.2.2],xs,rfl,S2 _ _ em,im.mono (gE.tk S2),fun _=>rfl,by decide,fun H3 S3=>q H3 (S1.trans (S2.trans S3))⟩
def Eg {xs:List V} {n:Nat}:rb xs none (some (n:Int))=xs.take n:=by
 unfold rb;rw[M0,Ng,cc,Nat.sub_zero];by_cases h:n<=xs.length;·rw[Nat.min_eq_left h]
 ·rw[Nat.min_eq_right (by lia),bx,b9 (by lia)]
theorem Ims.takeN {H:Hp}:∀{xs:List V} {ds:List Dt} (n:Nat),Ims H xs ds->Ims H (xs.take n) (ds.take n)
 |[],_,n,h=>by cases h;rw[cA,cA];exact .nil
 |x::xs,_,0,h=> .nil
 |x::xs,_,n+ 1,h=>by
  cases h with
  |cons h t=>exact .cons h (Ims.takeN n t)
def Dp {K:Zp} {H:Hp} {a b:Zx} {xs ys:List V} {α:Type} {f:α->Dt} {l:List α} {neg:Bool} {Q:VK} (ea:H a=some (.lst xs)) (eb:H b=some (.lst ys)) (ia:Ims H xs (l.map f)) (ib:Ims H ys (l.map f)) (hg:gFs (l.map f)=true) (hd:iK (l.map f)<=9) (q:Q (.bl (!neg)) H):G3 K neg (.ref a) (.ref b) H Q:=by
 obtain⟨e1,e2⟩:=zo hg;refine⟨a,b,.lst (l.map f),.lst (l.map f),rfl,rfl,.lst (MD ea) (qz ia),.lst (MD eb) (qz ib),?_,?_,?_⟩;·rw[pG,gT rfl];exact e2
 ·rw[sY];lia
 ·rw[eqD,e1];cases neg<;>exact q
def IT:∀l:List (Int×Int),gFs (l.map haD)=true/\iK (l.map haD)<=9:=fun l=>⟨qA (fun x=>rfl) l,cE (sX (b:=1) (fun x=>cH _) l) (by decide)⟩
def IU:∀l:List (Int×Int×Int),gFs (l.map meD)=true/\iK (l.map meD)<=9:=fun l=>⟨qA (fun x=>rfl) l,cE (sX (b:=1) (fun x=>cH _) l) (by decide)⟩
inductive XAk (C:Zx) (vs:List V) (H:Hp) (Q:VK):Prop
 |mk (a b:Zx) (s:Ms) (e:vs=[.ref a,.ref b]) (x:Rv C H a s) (y:Rv C H b s) (q:Q (.bl true) H)
def Kt (C:Zx):Sp:=fun vs H Q _=>XAk C vs H Q
def vC (T:Txt K mg):FO P w base 1 T.d54 (Kt T.c6.a):=by
 refine T.d54.F.rd uT fun cdv A0 outer s0 H vs Q E hr h=>?_;obtain⟨a,b,s,rfl,⟨dx,me,ha,v,xs,ys,en,he,o,em,im,eh,ih,_,_⟩,⟨dx',me',ha',v',xs',ys',en',he',o',em',im',eh',ih',_,_⟩,q⟩:=h;rw[he]at he';cases dm.inj he';refine⟨_,(fN (gJ (PW.pt (mj (gb v9 (gk T.c6.cl T.n6end (cv 0)) (gk T.c6.cl T.n6end (cv 1))) (kW (gb v9 (gk T.c6.cl T.n6begun (cv 0)) (gk T.c6.cl T.n6begun (cv 1))))))
   (fU (gj mh))
   gi)
  (fU (gj (qD (jO (yA hr) (gk T.c6.cl T.n6had (cv 0)) (gk T.c6.cl T.n6had (cv 1))) (nS (jO (yA hr) (gk T.c6.cl T.n6meets (cv 0)) (gk T.c6.cl T.n6meets (cv 1)))))))),?_⟩;obtain⟨f1,f2,f3,f4,f5⟩:=nF (en:= .str en) (v:=v) (me:=me) (ha:=ha) (bg:=(s.bg:Int));obtain⟨g1,g2,g3,g4,g5⟩:=nF (en:= .str en) (v:=v') (me:=me') (ha:=ha') (bg:=(s.bg:Int));refine⟨_,⟨_,_,o,f1⟩,_,⟨_,_,o',g1⟩,?_⟩;show if(true ^^ decide (en=en))=true then _ else _;rw[gM rfl];refine gX ⟨_,⟨_,_,o,f5⟩,_,⟨_,_,o',g5⟩,?_⟩;show if(true ^^ decide ((s.bg:Int)=(s.bg:Int)))=true then _ else _;rw[gM rfl];refine gX ?_;dsimp only[lO];refine⟨_,⟨_,_,o,f4⟩,_,⟨_,_,o',g4⟩,?_⟩;refine Dp eh eh' ih ih' (IT _).1 (IT _).2 ⟨_,rfl,iC ⟨_,⟨_,_,o,f3⟩,_,⟨_,_,o',g3⟩,?_⟩⟩;exact Dp em em' im im' (IU _).1 (IU _).2 q
inductive XBg (C:Zx) (vs:List V) (H:Hp) (Q:VK):Prop
 |mk (a b:Zx) (s t:Ms) (e:vs=[.ref a,.ref b]) (x:Rv C H a s) (y:Rv C H b t) (x1:Ext s t) (hl:s.ha.length<=s.bg) (q:∀H',gE H H'->Q (.bl true) H')
def Ku (C:Zx):Sp:=fun vs H Q _=>XBg C vs H Q
def qB (T:Txt K mg):FO P w base 1 T.d55 (Ku T.c6.a):=by
 refine T.d55.F.rd qr fun cdv A0 outer s0 H vs Q E hr h=>?_;obtain⟨a,b,s,t,rfl,⟨dx,me,ha,v,xs,ys,en,he,o,em,im,eh,ih,_,_⟩,⟨dx',me',ha',v',xs',ys',en',he',o',em',im',eh',ih',_,_⟩,⟨_,⟨m1,e1⟩,h1,e2⟩,hl,q⟩:=h;refine⟨_,(fN (gJ (PW.pt (mj (gb (AW hr) (gk T.c6.cl T.n6had (cv 0)) (kz oo (gk T.c6.cl T.n6had (cv 1)) lP (lQ (gC gx rfl T.z_len iJ (fM (gk T.c6.cl T.n6had (cv 0)) fO))))) (kW (gb qT (gC gx rfl T.z_len iJ (fM (gk T.c6.cl T.n6had (cv 0)) fO)) (gk T.c6.cl T.n6begun (cv 0))))))
   (fU (gj mh))
   gi)
  (fU (gj (jO (yA hr) (gk T.c6.cl T.n6meets (cv 0)) (kz oo (gk T.c6.cl T.n6meets (cv 1)) lP (lQ (gC gx rfl T.z_len iJ (fM (gk T.c6.cl T.n6meets (cv 0)) fO)))))))),?_⟩;obtain⟨f1,f2,f3,f4,f5⟩:=nF (en:= .str en) (v:=v) (me:=me) (ha:=ha) (bg:=(s.bg:Int));obtain⟨g1,g2,g3,g4,g5⟩:=nF (en:= .str en') (v:=v') (me:=me') (ha:=ha') (bg:=(t.bg:Int));have lx:=im.length;have ly:=ih.length;rw[aD,bK]at lx ly;have i1:=Ims.takeN ys.length ih';have i2:=Ims.takeN xs.length im';have k1:(t.ha.reverse.map haD).take ys.length=s.ha.reverse.map haD:=by rw[e2,List.reverse_append,bo,List.take_left' (by rw[aD,bK,ly])]
 have k2:(t.me.reverse.map meD).take xs.length=s.me.reverse.map meD:=by rw[e1,List.reverse_append,bo,List.take_left' (by rw[aD,bK,lx])]
 rw[k1]at i1;rw[k2]at i2;refine⟨_,⟨_,_,o,f4⟩,_,⟨_,_,o',g4⟩,?_⟩;refine⟨_,⟨_,_,o,f4⟩,_,_,rfl,.inl (MD eh),_,rfl,_,_,rfl,MD eh',fun p hp=>?_⟩;rw[Eg];have S1:=fW hp (.lst (ys'.take ys.length));have ep:(upd H p (.lst (ys'.take ys.length))) p=some (.lst (ys'.take ys.length)):=fS;generalize upd H p _=H1 at S1 ep⊢;have t1:=gE.tk S1;refine Dp (S1 _ _ eh) ep (ih.mono t1) (i1.mono t1) (IT _).1 (IT _).2 ?_;dsimp only[onB,fb];refine gX ⟨_,⟨_,_,S1 _ _ o,f4⟩,_,_,rfl,.inl (MD (S1 _ _ eh)),_,⟨_,_,S1 _ _ o,f5⟩,?_⟩;show if decide ((ys.length:Int)>(s.bg:Int))=true then _ else _;rw[gQ (by lia)];refine gX ?_;dsimp only[lO];refine⟨_,⟨_,_,S1 _ _ o,f3⟩,_,⟨_,_,S1 _ _ o',g3⟩,_,⟨_,_,S1 _ _ o,f3⟩,_,_,rfl,.inl (MD (S1 _ _ em)),_,rfl,_,_,rfl,MD (S1 _ _ em'),fun p2 hp2=>?_⟩;rw[Eg];have S2:=fW hp2 (.lst (xs'.take xs.length));have ep2:(upd H1 p2 (.lst (xs'.take xs.length))) p2=some (.lst (xs'.take xs.length)):=fS;generalize upd H1 p2 _=H2 at S2 ep2⊢;have t2:=gE.tk (S1.trans S2);exact Dp ((S1.trans S2) _ _ em) ep2 (im.mono t2) (i2.mono t2) (IU _).1 (IU _).2 (q _ (S1.trans S2))
open GR.Internal (isName Gp Op)
open TM.Internal (Kn Tr jb szs oks tks jM rws)
def IC {ρ:Ro} (h:ρ.ok):gF ρ.d=true/\sY ρ.d<=5:=by
 have ks:∀l:List Int,gFs (l.map kD)=true/\iK (l.map kD)<=0:=fun l=>⟨qA (fun n=>rfl) l,cK (zX l).2.2⟩
 cases ρ with
 |rcd l=>
  have o:l.length<=100:=h.1;have z:gF (.tup (l.map fdD))=true:=by rw[gF,qA (fun k=>rfl),gM (by rw[aD];lia)];rfl
  have y:iK (l.map fdD)<=1:=sX (f:=fdD) (b:=1) (fun k=>cH _) l;refine⟨?_,?_⟩;·show gF (.tup [sD "rec",.tup (l.map fdD)])=true;rw[gF,gFs,gFs,gFs,z];rfl
  ·show max 0 (max (iK (l.map fdD)+ 1) 0)+ 1<=5;lia
 |case k l=>
  have o:l.length<=100:=h.1;have z:gF (.tup (l.map amD))=true:=by rw[gF,qA (fun k=>rfl),gM (by rw[aD];lia)];rfl
  have y:iK (l.map amD)<=1:=sX (f:=amD) (b:=1) (fun k=>cH _) l;refine⟨?_,?_⟩;·show gF (.tup [sD "case",kD k,.tup (l.map amD)])=true;rw[gF,gFs,gFs,gFs,gFs,z];rfl
  ·show max 0 (max 0 (max (iK (l.map amD)+ 1) 0))+ 1<=5;lia
 |row l=>
  have o:l.length<=100:=h;obtain⟨z,y⟩:=ks l;refine⟨?_,?_⟩;·show gF (.tup [sD "row",.tup (l.map kD)])=true;rw[gF,gFs,gFs,gFs,gF,z,gM (show(l.map kD).length<=1000 by rw[aD];lia)];rfl
  ·show max 0 (max (iK (l.map kD)+ 1) 0)+ 1<=5;lia
 |op o' l=>
  have o:l.length<=100:=h.2;obtain⟨z,y⟩:=ks l;refine⟨?_,?_⟩;·show gF (.tup (sD o'::l.map kD))=true;rw[gF,gFs,z,gM (show(sD o'::l.map kD).length<=1000 by rw[aA,aD];lia)];rfl
  ·show max 0 (iK (l.map kD))+ 1<=5;lia
 |_=>exact⟨rfl,by show 0+ 1<=5;decide⟩
theorem Cc:∀{l:List Ro},(∀ρ∈l,ρ.ok)->gFs (l.map Ro.d)=true/\iK (l.map Ro.d)<=9
 |[],_=>⟨rfl,cJ _⟩
 |ρ::l,h=>by obtain⟨a,b⟩:=IC (h ρ ai);obtain⟨c,d⟩:=Cc fun r hr=>h r (aj _ hr);rw[aC,gFs,a,c,iK];exact⟨rfl,by lia⟩
theorem ID:∀l:List Nat,gFs (l.map MV)=true
 |[]=>rfl
 |k::l=>by rw[aC,gFs,ID l];rfl
def IE {x:Str} {ns:Zd} {ts:List Tr} (p:Pt x ns ts):∃(ρs:List Ro) (ho:Nat->Option Hm) (out:Nat->Str->Option Hm),IS ns (jb ts 0) ρs out/\(∀(k:Nat) (ρ:Ro),ρs[k]?=some ρ->ho k=duo out k ρ)/\ρs.map Ro.d=rws ts 0/\(∀ρ∈ρs,U0 ρ)/\∀tu:Nat,tu<=2001->∃m s,qw ρs ho tu m (jb ts 0) s0M s/\200*m<=8000000/\ShM tu s:=by
 have gd:=FE p.nd p.h12 p.l.symm p.ok p.z;obtain⟨A,B⟩:=Ib p.ok;have hu:∀ρ∈(pgG ns ts 0 0).map Ld,U0 ρ:=fun ρ hρ=>by
  have:=gd.ok ρ hρ
  cases ρ with
  |op o l=>exact this.1
  |_=>trivial
 refine⟨_,(fun k=>match(pgG ns ts 0 0)[k]? with|some x=>duo (D8 (pgG ns ts 0 0)) k x.1|none=>none),_,gd,fun k ρ h=>?_,?_,hu,fun tu ht=>?_⟩;·rw[aO]at h;obtain⟨y,e,rfl⟩:=dy.mp h;dsimp only;rw[e]
 ·rw[bF];exact HY ns ts 0 0 (yh p.ok)
 ·have l0:(jb ts 0).length=ts.length:=ML _ _;have l1:=p.l;have l2:=p.h1;have l3:=p.h12;obtain⟨m,s,R,hm,e⟩:=zc (tu:=tu) B gd.ok hu (jb ts 0) 0 s0M (fun j r h=>by rw[cX];exact A j r h) rfl rfl rfl rfl (fun v hv=>nomatch hv) rfl (cJ _) (by lia);obtain⟨_,b,c⟩:=wG gd.ok hu R (cJ _) rfl;have hm:m<=3*(tu-0)+ 4*(jb ts 0).length+ 1:=hm;exact⟨m,s,R,by lia,e,b,c⟩
def Kv:Pt "(def round (fn x (call round x)))\n(def all (call round 0))" ["round","all"] [.mk (.fn "x") [.mk (.op "call" 2) [.mk (.name "round") [],.mk (.name "x") []]],.mk (.op "call" 2) [.mk (.name "round") [],.mk (.num 0) []]]:=by
 let ws:List Str:=["x","one","two","round","all"];have hn:∀w∈ws,isName w=true:=gA;have nd:ws.Nodup:=gA;have nr:isName "round"=true:=gA;have nx:isName "x"=true:=gA;have p0:Pgm ws [] 0:=⟨fun i d h=>(by cases h),rfl,by decide⟩;have r0:JN ws 0 ⟨"round",1,1,fun _=>0,true,1,"fn",""⟩ (.mk (.name "round") []):=⟨qP nr Dh (fun _=>cJ _),qQ (.inr (.inr ⟨rfl,rfl⟩))⟩;have x0:JN ws 0 ⟨"x",1,1,fun v=>if v=0 then 1 else 0,false,1,"any",""⟩ (.mk (.name "x") []):=⟨qP nx mV (fun v=>by show(if v=0 then 1 else 0)<=1;split<;>lia),qQ (.inl ⟨0,by decide,rfl,by show(if 0=0 then 1 else 0)≠0;decide⟩)⟩;have c0:=oh (o:="call") (sh:="any") (mo:="") gA gA r0 x0 mV;have f0:=Di (c0.bind (v:=0) (x:="x") rfl) nx;have e0:De ws 0 (nuI 0) _ _:=⟨f0,fun v h=>by
  match v,h with
  |0,_=>rfl
  |1,_=>rfl
  |2,_=>rfl,fun _=>rfl,by decide,by decide⟩;have p1:=p0.add (w:="round") rfl (Js.nu (by decide) gA) e0 (by decide);have r1:JN ws 1 ⟨"round",1,1,fun _=>0,false,1,"fn",""⟩ (.mk (.name "round") []):=⟨qP nr Dh (fun _=>cJ _),qQ (.inr (.inl ⟨0,by decide,rfl⟩))⟩;have c1:=oh (o:="call") (sh:="any") (mo:="") gA gA r1 (sR (n:=0) (by decide) gA) mV;have e1:De ws 1 (nuI 0) _ _:=⟨c1,(fun v _=>rfl),(fun h=>by cases h),by decide,by decide⟩;have p2:=p1.add (w:="all") rfl (Js.nu (by decide) gA) e1 (by decide);have P:=p2.pt hn nd (by simp) (by decide);exact P
open GR.Internal (isName Gp Op)
open TM.Internal (Kn Tr jb szs oks tks jM rws)
def RnA.rv {C:Zx} {H0 H:Hp} {r:Zx} {s:Ms} {tu:Nat} (h:RnA C H0 H r s) (k:ShM tu s):Rv C H r s:=by
 obtain⟨dx,v,me,ha,_,o,⟨xs,em,im⟩,⟨ys,eh,ih⟩,v1,v2⟩:=h.o;obtain⟨e,he⟩:=k.en;rw[he]at o;refine⟨dx,me,ha,v,xs,ys,e,he,o,em,im,eh,ih,fun n=>v1 fun z=>?_,fun z=>?_⟩;·rw[he]at z;exact n (dm.inj z)
 ·subst z;obtain⟨l,u,hl⟩:∃l u,s.de=l++[u]:=⟨_,_,(bM (k.dn he).1).symm⟩;obtain⟨t,y,e1,e2,_⟩:=nY (v2 u he (by rw[hl];exact cn));exact⟨t,_,e1,e2⟩
structure Ch (CP:Zx) (H:Hp) (g lh nl tl rl dx:Zx) (rwv ys:List V) (ns:Zd) (rs:List Nat) (ρs:List Ro) (ho:Nat->Option Hm):Prop where
 pr:PrA CP H g nl tl rl dx rwv ns rs ρs
 el:H lh=some (.lst ys)
 ho:∀(k:Nat) (ρ:Ro),ρs[k]?=some ρ->∃y,ys[k]?=some y/\Im H y (hoD (ho k))
theorem Ch.same {CP:Zx} {H H':Hp} {g lh nl tl rl dx:Zx} {rwv ys:List V} {ns:Zd} {rs:List Nat} {ρs:List Ro} {ho:Nat->Option Hm} (h:Ch CP H g lh nl tl rl dx rwv ys ns rs ρs ho) (S:gE H H'):Ch CP H' g lh nl tl rl dx rwv ys ns rs ρs ho:=⟨h.pr.same S,S _ _ h.el,fun k ρ e=>let⟨y,a,b⟩:=h.ho k ρ e;⟨y,a,b.mono (gE.tk S)⟩⟩
def Ch.run {C CP:Zx} {H:Hp} {g lh nl tl rl dx:Zx} {rwv ys:List V} {ns:Zd} {rs:List Nat} {ρs:List Ro} {ho:Nat->Option Hm} {tu m:Nat} {s:Ms} {Q:VK} (h:Ch CP H g lh nl tl rl dx rwv ys ns rs ρs ho) (ok:∀ρ∈ρs,ρ.ok) (hu:∀ρ∈ρs,U0 ρ) (R:qw ρs ho tu m rs s0M s) (hm:200*m<=8000000) (k:ShM tu s) (q:∀r H',gE H H'->RnA C H H' r s->Q (.ref r) H'):HN C CP [.ref g,.ref lh,.int (tu:Int)] H Q E0:=
 ⟨g,lh,nl,tl,rl,dx,tu,m,rwv,ys,s,ns,rs,ρs,ho,rfl,h.pr,h.el,h.ho,ok,hu,R,hm,k.en,fun e=>(k.dn e).1,fun r H' S _ ra=>q r H' S ra⟩
def Kw {H:Hp} {ρs:List Ro} {ho:Nat->Option Hm} {ys:List V} (hl:ys.length=ρs.length) (h:∀(k:Nat) (ρ:Ro),ρs[k]?=some ρ->∃y,ys[k]?=some y/\Im H y (hoD (ho k))):Ims H ys ((aa ys.length).map fun k=>hoD (ho k)):=by
 have go:∀n,n<=ys.length->Ims H (ys.take n) ((aa n).map fun k=>hoD (ho k)):=fun n=>by
  induction n with
  |zero=>exact fun _=> .nil
  |succ n ih=>intro hn;obtain⟨y,hy,iy⟩:=h n _ (bE (by lia:n<ρs.length));rw[List.range_succ,bo,b6,hy];exact(ih (by lia)).app (.cons iy .nil)
 have:=go ys.length (cH _);rwa[bx]at this
def Kx:∀h:Option Hm,eqD (hoD h) (hoD h)=true/\pG (hoD h) (hoD h)=true/\sY (hoD h)<=1
 |none=>⟨rfl,rfl,cJ _⟩
 |some h=>by obtain⟨a,b⟩:=IB (d:=hmD h) rfl;exact⟨a,b,cH _⟩
theorem Eh {f:Nat->Dt} (h:∀k,eqD (f k) (f k)=true/\pG (f k) (f k)=true/\sY (f k)<=1):∀l:List Nat,uD (l.map f) (l.map f)=true/\pH (l.map f) (l.map f)=true/\iK (l.map f)<=1
 |[]=>⟨rfl,rfl,cJ _⟩
 |k::l=>by obtain⟨a,b,c⟩:=h k;obtain⟨d,e,g⟩:=Eh h l;rw[aC,uD,pH,iK,a,b,d,e];exact⟨rfl,rfl,by lia⟩
def F0 {K:Zp} {H:Hp} {a b:Zx} {xs ys:List V} {ds:List Dt} {neg:Bool} {Q:VK} (ea:H a=some (.lst xs)) (eb:H b=some (.lst ys)) (ia:Ims H xs ds) (ib:Ims H ys ds) (e1:uD ds ds=true) (e2:pH ds ds=true) (hd:iK ds<=9) (q:Q (.bl (!neg)) H):G3 K neg (.ref a) (.ref b) H Q:=by
 refine⟨a,b,.lst ds,.lst ds,rfl,rfl,.lst (MD ea) (qz ia),.lst (MD eb) (qz ib),?_,?_,?_⟩;·rw[pG,gT rfl];exact e2
 ·rw[sY];lia
 ·rw[eqD,e1];cases neg<;>exact q
def IF {i:Nat} {σ:St} {x:V} {H:Hp} {Q:VK} (h:σ[i]?=some (some x)) (k:Q x H):cV i σ H Q:=by show onV σ[i]? _;rw[h];exact k
def Ky {K:Zp} {i j:Nat} {a b:Zx} {xs ys:List V} {ds:List Dt} {t2:TT} {A u:TS} {D:pT} {σ:St} {H:Hp} (h1:σ[i]?=some (some (.ref a))) (h2:σ[j]?=some (some (.ref b))) (ea:H a=some (.lst xs)) (eb:H b=some (.lst ys)) (ia:Ims H xs ds) (ib:Ims H ys ds) (e1:uD ds ds=true) (e2:pH ds ds=true) (hd:iK ds<=9) (k:t2 σ H fun c H1=>if c=true then A {D with nx:=u D} σ H1 else u D σ H1):xh (z9 (tOr (cT (tOp (G3 K true) (cV i) (cV j))) t2) A lO) u D σ H:=by show onV σ[i]? _;rw[h1];show onV σ[j]? _;rw[h2];dsimp only[onV];refine F0 ea eb ia ib e1 e2 hd ?_;dsimp only[onB,fb];exact gX k
def F8 {f:Zx} {fd:Zs} (T:Txt K mg) (D:Dk P w K mg) (W:Wk P w T) (F:Fun K "law" "law" uO f fd):tU P w K mg base CX0 150 f fd ["_law_script"] (yN K):=by
 have g1:=zT (P:=P) (w:=w) (base:=base) T;have g2:=zU T g1;have g3:=wo T g1;have ga:=su (P:=P) (w:=w) (base:=base) T;have g4:=tF (P:=P) (w:=w) (base:=base) T ga;have gc:=tG (P:=P) (w:=w) (base:=base) T;have gp:=oR T g4;have gn:=oS T g4 g2;have ge:=Br T D ga g4 gp gn g2 g3 gc 24;have gD27:=E2 T (xJ T) (pK T) ga gp gn ge gc (oT T);have gD22:=HP (base:=base) T W;clear g1 g2 g3 ga g4 gc gp gn ge;refine F.rd lK fun _ A _ s H vs Q E hr h=>?_;obtain⟨ad,ns,rfl,hsq,hlen,q⟩:=h;refine⟨_,(fN (pS (i:=1) lK.nd (gC (v7 rfl) rfl T.z_sum DD (fM (kz oo (cv 0) (lQ (GB Dw fQ)) lP) fO)))
  (fN (pS (i:=2) lK.nd (gB hG (gB jh (cv 1) fQ) fQ))
  (fN (pS (i:=3) lK.nd (pF T.d50 (sV T) hr.m (fM (cv 0) fO)))
  (fN (gJ (gb iA (gB hG (cv 1) fQ) fQ)
   (fN (pS (i:=3) lK.nd fX)
   (fU (pS (i:=2) lK.nd (gB A9 fQ (gB hG (gB jh (cv 1) fQ) fQ)))))
   gi)
  (fN (pS (i:=4) lK.nd (pF T.d27 gD27 hr.m (fM (cv 3) fO)))
  (fN (pS (i:=5) lK.nd (pF T.d29 (xO T) hr.m (fM (cv 4) fO)))
  (fN (pS (i:=6) lK.nd (iG mZ rfl T.z_list rP (fM (gk T.c7.cl T.n7rows (cv 4)) fO)))
  (fN (pS (i:=7) lK.nd (iG mZ rfl T.z_list rP (fM (cv 5) fO)))
  (fN (pS (i:=8) lK.nd (pF T.d22 gD22 hr.m (fM (cv 4) (fM (cv 5) (fM (cv 2) fO)))))
  (fN (pS (i:=9) lK.nd (pF T.d22 gD22 hr.m (fM (cv 4) (fM (cv 5) (fM (cv 2) fO)))))
  (fN (gJ (PW.pt (mj (kj (iL (pF T.d53 (tM T) hr.m (fM (cv 8) (fM (cv 2) fO))))) (kW (kj (iL (pF T.d54 (vC T) hr.m (fM (cv 8) (fM (cv 9) fO))))))))
   (fU (gj mh))
   gi)
  (fN (gv (iO (jq eO eP eQ gK (MC (gk T.c6.cl T.n6had (cv 9))) (fM (MC gR) fO))))
  (fN (gv (rL eO PySem.F.slot_list_clear PySem.F.type_list_clear Cz (gk T.c6.cl T.n6meets (cv 9))))
  (fN (pS (i:=10) lK.nd (gB hG (gB jh (cv 1) fQ) (gB jE (cv 2) fQ)))
  (fN (pS (i:=11) lK.nd (pF T.d22 gD22 hr.m (fM (cv 4) (fM (cv 5) (fM (cv 10) fO)))))
  (fN (gJ (PW.pt (mj (kj (iL (pF T.d53 (tM T) hr.m (fM (cv 11) (fM (cv 10) fO))))) (kW (kj (iL (pF T.d55 (qB T) hr.m (fM (cv 11) (fM (cv 8) fO))))))))
   (fU (gj mh))
   gi)
  (fN (gJ (PW.pt (mj (gb (AW hr) (cv 5) (cv 7)) (kW (gb (AW hr) (gk T.c7.cl T.n7rows (cv 4)) (cv 6)))))
   (fU (gj mh))
   gi)
  (fN (gJ (gb tm (cv 10) (gk T.c6.cl T.n6begun (cv 8)))
   (fU (gj (qD (jO iA (gk T.c6.cl T.n6end (cv 11)) fX) (nS (jO iA (gk T.c6.cl T.n6begun (cv 11)) (cv 10))))))
   gi)
  (fN (gJ (kj (iL (pF T.d54 (vC T) hr.m (fM (cv 11) (fM (cv 8) fO)))))
   (fU (gj mh))
   gi)
  (fN (gJ (gb iA (gk T.c6.cl T.n6end (cv 8)) fX)
   (fU (gj (jO iA (cv 10) (cv 2))))
   gi)
  (fU (gj (qD (jO (yA hr) (gk T.c7.cl T.n7rows (cv 4)) (cv 6)) (nS (pF T.d54 (vC T) hr.m (fM (cv 8) (fM (pF T.d22 gD22 hr.m (fM (cv 4) (fM (iG mZ rfl T.z_list rP (fM (cv 5) fO)) (fM (gB jE (cv 2) fQ) fO)))) fO))))))))))))))))))))))))))),?_⟩;have sl:=Lc;obtain⟨ks1,ek1,_⟩:=vB ns (some (-1)) none;refine⟨_,rfl,_,rfl,ad,_,rfl,hsq,fun c1 hc1=>⟨c1,ks1,rfl,MD (by rw[fS,ek1]),fun n0=>?_⟩⟩;have S1:=fW hc1 (.lst (rb (ns.map V.int) (some (-1)) none));dsimp only[gP];generalize upd H c1 _=H1 at S1⊢;refine⟨⟨by decide,by decide⟩,(show(0:Int)<301 by decide),?_⟩;dsimp only[gP];obtain⟨tu0,et0,lt0⟩:=emN (n0/8) (show(0:Int)<301 by decide);rw[et0];refine⟨ad,ns,rfl,S1.seq hsq,hlen,fun H2 x nms ts S2 pt=>?_⟩;dsimp only[gP];refine va (fun σ' H'=>H'=H2/\X4 fun(x:Str) (nms:Zd) (ts:List Tr) (tu:Nat)=>Y3 (tu<=2000) (Pt x nms ts) (σ'=[some (.ref ad),some (.int n0),some (.int (tu:Int)),some (.str x),none,none,none,none,none,none,none,none])) ?_ ?_;rotate_left
 ·intro D' hD;refine⟨(show(0:Int)<8 by decide),?_⟩;show if(false ^^ decide (n0%8=0))=true then _ else _
  cases(false ^^ decide (n0%8=0))with
  |false=>exact gX (hD _ _ ⟨rfl,x,nms,ts,tu0,by lia,pt,rfl⟩)
  |true=>refine iC ⟨⟨by decide,by decide⟩,(show(0:Int)<301 by decide),?_⟩;dsimp only;rw[et0];refine hD _ _ ⟨rfl,_,_,_,2000-tu0,by lia,Kv,?_⟩;rw[show((2000-tu0:Nat):Int)=2000-(tu0:Int) by lia];rfl
 rintro _ H2 ⟨rfl,x,nms,ts,tu,htu,pt,rfl⟩;obtain⟨ρs,ho,out,gd,hE,eρ,hu,RR⟩:=IE pt;have hv:GR.Internal.wordsV x.cps.toList=(vD nms ts).map V.str:=by rw[<-(show GR.Internal.toks x=vD nms ts from pt.tk)];exact GR.Internal.toks_v _
 refine⟨x,nms,ts,rfl,pt.xl,hv,Ie pt.k pt.o,pt.l,pt.n,yh pt.ok,pt.ne,pt.z,pt.h1,pt.h12,fun g nl tl rl rtv rwv H3 S3 pr tr tw=>?_⟩;rw[<-eρ]at tw;obtain⟨gr,dr⟩:=Cc gd.ok;have ertv:=Ih (rp tr (ID _));have erwv:=rp tw gr;obtain⟨dx,ob⟩:=pr.ob;have prr:=pr.rt;rw[ertv]at prr;have prA:PrA T.c7.a H3 g nl tl rl dx rwv nms (jb ts 0) ρs:=⟨ob,pr.nm,prr,pr.rw,erwv⟩;dsimp only[gP];refine⟨g,nl,tl,rl,dx,rwv,_,_,_,_,rfl,prA,gd,fun lh ys H4 S4 _ el ly hoa=>?_⟩;dsimp only[gP];have C4:Ch T.c7.a H4 g lh nl tl rl dx rwv ys nms (jb ts 0) ρs ho:=⟨prA.same S4,el,fun k ρ e=>by have hil:=(au.mp e).1;obtain⟨y,hy⟩:∃y,ys[k]?=some y:=⟨_,bE (by lia)⟩;exact⟨y,hy,by rw[hE k ρ e];exact hoa k y ρ hy e⟩⟩;clear pr tr tw erwv prr hoa ob;refine⟨_,⟨_,_,C4.pr.o,oU _ _ _⟩,rl,_,rfl,.inl (MD C4.pr.w),fun p6 h6=>?_⟩;have T5:=fW h6 (.lst rwv);have e6:(upd H4 p6 (.lst rwv)) p6=some (.lst rwv):=fS;dsimp only[gP];generalize upd H4 p6 _=H5 at T5 e6⊢;refine⟨lh,_,rfl,.inl (MD (T5 _ _ C4.el)),fun p7 h7=>?_⟩;have T6:=fW h7 (.lst ys);have e7:(upd H5 p7 (.lst ys)) p7=some (.lst ys):=fS;dsimp only[gP];generalize upd H5 p7 _=H6 at T6 e7⊢;have C6:=C4.same (T5.trans T6);replace e6:=T6 _ _ e6;obtain⟨m1,s1,R1,b1,k1⟩:=RR tu (by lia);refine C6.run gd.ok hu R1 b1 k1 fun r1 H7 S7 ra1=>?_;dsimp only[gP];have v1:=ra1.rv k1;have C7:=C6.same S7;refine C7.run gd.ok hu R1 b1 k1 fun r2 H8 S8 ra2=>?_;dsimp only[gP];have v2:=ra2.rv k1;refine⟨r1,tu,s1,rfl,v1.same S8,k1,fun H9 S9=>⟨_,rfl,gX ?_⟩⟩;refine⟨r1,r2,s1,rfl,(v1.same S8).same S9,v2.same S9,⟨_,rfl,gX ?_⟩⟩;dsimp only[lO];obtain⟨dx2,w2,me2,ha2,⟨nm2,nh2,n2⟩,o2,⟨xs2,em2,im2⟩,⟨ys2,eh2,ih2⟩,_,_⟩:=ra2.o;obtain⟨f1,f2,f3,f4,f5⟩:=nF (en:=enV s1.en) (v:=w2) (me:=me2) (ha:=ha2) (bg:=(s1.bg:Int));have o9:=S9 _ _ o2;have em9:=S9 _ _ em2;have eh9:=S9 _ _ eh2;have l2:=ih2.length;rw[aD,bK]at l2;have l3:=k1.le;have l4:=k1.b;refine⟨_,⟨_,_,o9,f4⟩,⟨_,eh9⟩,_,eh9,by lia,?_⟩;have C8:=C7.same S8;have Sa:gE H7 (MB H9 ha2 (.lst (ys2++[.non]))):=gZ (S8.trans S9) nh2 _;have oa:(MB H9 ha2 (.lst (ys2++[.non]))) r2=_:=(f9 (fun z=>by rw[z,eh9]at o9;cases o9)).trans o9;have ema:(MB H9 ha2 (.lst (ys2++[.non]))) me2=_:=(f9 n2).trans em9;dsimp only;generalize MB H9 ha2 _=Ha at Sa oa ema⊢;refine⟨_,⟨_,_,oa,f3⟩,.inl ⟨rfl,_,MD ema⟩,_,_,rfl,rfl,ema,?_⟩;have Sb:gE H7 (MB Ha me2 (.lst [])):=gZ Sa nm2 _;generalize MB Ha me2 _=Hb at Sb⊢;refine⟨⟨by decide,by decide⟩,(show(0:Int)<(tu:Int)+ 1 by lia),?_⟩;dsimp only[gP];obtain⟨fw,ef,lf⟩:=emN (n0/2500) (show(0:Int)<(tu:Int)+ 1 by lia);rw[ef];have Cb:=C7.same Sb;have v1b:=v1.same Sb;obtain⟨m3,s3,R3,b3,k3⟩:=RR fw (by lia);refine Cb.run gd.ok hu R3 b3 k3 fun r3 Hc Sc ra3=>?_;dsimp only[gP];have v3:=ra3.rv k3;have tw:=wH gd.ok hu (show fw<=tu by lia) R3 (cJ _) rfl R1;have ex:Ext s3 s1:=by
  rcases tw with e|⟨_,_,_,e⟩;·rw[e];exact .refl _
  ·exact e
 have v1c:=v1b.same Sc;refine⟨r3,fw,s3,rfl,v3,k3,fun Hd Sd=>⟨_,rfl,gX ?_⟩⟩;refine⟨r3,r1,s3,s1,rfl,v3.same Sd,v1c.same Sd,ex,k3.le,fun He Se=>⟨_,rfl,gX ?_⟩⟩;dsimp only[lO];have Ce:=Cb.same (Sc.trans (Sd.trans Se));have S6e:gE H6 He:=S7.trans (Sb.trans (Sc.trans (Sd.trans Se)));replace e6:=S6e _ _ e6;replace e7:=S6e _ _ e7;have v1e:=v1c.same (Sd.trans Se);have v3e:=v3.same (Sd.trans Se);obtain⟨q1,q2,q3⟩:=Eh (fun k=>Kx (ho k)) (aa ys.length);have ihe:=Kw ly Ce.ho;obtain⟨g1,g2⟩:=zo gr;refine Ky (i:=5) (j:=7) rfl rfl Ce.el e7 ihe ihe q1 q2 (by lia) ⟨_,⟨_,_,Ce.pr.o,oU _ _ _⟩,?_⟩;refine IF (i:=6) rfl ?_;refine F0 Ce.pr.w e6 Ce.pr.i Ce.pr.i g1 g2 dr ?_;dsimp only[onB,fb];refine gX ?_;obtain⟨dx1,me1,ha1,w1,xs1,ys1,en1,he1,o1,_⟩:=id v1e;obtain⟨i1,i2,i3,i4,i5⟩:=nF (en:= .str en1) (v:=w1) (me:=me1) (ha:=ha1) (bg:=(s1.bg:Int));refine⟨_,⟨_,_,o1,i5⟩,?_⟩;show if decide ((fw:Int)<(s1.bg:Int))=true then _ else _;by_cases z:fw<s1.bg
 ·rw[gM (by lia)];obtain⟨a3,c3⟩:s3.en=some ("turns":Str)/\s3.bg=fw:=by
   rcases tw with e|⟨a,b,_,_⟩;·have:=k3.b;rw[e]at this;lia
   ·exact⟨a,b⟩
  obtain⟨dx3,me3,ha3,w3,xs3,ys3,en3,he3,o3,_⟩:=v3e;rw[he3]at a3;cases dm.inj a3;obtain⟨j1,j2,j3,j4,j5⟩:=nF (en:= .str "turns") (v:=w3) (me:=me3) (ha:=ha3) (bg:=(s3.bg:Int));refine iC ⟨_,⟨_,_,o3,j1⟩,?_⟩;refine⟨_,rfl,?_⟩;rw[eZ,gM rfl];refine iC ⟨_,⟨_,_,o3,j5⟩,?_⟩;show Q (.bl (false ^^ decide ((s3.bg:Int)=(fw:Int)))) _;rw[eZ,gM (by lia)];exact q _
 rw[gQ (by lia)];refine gX ?_;dsimp only[lO];have es:s3=s1:=by
  rcases tw with e|⟨_,_,c,_⟩;·exact e
  ·lia
 rw[es]at v3e;refine⟨r3,r1,s1,rfl,v3e,v1e,⟨_,rfl,gX ?_⟩⟩;dsimp only[lO];refine⟨_,⟨_,_,o1,i1⟩,?_⟩;show if(false ^^ decide (en1="turns"))=true then _ else _;by_cases y:en1="turns";·rw[gM y];have:=k1.t (by rw[he1,y]);refine iC ?_;show Q (.bl (false ^^ decide ((fw:Int)=(tu:Int)))) _;rw[eZ,gM (by lia)];exact q _
 rw[gQ y];refine gX ?_;dsimp only[lO];refine⟨_,⟨_,_,Ce.pr.o,oU _ _ _⟩,?_⟩;refine IF (i:=6) rfl ?_;refine F0 Ce.pr.w e6 Ce.pr.i Ce.pr.i g1 g2 dr ⟨_,rfl,iC ?_⟩;refine⟨lh,_,rfl,.inl (MD Ce.el),fun p8 h8=>?_⟩;have Tf:=fW h8 (.lst ys);have Cf:Ch T.c7.a (MB He p8 (.lst ys)) g p8 nl tl rl dx rwv ys nms (jb ts 0) ρs ho:=⟨Ce.pr.same Tf,fS,(Ce.same Tf).ho⟩;obtain⟨m4,s4,R4,b4,k4⟩:=RR (tu+ 1) (by lia);have e4:s4=s1:=by
  rcases wH gd.ok hu (cO tu) R1 (cJ _) rfl R4 with e|⟨a,_⟩;·exact e.symm
  ·rw[he1]at a;exact absurd (dm.inj a) y
 subst e4;refine Cf.run gd.ok hu R4 b4 k4 fun r4 Hg Sg ra4=>?_;exact⟨r1,r4,s4,rfl,(v1e.same Tf).same Sg,ra4.rv k4,q _⟩
open GR.Internal (stP stT)
abbrev Lt:=List (Str×Tok×Zx)
abbrev Lt.kv (l:Lt):List (Key×V):=l.map fun p=>(Le p.1,V.ref p.2.2)
inductive Al (K:Zp):Lt->List (Str×List Bool)->Prop
 |nil:Al K [] []
 |cons {k:Str} {t:Tok} {q:Zx} {ps:List Bool} {l:Lt} {s:List (Str×List Bool)} (h:∀H:Hp,SqT K H q (ps.map pV)) (r:Al K l s):Al K ((k,t,q)::l) ((k,ps)::s)
def Al.go {K:Zp} {h:Str}:∀{l:Lt} {s:List (Str×List Bool)},Al K l s->∀ps,(s.find? fun p=>decide (p.1=h)).map (·.2)=some ps->∃q,jH l.kv (Le h)=some (.ref q)/\∀H:Hp,SqT K H q (ps.map pV):=fun a=>by
 induction a with
 |nil=>intro ps e;cases e
 |@cons k t q ps l s x r i=>
  rw[aR];by_cases e:k=h;·subst e;rw[gM rfl,Lt.kv,aC,iU rfl];intro ps z;cases z;exact⟨q,rfl,x⟩
  ·rw[gQ e,Lt.kv,aC,iV (fun z=>e (Mb z))];exact i
def vR {P:Zu} {w:Zv} {K:Zp} {mg:Zc} {a:Zx} {n:Nat} {es:Array DictEntry} {l:Lt} (m:mg "STEADY_FORMS"=some (.ref a)) (ha:(a==Lz)=false) (hl:K.lookup a=some ⟨.type "dict",none,.dict es n,#[]⟩) (he:es.toList=l.map fun p=>⟨Lf w.params p.1,.str p.1 p.2.1,.ref p.2.2⟩) (hn:(l.map (·.1)).Nodup) (h:Al K l stT):Dk P w K mg:=⟨a,m,l.kv,yB ha hl he hn,fun k ps e=>by unfold stP at e;exact h.go ps e⟩
def Kz {P:Zu} {w:Zv} {K:Zp} {mg:Zc} (T:Txt K mg) {a:Zx} {n:Nat} {es:Array DictEntry} {t_num t_name t_fn t_call t_let t_rec t_get t_tag t_case t_row t_at t_join t_size t_add t_sub t_less:Tok} (m:mg "WORKERS"=some (.ref a)) (ha:(a==Lz)=false) (hl:K.lookup a=some ⟨.type "dict",none,.dict es n,#[]⟩) (he:es.toList=([("num",t_num,T.d6.a),("name",t_name,T.d7.a),("fn",t_fn,T.d8.a),("call",t_call,T.d9.a),("let",t_let,T.d10.a),("rec",t_rec,T.d11.a),("get",t_get,T.d12.a),("tag",t_tag,T.d13.a),("case",t_case,T.d14.a),("row",t_row,T.d15.a),("at",t_at,T.d16.a),("join",t_join,T.d17.a),("size",t_size,T.d18.a),("add",t_add,T.d19.a),("sub",t_sub,T.d20.a),("less",t_less,T.d21.a)]:Lt).map fun p=>⟨Lf w.params p.1,.str p.1 p.2.1,.ref p.2.2⟩):Wk P w T:=⟨a,m,_,yB ha hl he (by show(["num","name","fn","call","let","rec","get","tag","case","row","at","join","size","add","sub","less"]:Zd).Nodup;decide+kernel),fun ρ hu=>by
  cases ρ with
  |num _=>exact⟨_,_,by kernel_rfl,.num,_,rfl⟩
  |name _=>exact⟨_,_,by kernel_rfl,.name,_,rfl⟩
  |fn _ _=>exact⟨_,_,by kernel_rfl,.fn,_,_,rfl⟩
  |tag _ _=>exact⟨_,_,by kernel_rfl,.tag,_,_,rfl⟩
  |lt _ _ _=>exact⟨_,_,by kernel_rfl,.lt,_,_,_,rfl⟩
  |get _ _=>exact⟨_,_,by kernel_rfl,.get,_,_,rfl⟩
  |rcd _=>exact⟨_,_,by kernel_rfl,.rcd,_,rfl⟩
  |case _ _=>exact⟨_,_,by kernel_rfl,.case,_,_,rfl⟩
  |row _=>exact⟨_,_,by kernel_rfl,.row,_,rfl⟩
  |op o ks=>
   have hu:o∈plain:=hu;simp only[plain,ak,bG,or_false]at hu;rcases hu with rfl|rfl|rfl|rfl|rfl|rfl|rfl;·exact⟨_,_,by kernel_rfl,.size,_,rfl⟩
   ·exact⟨_,_,by kernel_rfl,.ix,_,rfl⟩
   ·exact⟨_,_,by kernel_rfl,.call,_,rfl⟩
   ·exact⟨_,_,by kernel_rfl,.join,_,rfl⟩
   ·exact⟨_,_,by kernel_rfl,.add,_,rfl⟩
   ·exact⟨_,_,by kernel_rfl,.sub,_,rfl⟩
   ·exact⟨_,_,by kernel_rfl,.less,_,rfl⟩⟩
end K64.Internal
structure PySem.W.Fast:Prop where
 (tw13050033659872836712 tw247139400283013430 tw9648494707927748067 tw3936231284573952903 tw5485280623785852298 tw17490300916045952019 tw3608890315663963958 tw4122650709079453214 tw11088164203255121257 tw3824128488896513567 tw8933566629057061889 tw11142959399426704131 tw17877630885558130344 tw3424612353810588708 tw4677414510540586409 tw2640242979970819331 tw1273593182758844531 tw12977331527481285143 tw5000664132532618310 tw13705762135140040989 tw13319913729454010154 tw15605272904204142184 tw3203857355509974389 tw5238270910996354721 tw4763558778877050079 tw6206796128621611988 tw7744778821970860410 tw11967541808702276542 tw14851482348887508714 tw10353332781301489068 tw7890528060567693503 tw796753950755271851 tw13905614372839536021 tw13895269945661558823 tw7886429227174296282 tw10390078042582347030 tw17449880882789758865 tw12357639518930063366 tw5530758527358282327 tw12857002935912463826 tw6387133744768872068 tw6547598054166931899 tw3746225247984731873 tw9915658703202290217 tw16021153131626443211 tw13192262384063161403 tw15438372248941974846 tw9025090190246764614 tw9582531083450790474 tw6794253745813888011 tw8048981106015822812 tw12354652595141492698 tw9119641294017109570 tw1216991883129110878 tw5884588327376510332 tw8231861115405994636 tw16115937060306677769 tw11201335578819118450 tw14174045848949002142 tw2236129318490892231 tw1244545601732684181 tw2649916399221650999 tw1325397452117724325 tw15362050923896685302 tw11494111220423515246 tw12910715914115390432 tw13854504940129966424 tw15796771668467103682 tw17644590546889949638 tw1670719876134846487 tw6118534185169594204 tw2980809454538797757 tw16123889151482281548 tw10199917000960740033 tw4886709388317560938 tw893924826483538791 tw6891889824239750333 tw2815481133176154562 tw15820346443282344167 tw18330437253560550547 tw2978814309382601282 tw7581626655841905937 tw10260747768124482642 tw11531043239633125974 tw8707833635769506061 tw16732900231465140305 tw10341067144588599381 tw13924084739081227009 tw4688260631819482485 tw5390482129739457130 tw292240658327244235 tw10860031788732619372 tw6841170043377939020 tw8887580645328195630 tw11135792675491334921 tw9555157353741328678 tw4810763446421565531 tw13418645989078471854 tw17328444165903774704 tw10816845235067384495 tw16338357004435699320 tw16359887715230396448 tw8661020681435533242 tw16323565335729886360 tw13845389757296597521 tw5106582251009463488 tw18060657527086872654 tw13038579673664552763 tw1132526052093149511 tw7670358043881459362 tw968447513731584025 tw1641965020420046530 tw11471974707611762865 tw5019494474345398557 tw1423812888979520878 tw12714459422032378958 tw6444205389137865235 tw7650177962265668393 tw9947979248609518401 tw3804738604105050936 tw1293439236095247768 tw7871448571555937351 tw4791379436016835180 tw3918534697080220057 tw6190736747729116135 tw13945242815245089560 tw5411143677044525148 tw2544614839099255604 tw6465890763077260935 tw10420162968801003279 tw14286150187701227344 tw6881700747349406453 tw12627825839325284567 tw4240043170164797704 tw9908039061692156286 tw8644357621463502236 tw8333367997671926327 tw9131102751031411710 tw8973923430560020296 tw12488399546762222519 tw6880986198480759258 tw2546767196737819280 tw10345464232861235355 tw8455001570009222194 tw18292017477584460523 tw3389049965822804475 tw16759859808122381048 tw8079760728593689558 tw8400701577064608220 tw9162150510498935848 tw10993083477514483952 tw12473628018460175081 tw17255690751894691367 tw13569439887962972533 tw3632237186833921992 tw573820101363589741 tw12600757711320908004 tw8278066954837609820 tw3403665130699046181 tw9271093230381981016 tw7810952779887847228 tw13154923083009174263 tw8846844297251405682 tw12161614895874919752 tw5861607185810971735 tw5567906723534696696 tw14282200772049120224 tw11350511350275750262 tw13300433302216470205 tw5155537515636569376 tw18414809504224119351 tw989303789450461519 tw12796288963227002041 tw3578672665484245402 tw965913588550684891 tw15710751400947446353 tw2094569703229765252 tw17381954775631266407 tw11785407073060341090 tw17523676058427673815 tw1980020768171060439 tw14862703381679624591 tw8191965904758532575 tw4834482204152298386 tw907764542055077959 tw5694441955268146341 tw865125670938484231 tw18429025038995250471 tw2383965624133813619 tw14714440478696875377 tw12787377745512885005 tw10508846436786899591 tw13258458601443573660 tw11022823981226652465 tw9403500289651756069 tw6515944099080367252 tw2265795706685948316 tw4305689685504612386 tw3917951858034296662 tw13958164760088784360 tw15013197277365291667 tw17681799876162287216 tw1298495669641389737 tw2278255394089684091 tw10884887795910609564 tw7070112845008832655 tw1043260773195553760 tw5097258118264668017 tw8009115886182720885 tw143092691639999282 tw4292567992872171536 tw16353574016941069085 tw1972923347603569317 tw7473964726952949618 tw15886889447057299978 tw7955038320111223033 tw4836861385367688654 tw9768763752875974324 tw13676962022312926439 tw875076714749743906 tw4677952645719582017 tw14329876947521001108 tw15963829937141037311 tw8315577111843104564 tw12273824223500623608 tw10285082699576960655 tw6156277180803749865 tw16004604426039845950 tw5938167265948676186 tw4006609607334490999 tw1652592401945148039 tw11304696157926999812 tw4102909420781868994 tw4131599836976578671 tw9432160907809462822 tw17422957068189160235 tw6160295192924268483 tw16958184484864145642 tw538970204170044474 tw17537490324083362307 tw9302299243051908171 tw7121268989347145414 tw17882377719100861394 tw16493657255384929498 tw5248808286787352000 tw11603274398406802625 tw10510278017449068190 tw10936462111615030603 tw18443525301247133818 tw10692868128758531401 tw13800780030088378464 tw14135153953514689910 tw4139583975363393066 tw1430137763001674697 tw16084299982152945421 tw8113676996179487981 tw15274743849951905694 tw11442318682838096939 tw13818041091229383532 tw3656227797384886553 tw9045499382702071388 tw5587439847784855920 tw9732059480984386316 tw11437688542008261470:True)
namespace K64.Internal
open PySem L2.Internal
def all_mk {l:PySem.W.OpenLaw} {w:Zv} {K:Zp} {h:Zt} {mg:Zc} {fa fL p4 pW bg bh bi bj bk bl bm bn bo bp M N O P Q R pD S U V Y Z aa ab ac ad o p C1 C2 C3 C4 a g C7 b:Zx} {u1 u2 u3 bQ bR bS bT bU bV bW bX bY bZ ar au av aw ax u5 u6 u7 u8 u9 bq br bs cF cG cH cI cJ cK cM cN cO cP b0 b1 b2 b3 b4 b5 bt bu bv bw bx bz bA bB bC af ag ay az aA aB aC aD aE aF aG aH aI aJ aK aM aN aO aP aQ aR ah ai aj ak:Tok} {cQ b6 b7 b8 b9 ca cb cc cd ce aS aT cR bD:Option Zx} {n4 nW nD cS cT cU cV cW cX cY cZ c0 cf cg:Nat} {c9 ch ci cj ck cl cm cn co cp aU aV da:Array (Option Zz)} {db bE bF bG al bH:Zz} (X:K.In h) (G:h.Ns K9 mg) (hfa:mg "law"=some (.ref fa)) (g1:eC K K9 "MOST_JOINED"=some (some (.int 60 u1))) (g2:eC K K9 "LETTERS"=some (some (.str "abcdefghijklmnopqrstuvwxyz" u2))) (g3:eC K K9 "FIGURES"=some (some (.str "0123456789" u3))) (g4:eC K K9 "KEPT_WORDS"=some (some (.ref p4))) (h4:K.lookup p4=some ⟨.type "tuple",cQ,.seq #[.str "def" bQ,.str "fn" bR,.str "call" bS,.str "let" bT,.str "rec" bU,.str "get" bV,.str "tag" bW,.str "case" bX,.str "row" bY,.str "at" bZ,.str "join" ar,.str "size" au,.str "add" av,.str "sub" aw,.str "less" ax] n4,c9⟩) (g5:eC K K9 "MOST_FIGURES"=some (some (.int 60 u5))) (g6:eC K K9 "MOST_SIGNS"=some (some (.int 12 u6))) (g7:eC K K9 "MOST_DEFINITIONS"=some (some (.int 12 u7))) (g8:eC K K9 "MOST_FIELDS"=some (some (.int 6 u8))) (g9:eC K K9 "MOST_ARMS"=some (some (.int 6 u9))) (dc:eC K K9 "MOST_THINGS"=some (some (.int 8 bq))) (dd:eC K K9 "MOST_PLACES"=some (some (.int 160 br))) (de:eC K K9 "MOST_NEST"=some (some (.int 24 bs))) (a1:Fm K "parts_of" p9) (a2:Fm K "places_in" ot) (a3:Fm K "flat" Bk) (a4:Fm K "first_parts" mD) (a5:Fm K "held_value" m8) (a6:Fm K "work_num" qa) (a7:Fm K "work_name" ou) (a8:Fm K "work_fn" rY) (a9:Fm K "work_call" ow) (df:Fm K "work_let" qb) (dg:Fm K "work_rec" qc) (dh:Fm K "work_get" qd) (di:Fm K "work_tag" qe) (dj:Fm K "work_case" oy) (dk:Fm K "work_row" qf) (dl:Fm K "work_at" rZ) (dm:Fm K "work_join" oz) (dn:Fm K "work_size" oA) (dp:Fm K "work_add" qg) (dq:Fm K "work_sub" qh) (dr:Fm K "work_less" oB) (ds:Fm K "run" EX) (dt:Fm K "words_of" qi) (du:Fm K "is_name" r6) (dv:Fm K "is_number" oE) (dw:Fm K "made_of" r8) (dx:Fm K "read" Bl) (dy:Fm K "check_count" mE) (dz:Fm K "homes_of" qj) (dA:Fm K "refuse_twice" lT) (dB:Fm K "words_once" m9) (dC:Fm K "home_of" r9) (dD:Fm K "root_scopes" mF) (dF:Fm K "inner_scopes" lU) (dG:Fm K "widened" sd) (dH:Fm K "_law_stem" oF) (dI:Fm K "_law_words" nh) (dJ:Fm K "_law_leaf" oG) (dK:Fm K "_law_node" oH) (dL:Fm K "_law_held" oJ) (dM:Fm K "_law_let" qk) (dN:Fm K "_law_pop" ql) (dQ:Fm K "_law_number" mG) (dR:Fm K "_law_by_shape" kX) (dS:Fm K "_law_odd" qm) (dT:Fm K "_law_pair" oK) (dU:Fm K "_law_single" mH) (dV:Fm K "_law_step" oM) (dW:Fm K "_law_ended" nj) (dX:Fm K "_law_program" lV) (d0:Fm K "_law_whole" nk) (d1:Fm K "_law_tuples" mI) (d2:Fm K "_law_shaped" mJ) (d3:Fm K "_law_alike" nq) (d4:Fm K "_law_beginning" kK) (c1:eC K K9 "FlowError"=some (some (.ref C1))) (c2:eC K K9 "BadText"=some (some (.ref C2))) (c3:eC K K9 "Twice"=some (some (.ref C3))) (c4:eC K K9 "NoName"=some (some (.ref C4))) (c5:Cm K "Machine" a) (j:dE K (.ref a) "program"=some none) (q:dE K (.ref a) "homes"=some none) (r:dE K (.ref a) "turns"=some none) (t:dE K (.ref a) "begun"=some none) (aW:dE K (.ref a) "end"=some none) (u:dE K (.ref a) "meets"=some none) (aX:dE K (.ref a) "had"=some none) (n:dE K (.ref a) "defined"=some none) (y:dE K (.ref a) "steps"=some none) (A:dE K (.ref a) "ready"=some none) (bI:Mm K a "__init__" "Machine.__init__" jR) (ea:Mm K a "work_program" "Machine.work_program" jc) (eb:Mm K a "work_steps" "Machine.work_steps" jr) (ec:Mm K a "begin" "Machine.begin" kY) (ed:Mm K a "work_parts" "Machine.work_parts" js) (ee:Mm K a "take_ready" "Machine.take_ready" ju) (ef:Mm K a "finish" "Machine.finish" kM) (eg:Mm K a "go_into" "Machine.go_into" km) (eh:Mm K a "comes" "Machine.comes" lg) (ei:Mm K a "comes_as" "Machine.comes_as" jS) (ej:Mm K a "both_come_as" "Machine.both_come_as" jd) (c6:Cm K "Run" g) (aY:dE K (.ref g) "end"=some none) (B:dE K (.ref g) "value"=some none) (C:dE K (.ref g) "meets"=some none) (aZ:dE K (.ref g) "had"=some none) (D:dE K (.ref g) "begun"=some none) (bJ:Mm K g "__init__" "Run.__init__" lW) (c7:Cm K "Program" C7) (E:dE K (.ref C7) "names"=some none) (F:dE K (.ref C7) "roots"=some none) (am:dE K (.ref C7) "rows"=some none) (bK:Mm K C7 "__init__" "Program.__init__" jT) (c8:Cm K "Reader" b) (H:dE K (.ref b) "words"=some none) (I:dE K (.ref b) "taken"=some none) (an:dE K (.ref b) "rows"=some none) (bL:Mm K b "__init__" "Reader.__init__" kn) (en:Mm K b "ahead" "Reader.ahead" lX) (eo:Mm K b "take" "Reader.take" mK) (ep:Mm K b "pass_over" "Reader.pass_over" jU) (eq:Mm K b "take_name" "Reader.take_name" jV) (er:Mm K b "take_expr" "Reader.take_expr" jW) (es:Mm K b "take_row" "Reader.take_row" ko) (et:Mm K b "take_form" "Reader.take_form" jX) (eu:Mm K b "take_steady" "Reader.take_steady" jv) (ev:Mm K b "take_fields" "Reader.take_fields" jx) (ew:Mm K b "take_arms" "Reader.take_arms" jY) (ex:Mm K b "take_things" "Reader.take_things" jz) (v1:dP K (.ref g) (.ref g)=some true) (c:eC K K9 "ValueError"=some none) (a0:eC K K9 "all"=some none) (ao:eC K K9 "bool"=some none) (ap:eC K K9 "dict"=some none) (f:eC K K9 "enumerate"=some none) (ba:eC K K9 "int"=some none) (d:eC K K9 "isinstance"=some none) (bb:eC K K9 "len"=some none) (aq:eC K K9 "list"=some none) (bc:eC K K9 "max"=some none) (J:eC K K9 "range"=some none) (i:eC K K9 "reversed"=some none) (bd:eC K K9 "str"=some none) (be:eC K K9 "sum"=some none) (L:eC K K9 "tuple"=some none) (bf:eC K K9 "zip"=some none) (w0:eC K K9 "work_num"=some (some (.ref bg))) (w1:eC K K9 "work_name"=some (some (.ref bh))) (w2:eC K K9 "work_fn"=some (some (.ref bi))) (w3:eC K K9 "work_call"=some (some (.ref bj))) (w4:eC K K9 "work_let"=some (some (.ref bk))) (w5:eC K K9 "work_rec"=some (some (.ref bl))) (w6:eC K K9 "work_get"=some (some (.ref bm))) (w7:eC K K9 "work_tag"=some (some (.ref bn))) (w8:eC K K9 "work_case"=some (some (.ref bo))) (w9:eC K K9 "work_row"=some (some (.ref bp))) (ey:eC K K9 "work_at"=some (some (.ref M))) (ez:eC K K9 "work_join"=some (some (.ref N))) (eA:eC K K9 "work_size"=some (some (.ref O))) (eB:eC K K9 "work_add"=some (some (.ref P))) (eD:eC K K9 "work_sub"=some (some (.ref Q))) (eE:eC K K9 "work_less"=some (some (.ref R))) (gW:eC K K9 "WORKERS"=some (some (.ref pW))) (sW:(pW==Lz)=false) (hW:K.lookup pW=some ⟨.type "dict",none,.dict #[⟨Lf w.params "num",.str "num" cF,.ref bg⟩,⟨Lf w.params "name",.str "name" cG,.ref bh⟩,⟨Lf w.params "fn",.str "fn" cH,.ref bi⟩,⟨Lf w.params "call",.str "call" cI,.ref bj⟩,⟨Lf w.params "let",.str "let" cJ,.ref bk⟩,⟨Lf w.params "rec",.str "rec" cK,.ref bl⟩,⟨Lf w.params "get",.str "get" cM,.ref bm⟩,⟨Lf w.params "tag",.str "tag" cN,.ref bn⟩,⟨Lf w.params "case",.str "case" cO,.ref bo⟩,⟨Lf w.params "row",.str "row" cP,.ref bp⟩,⟨Lf w.params "at",.str "at" b0,.ref M⟩,⟨Lf w.params "join",.str "join" b1,.ref N⟩,⟨Lf w.params "size",.str "size" b2,.ref O⟩,⟨Lf w.params "add",.str "add" b3,.ref P⟩,⟨Lf w.params "sub",.str "sub" b4,.ref Q⟩,⟨Lf w.params "less",.str "less" b5,.ref R⟩] nW,#[]⟩) (gD:eC K K9 "STEADY_FORMS"=some (some (.ref pD))) (sD:(pD==Lz)=false) (hD:K.lookup pD=some ⟨.type "dict",none,.dict #[⟨Lf w.params "fn",.str "fn" bt,.ref S⟩,⟨Lf w.params "call",.str "call" bu,.ref U⟩,⟨Lf w.params "let",.str "let" bv,.ref V⟩,⟨Lf w.params "get",.str "get" bw,.ref Y⟩,⟨Lf w.params "tag",.str "tag" bx,.ref Z⟩,⟨Lf w.params "at",.str "at" bz,.ref aa⟩,⟨Lf w.params "join",.str "join" bA,.ref ab⟩,⟨Lf w.params "size",.str "size" bB,.ref ac⟩,⟨Lf w.params "add",.str "add" bC,.ref ad⟩,⟨Lf w.params "sub",.str "sub" af,.ref o⟩,⟨Lf w.params "less",.str "less" ag,.ref p⟩] nD,#[]⟩) (eH:K.lookup S=some ⟨.type "tuple",b6,.seq #[.str "name" ay,.str "expr" az] cS,ch⟩) (eI:K.lookup U=some ⟨.type "tuple",b7,.seq #[.str "expr" aA,.str "expr" aB] cT,ci⟩) (eJ:K.lookup V=some ⟨.type "tuple",b8,.seq #[.str "name" aC,.str "expr" aD,.str "expr" aE] cU,cj⟩) (eK:K.lookup Y=some ⟨.type "tuple",b9,.seq #[.str "expr" aF,.str "name" aG] cV,ck⟩) (eL:K.lookup Z=some ⟨.type "tuple",ca,.seq #[.str "name" aH,.str "expr" aI] cW,cl⟩) (eM:K.lookup aa=some ⟨.type "tuple",cb,.seq #[.str "expr" aJ,.str "expr" aK,.str "expr" aM] cX,cm⟩) (eN:K.lookup ab=some ⟨.type "tuple",cc,.seq #[.str "expr" aN,.str "expr" aO] cY,cn⟩) (eO:K.lookup ac=some ⟨.type "tuple",cd,.seq #[.str "expr" aP] cZ,co⟩) (eP:K.lookup ad=some ⟨.type "tuple",ce,.seq #[.str "expr" aQ,.str "expr" aR] c0,cp⟩) (cq:K.lookup o=some ⟨.type "tuple",aS,.seq #[.str "expr" ah,.str "expr" ai] cf,aU⟩) (cr:K.lookup p=some ⟨.type "tuple",aT,.seq #[.str "expr" aj,.str "expr" ak] cg,aV⟩) (aL:eC K K9 "law"=some (some (.ref fL))) (lL:K.lookup fL=some ⟨db,cR,.func (dY "law" "law" (lR uO) (kJ uO) (f6 uO) .none bE bF bG bD al bH),da⟩) (cL:dZ K al "law"=true) (kL:dO K (.ref fL)=true):
  ∃fd:Zs,(∀(s:Zy) (v:Zz),BindsTo s fd ⟨[v],[]⟩ [("_law_script",v)])/\∀base:Zt,K.In base->base.Ns K9 mg->tU l.prog w K mg base CX0 150 fa fd ["_law_script"] (yN K):=by have e:=hfa.symm.trans (eF X G aL);cases e;have T:Txt K mg:=⟨u1,eF X G g1,u2,eF X G g2,u3,eF X G g3,p4,eF X G g4,fun _=> .inr ⟨_,_,_,h4,rfl,rfl,IV,(.cons ⟨_,rfl⟩ (.cons ⟨_,rfl⟩ (.cons ⟨_,rfl⟩ (.cons ⟨_,rfl⟩ (.cons ⟨_,rfl⟩ (.cons ⟨_,rfl⟩ (.cons ⟨_,rfl⟩ (.cons ⟨_,rfl⟩ (.cons ⟨_,rfl⟩ (.cons ⟨_,rfl⟩ (.cons ⟨_,rfl⟩ (.cons ⟨_,rfl⟩ (.cons ⟨_,rfl⟩ (.cons ⟨_,rfl⟩ (.cons ⟨_,rfl⟩ .nil)))))))))))))))⟩,u5,eF X G g5,u6,eF X G g6,u7,eF X G g7,u8,eF X G g8,u9,eF X G g9,bq,eF X G dc,br,eF X G dd,bs,eF X G de,a1.x X G,a2.x X G,a3.x X G,a4.x X G,a5.x X G,a6.x X G,a7.x X G,a8.x X G,a9.x X G,df.x X G,dg.x X G,dh.x X G,di.x X G,dj.x X G,dk.x X G,dl.x X G,dm.x X G,dn.x X G,dp.x X G,dq.x X G,dr.x X G,ds.x X G,dt.x X G,du.x X G,dv.x X G,dw.x X G,dx.x X G,dy.x X G,dz.x X G,dA.x X G,dB.x X G,dC.x X G,dD.x X G,dF.x X G,dG.x X G,dH.x X G,dI.x X G,dJ.x X G,dK.x X G,dL.x X G,dM.x X G,dN.x X G,dQ.x X G,dR.x X G,dS.x X G,dT.x X G,dU.x X G,dV.x X G,dW.x X G,dX.x X G,d0.x X G,d1.x X G,d2.x X G,d3.x X G,d4.x X G,⟨C1,eF X G c1⟩,⟨C2,eF X G c2⟩,⟨C3,eF X G c3⟩,⟨C4,eF X G c4⟩,c5.x X G,j,q,r,t,aW,u,aX,n,y,A,bI.x,c5.k bI.x,ea.x,eb.x,ec.x,ed.x,ee.x,ef.x,eg.x,eh.x,ei.x,ej.x,c6.x X G,aY,B,C,aZ,D,bJ.x,c6.k bJ.x,c7.x X G,E,F,am,bK.x,c7.k bK.x,c8.x X G,H,I,an,bL.x,c8.k bL.x,en.x,eo.x,ep.x,eq.x,er.x,es.x,et.x,eu.x,ev.x,ew.x,ex.x,v1,eG X G c,eG X G a0,eG X G ao,eG X G ap,eG X G f,eG X G ba,eG X G d,eG X G bb,eG X G aq,eG X G bc,eG X G J,eG X G i,eG X G bd,eG X G be,eG X G L,eG X G bf⟩;have z:=(eF X G w0).symm.trans T.d6.m;cases z;have z:=(eF X G w1).symm.trans T.d7.m;cases z;have z:=(eF X G w2).symm.trans T.d8.m;cases z;have z:=(eF X G w3).symm.trans T.d9.m;cases z;have z:=(eF X G w4).symm.trans T.d10.m;cases z;have z:=(eF X G w5).symm.trans T.d11.m;cases z;have z:=(eF X G w6).symm.trans T.d12.m;cases z;have z:=(eF X G w7).symm.trans T.d13.m;cases z;have z:=(eF X G w8).symm.trans T.d14.m;cases z;have z:=(eF X G w9).symm.trans T.d15.m;cases z;have z:=(eF X G ey).symm.trans T.d16.m;cases z;have z:=(eF X G ez).symm.trans T.d17.m;cases z;have z:=(eF X G eA).symm.trans T.d18.m;cases z;have z:=(eF X G eB).symm.trans T.d19.m;cases z;have z:=(eF X G eD).symm.trans T.d20.m;cases z;have z:=(eF X G eE).symm.trans T.d21.m;cases z;exact⟨dY "law" "law" (lR uO) (kJ uO) (f6 uO) .none bE bF bG bD al bH,fun s v=> .of_eq rfl,fun base _ _=>F8 T (vR (l:=[("fn",bt,S),("call",bu,U),("let",bv,V),("get",bw,Y),("tag",bx,Z),("at",bz,aa),("join",bA,ab),("size",bB,ac),("add",bC,ad),("sub",af,o),("less",ag,p)]) (eF X G gD) sD hD rfl (by show(["fn","call","let","get","tag","at","join","size","add","sub","less"]:Zd).Nodup;decide+kernel) (.cons (fun _=> .inr ⟨_,_,_,eH,rfl,rfl,lZ,(.cons ⟨_,rfl⟩ (.cons ⟨_,rfl⟩ .nil))⟩)<| .cons (fun _=> .inr ⟨_,_,_,eI,rfl,rfl,lZ,(.cons ⟨_,rfl⟩ (.cons ⟨_,rfl⟩ .nil))⟩)<| .cons (fun _=> .inr ⟨_,_,_,eJ,rfl,rfl,kP,(.cons ⟨_,rfl⟩ (.cons ⟨_,rfl⟩ (.cons ⟨_,rfl⟩ .nil)))⟩)<| .cons (fun _=> .inr ⟨_,_,_,eK,rfl,rfl,lZ,(.cons ⟨_,rfl⟩ (.cons ⟨_,rfl⟩ .nil))⟩)<| .cons (fun _=> .inr ⟨_,_,_,eL,rfl,rfl,lZ,(.cons ⟨_,rfl⟩ (.cons ⟨_,rfl⟩ .nil))⟩)<| .cons (fun _=> .inr ⟨_,_,_,eM,rfl,rfl,kP,(.cons ⟨_,rfl⟩ (.cons ⟨_,rfl⟩ (.cons ⟨_,rfl⟩ .nil)))⟩)<| .cons (fun _=> .inr ⟨_,_,_,eN,rfl,rfl,lZ,(.cons ⟨_,rfl⟩ (.cons ⟨_,rfl⟩ .nil))⟩)<| .cons (fun _=> .inr ⟨_,_,_,eO,rfl,rfl,yo,(.cons ⟨_,rfl⟩ .nil)⟩)<| .cons (fun _=> .inr ⟨_,_,_,eP,rfl,rfl,lZ,(.cons ⟨_,rfl⟩ (.cons ⟨_,rfl⟩ .nil))⟩)<| .cons (fun _=> .inr ⟨_,_,_,cq,rfl,rfl,lZ,(.cons ⟨_,rfl⟩ (.cons ⟨_,rfl⟩ .nil))⟩)<| .cons (fun _=> .inr ⟨_,_,_,cr,rfl,rfl,lZ,(.cons ⟨_,rfl⟩ (.cons ⟨_,rfl⟩ .nil))⟩)<| .nil)) (Kz T (eF X G gW) sW hW rfl) (rN (st:=uO) lL cL kL)⟩
def walk {l:PySem.W.OpenLaw} {q:Zu} {loose:Zd} {XP:(Str->Option Zz)->Zt->Prop} {YP:Zv->Zt->Prop} {d:DefRec} {K:Params->Zp} (hn:l.most=some 63) (hdf:d.params.defaults=[])
  (hY:∀(w:Zv) (h:Zt),YP w h->(K w.params).In h)
  (F:∀(w:Zv) (mg:Zc) (fa:Zx) (h:Zt),(K w.params).In h->h.Ns K9 mg->mg d.name=some (.ref fa)->
   ∃fd:Zs,(∀(s:Zy) (u:Zz),BindsTo s fd ⟨[u],[]⟩ [("_law_script",u)])/\∀base:Zt,(K w.params).In base->base.Ns K9 mg->tU l.prog w (K w.params) mg base CX0 150 fa fd ["_law_script"] (yN (K w.params))):
  PySem.W.WalkO q loose XP YP l.row.toRowW d [] (fun f vs=>PySem.call f vs):=
 L2.Internal.walk_of (n:=63) (k:=150) (x:="_law_script") (CX:=fun _=>CX0) (sp:=fun w=>yN (K w.params)) hn (by decide) hdf ⟨rfl,by decide,by decide⟩ hY F (fun _ _ a ns hl _ hS=>⟨a,ns,rfl,hS,hl,fun _=>rfl⟩) fun _ _ _ _ _ z=>z
end K64.Internal
open PySem PySem.W PyProof.Rows
set_option maxRecDepth 100000 in
set_option maxHeartbeats 0 in
theorem PySem.Challenge.cw_flowkinds_k64_turns_holds : PySem.Challenge.rw_flowkinds_k64_turns.Holds := by
 w_on;o_law;k_head;(case hw => w_witness2);k_fill;refine K64.Internal.walk (l:=PySem.Challenge.rw_flowkinds_k64_turns) rfl rfl (fun w h Y=>PySem.W.kIn_of Y) ?F;case F =>intro w mg fa h KX G hmg;apply K64.Internal.all_mk KX G hmg;all_goals first|(apply K64.Internal.Fm.mk<;>k_is)|(apply K64.Internal.Mm.mk<;>k_is)|(apply K64.Internal.Cm.mk<;>k_is)|k_is|rfl
