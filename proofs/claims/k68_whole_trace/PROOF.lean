import PyProof.Rows.All
import Wide.All
import OpenK.AllK
import Wide.FinOn
import Lean
import PyProof.EqAt
import PyProof.EqKinds
import PyProof.TupleCall
import PyProof.NeKinds
import PySem.Challenge.RW_flowkinds_k68_whole_trace
set_option Elab.async false
set_option linter.all false
set_option maxRecDepth 100000
set_option maxHeartbeats 4000000
set_option genInjectivity false
set_option genSizeOf false
set_option bootstrap.genMatcherCode false
set_option compiler.extract_closed false
section
variable{Q:Prop}{A:Sort u}{B:Sort v}{C:Sort w}{D:Sort x}{E:Sort y}{F:Sort z}{G:Sort r}{H:Sort s}{I:Sort t}{J:Sort q}
def eay{p q r s t u v w x y:Prop}(Y:p/\q/\r/\s/\t/\u/\v/\w/\x/\y)(Z:p->q->r->s->t->u->v->w->x->y->Q):Q:=by obtain⟨p,q,r,s,t,u,v,w,x,y⟩:=Y;exact Z p q r s t u v w x y
def eam{p q r s t u:Prop}(Y:p/\q/\r/\s/\t/\u)(Z:p->q->r->s->t->u->Q):Q:=by obtain⟨p,q,r,s,t,u⟩:=Y;exact Z p q r s t u
def eae{p q r s t:Prop}(Y:p/\q/\r/\s/\t)(Z:p->q->r->s->t->Q):Q:=by obtain⟨p,q,r,s,t⟩:=Y;exact Z p q r s t
def ean{p q r s:Prop}(Y:p/\q/\r/\s)(Z:p->q->r->s->Q):Q:=by obtain⟨p,q,r,s⟩:=Y;exact Z p q r s
def ear{p q:Prop}{r s:A->Prop}(Y:p/\q/\∃a,r a/\s a)(Z:p->q->∀a,r a->s a->Q):Q:=by obtain⟨p,q,a,r,s⟩:=Y;exact Z p q a r s
def eac{p q r:Prop}(Y:p/\q/\r)(Z:p->q->r->Q):Q:=by obtain⟨p,q,r⟩:=Y;exact Z p q r
def eab{p q:Prop}(Y:p/\q)(Z:p->q->Q):Q:=by obtain⟨p,q⟩:=Y;exact Z p q
def eau{p q r s:A->Prop}(Y:∃a,p a/\q a/\r a/\s a)(Z:∀a,p a->q a->r a->s a->Q):Q:=by obtain⟨a,p,q,r,s⟩:=Y;exact Z a p q r s
def eak{p q r:A->Prop}(Y:∃a,p a/\q a/\r a)(Z:∀a,p a->q a->r a->Q):Q:=by obtain⟨a,p,q,r⟩:=Y;exact Z a p q r
def eaa{p q:A->Prop}(Y:∃a,p a/\q a)(Z:∀a,p a->q a->Q):Q:=by obtain⟨a,p,q⟩:=Y;exact Z a p q
def eas{p q r s t:A->B->Prop}(Y:∃a b,p a b/\q a b/\r a b/\s a b/\t a b)(Z:∀a b,p a b->q a b->r a b->s a b->t a b->Q):Q:=by obtain⟨a,b,p,q,r,s,t⟩:=Y;exact Z a b p q r s t
def eaj{p q r s:A->B->Prop}(Y:∃a b,p a b/\q a b/\r a b/\s a b)(Z:∀a b,p a b->q a b->r a b->s a b->Q):Q:=by obtain⟨a,b,p,q,r,s⟩:=Y;exact Z a b p q r s
def eap{p q r:A->B->Prop}(Y:∃a b,p a b/\q a b/\r a b)(Z:∀a b,p a b->q a b->r a b->Q):Q:=by obtain⟨a,b,p,q,r⟩:=Y;exact Z a b p q r
def eah{p q:A->B->Prop}(Y:∃a b,p a b/\q a b)(Z:∀a b,p a b->q a b->Q):Q:=by obtain⟨a,b,p,q⟩:=Y;exact Z a b p q
def eaA{p q r s:A->B->C->Prop}(Y:∃a b c,p a b c/\q a b c/\r a b c/\s a b c)(Z:∀a b c,p a b c->q a b c->r a b c->s a b c->Q):Q:=by obtain⟨a,b,c,p,q,r,s⟩:=Y;exact Z a b c p q r s
def eai{p q r:A->B->C->Prop}(Y:∃a b c,p a b c/\q a b c/\r a b c)(Z:∀a b c,p a b c->q a b c->r a b c->Q):Q:=by obtain⟨a,b,c,p,q,r⟩:=Y;exact Z a b c p q r
def eaf{p q:A->B->C->Prop}(Y:∃a b c,p a b c/\q a b c)(Z:∀a b c,p a b c->q a b c->Q):Q:=by obtain⟨a,b,c,p,q⟩:=Y;exact Z a b c p q
def eaw{p:A->B->C->D->E->F->G->H->I->J->Prop}(Y:∃a b c d e f g h i j,p a b c d e f g h i j)(Z:∀a b c d e f g h i j,p a b c d e f g h i j->Q):Q:=by obtain⟨a,b,c,d,e,f,g,h,i,j,p⟩:=Y;exact Z a b c d e f g h i j p
def eat{p:A->B->C->D->E->F->G->H->I->Prop}(Y:∃a b c d e f g h i,p a b c d e f g h i)(Z:∀a b c d e f g h i,p a b c d e f g h i->Q):Q:=by obtain⟨a,b,c,d,e,f,g,h,i,p⟩:=Y;exact Z a b c d e f g h i p
def eaz{p:A->B->C->D->E->F->G->H->Prop}(Y:∃a b c d e f g h,p a b c d e f g h)(Z:∀a b c d e f g h,p a b c d e f g h->Q):Q:=by obtain⟨a,b,c,d,e,f,g,h,p⟩:=Y;exact Z a b c d e f g h p
def eav{p:A->B->C->D->E->F->G->Prop}(Y:∃a b c d e f g,p a b c d e f g)(Z:∀a b c d e f g,p a b c d e f g->Q):Q:=by obtain⟨a,b,c,d,e,f,g,p⟩:=Y;exact Z a b c d e f g p
def eax{p:A->B->C->D->E->F->Prop}(Y:∃a b c d e f,p a b c d e f)(Z:∀a b c d e f,p a b c d e f->Q):Q:=by obtain⟨a,b,c,d,e,f,p⟩:=Y;exact Z a b c d e f p
def eao{p:A->B->C->D->E->Prop}(Y:∃a b c d e,p a b c d e)(Z:∀a b c d e,p a b c d e->Q):Q:=by obtain⟨a,b,c,d,e,p⟩:=Y;exact Z a b c d e p
def ead{p:A->B->C->D->Prop}(Y:∃a b c d,p a b c d)(Z:∀a b c d,p a b c d->Q):Q:=by obtain⟨a,b,c,d,p⟩:=Y;exact Z a b c d p
def eag{p:A->B->C->Prop}(Y:∃a b c,p a b c)(Z:∀a b c,p a b c->Q):Q:=by obtain⟨a,b,c,p⟩:=Y;exact Z a b c p
def eaq{p:A->B->Prop}(Y:∃a b,p a b)(Z:∀a b,p a b->Q):Q:=by obtain⟨a,b,p⟩:=Y;exact Z a b p
def eal{p:A->Prop}(Y:∃a,p a)(Z:∀a,p a->Q):Q:=by obtain⟨a,p⟩:=Y;exact Z a p
def fau{p q r s t u v w x y z d c b a t':Prop}(Z:p->q->r->s->t->u->v->w->x->y->z->d->c->b->a->t'->Q)(Y:p/\q/\r/\s/\t/\u/\v/\w/\x/\y/\z/\d/\c/\b/\a/\t'):Q:=by obtain⟨p,q,r,s,t,u,v,w,x,y,z,d,c,b,a,t'⟩:=Y;exact Z p q r s t u v w x y z d c b a t'
def fas{p q r s t u v w x y z a:Prop}(Z:p->q->r->s->t->u->v->w->x->y->z->a->Q)(Y:p/\q/\r/\s/\t/\u/\v/\w/\x/\y/\z/\a):Q:=by obtain⟨p,q,r,s,t,u,v,w,x,y,z,a⟩:=Y;exact Z p q r s t u v w x y z a
def far{p q r s t u v w x y z:Prop}(Z:p->q->r->s->t->u->v->w->x->y->z->Q)(Y:p/\q/\r/\s/\t/\u/\v/\w/\x/\y/\z):Q:=by obtain⟨p,q,r,s,t,u,v,w,x,y,z⟩:=Y;exact Z p q r s t u v w x y z
def faq{p q r s t u v w x y:Prop}(Z:p->q->r->s->t->u->v->w->x->y->Q)(Y:p/\q/\r/\s/\t/\u/\v/\w/\x/\y):Q:=eay Y Z
def faw{p q r s t u v w x:Prop}(Z:p->q->r->s->t->u->v->w->x->Q)(Y:p/\q/\r/\s/\t/\u/\v/\w/\x):Q:=by obtain⟨p,q,r,s,t,u,v,w,x⟩:=Y;exact Z p q r s t u v w x
def fan{p q r s t u v w:Prop}(Z:p->q->r->s->t->u->v->w->Q)(Y:p/\q/\r/\s/\t/\u/\v/\w):Q:=by obtain⟨p,q,r,s,t,u,v,w⟩:=Y;exact Z p q r s t u v w
def fap{p q r s t u v:Prop}(Z:p->q->r->s->t->u->v->Q)(Y:p/\q/\r/\s/\t/\u/\v):Q:=by obtain⟨p,q,r,s,t,u,v⟩:=Y;exact Z p q r s t u v
def fag{p q r s t u:Prop}(Z:p->q->r->s->t->u->Q)(Y:p/\q/\r/\s/\t/\u):Q:=eam Y Z
def faj{p q r s t:Prop}(Z:p->q->r->s->t->Q)(Y:p/\q/\r/\s/\t):Q:=eae Y Z
def fam{p q r s:Prop}(Z:p->q->r->s->Q)(Y:p/\q/\r/\s):Q:=ean Y Z
def fae{p q r:Prop}(Z:p->q->r->Q)(Y:p/\q/\r):Q:=eac Y Z
def f8{p q:Prop}(Z:p->q->Q)(Y:p/\q):Q:=eab Y Z
def fav{p q r:A->Prop}(Z:∀a,p a->q a->r a->Q)(Y:∃a,p a/\q a/\r a):Q:=eak Y Z
def fad{p q:A->Prop}(Z:∀a,p a->q a->Q)(Y:∃a,p a/\q a):Q:=eaa Y Z
def fai{p q r s t:A->B->Prop}(Z:∀a b,p a b->q a b->r a b->s a b->t a b->Q)(Y:∃a b,p a b/\q a b/\r a b/\s a b/\t a b):Q:=eas Y Z
def fao{p q r s:A->B->Prop}(Z:∀a b,p a b->q a b->r a b->s a b->Q)(Y:∃a b,p a b/\q a b/\r a b/\s a b):Q:=eaj Y Z
def fac{p q r:A->B->Prop}(Z:∀a b,p a b->q a b->r a b->Q)(Y:∃a b,p a b/\q a b/\r a b):Q:=eap Y Z
def faf{p q:A->B->Prop}(Z:∀a b,p a b->q a b->Q)(Y:∃a b,p a b/\q a b):Q:=eah Y Z
def fah{p q r s:A->B->C->Prop}(Z:∀a b c,p a b c->q a b c->r a b c->s a b c->Q)(Y:∃a b c,p a b c/\q a b c/\r a b c/\s a b c):Q:=eaA Y Z
def fax{p q r:A->B->C->Prop}(Z:∀a b c,p a b c->q a b c->r a b c->Q)(Y:∃a b c,p a b c/\q a b c/\r a b c):Q:=eai Y Z
def faz{p:A->B->C->D->E->F->G->H->I->Prop}(Z:∀a b c d e f g h i,p a b c d e f g h i->Q)(Y:∃a b c d e f g h i,p a b c d e f g h i):Q:=eat Y Z
def fay{p:A->B->C->D->E->F->G->Prop}(Z:∀a b c d e f g,p a b c d e f g->Q)(Y:∃a b c d e f g,p a b c d e f g):Q:=eav Y Z
def fat{p:A->B->C->D->E->F->Prop}(Z:∀a b c d e f,p a b c d e f->Q)(Y:∃a b c d e f,p a b c d e f):Q:=eax Y Z
def fak{p:A->B->C->D->E->Prop}(Z:∀a b c d e,p a b c d e->Q)(Y:∃a b c d e,p a b c d e):Q:=eao Y Z
def fal{p:A->B->C->D->Prop}(Z:∀a b c d,p a b c d->Q)(Y:∃a b c d,p a b c d):Q:=ead Y Z
def fab{p:A->B->C->Prop}(Z:∀a b c,p a b c->Q)(Y:∃a b c,p a b c):Q:=eag Y Z
def fL{p:A->B->Prop}(Z:∀a b,p a b->Q)(Y:∃a b,p a b):Q:=eaq Y Z
def faa{p:A->Prop}(Z:∀a,p a->Q)(Y:∃a,p a):Q:=eal Y Z
def iaf{p:A->B->C->D->E->F->G->H->I->J->Prop}:∀a b c d e f g h i j,p a b c d e f g h i j->∃a b c d e f g h i j,p a b c d e f g h i j:=fun a b c d e f g h i j p=>⟨a,b,c,d,e,f,g,h,i,j,p⟩
def iac{p:A->B->C->D->E->F->G->H->I->Prop}:∀a b c d e f g h i,p a b c d e f g h i->∃a b c d e f g h i,p a b c d e f g h i:=fun a b c d e f g h i p=>⟨a,b,c,d,e,f,g,h,i,p⟩
def iag{p:A->B->C->D->E->F->G->H->Prop}:∀a b c d e f g h,p a b c d e f g h->∃a b c d e f g h,p a b c d e f g h:=fun a b c d e f g h p=>⟨a,b,c,d,e,f,g,h,p⟩
def iad{p:A->B->C->D->E->F->G->Prop}:∀a b c d e f g,p a b c d e f g->∃a b c d e f g,p a b c d e f g:=fun a b c d e f g p=>⟨a,b,c,d,e,f,g,p⟩
def iae{p:A->B->C->D->E->F->Prop}:∀a b c d e f,p a b c d e f->∃a b c d e f,p a b c d e f:=fun a b c d e f p=>⟨a,b,c,d,e,f,p⟩
def iab{p:A->B->C->D->E->Prop}:∀a b c d e,p a b c d e->∃a b c d e,p a b c d e:=fun a b c d e p=>⟨a,b,c,d,e,p⟩
def io{p:A->B->C->D->Prop}:∀a b c d,p a b c d->∃a b c d,p a b c d:=fun a b c d p=>⟨a,b,c,d,p⟩
def iaa{p:A->B->C->Prop}:∀a b c,p a b c->∃a b c,p a b c:=fun a b c p=>⟨a,b,c,p⟩
def ii{p:A->B->Prop}:∀a b,p a b->∃a b,p a b:=fun a b p=>⟨a,b,p⟩
end
theorem gZ{h:Decidable c} (a:¬c):(ite c t e)=e:=if_neg a
theorem ig{h:Decidable c} (a:c):(ite c t e)=t:=if_pos a
theorem gT[Decidable p] (h:p):decide p=true:=decide_eq_true h
theorem hV[Decidable p] (h:¬p):decide p=false:=decide_eq_false h
theorem gL {p:Prop} (h:p:=by decide+kernel):p:=h
theorem p7:0<=PySem.sizeLine:=by decide
theorem se:1<=PySem.sizeLine:=by decide
theorem lJ:2<=PySem.sizeLine:=by decide
theorem lC:3<=PySem.sizeLine:=by decide
theorem Hn:4<=PySem.sizeLine:=by decide
theorem LB:5<=PySem.sizeLine:=by decide
theorem JH:8<=PySem.sizeLine:=by decide
theorem JU:15<=PySem.sizeLine:=by decide
open List renaming all_cons→ba,all_eq_true→bD,all_map→bC,any_cons→aT,any_eq_true→bj,append_assoc→bU,append_cancel_left→cx,append_nil→aF,cons_append→aU,cons_ne_nil→bQ,dropLast_concat_getLast→bO,drop_eq_getElem_cons→bS,drop_eq_nil_iff→bK,drop_eq_nil_of_le→cB,drop_length→bZ,drop_of_length_le→bR,drop_zero→cj,eq_nil_of_length_eq_zero→bW,filterMap_cons→ai,filter_append→bP,find?_cons→aS,flatten_append→cA,forall_mem_cons→bX,getD_eq_getElem?_getD→bu,getElem?_append_left→aO,getElem?_append_right→aN,getElem?_cons_succ→bJ,getElem?_eq_getElem→bE,getElem?_eq_none→bL,getElem?_eq_some_iff→av,getElem?_map→aP,getElem?_of_mem→cu,getElem?_set_ne→ax,getElem?_set_self→aw,getElem?_zip_eq_some→cn,length→aK,length_append→aR,length_cons→aB,length_drop→aZ,length_dropLast→bf,length_eq_one_iff→bF,length_eq_zero_iff→bN,length_filter_le→bx,length_map→aE,length_nil→aV,length_range→cy,length_reverse→bM,length_singleton→bc,length_take→aM,length_zip→b6,lookup→aC,lookup_cons→bt,map_append→bq,map_congr_left→bY,map_cons→aD,map_fst_zip→cq,map_map→bH,map_nil→aW,mem_append→aq,mem_append_left→au,mem_append_right→aA,mem_cons→ao,mem_cons_of_mem→ak,mem_cons_self→aj,mem_filter→af,mem_iff_getElem?→ck,mem_map→bh,mem_of_getElem?→aQ,mem_of_mem_drop→bT,mem_range→ag,mem_singleton→bo,nil_append→bV,nodup_cons→aG,nodup_nil→aX,not_mem_nil→bI,of_mem_zip→aH,range→aa,range_succ_eq_map→bB,replicate→aJ,reverse_cons→bb,reverse_reverse→cw,set_set→bw,size_toArray→aY,take_add_one→cc,take_append_drop→b9,take_length→bA,take_of_length_le→cg,zip→bG
open Nat renaming add_assoc→cZ,add_zero→df,le_of_eq→cM,le_of_lt→cG,le_refl→cJ,le_succ→cP,le_succ_of_le→dt,le_trans→cF,lt_irrefl→cD,lt_of_lt_of_le→cC,lt_succ_of_lt→cQ,lt_succ_self→cO,mul_le_mul_right→dm,ne_of_gt→cH,ne_of_lt→cE,not_lt→di,not_lt_zero→dh,sub_self→cX,succ→da,succ_le_succ→dj,toDigits→cR,toDigits_append_toDigits→cW,toDigits_of_lt_base→cU,zero_add→cY,zero_le→cK
open Option renaming isSome_iff_exists→dw,isSome_map→dz,map_eq_some_iff→dA,map_some→dy,some→du
open PySem.W renaming callWith_K→dX,cellsFrom_some→dZ,codeIn→eA,codeRec_of→eB,emptyDict→dO,findIn→dG,fnOf→ee,hasDictIn→dF,instObj→dB,isFn→dI,keepIn→dQ,kia_one→dS,kitOne→dR,kitx_dict→dW,kitx_list→dU,lookIn→dD,makesIn→dN,methodCall_KW→dY,methodObj→dC,mg_none_of→eJ,mg_of→eI,nsIn→eF,nsOkIn→eE,plainGet→dE,plainGet_of→dH,plainOver→dJ,specialIn→dP,subIn→eC,tailIn→eG,takerIn→dM
open PySem.F renaming args_tuple_add_2→eP,entry_tuple_add→eO,plainAttrs_list→eS,plainAttrs_str→eR,slot_dict_getitem→eK,slot_dict_update→eQ,slot_list_append→eU,slot_list_pop→eW,slot_str_join→eY,slot_tuple_add→eN,type_list_append→eV,type_list_pop→eX,type_str_join→eZ
open Bool renaming and_eq_true→fg,and_false→fh,eq_iff_iff→fe,false_ne_true→fc,false_xor→fj,not_true→fo,true_xor→fk
open Array renaming getElem?_eq_getElem→fu,getElem?_toList→ft,length_toList→fq,toList_append→fw
open Int renaming emod_lt_of_pos→fF,emod_nonneg→fD,eq_ofNat_of_zero_le→fB,natCast_add→fH,ne_of_gt→fE,ofNat_lt→fC,toNat_natCast→fA,zero_add→fG
open PySem.Heap renaming get?_push_of_some→fM,get?_push_size→fK,get?_update_other→fQ,get?_update_self→fO,lt_size→fJ,size_push→fN
open PyProof.Rows renaming callWith_type1→fS,slot_tuple_getitem→fU
open PySem renaming Value→Zz,Shared→Zy,Addr→Zx,Around→Zw,World→Zv,Program→Zu,Heap→Zt,FuncData→Zs,Expr→Zr,Stmt→Zq
open PySem.W renaming Frag→Zp
open PySem renaming wpAny_bind→C8,mainGlobals→L7,wpAny→L8,sizeLine_eq→L9,wpAny_pure→Ma,starEach→Mj,mem_of_lookup→Mn,wpAny_mono→Mp,bootBuiltins→Mq,compareOp→Mw,wpAny_field→Mz,sysModules→MB,wpAny_seqItems→MD,wpAny_truthy_bool→ME,binaryOp→MF,wpAny_newObj_type→MI,backTo→MK,IsPair→ML,lookup_relabel_local→MN,behindInMarks→MP,wpAny_holding→MQ,wpAny_callSpecial?_slot→MT,sizeLine→MU,Spec→MV,wpAny_setField_rec→MX,wpAny_passesOwn→MZ,cLine→M8,attributeBase→M9,foldedSetIterable→Nh,wpAny_getItem_str_slice→Nk,wpAny_Call_Name_kw→Nm,builtinLookup_eq_fast→Np,wpAny_call_entry→Nq,call_meets→Nr,closureFor→Nt,codeAny→Nx,keywordEach→Ny,sliceBounds→NA,swapsWith→ND,tupleKind_room_in1→NG,wpAny_typeOf→NI,getattributeRaised→NL,typeIs_str→NN,wpAny_assign_Name→NP,wpAny_pyIter_list→NQ
open Prod renaming fst→Mb,snd→MC
open Sum renaming inr→Me,inl→Mv
open PySem.PyData renaming keyHash→Mg
open PySem.PassesOwn renaming never→Mh
open PySem.Value renaming ref→Ml,bool→MM,none→MW
open PySem.Str renaming length_append→Mo,join→My,ofString→MA,ofString→NH
open PySem.Builtin.SmallTypes renaming nextOf→Mr,ownedTupleIsFree→MH
open False renaming elim→Mt
open Ne renaming symm→Mu
open True renaming intro→MG
open PySem.NameKind renaming free→MR,cell→Nu
open PySem.Txt renaming split→MS,slice→Nn,slice_le→NK
open PySem.Builtin.List renaming listExtendWith→MY,listTooLong→NJ
open PySem.F renaming slot_tuple_iterator_next→Ng
open PySem.Builtin.Slice renaming slicePlaces→Ni,sliceAdjust→NB
open PySem.Builtin.Tuple renaming tupleExact→Nj
open PySem.Builtin.Dict renaming updateFrom→Nl
open Sum.inr renaming inj→Nv
open PySem.Heap renaming SameBut→NC
open PySem.Calls renaming spliced_cons→NF
open PySem.Code renaming quiet_builtin→NM
open PySem.Builtin.Str renaming occurrences→NO
theorem O1 {p:Prop} (h:p:=by kernel_rfl):p:=h
theorem O2 {p:Prop} (h:p:=by lia):p:=h
theorem O3 {p:Prop} (h:p:=by decide):p:=h
theorem O4 {p:Prop} (h:p:=by simp):p:=h
abbrev Za:=List (PySem.Addr×PySem.Obj)
abbrev Zb:=PySem.Value->PySem.Shared->Prop
abbrev Zc:=PySem.Str->Option PySem.Value
abbrev Zd:=List PySem.Str
noncomputable section
namespace L2.Internal
def auR (h:True=True:=by rfl):True:=trivial
def auD (h:True:=by decide):True:=trivial
def auI (h:True->True=True:=by intro _;rfl):True:=trivial
def auL (h:True=True\/True:=by first|exact .inl rfl|exact .inr rfl|assumption):True:=trivial
open PySem PySem.Spec PyProof.Rows
abbrev Key:=Sum Int Str
def z9:Key->Zz->Bool
 | .inl k,v=>Value.isInt k v
 | .inr x,v=>Value.isStrOf x v
def keyH (w:Zv):Key->Int
 | .inl k=>hashInt k
 | .inr x=>hashStr w x
def jc:∀{k:Key} {v:Zz},z9 k v=true->(∃i t,k=Mv i/\v=Value.int i t)\/(∃x t,k=Me x/\v=Value.str x t)
 | .inl i,v,h=>by obtain⟨t,e⟩:=Value.isInt_shape h;exact .inl (ii i t ⟨rfl,e⟩)
 | .inr x,v,h=>by obtain⟨t,e⟩:=Value.isStrOf_shape h;exact .inr (ii x t ⟨rfl,e⟩)
def AU (i:Int) (t:Tok):z9 (.inl i) (.int i t)=true:=by simp[z9,Value.isInt]
def sg (x:Str) (t:Tok):z9 (.inr x) (.str x t)=true:=by simp[z9,Value.isStrOf]
def Ho (a b:Int):decide ((Mv a:Key)=Mv b)=(a==b):=by
 by_cases e:a=b;·subst e;simp
 ·have h:¬(Mv a:Key)=Mv b:=fun q=>e (Sum.inl.inj q);rw[hV h];exact(beq_eq_false_iff_ne.mpr e).symm
def Hq (a b:Str):decide ((Me a:Key)=Me b)=decide (a=b):=by
 by_cases e:a=b;·subst e;simp
 ·have h:¬(Me a:Key)=Me b:=fun q=>e (Nv q);rw[hV h,hV e]
def Hr (a:Int) (b:Str):decide ((Mv a:Key)=Me b)=false:=hV (fun q=>nomatch q)
def Hs (a:Str) (b:Int):decide ((Me a:Key)=Mv b)=false:=hV (fun q=>nomatch q)
def jB (prog:Zu) (w:Zv):PySem.KeyKind prog w Key where
 is:=z9
 hash:=keyH w
 inj:=fun v a b g d=>by
  rcases jc g with⟨i,t,rfl,rfl⟩|⟨x,t,rfl,rfl⟩
  ·rcases jc d with⟨j,u,rfl,e⟩|⟨y,u,rfl,e⟩;·injection e with e1 _;rw[e1]
   ·exact nomatch e
  ·rcases jc d with⟨j,u,rfl,e⟩|⟨y,u,rfl,e⟩;·exact nomatch e
   ·injection e with e1 _;rw[e1]
 byValue:=fun k v h=>by rcases jc h with⟨i,t,rfl,rfl⟩|⟨x,t,rfl,rfl⟩<;>rfl
 pyHash:=fun c h=>by
  rcases jc c with⟨i,t,rfl,rfl⟩|⟨x,t,rfl,rfl⟩;·exact wpAny_pyHash_int h
  ·exact wpAny_pyHash_str h
 eqBool:=fun f c h=>by
  rcases jc f with⟨i,t,rfl,rfl⟩|⟨x,t,rfl,rfl⟩
  ·rcases jc c with⟨j,u,rfl,rfl⟩|⟨y,u,rfl,rfl⟩;·rw[Ho]at h;exact wpAny_eqBool_int h
   ·rw[Hr]at h;exact SeqAt.EqAt.int_str i t y u _ _ _ _ h
  ·rcases jc c with⟨j,u,rfl,rfl⟩|⟨y,u,rfl,rfl⟩;·rw[Hs]at h;exact SeqAt.EqAt.str_int x t j u _ _ _ _ h
   ·rw[Hq]at h;exact wpAny_eqBool_str h
 «strs»:=fun k x t v h=>by
  rcases jc h with⟨i,u,rfl,e⟩|⟨y,u,rfl,e⟩;·exact nomatch e
  ·injection e with e1 _;subst e1;cases v<;>rfl
def xS (prog:Zu) (w:Zv) (i:Int) (t:Tok):(jB prog w).is (.inl i) (.int i t)=true:=AU i t
def xT (prog:Zu) (w:Zv) (x:Str) (t:Tok):(jB prog w).is (.inr x) (.str x t)=true:=sg x t
end L2.Internal
namespace L2.Internal
variable {us:List Zz} {h:Zt} {H H':Hp} {t' j n:Nat} {ch fp:List Zx} {N ps:Zd} {A:Zw} {Q:Zb} {X:Cx} {pos:Pos} {pz:Za} {y:V} {tg:Zr} {C:Zx}
open PySem PySem.Spec PyProof.Rows
set_option genInjectivity true in
inductive V where
 |non|bl (b:Bool)|int (i:Int)|str (x:Str)|byt (b:Array UInt8)|flt (b:UInt64)|ref (a:Zx)|ty (n:String)
 deriving DecidableEq
def i7:V->Zz->Prop
 | .non,u=>u=MW
 | .bl b,u=>u=MM b
 | .int i,u=>∃t,u=Value.int i t
 | .str x,u=>∃t,u=Value.str x t
 | .byt b,u=>∃t,u=Value.bytes b t
 | .flt b,u=>∃t,u=Value.float b t
 | .ref a,u=>u=Ml a
 | .ty n,u=>u=Value.type n
abbrev ja:List V->List Zz->Prop:=Paired i7
theorem ja.length {xs:List V} (r:ja xs us):xs.length=us.length:=Paired.length r
theorem ja.get:∀{xs:List V} {a:List Zz} {i:Nat} {x:V},ja xs a->xs[i]?=some x->∃u,a[i]?=some u/\i7 x u
 |_,_,_,_,.nil,e=>by simp at e
 |_,_,0,_,.cons r _,e=>by simp at e;subst e;exact⟨_,rfl,r⟩
 |_,_,i+ 1,x,.cons _ t,e=>by refine eaa (ja.get t (by simpa using e)) fun u c b=>?_;exact⟨u,by simpa using c,b⟩
theorem ja.set {x:V} {u:Zz} (r:i7 x u):∀{xs:List V} {a:List Zz} (i:Nat),ja xs a->ja (xs.set i x) (a.set i u)
 |_,_,_,.nil=> .nil
 |_,_,0,.cons _ t=> .cons r t
 |_,_,i+ 1,.cons q t=> .cons q (ja.set r i t)
theorem ja.append:∀{xs a:List V} {b ws:List Zz},ja xs b->ja a ws->ja (xs++a) (b++ws)
 |_,_,_,_,.nil,s=>s
 |_,_,_,_,.cons r t,s=> .cons r (ja.append t s)
theorem ja.take:∀{xs:List V} {a:List Zz} (n:Nat),ja xs a->ja (xs.take n) (a.take n)
 |_,_,0,_=> .nil
 |_,_,_+ 1,.nil=> .nil
 |_,_,n+ 1,.cons r t=> .cons r (ja.take n t)
theorem ja.drop:∀{xs:List V} {a:List Zz} (n:Nat),ja xs a->ja (xs.drop n) (a.drop n)
 |_,_,0,r=>r
 |_,_,_+ 1,.nil=> .nil
 |_,_,n+ 1,.cons _ t=>ja.drop n t
def uX:Option V->Option Zz->Prop
 |some v,some u=>i7 v u
 |none,none=>True
 |_,_=>False
def KV {a:Type}:List (a×V)->List (a×Zz)->Prop:=Paired fun p q=>p.1=q.1/\i7 p.2 q.2
def kV:Key->V
 | .inl i=> .int i
 | .inr x=> .str x
inductive HO where
 |lst (xs:List V)
 |tup (xs:List V)
 |dK (kvs:List (Key×V))|dT (kvs:List (List Key×V))
 |set (S:Int->Bool) (n:Nat)
 |ins (C dx:Zx) (fs:List (Str×V))
 |own (x:Zx)
 |xd (fs:List (Str×V))
 |met (f x:Zx)
 |rng (lo hi:Int)
 |frz (o:Obj) (u:HO)
 |tbl (ps:Array Zz)
 |ext (φ:Zt->Prop)
abbrev Hp:=Zx->Option HO
def y8 (h:Zt) (a:Zx) (b:Array Zz):Prop:=∃o,h.get? a=some o/\o.cls= .type "tuple"/\∃n,o.data= .seq b n/\o.dict=none
def y8.tup {h:Zt} {a:Zx} {b:Array Zz}:y8 h a b->IsTup h a b
 |⟨o,h1,h2,n,h3,_⟩=>⟨o,h1,h2,n,h3⟩
def y8.lt {h:Zt} {a:Zx} {b:Array Zz} (p:y8 h a b):a<h.objs.size:=by refine eaa p fun o e _=>?_;exact fJ e
def y8.new (h:Zt) (a:Array Zz):y8 (h.push {cls:= .type "tuple",data:= .seq a}) h.objs.size a:=⟨_,fK _ rfl,rfl,_,rfl,rfl⟩
def upd (H:Hp) (a:Zx) (o:HO):Hp:=fun b=>if b=a then some o else H b
def f7:upd H a o a=some o:=by unfold upd;rw[ig rfl]
def gy(h:b≠a):upd H a o b=H b:=by unfold upd;rw[gZ h]
def uY:upd (upd H a o) a u=upd H a u:=by funext b;unfold upd;split<;>rfl
def lU(h:H a=some o) (c:H b=some u) (d:o≠u):a≠b:=by intro e;subst e;rw[h]at c;exact d (du.inj c)
def gv(h:H a=some o) (c:H b=none):a≠b:=by intro e;subst e;rw[h]at c;cases c
section
variable (P:Zu) (w:Zv)
def kb (H:Hp) (h:Zt) (a:Zx):HO->Prop
 | .lst c=>c.length<=sizeLine/\∃b n,ja c b/\h.get? a=some {cls:= .type "list",data:= .seq b.toArray n}
 | .tup c=>c.length<=sizeLine/\∃b,ja c b/\y8 h a b.toArray
 | .dK kvs=>kvs.length<=sizeLine/\(a==MB)=false/\∃i,KV kvs i/\h.DictOf (jB P w) a i
 | .dT kvs=>kvs.length<=sizeLine/\(a==MB)=false/\∃c:List (List Key×Zx×Zz),
   Paired (fun p q=>p.1=q.1/\H q.2.1=some (.tup (p.1.map kV))/\i7 p.2 q.2.2) kvs c/\
   ∃o l r,h.get? a=some o/\o.ExactDict/\o.data= .dict l r/\l.toList=c.map (entryOfKey (tupleKind (jB P w)))/\(c.map (·.1)).Nodup
 | .set S n=>h.SetOf (intKind P w) a S n
 | .ins C dx fs=>H dx=some (.own a)/\fs.length<=1000/\dx≠a/\h.get? a=some (dB C dx)/\
   ∃d,h.Ns1 dx d/\(∀f,uX (fs.lookup f) (d f))/\PySem.Within d (fs.map (·.1))
 | .own _=>∃o,h.get? a=some o
 | .xd fs=>∃d,h.Ns1 a d/\∀f,uX (fs.lookup f) (d f)
 | .rng lo hi=>∃t u v,h.get? a=some {cls:= .type "range",data:= .fields #[.int lo t,.int hi u,.int 1 v]}
 | .frz o u=>h.get? a=some o/\kb H h a u
 | .tbl ps=>h.get? a=some {cls:= .none,data:= .fields ps}
 | .met f x=>h.get? a=some (dC (.ref f) (.ref x))
 | .ext φ=>φ h/\(∃o,h.get? a=some o)/\∀k j,φ k->(∀o,k.get? a=some o->j.get? a=some o)->φ j
def HOk (H:Hp) (h:Zt):Prop:=∀a o,H a=some o->kb P w H h a o
end
section
variable {P:Zu} {w:Zv} {H H':Hp} {h h':Zt} {a:Zx} {o:HO}
theorem kb.lt (x:kb P w H h a o):a<h.objs.size:=by
 cases o with
 |lst d=>refine eab x fun _=>fL fun _ _=>f8 fun _ e=>?_;exact fJ e
 |tup d=>refine eab x fun _=>faa fun _=>f8 fun _ p=>?_;exact p.lt
 |dK c=>refine eac x fun _ _=>faa fun _=>f8 fun _=>fab fun o _ _=>f8 fun e _=>?_;exact fJ e
 |dT c=>refine eac x fun _ _=>faa fun _=>f8 fun _=>fab fun o _ _=>f8 fun e _=>?_;exact fJ e
 |set S n=>refine ead x fun o _ _ _=>f8 fun e _=>?_;exact fJ e
 |ins C q g=>refine eae x fun _ _ _ e _=>?_;exact fJ e
 |own y=>obtain⟨_,e⟩:=x;exact fJ e
 |xd g=>refine eaa x fun _ b _=>?_;refine eaf b fun _ _ _ e _=>?_;exact fJ e
 |rng l m=>refine eag x fun _ _ _ e=>?_;exact fJ e
 |frz k u=>obtain⟨e,_⟩:=x;exact fJ e
 |tbl j=>exact fJ (x)
 |met f y=>exact fJ (x)
 |ext i=>refine eac x fun _ b _=>?_;obtain⟨_,e⟩:=b;exact fJ e
theorem Paired.mapP {g e:Type} {F G:g->e->Prop}:∀{d:List g} {c:List e},Paired F d c->(∀a b,F a b->G a b)->Paired G d c
 |_,_,.nil,_=> .nil
 |_,_,.cons r t,f=> .cons (f _ _ r) (Paired.mapP t f)
def kb.stay (x:kb P w H h a o) (k:∀b u,(b=a\/H b=some (.own a))->h.get? b=some u->h'.get? b=some u)
  (K:∀b,H b=some (.own a)->H' b=some (.own a)) (J:∀b m,H b=some (.tup m)->H' b=some (.tup m)):kb P w H' h' a o:=by
 induction o with
 |lst m=>refine eab x fun z=>fL fun l n=>f8 fun r e=>?_;exact⟨z,l,n,r,k _ _ (.inl rfl) e⟩
 |tup m=>refine eab x fun z=>faa fun l=>f8 fun r=>faa fun g=>f8 fun e c=>?_;exact⟨z,l,r,g,k _ _ (.inl rfl) e,c⟩
 |dK D=>refine eac x fun z y=>faa fun F=>f8 fun r=>fab fun g i j=>f8 fun e c=>?_;exact⟨z,y,F,r,g,i,j,k _ _ (.inl rfl) e,c⟩
 |dT D=>refine eac x fun z y=>faa fun m=>f8 fun r=>fab fun g i j=>f8 fun e c=>?_;exact⟨z,y,m,Paired.mapP r fun p q z=>⟨z.1,J _ _ z.2.1,z.2.2⟩,g,i,j,k _ _ (.inl rfl) e,c⟩
 |set S n=>refine ead x fun g i j t=>f8 fun e c=>?_;exact io g i j t ⟨k _ _ (.inl rfl) e,c⟩
 |ins C T L=>refine eae x fun d z G e=>faa fun B=>f8 fun s r=>?_;refine eaf s fun A i j M c=>?_;exact⟨K _ d,z,G,k _ _ (.inl rfl) e,B,(iaa A i j ⟨k _ _ (.inr d) M,c⟩),r⟩
 |own y=>obtain⟨g,e⟩:=x;exact⟨g,k _ _ (.inl rfl) e⟩
 |xd L=>refine eaa x fun B s r=>?_;refine eaf s fun A i j e c=>?_;exact⟨B,(iaa A i j ⟨k _ _ (.inl rfl) e,c⟩),r⟩
 |rng Q R=>refine eag x fun t u v e=>?_;exact iaa t u v (k _ _ (.inl rfl) e)
 |frz g u I=>obtain⟨e,q⟩:=x;exact⟨k _ _ (.inl rfl) e,I q⟩
 |tbl O=>have e:=x;exact k a _ (.inl rfl) e
 |met f y=>have e:=x;exact k a _ (.inl rfl) e
 |ext N=>refine eac x fun p s E=>?_;obtain⟨o,e⟩:=s;exact⟨E _ _ p fun o q=>k _ _ (.inl rfl) q,⟨o,k _ _ (.inl rfl) e⟩,E⟩
theorem HOk.lt (x:HOk P w H h) (e:H a=some o):a<h.objs.size:=(x a o e).lt
def HOk.fresh (x:HOk P w H h) (e:h.objs.size<=a):H a=none:=by
 cases q:H a with
 |none=>rfl
 |some u=>exact absurd (cC (x.lt q) e) (cD _)
def HOk.kept (x:HOk P w H h) (k:∀b u,h.get? b=some u->h'.get? b=some u):HOk P w H h':=fun a o e=>
 (x a o e).stay (fun b u _ q=>k b u q) (fun _ q=>q) fun _ _ q=>q
def HOk.laid (x:HOk P w H h) (k:∀b u,h.get? b=some u->h'.get? b=some u) (g:h.objs.size<=a) (d:kb P w (upd H a o) h' a o):HOk P w (upd H a o) h':=fun b u e=>by
 have f:=x.fresh g;by_cases hb:b=a;·subst hb;rw[f7]at e;cases e;exact d
 ·rw[gy hb]at e;exact(x b u e).stay (fun c v _ q=>k c v q) (fun c q=>by rw[gy (gv q f)];exact q) fun c i q=>by rw[gy (gv q f)];exact q
end
def Rd (H:Hp) (a:Zx) (u:HO):Prop:=H a=some u\/∃o,H a=some (.frz o u)
def Rd.ok {P:Zu} {w:Zv} {a:Zx} {u:HO} (r:Rd H a u) (x:HOk P w H h):kb P w H h a u:=by
 rcases r with r|⟨o,r⟩;·exact x a u r
 ·obtain⟨_,q⟩:=x a _ r;exact q
def Mut:Option HO->Prop
 |some (.lst _)=>True
 |some (.dK _)=>True
 |some (.dT _)=>True
 |some (.set _ _)=>True
 |some (.ins _ _ _)=>True
 |some (.ext _)=>True
 |_=>False
section
variable {P:Zu} {w:Zv} {H:Hp} {h h':Zt} {x e:Zx} {o':HO}
def HOk.write (n:HOk P w H h) (g:Mut (H x)) (m:e=x\/H e=some (.own x)) (k:∀b u,b≠e->h.get? b=some u->h'.get? b=some u) (j:∃u,h'.get? e=some u)
  (i:kb P w (upd H x o') h' x o'):HOk P w (upd H x o') h':=fun b u q=>by
 have a:∀c y,H c=some (.own y)->c≠x:=fun c y r z=>by subst z;rw[r]at g;exact g
 have d:∀c f,H c=some (.tup f)->c≠x:=fun c f r z=>by subst z;rw[r]at g;exact g
 by_cases hb:b=x;·subst hb;rw[f7]at q;cases q;exact i
 ·rw[gy hb]at q;by_cases hbe:b=e
  ·have l:H b=some (.own x):=by
    rcases m with z|z;·exact absurd (hbe.trans z) hb
    ·rw[hbe];exact z
   rw[q]at l;cases l;obtain⟨v,o⟩:=j;exact⟨v,by rw[hbe];exact o⟩
  ·refine(n b u q).stay (fun c v hc r=>k c v ?_ r) (fun c r=>by rw[gy (a c b r)];exact r) fun c f r=>by rw[gy (d c f r)];exact r
   rcases hc with rfl|hc;·exact hbe
   ·rintro rfl;rcases m with z|z;·exact a c b hc z
    ·rw[hc]at z;cases z;exact hb rfl
end
structure Un (fs ex:List Zx) (H H':Hp) (h h':Zt):Prop where
 keep:∀b o,h.get? b=some o->H b=none->b∉fs->b∉ex->h'.get? b=some o
 slot:∀b o,h.get? b=some o->H b=none->b∈fs->b∉ex->∃sl,h'.get? b=some {o with slots:=sl}
 free:∀b o,h.get? b=some o->H b=none->b∉ex->H' b=none
 there:∀b o,h.get? b=some o->b∉ex->∃o',h'.get? b=some o'
 tups:∀b xs,H b=some (.tup xs)->H' b=some (.tup xs)
 frzs:∀b o u,H b=some (.frz o u)->H' b=some (.frz o u)
 tbls:∀b ps,H b=some (.tbl ps)->∃more,H' b=some (.tbl (ps++more))
section
variable {fs fs' ex ex':List Zx} {H H1 H2:Hp} {h h1 h2 h':Zt} {a x e:Zx} {o:HO}
def Un.any (u:Un fs ex H H1 h h1) {b:Zx} {a:Obj} (q:h.get? b=some a) (n:H b=none) (c:b∉ex):∃d,h1.get? b=some {a with slots:=d}:=by
 by_cases hb:b∈fs;·exact u.slot b a q n hb c
 ·exact⟨a.slots,u.keep b a q n hb c⟩
def Un.trans (a:Un fs ex H H1 h h1) (b:Un fs ex H1 H2 h1 h2):Un fs ex H H2 h h2 where
 keep:=fun c d q n i e=>b.keep c d (a.keep c d q n i e) (a.free c d q n e) i e
 slot:=fun c d q n i e=>by obtain⟨r,f⟩:=a.slot c d q n i e;obtain⟨j,l⟩:=b.slot c _ f (a.free c d q n e) i e;exact⟨j,l⟩
 free:=fun c d q n e=>by obtain⟨k,f⟩:=a.there c d q e;exact b.free c k f (a.free c d q n e) e
 there:=fun c d q e=>by obtain⟨k,f⟩:=a.there c d q e;exact b.there c k f e
 tups:=fun c g q=>b.tups c g (a.tups c g q)
 frzs:=fun c d g q=>b.frzs c d g (a.frzs c d g q)
 tbls:=fun c m q=>by obtain⟨p,f⟩:=a.tbls c m q;obtain⟨o,l⟩:=b.tbls c _ f;exact⟨p++o,by rw[l,Array.append_assoc]⟩
def Un.kept (k:∀b u,h.get? b=some u->h'.get? b=some u):Un fs ex H H h h':=
 ⟨fun b a q _ _ _=>k b a q,fun b a q _ _ _=>⟨a.slots,k b a q⟩,fun _ _ _ n _=>n,fun b a q _=>⟨a,k b a q⟩,fun _ _ q=>q,fun _ _ _ q=>q,fun _ c q=>⟨#[],by rw[q];simp⟩⟩
def Un.refl:Un fs ex H H h h:=Un.kept fun _ _ q=>q
def Un.laid (k:∀b u,h.get? b=some u->h'.get? b=some u) (e:h.objs.size<=a) (c:H a=none):Un fs ex H (upd H a o) h h' where
 keep:=fun b u q _ _ _=>k b u q
 slot:=fun b u q _ _ _=>⟨u.slots,k b u q⟩
 free:=fun b u q n _=>by rw[gy (cE (cC (fJ q) e))];exact n
 there:=fun b u q _=>⟨u,k b u q⟩
 tups:=fun b d q=>by rw[gy (gv q c)];exact q
 frzs:=fun b u d q=>by rw[gy (gv q c)];exact q
 tbls:=fun b f q=>⟨#[],by rw[gy (gv q c),q];simp⟩
def Un.write (a:Mut (H x)) (l:e=x\/H e=some (.own x)) (k:∀b u,b≠e->h.get? b=some u->h'.get? b=some u) (d:∃u,h'.get? e=some u):Un fs ex H (upd H x o) h h':=by
 have f:∀b,H b=none->b≠x:=fun b n z=>by subst z;rw[n]at a;exact a
 have g:∀b,H b=none->b≠e:=fun b n z=>by
  subst z;rcases l with r|r;·exact f b n r
  ·rw[n]at r;cases r
 have c:∀b u,H b=some u->¬Mut (some u)->b≠x:=fun b u q j z=>by subst z;rw[q]at a;exact j a
 refine⟨fun b u q n _ _=>k b u (g b n) q,fun b u q n _ _=>⟨u.slots,k b u (g b n) q⟩,fun b u q n _=>by rw[gy (f b n)];exact n,fun b u q _=>?_,
  fun b i q=>by rw[gy (c b _ q fun z=>z)];exact q,fun b u i q=>by rw[gy (c b _ q fun z=>z)];exact q,fun b m q=>⟨#[],by rw[gy (c b _ q fun z=>z),q];simp⟩⟩;by_cases hbe:b=e;·subst hbe;exact d
 ·exact⟨u,k b u hbe q⟩
end
def trk (h:Zt) (H:Hp):List Zx:=(aa h.objs.size).filter fun a=>(H a).isSome
def Ds (h:Zt) (H:Hp):Zt:=PySem.W.hideAll h (trk h H)
def AV (h:Zt) (H:Hp):(Ds h H).objs.size=h.objs.size:=PySem.W.hideAll_size _ _
def Du(e:h.get? b=some o) (n:H b=none):(Ds h H).get? b=some o:=
 PySem.W.hideAll_get _ e fun a=>by have q:=(af.mp a).2;rw[n]at q;simp at q
def Fe(e:(Ds h H).get? b=some o):h.get? b=some o/\H b=none:=by
 have a:=PySem.W.of_hideAll (trk h H) e;refine⟨a,?_⟩
 cases q:H b with
 |none=>rfl
 |some x=>have c:b∈trk h H:=af.mpr ⟨ag.mpr (fJ a),by simp[q]⟩;have z:(Ds h H).get? b=none:=PySem.W.hideAll_none (trk h H) c;rw[z]at e;cases e
structure Mod (K:Zp) (mg:Zc) (base:Zt):Prop where
 kin:K.In base
 glob:base.Ns L7 mg
 blt:∃mb,base.Ns builtinsNs mb/\∀x:Str,x≠"__name__"->mb x=Mq x
 nolimit:base.NoLimit
structure Cx where
 prog:Zu
 w:Zv
 K:Zp
 mg:Str->Option Zz
 base:Zt
 A:Zw
 N:List Str
 s₀:Zy
 H₀:Hp
 env:Env
 outer:List Env
 stack:List Env
 ex:List Zx
 fn:Str->Bool
 calm:Bool
 pn:Za
 xe:Zz->Zy->Prop
def frs (l:List Env):List Zx:=l.filterMap (·.frame)
abbrev Cx.fs (X:Cx):List Zx:=frs X.outer
def Vis (sc:Scope) (x:Str):Prop:=sc.names.lookup x=some .local\/sc.names.lookup x=some .cell\/sc.names.lookup x=some .free
def Loc (sc:Scope) (x:Str):Prop:=sc.names.lookup x=some .local\/sc.names.lookup x=some .cell
def Look (a:Env) (h:Zt) (m:Zc) (x:Str) (u:Zz):Prop:=
 (a.kindOf x=some .local/\m x=some u)\/((a.kindOf x=some .cell\/a.kindOf x=some .free)/\∃c,a.cells.lookup x=some c/\h.IsCell c (some u))
structure Cx.Ok (X:Cx):Prop where
 mod:Mod X.K X.mg X.base
 kind:X.env.scope.kind= .function
 glob:X.env.globals=L7
 blt:X.env.builtins=builtinsNs
 above:X.s₀.heap.objs.size<=X.env.locals
 inj:∀x y c,X.env.cells.lookup x=some c->X.env.cells.lookup y=some c->x=y
 has:∀x,(X.env.kindOf x=some .cell\/X.env.kindOf x=some .free)->∃c,X.env.cells.lookup x=some c
 cab:∀x c,X.fn x=true->X.env.cells.lookup x=some c->X.s₀.heap.objs.size<=c
 hd:X.calm=true->X.A.handled=none
 frames:X.A.frames=some X.stack
 stk:X.stack=X.outer\/(X.stack=X.env::X.outer/\X.env.frame=some X.env.locals)
 exf:∀b∈X.ex,b≠X.env.locals/\∀x c,X.env.cells.lookup x=some c->c≠b
 bs:∀b o,X.base.get? b=some o->X.s₀.heap.get? b=some o/\X.H₀ b=none
 bsz:X.base.objs.size<=X.s₀.heap.objs.size
 noex:∀b o,X.base.get? b=some o->b∉X.ex
 exfs:∀b∈X.ex,b∉X.fs
 funs:X.s₀.heap.FunFrames X.base X.outer
 frf:∀b∈X.fs,X.H₀ b=none
structure Inv (X:Cx) (pz:Za) (σ:List (Option V)) (H:Hp) (s:Zy):Prop where
 ok:X.Ok
 os:s.os=X.s₀.os
 bare:AllBare s.gens
 base:Un X.fs X.ex X.H₀ H X.s₀.heap s.heap
 loc:∃m,s.heap.Ns X.env.locals m/\∀(i:Nat) (x:Str) (v:V),X.N[i]?=some x->σ[i]?=some (some v)->Vis X.env.scope x->∃u,i7 v u/\Look X.env s.heap m x u
 cell:∀x c,X.env.cells.lookup x=some c->∃v,s.heap.IsCell c v
 free:H X.env.locals=none
 freeC:∀x c,X.env.cells.lookup x=some c->H c=none
 pin:∀p∈X.pn++pz,s.heap.get? p.1=some p.2/\H p.1=none/\p.1≠X.env.locals/\p.1∉X.fs/\∀v,p.2.data≠ .cell v
 hok:HOk X.prog X.w H s.heap
 len:σ.length=X.N.length
section
variable {X:Cx} {pz:Za} {σ:List (Option V)} {H H':Hp} {s:Zy} {h':Zt}
def Cx.Ok.nofr (a:X.Ok) {b:Zx} {o:Obj} (e:X.base.get? b=some o):b∉X.fs:=fun c=>by have:=(a.funs.mem c).1;rw[e]at this;cases this
theorem Inv.bs (I:Inv X pz σ H s):∀b o,X.base.get? b=some o->s.heap.get? b=some o/\H b=none:=fun b o e=>
 ⟨I.base.keep b o (I.ok.bs b o e).1 (I.ok.bs b o e).2 (I.ok.nofr e) (I.ok.noex b o e),I.base.free b o (I.ok.bs b o e).1 (I.ok.bs b o e).2 (I.ok.noex b o e)⟩
def Inv.bk (I:Inv X pz σ H s):∀b o,X.base.get? b=some o->s.heap.get? b=some o:=fun b o e=>(I.bs b o e).1
theorem Inv.mod (I:Inv X pz σ H s):Mod X.K X.mg X.base:=I.ok.mod
def Inv.kIn (I:Inv X pz σ H s):X.K.In s.heap:=I.ok.mod.kin.keeps I.bk
theorem Inv.lt (I:Inv X pz σ H s):X.env.locals<s.heap.objs.size:=let⟨_,hn,_⟩:=I.loc;hn.lt
def Inv.sz (I:Inv X pz σ H s):X.s₀.heap.objs.size<=s.heap.objs.size:=cF I.ok.above (cG I.lt)
def Inv.nofs (I:Inv X pz σ H s) {a:Zx} (h:s.heap.objs.size<=a):a∉X.fs:=fun c=>by refine eab (I.ok.funs.mem c) fun _=>faa fun o=>f8 fun b _=>?_;exact absurd (cC (fJ b) (cF I.sz h)) (cD _)
def Inv.cne (I:Inv X pz σ H s):∀x c,X.env.cells.lookup x=some c->c≠X.env.locals:=fun x c e z=>by refine eah (I.cell x c e) fun v o d f=>?_;refine eaa I.loc fun m g _=>?_;refine eai g fun h i j a b _=>?_;rw[z,a]at d;cases d;rw[b]at f;cases f
theorem Inv.funs (I:Inv X pz w H s):s.heap.FunFrames X.base X.outer:=by
 have g:∀l,(∀b∈frs l,b∈X.fs)->X.s₀.heap.FunFrames X.base l->s.heap.FunFrames X.base l:=by
  intro l
  induction l with
  |nil=>intro _ _;trivial
  |cons u r j=>intro h p;refine eac p fun q i k=>?_;refine eaj i fun L o c n m t=>?_;have f:=h L (by unfold frs;rw[ai,c];exact aj);obtain⟨x,e⟩:=I.base.slot L o m (I.ok.frf L f) f fun z=>I.ok.exfs L z f;exact⟨q,(ii L _ ⟨c,n,e,t⟩),j (fun b d=>h b (by unfold frs;rw[ai,c];exact ak _ d)) k⟩
 exact g X.outer (fun _ d=>d) I.ok.funs
theorem Inv.stack (I:Inv X pz σ H s):s.heap.FunFrames X.base X.stack:=by
 rcases I.ok.stk with e|⟨e,b⟩;·rw[e];exact I.funs
 ·rw[e];refine eaa I.loc fun m a _=>?_;refine .cons (by rw[I.ok.kind];decide) b a ?_ I.funs;exact Heap.get?_none_of_le (cF I.ok.bsz I.ok.above)
def Inv.stkSub (I:Inv X pz σ H s):∀b∈frs X.stack,b∈X.env.locals::X.fs:=fun b a=>by
 rcases I.ok.stk with e|⟨e,d⟩;·rw[e]at a;exact ak _ a
 ·rw[e]at a;unfold frs at a;rw[ai,d]at a;exact a
def Inv.stkFree (I:Inv X pz σ H s):∀b∈frs X.stack,H b=none:=fun b hb=>by
 rcases ao.mp (I.stkSub b hb)with e|hb;·rw[e];exact I.free
 ·refine eab (I.ok.funs.mem hb) fun _=>faa fun o=>f8 fun a _=>?_;exact I.base.free b o a (I.ok.frf b hb) fun z=>I.ok.exfs b z hb
def Inv.step {Y:Array GenState} {t':Nat} {d':Drawn} {ch:List Zx} (I:Inv X T σ H s)
  (j:∀b∈ch,(b∈X.ex\/X.s₀.heap.objs.size<=b)/\b≠X.env.locals/\(∀x c,X.env.cells.lookup x=some c->c≠b)/\∀p∈X.pn++T,p.1≠b)
  (h:∀b o,b≠X.env.locals->b∉X.fs->b∉ch->s.heap.get? b=some o->H b=none->h'.get? b=some o)
  (B:∀b o,b≠X.env.locals->b∈X.fs->b∉ch->s.heap.get? b=some o->H b=none->∃Q,h'.get? b=some {o with slots:=Q}) (f:∀b o,b∉ch->s.heap.get? b=some o->H b=none->H' b=none)
  (C:∀b o,b∉ch->s.heap.get? b=some o->∃J,h'.get? b=some J)
  (F:∀b A,H b=some (.tup A)->H' b=some (.tup A)) (M:∀b o u,H b=some (.frz o u)->H' b=some (.frz o u)) (G:∀b O,H b=some (.tbl O)->∃L,H' b=some (.tbl (O++L)))
  (ns:∀m,s.heap.Ns X.env.locals m->h'.Ns X.env.locals m) (R:HOk X.prog X.w H' h') (hg:AllBare Y):
  Inv X T σ H' {s with heap:=h',gens:=Y,drawn:=d',toks:=t'}:=by
 have K:∀b o,X.s₀.heap.get? b=some o->b≠X.env.locals:=fun b o e=>cE (cC (fJ e) I.ok.above);have w:∀b o,X.s₀.heap.get? b=some o->b∉X.ex->b∉ch:=fun b o e a D=>by
  rcases(j b D).1 with z|z;·exact a z
  ·exact absurd (cC (fJ e) z) (cD _)
 have t:∀x c,X.env.cells.lookup x=some c->∀v,s.heap.IsCell c v->h'.IsCell c v:=fun x c e v ⟨o,E,S⟩=>by
  have g:c∉ch:=fun z=>(j c z).2.2.1 x c e rfl;by_cases hc:c∈X.fs;·obtain⟨Q,q⟩:=B c o (I.cne x c e) hc g E (I.freeC x c e);exact⟨_,q,S⟩
  ·exact⟨o,h c o (I.cne x c e) hc g E (I.freeC x c e),S⟩
 refine⟨I.ok,I.os,hg,⟨fun b o e n D a=>?_,fun b o e n D a=>?_,fun b o e n a=>?_,fun b o e a=>?_,fun b A e=>F b A (I.base.tups b A e),fun b o A e=>M b o A (I.base.frzs b o A e),fun b O e=>?_⟩,?_,fun x c e=>?_,?_,fun x c e=>?_,fun p W=>?_,R,I.len⟩;·exact h b o (K b o e) D (w b o e a) (I.base.keep b o e n D a) (I.base.free b o e n a)
 ·obtain⟨Q,y⟩:=I.base.slot b o e n D a;obtain⟨P,N⟩:=B b _ (K b o e) D (w b o e a) y (I.base.free b o e n a);exact⟨P,N⟩
 ·obtain⟨J,y⟩:=I.base.there b o e a;exact f b J (w b o e a) y (I.base.free b o e n a)
 ·obtain⟨J,y⟩:=I.base.there b o e a;exact C b J (w b o e a) y
 ·obtain⟨m1,y⟩:=I.base.tbls b O e;obtain⟨m2,N⟩:=G b _ y;exact⟨m1++m2,by rw[N,Array.append_assoc]⟩
 ·refine eaa I.loc fun m hn hl=>?_;refine⟨m,ns m hn,fun i x v y N e3=>?_⟩;refine eaa (hl i x v y N e3) fun u r l=>?_;refine⟨u,r,?_⟩;rcases l with l|⟨k,c,e,z⟩;·exact .inl l
  ·exact .inr ⟨k,c,e,t x c e _ z⟩
 ·obtain⟨v,z⟩:=I.cell x c e;exact⟨v,t x c e v z⟩
 ·refine eaa I.loc fun m Z _=>?_;refine eaf Z fun o _ _ E _=>?_;exact f _ o (fun z=>(j _ z).2.1 rfl) E I.free
 ·refine eah (I.cell x c e) fun v o E S=>?_;exact f c o (fun z=>(j c z).2.2.1 x c e rfl) E (I.freeC x c e)
 ·refine eae (I.pin p W) fun e n V U d=>?_;have g:p.1∉ch:=fun z=>(j p.1 z).2.2.2 p W rfl;exact⟨h p.1 p.2 V U g e n,f p.1 p.2 g e n,V,U,d⟩
def Inv.un (I:Inv X pz σ H s) (u:Un X.fs [] H H' s.heap h') (c:HOk X.prog X.w H' h'):Inv X pz σ H' {s with heap:=h',toks:=t'}:=by
 refine eaa (id I.loc) fun m i _=>?_;refine eaf i fun o v w h r=>?_;obtain⟨p,l⟩:=u.any h I.free O4;exact I.step (ch:=[]) (fun _ z=>nomatch z) (fun b o _ d _ e n=>u.keep b o e n d O4) (fun b o _ d _ e n=>u.slot b o e n d O4) (fun b o _ e n=>u.free b o e n O4) (fun b o _ e=>u.there b o e O4) u.tups u.frzs u.tbls (fun t k=>by refine eaf k fun q f g a j=>?_;rw[h]at a;cases a;exact iaa _ f g ⟨l,j⟩) c I.bare
def Inv.call {q:Array GenState} {t':Nat} {B:Drawn} {ch:List Zx} (I:Inv X k σ H s) (u:Un (frs X.stack) ch H H' s.heap h') (g:HOk X.prog X.w H' h') (y:AllBare q)
  (f:∀b∈ch,(b∈X.ex\/X.s₀.heap.objs.size<=b)/\b≠X.env.locals/\(∀x c,X.env.cells.lookup x=some c->c≠b)/\∀p∈X.pn++k,p.1≠b):
  Inv X k σ H' {s with heap:=h',gens:=q,drawn:=B,toks:=t'}:=by
 refine eaa (id I.loc) fun m t _=>?_;refine eaf t fun o F G l r=>?_;obtain⟨C,h⟩:=u.any l I.free fun z=>(f _ z).2.1 rfl;exact I.step f (fun b o h A a e n=>u.keep b o e n (fun z=>(ao.mp (I.stkSub b z)).elim h A) a) (fun b o _ _ a e n=>u.any e n a) (fun b o a e n=>u.free b o e n a) (fun b o a e=>u.there b o e a) u.tups u.frzs u.tbls (fun E w=>by refine eaf w fun D i j d v=>?_;rw[l]at d;cases d;exact iaa _ i j ⟨h,v⟩) g y
def Inv.turned {it:Zx} (I:Inv X f σ H s) (k:∀b o,b≠it->s.heap.get? b=some o->h'.get? b=some o) (i:H it=none) (g:it≠X.env.locals)
  (y:it∈X.ex\/X.s₀.heap.objs.size<=it) (w:∀x c,X.env.cells.lookup x=some c->c≠it) (t:∀p∈X.pn++f,p.1≠it):Inv X f σ H {s with heap:=h',toks:=t'}:=by
 have d:∀b u,H b=some u->b≠it:=fun b u e z=>by rw[z,i]at e;cases e
 refine I.step (ch:=[it]) (fun b l=>?_) (fun b o _ _ a e _=>k b o (fun z=>a (by simp[z])) e) (fun b o _ _ a e _=>⟨o.slots,k b o (fun z=>a (by simp[z])) e⟩) (fun _ _ _ _ n=>n)
  (fun b o a e=>⟨o,k b o (fun z=>a (by simp[z])) e⟩) (fun _ _ e=>e) (fun _ _ _ e=>e) (fun b C e=>⟨#[],by rw[e];simp⟩) (fun m j=>?_) (fun b u e=>?_) I.bare
 ·have e:b=it:=by simpa using l
  subst e;exact⟨y,g,w,t⟩
 ·refine eaf j fun o A B h r=>?_;exact iaa o A B ⟨k _ o (Mu g) h,r⟩
 ·refine(I.hok b u e).stay (fun c v a q=>k c v ?_ q) (fun _ q=>q) fun _ _ q=>q;rcases a with z|z;·rw[z];exact d b u e
  ·exact d c _ z
def Inv.tok (I:Inv X pz σ H s) (t:Nat):Inv X pz σ H {s with toks:=t}:=I.un Un.refl I.hok
theorem Inv.kept (I:Inv X pz σ H s) (k:∀b u,s.heap.get? b=some u->h'.get? b=some u):Inv X pz σ H {s with heap:=h',toks:=t'}:=I.un (Un.kept k) (I.hok.kept k)
theorem Inv.laid {a:Zx} {o:HO} (I:Inv X pz σ H s) (k:∀b u,s.heap.get? b=some u->h'.get? b=some u) (d:s.heap.objs.size<=a) (c:kb X.prog X.w (upd H a o) h' a o):
  Inv X pz σ (upd H a o) {s with heap:=h',toks:=t'}:=I.un (Un.laid k d (I.hok.fresh d)) (I.hok.laid k d c)
theorem Inv.write {x e:Zx} {o:HO} (I:Inv X pz σ H s) (d:Mut (H x)) (f:e=x\/H e=some (.own x)) (k:∀b u,b≠e->s.heap.get? b=some u->h'.get? b=some u) (a:∃u,h'.get? e=some u)
  (c:kb X.prog X.w (upd H x o) h' x o):Inv X pz σ (upd H x o) {s with heap:=h',toks:=t'}:=I.un (Un.write d f k a) (I.hok.write d f k a c)
def Inv.pins_of {a:Za} (I:Inv X pz σ H s) (h:∀p∈a,s.heap.get? p.1=some p.2/\H p.1=none/\p.1≠X.env.locals/\p.1∉X.fs/\∀v,p.2.data≠ .cell v):Inv X a σ H s:=
 ⟨I.ok,I.os,I.bare,I.base,I.loc,I.cell,I.free,I.freeC,fun p b=>(aq.mp b).elim (fun z=>I.pin p (au _ z)) (h p),I.hok,I.len⟩
def y9(c:N.Nodup) (a:N[i]?=some x) (b:N[j]?=some x):i=j:=by obtain⟨g,e⟩:=av.mp a;obtain⟨f,d⟩:=av.mp b;exact(List.getElem_inj c).mp (e.trans d.symm)
def AW{E:Zb} {Q:Unit->Zy->Prop} (I:Inv X pz σ H s) (hN:X.N.Nodup) (C:X.N[i]?=some x) (t:Loc X.env.scope x) (r:i7 v u)
  (h:∀W,Inv X pz (σ.set i (some v)) H W->(∃a,NC a s.heap W.heap/\(a=X.env.locals\/X.env.cells.lookup x=some a))->Q () W) (hf:autoParam (X.fn x=true\/X.env.scope.names.lookup x=some .local) auL._auto_1):L8 M A (storeName X.env x u) Q E s:=by
 refine eaa (id I.loc) fun m hn hl=>?_;have N:(X.env.scope.kind== .class||(X.env.scope.kind== .module&&X.env.locals !=X.env.globals))=false:=by rw[I.ok.kind];rfl
 have Cσ:i<σ.length:=by rw[I.len];exact(av.mp C).1
 have G:=I.cne;have g:∀{a:Zx} {J:Zt},(∃o,s.heap.get? a=some o/\H a=none)->NC a s.heap J->HOk X.prog X.w H J:=fun{a J} ha f b ob e=>by
  refine eaa ha fun _ _ w=>?_;refine(I.hok b ob e).stay (fun c P hc q=>(f.2 c ?_).trans q) (fun _ q=>q) fun _ _ q=>q;rintro rfl;rcases hc with rfl|hc;·rw[w]at e;cases e
  ·rw[w]at hc;cases hc
 rcases t with hk|hk
 ·refine wpAny_storeName_local hk hn (fun J hn' f=>?_) N;refine eaf (id hn) fun oL _ _ hoL _=>?_;refine h _ ⟨I.ok,I.os,I.bare,⟨fun b o e n F t=>?_,fun b o e n F t=>?_,I.base.free,fun b o e t=>?_,I.base.tups,I.base.frzs,I.base.tbls⟩,⟨_,hn',fun j y T l B e3=>?_⟩,fun y c e=>?_,I.free,I.freeC,fun p hp=>?_,g ⟨oL,hoL,I.free⟩ f,by simpa using I.len⟩ ⟨_,f,.inl rfl⟩;·exact(f.2 b (cE (cC (fJ e) I.ok.above))).trans (I.base.keep b o e n F t)
  ·obtain⟨V,l⟩:=I.base.slot b o e n F t;exact⟨V,(f.2 b (cE (cC (fJ e) I.ok.above))).trans l⟩
  ·obtain⟨Z,l⟩:=I.base.there b o e t;exact⟨Z,(f.2 b (cE (cC (fJ e) I.ok.above))).trans l⟩
  ·by_cases hj:j=i;·subst hj;rw[C]at l;cases l;rw[aw Cσ]at B;cases B;exact⟨u,r,.inl ⟨hk,O4⟩⟩
   ·rw[ax (Mu hj)]at B;refine eaa (hl j y T l B e3) fun U Y q=>?_;refine⟨U,Y,?_⟩;rcases q with⟨k,e⟩|⟨k,c,e,z⟩;·refine .inl ⟨k,?_⟩;have:y≠x:=fun e=>hj (y9 hN l (e▸C));simp[this,e]
    ·exact .inr ⟨k,c,e,z.sameBut f (G y c e)⟩
  ·obtain⟨P,z⟩:=I.cell y c e;exact⟨P,z.sameBut f (G y c e)⟩
  ·refine eae (I.pin p hp) fun e n R nf d=>?_;exact⟨(f.2 p.1 R).trans e,n,R,nf,d⟩
 ·have D:X.fn x=true:=by
   rcases hf with z|z;·exact z
   ·rw[z]at hk;cases hk
  obtain⟨c,hc⟩:=I.ok.has x (.inl hk);obtain⟨P,z⟩:=I.cell x c hc;refine wpAny_storeName_cell I.ok.kind hk hc z (fun J O f=>?_);refine eaa (id z) fun oc L K=>?_;refine h {s with heap:=J} ⟨I.ok,I.os,I.bare,⟨fun b o e n F t=>?_,fun b o e n F t=>?_,I.base.free,fun b o e t=>?_,I.base.tups,I.base.frzs,I.base.tbls⟩,⟨m,hn.sameBut f (Mu (G x c hc)),fun j y T l B e3=>?_⟩,fun y S e=>?_,I.free,I.freeC,fun p hp=>?_,g ⟨oc,L,I.freeC x c hc⟩ f,by simpa using I.len⟩ ⟨c,f,.inr hc⟩;·exact(f.2 b (cE (cC (fJ e) (I.ok.cab x c D hc)))).trans (I.base.keep b o e n F t)
  ·obtain⟨V,l⟩:=I.base.slot b o e n F t;exact⟨V,(f.2 b (cE (cC (fJ e) (I.ok.cab x c D hc)))).trans l⟩
  ·obtain⟨Z,l⟩:=I.base.there b o e t;exact⟨Z,(f.2 b (cE (cC (fJ e) (I.ok.cab x c D hc)))).trans l⟩
  ·by_cases hj:j=i;·subst hj;rw[C]at l;cases l;rw[aw Cσ]at B;cases B;exact⟨u,r,.inr ⟨.inl hk,c,hc,O⟩⟩
   ·rw[ax (Mu hj)]at B;refine eaa (hl j y T l B e3) fun U Y q=>?_;refine⟨U,Y,?_⟩;rcases q with q|⟨k,S,e,z'⟩;·exact .inl q
    ·refine .inr ⟨k,S,e,z'.sameBut f ?_⟩;rintro rfl;exact hj (y9 hN l (I.ok.inj _ _ _ e hc▸C))
  ·by_cases hcc:S=c;·subst hcc;exact⟨_,O⟩
   ·obtain⟨w2,z2⟩:=I.cell y S e;exact⟨w2,z2.sameBut f hcc⟩
  ·refine eae (I.pin p hp) fun e n R nf d=>?_;refine⟨(f.2 p.1 ?_).trans e,n,R,nf,d⟩;intro q;rw[q,L]at e;have q':=du.inj e;exact d P (by rw[<-q'];exact K)
def oq{E:Zb} {Q:Unit->Zy->Prop} (I:Inv X pz σ H s) (e:X.N.Nodup) (c:X.N[i]?=some x) (b:Loc X.env.scope x) (r:i7 v u)
  (h:∀a,Inv X pz (σ.set i (some v)) H a->Q () a) (d:autoParam (X.fn x=true\/X.env.scope.names.lookup x=some .local) auL._auto_1):L8 M A (storeName X.env x u) Q E s:=
 AW I e c b r (fun a f _=>h a f) d
def Inv.call' {a:Zy} (I:Inv X g σ H s) (h:a.os=s.os) (u:Un (frs X.stack) ch H H' s.heap a.heap) (d:HOk X.prog X.w H' a.heap) (i:AllBare a.gens)
  (f:∀b∈ch,(b∈X.ex\/X.s₀.heap.objs.size<=b)/\b≠X.env.locals/\(∀x c,X.env.cells.lookup x=some c->c≠b)/\∀p∈X.pn++g,p.1≠b):Inv X g σ H' a:=by obtain⟨m,n,o,k,l⟩:=a;have e:=h;subst e;exact I.call u d i f
end
abbrev XK:=Zz->Option Zx->Hp->Prop
abbrev St:=List (Option V)
abbrev VK:=V->Hp->Prop
abbrev TE:=St->Hp->VK->Prop
abbrev TT:=St->Hp->(Bool->Hp->Prop)->Prop
abbrev TA:=St->Hp->(List V->Hp->Prop)->Prop
structure ny where
 nx:St->Hp->Prop
 rt:VK
 bk:St->Hp->Prop:=fun _ _=>False
 ct:St->Hp->Prop:=fun _ _=>False
abbrev TS:=ny->St->Hp->Prop
def EP (X:Cx) (d:Za) (b:St) (Q:VK) (u:Zz) (c:Zy):Prop:=∃v a,Inv X d b a c/\i7 v u/\Q v a
def TP (X:Cx) (e:Za) (c:St) (Q:Bool->Hp->Prop) (b:Bool) (d:Zy):Prop:=∃a,Inv X e c a d/\Q b a
def AP (X:Cx) (f:Za) (c:St) (Q:List V->Hp->Prop) (d:List Zz) (e:Zy):Prop:=∃a b,Inv X f c b e/\ja a d/\Q a b
def SP (X:Cx) (d:Za) (D:ny) (f:Flow) (c:Zy):Prop:=
 match f with
 | .next=>∃a b,Inv X d a b c/\D.nx a b
 | .brk=>∃a b,Inv X d a b c/\D.bk a b
 | .cont=>∃a b,Inv X d a b c/\D.ct a b
 | .ret u=>∃v a b,Inv X d a b c/\i7 v u/\D.rt v b
def PE (X:Cx) (e:Zr) (t:TE):Prop:=
 ∀b s (a:St) H Q,Inv X b a H s->t a H Q->L8 (model X.prog X.w) X.A (eval e X.env) (EP X b a Q) X.xe s
def PT (X:Cx) (e:Zr) (t:TT):Prop:=
 ∀b s (a:St) H Q,Inv X b a H s->t a H Q->L8 (model X.prog X.w) X.A (isTrue e X.env (eval e X.env)) (TP X b a Q) X.xe s
def PW (X:Cx) (e:Zr) (t:TT):Prop:=
 ∀a c s (b:St) H Q,Inv X c b H s->t b H Q->L8 (model X.prog X.w) X.A (isTrue e X.env a) (TP X c b Q) X.xe s
def PW.pt {e:Zr} {t:TT} (h:PW X e t):PT X e t:=h _
def PA (X:Cx) (d:List Zr) (t:TA):Prop:=
 ∀b c s (a:St) H Q,Inv X c a H s->t a H Q->L8 (model X.prog X.w) X.A (spliced (MK b (Mj d X.env))) (AP X c a Q) X.xe s
def PS (X:Cx) (st:Zq) (t:TS):Prop:=
 ∀b s (a:St) H D,Inv X b a H s->t D a H->L8 (model X.prog X.w) X.A (exec st X.env) (SP X b D) X.xe s
def PSs (X:Cx) (st:List Zq) (t:TS):Prop:=
 ∀b s (a:St) H D,Inv X b a H s->t D a H->L8 (model X.prog X.w) X.A (execs st X.env) (SP X b D) X.xe s
def thn{Q:α->Zy->Prop} {E:Zb} (h:L8 M A t Q E s) (b:∀a s,Q a s->Q' a s):L8 M A t Q' E s:=Mp h b fun _ _ x=>x
section
variable {X:Cx}
def LC (i:Nat):TE:=fun a H Q=>∃v,a[i]?=some (some v)/\Q v H
def tC (v:V):TE:=fun _ H Q=>Q v H
def Ht(t:X.N[i]?=some x) (n:Vis X.env.scope x) (d:autoParam ((x==("__debug__":Str))=false) auD._auto_1) (f:autoParam ((x==("__classdict__":Str))=false) auD._auto_1):PE X (.Name x pos) (LC i):=by
 intro k s j H Q I h;refine eaa h fun v e h=>?_;refine eaa I.loc fun m o q=>?_;refine eaa (q i x v t e n) fun u r l=>?_;have b:EP X k j Q u s:=(ii v H ⟨I,r,h⟩);rcases l with⟨hk,p⟩|⟨hk,c,g,a⟩;·exact wpAny_Name (wpAny_loadName_local I.ok.kind hk o p b) d
 ·rcases hk with hk|hk;·exact wpAny_Name (wpAny_loadName_cell I.ok.kind hk g a b) d
  ·exact wpAny_Name (wpAny_loadName_free I.ok.kind hk g a b f) d
def fX {i j pos}:PE X (.Constant (.int i) j pos) (tC (.int i)):=fun _ _ _ H _ I h=>wpAny_Constant_int (ii (.int i) H (⟨I.tok _,⟨_,rfl⟩,h⟩))
def qa {b j pos}:PE X (.Constant (.bool b) j pos) (tC (.bl b)):=fun _ _ _ H _ I h=>Constant_bool (ii (.bl b) H ⟨I,rfl,h⟩)
def hG {j pos}:PE X (.Constant .none j pos) (tC .non):=fun _ _ _ H _ I h=>Constant_none (ii .non H ⟨I,rfl,h⟩)
def gh {x j pos}:PE X (.Constant (.str x) j pos) (tC (.str x)):=fun _ _ _ H _ I h=>Calls.Constant_str (ii (.str x) H (⟨I.tok _,⟨_,rfl⟩,h⟩))
def Gl (X:Cx) (x:Str):Prop:=X.env.kindOf x=some .globalImplicit
def xU{E:Zb} {a:St} (I:Inv X pz a H s) (c:Gl X x) (b:X.mg x=some u) (h:Q u s)
  (d:autoParam ((x==("__debug__":Str))=false) auD._auto_1):L8 (model X.prog X.w) X.A (eval (.Name x pos) X.env) Q E s:=
 Calls.Name_function_global I.ok.kind c (Calls.loadGlobal_global (by rw[I.ok.glob];exact I.mod.glob.keeps I.bk) b h) d
def qb{E:Zb} {a:St} (I:Inv X pz a H s) (e:Gl X x) (d:X.mg x=none) (b:Mq x=some u) (h:Q u s)
  (c:autoParam (x≠"__name__") auD._auto_1) (f:autoParam ((x==("__debug__":Str))=false) auD._auto_1):L8 (model X.prog X.w) X.A (eval (.Name x pos) X.env) Q E s:=by refine eaa I.mod.blt fun j i g=>?_;exact Calls.Name_function_global I.ok.kind e (Calls.loadGlobal_builtin (by rw[I.ok.glob];exact I.mod.glob.keeps I.bk) d (by rw[I.ok.blt];exact i.keeps I.bk) ((g x c).trans b) h) f
def xV(b:Gl X x) (a:X.mg x=some u) (r:i7 v u) (c:autoParam ((x==("__debug__":Str))=false) auD._auto_1):PE X (.Name x pos) (tC v):=
 fun _ _ _ H _ I h=>xU I b a (ii v H ⟨I,r,h⟩) c
def Ff(d:Gl X x) (c:X.mg x=none) (a:Mq x=some u) (r:i7 v u) (b:autoParam (x≠"__name__") auD._auto_1) (e:autoParam ((x==("__debug__":Str))=false) auD._auto_1):PE X (.Name x pos) (tC v):=
 fun _ _ _ H _ I h=>qb I d c a (ii v H ⟨I,r,h⟩) b e
variable {a b:Zr} {ta tb:TE} {pos:Pos}
def PC (X:Cx) (g:CmpOp) (a b:Zr) (t:TE):Prop:=
 ∀f s (e:St) H Q,Inv X f e H s->t e H Q->
  L8 (model X.prog X.w) X.A (eval a X.env) (fun v d=>L8 (model X.prog X.w) X.A (eval b X.env) (fun u c=>L8 (model X.prog X.w) X.A (Mw g v u) (EP X f e Q) X.xe c) X.xe d) X.xe s
def zc(b:Zr) (h:op≠ .In) (a:op≠ .NotIn):MP op b=false:=by
 have d:(op==CmpOp.In)=false:=by cases op<;>first|rfl|exact absurd rfl h
 have c:(op==CmpOp.NotIn)=false:=by cases op<;>first|rfl|exact absurd rfl a
 cases b<;>simp[MP,d,c]
def tIsN (b:TE):TE:=fun a H Q=>b a H fun x c=>Q (.bl (decide (x= .non))) c
def JV (b:TE):TE:=fun a H Q=>b a H fun x c=>Q (.bl (!decide (x= .non))) c
def i7.none_iff {x:V} {v:Zz} (r:i7 x v):(v==MW)=decide (x= .non):=by
 cases x with
 |non=>cases r;rfl
 |bl _=>cases r;rfl
 |int _=>obtain⟨t,rfl⟩:=r;rfl
 |str _=>obtain⟨t,rfl⟩:=r;rfl
 |byt _=>obtain⟨t,rfl⟩:=r;rfl
 |flt _=>obtain⟨t,rfl⟩:=r;rfl
 |ref _=>cases r;rfl
 |ty _=>cases r;rfl
def AX {j pos'} (f:PE X a ta):PC X .Is a (.Constant .none j pos') (tIsN ta):=by intro e s b H Q I h;refine thn (f e s b H _ I h) ?_;refine fun v k=>fac fun x i g c d=>?_;exact Constant_none (is_none_gen (ii (.bl _) i ⟨g,by rw[c.none_iff];rfl,d⟩))
def Fg {j pos'} (f:PE X a ta):PC X .IsNot a (.Constant .none j pos') (JV ta):=by intro e s b H Q I h;refine thn (f e s b H _ I h) ?_;refine fun v k=>fac fun x i g c d=>?_;exact Constant_none (isnot_none_gen (ii (.bl _) i ⟨g,by rw[c.none_iff];rfl,d⟩))
def tB (t:TE):TT:=fun a H Q=>t a H fun x b=>∃c,x= .bl c/\Q c b
def AY {op:CmpOp} {t:TE} (h:PC X op a b t) (h1:MP op b=false:=by first|exact zc _ O3 O3|rfl):PE X (.Compare a [op] [b] pos) t:=fun pz s σ H Q I hw=>wpAny_Compare1 (h pz s σ H Q I hw) h1
def si {op:CmpOp} {t:TE} (h:PC X op a b t) (h1:MP op b=false:=by first|exact zc _ O3 O3|rfl):PT X (.Compare a [op] [b] pos) (tB t):=by intro pz s σ H Q I hw;refine wpAny_isTrue_Compare1 (thn (h pz s σ H _ I hw) fun v s1 h1=>thn h1 fun u s2 h2=>thn h2 ?_) h1;refine fun c s3=>fac fun x H1 I1 r1 q1=>?_;refine eaa q1 fun d z0 q=>?_;subst z0;cases r1;exact ME ⟨H1,I1,q⟩
def jC(h:PE X e t) (k:autoParam (∀a,isTrue e X.env a=(do let v<-a;standAt e.pos;holding [v] (truthy v))) auI._auto_1):PT X e (tB t):=by intro i s b H Q I j;refine isTrue_plain (thn (h i s b H _ I j) ?_) (k _);refine fun v n=>fac fun x m l f g=>?_;refine eaa g fun d c q=>?_;subst c;cases f;exact ME ⟨m,l,q⟩
variable {tA tB':TT} {rest:List Zr}
def tAnd (t u:TT):TT:=fun a H Q=>t a H fun c b=>if c=true then u a b Q else Q false b
def tOr (t u:TT):TT:=fun a H Q=>t a H fun c b=>if c=true then Q true b else u a b Q
def tNot (t:TT):TT:=fun a H Q=>t a H fun c b=>Q (!c) b
def mD (f:PT X a tA):PW X (.BoolOp .And [a] pos) tA:=by
 intro g d s b H Q I h;refine isTrue_and (thn (f d s b H Q I h) fun c i e=>?_)
 cases c with
 |true=>exact isTrue_and_nil e
 |false=>exact e
def qc (f:PT X a tA):PW X (.BoolOp .Or [a] pos) tA:=by
 intro g d s b H Q I h;refine isTrue_or (thn (f d s b H Q I h) fun c i e=>?_)
 cases c with
 |false=>exact isTrue_or_nil e
 |true=>exact e
def nK (m:PT X a tA) (l:PW X (.BoolOp .And (b::rest) pos) tB'):PW X (.BoolOp .And (a::b::rest) pos) (tAnd tA tB'):=by
 intro j f s d H Q I h;refine isTrue_and (thn (m f s d H _ I h) ?_);refine fun c k=>fad fun i g e=>?_
 cases c with
 |true=>exact l j f k d i Q g e
 |false=>exact⟨i,g,e⟩
def rO (m:PT X a tA) (l:PW X (.BoolOp .Or (b::rest) pos) tB'):PW X (.BoolOp .Or (a::b::rest) pos) (tOr tA tB'):=by
 intro j f s d H Q I h;refine isTrue_or (thn (m f s d H _ I h) ?_);refine fun c k=>fad fun i g e=>?_
 cases c with
 |true=>exact⟨i,g,e⟩
 |false=>exact l j f k d i Q g e
def mM (e:PT X a tA):PT X (.UnaryOp .Not a pos) (tNot tA):=by intro d s b H Q I h;exact isTrue_not (e d s b H (fun c f=>Q (!c) f) I h)
def JW (e d:TE):TE:=fun a H Q=>e a H fun x b=>∃c,x= .bl c/\if c=true then d a b Q else Q (.bl false) b
def JX (e d:TE):TE:=fun a H Q=>e a H fun x b=>∃c,x= .bl c/\if c=true then Q (.bl true) b else d a b Q
def JY (b:TE):TE:=fun a H Q=>b a H fun x d=>∃c,x= .bl c/\Q (.bl (!c)) d
def nA{op} (h:PE X a t):PE X (.BoolOp op [a] pos) t:=fun c s b H Q I d=>BoolOp_one (h c s b H Q I d)
def nB (m:PE X a ta) (l:PE X (.BoolOp .And (b::rest) pos) tb):PE X (.BoolOp .And (a::b::rest) pos) (JW ta tb):=by
 intro f s e H Q I h;refine BoolOp_and (thn (m f s e H _ I h) ?_);refine fun v j=>fac fun x i g k d=>?_;obtain⟨c,rfl,d⟩:=d;cases k;refine ME ?_
 cases c with
 |true=>exact l f j e i Q g d
 |false=>exact ii (.bl false) i ⟨g,rfl,d⟩
def Hu (m:PE X a ta) (l:PE X (.BoolOp .Or (b::rest) pos) tb):PE X (.BoolOp .Or (a::b::rest) pos) (JX ta tb):=by
 intro f s e H Q I h;refine BoolOp_or (thn (m f s e H _ I h) ?_);refine fun v j=>fac fun x i g k d=>?_;obtain⟨c,rfl,d⟩:=d;cases k;refine ME ?_
 cases c with
 |false=>exact l f j e i Q g d
 |true=>exact ii (.bl true) i ⟨g,rfl,d⟩
def Hv (g:PE X a ta):PE X (.UnaryOp .Not a pos) (JY ta):=by intro f s d H Q I h;refine UnaryOp_ (thn (g f s d H _ I h) ?_);refine fun v k=>fac fun x j i e b=>?_;obtain⟨c,rfl,b⟩:=b;cases e;exact not_of (ME (ii (.bl (!c)) j ⟨i,rfl,b⟩))
def tIf (t:TT) (e d:TE):TE:=fun a H Q=>t a H fun c b=>if c=true then e a b Q else d a b Q
def ot(l:PT X c tA) (n:PE X a ta) (m:PE X b tb):PE X (.IfExp c a b pos) (tIf tA ta tb):=by
 intro f s e H Q I h;refine wpAny_IfExp (thn (l f s e H _ I h) ?_);refine fun d g=>fad fun k j i=>?_
 cases d with
 |true=>exact n f g e k Q j i
 |false=>exact m f g e k Q j i
end
def SqL (K:Zp) (H:Hp) (a:Zx) (xs:List V):Prop:=
 Rd H a (.lst xs)\/
  ∃o b n,K.lookup a=some o/\o.cls= .type "list"/\o.dict=none/\o.data= .seq b n/\b.size<=sizeLine/\ja xs b.toList
def SqT (K:Zp) (H:Hp) (a:Zx) (xs:List V):Prop:=
 Rd H a (.tup xs)\/
  ∃o b n,K.lookup a=some o/\o.cls= .type "tuple"/\o.data= .seq b n/\b.size<=sizeLine/\ja xs b.toList
noncomputable def absV:Zz->Option V
 | .none=>some .non
 | .bool b=>some (.bl b)
 | .int i _=>some (.int i)
 | .str x _=>some (.str x)
 | .bytes b _=>some (.byt b)
 | .float b _=>some (.flt b)
 | .ref a=>some (.ref a)
 | .type n=>some (.ty n)
 |_=>none
def i7.abs {x:V} {u:Zz} (r:i7 x u):absV u=some x:=by
 cases x with
 |non=>cases r;rfl
 |bl _=>cases r;rfl
 |int _=>obtain⟨t,rfl⟩:=r;rfl
 |str _=>obtain⟨t,rfl⟩:=r;rfl
 |byt _=>obtain⟨t,rfl⟩:=r;rfl
 |flt _=>obtain⟨t,rfl⟩:=r;rfl
 |ref _=>cases r;rfl
 |ty _=>cases r;rfl
theorem i7.inj {x:V} {u:Zz} (r:i7 x u) (q:i7 y u):x=y:=du.inj (r.abs.symm.trans q.abs)
theorem ja.inj:∀{xs a:List V} {b:List Zz},ja xs b->ja a b->xs=a
 |_,_,_,.nil,.nil=>rfl
 |_,_,_,.cons r t,.cons r' t'=>by rw[r.inj r',ja.inj t t']
section
variable {X:Cx} {pz:Za} {σ:St} {H:Hp} {s:Zy} {a:Zx} {xs ys:List V}
def SqL.of {K:Zp} (h:H a=some (.lst xs)):SqL K H a xs:= .inl (.inl h)
def SqT.of {K:Zp} (h:H a=some (.tup xs)):SqT K H a xs:= .inl (.inl h)
def Inv.list (I:Inv X pz σ H s) (h:SqL X.K H a xs):∃b,ja xs b/\PlainL s.heap a b.toArray/\xs.length<=sizeLine:=by
 rcases h with h|⟨o,b,n,d,g,f,c,i,r⟩;·refine eab (h.ok I.hok) fun z=>fL fun b n=>f8 fun r e=>?_;exact⟨b,r,(ii _ n ⟨e,rfl,rfl,rfl⟩),z⟩
 ·refine⟨b.toList,r,(ii o n ⟨I.kIn a o d,g,f,by simpa using c⟩),?_⟩;have e:=r.length;simp only[fq]at e;lia
def Inv.tuple (I:Inv X pz σ H s) (h:SqT X.K H a xs):∃b,ja xs b/\IsTup s.heap a b.toArray/\xs.length<=sizeLine:=by
 rcases h with h|⟨o,b,n,d,f,c,g,r⟩;·refine eab (h.ok I.hok) fun z=>faa fun b=>f8 fun r p=>?_;exact⟨b,r,p.tup,z⟩
 ·refine⟨b.toList,r,⟨o,I.kIn a o d,f,n,by simpa using c⟩,?_⟩;have e:=r.length;simp only[fq]at e;lia
def Inv.list_inj (I:Inv X pz σ H s) (h:SqL X.K H a xs) (k:SqL X.K H a ys):xs=ys:=by
 refine eak (I.list h) fun f r c _=>?_;refine eaj c fun o n e _ _ d=>?_;refine eak (I.list k) fun b j c _=>?_;refine eaj c fun l m g _ _ i=>?_;rw[e]at g;cases g;rw[d]at i;injection i with d1 _;have:f=b:=by simpa using congrArg Array.toList d1
 subst this;exact r.inj j
def Inv.tuple_inj (I:Inv X pz σ H s) (h:SqT X.K H a xs) (k:SqT X.K H a ys):xs=ys:=by
 refine eak (I.tuple h) fun f r c _=>?_;refine eal c fun o=>fae fun e _=>faa fun n d=>?_;refine eak (I.tuple k) fun b j c _=>?_;refine eal c fun l=>fae fun g _=>faa fun m i=>?_;rw[e]at g;cases g;rw[d]at i;injection i with d1 _;have:f=b:=by simpa using congrArg Array.toList d1
 subst this;exact r.inj j
end
abbrev Cx.wish (X:Cx) (E:Zb):Cx:={X with xe:=E}
abbrev Cx.nox (X:Cx):Cx:=X.wish fun _ _=>False
theorem Cx.Ok.wish (a:X.Ok) (E:Zb):(X.wish E).Ok:=
 ⟨a.mod,a.kind,a.glob,a.blt,a.above,a.inj,a.has,a.cab,a.hd,a.frames,a.stk,a.exf,a.bs,a.bsz,a.noex,a.exfs,a.funs,a.frf⟩
def Cx.Ok.unwish {E:Zb} (a:(X.wish E).Ok):X.Ok:=
 ⟨a.mod,a.kind,a.glob,a.blt,a.above,a.inj,a.has,a.cab,a.hd,a.frames,a.stk,a.exf,a.bs,a.bsz,a.noex,a.exfs,a.funs,a.frf⟩
section
variable {X:Cx} {pz:Za} {σ:St} {H:Hp} {s:Zy} {E:Zb}
theorem Inv.wish (I:Inv X pz σ H s) (E:Zb):Inv (X.wish E) pz σ H s:=⟨I.ok.wish E,I.os,I.bare,I.base,I.loc,I.cell,I.free,I.freeC,I.pin,I.hok,I.len⟩
theorem Inv.unwish (I:Inv (X.wish E) pz σ H s):Inv X pz σ H s:=⟨I.ok.unwish,I.os,I.bare,I.base,I.loc,I.cell,I.free,I.freeC,I.pin,I.hok,I.len⟩
theorem SP.unwish {D:ny} {f:Flow} {c:Zy} (h:SP (X.wish E) pz D f c):SP X pz D f c:=by
 cases f with
 |next=>refine eah h fun a b I q=>?_;exact ii a b ⟨I.unwish,q⟩
 |brk=>refine eah h fun a b I q=>?_;exact ii a b ⟨I.unwish,q⟩
 |cont=>refine eah h fun a b I q=>?_;exact ii a b ⟨I.unwish,q⟩
 |ret u=>refine eai h fun v a b I r q=>?_;exact iaa v a b ⟨I.unwish,r,q⟩
theorem PE.nox {e:Zr} {t:TE} (h:PE X.nox e t):PE X e t:=fun b s a H Q I c=>
 Mp (h b s a H Q (I.wish _) c) (fun _ _ ⟨v,f,d,r,q⟩=>(ii v f ⟨d.unwish,r,q⟩)) fun _ _ z=>Mt z
theorem PT.nox {e:Zr} {t:TT} (h:PT X.nox e t):PT X e t:=fun b s a H Q I c=>
 Mp (h b s a H Q (I.wish _) c) (fun _ _ ⟨f,d,q⟩=>⟨f,d.unwish,q⟩) fun _ _ z=>Mt z
theorem PSs.nox {st:List Zq} {t:TS} (h:PSs X.nox st t):PSs X st t:=fun b s a H D I c=>
 Mp (h b s a H D (I.wish _) c) (fun _ _ q=>q.unwish) fun _ _ z=>Mt z
end
section
variable {X:Cx} {st:Zq} {rest:List Zq} {t u:TS} {e:Zr} {te:TE} {pos:Pos}
def jW:TS:=fun D a H=>D.nx a H
def pZ (t u:TS):TS:=fun D a H=>t {D with nx:=u D} a H
def gA:PSs X [] jW:=fun _ _ a H _ I h=>wpAny_execs_nil (ii a H ⟨I,h⟩)
theorem HzX{b} {D} {σ} {H} (h:let x:=X;∃t,PSs x b t∧t D σ H):∃t,PSs X b t∧t D σ H:=h
theorem Hz2{D σ H} (h:let d:=D;let v2:=u;let v1:=pZ t2 v2;pZ t1 v1 d σ H):(pZ t1 (pZ t2 u)) D σ H:=h
theorem Hz3{D σ H} (h:let d:=D;let v3:=u;let v2:=pZ t3 v3;let v1:=pZ t2 v2;pZ t1 v1 d σ H):(pZ t1 (pZ t2 (pZ t3 u))) D σ H:=h
theorem Hz4{D σ H} (h:let d:=D;let v4:=u;let v3:=pZ t4 v4;let v2:=pZ t3 v3;let v1:=pZ t2 v2;pZ t1 v1 d σ H):(pZ t1 (pZ t2 (pZ t3 (pZ t4 u)))) D σ H:=h
theorem Hz5{D σ H} (h:let d:=D;let v5:=u;let v4:=pZ t5 v5;let v3:=pZ t4 v4;let v2:=pZ t3 v3;let v1:=pZ t2 v2;pZ t1 v1 d σ H):(pZ t1 (pZ t2 (pZ t3 (pZ t4 (pZ t5 u))))) D σ H:=h
theorem Hz6{D σ H} (h:let d:=D;let v6:=u;let v5:=pZ t6 v6;let v4:=pZ t5 v5;let v3:=pZ t4 v4;let v2:=pZ t3 v3;let v1:=pZ t2 v2;pZ t1 v1 d σ H):(pZ t1 (pZ t2 (pZ t3 (pZ t4 (pZ t5 (pZ t6 u)))))) D σ H:=h
theorem Hz7{D σ H} (h:let d:=D;let v7:=u;let v6:=pZ t7 v7;let v5:=pZ t6 v6;let v4:=pZ t5 v5;let v3:=pZ t4 v4;let v2:=pZ t3 v3;let v1:=pZ t2 v2;pZ t1 v1 d σ H):(pZ t1 (pZ t2 (pZ t3 (pZ t4 (pZ t5 (pZ t6 (pZ t7 u))))))) D σ H:=h
theorem Hz8{D σ H} (h:let d:=D;let v8:=u;let v7:=pZ t8 v8;let v6:=pZ t7 v7;let v5:=pZ t6 v6;let v4:=pZ t5 v5;let v3:=pZ t4 v4;let v2:=pZ t3 v3;let v1:=pZ t2 v2;pZ t1 v1 d σ H):(pZ t1 (pZ t2 (pZ t3 (pZ t4 (pZ t5 (pZ t6 (pZ t7 (pZ t8 u)))))))) D σ H:=h
theorem Hz9{D σ H} (h:let d:=D;let v9:=u;let v8:=pZ t9 v9;let v7:=pZ t8 v8;let v6:=pZ t7 v7;let v5:=pZ t6 v6;let v4:=pZ t5 v5;let v3:=pZ t4 v4;let v2:=pZ t3 v3;let v1:=pZ t2 v2;pZ t1 v1 d σ H):(pZ t1 (pZ t2 (pZ t3 (pZ t4 (pZ t5 (pZ t6 (pZ t7 (pZ t8 (pZ t9 u))))))))) D σ H:=h
theorem Hz10{D σ H} (h:let d:=D;let v10:=u;let v9:=pZ t10 v10;let v8:=pZ t9 v9;let v7:=pZ t8 v8;let v6:=pZ t7 v7;let v5:=pZ t6 v6;let v4:=pZ t5 v5;let v3:=pZ t4 v4;let v2:=pZ t3 v3;let v1:=pZ t2 v2;pZ t1 v1 d σ H):(pZ t1 (pZ t2 (pZ t3 (pZ t4 (pZ t5 (pZ t6 (pZ t7 (pZ t8 (pZ t9 (pZ t10 u)))))))))) D σ H:=h
theorem Hz11{D σ H} (h:let d:=D;let v11:=u;let v10:=pZ t11 v11;let v9:=pZ t10 v10;let v8:=pZ t9 v9;let v7:=pZ t8 v8;let v6:=pZ t7 v7;let v5:=pZ t6 v6;let v4:=pZ t5 v5;let v3:=pZ t4 v4;let v2:=pZ t3 v3;let v1:=pZ t2 v2;pZ t1 v1 d σ H):(pZ t1 (pZ t2 (pZ t3 (pZ t4 (pZ t5 (pZ t6 (pZ t7 (pZ t8 (pZ t9 (pZ t10 (pZ t11 u))))))))))) D σ H:=h
def fW (g:PS X st t) (e:PSs X rest u):PSs X (st::rest) (pZ t u):=by
 intro b s c H D I h;refine wpAny_execs_cons (thn (g b s c H {D with nx:=u D} I h) fun f d q=>?_)
 cases f with
 |next=>refine eah q fun a j i q=>?_;exact e b d a j D i q
 |ret v=>exact q
 |brk=>exact q
 |cont=>exact q
def f9 (c:PS X st t):PSs X [st] t:=by
 intro b s a H D I h;refine wpAny_execs_cons (thn (c b s a H D I h) fun f d q=>?_)
 cases f with
 |next=>exact wpAny_execs_nil q
 |ret v=>exact q
 |brk=>exact q
 |cont=>exact q
def Inv.quiet {a:St} {s:Zy} (I:Inv X pz a H s):interactive X.env=false:=by simp[interactive,I.ok.kind]
def Fh (b:TE):TS:=fun D a H=>b a H fun _ c=>D.nx a c
def gK (f:PE X e te) (d:autoParam (ND e none pos.line X.env=pure false) auR._auto_1):PS X (.Expr e pos) (Fh te):=by intro c s a H D I h;exact wpAny_Expr_any (thn (f c s a H _ I h) fun v j ⟨x,i,g,k,b⟩=>(ii a i ⟨g,b⟩)) I.quiet d
def Eh (b:TE):TS:=fun D a H=>b a H D.rt
def gC (f:PE X e te):PS X (.Return (some e) pos) (Eh te):=by intro d s a H D I h;exact wpAny_Return_some (thn (f d s a H _ I h) fun v j ⟨x,i,g,b,c⟩=>(iaa x a i ⟨g,b,c⟩))
def JZ:TS:=fun D _ H=>D.rt .non H
def AZ:PS X (.Return none pos) JZ:=fun _ _ a H _ I h=>wpAny_Return_none (iaa .non a H ⟨I,rfl,h⟩)
def qD (c:TT) (t u:TS):TS:=fun D a H=>c a H fun b d=>if b=true then t D a d else u D a d
def gM(l:PT X c tc) (n:PSs X a t) (m:PSs X b u):PS X (.If c a b pos) (qD tc t u):=by
 intro f s e H D I h;refine wpAny_If (thn (l f s e H _ I h) ?_);refine fun d g=>fad fun k j i=>?_
 cases d with
 |true=>exact n f g e k D j i
 |false=>exact m f g e k D j i
def Ei:TS:=fun _ _ _=>False
def lA:PS X st Ei:=fun _ _ _ _ _ _ h=>h.elim
def A1:PSs X sts Ei:=fun _ _ _ _ _ _ h=>h.elim
end
abbrev TG:=V->St->Hp->(St->Hp->Prop)->Prop
abbrev TGs:=List V->St->Hp->(St->Hp->Prop)->Prop
def PG (X:Cx) (a:Zr) (t:TG):Prop:=
 ∀d s (c:St) H v u Q,Inv X d c H s->i7 v u->t v c H Q->
  L8 (model X.prog X.w) X.A (assign a X.env u) (fun _ f=>∃b e,Inv X d b e f/\Q b e) X.xe s
def PGs (X:Cx) (g:List Zr) (t:TGs):Prop:=
 ∀e s (b:St) H c d Q,Inv X e b H s->ja c d->t c b H Q->
  L8 (model X.prog X.w) X.A (assignInOrder ((assignEach g X.env).map (·.2)) d) (fun _ h=>∃a f,Inv X e a f h/\Q a f) X.xe s
abbrev J0:=V->V->V->Hp->(Hp->Prop)->Prop
def LD (X:Cx) (t:J0):Prop:=
 ∀b s (a:St) H o i v c d u Q,Inv X b a H s->i7 o c->i7 i d->i7 v u->t o i v H Q->
  L8 (model X.prog X.w) X.A (setItem c d u) (fun _ f=>∃e,Inv X b a e f/\Q e) X.xe s
section
variable {X:Cx} {pos:Pos}
def gU (i:Nat):TG:=fun v a H Q=>Q (a.set i (some v)) H
def xW(d:X.N.Nodup) (b:X.N[i]?=some x) (a:Loc X.env.scope x) (c:autoParam (X.fn x=true\/X.env.scope.names.lookup x=some .local) auL._auto_1):PG X (.Name x pos) (gU i):=by intro j s f H v u Q I r h;exact NP (oq I d b a r (fun g e=>(ii _ H ⟨e,h⟩)) c)
def JJ:TGs:=fun b a H Q=>b=[]/\Q a H
def xX (t:TG) (u:TGs):TGs:=fun c b H Q=>∃v r,c=v::r/\t v b H fun a d=>u r a d Q
def xY:PGs X [] JJ:=by intro d s a H b c Q I r h;obtain⟨e,h⟩:=h;subst e;cases r;exact assignInOrder_nil (ii a H ⟨I,h⟩)
def ou(k:PG X e t) (j:PGs X es u)
  (i:autoParam ((assignEach (e::es) X.env).map (·.2)=assign e X.env::(assignEach es X.env).map (·.2)) auR._auto_1):PGs X (e::es) (xX t u):=by
 intro b s c H o q Q I r h;obtain⟨v,p,l,h⟩:=h;subst l
 cases r with
 |cons r f=>rw[i];refine assignInOrder_cons (thn (k b s c H _ _ _ I r h) ?_);refine fun _ d=>faf fun a n m g=>?_;exact j b d a n _ _ Q m f g
def JK (K:Zp) (n:Nat) (t:TGs):TG:=fun v c H Q=>∃a b,v= .ref a/\SqT K H a b/\b.length=n/\t b c H Q
def A3(y:X.calm=true) (h:PGs X es t)
  (w:autoParam ((assignEach es X.env).length=n) auR._auto_1) (d:autoParam ((assignEach es X.env).findIdx? (·.1)=none) auR._auto_1):PG X (.Tuple es k pos) (JK X.K n t):=by intro j s g H v u Q I r c;obtain⟨a,i,z,q,x,c⟩:=c;subst z;cases r;refine eak (I.tuple q) fun l f p B=>?_;refine assign_Tuple_tuple (I.ok.hd y) p (by simp[w,<-x,f.length]) d fun C m=>?_;have A:=I.kept (t':=s.toks) fun b o e=>m b o (cE (fJ e)) e;exact h j _ g H i _ Q A (by simpa using f) c
def gSub (b c:TE) (t:J0):TG:=fun v a H Q=>b a H fun o f=>c a f fun i e=>t o i v e fun d=>Q a d
def wo {o i:Zr} {to ti:TE} {t:J0} (ho:PE X o to) (hi:PE X i ti) (hs:LD X t)
  (ha:∀v,assign (.Subscript o i pos) X.env v=(do
   let ov<-holding [v] (eval o X.env)
   let iv<-holding [v,ov] (eval i X.env)
   standAt pos
   holding [v,ov,iv] (setItem ov iv v)
   release [v,ov,iv] []):=by intro _;rfl):PG X (.Subscript o i pos) (gSub to ti t):=by intro pz s σ H v u Q I r h;rw[ha];refine C8 (MQ (thn (ho pz s σ H _ I h) ?_));refine fun ov s1=>fac fun x H1 I1 r1 q1=>?_;refine C8 (MQ (thn (hi pz s1 σ H1 _ I1 q1) ?_));refine fun iv s2=>fac fun y H2 I2 r2 q2=>?_;refine C8 (wpAny_standAt (C8 (MQ (thn (hs pz s2 σ H2 x y v ov iv u _ I2 r1 r2 r q2) ?_))));refine fun _ s3=>fad fun H3 I3 q3=>?_;exact wpAny_release (ii σ H3 ⟨I3,q3⟩)
def Dp (b:TE) (g:TG):TS:=fun D a H=>b a H fun x c=>g x a c D.nx
def wq(l:PE X e te) (k:PG X tg g) (j:autoParam (swapsWithSole [tg] e pos.line X.env=pure false) auR._auto_1) (i:autoParam (swappedStores [tg] e X.env=pure none) auR._auto_1)
  (m:autoParam ((assignEach [tg] X.env).map (·.2)=[assign tg X.env]) auR._auto_1):PS X (.Assign [tg] e pos) (Dp te g):=by intro b s a H D I h;refine wpAny_Assign_stores (thn (l b s a H _ I h) ?_) j i;refine fun v c=>fac fun x o n d f=>?_;rw[m];exact thn (k b c a o x v _ n d f) fun _ p q=>q
def Hw(m:X.N.Nodup) (j:X.N[i]?=some x) (f:Loc X.env.scope x) (l:PE X e te) (g:autoParam (ND e (some (.Name x pos')) pos.line X.env=pure false) auR._auto_1) (k:autoParam (X.fn x=true\/X.env.scope.names.lookup x=some .local) auL._auto_1):
  PS X (.Assign [.Name x pos'] e pos) (Dp te (gU i)):=by intro d s a H D I h;refine wpAny_Assign_Name (thn (l d s a H _ I h) ?_) g;refine fun v r=>fac fun y p o b c=>?_;exact oq o m j f b (fun q n=>(ii _ p ⟨n,c⟩)) k
end
section
variable {X:Cx} {pos:Pos}
def Hx (c:TT) (h:TS):TS:=fun D a H=>∃W:Nat->St->Hp->Prop,(∃m,W m a H)/\∀m a H,W m a H->
 c a H fun b f=>if b=true then ∃N,(∀d g,N d g->∃e,e<m/\W e d g)/\h {D with nx:=N,ct:=N,bk:=D.nx} a f else D.nx a f
def ow(t:PassesOwn (model X.prog X.w) X.A X.env X.xe) (L:PT X c tc) (M:PSs X body tb):PS X (.While c body [] pos) (Hx tc tb):=by
 intro m s A H D I h;refine eaa h fun W B g=>?_;obtain⟨K,E⟩:=B;refine wpAny_While (codeAny_whileLoop (fun n J=>∃e z,Inv X m e z J/\W n e z) ?_ K (ii A H ⟨I,E⟩));refine fun n G=>faf fun d y O C=>?_;refine MZ t (thn (L m G d y _ O (g n d y C)) ?_);refine fun b F=>fad fun x w k=>?_
 cases b with
 |true=>
  refine eaa k fun N u k=>?_;rw[ig rfl];refine MZ t (thn (M m F d x _ w k) fun f P j=>?_)
  cases f with
  |next=>refine eah j fun a i r o=>?_;refine eaa (u a i o) fun p q l=>?_;exact⟨p,q,a,i,r,l⟩
  |cont=>refine eah j fun a i r o=>?_;refine eaa (u a i o) fun p q l=>?_;exact⟨p,q,a,i,r,l⟩
  |brk=>exact j
  |ret v=>exact j
 |false=>rw[gZ fc];exact wpAny_execs_nil (ii d x ⟨w,k⟩)
end
structure It where
 go:Nat->Hp->Prop
 yld:Nat->Hp->V->Hp->Prop
 stop:Nat->Hp->Prop
def xR (X:Cx) (a:Za) (H:Hp) (b:Zx):Prop:=
 H b=none/\b≠X.env.locals/\b∉X.fs/\(b∈X.ex\/X.s₀.heap.objs.size<=b)/\(∀x c,X.env.cells.lookup x=some c->c≠b)/\∀p∈X.pn++a,p.1≠b
def Inv.fpOk {d:St} {s:Zy} {b:Zx} (I:Inv X pz d H s) (a:s.heap.objs.size<=b) (g:H' b=none):xR X pz H' b:=by
 refine⟨g,cH (cC I.lt a),I.nofs a,.inr (cF I.sz a),fun x c e z=>?_,fun p f z=>?_⟩;·obtain⟨v,q⟩:=I.cell x c e;exact absurd (cC q.lt (by rw[z];exact a)) (cD _)
 ·exact absurd (cC (fJ (I.pin p f).1) (by rw[z];exact a)) (cD _)
structure Ej (P:Zu) (w:Zv) (K:Zp) (tg:Zr) (J:It) (fp:List Zx) (it:Zx) (tn:Nat->Zt->Prop):Prop where
 mem:it∈fp
 obj:∀i h,tn i h->∀b∈fp,∃o,h.get? b=some o/\∀v,o.data≠ .cell v
 keep:∀i h h',tn i h->(∀b∈fp,∀o,h.get? b=some o->h'.get? b=some o)->tn i h'
 item:∀(X:Cx),X.prog=P->X.w=w->X.K=K->X.calm=true->∀(i:Nat) (pz:Za) (s:Zy) (σ:St) (H:Hp) (E:Zb),Inv X pz σ H s->(∀b∈fp,xR X pz H b)->tn i s.heap->J.go i H->
  L8 (model P w) X.A (pyNext (.ref it)) (fun r s1=>∃u,r=some u/\
   L8 (model P w) X.A (letOwnedTupleGo tg (.ref it) u) (fun _ s2=>∃x H',Inv X pz σ H' s2/\i7 x u/\J.yld i H x H'/\tn (i+ 1) s2.heap/\∀b∈fp,H' b=none) E s1) E s
 done:∀(X:Cx),X.prog=P->X.w=w->X.K=K->X.calm=true->∀(i:Nat) (pz:Za) (s:Zy) (σ:St) (H:Hp) (E:Zb),Inv X pz σ H s->(∀b∈fp,xR X pz H b)->tn i s.heap->J.stop i H->
  L8 (model P w) X.A (pyNext (.ref it)) (fun r s1=>r=none/\Inv X pz σ H s1) E s
 self:∀(A:Zw) (i:Nat) (s:Zy) (Q:Zb) (E:Zb),tn i s.heap->Q (.ref it) s->L8 (model P w) A (pyIter (.ref it)) Q E s
abbrev TI:=St->Hp->(It->Hp->Prop)->Prop
def PIE (X:Cx) (f:Za) (i:St) (j:Zr) (R:It->Hp->Prop) (a:Zz) (e:Zy):Prop:=
 ∃g h d J c,a= .ref g/\Inv X f i c e/\Ej X.prog X.w X.K j J h g d/\d 0 e.heap/\(∀b∈h,xR X f c b)/\R J c
def PI (X:Cx) (e a:Zr) (d:TI):Prop:=
 ∀c s (b:St) H R,Inv X c b H s->d b H R->
  L8 (model X.prog X.w) X.A (eval a X.env) (fun v f=>L8 (model X.prog X.w) X.A (pyIter v) (PIE X c b e R) X.xe f) X.xe s
def A4{n:String} {Q:Unit -> Zy -> Prop} (b : s.heap.get? it = some o) (e : o.cls = .type n) (d : o.data = .fields vs)
  (c : ["enumerate", "zip", "dict_itemiterator", "dict_reverseitemiterator", "odict_iterator", "itertools.zip_longest", "itertools.pairwise"].contains n = false) (a : Q () s) : L8 M A (letOwnedTupleGo tg (.ref it) u) Q E s := by
 unfold letOwnedTupleGo;cases tg <;> first
  | exact Ma a
  | (cases u <;> first
    | exact Ma a
    | (refine C8 (wpAny_load b ?_);rw [e, d];show L8 M A (if (["enumerate", "zip", "dict_itemiterator", "dict_reverseitemiterator", "odict_iterator", "itertools.zip_longest", "itertools.pairwise"].contains n && vs[0]? == some (rawInt _)) = true then _ else _) Q E s;rw [gZ (by intro h; rw [c, Bool.false_and] at h; cases h)];exact Ma a))
def Itl (K:Zp) (a:Zx):It:=
 ⟨fun i H=>∃b x,SqL K H a b/\b[i]?=some x,fun i H x c=>c=H/\∀b,SqL K H a b->b[i]?=some x,fun i H=>∃b,SqL K H a b/\b.length<=i⟩
def Itt (K:Zp) (a:Zx):It:=
 ⟨fun i H=>∃b x,SqT K H a b/\b[i]?=some x,fun i H x c=>c=H/\∀b,SqT K H a b->b[i]?=some x,fun i H=>∃b,SqT K H a b/\b.length<=i⟩
def Itr (a:Int) (n:Nat):It:=⟨fun i _=>i<n,fun i H x b=>b=H/\x= .int (a+i),fun i _=>n<=i⟩
def A5{K:Zp} (a it:Zx):Ej P w K tg (Itl K a) [it] it (fun i h=>h.IsListIter it a i) where
 mem:=by simp
 obj:=fun i h f b g=>by
  have e:b=it:=by simpa using g
  subst e;refine eak f fun o e c d=>?_;exact⟨o,e,fun v z=>by rw[d]at z;cases z⟩
 keep:=fun i h M f k=>f.at fun o e=>k it O4 o e
 item:=by intro X A t B L i S s N H E I m f y;subst A t B;refine eah y fun O x l r=>?_;refine eak (I.list l) fun q n p T=>?_;refine eaa (n.get r) fun u V R=>?_;refine eam (m it O4) fun J G W F D C=>?_;refine wpAny_pyNext_list_item f p.isList (by simpa using V) fun M j Q=>?_;have Z:=I.turned (t':=s.toks) (fun b o g e=>(Q.2 b g).trans e) J G F D C;refine eak (id j) fun o e c d=>?_;exact⟨u,rfl,A4 e c d O3 (ii x H (⟨Z,R,⟨rfl,fun ys U=>by rw[I.list_inj U l];exact r⟩,j,fun b g=>(m b g).1⟩))⟩
 done:=by intro X A t B L i S s N H E I m f y;subst A t B;refine eaa y fun O l r=>?_;refine eak (I.list l) fun q n p T=>?_;refine eam (m it O4) fun J G W F D C=>?_;have hl:=n.length;exact wpAny_pyNext_list_end (I.ok.hd L) f p.isList (by simp;lia) fun M Y=>⟨rfl,I.turned (fun b o g e=>Y b o g e) J G F D C⟩
 self:=fun _ _ _ _ _ f h=>wpAny_pyIter_listiter f h
def Aa{K:Zp} (a it:Zx):Ej P w K tg (Itt K a) [it] it (fun i h=>h.IsTupleIter it a i) where
 mem:=by simp
 obj:=fun i h f b g=>by
  have e:b=it:=by simpa using g
  subst e;refine eak f fun o e c d=>?_;exact⟨o,e,fun v z=>by rw[d]at z;cases z⟩
 keep:=fun i h M f k=>f.at fun o e=>k it O4 o e
 item:=by intro X A t B L i S s N H E I m f y;subst A t B;refine eah y fun O x l r=>?_;refine eak (I.tuple l) fun q n p T=>?_;refine eaa (n.get r) fun u V R=>?_;refine eam (m it O4) fun J G W F D C=>?_;refine wpAny_pyNext_tuple_item f (p) (by simpa using V) fun M j Q=>?_;have Z:=I.turned (t':=s.toks) (fun b o g e=>(Q.2 b g).trans e) J G F D C;refine eak (id j) fun o e c d=>?_;exact⟨u,rfl,A4 e c d O3 (ii x H (⟨Z,R,⟨rfl,fun ys U=>by rw[I.tuple_inj U l];exact r⟩,j,fun b g=>(m b g).1⟩))⟩
 done:=by intro X A t B L i S s N H E I m f y;subst A t B;refine eaa y fun O l r=>?_;refine eak (I.tuple l) fun q n p T=>?_;refine eam (m it O4) fun J G W F D C=>?_;have hl:=n.length;exact wpAny_pyNext_tuple_end (I.ok.hd L) f (p) (by simp;lia) fun M Y=>⟨rfl,I.turned (fun b o g e=>Y b o g e) J G F D C⟩
 self:=fun _ _ _ _ _ f h=>wpAny_pyIter_tupleiter f h
def Ab{K:Zp} (it:Zx) (f:Int) (n:Nat):Ej P w K tg (Itr f n) [it] it (fun i h=>IsRangeIter h it (f+(i:Nat)*1) ((n:Int)-(i:Nat)) 1) where
 mem:=by simp
 obj:=fun i h a b c=>by
  have e:b=it:=by simpa using c
  subst e;exact⟨_,a,fun v z=>by have F:=z;cases F⟩
 keep:=fun i h r a k=>k it O4 _ a
 item:=by intro X p j q m i D s C H E I g a l;subst p j q;refine eam (g it O4) fun B A M y x u=>?_;have W:=Walks.range (prog:=X.prog) (w:=X.w) (I.ok.hd m) it f 1 n;refine W.item i s _ _ l a fun v r G L d J=>?_;obtain⟨t,rfl⟩:=L;have O:Inv X D C H {s with heap:=r,toks:=G}:=I.turned (fun b o c e=>J b o (by simpa using c) e) B A y x u;refine⟨_,rfl,A4 d rfl rfl O3 (ii (.int (f+i)) H (⟨O,⟨t,?_⟩,⟨rfl,rfl⟩,d,fun b c=>(g b c).1⟩))⟩;rw[Int.mul_one]
 done:=by intro X p j q m i D s C H E I g a l;subst p j q;refine eam (g it O4) fun B A M y x u=>?_;exact wpAny_pyNext_range_end (I.ok.hd m) a (by have:n<=i:=l;lia) fun r N=>⟨rfl,I.turned (fun b o c e=>N b o c e) B A y x u⟩
 self:=fun _ _ _ _ _ a h=>wpAny_pyIter_rangeiter a h
section
variable {X:Cx} {tg:Zr}
def Fi (K:Zp) (e:TE):TI:=fun c H R=>e c H fun x b=>∃a,x= .ref a/\(∃d,SqL K b a d)/\R (Itl K a) b
def iTup (K:Zp) (e:TE):TI:=fun c H R=>e c H fun x b=>∃a,x= .ref a/\(∃d,SqT K b a d)/\R (Itt K a) b
def ke(r:PE X l tl):PI X tg l (Fi X.K tl):=by
 intro k s f H R I h;refine thn (r k s f H _ I h) ?_;refine fun v d=>fac fun x u c i j=>?_;refine eak j fun a e g q=>?_;obtain⟨w,n⟩:=g;subst e;cases i;refine eak (c.list n) fun m y p z=>?_;refine NQ p.isList ?_;refine iab d.heap.objs.size ([d.heap.objs.size]) _ _ u (⟨rfl,c.kept fun b o e=>fM _ e,A5 a _,⟨_,fK _ rfl,rfl,rfl⟩,fun b t=>?_,q⟩);have e:b=d.heap.objs.size:=by simpa using t
 subst e;exact c.fpOk (cJ _) (c.hok.fresh (cJ _))
def qd(r:PE X l tl):PI X tg l (iTup X.K tl):=by
 intro k s f H R I h;refine thn (r k s f H _ I h) ?_;refine fun v d=>fac fun x u c i j=>?_;refine eak j fun a e g q=>?_;obtain⟨w,n⟩:=g;subst e;cases i;refine eak (c.tuple n) fun m y p z=>?_;refine wpAny_pyIter_tuple (p) ?_;refine iab d.heap.objs.size ([d.heap.objs.size]) _ _ u (⟨rfl,c.kept fun b o e=>fM _ e,Aa a _,⟨_,fK _ rfl,rfl,rfl⟩,fun b t=>?_,q⟩);have e:b=d.heap.objs.size:=by simpa using t
 subst e;exact c.fpOk (cJ _) (c.hok.fresh (cJ _))
def Dv{c:St} {E:Zb} {a:Int} (I:Inv X pz c H s) (j: -(2^62)<=a) (i:a<2^62) (h: -(2^62)<=hi) (g:hi<2^62)
  (q:R (Itr a (hi-a).toNat) H):L8 (model X.prog X.w) X.A (pyIter (.ref s.heap.objs.size)) (PIE X pz c tg R) E {s with heap:=s.heap.push {cls:= .type "range",data:= .fields #[.int a t,.int hi u,.int 1 v]},toks:=tk}:=by
 refine wpAny_pyIter_range (IsRange.new ..) (small_one j i h g) ?_;have d:Inv X pz c H {s with heap:=s.heap.push {cls:= .type "range",data:= .fields #[.int a t,.int hi u,.int 1 v]},toks:=tk}:=I.kept fun b o e=>fM _ e;refine iab ((s.heap.push {cls:= .type "range",data:= .fields #[.int a t,.int hi u,.int 1 v]}).objs.size) ([(s.heap.push {cls:= .type "range",data:= .fields #[.int a t,.int hi u,.int 1 v]}).objs.size]) _ _ H ⟨rfl,d.kept fun b o e=>fM _ e,Ab _ a (hi-a).toNat,?_,fun b f=>?_,q⟩
 ·have l:a+((0:Nat):Int)*1=a:=by simp
  have k:(((hi-a).toNat:Nat):Int)-((0:Nat):Int)=Builtin.Range.rangeSize a hi 1:=by rw[rangeSize_one];split<;>lia
  rw[l,k];exact fK _ rfl
 ·have e:b=(s.heap.push {cls:= .type "range",data:= .fields #[.int a t,.int hi u,.int 1 v]}).objs.size:=by simpa using f
  subst e;exact d.fpOk (cJ _) (d.hok.fresh (cJ _))
def J4 (c:TA):TI:=fun a H R=>c a H fun b d=>∃j,b=[.int j]/\-(2^62)<=j/\j<2^62/\R (Itr 0 j.toNat) d
def ko(m:Gl X "range") (l:X.mg "range"=none) (n:PA X [a] ta) (k:autoParam (Mj [a] X.env=[(false,eval a X.env)]) auR._auto_1):PI X tg (.Call (.Name "range" p) [a] [] pos) (J4 ta):=by
 intro i s c H R I h;refine Call_ (qb I m l boot_range (fS (thn (n pos i s c H _ I h) ?_) k rfl));refine fun v w=>fac fun u x o f b=>?_;obtain⟨j,e,b,g,q⟩:=b;subst e
 cases f with
 |cons r d=>cases d;obtain⟨t,rfl⟩:=r;exact call_range_1 (Dv o O2 O2 b g (by simpa using q))
def J5 (f:TI) (g:TG) (h:TS):TS:=fun D a H=>f a H fun J k=>∃W:Nat->Nat->St->Hp->Prop,(∃m,W 0 m a k)/\∀i m a H,W i m a H->
 (J.stop i H/\D.nx a H)\/(J.go i H/\∃N,(∀b c,N b c->∃e,e<m/\W (i+ 1) e b c)/\∀x c,J.yld i H x c->g x a c fun d j=>h {D with nx:=N,ct:=N,bk:=D.nx} d j)
def uu (a:List Zx) (h:Zt):Za:=a.filterMap fun b=>(h.get? b).map fun o=>(b,o)
def lT(a:b∈fp) (e:h.get? b=some o):(b,o)∈uu fp h:=List.mem_filterMap.mpr ⟨b,a,by rw[e];rfl⟩
def A6(a:p∈uu fp h):p.1∈fp/\h.get? p.1=some p.2:=by
 refine eaa (List.mem_filterMap.mp a) fun b c e=>?_
 cases q:h.get? b with
 |none=>rw[q]at e;cases e
 |some o=>rw[q]at e;have d:=du.inj e;subst d;exact⟨c,q⟩
def Inv.pinned {a:St} {s:Zy} (I:Inv X pz a H s) (j:∀b∈f,xR X pz H b) (i:∀b∈f,∃o,s.heap.get? b=some o/\∀v,o.data≠ .cell v):Inv X (pz++uu f s.heap) a H s:=
 I.pins_of fun p h=>(aq.mp h).elim (fun z=>I.pin p (aA _ z)) fun z=>by obtain⟨c,e⟩:=A6 z;refine ean (j p.1 c) fun m l k _=>?_;refine eaa (i p.1 c) fun o g d=>?_;rw[e]at g;cases g;exact⟨e,m,l,k,d⟩
def Inv.unpinned {b:Za} {a:St} {s:Zy} (I:Inv X (pz++b) a H s):Inv X pz a H s:=I.pins_of fun p c=>I.pin p (aA _ (au _ c))
def jX(K:PassesOwn (model X.prog X.w) X.A X.env X.xe) (hc:X.calm=true) (hi:PI X tg iter wi) (hg:PG X tg g) (l:PSs X body tb)
  (hs:autoParam (∀x,Nh iter X.env x=pure x) auI._auto_1):PS X (.For tg iter body [] pos) (J5 wi g tb):=by
 intro A s V H D I h;refine wpAny_For (thn (hi A s V H _ I h) fun v s1 h1=>thn h1 fun itv s2 h2=>?_) hs;refine eao h2 fun it M Y J H2=>fag fun e I2 T Q f2=>faa fun W=>f8 fun y0 B=>?_;obtain⟨m0,w0⟩:=y0;subst e;have k:∀{w:Hp},(∀b∈M,w b=none)->∀b∈M,xR X A w b:=fun hn b l=>⟨hn b l,(f2 b l).2⟩;refine codeAny_forLoop_any (fun n s'=>∃i j w,Inv X A j w s'/\Y i s'.heap/\(∀b∈M,w b=none)/\W i n j w) ?_ m0 (iaa 0 V H2 ⟨I2,Q,fun b l=>(f2 b l).1,w0⟩);refine fun n s3=>fah fun i c O I3 F L w3=>?_;rcases B i n c O w3 with⟨C,qn⟩|⟨go,N,hN,E⟩;·refine MZ K (thn (T.done X rfl rfl rfl hc i A s3 c O X.xe I3 (k L) F C) fun r s4 ⟨hr,I4⟩=>?_);subst hr;exact wpAny_execs_nil (ii c O ⟨I4,qn⟩)
 ·refine MZ K (thn (T.item X rfl rfl rfl hc i A s3 c O X.xe I3 (k L) F go) ?_);refine fun r s4=>fad fun u z0 h4=>?_;subst z0;refine MZ K (thn h4 ?_);refine fun _ Z=>fai fun x H5 I5 r5 y5 z S=>?_;have U:=I5.pinned (k S) (T.obj _ _ z);refine MZ K (thn (hg _ Z c H5 x u _ U r5 (E x H5 y5)) ?_);refine fun _ s6=>faf fun P H6 I6 q6=>?_;refine MZ K (thn (l _ s6 P H6 _ I6 q6) fun f R y=>?_);have p:∀{a:St} {t:Hp},Inv X (A++uu M Z.heap) a t R->N a t->∃m,m<n/\∃i j w,Inv X A j w R/\Y i R.heap/\(∀b∈M,w b=none)/\W i m j w:=fun{a t} q G=>by refine eaa (hN a t G) fun m' hm w7=>?_;refine⟨m',hm,i+ 1,a,t,q.unpinned,T.keep _ _ _ z fun b l o e=>(q.pin (b,o) (aA _ (aA _ (lT l e)))).1,fun b l=>?_,w7⟩;refine eaa (T.obj _ _ z b l) fun o e d=>?_;exact(q.pin (b,o) (aA _ (aA _ (lT l e)))).2.1
  cases f with
  |next=>refine eah y fun a t q G=>?_;exact p q G
  |cont=>refine eah y fun a t q G=>?_;exact p q G
  |brk=>refine eah y fun a t q y=>?_;exact ii a t ⟨q.unpinned,y⟩
  |ret v=>refine eai y fun x7 a t q r7 y=>?_;exact iaa x7 a t ⟨q.unpinned,r7,y⟩
end
def lQ{K:Zp} {g:TG} {k:TS} {D:ny} (c:Nat->St->Hp->Prop) (v:c 0 b H) (s:∀i b H,i<=xs.length->c i b H->SqL K H a xs)
  (r:∀i x b H,xs[i]?=some x->c i b H->g x b H fun d j=>k {D with nx:=c (i+ 1),ct:=c (i+ 1),bk:=D.nx} d j) (u:∀b H,c xs.length b H->D.nx b H):
  ∃W:Nat->Nat->St->Hp->Prop,(∃m,W 0 m b H)/\∀i m b H,W i m b H->
   ((Itl K a).stop i H/\D.nx b H)\/((Itl K a).go i H/\∃N,(∀f h,N f h->∃l,l<m/\W (i+ 1) l f h)/\∀x h,(Itl K a).yld i H x h->g x b h fun d j=>k {D with nx:=N,ct:=N,bk:=D.nx} d j):=by
 refine⟨fun i m b H=>m=xs.length-i/\i<=xs.length/\c i b H,⟨xs.length,O4,cK _,v⟩,?_⟩;refine fun i m b H=>fae fun n t p=>?_;subst n;have q:=s i b H t p;by_cases hlt:i<xs.length;·refine .inr ⟨(ii xs (xs[i]) ⟨q,by simp[hlt]⟩),c (i+ 1),fun f h o=>⟨xs.length-(i+ 1),O2,rfl,hlt,o⟩,fun x h y=>?_⟩;obtain⟨e,y⟩:=y;subst e;exact r i x b _ (y xs q) p
 ·have e:i=xs.length:=O2
  subst e;exact .inl ⟨⟨xs,q,cJ _⟩,u b H p⟩
def xZ{K:Zp} {g:TG} {k:TS} {D:ny} (c:Nat->St->Hp->Prop) (v:c 0 b H) (s:∀i b H,i<=xs.length->c i b H->SqT K H a xs)
  (r:∀i x b H,xs[i]?=some x->c i b H->g x b H fun d j=>k {D with nx:=c (i+ 1),ct:=c (i+ 1),bk:=D.nx} d j) (u:∀b H,c xs.length b H->D.nx b H):
  ∃W:Nat->Nat->St->Hp->Prop,(∃m,W 0 m b H)/\∀i m b H,W i m b H->
   ((Itt K a).stop i H/\D.nx b H)\/((Itt K a).go i H/\∃N,(∀f h,N f h->∃l,l<m/\W (i+ 1) l f h)/\∀x h,(Itt K a).yld i H x h->g x b h fun d j=>k {D with nx:=N,ct:=N,bk:=D.nx} d j):=by
 refine⟨fun i m b H=>m=xs.length-i/\i<=xs.length/\c i b H,⟨xs.length,O4,cK _,v⟩,?_⟩;refine fun i m b H=>fae fun n t p=>?_;subst n;have q:=s i b H t p;by_cases hlt:i<xs.length;·refine .inr ⟨(ii xs (xs[i]) ⟨q,by simp[hlt]⟩),c (i+ 1),fun f h o=>⟨xs.length-(i+ 1),O2,rfl,hlt,o⟩,fun x h y=>?_⟩;obtain⟨e,y⟩:=y;subst e;exact r i x b _ (y xs q) p
 ·have e:i=xs.length:=O2
  subst e;exact .inl ⟨⟨xs,q,cJ _⟩,u b H p⟩
def nL{k:Int} {g:TG} {o:TS} {D:ny} (f:Nat->St->Hp->Prop) (v:f 0 a H)
  (t:∀i a H,i<n->f i a H->g (.int (k+i)) a H fun b l=>o {D with nx:=f (i+ 1),ct:=f (i+ 1),bk:=D.nx} b l) (u:∀a H,f n a H->D.nx a H):
  ∃W:Nat->Nat->St->Hp->Prop,(∃m,W 0 m a H)/\∀i m a H,W i m a H->
   ((Itr k n).stop i H/\D.nx a H)\/((Itr k n).go i H/\∃N,(∀c h,N c h->∃q,q<m/\W (i+ 1) q c h)/\∀x h,(Itr k n).yld i H x h->g x a h fun b l=>o {D with nx:=N,ct:=N,bk:=D.nx} b l):=by
 refine⟨fun i m a H=>m=n-i/\i<=n/\f i a H,⟨n,O4,cK _,v⟩,?_⟩;refine fun i m a H=>fae fun r z p=>?_;subst r;by_cases d:i<n;·refine .inr ⟨d,f (i+ 1),fun c h s=>⟨n-(i+ 1),O2,rfl,d,s⟩,fun x h y=>?_⟩;obtain⟨e,y⟩:=y;subst e y;exact t i a _ d p
 ·have e:i=n:=O2
  subst e;exact .inl ⟨cJ _,u a H p⟩
abbrev R2:=V->V->Hp->VK->Prop
def OpR (X:Cx) (f:Zz->Zz->Sem Zz) (r:R2):Prop:=
 ∀b s (a:St) H x y v u Q,Inv X b a H s->i7 x v->i7 y u->r x y H Q->
  L8 (model X.prog X.w) X.A (f v u) (EP X b a Q) X.xe s
def UnR (X:Cx) (f:Zz->Sem Zz) (r:V->Hp->VK->Prop):Prop:=
 ∀b s (a:St) H x v Q,Inv X b a H s->i7 x v->r x H Q->
  L8 (model X.prog X.w) X.A (f v) (EP X b a Q) X.xe s
def oG (X:Cx) (f:Zz) (r:List V->Hp->VK->Prop):Prop:=
 ∀d s (a:St) H b c Q,Inv X d a H s->ja b c->r b H Q->
  L8 (model X.prog X.w) X.A (call f c) (EP X d a Q) X.xe s
def tOp (r:R2) (c b:TE):TE:=fun a H Q=>c a H fun x e=>b a e fun y d=>r x y d Q
def tUn (r:V->Hp->VK->Prop) (b:TE):TE:=fun a H Q=>b a H fun x c=>r x c Q
def rI (C:Int->Int->Prop) (g:Int->Int->V):R2:=fun x y H Q=>∃i j,x= .int i/\y= .int j/\C i j/\Q (g i j) H
def rI0 (g:Int->Int->V):R2:=fun x y H Q=>∃i j,x= .int i/\y= .int j/\Q (g i j) H
def rU (g:Int->V):V->Hp->VK->Prop:=fun x H Q=>∃i,x= .int i/\Q (g i) H
section
variable {X:Cx} {a b c:Zr} {ta tb tc:TE} {pos:Pos}
def J6(r:PE X a ta) (q:PE X b tb) {c:St} {R:V->V->Hp->Prop} (I:Inv X pz c H s)
  (h:ta c H fun x j=>tb c j fun y d=>R x y d) {f:Zz->Zz->Sem Zz}
  (p:∀v u i x y d,Inv X pz c d i->i7 x v->i7 y u->R x y d->L8 (model X.prog X.w) X.A (f v u) Q X.xe i):
  L8 (model X.prog X.w) X.A (eval a X.env) (fun v g=>L8 (model X.prog X.w) X.A (eval b X.env) (fun u e=>L8 (model X.prog X.w) X.A (f v u) Q X.xe e) X.xe g) X.xe s:=by refine thn (r pz s c H _ I h) ?_;refine fun v k=>fac fun x j w m o=>?_;refine thn (q pz k c j _ w o) ?_;refine fun u i=>fac fun y d t l n=>?_;exact p v u i x y d t m l n
def gP(i:OpR X (MF op) r) (k:PE X a ta) (j:PE X b tb):PE X (.BinOp a op b pos) (tOp r ta tb):=by intro g s c H Q I h;exact wpAny_BinOp (J6 k j I h fun v u d x y m l f e q=>i g d c m x y v u Q l f e q)
def Fj(g:UnR X (unaryOp op) r) (i:PE X a ta):PE X (.UnaryOp op a pos) (tUn r ta):=by intro c s b H Q I h;exact UnaryOp_ (thn (i c s b H _ I h) fun v d ⟨x,k,j,e,f⟩=>g c d b k x v Q j e f)
def opI{C:Int->Int->Prop} {g:Int->Int->Int}
  (a:∀i j t u s (Q:Zb) (E:Zb),C i j->Q (.int (g i j) s.toks) {s with toks:=s.toks+ 1}->L8 (model X.prog X.w) X.A (f (.int i t) (.int j u)) Q E s):
  OpR X f (rI C fun i j=> .int (g i j)):=by intro n s m H x y v u Q I k e h;refine eaj h fun i j c b l q=>?_;subst c;subst b;obtain⟨t,rfl⟩:=k;obtain⟨d,rfl⟩:=e;exact a i j t d s _ _ l (ii (.int (g i j)) H (⟨I.tok _,⟨_,rfl⟩,q⟩))
def LF{g:Int->Int->Int}
  (a:∀i j t u s (Q:Zb) (E:Zb),Q (.int (g i j) s.toks) {s with toks:=s.toks+ 1}->L8 (model X.prog X.w) X.A (f (.int i t) (.int j u)) Q E s):
  OpR X f (rI0 fun i j=> .int (g i j)):=by intro m s l H x y v u Q I k e h;refine eap h fun i j c b q=>?_;subst c;subst b;obtain⟨t,rfl⟩:=k;obtain⟨d,rfl⟩:=e;exact a i j t d s _ _ (ii (.int (g i j)) H (⟨I.tok _,⟨_,rfl⟩,q⟩))
def JL{g:Int->Int->Bool}
  (a:∀i j t u s (Q:Zb) (E:Zb),Q (.bool (g i j)) s->L8 (model X.prog X.w) X.A (f (.int i t) (.int j u)) Q E s):
  OpR X f (rI0 fun i j=> .bl (g i j)):=by intro m s l H x y v u Q I k e h;refine eap h fun i j c b q=>?_;subst c;subst b;obtain⟨t,rfl⟩:=k;obtain⟨d,rfl⟩:=e;exact a i j t d s _ _ (ii (.bl (g i j)) H ⟨I,rfl,q⟩)
def LG (i j:Int):Prop:=0<j/\j<1073741824
def LH (i j:Int):Prop:=0<=j/\j<=1000000/\i.natAbs<2^64
def JM (i j:Int):Prop:=(-(2^64)<i/\i<2^64)\/(-(2^64)<j/\j<2^64)
def JM.ok {i j:Int} (h:JM i j):IntMulOk i j:=by
 rcases h with⟨b,a⟩|⟨b,a⟩;·exact .of_left (intBits_le_64 b a)
 ·exact .of_right (intBits_le_64 b a)
def El:OpR X (MF .Add) (rI0 fun i j=> .int (i+j)):=LF fun _ _ _ _ _ _ _ q=>add_int q
def Hy:OpR X (MF .Sub) (rI0 fun i j=> .int (i-j)):=LF fun _ _ _ _ _ _ _ q=>sub_int q
def Hz:OpR X (MF .Mult) (rI JM fun i j=> .int (i*j)):=opI fun _ _ _ _ _ _ _ a q=>mul_int q a.ok
def Fn:OpR X (MF .FloorDiv) (rI LG fun i j=> .int (i/j)):=opI fun i j _ _ _ _ _ a q=>by have c:=a.1;have b:=a.2;exact floordiv_int O2 (by rw[Int.fdiv_eq_ediv_of_nonneg i O2];exact q) (.inl (PyProof.noPylong_small O2))
def HA:OpR X (MF .Mod) (rI (fun _ j=>0<j) fun i j=> .int (i%j)):=opI fun i j _ _ _ _ _ a q=>by have b:=a;exact mod_int' O2 (by rw[Int.fmod_eq_emod_of_nonneg i O2];exact q)
def HB:OpR X (MF .Pow) (rI LH fun i j=> .int (i^j.toNat)):=opI fun _ _ _ _ _ _ _ a q=>pow_int_small a.1 a.2.1 a.2.2 q
def unI{g:Int->Int}
  (a:∀i t s (Q:Zb) (E:Zb),Q (.int (g i) s.toks) {s with toks:=s.toks+ 1}->L8 (model X.prog X.w) X.A (f (.int i t)) Q E s):
  UnR X f (rU fun i=> .int (g i)):=by intro e s d H x v Q I c h;refine eaa h fun i b q=>?_;subst b;obtain⟨t,rfl⟩:=c;exact a i t s _ _ (ii (.int (g i)) H (⟨I.tok _,⟨_,rfl⟩,q⟩))
def A7:UnR X (unaryOp .USub) (rU fun i=> .int (-i)):=unI fun _ _ _ _ _ q=>neg_int q
end
def LI:V->V->Bool
 | .non,.non=>true| .non,.int _=>true| .int _,.non=>true| .non,.bl _=>true| .bl _,.non=>true| .non,.str _=>true| .str _,.non=>true
 | .int _,.int _=>true| .bl _,.bl _=>true| .str _,.str _=>true| .byt _,.byt _=>true
 | .int _,.str _=>true| .str _,.int _=>true| .bl _,.str _=>true| .str _,.bl _=>true
 |_,_=>false
def rEq:R2:=fun x y H Q=>LI x y=true/\Q (.bl (decide (x=y))) H
def rNe:R2:=fun x y H Q=>LI x y=true/\Q (.bl (!decide (x=y))) H
def A8{j:Int}:decide (V.int i=V.int j)=(i==j):=by rw[fe];simp
def Em{j:Bool}:decide (V.bl i=V.bl j)=(i==j):=by rw[fe];simp
def A9{j:Str}:decide (V.str i=V.str j)=(i==j):=by rw[fe];simp
def Ba{j:Array UInt8}:decide (V.byt i=V.byt j)=(i.toList==j.toList):=by rw[fe];cases i;cases j;simp
section
variable {X:Cx} {a b c:Zr} {ta tb tc:TE} {pos:Pos}
def iR{a:St} {Q:VK} (I:Inv X pz a H s) (q:Q (.bl k) H) (e:k=k'):EP X pz a Q (.bool k') s:=by subst e;exact ii (.bl k) H ⟨I,rfl,q⟩
def uZ:OpR X (Mw .Eq) rEq:=by
 intro f s e H x y v u Q I d a h;obtain⟨c,q⟩:=h
 cases x with
 |non=>
  cases d
  cases y with
  |non=>cases a;exact PySem.EqNone.eq_none_none (iR I q O4)
  |bl j=>cases a;exact PySem.EqNone.eq_none_bool (iR I q O4)
  |int j=>obtain⟨b,rfl⟩:=a;exact PySem.EqNone.eq_none_int (iR I q O4)
  |str j=>obtain⟨b,rfl⟩:=a;exact PySem.EqNone.eq_none_str (iR I q O4)
  |_=>exact absurd (c) fc
 |bl i=>
  cases d
  cases y with
  |non=>cases a;exact PySem.EqNone.eq_bool_none (iR I q O4)
  |bl j=>cases a;exact eq_bool (iR I q Em)
  |str j=>obtain⟨b,rfl⟩:=a;exact PySem.EqMixed.eq_bool_str (iR I q O4)
  |_=>exact absurd (c) fc
 |int i=>
  obtain⟨t,rfl⟩:=d
  cases y with
  |non=>cases a;exact PySem.EqNone.eq_int_none (iR I q O4)
  |int j=>obtain⟨b,rfl⟩:=a;exact eq_int (iR I q A8)
  |str j=>obtain⟨b,rfl⟩:=a;exact PySem.EqMixed.eq_int_str (iR I q O4)
  |_=>exact absurd (c) fc
 |str i=>
  obtain⟨t,rfl⟩:=d
  cases y with
  |non=>cases a;exact PySem.EqNone.eq_str_none (iR I q O4)
  |bl j=>cases a;exact PySem.EqMixed.eq_str_bool (iR I q O4)
  |int j=>obtain⟨b,rfl⟩:=a;exact PySem.EqMixed.eq_str_int (iR I q O4)
  |str j=>obtain⟨b,rfl⟩:=a;exact eq_str (iR I q A9)
  |_=>exact absurd (c) fc
 |byt i=>
  obtain⟨t,rfl⟩:=d
  cases y with
  |byt j=>obtain⟨b,rfl⟩:=a;exact PySem.W.eq_bytes (iR I q Ba)
  |_=>exact absurd (c) fc
 |_=>cases y<;>exact absurd (c) fc
def oP:OpR X (Mw .NotEq) rNe:=by
 intro f s e H x y v u Q I d a h;obtain⟨c,q⟩:=h
 cases x with
 |non=>
  cases d
  cases y with
  |non=>cases a;exact PySem.EqNone.ne_none_none (iR I q O4)
  |bl j=>cases a;exact PySem.EqNone.ne_none_bool (iR I q O4)
  |int j=>obtain⟨b,rfl⟩:=a;exact PySem.EqNone.ne_none_int (iR I q O4)
  |str j=>obtain⟨b,rfl⟩:=a;exact PySem.EqNone.ne_none_str (iR I q O4)
  |_=>exact absurd (c) fc
 |bl i=>
  cases d
  cases y with
  |non=>cases a;exact PySem.EqNone.ne_bool_none (iR I q O4)
  |bl j=>cases a;exact ne_bool (iR I q (congrArg not Em))
  |str j=>obtain⟨b,rfl⟩:=a;exact PySem.EqMixed.ne_bool_str (iR I q O4)
  |_=>exact absurd (c) fc
 |int i=>
  obtain⟨t,rfl⟩:=d
  cases y with
  |non=>cases a;exact PySem.EqNone.ne_int_none (iR I q O4)
  |int j=>obtain⟨b,rfl⟩:=a;exact ne_int (iR I q (congrArg not A8))
  |str j=>obtain⟨b,rfl⟩:=a;exact PySem.EqMixed.ne_int_str (iR I q O4)
  |_=>exact absurd (c) fc
 |str i=>
  obtain⟨t,rfl⟩:=d
  cases y with
  |non=>cases a;exact PySem.EqNone.ne_str_none (iR I q O4)
  |bl j=>cases a;exact PySem.EqMixed.ne_str_bool (iR I q O4)
  |int j=>obtain⟨b,rfl⟩:=a;exact PySem.EqMixed.ne_str_int (iR I q O4)
  |str j=>obtain⟨b,rfl⟩:=a;exact ne_str (iR I q (congrArg not A9))
  |_=>exact absurd (c) fc
 |byt i=>
  obtain⟨t,rfl⟩:=d
  cases y with
  |byt j=>obtain⟨b,rfl⟩:=a;exact PySem.W.ne_bytes (iR I q (congrArg not Ba))
  |_=>exact absurd (c) fc
 |_=>cases y<;>exact absurd (c) fc
def Dw:OpR X (Mw .Lt) (rI0 fun i j=> .bl (decide (i<j))):=JL fun _ _ _ _ _ _ _ q=>lt_int q
def tX:OpR X (Mw .LtE) (rI0 fun i j=> .bl (decide (i<=j))):=JL fun _ _ _ _ _ _ _ q=>le_int q
def HC:OpR X (Mw .Gt) (rI0 fun i j=> .bl (decide (j<i))):=JL fun _ _ _ _ _ _ _ q=>gt_int q
def J7:OpR X (Mw .GtE) (rI0 fun i j=> .bl (decide (j<=i))):=JL fun _ _ _ _ _ _ _ q=>ge_int q
def wu:OpR X (Mw .In) (fun x y H Q=>∃i j,x= .str i/\y= .str j/\Q (.bl (!(NO j i 0 j.length 1).isEmpty)) H):=by intro g s e H x y v u Q I d c h;refine eap h fun i j b a q=>?_;subst b;subst a;obtain⟨t,rfl⟩:=d;obtain⟨f,rfl⟩:=c;exact in_str (iR I q rfl)
def Bb(b:Zr) (h:autoParam (op≠ .In) auD._auto_1) (a:autoParam (op≠ .NotIn) auD._auto_1):MP op b=false:=by
 have d:(op==CmpOp.In)=false:=by cases op<;>first|rfl|exact absurd rfl h
 have c:(op==CmpOp.NotIn)=false:=by cases op<;>first|rfl|exact absurd rfl a
 cases b<;>simp[MP,d,c]
def iV {op:CmpOp} {r:R2} (ho:OpR X (Mw op) r) (ha:PE X a ta) (hb:PE X b tb) (hm:MP op b=false:=by exact Bb _):PE X (.Compare a [op] [b] pos) (tOp r ta tb):=by intro pz s σ H Q I h;exact wpAny_Compare1 (J6 ha hb I h fun v u s2 x y H2 I2 rx ry q=>ho pz s2 σ H2 x y v u Q I2 rx ry q) hm
def HD (t:TE):TT:=fun a H Q=>t a H fun x b=>∃k,x= .bl k/\Q k b
def jD {op:CmpOp} {r:R2} (ho:OpR X (Mw op) r) (ha:PE X a ta) (hb:PE X b tb) (hm:MP op b=false:=by exact Bb _):PT X (.Compare a [op] [b] pos) (HD (tOp r ta tb)):=by
 intro pz s σ H Q I h;refine wpAny_isTrue_Compare1 (thn (ha pz s σ H _ I h) fun v s1 ⟨x,H1,I1,r1,q1⟩=>thn (hb pz s1 σ H1 _ I1 q1) fun u s2 ⟨y,H2,I2,r2,q2⟩=>
  thn (ho pz s2 σ H2 x y v u _ I2 r1 r2 q2) fun c s3 ⟨z,H3,I3,r3,k,e,q3⟩=>?_) hm;subst e;cases r3;exact ME ⟨H3,I3,q3⟩
def HE (r g:R2) (f e d:TE):TE:=fun a H Q=>f a H fun x j=>e a j fun y i=>r x y i fun z b=>∃k,z= .bl k/\
 (if k=true then d a b fun c h=>g y c h Q else Q (.bl false) b)
def oy {op op':CmpOp} {r r':R2} (ho:OpR X (Mw op) r) (ho':OpR X (Mw op') r') (ha:PE X a ta) (hb:PE X b tb) (hc:PE X c tc)
  (hm:lastMarks [op,op'] [b,c]=false:=by with_unfolding_all rfl):PT X (.Compare a [op,op'] [b,c] pos) (HD (HE r r' ta tb tc)):=by
 intro pz s σ H Q I h;refine isTrue_chain (thn (ha pz s σ H _ I h) fun v s1 ⟨x,H1,I1,r1,q1⟩=>test_link (thn (hb pz s1 σ H1 _ I1 q1) fun u s2 ⟨y,H2,I2,r2,q2⟩=>
  thn (ho pz s2 σ H2 x y v u _ I2 r1 r2 q2) fun d s3 ⟨z,H3,I3,r3,k,e,q3⟩=>?_)) hm;subst e;cases r3;refine ME ?_
 cases k with
 |false=>refine eaa q3 fun k' e' q'=>?_;cases e';exact ite_ff ⟨H3,I3,q'⟩
 |true=>refine ite_tt (test_last (thn (hc pz s3 σ H3 _ I3 q3) fun w' s4 ⟨z',H4,I4,r4,q4⟩=>thn (ho' pz s4 σ H4 y z' u w' _ I4 r2 r4 q4) ?_));refine fun d' s5=>fL fun z2 H5=>fae fun I5 r5=>faa fun k2=>f8 fun z0 q5=>?_;subst z0;cases r5;exact ME ⟨H5,I5,q5⟩
def uv:(sizeLine:Nat)<2^63:=by rw[L9];decide
def uw:OpR X (MF .Add) (fun x y H Q=>∃i j,x= .str i/\y= .str j/\i.length+j.length<=sizeLine/\Q (.str (i++j)) H):=by intro l s g H x y v u Q I e d h;refine eaj h fun i j b a f q=>?_;subst b;subst a;obtain⟨t,rfl⟩:=e;obtain⟨c,rfl⟩:=d;exact add_str (fun c k=>(ii (.str (i++j)) H (⟨I.tok _,⟨_,rfl⟩,q⟩))) f
def mO(r:ja [x] us):∃u,us=[u]/\i7 x u:=by
 cases r with
 |cons b a=>cases a;exact⟨_,rfl,b⟩
def Bc(r:ja [x,y] us):∃u a,us=[u,a]/\i7 x u/\i7 y a:=by
 cases r with
 |cons e d=>
  cases d with
  |cons c b=>cases b;exact ii _ _ ⟨rfl,e,c⟩
def Be (g:X.calm=true):oG X (.builtin "max") (fun b H Q=>∃i j,b=[.int i,.int j]/\Q (.int (if j>i then j else i)) H):=by
 intro v s l H b n Q I r h;refine eah h fun i j a q=>?_;subst a;refine eap (Bc r) fun u m a f e=>?_;subst a;obtain⟨t,d⟩:=f;subst d;obtain⟨p,c⟩:=e;subst c;refine max_two_ints (I.ok.hd g) fun w o k=>(ii _ H ⟨I.kept k,?_,q⟩);by_cases hj:j>i;·rw[ig hj,ig hj];exact⟨_,rfl⟩
 ·rw[gZ hj,gZ hj];exact⟨_,rfl⟩
def wx:oG X (.type "int") (fun b H Q=>(∃i,b=[.int i]/\Q (.int i) H)\/∃k,b=[.bl k]/\Q (.int (if k then 1 else 0)) H):=by
 intro g s e H b f Q I r h;rcases h with⟨i,rfl,q⟩|⟨k,rfl,q⟩;·refine eal (mO r) fun u=>f8 fun a=>faa fun t c=>?_;subst a;subst c;exact call_int_int (ii (.int i) H (⟨I,⟨_,rfl⟩,q⟩))
 ·refine eaa (mO r) fun u a d=>?_;subst a;cases d;exact call_int_bool (ii (.int (if k then 1 else 0)) H (⟨I.tok _,⟨_,rfl⟩,q⟩))
def wy:oG X (.type "str") (fun b H Q=>∃i,b=[.int i]/\i.natAbs.log2<1920/\Q (.str (toString i)) H):=by intro g s e H b f Q I r h;refine eak h fun i a d q=>?_;subst a;refine eal (mO r) fun u=>f8 fun a=>faa fun t c=>?_;subst a;subst c;exact PySem.P.str_of_int d (ii (.str _) H (⟨I.tok _,⟨_,rfl⟩,q⟩))
end
structure Fo (h:Zt) (x dx C:Zx) (mA:Zc):Prop where
 obj:h.get? x=some (dB C dx)
 ns:h.Ns1 dx mA
 ne:dx≠x
def Bg{f:Zc} (n:h.Ns1 dx f):∃d,h.get? dx=some d/\∀b,dD b d=some (f b):=by
 refine eag n fun o g r=>faj fun j m l _ k=>?_;refine⟨o,j,fun b=>?_⟩;have e:=k b;unfold nsFind findBy at e;rw[<-Array.find?_toList]at e;unfold dD;rw[m];dsimp only;split;·rename_i y q;rw[q]at e;exact congrArg some e
 ·rename_i q;rw[q]at e;have a:g.toList.any (·.refKey)=false:=by rw[List.any_eq_false];intro y i;refine eaq (l y (Array.mem_toList_iff.mp i)) fun z t c=>?_;simp[DictEntry.refKey,c]
  have p:¬g.toList.any (·.refKey)=true:=by rw[a];exact fc
  rw[gZ p];exact congrArg some e
def Fo.look {x d:Zx} {c:Zc} (I:Fo h x d C c):∃b,PySem.W.InstAt h x (dB C d) C (some b)/\∀a,dD a b=some (c a):=
 let⟨b,ho,hl⟩:=Bg I.ns
 ⟨b,⟨I.obj,rfl,rfl,ho⟩,hl⟩
section
variable {prog:Zu} {w:Zv} {A:Zw} {E:Zb} {s:Zy} {K:Zp} {x dx C f:Zx} {mA:Zc} {name:Str} {v:Zz}
def Fp(X:K.In s.heap) (I:Fo s.heap x dx C mA) (e:dE K C name=true) (d:dF K C=true)
  (f:dG K (.ref C) name=some none) (b:mA name=some v) (a:PySem.W.handedIn v=true) (h:Q v {s with toks:=s.toks+ 1}):
  L8 (model prog w) A (getAttr (.ref x) name expr) Q E s:=by refine eaa I.look fun g J c=>?_;exact PySem.W.get_value X J (dH e).1 (PySem.W.findObj_own d f rfl (by rw[c,b])) a h
def Dx{Q:Zz×List Zz->Zy->Prop} (X:K.In s.heap) (I:Fo s.heap x dx C mA) (a:dE K C name=true)
  (g:dG K (.ref C) name=some (some (.ref f))) (d:dI K (.ref f)=true) (c:mA name=none) (h:Q (.ref f,[.ref x]) s):
  L8 (model prog w) A (getMethod (.ref x) name pl) Q E s:=by refine eaa I.look fun b J e=>?_;exact PySem.W.method_fn X J (dH a).1 (dH a).2 g (beq_iff_eq.mp d) (by show(dD name b).map (·.isSome)=some false;rw[e,c];rfl) h
def Fq {ns:Zd} {Q:Unit->Zy->Prop} (X:K.In s.heap) (I:Fo s.heap x dx C mA)
  (n:dG K (.ref C) "__setattr__"=some (some (.builtin "object.__setattr__"))) (o:dJ K C=true) (l:dM K C name=some none) (p:dF K C=true)
  (k:PySem.Within mA ns) (m:ns.length<=sizeLine)
  (h:∀d,Fo d x dx C (fun y=>if y=name then some v else mA y)->NC dx s.heap d->Q () {s with heap:=d,toks:=s.toks+ 2}):
  L8 (model prog w) A (setAttr (.ref x) name v) Q E s:=by refine eaa I.look fun u J B=>?_;refine PySem.W.set_plain X J n (PySem.W.osa_open X J o l fun b=>?_);refine eaa (PySem.W.any_some p) fun D q g=>?_;have j:=I.obj;refine C8 (Ma (C8 (C8 (wpAny_loadPart j (C8 (PySem.W.Looks.here (PySem.W.looks_clsIn X q) ?_))))));rw[g];refine Ma (C8 (Ma (C8 ?_)));refine wpAny_nsSet1 I.ns fun d c a=>?_;refine eai (c.count (PySem.Within.cons name v k)) fun z r t e f i=>?_;refine C8 (wpAny_lookBehind e (by rw[f];exact pastItsLine_dict (cF i (by rw[aB];lia))) ?_);exact Ma (h _ ⟨(a.2 _ (Mu I.ne)).trans I.obj,c,I.ne⟩ a)
def Dy(X:K.In s.heap) (b:dN K C=true)
  (c:dG K (.ref C) "__init__"=some (some (.ref f))) (e:PySem.W.typeIn K (.ref f)=some (.type "function"))
  (h:Nx (model prog w) (A.under (.builtin "type.__call__" ⟨.ref C::vs,kw⟩)) (.call (.ref f) ⟨.ref (s.heap.objs.size+ 1)::vs,kw⟩) (PySem.W.InitBack (s.heap.objs.size+ 1) R)
   {s with heap:=(s.heap.push dO).push (dB C s.heap.objs.size)}):
  Nx (model prog w) A (.call (.ref C) ⟨vs,kw⟩) R s:=by obtain⟨j,g,d,t,i⟩:=s;exact PySem.W.make_core (PySem.W.makes_of X b) (PySem.W.looks_findIn X c) (fun a=>PySem.W.bind_fn X a e) (.inl rfl) h
end
noncomputable def jV (f:Str) (v:V):List (Str×V)->List (Str×V)
 |[]=>[(f,v)]
 |(g,x)::r=>if g=f then(g,v)::r else(g,x)::jV f v r
theorem sj (f g:Str) (v:V):∀b:List (Str×V),(jV f v b).lookup g=if g=f then some v else b.lookup g
 |[]=>by
  show aC g [(f,v)]=_;by_cases h:g=f;·have a:=beq_iff_eq.mpr h;simp only[aC,a,ig h]
  ·have a:=beq_eq_false_iff_ne.mpr h;simp only[aC,a,gZ h]
 |(k,x)::r=>by
  have c:=sj f g v r;rw[show jV f v ((k,x)::r)=(if k=f then(k,v)::r else(k,x)::jV f v r)from rfl];by_cases hk:k=f
  ·rw[ig hk];by_cases h:g=k;·have a:=beq_iff_eq.mpr h;simp only[aC,a,ig (h.trans hk)]
   ·have a:=beq_eq_false_iff_ne.mpr h;simp only[aC,a,gZ (fun e:g=f=>h (e.trans hk.symm))]
  ·rw[gZ hk];by_cases h:g=k;·have a:=beq_iff_eq.mpr h;simp only[aC,a,gZ (fun e:g=f=>hk (h.symm.trans e))]
   ·have a:=beq_eq_false_iff_ne.mpr h;simp only[aC,a];exact c
theorem sk (f:Str) (v:V):∀a:List (Str×V),f∈(jV f v a).map (·.1)/\∀g,g∈a.map (·.1)->g∈(jV f v a).map (·.1)
 |[]=>⟨by simp[jV],fun g h=>by simp at h⟩
 |(k,x)::r=>by
  obtain⟨c,b⟩:=sk f v r;rw[show jV f v ((k,x)::r)=(if k=f then(k,v)::r else(k,x)::jV f v r)from rfl];by_cases hk:k=f;·rw[ig hk];subst hk;exact⟨O4,fun g h=>by simpa using h⟩
  ·rw[gZ hk];refine⟨?_,fun g h=>?_⟩;·rw[aD];exact ak _ c
   ·rw[aD]at h⊢;rcases ao.mp h with e|e;·exact ao.mpr (.inl e)
    ·exact ak _ (b g e)
theorem sq (f:Str) (v:V):∀a:List (Str×V),(jV f v a).length<=a.length+ 1
 |[]=>by simp[jV]
 |(k,x)::r=>by
  have b:=sq f v r;rw[show jV f v ((k,x)::r)=(if k=f then(k,v)::r else(k,x)::jV f v r)from rfl];by_cases hk:k=f;·rw[ig hk,aB,aB];lia
  ·rw[gZ hk,aB,aB];lia
def uX.some_of {v:V} {o:Option Zz} (r:uX (some v) o):∃u,o=some u/\i7 v u:=by
 cases o with
 |none=>exact(r).elim
 |some u=>exact⟨u,rfl,r⟩
def uX.none_of {o:Option Zz} (r:uX none o):o=none:=by
 cases o with
 |none=>rfl
 |some u=>exact(r).elim
def Bh(r:i7 v u):PySem.W.handedIn u=true:=by
 cases v with
 |non=>cases(r);rfl
 |bl b=>cases(r);rfl
 |int i=>obtain⟨t,e⟩:=(r);cases e;rfl
 |str x=>obtain⟨t,e⟩:=(r);cases e;rfl
 |byt b=>obtain⟨t,e⟩:=(r);cases e;rfl
 |flt b=>obtain⟨t,e⟩:=(r);cases e;rfl
 |ref a=>cases(r);rfl
 |ty n=>cases(r);rfl
section
variable {P:Zu} {w:Zv} {H H':Hp} {h h':Zt} {a C dx:Zx} {fs fs':List (Str×V)}
def u4 (c:HOk P w H h) (e:H a=some (.ins C dx fs)):∃b,Fo h a dx C b/\(∀f,uX (fs.lookup f) (b f))/\PySem.Within b (fs.map (·.1))/\fs.length<=1000/\H dx=some (.own a):=by refine eae ((show kb P w H h a (.ins C dx fs)from c a _ e)) fun d z i g=>faa fun b=>fae fun n r q=>?_;exact⟨b,⟨g,n,i⟩,r,q,z,d⟩
end
structure Cls (K:Zp) (C:Zx):Prop where
 pg:dE K C Str.empty=true
 hd:dF K C=true
 po:dJ K C=true
 sa:dG K (.ref C) "__setattr__"=some (some (.builtin "object.__setattr__"))
def Cls.get {K:Zp} {C:Zx} (c:Cls K C) (f:Str):dE K C f=true:=c.pg
def iU (K:Zp) (C:Zx) (f:Str):Prop:=dG K (.ref C) f=some none
def iU.taker {K:Zp} {f:Str} (n:iU K C f):dM K C f=some none:=by unfold dM;rw[n];rfl
structure Con (K:Zp) (C:Zx) (f:Str) (v:V) (u:Zz):Prop where
 at_:dG K (.ref C) f=some (some u)
 rel:i7 v u
 get:dP K u "__get__"=some none
 cp:PySem.W.copiedNames.contains f=false
structure JO (K:Zp) (C:Zx) (m:Str) (f:Zx):Prop where
 at_:dG K (.ref C) m=some (some (.ref f))
 fn:dI K (.ref f)=true
 kp:dQ K (.ref f)=true
section
variable {X:Cx} {pz:Za} {σ:St} {H:Hp} {s:Zy} {a C dx:Zx} {fs:List (Str×V)} {f:Str} {v:V} {A:Zw} {E:Zb}
def uz(I:Inv X pz σ H s) (e:H a=some (.ins C dx fs)) (c:Cls X.K C) (n:iU X.K C f) (l:fs.lookup f=some v)
  (h:∀u d,Inv X pz σ H d->i7 v u->Q u d):L8 (model X.prog X.w) A (getAttr (.ref a) f b) Q E s:=by refine eal (u4 I.hok e) fun j=>faj fun O r _ _ _=>?_;refine eaa (uX.some_of (by rw[<-l];exact r f)) fun u i g=>?_;exact Fp I.kIn O (c.get f) c.hd n i (Bh g) (h u _ (I.tok _) g)
def uA{Q:Zz×List Zz->Zy->Prop} (I:Inv X pz σ H s) (e:H a=some (.ins C dx fs)) (c:Cls X.K C) (k:JO X.K C m g) (l:fs.lookup m=none)
  (h:Q (.ref g,[.ref a]) s):L8 (model X.prog X.w) A (getMethod (.ref a) m pl) Q E s:=by refine eal (u4 I.hok e) fun d=>faj fun O r _ _ _=>?_;have b:=uX.none_of (by rw[<-l];exact r m);exact Dx I.kIn O (c.get m) k.at_ k.fn b h
def uB{Q:Unit->Zy->Prop} (I:Inv X pz σ H s) (e:H a=some (.ins C dx fs)) (c:Cls X.K C) (n:iU X.K C f) (D:fs.length<1000) (m:i7 y u)
  (h:∀j,Inv X pz σ (upd H a (.ins C dx (jV f y fs))) j->Q () j):L8 (model X.prog X.w) A (setAttr (.ref a) f u) Q E s:=by
 refine eal (u4 I.hok e) fun p=>faj fun O r i _ k=>?_;have t:(fs.map (·.1)).length<=sizeLine:=by rw[aE,L9];lia
 refine Fq I.kIn O c.sa c.po n.taker c.hd i t fun B d l=>h _ ?_;have w:∃o,B.get? dx=some o:=let⟨o,_,_,e',_⟩:=d.ns;⟨o,e'⟩;refine I.write (by rw[e];exact MG) (.inr k) (fun b q x z=>(l.2 b x).trans z) w ?_;refine⟨by rw[gy O.ne];exact k,?_,O.ne,d.obj,_,d.ns,fun g=>?_,fun g v=>?_⟩;·have:=sq f y fs;lia
 ·rw[sj];by_cases q:g=f;·rw[ig q,ig q];exact m
  ·rw[gZ q,gZ q];exact r g
 ·by_cases q:g=f;·rw[q];exact(sk f y fs).1
  ·refine(sk f y fs).2 g (i g fun z=>v ?_);show(if g=f then some u else p g)=none;rw[gZ q];exact z
def Inv.made (I:Inv X pz σ H s):Inv X pz σ (upd (upd H s.heap.objs.size (.own (s.heap.objs.size+ 1))) (s.heap.objs.size+ 1) (.ins C s.heap.objs.size []))
  {s with heap:=(s.heap.push dO).push (dB C s.heap.objs.size)}:=by
 have c:(s.heap.push dO).get? s.heap.objs.size=some dO:=fK s.heap rfl;have h:((s.heap.push dO).push (dB C s.heap.objs.size)).get? (s.heap.objs.size+ 1)=some (dB C s.heap.objs.size):=by have:=fK (s.heap.push dO) (o:=dB C s.heap.objs.size) rfl;rwa[fN]at this
 have g:(s.heap.push dO).Ns s.heap.objs.size (fun _=>none):=(iaa dO (#[]) _ ⟨c,rfl,(fun e f=>absurd f O4),fun _=>rfl⟩);have i:=I.laid (o:= .own (s.heap.objs.size+ 1)) (t':=s.toks) (fun b u q=>fM _ q) (cJ _) ⟨_,c⟩;refine i.laid (fun b u q=>fM _ q) (cM (fN _ _)) ?_;have a:s.heap.objs.size≠s.heap.objs.size+ 1:=cE (cO _);refine⟨by rw[gy a,f7],cK _,a,h,fun _=>none,(Heap.Ns1.of_empty g).at fun o q=>fM _ q,fun _=>MG,fun y d=>absurd rfl d⟩
def Fs(b:M9 e f env (eval e env)=eval e env)
  (h:L8 (model prog w) A (eval e env) (fun o a=>L8 (model prog w) A (getAttr o f true) Q E a) E s):L8 (model prog w) A (eval (.Attribute e f pos) env) Q E s:=
 Attribute_any_ h (by rw[arm_eval_Attribute,b])
end
def tFld (K:Zp) (e:TE) (f:Str):TE:=fun d H Q=>e d H fun x c=>∃a C g b v,x= .ref a/\c a=some (.ins C g b)/\Cls K C/\iU K C f/\b.lookup f=some v/\Q v c
def LJ (K:Zp) (h g:TE) (f:Str):TS:=fun D b H=>g b H fun y i=>h b i fun x e=>∃a C d c,x= .ref a/\e a=some (.ins C d c)/\Cls K C/\iU K C f/\c.length<1000/\
 D.nx b (upd e a (.ins C d (jV f y c)))
def LK (X:Cx) (d:Operator) (c:V->V->Hp->VK->Prop):Prop:=
 ∀b s (a:St) H x y u v Q,Inv X b a H s->i7 x u->i7 y v->c x y H Q->L8 (model X.prog X.w) X.A (inplaceOp d u v) (EP X b a Q) X.xe s
def Ft (K:Zp) (j i:TE) (k:V->V->Hp->VK->Prop) (f:Str):TS:=fun D d H=>j d H fun x h=>∃a C l e v,x= .ref a/\h a=some (.ins C l e)/\Cls K C/\iU K C f/\e.lookup f=some v/\
 i d h fun y m=>k v y m fun z g=>∃c b,g a=some (.ins C c b)/\b.length<1000/\D.nx d (upd g a (.ins C c (jV f z b)))
section
variable {X:Cx} {o e value:Zr} {f:Str} {pos pos' tpos:Pos} {ta tv:TE}
def qe (k:PE X e ta) (m:M9 e f X.env (eval e X.env)=eval e X.env):PE X (.Attribute e f pos) (tFld X.K ta f):=by intro j s b H Q I h;refine Fs m (thn (k j s b H _ I h) ?_);refine fun u z=>fL fun x t=>fae fun r g=>fak fun a C B A v=>fag fun d o c n l q=>?_;subst d;obtain rfl:u=Ml a:=g;exact uz r o c n l fun w y p i=>(ii v t ⟨p,i,q⟩)
def js (t:PE X o ta) (p:PE X value tv) (r:ND value (some (.Attribute o f pos')) pos.line X.env=pure false):PS X (.Assign [.Attribute o f pos'] value pos) (LJ X.K ta tv f):=by intro d s b H D I h;refine plainObj_wpAny_Assign_Attribute (thn (p d s b H _ I h) fun u g ⟨y,B,A,i,q⟩=>thn (t d g b B _ A q) ?_) r;refine fun m F=>fL fun x K=>fae fun z j=>fal fun a C J G=>fag fun e v c n l k=>?_;subst e;obtain rfl:m=Ml a:=j;exact uB z v c n l i fun E w=>(ii b _ ⟨w,k⟩)
def wz(J:PE X o ta) (G:PE X value tv) (e:LK X op rd):PS X (.AugAssign (.Attribute o f tpos) op value pos) (Ft X.K ta tv rd f):=by intro d s b H D I h;refine wpAny_AugAssign_AttributeAny (thn (J d s b H _ I h) ?_);refine fun E Y=>fL fun x T=>fae fun R t=>fak fun a C dx Z v=>fag fun i L c n l q=>?_;subst i;obtain rfl:E=Ml a:=t;refine uz R L c n l fun u m Q w=>thn (G d m b T _ Q q) fun j k ⟨y,S,P,r,B⟩=>thn (e d k b S v y u j _ P w r B) ?_;refine fun U W=>fL fun z H3=>fae fun O p=>fL fun M K=>fae fun g F A=>?_;exact uB O g c n F p fun V N=>(ii b _ ⟨N,A⟩)
def rAdd:V->V->Hp->VK->Prop:=fun x y H Q=>∃i j,x= .int i/\y= .int j/\Q (.int (i+j)) H
def Eo:LK X .Add rAdd:=by refine fun g s e H x y u v Q I d c=>fac fun i j b a q=>?_;subst b;subst a;obtain⟨t,rfl⟩:=(d);obtain⟨f,rfl⟩:=(c);exact PyProof.Rows.iadd_int (ii (.int (i+j)) H (⟨I.tok _,⟨_,rfl⟩,q⟩))
end
section
variable {X:Cx} {pz:Za} {σ:St} {H:Hp} {s:Zy} {A:Zw} {E:Zb} {Q:Zb} {c:Zz} {b:Bool}
inductive x6 (K:Zp) (H:Hp):V->Zz->Prop where
 |non:x6 K H .non (.type "NoneType")
 |bl (x:Bool):x6 K H (.bl x) (.type "bool")
 |int (i:Int):x6 K H (.int i) (.type "int")
 |str (x:Str):x6 K H (.str x) (.type "str")
 |flt (x:UInt64):x6 K H (.flt x) (.type "float")
 |lst {a:Zx} {xs:List V} (e:H a=some (.lst xs)):x6 K H (.ref a) (.type "list")
 |frz {a:Zx} {o:Obj} {xs:List V} (e:H a=some (.frz o (.lst xs))):x6 K H (.ref a) (.type "list")
 |tup {a:Zx} {xs:List V} (e:H a=some (.tup xs)):x6 K H (.ref a) (.type "tuple")
 |dK {a:Zx} {kvs:List (Key×V)} (e:H a=some (.dK kvs)):x6 K H (.ref a) (.type "dict")
 |dT {a:Zx} {kvs:List (List Key×V)} (e:H a=some (.dT kvs)):x6 K H (.ref a) (.type "dict")
 |ins {a C dx:Zx} {fs:List (Str×V)} (e:H a=some (.ins C dx fs)) (cl:Cls K C) (ha:dG K (.ref C) "__class__"=some (some (.builtin "object.__class__")))
   (hn:dP K (.builtin "object.__class__") "__get__"=some (some (.builtin "getset_descriptor.__get__"))) (htk:PySem.W.takesIn K (.builtin "object.__class__")=some true)
   (hm:PySem.W.mroIn K C (.type "object")=some true):x6 K H (.ref a) (.ref C)
def Bi(I:Inv X pz σ H s) (d:i7 x u) (v:x6 X.K H x t) (e:dR X.K t c=some b) (h:∀w,Q (.bool b) {s with toks:=w}):
  L8 (model X.prog X.w) A (call (.builtin "isinstance") [u,c]) Q E s:=by
 cases v with
 |non=>cases(d);exact dS PySem.W.kitx_none I.kIn MG e (fun z=>nomatch z) h
 |bl y=>cases(d);exact dS PySem.W.kitx_bool I.kIn MG e (fun z=>nomatch z) h
 |int i=>obtain⟨t,q⟩:=(d);cases q;exact dS PySem.W.kitx_int I.kIn MG e (fun z=>nomatch z) h
 |str y=>obtain⟨t,q⟩:=(d);cases q;exact dS PySem.W.kitx_str I.kIn MG e (fun z=>nomatch z) h
 |flt y=>obtain⟨t,q⟩:=(d);cases q;exact dS PySem.W.kitx_float I.kIn MG e (fun z=>nomatch z) h
 |@lst a k f=>cases(d);refine eab ((show kb X.prog X.w H s.heap a (.lst k)from I.hok a _ f)) fun _=>fL fun _ n=>f8 fun _ g=>?_;exact dS dU I.kIn ⟨_,g,rfl⟩ e (fun z=>nomatch z) h
 |@frz a B k f=>cases(d);refine eac ((show kb X.prog X.w H s.heap a (.frz B (.lst k))from I.hok a _ f)) fun _ _=>fL fun _ n=>f8 fun _ g=>?_;exact dS dU I.kIn ⟨_,g,rfl⟩ e (fun z=>nomatch z) h
 |@tup a k f=>cases(d);refine eab ((show kb X.prog X.w H s.heap a (.tup k)from I.hok a _ f)) fun _=>faa fun _=>f8 fun _ p=>?_;refine eak p fun o g l _=>?_;exact dS PySem.W.kitx_tuple I.kIn ⟨o,g,l⟩ e (fun z=>nomatch z) h
 |@dK a j f=>cases(d);refine ear ((show kb X.prog X.w H s.heap a (.dK j)from I.hok a _ f)) fun _ _ M _ p=>?_;refine eai p fun o K L g l _=>?_;exact dS dW I.kIn ⟨o,g,l.1⟩ e (fun z=>nomatch z) h
 |@dT a j f=>cases(d);refine eac ((show kb X.prog X.w H s.heap a (.dT j)from I.hok a _ f)) fun _ _=>faa fun k=>f8 fun _=>fab fun o K L=>fae fun g l _=>?_;exact dS dW I.kIn ⟨o,g,l.1⟩ e (fun z=>nomatch z) h
 |@ins a C S R f r G D m F=>cases(d);refine eaa (u4 I.hok f) fun P O _=>?_;refine eaa O.look fun N J _=>?_;exact dS (PySem.W.kitx_own (r.get _) r.hd G D m F) I.kIn J e (fun z=>nomatch z) h
end
structure nM (k:Nat) (A:Zw):Prop where
 hd:A.handled=none
 dp:A.depth+ 2*k+ 5<recursionLimit
 un:A.units+ 16*k+ 200<M8
def nM.mono {k:Nat} (r:nM k A) (h:j<=k):nM j A:=⟨r.hd,by have:=r.dp;lia,by have:=r.un;lia⟩
def nM.m {k:Nat} (r:nM k A) (h:autoParam (j<=k) auD._auto_1):nM j A:=r.mono h
theorem nM.deeper {k:Nat} (r:nM (k+ 1) A) (a:Env):nM k (A.deeper a):=
 ⟨r.hd,by have:=r.dp;show A.depth+ 1+ 2*k+ 5<_;lia,by have:=r.un;show A.units+ 3+ 16*k+ 200<_;lia⟩
def Ac:(A.under (.builtin "type.__call__" ⟨.ref C::us,kw⟩)).depth=A.depth+ 1:=by first|rfl|simp[Around.under,Code.weight,Code.isCreation,Code.isGuard,Code.isCaller,Code.frames,Code.isFrame,guardIds]
def Ad:(A.under (.builtin "type.__call__" ⟨.ref C::us,kw⟩)).units=A.units+ 1:=by first|rfl|simp[Around.under,Code.cUnits,Code.frames,Code.isFrame]
def nM.make {k:Nat} (r:nM (k+ 1) A) (C:Zx) (a:List Zz) (b:List (Str×Zz)):nM k (A.under (.builtin "type.__call__" ⟨.ref C::a,b⟩)):=
 ⟨r.hd,by have:=r.dp;rw[Ac];lia,by have:=r.un;rw[Ad];lia⟩
theorem nM.depth {k:Nat} (r:nM k A):A.depth<recursionLimit:=by have:=r.dp;lia
theorem nM.units {k:Nat} (r:nM k A):A.units+ 64<M8:=by have:=r.un;lia
def nM.units0 {k:Nat} (r:nM k A):A.units<M8:=by have:=r.un;lia
def x8:TA:=fun _ H Q=>Q [] H
def kP (d:TE) (c:TA):TA:=fun a H Q=>d a H fun x f=>c a f fun b e=>Q (x::b) e
section
variable {X:Cx} {e:Zr} {es:List Zr} {te:TE} {t:TA} {pos:Pos}
def fY:PA X [] x8:=fun _ _ _ _ H Q I h=>Calls.spliced_nil (ii ([]) H ⟨I,.nil,h⟩)
def fV (n:PE X e te) (m:PA X es t) (l:autoParam (Mj (e::es) X.env=(false,eval e X.env)::Mj es X.env) auR._auto_1):PA X (e::es) (kP te t):=by intro a c s b H Q I h;rw[l];refine NF (thn (n c s b H _ I h) ?_);refine fun u f=>fac fun x r p i k=>?_;exact thn (m a c f b r _ p k) fun v w ⟨d,q,o,g,j⟩=>(ii (x::d) q ⟨o,.cons i g,j⟩)
def JP (t:TA):TE:=fun c H Q=>t c H fun a b=>a.length<=sizeLine/\∀p,b p=none->Q (.ref p) (upd b p (.tup a))
def AS (t:TA):TE:=fun c H Q=>t c H fun a b=>a.length<=sizeLine/\∀p,b p=none->Q (.ref p) (upd b p (.lst a))
def iB {x1} (h:PA X es t):PE X (.Tuple es x1 pos) (JP t):=by intro i s d H Q I j;refine wpAny_Tuple_spliced (thn (h pos i s d H _ I j) fun g a ⟨f,l,c,r,z,q⟩=>⟨by rw[<-r.length];exact z,?_⟩);have k:=c.hok.fresh (cJ _);refine ii (.ref a.heap.objs.size) (upd l a.heap.objs.size (.tup f)) ⟨c.laid (fun b u e=>fM _ e) (cJ _) ?_,rfl,q _ k⟩;exact⟨z,g,r,⟨_,fK _ rfl,rfl,_,rfl,rfl⟩⟩
def gG (h:PA X es t):PE X (.List es pos) (AS t):=by intro i s d H Q I j;refine wpAny_List_spliced (thn (h pos i s d H _ I j) fun g a ⟨f,l,c,r,z,q⟩=>⟨by rw[<-r.length];exact z,?_⟩);have k:=c.hok.fresh (cJ _);refine ii (.ref a.heap.objs.size) (upd l a.heap.objs.size (.lst f)) ⟨c.laid (fun b u e=>fM _ e) (cJ _) ?_,rfl,q _ k⟩;exact⟨z,g,0,r,fK _ rfl⟩
end
abbrev Sp:=List V->Hp->VK->XK->Prop
abbrev CXT:=List Env->Hp->Zy->XK->Zz->Zy->Prop
structure Fu (P:Zu) (w:Zv) (K:Zp) (mg:Zc) (base:Zt) (A:Zw) (outer:List Env) (s:Zy) (H:Hp):Prop where
 frames:A.frames=some outer
 mod:Mod K mg base
 bs:∀b o,base.get? b=some o->s.heap.get? b=some o/\H b=none
 bsz:base.objs.size<=s.heap.objs.size
 funs:s.heap.FunFrames base outer
 frf:∀b∈frs outer,H b=none
 hok:HOk P w H s.heap
 bare:AllBare s.gens
def CE (a:List Env) (P:Zu) (w:Zv) (H:Hp) (s:Zy) (Q:VK) (u:Zz) (b:Zy):Prop:=
 ∃v c,b.os=s.os/\AllBare b.gens/\Un (frs a) [] H c s.heap b.heap/\HOk P w c b.heap/\i7 v u/\Q v c
def CR (c:CXT) (a:List Env) (P:Zu) (w:Zv) (H:Hp) (s:Zy) (Q:VK) (E:XK) (r:Result) (b:Zy):Prop:=
 match r with
 | .ok (.ret u)=>CE a P w H s Q u b
 | .ok _=>False
 | .error e=>c a H s E e b
structure uC (P:Zu) (w:Zv) (K:Zp) (mg:Zc) (base:Zt) (CX:CXT) (k:Nat) (f:Zx) (fd:Zs) (ps:Zd) (sp:Sp):Prop where
 len:∀vs H Q E,sp vs H Q E->vs.length=ps.length
 run:∀(A:Zw) (outer:List Env) (s:Zy) (H:Hp) (args:Args) (us:List Zz) (vs:List V) (Q:VK) (E:XK),nM k A->Fu P w K mg base A outer s H->BindsTo s fd args (ps.zip us)->ja vs us->sp vs H Q E->
  Nx (model P w) A (.call (.ref f) args) (CR CX outer P w H s Q E) s
def Fu.make {P:Zu} {w:Zv} {K:Zp} {b:Zc} {base:Zt} {a:List Env} {s:Zy} (e:Fu P w K b base A a s H) (C:Zx) (c:List Zz) (d:List (Str×Zz)):
  Fu P w K b base (A.under (.builtin "type.__call__" ⟨.ref C::c,d⟩)) a s H:=⟨by first|exact e.frames|(simpa[Around.under,Code.envs,Code.isFrame,pushEnvs]using e.frames),e.mod,e.bs,e.bsz,e.funs,e.frf,e.hok,e.bare⟩
section
variable {X:Cx} {pz:Za} {σ:St} {H:Hp} {s s':Zy}
def Inv.env0 (I:Inv X pz σ H s):Fu X.prog X.w X.K X.mg X.base X.A X.stack s H:=
 ⟨I.ok.frames,I.ok.mod,I.bs,cF I.ok.bsz I.sz,I.stack,I.stkFree,I.hok,I.bare⟩
def Inv.after {Q:VK} {u:Zz} (I:Inv X pz σ H s) (h:CE X.stack X.prog X.w H s Q u s'):EP X pz σ Q u s':=by refine eaq h fun v j=>fag fun i a f e r q=>?_;obtain⟨k,g,d,t,c⟩:=s';obtain rfl:c=s.os:=i;exact ii v j ⟨I.call f e a (fun b z=>absurd z O4),r,q⟩
end
def Dz (d:Sp) (a:List V) (E:XK) (t:TA):TE:=fun b H Q=>t b H fun c e=>d (c++a) e Q E
def Fv (C:Zx) (m:Str) (h:Sp) (b:List V) (E:XK) (g:TE) (t:TA):TE:=fun c H Q=>g c H fun x e=>∃a i d,x= .ref a/\e a=some (.ins C i d)/\d.lookup m=none/\
 t c e fun f j=>h (x::(f++b)) j Q E
def HF (C:Zx) (f:Sp) (b:List V) (E:XK) (t:TA):TE:=fun d H Q=>t d H fun e c=>∀x a,c x=none->c a=none->a≠x->
 f (.ref x::(e++b)) (upd (upd c a (.own x)) x (.ins C a [])) (fun v g=>v= .non/\Q (.ref x) g) E
def qE (K:Zp) (d:Zs) (b:Zd) (c:List Zz):Prop:=
 ∀s a,K.In s.heap->(a++c).length=b.length->BindsTo s d ⟨a,[]⟩ (b.zip (a++c))
def qE.all {K:Zp} {c:Zs} (h:∀a,a.length=ps.length->bindArgs c ⟨a,[]⟩=pure (ps.zip a)):qE K c ps []:=fun s a _ b=>by rw[aF]at b⊢;exact .of_eq (h a b)
def rp (d:CXT) (X:Cx) (E:XK):Prop:=∀c (b:St) H s e a,Inv X c b H s->d X.stack H s E e a->X.xe e a
section
variable {X:Cx} {CX:CXT} {k:Nat} {f C:Zx} {fd:Zs} {ps:Zd} {sp:Sp} {dvs:List V} {ds:List Zz} {E:XK} {x m:Str} {p pos apos:Pos} {e o:Zr} {es:List Zr} {ta:TE} {t:TA}
def zd{b:St} {Q:VK} (F:uC X.prog X.w X.K X.mg X.base CX k f fd ps sp) (i:nM k X.A) (m:qE X.K fd ps ds) (l:ja dvs ds) (g:rp CX X E)
  (I:Inv X pz b H s) (r:ja vs us) (h:sp (vs++dvs) H Q E):L8 (model X.prog X.w) X.A (call (.ref f) us) (EP X pz b Q) X.xe s:=by
 have c:=r.append l;have j:(us++ds).length=ps.length:=by rw[<-c.length];exact F.len _ _ _ _ h
 refine wpAny_call (codeAny_mono (F.run X.A X.stack s H ⟨us,[]⟩ (us++ds) (vs++dvs) Q E i I.env0 (m s us I.kIn j) c h) fun r d a=>?_)
 cases r with
 |error e=>exact g pz b H s e d I a
 |ok n=>
  cases n with
  |ret u=>exact I.after a
  |next=>exact Mt a
  |brk=>exact Mt a
  |cont=>exact Mt a
def Fw (F:uC X.prog X.w X.K X.mg X.base CX k f fd ps sp) (j:nM k X.A) (n:Gl X x) (l:X.mg x=some (.ref f)) (m:dQ X.K (.ref f)=true) (v:qE X.K fd ps ds) (u:ja dvs ds) (i:rp CX X E)
  (w:PA X (e::es) t) (b:autoParam ((x==("__debug__":Str))=false) auD._auto_1) (o:autoParam (Mj (e::es) X.env=(false,eval e X.env)::Mj es X.env) auR._auto_1) (a:autoParam ((MK pos (Mj es X.env)).any (·.1)=false) auR._auto_1):
  PE X (.Call (.Name x p) (e::es) [] pos) (Dz sp dvs E t):=by intro g s d H Q I h;refine Nm (xU I n l ?_ b);refine dX I.ok.mod.kin m (thn (w pos g s d H _ I h) fun z A ⟨y,B,c,r,q⟩=>⟨c.kIn,?_⟩) o a;exact zd F j v u i c r q
def gS {pl:Sem Bool} (he:PE X o ta) (c:Cls X.K C) (hm:JO X.K C m f) (F:uC X.prog X.w X.K X.mg X.base CX k f fd ps sp) (hr:nM k X.A) (hb:qE X.K fd ps ds) (hd:ja dvs ds) (hx:rp CX X E) (ha:PA X (e::es) t)
  (hst:autoParam (Mj (e::es) X.env=(false,eval e X.env)::Mj es X.env) auR._auto_1) (hpl:autoParam ((MK pos (Mj es X.env)).any (·.1)=false) auR._auto_1)
  (ht:eval (.Call (.Attribute o m apos) (e::es) [] pos) X.env=(do
   let ov<-eval o X.env
   standAt apos.atName
   let(f,first)<-holding [ov] (getMethod ov m pl)
   callWith pos f first (MK pos (Mj (e::es) X.env)) (backToKw pos (Ny [] X.env))):=by rfl):
  PE X (.Call (.Attribute o m apos) (e::es) [] pos) (Fv C m sp dvs E ta t):=by intro pz s σ H Q I h;refine dY (thn (he pz s σ H _ I h) ?_) ht;refine fun u s1=>fL fun x H1=>fae fun I1 rx=>fab fun a dx fs=>fam fun z0 ea l q=>?_;subst z0;obtain rfl:u=Ml a:=rx;refine uA I1 ea c hm l ?_;refine dX I.ok.mod.kin hm.kp (thn (ha pos pz s1 σ H1 _ I1 q) fun us s2 ⟨vs,H2,I2,r,q2⟩=>⟨I2.kIn,?_⟩) hst hpl;exact zd (vs:= .ref a::vs) F hr hb hd hx I2 (.cons rfl r) q2
def jJ {pl:Sem Bool} (he:PE X o ta) (c:Cls X.K C) (hm:JO X.K C m f) (F:uC X.prog X.w X.K X.mg X.base CX k f fd ps sp) (hr:nM k X.A) (hb:qE X.K fd ps ds) (hd:ja dvs ds) (hx:rp CX X E)
  (ht:eval (.Call (.Attribute o m apos) [] [] pos) X.env=(do
   let ov<-eval o X.env
   standAt apos.atName
   let(f,first)<-holding [ov] (getMethod ov m pl)
   callWith pos f first (MK pos (Mj [] X.env)) (backToKw pos (Ny [] X.env))):=by rfl):
  PE X (.Call (.Attribute o m apos) [] [] pos) (Fv C m sp dvs E ta x8):=by intro pz s σ H Q I h;refine dY (thn (he pz s σ H _ I h) ?_) ht;refine fun u s1=>fL fun x H1=>fae fun I1 rx=>fab fun a dx fs=>fam fun z0 ea l q=>?_;subst z0;obtain rfl:u=Ml a:=rx;refine uA I1 ea c hm l ?_;exact PySem.W.callWith_K0 I1.kIn hm.kp (zd (vs:=[.ref a]) F hr hb hd hx I1 (.cons rfl .nil) q)
structure Mk (K:Zp) (C f:Zx):Prop where
 makes:dN K C=true
 init:dG K (.ref C) "__init__"=some (some (.ref f))
 fn:dI K (.ref f)=true
 kp:dQ K (.ref C)=true
def DA{d:St} {Q:VK} (M:Mk X.K C f) (F:uC X.prog X.w X.K X.mg X.base CX k f fd ps sp) (o:nM (k+ 1) X.A) (t:qE X.K fd ps ds) (q:ja dvs ds)
  (n:rp CX X E) (I:Inv X pz d H s) (r:ja vs us)
  (h:∀x b,H x=none->H b=none->b≠x->sp (.ref x::(vs++dvs)) (upd (upd H b (.own x)) x (.ins C b [])) (fun v A=>v= .non/\Q (.ref x) A) E):
  L8 (model X.prog X.w) X.A (call (.ref C) us) (EP X pz d Q) X.xe s:=by
 have i:=h (s.heap.objs.size+ 1) s.heap.objs.size (I.hok.fresh (cP _)) (I.hok.fresh (cJ _)) (cE (cO _));have c:=Inv.made (C:=C) I;have g:ja (V.ref (s.heap.objs.size+ 1)::(vs++dvs)) (Ml (s.heap.objs.size+ 1)::(us++ds)):= .cons rfl (r.append q);have p:(Ml (s.heap.objs.size+ 1)::us++ds).length=ps.length:=by have e:=g.length;rw[F.len _ _ _ _ i]at e;exact e.symm
 refine wpAny_call (Dy I.kIn M.makes M.init (beq_iff_eq.mp M.fn) (codeAny_mono (F.run _ X.stack _ _ ⟨Ml (s.heap.objs.size+ 1)::us,[]⟩ (Ml (s.heap.objs.size+ 1)::(us++ds)) _ _ E (o.make C us [])
  (c.env0.make C us []) (t _ (Ml (s.heap.objs.size+ 1)::us) c.kIn p) g i) fun r j a=>?_))
 cases r with
 |error e=>exact n pz d _ _ e j c a
 |ok w=>
  cases w with
  |ret u=>refine eaj (c.after a) fun v B z l y m=>?_;subst y;exact⟨l,(ii (V.ref (s.heap.objs.size+ 1)) B ⟨z,rfl,m⟩)⟩
  |next=>exact Mt a
  |brk=>exact Mt a
  |cont=>exact Mt a
def va (M:Mk X.K C f) (F:uC X.prog X.w X.K X.mg X.base CX k f fd ps sp) (j:nM (k+ 1) X.A) (m:Gl X x) (l:X.mg x=some (.ref C)) (u:qE X.K fd ps ds) (o:ja dvs ds) (i:rp CX X E)
  (v:PA X (e::es) t) (b:autoParam ((x==("__debug__":Str))=false) auD._auto_1) (n:autoParam (Mj (e::es) X.env=(false,eval e X.env)::Mj es X.env) auR._auto_1) (a:autoParam ((MK pos (Mj es X.env)).any (·.1)=false) auR._auto_1):
  PE X (.Call (.Name x p) (e::es) [] pos) (HF C sp dvs E t):=by intro g s d H Q I h;refine Nm (xU I m l ?_ b);refine dX I.ok.mod.kin M.kp (thn (v pos g s d H _ I h) fun y z ⟨w,A,c,r,q⟩=>⟨c.kIn,?_⟩) n a;exact DA M F j u o i c r q
end
section
variable {X:Cx} {CX:CXT} {k:Nat} {f C:Zx} {fd:Zs} {ps ks:Zd} {sp:Sp} {E:XK} {x m:Str} {p pos apos kpos:Pos} {e o:Zr} {es:List Zr} {kws:List Keyword} {te ta:TE} {t tk:TA} {nm:Option Str}
variable {g:List Zz->List Zz->List Zz} {gV:List V->List V->List V}
end
structure gE (N P:Zd) (sc:Scope):Prop where
 kind:sc.kind= .function
 co:sc.isCoroutine=false
 gen:sc.isGenerator=false
 nd:N.Nodup
 pre:N.take P.length=P
 par:∀x∈P,sc.names.lookup x=some .local\/sc.names.lookup x=some .cell
 nofree:∀y∈sc.names,y.2≠ .free
theorem wA{b:Str->Option NameKind}:∀{a:List (Str×Zz)} {m:Zc},(∀v,(x,v)∉a)->bindL b a m x=m x
 |[],_,_=>rfl
 |(n,v)::r,m,h=>by
  unfold bindL;rw[wA fun w c=>h w (ak _ c)];split
  ·have:x≠n:=by rintro rfl;exact h v aj
   simp[this]
  ·rfl
theorem wB{b:Str->Option NameKind}:∀{a:List (Str×Zz)} {m:Zc},(∀v,(x,v)∉a)->bindC b a m x=m x
 |[],_,_=>rfl
 |(n,v)::r,m,h=>by
  unfold bindC;rw[wB fun w c=>h w (ak _ c)];split;·rfl
  ·have:x≠n:=by rintro rfl;exact h v aj
   simp[this]
theorem wC{a:Str->Option NameKind}:∀{P:Zd} {vs:List Zz} {i:Nat} {m:Zc},P.Nodup->P[i]?=some x->vs[i]?=some v->a x=some .local->
  bindL a (P.zip vs) m x=some v
 |[],_,_,_,_,h,_,_=>by simp at h
 |_::_,[],_,_,_,_,h,_=>by simp at h
 |p::P,w::vs,0,m,nd,h1,h2,hk=>by simp at h1 h2;subst h1;subst h2;show bindL a ((p,w)::P.zip vs) m p=_;unfold bindL;rw[wA fun v b=>(aG.mp nd).1 (aH b).1,ig hk];simp
 |p::P,w::vs,i+ 1,m,nd,h1,h2,hk=>by unfold bindL;exact wC (aG.mp nd).2 (by simpa using h1) (by simpa using h2) hk
theorem wD{a:Str->Option NameKind}:∀{P:Zd} {vs:List Zz} {i:Nat} {m:Zc},P.Nodup->P[i]?=some x->vs[i]?=some v->a x≠some .local->
  bindC a (P.zip vs) m x=some v
 |[],_,_,_,_,h,_,_=>by simp at h
 |_::_,[],_,_,_,_,h,_=>by simp at h
 |p::P,w::vs,0,m,nd,h1,h2,hk=>by simp at h1 h2;subst h1;subst h2;show bindC a ((p,w)::P.zip vs) m p=_;unfold bindC;rw[wB fun v b=>(aG.mp nd).1 (aH b).1,gZ hk];simp
 |p::P,w::vs,i+ 1,m,nd,h1,h2,hk=>by unfold bindC;exact wD (aG.mp nd).2 (by simpa using h1) (by simpa using h2) hk
def rP (N:Zd) (vs:List V):St:=vs.map some++aJ (N.length-vs.length) none
def Dq (i:CXT) (P:Zu) (w:Zv) (K:Zp) (mg:Zc) (base:Zt) (N:Zd) (c:Str) (a:Scope) (f:Zx) (g:Zz) (A:Zw) (outer:List Env) (s:Zy) (H:Hp) (E:XK):Cx where
 prog:=P
 w:=w
 K:=K
 mg:=mg
 base:=base
 A:=A.deeper (envOfC c a s.heap.objs.size f g)
 N:=N
 s₀:=s
 H₀:=H
 env:=envOfC c a s.heap.objs.size f g
 outer:=outer
 stack:=envOfC c a s.heap.objs.size f g::outer
 ex:=[]
 calm:=true
 fn:=fun _=>true
 pn:=[]
 xe:=fun e j=>L8 (model P w) (A.deeper (envOfC c a s.heap.objs.size f g)) (leaving (envOfC c a s.heap.objs.size f g) e) (fun _ d=>i outer H s E e d) (fun k d=>i outer H s E k d) j
def ze{sc:Scope} (h:sc.names.lookup x=some .cell):∃c,(cellsFrom n sc.names []).lookup x=some c:=by have q:=dZ sc.names n [] (.inl h);exact dw.mp q
def wF{K:Zp}
  (S:gE N ps scope) (G:A.handled=none) (g:Fu P w K mg base A outer s H) (L:vs.length=ps.length) (r:ja vs us)
  (x:InCallC s s.heap.objs.size (bindL (envOfC qual scope s.heap.objs.size f cd).kindOf (ps.zip us) fun _=>none) (cellsFrom (s.heap.objs.size+ 1) scope.names []) (bindC (envOfC qual scope s.heap.objs.size f cd).kindOf (ps.zip us) fun _=>none) s1):
  Inv (Dq CX P w K mg base N qual scope f cd A outer s H E) [] (rP N vs) H s1:=by
 have F:ps.length<=N.length:=by have:=congrArg aK S.pre;rw[aM]at this;lia
 refine eah x.done fun o J C B=>?_;subst C;have j:∀b,b∉(Dq CX P w K mg base N qual scope f cd A outer s H E).ex:=fun b z=>absurd (show b∈([]:List Zx)from z) O4;refine⟨⟨g.mod,S.kind,rfl,rfl,cJ _,fun y z c o d=>?_,fun y hy=>?_,fun y c _ h=>?_,fun _=>G,Around.frames_deeper g.frames,.inr ⟨rfl,rfl⟩,fun b z=>absurd z (j b),g.bs,g.bsz,fun b _ _=>j b,fun b z=>absurd z (j b),g.funs,g.frf⟩,
  rfl,g.bare,Un.kept B,⟨_,x.toInCall.ns,fun i y v o d M=>?_⟩,fun y c h=>⟨_,x.cell y c h⟩,g.hok.fresh (cJ _),fun y c h=>?_,fun p m=>absurd (show p∈([]:Za)from m) O4,g.hok.kept B,?_⟩;·exact name_of_addr x.apart (Mn o) (Mn d)
 ·have hy:=hy;rcases hy with hy|hy;·exact ze hy
  ·exact absurd rfl (S.nofree _ (Mn hy))
 ·exact cG (x.above y c (Mn h))
 ·have n:i<vs.length:=by
   unfold rP at d;by_cases n:i<vs.length;·exact n
   ·rw[aN (by simpa using n)]at d;rw[List.getElem?_replicate]at d;split at d<;>cases d
  have I:vs[i]?=some v:=by
   unfold rP at d;rw[aO (by simpa using n),aP]at d
   cases e:vs[i]? with
   |none=>rw[e]at d;cases d
   |some a=>rw[e]at d;cases d;rfl
  refine eaa (r.get I) fun u t D=>?_;have m:ps[i]?=some y:=by rw[<-S.pre,List.getElem?_take_of_lt O2];exact o
  have l:ps.Nodup:=by rw[<-S.pre];exact S.nd.sublist (List.take_sublist _ _)
  refine⟨u,D,?_⟩;rcases S.par y (aQ m)with k|k;·exact .inl ⟨k,wC l m t k⟩
  ·obtain⟨c,e⟩:=ze k;refine .inr ⟨.inl k,c,e,?_⟩;have q:=x.cell y c e;rw[wD l m t (by show scope.names.lookup y≠_;rw[k];decide)]at q;exact q
 ·exact g.hok.fresh (cG (x.above y c (Mn h)))
 ·unfold rP;show _=N.length;rw[aR,aE,List.length_replicate];lia
def J8{K:Zp} {Y:Zz} (lk:K.lookup f=some ⟨oc,od,.func (ee B d i body a dV Y W pm an g ct),osl⟩) (U:eA K g d=true) (S:gE N O a)
  (C:∀vs H Q E,sp vs H Q E->vs.length=O.length)
  (p:∀A c s H vs Q E,nM k (A.deeper (envOfC d a s.heap.objs.size f g))->sp vs H Q E->
   ∃t,PSs (Dq CX P w K mg base N d a f g A c s H E) body t/\t {nx:=fun _ l=>Q .non l,rt:=Q} (rP N vs) H):
  uC P w K mg base CX (k+ 1) f (ee B d i body a dV Y W pm an g ct) O sp:=by
 refine⟨C,fun A c s H Z us vs Q E T G hb r D=>?_⟩;have hl:=C _ _ _ _ D;have KX:=G.mod.kin.keeps fun b o e=>(G.bs b o e).1;have R:=G.mod.nolimit.keeps fun b o e=>(G.bs b o e).1;have m:∀y∈O.zip us,a.names.lookup y.1=some .local\/(a.names.lookup y.1=some .cell/\((cellsFrom (s.heap.objs.size+ 1) a.names []).lookup y.1).isSome=true):=fun⟨n,v⟩ hy=>by
  rcases S.par n (aH hy).1 with q|q;·exact .inl q
  ·exact .inr ⟨q,dZ _ _ _ (.inl q)⟩
 refine codeAny_call_function T.depth (KX _ _ lk) rfl S.co S.gen rfl (eB KX U) (hb _ _ _ _ ?_);refine wpAny_newFunctionEnv_cells S.kind m fun env he X x=>?_;subst he;refine⟨R.keeps x.toInCall.keep,codeAny_func ?_⟩;refine eaa (p A c s H vs Q E (T.deeper _) D) fun t ht hq=>?_;have I:Inv (Dq CX P w K mg base N d a f g A c s H E) [] (rP N vs) H X:=wF S T.hd G hl r x;refine Mp (ht [] X (rP N vs) H _ I hq) (fun fl L z=>?_) fun e L z=>z;have F:∀{h:St} {l:Hp} {v:V} {u:Zz},Inv (Dq CX P w K mg base N d a f g A c s H E) [] h l L->i7 v u->Q v l->CE c P w H s Q u L:=
  fun{h l v u} J M q=>(ii v l ⟨J.os,J.bare,J.base,J.hok,M,q⟩)
 cases fl with
 |ret u=>refine eai z fun v h l J M q=>?_;exact F J M q
 |next=>refine eah z fun h l J q=>?_;exact F (v:=V.non) J rfl q
 |brk=>refine eah z fun _ _ _ q=>?_;exact Mt q
 |cont=>refine eah z fun _ _ _ q=>?_;exact Mt q
section
variable {X:Cx} {x:Str} {p pos:Pos} {e:Zr} {es:List Zr} {t:TA} {id T:String} {r:List V->Hp->VK->Prop}
def tCB (r:List V->Hp->VK->Prop) (t:TA):TE:=fun a H Q=>t a H fun b c=>r b c Q
def gN (u:oG X (.builtin id) r) (o:Gl X x) (n:X.mg x=none) (l:Mq x=some (.builtin id)) (v:PA X (e::es) t) (m:autoParam (x≠"__name__") auD._auto_1) (b:autoParam ((x==("__debug__":Str))=false) auD._auto_1)
  (q:autoParam (Mj (e::es) X.env=(false,eval e X.env)::Mj es X.env) auR._auto_1) (a:autoParam ((MK pos (Mj es X.env)).any (·.1)=false) auR._auto_1):PE X (.Call (.Name x p) (e::es) [] pos) (tCB r t):=by intro d s c H Q I h;refine Nm (qb I o n l ?_ m b);exact PyProof.Rows.callWith_builtin1 (thn (v pos d s c H _ I h) fun g i ⟨f,y,w,j,k⟩=>u d i c y f g Q w j k) q a
def iS (u:oG X (.type T) r) (o:Gl X x) (n:X.mg x=none) (l:Mq x=some (.type T)) (v:PA X (e::es) t) (m:autoParam (x≠"__name__") auD._auto_1) (b:autoParam ((x==("__debug__":Str))=false) auD._auto_1)
  (q:autoParam (Mj (e::es) X.env=(false,eval e X.env)::Mj es X.env) auR._auto_1) (a:autoParam ((MK pos (Mj es X.env)).any (·.1)=false) auR._auto_1):PE X (.Call (.Name x p) (e::es) [] pos) (tCB r t):=by intro d s c H Q I h;refine Nm (qb I o n l ?_ m b);exact fS (thn (v pos d s c H _ I h) fun g i ⟨f,y,w,j,k⟩=>u d i c y f g Q w j k) q a
end
section
variable {κ:Type} [DecidableEq κ]
def jL (a:List (κ×V)) (k:κ):Option V:=(a.find? fun b=>decide (b.1=k)).map (·.2)
def mL (a:List (κ×V)) (k:κ) (v:V):List (κ×V):=
 if(a.any fun b=>decide (b.1=k))=true then a.map (fun b=>if b.1=k then(b.1,v)else b)else a++[(k,v)]
def jd{k:κ} (e:p.1=k):jL (p::r) k=some p.2:=by simp[jL,aS,e]
def jf{k:κ} (e:¬p.1=k):jL (p::r) k=jL r k:=by simp[jL,aS,e]
theorem mq (k:κ):∀a:List (κ×V),(a.any fun b=>decide (b.1=k))=(jL a k).isSome
 |[]=>rfl
 |p::r=>by
  rw[aT];by_cases e:p.1=k;·simp only[jd e,gT e,Bool.true_or,Option.isSome_some]
  ·rw[jf e,hV e,Bool.false_or];exact mq k r
theorem zf (k j:κ) (y:V):∀a:List (κ×V),jL (a.map fun b=>if b.1=k then(b.1,y)else b) j=(jL a j).map fun x=>if j=k then y else x
 |[]=>rfl
 |p::r=>by
  have c:=zf k j y r;rw[aD];by_cases h:p.1=k
  ·rw[ig h];by_cases e:p.1=j;·rw[jd (p:=(p.1,y)) e,jd e,dy,ig (e.symm.trans h)]
   ·rw[jf (p:=(p.1,y)) e,jf e,c]
  ·rw[gZ h];by_cases e:p.1=j;·rw[jd e,jd e,dy,gZ (fun z=>h (e.trans z))]
   ·rw[jf e,jf e,c]
theorem wG (k j:κ) (y:V):∀a:List (κ×V),jL a k=none->jL (a++[(k,y)]) j=if j=k then some y else jL a j
 |[],_=>by
  by_cases e:k=j;·rw[ig e.symm];exact jd e
  ·rw[gZ (fun z=>e z.symm)];exact jf e
 |p::r,hn=>by
  rw[aU];have b:¬p.1=k:=fun z=>by rw[jd z]at hn;cases hn
  rw[jf b]at hn;have c:=wG k j y r hn;by_cases e:p.1=j;·rw[jd e,jd e,gZ (fun z=>b (e.trans z))]
  ·rw[jf e,jf e,c]
def iX (b:List (κ×V)) (k j:κ) (y:V):jL (mL b k y) j=if j=k then some y else jL b j:=by
 unfold mL;by_cases a:(b.any fun c=>decide (c.1=k))=true
 ·rw[ig a,zf];rw[mq]at a;by_cases e:j=k;·obtain⟨x,d⟩:=dw.mp a;rw[ig e,e,d,dy,ig rfl]
  ·rw[gZ e]
   cases jL b j with
   |none=>rfl
   |some x=>rw[dy,gZ e]
 ·rw[gZ a];refine wG k j y b ?_;rw[mq]at a
  cases q:jL b k with
  |none=>rfl
  |some x=>rw[q]at a;exact(a rfl).elim
def iF (a:List (κ×V)) (k:κ) (v:V):(mL a k v).length<=a.length+ 1:=by
 unfold mL;split;·rw[aE];lia
 ·rw[aR,aB,aV];lia
def DB{k:κ} (v:V) (h:jL kvs k=none):mL kvs k v=kvs++[(k,v)]:=by unfold mL;rw[mq,h];exact gZ O3
def uX.isSome_eq {o:Option V} {u:Option Zz} (r:uX o u):o.isSome=u.isSome:=by
 cases o with
 |none=>cases u with
  |none=>rfl
  |some _=>exact(r).elim
 |some _=>cases u with
  |none=>exact(r).elim
  |some _=>rfl
theorem uX.getD {o:Option V} {u:Option Zz} {d:V} {a:Zz} (r:uX o u) (b:i7 d a):i7 (o.getD d) (u.getD a):=by
 cases o with
 |none=>cases u with
  |none=>exact b
  |some _=>exact(r).elim
 |some _=>cases u with
  |none=>exact(r).elim
  |some _=>exact r
def KV.val {a:List (κ×V)} {vs:List (κ×Zz)} (r:KV a vs) (k:κ):uX (jL a k) (valueAt vs k):=by
 unfold KV at r
 induction r with
 |nil=>exact MG
 |@cons p q j c h t g=>
  obtain⟨f,i⟩:=h;by_cases e:p.1=k
  ·have d:=f.symm.trans e;have b:valueAt (q::c) k=some q.2:=by simp[valueAt,aS,d]
   rw[jd e,b];exact i
  ·have d:¬q.1=k:=fun z=>e (f.trans z);have b:valueAt (q::c) k=valueAt c k:=by simp[valueAt,aS,d]
   rw[jf e,b];exact g
theorem KV.any {a:List (κ×V)} {vs:List (κ×Zz)} (r:KV a vs) (k:κ):(a.any fun b=>decide (b.1=k))=vs.any fun b=>decide (b.1=k):=by
 unfold KV at r
 induction r with
 |nil=>rfl
 |cons h t c=>rw[aT,aT,c,h.1]
def KV.repl {b:List (κ×V)} {vs:List (κ×Zz)} (r:KV b vs) (k:κ) {u:Zz} (d:i7 y u):
  KV (b.map fun a=>if a.1=k then(a.1,y)else a) (vs.map fun a=>if a.1=k then(a.1,u)else a):=by
 unfold KV at r⊢
 induction r with
 |nil=>exact .nil
 |@cons p q j i h t f=>
  rw[aD,aD];refine .cons ?_ f;obtain⟨c,g⟩:=h;by_cases e:p.1=k;·rw[ig e,ig (c.symm.trans e)];exact⟨c,d⟩
  ·rw[gZ e,gZ (fun z=>e (c.trans z))];exact⟨c,g⟩
def KV.put {a:List (κ×V)} {vs:List (κ×Zz)} (r:KV a vs) (k:κ) {u:Zz} (b:i7 y u):KV (mL a k y) (stored vs k u):=by
 unfold mL stored;rw[r.any k];by_cases e:(vs.any fun c=>decide (c.1=k))=true;·rw[ig e,ig e];exact r.repl k b
 ·rw[gZ e,gZ e];exact Paired.snoc r ⟨rfl,b⟩
theorem KV.length {a:List (κ×V)} {vs:List (κ×Zz)} (r:KV a vs):a.length=vs.length:=Paired.length r
end
def vb(r:i7 (kV k) u):(jB P w).is k u=true:=by
 cases k with
 |inl i=>obtain⟨t,e⟩:=(r);subst e;exact xS P w i t
 |inr x=>obtain⟨t,e⟩:=(r);subst e;exact xT P w x t
theorem wH:∀{a:List Key} {b:List Zz},ja (a.map kV) b->ItemsAre (jB P w) a b
 |[],_,r=>by rw[aW]at r;cases r;exact .nil
 |k::a,_,r=>by
  rw[aD]at r
  cases r with
  |cons h t=>exact .cons (vb h) (wH t)
abbrev KT (H:Hp):List (List Key×V)->List (List Key×Zx×Zz)->Prop:=Paired fun p q=>p.1=q.1/\H q.2.1=some (.tup (p.1.map kV))/\i7 p.2 q.2.2
def KT.val {a:List (List Key×V)} {xs:List (List Key×Zx×Zz)} (r:KT H a xs) (k:List Key):uX (jL a k) ((atKey xs k).map (·.2)):=by
 induction r with
 |nil=>exact MG
 |@cons p q j c h t g=>
  refine eac h fun f _ i=>?_;by_cases e:p.1=k
  ·have d:=f.symm.trans e;have b:atKey (q::c) k=some q.2:=by simp[atKey,aS,d]
   rw[jd e,b];exact i
  ·have d:¬q.1=k:=fun z=>e (f.trans z);have b:atKey (q::c) k=atKey c k:=by simp[atKey,aS,d]
   rw[jf e,b];exact g
def KT.repl {a:List (List Key×V)} {xs:List (List Key×Zx×Zz)} (r:KT H a xs) (k:List Key) {u:Zz} (f:i7 y u):
  KT H (a.map fun c=>if c.1=k then(c.1,y)else c) (xs.map (putAt k u)):=by
 induction r with
 |nil=>exact .nil
 |@cons p q l j h t g=>
  rw[aD,aD];refine .cons ?_ g;refine eac h fun b d i=>?_;unfold putAt;by_cases e:p.1=k;·rw[ig e,ig (b.symm.trans e)];exact⟨b,d,f⟩
  ·rw[gZ e,gZ (fun z=>e (b.trans z))];exact⟨b,d,i⟩
def KT.put {a:List (List Key×V)} {xs:List (List Key×Zx×Zz)} (r:KT H a xs) (k:List Key) {b:Zx} {u:Zz} (f:H b=some (.tup (k.map kV))) (c:i7 y u):
  KT H (mL a k y) (storedH xs k b u):=by
 have e:(a.any fun d=>decide (d.1=k))=(atKey xs k).isSome:=by rw[mq,(r.val k).isSome_eq,dz]
 unfold mL storedH;rw[e];by_cases q:(atKey xs k).isSome=true;·rw[ig q,ig q];exact r.repl k c
 ·rw[gZ q,gZ q];exact Paired.snoc r ⟨rfl,f,c⟩
def KT.keeps {a:List (List Key×V)} {xs:List (List Key×Zx×Zz)} (r:KT H a xs) (d:∀b c,H b=some (.tup c)->H' b=some (.tup c)):KT H' a xs:=
 Paired.mapP r fun _ _ z=>⟨z.1,d _ _ z.2.1,z.2.2⟩
section
variable {P:Zu} {w:Zv} {H:Hp} {h:Zt} {a:Zx}
def HG(b:HOk P w H h) (e:Rd H a u):kb P w H h a u:=e.ok b
def Bj(c:HOk P w H h) (e:Rd H a (.dK kvs)):kvs.length<=sizeLine/\(a==MB)=false/\∃b,KV kvs b/\h.DictOf (jB P w) a b:=
 show kb P w H h a (.dK kvs)from HG c e
def wI(c:HOk P w H h) (e:H a=some (.dK kvs)):kvs.length<=sizeLine/\(a==MB)=false/\∃b,KV kvs b/\h.DictOf (jB P w) a b:=Bj c (.inl e)
def wJ(c:HOk P w H h) (e:H a=some (.tup (ks.map kV))):(tupleKind (jB P w)).is h ks a:=by refine eab ((show kb P w H h a (.tup (ks.map kV))from c a _ e)) fun _=>faa fun b=>f8 fun r=>faa fun o=>fae fun g f=>faa fun n=>f8 fun d _=>?_;exact iaa o b.toArray n ⟨g,f,d,by simpa using wH r⟩
def Bk(d:HOk P w H h) (e:Rd H a (.dT kvs)):kvs.length<=sizeLine/\(a==MB)=false/\
  ∃b,KT H kvs b/\h.DictOfH (tupleKind (jB P w)) a b:=by
 refine eac ((show kb P w H h a (.dT kvs)from HG d e)) fun z y=>faa fun b=>f8 fun r=>fab fun o u v=>faj fun s n k j i=>?_;refine⟨z,y,b,r,o,u,v,s,n,k,j,fun x hx=>?_,i⟩;have c:∀{l:List (List Key×V)} {m:List (List Key×Zx×Zz)},KT H l m->∀x∈m,(tupleKind (jB P w)).is h x.1 x.2.1:=by
  intro l m q
  induction q with
  |nil=>intro x hx;exact nomatch hx
  |@cons p q B A f t g=>
   intro x hx;rcases ao.mp hx with e|hx;·subst e;exact wJ d (by rw[<-f.1];exact f.2.1)
   ·exact g x hx
 exact c r x hx
def J9(c:HOk P w H h) (e:H a=some (.dT kvs)):kvs.length<=sizeLine/\(a==MB)=false/\
  ∃b,KT H kvs b/\h.DictOfH (tupleKind (jB P w)) a b:=Bk c (.inl e)
end
def vc (H:Hp) (a:Zx) (y:V) (r:Option V):Prop:=
 (∃c k,Rd H a (.dK c)/\y=kV k/\r=jL c k)\/∃c k b,Rd H a (.dT c)/\y= .ref b/\H b=some (.tup (k.map kV))/\r=jL c k
def x9 (H:Hp) (a:Zx) (y v:V) (d:Hp):Prop:=
 (∃c k,H a=some (.dK c)/\y=kV k/\c.length<sizeLine/\d=upd H a (.dK (mL c k v)))\/
 ∃c k b,H a=some (.dT c)/\y= .ref b/\H b=some (.tup (k.map kV))/\c.length<sizeLine/\d=upd H a (.dT (mL c k v))
theorem vc.k {a:Zx} {b:List (Key×V)} {k:Key} (e:H a=some (.dK b)):vc H a (kV k) (jL b k):= .inl (ii b k ⟨.inl e,rfl,rfl⟩)
def vc.t {a b:Zx} {c:List (List Key×V)} {k:List Key} (e:H a=some (.dT c)) (d:H b=some (.tup (k.map kV))):vc H a (.ref b) (jL c k):= .inr (iaa c k b ⟨.inl e,rfl,d,rfl⟩)
theorem x9.k {a:Zx} {b:List (Key×V)} {k:Key} {v:V} (e:H a=some (.dK b)) (c:b.length<sizeLine):x9 H a (kV k) v (upd H a (.dK (mL b k v))):= .inl (ii b k ⟨e,rfl,c,rfl⟩)
def x9.t {a b:Zx} {c:List (List Key×V)} {k:List Key} {v:V} (e:H a=some (.dT c)) (f:H b=some (.tup (k.map kV))) (d:c.length<sizeLine):
  x9 H a (.ref b) v (upd H a (.dT (mL c k v))):= .inr (iaa c k b ⟨e,rfl,f,d,rfl⟩)
section
variable {X:Cx} {pz:Za} {σ:St} {H:Hp} {s:Zy} {a:Zx} {y v:V} {u r:Zz} {o:Option V} {A:Zw} {E:Zb}
def Inv.big (I:Inv X pz σ H s):MB<s.heap.objs.size:=by have h:=(I.mod.glob.keeps I.bk).lt;exact Nat.lt_trans O3 h
def Bl (t:A.units+ 1<M8) (I:Inv X pz σ H s) (g:vc H a y (some v)) (r:i7 y u) (h:∀f q,Inv X pz σ H q->i7 v f->Q f q):
  L8 (model X.prog X.w) A (getItem (.ref a) u) Q E s:=by
 rcases g with⟨i,k,e,n,l⟩|⟨i,k,b,e,n,B,l⟩;·subst n;refine ear (Bj I.hok e) fun z x D d o=>?_;refine eaa (uX.some_of (by rw[l];exact d.val k)) fun f j c=>?_;exact wpAny_getItem_of (vb r) o.mapOf j (h f _ (I.tok _) c)
 ·subst n;cases(r);refine ear (Bk I.hok e) fun z x C d o=>?_;refine eaa (uX.some_of (by rw[l];exact d.val k)) fun f j c=>?_;refine eaa (dA.mp j) fun p w m=>?_;refine wpAny_getItem_heap (NG t) (wJ I.hok B) o w ?_;rw[m];exact h f _ (I.tok _) c
def d_in (p:A.units+ 1<M8) (I:Inv X pz σ H s) (g:vc H a y o) (n:i7 y u) (h:∀m,Inv X pz σ H m->Q (.bool o.isSome) m):
  L8 (model X.prog X.w) A (Mw .In u (.ref a)) Q E s:=by
 rcases g with⟨d,k,e,i,l⟩|⟨d,k,b,e,i,r,l⟩;·subst i;refine ear (Bj I.hok e) fun z f v c j=>?_;refine wpAny_in_of (vb n) f j.mapOf ?_;rw[<-(c.val k).isSome_eq,<-l];exact h _ (I.tok _)
 ·subst i;cases(n);refine ear (Bk I.hok e) fun z f t c j=>?_;refine wpAny_in_heap (NG p) (wJ I.hok r) f j ?_;have q:=(c.val k).isSome_eq;rw[dz]at q;rw[<-q,<-l];exact h _ (I.tok _)
def Fy (p:A.units+ 1<M8) (I:Inv X pz σ H s) (g:vc H a y o) (n:i7 y u) (h:∀m,Inv X pz σ H m->Q (.bool (!o.isSome)) m):
  L8 (model X.prog X.w) A (Mw .NotIn u (.ref a)) Q E s:=by
 rcases g with⟨d,k,e,i,l⟩|⟨d,k,b,e,i,r,l⟩;·subst i;refine ear (Bj I.hok e) fun z f v c j=>?_;refine wpAny_notIn_of (vb n) f j.mapOf ?_;rw[<-(c.val k).isSome_eq,<-l];exact h _ (I.tok _)
 ·subst i;cases(n);refine ear (Bk I.hok e) fun z f t c j=>?_;refine wpAny_notIn_heap (NG p) (wJ I.hok r) f j ?_;have q:=(c.val k).isSome_eq;rw[dz]at q;rw[<-q,<-l];exact h _ (I.tok _)
def sr(I:Inv X pz σ H s) (d:Mut (H a)) (e:NC a s.heap h') (f:∃q,h'.get? a=some q) (c:kb X.prog X.w (upd H a ob) h' a ob):
  Inv X pz σ (upd H a ob) {s with heap:=h',toks:=t'}:=
 I.write d (.inl rfl) (fun b q g z=>(e.2 b g).trans z) f c
def su(z:kvs.length<=sizeLine) (c:(a==MB)=false) (b:KV kvs vs) (d:h'.DictOf (jB P w) a vs):
  kb P w H' h' a (.dK kvs):=⟨z,c,vs,b,d⟩
def Bm {Q:Unit->Zy->Prop} (M:A.units+ 1<M8) (I:Inv X pz σ H s) (g:x9 H a y v H') (B:i7 y u) (C:i7 v r) (h:∀x,Inv X pz σ H' x->Q () x):
  L8 (model X.prog X.w) A (setItem (.ref a) u r) Q E s:=by
 rcases g with⟨f,k,e,p,l,t⟩|⟨f,k,b,e,p,G,l,t⟩
 ·subst p t;refine ear (wI I.hok e) fun z o K d w=>?_;have L:K.length<=sizeLine:=by rw[<-d.length];exact z
  have n:(mL f k v).length<=sizeLine:=by have:=iF f k v;lia
  refine wpAny_setItem_pairs (vb B) w fun D i m=>h _ ?_;have N:∃q,D.get? a=some q:=let⟨q,_,_,j,_⟩:=i;⟨q,j⟩;exact sr I (by rw[e];exact MG) m N (su n o (d.put k C) i)
 ·subst p t;cases(B);refine ear (J9 I.hok e) fun z o J d w=>?_;have L:J.length<=sizeLine:=by rw[<-Paired.length d];exact z
  have n:(mL f k v).length<=sizeLine:=by have:=iF f k v;lia
  refine wpAny_setItem_heap (NG M) (wJ I.hok G) w fun D i m=>h _ ?_;refine eag i fun q T U=>fag fun j S R P _ O=>?_;refine sr I (by rw[e];exact MG) m ⟨q,j⟩ ⟨n,o,_,(d.put k G C).keeps fun c V F=>?_,q,T,U,j,S,R,P,O⟩;rw[gy (lU F e (fun z=>nomatch z))];exact F
end
section
variable {X:Cx} {pz:Za} {σ:St} {H:Hp} {s:Zy} {a:Zx} {kvs:List (Key×V)} {k:Key} {u:Zz} {A:Zw} {E:Zb}
end
def Ka (i:Zr):Prop:=∀a b,subscripted i false a b=operate [a,b] (getItem a b)
def Bn{E:Zb} {id:String}
  (l:typeLookup (.type T) "__getitem__"=pure (some (.builtin id))) (k:Ka slice)
  (h:L8 (model prog w) A (eval value env) (fun o d=>L8 (model prog w) A (eval slice env) (fun i a=>a.TypeIs o T/\L8 (model prog w) A (getItem o i) Q E a) E d) E s):
  L8 (model prog w) A (eval (.Subscript value slice pos) env) Q E s:=by
 refine Subscript_ (Mp h (fun o d g=>Mp g (fun i a b=>?_) fun _ _ x=>x) fun _ _ x=>x);obtain⟨j,b⟩:=b;unfold subscriptTail;refine C8 ?_;rw[getitemInPython_of_ne j.not_modules];refine C8 (wpAny_specialOf j l ?_);have e:L8 (model prog w) A (subscripted slice false o i) (fun r c=>L8 (model prog w) A (letTemporaryGo value o r >>= fun _=>pure r) Q E c) E a:=by rw[k o i];exact wpAny_operating (Mp b (fun r c f=>C8 (wpAny_letTemporaryGo (Ma f))) fun _ _ x=>x)
 first
  |exact Ma (C8 e)
  |exact C8 (Ma (C8 e))
  |exact C8 e
def ya{f:St} (I:Inv X pz f H s) (g:vc H a y o):s.TypeIs (.ref a) "dict":=by
 rcases g with⟨c,k,e,_,_⟩|⟨c,k,b,e,_,_,_⟩;·refine ear (Bj I.hok e) fun _ _ i _ d=>?_;exact d.typeIs
 ·refine ear (Bk I.hok e) fun _ _ h _ d=>?_;exact d.typeIs
def Kb (e d:TE):TE:=fun b H Q=>e b H fun x f=>d b f fun y c=>∃a v,x= .ref a/\vc c a y (some v)/\Q v c
def tDIn (d e:TE):TE:=fun b H Q=>d b H fun y f=>e b f fun x c=>∃a o,x= .ref a/\vc c a y o/\Q (.bl o.isSome) c
def FA (d e:TE):TE:=fun b H Q=>d b H fun y f=>e b f fun x c=>∃a o,x= .ref a/\vc c a y o/\Q (.bl (!o.isSome)) c
def Kc (f d e:TE):TS:=fun D b H=>e b H fun v i=>f b i fun x h=>d b h fun y g=>∃a c,x= .ref a/\x9 g a y v c/\D.nx b c
section
variable {X:Cx} {o i e value:Zr} {pos pos' tpos:Pos} {td ty tv:TE}
def vd (hu:X.A.units+ 1<M8) (ho:PE X o td) (hi:PE X i ty) (hs:Ka i:=by exact fun _ _=>rfl):PE X (.Subscript o i pos) (Kb td ty):=by intro pz s σ H Q I h;refine Bn eK.lookup hs (thn (ho pz s σ H _ I h) fun u s1 ⟨x,H1,I1,rx,q1⟩=>thn (hi pz s1 σ H1 _ I1 q1) ?_);refine fun iv s2=>fL fun y H2=>fae fun I2 ry=>fL fun a v=>fae fun z0 g q2=>?_;subst z0;obtain rfl:u=Ml a:=rx;exact⟨ya I2 g,Bl hu I2 g ry fun w' s3 I3 rw'=>(ii v H2 ⟨I3,rw',q2⟩)⟩
def zh (n:X.A.units+ 1<M8) (q:PE X i ty) (p:PE X o td):PC X .In i o (tDIn ty td):=by intro c s b H Q I h;refine thn (q c s b H _ I h) fun C e ⟨y,z,v,f,l⟩=>thn (p c e b z _ v l) ?_;refine fun u B=>fL fun x w=>fae fun t j=>fL fun a m=>fae fun d g k=>?_;subst d;obtain rfl:u=Ml a:=j;exact d_in n t g f fun A r=>(ii (.bl m.isSome) w ⟨r,rfl,k⟩)
def Bo (n:X.A.units+ 1<M8) (q:PE X i ty) (p:PE X o td):PC X .NotIn i o (FA ty td):=by intro c s b H Q I h;refine thn (q c s b H _ I h) fun C e ⟨y,z,v,f,l⟩=>thn (p c e b z _ v l) ?_;refine fun u B=>fL fun x w=>fae fun t j=>fL fun a m=>fae fun d g k=>?_;subst d;obtain rfl:u=Ml a:=j;exact Fy n t g f fun A r=>(ii (.bl (!m.isSome)) w ⟨r,rfl,k⟩)
def nN (t:X.A.units+ 1<M8) (z:PE X o td) (A:PE X i ty) (q:PE X value tv) (w:ND value (some (.Subscript o i pos')) pos.line X.env=pure false):
  PS X (.Assign [.Subscript o i pos'] value pos) (Kc td ty tv):=by intro c s b H D I h;refine wpAny_Assign_Subscript (thn (q c s b H _ I h) fun r f ⟨v,K,F,l,p⟩=>thn (z c f b K _ F p) fun u e ⟨x,J,E,k,n⟩=>thn (A c e b J _ E n) ?_) w;refine fun N M=>fL fun y O=>fae fun C j=>fL fun a G=>fae fun d g m=>?_;subst d;obtain rfl:u=Ml a:=k;exact Bm t C g j l fun L B=>(ii b G ⟨B,m⟩)
end
def DC(h:Zt) (a:MB<h.objs.size):kb P w H (h.push {cls:= .type "dict",data:= .dict #[]}) h.objs.size (.dK []):=
 ⟨cK _,beq_eq_false_iff_ne.mpr (Mu (cE a)),[],.nil,Heap.DictOf.new h⟩
def DD(h:Zt) (a:MB<h.objs.size):kb P w H (h.push {cls:= .type "dict",data:= .dict #[]}) h.objs.size (.dT []):=
 ⟨cK _,beq_eq_false_iff_ne.mpr (Mu (cE a)),[],.nil,_,#[],0,fK _ rfl,⟨rfl,rfl,rfl⟩,rfl,rfl,aX⟩
def HH:TE:=fun _ H Q=>∀p,H p=none->Q (.ref p) (upd H p (.dK []))
def HI:TE:=fun _ H Q=>∀p,H p=none->Q (.ref p) (upd H p (.dT []))
section
variable {X:Cx} {pos:Pos}
def qf:PE X (.Dict [] [] pos) HH:=fun b s a H Q I h=>
 wpAny_Dict_empty (ii (.ref s.heap.objs.size) _ ⟨I.laid (fun _ _ q=>fM _ q) (cJ _) (DC s.heap I.big),rfl,h _ (I.hok.fresh (cJ _))⟩)
def DE:PE X (.Dict [] [] pos) HI:=fun b s a H Q I h=>
 wpAny_Dict_empty (ii (.ref s.heap.objs.size) _ ⟨I.laid (fun _ _ q=>fM _ q) (cJ _) (DD s.heap I.big),rfl,h _ (I.hok.fresh (cJ _))⟩)
end
def kq (b a:List (Key×V)):List (Key×V):=a.foldl (fun c d=>mL c d.1 d.2) b
def KV.merge:∀{a:List (Key×V)} {c:List (Key×Zz)} {b:List (Key×V)} {vs:List (Key×Zz)},KV a c->KV b vs->KV (kq b a) (merged vs c):=by
 intro a c b vs r;unfold KV at r
 induction r generalizing b vs with
 |nil=>intro q;exact q
 |@cons p q i g h t f=>
  intro d;have e:KV (mL b p.1 p.2) (stored vs q.1 q.2):=by have:=d.put p.1 h.2;rw[<-h.1];exact this
  exact f e
theorem mP:∀b a,(kq a b).length<=a.length+b.length
 |[],a=>by show a.length<=a.length+ 0;lia
 |p::r,a=>by have d:=mP r (mL a p.1 p.2);have c:=iF a p.1 p.2;show(kq (mL a p.1 p.2) r).length<=_;rw[aB];lia
structure M1 (X:Cx) (o:Zr) (m:Str) (apos:Pos) (e:Zr) (cpos:Pos):Prop where
 base:M9 o m X.env (eval o X.env)=eval o X.env
 few:((MK cpos (Mj [e] X.env)).all (fun x=>!x.1)&&(backToKw cpos (Ny [] X.env)).all (fun x=>x.1.isSome)
  &&decide (([e]:List Zr).length+([]:List Keyword).length+(if([]:List Keyword).isEmpty then 0 else 1)<30))=true
 line:(apos.endLine==cpos.line)=true
 trees:MK cpos (Mj [e] X.env)=[(false,eval e X.env)]
structure M2 (X:Cx) (o:Zr) (m:Str) (apos:Pos) (e f:Zr) (cpos:Pos):Prop where
 base:M9 o m X.env (eval o X.env)=eval o X.env
 few:((MK cpos (Mj [e,f] X.env)).all (fun x=>!x.1)&&(backToKw cpos (Ny [] X.env)).all (fun x=>x.1.isSome)
  &&decide (([e,f]:List Zr).length+([]:List Keyword).length+(if([]:List Keyword).isEmpty then 0 else 1)<30))=true
 line:(apos.endLine==cpos.line)=true
 trees:MK cpos (Mj [e,f] X.env)=[(false,eval e X.env),(false,eval f X.env)]
section
variable {X:Cx} {pz:Za} {σ:St} {H:Hp} {s:Zy} {a:Zx} {y d:V} {u r:Zz} {o:Option V} {A:Zw} {E:Zb}
end
section
variable {X:Cx} {o e f:Zr} {apos cpos:Pos} {td ty tx:TE}
end
section
variable {X:Cx} {pz:Za} {σ:St} {H:Hp} {s:Zy} {a:Zx} {kvs:List (Key×V)} {A:Zw} {E:Zb}
end
section
variable {X:Cx} {pz:Za} {σ:St} {H:Hp} {s:Zy} {a:Zx} {y:V} {u:Zz} {A:Zw} {E:Zb}
end
end L2.Internal
namespace HT.Internal
open PySem PyProof.Rows
section
open PySem.SeqAt
open PySem.AutoSeq1 (wpAny_loadPart')
open PySem.MeetsSeq PySem.MeetsSeq2 PySem.MeetsSeq3
end
section
variable {prog:Zu} {w:Zv} {A:Zw} {E:Zb} {s:Zy}
def cat_tup{Q:Zb} (v:IsTup s.heap t vs.toArray) (x:IsTup s.heap b ws.toArray) (m:vs≠[])
  (z:ws=[]->Q (.ref t) s) (y:ws≠[]->Q (.ref s.heap.objs.size) {s with heap:=s.heap.push {cls:= .type "tuple",data:= .seq (vs++ws).toArray}})
  (i:vs.length+ws.length<=sizeLine):L8 (model prog w) A (MF .Add (.ref t) (.ref b)) Q E s:=by
 obtain⟨⟨B,q,r,k⟩,h,p,n,o⟩:=id v;obtain⟨⟨u,g,j,c⟩,a,f,l,d⟩:=id x;simp only at p o f d;subst p o f d;have e:vs.toArray++ws.toArray=(vs++ws).toArray:=by simp
 by_cases hw:ws=[]
 ·exact concat_meets ⟨_,h,rfl⟩ ⟨_,a,rfl⟩ noFill_tuple_add seq_tuple_add eN eO (eP _ _)
   (tuple_addW1 t b vs.toArray ws.toArray n l q g k c (by simpa using m) (by simp[hw])) ⟨h,a,z hw⟩
 ·refine concat_meets ⟨_,h,rfl⟩ ⟨_,a,rfl⟩ noFill_tuple_add seq_tuple_add eN eO (eP _ _)
   (tuple_addW2 t b vs.toArray ws.toArray n l q g k c (by simpa using m) (by simpa using hw) (by rw[aY,aY];exact i)) ⟨h,a,?_⟩;rw[e];exact y hw
def sIx (n d:Nat):Option Int->Nat
 |none=>d
 |some v=>if v<0 then(v+(n:Int)).toNat else min v.toNat n
def sIx_none (n d:Nat):sIx n d none=d:=rfl
def sIx_nat (n d k:Nat):sIx n d (some (k:Int))=min k n:=by show(if(k:Int)<0 then((k:Int)+(n:Int)).toNat else min (k:Int).toNat n)=min k n;rw[gZ O2,fA]
def HJ (n d:Nat) (a:d<=n) (o:Option Int):sIx n d o<=n:=by
 cases o with
 |none=>exact a
 |some v=>
  show(if v<0 then(v+(n:Int)).toNat else min v.toNat n)<=n;by_cases hv:v<0;·rw[ig hv];lia
  ·rw[gZ hv];exact Nat.min_le_right _ _
def Bp (v:Int) (n d:Nat):(if v<0 then max (v+(n:Int)) 0 else min v (n:Int))=((sIx n d (some v):Nat):Int):=by
 show(if v<0 then max (v+(n:Int)) 0 else min v (n:Int))=(((if v<0 then(v+(n:Int)).toNat else min v.toNat n):Nat):Int);by_cases hv:v<0;·simp only[ig hv];lia
 ·simp only[gZ hv];lia
def Ae (b c:Option Int) (n:Nat):NB b c 1 (n:Int)=(((sIx n 0 b:Nat):Int),((sIx n n c:Nat):Int)):=by
 have d:¬((1:Int)<0):=O2
 unfold NB;simp only[d,if_false];refine Prod.ext ?_ ?_
 ·cases b with
  |none=>rfl
  |some v=>exact Bp v n 0
 ·cases c with
  |none=>rfl
  |some v=>exact Bp v n n
def Af (i j:Nat):Ni (i:Int) (j:Int) 1=j-i:=by
 unfold Ni;have a:(1:Int)>0:=O2
 simp only[a,if_true,Int.ediv_one];split<;>lia
def uD(p:IsPart v o) (h:Q o s):L8 (model prog w) A (Builtin.Slice.slicePartIndex v) Q E s:=by
 cases p with
 |none=>exact slicePart_none h
 |int i t=>exact slicePart_int h
def rQ{b:Option Int} {Q:Int×Int×Nat->Zy->Prop} (i:s.heap.IsSliceOf sl vl vu .none) (g:IsPart vl b) (f:IsPart vu e)
  (h:Q (((sIx n 0 b:Nat):Int),1,sIx n n e-sIx n 0 b) s):L8 (model prog w) A (Builtin.Slice.sliceApplied (.ref sl) (pure (n:Int))) Q E s:=by refine eak (id i) fun k c j d=>?_;unfold Builtin.Slice.sliceApplied Builtin.Slice.sliceFields;refine C8 (C8 (Mz c d rfl (C8 (Mz c d rfl (C8 (Mz c d rfl (Ma ?_)))))));refine C8 (slicePart_none ?_);rw[gZ O3];refine C8 (uD g (C8 (uD f (C8 (Ma ?_)))));show L8 _ _ (match NB b e 1 (n:Int)with|(b,e)=>pure (b,(1:Int),Ni b e 1)) _ _ s;rw[Ae b e n];show L8 _ _ (pure (((sIx n 0 b:Nat):Int),(1:Int),Ni ((sIx n 0 b:Nat):Int) ((sIx n n e:Nat):Int) 1)) _ _ s;rw[Af];exact Ma h
def DF (xs:Array Zz) (i k:Nat):((aa k).filterMap fun(m:Nat)=>xs[((i:Int)+(m:Int)*1).toNat]?).toArray=((xs.toList.drop i).take k).toArray:=by
 have e:(fun(m:Nat)=>xs[((i:Int)+(m:Int)*1).toNat]?)=fun m=>xs[i+m]?:=by
  funext m;have:((i:Int)+(m:Int)*1).toNat=i+m:=O2
  rw[this]
 rw[e];have:=pick_run xs i k;rw[List.filterMap_map]at this;have a:((fun x=>xs[x]?)∘fun x=>i+x)=fun m=>xs[i+m]?:=rfl;rw[a]at this;rw[this]
def getItem_tuple_cut{d:Option Int} {Q:Zb} (e:IsTup s.heap t a) (k:s.heap.IsSliceOf sl vl vu .none) (m:IsPart vl d) (l:IsPart vu hi)
  (o:¬(sIx a.size 0 d=0/\sIx a.size a.size hi=a.size))
  (h:Q (.ref s.heap.objs.size) {s with heap:=s.heap.push {cls:= .type "tuple",data:= .seq ((a.toList.drop (sIx a.size 0 d)).take (sIx a.size a.size hi-sIx a.size 0 d)).toArray}})
  (p:a.size<=sizeLine):L8 (model prog w) A (getItem (.ref t) (.ref sl)) Q E s:=by
 have c:sizeOk (.seq ((a.toList.drop (sIx a.size 0 d)).take (sIx a.size a.size hi-sIx a.size 0 d)).toArray):=by show((a.toList.drop (sIx a.size 0 d)).take (sIx a.size a.size hi-sIx a.size 0 d)).toArray.size<=sizeLine;rw[aY,aM,aZ,fq];lia
 have x:sIx a.size a.size hi<=a.size:=HJ _ _ (cJ _) hi;refine eak (id k) fun n f i r=>?_;have j:s.TypeIs (.ref sl) "slice":=⟨n,f,i⟩;unfold getItem;try with_reducible refine MQ ?_
 first|refine C8 (Ma ?_)|skip
 refine C8 (wpAny_sequenceKey e.typeIs O3 ?_);refine C8 (MT e.typeIs fU
  (Nq fU e.typeIs entry_tuple_getitem ?_ (args_tuple_getitem _ _)));show L8 _ _ (Builtin.Tuple.tupleItemsOf (.ref t) >>= _) _ _ s;refine C8 (tupleItemsOf_ e ?_);refine C8 (NI j ?_);rw[ig O3];refine C8 (rQ k m l ?_);have g:¬((((sIx a.size 0 d:Nat):Int)==0&&(1:Int)==1&&(sIx a.size a.size hi-sIx a.size 0 d)==a.size)=true):=by intro q;rw[fg,fg]at q;have v:=eq_of_beq q.1.1;have u:=eq_of_beq q.2;exact o ⟨O2,O2⟩
 show L8 _ _ (if(((sIx a.size 0 d:Nat):Int)==0&&(1:Int)==1&&(sIx a.size a.size hi-sIx a.size 0 d)==a.size)=true then _ else _) _ _ s;rw[gZ g,DF];first
  |exact C8 (MI (Ma ⟨_,rfl,Ma h⟩) c)
  |exact C8 (MI (C8 (Ma (Ma ⟨_,rfl,Ma h⟩))) c)
  |exact C8 (C8 (MI (Ma (Ma ⟨_,rfl,Ma h⟩)) c))
  |exact C8 (C8 (MI (Ma ⟨_,rfl,Ma h⟩) c))
end
end HT.Internal
namespace L2.Internal
variable {xs:List V} {us its:List Zz} {n:Nat} {v:Zz} {pz:Za} {σ:St} {H:Hp}
open PySem PySem.Spec PyProof.Rows
abbrev TO:=St->Hp->(Option Int->Hp->Prop)->Prop
def PO (X:Cx) (e:Option Zr) (t:TO):Prop:=
 ∀b s (a:St) H Q,Inv X b a H s->t a H Q->
  L8 (model X.prog X.w) X.A (evalPart e X.env) (fun u d=>∃o c,Inv X b a c d/\IsPart u o/\Q o c) X.xe s
def Bq:TO:=fun _ H Q=>Q none H
def HK (t:TE):TO:=fun a H Q=>t a H fun x b=>∃i,x= .int i/\Q (some i) b
def Ag:∀{a:List Zz},ja (b.map V.int) a->IntsAre a b:=by
 induction b with
 |nil=>intro a r;rw[aW]at r;cases r;exact .nil
 |cons n b f=>
  intro a r;rw[aD]at r
  cases r with
  |cons d c=>obtain⟨t,e⟩:=d;subst e;exact .cons n t (f c)
section
variable {X:Cx} {e:Zr} {te:TE} {lo hi:Option Zr} {tl th:TO} {pos p2:Pos}
def jE:PO X none Bq:=by intro b s a H Q I h;rw[evalPart_none];exact Ma (ii none H ⟨I,.none,h⟩)
def jF (h:PE X e te):PO X (some e) (HK te):=by intro f s a H Q I g;rw[evalPart_some];refine thn (h f s a H _ I g) ?_;refine fun u l=>fac fun x k j c d=>?_;refine eaa d fun i b q=>?_;subst b;obtain⟨t,rfl⟩:=c;exact ii (some i) k ⟨j,.int i t,q⟩
def SlR (X:Cx) (r:V->Option Int->Option Int->Hp->VK->Prop):Prop:=
 ∀e s (a:St) H x v c b f g d Q,Inv X e a H s->i7 x v->s.heap.IsSliceOf d c b .none->IsPart c f->IsPart b g->r x f g H Q->
  ∃T id,typeLookup (.type T) "__getitem__"=pure (some (.builtin id))/\s.TypeIs v T/\L8 (model X.prog X.w) X.A (getItem v (.ref d)) (EP X e a Q) X.xe s
def tSl (r:V->Option Int->Option Int->Hp->VK->Prop) (d:TE) (b c:TO):TE:=fun a H Q=>d a H fun x g=>b a g fun l f=>c a f fun u e=>r x l u e Q
def iY(A:SlR X r) (D:PE X e te) (B:PO X lo tl) (y:PO X hi th):PE X (.Subscript e (.Slice lo hi none p2) pos) (tSl r te tl th):=by intro d s a H Q I h;refine Subscript_ (thn (D d s a H _ I h) ?_);refine fun v k=>fac fun x M K m p=>?_;refine wpAny_Slice (thn (B d k a M _ K p) fun g j ⟨l,L,J,w,o⟩=>thn (y d j a L _ J o) ?_);refine fun f c=>fac fun u i G t n=>?_;rw[evalPart_none];refine Ma ?_;have F:Inv X d a i {c with heap:=c.heap.push {cls:= .type "slice",data:= .fields #[g,f,.none]}}:=G.kept fun b N q=>fM _ q;refine eap (A d {c with heap:=c.heap.push {cls:= .type "slice",data:= .fields #[g,f,.none]}} a i x v g f l u c.heap.objs.size Q F m (Heap.IsSliceOf.new ..) w t n) fun T id E z C=>?_;exact tail_any z E C (by with_unfolding_all rfl)
def nO (xs:List V) (a b:Option Int):List V:=(xs.drop (HT.Internal.sIx xs.length 0 a)).take (HT.Internal.sIx xs.length xs.length b-HT.Internal.sIx xs.length 0 a)
def sv (xs:List V) (a b:Option Int):(nO xs a b).length<=xs.length:=by unfold nO;rw[aM,aZ];lia
def rSlT (K:Zp):V->Option Int->Option Int->Hp->VK->Prop:=fun x c d H Q=>∃a b,x= .ref a/\SqT K H a b/\
 ¬(HT.Internal.sIx b.length 0 c=0/\HT.Internal.sIx b.length b.length d=b.length)/\∀p,H p=none->Q (.ref p) (upd H p (.tup (nO b c d)))
def Ep:SlR X (rSlT X.K):=by
 intro A s u H x v y w e j z Q I l t n m h;refine eaj h fun a d k o p q=>?_;subst k;cases l;refine eak (I.tuple o) fun f r i g=>?_;have c:f.toArray.size=d.length:=by rw[aY];exact r.length.symm
 refine ii ("tuple") _ ⟨fU.lookup,i.typeIs,?_⟩;refine HT.Internal.getItem_tuple_cut i t n m (by rw[c];exact p) ?_ (by rw[c];exact g);rw[c];refine ii (.ref s.heap.objs.size) _ ⟨I.laid (fun b B q=>fM _ q) (cJ _) ?_,rfl,q _ (I.hok.fresh (cJ _))⟩;exact⟨cF (sv d e j) g,_,(r.drop (HT.Internal.sIx d.length 0 e)).take (HT.Internal.sIx d.length d.length j-HT.Internal.sIx d.length 0 e),y8.new _ _⟩
def Kd (K:Zp):R2:=fun x y H Q=>∃a b d c,x= .ref a/\y= .ref b/\SqT K H a d/\SqT K H b c/\d≠[]/\d.length+c.length<=sizeLine/\
 (c=[]->Q (.ref a) H)/\(c≠[]->∀p,H p=none->Q (.ref p) (upd H p (.tup (d++c))))
def ja.nil_iff (r:ja xs us):us=[]↔xs=[]:=by
 cases r with
 |nil=>simp
 |cons _ _=>simp
def FC:OpR X (MF .Add) (Kd X.K):=by intro E s B H x y v u Q I k j h;refine ead h fun a b D C=>fan fun i g A t r f m l=>?_;subst i;subst g;cases k;cases j;refine eak (I.tuple A) fun p d o _=>?_;refine eak (I.tuple t) fun e c n _=>?_;refine HT.Internal.cat_tup o n (fun z=>r (d.nil_iff.mp z)) (fun z=>(ii (.ref a) H ⟨I,rfl,m (c.nil_iff.mp z)⟩)) (fun z=>?_) (by rw[<-d.length,<-c.length];exact f);refine ii (.ref s.heap.objs.size) _ ⟨I.laid (fun b F q=>fM _ q) (cJ _) ?_,rfl,l (fun w=>z (c.nil_iff.mpr w)) _ (I.hok.fresh (cJ _))⟩;exact⟨by rw[aR];exact f,_,d.append c,y8.new _ _⟩
end
def ixN (n:Nat) (i:Int):Option Nat:=if 0<=i then(if i<n then some i.toNat else none)else if-(n:Int)<=i then some (i+n).toNat else none
def atI {a:Type} (xs:List a) (i:Int):Option a:=(ixN xs.length i).bind fun j=>xs[j]?
def Br(h:ixN n i=some j):seqIndex? i n=some j/\j<n/\-(n:Int)<=i/\i<n:=by
 unfold ixN at h;by_cases h0:0<=i
 ·rw[ig h0]at h;by_cases h1:i<n;·rw[ig h1]at h;have e:=du.inj h;exact⟨by rw[seqIndex_of h0 h1,e],O2,O2,h1⟩
  ·rw[gZ h1]at h;cases h
 ·rw[gZ h0]at h;by_cases h1: -(n:Int)<=i;·rw[ig h1]at h;have e:=du.inj h;exact⟨by rw[seqIndex_neg O2 h1,e],O2,h1,O2⟩
  ·rw[gZ h1]at h;cases h
def yc{xs:List α} {v:α} (h:atI xs i=some v):∃j,seqIndex? i xs.length=some j/\xs[j]?=some v/\j<xs.length/\-(xs.length:Int)<=i/\i<xs.length:=by
 unfold atI at h
 cases e:ixN xs.length i with
 |none=>rw[e]at h;cases h
 |some j=>rw[e]at h;refine ean (Br e) fun d c b a=>?_;exact⟨j,d,h,c,b,a⟩
def fZ{xs:List α} {j:Nat} {v:α} (h:xs[j]?=some v):atI xs (j:Int)=some v:=by
 have a:=(av.mp h).1;have e:ixN xs.length (j:Int)=some j:=by unfold ixN;rw[ig O2,ig O2];simp
 unfold atI;rw[e];exact h
def FD (b:Zr):Prop:=∀o i,subscripted b false o i=operate [o,i] (getItem o i)
def IxR (X:Cx) (r:R2):Prop:=
 ∀b a d s (c:St) H x y v u Q,Inv X d c H s->i7 x v->i7 y u->r x y H Q->
  subscripted a false v u=operate [v,u] (getItem v u)->L8 (model X.prog X.w) X.A (subscriptTail b a v u) (EP X d c Q) X.xe s
def MtR (X:Cx) (id:String) (r:V->List V->Hp->VK->Prop):Prop:=
 ∀d s (a:St) H x b v c Q,Inv X d a H s->i7 x v->ja b c->r x b H Q->
  L8 (model X.prog X.w) X.A (call (.builtin id) (v::c)) (EP X d a Q) X.xe s
section
variable {X:Cx} {a b:Zr} {ta tb:TE} {pos:Pos}
def gk {r:R2} (hr:IxR X r) (ha:PE X a ta) (hb:PE X b tb) (hs:FD b:=by exact fun _ _=>rfl):PE X (.Subscript a b pos) (tOp r ta tb):=by intro pz s σ H Q I h;exact Subscript_ (J6 ha hb I h fun v u s2 x y H2 I2 rx ry q=>hr a b pz s2 σ H2 x y v u Q I2 rx ry q (hs _ _))
def rIxL (K:Zp):R2:=fun x y H Q=>∃p a i v,x= .ref p/\y= .int i/\SqL K H p a/\atI a i=some v/\Q v H
def rIxT (K:Zp):R2:=fun x y H Q=>∃p a i v,x= .ref p/\y= .int i/\SqT K H p a/\atI a i=some v/\Q v H
def rIxS:R2:=fun x y H Q=>∃z i c,x= .str z/\y= .int i/\z.length<=sizeLine/\atI z.cps.toList i=some c/\Q (.str ⟨#[c]⟩) H
def Bs:IxR X (rIxL X.K):=by
 intro d e F s A H x y v u Q I E D h m;refine ead h fun p O i z=>faj fun C B G K q=>?_;subst C;subst B;cases E;obtain⟨t,rfl⟩:=D;refine eak (I.list G) fun k r g P=>?_;refine eal (yc K) fun j=>faj fun c N S M L=>?_;refine eaa (r.get N) fun w o f=>?_;have J:=r.length;have R:=uv;have b:EP X F A Q w s:=⟨z,H,I,f,q⟩;by_cases n:0<=i
 ·have l:i.toNat=j:=by rw[seqIndex_of n L]at c;exact du.inj c
  exact item_listR g.isList n O2 (by rw[l];simpa using o) b m
 ·have l:(i+(k.toArray.size:Int)).toNat=j:=by rw[seqIndex_neg O2 M]at c;rw[aY,<-J];exact du.inj c
  exact subscriptTail_builtinR g.isList.typeIs slot_list_getitem.lookup
   (wpAny_getItem_list_neg g.isList O2 (by rw[aY]<;>lia) O2 (by rw[l];simpa using o) ⟨rfl,b⟩) m
def HL:IxR X (rIxT X.K):=by
 intro a b n s f H x y v u Q I m l h A;refine ead h fun p J i z=>faj fun k g B D q=>?_;subst k;subst g;cases m;obtain⟨t,rfl⟩:=l;refine eak (I.tuple B) fun o r e K=>?_;refine eal (yc D) fun j=>faj fun F E O N M=>?_;refine eaa (r.get E) fun w G c=>?_;have C:=r.length;have L:=uv;have d:EP X n f Q w s:=(ii z H ⟨I,c,q⟩);exact subscriptTail_builtinR e.typeIs slot_tuple_getitem.lookup
  (getItem_tuple e O2 O2 (by rw[aY,<-C];exact F) (by simpa using G) ⟨rfl,d⟩) A
def Bt:IxR X rIxS:=by
 intro a b D s B H x y v u Q I k g h l;refine eag h fun z i c=>faj fun f e E n q=>?_;subst f;subst e;obtain⟨t,rfl⟩:=k;obtain⟨C,rfl⟩:=g;refine eal (yc n) fun j=>faj fun d r G p o=>?_;have m:z.cps.toList.length=z.length:=by simp[Str.length]
 rw[m]at d p o;have F:=uv;exact tail_any (NN s z t) slot_str_getitem.lookup (getItem_str (by have A:decide (i< -(2^63:Int))=false:=hV O2;have w:decide (i≥2^63)=false:=hV O2;rw[A,w,Bool.or_false]) (by rw[d];simpa using r) (ii (.str ⟨#[c]⟩) H (⟨I.tok _,⟨_,rfl⟩,q⟩))) l
def Ah (a:List Zz) (n j:Nat) (u:Zz):Obj.mapSeq (·.setIfInBounds j u) {cls:= .type "list",data:= .seq a.toArray n}={cls:= .type "list",data:= .seq (a.set j u).toArray n}:=by simp[Obj.mapSeq]
theorem Inv.lst {c:Za} {b:St} {H:Hp} {s:Zy} {p:Zx} {xs:List V} (I:Inv X c b H s) (h:H p=some (.lst xs)):
  ∃a n,ja xs a/\s.heap.get? p=some {cls:= .type "list",data:= .seq a.toArray n}/\xs.length<=sizeLine:=by refine eab (I.hok p _ h) fun z=>fL fun a n=>f8 fun r e=>?_;exact ii a n ⟨r,e,z⟩
def Inv.lstUpd {s:Zy} {p:Zx} {c:List V} {a:List Zz} {d:Nat} {f:Obj->Obj} (I:Inv X pz σ H s) (h:H p=some (.lst xs))
  (j:s.heap.get? p=some {cls:= .type "list",data:= .seq its.toArray n}) (g:f {cls:= .type "list",data:= .seq its.toArray n}={cls:= .type "list",data:= .seq a.toArray d}) (r:ja c a) (i:c.length<=sizeLine) (t:Nat):
  Inv X pz σ (upd H p (.lst c)) {s with heap:=s.heap.update p f,toks:=t}:=by
 have e:(s.heap.update p f).get? p=some {cls:= .type "list",data:= .seq a.toArray d}:=by rw[fO f j (by rw[g]<;>rfl),g]
 refine I.write (by rw[h];trivial) (.inl rfl) (fun b u k q=>(fQ _ _ (Mu k)).trans q) ⟨_,e⟩ ?_;exact⟨i,a,d,r,e⟩
def Ke:V->V->V->Hp->(Hp->Prop)->Prop:=fun o i v H Q=>∃p a k j,o= .ref p/\i= .int k/\H p=some (.lst a)/\ixN a.length k=some j/\Q (upd H p (.lst (a.set j v)))
def qg:LD X Ke:=by
 intro F s D H o i v G J u Q I z A y h;refine ead h fun p E k j=>faj fun x w f C q=>?_;subst x;subst w;cases z;obtain⟨t,rfl⟩:=A;refine eap (I.lst f) fun a n r c B=>?_;refine ean (Br C) fun b L l g=>?_;have d:=r.length;have K:=uv;have m:=
  I.lstUpd f c (Ah a n j u) (r.set y j) (by rw[List.length_set];exact B) s.toks;by_cases h0:0<=k
 ·have e:k.toNat=j:=by rw[seqIndex_of h0 g]at b;exact du.inj b
  exact PySem.W.ki_setAt c h0 O2 (by rw[aY,<-d];exact g) (by rw[e];exact⟨_,m,q⟩)
 ·have e:(k+(a.toArray.size:Int)).toNat=j:=by rw[seqIndex_neg O2 l]at b;rw[aY,<-d];exact du.inj b
  exact PySem.W.ki_setBack c O2 (by rw[aY,<-d];exact l) O2 (by rw[e];exact⟨_,m,q⟩)
def wK (a b:Option Int) (n:Nat):(NA a b none n).1=((HT.Internal.sIx n 0 a:Nat):Int)/\(NA a b none n).2.1=((HT.Internal.sIx n n b:Nat):Int)/\(NA a b none n).2.2=1:=by
 refine⟨?_,?_,rfl⟩
 ·cases a with
  |none=>simp[NA,HT.Internal.sIx]
  |some i=>
   simp only[NA,HT.Internal.sIx,Option.getD_none,show(1:Int)>0 by decide,if_true];by_cases h:i<0;·simp only[h,if_true]<;>lia
   ·simp only[h,if_false]<;>lia
 ·cases b with
  |none=>simp[NA,HT.Internal.sIx]
  |some i=>
   simp only[NA,HT.Internal.sIx,Option.getD_none,show(1:Int)>0 by decide,if_true];by_cases h:i<0;·simp only[h,if_true]<;>lia
   ·simp only[h,if_false]<;>lia
def ve (a:List Zz) (b c:Option Int):slicePick a.toArray b c none=((a.drop (HT.Internal.sIx a.length 0 b)).take (HT.Internal.sIx a.length a.length c-HT.Internal.sIx a.length 0 b)).toArray:=by refine eac (wK b c a.toArray.size) fun f e d=>?_;unfold slicePick;rw[f,e,d];simp only[sliceRange_one,pick_run,aY]<;>rfl
def LL (K:Zp):V->Option Int->Option Int->Hp->VK->Prop:=fun x c d H Q=>∃a b,x= .ref a/\SqL K H a b/\∀p,H p=none->Q (.ref p) (upd H p (.lst (nO b c d)))
def kR:SlR X (LL X.K):=by intro z s t H x v w u e g y Q I j p l k h;refine eap h fun a c i o q=>?_;subst i;cases j;refine eak (I.list o) fun m r f n=>?_;have d:=r.length;refine ii ("list") _ ⟨slot_list_getitem.lookup,f.isList.typeIs,?_⟩;refine wpAny_getItem_list_slice f.isList p l k .none O4 ?_ (by rw[aY]<;>lia);rw[ve,<-d];refine ii (.ref s.heap.objs.size) _ ⟨I.laid (fun b A q=>fM _ q) (cJ _) ?_,rfl,q _ (I.hok.fresh (cJ _))⟩;exact⟨cF (sv c e g) n,_,0,(r.drop (HT.Internal.sIx c.length 0 e)).take (HT.Internal.sIx c.length c.length g-HT.Internal.sIx c.length 0 e),fK _ rfl⟩
def nG:V->Bool
 | .non=>true
 | .bl _=>true
 | .int _=>true
 | .str _=>true
 |_=>false
noncomputable def eqV:V->V->Bool
 | .non,.non=>true
 | .bl a,.bl b=>a==b
 | .bl a,.int b=>(if a then 1 else 0)==b
 | .int a,.bl b=>a==(if b then 1 else 0)
 | .int a,.int b=>a==b
 | .str a,.str b=>a==b
 |_,_=>false
def zi(e:i7 y u) (c:i7 x v) (g:nG y=true) (f:nG x=true):SeqAt.EqAt A s u v (eqV y x):=by
 cases y with
 |non=>
  cases e
  cases x with
  |non=>cases c;exact SeqAt.EqAt.same _
  |bl b=>cases c;exact SeqAt.EqAt.none_bool b
  |int b=>obtain⟨t,rfl⟩:=c;exact SeqAt.EqAt.none_int b t
  |str b=>obtain⟨t,rfl⟩:=c;exact SeqAt.EqAt.none_str b t
  |_=>exact absurd (f) fc
 |bl a=>
  cases e
  cases x with
  |non=>cases c;exact SeqAt.EqAt.bool_none a
  |bl b=>cases c;exact SeqAt.EqAt.bool_bool a b
  |int b=>obtain⟨t,rfl⟩:=c;exact SeqAt.EqAt.bool_int a b t
  |str b=>obtain⟨t,rfl⟩:=c;exact SeqAt.EqAt.bool_str a b t
  |_=>exact absurd (f) fc
 |int a=>
  obtain⟨d,rfl⟩:=e
  cases x with
  |non=>cases c;exact SeqAt.EqAt.int_none a d
  |bl b=>cases c;exact SeqAt.EqAt.int_bool a d b
  |int b=>obtain⟨t,rfl⟩:=c;exact SeqAt.EqAt.int_int a d b t
  |str b=>obtain⟨t,rfl⟩:=c;exact SeqAt.EqAt.int_str a d b t
  |_=>exact absurd (f) fc
 |str a=>
  obtain⟨d,rfl⟩:=e
  cases x with
  |non=>cases c;exact SeqAt.EqAt.str_none a d
  |bl b=>cases c;exact SeqAt.EqAt.str_bool a d b
  |int b=>obtain⟨t,rfl⟩:=c;exact SeqAt.EqAt.str_int a d b t
  |str b=>obtain⟨t,rfl⟩:=c;exact SeqAt.EqAt.str_str a d b t
  |_=>exact absurd (f) fc
 |_=>exact absurd (g) fc
def eqU (x:V) (u:Zz):Bool:=match u with
 | .none=>eqV .non x
 | .bool b=>eqV (.bl b) x
 | .int i _=>eqV (.int i) x
 | .str z _=>eqV (.str z) x
 |_=>false
def Er(r:i7 y u) (f:nG y=true):eqU x u=eqV y x:=by
 cases y with
 |non=>cases r;rfl
 |bl b=>cases r;rfl
 |int i=>obtain⟨t,rfl⟩:=r;rfl
 |str z=>obtain⟨t,rfl⟩:=r;rfl
 |_=>exact absurd (f) fc
theorem yd:∀{xs:List V} {a:List Zz},ja xs a->xs.all nG=true->a.any (eqU x)=xs.any fun y=>eqV y x
 |_,_,.nil,_=>rfl
 |y::xs,u::a,.cons r t,f=>by rw[ba,fg]at f;rw[aT,aT,Er r f.1,yd t f.2]
theorem vf(b:i7 x v) (c:nG x=true):∀{xs:List V} {a:List Zz},ja xs a->xs.all nG=true->∀u∈a,SeqAt.EqAt A s u v (eqU x u)
 |_,_,.nil,_=>fun u hu=>by cases hu
 |y::xs,u::a,.cons r t,f=>fun d hu=>by
  rw[ba,fg]at f;rcases ao.mp hu with rfl|hu;·rw[Er r f.1];exact zi r b f.1 c
  ·exact vf b c t f.2 d hu
def inV (x:V) (xs:List V):Bool:=xs.any fun y=>eqV y x
def rIn (K:Zp) (b:Bool):R2:=fun x y H Q=>∃p a,y= .ref p/\(SqL K H p a\/SqT K H p a)/\nG x=true/\a.all nG=true/\Q (.bl (if b then !inV x a else inV x a)) H
def iO:OpR X (Mw .In) (rIn X.K false):=by
 intro m s k H x y v u Q I e i h;refine eas h fun p l g hq f b q=>?_;subst g;cases i;rcases hq with hq|hq;·refine eak (I.list hq) fun a r c j=>?_;refine SeqAt.in_listAt (eqU x) c.isList (fun w d=>vf e f r b w (by simpa using d)) (ii (.bl _) H ⟨I,rfl,?_⟩);rw[show a.toArray.any (eqU x)=a.any (eqU x) by simp,yd r b];exact q
 ·refine eak (I.tuple hq) fun a r c j=>?_;refine SeqAt.in_tupleAt (eqU x) c (fun w d=>vf e f r b w (by simpa using d)) (ii (.bl _) H ⟨I,rfl,?_⟩);rw[show a.toArray.any (eqU x)=a.any (eqU x) by simp,yd r b];exact q
def gH:oG X (.builtin "len") (fun g H Q=>∃p b,g=[.ref p]/\(SqL X.K H p b\/SqT X.K H p b)/\Q (.int b.length) H):=by
 intro m s k H g l Q I r h;refine eap h fun p b c hq q=>?_;subst c;refine eaa (mO r) fun u c i=>?_;subst c;cases i;have n:=uv;rcases hq with hq|hq;·refine eak (I.list hq) fun f d e j=>?_;have a:=d.length;exact Calls.call_len_list e.isList (by simp only[aY]<;>lia) (ii (.int b.length) H (⟨I.tok _,⟨s.toks+ 1,by rw[aY,a]⟩,q⟩))
 ·refine eak (I.tuple hq) fun f d e j=>?_;have a:=d.length;exact len_tuple e (by simp only[aY]<;>lia) (ii (.int b.length) H (⟨I.tok _,⟨s.toks+ 1,by rw[aY,a]⟩,q⟩))
def rq:oG X (.builtin "len") (fun b H Q=>∃z,b=[.str z]/\z.length<=sizeLine/\Q (.int z.length) H):=by intro f s d H b e Q I r h;refine eak h fun z a g q=>?_;subst a;refine eal (mO r) fun u=>f8 fun a=>faa fun t c=>?_;subst a;subst c;have i:=uv;exact len_str O2 (ii (.int z.length) H (⟨I.tok _,⟨_,rfl⟩,q⟩))
def rA:oG X (.type "list") (fun z H Q=>∃p d,z=[.ref p]/\(SqL X.K H p d\/SqT X.K H p d)/\∀l,H l=none->Q (.ref l) (upd H l (.lst d))):=by
 intro D s B H z E Q I r h;refine eap h fun p d t hq q=>?_;subst t;refine eaa (mO r) fun u t C=>?_;subst t;cases C;have m:∀a,ja d a->d.length<=sizeLine->∀c g,(∀b A,s.heap.get? b=some A->c.get? b=some A)->
   c.get? s.heap.objs.size=some {cls:= .type "list",dict:=none,data:= .seq a.toArray g,slots:=#[]}->EP X D B Q (.ref s.heap.objs.size) {s with heap:=c}:=fun a f j c g i e=>
  (ii (.ref s.heap.objs.size) _ (⟨I.laid i (cJ _) (show kb X.prog X.w _ c _ (.lst d)from⟨j,a,g,f,e⟩),rfl,q _ (I.hok.fresh (cJ _))⟩));rcases hq with hq|hq;·refine eak (I.list hq) fun a f v j=>?_;have k:=f.length;refine eal v.isList fun o=>fae fun w y=>faa fun n x=>?_;exact call_list_seq p (.inl rfl) w y x (fun c g i e=>m a f j c g i e) (by simp only[aY]<;>lia)
 ·refine eak (I.tuple hq) fun a f v j=>?_;have k:=f.length;refine eal v fun o=>fae fun w y=>faa fun n x=>?_;exact call_list_seq p (.inr rfl) w y x (fun c g i e=>m a f j c g i e) (by simp only[aY]<;>lia)
def jK:oG X (.type "tuple") (fun i H Q=>∃p a,i=[.ref p]/\((SqL X.K H p a/\∀l,H l=none->Q (.ref l) (upd H l (.tup a)))\/(SqT X.K H p a/\Q (.ref p) H))):=by
 intro A s y H i z Q I r h;obtain⟨p,a,rfl,h⟩:=h;refine eaa (mO r) fun u n t=>?_;subst n;cases t;rcases h with⟨g,q⟩|⟨g,q⟩
 ·refine eak (I.list g) fun c d f j=>?_;have k:=d.length;refine call_tuple_list f.isList (fun w v=>?_) (by simp only[aY]<;>lia);have m:=I.kept (t':=s.toks) v;have x:=
   m.laid (t':=s.toks) (fun b o e=>fM _ e) (cJ _) (show kb X.prog X.w _ _ _ (.tup a)from⟨j,c,d,y8.new _ _⟩);exact ii (.ref w.objs.size) _ ⟨x,rfl,q _ (m.hok.fresh (cJ _))⟩
 ·refine eak (I.tuple g) fun c d f j=>?_;exact call_tuple_same f (ii (.ref p) H ⟨I,rfl,q⟩)
def tyV (K:Zp) (T:String) (x:V) (H:Hp):Prop:=match x with
 | .str _=>T="str"
 | .int _=>T="int"
 | .ref p=>(T="list"/\∃b,SqL K H p b)\/(T="tuple"/\∃o,K.lookup p=some o/\o.cls= .type "tuple"/\o.dict=none)\/
   (T="dict"/\((∃a,H p=some (.dK a))\/∃a,H p=some (.dT a)))\/(T="set"/\∃S n,H p=some (.set S n))
 |_=>False
def Es(I:Inv X pz σ H s) (r:i7 x v) (f:tyV X.K T x H):
  s.TypeIs v T/\∀a,v= .ref a->∃l,s.heap.get? a=some l/\l.dict=none:=by
 cases x with
 |str z=>obtain⟨t,rfl⟩:=r;cases(f);exact⟨NN s z t,fun _ e=>nomatch e⟩
 |int i=>obtain⟨t,rfl⟩:=r;cases(f);exact⟨typeIs_int s i t,fun _ e=>nomatch e⟩
 |ref p=>
  cases r;rcases f with⟨rfl,w,q⟩|⟨rfl,o,b,u,h⟩|⟨rfl,b⟩|⟨rfl,S,n,b⟩;·refine eak (I.list q) fun m _ k _=>?_;refine⟨k.isList.typeIs,fun a e=>?_⟩;cases e;refine eaj k fun o n e c h _=>?_;exact⟨o,e,h⟩
  ·refine⟨⟨o,I.kIn p o b,u⟩,fun a e=>?_⟩;cases e;exact⟨o,I.kIn _ o b,h⟩
  ·have z:∃o,s.heap.get? p=some o/\o.ExactDict:=by
    rcases b with⟨g,b⟩|⟨g,b⟩;·refine eac (I.hok p _ b) fun _ _=>faa fun _=>f8 fun _=>fab fun o _ _=>fae fun e d _=>?_;exact⟨o,e,d⟩
    ·refine eac (I.hok p _ b) fun _ _=>faa fun _=>f8 fun _=>fab fun o _ _=>fae fun e d _=>?_;exact⟨o,e,d⟩
   refine eaa z fun o e d=>?_;refine⟨⟨o,e,d.1⟩,fun a j=>?_⟩;cases j;exact⟨o,e,d.2.1⟩
  ·refine ead (I.hok p _ b) fun o _ _ _=>fae fun e d _=>?_;refine⟨⟨o,e,d.1⟩,fun a j=>?_⟩;cases j;exact⟨o,e,d.2.1⟩
 |_=>exact Mt f
def tBM0 (K:Zp) (T:String) (r:V->List V->Hp->VK->Prop) (c:TE):TE:=fun b H Q=>c b H fun x a=>tyV K T x a/\r x [] a Q
def tBM (K:Zp) (T:String) (r:V->List V->Hp->VK->Prop) (d:TE) (t:TA):TE:=fun a H Q=>d a H fun x b=>tyV K T x b/\t a b fun c e=>r x c e Q
variable {o e:Zr} {es:List Zr} {to:TE} {t:TA} {name:Str} {apos cpos:Pos} {T id:String} {r:V->List V->Hp->VK->Prop}
def uE (m:PlainAttrs T) (c:Slot T name id) (d:typeOf (.builtin id)=pure (.type "method_descriptor")) (p:MtR X id r) (n:PE X o to)
  (b:autoParam (M9 o name X.env (eval o X.env)=eval o X.env) auR._auto_1) (a:autoParam ((apos.endLine==cpos.line)=true) auR._auto_1):PE X (.Call (.Attribute o name apos) [] [] cpos) (tBM0 X.K T r to):=by intro g s e H Q I h;refine wpAny_Call_method0_late b a (thn (n g s e H _ I h) ?_);refine fun v k=>fao fun x u i f j l=>?_;obtain⟨t,q⟩:=Es i f j;exact ii T id ⟨m,c,d,t,q,Calls.callWith_builtin rfl (PySem.evalArgs_none (p g k e u x [] v [] Q i f .nil l))⟩
def jG (pa:PlainAttrs T) (slot:Slot T name id) (hty:typeOf (.builtin id)=pure (.type "method_descriptor")) (hm:MtR X id r) (ho:PE X o to) (ha:PA X (e::es) t)
  (hbase:autoParam (M9 o name X.env (eval o X.env)=eval o X.env) auR._auto_1)
  (hfew:((MK cpos (Mj (e::es) X.env)).all (fun x=>!x.1)&&(backToKw cpos (Ny [] X.env)).all (fun x=>x.1.isSome)
   &&decide ((e::es).length+([]:List Keyword).length+(if([]:List Keyword).isEmpty then 0 else 1)<30))=true:=by rfl)
  (hline:autoParam ((apos.endLine==cpos.line)=true) auR._auto_1) (hs:autoParam (Mj (e::es) X.env=(false,eval e X.env)::Mj es X.env) auR._auto_1) (hplain:autoParam ((MK cpos (Mj es X.env)).any (·.1)=false) auR._auto_1):
  PE X (.Call (.Attribute o name apos) (e::es) [] cpos) (tBM X.K T r to t):=by intro pz s σ H Q I h;refine wpAny_Call_method_late hbase hfew hline rfl (thn (ho pz s σ H _ I h) ?_);refine fun v s1=>fao fun x H1 I1 r1 ty q1=>?_;obtain⟨h1,h2⟩:=Es I1 r1 ty;refine ii T id ⟨pa,slot,hty,h1,h2,?_⟩;have hA:=ha cpos pz s1 σ H1 _ I1 q1;rw[hs]at hA⊢;refine Calls.callWith_builtin (by show(false||(MK cpos (Mj es X.env)).any (·.1))=false;rw[hplain]<;>rfl) (Calls.evalArgs_plain ?_);exact thn hA fun us s2 ⟨vs,H2,I2,r2,q2⟩=>hm pz s2 σ H2 x vs v us Q I2 r1 r2 q2
end
def MtM (X:Cx) (id:String) (r:V->List V->Hp->VK->Prop):Prop:=
 ∀d s (a:St) H x b v c Q,Inv X d a H s->i7 x v->ja b c->r x b H Q->
  L8 (model X.prog X.w) X.A (call (.builtin id) (v::c)) (EP X d a Q) X.xe s
def ja.one:∀{x:V} {a:List Zz},ja [x] a->∃u,a=[u]/\i7 x u
 |_,_,.cons r .nil=>⟨_,rfl,r⟩
def ja.zero:∀{a:List Zz},ja [] a->a=[]
 |_,.nil=>rfl
theorem ja.dropLast (h:ja xs us):ja xs.dropLast us.dropLast:=by
 induction h with
 |nil=>exact .nil
 |cons r t a=>
  cases t with
  |nil=>exact .nil
  |cons q b=>exact .cons r a
theorem ja.reverse (h:ja xs us):ja xs.reverse us.reverse:=by
 induction h with
 |nil=>exact .nil
 |cons r t a=>rw[bb,bb];exact ja.append a (.cons r .nil)
def Ai {c:Type} (l:List c):l.eraseIdx (l.length-1)=l.dropLast:=by
 induction l with
 |nil=>rfl
 |cons a r d=>
  cases r with
  |nil=>rfl
  |cons b r=>
   have e:(a::b::r).length-1=((b::r).length-1)+ 1:=by have g:(a::b::r).length=r.length+ 2:=rfl;have f:(b::r).length=r.length+ 1:=rfl;lia
   rw[e,List.eraseIdx_cons_succ,d];all_goals rfl
section
variable {X:Cx} {pz:Za} {σ:St} {H:Hp} {s:Zy} {l b:Zx} {xs ys zs:List V}
def Inv.lset {a:List Zz} {f:Array Zz->Array Zz} {t':Nat} (I:Inv X pz σ H s) (i:H l=some (.lst xs))
  (e:s.heap.get? l=some {cls:= .type "list",data:= .seq its.toArray n}) (g:f its.toArray=a.toArray) (c:ja ys a) (b:ys.length<=sizeLine):
  Inv X pz σ (upd H l (.lst ys)) {s with heap:=s.heap.update l (Obj.mapSeq f),toks:=t'}:=by have q:=PySem.IsL.update e f;rw[g]at q;refine I.write (by rw[i];exact trivial) (.inl rfl) (fun j u h d=>(fQ s.heap (Obj.mapSeq f) (Mu h)).trans d) ⟨_,q⟩ ?_;exact⟨b,a,_,c,q⟩
def Inv.lnew {t':Nat} (I:Inv X pz σ H s) (b:ja ys its) (a:ys.length<=sizeLine):
  Inv X pz σ (upd H s.heap.objs.size (.lst ys)) {s with heap:=s.heap.push {cls:= .type "list",data:= .seq its.toArray},toks:=t'}:=
 I.laid (fun _ _ q=>fM _ q) (cJ _) ⟨a,its,0,b,fK _ rfl⟩
theorem Inv.fresh (I:Inv X pz σ H s):H s.heap.objs.size=none:=I.hok.fresh (cJ _)
def Inv.lstM (I:Inv X pz σ H s) (b:H l=some (.lst xs)):xs.length<=sizeLine/\∃a n,ja xs a/\xs.length=a.length/\s.heap.get? l=some {cls:= .type "list",data:= .seq a.toArray n}:=by refine eab (I.hok l _ b) fun z=>fL fun a n=>f8 fun r e=>?_;exact⟨z,a,n,r,r.length,e⟩
def DG (h:n<=sizeLine):NJ n=false:=by unfold NJ;exact hV O2
end
section
variable {X:Cx}
def Bu:V->List V->Hp->VK->Prop:=fun x b H Q=>∃l a y,x= .ref l/\b=[y]/\H l=some (.lst a)/\a.length<sizeLine/\Q .non (upd H l (.lst (a++[y])))
def gX:MtM X "list.append" Bu:=by intro p s j H x m v o Q I f g h;refine eag h fun l k y=>faj fun a d c t q=>?_;subst a;subst d;cases f;refine eaa g.one fun u a i=>?_;subst a;refine eab (I.lstM c) fun z=>fL fun b n=>fae fun r w e=>?_;refine Nr F.slot_list_append ⟨_,e,rfl⟩ F.entry_list_append (F.args_list_append_2 _ _) (PySem.list_append l b.toArray n u (by rw[aY];lia)) ⟨e,?_⟩;refine ii .non _ ⟨I.lset c e O4 (r.append (.cons i .nil)) ?_,rfl,q⟩;rw[aR,bc];lia
def FE:V->List V->Hp->VK->Prop:=fun x d H Q=>∃l b c a,x= .ref l/\d=[.ref b]/\H l=some (.lst c)/\H b=some (.lst a)/\c.length+a.length<=sizeLine/\Q .non (upd H l (.lst (c++a)))
def Bv:MtM X "list.extend" FE:=by
 intro K s B H x G v J Q I k m h;refine ead h fun l b E C=>fag fun f j i y L q=>?_;subst f;subst j;cases k;refine eaa m.one fun u f o=>?_;subst f;cases o;refine eab (I.lstM i) fun z=>fL fun c n=>fae fun r M e=>?_;refine eab (I.lstM y) fun D=>fL fun a t=>fae fun p w A=>?_;have g:c.toArray.size+a.toArray.size<=sizeLine:=by rw[aY,aY];lia
 have d:¬(!c.toArray.isEmpty&&NJ (c.toArray.size+a.toArray.size))=true:=by rw[DG g,fh];exact fc
 refine Nr F.slot_list_extend ⟨_,e,rfl⟩ F.entry_list_extend (F.args_list_extend_2 _ _)
  (AutoSeq1.list_extend_list_list_0 l c.toArray n b a.toArray t d (by rw[aY];lia) O2) ⟨e,A,?_⟩;refine ii .non _ ⟨I.lset i e O4 (r.append p) ?_,rfl,q⟩;rw[aR];lia
def LM:V->List V->Hp->VK->Prop:=fun x b H Q=>∃l a y,x= .ref l/\b=[]/\H l=some (.lst a)/\a[a.length-1]?=some y/\Q y (upd H l (.lst a.dropLast))
def uF:MtM X "list.pop" LM:=by
 intro C s t H x A v B Q I i j h;refine eag h fun l w y=>faj fun g f d m q=>?_;subst g;subst f;cases i;have c:=j.zero;subst c;refine eab (I.lstM d) fun z=>fL fun a n=>fae fun r p e=>?_;refine eaa (r.get m) fun u o k=>?_;have b:a.toArray[a.toArray.size-1]?=some u:=by show a.toArray[a.length-1]?=some u;rw[<-ft,<-p];exact o
 refine Nr F.slot_list_pop ⟨_,e,rfl⟩ F.entry_list_pop (F.args_list_pop_1 _) (MeetsSeq.list_pop_last l a.toArray n u b (by rw[aY];lia)) ⟨e,?_⟩;refine ii y _ ⟨I.lset d e ?_ r.dropLast ?_,k,q⟩;·rw[aY,List.eraseIdxIfInBounds_toArray,Ai]
 ·rw[bf];lia
def HM:R2:=fun x y H Q=>∃l b c a,x= .ref l/\y= .ref b/\H l=some (.lst c)/\H b=some (.lst a)/\c.length+a.length<=sizeLine/\∀p,H p=none->Q (.ref p) (upd H p (.lst (c++a)))
def oH:OpR X (MF .Add) HM:=by
 intro D s w H x y v u Q I i g h;refine ead h fun l b C A=>fag fun f d m o F q=>?_;subst f;subst d;cases i;cases g;refine eab (I.lstM m) fun z=>fL fun c n=>fae fun r G e=>?_;refine eab (I.lstM o) fun B=>fL fun a E=>fae fun j k t=>?_;refine PySem.P.add_list e t ?_ (by rw[aY,aY];lia);have p:c.toArray++a.toArray=(c++a).toArray:=by simp
 rw[p];exact ii (.ref _) _ ⟨I.lnew (r.append j) (by rw[aR];lia),rfl,q _ I.fresh⟩
end
section
variable {prog:Zu} {w:Zv} {A:Zw} {E:Zb} {s:Zy}
end
section
variable {X:Cx}
end
end L2.Internal
namespace Att.Internal
open PySem PySem.W PySem.Calls PyProof.Rows
def sx:∀ns vs,WellAll P h vs (ns.map WData.int)->IntsAre vs ns:=by
 intro ns
 induction ns with
 |nil=>intro vs w;rw[aW]at w;cases w;exact .nil
 |cons n ns c=>
  intro vs w;rw[aD]at w
  cases w with
  |cons a b=>cases a;exact .cons _ _ (c _ b)
def Bw{l:OpenLaw} (w:l.most=some n)
  (c:l.row.toRowW.claim.pre args=true) (k:WellAll P h vals args):
  ∃a o b,vals=[Ml a]/\args=[WData.list (b.map WData.int)]/\h.get? a=some {cls:= .type "list",data:= .seq o.toArray}/\IntsAre o b/\b.length<=n:=by
 have m:=(pre_splitW c).1;have p:l.pre.holds [] {args:=args}=true:=(pre_splitW c).2;refine eap (hasAllW_cons m) fun d r j z y=>?_;subst j;obtain rfl:=hasAllW_nil y;refine eaa (hasW_list z) fun A j x=>?_;subst j;obtain⟨b,rfl⟩:=items_int x;have e:b.length<=n:=by
  unfold OpenLaw.pre at p;have i:(WTm.not (.lt (.lit (.int (n:Int))) (.len (.arg 0)))).holds [] {args:=[.list (b.map .int)]}=true:=by have i:=(holds_andW p).1;rw[w]at i;exact i
  have g:=condW_of i (w_not (w_lt w_lit (w_len_list (w_arg rfl))));rw[aE]at g;refine Nat.le_of_not_lt fun q=>?_;have u:(n:Int)<((b.length:Nat):Int):=O2
  first
   |(rw[gT u]at g;exact absurd g O3)
   |(simp at g;lia)
 cases k with
 |cons t s=>
  cases s
  cases t with
  |list v f=>exact iaa _ _ b ⟨rfl,rfl,v,sx b _ f,e⟩
def Bx (l:OpenLaw) (a:List WData):l.row.toRowW.claim.post a (.bool true) a=true:=
 postW_of
  (show WShape.has [] (.bool true) .bool=true by first|rfl|decide|simp[WShape.has,WShape.arms,WShape.armsAll])
  (show(WTm.eq .res (.lit (.bool true))).value [] {args:=a,res:=some (.bool true),after:=a}=some (.bool (true==true))from w_eq_bool (w_res rfl) w_lit) rfl
def attach_call{l:OpenLaw} {e:Zd}
  (P:l.most=some n) (D:d.params.defaults=[])
  (p:∀w c b (u A:Zc) m o z x h a vs ns,
   Ground q e [] XP w c u A b.heap->YP w b.heap->
   b.heap.get? m=some o->o.data= .func (docDef d.name d.params d.body d.scope z x h)->b.heap.CodeRec x d.name->u d.name=some (.ref m)->
   b.heap.get? a=some {cls:= .type "list",data:= .seq vs.toArray}->IntsAre vs ns->ns.length<=n->b.gens=#[]->
   Nx (model l.prog w) callerA (.call (.ref m) ⟨[.ref a],[]⟩) (fun r t=>r= .ok (.ret (.bool true))/\OldK b.heap t.heap/\t.os=b.os/\AllBare t.gens) b):
  WalkO q e XP YP l.row.toRowW d [] (fun f vs=>PySem.call f vs):=by intro w c b u A G Y m o z x h X L O T E I C S J F Z i H M B R;obtain rfl:X= .none:=Dflts.none I D;obtain rfl:L= .none:=Dflts.noKw I;refine eag (Bw P i B) fun a vs ns=>faj fun y K j g k=>?_;subst y;subst K;refine enter_call (codeAny_mono (p w c b u A m o z x h a vs ns G Y O (fd_plain T) E C j g k S) fun r t N=>?_);refine ean N fun y W V U=>?_;subst y;exact⟨.inl (iaa (.bool true) (.bool true) ([]) (⟨rfl,fun _=>rfl,.bool true,Bx l _,fun _=>⟨List.Pairwise.nil,fun _ Q=>(nomatch Q)⟩⟩)),W,V,U⟩
section
variable {prog:Zu} {w:Zv} {A:Zw} {E:Zb} {s:Zy} {K:Frag}
end
end Att.Internal
namespace L2.Internal
variable {a f:Zx} {X:Cx} {qual y:Str} {N:Zd} {A:Zw} {pos:Pos} {H:Hp} {xs ys:List V} {scope:Scope} {tt:TT} {te:TE}
open PySem PySem.Spec PyProof.Rows
theorem wL:∀{vs:List Zz} {ns:List Int},IntsAre vs ns->ja (ns.map V.int) vs
 |_,_,.nil=> .nil
 |_,_,.cons n t h=> .cons ⟨t,rfl⟩ (wL h)
def Kf (H:Hp):Prop:=∀b,H b=none\/∃o a,H b=some (.frz o (.lst a))
def DH{K:Zp} {y O:Zc}
  (KX:K.In s₁.heap) (D:s₁.heap.Ns L7 y) (f:s₁.heap.Ns builtinsNs O) (S:∀x:Str,x≠"__name__"->O x=Mq x) (E:s₁.heap.NoLimit) (hg:s₁.gens=#[])
  (J:s₁.heap.get? a=some {cls:= .type "list",data:= .seq vs.toArray}) (Z:IntsAre vs ns) (Y:ns.length<=sizeLine) (hr:nM k callerA)
  (F:∀i,K.In i->i.Ns L7 y->uC P w K y i CX k fa fd [x] sp) (p:∀s u,BindsTo s fd ⟨[u],[]⟩ [(x,u)])
  (Q:∀H,Kf H->SqL K H a (ns.map V.int)->sp [.ref a] H (fun v _=>v= .bl true) fun _ _ _=>False)
  (T:∀H e g,CX [] H s₁ (fun _ _ _=>False) e g->False):
  Nx (model P w) callerA (.call (.ref fa) ⟨[.ref a],[]⟩) (fun r g=>r= .ok (.ret (.bool true))/\OldK s₁.heap g.heap/\g.os=s₁.os/\AllBare g.gens) s₁:=by
 have X:=wL Z;have A:=Z.length;have l:∀H,Kf H->SqL K H a (ns.map V.int)->HOk P w H s₁.heap->(∀b,H b≠none->b=a)->(H a≠none->K.lookup a=none)->
   Nx (model P w) callerA (.call (.ref fa) ⟨[.ref a],[]⟩) (fun r g=>r= .ok (.ret (.bool true))/\OldK s₁.heap g.heap/\g.os=s₁.os/\AllBare g.gens) s₁:=by
  intro H hO hS C hA hK;have c:∀{b:Zx} {o:Obj},s₁.heap.get? b=some o->H b=none->(Ds s₁.heap H).get? b=some o:=fun e n=>Du e n;have N:∀{b:Zx} {o:Obj} {L:Array DictEntry} {M:Nat},s₁.heap.get? b=some o->o.data= .dict L M->H b=none:=fun{b o L M} e d=>by
   cases q:H b with
   |none=>rfl
   |some u=>have U:=hA b (by rw[q];simp);subst U;rw[J]at e;cases e;have d':=d;cases d'
  have j:∀{b:Zx} {m:Zc},s₁.heap.Ns b m->(Ds s₁.heap H).Ns b m:=fun{b m} ⟨o,L,M,e,d,r⟩=>(iaa o L M ⟨c e (N e d),d,r⟩);have G:K.In (Ds s₁.heap H):=fun b o e=>c (KX b o e) (by
   cases q:H b with
   |none=>rfl
   |some u=>have U:=hA b (by rw[q];simp);subst U;rw[hK (by rw[q];simp)]at e;cases e);have hM:Mod K y (Ds s₁.heap H):=⟨G,j D,⟨O,j f,S⟩,let⟨mc,h1,h2⟩:=E;⟨mc,j h1,h2⟩⟩;have e0:Fu P w K y (Ds s₁.heap H) callerA [] s₁ H:=⟨rfl,hM,fun b o e=>Fe e,cM (AV _ _),trivial,fun b f=>absurd (show b∈([]:List Zx)from f) O4,C,.of_eq hg⟩;refine codeAny_mono ((F _ G (j D)).run callerA [] s₁ H ⟨[.ref a],[]⟩ [.ref a] [.ref a] _ _ hr e0 (p s₁ (.ref a)) (.cons rfl .nil) (Q H hO hS)) fun r g h=>?_
  cases r with
  |error e=>exact(T H e g h).elim
  |ok fl=>
   cases fl with
   |next=>exact Mt h
   |brk=>exact Mt h
   |cont=>exact Mt h
   |ret u=>
    refine eaq h fun v H'=>fag fun os I W B r' q=>?_;have q':=q;subst q';obtain rfl:u=MM true:=r';refine⟨rfl,OldK.of_keep fun b o e=>?_,os,I⟩
    cases q:H b with
    |none=>exact W.keep b o e q (by intro z;exact absurd (show b∈([]:List Zx)from z) O4) O4
    |some u=>
     rcases hO b with z|⟨ob,xs,z⟩;·rw[q]at z;cases z
     ·have z2:=W.frzs b ob _ z;obtain⟨e1,_⟩:=C b _ z;obtain⟨e2,_⟩:=B b _ z2;rw[e]at e1;cases e1;exact e2
 cases R:K.lookup a with
 |some o=>have e:=KX a o R;rw[J]at e;cases e;refine l (fun _=>none) (fun _=> .inl rfl) (.inr (iaa _ vs.toArray _ ⟨R,rfl,rfl,rfl,by rw[aY,A];exact Y,by simpa using X⟩)) (fun b u z=>by have t:=z;cases t) (fun b z=>absurd rfl z) fun z=>absurd rfl z
 |none=>
  refine l (fun b=>if b=a then some (.frz {cls:= .type "list",data:= .seq vs.toArray} (.lst (ns.map V.int)))else none) (fun b=>?_) (.inl (.inr ⟨{cls:= .type "list",data:= .seq vs.toArray},ig rfl⟩)) (fun b u z=>?_) (fun b z=>?_) fun _=>R
  ·by_cases f:b=a;·exact .inr (ii _ _ (ig f))
   ·exact .inl (gZ f)
  ·by_cases f:b=a;·have t:=(ig f).symm.trans z;cases t;subst f;exact⟨J,by rw[aE];exact Y,vs,_,X,J⟩
   ·have t:=(gZ f).symm.trans z;cases t
  ·by_cases f:b=a;·exact f
   ·exact absurd (gZ f) z
def walk_of{l:PySem.W.OpenLaw} {loose:Zd} {K:Params->Zp} {CX:Zv->CXT} {sp:Zv->Sp}
  (hn:l.most=some n) (hn2:n<=sizeLine) (hdf:d.params.defaults=[]) (hr:nM k callerA)
  (hY:∀(w:Zv) (h:Zt),YP w h->(K w.params).In h)
  (F:∀(w:Zv) (mg:Zc) (fa:Zx) (h:Zt),(K w.params).In h->h.Ns L7 mg->mg d.name=some (.ref fa)->
   ∃fd:Zs,(∀(s:Zy) (u:Zz),BindsTo s fd ⟨[u],[]⟩ [(x,u)])/\
    ∀base:Zt,(K w.params).In base->base.Ns L7 mg->uC l.prog w (K w.params) mg base (CX w) k fa fd [x] (sp w))
  (hsp:∀(w:Zv) (H:Hp) (a:Zx) (ns:List Int),ns.length<=n->Kf H->SqL (K w.params) H a (ns.map V.int)->sp w [.ref a] H (fun v _=>v= .bl true) fun _ _ _=>False)
  (hCX:∀(w:Zv) (H:Hp) (s:Zy) (e:Zz) (s':Zy),CX w [] H s (fun _ _ _=>False) e s'->False):
  PySem.W.WalkO q loose XP YP l.row.toRowW d [] (fun f vs=>PySem.call f vs):=by refine Att.Internal.attach_call hn hdf fun w s₀ s₁ mg mb fa o pm cd doc a vs ns G Y ho hd hcd hmg hobj hints hlen hg=>?_;have KX:=hY w _ Y;refine eaa (F w mg fa _ KX G.T.g hmg) fun fd hb hF=>?_;exact DH KX G.T.g G.T.b G.T.builtins G.T.nolimit hg hobj hints (cF hlen hn2) hr hF hb (fun H hO hS=>hsp w H a ns hlen hO hS) fun H e s'=>hCX w H s₁ e s'
def iL (s:Zq) (j:Nat):Zq:=match s with
 | .ClassDef _ _ _ body _ _ _ _ _ _ _=>body.getD j (.Pass ⟨0,0,0,0⟩)
 |_=> .Pass ⟨0,0,0,0⟩
def mE (s:Zq):Arguments:=match s with
 | .FunctionDef _ a _ _ _ _ _ _ _ _=>a
 |_=>{posonlyargs:=[],args:=[],vararg:=none,kwonlyargs:=[],kw_defaults:=[],kwarg:=none,defaults:=[]}
def lK (s:Zq):List Zq:=match s with
 | .FunctionDef _ _ b _ _ _ _ _ _ _=>b
 |_=>[]
def gx (s:Zq):Scope:=match s with
 | .FunctionDef _ _ _ _ _ _ sc _ _ _=>sc
 |_=>{kind:= .function,names:=[],isGenerator:=false,isCoroutine:=false}
abbrev CX0:CXT:=fun _ _ _ _ _ _=>False
abbrev E0:XK:=fun _ _ _=>False
def ik:rp CX0 X E0:=fun _ _ _ _ _ _ _ h=>h.elim
structure Fun (K:Zp) (x qual:Str) (st:Zq) (f:Zx) (fd:Zs):Prop where
 ex:∃(oc:Zz) (od:Option Zx) (kV doc pm:Zz) (an:Option Zx) (cdv ct:Zz) (osl:Array (Option Zz)),
  fd=ee x qual (mE st) (lK st) (gx st) .none kV doc pm an cdv ct/\K.lookup f=some ⟨oc,od,.func fd,osl⟩/\eA K cdv qual=true
 kp:dQ K (.ref f)=true
section
variable {P:Zu} {w:Zv} {K:Zp} {mg:Zc} {base:Zt}
def Fun.ok {x:Str} {st:Zq} {l:Zs} {e:Zd} {k:Nat} {d:Sp} (F:Fun K x qual st f l) (S:gE N e (gx st)) (g:∀vs H Q E,d vs H Q E->vs.length=e.length)
  (c:∀b A a s H vs Q E,nM k (A.deeper (envOfC qual (gx st) s.heap.objs.size f b))->d vs H Q E->
   ∃t,PSs (Dq CX0 P w K mg base N qual (gx st) f b A a s H E).nox (lK st) t/\t {nx:=fun _ u=>Q .non u,rt:=Q} (rP N vs) H):uC P w K mg base CX0 (k+ 1) f l e d:=by refine eat F.ex fun z y B r v D b C n=>fae fun m o j=>?_;subst m;refine J8 o j S g fun A a s H vs Q E p i=>?_;refine eaa (c b A a s H vs Q E p i) fun t h q=>?_;exact⟨t,h.nox,q⟩
def Fun.binds {x:Str} {st:Zq} {k:Zs} {d:Zd} (F:Fun K x qual st f k)
  (h:∀g a e j b i c,c.length=d.length->bindArgs (ee x qual (mE st) (lK st) (gx st) .none g a e j b i) ⟨c,[]⟩=pure (d.zip c)):qE K k d []:=by refine eat F.ex fun p o g a e j b i m=>fae fun l q n=>?_;subst l;exact .all (h g a e j b i)
def sy{st:Zq} {g:Zz} (l:K.lookup f=some ⟨oc,od,.func (ee x qual (mE st) (lK st) (gx st) .none g d h j b i),e⟩)
  (c:eA K b qual=true) (k:dQ K (.ref f)=true):Fun K x qual st f (ee x qual (mE st) (lK st) (gx st) .none g d h j b i):=⟨(iac oc od g d h j b i e ⟨rfl,l,c⟩),k⟩
end
def tY(a:nM k A):A.units+ 1<M8:=Nat.lt_of_le_of_lt (Nat.add_le_add_left (by decide:1<=64) _) a.units
section
variable {X:Cx}
def pv (i:Nat) {x:Str} (hN:autoParam (X.N[i]?=some x) auR._auto_1) (hv:Vis X.env.scope x:=by first|exact Or.inl rfl|exact Or.inr (.inl rfl)|exact Or.inr (.inr rfl)) (hd:autoParam ((x==("__debug__":Str))=false) auD._auto_1)
  (hcd:autoParam ((x==("__classdict__":Str))=false) auD._auto_1):PE X (.Name x pos) (LC i):=Ht hN hv hd hcd
end
def ij{A:Prop} (h:B):if false=true then A else B:=by rw[gZ fc];exact h
def iK{A:Prop} (h:A):if true=true then A else B:=by rw[ig rfl];exact h
def Kg{A:Prop} [Decidable c] (b:c->A) (a:¬c->B):if c then A else B:=by
 by_cases h:c;·rw[ig h];exact b h
 ·rw[gZ h];exact a h
def Kh{A:Prop} [Decidable c] (a:c) (h:B):if(!decide c)=true then A else B:=by rw[gT a];exact ij h
def gJ (H a:Hp):Prop:=∀b o,H b=some o->a b=some o
def gJ.refl (H:Hp):gJ H H:=fun _ _ h=>h
def gJ.trans {e d:Hp} (a:gJ H e) (b:gJ e d):gJ H d:=fun c o h=>b c o (a c o h)
def gJ.free {a:Hp} (e:gJ H a) {l:Zx} (h:a l=Option.none):H l=Option.none:=by
 cases q:H l with
 |none=>rfl
 |some o=>rw[e l o q]at h;cases h
def gJ.seq {K:Zp} {b:Hp} (e:gJ H b) (h:SqL K H a xs):SqL K b a xs:=by
 rcases h with(h|⟨o,h⟩)|h;·exact .inl (.inl (e _ _ h))
 ·exact .inl (.inr ⟨o,e _ _ h⟩)
 ·exact .inr h
section
variable {X:Cx}
end
section
variable {κ:Type} [DecidableEq κ]
def DI{k:κ} (h:jL kvs k=none):¬k∈kvs.map (·.1):=by intro m;refine eaa (bh.mp m) fun p b e=>?_;have q:(kvs.any fun a=>decide (a.1=k))=true:=bj.mpr ⟨p,b,gT e⟩;rw[mq,h]at q;exact absurd q O4
def FF{k:κ} (h:jL kvs k=some v):k∈kvs.map (·.1):=by
 have q:(kvs.any fun a=>decide (a.1=k))=true:=by rw[mq,h];all_goals rfl
 refine eaa (bj.mp q) fun p b e=>?_;exact bh.mpr ⟨p,b,of_decide_eq_true e⟩
theorem By:∀{l:List κ} {k:κ},l.Nodup->¬k∈l->(l++[k]).Nodup
 |[],k,_,_=>by simp
 |a::r,k,h,hk=>by
  obtain⟨c,b⟩:=aG.mp h;show(a::(r++[k])).Nodup;refine aG.mpr ⟨fun m=>?_,By b fun m=>hk (ao.mpr (Or.inr m))⟩;rcases aq.mp m with q|q;·exact c q
  ·exact hk (ao.mpr (Or.inl (bo.mp q).symm))
def FH{k:κ} (v:V) (a:(kvs.map (·.1)).Nodup) (h:jL kvs k=none):((mL kvs k v).map (·.1)).Nodup:=by rw[DB v h,bq];exact By a (DI h)
end
section
variable {X:Cx}
def vg(b:Gl X x) (a:X.mg x=some (.int i t)) (c:autoParam ((x==("__debug__":Str))=false) auD._auto_1):PE X (.Name x pos) (tC (.int i)):=xV b a (show i7 (.int i) _ from⟨t,rfl⟩) c
def DJ(b:Gl X x) (a:X.mg x=some (.str y t)) (c:autoParam ((x==("__debug__":Str))=false) auD._auto_1):PE X (.Name x pos) (tC (.str y)):=xV b a (show i7 (.str y) _ from⟨t,rfl⟩) c
def DL(c:Gl X x) (b:X.mg x=some (.ref a)) (d:autoParam ((x==("__debug__":Str))=false) auD._auto_1):PE X (.Name x pos) (tC (.ref a)):=xV c b (rfl) d
def sA(d:Gl X x) (c:X.mg x=none) (a:Mq x=some (.type n)) (b:autoParam (x≠"__name__") auD._auto_1) (e:autoParam ((x==("__debug__":Str))=false) auD._auto_1):PE X (.Name x pos) (tC (.ty n)):=Ff d c a (rfl) b e
end
def iN:Mq "len"=some (.builtin "len"):=gL
def HN:Mq "all"=some (.builtin "all"):=gL
def Et:Mq "sum"=some (.builtin "sum"):=gL
def jg:Mq "isinstance"=some (.builtin "isinstance"):=gL
def wM:Mq "int"=some (.type "int"):=gL
def HP:Mq "str"=some (.type "str"):=gL
def FI:Mq "bool"=some (.type "bool"):=gL
def sC:Mq "list"=some (.type "list"):=gL
def mv:Mq "tuple"=some (.type "tuple"):=gL
def yf:Mq "dict"=some (.type "dict"):=gL
noncomputable def Bz:List Zr->Option (List Str)
 |[]=>some []
 | .Constant (.str x) _ _::r=>(Bz r).map (x::·)
 |_=>none
def vh (xs:Zd):TA:=fun _ H Q=>Q (xs.map V.str) H
def jh:∀{xs:Zd},Bz es=some xs->PA X es (vh xs):=by
 induction es with
 |nil=>intro xs h;have e:=(du.inj h).symm;subst e;exact fY
 |cons c r f=>
  intro xs h;unfold Bz at h;split at h;·cases ‹_=[]›
  ·rename_i x k p l i;cases i;refine eaa (dA.mp h) fun j g e=>?_;subst e;intro a d s b H Q I q;exact fV gh (f g) rfl a d s b H Q I q
  ·cases h
def Its (x:Str):It:=⟨fun i _=>i<x.cps.size,fun i H v a=>a=H/\∃c,x.cps[i]?=some c/\v= .str ⟨#[c]⟩,fun i _=>i=x.cps.size⟩
def zj{K:Zp} (it:Zx) (T:String) (x:Str) (t:Tok)
  (Y:["enumerate","zip","dict_itemiterator","dict_reverseitemiterator","odict_iterator","itertools.zip_longest","itertools.pairwise"].contains T=false)
  (W:∀A,A.handled=none->Walks P w A it [it] [it] x.cps.size (SignAt x) (fun i h=>h.IsStrIter it T x t i))
  (f:∀A i s (Q:Zb) (E:Zb),s.heap.IsStrIter it T x t i->Q (.ref it) s->L8 (model P w) A (pyIter (.ref it)) Q E s):
  Ej P w K tg (Its x) [it] it (fun i h=>h.IsStrIter it T x t i) where
 mem:=by simp
 obj:=fun i h a b g=>by
  have e:b=it:=by simpa using g
  subst e;refine eak a fun o e c d=>?_;exact⟨o,e,fun v z=>by rw[d]at z;cases z⟩
 keep:=fun i h F a k=>by refine eaa a fun o e r=>?_;exact⟨o,k it O4 o e,r⟩
 item:=by intro X C n D B i S s O H E I l a q;subst C n D;refine eam (l it O4) fun N M Z L J G=>?_;refine(W X.A (I.ok.hd B)).item i s _ _ q a fun v F R V j m=>?_;refine eah V fun c u y U=>?_;subst U;have I1:Inv X S O H {s with heap:=F,toks:=R}:=I.turned (fun b o g e=>m b o (by simpa using g) e) N M L J G;refine eak (id j) fun o e c1 d=>?_;exact⟨_,rfl,A4 e c1 d Y (ii (.str ⟨#[c]⟩) H (⟨I1,⟨u,rfl⟩,⟨rfl,c,y,rfl⟩,j,fun b g=>(l b g).1⟩))⟩
 done:=by intro X C n D B i S s O H E I l a q;subst C n D;refine eam (l it O4) fun N M Z L J G=>?_;have p:=q;subst p;exact(W X.A (I.ok.hd B)).done s _ _ a fun F R m=>⟨rfl,I.turned (fun b o g e=>m b o (by simpa using g) e) N M L J G⟩
 self:=fun A i s Q E a h=>f A i s Q E a h
section
variable {X:Cx} {tg:Zr}
def iStr (b:TE):TI:=fun a H R=>b a H fun v c=>∃x,v= .str x/\R (Its x) c
def HQ(r:PE X l tl):PI X tg l (iStr tl):=by
 intro i s m H R I h;refine thn (r i s m H _ I h) ?_;refine fun v a=>fac fun y g c n p=>?_;refine eaa p fun x e q=>?_;subst e;obtain⟨t,rfl⟩:=n;have k:∀b∈[a.heap.objs.size],xR X i g b:=fun b u=>by
  have e:b=a.heap.objs.size:=by simpa using u
  subst e;exact c.fpOk (cJ _) (c.hok.fresh (cJ _))
 cases j:x.cps.all (·<128)
 ·refine wpAny_pyIter_wide j ?_;exact iab a.heap.objs.size ([a.heap.objs.size]) _ _ g (⟨rfl,c.kept fun b o e=>fM _ e,zj _ "str_iterator" x t O3 (fun A f=>Walks.strWide f _ x t) (fun _ _ _ _ _ d h=>wpAny_pyIter_striter_wide d h),⟨_,fK _ rfl,rfl,rfl⟩,k,q⟩)
 ·refine wpAny_pyIter_ascii j ?_;exact iab a.heap.objs.size ([a.heap.objs.size]) _ _ g (⟨rfl,c.kept fun b o e=>fM _ e,zj _ "str_ascii_iterator" x t O3 (fun A f=>Walks.strAscii f _ x t) (fun _ _ _ _ _ d h=>wpAny_pyIter_striter_ascii d h),⟨_,fK _ rfl,rfl,rfl⟩,k,q⟩)
end
noncomputable def blk (X:Cx) (N:Zd) (a:Scope) (f:List (Str×Zx)) (C:Zx) (b:Zy) (c:Hp) (e:List Zx) (d:Za):Cx:=
 {X with N:=N,s₀:=b,H₀:=c,env:=compEnvC a f C X.env,outer:=X.stack,stack:=X.stack,ex:=e,fn:=fun _=>false,pn:=X.pn++d,xe:=fun _ _=>False}
def PTs (X:Cx) (d:List Zr) (t:TT):Prop:=
 ∀b s (a:St) H Q,Inv X b a H s->t a H Q->
  L8 (model X.prog X.w) X.A (forIn d true fun c r=>if r=true then do let ok<-isTrue c X.env (eval c X.env);pure (ForInStep.yield ok)else pure (ForInStep.yield r)) (TP X b a Q) X.xe s
def sE:TT:=fun _ H Q=>Q true H
def kS:PTs X [] sE:=fun b s a H Q I h=>Ma ⟨H,I,h⟩
def yg(h:PT X c t):PTs X [c] t:=fun b s a H Q I d=>wpAny_tests_one (h b s a H Q I d)
structure qF (X:Cx) (N:Zd) (scope:Scope) (cl:List (Str×Zx)) (f:St->St) (i:Nat) (x:Str):Prop where
 kind:scope.kind= .function
 cell:∀y∈scope.names,y.2≠ .cell
 names:∀y∈scope.names,y.2= .local->scope.names.lookup y.1=some .local
 clos:Nt scope X.env=pure cl
 lk:∀y c,cl.lookup y=some c->X.env.cells.lookup y=some c
 has:∀y,((relabel scope X.env).names.lookup y=some .cell\/(relabel scope X.env).names.lookup y=some .free)->∃c,cl.lookup y=some c
 nd:N.Nodup
 ix:N[i]?=some x
 loc:scope.names.lookup x=some .local
 len:∀σ,σ.length=X.N.length->(f σ).length=N.length
 val:∀(σ:St) (k:Nat) (y:Str) (v:V),N[k]?=some y->(f σ)[k]?=some (some v)->∃j:Nat,X.N[j]?=some y/\σ[j]?=some (some v)/\X.env.scope.names.lookup y=some .cell/\(relabel scope X.env).names.lookup y=some .cell
def BA{f:St->St} (B:qF X N scope cl f i x) {F:St} {m:Zc}
  (I:Inv X pz F H s) (g:∀b∈Y,xR X pz H b/\b<s.heap.objs.size) (a:∀b o,s.heap.get? b=some o->h₁.get? b=some o) (U:h₁.Ns s.heap.objs.size m):
  Inv (blk X N scope cl s.heap.objs.size s H Y pz) [] (f F) H {s with heap:=h₁,toks:=tk}:=by
 have w:∀b,b≠X.env.locals->b∉X.fs->b∉frs X.stack:=fun b E t q=>(ao.mp (I.stkSub b q)).elim E t;have R:∀y c,X.env.cells.lookup y=some c->c<s.heap.objs.size:=fun y c e=>by refine eah (I.cell y c e) fun v o A _=>?_;exact fJ A
 refine⟨⟨I.ok.mod,B.kind,I.ok.glob,I.ok.blt,cJ _,fun y z c E t=>I.ok.inj y z c (B.lk y c E) (B.lk z c t),fun y T=>B.has y T,fun y c h=>(nomatch h),I.ok.hd,I.ok.frames,.inl rfl,fun b q=>?_,I.bs,cF I.ok.bsz I.sz,fun b o e q=>?_,fun b q=>?_,I.stack,I.stkFree⟩,
  rfl,I.bare,Un.kept a,⟨m,U,fun k y v e1 Z e3=>?_⟩,fun y c e=>?_,I.hok.fresh (cJ _),fun y c e=>I.freeC y c (B.lk y c e),fun p M=>?_,I.hok.kept a,B.len F I.len⟩;·obtain⟨⟨_,_,_,_,L,_⟩,S⟩:=g b q;exact⟨cE S,fun y c e=>L y c (B.lk y c e)⟩
 ·obtain⟨⟨_,_,_,G,_,_⟩,_⟩:=g b q;rcases G with z|z;·exact I.ok.noex b o e z
  ·exact absurd (cC (fJ (I.ok.bs b o e).1) z) (cD _)
 ·obtain⟨⟨_,t,J,_,_,_⟩,_⟩:=g b q;exact w b t J
 ·refine eau (B.val F k y v e1 Z) fun j E t J G=>?_;refine eaa I.loc fun m' _ V=>?_;refine eaa (V j y v E t (.inr (.inl J))) fun u r l=>?_;refine⟨u,r,?_⟩;rcases l with⟨W,_⟩|⟨_,c,L,z⟩;·have C:X.env.scope.names.lookup y=some .local:=W;rw[J]at C;cases C
  ·obtain⟨O,D⟩:=B.has y (.inl G);have e:=du.inj ((B.lk y O D).symm.trans L);subst e;refine eaa z fun o A K=>?_;exact .inr ⟨.inl G,O,D,o,a _ o A,K⟩
 ·refine eah (I.cell y c (B.lk y c e)) fun v o A K=>?_;exact ii v o ⟨a _ o A,K⟩
 ·rw[aF]at M;refine eae (I.pin p M) fun e n Q P d=>?_;exact⟨a _ _ e,n,cE (fJ e),w _ Q P,d⟩
theorem iC {a:Env}:∀{b:List (Str×NameKind)} {x:Str} {k:NameKind},
  (b.map fun(n,k)=>if(k==MR&&a.scope.kind== .function&&a.kindOf n==some .cell)then(n,Nu)else(n,k)).lookup x=some k->
  ∃c,b.lookup x=some c/\(k=c\/(c= .free/\k= .cell))
 |[],_,_,h=>by simp at h
 |(n,c)::r,x,k,h=>by
  have g:=@iC a r x k;have h:aC x ((if(c==MR&&a.scope.kind== .function&&a.kindOf n==some .cell)=true then(n,Nu)else(n,c))::(r.map fun(n,k)=>if(k==MR&&a.scope.kind== .function&&a.kindOf n==some .cell)then(n,Nu)else(n,k)))=some k:=h
  cases d:x==n with
  |true=>
   by_cases hc:(c==MR&&a.scope.kind== .function&&a.kindOf n==some .cell)=true
   ·rw[ig hc]at h;simp only[bt,d]at h⊢;have i:c= .free:=by have e:=hc;simp only[fg]at e;exact eq_of_beq e.1.1
    exact⟨c,rfl,.inr ⟨i,(du.inj h).symm⟩⟩
   ·rw[gZ hc]at h;simp only[bt,d]at h⊢;exact⟨c,rfl,.inl (du.inj h).symm⟩
  |false=>
   have j:(r.map fun(n,k)=>if(k==MR&&a.scope.kind== .function&&a.kindOf n==some .cell)then(n,Nu)else(n,k)).lookup x=some k:=by
    by_cases hc:(c==MR&&a.scope.kind== .function&&a.kindOf n==some .cell)=true;·rw[ig hc]at h;simp only[bt,d]at h;exact h
    ·rw[gZ hc]at h;simp only[bt,d]at h;exact h
   refine eaa (g j) fun f m l=>?_;exact⟨f,by simp only[bt,d];exact m,l⟩
theorem jj {a:Env} (j:a.scope.kind= .function):∀{b:List (Str×NameKind)} {x:Str},a.scope.names.lookup x=some .cell->b.lookup x=some .free->
  (b.map fun(n,k)=>if(k==MR&&a.scope.kind== .function&&a.kindOf n==some .cell)then(n,Nu)else(n,k)).lookup x=some .cell
 |[],_,_,h=>by simp at h
 |(n,k0)::r,x,hc,h=>by
  have i:=@jj a j r x hc;show aC x ((if(k0==MR&&a.scope.kind== .function&&a.kindOf n==some .cell)=true then(n,Nu)else(n,k0))::_)=_
  cases c:x==n with
  |true=>
   simp only[bt,c]at h;cases h;have e:=eq_of_beq c;have f:a.kindOf n=some .cell:=by rw[<-e];exact hc
   simp[bt,c,j,f]
  |false=>
   simp only[bt,c]at h;by_cases hq:(k0==MR&&a.scope.kind== .function&&a.kindOf n==some .cell)=true;·rw[ig hq];simp only[bt,c];exact i h
   ·rw[gZ hq];simp only[bt,c];exact i h
def DM(o:scope.kind= .function) (d:∀p∈scope.names,p.2≠ .cell/\p.2≠ .free) (n:∀y∈scope.names,y.2= .local->scope.names.lookup y.1=some .local)
  (l:scope.names.lookup x=some .local) (q:Nt scope X.env=pure []):qF X [x] scope [] (fun _=>[none]) 0 x where
 kind:=o
 cell:=fun y j=>(d y j).1
 names:=n
 clos:=q
 lk:=fun y c h=>by simp at h
 has:=fun y h=>by
  rcases h with h|h
  ·refine eaa (iC h) fun i e z=>?_;have m:=d _ (Mn e);rcases z with z|⟨z,_⟩;·exact absurd z.symm m.1
   ·exact absurd z m.2
  ·refine eaa (iC h) fun i e z=>?_;have m:=d _ (Mn e);rcases z with z|⟨z,_⟩;·exact absurd z.symm m.2
   ·exact absurd z m.2
 nd:=by simp
 ix:=rfl
 loc:=l
 len:=fun _ _=>rfl
 val:=fun r k y v s f=>by
  cases k with
  |zero=>simp at f
  |succ k=>simp at f
def blk1(B:scope.kind= .function) (r:∀p∈scope.names,p.2≠ .cell/\(p.2= .free->p.1=y)) (A:∀y∈scope.names,y.2= .local->scope.names.lookup y.1=some .local)
  (l:scope.names.lookup x=some .local) (g:scope.names.lookup y=some .free) (D:Nt scope X.env=pure [(y,c0)]) (s:X.env.cells.lookup y=some c0) (n:X.env.scope.kind= .function) (b:X.env.scope.names.lookup y=some .cell)
  (C:X.N[j]?=some y):qF X [x,y] scope [(y,c0)] (fun f=>[none,f.getD j none]) 0 x where
 kind:=B
 cell:=fun y g=>(r y g).1
 names:=A
 clos:=D
 lk:=fun z c h=>by
  cases e:z==y with
  |true=>simp only[bt,e]at h;have d:=eq_of_beq e;rw[d,s];exact h
  |false=>simp only[bt,e,List.lookup_nil]at h;cases h
 has:=fun z h=>by
  have d:z=y:=by
   rcases h with h|h
   ·refine eaa (iC h) fun w e q=>?_;have m:=r _ (Mn e);rcases q with q|⟨q,_⟩;·exact absurd q.symm m.1
    ·exact m.2 q
   ·refine eaa (iC h) fun w e q=>?_;have m:=r _ (Mn e);rcases q with q|⟨q,_⟩;·exact m.2 q.symm
    ·exact m.2 q
  exact⟨c0,by rw[d];simp[bt]⟩
 nd:=by
  have e:x≠y:=fun e=>by rw[e,g]at l;cases l
  simp[e]
 ix:=rfl
 loc:=l
 len:=fun _ _=>rfl
 val:=fun f k z v E t=>by
  cases k with
  |zero=>simp at t
  |succ k=>
   cases k with
   |zero=>
    have d:z=y:=by simpa using E.symm
    subst d;have e:f.getD j none=some v:=by simpa using t
    rw[bu]at e;refine⟨j,C,?_,b,jj n b g⟩
    cases q:f[j]? with
    |none=>rw[q]at e;cases e
    |some o=>rw[q]at e;exact congrArg some e
   |succ k=>simp at t
def LcP (J:It) (i:Nat) (j:TT) (l:TE) (Q:VK) (h:St) (o:Hp) (D:Zx):Prop:=
 ∃W:Nat->Nat->St->Hp->Prop,(∃m,W 0 m h (upd o D (.lst [])))/\∀k m a c,W k m a c->
  (J.stop k c/\Q (.ref D) c)\/(J.go k c/\∀v g,J.yld k c v g->j (a.set i (some v)) g fun n f=>if n=true
   then l (a.set i (some v)) f fun y e=>∃d,e D=some (.lst d)/\d.length<sizeLine/\∃b,b<m/\W (k+ 1) b (a.set i (some v)) (upd e D (.lst (d++[y])))
   else ∃b,b<m/\W (k+ 1) b (a.set i (some v)) f)
def tLC (c:TI) (f:St->St) (i:Nat) (d:TT) (e:TE):TE:=fun a H Q=>c a H fun J b=>∀D,b D=none->LcP J i d e Q (f a) b D
def BB{f:St->St} {Qp:Zb} {σ:St}
  (hc:X.calm=true) (B:qF X N scope cl f i x) (hi:PI X (.Name x px) iter wi)
  (htt:∀C E F ex l,PTs (blk X N scope cl C E F ex l) ifs tt) (hte:∀C E F ex l,PE (blk X N scope cl C E F ex l) elt te)
  (hs:∀x,Nh iter X.env x=pure x) (I:Inv X l σ H s) (h:tLC wi f i tt te σ H Q)
  (fin:∀fl a Y H3 P d (m:Zc),Inv X l σ H3 a->Inv X l σ P Y->P a.heap.objs.size=none->Y.heap.Ns a.heap.objs.size m->Q (.ref d) P->
   compPost (model X.prog X.w) X.A X.xe use Qp (.ref d) a.heap.objs.size (.ok fl) Y):
  L8 (model X.prog X.w) X.A (comprehension (.ListComp elt [⟨.Name x px,iter,ifs,0⟩] scope pos) scope X.env pos' (newList []) false (eval iter X.env) use) Qp X.xe s:=by
 refine wpAny_comprehension_free rfl hs B.clos B.kind B.names (thn (hi l s σ H _ I h) fun xv s1 h1=>thn h1 fun itv j h2=>?_);refine eao h2 fun it t tn J R=>fag fun z0 I2 T st2 f2 q=>?_;subst z0;have hD:=I2.fresh;refine eaa (q _ hD) fun W y0 turn=>?_;obtain⟨m0,w0⟩:=y0;refine MI (wpAny_newFunctionEnv B.cell (by intro y hy;simp at hy) (fun M A w=>?_) B.kind);have I3:=I2.lnew (t':=j.toks) .nil (cK _);have lt2:∀b∈t,b<j.heap.objs.size:=fun b g=>by refine eaa (T.obj _ _ st2 b g) fun o ho _=>?_;exact fJ ho
 have fp3:∀b∈t,xR X l (upd R j.heap.objs.size (.lst [])) b:=fun b g=>by refine⟨?_,(f2 b g).2⟩;rw[gy (cE (lt2 b g))];exact(f2 b g).1
 generalize hs3:({j with heap:=j.heap.push {cls:= .type "list",data:= .seq ([]:List Zz).toArray}}:Zy)=a at I3 A w⊢;have eh:j.heap.push {cls:= .type "list",data:= .seq ([]:List Zz).toArray}=a.heap:=by rw[<-hs3]
 have lt3:∀b∈t,b<a.heap.objs.size:=fun b g=>by rw[<-eh,fN];exact cQ (lt2 b g)
 have old:∀b o,a.heap.get? b=some o->M.get? b=some o:=fun b o e=>w.extBut b o (cE (fJ e)) (fM _ e);have I4:=BA (tk:=a.toks+([]:List (Str×Zz)).length) B I3 (fun b g=>⟨fp3 b g,lt3 b g⟩) old A;have st4:=T.keep _ _ _ st2 fun b _ o e=>old b o (by rw[<-eh];exact fM _ e);have fpB:∀{G:Hp},(∀b∈t,G b=none)->∀b∈t,xR (blk X N scope cl a.heap.objs.size a (upd R j.heap.objs.size (.lst [])) t l) [] G b:=fun{G} hn b g=>by refine eam (f2 b g) fun _ g2 g3 g4 g5 g6=>?_;refine⟨hn b g,cE (lt3 b g),fun z=>(ao.mp (I3.stkSub b z)).elim g2 g3,.inl g,fun y c e=>g5 y c (B.lk y c e),fun p hp=>?_⟩;rw[aF]at hp;exact g6 p hp
 have L:∀s4,s4={a with heap:=M,toks:=a.toks+([]:List (Str×Zz)).length}->
   Nx (model X.prog X.w) X.A (.compLoop (.ListComp elt [⟨.Name x px,iter,ifs,0⟩] scope pos) 0 (.ref it) (.ref j.heap.objs.size) (compEnvC scope cl a.heap.objs.size X.env))
    (compPost (model X.prog X.w) X.A X.xe use Qp (.ref j.heap.objs.size) a.heap.objs.size) s4:=by
  rintro s4 rfl;refine codeAny_compLoop_tests (I:=fun n s'=>∃k D G,Inv (blk X N scope cl a.heap.objs.size a (upd R j.heap.objs.size (.lst [])) t l) [] D G s'/\tn k s'.heap/\(∀b∈t,G b=none)/\W k n D G) ?_ m0
   (iaa 0 (f σ) _ ⟨I4,st4,fun b g=>(fp3 b g).1,w0⟩);refine fun n s5=>fah fun k S P I5 st5 fr5 w5=>?_;rcases turn k n S P w5 with⟨stop,qn⟩|⟨go,step⟩
  ·refine Mp (T.done (blk X N scope cl a.heap.objs.size a (upd R j.heap.objs.size (.lst [])) t l) rfl rfl rfl hc k [] s5 S P _ I5 (fpB fr5) st5 stop) (fun r Y h6=>?_) fun _ _ z=>z;obtain⟨hr,I6⟩:=h6;subst hr;refine eaa (id I6.loc) fun m6 hn6 _=>?_;have I7:=I3.call' I6.os I6.base I6.hok I6.bare fun b g=>by refine eam (f2 b g) fun _ g2 g3 g4 g5 g6=>?_;exact⟨g4,g2,g5,g6⟩
   exact fin _ a Y _ P _ m6 I3 I7 I6.free hn6 qn
  ·refine Mp (T.item (blk X N scope cl a.heap.objs.size a (upd R j.heap.objs.size (.lst [])) t l) rfl rfl rfl hc k [] s5 S P _ I5 (fpB fr5) st5 go) (fun r Y h6=>?_) fun _ _ z=>z;obtain⟨u,hr,h6⟩:=h6;subst hr;show L8 _ _ (pure () >>= fun _=>assign (.Name x px) (compEnvC scope cl a.heap.objs.size X.env) u) _ _ Y;refine C8 (Mp (h6) (fun _ s7 h7=>?_) fun _ _ z=>z);refine eas h7 fun v H7 I7 r7 y7 V fr7=>?_;have I7':=I7.pinned (fpB fr7) (T.obj _ _ V);refine NP (oq I7' B.nd B.ix (.inl (MN B.loc)) r7 (fun s8 I8=>?_) (.inr (MN B.loc)));have O:∀{K:St} {H9:Hp} {s9:Zy},Inv (blk X N scope cl a.heap.objs.size a (upd R j.heap.objs.size (.lst [])) t l) ([]++uu t s7.heap) K H9 s9->(∃Z,Z<n/\W (k+ 1) Z K H9)->
     ∃Z,Z<n/\∃k D G,Inv (blk X N scope cl a.heap.objs.size a (upd R j.heap.objs.size (.lst [])) t l) [] D G s9/\tn k s9.heap/\(∀b∈t,G b=none)/\W k Z D G:=fun{K H9 s9} I9 q9=>by refine eaa q9 fun Z hm w9=>?_;refine⟨Z,hm,k+ 1,K,H9,I9.unpinned,T.keep _ _ _ V fun b g o e=>(I9.pin (b,o) (aA _ (aA _ (lT g e)))).1,fun b g=>?_,w9⟩;refine eaa (T.obj _ _ V b g) fun o e d=>?_;exact(I9.pin (b,o) (aA _ (aA _ (lT g e)))).2.1
   refine Mp (htt _ _ _ _ _ _ s8 _ H7 _ I8 (step v H7 y7)) (fun ok s9 h9=>?_) fun _ _ z=>Mt z;refine eaa h9 fun H9 I9 q9=>?_
   cases ok with
   |false=>rw[gZ fc];rw[gZ fc]at q9;exact O I9 q9
   |true=>rw[ig rfl];rw[ig rfl]at q9;refine Mp (hte _ _ _ _ _ _ s9 _ H9 _ I9 q9) (fun y s10 h10=>?_) fun _ _ z=>Mt z;refine eaq h10 fun U H10=>fae fun I10 r10=>faa fun xs=>fae fun hx10 hz q10=>?_;refine Mp (gX (X:=blk X N scope cl a.heap.objs.size a (upd R j.heap.objs.size (.lst [])) t l) _ s10 _ H10 (.ref j.heap.objs.size) [U] _ [y] (fun _ H11=>H11=upd H10 j.heap.objs.size (.lst (xs++[U]))) I10 rfl (.cons r10 .nil) (iaa _ xs U ⟨rfl,rfl,hx10,hz,rfl⟩)) (fun _ s11 h11=>?_) fun _ _ z=>Mt z;refine eap h11 fun _ H11 I11 _ e11=>?_;subst e11;exact O I11 q10
 exact codeAny_compStart_list (L _ rfl) (T.self _ 0 _ _ _ st4 (L _ rfl))
def qG{f:St->St}
  (F:X.calm=true) (B:qF X N scope cl f i x) (E:PI X (.Name x px) iter wi)
  (l:∀C a g r j,PTs (blk X N scope cl C a g r j) ifs tt) (n:∀C a g r j,PE (blk X N scope cl C a g r j) elt te)
  (y:autoParam (∀x,Nh iter X.env x=pure x) auI._auto_1):PE X (.ListComp elt [⟨.Name x px,iter,ifs,0⟩] scope pos) (tLC wi f i tt te):=by
 intro j s M H Q I h;rw[eval_ListComp];refine BB F B E l n y I h fun S P O T L d m k K J D u=>?_;refine⟨m,D,fun R t=>(ii (.ref d) L ⟨?_,rfl,u⟩)⟩;exact Inv.turned K (fun b o G e=>(t.2 b G).trans e) J (cH k.lt) (.inr k.sz) (fun z c e q=>by obtain⟨v,w⟩:=k.cell z c e;exact absurd (q▸w.lt) (cD _)) fun p A q=>absurd (q▸fJ (k.pin p A).1) (cD _)
def HR{a:St} (p:V->Bool) (g:V->V) (F:H1 D=none) (K:xs.length<=sizeLine) (hτ:a.set i none=a)
  (s:∀k H,gJ H1 H->k<xs.length->J.go k H) (C:∀k H v d,gJ H1 H->J.yld k H v d->d=H/\xs[k]?=some v) (q:∀H,gJ H1 H->J.stop xs.length H)
  (l:∀(k:Nat) v H R,xs[k]?=some v->gJ H1 H->R (p v) H->tt (a.set i (some v)) H R)
  (n:∀(k:Nat) v H R,xs[k]?=some v->p v=true->gJ H1 H->R (g v) H->te (a.set i (some v)) H R)
  (E:∀d,gJ H1 d->d D=some (.lst ((xs.filter p).map g))->Q (.ref D) d):LcP J i tt te Q a H1 D:=by
 have c:∀o,gJ H1 (upd H1 D o):=fun o b u e=>by rw[gy (gv e F)];exact e
 refine⟨fun k m f w=>m=xs.length-k/\k<=xs.length/\(∃o,f=a.set i o)/\w=upd H1 D (.lst (((xs.take k).filter p).map g)),⟨xs.length,O4,cK _,⟨none,hτ.symm⟩,O4⟩,?_⟩;refine fun k m f w=>fam fun A L B z=>?_;subst A;obtain⟨o,x⟩:=B;subst x;subst z;by_cases hlt:k<xs.length
 ·refine .inr ⟨s k _ (c _) hlt,fun v G y=>?_⟩;obtain⟨e,j⟩:=C k _ v G (c _) y;subst e;rw[bw];refine l k v _ _ j (c _) ?_;have t:=take_succ_filter p xs k v j;have I:((xs.take k).filter p).length<=k:=by refine cF (bx _ _) ?_;rw[aM];lia
  cases r:p v with
  |true=>rw[ig rfl];refine n k v _ _ j r (c _) ?_;refine⟨_,f7,by rw[aE];lia,xs.length-(k+ 1),O2,rfl,hlt,⟨some v,rfl⟩,?_⟩;rw[uY,t,r,ig rfl,bq];rfl
  |false=>rw[gZ fc];refine⟨xs.length-(k+ 1),O2,rfl,hlt,⟨some v,rfl⟩,?_⟩;rw[t,r,gZ fc,aF]
 ·have e:k=xs.length:=O2
  subst e;refine .inl ⟨q _ (c _),E _ (c _) ?_⟩;rw[f7,bA]
section
variable {X:Cx}
def DN {b:List Bool}:∀{a:List Zz},ja (b.map V.bl) a->a=b.map MM:=by
 induction b with
 |nil=>intro a r;rw[aW]at r;cases r;rfl
 |cons n f e=>
  intro a r;rw[aD]at r
  cases r with
  |cons d c=>cases(d);rw[e c];rfl
def Aj (a:List Bool):((aa a.length).all fun i=>(a[i]?).getD true)=a.all id:=by
 induction a with
 |nil=>rfl
 |cons b r c=>rw[aB,bB,ba,bC,ba,<-c];rfl
def Ak{h a:Zt} (d:∀b x,b∉[h.objs.size]->(h.push o).get? b=some x->a.get? b=some x):∀b x,h.get? b=some x->a.get? b=some x:=
 fun b x e=>d b x (fun c=>by rw[bo.mp c]at e;exact cD _ (fJ e)) (fM _ e)
def DO (w:X.calm=true):oG X (.builtin "all") (fun k H Q=>∃(a:Zx) (c:List Bool),k=[.ref a]/\SqL X.K H a (c.map V.bl)/\Q (.bl (c.all id)) H):=by
 intro G s C H k D Q I r h;refine eap h fun a c f x q=>?_;subst f;refine eaa (mO r) fun u f n=>?_;subst f;cases n;refine eak (I.list x) fun p m o J=>?_;have z:=DN m;subst z;have j:=o.isList;have g:a<s.heap.objs.size:=by refine eaa j fun _ e _=>?_;exact fJ e
 refine call_all_walk (NQ j ?_);refine iad s.heap.objs.size ([s.heap.objs.size,a]) ([s.heap.objs.size]) ((c.map MM).toArray.size) _ _ (fun i=>(c[i]?).getD true) (⟨rfl,Walks.list (A:=X.A.in1) (I.ok.hd w) _ a (cE g) (c.map MM).toArray,⟨⟨_,fK _ rfl,rfl,rfl⟩,j.push _⟩,fun i v F L M y l=>?_,fun K E t=>?_⟩)
 ·have d:(c.map MM)[i]?=some v:=by simpa using y
  rw[aP]at d
  cases e:c[i]? with
  |none=>rw[e]at d;cases d
  |some b=>rw[e]at d;have B:=(du.inj d).symm;subst B;simp only[e,Option.getD_some]at l;exact ME l
 ·have e:((aa (c.map MM).toArray.size).all fun i=>(c[i]?).getD true)=c.all id:=by rw[aY,aE];exact Aj c
  rw[e];exact ii (.bl (c.all id)) H ⟨I.kept (Ak t),rfl,q⟩
def rSlS:V->Option Int->Option Int->Hp->VK->Prop:=fun x a b H Q=>∃z,x= .str z/\z.length<=sizeLine/\Q (.str (Nn z a b)) H
def Eu:SlR X rSlS:=by
 intro o s g H x v A y r w B Q I n d p f h;refine eak h fun z m c q=>?_;subst m;obtain⟨t,rfl⟩:=n;refine ii ("str") _ ⟨F.slot_str_getitem.lookup,NN _ _ _,?_⟩;have b:∀a k,EP X o g Q (.str (Nn z r w) a) {s with toks:=k}:=fun a k=>(ii (.str _) H (⟨I.tok k,⟨a,rfl⟩,q⟩))
 cases p with
 |none=>
  cases f with
  |none=>exact Nk (l:=none) (u:=none) (st:=none) d rfl (post_val_or_str ⟨cF (NK z _ _) c,fun a k=>b a k⟩)
  |int j u=>exact Nk (l:=none) (u:=some (j,u)) (st:=none) d rfl (post_val_or_str ⟨cF (NK z _ _) c,fun a k=>b a k⟩)
 |int i e=>
  cases f with
  |none=>exact Nk (l:=some (i,e)) (u:=none) (st:=none) d rfl (post_val_or_str ⟨cF (NK z _ _) c,fun a k=>b a k⟩)
  |int j u=>exact Nk (l:=some (i,e)) (u:=some (j,u)) (st:=none) d rfl (post_val_or_str ⟨cF (NK z _ _) c,fun a k=>b a k⟩)
def mQ:oG X (.builtin "isinstance") (fun e H Q=>∃x v c t b,e=[x,v]/\(∀u,i7 v u->u=c)/\x6 X.K H x t/\dR X.K t c=some b/\Q (.bl b) H):=by intro o s m H e n Q I r h;refine eao h fun x v c t b=>faj fun a l j k q=>?_;subst a;refine eap (Bc r) fun u f a i d=>?_;subst a;cases l f d;exact Bi I i j k fun g=>(ii (.bl b) H ⟨I.tok g,rfl,q⟩)
end
section
variable {X:Cx}
def BC:List V->List V->Bool
 |[],[]=>true
 |x::xs,y::ys=>eqV x y&&BC xs ys
 |_,_=>false
theorem uG:∀xs c,xs.length=c.length->((aa xs.length).all fun j=>match xs[j]?,c[j]? with|some a,some b=>eqV a b|_,_=>false)=BC xs c
 |[],[],_=>rfl
 |x::xs,y::c,h=>by
  have e:xs.length=c.length:=by simpa using h
  have d:=uG xs c e;rw[aB,bB,ba,bC];show(eqV x y&&_)=(eqV x y&&BC xs c);rw[<-d];rfl
 |[],_::_,h=>by simp at h
 |_::_,[],h=>by simp at h
theorem zk:∀xs a,xs.length≠a.length->BC xs a=false
 |[],[],h=>absurd rfl h
 |x::xs,y::a,h=>by have b:xs.length≠a.length:=fun e=>h (by simp[e]);show(eqV x y&&BC xs a)=false;rw[zk xs a b,fh]
 |[],_::_,_=>rfl
 |_::_,[],_=>rfl
def LN (K:Zp) (e:Bool):R2:=fun x y H Q=>∃a b d c,x= .ref a/\y= .ref b/\SqL K H a d/\SqL K H b c/\d.all nG=true/\c.all nG=true/\Q (.bl (if e then !BC d c else BC d c)) H
def BD(h:xs.all nG=true) {j:Nat} (e:xs[j]?=some x):nG x=true:=bD.mp h x (aQ e)
def sF (r:X.A.units<M8):OpR X (Mw .Eq) (LN X.K false):=by
 intro W s V H x y v u Q I D C h;refine ead h fun a b d c=>fap fun w t L K S R q=>?_;subst w;subst t;cases D;cases C;refine eak (I.list L) fun m n p Z=>?_;refine eak (I.list K) fun l i k J=>?_;have G:=n.length;have Y:=i.length;by_cases hl:d.length=c.length
 ·refine SeqAt.eq_listAt (e:=fun j=>match d[j]?,c[j]? with|some a,some b=>eqV a b|_,_=>false) p.isList k.isList (by simp only[aY];lia) r (fun j N M=>?_) ?_
  ·have g:j<d.length:=by simp only[aY]at N;lia
   have f:j<c.length:=by simp only[aY]at M;lia
   refine eaa (n.get (bE g)) fun B U F=>?_;refine eaa (i.get (bE f)) fun A T E=>?_;have P:m.toArray[j]=B:=by have z:=(av.mp U).2;simpa using z
   have O:l.toArray[j]=A:=by have z:=(av.mp T).2;simpa using z
   rw[P,O];simp only[bE g,bE f];exact zi F E (BD S (bE g)) (BD R (bE f))
  ·have e:((aa m.toArray.size).all fun j=>match d[j]?,c[j]? with|some a,some b=>eqV a b|_,_=>false)=BC d c:=by rw[aY,<-G];exact uG d c hl
   rw[e];exact ii (.bl (BC d c)) H ⟨I,rfl,q⟩
 ·refine SeqAt.eq_list_lengthsAt p.isList k.isList (by simp only[aY,bne_iff_ne,ne_eq];lia) r ?_;refine ii (.bl false) H ⟨I,rfl,?_⟩;have e:=zk d c hl;have o:=q;rw[e]at o;exact o
open Builtin Builtin.Str in
def HS {prog:Zu} {w:Zv} {E:Zb} {s:Zy} {x:Str} {t u:Tok} {Q:Zb} (hy:(y.length==0)=false)
  (h:∀l k,l.map (·.1)=MS x y->Q (.ref s.heap.objs.size) {s with heap:=s.heap.push {cls:= .type "list",data:= .seq (strValues l).toArray},toks:=k}) (hsz:x.length+ 2<=sizeLine):
  L8 (model prog w) A (call (.builtin "str.split") [.str x t,.str y u]) Q E s:=by
 have hn:(partsBetween x (occurrences x y 0 x.length (x.length+ 1)) y.length).length<=sizeLine:=by have e1:=StrLaws.occ_length_le x y 0 x.length (x.length+ 1);rw[length_partsBetween];lia
 cases h1:(decide (x.length<y.length)||decide (strKind x<strKind y))
 ·cases hf:(occurrences x y 0 x.length (x.length+ 1)).isEmpty;·refine Nr F.slot_str_split (NN _ _ _) F.entry_str_split (F.args_str_split_2 _ _) (meets_str_split_sep x y t u h1 hy hf O2 hn) ?_;show wants Q E _ {s with toks:=_,heap:=s.heap.push {cls:= .type "list",data:= .seq (strsFrom s.toks (partsBetween x (occurrences x y 0 x.length (x.length+ 1)) y.length)).toArray}};rw[strsFrom_eq];exact h (numbered s.toks _) _ ((numbered_texts _ _).trans ((gZ (ne_true_of_eq_false h1)).trans (gZ (ne_true_of_eq_false hf))).symm)
  ·exact Nr F.slot_str_split (NN _ _ _) F.entry_str_split (F.args_str_split_2 _ _) (meets_str_split_not_found x y t u h1 hy hf)
    (h [(x,t)] s.toks ((gZ (ne_true_of_eq_false h1)).trans (ig hf)).symm)
 ·exact Nr F.slot_str_split (NN _ _ _) F.entry_str_split (F.args_str_split_2 _ _) (meets_str_split_cannot_occur x y t u h1)
   (h [(x,t)] s.toks (ig h1).symm)
theorem wN:∀l:List (Str×Tok),ja ((l.map (·.1)).map V.str) (strValues l)
 |[]=> .nil
 |p::r=> .cons ⟨p.2,rfl⟩ (wN r)
def sG (x y:Str):(MS x y).length<=x.length+ 2:=by
 unfold MS;split;·show 1<=_;lia
 ·split;·show 1<=_;lia
  ·have a:=StrLaws.occ_length_le x y 0 x.length (x.length+ 1);rw[length_partsBetween];lia
def HU:V->List V->Hp->VK->Prop:=fun x a H Q=>∃z y,x= .str z/\a=[.str y]/\(y.length==0)=false/\z.length+ 2<=sizeLine/\∀l,H l=none->Q (.ref l) (upd H l (.lst ((MS z y).map V.str)))
def DP:MtR X "str.split" HU:=by intro r s m H x n v o Q I e g h;refine eas h fun z y a d i b q=>?_;subst a;subst d;obtain⟨t,rfl⟩:=e;refine eaa (mO g) fun u a f=>?_;subst a;obtain⟨p,rfl⟩:=f;refine HS i (fun l k j=>?_) b;have c:=wN l;rw[j]at c;exact ii (.ref s.heap.objs.size) _ ⟨I.lnew c (by rw[aE];exact cF (sG z y) b),rfl,q _ I.fresh⟩
def PE1 (X:Cx) (e:Zr) (t:TE):Prop:=
 ∀c s (a:St) H Q,Inv X c a H s->1<=s.toks->t a H Q->L8 (model X.prog X.w) X.A (eval e X.env) (fun u b=>1<=b.toks/\EP X c a Q u b) X.xe s
def PE.one {e:Zr} {t:TE} (h:PE X e t):PE1 X e t:=fun b s a H Q I d c=>Mp (wpAny_toks_of d (h b s a H Q I c)) (fun _ _ z=>z) fun _ _ z=>z.2
def Ki (b:TE) (y z:Str):TE:=fun a H Q=>b a H fun v c=>∃x,v= .str x/\x.length+(x.length+ 1)*z.length<=16777216/\Q (.str (Txt.replace x y z)) c
def vi {o:Zr} {to:TE} {z:Str} {k1 k2 p1 p2 apos cpos} (ho:PE1 X o to) (hyz:(y==z)=false)
  (hbase:autoParam (M9 o "replace" X.env (eval o X.env)=eval o X.env) auR._auto_1)
  (hfew:((MK cpos (Mj [.Constant (.str y) k1 p1,.Constant (.str z) k2 p2] X.env)).all (fun x=>!x.1)&&(backToKw cpos (Ny [] X.env)).all (fun x=>x.1.isSome)
   &&decide (([.Constant (.str y) k1 p1,.Constant (.str z) k2 p2]:List Zr).length+([]:List Keyword).length+(if([]:List Keyword).isEmpty then 0 else 1)<30))=true:=by rfl)
  (hline:autoParam ((apos.endLine==cpos.line)=true) auR._auto_1):PE1 X (.Call (.Attribute o "replace" apos) [.Constant (.str y) k1 p1,.Constant (.str z) k2 p2] [] cpos) (Ki to y z):=by intro pz s σ H Q I ht h;refine wpAny_Call_method_late hbase hfew hline rfl (thn (ho pz s σ H _ I ht h) fun v s1 q1=>?_);refine eab q1 fun ht1=>fL fun v1 H1=>fae fun I1 r1=>faa fun x=>fae fun z0 hb q=>?_;subst z0;obtain⟨t,rfl⟩:=r1;refine ii ("str") ("str.replace") ⟨F.plainAttrs_str,F.slot_str_replace,F.type_str_replace,NN _ _ _,(fun _ e=>nomatch e),?_⟩;refine Calls.callWith_builtin rfl (Calls.evalArgs_plain ?_);show L8 _ _ (spliced ((false,eval (.Constant (.str y) k1 p1) X.env)::MK cpos (Mj [.Constant (.str z) k2 p2] X.env))) _ _ s1;refine NF (Calls.Constant_str ?_);show L8 _ _ (spliced ((false,eval (.Constant (.str z) k2 p2) X.env)::MK cpos (Mj [] X.env))) _ _ _;refine NF (Calls.Constant_str (Calls.spliced_nil ?_));refine Mp (wpAny_toks_of (by lia) (SC.replace (Nat.pos_iff_ne_zero.mp ht1) (Nat.succ_ne_zero _) (cE (cO _)) hyz hb fun t' k=>⟨.str _,H1,?_,⟨t',rfl⟩,q⟩)) (fun _ _ z=>z) fun _ _ z=>z.2;exact I1.tok k
def Hg (X:Cx) (st:List Zq) (t:TS):Prop:=
 ∀b s (a:St) H D,Inv X b a H s->1<=s.toks->t D a H->L8 (model X.prog X.w) X.A (execs st X.env) (SP X b D) X.xe s
def DQ(t:X.N.Nodup) (o:X.N[i]?=some x) (k:Loc X.env.scope x) (r:PE1 X e te) (n:PSs X rest u)
  (m:autoParam (ND e (some (.Name x pos')) b.line X.env=pure false) auR._auto_1) (p:autoParam (X.fn x=true\/X.env.scope.names.lookup x=some .local) auL._auto_1):
  Hg X (.Assign [.Name x pos'] e b::rest) (pZ (Dp te (gU i)) u):=by intro c s d H D I l h;refine wpAny_execs_cons (wpAny_Assign_Name (thn (r c s d H _ I l h) fun v B j=>?_) m);refine eab j fun _=>fL fun y A=>fae fun z g q=>?_;exact oq z t o k g (fun f w=>n c f _ A D w q) p
theorem Hg.nox {st:List Zq} {t:TS} (h:Hg X.nox st t):Hg X st t:=fun b s a H D I d c=>
 Mp (h b s a H D (I.wish _) d c) (fun _ _ q=>q.unwish) fun _ _ z=>Mt z
end
def HV{K:Zp} {C:Zz} (lk:K.lookup f=some ⟨oc,od,.func (ee l d g j scope O C m G T h R),osl⟩) (hcd:eA K h d=true) (S:gE N [p] scope)
  (nc:∀x∈scope.names,x.2≠ .cell) (U:∀n,cellsFrom n scope.names []=[]) (W:∀vs H Q E,sp vs H Q E->vs.length=1)
  (L:∀A i s H vs Q E,nM k (A.deeper (envOfC d scope s.heap.objs.size f h))->sp vs H Q E->
   ∃t,Hg (Dq CX P w K mg base N d scope f h A i s H E) j t/\t {nx:=fun _ F=>Q .non F,rt:=Q} (rP N vs) H):
  uC P w K mg base CX (k+ 1) f (ee l d g j scope O C m G T h R) [p] sp:=by
 refine⟨W,fun A i s H args us vs Q E hr e0 hb r X=>?_⟩;have hl:=W _ _ _ _ X;have hul:us.length=1:=by rw[<-r.length];exact hl
 obtain⟨u,rfl⟩:=bF.mp hul;have KX:=e0.mod.kin.keeps fun b o e=>(e0.bs b o e).1;have lim:=e0.mod.nolimit.keeps fun b o e=>(e0.bs b o e).1;have Y:scope.names.lookup p=some .local:=by
  rcases S.par p O4 with q|q;·exact q
  ·exact absurd rfl (nc _ (Mn q))
 refine codeAny_call_function hr.depth (KX _ _ lk) rfl S.co S.gen rfl (eB KX hcd) (hb _ _ _ _ ?_);refine wpAny_newFunctionEnv nc (fun x hx=>?_) (fun h' hn D=>?_) S.kind
 ·have e:x=(p,u):=by simpa using hx
  rw[e];exact Y
 have B:∀b o,s.heap.get? b=some o->h'.get? b=some o:=fun b o e=>D.extBut b o (cE (fJ e)) (fM _ e);refine⟨lim.keeps B,codeAny_func ?_⟩;refine eaa (L A i s H vs Q E (hr.deeper _) X) fun t ht hq=>?_;have em:(fun x=>(bG [p] [u]).reverse.lookup x)=bindL (envOfC d scope s.heap.objs.size f h).kindOf (bG [p] [u]) fun _=>none:=by
  funext x;show(match x==p with|true=>some u|false=>none)=(if(envOfC d scope s.heap.objs.size f h).kindOf p=some .local then fun y=>if y=p then some u else none else fun _=>none) x;rw[ig (show(envOfC d scope s.heap.objs.size f h).kindOf p=some .local from Y)]
  cases e:x==p with
  |true=>rw[ig (eq_of_beq e)]
  |false=>rw[gZ (ne_of_beq_false e)]
 have x:InCallC s s.heap.objs.size (bindL (envOfC d scope s.heap.objs.size f h).kindOf (bG [p] [u]) fun _=>none) (cellsFrom (s.heap.objs.size+ 1) scope.names []) (bindC (envOfC d scope s.heap.objs.size f h).kindOf (bG [p] [u]) fun _=>none)
   {s with heap:=h',toks:=s.toks+(bG [p] [u]).length}:=by rw[U];refine⟨⟨(ii h' _ rfl),?_,B,cJ _⟩,fun n c e=>by simp at e,List.Pairwise.nil,fun n c e=>by simp at e⟩;rw[<-em];exact hn
 have I:Inv (Dq CX P w K mg base N d scope f h A i s H E) [] (rP N vs) H {s with heap:=h',toks:=s.toks+(bG [p] [u]).length}:=wF S hr.hd e0 hl r x;have eenv:newEnv (ee l d g j scope O C m G T h R).scope s.heap.objs.size (ee l d g j scope O C m G T h R).globals (ee l d g j scope O C m G T h R).closure
   ((ee l d g j scope O C m G T h R).qualname++".<locals>.") (some f) (ee l d g j scope O C m G T h R).code none (ee l d g j scope O C m G T h R).builtins=envOfC d scope s.heap.objs.size f h:=by unfold envOfC;rw[U];rfl
 rw[eenv];have go:=ht [] _ (rP N vs) H _ I (by show 1<=s.toks+ 1;lia) hq;refine Mp go (fun fl s' D=>?_) fun e s' D=>D;have Z:∀{z:St} {F:Hp} {v:V} {u:Zz},Inv (Dq CX P w K mg base N d scope f h A i s H E) [] z F s'->i7 v u->Q v F->CE i P w H s Q u s':=
  fun{z F v u} J rv q=>(ii v F ⟨J.os,J.bare,J.base,J.hok,rv,q⟩)
 cases fl with
 |ret u=>refine eai D fun v z F J rv q=>?_;exact Z J rv q
 |next=>refine eah D fun z F J q=>?_;exact Z (v:=V.non) J rfl q
 |brk=>refine eah D fun _ _ _ q=>?_;exact Mt q
 |cont=>refine eah D fun _ _ _ q=>?_;exact Mt q
section
variable {X:Cx} {st:Zq} {rest:List Zq} {t u:TS}
end
section
variable {P:Zu} {w:Zv} {H H':Hp} {h h':Zt} {a:Zx} {o:HO}
end
structure Fl (P:Zu) (w:Zv) (outer:List Env) (H:Hp) (s:Zy) (B:Zt) (H':Hp) (s':Zy):Prop where
 os:s'.os=s.os
 bare:AllBare s'.gens
 un:Un (frs outer) [] H H' s.heap s'.heap
 hok:HOk P w H' s'.heap
 stay:B.StaysIn s'.heap
 trk:∀b u,H' b=some u->∃o,B.get? b=some o
 old:∀b o,s.heap.get? b=some o->b∉frs outer->∃o',B.get? b=some o'
section
variable {X:Cx} {pz:Za} {σ:St} {H H':Hp} {s s':Zy} {B h:Zt}
def Inv.track {a:Zx} {o:HO} (I:Inv X l σ H s) (y:H a=none) (D:X.s₀.heap.get? a=none) (B:a≠X.env.locals) (C:∀x c,X.env.cells.lookup x=some c->c≠a) (A:∀p∈X.pn++l,p.1≠a)
  (j:kb X.prog X.w (upd H a o) s.heap a o):Inv X l σ (upd H a o) s:=by
 have g:∀b u,H b=some u->b≠a:=fun b u e z=>by rw[z,y]at e;cases e
 refine⟨I.ok,I.os,I.bare,⟨I.base.keep,I.base.slot,fun b i e n w=>?_,I.base.there,fun b k e=>?_,fun b i u e=>?_,fun b r e=>?_⟩,I.loc,I.cell,?_,fun x c e=>?_,fun p m=>?_,fun b u e=>?_,I.len⟩;·rw[gy (fun z=>by rw[z,D]at e;cases e)];exact I.base.free b i e n w
 ·have f:=I.base.tups b k e;rw[gy (g b _ f)];exact f
 ·have f:=I.base.frzs b i u e;rw[gy (g b _ f)];exact f
 ·obtain⟨h,f⟩:=I.base.tbls b r e;exact⟨h,by rw[gy (g b _ f)];exact f⟩
 ·rw[gy (Mu B)];exact I.free
 ·rw[gy (C x c e)];exact I.freeC x c e
 ·refine eae (I.pin p m) fun e n v t d=>?_;exact⟨e,by rw[gy (A p m)];exact n,v,t,d⟩
 ·by_cases hb:b=a;·subst hb;rw[f7]at e;cases e;exact j
  ·rw[gy hb]at e;exact(I.hok b u e).stay (fun _ _ _ q=>q) (fun c z=>by rw[gy (g c _ z)];exact z) fun c k z=>by rw[gy (g c _ z)];exact z
end
section
variable {P:Zu} {w:Zv} {K:Zp} {mg:Zc} {base:Zt} {N:Zd} {qual:Str} {scope:Scope} {f:Zx} {cd:Zz} {A:Zw} {outer:List Env} {s₀:Zy} {H₀:Hp} {E:XK}
end
def FJ:List Zz:=[.type "ValueError",.type "Exception",.type "BaseException",.type "object"]
abbrev ExcV (K:Zp) (C:Zx):Prop:=PySem.W.excIn K C FJ "ValueError.__new__"=true
section
variable {X:Cx} {C:Zx} {E:XK} {x:Str} {np cpos pos:Pos} {e:Zr} {es:List Zr} {t:TA}
end
section
variable {P:Zu} {w:Zv} {K:Zp} {mg:Zc} {base:Zt}
end
section
variable {X:Cx} {pz:Za} {σ:St} {H:Hp} {s:Zy}
end
section
variable {X:Cx} {CX:CXT} {k:Nat} {f Y:Zx} {fd:Zs} {ps:Zd} {sp:Sp} {dvs:List V} {ds:List Zz} {E:XK} {x y n:Str} {p pos pos' py hpos tpos:Pos} {e:Zr} {es:List Zr} {t:TA} {b₀:Zq} {body:List Zq} {tb:TS} {i:Nat}
end
section
variable {X:Cx} {e:Zr} {es:List Zr} {te:TE} {pos:Pos}
end
section
variable {X:Cx}
def wO:oG X (.type "int") (fun b H Q=>∃x n,b=[.str x]/\intText? x=some n/\x.length<=640/\Q (.int n) H):=by intro i s f H b g Q I r h;refine eaj h fun x n a d e q=>?_;subst a;refine eaa (mO r) fun u a c=>?_;subst a;obtain⟨t,rfl⟩:=c;exact PySem.W.KIN.call_text d e (ii (.int n) H (⟨I.tok _,⟨_,rfl⟩,q⟩))
end
inductive Dt where
 |flat (v:V)
 |tup (l:List Dt)
 |lst (l:List Dt)
mutual
inductive At (K:Zp) (H:Hp):V->Dt->Prop where
 |flat {v:V} (h:nG v=true):At K H v (.flat v)
 |tup {a:Zx} {xs:List V} {ds:List Dt} (h:SqT K H a xs) (hs:Ats K H xs ds):At K H (.ref a) (.tup ds)
 |lst {a:Zx} {xs:List V} {ds:List Dt} (h:SqL K H a xs) (hs:Ats K H xs ds):At K H (.ref a) (.lst ds)
inductive Ats (K:Zp) (H:Hp):List V->List Dt->Prop where
 |nil:Ats K H [] []
 |cons {x:V} {d:Dt} {xs:List V} {ds:List Dt} (h:At K H x d) (hs:Ats K H xs ds):Ats K H (x::xs) (d::ds)
end
mutual
def eqD:Dt->Dt->Bool
 | .flat a,.flat b=>eqV a b
 | .tup l,.tup m=>yh l m
 | .lst l,.lst m=>yh l m
 |_,_=>false
def yh:List Dt->List Dt->Bool
 |[],[]=>true
 |x::xs,y::ys=>eqD x y&&yh xs ys
 |_,_=>false
end
mutual
def rB:Dt->Dt->Bool
 | .flat _,.flat _=>true
 | .tup l,.tup m=>tZ l m
 | .lst l,.lst m=>if l.length=m.length then tZ l m else true
 |_,_=>false
def tZ:List Dt->List Dt->Bool
 |x::xs,y::ys=>rB x y&&tZ xs ys
 |_,_=>true
end
mutual
def vk:Dt->Nat
 | .flat _=>0
 | .tup l=>i8 l+ 1
 | .lst l=>i8 l+ 1
def i8:List Dt->Nat
 |[]=>0
 |x::xs=>max (vk x) (i8 xs)
end
theorem Ats.length {K:Zp}:∀{xs:List V} {a:List Dt},Ats K H xs a->xs.length=a.length
 |_,_,.nil=>rfl
 |_,_,.cons _ t=>by rw[aB,aB,Ats.length t]
theorem Ats.get {K:Zp} {H:Hp}:∀{xs:List V} {a:List Dt} {j:Nat} {x:V},Ats K H xs a->xs[j]?=some x->∃d,a[j]?=some d/\At K H x d
 |_,_,0,_,.cons h _,e=>⟨_,rfl,by cases e;exact h⟩
 |_,_,j+ 1,_,.cons _ t,e=>Ats.get (j:=j) t e
 |_,_,_,_,.nil,e=>by simp at e
theorem vt:∀l m,l.length≠m.length->yh l m=false
 |[],[],h=>absurd rfl h
 |x::xs,y::ys,h=>by rw[yh,vt xs ys (fun e=>h (by rw[aB,aB,e])),fh]
 |[],y::ys,_=>by rw[yh];all_goals simp
 |x::xs,[],_=>by rw[yh];all_goals simp
def Am (l m:List Dt) (j:Nat):Bool:=match l[j]?,m[j]? with
 |some a,some b=>eqD a b
 |_,_=>false
theorem qH:∀l m,l.length=m.length->((aa l.length).all fun j=>Am l m j)=yh l m
 |[],[],_=>by rw[yh];rfl
 |x::xs,y::ys,h=>by have a:=qH xs ys (by simpa using h);rw[aB,bB,ba,bC,yh,<-a];rfl
 |[],_::_,h=>by simp at h
 |_::_,[],h=>by simp at h
theorem nP:∀{l m:List Dt} {j:Nat} {a b:Dt},tZ l m=true->l[j]?=some a->m[j]?=some b->rB a b=true
 |x::xs,y::ys,0,a,b,h,e1,e2=>by rw[tZ,fg]at h;cases e1;cases e2;exact h.1
 |x::xs,y::ys,j+ 1,a,b,h,e1,e2=>by rw[tZ,fg]at h;exact nP h.2 e1 e2
 |[],_,_,_,_,_,e1,_=>by simp at e1
 |_::_,[],_,_,_,_,_,e2=>by simp at e2
theorem depDs_get:∀{l:List Dt} {j:Nat} {a:Dt},l[j]?=some a->vk a<=i8 l
 |x::xs,0,a,e=>by cases e;rw[i8];exact Nat.le_max_left ..
 |x::xs,j+ 1,a,e=>by rw[i8];exact cF (depDs_get (j:=j) e) (Nat.le_max_right ..)
 |[],_,_,e=>by simp at e
def BE(h:nG v=true):eqV v v=true:=by
 cases v with
 |non=>rfl
 |bl b=>show(b==b)=true;simp
 |int i=>show(i==i)=true;simp
 |str x=>show(x==x)=true;simp
 |_=>exact absurd h fc
section
variable {X:Cx} {pz:Za} {σ:St} {H:Hp} {s:Zy}
mutual
theorem At.same (I:Inv X pz σ H s):∀{x:V} {d e:Dt},At X.K H x d->At X.K H x e->rB d e=true->eqD d e=true
 |_,_,_,.flat h,k,c=>by
  cases k with
  |flat _=>rw[eqD];exact BE h
  |tup _ _=>exact absurd h fc
  |lst _ _=>exact absurd h fc
 |_,_,_,.tup h hs,k,c=>by
  cases k with
  |flat h=>exact absurd h fc
  |tup h' hs'=>have e:=I.tuple_inj h h';subst e;rw[rB]at c;rw[eqD];exact Ats.same I hs hs' c
  |lst _ _=>simp[rB]at c
 |_,_,_,.lst h hs,k,c=>by
  cases k with
  |flat h=>exact absurd h fc
  |tup _ _=>simp[rB]at c
  |lst h' hs'=>have e:=I.list_inj h h';subst e;rw[rB,ig (hs.length.symm.trans hs'.length)]at c;rw[eqD];exact Ats.same I hs hs' c
theorem Ats.same (I:Inv X pz σ H s):∀{xs:List V} {l m:List Dt},Ats X.K H xs l->Ats X.K H xs m->tZ l m=true->yh l m=true
 |_,_,_,.nil,k,_=>by cases k;rw[yh]
 |_,_,_,.cons h t,k,c=>by
  cases k with
  |cons h' t'=>rw[tZ,fg]at c;rw[yh,At.same I h h' c.1,Ats.same I t t' c.2];rfl
end
def Els (K:Zp) (H:Hp) (A:Zw) (s:Zy) (d c:List Dt):Prop:=
 ∀(j:Nat) b a x y u v,d[j]?=some b->c[j]?=some a->i7 x u->i7 y v->At K H x b->At K H y a->SeqAt.EqAt A s u v (eqD b a)
def els(r:ja xs its) (d:ja ys its2) (t:Ats X.K H xs ds) (c:Ats X.K H ys es) (z:Els X.K H A s ds es):
  ∀j (f:j<its.toArray.size) (e:j<its2.toArray.size),SeqAt.EqAt A s its.toArray[j] its2.toArray[j] (Am ds es j):=fun j f e=>by
 have C:=r.length;have B:=d.length;have b:j<xs.length:=by simp only[aY]at f;lia
 have a:j<ys.length:=by simp only[aY]at e;lia
 refine eaa (r.get (bE b)) fun m y o=>?_;refine eaa (d.get (bE a)) fun l x n=>?_;refine eaa (t.get (bE b)) fun k h q=>?_;refine eaa (c.get (bE a)) fun i g p=>?_;have v:its.toArray[j]=m:=by simpa using(av.mp y).2
 have u:its2.toArray[j]=l:=by simpa using(av.mp x).2
 have w:Am ds es j=eqD k i:=by unfold Am;rw[h,g]
 rw[v,u,w];exact z j k i _ _ _ _ h g o n q p
def FL(b:n=ds.length) (a:m=es.length):((aa (min n m)).all (Am ds es)&&n==m)=eqD (.tup ds) (.tup es):=by
 subst b a;rw[eqD];by_cases hl:ds.length=es.length;·rw[<-qH ds es hl,<-hl,Nat.min_self];simp
 ·rw[vt ds es hl,beq_eq_false_iff_ne.mpr hl,fh]
def FN(a:n=ds.length) (h:ds.length=es.length):((aa n).all (Am ds es))=eqD (.lst ds) (.lst es):=by subst a;rw[eqD,<-qH ds es h]
def Ew(I:Inv X pz σ H s) (h:SqT X.K H a xs) (n:Ats X.K H xs ds) (q:SqT X.K H b ys) (f:Ats X.K H ys es) (m:A.units<M8) (t:Els X.K H A.in1 s ds es):
  SeqAt.RcAt A s (.ref a) (.ref b) (eqD (.tup ds) (.tup es))/\SeqAt.RcNeAt A s (.ref a) (.ref b) (!eqD (.tup ds) (.tup es)):=by
 refine eak (I.tuple h) fun g r j _=>?_;refine eak (I.tuple q) fun d i c _=>?_;have e:=els r i n f t;have p:g.toArray.size=ds.length:=by rw[aY,<-r.length,n.length]
 have o:d.toArray.size=es.length:=by rw[aY,<-i.length,f.length]
 have l:=SeqAt.RcAt.tuples j c m e;have k:=SeqAt.RcNeAt.tuples j c m e;rw[FL p o]at l k;exact⟨l,k⟩
def Ex(I:Inv X pz σ H s) (h:SqL X.K H a xs) (q:Ats X.K H xs ds) (t:SqL X.K H b ys) (g:Ats X.K H ys es) (n:A.units<M8) (u:ds.length=es.length->Els X.K H A.in1 s ds es):
  SeqAt.RcAt A s (.ref a) (.ref b) (eqD (.lst ds) (.lst es))/\SeqAt.RcNeAt A s (.ref a) (.ref b) (!eqD (.lst ds) (.lst es)):=by
 refine eak (I.list h) fun f r j _=>?_;refine eak (I.list t) fun d p c _=>?_;have k:f.toArray.size=ds.length:=by rw[aY,<-r.length,q.length]
 have o:d.toArray.size=es.length:=by rw[aY,<-p.length,g.length]
 by_cases hl:ds.length=es.length;·have e:=els r p q g (u hl);have m:=SeqAt.RcAt.lists j.isList c.isList (by rw[k,o,hl]) n e;have l:=SeqAt.RcNeAt.lists j.isList c.isList (by rw[k,o,hl]) n e;rw[FN k hl]at m l;exact⟨m,l⟩
 ·have i:(f.toArray.size !=d.toArray.size)=true:=by rw[k,o];exact bne_iff_ne.mpr hl
  have m:=SeqAt.RcAt.lists_lengths j.isList c.isList i n;have l:=SeqAt.RcNeAt.lists_lengths j.isList c.isList i n;rw[eqD,vt ds es hl];exact⟨m,l⟩
def Ey (I:Inv X pz σ H s):∀n A {x y:V} {u v:Zz} {d e:Dt},i7 x u->i7 y v->At X.K H x d->At X.K H y e->rB d e=true->vk d<=n->A.units+n<M8->SeqAt.EqAt A s u v (eqD d e):=by
 intro n
 induction n with
 |zero=>
  intro A x y u v d e k i z l c o F
  cases z with
  |flat h=>
   cases l with
   |flat g=>rw[eqD];exact zi k i h g
   |tup _ _=>simp[rB]at c
   |lst _ _=>simp[rB]at c
  |tup _ _=>rw[vk]at o;lia
  |lst _ _=>rw[vk]at o;lia
 |succ n C=>
  intro A x y u v d e k i z l c o F
  cases z with
  |flat h=>
   cases l with
   |flat g=>rw[eqD];exact zi k i h g
   |tup _ _=>simp[rB]at c
   |lst _ _=>simp[rB]at c
  |@tup a E K h m=>
   cases l with
   |flat _=>simp[rB]at c
   |lst _ _=>simp[rB]at c
   |@tup b D J g f=>
    cases k;cases i;by_cases hab:a=b;·subst hab;rw[At.same I (.tup h m) (.tup g f) c];exact SeqAt.EqAt.same _
    ·rw[rB]at c;rw[vk]at o;refine SeqAt.EqAt.of_refs hab (Ew I h m g f O2 fun j M L x y u v p B r q w t=>?_).1;exact C A.in1 r q w t (nP c p B) (cF (depDs_get p) O2) (by lia)
  |@lst a E K h m=>
   cases l with
   |flat _=>simp[rB]at c
   |tup _ _=>simp[rB]at c
   |@lst b D J g f=>
    cases k;cases i;by_cases hab:a=b;·subst hab;rw[At.same I (.lst h m) (.lst g f) c];exact SeqAt.EqAt.same _
    ·rw[vk]at o;refine SeqAt.EqAt.of_refs hab (Ex I h m g f O2 fun G j M L x y u v p B r q w t=>?_).1;rw[rB,ig G]at c;exact C A.in1 r q w t (nP c p B) (cF (depDs_get p) O2) (by lia)
def LO (K:Zp) (c:Bool):R2:=fun x y H Q=>∃a b d e,x= .ref a/\y= .ref b/\At K H x d/\At K H y e/\rB d e=true/\vk d<=100/\Q (.bl (if c then !eqD d e else eqD d e)) H
def rcD(I:Inv X pz σ H s) (z:At X.K H (.ref a) d) (q:At X.K H (.ref b) e) (c:rB d e=true) (r:vk d<=100) (G:A.units+ 101<M8):
  SeqAt.RcAt A s (.ref a) (.ref b) (eqD d e)/\SeqAt.RcNeAt A s (.ref a) (.ref b) (!eqD d e):=by
 cases z with
 |flat h=>exact absurd h fc
 |@tup a w D h n=>
  cases q with
  |flat h=>exact absurd h fc
  |lst _ _=>simp[rB]at c
  |@tup b t C o f=>rw[rB]at c;rw[vk]at r;refine Ew I h n o f O2 fun j F E x y u v g p k i m l=>?_;exact Ey I 100 A.in1 k i m l (nP c g p) (cF (depDs_get g) O2) (by lia)
 |@lst a w D h n=>
  cases q with
  |flat h=>exact absurd h fc
  |tup _ _=>simp[rB]at c
  |@lst b t C o f=>rw[vk]at r;refine Ex I h n o f O2 fun B j F E x y u v g p k i m l=>?_;rw[rB,ig B]at c;exact Ey I 100 A.in1 k i m l (nP c g p) (cF (depDs_get g) O2) (by lia)
end
section
variable {X:Cx}
def BF(n:nM k X.A):OpR X (Mw .NotEq) (LO X.K true):=by intro r s p H x y v u Q I j i h;refine ead h fun a b d e=>fap fun g f m l c o q=>?_;subst g;subst f;cases j;cases i;have t:=n.un;exact(rcD I m l c o O2).2 _ _ _ _ (ii (.bl _) H ⟨I,rfl,q⟩)
end
def BG (P:Zu) (w:Zv) (K:Zp) (a:Zx) (b:List (Key×V)):Prop:=(a==MB)=false/\∃c,KV b c/\∀h,K.In h->h.DictOf (jB P w) a c
def zl{K:Zp} {l:List (Str×Tok×Zx)} (q:(a==MB)=false) (m:K.lookup a=some ⟨.type "dict",none,.dict es n,#[]⟩)
  (d:es.toList=l.map fun p=>⟨Mg w.params p.1,.str p.1 p.2.1,.ref p.2.2⟩) (i:(l.map (·.1)).Nodup):BG P w K a (l.map fun p=>(Me p.1,V.ref p.2.2)):=by
 refine⟨q,l.map fun p=>(Me p.1,Ml p.2.2),?_,fun h o=>?_⟩
 ·clear d i
  induction l with
  |nil=>exact .nil
  |cons p r g=>exact .cons ⟨rfl,rfl⟩ g
 ·refine iaa _ es n (⟨o _ _ m,⟨rfl,rfl,rfl⟩,rfl,fun e k=>?_,?_,?_⟩)
  ·have c:e∈es.toList:=by simpa using k
   rw[d]at c;refine eaa (bh.mp c) fun p _ j=>?_;subst j;exact⟨Me p.1,sg p.1 p.2.1,rfl⟩
  ·rw[d];clear d i
   induction l with
   |nil=>exact .nil
   |cons p r g=>exact .cons (sg p.1 p.2.1) rfl g
  ·rw[bH];have e:(List.map ((fun x=>x.1)∘fun p=>((Me p.1:Key),Ml p.2.2)) l)=(l.map (·.1)).map (Me:Str->Key):=by rw[bH];rfl
   rw[e];exact List.Pairwise.map _ (fun a b h z=>h (Nv z)) i
def FP (a:Zx) (b:List (Key×V)) (d e:TE):TE:=fun c H Q=>d c H fun y g=>e c g fun x f=>∃k,x= .ref a/\y=kV k/\Q (.bl (!(jL b k).isSome)) f
def Kj (a:Zx) (b:List (Key×V)) (e d:TE):TE:=fun c H Q=>e c H fun x g=>d c g fun y f=>∃k v,x= .ref a/\y=kV k/\jL b k=some v/\Q v f
section
variable {X:Cx} {o i:Zr} {pos:Pos} {td ty:TE} {a:Zx} {kvs:List (Key×V)}
def BH (d:BG X.prog X.w X.K a kvs) (r:PE X i ty) (q:PE X o td):PC X .NotIn i o (FP a kvs ty td):=by intro e s c H Q I h;refine thn (r e s c H _ I h) fun E g ⟨y,B,z,j,n⟩=>thn (q e g c B _ z n) ?_;refine fun u D=>fL fun x A=>fae fun f l=>faa fun k=>fae fun v t m=>?_;subst v t;obtain rfl:u=Ml a:=l;refine eab d fun p=>faa fun C=>f8 fun b w=>?_;refine wpAny_notIn_of (vb j) p (w _ f.kIn).mapOf ?_;rw[<-(b.val k).isSome_eq];exact ii (.bl _) A ⟨f.tok _,rfl,m⟩
def BI (d:BG X.prog X.w X.K a kvs) (ho:PE X o td) (hi:PE X i ty) (hs:Ka i:=by exact fun _ _=>rfl):PE X (.Subscript o i pos) (Kj a kvs td ty):=by intro pz s σ H Q I h;refine Bn eK.lookup hs (thn (ho pz s σ H _ I h) fun u s1 ⟨x,H1,I1,rx,q1⟩=>thn (hi pz s1 σ H1 _ I1 q1) ?_);refine fun iv s2=>fL fun y H2=>fae fun I2 ry=>fL fun k v=>fam fun ex ey hv q2=>?_;subst ex ey;obtain rfl:u=Ml a:=rx;refine eab d fun _=>faa fun vs=>f8 fun rel dd=>?_;refine eaa (uX.some_of (by rw[<-hv];exact rel.val k)) fun w' hw rw'=>?_;exact⟨(dd _ I2.kIn).typeIs,wpAny_getItem_of (vb ry) (dd _ I2.kIn).mapOf hw (ii v H2 ⟨I2.tok _,rw',q2⟩)⟩
end
section
variable {X:Cx}
end
section
variable {X:Cx} {k:Nat} {f Y:Zx} {fd:Zs} {ps:Zd} {sp:Sp} {dvs:List V} {ds:List Zz} {x y n:Str} {p pos pos' py hpos tpos pn:Pos} {e:Zr} {es:List Zr} {t:TA} {b₀:Zq} {body:List Zq} {tb:TS} {i:Nat}
end
end L2.Internal
namespace L2.Internal
end L2.Internal
namespace L2.Internal
variable {X:Cx} {a z j j1 j2:Zx} {xs ys:Array Zz} {es:List Zr} {kk i k1:Nat} {tp pos:Pos} {scope:Scope} {Q:Zb}
open PySem PySem.Spec PyProof.Rows
section
variable {X:Cx} {pz:Za} {σ:St} {H:Hp} {s:Zy} {h':Zt}
def Inv.turnedL {t':Nat} {ch:List Zx} (I:Inv X pz σ H s) (k:∀b o,b∉ch->s.heap.get? b=some o->h'.get? b=some o) (f:∀b∈ch,xR X pz H b):Inv X pz σ H {s with heap:=h',toks:=t'}:=by
 have d:∀b u,H b=some u->b∉ch:=fun b u e z=>by have q:=(f b z).1;rw[q]at e;cases e
 refine I.step (fun b i=>?_) (fun b o _ _ a e _=>k b o a e) (fun b o _ _ a e _=>⟨o.slots,k b o a e⟩) (fun _ _ _ _ n=>n)
  (fun b o a e=>⟨o,k b o a e⟩) (fun _ _ e=>e) (fun _ _ _ e=>e) (fun b y e=>⟨#[],by rw[e];simp⟩) (fun m h=>?_) (fun b u e=>?_) I.bare;·refine eam (f b i) fun _ t _ p l j=>?_;exact⟨p,t,l,j⟩
 ·refine eaf h fun o w x g r=>?_;exact iaa o w x ⟨k _ o (fun z=>(f _ z).2.1 rfl) g,r⟩
 ·refine(I.hok b u e).stay (fun c v a q=>k c v ?_ q) (fun _ q=>q) fun _ _ q=>q;rcases a with z|z;·rw[z];exact d b u e
  ·exact d c _ z
def Inv.pairNew {T:Zx} {h:Zt} {tk:Nat} {b a:Zz} {x y:V} (I:Inv X pz σ H s) (c:s.heap.objs.size<=T) (J:Inv X pz σ H {s with heap:=h,toks:=tk}) (g:y8 h T #[b,a]) (e:i7 x b) (d:i7 y a):
  H T=none/\Inv X pz σ (upd H T (.tup [x,y])) {s with heap:=h,toks:=tk}:=by
 have f:=I.fpOk c (I.hok.fresh c);refine⟨f.1,J.track f.1 ?_ f.2.1 f.2.2.2.2.1 f.2.2.2.2.2 ⟨by show 2<=sizeLine;decide,[b,a],.cons e (.cons d .nil),g⟩⟩
 cases q:X.s₀.heap.get? T with
 |none=>rfl
 |some o=>exact absurd (cC (fJ q) (cF I.sz c)) (cD _)
end
def HW:Mq "zip"=some (.type "zip"):=gL
def wQ:Mq "enumerate"=some (.type "enumerate"):=gL
def SqL.old {c:Za} {b:St} {H:Hp} {s:Zy} {xs:List V} (I:Inv X c b H s) (h:SqL X.K H a xs):a<s.heap.objs.size:=by refine eak (I.list h) fun d _ p _=>?_;refine eaa p.isList fun o e _=>?_;exact fJ e
section
variable {X:Cx}
end
def Ite (K:Zp) (a:Zx):It:=
 ⟨fun i H=>∃b x,SqL K H a b/\b[i]?=some x,
   fun i H v c=>∃T x,v= .ref T/\H T=none/\c=upd H T (.tup [.int (i:Int),x])/\∀b,SqL K H a b->b[i]?=some x,
   fun i H=>∃b,SqL K H a b/\i=b.length⟩
def ESt (e it a:Zx) (i:Nat) (h:Zt):Prop:=(∃b,IsEnum h e it i b)/\h.IsListIter it a i
def BJ{K:Zp} (A:e≠it) (h2:a≠e) (h3:a≠it):Ej P w K (.Tuple es kk tp) (Ite K a) [e,it] e (ESt e it a) where
 mem:=by simp
 obj:=fun i h d c b=>by
  obtain⟨⟨f,g⟩,⟨o4,j,_,d4⟩⟩:=d;simp only[ao,bI,or_false]at b;rcases b with q|q<;>subst q;·exact⟨_,g,fun v q=>nomatch q⟩
  ·exact⟨_,j,fun v q=>by rw[d4]at q;cases q⟩
 keep:=fun i h h' d k=>by obtain⟨⟨f,g⟩,j⟩:=d;exact⟨⟨f,k e O4 _ g⟩,j.at fun o q=>k it O4 o q⟩
 item:=by
  intro X R J S b i U s T H E I r d O;subst R J S;refine eah O fun xs x u Y=>?_;refine eak (I.list u) fun m D F Z=>?_;obtain⟨g,j⟩:=d;obtain⟨f,t⟩:=g;refine eaa (D.get Y) fun ux L C=>?_;have n:=fJ t;refine wpAny_pyNext_enum_item t j F.isList (by simpa using L) A fun V ho p hT hsz N=>?_;have G:∀c o,c∉[e,it]->s.heap.get? c=some o->V.get? c=some o:=fun c o b q=>N c o (fun z=>b (by simp[z])) (fun z=>b (by simp[z])) q;have J1:Inv X U T H {s with heap:=V,toks:=s.toks+ 1}:=I.turnedL G r;refine⟨.ref s.heap.objs.size,rfl,wpAny_letOwnedTupleGo_enum ho fun k2 Q B=>?_⟩;have J2:=Inv.turnedL (t':=s.toks+ 1) (ch:=[e]) J1 (fun c o b q=>(B.2 c (fun z=>b (by simp[z]))).trans q) fun c b=>r c (by simp only[ao,bI,or_false]at b⊢;simp[b]);have M:y8 k2 s.heap.objs.size #[.int i s.toks,ux]:=⟨_,(B.2 _ (cH n)).trans hT,rfl,_,rfl,rfl⟩;obtain⟨fT,J3⟩:=I.pairNew (x:= .int (i:Int)) (cJ _) J2 M ⟨s.toks,rfl⟩ C;refine ii (.ref s.heap.objs.size) _ (⟨J3,rfl,(ii _ x ⟨rfl,fT,rfl,fun l hl=>by rw[I.list_inj hl u];exact Y⟩),⟨⟨_,by simpa using Q⟩,p.at fun o y=>(B.2 it A.symm).trans y⟩,fun c b=>?_⟩);rw[gy (fun q=>?_)];·exact(r c b).1
  ·have lt:c<s.heap.objs.size:=by
    refine eaa j fun o4 e4 _=>?_;simp only[ao,bI,or_false]at b;rcases b with q|q<;>subst q;·exact n
    ·exact fJ e4
   exact absurd lt (by rw[q];exact cD _)
 done:=by
  intro X R J S b i U s T H E I r d O;subst R J S;refine eaa O fun xs u ei=>?_;refine eak (I.list u) fun m D F Z=>?_;obtain⟨g,j⟩:=d;have W:=WalksT.enumerate (prog:=X.prog) (w:=X.w) (I.ok.hd b) e it a A h2 h3 m.toArray;have l1:=D.length;have q:i=m.toArray.size:=by simp only[aY];lia
  subst q;exact W.done s _ _ ⟨g,j,F.isList⟩ fun A tk N=>⟨rfl,I.turnedL N r⟩
 self:=fun _ _ _ _ _ d h=>by obtain⟨⟨f,g⟩,_⟩:=d;exact wpAny_pyIter_enum g h
def Kk (K:Zp) (f:TA):TI:=fun c H R=>f c H fun e b=>∃a,e=[.ref a]/\(∃d,SqL K b a d)/\R (Ite K a) b
section
variable {X:Cx}
def BK{a:Zr} (A:Gl X "enumerate") (y:X.mg "enumerate"=none) (B:PA X [a] ta) (x:autoParam (Mj [a] X.env=[(false,eval a X.env)]) auR._auto_1):
  PI X (.Tuple es kk tp) (.Call (.Name "enumerate" p) [a] [] pos) (Kk X.K ta):=by
 intro r s k H R I h;refine Call_ (qb I A y wQ (fS (thn (B pos r s k H _ I h) ?_) x rfl));refine fun J m=>fac fun G C b o d=>?_;obtain⟨L,e,⟨E,d⟩,q⟩:=d;subst e;refine eaa (mO o) fun u l n=>?_;subst l;cases n;refine eak (b.list d) fun v F t D=>?_;have K:=SqL.old b d;refine call_enumerate_list t.isList fun M i f w z=>wpAny_pyIter_enum i ?_;refine iab _ _ _ _ C (⟨rfl,b.kept z,BJ (fun h=>O2) (fun h=>O2) (fun h=>O2),⟨⟨_,i⟩,f⟩,fun c g=>?_,q⟩);have j:m.heap.objs.size<=c:=by simp only[ao,bI,or_false]at g;rcases g with h|h<;>rw[h]<;>first|exact cJ _|exact Nat.le_add_right _ _
 exact b.fpOk j (b.hok.fresh j)
end
def LcG (J:It) (g:TG) (j:TE) (Q:VK) (i:St) (n:Hp) (D:Zx):Prop:=
 ∃W:Nat->Nat->St->Hp->Prop,(∃m,W 0 m i (upd n D (.lst [])))/\∀k m b c,W k m b c->
  (J.stop k c/\Q (.ref D) c)\/(J.go k c/\∀v h,J.yld k c v h->g v b h fun a l=>j a l fun y f=>∃d,f D=some (.lst d)/\d.length<sizeLine/\∃e,e<m/\W (k+ 1) e a (upd f D (.lst (d++[y]))))
def tLG (c:TI) (f:St->St) (g:TG) (d:TE):TE:=fun a H Q=>c a H fun J b=>∀D,b D=none->LcG J g d Q (f a) b D
def Kl(q:scope.kind= .function) (f:∀p∈scope.names,p.2≠ .cell/\p.2≠ .free) (o:∀y∈scope.names,y.2= .local->scope.names.lookup y.1=some .local)
  (n:scope.names.lookup x=some .local) (d:[x,y].Nodup) (r:Nt scope X.env=pure []):qF X [x,y] scope [] (fun _=>[none,none]) 0 x where
 kind:=q
 cell:=fun y l=>(f y l).1
 names:=o
 clos:=r
 lk:=fun y c h=>by simp at h
 has:=fun y h=>by
  rcases h with h|h
  ·refine eaa (iC h) fun j e z=>?_;have m:=f _ (Mn e);rcases z with z|⟨z,_⟩;·exact absurd z.symm m.1
   ·exact absurd z m.2
  ·refine eaa (iC h) fun j e z=>?_;have m:=f _ (Mn e);rcases z with z|⟨z,_⟩;·exact absurd z.symm m.2
   ·exact absurd z m.2
 nd:=d
 ix:=rfl
 loc:=n
 len:=fun _ _=>rfl
 val:=fun s k y v t g=>by
  match k with
  |0=>simp at g
  |1=>simp at g
  |k+ 2=>simp at g
theorem qI {z:Str}:∀{a:List (Str×Nat×Zx)},z∈a.map (·.1)->∃c,(a.map fun p=>(p.1,p.2.2)).lookup z=some c
 |[],h=>by simp at h
 |p::r,h=>by
  cases e:z==p.1 with
  |true=>exact⟨p.2.2,by simp only[aD,bt,e]⟩
  |false=>
   have q:z∈r.map (·.1):=by
    rcases ao.mp h with y|y;·rw[y]at e;simp at e
    ·exact y
   obtain⟨c,b⟩:=qI q;exact⟨c,by simp only[aD,bt,e];exact b⟩
def blkC(ns:Zd) (b:List (Str×Nat×Zx)) (d:b.map (·.1)=ns) (E:scope.kind= .function) (s:∀p∈scope.names,p.2≠ .cell/\(p.2= .free->p.1∈ns)) (D:∀y∈scope.names,y.2= .local->scope.names.lookup y.1=some .local)
  (B:scope.names.lookup x=some .local) (r:(x::ns).Nodup) (F:Nt scope X.env=pure (b.map fun p=>(p.1,p.2.2))) (n:X.env.scope.kind= .function)
  (h:∀p∈b,scope.names.lookup p.1=some .free/\X.env.cells.lookup p.1=some p.2.2/\X.env.scope.names.lookup p.1=some .cell/\X.N[p.2.1]?=some p.1):
  qF X (x::ns) scope (b.map fun p=>(p.1,p.2.2)) (fun i=>none::b.map fun p=>i.getD p.2.1 none) 0 x where
 kind:=E
 cell:=fun y A=>(s y A).1
 names:=D
 clos:=F
 lk:=fun z c q=>by have m:=Mn q;refine eaa (bh.mp m) fun p C e=>?_;cases e;exact(h p C).2.1
 has:=fun z q=>by
  refine qI ?_;rw[d];rcases q with q|q
  ·refine eaa (iC q) fun w e q=>?_;have m:=s _ (Mn e);rcases q with q|⟨q,_⟩;·exact absurd q.symm m.1
   ·exact m.2 q
  ·refine eaa (iC q) fun w e q=>?_;have m:=s _ (Mn e);rcases q with q|⟨q,_⟩;·exact m.2 q.symm
   ·exact m.2 q
 nd:=r
 ix:=rfl
 loc:=B
 len:=fun _ _=>by simp[<-d]
 val:=fun i k z v f j=>by
  cases k with
  |zero=>simp at j
  |succ k=>
   rw[<-d,bJ,aP]at f;rw[bJ,aP]at j
   cases e:b[k]? with
   |none=>rw[e]at f;cases f
   |some p=>
    rw[e]at f j;have G:=du.inj f;have g:i.getD p.2.1 none=some v:=du.inj j;subst G;refine ean (h p (aQ e)) fun I J u H=>?_;rw[bu]at g;refine⟨p.2.1,H,?_,u,jj n u I⟩
    cases q:i[p.2.1]? with
    |none=>rw[q]at g;cases g
    |some o=>rw[q]at g;exact congrArg some g
section
variable {X:Cx}
end
section
variable {X:Cx} {CX:CXT} {k:Nat} {f C:Zx} {fd:Zs} {ps:Zd} {sp:Sp} {dvs:List V} {ds:List Zz} {E:XK} {m:Str} {pos apos:Pos} {e o:Zr} {es:List Zr} {t:TA}
end
section
variable {X:Cx}
def HX:Mq "max"=some (.builtin "max"):=gL
def wR (k:X.calm=true):oG X (.builtin "sum") (fun c H Q=>∃(a:Zx) (ns:List Int),c=[.ref a]/\SqL X.K H a (ns.map V.int)/\∀n,Q (.int n) H):=by intro x s m H c t Q I r h;refine eap h fun a ns b i q=>?_;subst b;refine eaa (mO r) fun u b f=>?_;subst b;cases f;refine eak (I.list i) fun g d p y=>?_;obtain⟨o,e⟩:=(Ag d).allInts.items;have l:=p.isList;rw[e]at l;exact sum_intListG (I.ok.hd k) l fun z v w j=>(ii (.int _) H (⟨I.kept j,⟨_,rfl⟩,q _⟩))
end
def vv{j:Nat}
  (hc:X.calm=true) (B:qF X N scope cl f i x) (hi:PI X (.Name x px) iter wi)
  (u:∀C a g J k,PTs (blk X N scope cl C a g J k) ifs tt) (w:∀C a g J k,PE (blk X N scope cl C a g J k) elt te)
  (hN:X.N.Nodup) (Z:X.N[j]?=some y) (V:Loc X.env.scope y) (A:autoParam (ND (.ListComp elt [⟨.Name x px,iter,ifs,0⟩] scope pos) (some (.Name y py)) spos.line X.env=pure true) auR._auto_1) (W:autoParam (∀x,Nh iter X.env x=pure x) auI._auto_1)
  (hf:autoParam (X.fn y=true\/X.env.scope.names.lookup y=some .local) auL._auto_1):PS X (.Assign [.Name y py] (.ListComp elt [⟨.Name x px,iter,ifs,0⟩] scope pos) spos) (Dp (tLC wi f i tt te) (gU j)):=by
 intro k s K H En I h;rw[exec_Assign_Name_used _ _ _ _ A];refine C8 (wpAny_standAt (C8 ?_));refine C8 (Mp (BB hc B hi u w W I h fun fl t R H3 P d U n O fr F S=>?_) (fun _ s' Y=>Ma (Ma Y)) fun _ _ e=>e);refine eai (id F) fun r es ep E l G=>?_;have m:=cH n.lt;have I8:Inv X (k++[(t.heap.objs.size,r)]) K P R:=O.pins_of fun p D=>(aq.mp D).elim (fun z=>O.pin p (aA _ z)) fun z=>by
  have ez:p=(t.heap.objs.size,r):=by simpa using z
  subst ez;exact⟨E,fr,m,n.nofs (cJ _),fun v q=>by rw[l]at q;cases q⟩
 refine NP (oq I8 hN Z V (v:= .ref d) rfl (fun s7 M=>?_) hf);have L:=M.pin (t.heap.objs.size,r) (aA _ (aA _ O4));refine⟨U,(iaa r es ep ⟨L.1,l,G⟩),fun h' Q=>?_⟩;refine ii (K.set j (some (.ref d))) P ⟨?_,S⟩;exact Inv.turned M.unpinned (fun b o hb e=>(Q.2 b hb).trans e) L.2.1 m (.inr n.sz) (fun z c e q=>by obtain⟨v,T⟩:=n.cell z c e;exact absurd (q▸T.lt) (cD _)) fun p D q=>absurd (q▸fJ (n.pin p D).1) (cD _)
section
variable {prog:Zu} {w:Zv} {A:Zw} {E:Zb} {s:Zy}
def HY{its} (g:s.heap.IsTupleIter j t i) (d:s.heap.IsTuple t its) (e:its[i]?=some x)
  (k:∀c,c.IsTupleIter j t (i+ 1)->NC j s.heap c->Q x {s with heap:=c}):L8 (model prog w) A (Mr (.ref j)) Q E s:=by refine eak (id g) fun m b f a=>?_;refine eal d fun n=>fae fun l _=>faa fun o h=>?_;unfold Mr;refine C8 (MT g.typeIs Ng (Nq Ng g.typeIs F.entry_tuple_iterator_next ?_ (F.args_tuple_iterator_next_1 _)));show L8 _ _ (field (.ref j) 0 >>= _) _ _ s;refine C8 (Mz b a rfl ?_);show L8 _ _ (if(Ml t==MW)=true then _ else _) _ _ s;rw[gZ (show ¬((Ml t==MW)=true)from fun q=>nomatch q)];refine C8 (Mz b a rfl ?_);refine C8 (MD l h ?_);simp only[fA,e];refine C8 (wpAny_setField b a O4 (Ma ⟨x,rfl,Ma (k _ ?_ (Heap.SameBut.update ..))⟩));exact⟨_,fO _ b (Obj.isFreed_of_fields (Obj.data_mapFields a _)),(Obj.cls_mapFields ..).trans f,by rw[Obj.data_mapFields a];simp[rawInt]⟩
def An{its} (f:A.handled=none) (g:s.heap.IsTupleIter j t i) (d:s.heap.IsTuple t its) (e:its[i]?=none)
  (k:∀a x,Heap.ExtBut j s.heap a->(∃o,a.get? x=some o/\o.cls= .type "StopIteration")->E (.ref x) {s with heap:=a}):L8 (model prog w) A (Mr (.ref j)) Q E s:=by
 refine eak (id g) fun m b p c=>?_;refine eal d fun n=>fae fun l _=>faa fun r h=>?_;unfold Mr;refine C8 (MT g.typeIs Ng (Nq Ng g.typeIs F.entry_tuple_iterator_next ?_ (F.args_tuple_iterator_next_1 _)));show L8 _ _ (field (.ref j) 0 >>= _) _ _ s;refine C8 (Mz b c rfl ?_);show L8 _ _ (if(Ml t==MW)=true then _ else _) _ _ s;rw[gZ (show ¬((Ml t==MW)=true)from fun q=>nomatch q)];refine C8 (Mz b c rfl ?_);refine C8 (MD l h ?_);simp only[fA,e];refine C8 (wpAny_rule (C8 (wpAny_setField b c O4 ?_)));refine C8 ?_;simp only[newExc,newTuple];refine C8 (MI ?_ (by size_fits));refine C8 (wpAny_of_eq (by first|rfl|(unfold firstArgMember;rfl)) ?_);refine MI ?_ (by size_fits);simp only[raiseNew];refine C8 (wpAny_handled ?_);first|rw[f]|rw[f]
 exact C8 (Ma (wpAny_throw (k _ _ (((Heap.SameBut.update ..).extBut.push _).push _) ⟨_,fK _ rfl,rfl⟩)))
end
def SqT.old {c:Za} {b:St} {H:Hp} {s:Zy} {xs:List V} (I:Inv X c b H s) (h:SqT X.K H a xs):a<s.heap.objs.size:=by refine eak (I.tuple h) fun d _ p _=>?_;refine eaa p fun o e _=>?_;exact fJ e
def SI (c:String) (h:Zt) (j t:Zx) (i:Nat):Prop:=∃o,h.get? j=some o/\o.cls= .type c/\o.data= .fields #[.ref t,.int i 0]
def SI.extBut {c:String} {h a:Zt} {b t:Zx} (g:SI c h j t i) (e:Heap.ExtBut b h a) (n:j≠b):SI c a j t i:=let⟨o,e1,r⟩:=g;⟨o,e _ _ n e1,r⟩
structure Sk where
 it:String
 S:Zt->Zx->Array Zz->Prop
 Sq:Zp->Hp->Zx->List V->Prop
 ext:∀{h h':Zt} {a b:Zx} {xs:Array Zz},S h a xs->Heap.ExtBut b h h'->a≠b->S h' a xs
 push:∀{h:Zt} {a:Zx} {xs:Array Zz},S h a xs->∀o,S (h.push o) a xs
 nx:∀{prog:Zu} {w:Zv} {A:Zw} {E:Zb} {s:Zy} {j t:Zx} {i:Nat} {its:Array Zz} {x:Zz} {Q:Zb},SI it s.heap j t i->S s.heap t its->its[i]?=some x->(∀h',SI it h' j t (i+ 1)->NC j s.heap h'->Q x {s with heap:=h'})->L8 (model prog w) A (Mr (.ref j)) Q E s
 ne:∀{prog:Zu} {w:Zv} {A:Zw} {E:Zb} {s:Zy} {j t:Zx} {i:Nat} {its:Array Zz} {Q:Zb},A.handled=none->SI it s.heap j t i->S s.heap t its->its[i]?=none->(∀h' x,Heap.ExtBut j s.heap h'->(∃o,h'.get? x=some o/\o.cls= .type "StopIteration")->E (.ref x) {s with heap:=h'})->L8 (model prog w) A (Mr (.ref j)) Q E s
 iter:∀{prog:Zu} {w:Zv} {A:Zw} {E:Zb} {s:Zy} {t:Zx} {its:Array Zz} {Q:Zb},S s.heap t its->Q (.ref s.heap.objs.size) {s with heap:=s.heap.push {cls:= .type it,data:= .fields #[.ref t,.int 0 0]}}->L8 (model prog w) A (pyIter (.ref t)) Q E s
 inv:∀{X:Cx} {pz:Za} {σ:St} {H:Hp} {s:Zy} {a:Zx} {xs:List V},Inv X pz σ H s->Sq X.K H a xs->∃its,ja xs its/\S s.heap a its.toArray/\xs.length<=sizeLine
 inj:∀{X:Cx} {pz:Za} {σ:St} {H:Hp} {s:Zy} {a:Zx} {xs ys:List V},Inv X pz σ H s->Sq X.K H a xs->Sq X.K H a ys->xs=ys
 old:∀{X:Cx} {pz:Za} {σ:St} {H:Hp} {s:Zy} {a:Zx} {xs:List V},Inv X pz σ H s->Sq X.K H a xs->a<s.heap.objs.size
def tS:Sk:=⟨"tuple_iterator",Heap.IsTuple,SqT,fun a b c=>a.extBut b c,fun a o=>a.push o,fun a b c d=>HY a b c d,fun a b c d e=>An a b c d e,fun a b=>wpAny_pyIter_tuple a b,fun I q=>I.tuple q,fun I a b=>I.tuple_inj a b,fun I q=>SqT.old I q⟩
def lS:Sk:=⟨"list_iterator",Heap.IsList,SqL,fun a b c=>a.extBut b c,fun a o=>a.push o,fun a b c d=>wpAny_nextOf_list_item a b c d,fun a b c d e=>wpAny_nextOf_list_end a b c d e,fun a b=>NQ a b,fun I q=>let⟨its,r,p,z⟩:=I.list q;⟨its,r,p.isList,z⟩,fun I a b=>I.list_inj a b,fun I q=>SqL.old I q⟩
section
variable {prog:Zu} {w:Zv} {A:Zw} {E:Zb} {s:Zy}
def FQ{F l:Sk} {j d:Zx} {a:Zz} (D:ZipApart z j d j1 j2 t1 t2)
  (I:IsZip s.heap z j d .none) (gI:ML s.heap j (.ref j1) (.ref j2)) (gO:ML s.heap d a b)
  (g1:SI F.it s.heap j1 t1 k1) (g2:SI l.it s.heap j2 t2 k2) (d1:F.S s.heap t1 xs) (d2:l.S s.heap t2 ys) (ex:xs[k1]?=some x) (ey:ys[k2]?=some y)
  (k:∀i,IsZip i z j d (rawInt s.heap.objs.size)->ML i d x y->SI F.it i j1 t1 (k1+ 1)->SI l.it i j2 t2 (k2+ 1)->ML i s.heap.objs.size x y->i.objs.size=s.heap.objs.size+ 1->
   (∀c o,c≠z->c≠d->c≠j1->c≠j2->s.heap.get? c=some o->i.get? c=some o)->Q (.ref s.heap.objs.size) {s with heap:=i}):
  L8 (model prog w) A (Builtin.«zip.__next__» ⟨[.ref z],[]⟩) (fun fin s'=>∃v,fin= .done (.ret v)/\Q v s') E s:=by
 show L8 _ _ (field (.ref z) 2 >>= _) _ _ _;refine C8 (Mz I rfl rfl ?_);refine C8 (Mz I rfl rfl ?_);refine C8 (MD gI rfl ?_);refine C8 ?_;unfold MH;refine C8 (Mz I rfl rfl (Ma ?_));simp only[if_true];refine C8 (wpAny_rule (C8 (Mz I rfl rfl ?_)));refine C8 (MX I O4 fun q1 p t=>?_);replace p:IsZip q1 z j d .ellipsis:=p;refine C8 ?_;simp only[List.zipIdx_cons,List.zipIdx_nil,List.forIn_cons,List.forIn_nil];refine C8 (C8 (wpAny_onRaise ?_));refine C8 (F.nx (g1.extBut t.extBut D.i1z) (F.ext d1 t.extBut D.l1z) ex fun q2 Z B=>Ma ?_);have L:=B.extBut _ _ D.TOi1 (t.extBut _ _ D.TOz gO);refine C8 (MD L rfl (C8 (wpAny_updateSeq_pair L fun q3 q u=>?_)));replace q:ML q3 d x b:=q;refine C8 (wpAny_letGo (Ma (C8 (C8 (wpAny_onRaise ?_)))));refine C8 (l.nx (((g2.extBut t.extBut D.i2z).extBut B.extBut D.i12.symm).extBut u.extBut D.TOi2.symm) (l.ext (l.ext (l.ext d2 t.extBut D.l2z) B.extBut D.l2i1) u.extBut D.l2TO) ey fun q4 X N=>Ma ?_);have K:=N.extBut _ _ D.TOi2 q;refine C8 (MD K rfl (C8 (wpAny_updateSeq_pair K fun h g M=>?_)));replace g:ML h d x y:=g;refine C8 (wpAny_letGo (Ma (Ma (C8 (MD g rfl (C8 (wpAny_newTuple ?_)))))));have sz:h.objs.size=s.heap.objs.size:=by rw[M.1,N.1,u.1,B.1,t.1]
 have H:=M.extBut _ _ D.TOz.symm (N.extBut _ _ D.i2z.symm (u.extBut _ _ D.TOz.symm (B.extBut _ _ D.i1z.symm p)));have U:∀c o,c≠z->c≠d->c≠j1->c≠j2->s.heap.get? c=some o->h.get? c=some o:=fun c o m R T S e=>
  M.extBut _ _ R (N.extBut _ _ S (u.extBut _ _ R (B.extBut _ _ T (t.extBut _ _ m e))));have Y:=((Z.extBut u.extBut D.TOi1.symm).extBut N.extBut D.i12).extBut M.extBut D.TOi1.symm;have W:=X.extBut M.extBut D.TOi2.symm;have C:=fJ H;refine C8 ?_;unfold Builtin.SmallTypes.ownedTupleHandOut;have V:IsZip (h.push {cls:= .type "tuple",data:= .seq #[x,y]}) z j d .ellipsis:=fM _ H;refine C8 (MX V O4 fun q7 n b7=>?_);replace n:IsZip q7 z j d (rawInt h.objs.size):=n;refine MX n O4 fun P f b8=>?_;replace f:IsZip P z j d (rawInt h.objs.size):=f;have O:∀c o,c≠z->h.get? c=some o->P.get? c=some o:=fun c o m e=>b8.extBut _ _ m (b7.extBut _ _ m (fM _ e));have J:=b8.extBut _ _ (cH C) (b7.extBut _ _ (cH C) (fK _ rfl));have G:P.objs.size=h.objs.size+ 1:=by rw[b8.1,b7.1,fN]
 rw[sz]at f J G;refine Ma ⟨_,rfl,?_⟩;rw[sz];refine k P f (O _ _ D.TOz g) ?_ ?_ J G fun c o m R T S e=>O c o m (U c o m R T S e);·refine eaa Y fun o e r=>?_;exact⟨o,O _ o D.i1z e,r⟩
 ·refine eaa W fun o e r=>?_;exact⟨o,O _ o D.i2z e,r⟩
def HZ{m l:Sk} {B y:Zx} {a:Zz} {Q:Fin->Zy->Prop} (L:A.handled=none) (D:ZipApart z B y j1 j2 t1 t2)
  (u:IsZip s.heap z B y .none) (Y:ML s.heap B (.ref j1) (.ref j2)) (X:ML s.heap y a b)
  (M:SI m.it s.heap j1 t1 k1) (Z:SI l.it s.heap j2 t2 k2) (N:m.S s.heap t1 xs) (d2:l.S s.heap t2 ys) (p:xs[k1]?=none\/ys[k2]?=none)
  (k:∀I e,(∀c o,c≠z->c≠y->c≠j1->c≠j2->s.heap.get? c=some o->I.get? c=some o)->(∃o,I.get? e=some o/\o.cls= .type "StopIteration")->E (.ref e) {s with heap:=I}):
  L8 (model prog w) A (Builtin.«zip.__next__» ⟨[.ref z],[]⟩) Q E s:=by
 show L8 _ _ (field (.ref z) 2 >>= _) _ _ _;refine C8 (Mz u rfl rfl ?_);refine C8 (Mz u rfl rfl ?_);refine C8 (MD Y rfl ?_);refine C8 ?_;unfold MH;refine C8 (Mz u rfl rfl (Ma ?_));simp only[if_true];refine C8 (wpAny_rule (C8 (Mz u rfl rfl ?_)));refine C8 (MX u O4 fun T g h=>?_);replace g:IsZip T z B y .ellipsis:=g;refine C8 ?_;simp only[List.zipIdx_cons,List.zipIdx_nil,List.forIn_cons,List.forIn_nil];refine C8 (C8 (wpAny_onRaise ?_));cases J:xs[k1]? with
 |none=>
  refine C8 (m.ne L (M.extBut h.extBut D.i1z) (m.ext N h.extBut D.l1z) J fun S e i H=>?_);refine eaa H fun C d f=>?_;have t:=i _ _ D.i1z.symm g;have F:e≠z:=fun q=>by subst q;rw[t]at d;cases d;simp at f
  refine MX t O4 fun K _ j=>k K e (fun c o n _ G _ q=>j.extBut _ _ n (i _ _ G (h.extBut _ _ n q))) ⟨C,j.extBut _ _ F d,f⟩
 |some x=>
  have ey:=p.elim (fun q=>by rw[J]at q;cases q) id;refine C8 (m.nx (M.extBut h.extBut D.i1z) (m.ext N h.extBut D.l1z) J fun S g12 i=>Ma ?_);have v:=i.extBut _ _ D.TOi1 (h.extBut _ _ D.TOz X);refine C8 (MD v rfl (C8 (wpAny_updateSeq_pair v fun K W j=>?_)));refine C8 (wpAny_letGo (Ma (C8 (C8 (wpAny_onRaise ?_)))));refine C8 (l.ne L (((Z.extBut h.extBut D.i2z).extBut i.extBut D.i12.symm).extBut j.extBut D.TOi2.symm) (l.ext (l.ext (l.ext d2 h.extBut D.l2z) i.extBut D.l2i1) j.extBut D.l2TO) ey fun q4 e P H=>?_);refine eaa H fun C d f=>?_;have r:=P _ _ D.i2z.symm (j.extBut _ _ D.TOz.symm (i.extBut _ _ D.i1z.symm g));have F:e≠z:=fun q=>by subst q;rw[r]at d;cases d;simp at f
  refine MX r O4 fun R _ O=>k R e (fun c o n V G U q=>O.extBut _ _ n (P _ _ U (j.extBut _ _ V (i.extBut _ _ G (h.extBut _ _ n q))))) ⟨C,O.extBut _ _ F d,f⟩
def BL{h g:Sk} {f e:Zx} {a:Zz} {Q:Option Zz->Zy->Prop} (D:ZipApart z f e j1 j2 t1 t2)
  (j:IsZip s.heap z f e .none) (m:ML s.heap f (.ref j1) (.ref j2)) (l:ML s.heap e a b)
  (p:SI h.it s.heap j1 t1 k1) (n:SI g.it s.heap j2 t2 k2) (u:h.S s.heap t1 xs) (t:g.S s.heap t2 ys) (r:xs[k1]?=some x) (q:ys[k2]?=some y)
  (k:∀d,IsZip d z f e (rawInt s.heap.objs.size)->ML d e x y->SI h.it d j1 t1 (k1+ 1)->SI g.it d j2 t2 (k2+ 1)->ML d s.heap.objs.size x y->d.objs.size=s.heap.objs.size+ 1->
   (∀c o,c≠z->c≠e->c≠j1->c≠j2->s.heap.get? c=some o->d.get? c=some o)->Q (some (.ref s.heap.objs.size)) {s with heap:=d}):
  L8 (model prog w) A (pyNext (.ref z)) Q E s:=by
 have i:s.TypeIs (.ref z) "zip":=⟨_,j,rfl⟩;unfold pyNext;exact C8 (wpAny_attempt (MT i F.slot_zip_next (Nq F.slot_zip_next i F.entry_zip_next
   (FQ D j m l p n u t r q fun d J I H G C B v=>Ma (k d J I H G C B v)) (F.args_zip_next_1 _))))
def vw{j i:Sk} {h f:Zx} {a:Zz} {Q:Option Zz->Zy->Prop} (q:A.handled=none) (D:ZipApart z h f j1 j2 t1 t2)
  (m:IsZip s.heap z h f .none) (v:ML s.heap h (.ref j1) (.ref j2)) (u:ML s.heap f a b)
  (y:SI j.it s.heap j1 t1 k1) (x:SI i.it s.heap j2 t2 k2) (C:j.S s.heap t1 xs) (B:i.S s.heap t2 ys) (d:xs[k1]?=none\/ys[k2]?=none)
  (k:∀g,(∀c o,c≠z->c≠f->c≠j1->c≠j2->s.heap.get? c=some o->g.get? c=some o)->Q none {s with heap:=g}):L8 (model prog w) A (pyNext (.ref z)) Q E s:=by have l:s.TypeIs (.ref z) "zip":=⟨_,m,rfl⟩;unfold pyNext;refine C8 (wpAny_attempt (MT l F.slot_zip_next (Nq F.slot_zip_next l F.entry_zip_next (HZ q D m v u y x C B d fun g e n r=>?_) (F.args_zip_next_1 _))));refine eaa r fun o p t=>?_;exact C8 (wpAny_isInstance ⟨o,p,t⟩ isSubtype_stop (Ma (k _ n)))
end
abbrev zt1 (u1:Sk) (h:Zt) (t1:Zx):Zt:=h.push {cls:= .type u1.it,data:= .fields #[.ref t1,.int 0 0]}
abbrev zt2 (u1 u2:Sk) (h:Zt) (t1 t2:Zx):Zt:=(zt1 u1 h t1).push {cls:= .type u2.it,data:= .fields #[.ref t2,.int 0 0]}
abbrev zt3 (u1 u2:Sk) (h:Zt) (t1 t2:Zx):Zt:=(zt2 u1 u2 h t1 t2).push {cls:= .type "tuple",data:= .seq #[.ref h.objs.size,.ref (zt1 u1 h t1).objs.size]}
abbrev zt4 (u1 u2:Sk) (h:Zt) (t1 t2:Zx):Zt:=(zt3 u1 u2 h t1 t2).push {cls:= .type "tuple",data:= .seq #[.none,.none]}
abbrev zt5 (u1 u2:Sk) (h:Zt) (t1 t2:Zx):Zt:=(zt4 u1 u2 h t1 t2).push {cls:= .type "zip",data:= .fields #[.none,.bool false,.bool false,.ref (zt2 u1 u2 h t1 t2).objs.size,.ref (zt3 u1 u2 h t1 t2).objs.size]}
def Ia (b a:Sk) (e c:Zx) (xs j:Array Zz):Meets (Builtin.«zip.__new__» ⟨[.type "zip",.ref e,.ref c],[]⟩) (fun _ R s=>b.S s.heap e xs/\a.S s.heap c j/\R (.ok (.ret (.ref (zt4 b a s.heap e c).objs.size))) {s with heap:=zt5 b a s.heap e c}):=
 .of_wp fun k w A R s h=>by obtain⟨o,g,d,m,n⟩:=s;refine eac h fun q p h=>?_;have l:=sub_zip;have i:=q;have f:a.S (Shared.heap ⟨o.push {cls:= .type b.it,data:= .fields #[.ref e,.int 0 0]},g,d,m,n⟩) c j:=a.push p _;wp_walk using b.iter i,a.iter f;exact⟨_,rfl,h⟩
section
variable {prog:Zu} {w:Zv} {A:Zw} {E:Zb} {s:Zy}
def BM{a b:Sk} (t:a.S s.heap t1 xs) (r:b.S s.heap t2 ys)
  (k:∀d,IsZip d (s.heap.objs.size+ 4) (s.heap.objs.size+ 2) (s.heap.objs.size+ 3) .none->ML d (s.heap.objs.size+ 2) (.ref s.heap.objs.size) (.ref (s.heap.objs.size+ 1))->
   ML d (s.heap.objs.size+ 3) .none .none->SI a.it d s.heap.objs.size t1 0->SI b.it d (s.heap.objs.size+ 1) t2 0->(∀c o,s.heap.get? c=some o->d.get? c=some o)->Q (.ref (s.heap.objs.size+ 4)) {s with heap:=d}):
  L8 (model prog w) A (call (.type "zip") [.ref t1,.ref t2]) Q E s:=by
 refine callType_new F.called_zip O3 (F.typeCall_zip_2 _ _) (F.newCall_zip_2 _ _) (fun h=>F.args_object_init_3 h _ _) F.entry_zip_new (Ia a b t1 t2 xs ys) ⟨t,r,?_⟩;have g:(zt1 a s.heap t1).objs.size=s.heap.objs.size+ 1:=fN ..;have f:(zt2 a b s.heap t1 t2).objs.size=s.heap.objs.size+ 2:=by rw[fN,g]
 have e:(zt3 a b s.heap t1 t2).objs.size=s.heap.objs.size+ 3:=by rw[fN,f]
 have j:(zt4 a b s.heap t1 t2).objs.size=s.heap.objs.size+ 4:=by rw[fN,e]
 have i:(zt5 a b s.heap t1 t2).get? (zt4 a b s.heap t1 t2).objs.size=some _:=fK _ rfl;have l:(zt5 a b s.heap t1 t2).get? (zt3 a b s.heap t1 t2).objs.size=some _:=fM _ (fK _ rfl);have m:(zt5 a b s.heap t1 t2).get? (zt2 a b s.heap t1 t2).objs.size=some _:=fM _ (fM _ (fK _ rfl));have n:(zt5 a b s.heap t1 t2).get? (zt1 a s.heap t1).objs.size=some _:=fM _ (fM _ (fM _ (fK _ rfl)));have p:(zt5 a b s.heap t1 t2).get? s.heap.objs.size=some _:=fM _ (fM _ (fM _ (fM _ (fK _ rfl))));rw[f,e,j]at i;rw[g,f]at m;rw[e]at l;rw[g]at n;rw[j];exact⟨⟨_,i,rfl⟩,k _ i m l ⟨_,p,rfl,rfl⟩ ⟨_,n,rfl,rfl⟩ fun c o q=>fM _ (fM _ (fM _ (fM _ (fM _ q))))⟩
end
def Itg (f e:Sk) (K:Zp) (a b:Zx):It:=
 ⟨fun i H=>∃d c x y,f.Sq K H a d/\e.Sq K H b c/\d[i]?=some x/\c[i]?=some y,
   fun i H v g=>∃T x y,v= .ref T/\H T=none/\g=upd H T (.tup [x,y])/\(∀d,f.Sq K H a d->d[i]?=some x)/\∀c,e.Sq K H b c->c[i]?=some y,
   fun i H=>∃d c,f.Sq K H a d/\e.Sq K H b c/\i=min d.length c.length⟩
def ZTSt (j g:Sk) (z f e d c a b:Zx) (i:Nat) (h:Zt):Prop:=IsZip h z f e .none/\ML h f (.ref d) (.ref c)/\(∃u v,ML h e u v)/\SI j.it h d a i/\SI g.it h c b i
def BN{K:Zp} {N t:Zx} (D:ZipApart z N t i1 i2 a b):Ej P w K (.Tuple es kk tp) (Itg u1 u2 K a b) [z,N,t,i1,i2] z (ZTSt u1 u2 z N t i1 i2 a b) where
 mem:=by simp
 obj:=fun i h f c d=>by
  refine eae f fun j g r R Q=>?_;refine eaq r fun u v p=>?_;refine eak R fun L n _ d4=>?_;refine eak Q fun J m _ d5=>?_;simp only[ao,bI,or_false]at d;rcases d with e|e|e|e|e<;>subst e;·exact⟨_,j,fun v q=>nomatch q⟩
  ·exact⟨_,g,fun v q=>nomatch q⟩
  ·exact⟨_,p,fun v q=>nomatch q⟩
  ·exact⟨_,n,fun v q=>by rw[d4]at q;cases q⟩
  ·exact⟨_,m,fun v q=>by rw[d5]at q;cases q⟩
 keep:=fun i h h' f k=>by refine eae f fun j g r R Q=>?_;refine eaq r fun u v p=>?_;refine eaa R fun L n r4=>?_;refine eaa Q fun J m r5=>?_;exact⟨k z O4 _ j,k N O4 _ g,(ii u v (k t O4 _ p)),⟨L,k i1 O4 L n,r4⟩,⟨J,k i2 O4 J m,r5⟩⟩
 item:=by
  intro X hP B hK d i W s σ H E I C f hg;subst hP B hK;refine ead hg fun xs ys x y=>fam fun G F ex ey=>?_;refine eak (u1.inv I G) fun i1s V Z z1=>?_;refine eak (u2.inv I F) fun i2s U Y z2=>?_;refine eae f fun j g r n m=>?_;refine eaq r fun u v p=>?_;refine eaa (V.get ex) fun ux hux T=>?_;refine eaa (U.get ey) fun uy huy S=>?_;have B:∀c∈[z,t,i1,i2],xR X W H c:=fun c d=>C c (by simp only[ao,bI,or_false]at d⊢;first|(rcases d with h|h|h|h<;>simp[h])|simp[d]);refine BL D j g p n m (Z) (Y) (by simpa using hux) (by simpa using huy) fun h1 a1 a2 a3 a4 a5 a6 M=>?_;have kk1:∀c o,c∉[z,t,i1,i2]->s.heap.get? c=some o->h1.get? c=some o:=fun c o d e=>M c o (fun q=>d (by simp[q])) (fun q=>d (by simp[q])) (fun q=>d (by simp[q])) (fun q=>d (by simp[q])) e;have J1:Inv X W σ H {s with heap:=h1,toks:=s.toks}:=I.turnedL kk1 B;refine⟨.ref s.heap.objs.size,rfl,wpAny_letOwnedTupleGo_zip a1 fun h2 a1' A=>?_⟩;have J2:=Inv.turnedL (t':=s.toks) (ch:=[z]) J1 (fun c o d e=>A.extBut _ _ (fun q=>d (by simp[q])) e) fun c d=>C c (by simp only[ao,bI,or_false]at d⊢;first|(rcases d with h|h|h|h<;>simp[h])|simp[d]);have O:=fJ j;have ht2:y8 h2 s.heap.objs.size #[ux,uy]:=⟨_,A.extBut _ _ (cH O) a5,rfl,_,rfl,rfl⟩;obtain⟨fT,J3⟩:=I.pairNew (cJ _) J2 ht2 T S;refine ii (.ref s.heap.objs.size) _ (⟨J3,rfl,(iaa _ x y ⟨rfl,fT,rfl,fun l hl=>by rw[u1.inj I hl G];exact ex,fun l hl=>by rw[u2.inj I hl F];exact ey⟩),⟨a1',A.extBut _ _ D.TIz (M _ _ D.TIz D.TITO D.TIi1 D.TIi2 g),(ii _ _ (A.extBut _ _ D.TOz a2)),a3.extBut A.extBut D.i1z,a4.extBut A.extBut D.i2z⟩,fun c d=>?_⟩);rw[gy (fun q=>?_)];·exact(C c d).1
  ·have lt:c<s.heap.objs.size:=by
    refine eaa n fun L e4 _=>?_;refine eaa m fun J e5 _=>?_;simp only[ao,bI,or_false]at d;rcases d with e|e|e|e|e<;>subst e;·exact fJ j
    ·exact fJ g
    ·exact fJ p
    ·exact fJ e4
    ·exact fJ e5
   exact absurd lt (by rw[q];exact cD _)
 done:=by intro X hP B hK d i W s σ H E I C f hg;subst hP B hK;refine eap hg fun xs ys G F ei=>?_;refine eak (u1.inv I G) fun i1s V Z z1=>?_;refine eak (u2.inv I F) fun i2s U Y z2=>?_;refine eae f fun j g r n m=>?_;refine eaq r fun u v p=>?_;have l1:=V.length;have l2:=U.length;refine vw (I.ok.hd d) D j g p n m (Z) (Y) ?_ fun h1 M=>⟨rfl,I.turnedL (ch:=[z,t,i1,i2]) (fun c o d e=>M c o (fun q=>d (by simp[q])) (fun q=>d (by simp[q])) (fun q=>d (by simp[q])) (fun q=>d (by simp[q])) e) fun c d=>C c (by simp only[ao,bI,or_false]at d⊢;first|(rcases d with h|h|h|h<;>simp[h])|simp[d])⟩;simp only[List.getElem?_toArray,List.getElem?_eq_none_iff];lia
 self:=fun _ _ _ _ _ f h=>wpAny_pyIter_zip f.1 h
def Ib (e d:Sk) (K:Zp) (j:TA):TI:=fun f H R=>j f H fun i c=>∃a b,i=[.ref a,.ref b]/\(∃h,e.Sq K c a h)/\(∃g,d.Sq K c b g)/\R (Itg e d K a b) c
section
variable {X:Cx}
def FR(k j:Sk) {a:Zr} (Q:Gl X "zip") (O:X.mg "zip"=none) (S:PA X [a,b] ta) (N:autoParam (Mj [a,b] X.env=[(false,eval a X.env),(false,eval b X.env)]) auR._auto_1) (g:autoParam (Mj [b] X.env=[(false,eval b X.env)]) auR._auto_1):
  PI X (.Tuple es kk tp) (.Call (.Name "zip" p) [a,b] [] pos) (Ib k j X.K ta):=by
 intro E s y H R I h;refine Call_ (qb I Q O HW (fS (thn (S pos E s y H _ I h) ?_) (by rw[N,g]) (by rw[g];rfl)));refine fun us f=>fac fun vs T d C i=>?_;obtain⟨K,J,e,⟨Y,i⟩,⟨W,r⟩,q⟩:=i;subst e;refine eap (Bc C) fun u v z B A=>?_;subst z;cases B;cases A;refine eak (k.inv d i) fun M w1 G V=>?_;refine eak (j.inv d r) fun L Z F U=>?_;have o1:=k.old d i;have o2:=j.old d r;refine BM (G) (F) fun h1 t o n m l P=>wpAny_pyIter_zip t ?_;have D:ZipApart (f.heap.objs.size+ 4) (f.heap.objs.size+ 2) (f.heap.objs.size+ 3) f.heap.objs.size (f.heap.objs.size+ 1) K J:=by constructor<;>exact fun h=>O2
 refine iab _ _ _ _ T (⟨rfl,d.kept P,BN D,⟨t,o,(ii _ _ n),m,l⟩,fun c w=>?_,q⟩);have x:f.heap.objs.size<=c:=by simp only[ao,bI,or_false]at w;rcases w with h|h|h|h|h<;>rw[h]<;>first|exact cJ _|exact Nat.le_add_right _ _
 exact d.fpOk x (d.hok.fresh x)
def FT{a:Zr} (f:Gl X "zip") (e:X.mg "zip"=none) (g:PA X [a,b] ta) (d:autoParam (Mj [a,b] X.env=[(false,eval a X.env),(false,eval b X.env)]) auR._auto_1) (c:autoParam (Mj [b] X.env=[(false,eval b X.env)]) auR._auto_1):
  PI X (.Tuple es kk tp) (.Call (.Name "zip" p) [a,b] [] pos) (Ib tS lS X.K ta):=FR tS lS f e g d c
end
def Ao:typeLookup (.type "tuple") "keys"=pure none:=by rw[typeLookup_type,Np];kernel_rfl
section
variable {prog:Zu} {w:Zv} {A:Zw} {E:Zb} {s:Zy}
def FU{Q:Option Zz->Zy->Prop} (j:s.heap.get? a=some {cls:= .type "tuple",dict:=none,data:= .seq xs k,slots:=sl}) (p:A.handled=none)
  (q:∀h i,(∀b o,s.heap.get? b=some o->h.get? b=some o)->Q none {s with heap:=h,toks:=i}):L8 (model prog w) A (getAttr? (.ref a) "keys") Q E s:=by
 obtain⟨n,g,d,i,m⟩:=s;have l:∀c,(⟨n,g,d,c,m⟩:Zy).TypeIs (.ref a) "tuple":=fun _=>⟨_,j,rfl⟩;have z:=sub_AttributeError;have y:=F.slot_tuple_getattribute.lookup;have x:=F.slot_tuple_getattribute.bind (.ref a);have v:=am_tuple_getattr_none;unfold getAttr? getAttrBy? getAttrBy;repeat(any_goals(first|assumption|exact l _|((with_reducible show L8 _ _ (call (Value.builtin "tuple.__getattribute__") _ _) _ _ _);refine Nr F.slot_tuple_getattribute (l _) am_entry_tuple_getattribute (F.args_tuple_getattribute_2 _ _) (meets_getattribute_miss_tuple a xs k sl "keys" _ Ao gL gL) ⟨j,p,fun h c e f=>?_⟩)|wp_step))
 refine eaq f.there fun t r u=>?_;unfold NL;repeat(any_goals(first|assumption|wp_step))
 exact q h c f.keeps
end
inductive Prs (H:Hp):List V->List (Str×V)->Prop
 |nil:Prs H [] []
 |cons {a:Zx} {p:Str×V} {l:List V} {m:List (Str×V)}:H a=some (.tup [.str p.1,p.2])->Prs H l m->Prs H (.ref a::l) (p::m)
def lB:entryFor table "dict.update.loop"=some Builtin.«dict.update.loop»:=entryFor_of_tree O1
def kf (p:Str×V):Key×V:=(Me p.1,p.2)
section
variable {X:Cx} {pz:Za} {σ:St} {H:Hp} {d it t:Zx} {vs:List V} {A:Zw} {R:Result->Zy->Prop}
theorem wU (hA:A.handled=none) (C:H d=none) (v:H t=some (.tup vs)):∀g m i c s,
  Inv X pz σ (upd H d (.dK c)) s->xR X pz (upd H d (.dK c)) it->s.heap.IsTupleIter it t i->vs.drop i=m->Prs H m g->c.length+g.length<=1000->
  (∀s',Inv X pz σ (upd H d (.dK (kq c (g.map kf)))) s'->R (.ok (.ret .none)) s')->
  Nx (model X.prog X.w) A (.builtin "dict.update.loop" ⟨[.ref d,.ref it,.int (i:Int) 0,.none],[]⟩) R s
 |[],m,i,c,s,I,f,st,ey,T,hn,k=>by
  cases T;have h:(upd H d (.dK c)) t=some (.tup vs):=by rw[gy (gv v C)];exact v
  obtain⟨Q,P,p,hz⟩:=I.tuple (SqT.of h);obtain⟨j,J,f2,G,F,E⟩:=f;have hl:=P.length;have hi:=bK.mp ey;refine codeAny_builtin lB ?_;unfold Builtin.«dict.update.loop»;refine C8 (wpAny_pyNext_tuple_end (by exact hA) st (p) (by simp;lia) fun h' eb=>?_);have B:=I.turned (t':=s.toks) (fun b o hb e=>eb b o hb e) j J G F E;exact C8 (Ma (Ma (k _ B)))
 |pr::g,m,i,c,s,I,f,st,ey,hp0,hn,k=>by
  obtain⟨a,l,rfl,ha,T⟩:∃a l,m= .ref a::l/\H a=some (.tup [.str pr.1,pr.2])/\Prs H l g:=by
   cases hp0 with
   |cons h1 D=>exact⟨_,_,rfl,h1,D⟩
  have h:(upd H d (.dK c)) t=some (.tup vs):=by rw[gy (gv v C)];exact v
  have ha':(upd H d (.dK c)) a=some (.tup [.str pr.1,pr.2]):=by rw[gy (gv ha C)];exact ha
  obtain⟨Q,P,p,hz⟩:=I.tuple (SqT.of h);have ff:=f;obtain⟨j,J,f2,G,F,E⟩:=f;have S:vs[i]?=some (.ref a):=by have:=congrArg (·[0]?) ey;simpa using this
  obtain⟨u,hu,ru⟩:=P.get S;cases ru;refine codeAny_builtin lB ?_;unfold Builtin.«dict.update.loop»;refine C8 (wpAny_pyNext_tuple_item st (p) (by simpa using hu) fun h' M sb=>?_);have B:=I.turned (t':=s.toks) (fun b o hb e=>(sb.2 b hb).trans e) j J G F E;obtain⟨its2,O,⟨ob,w,Y,on,W⟩,_⟩:=B.tuple (SqT.of ha');obtain⟨kx,vx,rfl,⟨tk,rfl⟩,N⟩:=Bc O;obtain⟨z,hds,K,r,dd⟩:=wI B.hok (show(upd H d (.dK c)) d=some (.dK c)from f7);refine C8 (MQ (C8 (wpAny_tryCatch ?_)));unfold Builtin.Dict.pairItems;refine C8 (NI ⟨ob,w,Y⟩ ?_);rw[ig O3];refine C8 (MD w W ?_);refine Ma ?_;have hv2:K.length<=sizeLine:=by rw[<-r.length];exact z
  have hn':c.length+(g.length+ 1)<=1000:=hn;have hl:(mL c (Me pr.1) pr.2).length<=1000:=by have:=iF c (Me pr.1) pr.2;lia
  have Z:(mL c (Me pr.1) pr.2).length+g.length<=1000:=by have:=iF c (Me pr.1) pr.2;lia
  refine MQ (wpAny_dictSet_pairs (vb (show i7 (kV (Me pr.1)) _ from⟨tk,rfl⟩)) dd fun D y n=>?_);have he:∃q,D.get? d=some q:=let⟨q,_,_,hq,_⟩:=y;⟨q,hq⟩;have I2:=sr (t':=s.toks+ 1) B (by rw[f7];exact MG) n he (su (cF hl O3) hds (r.put (Me pr.1) N) y);rw[uY]at I2;have x:it≠d:=fun e=>by rw[e,f7]at j;exact nomatch j
  obtain⟨oi,U,ri⟩:=M;have L:D.IsTupleIter it t (i+ 1):=⟨oi,(n.2 it x).trans U,ri⟩;refine Ma ⟨NM _ gL,?_⟩;have ey2:vs.drop (i+ 1)=l:=by rw[<-List.tail_drop,ey];rfl
  exact wU hA C v g l (i+ 1) (mL c (Me pr.1) pr.2) _ I2 ⟨by rw[gy x]at j⊢;exact j,J,f2,G,F,E⟩ L ey2 T Z k
end
section
variable {X:Cx}
def Ap (G:X.calm=true):oG X (.type "dict") (fun C H Q=>∃t vs a,C=[.ref t]/\H t=some (.tup vs)/\Prs H vs a/\a.length<=1000/\∀d,H d=none->Q (.ref d) (upd H d (.dK (kq [] (a.map kf))))):=by
 intro D s B H C W Q I r h;refine eag h fun t vs a=>faj fun v E N O q=>?_;subst v;refine eaa (mO r) fun u v K=>?_;subst v;cases K;refine eab ((show kb X.prog X.w H s.heap t (.tup vs)from I.hok t _ E)) fun _=>faa fun m=>f8 fun Z=>faa fun o=>fae fun x z=>faa fun n=>f8 fun P y=>?_;obtain⟨oc,od,M,L⟩:=o;cases(z);cases(P);cases(y);refine callType_codes (Q₁:=fun l g=>l= .ref s.heap.objs.size/\g={s with heap:=s.heap.push {cls:= .type "dict",data:= .dict #[]}}) F.kt_called_dict (F.kt_typeCall_dict_1 _) F.entry_dict_init (kt_code_dict_new _ ⟨rfl,rfl⟩) ?_;rintro l g ⟨rfl,rfl⟩;have c:(s.heap.push {cls:= .type "dict",data:= .dict #[]}).DictOf (jB X.prog X.w) s.heap.objs.size []:=Heap.DictOf.new s.heap;refine⟨c.typeIs,F.args_dict_init_2 _ _,?_⟩;unfold Builtin.«dict.__init__»;refine C8 ?_;unfold Builtin.Dict.selfAndRest;refine C8 (wpAny_notOrdered_dict c.typeIs ?_);refine Ma ?_;show L8 _ _ (Nl "dict.__init__" s.heap.objs.size (.ref t) [] .none) _ _ _;unfold Nl;have k:=fM {cls:= .type "dict",data:= .dict #[]} x;refine C8 (NI ⟨_,k,rfl⟩ ?_);rw[ig O3];refine C8 (FU k (by exact I.ok.hd G) fun p i j=>?_);rw[ig (by rfl)];refine C8 (wpAny_rule ?_);have A:Inv X D B (upd H s.heap.objs.size (.dK [])) {s with heap:=p,toks:=i}:=by
  refine I.laid (fun b u e=>j b u (fM _ e)) (cJ _) (su O3 ?_ .nil ?_);·have R:=I.big;exact beq_false_of_ne (cH R)
  ·refine eaf c fun o S T x r=>?_;exact iaa o S T ⟨j _ _ x,r⟩
 have w:p.IsTuple t m.toArray:=⟨_,j _ _ k,rfl,n,rfl⟩;refine C8 (wpAny_pyIter_tuple (show({s with heap:=p,toks:=i}:Zy).heap.IsTuple t m.toArray from w) ?_);have f:=A.fpOk (cJ _) (A.hok.fresh (cJ _));have U:Inv X D B (upd H s.heap.objs.size (.dK [])) {s with heap:=p.push {cls:= .type "tuple_iterator",data:= .fields #[.ref t,.int 0 0]},toks:=i}:=A.kept fun b o e=>fM _ e;refine Ma ⟨NM _ gL,?_⟩;refine wU (by exact I.ok.hd G) (I.hok.fresh (cJ _)) E a vs 0 [] _ U f ⟨_,fK _ rfl,rfl,rfl⟩ rfl N (by simpa using O) fun Y J=>?_;exact⟨rfl,.ref s.heap.objs.size,_,J,rfl,q _ (I.hok.fresh (cJ _))⟩
end
end L2.Internal
namespace BO.Internal
variable {H H' H1:Hp} {a:Zx} {xs:List V}
open PySem L2.Internal
def rIsi (K:Zp):List V->Hp->VK->Prop:=fun a H Q=>∃x v c t b,a=[x,v]/\(∀u,i7 v u->u=c)/\x6 K H x t/\dR K t c=some b/\Q (.bl b) H
def sz(h:n<=100000):n<=sizeLine:=cF h O3
def gb(h:H p=none) (o:HO):gJ H (upd H p o):=fun b u q=>by rw[gy (gv q h)];exact q
def Ez(l:List α) (i:Int) (d:0<=i) (b:i<(l.length:Int)):∃c,atI l i=some c/\c∈l:=by
 have e:i=((i.toNat:Nat):Int):=O2
 have a:i.toNat<l.length:=O2
 refine⟨l[i.toNat],?_,List.getElem_mem a⟩;have z:=fZ (bE a);rw[<-e]at z;exact z
def flN:V->Bool
 | .non=>true
 | .int _=>true
 | .str _=>true
 |_=>false
mutual
inductive Im (H:Hp):V->Dt->Prop where
 |flat {v:V} (h:flN v=true):Im H v (.flat v)
 |tup {a:Zx} {xs:List V} {ds:List Dt} (h:H a=some (.tup xs)) (hs:Ims H xs ds):Im H (.ref a) (.tup ds)
inductive Ims (H:Hp):List V->List Dt->Prop where
 |nil:Ims H [] []
 |cons {x:V} {d:Dt} {xs:List V} {ds:List Dt} (h:Im H x d) (hs:Ims H xs ds):Ims H (x::xs) (d::ds)
end
mutual
inductive Dta (H:Hp):V->Dt->Prop where
 |flat {v:V} (h:flN v=true):Dta H v (.flat v)
 |tup {a:Zx} {xs:List V} {ds:List Dt} (h:H a=some (.tup xs)) (hs:EA H xs ds):Dta H (.ref a) (.tup ds)
 |lst {a:Zx} {xs:List V} {ds:List Dt} (h:H a=some (.lst xs)) (hs:EA H xs ds):Dta H (.ref a) (.lst ds)
inductive EA (H:Hp):List V->List Dt->Prop where
 |nil:EA H [] []
 |cons {x:V} {d:Dt} {xs:List V} {ds:List Dt} (h:Dta H x d) (hs:EA H xs ds):EA H (x::xs) (d::ds)
end
def TK (H c:Hp):Prop:=∀a b,H a=some (.tup b)->c a=some (.tup b)
def gJ.tk (s:gJ H H'):TK H H':=fun a b e=>s a _ e
mutual
theorem Im.mono (k:TK H H'):∀{v:V} {d:Dt},Im H v d->Im H' v d
 |_,_,.flat h=> .flat h
 |_,_,.tup h hs=> .tup (k _ _ h) (Ims.mono k hs)
theorem Ims.mono (k:TK H H'):∀{v:List V} {d:List Dt},Ims H v d->Ims H' v d
 |_,_,.nil=> .nil
 |_,_,.cons h hs=> .cons (Im.mono k h) (Ims.mono k hs)
end
theorem EA.length:∀{xs:List V} {a:List Dt},EA H xs a->xs.length=a.length
 |_,_,.nil=>rfl
 |_,_,.cons _ t=>by rw[aB,aB,EA.length t]
theorem Ims.length:∀{xs:List V} {a:List Dt},Ims H xs a->xs.length=a.length
 |_,_,.nil=>rfl
 |_,_,.cons _ t=>by rw[aB,aB,Ims.length t]
theorem Ims.app:∀{xs c:List V} {e d:List Dt},Ims H xs e->Ims H c d->Ims H (xs++c) (e++d)
 |_,_,_,_,.nil,h=>h
 |_,_,_,_,.cons a b,h=> .cons a (Ims.app b h)
inductive Hh {α β:Type} (F:α->β->Prop):List α->List β->Prop
 |nil:Hh F [] []
 |cons {a:α} {b:β} {l:List α} {m:List β}:F a b->Hh F l m->Hh F (a::l) (b::m)
theorem Hh.length {b a:Type} {F:b->a->Prop}:∀{l:List b} {m:List a},Hh F l m->l.length=m.length
 |_,_,.nil=>rfl
 |_,_,.cons _ t=>by rw[aB,aB,Hh.length t]
inductive Us where
 |num (a p s:Int)
 |call (a p s x y:Int)
 |take (a p s:Int) (l:List (Str×Int))
 |case (a p s:Int) (l:List (Str×Int))
 |row (a p s x:Int)
structure Mkg where
 s:Str
 f:Dt
 a:Int
 p:Int
structure Cs where
 M:Zx
 N:Zx
 C:Zx
 T:Zx
 K:Zx
 R:Zx
 B:Zx
def Fz:HO->Prop
 | .tup _=>True
 | .ins _ _ fs=>fs.length≠5\/∃v r,fs=(("at":Str),v)::r
 |_=>False
def FK (H b:Hp):Prop:=∀a o,H a=some o->Fz o->b a=some o
def FK.tk (k:FK H H'):TK H H':=fun a b e=>k a _ e trivial
def FK.trans {d:Hp} (a:FK H H1) (b:FK H1 d):FK H d:=fun c o e f=>b c o (a c o e f) f
def sH{j:St} (n:Nat) (U:n<sizeLine) (R:List V->Hp->Prop) (E:∀c H g,R c H->TK H g->R c g) (x:H1 D=none) (hτ:j.set i none=j)
  (w:∀k H,gJ H1 H->k<n->J.go k H) (s:∀H,gJ H1 H->J.stop n H) (O:R [] H1)
  (p:∀k H v r c (Z:VK),gJ H1 H->k<n->J.yld k H v r->R c H->c.length=k->(∀y d,gJ H d->R (c++[y]) d->Z y d)->te (j.set i (some v)) r Z)
  (N:∀g c,gJ H1 g->R c g->c.length=n->g D=some (.lst c)->Q (.ref D) g):LcP J i sE te Q j H1 D:=by
 have M:∀d c B,d D=some (.lst c)->TK d (upd d D (.lst B)):=fun d c B e a T q=>by rw[gy (lU q e (fun z=>nomatch z))];exact q
 have K:∀{H:Hp} (o:HO),gJ H1 H->gJ H1 (upd H D o):=fun{H} o S b u e=>by rw[gy (gv e x)];exact S b u e
 refine⟨fun k m l f=>m=n-k/\k<=n/\(∃o,l=j.set i o)/\gJ H1 f/\∃c,f D=some (.lst c)/\c.length=k/\R c f,⟨n,O4,cK _,⟨none,hτ.symm⟩,gb x _,[],f7,rfl,E _ _ _ O (gJ.tk (gb x _))⟩,?_⟩;refine fun k m l f=>faj fun G W I S=>faa fun c=>fae fun e t C=>?_;subst G;obtain⟨o,F⟩:=I;subst F;by_cases hlt:k<n;·refine .inr ⟨w k f S hlt,fun v r y=>?_⟩;rw[bw];refine p k f v r c _ S hlt y C t fun y d A L=>?_;refine⟨c,A D _ e,O2,n-(k+ 1),O2,rfl,hlt,⟨some v,rfl⟩,K _ (S.trans A),c++[y],f7,by rw[aR,t];rfl,E _ _ _ L (M d _ _ (A D _ e))⟩
 ·have P:k=n:=O2
  subst P;exact .inl ⟨s f S,N f c S C t e⟩
def zm(e:H1 a=some (.lst xs)) (S:gJ H1 H) (h:k<xs.length):(Itl K a).go k H:=(ii xs (xs[k]) ⟨SqL.of (S a _ e),bE h⟩)
def zo(e:H1 a=some (.lst xs)) (S:gJ H1 H):(Itl K a).stop xs.length H:=⟨xs,SqL.of (S a _ e),cJ _⟩
def zp(e:H1 a=some (.tup xs)) (S:gJ H1 H) (h:k<xs.length):(Itt K a).go k H:=(ii xs (xs[k]) ⟨SqT.of (S a _ e),bE h⟩)
def zq(e:H1 a=some (.tup xs)) (S:gJ H1 H):(Itt K a).stop xs.length H:=⟨xs,SqT.of (S a _ e),cJ _⟩
inductive Ls (H:Hp):List Zx->List (List V)->Prop
 |nil:Ls H [] []
 |cons {a:Zx} {c:List V} {l:List Zx} {m:List (List V)}:H a=some (.lst c)->Ls H l m->Ls H (a::l) (c::m)
structure Sd where
 b:Zx
 dx:Zx
 p0:Zx
 p1:Zx
 p2:Zx
 p3:Zx
 d:Zx
 q0:Zx
 q1:Zx
 q2:Zx
 q3:Zx
structure Bd where
 pts:List Int
 mks:List Mkg
 uss:List Us
 fls:List (Int×Int)
 root:Int
def wW(h:H a=some (.lst xs)):FK H (upd H a o):=fun b u e f=>by rw[gy (lU e h (fun z=>by rw[z]at f;exact f))];exact e
section
variable {c:Cs} {H H':Hp} {S:Sd} {E D:Bd}
end
def Frm (M:List Zx) (H b:Hp):Prop:=∀a o,H a=some o->a∉M->b a=some o
def Frm.trans {M:List Zx} {d:Hp} (a:Frm M H H1) (b:Frm M H1 d):Frm M H d:=fun c o e n=>b c o (a c o e n) n
inductive Mf where
 |num
 |fn (x y:Int)
 |rcd (l:List (Str×Int))
 |tag (w:Str) (x:Int)
 |row (x:Int)
 |any
end BO.Internal
namespace L2.Internal
variable {C:Zx}
open PySem PySem.Spec PyProof.Rows
section
variable {X:Cx} {e a b o f:Zr} {st:Zq} {ta tb td ty tx to:TE} {pos apos cpos:Pos}
def PE.weak {t t':TE} (h:PE X e t) (m:∀a H Q,t' a H Q->t a H Q):PE X e t':=fun b s a H Q I q=>h b s a H Q I (m a H Q q)
def PT.weak {t t':TT} (h:PT X e t) (m:∀a H Q,t' a H Q->t a H Q):PT X e t':=fun b s a H Q I q=>h b s a H Q I (m a H Q q)
def PS.weak {t t':TS} (h:PS X st t) (m:∀D a H,t' D a H->t D a H):PS X st t':=fun b s a H D I q=>h b s a H D I (m D a H q)
def OpR.weak {g:Zz->Zz->Sem Zz} {r a:R2} (h:OpR X g r) (m:∀x y H Q,a x y H Q->r x y H Q):OpR X g a:=fun e s b H x y v u Q I d c q=>h e s b H x y v u Q I d c (m x y H Q q)
def IxR.weak {r c:R2} (h:IxR X r) (m:∀x y H Q,c x y H Q->r x y H Q):IxR X c:=fun a b g s d H x y v u Q I f e q i=>h a b g s d H x y v u Q I f e (m x y H Q q) i
def mT (t:TE):TE:=fun c H Q=>∃a,t c H a/\∀x b,a x b->Q x b
def PE.mono {t:TE} (h:PE X e t):PE X e (mT t):=fun f s b H Q I ⟨i,g,m⟩=>thn (h f s b H i I g) fun v k ⟨x,a,j,c,d⟩=>(ii x a ⟨j,c,m x a d⟩)
def mR (r:R2):R2:=fun x y H Q=>∃a,r x y H a/\∀x b,a x b->Q x b
def OpR.mono {g:Zz->Zz->Sem Zz} {r:R2} (h:OpR X g r):OpR X g (mR r):=fun i s b H x y v u Q I d c ⟨k,j,m⟩=>thn (h i s b H x y v u k I d c j) fun v n ⟨x,a,l,e,f⟩=>(ii x a ⟨l,e,m x a f⟩)
def onV:Option (Option V)->(V->Prop)->Prop
 |some (some v),k=>k v
 |_,_=>False
def onS {a:Type}:Option a->(a->Prop)->Prop
 |some v,k=>k v
 |none,_=>False
def gf(h:x=some v) (q:k v):onS x k:=by rw[h];exact q
def BP(h:onS x k):∃v,x=some v/\k v:=by
 cases x with
 |none=>exact h.elim
 |some v=>exact⟨v,rfl,h⟩
def cV (i:Nat):TE:=fun a H Q=>onV a[i]? fun v=>Q v H
def cv (i:Nat) {x:Str} {pos:Pos} (hN:autoParam (X.N[i]?=some x) auR._auto_1) (hv:Vis X.env.scope x:=by first|exact Or.inl rfl|exact Or.inr (.inl rfl)|exact Or.inr (.inr rfl)) (hd:autoParam ((x==("__debug__":Str))=false) auD._auto_1)
  (hcd:autoParam ((x==("__classdict__":Str))=false) auD._auto_1):PE X (.Name x pos) (cV i):=(pv i hN hv hd hcd).weak fun σ H Q h=>by
 unfold cV at h
 cases q:σ[i]? with
 |none=>rw[q]at h;exact h.elim
 |some o=>
  rw[q]at h
  cases o with
  |none=>exact h.elim
  |some v=>exact⟨v,q,h⟩
def cI0 (g:Int->Int->V):R2:=fun x y H Q=>match x,y with
 | .int i,.int j=>Q (g i j) H
 |_,_=>False
def cI (C:Int->Int->Prop) (g:Int->Int->V):R2:=fun x y H Q=>match x,y with
 | .int i,.int j=>C i j/\Q (g i j) H
 |_,_=>False
def uH:∀x y H Q,cI0 g x y H Q->rI0 g x y H Q:=fun x y H Q h=>by
 unfold cI0 at h;split at h;·exact ii _ _ ⟨rfl,rfl,h⟩
 ·exact h.elim
def DR{C:Int->Int->Prop}:∀x y H Q,cI C g x y H Q->rI C g x y H Q:=fun x y H Q h=>by
 unfold cI at h;split at h;·exact ii _ _ ⟨rfl,rfl,h.1,h.2⟩
 ·exact h.elim
def ki:OpR X (MF .Add) (cI0 fun i j=> .int (i+j)):=El.weak uH
def zr:OpR X (MF .Sub) (cI0 fun i j=> .int (i-j)):=Hy.weak uH
def EB:OpR X (MF .Mult) (cI JM fun i j=> .int (i*j)):=Hz.weak DR
def kr:OpR X (MF .FloorDiv) (cI LG fun i j=> .int (i/j)):=Fn.weak DR
def iE:OpR X (MF .Mod) (cI (fun _ j=>0<j) fun i j=> .int (i%j)):=HA.weak DR
def zt:OpR X (MF .Pow) (cI LH fun i j=> .int (i^j.toNat)):=HB.weak DR
def uc:OpR X (Mw .Lt) (cI0 fun i j=> .bl (decide (i<j))):=Dw.weak uH
def Ic:OpR X (Mw .LtE) (cI0 fun i j=> .bl (decide (i<=j))):=tX.weak uH
def qJ:OpR X (Mw .Gt) (cI0 fun i j=> .bl (decide (j<i))):=HC.weak uH
def Km:OpR X (Mw .GtE) (cI0 fun i j=> .bl (decide (j<=i))):=J7.weak uH
def cEq (n:Bool):R2:=fun x y H Q=>match x,y with
 | .int i,.int j=>Q (.bl (xor n (decide (i=j)))) H
 | .str i,.str j=>Q (.bl (xor n (decide (i=j)))) H
 |_,_=>False
def LP:decide (V.str i=V.str j)=decide (i=j):=by rw[fe];simp
def LQ:decide (V.int i=V.int j)=decide (i=j):=by rw[fe];simp
def iA:OpR X (Mw .Eq) (cEq false):=uZ.weak fun x y H Q h=>by
 unfold cEq at h;split at h;·refine⟨rfl,?_⟩;rw[LQ];rw[fj]at h;exact h
 ·refine⟨rfl,?_⟩;rw[LP];rw[fj]at h;exact h
 ·exact h.elim
def Aq:OpR X (Mw .NotEq) (cEq true):=oP.weak fun x y H Q h=>by
 unfold cEq at h;split at h;·refine⟨rfl,?_⟩;rw[LQ];rw[fk]at h;exact h
 ·refine⟨rfl,?_⟩;rw[LP];rw[fk]at h;exact h
 ·exact h.elim
def onB:V->(Bool->Prop)->Prop
 | .bl k,q=>q k
 |_,_=>False
def Ie(h:onB x k):∃c,x= .bl c/\k c:=by cases x<;>first|exact⟨_,rfl,h⟩|exact h.elim
def cT (t:TE):TT:=fun a H Q=>t a H fun x b=>onB x fun k=>Q k b
def gq {op:CmpOp} {r:R2} (ho:OpR X (Mw op) r) (ha:PE X a ta) (hb:PE X b tb) (hm:MP op b=false:=by exact Bb _):PT X (.Compare a [op] [b] pos) (cT (tOp r ta tb)):=
 (jD ho.mono ha.mono hb.mono hm).weak fun σ H Q h=>⟨_,h,fun x H1 h1=>⟨_,h1,fun y H2 h2=>⟨_,h2,fun z H' h3=>Ie h3⟩⟩⟩
def Ar:R2:=fun x y H Q=>match x,y with
 | .ref p,.int i=>∃a,H p=some (.lst a)/\onS (atI a i) fun v=>Q v H
 |_,_=>False
def zu:R2:=fun x y H Q=>match x,y with
 | .ref p,.int i=>∃a,H p=some (.tup a)/\onS (atI a i) fun v=>Q v H
 |_,_=>False
def LR:R2:=fun x y H Q=>match x,y with
 | .str z,.int i=>z.length<=sizeLine/\onS (atI z.cps.toList i) fun c=>Q (.str ⟨#[c]⟩) H
 |_,_=>False
def gi:IxR X Ar:=Bs.weak fun x y H Q h=>by
 unfold Ar at h;split at h;·refine eaa h fun a e h=>?_;refine eaa (BP h) fun v b h=>?_;exact io _ a _ v ⟨rfl,rfl,SqL.of e,b,h⟩
 ·exact h.elim
def gB:IxR X zu:=HL.weak fun x y H Q h=>by
 unfold zu at h;split at h;·refine eaa h fun a e h=>?_;refine eaa (BP h) fun v b h=>?_;exact io _ a _ v ⟨rfl,rfl,SqT.of e,b,h⟩
 ·exact h.elim
def BQ:IxR X LR:=Bt.weak fun x y H Q h=>by
 unfold LR at h;split at h;·obtain⟨e,h⟩:=h;refine eaa (BP h) fun v a h=>?_;exact iaa _ _ v ⟨rfl,rfl,e,a,h⟩
 ·exact h.elim
def Fd (H:Hp) (a C:Zx) (f:Str) (v:V):Prop:=∃c b,H a=some (.ins C c b)/\b.lookup f=some v
def Nf (H:Hp) (a C:Zx) (m:Str):Prop:=∃c b,H a=some (.ins C c b)/\b.lookup m=none
def Hi (C:Zx) (f:Str) (d:TE):TE:=fun c H Q=>d c H fun x b=>match x with
 | .ref a=>∃v,Fd b a C f v/\Q v b
 |_=>False
def gR {f:Str} (c:Cls X.K C) (n:iU X.K C f) (g:PE X e ta) (i:autoParam (M9 e f X.env (eval e X.env)=eval e X.env) auR._auto_1):PE X (.Attribute e f pos) (Hi C f ta):=
 (qe g.mono i).weak fun o H Q h=>⟨_,h,fun x p b=>by
  cases x with
  |ref a=>refine eaa b fun v d q=>?_;refine eah d fun m j l k=>?_;exact iab a C m j v ⟨rfl,l,c,n,k,q⟩
  |_=>exact b.elim⟩
def Ko (C:Zx) (m:Str) (g:Sp) (b:List V) (E:XK) (f:TE) (t:TA):TE:=fun c H Q=>f c H fun x d=>match x with
 | .ref a=>Nf d a C m/\t c d fun e h=>g (.ref a::(e++b)) h Q E
 |_=>False
def gY(h:PE X e (Fv C m sp dvs E (mT ta) t)):PE X e (Ko C m sp dvs E ta t):=h.weak fun g H Q h=>⟨_,h,fun x i b=>by
  cases x with
  |ref a=>obtain⟨⟨f,c,d,l⟩,q⟩:=b;exact iaa a f c ⟨rfl,d,l,q⟩
  |_=>exact b.elim⟩
def Kp (C:Zx) (f:Str) (h g:TE):TS:=fun D b H=>g b H fun y i=>h b i fun x e=>match x with
 | .ref a=>∃d c,e a=some (.ins C d c)/\c.length<1000/\D.nx b (upd e a (.ins C d (jV f y c)))
 |_=>False
def jk{f:Str} (c:Cls X.K C) (n:iU X.K C f) (h:PS X st (LJ X.K (mT ta) (mT tv) f)):PS X st (Kp C f ta tv):=h.weak fun D j H h=>⟨_,h,fun y m d=>⟨_,d,fun x k b=>by
  cases x with
  |ref a=>refine eap b fun i e g l q=>?_;exact io a C i e ⟨rfl,g,c,n,l,q⟩
  |_=>exact b.elim⟩⟩
def cS:R2:=fun x y H Q=>match x,y with
 | .str i,.str j=>i.length+j.length<=sizeLine/\Q (.str (i++j)) H
 |_,_=>False
def ku:OpR X (MF .Add) cS:=uw.weak fun x y H Q h=>by
 unfold cS at h;split at h;·exact ii _ _ ⟨rfl,rfl,h.1,h.2⟩
 ·exact h.elim
def Kq (e f:TE):TE:=fun b H Q=>e b H fun x d=>match x with
 | .ref l=>(∃a,d l=some (.lst a))/\f b d fun y c=>∃a,c l=some (.lst a)/\a.length<sizeLine/\Q .non (upd c l (.lst (a++[y])))
 |_=>False
def iW (h:PE X e (tBM X.K "list" Bu (mT to) (kP (mT ta) x8))):PE X e (Kq to ta):=h.weak fun f H Q h=>⟨_,h,fun x i b=>by
  cases x with
  |ref l=>obtain⟨⟨a,e⟩,q⟩:=b;exact⟨.inl ⟨rfl,a,SqL.of e⟩,_,q,fun y g ⟨a,e,d,c⟩=>(iaa l a y ⟨rfl,rfl,e,d,c⟩)⟩
  |_=>exact b.elim⟩
end
end L2.Internal
namespace BO.Internal
open PySem L2.Internal
structure Rw where
 w:Bool
 a:Int
 b:Int
 y:Option (Int×Int)
end BO.Internal
namespace L2.Internal
variable {l:Zx}
open PySem PySem.Spec PyProof.Rows
section
variable {X:Cx}
end
def Itv (K:Zp) (a:Zx) (n:Nat):It:=
 ⟨fun i H=>i<n/\∃b,SqL K H a b/\b.length=n,fun i H x c=>c=H/\∀b,SqL K H a b->b[n-1-i]?=some x,fun i _=>i=n⟩
def DS{K:Zp} (a it:Zx) (n:Nat):Ej P w K tg (Itv K a n) [it] it (fun i h=>h.IsRevIter it a ((n:Int)-1-(i:Int))) where
 mem:=by simp
 obj:=fun i h g b l=>by
  have e:b=it:=by simpa using l
  subst e;refine eak g fun o e c d=>?_;exact⟨o,e,fun v z=>by rw[d]at z;cases z⟩
 keep:=fun i h N g k=>g.at fun o e=>k it O4 o e
 item:=by
  intro X x r y M i T s O H E I q g t;subst x r y;refine eab t fun L=>faa fun G=>f8 fun J hn=>?_;refine eak (I.list J) fun U R p hz=>?_;have m:n-1-i<G.length:=O2
  refine eaa (R.get (bE m)) fun u W S=>?_;refine eam (q it O4) fun F D Y C B A=>?_;have e:(n:Int)-1-(i:Int)=((n-1-i:Nat):Int):=O2
  have f:=g;rw[e]at f;refine wpAny_pyNext_rev_item f p.isList (by simpa using W) fun N j Q=>?_;have e2:((n-1-i:Nat):Int)-1=(n:Int)-1-((i+ 1:Nat):Int):=O2
  rw[e2]at j;have I1:=I.turned (t':=s.toks) (fun b o l e=>(Q.2 b l).trans e) F D C B A;refine eak (id j) fun o Z c d=>?_;exact⟨u,rfl,A4 Z c d O3 (ii (G[n-1-i]) H (⟨I1,S,⟨rfl,fun ys V=>by rw[I.list_inj V J];exact bE m⟩,j,fun b l=>(q b l).1⟩))⟩
 done:=by
  intro X x r y M i T s O H E I q g t;subst x r y;have L:=t;subst L;refine eam (q it O4) fun F D Y C B A=>?_;have e:(i:Int)-1-(i:Int)= -1:=O2
  have f:=g;rw[e]at f;exact wpAny_pyNext_rev_end (I.ok.hd M) f fun N eb=>⟨rfl,I.turned (fun b o l e=>eb b o l e) F D C B A⟩
 self:=fun _ _ _ _ _ g h=>wpAny_pyIter_revIter g h
def iRev (K:Zp) (f:TA):TI:=fun d H R=>f d H fun e c=>∃a b,e=[.ref a]/\SqL K c a b/\R (Itv K a b.length) c
def sI:Mq "reversed"=some (.type "reversed"):=by first|rfl|decide+kernel
section
variable {X:Cx}
def Ig(B:Gl X "reversed") (A:X.mg "reversed"=none) (D:PA X [a] ta) (y:autoParam (Mj [a] X.env=[(false,eval a X.env)]) auR._auto_1):
  PI X tg (.Call (.Name "reversed" p) [a] [] pos) (iRev X.K ta):=by
 intro w s k H R I h;refine Call_ (qb I B A sI (fS (thn (D pos w s k H _ I h) ?_) y rfl));refine fun J c=>fac fun G E f t v=>?_;refine eap v fun g d e z q=>?_;subst e;refine eaa (mO t) fun u l r=>?_;subst l;cases r;refine eak (f.list z) fun i m x F=>?_;have K:=m.length;refine call_reversed_list x.isList ?_;have n:((i.toArray.size:Nat):Int)-1=(d.length:Int)-1-((0:Nat):Int):=by simp only[aY];lia
 rw[n];have j:(c.heap.push (revObj g ((d.length:Int)-1-((0:Nat):Int)))).IsRevIter c.heap.objs.size g ((d.length:Int)-1-((0:Nat):Int)):=⟨_,fK _ rfl,rfl,rfl⟩;refine wpAny_pyIter_revIter j ?_;refine iab c.heap.objs.size ([c.heap.objs.size]) _ _ E ⟨rfl,f.kept fun b o e=>fM _ e,DS g _ d.length,j,fun b C=>?_,q⟩;have e:b=c.heap.objs.size:=by simpa using C
 subst e;exact f.fpOk (cJ _) (f.hok.fresh (cJ _))
def BR:MtR X "dict.update" (fun x m H Q=>∃d o b a,x= .ref d/\m=[.ref o]/\d≠o/\H d=some (.dK b)/\H o=some (.dK a)/\b.length+a.length<=sizeLine/\Q .non (upd H d (.dK (kq b a)))):=by intro M s J H x m v L Q I B D h;refine ead h fun d o b a=>fap fun g l i p E n q=>?_;subst g;subst l;cases B;refine eaa (mO D) fun u g C=>?_;subst g;cases C;refine ear (wI I.hok p) fun l A w e r=>?_;refine ear (wI I.hok E) fun K z t c k=>?_;refine call_meetsIn eQ r.typeIs PySem.F.entry_dict_update (PySem.F.args_dict_update_2 _ _) (meets_dict_update (jB X.prog X.w) d o i z) (ii w t ⟨r,k,by rw[<-e.length,<-c.length];exact n,fun G f _ y=>?_⟩);have F:∃q,G.get? d=some q:=let⟨q,_,_,hq,_⟩:=f;⟨q,hq⟩;have j:=cF (mP a b) n;exact ii .non _ ⟨sr I (by rw[p];exact MG) y F (su j A (c.merge e) f),rfl,q⟩
end
section
variable {X:Cx}
def Kr(ns:Zd) (b:List (Str×Nat×Zx)) (d:b.map (·.1)=ns) (E:a.kind= .function) (s:∀p∈a.names,p.2≠ .cell/\(p.2= .free->p.1∈ns)) (D:∀y∈a.names,y.2= .local->a.names.lookup y.1=some .local)
  (B:a.names.lookup x=some .local) (r:(x::y::ns).Nodup) (F:Nt a X.env=pure (b.map fun p=>(p.1,p.2.2))) (n:X.env.scope.kind= .function)
  (h:∀p∈b,a.names.lookup p.1=some .free/\X.env.cells.lookup p.1=some p.2.2/\X.env.scope.names.lookup p.1=some .cell/\X.N[p.2.1]?=some p.1):
  qF X (x::y::ns) a (b.map fun p=>(p.1,p.2.2)) (fun j=>none::none::b.map fun p=>j.getD p.2.1 none) 0 x where
 kind:=E
 cell:=fun y A=>(s y A).1
 names:=D
 clos:=F
 lk:=fun z c q=>by refine eaa (bh.mp (Mn q)) fun p C e=>?_;cases e;exact(h p C).2.1
 has:=fun z q=>by
  refine qI ?_;rw[d];rcases q with q|q
  ·refine eaa (iC q) fun w e q=>?_;have m:=s _ (Mn e);rcases q with q|⟨q,_⟩;·exact absurd q.symm m.1
   ·exact m.2 q
  ·refine eaa (iC q) fun w e q=>?_;have m:=s _ (Mn e);rcases q with q|⟨q,_⟩;·exact m.2 q.symm
   ·exact m.2 q
 nd:=r
 ix:=rfl
 loc:=B
 len:=fun _ _=>by simp[<-d]
 val:=fun j k z v g f=>by
  match k with
  |0=>simp at f
  |1=>simp at f
  |k+ 2=>
   rw[<-d,bJ,bJ,aP]at g;rw[bJ,bJ,aP]at f
   cases e:b[k]? with
   |none=>rw[e]at g;cases g
   |some p=>
    rw[e]at g f;have G:=du.inj g;have i:j.getD p.2.1 none=some v:=du.inj f;subst G;refine ean (h p (aQ e)) fun I J u H=>?_;rw[bu]at i;refine⟨p.2.1,H,?_,u,jj n u I⟩
    cases q:j[p.2.1]? with
    |none=>rw[q]at i;cases i
    |some o=>rw[q]at i;exact congrArg some i
end
section
variable {X:Cx} {pz:Za} {σ:St} {H:Hp} {s:Zy}
end
section
variable {prog:Zu} {w:Zv} {A:Zw} {R:Result->Zy->Prop} {I:Zx} {fp wr:List Zx} {n:Nat} {P:Nat->Zz->Prop} {St:Nat->Zt->Prop}
end
section
variable {prog:Zu} {w:Zv} {A:Zw} {E:Zb} {s:Zy} {l:Zx} {xs:Array (Int×Tok)}
end
section
variable {X:Cx}
end
section
variable {X:Cx}
end
def As:typeLookup (.type "list_reverseiterator") "__len__"=pure none:=by rw[typeLookup_type,Np];kernel_rfl
def DT:typeLookup (.type "list_reverseiterator") "__length_hint__"=pure (some (.builtin "list_reverseiterator.__length_hint__")):=by rw[typeLookup_type,Np];kernel_rfl
section
variable {prog:Zu} {w:Zv} {A:Zw} {s:Zy}
def DU{E:Zb} (a:s.heap.IsRevIter it l i) (h:Q false s):L8 (model prog w) A (Builtin.List.listLengthHint (.ref it)) Q E s:=by unfold Builtin.List.listLengthHint;refine C8 (wpAny_specialOf a.typeIs As ?_);refine C8 (wpAny_specialOf a.typeIs DT ?_);generalize d:("list_reverseiterator.__length_hint__":String)=idr;wp_delta;rw[show splitId idr=some ("list_reverseiterator","__length_hint__")from by subst d;decide+kernel];subst d;refine C8 (wpAny_isInstance (b:=true) a.typeIs (by rw[isSubtype_type];kernel_rfl) ?_);refine wpAny_ite_split (fun c=>absurd c O3) (fun _=>?_);refine wpAny_ite_split (fun _=>?_) (fun c=>absurd gL c);exact wpAny_ite_split (fun c=>absurd c O3) (fun _=>Ma h)
def Au {R:Result->Zy->Prop} {it:Zx} {a:Array Zz} (B:A.handled=none) (c:s.heap.IsRevIter it l ((a.size:Int)-1)) (z:s.heap.IsList l a) (p:l≠it) (n:a.size<=sizeLine) (D:Zx) (h:Zz) (x:Nat)
  (H:s.heap.get? D=some {cls:= .type "list",data:= .seq #[] x}) (k:D≠it) (r:D≠l)
  (G:∀m y d u,(∀b o,b≠D->b≠it->s.heap.get? b=some o->m.get? b=some o)->m.get? D=some {cls:= .type "list",dict:=none,data:= .seq d u,slots:=#[]}->
   ItemsOf (fun i v=>a[a.size-1-i]?=some v) d a.size->R (.ok (.ret h)) {s with heap:=m,toks:=y}):
  L8 (model prog w) A.in1 (MY (.ref D) (.ref it) h)
   (fun t g=>match t with| .done f=>R (.ok f) g| .again c'=>c'.quiet=true/\Nx (model prog w) A c' R g) (fun e g=>R (.error e) g) s:=by
 have W:=(Walks.listRev (prog:=prog) (w:=w) (A:=A.in1) B it l p a).toS;unfold MY;refine C8 (NI c.typeIs ?_);have J:Builtin.List.listSameRef (.ref D) (.ref it)=false:=by simp[Builtin.List.listSameRef,k]
 have m:(Value.type "list_reverseiterator"==Value.type "list")=false:=O3
 have I:(Value.type "list_reverseiterator"==Value.type "tuple")=false:=O3
 simp only[J,m,I,Bool.or_false,Bool.false_eq_true,if_false];refine C8 (wpAny_pyIter_revIter c ?_);refine C8 (MQ (DU c ?_));refine wpAny_ite_split (fun n=>absurd n O3) (fun _=>?_);refine Ma ⟨plainId_quiet F.plain_extend_loop _,codeAny_extend_loopS W n D (fun hm=>?_) h a.size 0 _ #[] x rfl (cK _) ⟨cK _,by simpa using c,z⟩ H (ItemsOf.nil _) fun g d u hm E j=>?_⟩
 ·rcases ao.mp hm with e|hm;·exact k e
  ·exact r (bo.mp hm)
 ·rw[Moved.eq_with hm];refine G g.heap g.toks d u (fun b o C q e=>hm.heap b o (fun hmem=>?_) e) E j;rcases ao.mp hmem with K|hmem;·exact C K
  ·exact q (bo.mp hmem)
def vy{E:Zb} {Q:Zb} (G:A.handled=none) (h:s.heap.IsRevIter it l ((a.size:Int)-1)) (z:s.heap.IsList l a) (p:l≠it) (B:a.size<=sizeLine)
  (I:∀k n c u,(∀b o,b≠it->s.heap.get? b=some o->k.get? b=some o)->k.get? s.heap.objs.size=some {cls:= .type "list",dict:=none,data:= .seq c u,slots:=#[]}->
   ItemsOf (fun i v=>a[a.size-1-i]?=some v) c a.size->Q (.ref s.heap.objs.size) {s with heap:=k,toks:=n}):
  L8 (model prog w) A (call (.type "list") [.ref it]) Q E s:=by
 have D:it<s.heap.objs.size:=by refine eaa h fun o e _=>?_;exact fJ e
 have q:l<s.heap.objs.size:=by refine eaa z fun o e _=>?_;exact fJ e
 refine callType_codes (Q₁:=fun f d=>f= .ref s.heap.objs.size/\d={s with heap:=s.heap.push {cls:= .type "list",data:= .seq #[]}}) F.called_list (F.typeCall_list_1 _) F.entry_list_init (code_list_new _ ⟨rfl,rfl⟩) fun f L K=>?_;obtain⟨rfl,rfl⟩:=K;have m:(s.heap.push {cls:= .type "list",data:= .seq #[]}).get? s.heap.objs.size=some {cls:= .type "list",data:= .seq #[]}:=fK _ rfl;have g:(s.heap.push {cls:= .type "list",data:= .seq #[]}).IsRevIter it l ((a.size:Int)-1):=h.at fun o e=>fM _ e;have r:(s.heap.push {cls:= .type "list",data:= .seq #[]}).IsList l a:=z.push _;refine⟨⟨_,m,rfl⟩,F.args_list_init_2 _ _,?_⟩;refine C8 ?_;unfold Builtin.List.listItems;refine C8 (MD m rfl (Ma ?_));refine C8 (wpAny_updateSeq m rfl ?_);have t:=fO (Obj.mapSeq (fun _=>(#[]:Array Zz))) m rfl;refine C8 (wpAny_letGo ?_);have y:=cH D;have x:=cH q;refine Au (A:=A.in1) G (g.at fun o e=>(fQ _ _ y).trans e) (r.at fun o e=>(fQ _ _ x).trans e) p B _ .none _ t y x fun k n c u C J j=>?_;exact⟨rfl,I k n c u (fun b o H e=>C b o (cE (fJ e)) H ((fQ _ _ (cH (fJ e))).trans (fM _ e))) J j⟩
end
section
variable {X:Cx}
def tLR (K:Zp) (f:TA):TE:=fun d H Q=>f d H fun e b=>∃a c,e=[.ref a]/\SqL K b a c/\∀l,b l=none->Q (.ref l) (upd b l (.lst c.reverse))
def Av(U:X.calm=true) (T:Gl X "list") (R:X.mg "list"=none) (t:Gl X "reversed") (n:X.mg "reversed"=none) (V:PA X [a] ta)
  (O:autoParam (Mj [a] X.env=[(false,eval a X.env)]) auR._auto_1) (i:autoParam (Mj [.Call (.Name "reversed" p2) [a] [] pos2] X.env=[(false,eval (.Call (.Name "reversed" p2) [a] [] pos2) X.env)]) auR._auto_1):
  PE X (.Call (.Name "list" p) [.Call (.Name "reversed" p2) [a] [] pos2] [] pos) (tLR X.K ta):=by
 intro K s A H Q I h;refine Nm (qb I T R sC ?_ O3 O3);refine fS ?_ i rfl;rw[i];refine NF ?_;refine Call_ (qb I t n sI (fS (thn (V pos2 K s A H _ I h) ?_) O rfl));refine fun us g=>fac fun vs H1 l G J=>?_;refine eap J fun k D e P q=>?_;subst e;refine eaa (mO G) fun u C F=>?_;subst C;cases F;refine eak (l.list P) fun c w m B=>?_;have y:=w.length;refine call_reversed_list m.isList ?_;refine Calls.spliced_nil ?_;have E:(g.heap.push (revObj k ((c.toArray.size:Int)-1))).IsRevIter g.heap.objs.size k ((c.toArray.size:Int)-1):=⟨_,fK _ rfl,rfl,rfl⟩;have r:k<g.heap.objs.size:=by refine eaa m.isList fun o e _=>?_;exact fJ e
 refine vy (l.ok.hd U) E (m.isList.push _) (cE r) (by rw[aY];lia) fun Y tk d c2 S W f=>?_;have L:∀b o,g.heap.get? b=some o->Y.get? b=some o:=fun b o e=>S b o (cE (fJ e)) (fM _ e);have x:(g.heap.push (revObj k ((c.toArray.size:Int)-1))).objs.size=g.heap.objs.size+ 1:=fN ..;have M:ja D.reverse d.toList:=by
  have Z:d.toList=c.reverse:=by
   refine List.ext_getElem? fun j=>?_;by_cases hj:j<d.size
   ·have z:=f.2 j d[j] (fu hj);have N:d.size=c.length:=by have v:=f.1;simpa using v
    rw[aY]at z;rw[List.getElem?_reverse (show j<c.length by lia)];rw[ft,fu hj,<-z];simp
   ·have h4:d.size=c.length:=by have v:=f.1;simpa using v
    rw[bL (by simpa using hj),bL (by rw[bM];lia)]
  rw[Z];exact w.reverse
 refine ii (.ref (g.heap.objs.size+ 1)) _ ⟨?_,by rw[x];rfl,q (g.heap.objs.size+ 1) (l.hok.fresh (cP _))⟩;refine l.laid L (cP _) ⟨by rw[bM];exact B,d.toList,c2,M,?_⟩;rw[<-x];simpa using W
end
end L2.Internal
namespace L2.Internal
open PySem PySem.Spec PyProof.Rows PySem.W
section
variable {prog:Zu} {w:Zv} {A:Zw} {E:Zb} {s:Zy}
end
section
variable {X:Cx}
end
section
variable {fs ex:List Zx} {H H':Hp} {h h':Zt}
end
section
variable {X:Cx} {pz:Za} {σ:St} {H H':Hp} {s:Zy} {h':Zt}
end
section
variable {X:Cx}
end
end L2.Internal
namespace L2.Internal
open PySem PySem.Spec PyProof.Rows
section
variable {X:Cx} {pz:Za} {σ:St} {H:Hp} {s:Zy}
end
section
variable {X:Cx}
end
section
open PySem.SeqAt
open PySem.AutoSeq1 (wpAny_loadPart')
open PySem.MeetsSeq PySem.MeetsSeq2 PySem.MeetsSeq3
end
section
variable {X:Cx}
end
section
variable {X:Cx}
end
section
variable {X:Cx}
end
theorem uI:∀{d:Zd} {c:List Zz},ja (d.map V.str) c->∃l:List (Str×Tok),c=strValues l/\l.map (·.1)=d
 |[],c,h=>by
  cases c with
  |nil=>exact⟨[],rfl,rfl⟩
  |cons a b=>exact absurd h.length O4
 |y::d,c,h=>by
  cases c with
  |nil=>exact absurd h.length O4
  |cons u c=>
   obtain⟨t,rfl⟩:∃t,u= .str y t:=by refine eaa (h.get (show((y::d).map V.str)[0]?=some (.str y)from rfl)) fun v e r=>?_;cases e;exact r
   refine eaa (uI (by
    cases h with
    |cons _ h=>exact h)) fun l g f=>?_;exact⟨(y,t)::l,by rw[g];rfl,by rw[aD,f]⟩
section
variable {X:Cx}
def Ks (K:Zp):V->List V->Hp->VK->Prop:=fun x c H Q=>∃(z:Str) (a:Zx) (b:Zd),x= .str z/\c=[.ref a]/\SqL K H a (b.map V.str)/\(b.map (·.length)).sum+b.length*z.length<=sizeLine/\Q (.str (My z b)) H
def BS:MtR X "str.join" (Ks X.K):=by
 intro D s y H x A v B Q I g m h;refine eag h fun z a b=>faj fun c f o E q=>?_;subst c;subst f;obtain⟨t,rfl⟩:=g;refine eaa (mO m) fun u c j=>?_;subst c;cases j;refine eak (I.list o) fun n i p _=>?_;refine eaa (uI i) fun l w r=>?_;have d:=p.isList;rw[w]at d;refine SC.join d r ?_ fun C k=>?_
 ·unfold JoinOk;rw[StrLaws.joinTotal];have:¬(b.map (·.length)).sum+b.length*z.length>sizeLine:=O2
  show(!Builtin.Str.tooLong _)=true;unfold Builtin.Str.tooLong;rw[hV this];rfl
 ·have e:Txt.join z b=My z b:=StrLaws.glued_eq_join z b;rw[e];exact ii (.str _) H (⟨I.tok k,⟨_,rfl⟩,q⟩)
end
section
variable {X:Cx}
end
section
variable {X:Cx}
end
section
variable {prog:Zu} {w:Zv} {A:Zw} {E:Zb} {h:Zt} {g:Array GenState} {d:Drawn} {t:Nat} {os:OsState} {a D:Zx} {o:Obj} {K:Zp}
structure LS (K:Zp) (D:Zx):Prop where
 ga:dG K (.ref D) "__getattribute__"=some (some (.builtin "BaseException.__getattribute__"))
 gn:dG K (.ref D) "__getattr__"=some none
 cl:dG K (.ref D) "__class__"=some (some (.builtin "object.__class__"))
 sb:eC K (.ref D) (.type "BaseException")=some true
 so:eC K (.ref D) (.type "object")=some true
 is:dF K D=true
end
section
variable {X:Cx}
end
open Sem (wp)
def DK (h c:Zt):Prop:=∀b o,h.get? b=some o->∃a,c.get? b=some a/\a.dict=o.dict/\a.cls=o.cls
theorem DK.trans {h d c:Zt} (a:DK h d) (b:DK d c):DK h c:=fun x o e=>by refine eak (a x o e) fun g j l n=>?_;refine eak (b x g j) fun f i k m=>?_;exact⟨f,i,k.trans l,m.trans n⟩
section
variable {prog:Zu} {w:Zv} {A:Zw} {E:Zb} {h:Zt} {g:Array GenState} {d:Drawn} {t:Nat} {os:OsState} {a D dx:Zx} {o:Obj} {K:Zp} {name:Str} {v:Zz} {mA:Zc}
end
open Builtin Builtin.ObjectAttr
section
variable {prog:Zu} {w:Zv} {A:Zw} {E:Zb} {h:Zt} {g:Array GenState} {d:Drawn} {t:Nat} {os:OsState} {a D dx:Zx} {o:Obj} {K:Zp} {name:Str} {v:Zz} {mA:Zc} {cd:ClassData} {vs:Array Zz}
structure LU (K:Zp) (D:Zx):Prop where
 xc:LS K D
 sa:dG K (.ref D) "__setattr__"=some (some (.builtin "object.__setattr__"))
 mro:∃cd,PySem.W.clsIn K D=some cd/\cd.hasDict=true/\∀self,refuseLoop self "__setattr__" cd.mro=pure ()
end
section
variable {prog:Zu} {w:Zv} {A:Zw} {E:Zb} {h:Zt} {g:Array GenState} {d:Drawn} {t:Nat} {os:OsState}
variable {nm q:Str} {C N:Zx} {bs bm bmB:List Zz} {hdct:Bool} {sn:Zd} {sub:List Zz} {ab:Bool} {col:Option Bool} {dd:Option Zx} {k0 k1 k2 k3 k5:Option Zz} {B newId initId:String}
end
section
variable {prog:Zu} {w:Zv} {A:Zw} {E:Zb} {s:Zy} {env:Env}
variable {nm q:Str} {C N:Zx} {bs bm bmB:List Zz} {hdct:Bool} {sn:Zd} {sub:List Zz} {ab:Bool} {col:Option Bool} {dd:Option Zx} {k0 k1 k2 k3 k5:Option Zz} {B newId initId:String}
end
section
variable {P:Zu} {w:Zv} {H:Hp} {h:Zt} {a C dx:Zx}
end
section
variable {X:Cx} {pz:Za} {σ:St} {H:Hp} {s:Zy} {A:Zw} {E:Zb} {a C dx:Zx} {f:Str} {fs:List (Str×V)}
end
section
variable {X:Cx} {o value e:Zr} {ta tv:TE} {f:Str} {pos pos':Pos}
end
section
variable {P:Zu} {w:Zv} {K:Zp} {mg:Zc} {base:Zt} {N:Zd} {qual:Str} {scope:Scope} {f:Zx} {cd:Zz} {A:Zw} {outer:List Env} {s₀:Zy} {H₀:Hp} {E:XK}
end
structure LV (K:Zp) (C fI:Zx):Prop where
 at_:∃bm N nm q bs hdct sn sub ab col dd k0 k1 k2 k3 k5,K.lookup C=some (excClassObj nm q C N bs bm hdct sn sub ab col dd k0 k1 k2 k3 k5 "ValueError.__new__")/\eE K N=true/\eF K N "__init__"=some (some (.ref fI))/\eG K FJ bm=true
 fn:∃oI,K.lookup fI=some oI/\oI.cls= .type "function"
section
variable {X:Cx} {C fI:Zx} {E:XK} {x:Str} {np cpos pos:Pos} {e:Zr} {es:List Zr} {t:TA} {k:Nat} {fd:Zs} {ps:Zd} {sp:Sp}
end
section
variable {X:Cx} {Y:Zx} {y n:Str} {py hpos:Pos} {b₀:Zq} {body:List Zq} {tb:TS} {i:Nat}
variable {k j:Nat} {f:Zx} {fd:Zs} {ps:Zd} {sp:Sp} {dvs:List V} {ds:List Zz} {x v:Str} {p pv pos pos' tpos:Pos} {e:Zr} {es:List Zr} {t:TA}
end
open Builtin Builtin.ObjectAttr
theorem sJ {K:Zp} (b:Zz):∀{l:List Zz},eG K FJ l=true->refuseLoop b "__setattr__" l=pure ()
 |[],z=>by cases(beq_iff_eq.mp z:FJ=[])
 |v::r,z=>by
  unfold eG at z;rcases Bool.or_eq_true_iff.mp z with q|q;·rw[beq_iff_eq.mp q];exact PySem.F.store_ValueError.passes b
  ·split at q
   ·rename_i A;rw[refuseLoop_ref];split at q;·rename_i c d g e f;rw[fg]at q;exact sJ b q.2
    ·cases q
   ·cases q
section
variable {K:Zp} {C fI N:Zx} {nm q:Str} {bs bm:List Zz} {sn:Zd} {sub:List Zz} {ab:Bool} {col:Option Bool} {dd:Option Zx} {k0 k1 k2 k3 k5:Option Zz} {oI:Obj}
def Ih (e:K.lookup C=some (excClassObj nm q C N bs bm true sn sub ab col dd k0 k1 k2 k3 k5 "ValueError.__new__")) (c:eG K FJ bm=true) (b:LS K C) (d:dG K (.ref C) "__setattr__"=some (some (.builtin "object.__setattr__"))):LU K C:=by refine⟨b,d,_,by unfold PySem.W.clsIn;rw[e],rfl,fun a=>?_⟩;rw[refuseLoop_ref];exact sJ a c
def Ii (e:K.lookup C=some (excClassObj nm q C N bs bm true sn sub ab col dd k0 k1 k2 k3 k5 "ValueError.__new__")) (c:eE K N=true) (d:eF K N "__init__"=some (some (.ref a))) (b:eG K FJ bm=true) (f:K.lookup a=some oI) (g:oI.cls= .type "function"):LV K C a:=
 ⟨⟨bm,N,nm,q,bs,true,sn,sub,ab,col,dd,k0,k1,k2,k3,k5,e,c,d,b⟩,⟨oI,f,g⟩⟩
end
section
variable {P:Zu} {w:Zv} {K:Zp} {mg:Zc} {base:Zt}
end
section
variable {prog:Zu} {w:Zv} {A:Zw} {E:Zb} {s:Zy}
end
section
variable {X:Cx}
end
section
variable {X:Cx}
end
section
variable {P:Zu} {w:Zv} {K:Zp} {mg:Zc} {base:Zt} {N:Zd} {qual:Str} {scope:Scope} {f:Zx} {cd:Zz} {A:Zw} {outer:List Env} {s₀:Zy} {H₀:Hp} {E:XK}
end
section
variable {X:Cx} {i:Nat} {Y:Zx} {y n:Str} {py hpos:Pos} {b₀:Zq} {body:List Zq} {tb:TS}
variable {k:Nat} {f:Zx} {fd:Zs} {ps:Zd} {sp:Sp} {dvs:List V} {ds:List Zz} {x:Str} {p pos pos' tpos:Pos} {e:Zr} {es:List Zr} {t:TA}
end
section
variable {X:Cx}
end
section
variable {X:Cx} {CX:CXT} {k:Nat} {E:XK} {c e:Zr} {es:List Zr} {tc:TE} {t:TA} {pos:Pos} {S:Zx->Sp->Prop}
def LW (X:Cx) (d:CXT) (k:Nat) (f:Zx) (c:Sp):Prop:=∃b a,uC X.prog X.w X.K X.mg X.base d k f b a c/\dQ X.K (.ref f)=true/\qE X.K b a []
def Ij (S:Zx->Sp->Prop) (E:XK) (d:TE) (t:TA):TE:=fun a H Q=>d a H fun x g=>∃f b,x= .ref f/\S f b/\t a g fun c e=>b c e Q E
def DV (G:∀f a,S f a->LW X CX k f a) (x:nM k X.A) (p:rp CX X E) (B:PE X c tc) (D:PA X (e::es) t)
  (y:autoParam (eval (.Call c (e::es) [] pos) X.env=(do callWith pos (<-eval c X.env) [] (MK pos (Mj (e::es) X.env)) (backToKw pos (Ny [] X.env)))) auR._auto_1)
  (A:autoParam (Mj (e::es) X.env=(false,eval e X.env)::Mj es X.env) auR._auto_1) (b:autoParam ((MK pos (Mj es X.env)).any (·.1)=false) auR._auto_1):
  PE X (.Call c (e::es) [] pos) (Ij S E tc t):=by intro g s d H Q I h;rw[y];refine C8 (thn (B g s d H _ I h) ?_);refine fun u m=>fL fun v J=>fae fun j n=>fL fun f a=>fae fun l w o=>?_;subst l;obtain rfl:u=Ml f:=n;refine eap (G f a w) fun O N F z C=>?_;refine dX j.ok.mod.kin z (thn (D pos g m d J _ j o) fun L M ⟨K,P,i,r,q⟩=>⟨i.kIn,?_⟩) A b;exact zd F x C .nil p i r (by rw[aF];exact q)
end
end L2.Internal
namespace HT.Internal
open PySem PySem.Spec PyProof.Rows L2.Internal
section
variable {prog:Zu} {w:Zv} {A:Zw} {E:Zb} {s:Zy}
end
end HT.Internal
namespace L2.Internal
variable {X:Cx}
open PySem PySem.Spec PyProof.Rows
section
variable {X:Cx}
end
def DW{Qp:Zb} {σ:St}
  (hc:X.calm=true) (B:qF X N scope cl f i x) (hi:PI X (.Tuple es kk tp) iter wi)
  (hg:∀C F G ex t,PG (blk X N scope cl C F G ex t) (.Tuple es kk tp) g) (hte:∀C F G ex t,PE (blk X N scope cl C F G ex t) elt te)
  (hs:∀x,Nh iter X.env x=pure x) (I:Inv X t σ H s) (h:tLG wi f g te σ H Q)
  (fin:∀fl a s6 H3 S d (m:Zc),Inv X t σ H3 a->Inv X t σ S s6->S a.heap.objs.size=none->s6.heap.Ns a.heap.objs.size m->Q (.ref d) S->
   compPost (model X.prog X.w) X.A X.xe use Qp (.ref d) a.heap.objs.size (.ok fl) s6):
  L8 (model X.prog X.w) X.A (comprehension (.ListComp elt [⟨.Tuple es kk tp,iter,[],0⟩] scope pos) scope X.env pos' (newList []) false (eval iter X.env) use) Qp X.xe s:=by
 refine wpAny_comprehension_free rfl hs B.clos B.kind B.names (thn (hi t s σ H _ I h) fun xv s1 h1=>thn h1 fun itv l h2=>?_);refine eao h2 fun it w tn J O=>fag fun z0 I2 T st2 f2 q=>?_;subst z0;have hD:=I2.fresh;refine eaa (q _ hD) fun W y0 turn=>?_;obtain⟨m0,w0⟩:=y0;refine MI (wpAny_newFunctionEnv B.cell (by intro y hy;simp at hy) (fun R D A=>?_) B.kind);have I3:=I2.lnew (t':=l.toks) .nil (cK _);have lt2:∀b∈w,b<l.heap.objs.size:=fun b j=>by refine eaa (T.obj _ _ st2 b j) fun o ho _=>?_;exact fJ ho
 have fp3:∀b∈w,xR X t (upd O l.heap.objs.size (.lst [])) b:=fun b j=>by refine⟨?_,(f2 b j).2⟩;rw[gy (cE (lt2 b j))];exact(f2 b j).1
 generalize hs3:({l with heap:=l.heap.push {cls:= .type "list",data:= .seq ([]:List Zz).toArray}}:Zy)=a at I3 D A⊢;have eh:l.heap.push {cls:= .type "list",data:= .seq ([]:List Zz).toArray}=a.heap:=by rw[<-hs3]
 have lt3:∀b∈w,b<a.heap.objs.size:=fun b j=>by rw[<-eh,fN];exact cQ (lt2 b j)
 have old:∀b o,a.heap.get? b=some o->R.get? b=some o:=fun b o e=>A.extBut b o (cE (fJ e)) (fM _ e);have I4:=BA (tk:=a.toks+([]:List (Str×Zz)).length) B I3 (fun b j=>⟨fp3 b j,lt3 b j⟩) old D;have st4:=T.keep _ _ _ st2 fun b _ o e=>old b o (by rw[<-eh];exact fM _ e);have Z:∀{K:Hp},(∀b∈w,K b=none)->∀b∈w,xR (blk X N scope cl a.heap.objs.size a (upd O l.heap.objs.size (.lst [])) w t) [] K b:=fun{K} hn b j=>by refine eam (f2 b j) fun _ g2 g3 g4 g5 g6=>?_;refine⟨hn b j,cE (lt3 b j),fun z=>(ao.mp (I3.stkSub b z)).elim g2 g3,.inl j,fun y c e=>g5 y c (B.lk y c e),fun p hp=>?_⟩;rw[aF]at hp;exact g6 p hp
 have P:∀s4,s4={a with heap:=R,toks:=a.toks+([]:List (Str×Zz)).length}->
   Nx (model X.prog X.w) X.A (.compLoop (.ListComp elt [⟨.Tuple es kk tp,iter,[],0⟩] scope pos) 0 (.ref it) (.ref l.heap.objs.size) (compEnvC scope cl a.heap.objs.size X.env))
    (compPost (model X.prog X.w) X.A X.xe use Qp (.ref l.heap.objs.size) a.heap.objs.size) s4:=by
  rintro s4 rfl;refine PyProof.Rows.LCp.codeAny_compLoop_pair (I:=fun n s'=>∃k E K,Inv (blk X N scope cl a.heap.objs.size a (upd O l.heap.objs.size (.lst [])) w t) [] E K s'/\tn k s'.heap/\(∀b∈w,K b=none)/\W k n E K) ?_ m0
   (iaa 0 (f σ) _ ⟨I4,st4,fun b j=>(fp3 b j).1,w0⟩);refine fun n s5=>fah fun k M S I5 st5 fr5 w5=>?_;rcases turn k n M S w5 with⟨stop,qn⟩|⟨go,step⟩
  ·refine Mp (T.done (blk X N scope cl a.heap.objs.size a (upd O l.heap.objs.size (.lst [])) w t) rfl rfl rfl hc k [] s5 M S _ I5 (Z fr5) st5 stop) (fun r s6 h6=>?_) fun _ _ z=>z;obtain⟨hr,I6⟩:=h6;subst hr;refine eaa (id I6.loc) fun m6 hn6 _=>?_;have I7:=I3.call' I6.os I6.base I6.hok I6.bare fun b j=>by refine eam (f2 b j) fun _ g2 g3 g4 g5 g6=>?_;exact⟨g4,g2,g5,g6⟩
   exact fin _ a s6 _ S _ m6 I3 I7 I6.free hn6 qn
  ·refine Mp (T.item (blk X N scope cl a.heap.objs.size a (upd O l.heap.objs.size (.lst [])) w t) rfl rfl rfl hc k [] s5 M S _ I5 (Z fr5) st5 go) (fun r s6 h6=>?_) fun _ _ z=>z;obtain⟨u,hr,h6⟩:=h6;subst hr;refine Mp h6 (fun _ s7 h7=>?_) fun _ _ z=>z;refine eas h7 fun v H7 I7 r7 y7 V fr7=>?_;have I7':=I7.pinned (Z fr7) (T.obj _ _ V);have back:∀{L:St} {H9:Hp} {s9:Zy},Inv (blk X N scope cl a.heap.objs.size a (upd O l.heap.objs.size (.lst [])) w t) ([]++uu w s7.heap) L H9 s9->(∃Y,Y<n/\W (k+ 1) Y L H9)->
     ∃Y,Y<n/\∃k E K,Inv (blk X N scope cl a.heap.objs.size a (upd O l.heap.objs.size (.lst [])) w t) [] E K s9/\tn k s9.heap/\(∀b∈w,K b=none)/\W k Y E K:=fun{L H9 s9} I9 q9=>by refine eaa q9 fun Y hm w9=>?_;refine⟨Y,hm,k+ 1,L,H9,I9.unpinned,T.keep _ _ _ V fun b j o e=>(I9.pin (b,o) (aA _ (aA _ (lT j e)))).1,fun b j=>?_,w9⟩;refine eaa (T.obj _ _ V b j) fun o e d=>?_;exact(I9.pin (b,o) (aA _ (aA _ (lT j e)))).2.1
   refine Mp (hg a.heap.objs.size a (upd O l.heap.objs.size (.lst [])) w t _ s7 M H7 v u _ I7' r7 (step v H7 y7)) (fun _ s8 h8=>?_) fun _ _ z=>Mt z;refine eah h8 fun σ8 H8 I8 q8=>?_;refine Mp (hte _ _ _ _ _ _ s8 _ H8 _ I8 q8) (fun y s10 h10=>?_) fun _ _ z=>Mt z;refine eaq h10 fun U H10=>fae fun I10 r10=>faa fun xs=>fae fun hx10 hz q10=>?_;refine Mp (gX (X:=blk X N scope cl a.heap.objs.size a (upd O l.heap.objs.size (.lst [])) w t) _ s10 _ H10 (.ref l.heap.objs.size) [U] _ [y] (fun _ H11=>H11=upd H10 l.heap.objs.size (.lst (xs++[U]))) I10 rfl (.cons r10 .nil) (iaa _ xs U ⟨rfl,rfl,hx10,hz,rfl⟩)) (fun _ s11 h11=>?_) fun _ _ z=>Mt z;refine eap h11 fun _ H11 I11 _ e11=>?_;subst e11;exact back I11 q10
 exact codeAny_compStart_list (P _ rfl) (T.self _ 0 _ _ _ st4 (P _ rfl))
def BU(hc:X.calm=true) (B:qF X N scope cl f i x) (hi:PI X (.Tuple r kk tp) iter wi)
  (hg:∀C a k K l,PG (blk X N scope cl C a k K l) (.Tuple r kk tp) g) (A:∀C a k K l,PE (blk X N scope cl C a k K l) elt te)
  (hN:X.N.Nodup) (hj:X.N[j]?=some y) (W:Loc X.env.scope y) (D:autoParam (ND (.ListComp elt [⟨.Tuple r kk tp,iter,[],0⟩] scope pos) (some (.Name y py)) spos.line X.env=pure true) auR._auto_1) (Y:autoParam (∀x,Nh iter X.env x=pure x) auI._auto_1)
  (hf:autoParam (X.fn y=true\/X.env.scope.names.lookup y=some .local) auL._auto_1):PS X (.Assign [.Name y py] (.ListComp elt [⟨.Tuple r kk tp,iter,[],0⟩] scope pos) spos) (Dp (tLG wi f g te) (gU j)):=by
 intro l s L H En I h;rw[exec_Assign_Name_used _ _ _ _ D];refine C8 (wpAny_standAt (C8 ?_));refine C8 (Mp (DW hc B hi hg A Y I h fun fl w S H3 Q d V t P fr G T=>?_) (fun _ s' Z=>Ma (Ma Z)) fun _ _ e=>e);refine eai (id G) fun u r ep F m J=>?_;have n:=cH t.lt;have I8:Inv X (l++[(w.heap.objs.size,u)]) L Q S:=P.pins_of fun p E=>(aq.mp E).elim (fun z=>P.pin p (aA _ z)) fun z=>by
  have ez:p=(w.heap.objs.size,u):=by simpa using z
  subst ez;exact⟨F,fr,n,t.nofs (cJ _),fun v q=>by rw[m]at q;cases q⟩
 refine NP (oq I8 hN hj W (v:= .ref d) rfl (fun s7 O=>?_) hf);have M:=O.pin (w.heap.objs.size,u) (aA _ (aA _ O4));refine⟨V,(iaa u r ep ⟨M.1,m,J⟩),fun h' R=>?_⟩;refine ii (L.set j (some (.ref d))) Q ⟨?_,T⟩;exact Inv.turned O.unpinned (fun b o hb e=>(R.2 b hb).trans e) M.2.1 n (.inr t.sz) (fun z c e q=>by obtain⟨v,U⟩:=t.cell z c e;exact absurd (q▸U.lt) (cD _)) fun p E q=>absurd (q▸fJ (t.pin p E).1) (cD _)
def BV:typeLookup (.type "list") "keys"=pure none:=by rw[typeLookup_type,Np];kernel_rfl
section
variable {prog:Zu} {w:Zv} {A:Zw} {E:Zb} {s:Zy}
def DX(j:s.heap.get? a=some {cls:= .type "list",dict:=none,data:= .seq xs k,slots:=sl}) (p:A.handled=none)
  (q:∀h i,(∀b o,s.heap.get? b=some o->h.get? b=some o)->Q none {s with heap:=h,toks:=i}):L8 (model prog w) A (getAttr? (.ref a) "keys") Q E s:=by
 obtain⟨n,g,d,i,m⟩:=s;have l:∀c,(⟨n,g,d,c,m⟩:Zy).TypeIs (.ref a) "list":=fun _=>⟨_,j,rfl⟩;have z:=sub_AttributeError;have y:=F.slot_list_getattribute.lookup;have x:=F.slot_list_getattribute.bind (.ref a);have v:=am_list_getattr_none;unfold getAttr? getAttrBy? getAttrBy;repeat(any_goals(first|assumption|exact l _|((with_reducible show L8 _ _ (call (Value.builtin "list.__getattribute__") _ _) _ _ _);refine Nr F.slot_list_getattribute (l _) am_entry_list_getattribute (F.args_list_getattribute_2 _ _) (meets_getattribute_miss_list a xs k sl "keys" _ BV gL gL) ⟨j,p,fun h c e f=>?_⟩)|wp_step))
 refine eaq f.there fun t r u=>?_;unfold NL;repeat(any_goals(first|assumption|wp_step))
 exact q h c f.keeps
end
section
variable {X:Cx} {pz:Za} {σ:St} {H:Hp} {d it t:Zx} {vs:List V} {A:Zw} {R:Result->Zy->Prop}
theorem uJ (hA:A.handled=none) (C:H d=none) (v:H t=some (.lst vs)):∀g m i c s,
  Inv X pz σ (upd H d (.dK c)) s->xR X pz (upd H d (.dK c)) it->s.heap.IsListIter it t i->vs.drop i=m->Prs H m g->c.length+g.length<=1000->
  (∀s',Inv X pz σ (upd H d (.dK (kq c (g.map kf)))) s'->R (.ok (.ret .none)) s')->
  Nx (model X.prog X.w) A (.builtin "dict.update.loop" ⟨[.ref d,.ref it,.int (i:Int) 0,.none],[]⟩) R s
 |[],m,i,c,s,I,f,st,ey,T,hn,k=>by
  cases T;have h:(upd H d (.dK c)) t=some (.lst vs):=by rw[gy (gv v C)];exact v
  obtain⟨Q,P,p,hz⟩:=I.list (SqL.of h);obtain⟨j,J,f2,G,F,E⟩:=f;have hl:=P.length;have hi:=bK.mp ey;refine codeAny_builtin lB ?_;unfold Builtin.«dict.update.loop»;refine C8 (wpAny_pyNext_list_end (by exact hA) st (p.isList) (by simp;lia) fun h' eb=>?_);have B:=I.turned (t':=s.toks) (fun b o hb e=>eb b o hb e) j J G F E;exact C8 (Ma (Ma (k _ B)))
 |pr::g,m,i,c,s,I,f,st,ey,hp0,hn,k=>by
  obtain⟨a,l,rfl,ha,T⟩:∃a l,m= .ref a::l/\H a=some (.tup [.str pr.1,pr.2])/\Prs H l g:=by
   cases hp0 with
   |cons h1 D=>exact⟨_,_,rfl,h1,D⟩
  have h:(upd H d (.dK c)) t=some (.lst vs):=by rw[gy (gv v C)];exact v
  have ha':(upd H d (.dK c)) a=some (.tup [.str pr.1,pr.2]):=by rw[gy (gv ha C)];exact ha
  obtain⟨Q,P,p,hz⟩:=I.list (SqL.of h);have ff:=f;obtain⟨j,J,f2,G,F,E⟩:=f;have S:vs[i]?=some (.ref a):=by have:=congrArg (·[0]?) ey;simpa using this
  obtain⟨u,hu,ru⟩:=P.get S;cases ru;refine codeAny_builtin lB ?_;unfold Builtin.«dict.update.loop»;refine C8 (wpAny_pyNext_list_item st (p.isList) (by simpa using hu) fun h' M sb=>?_);have B:=I.turned (t':=s.toks) (fun b o hb e=>(sb.2 b hb).trans e) j J G F E;obtain⟨its2,O,⟨ob,w,Y,on,W⟩,_⟩:=B.tuple (SqT.of ha');obtain⟨kx,vx,rfl,⟨tk,rfl⟩,N⟩:=Bc O;obtain⟨z,hds,K,r,dd⟩:=wI B.hok (show(upd H d (.dK c)) d=some (.dK c)from f7);refine C8 (MQ (C8 (wpAny_tryCatch ?_)));unfold Builtin.Dict.pairItems;refine C8 (NI ⟨ob,w,Y⟩ ?_);rw[ig O3];refine C8 (MD w W ?_);refine Ma ?_;have hv2:K.length<=sizeLine:=by rw[<-r.length];exact z
  have hn':c.length+(g.length+ 1)<=1000:=hn;have hl:(mL c (Me pr.1) pr.2).length<=1000:=by have:=iF c (Me pr.1) pr.2;lia
  have Z:(mL c (Me pr.1) pr.2).length+g.length<=1000:=by have:=iF c (Me pr.1) pr.2;lia
  refine MQ (wpAny_dictSet_pairs (vb (show i7 (kV (Me pr.1)) _ from⟨tk,rfl⟩)) dd fun D y n=>?_);have he:∃q,D.get? d=some q:=let⟨q,_,_,hq,_⟩:=y;⟨q,hq⟩;have I2:=sr (t':=s.toks+ 1) B (by rw[f7];exact MG) n he (su (cF hl O3) hds (r.put (Me pr.1) N) y);rw[uY]at I2;have x:it≠d:=fun e=>by rw[e,f7]at j;exact nomatch j
  obtain⟨oi,U,ri⟩:=M;have L:D.IsListIter it t (i+ 1):=⟨oi,(n.2 it x).trans U,ri⟩;refine Ma ⟨NM _ gL,?_⟩;have ey2:vs.drop (i+ 1)=l:=by rw[<-List.tail_drop,ey];rfl
  exact uJ hA C v g l (i+ 1) (mL c (Me pr.1) pr.2) _ I2 ⟨by rw[gy x]at j⊢;exact j,J,f2,G,F,E⟩ L ey2 T Z k
end
section
variable {X:Cx}
def Aw (D:X.calm=true):oG X (.type "dict") (fun A H Q=>∃t vs a,A=[.ref t]/\H t=some (.lst vs)/\Prs H vs a/\a.length<=1000/\∀d,H d=none->Q (.ref d) (upd H d (.dK (kq [] (a.map kf))))):=by
 intro B s z H A P Q I r h;refine eag h fun t vs a=>faj fun v C G K q=>?_;subst v;refine eaa (mO r) fun u v E=>?_;subst v;cases E;refine eab ((show kb X.prog X.w H s.heap t (.lst vs)from I.hok t _ C)) fun _=>fL fun m n=>f8 fun S x=>?_;refine callType_codes (Q₁:=fun l g=>l= .ref s.heap.objs.size/\g={s with heap:=s.heap.push {cls:= .type "dict",data:= .dict #[]}}) F.kt_called_dict (F.kt_typeCall_dict_1 _) F.entry_dict_init (kt_code_dict_new _ ⟨rfl,rfl⟩) ?_;rintro l g ⟨rfl,rfl⟩;have c:(s.heap.push {cls:= .type "dict",data:= .dict #[]}).DictOf (jB X.prog X.w) s.heap.objs.size []:=Heap.DictOf.new s.heap;refine⟨c.typeIs,F.args_dict_init_2 _ _,?_⟩;unfold Builtin.«dict.__init__»;refine C8 ?_;unfold Builtin.Dict.selfAndRest;refine C8 (wpAny_notOrdered_dict c.typeIs ?_);refine Ma ?_;show L8 _ _ (Nl "dict.__init__" s.heap.objs.size (.ref t) [] .none) _ _ _;unfold Nl;have k:=fM {cls:= .type "dict",data:= .dict #[]} x;refine C8 (NI ⟨_,k,rfl⟩ ?_);rw[ig O3];refine C8 (DX k (by exact I.ok.hd D) fun p i j=>?_);rw[ig (by rfl)];refine C8 (wpAny_rule ?_);have y:Inv X B z (upd H s.heap.objs.size (.dK [])) {s with heap:=p,toks:=i}:=by
  refine I.laid (fun b u e=>j b u (fM _ e)) (cJ _) (su O3 ?_ .nil ?_);·have L:=I.big;exact beq_false_of_ne (cH L)
  ·refine eaf c fun o M N x r=>?_;exact iaa o M N ⟨j _ _ x,r⟩
 have w:p.IsList t m.toArray:=⟨_,j _ _ k,rfl,n,rfl⟩;refine C8 (NQ (show({s with heap:=p,toks:=i}:Zy).heap.IsList t m.toArray from w) ?_);have f:=y.fpOk (cJ _) (y.hok.fresh (cJ _));have O:Inv X B z (upd H s.heap.objs.size (.dK [])) {s with heap:=p.push {cls:= .type "list_iterator",data:= .fields #[.ref t,.int 0 0]},toks:=i}:=y.kept fun b o e=>fM _ e;refine Ma ⟨NM _ gL,?_⟩;refine uJ (by exact I.ok.hd D) (I.hok.fresh (cJ _)) C a vs 0 [] _ O f ⟨_,fK _ rfl,rfl,rfl⟩ rfl G (by simpa using K) fun R J=>?_;exact⟨rfl,.ref s.heap.objs.size,_,J,rfl,q _ (I.hok.fresh (cJ _))⟩
def Ik (K:Zp):R2:=fun x y H Q=>∃a b d c,x= .ref a/\y= .ref b/\SqT K H a d/\SqT K H b c/\d.length+c.length<=sizeLine/\
 (d=[]->Q (.ref b) H)/\(c=[]->Q (.ref a) H)/\∀p,H p=none->Q (.ref p) (upd H p (.tup (d++c)))
def FV:OpR X (MF .Add) (Ik X.K):=by
 intro W s U H x y v u Q I K J h;refine ead h fun a b F V=>fan fun E D R P r N M L=>?_;subst E;subst D;cases K;cases J;refine eak (I.tuple R) fun k g p _=>?_;refine eak (I.tuple P) fun c j o _=>?_;by_cases hx:F=[]
 ·obtain⟨⟨T,S,B,G⟩,t,A,n,w⟩:=id p;obtain⟨⟨C,l,m,i⟩,d,f,O,e⟩:=id o;simp only at A w f e;subst A w f e;exact concat_meets ⟨_,t,rfl⟩ ⟨_,d,rfl⟩ noFill_tuple_add seq_tuple_add eN eO (eP _ _)
   (tuple_addW0 a b k.toArray c.toArray n O S l G i (by simp[g.nil_iff.mpr hx])) ⟨t,d,.ref b,H,I,rfl,N hx⟩
 refine HT.Internal.cat_tup p o (fun z=>hx (g.nil_iff.mp z)) (fun z=>(ii (.ref a) H ⟨I,rfl,M (j.nil_iff.mp z)⟩)) (fun z=>?_) (by rw[<-g.length,<-j.length];exact r);refine ii (.ref s.heap.objs.size) _ ⟨I.laid (fun b Y q=>fM _ q) (cJ _) ?_,rfl,L _ (I.hok.fresh (cJ _))⟩;exact⟨by rw[aR];exact r,_,g.append j,y8.new _ _⟩
end
section
variable {X:Cx}
end
def Ax:oG X (.type "dict") (fun k H Q=>∃e a,k=[.ref e]/\H e=some (.dK a)/\∀d,H d=none->Q (.ref d) (upd H d (.dK a))):=by
 intro n s l H k y Q I r h;refine eap h fun e a f o q=>?_;subst f;refine eaa (mO r) fun u f m=>?_;subst f;cases m;refine ear (wI I.hok o) fun z i x c v=>?_;refine kt_call_dict i v (by rw[<-c.length];exact z) fun t j g=>?_;have p:=I.big;have w:Inv X n l (upd H s.heap.objs.size (.dK a)) {s with heap:=t}:=by refine I.laid (fun b u e=>?_) (cJ _) (su z (beq_false_of_ne (cH p)) c j);rw[g.2 b (cE (fJ e))];exact fM _ e
 exact ii (.ref s.heap.objs.size) _ ⟨w,rfl,q _ (I.hok.fresh (cJ _))⟩
end L2.Internal
namespace L2.Internal
abbrev Itzm:=Itg tS lS
end L2.Internal
namespace T1
open PySem
def sub (c:Nat) (z:List Nat) (l:List Nat):List Nat:=l.flatMap fun k=>if k=c then z else[k]
def oz (c:Nat) (z a b:List Nat):sub c z (a++b)=sub c z a++sub c z b:=List.flatMap_append ..
theorem vz (c:Nat) (z:List Nat):∀l,¬c∈l->sub c z l=l
 |[],_=>rfl
 |k::r,h=>by have b:¬k=c:=fun e=>h (e▸aj ..);have a:¬c∈r:=fun m=>h (ak _ m);show(if k=c then z else[k])++sub c z r=k::r;rw[gZ b,vz c z r a];rfl
def FW (c:Nat) (z:List Nat):sub c z [c]=z:=by simp[sub]
theorem zv (c:Nat) (z:Str):∀b,(∀p∈b,¬c∈p.cps.toList)->sub c z.cps.toList (My ⟨#[c]⟩ b).cps.toList=(My z b).cps.toList
 |[],_=>rfl
 |[p],h=>vz c _ _ (h p (bo.mpr rfl))
 |p::q::r,h=>by have d:=zv c z (q::r) fun a f=>h a (ak _ f);show sub c z.cps.toList (p++⟨#[c]⟩++My ⟨#[c]⟩ (q::r)).cps.toList=(p++z++My z (q::r)).cps.toList;simp only[Str.cps_append,fw];rw[oz,oz,d,vz c _ _ (h p (aj ..))];have e:sub c z.cps.toList [c]=z.cps.toList:=FW c _;rw[e]
noncomputable def cut (c:Nat):List Nat->List (List Nat)
 |[]=>[[]]
 |k::r=>if k=c then[]::cut c r else match cut c r with
  |h::t=>(k::h)::t
  |[]=>[[k]]
theorem zw (c:Nat):∀l,¬c∈l->cut c l=[l]
 |[],_=>rfl
 |k::r,h=>by have b:¬k=c:=fun e=>h (e▸aj ..);have a:¬c∈r:=fun m=>h (ak _ m);unfold cut;rw[gZ b,zw c r a]
theorem zx (c:Nat):∀p r,¬c∈p->cut c (p++c::r)=p::cut c r
 |[],r,_=>by show(if c=c then[]::cut c r else _)=_;rw[ig rfl]
 |k::p,r,h=>by have b:¬k=c:=fun e=>h (e▸aj ..);have a:¬c∈p:=fun m=>h (ak _ m);show(if k=c then _ else match cut c (p++c::r)with|h::t=>(k::h)::t|[]=>[[k]])=_;rw[gZ b,zx c p r a]
theorem zy (c:Nat):∀b,b≠[]->(∀p∈b,¬c∈p.cps.toList)->cut c (My ⟨#[c]⟩ b).cps.toList=b.map (·.cps.toList)
 |[],h,_=>absurd rfl h
 |[p],_,h=>zw c _ (h p (bo.mpr rfl))
 |p::q::r,_,h=>by
  have d:=zy c (q::r) O4 fun a f=>h a (ak _ f);show cut c (p++⟨#[c]⟩++My ⟨#[c]⟩ (q::r)).cps.toList=_;simp only[Str.cps_append,fw];have e:p.cps.toList++[c]++(My ⟨#[c]⟩ (q::r)).cps.toList=p.cps.toList++c::(My ⟨#[c]⟩ (q::r)).cps.toList:=by simp
  rw[e,zx c _ _ (h p (aj ..)),d];rfl
noncomputable def step (a:List (List Nat)×List Nat) (k:Nat):List (List Nat)×List Nat:=
 if k=32 then(if a.2=[]then(a.1,[])else(a.1++[a.2],[]))else(a.1,a.2++[k])
def zA (l:List Nat):List (List Nat)×List Nat:=l.foldl step ([],[])
def all (a:List (List Nat)×List Nat):List (List Nat):=if a.2=[]then a.1 else a.1++[a.2]
def sL (a b:List Nat):zA (a++b)=b.foldl step (zA a):=by unfold zA;rw[List.foldl_append]
def BW (c:Nat):∀l,cut c l≠[]
 |[]=>by simp[cut]
 |k::r=>by
  unfold cut;split;·simp
  ·split<;>simp
theorem uK (c:Nat):∀l,cut c (l++[c])=cut c l++[[]]
 |[]=>by simp[cut]
 |k::r=>by
  have a:=uK c r;show(if k=c then[]::cut c (r++[c])else match cut c (r++[c])with|h::t=>(k::h)::t|[]=>[[k]])=(if k=c then[]::cut c r else match cut c r with|h::t=>(k::h)::t|[]=>[[k]])++[[]];rw[a];split;·rfl
  ·cases e:cut c r with
   |nil=>exact absurd e (BW c r)
   |cons h t=>rfl
theorem rX(c:Nat) (f:¬k=c):∀l (A:List (List Nat)) (b:List Nat),cut c l=A++[b]->cut c (l++[k])=A++[b++[k]]
 |[],A,b,h=>by
  have e:A=[]/\b=[]:=by
   cases A with
   |nil=>have d:=h;injection d with h1 _;exact⟨rfl,h1.symm⟩
   |cons x A=>have d:=h;injection d with _ h2;simp at h2
  obtain⟨rfl,rfl⟩:=e;show(if k=c then _ else match cut c []with|h::t=>(k::h)::t|[]=>[[k]])=_;rw[gZ f];rfl
 |x::r,A,b,h=>by
  have h:(if x=c then[]::cut c r else match cut c r with|h::t=>(x::h)::t|[]=>[[x]])=A++[b]:=h;show(if x=c then[]::cut c (r++[k])else match cut c (r++[k])with|h::t=>(x::h)::t|[]=>[[x]])=A++[b++[k]];by_cases e:x=c
  ·rw[ig e]at h⊢
   cases A with
   |nil=>have d:=h;injection d with _ h2;exact absurd h2 (BW c r)
   |cons y A=>have d:=h;injection d with h1 h2;rw[rX c f r A b h2,<-h1];rfl
  ·rw[gZ e]at h⊢
   cases q:cut c r with
   |nil=>exact absurd q (BW c r)
   |cons g t=>
    rw[q]at h;have h:=h
    cases A with
    |nil=>have d:=h;injection d with h1 h2;rw[rX c f r [] g (by rw[q,h2];rfl),<-h1];rfl
    |cons y A=>have d:=h;injection d with h1 h2;rw[rX c f r (g::A) b (by rw[q,h2];rfl),<-h1];rfl
def DY (l:List Nat):∃A,cut 32 l=A++[(zA l).2]/\A.filter (fun p=>decide (p≠[]))=(zA l).1:=by
 suffices H:∀n (l:List Nat),l.length=n->∃A,cut 32 l=A++[(zA l).2]/\A.filter (fun p=>decide (p≠[]))=(zA l).1 from H _ l rfl;intro n
 induction n with
 |zero=>intro l h;have e:=bN.mp h;subst e;exact⟨[],rfl,rfl⟩
 |succ n d=>
  intro l h;obtain⟨m,k,rfl⟩:∃m k,l=m++[k]:=by
   have a:l≠[]:=by intro e;rw[e]at h;simp at h
   exact ii l.dropLast (l.getLast a) ((bO a).symm)
  refine eaa (d m (by simp at h;exact h)) fun A c b=>?_;rw[sL];show ∃A,cut 32 (m++[k])=A++[(step (zA m) k).2]/\A.filter (fun p=>decide (p≠[]))=(step (zA m) k).1;by_cases e:k=32
  ·subst e;refine⟨A++[(zA m).2],?_,?_⟩;·rw[uK,c];unfold step;rw[ig rfl];split<;>rfl
   ·rw[bP,b];unfold step;rw[ig rfl];by_cases e2:(zA m).2=[];·rw[ig e2,e2];simp
    ·rw[gZ e2];simp[e2]
  ·refine⟨A,?_,?_⟩;·unfold step;rw[gZ e];exact rX 32 e m A _ c
   ·unfold step;rw[gZ e];exact b
def words_cut (l:List Nat):(cut 32 l).filter (fun p=>decide (p≠[]))=all (zA l):=by
 refine eaa (DY l) fun A b a=>?_;rw[b,bP,a];unfold all;by_cases e:(zA l).2=[];·rw[ig e,e];simp
 ·rw[gZ e];simp[e]
def ex (k:Nat):List Nat:=if k=40 then[32,40,32]else if k=41 then[32,41,32]else if k=10 then[32]else[k]
def spaced (l:List Nat):List Nat:=l.flatMap ex
def vA (a b:List Nat):spaced (a++b)=spaced a++spaced b:=List.flatMap_append ..
theorem spaced_sub:∀l,sub 10 [32] (sub 41 [32,41,32] (sub 40 [32,40,32] l))=spaced l
 |[]=>rfl
 |k::r=>by
  have a:=spaced_sub r;have e:∀c z l k,sub c z (k::l)=(if k=c then z else[k])++sub c z l:=fun _ _ _ _=>rfl;have b:spaced (k::r)=ex k++spaced r:=rfl;rw[e,oz,oz,a,b];congr 1;unfold ex;by_cases h1:k=40;·rw[ig h1,ig h1];rfl
  ·rw[gZ h1,gZ h1];by_cases h2:k=41;·rw[ig h2,h2];rfl
   ·rw[gZ h2,e,gZ h2];show sub 10 [32] ([k]++[])=_;rw[aF,e];by_cases h3:k=10;·rw[ig h3];rfl
    ·rw[gZ h3];rfl
def W (l:List Nat):List (List Nat)×List Nat:=zA (spaced l)
def rY (a b:List Nat):W (a++b)=(spaced b).foldl step (W a):=by unfold W;rw[vA,sL]
def Kt(a:List Nat) (b:k=32\/k=10):W (a++[k])=(all (W a),[]):=by
 rw[rY];have e:spaced [k]=[32]:=by rcases b with e|e<;>subst e<;>rfl
 rw[e];show step (W a) 32=_;unfold step all;rw[ig rfl];split<;>rfl
def BX(a:List Nat) (c:k=40\/k=41):W (a++[k])=(all (W a)++[[k]],[]):=by
 rw[rY];have e:spaced [k]=[32,k,32]:=by rcases c with e|e<;>subst e<;>rfl
 have b:¬k=32:=O2
 rw[e];show step (step (step (W a) 32) k) 32=_;have f:step (W a) 32=(all (W a),[]):=by unfold step all;rw[ig rfl];split<;>rfl
 rw[f];show(if(32:Nat)=32 then(if(step (all (W a),[]) k).2=[]then((step (all (W a),[]) k).1,[])else((step (all (W a),[]) k).1++[(step (all (W a),[]) k).2],[]))else _)=_;have d:step (all (W a),[]) k=(all (W a),[k]):=by unfold step;rw[gZ b];rfl
 rw[ig rfl,d];rfl
def Ku (a:List Nat):∀p,(∀k∈p,k≠32/\k≠10/\k≠40/\k≠41)->W (a++p)=((W a).1,(W a).2++p):=by
 intro p c;rw[rY];have e:spaced p=p:=by
  induction p with
  |nil=>rfl
  |cons k r d=>refine ean (c k (aj ..)) fun l i h g=>?_;have j:spaced (k::r)=ex k++spaced r:=rfl;rw[j,d fun x f=>c x (ak _ f)];unfold ex;rw[gZ h,gZ g,gZ i];rfl
 rw[e];generalize W a=b
 induction p generalizing b with
 |nil=>show b=_;rw[aF]
 |cons k r d=>
  refine ean (c k (aj ..)) fun l i h g=>?_;show r.foldl step (step b k)=_;have o:step b k=(b.1,b.2++[k]):=by unfold step;rw[gZ l]
  have n:spaced r=r:=by
   have j:spaced (k::r)=ex k++spaced r:=rfl;have m:ex k=[k]:=by unfold ex;rw[gZ h,gZ g,gZ i]
   rw[j,m]at e;injection e
  rw[o,d (fun x f=>c x (ak _ f)) n];simp
open Builtin Builtin.Str
def replace_codes (x z:Str) (c:Nat):(Txt.replace x ⟨#[c]⟩ z).cps.toList=sub c z.cps.toList x.cps.toList:=by rw[StrLaws.replace_one,<-zv c z _ (StrLaws.split_free x c),StrLaws.join_split]
def DZ (x y:Str):MS x y≠[]:=by
 unfold MS;split;·simp
 ·split;·simp
  ·rename_i h
   cases e:occurrences x y 0 x.length (x.length+ 1)with
   |nil=>rw[e]at h;exact absurd rfl h
   |cons a r=>simp[partsBetween]
def split_codes (x:Str) (c:Nat):(MS x ⟨#[c]⟩).map (·.cps.toList)=cut c x.cps.toList:=by have h:=zy c (MS x ⟨#[c]⟩) (DZ x _) (StrLaws.split_free x c);rw[StrLaws.join_split]at h;exact h.symm
theorem flat_len (f:Nat->List Nat) (n:Nat) (h:∀k,(f k).length<=n):∀l:List Nat,(l.flatMap f).length<=n*l.length
 |[]=>by simp
 |k::r=>by rw[List.flatMap_cons,aR,aB];have b:=h k;have a:=flat_len f n h r;rw[Nat.mul_succ];lia
def str_ext{y:Str} (h:x.cps.toList=y.cps.toList):x=y:=by obtain⟨a⟩:=x;obtain⟨b⟩:=y;have e:a=b:=Array.toList_inj.mp h;rw[e]
def len_codes (x:Str):x.cps.toList.length=x.length:=by rw[fq];rfl
def dig_len:∀k m,m<10^(k+ 1)->(cR 10 m).length<=k+ 1:=by
 intro k
 induction k with
 |zero=>intro m h;rw[cU (by simpa using h)];exact cJ _
 |succ k b=>
  intro m h;by_cases h10:m<10;·rw[cU h10];show 1<=_;lia
  ·have a:m%10<10:=Nat.mod_lt m O3;have t:cR 10 (m/10)++cR 10 (m%10)=cR 10 (10*(m/10)+m%10):=cW O3 O2 a;rw[Nat.div_add_mod]at t;rw[<-t,aR,cU a];have c:m/10<10^(k+ 1):=by rw[Nat.div_lt_iff_lt_mul O3];rw[Nat.pow_succ]at h;exact h
   have:=b (m/10) c;show _+ 1<=_;lia
end T1
namespace GR.Internal
variable {H H':Hp} {C dx wl rl q a:Zx} {xs l:List V} {o:HO}
open PySem L2.Internal
def sz(h:n<=100000):n<=sizeLine:=cF h O3
def gb(h:H p=none) (o:HO):gJ H (upd H p o):=fun b u q=>by rw[gy (gv q h)];exact q
def wV (w:List Nat):V:= .str ⟨w.toArray⟩
def wordsV (l:List Nat):List V:=(T1.all (T1.W l)).map wV
def Ay (l:List Nat):wordsV l=((T1.all (T1.W l)).map fun w=>(⟨w.toArray⟩:Str)).map V.str:=by unfold wordsV;rw[bH];rfl
noncomputable def KWV:List V:=[.str "def",.str "fn",.str "call",.str "let",.str "rec",.str "get",.str "tag",.str "case",.str "row",.str "at",.str "join",.str "size",.str "add",.str "sub",.str "less"]
def SM:Str:="abcdefghijklmnopqrstuvwxyz"
def FG:Str:="0123456789"
def allIn (x y:Str):Bool:=x.cps.toList.all fun c=>decide (c∈y.cps.toList)
def firstIn (x y:Str):Bool:=match x.cps.toList with
 |[]=>false
 |c::_=>decide (c∈y.cps.toList)
def isName (x:Str):Bool:=decide (1<=x.length)&&decide (x.length<=12)&&!inV (.str x) KWV&&firstIn x SM&&allIn x (SM++FG)
def first_of {x:Str} (h:1<=x.length):∃c r,x.cps.toList=c::r:=by
 have e:=T1.len_codes x
 cases q:x.cps.toList with
 |nil=>rw[q]at e;simp at e;lia
 |cons c r=>exact ii c r rfl
def at0{r:List Nat}:atI (c::r) (0:Int)=some c:=fZ rfl
def sM (x:Str):Bool:=match x.cps.toList with
 |[]=>false
 |c::_=>c==48
def nH (x:Str):Bool:=decide (1<=x.length)&&decide (x.length<=60)&&allIn x FG&&(!sM x||decide (x="0"))
def D0 (x:Str):Int:=(intText? x).getD 0
def FX (c:Nat):decide (V.str ⟨#[c]⟩=V.str "0")=(c==48):=by
 by_cases h:c=48;·subst h;rfl
 ·have a:¬V.str ⟨#[c]⟩=V.str "0":=fun z=>by
   injection z with z;have e:(⟨#[c]⟩:Str).cps.toList=("0":Str).cps.toList:=by rw[z]
   have b:=e;injection b with e3 _;exact h e3
  rw[hV a];exact(beq_eq_false_iff_ne.mpr h).symm
def zB:∀c∈FG.cps.toList,48<=c/\c<=57:=gL
def allIn_mem(h:allIn x y=true):∀c∈x.cps.toList,c∈y.cps.toList:=fun c a=>of_decide_eq_true (bD.mp h c a)
def Az(f:1<=x.length) (g:x.length<=100) (h:allIn x FG=true):intText? x=some (D0 x):=by
 have b:PySem.NumText.AllDigits x.cps.toList:=fun c d=>zB c (allIn_mem h c d);have a:x.cps.toList≠[]:=by refine eaq (first_of f) fun c r e=>?_;rw[e];exact bQ _ _
 have e:=PySem.intText_digits b a O2;unfold D0;rw[e];rfl
def sN(h:nH x=true):1<=x.length/\x.length<=60/\allIn x FG=true:=by unfold nH at h;simp only[fg,decide_eq_true_eq]at h;exact⟨h.1.1.1,h.1.1.2,h.1.2⟩
def FY(h:j<n):ixN n (j:Int)=some j:=by unfold ixN;rw[ig O2,ig O2];simp
def fR (a:Zx) (k:Int) (b:Zx):List (Str×V):=[("words",.ref a),("taken",.int k),("rows",.ref b)]
def Kv (a:Zx) (k:Int) (b:Zx):jV "rows" (.ref b) (jV "taken" (.int k) (jV "words" (.ref a) []))=fR a k b:=by have e:¬(("words":Str)="taken"):=gL;have d:¬(("words":Str)="rows"):=gL;have c:¬(("taken":Str)="rows"):=gL;simp only[jV,gZ e,gZ d,gZ c,fR]
def Il (a:Zx) (k j:Int) (b:Zx):jV "taken" (.int j) (fR a k b)=fR a j b:=by have c:¬(("words":Str)="taken"):=gL;simp only[jV,fR,gZ c,ig]
def zC (a:Zx) (k:Int) (b:Zx):(fR a k b).lookup ("words":Str)=some (.ref a):=by unfold fR;rw[bt,show(("words":Str)=="words")=true by decide+kernel]
def vB (a:Zx) (k:Int) (b:Zx):(fR a k b).lookup ("taken":Str)=some (.int k):=by unfold fR;rw[bt,show(("taken":Str)=="words")=false by decide+kernel,bt,show(("taken":Str)=="taken")=true by decide+kernel]
def vC (b:Zx) (k:Int) (a:Zx):(fR b k a).lookup ("rows":Str)=some (.ref a):=by unfold fR;rw[bt,show(("rows":Str)=="words")=false by decide+kernel,bt,show(("rows":Str)=="taken")=false by decide+kernel,bt,show(("rows":Str)=="rows")=true by decide+kernel]
def Kw (a:Zx) (k:Int) (b:Zx) {m:Str} (e:(m=="words")=false) (d:(m=="taken")=false) (c:(m=="rows")=false):(fR a k b).lookup m=none:=by unfold fR;rw[bt,e,bt,d,bt,c];rfl
structure rZ (C:Zx) (H:Hp) (p dx wl rl:Zx) (ws:Zd) (k:Nat) (rows:List V):Prop where
 ob:H p=some (.ins C dx (fR wl (k:Int) rl))
 wd:H wl=some (.lst (ws.map V.str))
 rw:H rl=some (.lst rows)
 ne:wl≠rl
structure WOk (ws:Zd):Prop where
 len:ws.length<=30000
 one:∀x∈ws,x≠""/\x.length<=30000/\∀c∈x.cps.toList,c<16^8
def fP (a b c:Zx):List (Str×V):=[("names",.ref a),("roots",.ref b),("rows",.ref c)]
def Kx (a b c:Zx):jV "rows" (.ref c) (jV "roots" (.ref b) (jV "names" (.ref a) []))=fP a b c:=by have f:¬(("names":Str)="roots"):=gL;have e:¬(("names":Str)="rows"):=gL;have d:¬(("roots":Str)="rows"):=gL;simp only[jV,gZ f,gZ e,gZ d,fP]
def Ky(b:48<=c) (a:c<=57):c∈FG.cps.toList:=by
 have e:FG.cps.toList=[48,49,50,51,52,53,54,55,56,57]:=gL;rw[e];have:c=48\/c=49\/c=50\/c=51\/c=52\/c=53\/c=54\/c=55\/c=56\/c=57:=O2
 rcases this with rfl|rfl|rfl|rfl|rfl|rfl|rfl|rfl|rfl|rfl<;>decide
def str_fig{n:Int} (o:0<=n) (l:n<10^(k+ 1)):(∀c∈(MA (toString n)).cps.toList,c∈FG.cps.toList)/\1<=(MA (toString n)).length/\(MA (toString n)).length<=k+ 1:=by
 obtain⟨m,rfl⟩:=fB o;have j:m<10^(k+ 1):=by
  have z:((m:Nat):Int)<((10^(k+ 1):Nat):Int):=by rw[Int.natCast_pow];exact l
  exact fC.mp z
 have e:=PySem.W.KIN.signs_num m;have p:=T1.len_codes (MA (toString ((m:Nat):Int)));rw[e,aE]at p;refine⟨fun c f=>?_,?_,?_⟩;·rw[e]at f;refine eaa (bh.mp f) fun q b g=>?_;subst g;obtain⟨i,h⟩:=PyProof.Rows.digit_range (Nat.isDigit_of_mem_toDigits O3 O3 b);exact Ky i h
 ·have z:=PySem.toDigits_len_ge 10 m;lia
 ·have z:=T1.dig_len k m j;lia
def app_codes (x y:Str):(x++y).cps.toList=x.cps.toList++y.cps.toList:=by rw[Str.cps_append,fw]
def rZ.ne1 {p:Zx} {ws:Zd} {k:Nat} {a:List V} (R:rZ C H p dx wl rl ws k a):p≠wl:=lU R.ob R.wd (fun z=>nomatch z)
def rZ.ne2 {p:Zx} {ws:Zd} {k:Nat} {a:List V} (R:rZ C H p dx wl rl ws k a):p≠rl:=lU R.ob R.rw (fun z=>nomatch z)
def rZ.next {C p d b c:Zx} {H:Hp} {ws:Zd} {k:Nat} {a:List V} (R:rZ C H p d b c ws k a) (j:Nat):rZ C (upd H p (.ins C d (fR b (j:Int) c))) p d b c ws j a:=
 ⟨f7,by rw[gy (Mu R.ne1)];exact R.wd,by rw[gy (Mu R.ne2)];exact R.rw,R.ne⟩
def rZ.same {p:Zx} {ws:Zd} {k:Nat} {a:List V} (R:rZ C H p dx wl rl ws k a) (S:gJ H H'):rZ C H' p dx wl rl ws k a:=⟨S _ _ R.ob,S _ _ R.wd,S _ _ R.rw,R.ne⟩
def tn0(h:Q [] H):x8 σ H Q:=h
def tc1(h:Q [v] H):kP (tC v) x8 σ H Q:=h
def iM (a:Zx) (k:Int) (b:Zx) (m:Str) (h:m="ahead"\/m="pass_over"\/m="take_name"\/m="take_expr"\/m="take"\/m="take_row"\/m="take_steady"\/m="take_fields"\/m="take_arms"\/m="take_things"\/m="take_form"):(fR a k b).lookup m=none:=by rcases h with rfl|rfl|rfl|rfl|rfl|rfl|rfl|rfl|rfl|rfl|rfl<;>exact Kw _ _ _ gL gL gL
def vD(o:HO) (h:H p=none) (S:gJ H H'):gJ H (upd H' p o):=fun b u e=>by rw[gy (gv e h)];exact S b u e
noncomputable def stT:List (Str×List Bool):=[("fn",[true,false]),("call",[false,false]),("let",[true,false,false]),("get",[false,true]),("tag",[true,false]),("at",[false,false,false]),
 ("join",[false,false]),("size",[false]),("add",[false,false]),("sub",[false,false]),("less",[false,false])]
def stP (h:Str):Option (List Bool):=(stT.find? fun p=>decide (p.1=h)).map (·.2)
section
variable {pe:List Str->List Dt->Option Rs} {x:Str} {r:Zd} {rows:List Dt}
end
section
variable {rows:List Dt} {names:Zd} {roots:List Dt}
end
mutual
inductive TAt (K:Zp) (H:Hp):V->Dt->Prop where
 |flat {v:V} (h:nG v=true):TAt K H v (.flat v)
 |tup {a:Zx} {xs:List V} {ds:List Dt} (h:H a=some (.tup xs)) (hs:mN K H xs ds):TAt K H (.ref a) (.tup ds)
inductive mN (K:Zp) (H:Hp):List V->List Dt->Prop where
 |nil:mN K H [] []
 |cons {x:V} {d:Dt} {xs:List V} {ds:List Dt} (h:TAt K H x d) (hs:mN K H xs ds):mN K H (x::xs) (d::ds)
end
section
variable {K:Zp} {H H':Hp}
mutual
theorem TAt.mono (k:∀a xs,H a=some (.tup xs)->H' a=some (.tup xs)):∀{x:V} {d:Dt},TAt K H x d->TAt K H' x d
 |_,_,.flat h=> .flat h
 |_,_,.tup h hs=> .tup (k _ _ h) (mN.mono k hs)
theorem mN.mono (k:∀a xs,H a=some (.tup xs)->H' a=some (.tup xs)):∀{xs:List V} {ds:List Dt},mN K H xs ds->mN K H' xs ds
 |_,_,.nil=> .nil
 |_,_,.cons h hs=> .cons (TAt.mono k h) (mN.mono k hs)
end
theorem mN.length:∀{xs:List V} {a:List Dt},mN K H xs a->xs.length=a.length
 |_,_,.nil=>rfl
 |_,_,.cons _ t=>by rw[aB,aB,mN.length t]
theorem mN.app:∀{xs a:List V} {c b:List Dt},mN K H xs c->mN K H a b->mN K H (xs++a) (c++b)
 |_,_,_,_,.nil,q=>q
 |_,_,_,_,.cons h t,q=> .cons h (mN.app t q)
def mN.snoc {c:List Dt} {x:V} {d:Dt} (a:mN K H xs c) (b:TAt K H x d):mN K H (xs++[x]) (c++[d]):=a.app (.cons b .nil)
theorem mN.set:∀{xs:List V} {a:List Dt} {x:V} {d:Dt} (j:Nat),mN K H xs a->TAt K H x d->mN K H (xs.set j x) (a.set j d)
 |_,_,_,_,_,.nil,_=> .nil
 |_,_,_,_,0,.cons _ t,q=> .cons q t
 |_,_,_,_,j+ 1,.cons h t,q=> .cons h (mN.set j t q)
end
def K2 (p q:Zx) (H a:Hp):Prop:=∀b o,H b=some o->b≠p->b≠q->a b=some o
def K2.refl (p q:Zx) (H:Hp):K2 p q H H:=fun _ _ e _ _=>e
def K2.trans {p:Zx} {h g:Hp} (a:K2 p q H h) (b:K2 p q h g):K2 p q H g:=fun c o e f d=>b c o (a c o e f d) f d
def gJ.k2 {p:Zx} (s:gJ H H'):K2 p q H H':=fun b o e _ _=>s b o e
def K2.upd1 {p:Zx} (k:K2 p q H H') (o:HO):K2 p q H (upd H' p o):=fun b u e a c=>by rw[gy a];exact k b u e a c
def K2.upd2 {p:Zx} (k:K2 p q H H') (o:HO):K2 p q H (upd H' q o):=fun b u e c a=>by rw[gy a];exact k b u e c a
def K2.sqT {K:Zp} {p:Zx} {d c:HO} (k:K2 p q H H') (h:H p=some d) (g:H q=some c) (f:∀b,d≠ .tup b/\∀o,d≠ .frz o (.tup b)) (e:∀b,c≠ .tup b/\∀o,c≠ .frz o (.tup b)) (s:SqT K H a b):SqT K H' a b:=by
 rcases s with s|s
 ·refine .inl ?_;rcases s with s|⟨o,s⟩;·exact .inl (k _ _ s (lU s h (Mu (f b).1)) (lU s g (Mu (e b).1)))
  ·exact .inr ⟨o,k _ _ s (lU s h (Mu ((f b).2 o))) (lU s g (Mu ((e b).2 o)))⟩
 ·exact .inr s
def RS (K:Zp) (C:Zx) (H:Hp) (p f d e:Zx) (ws b:Zd) (a:List Dt):Prop:=
 ∃k c,rZ C H p f d e ws k c/\ws.drop k=b/\k<=ws.length/\mN K H c a
section
variable {K:Zp} {C p dx wl rl:Zx} {H H':Hp} {ws rest:Zd} {rows:List Dt}
theorem rZ.sqT {k:Nat} {b:List V} (R:rZ C H p dx wl rl ws k b) (c:K2 p rl H H') (s:SqT K H a xs):SqT K H' a xs:=
 c.sqT R.ob R.rw (fun _=>⟨(fun z=>nomatch z),fun _ z=>nomatch z⟩) (fun _=>⟨(fun z=>nomatch z),fun _ z=>nomatch z⟩) s
def rZ.tpT {k:Nat} {b:List V} (R:rZ C H p dx wl rl ws k b) (c:K2 p rl H H') (s:H a=some (.tup xs)):H' a=some (.tup xs):=
 c _ _ s (lU s R.ob (fun z=>nomatch z)) (lU s R.rw (fun z=>nomatch z))
def RS.tat (R:RS K C H p dx wl rl ws rest rows) (b:K2 p rl H H') {x:V} {d:Dt} (t:TAt K H x d):TAt K H' x d:=by refine eah R fun k e R _=>?_;exact t.mono fun a c s=>rZ.tpT R b s
def RS.tats (R:RS K C H p dx wl rl ws rest rows) (d:K2 p rl H H') {c:List Dt} (t:mN K H b c):mN K H' b c:=by refine eah R fun k e R _=>?_;exact t.mono fun a b s=>rZ.tpT R d s
def RS.same (R:RS K C H p dx wl rl ws rest rows) (s:gJ H H'):RS K C H' p dx wl rl ws rest rows:=by refine eaj R fun k b R e d c=>?_;exact ii k b (⟨⟨s _ _ R.ob,s _ _ R.wd,s _ _ R.rw,R.ne⟩,e,d,c.mono fun a f t=>rZ.tpT R (gJ.k2 s) t⟩)
def RS.other (R:RS K C H p dx wl rl ws rest rows) (g:H a=some (.lst l)) (f:a≠p) (e:a≠wl) (d:a≠rl):RS K C (upd H a o) p dx wl rl ws rest rows:=by refine eaj R fun k c R j i h=>?_;refine ii k c (⟨⟨by rw[gy (Mu f)];exact R.ob,by rw[gy (Mu e)];exact R.wd,by rw[gy (Mu d)];exact R.rw,R.ne⟩,j,i,h.mono fun b m t=>?_⟩);rw[gy (lU t g (fun z=>nomatch z))];exact t
def mN.other (e:H a=some (.lst l)) {d:List Dt} (t:mN K H c d):mN K (upd H a o) c d:=t.mono fun b c t=>by rw[gy (lU t e (fun z=>nomatch z))];exact t
def BY{r:Zd} (h:ws.drop k=x::r):ws[k]?=some x/\ws.drop (k+ 1)=r/\k<ws.length:=by
 have a:k<ws.length:=by
  by_cases z:k<ws.length;·exact z
  ·rw[bR O2]at h;cases h
 rw[bS a]at h;injection h with h1 h2;exact⟨by rw[bE a,h1],h2,a⟩
def RS.mem (R:RS K C H p dx wl rl ws rest rows):∀x∈rest,x∈ws:=by refine eap R fun k c _ h _=>?_;intro x b;rw[<-h]at b;exact bT b
theorem RS.ob (R:RS K C H p dx wl rl ws rest rows):∃k,H p=some (.ins C dx (fR wl k rl)):=by refine eah R fun k a R _=>?_;exact⟨_,R.ob⟩
def wX(c:H a=some (.lst l)) (t:SqT K H b xs):SqT K (upd H a o) b xs:=by
 rcases t with t|t
 ·refine .inl ?_;rcases t with t|⟨d,t⟩;·exact .inl (by rw[gy (lU t c (fun z=>nomatch z))];exact t)
  ·exact .inr ⟨d,by rw[gy (lU t c (fun z=>nomatch z))];exact t⟩
 ·exact .inr t
def RS.sqt (R:RS K C H p dx wl rl ws rest rows) (b:K2 p rl H H') (t:SqT K H a xs):SqT K H' a xs:=by refine eah R fun k c R _=>?_;exact rZ.sqT R b t
def wY(c:H a=none) (k:K2 p q H H'):K2 p q H (upd H' a o):=fun b u e f d=>by rw[gy (gv e c)];exact k b u e f d
def RS.apart {b:Zx} (R:RS K C H p dx wl rl ws rest rows) (a:H b=none):b≠p/\b≠rl/\b≠wl:=by refine eah R fun k c R _=>?_;exact⟨Mu (gv R.ob a),Mu (gv R.rw a),Mu (gv R.wd a)⟩
end
end GR.Internal
namespace GR.Internal
variable {ts:Zd}
open PySem L2.Internal T1
def St1 (w:List Nat):Str:=⟨w.toArray⟩
def toks (x:Str):List Str:=(all (W x.cps.toList)).map St1
def toks_v (x:Str):wordsV x.cps.toList=(toks x).map V.str:=Ay _
theorem vE:∀(s:List Nat) p c,s.foldl step (p,c)=(p++(s.foldl step ([],c)).1,(s.foldl step ([],c)).2)
 |[],p,c=>by simp
 |k::s,p,c=>by
  have f:(k::s).foldl step (p,c)=s.foldl step (step (p,c) k):=rfl;have e:(k::s).foldl step ([],c)=s.foldl step (step ([],c) k):=rfl;rw[f,e];have d:step (p,c) k=(p++(step ([],c) k).1,(step ([],c) k).2):=by
   unfold T1.step;split;·split<;>simp
   ·simp
  rw[d];generalize step ([],c) k=q;obtain⟨b,a⟩:=q;rw[vE s (p++b) a,vE s b a,bU]
def zD(h:(W a).2=[]):W (a++b)=((W a).1++(W b).1,(W b).2):=by
 rw[rY];have e:W a=((W a).1,[]):=by rw[<-h]
 rw[e,vE];rfl
def Gp (x:Str) (a:Zd):Prop:=(W x.cps.toList).2=[]/\(W x.cps.toList).1.map St1=a
def Op (x:Str) (a:Zd):Prop:=toks x=a
def Gp.op {x:Str} (h:Gp x ts):Op x ts:=by unfold Op toks all;rw[ig h.1,h.2]
def Gp.app {x y:Str} {a:Zd} (h:Gp x ts) (k:Gp y a):Gp (x++y) (ts++a):=by unfold Gp;rw[app_codes,zD h.1];exact⟨k.1,by rw[bq,h.2,k.2]⟩
def Gp.app_op {x y:Str} {a:Zd} (h:Gp x ts) (k:Op y a):Op (x++y) (ts++a):=by
 unfold Op toks at*;rw[app_codes,zD h.1,<-h.2,<-k];unfold all;by_cases z:(W y.cps.toList).2=[];·rw[ig z,ig z,bq]
 ·rw[gZ z,gZ z];simp only[bq,bU]
def Op.close {x:Str} (h:Op x ts):Gp (x++")") (ts++[(")":Str)]):=by unfold Gp;have e:(x++")").cps.toList=x.cps.toList++[41]:=app_codes x ")";rw[e,BX _ (.inr rfl)];refine⟨rfl,?_⟩;rw[bq];exact congrArg (·++[(")":Str)]) h
def Op.gap {x:Str} (h:Op x ts):Gp (x++" ") ts:=by unfold Gp;have e:(x++" ").cps.toList=x.cps.toList++[32]:=app_codes x " ";rw[e,Kt _ (.inl rfl)];exact⟨rfl,h⟩
def cat_assoc (x y z:Str):x++y++z=x++(y++z):=T1.str_ext (by rw[app_codes,app_codes,app_codes,app_codes,bU])
def Op.word {x:Str} (a:x.cps.toList≠[]) (h:∀k∈x.cps.toList,k≠32/\k≠10/\k≠40/\k≠41):Op x [x]:=by unfold Op toks;have e:W x.cps.toList=([],x.cps.toList):=Ku [] x.cps.toList h;rw[e];show(if x.cps.toList=[]then _ else _:List (List Nat)).map St1=_;rw[gZ a];show[St1 x.cps.toList]=[x];exact congrArg (fun z=>[z]) (T1.str_ext rfl)
theorem wZ:∀m,0<m->(cR 10 m).head?≠some '0'
 |m,h=>by
  by_cases h10:m<10
  ·rw[cU h10];have:m=1\/m=2\/m=3\/m=4\/m=5\/m=6\/m=7\/m=8\/m=9:=O2
   rcases this with rfl|rfl|rfl|rfl|rfl|rfl|rfl|rfl|rfl<;>decide
  ·have c:m%10<10:=Nat.mod_lt m O3;have t:cR 10 (m/10)++cR 10 (m%10)=cR 10 (10*(m/10)+m%10):=cW O3 O2 c;rw[Nat.div_add_mod]at t;have b:=wZ (m/10) O2;rw[<-t]
   cases e:cR 10 (m/10)with
   |nil=>have:=PySem.toDigits_len_ge 10 (m/10);rw[e]at this;simp at this
   |cons a r=>rw[e]at b;exact b
termination_by m=>m
def num_is{n:Int} (b:0<=n) (g:n<10^(k+ 1)) (j:k+ 1<=60):nH (MA (toString n))=true:=by
 refine eac (str_fig b g) fun i h l=>?_;obtain⟨m,rfl⟩:=fB b;have e:=PySem.W.KIN.signs_num m;unfold nH;have z:(!sM (MA (toString ((m:Nat):Int)))||decide (MA (toString ((m:Nat):Int))="0"))=true:=by
  by_cases hm:m=0;·subst hm;decide+kernel
  ·have d:=wZ m O2;have:sM (MA (toString ((m:Nat):Int)))=false:=by
    unfold sM;rw[e]
    cases q:cR 10 m with
    |nil=>rfl
    |cons a r=>rw[q]at d;show(a.toNat==48)=false;refine beq_eq_false_iff_ne.mpr fun w=>d ?_;exact congrArg some (Char.toNat_inj.mp w)
   rw[this];rfl
 rw[z,gT h,gT (show _<=60 by lia)];simp only[Bool.true_and,Bool.and_true];exact bD.mpr fun c f=>gT (i c f)
section
variable {d n:Nat} {ts:Zd}
end
instance {x:Str} {ts:Zd}:Decidable (Gp x ts):=inferInstanceAs (Decidable (_/\_))
instance {x:Str} {ts:Zd}:Decidable (Op x ts):=inferInstanceAs (Decidable (_=_))
section
variable {d n:Nat} {ts:Zd}
end
end GR.Internal
namespace TM.Internal
variable {f:Nat}
open PySem L2.Internal GR.Internal
inductive Kn
 |num (n:Int)
 |name (w:Str)
 |fn (w:Str)
 |tag (w:Str)
 |lt (w:Str)
 |get (w:Str)
 |rcd (l:Zd)
 |case (l:List (Str×Str))
 |row (m:Nat)
 |op (s:Str) (m:Nat)
inductive Tr
 |mk (κ:Kn) (ks:List Tr)
def ops:List (Str×Nat):=[("call",2),("at",3),("join",2),("size",1),("add",2),("sub",2),("less",2)]
def Kn.ar:Kn->Nat
 | .num _=>0
 | .name _=>0
 | .fn _=>1
 | .tag _=>1
 | .lt _=>2
 | .get _=>1
 | .rcd l=>l.length
 | .case l=>l.length+ 1
 | .row m=>m
 | .op _ m=>m
def numS (n:Int):Str:=MA (toString n)
def Kn.ok:Kn->Prop
 | .num n=>0<=n/\n<10^60
 | .name w=>isName w=true
 | .fn w=>isName w=true
 | .tag w=>isName w=true
 | .lt w=>isName w=true
 | .get w=>isName w=true
 | .rcd l=>l.length<=6/\∀w∈l,isName w=true
 | .case l=>1<=l.length/\l.length<=6/\∀p∈l,isName p.1=true/\isName p.2=true
 | .row m=>m<=8
 | .op s m=>(s,m)∈ops
mutual
def Tr.sz:Tr->Nat
 | .mk _ ks=>1+szs ks
def szs:List Tr->Nat
 |[]=>0
 |t::ts=>t.sz+szs ts
end
mutual
def Tr.nest:Tr->Nat
 | .mk _ ks=>1+kn ks
def kn:List Tr->Nat
 |[]=>0
 |t::ts=>max t.nest (kn ts)
end
mutual
def Tr.ok:Tr->Prop
 | .mk κ ks=>κ.ok/\ks.length=κ.ar/\oks ks
def oks:List Tr->Prop
 |[]=>True
 |t::ts=>t.ok/\oks ts
end
def wv1:List Str->List (List Str)->List Str
 |w::l,k::ks=>w::(k++wv1 l ks)
 |_,_=>[]
noncomputable def wv2:List (Str×Str)->List (List Str)->List Str
 |p::l,k::ks=>p.1::p.2::(k++wv2 l ks)
 |_,_=>[]
noncomputable def Kn.ws:Kn->List (List Str)->List Str
 | .fn w,ks=>w::ks.flatten
 | .tag w,ks=>w::ks.flatten
 | .lt w,ks=>w::ks.flatten
 | .get w,ks=>ks.flatten++[w]
 | .rcd l,ks=>wv1 l ks
 | .case l,k::ks=>k++wv2 l ks
 |_,ks=>ks.flatten
def Kn.s:Kn->Str
 | .num _=>"num"
 | .name _=>"name"
 | .fn _=>"fn"
 | .tag _=>"tag"
 | .lt _=>"let"
 | .get _=>"get"
 | .rcd _=>"rec"
 | .case _=>"case"
 | .row _=>"row"
 | .op s _=>s
def Kn.tk (κ:Kn) (a:List (List Str)):List Str:=match κ with
 | .num n=>[numS n]
 | .name w=>[w]
 |κ=>("(":Str)::κ.s::(κ.ws a++[(")":Str)])
mutual
def Tr.tk:Tr->List Str
 | .mk κ ks=>κ.tk (tks ks)
def tks:List Tr->List (List Str)
 |[]=>[]
 |t::ts=>t.tk::tks ts
end
def sD (s:Str):Dt:= .flat (.str s)
def kD (k:Nat):Dt:= .flat (.int (k:Int))
noncomputable def Kn.rw (b:Kn) (a:List Nat):List Dt:=match b,a with
 | .num n,_=>[sD "num",.flat (.int n)]
 | .name w,_=>[sD "name",sD w]
 | .fn w,a=>sD "fn"::sD w::a.map kD
 | .tag w,a=>sD "tag"::sD w::a.map kD
 | .lt w,a=>sD "let"::sD w::a.map kD
 | .get w,a=>sD "get"::(a.map kD++[sD w])
 | .rcd l,a=>[sD "rec",.tup ((l.zip a).map fun p=> .tup [sD p.1,kD p.2])]
 | .case l,p::a=>[sD "case",kD p,.tup ((l.zip a).map fun p=> .tup [sD p.1.1,sD p.1.2,kD p.2])]
 | .case _,[]=>[]
 | .row _,a=>[sD "row",.tup (a.map kD)]
 | .op s _,a=>sD s::a.map kD
def i6:List Tr->Nat->List Nat
 |[],_=>[]
 |t::ts,p=>p::i6 ts (p+t.sz)
mutual
def Tr.rw:Tr->Nat->List Dt
 | .mk κ ks,p=> .tup (κ.rw (i6 ks (p+ 1)))::rws ks (p+ 1)
def rws:List Tr->Nat->List Dt
 |[],_=>[]
 |t::ts,p=>t.rw p++rws ts (p+t.sz)
end
theorem offs_len:∀a p,(i6 a p).length=a.length
 |[],_=>rfl
 |t::a,p=>by rw[i6,aB,aB,offs_len a]
mutual
theorem Tr.rw_len:∀(t:Tr) (p:Nat),(t.rw p).length=t.sz
 | .mk κ ks,p=>by rw[Tr.rw,aB,rws_len ks,Tr.sz];lia
theorem rws_len:∀(ts:List Tr) (p:Nat),(rws ts p).length=szs ts
 |[],_=>by rw[rws,szs];rfl
 |t::ts,p=>by rw[rws,szs,aR,Tr.rw_len t,rws_len ts]
end
def D1:isName ")"=false/\nH ")"=false:=gL
def name_nc(h:isName w=true):w≠")":=fun z=>by rw[z,D1.1]at h;cases h
def set_at{y:Dt}:(rows++[x]++more).set rows.length y=rows++y::more:=by rw[bU,List.set_append_right _ _ (cJ _),cX];rfl
theorem num_is(b:0<=n) (d:n<10^60):nH (numS n)=true/\D0 (numS n)=n:=by
 refine⟨GR.Internal.num_is b d O3,?_⟩;refine eac (str_fig b d) fun j i h=>?_;have f:PySem.NumText.AllDigits (numS n).cps.toList:=fun c g=>zB c (j c g);have a:(numS n).cps.toList≠[]:=by refine eaq (first_of (x:=numS n) i) fun c r e=>?_;rw[e];exact bQ _ _
 have k:(numS n).length<=60:=h;have e:=PySem.intText_digits f a O2;unfold D0;rw[e];obtain⟨m,rfl⟩:=fB b;unfold numS;rw[PySem.W.KIN.signs_num,PySem.W.KIN.val_back];rfl
def Kz:∀c∈SM.cps.toList,¬c∈FG.cps.toList:=gL
def name_nn(h:isName w=true):¬nH w=true:=fun z=>by refine eac (sN z) fun e _ d=>?_;refine eaq (first_of e) fun c r b=>?_;unfold isName at h;simp only[fg]at h;have a:=h.1.2;unfold firstIn at a;rw[b]at a;exact Kz c (of_decide_eq_true a) (allIn_mem d c (by rw[b];exact aj))
def ptr:List (Str ⊕ Tr)->List Tr
 |[]=>[]
 | .inl _::l=>ptr l
 | .inr t::l=>t::ptr l
def pw:List (Str ⊕ Tr)->List Str
 |[]=>[]
 | .inl w::l=>w::pw l
 | .inr t::l=>t.tk++pw l
noncomputable def pd:List (Str ⊕ Tr)->Nat->List Dt
 |[],_=>[]
 | .inl w::l,p=>sD w::pd l p
 | .inr t::l,p=>kD p::pd l (p+t.sz)
def isL:Str ⊕ Tr->Bool
 | .inl _=>true
 | .inr _=>false
def okP (f:Nat):Str ⊕ Tr->Prop
 | .inl w=>isName w=true
 | .inr t=>t.ok/\t.nest<=f
abbrev Its:=List (Str×List (Str ⊕ Tr))
def itr:Its->List Tr
 |[]=>[]
 |i::l=>ptr i.2++itr l
def iw:Its->List Str
 |[]=>[]
 |i::l=>i.1::(pw i.2++iw l)
noncomputable def idt:Its->Nat->List Dt
 |[],_=>[]
 |i::l,p=> .tup (sD i.1::pd i.2 p)::idt l (p+szs (ptr i.2))
theorem idt_len:∀l p,(idt l p).length=l.length
 |[],_=>rfl
 |i::l,p=>by rw[idt,aB,aB,idt_len l]
theorem pd_len:∀l p,(pd l p).length=l.length
 |[],_=>rfl
 | .inl _::l,p=>by rw[pd,aB,aB,pd_len l]
 | .inr _::l,p=>by rw[pd,aB,aB,pd_len l]
theorem oQ:∀a b,szs (a++b)=szs a+szs b
 |[],b=>by rw[bV,szs,cY]
 |t::a,b=>by rw[aU,szs,szs,oQ a b,cZ]
theorem vF:∀a b p,rws (a++b) p=rws a p++rws b (p+szs a)
 |[],b,p=>by rw[bV,szs,rws,bV];rfl
 |t::a,b,p=>by rw[aU,rws,vF a b,rws,szs,bU,cZ]
noncomputable def fI:List Str->List Tr->Its
 |w::l,t::ts=>(w,[.inr t])::fI l ts
 |_,_=>[]
noncomputable def aI:List (Str×Str)->List Tr->Its
 |p::l,t::ts=>(p.1,[.inl p.2,.inr t])::aI l ts
 |_,_=>[]
theorem fI_is:∀{l:Zd} {d:List Tr},l.length=d.length->itr (fI l d)=d/\iw (fI l d)=wv1 l (tks d)/\∀p,idt (fI l d) p=(l.zip (i6 d p)).map fun p=> .tup [sD p.1,kD p.2]
 |[],[],_=>⟨rfl,rfl,fun _=>rfl⟩
 |w::l,t::d,h=>by
  refine eac (fI_is (da.inj h)) fun a b c=>?_;refine⟨congrArg (t::·) a,?_,fun p=>?_⟩;·rw[fI,iw,b,tks,wv1];simp only[pw,aF]
  ·rw[fI,idt,c,i6];simp only[ptr,szs,df];rfl
theorem aI_is:∀{l:List (Str×Str)} {d:List Tr},l.length=d.length->itr (aI l d)=d/\iw (aI l d)=wv2 l (tks d)/\∀p,idt (aI l d) p=(l.zip (i6 d p)).map fun p=> .tup [sD p.1.1,sD p.1.2,kD p.2]
 |[],[],_=>⟨rfl,rfl,fun _=>rfl⟩
 |w::l,t::d,h=>by
  refine eac (aI_is (da.inj h)) fun a b c=>?_;refine⟨congrArg (t::·) a,?_,fun p=>?_⟩;·rw[aI,iw,b,tks,wv2];simp only[pw,aF,aU]
  ·rw[aI,idt,c,i6];simp only[ptr,szs,df];rfl
theorem fI_ok:∀{l:Zd} {a:List Tr},(∀w∈l,isName w=true)->oks a->kn a<=f->∀i∈fI l a,isName i.1=true/\i.2.map isL=[false]/\∀x∈i.2,okP f x
 |[],_,_,_,_,i,hi=>nomatch(show i∈([]:Its)from hi)
 |_::_,[],_,_,_,i,hi=>nomatch(show i∈([]:Its)from hi)
 |w::l,t::a,hw,ho,hn,i,hi=>by
  rw[oks]at ho;rw[kn]at hn;rw[fI]at hi;rcases ao.mp hi with rfl|hi;·exact⟨hw w aj,rfl,fun x b=>by rw[bo.mp b];exact⟨ho.1,O2⟩⟩
  ·exact fI_ok (fun x b=>hw x (ak _ b)) ho.2 O2 i hi
theorem aI_ok:∀{l:List (Str×Str)} {a:List Tr},(∀p∈l,isName p.1=true/\isName p.2=true)->oks a->kn a<=f->∀i∈aI l a,isName i.1=true/\i.2.map isL=[true,false]/\∀x∈i.2,okP f x
 |[],_,_,_,_,i,hi=>nomatch(show i∈([]:Its)from hi)
 |_::_,[],_,_,_,i,hi=>nomatch(show i∈([]:Its)from hi)
 |w::l,t::a,hw,ho,hn,i,hi=>by
  rw[oks]at ho;rw[kn]at hn;rw[aI]at hi;rcases ao.mp hi with rfl|hi
  ·refine⟨(hw w aj).1,rfl,fun x hx=>?_⟩;rcases ao.mp hx with rfl|hx;·exact(hw w aj).2
   ·rw[bo.mp hx];exact⟨ho.1,O2⟩
  ·exact aI_ok (fun x hx=>hw x (ak _ hx)) ho.2 O2 i hi
def head_nc:∀(t:Tr),t.ok->∃x r,t.tk=x::r/\x≠")"
 | .mk κ ks,h=>by
  rw[Tr.ok]at h;rw[Tr.tk]
  cases κ with
  |num n=>
   refine ii _ _ ⟨rfl,fun z=>?_⟩;have a:=str_fig h.1.1 h.1.2;have:(41:Nat)∈(numS n).cps.toList:=by rw[z];decide+kernel
   have:=a.1 41 this;exact absurd this gL
  |name w=>exact ii _ _ ⟨rfl,name_nc h.1⟩
  |_=>exact ii _ _ ⟨rfl,gL⟩
theorem ptr_inr:∀a,ptr (a.map .inr)=a
 |[]=>rfl
 |t::a=>congrArg (t::·) (ptr_inr a)
theorem pw_inr:∀a,pw (a.map .inr)=(tks a).flatten
 |[]=>rfl
 |t::a=>by rw[aD,pw,pw_inr a,tks,List.flatten_cons]
theorem pd_inr:∀a p,pd (a.map .inr) p=(i6 a p).map kD
 |[],_=>rfl
 |t::a,p=>by rw[aD,pd,pd_inr a,i6,aD]
theorem okP_inr:∀{a:List Tr},oks a->kn a<=f->∀x∈a.map Me,okP f x
 |[],_,_,x,hx=>nomatch hx
 |t::a,ho,hn,x,hx=>by
  rw[oks]at ho;rw[kn]at hn;rcases ao.mp hx with rfl|hx;·exact⟨ho.1,O2⟩
  ·exact okP_inr ho.2 O2 x hx
end TM.Internal
open L2.Internal renaming upd→NR
open L2.Internal.PE renaming mono→NS
open L2.Internal.SqL renaming of→NT
open TM.Internal.Tr renaming sz→NU,tk→NV,ok→NY,nest→Oa,rw→Ox
open TM.Internal renaming ops→NW,offs_len→N0,numS→N4,rws→Oc,kD→Og,fI→Oh,aI→Oi,name_nc→Om,ptr_inr→Oo,idt_len→Oq,pw_inr→Ov,pd_inr→Ow,Tr→Oy
open L2.Internal.SqT renaming of→NX
open GR.Internal renaming isName→NZ,SM→N5,FG→N6,cat_assoc→Ob,KWV→Oe,allIn_mem→Oj,app_codes→Ol,str_fig→Ot,firstIn→Ou
open HT.Internal renaming sIx→N8,sIx_none→Od,sIx_nat→Of
namespace K68.Internal
variable {pos:Pos} {scope:Scope}
open PySem L2.Internal
def l0 {P:List Zz->Prop} (h:P []):∀a,a.length=0->P a:=fun a e=>by rw[bW e];exact h
def lS{P:List Zz->Prop} (h:∀a,∀b,b.length=n->P (a::b)):∀b,b.length=n+ 1->P b:=fun b e=>by
 cases b with
 |nil=>cases e
 |cons a t=>exact h a t (da.inj e)
def top (i:Nat):Zq:=PySem.Challenge.pw_flowkinds_k68_whole_trace.main.body.getD i (.Pass ⟨0,0,0,0⟩)
variable {K:Zp} {mg:Zc} {n q:Str} {st:Zq} {ps:Zd} {C:Zx} {h:Zt}
inductive Fm (K:Zp) (n:Str) (st:Zq):Prop
 |mk {f:Zx} {od an:Option Zx} {sl:Array (Option Zz)} {oc kV dc pm cd ct:Zz} (a:eF K L7 n=some (some (.ref f))) (l:K.lookup f=some ⟨oc,od,.func (ee n n (mE st) (lK st) (gx st) .none kV dc pm an cd ct),sl⟩) (c:eA K cd n=true) (k:dQ K (.ref f)=true)
inductive Mm (K:Zp) (C:Zx) (n q:Str) (st:Zq):Prop
 |mk {f:Zx} {od an:Option Zx} {sl:Array (Option Zz)} {oc kV dc pm cd ct:Zz} (i:dG K (.ref C) n=some (some (.ref f))) (j:dI K (.ref f)=true) (l:K.lookup f=some ⟨oc,od,.func (ee n q (mE st) (lK st) (gx st) .none kV dc pm an cd ct),sl⟩) (c:eA K cd q=true) (k:dQ K (.ref f)=true)
structure Cm (K:Zp) (n:Str) (C:Zx):Prop where
 a:eF K L7 n=some (some (.ref C))
 pg:dE K C Str.empty=true
 hd:dF K C=true
 po:dJ K C=true
 sa:dG K (.ref C) "__setattr__"=some (some (.builtin "object.__setattr__"))
 t1:dG K (.ref C) "__class__"=some (some (.builtin "object.__class__"))
 t2:dP K (.builtin "object.__class__") "__get__"=some (some (.builtin "getset_descriptor.__get__"))
 t3:PySem.W.takesIn K (.builtin "object.__class__")=some true
 t4:PySem.W.mroIn K C (.type "object")=some true
 ms:dN K C=true
 kc:dQ K (.ref C)=true
structure Fx (K:Zp) (mg:Zc) (n:Str) (st:Zq) (ps:Zd) where
 a:Zx
 fd:Zs
 F:Fun K n n st a fd
 b:qE K fd ps []
 m:mg n=some (.ref a)
 k:dQ K (.ref a)=true
structure Mx (K:Zp) (C:Zx) (n q:Str) (st:Zq) (ps:Zd) where
 a:Zx
 fd:Zs
 F:Fun K n q st a fd
 b:qE K fd ps []
 me:JO K C n a
structure Ck (K:Zp) (mg:Zc) (n:Str) where
 a:Zx
 m:mg n=some (.ref a)
 cl:Cls K a
 ty:∀(H:Hp) (x dx:Zx) (fs:List (Str×V)),H x=some (.ins a dx fs)->x6 K H (.ref x) (.ref a)
def Bf (n q:Str) (st:Zq) (d:Zd):Prop:=∀f b e h c g a,a.length=d.length->bindArgs (ee n q (mE st) (lK st) (gx st) .none f b e h c g) ⟨a,[]⟩=pure (d.zip a)
def Fm.x (X:K.In h) (G:h.Ns L7 mg) (a:Fm K n st) (hb:Bf n n st ps:=by intro _ _ _ _ _ _;repeat(first|exact l0 rfl|refine lS fun _=>?_)):Fx K mg n st ps:=Classical.choice (by obtain⟨a,l,c,k⟩:=a;exact⟨⟨_,_,sy l c k,(sy l c k).binds hb,eI X G a,k⟩⟩)
def Mm.x (a:Mm K C n q st) (hb:Bf n q st ps:=by intro _ _ _ _ _ _;repeat(first|exact l0 rfl|refine lS fun _=>?_)):Mx K C n q st ps:=Classical.choice (by obtain⟨i,j,l,c,k⟩:=a;exact⟨⟨_,_,sy l c k,(sy l c k).binds hb,⟨i,j,k⟩⟩⟩)
def Cm.x (X:K.In h) (G:h.Ns L7 mg) (a:Cm K n C):Ck K mg n:=⟨C,eI X G a.a,⟨a.pg,a.hd,a.po,a.sa⟩,fun _ _ _ _ e=> .ins e ⟨a.pg,a.hd,a.po,a.sa⟩ a.t1 a.t2 a.t3 a.t4⟩
def sf{x:Option (Option Zz)} (d:x=some (some (.ref a))) (c:x=some (some (.ref b))):a=b:=by rw[d]at c;cases c;rfl
def Cm.k (a:Cm K n C) (x:Mx K C "__init__" q st ps):Mk K C x.a:=⟨a.ms,x.me.at_,x.me.fn,a.kc⟩
abbrev FO (P:Zu) (w:Zv) (base:Zt) (k:Nat) (x:Fx K mg n st ps) (sp:Sp):Prop:=uC P w K mg base CX0 k x.a x.fd ps sp
abbrev MO (P:Zu) (w:Zv) (base:Zt) (mg:Zc) (k:Nat) (x:Mx K C n q st ps) (sp:Sp):Prop:=uC P w K mg base CX0 k x.a x.fd ps sp
abbrev qK:Zq:=top 6
abbrev oR:Zq:=top 7
abbrev BZ:Zq:=top 8
abbrev mS:Zq:=top 12
abbrev nQ:Zq:=top 13
abbrev qL:Zq:=top 14
abbrev oS:Zq:=top 15
abbrev sO:Zq:=top 16
abbrev oT:Zq:=top 17
abbrev qM:Zq:=top 18
abbrev qN:Zq:=top 19
abbrev qO:Zq:=top 20
abbrev qP:Zq:=top 21
abbrev oU:Zq:=top 22
abbrev qQ:Zq:=top 23
abbrev sP:Zq:=top 24
abbrev oW:Zq:=top 25
abbrev oX:Zq:=top 26
abbrev qR:Zq:=top 27
abbrev qS:Zq:=top 28
abbrev oY:Zq:=top 29
abbrev FZ:Zq:=top 33
abbrev qT:Zq:=top 48
abbrev sQ:Zq:=top 49
abbrev oZ:Zq:=top 50
abbrev sR:Zq:=top 51
abbrev B0:Zq:=top 52
abbrev mU:Zq:=top 53
abbrev qU:Zq:=top 56
abbrev mF:Zq:=top 57
abbrev nR:Zq:=top 58
abbrev sS:Zq:=top 59
abbrev mV:Zq:=top 60
abbrev mG:Zq:=top 61
abbrev sU:Zq:=top 62
abbrev ph:Zq:=top 64
abbrev nS:Zq:=top 65
abbrev pj:Zq:=top 66
abbrev pk:Zq:=top 67
abbrev pA:Zq:=top 68
abbrev qV:Zq:=top 69
abbrev qW:Zq:=top 70
abbrev mW:Zq:=top 71
abbrev lV:Zq:=top 72
abbrev qX:Zq:=top 73
abbrev pB:Zq:=top 74
abbrev mX:Zq:=top 75
abbrev pE:Zq:=top 76
abbrev nT:Zq:=top 77
abbrev mH:Zq:=top 78
abbrev nU:Zq:=top 79
abbrev kT:Zq:=top 80
abbrev mY:Zq:=top 81
abbrev nV:Zq:=top 82
abbrev pG:Zq:=top 83
abbrev qY:Zq:=top 84
abbrev nX:Zq:=top 85
abbrev pH:Zq:=top 86
abbrev vG:Zq:=top 87
abbrev rR:Zq:=iL (top 3) 0
abbrev qZ:Zq:=iL (top 4) 0
abbrev ky:Zq:=iL (top 11) 0
abbrev jx:Zq:=iL (top 11) 1
abbrev jM:Zq:=iL (top 11) 2
abbrev lW:Zq:=iL (top 11) 3
abbrev jN:Zq:=iL (top 11) 4
abbrev jO:Zq:=iL (top 11) 5
abbrev lM:Zq:=iL (top 11) 6
abbrev kU:Zq:=iL (top 11) 7
abbrev lX:Zq:=iL (top 11) 8
abbrev kz:Zq:=iL (top 11) 9
abbrev jz:Zq:=iL (top 11) 10
abbrev mI:Zq:=iL (top 32) 0
abbrev kC:Zq:=iL (top 47) 0
abbrev kW:Zq:=iL (top 54) 0
abbrev mJ:Zq:=iL (top 54) 1
abbrev mZ:Zq:=iL (top 54) 2
abbrev kE:Zq:=iL (top 54) 3
abbrev kF:Zq:=iL (top 54) 4
abbrev kG:Zq:=iL (top 54) 5
abbrev kX:Zq:=iL (top 54) 6
abbrev kH:Zq:=iL (top 54) 7
abbrev jP:Zq:=iL (top 54) 8
abbrev jQ:Zq:=iL (top 54) 9
abbrev kI:Zq:=iL (top 54) 10
abbrev jR:Zq:=iL (top 54) 11
def scK {N ps:Zd} {s:Scope} (h:gE N ps s:=by constructor<;>first|rfl|decide+kernel):gE N ps s:=h
structure Ek (K:Zp) (mg:Zc) (n:Str) where
 a:Zx
 m:mg n=some (.ref a)
inductive Jm (K:Zp) (C:Zx) (q:Str) (st:Zq):Prop
 |mk {f:Zx} {od an:Option Zx} {sl:Array (Option Zz)} {oc kV dc pm cd ct:Zz} {N:Zx} {z1 z2:Str} {y1 y2 y3:List Zz} {y4:Zd} {y5:Bool} {y6:Option Bool} {y7:Option Zx} {k0 k1 k2 k3 k5:Option Zz} (xl:K.lookup C=some ⟨.type "type",y7,.cls ⟨z1,y1,.ref C::y2,N,z2,true,y4,y3,y5,y6,false⟩,#[k0,k1,k2,k3,some (.builtin "ValueError.__new__"),k5]⟩) (xi:eF K N "__init__"=some (some (.ref f)))
  (l:K.lookup f=some ⟨oc,od,.func (ee "__init__" q (mE st) (lK st) (gx st) .none kV dc pm an cd ct),sl⟩) (c:eA K cd q=true) (k:dQ K (.ref f)=true) (xz:eE K N=true) (xt:eG K FJ y2=true) (xp:oc= .type "function") (xj:dG K (.ref C) "__setattr__"=some (some (.builtin "object.__setattr__")))
  (xa:dG K (.ref C) "__getattribute__"=some (some (.builtin "BaseException.__getattribute__"))) (xb:dG K (.ref C) "__getattr__"=some none) (xc:dG K (.ref C) "__class__"=some (some (.builtin "object.__class__"))) (xd:eC K (.ref C) (.type "BaseException")=some true) (xe:eC K (.ref C) (.type "object")=some true) (xf:dF K C=true)
structure Jx (K:Zp) (C:Zx) (q:Str) (st:Zq) (ps:Zd) where
 a:Zx
 fd:Zs
 F:Fun K "__init__" q st a fd
 b:qE K fd ps []
 xi:LV K C a
 xs:LU K C
def Jm.x (a:Jm K C q st) (hb:Bf "__init__" q st ps:=by intro _ _ _ _ _ _;repeat(first|exact l0 rfl|refine lS fun _=>?_)):Jx K C q st ps:=Classical.choice (by obtain⟨xl,xi,l,c,k,xz,xt,xp,xj,xa,xb,xc,xd,xe,xf⟩:=a;exact⟨⟨_,_,sy l c k,(sy l c k).binds hb,Ii xl xz xi xt l xp,Ih xl xt ⟨xa,xb,xc,xd,xe,xf⟩ xj⟩⟩)
set_option genInjectivity false in
set_option genSizeOf false in
structure Txt (K:Zp) (mg:Zc) where
 t1:Tok
 o1:mg "MOST_JOINED"=some (.int 60 t1)
 t2:Tok
 o2:mg "LETTERS"=some (.str "abcdefghijklmnopqrstuvwxyz" t2)
 t3:Tok
 o3:mg "FIGURES"=some (.str "0123456789" t3)
 t4:Zx
 o4:mg "KEPT_WORDS"=some (.ref t4)
 r4:∀H:Hp,SqT K H t4 [V.str "def",V.str "fn",V.str "call",V.str "let",V.str "rec",V.str "get",V.str "tag",V.str "case",V.str "row",V.str "at",V.str "join",V.str "size",V.str "add",V.str "sub",V.str "less"]
 t5:Tok
 o5:mg "MOST_FIGURES"=some (.int 60 t5)
 t6:Tok
 o6:mg "MOST_SIGNS"=some (.int 12 t6)
 t7:Tok
 o7:mg "MOST_DEFINITIONS"=some (.int 12 t7)
 t8:Tok
 o8:mg "MOST_FIELDS"=some (.int 6 t8)
 t9:Tok
 o9:mg "MOST_ARMS"=some (.int 6 t9)
 t10:Tok
 o10:mg "MOST_THINGS"=some (.int 8 t10)
 t11:Tok
 o11:mg "MOST_PLACES"=some (.int 160 t11)
 t12:Tok
 o12:mg "MOST_NEST"=some (.int 24 t12)
 d1:Fx K mg "parts_of" qK ["row"]
 d2:Fx K mg "places_in" oR ["row"]
 d3:Fx K mg "flat" BZ ["parts"]
 d4:Fx K mg "first_parts" mS ["row"]
 d5:Fx K mg "held_value" nQ ["scope","place"]
 d6:Fx K mg "work_num" qL ["machine","row","place","scope","parts"]
 d7:Fx K mg "work_name" oS ["machine","row","place","scope","parts"]
 d8:Fx K mg "work_fn" sO ["machine","row","place","scope","parts"]
 d9:Fx K mg "work_call" oT ["machine","row","place","scope","parts"]
 d10:Fx K mg "work_let" qM ["machine","row","place","scope","parts"]
 d11:Fx K mg "work_rec" qN ["machine","row","place","scope","parts"]
 d12:Fx K mg "work_get" qO ["machine","row","place","scope","parts"]
 d13:Fx K mg "work_tag" qP ["machine","row","place","scope","parts"]
 d14:Fx K mg "work_case" oU ["machine","row","place","scope","parts"]
 d15:Fx K mg "work_row" qQ ["machine","row","place","scope","parts"]
 d16:Fx K mg "work_at" sP ["machine","row","place","scope","parts"]
 d17:Fx K mg "work_join" oW ["machine","row","place","scope","parts"]
 d18:Fx K mg "work_size" oX ["machine","row","place","scope","parts"]
 d19:Fx K mg "work_add" qR ["machine","row","place","scope","parts"]
 d20:Fx K mg "work_sub" qS ["machine","row","place","scope","parts"]
 d21:Fx K mg "work_less" oY ["machine","row","place","scope","parts"]
 d22:Fx K mg "run" FZ ["program","homes","turns"]
 d23:Fx K mg "words_of" qT ["text"]
 d24:Fx K mg "is_name" sQ ["word"]
 d25:Fx K mg "is_number" oZ ["word"]
 d26:Fx K mg "made_of" sR ["word","signs"]
 d27:Fx K mg "read" B0 ["text"]
 d28:Fx K mg "check_count" mU ["what","count","least","most"]
 d29:Fx K mg "homes_of" qU ["program"]
 d30:Fx K mg "refuse_twice" mF ["words"]
 d31:Fx K mg "words_once" nR ["row"]
 d32:Fx K mg "home_of" sS ["row","place","scope"]
 d33:Fx K mg "root_scopes" mV ["program"]
 d34:Fx K mg "inner_scopes" mG ["row","scope"]
 d35:Fx K mg "widened" sU ["scope","name","home"]
 d36:Fx K mg "_law_stem" ph ["_law_cell","_law_size"]
 d37:Fx K mg "_law_words" nS ["_law_cell"]
 d38:Fx K mg "_law_leaf" pj ["_law_word","_law_weight","_law_shape","_law_more"]
 d39:Fx K mg "_law_node" pk ["_law_words_here","_law_parts","_law_shape","_law_more"]
 d40:Fx K mg "_law_held" pA ["_law_item","_law_var"]
 d41:Fx K mg "_law_let" qV ["_law_words_here","_law_var","_law_bound","_law_body"]
 d42:Fx K mg "_law_pop" qW ["_law_stack"]
 d43:Fx K mg "_law_number" mW ["_law_arg"]
 d44:Fx K mg "_law_by_shape" lV ["_law_words_here","_law_item","_law_arg"]
 d45:Fx K mg "_law_odd" qX ["_law_words_here","_law_item","_law_arg","_law_below"]
 d46:Fx K mg "_law_pair" pB ["_law_words_here","_law_op","_law_arg","_law_below","_law_item"]
 d47:Fx K mg "_law_single" mX ["_law_words_here","_law_op","_law_arg","_law_item"]
 d48:Fx K mg "_law_step" pE ["_law_words_here","_law_stack","_law_made","_law_c","_law_done"]
 d49:Fx K mg "_law_ended" nT ["_law_words_here","_law_item","_law_arg"]
 d50:Fx K mg "_law_program" mH ["_law_script"]
 d51:Fx K mg "_law_whole" nU ["_law_x"]
 d52:Fx K mg "_law_two_wholes" kT ["_law_x"]
 d53:Fx K mg "_law_within" mY ["_law_row"]
 d54:Fx K mg "_law_makes" nV ["_law_row"]
 d55:Fx K mg "_law_fits" pG ["_law_rows","_law_place","_law_parts"]
 d56:Fx K mg "_law_met" qY ["_law_row","_law_place","_law_parts"]
 d57:Fx K mg "_law_named" nX ["_law_program_here","_law_homes","_law_stack","_law_there","_law_pair_here"]
 d58:Fx K mg "_law_come" pH ["_law_program_here","_law_homes","_law_stack","_law_there","_law_pair_here"]
 c1:Ek K mg "FlowError"
 c2:Ek K mg "BadText"
 c3:Ek K mg "Twice"
 c4:Ek K mg "NoName"
 c5:Ck K mg "Machine"
 n5program:iU K c5.a "program"
 n5homes:iU K c5.a "homes"
 n5turns:iU K c5.a "turns"
 n5begun:iU K c5.a "begun"
 n5end:iU K c5.a "end"
 n5meets:iU K c5.a "meets"
 n5had:iU K c5.a "had"
 n5defined:iU K c5.a "defined"
 n5steps:iU K c5.a "steps"
 n5ready:iU K c5.a "ready"
 e59:Mx K c5.a "__init__" "Machine.__init__" ky ["self","program","homes","turns"]
 mk5:Mk K c5.a e59.a
 e60:Mx K c5.a "work_program" "Machine.work_program" jx ["self"]
 e61:Mx K c5.a "work_steps" "Machine.work_steps" jM ["self"]
 e62:Mx K c5.a "begin" "Machine.begin" lW ["self","place","scope"]
 e63:Mx K c5.a "work_parts" "Machine.work_parts" jN ["self","place","scope"]
 e64:Mx K c5.a "take_ready" "Machine.take_ready" jO ["self","count"]
 e65:Mx K c5.a "finish" "Machine.finish" lM ["self","place","value"]
 e66:Mx K c5.a "go_into" "Machine.go_into" kU ["self","body","scope","place"]
 e67:Mx K c5.a "comes" "Machine.comes" lX ["self","value","place","slot","fits"]
 e68:Mx K c5.a "comes_as" "Machine.comes_as" kz ["self","shape","value","place","slot"]
 e69:Mx K c5.a "both_come_as" "Machine.both_come_as" jz ["self","shape","parts","place"]
 c6:Ck K mg "Run"
 n6end:iU K c6.a "end"
 n6value:iU K c6.a "value"
 n6meets:iU K c6.a "meets"
 n6had:iU K c6.a "had"
 n6begun:iU K c6.a "begun"
 e70:Mx K c6.a "__init__" "Run.__init__" mI ["self","end","value","meets","had","begun"]
 mk6:Mk K c6.a e70.a
 c7:Ck K mg "Program"
 n7names:iU K c7.a "names"
 n7roots:iU K c7.a "roots"
 n7rows:iU K c7.a "rows"
 e71:Mx K c7.a "__init__" "Program.__init__" kC ["self","names","roots","rows"]
 mk7:Mk K c7.a e71.a
 c8:Ck K mg "Reader"
 n8words:iU K c8.a "words"
 n8taken:iU K c8.a "taken"
 n8rows:iU K c8.a "rows"
 e72:Mx K c8.a "__init__" "Reader.__init__" kW ["self","words"]
 mk8:Mk K c8.a e72.a
 e73:Mx K c8.a "ahead" "Reader.ahead" mJ ["self"]
 e74:Mx K c8.a "take" "Reader.take" mZ ["self"]
 e75:Mx K c8.a "pass_over" "Reader.pass_over" kE ["self","wanted"]
 e76:Mx K c8.a "take_name" "Reader.take_name" kF ["self"]
 e77:Mx K c8.a "take_expr" "Reader.take_expr" kG ["self","depth"]
 e78:Mx K c8.a "take_row" "Reader.take_row" kX ["self","depth"]
 e79:Mx K c8.a "take_form" "Reader.take_form" kH ["self","head","depth"]
 e80:Mx K c8.a "take_steady" "Reader.take_steady" jP ["self","parts","depth"]
 e81:Mx K c8.a "take_fields" "Reader.take_fields" jQ ["self","depth"]
 e82:Mx K c8.a "take_arms" "Reader.take_arms" kI ["self","depth"]
 e83:Mx K c8.a "take_things" "Reader.take_things" jR ["self","depth"]
 v1:dR K (.ref c6.a) (.ref c6.a)=some true
 z_ValueError:mg "ValueError"=none
 z_all:mg "all"=none
 z_bool:mg "bool"=none
 z_dict:mg "dict"=none
 z_enumerate:mg "enumerate"=none
 z_int:mg "int"=none
 z_isinstance:mg "isinstance"=none
 z_len:mg "len"=none
 z_list:mg "list"=none
 z_max:mg "max"=none
 z_range:mg "range"=none
 z_reversed:mg "reversed"=none
 z_str:mg "str"=none
 z_sum:mg "sum"=none
 z_tuple:mg "tuple"=none
 z_zip:mg "zip"=none
def yj:gE ["row"] ["row"] (gx qK):=scK
def xg:gE ["row"] ["row"] (gx oR):=scK
def vH:gE ["parts","found","part"] ["parts"] (gx BZ):=scK
def ud:gE ["row"] ["row"] (gx mS):=scK
def nh:gE ["scope","place","around"] ["scope","place"] (gx nQ):=scK
def yk:gE ["machine","row","place","scope","parts"] ["machine","row","place","scope","parts"] (gx qL):=scK
def rC:gE ["machine","row","place","scope","parts","home"] ["machine","row","place","scope","parts"] (gx oS):=scK
def AA:gE ["machine","row","place","scope","parts"] ["machine","row","place","scope","parts"] (gx sO):=scK
def rD:gE ["machine","row","place","scope","parts","called"] ["machine","row","place","scope","parts"] (gx oT):=scK
def yl:gE ["machine","row","place","scope","parts"] ["machine","row","place","scope","parts"] (gx qM):=scK
def sV:gE ["machine","row","place","scope","parts","fields"] ["machine","row","place","scope","parts"] (gx qN):=scK
def sX:gE ["machine","row","place","scope","parts","fields"] ["machine","row","place","scope","parts"] (gx qO):=scK
def ym:gE ["machine","row","place","scope","parts"] ["machine","row","place","scope","parts"] (gx qP):=scK
def my:gE ["machine","row","place","scope","parts","bodies","tagged","body"] ["machine","row","place","scope","parts"] (gx oU):=scK
def yn:gE ["machine","row","place","scope","parts"] ["machine","row","place","scope","parts"] (gx qQ):=scK
def rb:gE ["machine","row","place","scope","parts","things","index"] ["machine","row","place","scope","parts"] (gx sP):=scK
def rE:gE ["machine","row","place","scope","parts","things"] ["machine","row","place","scope","parts"] (gx oW):=scK
def xh:gE ["machine","row","place","scope","parts"] ["machine","row","place","scope","parts"] (gx oX):=scK
def yo:gE ["machine","row","place","scope","parts"] ["machine","row","place","scope","parts"] (gx qR):=scK
def yp:gE ["machine","row","place","scope","parts"] ["machine","row","place","scope","parts"] (gx qS):=scK
def rF:gE ["machine","row","place","scope","parts","word"] ["machine","row","place","scope","parts"] (gx oY):=scK
def B1:gE ["program","homes","turns","machine","value"] ["program","homes","turns"] (gx FZ):=scK
def sY:gE ["text","spaced"] ["text"] (gx qT):=scK
def AB:gE ["word"] ["word"] (gx sQ):=scK
def xk:gE ["word"] ["word"] (gx oZ):=scK
def AD:gE ["word","signs"] ["word","signs"] (gx sR):=scK
def vI:gE ["text","reader","names","roots"] ["text"] (gx B0):=scK
def uf:gE ["what","count","least","most"] ["what","count","least","most"] (gx mU):=scK
def kY:gE ["program","scopes","homes","place","row","scope"] ["program"] (gx qU):=scK
def lY:gE ["words","seen","word"] ["words"] (gx mF):=scK
def vJ:gE ["row"] ["row"] (gx nR):=scK
def AE:gE ["row","place","scope"] ["row","place","scope"] (gx sS):=scK
def iQ:gE ["program","scopes","earlier","number","name","root","later"] ["program"] (gx mV):=scK
def kJ:gE ["row","scope","scopes","place","arm"] ["row","scope"] (gx mG):=scK
def uL:gE ["scope","name","home","wider"] ["scope","name","home"] (gx sU):=scK
def jb:gE ["_law_cell","_law_size","_law_signs","_law_stem_here","_law_k","_law_many"] ["_law_cell","_law_size"] (gx ph):=scK
def iD:gE ["_law_cell","_law_size","_law_words_here","_law_stem_here","_law_at","_law_k","_law_word","_law_part"] ["_law_cell"] (gx nS):=scK
def xm:gE ["_law_word","_law_weight","_law_shape","_law_more"] ["_law_word","_law_weight","_law_shape","_law_more"] (gx pj):=scK
def hZ:gE ["_law_words_here","_law_parts","_law_shape","_law_more","_law_texts","_law_nest","_law_weight","_law_many","_law_own","_law_places","_law_at","_law_word","_law_part"] ["_law_words_here","_law_parts","_law_shape","_law_more"] (gx pk):=scK
def rG:gE ["_law_item","_law_var","_law_many"] ["_law_item","_law_var"] (gx pA):=scK
def pI:gE ["_law_words_here","_law_var","_law_bound","_law_body","_law_item","_law_times"] ["_law_words_here","_law_var","_law_bound","_law_body"] (gx qV):=scK
def yq:gE ["_law_stack"] ["_law_stack"] (gx qW):=scK
def oJ:gE ["_law_arg","_law_most"] ["_law_arg"] (gx mW):=scK
def ju:gE ["_law_words_here","_law_item","_law_arg","_law_zero","_law_arm","_law_heads"] ["_law_words_here","_law_item","_law_arg"] (gx lV):=scK
def sZ:gE ["_law_words_here","_law_item","_law_arg","_law_below","_law_first"] ["_law_words_here","_law_item","_law_arg","_law_below"] (gx qX):=scK
def rH:gE ["_law_words_here","_law_op","_law_arg","_law_below","_law_item","_law_word"] ["_law_words_here","_law_op","_law_arg","_law_below","_law_item"] (gx pB):=scK
def oK:gE ["_law_words_here","_law_op","_law_arg","_law_item","_law_inner"] ["_law_words_here","_law_op","_law_arg","_law_item"] (gx mX):=scK
def iI:gE ["_law_words_here","_law_stack","_law_made","_law_c","_law_done","_law_op","_law_arg","_law_new","_law_told","_law_item"] ["_law_words_here","_law_stack","_law_made","_law_c","_law_done"] (gx pE):=scK
def iZ:gE ["_law_words_here","_law_item","_law_arg","_law_var","_law_choice","_law_shape","_law_given"] ["_law_words_here","_law_item","_law_arg"] (gx nT):=scK
def hX:gE ["_law_script","_law_words_here","_law_stack","_law_made","_law_texts","_law_done","_law_cell","_law_c","_law_item"] ["_law_script"] (gx mH):=scK
def vK:gE ["_law_x"] ["_law_x"] (gx nU):=scK
def qh:gE ["_law_x"] ["_law_x"] (gx kT):=scK
def ug:gE ["_law_row"] ["_law_row"] (gx mY):=scK
def vL:gE ["_law_row"] ["_law_row"] (gx nV):=scK
def kj:gE ["_law_rows","_law_place","_law_parts","_law_row","_law_made","_law_tags","_law_found"] ["_law_rows","_law_place","_law_parts"] (gx pG):=scK
def kg:gE ["_law_row","_law_place","_law_parts","_law_met_here","_law_part"] ["_law_row","_law_place","_law_parts"] (gx qY):=scK
def qi:gE ["_law_program_here","_law_homes","_law_stack","_law_there","_law_pair_here","_law_home"] ["_law_program_here","_law_homes","_law_stack","_law_there","_law_pair_here"] (gx nX):=scK
def lD:gE ["_law_program_here","_law_homes","_law_stack","_law_there","_law_pair_here","_law_row","_law_wanted","_law_many","_law_parts"] ["_law_program_here","_law_homes","_law_stack","_law_there","_law_pair_here"] (gx pH):=scK
def nY:gE ["_law_script","_law_program_here","_law_homes","_law_found","_law_stack","_law_there","_law_pair_here","_law_met_here","_law_part"] ["_law_script"] (gx vG):=scK
def AF:gE ["self","word"] ["self","word"] (gx rR):=scK
def zE:gE ["self","word","place"] ["self","word","place"] (gx qZ):=scK
def pJ:gE ["self","program","homes","turns"] ["self","program","homes","turns"] (gx ky):=scK
def kK:gE ["self","root"] ["self"] (gx jx):=scK
def lE:gE ["self","step"] ["self"] (gx jM):=scK
def nC:gE ["self","place","scope","part"] ["self","place","scope"] (gx lW):=scK
def lF:gE ["self","place","scope","row"] ["self","place","scope"] (gx jN):=scK
def jH:gE ["self","count","taken","number"] ["self","count"] (gx jO):=scK
def rf:gE ["self","place","value"] ["self","place","value"] (gx lM):=scK
def qj:gE ["self","body","scope","place"] ["self","body","scope","place"] (gx kU):=scK
def rS:gE ["self","value","place","slot","fits"] ["self","value","place","slot","fits"] (gx lX):=scK
def pK:gE ["self","shape","value","place","slot"] ["self","shape","value","place","slot"] (gx kz):=scK
def nj:gE ["self","shape","parts","place"] ["self","shape","parts","place"] (gx jz):=scK
def tj:gE ["self","end","value","meets","had","begun"] ["self","end","value","meets","had","begun"] (gx mI):=scK
def pL:gE ["self","names","roots","rows"] ["self","names","roots","rows"] (gx kC):=scK
def qk:gE ["self","words"] ["self","words"] (gx kW):=scK
def tm:gE ["self"] ["self"] (gx mJ):=scK
def oM:gE ["self","word"] ["self"] (gx mZ):=scK
def lZ:gE ["self","wanted","word"] ["self","wanted"] (gx kE):=scK
def l4:gE ["self","word"] ["self"] (gx kF):=scK
def kh:gE ["self","depth","place"] ["self","depth"] (gx kG):=scK
def kM:gE ["self","depth","word","row"] ["self","depth"] (gx kX):=scK
def ma:gE ["self","head","depth","subject"] ["self","head","depth"] (gx kH):=scK
def jI:gE ["self","parts","depth","found","part"] ["self","parts","depth"] (gx jP):=scK
def lG:gE ["self","depth","found"] ["self","depth"] (gx jQ):=scK
def mf:gE ["self","depth","found"] ["self","depth"] (gx kI):=scK
def lH:gE ["self","depth","found"] ["self","depth"] (gx jR):=scK
def zF (K:Zp):Sp:=fun c H Q _=>∃(a:Zx) (b:List Int),c=[.ref a]/\SqL K H a (b.map V.int)/\b.length<=63/\∀d,Q (.bl true) d
def _root_.L2.Internal.Fun.rd {P:Zu} {w:Zv} {base:Zt} {f:Zx} {fd:Zs} {N:Zd} {k:Nat} {sp:Sp} (F:Fun K n q st f fd) (S:gE N ps (gx st)) (hbody:∀(cdv:Zz) (A:Zw) (outer:List Env) (s:Zy) (H:Hp) (vs:List V) (Q:VK) (E:XK),nM k (A.deeper (PyProof.Rows.envOfC q (gx st) s.heap.objs.size f cdv))->sp vs H Q E->∃t,PSs (Dq CX0 P w K mg base N q (gx st) f cdv A outer s H E).nox (lK st) t/\t {nx:=fun _ H'=>Q .non H',rt:=Q} (rP N vs) H) (len:∀vs H Q E,sp vs H Q E->vs.length=ps.length:=by intro _ _ _ _ h;repeat(first|(obtain⟨rfl,_⟩:=h;rfl)|(cases h;first|(subst_vars;rfl)|rename_i h))):uC P w K mg base CX0 (k+ 1) f fd ps sp:=F.ok S len hbody
section
variable {X:Cx}
def pF {e:Zr} {es:List Zr} {p:Pos} {k:Nat} {sp:Sp} {t:TA} (x:Fx X.K X.mg n st ps) (F:uC X.prog X.w X.K X.mg X.base CX0 k x.a x.fd ps sp) (hr:nM k X.A) (ha:PA X (e::es) t) (hg:Gl X n:=by exact rfl) (hdb:autoParam ((n==("__debug__":Str))=false) L2.Internal.auD._auto_1) (he:autoParam (Mj (e::es) X.env=(false,eval e X.env)::Mj es X.env) L2.Internal.auR._auto_1) (hpl:autoParam ((MK pos (Mj es X.env)).any (·.1)=false) L2.Internal.auR._auto_1):PE X (.Call (.Name n p) (e::es) [] pos) (Dz sp [] E0 t):=Fw F hr hg x.m x.k x.b .nil ik ha hdb he hpl
def pS {i:Nat} {x:Str} {e:Zr} {te:TE} {pos':Pos} (hN:X.N.Nodup) (he:PE X e te) (hi:autoParam (X.N[i]?=some x) L2.Internal.auR._auto_1) (hx:Loc X.env.scope x:=by first|exact .inl rfl|exact .inr rfl) (hs:autoParam (ND e (some (.Name x pos')) pos.line X.env=pure false) L2.Internal.auR._auto_1) (hf:autoParam (X.fn x=true\/X.env.scope.names.lookup x=some .local) L2.Internal.auL._auto_1):PS X (.Assign [.Name x pos'] e pos) (Dp te (gU i)):=Hw hN hi hx he hs hf
def pN {i:Nat} {x:Str} (hN:X.N.Nodup) (hi:autoParam (X.N[i]?=some x) L2.Internal.auR._auto_1) (hx:Loc X.env.scope x:=by first|exact .inl rfl|exact .inr rfl) (hf:autoParam (X.fn x=true\/X.env.scope.names.lookup x=some .local) L2.Internal.auL._auto_1):PG X (.Name x pos) (gU i):=xW hN hi hx hf
def Hj {x:Str} (ns:Zd) (cap:List (Str×Nat×Zx)) (hns:autoParam (cap.map (·.1)=ns) L2.Internal.auR._auto_1) (hk:autoParam (scope.kind= .function) L2.Internal.auR._auto_1) (hn:∀p∈scope.names,p.2≠ .cell/\(p.2= .free->p.1∈ns):=by decide+kernel) (hl:∀y∈scope.names,y.2= .local->scope.names.lookup y.1=some .local:=by decide+kernel)
  (hx:autoParam (scope.names.lookup x=some .local) L2.Internal.auR._auto_1) (hnd:(x::ns).Nodup:=by decide+kernel) (hc:autoParam (Nt scope X.env=pure (cap.map fun p=>(p.1,p.2.2))) L2.Internal.auR._auto_1) (hok:autoParam (X.env.scope.kind= .function) L2.Internal.auR._auto_1)
  (h:∀p∈cap,scope.names.lookup p.1=some .free/\X.env.cells.lookup p.1=some p.2.2/\X.env.scope.names.lookup p.1=some .cell/\X.N[p.2.1]?=some p.1:=by repeat(first|refine bX.mpr ⟨⟨rfl,rfl,rfl,rfl⟩,?_⟩|exact fun _ h=>absurd h bI)):
  qF X (x::ns) scope (cap.map fun p=>(p.1,p.2.2)) (fun σ=>none::cap.map fun p=>σ.getD p.2.1 none) 0 x:=blkC ns cap hns hk hn hl hx hnd hc hok h
def blkD2 {x y:Str} (ns:Zd) (cap:List (Str×Nat×Zx)) (hns:autoParam (cap.map (·.1)=ns) L2.Internal.auR._auto_1) (hk:autoParam (scope.kind= .function) L2.Internal.auR._auto_1) (hn:∀p∈scope.names,p.2≠ .cell/\(p.2= .free->p.1∈ns):=by decide+kernel) (hl:∀y∈scope.names,y.2= .local->scope.names.lookup y.1=some .local:=by decide+kernel)
  (hx:autoParam (scope.names.lookup x=some .local) L2.Internal.auR._auto_1) (hnd:(x::y::ns).Nodup:=by decide+kernel) (hc:autoParam (Nt scope X.env=pure (cap.map fun p=>(p.1,p.2.2))) L2.Internal.auR._auto_1) (hok:autoParam (X.env.scope.kind= .function) L2.Internal.auR._auto_1)
  (h:∀p∈cap,scope.names.lookup p.1=some .free/\X.env.cells.lookup p.1=some p.2.2/\X.env.scope.names.lookup p.1=some .cell/\X.N[p.2.1]?=some p.1:=by repeat(first|refine bX.mpr ⟨⟨rfl,rfl,rfl,rfl⟩,?_⟩|exact fun _ h=>absurd h bI)):
  qF X (x::y::ns) scope (cap.map fun p=>(p.1,p.2.2)) (fun σ=>none::none::cap.map fun p=>σ.getD p.2.1 none) 0 x:=Kr ns cap hns hk hn hl hx hnd hc hok h
def pgP{ns:Zd} (f:X.calm=true) (nd:(x::y::ns).Nodup) (d:scope.names.lookup x=some .local) (c:scope.names.lookup y=some .local) (C:Zx) (a:Zy) (b:Hp) (g:List Zx) (e:Za):PG (blk X (x::y::ns) scope cl C a b g e) (.Tuple [.Name x px,.Name y py] kk tp) (JK X.K 2 (xX (gU 0) (xX (gU 1) JJ))):=
 A3 f (ou (xW nd rfl (.inl (MN d)) (.inr (MN d))) (ou (xW nd rfl (.inl (MN c)) (.inr (MN c))) xY))
end
end K68.Internal
namespace K68.Internal
variable {H:Hp}
open PySem L2.Internal GR.Internal
def tq:Sp:=fun b H Q _=>∃x,b=[.str x]/\x.length<=30000/\∀p a,gJ H a->H p=none->a p=some (.lst (wordsV x.cps.toList))->Q (.ref p) a
abbrev r1 (x:Str):Str:=Txt.replace x "(" " ( "
abbrev r2 (x:Str):Str:=Txt.replace (r1 x) ")" " ) "
abbrev r3 (x:Str):Str:=Txt.replace (r2 x) "\n" " "
def c1 (x:Str):(r1 x).cps.toList=T1.sub 40 [32,40,32] x.cps.toList:=T1.replace_codes x " ( " 40
def c2 (x:Str):(r2 x).cps.toList=T1.sub 41 [32,41,32] (T1.sub 40 [32,40,32] x.cps.toList):=by rw[<-c1];exact T1.replace_codes (r1 x) " ) " 41
def c3 (x:Str):(r3 x).cps.toList=T1.spaced x.cps.toList:=by rw[<-T1.spaced_sub,<-c2];exact T1.replace_codes (r2 x) " " 10
def yr (c:Nat) (z:List Nat) (n:Nat) (a:1<=n) (h:z.length<=n) (l:List Nat):(T1.sub c z l).length<=n*l.length:=T1.flat_len _ n (fun k=>by split;exact h;exact a) l
def l1 (x:Str):(r1 x).length<=3*x.length:=by rw[<-T1.len_codes,<-T1.len_codes,c1];exact yr _ _ 3 O3 O3 _
def l2 (x:Str):(r2 x).length<=9*x.length:=by
 have h:=l1 x;have e:(r2 x).length<=3*(r1 x).length:=by rw[<-T1.len_codes,<-T1.len_codes,c2,c1];exact yr _ _ 3 O3 O3 _
 lia
def l3 (x:Str):(r3 x).length<=9*x.length:=by
 have h:=l2 x;have e:(r3 x).length<=1*(r2 x).length:=by rw[<-T1.len_codes,<-T1.len_codes];have a:(r3 x).cps.toList=T1.sub 10 [32] (r2 x).cps.toList:=T1.replace_codes (r2 x) " " 10;rw[a];exact yr _ _ 1 O3 O3 _
 lia
def ne0:V->Bool:=fun v=>!decide (v=V.str "")
def yt (x:Str):(((MS (r3 x) " ").map V.str).filter ne0).map id=wordsV x.cps.toList:=by
 have e:=T1.split_codes (r3 x) 32;rw[c3]at e;have d:T1.all (T1.W x.cps.toList)=((MS (r3 x) ⟨#[32]⟩).map (·.cps.toList)).filter fun p=>decide (p≠[]):=by rw[e,T1.words_cut];rfl
 unfold wordsV;rw[d,List.map_id,List.filter_map,List.filter_map,bH];show((MS (r3 x) ⟨#[32]⟩).filter (ne0∘V.str)).map V.str=_;have c:(ne0∘V.str)=((fun p=>decide (p≠[]))∘fun y=>y.cps.toList):=by
  funext y;show(!decide (V.str y=V.str ""))=decide (y.cps.toList≠[]);by_cases h:y=("":Str);·subst h;rfl
  ·have b:¬V.str y=V.str "":=fun z=>h (by injection z);have a:y.cps.toList≠[]:=fun z=>h (T1.str_ext z);rw[hV b,gT a];rfl
 rw[c];refine bY fun y _=>?_;show V.str y=V.str ⟨y.cps.toList.toArray⟩;rw[Array.toArray_toList]
def yu (T:Txt K mg):FO P w base 1 T.d23 tq:=by
 refine eat T.d23.F.ex fun X W Y N U an O ct J=>fae fun d B m=>?_;rw[d]at B;show uC P w K mg base CX0 1 _ T.d23.fd _ _;rw[d];refine HV B m sY gL (fun n=>rfl) (fun I H Q E h=>?_) (fun A j s H I Q E hr h=>?_);·refine eaa h fun x g _=>?_;subst g;rfl
 refine eak h fun x g Z q=>?_;subst g;refine⟨_,Hg.nox (DQ (i:=1) sY.nd rfl (.inl rfl) (vi (vi (vi (PE.one (pv 0)) gL) gL) gL)
  (f9 (gC (qG rfl (DM rfl gL gL rfl rfl) (ke (jG eR PySem.F.slot_str_split PySem.F.type_str_split DP (pv 1) (fV gh fY))) (fun _ _ _ _ _=>(yg (jD oP (pv 0) gh))) (fun _ _ _ _ _=>(pv 0)))))),?_⟩;have h1:=l1 x;have h2:=l2 x;have h3:=l3 x;have F:(" ( ":Str).length=3:=gL;have f:(" ) ":Str).length=3:=gL;have G:(" ":Str).length=1:=gL;refine⟨_,rfl,x,rfl,(by rw[F];lia),r1 x,rfl,(by rw[f];lia),r2 x,rfl,(by rw[G];lia),?_⟩;refine⟨_,rfl,rfl,r3 x," ",rfl,rfl,rfl,(by have e:=L9;lia),fun p L=>⟨p,rfl,⟨_,NT f7⟩,fun D C=>?_⟩⟩;have u:gJ H (upd H p (.lst ((MS (r3 x) " ").map V.str))):=gb L _;have hl:=sG (r3 x) " ";refine HR (xs:=(MS (r3 x) " ").map V.str) ne0 id C ?_ ?_ ?_ ?_ ?_ ?_ ?_ ?_;·rw[aE];have e:=L9;lia
 ·rfl
 ·intro k b a M;exact ii _ _ ⟨NT (a _ _ f7),bE M⟩
 ·intro k b v S a c;obtain⟨e,z⟩:=c;exact⟨e,z _ (NT (a _ _ f7))⟩
 ·intro b a;exact⟨_,NT (a _ _ f7),cJ _⟩
 ·intro k v b R c _ r;obtain⟨y,rfl⟩:∃y,v=V.str y:=by rw[aP]at c;refine eaa (dA.mp c) fun y _ e=>?_;exact⟨y,e.symm⟩
  exact⟨_,rfl,rfl,_,rfl,r⟩
 ·intro k v b R c _ _ r;exact⟨_,rfl,r⟩
 ·intro b a l;refine q D b (u.trans a) (u.free C) ?_;rw[l,yt]
def rg:Sp:=fun b H Q _=>∃x y,b=[.str x,.str y]/\x.length<=30000/\∀a,gJ H a->Q (.bl (allIn x y)) a
def AG (T:Txt K mg):FO P w base 1 T.d26 rg:=by
 refine T.d26.F.rd AD fun _ A _ s H t Q E F h=>?_;refine eap h fun x y b C q=>?_;subst b;refine⟨_,(f9 (gC (gN (DO rfl) rfl T.z_all HN (fV (qG rfl (blk1 (j:=1) rfl gL gL rfl rfl rfl rfl rfl rfl rfl) (HQ (pv 0)) (fun _ _ _ _ _=>kS) (fun _ _ _ _ _=>(iV wu (pv 0) (pv 1) rfl))) fY)))),?_⟩;refine⟨_,rfl,x,rfl,fun D o=>?_⟩;have u:=L9;have B:=T1.len_codes x;have g:x.cps.size=x.cps.toList.length:=(fq).symm;refine HR (xs:=x.cps.toList.map fun c=>V.str ⟨#[c]⟩) (fun _=>true) (fun v=>match v with| .str z=> .bl (!(NO y z 0 y.length 1).isEmpty)|_=> .non) o ?_ ?_ ?_ ?_ ?_ ?_ ?_ ?_;·rw[aE];lia
 ·rfl
 ·intro k a f m;rw[aE]at m;show k<x.cps.size;lia
 ·intro k a v p f d;refine eab d fun e=>faa fun c=>f8 fun n b=>?_;subst b;refine⟨e,?_⟩;rw[aP,ft,n];rfl
 ·intro a f;show _=x.cps.size;rw[aE];lia
 ·intro k v a R d _ r;exact r
 ·intro k v a R d _ _ r;rw[aP]at d;refine eaa (dA.mp d) fun c _ b=>?_;subst b;exact⟨_,rfl,_,rfl,_,_,rfl,rfl,r⟩
 ·intro a f i;refine ii D (x.cps.toList.map fun c=>decide (c∈y.cps.toList)) ⟨rfl,NT ?_,?_⟩;·rw[i,List.filter_eq_self.mpr (fun _ _=>rfl),bH,bH];refine congrArg (fun l=>some (HO.lst l)) (bY fun c _=>?_);show V.bl _=V.bl _;rw[StrLaws.found_one]
  ·have e:(x.cps.toList.map fun c=>decide (c∈y.cps.toList)).all id=allIn x y:=by rw[bC];rfl
   rw[e];exact q a f
def oA:Sp:=fun b H Q _=>∃x,b=[.str x]/\x.length<=30000/\∀a,gJ H a->Q (.bl (isName x)) a
def AH (T:Txt K mg) (d:FO P w base 1 T.d26 rg):FO P w base 2 T.d24 oA:=by
 refine T.d24.F.rd AB fun _ A _ s H B Q E t h=>?_;refine eak h fun x o D q=>?_;subst o;refine HzX ?_;intro _;refine⟨_,(fW (gM (PW.pt (rO (mM (oy tX tX fX (gN rq rfl T.z_len iN (fV (pv 0) fY)) (vg rfl T.o6))) (qc (jD iO (pv 0) (DL rfl T.o4) rfl))))
   (f9 (gC qa))
   gA)
  (f9 (gC (nB (iV wu (gk Bt (pv 0) fX) (DJ rfl T.o2) rfl) (nA (pF T.d26 d t.m (fV (pv 0) (fV (gP uw (DJ rfl T.o2) (DJ rfl T.o3)) fY)))))))),?_⟩;have C:=L9;refine⟨_,rfl,x,rfl,O2,_,_,rfl,rfl,_,rfl,?_⟩;refine Kg (fun i=>?_) (fun i=>?_)
 ·have f:1<=x.length:=by have z:=of_decide_eq_true i;lia
  refine ii _ _ ⟨rfl,rfl,_,rfl,?_⟩;by_cases n:x.length<=12
  ·rw[gT O2];refine ij ⟨_,rfl,T.t4,KWV,rfl,.inr (T.r4 H),rfl,rfl,_,rfl,?_⟩;cases k:inV (.str x) KWV with
   |true=>
    refine iK ?_;have e:isName x=false:=by unfold isName;rw[k];simp
    rw[<-e];exact q H (gJ.refl H)
   |false=>
    refine ij ?_;refine eaq (first_of f) fun c r l=>?_;refine⟨_,rfl,x,_,c,rfl,rfl,O2,by rw[l];exact at0,_,_,rfl,rfl,_,rfl,?_⟩;have u:(!(NO ("abcdefghijklmnopqrstuvwxyz":Str) ⟨#[c]⟩ 0 ("abcdefghijklmnopqrstuvwxyz":Str).length 1).isEmpty)=firstIn x SM:=by rw[StrLaws.found_one];unfold firstIn;rw[l];rfl
    rw[u]
    cases m:firstIn x SM with
    |false=>
     refine ij ?_;have e:isName x=false:=by unfold isName;rw[m];simp
     rw[<-e];exact q H (gJ.refl H)
    |true=>
     refine iK ⟨_,rfl,_,_,rfl,rfl,?_,_,_,rfl,?_,fun y p=>?_⟩;·exact cF (show(26:Nat)+ 10<=100 by decide) (sz (cJ _)|>cF O3)
     ·lia
     ·have e:isName x=allIn x (SM++FG):=by unfold isName;rw[m,k,gT f,gT n];rfl
      have j:=q y p;rw[e]at j;exact j
  ·rw[hV O2];refine iK ?_;have e:isName x=false:=by unfold isName;rw[hV n];simp
   refine iK ?_;rw[<-e];exact q H (gJ.refl H)
 ·have f:¬1<=x.length:=by intro z;exact i (gT O2)
  refine⟨_,rfl,iK ?_⟩;refine iK ?_;have e:isName x=false:=by unfold isName;rw[hV f];simp
  rw[<-e];exact q H (gJ.refl H)
def nZ:Sp:=fun b H Q _=>∃x,b=[.str x]/\x.length<=30000/\∀a,gJ H a->Q (.bl (nH x)) a
def xn (T:Txt K mg) (f:FO P w base 1 T.d26 rg):FO P w base 2 T.d25 nZ:=by
 refine T.d25.F.rd xk fun _ A _ s H B Q E u h=>?_;refine eak h fun x p t q=>?_;subst p;refine HzX ?_;intro _;refine⟨_,(fW (gM (PW.pt (rO (mM (oy tX tX fX (gN rq rfl T.z_len iN (fV (pv 0) fY)) (vg rfl T.o5))) (qc (mM (jC (pF T.d26 f u.m (fV (pv 0) (fV (DJ rfl T.o3) fY))))))))
   (f9 (gC qa))
   gA)
  (f9 (gC (Hu (iV oP (gk Bt (pv 0) fX) gh) (nA (iV uZ (pv 0) gh)))))),?_⟩;have C:=L9;refine⟨_,rfl,x,rfl,O2,_,_,rfl,rfl,_,rfl,?_⟩;refine Kg (fun l=>?_) (fun l=>?_)
 ·have b:1<=x.length:=by have z:=of_decide_eq_true l;lia
  refine ii _ _ ⟨rfl,rfl,_,rfl,?_⟩;by_cases k:x.length<=60
  ·rw[gT O2];refine ij ⟨_,rfl,x,_,rfl,t,fun m i=>⟨_,rfl,?_⟩⟩;show if(!allIn x FG)=true then _ else _
   cases j:allIn x FG with
   |false=>
    refine iK ?_;have e:nH x=false:=by unfold nH;rw[j];simp
    rw[<-e];exact q m i
   |true=>
    refine ij ?_;refine eaq (first_of b) fun c r n=>?_;refine⟨_,rfl,x,_,c,rfl,rfl,O2,by rw[n];exact at0,rfl,_,rfl,?_⟩;have v:sM x=(c==48):=by unfold sM;rw[n]
    rw[FX,<-v]
    cases o:sM x with
    |false=>
     refine iK ?_;have e:nH x=true:=by unfold nH;rw[j,o,gT b,gT k];rfl
     rw[<-e];exact q m i
    |true=>
     refine ij ⟨_,rfl,rfl,?_⟩;have e:nH x=decide (V.str x=V.str "0"):=by
      unfold nH;rw[j,o,gT b,gT k];by_cases h0:x="0";·subst h0;rfl
      ·have b:¬V.str x=V.str "0":=fun z=>h0 (by injection z);rw[hV h0,hV b];rfl
     rw[<-e];exact q m i
  ·rw[hV O2];refine iK ?_;have e:nH x=false:=by unfold nH;rw[hV k];simp
   refine iK ?_;rw[<-e];exact q H (gJ.refl H)
 ·have b:¬1<=x.length:=by intro z;exact l (gT O2)
  refine⟨_,rfl,iK ?_⟩;refine iK ?_;have e:nH x=false:=by unfold nH;rw[hV b];simp
  rw[<-e];exact q H (gJ.refl H)
open TM.Internal (Tr Its pw pd ptr isL okP itr iw idt szs rws sD kD)
inductive Rp (K:Zp) (C:Zx) (as:List V) (a b:Zd) (c d:List Dt) (A:Hp->V->Prop) (vs:List V) (H:Hp) (Q:VK):Prop
 |mk (p dx wl rl:Zx) (ws:Zd) (e:vs= .ref p::as) (R:RS K C H p dx wl rl ws a c) (W:WOk ws) (q:∀v H',RS K C H' p dx wl rl ws b d->K2 p rl H H'->A H' v->Q v H')
def Rp.len {C:Zx} {e:List V} {a b:Zd} {c d:List Dt} {A:Hp->V->Prop} {vs:List V} {Q:VK} (h:Rp K C e a b c d A vs H Q):vs.length=e.length+ 1:=by obtain⟨_,_,_,_,_,rfl,_⟩:=h;rfl
def mB (C:Zx):Sp:=fun g H Q _=>∃p f a d,g=[.ref p,.ref a]/\H p=some (.ins C f [])/\H a=some (.lst (d.map V.str))/\∀e c,H e=none->rZ C c p f a e d 0 []->(∀b o,H b=some o->b≠p->c b=some o)->Q .non c
def ql (T:Txt K mg):MO P w base mg 1 T.e72 (mB T.c8.a):=by
 refine T.e72.F.rd qk fun _ A _ s H u Q E v h=>?_;refine ead h fun p f r t=>fam fun q n i k=>?_;subst q;refine HzX ?_;intro _;refine⟨_,(fW (js (pv 0) (pv 1) rfl)
  (fW (js (pv 0) fX rfl)
  (f9 (js (pv 0) (gG fY) rfl)))),?_⟩;refine Hz2 ?_;intros;have g:=lU i n (fun z=>nomatch z);refine⟨_,rfl,_,rfl,p,T.c8.a,f,[],rfl,n,T.c8.cl,T.n8words,(by decide),?_⟩;refine⟨_,rfl,p,T.c8.a,f,_,rfl,f7,T.c8.cl,T.n8taken,(by show 1<1000;decide),?_⟩;refine⟨p7,fun m a=>?_⟩;have c:=gv f7 a;rw[gy (Mu c),gy (Mu c)]at a;refine⟨_,rfl,p,T.c8.a,f,_,rfl,by rw[gy c];exact f7,T.c8.cl,T.n8rows,(by show 2<1000;decide),?_⟩;have d:=gv i a;refine k m _ a ⟨?_,?_,?_,d⟩ fun b o e j=>?_;·rw[f7];exact congrArg (fun l=>some (HO.ins T.c8.a f l)) (Kv r 0 m)
 ·rw[gy g,gy d,gy g,gy g];exact i
 ·rw[gy (Mu c)];exact f7
 ·rw[gy j,gy (gv e a),gy j,gy j];exact e
def iT (K:Zp) (C:Zx):Sp:=fun b H Q _=>∃r a,Rp K C [] r r a a (fun _ v=>v= .str (r.headD "")) b H Q
def tD (T:Txt K mg):MO P w base mg 1 T.e73 (iT K T.c8.a):=by
 refine T.e73.F.ok tm (fun i H Q E ⟨_,_,h⟩=>h.len) (fun _ A _ s H i Q E n h=>?_);obtain⟨r,f,p,b,e,m,d,rfl,g,W,q⟩:=h;refine HzX ?_;intro _;refine⟨_,(fW (gM (jD uZ (qe (pv 0) rfl) (gN gH rfl T.z_len iN (fV (qe (pv 0) rfl) fY)))
   (f9 (gC gh))
   gA)
  (f9 (gC (gk Bs (qe (pv 0) rfl) (qe (pv 0) rfl))))),?_⟩;have q:=q _ H g (K2.refl _ _ _) rfl;refine eaj g fun k l R j o t=>?_;rw[<-j,List.headD_eq_head?_getD,List.head?_drop]at q;refine⟨_,rfl,p,_,b,_,_,rfl,R.ob,T.c8.cl,T.n8taken,vB _ _ _,_,rfl,p,_,b,_,_,rfl,R.ob,T.c8.cl,T.n8words,zC _ _ _,e,_,rfl,.inl (NT R.wd),rfl,_,rfl,Kg (fun c=>?_) (fun c=>?_)⟩;·have z:=of_decide_eq_true c;injection z with z;rw[aE]at z;rw[bL O2]at q;exact q
 ·have a:k<d.length:=by
   by_cases z:k<d.length;·exact z
   ·refine absurd (gT ?_) c;rw[aE];exact congrArg V.int O2
  rw[bE a]at q;refine⟨_,rfl,p,_,b,_,_,rfl,R.ob,T.c8.cl,T.n8words,zC _ _ _,_,rfl,p,_,b,_,_,rfl,R.ob,T.c8.cl,T.n8taken,vB _ _ _,e,_,_,_,rfl,rfl,NT R.wd,fZ ?_,q⟩;rw[aP,bE a];rfl
def jY (K:Zp) (C:Zx):Sp:=fun b H Q _=>∃x r a,Rp K C [] (x::r) r a a (fun _ v=>v= .str x) b H Q
def uh (T:Txt K mg) (c:MO P w base mg 1 T.e73 (iT K T.c8.a)):MO P w base mg 2 T.e74 (jY K T.c8.a):=by
 refine T.e74.F.ok oM (fun n H Q E ⟨_,_,_,h⟩=>h.len) (fun _ A _ s H n Q E y h=>?_);obtain⟨x,r,j,p,d,e,b,m,rfl,f,W,q⟩:=h;refine HzX ?_;intro _;refine⟨_,(fW (pS (i:=1) oM.nd (jJ (pv 0) T.c8.cl T.e73.me c y.m T.e73.b .nil ik))
  (fW (gM (jD uZ (pv 1) gh)
   (f9 lA)
   gA)
  (fW (wz (pv 0) fX Eo)
  (f9 (gC (pv 1)))))),?_⟩;refine Hz3 ?_;intros;obtain⟨J,D⟩:=f.ob;refine⟨_,rfl,p,d,_,rfl,D,iM _ _ _ _ (.inl rfl),?_⟩;refine tn0 ⟨_,_,p,d,e,b,m,rfl,f,W,?_⟩;rintro _ g G u rfl;have v:=(W.one x (f.mem x (aj ..))).1;refine eaj G fun k o R C L B=>?_;refine⟨_,rfl,rfl,_,rfl,?_⟩;rw[hV (fun z:V.str ((x::r).headD "")=V.str ""=>v (by injection z))];refine ij ⟨_,rfl,p,_,d,_,_,rfl,R.ob,T.c8.cl,T.n8taken,vB _ _ _,_,_,rfl,rfl,d,_,R.ob,(by show 3<1000;decide),_,rfl,?_⟩;refine eac (BY C) fun N F M=>?_;have l:K2 p b g (upd g p (.ins T.c8.a d (fR e ((k+ 1:Nat):Int) b))):=K2.upd1 (K2.refl p b g) _;have q:=q (.str x) _ (ii (k+ 1) o ⟨R.next (k+ 1),F,O2,B.mono fun a I t=>rZ.tpT R l t⟩) (u.trans l) rfl;rw[<-Il e (k:Int) _ b]at q;exact q
def jm (K:Zp) (C:Zx):Sp:=fun b H Q _=>∃y r a,Rp K C [.str y] (y::r) r a a (fun _ v=>v= .non) b H Q
def pM (T:Txt K mg) (a:MO P w base mg 2 T.e74 (jY K T.c8.a)):MO P w base mg 3 T.e75 (jm K T.c8.a):=by
 refine T.e75.F.ok lZ (fun f H Q E ⟨_,_,_,h⟩=>h.len) (fun _ A _ s H f Q E k h=>?_);obtain⟨x,r,b,p,c,e,g,d,rfl,R,W,q⟩:=h;refine HzX ?_;intro _;refine⟨_,(fW (pS (i:=2) lZ.nd (jJ (pv 0) T.c8.cl T.e74.me a k.m T.e74.b .nil ik))
  (f9 (gM (jD oP (pv 2) (pv 1))
   (f9 lA)
   gA))),?_⟩;obtain⟨n,l⟩:=R.ob;refine⟨_,rfl,p,c,_,rfl,l,iM _ _ _ _ O4,?_⟩;refine tn0 ⟨_,_,_,p,c,e,g,d,rfl,R,W,?_⟩;rintro _ o m j rfl;exact⟨_,rfl,_,rfl,rfl,_,rfl,Kh rfl (q _ _ m j rfl)⟩
def jo (K:Zp) (C:Zx):Sp:=fun b H Q _=>∃x r a,isName x=true/\Rp K C [] (x::r) r a a (fun _ v=>v= .str x) b H Q
def pO (T:Txt K mg) (a:MO P w base mg 2 T.e74 (jY K T.c8.a)) (b:FO P w base 2 T.d24 oA):
  MO P w base mg 3 T.e76 (jo K T.c8.a):=by
 refine T.e76.F.ok l4 (fun k H Q E ⟨_,_,_,_,h⟩=>h.len) (fun _ A _ s H k Q E e h=>?_);obtain⟨x,r,c,n,p,f,j,l,g,rfl,R,W,q⟩:=h;refine HzX ?_;intro _;refine⟨_,(fW (pS (i:=1) l4.nd (jJ (pv 0) T.c8.cl T.e74.me a e.m T.e74.b .nil ik))
  (fW (gM (mM (jC (pF T.d24 b e.m (fV (pv 1) fY))))
   (f9 lA)
   gA)
  (f9 (gC (pv 1))))),?_⟩;refine Hz2 ?_;intros;obtain⟨u,o⟩:=R.ob;refine⟨_,rfl,p,f,_,rfl,o,iM _ _ _ _ O4,?_⟩;refine tn0 ⟨_,_,_,p,f,j,l,g,rfl,R,W,?_⟩;rintro _ v t m rfl;refine⟨_,rfl,x,rfl,(W.one x (R.mem x (aj ..))).2.1,fun y d=>⟨_,rfl,?_⟩⟩;rw[n];exact ij ⟨_,rfl,q _ _ (t.same d) (m.trans (gJ.k2 d)) rfl⟩
def jv:Sp:=fun c H Q E=>∃(x:Str) (n a b:Nat),c=[.str x,.int n,.int a,.int b]/\a<=n/\n<=b/\Q .non H
def ui (T:Txt K mg):FO P w base 1 T.d28 jv:=by
 refine T.d28.F.rd uf fun _ A _ s H d Q E e h=>?_;refine ead h fun x n a b=>fam fun c g f q=>?_;subst c;refine⟨_,(f9 (gM (mM (oy tX tX (pv 2) (pv 1) (pv 3)))
   (f9 lA)
   gA)),?_⟩;refine⟨_,rfl,_,rfl,_,_,rfl,rfl,_,rfl,?_⟩;rw[gT O2];refine iK ⟨_,rfl,_,_,rfl,rfl,_,rfl,?_⟩;rw[gT O2];exact ij q
open TM.Internal (Tr Its pw pd ptr isL okP itr iw idt szs rws sD kD)
def Hk (K:Zp) (C:Zx) (f:Nat):Sp:=fun b H Q _=>∃(t:Tr) (r:Zd) (a:List Dt),t.ok/\t.nest<=f/\a.length+t.sz<=160/\Rp K C [.int (25-(f:Int))] (t.tk++r) r a (a++t.rw a.length) (fun _ v=>v= .int (a.length:Int)) b H Q
def pV (b:Bool):V:=if b then .str "name" else .str "expr"
def isT (K:Zp) (a:List Dt) (H:Hp) (v:V):Prop:=∃t,v= .ref t/\TAt K H v (.tup a)
def JQ (K:Zp) (C:Zx) (f:Nat):Sp:=fun d H Q _=>∃b c r a,(∀x∈b,okP f x)/\a.length+szs (ptr b)<=160/\SqT K H c ((b.map isL).map pV)/\b.length<=3/\Rp K C [.ref c,.int (25-(f:Int))] (pw b++r) r a (a++rws (ptr b) a.length) (isT K (pd b a.length)) d H Q
def JR (K:Zp) (C:Zx) (f:Nat) (e:List Bool) (c d:Nat):Sp:=fun b H Q _=>∃(l:Its) (r:Zd) (a:List Dt),(∀i∈l,isName i.1=true/\i.2.map isL=e/\∀x∈i.2,okP f x)/\c<=l.length/\l.length<=d/\a.length+szs (itr l)<=160/\Rp K C [.int (25-(f:Int))] (iw l++(")":Str)::r) ((")":Str)::r) a (a++rws (itr l) a.length) (isT K (idt l a.length)) b H Q
theorem rw_len{t:Tr}:(rows++t.rw rows.length).length=rows.length+t.sz:=by rw[aR,TM.Internal.Tr.rw_len]
theorem rws_len:(rows++rws ts rows.length).length=rows.length+szs ts:=by rw[aR,TM.Internal.rws_len]
def B2(c:H a=none) (t:SqT K H b xs):SqT K (upd H a o) b xs:=by
 rcases t with(t|⟨o',t⟩)|t;·exact .inl (.inl (by rw[gy (gv t c)];exact t))
 ·exact .inl (.inr ⟨o',by rw[gy (gv t c)];exact t⟩)
 ·exact .inr t
def B3 (T:Txt K mg) (f:Nat)
  (S:MO P w base mg 3 T.e76 (jo K T.c8.a))
  (O:MO P w base mg (5*f+ 5) T.e77 (Hk K T.c8.a f)):
  MO P w base mg (5*f+ 6) T.e80 (JQ K T.c8.a f):=by
 refine T.e80.F.ok jI (fun vs H Q E ⟨_,_,_,_,_,_,_,_,h⟩=>h.len) (fun _ A _ s H vs Q E hr h=>?_);obtain⟨n,pt,r,j,hok,N,M,hps,p,X,wl,Z,ws,rfl,R,W,q⟩:=h;refine HzX ?_;intro _;refine⟨_,(fW (pS (i:=3) jI.nd (gG fY))
  (fW (jX Mh rfl (qd (pv 1)) (pN (i:=4) jI.nd)
   (f9 (gM (jD uZ (pv 4) gh)
    (f9 (gK (jG eS eU eV gX (pv 3) (fV (jJ (pv 0) T.c8.cl T.e76.me S (hr.mono O2) T.e76.b .nil ik) fY))))
    (f9 (gK (jG eS eU eV gX (pv 3) (fV (gS (pv 0) T.c8.cl T.e77.me O (hr.mono O2) T.e77.b .nil ik (fV (pv 2) fY)) fY)))))))
  (f9 (gC (iS jK rfl T.z_tuple mv (fV (pv 3) fY)))))),?_⟩;refine Hz2 ?_;intros;have sl:=L9;refine⟨p7,fun V e=>?_⟩;refine eac (R.apart e) fun fp D U=>?_;refine⟨_,rfl,pt,rfl,⟨_,B2 e M⟩,xZ (fun i Y G=>∃o g C a,
   Y=[some (.ref p),some (.ref pt),some (.int (25-(f:Int))),some (.ref V),o]/\SqT K G pt ((n.map isL).map pV)/\RS K T.c8.a G p X wl Z ws (pw (n.drop i)++r) a/\K2 p Z H G/\G V=some (.lst C)/\mN K G C g/\g.length=i/\a.length+szs (ptr (n.drop i))<=160/\
   a++rws (ptr (n.drop i)) a.length=j++rws (ptr n) j.length/\g++pd (n.drop i) a.length=pd n j.length)
  (io none ([]) ([]) j ⟨rfl,B2 e M,R.same (gb e (.lst [])),gJ.k2 (gb e _),f7,.nil,rfl,N,rfl,rfl⟩) (fun i Y G _ ⟨_,_,_,_,_,z,_⟩=>z) ?_ ?_⟩
 ·refine fun i y Y G hi=>fal fun o g C a=>faq fun I l k k2 d L m v J F=>?_;subst I;rw[aP,aP]at hi;refine eaa (dA.mp hi) fun b hb I=>?_;subst I;refine eaa (dA.mp hb) fun c hc I=>?_;subst I;have hlt:=(av.mp hc).1;have ed:n.drop i=c::n.drop (i+ 1):=by rw[bS hlt,(av.mp hc).2]
  rw[ed]at k v J F;have lf:C.length<sizeLine:=by rw[L.length];lia
  obtain⟨k',hk⟩:=k.ob;have ok:=hok c (aQ hc)
  cases c with
  |inl x=>refine⟨_,rfl,rfl,_,rfl,iK ⟨_,rfl,.inl ⟨rfl,_,NT d⟩,_,rfl,p,X,_,rfl,hk,iM _ _ _ _ O4,?_⟩⟩;refine tn0 ⟨x,_,a,ok,p,X,wl,Z,ws,rfl,k,W,?_⟩;rintro _ H3 R3 u rfl;have B:=u _ _ d fp D;rw[pd]at F;exact iaa V C _ ⟨rfl,rfl,B,lf,_,g++[sD x],_,a,rfl,wX B (k.sqt u l),R3.other B fp U D,wY e (k2.trans u),f7,((k.tats u L).snoc (.flat rfl)).other B,(by rw[aR,m];rfl),v,J,(by rw[bU];exact F)⟩
  |inr t=>rw[ptr,szs]at v;rw[ptr,rws,<-bU,<-rw_len]at J;rw[pd,<-rw_len]at F;rw[pw,bU]at k;refine⟨_,rfl,rfl,_,rfl,ij ⟨_,rfl,.inl ⟨rfl,_,NT d⟩,_,rfl,p,X,_,rfl,hk,iM _ _ _ _ O4,_,rfl,t,_,a,ok.1,ok.2,O2,p,X,wl,Z,ws,rfl,k,W,?_⟩⟩;rintro _ H3 R3 u rfl;have B:=u _ _ d fp D;exact iaa V C _ ⟨rfl,rfl,B,lf,_,g++[kD a.length],_,_,rfl,wX B (k.sqt u l),R3.other B fp U D,wY e (k2.trans u),f7,((k.tats u L).snoc (.flat rfl)).other B,(by rw[aR,m];rfl),(by rw[rw_len];lia),J,(by rw[bU];exact F)⟩
 ·refine fun Y G=>fal fun o g C a=>faq fun I l k k2 d L m v J F=>?_;subst I;rw[aE,aE,bZ]at k J F;refine⟨_,rfl,V,C,rfl,.inl ⟨NT d,fun t ht=>?_⟩⟩;have s:=gb ht (.tup C);rw[show a=a++rws (ptr []) a.length by rw[ptr,rws,aF],J]at k;exact q _ _ (k.same s) (k2.trans (gJ.k2 s)) ⟨t,rfl,.tup f7 (by rw[<-F,pd,aF];exact k.tats (gJ.k2 s) L)⟩
open TM.Internal (Tr Its pw pd ptr isL okP itr iw idt szs rws sD kD oQ vF oks kn i6 tks)
def B4 (T:Txt K mg) (f:Nat)
  (I:MO P w base mg 1 T.e73 (iT K T.c8.a))
  (G:MO P w base mg (5*f+ 6) T.e80 (JQ K T.c8.a f))
  (J:FO P w base 1 T.d28 jv):
  MO P w base mg (5*f+ 7) T.e81 (JR K T.c8.a f [false] 0 6):=by
 refine T.e81.F.ok lG (fun vs H Q E ⟨_,_,_,_,_,_,_,h⟩=>h.len) (fun _ A _ s H vs Q E hr h=>?_);obtain⟨l,r,c,hok,hlo,hhi,F,p,M,wl,S,Z,rfl,R,W,q⟩:=h;refine HzX ?_;intro _;refine⟨_,(fW (pS (i:=2) lG.nd (gG fY))
  (fW (ow Mh (jD oP (jJ (pv 0) T.c8.cl T.e73.me I (hr.mono O2) T.e73.b .nil ik) gh)
   (f9 (gK (jG eS eU eV gX (pv 2) (fV (gS (pv 0) T.c8.cl T.e80.me G (hr.mono O2) T.e80.b .nil ik (fV (iB (fV gh (fV gh fY))) (fV (pv 1) fY))) fY)))))
  (fW (gK (pF T.d28 J (hr.mono O2) (fV gh (fV (gN gH rfl T.z_len iN (fV (pv 2) fY)) (fV fX (fV (vg rfl T.o8) fY))))))
  (f9 (gC (iS jK rfl T.z_tuple mv (fV (pv 2) fY))))))),?_⟩;refine Hz3 ?_;intros;have sl:=L9;refine⟨p7,fun L k=>?_⟩;refine eac (R.apart k) fun fp o fwl=>?_;refine⟨fun m σ N=>∃(b:Its) (g:List Dt) (n:List V) (a:List Dt),m=b.length/\(∀i∈b,i∈l)/\σ=[some (.ref p),some (.int (25-(f:Int))),some (.ref L)]/\RS K T.c8.a N p M wl S Z (iw b++(")":Str)::r) a/\K2 p S H N/\N L=some (.lst n)/\mN K N n g/\g.length+b.length=l.length/\a.length+szs (itr b)<=160/\
   a++rws (itr b) a.length=c++rws (itr l) c.length/\g++idt b a.length=idt l c.length,
  (iab _ l ([]) ([]) c ⟨rfl,fun _ h=>h,rfl,R.same (gb k (.lst [])),gJ.k2 (gb k _),f7,.nil,(by show 0+_=_;lia),F,rfl,rfl⟩),?_⟩;refine fun m σ N=>fal fun b g n a=>far fun Y C z1 R2 k2 D tf d hr2 e1 e2=>?_;subst Y;subst z1;have tl:=tf.length;obtain⟨k',hk⟩:=R2.ob;refine⟨_,rfl,p,M,_,rfl,hk,iM _ _ _ _ (.inl rfl),?_⟩;refine tn0 ⟨_,_,p,M,wl,S,Z,rfl,R2,W,?_⟩;rintro _ H3 v k3 rfl;have B:=k2.trans k3;have X:=k3 _ _ D fp o;have y:=R2.tats k3 tf;refine⟨rfl,_,rfl,?_⟩
 cases b with
 |nil=>refine ij ⟨_,rfl,L,n,rfl,.inl (NT X),_,n.length,0,6,rfl,by simp only[aV]at d;lia,by simp only[aV]at d;lia,?_⟩;refine⟨_,rfl,L,n,rfl,.inl ⟨NT X,fun t ht=>?_⟩⟩;have s:=gb ht (.tup n);rw[show a=a++rws (itr []) a.length by rw[itr,rws,aF],e1]at v;exact q _ _ (v.same s) (B.trans (gJ.k2 s)) ⟨t,rfl,.tup f7 (by rw[<-e2,idt,aF];exact v.tats (gJ.k2 s) y)⟩
 |cons i b=>refine eac (hok i (C i aj)) fun hn hb ho=>?_;rw[hV (fun z:V.str ((iw (i::b)++(")":Str)::r).headD "")=V.str ")"=>Om hn (by injection z))];obtain⟨k',hk⟩:=v.ob;refine iK ⟨_,fun σ' H' z=>z,?_⟩;refine⟨_,rfl,.inl ⟨rfl,_,NT X⟩,_,rfl,p,M,_,rfl,hk,iM _ _ _ _ O4,lJ,fun pt hpt=>?_⟩;have O:=gb hpt (.tup [.str "name",.str "expr"]);rw[itr,oQ]at hr2;rw[itr,vF,<-bU,<-rws_len]at e1;rw[idt,<-rws_len]at e2;have R4:=v.same O;rw[iw,show i.1::(pw i.2++iw b)++(")":Str)::r=pw (.inl i.1::i.2)++(iw b++(")":Str)::r) by rw[pw,aU,aU,bU]]at R4;refine⟨_,rfl,.inl i.1::i.2,pt,_,a,(fun x hx=>(ao.mp hx).elim (fun e=>e▸hn) (ho x)),(by show _+szs (ptr i.2)<=_;lia),(by rw[aD,hb];exact .inl (.inl f7)),(by have:=congrArg aK hb;rw[aE]at this;rw[aB,this];decide),p,M,wl,S,Z,rfl,R4,W,?_⟩;refine fun _ H5 R5 k5=>fad fun t Y ht=>?_;subst Y;have h5:=k5 _ _ (O _ _ X) fp o;refine iaa L n _ ⟨rfl,rfl,h5,by simp only[aB]at d;lia,b.length,cO _,b,g++[.tup (sD i.1::pd i.2 a.length)],_,_,rfl,(fun j hj=>C j (ak _ hj)),rfl,R5.other h5 fp fwl o,wY k (B.trans ((gJ.k2 O).trans k5)),f7,((v.tats ((gJ.k2 O).trans k5) y).snoc ht).other h5,(by rw[aR];simp only[aB]at d;show g.length+ 1+_=_;lia),(by rw[show ptr (.inl i.1::i.2)=ptr i.2 from rfl,rws_len];lia),e1,(by rw[bU];exact e2)⟩
def F0 (T:Txt K mg) (f:Nat)
  (I:MO P w base mg 1 T.e73 (iT K T.c8.a))
  (G:MO P w base mg (5*f+ 6) T.e80 (JQ K T.c8.a f))
  (J:FO P w base 1 T.d28 jv):
  MO P w base mg (5*f+ 7) T.e82 (JR K T.c8.a f [true,false] 1 6):=by
 refine T.e82.F.ok mf (fun vs H Q E ⟨_,_,_,_,_,_,_,h⟩=>h.len) (fun _ A _ s H vs Q E hr h=>?_);obtain⟨l,r,c,hok,hlo,hhi,F,p,M,wl,S,Z,rfl,R,W,q⟩:=h;refine HzX ?_;intro _;refine⟨_,(fW (pS (i:=2) mf.nd (gG fY))
  (fW (ow Mh (jD oP (jJ (pv 0) T.c8.cl T.e73.me I (hr.mono O2) T.e73.b .nil ik) gh)
   (f9 (gK (jG eS eU eV gX (pv 2) (fV (gS (pv 0) T.c8.cl T.e80.me G (hr.mono O2) T.e80.b .nil ik (fV (iB (fV gh (fV gh (fV gh fY)))) (fV (pv 1) fY))) fY)))))
  (fW (gK (pF T.d28 J (hr.mono O2) (fV gh (fV (gN gH rfl T.z_len iN (fV (pv 2) fY)) (fV fX (fV (vg rfl T.o9) fY))))))
  (f9 (gC (iS jK rfl T.z_tuple mv (fV (pv 2) fY))))))),?_⟩;refine Hz3 ?_;intros;have sl:=L9;refine⟨p7,fun L k=>?_⟩;refine eac (R.apart k) fun fp o fwl=>?_;refine⟨fun m σ N=>∃(b:Its) (g:List Dt) (n:List V) (a:List Dt),m=b.length/\(∀i∈b,i∈l)/\σ=[some (.ref p),some (.int (25-(f:Int))),some (.ref L)]/\RS K T.c8.a N p M wl S Z (iw b++(")":Str)::r) a/\K2 p S H N/\N L=some (.lst n)/\mN K N n g/\g.length+b.length=l.length/\a.length+szs (itr b)<=160/\
   a++rws (itr b) a.length=c++rws (itr l) c.length/\g++idt b a.length=idt l c.length,
  (iab _ l ([]) ([]) c ⟨rfl,fun _ h=>h,rfl,R.same (gb k (.lst [])),gJ.k2 (gb k _),f7,.nil,(by show 0+_=_;lia),F,rfl,rfl⟩),?_⟩;refine fun m σ N=>fal fun b g n a=>far fun Y C z1 R2 k2 D tf d hr2 e1 e2=>?_;subst Y;subst z1;have tl:=tf.length;obtain⟨k',hk⟩:=R2.ob;refine⟨_,rfl,p,M,_,rfl,hk,iM _ _ _ _ (.inl rfl),?_⟩;refine tn0 ⟨_,_,p,M,wl,S,Z,rfl,R2,W,?_⟩;rintro _ H3 v k3 rfl;have B:=k2.trans k3;have X:=k3 _ _ D fp o;have y:=R2.tats k3 tf;refine⟨rfl,_,rfl,?_⟩
 cases b with
 |nil=>refine ij ⟨_,rfl,L,n,rfl,.inl (NT X),_,n.length,1,6,rfl,by simp only[aV]at d;lia,by simp only[aV]at d;lia,?_⟩;refine⟨_,rfl,L,n,rfl,.inl ⟨NT X,fun t ht=>?_⟩⟩;have s:=gb ht (.tup n);rw[show a=a++rws (itr []) a.length by rw[itr,rws,aF],e1]at v;exact q _ _ (v.same s) (B.trans (gJ.k2 s)) ⟨t,rfl,.tup f7 (by rw[<-e2,idt,aF];exact v.tats (gJ.k2 s) y)⟩
 |cons i b=>refine eac (hok i (C i aj)) fun hn hb ho=>?_;rw[hV (fun z:V.str ((iw (i::b)++(")":Str)::r).headD "")=V.str ")"=>Om hn (by injection z))];obtain⟨k',hk⟩:=v.ob;refine iK ⟨_,fun σ' H' z=>z,?_⟩;refine⟨_,rfl,.inl ⟨rfl,_,NT X⟩,_,rfl,p,M,_,rfl,hk,iM _ _ _ _ O4,lC,fun pt hpt=>?_⟩;have O:=gb hpt (.tup [.str "name",.str "name",.str "expr"]);rw[itr,oQ]at hr2;rw[itr,vF,<-bU,<-rws_len]at e1;rw[idt,<-rws_len]at e2;have R4:=v.same O;rw[iw,show i.1::(pw i.2++iw b)++(")":Str)::r=pw (.inl i.1::i.2)++(iw b++(")":Str)::r) by rw[pw,aU,aU,bU]]at R4;refine⟨_,rfl,.inl i.1::i.2,pt,_,a,(fun x hx=>(ao.mp hx).elim (fun e=>e▸hn) (ho x)),(by show _+szs (ptr i.2)<=_;lia),(by rw[aD,hb];exact .inl (.inl f7)),(by have:=congrArg aK hb;rw[aE]at this;rw[aB,this];decide),p,M,wl,S,Z,rfl,R4,W,?_⟩;refine fun _ H5 R5 k5=>fad fun t Y ht=>?_;subst Y;have h5:=k5 _ _ (O _ _ X) fp o;refine iaa L n _ ⟨rfl,rfl,h5,by simp only[aB]at d;lia,b.length,cO _,b,g++[.tup (sD i.1::pd i.2 a.length)],_,_,rfl,(fun j hj=>C j (ak _ hj)),rfl,R5.other h5 fp fwl o,wY k (B.trans ((gJ.k2 O).trans k5)),f7,((v.tats ((gJ.k2 O).trans k5) y).snoc ht).other h5,(by rw[aR];simp only[aB]at d;show g.length+ 1+_=_;lia),(by rw[show ptr (.inl i.1::i.2)=ptr i.2 from rfl,rws_len];lia),e1,(by rw[bU];exact e2)⟩
def LX (K:Zp) (C:Zx) (f:Nat):Sp:=fun c H Q _=>∃(b:List Tr) (r:Zd) (a:List Dt),oks b/\kn b<=f/\b.length<=8/\a.length+szs b<=160/\Rp K C [.int (25-(f:Int))] ((tks b).flatten++(")":Str)::r) ((")":Str)::r) a (a++rws b a.length) (isT K ((i6 b a.length).map kD)) c H Q
def B5 (T:Txt K mg) (f:Nat)
  (D:MO P w base mg 1 T.e73 (iT K T.c8.a))
  (C:MO P w base mg (5*f+ 5) T.e77 (Hk K T.c8.a f))
  (F:FO P w base 1 T.d28 jv):
  MO P w base mg (5*f+ 7) T.e83 (LX K T.c8.a f):=by
 refine T.e83.F.ok lH (fun vs H Q E ⟨_,_,_,_,_,_,_,h⟩=>h.len) (fun _ A _ s H vs Q E Y h=>?_);obtain⟨l,r,c,Z,hn,hhi,B,p,I,O,L,N,rfl,R,W,q⟩:=h;refine HzX ?_;intro _;refine⟨_,(fW (pS (i:=2) lH.nd (gG fY))
  (fW (ow Mh (jD oP (jJ (pv 0) T.c8.cl T.e73.me D (Y.mono O2) T.e73.b .nil ik) gh)
   (f9 (gK (jG eS eU eV gX (pv 2) (fV (gS (pv 0) T.c8.cl T.e77.me C (Y.mono O2) T.e77.b .nil ik (fV (pv 1) fY)) fY)))))
  (fW (gK (pF T.d28 F (Y.mono O2) (fV gh (fV (gN gH rfl T.z_len iN (fV (pv 2) fY)) (fV fX (fV (vg rfl T.o10) fY))))))
  (f9 (gC (iS jK rfl T.z_tuple mv (fV (pv 2) fY))))))),?_⟩;refine Hz3 ?_;intros;have sl:=L9;refine⟨p7,fun G j=>?_⟩;refine eac (R.apart j) fun fp n fwl=>?_;refine⟨fun m σ J=>∃(b:List Tr) (e:List Dt) (k:List V) (a:List Dt),m=b.length/\oks b/\kn b<=f/\σ=[some (.ref p),some (.int (25-(f:Int))),some (.ref G)]/\RS K T.c8.a J p I O L N ((tks b).flatten++(")":Str)::r) a/\K2 p L H J/\J G=some (.lst k)/\mN K J k e/\e.length+b.length=l.length/\a.length+szs b<=160/\
   a++rws b a.length=c++rws l c.length/\e++(i6 b a.length).map kD=(i6 l c.length).map kD,
  (iab _ l ([]) ([]) c ⟨rfl,Z,hn,rfl,R.same (gb j (.lst [])),gJ.k2 (gb j _),f7,.nil,(by show 0+_=_;lia),B,rfl,rfl⟩),?_⟩;refine fun m σ J=>fal fun b e k a=>fas fun z0 g hn2 z1 R2 k2 y tf d X e1 e2=>?_;subst z0;subst z1;have tl:=tf.length;obtain⟨k',hk⟩:=R2.ob;refine⟨_,rfl,p,I,_,rfl,hk,iM _ _ _ _ (.inl rfl),?_⟩;refine tn0 ⟨_,_,p,I,O,L,N,rfl,R2,W,?_⟩;rintro _ H3 o U rfl;have v:=k2.trans U;have M:=U _ _ y fp n;have u:=R2.tats U tf;refine⟨rfl,_,rfl,?_⟩
 cases b with
 |nil=>refine ij ⟨_,rfl,G,k,rfl,.inl (NT M),_,k.length,0,8,rfl,by simp only[aV]at d;lia,by simp only[aV]at d;lia,?_⟩;refine⟨_,rfl,G,k,rfl,.inl ⟨NT M,fun t ht=>?_⟩⟩;have s:=gb ht (.tup k);rw[show a=a++rws [] a.length by rw[rws,aF],e1]at o;exact q _ _ (o.same s) (v.trans (gJ.k2 s)) ⟨t,rfl,.tup f7 (by rw[<-e2,i6,aW,aF];exact o.tats (gJ.k2 s) u)⟩
 |cons t b=>
  rw[oks]at g;rw[kn]at hn2;rw[szs]at X;rw[rws,<-bU,<-rw_len]at e1;rw[i6,aD,<-rw_len]at e2;refine eah (TM.Internal.head_nc t g.1) fun x r0 ex hx=>?_;have ew:(tks (t::b)).flatten++(")":Str)::r=t.tk++((tks b).flatten++(")":Str)::r):=by rw[tks,List.flatten_cons,bU]
  rw[ew]at o⊢;rw[show(t.tk++((tks b).flatten++(")":Str)::r)).headD ""=x by rw[ex];rfl,hV (fun z:V.str x=V.str ")"=>hx (by injection z))];obtain⟨k',hk⟩:=o.ob;refine iK ⟨_,fun σ' H' z=>z,?_⟩;refine⟨_,rfl,.inl ⟨rfl,_,NT M⟩,_,rfl,p,I,_,rfl,hk,iM _ _ _ _ O4,_,rfl,t,_,a,g.1,O2,O2,p,I,O,L,N,rfl,o,W,?_⟩;rintro _ H5 R5 S rfl;have h5:=S _ _ M fp n;exact iaa G k _ ⟨rfl,rfl,h5,by simp only[aB]at d;lia,b.length,cO _,b,e++[kD a.length],_,_,rfl,g.2,O2,rfl,R5.other h5 fp fwl n,wY j (v.trans S),f7,((o.tats S u).snoc (.flat rfl)).other h5,(by rw[aR];simp only[aB]at d;show e.length+ 1+_=_;lia),(by rw[rw_len];lia),e1,(by rw[bU];exact e2)⟩
open TM.Internal (Tr Kn Its pw pd ptr isL okP itr iw idt szs rws sD kD tks i6 oks kn)
structure Dk (P:Zu) (w:Zv) (K:Zp) (mg:Zc) where
 a:Zx
 m:mg "STEADY_FORMS"=some (.ref a)
 kvs:List (Key×V)
 kd:BG P w K a kvs
 yes:∀h ps,stP h=some ps->∃q,jL kvs (Me h)=some (.ref q)/\∀H:Hp,SqT K H q (ps.map pV)
def br:Kn->Bool
 | .num _=>false
 | .name _=>false
 |_=>true
inductive Std (f:Nat) (κ:Kn) (ks:List Tr):Prop
 |mk (ps:List (Str ⊕ Tr)) (h1:κ.s≠"rec") (h2:κ.s≠"case") (h3:κ.s≠"row") (st:stP κ.s=some (ps.map isL)) (w:pw ps=κ.ws (tks ks)) (t:ptr ps=ks) (d:∀p,κ.rw (i6 ks p)=sD κ.s::pd ps p) (ok:∀x∈ps,okP f x) (ne:ps≠[]) (l:ps.length<=3)
def Io(o:br κ=true) (a:κ.ok) (c:ks.length=κ.ar) (j:oks ks) (q:kn ks<=f):(∃l,κ= .rcd l)\/(∃l,κ= .case l)\/(∃m,κ= .row m)\/Std f κ ks:=by
 have g:=TM.Internal.okP_inr j q;have b:∀s w m,κ.s=s->ks.length=m->isName w=true->(s≠"rec"/\s≠"case"/\s≠"row"/\stP s=some (true::aJ m false))->m<=2->κ.ws (tks ks)=w::(tks ks).flatten->(∀p,κ.rw (i6 ks p)=sD s::sD w::(i6 ks p).map kD)->Std f κ ks:=fun s w m y l u d C v A=>by
  subst y l;refine⟨.inl w::ks.map .inr,d.1,d.2.1,d.2.2.1,?_,by rw[pw,Ov,v],by rw[ptr,Oo],fun p=>by rw[A,pd,Ow],fun x hx=>?_,bQ _ _,by rw[aB,aE];lia⟩;·rw[d.2.2.2,aD,bH,show(isL∘Me:Tr->Bool)=fun _=>false from rfl,List.map_const'];rfl
  ·rcases ao.mp hx with rfl|hx;·exact u
   ·exact g x hx
 have h:∀s m,κ= .op s m->(s≠"rec"/\s≠"case"/\s≠"row"/\stP s=some (aJ m false))->1<=m->m<=3->Std f κ ks:=fun s m e d k r=>by
  subst e;have c:=c;subst c;refine⟨ks.map .inr,d.1,d.2.1,d.2.2.1,?_,Ov _,Oo _,fun p=>by rw[Ow];rfl,g,fun z=>?_,by rw[aE];exact r⟩;·show stP s=_;rw[d.2.2.2,bH,show(isL∘Me:Tr->Bool)=fun _=>false from rfl,List.map_const']
  ·rw[List.map_eq_nil_iff]at z;rw[z]at k;exact absurd k O3
 cases κ with
 |num n=>cases o
 |name w=>cases o
 |rcd l=>exact .inl ⟨l,rfl⟩
 |case l=>exact .inr (.inl ⟨l,rfl⟩)
 |row m=>exact .inr (.inr (.inl ⟨m,rfl⟩))
 |fn w=>exact .inr (.inr (.inr (b "fn" w 1 rfl c a gL O3 rfl fun _=>rfl)))
 |tag w=>exact .inr (.inr (.inr (b "tag" w 1 rfl c a gL O3 rfl fun _=>rfl)))
 |lt w=>exact .inr (.inr (.inr (b "let" w 2 rfl c a gL O3 rfl fun _=>rfl)))
 |op s m=>have a:(s,m)∈NW:=a;simp only[NW,ao,Prod.mk.injEq,bI,or_false]at a;rcases a with⟨rfl,rfl⟩|⟨rfl,rfl⟩|⟨rfl,rfl⟩|⟨rfl,rfl⟩|⟨rfl,rfl⟩|⟨rfl,rfl⟩|⟨rfl,rfl⟩<;>exact .inr (.inr (.inr (h _ _ rfl gL O3 O3)))
 |get w=>
  obtain⟨t,rfl⟩:=bF.mp c;rw[oks]at j;rw[kn]at q;have d:("get":Str)≠"rec"/\("get":Str)≠"case"/\("get":Str)≠"row"/\stP "get"=some [false,true]:=gL;refine .inr (.inr (.inr ⟨[.inr t,.inl w],d.1,d.2.1,d.2.2.1,d.2.2.2,?_,rfl,fun _=>rfl,fun x hx=>?_,bQ _ _,(by show 2<=3;decide)⟩));·show t.tk++[w]=(t.tk++[])++[w];rw[aF]
  rcases ao.mp hx with rfl|hx;·exact⟨j.1,O2⟩
  ·rw[bo.mp hx];exact a
def LY (K:Zp) (C:Zx) (f:Nat):Sp:=fun d H Q _=>∃(c:Kn) (b:List Tr) (r:Zd) (a:List Dt),c.ok/\b.length=c.ar/\oks b/\kn b<=f/\a.length+szs b<=160/\br c=true/\Rp K C [.str c.s,.int (25-(f:Int))] (c.ws (tks b)++(")":Str)::r) ((")":Str)::r) a (a++rws b a.length) (isT K (c.rw (i6 b a.length))) d H Q
def F8 (T:Txt K mg) (D:Dk P w K mg) (f:Nat)
  (Y:MO P w base mg (5*f+ 5) T.e77 (Hk K T.c8.a f))
  (X:MO P w base mg (5*f+ 6) T.e80 (JQ K T.c8.a f))
  (U:MO P w base mg (5*f+ 7) T.e81 (JR K T.c8.a f [false] 0 6))
  (S:MO P w base mg (5*f+ 7) T.e82 (JR K T.c8.a f [true,false] 1 6))
  (O:MO P w base mg (5*f+ 7) T.e83 (LX K T.c8.a f)):
  MO P w base mg (5*f+ 8) T.e79 (LY K T.c8.a f):=by
 refine T.e79.F.ok ma (fun vs H Q E ⟨_,_,_,_,_,_,_,_,_,_,h⟩=>h.len) (fun _ A _ s H vs Q E N h=>?_);obtain⟨g,j,r,a,n,k,B,h4,b,hb,p,d,F,G,C,rfl,R,W,q⟩:=h;refine HzX ?_;intro _;refine⟨_,(fW (gM (jD uZ (pv 1) gh)
   (f9 (gC (iB (fV gh (fV (gS (pv 0) T.c8.cl T.e81.me U (N.mono O2) T.e81.b .nil ik (fV (pv 2) fY)) fY)))))
   gA)
  (fW (gM (jD uZ (pv 1) gh)
   (fW (pS (i:=3) ma.nd (gS (pv 0) T.c8.cl T.e77.me Y (N.mono O2) T.e77.b .nil ik (fV (pv 2) fY)))
   (f9 (gC (iB (fV gh (fV (pv 3) (fV (gS (pv 0) T.c8.cl T.e82.me S (N.mono O2) T.e82.b .nil ik (fV (pv 2) fY)) fY)))))))
   gA)
  (fW (gM (jD uZ (pv 1) gh)
   (f9 (gC (iB (fV gh (fV (gS (pv 0) T.c8.cl T.e83.me O (N.mono O2) T.e83.b .nil ik (fV (pv 2) fY)) fY)))))
   gA)
  (fW (gM (si (BH D.kd (pv 1) (DL rfl D.m)) rfl)
   (f9 lA)
   gA)
  (f9 (gC (gP FC (iB (fV (pv 1) fY)) (gS (pv 0) T.c8.cl T.e80.me X (N.mono O2) T.e80.b .nil ik (fV (BI D.kd (DL rfl D.m) (pv 1)) (fV (pv 2) fY)))))))))),?_⟩;refine Hz4 ?_;intros;have sl:=L9;obtain⟨k',hk⟩:=R.ob;refine⟨_,rfl,rfl,_,rfl,?_⟩;rcases Io hb n k B h4 with⟨l,rfl⟩|⟨l,rfl⟩|⟨m,rfl⟩|⟨ps,n1,n2,n3,st,ew,et,ed,ok,ne,le⟩
 ·have k:j.length=l.length:=k;refine eac (TM.Internal.fI_is k.symm) fun L i2 J=>?_;have e:TM.Internal.Kn.ws (.rcd l) (tks j)=iw (Oh l j):=i2.symm;rw[e]at R;have il:(Oh l j).length=l.length:=by have:=congrArg aK (J 0);rw[Oq,aE,b6,N0]at this;lia
  refine iK ⟨_,rfl,p,d,_,rfl,hk,iM _ _ _ _ O4,_,rfl,Oh l j,r,a,TM.Internal.fI_ok n.2 B h4,cK _,by rw[il];exact n.1,by rw[L];exact b,p,d,F,G,C,rfl,R,W,?_⟩;rw[L,J];refine fun _ H1 c I=>fad fun t o x=>?_;subst o;refine⟨lJ,fun u v=>?_⟩;have s:=gb v (.tup [.str "rec",.ref t]);exact q _ _ (c.same s) (I.trans (gJ.k2 s)) ⟨u,rfl,.tup f7 (.cons (.flat rfl) (.cons (c.tat (gJ.k2 s) x) .nil))⟩
 ·cases j with
  |nil=>cases k
  |cons t0 ts=>
   have hl:=(da.inj k).symm;refine eac (TM.Internal.aI_is hl) fun L i2 J=>?_;rw[szs]at b;rw[oks]at B;rw[kn]at h4;have e:TM.Internal.Kn.ws (.case l) (tks (t0::ts))++(")":Str)::r=t0.tk++(iw (Oi l ts)++(")":Str)::r):=by rw[i2,<-bU];rfl
   rw[e]at R;have il:(Oi l ts).length=l.length:=by have:=congrArg aK (J 0);rw[Oq,aE,b6,N0]at this;lia
   refine ij ⟨_,rfl,rfl,_,rfl,iK ⟨_,rfl,p,d,_,rfl,hk,iM _ _ _ _ O4,_,rfl,t0,_,a,B.1,O2,O2,p,d,F,G,C,rfl,R,W,?_⟩⟩;rintro _ H1 c I rfl;obtain⟨k1',y⟩:=c.ob;refine⟨_,rfl,_,rfl,p,d,_,rfl,y,iM _ _ _ _ O4,_,rfl,Oi l ts,r,_,TM.Internal.aI_ok n.2.2 B.2 O2,by rw[il];exact n.1,by rw[il];exact n.2.1,by rw[L,rw_len];lia,p,d,F,G,C,rfl,c,W,?_⟩;rw[L,J,rw_len,bU];refine fun _ H2 Z k2=>fad fun t o x=>?_;subst o;refine⟨lC,fun u v=>?_⟩;have s:=gb v (.tup [.str "case",.int (a.length:Int),.ref t]);exact q _ _ (by rw[rws];exact Z.same s) ((I.trans k2).trans (gJ.k2 s)) ⟨u,rfl,.tup f7 (.cons (.flat rfl) (.cons (.flat rfl) (.cons (Z.tat (gJ.k2 s) x) .nil)))⟩
 ·refine ij ⟨_,rfl,rfl,_,rfl,ij ⟨_,rfl,rfl,_,rfl,iK ⟨_,rfl,p,d,_,rfl,hk,iM _ _ _ _ O4,_,rfl,j,r,a,B,h4,(by have k:j.length=m:=k;have n:m<=8:=n;lia),b,p,d,F,G,C,rfl,R,W,?_⟩⟩⟩;refine fun _ H1 c I=>fad fun t o x=>?_;subst o;refine⟨lJ,fun u v=>?_⟩;have s:=gb v (.tup [.str "row",.ref t]);exact q _ _ (c.same s) (I.trans (gJ.k2 s)) ⟨u,rfl,.tup f7 (.cons (.flat rfl) (.cons (c.tat (gJ.k2 s) x) .nil))⟩
 ·rw[hV (fun z:V.str g.s=V.str "rec"=>n1 (by injection z))];refine ij ⟨_,rfl,rfl,_,rfl,?_⟩;rw[hV (fun z:V.str g.s=V.str "case"=>n2 (by injection z))];refine ij ⟨_,rfl,rfl,_,rfl,?_⟩;rw[hV (fun z:V.str g.s=V.str "row"=>n3 (by injection z))];refine ij ⟨_,rfl,Me g.s,rfl,rfl,_,rfl,?_⟩;refine eaa (D.yes _ _ st) fun dq ev hq=>?_;rw[ev];refine ij ⟨_,rfl,se,fun t1 ht1=>?_⟩;have s1:=gb ht1 (.tup [.str g.s]);rw[<-ew]at R;have c:=R.same s1;obtain⟨k1',y⟩:=c.ob;refine⟨_,rfl,p,d,_,rfl,y,iM _ _ _ _ O4,_,rfl,Me g.s,_,rfl,rfl,ev,_,rfl,ps,dq,_,a,ok,by rw[et];exact b,hq _,le,p,d,F,G,C,rfl,c,W,?_⟩;rw[et];refine fun _ H2 Z k2=>fad fun t o x=>?_;subst o
  cases x with
  |tup hsq M=>
   rename_i xs;have l2:=M.length;rw[TM.Internal.pd_len]at l2;have hne:xs≠[]:=fun z=>by rw[z]at l2;exact ne (bN.mp l2.symm)
   refine io t1 t ([.str g.s]) xs ⟨rfl,rfl,c.sqt k2 (.inl (.inl f7)),.inl (.inl hsq),(fun z=>nomatch z),(by show 1+xs.length<=_;lia),fun z=>absurd z hne,fun _ u v=>?_⟩;have s:=gb v (.tup ([.str g.s]++xs));exact q _ _ (Z.same s) (((gJ.k2 s1).trans k2).trans (gJ.k2 s)) ⟨u,rfl,by rw[ed];exact .tup f7 (.cons (.flat rfl) (Z.tats (gJ.k2 s) M))⟩
def LZ (K:Zp) (C:Zx) (f:Nat):Sp:=fun d H Q _=>∃(c:Kn) (b:List Tr) (r:Zd) (a:List Dt),c.ok/\b.length=c.ar/\oks b/\kn b<=f/\a.length+szs b<=160/\Rp K C [.int (25-((f+ 1:Nat):Int))] (c.tk (tks b)++r) r a (a++rws b a.length) (isT K (c.rw (i6 b a.length))) d H Q
def Ip (T:Txt K mg) (f:Nat)
  (c:MO P w base mg 2 T.e74 (jY K T.c8.a))
  (B:MO P w base mg 3 T.e75 (jm K T.c8.a))
  (D:FO P w base 2 T.d24 oA)
  (C:FO P w base 2 T.d25 nZ)
  (z:MO P w base mg (5*f+ 8) T.e79 (LY K T.c8.a f)):
  MO P w base mg (5*f+ 9) T.e78 (LZ K T.c8.a f):=by
 refine T.e78.F.ok kM (fun vs H Q E ⟨_,_,_,_,_,_,_,_,_,h⟩=>h.len) (fun _ A _ s H vs Q E l h=>?_);obtain⟨a,k,r,o,g,N,h3,h4,v,p,d,G,I,F,rfl,R,W,q⟩:=h;refine HzX ?_;intro _;refine⟨_,(fW (pS (i:=2) kM.nd (jJ (pv 0) T.c8.cl T.e74.me c (l.mono O2) T.e74.b .nil ik))
  (fW (gM (jC (pF T.d25 C (l.mono O2) (fV (pv 2) fY)))
   (f9 (gC (iB (fV gh (fV (iS wO rfl T.z_int wM (fV (pv 2) fY)) fY)))))
   gA)
  (fW (gM (jC (pF T.d24 D (l.mono O2) (fV (pv 2) fY)))
   (f9 (gC (iB (fV gh (fV (pv 2) fY)))))
   gA)
  (fW (gM (jD oP (pv 2) gh)
   (f9 lA)
   gA)
  (fW (pS (i:=3) kM.nd (gS (pv 0) T.c8.cl T.e79.me z (l.mono O2) T.e79.b .nil ik (fV (jJ (pv 0) T.c8.cl T.e74.me c (l.mono O2) T.e74.b .nil ik) (fV (gP El (pv 1) fX) fY))))
  (fW (gK (gS (pv 0) T.c8.cl T.e75.me B (l.mono O2) T.e75.b .nil ik (fV gh fY)))
  (f9 (gC (pv 3))))))))),?_⟩;refine Hz6 ?_;intros;obtain⟨k',hk⟩:=R.ob;obtain⟨x,X,j⟩:∃x X,a.tk (tks k)++r=x::X:=by cases a<;>exact ii _ _ rfl
 have b:(∃n,a= .num n)\/(∃w,a= .name w)\/br a=true/\a.tk (tks k)++r=("(":Str)::a.s::(a.ws (tks k)++(")":Str)::r):=by
  have e:("(":Str)::a.s::(a.ws (tks k)++[(")":Str)])++r=("(":Str)::a.s::(a.ws (tks k)++(")":Str)::r):=by rw[aU,aU,bU];rfl
  cases a with
  |num n=>exact .inl ⟨n,rfl⟩
  |name w=>exact .inr (.inl ⟨w,rfl⟩)
  |_=>exact .inr (.inr ⟨rfl,e⟩)
 rw[j]at R b;have J:=(W.one x (R.mem x (aj ..))).2.1;refine⟨_,rfl,p,d,_,rfl,hk,iM _ _ _ _ O4,?_⟩;refine tn0 ⟨_,_,_,p,d,G,I,F,rfl,R,W,?_⟩;rintro _ H1 R1 k1 rfl;refine⟨_,rfl,x,rfl,J,fun H2 U=>⟨_,rfl,?_⟩⟩;have S:=R1.same U;have L:=k1.trans (gJ.k2 U);rcases b with⟨n,rfl⟩|⟨y,rfl⟩|⟨hb,e⟩;·have j:=j;injection j with e1 e2;subst e1 e2;obtain⟨Y,n2⟩:=TM.Internal.num_is g.1 g.2;refine eac (sN Y) fun m1 m2 m3=>?_;obtain rfl:=bW N;rw[rws,aF]at q;rw[Y];refine iK ⟨_,rfl,_,n,rfl,by rw[Az m1 O2 m3,n2],O2,lJ,fun t u=>?_⟩;have s:=gb u (.tup [.str "num",.int n]);exact q _ _ (S.same s) (L.trans (gJ.k2 s)) ⟨t,rfl,.tup f7 (.cons (.flat rfl) (.cons (.flat rfl) .nil))⟩
 ·have j:=j;injection j with e1 e2;subst e1 e2;have g:=g;obtain rfl:=bW N;rw[rws,aF]at q;rw[Bool.eq_false_iff.mpr (TM.Internal.name_nn g)];refine ij ⟨_,rfl,y,rfl,J,fun H3 m=>⟨_,rfl,?_⟩⟩;rw[g];refine iK ⟨_,rfl,lJ,fun t u=>?_⟩;have s:=gb u (.tup [.str "name",.str y]);exact q _ _ ((S.same m).same s) ((L.trans (gJ.k2 m)).trans (gJ.k2 s)) ⟨t,rfl,.tup f7 (.cons (.flat rfl) (.cons (.flat rfl) .nil))⟩
 ·injection e with e1 e2;subst e1 e2;refine ij ⟨_,rfl,_,rfl,J,fun H3 m=>⟨_,rfl,?_⟩⟩;have R3:=S.same m;have k3:=L.trans (gJ.k2 m);obtain⟨k3',b⟩:=R3.ob;refine ij ⟨_,rfl,rfl,_,rfl,ij ⟨_,rfl,p,d,_,rfl,b,iM _ _ _ _ O4,_,rfl,p,d,_,rfl,b,iM _ _ _ _ O4,?_⟩⟩;refine tn0 ⟨_,_,_,p,d,G,I,F,rfl,R3,W,?_⟩;rintro _ H4 R4 k4 rfl;refine⟨_,rfl,_,_,rfl,rfl,a,k,r,o,g,N,h3,h4,v,hb,p,d,G,I,F,(by show[V.ref p,V.str a.s,V.int (25-((f+ 1:Nat):Int)+ 1)]=_;rw[show(25-((f+ 1:Nat):Int)+ 1)=25-(f:Int) by lia]),R4,W,?_⟩;refine fun _ H5 O k5=>fad fun t z0 u=>?_;subst z0;obtain⟨k5',M⟩:=O.ob;refine⟨_,rfl,p,d,_,rfl,M,iM _ _ _ _ O4,?_⟩;refine tc1 ⟨_,_,_,p,d,G,I,F,rfl,O,W,?_⟩;rintro _ H6 R6 Z rfl;exact⟨_,rfl,q _ _ R6 (((k3.trans k4).trans k5).trans Z) ⟨t,rfl,O.tat Z u⟩⟩
def D3 (T:Txt K mg) (f:Nat)
  (n:MO P w base mg (5*f+ 9) T.e78 (LZ K T.c8.a f)):
  MO P w base mg (5*(f+ 1)+ 5) T.e77 (Hk K T.c8.a (f+ 1)):=by
 refine T.e77.F.ok kh (fun N H Q E ⟨_,_,_,_,_,_,h⟩=>h.len) (fun _ A _ s H N Q E Y h=>?_);obtain⟨⟨L,O⟩,r,a,v,Z,m,p,g,D,d,C,rfl,R,W,q⟩:=h;rw[NY]at v;rw[Oa]at Z;rw[NU]at m;rw[NV]at R;rw[Ox]at q;refine HzX ?_;intro _;refine⟨_,(fW (gM (jD HC (pv 1) (vg rfl T.o12))
   (f9 lA)
   gA)
  (fW (pS (i:=2) kh.nd (gN gH rfl T.z_len iN (fV (qe (pv 0) rfl) fY)))
  (fW (gM (jD uZ (pv 2) (vg rfl T.o11))
   (f9 lA)
   gA)
  (fW (gK (jG eS eU eV gX (qe (pv 0) rfl) (fV hG fY)))
  (fW (wq (gS (pv 0) T.c8.cl T.e78.me n (Y.mono O2) T.e78.b .nil ik (fV (pv 1) fY)) (wo (qe (pv 0) rfl) (pv 2) qg))
  (f9 (gC (pv 2)))))))),?_⟩;refine Hz5 ?_;intros;have sl:=L9;refine eaj R fun k j c h1 h2 I=>?_;have F:=I.length;refine⟨_,rfl,_,_,rfl,rfl,_,rfl,?_⟩;rw[hV O2];refine ij ⟨_,rfl,p,_,g,_,_,rfl,c.ob,T.c8.cl,T.n8rows,vC _ _ _,d,_,rfl,.inl (NT c.rw),?_⟩;refine⟨_,rfl,rfl,_,rfl,?_⟩;rw[hV (fun z=>by injection z with z;lia)];refine ij ⟨_,rfl,p,_,g,_,_,rfl,c.ob,T.c8.cl,T.n8rows,vC _ _ _,.inl ⟨rfl,_,NT c.rw⟩,d,_,_,rfl,rfl,c.rw,O2,?_⟩;have l:=c.ne2;have e:=c.ne;have u:rZ T.c8.a (upd H d (.lst (j++[.non]))) p g D d C k (j++[.non]):=⟨by rw[gy l];exact c.ob,by rw[gy e];exact c.wd,f7,e⟩;have V:K2 p d H (upd H d (.lst (j++[.non]))):=(K2.refl p d H).upd2 _;have G:(a++[Dt.flat .non]).length=a.length+ 1:=by rw[aR];rfl
 refine⟨_,rfl,p,g,_,rfl,u.ob,iM _ _ _ _ O4,_,rfl,L,O,r,a++[.flat .non],v.1,v.2.1,v.2.2,O2,O2,p,g,D,d,C,rfl,(ii k _ ⟨u,h1,h2,(I.snoc (.flat rfl)).other c.rw⟩),W,?_⟩;rw[G];refine fun _ H2=>fao fun S y b g1 g2 J U=>fad fun t M X=>?_;subst M;have x:=J.length;rw[aR,G]at x;refine⟨_,rfl,p,_,g,_,_,rfl,b.ob,T.c8.cl,T.n8rows,vC _ _ _,_,rfl,d,_,_,j.length,rfl,rfl,b.rw,FY O2,?_⟩;refine⟨_,rfl,q _ _ (ii S _ (⟨⟨?_,?_,f7,e⟩,g1,g2,?_⟩)) ((V.trans U).upd2 _) (by rw[F])⟩;·rw[gy l];exact b.ob
 ·rw[gy e];exact b.wd
 ·have:=(mN.set a.length J X).other (o:= .lst (y.set j.length (.ref t))) b.rw;rw[TM.Internal.set_at]at this;rw[F]at this⊢;exact this
theorem B6 (T:Txt K mg) (D:Dk P w K mg)
  (a:MO P w base mg 1 T.e73 (iT K T.c8.a))
  (e:MO P w base mg 2 T.e74 (jY K T.c8.a))
  (d:MO P w base mg 3 T.e75 (jm K T.c8.a))
  (c:MO P w base mg 3 T.e76 (jo K T.c8.a))
  (j:FO P w base 2 T.d24 oA)
  (i:FO P w base 2 T.d25 nZ)
  (b:FO P w base 1 T.d28 jv):
  ∀f,MO P w base mg (5*f+ 5) T.e77 (Hk K T.c8.a f)
 |0=>by refine T.e77.F.ok kh (fun l H Q E ⟨_,_,_,_,_,_,h⟩=>h.len) (fun _ A _ s H l Q E p h=>⟨_,A1,?_⟩);obtain⟨⟨n,o⟩,_,_,_,m,_⟩:=h;rw[Oa]at m;lia
 |f+ 1=>by have g:=B6 T D a e d c j i b f;have k:=B3 T f c g;exact D3 T f (Ip T f e d j i (F8 T D f g k (B4 T f a k b) (F0 T f a k b) (B5 T f a g b)))
open TM.Internal (Tr Kn szs rws kD i6 oks)
def dtk (n:Str) (t:Oy):List Str:=("(":Str)::"def"::n::(t.tk++[(")":Str)])
def wj:List Str->List Oy->List Str
 |n::ns,t::ts=>dtk n t++wj ns ts
 |_,_=>[]
def mh (C:Zx):Sp:=fun f H Q _=>∃p e a b c,f=[.ref p,.ref a,.ref b,.ref c]/\H p=some (.ins C e [])/\∀d,d p=some (.ins C e (fP a b c))->(∀z o,H z=some o->z≠p->d z=some o)->Q .non d
def pP (T:Txt K mg):MO P w base mg 1 T.e71 (mh T.c7.a):=by
 refine T.e71.F.rd pL fun _ A _ s H j Q E m h=>?_;refine eao h fun p d a b c=>fae fun g i k=>?_;subst g;refine HzX ?_;intro _;refine⟨_,(fW (js (pv 0) (pv 1) rfl)
  (fW (js (pv 0) (pv 2) rfl)
  (f9 (js (pv 0) (pv 3) rfl)))),?_⟩;refine Hz2 ?_;intros;refine⟨_,rfl,_,rfl,p,T.c7.a,d,[],rfl,i,T.c7.cl,T.n7names,(by decide),?_⟩;refine⟨_,rfl,_,rfl,p,T.c7.a,d,_,rfl,f7,T.c7.cl,T.n7roots,(by show 1<1000;decide),?_⟩;refine⟨_,rfl,_,rfl,p,T.c7.a,d,_,rfl,f7,T.c7.cl,T.n7rows,(by show 2<1000;decide),?_⟩;refine k _ ?_ fun z o e f=>?_;·rw[f7];exact congrArg (fun l=>some (HO.ins T.c7.a d l)) (Kx a b c)
 ·rw[gy f,gy f,gy f];exact e
structure PrAt (C:Zx) (H:Hp) (g:Zx) (nl tl rl:Zx) (names roots rows:List V):Prop where
 ob:∃dx,H g=some (.ins C dx (fP nl tl rl))
 nm:H nl=some (.lst names)
 rt:H tl=some (.lst roots)
 rw:H rl=some (.lst rows)
 n1:nl≠tl
 n2:nl≠rl
 n3:tl≠rl
inductive Xrd (K:Zp) (C:Zx) (vs:List V) (H:Hp) (Q:VK):Prop
 |mk (x:Str) (ns:Zd) (ts:List Tr) (e:vs=[.str x]) (hx:x.length<=30000) (hw:wordsV x.cps.toList=(wj ns ts).map V.str) (W:WOk (wj ns ts)) (hl:ns.length=ts.length) (hn:∀n∈ns,isName n=true) (ho:oks ts) (hd:∀t∈ts,t.nest<=24) (hz:szs ts<=160) (h1:1<=ns.length) (h12:ns.length<=12)
  (q:∀g nl tl rl rtv rwv H',gJ H H'->PrAt C H' g nl tl rl (ns.map V.str) rtv rwv->mN K H' rtv ((i6 ts 0).map kD)->mN K H' rwv (rws ts 0)->Q (.ref g) H')
def F9 (K:Zp) (C:Zx):Sp:=fun a H Q _=>Xrd K C a H Q
def vM(c:H p=none) (a:H rl=none) (s:gJ H H1) (k:K2 p rl H1 H2):gJ H H2:=fun b o e=>k b o (s b o e) (gv e c) (gv e a)
def Ga (T:Txt K mg) (gD23:FO P w base 1 T.d23 tq) (gE72:MO P w base mg 1 T.e72 (mB T.c8.a))
  (gE73:MO P w base mg 1 T.e73 (iT K T.c8.a))
  (M:MO P w base mg 3 T.e75 (jm K T.c8.a))
  (gE76:MO P w base mg 3 T.e76 (jo K T.c8.a))
  (gE77:MO P w base mg (5*24+ 5) T.e77 (Hk K T.c8.a 24))
  (gD28:FO P w base 1 T.d28 jv)
  (gE71:MO P w base mg 1 T.e71 (mh T.c7.a)):
  FO P w base 126 T.d27 (F9 K T.c7.a):=by
 refine T.d27.F.rd vI fun _ A _ s H vs Q E O h=>?_;obtain⟨x,ns,ts,rfl,hx,hw,W,hl,hn,ho,hd,hz,h1,h12,q⟩:=h;refine HzX ?_;intro _;refine⟨_,(fW (pS (i:=1) vI.nd (va T.mk8 gE72 (O.mono O2) rfl T.c8.m T.e72.b .nil ik (fV (pF T.d23 gD23 (O.mono O2) (fV (pv 0) fY)) fY)))
  (fW (pS (i:=2) vI.nd (gG fY))
  (fW (pS (i:=3) vI.nd (gG fY))
  (fW (ow Mh (jD oP (jJ (pv 1) T.c8.cl T.e73.me gE73 (O.mono O2) T.e73.b .nil ik) gh)
   (fW (gK (gS (pv 1) T.c8.cl T.e75.me M (O.mono O2) T.e75.b .nil ik (fV gh fY)))
   (fW (gK (gS (pv 1) T.c8.cl T.e75.me M (O.mono O2) T.e75.b .nil ik (fV gh fY)))
   (fW (gK (jG eS eU eV gX (pv 2) (fV (jJ (pv 1) T.c8.cl T.e76.me gE76 (O.mono O2) T.e76.b .nil ik) fY)))
   (fW (gK (jG eS eU eV gX (pv 3) (fV (gS (pv 1) T.c8.cl T.e77.me gE77 (O.mono O2) T.e77.b .nil ik (fV fX fY)) fY)))
   (f9 (gK (gS (pv 1) T.c8.cl T.e75.me M (O.mono O2) T.e75.b .nil ik (fV gh fY)))))))))
  (fW (gK (pF T.d28 gD28 (O.mono O2) (fV gh (fV (gN gH rfl T.z_len iN (fV (pv 2) fY)) (fV fX (fV (vg rfl T.o7) fY))))))
  (f9 (gC (va T.mk7 gE71 (O.mono O2) rfl T.c7.m T.e71.b .nil ik (fV (pv 2) (fV (pv 3) (fV (qe (pv 1) rfl) fY))))))))))),?_⟩;refine Hz5 ?_;intros;have sl:=L9;refine⟨_,rfl,x,rfl,hx,fun N H1 s1 nwl J p r np ndx nex=>?_⟩;rw[hw]at J;generalize hws:wj ns ts=ws at W J;have wp:=gv J np;have wdx:=gv J ndx;refine io p r N ws (⟨rfl,f7,by rw[gy wp,gy wdx];exact J,fun G H2 nrl R2 keep=>⟨rfl,?_⟩⟩);have D:=s1.free np;have S1:gJ H (upd (upd H1 r (.own p)) p (.ins T.c8.a r [])):=vD _ D (vD _ (s1.free ndx) s1);have S:=S1.free nrl;have S2:gJ H H2:=fun b o e=>keep b o (S1 b o e) (gv e D);refine⟨p7,fun y F=>⟨p7,fun C B=>?_⟩⟩;have nn0:=S2.free F;have S3:gJ H (upd H2 y (.lst [])):=S2.trans (gb F _);have nt0:=S3.free B;have S4:gJ H (upd (upd H2 y (.lst [])) C (.lst [])):=S3.trans (gb B _);have R3:=R2.same (gb F (.lst []));have R4:RS K T.c8.a (upd (upd H2 y (.lst [])) C (.lst [])) p r N G ws ws []:=(ii 0 ([]) ⟨R3.same (gb B (.lst [])),rfl,cK _,.nil⟩);have R:=gv f7 B;have hN4:upd (upd H2 y (.lst [])) C (.lst []) y=some (.lst []):=by rw[gy R];exact f7
 have hT4:upd (upd H2 y (.lst [])) C (.lst []) C=some (.lst []):=f7;have pn:=Mu (gv R2.ob F);have rn:=Mu (gv R2.rw F);have pt:=Mu (gv R3.ob B);have rt:=Mu (gv R3.rw B);have wn:=Mu (gv R2.wd F);have wt:=Mu (gv R3.wd B);generalize hH4:upd (upd H2 y (.lst [])) C (.lst [])=H4 at R4 S4 hN4 hT4;have R4:RS K T.c8.a H4 p r N G ws (wj ns ts) []:=by rw[hws];exact R4
 refine⟨fun m σ H5=>∃(I:Zd) (u:List Tr) (d:Zd) (j:List Dt) (l:List V) (f:List Dt),m=u.length/\I.length=u.length/\(∀n∈I,isName n=true)/\oks u/\(∀t∈u,t.nest<=24)/\σ=[some (.str x),some (.ref p),some (.ref y),some (.ref C)]/\RS K T.c8.a H5 p r N G ws (wj I u) f/\gJ H H5/\H5 y=some (.lst (d.map V.str))/\H5 C=some (.lst l)/\mN K H5 l j/\d++I=ns/\j.length=d.length/\f.length+szs u<=160/\f++rws u f.length=rws ts 0/\j++(i6 u f.length).map kD=(i6 ts 0).map kD,
  (iad _ ns ts ([]) ([]) ([]) ([]) ⟨rfl,hl,hn,ho,hd,rfl,R4,S4,hN4,hT4,.nil,rfl,rfl,(by show 0+_<=_;lia),rfl,rfl⟩),?_⟩;refine fun m σ H5=>fat fun I u d j l f=>fau fun z0 hl5 hn5 ho5 hd5 z1 R5 S5 hN5 hT5 ht5 en hlr hrows e1 e2=>?_;subst z0;subst z1;obtain⟨k5,hk5⟩:=R5.ob;have lroot:=ht5.length;have ln:=congrArg aK en;rw[aR]at ln;refine⟨_,rfl,p,r,_,rfl,hk5,iM _ _ _ _ (.inl rfl),?_⟩;refine tn0 ⟨_,_,p,r,N,G,ws,rfl,R5,W,?_⟩;rintro _ H6 R6 k6 rfl;have Z:=k6 _ _ hN5 pn rn;have hT6:=k6 _ _ hT5 pt rt;have S6:=vM D S S5 k6;have ht6:=R5.tats k6 ht5;obtain⟨k6',hk6⟩:=R6.ob;refine⟨rfl,_,rfl,?_⟩
 cases u with
 |nil=>obtain rfl:=bW hl5;rw[aF]at en;rw[rws,aF]at e1;rw[i6,aW,aF]at e2;subst en e1 e2;have lm:(d.map V.str).length=d.length:=aE ..;refine ij ⟨_,rfl,y,_,rfl,.inl (NT Z),_,(d.map V.str).length,1,12,rfl,O2,O2,?_⟩;refine⟨_,rfl,_,rfl,_,rfl,p,_,r,_,_,rfl,hk6,T.c8.cl,T.n8rows,vC _ _ _,fun g dg ng ndg neg=>?_⟩;refine iab g dg y C G (⟨rfl,f7,fun H7 hg keep7=>⟨rfl,?_⟩⟩);have k7:gJ H6 H7:=fun b o e=>keep7 b o (by rw[gy (gv e ng),gy (gv e ndg)];exact e) (gv e ng);refine eaj R6 fun k rv R' g1 g2 g3=>?_;have kk:K2 p G H6 H7:=gJ.k2 k7;exact q g y C G l rv H7 (S6.trans k7) ⟨⟨dg,hg⟩,k7 _ _ Z,k7 _ _ hT6,k7 _ _ R'.rw,R,rn,rt⟩ (ht6.mono fun a xs t=>rZ.tpT R' kk t) (g3.mono fun a xs t=>rZ.tpT R' kk t)
 |cons t u=>
  cases I with
  |nil=>cases hl5
  |cons c I=>
   rw[oks]at ho5;rw[szs]at hrows;rw[rws,<-bU,<-rw_len]at e1;rw[i6,<-rw_len,aD]at e2;have ew:wj (c::I) (t::u)=("(":Str)::"def"::c::(t.tk++(")":Str)::wj I u):=by show dtk c t++wj I u=_;unfold dtk;rw[aU,aU,aU,bU];rfl
   rw[ew]at R6⊢;refine iK ⟨_,fun σ' H' z=>z,?_⟩;refine⟨_,rfl,p,r,_,rfl,hk6,iM _ _ _ _ O4,?_⟩;refine tc1 ⟨_,_,_,p,r,N,G,ws,rfl,R6,W,?_⟩;rintro _ H7 R7 k7 rfl;obtain⟨k7',hk7⟩:=R7.ob;refine⟨_,rfl,p,r,_,rfl,hk7,iM _ _ _ _ O4,?_⟩;refine tc1 ⟨_,_,_,p,r,N,G,ws,rfl,R7,W,?_⟩;rintro _ H8 R8 k8 rfl;have kk8:=k7.trans k8;obtain⟨k8',hk8⟩:=R8.ob;refine⟨_,rfl,.inl ⟨rfl,_,NT (kk8 _ _ Z pn rn)⟩,_,rfl,p,r,_,rfl,hk8,iM _ _ _ _ O4,?_⟩;refine tn0 ⟨_,_,_,hn5 c aj,p,r,N,G,ws,rfl,R8,W,?_⟩;rintro _ H9 R9 k9 rfl;have U:=kk8.trans k9;have hN9:=U _ _ Z pn rn;have hT9:=U _ _ hT6 pt rt;refine iaa y _ _ ⟨rfl,rfl,hN9,(by rw[aE];lia),?_⟩;have R10:=R9.other (o:= .lst (d.map V.str++[.str c])) hN9 pn wn rn;have S10:gJ H (upd H9 y (.lst (d.map V.str++[.str c]))):=vD _ nn0 (vM D S S6 U);have hT10:upd H9 y (.lst (d.map V.str++[.str c])) C=some (.lst l):=by rw[gy (Mu R)];exact hT9
   have ht10:=(R6.tats U ht6).other (o:= .lst (d.map V.str++[.str c])) hN9;obtain⟨k10',hk10⟩:=R10.ob;refine⟨_,rfl,.inl ⟨rfl,_,NT hT10⟩,_,rfl,p,r,_,rfl,hk10,iM _ _ _ _ O4,?_⟩;refine tc1 ⟨t,_,f,ho5.1,hd5 t aj,O2,p,r,N,G,ws,rfl,R10,W,?_⟩;rintro _ H11 R11 Y rfl;have hN11:=Y _ _ f7 pn rn;have L:=Y _ _ hT10 pt rt;refine iaa C _ _ ⟨rfl,rfl,L,O2,?_⟩;have R12:=R11.other (o:= .lst (l++[.int (f.length:Int)])) L pt wt rt;have ht12:=((R10.tats Y ht10).snoc (.flat (v:= .int (f.length:Int)) rfl)).other (o:= .lst (l++[.int (f.length:Int)])) L;have hN12:upd H11 C (.lst (l++[.int (f.length:Int)])) y=some (.lst (d.map V.str++[.str c])):=by rw[gy R];exact hN11
   have S12:gJ H (upd H11 C (.lst (l++[.int (f.length:Int)]))):=vD _ nt0 (vM D S S10 Y);obtain⟨k12',hk12⟩:=R12.ob;refine⟨_,rfl,p,r,_,rfl,hk12,iM _ _ _ _ O4,?_⟩;refine tc1 ⟨_,_,_,p,r,N,G,ws,rfl,R12,W,?_⟩;rintro _ H13 R13 X rfl;refine⟨u.length,cO _,I,u,d++[c],j++[kD f.length],_,_,rfl,da.inj hl5,(fun n h=>hn5 n (ak _ h)),ho5.2,(fun n h=>hd5 n (ak _ h)),rfl,R13,vM D S S12 X,?_,X _ _ f7 pt rt,R12.tats X ht12,?_,?_,by rw[rw_len];lia,e1,?_⟩;·rw[bq];exact X _ _ hN12 pn rn
   ·rw[bU];exact en
   ·rw[aR,aR,hlr];rfl
   ·rw[bU];exact e2
end K68.Internal
namespace K68.Internal
variable {H H2 H' H1:Hp} {xs ys vs:List V} {i j dn sn:Nat} {te:TE} {Q:VK} {τ σ:St} {f:Bool} {o:HO} {A:Mad} {B es:List Ent} {ρ:Ro} {roots ps rs:List Nat} {ρs:List Ro} {s':Ms} {h me ha de st wl ml lp td:Zx} {bg q:Int} {en:V} {sc:Ev} {sh mo:Str} {e:Ent} {ns us:Zd}
open PySem L2.Internal BO.Internal
seal L2.Internal.PE L2.Internal.PA L2.Internal.PS L2.Internal.PSs L2.Internal.PT L2.Internal.PI
def ip(s:gJ H H2) (h:H l=none) (o:HO):gJ H (upd H2 l o):=fun b u e=>by rw[gy (gv e h)];exact s b u e
abbrev Hm:=Str×Int
def hmD (h:Hm):Dt:= .tup [.flat (.str h.1),.flat (.int h.2)]
def Sc (H:Hp) (a:Zx) (g:Str->Option Hm) (n:Nat):Prop:=∃b:List (Key×V),H a=some (.dK b)/\b.length<=n/\∀w,match g w with
 |none=>jL b (.inr w)=none
 |some h=>∃t,jL b (.inr w)=some (.ref t)/\H t=some (.tup [.str h.1,.int h.2])
def Sc.same {a:Zx} {g:Str->Option Hm} {n:Nat} (h:Sc H a g n) (s:gJ H H'):Sc H' a g n:=by
 refine eak h fun b e l h=>?_;refine⟨b,s _ _ e,l,fun w=>?_⟩;have:=h w
 cases c:g w with
 |none=>rw[c]at this;exact this
 |some z=>rw[c]at this;refine eaa this fun t f d=>?_;exact⟨t,f,s _ _ d⟩
def wid (g:Str->Option Hm) (x:Str) (h:Hm):Str->Option Hm:=fun w=>if w=x then some h else g w
def AI:Sp:=fun d H Q _=>∃a t g n x h,d=[.ref a,.str x,.ref t]/\Sc H a g n/\n<10000/\H t=some (.tup [.str h.1,.int h.2])/\∀b c,gJ H c->H b=none->Sc c b (wid g x h) (n+ 1)->Q (.ref b) c
def uM (T:Txt K mg):FO P w base 1 T.d35 AI:=by
 refine T.d35.F.rd uL fun _ A _ s H L Q E D h=>?_;have C:=tY D;obtain⟨a,t,g,n,x,h,rfl,⟨c,e,l,F⟩,N,J,q⟩:=h;refine HzX ?_;intro _;refine⟨_,(fW (pS (i:=3) uL.nd (iS Ax rfl T.z_dict yf (fV (cv 0) fY)))
  (fW (nN C (cv 3) (cv 1) (cv 2) rfl)
  (f9 (gC (cv 3))))),?_⟩;refine Hz2 ?_;intros;have M:=L9;refine ii a c ⟨rfl,e,fun b m=>?_⟩;have j:=gb m (.dK c);have v:(upd H b (.dK c)) b=some (.dK c):=f7;dsimp only[gU];refine ii b _ ⟨rfl,x9.k (k:=Me x) v O2,?_⟩;have o:∀{y:Zx} {f:List V},H y=some (.tup f)->(upd (upd H b (.dK c)) b (.dK (mL c (Me x) (.ref t)))) y=some (.tup f):=fun{y f} u=>by rw[gy (lU (j _ _ u) v (fun h=>nomatch h))];exact j _ _ u
 refine q b _ (ip j m _) m ⟨_,f7,cF (iF _ _ _) O2,fun w=>?_⟩;unfold wid;by_cases hw:w=x;·rw[ig hw];exact⟨t,by rw[iX,ig (by rw[hw])],o J⟩
 ·rw[gZ hw];have d:=F w;have p:jL (mL c (Me x) (.ref t)) (.inr w)=jL c (.inr w):=by rw[iX,gZ (fun z=>hw (by injection z))]
  cases r:g w with
  |none=>rw[r]at d;exact p.trans d
  |some z=>rw[r]at d;refine eaa d fun B I G=>?_;exact⟨B,p.trans I,o G⟩
def tE:Sp:=fun d H Q _=>∃(a:Zx) (b:Zd),d=[.ref a]/\H a=some (.lst (b.map V.str))/\b.Nodup/\b.length<=10000/\∀c,gJ H c->Q .non c
def tF (T:Txt K mg):FO P w base 1 T.d30 tE:=by
 refine T.d30.F.rd lY fun _ A _ s H R Q E M h=>?_;have y:=tY M;refine eas h fun a j f e L W q=>?_;subst f;refine HzX ?_;intro _;refine⟨_,(fW (pS (i:=1) lY.nd qf)
  (f9 (jX Mh rfl (ke (cv 0)) (pN (i:=2) lY.nd)
   (fW (gM (si (zh y (cv 2) (cv 1)) rfl)
    (f9 lA)
    gA)
   (f9 (nN y (cv 1) (cv 2) qa rfl)))))),?_⟩;have U:=L9;intro d D;have p:=gb D (.dK []);have G:(upd H d (.dK [])) d=some (.dK []):=f7;dsimp only[gU];generalize upd H d (.dK [])=H1 at p G⊢;refine⟨a,rfl,⟨_,NT (p _ _ e)⟩,lQ (fun i l c=>∃(o:Option V) (b:List (Key×V)),l=[some (.ref a),some (.ref d),o]/\gJ H c/\c d=some (.dK b)/\b.length<=i/\∀w,w∉j.take i->jL b (.inr w)=none)
  (ii none ([]) ⟨rfl,p,G,cK _,fun _ _=>rfl⟩) (fun i l c _ ⟨_,_,_,S,_⟩=>NT (S _ _ e)) ?_ ?_⟩
 ·refine fun i v l c m=>fai fun o b f S F X B=>?_;subst f;have C:=(av.mp m).1;rw[aE]at C;rw[aP]at m;obtain⟨x,t⟩:∃x,j[i]?=some x:=⟨_,bE C⟩;rw[t]at m;cases m;have r:x∉j.take i:=fun N=>by
   have n:(j.take i++j.drop i).Nodup:=by rw[b9];exact L
   rw[List.nodup_append]at n;obtain⟨J,I⟩:=av.mp t;exact n.2.2 _ N _ (by rw[bS J,I];simp) rfl
  have g:=vc.k (k:=(Me x:Key)) F;rw[B x r]at g;refine ii d none ⟨rfl,g,_,rfl,ij ?_⟩;refine ii d _ ⟨rfl,x9.k (k:=Me x) F O2,_,_,rfl,ip S D _,f7,cF (iF _ _ _) O2,fun w u=>?_⟩;rw[iX];rw[cc,t]at u;have n:w≠x:=fun z=>u (by simp[z]);rw[gZ (fun z=>n (by injection z))];exact B w fun z=>u (au _ z)
 ·refine fun l c=>fac fun o b f S _=>?_;subst f;exact q c S
def uN:Sp:=fun b H Q _=>∃t a k g n s r,b=[.ref t,.int k,.ref a]/\H t=some (.tup (.str s::r))/\Sc H a g n/\(s≠"name"->Q .non H)/\(s="name"->∃x h,r=[.str x]/\g x=some h/\∀p,H p=some (.tup [.str h.1,.int h.2])->Q (.ref p) H)
def AJ (T:Txt K mg):FO P w base 1 T.d32 uN:=by
 refine T.d32.F.rd AE fun _ A _ s H D Q E v h=>?_;have d:=tY v;refine eav h fun t a k g n j r=>faj fun b c i o m=>?_;subst b;refine eak i fun u e l y=>?_;refine HzX ?_;intro _;refine⟨_,(fW (gM (gq Aq (gk gB (cv 0) fX) gh)
   (f9 (gC hG))
   gA)
  (fW (gM (si (Bo d (gk gB (cv 0) fX) (cv 2)) rfl)
   (f9 lA)
   gA)
  (f9 (gC (vd d (cv 2) (gk gB (cv 0) fX)))))),?_⟩;refine Hz2 ?_;intros;refine⟨_,c,gf (fZ rfl) ?_⟩;dsimp only[tC,cEq,onB];by_cases hs:j="name";·refine eap (m hs) fun x h b z q=>?_;subst b;rw[gT hs];have f:=y x;rw[z]at f;refine eaa f fun p C B=>?_;have g:=vc.k (k:=(Me x:Key)) e;rw[C]at g;exact ij ⟨_,c,gf (fZ rfl) (ii a _ (⟨rfl,g,_,rfl,ij ⟨_,c,gf (fZ rfl) (ii a _ ⟨rfl,g,q p B⟩)⟩⟩))⟩
 ·rw[hV hs];exact iK (o hs)
mutual
def flV:Dt->List V
 | .flat v=>[v]
 | .tup ds=>jS ds
 | .lst _=>[]
def jS:List Dt->List V
 |[]=>[]
 |d::ds=>flV d++jS ds
end
mutual
def okF:Dt->Bool
 | .flat v=>(match v with| .int _=>true| .str _=>true|_=>false)
 | .tup ds=>rJ ds
 | .lst _=>false
def rJ:List Dt->Bool
 |[]=>true
 |d::ds=>okF d&&rJ ds
end
theorem xo:∀l d,jS (l++[d])=jS l++flV d
 |[],d=>by simp[jS]
 |a::l,d=>by rw[aU,jS,jS,xo l d,bU]
theorem zG:∀{l:List Dt} {i:Nat} {d:Dt},rJ l=true->l[i]?=some d->okF d=true
 |a::l,0,d,h,e=>by cases e;rw[rJ,fg]at h;exact h.1
 |a::l,i+ 1,d,h,e=>by rw[rJ,fg]at h;rw[bJ]at e;exact zG h.2 e
theorem n8:∀l i,(jS (l.take i)).length<=(jS l).length
 |[],i=>by simp[jS]
 |a::l,0=>by simp[jS]
 |a::l,i+ 1=>by rw[List.take_succ_cons,jS,jS,aR,aR];have:=n8 l i;lia
theorem uO:∀{l:List Dt} {i:Nat} {d:Dt},l[i]?=some d->(flV d).length<=(jS l).length
 |a::l,0,d,e=>by cases e;rw[jS,aR];lia
 |a::l,i+ 1,d,e=>by rw[bJ]at e;have:=uO e;rw[jS,aR];lia
theorem jA:∀{xs:List V} {a:List Dt} {j:Nat} {x:V},Ims H xs a->xs[j]?=some x->∃d,a[j]?=some d/\Im H x d
 |_,_,0,_,.cons h _,e=>⟨_,rfl,by cases e;exact h⟩
 |_,_,j+ 1,_,.cons _ t,e=>by rw[bJ]at e;refine eaa (jA t e) fun d c b=>?_;exact⟨d,by rw[bJ];exact c,b⟩
def B7 (n:Nat):Sp:=fun d H Q _=>∃t c a,d=[.ref t]/\H t=some (.tup c)/\Ims H c a/\rJ a=true/\i8 a<n/\(jS a).length<=10000/\∀l b,gJ H b->H l=none->b l=some (.lst (jS a))->Q (.ref l) b
def Gb (T:Txt K mg):∀n,FO P w base (n+ 1) T.d3 (B7 n):=by
 intro n
 induction n with
 |zero=>refine T.d3.F.rd vH fun M A p s H vs Q E N h=>?_;refine eag h fun t k u=>fap fun m L F y O hl q=>?_;subst m;exact absurd O (dh _)
 |succ n ih=>
  have J:=ih;refine T.d3.F.rd vH fun M A p s H vs Q E N h=>?_;refine eag h fun t k u=>fap fun m L F y O hl q=>?_;subst m;refine HzX ?_;intro _;refine⟨_,(fW (pS (i:=1) vH.nd (gG fY))
  (fW (jX Mh rfl (qd (cv 0)) (pN (i:=2) vH.nd)
   (f9 (gM (jC (gN mQ rfl T.z_isinstance jg (fV (cv 2) (fV (sA rfl T.z_tuple mv) fY))))
    (f9 (gK (jG eS PySem.F.slot_list_extend PySem.F.type_list_extend Bv (cv 1) (fV (pF T.d3 J (N.mono O2) (fV (cv 2) fY)) fY))))
    (f9 (gK (iW (jG eS eU eV gX (NS (cv 1)) (fV (NS (cv 2)) fY))))))))
  (f9 (gC (cv 1))))),?_⟩;refine Hz2 ?_;intros;have sl:=L9;have lx:=F.length;refine⟨p7,fun f C=>?_⟩;have D:=gb C (.lst []);have W:(upd H f (.lst [])) f=some (.lst []):=f7;dsimp only[gU];generalize upd H f (.lst [])=H1 at D W⊢;refine⟨t,rfl,⟨_,NX (D _ _ L)⟩,xZ (fun i B g=>∃o,B=[some (.ref t),some (.ref f),o]/\gJ H g/\g f=some (.lst (jS (u.take i)))) ⟨none,rfl,D,by simpa[jS]using W⟩ (fun i B g _ ⟨_,_,S,_⟩=>NX (S _ _ L)) ?_ ?_⟩
  ·refine fun i v B g hv=>fav fun o m S e=>?_;subst m;refine eaa (jA F hv) fun d j G=>?_;have z:=G.mono (gJ.tk S);have c:=zG y j;have tl:=n8 u i;have U:=uO j;have b:jS (u.take (i+ 1))=jS (u.take i)++flV d:=by rw[cc,j];exact xo _ _
   cases z with
   |flat hfl=>
    rw[flV]at b U;have X:(∃k,g f=some (.lst k))/\∃k,g f=some (.lst k)/\k.length<sizeLine/\∃o,[some (V.ref t),some (V.ref f),some v]=[some (V.ref t),some (.ref f),o]/\gJ H (upd g f (.lst (k++[v])))/\(upd g f (.lst (k++[v]))) f=some (.lst (jS (u.take (i+ 1)))):=
     ⟨⟨_,e⟩,_,e,O2,_,rfl,ip S C _,by rw[f7,b]⟩
    cases v with
    |int n=>exact iab _ _ _ _ false ⟨rfl,fun _ r=>r,.int n,rfl,_,rfl,ij X⟩
    |str x=>exact iab _ _ _ _ false ⟨rfl,fun _ r=>r,.str x,rfl,_,rfl,ij X⟩
    |_=>simp[okF]at c
   |@tup a Z es R hs=>rw[flV]at b U;rw[okF]at c;have I:=L2.Internal.depDs_get j;rw[vk]at I;refine iab _ _ _ _ true (⟨rfl,fun _ r=>r,.tup R,rfl,_,rfl,iK ⟨.inl ⟨rfl,_,NT e⟩,a,Z,es,rfl,R,hs,c,O2,O2,fun l H3 Y hl3 e3=>?_⟩⟩);refine io f l _ _ ⟨rfl,rfl,Y _ _ e,e3,?_,_,rfl,ip (S.trans Y) C _,by rw[f7,b]⟩;have h1:=n8 u (i+ 1);rw[b,aR]at h1;lia
  ·refine fun B g=>fav fun o m S e=>?_;subst m;rw[cg O2]at e;exact q f g S C e
inductive Ro
 |num (n:Int)
 |name (w:Str)
 |fn (w:Str) (k:Int)
 |tag (w:Str) (k:Int)
 |lt (w:Str) (a b:Int)
 |get (k:Int) (w:Str)
 |rcd (l:List (Str×Int))
 |case (k:Int) (l:List (Str×Str×Int))
 |row (ks:List Int)
 |op (s:Str) (ks:List Int)
def kD (k:Int):Dt:= .flat (.int k)
def sD (s:Str):Dt:= .flat (.str s)
def fdD (p:Str×Int):Dt:= .tup [sD p.1,kD p.2]
def amD (p:Str×Str×Int):Dt:= .tup [sD p.1,sD p.2.1,kD p.2.2]
def Ro.s:Ro->Str
 | .num _=>"num"
 | .name _=>"name"
 | .fn _ _=>"fn"
 | .tag _ _=>"tag"
 | .lt _ _ _=>"let"
 | .get _ _=>"get"
 | .rcd _=>"rec"
 | .case _ _=>"case"
 | .row _=>"row"
 | .op s _=>s
noncomputable def Ro.r:Ro->List Dt
 | .num n=>[kD n]
 | .name w=>[sD w]
 | .fn w k=>[sD w,kD k]
 | .tag w k=>[sD w,kD k]
 | .lt w a b=>[sD w,kD a,kD b]
 | .get k w=>[kD k,sD w]
 | .rcd l=>[.tup (l.map fdD)]
 | .case k l=>[kD k,.tup (l.map amD)]
 | .row ks=>[.tup (ks.map kD)]
 | .op _ ks=>ks.map kD
def Ro.d (a:Ro):Dt:= .tup (sD a.s::a.r)
def plain:List Str:=["size","at","call","join","add","sub","less"]
def Ro.ok:Ro->Prop
 | .rcd l=>l.length<=100/\(l.map Mb).Nodup
 | .case _ l=>l.length<=100/\(l.map Mb).Nodup
 | .row ks=>ks.length<=100
 | .op s ks=>s∈plain/\ks.length<=100
 |_=>True
noncomputable def Ro.pl:Ro->List Int
 | .num _=>[]
 | .name _=>[]
 | .fn _ k=>[k]
 | .tag _ k=>[k]
 | .lt _ a b=>[a,b]
 | .get k _=>[k]
 | .rcd l=>l.map MC
 | .case k l=>k::l.map fun p=>p.2.2
 | .row ks=>ks
 | .op _ ks=>ks
def Ro.pt:Ro->List V
 | .num _=>[]
 | .name _=>[]
 |ρ=>jS ρ.r
theorem AK:∀a:List Int,rJ (a.map kD)=true/\jS (a.map kD)=a.map V.int/\i8 (a.map kD)=0
 |[]=>⟨by simp[rJ],by simp[jS],by simp[i8]⟩
 |k::a=>by
  refine eac (AK a) fun d c b=>?_;refine⟨?_,?_,?_⟩;·rw[aD,rJ,d];rfl
  ·rw[aD,jS,c];rfl
  ·rw[aD,i8,b];rfl
theorem Iq:∀l:List (Str×Int),rJ (l.map fdD)=true/\(jS (l.map fdD)).length=2*l.length/\i8 (l.map fdD)<=1
 |[]=>⟨by simp[rJ],by simp[jS],by simp[i8]⟩
 |k::ks=>by
  refine eac (Iq ks) fun c b a=>?_;refine⟨?_,?_,?_⟩;·rw[aD,rJ,c];rfl
  ·rw[aD,jS,aR,b];show 2+_=_;rw[aB];lia
  ·rw[aD,i8];exact Nat.max_le.mpr ⟨cJ 1,a⟩
theorem Ir:∀l:List (Str×Str×Int),rJ (l.map amD)=true/\(jS (l.map amD)).length=3*l.length/\i8 (l.map amD)<=1
 |[]=>⟨by simp[rJ],by simp[jS],by simp[i8]⟩
 |k::ks=>by
  refine eac (Ir ks) fun c b a=>?_;refine⟨?_,?_,?_⟩;·rw[aD,rJ,c];rfl
  ·rw[aD,jS,aR,b];show 3+_=_;rw[aB];lia
  ·rw[aD,i8];exact Nat.max_le.mpr ⟨cJ 1,a⟩
def Ro.fl (d:Ro) (h:d.ok):rJ d.r=true/\i8 d.r<3/\(jS d.r).length<=10000:=by
 cases d with
 |rcd l=>
  refine eac (Iq l) fun c b e=>?_;have f:=h.1;refine⟨?_,?_,?_⟩;·show rJ [.tup (l.map fdD)]=true;rw[rJ,okF,c,rJ];rfl
  ·show i8 [.tup (l.map fdD)]<3;rw[i8,vk,i8];lia
  ·show(jS [.tup (l.map fdD)]).length<=_;rw[jS,flV,jS,aF,b];lia
 |case k l=>
  refine eac (Ir l) fun c b e=>?_;have f:=h.1;refine⟨?_,?_,?_⟩;·show rJ [kD k,.tup (l.map amD)]=true;simp[rJ,okF,kD,c]
  ·show i8 [kD k,.tup (l.map amD)]<3;simp only[i8,vk,kD];lia
  ·show(jS [kD k,.tup (l.map amD)]).length<=_;simp only[jS,flV,kD,aF,aR,b,bc];lia
 |row a=>
  refine eac (AK a) fun c b e=>?_;have f:a.length<=100:=h;refine⟨?_,?_,?_⟩;·show rJ [.tup (a.map kD)]=true;rw[rJ,okF,c,rJ];rfl
  ·show i8 [.tup (a.map kD)]<3;rw[i8,vk,i8,e];lia
  ·show(jS [.tup (a.map kD)]).length<=_;rw[jS,flV,jS,aF,b,aE];lia
 |op s a=>refine eac (AK a) fun c b e=>?_;have f:=h.2;exact⟨c,by show i8 (a.map kD)<3;lia,by show(jS (a.map kD)).length<=_;rw[b,aE];lia⟩
 |_=>exact⟨rfl,by simp[Ro.r,kD,sD,i8,vk],by simp[Ro.r,kD,sD,jS,flV]⟩
def Iu (y:V) (a:List V):nO (y::a) (some 1) none=a/\¬(N8 (y::a).length 0 (some 1)=0/\N8 (y::a).length (y::a).length none=(y::a).length):=by
 have e:N8 (y::a).length 0 (some 1)=1:=by show N8 (y::a).length 0 (some ((1:Nat):Int))=1;rw[Of,aB];lia
 refine⟨?_,fun h=>by rw[e]at h;exact absurd h.1 O3⟩;unfold nO;rw[e,Od,List.drop_succ_cons,cj,aB,Nat.add_sub_cancel,bA]
def KA (a:Ro) (h:a.ok):inV (.str a.s) [.str "num",.str "name"]=(match a with| .num _=>true| .name _=>true|_=>false):=by
 cases a with
 |op s c=>have b:=h.1;show inV (.str s) _=false;simp only[plain,ao,bI,or_false]at b;rcases b with rfl|rfl|rfl|rfl|rfl|rfl|rfl<;>decide+kernel
 |_=>simp only[Ro.s];decide+kernel
def yv:Sp:=fun c H Q _=>∃(t:Zx) (a:Ro),c=[.ref t]/\Im H (.ref t) a.d/\a.ok/\∀l b,gJ H b->H l=none->b l=some (.lst a.pt)->Q (.ref l) b
def yw (T:Txt K mg):FO P w base 5 T.d1 yv:=by
 have x:=Gb (P:=P) (w:=w) (base:=base) T 3;refine T.d1.F.rd yj fun _ A _ s H W Q E F h=>?_;refine eaj h fun t d D I B q=>?_;subst D;refine HzX ?_;intro _;refine⟨_,(fW (gM (gq iO (gk gB (cv 0) fX) (iB (fV gh (fV gh fY))) rfl)
   (f9 (gC (gG fY)))
   gA)
  (f9 (gC (pF T.d3 x F.m (fV (iY Ep (cv 0) (jF fX) jE) fY))))),?_⟩;have X:=L9;refine eac (d.fl B) fun N M L=>?_
 cases I with
 |@tup _ m _ C u=>
  cases u with
  |@cons y _ m _ J u=>
   cases J;refine⟨_,C,gf (fZ rfl) ?_⟩;refine⟨lJ,fun p G=>(ii p ([.str "num",.str "name"]) ⟨rfl,.inr (NX f7),rfl,rfl,?_⟩)⟩;have g:=gb G (.tup [.str "num",.str "name"]);generalize upd H p (.tup [.str "num",.str "name"])=H1 at g⊢;dsimp only[onB];rw[show(if false=true then !inV (.str d.s) [.str "num",.str "name"]else inV (.str d.s) [.str "num",.str "name"])=_ from KA d B];have j:d.pt=[]->(Eh (AS x8) {nx:=fun _ z=>Q .non z,rt:=Q}:St->Hp->Prop) [some (.ref t)] H1:=fun e=>⟨p7,fun l o=>q l _ (g.trans (gb o _)) (g.free o) (by rw[f7,e])⟩;have f:d.pt=jS d.r->∃n,V.int 1= .int n/\∃a i,V.ref t= .ref a/\SqT K H1 a i/\¬(N8 i.length 0 (some n)=0/\N8 i.length i.length none=i.length)/\∀k,H1 k=none->B7 3 [.ref k] (upd H1 k (.tup (nO i (some n) none))) Q E:=fun e=>by obtain⟨U,R⟩:=Iu (.str d.s) m;refine⟨1,rfl,t,_,rfl,NX (g _ _ C),R,fun k v=>?_⟩;rw[U];have r:=gb v (.tup m);exact iaa k m d.r ⟨rfl,f7,u.mono (gJ.tk (g.trans r)),N,M,L,fun l z S o O=>q l z ((g.trans r).trans S) ((g.trans r).free o) (by rw[O,e])⟩
   cases d with
   |num n=>exact iK (j rfl)
   |name n=>exact iK (j rfl)
   |fn a b=>exact ij (f rfl)
   |tag a b=>exact ij (f rfl)
   |lt a b c=>exact ij (f rfl)
   |get a b=>exact ij (f rfl)
   |rcd a=>exact ij (f rfl)
   |case a b=>exact ij (f rfl)
   |row a=>exact ij (f rfl)
   |op a b=>exact ij (f rfl)
def EC(p:V->Bool) (g:V->V) (F:H1 D=none) (K:xs.length<=sizeLine) (hτ:d.set i none=d)
  (s:∀k H,gJ H1 H->k<xs.length->J.go k H) (C:∀k H v c,gJ H1 H->k<xs.length->J.yld k H v c->c=H/\xs[k]?=some v) (q:∀H,gJ H1 H->J.stop xs.length H)
  (l:∀(k:Nat) v H R,xs[k]?=some v->gJ H1 H->R (p v) H->tt (d.set i (some v)) H R)
  (n:∀(k:Nat) v H R,xs[k]?=some v->p v=true->gJ H1 H->R (g v) H->te (d.set i (some v)) H R)
  (E:∀c,gJ H1 c->c D=some (.lst ((xs.filter p).map g))->Q (.ref D) c):LcP J i tt te Q d H1 D:=by
 have a:∀o,gJ H1 (upd H1 D o):=fun o b u e=>by rw[gy (gv e F)];exact e
 refine⟨fun k m f w=>m=xs.length-k/\k<=xs.length/\(∃o,f=d.set i o)/\w=upd H1 D (.lst (((xs.take k).filter p).map g)),⟨xs.length,O4,cK _,⟨none,hτ.symm⟩,O4⟩,?_⟩;refine fun k m f w=>fam fun A L B z=>?_;subst A;obtain⟨o,x⟩:=B;subst x;subst z;by_cases hlt:k<xs.length
 ·refine .inr ⟨s k _ (a _) hlt,fun v G y=>?_⟩;obtain⟨e,j⟩:=C k _ v G (a _) hlt y;subst e;rw[bw];refine l k v _ _ j (a _) ?_;have t:=take_succ_filter p xs k v j;have I:((xs.take k).filter p).length<=k:=by refine cF (bx _ _) ?_;rw[aM];lia
  cases r:p v with
  |true=>rw[ig rfl];refine n k v _ _ j r (a _) ?_;refine⟨_,f7,by rw[aE];lia,xs.length-(k+ 1),O2,rfl,hlt,⟨some v,rfl⟩,?_⟩;rw[uY,t,r,ig rfl,bq];rfl
  |false=>rw[gZ fc];refine⟨xs.length-(k+ 1),O2,rfl,hlt,⟨some v,rfl⟩,?_⟩;rw[t,r,gZ fc,aF]
 ·have e:k=xs.length:=O2
  subst e;refine .inl ⟨q _ (a _),E _ (a _) ?_⟩;rw[f7,bA]
def isI:V->Bool
 | .int _=>true
 |_=>false
theorem B8:∀a:List Int,(a.map V.int).filter isI=a.map V.int
 |[]=>rfl
 |k::a=>by rw[aD,List.filter_cons_of_pos rfl,B8 a]
theorem ED:∀l:List (Str×Int),(jS (l.map fdD)).filter isI=(l.map MC).map V.int
 |[]=>by simp[jS]
 |p::l=>by have:=ED l;rw[aD,jS,bP,this];rfl
theorem EE:∀l:List (Str×Str×Int),(jS (l.map amD)).filter isI=(l.map fun p=>p.2.2).map V.int
 |[]=>by simp[jS]
 |p::l=>by have:=EE l;rw[aD,jS,bP,this];rfl
def Ro.pt_pl (b:Ro):b.pt.filter isI=b.pl.map V.int:=by
 cases b with
 |rcd l=>show(jS [.tup (l.map fdD)]).filter isI=_;rw[jS,flV,jS,aF];exact ED l
 |case k l=>show(jS [kD k,.tup (l.map amD)]).filter isI=_;rw[jS,jS,jS,flV,aF,bP,EE l];rfl
 |row a=>show(jS [.tup (a.map kD)]).filter isI=_;rw[jS,flV,jS,aF,(AK a).2.1];exact B8 a
 |op s a=>show(jS (a.map kD)).filter isI=_;rw[(AK a).2.1];exact B8 a
 |_=>rfl
def Ro.pt_le (a:Ro) (h:a.ok):a.pt.length<=10000:=by
 have:=(a.fl h).2.2
 cases a with
 |num n=>exact cK _
 |name n=>exact cK _
 |_=>exact this
def Iv:∀d,okF d=true->∀v∈flV d,(∃n,v= .int n)\/∃s,v= .str s:=by
 intro d;refine Dt.rec (motive_2:=fun b=>rJ b=true->∀v∈jS b,(∃n,v= .int n)\/∃s,v= .str s) ?_ ?_ ?_ ?_ ?_ d;·intro v h x f;rw[flV,bo]at f;subst f;cases x<;>first|exact .inl ⟨_,rfl⟩|exact .inr ⟨_,rfl⟩|simp[okF]at h
 ·intro b e h v hv;rw[flV]at hv;rw[okF]at h;exact e h v hv
 ·intro b e h;rw[okF]at h;cases h
 ·intro _ v hv;rw[jS]at hv;cases hv
 ·intro d b i g h v hv;rw[jS]at hv;rw[rJ,fg]at h;rcases aq.mp hv with hv|hv;·exact i h.1 v hv
  ·exact g h.2 v hv
def Ro.pt_is (a:Ro) (h:a.ok):∀v∈a.pt,(∃n,v= .int n)\/∃s,v= .str s:=by
 have d:=(a.fl h).1;have c:=Iv (.tup a.r) (by rw[okF];exact d);rw[flV]at c
 cases a with
 |num n=>intro v b;cases b
 |name n=>intro v b;cases b
 |_=>exact c
def xq:Sp:=fun c H Q _=>∃(t:Zx) (a:Ro),c=[.ref t]/\Im H (.ref t) a.d/\a.ok/\∀l b,gJ H b->H l=none->b l=some (.lst (a.pl.map V.int))->Q (.ref l) b
def rK (T:Txt K mg):FO P w base 6 T.d2 xq:=by
 refine T.d2.F.rd xg fun _ A _ s H z Q E o h=>?_;refine eaj h fun t a m p d q=>?_;subst m;refine⟨_,(f9 (gC (qG rfl (DM rfl gL gL rfl rfl) (ke (pF T.d1 (yw T) o.m (fV (cv 0) fY))) (fun _ _ _ _ _=>(yg (jC (gN (r:=rIsi K) mQ rfl T.z_isinstance jg (fV (cv 0) (fV (sA rfl T.z_int wM) fY)))))) (fun _ _ _ _ _=>(cv 0))))),?_⟩;have B:=L9;have C:=a.pt_le d;refine ii t a (⟨rfl,p,d,fun l I i G c=>⟨l,rfl,⟨_,NT c⟩,fun D g=>?_⟩⟩);refine EC isI id g O2 rfl (fun k H S h=>zm c S h) (fun k H v j S h y=>⟨y.1,y.2 _ (NT (S _ _ c))⟩) (fun H S=>zo c S) ?_ ?_ ?_
 ·intro k v u R f S b;rcases a.pt_is d v (aQ f)with⟨n,rfl⟩|⟨x,rfl⟩;·exact iab _ _ _ _ true ⟨rfl,fun _ r=>r,.int n,rfl,_,rfl,b⟩
  ·exact iab _ _ _ _ false ⟨rfl,fun _ r=>r,.str x,rfl,_,rfl,b⟩
 ·intro k v u R f F S b;exact b
 ·intro j S e;rw[List.map_id,a.pt_pl]at e;exact q D j (i.trans S) (i.free g) e
def Ro.ws:Ro->List Str
 | .rcd l=>l.map Mb
 | .case _ l=>l.map Mb
 |_=>[]
def Ro.ws_nd (a:Ro) (h:a.ok):a.ws.Nodup/\a.ws.length<=100:=by
 cases a with
 |rcd l=>exact⟨h.2,by show(l.map Mb).length<=_;rw[aE];exact h.1⟩
 |case k l=>exact⟨h.2,by show(l.map Mb).length<=_;rw[aE];exact h.1⟩
 |_=>exact⟨aX,cK _⟩
def oP (a:Ro) (h:a.ok) (x:Str) (c:x∈(["rec","case","fn","let","name","num"]:Zd)):(∃s b,a= .op s b)->decide (a.s=x)=false:=by refine fL fun s b e=>?_;subst e;have d:=h.1;show decide (s=x)=false;simp only[plain,ao,bI,or_false]at d c;rcases d with rfl|rfl|rfl|rfl|rfl|rfl|rfl<;>rcases c with rfl|rfl|rfl|rfl|rfl|rfl<;>decide+kernel
def Ro.isR:Ro->Bool
 | .rcd _=>true
 |_=>false
def Ro.isC:Ro->Bool
 | .case _ _=>true
 |_=>false
def Ro.isF:Ro->Bool
 | .fn _ _=>true
 |_=>false
def Ro.isL:Ro->Bool
 | .lt _ _ _=>true
 |_=>false
def Ro.hd (d:Ro) (h:d.ok):decide (d.s="rec")=d.isR/\decide (d.s="case")=d.isC/\decide (d.s="fn")=d.isF/\decide (d.s="let")=d.isL:=by
 cases d with
 |op s e=>exact⟨oP _ h _ gL (ii s e rfl),oP _ h _ gL (ii s e rfl),oP _ h _ gL (ii s e rfl),oP _ h _ gL (ii s e rfl)⟩
 |num a=>exact(show decide (("num":Str)="rec")=false/\decide (("num":Str)="case")=false/\decide (("num":Str)="fn")=false/\decide (("num":Str)="let")=false from by decide+kernel)
 |name a=>exact(show decide (("name":Str)="rec")=false/\decide (("name":Str)="case")=false/\decide (("name":Str)="fn")=false/\decide (("name":Str)="let")=false from by decide+kernel)
 |fn a b=>exact(show decide (("fn":Str)="rec")=false/\decide (("fn":Str)="case")=false/\decide (("fn":Str)="fn")=true/\decide (("fn":Str)="let")=false from by decide+kernel)
 |tag a b=>exact(show decide (("tag":Str)="rec")=false/\decide (("tag":Str)="case")=false/\decide (("tag":Str)="fn")=false/\decide (("tag":Str)="let")=false from by decide+kernel)
 |lt a b c=>exact(show decide (("let":Str)="rec")=false/\decide (("let":Str)="case")=false/\decide (("let":Str)="fn")=false/\decide (("let":Str)="let")=true from by decide+kernel)
 |get a b=>exact(show decide (("get":Str)="rec")=false/\decide (("get":Str)="case")=false/\decide (("get":Str)="fn")=false/\decide (("get":Str)="let")=false from by decide+kernel)
 |rcd a=>exact(show decide (("rec":Str)="rec")=true/\decide (("rec":Str)="case")=false/\decide (("rec":Str)="fn")=false/\decide (("rec":Str)="let")=false from by decide+kernel)
 |case a b=>exact(show decide (("case":Str)="rec")=false/\decide (("case":Str)="case")=true/\decide (("case":Str)="fn")=false/\decide (("case":Str)="let")=false from by decide+kernel)
 |row a=>exact(show decide (("row":Str)="rec")=false/\decide (("row":Str)="case")=false/\decide (("row":Str)="fn")=false/\decide (("row":Str)="let")=false from by decide+kernel)
def vN{i:Type} {f:i->Dt} {g:i->Str} {l:List i} (e:H1 a=some (.tup r)) (I:Ims H1 r (l.map f)) (G:l.length<=100) (B:H1 D=none) (hτ:n.set 0 none=n)
  (w:∀x v H (R:VK),Im H v (f x)->R (.str (g x)) H->te (n.set 0 (some v)) H R)
  (z:∀c,gJ H1 c->c D=some (.lst ((l.map g).map V.str))->Q (.ref D) c):LcP (Itt K a) 0 sE te Q n H1 D:=by
 have F:=L9;have s:=I.length;rw[aE]at s;refine sH l.length O2 (fun j H=>j=((l.take j.length).map g).map V.str) (fun r H c h _=>h) B hτ (fun k H S h=>zp e S O2) (fun H S=>by rw[<-s];exact zq e S) rfl ?_ ?_;·intro k H v E j Z S A y b m u;obtain⟨rfl,o⟩:=y;have o:=o _ (NX (S _ _ e));refine eaa (jA I o) fun d q p=>?_;rw[aP]at q;obtain⟨x,t⟩:∃x,l[k]?=some x:=⟨_,bE A⟩;rw[t]at q;cases q;refine w x v E Z (p.mono (gJ.tk S)) (u _ _ (gJ.refl _) ?_);rw[aR,m,bc,cc,t,bq,bq,<-m,<-b];rfl
 ·intro c j S b m C;rw[m,bA]at b;exact z c S (by rw[C,b])
def vO:Sp:=fun c H Q _=>∃(t:Zx) (a:Ro),c=[.ref t]/\Im H (.ref t) a.d/\a.ok/\∀l b,gJ H b->H l=none->b l=some (.lst (a.ws.map V.str))->Q (.ref l) b
def vP (T:Txt K mg):FO P w base 1 T.d31 vO:=by
 refine T.d31.F.rd vJ fun _ A _ s H U Q E W h=>?_;refine eaj h fun t m G M u q=>?_;subst G;refine HzX ?_;intro _;refine⟨_,(fW (gM (gq iA (gk gB (cv 0) fX) gh)
   (f9 (gC (qG rfl (DM rfl gL gL rfl rfl) (qd (gk gB (cv 0) fX)) (fun _ _ _ _ _=>kS) (fun _ _ _ _ _=>(gk gB (cv 0) fX)))))
   gA)
  (fW (gM (gq iA (gk gB (cv 0) fX) gh)
   (f9 (gC (qG rfl (DM rfl gL gL rfl rfl) (qd (gk gB (cv 0) fX)) (fun _ _ _ _ _=>kS) (fun _ _ _ _ _=>(gk gB (cv 0) fX)))))
   gA)
  (f9 (gC (gG fY))))),?_⟩;refine Hz2 ?_;intros;have V:=L9;refine ean (m.hd u) fun N F _ _=>?_
 cases M with
 |@tup _ I _ i f=>
  cases f with
  |@cons y _ I _ L f=>
   cases L;refine⟨_,i,gf (fZ rfl) ?_⟩;dsimp only[tC,cEq,onB];rw[fj,N];have o:m.ws=[]->(Eh (AS x8) {nx:=fun _ j=>Q .non j,rt:=Q}:St->Hp->Prop) [some (.ref t)] H:=fun e=>⟨p7,fun l C=>q l _ (gb C _) C (by rw[f7,e];rfl)⟩
   cases m with
   |rcd l=>
    refine iK ?_
    cases f with
    |cons p _=>
     cases p with
     |@tup n J _ b c=>
      refine⟨_,i,gf (fZ rfl) ⟨n,rfl,⟨_,NX b⟩,fun D g=>?_⟩⟩;refine vN b c u.1 g rfl ?_ (fun j S e=>q D j S g e);intro x v O R r z
      cases r with
      |tup B d=>
       cases d with
       |cons a _=>cases a;exact⟨_,B,gf (fZ rfl) z⟩
   |case k l=>
    refine ij ⟨_,i,gf (fZ rfl) ?_⟩;dsimp only[tC,cEq,onB];rw[fj,F];refine iK ?_
    cases f with
    |cons _ f=>
     cases f with
     |cons p _=>
      cases p with
      |@tup n J _ b c=>
       refine⟨_,i,gf (fZ rfl) ⟨n,rfl,⟨_,NX b⟩,fun D g=>?_⟩⟩;refine vN b c u.1 g rfl ?_ (fun j S e=>q D j S g e);intro x v O R r z
       cases r with
       |tup B d=>
        cases d with
        |cons a _=>cases a;exact⟨_,B,gf (fZ rfl) z⟩
   |_=>refine ij ⟨_,i,gf (fZ rfl) ?_⟩;dsimp only[tC,cEq,onB];rw[fj,F];exact ij (o rfl)
def exG (g:Str->Option Hm):Option (Str×Hm)->(Str->Option Hm)
 |none=>g
 |some (x,h)=>wid g x h
noncomputable def Ro.ex:Ro->List (Option (Str×Hm))
 | .fn w k=>[some (w,("fn",k))]
 | .lt w a _=>[none,some (w,("let",a))]
 | .case _ l=>none::l.map fun p=>some (p.2.1,("arm",p.2.2))
 |ρ=>ρ.pl.map fun _=>none
def Sc.le {a:Zx} {g:Str->Option Hm} {n m:Nat} (h:Sc H a g n) (l:n<=m):Sc H a g m:=by refine eak h fun b e c h=>?_;exact⟨b,e,cF c l,h⟩
def Sc.upd {a d:Zx} {g:Str->Option Hm} {n:Nat} {j:List (Key×V)} (h:Sc H a g n) (e:H d=some (.dK j)) (i:a≠d):Sc (NR H d o) a g n:=by
 refine eak h fun b m l h=>?_;refine⟨b,by rw[gy i];exact m,l,fun w=>?_⟩;have:=h w
 cases c:g w with
 |none=>rw[c]at this;exact this
 |some z=>rw[c]at this;refine eaa this fun t k f=>?_;exact⟨t,k,by rw[gy (lU f e (fun z=>nomatch z))];exact f⟩
def Sc.dk {a:Zx} {g:Str->Option Hm} {n:Nat} (h:Sc H a g n):∃c,H a=some (.dK c):=by refine eaa h fun b e _=>?_;exact⟨b,e⟩
def zH{k:Key} (v:V) (a:(kvs.map (·.1)).Nodup):((mL kvs k v).map (·.1)).Nodup:=by
 cases q:jL kvs k with
 |none=>exact FH v a q
 |some x=>
  have e:(mL kvs k v).map (·.1)=kvs.map (·.1):=by unfold mL;rw[mq,q];rw[ig (show(some x).isSome=true from rfl),bH];refine bY fun p _=>?_;show(if p.1=k then(p.1,v)else p).1=p.1;split<;>rfl
  rw[e];exact a
theorem nk:∀a b k,(a.map (·.1)).Nodup->jL (kq b a) k=match jL a k with|some v=>some v|none=>jL b k
 |[],b,k,_=>rfl
 |p::a,b,k,nd=>by
  obtain⟨d,c⟩:=aG.mp (show(p.1::a.map (·.1)).Nodup from nd);show jL (kq (mL b p.1 p.2) a) k=_;rw[nk a _ k c];by_cases e:p.1=k
  ·rw[jd e];have:jL a k=none:=by
    cases q:jL a k with
    |none=>rfl
    |some x=>exact absurd (FF q) (by rw[<-e];exact d)
   rw[this];rw[iX,ig e.symm]
  ·rw[jf e]
   cases q:jL a k with
   |some x=>rfl
   |none=>rw[iX,gZ (fun z=>e z.symm)]
def InS (W:Zx->Prop) (H:Hp) (b:List (Key×V)) (d:Ro) (g:Str->Option Hm) (n:Nat):Prop:=∀c,(jL b (.inl c)=none/\c∉d.pl)\/∃(j:Nat) (e:Option (Str×Hm)) (a:Zx),W a/\d.pl[j]?=some c/\d.ex[j]?=some e/\jL b (.inl c)=some (.ref a)/\Sc H a (exG g e) (n+ 1)
def Iw{A B:TS} (hσ:a[0]?=some (some (.ref t))) (d:H t=some (.tup (.str s::ys))) (c:decide (s=x)=b) (k:if b=true then A {D with nx:=u D} a H else B {D with nx:=u D} a H):
  pZ (qD (cT (tOp (cEq false) (tOp zu (cV 0) (tC (.int 0))) (tC (.str x)))) A B) u D a H:=by show onV a[0]? _;rw[hσ];refine⟨_,d,gf (fZ rfl) ?_⟩;dsimp only[tC,cEq,onB];rw[fj,c];exact k
def qm{A:TS} (hσ:a[0]?=some (some (.ref t))) (c:H t=some (.tup (.str s::ys))) (b:decide (s=x)=false) (k:u D a H):
  pZ (qD (cT (tOp (cEq false) (tOp zu (cV 0) (tC (.int 0))) (tC (.str x)))) A jW) u D a H:=Iw hσ c b (ij k)
def B9{A B:TS} (hσ:a[0]?=some (some (.ref t))) (c:H t=some (.tup (.str s::ys))) (b:decide (s=x)=true) (k:A {D with nx:=u D} a H):
  pZ (qD (cT (tOp (cEq false) (tOp zu (cV 0) (tC (.int 0))) (tC (.str x)))) A B) u D a H:=Iw hσ c b (iK k)
def Ro.pl_le (a:Ro) (h:a.ok):a.pl.length<=101:=by
 cases a with
 |rcd l=>show(l.map MC).length<=_;rw[aE];exact cF h.1 O3
 |case k l=>show(k::l.map fun p=>p.2.2).length<=_;rw[aB,aE];have:=h.1;lia
 |row b=>exact cF h O3
 |op s b=>exact cF h.2 O3
 |_=>simp[Ro.pl]
def Ca(i:W a) (e:ρ.ex=ρ.pl.map fun _=>none) (f:Sc H a g n) (b:∀c,jL kvs (.inl c)=if c∈ρ.pl then some (.ref a)else none):InS W H kvs ρ g n:=by
 intro c;by_cases h:c∈ρ.pl;·obtain⟨j,d⟩:=ck.mp h;exact .inr (iaa j none a ⟨i,d,by rw[e,aP,d];rfl,by rw[b c,ig h],f.le (cP _)⟩)
 ·exact .inl ⟨by rw[b c,gZ h],h⟩
def tG:Sp:=fun h H Q _=>∃t a f g n,h=[.ref t,.ref a]/\Im H (.ref t) f.d/\f.ok/\Sc H a g n/\n<9000/\
 ∀d c e,gJ H e->H d=none->e d=some (.dK c)->(c.map (·.1)).Nodup->c.length<=300->InS (fun b=>b=a\/H b=none) e c f g n->Q (.ref d) e
def tH (T:Txt K mg):FO P w base 7 T.d34 tG:=by
 refine T.d34.F.rd kJ fun _ A _ s H vs Q E hr h=>?_;have hu:=tY hr;refine eao h fun t a ρ g n=>fag fun M hi ho W hn q=>?_;subst M;refine HzX ?_;intro _;refine⟨_,(fW (pS (i:=2) kJ.nd qf)
  (fW (jX Mh rfl (ke (pF T.d2 (rK T) hr.m (fV (cv 0) fY))) (pN (i:=3) kJ.nd)
   (f9 (nN hu (cv 2) (cv 3) (cv 1) rfl)))
  (fW (gM (gq iA (gk gB (cv 0) fX) gh)
   (f9 (nN hu (cv 2) (gk gB (cv 0) fX) (pF T.d35 (uM T) hr.m (fV (cv 1) (fV (gk gB (cv 0) fX) (fV (iB (fV gh (fV (gk gB (cv 0) fX) fY))) fY)))) rfl))
   gA)
  (fW (gM (gq iA (gk gB (cv 0) fX) gh)
   (f9 (nN hu (cv 2) (gk gB (cv 0) fX) (pF T.d35 (uM T) hr.m (fV (cv 1) (fV (gk gB (cv 0) fX) (fV (iB (fV gh (fV (gk gB (cv 0) fX) fY))) fY)))) rfl))
   gA)
  (fW (gM (gq iA (gk gB (cv 0) fX) gh)
   (f9 (jX Mh rfl (qd (gk gB (cv 0) fX)) (pN (i:=4) kJ.nd)
    (f9 (nN hu (cv 2) (gk gB (cv 4) fX) (pF T.d35 (uM T) hr.m (fV (cv 1) (fV (gk gB (cv 4) fX) (fV (iB (fV gh (fV (gk gB (cv 4) fX) fY))) fY)))) rfl))))
   gA)
  (f9 (gC (cv 2)))))))),?_⟩;refine Hz5 ?_;intros;have sl:=L9;refine ean (ρ.hd ho) fun _ h2 h3 h4=>?_;have lp:=ρ.pl_le ho;intro d hd;have s1:=gb hd (.dK []);have ed:(upd H d (.dK [])) d=some (.dK []):=f7;dsimp only[gU];generalize upd H d (.dK [])=H1 at s1 ed⊢;have nad:a≠d:=by obtain⟨kv,e⟩:=W.dk;exact gv e hd
 refine ii t ρ (⟨rfl,hi.mono (gJ.tk s1),ho,fun l H1' S1 hl e1=>⟨l,rfl,⟨_,NT e1⟩,lQ (fun i U H2=>∃(o:Option V) (f:List (Key×V)),U=[some (.ref t),some (.ref a),some (.ref d),o,none]/\gJ H H2/\H2 l=some (.lst (ρ.pl.map V.int))/\H2 d=some (.dK f)/\(f.map (·.1)).Nodup/\f.length<=i/\∀c,jL f (.inl c)=if c∈ρ.pl.take i then some (.ref a)else none)
  (ii none ([]) ⟨rfl,s1.trans S1,e1,S1 _ _ ed,aX,cK _,fun c=>by rw[List.take_zero,gZ bI];rfl⟩) (fun i U H2 _ ⟨_,_,_,_,e,_⟩=>NT e) ?_ ?_⟩⟩)
 ·refine fun i v U H2 hv=>fL fun o f=>fap fun M S el u R hk L=>?_;subst M;rw[aP]at hv;refine eaa (dA.mp hv) fun c hcc M=>?_;subst M;have hi:=(av.mp hcc).1;have nld:=(gv ed hl).symm;refine ii d _ ⟨rfl,x9.k (k:=Mv c) u O2,_,_,rfl,ip S hd _,by rw[gy nld];exact el,f7,zH _ R,cF (iF _ _ _) O2,fun c'=>?_⟩;rw[iX,cc,hcc];by_cases z:c'=c;·rw[ig (by rw[z]),ig (by simp[z])]
  ·rw[gZ (fun y=>z (by injection y)),L c'];simp[z]
 ·refine fun U H2=>fL fun o f=>fap fun M S el u R hk L=>?_;subst M;rw[aE,bA]at L;rw[aE]at hk;have hi2:=hi;have F:=W.same S;have Y:∀{o3 o4:Option V} {O:Hp} {f:List (Key×V)},gJ H O->O d=some (.dK f)->(f.map (·.1)).Nodup->f.length<=300->InS (fun b=>b=a\/H b=none) O f ρ g n->(Eh (cV 2) {nx:=fun _ H'=>Q .non H',rt:=Q}:St->Hp->Prop) [some (.ref t),some (.ref a),some (.ref d),o3,o4] O:=fun J e3 n3 l3 i3=>q d _ _ J hd e3 n3 l3 i3
  cases hi2 with
  |@tup _ ys _ et0 B=>
   have r:=S _ _ et0
   cases B with
   |@cons y _ ys _ hy B=>
    cases hy;dsimp only
    cases ρ with
    |fn x k=>
     cases B with
     |cons a1 B=>
      cases B with
      |cons a2 B=>
       cases a1;cases a2;cases B;refine B9 rfl r h3 ⟨_,r,gf (fZ rfl) ⟨_,r,gf (fZ rfl) ⟨lJ,fun p X=>?_⟩⟩⟩;have D:=gb X (.tup [.str "fn",.int k]);refine iae a p g n x ("fn",k) ⟨rfl,F.same D,O2,f7,fun b H4 S4 C N=>?_⟩;have m:=D.trans S4;refine⟨_,m _ _ r,gf (fZ rfl) (ii d _ ⟨rfl,x9.k (k:=Mv k) (m _ _ u) O2,?_⟩)⟩;have G:=(gv (D _ _ u) C).symm;have Z:(upd H4 d (.dK (mL f (Mv k) (.ref b)))) t=some (.tup (.str "fn"::[.str x,.int k])):=by rw[gy (lU (m _ _ r) (m _ _ u) (fun z=>nomatch z))];exact m _ _ r
       dsimp only;refine qm rfl Z h4 (qm rfl Z h2 (Y (ip (S.trans m) hd _) f7 (zH _ R) (cF (iF _ _ _) O2) fun c=>?_));by_cases z:c=k;·exact .inr (iaa 0 _ b ⟨.inr ((S.trans D).free C),by rw[z];rfl,rfl,by rw[iX,ig (by rw[z])],N.upd (m _ _ u) G⟩)
       ·exact .inl ⟨by rw[iX,gZ (fun y=>z (by injection y)),L c,gZ (by simpa[Ro.pl]using z)],by simpa[Ro.pl]using z⟩
    |lt x k1 k2=>
     refine qm rfl r h3 ?_
     cases B with
     |cons a1 B=>
      cases B with
      |cons a2 B=>
       cases B with
       |cons a3 B=>
        cases a1;cases a2;cases a3;cases B;refine B9 rfl r h4 ⟨_,r,gf (fZ rfl) ⟨_,r,gf (fZ rfl) ⟨lJ,fun p X=>?_⟩⟩⟩;have D:=gb X (.tup [.str "let",.int k1]);refine iae a p g n x ("let",k1) ⟨rfl,F.same D,O2,f7,fun b H4 S4 C N=>?_⟩;have m:=D.trans S4;refine⟨_,m _ _ r,gf (fZ rfl) (ii d _ ⟨rfl,x9.k (k:=Mv k2) (m _ _ u) O2,?_⟩)⟩;have G:=(gv (D _ _ u) C).symm;have Z:(upd H4 d (.dK (mL f (Mv k2) (.ref b)))) t=some (.tup (.str "let"::[.str x,.int k1,.int k2])):=by rw[gy (lU (m _ _ r) (m _ _ u) (fun z=>nomatch z))];exact m _ _ r
        dsimp only;refine qm rfl Z h2 (Y (ip (S.trans m) hd _) f7 (zH _ R) (cF (iF _ _ _) O2) fun c=>?_);by_cases z:c=k2;·exact .inr (iaa 1 _ b ⟨.inr ((S.trans D).free C),by rw[z];rfl,rfl,by rw[iX,ig (by rw[z])],N.upd (m _ _ u) G⟩)
        ·by_cases z1:c=k1;·exact .inr (iaa 0 _ a ⟨.inl rfl,by rw[z1];rfl,rfl,by rw[iX,gZ (fun y=>z (by injection y)),L c,ig (by simp[Ro.pl,z1])],((F.same m).upd (m _ _ u) nad).le (cP _)⟩)
         ·exact .inl ⟨by rw[iX,gZ (fun y=>z (by injection y)),L c,gZ (by simp[Ro.pl,z,z1])],by simp[Ro.pl,z,z1]⟩
    |case k0 l=>
     refine qm rfl r h3 (qm rfl r h4 ?_)
     cases B with
     |cons a1 B=>
      cases B with
      |cons a2 B=>
       cases a1;cases B
       cases a2 with
       |@tup ta xs _ eta hxs=>
        have lx:=hxs.length;rw[aE]at lx;have hl100:=ho.1;refine B9 rfl r h2 ⟨_,r,gf (fZ rfl) ⟨ta,rfl,⟨_,NX (S _ _ eta)⟩,xZ (fun i U O=>∃o4 f,U=[some (.ref t),some (.ref a),some (.ref d),o,o4]/\gJ H O/\O d=some (.dK f)/\(f.map (·.1)).Nodup/\f.length<=101+i/\∀c,(∃j p b,j<i/\l[j]?=some p/\p.2.2=c/\jL f (.inl c)=some (.ref b)/\(b≠d/\H b=none)/\Sc O b (wid g p.2.1 ("arm",c)) (n+ 1))\/((∀j p,j<i->l[j]?=some p->p.2.2≠c)/\jL f (.inl c)=if c∈(Ro.case k0 l).pl then some (.ref a)else none))
         (ii none f (⟨rfl,S,u,R,O2,fun c=> .inr ⟨fun j p hj=>absurd hj (dh _),L c⟩⟩)) (fun i U O _ ⟨_,_,_,J,_⟩=>NX (J _ _ eta)) ?_ ?_⟩⟩
        ·refine fun i v U O hv=>fL fun o4 f=>fag fun M J u R hk L=>?_;subst M;refine eaa (jA hxs hv) fun dd hdd him=>?_;rw[aP]at hdd;obtain⟨⟨tg,x,kk⟩,X,rfl⟩:=dA.mp hdd;have hi:=(av.mp X).1
         cases him with
         |@tup tb _ _ eb C=>
          cases C with
          |cons b1 C=>
           cases C with
           |cons b2 C=>
            cases C with
            |cons b3 C=>
             cases b1;cases b2;cases b3;cases C;refine⟨_,J _ _ eb,gf (fZ rfl) ⟨_,J _ _ eb,gf (fZ rfl) ⟨lJ,fun p hp'=>?_⟩⟩⟩;have D:=gb hp' (.tup [.str "arm",.int kk]);refine iae a p g n x ("arm",kk) ⟨rfl,(W.same J).same D,O2,f7,fun b H4 S4 C N=>?_⟩;have I:=D.trans S4;refine⟨_,I _ _ (J _ _ eb),gf (fZ rfl) (ii d _ ⟨rfl,x9.k (k:=Mv kk) (I _ _ u) O2,?_⟩)⟩;have G:=(gv (D _ _ u) C).symm;refine ii _ _ ⟨rfl,ip (J.trans I) hd _,f7,zH _ R,cF (iF _ _ _) O2,fun c=>?_⟩;by_cases z:c=kk;·exact .inl (iaa i _ b (⟨cO _,X,z.symm,by rw[iX,ig (by rw[z])],⟨G,(J.trans D).free C⟩,by rw[z];exact N.upd (I _ _ u) G⟩))
             ·rcases L c with⟨j,p,b',c1,c2,c3,c4,c5,c6⟩|⟨c1,c2⟩;·exact .inl (iaa j p b' ⟨cQ c1,c2,c3,by rw[iX,gZ (fun y=>z (by injection y))];exact c4,c5,(c6.same I).upd (I _ _ u) c5.1⟩)
              ·refine .inr ⟨fun j p hj hp2=>?_,by rw[iX,gZ (fun y=>z (by injection y))];exact c2⟩;by_cases e:j=i;·rw[e,X]at hp2;cases hp2;exact fun y=>z y.symm
               ·exact c1 j p O2 hp2
        ·refine fun U O=>fL fun o4 f=>fag fun M J u R hk L=>?_;subst M;refine Y (o3:=o) (o4:=o4) J u R O2 fun c=>?_;rcases L c with⟨j,p,b',c1,c2,c3,c4,c5,c6⟩|⟨c1,c2⟩
         ·refine .inr (iaa (j+ 1) (some (p.2.1,("arm",p.2.2))) b' ⟨.inr c5.2,?_,?_,c4,?_⟩);·show(k0::l.map fun p=>p.2.2)[j+ 1]?=_;rw[bJ,aP,c2,<-c3];rfl
          ·show(none::l.map fun p=>some (p.2.1,(("arm":Str),p.2.2)))[j+ 1]?=_;rw[bJ,aP,c2];rfl
          ·rw[c3];exact c6
         ·by_cases z:c=k0;·exact .inr (iaa 0 none a ⟨.inl rfl,by rw[z];rfl,rfl,by rw[c2,ig (by simp[Ro.pl,z])],(W.same J).le (cP _)⟩)
          ·have nm:c∉(Ro.case k0 l).pl:=fun hm=>by
            rcases ao.mp (show c∈(k0::l.map fun p=>p.2.2)from hm)with h|h;·exact z h
            ·refine eaa (bh.mp h) fun p X e=>?_;obtain⟨j,hj⟩:=ck.mp X;exact c1 j p (by rw[lx];exact(av.mp hj).1) hj e
           exact .inl ⟨by rw[c2,gZ nm],nm⟩
    |_=>exact qm rfl r h3 (qm rfl r h4 (qm rfl r h2 (Y S u R O2 (Ca (.inl rfl) rfl F L))))
def zI{g:TG} {l:TS} {D:ny} (c:Nat->St->Hp->Prop) (B:c 0 b H) (u:∀i b H,i<=xs.length->c i b H->SqL K H a xs)
  (t:∀i x b H T,xs[i]?=some x->c i b H->H T=none->g (.ref T) b (upd H T (.tup [.int (i:Int),x])) fun d k=>l {D with nx:=c (i+ 1),ct:=c (i+ 1),bk:=D.nx} d k) (z:∀b H,c xs.length b H->D.nx b H):
  ∃W:Nat->Nat->St->Hp->Prop,(∃m,W 0 m b H)/\∀i m b H,W i m b H->
   ((Ite K a).stop i H/\D.nx b H)\/((Ite K a).go i H/\∃N,(∀f h,N f h->∃n,n<m/\W (i+ 1) n f h)/\∀x h,(Ite K a).yld i H x h->g x b h fun d k=>l {D with nx:=N,ct:=N,bk:=D.nx} d k):=by
 refine⟨fun i m b H=>m=xs.length-i/\i<=xs.length/\c i b H,⟨xs.length,O4,cK _,B⟩,?_⟩;refine fun i m b H=>fae fun j w p=>?_;subst j;have q:=u i b H w p;by_cases hlt:i<xs.length;·refine .inr ⟨(ii xs (xs[i]) ⟨q,by simp[hlt]⟩),c (i+ 1),fun f h r=>⟨xs.length-(i+ 1),O2,rfl,hlt,r⟩,fun v h y=>?_⟩;refine eaj y fun T x j A o s=>?_;subst j;subst o;exact t i x b H T (s xs q) p A
 ·have e:i=xs.length:=O2
  subst e;exact .inl ⟨⟨xs,q,rfl⟩,z b H p⟩
def Ge{f:Str} {r:List (Str×V)}:aC f ((f,v)::r)=some v:=by rw[bt,show(f==f)=true by simp]
def Gf{f:Str} {r:List (Str×V)} (h:(f==g)=false):aC f ((g,v)::r)=aC f r:=by rw[bt,h]
def fP (n r w:Zx):List (Str×V):=[("names",.ref n),("roots",.ref r),("rows",.ref w)]
def zJ (n r w:Zx):(fP n r w).lookup ("names":Str)=some (.ref n):=Ge
def r6 (n r w:Zx):(fP n r w).lookup ("roots":Str)=some (.ref r):=(Gf gL).trans Ge
def n9 (n r w:Zx):(fP n r w).lookup ("rows":Str)=some (.ref w):=(Gf gL).trans ((Gf gL).trans Ge)
def nI (k:Nat):V:= .int (k:Int)
structure PrA (C:Zx) (H:Hp) (p n r w dx:Zx) (xs:List V) (names:Zd) (roots:List Nat) (ρs:List Ro):Prop where
 o:H p=some (.ins C dx (fP n r w))
 n:H n=some (.lst (names.map V.str))
 r:H r=some (.lst (roots.map nI))
 w:H w=some (.lst xs)
 i:Ims H xs (ρs.map Ro.d)
def PrA.same {C:Zx} {p n r w b:Zx} {a:Zd} (h:PrA C H p n r w b xs a roots ρs) (s:gJ H H'):PrA C H' p n r w b xs a roots ρs:=⟨s _ _ h.o,s _ _ h.n,s _ _ h.r,s _ _ h.w,h.i.mono (gJ.tk s)⟩
def G0 (a:Zd):Nat->(Str->Option Hm)
 |0=>fun _=>none
 |d+ 1=>match a[d]? with
  |some x=>wid (G0 a d) x ("def",(d:Int))
  |none=>G0 a d
structure Iy (names:Zd) (roots:List Nat) (ρs:List Ro) (out:Nat->Str->Option Hm):Prop where
 nn:names.Nodup
 nl:names.length<=12
 rl:roots.length=names.length
 ok:∀ρ∈ρs,ρ.ok
 pn:ρs.length<=1000
 rlt:∀(i r:Nat),roots[i]?=some r->r<ρs.length
 root:∀(i r:Nat) (ρ:Ro),roots[i]?=some r->ρs[r]?=some ρ->out r=if ρ.isF=true then G0 names (i+ 1)else G0 names i
 kid:∀(k:Nat) (ρ:Ro) (j:Nat) (c:Int) (e:Option (Str×Hm)),ρs[k]?=some ρ->ρ.pl[j]?=some c->ρ.ex[j]?=some e->∃m:Nat,c=(m:Int)/\k<m/\out m=exG (out k) e
 reach:∀k:Nat,k<ρs.length->(∃i:Nat,roots[i]?=some k)\/∃(k':Nat) (ρ:Ro),k'<k/\ρs[k']?=some ρ/\(k:Int)∈ρ.pl
 nm:∀(k:Nat) (x:Str),ρs[k]?=some (.name x)->∃h,out k x=some h
def duo (a:Nat->Str->Option Hm) (k:Nat):Ro->Option Hm
 | .name x=>a k x
 |_=>none
def hoD:Option Hm->Dt
 |none=> .flat .non
 |some h=>hmD h
def vQ {k:Nat} (h:Ims H xs (ρs.map Ro.d)) (e:ρs[k]?=some ρ):∃t g,xs[k]?=some (.ref t)/\H t=some (.tup (.str ρ.s::g))/\Ims H g ρ.r/\Im H (.ref t) ρ.d:=by
 have m:=h.length;rw[aE]at m;have o:=(av.mp e).1;refine eaa (jA h (bE (show k<xs.length by lia))) fun d j b=>?_;rw[aP,e]at j;cases j;have l:xs[k]?=some xs[k]:=bE O2;generalize xs[k]=v at l b;have c:=b
 cases b with
 |@tup t g _ n i=>
  cases i with
  |cons a i=>cases a;exact ii t _ ⟨l,n,i,c⟩
def uj (C:Zx):Sp:=fun l H Q _=>∃(p n r w m:Zx) (k:List V) (e:Zd) (b:List Nat) (g:List Ro) (h:Nat->Str->Option Hm),l=[.ref p]/\PrA C H p n r w m k e b g/\Iy e b g h/\
 ∀d f j,gJ H j->H d=none->j d=some (.dK f)->f.length<=12->(∀(i c:Nat),b[i]?=some c->∃a,a≠d/\jL f (.inl (c:Int))=some (.ref a)/\Sc j a (h c) 20)->Q (.ref d) j
def um (T:Txt K mg):FO P w base 2 T.d33 (uj T.c7.a):=by
 refine T.d33.F.rd iQ fun _ A _ s H vs Q E hr h=>?_;have hu:=tY hr;refine eaw h fun p n r w dx xs f j ρs I=>fam fun D pr R q=>?_;subst D;refine HzX ?_;intro _;refine⟨_,(fW (pS (i:=1) iQ.nd qf)
  (fW (pS (i:=2) iQ.nd qf)
  (fW (jX Mh rfl (BK rfl T.z_enumerate (fV (gR T.c7.cl T.n7names (cv 0)) fY)) (A3 rfl (ou (pN (i:=3) iQ.nd) (ou (pN (i:=4) iQ.nd) xY)))
   (fW (pS (i:=5) iQ.nd (gk gi (gR T.c7.cl T.n7roots (cv 0)) (cv 3)))
   (fW (pS (i:=6) iQ.nd (pF T.d35 (uM T) hr.m (fV (cv 2) (fV (cv 4) (fV (iB (fV gh (fV (cv 3) fY))) fY)))))
   (fW (nN hu (cv 1) (cv 5) (ot (gq iA (gk gB (gk gi (gR T.c7.cl T.n7rows (cv 0)) (cv 5)) fX) gh) (cv 6) (cv 2)) rfl)
   (f9 (pS (i:=2) iQ.nd (cv 6)))))))
  (f9 (gC (cv 1)))))),?_⟩;refine Hz3 ?_;intros;have sl:=L9;intro d hd;have s1:=gb hd (.dK []);have ed:(upd H d (.dK [])) d=some (.dK []):=f7;dsimp only[gU];generalize upd H d (.dK [])=H1 at s1 ed⊢;intro l hae;have s2:=gb hae (.dK []);have ea:(upd H1 l (.dK [])) l=some (.dK []):=f7;dsimp only[gU];generalize upd H1 l (.dK [])=H2 at s2 ea⊢;have o:=(gv ed hae).symm;have Y:=pr.same (s1.trans s2);have nl:=R.nl;refine⟨_,(ii dx _ ⟨Y.o,zJ _ _ _⟩),n,rfl,⟨_,NT Y.n⟩,zI (fun i σ C=>∃(o3 o4 o5 Z:Option V) (l:Zx) (g:List (Key×V)),σ=[some (.ref p),some (.ref d),some (.ref l),o3,o4,o5,Z]/\gJ H C/\C d=some (.dK g)/\g.length<=i/\l≠d/\Sc C l (G0 f i) i/\∀u c,u<i->j[u]?=some c->∃a,a≠d/\jL g (.inl (c:Int))=some (.ref a)/\Sc C a (I c) 20)
  (iae none none none none l ([]) (⟨rfl,s1.trans s2,s2 _ _ ed,cJ _,o,⟨[],ea,cJ _,fun w=>rfl⟩,fun u c h=>absurd h (dh _)⟩)) (fun i σ C _ ⟨_,_,_,_,_,_,_,S,_⟩=>NT (S _ _ pr.n)) ?_ ?_⟩
 ·refine fun i v σ C t O=>fat fun o3 o4 o5 Z l g=>fap fun D S ek hk o F e ht=>?_;subst D;rw[aP]at O;refine eaa (dA.mp O) fun x hx' D=>?_;subst D;clear O;have O:=hx';have hi:=(av.mp O).1;have rl:=R.rl;obtain⟨c,M⟩:∃c,j[i]?=some c:=⟨_,bE O2⟩;have hcl:=R.rlt i c M;obtain⟨N,hρ⟩:∃N,ρs[c]?=some N:=⟨_,bE hcl⟩;have W:=gb ht (.tup [.int (i:Int),.str x]);refine ii t _ ⟨rfl,NX f7,rfl,_,_,rfl,_,_,rfl,rfl,?_⟩;have S4:=S.trans W;generalize upd C t (.tup [.int (i:Int),.str x])=H4 at W S4;have X:=pr.same S4;have hcI:(j.map nI)[i]?=some (.int (c:Int)):=by rw[aP,M];rfl
  refine⟨_,(ii dx _ ⟨X.o,r6 _ _ _⟩),_,X.r,gf (fZ hcI) ?_⟩;refine⟨lJ,fun pp hpp=>?_⟩;have s5:=gb hpp (.tup [.str "def",.int (i:Int)]);refine iae l pp (G0 f i) i x (("def",(i:Int))) ⟨rfl,(F.same W).same s5,O2,f7,fun b H6 S6 hb U=>?_⟩;have B:=(W.trans s5).trans S6;have SH6:=S.trans B;have G:=pr.same SH6;refine eaj (vQ G.i hρ) fun tr ys hxt etr _ _=>?_;refine⟨_,(ii dx _ ⟨G.o,n9 _ _ _⟩),_,G.w,gf (fZ hxt) ⟨_,etr,gf (fZ rfl) ?_⟩⟩;dsimp only[tC,cEq,onB];refine ean (N.hd (R.ok N (aQ hρ))) fun _ _ h3 _=>?_;rw[fj,h3];have J:=(gv (s5 _ _ (W _ _ ek)) hb).symm;have g1:G0 f (i+ 1)=wid (G0 f i) x ("def",(i:Int)):=by rw[G0,O]
  have m:=R.root i c N M hρ;have nx:∀z,z≠d->Sc H6 z (I c) 20->∃(a:Zx) (H':Hp),V.ref d= .ref a/\x9 H6 a (.int (c:Int)) (.ref z) H'/\∃(o3 o4 o5 Z:Option V) (l:Zx) (g:List (Key×V)),[some (V.ref p),some (.ref d),some (.ref b),some (.int (i:Int)),some (.str x),some (.int (c:Int)),some (.ref b)]=[some (V.ref p),some (.ref d),some (.ref l),o3,o4,o5,Z]/\gJ H H'/\H' d=some (.dK g)/\g.length<=i+ 1/\l≠d/\Sc H' l (G0 f (i+ 1)) (i+ 1)/\∀u c,u<i+ 1->j[u]?=some c->∃a,a≠d/\jL g (.inl (c:Int))=some (.ref a)/\Sc H' a (I c) 20:=fun z nzd hz=>by
   have e6:=B _ _ ek;refine ii d _ ⟨rfl,x9.k (k:=Mv (c:Int)) e6 O2,_,_,_,_,b,_,rfl,ip SH6 hd _,f7,cF (iF _ _ _) O2,J,by rw[g1];exact U.upd e6 J,fun u c' hi' L=>?_⟩;by_cases y:c'=c;·rw[y];exact⟨z,nzd,by rw[iX,ig rfl],hz.upd e6 nzd⟩
   ·have:u≠i:=fun z=>y (by rw[z,M]at L;exact(du.inj L).symm);refine eak (e u c' O2 L) fun a h1 h2 h3=>?_;exact⟨a,h1,by rw[iX,gZ (fun z=>y (by injection z with z;lia))];exact h2,(h3.same B).upd e6 h1⟩
  cases hF:N.isF with
  |true=>rw[hF,ig rfl,g1]at m;exact iK (nx b J (by rw[m];exact U.le O2))
  |false=>rw[hF,gZ fc]at m;exact ij (nx l o (by rw[m];exact(F.same B).le O2))
 ·refine fun σ C=>fat fun o3 o4 o5 Z l g=>fap fun D S ek hk o F e=>?_;subst D;rw[aE]at hk e;refine q d g C S hd ek O2 fun i c M=>?_;have rl:=R.rl;exact e i c (by have:=(av.mp M).1;lia) M
def HoA (H:Hp) (xs:List V) (a:List Ro) (b:Nat->Str->Option Hm):Prop:=∀k x c,xs[k]?=some x->a[k]?=some c->Im H x (hoD (duo b k c))
def Ro.nm_ne (d:Ro) (h:d.ok) (f:∀x,d≠ .name x):d.s≠"name":=by
 cases d with
 |name x=>exact absurd rfl (f x)
 |op s e=>exact of_decide_eq_false (oP _ h "name" gL (ii s e rfl))
 |num a=>exact(show("num":Str)≠"name" from by decide+kernel)
 |fn a b=>exact(show("fn":Str)≠"name" from by decide+kernel)
 |tag a b=>exact(show("tag":Str)≠"name" from by decide+kernel)
 |lt a b c=>exact(show("let":Str)≠"name" from by decide+kernel)
 |get a b=>exact(show("get":Str)≠"name" from by decide+kernel)
 |rcd a=>exact(show("rec":Str)≠"name" from by decide+kernel)
 |case a b=>exact(show("case":Str)≠"name" from by decide+kernel)
 |row a=>exact(show("row":Str)≠"name" from by decide+kernel)
def D4{d:VK} (f:ρ.ok) (g:Ims H zs ρ.r) (m:∀x,ρ= .name x->∃h,out i x=some h) (c:∀y,Im H7 y (hoD (duo out i ρ))->d y H7):
  (ρ.s≠"name"->d .non H7)/\(ρ.s="name"->∃x h,zs=[.str x]/\out i x=some h/\∀p,H7 p=some (.tup [.str h.1,.int h.2])->d (.ref p) H7):=by
 have k:(∀x,ρ≠ .name x)->duo out i ρ=none->(ρ.s≠"name"->d .non H7)/\(ρ.s="name"->∃(x:Str) (h:Hm),zs=[.str x]/\out i x=some h/\∀p,H7 p=some (.tup [.str h.1,.int h.2])->d (.ref p) H7):=fun h e=>⟨fun _=>c _ (by rw[e];exact .flat rfl),fun z=>absurd z (ρ.nm_ne f h)⟩
 cases ρ with
 |name x=>
  refine⟨fun z=>absurd rfl z,fun _=>?_⟩;obtain⟨h,j⟩:=m x rfl
  cases g with
  |cons a b=>cases a;cases b;refine ii x h ⟨rfl,j,fun p l=>c _ ?_⟩;show Im H7 _ (hoD (out i x));rw[j];exact .tup l (.cons (.flat rfl) (.cons (.flat rfl) .nil))
 |_=>exact k (fun x z=>nomatch z) rfl
def Cd(c:b.ok) (e:Ims H zs b.r) (f:∀x,b= .name x->∃h,out i x=some h) (l:H7 t=some (.tup (.str b.s::zs))) (sc:Sc H7 a (out i) n) (j:σ[4]?=some (some (.ref t))) (k:σ[3]?=some (some (.int (i:Int)))) (g:σ[5]?=some (some (.ref a))) (d:∀y,Im H7 y (hoD (duo out i b))->Qx y H7):
  Dz uN [] E (kP (cV 4) (kP (cV 3) (kP (cV 5) x8))) σ H7 Qx:=by show onV σ[4]? _;rw[j];show onV σ[3]? _;rw[k];show onV σ[5]? _;rw[g];exact iad t a (i:Int) (out i) n b.s zs ⟨rfl,l,sc,D4 c e f d⟩
def EF(e:H l=some u) (c:∀b,u≠ .tup b):TK H (upd H l o):=fun a d q=>by rw[gy (lU q e (fun z=>c _ z.symm))];exact q
def Sc.updL {a l:Zx} {g:Str->Option Hm} {n:Nat} (h:Sc H a g n) (e:H l=some (.lst ys)):Sc (NR H l o) a g n:=by
 refine eak h fun b f i h=>?_;refine⟨b,by rw[gy (lU f e (fun z=>nomatch z))];exact f,i,fun w=>?_⟩;have:=h w
 cases c:g w with
 |none=>rw[c]at this;exact this
 |some z=>rw[c]at this;refine eaa this fun t j d=>?_;exact⟨t,j,by rw[gy (lU d e (fun z=>nomatch z))];exact d⟩
def yx (C:Zx):Sp:=fun h H Q _=>∃p n r w i g b a c d,h=[.ref p]/\PrA C H p n r w i g b a c/\Iy b a c d/\
 ∀l f e,gJ H e->H l=none->e l=some (.lst f)->f.length=c.length->HoA e f c d->Q (.ref l) e
def yy (T:Txt K mg):FO P w base 8 T.d29 (yx T.c7.a):=by
 refine T.d29.F.rd kY fun _ A _ s H vs Q E hr h=>?_;have hu:=tY hr;refine eaw h fun p n r w dx xs L I N O=>fam fun z0 pr Y q=>?_;subst z0;refine HzX ?_;intro _;refine⟨_,(fW (gK (pF T.d30 (tF T) hr.m (fV (gR T.c7.cl T.n7names (cv 0)) fY)))
  (fW (pS (i:=1) kY.nd (pF T.d33 (um T) hr.m (fV (cv 0) fY)))
  (fW (pS (i:=2) kY.nd (gG fY))
  (fW (jX Mh rfl (BK rfl T.z_enumerate (fV (gR T.c7.cl T.n7rows (cv 0)) fY)) (A3 rfl (ou (pN (i:=3) kY.nd) (ou (pN (i:=4) kY.nd) xY)))
   (fW (pS (i:=5) kY.nd (vd hu (cv 1) (cv 3)))
   (fW (gK (pF T.d30 (tF T) hr.m (fV (pF T.d31 (vP T) hr.m (fV (cv 4) fY)) fY)))
   (fW (gK (iW (jG eS eU eV gX (NS (cv 2)) (fV (NS (pF T.d32 (AJ T) hr.m (fV (cv 4) (fV (cv 3) (fV (cv 5) fY))))) fY))))
   (f9 (gK (jG PySem.F.plainAttrs_dict eQ PySem.F.type_dict_update BR (cv 1) (fV (pF T.d34 (tH T) hr.m (fV (cv 4) (fV (cv 5) fY))) fY))))))))
  (f9 (gC (cv 2))))))),?_⟩;refine Hz4 ?_;intros;have sl:=L9;have nl:=Y.nl;have pn:=Y.pn;refine⟨_,(ii dx _ ⟨pr.o,zJ _ _ _⟩),n,L,rfl,pr.n,Y.nn,O2,fun H1 S1=>?_⟩;refine iaf p n r w dx xs L I N O ⟨rfl,pr.same S1,Y,fun d f H2 S2 hd ed hk U=>?_⟩;refine⟨p7,fun F hlh=>?_⟩;have s3:=gb hlh (.lst []);have el:(upd H2 F (.lst [])) F=some (.lst []):=f7;dsimp only[gU];generalize upd H2 F (.lst [])=H3 at s3 el⊢;have S13:=(S1.trans S2).trans s3;have hd0:=S1.free hd;have hl0:=(S1.trans S2).free hlh;have ndl:=gv ed hlh;have pr3:=pr.same S13;have lx:=pr.i.length;rw[aE]at lx;refine⟨_,(ii dx _ ⟨pr3.o,n9 _ _ _⟩),w,rfl,⟨_,NT pr3.w⟩,zI (fun i σ G=>∃(o3 o4 o5:Option V) (f:List (Key×V)) (B:List V),σ=[some (.ref p),some (.ref d),some (.ref F),o3,o4,o5]/\gJ H G/\G d=some (.dK f)/\f.length<=12+ 300*i/\G F=some (.lst B)/\B.length=i/\HoA G B N O/\
   ∀c,((∃i':Nat,I[i']?=some c)\/∃(k':Nat) (C:Ro),k'<i/\N[k']?=some C/\(c:Int)∈C.pl)->∃a,a≠d/\jL f (.inl (c:Int))=some (.ref a)/\Sc G a (O c) (20+c))
  (iab none none none f ([]) ⟨rfl,S13,s3 _ _ ed,O2,el,rfl,fun k x C h=>(by cases h),fun c hc=>?_⟩) (fun i σ G _ ⟨_,_,_,_,_,_,S,_⟩=>NT (S _ _ pr.w)) ?_ ?_⟩
 ·rcases hc with⟨i,hi⟩|⟨k',C,h,_⟩;·refine eak (U i c hi) fun a h1 h2 h3=>?_;exact⟨a,h1,h2,(h3.same s3).le O2⟩
  ·exact absurd h (dh _)
 ·refine fun i v σ G t R=>fak fun o3 o4 o5 f B=>fan fun z0 S ek hk el hyl ho hsc ht=>?_;subst z0;have hi:=(av.mp R).1;obtain⟨C,hρ⟩:∃C,N[i]?=some C:=⟨_,bE O2⟩;have J:=Y.ok C (aQ hρ);refine eaj (vQ pr.i hρ) fun tr zs hxt etr hzs him=>?_;rw[hxt]at R;cases R;refine eak (hsc i (Y.reach i O2)) fun a nad hva sca=>?_;have sT:=gb ht (.tup [.int (i:Int),.ref tr]);refine ii t _ ⟨rfl,NX f7,rfl,_,_,rfl,_,_,rfl,rfl,?_⟩;have S5:=S.trans sT;generalize upd G t (.tup [.int (i:Int),.ref tr])=H5 at sT S5;have g:=vc.k (k:=(Mv (i:Int):Key)) (sT _ _ ek);rw[hva]at g;refine ii d _ ⟨rfl,g,?_⟩;refine ii tr C (⟨rfl,him.mono (gJ.tk S5),J,fun lw H6 S6 hlw e6=>(ii lw C.ws ⟨rfl,e6,(C.ws_nd J).1,cF (C.ws_nd J).2 O3,fun H7 S7=>?_⟩)⟩);have D:=(sT.trans S6).trans S7;have S07:=S.trans D;have W:=D _ _ el;have ek7:=D _ _ ek;have sca7:=sca.same D;refine⟨⟨_,W⟩,Cd J hzs (fun x e=>Y.nm i x (by rw[hρ,e])) (S07 _ _ etr) sca7 rfl rfl rfl fun y hy=>?_⟩;refine⟨_,W,O2,?_⟩;have S08:=ip (o:= .lst (B++[y])) S07 hl0;have tk8:TK H7 (upd H7 F (.lst (B++[y]))):=EF W (fun zs z=>nomatch z);have l:(upd H7 F (.lst (B++[y]))) d=some (.dK f):=by rw[gy ndl];exact ek7
  have el8:(upd H7 F (.lst (B++[y]))) F=some (.lst (B++[y])):=f7;have sc8:∀{z:Zx} {g:Str->Option Hm} {m:Nat},Sc G z g m->Sc (upd H7 F (.lst (B++[y]))) z g m:=fun h=>(h.same D).updL W;generalize upd H7 F (.lst (B++[y]))=H8 at S08 tk8 l el8 sc8;refine⟨.inr (.inr (.inl ⟨rfl,.inl ⟨_,l⟩⟩)),tr,a,C,O i,20+i,rfl,him.mono (gJ.tk S08),J,sc8 sca,O2,fun d2 M H9 X hd2 e9 nd9 l9 in9=>(io d d2 f M ⟨rfl,rfl,gv l hd2,X _ _ l,e9,O2,?_⟩)⟩;have tk9:TK H9 (upd H9 d (.dK (kq f M))):=EF (X _ _ l) (fun zs z=>nomatch z);have tkA:TK G (upd H9 d (.dK (kq f M))):=fun b u e=>tk9 _ _ (X _ _ (tk8 _ _ (D _ _ e)));refine iab _ _ _ _ (B++[y]) ⟨rfl,ip (S08.trans X) hd0 _,f7,cF (mP _ _) O2,by rw[gy ndl.symm];exact X _ _ el8,by rw[aR,hyl];rfl,?_,?_⟩
  ·intro k x Z R hρ';by_cases hki:k<B.length;·rw[aO hki]at R;exact(ho k x Z R hρ').mono tkA
   ·have hk2:=(av.mp R).1;rw[aR,bc]at hk2;have e:k=B.length:=O2
    subst e;rw[aN (cJ _),cX]at R;cases R;rw[hyl]at hρ'⊢;rw[hρ]at hρ';cases hρ';exact hy.mono fun b u e=>tk9 _ _ (X _ _ (tk8 _ _ e))
  ·intro c hc;rw[nk _ _ _ nd9];rcases in9 (c:Int)with⟨h1,h2⟩|⟨j,e,a',hW,hj,he,hv,hs⟩
   ·rw[h1];refine eak (hsc c (by
     rcases hc with h|⟨k',Z,k1,k2,k3⟩;·exact .inl h
     ·refine .inr (ii k' Z ⟨?_,k2,k3⟩);by_cases z:k'=i;·rw[z,hρ]at k2;cases k2;exact absurd k3 h2
      ·lia)) fun a' g1 g2 g3=>?_;exact⟨a',g1,g2,((sc8 g3).same X).upd (X _ _ l) g1⟩
   ·rw[hv];have na:a'≠d:=by
     rcases hW with h|h;·rw[h];exact nad
     ·exact(gv l h).symm
    refine eak (Y.kid i C j _ e hρ hj he) fun m e1 e2 e3=>?_;have em:c=m:=O2
    subst em;exact⟨a',na,rfl,by rw[e3];exact(hs.upd (X _ _ l) na).le O2⟩
 ·refine fun σ G=>fak fun o3 o4 o5 f B=>fan fun z0 S ek hk el hyl ho hsc=>?_;subst z0;exact q F B G S hl0 el O2 ho
mutual
inductive Vl where
 |num (n p:Int)
 |fn (b:Int) (sc:Ev) (p:Int)
 |rcd (l:Vls) (p:Int)
 |tag (t:Str) (v:Vl) (p:Int)
 |row (l:Vlr) (p:Int)
inductive Ev where
 |nil
 |cons (b:Int) (v:Vl) (sc:Ev)
inductive Vls where
 |nil
 |cons (w:Str) (v:Vl) (t:Vls)
inductive Vlr where
 |nil
 |cons (v:Vl) (t:Vlr)
end
mutual
def Vl.d:Vl->Dt
 | .num n p=> .tup [sD "num",kD n,kD p]
 | .fn b sc p=> .tup [sD "fn",.tup [kD b,sc.d],kD p]
 | .rcd l p=> .tup [sD "rec",.tup l.ds,kD p]
 | .tag t v p=> .tup [sD "tag",.tup [sD t,v.d],kD p]
 | .row l p=> .tup [sD "row",.tup l.ds,kD p]
def Ev.d:Ev->Dt
 | .nil=> .flat .non
 | .cons b v sc=> .tup [kD b,v.d,sc.d]
def Vls.ds:Vls->List Dt
 | .nil=>[]
 | .cons w v t=> .tup [sD w,v.d]::t.ds
def Vlr.ds:Vlr->List Dt
 | .nil=>[]
 | .cons v t=>v.d::t.ds
end
def Vl.s:Vl->Str
 | .num _ _=>"num"
 | .fn _ _ _=>"fn"
 | .rcd _ _=>"rec"
 | .tag _ _ _=>"tag"
 | .row _ _=>"row"
noncomputable def Vl.b:Vl->Dt
 | .num n _=>kD n
 | .fn b sc _=> .tup [kD b,sc.d]
 | .rcd l _=> .tup l.ds
 | .tag t v _=> .tup [sD t,v.d]
 | .row l _=> .tup l.ds
def Vl.p:Vl->Int
 | .num _ p=>p
 | .fn _ _ p=>p
 | .rcd _ p=>p
 | .tag _ _ p=>p
 | .row _ p=>p
def KC (v:Vl):v.d= .tup [sD v.s,v.b,kD v.p]:=by cases v<;>rw[Vl.d]<;>rfl
def uP:Vlr->List Vl
 | .nil=>[]
 | .cons v t=>v::uP t
def Dr:List Vl->Vlr
 |[]=> .nil
 |v::t=> .cons v (Dr t)
theorem Ce:∀l,uP (Dr l)=l
 |[]=>rfl
 |v::t=>congrArg (v::·) (Ce t)
theorem D5:∀l,l.ds=(uP l).map Vl.d
 | .nil=>by rw[Vlr.ds];rfl
 | .cons v t=>by rw[Vlr.ds,D5 t];rfl
def fdL:Vls->List (Str×Vl)
 | .nil=>[]
 | .cons w v t=>(w,v)::fdL t
def fdO:List (Str×Vl)->Vls
 |[]=> .nil
 |p::t=> .cons p.1 p.2 (fdO t)
theorem JS:∀l,fdL (fdO l)=l
 |[]=>rfl
 |p::t=>congrArg (p::·) (JS t)
def fvD (p:Str×Vl):Dt:= .tup [sD p.1,p.2.d]
theorem KD:∀l,l.ds=(fdL l).map fvD
 | .nil=>by rw[Vls.ds];rfl
 | .cons w v t=>by rw[Vls.ds,KD t];rfl
inductive Stp where
 |beg (p:Int) (sc:Ev)
 |par (p:Int) (sc:Ev)
 |hand (p:Int)
noncomputable def Stp.d:Stp->Dt
 | .beg p sc=> .tup [sD "begin",kD p,sc.d]
 | .par p sc=> .tup [sD "parts",kD p,sc.d]
 | .hand p=> .tup [sD "hand",kD p,.flat .non]
def meD (t:Int×Int×Int):Dt:= .tup [kD t.1,kD t.2.1,kD t.2.2]
def haD (t:Int×Int):Dt:= .tup [kD t.1,kD t.2]
structure Ms where
 bg:Nat
 en:Option Str
 me:List (Int×Int×Int)
 ha:List (Int×Int)
 de:List Vl
 st:List Stp
 rd:List Vl
def atZ {a:Type} (l:List a):Int->Option a
 | .ofNat k=>l[k]?
 | .negSucc _=>none
def lP (p:Int) (v:Vl) (s:Ms):Ms:={s with ha:=(p,v.p)::s.ha,rd:=v::s.rd}
def qo (b:Int) (sc:Ev) (p:Int) (s:Ms):Ms:={s with st:= .beg b sc:: .hand p::s.st}
noncomputable def iG (v:Vl) (p k:Int) (f:Bool) (s:Ms):Ms:={s with me:=(v.p,p,k)::s.me,en:=if f then s.en else some "wrong"}
def rT:Ev->Int->Option Vl
 | .nil,_=>none
 | .cons b v sc,p=>if b=p then some v else rT sc p
def nJ:Ro->List Int
 | .fn _ _=>[]
 | .lt _ a _=>[a]
 | .case k _=>[k]
 |ρ=>ρ.pl
def lkV:List (Str×Vl)->Str->Option Vl
 |[],_=>none
 |p::t,x=>if p.1=x then some p.2 else lkV t x
def lkI:List (Str×Str×Int)->Str->Option Int
 |[],_=>none
 |p::t,x=>if p.1=x then some p.2.2 else lkI t x
def isS (s:Str) (v:Vl):Bool:=decide (v.s=s)
def nq:Vl->Int
 | .num n _=>n
 |_=>0
def lg:Vl->List Vl
 | .row l _=>uP l
 |_=>[]
def iJ (c:Str) (a b:Vl) (p:Int) (s:Ms):Ms×Bool:=
 if isS c a then(iG b p 1 (isS c b) (iG a p 0 true s),isS c b)else(iG a p 0 false s,false)
def Gg (b:Bool) (p:Int):Vl:= .tag (if b then "yes" else "no") (.rcd .nil p) p
noncomputable def lj (c:Option Hm) (p:Int) (sc:Ev):Ro->List Vl->Ms->Option Ms
 | .num n,[],s=>some (lP p (.num n p) s)
 | .name _,[],s=>match c with
  |some h=>if h.1="def" then(atZ s.de h.2).map fun v=>lP p v s else(rT sc h.2).map fun v=>lP p v s
  |none=>none
 | .fn _ k,[],s=>some (lP p (.fn k sc p) s)
 | .tag w _,[v],s=>some (lP p (.tag w v p) s)
 | .lt _ a b,[v],s=>some (qo b (.cons a v sc) p s)
 | .get _ w,[v],s=>match v with
  | .rcd l _=>if((fdL l).map Mb).Nodup/\(fdL l).length<=100 then match lkV (fdL l) w with
   |some x=>some (lP p x (iG v p 0 true s))
   |none=>some (iG v p 0 false s)
   else none
  |_=>some (iG v p 0 false s)
 | .rcd l,vs,s=>if l.length=vs.length then some (lP p (.rcd (fdO (bG (l.map Mb) vs)) p) s)else none
 | .case _ l,[v],s=>match v with
  | .tag t x _=>match lkI l t with
   |some b=>some (qo b (.cons b x sc) p (iG v p 0 true s))
   |none=>some (iG v p 0 false s)
  |_=>some (iG v p 0 false s)
 | .row _,vs,s=>some (lP p (.row (Dr vs) p) s)
 | .op o _,vs,s=>
  if o="call" then match vs with
   |[f,a]=>match f with
    | .fn b e _=>some (qo b (.cons b a e) p (iG f p 0 true s))
    |_=>some (iG f p 0 false s)
   |_=>none
  else if o="size" then match vs with
   |[v]=>if isS "row" v then some (lP p (.num (lg v).length p) (iG v p 0 true s))else some (iG v p 0 false s)
   |_=>none
  else if o="at" then match vs with
   |[v,n,x]=>if isS "row" v then if isS "num" n then some (lP p (if 0<=nq n/\nq n<(lg v).length then(lg v).getD (nq n).toNat x else x) (iG n p 1 true (iG v p 0 true s)))else some (iG n p 1 false (iG v p 0 true s))else some (iG v p 0 false s)
   |_=>none
  else match vs with
   |[a,b]=>if o="join" then if(iJ "row" a b p s).2 then if 500<(lg a).length\/500<(lg b).length then none else if 60<(lg a++lg b).length then some {(iJ "row" a b p s).1 with en:=some "full"}else some (lP p (.row (Dr (lg a++lg b)) p) (iJ "row" a b p s).1)else some (iJ "row" a b p s).1
    else if(iJ "num" a b p s).2 then some (lP p (if o="add" then .num (nq a+nq b) p else if o="sub" then .num (nq a-nq b) p else Gg (decide (nq a<nq b)) p) (iJ "num" a b p s).1)else some (iJ "num" a b p s).1
   |_=>none
 |_,_,_=>none
def tkR:Nat->List Vl->List Vl->Option (List Vl×List Vl)
 |0,r,l=>some (l,r)
 |n+ 1,v::r,l=>tkR n r (v::l)
 |_+ 1,[],_=>none
noncomputable def tI (a:List Ro) (c:Nat->Option Hm) (s:Ms):Option Ms:=match s.st with
 |[]=>none
 | .beg p sc::r=>match atZ a p with
  |some b=>some {s with bg:=s.bg+ 1,st:=(nJ b).map (fun k=> .beg k sc)++ .par p sc::r}
  |none=>none
 | .par p sc::r=>match atZ a p with
  |some b=>match tkR (nJ b).length s.rd []with
   |some (l,rd)=>lj (c p.toNat) p sc b l {s with st:=r,rd:=rd}
   |none=>none
  |none=>none
 | .hand p::r=>match s.rd with
  |v::rd=>some (lP p v {s with st:=r,rd:=rd})
  |[]=>none
def AL:List Stp->Bool
 | .beg _ _::_=>true
 |_=>false
noncomputable def tJ (a:List Ro) (c:Nat->Option Hm) (b:Nat) (s:Ms):Option Ms:=if AL s.st=true/\b<=s.bg then some {s with en:=some "turns",st:=s.st.tail}else tI a c s
noncomputable def fMc (p h:Zx) (a g:Int) (e:V) (c d f st b:Zx):List (Str×V):=[("program",.ref p),("homes",.ref h),("turns",.int a),("begun",.int g),("end",e),("meets",.ref c),("had",.ref d),("defined",.ref f),("steps",.ref st),("ready",.ref b)]
def enV:Option Str->V
 |none=> .non
 |some s=> .str s
structure Mad where
 m:Zx
 dx:Zx
 p:Zx
 h:Zx
 me:Zx
 ha:Zx
 de:Zx
 st:Zx
 rd:Zx
def Mad.ls (A:Mad):List Zx:=[A.me,A.ha,A.de,A.st,A.rd]
structure Mc (C:Zx) (H:Hp) (A:Mad) (tu:Nat) (s:Ms):Prop where
 o:H A.m=some (.ins C A.dx (fMc A.p A.h tu s.bg (enV s.en) A.me A.ha A.de A.st A.rd))
 me:∃xs,H A.me=some (.lst xs)/\Ims H xs (s.me.reverse.map meD)
 ha:∃xs,H A.ha=some (.lst xs)/\Ims H xs (s.ha.reverse.map haD)
 de:∃xs,H A.de=some (.lst xs)/\Ims H xs (s.de.map Vl.d)
 st:∃xs,H A.st=some (.lst xs)/\Ims H xs (s.st.reverse.map Stp.d)
 rd:∃xs,H A.rd=some (.lst xs)/\Ims H xs (s.rd.reverse.map Vl.d)
 nd:A.ls.Nodup
def FM (A:Mad) (H b:Hp):Prop:=∀a o,H a=some o->a≠A.m->a∉A.ls->b a=some o
def FM.refl:FM A H H:=fun _ _ e _ _=>e
def FM.trans (f:FM A H H1) (g:FM A H1 H2):FM A H H2:=fun a o e n m=>g a o (f a o e n m) n m
def FM.same (S:gJ H H'):FM A H H':=fun a o e _ _=>S a o e
section
variable {C:Zx} {H H':Hp} {A:Mad} {tu:Nat} {s:Ms}
def Mc.out (M:Mc C H A tu s) {a:Zx} (e:H a=some (.tup xs)):a≠A.m/\a∉A.ls:=by
 obtain⟨o,⟨_,g,_⟩,⟨_,f,_⟩,⟨_,d,_⟩,⟨_,c,_⟩,⟨_,b,_⟩,_⟩:=M;refine⟨fun z=>?_,fun z=>?_⟩;·rw[z,o]at e;cases e
 ·simp only[Mad.ls,ao,bI,or_false]at z;rcases z with rfl|rfl|rfl|rfl|rfl;·rw[g]at e;cases e
  ·rw[f]at e;cases e
  ·rw[d]at e;cases e
  ·rw[c]at e;cases e
  ·rw[b]at e;cases e
def Mc.tk (M:Mc C H A tu s) (F:FM A H H'):TK H H':=fun a b e=>F a _ e (M.out e).1 (M.out e).2
def Mc.same (M:Mc C H A tu s) (S:gJ H H'):Mc C H' A tu s:=by obtain⟨o,⟨e,r,l⟩,⟨d,q,j⟩,⟨c,p,i⟩,⟨b,n,h⟩,⟨a,m,g⟩,f⟩:=M;have k:=gJ.tk S;exact⟨S _ _ o,⟨e,S _ _ r,l.mono k⟩,⟨d,S _ _ q,j.mono k⟩,⟨c,S _ _ p,i.mono k⟩,⟨b,S _ _ n,h.mono k⟩,⟨a,S _ _ m,g.mono k⟩,f⟩
theorem Mc.upd (M:Mc C H A tu s) {a:Zx} (B:a∈A.ls) (e:H a=some (.lst xs)) (y:s'.bg=s.bg) (x:s'.en=s.en)
  (I:if a=A.me then Ims H ys (s'.me.reverse.map meD)else s'.me=s.me) (G:if a=A.ha then Ims H ys (s'.ha.reverse.map haD)else s'.ha=s.ha) (F:if a=A.de then Ims H ys (s'.de.map Vl.d)else s'.de=s.de)
  (E:if a=A.st then Ims H ys (s'.st.reverse.map Stp.d)else s'.st=s.st) (D:if a=A.rd then Ims H ys (s'.rd.reverse.map Vl.d)else s'.rd=s.rd):Mc C (upd H a (.lst ys)) A tu s'/\FM A H (upd H a (.lst ys)):=by
 have k:TK H (NR H a (.lst ys)):=(wW e).tk;have c:∀{b:Zx} {i:Type} {f:i->Dt} {l d:List i},(∃j,H b=some (.lst j)/\Ims H j (l.map f))->(if a=b then Ims H ys (d.map f)else d=l)->∃j,(NR H a (.lst ys)) b=some (.lst j)/\Ims (NR H a (.lst ys)) j (d.map f):=fun{b i f l d} ⟨j,J,w⟩ h=>by
  by_cases z:a=b;·rw[ig z]at h;subst z;exact⟨ys,f7,h.mono k⟩
  ·rw[gZ z]at h;rw[h];exact⟨j,by rw[gy (Mu z)];exact J,w.mono k⟩
 obtain⟨o,u,t,r,q,p,v⟩:=M;have g:∀{b:Zx} {i:Type} {f:i->Dt} {l d:List i},(if a=b then Ims H ys (d.reverse.map f)else d=l)->if a=b then Ims H ys (d.reverse.map f)else d.reverse=l.reverse:=fun{b i f l d} h=>by
  by_cases z:a=b;·rw[ig z]at h⊢;exact h
  ·rw[gZ z]at h⊢;rw[h]
 refine⟨⟨?_,c u (g I),c t (g G),c r F,c q (g E),c p (g D),v⟩,fun b L K n m=>by rw[gy (fun z=>m (by rw[z];exact B))];exact K⟩;rw[gy (fun z=>by rw[<-z,o]at e;cases e),y,x];exact o
end
def Bd (n:Nat) (s:Ms):Prop:=s.me.length<=n/\s.ha.length<=n/\s.de.length<=n/\s.st.length<=n/\s.rd.length<=n
def Bd.mono {n m:Nat} {s:Ms} (h:Bd n s) (k:n<=m):Bd m s:=⟨cF h.1 k,cF h.2.1 k,cF h.2.2.1 k,cF h.2.2.2.1 k,cF h.2.2.2.2 k⟩
section
variable {C:Zx} {H H':Hp} {A:Mad} {tu:Nat} {s:Ms}
def Mc.nds (M:Mc C H A tu s):(A.me≠A.ha/\A.me≠A.de/\A.me≠A.st/\A.me≠A.rd)/\(A.ha≠A.de/\A.ha≠A.st/\A.ha≠A.rd)/\(A.de≠A.st/\A.de≠A.rd)/\A.st≠A.rd:=by have n:=M.nd;simp only[Mad.ls,aG,ao,bI,or_false,not_or]at n;exact⟨n.1,n.2.1,n.2.2.1,n.2.2.2.1⟩
def Mc.meP (M:Mc C H A tu s) {x:V} {t:Int×Int×Int} (g:Im H x (meD t)):∃f,H A.me=some (.lst f)/\f.length=s.me.length/\Mc C (NR H A.me (.lst (f++[x]))) A tu {s with me:=t::s.me}/\FM A H (NR H A.me (.lst (f++[x]))):=by obtain⟨⟨a,b,c,d⟩,_⟩:=M.nds;refine eaa M.me fun f e i=>?_;refine⟨f,e,by rw[i.length,aE,bM],M.upd (by simp[Mad.ls]) e rfl rfl (by rw[ig rfl,bb,bq];exact i.app (.cons g .nil)) (by rw[gZ a]) (by rw[gZ b]) (by rw[gZ c]) (by rw[gZ d])⟩
def Mc.haP (M:Mc C H A tu s) {x:V} {t:Int×Int} (j:Im H x (haD t)):∃f,H A.ha=some (.lst f)/\f.length=s.ha.length/\Mc C (NR H A.ha (.lst (f++[x]))) A tu {s with ha:=t::s.ha}/\FM A H (NR H A.ha (.lst (f++[x]))):=by refine eac M.nds fun h g _=>?_;obtain⟨a,_⟩:=h;refine eac g fun b c d=>?_;refine eaa M.ha fun f e i=>?_;refine⟨f,e,by rw[i.length,aE,bM],M.upd (by simp[Mad.ls]) e rfl rfl (by rw[gZ a.symm]) (by rw[ig rfl,bb,bq];exact i.app (.cons j .nil)) (by rw[gZ b]) (by rw[gZ c]) (by rw[gZ d])⟩
def Mc.deP (M:Mc C H A tu s) {x:V} {v:Vl} (k:Im H x v.d):∃f,H A.de=some (.lst f)/\f.length=s.de.length/\Mc C (NR H A.de (.lst (f++[x]))) A tu {s with de:=s.de++[v]}/\FM A H (NR H A.de (.lst (f++[x]))):=by refine ean M.nds fun j h g _=>?_;refine eac j fun _ a _=>?_;obtain⟨b,_⟩:=h;obtain⟨c,d⟩:=g;refine eaa M.de fun f e i=>?_;refine⟨f,e,by rw[i.length,aE],M.upd (by simp[Mad.ls]) e rfl rfl (by rw[gZ a.symm]) (by rw[gZ b.symm]) (by rw[ig rfl,bq];exact i.app (.cons k .nil)) (by rw[gZ c]) (by rw[gZ d])⟩
def Mc.stP (M:Mc C H A tu s) {x:V} {t:Stp} (k:Im H x t.d):∃f,H A.st=some (.lst f)/\f.length=s.st.length/\Mc C (NR H A.st (.lst (f++[x]))) A tu {s with st:=t::s.st}/\FM A H (NR H A.st (.lst (f++[x]))):=by refine ean M.nds fun j h g d=>?_;refine ean j fun _ _ a _=>?_;refine eac h fun _ b _=>?_;obtain⟨c,_⟩:=g;refine eaa M.st fun f e i=>?_;refine⟨f,e,by rw[i.length,aE,bM],M.upd (by simp[Mad.ls]) e rfl rfl (by rw[gZ a.symm]) (by rw[gZ b.symm]) (by rw[gZ c.symm]) (by rw[ig rfl,bb,bq];exact i.app (.cons k .nil)) (by rw[gZ d])⟩
def Mc.rdP (M:Mc C H A tu s) {x:V} {v:Vl} (k:Im H x v.d):∃f,H A.rd=some (.lst f)/\f.length=s.rd.length/\Mc C (NR H A.rd (.lst (f++[x]))) A tu {s with rd:=v::s.rd}/\FM A H (NR H A.rd (.lst (f++[x]))):=by refine ean M.nds fun j h g d=>?_;refine ean j fun _ _ _ a=>?_;refine eac h fun _ _ b=>?_;obtain⟨_,c⟩:=g;refine eaa M.rd fun f e i=>?_;refine⟨f,e,by rw[i.length,aE,bM],M.upd (by simp[Mad.ls]) e rfl rfl (by rw[gZ a.symm]) (by rw[gZ b.symm]) (by rw[gZ c.symm]) (by rw[gZ d.symm]) (by rw[ig rfl,bb,bq];exact i.app (.cons k .nil))⟩
def vR {g:Type} {f:g->Dt} {l:List g} {a:g} (h:Ims H c ((l++[a]).map f)):∃b y,c=b++[y]/\Ims H b (l.map f)/\Im H y (f a):=by
 have p:∀{e:List Dt} {c:List V} {d:Dt},Ims H c (e++[d])->∃b v,c=b++[v]/\Ims H b e/\Im H v d:=fun{e}=>by
  induction e with
  |nil=>
   intro c d h
   cases h with
   |cons j i=>cases i;exact ii ([]) _ ⟨rfl,.nil,j⟩
  |cons q e m=>
   intro c d h
   cases h with
   |cons j i=>refine eap (m i) fun b v k o n=>?_;subst k;exact ii (_::b) v ⟨rfl,.cons j o,n⟩
 rw[bq]at h;exact p h
def Mc.stO (M:Mc C H A tu s) {t:Stp} {r:List Stp} (m:s.st=t::r):∃f x,H A.st=some (.lst (f++[x]))/\Im H x t.d/\Mc C (NR H A.st (.lst f)) A tu {s with st:=r}/\FM A H (NR H A.st (.lst f)):=by refine ean M.nds fun l k j d=>?_;refine ean l fun _ _ a _=>?_;refine eac k fun _ b _=>?_;obtain⟨c,_⟩:=j;refine eaa M.st fun f e i=>?_;rw[m,bb]at i;refine eap (vR i) fun h y g o n=>?_;subst g;refine ii h y ⟨e,n,M.upd (by simp[Mad.ls]) e rfl rfl (by rw[gZ a.symm]) (by rw[gZ b.symm]) (by rw[gZ c.symm]) (by rw[ig rfl];exact o) (by rw[gZ d])⟩
def Mc.rdO (M:Mc C H A tu s) {v:Vl} {r:List Vl} (m:s.rd=v::r):∃f x,H A.rd=some (.lst (f++[x]))/\Im H x v.d/\Mc C (NR H A.rd (.lst f)) A tu {s with rd:=r}/\FM A H (NR H A.rd (.lst f)):=by refine ean M.nds fun l k j d=>?_;refine ean l fun _ _ _ a=>?_;refine eac k fun _ _ b=>?_;obtain⟨_,c⟩:=j;refine eaa M.rd fun f e i=>?_;rw[m,bb]at i;refine eap (vR i) fun h y g o n=>?_;subst g;refine ii h y ⟨e,n,M.upd (by simp[Mad.ls]) e rfl rfl (by rw[gZ a.symm]) (by rw[gZ b.symm]) (by rw[gZ c.symm]) (by rw[gZ d.symm]) (by rw[ig rfl];exact o)⟩
def Mc.setO (M:Mc C H A tu s) (f:Nat) (d:Option Str):Mc C (NR H A.m (.ins C A.dx (fMc A.p A.h tu f (enV d) A.me A.ha A.de A.st A.rd))) A tu {s with bg:=f,en:=d}/\FM A H (NR H A.m (.ins C A.dx (fMc A.p A.h tu f (enV d) A.me A.ha A.de A.st A.rd))):=by
 have F:FM A H (NR H A.m (.ins C A.dx (fMc A.p A.h tu f (enV d) A.me A.ha A.de A.st A.rd))):=fun a o e n _=>by rw[gy n];exact e
 have k:=M.tk F;obtain⟨o,⟨u,l,D⟩,⟨t,j,B⟩,⟨r,i,y⟩,⟨q,h,x⟩,⟨p,g,w⟩,v⟩:=M;have c:∀{b:Zx} {m:List V},H b=some (.lst m)->b≠A.m:=fun e z=>by rw[z,o]at e;cases e
 exact⟨⟨f7,⟨u,by rw[gy (c l)];exact l,D.mono k⟩,⟨t,by rw[gy (c j)];exact j,B.mono k⟩,⟨r,by rw[gy (c i)];exact i,y.mono k⟩,⟨q,by rw[gy (c h)];exact h,x.mono k⟩,⟨p,by rw[gy (c g)];exact g,w.mono k⟩,v⟩,F⟩
end
section
variable {p h me ha de st rd:Zx} {tu bg:Int} {en:V}
def Cf:(fMc p h tu bg en me ha de st rd).lookup ("had":Str)=some (.ref ha):=O1
def xr:(fMc p h tu bg en me ha de st rd).lookup ("meets":Str)=some (.ref me):=O1
def pQ:(fMc p h tu bg en me ha de st rd).lookup ("defined":Str)=some (.ref de):=O1
def mi:(fMc p h tu bg en me ha de st rd).lookup ("steps":Str)=some (.ref st):=O1
def qp:(fMc p h tu bg en me ha de st rd).lookup ("ready":Str)=some (.ref rd):=O1
def tK:(fMc p h tu bg en me ha de st rd).lookup ("end":Str)=some en:=O1
def tL:(fMc p h tu bg en me ha de st rd).lookup ("begun":Str)=some (.int bg):=O1
def Cg:(fMc p h tu bg en me ha de st rd).lookup ("turns":Str)=some (.int tu):=O1
end
def oa(h:H t=none) (i:Ims H xs ds):Im (NR H t (.tup xs)) (.ref t) (.tup ds):= .tup f7 (i.mono (gJ.tk (gb h _)))
def Ci (C:Zx):Sp:=fun f H Q _=>∃A c s b e x d,f=[.ref A.m,.int b,x,.int e]/\Mc C H A c s/\Im H x d.d/\s.st.length<10000000/\∀a,Mc C a A c (qo b d e s)->FM A H a->Q .non a
def kN (T:Txt K mg):MO P w base mg 1 T.e66 (Ci T.c5.a):=by
 refine T.e66.F.rd qj fun L A0 n W H S Q E Z h=>?_;refine eav h fun A U s b c x C=>faj fun z M F X q=>?_;subst z;refine HzX ?_;intro _;refine⟨_,(fW (gK (iW (jG eS eU eV gX (NS (gR T.c5.cl T.n5steps (cv 0))) (fV (NS (iB (fV gh (fV (cv 3) (fV hG fY))))) fY))))
  (f9 (gK (iW (jG eS eU eV gX (NS (gR T.c5.cl T.n5steps (cv 0))) (fV (NS (iB (fV gh (fV (cv 1) (fV (cv 2) fY))))) fY)))))),?_⟩;have V:=L9;refine eaa M.st fun B e _=>?_;refine⟨_,(ii _ _ ⟨M.o,mi⟩),⟨_,e⟩,lC,fun t v=>?_⟩;have k:=gb v (.tup [.str "hand",.int c,.non]);have o:=M.same k;have u:Im (NR H t (.tup [.str "hand",.int c,.non])) (.ref t) (Stp.hand c).d:=oa v (.cons (.flat rfl) (.cons (.flat rfl) (.cons (.flat rfl) .nil)));have f:=F.mono (gJ.tk k);generalize NR H t (.tup [.str "hand",.int c,.non])=H1 at k o u f⊢;refine eau (o.stP u) fun a J Y l p=>?_;refine⟨a,J,O2,?_⟩;have d:=f.mono (o.tk p);have j:=(FM.same k).trans p;dsimp only;generalize NR H1 A.st (.lst (a++[.ref t]))=H2 at l p j d⊢;refine eaa l.st fun B e _=>?_;refine⟨_,(ii _ _ ⟨l.o,mi⟩),⟨_,e⟩,lC,fun r g=>?_⟩;have y:=gb g (.tup [.str "begin",.int b,x]);have O:=l.same y;have G:Im (NR H2 r (.tup [.str "begin",.int b,x])) (.ref r) (Stp.beg b C).d:=oa g (.cons (.flat rfl) (.cons (.flat rfl) (.cons d .nil)));refine eau (O.stP G) fun m I D N R=>?_;refine⟨m,I,?_,q _ N ((j.trans (FM.same y)).trans R)⟩;rw[D];show(Stp.hand c::s.st).length<_;rw[aB];lia
def xu (C:Zx):Sp:=fun d H Q _=>∃A b s c x v,d=[.ref A.m,.int c,x]/\Mc C H A b s/\Im H x v.d/\s.ha.length<10000000/\s.rd.length<10000000/\∀a,Mc C a A b (lP c v s)->FM A H a->Q .non a
def qr{v:Vl} (h:Im H x v.d):∃t y,x= .ref t/\H t=some (.tup [.str v.s,y,.int v.p])/\Im H y v.b:=by
 rw[KC]at h
 cases h with
 |tup e i=>
  cases i with
  |cons c i=>
   cases i with
   |cons b i=>
    cases i with
    |cons a i=>
     cases i
     cases c with
     |flat f=>cases a with
      |flat d=>exact ii _ _ ⟨rfl,e,b⟩
def gQ (T:Txt K mg):MO P w base mg 1 T.e65 (xu T.c5.a):=by
 refine T.e65.F.rd rf fun D Y k R H J Q E X h=>?_;refine eax h fun A L s f x v=>fag fun i M o U S q=>?_;subst i;refine HzX ?_;intro _;refine⟨_,(fW (gK (iW (jG eS eU eV gX (NS (gR T.c5.cl T.n5had (cv 0))) (fV (NS (iB (fV (cv 1) (fV (gk gB (cv 2) fX) fY)))) fY))))
  (f9 (gK (iW (jG eS eU eV gX (NS (gR T.c5.cl T.n5ready (cv 0))) (fV (NS (cv 2)) fY)))))),?_⟩;have O:=L9;refine eaa M.ha fun I e _=>?_;refine eap (qr o) fun N y i C W=>?_;subst i;refine⟨_,(ii _ _ ⟨M.o,Cf⟩),⟨_,e⟩,_,C,gf (fZ rfl) ⟨lJ,fun t r=>?_⟩⟩;have g:=gb r (.tup [.int f,.int v.p]);have m:=M.same g;have p:Im (NR H t (.tup [.int f,.int v.p])) (.ref t) (haD (f,v.p)):=oa r (.cons (.flat rfl) (.cons (.flat rfl) .nil));have c:=o.mono (gJ.tk g);generalize NR H t (.tup [.int f,.int v.p])=H1 at g m p c⊢;refine eau (m.haP p) fun a B V l n=>?_;refine⟨a,B,O2,?_⟩;have b:=c.mono (m.tk n);have d:=(FM.same g).trans n;dsimp only;generalize NR H1 A.ha (.lst (a++[.ref t]))=H2 at l n d b⊢;refine eau (l.rdP b) fun j u z F G=>?_;exact⟨_,(ii _ _ ⟨l.o,qp⟩),⟨_,u⟩,j,u,by rw[z];lia,q _ F (d.trans G)⟩
def iH(b:((["program","homes","turns","begun","end","meets","had","defined","steps","ready"]:Zd).all fun x=>!(n==x))=true):(fMc p h tu bg en me ha de st rd).lookup n=none:=by simp only[ba,List.all_nil,Bool.and_true,fg,Bool.not_eq_true']at b;refine eay b fun l k j i g f e d c a=>?_;simp only[fMc,bt,l,k,j,i,g,f,e,d,c,a,List.lookup_nil]
def r8:jV "end" v (fMc p h tu bg en me ha de st rd)=fMc p h tu bg v me ha de st rd:=O1
def Iz (C:Zx):Sp:=fun d H Q _=>∃A b s x v c k f,d=[.ref A.m,x,.int c,.int k,.bl f]/\Mc C H A b s/\Im H x v.d/\s.me.length<10000000/\∀a,Mc C a A b (iG v c k f s)->FM A H a->Q (.bl f) a
def lN (T:Txt K mg):MO P w base mg 1 T.e67 (Iz T.c5.a):=by
 refine T.e67.F.rd rS fun z U i L H F Q E S h=>?_;refine eaz h fun A G s x v c k f=>faj fun g M p N q=>?_;subst g;refine HzX ?_;intro _;refine⟨_,(fW (gK (iW (jG eS eU eV gX (NS (gR T.c5.cl T.n5meets (cv 0))) (fV (NS (iB (fV (gk gB (cv 1) fX) (fV (cv 2) (fV (cv 3) fY))))) fY))))
  (fW (gM (mM (jC (cv 4)))
   (f9 (jk T.c5.cl T.n5end (js (NS (cv 0)) (NS gh) rfl)))
   gA)
  (f9 (gC (cv 4))))),?_⟩;refine Hz2 ?_;intros;have J:=L9;refine eaa M.me fun D e _=>?_;refine eap (qr p) fun I y g u R=>?_;subst g;refine⟨_,(ii _ _ ⟨M.o,xr⟩),⟨_,e⟩,_,u,gf (fZ rfl) ⟨lC,fun t m=>?_⟩⟩;have j:=gb m (.tup [.int v.p,.int c,.int k]);have n:=M.same j;have l:Im (NR H t (.tup [.int v.p,.int c,.int k])) (.ref t) (meD (v.p,c,k)):=oa m (.cons (.flat rfl) (.cons (.flat rfl) (.cons (.flat rfl) .nil)));generalize NR H t (.tup [.int v.p,.int c,.int k])=H1 at j n l⊢;refine eau (n.meP l) fun b r O d o=>?_;refine⟨b,r,O2,?_⟩;have a:=(FM.same j).trans o;dsimp only;generalize NR H1 A.me (.lst (b++[.ref t]))=H2 at d o a⊢
 cases f with
 |true=>refine⟨_,rfl,ij ?_⟩;exact q _ d a
 |false=>obtain⟨B,C⟩:=d.setO s.bg (some "wrong");refine⟨_,rfl,iK (ii _ _ ⟨d.o,by show 10<1000;decide,?_⟩)⟩;rw[r8];exact q _ B (a.trans C)
def IA (C:Zx):Sp:=fun e H Q _=>∃A c s a x v d k,e=[.ref A.m,.str a,x,.int d,.int k]/\Mc C H A c s/\Im H x v.d/\s.me.length<10000000/\∀b,Mc C b A c (iG v d k (isS a v) s)->FM A H b->Q (.bl (isS a v)) b
def jq (T:Txt K mg):MO P w base mg 2 T.e68 (IA T.c5.a):=by refine T.e68.F.rd pK fun l z b t H p Q E i h=>?_;refine eaz h fun A d s e x v f k=>faj fun a M c g q=>?_;subst a;refine⟨_,(f9 (gC (gY (gS (NS (cv 0)) T.c5.cl T.e67.me (lN T) i.m T.e67.b .nil ik (fV (cv 2) (fV (cv 3) (fV (cv 4) (fV (iV iA (gk gB (cv 2) fX) (cv 1)) fY)))))))),?_⟩;refine eap (qr c) fun r y a j u=>?_;subst a;refine⟨(ii _ _ ⟨M.o,iH gL⟩),_,j,gf (fZ rfl) (iag A d s _ v f k (isS e v) ⟨?_,M,c,g,fun n m o=>q n m o⟩)⟩;rw[fj];rfl
def Gh (C:Zx):Sp:=fun h H Q _=>∃A g s d c x y a b e,h=[.ref A.m,.str d,.ref c,.int e]/\Mc C H A g s/\H c=some (.lst [x,y])/\c≠A.m/\c∉A.ls/\Im H x a.d/\Im H y b.d/\s.me.length<9500000/\∀f,Mc C f A g (iJ d a b e s).1->FM A H f->Q (.bl (iJ d a b e s).2) f
def iP (T:Txt K mg):MO P w base mg 3 T.e69 (Gh T.c5.a):=by
 refine T.e69.F.rd nj fun v L f D H C Q E m h=>?_;refine eaw h fun A j s e F x y a b k=>faw fun o M n r p u t G q=>?_;subst o;refine⟨_,(f9 (gC (nB (gY (gS (NS (cv 0)) T.c5.cl T.e68.me (jq T) m.m T.e68.b .nil ik (fV (cv 1) (fV (gk gi (cv 2) fX) (fV (cv 3) (fV fX fY)))))) (nA (gY (gS (NS (cv 0)) T.c5.cl T.e68.me (jq T) m.m T.e68.b .nil ik (fV (cv 1) (fV (gk gi (cv 2) fX) (fV (cv 3) (fV fX fY)))))))))),?_⟩;refine⟨(ii _ _ ⟨M.o,iH gL⟩),_,n,gf (fZ rfl) (iag A j s e x a k 0 ⟨rfl,M,u,O2,fun J c d=>?_⟩)⟩;have i:=d _ _ n r p;have g:=t.mono (M.tk d);unfold iJ at q
 cases l:isS e a with
 |false=>rw[l]at c q;exact⟨_,rfl,ij (q _ c d)⟩
 |true=>rw[l]at c q;refine⟨_,rfl,iK ⟨(ii _ _ ⟨c.o,iH gL⟩),_,i,gf (fZ rfl) (iag A j _ e y b k 1 ⟨rfl,c,g,?_,fun I z B=>q _ z (d.trans B)⟩)⟩⟩;show(_::s.me).length<_;rw[aB];lia
def Gj{g:TG} {k:TS} {D:ny} (c:Nat->St->Hp->Prop) (z:c 0 b H) (t:∀i b H,i<=xs.length->c i b H->SqL K H a xs)
  (s:∀i x b H,i<xs.length->xs[xs.length-1-i]?=some x->c i b H->g x b H fun f j=>k {D with nx:=c (i+ 1),ct:=c (i+ 1),bk:=D.nx} f j) (w:∀b H,c xs.length b H->D.nx b H):
  ∃W:Nat->Nat->St->Hp->Prop,(∃m,W 0 m b H)/\∀i m b H,W i m b H->
   ((Itv K a xs.length).stop i H/\D.nx b H)\/((Itv K a xs.length).go i H/\∃N,(∀h d,N h d->∃l,l<m/\W (i+ 1) l h d)/\∀x d,(Itv K a xs.length).yld i H x d->g x b d fun f j=>k {D with nx:=N,ct:=N,bk:=D.nx} f j):=by
 refine⟨fun i m b H=>m=xs.length-i/\i<=xs.length/\c i b H,⟨xs.length,O4,cK _,z⟩,?_⟩;refine fun i m b H=>fae fun n u p=>?_;subst n;have q:=t i b H u p;by_cases hlt:i<xs.length;·refine .inr ⟨⟨hlt,xs,q,rfl⟩,c (i+ 1),fun h d o=>⟨xs.length-(i+ 1),O2,rfl,hlt,o⟩,fun v d y=>?_⟩;obtain⟨rfl,r⟩:=y;exact s i v b d hlt (r xs q) p
 ·have e:i=xs.length:=O2
  subst e;exact .inl ⟨rfl,w b H p⟩
theorem r9:∀{n:Nat} {r l e d:List Vl},tkR n r l=some (e,d)->n<=r.length/\e=(r.take n).reverse++l/\d=r.drop n
 |0,r,l,e,d,h=>by cases h;exact⟨cK _,rfl,rfl⟩
 |n+ 1,v::r,l,e,d,h=>by refine eac (r9 (n:=n) h) fun a b c=>?_;exact⟨by simpa using a,by rw[b];simp,by rw[c];rfl⟩
 |n+ 1,[],l,e,d,h=>by cases h
def Mad.all (A:Mad):List Zx:=A.m::A.ls
def FM.get {A:Mad} {H b:Hp} (F:FM A H b) {a:Zx} {o:HO} (e:H a=some o) (n:a∉A.all):b a=some o:=F a o e (fun z=>n (by rw[z];exact aj)) fun z=>n (ak _ z)
def FM.upd {l:Zx} (F:FM A H H') (h:H l=none):FM A H (NR H' l o):=fun a u e n m=>by rw[gy (gv e h)];exact F a u e n m
def Mc.new {C:Zx} {f:Nat} {s:Ms} (M:Mc C H A f s) {l:Zx} (h:H l=none):l∉A.all:=fun z=>by
 obtain⟨o,⟨_,e,_⟩,⟨_,d,_⟩,⟨_,c,_⟩,⟨_,b,_⟩,⟨_,a,_⟩,_⟩:=M;simp only[Mad.all,Mad.ls,ao,bI,or_false]at z;rcases z with rfl|rfl|rfl|rfl|rfl|rfl;·rw[h]at o;cases o
 ·rw[h]at e;cases e
 ·rw[h]at d;cases d
 ·rw[h]at c;cases c
 ·rw[h]at b;cases b
 ·rw[h]at a;cases a
def Mc.oth {C:Zx} {c:Nat} {s:Ms} (M:Mc C H A c s) {l:Zx} (h:l∉A.all) (e:H l=some (.lst xs)):Mc C (NR H l o) A c s:=by have k:TK H (NR H l o):=(wW e).tk;have a:∀{b:Zx},b∈A.all->(NR H l o) b=H b:=fun m=>gy fun z=>h (by rw[<-z];exact m);obtain⟨o,⟨j,B,u⟩,⟨i,y,t⟩,⟨g,x,r⟩,⟨f,w,q⟩,⟨d,v,p⟩,n⟩:=M;exact⟨by rw[a (by simp[Mad.all])];exact o,⟨j,by rw[a (by simp[Mad.all,Mad.ls])];exact B,u.mono k⟩,⟨i,by rw[a (by simp[Mad.all,Mad.ls])];exact y,t.mono k⟩,⟨g,by rw[a (by simp[Mad.all,Mad.ls])];exact x,r.mono k⟩,⟨f,by rw[a (by simp[Mad.all,Mad.ls])];exact w,q.mono k⟩,⟨d,by rw[a (by simp[Mad.all,Mad.ls])];exact v,p.mono k⟩,n⟩
def Gk:∀{xs:List V} {c:List Dt},Ims H xs c->Ims H xs.reverse c.reverse:=fun{xs c} h=>by
 induction c generalizing xs with
 |nil=>cases h;exact .nil
 |cons d c i=>
  cases h with
  |cons a b=>rw[bb,bb];exact(i b).app (.cons a .nil)
abbrev hdT (i:Nat) (x:Str):TT:=cT (tOp (cEq false) (tOp zu (cV i) (tC (.int 0))) (tC (.str x)))
def uQ(hσ:a[i]?=some (some (.ref t))) (c:H t=some (.tup (.str s::ys))) (e:decide (s=x)=b) (h:k b H):hdT i x a H k:=by show onV a[i]? _;rw[hσ];refine⟨_,c,gf (fZ rfl) ?_⟩;dsimp only[tC,cEq,onB];rw[fj,e];exact h
def i9(hσ:a[i]?=some (some (.ref t))) (b:H t=some (.tup (.str s::ys))) (e:decide (s=x)=false) (h:u D a H):pZ (qD (hdT i x) T jW) u D a H:=uQ hσ b e (ij h)
def tM(hσ:a[i]?=some (some (.ref t))) (b:H t=some (.tup (.str s::ys))) (e:decide (s=x)=true) (h:T {D with nx:=u D} a H):pZ (qD (hdT i x) T jW) u D a H:=uQ hσ b e (iK h)
def IB{F:Bool->Hp->Prop} (e:¬b<=a) (h:F false H):cI0 (fun i j=> .bl (decide (j<=i))) (.int a) (.int b) H fun x c=>onB x fun k=>F k c:=by show F (decide (b<=a)) H;rw[hV e];exact h
def IC{F:Bool->Hp->Prop} (e:b<=a) (h:F true H):cI0 (fun i j=> .bl (decide (j<=i))) (.int a) (.int b) H fun x c=>onB x fun k=>F k c:=by show F (decide (b<=a)) H;rw[gT e];exact h
def kQ(h:Im H (.ref t) ρ.d):∃c,H t=some (.tup (.str ρ.s::c))/\Ims H c ρ.r:=by
 unfold Ro.d at h
 cases h with
 |tup e i=>
  cases i with
  |cons a i=>cases a;exact⟨_,e,i⟩
def zK(e:H l=some (.lst (ys++[y]))) (q:Q y (NR H l (.lst ys))):LM (.ref l) [] H Q:=(iaa l _ y ⟨rfl,rfl,e,by rw[aR,bc,Nat.add_sub_cancel,aN (cJ _),cX];rfl,by rw[List.dropLast_concat];exact q⟩)
inductive XTr (C:Zx) (vs:List V) (H:Hp) (Q:VK):Prop
 |mk (A:Mad) (tu:Nat) (s:Ms) (n:Nat) (l rd:List Vl) (e:vs=[.ref A.m,.int (n:Int)]) (M:Mc C H A tu s) (hn:n<=1000) (ht:tkR n s.rd []=some (l,rd)) (q:∀H' a xs,H a=none->H' a=some (.lst xs)->Ims H' xs (l.map Vl.d)->Mc C H' A tu {s with rd:=rd}->FM A H H'->Q (.ref a) H')
def KG (C:Zx):Sp:=fun a H Q _=>XTr C a H Q
def TrI (C:Zx) (A:Mad) (e:Nat) (s:Ms) (n:Nat) (H:Hp) (c:Zx) (i:Nat) (d:St) (a:Hp):Prop:=∃o b,d=[some (.ref A.m),some (.int (n:Int)),some (.ref c),o]/\a c=some (.lst b)/\Ims a b ((s.rd.take i).map Vl.d)/\Mc C a A e {s with rd:=s.rd.drop i}/\FM A H a
def oh (T:Txt K mg):MO P w base mg 1 T.e64 (KG T.c5.a):=by
 refine T.e64.F.rd jH fun cdv A0 x s0 H vs Q E hr h=>?_;obtain⟨A,W,s,n,l,rd,rfl,M,hn,ht,q⟩:=h;refine HzX ?_;intro _;refine⟨_,(fW (pS (i:=2) jH.nd (gG fY))
  (fW (jX Mh rfl (ko rfl T.z_range (fV (cv 1) fY)) (pN (i:=3) jH.nd)
   (f9 (gK (iW (jG eS eU eV gX (NS (cv 2)) (fV (NS (uE eS eW eX uF (gR T.c5.cl T.n5ready (cv 0)))) fY))))))
  (f9 (gC (Av rfl rfl T.z_list rfl T.z_reversed (fV (cv 2) fY)))))),?_⟩;refine Hz2 ?_;intros;have sl:=L9;refine eac (r9 ht) fun t1 Y X=>?_;refine⟨p7,fun j c=>?_⟩;have J:=gb c (.lst []);have M1:=M.same J;have D:=M.new c;have e1:(NR H j (.lst [])) j=some (.lst []):=f7;dsimp only[gU];refine⟨_,rfl,O2,O2,nL (TrI T.c5.a A W s n H j) (ii none ([]) ⟨rfl,e1,.nil,M1,FM.same J⟩) ?_ ?_⟩
 ·refine fun i R O hi=>fai fun o g u p e b t=>?_;subst u;rw[fA]at hi;obtain⟨v,G⟩:∃v,s.rd[i]?=some v:=⟨_,bE O2⟩;have B:s.rd.drop i=v::s.rd.drop (i+ 1):=by obtain⟨U,S⟩:=av.mp G;rw[bS U,S]
  refine eaj (b.rdO B) fun V y I Z N r=>?_;have m:=r.get p D;have F:=e.mono (b.tk r);have d:=Z.mono (b.tk r);have f:=t.trans r;refine⟨⟨_,p⟩,_,(ii _ _ ⟨b.o,qp⟩),.inl ⟨rfl,_,NT I⟩,zK I ⟨g,m,?_,?_⟩⟩;·rw[e.length,aE,aM];lia
  dsimp only;generalize NR O A.rd (.lst V)=H3 at m F d f N⊢;refine ii _ _ ⟨rfl,f7,?_,N.oth D m,f.upd c⟩;rw[cc,G,bq];exact(F.app (.cons d .nil)).mono (wW m).tk
 ·refine fun R O=>fai fun o g u p e b t=>?_;subst u;rw[fA]at e b;refine ii j g ⟨rfl,NT p,fun a k=>?_⟩;have C:=gb k (.lst g.reverse);refine q _ a _ ?_ f7 ?_ (by rw[X];exact b.same C) (t.trans (FM.same C))
  ·cases hh:H a with
   |none=>rfl
   |some o=>
    by_cases z:a∈A.all;·exact absurd z (b.new k)
    ·rw[t.get hh z]at k;cases k
  ·rw[Y,aF,List.map_reverse];exact(Gk e).mono (gJ.tk C)
inductive XFp (ρ:Ro) (vs:List V) (H:Hp) (Q:VK):Prop
 |mk (t:Zx) (e:vs=[.ref t]) (it:Im H (.ref t) ρ.d) (q:∀l H',gJ H H'->H l=none->H' l=some (.lst ((nJ ρ).map V.int))->Q (.ref l) H')
def KH:Sp:=fun b H Q _=>∃a,a.ok/\XFp a b H Q
def oN (T:Txt K mg):FO P w base 7 T.d4 KH:=by
 refine T.d4.F.rd ud fun u z g y H x Q E r h=>?_;obtain⟨j,m,t,rfl,n,q⟩:=h;refine HzX ?_;intro _;refine⟨_,(fW (gM (gq iA (gk gB (cv 0) fX) gh)
   (f9 (gC (gG fY)))
   gA)
  (fW (gM (gq iA (gk gB (cv 0) fX) gh)
   (f9 (gC (gG (fV (gk gB (cv 0) fX) fY))))
   gA)
  (fW (gM (gq iA (gk gB (cv 0) fX) gh)
   (f9 (gC (gG (fV (gk gB (cv 0) fX) fY))))
   gA)
  (f9 (gC (pF T.d2 (rK T) r.m (fV (cv 0) fY))))))),?_⟩;refine Hz3 ?_;intros;refine eaa (kQ n) fun v c e=>?_;refine ean (j.hd m) fun _ o f i=>?_
 cases j with
 |fn w k=>exact tM rfl c f ⟨p7,fun l d=>q l _ (gb d _) d f7⟩
 |lt w a b=>
  cases e with
  |cons p e=>
   cases e with
   |cons s e=>cases s;exact i9 rfl c f (tM rfl c i ⟨_,c,gf (fZ rfl) ⟨se,fun l d=>q l _ (gb d _) d f7⟩⟩)
 |case a b=>
  cases e with
  |cons p e=>cases p;exact i9 rfl c f (i9 rfl c i (tM rfl c o ⟨_,c,gf (fZ rfl) ⟨se,fun l d=>q l _ (gb d _) d f7⟩⟩))
 |_=>exact i9 rfl c f (i9 rfl c i (i9 rfl c o (ii t _ ⟨rfl,n,m,q⟩)))
structure Ctx (CP:Zx) (H:Hp) (A:Mad) (names:Zd) (roots:List Nat) (ρs:List Ro) (ho:Nat->Option Hm):Prop where
 p:∃n r w dx xs,PrA CP H A.p n r w dx xs names roots ρs/\A.p∉A.all/\n∉A.all/\r∉A.all/\w∉A.all
 h:∃hs,H A.h=some (.lst hs)/\A.h∉A.all/\∀(k:Nat) (ρ:Ro),ρs[k]?=some ρ->∃y,hs[k]?=some y/\Im H y (hoD (ho k))
 ok:∀ρ∈ρs,ρ.ok
def Ctx.fm {C p:Zx} {u:Nat} {s:Ms} {d:Zd} {o:Nat->Option Hm} (c:Ctx p H A d roots ρs o) (M:Mc C H A u s) (F:FM A H H'):Ctx p H' A d roots ρs o:=by have k:=M.tk F;obtain⟨⟨n,r,w,D,t,f,m,l,i,h⟩,⟨x,e,g,B⟩,v⟩:=c;exact⟨(iab n r w D t (⟨⟨F.get f.o m,F.get f.n l,F.get f.r i,F.get f.w h,f.i.mono k⟩,m,l,i,h⟩)),⟨x,F.get e g,g,fun j q z=>let⟨y,a,b⟩:=B j q z;⟨y,a,b.mono k⟩⟩,v⟩
def pR:(fMc p h tu bg en me ha de st rd).lookup ("program":Str)=some (.ref p):=O1
def Cj:(fMc p h tu bg en me ha de st rd).lookup ("homes":Str)=some (.ref h):=O1
def Gm:jV "begun" (.int v) (fMc p h tu bg en me ha de st rd)=fMc p h tu v en me ha de st rd:=O1
def yz (h:ρ.ok):(nJ ρ).length<=101:=by
 cases ρ with
 |rcd l=>have:=h.1;show(l.map _).length<=_;rw[aE];lia
 |row l=>have:l.length<=100:=h;show l.length<=_;lia
 |op o l=>have:=h.2;show l.length<=_;lia
 |_=>exact of_decide_eq_true rfl
def Cn(hσ:b[0]?=some (some (.ref A.m))) (r:b[j]?=some (some (.int p))) (o:b[i]?=some (some x)) (M:Mc C H A tu s) (l:Im H x sc.d) (q:t.d= .tup [sD m,kD p,sc.d]) (E:s.st.length<10000000) (k:∀d,Mc C d A tu {s with st:=t::s.st}->FM A H d->D.nx b d):
  Fh (Kq (Hi C "steps" (cV 0)) (JP (kP (tC (.str m)) (kP (cV j) (kP (cV i) x8))))) D b H:=by
 have B:=L9;show onV b[0]? _;rw[hσ];refine eaa M.st fun z e _=>?_;refine⟨_,(ii _ _ ⟨M.o,mi⟩),⟨_,e⟩,?_⟩;show onV b[j]? _;rw[r];show onV b[i]? _;rw[o];refine⟨lC,fun a f=>?_⟩;have g:=gb f (.tup [.str m,.int p,x]);have w:=M.same g;have n:Im (NR H a (.tup [.str m,.int p,x])) (.ref a) t.d:=by rw[q];exact oa f (.cons (.flat rfl) (.cons (.flat rfl) (.cons l .nil)))
 refine eau (w.stP n) fun c u F v y=>?_;exact⟨c,u,O2,k _ v ((FM.same g).trans y)⟩
inductive XBe (C CP:Zx) (vs:List V) (H:Hp) (Q:VK):Prop
 |mk (A:Mad) (tu:Nat) (s:Ms) (p:Int) (sc:Ev) (x:V) (ρ:Ro) (names:Zd) (roots:List Nat) (ρs:List Ro) (ho:Nat->Option Hm) (e:vs=[.ref A.m,.int p,x]) (M:Mc C H A tu s) (c:Ctx CP H A names roots ρs ho) (hk:tu<=s.bg\/∃k:Nat,p=k/\ρs[k]?=some ρ) (ix:Im H x sc.d) (hb:Bd 9000000 s) (q:∀H',Mc C H' A tu (if tu<=s.bg then{s with en:=some "turns"}else{s with bg:=s.bg+ 1,st:=(nJ ρ).map (fun k=> .beg k sc)++ .par p sc::s.st})->FM A H H'->Q .non H')
def KI (C b:Zx):Sp:=fun a H Q _=>XBe C b a H Q
def BgI (C:Zx) (A:Mad) (d:Nat) (s:Ms) (k:Nat) (sc:Ev) (x:V) (b:Ro) (H:Hp) (e:Zx) (i:Nat) (c:St) (a:Hp):Prop:=∃o,c=[some (.ref A.m),some (.int (k:Int)),some x,o]/\Mc C a A d {s with bg:=s.bg+ 1,st:=((nJ b).drop ((nJ b).length-i)).map (fun k=> .beg k sc)++ .par (k:Int) sc::s.st}/\Im a x sc.d/\FM A H a/\a e=some (.lst ((nJ b).map V.int))
def rV (T:Txt K mg):MO P w base mg 8 T.e62 (KI T.c5.a T.c7.a):=by
 refine T.e62.F.rd nC fun cdv A0 F s0 H vs Q E hr h=>?_;obtain⟨A,z,s,p,B,x,a,G,C,ρs,ho,rfl,M,c,m,ix,hb,q⟩:=h;refine HzX ?_;intro _;refine⟨_,(fW (gM (gq Km (gR T.c5.cl T.n5begun (cv 0)) (gR T.c5.cl T.n5turns (cv 0)))
   (fW (jk T.c5.cl T.n5end (js (NS (cv 0)) (NS gh) rfl))
   (f9 AZ))
   gA)
  (fW (wz (cv 0) fX Eo)
  (fW (gK (iW (jG eS eU eV gX (NS (gR T.c5.cl T.n5steps (cv 0))) (fV (NS (iB (fV gh (fV (cv 1) (fV (cv 2) fY))))) fY))))
  (f9 (jX Mh rfl (Ig rfl T.z_reversed (fV (pF T.d4 (oN T) hr.m (fV (gk gi (gR T.c7.cl T.n7rows (gR T.c5.cl T.n5program (cv 0))) (cv 1)) fY)) fY)) (pN (i:=3) nC.nd)
   (f9 (gK (iW (jG eS eU eV gX (NS (gR T.c5.cl T.n5steps (cv 0))) (fV (NS (iB (fV gh (fV (cv 3) (fV (cv 2) fY))))) fY)))))))))),?_⟩;refine Hz3 ?_;intros;have sl:=L9;refine⟨_,(ii _ _ ⟨M.o,tL⟩),_,(ii _ _ ⟨M.o,Cg⟩),?_⟩;by_cases ht:z<=s.bg;·rw[ig ht]at q;obtain⟨U,F3⟩:=M.setO s.bg (some "turns");refine IC O2 (iK (ii _ _ ⟨M.o,by show 10<1000;decide,?_⟩));rw[r8];exact q _ U F3
 rw[gZ ht]at q;refine IB O2 (ij ?_);refine eaa (m.resolve_left ht) fun k b O=>?_;subst b;replace m:=O;obtain⟨u,y⟩:=M.setO (s.bg+ 1) s.en;refine iab A.m _ _ _ _ ⟨rfl,M.o,T.c5.cl,T.n5begun,tL,?_⟩;refine ii _ _ ⟨rfl,rfl,_,_,M.o,by show 10<1000;decide,?_⟩;rw[show((s.bg:Int)+ 1)=((s.bg+ 1:Nat):Int) by lia,Gm];have f:=ix.mono (M.tk y);have c1:=c.fm M y;dsimp only;generalize NR H A.m (.ins T.c5.a A.dx (fMc A.p A.h z ((s.bg+ 1:Nat):Int) (enV s.en) A.me A.ha A.de A.st A.rd))=H1 at u y f c1⊢;have lst:=hb.2.2.2.1;refine Cn (t:= .par (k:Int) B) rfl rfl rfl u f rfl (by lia) fun H2 V Y=>?_;have I:=f.mono (u.tk Y);have Z:=y.trans Y;have c2:=c1.fm u Y;refine eao c2.p fun n r w dx xs=>faj fun D n1 n2 n3 n4=>?_;refine eaj (vQ D.i m) fun tr ys J etr _ R=>?_;have g:=c.ok a (aQ m);refine⟨_,(ii _ _ ⟨V.o,pR⟩),_,(ii _ _ ⟨D.o,n9 _ _ _⟩),_,D.w,gf (fZ J) ⟨a,g,tr,rfl,R,fun lp H3 S N e3=>?_⟩⟩;have U:=V.same S;have nl:=V.new N;have fl:=yz g;refine ii lp _ (⟨rfl,NT e3,Gj (BgI T.c5.a A z s k B x a H lp) ⟨none,rfl,?_,I.mono (gJ.tk S),Z.trans (FM.same S),e3⟩ (fun i σ H4 _ ⟨_,_,_,_,_,e⟩=>NT e) ?_ ?_⟩);·rw[Nat.sub_zero,bZ];exact U
 ·refine fun i v σ H4 hi L=>faa fun o=>faj fun b l d X e4=>?_;subst b;rw[aE]at hi L;rw[aP]at L;refine eaa (dA.mp L) fun j hj b=>?_;subst b;refine Cn (t:= .beg j B) rfl rfl rfl l d rfl ?_ fun H5 M5 W=>⟨_,rfl,?_,d.mono (l.tk W),X.trans W,W.get e4 nl⟩;·show(((nJ a).drop _).map _++_::s.st).length<_;rw[aR,aE,aB,aZ];lia
  ·have e:(nJ a).drop ((nJ a).length-(i+ 1))=j::(nJ a).drop ((nJ a).length-i):=by obtain⟨z1,z2⟩:=av.mp hj;rw[show(nJ a).length-(i+ 1)=(nJ a).length-1-i by lia,bS z1,z2,show(nJ a).length-1-i+ 1=(nJ a).length-i by lia]
   rw[e];exact M5
 ·refine fun σ H4=>faa fun o=>faj fun b l d X e4=>?_;subst b;rw[aE,cX,cj]at l;exact q _ l X
def EG{F:Bool->Hp->Prop} (d:σ[j]?=some (some (.int b))) (e:decide (a=b)=c) (h:F (!c) H):cV j σ H fun y f=>cEq true (.int a) y f fun x g=>onB x fun k=>F k g:=by show onV σ[j]? _;rw[d];show F (xor true (decide (a=b))) H;rw[e,fk];exact h
def Ev.sz:Ev->Nat
 | .nil=>0
 | .cons _ _ sc=>sc.sz+ 1
inductive XHv (vs:List V) (H:Hp) (Q:VK):Prop
 |mk (sc:Ev) (p:Int) (v:Vl) (x:V) (e:vs=[x,.int p]) (ix:Im H x sc.d) (hv:rT sc p=some v) (q:∀y,Im H y v.d->Q y H)
def KJ:Sp:=fun a H Q _=>XHv a H Q
def ID(h:Im H x (Ev.cons b v sc).d):∃t y z,x= .ref t/\H t=some (.tup [.int b,y,z])/\Im H y v.d/\Im H z sc.d:=by
 rw[Ev.d]at h
 cases h with
 |tup e i=>
  cases i with
  |cons d i=>
   cases i with
   |cons c i=>
    cases i with
    |cons a i=>cases i;cases d;exact iaa _ _ _ ⟨rfl,e,c,a⟩
def HvI (c:V) (p:Int) (v:Vl) (H:Hp) (m:Nat) (b:St) (d:Hp):Prop:=d=H/\∃a x,m=a.sz/\b=[some c,some (.int p),some x]/\Im H x a.d/\rT a p=some v
def vS (T:Txt K mg):FO P w base 1 T.d5 KJ:=by
 refine T.d5.F.rd nh fun B L g I H G Q E J h=>?_;obtain⟨c,p,v,x,rfl,r,a,q⟩:=h;refine HzX ?_;intro _;refine⟨_,(fW (pS (i:=2) nh.nd (cv 0))
  (fW (ow Mh (gq Aq (gk gB (cv 2) fX) (cv 1))
   (f9 (pS (i:=2) nh.nd (gk gB (cv 2) fX))))
  (f9 (gC (gk gB (cv 2) fX))))),?_⟩;refine Hz2 ?_;intros;refine⟨HvI x p v H,⟨_,rfl,c,x,rfl,rfl,r,a⟩,?_⟩;refine fun m D C=>f8 fun f=>fL fun c y=>fam fun n l o a=>?_;subst f;subst n;subst l
 cases c with
 |nil=>cases a
 |cons b u c=>
  refine eaA (ID o) fun t F z f j A s=>?_;subst f;refine⟨_,j,gf (fZ rfl) ?_⟩;unfold rT at a;by_cases e:b=p;·rw[ig e]at a;cases a;refine EG rfl (gT e) ?_;exact ij ⟨_,j,gf (fZ rfl) (q _ A)⟩
  ·rw[gZ e]at a;refine EG rfl (hV e) ?_;exact iK ⟨fun d k=>HvI x p v C c.sz d k,fun d k h=>⟨_,cO _,h⟩,⟨_,j,gf (fZ rfl) ⟨rfl,c,z,rfl,rfl,s,a⟩⟩⟩
inductive XW (C CP:Zx) (U:Ro->Prop) (vs:List V) (H:Hp) (Q:VK):Prop
 |mk (A:Mad) (tu:Nat) (s s':Ms) (k:Nat) (sc:Ev) (t ps:Zx) (x:V) (xs:List V) (l:List Vl) (ρ:Ro) (names:Zd) (roots:List Nat) (ρs:List Ro) (ho:Nat->Option Hm) (e:vs=[.ref A.m,.ref t,.int (k:Int),x,.ref ps]) (M:Mc C H A tu s) (c:Ctx CP H A names roots ρs ho) (hk:ρs[k]?=some ρ) (hu:U ρ) (it:Im H (.ref t) ρ.d) (ix:Im H x sc.d) (ep:H ps=some (.lst xs)) (np:ps∉A.all) (il:Ims H xs (l.map Vl.d)) (hb:Bd 9000000 s) (hw:lj (ho k) k sc ρ l s=some s') (q:∀H',Mc C H' A tu s'->FM A H H'->Q .non H')
def jT (C b:Zx) (U:Ro->Prop):Sp:=fun a H Q _=>XW C b U a H Q
def oO(M:Mc C H A tu s) (d:Bd 9500000 s) (c:H a=none) (i:Ims H xs ds) (e:v.d= .tup ds) (q:∀b,Mc C b A tu (lP k v s)->FM A H b->Q .non b):xu C [.ref A.m,.int k,.ref a] (NR H a (.tup xs)) Q E0:=
 have j:=d.2.1
 have h:=d.2.2.2.2
 (iae A tu s k _ v ⟨rfl,M.same (gb c _),by rw[e];exact oa c i,O2,O2,fun b f g=>q b f ((FM.same (gb c _)).trans g)⟩)
def tN(M:Mc C H A tu s) (b:Bd 9500000 s) (i:Im H x v.d) (q:∀a,Mc C a A tu (lP k v s)->FM A H a->Q .non a):xu C [.ref A.m,.int k,x] H Q E0:=
 have d:=b.2.1
 have c:=b.2.2.2.2
 (iae A tu s k _ v ⟨rfl,M,i,O2,O2,q⟩)
def Bd.le {n m:Nat} {s:Ms} (h:Bd n s) (k:autoParam (n<=m) L2.Internal.auD._auto_1):Bd m s:=h.mono k
def yA (T:Txt K mg):FO P w base 4 T.d6 (jT T.c5.a T.c7.a fun f=>∃n,f= .num n):=by
 refine T.d6.F.rd yk fun B W d J H F Q E p h=>?_;obtain⟨A,G,s,m,k,I,t,L,x,D,l,f,e,b,j,S,rfl,M,c,U,⟨n,rfl⟩,o,O,V,N,R,r,i,q⟩:=h;refine⟨_,(f9 (gK (gY (gS (NS (cv 0)) T.c5.cl T.e65.me (gQ T) p.m T.e65.b .nil ik (fV (cv 2) (fV (iB (fV gh (fV (gk gB (cv 1) fX) (fV (cv 2) fY)))) fY)))))),?_⟩;refine eaa (kQ o) fun C z g=>?_
 cases g with
 |cons y g=>
  cases y
  cases l with
  |cons v l=>exact nomatch(show(none:Option Ms)=some m from i)
  |nil=>cases du.inj i;exact⟨(ii _ _ ⟨M.o,iH gL⟩),_,z,gf (fZ rfl) ⟨lC,fun a u=>oO M r.le u (.cons (.flat rfl) (.cons (.flat rfl) (.cons (.flat rfl) .nil))) (by rw[Vl.d];rfl) q⟩⟩
def zL(hσ:a[i]?=some (some (.ref t))) (b:H t=some (.tup (.str s::ys))) (e:decide (s=x)=false) (h:u D a H):qD (hdT i x) T u D a H:=uQ hσ b e (ij h)
def Co(hσ:a[i]?=some (some (.ref t))) (b:H t=some (.tup (.str s::ys))) (e:decide (s=x)=true) (h:T D a H):qD (hdT i x) T u D a H:=uQ hσ b e (iK h)
def IE(h:Ims H xs ([a].map Vl.d)):∃x,xs=[x]/\Im H x a.d:=by
 cases h with
 |cons b h=>cases h;exact⟨_,rfl,b⟩
def IF(h:Ims H xs ([a,b].map Vl.d)):∃x y,xs=[x,y]/\Im H x a.d/\Im H y b.d:=by
 cases h with
 |cons d h=>
  cases h with
  |cons c h=>cases h;exact ii _ _ ⟨rfl,d,c⟩
def pT(h:Im H x (.tup [a,b])):∃t y z,x= .ref t/\H t=some (.tup [y,z])/\Im H y a/\Im H z b:=by
 cases h with
 |tup e i=>
  cases i with
  |cons d i=>
   cases i with
   |cons c i=>cases i;exact iaa _ _ _ ⟨rfl,e,d,c⟩
def qt{i:Int} (h:atZ l i=some a):∃k:Nat,i=(k:Int)/\l[k]?=some a:=by
 cases i with
 |ofNat k=>exact⟨k,rfl,h⟩
 |negSucc k=>cases h
def yB(M:Mc C H A tu s) (f:Bd 9500000 s) (d:H a=none) (i:Ims H xs ds) (e:sc.d= .tup ds) (q:∀c,Mc C c A tu (qo b sc k s)->FM A H c->Q .non c):Ci C [.ref A.m,.int b,.ref a,.int k] (NR H a (.tup xs)) Q E0:=
 have j:=f.2.2.2.1
 (iad A tu s b k _ sc ⟨rfl,M.same (gb d _),by rw[e];exact oa d i,O2,fun c g h=>q c g ((FM.same (gb d _)).trans h)⟩)
def Bd.come {v:Vl} {p k:Int} {s:Ms} (h:Bd 9000000 s):Bd 9400000 (iG v p k f s):=by refine eae h fun a b c d e=>?_;exact⟨by show(_::s.me).length<=_;rw[aB];lia,cF b O3,cF c O3,cF d O3,cF e O3⟩
def AM (T:Txt K mg):FO P w base 4 T.d8 (jT T.c5.a T.c7.a fun m=>∃n b,m= .fn n b):=by
 refine T.d8.F.rd AA fun I A0 f W H S Q E C h=>?_;obtain⟨A,U,s,u,k,V,t,X,x,R,l,m,g,e,r,ho,rfl,M,c,hk,⟨n,b,rfl⟩,B,z,ep,Y,Z,D,o,q⟩:=h;refine⟨_,(f9 (gK (gY (gS (NS (cv 0)) T.c5.cl T.e65.me (gQ T) C.m T.e65.b .nil ik (fV (cv 2) (fV (iB (fV gh (fV (iB (fV (gk gB (cv 1) fX) (fV (cv 3) fY))) (fV (cv 2) fY)))) fY)))))),?_⟩;refine eaa (kQ B) fun O j d=>?_;obtain⟨y,j⟩:∃y,H t=some (.tup [.str "fn",y,.int b]):=by
  cases d with
  |cons i d=>
   cases d with
   |cons G d=>cases G;cases d;exact⟨_,j⟩
 cases l with
 |cons v l=>exact nomatch(show(none:Option Ms)=some u from o)
 |nil=>cases du.inj o;refine⟨⟨_,_,M.o,iH gL⟩,_,j,gf (fZ rfl) ⟨lJ,fun a1 i=>⟨lC,fun a F=>?_⟩⟩⟩;have p:=gb i (.tup [.int b,x]);exact oO (M.same p) D.le F (.cons (.flat rfl) (.cons (oa i (.cons (.flat rfl) (.cons z .nil))) (.cons (.flat rfl) .nil))) (by rw[Vl.d];rfl) fun L J N=>q L J ((FM.same p).trans N)
def yC (T:Txt K mg):FO P w base 4 T.d10 (jT T.c5.a T.c7.a fun o=>∃n a b,o= .lt n a b):=by
 refine T.d10.F.rd yl fun N A0 i X H U Q E D h=>?_;obtain⟨A,V,s,p,k,W,t,Y,x,S,l,o,j,g,r,ho,rfl,M,c,hk,⟨n,O,b,rfl⟩,C,z,L,Z,m,F,e,q⟩:=h;refine⟨_,(f9 (gK (gY (gS (NS (cv 0)) T.c5.cl T.e66.me (kN T) D.m T.e66.b .nil ik (fV (gk gB (cv 1) fX) (fV (iB (fV (gk gB (cv 1) fX) (fV (gk gi (cv 4) fX) (fV (cv 3) fY)))) (fV (cv 2) fY))))))),?_⟩;refine eaa (kQ C) fun R f d=>?_;obtain⟨y,f⟩:∃y,H t=some (.tup [.str "let",y,.int O,.int b]):=by
  cases d with
  |cons h1 d=>
   cases d with
   |cons J d=>
    cases J
    cases d with
    |cons I d=>cases I;cases d;exact⟨_,f⟩
 match l,e,m with
 |[],e,_=>exact nomatch(show(none:Option Ms)=some p from e)
 |_::_::_,e,_=>exact nomatch(show(none:Option Ms)=some p from e)
 |[v],e,m=>refine eaa (IE m) fun y u B=>?_;subst u;cases du.inj e;exact⟨(ii _ _ ⟨M.o,iH gL⟩),_,f,gf (fZ rfl) ⟨_,f,gf (fZ rfl) ⟨_,L,gf (fZ rfl) ⟨lC,fun a G=>yB M F.le G (.cons (.flat rfl) (.cons B (.cons z .nil))) (by rw[Ev.d];rfl) q⟩⟩⟩⟩
def yD (T:Txt K mg):FO P w base 4 T.d13 (jT T.c5.a T.c7.a fun p=>∃n b,p= .tag n b):=by
 refine T.d13.F.rd ym fun L A0 i Y H V Q E F h=>?_;obtain⟨A,W,s,r,k,X,t,Z,x,U,l,p,j,g,z,ho,rfl,M,c,hk,⟨n,b,rfl⟩,D,ix,J,np,m,G,d,q⟩:=h;refine⟨_,(f9 (gK (gY (gS (NS (cv 0)) T.c5.cl T.e65.me (gQ T) F.m T.e65.b .nil ik (fV (cv 2) (fV (iB (fV gh (fV (iB (fV (gk gB (cv 1) fX) (fV (gk gi (cv 4) fX) fY))) (fV (cv 2) fY)))) fY)))))),?_⟩;refine eaa (kQ D) fun S o e=>?_;obtain⟨y,o⟩:∃y,H t=some (.tup [.str "tag",.str n,y]):=by
  cases e with
  |cons f e=>
   cases f
   cases e with
   |cons h2 e=>cases e;exact⟨_,o⟩
 match l,d,m with
 |[],d,_=>exact nomatch(show(none:Option Ms)=some r from d)
 |_::_::_,d,_=>exact nomatch(show(none:Option Ms)=some r from d)
 |[v],d,m=>refine eaa (IE m) fun y B C=>?_;subst B;cases du.inj d;refine⟨(ii _ _ ⟨M.o,iH gL⟩),_,o,gf (fZ rfl) ⟨_,J,gf (fZ rfl) ⟨lJ,fun a1 f=>⟨lC,fun a I=>?_⟩⟩⟩⟩;have u:=gb f (.tup [.str n,y]);exact oO (M.same u) G.le I (.cons (.flat rfl) (.cons (oa f (.cons (.flat rfl) (.cons C .nil))) (.cons (.flat rfl) .nil))) (by rw[Vl.d];rfl) fun O N R=>q O N ((FM.same u).trans R)
def xw (T:Txt K mg):FO P w base 4 T.d7 (jT T.c5.a T.c7.a fun B=>∃n,B= .name n):=by
 refine T.d7.F.rd rC fun cdv A0 p s0 H vs Q E z h=>?_;obtain⟨A,tu,s,F,k,D,t,ps,x,xs,l,B,r,o,L,V,rfl,M,c,W,⟨n,rfl⟩,it,O,ep,np,il,J,a,q⟩:=h;refine HzX ?_;intro _;refine⟨_,(fW (pS (i:=5) rC.nd (gk gi (gR T.c5.cl T.n5homes (cv 0)) (cv 2)))
  (f9 (gM (gq iA (gk gB (cv 5) fX) gh)
   (f9 (gK (gY (gS (NS (cv 0)) T.c5.cl T.e65.me (gQ T) z.m T.e65.b .nil ik (fV (cv 2) (fV (gk gi (gR T.c5.cl T.n5defined (cv 0)) (gk gB (cv 5) fX)) fY))))))
   (f9 (gK (gY (gS (NS (cv 0)) T.c5.cl T.e65.me (gQ T) z.m T.e65.b .nil ik (fV (cv 2) (fV (pF T.d5 (vS T) z.m (fV (cv 3) (fV (gk gB (cv 5) fX) fY))) fY))))))))),?_⟩
 cases l with
 |cons v l=>exact nomatch(show(none:Option Ms)=some F from a)
 |nil=>
  refine eak c.h fun hs eh _ Y=>?_;refine eaa (Y k _ W) fun y ey m=>?_;have a:=a
  cases e:V k with
  |none=>rw[e]at a;cases a
  |some h=>
   rw[e]at a m;refine eaA (pT (show Im H y (.tup [.flat (.str h.1),.flat (.int h.2)])from m)) fun th y1 y2 f b U S=>?_;subst f;cases U;cases S;have a:(if h.1="def" then(atZ s.de h.2).map fun v=>lP k v s else(rT D h.2).map fun v=>lP k v s)=some F:=a;refine⟨_,(ii _ _ ⟨M.o,Cj⟩),_,eh,gf (fZ ey) ?_⟩;dsimp only[gU];by_cases hd:h.1="def";·rw[ig hd]at a;refine eaa (dA.mp a) fun v u f=>?_;subst f;refine eaa (qt u) fun j ej I=>?_;refine eaa M.de fun C Z G=>?_;have N:=G.length;rw[aE]at N;have X:=(av.mp I).1;refine eaa (jA G (bE (show j<C.length by lia))) fun d g R=>?_;rw[aP,I]at g;cases g;refine Co rfl b (gT hd) ?_;exact⟨(ii _ _ ⟨M.o,iH gL⟩),_,(ii _ _ ⟨M.o,pQ⟩),_,b,gf (fZ rfl) ⟨_,Z,gf (by rw[ej];exact fZ (bE (show j<C.length by lia))) (tN M J.le R q)⟩⟩
   ·rw[gZ hd]at a;refine eaa (dA.mp a) fun v u f=>?_;subst f;refine zL rfl b (hV hd) ?_;exact⟨(ii _ _ ⟨M.o,iH gL⟩),_,b,gf (fZ rfl) ⟨D,h.2,v,x,rfl,O,u,fun y m=>tN M J.le m q⟩⟩
section
variable {hm:Option Hm} {p:Int} {sc:Ev} {ks:List Int} {s s':Ms} {a b:Vl}
def uR{o:Str} (f:o="call"\/o="join"\/o="add"\/o="sub"\/o="less") (h:lj hm p sc (.op o ks) l s=some s'):∃a b,l=[a,b]:=by
 have c:∀d,d=l->lj hm p sc (.op o ks) d s=none->False:=fun d e z=>by rw[e,h]at z;cases z
 match l,c with
 |[a,b],_=>exact ii a b rfl
 |[],c=>exact(c _ rfl (by rcases f with rfl|rfl|rfl|rfl|rfl<;>kernel_rfl)).elim
 |[_],c=>exact(c _ rfl (by rcases f with rfl|rfl|rfl|rfl|rfl<;>kernel_rfl)).elim
 |_::_::_::_,c=>exact(c _ rfl (by rcases f with rfl|rfl|rfl|rfl|rfl<;>kernel_rfl)).elim
def yE:lj hm p sc (.op "call" ks) [a,b] s=match a with
  | .fn c e _=>some (qo c (.cons c b e) p (iG a p 0 true s))
  |_=>some (iG a p 0 false s):=O1
def yF:lj hm p sc (.op "join" ks) [a,b] s=if(iJ "row" a b p s).2 then if 500<(lg a).length\/500<(lg b).length then none else if 60<(lg a++lg b).length then some {(iJ "row" a b p s).1 with en:=some "full"}else some (lP p (.row (Dr (lg a++lg b)) p) (iJ "row" a b p s).1)else some (iJ "row" a b p s).1:=O1
def Cp:lj hm p sc (.op "add" ks) [a,b] s=if(iJ "num" a b p s).2 then some (lP p (.num (nq a+nq b) p) (iJ "num" a b p s).1)else some (iJ "num" a b p s).1:=O1
def Cq:lj hm p sc (.op "sub" ks) [a,b] s=if(iJ "num" a b p s).2 then some (lP p (.num (nq a-nq b) p) (iJ "num" a b p s).1)else some (iJ "num" a b p s).1:=O1
def yG:lj hm p sc (.op "less" ks) [a,b] s=if(iJ "num" a b p s).2 then some (lP p (Gg (decide (nq a<nq b)) p) (iJ "num" a b p s).1)else some (iJ "num" a b p s).1:=O1
def rh (h:(iJ sh a b p s).2=true):a.s=sh/\b.s=sh:=by
 unfold iJ at h
 cases e:isS sh a with
 |false=>rw[e]at h;cases h
 |true=>rw[e]at h;exact⟨of_decide_eq_true e,of_decide_eq_true h⟩
def Bd.both (h:Bd 9000000 s):Bd 9400000 (iJ sh a b p s).1:=by
 refine eae h fun i g f e c=>?_;have d:(9000000:Nat)<=9400000:=O3
 unfold iJ
 cases isS sh a with
 |false=>exact⟨by show(_::s.me).length<=_;rw[aB];lia,cF g d,cF f d,cF e d,cF c d⟩
 |true=>exact⟨by show(_::_::s.me).length<=_;rw[aB,aB];lia,cF g d,cF f d,cF e d,cF c d⟩
end
def rL {v:Vl} (h:v.s="num"):∃n p,v= .num n p:=by
 cases v with
 |num n p=>exact ii n p rfl
 |fn _ _ _=>exact absurd (show("fn":Str)="num" from h) gL
 |rcd _ _=>exact absurd (show("rec":Str)="num" from h) gL
 |tag _ _ _=>exact absurd (show("tag":Str)="num" from h) gL
 |row _ _=>exact absurd (show("row":Str)="num" from h) gL
def rM {v:Vl} (h:v.s="row"):∃n p,v= .row n p:=by
 cases v with
 |row n p=>exact ii n p rfl
 |fn _ _ _=>exact absurd (show("fn":Str)="row" from h) gL
 |rcd _ _=>exact absurd (show("rec":Str)="row" from h) gL
 |tag _ _ _=>exact absurd (show("tag":Str)="row" from h) gL
 |num _ _=>exact absurd (show("num":Str)="row" from h) gL
def tO(h:Im H x (Vl.num n p).d):∃t,x= .ref t/\H t=some (.tup [.str "num",.int n,.int p]):=by refine eap (qr h) fun t y a e i=>?_;subst a;cases(show Im H y (kD n)from i);exact⟨t,rfl,e⟩
def EH(M:Mc C H A tu s) (g:Bd 9500000 s) (e:H a1=none) (d:(NR H a1 (.tup [])) a2=none) (c:(NR (NR H a1 (.tup [])) a2 (.tup [.str "rec",.ref a1,.int k])) a3=none)
  (h:(NR (NR (NR H a1 (.tup [])) a2 (.tup [.str "rec",.ref a1,.int k])) a3 (.tup [.str (if f then "yes" else "no"),.ref a2])) a=none) (q:∀b,Mc C b A tu (lP k (Gg f k) s)->FM A H b->Q .non b):
  xu C [.ref A.m,.int k,.ref a] (NR (NR (NR (NR H a1 (.tup [])) a2 (.tup [.str "rec",.ref a1,.int k])) a3 (.tup [.str (if f then "yes" else "no"),.ref a2])) a (.tup [.str "tag",.ref a3,.int k])) Q E0:=by have S:=((gb e (.tup [])).trans (gb d (.tup [.str "rec",.ref a1,.int k]))).trans (gb c (.tup [.str (if f then "yes" else "no"),.ref a2]));exact oO (M.same S) g h (.cons (.flat rfl) (.cons (oa c (.cons (.flat rfl) (.cons (oa d (.cons (.flat rfl) (.cons (oa e .nil) (.cons (.flat rfl) .nil)))) .nil))) (.cons (.flat rfl) .nil))) (by unfold Gg;rw[Vl.d,Vl.d,Vls.ds];rfl) fun b i j=>q b i ((FM.same S).trans j)
def yH (T:Txt K mg):FO P w base 4 T.d15 (jT T.c5.a T.c7.a fun f=>∃i,f= .row i):=by refine T.d15.F.rd yn fun B X d L H G Q E u h=>?_;obtain⟨A,I,s,N,k,J,t,o,x,g,l,f,e,b,n,U,rfl,M,c,V,⟨i,rfl⟩,S,R,z,O,p,v,r,q⟩:=h;refine⟨_,(f9 (gK (gY (gS (NS (cv 0)) T.c5.cl T.e65.me (gQ T) u.m T.e65.b .nil ik (fV (cv 2) (fV (iB (fV gh (fV (iS jK rfl T.z_tuple mv (fV (cv 4) fY)) (fV (cv 2) fY)))) fY)))))),?_⟩;cases du.inj (r);refine⟨(ii _ _ ⟨M.o,iH gL⟩),o,g,rfl,.inl ⟨NT z,fun W j=>⟨lC,fun a y=>?_⟩⟩⟩;have m:=gb j (.tup g);exact oO (M.same m) v.le y (.cons (.flat rfl) (.cons (oa j p) (.cons (.flat rfl) .nil))) (by rw[Vl.d,D5,Ce];rfl) fun D C F=>q D C ((FM.same m).trans F)
def xx (T:Txt K mg):FO P w base 4 T.d9 (jT T.c5.a T.c7.a fun I=>∃O,I= .op "call" O):=by
 refine T.d9.F.rd rD fun cdv A0 C s0 H vs Q E S h=>?_;obtain⟨A,J,s,L,k,sc,t,ps,x,xs,l,I,D,B,W,ho,rfl,M,c,hk,⟨O,rfl⟩,it,ix,V,Y,il,U,o,q⟩:=h;refine⟨_,(f9 (gM (jC (gY (gS (NS (cv 0)) T.c5.cl T.e68.me (jq T) S.m T.e68.b .nil ik (fV gh (fV (gk gi (cv 4) fX) (fV (cv 2) (fV fX fY)))))))
   (fW (pS (i:=5) rD.nd (gk gB (gk gi (cv 4) fX) fX))
   (f9 (gK (gY (gS (NS (cv 0)) T.c5.cl T.e66.me (kN T) S.m T.e66.b .nil ik (fV (gk gB (cv 5) fX) (fV (iB (fV (gk gB (cv 5) fX) (fV (gk gi (cv 4) fX) (fV (gk gB (cv 5) fX) fY)))) (fV (cv 2) fY))))))))
   gA)),?_⟩;refine eaq (uR (.inl rfl) o) fun f a m=>?_;subst m;refine eap (IF il) fun X x1 m R i1=>?_;subst m;rw[yE]at o;have b1:=U.1;refine⟨(ii _ _ ⟨M.o,iH gL⟩),_,V,gf (fZ (j:=0) rfl) (iag A J s ("fn") X f k 0 ⟨rfl,M,R,O2,fun H1 d g=>?_⟩)⟩;have r:=g.get V Y;have G:=R.mono (M.tk g);have F:=i1.mono (M.tk g);have v:f.s≠"fn"->some (iG f k 0 false s)=some L->isS "fn" f=false/\∀u,Mc T.c5.a u A J (iG f k 0 (isS "fn" f) s)->FM A H u->Q .non u:=fun n e=>by have:isS "fn" f=false:=hV n;refine⟨this,?_⟩;rw[this,du.inj e];exact q
 cases f with
 |fn c e N=>
  have e1:isS "fn" (.fn c e N)=true:=O1
  rw[e1]at d⊢;cases du.inj (show some (qo c (.cons c a e) k (iG (.fn c e N) k 0 true s))=some L from o);refine eap (qr G) fun t0 y m et iy=>?_;subst m;refine eaA (pT (show Im H1 y (.tup [kD c,e.d])from iy)) fun t1 y1 y2 m p j1 Z=>?_;subst m;cases j1;refine⟨_,rfl,iK ⟨_,r,gf (fZ (j:=0) rfl) ⟨_,et,gf (fZ (j:=1) rfl) ?_⟩⟩⟩;exact⟨(ii _ _ ⟨d.o,iH gL⟩),_,p,gf (fZ (j:=0) rfl) ⟨_,p,gf (fZ (j:=0) rfl) ⟨_,r,gf (fZ (j:=1) rfl) ⟨_,p,gf (fZ (j:=1) rfl) ⟨lC,fun a' ha=>yB (sc:= .cons c a e) d U.come.le ha (.cons (.flat rfl) (.cons F (.cons Z .nil))) (by rw[Ev.d];rfl) fun u M' F'=>q u M' (g.trans F')⟩⟩⟩⟩⟩
 |num _ _=>obtain⟨z,b⟩:=v (by show("num":Str)≠"fn";decide+kernel) o;rw[z]at b d⊢;exact⟨_,rfl,ij (b _ d g)⟩
 |rcd _ _=>obtain⟨z,b⟩:=v (by show("rec":Str)≠"fn";decide+kernel) o;rw[z]at b d⊢;exact⟨_,rfl,ij (b _ d g)⟩
 |tag _ _ _=>obtain⟨z,b⟩:=v (by show("tag":Str)≠"fn";decide+kernel) o;rw[z]at b d⊢;exact⟨_,rfl,ij (b _ d g)⟩
 |row _ _=>obtain⟨z,b⟩:=v (by show("row":Str)≠"fn";decide+kernel) o;rw[z]at b d⊢;exact⟨_,rfl,ij (b _ d g)⟩
def yI (T:Txt K mg):FO P w base 4 T.d19 (jT T.c5.a T.c7.a fun B=>∃C,B= .op "add" C):=by
 refine T.d19.F.rd yo fun Y A0 o s0 H vs Q E G h=>?_;obtain⟨A,R,s,s',k,sc,t,S,x,xs,l,B,r,j,L,ho,rfl,M,c,hk,⟨C,rfl⟩,it,ix,J,p,U,I,f,q⟩:=h;refine⟨_,(f9 (gM (jC (gY (gS (NS (cv 0)) T.c5.cl T.e69.me (iP T) G.m T.e69.b .nil ik (fV gh (fV (cv 4) (fV (cv 2) fY))))))
   (f9 (gK (gY (gS (NS (cv 0)) T.c5.cl T.e65.me (gQ T) G.m T.e65.b .nil ik (fV (cv 2) (fV (iB (fV gh (fV (gP ki (gk gB (gk gi (cv 4) fX) fX) (gk gB (gk gi (cv 4) fX) fX)) (fV (cv 2) fY)))) fY))))))
   gA)),?_⟩;refine eaq (uR (.inr (.inr (.inl rfl))) f) fun a b d=>?_;subst d;refine eap (IF U) fun O N d F D=>?_;subst d;rw[Cp]at f;have b1:=I.1;refine⟨(ii _ _ ⟨M.o,iH gL⟩),A,R,s,"num",S,O,N,a,b,k,rfl,M,J,fun z=>p (by rw[z];exact aj),fun z=>p (ak _ z),F,D,O2,fun H1 y i=>?_⟩
 cases e:(iJ "num" a b k s).2 with
 |false=>rw[e,gZ fc]at f;cases du.inj f;exact⟨_,rfl,ij (q _ y i)⟩
 |true=>rw[e,ig rfl]at f;obtain⟨X,W⟩:=rh e;refine eaq (rL X) fun n pn d=>?_;subst d;refine eaq (rL W) fun m pm d=>?_;subst d;cases du.inj f;refine eaa (tO (F.mono (M.tk i))) fun ta d v=>?_;subst d;refine eaa (tO (D.mono (M.tk i))) fun tb d u=>?_;subst d;have g:=i.get J p;exact⟨_,rfl,iK ⟨(ii _ _ ⟨y.o,iH gL⟩),_,g,gf (fZ rfl) ⟨_,v,gf (fZ rfl) ⟨_,g,gf (fZ rfl) ⟨_,u,gf (fZ rfl) ⟨lC,fun a' V=>oO y I.both.le V (.cons (.flat rfl) (.cons (.flat rfl) (.cons (.flat rfl) .nil))) (by rw[Vl.d];rfl) fun H' Z F'=>q H' Z (i.trans F')⟩⟩⟩⟩⟩⟩
def yJ (T:Txt K mg):FO P w base 4 T.d20 (jT T.c5.a T.c7.a fun B=>∃C,B= .op "sub" C):=by
 refine T.d20.F.rd yp fun Y A0 o s0 H vs Q E G h=>?_;obtain⟨A,R,s,s',k,sc,t,S,x,xs,l,B,r,j,L,ho,rfl,M,c,hk,⟨C,rfl⟩,it,ix,J,p,U,I,f,q⟩:=h;refine⟨_,(f9 (gM (jC (gY (gS (NS (cv 0)) T.c5.cl T.e69.me (iP T) G.m T.e69.b .nil ik (fV gh (fV (cv 4) (fV (cv 2) fY))))))
   (f9 (gK (gY (gS (NS (cv 0)) T.c5.cl T.e65.me (gQ T) G.m T.e65.b .nil ik (fV (cv 2) (fV (iB (fV gh (fV (gP zr (gk gB (gk gi (cv 4) fX) fX) (gk gB (gk gi (cv 4) fX) fX)) (fV (cv 2) fY)))) fY))))))
   gA)),?_⟩;refine eaq (uR (.inr (.inr (.inr (.inl rfl)))) f) fun a b d=>?_;subst d;refine eap (IF U) fun O N d F D=>?_;subst d;rw[Cq]at f;have b1:=I.1;refine⟨(ii _ _ ⟨M.o,iH gL⟩),A,R,s,"num",S,O,N,a,b,k,rfl,M,J,fun z=>p (by rw[z];exact aj),fun z=>p (ak _ z),F,D,O2,fun H1 y i=>?_⟩
 cases e:(iJ "num" a b k s).2 with
 |false=>rw[e,gZ fc]at f;cases du.inj f;exact⟨_,rfl,ij (q _ y i)⟩
 |true=>rw[e,ig rfl]at f;obtain⟨X,W⟩:=rh e;refine eaq (rL X) fun n pn d=>?_;subst d;refine eaq (rL W) fun m pm d=>?_;subst d;cases du.inj f;refine eaa (tO (F.mono (M.tk i))) fun ta d v=>?_;subst d;refine eaa (tO (D.mono (M.tk i))) fun tb d u=>?_;subst d;have g:=i.get J p;exact⟨_,rfl,iK ⟨(ii _ _ ⟨y.o,iH gL⟩),_,g,gf (fZ rfl) ⟨_,v,gf (fZ rfl) ⟨_,g,gf (fZ rfl) ⟨_,u,gf (fZ rfl) ⟨lC,fun a' V=>oO y I.both.le V (.cons (.flat rfl) (.cons (.flat rfl) (.cons (.flat rfl) .nil))) (by rw[Vl.d];rfl) fun H' Z F'=>q H' Z (i.trans F')⟩⟩⟩⟩⟩⟩
def xy (T:Txt K mg):FO P w base 4 T.d21 (jT T.c5.a T.c7.a fun R=>∃S,R= .op "less" S):=by
 refine T.d21.F.rd rF fun cdv A0 u s0 H vs Q E W h=>?_;obtain⟨A,tu,s,s',k,sc,t,ps,x,xs,l,R,y,r,Z,ho,rfl,M,c,hk,⟨S,rfl⟩,it,ix,Y,v,il,B,g,q⟩:=h;refine⟨_,(f9 (gM (jC (gY (gS (NS (cv 0)) T.c5.cl T.e69.me (iP T) W.m T.e69.b .nil ik (fV gh (fV (cv 4) (fV (cv 2) fY))))))
   (fW (pS (i:=5) rF.nd (ot (gq uc (gk gB (gk gi (cv 4) fX) fX) (gk gB (gk gi (cv 4) fX) fX)) gh gh))
   (f9 (gK (gY (gS (NS (cv 0)) T.c5.cl T.e65.me (gQ T) W.m T.e65.b .nil ik (fV (cv 2) (fV (iB (fV gh (fV (iB (fV (cv 5) (fV (iB (fV gh (fV (iB fY) (fV (cv 2) fY)))) fY))) (fV (cv 2) fY)))) fY)))))))
   gA)),?_⟩;refine eaq (uR (.inr (.inr (.inr (.inr rfl)))) g) fun a b d=>?_;subst d;refine eap (IF il) fun x0 x1 d V U=>?_;subst d;rw[yG]at g;have b1:=B.1;refine⟨(ii _ _ ⟨M.o,iH gL⟩),A,tu,s,"num",ps,x0,x1,a,b,k,rfl,M,Y,fun z=>v (by rw[z];exact aj),fun z=>v (ak _ z),V,U,O2,fun H1 p j=>?_⟩
 cases e:(iJ "num" a b k s).2 with
 |false=>rw[e,gZ fc]at g;cases du.inj g;exact⟨_,rfl,ij (q _ p j)⟩
 |true=>
  rw[e,ig rfl]at g;obtain⟨ea,eb⟩:=rh e;refine eaq (rL ea) fun n pn d=>?_;subst d;refine eaq (rL eb) fun m pm d=>?_;subst d;cases du.inj g;refine eaa (tO (V.mono (M.tk j))) fun ta d J=>?_;subst d;refine eaa (tO (U.mono (M.tk j))) fun tb d I=>?_;subst d;have o:=j.get Y v;refine⟨_,rfl,iK ⟨_,o,gf (fZ rfl) ⟨_,J,gf (fZ rfl) ⟨_,o,gf (fZ rfl) ⟨_,I,gf (fZ rfl) ?_⟩⟩⟩⟩⟩;dsimp only[cI0,onB]
  cases X:decide (n<m)with
  |true=>refine iK ?_;dsimp only[gU,tC];exact⟨(ii _ _ ⟨p.o,iH gL⟩),p7,fun a1 G=>⟨lC,fun a2 F=>⟨lJ,fun a3 D=>⟨lC,fun a' C=>EH (f:=true) p B.both.le G F D C (by rw[<-X];exact fun N L O=>q N L (j.trans O))⟩⟩⟩⟩
  |false=>refine ij ?_;dsimp only[gU,tC];exact⟨(ii _ _ ⟨p.o,iH gL⟩),p7,fun a1 G=>⟨lC,fun a2 F=>⟨lJ,fun a3 D=>⟨lC,fun a' C=>EH (f:=false) p B.both.le G F D C (by rw[<-X];exact fun N L O=>q N L (j.trans O))⟩⟩⟩⟩
def zM(h:Im H x (Vl.row l p).d):∃t u a,x= .ref t/\H t=some (.tup [.str "row",.ref u,.int p])/\H u=some (.tup a)/\Ims H a ((uP l).map Vl.d):=by
 refine eap (qr h) fun t y b e i=>?_;subst b;have i:Im H y (.tup l.ds):=i;rw[D5]at i
 cases i with
 |tup d c=>exact iaa t _ _ ⟨rfl,e,d,c⟩
def Gn{i:List Dt} (k:H a=some (.tup xs)) (j:H b=some (.tup ys)) (f:Ims H xs ds) (d:Ims H ys i) (l:xs.length+ys.length<=sizeLine) (q:∀z g c,gJ H c->c z=some (.tup g)->Ims c g (ds++i)->Q (.ref z) c):Ik K (.ref a) (.ref b) H Q:=by
 refine io a b xs ys ⟨rfl,rfl,NX k,NX j,l,fun z=>?_,fun z=>?_,fun p h=>?_⟩;·subst z;cases f;exact q b ys H (fun _ _ e=>e) j d
 ·subst z;cases d;rw[aF]at q;exact q a xs H (fun _ _ e=>e) k f
 ·exact q p _ _ (gb h _) f7 ((f.app d).mono (gJ.tk (gb h _)))
def Cr {v:Vl} (h:v.s="tag"):∃t x p,v= .tag t x p:=by
 cases v with
 |tag n x p=>exact iaa n x p rfl
 |fn _ _ _=>exact absurd (show("fn":Str)="tag" from h) gL
 |rcd _ _=>exact absurd (show("rec":Str)="tag" from h) gL
 |row _ _=>exact absurd (show("row":Str)="tag" from h) gL
 |num _ _=>exact absurd (show("num":Str)="tag" from h) gL
def rj{v:Vl} (h:v.s≠"tag"):lj hm p sc (.case b ks) [v] s=some (iG v p 0 false s):=by
 cases v with
 |tag _ _ _=>exact absurd rfl h
 |_=>rfl
theorem vT (k:TK H H'):∀{l:List V} {m:List (Str×V)},Prs H l m->Prs H' l m
 |_,_,.nil=> .nil
 |_,_,.cons h t=> .cons (k _ _ h) (vT k t)
theorem zN(e:H a=some (.tup [.str p.1,p.2])):∀{l:List V} {m:List (Str×V)},Prs H l m->Prs H (l++[.ref a]) (m++[p])
 |_,_,.nil=> .cons e .nil
 |_,_,.cons h t=> .cons h (zN e t)
def amP (p:Str×Str×Int):Str×V:=(p.1,.int p.2.2)
def Gq{j:Type} {f:j->Dt} {g:j->Str×V} {l:List j} (e:H1 a=some (.tup t)) (I:Ims H1 t (l.map f)) (M:l.length<=100) (F:H1 D=none) (hτ:n.set 0 none=n)
  (B:∀x v H (R:VK),Im H v (f x)->(∀p,H p=none->R (.ref p) (upd H p (.tup [.str (g x).1,(g x).2])))->te (n.set 0 (some v)) H R)
  (C:∀c s,gJ H1 c->c D=some (.lst s)->Prs c s (l.map g)->Q (.ref D) c):LcP (Itt K a) 0 sE te Q n H1 D:=by
 have L:=L9;have u:=I.length;rw[aE]at u;refine sH l.length O2 (fun i H=>Prs H i ((l.take i.length).map g)) (fun t H c h k=>vT k h) F hτ (fun k H S h=>zp e S O2) (fun H S=>by rw[<-u];exact zq e S) .nil ?_ ?_;·intro k H v J i Z S E y b m A;obtain⟨rfl,o⟩:=y;have o:=o _ (NX (S _ _ e));refine eaa (jA I o) fun d r q=>?_;rw[aP]at r;obtain⟨x,w⟩:∃x,l[k]?=some x:=⟨_,bE E⟩;rw[w]at r;cases r;refine B x v J Z (q.mono (gJ.tk S)) fun p z=>A _ _ (gb z _) ?_;rw[aR,m,bc,cc,w,bq,<-m];exact zN f7 (vT (gJ.tk (gb z _)) b)
 ·intro c i S b m G;rw[m,bA]at b;exact C c i S G b
theorem EI:∀(l:List (Str×Str×Int)) t,jL ((l.map amP).map kf) (Me t)=(lkI l t).map V.int
 |[],t=>rfl
 |p::l,t=>by
  rw[aD,aD,lkI];by_cases e:p.1=t;·rw[ig e,jd (show(kf (amP p)).1=Me t from congrArg Me e)];rfl
  ·rw[gZ e,jf (fun z=>e (Nv z)),EI l t]
def Ct(h:(l.map Mb).Nodup) (t:Str):jL (kq [] ((l.map amP).map kf)) (Me t)=(lkI l t).map V.int:=by
 have c:(((l.map amP).map kf).map (·.1)).Nodup:=by
  rw[bH,bH];have e:List.map (((fun x=>x.1)∘kf)∘amP) l=(l.map Mb).map (Me:Str->Key):=by rw[bH];rfl
  rw[e];exact List.Pairwise.map _ (fun a b h z=>h (Nv z)) h
 rw[nk _ _ _ c,EI];cases lkI l t<;>rfl
def xA (T:Txt K mg):FO P w base 4 T.d17 (jT T.c5.a T.c7.a fun N=>∃O,N= .op "join" O):=by
 refine T.d17.F.rd rE fun cdv A0 B s0 H vs Q E W h=>?_;obtain⟨A,tu,s,s',k,sc,t,ps,x,xs,l,N,D,u,ρs,ho,rfl,M,c,hk,⟨O,rfl⟩,it,ix,Z,C,il,X,d,q⟩:=h;refine⟨_,(f9 (gM (jC (gY (gS (NS (cv 0)) T.c5.cl T.e69.me (iP T) W.m T.e69.b .nil ik (fV gh (fV (cv 4) (fV (cv 2) fY))))))
   (fW (pS (i:=5) rE.nd (gP FV (gk gB (gk gi (cv 4) fX) fX) (gk gB (gk gi (cv 4) fX) fX)))
   (f9 (gM (gq qJ (gN gH rfl T.z_len iN (fV (cv 5) fY)) (vg rfl T.o1))
    (f9 (jk T.c5.cl T.n5end (js (NS (cv 0)) (NS gh) rfl)))
    (f9 (gK (gY (gS (NS (cv 0)) T.c5.cl T.e65.me (gQ T) W.m T.e65.b .nil ik (fV (cv 2) (fV (iB (fV gh (fV (cv 5) (fV (cv 2) fY)))) fY)))))))))
   gA)),?_⟩;have sl:=L9;refine eaq (uR (.inr (.inl rfl)) d) fun a b f=>?_;subst f;refine eap (IF il) fun x0 x1 f V U=>?_;subst f;rw[yF]at d;have b1:=X.1;refine⟨(ii _ _ ⟨M.o,iH gL⟩),A,tu,s,"row",ps,x0,x1,a,b,k,rfl,M,Z,fun z=>C (by rw[z];exact aj),fun z=>C (ak _ z),V,U,O2,fun H1 M1 o=>?_⟩
 cases e:(iJ "row" a b k s).2 with
 |false=>rw[e,gZ fc]at d;cases du.inj d;exact⟨_,rfl,ij (q _ M1 o)⟩
 |true=>
  rw[e,ig rfl]at d;obtain⟨ea,eb⟩:=rh e;refine eaq (rM ea) fun n v f=>?_;subst f;refine eaq (rM eb) fun m y f=>?_;subst f;by_cases g:500<(lg (.row n v)).length\/500<(lg (.row m y)).length;·rw[ig g]at d;cases d
  rw[gZ g]at d;have g:(uP n).length<=500/\(uP m).length<=500:=by rw[not_or,di,di]at g;exact g
  refine eaA (zM (V.mono (M.tk o))) fun ta ua za f L I S=>?_;subst f;refine eaA (zM (U.mono (M.tk o))) fun tb ub zb f J G R=>?_;subst f;have j:=o.get Z C;have la:=S.length;have lb:=R.length;rw[aE]at la lb;refine⟨_,rfl,iK ⟨_,j,gf (fZ rfl) ⟨_,L,gf (fZ rfl) ⟨_,j,gf (fZ rfl) ⟨_,J,gf (fZ rfl) ?_⟩⟩⟩⟩⟩;refine Gn I G S R O2 fun z r H2 S2 Y F=>?_;rw[<-bq]at F;have p:=M1.same S2;have F2:=o.trans (FM.same S2);have lz:=F.length;rw[aE]at lz;dsimp only[gU];refine ii z r ⟨rfl,.inr (NX Y),?_⟩;by_cases h6:60<(uP n++uP m).length;·rw[ig (show 60<(lg (.row n v)++lg (.row m y)).length from h6)]at d;cases du.inj d;dsimp only[tC,cI0,onB];rw[gT (show(60:Int)<(r.length:Int) by lia)];refine iK (ii _ _ ⟨p.o,by show 10<1000;decide,?_⟩);rw[r8];obtain⟨M3,F3⟩:=p.setO _ (some "full");exact q _ M3 (F2.trans F3)
  ·rw[gZ (show ¬60<(lg (.row n v)++lg (.row m y)).length from h6)]at d;cases du.inj d;dsimp only[tC,cI0,onB];rw[hV (show ¬(60:Int)<(r.length:Int) by lia)];refine ij ⟨(ii _ _ ⟨p.o,iH gL⟩),lC,fun a' ha=>oO p X.both.le ha (.cons (.flat rfl) (.cons (.tup Y F) (.cons (.flat rfl) .nil))) (by rw[Vl.d,D5,Ce];rfl) fun H' M' F'=>q H' M' (F2.trans F')⟩
def xB (T:Txt K mg):FO P w base 4 T.d14 (jT T.c5.a T.c7.a fun ρ=>∃b j,ρ= .case b j):=by
 refine T.d14.F.rd my fun cdv A0 outer s0 H vs Q E hr h=>?_;have hu:=tY hr;obtain⟨A,tu,s,Y,k,sc,t,ps,x,xs,l,ρ,names,Z,ρs,ho,rfl,M,c,hk,⟨b,j,rfl⟩,it,ix,ep,np,il,hb,f,q⟩:=h;refine HzX ?_;intro _;refine⟨_,(fW (pS (i:=5) my.nd (iS (Aw rfl) rfl T.z_dict yf (fV (qG rfl (DM rfl gL gL rfl rfl) (qd (gk gB (cv 1) fX)) (fun _ _ _ _ _=>kS) (fun _ _ _ _ _=>(iB (fV (gk gB (cv 0) fX) (fV (gk gB (cv 0) fX) fY))))) fY)))
  (fW (pS (i:=6) my.nd (gk gB (gk gi (cv 4) fX) fX))
  (f9 (gM (jC (gY (gS (NS (cv 0)) T.c5.cl T.e67.me (lN T) hr.m T.e67.b .nil ik (fV (gk gi (cv 4) fX) (fV (cv 2) (fV fX (fV (nB (iV iA (gk gB (gk gi (cv 4) fX) fX) gh) (nA (AY (zh hu (gk gB (cv 6) fX) (cv 5)) rfl))) fY)))))))
   (fW (pS (i:=7) my.nd (vd hu (cv 5) (gk gB (cv 6) fX)))
   (f9 (gK (gY (gS (NS (cv 0)) T.c5.cl T.e66.me (kN T) hr.m T.e66.b .nil ik (fV (cv 7) (fV (iB (fV (cv 7) (fV (gk gB (cv 6) fX) (fV (cv 3) fY)))) (fV (cv 2) fY))))))))
   gA)))),?_⟩;refine Hz2 ?_;intros;refine eaa (kQ it) fun ys et z=>?_;have r:(j.length<=100/\(j.map Mb).Nodup):=c.ok _ (aQ hk);obtain⟨u,X,et,eu,iz⟩:∃u X,H t=some (.tup [.str "case",.int b,.ref u])/\H u=some (.tup X)/\Ims H X (j.map amD):=by
  cases z with
  |cons h1 z=>
   cases h1
   cases z with
   |cons h2 z=>
    cases z
    cases h2 with
    |tup V n=>exact ii _ _ ⟨et,V,n⟩
 refine⟨_,et,gf (fZ rfl) ⟨u,rfl,⟨_,NX eu⟩,fun D hD=>?_⟩⟩;refine Gq (g:=amP) eu iz r.1 hD rfl (fun p v H2 R im hR=>?_) fun H1 ws S1 eD pD=>?_
 ·cases im with
  |tup V n=>
   cases n with
   |cons h1 n=>
    cases h1
    cases n with
    |cons h2 n=>
     cases h2
     cases n with
     |cons h3 n=>cases h3;exact⟨_,V,gf (fZ rfl) ⟨_,V,gf (fZ rfl) ⟨lJ,hR⟩⟩⟩
 refine iaa D ws _ ⟨rfl,eD,pD,by rw[aE];lia,fun d hd=>?_⟩;have L:=S1.trans (gb hd (.dK (kq [] ((j.map amP).map kf))));have ed:(NR H1 d (.dK (kq [] ((j.map amP).map kf)))) d=some (.dK (kq [] ((j.map amP).map kf))):=f7;dsimp only[gU];generalize NR H1 d (.dK (kq [] ((j.map amP).map kf)))=H2 at L ed⊢;have W:=M.same L;match l,f,il with
 |[],f,_=>exact nomatch(show(none:Option Ms)=some Y from f)
 |_::_::_,f,_=>exact nomatch(show(none:Option Ms)=some Y from f)
 |[v],f,il=>
  refine eaa (IE il) fun y o iv=>?_;subst o;have B:=iv.mono (gJ.tk L);have F:=L _ _ ep;refine eap (qr B) fun t0 y o O z=>?_;subst o;refine⟨_,F,gf (fZ rfl) ⟨_,O,gf (fZ rfl) ?_⟩⟩;dsimp only[gU];refine⟨(ii _ _ ⟨W.o,iH gL⟩),_,F,gf (fZ rfl) ⟨_,F,gf (fZ rfl) ⟨_,O,gf (fZ rfl) ?_⟩⟩⟩;have b1:=hb.1;have nd:=(M.same S1).new hd;have F2:FM A H H2:=FM.same L;dsimp only[tC,cEq];refine⟨_,rfl,?_⟩;rw[fj];by_cases nt:v.s="tag"
  ·refine eag (Cr nt) fun m I S o=>?_;subst o;refine eaA (pT (show Im H2 y (.tup [sD m,I.d])from z)) fun ty y1 y2 o C j1 j2=>?_;subst o;cases j1;rw[gT (show(Vl.tag m I S).s="tag" from rfl)];have g:=vc.k (k:=(Me m:Key)) ed;rw[Ct r.2]at g;have f:(match lkI j m with|some b=>some (qo b (.cons b I sc) k (iG (.tag m I S) k 0 true s))|none=>some (iG (.tag m I S) k 0 false s))=some Y:=f;refine iK ⟨_,C,gf (fZ rfl) (ii d _ (⟨rfl,g,A,tu,s,_,.tag m I S,k,0,_,rfl,W,B,O2,fun H3 G N=>⟨_,rfl,?_⟩⟩))⟩
   cases e:lkI j m with
   |none=>rw[e]at f G;cases du.inj f;exact ij (q _ G (F2.trans N))
   |some bd=>rw[e]at f G;cases du.inj f;have U:=W.tk N;have g3:=vc.k (k:=(Me m:Key)) (N.get ed nd);rw[Ct r.2,e]at g3;exact iK ⟨_,U _ _ C,gf (fZ rfl) (ii d _ (⟨rfl,g3,(ii _ _ ⟨G.o,iH gL⟩),_,U _ _ C,gf (fZ rfl) ⟨lC,fun a ha=>yB G hb.come.le ha (.cons (.flat rfl) (.cons (j2.mono U) (.cons ((ix.mono (gJ.tk L)).mono U) .nil))) (by rw[Ev.d];rfl) fun H' M' F'=>q H' M' ((F2.trans N).trans F')⟩⟩))⟩
  ·rw[rj nt]at f;rw[hV nt];refine ij (iag A tu s _ v k 0 false (⟨rfl,W,B,O2,fun H3 G N=>⟨_,rfl,ij ?_⟩⟩));cases du.inj f;exact q _ G (F2.trans N)
def pU(N:St->Hp->Prop) (k:∀a b,N a b->u D a b) (w:∀c,(∀a b,N a b->c.nx a b)->t c σ H):pZ t u D σ H:=w {D with nx:=u D} k
def IG(h:Im H x (Vl.rcd l p).d):∃t u a,x= .ref t/\H t=some (.tup [.str "rec",.ref u,.int p])/\H u=some (.tup a)/\Ims H a ((fdL l).map fvD):=by
 refine eap (qr h) fun t y b e i=>?_;subst b;have i:Im H y (.tup l.ds):=i;rw[KD]at i
 cases i with
 |tup d c=>exact iaa t _ _ ⟨rfl,e,d,c⟩
theorem EJ:∀{a:List V} {l:List (Str×Vl)},Ims H a (l.map fvD)->∃m:List (Str×V),Prs H a m/\m.map Mb=l.map Mb/\∀w,(∃v y,lkV l w=some v/\jL (m.map kf) (Me w)=some y/\Im H y v.d)\/(lkV l w=none/\jL (m.map kf) (Me w)=none)
 |[],[],_=>⟨[],.nil,rfl,fun w=> .inr ⟨rfl,rfl⟩⟩
 |z::a,p::l,h=>by
  cases h with
  |cons j i=>
   refine eak (EJ i) fun m d n g=>?_;refine eaA (pT (show Im H z (.tup [sD p.1,p.2.d])from j)) fun t o y b k f e=>?_;subst b;cases f;refine⟨(p.1,y)::m,.cons k d,by rw[aD,aD,n],fun w=>?_⟩;rw[lkV];by_cases c:p.1=w;·rw[ig c];exact .inl (ii p.2 y ⟨rfl,by rw[aD,jd (show(kf (p.1,y)).1=Me w from congrArg Me c)];rfl,e⟩)
   ·rw[gZ c,aD,jf (fun z=>c (Nv z))];exact g w
def IH {m:List (Str×V)} (h:(m.map Mb).Nodup) (w:Str):jL (kq [] (m.map kf)) (Me w)=jL (m.map kf) (Me w):=by
 have d:((m.map kf).map (·.1)).Nodup:=by
  rw[bH];have e:List.map ((fun x=>x.1)∘kf) m=(m.map Mb).map (Me:Str->Key):=by rw[bH];rfl
  rw[e];exact List.Pairwise.map _ (fun a b h z=>h (Nv z)) h
 rw[nk _ _ _ d];cases jL (m.map kf) (Me w)<;>rfl
def Gr{c:List (Str×Int)} {vs:List Vl} (I:H1 b=some (.tup fs)) (M:Ims H1 fs (c.map fdD)) (H:H1 l=some (.lst xs)) (L:Ims H1 xs (vs.map Vl.d)) (hl:vs.length=c.length) (hk:c.length<=100) (P:H1 D=none)
  (hq:∀w d,gJ H1 w->w D=some (.lst d)->Ims w d (((c.map Mb).zip vs).map fvD)->Q (.ref D) w):LcG (Itzm K b l) (JK K 2 (xX (gU 0) (xX (gU 1) JJ))) (JP (kP (tOp zu (cV 0) (tC (.int 0))) (kP (cV 1) x8))) Q [u0,v0] H1 D:=by
 have sl:=L9;have l1:=M.length;have l2:=L.length;rw[aE]at l1 l2;have lz:((c.map Mb).zip vs).length=c.length:=by rw[b6,aE];lia
 refine⟨fun k m j i=>m=c.length-k/\k<=c.length/\(∃u v,j=[u,v])/\gJ H1 i/\∃d,i D=some (.lst d)/\Ims i d ((((c.map Mb).zip vs).take k).map fvD),⟨c.length,rfl,cK _,(ii _ _ rfl),gb P _,[],f7,.nil⟩,?_⟩;refine fun k m j i=>faj fun n hk' Z S=>faa fun d=>f8 fun V r=>?_;subst n;refine eaq Z fun u v A=>?_;subst A;by_cases o:k<c.length
 ·obtain⟨f,G⟩:∃f,fs[k]?=some f:=⟨_,bE O2⟩;obtain⟨y,F⟩:∃y,xs[k]?=some y:=⟨_,bE O2⟩;refine .inr ⟨(io _ _ _ _ ⟨NX (S _ _ I),NT (S _ _ H),G,F⟩),?_⟩;refine fun z H3=>fab fun T x y'=>faj fun n hT A hx E=>?_;subst n;subst A;have s:=hx _ (NX (S _ _ I));have X:=E _ (NT (S _ _ H));rw[G]at s;rw[F]at X;cases s;cases X;refine eaa (jA M G) fun d1 U j1=>?_;refine eaa (jA L F) fun d2 R j2=>?_;obtain⟨p,O⟩:∃p,c[k]?=some p:=⟨_,bE o⟩;obtain⟨v,N⟩:∃v,vs[k]?=some v:=⟨_,bE O2⟩;rw[aP,O]at U;rw[aP,N]at R;cases U;cases R;refine eaA (pT j1) fun a y1 y2 n ea i1 _=>?_;subst n;cases i1;have Y:=gb hT (.tup [.ref a,y]);refine ii T _ ⟨rfl,NX f7,rfl,_,_,rfl,_,_,rfl,rfl,?_⟩;refine⟨_,Y _ _ (S _ _ ea),gf (fZ rfl) ⟨lJ,fun t ht=>?_⟩⟩;have S4:=gb ht (.tup [.str p.1,y]);have g:=Y.trans S4;have W:=g _ _ V;have B:=r.length;rw[aE,aM,lz]at B;have C:TK _ (NR (NR (NR i T (.tup [.ref a,y])) t (.tup [.str p.1,y])) D (.lst (d++[.ref t]))):=(wW W).tk;refine⟨d,W,O2,c.length-(k+ 1),O2,rfl,o,(ii _ _ rfl),?_,_,f7,?_⟩;·intro q u e;rw[gy (gv e P)];exact g _ _ (S _ _ e)
  ·rw[cc,show((c.map Mb).zip vs)[k]?=some (p.1,v) by rw[cn,aP,O];exact⟨rfl,N⟩,bq];exact((r.mono (gJ.tk g)).mono C).app (.cons (.tup (C _ _ (f7)) (.cons (.flat rfl) (.cons (((j2.mono (gJ.tk S)).mono (gJ.tk g)).mono C) .nil))) .nil)
 ·have s:k=c.length:=O2
  subst s;refine .inl ⟨(ii _ _ ⟨NX (S _ _ I),NT (S _ _ H),O2⟩),hq i d S V ?_⟩;rw[cg O2]at r;exact r
section
variable {hm:Option Hm} {p:Int} {sc:Ev} {ks:List Int} {a b x:Vl} {s:Ms}
def Gv:lj hm p sc (.op "at" ks) [a,b,x] s=if isS "row" a then if isS "num" b then some (lP p (if 0<=nq b/\nq b<(lg a).length then(lg a).getD (nq b).toNat x else x) (iG b p 1 true (iG a p 0 true s)))else some (iG b p 1 false (iG a p 0 true s))else some (iG a p 0 false s):=O1
def yK:lj hm p sc (.op "size" ks) [a] s=if isS "row" a then some (lP p (.num (lg a).length p) (iG a p 0 true s))else some (iG a p 0 false s):=O1
def II(h:lj hm p sc (.op "at" ks) l s=some s'):∃a b x,l=[a,b,x]:=by
 match l,h with
 |[a,b,x],_=>exact iaa a b x rfl
 |[],h=>exact nomatch(show(none:Option Ms)=some s' from h)
 |[_],h=>exact nomatch(show(none:Option Ms)=some s' from h)
 |[_,_],h=>exact nomatch(show(none:Option Ms)=some s' from h)
 |_::_::_::_::_,h=>exact nomatch(show(none:Option Ms)=some s' from h)
def Cu(h:lj hm p sc (.op "size" ks) l s=some s'):∃a,l=[a]:=by
 match l,h with
 |[a],_=>exact⟨a,rfl⟩
 |[],h=>exact nomatch(show(none:Option Ms)=some s' from h)
 |_::_::_,h=>exact nomatch(show(none:Option Ms)=some s' from h)
def tP{v:Vl} (h:v.s≠"rec"):lj hm p sc (.get k0 w) [v] s=some (iG v p 0 false s):=by
 cases v with
 |rcd _ _=>exact absurd rfl h
 |_=>rfl
def EK(h:lj hm p sc (.get k0 w) l s=some s'):∃v,l=[v]:=by
 match l,h with
 |[v],_=>exact⟨v,rfl⟩
 |[],h=>cases h
 |_::_::_,h=>cases h
end
def Bd.come2 {a b:Vl} {p k j:Int} {g:Bool} {s:Ms} (h:Bd 9000000 s):Bd 9400000 (iG b q j g (iG a p k f s)):=by
 refine eae h fun m l i e c=>?_;have d:(9000000:Nat)<=9400000:=O3
 exact⟨by show(_::_::s.me).length<=_;rw[aB,aB];lia,cF l d,cF i d,cF e d,cF c d⟩
def Cv {v:Vl} (h:v.s="rec"):∃l p,v= .rcd l p:=by
 cases v with
 |rcd l p=>exact ii l p rfl
 |fn _ _ _=>exact absurd (show("fn":Str)="rec" from h) gL
 |num _ _=>exact absurd (show("num":Str)="rec" from h) gL
 |tag _ _ _=>exact absurd (show("tag":Str)="rec" from h) gL
 |row _ _=>exact absurd (show("row":Str)="rec" from h) gL
def GtI (A:Mad) (H:Hp) (b:St) (k:Int) (v:Vl) (w:Str) (s e:Ms) (f:St) (c:Hp):Prop:=∃d a,f=b++[some (.ref d)]/\gJ H c/\d∉A.all/\c d=some (.dK a)/\((∃u y,jL a (Me w)=some y/\Im c y u.d/\e=lP k u (iG v k 0 true s))\/(jL a (Me w)=none/\e=iG v k 0 false s))
def yL (T:Txt K mg):FO P w base 4 T.d11 (jT T.c5.a T.c7.a fun r=>∃b,r= .rcd b):=by
 refine T.d11.F.rd sV fun cdv A0 i s0 H vs Q E U h=>?_;obtain⟨A,tu,s,I,k,sc,t,J,x,xs,l,r,m,f,F,ho,rfl,M,c,V,⟨b,rfl⟩,O,ix,y,np,R,W,d,q⟩:=h;refine HzX ?_;intro _;refine⟨_,(fW (BU (j:=5) rfl (Kl rfl gL gL rfl O3 rfl) (FT rfl T.z_zip (fV (gk gB (cv 1) fX) (fV (cv 4) fY))) (pgP rfl gL rfl rfl) (fun _ _ _ _ _=>(iB (fV (gk gB (cv 0) fX) (fV (cv 1) fY)))) sV.nd rfl (.inl rfl))
  (f9 (gK (gY (gS (NS (cv 0)) T.c5.cl T.e65.me (gQ T) U.m T.e65.b .nil ik (fV (cv 2) (fV (iB (fV gh (fV (iS jK rfl T.z_tuple mv (fV (cv 5) fY)) (fV (cv 2) fY)))) fY))))))),?_⟩;have d:(if b.length=l.length then some (lP k (.rcd (fdO ((b.map Mb).zip l)) k) s)else none)=some I:=d;by_cases hl:b.length=l.length
 ·rw[ig hl]at d;cases du.inj d;refine eaa (kQ O) fun ys p n=>?_;have g:=c.ok _ (aQ V);obtain⟨u,o,p,v,N⟩:∃u o,H t=some (.tup [.str "rec",.ref u])/\H u=some (.tup o)/\Ims H o (b.map fdD):=by
   cases n with
   |cons e n=>
    cases n
    cases e with
    |tup e2 S=>exact ii _ _ ⟨p,e2,S⟩
  refine⟨_,p,gf (fZ rfl) (ii u J (⟨rfl,⟨_,NX v⟩,⟨_,NT y⟩,fun D Y=>?_⟩))⟩;refine Gr v N y R hl.symm g.1 Y fun H2 G z Z L=>?_;dsimp only[gU];have C:=M.same z;refine⟨(ii _ _ ⟨C.o,iH gL⟩),D,_,rfl,.inl ⟨NT Z,fun a1 e=>⟨lC,fun a X=>?_⟩⟩⟩;have B:=gb e (.tup G);exact oO (C.same B) W.le X (.cons (.flat rfl) (.cons (oa e L) (.cons (.flat rfl) .nil))) (by rw[Vl.d,KD,JS];rfl) fun H' M' F'=>q H' M' ((FM.same (z.trans B)).trans F')
 ·rw[gZ hl]at d;cases d
def yM (T:Txt K mg):FO P w base 4 T.d12 (jT T.c5.a T.c7.a fun V=>∃k0 e,V= .get k0 e):=by
 refine T.d12.F.rd sX fun cdv A0 J s0 H vs Q E N h=>?_;have hu:=tY N;obtain⟨A,X,s,Y,k,sc,t,ps,x,xs,l,V,L,I,ρs,ho,rfl,M,c,hk,⟨k0,e,rfl⟩,it,ix,S,np,il,hb,a,q⟩:=h;refine HzX ?_;intro _;refine⟨_,(fW (pS (i:=5) sX.nd (ot (gq iA (gk gB (gk gi (cv 4) fX) fX) gh) (iS (Ap rfl) rfl T.z_dict yf (fV (gk gB (gk gi (cv 4) fX) fX) fY)) qf))
  (f9 (gM (jC (gY (gS (NS (cv 0)) T.c5.cl T.e67.me (lN T) N.m T.e67.b .nil ik (fV (gk gi (cv 4) fX) (fV (cv 2) (fV fX (fV (AY (zh hu (gk gB (cv 1) fX) (cv 5)) rfl) fY)))))))
   (f9 (gK (gY (gS (NS (cv 0)) T.c5.cl T.e65.me (gQ T) N.m T.e65.b .nil ik (fV (cv 2) (fV (vd hu (cv 5) (gk gB (cv 1) fX)) fY))))))
   gA))),?_⟩;obtain⟨v,rfl⟩:=EK a;refine eaa (IE il) fun y f C=>?_;subst f;refine eaa (kQ it) fun ys z r=>?_;obtain⟨W,z⟩:∃W,H t=some (.tup [.str "get",W,.str e]):=by
  cases r with
  |cons h1 r=>
   cases r with
   |cons h2 r=>cases h2;cases r;exact⟨_,z⟩
 refine eap (qr C) fun t0 yb f U ib=>?_;subst f;refine pU (GtI A H [some (.ref A.m),some (.ref t),some (.int (k:Int)),some x,some (.ref ps)] k v e s Y) ?_ ?_;rotate_left
 ·intro D' hD;refine⟨_,S,gf (fZ rfl) ⟨_,U,gf (fZ rfl) ?_⟩⟩;dsimp only[tC,cEq,onB];by_cases hs:v.s="rec"
  ·refine eaq (Cv hs) fun j Z f=>?_;subst f;refine eaA (IG C) fun t1 u zs e1 e2 eu iz=>?_;cases e1;rw[U]at e2;cases e2;have a:(if((fdL j).map Mb).Nodup/\(fdL j).length<=100 then(match lkV (fdL j) e with|some x=>some (lP k x (iG (.rcd j Z) k 0 true s))|none=>some (iG (.rcd j Z) k 0 false s))else none)=some Y:=a;by_cases hn:((fdL j).map Mb).Nodup/\(fdL j).length<=100
   ·rw[ig hn]at a;refine eak (EJ iz) fun m pm em gm=>?_;have lm:m.length<=100:=by rw[<-aE,em,aE];exact hn.2
    rw[gT hs];refine iK ⟨_,S,gf (fZ rfl) ⟨_,U,gf (fZ rfl) (iaa u _ m (⟨rfl,eu,pm,O2,fun d n=>hD _ _ (ii d _ ⟨rfl,gb n _,M.new n,f7,?_⟩)⟩))⟩⟩;rw[IH (by rw[em];exact hn.1)];rcases gm e with⟨u,y,R,O,D⟩|⟨R,O⟩;·rw[R]at a;exact .inl (ii u y ⟨O,D.mono (gJ.tk (gb n _)),(du.inj a).symm⟩)
    ·rw[R]at a;exact .inr ⟨O,(du.inj a).symm⟩
   ·rw[gZ hn]at a;cases a
  ·rw[tP hs]at a;rw[hV hs];exact ij (fun d n=>hD _ _ (ii d ([]) (⟨rfl,gb n _,M.new n,f7,.inr ⟨rfl,(du.inj a).symm⟩⟩)))
 refine fun _ H2=>fai fun d kvs f b nd ed cs=>?_;subst f;have o:=M.same b;have g:=vc.k (k:=(Me e:Key)) ed;have b1:=hb.1;have B:=b _ _ S;rcases cs with⟨u,y,F,iu,rfl⟩|⟨F,rfl⟩;·rw[F]at g;refine⟨(ii _ _ ⟨o.o,iH gL⟩),_,B,gf (fZ rfl) ⟨_,b _ _ z,gf (fZ rfl) (ii d _ (⟨rfl,g,A,X,s,_,v,k,0,true,rfl,o,C.mono (gJ.tk b),O2,fun H3 G p=>⟨_,rfl,iK ?_⟩⟩))⟩⟩;have D:=vc.k (k:=(Me e:Key)) (p.get ed nd);rw[F]at D;exact⟨(ii _ _ ⟨G.o,iH gL⟩),_,o.tk p _ _ (b _ _ z),gf (fZ rfl) (ii d _ ⟨rfl,D,tN G hb.come.le (iu.mono (o.tk p)) fun H' M' F'=>q H' M' (((FM.same b).trans p).trans F')⟩)⟩
 ·rw[F]at g;exact⟨(ii _ _ ⟨o.o,iH gL⟩),_,B,gf (fZ rfl) ⟨_,b _ _ z,gf (fZ rfl) (ii d _ (⟨rfl,g,A,X,s,_,v,k,0,false,rfl,o,C.mono (gJ.tk b),O2,fun H3 G p=>⟨_,rfl,ij (q _ G ((FM.same b).trans p))⟩⟩))⟩⟩
def xC (T:Txt K mg):FO P w base 4 T.d18 (jT T.c5.a T.c7.a fun o=>∃r,o= .op "size" r):=by
 refine T.d18.F.rd xh fun O A0 i s0 H X Q E y h=>?_;obtain⟨A,G,s,s',k,sc,t,ps,x,W,l,o,j,g,C,ho,rfl,M,c,hk,⟨r,rfl⟩,it,ix,B,I,J,z,a,q⟩:=h;refine⟨_,(f9 (gM (jC (gY (gS (NS (cv 0)) T.c5.cl T.e68.me (jq T) y.m T.e68.b .nil ik (fV gh (fV (gk gi (cv 4) fX) (fV (cv 2) (fV fX fY)))))))
   (f9 (gK (gY (gS (NS (cv 0)) T.c5.cl T.e65.me (gQ T) y.m T.e65.b .nil ik (fV (cv 2) (fV (iB (fV gh (fV (gN gH rfl T.z_len iN (fV (gk gB (gk gi (cv 4) fX) fX) fY)) (fV (cv 2) fY)))) fY))))))
   gA)),?_⟩;have Z:=L9;obtain⟨v,rfl⟩:=Cu a;rw[yK]at a;refine eaa (IE J) fun D b u=>?_;subst b;have b1:=z.1;refine⟨(ii _ _ ⟨M.o,iH gL⟩),_,B,gf (fZ rfl) (iag A G s ("row") D v k 0 (⟨rfl,M,u,O2,fun H1 d f=>⟨_,rfl,?_⟩⟩))⟩
 cases e:isS "row" v with
 |false=>rw[e]at d a;cases du.inj a;exact ij (q _ d f)
 |true=>rw[e]at d a;cases du.inj a;refine eaq (rM (of_decide_eq_true e)) fun l pq b=>?_;subst b;refine eaA (zM (u.mono (M.tk f))) fun Y F V b n m L=>?_;subst b;have p:=L.length;rw[aE]at p;refine iK ⟨(ii _ _ ⟨d.o,iH gL⟩),_,f.get B I,gf (fZ rfl) ⟨_,n,gf (fZ rfl) (ii F _ ⟨rfl,.inr (NX m),lC,fun a' N=>?_⟩)⟩⟩;rw[p];exact oO d z.come.le N (.cons (.flat rfl) (.cons (.flat rfl) (.cons (.flat rfl) .nil))) (by rw[Vl.d];rfl) fun S R U=>q S R (f.trans U)
def AN (T:Txt K mg):FO P w base 4 T.d16 (jT T.c5.a T.c7.a fun ρ=>∃ks,ρ= .op "at" ks):=by
 refine T.d16.F.rd rb fun cdv A0 U s0 H vs Q E Y h=>?_;obtain⟨A,tu,s,s',k,sc,t,ps,x,xs,l,ρ,W,S,ρs,ho,rfl,M,c,hk,⟨ks,rfl⟩,it,ix,ep,np,m,hb,f,q⟩:=h;refine⟨_,(f9 (gM (PW.pt (nK (jC (gY (gS (NS (cv 0)) T.c5.cl T.e68.me (jq T) Y.m T.e68.b .nil ik (fV gh (fV (gk gi (cv 4) fX) (fV (cv 2) (fV fX fY))))))) (mD (jC (gY (gS (NS (cv 0)) T.c5.cl T.e68.me (jq T) Y.m T.e68.b .nil ik (fV gh (fV (gk gi (cv 4) fX) (fV (cv 2) (fV fX fY))))))))))
   (fW (pS (i:=5) rb.nd (gk gB (gk gi (cv 4) fX) fX))
   (fW (pS (i:=6) rb.nd (gk gB (gk gi (cv 4) fX) fX))
   (f9 (gK (gY (gS (NS (cv 0)) T.c5.cl T.e65.me (gQ T) Y.m T.e65.b .nil ik (fV (cv 2) (fV (ot (oy tX Dw fX (cv 6) (gN gH rfl T.z_len iN (fV (cv 5) fY))) (gk gB (cv 5) (cv 6)) (gk gi (cv 4) fX)) fY))))))))
   gA)),?_⟩;have sl:=L9;refine eag (II f) fun v n L b=>?_;subst b;rw[Gv]at f;obtain⟨J,I,R,rfl,i0,i1,i2⟩:∃J I R,xs=[J,I,R]/\Im H J v.d/\Im H I n.d/\Im H R L.d:=by
  cases m with
  |cons h1 m=>
   cases m with
   |cons h2 m=>
    cases m with
    |cons h3 m=>cases m;exact iaa _ _ _ ⟨rfl,h1,h2,h3⟩
 have b1:=hb.1;refine⟨(ii _ _ ⟨M.o,iH gL⟩),_,ep,gf (fZ rfl) (iag A tu s ("row") J v k 0 (⟨rfl,M,i0,O2,fun H1 p F=>⟨_,rfl,?_⟩⟩))⟩
 cases e:isS "row" v with
 |false=>rw[e]at p f;cases du.inj f;exact ij (q _ p F)
 |true=>
 rw[e,ig rfl]at f;rw[e]at p;refine eaq (rM (of_decide_eq_true e)) fun l p0 b=>?_;subst b;have C:=F.get ep np;have b2:(iG (Vl.row l p0) k 0 true s).me.length<=9000001:=by show(_::s.me).length<=_;rw[aB];lia
 refine iK ⟨(ii _ _ ⟨p.o,iH gL⟩),_,C,gf (fZ rfl) (iag A tu _ ("num") I n k 1 (⟨rfl,p,i1.mono (M.tk F),O2,fun H2 D F2=>⟨_,rfl,?_⟩⟩))⟩;have G:=F.trans F2
 cases O:isS "num" n with
 |false=>rw[O]at D f;cases du.inj f;exact ij (q _ D G)
 |true=>
 rw[O,ig rfl]at f;rw[O]at D;refine eaq (rL (of_decide_eq_true O)) fun n p1 b=>?_;subst b;cases du.inj f;have N:TK H H2:=fun a xs e=>p.tk F2 _ _ (M.tk F _ _ e);have g:=F2.get C np;refine eaA (zM (i0.mono N)) fun ta ua r b eta B ia=>?_;subst b;refine eaa (tO (i1.mono N)) fun tb b Z=>?_;subst b;have la:=ia.length;rw[aE]at la;refine iK ⟨_,g,gf (fZ rfl) ⟨_,eta,gf (fZ rfl) ?_⟩⟩;dsimp only[gU];refine⟨_,g,gf (fZ rfl) ⟨_,Z,gf (fZ rfl) ?_⟩⟩;dsimp only[gU];refine⟨(ii _ _ ⟨D.o,iH gL⟩),0,n,rfl,rfl,?_⟩;have o:∀{u:Vl} {x:V},u=(if 0<=n/\n<(uP l).length then(uP l).getD n.toNat L else L)->Im H2 x u.d->xu T.c5.a [.ref A.m,.int k,x] H2 Q E0:=fun eu X=>tN D hb.come2.le X fun H' M' F'=>q H' (by rw[eu]at M';exact M') (G.trans F')
 cases n with
 |ofNat j=>
  refine⟨true,congrArg V.bl (gT (Int.natCast_nonneg j)),iK (ii ua r ⟨rfl,.inr (NX B),_,_,rfl,rfl,?_⟩)⟩;by_cases hj:j<(uP l).length;·refine eaa (jA ia (bE (show j<r.length by lia))) fun d y X=>?_;rw[aP,bE hj]at y;cases y;refine⟨true,congrArg V.bl (gT (show((j:Nat):Int)<(r.length:Int) by lia)),iK ⟨_,B,gf (fZ (bE (show j<r.length by lia))) (o ?_ X)⟩⟩;rw[ig ⟨Int.natCast_nonneg j,by show(j:Int)<_;lia⟩,bu];show _=((uP l)[j]?).getD L;rw[bE hj];rfl
  ·refine⟨false,congrArg V.bl (hV (show ¬((j:Nat):Int)<(r.length:Int) by lia)),ij ⟨_,g,gf (fZ rfl) (o ?_ (i2.mono N))⟩⟩;rw[gZ (fun z=>hj (by have:=z.2;lia))]
 |negSucc j=>exact⟨false,congrArg V.bl (hV O2),ij ⟨false,rfl,ij ⟨_,g,gf (fZ rfl) (o (by rw[gZ (fun z=>by have:=z.1;lia)]) (i2.mono N))⟩⟩⟩
def U0:Ro->Prop
 | .op o _=>o∈plain
 |_=>True
inductive WkS (T:Txt K mg):Zx->Sp->Prop
 |num:WkS T T.d6.a (jT T.c5.a T.c7.a fun ρ=>∃n,ρ= .num n)
 |name:WkS T T.d7.a (jT T.c5.a T.c7.a fun ρ=>∃n,ρ= .name n)
 |fn:WkS T T.d8.a (jT T.c5.a T.c7.a fun ρ=>∃n b,ρ= .fn n b)
 |call:WkS T T.d9.a (jT T.c5.a T.c7.a fun ρ=>∃ks,ρ= .op "call" ks)
 |lt:WkS T T.d10.a (jT T.c5.a T.c7.a fun ρ=>∃n a b,ρ= .lt n a b)
 |tag:WkS T T.d13.a (jT T.c5.a T.c7.a fun ρ=>∃n b,ρ= .tag n b)
 |case:WkS T T.d14.a (jT T.c5.a T.c7.a fun ρ=>∃b ks,ρ= .case b ks)
 |row:WkS T T.d15.a (jT T.c5.a T.c7.a fun ρ=>∃ks,ρ= .row ks)
 |join:WkS T T.d17.a (jT T.c5.a T.c7.a fun ρ=>∃ks,ρ= .op "join" ks)
 |add:WkS T T.d19.a (jT T.c5.a T.c7.a fun ρ=>∃ks,ρ= .op "add" ks)
 |sub:WkS T T.d20.a (jT T.c5.a T.c7.a fun ρ=>∃ks,ρ= .op "sub" ks)
 |rcd:WkS T T.d11.a (jT T.c5.a T.c7.a fun ρ=>∃ks,ρ= .rcd ks)
 |get:WkS T T.d12.a (jT T.c5.a T.c7.a fun ρ=>∃k0 w0,ρ= .get k0 w0)
 |size:WkS T T.d18.a (jT T.c5.a T.c7.a fun ρ=>∃ks,ρ= .op "size" ks)
 |ix:WkS T T.d16.a (jT T.c5.a T.c7.a fun ρ=>∃ks,ρ= .op "at" ks)
 |less:WkS T T.d21.a (jT T.c5.a T.c7.a fun ρ=>∃ks,ρ= .op "less" ks)
def WkS.at {T:Txt K mg} {X:Cx} (g:X.prog=P) (e:X.w=w) (d:X.K=K) (c:X.mg=mg) (b:X.base=base) {f:Zx} {a:Sp} (h:WkS T f a):LW X CX0 4 f a:=by
 subst g e d c b
 cases h with
 |num=>exact ii _ _ ⟨yA T,T.d6.k,T.d6.b⟩
 |name=>exact ii _ _ ⟨xw T,T.d7.k,T.d7.b⟩
 |fn=>exact ii _ _ ⟨AM T,T.d8.k,T.d8.b⟩
 |call=>exact ii _ _ ⟨xx T,T.d9.k,T.d9.b⟩
 |lt=>exact ii _ _ ⟨yC T,T.d10.k,T.d10.b⟩
 |tag=>exact ii _ _ ⟨yD T,T.d13.k,T.d13.b⟩
 |case=>exact ii _ _ ⟨xB T,T.d14.k,T.d14.b⟩
 |row=>exact ii _ _ ⟨yH T,T.d15.k,T.d15.b⟩
 |join=>exact ii _ _ ⟨xA T,T.d17.k,T.d17.b⟩
 |add=>exact ii _ _ ⟨yI T,T.d19.k,T.d19.b⟩
 |sub=>exact ii _ _ ⟨yJ T,T.d20.k,T.d20.b⟩
 |rcd=>exact ii _ _ ⟨yL T,T.d11.k,T.d11.b⟩
 |get=>exact ii _ _ ⟨yM T,T.d12.k,T.d12.b⟩
 |size=>exact ii _ _ ⟨xC T,T.d18.k,T.d18.b⟩
 |ix=>exact ii _ _ ⟨AN T,T.d16.k,T.d16.b⟩
 |less=>exact ii _ _ ⟨xy T,T.d21.k,T.d21.b⟩
structure Wk (P:Zu) (w:Zv) (T:Txt K mg) where
 a:Zx
 m:mg "WORKERS"=some (.ref a)
 kvs:List (Key×V)
 kd:BG P w K a kvs
 yes:∀ρ,U0 ρ->∃f U,jL kvs (Me ρ.s)=some (.ref f)/\WkS T f (jT T.c5.a T.c7.a U)/\U ρ
inductive XWp (C CP:Zx) (vs:List V) (H:Hp) (Q:VK):Prop
 |mk (A:Mad) (tu:Nat) (s s':Ms) (k:Nat) (sc:Ev) (x:V) (ρ:Ro) (l rd:List Vl) (names:Zd) (roots:List Nat) (ρs:List Ro) (ho:Nat->Option Hm) (e:vs=[.ref A.m,.int (k:Int),x]) (M:Mc C H A tu s) (c:Ctx CP H A names roots ρs ho) (hk:ρs[k]?=some ρ) (hu:U0 ρ) (ix:Im H x sc.d) (hb:Bd 9000000 s) (ht:tkR (nJ ρ).length s.rd []=some (l,rd)) (hw:lj (ho k) k sc ρ l {s with rd:=rd}=some s') (q:∀H',Mc C H' A tu s'->FM A H H'->Q .non H')
def KL (C b:Zx):Sp:=fun a H Q _=>XWp C b a H Q
def oj (T:Txt K mg) (W:Wk P w T):MO P w base mg 8 T.e63 (KL T.c5.a T.c7.a):=by
 refine T.e63.F.rd lF fun cdv A0 v s0 H vs Q E z h=>?_;obtain⟨A,G,s,X,k,V,x,g,l,Y,d,b,t,ho,rfl,M,c,B,hu,ix,hb,L,hw,q⟩:=h;refine HzX ?_;intro _;refine⟨_,(fW (pS (i:=3) lF.nd (gk gi (gR T.c7.cl T.n7rows (gR T.c5.cl T.n5program (cv 0))) (cv 1)))
  (f9 (gK (DV (fun f S (h:WkS T f S)=>h.at rfl rfl rfl rfl rfl) z.m ik (BI W.kd (DL rfl W.m) (gk gB (cv 3) fX)) (fV (cv 0) (fV (cv 3) (fV (cv 1) (fV (cv 2) (fV (gY (gS (NS (cv 0)) T.c5.cl T.e64.me (oh T) z.m T.e64.b .nil ik (fV (gN gH rfl T.z_len iN (fV (pF T.d4 (oN T) z.m (fV (cv 3) fY)) fY)) fY))) fY))))))))),?_⟩;refine eao c.p fun n r w dx O=>faj fun u n1 n2 n3 n4=>?_;refine eaj (vQ u.i B) fun I ys y C _ m=>?_;have j:=c.ok g (aQ B);refine eap (W.yes g hu) fun f U hv hS hU=>?_;refine⟨_,(ii _ _ ⟨M.o,pR⟩),_,(ii _ _ ⟨u.o,n9 _ _ _⟩),_,u.w,gf (fZ y) ?_⟩;dsimp only[gU];refine⟨_,C,gf (fZ rfl) (ii (Me g.s) _ ⟨rfl,rfl,hv,f,_,rfl,hS,?_⟩)⟩;refine⟨(ii _ _ ⟨M.o,iH gL⟩),g,j,I,rfl,m,fun lp H1 o hlp e1=>?_⟩;have p:=M.same o;have fl:=yz j;refine⟨lp,_,rfl,.inl (NT e1),A,G,s,(nJ g).length,l,Y,?_,p,O2,L,fun H2 Z N h0 ep iz M2 D=>?_⟩;·rw[aE];rfl
 have c2:=(c.fm M (FM.same o)).fm p D;have J:TK H H2:=fun a O e=>p.tk D _ _ (gJ.tk o _ _ e);have F:=(FM.same o).trans D;refine eac (r9 L) fun t1 _ R=>?_;refine⟨A,G,_,X,k,V,I,Z,x,N,l,g,d,b,t,ho,rfl,M2,c2,B,hU,m.mono J,ix.mono J,ep,p.new h0,iz,?_,hw,fun H' M' F'=>q H' M' (F.trans F')⟩;refine eae hb fun b1 b2 b3 b4 b5=>?_;exact⟨b1,b2,b3,b4,by rw[R,aZ];lia⟩
structure Gw (d:Nat) (s s':Ms):Prop where
 me:∃a,s'.me=a++s.me/\a.length<=2
 ha:∃a,s'.ha=a++s.ha/\a.length<=1
 de:s'.de=s.de
 st:s'.st.length<=s.st.length+ 200
 rd:s'.rd.length<=s.rd.length+ 1
 bg:s'.bg=s.bg+d%2
 en:d≠2->s'.en=some ("turns":Str)->s.en=some ("turns":Str)
def IJ {m:Str} (h:m≠"turns") {P:Prop} (z:some m=some ("turns":Str)):P:=absurd (du.inj z) h
def mK:(iG v p k f s).en=some ("turns":Str)->s.en=some ("turns":Str):=by
 cases f with
 |true=>exact id
 |false=>exact IJ gL
def zO(h:∃a,s.me=a++s0.me/\a.length<=2) (g:s.ha=s0.ha) (f:s.de=s0.de) (e:s.st=s0.st) (d:s.rd=s0.rd) (c:s.bg=s0.bg) (b:s.en=some ("turns":Str)->s0.en=some ("turns":Str)):Gw 0 s0 (lP p v s):=⟨h,⟨[_],by rw[<-g];rfl,cJ _⟩,f,by show s.st.length<=_;rw[e];lia,by show(v::s.rd).length<=_;rw[aB,d];lia,c,fun _ z=>b z⟩
def Cw(i:∃a,s.me=a++s0.me/\a.length<=2) (h:s.ha=s0.ha) (g:s.de=s0.de) (f:s.st=s0.st) (e:s.rd=s0.rd) (d:s.bg=s0.bg) (c:s.en=some ("turns":Str)->s0.en=some ("turns":Str)):Gw 0 s0 (qo b sc p s):=⟨i,⟨[],h,cK _⟩,g,by show(_::_::s.st).length<=_;rw[aB,aB,f];lia,by show s.rd.length<=_;rw[e];lia,d,fun _ z=>c z⟩
def Gx:Gw 0 s (iG v p k f s):=⟨⟨[_],rfl,cP _⟩,⟨[],rfl,cK _⟩,rfl,by show s.st.length<=_;lia,by show s.rd.length<=_;lia,rfl,fun _=>mK⟩
def oB:(∃l,(iJ sh a b p s).1.me=l++s.me/\l.length<=2)/\(iJ sh a b p s).1.ha=s.ha/\(iJ sh a b p s).1.de=s.de/\(iJ sh a b p s).1.st=s.st/\(iJ sh a b p s).1.rd=s.rd/\(iJ sh a b p s).1.bg=s.bg/\((iJ sh a b p s).1.en=some ("turns":Str)->s.en=some ("turns":Str)):=by
 unfold iJ
 cases isS sh a with
 |false=>exact⟨⟨[_],rfl,cP _⟩,rfl,rfl,rfl,rfl,rfl,mK⟩
 |true=>exact⟨⟨[_,_],rfl,cJ _⟩,rfl,rfl,rfl,rfl,rfl,fun z=>mK (mK z)⟩
def tQ{e:Option Str} (c:e=some ("turns":Str)->s.en=some ("turns":Str)):Gw 0 s {(iJ sh a b p s).1 with en:=e}:=by obtain⟨j,i,h,g,f,d,k⟩:=oB;exact⟨j,⟨[],i,cK _⟩,h,by show(iJ sh a b p s).1.st.length<=_;rw[g];lia,by show(iJ sh a b p s).1.rd.length<=_;rw[f];lia,d,fun _ z=>c z⟩
def vU:Gw 0 s (lP q v (iJ sh a b p s).1):=by obtain⟨i,h,g,f,e,d,c⟩:=oB;exact zO i h g f e d c
def Gy:Gw 0 s (lP q u (iG v p k f s)):=zO ⟨[_],rfl,cP _⟩ rfl rfl rfl rfl rfl mK
def D6:Gw 0 s (qo b sc q (iG v p k f s)):=Cw ⟨[_],rfl,cP _⟩ rfl rfl rfl rfl rfl mK
def Gz(hu:U0 ρ) (h:lj m p r ρ l s=some s'):Gw 0 s s':=by
 have i:∀{v:Vl},some (lP p v s)=some s'->Gw 0 s s':=fun e=>by cases du.inj e;exact zO ⟨[],rfl,cK _⟩ rfl rfl rfl rfl rfl id
 have d:∀{v:Vl} {k:Int} {f:Bool},some (iG v p k f s)=some s'->Gw 0 s s':=fun e=>by cases du.inj e;exact Gx
 have y:∀{v u:Vl} {k:Int} {f:Bool},some (lP p u (iG v p k f s))=some s'->Gw 0 s s':=fun e=>by cases du.inj e;exact Gy
 have w:∀{v:Vl} {k b:Int} {f:Bool} {r:Ev},some (qo b r p (iG v p k f s))=some s'->Gw 0 s s':=fun e=>by cases du.inj e;exact D6
 cases ρ with
 |get a b=>
  obtain⟨v,rfl⟩:=EK h;by_cases nt:v.s="rec"
  ·refine eaq (Cv nt) fun q j c=>?_;subst c;have h:(if((fdL q).map Mb).Nodup/\(fdL q).length<=100 then(match lkV (fdL q) b with|some x=>some (lP p x (iG (.rcd q j) p 0 true s))|none=>some (iG (.rcd q j) p 0 false s))else none)=some s':=h;split at h
   ·split at h;·exact y h
    ·exact d h
   ·cases h
  ·rw[tP nt]at h;exact d h
 |rcd g=>
  have h:(if g.length=l.length then some (lP p (.rcd (fdO ((g.map Mb).zip l)) p) s)else none)=some s':=h;split at h;·exact i h
  ·cases h
 |num n=>cases l with
  |nil=>exact i h
  |cons _ _=>cases h
 |fn n b=>cases l with
  |nil=>exact i h
  |cons _ _=>cases h
 |row g=>exact i h
 |name n=>cases l with
  |cons _ _=>cases h
  |nil=>
   cases m with
   |none=>cases h
   |some m=>have h:(if m.1="def" then(atZ s.de m.2).map fun v=>lP p v s else(rT r m.2).map fun v=>lP p v s)=some s':=h;split at h<;>refine eaa (dA.mp h) fun v _ e=>?_<;>exact i (congrArg some e)
 |tag n b=>match l,h with
  |[v],h=>exact i h
 |lt n a b=>match l,h with
  |[v],h=>cases du.inj h;exact Cw ⟨[],rfl,cK _⟩ rfl rfl rfl rfl rfl id
 |case b g=>match l,h with
  |[v],h=>
   by_cases nt:v.s="tag"
   ·refine eag (Cr nt) fun t x j c=>?_;subst c;have h:(match lkI g t with|some b=>some (qo b (.cons b x r) p (iG (.tag t x j) p 0 true s))|none=>some (iG (.tag t x j) p 0 false s))=some s':=h;split at h;·exact w h
    ·exact d h
   ·rw[rj nt]at h;exact d h
 |op o g=>
  have hu:o∈plain:=hu;simp only[plain,ao,bI,or_false]at hu;rcases hu with rfl|rfl|hu
  ·obtain⟨a,rfl⟩:=Cu h;rw[yK]at h;split at h;·exact y h
   ·exact d h
  ·refine eag (II h) fun a b x c=>?_;subst c;rw[Gv]at h;split at h
   ·split at h;·cases du.inj h;exact zO ⟨[_,_],rfl,cJ _⟩ rfl rfl rfl rfl rfl fun z=>mK (mK z)
    ·cases du.inj h;exact⟨⟨[_,_],rfl,cJ _⟩,⟨[],rfl,cK _⟩,rfl,by show s.st.length<=_;lia,by show s.rd.length<=_;lia,rfl,fun _ z=>mK (mK z)⟩
   ·exact d h
  refine eaq (uR hu h) fun a b c=>?_;subst c;rcases hu with rfl|rfl|rfl|rfl|rfl
  ·rw[yE]at h;split at h;·exact w h
   ·exact d h
  ·rw[yF]at h;split at h
   ·split at h;·cases h
    ·split at h;·cases du.inj h;exact tQ (IJ gL)
     ·cases du.inj h;exact vU
   ·cases du.inj h;exact tQ oB.2.2.2.2.2.2
  ·rw[Cp]at h;split at h;·cases du.inj h;exact vU
   ·cases du.inj h;exact tQ oB.2.2.2.2.2.2
  ·rw[Cq]at h;split at h;·cases du.inj h;exact vU
   ·cases du.inj h;exact tQ oB.2.2.2.2.2.2
  ·rw[yG]at h;split at h;·cases du.inj h;exact vU
   ·cases du.inj h;exact tQ oB.2.2.2.2.2.2
inductive Cy (ρs:List Ro) (ho:Nat->Option Hm) (tu:Nat):Nat->Ms->Ms->Prop
 |stop {s:Ms} (h:s.en≠none\/s.st=[]):Cy ρs ho tu 0 s s
 |step {n:Nat} {s s' s2:Ms} (h0:s.en=none) (h:tJ ρs ho tu s=some s') (r:Cy ρs ho tu n s' s2):Cy ρs ho tu (n+ 1) s s2
def GA(q:∀a∈b,a.ok) (u:∀a∈b,U0 a) (h:tJ b ho tu s=some s'):Gw 0 s s'\/AL s.st=true/\(Gw 1 s s'\/tu<=s.bg/\Gw 2 s s'):=by
 unfold tJ at h;split at h;·rename_i z;cases du.inj h;refine .inr ⟨z.1,.inr ⟨z.2,⟨[],rfl,cK _⟩,⟨[],rfl,cK _⟩,rfl,by rw[List.length_tail];lia,by lia,rfl,fun z=>absurd rfl z⟩⟩
 unfold tI at h
 cases f:s.st with
 |nil=>rw[f]at h;cases h
 |cons t r=>
  rw[f]at h
  cases t with
  |beg p d=>
   have h:(match atZ b p with|some a=>some {s with bg:=s.bg+ 1,st:=(nJ a).map (fun k=>Stp.beg k d)++ .par p d::r}|none=>none)=some s':=h
   cases e:atZ b p with
   |none=>rw[e]at h;cases h
   |some a=>rw[e]at h;refine eaa (qt e) fun k i m=>?_;subst i;cases du.inj h;have y:=yz (q a (aQ m));refine .inr ⟨rfl,.inl ⟨⟨[],rfl,cK _⟩,⟨[],rfl,cK _⟩,rfl,by show(List.map _ _++_::r).length<=_;rw[aR,aE,aB,f,aB];lia,by lia,rfl,fun _=>id⟩⟩
  |par p d=>
   have h:(match atZ b p with|some a=>(match tkR (nJ a).length s.rd []with|some (l,c)=>lj (ho p.toNat) p d a l {s with st:=r,rd:=c}|none=>none)|none=>none)=some s':=h
   cases e:atZ b p with
   |none=>rw[e]at h;cases h
   |some a=>
    rw[e]at h;refine eaa (qt e) fun k i m=>?_;subst i;have h:(match tkR (nJ a).length s.rd []with|some (l,c)=>lj (ho (k:Int).toNat) k d a l {s with st:=r,rd:=c}|none=>none)=some s':=h
    cases n:tkR (nJ a).length s.rd []with
    |none=>rw[n]at h;cases h
    |some z=>obtain⟨l,c⟩:=z;rw[n]at h;have g:=Gz (u a (aQ m)) (h);refine eac (r9 n) fun _ _ o=>?_;have x:=g.st;have w:=g.rd;rw[o,aZ]at w;exact .inl ⟨g.me,g.ha,g.de,by rw[f,aB];lia,O2,g.bg,g.en⟩
  |hand p=>
   cases j:s.rd with
   |nil=>rw[j]at h;cases h
   |cons v c=>rw[j]at h;cases du.inj (h);exact .inl ⟨⟨[],rfl,cK _⟩,⟨[_],rfl,cJ _⟩,rfl,by show r.length<=_;rw[f,aB];lia,by show(v::c).length<=_;rw[j];lia,rfl,fun _=>id⟩
def Gw.bd {d n:Nat} {s:Ms} (g:Gw d s s') (b:Bd n s):Bd (n+ 200) s':=by refine eae b fun o m l k j=>?_;refine eaa g.me fun a f i=>?_;refine eaa g.ha fun c e h=>?_;have:=g.st;have:=g.rd;exact⟨by rw[f,aR];lia,by rw[e,aR];lia,by rw[g.de];lia,O2,O2⟩
def Cz(d:∀c∈a,c.ok) (e:∀c∈a,U0 c) (h:tJ a ho tu s=some s') (b:Bd n s):Bd (n+ 200) s':=by rcases GA d e h with g|⟨_,g|⟨_,g⟩⟩<;>exact g.bd b
def CA (e:Option Str):decide (enV e=V.non)=decide (e=none):=by
 cases e with
 |none=>rfl
 |some x=>rw[hV (fun z=>nomatch z),hV (fun z=>nomatch z)]
def IK {x:V} {t:Stp} (h:Im H x t.d):∃a y,x= .ref a/\match t with
  | .beg p f=>H a=some (.tup [.str "begin",.int p,y])/\Im H y f.d
  | .par p f=>H a=some (.tup [.str "parts",.int p,y])/\Im H y f.d
  | .hand p=>H a=some (.tup [.str "hand",.int p,y]):=by
 have g:∀{m:Str} {p:Int} {d:Dt},Im H x (.tup [sD m,kD p,d])->∃a y,x= .ref a/\H a=some (.tup [.str m,.int p,y])/\Im H y d:=fun h=>by
  cases h with
  |tup e i=>
   cases i with
   |cons b i=>
    cases b
    cases i with
    |cons c i=>
     cases c
     cases i with
     |cons j i=>cases i;exact ii _ _ ⟨rfl,e,j⟩
 cases t with
 |beg p f=>refine eap (g h) fun a y e b c=>?_;exact ii a y ⟨e,b,c⟩
 |par p f=>refine eap (g h) fun a y e b c=>?_;exact ii a y ⟨e,b,c⟩
 |hand p=>refine eap (g h) fun a y e b c=>?_;exact ii a y ⟨e,b⟩
inductive XWs (C CP:Zx) (vs:List V) (H:Hp) (Q:VK):Prop
 |mk (A:Mad) (tu n b:Nat) (s s':Ms) (names:Zd) (roots:List Nat) (ρs:List Ro) (ho:Nat->Option Hm) (e:vs=[.ref A.m]) (M:Mc C H A tu s) (c:Ctx CP H A names roots ρs ho) (hu:∀ρ∈ρs,U0 ρ) (r:Cy ρs ho tu n s s') (hb:Bd b s) (hn:b+ 200*n<=9000000) (q:∀H',Mc C H' A tu s'->FM A H H'->Q .non H')
def KN (C b:Zx):Sp:=fun a H Q _=>XWs C b a H Q
def WsI (C i:Zx) (A:Mad) (d:Nat) (g:Ms) (a:List Ro) (h:Nat->Option Hm) (H:Hp) (m:Nat) (f:St) (e:Hp):Prop:=∃o c b,f=[some (.ref A.m),o]/\Mc C e A d c/\FM A H e/\Cy a h d m c g/\Bd b c/\b+ 200*m<=9000000
def om (T:Txt K mg) (W:Wk P w T):MO P w base mg 9 T.e61 (KN T.c5.a T.c7.a):=by
 have gE63:=oj (base:=base) T W;refine T.e61.F.rd lE fun cdv A0 outer s0 H vs Q E hr h=>?_;obtain⟨A,J,n,b,s,s',B,x,d,Z,rfl,M,c,hu,r,hb,hn,q⟩:=h;refine⟨_,(f9 (ow Mh (PW.pt (nK (si (AX (gR T.c5.cl T.n5end (cv 0)))) (mD (gq qJ (gN gH rfl T.z_len iN (fV (gR T.c5.cl T.n5steps (cv 0)) fY)) fX))))
   (fW (pS (i:=1) lE.nd (uE eS eW eX uF (gR T.c5.cl T.n5steps (cv 0))))
   (f9 (gM (gq iA (gk gB (cv 1) fX) gh)
    (f9 (gK (gY (gS (NS (cv 0)) T.c5.cl T.e62.me (rV T) hr.m T.e62.b .nil ik (fV (gk gB (cv 1) fX) (fV (gk gB (cv 1) fX) fY))))))
    (f9 (gM (gq iA (gk gB (cv 1) fX) gh)
     (f9 (gK (gY (gS (NS (cv 0)) T.c5.cl T.e63.me gE63 hr.m T.e63.b .nil ik (fV (gk gB (cv 1) fX) (fV (gk gB (cv 1) fX) fY))))))
     (f9 (gK (gY (gS (NS (cv 0)) T.c5.cl T.e65.me (gQ T) hr.m T.e65.b .nil ik (fV (gk gB (cv 1) fX) (fV (uE eS eW eX uF (gR T.c5.cl T.n5ready (cv 0))) fY))))))))))))),?_⟩;refine⟨WsI T.c5.a T.c7.a A J s' d Z H,(io n none s b ⟨rfl,M,FM.refl,r,hb,hn⟩),?_⟩;refine fun m σ H2=>fab fun o g b=>fag fun z0 N F2 r hb hn=>?_;subst z0;have c2:=c.fm M F2;refine⟨_,(ii _ _ ⟨N.o,tK⟩),_,rfl,?_⟩;rw[CA]
 cases r with
 |stop hs=>
  by_cases he:s'.en=none;·rw[gT he];have hs:=hs.resolve_left (fun z=>z he);refine eaa N.st fun xs e i=>?_;rw[hs]at i;cases i;refine iK ⟨_,(ii _ _ ⟨N.o,mi⟩),_,_,rfl,.inl (NT e),?_⟩;dsimp only[tC,cI0,onB];rw[hV (show ¬(0:Int)<(([]:List V).length:Int)from fun z=>absurd z O3)];exact ij (q _ N F2)
  ·rw[hV he];exact ij (ij (q _ N F2))
 |@step n _ Y _ h0 h r=>
  rw[gT h0];have hb3:Bd (b+ 200) Y:=Cz c.ok hu h hb;have hbb:Bd 9000000 g:=hb.mono O2;have hn3:b+ 200+ 200*n<=9000000:=O2
  obtain⟨t,G,f⟩:∃t G,g.st=t::G:=by
   cases e:g.st with
   |cons t G=>exact ii t G rfl
   |nil=>unfold tJ at h;rw[gZ (by rw[e];exact fun z=>nomatch z.1)]at h;unfold tI at h;rw[e]at h;cases h
  refine eaj (N.stO f) fun xs y e iy L F3=>?_;have u:∀(o:Option V) C,Mc T.c5.a C A J Y->FM A (NR H2 A.st (.lst xs)) C->WsI T.c5.a T.c7.a A J s' d Z H n [some (.ref A.m),o] C:=fun o C I U=>(iaa o Y (b+ 200) ⟨rfl,I,(F2.trans F3).trans U,r,hb3,hn3⟩);refine iK ⟨_,(ii _ _ ⟨N.o,mi⟩),_,_,rfl,.inl (NT e),?_⟩;dsimp only[tC,cI0,onB];rw[gT (show(0:Int)<((xs++[y]).length:Int) by rw[aR,bc];lia)];refine iK ⟨_,fun σ' C p=>⟨n,cO _,p⟩,_,(ii _ _ ⟨N.o,mi⟩),.inl ⟨rfl,_,NT e⟩,zK e ?_⟩;have iy3:=iy.mono (N.tk F3);have c3:=c2.fm N F3;dsimp only[gU];generalize NR H2 A.st (.lst xs)=H3 at L F3 iy3 c3 u⊢;have S:Bd 9000000 {g with st:=G}:=by refine eae hbb fun b1 b2 b3 b4 b5=>?_;exact⟨b1,b2,b3,by rw[f,aB]at b4;show G.length<=_;lia,b5⟩
  unfold tJ at h;refine eah (IK iy3) fun a z z0 D=>?_;subst z0
  cases t with
  |beg p X=>
   refine Co rfl D.1 gL ⟨(ii _ _ ⟨L.o,iH gL⟩),_,D.1,gf (fZ (j:=1) rfl) ⟨_,D.1,gf (fZ (j:=2) rfl) ?_⟩⟩;by_cases ht:J<=g.bg;·rw[ig ⟨by rw[f];rfl,ht⟩]at h;cases du.inj h;refine⟨A,J,_,p,X,z,.num 0,B,x,d,Z,rfl,L,c3,.inl ht,D.2,S,fun C I U=>u _ C ?_ U⟩;rw[ig (show J<=g.bg from ht)]at I;rw[f];exact I
   ·rw[gZ (fun z=>ht z.2)]at h;unfold tI at h;rw[f]at h;have h:(match atZ d p with|some F=>some {g with bg:=g.bg+ 1,st:=(nJ F).map (fun k=>Stp.beg k X)++ .par p X::G}|none=>none)=some Y:=h
    cases ea:atZ d p with
    |none=>rw[ea]at h;cases h
    |some F=>rw[ea]at h;cases du.inj h;refine⟨A,J,_,p,X,z,F,B,x,d,Z,rfl,L,c3,.inr (qt ea),D.2,S,fun C I U=>u _ C ?_ U⟩;rw[gZ (show ¬J<=g.bg from ht)]at I;exact I
  |par p X=>
   rw[gZ (fun z=>by rw[f]at z;exact nomatch z.1)]at h;unfold tI at h;rw[f]at h;have h:(match atZ d p with|some F=>(match tkR (nJ F).length g.rd []with|some (l,O)=>lj (Z p.toNat) p X F l {g with st:=G,rd:=O}|none=>none)|none=>none)=some Y:=h
   cases ea:atZ d p with
   |none=>rw[ea]at h;cases h
   |some F=>
    rw[ea]at h;refine eaa (qt ea) fun k z0 hk=>?_;subst z0;have h:(match tkR (nJ F).length g.rd []with|some (l,O)=>lj (Z (k:Int).toNat) k X F l {g with st:=G,rd:=O}|none=>none)=some Y:=h
    cases et:tkR (nJ F).length g.rd []with
    |none=>rw[et]at h;cases h
    |some zz=>obtain⟨l,O⟩:=zz;rw[et]at h;refine zL rfl D.1 gL (Co rfl D.1 gL ⟨(ii _ _ ⟨L.o,iH gL⟩),_,D.1,gf (fZ (j:=1) rfl) ⟨_,D.1,gf (fZ (j:=2) rfl) ?_⟩⟩);exact⟨A,J,_,Y,k,X,z,F,l,O,B,x,d,Z,rfl,L,c3,hk,hu F (aQ hk),D.2,S,et,h,fun C I U=>u _ C I U⟩
  |hand p=>
   rw[gZ (fun z=>by rw[f]at z;exact nomatch z.1)]at h;unfold tI at h;rw[f]at h
   cases R:g.rd with
   |nil=>rw[R]at h;cases h
   |cons v O=>rw[R]at h;cases du.inj (show some (lP p v {g with st:=G,rd:=O})=some Y from h);refine eaj (L.rdO (show({g with st:=G}:Ms).rd=v::O from R)) fun xs' y' e' iv M4 F4=>?_;refine zL rfl D gL (zL rfl D gL ⟨(ii _ _ ⟨L.o,iH gL⟩),_,D,gf (fZ (j:=1) rfl) ⟨_,(ii _ _ ⟨L.o,qp⟩),.inl ⟨rfl,_,NT e'⟩,zK e' ?_⟩⟩);refine tN (Q:=fun _ C=>WsI T.c5.a T.c7.a A J s' d Z H n [some (.ref A.m),some (.ref a)] C) M4 ?_ (iv.mono (L.tk F4)) fun C I U=>u _ C I (F4.trans U);refine eae S fun b1 b2 b3 b4 b5=>?_;have b5:g.rd.length<=9000000:=b5;rw[R,aB]at b5;exact⟨cF b1 O3,cF b2 O3,cF b3 O3,cF b4 O3,by show O.length<=_;lia⟩
structure MJ (C dx m:Zx) (H H':Hp) (fs:List (Str×V)) (ls:List Zx):Prop where
 o:H' m=some (.ins C dx fs)
 k:∀z o,H z=some o->z≠m->H' z=some o
 l:∀a∈ls,H' a=some (.lst [])/\H a=none
 n:ls.Nodup
 m0:m∉ls
section
variable {C dx m:Zx} {H H':Hp} {fs:List (Str×V)} {ls:List Zx}
def MJ.fld (j:MJ C dx m H H' fs ls) (c:List (Str×V)):MJ C dx m H (upd H' m (.ins C dx c)) c ls:=⟨f7,fun z o e n=>by rw[gy n];exact j.k z o e n,fun a b=>⟨by rw[gy (fun z=>j.m0 (by rw[<-z];exact b))];exact(j.l a b).1,(j.l a b).2⟩,j.n,j.m0⟩
def MJ.new (j:MJ C dx m H H' fs ls) (k:(H m).isSome=true) {a:Zx} (h:H' a=none):MJ C dx m H (upd H' a (.lst [])) fs (ls++[a]):=by
 have c:a≠m:=fun z=>by rw[z,j.o]at h;cases h
 have f:H a=none:=by
  cases e:H a with
  |none=>rfl
  |some o=>rw[j.k a o e c]at h;cases h
 have d:a∉ls:=fun z=>by rw[(j.l a z).1]at h;cases h
 refine⟨by rw[gy c.symm];exact j.o,fun z o e n=>by rw[gy (gv e f)];exact j.k z o e n,fun b hb=>?_,?_,fun z=>?_⟩
 ·rcases aq.mp hb with hb|hb;·exact⟨by rw[gy (fun z=>d (by rw[<-z];exact hb))];exact(j.l b hb).1,(j.l b hb).2⟩
  ·rw[bo.mp hb];exact⟨f7,f⟩
 ·rw[List.nodup_append];refine⟨j.n,aG.mpr ⟨(fun z=>by cases z),aX⟩,fun x i y g z=>d ?_⟩;rw[bo.mp g]at z;rw[<-z];exact i
 ·rcases aq.mp z with z|z;·exact j.m0 z
  ·exact c (bo.mp z).symm
end
def s0M:Ms:=⟨0,none,[],[],[],[],[]⟩
inductive XMi (C:Zx) (vs:List V) (H:Hp) (Q:VK):Prop
 |mk (m dx p h:Zx) (tu:Int) (e:vs=[.ref m,.ref p,.ref h,.int tu]) (o:H m=some (.ins C dx [])) (q:∀H' me ha de st rd,MJ C dx m H H' (fMc p h tu 0 .non me ha de st rd) [me,ha,de,st,rd]->Q .non H')
def KO (C:Zx):Sp:=fun a H Q _=>XMi C a H Q
def pX (T:Txt K mg):MO P w base mg 1 T.e59 (KO T.c5.a):=by
 refine T.e59.F.rd pJ fun W A0 l Y H X Q E Z h=>?_;obtain⟨m,L,p,h,b,rfl,o,q⟩:=h;refine HzX ?_;intro _;refine⟨_,(fW (jk T.c5.cl T.n5program (js (NS (cv 0)) (NS (cv 1)) rfl))
  (fW (jk T.c5.cl T.n5homes (js (NS (cv 0)) (NS (cv 2)) rfl))
  (fW (jk T.c5.cl T.n5turns (js (NS (cv 0)) (NS (cv 3)) rfl))
  (fW (jk T.c5.cl T.n5begun (js (NS (cv 0)) (NS fX) rfl))
  (fW (jk T.c5.cl T.n5end (js (NS (cv 0)) (NS hG) rfl))
  (fW (jk T.c5.cl T.n5meets (js (NS (cv 0)) (NS (gG fY)) rfl))
  (fW (jk T.c5.cl T.n5had (js (NS (cv 0)) (NS (gG fY)) rfl))
  (fW (jk T.c5.cl T.n5defined (js (NS (cv 0)) (NS (gG fY)) rfl))
  (fW (jk T.c5.cl T.n5steps (js (NS (cv 0)) (NS (gG fY)) rfl))
  (f9 (jk T.c5.cl T.n5ready (js (NS (cv 0)) (NS (gG fY)) rfl)))))))))))),?_⟩;refine Hz9 ?_;intros;have j:(H m).isSome=true:=by rw[o];rfl
 have M:MJ T.c5.a L m H H [] []:=⟨o,fun _ _ e _=>e,fun a c=>(by cases c),aX,fun z=>(by cases z)⟩;refine ii _ _ ⟨o,(by decide),?_⟩;have v:=M.fld (jV "program" (.ref p) []);dsimp only;generalize upd H m (.ins T.c5.a L (jV "program" (.ref p) []))=H1 at v⊢;refine ii _ _ ⟨v.o,(by show 1<1000;decide),?_⟩;have t:=v.fld (jV "homes" (.ref h) (jV "program" (.ref p) []));dsimp only;generalize upd H1 m _=H2 at t⊢;refine ii _ _ ⟨t.o,(by show 2<1000;decide),?_⟩;have s:=t.fld (jV "turns" (.int b) (jV "homes" (.ref h) (jV "program" (.ref p) [])));dsimp only;generalize upd H2 m _=H3 at s⊢;refine ii _ _ ⟨s.o,(by show 3<1000;decide),?_⟩;have r:=s.fld (jV "begun" (.int 0) (jV "turns" (.int b) (jV "homes" (.ref h) (jV "program" (.ref p) []))));dsimp only;generalize upd H3 m _=H4 at r⊢;refine ii _ _ ⟨r.o,(by show 4<1000;decide),?_⟩;have U:jV "end" .non (jV "begun" (.int 0) (jV "turns" (.int b) (jV "homes" (.ref h) (jV "program" (.ref p) []))))=([("program",.ref p),("homes",.ref h),("turns",.int b),("begun",.int 0),("end",.non)]:List (Str×V)):=O1
 have n:=r.fld (jV "end" .non (jV "begun" (.int 0) (jV "turns" (.int b) (jV "homes" (.ref h) (jV "program" (.ref p) [])))));dsimp only;generalize upd H4 m _=H5 at n⊢;rw[U]at n;refine⟨p7,fun d S=>?_⟩;have D:=n.new j S;refine ii _ _ ⟨D.o,(by show 5<1000;decide),?_⟩;have J:=D.fld (jV "meets" (.ref d) [("program",.ref p),("homes",.ref h),("turns",.int b),("begun",.int 0),("end",.non)]);dsimp only;generalize upd (upd H5 d _) m _=H6 at J⊢;refine⟨p7,fun c R=>?_⟩;have C:=J.new j R;refine ii _ _ ⟨C.o,(by show 6<1000;decide),?_⟩;have I:=C.fld (jV "had" (.ref c) (jV "meets" (.ref d) [("program",.ref p),("homes",.ref h),("turns",.int b),("begun",.int 0),("end",.non)]));dsimp only;generalize upd (upd H6 c _) m _=H7 at I⊢;refine⟨p7,fun f O=>?_⟩;have B:=I.new j O;refine ii _ _ ⟨B.o,(by show 7<1000;decide),?_⟩;have G:=B.fld (jV "defined" (.ref f) (jV "had" (.ref c) (jV "meets" (.ref d) [("program",.ref p),("homes",.ref h),("turns",.int b),("begun",.int 0),("end",.non)])));dsimp only;generalize upd (upd H7 f _) m _=H8 at G⊢;refine⟨p7,fun g N=>?_⟩;have A:=G.new j N;refine ii _ _ ⟨A.o,(by show 8<1000;decide),?_⟩;have F:=A.fld (jV "steps" (.ref g) (jV "defined" (.ref f) (jV "had" (.ref c) (jV "meets" (.ref d) [("program",.ref p),("homes",.ref h),("turns",.int b),("begun",.int 0),("end",.non)]))));dsimp only;generalize upd (upd H8 g _) m _=H9 at F⊢;refine⟨p7,fun k x=>?_⟩;have i:=F.new j x;refine ii _ _ ⟨i.o,(by show 9<1000;decide),?_⟩;refine q _ d c f g k ?_;have u:=i.fld (fMc p h b 0 .non d c f g k);have y:jV "ready" (.ref k) (jV "steps" (.ref g) (jV "defined" (.ref f) (jV "had" (.ref c) (jV "meets" (.ref d) [("program",.ref p),("homes",.ref h),("turns",.int b),("begun",.int 0),("end",.non)]))))=fMc p h b 0 .non d c f g k:=O1
 rw[y];exact u
def fRn (c v:V) (a b:Zx) (d:Int):List (Str×V):=[("end",c),("value",v),("meets",.ref a),("had",.ref b),("begun",.int d)]
inductive XRi (C:Zx) (vs:List V) (H:Hp) (Q:VK):Prop
 |mk (m dx me ha:Zx) (en v:V) (bg:Int) (e:vs=[.ref m,en,v,.ref me,.ref ha,.int bg]) (o:H m=some (.ins C dx [])) (q:∀H',H' m=some (.ins C dx (fRn en v me ha bg))->(∀z o,H z=some o->z≠m->H' z=some o)->Q .non H')
def IL (C:Zx):Sp:=fun a H Q _=>XRi C a H Q
def tR (T:Txt K mg):MO P w base mg 1 T.e70 (IL T.c6.a):=by
 refine T.e70.F.rd tj fun d r b g H f Q E j h=>?_;obtain⟨m,c,i,k,n,v,p,rfl,o,q⟩:=h;refine HzX ?_;intro _;refine⟨_,(fW (jk T.c6.cl T.n6end (js (NS (cv 0)) (NS (cv 1)) rfl))
  (fW (jk T.c6.cl T.n6value (js (NS (cv 0)) (NS (cv 2)) rfl))
  (fW (jk T.c6.cl T.n6meets (js (NS (cv 0)) (NS (cv 3)) rfl))
  (fW (jk T.c6.cl T.n6had (js (NS (cv 0)) (NS (cv 4)) rfl))
  (f9 (jk T.c6.cl T.n6begun (js (NS (cv 0)) (NS (cv 5)) rfl))))))),?_⟩;refine Hz4 ?_;intros;refine ii _ _ ⟨o,(by decide),_,_,f7,(by show 1<1000;decide),_,_,f7,(by show 2<1000;decide),_,_,f7,(by show 3<1000;decide),_,_,f7,(by show 4<1000;decide),?_⟩;refine q _ ?_ fun z o e a=>?_;·rw[f7];exact congrArg (fun l=>some (HO.ins T.c6.a c l)) O1
 ·rw[gy a,gy a,gy a,gy a,gy a];exact e
def Cy.bd {j:Nat->Option Hm} {e n:Nat} {s:Ms} (f:∀c∈a,c.ok) (i:∀c∈a,U0 c) (r:Cy a j e n s s'):∀{b:Nat},Bd b s->Bd (b+ 200*n) s':=by
 induction r with
 |stop h=>exact fun d=>d
 |step k h r g=>exact fun d=>(g (Cz f i h d)).mono O2
inductive uo (ρs:List Ro) (ho:Nat->Option Hm) (tu:Nat):Nat->List Nat->Ms->Ms->Prop
 |done {s:Ms}:uo ρs ho tu 0 [] s {s with en:=some "done"}
 |ends {n r:Nat} {rs:List Nat} {s s':Ms} (h:Cy ρs ho tu n {s with st:= .beg (r:Int) .nil::s.st} s') (he:s'.en≠none):uo ρs ho tu n (r::rs) s s'
 |next {n m r:Nat} {rs:List Nat} {s s' s2:Ms} {v:Vl} {rd:List Vl} (h:Cy ρs ho tu n {s with st:= .beg (r:Int) .nil::s.st} s') (he:s'.en=none) (hr:s'.rd=v::rd) (t:uo ρs ho tu m rs {s' with rd:=rd,de:=s'.de++[v]} s2):uo ρs ho tu (n+m+ 3) (r::rs) s s2
def CB(a:List α) (y:α):atI (a++[y]) (-1)=some y:=by unfold atI ixN;rw[gZ O3,aR,bc,ig O2,show((-1:Int)+((a.length+ 1:Nat):Int)).toNat=a.length by lia];show(a++[y])[a.length]?=_;rw[aN (cJ _),cX];rfl
inductive XPg (C CP:Zx) (vs:List V) (H:Hp) (Q:VK):Prop
 |mk (A:Mad) (tu n b:Nat) (s s':Ms) (names:Zd) (roots:List Nat) (ρs:List Ro) (ho:Nat->Option Hm) (e:vs=[.ref A.m]) (M:Mc C H A tu s) (c:Ctx CP H A names roots ρs ho) (hu:∀ρ∈ρs,U0 ρ) (r:uo ρs ho tu n roots s s') (hb:Bd b s) (hn:b+ 200*n<=8000000) (q:∀H',Mc C H' A tu s'->FM A H H'->Q .non H')
def KP (C b:Zx):Sp:=fun a H Q _=>XPg C b a H Q
def PgI (C:Zx) (A:Mad) (e:Nat) (h:Ms) (a:List Nat) (c:List Ro) (j:Nat->Option Hm) (H:Hp) (i:Nat) (g:St) (f:Hp):Prop:=∃o d b m,g=[some (.ref A.m),o]/\Mc C f A e d/\FM A H f/\uo c j e m (a.drop i) d h/\Bd b d/\b+ 200*m<=8000000
def nv (T:Txt K mg) (W:Wk P w T):MO P w base mg 10 T.e60 (KP T.c5.a T.c7.a):=by
 have G:=om (base:=base) T W;refine T.e60.F.rd kK fun cdv A0 S s0 H vs Q E hr h=>?_;obtain⟨A,O,n,b,s,s',f,d,k,V,rfl,M,c,U,r,x,X,q⟩:=h;refine HzX ?_;intro _;refine⟨_,(fW (jX Mh rfl (ke (gR T.c7.cl T.n7roots (gR T.c5.cl T.n5program (cv 0)))) (pN (i:=1) kK.nd)
   (fW (gK (iW (jG eS eU eV gX (NS (gR T.c5.cl T.n5steps (cv 0))) (fV (NS (iB (fV gh (fV (cv 1) (fV hG fY))))) fY))))
   (fW (gK (gY (jJ (NS (cv 0)) T.c5.cl T.e61.me G hr.m T.e61.b .nil ik)))
   (fW (gM (si (Fg (gR T.c5.cl T.n5end (cv 0))))
    (f9 AZ)
    gA)
   (f9 (gK (iW (jG eS eU eV gX (NS (gR T.c5.cl T.n5defined (cv 0))) (fV (NS (uE eS eW eX uF (gR T.c5.cl T.n5ready (cv 0)))) fY)))))))))
  (f9 (jk T.c5.cl T.n5end (js (NS (cv 0)) (NS gh) rfl)))),?_⟩;have sl:=L9;refine eao c.p fun na rl w dx xs=>faj fun R n1 n2 n3 n4=>?_;refine⟨_,(ii _ _ ⟨M.o,pR⟩),_,(ii _ _ ⟨R.o,r6 _ _ _⟩),_,rfl,⟨_,NT R.r⟩,lQ (PgI T.c5.a A O s' d k V H) (io none s b n ⟨rfl,M,FM.refl,r,x,X⟩) (fun i σ L _ ⟨_,_,_,_,_,_,F,_⟩=>NT (F.get R.r n3)) ?_ ?_⟩
 ·refine fun i v σ L hx=>fal fun o B b m=>fag fun y p N r x X=>?_;subst y;rw[aP]at hx;refine eaa (dA.mp hx) fun j hj y=>?_;subst y;have Z:d.drop i=j::d.drop (i+ 1):=by obtain⟨z1,z2⟩:=av.mp hj;rw[bS z1,z2]
  rw[Z]at r;have c2:=c.fm M N;refine eaa p.st fun ys e _=>?_;have b4:=x.2.2.2.1;have b3:=x.2.2.1;refine⟨_,(ii _ _ ⟨p.o,mi⟩),⟨_,e⟩,lC,fun a ha=>?_⟩;have S1:=gb ha (.tup [.str "begin",.int (j:Int),.non]);have J:=p.same S1;have i1:Im (NR L a (.tup [.str "begin",.int (j:Int),.non])) (.ref a) (Stp.beg (j:Int) .nil).d:=by rw[Stp.d,Ev.d];exact oa ha (.cons (.flat rfl) (.cons (.flat rfl) (.cons (.flat rfl) .nil)))
  refine eau (J.stP i1) fun z e1 l1 I F4=>?_;refine⟨z,e1,O2,?_⟩;have u:=(N.trans (FM.same S1)).trans F4;have c4:=(c2.fm p (FM.same S1)).fm J F4;dsimp only[nI];generalize NR (NR L a (.tup [.str "begin",.int (j:Int),.non])) A.st (.lst (z++[.ref a]))=H4 at I F4 u c4⊢;have l:Bd (b+ 1) {B with st:= .beg (j:Int) .nil::B.st}:=by refine eae x fun b1 b2 b3 b4 b5=>?_;exact⟨by lia,by lia,by lia,by show(_::B.st).length<=_;rw[aB];lia,by lia⟩
  cases r with
  |ends h Y=>refine⟨(ii _ _ ⟨I.o,iH gL⟩),A,O,m,b+ 1,_,s',f,d,k,V,rfl,I,c4,U,h,l,O2,fun H5 g F5=>?_⟩;refine⟨_,(ii _ _ ⟨g.o,tK⟩),_,rfl,?_⟩;rw[CA,hV Y];exact iK (q _ g (u.trans F5))
  |@next n0 m0 _ _ _ s5 _ v rd h Y C t=>
   refine⟨(ii _ _ ⟨I.o,iH gL⟩),A,O,n0,b+ 1,_,s5,f,d,k,V,rfl,I,c4,U,h,l,O2,fun H5 g F5=>?_⟩;have D:=h.bd c.ok U l;refine⟨_,(ii _ _ ⟨g.o,tK⟩),_,rfl,?_⟩;rw[CA,gT Y];refine eaa g.de fun zs ez _=>?_;refine eaj (g.rdO C) fun xs' y' e' iv M6 F6=>?_;refine eau (M6.deP (iv.mono (g.tk F6))) fun zs ez6 lz M7 F7=>?_;have ld:=D.2.2.1;refine ij ⟨_,(ii _ _ ⟨g.o,pQ⟩),⟨_,ez⟩,_,(ii _ _ ⟨g.o,qp⟩),.inl ⟨rfl,_,NT e'⟩,zK e' ⟨zs,ez6,?_,?_⟩⟩;·rw[lz];lia
   ·refine io _ _ (b+ 1+ 200*n0+ 1) m0 ⟨rfl,M7,((u.trans F5).trans F6).trans F7,t,?_,O2⟩;refine eae D fun b1 b2 b3 b4 b5=>?_;rw[C,aB]at b5;exact⟨by lia,by lia,by show(s5.de++[v]).length<=_;rw[aR,bc];lia,by lia,by lia⟩
 ·refine fun σ L=>fal fun o B b m=>fag fun y p N r x X=>?_;subst y;rw[aE,bZ]at r;cases r;obtain⟨J,F3⟩:=p.setO B.bg (some "done");refine ii _ _ ⟨p.o,by show 10<1000;decide,?_⟩;rw[r8];exact q _ J (N.trans F3)
structure RnA (C:Zx) (H0 H:Hp) (r:Zx) (s:Ms):Prop where
 o:∃dx v me ha,(H0 me=none/\H0 ha=none/\me≠ha)/\H r=some (.ins C dx (fRn (enV s.en) v me ha s.bg))/\(∃xs,H me=some (.lst xs)/\Ims H xs (s.me.reverse.map meD))/\(∃xs,H ha=some (.lst xs)/\Ims H xs (s.ha.reverse.map haD))/\(s.en≠some ("done":Str)->v= .non)/\∀u,s.en=some ("done":Str)->s.de.getLast?=some u->Im H v u.d
inductive XRn (C CP:Zx) (vs:List V) (H:Hp) (Q:VK):Prop
 |mk (p h n0 r0 w0 dx:Zx) (tu n:Nat) (xs hs:List V) (s':Ms) (names:Zd) (roots:List Nat) (ρs:List Ro) (ho:Nat->Option Hm) (e:vs=[.ref p,.ref h,.int (tu:Int)]) (pr:PrA CP H p n0 r0 w0 dx xs names roots ρs) (eh:H h=some (.lst hs)) (ih:∀(k:Nat) (ρ:Ro),ρs[k]?=some ρ->∃y,hs[k]?=some y/\Im H y (hoD (ho k))) (ok:∀ρ∈ρs,ρ.ok) (hu:∀ρ∈ρs,U0 ρ) (r:uo ρs ho tu n roots s0M s') (hn:200*n<=8000000) (he:∃e,s'.en=some e) (hd:s'.en=some ("done":Str)->s'.de≠[]) (q:∀r H',gJ H H'->H r=none->RnA C H H' r s'->Q (.ref r) H')
def KQ (C b:Zx):Sp:=fun a H Q _=>XRn C b a H Q
def IM (T:Txt K mg) (W:Wk P w T):FO P w base 11 T.d22 (KQ T.c6.a T.c7.a):=by
 have J:=nv (base:=base) T W;refine T.d22.F.rd B1 fun cdv A0 outer s0 H vs Q E hr h=>?_;obtain⟨p,h,n0,r0,w0,dx,N,n,xs,hs,x,f,d,G,ho,rfl,I,eh,ih,ok,hu,r,hn,⟨en,he⟩,hd,q⟩:=h;refine HzX ?_;intro _;refine⟨_,(fW (pS (i:=3) B1.nd (va T.mk5 (pX T) hr.m rfl T.c5.m T.e59.b .nil ik (fV (cv 0) (fV (cv 1) (fV (cv 2) fY)))))
  (fW (gK (gY (jJ (NS (cv 3)) T.c5.cl T.e60.me J hr.m T.e60.b .nil ik)))
  (fW (pS (i:=4) B1.nd (ot (gq iA (gR T.c5.cl T.n5end (cv 3)) gh) (gk gi (gR T.c5.cl T.n5defined (cv 3)) (Fj A7 fX)) hG))
  (f9 (gC (va T.mk6 (tR T) hr.m rfl T.c6.m T.e70.b .nil ik (fV (gR T.c5.cl T.n5end (cv 3)) (fV (cv 4) (fV (gR T.c5.cl T.n5meets (cv 3)) (fV (gR T.c5.cl T.n5had (cv 3)) (fV (gR T.c5.cl T.n5begun (cv 3)) fY))))))))))),?_⟩;refine Hz3 ?_;intros;intro m V hm hmx nmx;have S0:gJ H (upd (upd H V (.own m)) m (.ins T.c5.a V [])):=ip (ip (fun _ _ e=>e) hmx _) hm _;refine⟨m,V,p,h,(N:Int),rfl,f7,fun H1 C g X O U j=>⟨rfl,?_⟩⟩;have S1:gJ H H1:=fun b o e=>j.k b o (S0 b o e) (gv e hm);have l0:∀a∈[C,g,X,O,U],H a=none:=fun a g=>S0.free (j.l a g).2;let A:Mad:=⟨m,V,p,h,C,g,X,O,U⟩;have c:∀{a:Zx} {o:HO},H a=some o->a∉A.all:=fun{a o} e z=>by
  rcases ao.mp z with z|z;·rw[z,hm]at e;cases e
  ·rw[l0 a z]at e;cases e
 have M:∀a∈[C,g,X,O,U],H1 a=some (.lst []):=fun a g=>(j.l a g).1;have M1:Mc T.c5.a H1 A N s0M:=⟨j.o,⟨_,M C O4,.nil⟩,⟨_,M g O4,.nil⟩,⟨_,M X O4,.nil⟩,⟨_,M O O4,.nil⟩,⟨_,M U O4,.nil⟩,j.n⟩;have k1:=gJ.tk S1;have c1:Ctx T.c7.a H1 A f d G ho:=⟨(iab n0 r0 w0 dx xs ⟨I.same S1,c I.o,c I.n,c I.r,c I.w⟩),⟨hs,S1 _ _ eh,c eh,fun k ρ e=>let⟨y,a,b⟩:=ih k ρ e;⟨y,a,b.mono k1⟩⟩,ok⟩;dsimp only[gU];refine⟨(ii _ _ ⟨M1.o,iH gL⟩),A,N,n,0,s0M,x,f,d,G,ho,rfl,M1,c1,hu,r,⟨cJ _,cJ _,cJ _,cJ _,cJ _⟩,O2,fun F t F2=>?_⟩;have S2:gJ H F:=fun b o e=>F2.get (S1 b o e) (c e);have L:∀v,(x.en≠some ("done":Str)->v= .non)->(∀u,x.en=some ("done":Str)->x.de.getLast?=some u->Im F v u.d)->Eh (HF T.c6.a (IL T.c6.a) [] E0 (kP (Hi T.c5.a "end" (cV 3)) (kP (cV 4) (kP (Hi T.c5.a "meets" (cV 3)) (kP (Hi T.c5.a "had" (cV 3)) (kP (Hi T.c5.a "begun" (cV 3)) x8)))))) {nx:=fun _ H'=>Q .non H',rt:=Q} [some (.ref p),some (.ref h),some (.int N),some (.ref m),some v] F:=fun v h1 h2=>by refine⟨_,(ii _ _ ⟨t.o,tK⟩),_,(ii _ _ ⟨t.o,xr⟩),_,(ii _ _ ⟨t.o,Cf⟩),_,(ii _ _ ⟨t.o,tL⟩),fun S R D hrx nrx=>?_⟩;have S3:gJ F (upd (upd F R (.own S)) S (.ins T.c6.a R [])):=ip (ip (fun _ _ e=>e) hrx _) D _;refine⟨S,R,C,g,enV x.en,v,(x.bg:Int),rfl,f7,fun H4 e4 k4=>⟨rfl,?_⟩⟩;have Z:gJ F H4:=fun b o e=>k4 b o (S3 b o e) (gv e D);refine eaa t.me fun xs1 e1 i1=>?_;refine eaa t.ha fun xs2 e2 i2=>?_;have B:=gJ.tk Z;exact q S H4 (S2.trans Z) (S2.free D) ⟨R,v,C,g,⟨l0 C O4,l0 g O4,M1.nds.1.1⟩,e4,⟨xs1,Z _ _ e1,i1.mono B⟩,⟨xs2,Z _ _ e2,i2.mono B⟩,h1,fun u a b=>(h2 u a b).mono B⟩
 refine⟨_,(ii _ _ ⟨t.o,tK⟩),?_⟩;by_cases hdn:x.en=some ("done":Str);·refine eaq (show ∃l u,x.de=l++[u] from (ii _ _ ((bO (hd hdn)).symm))) fun l u hl=>?_;refine eaa t.de fun zs ez iz=>?_;rw[hl]at iz;refine eap (vR iz) fun ys y z0 _ iy=>?_;subst z0;rw[hdn];dsimp only[tC,cEq,onB,enV];rw[gT rfl];refine iK ⟨_,(ii _ _ ⟨t.o,pQ⟩),_,rfl,_,ez,gf (CB ys y) ?_⟩;dsimp only[gU];exact L y (fun n=>absurd hdn n) fun u' _ e=>by rw[hl,List.getLast?_concat]at e;cases e;exact iy
 ·rw[he];dsimp only[tC,cEq,onB,enV];rw[hV (fun z=>hdn (by rw[he,z]))];refine ij ?_;dsimp only[gU];exact L .non (fun _=>rfl) (fun u e=>absurd e hdn)
open TM.Internal (Kn Tr i6 szs oks)
abbrev Gl:=List (Ro×(Str->Option Hm))
noncomputable def roK:Kn->List Nat->Ro
 | .num n,_=> .num n
 | .name w,_=> .name w
 | .fn w,p::_=> .fn w p
 | .tag w,p::_=> .tag w p
 | .lt w,p::q::_=> .lt w p q
 | .get w,p::_=> .get p w
 | .rcd l,a=> .rcd ((l.zip a).map fun q=>(q.1,(q.2:Int)))
 | .case l,p::a=> .case p ((l.zip a).map fun q=>(q.1.1,q.1.2,(q.2:Int)))
 | .row _,a=> .row (a.map fun p:Nat=>(p:Int))
 | .op s _,a=> .op s (a.map fun p:Nat=>(p:Int))
 |_,_=> .num 0
mutual
def plT:Tr->Nat->(Str->Option Hm)->Gl
 | .mk κ ks,p,g=>(roK κ (i6 ks (p+ 1)),g)::D7 ks (p+ 1) (roK κ (i6 ks (p+ 1))).ex g
def D7:List Tr->Nat->List (Option (Str×Hm))->(Str->Option Hm)->Gl
 |[],_,_,_=>[]
 |t::ts,p,es,g=>plT t p (exG g (es.headD none))++D7 ts (p+t.sz) es.tail g
end
mutual
def PlT (G:Gl):Tr->Nat->(Str->Option Hm)->Prop
 | .mk κ ks,p,g=>G[p]?=some (roK κ (i6 ks (p+ 1)),g)/\EM G ks (p+ 1) (roK κ (i6 ks (p+ 1))).ex g
def EM (G:Gl):List Tr->Nat->List (Option (Str×Hm))->(Str->Option Hm)->Prop
 |[],_,_,_=>True
 |t::ts,p,es,g=>PlT G t p (exG g (es.headD none))/\EM G ts (p+t.sz) es.tail g
end
mutual
theorem vV:∀(t:Tr) (p:Nat) (g:Str->Option Hm),(plT t p g).length=t.sz
 | .mk κ ks,p,g=>by rw[plT,aB,zP,Tr.sz];lia
theorem zP:∀(ts:List Tr) (p:Nat) (es:List (Option (Str×Hm))) (g:Str->Option Hm),(D7 ts p es g).length=szs ts
 |[],_,_,_=>rfl
 |t::ts,p,es,g=>by rw[D7,aR,vV,zP,szs]
end
mutual
theorem EN:∀(t:Tr) {p:Nat} {g:Str->Option Hm} {G l1 l2:Gl},G=l1++(plT t p g++l2)->l1.length=p->PlT G t p g
 | .mk κ ks,p,g,G,l1,l2,e,h=>by rw[plT]at e;refine⟨?_,CC ks (l1:=l1++[_]) (l2:=l2) (by rw[e,bU];rfl) (by rw[aR,h];rfl)⟩;rw[e,aN O2,h,cX];rfl
theorem CC:∀(ts:List Tr) {p:Nat} {es:List (Option (Str×Hm))} {g:Str->Option Hm} {G l1 l2:Gl},G=l1++(D7 ts p es g++l2)->l1.length=p->EM G ts p es g
 |[],_,_,_,_,_,_,_,_=>trivial
 |t::ts,p,es,g,G,l1,l2,e,h=>by rw[D7,bU]at e;exact⟨EN t e h,CC ts (l1:=l1++_) (l2:=l2) (by rw[e,bU]) (by rw[aR,h,vV])⟩
end
theorem CD:∀{f:List Tr} {p:Nat} {d:List (Option (Str×Hm))} {g:Str->Option Hm} {j c:Nat},EM G f p d g->(i6 f p)[j]?=some c->∃t,f[j]?=some t/\PlT G t c (exG g (d[j]?.getD none))/\p<=c/\c+t.sz<=p+szs f
 |[],p,d,g,j,c,_,h=>by cases h
 |t::f,p,d,g,0,c,a,h=>by
  cases h;refine⟨t,rfl,?_,cJ _,by rw[szs];lia⟩;have e:d[0]?.getD none=d.headD none:=by cases d<;>rfl
  rw[e];exact a.1
 |t::f,p,d,g,j+ 1,c,a,h=>by
  refine eau (CD a.2 (show(i6 f (p+t.sz))[j]?=some c from h)) fun k e b m l=>?_;refine⟨k,e,?_,O2,by rw[szs];lia⟩;have e:d.tail[j]?=d[j+ 1]?:=by cases d<;>simp
  rw[<-e];exact b
noncomputable def bnK:Kn->List (Option Str)
 | .fn w=>[some w]
 | .lt w=>[none,some w]
 | .case l=>none::l.map fun a=>some a.2
 |_=>[]
def adN (N:Str->Prop):Option Str->Str->Prop
 |none=>N
 |some w=>fun u=>u=w\/N u
def ndK:Kn->(Str->Prop)->Prop
 | .name w,N=>N w
 | .rcd l,_=>l.Nodup
 | .case l,_=>(l.map Mb).Nodup
 |_,_=>True
mutual
def okN:Tr->(Str->Prop)->Prop
 | .mk κ ks,N=>ndK κ N/\wm ks (bnK κ) N
def wm:List Tr->List (Option Str)->(Str->Prop)->Prop
 |[],_,_=>True
 |t::ts,bs,N=>okN t (adN N (bs.headD none))/\wm ts bs.tail N
end
def zQ(h:∀w,N w->M w) (x:Option Str):∀w,adN N x w->adN M x w:=fun w a=>by
 cases x with
 |none=>exact h w a
 |some z=>exact a.imp_right (h w)
mutual
theorem lR:∀(t:Tr) {N M:Str->Prop},(∀w,N w->M w)->okN t N->okN t M
 | .mk κ ks,N,M,h,a=>by
  unfold okN at a⊢;refine⟨?_,xD ks h a.2⟩;have a1:=a.1
  cases κ with
  |name w=>exact h w a1
  |_=>exact a1
theorem xD:∀(ts:List Tr) {bs:List (Option Str)} {N M:Str->Prop},(∀w,N w->M w)->wm ts bs N->wm ts bs M
 |[],_,_,_,_,_=>by unfold wm;trivial
 |t::ts,bs,N,M,h,a=>by unfold wm at a⊢;exact⟨lR t (zQ h _) a.1,xD ts h a.2⟩
end
theorem CF:∀{c:List Tr} {b:List (Option Str)} {N:Str->Prop} {j:Nat} {t:Tr},wm c b N->c[j]?=some t->okN t (adN N (b[j]?.getD none))
 |[],_,_,j,t,_,h=>by cases h
 |t::c,b,N,0,_,a,h=>by
  cases h;unfold wm at a;have e:b[0]?.getD none=b.headD none:=by cases b<;>rfl
  rw[e];exact a.1
 |t::c,b,N,j+ 1,t',a,h=>by
  unfold wm at a;have e:b.tail[j]?=b[j+ 1]?:=by cases b<;>simp
  have:=CF a.2 (h);rw[e]at this;exact this
theorem EO:∀{b:List Tr} {j:Nat} {t:Tr},oks b->b[j]?=some t->t.ok
 |[],j,t,_,h=>by cases h
 |t::b,0,_,a,h=>by cases h;unfold oks at a;exact a.1
 |t::b,j+ 1,t',a,h=>by unfold oks at a;exact EO a.2 h
def dom (g:Str->Option Hm) (w:Str):Prop:=g w≠none
def ER{e:Option (Str×Hm)} (h:e.map Mb=b) (w:Str) (a:adN (dom g) b w):dom (exG g e) w:=by
 subst h
 cases e with
 |none=>exact a
 |some x=>
  unfold dom exG wid;dsimp only;split;·exact fun z=>nomatch z
  ·rename_i n;rcases a with a|a;·exact absurd a n
   ·exact a
theorem yN {b:Type}:∀(l:List b) (a:List Nat),a.length=l.length->(l.zip a).map (fun q=>(q.2:Int))=a.map (fun p:Nat=>(p:Int))
 |[],[],_=>rfl
 |_::l,p::a,h=>congrArg ((p:Int)::·) (yN l a (da.inj h))
def xE(h:ps.length=κ.ar):(roK κ ps).pl=ps.map (fun p:Nat=>(p:Int))/\∀j:Nat,((roK κ ps).ex[j]?.getD none).map Mb=(bnK κ)[j]?.getD none:=by
 have c:∀(l:List Int) j,((l.map fun _=>(none:Option (Str×Hm)))[j]?.getD none).map Mb=none:=fun l j=>by rw[aP];cases l[j]?<;>rfl
 cases κ with
 |num n=>cases bW h;exact⟨rfl,c _⟩
 |name w=>cases bW h;exact⟨rfl,c _⟩
 |fn w=>obtain⟨a,rfl⟩:=bF.mp h;exact⟨rfl,fun j=>by match j with|0=>rfl|j+ 1=>rfl⟩
 |tag w=>obtain⟨a,rfl⟩:=bF.mp h;exact⟨rfl,c _⟩
 |get w=>obtain⟨a,rfl⟩:=bF.mp h;exact⟨rfl,c _⟩
 |lt w=>
  match ps,h with
  |[a,b],_=>exact⟨rfl,fun j=>by match j with|0=>rfl|1=>rfl|j+ 2=>rfl⟩
 |rcd l=>exact⟨(bH ..).trans (yN l ps h),c _⟩
 |row m=>exact⟨rfl,c _⟩
 |op s m=>exact⟨rfl,c _⟩
 |case l=>
  match ps,h with
  |p::ps,h=>
   have h:=da.inj h;refine⟨?_,fun j=>?_⟩;·show(p:Int)::((l.zip ps).map fun q=>(q.1.1,q.1.2,(q.2:Int))).map (fun q=>q.2.2)=_;rw[bH,aD];exact congrArg ((p:Int)::·) (yN l ps h)
   ·match j with
    |0=>rfl
    |j+ 1=>
     show((((l.zip ps).map fun q=>(q.1.1,q.1.2,(q.2:Int))).map fun p=>some (p.2.1,(("arm":Str),p.2.2)))[j]?.getD none).map Mb=((l.map fun a=>some a.2)[j]?).getD none;rw[aP,aP,aP];by_cases z:j<l.length;·rw[bE (show j<(l.zip ps).length by rw[b6];lia),bE z,List.getElem_zip];rfl
     ·rw[bL (show(l.zip ps).length<=j by rw[b6];lia),bL O2];rfl
def Bnd (p:Nat) (g:Str->Option Hm):Prop:=∀w k q,g w=some (k,q)->k≠"def"->q<=(p:Int)
def Bnd.ex {p c:Nat} {g:Str->Option Hm} (h:Bnd p g) (l:p<=c) {e:Option (Str×Hm)} (d:∀w k x,e=some (w,(k,x))->x<=(c:Int)):Bnd c (exG g e):=fun u k q a n=>by
 have b:g u=some (k,q)->q<=(c:Int):=fun a=>Int.le_trans (h u k q a n) (Int.ofNat_le.mpr l)
 cases e with
 |none=>exact b a
 |some x=>
  have a:(if u=x.1 then some x.2 else g u)=some (k,q):=a;split at a;·exact d x.1 k q (by rw[<-du.inj a])
  ·exact b a
def KR(g:(i6 t p).length=κ.ar) (f:(i6 t p)[j]?=some c) (l:p<=c) (d:(roK κ (i6 t p)).ex[j]?.getD none=some (w,(k,x))):x<=(c:Int):=by
 have n:∀a r,i6 t p=a::r->a=p:=fun a r e=>by
  cases t with
  |nil=>cases e
  |cons t o=>cases e;rfl
 generalize i6 t p=ps at g f d n;have m:∀l:List Int,(l.map fun _=>(none:Option (Str×Hm)))[j]?.getD none=some (w,(k,x))->x<=(c:Int):=fun l e=>by rw[aP]at e;cases h:l[j]?<;>rw[h]at e<;>cases e
 cases κ with
 |fn u=>
  obtain⟨a,rfl⟩:=bF.mp g;match j,f,d with
  |0,f,d=>cases f;cases d;exact Int.le_refl _
 |lt u=>
  match ps,g,j,f,d with
  |[a,b],_,1,f,d=>have e:=n a _ rfl;cases f;cases d;lia
 |case r=>
  match ps,g,j,f,d with
  |q::ps,g,j+ 1,f,d=>
   have f:ps[j]?=some c:=f;have d:((((r.zip ps).map fun q=>(q.1.1,q.1.2,(q.2:Int))).map fun p=>some (p.2.1,(("arm":Str),p.2.2)))[j]?).getD none=some (w,(k,x)):=d;rw[aP,aP]at d
   cases e:(r.zip ps)[j]? with
   |none=>rw[e]at d;cases d
   |some z=>rw[e]at d;have:=(cn.mp e).2;rw[f]at this;cases this;cases d;exact Int.le_refl _
 |num i=>cases bW g;cases f
 |name i=>cases bW g;cases f
 |tag i=>obtain⟨a,rfl⟩:=bF.mp g;exact m _ d
 |get i=>obtain⟨a,rfl⟩:=bF.mp g;exact m _ d
 |_=>exact m _ d
def AtG (G:Gl) (p:Nat) (t:Tr) (g:Str->Option Hm):Prop:=PlT G t p g/\t.ok/\okN t (dom g)/\Bnd p g
def AtG.kid {G:Gl} {p:Nat} {l:Kn} {i:List Tr} {g:Str->Option Hm} (h:AtG G p (.mk l i) g) {j c:Nat} (m:(i6 i (p+ 1))[j]?=some c):∃t,i[j]?=some t/\AtG G c t (exG g ((roK l (i6 i (p+ 1))).ex[j]?.getD none))/\p<c/\c+t.sz<=p+(Tr.mk l i).sz:=by
 refine ean h fun a b d f=>?_;unfold PlT at a;unfold NY at b;unfold okN at d;refine eau (CD a.2 m) fun t e x o q=>?_;have n:(i6 i (p+ 1)).length=l.ar:=by rw[N0];exact b.2.1
 refine⟨t,e,⟨x,EO b.2.2 e,lR t (ER ?_) (CF d.2 e),f.ex O2 fun w k x z=>KR n m o z⟩,O2,by rw[NU];lia⟩;exact(xE n).2 j
def AtG.row {G:Gl} {p:Nat} {c:Kn} {e:List Tr} {g:Str->Option Hm} (h:AtG G p (.mk c e) g):G[p]?=some (roK c (i6 e (p+ 1)),g)/\c.ok/\(i6 e (p+ 1)).length=c.ar/\ndK c (dom g):=by refine ean h fun a b d _=>?_;unfold PlT at a;unfold NY at b;unfold okN at d;exact⟨a.1,b.1,by rw[N0];exact b.2.1,d.1⟩
open TM.Internal (Kn Tr i6 szs oks)
noncomputable def mkR:Ro->Str
 | .num _=>"num"
 | .row _=>"row"
 | .fn _ _=>"fn"
 | .rcd _=>"rec"
 | .tag _ _=>"tag"
 | .op o _=>if o="size"\/o="add"\/o="sub" then "num" else if o="join" then "row" else if o="less" then "less" else ""
 |_=>""
def kv:Vl->Ro->Prop
 | .num _ _,ρ=>mkR ρ="num"
 | .fn b _ _,ρ=>∃w,ρ= .fn w b
 | .rcd l _,ρ=>fdL l=[]\/∃r,ρ= .rcd r/\r.map Mb=(fdL l).map Mb
 | .tag t _ _,ρ=>(∃a,ρ= .tag t a)\/(t="yes"\/t="no")/\∃c,ρ= .op "less" c
 | .row _ _,ρ=>mkR ρ="row"
def rwA (G:Gl) (p:Int) (a:Ro):Prop:=∃(k:Nat) (g:Str->Option Hm),p=(k:Int)/\G[k]?=some (a,g)
def Stg (G:Gl) (v:Vl):Prop:=∃a,rwA G v.p a/\kv v a
abbrev Th:=Int×Int->Prop
def Cov (n:Nat) (T:Th) (g:Str->Option Hm) (sc:Ev):Prop:=∀w k q,g w=some (k,q)->(k="def"/\∃d:Nat,q=(d:Int)/\d<n)\/(k≠"def"/\∃v,rT sc q=some v/\(k="let"->T (q,v.p)))
section
variable (G:Gl) (n:Nat) (T:Th)
def Bdy (b c:Int) (sc:Ev):Prop:=∃(m:Nat) (t:Tr) (g:Str->Option Hm),b=(m:Int)/\AtG G m t g/\∀v,Cov n T g (.cons c v sc)
mutual
def OkV:Vl->Prop
 | .num k p=>Stg G (.num k p)
 | .fn b sc p=>OkE sc/\Bdy G n T b b sc/\Stg G (.fn b sc p)
 | .rcd l p=>OkS l/\((fdL l).map Mb).Nodup/\(fdL l).length<=100/\Stg G (.rcd l p)
 | .tag t v p=>OkV v/\Stg G (.tag t v p)
 | .row l p=>OkR l/\(uP l).length<=60/\Stg G (.row l p)
def OkE:Ev->Prop
 | .nil=>True
 | .cons _ v sc=>OkV v/\OkE sc
def OkS:Vls->Prop
 | .nil=>True
 | .cons _ v t=>OkV v/\OkS t
def OkR:Vlr->Prop
 | .nil=>True
 | .cons v t=>OkV v/\OkR t
end
end
def Cov.mono {n m:Nat} {T f:Th} {g:Str->Option Hm} (h:Cov n T g sc) (l:n<=m) (u:∀x,T x->f x):Cov m f g sc:=fun w k q e=>(h w k q e).imp (fun⟨a,d,b,c⟩=>⟨a,d,b,cC c l⟩) fun⟨a,v,b,c⟩=>⟨a,v,b,fun z=>u _ (c z)⟩
section
variable {G:Gl} {n m:Nat} {T T':Th}
mutual
theorem OkV.mono (l:n<=m) (u:∀x,T x->T' x):∀v:Vl,OkV G n T v->OkV G m T' v
 | .num _ _,h=>by unfold OkV at h⊢;exact h
 | .fn b sc p,h=>by unfold OkV at h⊢;refine eac h fun h1 y0 h2=>?_;refine eai y0 fun k t g e a c=>?_;exact⟨OkE.mono l u sc h1,(iaa k t g ⟨e,a,fun v=>(c v).mono l u⟩),h2⟩
 | .rcd r p,h=>by unfold OkV at h⊢;exact⟨OkS.mono l u r h.1,h.2⟩
 | .tag w v p,h=>by unfold OkV at h⊢;exact⟨OkV.mono l u v h.1,h.2⟩
 | .row r p,h=>by unfold OkV at h⊢;exact⟨OkR.mono l u r h.1,h.2⟩
theorem OkE.mono (l:n<=m) (u:∀x,T x->T' x):∀v:Ev,OkE G n T v->OkE G m T' v
 | .nil,h=>by unfold OkE;trivial
 | .cons b v sc,h=>by unfold OkE at h⊢;exact⟨OkV.mono l u v h.1,OkE.mono l u sc h.2⟩
theorem OkS.mono (l:n<=m) (u:∀x,T x->T' x):∀v:Vls,OkS G n T v->OkS G m T' v
 | .nil,h=>by unfold OkS;trivial
 | .cons b v t,h=>by unfold OkS at h⊢;exact⟨OkV.mono l u v h.1,OkS.mono l u t h.2⟩
theorem OkR.mono (l:n<=m) (u:∀x,T x->T' x):∀v:Vlr,OkR G n T v->OkR G m T' v
 | .nil,h=>by unfold OkR;trivial
 | .cons v t,h=>by unfold OkR at h⊢;exact⟨OkV.mono l u v h.1,OkR.mono l u t h.2⟩
end
def OkV.stg:∀{v:Vl},OkV G n T v->Stg G v
 | .num _ _,h=>by unfold OkV at h;exact h
 | .fn _ _ _,h=>by unfold OkV at h;exact h.2.2
 | .rcd _ _,h=>by unfold OkV at h;exact h.2.2.2
 | .tag _ _ _,h=>by unfold OkV at h;exact h.2
 | .row _ _,h=>by unfold OkV at h;exact h.2.2
theorem IP:∀{sc:Ev} {q:Int} {v:Vl},OkE G n T sc->rT sc q=some v->OkV G n T v
 | .nil,q,v,_,e=>by cases e
 | .cons b u sc,q,v,h,e=>by
  unfold OkE at h;unfold rT at e;by_cases z:b=q;·rw[ig z]at e;cases e;exact h.1
  ·rw[gZ z]at e;exact IP h.2 e
theorem ES:∀{l:List (Str×Vl)},(∀p∈l,OkV G n T p.2)->OkS G n T (fdO l)
 |[],_=>by unfold OkS;trivial
 |p::l,h=>by unfold OkS;exact⟨h p aj,ES fun q a=>h q (ak _ a)⟩
theorem IQ:∀{l:Vls} {w:Str} {v:Vl},OkS G n T l->lkV (fdL l) w=some v->OkV G n T v
 | .nil,w,v,_,e=>by cases e
 | .cons u x l,w,v,h,e=>by
  unfold OkS at h;have e:(if u=w then some x else lkV (fdL l) w)=some v:=e;by_cases z:u=w;·rw[ig z]at e;cases e;exact h.1
  ·rw[gZ z]at e;exact IQ h.2 e
theorem GB:∀{l:List Vl},(∀p∈l,OkV G n T p)->OkR G n T (Dr l)
 |[],_=>by unfold OkR;trivial
 |p::l,h=>by unfold OkR;exact⟨h p aj,GB fun q a=>h q (ak _ a)⟩
theorem D8:∀{l:Vlr},OkR G n T l->∀v∈uP l,OkV G n T v
 | .nil,_,v,hv=>by cases hv
 | .cons u l,h,v,hv=>by
  unfold OkR at h;rcases ao.mp hv with rfl|hv;·exact h.1
  ·exact D8 h.2 v hv
def Sok (G:Gl) (n:Nat) (T:Th) (p:Int) (sc:Ev):Prop:=∃(m:Nat) (t:Tr) (g:Str->Option Hm),p=(m:Int)/\AtG G m t g/\Cov n T g sc/\OkE G n T sc
def Bdy.sok {b c:Int} {v:Vl} (h:Bdy G n T b c sc) (f:OkE G n T sc) (d:OkV G n T v):Sok G n T b (.cons c v sc):=by refine eai h fun m t g e a k=>?_;exact iaa m t g (⟨e,a,k v,by unfold OkE;exact⟨d,f⟩⟩)
def CG{k:Str} (h:Cov n T g sc) (f:Bnd p g) (j:(p:Int)<b) (i:k≠"def") (d:k="let"->T (b,v.p)):Cov n T (exG g (some (w,(k,b)))) (.cons b v sc):=fun u c q e=>by
 have e:(if u=w then some (k,b)else g u)=some (c,q):=e;by_cases z:u=w;·rw[ig z]at e;cases e;exact .inr ⟨i,v,ig rfl,d⟩
 ·rw[gZ z]at e;refine(h u c q e).imp_right fun⟨a,x,y,r⟩=>⟨a,x,(gZ fun y=>?_).trans y,r⟩;have:=f u c q e a;lia
structure Ent where
 p:Int
 m:Int
 t:List (Int×Int×Int)
def ets (l:List Ent):List (Int×Int×Int):=(l.map Ent.t).flatten
inductive Cmt (G:Gl) (nd:Int->Prop):Ro->Int->Int->List Ent->List (Int×Int×Int)->Prop
 |num {n p:Int}:Cmt G nd (.num n) p p [] (ets []++[])
 |fn {w:Str} {b p:Int}:Cmt G nd (.fn w b) p p [] (ets []++[])
 |name {w:Str} {p m:Int} (h:nd m):Cmt G nd (.name w) p m [] (ets []++[])
 |tag {w:Str} {a p:Int} {e:Ent} (h:e.p=a):Cmt G nd (.tag w a) p p [e] (ets [e]++[])
 |rcd {l:List (Str×Int)} {p:Int} {es:List Ent} (h:es.map Ent.p=l.map MC):Cmt G nd (.rcd l) p p es (ets es++[])
 |row {l:List Int} {p:Int} {es:List Ent} (h:es.map Ent.p=l):Cmt G nd (.row l) p p es (ets es++[])
 |get {a p q:Int} {w:Str} {e:Ent} {l:List (Str×Int)} (h:e.p=a) (r:rwA G e.m (.rcd l)) (hw:w∈l.map Mb):Cmt G nd (.get a w) p q [e] (ets [e]++[(e.m,p,0)])
 |size {a p:Int} {e:Ent} {ρ:Ro} (h:e.p=a) (r:rwA G e.m ρ) (k:mkR ρ="row"):Cmt G nd (.op "size" [a]) p p [e] (ets [e]++[(e.m,p,0)])
 |ix {a b c p q:Int} {e f g:Ent} {ρ τ:Ro} (h:e.p=a) (h2:f.p=b) (h3:g.p=c) (r:rwA G e.m ρ) (k:mkR ρ="row") (r2:rwA G f.m τ) (k2:mkR τ="num"):Cmt G nd (.op "at" [a,b,c]) p q [e,f,g] (ets [e,f,g]++[(e.m,p,0),(f.m,p,1)])
 |two {o s:Str} {a b p:Int} {e f:Ent} {ρ τ:Ro} (ho:(o="join"/\s="row")\/(o="add"\/o="sub"\/o="less")/\s="num") (h:e.p=a) (h2:f.p=b) (r:rwA G e.m ρ) (k:mkR ρ=s) (r2:rwA G f.m τ) (k2:mkR τ=s):Cmt G nd (.op o [a,b]) p p [e,f] (ets [e,f]++[(e.m,p,0),(f.m,p,1)])
 |lt {w:Str} {a b p:Int} {e f:Ent} (h:e.p=a) (h2:f.p=b):Cmt G nd (.lt w a b) p f.m ([e]++[f]) (ets [e]++[]++f.t)
 |call {a c p b:Int} {w:Str} {e f g:Ent} (h:e.p=a) (h2:f.p=c) (r:rwA G e.m (.fn w b)) (h3:g.p=b):Cmt G nd (.op "call" [a,c]) p g.m ([e,f]++[g]) (ets [e,f]++[(e.m,p,0)]++g.t)
 |case {a p b:Int} {l:List (Str×Str×Int)} {t x:Str} {e f:Ent} {ρ:Ro} (h:e.p=a) (r:rwA G e.m ρ) (k:(∃a,ρ= .tag t a)\/(t="yes"\/t="no")/\∃ks,ρ= .op "less" ks) (hl:(t,x,b)∈l) (h2:f.p=b):Cmt G nd (.case a l) p f.m ([e]++[f]) (ets [e]++[(e.m,p,0)]++f.t)
def es1{m:Int} (h:es.map Ent.p=[a]) (k:es.map Ent.m=[m]):∃e,es=[e]/\e.p=a/\e.m=m:=by
 match es,h,k with
 |[e],h,k=>cases h;cases k;exact⟨e,rfl,rfl,rfl⟩
def es2{m n:Int} (h:es.map Ent.p=[a,b]) (k:es.map Ent.m=[m,n]):∃e f,es=[e,f]/\e.p=a/\e.m=m/\f.p=b/\f.m=n:=by
 match es,h,k with
 |[e,f],h,k=>cases h;cases k;exact ii e f ⟨rfl,rfl,rfl,rfl,rfl⟩
def es3{m n o:Int} (h:es.map Ent.p=[a,b,c]) (k:es.map Ent.m=[m,n,o]):∃e f g,es=[e,f,g]/\e.p=a/\e.m=m/\f.p=b/\f.m=n/\g.p=c/\g.m=o:=by
 match es,h,k with
 |[e,f,g],h,k=>cases h;cases k;exact iaa e f g ⟨rfl,rfl,rfl,rfl,rfl,rfl,rfl⟩
def es0 (k:es.map Ent.m=[]):es=[]:=by
 cases es with
 |nil=>rfl
 |cons e t=>cases k
inductive Out (G:Gl) (n:Nat) (T:Th) (nd:Int->Prop) (ρ:Ro) (es:List Ent) (k:Int) (s s':Ms):Prop
 |fin (v:Vl) (m:List (Int×Int×Int)) (h:OkV G n T v) (e:s'=lP k v {s with me:=m.reverse++s.me}) (c:Cmt G nd ρ k v.p es (ets es++m))
 |into (b:Int) (sc:Ev) (m:List (Int×Int×Int)) (h:Sok G n T b sc) (e:s'=qo b sc k {s with me:=m.reverse++s.me}) (c:∀nd (f:Ent),f.p=b->Cmt G nd ρ k f.m (es++[f]) (ets es++m++f.t))
 |stop (h:s'.en=some ("wrong":Str)\/s'.en=some ("full":Str)) (e:s'.ha=s.ha)
def IS{k:Nat} (a:G[k]?=some (.op "less" ks,g)):OkV G n T (Gg b k):=by have r:rwA G (k:Int) (.op "less" ks):=(ii k g ⟨rfl,a⟩);unfold Gg OkV;refine⟨?_,_,r,.inr ⟨by cases b<;>simp,ks,rfl⟩⟩;unfold OkV;exact⟨by unfold OkS;trivial,aX,by decide,_,r,.inl rfl⟩
def CH(h:(iJ sh a b p s).2=false):(iJ sh a b p s).1.en=some ("wrong":Str):=by
 unfold iJ at h⊢
 cases e:isS sh a with
 |false=>rfl
 |true=>rw[e]at h;rw[show isS sh b=false from h];rfl
def CI(h:(iJ sh a b p s).2=true):(iJ sh a b p s).1={s with me:=(b.p,p,1)::(a.p,p,0)::s.me}:=by
 unfold iJ at h⊢
 cases e:isS sh a with
 |false=>rw[e]at h;cases h
 |true=>rw[e]at h;rw[show isS sh b=true from h];rfl
def rk {b:Type} {l:List b} (h:l.length=1):∃a,l=[a]:=bF.mp h
def oo {c:Type} {l:List c} (h:l.length=2):∃a b,l=[a,b]:=by
 match l,h with
 |[a,b],_=>exact ii a b rfl
def CJ {d:Type} {l:List d} (h:l.length=3):∃a b c,l=[a,b,c]:=by
 match l,h with
 |[a,b,c],_=>exact iaa a b c rfl
theorem ET:∀{l:List (Str×Str×Int)} {t:Str} {b:Int},lkI l t=some b->∃(j:Nat) (x:Str),l[j]?=some (t,x,b)
 |[],t,b,e=>by cases e
 |p::l,t,b,e=>by
  unfold lkI at e;by_cases z:p.1=t;·rw[ig z]at e;cases e;exact ii 0 p.2.1 (by rw[<-z];rfl)
  ·rw[gZ z]at e;refine eaq (ET e) fun j x h=>?_;exact ii (j+ 1) x h
def yO:(iJ sh a b p s).1.ha=s.ha:=by unfold iJ;split<;>rfl
def zR(h:isS "row" v=true) (o:OkV G n T v):∃a,rwA G v.p a/\mkR a="row":=by refine eaq (rM (of_decide_eq_true h)) fun r c b=>?_;subst b;exact o.stg
def CK(h:isS "num" v=true) (o:OkV G n T v):∃a,rwA G v.p a/\mkR a="num":=by refine eaq (rL (of_decide_eq_true h)) fun r c b=>?_;subst b;exact o.stg
def GC{p:Nat} {o:Str} (ho:(o,m)∈NW) (Z:G[p]?=some (.op o ks,g)) (H:ks.length=m) (A:l.length=m) (I:es.map Ent.p=ks) (J:es.map Ent.m=l.map Vl.p) (j:∀v∈l,OkV G n T v):∃D,lj hm p sc (.op o ks) l s=some D/\Out G n T Y (.op o ks) es p s D:=by
 simp only[NW,ao,Prod.mk.injEq,bI,or_false]at ho;have M:rwA G (p:Int) (.op o ks):=(ii p g ⟨rfl,Z⟩);have q:∀{a b:Vl} {f:Vl},l=[a,b]->m=2->(o="add"\/o="sub"\/o="less")->OkV G n T f->f.p=(p:Int)->∃D,(if(iJ "num" a b p s).2 then some (lP p f (iJ "num" a b p s).1)else some (iJ "num" a b p s).1)=some D/\Out G n T Y (.op o ks) es p s D:=fun{a b f} el i S U hp=>by
  cases e:(iJ "num" a b p s).2 with
  |false=>rw[gZ fc];exact⟨_,rfl,.stop (.inl (CH e)) yO⟩
  |true=>rw[ig rfl];obtain⟨P,O⟩:=rh e;subst el;refine eaq (oo (H.trans i)) fun x y d=>?_;subst d;refine eas (es2 I J) fun C K d w i B t=>?_;subst d;refine eaa (CK (gT P) (j a O4)) fun L r k=>?_;refine eaa (CK (gT O) (j b O4)) fun V r2 F=>?_;refine⟨_,rfl,.fin f [(a.p,(p:Int),0),(b.p,(p:Int),1)] U (by rw[CI e];rfl) ?_⟩;rw[hp,<-i,<-t];exact .two (.inr ⟨S,rfl⟩) w B (by rw[i];exact r) k (by rw[t];exact r2) F
 rcases ho with⟨rfl,rfl⟩|⟨rfl,rfl⟩|⟨rfl,rfl⟩|⟨rfl,rfl⟩|⟨rfl,rfl⟩|⟨rfl,rfl⟩|⟨rfl,rfl⟩
 ·refine eaq (oo A) fun a b d=>?_;subst d;refine eaq (oo H) fun x y d=>?_;subst d;refine eas (es2 I J) fun C K d w i B t=>?_;subst d;rw[yE]
  cases a with
  |fn c e W=>have h:=j _ aj;unfold OkV at h;refine eal h.2.2 fun L=>f8 fun r=>faa fun u d=>?_;subst d;refine⟨_,rfl,.into c _ [(W,(p:Int),0)] (h.2.1.sok h.1 (j b O4)) rfl fun Y f U=>?_⟩;have i:C.m=W:=i;rw[<-i];exact .call w B (by rw[i];exact r) U
  |_=>exact⟨_,rfl,.stop (.inl rfl) rfl⟩
 ·refine eag (CJ A) fun a b x d=>?_;subst d;rw[Gv]
  cases e:isS "row" a with
  |false=>exact⟨_,rfl,.stop (.inl rfl) rfl⟩
  |true=>
   rw[ig rfl]
   cases K:isS "num" b with
   |false=>exact⟨_,rfl,.stop (.inl rfl) rfl⟩
   |true=>
    rw[ig rfl];refine eag (CJ H) fun y z u d=>?_;subst d;refine eag (es3 I J) fun C f1 g1=>fap fun d w i B t h5 h6=>?_;subst d;refine eaa (zR e (j a O4)) fun L R k=>?_;refine eaa (CK K (j b O4)) fun V Q F=>?_;refine⟨_,rfl,.fin _ [(a.p,(p:Int),0),(b.p,(p:Int),1)] ?_ rfl (by rw[<-i,<-t];exact .ix w B h5 (by rw[i];exact R) k (by rw[t];exact Q) F)⟩;refine eaq (rM (of_decide_eq_true e)) fun r E d=>?_;subst d;have h:=j _ aj;unfold OkV at h;have X:=j x O4;split
    ·rw[bu]
     cases er:(lg (.row r E))[(nq b).toNat]? with
     |none=>exact X
     |some u=>exact D8 h.1 u (aQ er)
    ·exact X
 ·refine eaq (oo A) fun a b d=>?_;subst d;rw[yF]
  cases e:(iJ "row" a b p s).2 with
  |false=>rw[gZ fc];exact⟨_,rfl,.stop (.inl (CH e)) yO⟩
  |true=>
   obtain⟨P,O⟩:=rh e;refine eaa (zR (gT P) (j a O4)) fun L R k=>?_;refine eaa (zR (gT O) (j b O4)) fun V Q F=>?_;refine eaq (rM P) fun r E d=>?_;subst d;refine eaq (rM O) fun u N d=>?_;subst d;have h:=j _ aj;have h':=j (.row u N) O4;unfold OkV at h h';rw[ig rfl,gZ (by show ¬(500<(uP r).length\/500<(uP u).length);lia)];by_cases z:60<(lg (.row r E)++lg (.row u N)).length;·rw[ig z];exact⟨_,rfl,.stop (.inr rfl) yO⟩
   ·rw[gZ z];refine eaq (oo H) fun x y d=>?_;subst d;refine eas (es2 I J) fun C K d w i B t=>?_;subst d;refine⟨_,rfl,.fin _ [(E,(p:Int),0),(N,(p:Int),1)] ?_ (by rw[CI e];rfl) (by have i:C.m=E:=i;have t:K.m=N:=t;rw[<-i,<-t];exact .two (.inl ⟨rfl,rfl⟩) w B (by rw[i];exact R) k (by rw[t];exact Q) F)⟩;unfold OkV;refine⟨GB fun v hv=>?_,by rw[Ce];exact di.mp z,_,M,rfl⟩;rcases aq.mp hv with hv|hv;·exact D8 h.1 v hv
    ·exact D8 h'.1 v hv
 ·obtain⟨a,rfl⟩:=rk A;rw[yK]
  cases e:isS "row" a with
  |false=>exact⟨_,rfl,.stop (.inl rfl) rfl⟩
  |true=>rw[ig rfl];obtain⟨x,rfl⟩:=rk H;refine eak (es1 I J) fun C d w i=>?_;subst d;refine eaa (zR e (j a O4)) fun L r k=>?_;exact⟨_,rfl,.fin _ [(a.p,(p:Int),0)] (by unfold OkV;exact⟨_,M,rfl⟩) rfl (by rw[<-i];exact .size w (by rw[i];exact r) k)⟩
 ·refine eaq (oo A) fun a b d=>?_;subst d;rw[Cp];exact q rfl rfl (.inl rfl) (by unfold OkV;exact⟨_,M,rfl⟩) rfl
 ·refine eaq (oo A) fun a b d=>?_;subst d;rw[Cq];exact q rfl rfl (.inr (.inl rfl)) (by unfold OkV;exact⟨_,M,rfl⟩) rfl
 ·refine eaq (oo A) fun a b d=>?_;subst d;rw[yG];exact q rfl rfl (.inr (.inr rfl)) (IS Z) rfl
theorem EU:∀{l:List (Str×Vl)} {w:Str} {v:Vl},lkV l w=some v->w∈l.map Mb
 |[],w,v,e=>by cases e
 |p::l,w,v,e=>by
  unfold lkV at e;by_cases z:p.1=w;·rw[aD,z];exact aj
  ·rw[gZ z]at e;exact ak _ (EU e)
def GD(h:ps.length=κ.ar):(nJ (roK κ ps)).length<=ps.length/\∀(j:Nat) c,(nJ (roK κ ps))[j]?=some c->∃q:Nat,c=(q:Int)/\ps[j]?=some q/\(roK κ ps).ex[j]?.getD none=none:=by
 have f:=(xE h).1;have d:∀l,l=ps.map (fun p:Nat=>(p:Int))->l.length<=ps.length/\∀(j:Nat) c,l[j]?=some c->∃q:Nat,c=(q:Int)/\ps[j]?=some q/\(l.map fun _=>(none:Option (Str×Hm)))[j]?.getD none=none:=fun l e=>by refine⟨by rw[e,aE];exact cJ _,fun j c g=>?_⟩;rw[aP,g];rw[e,aP]at g;refine eaa (dA.mp g) fun q k i=>?_;subst i;exact⟨q,rfl,k,rfl⟩
 cases κ with
 |fn w=>obtain⟨a,rfl⟩:=bF.mp h;exact⟨cK _,fun j c z=>nomatch z⟩
 |lt w=>
  match ps,h with
  |[a,b],_=>exact⟨by show 1<=2;decide,fun j c z=>by match j,z with|0,z=>cases z;exact⟨a,rfl,rfl,rfl⟩⟩
 |case l=>
  match ps,h with
  |p::ps,h=>exact⟨by show 1<=_;rw[aB];lia,fun j c z=>by match j,z with|0,z=>cases z;exact⟨p,rfl,rfl,rfl⟩⟩
 |tag w=>obtain⟨a,rfl⟩:=bF.mp h;exact d _ f
 |get w=>obtain⟨a,rfl⟩:=bF.mp h;exact d _ f
 |num w=>cases bW h;exact d _ f
 |name w=>cases bW h;exact d _ f
 |rcd l=>exact d _ f
 |row m=>exact d _ f
 |op s m=>exact d _ f
def GF(h:AtG G k (.mk κ ks) g) (cv:Cov n T g sc) (Z:OkE G n T sc) (hh:∀w,κ= .name w->hm=g w) (B:l.length=(nJ (roK κ (i6 ks (k+ 1)))).length) (N:∀v∈l,OkV G n T v) (hd:s.de.length=n) (od:∀v∈s.de,OkV G n T v) (K:es.map Ent.p=nJ (roK κ (i6 ks (k+ 1)))) (L:es.map Ent.m=l.map Vl.p) (eT:∀e∈es,T (e.p,e.m)) (W:∀w E q v,κ= .name w->g w=some (E,q)->(E="def"/\atZ s.de q=some v\/E≠"def"/\(E="let"->T (q,v.p)))->nd v.p):∃D,lj hm k sc (roK κ (i6 ks (k+ 1))) l s=some D/\Out G n T nd (roK κ (i6 ks (k+ 1))) es k s D:=by
 refine ean h.row fun hr X C Q=>?_;have I:=@AtG.kid _ _ _ _ _ h;have bd:=h.2.2.2;have O:∀{j c:Nat} {w E:Str} {x:Int} {v:Vl},(i6 ks (k+ 1))[j]?=some c->(roK κ (i6 ks (k+ 1))).ex[j]?.getD none=some (w,(E,x))->E≠"def"->(k:Int)<x->OkV G n T v->(E="let"->T (x,v.p))->Sok G n T c (.cons x v sc):=fun hc he W hx V ht=>by refine eak (I hc) fun t _ a _=>?_;rw[he]at a;exact iaa _ t _ (⟨rfl,a,CG cv bd hx W ht,by unfold OkE;exact⟨V,Z⟩⟩)
 have lt:∀{j c:Nat},(i6 ks (k+ 1))[j]?=some c->(k:Int)<(c:Int):=fun hc=>by refine eau (I hc) fun _ _ _ l _=>?_;exact fC.mpr l
 generalize i6 ks (k+ 1)=A at C B I O K hr lt⊢;have P:rwA G (k:Int) (roK κ A):=(ii k g ⟨rfl,hr⟩);have nil:l.length=0->l=[]:=bW
 cases κ with
 |num i=>cases nil B;cases es0 L;exact⟨_,rfl,.fin _ [] (by unfold OkV;exact⟨_,P,rfl⟩) rfl .num⟩
 |name w=>
  cases nil B;cases es0 L;rw[hh w rfl]
  cases e:g w with
  |none=>exact absurd e Q
  |some z=>
   obtain⟨E,q⟩:=z;show ∃D,(if E="def" then(atZ s.de q).map fun v=>lP k v s else(rT sc q).map fun v=>lP k v s)=some D/\_;rcases cv w E q e with⟨c,d,rfl,hd'⟩|⟨c,v,V,ht⟩;·have ed:atZ s.de (d:Int)=some s.de[d]:=bE O2;rw[ig c,ed];exact⟨_,rfl,.fin _ [] (od _ (List.getElem_mem _)) rfl (.name (W w E d _ rfl e (.inl ⟨c,ed⟩)))⟩
   ·rw[gZ c,V];exact⟨_,rfl,.fin _ [] (IP Z V) rfl (.name (W w E q _ rfl e (.inr ⟨c,ht⟩)))⟩
 |fn w=>obtain⟨a,rfl⟩:=bF.mp C;cases nil B;cases es0 L;refine eak (I (j:=0) rfl) fun t _ x _=>?_;exact⟨_,rfl,.fin _ [] (by unfold OkV;exact⟨Z,(iaa _ t _ ⟨rfl,x,fun v=>CG cv bd (lt (j:=0) rfl) gL fun z=>absurd z gL⟩),_,P,w,rfl⟩) rfl .fn⟩
 |tag w=>obtain⟨a,rfl⟩:=bF.mp C;obtain⟨v,rfl⟩:=rk B;refine eak (es1 K L) fun M H J F=>?_;subst H;exact⟨_,rfl,.fin _ [] (by unfold OkV;exact⟨N v O4,_,P,.inl ⟨_,rfl⟩⟩) rfl (.tag J)⟩
 |lt w=>
  match A,C with
  |[a,b],_=>
   obtain⟨v,rfl⟩:=rk B;refine eak (es1 K L) fun M H J F=>?_;subst H;exact⟨_,rfl,.into _ _ [] (O (j:=1) rfl rfl gL (lt (j:=0) rfl) (N v O4) fun _=>by have:=eT M O4;rwa[J,F]at this) rfl fun nd f hf=> .lt J hf⟩
 |get w=>
  obtain⟨a,rfl⟩:=bF.mp C;obtain⟨v,rfl⟩:=rk B;refine eak (es1 K L) fun M H J F=>?_;subst H;show ∃D,lj hm k sc (.get a w) [v] s=some D/\_;by_cases z:v.s="rec"
  ·refine eaq (Cv z) fun r U H=>?_;subst H;have h:=N _ aj;unfold OkV at h;show ∃D,(if((fdL r).map Mb).Nodup/\(fdL r).length<=100 then(match lkV (fdL r) w with|some x=>some (lP k x (iG (.rcd r U) k 0 true s))|none=>some (iG (.rcd r U) k 0 false s))else none)=some D/\_;rw[ig ⟨h.2.1,h.2.2.1⟩]
   cases e:lkV (fdL r) w with
   |none=>exact⟨_,rfl,.stop (.inl rfl) rfl⟩
   |some x=>
    refine⟨_,rfl,.fin x [(U,(k:Int),0)] (IQ h.1 e) rfl ?_⟩;have F:M.m=U:=F;obtain⟨ρ,Y,y|⟨u,rfl,hu⟩⟩:=h.2.2.2;·rw[y]at e;cases e
    ·rw[<-F];exact .get J (by rw[F];exact Y) (by rw[hu];exact EU e)
  ·rw[tP z];exact⟨_,rfl,.stop (.inl rfl) rfl⟩
 |rcd r=>
  have B:l.length=(((r.zip A).map fun q=>(q.1,(q.2:Int))).map MC).length:=B;have C:A.length=r.length:=C;rw[aE,aE,b6]at B;have M:((r.zip A).map fun q=>(q.1,(q.2:Int))).length=l.length:=by rw[aE,b6];lia
  have e2:((r.zip A).map fun q=>(q.1,(q.2:Int))).map Mb=r:=by rw[bH];show(r.zip A).map Mb=r;exact cq O2
  show ∃D,(if((r.zip A).map fun q=>(q.1,(q.2:Int))).length=l.length then some (lP k (.rcd (fdO (bG (((r.zip A).map fun q=>(q.1,(q.2:Int))).map Mb) l)) k) s)else none)=some D/\_;rw[ig M];refine⟨_,rfl,.fin _ [] ?_ rfl (.rcd K)⟩;unfold OkV;rw[JS,cq (by rw[aE];lia)];refine⟨ES fun p hp=>N _ (aH hp).2,by rw[e2];exact Q,?_,_,P,.inr ⟨_,rfl,by rw[JS,cq (by rw[aE];lia)]⟩⟩;rw[b6];have:=X.1;lia
 |case r=>
  match A,C with
  |p::A,C=>
   have C:=da.inj C;obtain⟨v,rfl⟩:=rk B;refine eak (es1 K L) fun M H J F=>?_;subst H;show ∃D,lj hm k sc (.case p ((r.zip A).map fun q=>(q.1.1,q.1.2,(q.2:Int)))) [v] s=some D/\_;by_cases z:v.s="tag"
   ·refine eag (Cr z) fun t x S H=>?_;subst H;have h:=N _ aj;unfold OkV at h;show ∃D,(match lkI ((r.zip A).map fun q=>(q.1.1,q.1.2,(q.2:Int))) t with|some b=>some (qo b (.cons b x sc) k (iG (.tag t x S) k 0 true s))|none=>some (iG (.tag t x S) k 0 false s))=some D/\_
    cases e:lkI ((r.zip A).map fun q=>(q.1.1,q.1.2,(q.2:Int))) t with
    |none=>exact⟨_,rfl,.stop (.inl rfl) rfl⟩
    |some b=>
     refine eaq (ET e) fun j y hj=>?_;have R:=hj;rw[aP]at hj;refine eaa (dA.mp hj) fun q hq eq=>?_;cases eq;have hz:=(cn.mp hq).2;refine⟨_,rfl,.into _ _ [(S,(k:Int),0)] (O (j:=j+ 1) hz (by show((((r.zip A).map fun q=>(q.1.1,q.1.2,(q.2:Int))).map fun p=>some (p.2.1,(("arm":Str),p.2.2)))[j]?).getD none=_;rw[aP,R];rfl) gL (lt (j:=j+ 1) hz) h.1 fun z=>absurd z gL) rfl fun nd f hf=>?_⟩;refine eaa h.2 fun ρ Y kk=>?_;have F:M.m=S:=F;rw[<-F];exact .case J (by rw[F];exact Y) kk (aQ R) hf
   ·rw[rj z];exact⟨_,rfl,.stop (.inl rfl) rfl⟩
 |row m=>have B:l.length=(A.map fun p:Nat=>(p:Int)).length:=B;have C:A.length=m:=C;have X:m<=8:=X;rw[aE]at B;exact⟨_,rfl,.fin _ [] (by unfold OkV;rw[Ce];exact⟨GB N,O2,_,P,rfl⟩) rfl (.row K)⟩
 |op o m=>have B:l.length=(A.map fun p:Nat=>(p:Int)).length:=B;have C:A.length=m:=C;rw[aE]at B;exact GC (X:(o,m)∈NW) hr (by rw[aE];exact C) O2 K L N
end
open TM.Internal (Kn Tr i6 szs oks)
def Nd (a:List Nat) (L:List Ent) (b:List (Int×Int)) (h:Option Hm) (m:Int):Prop:=∃x,h=some x/\(x.1="def"->∃(d r:Nat) (t:List (Int×Int×Int)),x.2=(d:Int)/\a[d]?=some r/\L[d]?=some ⟨r,m,t⟩)/\(x.1="let"->(x.2,m)∈b)
inductive Tra (G:Gl) (ho:Nat->Option Hm) (roots:List Nat):List (Int×Int)->List Ent->Prop
 |nil:Tra G ho roots [] []
 |cons {ha:List (Int×Int)} {L es:List Ent} {k:Nat} {ρ τ:Ro} {g:Str->Option Hm} {m:Int} {t:List (Int×Int×Int)} (T:Tra G ho roots ha (L++es)) (hk:G[k]?=some (ρ,g)) (hm:rwA G m τ) (c:Cmt G (Nd roots L ha (ho k)) ρ k m es t):Tra G ho roots (((k:Int),m)::ha) (L++[⟨k,m,t⟩])
def Tra.mem {G:Gl} {d:Nat->Option Hm} {a:List (Int×Int)} {L:List Ent} (T:Tra G d roots a L):∀e∈L,(e.p,e.m)∈a/\∃b,rwA G e.m b:=by
 induction T with
 |nil=>intro e he;cases he
 |cons T g f c i=>
  intro e he;rcases aq.mp he with he|he;·have:=i e (au _ he);exact⟨ak _ this.1,this.2⟩
  ·cases bo.mp he;exact⟨aj,_,f⟩
def Fr (G:Gl) (B:List Ent) (C:List Vl->List Ent->List (Int×Int×Int)->Prop):List Stp->List Vl->List Ent->List (Int×Int×Int)->Prop
 |[],rd,L,M=>C rd L M
 | .beg p _::r,rd,L,M=>∀v e,e.p=p->e.m=v.p->Fr G B C r (v::rd) (L++[e]) (M++e.t)
 | .par p _::r,rd,L,M=>∃(k:Nat) (d:Ro) (g:Str->Option Hm) (i a:List Vl) (b c:List Ent) (h:List (Int×Int×Int)),p=(k:Int)/\G[k]?=some (d,g)/\rd=i.reverse++a/\L=c++b/\M=h++ets b/\b.map Ent.p=nJ d/\b.map Ent.m=i.map Vl.p/\(∃x,c=B++x)/\∀v e,e.p=p->e.m=v.p->Fr G B C r (v::a) (c++[e]) (h++e.t)
 | .hand p::r,rd,L,M=>∃(k:Nat) (d:Ro) (g:Str->Option Hm) (v:Vl) (a:List Vl) (b c:List Ent) (f:Ent) (h m:List (Int×Int×Int)),p=(k:Int)/\G[k]?=some (d,g)/\rd=v::a/\L=c++(b++[f])/\M=h++(ets b++m++f.t)/\f.m=v.p/\(∀j,Cmt G j d k f.m (b++[f]) (ets b++m++f.t))/\(∃x,c=B++x)/\∀v e,e.p=p->e.m=v.p->Fr G B C r (v::a) (c++[e]) (h++e.t)
theorem Fr.begs {G:Gl} {C:List Vl->List Ent->List (Int×Int×Int)->Prop} {x:List Stp}:∀l {b:List Vl} {L:List Ent} {M:List (Int×Int×Int)},(∀(vs:List Vl) a,a.map Ent.p=l->a.map Ent.m=vs.map Vl.p->Fr G B C x (vs.reverse++b) (L++a) (M++ets a))->Fr G B C (l.map (fun k=>Stp.beg k sc)++x) b L M
 |[],b,L,M,h=>by simpa[ets]using h [] [] rfl rfl
 |k::l,b,L,M,h=>fun v e g f=>Fr.begs l fun vs a d c=>by have:=h (v::vs) (e::a) (by rw[aD,g,d]) (by rw[aD,f,c,aD]);simpa[ets]using this
def StO (G:Gl) (n:Nat) (T:Th):Stp->Prop
 | .beg p sc=>Sok G n T p sc
 | .par p sc=>Sok G n T p sc
 | .hand _=>True
def pnd:List Stp->Nat
 |[]=>0
 | .beg _ _::r=>pnd r
 | .par _ _::r=>pnd r+ 1
 | .hand _::r=>pnd r+ 1
def mu:List Stp->Nat
 |[]=>0
 | .beg _ _::r=>mu r
 | .par _ _::r=>mu r+ 2
 | .hand _::r=>mu r+ 1
theorem Sok.mono {G:Gl} {n m:Nat} {T b:Th} {p:Int} (l:n<=m) (u:∀x,T x->b x):Sok G n T p sc->Sok G m b p sc:=fun⟨k,t,g,e,a,c,o⟩=>(iaa k t g ⟨e,a,c.mono l u,OkE.mono l u sc o⟩)
theorem StO.mono {G:Gl} {n:Nat} {T a:Th} (u:∀x,T x->a x):∀{x:Stp},StO G n T x->StO G n a x
 | .beg _ _,h=>Sok.mono (cJ _) u h
 | .par _ _,h=>Sok.mono (cJ _) u h
 | .hand _,_=>trivial
def ofH (s:Ms):Th:=fun x=>x∈s.ha
structure OkM (G:Gl) (ho:Nat->Option Hm) (roots:List Nat) (B:List Ent) (C:List Vl->List Ent->List (Int×Int×Int)->Prop) (n:Nat) (s:Ms) (L:List Ent):Prop where
 de:s.de.length=n
 dv:∀v∈s.de,OkV G n (ofH s) v
 rd:∀v∈s.rd,OkV G n (ofH s) v
 st:∀x∈s.st,StO G n (ofH s) x
 fr:Fr G B C s.st s.rd L s.me.reverse
 tr:Tra G ho roots s.ha L
 pr:∃x,L=B++x
 bd:∀(d:Nat) v,s.de[d]?=some v->∃(r:Nat) (t:List (Int×Int×Int)),roots[d]?=some r/\B[d]?=some ⟨r,v.p,t⟩
 ct:s.bg=s.ha.length+pnd s.st
theorem CL (sc:Ev) (x:List Stp):∀(l:List Int),pnd (l.map (fun k=>Stp.beg k sc)++x)=pnd x/\mu (l.map (fun k=>Stp.beg k sc)++x)=mu x
 |[]=>⟨rfl,rfl⟩
 |k::l=>CL sc x l
theorem EV:∀vs r l,tkR vs.length (vs++r) l=some (vs.reverse++l,r)
 |[],r,l=>rfl
 |v::vs,r,l=>by show tkR vs.length (vs++r) (v::l)=_;rw[EV vs r (v::l)];simp
section
variable {G:Gl} {n:Nat} {ho:Nat->Option Hm} {roots:List Nat} {B:List Ent} {C:List Vl->List Ent->List (Int×Int×Int)->Prop}
def HoG (G:Gl) (a:Nat->Option Hm):Prop:=∀k w g,G[k]?=some (.name w,g)->a k=g w
def GG{k:Nat} (h:G[k]?=some (ρ,g)):atZ (G.map Mb) (k:Int)=some ρ:=by show(G.map Mb)[k]?=_;rw[aP,h];rfl
def OkM.fin (s:Ms) {k:Nat} {g:Str->Option Hm} {v:Vl} {L:List Ent} {a:List Vl} {r:List Stp} {M m t:List (Int×Int×Int)} (z:s.de.length=n) (y:∀v∈s.de,OkV G n (ofH s) v) (D:∀(d:Nat) v,s.de[d]?=some v->∃(r:Nat) (t:List (Int×Int×Int)),roots[d]?=some r/\B[d]?=some ⟨r,v.p,t⟩) (b:OkV G n (ofH s) v) (h:∀v∈a,OkV G n (ofH s) v) (j:∀x∈r,StO G n (ofH s) x) (o:G[k]?=some (ρ,g)) (f:Tra G ho roots s.ha (L++es)) (c:Cmt G (Nd roots L s.ha (ho k)) ρ k v.p es t) (i:∃x,L=B++x) (q:∀v e,e.p=(k:Int)->e.m=v.p->Fr G B C r (v::a) (L++[e]) (M++e.t)) (w:(m++s.me).reverse=M++t) (A:s.bg=s.ha.length+(pnd r+ 1)):∃E,OkM G ho roots B C n (lP k v {s with me:=m++s.me,st:=r,rd:=a}) E:=by
 have u:∀x,ofH s x->x∈((k:Int),v.p)::s.ha:=fun x hx=>ak _ hx;have l:=cJ n;refine eaa b.stg fun F p _=>?_;refine⟨L++[⟨k,v.p,t⟩],⟨z,fun x hx=>(y x hx).mono l u,fun x hx=>?_,fun x hx=>(j x hx).mono u,?_,?_,?_,D,?_⟩⟩
 ·rcases ao.mp hx with rfl|hx;·exact b.mono l u
  ·exact(h x hx).mono l u
 ·show Fr G B C r (v::a) _ (m++s.me).reverse;rw[w];exact q v ⟨k,v.p,t⟩ rfl rfl
 ·exact .cons f o p c
 ·obtain⟨x,rfl⟩:=i;exact⟨x++[⟨k,v.p,t⟩],bU ..⟩
 ·show s.bg=(_::s.ha).length+pnd r;rw[A,aB];lia
def CM(hg:HoG G ho) (M:OkM G ho roots B C n s L) (H:s.en=none) (hs:s.st=t::r):∃o,tI (G.map Mb) ho s=some o/\(((o.en=some ("wrong":Str)\/o.en=some ("full":Str))/\o.ha=s.ha)\/(o.en=none/\(∃K,OkM G ho roots B C n o K)/\((AL s.st=true/\o.bg=s.bg+ 1/\mu o.st=mu s.st+ 2)\/(o.bg=s.bg/\mu o.st+ 1<=mu s.st)))):=by
 obtain⟨S,R,F,m4,Z,P,m8,O,Q⟩:=M;rw[hs]at m4 Z Q;have Y:∀x∈r,StO G n (ofH s) x:=fun x hx=>m4 x (ak _ hx);unfold tI;rw[hs]
 cases t with
 |beg p sc=>
  obtain⟨k,⟨κ,ks⟩,g,rfl,l,cv,X⟩:=m4 _ aj;refine ean l.row fun A hk ha nd=>?_;dsimp only;rw[GG A];obtain⟨f1,f2⟩:=GD ha;obtain⟨b2,b3⟩:=CL sc (.par (k:Int) sc::r) (nJ (roK κ (i6 ks (k+ 1))));refine⟨_,rfl,.inr ⟨H,⟨L,S,R,F,fun x hx=>?_,?_,P,m8,O,?_⟩,.inl ⟨rfl,rfl,b3⟩⟩⟩
  ·rcases aq.mp hx with hx|hx;·refine eaa (bh.mp hx) fun j hj E=>?_;subst E;obtain⟨i,hi⟩:=cu hj;refine eak (f2 i j hi) fun q E T h2=>?_;subst E;refine eak (l.kid T) fun u _ a _=>?_;rw[h2]at a;exact iaa q u g ⟨rfl,a,cv,X⟩
   ·rcases ao.mp hx with rfl|hx;·exact iaa k _ g ⟨rfl,l,cv,X⟩
    ·exact Y x hx
  ·exact Fr.begs _ fun vs U V J=>(iag k _ g vs s.rd U L s.me.reverse ⟨rfl,A,rfl,rfl,rfl,V,J,m8,Z⟩)
  ·rw[b2,Q];rfl
 |par p sc=>
  obtain⟨k,⟨κ,ks⟩,g,rfl,l,cv,X⟩:=m4 _ aj;refine ean l.row fun A hk ha nd=>?_;refine eaz Z fun k' ρ g' vs W U K M'=>faw fun V J I E eM ep em N fr=>?_;subst E;cases Int.ofNat.inj V;rw[A]at J;cases J;have lv:vs.length=(nJ (roK κ (i6 ks (k+ 1)))).length:=by have a:=congrArg aK ep;have b:=congrArg aK em;rw[aE]at a b;rw[aE]at b;lia
  dsimp only;rw[GG A];dsimp only;rw[I,<-lv,<-bM,EV,cw,aF];dsimp only;have ro:∀v∈W,OkV G n (ofH s) v:=fun v D=>F v (by rw[I];exact aA _ D);refine eaa (GF (nd:=Nd roots K s.ha (ho k)) (s:={s with st:=r,rd:=W}) l cv X (fun w e=>hg k w g (by rw[A,e];rfl)) lv (fun v D=>F v (by rw[I];exact au _ (List.mem_reverse.mpr D))) S R ep em (fun e H=>(P.mem e (aA _ H)).1) (fun w kd q v V J h=>by
   refine⟨(kd,q),(hg k w g (by rw[A,V];rfl)).trans J,fun z=>?_,fun z=>?_⟩
   ·rcases h with⟨_,h⟩|⟨h,_⟩
    ·match q,h with
     | .ofNat d,h=>refine eah (O d v h) fun r0 t0 x1 x2=>?_;obtain⟨y,rfl⟩:=N;exact iaa d r0 t0 ⟨rfl,x1,by rw[aO (av.mp x2).1];exact x2⟩
    ·exact absurd z h
   ·rcases h with⟨h,_⟩|⟨_,h⟩;·rw[show kd="let" from z]at h;exact absurd h gL
    ·exact h z)) fun o T out=>?_;refine⟨o,T,?_⟩
  cases out with
  |fin v m D e c=>subst e;exact .inr ⟨H,OkM.fin s S R O D ro Y A P c N fr (by rw[List.reverse_append,cw,eM,bU]) Q,.inr ⟨rfl,by show mu r+ 1<=mu r+ 2;lia⟩⟩
  |into b sc' m D e c=>
   subst e;refine .inr ⟨H,⟨K++U,S,R,ro,fun x hx=>?_,fun v e T h2=>?_,P,m8,O,?_⟩,.inr ⟨rfl,by show mu r+ 1+ 1<=mu r+ 2;lia⟩⟩
   ·rcases ao.mp hx with rfl|hx;·exact D
    ·rcases ao.mp hx with rfl|hx;·trivial
     ·exact Y x hx
   ·refine iaf k _ g v W U K e M' m ⟨rfl,A,rfl,bU ..,?_,h2,fun nd=>c nd e T,N,fr⟩;show(m.reverse++s.me).reverse++e.t=_;rw[List.reverse_append,cw,eM];simp only[bU]
   ·rw[Q];rfl
  |stop h e=>exact .inl ⟨h,e⟩
 |hand p=>refine eaw Z fun k ρ g v W U K f M' m=>faw fun E A I z1 eM ef c N fr=>?_;subst E;subst z1;rw[I]at F;rw[I];dsimp only;have D:=F v aj;exact⟨_,rfl,.inr ⟨H,OkM.fin s (m:=[]) S R O D (fun x hx=>F x (ak _ hx)) Y A P (by rw[<-ef];exact c _) N fr eM Q,.inr ⟨rfl,cJ _⟩⟩⟩
def Ens (e:Option Str):Prop:=e=some ("turns":Str)\/e=some ("wrong":Str)\/e=some ("full":Str)
def Ens.ne {e:Option Str} (h:Ens e):e≠none/\e≠some ("done":Str):=by rcases h with rfl|rfl|rfl<;>exact⟨(fun z=>nomatch z),fun z=>absurd (du.inj z) gL⟩
def xF(s:Ms) (h:¬(AL s.st=true/\tu<=s.bg)):tJ ρs ho tu s=tI ρs ho s:=by unfold tJ;rw[gZ h]
def KS (G:Gl) (b:Nat->Option Hm) (a:List Nat) (s:Ms):Prop:=∃L,Tra G b a s.ha L
def GH(F:HoG G ho):∀N s L,OkM G ho roots B C n s L->s.en=none->s.bg<=tu->3*(tu-s.bg)+mu s.st<=N->∃m g,Cy (G.map Mb) ho tu m s g/\((Ens g.en/\m<=N+ 1/\KS G ho roots g)\/(g.en=none/\(∃L,OkM G ho roots B C n g L)/\g.st=[]/\g.bg<=tu/\m+ 3*(tu-g.bg)<=N)):=by
 intro N
 induction N with
 |zero=>
  intro s L M h v I
  cases j:s.st with
  |nil=>exact ii 0 s (⟨.stop (.inr j),.inr ⟨h,⟨L,M⟩,j,v,O2⟩⟩)
  |cons t r=>
   by_cases z:AL s.st=true/\tu<=s.bg;·exact ii 1 ({s with en:=some "turns",st:=s.st.tail}) (⟨.step h (by unfold tJ;rw[ig z]) (.stop (.inl (by intro w;cases w))),.inl ⟨.inl rfl,cJ _,L,M.tr⟩⟩)
   ·obtain⟨i,p,⟨l,D⟩|⟨_,_,⟨b,o,E⟩|⟨o,E⟩⟩⟩:=CM F M h j;·exact ii 1 i (⟨.step h ((xF s z).trans p) (.stop (.inl (Ens.ne (.inr l)).1)),.inl ⟨.inr l,cJ _,L,D▸M.tr⟩⟩)
    ·exact absurd ⟨b,O2⟩ z
    ·lia
 |succ N H=>
  intro s L M h v I
  cases j:s.st with
  |nil=>exact ii 0 s (⟨.stop (.inr j),.inr ⟨h,⟨L,M⟩,j,v,O2⟩⟩)
  |cons t r=>
   by_cases z:AL s.st=true/\tu<=s.bg;·exact ii 1 ({s with en:=some "turns",st:=s.st.tail}) (⟨.step h (by unfold tJ;rw[ig z]) (.stop (.inl (by intro w;cases w))),.inl ⟨.inl rfl,O2,L,M.tr⟩⟩)
   ·obtain⟨i,p,⟨l,D⟩|⟨q,⟨K,J⟩,k⟩⟩:=CM F M h j;·exact ii 1 i (⟨.step h ((xF s z).trans p) (.stop (.inl (Ens.ne (.inr l)).1)),.inl ⟨.inr l,O2,L,D▸M.tr⟩⟩)
    ·have u:i.bg<=tu:=by
      rcases k with⟨b,o,_⟩|⟨o,_⟩;·have:¬tu<=s.bg:=fun y=>z ⟨b,y⟩;lia
      ·lia
     have A:3*(tu-i.bg)+mu i.st<=N:=by
      rcases k with⟨b,o,E⟩|⟨o,E⟩;·have:¬tu<=s.bg:=fun y=>z ⟨b,y⟩;lia
      ·lia
     refine eah (H i K J q u A) fun m g R x=>?_;refine ii (m+ 1) g ⟨.step h ((xF s z).trans p) R,?_⟩;rcases x with⟨a,b,f⟩|⟨a,b,c,d,e⟩;·exact .inl ⟨a,O2,f⟩
     ·exact .inr ⟨a,b,c,d,O2⟩
end
def DfA (G:Gl) (i r:Nat):Prop:=∃t g,AtG G r t g/\((∃w a,t= .mk (.fn w) a/\Cov (i+ 1) (fun _=>False) g .nil)\/Cov i (fun _=>False) g .nil)
def EW:OkE G n T .nil:=by unfold OkE;trivial
structure Btw (G:Gl) (ho:Nat->Option Hm) (roots dn:List Nat) (B:List Ent) (s:Ms):Prop where
 en:s.en=none
 st:s.st=[]
 rd:s.rd=[]
 de:s.de.length=dn.length
 dv:∀v∈s.de,OkV G dn.length (ofH s) v
 ct:s.bg=s.ha.length
 tr:Tra G ho roots s.ha B
 bp:B.map Ent.p=dn.map fun r:Nat=>(r:Int)
 me:s.me.reverse=ets B
 bd:∀(d:Nat) v,s.de[d]?=some v->∃(r:Nat) (t:List (Int×Int×Int)),roots[d]?=some r/\B[d]?=some ⟨r,v.p,t⟩
section
variable {G:Gl} {ho:Nat->Option Hm} {roots:List Nat}
def oE (B:List Ent) (e:Ent):ets (B++[e])=ets B++e.t:=by unfold ets;simp
def Btw.next {e l:List Nat} {r:Nat} {B:List Ent} {s c:Ms} {v:Vl} {t:List (Int×Int×Int)} (b:Btw G ho a e B s) (w:a=e++r::l) (D:c.en=none) (C:c.st=[]) (A:c.de.length=e.length) (f:∀u∈c.de,OkV G (e.length+ 1) (ofH c) u) (F:∀(d:Nat) v,c.de[d]?=some v->∃r t,a[d]?=some r/\B[d]?=some ⟨r,v.p,t⟩) (q:OkV G (e.length+ 1) (ofH c) v) (E:c.bg=c.ha.length) (j:Tra G ho a c.ha (B++[⟨r,v.p,t⟩])) (n:c.me.reverse=ets B++t):Btw G ho a (e++[r]) (B++[⟨r,v.p,t⟩]) {c with rd:=[],de:=c.de++[v]}:=by
 have h:(e++[r]).length=e.length+ 1:=by rw[aR];rfl
 have o:B.length=e.length:=by have:=congrArg aK b.bp;rwa[aE,aE]at this
 refine⟨D,C,rfl,?_,fun u hu=>?_,E,j,by rw[bq,bq,b.bp];rfl,by rw[oE];exact n,fun d u hu=>?_⟩;·show(c.de++[v]).length=_;rw[aR,A,h];rfl
 ·rw[h];rcases aq.mp hu with hu|hu;·exact f u hu
  ·rw[bo.mp hu];exact q
 ·have hu:=hu;by_cases z:d<c.de.length;·rw[aO z]at hu;refine eah (F d u hu) fun m k x y=>?_;exact ii m k ⟨x,by rw[aO (av.mp y).1];exact y⟩
  ·rw[aN (di.mp z)]at hu;have p:d-c.de.length=0:=by have:=(av.mp hu).1;rw[bc]at this;lia
   rw[p]at hu;cases hu;have f:d=e.length:=O2
   subst f;exact ii r t ⟨by rw[w,aN (cJ _),cX];rfl,by rw[<-o,aN (cJ _),cX];rfl⟩
def IT {T:Th}:∀x,(fun _:Int×Int=>False) x->T x:=fun _ h=>h.elim
def GI(S:HoG G ho) {l:List Nat} (H:roots=l++r::rs) (D:DfA G l.length r) (b:Btw G ho roots l B s) (U:s.bg<=tu):∃m f,Cy (G.map Mb) ho tu m {s with st:= .beg (r:Int) .nil::s.st} f/\((Ens f.en/\m<=3*(tu-s.bg)+ 1/\KS G ho roots f)\/(f.en=none/\f.bg<=tu/\m+ 3*(tu-f.bg)<=3*(tu-s.bg)/\∃v B',f.rd=[v]/\Btw G ho roots (l++[r]) B' {f with rd:=[],de:=f.de++[v]})):=by
 obtain⟨t,g,k,⟨w,ks,rfl,cv⟩|cv⟩:=D
 ·by_cases z:tu<=s.bg;·exact ii 1 ({s with en:=some "turns"}) (⟨.step b.en (by unfold tJ;exact ig ⟨rfl,z⟩) (.stop (.inl (by intro w;cases w))),.inl ⟨.inl rfl,O2,B,b.tr⟩⟩)
  refine ean k.row fun i hk V nd=>?_;obtain⟨a,q⟩:=bF.mp V;rw[q]at i;have E:=GG i;refine eau (k.kid (j:=0) (by rw[q];rfl)) fun u _ A Q _=>?_;rw[q]at A;have N:Stg G (.fn a .nil r):=⟨_,(ii r g ⟨rfl,i⟩),w,rfl⟩;have O:∀T,OkV G (l.length+ 1) T (.fn a .nil r):=fun T=>by unfold OkV;exact⟨EW,(iaa a u _ ⟨rfl,A,fun v=>CG (cv.mono (cJ _) IT) k.2.2.2 (fC.mpr Q) gL fun z=>absurd z gL⟩),N⟩
  refine ii 2 ({s with bg:=s.bg+ 1,rd:=[.fn a .nil r],ha:=((r:Int),(r:Int))::s.ha}) (⟨.step b.en ?_ (.step (show({s with bg:=s.bg+ 1,st:=[.par (r:Int) .nil]}:Ms).en=none from b.en) ?_ (.stop (.inr b.st))),.inr ⟨b.en,by lia,by lia,_,_,rfl,b.next H b.en b.st b.de (fun u p=>(b.dv u p).mono (cP _) fun x n=>ak _ n) b.bd (O _) (by rw[aB,b.ct]) (.cons (by rw[aF];exact b.tr) i (ii r g ⟨rfl,i⟩) .fn) (by rw[b.me];simp[ets])⟩⟩);·refine(xF {s with st:= .beg (r:Int) .nil::s.st} (fun y=>z y.2)).trans ?_;unfold tI;dsimp only;rw[E,b.st];rfl
  ·refine(xF {s with bg:=s.bg+ 1,st:=[.par (r:Int) .nil]} (fun y=>(by have K:=y.1;cases K))).trans ?_;unfold tI;dsimp only;rw[E];rw[b.rd,<-b.st];rfl
 ·refine eah (GH (C:=fun P L M=>∃v e,P=[v]/\e.p=(r:Int)/\e.m=v.p/\L=B++[e]/\M=ets B++e.t/\True) S (3*(tu-s.bg)) {s with st:= .beg (r:Int) .nil::s.st} B ⟨b.de,b.dv,fun v F=>by(rw[show({s with st:= .beg (r:Int) .nil::s.st}:Ms).rd=s.rd from rfl,b.rd]at F;cases F),fun x n=>by rw[b.st]at n;rw[bo.mp n];exact (iaa r t g ⟨rfl,k,cv.mono (cJ _) IT,EW⟩),by rw[b.st,b.rd,b.me];exact fun v e X W=>(ii v e ⟨rfl,X,W,rfl,rfl,trivial⟩),b.tr,⟨[],(aF B).symm⟩,b.bd,by rw[b.st,b.ct];rfl⟩ b.en U (by rw[b.st];exact cJ _)) fun m f R x=>?_;refine ii m f (⟨R,x.imp_right fun⟨a,⟨L,o⟩,c,d,e⟩=>⟨a,d,e,?_⟩⟩);have I:=o.fr;rw[c]at I;obtain⟨v,⟨ep,em,et⟩,J,e2,Z,rfl,Y,_⟩:=I;cases e2;cases Z;exact ii v _ ⟨J,b.next H a c o.de (fun u p=>(o.dv u p).mono (cP _) fun _ h=>h) o.bd ((o.rd v (by rw[J];exact bo.mpr rfl)).mono (cP _) fun _ h=>h) (by rw[o.ct,c];rfl) o.tr Y⟩
theorem zS(o:HoG G ho):∀i g B s,roots=g++i->(∀j r,i[j]?=some r->DfA G (g.length+j) r)->Btw G ho roots g B s->s.bg<=tu->0<g.length+i.length->∃m d,uo (G.map Mb) ho tu m i s d/\m<=3*(tu-s.bg)+ 4*i.length+ 1/\((Ens d.en/\KS G ho roots d)\/(d.en=some ("done":Str)/\d.de≠[]/\d.bg=d.ha.length/\∃L,Tra G ho roots d.ha L/\L.map Ent.p=roots.map (fun r:Nat=>(r:Int))/\d.me.reverse=ets L))
 |[],g,B,s,hr,_,b,hb,l=>(ii 0 _ (⟨.done,cK _,.inr ⟨rfl,fun z=>by have z:=z;have:=b.de;rw[z]at this;have l:0<g.length+ 0:=l;have this:0=g.length:=this;lia,b.ct,B,b.tr,by rw[b.bp,hr,aF],b.me⟩⟩))
 |r::i,g,B,s,hr,hd,b,hb,l=>by
  obtain⟨m,d,R,⟨a,x,y⟩|⟨a,c,e,v,t,f,k⟩⟩:=GI o hr (hd 0 r rfl) b hb;·exact ii m d (⟨.ends R a.ne.1,by rw[aB];lia,.inl ⟨a,y⟩⟩)
  ·have n:(g++[r]).length=g.length+ 1:=by rw[aR];rfl
   refine eap (zS o i (g++[r]) t {d with rd:=[],de:=d.de++[v]} (by rw[hr,bU];rfl) (fun j r h=>by have:=hd (j+ 1) r h;rwa[n,cZ,Nat.add_comm 1]) k c (by rw[n];lia)) fun q p P x y=>?_;refine ii (m+q+ 3) p ⟨.next R a f P,?_,y⟩;have x:=x;rw[aB];lia
end
open TM.Internal (Kn Tr i6 szs oks)
mutual
theorem L0 {G:Gl}:∀(t:Tr) {p:Nat} {g:Str->Option Hm},AtG G p t g->∀k,p<=k->k<p+t.sz->∃t' g',AtG G k t' g'
 | .mk κ ks,p,g,h,k,l1,l2=>by
  by_cases z:k=p;·subst z;exact ii _ _ h
  ·have ha:=h.row.2.2.1;have kd:=@AtG.kid _ _ _ _ _ h;refine ean h fun a b d _=>?_;unfold PlT at a;unfold NY at b;unfold okN at d;rw[NU]at l2;exact IU ks a.2 b.2.2 d.2 (xE ha).2 (fun j c hc=>let⟨_,_,x,_⟩:=kd hc;x.2.2.2) k O2 O2
theorem IU {G:Gl}:∀(ts:List Tr) {p:Nat} {es:List (Option (Str×Hm))} {bs:List (Option Str)} {g:Str->Option Hm},EM G ts p es g->oks ts->wm ts bs (dom g)->(∀j:Nat,(es[j]?.getD none).map Mb=bs[j]?.getD none)->(∀j c:Nat,(i6 ts p)[j]?=some c->Bnd c (exG g (es[j]?.getD none)))->∀k,p<=k->k<p+szs ts->∃t' g',AtG G k t' g'
 |[],_,_,_,_,_,_,_,_,_,k,l1,l2=>by rw[szs]at l2;lia
 |t::ts,p,es,bs,g,a,b,d,e,hb,k,l1,l2=>by
  unfold EM at a;unfold oks at b;unfold wm at d;rw[szs]at l2;by_cases z:k<p+t.sz
  ·refine L0 t ⟨a.1,b.1,lR t (ER ?_) d.1,?_⟩ k l1 z;·have:=e 0;cases es<;>cases bs<;>exact this
   ·have:=hb 0 p rfl;cases es<;>exact this
  ·refine IU ts a.2 b.2 d.2 (fun j=>?_) (fun j c hc=>?_) k O2 O2;·have:=e (j+ 1);cases es<;>cases bs<;>simpa using this
   ·have:=hb (j+ 1) c hc;cases es<;>simpa using this
end
mutual
theorem EX {G:Gl}:∀(t:Tr) {p:Nat} {g:Str->Option Hm},PlT G t p g->t.ok->∀k,p<k->k<p+t.sz->∃(k':Nat) (ρ:Ro) (g':Str->Option Hm),k'<k/\G[k']?=some (ρ,g')/\(k:Int)∈ρ.pl
 | .mk κ ks,p,g,a,b,k,l1,l2=>by
  unfold PlT at a;unfold NY at b;rw[NU]at l2;rcases CN ks a.2 b.2.2 k O2 O2 with⟨j,hj⟩|h;·refine iaa p _ _ ⟨l1,a.1,?_⟩;rw[(xE (by rw[N0];exact b.2.1)).1];exact bh.mpr ⟨k,aQ hj,rfl⟩
  ·exact h
theorem CN {G:Gl}:∀(ts:List Tr) {p:Nat} {es:List (Option (Str×Hm))} {g:Str->Option Hm},EM G ts p es g->oks ts->∀k,p<=k->k<p+szs ts->(∃j:Nat,(i6 ts p)[j]?=some k)\/∃(k':Nat) (ρ:Ro) (g':Str->Option Hm),k'<k/\G[k']?=some (ρ,g')/\(k:Int)∈ρ.pl
 |[],_,_,_,_,_,k,l1,l2=>by rw[szs]at l2;lia
 |t::ts,p,es,g,a,b,k,l1,l2=>by
  unfold EM at a;unfold oks at b;rw[szs]at l2;by_cases y:k=p;·subst y;exact .inl ⟨0,rfl⟩
  by_cases z:k<p+t.sz;·exact .inr (EX t a.1 b.1 k O2 z)
  ·rcases CN ts a.2 b.2 k O2 O2 with⟨j,hj⟩|h;·exact .inl ⟨j+ 1,hj⟩
   ·exact .inr h
end
def EY(h:κ.ok) (c:ps.length=κ.ar) (nd:ndK κ N):(roK κ ps).ok:=by
 cases κ with
 |num n=>cases bW c;trivial
 |name w=>cases bW c;trivial
 |fn w=>obtain⟨a,rfl⟩:=bF.mp c;trivial
 |tag w=>obtain⟨a,rfl⟩:=bF.mp c;trivial
 |get w=>obtain⟨a,rfl⟩:=bF.mp c;trivial
 |lt w=>
  match ps,c with
  |[a,b],_=>trivial
 |rcd l=>have c:ps.length=l.length:=c;have f:=h.1;refine⟨by rw[aE,b6];lia,?_⟩;rw[bH,show(Mb∘fun q:Str×Nat=>(q.1,(q.2:Int)))=Mb from rfl,cq O2];exact nd
 |case l=>
  match ps,c with
  |p::ps,c=>have c:=da.inj c;have f:=h.2.1;refine⟨by rw[aE,b6];lia,?_⟩;rw[bH,show(Mb∘fun q:(Str×Str)×Nat=>(q.1.1,q.1.2,(q.2:Int)))=Mb∘Mb from rfl,<-bH,cq O2];exact nd
 |row m=>have c:ps.length=m:=c;have g:m<=8:=h;show(ps.map _).length<=100;rw[aE];lia
 |op o m=>
  have c:ps.length=m:=c;have h:(o,m)∈NW:=h;have:o∈plain/\m<=3:=by simp only[NW,ao,Prod.mk.injEq,bI,or_false]at h;rcases h with⟨rfl,rfl⟩|⟨rfl,rfl⟩|⟨rfl,rfl⟩|⟨rfl,rfl⟩|⟨rfl,rfl⟩|⟨rfl,rfl⟩|⟨rfl,rfl⟩<;>exact⟨gL,O3⟩
  exact⟨this.1,by rw[aE];lia⟩
def KU(c:ps.length=κ.ar):(roK κ ps).d= .tup (κ.rw ps):=by
 have e:(fun p:Nat=>Og p)=kD∘fun p:Nat=>(p:Int):=rfl
 cases κ with
 |num n=>cases bW c;rfl
 |name w=>cases bW c;rfl
 |fn w=>obtain⟨a,rfl⟩:=bF.mp c;rfl
 |tag w=>obtain⟨a,rfl⟩:=bF.mp c;rfl
 |get w=>obtain⟨a,rfl⟩:=bF.mp c;rfl
 |lt w=>
  match ps,c with
  |[a,b],_=>rfl
 |rcd l=>show Dt.tup [sD "rec",.tup (((l.zip ps).map _).map fdD)]=_;rw[bH];rfl
 |case l=>
  match ps,c with
  |p::ps,_=>show Dt.tup [sD "case",kD p,.tup (((l.zip ps).map _).map amD)]=_;rw[bH];rfl
 |row m=>show Dt.tup [sD "row",.tup ((ps.map _).map kD)]=_;rw[bH];rfl
 |op o m=>show Dt.tup (sD o::(ps.map _).map kD)=_;rw[bH];rfl
mutual
theorem IV:∀(t:Tr) (p:Nat) (g:Str->Option Hm),t.ok->(plT t p g).map (fun x=>x.1.d)=t.rw p
 | .mk κ ks,p,g,h=>by unfold NY at h;rw[plT,aD,Ox,EZ ks _ _ _ h.2.2,KU (by rw[N0];exact h.2.1)]
theorem EZ:∀(ts:List Tr) (p:Nat) (es:List (Option (Str×Hm))) (g:Str->Option Hm),oks ts->(D7 ts p es g).map (fun x=>x.1.d)=Oc ts p
 |[],_,_,_,_=>by rw[D7,Oc];rfl
 |t::ts,p,es,g,h=>by unfold oks at h;rw[D7,bq,IV t _ _ h.1,EZ ts _ _ _ h.2,Oc]
end
theorem zT(e:ns[d]?=some w):∀{i:Nat},d<i->dom (G0 ns i) w
 |0,h=>absurd h (dh _)
 |i+ 1,h=>by
  unfold dom;rw[G0];by_cases z:d=i;·subst z;rw[e];exact fun z=>nomatch(ig rfl).symm.trans z
  ·have a:=zT e (show d<i by lia)
   cases ns[i]? with
   |none=>exact a
   |some x=>
    show(if w=x then some ((("def":Str),(i:Int)):Hm)else G0 ns i w)≠none;split;·exact fun z=>nomatch z
    ·exact a
theorem CO:∀{i:Nat},G0 ns i w=some (k,q)->k="def"/\∃d:Nat,q=(d:Int)/\d<i
 |0,h=>by cases h
 |i+ 1,h=>by
  rw[G0]at h;have f:G0 ns i w=some (k,q)->k="def"/\∃d:Nat,q=(d:Int)/\d<i+ 1:=fun h=>by refine eab (CO h) fun a=>faa fun d=>f8 fun b c=>?_;exact⟨a,d,b,O2⟩
  cases e:ns[i]? with
  |none=>rw[e]at h;exact f h
  |some x=>
   rw[e]at h;have h:(if w=x then some ((("def":Str),(i:Int)):Hm)else G0 ns i w)=some (k,q):=h;split at h;·cases h;exact⟨rfl,i,rfl,cO _⟩
   ·exact f h
def E1 (i:Nat):Cov i (fun _=>False) (G0 ns i) .nil:=fun _ _ _ h=> .inl (CO h)
def isFn:Tr->Bool
 | .mk (.fn _) _=>true
 |_=>false
def gD (ns:Zd) (i:Nat) (t:Tr):Str->Option Hm:=if isFn t=true then G0 ns (i+ 1)else G0 ns i
def IW(h:gD ns i t w=some (k,q)):k="def":=by unfold gD at h;split at h<;>exact(CO h).1
def pgG (ns:Zd):List Tr->Nat->Nat->Gl
 |[],_,_=>[]
 |t::ts,i,p=>plT t p (gD ns i t)++pgG ns ts (i+ 1) (p+t.sz)
theorem yP (ns:Zd):∀a i p,(pgG ns a i p).length=szs a
 |[],_,_=>rfl
 |t::a,i,p=>by rw[pgG,aR,vV,yP ns a,szs]
theorem IX (ns:Zd):∀a i p,oks a->(pgG ns a i p).map (fun x=>x.1.d)=Oc a p
 |[],_,_,_=>by rw[pgG,Oc];rfl
 |t::a,i,p,h=>by unfold oks at h;rw[pgG,bq,IV t _ _ h.1,IX ns a _ _ h.2,Oc]
def okD (ns:Zd):List Tr->Nat->Prop
 |[],_=>True
 |t::ts,i=>(t.ok/\okN t (dom (gD ns i t)))/\okD ns ts (i+ 1)
theorem yQ:∀{a:List Tr} {i:Nat},okD ns a i->oks a
 |[],_,_=>by unfold oks;trivial
 |t::a,i,h=>by unfold oks;exact⟨h.1.1,yQ h.2⟩
theorem D9:∀{d:List Tr} {i p:Nat} {l1:Gl},G=l1++pgG ns d i p->l1.length=p->okD ns d i->(∀k,p<=k->k<p+szs d->(∃t g,AtG G k t g)/\((∃j:Nat,(i6 d p)[j]?=some k)\/∃(m:Nat) (l:Ro) (o:Str->Option Hm),m<k/\G[m]?=some (l,o)/\(k:Int)∈l.pl))/\∀j r,(i6 d p)[j]?=some r->r<p+szs d/\∃t,AtG G r t (gD ns (i+j) t)
 |[],i,p,l1,_,_,_=>⟨fun k a b=>by(rw[szs]at b;lia),fun j r h=>by cases h⟩
 |t::d,i,p,l1,e,hl,h=>by
  rw[pgG]at e;have A:AtG G p t (gD ns i t):=⟨EN t e hl,h.1.1,h.1.2,fun w k q e n=>absurd (IW e) n⟩;have D:0<t.sz:=by cases t;rw[NU];lia
  obtain⟨B,C⟩:=D9 (G:=G) (by rw[e,bU]) (by rw[aR,hl,vV]) h.2;refine⟨fun k a b=>?_,fun j r f=>?_⟩
  ·rw[szs]at b;by_cases z:k<p+t.sz
   ·refine⟨L0 t A k a z,?_⟩;by_cases y:k=p;·subst y;exact .inl ⟨0,rfl⟩
    ·exact .inr (EX t A.1 A.2.1 k O2 z)
   ·obtain⟨x,v⟩:=B k O2 O2;refine⟨x,v.imp_left fun⟨j,f⟩=>⟨j+ 1,f⟩⟩
  ·rw[szs];match j,f with
   |0,f=>cases f;exact⟨O2,t,A⟩
   |j+ 1,f=>refine eab (C j r f) fun E=>faa fun u s=>?_;exact⟨O2,u,by rw[show i+(j+ 1)=i+ 1+j by lia];exact s⟩
def IY(h:ps.length=κ.ar):(roK κ ps).isF=isFn (.mk κ ks):=by
 cases κ with
 |fn w=>obtain⟨a,rfl⟩:=bF.mp h;rfl
 |tag w=>obtain⟨a,rfl⟩:=bF.mp h;rfl
 |get w=>obtain⟨a,rfl⟩:=bF.mp h;rfl
 |lt w=>
  match ps,h with
  |[a,b],_=>rfl
 |case l=>
  match ps,h with
  |p::ps,_=>rfl
 |_=>rfl
def E2 (G:Gl) (k:Nat):Str->Option Hm:=match G[k]? with
 |some x=>x.2
 |none=>fun _=>none
def yR(h:G[k]?=some (ρ,g)):E2 G k=g:=by unfold E2;rw[h]
def IZ(A:AtG G k t g) (h:(G.map Mb)[k]?=some ρ):∃b c,t= .mk b c/\ρ=roK b (i6 c (k+ 1))/\E2 G k=g:=by obtain⟨b,c⟩:=t;have a:=A.row.1;rw[aP,a]at h;exact ii b c ⟨rfl,(du.inj h).symm,yR a⟩
def GJ(nd:ns.Nodup) (I:ns.length<=12) (O:ts.length=ns.length) (H:okD ns ts 0) (R:szs ts<=160):Iy ns (i6 ts 0) ((pgG ns ts 0 0).map Mb) (E2 (pgG ns ts 0 0)):=by
 obtain⟨A,B⟩:=D9 (G:=pgG ns ts 0 0) (l1:=[]) rfl rfl H;have J:=yP ns ts 0 0;have Q:((pgG ns ts 0 0).map Mb).length=szs ts:=by rw[aE,J]
 have u:∀{k:Nat} {s:Ro},((pgG ns ts 0 0).map Mb)[k]?=some s->∃d q g,AtG (pgG ns ts 0 0) k (.mk d q) g/\s=roK d (i6 q (k+ 1))/\E2 (pgG ns ts 0 0) k=g:=fun{k s} h=>by have:=(av.mp h).1;refine eaq ((A k (cK _) O2).1) fun t g a=>?_;refine eap (IZ a h) fun d q o n y=>?_;subst o;exact iaa d q g ⟨a,n,y⟩
 refine⟨nd,I,by rw[N0,O],fun s hρ=>?_,O2,fun i r h=>by have:=(B i r h).1;lia,fun i r s h M=>?_,fun k s j c e v D P=>?_,fun k v=>?_,fun k x v=>?_⟩;·obtain⟨k,v⟩:=cu hρ;refine eai (u v) fun d q g a o _=>?_;subst o;refine ean a.row fun _ C f z=>?_;exact EY C f z
 ·refine eab (B i r h) fun _=>faa fun t a=>?_;refine eap (IZ a M) fun d q o F e=>?_;subst o;subst F;rw[e,cY,IY a.row.2.2.1];rfl
 ·refine eai (u v) fun d q g a o y=>?_;subst o;rw[(xE a.row.2.2.1).1,aP]at D;refine eaa (dA.mp D) fun m N o=>?_;subst o;refine eau (a.kid N) fun t _ b K _=>?_;rw[P]at b;refine⟨m,rfl,K,?_⟩;obtain⟨E,L⟩:=t;rw[yR b.row.1,y];rfl
 ·rcases(A k (cK _) O2).2 with h|⟨k',s,g',h1,C,f⟩;·exact .inl h
  ·exact .inr (ii k' s ⟨h1,by rw[aP,C];rfl,f⟩)
 ·refine eai (u v) fun d q g a n y=>?_;refine ean a.row fun _ _ f z=>?_;have:d= .name x:=by
   generalize i6 q (k+ 1)=ps at n f
   cases d with
   |name w=>cases n;rfl
   |fn w=>obtain⟨a,rfl⟩:=bF.mp f;cases n
   |tag w=>obtain⟨a,rfl⟩:=bF.mp f;cases n
   |get w=>obtain⟨a,rfl⟩:=bF.mp f;cases n
   |lt w=>
    match ps,f with
    |[a,b],_=>cases n
   |case l=>
    match ps,f with
    |p::ps,_=>cases n
   |_=>cases n
  subst this;rw[y];exact Option.ne_none_iff_exists'.mp z
def I0(d:okD ns ts 0):(∀j r,(i6 ts 0)[j]?=some r->DfA (pgG ns ts 0 0) j r)/\HoG (pgG ns ts 0 0) (fun k=>match(pgG ns ts 0 0)[k]? with|some x=>duo (E2 (pgG ns ts 0 0)) k x.1|none=>none):=by
 obtain⟨A,B⟩:=D9 (l1:=[]) rfl rfl d;refine⟨fun j r h=>?_,fun k w g h=>?_⟩
 ·refine eab (B j r h) fun _=>faa fun t a=>?_;rw[cY]at a;refine ii t _ ⟨a,?_⟩;unfold gD;obtain⟨b,c⟩:=t
  cases e:isFn (.mk b c)with
  |false=>rw[gZ fc];exact .inr (E1 j)
  |true=>
   rw[ig rfl]
   cases b with
   |fn w=>exact .inl (ii w c ⟨rfl,E1 _⟩)
   |_=>cases e
 ·dsimp only;rw[h];show E2 _ k w=g w;rw[yR h]
open GR.Internal (Op Gp toks isName WOk TAt mN)
def GK (x:Str):x.cps.toList.length=x.length:=by rw[fq];rfl
def zU (w:Str):Prop:=w.cps.toList≠[]/\∀k∈w.cps.toList,k≠32/\k≠10/\k≠40/\k≠41
def smfg:∀c∈(N5++N6).cps.toList,c≠32/\c≠10/\c≠40/\c≠41:=gL
def qu(h:NZ w=true):zU w/\w.length<=12:=by unfold NZ at h;simp only[fg,decide_eq_true_eq]at h;refine⟨⟨fun z=>?_,fun k a=>smfg k (Oj h.2 k a)⟩,h.1.1.1.2⟩;have:=GK w;rw[z]at this;have:=h.1.1.1.1;simp at*;lia
def fgp:∀c∈GR.Internal.FG.cps.toList,c≠32/\c≠10/\c≠40/\c≠41:=gL
def Ea(d:0<=n) (b:n<10^60):zU (N4 n)/\(N4 n).length<=60:=by refine eac (Ot d b) fun h g f=>?_;refine⟨⟨fun z=>?_,fun k a=>fgp k (h k a)⟩,f⟩;refine eaq (GR.Internal.first_of (x:=N4 n) g) fun c r e=>?_;rw[z]at e;cases e
def okW (w:Str):Prop:=w≠""/\w.length<=60/\∀c∈w.cps.toList,c<128
structure Gi (x:Str) (ts:Zd) (a b:Nat):Prop where
 op:Op x ts
 ln:x.length+ 1<=a
 wl:ts.length<=b
 ok:∀w∈ts,okW w
def CQ(a:zU x) (f:x.length<=n) (e:n<=60) (d:∀c∈x.cps.toList,c<128):Gi x [x] (n+ 1) 1:=by refine⟨Op.word a.1 a.2,O2,cJ _,fun w b=>?_⟩;rw[bo.mp b];refine⟨fun z=>a.1 (by rw[z];rfl),O2,d⟩
def KW:∀c∈(N5++N6).cps.toList,c<128:=gL
def KY:∀c∈GR.Internal.FG.cps.toList,c<128:=gL
def yS(h:isName w=true):Gi w [w] 13 1:=by obtain⟨d,b⟩:=qu h;refine CQ d b O3 fun c a=>KW c ?_;unfold isName at h;simp only[fg]at h;exact Oj h.2 c a
def Ja(e:0<=n) (d:n<10^60):Gi (N4 n) [N4 n] 61 1:=by obtain⟨a,b⟩:=Ea e d;refine eac (Ot e d) fun g _ _=>?_;exact CQ a b O3 fun c f=>KY c (g c f)
def Jb(f:d.length<=30000) (h:∀w∈d,okW w):WOk d:=⟨f,fun x e=>by refine eac (h x e) fun a b c=>?_;exact⟨a,O2,fun k g=>by have:=c k g;lia⟩⟩
mutual
def gF:Dt->Bool
 | .flat v=>(match v with| .int _=>true| .str _=>true|_=>false)
 | .tup ds=>decide (ds.length<=1000)&&gFs ds
 | .lst _=>false
def gFs:List Dt->Bool
 |[]=>true
 |d::ds=>gF d&&gFs ds
end
mutual
theorem Jc {K:Zp}:∀{x:V} {d:Dt},TAt K H x d->gF d=true->Im H x d
 |_,_,.flat h,g=> .flat (by
   rename_i v
   cases v with
   |int n=>rfl
   |str z=>rfl
   |_=>simp[gF]at g)
 |_,_,.tup h hs,g=>by rw[gF,fg]at g;exact .tup h (sd hs g.2)
theorem sd {K:Zp}:∀{xs:List V} {ds:List Dt},mN K H xs ds->gFs ds=true->Ims H xs ds
 |_,_,.nil,_=> .nil
 |_,_,.cons h t,g=>by rw[gFs,fg]at g;exact .cons (Jc h g.1) (sd t g.2)
end
theorem Jd:∀{a:List Nat} {xs:List V},Ims H xs (a.map Og)->xs=a.map fun k:Nat=>V.int (k:Int)
 |[],xs,h=>by cases h;rfl
 |p::a,xs,h=>by
  rw[aD,Og]at h
  cases h with
  |cons h t=>cases h;rw[Jd t];rfl
open GR.Internal (Op Gp toks isName WOk TAt mN)
open TM.Internal (Kn Tr i6 szs oks tks kn)
def CS(h:∀w∈b,okW w) (k:∀w∈us,okW w):∀w∈b++us,okW w:=fun w c=>(aq.mp c).elim (h w) (k w)
structure Gt (x:Str) (ts:Zd) (n:Nat):Prop where
 op:Op x ts
 l:x.length+ 1<=100*n
 k:ts.length<=10*n
 o:∀w∈ts,okW w
def vW (x:Str):x++""=x:=T1.str_ext (by rw[Ol];exact aF _)
def spS:List Str->Str
 |[]=>""
 |x::l=>" "++x++spS l
theorem CT:∀(l:Zd) h,My " " (h::l)=h++spS l
 |[],h=>by exact(vW h).symm
 |x::l,h=>by show h++" "++My " " (x::l)=h++(" "++x++spS l);rw[CT l x];simp only[Ob]
def GL (x:Str):("":Str)++x=x:=T1.str_ext (by rw[Ol];exact bV _)
theorem yT:∀a b,spS (a++b)=spS a++spS b
 |[],b=>(GL _).symm
 |x::a,b=>by rw[aU,spS,spS,yT a b];simp only[Ob]
structure Gs (xs us:Zd) (n k:Nat):Prop where
 op:∀{x:Str} {ts:Zd},Op x ts->Op (x++spS xs) (ts++us)
 l:(spS xs).length<=n
 k:us.length<=k
 o:∀w∈us,okW w
def Gs.nil:Gs [] [] 0 0:=⟨fun{x a} h=>by rw[aF];show Op (x++"") a;rw[vW];exact h,cJ _,cJ _,fun w b=>nomatch b⟩
def Gs.app {xs c vs:Zd} {n k d e:Nat} (a:Gs xs us n k) (b:Gs c vs d e):Gs (xs++c) (us++vs) (n+d) (k+e):=⟨fun{x f} h=>by rw[yT,<-Ob,<-bU];exact b.op (a.op h),by rw[yT,Mo];have:=a.l;have:=b.l;lia,by rw[aR];have:=a.k;have:=b.k;lia,CS a.o b.o⟩
def Gs.one {x:Str} {a:Zd} {n k:Nat} (g:Op x a) (e:x.length+ 1<=n) (c:a.length<=k) (b:∀w∈a,okW w):Gs [x] a n k:=⟨fun{y d} h=>by show Op (y++(" "++x++"")) _;rw[vW,<-Ob];exact h.gap.app_op g,by show(" "++x++"":Str).length<=_;rw[vW,Mo,show(" ":Str).length=1 by decide+kernel];lia,c,b⟩
def Gs.le {xs:Zd} {n k a b:Nat} (g:Gs xs us n k) (d:n<=a) (c:k<=b):Gs xs us a b:=⟨g.op,cF g.l d,cF g.k c,g.o⟩
def Gs.nm {w:Str} (h:isName w=true):Gs [w] [w] 13 1:=by have g:=yS h;exact .one g.op (by have:=g.ln;lia) (cJ _) g.ok
noncomputable def vX:List Str:=["rec","tag","get","case","fn","let","call","row","at","join","size","add","sub","less"]
def KZ:∀o∈vX,zU o/\o.length<=4/\okW o:=fun o h=>by simp only[vX,ao,bI,or_false]at h;rcases h with rfl|rfl|rfl|rfl|rfl|rfl|rfl|rfl|rfl|rfl|rfl|rfl|rfl|rfl<;>(refine⟨⟨?_,?_⟩,?_,?_,?_,?_⟩<;>decide+kernel)
def AO:okW "("/\okW ")"/\okW "def":=by refine⟨⟨?_,?_,?_⟩,⟨?_,?_,?_⟩,?_,?_,?_⟩<;>decide+kernel
def GN{o:Str} {xs:Zd} (c:o∈vX) (g:Gs xs us n k) (h:n+ 8<=100*m) (i:k+ 3<=10*m):Gt ("("++My " " (o::xs)++")") (("(":Str)::o::(us++[(")":Str)])) m:=by
 refine eac (KZ o c) fun a f b=>?_;have e:("(":Str)++My " " (o::xs)++")"="("++o++spS xs++")":=by rw[CT];simp only[Ob]
 have d:Gp "(" ["("]:=gL;have q:=(g.op (d.app_op (Op.word a.1 a.2))).close.op;have:=g.l;have:=g.k;refine⟨?_,?_,?_,fun w hw=>?_⟩;·rw[e];simpa only[aU,bV,bU]using q
 ·rw[e];simp only[Mo];rw[show("(":Str).length=1 by decide+kernel,show(")":Str).length=1 by decide+kernel];lia
 ·simp only[aB,aR,aV];lia
 ·rcases ao.mp hw with rfl|hw;·exact AO.1
  ·rcases ao.mp hw with rfl|hw;·exact b
   ·rcases aq.mp hw with hw|hw;·exact g.o w hw
    ·rw[bo.mp hw];exact AO.2.1
theorem zV:∀{l:Zd},(∀w∈l,w.length<=b)->(My z l).length<=l.length*(b+z.length)
 |[],_=>cK _
 |[w],h=>by have:=h w aj;show w.length<=1*_;lia
 |w::v::l,h=>by have:=zV (z:=z) fun x a=>h x (ak _ a);have:=h w aj;show(w++z++My z (v::l)).length<=_;rw[Mo,Mo,aB,Nat.succ_mul];lia
structure It where
 tx:Str
 ne:Nat
 wt:Nat
 mn:Nat->Nat
 own:Bool
 pl:Nat
 sh:Str
 mo:Str
noncomputable def txF:List (Option Str)->List It->List Str
 |some w::p,ts=>w::txF p ts
 |none::p,t::ts=>t.tx::txF p ts
 |none::_,[]=>[]
 |[],_=>[]
def wkF:List (Option Str)->List (List Str)->List Str
 |some w::p,ks=>w::wkF p ks
 |none::p,k::ks=>k++wkF p ks
 |none::_,[]=>[]
 |[],_=>[]
def cN:List (Option Str)->Nat
 |[]=>0
 |none::p=>cN p+ 1
 |some _::p=>cN p
def cS:List (Option Str)->Nat
 |[]=>0
 |none::p=>cS p
 |some _::p=>cS p+ 1
structure JI (it:It) (t:Tr):Prop where
 gt:Gt it.tx t.tk t.sz
 ok:t.ok
 ne:t.nest<=it.ne
 pl:t.sz=it.pl
 mo:it.sh="rec"\/it.sh="tag"->isName it.mo=true
 mw:∀v,it.mn v<=it.wt
theorem CU:∀p (qs:List (It×Tr)),cN p=qs.length->(∀w,some w∈p->isName w=true)->(∀q∈qs,JI q.1 q.2)->Gs (txF p (qs.map Mb)) (wkF p (tks (qs.map MC))) (100*szs (qs.map MC)+ 13*cS p) (10*szs (qs.map MC)+cS p)
 |[],[],_,_,_=> .nil
 |[],_::_,h,_,_=>by cases h
 |none::p,[],h,_,_=>by cases h
 |some w::p,qs,h,hw,hq=>by have a:=CU p qs h (fun v c=>hw v (ak _ c)) hq;exact((Gs.nm (hw w aj)).app a).le (by rw[cS];lia) (by rw[cS];lia)
 |none::p,q::qs,h,hw,hq=>by have a:=CU p qs (da.inj h) (fun v c=>hw v (ak _ c)) fun u d=>hq u (ak _ d);have g:=(hq q aj).gt;have b:=(Gs.one g.op g.l g.k g.o).app a;rw[aD,aD,tks,txF,wkF,szs,cS];exact b.le O2 O2
def neL:List It->Nat
 |[]=>0
 |t::ts=>max t.ne (neL ts)
def wtL:List It->Nat
 |[]=>0
 |t::ts=>t.wt+wtL ts
def plL:List It->Nat
 |[]=>0
 |t::ts=>t.pl+plL ts
def mnL (a:List It) (v:Nat):Nat:=match a with
 |[]=>0
 |t::a=>t.mn v+mnL a v
def owL:List It->Bool
 |[]=>false
 |t::ts=>t.own||owL ts
theorem L3 (t:It):∀f,neL (f++[t])=max (neL f) t.ne/\wtL (f++[t])=wtL f+t.wt/\plL (f++[t])=plL f+t.pl/\(∀v,mnL (f++[t]) v=mnL f v+t.mn v)/\owL (f++[t])=(owL f||t.own)
 |[]=>by simp[neL,wtL,plL,mnL,owL]
 |u::f=>by
  refine eae (L3 t f) fun a b c d e=>?_;refine⟨?_,?_,?_,fun v=>?_,?_⟩;·rw[aU,neL,neL,a];lia
  ·rw[aU,wtL,wtL,b];lia
  ·rw[aU,plL,plL,c];lia
  ·rw[aU,mnL,mnL,d];lia
  ·rw[aU,owL,owL,e,Bool.or_assoc]
def lO (d:List (Option Str)) (a:List It) (b c:Str):It:=⟨"("++My " " (txF d a)++")",neL a+ 1,1+wtL a,mnL a,owL a,1+plL a,b,c⟩
theorem L4:∀{a:List It},(∀p∈a,p.mn v<=p.wt)->mnL a v<=wtL a
 |[],_=>cJ _
 |p::a,h=>by have:=h p aj;have:=L4 fun q b=>h q (ak _ b);rw[mnL,wtL];lia
theorem L5:∀{qs:List (It×Tr)},(∀q∈qs,JI q.1 q.2)->kn (qs.map MC)<=neL (qs.map Mb)/\szs (qs.map MC)=plL (qs.map Mb)/\oks (qs.map MC)
 |[],_=>⟨cJ _,rfl,by unfold oks;trivial⟩
 |q::qs,h=>by refine eac (L5 fun u d=>h u (ak _ d)) fun a b c=>?_;have j:=h q aj;have:=j.ne;have:=j.pl;rw[aD,aD,kn,neL,szs,plL,oks];exact⟨O2,O2,j.ok,c⟩
def JI.node {d:Kn} {o:Str} {p:List (Option Str)} {qs:List (It×Tr)} (f:∀q∈qs,JI q.1 q.2) (j:o∈vX) (h:d.tk (tks (qs.map MC))=("(":Str)::o::(wkF p (tks (qs.map MC))++[(")":Str)])) (m:cN p=qs.length) (k:∀w,some w∈p->isName w=true) (r:cS p<=5) (g:d.ok) (n:qs.length=d.ar) (l:sh="rec"\/sh="tag"->isName mo=true):JI (lO (some o::p) (qs.map Mb) sh mo) (.mk d (qs.map MC)):=by
 refine eac (L5 f) fun a b c=>?_;refine⟨?_,?_,?_,?_,l,fun v=>?_⟩;·rw[NV,h,NU];exact GN j (CU p qs m k f) O2 O2
 ·rw[NY];exact⟨g,by rw[aE];exact n,c⟩
 ·rw[Oa];show _<=neL _+ 1;lia
 ·rw[NU,b];rfl
 ·show mnL _ v<=1+wtL _;have:=L4 fun p i=>by obtain⟨q,e,rfl⟩:=bh.mp i;exact(f q e).mw v
  lia
def Nf (ws:Zd) (m:Nat) (it:It) (w:Str):Prop:=(∃v,v<3/\ws[v]?=some w/\it.mn v≠0)\/(∃d,d<m/\ws[3+d]?=some w)\/(it.own=true/\ws[3+m]?=some w)
def mj (it:It) (v:Nat):It:={it with mn:=fun k=>if k=v then 0 else it.mn k}
def mj.ji {it:It} {t:Tr} (h:JI it t) (v:Nat):JI (mj it v) t:=⟨h.gt,h.ok,h.ne,h.pl,h.mo,fun k=>by
 show(if k=v then 0 else it.mn k)<=it.wt;split;·exact cK _
 ·exact h.mw k⟩
def Nf.held {ws:Zd} {m v:Nat} {it:It} {w x:Str} (a:ws[v]?=some x) (h:Nf ws m it w):w=x\/Nf ws m (mj it v) w:=by
 rcases h with⟨k,k3,e,n⟩|h|h
 ·by_cases z:k=v;·subst z;rw[a]at e;exact .inl (du.inj e).symm
  ·exact .inr (.inl ⟨k,k3,e,by show(if k=v then 0 else it.mn k)≠0;rw[gZ z];exact n⟩)
 ·exact .inr (.inr (.inl h))
 ·exact .inr (.inr (.inr h))
theorem CV:∀{a:List It},it∈a->it.mn v<=mnL a v
 |p::a,h=>by
  rw[mnL];rcases ao.mp h with rfl|h;·lia
  ·have:=CV (v:=v) h;lia
theorem CW:∀{a:List It},it∈a->it.own=true->owL a=true
 |p::a,h,e=>by
  rw[owL];rcases ao.mp h with rfl|h;·rw[e];rfl
  ·rw[CW h e,Bool.or_true]
def Nf.sub {ws:Zd} {m:Nat} {it d:It} {c:List It} {w:Str} (f:it∈c) (j:∀v,mnL c v<=d.mn v) (i:owL c=true->d.own=true) (h:Nf ws m it w):Nf ws m d w:=by
 rcases h with⟨k,g,e,n⟩|h|⟨a,b⟩;·have:=CV (v:=k) f;have:=j k;exact .inl ⟨k,g,e,O2⟩
 ·exact .inr (.inl h)
 ·exact .inr (.inr ⟨i (CW f a),b⟩)
structure JN (ws:Zd) (m:Nat) (it:It) (t:Tr):Prop where
 j:JI it t
 n:okN t (Nf ws m it)
def Kid (ws:Zd) (m:Nat) (it:It) (t:Tr) (b:Option Str):Prop:=JI it t/\okN t (adN (Nf ws m it) b)
def JN.kid {ws:Zd} {m:Nat} {it:It} {t:Tr} (h:JN ws m it t) (b:Option Str):Kid ws m it t b:=⟨h.j,lR t (fun w z=>by cases b with|none=>exact z|some x=>exact .inr z) h.n⟩
def JN.bind {ws:Zd} {m v:Nat} {x:Str} {it:It} {t:Tr} (h:JN ws m it t) (a:ws[v]?=some x):Kid ws m (mj it v) t (some x):=⟨mj.ji h.j v,lR t (fun w z=>z.held a) h.n⟩
inductive E3 (ws:Zd) (m:Nat):List (It×Tr)->List (Option Str)->Prop
 |nil {bs:List (Option Str)}:E3 ws m [] bs
 |cons {q:It×Tr} {qs:List (It×Tr)} {bs:List (Option Str)} (h:Kid ws m q.1 q.2 (bs.headD none)) (r:E3 ws m qs bs.tail):E3 ws m (q::qs) bs
def E3.ji {ws:Zd} {m:Nat} {qs:List (It×Tr)} {b:List (Option Str)} (h:E3 ws m qs b):∀q∈qs,JI q.1 q.2:=by
 induction h with
 |nil=>intro q hq;cases hq
 |cons h r a=>
  intro q hq;rcases ao.mp hq with rfl|hq;·exact h.1
  ·exact a q hq
def E3.ok {ws:Zd} {m:Nat} {b:It} {a:List It} (i:∀v,mnL a v<=b.mn v) (g:owL a=true->b.own=true) {qs:List (It×Tr)} {d:List (Option Str)} (h:E3 ws m qs d):(∀q∈qs,q.1∈a)->wm (qs.map MC) d (Nf ws m b):=by
 induction h with
 |nil=>intro _;unfold wm;trivial
 |cons h r e=>intro c;rw[aD];unfold wm;exact⟨lR _ (zQ (fun w z=>z.sub (c _ aj) i g) _) h.2,e fun q f=>c q (ak _ f)⟩
theorem JN.node {ws:Zd} {m:Nat} {a:Kn} {o:Str} {p:List (Option Str)} {qs:List (It×Tr)} (b:E3 ws m qs (bnK a)) (f:o∈vX) (d:a.tk (tks (qs.map MC))=("(":Str)::o::(wkF p (tks (qs.map MC))++[(")":Str)])) (i:cN p=qs.length) (g:∀w,some w∈p->isName w=true) (j:cS p<=5) (c:a.ok) (k:qs.length=a.ar) (h:sh="rec"\/sh="tag"->isName mo=true) (nd:∀N,ndK a N):JN ws m (lO (some o::p) (qs.map Mb) sh mo) (.mk a (qs.map MC)):=by refine⟨JI.node b.ji f d i g j c k h,?_⟩;unfold okN;exact⟨nd _,b.ok (fun v=>cJ _) id fun q e=>bh.mpr ⟨q,e,rfl⟩⟩
open GR.Internal (Op Gp toks isName)
open TM.Internal (Kn Tr i6 szs oks tks kn)
def xG (x:Str) (a:Nat) (b c:Str):It:=⟨x,1,a,fun _=>0,false,1,b,c⟩
def xH {P:Prop} {s:Str} (a:s≠"rec") (b:s≠"tag") (h:s="rec"\/s="tag"):P:=absurd h fun h=>h.elim a b
def qv {P:Prop} (h:("any":Str)="rec"\/("any":Str)="tag"):P:=xH gL gL h
def zW {P:Prop} (h:("num":Str)="rec"\/("num":Str)="tag"):P:=xH gL gL h
def zX {P:Prop} (h:("row":Str)="rec"\/("row":Str)="tag"):P:=xH gL gL h
def Je {P:Prop} (h:("fn":Str)="rec"\/("fn":Str)="tag"):P:=xH gL gL h
def GO {P:Prop} (h:("both":Str)="rec"\/("both":Str)="tag"):P:=xH gL gL h
def vY:oks []:=by unfold oks;trivial
def uS(b:0<=n) (a:n<10^60):JN ws m (xG (N4 n) 1 "num" "") (.mk (.num n) []):=by
 have g:=Ja b a;refine⟨⟨⟨?_,?_,?_,?_⟩,?_,?_,?_,zW,fun _=>cK _⟩,?_⟩;·rw[NV];exact g.op
 ·rw[NU,szs];have:=g.ln;show(N4 n).length+ 1<=_;lia
 ·rw[NV,NU,szs];show 1<=_;lia
 ·rw[NV];exact g.ok
 ·rw[NY];exact⟨⟨b,a⟩,rfl,vY⟩
 ·rw[Oa,kn];exact cJ _
 ·rw[NU,szs];rfl
 ·unfold okN wm;exact⟨trivial,trivial⟩
def xI(h:isName x=true) (b:sh="rec"\/sh="tag"->isName mo=true) (a:∀v,mn v<=wt):JI ⟨x,1,wt,mn,own,1,sh,mo⟩ (.mk (.name x) []):=by
 have g:=yS h;refine⟨⟨?_,?_,?_,?_⟩,?_,?_,?_,b,a⟩;·rw[NV];exact g.op
 ·rw[NU,szs];have:=g.ln;lia
 ·rw[NV,NU,szs];show 1<=_;lia
 ·rw[NV];exact g.ok
 ·rw[NY];exact⟨h,rfl,vY⟩
 ·rw[Oa,kn];exact cJ _
 ·rw[NU,szs]
def xJ(h:N x):okN (.mk (.name x) []) N:=by unfold okN wm;exact⟨h,trivial⟩
def zY:(∀a,isName a=true->JN ws m (xG "(rec)" 1 "rec" a) (.mk (.rcd []) []))/\JN ws m (xG "(row)" 1 "row" "") (.mk (.row 0) []):=by
 have c:=AO;have i:=(KZ "rec" gL).2.2;have h:=(KZ "row" gL).2.2;have b:∀{o:Str},okW o->∀w∈(["(",o,")"]:Zd),okW w:=fun d w hw=>by
  rcases ao.mp hw with rfl|hw;·exact c.1
  ·rcases ao.mp hw with rfl|hw;·exact d
   ·rw[bo.mp hw];exact c.2.1
 have g:Gp "(rec)" ["(","rec",")"]:=gL;have f:Gp "(row)" ["(","row",")"]:=gL;refine⟨fun a e=>⟨⟨⟨?_,?_,?_,?_⟩,?_,?_,?_,fun _=>e,fun _=>cK _⟩,?_⟩,⟨⟨?_,?_,?_,?_⟩,?_,?_,?_,zX,fun _=>cK _⟩,?_⟩;·rw[NV];exact g.op
 ·rw[NU,szs];show("(rec)":Str).length+ 1<=_;decide+kernel
 ·rw[NV,NU,szs];show 3<=_;lia
 ·rw[NV];exact b i
 ·rw[NY];exact⟨⟨O3,fun w hw=>nomatch hw⟩,rfl,vY⟩
 ·rw[Oa,kn];exact cJ _
 ·rw[NU,szs];rfl
 ·unfold okN wm;exact⟨aX,trivial⟩
 ·rw[NV];exact f.op
 ·rw[NU,szs];show("(row)":Str).length+ 1<=_;decide+kernel
 ·rw[NV,NU,szs];show 3<=_;lia
 ·rw[NV];exact b h
 ·rw[NY];exact⟨by show 0<=8;decide,rfl,vY⟩
 ·rw[Oa,kn];exact cJ _
 ·rw[NU,szs];rfl
 ·unfold okN wm;exact⟨trivial,trivial⟩
section
variable {ws:Zd} {m v:Nat} {x w:Str} {a b c:It} {t u r:Tr} {sh mo:Str}
def kO{P:Str->Prop} (h:P w) (a:∀v,some v∈p->P v):∀v,some v∈some w::p->P v:=fun v hv=>by
 rcases ao.mp hv with e|hv;·cases e;exact h
 ·exact a v hv
def jU{P:Str->Prop} (a:∀v,some v∈p->P v):∀v,some v∈none::p->P v:=fun v hv=>by
 rcases ao.mp hv with e|hv;·cases e
 ·exact a v hv
def nE {P:Str->Prop}:∀v,some v∈([]:List (Option Str))->P v:=fun v a=>nomatch a
def lb {a b:Nat} (h:Nat.ble a b=true):a<=b:=Nat.le_of_ble_eq_true h
def GP (h:Kid ws m a t (some x)) (b:isName x=true):JN ws m (lO [some "fn",some x,none] [a] "fn" "") (.mk (.fn x) [t]):=JN.node (qs:=[(a,t)]) (.cons h .nil) gL rfl rfl (kO b (jU nE)) (lb rfl) b rfl Je fun _=>trivial
def Jf (h:JN ws m a t) (b:isName x=true):JN ws m (lO [some "tag",some x,none] [a] "tag" x) (.mk (.tag x) [t]):=JN.node (qs:=[(a,t)]) (.cons (h.kid _) .nil) gL rfl rfl (kO b (jU nE)) (lb rfl) b rfl (fun _=>b) fun _=>trivial
def E4 (h:JN ws m a t) (b:isName x=true):JN ws m (lO [some "get",none,some x] [a] "any" "") (.mk (.get x) [t]):=JN.node (qs:=[(a,t)]) (.cons (h.kid _) .nil) gL (by show _::_::((t.tk++[])++[x]++[_])=_::_::((t.tk++[x])++[_]);rw[aF];rfl) rfl (jU (kO b nE)) (lb rfl) b rfl qv fun _=>trivial
def GQ (h:JN ws m a t) (b:isName x=true):JN ws m (lO [some "rec",some x,none] [a] "rec" x) (.mk (.rcd [x]) [t]):=JN.node (qs:=[(a,t)]) (.cons (h.kid _) .nil) gL rfl rfl (kO b (jU nE)) (lb rfl) ⟨lb rfl,fun v c=>by rw[bo.mp c];exact b⟩ rfl (fun _=>b) fun _=>aG.mpr ⟨(fun z=>nomatch z),aX⟩
def GS (h:JN ws m a t) (f:JN ws m b u) (d:isName x=true) (c:isName w=true) (e:x≠w):JN ws m (lO [some "rec",some x,none,some w,none] [a,b] "rec" w) (.mk (.rcd [x,w]) [t,u]):=JN.node (qs:=[(a,t),(b,u)]) (.cons (h.kid _) (.cons (f.kid _) .nil)) gL rfl rfl (kO d (jU (kO c (jU nE)))) (lb rfl) ⟨lb rfl,fun v hv=>by
  rcases ao.mp hv with rfl|hv;·exact d
  ·rw[bo.mp hv];exact c⟩ rfl (fun _=>c) fun _=>aG.mpr ⟨fun z=>e (bo.mp z),aG.mpr ⟨(fun z=>nomatch z),aX⟩⟩
def GU (h:JN ws m a t):JN ws m (lO [some "row",none] [a] "row" "") (.mk (.row 1) [t]):=JN.node (qs:=[(a,t)]) (.cons (h.kid _) .nil) gL rfl rfl (jU nE) (lb rfl) (by show 1<=8;decide) rfl zX fun _=>trivial
def GV (h:JN ws m a t) (c:JN ws m b u):JN ws m (lO [some "row",none,none] [a,b] "row" "") (.mk (.row 2) [t,u]):=JN.node (qs:=[(a,t),(b,u)]) (.cons (h.kid _) (.cons (c.kid _) .nil)) gL rfl rfl (jU (jU nE)) (lb rfl) (by show 2<=8;decide) rfl zX fun _=>trivial
def Jg {o:Str} (b:(o,1)∈NW) (d:o∈vX) (h:JN ws m a t) (c:sh="rec"\/sh="tag"->isName mo=true):JN ws m (lO [some o,none] [a] sh mo) (.mk (.op o 1) [t]):=JN.node (qs:=[(a,t)]) (.cons (h.kid _) .nil) d rfl rfl (jU nE) (lb rfl) b rfl c fun _=>trivial
def rN {o:Str} (c:(o,2)∈NW) (e:o∈vX) (h:JN ws m a t) (f:JN ws m b u) (d:sh="rec"\/sh="tag"->isName mo=true):JN ws m (lO [some o,none,none] [a,b] sh mo) (.mk (.op o 2) [t,u]):=JN.node (qs:=[(a,t),(b,u)]) (.cons (h.kid _) (.cons (f.kid _) .nil)) e rfl rfl (jU (jU nE)) (lb rfl) c rfl d fun _=>trivial
def Jh (h:JN ws m a t) (e:JN ws m b u) (d:JN ws m c r):JN ws m (lO [some "at",none,none,none] [a,b,c] "any" "") (.mk (.op "at" 3) [t,u,r]):=JN.node (qs:=[(a,t),(b,u),(c,r)]) (.cons (h.kid _) (.cons (e.kid _) (.cons (d.kid _) .nil))) gL rfl rfl (jU (jU (jU nE))) (lb rfl) (by show _∈NW;decide+kernel) rfl qv fun _=>trivial
def Eb (h:JN ws m a t) (f:Kid ws m b u (some x)) (d:isName w=true) (c:isName x=true):JN ws m (lO [some "case",none,some w,some x,none] [a,b] "any" "") (.mk (.case [(w,x)]) [t,u]):=JN.node (qs:=[(a,t),(b,u)]) (.cons (h.kid _) (.cons f .nil)) gL rfl rfl (jU (kO d (kO c (jU nE)))) (lb rfl) ⟨lb rfl,lb rfl,fun p e=>by rw[bo.mp e];exact⟨d,c⟩⟩ rfl qv fun _=>aG.mpr ⟨(fun z=>nomatch z),aX⟩
def zZ(h:JN ws m a t) (l:Kid ws m b u (some x)) (f:Kid ws m c r (some x')) (i:isName w=true) (g:isName x=true) (e:isName w'=true) (d:isName x'=true) (j:w≠w') (k:sh="rec"\/sh="tag"->isName mo=true):JN ws m (lO [some "case",none,some w,some x,none,some w',some x',none] [a,b,c] sh mo) (.mk (.case [(w,x),(w',x')]) [t,u,r]):=JN.node (qs:=[(a,t),(b,u),(c,r)]) (.cons (h.kid _) (.cons l (.cons f .nil))) gL rfl rfl (jU (kO i (kO g (jU (kO e (kO d (jU nE))))))) (lb rfl) ⟨lb rfl,lb rfl,fun p hp=>by
  rcases ao.mp hp with rfl|hp;·exact⟨i,g⟩
  ·rw[bo.mp hp];exact⟨e,d⟩⟩ rfl k fun _=>aG.mpr ⟨fun z=>j (bo.mp z),aG.mpr ⟨(fun z=>nomatch z),aX⟩⟩
noncomputable def CY (x:Str) (v:Nat) (a b:It):It:=
 let n:=lO [some "let",some x,none,none] [a,mj b v] b.sh b.mo
 {n with wt:=n.wt+b.mn v*a.wt,mn:=fun k=>n.mn k+b.mn v*a.mn k}
def E5 (h:JN ws m a t) (d:JN ws m b u) (f:ws[v]?=some x) (c:isName x=true):JN ws m (CY x v a b) (.mk (.lt x) [t,u]):=by
 have g:JN ws m (lO [some "let",some x,none,none] [a,mj b v] b.sh b.mo) (.mk (.lt x) [t,u]):=JN.node (qs:=[(a,t),(mj b v,u)]) (.cons (h.kid _) (.cons (d.bind f) .nil)) gL rfl rfl (kO c (jU (jU nE))) (lb rfl) c rfl d.j.mo fun _=>trivial;obtain⟨⟨r,q,p,o,l,j⟩,i⟩:=g;refine⟨⟨r,q,p,o,l,fun k=>Nat.add_le_add (j k) (Nat.mul_le_mul_left _ (h.j.mw k))⟩,lR _ (fun w z=>?_) i⟩;rcases z with⟨k,k3,e,n⟩|z|z;·exact .inl ⟨k,k3,e,fun y=>n (Nat.eq_zero_of_add_eq_zero_right y)⟩
 ·exact .inr (.inl z)
 ·exact .inr (.inr z)
end
def L6:("abcdefghijklmnopqrstuvwxyz0123456789":Str).cps.toList.length=36:=gL
def emN(a:Int) (h:0<m):∃n:Nat,a%m=(n:Int)/\(n:Int)<m:=by have:=fD a (fE h);have:=fF a h;exact⟨(a%m).toNat,O2,O2⟩
def pY (c:Nat):(⟨#[c]⟩:Str).length=1:=rfl
def sgn (k:Nat):Nat:=("abcdefghijklmnop":Str).cps.toList.getD k 0
def w1 (A B:Str) (k:Nat):Str:=A++⟨#[sgn k]⟩++B
def t7 (z:Int):Nat:=(atI ("t7":Str).cps.toList z).getD 0
def part (j:Nat):Int:=([8,4,2,1]:List Int).getD j 1
def bit (k j:Nat):Nat:=t7 ((0+(k:Int))/part j%2)
def w2 (x:Str) (k:Nat):Nat->Str
 |0=>x
 |j+ 1=>w2 x k j++⟨#[bit k j]⟩
def CZ(h:i<l.length):atI l (0+(i:Int))=some (l.getD i 0):=by rw[fG,bu,bE h];exact fZ (bE h)
def oF (a b:Str):(a++b).cps.toList=a.cps.toList++b.cps.toList:=fw
def K0{j:Int} (b:0<=j) (a:j<=x.length):(Nn x none (some j)).cps.toList=x.cps.toList.take j.toNat:=by have e:=eq_of_beq (PyProof.Rows.slice_closes_to ⟨b,a⟩);rw[e];show((x.cps.toList.drop 0).take (j-0).toNat)=_;rw[cj,Int.sub_zero]
def GW{j:Int} (b:0<=j) (a:j<=x.length):(Nn x (some j) none).cps.toList=x.cps.toList.drop j.toNat:=by have e:=eq_of_beq (PyProof.Rows.slice_closes_from ⟨b,a⟩);rw[e];show((x.cps.toList.drop j.toNat).take ((x.cps.toList.length:Int)-j).toNat)=_;rw[cg];rw[aZ];lia
def GX:∀c∈("abcdefghijklmnopqrstuvwxyz0123456789":Str).cps.toList,c∈(N5++N6).cps.toList:=gL
def Ji:∀c∈GR.Internal.SM.cps.toList,c∈(N5++N6).cps.toList:=gL
def GY:∀i,i<26->("abcdefghijklmnopqrstuvwxyz0123456789":Str).cps.toList.getD i 0∈GR.Internal.SM.cps.toList:=gL
def Nms (x:Str):Prop:=(∃c r,x.cps.toList=c::r/\c∈GR.Internal.SM.cps.toList)/\∀c∈x.cps.toList,c∈(N5++N6).cps.toList
def Jj:∀v∈Oe,∃s,v= .str s/\s.length<=4:=fun v a=>by unfold Oe at a;simp only[ao,bI,or_false]at a;rcases a with rfl|rfl|rfl|rfl|rfl|rfl|rfl|rfl|rfl|rfl|rfl|rfl|rfl|rfl|rfl<;>exact⟨_,rfl,gL⟩
def Jk(e:w.cps.toList=l) (p:5<=l.length) (f:l.length<=12) (a:∃c,l[0]?=some c/\c∈GR.Internal.SM.cps.toList) (m:∀c∈l,c∈(N5++N6).cps.toList):NZ w=true:=by
 have j:w.length=l.length:=by rw[<-e];rfl
 refine eaa a fun c a b=>?_;have o:Ou w N5=true:=by
  unfold Ou;rw[e]
  cases l with
  |nil=>cases a
  |cons d r=>cases a;exact gT b
 have n:GR.Internal.allIn w (N5++N6)=true:=bD.mpr fun c b=>gT (m c (e▸b));have k:inV (.str w) Oe=false:=by
  cases z:inV (.str w) Oe with
  |false=>rfl
  |true=>unfold inV at z;refine eaa (bj.mp z) fun y h q=>?_;refine eaa (Jj y h) fun s g i=>?_;subst g;have:=eq_of_beq (show(s==w)=true from q);rw[this]at i;lia
 unfold NZ;rw[j,gT (by lia:1<=l.length),gT f,k,o,n];rfl
def E6:∀k,k<16->sgn k∈GR.Internal.SM.cps.toList:=gL
def Jl:∀k,k<16->∀c∈[bit k 0,bit k 1,bit k 2,bit k 3],c∈(N5++N6).cps.toList:=gL
def K4{a:Int} (g:Nms x) (n:4<=x.length) (j:x.length<=11) (f:0<=a) (e:a<=x.length) (c:k<16):NZ (w1 (Nn x none (some a)) (Nn x (some a) none) k)=true:=by
 have m:x.cps.toList.length=x.length:=rfl;obtain⟨⟨l,r,i,h⟩,b⟩:=g;refine Jk (by rw[w1,oF,oF,K0 f e,GW f e]) ?_ ?_ ?_ ?_;·rw[aR,aR,bc,aM,aZ];lia
 ·rw[aR,aR,bc,aM,aZ];lia
 ·by_cases z:a.toNat=0;·rw[z];exact⟨sgn k,rfl,E6 k c⟩
  ·refine⟨l,?_,h⟩;rw[bU,aO (by rw[aM];lia),List.getElem?_take,ig O2,i];rfl
 ·intro d hd;rcases aq.mp hd with hd|hd
  ·rcases aq.mp hd with hd|hd;·exact b d (List.mem_of_mem_take hd)
   ·rw[bo.mp hd];exact Ji _ (E6 k c)
  ·exact b d (bT hd)
def E7 (x:Str) (k:Nat):(w2 x k 4).cps.toList=x.cps.toList++[bit k 0,bit k 1,bit k 2,bit k 3]:=by simp only[w2,oF,bU];rfl
def K5(c:Nms x) (i:x.length<=8) (f:k<16):NZ (w2 x k 4)=true:=by
 have h:x.cps.toList.length=x.length:=rfl;obtain⟨⟨g,r,b,e⟩,a⟩:=c;refine Jk (E7 x k) ?_ ?_ ⟨g,by rw[b];rfl,e⟩ ?_;·rw[aR,b];show 5<=r.length+ 1+ 4;lia
 ·rw[aR];show _+ 4<=12;lia
 ·intro d hd;rcases aq.mp hd with hd|hd;·exact a d hd
  ·exact Jl k f d hd
def GZ:∀i,i<16->∀j,j<16->sgn i=sgn j->i=j:=gL
def Jn (A B:Str) (c:i<16) (b:j<16) (e:w1 A B i=w1 A B j):i=j:=by have h:=congrArg (fun z:Str=>z.cps.toList) e;simp only[w1,oF]at h;have d:=cx (List.append_cancel_right h);injection d with h3 _;exact GZ i c j b h3
def G1:∀i,i<16->∀j,j<16->[bit i 0,bit i 1,bit i 2,bit i 3]=[bit j 0,bit j 1,bit j 2,bit j 3]->i=j:=gL
def Jo (x:Str) (c:i<16) (b:j<16) (e:w2 x i 4=w2 x j 4):i=j:=by have h:=congrArg (fun z:Str=>z.cps.toList) e;simp only[E7]at h;exact G1 i c j b (cx h)
def nd16 {f:Nat->Str} (h:∀{i j:Nat},i<16->j<16->f i=f j->i=j):((aa 16).map f).Nodup:=by refine List.pairwise_map.mpr ((List.nodup_range).imp_of_mem fun c b a e=>a (h (ag.mp c) (ag.mp b) e))
def uT {f:Nat->Str} (i:Nat):(aa (i+ 1)).map f=(aa i).map f++[f i]:=by rw[List.range_succ,bq];rfl
structure Wd (H:Hp) (l:Zx) (ws:Zd):Prop where
 e:H l=some (.lst (ws.map V.str))
 l:ws.length=16
 n:∀x∈ws,NZ x=true
 d:ws.Nodup
def xK:Sp:=fun a H Q _=>∃(c:Int) (m:Nat),a=[.int c,.int (m:Int)]/\1<=m/\m<=100/\∀x,x.length=m->Nms x->Q (.str x) H
def xM (T:Txt K mg):FO P w base 1 T.d36 xK:=by
 refine T.d36.F.rd jb fun _ A _ s H R Q E U h=>?_;refine eaj h fun c m a Z Y q=>?_;subst a;refine HzX ?_;intro _;refine⟨_,(fW (pS (i:=2) jb.nd gh)
  (fW (pS (i:=3) jb.nd gh)
  (fW (jX Mh rfl (ko rfl T.z_range (fV (cv 1) fY)) (pN (i:=4) jb.nd)
   (fW (pS (i:=5) jb.nd fX)
   (fW (gM (gq iA (cv 4) fX)
    (f9 (pS (i:=5) jb.nd fX))
    gA)
   (fW (pS (i:=3) jb.nd (gP ku (cv 3) (gk BQ (cv 2) (gP iE (cv 0) (cv 5)))))
   (f9 (pS (i:=0) jb.nd (gP kr (cv 0) fX)))))))
  (f9 (gC (cv 3)))))),?_⟩;refine Hz3 ?_;intros;have S:=L9;refine⟨_,rfl,O2,O2,nL (fun i t F=>∃(y:Str) (c:Int) (o v:Option V),t=[some (.int c),some (.int (m:Int)),some (.str "abcdefghijklmnopqrstuvwxyz0123456789"),some (.str y),o,v]/\F=H/\y.length=i/\(∀c∈y.cps.toList,c∈(N5++N6).cps.toList)/\(0<i->∃c r,y.cps.toList=c::r/\c∈GR.Internal.SM.cps.toList))
  (io ("") c none none ⟨rfl,rfl,rfl,(fun c M=>nomatch M),fun z=>absurd z O3⟩) ?_ ?_⟩
 ·refine fun i t F X=>fal fun y c o v=>faj fun a u G C p=>?_;subst a;subst u;have l:∀n,(n=26\/n=36)->(0<i\/n=26)->∃b,atI ("abcdefghijklmnopqrstuvwxyz0123456789":Str).cps.toList (c%n)=some b/\∃k,y++⟨#[b]⟩=k/\k.length=i+ 1/\(∀c∈k.cps.toList,c∈(N5++N6).cps.toList)/\∃c r,k.cps.toList=c::r/\c∈GR.Internal.SM.cps.toList:=fun n W B=>by
   have I:(0:Int)<n:=O2
   have O:=fD c (fE I);have a1:=fF c I;refine eaa (Ez ("abcdefghijklmnopqrstuvwxyz0123456789":Str).cps.toList (c%n) O (by rw[L6];lia)) fun b e L=>?_;refine⟨b,e,_,rfl,by rw[Mo,pY,G],fun d hd=>?_,?_⟩
   ·rw[oF]at hd;rcases aq.mp hd with hd|hd;·exact C d hd
    ·rw[bo.mp hd];exact GX _ L
   ·rw[oF];rcases B with z|z;·refine eah (p z) fun d r hd x=>?_;exact ii d (r++[b]) ⟨by rw[hd];rfl,x⟩
    ·by_cases iz:0<i;·refine eah (p iz) fun d r hd x=>?_;exact ii d (r++[b]) ⟨by rw[hd];rfl,x⟩
     ·have N:=bW (show y.length=0 by lia);refine ii b ([]) ⟨by rw[N];rfl,?_⟩;have D:=GY (c%n).toNat O2;have J:=CZ (i:=(c%n).toNat) (by rw[L6];lia);rw[show(0:Int)+((c%n).toNat:Int)=c%n by lia,e]at J;rw[du.inj J];exact D
  show(if(false ^^ decide ((0:Int)+(i:Int)=0))=true then _ else _);rw[fj];by_cases z:(0:Int)+(i:Int)=0;·rw[gT z];refine eal (l 26 (.inl rfl) (.inr rfl)) fun b=>f8 fun e=>faa fun k=>fam fun a j g f=>?_;subst a;exact iK ⟨(by show(0:Int)<26;decide),sz gL,gf e ⟨by rw[pY];lia,⟨O3,O3⟩,_,_,_,_,rfl,rfl,j,g,fun _=>f⟩⟩
  ·rw[hV z];refine eal (l 36 (.inr rfl) (.inl O2)) fun b=>f8 fun e=>faa fun k=>fam fun a j g f=>?_;subst a;exact ij ⟨(by show(0:Int)<36;decide),sz gL,gf e ⟨by rw[pY];lia,⟨O3,O3⟩,_,_,_,_,rfl,rfl,j,g,fun _=>f⟩⟩
 ·refine fun t F=>fal fun y c o v=>faj fun a u G C p=>?_;subst a;subst u;exact q y O2 ⟨p O2,C⟩
def vZ:Sp:=fun d H Q _=>∃c,d=[.int c]/\∀l b a,gJ H a->H l=none->Wd a l b->Q (.ref l) a
def v3 (T:Txt K mg):FO P w base 2 T.d37 vZ:=by
 refine T.d37.F.rd iD fun _ A _ s H vs Q E U h=>?_;refine eaa h fun c b q=>?_;subst b;refine HzX ?_;intro _;refine⟨_,(fW (pS (i:=0) iD.nd (gP iE (cv 0) (gP zt fX fX)))
  (fW (pS (i:=1) iD.nd (gP ki (gP iE (cv 0) fX) fX))
  (fW (pS (i:=2) iD.nd (gG fY))
  (fW (gM (gq iA (gP iE (gP kr (cv 0) fX) fX) fX)
   (fW (pS (i:=3) iD.nd (pF T.d36 (xM T) U.m (fV (gP kr (cv 0) fX) (fV (gP ki (cv 1) fX) fY))))
   (fW (pS (i:=4) iD.nd (gP iE (gP kr (cv 0) fX) (gP ki (cv 1) fX)))
   (fW (jX Mh rfl (ko rfl T.z_range (fV fX fY)) (pN (i:=5) iD.nd)
    (f9 (gK (iW (jG eS eU eV gX (NS (cv 2)) (fV (NS (gP ku (gP ku (iY Eu (cv 3) jE (jF (cv 4))) (gk BQ gh (cv 5))) (iY Eu (cv 3) (jF (cv 4)) jE))) fY))))))
   (f9 (gC (cv 2))))))
   gA)
  (fW (pS (i:=3) iD.nd (pF T.d36 (xM T) U.m (fV (gP kr (cv 0) fX) (fV (cv 1) fY))))
  (fW (jX Mh rfl (ko rfl T.z_range (fV fX fY)) (pN (i:=5) iD.nd)
   (fW (pS (i:=6) iD.nd (cv 3))
   (fW (jX Mh rfl (ke (gG (fV fX (fV fX (fV fX (fV fX fY)))))) (pN (i:=7) iD.nd)
    (f9 (pS (i:=6) iD.nd (gP ku (cv 6) (gk BQ gh (gP iE (gP kr (cv 5) (cv 7)) fX))))))
   (f9 (gK (iW (jG eS eU eV gX (NS (cv 2)) (fV (NS (cv 6)) fY))))))))
  (f9 (gC (cv 2))))))))),?_⟩;refine Hz6 ?_;intros;have sl:=L9;refine⟨⟨O3,O3,O3⟩,(by show(0:Int)<10^(24:Int).toNat;decide+kernel),?_⟩;dsimp only[gU];generalize c%10^(24:Int).toNat=c;have s0:=fD c (show(8:Int)≠0 by decide);have s1:=fF c (show(0:Int)<8 by decide);obtain⟨m,hm⟩:∃m:Nat,c%8+ 1=(m:Int):=⟨(c%8+ 1).toNat,O2⟩;refine⟨(by show(0:Int)<8;decide),p7,fun l z=>?_⟩;have O:gJ H (upd H l (.lst [])):=gb z _;have n:(upd H l (.lst [])) l=some (.lst []):=f7;dsimp only[gU];generalize upd H l (.lst [])=H1 at O n⊢;rw[hm];have y:∀f a,gJ H a->a l=some (.lst (((aa 16).map f).map V.str))->(∀k,k<16->NZ (f k)=true)->(∀{i j:Nat},i<16->j<16->f i=f j->i=j)->Q (.ref l) a:=fun f a S e L hd=>q l _ a S z ⟨e,by rw[aE,cy],fun x J=>by refine eaa (bh.mp J) fun k t b=>?_;subst b;exact L k (ag.mp t),nd16 hd⟩;refine⟨⟨O3,O3⟩,(by show(0:Int)<2;decide),?_⟩;dsimp only[tC,cEq,onB];rw[fj]
 cases decide (c/8%2=0)with
 |true=>
  refine iK ⟨⟨O3,O3⟩,_,m+ 3,rfl,O2,O2,fun x J G=>⟨⟨O3,O3⟩,(by show(0:Int)<(m:Int)+ 4;lia),?_⟩⟩;dsimp only[gU];have Y:=fD (c/16) (show((m:Int)+ 4)≠0 by lia);have a1:=fF (c/16) (show 0<((m:Int)+ 4) by lia);generalize c/16%((m:Int)+ 4)=at_ at Y a1⊢;have la:=NK x none (some at_);have lb:=NK x (some at_) none;refine⟨16,rfl,O3,O3,nL (fun i d a=>∃o,d=[some (.int c),some (.int (m:Int)),some (.ref l),some (.str x),some (.int at_),o,none,none]/\gJ H a/\a l=some (.lst (((aa i).map (w1 (Nn x none (some at_)) (Nn x (some at_) none))).map V.str)))
   ⟨none,rfl,O,n⟩ ?_ ?_⟩;·refine fun i d a M=>fav fun o b S e=>?_;subst b;have u:=M;have n:=CZ (i:=i) (by rw[show("abcdefghijklmnop":Str).cps.toList.length=16 by decide+kernel];lia);refine⟨⟨_,e⟩,at_,rfl,_,rfl,O2,sz gL,gf n ⟨by rw[pY];lia,at_,rfl,_,rfl,O2,by rw[Mo,pY];lia,_,e,by rw[aE,aE,cy];lia,?_⟩⟩;refine⟨_,rfl,ip S z _,?_⟩;rw[f7,uT,bq];rfl
  ·refine fun d a=>fav fun o b S e=>?_;subst b;exact y _ a S e (fun k t=>K4 G O2 O2 Y O2 t) (Jn _ _)
 |false=>
  refine ij ⟨⟨O3,O3⟩,_,m,rfl,O2,O2,fun x J G=>?_⟩;dsimp only[gU];refine⟨16,rfl,O3,O3,nL (fun i d a=>∃o F r,d=[some (.int c),some (.int (m:Int)),some (.ref l),some (.str x),none,o,F,r]/\gJ H a/\a l=some (.lst (((aa i).map fun k=>w2 x k 4).map V.str)))
   (iaa none none none ⟨rfl,O,n⟩) ?_ ?_⟩
  ·refine fun i d a M=>fax fun o F r b S e=>?_;subst b;have u:=M;refine⟨Hn,fun p W=>⟨p,rfl,⟨_,NT f7⟩,?_⟩⟩;have S2:gJ H (upd a p (.lst [V.int 8,V.int 4,V.int 2,V.int 1])):=S.trans (gb W _);have I:=gv e W;refine lQ (fun j d C=>∃r,d=[some (.int c),some (.int (m:Int)),some (.ref l),some (.str x),none,some (.int (0+(i:Int))),some (.str (w2 x i j)),r]/\C=upd a p (.lst [V.int 8,V.int 4,V.int 2,V.int 1])/\(w2 x i j).length<=100+j)
    ⟨r,rfl,rfl,by show x.length<=_;lia⟩ (fun j d C _ ⟨R,_,e3,_⟩=>by rw[e3];exact NT f7) ?_ ?_
   ·refine fun j v d C g=>fav fun R b D hy=>?_;subst b;subst D;have hj:j<4:=(av.mp g).1;have L:v= .int (part j)/\0<part j/\part j<1073741824:=by
     match j,hj,g with
     |0,_,g=>cases g;exact⟨rfl,O3,O3⟩
     |1,_,g=>cases g;exact⟨rfl,O3,O3⟩
     |2,_,g=>cases g;exact⟨rfl,O3,O3⟩
     |3,_,g=>cases g;exact⟨rfl,O3,O3⟩
    refine eac L fun b n0 Z=>?_;subst b;refine eaa (Ez ("t7":Str).cps.toList ((0+(i:Int))/part j%2) (fD _ O3) (by rw[show("t7":Str).cps.toList.length=2 by decide+kernel];exact fF _ O3)) fun ch n _=>?_;have N:ch=bit i j:=by rw[bit,t7,n];rfl
    subst N;exact⟨⟨n0,Z⟩,(by show(0:Int)<2;decide),sz gL,gf n ⟨by rw[pY];lia,_,rfl,rfl,by rw[w2,Mo,pY];lia⟩⟩
   ·refine fun d C=>fav fun R b D hy=>?_;subst b;subst D;have X:(upd a p (.lst [V.int 8,V.int 4,V.int 2,V.int 1])) l=some (.lst (((aa i).map fun k=>w2 x k 4).map V.str)):=by rw[gy I];exact e
    refine⟨⟨_,X⟩,_,X,by rw[aE,aE,cy];lia,?_⟩;refine iaa _ _ _ ⟨rfl,ip S2 z _,?_⟩;rw[f7,uT,bq];rfl
  ·refine fun d a=>fax fun o F r b S e=>?_;subst b;exact y _ a S e (fun k t=>K5 G O2 t) (Jo x)
open TM.Internal (Kn Tr)
def itV (I:It) (a:Zx):List V:=[.str I.tx,.int (I.ne:Int),.int (I.wt:Int),.ref a,.bl I.own,.int (I.pl:Int),.str I.sh,.str I.mo]
def cV3 (c:Nat->Nat):List V:=[.int (c 0:Int),.int (c 1:Int),.int (c 2:Int)]
def ItA (H:Hp) (x:V) (I:It):Prop:=∃a b,x= .ref a/\H a=some (.lst (itV I b))/\H b=some (.lst (cV3 I.mn))
def ItA.same {x:V} {I:It} (h:ItA H x I) (S:gJ H H'):ItA H' x I:=by refine eap h fun a e b d c=>?_;subst b;exact ii a e ⟨rfl,S _ _ d,S _ _ c⟩
structure ItN (H H':Hp) (a cs:Zx) (I:It):Prop where
 sm:gJ H H'
 na:H a=none
 nc:H cs=none
 ne:a≠cs
 ea:H' a=some (.lst (itV I cs))
 ec:H' cs=some (.lst (cV3 I.mn))
def ItN.it {a b:Zx} {I:It} (h:ItN H H' a b I):ItA H' (.ref a) I:=(ii a b ⟨rfl,h.ea,h.ec⟩)
def at3{k:Nat} (h:k<3):atI (cV3 c) (k:Int)=some (.int (c k:Int)):=by
 refine fZ ?_;match k,h with
 |0,_=>rfl
 |1,_=>rfl
 |2,_=>rfl
def Hl{k:Nat} (h:k<3):atI (cV3 c) (0+(k:Int))=some (.int (c k:Int)):=by rw[fG];exact at3 h
def Ec(h:k<3):(cV3 c).take (k+ 1)=(cV3 c).take k++[.int (c k:Int)]:=by
 match k,h with
 |0,_=>rfl
 |1,_=>rfl
 |2,_=>rfl
def Jp{n:Nat} (f:σ[i]?=some (some (.bl a))) (d:σ[j]?=some (some (.ref p))) (e:H p=some (.lst xs)) (c:atI xs m=some (.bl b)) (q:Q (.bl (a||b)) H):JX (cV i) (tOp Ar (cV j) (tC (.int m))) σ H Q:=by
 show onV σ[i]? _;rw[f];refine⟨a,rfl,?_⟩
 cases a with
 |true=>exact iK q
 |false=>refine ij ?_;show onV σ[j]? _;rw[d];exact⟨_,e,gf c q⟩
def Jq(f:σ[i]?=some (some (.bl a))) (d:σ[j]?=some (some (.ref p))) (e:H p=some (.lst xs)) (c:atI xs m=some (.bl b)) (q:R D (σ.set g (some (.bl (a||b)))) H):pZ (Dp (JX (cV i) (tOp Ar (cV j) (tC (.int m)))) (gU g)) R D σ H:=Jp (n:=0) f d e c q
def FS (st:Zx) (H b:Hp):Prop:=∀a o,H a=some o->a≠st->b a=some o
def FS.trans (f:FS st H H1) (g:FS st H1 H2):FS st H H2:=fun a o e n=>g a o (f a o e n) n
def FS.same (S:gJ H H'):FS st H H':=fun a o e _=>S a o e
def Stk (H:Hp) (st:Zx) (b:Nat) (J:It->Prop):Prop:=∃a,H st=some (.lst a)/\a.length<=b/\∀x∈a,∃I,ItA H x I/\J I
def ItA.fs {J:It->Prop} {x:V} {I:It} (h:ItA H x I) (k:Stk H st sn J) (F:FS st H H'):ItA H' x I:=by
 refine eak k fun l g _ p=>?_;refine eap h fun a o i d c=>?_;subst i;have f:∀v,(∀b,v≠ .ref b)->v∉l:=fun v n m=>by refine eaa (p _ m) fun _ j _=>?_;refine eah j fun _ _ e _=>?_;exact n _ e
 refine ii a o ⟨rfl,F _ _ d fun z=>?_,F _ _ c fun z=>?_⟩;·rw[z,g]at d;cases du.inj d;exact f (.str I.tx) (fun _ z=>nomatch z) (by simp[itV])
 ·rw[z,g]at c;cases du.inj c;exact f (.int (I.mn 0:Int)) (fun _ z=>nomatch z) (by simp[cV3])
theorem Stk.same {J:It->Prop} (k:Stk H st sn J) (S:gJ H H'):Stk H' st sn J:=by refine eak k fun a c l d=>?_;exact⟨a,S _ _ c,l,fun x b=>let⟨I,h,j⟩:=d x b;⟨I,h.same S,j⟩⟩
inductive AQ (H:Hp):List V->List It->Prop
 |nil:AQ H [] []
 |cons {x:V} {t:It} {xs:List V} {ts:List It} (h:ItA H x t) (r:AQ H xs ts):AQ H (x::xs) (t::ts)
def AQ.len {a:List It} (h:AQ H xs a):xs.length=a.length:=by
 induction h with
 |nil=>rfl
 |cons h r i=>exact congrArg (·+ 1) i
def AQ.at {a:List It} (h:AQ H xs a):∀{i:Nat} {t:It},a[i]?=some t->∃x,xs[i]?=some x/\ItA H x t:=by
 induction h with
 |nil=>intro i t e;cases e
 |cons h r b=>
  intro i t e
  cases i with
  |zero=>cases e;exact⟨_,rfl,h⟩
  |succ i=>exact b e
def oV:Option Str->V
 |none=> .non
 |some w=> .str w
theorem v5:∀{p:List (Option Str)} {a:List It},cN p<=a.length->txF (p++[some w]) a=txF p a++[w]
 |[],a,_=>by cases a<;>rfl
 |none::p,[],h=>by cases h
 |none::p,t::a,h=>congrArg (t.tx::·) (v5 (Nat.le_of_succ_le_succ h))
 |some v::p,a,h=>congrArg (v::·) (v5 h)
theorem v7:∀{p:List (Option Str)} {a:List It},a[cN p]?=some t->txF (p++[none]) a=txF p a++[t.tx]
 |[],u::a,h=>by cases h;rfl
 |[],[],h=>by cases h
 |none::p,[],h=>by cases h
 |none::p,u::a,h=>congrArg (u.tx::·) (v7 h)
 |some v::p,a,h=>congrArg (v::·) (v7 h)
theorem v8:∀p a,(txF p a).length<=p.length
 |[],a=>cJ _
 |none::p,[]=>cK _
 |none::p,t::a=>dj (v8 p a)
 |some v::p,a=>dj (v8 p a)
theorem Ed (o:Option Str):∀p:List (Option Str),cN (p++[o])=cN p+match o with|none=>1|some _=>0
 |[]=>by cases o<;>rfl
 |none::p=>by rw[aU,cN,cN,Ed o p];lia
 |some v::p=>by rw[aU,cN,cN,Ed o p]
def C0 (p:List (Option Str)) (i:Nat):cN (p.take i)<=cN p:=by
 induction p generalizing i with
 |nil=>rw[List.take_nil];exact cJ _
 |cons a p b=>
  cases i with
  |zero=>exact cK _
  |succ i=>have:=b i;rw[List.take_succ_cons];cases a<;>rw[cN,cN]<;>lia
theorem yU:∀{p:List (Option Str)} {a:List It},(∀w,some w∈p->w.length<=b)->(∀t∈a,t.tx.length<=b)->∀w∈txF p a,w.length<=b
 |[],a,_,_,w,h=>by cases a<;>cases h
 |none::p,[],_,_,w,h=>by cases h
 |none::p,t::a,h1,h2,w,h=>by
  rcases ao.mp h with rfl|h;·exact h2 t aj
  ·exact yU (fun v e=>h1 v (ak _ e)) (fun u c=>h2 u (ak _ c)) w h
 |some v::p,a,h1,h2,w,h=>by
  rcases ao.mp h with rfl|h;·exact h1 _ aj
  ·exact yU (fun u c=>h1 u (ak _ c)) h2 w h
theorem yV:∀{l:Zd},(∀w∈l,w.length<=b)->(l.map (·.length)).sum<=l.length*b
 |[],_=>cK _
 |w::l,h=>by have:=yV fun x a=>h x (ak _ a);have:=h w aj;rw[aD,List.sum_cons,aB,Nat.succ_mul];lia
inductive XLf (vs:List V) (H:Hp) (Q:VK):Prop
 |mk (n sh mo:Str) (w:Nat) (e:vs=[.str n,.int (w:Int),.str sh,.str mo]) (q:∀H' a cs,ItN H H' a cs (xG n w sh mo)->Q (.ref a) H')
def K6:Sp:=fun a H Q _=>XLf a H Q
def kl (T:Txt K mg):FO P w base 1 T.d38 K6:=by
 refine T.d38.F.rd xm fun m s c p H o Q E r h=>?_;obtain⟨n,j,l,i,rfl,q⟩:=h;refine⟨_,(f9 (gC (gG (fV (cv 0) (fV fX (fV (cv 1) (fV (gG (fV fX (fV fX (fV fX fY)))) (fV qa (fV fX (fV (cv 2) (fV (cv 3) fY))))))))))),?_⟩;refine⟨lC,fun d e=>⟨JH,fun a b=>?_⟩⟩;have g:=gb e (.lst [.int 0,.int 0,.int 0]);have f:=gb b (.lst [.str n,.int 1,.int (i:Int),.ref d,.bl false,.int 1,.str j,.str l]);have k:a≠d:=fun z=>by rw[z,f7]at b;cases b
 exact q _ a d ⟨g.trans f,g.free b,e,k,f7,f _ _ f7⟩
inductive XHe (vs:List V) (H:Hp) (Q:VK):Prop
 |mk (x:V) (v:Nat) (I:It) (e:vs=[x,.int (v:Int)]) (i:ItA H x I) (q:∀H' a cs,ItN H H' a cs (mj I v)->Q (.ref a) H')
def K7:Sp:=fun a H Q _=>XHe a H Q
def mC (T:Txt K mg):FO P w base 1 T.d40 K7:=by
 refine T.d40.F.rd rG fun cdv A0 G s H vs Q E hr h=>?_;obtain⟨x,v,I,rfl,⟨p,d,rfl,O,ec⟩,q⟩:=h;refine HzX ?_;intro _;refine⟨_,(fW (vv (j:=2) rfl (Hj ["_law_var","_law_item"] [("_law_var",1,s.heap.objs.size+ 2),("_law_item",0,s.heap.objs.size+ 1)]) (ko rfl T.z_range (fV fX fY)) (fun _ _ _ _ _=>kS) (fun _ _ _ _ _=>(ot (gq iA (cv 0) (cv 1)) fX (gk gi (gk gi (cv 2) fX) (cv 0)))) rG.nd rfl (.inl rfl))
  (f9 (gC (gP oH (gP oH (iY kR (cv 0) jE (jF fX)) (gG (fV (cv 2) fY))) (iY kR (cv 0) (jF fX) jE))))),?_⟩;have sl:=L9;refine⟨3,rfl,O3,O3,fun D M=>?_⟩;refine sH 3 O2 (fun b C=>b=(cV3 (mj I v).mn).take b.length) (fun _ _ _ h _=>h) M rfl (fun k _ _ h=>h) (fun _ _=>cJ _) rfl ?_ ?_
 ·rintro k C x B b Z o L ⟨rfl,rfl⟩ f J Y;subst J;have i:(mj I v).mn b.length=(if b.length=v then 0 else I.mn b.length):=rfl;have N:∀n,n=((mj I v).mn b.length:Int)->Z (.int n) B:=fun n e=>Y _ _ (fun _ _ e=>e) (by rw[aR,bc,Ec L,<-f,e]);show if(false ^^ decide (0+(b.length:Int)=(v:Int)))=true then _ else _;by_cases z:b.length=v;·rw[gT O2];exact iK (N 0 (by rw[i,ig z];rfl))
  ·rw[hV O2];exact ij ⟨_,o _ _ O,gf (fZ rfl) ⟨_,o _ _ ec,gf (Hl L) (N _ (by rw[i,gZ z]))⟩⟩
 ·intro C b o f J ez;rw[J]at f;have f:=f;subst f;have l:=o _ _ O;refine⟨3,rfl,p,_,rfl,NT l,fun F h1=>⟨se,fun u h2=>?_⟩⟩;have T1:=gb h1 (.lst (nO (itV I d) none (some 3)));have X:=gb h2 (.lst [.ref D]);have W:=X _ _ (f7);have c:=T1.trans X;have V:(upd (upd C F (.lst (nO (itV I d) none (some 3)))) u (.lst [.ref D])) u=some (.lst [.ref D]):=f7;generalize upd (upd C F _) u _=B at c W V⊢;refine io F u _ _ ⟨rfl,rfl,W,V,(by show 3+ 1<=sizeLine;decide),fun t h3=>?_⟩;have A:=gb h3 (.lst (nO (itV I d) none (some 3)++[.ref D]));have U:(upd B t (.lst (nO (itV I d) none (some 3)++[.ref D]))) t=some (.lst (nO (itV I d) none (some 3)++[.ref D])):=f7;generalize upd B t _=H7 at A U⊢;refine⟨4,rfl,p,_,rfl,NT (A _ _ (c _ _ l)),fun r h4=>?_⟩;have y:=gb h4 (.lst (nO (itV I d) (some 4) none));have S:(upd H7 r (.lst (nO (itV I d) (some 4) none))) r=some (.lst (nO (itV I d) (some 4) none)):=f7;have m:=y _ _ U;generalize upd H7 r _=H8 at y S m⊢;refine io t r _ _ ⟨rfl,rfl,m,S,(by show 4+ 4<=sizeLine;decide),fun a g=>?_⟩;have T:=o.trans (c.trans (A.trans y));have R:=(c.trans (A.trans y)) _ _ ez;exact q _ a D ⟨T.trans (gb g _),T.free g,M,(fun z=>by rw[z,R]at g;cases g),f7,gb g _ _ _ R⟩
inductive XNd (vs:List V) (H:Hp) (Q:VK):Prop
 |mk (hl pl:Zx) (p:List (Option Str)) (xs:List V) (its:List It) (sh mo:Str) (e:vs=[.ref hl,.ref pl,.str sh,.str mo]) (eh:H hl=some (.lst (p.map oV))) (ep:H pl=some (.lst xs)) (ix:AQ H xs its) (hc:cN p<=its.length) (ha:cN p=its.length) (l8:p.length<=8) (hw:∀w,some w∈p->w.length<=200000) (ht:∀t∈its,t.tx.length<=200000) (q:∀H' a cs,ItN H H' a cs (lO p its sh mo)->Q (.ref a) H')
def G2:Sp:=fun a H Q _=>XNd a H Q
def km (T:Txt K mg):FO P w base 1 T.d39 G2:=by
 refine T.d39.F.rd hZ fun cdv A0 outer s H vs Q E hr h=>?_;obtain⟨hl,pl,p,xs,b,sh,mo,rfl,eh,ep,ix,hc,ha',l8,hw,ht,q⟩:=h;refine HzX ?_;intro _;refine⟨_,(fW (pS (i:=4) hZ.nd (gG fY))
  (fW (pS (i:=5) hZ.nd fX)
  (fW (pS (i:=6) hZ.nd fX)
  (fW (pS (i:=7) hZ.nd (gG (fV fX (fV fX (fV fX fY)))))
  (fW (pS (i:=8) hZ.nd qa)
  (fW (pS (i:=9) hZ.nd fX)
  (fW (pS (i:=10) hZ.nd fX)
  (fW (jX Mh rfl (ke (cv 0)) (pN (i:=11) hZ.nd)
   (f9 (gM (si (AX (cv 11)))
    (fW (pS (i:=12) hZ.nd (gk gi (cv 1) (cv 10)))
    (fW (pS (i:=10) hZ.nd (gP ki (cv 10) fX))
    (fW (gK (iW (jG eS eU eV gX (NS (cv 4)) (fV (NS (gk gi (cv 12) fX)) fY))))
    (fW (pS (i:=5) hZ.nd (gN (Be rfl) rfl T.z_max HX (fV (cv 5) (fV (gk gi (cv 12) fX) fY))))
    (fW (pS (i:=6) hZ.nd (gP ki (cv 6) (gk gi (cv 12) fX)))
    (fW (pS (i:=7) hZ.nd (qG rfl (Hj ["_law_part","_law_many"] [("_law_part",12,s.heap.objs.size+ 2),("_law_many",7,s.heap.objs.size+ 1)]) (ko rfl T.z_range (fV fX fY)) (fun _ _ _ _ _=>kS) (fun _ _ _ _ _=>(gP ki (gk gi (cv 2) (cv 0)) (gk gi (gk gi (cv 1) fX) (cv 0))))))
    (fW (pS (i:=8) hZ.nd (Hu (cv 8) (nA (gk gi (cv 12) fX))))
    (f9 (pS (i:=9) hZ.nd (gP ki (cv 9) (gk gi (cv 12) fX)))))))))))
    (f9 (gK (iW (jG eS eU eV gX (NS (cv 4)) (fV (NS (cv 11)) fY))))))))
  (f9 (gC (gG (fV (gP ku (gP ku gh (jG eR eY eZ BS gh (fV (cv 4) fY))) gh) (fV (gP ki (cv 5) fX) (fV (cv 6) (fV (cv 7) (fV (cv 8) (fV (cv 9) (fV (cv 2) (fV (cv 3) fY))))))))))))))))))),?_⟩;refine Hz8 ?_;intros;have sl:=L9;refine⟨p7,fun d B=>?_⟩;have S1:=gb B (.lst []);have e1:(upd H d (.lst [])) d=some (.lst []):=f7;dsimp only[gU];generalize upd H d (.lst [])=H1 at S1 e1⊢;refine⟨lC,fun m Y=>?_⟩;have S2:=gb Y (.lst [.int 0,.int 0,.int 0]);dsimp only[gU];refine⟨hl,rfl,⟨_,NT (S2 _ _ (S1 _ _ eh))⟩,lQ (fun i U j=>∃(y u:Option V) (g:Zx),U=[some (.ref hl),some (.ref pl),some (.str sh),some (.str mo),some (.ref d),some (.int (neL (b.take (cN (p.take i))):Int)),some (.int ((1+wtL (b.take (cN (p.take i))):Nat):Int)),some (.ref g),some (.bl (owL (b.take (cN (p.take i))))),some (.int ((1+plL (b.take (cN (p.take i))):Nat):Int)),some (.int (cN (p.take i):Int)),y,u]/\gJ H j/\j d=some (.lst ((txF (p.take i) b).map V.str))/\g≠d/\H g=none/\j g=some (.lst (cV3 (mnL (b.take (cN (p.take i)))))))
  (iaa none none m ⟨rfl,S1.trans S2,S2 _ _ e1,(fun z=>by rw[z,e1]at Y;cases Y),S1.free Y,f7⟩) (fun i U j _ ⟨_,_,_,_,S,_⟩=>NT (S _ _ eh)) ?_ ?_⟩
 ·refine fun i v U j hv=>fab fun y u g=>fag fun r S c l A f=>?_;subst r;rw[aP]at hv;refine eaa (dA.mp hv) fun o hpi r=>?_;subst r;have X:p.take (i+ 1)=p.take i++[o]:=by rw[cc,hpi];rfl
  have lt:=v8 (p.take i) b;have lp:(p.take i).length<=8:=by rw[aM];lia
  have J:=cF (C0 p i) hc
  cases o with
  |some x=>
   have N:cN (p.take (i+ 1))=cN (p.take i):=by rw[X,Ed]<;>rfl
   refine⟨_,rfl,ij ⟨⟨_,c⟩,_,c,by rw[aE];lia,?_⟩⟩;refine iaa _ _ g ⟨by rw[N];rfl,ip S B _,?_,l,A,by rw[gy l,N];exact f⟩;rw[f7,X,v5 J,bq];rfl
  |none=>
   have N:cN (p.take (i+ 1))=cN (p.take i)+ 1:=by rw[X,Ed]<;>rfl
   have hlt:cN (p.take i)<b.length:=by have:=C0 p (i+ 1);lia
   obtain⟨t,C⟩:∃t,b[cN (p.take i)]?=some t:=⟨_,bE hlt⟩;refine eal (ix.at C) fun x=>f8 fun hx=>fL fun a cs=>fae fun r ea ec=>?_;subst r;have ts:b.take (cN (p.take i)+ 1)=b.take (cN (p.take i))++[t]:=by rw[cc,C];rfl
   refine eae (L3 t (b.take (cN (p.take i)))) fun n1 n2 n3 n4 n5=>?_;rw[<-ts]at n1 n2 n3 n4 n5;refine⟨_,rfl,iK ⟨_,S _ _ ep,gf (fZ hx) ?_⟩⟩;dsimp only[gU];refine⟨⟨_,c⟩,_,S _ _ ea,gf (fZ rfl) ⟨_,c,by rw[aE];lia,?_⟩⟩;have R:gJ H (upd j d (.lst ((txF (p.take i) b).map V.str++[.str t.tx]))):=ip S B _;have M:(upd j d (.lst ((txF (p.take i) b).map V.str++[.str t.tx]))) g=some (.lst (cV3 (mnL (b.take (cN (p.take i)))))):=by rw[gy l];exact f
   have F:(upd j d (.lst ((txF (p.take i) b).map V.str++[.str t.tx]))) d=some (.lst ((txF (p.take i) b).map V.str++[.str t.tx])):=f7;dsimp only;generalize upd j d (.lst ((txF (p.take i) b).map V.str++[.str t.tx]))=H3 at R M F⊢;have n:=R _ _ ea;have emx:(if((t.ne:Nat):Int)>(neL (b.take (cN (p.take i))):Int)then((t.ne:Nat):Int)else(neL (b.take (cN (p.take i))):Int))=(neL (b.take (cN (p.take i)+ 1)):Int):=by rw[n1];split<;>lia
   refine⟨_,n,gf (fZ rfl) (ii _ _ ⟨rfl,?_⟩)⟩;dsimp only[gU];rw[emx];refine⟨_,n,gf (fZ rfl) ?_⟩;dsimp only[gU];refine⟨3,rfl,O3,O3,fun D hD=>?_⟩;refine sH 3 O2 (fun W H5=>W=(cV3 (mnL (b.take (cN (p.take i)+ 1)))).take W.length) (fun _ _ _ h _=>h) hD rfl (fun k _ _ h=>h) (fun _ _=>cJ _) rfl ?_ ?_;·rintro k H5 x H6 W Z G J ⟨rfl,rfl⟩ I lz kZ;refine⟨_,G _ _ M,gf (Hl J) ?_⟩;refine⟨_,G _ _ n,gf (fZ rfl) ⟨_,G _ _ (R _ _ ec),gf (Hl J) ?_⟩⟩;subst lz;refine kZ _ _ (fun _ _ e=>e) ?_;rw[aR,bc,Ec J,<-I,n4,fH]
   ·intro H5 W G I lz ez;rw[lz]at I;have I:=I;subst I;have O:=G _ _ n;dsimp only[gU];refine Jq rfl rfl O (fZ rfl) ?_;refine⟨_,O,gf (fZ rfl) ?_⟩;refine iaa (some .non) (some (.ref a)) D ⟨?_,R.trans G,?_,(fun z=>by rw[z,F]at hD;cases hD),R.free hD,by rw[N];exact ez⟩;·rw[N,n2,n3,n5,show((1+(wtL (b.take (cN (p.take i)))+t.wt):Nat):Int)=((1+wtL (b.take (cN (p.take i))):Nat):Int)+(t.wt:Int) by lia,show((1+(plL (b.take (cN (p.take i)))+t.pl):Nat):Int)=((1+plL (b.take (cN (p.take i))):Nat):Int)+(t.pl:Int) by lia,show((cN (p.take i)+ 1:Nat):Int)=(cN (p.take i):Int)+ 1 by lia];rfl
    ·rw[G _ _ F,X,v7 C,bq];rfl
 ·refine fun U j=>fab fun y u g=>fag fun r S c l A f=>?_;subst r;rw[aE,bA,ha',bA]at*;have lm:=yU hw ht;have s1:=yV lm;have s2:=zV (z:=" ") lm;have l3:=v8 p b;have s3:(txF p b).length*200000<=8*200000:=dm _ (cF l3 l8);have s4:(txF p b).length*(200000+(" ":Str).length)<=8*(200000+(" ":Str).length):=dm _ (cF l3 l8);have z1:(" ":Str).length=1:=gL;have z2:("(":Str).length=1:=gL;have z3:(")":Str).length=1:=gL;rw[z1]at s2 s4;refine⟨rfl," ",d,_,rfl,rfl,NT c,by rw[z1];lia,by rw[z2];lia,by rw[Mo,z2,z3];lia,?_⟩;refine⟨JH,fun a L=>?_⟩;have nea:a≠g:=fun z=>by rw[z,f]at L;cases L
  exact q _ a g ⟨S.trans (gb L _),S.free L,A,nea,f7,gb L _ _ _ f⟩
open TM.Internal (Kn Tr)
def Jr {n:Int} (e:0<=n) (d:n<10^60):n.natAbs.log2<1920:=by
 by_cases hz:n.natAbs=0;·rw[hz];decide+kernel
 ·rw[Nat.log2_lt hz];have c:n.natAbs<10^60:=O2
  have b:(10:Nat)^60<=2^200:=gL;have a:(2:Nat)^200<=2^1920:=Nat.pow_le_pow_right O3 O3;lia
def Gd (ws:Zd) (m:Nat) (it:It):Prop:=∃t,JN ws m it t
theorem Gd.tx {ws:Zd} {m:Nat} {it:It} (h:Gd ws m it) (a:it.pl<=2000):it.tx.length<=200000:=by obtain⟨t,j,_⟩:=h;have:=j.gt.l;have:=j.pl;lia
def nuI (n:Int):It:=xG (N4 n) 1 "num" ""
def nuI.gd {ws:Zd} {m:Nat} {n:Int} (b:0<=n) (a:n<10^60):Gd ws m (nuI n):=⟨_,uS b a⟩
def K8:nuI 0=xG "0" 1 "num" "":=by have:N4 0="0":=gL;unfold nuI;rw[this]
inductive XPo (vs:List V) (H:Hp) (Q:VK):Prop
 |mk (st:Zx) (sn:Nat) (J:It->Prop) (e:vs=[.ref st]) (k:Stk H st sn J) (j:J (nuI 0)) (q:∀H' x I,FS st H H'->Stk H' st sn J->ItA H' x I->J I->Q x H')
def K9:Sp:=fun a H Q _=>XPo a H Q
def tT (T:Txt K mg):FO P w base 2 T.d42 K9:=by
 refine T.d42.F.rd yq fun s D d y H u Q E p h=>?_;obtain⟨c,v,J,rfl,k,j,q⟩:=h;refine HzX ?_;intro _;refine⟨_,(fW (gM (gq iA (gN gH rfl T.z_len iN (fV (cv 0) fY)) fX)
   (f9 (gC (pF T.d38 (kl T) p.m (fV gh (fV fX (fV gh (fV gh fY)))))))
   gA)
  (f9 (gC (uE eS eW eX uF (cv 0))))),?_⟩;refine eak (id k) fun b g A l=>?_;refine ii c _ ⟨rfl,.inl (NT g),?_⟩;show if(false ^^ decide ((b.length:Int)=0))=true then _ else _;by_cases z:b.length=0;·rw[gT O2];refine iK ?_;refine⟨_,_,_,1,rfl,fun C a B N=>?_⟩;rw[<-K8]at N;exact q _ _ (nuI 0) (FS.same N.sm) (k.same N.sm) N.it j
 ·rw[hV O2];refine ij ?_;have i:b[b.length-1]?=some (b[b.length-1]' O2):=bE O2;refine eaa (l _ (aQ i)) fun I f r=>?_;refine⟨.inl ⟨rfl,_,NT g⟩,c,b,_,rfl,rfl,g,i,?_⟩;have F:FS c H (NR H c (.lst b.dropLast)):=fun a o e n=>by rw[gy n];exact e
  exact q _ _ I F ⟨b.dropLast,f7,by rw[bf];lia,fun x m=>let⟨I',h,j⟩:=l x (List.dropLast_subset _ m);⟨I',h.fs k F,j⟩⟩ (f.fs k F) r
inductive XNu (vs:List V) (H:Hp) (Q:VK):Prop
 |mk (c:Int) (e:vs=[.int c]) (q:∀H' a cs n,0<=n->n<10^60->ItN H H' a cs (nuI n)->Q (.ref a) H')
def La:Sp:=fun a H Q _=>XNu a H Q
def jZ (T:Txt K mg):FO P w base 2 T.d43 La:=by
 refine T.d43.F.rd oJ fun s A d v H u Q E l h=>?_;obtain⟨c,rfl,q⟩:=h;refine HzX ?_;intro _;refine⟨_,(fW (pS (i:=1) oJ.nd (gk gi (gG (fV fX (fV (gP zt fX fX) (fV (gP zt fX fX) fY)))) (gP iE (cv 0) fX)))
  (f9 (gC (pF T.d38 (kl T) l.m (fV (iS wy rfl T.z_str HP (fV (gP iE (gP kr (cv 0) fX) (cv 1)) fY)) (fV fX (fV gh (fV gh fY)))))))),?_⟩;refine eaa (emN c (show(0:Int)<3 by decide)) fun k p m=>?_;obtain⟨b,o,e,z⟩:∃b,([V.int 100,V.int (10^(9:Int).toNat),V.int (10^(60:Int).toNat)]:List V)[k]?=some (.int b)/\0<b/\b<=10^60:=by
  match k,m with
  |0,_=>exact⟨_,rfl,O3,O3⟩
  |1,_=>exact⟨_,rfl,gL,gL⟩
  |2,_=>exact⟨_,rfl,gL,gL⟩
 refine⟨⟨O3,O3,O3⟩,⟨O3,O3,O3⟩,lC,fun x n=>⟨(show(0:Int)<3 by decide),?_⟩⟩;dsimp only;rw[p];refine⟨_,f7,gf (fZ o) ?_⟩;dsimp only[gU];have j:=fD (c/3) (fE e);have y:=fF (c/3) e;have g:c/3%b<10^60:=O2
 refine⟨⟨O3,O3⟩,e,_,rfl,Jr j g,_,_,_,1,rfl,fun t a r N=>q t a r (c/3%b) j g ?_⟩;have f:=gb n (.lst [.int 100,.int (10^(9:Int).toNat),.int (10^(60:Int).toNat)]);exact⟨f.trans N.sm,f.free N.na,f.free N.nc,N.ne,N.ea,N.ec⟩
inductive XLt (vs:List V) (H:Hp) (Q:VK):Prop
 |mk (wl:Zx) (ws:Zd) (v:Nat) (w:Str) (x y:V) (b d:It) (e:vs=[.ref wl,.int (v:Int),x,y]) (hw:Wd H wl ws) (hv:v<3) (ew:ws[v]?=some w) (ix:ItA H x b) (iy:ItA H y d) (lb:b.tx.length<=200000) (ld:d.tx.length<=200000) (mb:b.wt<=1000000/\∀k,b.mn k<=1000000) (md:d.mn v<=1000000) (q:∀H' z,gJ H H'->ItA H' z (CY w v b d)->Q z H')
def Lb:Sp:=fun a H Q _=>XLt a H Q
def tU (T:Txt K mg):FO P w base 2 T.d41 Lb:=by
 refine T.d41.F.rd pI fun cdv A0 V s H vs Q E hr h=>?_;obtain⟨wa,ws,v,l,x,y,b,d,rfl,hw,hv,ew,ix,iy,lb,ld,mb,md,q⟩:=h;refine HzX ?_;intro _;refine⟨_,(fW (pS (i:=4) pI.nd (pF T.d39 (km T) hr.m (fV (gG (fV gh (fV (gk gi (cv 0) (cv 1)) (fV hG (fV hG fY))))) (fV (gG (fV (cv 2) (fV (pF T.d40 (mC T) hr.m (fV (cv 3) (fV (cv 1) fY))) fY))) (fV (gk gi (cv 3) fX) (fV (gk gi (cv 3) fX) fY))))))
  (fW (pS (i:=5) pI.nd (gk gi (gk gi (cv 3) fX) (cv 1)))
  (fW (wq (gP ki (gk gi (cv 4) fX) (gP EB (cv 5) (gk gi (cv 2) fX))) (wo (cv 4) fX qg))
  (fW (wq (qG rfl (Hj ["_law_times","_law_item","_law_bound"] [("_law_times",5,s.heap.objs.size+ 3),("_law_item",4,s.heap.objs.size+ 2),("_law_bound",2,s.heap.objs.size+ 1)]) (ko rfl T.z_range (fV fX fY)) (fun _ _ _ _ _=>kS) (fun _ _ _ _ _=>(gP ki (gk gi (gk gi (cv 2) fX) (cv 0)) (gP EB (cv 1) (gk gi (gk gi (cv 3) fX) (cv 0)))))) (wo (cv 4) fX qg))
  (f9 (gC (cv 4))))))),?_⟩;refine Hz4 ?_;intros;have sl:=L9;refine eap iy fun a2 c2 U j C=>?_;subst U;refine⟨_,hw.e,gf (fZ (by rw[aP,ew];rfl)) ⟨Hn,fun L h1=>?_⟩⟩;have M:=gb h1 (.lst [.str "let",.str l,.non,.non]);have e1:(upd H L (.lst [.str "let",.str l,.non,.non])) L=some (.lst [.str "let",.str l,.non,.non]):=f7;dsimp only;generalize upd H L _=H1 at M e1⊢;refine⟨_,v,d,rfl,(ii a2 c2 ⟨rfl,M _ _ j,M _ _ C⟩),fun H2 ah ch N2=>⟨lJ,fun J h2=>?_⟩⟩;have T2:=gb h2 (.lst [x,.ref ah]);have c:=M.trans (N2.sm.trans T2);have u:=ix.same c;have A:=N2.it.same T2;have e2:(upd H2 J (.lst [x,.ref ah])) J=some (.lst [x,.ref ah]):=f7;have G:=(N2.sm.trans T2) _ _ e1;dsimp only;generalize upd H2 J _=H3 at c u A e2 G⊢;refine⟨_,c _ _ j,gf (fZ rfl) ⟨_,c _ _ j,gf (fZ rfl) ?_⟩⟩;have lw:=(qu (hw.n l (aQ ew))).2;refine⟨L,J,[some "let",some l,none,none],_,[b,mj d v],d.sh,d.mo,rfl,G,e2,.cons u (.cons A .nil),(by show 2<=2;decide),rfl,(by show 4<=8;decide),kO gL (kO O2 (jU (jU nE))),fun t ht=>?_,fun R a r N=>?_⟩
 ·rcases ao.mp ht with rfl|ht;·exact lb
  ·rw[bo.mp ht];exact ld
 dsimp only[gU];have O:=c.trans N.sm;refine eap ix fun a1 c1 U F ec1=>?_;subst U;have na:=c.free N.na;refine⟨_,O _ _ j,gf (fZ rfl) ⟨_,O _ _ C,gf (at3 hv) ?_⟩⟩;dsimp only[gU];refine⟨_,N.ea,gf (fZ rfl) ⟨_,O _ _ F,gf (fZ rfl) ⟨.inl ⟨O2,O2⟩,?_⟩⟩⟩;refine io a _ 2 2 ⟨rfl,rfl,N.ea,rfl,?_⟩;let I:=lO [some "let",some l,none,none] [b,mj d v] d.sh d.mo;have S:∀{p:Zx} {o:HO},H p=some o->(NR R a (.lst ((itV I r).set 2 (.int ((I.wt:Int)+(d.mn v:Int)*(b.wt:Int)))))) p=some o:=fun e=>by rw[gy (gv e na)];exact O _ _ e
 have g:(NR R a (.lst ((itV I r).set 2 (.int ((I.wt:Int)+(d.mn v:Int)*(b.wt:Int)))))) a=some (.lst ((itV I r).set 2 (.int ((I.wt:Int)+(d.mn v:Int)*(b.wt:Int))))):=f7;have B:(NR R a (.lst ((itV I r).set 2 (.int ((I.wt:Int)+(d.mn v:Int)*(b.wt:Int)))))) r=some (.lst (cV3 I.mn)):=by rw[gy N.ne.symm];exact N.ec
 generalize(NR R a (.lst ((itV I r).set 2 (.int ((I.wt:Int)+(d.mn v:Int)*(b.wt:Int))))))=H5 at S g B;refine⟨3,rfl,O3,O3,fun D hD=>?_⟩;refine sH 3 O2 (fun f H6=>f=(cV3 (CY l v b d).mn).take f.length) (fun _ _ _ h _=>h) hD rfl (fun k _ _ h=>h) (fun _ _=>cJ _) rfl ?_ ?_;·rintro k H6 x H7 f Z m Y ⟨rfl,rfl⟩ n X kZ;subst X;have mk:=mb.2 f.length;refine⟨_,m _ _ g,gf (fZ rfl) ⟨_,m _ _ B,gf (Hl Y) ?_⟩⟩;refine⟨_,m _ _ (S F),gf (fZ rfl) ⟨_,m _ _ (S ec1),gf (Hl Y) ⟨.inl ⟨O2,O2⟩,?_⟩⟩⟩;refine kZ _ _ (fun _ _ e=>e) ?_;rw[aR,bc,Ec Y,<-n];show f++[.int ((I.mn f.length:Int)+(d.mn v:Int)*(b.mn f.length:Int))]=f++[.int ((I.mn f.length+d.mn v*b.mn f.length:Nat):Int)];rw[fH,Int.natCast_mul]
 ·intro H6 f m n X ez;rw[X]at n;have n:=n;subst n;have ea6:=m _ _ g;refine io a _ 3 3 ⟨rfl,rfl,ea6,rfl,?_⟩;have W:D≠a:=fun z=>by rw[z,g]at hD;cases hD
  refine q _ _ (fun p o e=>by rw[gy (gv e na)];exact m _ _ (S e)) (ii a D ⟨rfl,?_,by rw[gy W];exact ez⟩);rw[f7];have e:((CY l v b d).wt:Int)=(I.wt:Int)+(d.mn v:Int)*(b.wt:Int):=by show((I.wt+d.mn v*b.wt:Nat):Int)=_;rw[fH,Int.natCast_mul]
  unfold itV;rw[e];rfl
open TM.Internal (Kn Tr)
def lc6(h:l<=12):l<=200000:=O2
def AR{A:TS} (hσ:b[i]?=some (some (.ref a))) (e:H a=some (.lst (itV it cs))) (d:it.sh=x->A {D with nx:=u D} b H) (c:it.sh≠x->u D b H):pZ (qD (cT (tOp (cEq false) (tOp Ar (cV i) (tC (.int 6))) (tC (.str x)))) A jW) u D b H:=by
 show onV b[i]? _;rw[hσ];refine⟨_,e,gf (fZ rfl) ?_⟩;dsimp only[tC,cEq,onB];rw[fj];by_cases h:it.sh=x;·rw[gT h];exact iK (d h)
 ·rw[hV h];exact ij (c h)
theorem AQ.same {a:List It} (h:AQ H xs a) (S:gJ H H'):AQ H' xs a:=by
 induction h with
 |nil=>exact .nil
 |cons h r i=>exact .cons (h.same S) i
def Wd.at {ws:Zd} (a:Wd H wl ws) {k:Nat} (b:k<16):∃w,ws[k]?=some w/\(ws.map V.str)[k]?=some (.str w)/\NZ w=true/\w.length<=12:=by have l:=a.l;have e:ws[k]?=some (ws[k]' O2):=bE _;exact⟨_,e,by rw[aP,e];rfl,a.n _ (aQ e),(qu (a.n _ (aQ e))).2⟩
def Wd.same {ws:Zd} (a:Wd H wl ws) (S:gJ H H'):Wd H' wl ws:=⟨S _ _ a.e,a.l,a.n,a.d⟩
def t1 {a:It} (h:a.tx.length<=200000):∀t∈[a],t.tx.length<=200000:=fun t b=>by rw[bo.mp b];exact h
def t2{b:It} (h:a.tx.length<=200000) (d:b.tx.length<=200000):∀t∈[a,b],t.tx.length<=200000:=fun t c=>(ao.mp c).elim (fun e=>e▸h) (t1 d t)
def t3{c:It} (h:a.tx.length<=200000) (g:b.tx.length<=200000) (d:c.tx.length<=200000):∀t∈[a,b,c],t.tx.length<=200000:=fun t f=>(ao.mp f).elim (fun e=>e▸h) (t2 g d t)
def s4 {s:Str} (h:s.length<=12:=by decide+kernel):s.length<=200000:=O2
def Dc(b:0<=n) (a:n<10^60):(nuI n).tx.length<=200000:=Gd.tx (ws:=[]) (m:=0) (nuI.gd b a) (by show 1<=2000;decide)
def jr{l1 l2:Zx} (p:List (Option Str)) (l:H l1=none) (k:(NR H l1 (.lst (p.map oV))) l2=none) (g:AQ H xs b) (d:cN p=b.length) (f:p.length<=8) (i:∀w,some w∈p->w.length<=200000) (j:∀t∈b,t.tx.length<=200000) (q:∀c z,gJ H c->ItA c z (lO p b sh mo)->Q z c):G2 [.ref l1,.ref l2,.str sh,.str mo] (NR (NR H l1 (.lst (p.map oV))) l2 (.lst xs)) Q E0:=by have m:=gb l (.lst (p.map oV));have e:=gb k (.lst xs);have T:=m.trans e;have h:=g.same T;exact⟨l1,l2,p,xs,b,sh,mo,rfl,e _ _ f7,f7,h,cM d,d,f,i,j,fun c a n N=>q c _ (T.trans N.sm) N.it⟩
inductive XBs (vs:List V) (H:Hp) (Q:VK):Prop
 |mk (wl:Zx) (ws:Zd) (m:Nat) (x:V) (it:It) (c:Int) (e:vs=[.ref wl,x,.int c]) (hw:Wd H wl ws) (hm:m<=12) (ix:ItA H x it) (g:Gd ws m it) (lp:it.pl<=200) (lm:it.wt<=10000) (q:∀H' z jt,gJ H H'->ItA H' z jt->Gd ws m jt->Q z H')
def Lc:Sp:=fun a H Q _=>XBs a H Q
def rW (T:Txt K mg):FO P w base 4 T.d44 Lc:=by
 have b:=km (P:=P) (w:=w) (base:=base) T;refine T.d44.F.rd ju fun cdv A0 outer s H vs Q E u h=>?_;obtain⟨wl,ws,m,x,J,c,rfl,hw,hm,⟨a,cs,rfl,ea,ec⟩,⟨t,g⟩,lp,W,q⟩:=h;refine HzX ?_;intro _;refine⟨_,(fW (pS (i:=3) ju.nd (pF T.d43 (jZ T) u.m (fV (cv 2) fY)))
  (fW (gM (gq iA (gk gi (cv 1) fX) gh)
   (f9 (gC (pF T.d39 b u.m (fV (gG (fV (gk gi (gG (fV gh (fV gh fY))) (gP iE (cv 2) fX)) (fV hG (fV hG fY)))) (fV (gG (fV (cv 1) (fV (cv 3) fY))) (fV gh (fV gh fY)))))))
   gA)
  (fW (gM (gq iA (gk gi (cv 1) fX) gh)
   (f9 (gC (pF T.d39 b u.m (fV (gG (fV gh (fV hG (fV hG fY)))) (fV (gG (fV (cv 1) (fV (cv 3) fY))) (fV gh (fV gh fY)))))))
   gA)
  (fW (gM (gq iA (gk gi (cv 1) fX) gh)
   (f9 (gC (pF T.d39 b u.m (fV (gG (fV gh (fV hG (fV (gk gi (cv 1) fX) fY)))) (fV (gG (fV (cv 1) fY)) (fV gh (fV gh fY)))))))
   gA)
  (fW (gM (gq iA (gk gi (cv 1) fX) gh)
   (fW (pS (i:=4) ju.nd (pF T.d38 (kl T) u.m (fV (gk gi (cv 0) (gP iE (cv 2) fX)) (fV fX (fV gh (fV gh fY))))))
   (f9 (gC (pF T.d39 b u.m (fV (gG (fV gh (fV hG (fV (gk gi (cv 1) fX) (fV (gk gi (cv 0) (gP iE (cv 2) fX)) (fV hG fY)))))) (fV (gG (fV (cv 1) (fV (cv 4) fY))) (fV gh (fV gh fY))))))))
   gA)
  (fW (gM (gq iA (gk gi (cv 1) fX) gh)
   (fW (pS (i:=4) ju.nd (pF T.d38 (kl T) u.m (fV (gk gi (cv 0) (gP iE (cv 2) fX)) (fV fX (fV gh (fV (gk gi (cv 0) fX) fY))))))
   (fW (pS (i:=5) ju.nd (gG (fV gh (fV hG (fV gh (fV (gk gi (cv 0) (gP iE (cv 2) fX)) (fV hG (fV gh (fV (gk gi (cv 0) fX) (fV hG fY))))))))))
   (f9 (gC (pF T.d39 b u.m (fV (cv 5) (fV (gG (fV (cv 1) (fV (cv 4) (fV (cv 3) fY)))) (fV gh (fV gh fY)))))))))
   gA)
  (fW (gM (gq iA (gk gi (cv 1) fX) gh)
   (f9 (gC (pF T.d39 b u.m (fV (gG (fV gh (fV hG fY))) (fV (gG (fV (cv 1) fY)) (fV gh (fV gh fY)))))))
   gA)
  (f9 (gC (pF T.d41 (tU T) u.m (fV (cv 0) (fV (gP iE (cv 2) fX) (fV (cv 3) (fV (cv 1) fY)))))))))))))),?_⟩;refine Hz7 ?_;intros;have sl:=L9;have y:=(Gd.tx ⟨t,g⟩ O2:J.tx.length<=200000);refine⟨c,rfl,fun H1 az cz n n0 n1 N=>?_⟩;dsimp only[gU];have O:=uS (ws:=ws) (m:=m) n0 n1;have v:=N.sm;have X:=N.it;have e:=v _ _ ea;have ec1:=v _ _ ec;have g:=JN.mk g.j g.n;have d:=hw.same v;have R:=Dc n0 n1;refine eaa (emN c (show(0:Int)<3 by decide)) fun k M hk=>?_;refine eau (d.at (show k<16 by lia)) fun Z ew Y D U=>?_;refine eau (d.at (show 0<16 by decide)) fun x0 ex0 L C lx0=>?_;have A:ItA H1 (.ref a) J:=(ii a cs ⟨rfl,e,ec1⟩);refine AR rfl e (fun B=>?_) fun _=>?_
 ·refine eaa (emN c (show(0:Int)<2 by decide)) fun j ej hj=>?_;obtain⟨o,eo,ho,hh,lo⟩:∃o,([V.str "add",V.str "sub"]:List V)[j]?=some (.str o)/\(o,2)∈NW/\o∈vX/\o.length<=12:=by
   match j,hj with
   |0,_=>exact⟨_,rfl,gL,gL,gL⟩
   |1,_=>exact⟨_,rfl,gL,gL,gL⟩
  refine⟨lJ,fun p0 h0=>⟨(show(0:Int)<2 by decide),?_⟩⟩;dsimp only;rw[ej];have T0:=gb h0 (.lst [.str "add",.str "sub"]);refine⟨_,f7,gf (fZ eo) ⟨lC,fun I r=>⟨lJ,fun G p=>?_⟩⟩⟩;exact jr [some o,none,none] r p (.cons (A.same T0) (.cons (X.same T0) .nil)) rfl (lb rfl) (kO (lc6 lo) (jU (jU nE))) (t2 y R) fun f z S i=>q f z _ (v.trans (T0.trans S)) i ⟨_,rN ho hh g O zW⟩
 refine AR rfl e (fun B=>?_) fun _=>?_;·refine⟨lC,fun I r=>⟨lJ,fun G p=>?_⟩⟩;exact jr [some "call",none,none] r p (.cons A (.cons X .nil)) rfl (lb rfl) (kO s4 (jU (jU nE))) (t2 y R) fun f z S i=>q f z _ (v.trans S) i ⟨_,rN gL gL g O qv⟩
 refine AR rfl e (fun B=>?_) fun _=>?_;·have F:=g.j.mo (.inl B);have W:=(qu F).2;refine⟨_,e,gf (fZ rfl) ⟨lC,fun I r=>⟨se,fun G p=>?_⟩⟩⟩;exact jr [some "get",none,some J.mo] r p (.cons A .nil) rfl (lb rfl) (kO s4 (jU (kO (lc6 W) nE))) (t1 y) fun f z S i=>q f z _ (v.trans S) i ⟨_,E4 g F⟩
 refine AR rfl e (fun B=>?_) fun _=>?_;·have F:=g.j.mo (.inr B);have W:=(qu F).2;refine⟨(show(0:Int)<3 by decide),?_⟩;dsimp only;rw[M];refine⟨_,d.e,gf (fZ Y) ⟨_,_,_,1,rfl,fun H2 ar cr l=>?_⟩⟩;dsimp only[gU];refine⟨_,l.sm _ _ e,gf (fZ rfl) ⟨(show(0:Int)<3 by decide),?_⟩⟩;dsimp only;rw[M];refine⟨_,l.sm _ _ d.e,gf (fZ Y) ⟨LB,fun I r=>⟨lJ,fun G p=>?_⟩⟩⟩;exact jr [some "case",none,some J.mo,some Z,none] r p (.cons (A.same l.sm) (.cons l.it .nil)) rfl (lb rfl) (kO s4 (jU (kO (lc6 W) (kO (lc6 U) (jU nE))))) (t2 y (lc6 U)) fun f z S i=>q f z _ (v.trans (l.sm.trans S)) i ⟨_,Eb g ⟨xI D qv (fun _=>cK _),xJ (.inl rfl)⟩ F D⟩
 refine AR rfl e (fun B=>?_) fun _=>?_;·refine⟨(show(0:Int)<3 by decide),?_⟩;dsimp only;rw[M];refine⟨_,d.e,gf (fZ Y) ⟨_,d.e,gf (fZ L) ⟨_,_,_,1,rfl,fun H2 ar cr l=>?_⟩⟩⟩;dsimp only[gU];refine⟨(show(0:Int)<3 by decide),?_⟩;dsimp only;rw[M];refine⟨_,l.sm _ _ d.e,gf (fZ Y) ⟨_,l.sm _ _ d.e,gf (fZ L) ⟨JH,fun I r=>?_⟩⟩⟩;dsimp only[gU];refine⟨lC,fun G p=>?_⟩;exact jr [some "case",none,some "yes",some Z,none,some "no",some x0,none] r p (.cons (A.same l.sm) (.cons l.it (.cons (X.same l.sm) .nil))) rfl (lb rfl) (kO s4 (jU (kO s4 (kO (lc6 U) (jU (kO s4 (kO (lc6 lx0) (jU nE)))))))) (t3 y (lc6 U) R) fun f z S i=>q f z _ (v.trans (l.sm.trans S)) i ⟨_,zZ g ⟨xI D (fun _=>C) (fun _=>cK _),xJ (.inl rfl)⟩ (O.kid _) gL D gL C gL qv⟩
 refine AR rfl e (fun B=>?_) fun _=>?_;·refine⟨lJ,fun I r=>⟨se,fun G p=>?_⟩⟩;exact jr [some "size",none] r p (.cons A .nil) rfl (lb rfl) (kO s4 (jU nE)) (t1 y) fun f z S i=>q f z _ (v.trans S) i ⟨_,Jg gL gL g zW⟩
 refine⟨(show(0:Int)<3 by decide),?_⟩;dsimp only;rw[M];have mw:=g.j.mw k;exact⟨wl,ws,k,Z,.ref az,.ref a,nuI n,J,rfl,d,O2,ew,X,A,R,y,⟨by show 1<=1000000;decide,fun _=>cK _⟩,O2,fun f z S i=>q f z _ (v.trans S) i ⟨_,E5 O g ew D⟩⟩
open TM.Internal (Kn Tr)
def Dd{ws:Zd} (d:ws.Nodup) (a:ws[i]?=some x) (b:ws[j]?=some y) (n:i≠j):x≠y:=fun z=>by subst z;exact n ((List.getElem?_inj (av.mp a).1 d).mp (a.trans b.symm))
def z5(N:St->Hp->Prop) (k:∀a b,N a b->u D a b) (w:∀c,(∀a b,N a b->c a b)->t {D with nx:=c} σ H):pZ t u D σ H:=w (u D) k
def Dg{A:TS} {o:Int} (hσ:a[i]?=some (some (.int o))) (c:o=n->A {D with nx:=u D} a H) (b:o≠n->u D a H):pZ (qD (cT (tOp (cEq false) (cV i) (tC (.int n)))) A jW) u D a H:=by
 show onV a[i]? _;rw[hσ];show if(false ^^ decide (o=n))=true then _ else _;by_cases z:o=n;·rw[gT z];exact iK (c z)
 ·rw[hV z];exact ij (b z)
def Ld{A:TS} {o:Int} (hσ:a[i]?=some (some (.int o))) (c:o<n->A {D with nx:=u D} a H) (b:¬o<n->u D a H):pZ (qD (cT (tOp (cI0 fun i j=>V.bl (decide (i<j))) (cV i) (tC (.int n)))) A jW) u D a H:=by
 show onV a[i]? _;rw[hσ];show if decide (o<n)=true then _ else _;by_cases z:o<n;·rw[gT z];exact iK (c z)
 ·rw[hV z];exact ij (b z)
inductive XOd (vs:List V) (H:Hp) (Q:VK):Prop
 |mk (wl:Zx) (ws:Zd) (m:Nat) (x y:V) (it jt:It) (c:Int) (e:vs=[.ref wl,x,.int c,y]) (hw:Wd H wl ws) (ix:ItA H x it) (iy:ItA H y jt) (g:Gd ws m it) (g':Gd ws m jt) (lp:it.pl<=200) (lq:jt.pl<=200) (q:∀H' z kt,gJ H H'->ItA H' z kt->Gd ws m kt->Q z H')
def Le:Sp:=fun a H Q _=>XOd a H Q
def yW (T:Txt K mg):FO P w base 4 T.d45 Le:=by
 have d:=km (P:=P) (w:=w) (base:=base) T;refine T.d45.F.rd sZ fun cdv A0 Y s H vs Q E p h=>?_;obtain⟨wl,ws,m,x,y,D,jt,c,rfl,o,C,V,⟨t,g⟩,⟨u,J⟩,lp,lq,q⟩:=h;refine HzX ?_;intro _;refine⟨_,(fW (gM (gq iA (gP iE (cv 2) fX) fX)
   (f9 (gC (pF T.d39 d p.m (fV (gG (fV gh (fV hG (fV (gk gi (cv 0) (gP iE (gP kr (cv 2) fX) fX)) fY)))) (fV (gG (fV (cv 1) fY)) (fV gh (fV gh fY)))))))
   gA)
  (fW (gM (gq iA (gP iE (cv 2) fX) fX)
   (fW (pS (i:=4) sZ.nd (pF T.d40 (mC T) p.m (fV (cv 1) (fV (gP iE (gP kr (cv 2) fX) fX) fY))))
   (f9 (gC (pF T.d39 d p.m (fV (gG (fV gh (fV hG (fV (gk gi (cv 0) fX) (fV (gk gi (cv 0) (gP iE (gP kr (cv 2) fX) fX)) (fV hG (fV (gk gi (cv 0) fX) (fV (gk gi (cv 0) fX) (fV hG fY))))))))) (fV (gG (fV (cv 3) (fV (cv 4) (fV (pF T.d43 (jZ T) p.m (fV (cv 2) fY)) fY)))) (fV (gk gi (cv 1) fX) (fV (gk gi (cv 1) fX) fY))))))))
   gA)
  (fW (gM (gq iA (gP iE (cv 2) fX) fX)
   (f9 (gC (pF T.d39 d p.m (fV (gG (fV gh (fV hG (fV hG (fV hG fY))))) (fV (gG (fV (cv 3) (fV (pF T.d43 (jZ T) p.m (fV (gP iE (gP kr (cv 2) fX) fX) fY)) (fV (cv 1) fY)))) (fV gh (fV gh fY)))))))
   gA)
  (fW (gM (gq iA (gP iE (cv 2) fX) fX)
   (f9 (gC (pF T.d39 d p.m (fV (gG (fV gh (fV hG (fV hG fY)))) (fV (gG (fV (cv 3) (fV (cv 1) fY))) (fV gh (fV gh fY)))))))
   gA)
  (f9 (gC (pF T.d39 d p.m (fV (gG (fV gh (fV hG (fV hG fY)))) (fV (gG (fV (cv 3) (fV (cv 1) fY))) (fV gh (fV gh fY))))))))))),?_⟩;refine Hz4 ?_;intros;have sl:=L9;have F:=(Gd.tx ⟨t,g⟩ O2:D.tx.length<=200000);have U:=(Gd.tx ⟨u,J⟩ O2:jt.tx.length<=200000);refine eau (o.at (show 0<16 by decide)) fun x0 ex0 exv nx0 lx0=>?_;refine eau (o.at (show 1<16 by decide)) fun x1 ex1 M nx1 lx1=>?_;refine eau (o.at (show 2<16 by decide)) fun x2 ex2 L Z lx2=>?_;refine⟨(show(0:Int)<5 by decide),?_⟩;show if(false ^^ decide (c%5=0))=true then _ else _;by_cases z:c%5=0;·rw[gT z];refine eaa (emN (c/5) (show(0:Int)<5 by decide)) fun k W hk=>?_;refine eau (o.at (show k<16 by lia)) fun R ew ev nw lw=>?_;refine iK ⟨⟨O3,O3⟩,(show(0:Int)<5 by decide),?_⟩;dsimp only;rw[W];refine⟨_,o.e,gf (fZ ev) ⟨lC,fun B l=>⟨se,fun A j=>?_⟩⟩⟩;exact jr [some "get",none,some R] l j (.cons C .nil) rfl (lb rfl) (kO s4 (jU (kO (lc6 lw) nE))) (t1 F) fun O z S i=>q O z _ S i ⟨_,E4 g nw⟩
 rw[hV z];refine ij ⟨(show(0:Int)<5 by decide),?_⟩;show if(false ^^ decide (c%5=1))=true then _ else _;by_cases z:c%5=1;·rw[gT z];refine eaa (emN (c/5) (show(0:Int)<3 by decide)) fun k W hk=>?_;refine eau (o.at (show k<16 by lia)) fun R ew ev nw lw=>?_;refine iK ⟨⟨O3,O3⟩,(show(0:Int)<3 by decide),?_⟩;dsimp only;rw[W];refine⟨x,k,D,rfl,C,fun H1 ah ch N1=>?_⟩;dsimp only[gU];have S1:=N1.sm;have f:=o.same S1;refine⟨_,f.e,gf (fZ exv) ⟨⟨O3,O3⟩,(show(0:Int)<3 by decide),?_⟩⟩;dsimp only;rw[W];refine⟨_,f.e,gf (fZ ev) ⟨_,f.e,gf (fZ M) ⟨_,f.e,gf (fZ L) ⟨JH,fun B l=>?_⟩⟩⟩⟩;have X:=gb l (.lst [.str "case",.non,.str x0,.str R,.non,.str x1,.str x2,.non]);refine⟨c,rfl,fun H2 az cz n I G v=>⟨lC,fun A j=>?_⟩⟩;have r:=S1.trans (X.trans v.sm);have e:=gb j (.lst [y,.ref ah,.ref az]);refine eap C fun a cs z0 ea ec=>?_;subst z0;refine⟨_,e _ _ (r _ _ ea),gf (fZ rfl) ⟨_,e _ _ (r _ _ ea),gf (fZ rfl) ?_⟩⟩;refine⟨B,A,[some "case",none,some x0,some R,none,some x1,some x2,none],_,[jt,mj D k,nuI n],D.sh,D.mo,rfl,e _ _ (v.sm _ _ f7),f7,.cons ((V.same r).same e) (.cons (((N1.it.same X).same v.sm).same e) (.cons (v.it.same e) .nil)),(lb rfl),rfl,(lb rfl),kO s4 (jU (kO (lc6 lx0) (kO (lc6 lw) (jU (kO (lc6 lx1) (kO (lc6 lx2) (jU nE))))))),t3 U F (Dc I G),fun H3 b cb N=>?_⟩;exact q H3 _ _ (r.trans (e.trans N.sm)) N.it ⟨_,zZ J (g.bind ew) ((uS I G).kid _) nx0 nw nx1 Z (Dd o.d ex0 ex1 O3) g.j.mo⟩
 rw[hV z];refine ij ⟨(show(0:Int)<5 by decide),?_⟩;show if(false ^^ decide (c%5=2))=true then _ else _;by_cases z:c%5=2;·rw[gT z];refine iK ⟨Hn,fun B l=>⟨⟨O3,O3⟩,(show(0:Int)<4 by decide),?_⟩⟩;have X:=gb l (.lst [.str "at",.non,.non,.non]);refine⟨_,rfl,fun H2 az cz n I G v=>⟨lC,fun A j=>?_⟩⟩;have r:=X.trans v.sm;have e:=gb j (.lst [y,.ref az,x]);refine⟨B,A,[some "at",none,none,none],_,[jt,nuI n,D],_,_,rfl,e _ _ (v.sm _ _ f7),f7,.cons ((V.same r).same e) (.cons (v.it.same e) (.cons ((C.same r).same e) .nil)),(lb rfl),rfl,(lb rfl),kO s4 (jU (jU (jU nE))),t3 U (Dc I G) F,fun H3 b cb N=>?_⟩;exact q H3 _ _ (r.trans (e.trans N.sm)) N.it ⟨_,Jh J (uS I G) g⟩
 rw[hV z];refine ij ⟨(show(0:Int)<5 by decide),?_⟩;show if(false ^^ decide (c%5=3))=true then _ else _;by_cases z:c%5=3;·rw[gT z];refine iK ⟨lC,fun B l=>⟨lJ,fun A j=>?_⟩⟩;exact jr [some "call",none,none] l j (.cons V (.cons C .nil)) rfl (lb rfl) (kO s4 (jU (jU nE))) (t2 U F) fun O z S i=>q O z _ S i ⟨_,rN gL gL J g qv⟩
 rw[hV z];refine ij ⟨lC,fun B l=>⟨lJ,fun A j=>?_⟩⟩;exact jr [some "join",none,none] l j (.cons V (.cons C .nil)) rfl (lb rfl) (kO s4 (jU (jU nE))) (t2 U F) fun O z S i=>q O z _ S i ⟨_,rN gL gL J g zX⟩
inductive XSi (vs:List V) (H:Hp) (Q:VK):Prop
 |mk (wl:Zx) (ws:Zd) (m:Nat) (x:V) (it:It) (o c:Int) (e:vs=[.ref wl,.int o,.int c,x]) (hw:Wd H wl ws) (hm:m<=12) (ix:ItA H x it) (g:Gd ws m it) (lp:it.pl<=200) (lm:it.wt<=10000) (q:∀H' z jt,gJ H H'->ItA H' z jt->Gd ws m jt->Q z H')
def Lg:Sp:=fun a H Q _=>XSi a H Q
def uq (T:Txt K mg):FO P w base 5 T.d47 Lg:=by
 have b:=km (P:=P) (w:=w) (base:=base) T;refine T.d47.F.rd oK fun cdv A0 y s H vs Q E l h=>?_;obtain⟨V,U,m,x,G,o,c,rfl,e,hm,n,⟨t,g⟩,Y,Z,q⟩:=h;refine HzX ?_;intro _;refine⟨_,(fW (gM (gq uc (cv 1) fX)
   (fW (pS (i:=4) oK.nd (pF T.d40 (mC T) l.m (fV (cv 3) (fV (gP iE (cv 2) fX) fY))))
   (f9 (gC (pF T.d39 b l.m (fV (gG (fV gh (fV (gk gi (cv 0) (gP iE (cv 2) fX)) (fV hG fY)))) (fV (gG (fV (cv 4) fY)) (fV gh (fV gh fY))))))))
   gA)
  (fW (gM (gq uc (cv 1) fX)
   (f9 (gC (pF T.d44 (rW T) l.m (fV (cv 0) (fV (cv 3) (fV (cv 2) fY))))))
   gA)
  (fW (gM (gq iA (cv 1) fX)
   (f9 (gC (pF T.d39 b l.m (fV (gG (fV gh (fV (gk gi (cv 0) (gP iE (cv 2) fX)) (fV hG fY)))) (fV (gG (fV (cv 3) fY)) (fV gh (fV (gk gi (cv 0) (gP iE (cv 2) fX)) fY)))))))
   gA)
  (fW (gM (gq iA (cv 1) fX)
   (f9 (gC (pF T.d39 b l.m (fV (gG (fV gh (fV (gk gi (cv 0) (gP iE (cv 2) fX)) (fV hG fY)))) (fV (gG (fV (cv 3) fY)) (fV gh (fV (gk gi (cv 0) (gP iE (cv 2) fX)) fY)))))))
   gA)
  (fW (gM (gq iA (cv 1) fX)
   (f9 (gC (pF T.d39 b l.m (fV (gG (fV gh (fV hG fY))) (fV (gG (fV (cv 3) fY)) (fV gh (fV gh fY)))))))
   gA)
  (fW (gM (gq iA (gP iE (cv 2) fX) fX)
   (f9 (gC (pF T.d38 (kl T) l.m (fV gh (fV fX (fV gh (fV (gk gi (cv 0) fX) fY)))))))
   gA)
  (f9 (gC (pF T.d38 (kl T) l.m (fV gh (fV fX (fV gh (fV gh fY))))))))))))),?_⟩;refine Hz6 ?_;intros;have sl:=L9;have u:=(Gd.tx ⟨t,g⟩ O2:G.tx.length<=200000);refine eaa (emN c (show(0:Int)<3 by decide)) fun k v hk=>?_;refine eau (e.at (show k<16 by lia)) fun M ew J O R=>?_;refine eaa (emN c (show(0:Int)<5 by decide)) fun k5 r hk5=>?_;refine eau (e.at (show k5<16 by lia)) fun W ew5 p B C=>?_;refine eau (e.at (show 0<16 by decide)) fun x0 ex0 I A X=>?_;show if decide (o<13)=true then _ else _;by_cases z:o<13;·rw[gT z];refine iK ⟨(show(0:Int)<3 by decide),?_⟩;dsimp only;rw[v];refine⟨x,k,G,rfl,n,fun H1 ah ch L=>?_⟩;dsimp only[gU];refine⟨(show(0:Int)<3 by decide),?_⟩;dsimp only;rw[v];refine⟨_,L.sm _ _ e.e,gf (fZ J) ⟨lC,fun F j=>⟨se,fun D f=>?_⟩⟩⟩;exact jr [some "fn",some M,none] j f (.cons L.it .nil) rfl (lb rfl) (kO s4 (kO (lc6 R) (jU nE))) (t1 u) fun d z S i=>q d z _ (L.sm.trans S) i ⟨_,GP (g.bind ew) O⟩
 rw[hV z];refine ij ?_;show if decide (o<27)=true then _ else _;by_cases z:o<27;·rw[gT z];exact iK ⟨V,U,m,x,G,c,rfl,e,hm,n,⟨t,g⟩,Y,Z,q⟩
 rw[hV z];refine ij ?_;show if(false ^^ decide (o=27))=true then _ else _;by_cases z:o=27;·rw[gT z];refine iK ⟨(show(0:Int)<3 by decide),?_⟩;dsimp only;rw[v];refine⟨_,e.e,gf (fZ J) ⟨lC,fun F j=>⟨se,fun D f=>⟨(show(0:Int)<3 by decide),?_⟩⟩⟩⟩;dsimp only;rw[v];refine⟨_,((gb j _).trans (gb f _)) _ _ e.e,gf (fZ J) ?_⟩;exact jr [some "tag",some M,none] j f (.cons n .nil) rfl (lb rfl) (kO s4 (kO (lc6 R) (jU nE))) (t1 u) fun d z S i=>q d z _ S i ⟨_,Jf g O⟩
 rw[hV z];refine ij ?_;show if(false ^^ decide (o=28))=true then _ else _;by_cases z:o=28;·rw[gT z];refine iK ⟨(show(0:Int)<5 by decide),?_⟩;dsimp only;rw[r];refine⟨_,e.e,gf (fZ p) ⟨lC,fun F j=>⟨se,fun D f=>⟨(show(0:Int)<5 by decide),?_⟩⟩⟩⟩;dsimp only;rw[r];refine⟨_,((gb j _).trans (gb f _)) _ _ e.e,gf (fZ p) ?_⟩;exact jr [some "rec",some W,none] j f (.cons n .nil) rfl (lb rfl) (kO s4 (kO (lc6 C) (jU nE))) (t1 u) fun d z S i=>q d z _ S i ⟨_,GQ g B⟩
 rw[hV z];refine ij ?_;show if(false ^^ decide (o=29))=true then _ else _;by_cases z:o=29;·rw[gT z];refine iK ⟨lJ,fun F j=>⟨se,fun D f=>?_⟩⟩;exact jr [some "row",none] j f (.cons n .nil) rfl (lb rfl) (kO s4 (jU nE)) (t1 u) fun d z S i=>q d z _ S i ⟨_,GU g⟩
 rw[hV z];refine ij ⟨(show(0:Int)<2 by decide),?_⟩;show if(false ^^ decide (c%2=0))=true then _ else _;by_cases z:c%2=0;·rw[gT z];exact iK ⟨_,e.e,gf (fZ I) ⟨_,_,_,1,rfl,fun d a cs N=>q d _ _ N.sm N.it ⟨_,zY.1 _ A⟩⟩⟩
 ·rw[hV z];exact ij ⟨_,_,_,1,rfl,fun d a cs N=>q d _ _ N.sm N.it ⟨_,zY.2⟩⟩
inductive XPa (vs:List V) (H:Hp) (Q:VK):Prop
 |mk (wl:Zx) (ws:Zd) (m:Nat) (x y:V) (it jt:It) (o c:Int) (e:vs=[.ref wl,.int o,.int c,y,x]) (hw:Wd H wl ws) (ix:ItA H x it) (iy:ItA H y jt) (g:Gd ws m it) (g':Gd ws m jt) (lp:it.pl<=200) (lq:jt.pl<=200) (lm:it.wt<=10000) (ln:jt.wt<=10000) (q:∀H' z kt,gJ H H'->ItA H' z kt->Gd ws m kt->Q z H')
def Lh:Sp:=fun a H Q _=>XPa a H Q
def xN (T:Txt K mg):FO P w base 5 T.d46 Lh:=by
 have a:=km (P:=P) (w:=w) (base:=base) T;refine T.d46.F.rd rH fun cdv A0 U s H vs Q E r h=>?_;obtain⟨J,ws,m,x,y,N,F,o,c,rfl,B,A,l,⟨t,g⟩,⟨u,p⟩,lp,lq,lm,ln,q⟩:=h;refine HzX ?_;intro _;refine⟨_,(fW (gM (PW.pt (nK (gq uc (cv 1) fX) (mD (PW.pt (rO (gq iA (cv 1) fX) (rO (gq iA (gk gi (cv 3) fX) gh) (qc (gq iA (gk gi (cv 3) fX) gh))))))))
   (f9 (gC (pF T.d39 a r.m (fV (gG (fV gh (fV hG (fV hG fY)))) (fV (gG (fV (cv 3) (fV (cv 4) fY))) (fV gh (fV gh fY)))))))
   gA)
  (fW (gM (gq uc (cv 1) fX)
   (f9 (gC (pF T.d41 (tU T) r.m (fV (cv 0) (fV (gP iE (cv 2) fX) (fV (cv 3) (fV (cv 4) fY)))))))
   gA)
  (fW (gM (gq iA (cv 1) fX)
   (fW (pS (i:=5) rH.nd (gk gi (cv 0) (gP ki fX (gP iE (cv 2) fX))))
   (f9 (gC (pF T.d39 a r.m (fV (gG (fV gh (fV (gk gi (cv 0) fX) (fV hG (fV (cv 5) (fV hG fY)))))) (fV (gG (fV (cv 3) (fV (cv 4) fY))) (fV gh (fV (cv 5) fY))))))))
   gA)
  (fW (gM (gq iA (cv 1) fX)
   (f9 (gC (pF T.d39 a r.m (fV (gG (fV gh (fV hG (fV hG fY)))) (fV (gG (fV (cv 3) (fV (cv 4) fY))) (fV gh (fV gh fY)))))))
   gA)
  (fW (gM (gq iA (cv 1) fX)
   (f9 (gC (pF T.d39 a r.m (fV (gG (fV gh (fV hG (fV hG fY)))) (fV (gG (fV (cv 3) (fV (cv 4) fY))) (fV gh (fV gh fY)))))))
   gA)
  (fW (gM (gq iA (cv 1) fX)
   (f9 (gC (pF T.d39 a r.m (fV (gG (fV (gk gi (gG (fV gh (fV gh fY))) (gP iE (cv 2) fX)) (fV hG (fV hG fY)))) (fV (gG (fV (cv 3) (fV (cv 4) fY))) (fV gh (fV gh fY)))))))
   gA)
  (fW (gM (gq iA (cv 1) fX)
   (f9 (gC (pF T.d39 a r.m (fV (gG (fV gh (fV hG (fV hG (fV hG fY))))) (fV (gG (fV (cv 3) (fV (pF T.d43 (jZ T) r.m (fV (gP iE (cv 2) fX) fY)) (fV (cv 4) fY)))) (fV gh (fV gh fY)))))))
   gA)
  (f9 (gC (pF T.d45 (yW T) r.m (fV (cv 0) (fV (cv 4) (fV (cv 2) (fV (cv 3) fY)))))))))))))),?_⟩;refine Hz7 ?_;intros;have sl:=L9;have D:=(Gd.tx ⟨t,g⟩ O2:N.tx.length<=200000);have C:=(Gd.tx ⟨u,p⟩ O2:F.tx.length<=200000);refine eau (B.at (show 0<16 by decide)) fun x0 ex0 exv W Y=>?_;refine z5 (fun O d=>d=H/\O=[some (.ref J),some (.int o),some (.int c),some y,some x,none]) ?_ ?_;rotate_left
 ·intro nx hD;refine eap l fun b cb z0 eb ecb=>?_;subst z0;have l:ItA H (.ref b) F:=(ii b cb ⟨rfl,eb,ecb⟩);have no:=hD _ _ ⟨rfl,rfl⟩;show if decide (o<16)=true then _ else _;by_cases z:o<16
  ·rw[gT z];refine iK ?_;have R:∀k,k=true->if k=true then Eh (Dz G2 [] E0 (kP (AS (kP (tC (.str "call")) (kP (tC .non) (kP (tC .non) x8)))) (kP (AS (kP (cV 3) (kP (cV 4) x8))) (kP (tC (.str "any")) (kP (tC (.str "")) x8))))) {nx:=nx,rt:=Q} [some (.ref J),some (.int o),some (.int c),some (.ref b),some x,none] H else jW {nx:=nx,rt:=Q} [some (.ref J),some (.int o),some (.int c),some (.ref b),some x,none] H:=fun k hk=>by subst hk;refine iK ⟨lC,fun I f=>⟨lJ,fun G e=>?_⟩⟩;exact jr [some "call",none,none] f e (.cons l (.cons A .nil)) rfl (lb rfl) (kO s4 (jU (jU nE))) (t2 C D) fun d z S i=>q d z _ S i ⟨_,rN gL gL p g qv⟩
   show if(false ^^ decide (o=13))=true then _ else _;by_cases z:o=13;·rw[gT z];exact iK (R _ rfl)
   ·rw[hV z];refine ij ⟨_,eb,gf (fZ rfl) ?_⟩;dsimp only[tC,cEq,onB];rw[fj];by_cases z:F.sh="fn";·rw[gT z];exact iK (R _ rfl)
    ·rw[hV z];refine ij ⟨_,eb,gf (fZ rfl) ?_⟩;dsimp only[tC,cEq,onB];rw[fj];by_cases z:F.sh="any";·rw[gT z];exact R _ rfl
     ·rw[hV z];exact ij no
  ·rw[hV z];exact ij (ij no)
 rintro _ H ⟨rfl,rfl⟩;refine eaa (emN c (show(0:Int)<3 by decide)) fun k ek hk=>?_;refine eau (B.at (show k<16 by lia)) fun w0 ew ev nw lw=>?_;refine Ld rfl (fun z=>?_) fun _=>?_;·refine⟨(show(0:Int)<3 by decide),?_⟩;dsimp only;rw[ek];have mw:=g.j.mw k;exact⟨J,ws,k,w0,y,x,F,N,rfl,B,O2,ew,l,A,C,D,⟨O2,fun v=>by have:=p.j.mw v;lia⟩,O2,fun d z S i=>q d z _ S i ⟨_,E5 p g ew nw⟩⟩
 refine Dg rfl (fun z=>?_) fun _=>?_;·refine eaa (emN c (show(0:Int)<4 by decide)) fun k4 ek4 hk4=>?_;refine eau (B.at (show 1+k4<16 by lia)) fun w4 ew4 ev4 X Z=>?_;refine⟨(show(0:Int)<4 by decide),?_⟩;dsimp only;rw[ek4];dsimp only[cI0];rw[show(1:Int)+(k4:Int)=((1+k4:Nat):Int) by lia];refine⟨_,B.e,gf (fZ ev4) ?_⟩;dsimp only[gU];refine⟨_,B.e,gf (fZ exv) ⟨LB,fun I f=>⟨lJ,fun G e=>?_⟩⟩⟩;exact jr [some "rec",some x0,none,some w4,none] f e (.cons l (.cons A .nil)) rfl (lb rfl) (kO s4 (kO (lc6 Y) (jU (kO (lc6 Z) (jU nE))))) (t2 C D) fun d z S i=>q d z _ S i ⟨_,GS p g W X (Dd B.d ex0 ew4 O2)⟩
 refine Dg rfl (fun z=>?_) fun _=>?_;·refine⟨lC,fun I f=>⟨lJ,fun G e=>?_⟩⟩;exact jr [some "row",none,none] f e (.cons l (.cons A .nil)) rfl (lb rfl) (kO s4 (jU (jU nE))) (t2 C D) fun d z S i=>q d z _ S i ⟨_,GV p g⟩
 refine Dg rfl (fun z=>?_) fun _=>?_;·refine⟨lC,fun I f=>⟨lJ,fun G e=>?_⟩⟩;exact jr [some "less",none,none] f e (.cons l (.cons A .nil)) rfl (lb rfl) (kO s4 (jU (jU nE))) (t2 C D) fun d z S i=>q d z _ S i ⟨_,rN gL gL p g GO⟩
 refine Dg rfl (fun z=>?_) fun _=>?_
 ·refine eaa (emN c (show(0:Int)<2 by decide)) fun j ej hj=>?_;obtain⟨o,eo,ho,hh,lo⟩:∃o,([V.str "add",V.str "sub"]:List V)[j]?=some (.str o)/\(o,2)∈NW/\o∈vX/\o.length<=12:=by
   match j,hj with
   |0,_=>exact⟨_,rfl,gL,gL,gL⟩
   |1,_=>exact⟨_,rfl,gL,gL,gL⟩
  refine⟨lJ,fun p0 h0=>⟨(show(0:Int)<2 by decide),?_⟩⟩;dsimp only;rw[ej];have T0:=gb h0 (.lst [.str "add",.str "sub"]);refine⟨_,f7,gf (fZ eo) ⟨lC,fun I f=>⟨lJ,fun G e=>?_⟩⟩⟩;exact jr [some o,none,none] f e (.cons (l.same T0) (.cons (A.same T0) .nil)) rfl (lb rfl) (kO (lc6 lo) (jU (jU nE))) (t2 C D) fun d z S i=>q d z _ (T0.trans S) i ⟨_,rN ho hh p g zW⟩
 refine Dg rfl (fun z=>?_) fun _=>?_;·refine⟨Hn,fun I f=>⟨(show(0:Int)<3 by decide),?_⟩⟩;have T1:=gb f (.lst [.str "at",.non,.non,.non]);refine⟨_,rfl,fun H2 az cz n n0 n1 N2=>⟨lC,fun G e=>?_⟩⟩;have S2:=T1.trans N2.sm;have L:=gb e (.lst [y,.ref az,x]);refine⟨I,G,[some "at",none,none,none],_,[F,nuI n,N],_,_,rfl,L _ _ (N2.sm _ _ f7),f7,.cons ((l.same S2).same L) (.cons (N2.it.same L) (.cons ((A.same S2).same L) .nil)),(lb rfl),rfl,(lb rfl),kO s4 (jU (jU (jU nE))),t3 C (Dc n0 n1) D,fun H3 b cb N3=>?_⟩;exact q H3 _ _ (S2.trans (L.trans N3.sm)) N3.it ⟨_,Jh p (uS n0 n1) g⟩
 exact⟨J,ws,m,x,y,N,F,c,rfl,B,A,l,⟨t,g⟩,⟨u,p⟩,lp,lq,q⟩
open GR.Internal (isName)
open TM.Internal (Kn Tr)
structure Js (ws:Zd) (m dn:Nat) (it:It):Prop where
 g:Gd ws m it
 n:it.ne<=16
 w:it.wt<=24
 p:it.pl+dn<=140\/it.pl=1
def Js.nu {ws:Zd} {m:Nat} {n:Int} (b:0<=n) (a:n<10^60):Js ws m dn (nuI n):=⟨nuI.gd b a,by show 1<=16;decide,by show 1<=24;decide,.inr rfl⟩
theorem Js.pl {ws:Zd} {m:Nat} {it:It} (h:Js ws m dn it):it.pl<=200:=by have:=h.p;lia
def Stk.ne {a:Zx} {J:It->Prop} {l:List V} {v:V} (k:Stk H st sn J) (e:H a=some (.lst l)) (f:v∈l) (d:∀b,v≠ .ref b):a≠st:=fun z=>by refine eak k fun i g _ h=>?_;rw[z,g]at e;cases du.inj e;refine eaa (h _ f) fun _ c _=>?_;refine eah c fun _ _ e _=>?_;exact d _ e
def Wd.fs {ws:Zd} {J:It->Prop} (a:Wd H wl ws) (k:Stk H st sn J) (F:FS st H H'):Wd H' wl ws:=by refine eak (a.at (show 0<16 by decide)) fun c _ e _=>?_;exact⟨F _ _ a.e (k.ne a.e (aQ e) fun b z=>nomatch z),a.l,a.n,a.d⟩
def Mk (H:Hp) (ws:Zd) (m:Nat) (x:V):Prop:=∃(a:Zx) (d e:Nat) (w b c:Str),x= .ref a/\H a=some (.lst [.str w,.int (e:Int),.str b,.str c])/\d<m/\ws[3+d]?=some w/\(b="rec"\/b="tag"->isName c=true)
def Md (H:Hp) (b:Zx) (ws:Zd) (m:Nat):Prop:=∃a,H b=some (.lst a)/\a.length=m/\∀x∈a,Mk H ws m x
def Md.fs {ws:Zd} {m:Nat} {J:It->Prop} (h:Md H ml ws m) (k:Stk H st sn J) (n:ml≠st) (F:FS st H H'):Md H' ml ws m:=by refine eak h fun g e l q=>?_;refine⟨g,F _ _ e n,l,fun x p=>?_⟩;refine eax (q x p) fun a d i w j o=>fae fun f c r=>?_;subst f;exact iae a d i w j o ⟨rfl,F _ _ c (k.ne c aj fun b z=>nomatch z),r⟩
def if2{B:Prop} (k:B) (h:a=true->B->X):if a=true then X else B:=by
 cases a with
 |true=>exact h rfl k
 |false=>exact k
def if3{A B:Prop} (k:A) (h:B):if a=true then A else if b=true then A else B:=by
 cases a with
 |true=>exact k
 |false=>cases b with
  |true=>exact k
  |false=>exact h
def Li{A:Prop} (k:A) (h:a=false->A->X):if a=true then A else X:=by
 cases a with
 |true=>exact k
 |false=>exact h rfl k
inductive XSt (vs:List V) (H:Hp) (Q:VK):Prop
 |mk (wl st ml:Zx) (ws:Zd) (m sn:Nat) (c:Int) (dn:Nat) (e:vs=[.ref wl,.ref st,.ref ml,.int c,.int (dn:Int)]) (hw:Wd H wl ws) (k:Stk H st sn (Js ws m dn)) (nm:ml≠st) (md:Md H ml ws m) (hm:m<=12) (hs:sn<10000000) (q:∀H' v,FS st H H'->Stk H' st (sn+ 1) (Js ws m dn)->Q v H')
def Lj:Sp:=fun a H Q _=>XSt a H Q
def Nw (H:Hp) (st:Zx) (c:Nat) (ws:Zd) (m d:Nat) (x:V) (a:Hp):Prop:=FS st H a/\Stk a st c (Js ws m d)/\∃b,ItA a x b/\Gd ws m b
def xO (T:Txt K mg):FO P w base 6 T.d48 Lj:=by
 refine T.d48.F.rd iI fun cdv A0 outer s H vs Q E t h=>?_;obtain⟨wl,b,X,r,m,M,c,u,rfl,O,k,nm,md,hm,hs,q⟩:=h;refine HzX ?_;intro _;refine⟨_,(fW (pS (i:=5) iI.nd (gP iE (cv 3) fX))
  (fW (pS (i:=6) iI.nd (gP kr (cv 3) fX))
  (fW (gM (gq uc (cv 5) fX)
   (f9 (pS (i:=7) iI.nd (pF T.d43 (jZ T) t.m (fV (cv 6) fY))))
   (f9 (gM (gq uc (cv 5) fX)
    (fW (pS (i:=7) iI.nd (pF T.d38 (kl T) t.m (fV (gk gi (cv 0) (gP iE (cv 6) fX)) (fV fX (fV gh (fV gh fY))))))
    (f9 (wq (qG rfl (Hj ["_law_arg"] [("_law_arg",6,s.heap.objs.size+ 1)]) (ko rfl T.z_range (fV fX fY)) (fun _ _ _ _ _=>kS) (fun _ _ _ _ _=>(iS wx rfl T.z_int wM (fV (iV iA (cv 0) (gP iE (cv 1) fX)) fY)))) (wo (cv 7) fX qg))))
    (f9 (gM (PW.pt (nK (gq iA (cv 5) fX) (mD (gq qJ (gN gH rfl T.z_len iN (fV (cv 2) fY)) fX))))
     (fW (pS (i:=8) iI.nd (gk gi (cv 2) (gP iE (cv 6) (gN gH rfl T.z_len iN (fV (cv 2) fY)))))
     (f9 (pS (i:=7) iI.nd (pF T.d38 (kl T) t.m (fV (gk gi (cv 8) fX) (fV (gP ki fX (gk gi (cv 8) fX)) (fV (gk gi (cv 8) fX) (fV (gk gi (cv 8) fX) fY))))))))
     (f9 (gM (gq iA (cv 5) fX)
      (fW (pS (i:=7) iI.nd (pF T.d38 (kl T) t.m (fV (gk gi (cv 0) (gP ki fX (gN gH rfl T.z_len iN (fV (cv 2) fY)))) (fV fX (fV gh (fV gh fY))))))
      (f9 (wq qa (wo (cv 7) fX qg))))
      (f9 (gM (PW.pt (rO (gq uc (cv 5) fX) (qc (gq qJ (cv 5) fX))))
       (f9 (pS (i:=7) iI.nd (pF T.d47 (uq T) t.m (fV (cv 0) (fV (cv 5) (fV (cv 6) (fV (pF T.d42 (tT T) t.m (fV (cv 1) fY)) fY)))))))
       (fW (pS (i:=9) iI.nd (pF T.d42 (tT T) t.m (fV (cv 1) fY)))
       (f9 (pS (i:=7) iI.nd (pF T.d46 (xN T) t.m (fV (cv 0) (fV (cv 5) (fV (cv 6) (fV (pF T.d42 (tT T) t.m (fV (cv 1) fY)) (fV (cv 9) fY))))))))))))))))))
  (fW (gM (PW.pt (rO (gq qJ (gk gi (cv 7) fX) fX) (rO (gq qJ (gk gi (cv 7) fX) fX) (qc (gq qJ (gP ki (gk gi (cv 7) fX) (cv 4)) fX)))))
   (f9 (pS (i:=7) iI.nd (pF T.d43 (jZ T) t.m (fV (cv 6) fY))))
   gA)
  (f9 (gK (iW (jG eS eU eV gX (NS (cv 1)) (fV (NS (cv 7)) fY))))))))),?_⟩;refine Hz4 ?_;intros;have sl:=L9;refine⟨(show(0:Int)<32 by decide),⟨O3,O3⟩,?_⟩;dsimp only[gU];generalize c%32=o;generalize c/32=g;refine eaa (emN g (show(0:Int)<3 by decide)) fun j ej hj=>?_;refine eau (O.at (show j<16 by lia)) fun w0 ew ev nw lw=>?_;refine eak (id md) fun mx em lm am=>?_;refine z5 (fun L H'=>∃x o8 o9,L=[some (.ref wl),some (.ref b),some (.ref X),some (.int c),some (.int (u:Int)),some (.int o),some (.int g),some x,o8,o9]/\Nw H b M r m u x H') ?_ ?_;rotate_left
 ·intro nx hD;have go:∀{x:V} {o8 o9:Option V} {H':Hp} {it:It},FS b H H'->Stk H' b M (Js r m u)->ItA H' x it->Gd r m it->nx [some (.ref wl),some (.ref b),some (.ref X),some (.int c),some (.int (u:Int)),some (.int o),some (.int g),some x,o8,o9] H':=fun F S i g=>hD _ _ (iaa _ _ _ ⟨rfl,F,S,_,i,g⟩);show if decide (o<3)=true then _ else _;by_cases z:o<3;·rw[gT z];exact iK ⟨_,rfl,fun U a C n n0 n1 N=>go (FS.same N.sm) (k.same N.sm) N.it (nuI.gd n0 n1)⟩
  rw[hV z];refine ij ?_;show if decide (o<7)=true then _ else _;by_cases z:o<7
  ·rw[gT z];refine iK ⟨(show(0:Int)<3 by decide),?_⟩;dsimp only;rw[ej];refine⟨_,O.e,gf (fZ ev) ⟨_,_,_,1,rfl,fun U a C N=>?_⟩⟩;dsimp only[gU];refine⟨3,rfl,O3,O3,fun D R=>?_⟩;let I:It:=⟨w0,1,1,fun v=>if v=j then 1 else 0,false,1,"any",""⟩;refine sH 3 O2 (fun l H6=>l=(cV3 I.mn).take l.length) (fun _ _ _ h _=>h) R rfl (fun k _ _ h=>h) (fun _ _=>cJ _) rfl ?_ ?_
   ·rintro i H6 x H7 l Z S6 hk ⟨rfl,rfl⟩ hz lz kZ;refine⟨(show(0:Int)<3 by decide),.inr ⟨_,rfl,?_⟩⟩;subst lz;rw[ej];refine kZ _ _ (fun _ _ e=>e) ?_;rw[aR,bc,Ec hk,<-hz];have e:(decide ((0:Int)+(l.length:Int)=(j:Int)))=decide (l.length=j):=decide_eq_decide.mpr O2;show l++[V.int (if(false ^^ decide ((0:Int)+(l.length:Int)=(j:Int)))=true then 1 else 0)]=l++[V.int ((if l.length=j then 1 else 0:Nat):Int)];rw[e,fj];by_cases y:l.length=j;·rw[gT y,ig rfl,ig y];rfl
    ·rw[hV y,gZ fc,gZ y];rfl
   ·intro H6 l S6 hz lz ez;rw[lz]at hz;have hz:=hz;subst hz;have ea6:=S6 _ _ N.ea;have na:=N.na;refine io a _ 3 3 ⟨rfl,rfl,ea6,rfl,?_⟩;have nea:D≠a:=fun z=>by rw[z,N.ea]at R;cases R
    have T:gJ H (NR H6 a (.lst ((itV (xG w0 1 "any" "") C).set 3 (.ref D)))):=ip (N.sm.trans S6) na _;exact go (it:=I) (FS.same T) (k.same T) (ii a D ⟨rfl,f7,by rw[gy nea];exact ez⟩) ⟨_,xI nw qv (fun v=>by show(if v=j then 1 else 0)<=1;split<;>lia),xJ (.inl ⟨j,O2,ew,by show(if j=j then 1 else 0)≠0;rw[ig rfl];decide⟩)⟩
  rw[hV z];refine ij ?_;have nm3:∃W,r[3+m]?=some W/\(r.map V.str)[3+m]?=some (.str W)/\isName W=true/\W.length<=12:=O.at O2;refine eau nm3 fun W ew3 ev3 nw3 lw3=>?_;refine if2 ?_ fun z kB=>?_
  ·show if(false ^^ decide (o=8))=true then _ else _;by_cases z:o=8;·rw[gT z];refine iK (ii X _ ⟨rfl,.inl (NT em),?_⟩);dsimp only[cI0];rw[lm,show(3:Int)+(m:Int)=((3+m:Nat):Int) by lia];refine⟨_,O.e,gf (fZ ev3) ⟨_,_,_,1,rfl,fun U a C N=>?_⟩⟩;dsimp only[gU];refine io a _ 4 4 ⟨rfl,rfl,N.ea,rfl,?_⟩;have T:gJ H (NR U a (.lst ((itV (xG W 1 "fn" "") C).set 4 (.bl true)))):=ip N.sm N.na _;exact go (FS.same T) (k.same T) (ii a C ⟨rfl,f7,by rw[gy N.ne.symm];exact N.ec⟩) ⟨_,xI nw3 Je (fun v=>cK _),xJ (.inr (.inr ⟨rfl,ew3⟩))⟩
   rw[hV z];refine ij ?_;have p:Js r m u (nuI 0):=Js.nu O3 gL;refine if3 ?_ ?_;·refine⟨b,M,_,rfl,k,p,fun U x I F1 k1 Y j=>?_⟩;have w1:=O.fs k F1;have:=j.w;exact⟨wl,r,m,x,I,o,g,rfl,w1,hm,Y,j.g,j.pl,O2,fun A z' jt G iz gz=>go (F1.trans (FS.same G)) (k1.same G) iz gz⟩
   ·refine⟨b,M,_,rfl,k,p,fun U x I F1 k1 Y j=>?_⟩;dsimp only[gU];refine⟨b,M,_,rfl,k1,p,fun A y J F2 k2 iy j2=>?_⟩;have w2:=(O.fs k F1).fs k1 F2;have ix2:=Y.fs k1 F2;have:=j.w;have:=j2.w;exact⟨wl,r,m,x,y,I,J,o,g,rfl,w2,ix2,iy,j.g,j2.g,j.pl,j2.pl,O2,O2,fun H3 z' jt G iz gz=>go ((F1.trans F2).trans (FS.same G)) (k2.same G) iz gz⟩
  ·refine ii X _ ⟨rfl,.inl (NT em),?_⟩;show if decide ((mx.length:Int)>0)=true then _ else _;by_cases y:mx.length=0;·rw[hV O2];exact ij kB
   rw[gT O2];refine iK (ii X _ ⟨rfl,.inl (NT em),(by show(0:Int)<(mx.length:Int);lia),?_⟩);refine eaa (emN g (show(0:Int)<(mx.length:Int) by lia)) fun i ei hi=>?_;dsimp only;rw[ei];obtain⟨v,hv⟩:∃v,mx[i]?=some v:=⟨_,bE O2⟩;refine eax (am v (aQ hv)) fun a d wt w7 sh mo=>faj fun p B hd e7 hmo=>?_;subst p;refine⟨_,em,gf (fZ hv) ?_⟩;dsimp only[gU];refine⟨_,B,gf (fZ rfl) ⟨_,B,gf (fZ rfl) ⟨_,B,gf (fZ rfl) ⟨_,B,gf (fZ rfl) ?_⟩⟩⟩⟩;refine⟨w7,sh,mo,1+wt,by rw[fH];rfl,fun U a C N=>?_⟩;exact go (FS.same N.sm) (k.same N.sm) N.it ⟨_,xI (O.n _ (aQ e7)) hmo (fun v=>cK _),xJ (.inr (.inl ⟨d,hd,e7⟩))⟩
 refine fun _ U=>fab fun x o8 o9=>fam fun p F S=>faa fun it=>f8 fun Y gd=>?_;subst p;refine eap (id Y) fun a C p B ec=>?_;subst p;refine pU (fun L A=>∃y kt,L=[some (.ref wl),some (.ref b),some (.ref X),some (.int c),some (.int (u:Int)),some (.int o),some (.int g),some y,o8,o9]/\FS b H A/\Stk A b M (Js r m u)/\ItA A y kt/\Js r m u kt) ?_ ?_;rotate_left;·intro D' hD;refine⟨_,B,gf (fZ rfl) ?_⟩;refine Li ⟨g,rfl,fun A a C n n0 n1 N=>hD _ _ (ii _ _ ⟨rfl,F.trans (FS.same N.sm),S.same N.sm,N.it,Js.nu n0 n1⟩)⟩ fun c1 kA=>?_;refine⟨_,B,gf (fZ rfl) ?_⟩;show if decide ((it.wt:Int)>24)=true then _ else _;refine Li kA fun c2 kA=>?_;refine⟨_,B,gf (fZ rfl) ?_⟩;show if decide ((it.pl:Int)+(u:Int)>140)=true then _ else _;refine Li kA fun c3 _=>?_;have c1:=of_decide_eq_false c1;have c2:=of_decide_eq_false c2;have c3:=of_decide_eq_false c3;exact hD _ _ ⟨_,it,rfl,F,S,Y,gd,O2,O2,.inl O2⟩
 refine fun _ A=>fai fun y kt p F2 y0 iy jy=>?_;subst p;refine eak y0 fun ys es ly ay=>?_;refine⟨⟨_,es⟩,_,es,O2,?_⟩;have F3:FS b A (NR A b (.lst (ys++[y]))):=fun a o e n=>by rw[gy n];exact e
 have G:Stk A b M (Js r m u):=⟨ys,es,ly,ay⟩;refine q _ _ (F2.trans F3) ⟨_,f7,by rw[aR];exact dj ly,fun x hx=>?_⟩;rcases aq.mp hx with hx|hx;·refine eaa (ay x hx) fun I i j=>?_;exact⟨I,i.fs G F3,j⟩
 ·rw[bo.mp hx];exact⟨kt,iy.fs G F3,jy⟩
open GR.Internal (isName)
open TM.Internal (Kn Tr)
structure De (ws:Zd) (m:Nat) (it jt:It) (t:Tr):Prop where
 g:JN ws m jt t
 z:∀v,v<3->jt.mn v=0
 o:jt.own=true->isFn t=true
 n:jt.ne<=it.ne+ 7
 p:jt.pl<=it.pl+ 10
inductive XEd (vs:List V) (H:Hp) (Q:VK):Prop
 |mk (wl:Zx) (ws:Zd) (m:Nat) (x:V) (it:It) (g:Int) (e:vs=[.ref wl,x,.int g]) (hw:Wd H wl ws) (ix:ItA H x it) (j:Gd ws m it) (lp:it.pl<=200) (q:∀H' z jt t,gJ H H'->ItA H' z jt->De ws m it jt t->Q z H')
def Lk:Sp:=fun a H Q _=>XEd a H Q
def v9 (T:Txt K mg):FO P w base 4 T.d49 Lk:=by
 refine T.d49.F.rd iZ fun cdv A0 outer s H vs Q E D h=>?_;obtain⟨wl,ws,m,x,it,g,rfl,hw,ix,⟨t,j⟩,lp,q⟩:=h;refine HzX ?_;intro _;refine⟨_,(fW (jX Mh rfl (ko rfl T.z_range (fV fX fY)) (pN (i:=3) iZ.nd)
   (f9 (gM (gq qJ (gk gi (gk gi (cv 1) fX) (cv 3)) fX)
    (fW (pS (i:=4) iZ.nd (gP iE (gP kr (cv 2) (gk gi (gG (fV fX (fV fX (fV fX fY)))) (cv 3))) fX))
    (fW (pS (i:=5) iZ.nd (gG (fV (gk gi (cv 1) fX) (fV (gk gi (cv 1) fX) fY))))
    (fW (pS (i:=1) iZ.nd (pF T.d39 (km T) D.m (fV (gG (fV gh (fV (gk gi (cv 0) (cv 3)) (fV hG fY)))) (fV (gG (fV (pF T.d40 (mC T) D.m (fV (cv 1) (fV (cv 3) fY))) fY)) (fV gh (fV gh fY))))))
    (f9 (gM (gq qJ (cv 4) fX)
     (fW (pS (i:=6) iZ.nd (gG (fV (pF T.d43 (jZ T) D.m (fV (cv 2) fY)) (fV (pF T.d38 (kl T) D.m (fV gh (fV fX (fV gh (fV gh fY))))) (fV (pF T.d38 (kl T) D.m (fV gh (fV fX (fV gh (fV gh fY))))) fY)))))
     (f9 (pS (i:=1) iZ.nd (pF T.d39 (km T) D.m (fV (gG (fV gh (fV hG (fV hG fY)))) (fV (gG (fV (cv 1) (fV (gk gi (cv 6) (gP zr (cv 4) fX)) fY))) (fV (gk gi (cv 5) fX) (fV (gk gi (cv 5) fX) fY))))))))
     gA)))))
    gA)))
  (fW (gM (jC (gk gi (cv 1) fX))
   (f9 (pS (i:=1) iZ.nd (pF T.d39 (km T) D.m (fV (gG (fV gh (fV (gk gi (cv 0) (gP iE (cv 2) fX)) (fV hG fY)))) (fV (gG (fV (cv 1) fY)) (fV gh (fV gh fY)))))))
   gA)
  (f9 (gC (cv 1))))),?_⟩;refine Hz2 ?_;intros;have sl:=L9;refine⟨3,rfl,O3,O3,nL (fun i σ H2=>∃(y:V) (o3 o4 o5 o6:Option V) (c:It) (t:Tr),σ=[some (.ref wl),some y,some (.int g),o3,o4,o5,o6]/\gJ H H2/\ItA H2 y c/\JN ws m c t/\(∀v,v<i->v<3->c.mn v=0)/\c.ne<=it.ne+ 2*i/\c.pl<=it.pl+ 3*i)
  (iad x none none none none it t ⟨rfl,fun _ _ e=>e,ix,j,(fun v h=>absurd h (dh v)),cJ _,cJ _⟩) ?_ ?_⟩
 ·refine fun i σ H2 hi=>fay fun y o3 o4 o5 o6 c t=>fap fun u S C p O ln lp2=>?_;subst u;have R:=hi;refine eap (id C) fun a cs u ea ec=>?_;subst u;have tx:=(Gd.tx ⟨t,p⟩ O2:c.tx.length<=200000);refine⟨_,ea,gf (fZ rfl) ⟨_,ec,gf (Hl R) ?_⟩⟩;show if decide ((c.mn i:Int)>0)=true then _ else _;by_cases z:c.mn i=0
  ·rw[hV O2];refine ij (iad _ _ _ _ _ c t ⟨rfl,S,C,p,fun v h U=>?_,O2,O2⟩);by_cases y:v=i;·rw[y];exact z
   ·exact O v O2 U
  rw[gT O2];have o:=hw.same S;refine eau (o.at (show i<16 by lia)) fun l ew ev nw lw=>?_;obtain⟨n3,e3,hn3⟩:∃n,([V.int 1,V.int 4,V.int 16]:List V)[i]?=some (.int n)/\(0<n/\n<1000):=by
   match i,R with
   |0,_=>exact⟨_,rfl,O3⟩
   |1,_=>exact⟨_,rfl,O3⟩
   |2,_=>exact⟨_,rfl,O3⟩
  refine iK ⟨lC,fun l1 h1=>?_⟩;have T1:=gb h1 (.lst [.int 1,.int 4,.int 16]);refine⟨_,f7,gf (by rw[fG];exact fZ e3) ?_⟩;refine⟨⟨hn3.1,O2⟩,(by show(0:Int)<4;decide),?_⟩;dsimp only[gU];refine eaa (emN (g/n3) (show(0:Int)<4 by decide)) fun B e4 hk4=>?_;rw[e4];generalize NR H2 l1 _=H3 at T1⊢;have S3:=S.trans T1;have W:=T1 _ _ ea;have iy3:=C.same T1;refine⟨_,W,gf (fZ rfl) ⟨_,W,gf (fZ rfl) ⟨lJ,fun l5 h5=>?_⟩⟩⟩;have T5:=gb h5 (.lst [.str c.sh,.str c.mo]);have e5:(NR H3 l5 (.lst [.str c.sh,.str c.mo])) l5=some (.lst [.str c.sh,.str c.mo]):=f7;dsimp only[gU];generalize NR H3 l5 _=H5 at T5 e5⊢;have S5:=S3.trans T5;have hw5:=hw.same S5;refine⟨_,hw5.e,gf (by rw[fG];exact fZ ev) ⟨lC,fun l6 h6=>?_⟩⟩;have T6:=gb h6 (.lst [.str "fn",.str l,.non]);have e6:(NR H5 l6 (.lst [.str "fn",.str l,.non])) l6=some (.lst [.str "fn",.str l,.non]):=f7;dsimp only;generalize NR H5 l6 _=H6 at T6 e6⊢;refine⟨_,i,c,by rw[fG];rfl,(iy3.same T5).same T6,fun H7 ah ch N7=>⟨se,fun l8 h8=>?_⟩⟩;have T8:=gb h8 (.lst [.ref ah]);refine⟨l6,l8,[some "fn",some l,none],_,[mj c i],"fn","",rfl,T8 _ _ (N7.sm _ _ e6),f7,.cons (N7.it.same T8) .nil,(lb rfl),rfl,(lb rfl),kO s4 (kO (lc6 lw) (jU nE)),t1 tx,fun H9 b cb N9=>?_⟩;dsimp only[gU];have T9:=T6.trans (N7.sm.trans (T8.trans N9.sm));have S9:=S5.trans T9;have F:=GP (p.bind ew) nw;have fz:∀v,v<i+ 1->v<3->(lO [some "fn",some l,none] [mj c i] "fn" "").mn v=0:=fun v h U=>by
   show(if v=i then 0 else c.mn v)+ 0=0;split;·rfl
   ·exact O v O2 U
  have fne:(lO [some "fn",some l,none] [mj c i] "fn" "").ne=max c.ne 0+ 1:=rfl;have fpl:(lO [some "fn",some l,none] [mj c i] "fn" "").pl=1+(c.pl+ 0):=rfl;have ib:=N9.it;have ftx:=Gd.tx ⟨_,F⟩ O2;generalize lO [some "fn",some l,none] [mj c i] "fn" ""=I at*;show if decide ((B:Int)>0)=true then _ else _;by_cases y:B=0;·rw[hV O2];exact ij (iad _ _ _ _ _ I _ ⟨rfl,S9,ib,F,fz,O2,O2⟩)
  rw[gT O2];refine iK ⟨g,rfl,fun Ha N c1 n n0 n1 Na=>⟨_,_,_,1,rfl,fun Hb M c2 Nb=>⟨_,_,_,1,rfl,fun Hc L c3 Nc=>⟨lC,fun l9 h9=>?_⟩⟩⟩⟩;have Y:=gb h9 (.lst [.ref N,.ref M,.ref L]);have ed:(NR Hc l9 (.lst [.ref N,.ref M,.ref L])) l9=some (.lst [.ref N,.ref M,.ref L]):=f7;have Tn:=Na.sm.trans (Nb.sm.trans (Nc.sm.trans Y));have i1:=((Na.it.same Nb.sm).same Nc.sm).same Y;have i2:=(Nb.it.same Nc.sm).same Y;have i3:=Nc.it.same Y;dsimp only[gU];generalize NR Hc l9 _=Hd at Y ed Tn i1 i2 i3⊢;obtain⟨v,f,J,r,hv,iv,vtx,vn,vp,vm,vj,vq⟩:∃(v:V) (f J:It) (r:Tr),([.ref N,.ref M,.ref L]:List V)[B-1]?=some v/\ItA Hd v f/\f.tx.length<=200000/\f.ne=1/\f.pl=1/\(∀k,f.mn k=0)/\JN ws m J r/\∀A sh mo,lO [some "call",none,none] [A,f] sh mo=lO [some "call",none,none] [A,J] sh mo:=by
   match B,y,hk4 with
   |1,_,_=>exact io _ _ _ _ ⟨rfl,i1,Dc n0 n1,rfl,rfl,fun _=>rfl,uS n0 n1,fun _ _ _=>rfl⟩
   |2,_,_=>exact io _ _ _ _ ⟨rfl,i2,s4,rfl,rfl,fun _=>rfl,zY.2,fun _ _ _=>rfl⟩
   |3,_,_=>exact io _ _ _ _ ⟨rfl,i3,s4,rfl,rfl,fun _=>rfl,zY.1 _ nw,fun _ _ _=>rfl⟩
  have ib2:=ib.same Tn;refine⟨lC,fun la ha=>?_⟩;have G:=gb ha (.lst [.str "call",.non,.non]);have e0:(NR Hd la (.lst [.str "call",.non,.non])) la=some (.lst [.str "call",.non,.non]):=f7;generalize NR Hd la _=He at G e0⊢;have hx:atI [.ref N,.ref M,.ref L] ((B:Int)-1)=some v:=by rw[show(B:Int)-1=((B-1:Nat):Int) by lia];exact fZ hv
  refine⟨_,G _ _ ed,gf hx ⟨lJ,fun lc hc=>?_⟩⟩;have Z:=gb hc (.lst [.ref b,v]);have X:=Z _ _ (G _ _ (Tn _ _ (T9 _ _ e5)));refine⟨_,X,gf (fZ rfl) ⟨_,X,gf (fZ rfl) ?_⟩⟩;refine⟨la,lc,[some "call",none,none],_,[I,f],_,_,rfl,Z _ _ e0,f7,.cons ((ib2.same G).same Z) (.cons ((iv.same G).same Z) .nil),(lb rfl),rfl,(lb rfl),kO s4 (jU (jU nE)),t2 ftx vtx,fun Hf bz cz Nz=>?_⟩;refine iad _ _ _ _ _ _ _ ⟨rfl,S9.trans (Tn.trans (G.trans (Z.trans Nz.sm))),Nz.it,by rw[vq];exact rN gL gL F vj p.j.mo,fun k h U=>?_,?_,?_⟩;·show I.mn k+(f.mn k+ 0)=0;rw[fz k h U,vm]
  ·show max I.ne (max f.ne 0)+ 1<=_;lia
  ·show 1+(I.pl+(f.pl+ 0))<=_;lia
 ·refine fun σ H2=>fay fun y o3 o4 o5 o6 c t=>fap fun u S C p O ln lp2=>?_;subst u;refine eap (id C) fun a cs u ea ec=>?_;subst u;have tx:=(Gd.tx ⟨t,p⟩ O2:c.tx.length<=200000);refine⟨_,ea,gf (fZ rfl) ?_⟩;have o:=hw.same S;refine⟨_,rfl,?_⟩;cases ho:c.own with
  |false=>exact ij (q _ _ c t S C ⟨p,fun v h=>O v h h,fun e=>by(rw[ho]at e;cases e),O2,O2⟩)
  |true=>refine eaa (emN g (show(0:Int)<3 by decide)) fun k ek hk=>?_;refine eau (o.at (show k<16 by lia)) fun l ew ev nw lw=>?_;refine iK ⟨(show(0:Int)<3 by decide),?_⟩;dsimp only;rw[ek];refine⟨_,o.e,gf (fZ ev) ⟨lC,fun l1 h1=>⟨se,fun l2 h2=>?_⟩⟩⟩;refine jr [some "fn",some l,none] h1 h2 (.cons C .nil) rfl (lb rfl) (kO s4 (kO (lc6 lw) (jU nE))) (t1 tx) fun H' z S' i=>?_;exact q H' z _ _ (S.trans S') i ⟨GP (p.kid _) nw,fun v h=>by show c.mn v+ 0=0;rw[O v h h],fun _=>rfl,(by show max c.ne 0+ 1<=_;lia),by show 1+(c.pl+ 0)<=_;lia⟩
open GR.Internal (isName Gp Op)
open TM.Internal (Kn Tr i6 szs oks tks kn)
def lnS (w x:Str):Str:="(def "++w++" "++x++")"
structure Gu (x:Str) (ts:Zd) (n:Nat):Prop where
 g:Gp x ts
 l:x.length<=130*n
 k:ts.length<=16*n
 o:∀w∈ts,okW w
def Ll(b:isName w=true) (g:Gt x ts n) (e:0<n):Gu (lnS w x) ((["(","def",w]:Zd)++ts++[(")":Str)]) n/\(lnS w x).length+ 1<=130*n:=by
 have a:=yS b;have d:Gp "(def " ["(","def"]:=gL;have:=a.ln;have:=g.l;have:=g.k;have c:(lnS w x).length+ 1<=130*n:=by unfold lnS;simp only[Mo];rw[show("(def ":Str).length=5 by decide+kernel,show(" ":Str).length=1 by decide+kernel,show(")":Str).length=1 by decide+kernel];lia
 refine⟨⟨((d.app_op a.op).gap.app_op g.op).close,O2,?_,?_⟩,c⟩;·simp only[aR,aB,aV];lia
 ·refine CS (CS (fun v hv=>?_) g.o) fun v hv=>by rw[bo.mp hv];exact AO.2.1
  rcases ao.mp hv with rfl|hv;·exact AO.1
  ·rcases ao.mp hv with rfl|hv;·exact AO.2.2
   ·exact a.ok v hv
def Jt (t:Tr):0<t.sz:=by cases t;rw[NU];lia
structure Df where
 n:Str
 x:Str
 t:Tr
def Df.ln (d:Df):Str:=lnS d.n d.x
theorem G3:∀{a:List Df},(∀d∈a,isName d.n=true/\Gt d.x d.t.tk d.t.sz)->Gu (My "\n" (a.map Df.ln)) (wj (a.map Df.n) (a.map Df.t)) (szs (a.map Df.t))/\∀l∈a.map Df.ln,l.length<=130*szs (a.map Df.t)
 |[],_=>⟨⟨(by decide+kernel:GR.Internal.Gp "" []),cK _,cK _,fun w o=>nomatch o⟩,fun l hl=>nomatch hl⟩
 |d::a,h=>by
  obtain⟨p,g⟩:=h d aj;obtain⟨i,r⟩:=Ll p g (Jt d.t);obtain⟨c,k⟩:=G3 fun x m=>h x (ak _ m);have e:wj ((d::a).map Df.n) ((d::a).map Df.t)=((["(","def",d.n]:Zd)++d.t.tk++[(")":Str)])++wj (a.map Df.n) (a.map Df.t):=by rw[aD,aD,wj,dtk];simp only[aU,bV,bU]
  refine⟨?_,fun l hl=>?_⟩
  ·rw[e,aD (f:=Df.t),szs];match a,c with
   |[],c=>
    refine⟨?_,cF i.l O2,?_,CS i.o c.o⟩;·show Gp (lnS d.n d.x) (_++[]);rw[aF];exact i.g
    ·show(_++[]).length<=_;rw[aF];exact cF i.k O2
   |d2::a,c=>have j:Gp "\n" []:=gL;have q:=(i.g.app j).app c.g;rw[aF]at q;refine⟨q,?_,by rw[aR];have:=i.k;have:=c.k;lia,CS i.o c.o⟩;show(lnS d.n d.x++"\n"++My "\n" ((d2::a).map Df.ln)).length<=_;rw[Mo,Mo,show("\n":Str).length=1 by decide+kernel];have:=c.l;lia
  ·rw[aD,szs];rw[aD]at hl;rcases ao.mp hl with rfl|hl;·show(lnS d.n d.x).length<=_;lia
   ·have:=k l hl;lia
theorem oQ:∀a b,szs (a++b)=szs a+szs b
 |[],b=>by rw[szs,bV,cY]
 |t::a,b=>by rw[aU,szs,szs,oQ a b,cZ]
def Na (ws:Zd) (i:Nat) (t:Tr) (w:Str):Prop:=(∃d,d<i/\ws[3+d]?=some w)\/(isFn t=true/\ws[3+i]?=some w)
structure Pgm (ws:Zd) (ds:List Df) (dn:Nat):Prop where
 d:∀(i:Nat) (d:Df),ds[i]?=some d->ws[3+i]?=some d.n/\Gt d.x d.t.tk d.t.sz/\d.t.ok/\d.t.nest<=24/\okN d.t (Na ws i d.t)
 z:szs (ds.map Df.t)=dn
 l:dn<=150
def Pgm.add {ws:Zd} {a:List Df} {it c:It} {t:Tr} {w:Str} (p:Pgm ws a dn) (g:ws[3+a.length]?=some w) (j:Js ws a.length dn it) (e:De ws a.length it c t) (h:dn<=100):Pgm ws (a++[⟨w,c.tx,t⟩]) (dn+c.pl):=by
 have r:=e.g.j.ne;have u:=e.n;have m:=j.n;have q:=e.p;have s:=j.p;refine⟨fun i d b=>?_,?_,O2⟩
 ·by_cases z:i<a.length;·rw[aO z]at b;exact p.d i d b
  ·rw[aN O2]at b;have l:i-a.length=0:=by have:=(av.mp b).1;rw[bc]at this;lia
   rw[l]at b;cases b;obtain rfl:i=a.length:=O2
   refine⟨g,e.g.j.gt,e.g.j.ok,(by lia),lR _ (fun v z=>?_) e.g.n⟩;rcases z with⟨k,f,_,n⟩|z|⟨o,z⟩;·exact absurd (e.z k f) n
   ·exact .inl z
   ·exact .inr ⟨e.o o,z⟩
 ·rw[bq,oQ,p.z];show dn+(t.sz+ 0)=_;rw[e.g.j.pl,df]
structure Pt (x:Str) (ns:Zd) (ts:List Tr):Prop where
 tk:Op x (wj ns ts)
 xl:x.length<=30000
 o:∀w∈wj ns ts,okW w
 k:(wj ns ts).length<=30000
 l:ns.length=ts.length
 n:∀n∈ns,isName n=true
 nd:ns.Nodup
 h1:1<=ns.length
 h12:ns.length<=12
 ok:okD ns ts 0
 ne:∀t∈ts,t.nest<=24
 z:szs ts<=160
theorem z6 {a:List Tr} (h:∀i t,a[i]?=some t->t.ok/\okN t (dom (gD ns i t))):∀n i,n+i=a.length->okD ns (a.drop i) i
 |0,i,e=>by rw[bR O2];trivial
 |n+ 1,i,e=>by have b:a[i]?=some (a[i]' O2):=bE _;rw[bS O2];exact⟨h i _ b,z6 h n (i+ 1) O2⟩
def Pgm.pt {ws:Zd} {o:List Df} (p:Pgm ws o dn) (A:∀w∈ws,isName w=true) (nd:ws.Nodup) (F:o≠[]) (G:o.length<=8):Pt (My "\n" (o.map Df.ln)) (o.map Df.n) (o.map Df.t):=by
 have q:∀d∈o,isName d.n=true/\Gt d.x d.t.tk d.t.sz/\d.t.nest<=24:=fun d m=>by obtain⟨i,s⟩:=cu m;refine eae (p.d i d s) fun a b c e f=>?_;exact⟨A _ (aQ a),b,e⟩
 obtain⟨g,_⟩:=G3 fun d m=>⟨(q d m).1,(q d m).2.1⟩;have z:=p.z;have l:=p.l;have I:=g.l;have H:=g.k;have r:∀{i:Nat} {w:Str},ws[3+i]?=some w->i<o.length->(o.map Df.n)[i]?=some w:=fun{i w} e h=>by have m:o[i]?=some (o[i]'h):=bE _;rw[aP,m];have:=(p.d i _ m).1;rw[e]at this;rw[du.inj this];rfl
 refine⟨g.g.op,O2,g.o,O2,by rw[aE,aE],fun n B=>?_,?_,?_,by rw[aE];lia,?_,fun t y=>?_,O2⟩;·refine eaa (bh.mp B) fun d m u=>?_;subst u;exact(q d m).1
 ·refine List.pairwise_iff_getElem.mpr fun i j s v D=>?_;rw[List.getElem_map,List.getElem_map];rw[aE]at s v;exact Dd nd (p.d i _ (bE s)).1 (p.d j _ (bE v)).1 O2
 ·rw[aE];exact List.length_pos_iff.mpr F
 ·refine z6 (fun i t s=>?_) (o.map Df.t).length 0 rfl;rw[aP]at s;refine eaa (dA.mp s) fun d m u=>?_;subst u;refine eae (p.d i d m) fun a b c e f=>?_;have x:=(av.mp m).1;refine⟨c,lR _ (fun w z=>?_) f⟩;unfold gD;rcases z with⟨k,C,z⟩|⟨E,z⟩
  ·split;·exact zT (r z O2) O2
   ·exact zT (r z O2) C
  ·rw[ig E];exact zT (r z x) (cO _)
 ·refine eaa (bh.mp y) fun d m u=>?_;subst u;exact(q d m).2.2
open GR.Internal (isName Gp Op)
open TM.Internal (Kn Tr i6 szs oks tks kn)
def ItA.upd {p:Zx} {l:List V} {x:V} {I:It} (h:ItA H x I) (e:H p=some (.lst l)) (d:∀n:Int,V.int n∉l):ItA (NR H p o) x I:=by
 refine eap h fun a f g c b=>?_;subst g;have j:a≠p:=fun z=>by rw[z,e]at c;cases du.inj c;exact d (I.ne:Int) (by simp[itV])
 have i:f≠p:=fun z=>by rw[z,e]at b;cases du.inj b;exact d (I.mn 0:Int) (by simp[cV3])
 exact ii a f ⟨rfl,by rw[gy j];exact c,by rw[gy i];exact b⟩
def Md.upd {p:Zx} {l:List V} {ws:Zd} {m:Nat} (h:Md H ml ws m) (e:H p=some (.lst l)) (k:∀n,V.int n∉l) (j:ml≠p):Md (NR H p o) ml ws m:=by
 refine eak h fun g v t y=>?_;refine⟨g,by rw[gy j];exact v,t,fun x u=>?_⟩;refine eax (y x u) fun a d c w i s=>fae fun f b r=>?_;subst f;have q:a≠p:=fun z=>by rw[z,e]at b;cases du.inj b;exact k (c:Int) O4
 exact iae a d c w i s ⟨rfl,by rw[gy q];exact b,r⟩
def E8 {l:Zd}:∀n,V.int n∉l.map V.str:=fun n h=>by refine eaa (bh.mp h) fun _ _ e=>?_;cases e
def Md.noi {ws:Zd} {m:Nat} (h:Md H ml ws m) (e:H ml=some (.lst xs)):∀n,V.int n∉xs:=fun n b=>by refine eak h fun d a _ c=>?_;rw[e]at a;cases du.inj a;refine eax (c _ b) fun _ _ _ _ _ _=>f8 fun e _=>?_;cases e
def Stk.le {a:Nat} {J:It->Prop} (h:Stk H st sn J) (l:sn<=a):Stk H st a J:=by refine eak h fun b c k d=>?_;exact⟨b,c,cF k l,d⟩
def wb (ns:List Int) (a c:Option Int):∃b:List Int,nO (ns.map V.int) a c=b.map V.int/\b.length<=ns.length:=by
 refine⟨(ns.drop (N8 (ns.map V.int).length 0 a)).take (N8 (ns.map V.int).length (ns.map V.int).length c-N8 (ns.map V.int).length 0 a),?_,?_⟩;·unfold nO;rw[<-List.map_drop,<-List.map_take]
 ·rw[aM,aZ];lia
def Md.same {ws:Zd} {m:Nat} (h:Md H ml ws m) (S:gJ H H'):Md H' ml ws m:=by refine eak h fun c e l n=>?_;refine⟨c,S _ _ e,l,fun x j=>?_⟩;refine eax (n x j) fun a d f w g i=>fae fun b k r=>?_;subst b;exact iae a d f w g i ⟨rfl,S _ _ k,r⟩
def Md.add {i:Zx} {ws:Zd} {m b:Nat} {w:Str} (h:Md H ml ws m) (e:H ml=some (.lst xs)) (t:H i=some (.lst [.str w,.int (b:Int),.str c,.str mo])) (s:ws[3+m]?=some w) (q:c="rec"\/c="tag"->isName mo=true):Md (NR H ml (.lst (xs++[.ref i]))) ml ws (m+ 1):=by
 have o:=h.noi e;refine eak h fun v k l u=>?_;rw[e]at k;cases du.inj k;have j:∀{a:Zx} {w c mo:Str} {b:Nat},H a=some (.lst [.str w,.int (b:Int),.str c,.str mo])->(NR H ml (.lst (xs++[.ref i]))) a=some (.lst [.str w,.int (b:Int),.str c,.str mo]):=fun{a w c mo b} g=>by
  have p:a≠ml:=fun z=>by rw[z,e]at g;cases du.inj g;exact o (b:Int) O4
  rw[gy p];exact g
 refine⟨_,f7,by rw[aR,l];rfl,fun x hx=>?_⟩;rcases aq.mp hx with hx|hx;·refine eax (u x hx) fun a d b w c mo=>fam fun n g y r=>?_;subst n;exact iae a d b w c mo ⟨rfl,j g,O2,r⟩
 ·rw[bo.mp hx];exact iae i m b w c mo ⟨rfl,j t,cO _,s,q⟩
def Ju{w:Str} (h:w.length<=12) (k:x.length<=200000):("(def ":Str).length+w.length<=sizeLine/\("(def "++w).length+(" ":Str).length<=sizeLine/\("(def "++w++" ").length+x.length<=sizeLine/\("(def "++w++" "++x).length+(")":Str).length<=sizeLine:=by have a:=L9;rw[Mo,Mo,Mo,show("(def ":Str).length=5 by decide+kernel,show(" ":Str).length=1 by decide+kernel,show(")":Str).length=1 by decide+kernel,Mo,Mo,Mo,show("(def ":Str).length=5 by decide+kernel,show(" ":Str).length=1 by decide+kernel];lia
def or2{A p:Prop} (k:p->A) (b:a=true->p) (h:a=false->(p->A)->X):if a=true then A else X:=by
 cases a with
 |true=>exact k (b rfl)
 |false=>exact h rfl k
inductive PgS (H:Hp) (sc lq wl:Zx) (cs:List Int) (ws:Zd) (i:Nat) (σ:St) (H2:Hp):Prop
 |mk (st ml tl:Zx) (ds:List Df) (dn:Nat) (o6 o7 o8:Option V) (e:σ=[some (.ref sc),some (.ref wl),some (.ref st),some (.ref ml),some (.ref tl),some (.int (dn:Int)),o6,o7,o8]) (S:gJ H H2) (hs:H st=none) (hm:H ml=none) (ht:H tl=none) (n1:ml≠st) (n2:tl≠st) (n3:ml≠tl) (w2:wl≠ml) (w3:wl≠tl) (el:H2 lq=some (.lst (cs.map V.int))) (n4:lq≠st) (n5:lq≠ml) (n6:lq≠tl) (hw:Wd H2 wl ws) (k:Stk H2 st i (Js ws ds.length dn)) (md:Md H2 ml ws ds.length) (et:H2 tl=some (.lst ((ds.map Df.ln).map V.str))) (p:Pgm ws ds dn) (l7:ds.length<=7)
def PgS.el {sc a:Zx} {b:List Int} {ws:Zd} (h:PgS H sc a wl b ws i σ H2):H2 a=some (.lst (b.map V.int)):=by cases h;assumption
inductive XPr (K:Zp) (vs:List V) (H:Hp) (Q:VK):Prop
 |mk (sc:Zx) (ns:List Int) (e:vs=[.ref sc]) (hq:SqL K H sc (ns.map V.int)) (h63:ns.length<=63) (q:∀H' x nms ts,gJ H H'->Pt x nms ts->Q (.str x) H')
def Lm (K:Zp):Sp:=fun a H Q _=>XPr K a H Q
def tV (T:Txt K mg):FO P w base 7 T.d50 (Lm K):=by
 refine T.d50.F.rd hX fun cdv A0 outer s H vs Q E hr h=>?_;obtain⟨sc,ns,rfl,hq,h63,q⟩:=h;refine HzX ?_;intro _;refine⟨_,(fW (pS (i:=1) hX.nd (pF T.d37 (v3 T) hr.m (fV (gN (wR rfl) rfl T.z_sum Et (fV (iY kR (cv 0) jE (jF fX)) fY)) fY)))
  (fW (pS (i:=2) hX.nd (gG fY))
  (fW (pS (i:=3) hX.nd (gG fY))
  (fW (pS (i:=4) hX.nd (gG fY))
  (fW (pS (i:=5) hX.nd fX)
  (fW (jX Mh rfl (ke (iY kR (cv 0) (jF fX) jE)) (pN (i:=6) hX.nd)
   (fW (pS (i:=7) hX.nd (gP iE (cv 6) (gP zt fX fX)))
   (f9 (gM (gq iA (gP iE (cv 7) fX) fX)
    (f9 (gM (PW.pt (nK (gq qJ (gN gH rfl T.z_len iN (fV (cv 2) fY)) fX) (nK (gq uc (gN gH rfl T.z_len iN (fV (cv 3) fY)) fX) (mD (gq Ic (cv 5) fX)))))
     (fW (pS (i:=8) hX.nd (pF T.d49 (v9 T) hr.m (fV (cv 1) (fV (uE eS eW eX uF (cv 2)) (fV (gP kr (cv 7) fX) fY)))))
     (fW (gK (iW (jG eS eU eV gX (NS (cv 4)) (fV (NS (gP ku (gP ku (gP ku (gP ku gh (gk gi (cv 1) (gP ki fX (gN gH rfl T.z_len iN (fV (cv 3) fY))))) gh) (gk gi (cv 8) fX)) gh)) fY))))
     (fW (pS (i:=5) hX.nd (gP ki (cv 5) (gk gi (cv 8) fX)))
     (fW (gK (iW (jG eS eU eV gX (NS (cv 3)) (fV (NS (gG (fV (gk gi (cv 1) (gP ki fX (gN gH rfl T.z_len iN (fV (cv 3) fY)))) (fV (gk gi (cv 8) fX) (fV (gk gi (cv 8) fX) (fV (gk gi (cv 8) fX) fY)))))) fY))))
     (f9 (pS (i:=2) hX.nd (gG fY)))))))
     gA))
    (f9 (gK (pF T.d48 (xO T) hr.m (fV (cv 1) (fV (cv 2) (fV (cv 3) (fV (cv 7) (fV (cv 5) fY))))))))))))
  (fW (gM (PW.pt (rO (gq iA (gN gH rfl T.z_len iN (fV (cv 4) fY)) fX) (qc (PW.pt (nK (gq qJ (gN gH rfl T.z_len iN (fV (cv 2) fY)) fX) (mD (gq Ic (cv 5) fX)))))))
   (fW (pS (i:=8) hX.nd (pF T.d49 (v9 T) hr.m (fV (cv 1) (fV (pF T.d42 (tT T) hr.m (fV (cv 2) fY)) (fV (gN gH rfl T.z_len iN (fV (cv 0) fY)) fY)))))
   (f9 (gK (iW (jG eS eU eV gX (NS (cv 4)) (fV (NS (gP ku (gP ku (gP ku (gP ku gh (gk gi (cv 1) (gP ki fX (gN gH rfl T.z_len iN (fV (cv 3) fY))))) gh) (gk gi (cv 8) fX)) gh)) fY))))))
   gA)
  (f9 (gC (jG eR eY eZ BS gh (fV (cv 4) fY))))))))))),?_⟩;refine Hz7 ?_;intros;have sl:=L9;refine eaa (wb ns none (some 1)) fun m1 em1 lm1=>?_;refine eaa (wb ns (some 1) none) fun cs em2 lm2=>?_;refine⟨_,rfl,sc,_,rfl,hq,fun l1 h1=>(ii l1 m1 ⟨rfl,NT (by rw[f7,em1]),fun n0=>?_⟩)⟩;have S1:=gb h1 (.lst (nO (ns.map V.int) none (some 1)));dsimp only;generalize NR H l1 _=H1 at S1⊢;refine⟨n0,rfl,fun wl W H2 S2 hwl O=>?_⟩;dsimp only[gU];have S02:=S1.trans S2;refine⟨p7,fun B hs=>?_⟩;have T1:=gb hs (.lst []);have es:(NR H2 B (.lst [])) B=some (.lst []):=f7;dsimp only[gU];generalize NR H2 B _=H3 at T1 es⊢;refine⟨p7,fun m hm=>?_⟩;have T2:=gb hm (.lst []);have em:(NR H3 m (.lst [])) m=some (.lst []):=f7;have es4:=T2 _ _ es;dsimp only[gU];generalize NR H3 m _=H4 at T2 em es4⊢;refine⟨p7,fun u X=>?_⟩;have T3:=gb X (.lst []);have et:(NR H4 u (.lst [])) u=some (.lst []):=f7;have es5:=T3 _ _ es4;have em5:=T3 _ _ em;dsimp only[gU];generalize NR H4 u _=H5 at T3 et es5 em5⊢;have S5:=S02.trans (T1.trans (T2.trans T3));have hw5:=O.same (T1.trans (T2.trans T3));refine⟨_,rfl,sc,_,rfl,S5.seq hq,fun lq hlq=>?_⟩;rw[em2];have T4:=gb hlq (.lst (cs.map V.int));have el:(NR H5 lq (.lst (cs.map V.int))) lq=some (.lst (cs.map V.int)):=f7;have es6:=T4 _ _ es5;have em6:=T4 _ _ em5;have et6:=T4 _ _ et;generalize NR H5 lq _=H6 at T4 el es6 em6 et6⊢;have p0:Pgm W [] 0:=⟨fun i d h=>(by cases h),rfl,O3⟩;refine⟨lq,rfl,⟨_,NT el⟩,?_⟩;refine lQ (xs:=cs.map V.int) (fun i σ H2=>PgS H sc lq wl cs W i σ H2) ?_ (fun i σ H7 _ h=>?_) ?_ ?_;rotate_left;·exact NT h.el
 rotate_left;rotate_left
 ·refine⟨B,m,u,[],0,none,none,none,rfl,S5.trans T4,S02.free hs,(S02.trans T1).free hm,(S02.trans (T1.trans T2)).free X,?_,?_,?_,?_,?_,el,?_,?_,?_,hw5.same T4,⟨[],es6,cJ _,fun x hx=>nomatch hx⟩,⟨[],em6,rfl,fun x hx=>nomatch hx⟩,et6,p0,O3⟩;·exact(gv es hm).symm
  ·exact(gv es4 X).symm
  ·exact gv em X
  ·exact gv (T1 _ _ O.e) hm
  ·exact gv ((T1.trans T2) _ _ O.e) X
  ·exact(gv es5 hlq).symm
  ·exact(gv em5 hlq).symm
  ·exact(gv et hlq).symm
 ·rintro i v σ H7 hv ⟨B,m,u,g,G,o6,o7,o8,rfl,S,hs,hm,X,n1,n2,n3,w2,w3,el,n4,n5,n6,O,k,md,et,p,l7⟩;rw[aP]at hv;refine eaa (dA.mp hv) fun c0 hc0 z0=>?_;subst z0;have ic:=(av.mp hc0).1;refine⟨⟨O3,O3,gL⟩,(show(0:Int)<10^Int.toNat 64 by decide+kernel),?_⟩;dsimp only[gU];generalize c0%10^Int.toNat 64=c;refine⟨(show(0:Int)<32 by decide),?_⟩;show if(false ^^ decide (c%32=31))=true then _ else _;by_cases z:c%32=31
  ·rw[gT z];refine iK ?_;have Y:PgS H sc lq wl cs W (i+ 1) [some (.ref sc),some (.ref wl),some (.ref B),some (.ref m),some (.ref u),some (.int (G:Int)),some (.int c0),some (.int c),o8] H7:=⟨B,m,u,g,G,_,_,_,rfl,S,hs,hm,X,n1,n2,n3,w2,w3,el,n4,n5,n6,O,k.le (cP _),md,et,p,l7⟩;refine eak (id k) fun L es ls al=>?_;refine eak (id md) fun mx emx lmx _=>?_;refine ii B _ ⟨rfl,.inl (NT es),?_⟩;show if decide ((L.length:Int)>0)=true then _ else _;by_cases y:L.length=0;·rw[hV O2];exact ij Y
   rw[gT O2];refine iK (ii m _ ⟨rfl,.inl (NT emx),?_⟩);show if decide ((mx.length:Int)<7)=true then _ else _;by_cases y7:¬mx.length<7;·rw[hV O2];exact ij Y
   rw[gT O2];refine iK ?_;show if decide ((G:Int)<=100)=true then _ else _;by_cases y100:¬G<=100;·rw[hV O2];exact ij Y
   rw[gT O2];have hy:L[L.length-1]?=some (L[L.length-1]' O2):=bE O2;refine eaa (al _ (aQ hy)) fun I hI hJ=>?_;refine iK ⟨.inl ⟨rfl,_,NT es⟩,B,L,_,rfl,rfl,es,hy,?_⟩;have F:FS B H7 (NR H7 B (.lst L.dropLast)):=fun a o e n=>by rw[gy n];exact e
   have N:=O.fs k F;have md8:=md.fs k n1 F;have R:=F _ _ et n2;have el8:=F _ _ el n4;have hI8:=hI.fs k F;have S8:gJ H (NR H7 B (.lst L.dropLast)):=ip S hs _;generalize NR H7 B (.lst L.dropLast)=H8 at N md8 R el8 hI8 S8⊢;refine⟨⟨O3,O3⟩,wl,W,g.length,_,I,c/32,rfl,N,hI8,hJ.g,hJ.pl,fun H9 zz r t S9 iz de=>?_⟩;dsimp only[gU];have D:=N.same S9;have md9:=md8.same S9;have J:=S9 _ _ R;have el9:=S9 _ _ el8;have S09:=S8.trans S9;refine eau (D.at (show 3+g.length<16 by lia)) fun f ew3 ev3 nw3 lw3=>?_;refine eak (id md9) fun C em9 lm9 _=>?_;have add:=p.add ew3 hJ de O2;have jp:=hJ.p;have dp:=de.p;have tx:=(Gd.tx ⟨t,de.g⟩ O2:r.tx.length<=200000);refine eap (id iz) fun a b z0 ea eb=>?_;subst z0;have hx:atI (W.map V.str) ((3:Int)+(C.length:Int))=some (.str f):=by rw[lm9,show(3:Int)+(g.length:Int)=((3+g.length:Nat):Int) by lia];exact fZ ev3
   refine ean (Ju lw3 tx) fun k1 k2 k3 k4=>?_;refine⟨⟨_,J⟩,m,_,rfl,.inl (NT em9),_,D.e,gf hx ⟨k1,k2,_,ea,gf (fZ rfl) ⟨k3,k4,_,J,by rw[aE,aE];lia,?_⟩⟩⟩;have Sa:gJ H (NR H9 u (.lst ((g.map Df.ln).map V.str++[.str ("(def "++f++" "++r.tx++")")]))):=ip S09 X _;have eta:(NR H9 u (.lst ((g.map Df.ln).map V.str++[.str ("(def "++f++" "++r.tx++")")]))) u=some (.lst ((g.map Df.ln).map V.str++[.str ("(def "++f++" "++r.tx++")")])):=f7;have iza:=iz.upd (o:= .lst ((g.map Df.ln).map V.str++[.str ("(def "++f++" "++r.tx++")")])) J E8;have mda:=md9.upd (o:= .lst ((g.map Df.ln).map V.str++[.str ("(def "++f++" "++r.tx++")")])) J E8 n3;have M:Wd (NR H9 u (.lst ((g.map Df.ln).map V.str++[.str ("(def "++f++" "++r.tx++")")]))) wl W:=⟨by rw[gy w3];exact D.e,D.l,D.n,D.d⟩;have ela:(NR H9 u (.lst ((g.map Df.ln).map V.str++[.str ("(def "++f++" "++r.tx++")")]))) lq=some (.lst (cs.map V.int)):=by rw[gy n6];exact el9
   have ema:(NR H9 u (.lst ((g.map Df.ln).map V.str++[.str ("(def "++f++" "++r.tx++")")]))) m=some (.lst C):=by rw[gy n3];exact em9
   dsimp only;generalize NR H9 u _=Ha at Sa eta iza mda M ela ema⊢;refine eap iza fun a b e0 ea eb=>?_;cases e0;refine⟨_,ea,gf (fZ rfl) ?_⟩;dsimp only[gU];refine⟨⟨_,ema⟩,m,_,rfl,.inl (NT ema),_,M.e,gf hx ⟨_,ea,gf (fZ rfl) ⟨_,ea,gf (fZ rfl) ⟨_,ea,gf (fZ rfl) ⟨Hn,fun lm hlm=>?_⟩⟩⟩⟩⟩;have Tb:=gb hlm (.lst [.str f,.int (r.wt:Int),.str r.sh,.str r.mo]);have elm:(NR Ha lm (.lst [.str f,.int (r.wt:Int),.str r.sh,.str r.mo])) lm=some (.lst [.str f,.int (r.wt:Int),.str r.sh,.str r.mo]):=f7;generalize NR Ha lm _=Hb at Tb elm⊢;have emb:=Tb _ _ ema;refine⟨_,emb,O2,?_⟩;have mdc:=(mda.same Tb).add emb elm ew3 de.g.j.mo;have Sc:gJ H (NR Hb m (.lst (C++[.ref lm]))):=ip (Sa.trans Tb) hm _;have etc:(NR Hb m (.lst (C++[.ref lm]))) u=_:=(gy n3.symm).trans (Tb _ _ eta);have elc:(NR Hb m (.lst (C++[.ref lm]))) lq=_:=(gy n5).trans (Tb _ _ ela);have hwc:Wd (NR Hb m (.lst (C++[.ref lm]))) wl W:=⟨(gy w2).trans (Tb _ _ M.e),M.l,M.n,M.d⟩;have emc:(NR Hb m (.lst (C++[.ref lm]))) m=_:=f7;dsimp only;generalize NR Hb m _=Hc at mdc Sc etc elc hwc emc⊢;refine⟨p7,fun st' Z=>?_⟩;have Td:=gb Z (.lst []);have esd:(NR Hc st' (.lst [])) st'=some (.lst []):=f7;dsimp only[gU];generalize NR Hc st' _=Hd at Td esd⊢;refine⟨st',m,u,g++[⟨f,r.tx,t⟩],G+r.pl,_,_,_,by rw[fH];rfl,Sc.trans Td,Sc.free Z,hm,X,gv emc Z,gv etc Z,n3,w2,w3,Td _ _ elc,gv elc Z,n5,n6,hwc.same Td,⟨[],esd,cK _,fun x hx=>nomatch hx⟩,?_,?_,add,?_⟩;·rw[aR];exact mdc.same Td
   ·rw[Td _ _ etc,bq,bq];rfl
   ·rw[aR];show g.length+ 1<=7;lia
  ·rw[hV z];refine ij ⟨wl,B,m,W,g.length,i,c,G,rfl,O,k,n1,md,O2,O2,fun H8 v F k8=>?_⟩;exact⟨B,m,u,g,G,_,_,_,rfl,fun a o e=>F _ _ (S _ _ e) (gv e hs),hs,hm,X,n1,n2,n3,w2,w3,F _ _ el n4,n4,n5,n6,O.fs k F,k8,md.fs k n1 F,F _ _ et n2,p,l7⟩
 ·rintro σ H7 ⟨B,m,u,g,G,o6,o7,o8,rfl,S,hs,hm,X,n1,n2,n3,w2,w3,el,n4,n5,n6,O,k,md,et,p,l7⟩;rw[aE]at k;dsimp only;refine pU (fun σ' H'=>∃(U:List Df) (dn':Nat) (o1 o2 o3 o5 o6 o7 o8:Option V),σ'=[some (.ref sc),o1,o2,o3,some (.ref u),o5,o6,o7,o8]/\gJ H H'/\H' u=some (.lst ((U.map Df.ln).map V.str))/\Pgm W U dn'/\U≠[]/\U.length<=8) ?_ ?_
  ·refine fun _ H8=>faz fun U dn' o1 o2 o3 o5 o6 o7 o8=>fag fun z0 S8 R p8 d1 d8=>?_;subst z0;have gu:=(G3 fun d hd=>by obtain⟨j,hj⟩:=cu hd;refine eac (p8.d j d hj) fun a b _=>?_;exact⟨O.n _ (aQ a),b⟩).2;have z8:=p8.z;have l8:=p8.l;have sm:=yV (b:=130*150) fun l hl=>cF (gu l hl) (Nat.mul_le_mul_left _ O2);rw[aE]at sm;have sm2:U.length*(130*150)<=8*(130*150):=dm _ d8;exact⟨rfl,"\n",u,_,rfl,rfl,NT R,by rw[aE,show("\n":Str).length=1 by decide+kernel];lia,q _ _ _ _ S8 (p8.pt O.n O.d d1 d8)⟩
  intro D' hD;have d0:g=[]->G<=100:=fun e=>by have:=p.z;rw[e]at this;show G<=100;have z:G=0:=this.symm;lia
  have z0:Js W g.length G (nuI 0):=Js.nu O3 gL;have stay:g≠[]->D'.nx [some (.ref sc),some (.ref wl),some (.ref B),some (.ref m),some (.ref u),some (.int (G:Int)),o6,o7,o8] H7:=fun h=>hD _ _ (iac g G _ _ _ _ _ _ _ ⟨rfl,S,et,p,h,O2⟩);refine ii u _ ⟨rfl,.inl (NT et),?_⟩;show if(false ^^ decide ((((g.map Df.ln).map V.str).length:Int)=0))=true then _ else _;rw[fj,aE,aE];refine or2 (fun h100=>?_) (fun z=>d0 (bW (by have:=of_decide_eq_true z;lia))) fun z kA=>?_
  ·refine⟨B,cs.length,_,rfl,k,z0,fun H8 x I F k8 ix hJ=>?_⟩;have S8:gJ H H8:=fun a o e=>F _ _ (S _ _ e) (gv e hs);have N:=O.fs k F;have md8:=md.fs k n1 F;have R:=F _ _ et n2;refine ii sc _ ⟨rfl,.inl (S8.seq hq),?_⟩;refine⟨wl,W,g.length,_,I,_,rfl,N,ix,hJ.g,hJ.pl,fun H9 zz r t S9 iz de=>?_⟩;dsimp only[gU];have D:=N.same S9;have md9:=md8.same S9;have J:=S9 _ _ R;have S09:=S8.trans S9;refine eau (D.at (show 3+g.length<16 by lia)) fun f ew3 ev3 nw3 lw3=>?_;refine eak (id md9) fun C em9 lm9 _=>?_;have add:=p.add ew3 hJ de h100;have jp:=hJ.p;have dp:=de.p;have tx:=(Gd.tx ⟨t,de.g⟩ O2:r.tx.length<=200000);refine eap (id iz) fun a b z0 ea eb=>?_;subst z0;have hx:atI (W.map V.str) ((3:Int)+(C.length:Int))=some (.str f):=by rw[lm9,show(3:Int)+(g.length:Int)=((3+g.length:Nat):Int) by lia];exact fZ ev3
   refine ean (Ju lw3 tx) fun k1 k2 k3 k4=>?_;refine⟨⟨_,J⟩,m,_,rfl,.inl (NT em9),_,D.e,gf hx ⟨k1,k2,_,ea,gf (fZ (j:=0) rfl) ⟨k3,k4,_,J,by rw[aE,aE];lia,?_⟩⟩⟩;refine hD _ _ (iac (g++[⟨f,r.tx,t⟩]) (G+r.pl) _ _ _ _ _ _ _ ⟨rfl,ip S09 X _,?_,add,O4,by rw[aR];show g.length+ 1<=8;lia⟩);rw[f7,bq,bq];rfl
  ·have hne:g≠[]:=fun e=>by have:=of_decide_eq_false z;rw[e]at this;exact this rfl
   refine eak (id k) fun L es ls al=>?_;refine ii B _ ⟨rfl,.inl (NT es),?_⟩;show if decide ((L.length:Int)>0)=true then _ else _;by_cases y:L.length=0;·rw[hV O2];exact ij (stay hne)
   rw[gT O2];refine iK ?_;show if decide ((G:Int)<=100)=true then _ else _;by_cases y100:¬G<=100;·rw[hV O2];exact ij (stay hne)
   rw[gT O2];exact iK (kA O2)
def G4{xs:Zd} (hσ:a[i]?=some (some (.ref t))) (g:H t=some (.tup (.str s::ys))) (f:xs.length<=100) (b:Bool) (e:inV (.str s) (xs.map V.str)=b) (q:∀c,gJ H c->k b c):cT (tOp (rIn K false) (tOp zu (cV i) (tC (.int 0))) (AS (vh xs))) a H k:=by
 show onV a[i]? _;rw[hσ];refine⟨_,g,gf (fZ rfl) ⟨by rw[aE];exact cF f O3,fun p d=>(ii p _ ⟨rfl,.inl (NT f7),rfl,?_,?_⟩)⟩⟩;·rw[bC];exact bD.mpr fun _ _=>rfl
 ·subst e;exact q _ (gb d _)
def qw{xs:Zd} (hσ:b[i]?=some (some (.ref t))) (d:H t=some (.tup (.str s::ys))) (c:xs.length<=100) (e:inV (.str s) (xs.map V.str)=true) (q:∀a,gJ H a->T {D with nx:=u D} b a):pZ (qD (cT (tOp (rIn K false) (tOp zu (cV i) (tC (.int 0))) (AS (vh xs)))) T jW) u D b H:=G4 hσ d c _ e fun a S=>iK (q a S)
def nF{xs:Zd} (hσ:b[i]?=some (some (.ref t))) (d:H t=some (.tup (.str s::ys))) (c:xs.length<=100) (e:inV (.str s) (xs.map V.str)=false) (q:∀a,gJ H a->u D b a):pZ (qD (cT (tOp (rIn K false) (tOp zu (cV i) (tC (.int 0))) (AS (vh xs)))) T jW) u D b H:=G4 hσ d c _ e fun a S=>ij (q a S)
def ni {K:Zp} {s:Str} {xs:Zd} {t:Zx} {T u:TS} {D:ny} (et:H t=some (.tup (.str s::ys))) (q:∀H',gJ H H'->u D σ H') (hσ:σ[i]?=some (some (.ref t)):=by exact rfl) (hl:autoParam (xs.length<=100) L2.Internal.auD._auto_1) (e:inV (.str s) (xs.map V.str)=false:=by kernel_rfl):pZ (qD (cT (tOp (rIn K false) (tOp zu (cV i) (tC (.int 0))) (AS (vh xs)))) T jW) u D σ H:=nF hσ et hl e q
def yi {K:Zp} {s:Str} {xs:Zd} {t:Zx} {T u:TS} {D:ny} (et:H t=some (.tup (.str s::ys))) (q:∀H',gJ H H'->T {D with nx:=u D} σ H') (hσ:σ[i]?=some (some (.ref t)):=by exact rfl) (hl:autoParam (xs.length<=100) L2.Internal.auD._auto_1) (e:inV (.str s) (xs.map V.str)=true:=by kernel_rfl):pZ (qD (cT (tOp (rIn K false) (tOp zu (cV i) (tC (.int 0))) (AS (vh xs)))) T jW) u D σ H:=qw hσ et hl e q
def n1 {x s:Str} {t:Zx} {T u:TS} {D:ny} (et:H t=some (.tup (.str s::ys))) (h:u D σ H) (hσ:σ[i]?=some (some (.ref t)):=by exact rfl) (e:decide (s=x)=false:=by kernel_rfl):pZ (qD (hdT i x) T jW) u D σ H:=i9 hσ et e h
def y1 {x s:Str} {t:Zx} {T u:TS} {D:ny} (et:H t=some (.tup (.str s::ys))) (h:T {D with nx:=u D} σ H) (hσ:σ[i]?=some (some (.ref t)):=by exact rfl) (e:decide (s=x)=true:=by kernel_rfl):pZ (qD (hdT i x) T jW) u D σ H:=tM hσ et e h
def Ee{j:Type} {A:Hp->V->j->Prop} {g:j->V} {l:List j} (w:∀(i:Nat) v H,xs[i]?=some v->gJ H1 H->∃x,l[i]?=some x/\A H v x) (F:l.length<=1000) (z:H1 D=none) (hτ:τ.set 0 none=τ) (n:∀k H,gJ H1 H->k<l.length->J.go k H) (m:∀H,gJ H1 H->J.stop l.length H) (r:∀k H v b,gJ H1 H->J.yld k H v b->b=H/\xs[k]?=some v) (t:∀x v H (R:VK),x∈l->gJ H1 H->A H v x->(∀b,gJ H b->R (g x) b)->te (τ.set 0 (some v)) H R) (u:∀b,gJ H1 b->b D=some (.lst (l.map g))->Q (.ref D) b):LcP J 0 sE te Q τ H1 D:=by
 have E:=L9;refine sH l.length O2 (fun d _=>d=(l.take d.length).map g) (fun _ _ _ h _=>h) z hτ n m rfl ?_ ?_;·intro k H v o d Z S G y c e q;obtain⟨rfl,s⟩:=r k H v o S y;refine eaa (w k v o s S) fun x p a=>?_;refine t x v o Z (aQ p) S a fun b C=>q _ _ C ?_;rw[aR,e,bc,cc,p,bq,<-e,<-c];rfl
 ·intro b d S c e B;rw[e,bA]at c;exact u b S (by rw[B,c])
def K1:List Str:=["num","size","add","sub"]
def K2:List Str:=["row","join"]
def K3:List Str:=["fn","rec","tag","less"]
def Mkc (s m:Str):Prop:=(inV (.str s) (K1.map V.str)=true/\m="num")\/(inV (.str s) (K1.map V.str)=false/\inV (.str s) (K2.map V.str)=true/\m="row")\/inV (.str s) (K1.map V.str)=false/\inV (.str s) (K2.map V.str)=false/\((inV (.str s) (K3.map V.str)=true/\m=s)\/(inV (.str s) (K3.map V.str)=false/\m=""))
def mkc (e:Ro) (u:U0 e):Mkc e.s (mkR e):=by
 have f:∀{s m:Str},inV (.str s) (K1.map V.str)=true->m="num"->Mkc s m:=fun a b=> .inl ⟨a,b⟩;have i:∀{s m:Str},inV (.str s) (K1.map V.str)=false->inV (.str s) (K2.map V.str)=true->m="row"->Mkc s m:=fun a b c=> .inr (.inl ⟨a,b,c⟩);have h:∀{s m:Str},inV (.str s) (K1.map V.str)=false->inV (.str s) (K2.map V.str)=false->inV (.str s) (K3.map V.str)=true->m=s->Mkc s m:=fun a b c d=> .inr (.inr ⟨a,b,.inl ⟨c,d⟩⟩);have g:∀{s m:Str},inV (.str s) (K1.map V.str)=false->inV (.str s) (K2.map V.str)=false->inV (.str s) (K3.map V.str)=false->m=""->Mkc s m:=fun a b c d=> .inr (.inr ⟨a,b,.inr ⟨c,d⟩⟩)
 cases e with
 |num _=>exact f O1 rfl
 |name _|lt _ _ _|get _ _|case _ _=>exact g O1 O1 O1 rfl
 |fn _ _|tag _ _|rcd _=>exact h O1 O1 O1 rfl
 |row _=>exact i O1 O1 rfl
 |op o k=>
  have j:o∈plain:=u;simp only[plain,ao,bI,or_false]at j;rcases j with rfl|rfl|rfl|rfl|rfl|rfl|rfl;·exact f O1 O1
  ·exact g O1 O1 O1 O1
  ·exact g O1 O1 O1 O1
  ·exact i O1 O1 O1
  ·exact f O1 O1
  ·exact f O1 O1
  ·exact h O1 O1 O1 O1
theorem Dh:∀{ns:List Int} {xs:List V},Ims H xs (ns.map kD)->xs=ns.map V.int
 |[],xs,h=>by cases h;rfl
 |n::ns,xs,h=>by
  rw[aD,kD]at h
  cases h with
  |cons h t=>cases h;rw[Dh t];rfl
def Jv{ns:List Int} (h:Im H v (.tup (ns.map kD))):∃t,v= .ref t/\H t=some (.tup (ns.map V.int)):=by
 cases h with
 |tup e i=>cases Dh i;exact⟨_,rfl,e⟩
inductive XMk (vs:List V) (H:Hp) (Q:VK):Prop
 |mk (t:Zx) (ρ:Ro) (e:vs=[.ref t]) (it:Im H (.ref t) ρ.d) (u:U0 ρ) (q:∀H',gJ H H'->Q (.str (mkR ρ)) H')
def Ln:Sp:=fun a H Q _=>XMk a H Q
def qz (T:Txt K mg):FO P w base 1 T.d54 Ln:=by
 refine T.d54.F.rd vL fun p A j x H v Q E z h=>?_;obtain⟨t,l,rfl,o,u,q⟩:=h;refine HzX ?_;intro _;refine⟨_,(fW (gM (gq iO (gk gB (cv 0) fX) (gG (jh (xs:=["num","size","add","sub"]) gL)) rfl)
   (f9 (gC gh))
   gA)
  (fW (gM (gq iO (gk gB (cv 0) fX) (gG (jh (xs:=["row","join"]) gL)) rfl)
   (f9 (gC gh))
   gA)
  (fW (gM (gq iO (gk gB (cv 0) fX) (gG (jh (xs:=["fn","rec","tag","less"]) gL)) rfl)
   (f9 (gC (gk gB (cv 0) fX)))
   gA)
  (f9 (gC gh))))),?_⟩;refine Hz3 ?_;intros;refine eaa (kQ o) fun s e y=>?_;have n:=mkc l u;generalize mkR l=m at n q;rcases n with⟨a,rfl⟩|⟨a,b,rfl⟩|⟨a,b,⟨c,rfl⟩|⟨c,rfl⟩⟩;·exact qw rfl e O3 a fun i d=>q i d
 ·exact nF rfl e O3 a fun i d=>qw rfl (d _ _ e) O3 b fun k f=>q k (d.trans f)
 ·refine nF rfl e O3 a fun i d=>nF rfl (d _ _ e) O3 b fun k f=>qw rfl (f _ _ (d _ _ e)) O3 c fun r g=>?_;exact⟨_,g _ _ (f _ _ (d _ _ e)),gf (fZ rfl) (q _ ((d.trans f).trans g))⟩
 ·exact nF rfl e O3 a fun i d=>nF rfl (d _ _ e) O3 b fun k f=>nF rfl (f _ _ (d _ _ e)) O3 c fun r g=>q _ ((d.trans f).trans g)
def op_f {o:Str} (h:o∈plain):inV (.str o) ((["num","name","fn"]:Zd).map V.str)=false/\decide (o="let")=false/\decide (o="tag")=false/\inV (.str o) ((["get","size","case"]:Zd).map V.str)=decide (o="size")/\decide (o="rec")=false/\decide (o="row")=false:=by simp only[plain,ao,bI,or_false]at h;rcases h with rfl|rfl|rfl|rfl|rfl|rfl|rfl<;>exact⟨O1,O1,O1,O1,O1,O1⟩
def wi:Ro->List Int
 | .fn _ _=>[]
 | .lt _ a b=>[a,b]
 | .case k _=>[k]
 |ρ=>ρ.pl
def Wok:Ro->Prop
 | .op o ks=>o∈plain/\ks.length<=100/\(o="size"->ks.length=1)
 | .rcd l=>l.length<=100
 | .row l=>l.length<=100
 | .case _ l=>l.length<=100
 |_=>True
inductive XWi (vs:List V) (H:Hp) (Q:VK):Prop
 |mk (t:Zx) (ρ:Ro) (e:vs=[.ref t]) (it:Im H (.ref t) ρ.d) (u:Wok ρ) (q:∀l H',gJ H H'->H l=none->H' l=some (.lst ((wi ρ).map V.int))->Q (.ref l) H')
def Lo:Sp:=fun a H Q _=>XWi a H Q
def ur (T:Txt K mg):FO P w base 1 T.d53 Lo:=by
 refine T.d53.F.rd ug fun cdv A0 O s0 H vs Q E hr h=>?_;obtain⟨t,ρ,rfl,it,u,q⟩:=h;refine HzX ?_;intro _;refine⟨_,(fW (gM (gq iO (gk gB (cv 0) fX) (gG (jh (xs:=["num","name","fn"]) gL)) rfl)
   (f9 (gC (gG fY)))
   gA)
  (fW (gM (gq iA (gk gB (cv 0) fX) gh)
   (f9 (gC (gG (fV (gk gB (cv 0) fX) (fV (gk gB (cv 0) fX) fY)))))
   gA)
  (fW (gM (gq iA (gk gB (cv 0) fX) gh)
   (f9 (gC (gG (fV (gk gB (cv 0) fX) fY))))
   gA)
  (fW (gM (gq iO (gk gB (cv 0) fX) (gG (jh (xs:=["get","size","case"]) gL)) rfl)
   (f9 (gC (gG (fV (gk gB (cv 0) fX) fY))))
   gA)
  (fW (gM (gq iA (gk gB (cv 0) fX) gh)
   (f9 (gC (qG rfl (DM rfl gL gL rfl rfl) (qd (gk gB (cv 0) fX)) (fun _ _ _ _ _=>kS) (fun _ _ _ _ _=>(gk gB (cv 0) fX)))))
   gA)
  (fW (gM (gq iA (gk gB (cv 0) fX) gh)
   (f9 (gC (iS rA rfl T.z_list sC (fV (gk gB (cv 0) fX) fY))))
   gA)
  (f9 (gC (iS rA rfl T.z_list sC (fV (iY Ep (cv 0) (jF fX) jE) fY)))))))))),?_⟩;refine Hz6 ?_;intros;refine eaa (kQ it) fun ys e n=>?_;have sl:=L9;have N:∀{m:Nat},m<=2->m<=sizeLine:=fun h=>O2
 cases ρ with
 |num _|name _|fn _ _=>exact yi e fun C c=>⟨N O3,fun l j=>q l _ (c.trans (gb j _)) (c.free j) f7⟩
 |lt w a b=>
  cases n with|cons _ n=>cases n with|cons J n=>cases n with|cons W n=>cases J;cases W;exact ni e fun C c=>y1 (c _ _ e) ⟨_,c _ _ e,gf (fZ rfl) ⟨_,c _ _ e,gf (fZ rfl) ⟨lJ,fun l j=>q l _ (c.trans (gb j _)) (c.free j) f7⟩⟩⟩
 |tag w a=>
  cases n with|cons _ n=>cases n with|cons J n=>cases J;exact ni e fun C c=>n1 (c _ _ e) (y1 (c _ _ e) ⟨_,c _ _ e,gf (fZ rfl) ⟨se,fun l j=>q l _ (c.trans (gb j _)) (c.free j) f7⟩⟩)
 |get a w|case a l=>
  cases n with|cons B n=>cases B;exact ni e fun C c=>n1 (c _ _ e) (n1 (c _ _ e) (yi (c _ _ e) fun M f=>⟨_,f _ _ (c _ _ e),gf (fZ rfl) ⟨se,fun l j=>q l _ ((c.trans f).trans (gb j _)) ((c.trans f).free j) f7⟩⟩))
 |rcd r=>
  have u:r.length<=100:=u
  cases n with|cons B n=>
  cases B with|tup L U=>
  refine ni e fun C c=>n1 (c _ _ e) (n1 (c _ _ e) (ni (c _ _ e) fun M f=>y1 (f _ _ (c _ _ e)) ?_));have S:=c.trans f;have lx:=U.length;rw[aE]at lx;refine⟨_,S _ _ e,gf (fZ rfl) ⟨_,rfl,⟨_,NX (S _ _ L)⟩,fun D hD=>?_⟩⟩;refine Ee (A:=fun H v (x:Str×Int)=>Im H v (fdD x)) (g:=fun x=>V.int x.2) (l:=r) (fun i v F hv s=>?_) O2 hD rfl (fun k F s hk=>zp (S _ _ L) s O2) (fun F s=>by rw[<-lx];exact zq (S _ _ L) s) (fun k F v H4 s y=>⟨y.1,y.2 _ (NX (s _ _ (S _ _ L)))⟩) (fun x v F R _ s a k=>?_) fun F s e3=>?_;·refine eaa (jA U hv) fun d hd im=>?_;rw[aP]at hd;refine eaa (dA.mp hd) fun x hx G=>?_;subst G;exact⟨x,hx,im.mono (gJ.tk (S.trans s))⟩
  ·refine eaA (pT a) fun p y1 y2 G ep U i2=>?_;subst G;cases i2;exact⟨_,ep,gf (fZ rfl) (k _ (gJ.refl _))⟩
  ·exact q D F (S.trans s) (S.free hD) (by rw[e3];show _=some (HO.lst ((r.map MC).map V.int));rw[bH];rfl)
 |row r=>
  cases n with|cons B n=>refine eaa (Jv B) fun z G ez=>?_;subst G;exact ni e fun C c=>n1 (c _ _ e) (n1 (c _ _ e) (ni (c _ _ e) fun M f=>n1 (f _ _ (c _ _ e)) (y1 (f _ _ (c _ _ e)) ⟨_,f _ _ (c _ _ e),gf (fZ rfl) (ii z _ ⟨rfl,.inr (NX (f _ _ (c _ _ ez))),fun l j=>q l _ ((c.trans f).trans (gb j _)) ((c.trans f).free j) f7⟩)⟩)))
 |op o r=>
  refine eac u fun B J W=>?_;refine eam (op_f B) fun o1 Z Y X o5 o6=>?_;by_cases z:o="size"
  ·obtain⟨k,rfl⟩:=bF.mp (W z)
   cases n with|cons B n=>cases B;exact nF rfl e O3 o1 fun C c=>i9 rfl (c _ _ e) Z (i9 rfl (c _ _ e) Y (qw rfl (c _ _ e) O3 (X.trans (gT z)) fun M f=>⟨_,f _ _ (c _ _ e),gf (fZ rfl) ⟨se,fun l j=>q l _ ((c.trans f).trans (gb j _)) ((c.trans f).free j) f7⟩⟩))
  ·refine nF rfl e O3 o1 fun C c=>i9 rfl (c _ _ e) Z (i9 rfl (c _ _ e) Y (nF rfl (c _ _ e) O3 (X.trans (hV z)) fun M f=>i9 rfl (f _ _ (c _ _ e)) o5 (i9 rfl (f _ _ (c _ _ e)) o6 ?_)));cases Dh (show Ims H ys (r.map kD)from n);obtain⟨c1,c2⟩:=Iu (.str (Ro.op o r).s) (r.map V.int);refine⟨_,rfl,t,_,rfl,NX (f _ _ (c _ _ e)),c2,fun p hp=>?_⟩;refine ii p _ ⟨rfl,.inr (NX f7),fun l j=>q l _ ((c.trans f).trans ((gb hp _).trans (gb j _))) ((c.trans f).free ((gb hp _).free j)) ?_⟩;rw[c1];exact f7
inductive EnA (H:Hp):V->Ent->Prop
 |mk (a l:Zx) (xs:List V) {e:Ent} (h:H a=some (.lst [.int e.p,.int e.m,.ref l])) (el:H l=some (.lst xs)) (il:Ims H xs (e.t.map meD)):EnA H (.ref a) e
inductive EnL (H:Hp):List V->List Ent->Prop
 |nil:EnL H [] []
 |cons {v:V} {e:Ent} {vs:List V} {es:List Ent} (h:EnA H v e) (t:EnL H vs es):EnL H (v::vs) (e::es)
def EnA.same {v:V} (S:gJ H H') (h:EnA H v e):EnA H' v e:=by
 cases h with
 |mk a l b h d c=>exact .mk a l b (S _ _ h) (S _ _ d) (c.mono (gJ.tk S))
theorem EnL.same (S:gJ H H') (h:EnL H vs es):EnL H' vs es:=by
 induction h with
 |nil=>exact .nil
 |cons h _ i=>exact .cons (h.same S) i
theorem EnL.length (h:EnL H vs es):vs.length=es.length:=by
 induction h with
 |nil=>rfl
 |cons _ _ i=>rw[aB,aB,i]
def EnL.app {ws:List V} {a:List Ent} (h:EnL H vs es) (k:EnL H ws a):EnL H (vs++ws) (es++a):=by
 induction h with
 |nil=>exact k
 |cons h _ i=>exact .cons h i
theorem EnL.split:∀{g:List Ent} {vs:List V} {f:List Ent},EnL H vs (g++f)->∃d c,vs=d++c/\EnL H d g/\EnL H c f
 |[],vs,f,h=>(ii ([]) vs ⟨rfl,.nil,h⟩)
 |e::g,vs,f,h=>by
  cases h with
  |cons h t=>refine eap (EnL.split t) fun d c i a b=>?_;subst i;exact ii (_::d) c ⟨rfl,.cons h a,b⟩
def EnL.get {H:Hp} {vs:List V} {a:List Ent} (h:EnL H vs a):∀{i:Nat} {v:V},vs[i]?=some v->∃e,a[i]?=some e/\EnA H v e:=by
 induction h with
 |nil=>intro i v e;cases e
 |cons h t k=>
  intro i v e
  cases i with
  |zero=>cases e;exact⟨_,rfl,h⟩
  |succ i=>exact k e
def EnL.at (h:EnL H vs es):∀{i:Nat} {e:Ent},es[i]?=some e->∃v,vs[i]?=some v/\EnA H v e:=by
 induction h with
 |nil=>intro i e z;cases z
 |cons h t k=>
  intro i e z
  cases i with
  |zero=>cases z;exact⟨_,rfl,h⟩
  |succ i=>exact k z
def Ef:Sp:=fun a H Q _=>∃n,a=[.int n]/\Q (.bl true) H
def qA (T:Txt K mg):FO P w base 1 T.d51 Ef:=by refine T.d51.F.rd vK fun c g a e H d Q E f h=>?_;refine eaa h fun n b q=>?_;subst b;refine⟨_,(f9 (gC (nB (gN mQ rfl T.z_isinstance jg (fV (cv 0) (fV (sA rfl T.z_int wM) fY))) (nA (Hv (gN mQ rfl T.z_isinstance jg (fV (cv 0) (fV (sA rfl T.z_bool FI) fY)))))))),?_⟩;exact iab _ _ _ _ true (⟨rfl,fun _ r=>r,.int n,rfl,_,rfl,iK (iab _ _ _ _ false ⟨rfl,fun _ r=>r,.int n,rfl,_,rfl,q⟩)⟩)
def Lp:Sp:=fun c H Q _=>∃(t:Zx) (a b:Int),c=[.ref t]/\H t=some (.tup [.int a,.int b])/\Q (.bl true) H
def qB (T:Txt K mg):FO P w base 2 T.d52 Lp:=by refine T.d52.F.rd qh fun g k d j H i Q E e h=>?_;refine eai h fun t a b f c q=>?_;subst f;refine⟨_,(f9 (gC (nB (gN mQ rfl T.z_isinstance jg (fV (cv 0) (fV (sA rfl T.z_tuple mv) fY))) (nB (iV iA (gN gH rfl T.z_len iN (fV (cv 0) fY)) fX) (nB (pF T.d51 (qA T) e.m (fV (gk gB (cv 0) fX) fY)) (nA (pF T.d51 (qA T) e.m (fV (gk gB (cv 0) fX) fY)))))))),?_⟩;refine iab _ _ _ _ true ⟨rfl,fun _ r=>r,.tup c,rfl,_,rfl,iK ?_⟩;refine ii _ _ ⟨rfl,.inr (NX c),?_⟩;dsimp only[tC,cEq,onB];exact⟨true,rfl,iK ⟨_,c,gf (fZ rfl) ⟨a,rfl,true,rfl,iK ⟨_,c,gf (fZ rfl) ⟨b,rfl,q⟩⟩⟩⟩⟩
inductive Mi (H:Hp) (t lp:Zx) (p:Int) (L:List (Int×Int×Int)) (σ:St) (H':Hp):Prop
 |mk (a:Zx) (o:Option V) (xs:List V) (e:σ=[some (.ref t),some (.int p),some (.ref lp),some (.ref a),o]) (S:gJ H H') (n:H a=none) (ea:H' a=some (.lst xs)) (i:Ims H' xs (L.map meD))
def uU(y:H lp=some (.lst ws)) (s:EnL H ws es) (w:es[j]?=some e) (M:Mi H t lp p L σ H') (E:L.length<=2000000) (q:∀c d,Mi H t lp p (L++[(e.m,p,k)]) c d->D.nx c d):Fh (Kq (cV 3) (JP (kP (tOp Ar (tOp Ar (cV 2) (tC (V.int j))) (tC (V.int 1))) (kP (cV 1) (kP (tC (V.int k)) x8))))) D σ H':=by obtain⟨a,o,h,rfl,S,n,g,i⟩:=M;have A:=L9;obtain⟨v,u,⟨b,l,z,x,C,B⟩⟩:=(s.same S).at w;have m:=i.length;rw[aE]at m;refine⟨⟨_,g⟩,_,S _ _ y,gf (fZ u) ⟨_,x,gf (fZ rfl) ⟨lC,fun r f=>⟨h,gb f _ _ _ g,O2,?_⟩⟩⟩⟩;have T:=gb f (.tup [.int e.m,.int p,.int k]);refine q _ _ ⟨a,o,_,rfl,ip (S.trans T) n _,n,f7,?_⟩;rw[bq];exact((i.mono (gJ.tk T)).app (.cons (oa f (.cons (.flat rfl) (.cons (.flat rfl) (.cons (.flat rfl) .nil)))) .nil)).mono (wW (T _ _ g)).tk
def E9(z:H lp=some (.lst ws)) (s:EnL H ws es) (x:es[j]?=some e) (M:Mi H t lp p L σ H') (C:L.length+e.t.length<=2000000) (q:∀a d c,gJ H c->H a=none->gJ H' c->c a=some (.lst d)->Ims c d ((L++e.t).map meD)->Q (.ref a) c):tOp HM (cV 3) (tOp Ar (tOp Ar (cV 2) (tC (V.int j))) (tC (V.int 2))) σ H' Q:=by obtain⟨a,o,d,rfl,S,n,A,i⟩:=M;have B:=L9;obtain⟨v,u,⟨b,l,h,y,w,f⟩⟩:=(s.same S).at x;have m:=i.length;have k:=f.length;rw[aE]at m k;refine⟨_,S _ _ z,gf (fZ u) ⟨_,y,gf (fZ rfl) (io a _ d _ ⟨rfl,rfl,A,w,O2,fun r g=>?_⟩)⟩⟩;have T:=gb g (.lst (d++h));exact q r _ _ (S.trans T) (S.free g) T f7 (by rw[bq];exact(i.app f).mono (gJ.tk T))
theorem Mi.mono {b:Hp} {t:Zx} {p:Int} {L:List (Int×Int×Int)} (M:Mi H t lp p L σ H') (S:gJ H' b):Mi H t lp p L σ b:=by obtain⟨a,o,c,rfl,T,n,d,i⟩:=M;exact⟨a,o,c,rfl,T.trans S,n,S _ _ d,i.mono (gJ.tk S)⟩
def z7(O:∀Q,(∀b j,gJ H' j->j b=some (.lst vs)->Q (.ref b) j)->src d H' Q) (w:EnL H' vs fs) (M:Mi H t lp p L d H') (Y:L.length+(ets fs).length<=2000000) (q:∀f k,Mi H t lp p (L++ets fs) f k->D.nx f k):J5 (Fi K src) (gU 4) (Dp (tOp HM (cV 3) (tOp Ar (cV 4) (tC (V.int 2)))) (gU 3)) D d H':=by
 have X:=L9;refine O _ fun b j E B=>⟨b,rfl,⟨_,NT B⟩,lQ (fun i d g=>gJ j g/\Mi H t lp p (L++ets (fs.take i)) d g) ⟨gJ.refl _,by rw[show L++ets (fs.take 0)=L from aF L];exact M.mono E⟩ (fun i d g _ h=>NT (h.1 _ _ B)) ?_ ?_⟩
 ·rintro i v d g N ⟨C,a,o,s,rfl,S,n,W,x⟩;refine eaa (w.get N) fun e R m=>?_;obtain⟨c,l,G,U,P,y⟩:=m.same (E.trans C);have u:=x.length;have I:=y.length;rw[aE]at u I;have A:ets (fs.take (i+ 1))=ets (fs.take i)++e.t:=by rw[cc,R];exact oE _ _
  have J:(ets (fs.take (i+ 1))).length<=(ets fs).length:=by
   have:ets fs=ets (fs.take (i+ 1))++ets (fs.drop (i+ 1)):=by
    conv=>lhs;rw[<-b9 (i+ 1) fs]
    unfold ets;rw[bq,cA]
   rw[this,aR];lia
  rw[A,aR]at J;rw[aR]at u;dsimp only[gU];refine⟨_,U,gf (fZ rfl) (io a _ s _ ⟨rfl,rfl,W,P,O2,fun r z=>?_⟩)⟩;have T:=gb z (.lst (s++G));refine⟨C.trans T,r,_,_,rfl,S.trans T,S.free z,f7,?_⟩;rw[A,<-bU,bq];exact(x.app y).mono (gJ.tk T)
 ·rintro d g ⟨_,F⟩;rw[w.length,bA]at F;exact q _ _ F
def Mi.h0 {t:Zx} {p:Int} {L:List (Int×Int×Int)} (M:Mi H t lp p L σ H'):σ[0]?=some (some (.ref t)):=by obtain⟨a,o,b,rfl,_⟩:=M;rfl
theorem Mi.S {t:Zx} {p:Int} {L:List (Int×Int×Int)} (M:Mi H t lp p L σ H'):gJ H H':=by obtain⟨a,o,b,rfl,S,_⟩:=M;exact S
theorem EnL.take (h:EnL H vs es):∀n,EnL H (vs.take n) (es.take n)/\EnL H (vs.drop n) (es.drop n):=by
 induction h with
 |nil=>intro n;cases n<;>exact⟨.nil,.nil⟩
 |cons h t i=>
  intro n
  cases n with
  |zero=>exact⟨.nil,.cons h t⟩
  |succ n=>exact⟨.cons h (i n).1,(i n).2⟩
def Di {n:Nat}:nO xs none (some (n:Int))=xs.take n:=by
 unfold nO;rw[Od,Of,cj,Nat.sub_zero];by_cases h:n<=xs.length;·rw[Nat.min_eq_left h]
 ·rw[Nat.min_eq_right O2,bA,cg O2]
def Fb {n:Nat}:nO xs (some (n:Int)) none=xs.drop n:=by
 unfold nO;rw[Od,Of];by_cases h:n<=xs.length;·rw[Nat.min_eq_left h,cg (by rw[aZ];exact cJ _)]
 ·rw[Nat.min_eq_right O2,cB (cJ _),cB O2,List.take_nil]
def uV {K:Zp} {t:Zx} {p:Int} {L:List (Int×Int×Int)} {D:ny} {X Y Z:TS} {s:Str} (et:H t=some (.tup (.str s::ys))) (M:Mi H t lp p L σ H') (q:∀a H'' xs,gJ H H''->H'' a=some (.lst xs)->Ims H'' xs (L.map meD)->D.rt (.ref a) H'') (h1:decide (s="call")=false:=by kernel_rfl) (h2:decide (s="case")=false:=by kernel_rfl) (h3:inV (.str s) ((["rec","row"]:Zd).map V.str)=false:=by kernel_rfl):pZ (qD (hdT 0 "call") X jW) (pZ (qD (hdT 0 "case") Y jW) (pZ (qD (cT (tOp (rIn K false) (tOp zu (cV 0) (tC (.int 0))) (AS (vh ["rec","row"])))) Z jW) (Eh (cV 3)))) D σ H':=
 i9 M.h0 (M.S _ _ et) h1 (i9 M.h0 (M.S _ _ et) h2 (nF M.h0 (M.S _ _ et) O3 h3 fun H2 S2=>by obtain⟨a,o,xs,rfl,S,n,ea,i⟩:=M.mono S2;exact q a _ xs S ea i))
def Jw(l:H lp=some (.lst ws)) (g:EnL H ws es) (h:es[j]?=some e) (M:Mi H t lp p L σ H') (k:L.length+e.t.length<=2000000) (q:∀c b,Mi H t lp p (L++e.t) c b->D.nx c b):Dp (tOp HM (cV 3) (tOp Ar (tOp Ar (cV 2) (tC (V.int j))) (tC (V.int 2)))) (gU 3) D σ H':=by refine E9 l g h M k fun a f b S n s m i=>?_;obtain⟨r,o,d,rfl,_⟩:=M;exact q _ _ ⟨a,o,f,rfl,S,n,m,i⟩
def G5(h:H lp=some (.lst ws)) (e:EnL H ws es) (M:Mi H t lp p L σ H') (g:L.length+(ets (es.drop 2)).length<=2000000) (q:∀c d,Mi H t lp p (L++ets (es.drop 2)) c d->D.nx c d):J5 (Fi K (tSl (LL K) (cV 2) (HK (tC (V.int 2))) Bq)) (gU 4) (Dp (tOp HM (cV 3) (tOp Ar (cV 4) (tC (V.int 2)))) (gU 3)) D σ H':=by refine z7 (fun Q k=>?_) ((e.same M.S).take 2).2 M g q;obtain⟨a,o,j,rfl,S,n,l,i⟩:=M;exact⟨_,rfl,lp,ws,rfl,NT (S _ _ h),fun b f=>k b _ (gb f _) (by rw[show nO ws (some 2) none=ws.drop 2 from Fb];exact f7)⟩
def Jy(M:Mi H t lp p L σ H') (e:L=u) (q:∀a b c,gJ H b->b a=some (.lst c)->Ims b c (u.map meD)->Q (.ref a) b):cV 3 σ H' Q:=by obtain⟨a,o,c,rfl,S,n,d,i⟩:=M;exact q a _ c S d (e▸i)
inductive XMt (vs:List V) (H:Hp) (Q:VK):Prop
 |mk (t lp:Zx) (ρ:Ro) (p m:Int) (G:Gl) (nd:Int->Prop) (es:List Ent) (ws:List V) (u:List (Int×Int×Int)) (e:vs=[.ref t,.int p,.ref lp]) (it:Im H (.ref t) ρ.d) (el:H lp=some (.lst ws)) (ie:EnL H ws es) (c:Cmt G nd ρ p m es u) (hu:U0 ρ) (he:(ets es).length<=1000000) (q:∀a H' xs,gJ H H'->H' a=some (.lst xs)->Ims H' xs (u.map meD)->Q (.ref a) H')
def Lq:Sp:=fun a H Q _=>XMt a H Q
def yX (T:Txt K mg):FO P w base 1 T.d56 Lq:=by
 refine T.d56.F.rd kg fun cdv A0 outer s0 H vs Q E hr h=>?_;obtain⟨t,lp,ρ,p,m,G,nd,es,ws,u,rfl,it,C,B,c,hu,O,q⟩:=h;refine HzX ?_;intro _;refine⟨_,(fW (pS (i:=3) kg.nd (gG fY))
  (fW (jX Mh rfl (ke (iY kR (cv 2) jE (jF fX))) (pN (i:=4) kg.nd)
   (f9 (pS (i:=3) kg.nd (gP oH (cv 3) (gk gi (cv 4) fX)))))
  (fW (gM (gq iO (gk gB (cv 0) fX) (gG (jh (xs:=["call","get","size","at","join","add","sub","less"]) gL)) rfl)
   (fW (gM (gq iA (gk gB (cv 0) fX) gh)
    (f9 (pS (i:=3) kg.nd (gP oH (cv 3) (gk gi (gk gi (cv 2) fX) fX))))
    gA)
   (f9 (gK (iW (jG eS eU eV gX (NS (cv 3)) (fV (NS (iB (fV (gk gi (gk gi (cv 2) fX) fX) (fV (cv 1) (fV fX fY))))) fY))))))
   gA)
  (fW (gM (gq iO (gk gB (cv 0) fX) (gG (jh (xs:=["at","join","add","sub","less"]) gL)) rfl)
   (f9 (gK (iW (jG eS eU eV gX (NS (cv 3)) (fV (NS (iB (fV (gk gi (gk gi (cv 2) fX) fX) (fV (cv 1) (fV fX fY))))) fY)))))
   gA)
  (fW (gM (gq iA (gk gB (cv 0) fX) gh)
   (f9 (gC (gP oH (cv 3) (gk gi (gk gi (cv 2) fX) fX))))
   gA)
  (fW (gM (gq iA (gk gB (cv 0) fX) gh)
   (f9 (gC (gP oH (gP oH (gk gi (gk gi (cv 2) fX) fX) (gG (fV (iB (fV (gk gi (gk gi (cv 2) fX) fX) (fV (cv 1) (fV fX fY)))) fY))) (gk gi (gk gi (cv 2) fX) fX))))
   gA)
  (fW (gM (gq iO (gk gB (cv 0) fX) (gG (jh (xs:=["rec","row"]) gL)) rfl)
   (f9 (jX Mh rfl (ke (iY kR (cv 2) (jF fX) jE)) (pN (i:=4) kg.nd)
    (f9 (pS (i:=3) kg.nd (gP oH (cv 3) (gk gi (cv 4) fX))))))
   gA)
  (f9 (gC (cv 3)))))))))),?_⟩;refine Hz7 ?_;intros;refine eaa (kQ it) fun ys j iy=>?_;refine⟨p7,fun a0 ha0=>?_⟩;have S0:=gb ha0 (.lst []);dsimp only[gU];have sl:=L9;have M0:Mi H t lp p [] [some (.ref t),some (.int p),some (.ref lp),some (.ref a0),none] (upd H a0 (.lst [])):=⟨a0,none,[],rfl,S0,ha0,f7,.nil⟩;generalize upd H a0 (.lst [])=H0 at S0 M0⊢;have tk:=(B.same S0).take 2;have sp:∀n,ets es=ets (es.take n)++ets (es.drop n):=fun n=>by
  conv=>lhs;rw[<-b9 n es]
  unfold ets;rw[bq,cA]
 have l2:=congrArg aK (sp 2);rw[aR]at l2;refine z7 (fun Q k=>⟨_,rfl,lp,ws,rfl,NT (S0 _ _ C),fun b hb=>k b _ (gb hb _) (by rw[show nO ws none (some 2)=ws.take 2 from Di];exact f7)⟩) tk.1 M0 (by show 0+_<=_;lia) fun σ1 H1 d=>?_;rw[bV]at d;have v:=d.S;have y:∀{L:List (Int×Int×Int)} {σ:St} {D:Hp},Mi H t lp p L σ D->L=u->∀a A M,gJ H A->A a=some (.lst M)->Ims A M (L.map meD)->Q (.ref a) A:=fun _ e a A M S ea i=>q a A M S ea (e▸i)
 cases c with
 |num|fn|name _=>exact ni (hσ:=d.h0) (v _ _ j) fun D l=>ni (hσ:=d.h0) ((v.trans l) _ _ j) fun J x=>uV j (d.mono (l.trans x)) (y d rfl)
 |tag _=>exact ni (hσ:=d.h0) (v _ _ j) fun D l=>ni (hσ:=d.h0) ((v.trans l) _ _ j) fun J x=>uV j (d.mono (l.trans x)) (y d (aF _).symm)
 |lt _ _=>exact ni (hσ:=d.h0) (v _ _ j) fun D l=>ni (hσ:=d.h0) ((v.trans l) _ _ j) fun J x=>uV j (d.mono (l.trans x)) (y d (by simp[ets]))
 |get _ _ _|size _ _ _=>exact yi (hσ:=d.h0) (v _ _ j) fun D l=>n1 (hσ:=d.h0) ((v.trans l) _ _ j) (uU C B rfl (d.mono l) (by show(ets _).length<=_;lia) fun σ3 J W=>ni (hσ:=W.h0) (W.S _ _ j) fun H4 U=>uV j (W.mono U) (y W rfl))
 |@ix _ _ _ _ _ e f g=>
  have l3:(ets [e,f]).length+g.t.length<=1000000:=by have:ets [e,f,g]=ets [e,f]++g.t:=oE [e,f] g;rw[this,aR]at O;exact O
  exact yi (hσ:=d.h0) (v _ _ j) fun D l=>y1 (hσ:=d.h0) ((v.trans l) _ _ j) (Jw C B rfl (d.mono l) (by show(ets [e,f]).length+_<=_;lia) fun σ3 J W=>uU C B rfl W (by rw[aR];show(ets [e,f]).length+_<=_;lia) fun X H4 z=>yi (hσ:=z.h0) (z.S _ _ j) fun H5 R=>uU C B rfl (z.mono R) (by rw[aR,aR];show(ets [e,f]).length+_+ 1<=_;lia) fun σ6 H6 M6=>uV j M6 (y M6 (by simp[ets])))
 |@two o s _ _ _ e f _ _ ho=>
  have fs:inV (.str o) ((["call","get","size","at","join","add","sub","less"]:Zd).map V.str)=true/\decide (o="at")=false/\inV (.str o) ((["at","join","add","sub","less"]:Zd).map V.str)=true/\decide (o="call")=false/\decide (o="case")=false/\inV (.str o) ((["rec","row"]:Zd).map V.str)=false:=by rcases ho with⟨rfl,_⟩|⟨rfl|rfl|rfl,_⟩<;>exact⟨O1,O1,O1,O1,O1,O1⟩
  refine eam fs fun f1 f2 f3 f4 f5 f6=>?_;exact qw d.h0 (v _ _ j) O3 f1 fun D l=>i9 d.h0 ((v.trans l) _ _ j) f2 (uU C B rfl (d.mono l) (by show(ets [e,f]).length<=_;lia) fun X H4 z=>qw z.h0 (z.S _ _ j) O3 f3 fun H5 R=>uU C B rfl (z.mono R) (by rw[aR];show(ets [e,f]).length+ 1<=_;lia) fun σ6 H6 M6=>uV j M6 (y M6 O4) f4 f5 f6)
 |@call _ _ _ _ _ e f g=>
  have l3:(ets [e,f]).length+g.t.length<=1000000:=by have:=oE [e,f] g;rw[this,aR]at O;exact O
  exact yi (hσ:=d.h0) (v _ _ j) fun D l=>n1 (hσ:=d.h0) ((v.trans l) _ _ j) (uU C B rfl (d.mono l) (by show(ets [e,f]).length<=_;lia) fun X H4 z=>ni (hσ:=z.h0) (z.S _ _ j) fun H5 R=>y1 (hσ:=z.h0) ((z.mono R).S _ _ j) (E9 C B rfl (z.mono R) (by rw[aR];show(ets [e,f]).length+ 1+_<=_;lia) fun a M H6 S6 _ _ ea i=>q a H6 M S6 ea i))
 |@case _ _ _ _ _ _ e f=>
  refine ni (hσ:=d.h0) (v _ _ j) fun D l=>ni (hσ:=d.h0) ((v.trans l) _ _ j) fun J x=>i9 d.h0 ((v.trans (l.trans x)) _ _ j) O1 (tM d.h0 ((v.trans (l.trans x)) _ _ j) O1 ?_);obtain⟨a,o,M,rfl,S,n,ea,i⟩:=d.mono (l.trans x);have N:=B.same S
  cases N with|cons h1 N=>cases N with|cons h2 _=>
  obtain⟨a1,l1,Y,b1,c1,i1⟩:=h1;obtain⟨a2,l2',x2,b2,c2,i2⟩:=h2;have lx1:=i1.length;have lx2:=i2.length;rw[aE]at lx1 lx2;have l3:e.t.length+f.t.length<=1000000:=by
   have:ets ([e]++[f])=e.t++f.t:=by simp[ets]
   rw[this,aR]at O;exact O
  have e3:=S _ _ C;refine⟨_,e3,gf (fZ rfl) ⟨_,b1,gf (fZ rfl) ⟨_,e3,gf (fZ rfl) ⟨_,b1,gf (fZ rfl) ⟨lC,fun r hr=>⟨se,fun r2 hr2=>?_⟩⟩⟩⟩⟩⟩;have I:=gb hr (.tup [.int e.m,.int p,.int 0]);have F:=gb hr2 (.lst [.ref r]);have i3:=(oa hr (.cons (.flat rfl) (.cons (.flat rfl) (.cons (.flat rfl) .nil)))).mono (gJ.tk F);have e4:=F _ _ (I _ _ e3);have b1':=F _ _ (I _ _ b1);have b2':=F _ _ (I _ _ b2);have c1':=F _ _ (I _ _ c1);have c2':=F _ _ (I _ _ c2);have i1':=i1.mono (gJ.tk (I.trans F));have Z:=i2.mono (gJ.tk (I.trans F));have U:=S.trans (I.trans F);have er2:(upd (upd J r (.tup [.int e.m,.int p,.int 0])) r2 (.lst [.ref r])) r2=some (.lst [.ref r]):=f7;generalize upd (upd J r (.tup [.int e.m,.int p,.int 0])) r2 (.lst [.ref r])=H5 at i3 e4 b1' b2' c1' c2' i1' Z U er2⊢;refine io l1 r2 Y ([.ref r]) ⟨rfl,rfl,c1',er2,by show Y.length+ 1<=_;lia,fun r3 hr3=>?_⟩;have T3:=gb hr3 (.lst (Y++[.ref r]));refine⟨_,T3 _ _ e4,gf (fZ rfl) ⟨_,T3 _ _ b2',gf (fZ rfl) (io r3 l2' _ x2 ⟨rfl,rfl,f7,T3 _ _ c2',by rw[aR];show Y.length+ 1+_<=_;lia,fun r4 hr4=>?_⟩)⟩⟩;have T4:=gb hr4 (.lst (Y++[.ref r]++x2));refine q r4 _ _ (U.trans (T3.trans T4)) f7 ?_;rw[bq,bq];have:=((i1'.app (.cons i3 .nil)).app Z).mono (gJ.tk (T3.trans T4));rw[show ets [e]=e.t from aF _];exact this
 |rcd _|row _=>exact ni (hσ:=d.h0) (v _ _ j) fun D l=>ni (hσ:=d.h0) ((v.trans l) _ _ j) fun J x=>i9 d.h0 ((v.trans (l.trans x)) _ _ j) O1 (i9 d.h0 ((v.trans (l.trans x)) _ _ j) O1 (qw d.h0 ((v.trans (l.trans x)) _ _ j) O3 O1 fun H4 U=>G5 C B (d.mono (l.trans (x.trans U))) O2 fun σ5 H5 M5=>Jy M5 (by rw[aF];exact(sp 2).symm) q))
def rwG (G:Gl) (p:Int):Ro:=match atZ G p with
 |some x=>x.1
 |none=> .num 0
def Fc(h:rwA G p ρ):rwG G p=ρ/\∃(k:Nat) (g:Str->Option Hm),p=(k:Int)/\G[k]?=some (ρ,g):=by refine eah h fun k g a e=>?_;subst a;exact⟨by unfold rwG;rw[show atZ G (k:Int)=G[k]? from rfl,e],k,g,rfl,e⟩
def uW{b:Ro} (c:Ims H xs (G.map fun x=>x.1.d)) (h:rwA G p b):∃(j:Nat) (t:Zx),p=(j:Int)/\xs[j]?=some (.ref t)/\Im H (.ref t) b.d/\∃g,G[j]?=some (b,g):=by
 refine eah h fun j g k e=>?_;subst k;have l:=c.length;rw[aE]at l;obtain⟨y,f⟩:∃y,xs[j]?=some y:=⟨_,bE (by have:=(av.mp e).1;lia)⟩;refine eaa (jA c f) fun d i a=>?_;rw[aP,e]at i;cases i;have a:=a;obtain⟨t,rfl⟩:∃t,y= .ref t:=by unfold Ro.d at a;cases a;exact⟨_,rfl⟩
 exact ii j t ⟨rfl,f,a,g,e⟩
def yY(h:H a=some (.lst xs)) (g:xs.all nG=true) (i:ys.length<=100) (f:ys.all nG=true) (e:BC xs ys=true) (q:∀d,gJ H d->Q (.bl true) d) (b:Zx) (c:H b=none):LN K false (.ref a) (.ref b) (upd H b (.lst ys)) Q:=
 (io a b xs ys ⟨rfl,rfl,NT (gb c _ _ _ h),NT f7,g,f,by rw[e];exact q _ (gb c _)⟩)
def wc (l:Zd):(l.map V.str).all nG=true:=by rw[bC];exact bD.mpr fun _ _=>rfl
def Jz {K:Zp} {D:ny} {X Y Z U W X2 Y2:TS} {s:Str} {t:Zx} (hσ:σ[3]?=some (some (.ref t))) (et:H t=some (.tup (.str s::ys))) (q:∀H',gJ H H'->D.rt (.bl true) H') (h0:inV (.str s) ((["add","sub","less"]:Zd).map V.str)=false:=by kernel_rfl) (h1:decide (s="join")=false:=by kernel_rfl) (h2:decide (s="at")=false:=by kernel_rfl) (h3:decide (s="size")=false:=by kernel_rfl) (h4:decide (s="get")=false:=by kernel_rfl) (h5:decide (s="call")=false:=by kernel_rfl) (h6:decide (s="case")=false:=by kernel_rfl):pZ (qD (cT (tOp (rIn K false) (tOp zu (cV 3) (tC (.int 0))) (AS (vh ["add","sub","less"])))) X jW) (pZ (qD (hdT 3 "join") Y jW) (pZ (qD (hdT 3 "at") Z jW) (pZ (qD (hdT 3 "size") U jW) (pZ (qD (hdT 3 "get") W jW) (pZ (qD (hdT 3 "call") X2 jW) (pZ (qD (hdT 3 "case") Y2 jW) (Eh (tC (.bl true))))))))) D σ H:=
 nF hσ et O3 h0 fun H2 S2=>i9 hσ (S2 _ _ et) h1 (i9 hσ (S2 _ _ et) h2 (i9 hσ (S2 _ _ et) h3 (i9 hσ (S2 _ _ et) h4 (i9 hσ (S2 _ _ et) h5 (i9 hσ (S2 _ _ et) h6 (q _ S2))))))
def Dj{l:Zd} (h:x∈l):inV (.str x) (l.map V.str)=true:=by unfold inV;rw[List.any_map];exact bj.mpr ⟨x,h,by unfold eqV;simp⟩
def JA{l:List (Str×Str×Int)} (f:Ims H xs (l.map amD)) (h:xs[j]?=some v) (S:gJ H H'):∃y z,l[j]?=some y/\v= .ref z/\H' z=some (.tup [.str y.1,.str y.2.1,.int y.2.2]):=by
 refine eaa (jA f h) fun d b a=>?_;rw[aP]at b;refine eaa (dA.mp b) fun y g c=>?_;subst c;unfold amD at a
 cases a with|tup e i=>cases i with|cons n i=>cases i with|cons m i=>cases i with|cons k i=>cases n;cases m;cases k;cases i;exact ii y _ ⟨g,rfl,S _ _ e⟩
noncomputable def JT (H:Hp) (a:Zd) (b:Int):V->Bool
 | .ref z=>match H z with
  |some (.tup [.str w,_,.int c])=>inV (.str w) (a.map V.str)&&decide (c=b)
  |_=>false
 |_=>false
inductive XFt (vs:List V) (H:Hp) (Q:VK):Prop
 |mk (rl lp:Zx) (k:Nat) (ρ:Ro) (g:Str->Option Hm) (m:Int) (G:Gl) (nd:Int->Prop) (es:List Ent) (ws xs:List V) (u:List (Int×Int×Int)) (e:vs=[.ref rl,.int (k:Int),.ref lp]) (er:H rl=some (.lst xs)) (ir:Ims H xs (G.map fun x=>x.1.d)) (hk:G[k]?=some (ρ,g)) (hu:∀x∈G,U0 x.1) (hw:∀x∈G,Wok x.1) (el:H lp=some (.lst ws)) (ie:EnL H ws es) (c:Cmt G nd ρ k m es u) (hr:∀e∈es,∃τ,rwA G e.m τ) (hl:es.length<=100) (q:∀H',gJ H H'->Q (.bl true) H')
def Lr:Sp:=fun a H Q _=>XFt a H Q
def xP (T:Txt K mg):FO P w base 2 T.d55 Lr:=by
 refine T.d55.F.rd kj fun cdv A0 outer s H vs Q E hr h=>?_;obtain⟨rl,lp,k,ρ,g,m,G,nd,es,ws,xs,u,rfl,er,ir,hk,hu,hw,el,ie,c,hm,hl,q⟩:=h;refine HzX ?_;intro _;refine⟨_,(fW (pS (i:=3) kj.nd (gk gi (cv 0) (cv 1)))
  (fW (vv (j:=4) rfl (Hj ["_law_rows"] [("_law_rows",0,s.heap.objs.size+ 1)]) (ke (cv 2)) (fun _ _ _ _ _=>kS) (fun _ _ _ _ _=>(pF T.d54 (qz T) hr.m (fV (gk gi (cv 1) (gk gi (cv 0) fX)) fY))) kj.nd rfl (.inl rfl))
  (fW (gM (gq iO (gk gB (cv 3) fX) (gG (jh (xs:=["add","sub","less"]) gL)) rfl)
   (f9 (gC (iV (sF hr.units0) (cv 4) (gG (jh (xs:=["num","num"]) gL)))))
   gA)
  (fW (gM (gq iA (gk gB (cv 3) fX) gh)
   (f9 (gC (iV (sF hr.units0) (cv 4) (gG (jh (xs:=["row","row"]) gL)))))
   gA)
  (fW (gM (gq iA (gk gB (cv 3) fX) gh)
   (f9 (gC (iV (sF hr.units0) (iY kR (cv 4) jE (jF fX)) (gG (jh (xs:=["row","num"]) gL)))))
   gA)
  (fW (gM (gq iA (gk gB (cv 3) fX) gh)
   (f9 (gC (iV (sF hr.units0) (cv 4) (gG (jh (xs:=["row"]) gL)))))
   gA)
  (fW (gM (gq iA (gk gB (cv 3) fX) gh)
   (f9 (gC (nB (iV (sF hr.units0) (cv 4) (gG (jh (xs:=["rec"]) gL))) (nA (iV iO (gk gB (cv 3) fX) (qG rfl (DM rfl gL gL rfl rfl) (qd (gk gB (gk gi (cv 0) (gk gi (gk gi (cv 2) fX) fX)) fX)) (fun _ _ _ _ _=>kS) (fun _ _ _ _ _=>(gk gB (cv 0) fX))) rfl)))))
   gA)
  (fW (gM (gq iA (gk gB (cv 3) fX) gh)
   (f9 (gC (nB (iV (sF hr.units0) (iY kR (cv 4) jE (jF fX)) (gG (jh (xs:=["fn"]) gL))) (nA (iV iA (gk gi (gk gi (cv 2) fX) fX) (gk gB (gk gi (cv 0) (gk gi (gk gi (cv 2) fX) fX)) fX))))))
   gA)
  (fW (gM (gq iA (gk gB (cv 3) fX) gh)
   (fW (pS (i:=5) kj.nd (gG (jh (xs:=["yes","no"]) gL)))
   (fW (gM (gq iA (gk gi (cv 4) fX) gh)
    (f9 (pS (i:=5) kj.nd (gG (fV (gk gB (gk gi (cv 0) (gk gi (gk gi (cv 2) fX) fX)) fX) fY))))
    gA)
   (fW (vv (j:=6) rfl (Hj ["_law_tags","_law_parts"] [("_law_tags",5,s.heap.objs.size+ 3),("_law_parts",2,s.heap.objs.size+ 2)]) (qd (gk gB (cv 3) fX)) (fun _ _ _ _ _=>(yg (PW.pt (nK (gq (r:=rIn K false) iO (gk gB (cv 0) fX) (cv 1) rfl) (mD (gq iA (gk gB (cv 0) fX) (gk gi (gk gi (cv 2) fX) fX))))))) (fun _ _ _ _ _=>(cv 0)) kj.nd rfl (.inl rfl))
   (f9 (gC (nB (iV iO (gk gi (cv 4) fX) (gG (jh (xs:=["tag","less"]) gL)) rfl) (nA (iV qJ (gN gH rfl T.z_len iN (fV (cv 6) fY)) fX))))))))
   gA)
  (f9 (gC qa))))))))))),?_⟩;refine Hz9 ?_;intros;have sl:=L9;refine eaj (uW ir (ii k g ⟨rfl,hk⟩)) fun _ t ek hx0 it _=>?_;cases Int.ofNat.inj ek;refine⟨_,er,gf (fZ hx0) ?_⟩;dsimp only[gU];have lw:=ie.length;refine⟨lp,rfl,⟨_,NT el⟩,fun D hD=>?_⟩;refine Ee (A:=fun H v (x:Ent)=>EnA H v x) (g:=fun x:Ent=>V.str (mkR (rwG G x.m))) (l:=es) (fun i v Y hv C=>?_) O2 hD rfl (fun j Y C W=>zm el C O2) (fun Y C=>by rw[<-lw];exact zo el C) (fun j Y v U C y=>⟨y.1,y.2 _ (NT (C _ _ el))⟩) (fun e v Y R he C a k=>?_) fun H1 S1 M=>?_;·refine eaa (ie.get hv) fun e h1 h2=>?_;exact⟨e,h1,h2.same C⟩
 ·obtain⟨b,l,zs,I,_,_⟩:=a;obtain⟨τ,hτ⟩:=hm e he;refine eaq (uW ir hτ) fun j t'=>fam fun ej W it'=>faa fun g' eg=>?_;refine⟨_,I,gf (fZ rfl) ⟨_,C _ _ er,?_⟩⟩;rw[ej];refine gf (fZ W) ⟨t',τ,rfl,it'.mono (gJ.tk C),hu _ (aQ eg),fun U J=>?_⟩;have:=k U J;rw[(Fc hτ).1]at this;exact this
 dsimp only[gU];have er1:=S1 _ _ er;have el1:=S1 _ _ el;have it1:=it.mono (gJ.tk S1);refine eaa (kQ it1) fun ys B iy=>?_;rw[show es.map (fun x:Ent=>V.str (mkR (rwG G x.m)))=(es.map fun x=>mkR (rwG G x.m)).map V.str by rw[bH];rfl]at M;have fm:=wc (es.map fun x=>mkR (rwG G x.m));have qq:∀O,gJ H1 O->Q (.bl true) O:=fun O S=>q O (S1.trans S);have L:∀{p:Int} {τ:Ro},rwA G p τ->mkR (rwG G p)=mkR τ:=fun h=>congrArg mkR (Fc h).1;have eL:∀H2,gJ H1 H2->H2 D=_:=fun H2 S=>S _ _ M
 cases c with
 |num|fn|name _|tag _|lt _ _|rcd _|row _=>exact Jz rfl B qq
 |@two o s _ _ _ e f _ _ ho _ _ r k r2 k2=>
  have N:=L r;have e2:=L r2;rw[k]at N;rw[k2]at e2;simp only[aD,aW,N,e2]at M fm;rcases ho with⟨rfl,rfl⟩|⟨ho,rfl⟩;·exact ni B fun H2 d=>y1 (d _ _ B) ⟨lJ,fun b I=>yY (d _ _ M) fm O3 O1 O1 (fun O S=>qq O (d.trans S)) b I⟩
  ·have a0:inV (.str o) ((["add","sub","less"]:Zd).map V.str)=true:=by rcases ho with rfl|rfl|rfl<;>kernel_rfl
   exact qw rfl B O3 a0 fun H2 d=>⟨lJ,fun b I=>yY (d _ _ M) fm O3 O1 O1 (fun O S=>qq O (d.trans S)) b I⟩
 |@size _ _ e ρ _ r k=>have N:=L r;rw[k]at N;simp only[aD,aW,N]at M fm;exact ni B fun H2 d=>n1 (d _ _ B) (n1 (d _ _ B) (y1 (d _ _ B) ⟨se,fun b I=>yY (d _ _ M) fm O3 O1 O1 (fun O S=>qq O (d.trans S)) b I⟩))
 |@ix _ _ _ _ _ e f g ρ τ _ _ _ r k r2 k2=>have N:=L r;have e2:=L r2;rw[k]at N;rw[k2]at e2;simp only[aD,aW,N,e2]at M fm;refine ni B fun H2 d=>n1 (d _ _ B) (y1 (d _ _ B) ⟨_,rfl,D,_,rfl,NT (d _ _ M),fun p hp=>⟨lJ,fun b I=>?_⟩⟩);have T:=gb hp (.lst (nO [.str "row",.str "num",.str (mkR (rwG G g.m))] none (some 2)));exact yY f7 O1 O3 O1 O1 (fun O S=>qq O ((d.trans T).trans S)) b I
 |@get _ _ _ w0 e l _ r hx=>
  have N:=L r;rw[show mkR (.rcd l)="rec" from rfl]at N;simp only[aD,aW,N]at M fm
  cases iy with|cons _ iy=>cases iy with|cons h2 iy=>
  cases h2;refine eaq (uW ir r) fun j t2=>fam fun ej W Z=>faa fun g2 eg=>?_;have lw0:=hw _ (aQ eg);refine eaa (kQ Z) fun zs et2 iz=>?_
  cases iz with|cons h3 _=>
  cases h3 with|tup e4 i4=>
  cases ie with|cons I _=>
  obtain⟨b1,l1,x1,hc,_,_⟩:=I;refine ni B fun H2 d=>n1 (d _ _ B) (n1 (d _ _ B) (n1 (d _ _ B) (y1 (d _ _ B) ⟨se,fun b I=>yY (d _ _ M) fm O3 O1 O1 (fun Y C=>⟨true,rfl,iK ?_⟩) b I⟩)));have X:=d.trans C;have n:=S1.trans X;refine⟨_,X _ _ B,gf (fZ rfl) ⟨_,n _ _ el,gf (fZ rfl) ?_⟩⟩;refine⟨_,n _ _ hc,gf (fZ rfl) ?_⟩;refine⟨_,n _ _ er,?_⟩;rw[ej];refine gf (fZ W) ⟨_,n _ _ et2,gf (fZ rfl) ⟨_,rfl,⟨_,NX (n _ _ e4)⟩,fun D2 hD2=>?_⟩⟩;refine vN (g:=fun x:Str×Int=>x.1) (n _ _ e4) (i4.mono (gJ.tk n)) lw0 hD2 rfl (fun x v H R a k=>?_) fun U J e5=>(ii D2 _ ⟨rfl,.inl (NT e5),rfl,wc _,?_⟩);·refine eaA (pT a) fun p y1 y2 z0 ep i1 i2=>?_;subst z0;cases i1;exact⟨_,ep,gf (fZ rfl) k⟩
  ·rw[Dj hx];exact qq _ (X.trans J)
 |@call _ _ _ _ w0 e f g _ _ r h3=>
  have N:=L r;rw[show mkR (.fn w0 _)="fn" from rfl]at N;simp only[bq,aD,aW,N,aU,bV]at M fm;refine eaq (uW ir r) fun j t2=>fam fun ej W Z=>faa fun g2 eg=>?_;refine eaa (kQ Z) fun zs et2 iz=>?_
  cases iz with|cons _ iz=>cases iz with|cons h3 _=>
  cases h3
  cases ie with|cons I ie=>cases ie with|cons _ ie=>cases ie with|cons hg _=>obtain⟨b1,l1,x1,hc,_,_⟩:=I;obtain⟨b3,l3,x3,hg,_,_⟩:=hg;refine ni B fun H2 d=>n1 (d _ _ B) (n1 (d _ _ B) (n1 (d _ _ B) (n1 (d _ _ B) (y1 (d _ _ B) ⟨_,rfl,D,_,rfl,NT (d _ _ M),fun p hp=>⟨se,fun b I=>?_⟩⟩))));have T:=gb hp (.lst (nO [.str "fn",.str (mkR (rwG G f.m)),.str (mkR (rwG G g.m))] none (some 1)));refine yY f7 O1 O3 O1 O1 (fun Y C=>⟨true,rfl,iK ?_⟩) b I;have X:=(d.trans T).trans C;have n:=S1.trans X;refine⟨_,n _ _ el,gf (fZ rfl) ⟨_,n _ _ hg,gf (fZ rfl) ?_⟩⟩;refine⟨_,n _ _ el,gf (fZ rfl) ?_⟩;refine⟨_,n _ _ hc,gf (fZ rfl) ?_⟩;refine⟨_,n _ _ er,?_⟩;rw[ej];refine gf (fZ W) ⟨_,n _ _ et2,gf (fZ rfl) ?_⟩;show Q (.bl (false ^^ decide (g.p=_))) _;rw[gT h3];exact qq _ X
 |@case _ _ b l tg x e f ρ _ r kk hx h2=>
  have N:=L r;have mk2:(∃z,mkR ρ="tag"/\ρ= .tag tg z)\/(mkR ρ="less"/\tg∈(["yes","no"]:Zd)):=by
   rcases kk with⟨a',rfl⟩|⟨hy,ks,rfl⟩;·exact .inl ⟨a',rfl,rfl⟩
   ·exact .inr ⟨O1,by rcases hy with rfl|rfl<;>simp⟩
  simp only[bq,aD,aW,N,aU,bV]at M fm
  cases iy with|cons _ iy=>cases iy with|cons h2 iy=>
  cases h2 with|tup ea ia=>
  cases ie with|cons I ie=>cases ie with|cons hg _=>
  obtain⟨b1,l1,x1,hc,_,_⟩:=I;obtain⟨b3,l3,x3,hg,_,_⟩:=hg;refine ni B fun H2 d=>n1 (d _ _ B) (n1 (d _ _ B) (n1 (d _ _ B) (n1 (d _ _ B) (n1 (d _ _ B) (y1 (d _ _ B) ⟨lJ,fun p5 h5=>?_⟩)))));have T5:=gb h5 (.lst ((["yes","no"]:Zd).map V.str));dsimp only[gU];refine pU (fun σ' O=>∃(p:Zx) (F:Zd),σ'=[some (.ref rl),some (.int k),some (.ref lp),some (.ref t),some (.ref D),some (.ref p),none]/\gJ H1 O/\O p=some (.lst (F.map V.str))/\tg∈F) ?_ ?_;rotate_left
  ·intro D' hD';refine⟨_,T5 _ _ (d _ _ M),gf (fZ rfl) ?_⟩;show if(false ^^ decide (mkR ρ="tag"))=true then _ else _;rcases mk2 with⟨z,m1,rfl⟩|⟨m1,m2⟩
   ·rw[m1,gT rfl];refine eaq (uW ir r) fun j t2=>fam fun ej W Z=>faa fun g2 eg=>?_;refine eaa (kQ Z) fun zs et2 iz=>?_
    cases iz with|cons h3 _=>cases h3;have n:=S1.trans (d.trans T5);refine iK ⟨_,n _ _ el,gf (fZ rfl) ?_⟩;refine⟨_,n _ _ hc,gf (fZ rfl) ?_⟩;refine⟨_,n _ _ er,?_⟩;rw[ej];exact gf (fZ W) ⟨_,n _ _ et2,gf (fZ rfl) ⟨se,fun p hp=>hD' _ _ (ii p ([tg]) ⟨rfl,(d.trans T5).trans (gb hp _),f7,bo.mpr rfl⟩)⟩⟩
   ·rw[m1,hV gL];exact ij (hD' _ _ (ii p5 (["yes","no"]) ⟨rfl,d.trans T5,f7,m2⟩))
  refine fun _ Y=>fao fun p F z0 C ep hin=>?_;subst z0;refine⟨_,C _ _ B,gf (fZ rfl) ⟨_,rfl,⟨_,NX (C _ _ ea)⟩,fun D2 hD2=>?_⟩⟩;have lc:l.length<=100:=hw _ (aQ hk);have lz:=ia.length;rw[aE]at lz;have arm:∀{j:Nat} {v:V} {U:Hp},_->gJ Y U->∃(y:Str×Str×Int) (z:Zx),l[j]?=some y/\v= .ref z/\U z=some (.tup [.str y.1,.str y.2.1,.int y.2.2]):=fun{j v U} hv S=>JA ia hv (C.trans S);refine EC (JT Y F f.p) id hD2 O2 rfl (fun j U J W=>zp (C _ _ ea) J W) (fun j U v H5 J _ y=>⟨y.1,y.2 _ (NX (J _ _ (C _ _ ea)))⟩) (fun U J=>zq (C _ _ ea) J) (fun j v U R hv J k=>?_) (fun j v U R hv _ J k=>k) fun U J e4=>?_
  ·refine eap (arm hv (gJ.refl Y)) fun y z _ z0 ez=>?_;subst z0;refine⟨_,J _ _ ez,gf (fZ rfl) (ii p _ ⟨rfl,.inl (NT (J _ _ ep)),rfl,wc _,?_⟩)⟩;unfold JT at k;dsimp only at k;rw[ez]at k;dsimp only at k;show if inV (.str y.1) (F.map V.str)=true then _ else _
   cases hv1:inV (.str y.1) (F.map V.str)with
   |false=>rw[hv1]at k;exact ij k
   |true=>rw[hv1]at k;refine iK ⟨_,J _ _ ez,gf (fZ rfl) ⟨_,J _ _ ((S1.trans C) _ _ el),gf (fZ rfl) ⟨_,J _ _ ((S1.trans C) _ _ hg),gf (fZ rfl) ?_⟩⟩⟩;show R (false ^^ decide (y.2.2=f.p)) U;rw[fj];exact k
  ·rw[List.map_id]at e4;dsimp only[gU];obtain⟨j,W⟩:=cu hx;obtain⟨v,hv⟩:∃v,_=some v:=⟨_,bE (by rw[lz];exact(av.mp W).1)⟩;refine eap (arm hv (gJ.refl Y)) fun y z hy z0 ez=>?_;subst z0;rw[W]at hy;cases hy;have pv:JT Y F f.p (.ref z)=true:=by unfold JT;dsimp only;rw[ez];dsimp only;rw[Dj hin,h2,gT rfl];rfl
   have ln:=List.length_pos_of_mem (af.mpr ⟨aQ hv,pv⟩);refine⟨_,J _ _ (C _ _ M),gf (fZ rfl) ⟨lJ,fun p6 h6=>(ii p6 _ ⟨rfl,.inl (NT f7),rfl,O1,?_⟩)⟩⟩;have T6:=gb h6 (.lst ((["tag","less"]:Zd).map V.str));refine⟨true,?_,iK (ii D2 _ ⟨rfl,.inl (NT (T6 _ _ e4)),?_⟩)⟩;·rcases mk2 with⟨z,m1,_⟩|⟨m1,_⟩<;>rw[m1]<;>kernel_rfl
   ·show Q (.bl (decide (_>(0:Int)))) _;rw[gT O2];exact qq _ ((C.trans J).trans T6)
structure Ch (CP:Zx) (H:Hp) (g lh nl tl rl dx:Zx) (rwv ys:List V) (ns:Zd) (rs:List Nat) (ρs:List Ro) (ho:Nat->Option Hm):Prop where
 pr:PrA CP H g nl tl rl dx rwv ns rs ρs
 el:H lh=some (.lst ys)
 ho:∀(k:Nat) (ρ:Ro),ρs[k]?=some ρ->∃y,ys[k]?=some y/\Im H y (hoD (ho k))
theorem Ch.same {n:Zx} {g j i d f m:Zx} {c:List V} {l:Nat->Option Hm} (h:Ch n H g j i d f m c ys ns rs ρs l) (S:gJ H H'):Ch n H' g j i d f m c ys ns rs ρs l:=⟨h.pr.same S,S _ _ h.el,fun k o e=>let⟨y,a,b⟩:=h.ho k o e;⟨y,a,b.mono (gJ.tk S)⟩⟩
def ThD (H:Hp) (c:Zx) (b:List (Int×Int)):Prop:=∃a:List (List Key×V),H c=some (.dT a)/\a.length<=b.length/\∀x∈b,∃v,jL a [Mv x.1,Mv x.2]=some v
inductive XNm (C:Zx) (vs:List V) (H:Hp) (Q:VK):Prop
 |mk (g lh nl tl rl dx st td pt:Zx) (rwv ys us:List V) (ns:Zd) (rs:List Nat) (ρs:List Ro) (ho:Nat->Option Hm) (k:Nat) (m:Int) (L:List Ent) (ha:List (Int×Int)) (e:vs=[.ref g,.ref lh,.ref st,.ref td,.ref pt]) (ch:Ch C H g lh nl tl rl dx rwv ys ns rs ρs ho) (hk:k<ρs.length) (es:H st=some (.lst us)) (ie:EnL H us L) (et:ThD H td ha) (ep:H pt=some (.tup [.int k,.int m])) (n:Nd rs L ha (ho k) m) (q:∀H',gJ H H'->Q (.bl true) H')
def Lu (C:Zx):Sp:=fun a H Q _=>XNm C a H Q
def we (T:Txt K mg):FO P w base 1 T.d57 (Lu T.c7.a):=by
 refine T.d57.F.rd qi fun cdv A0 o s H vs Q E F h=>?_;have hu:=tY F;obtain⟨g,lh,nl,tl,rl,dx,O,N,pt,R,ys,M,ns,rs,J,ho,k,m,L,ha,rfl,n,hk,I,D,et,C,⟨x,hx,X,W⟩,q⟩:=h;refine HzX ?_;intro _;refine⟨_,(fW (pS (i:=5) qi.nd (gk gi (cv 1) (gk gB (cv 4) fX)))
  (fW (gM (gq iA (gk gB (cv 5) fX) gh)
   (f9 (gC (nB (iV uc (gk gB (cv 5) fX) (gN gH rfl T.z_len iN (fV (cv 2) fY))) (nA (iV (sF F.units0) (iY kR (gk gi (cv 2) (gk gB (cv 5) fX)) jE (jF fX)) (gG (fV (gk gi (gR T.c7.cl T.n7roots (cv 0)) (gk gB (cv 5) fX)) (fV (gk gB (cv 4) fX) fY))))))))
   gA)
  (fW (gM (gq iA (gk gB (cv 5) fX) gh)
   (f9 (gC (AY (zh hu (iB (fV (gk gB (cv 5) fX) (fV (gk gB (cv 4) fX) fY))) (cv 3)) rfl)))
   gA)
  (f9 (gC qa))))),?_⟩;refine Hz3 ?_;intros;have sl:=L9;refine eaa (n.ho k _ (bE hk)) fun y Z a=>?_;rw[hx]at a
 cases a with|tup e a=>cases a with|cons h1 a=>cases a with|cons h2 a=>
 cases h1;cases h2;cases a;refine⟨_,C,gf (fZ rfl) ⟨_,n.el,gf (fZ Z) ?_⟩⟩;dsimp only[gU];by_cases z:x.1="def"
 ·refine eai (X z) fun d r t j A G=>?_;obtain⟨v,u,⟨b,l,zs,hb,_,_⟩⟩:=D.at G;have lu:=D.length;have dl:=(av.mp G).1;refine tM rfl e (gT z) ⟨_,e,gf (fZ rfl) (ii O _ ⟨rfl,.inl (NT I),?_⟩)⟩;show ∃c,V.bl (decide (x.2<(M.length:Int)))= .bl c/\_;refine⟨true,by rw[j,gT O2],iK ⟨_,e,gf (fZ rfl) ⟨_,I,?_⟩⟩⟩;have e2:(V.int x.2)= .int (d:Int):=by rw[j]
  rw[j];refine gf (fZ u) ⟨_,rfl,b,_,rfl,NT hb,fun p f=>?_⟩;have T:=gb f (.lst (nO [.int r,.int m,.ref l] none (some 2)));refine⟨_,(ii _ _ ⟨T _ _ n.pr.o,r6 _ _ _⟩),_,T _ _ e,gf (fZ rfl) ⟨_,T _ _ n.pr.r,?_⟩⟩;rw[j];refine gf (fZ (by rw[aP,A];rfl)) ⟨_,T _ _ C,gf (fZ rfl) ⟨lJ,fun U B=>?_⟩⟩;exact yY f7 rfl (by show 2<=100;decide) rfl (by show(eqV (.int r) (.int r)&&(eqV (.int m) (.int m)&&true))=true;simp[eqV]) (fun H' S=>q H' (T.trans S)) U B
 ·refine i9 rfl e (hV z) ?_;by_cases z2:x.1="let";·refine eak et fun Y ed _ hd=>?_;obtain⟨v,u⟩:=hd _ (W z2);refine tM rfl e (gT z2) ⟨_,e,gf (fZ rfl) ⟨_,C,gf (fZ rfl) ⟨lJ,fun p f=>?_⟩⟩⟩;refine ii N _ ⟨rfl,vc.t (k:=[Mv x.2,Mv m]) (gb f _ _ _ ed) f7,?_⟩;rw[u];exact q _ (gb f _)
  ·exact i9 rfl e (hV z2) (q _ (gJ.refl _))
mutual
theorem Lv {K:Zp}:∀{v:V} {d:Dt},Im H v d->At K H v d
 |v,_,.flat h=> .flat (by cases v<;>first|rfl|cases h)
 |_,_,.tup h hs=> .tup (NX h) (wg hs)
theorem wg {K:Zp}:∀{v:List V} {d:List Dt},Ims H v d->Ats K H v d
 |_,_,.nil=> .nil
 |_,_,.cons h hs=> .cons (Lv h) (wg hs)
end
mutual
theorem Lw:∀{d:Dt},gF d=true->eqD d d=true/\rB d d=true
 | .flat v,h=>by
  cases v with
  |int n=>exact⟨beq_self_eq_true n,rfl⟩
  |str z=>exact⟨beq_self_eq_true z,rfl⟩
  |_=>simp[gF]at h
 | .tup ds,h=>by rw[gF,fg]at h;exact Dl h.2
 | .lst _,h=>by simp[gF]at h
theorem Dl:∀{ds:List Dt},gFs ds=true->yh ds ds=true/\tZ ds ds=true
 |[],_=>⟨rfl,rfl⟩
 |d::ds,h=>by rw[gFs,fg]at h;obtain⟨a,b⟩:=Lw h.1;obtain⟨c,e⟩:=Dl h.2;rw[yh,tZ,a,b,c,e];exact⟨rfl,rfl⟩
end
theorem rm {b:Type} {f:b->Dt} (h:∀a,gF (f a)=true):∀l:List b,gFs (l.map f)=true
 |[]=>rfl
 |a::l=>by rw[aD,gFs,h a,rm h l];rfl
theorem tW{c:Type} {f:c->Dt} (h:∀a,vk (f a)<=b):∀l:List c,i8 (l.map f)<=b
 |[]=>cK _
 |a::l=>by rw[aD,i8];exact Nat.max_le.mpr ⟨h a,tW h l⟩
def G6:(fRn en v me ha bg).lookup ("end":Str)=some en/\(fRn en v me ha bg).lookup ("value":Str)=some v/\(fRn en v me ha bg).lookup ("meets":Str)=some (.ref me)/\(fRn en v me ha bg).lookup ("had":Str)=some (.ref ha)/\(fRn en v me ha bg).lookup ("begun":Str)=some (.int bg):=⟨O1,O1,O1,O1,O1⟩
def G7{c:Type} {f:c->Dt} {l:List c} (i:H a=some (.lst xs)) (h:H b=some (.lst ys)) (e:Ims H xs (l.map f)) (d:Ims H ys (l.map f)) (g:gFs (l.map f)=true) (m:i8 (l.map f)<=9) (q:Q (.bl (!neg)) H):LO K neg (.ref a) (.ref b) H Q:=by
 obtain⟨k,j⟩:=Dl g;refine io a b (.lst (l.map f)) (.lst (l.map f)) ⟨rfl,rfl,.lst (NT i) (wg e),.lst (NT h) (wg d),?_,?_,?_⟩;·rw[rB,ig rfl];exact j
 ·rw[vk];lia
 ·rw[eqD,k];cases neg<;>exact q
def me_g:∀l:List (Int×Int×Int),gFs (l.map meD)=true/\i8 (l.map meD)<=9:=fun l=>⟨rm (fun x=>rfl) l,cF (tW (b:=1) (fun x=>cJ _) l) O3⟩
def JB(h:σ[i]?=some (some x)) (k:Q x H):cV i σ H Q:=by show onV σ[i]? _;rw[h];exact k
theorem qC:∀l:List Int,Ims H (l.map V.int) (l.map kD)
 |[]=> .nil
 |n::l=> .cons (.flat rfl) (qC l)
def k_g (l:List Int):gFs (l.map kD)=true/\i8 (l.map kD)<=9:=⟨rm (fun _=>rfl) l,cF (tW (b:=0) (fun _=>cJ _) l) O3⟩
def ThD.same {b:List (Int×Int)} (S:gJ H H'):ThD H td b->ThD H' td b:=fun⟨a,e,r⟩=>⟨a,S _ _ e,r⟩
structure CmA (nd:Int->Prop) (ρ:Ro) (p m:Int) (es:List Ent):Prop where
 len:es.length=(wi ρ).length+(if inV (.str ρ.s) ((["call","case"]:Zd).map V.str)=true then 1 else 0)
 pl:(es.map Ent.p).take (wi ρ).length=wi ρ
 mr:mkR ρ=""\/m=p
 last:inV (.str ρ.s) ((["let","case","call"]:Zd).map V.str)=false\/∃(l:List Ent) (e:Ent),es=l++[e]/\m=e.m
 nm:decide (ρ.s="name")=false\/es=[]/\nd m
def Cmt.all {G:Gl} {nd:Int->Prop} {p m:Int} {u:List (Int×Int×Int)} (c:Cmt G nd ρ p m b u):CmA nd ρ p m b:=by
 cases c with
 |num|fn=>exact⟨O1,rfl,.inr rfl,.inl O1,.inl O1⟩
 |name h=>exact⟨O1,rfl,.inl rfl,.inl O1,.inr ⟨rfl,h⟩⟩
 |tag h=>exact⟨O1,by rw[<-h];rfl,.inr rfl,.inl O1,.inl O1⟩
 |get h=>exact⟨O1,by rw[<-h];rfl,.inl rfl,.inl O1,.inl O1⟩
 |size h=>exact⟨O1,by rw[<-h];rfl,.inr rfl,.inl O1,.inl O1⟩
 |ix h a i=>exact⟨O1,by rw[<-h,<-a,<-i];rfl,.inl O1,.inl O1,.inl O1⟩
 |two d h a=>rcases d with⟨rfl,_⟩|⟨rfl|rfl|rfl,_⟩<;>exact⟨O1,by rw[<-h,<-a];rfl,.inr rfl,.inl O1,.inl O1⟩
 |@lt _ _ _ _ e f h a=>exact⟨O1,by rw[<-h,<-a];rfl,.inl rfl,.inr (ii ([e]) f ⟨rfl,rfl⟩),.inl O1⟩
 |@call _ _ _ _ _ e f g h a=>exact⟨O1,by rw[<-h,<-a];rfl,.inl O1,.inr (ii ([e,f]) g ⟨rfl,rfl⟩),.inl O1⟩
 |@case _ _ _ _ _ _ e f _ h=>exact⟨O1,by rw[<-h];rfl,.inl rfl,.inr (ii ([e]) f ⟨rfl,rfl⟩),.inl O1⟩
 |@rcd l _ b h=>
  have e:b.length=l.length:=by have:=congrArg aK h;rwa[aE,aE]at this
  exact⟨by show b.length=(l.map MC).length+ 0;rw[aE,e];rfl,by rw[h];exact bA ..,.inr rfl,.inl O1,.inl O1⟩
 |@row l _ b h=>
  have e:b.length=l.length:=by have:=congrArg aK h;rwa[aE]at this
  exact⟨by rw[e];rfl,by rw[h];exact bA ..,.inr rfl,.inl O1,.inl O1⟩
inductive XCo (C:Zx) (vs:List V) (H:Hp) (Q:VK):Prop
 |mk (g lh nl tl rl dx st td pt:Zx) (rwv ys us:List V) (ns:Zd) (rs:List Nat) (G:Gl) (ho:Nat->Option Hm) (k:Nat) (ρ:Ro) (gg:Str->Option Hm) (m:Int) (L es:List Ent) (ha:List (Int×Int)) (u:List (Int×Int×Int)) (e:vs=[.ref g,.ref lh,.ref st,.ref td,.ref pt]) (ch:Ch C H g lh nl tl rl dx rwv ys ns rs (G.map Mb) ho) (hk:G[k]?=some (ρ,gg)) (hu:∀x∈G,U0 x.1) (hw:∀x∈G,Wok x.1) (est:H st=some (.lst us)) (ie:EnL H us (L++es)) (et:ThD H td ha) (ep:H pt=some (.tup [.int k,.int m])) (c:Cmt G (Nd rs L ha (ho k)) ρ k m es u) (hr:∀e∈es,∃τ,rwA G e.m τ) (hl:(L++es).length<=1000000) (hl2:es.length<=100) (hm:(ets es).length<=1000000) (q:∀a H' vs,gJ H H'->H' a=some (.lst vs)->EnL H' vs (L++[⟨k,m,u⟩])->Q (.ref a) H')
def Lx (C:Zx):Sp:=fun a H Q _=>XCo C a H Q
def xQ (T:Txt K mg):FO P w base 3 T.d58 (Lx T.c7.a):=by
 refine T.d58.F.rd lD fun cdv A0 outer s H vs Q E hr h=>?_;obtain⟨g,lh,nl,tl,rl,dx,S,td,pt,rwv,ys,us,ns,rs,G,ho,k,p,gg,m,L,B,ha,u,rfl,ch,hk,hu,hw,C,ie,et,W,c,hr',hl,hl2,hm,q⟩:=h;refine HzX ?_;intro _;refine⟨_,(fW (pS (i:=5) lD.nd (gk gi (gR T.c7.cl T.n7rows (cv 0)) (gk gB (cv 4) fX)))
  (fW (pS (i:=6) lD.nd (pF T.d53 (ur T) hr.m (fV (cv 5) fY)))
  (fW (pS (i:=7) lD.nd (gP ki (gN gH rfl T.z_len iN (fV (cv 6) fY)) (iS wx rfl T.z_int wM (fV (iV iO (gk gB (cv 5) fX) (gG (jh (xs:=["call","case"]) gL)) rfl) fY))))
  (fW (gM (gq qJ (cv 7) (gN gH rfl T.z_len iN (fV (cv 2) fY)))
   (f9 (gC hG))
   gA)
  (fW (pS (i:=8) lD.nd (iY kR (cv 2) (jF (gP zr (gN gH rfl T.z_len iN (fV (cv 2) fY)) (cv 7))) jE))
  (fW (gM (gq (BF hr) (iY kR (qG rfl (DM rfl gL gL rfl rfl) (ke (cv 8)) (fun _ _ _ _ _=>kS) (fun _ _ _ _ _=>(gk gi (cv 0) fX))) jE (jF (gN gH rfl T.z_len iN (fV (cv 6) fY)))) (cv 6))
   (f9 (gC hG))
   gA)
  (fW (gM (mM (jC (pF T.d55 (xP T) hr.m (fV (gR T.c7.cl T.n7rows (cv 0)) (fV (gk gB (cv 4) fX) (fV (cv 8) fY))))))
   (f9 (gC hG))
   gA)
  (fW (gM (PW.pt (nK (gq iA (gk gB (cv 5) fX) gh) (mD (mM (jC (pF T.d57 (we T) hr.m (fV (cv 0) (fV (cv 1) (fV (cv 2) (fV (cv 3) (fV (cv 4) fY)))))))))))
   (f9 (gC hG))
   gA)
  (fW (gM (PW.pt (nK (gq Aq (pF T.d54 (qz T) hr.m (fV (cv 5) fY)) gh) (mD (gq Aq (gk gB (cv 4) fX) (gk gB (cv 4) fX)))))
   (f9 (gC hG))
   gA)
  (fW (gM (PW.pt (nK (gq iO (gk gB (cv 5) fX) (gG (jh (xs:=["let","case","call"]) gL)) rfl) (mD (gq Aq (gk gB (cv 4) fX) (gk gi (gk gi (cv 8) (Fj A7 fX)) fX)))))
   (f9 (gC hG))
   gA)
  (f9 (gC (gP oH (iY kR (cv 2) jE (jF (gP zr (gN gH rfl T.z_len iN (fV (cv 2) fY)) (cv 7)))) (gG (fV (gG (fV (gk gB (cv 4) fX) (fV (gk gB (cv 4) fX) (fV (pF T.d56 (yX T) hr.m (fV (cv 5) (fV (gk gB (cv 4) fX) (fV (cv 8) fY)))) fY)))) fY))))))))))))))),?_⟩;refine Hz10 ?_;intros;have sl:=L9;have ir:=ch.pr.i;rw[bH]at ir;have ir:=ir;refine eaj (uW ir (ii k gg ⟨rfl,hk⟩)) fun _ t ek hx0 it _=>?_;cases Int.ofNat.inj ek;have uk:=hu _ (aQ hk);have wk:=hw _ (aQ hk);obtain⟨c1,c2,c3,c4,c5⟩:=c.all;refine⟨_,(ii _ _ ⟨ch.pr.o,n9 _ _ _⟩),_,W,gf (fZ rfl) ⟨_,ch.pr.w,gf (fZ hx0) ?_⟩⟩;dsimp only[gU];refine⟨t,p,rfl,it,wk,fun lw H1 S1 hlw elw=>?_⟩;dsimp only[gU];refine eaa (kQ (it.mono (gJ.tk S1))) fun ys' et1 iy=>?_;refine ii lw _ ⟨rfl,.inl (NT elw),?_⟩;refine⟨_,et1,gf (fZ rfl) ⟨lJ,fun p1 hp1=>(ii p1 _ ⟨rfl,.inl (NT f7),rfl,wc ["call","case"],?_⟩)⟩⟩;have S2:=gb hp1 (.lst ((["call","case"]:Zd).map V.str));generalize hb:inV (.str p.s) ((["call","case"]:Zd).map V.str)=b at c1;refine .inr ⟨b,rfl,?_⟩;have en:((((wi p).map V.int).length:Int)+(if b=true then 1 else 0))=(B.length:Int):=by
  rw[aE,c1];cases b;·rfl
  ·rfl
 dsimp only[cI0];rw[en];refine eap ie.split fun f r z0 il N=>?_;subst z0;have ll:=il.length;have le:=N.length;have O:=S1.trans S2;have e2:=S2 _ _ elw;generalize upd H1 p1 (.lst ((["call","case"]:Zd).map V.str))=H2 at S2 O e2⊢;have lus:((f++r).length:Int)=(L.length:Int)+(B.length:Int):=by rw[aR];lia
 refine ii S _ ⟨rfl,.inl (NT (O _ _ C)),?_⟩;show if decide (((f++r).length:Int)<(B.length:Int))=true then _ else _;rw[hV O2];refine ij ?_;dsimp only[jW];refine ii S _ ⟨rfl,.inl (NT (O _ _ C)),?_⟩;refine⟨_,rfl,S,_,rfl,NT (O _ _ C),fun U hp8=>?_⟩;have cf:nO (f++r) (some (((f++r).length:Int)-(B.length:Int))) none=r:=by rw[show((f++r).length:Int)-(B.length:Int)=(f.length:Int) by lia,Fb,List.drop_left]
 have ct:nO (f++r) none (some (((f++r).length:Int)-(B.length:Int)))=f:=by rw[show((f++r).length:Int)-(B.length:Int)=(f.length:Int) by lia,Di,List.take_left]
 rw[cf];have S3:=gb hp8 (.lst r);have e8:(upd H2 U (.lst r)) U=some (.lst r):=f7;have e3:=S3 _ _ e2;have S03:=O.trans S3;dsimp only[gU];generalize upd H2 U (.lst r)=H3 at S3 e8 e3 S03⊢;refine⟨U,rfl,⟨_,NT e8⟩,fun D hD=>?_⟩;have ie3:=N.same S03;refine Ee (A:=fun H v (x:Ent)=>EnA H v x) (g:=fun x:Ent=>V.int x.p) (l:=B) (fun i v H4 hv F=>?_) O2 hD rfl (fun j H4 F hj=>zm e8 F O2) (fun H4 F=>by rw[<-le];exact zo e8 F) (fun j H4 v H5 F y=>⟨y.1,y.2 _ (NT (F _ _ e8))⟩) (fun e v H4 R he F a kk=>?_) fun H4 F eD=>?_;·refine eaa (ie3.get hv) fun e h1 h2=>?_;exact⟨e,h1,h2.same F⟩
 ·obtain⟨b,l,zs,hb,_,_⟩:=a;exact⟨_,hb,gf (fZ rfl) (kk _ (gJ.refl _))⟩
 refine ii lw _ (⟨rfl,.inl (NT (F _ _ e3)),⟨_,rfl,D,_,rfl,NT eD,fun p9 hp9=>?_⟩⟩);have c9:nO (B.map fun x:Ent=>V.int x.p) none (some (((wi p).map V.int).length:Int))=(wi p).map V.int:=by
  rw[Di,aE];conv=>rhs;rw[<-c2]
  rw[List.map_take,bH];rfl
 rw[c9];have S5:=gb hp9 (.lst ((wi p).map V.int));obtain⟨g1,g2⟩:=k_g (wi p);dsimp only;refine JB rfl ?_;refine G7 f7 (S5 _ _ (F _ _ e3)) (qC _) (qC _) g1 g2 ?_;have J:=S03.trans (F.trans S5);have Z:=S5 _ _ (F _ _ e8);generalize upd H4 p9 (.lst ((wi p).map V.int))=H5 at J Z⊢;dsimp only[onB,fo];refine ij ?_;dsimp only[jW];have ch5:=ch.same J;refine⟨_,(ii _ _ ⟨ch5.pr.o,n9 _ _ _⟩),_,J _ _ W,gf (fZ rfl) ?_⟩;refine⟨rl,U,k,p,gg,m,G,_,B,r,rwv,u,rfl,ch5.pr.w,ir.mono (gJ.tk J),hk,hu,hw,Z,N.same J,c,hr',hl2,fun H6 S6=>⟨_,rfl,ij ?_⟩⟩;dsimp only[jW];have z:=J.trans S6;have e86:=S6 _ _ Z;refine eaa (kQ (it.mono (gJ.tk z))) fun ys6 et6 _=>?_;refine pU (fun M H'=>M=[some (.ref g),some (.ref lh),some (.ref S),some (.ref td),some (.ref pt),some (.ref t),some (.ref lw),some (.int B.length),some (.ref U)]/\gJ H6 H') ?_ ?_;rotate_left
 ·intro D' d;rcases c5 with c5|⟨rfl,n⟩;·exact uQ rfl et6 c5 (ij (ij (d _ _ ⟨rfl,gJ.refl _⟩)))
  ·refine uQ rfl et6 rfl ?_
   cases decide (p.s="name")with
   |false=>exact ij (ij (d _ _ ⟨rfl,gJ.refl _⟩))
   |true=>exact iK ⟨g,lh,nl,tl,rl,dx,S,td,pt,rwv,ys,_,ns,rs,_,ho,k,m,L++[],ha,rfl,ch.same z,by rw[aE];exact(av.mp hk).1,z _ _ C,ie.same z,et.same z,z _ _ W,by rw[aF];exact n,fun H7 S7=>⟨_,rfl,ij (d _ _ ⟨rfl,S7⟩)⟩⟩
 rintro _ H7 ⟨rfl,S67⟩;have Y:=z.trans S67;refine pU (fun M H'=>M=[some (.ref g),some (.ref lh),some (.ref S),some (.ref td),some (.ref pt),some (.ref t),some (.ref lw),some (.int B.length),some (.ref U)]/\gJ H7 H') ?_ ?_;rotate_left
 ·intro D' d;refine⟨t,p,rfl,it.mono (gJ.tk Y),uk,fun H8 S8=>?_⟩;show if(true ^^ decide (mkR p=""))=true then _ else _;rcases c3 with c3|c3;·rw[gT c3];exact ij (ij (d _ _ ⟨rfl,S8⟩))
  ·cases(true ^^ decide (mkR p=""))with
   |false=>exact ij (ij (d _ _ ⟨rfl,S8⟩))
   |true=>refine iK ⟨_,(Y.trans S8) _ _ W,gf (fZ rfl) ⟨_,(Y.trans S8) _ _ W,gf (fZ rfl) ?_⟩⟩;show if(true ^^ decide (m=(k:Int)))=true then _ else _;rw[gT c3];exact ij (d _ _ ⟨rfl,S8⟩)
 rintro _ H8 ⟨rfl,S78⟩;have S08:=Y.trans S78;have e88:=S78 _ _ (S67 _ _ e86);refine pU (fun M H'=>M=[some (.ref g),some (.ref lh),some (.ref S),some (.ref td),some (.ref pt),some (.ref t),some (.ref lw),some (.int B.length),some (.ref U)]/\gJ H8 H') ?_ ?_;rotate_left
 ·intro D' d;refine eaa (kQ (it.mono (gJ.tk S08))) fun ys8 et8 _=>?_;refine G4 rfl et8 O3 _ rfl fun H9 S9=>?_;rcases c4 with c4|⟨l,e,rfl,me⟩;·rw[c4];exact ij (ij (d _ _ ⟨rfl,S9⟩))
  ·cases inV (.str p.s) ((["let","case","call"]:Zd).map V.str)with
   |false=>exact ij (ij (d _ _ ⟨rfl,S9⟩))
   |true=>
    have I:=S08.trans S9;refine eap ((N.same I).split) fun a1 a2 z0 _ j2=>?_;subst z0
    cases j2 with|cons j2 j3=>cases j3;obtain⟨b,l,zs,hb,_,_⟩:=j2;refine iK ⟨_,I _ _ W,gf (fZ rfl) ⟨_,rfl,_,S9 _ _ e88,gf (CB _ _) ⟨_,hb,gf (fZ rfl) ?_⟩⟩⟩;show if(true ^^ decide (m=e.m))=true then _ else _;rw[gT me];exact ij (d _ _ ⟨rfl,S9⟩)
 rintro _ H9 ⟨rfl,S89⟩;have I:=S08.trans S89;have e89:=S89 _ _ e88;refine ii S _ (⟨rfl,.inl (NT (I _ _ C)),⟨_,rfl,S,_,rfl,NT (I _ _ C),fun pa hpa=>?_⟩⟩);rw[ct];have Sa:=gb hpa (.lst f);have ea:(upd H9 pa (.lst f)) pa=some (.lst f):=f7;have o:=I.trans Sa;have e8a:=Sa _ _ e89;generalize upd H9 pa (.lst f)=Ha at Sa ea o e8a⊢;refine⟨_,o _ _ W,gf (fZ rfl) ⟨_,o _ _ W,gf (fZ rfl) ⟨_,o _ _ W,gf (fZ rfl) ?_⟩⟩⟩;refine⟨t,U,p,k,m,G,_,B,r,u,rfl,it.mono (gJ.tk o),e8a,N.same o,c,uk,hm,fun la Hb xs Sb eb ib=>⟨lC,fun pb hpb=>⟨se,fun pc hpc=>?_⟩⟩⟩;have Sc:=gb hpb (.lst [.int (k:Int),.int m,.ref la]);have Sd:=gb hpc (.lst [.ref pb]);refine io pa pc f ([.ref pb]) ⟨rfl,rfl,Sd _ _ (Sc _ _ (Sb _ _ ea)),f7,by show f.length+ 1<=_;rw[aR]at hl;lia,fun pd hpd=>?_⟩;have Se:=gb hpd (.lst (f++[.ref pb]));have X:=Sc.trans (Sd.trans Se);refine q pd _ _ (o.trans (Sb.trans X)) f7 ((il.same (o.trans (Sb.trans X))).app (.cons ⟨pb,la,xs,Se _ _ (Sd _ _ f7),X _ _ eb,ib.mono (gJ.tk X)⟩ .nil))
open GR.Internal (isName Gp Op)
open TM.Internal (Kn Tr i6 szs oks tks kn rws)
def JC (h:ρ.ok):gF ρ.d=true/\vk ρ.d<=5:=by
 have d:∀l:List Int,gFs (l.map kD)=true/\i8 (l.map kD)<=0:=fun l=>⟨rm (fun n=>rfl) l,cM (AK l).2.2⟩
 cases ρ with
 |rcd l=>
  have o:=h.1;have z:gF (.tup (l.map fdD))=true:=by rw[gF,rm (fun k=>rfl),gT (by rw[aE];lia)];rfl
  have y:=tW (f:=fdD) (b:=1) (fun k=>cJ _) l;refine⟨?_,?_⟩;·show gF (.tup [sD "rec",.tup (l.map fdD)])=true;rw[gF,gFs,gFs,gFs,z];rfl
  ·show max 0 (max (i8 (l.map fdD)+ 1) 0)+ 1<=5;lia
 |case k l=>
  have o:=h.1;have z:gF (.tup (l.map amD))=true:=by rw[gF,rm (fun k=>rfl),gT (by rw[aE];lia)];rfl
  have y:=tW (f:=amD) (b:=1) (fun k=>cJ _) l;refine⟨?_,?_⟩;·show gF (.tup [sD "case",kD k,.tup (l.map amD)])=true;rw[gF,gFs,gFs,gFs,gFs,z];rfl
  ·show max 0 (max 0 (max (i8 (l.map amD)+ 1) 0))+ 1<=5;lia
 |row l=>
  have o:l.length<=100:=h;obtain⟨z,y⟩:=d l;refine⟨?_,?_⟩;·show gF (.tup [sD "row",.tup (l.map kD)])=true;rw[gF,gFs,gFs,gFs,gF,z,gT (show(l.map kD).length<=1000 by rw[aE];lia)];rfl
  ·show max 0 (max (i8 (l.map kD)+ 1) 0)+ 1<=5;lia
 |op c l=>
  have o:=h.2;obtain⟨z,y⟩:=d l;refine⟨?_,?_⟩;·show gF (.tup (sD c::l.map kD))=true;rw[gF,gFs,z,gT (show(sD c::l.map kD).length<=1000 by rw[aB,aE];lia)];rfl
  ·show max 0 (i8 (l.map kD))+ 1<=5;lia
 |_=>exact⟨rfl,by show 0+ 1<=5;decide⟩
theorem Dm:∀{l:List Ro},(∀ρ∈l,ρ.ok)->gFs (l.map Ro.d)=true/\i8 (l.map Ro.d)<=9
 |[],_=>⟨rfl,cK _⟩
 |ρ::l,h=>by obtain⟨a,b⟩:=JC (h ρ aj);obtain⟨c,d⟩:=Dm fun r e=>h r (ak _ e);rw[aD,gFs,a,c,i8];exact⟨rfl,O2⟩
def yZ (a b:List Ent):ets (a++b)=ets a++ets b:=by unfold ets;rw[bq,cA]
def JD(c:Cmt G nd ρ p m es u):u.length<=(ets es).length+ 2:=by cases c<;>simp[ets]<;>lia
def Dn{d:List (Int×Int)} (T:Tra G ho roots d L):L.length<=d.length/\(ets L).length<=2*d.length:=by
 induction T with
 |nil=>exact⟨cJ _,cJ _⟩
 |@cons d L n k f e g m t T j h c i=>have l:=JD c;obtain⟨a,b⟩:=i;rw[aR]at a;rw[yZ,aR]at b;rw[oE,aR,aR,aB];exact⟨by show L.length+ 1<=d.length+ 1;lia,by show(ets L).length+t.length<=2*(d.length+ 1);lia⟩
inductive Chn (G:Gl) (ho:Nat->Option Hm) (roots:List Nat) (Lf:List Ent):List (Int×Int)->List (Int×Int)->List Ent->Prop
 |nil {ha:List (Int×Int)}:Chn G ho roots Lf [] ha Lf
 |cons {r ha:List (Int×Int)} {L es:List Ent} {k:Nat} {ρ τ:Ro} {g:Str->Option Hm} {m:Int} {t:List (Int×Int×Int)} (T:Tra G ho roots ha (L++es)) (hk:G[k]?=some (ρ,g)) (hm:rwA G m τ) (c:Cmt G (Nd roots L ha (ho k)) ρ k m es t) (n:Chn G ho roots Lf r (((k:Int),m)::ha) (L++[⟨k,m,t⟩])):Chn G ho roots Lf (((k:Int),m)::r) ha (L++es)
def JE{a:List (Int×Int)} (T:Tra G ho roots a L):∀{r:List (Int×Int)},Chn G ho roots Lf r a L->Chn G ho roots Lf (a.reverse++r) [] []:=by
 induction T with
 |nil=>exact fun h=>h
 |cons T d b c i=>intro r h;have:=i (.cons T d b c h);rw[bb,bU];exact this
def Eg(f:∀d∈a,d.ok) (g:∀d∈a,U0 d) (r:uo a ho tu n k s s'):∀{b:Nat},Bd b s->s'.ha.length<=b+ 200*n+ 1:=by
 have c:∀{b:Nat} {s:Ms} {r:Nat},Bd b s->Bd (b+ 1) {s with st:= .beg (r:Int) .nil::s.st}:=fun{b s r} h=>by refine eae h fun y x w u q=>?_;exact⟨dt y,dt x,dt w,dj u,dt q⟩
 induction r with
 |@done s=>intro b h;have B:=h.2.1;lia
 |ends h o=>intro b e;have:=(h.bd f g (c e)).2.1;lia
 |@next n m r k s j z v A h o l t i=>intro b e;refine eae (h.bd f g (c e)) fun F E D C p=>?_;have:=i (b:=b+ 1+ 200*n+ 1) ⟨by lia,by lia,by show(j.de++[v]).length<=_;rw[aR,bc];lia,by lia,by rw[l,aB]at p;lia⟩;lia
theorem JF:∀l:List Nat,gFs (l.map Og)=true
 |[]=>rfl
 |k::l=>by rw[aD,gFs,JF l];rfl
structure Fin (G:Gl) (ho:Nat->Option Hm) (roots:List Nat) (s:Ms) (L:List Ent):Prop where
 tr:Tra G ho roots s.ha L
 en:∃e,s.en=some e
 dn:s.en=some ("done":Str)->s.de≠[]/\s.bg=s.ha.length/\L.map Ent.p=roots.map (fun r:Nat=>(r:Int))/\s.me.reverse=ets L
def JG(p:Pt x ns ts):∃G I w,Iy ns (i6 ts 0) (G.map Mb) w/\(∀k C,(G.map Mb)[k]?=some C->I k=duo w k C)/\(G.map Mb).map Ro.d=rws ts 0/\(∀x∈G,U0 x.1/\Wok x.1)/\∀F,F<=400->∃m s L,uo (G.map Mb) I F m (i6 ts 0) s0M s/\200*m<=300000/\s.ha.length<=300001/\Fin G I (i6 ts 0) s L:=by
 have M:=GJ p.nd p.h12 p.l.symm p.ok p.z;obtain⟨A,B⟩:=I0 p.ok;obtain⟨V,_⟩:=D9 (G:=pgG ns ts 0 0) (l1:=[]) rfl rfl p.ok;have W:=yP ns ts 0 0;have K:∀x∈pgG ns ts 0 0,U0 x.1/\Wok x.1:=fun x H=>by
  obtain⟨k,J⟩:=cu H;have Q:=(av.mp J).1;obtain⟨⟨N,O⟩,g,a⟩:=(V k (cK _) O2).1;refine ean a.row fun U t i S=>?_;rw[U]at J;cases J;have o:=EY t i S;generalize i6 O (k+ 1)=u at i o
  cases N with
  |op o m=>
   have D:(u.map fun p:Nat=>(p:Int)).length=m:=by rw[aE];exact i
   refine⟨o.1,o.1,o.2,fun z=>?_⟩;show(u.map fun p:Nat=>(p:Int)).length=1;rw[D];have t:(_,m)∈NW:=t;rw[z]at t;simp only[NW,ao,Prod.mk.injEq,bI,or_false]at t;rcases t with⟨e,_⟩|⟨e,_⟩|⟨e,_⟩|⟨_,e⟩|⟨e,_⟩|⟨e,_⟩|⟨e,_⟩;·exact absurd e gL
   ·exact absurd e gL
   ·exact absurd e gL
   ·exact e
   ·exact absurd e gL
   ·exact absurd e gL
   ·exact absurd e gL
  |rcd l=>exact⟨trivial,o.1⟩
  |case l=>
   match u,i,o with
   |p::u,_,o=>exact⟨trivial,o.1⟩
  |row l=>exact⟨trivial,o⟩
  |num _=>cases bW i;exact⟨trivial,trivial⟩
  |name _=>cases bW i;exact⟨trivial,trivial⟩
  |fn _=>obtain⟨a,rfl⟩:=bF.mp i;exact⟨trivial,trivial⟩
  |tag _=>obtain⟨a,rfl⟩:=bF.mp i;exact⟨trivial,trivial⟩
  |get _=>obtain⟨a,rfl⟩:=bF.mp i;exact⟨trivial,trivial⟩
  |lt _=>
   match u,i with
   |[a,b],_=>exact⟨trivial,trivial⟩
 refine iaa _ ((fun k=>match(pgG ns ts 0 0)[k]? with|some x=>duo (E2 (pgG ns ts 0 0)) k x.1|none=>none)) _ ⟨M,fun k C h=>?_,?_,K,fun F ht=>?_⟩;·rw[aP]at h;refine eaa (dA.mp h) fun y e E=>?_;subst E;dsimp only;rw[e]
 ·rw[bH];exact IX ns ts 0 0 (yQ p.ok)
 ·have l0:(i6 ts 0).length=ts.length:=N0 _ _;have Z:=p.l;have Y:=p.h1;have X:=p.h12;obtain⟨m,s,R,D,e⟩:=zS B (i6 ts 0) [] [] s0M rfl (fun j r h=>by rw[show([]:List Nat).length+j=j from cY j];exact A j r h) ⟨rfl,rfl,rfl,rfl,(fun v P=>nomatch P),rfl,.nil,rfl,rfl,fun d v h=>nomatch h⟩ (cK _) (by lia);have D:=D;have hh:=Eg M.ok (fun C hρ=>by refine eaa (bh.mp hρ) fun x H E=>?_;subst E;exact(K x H).1) R (b:=0) ⟨cJ _,cJ _,cJ _,cJ _,cJ _⟩;rcases e with⟨e,L,T⟩|⟨e,a,b,L,T,c,d⟩;·exact⟨m,s,L,R,O2,O2,T,by rcases e with e|e|e<;>exact⟨_,e⟩,fun z=>absurd z e.ne.2⟩
  ·exact⟨m,s,L,R,O2,O2,T,⟨_,e⟩,fun _=>⟨a,b,c,d⟩⟩
open GR.Internal (isName Gp Op)
open TM.Internal (Kn Tr i6 szs oks tks kn rws)
def EnL.putD {c:List (List Key×V)} (f:H td=some (.dT c)) (h:EnL H vs es):EnL (upd H td o) vs es:=by
 have d:∀{a b},H a=some (.lst b)->(upd H td o) a=some (.lst b):=fun{a b} e=>by rw[gy (fun z=>by rw[z,f]at e;cases e)];exact e
 have g:TK H (upd H td o):=fun a b e=>by rw[gy (fun z=>by rw[z,f]at e;cases e)];exact e
 induction h with
 |nil=>exact .nil
 |cons h _ i=>
  cases h with
  |mk a l b h k j=>exact .cons (.mk a l b (d h) (d k) (j.mono g)) i
def G8[DecidableEq α] {k:α}:(mL kvs k v).length<=kvs.length+ 1:=by
 unfold mL;split;·rw[aE];exact cP _
 ·rw[aR];exact cJ _
def ThD.put {c:List (Int×Int)} {a:List (List Key×V)} (l:a.length<=c.length) (h:∀x∈c,∃v,jL a [Mv x.1,Mv x.2]=some v) (k m:Int):ThD (upd H td (.dT (mL a [Mv k,Mv m] (.bl true)))) td ((k,m)::c):=by
 refine⟨_,f7,cF G8 (dj l),fun x hx=>?_⟩;rw[iX];by_cases z:([Mv x.1,Mv x.2]:List Key)=[Mv k,Mv m];·rw[ig z];exact⟨_,rfl⟩
 ·rw[gZ z];rcases ao.mp hx with rfl|hx;·exact absurd rfl z
  ·exact h x hx
def Ly(c:Cmt G nd ρ p m a u) (w:Wok ρ):a.length<=100:=by
 cases c with
 |@rcd l _ a h=>have w:l.length<=100:=w;have:=congrArg aK h;rw[aE,aE]at this;lia
 |@row l _ a h=>have w:l.length<=100:=w;have:=congrArg aK h;rw[aE]at this;lia
 |_=>simp
def Lz{L:List Ent} (d:L.map Ent.p=roots.map (fun r:Nat=>(r:Int))) (e:Iy nms roots ρs out):L.length<=1000:=by have a:=congrArg aK d;have b:=e.rl;have c:=e.nl;rw[aE,aE]at a;lia
def G9{f:Zx} (T:Txt K mg) (D:Dk P w K mg) (W:Wk P w T) (F:Fun K "law" "law" vG f fd):uC P w K mg base CX0 150 f fd ["_law_script"] (zF K):=by
 have g1:=AG (P:=P) (w:=w) (base:=base) T;have g2:=AH T g1;have g3:=xn T g1;have ga:=tD (P:=P) (w:=w) (base:=base) T;have g4:=uh T ga;have gc:=ui (P:=P) (w:=w) (base:=base) T;have gp:=pM T g4;have gn:=pO T g4 g2;have ge:=B6 T D ga g4 gp gn g2 g3 gc 24;have gD27:=Ga T (yu T) (ql T) ga gp gn ge gc (pP T);have gD22:=IM (base:=base) T W;clear g1 g2 g3 ga g4 gc gp gn ge;refine F.ok nY (fun vs H Q E h=>?_) (fun _ A _ s H vs Q E O h=>?_);·refine eap h fun a ns B hsq _=>?_;subst B;rfl
 refine eaj h fun ad ns B hsq hlen q=>?_;subst B;have hu:=tY O;refine HzX ?_;intro _;refine⟨_,(fW (pS (i:=1) nY.nd (pF T.d27 gD27 O.m (fV (pF T.d50 (tV T) O.m (fV (cv 0) fY)) fY)))
  (fW (pS (i:=2) nY.nd (pF T.d29 (yy T) O.m (fV (cv 1) fY)))
  (fW (pS (i:=3) nY.nd (pF T.d22 gD22 O.m (fV (cv 1) (fV (cv 2) (fV (gP iE (gN (wR rfl) rfl T.z_sum Et (fV (iY kR (cv 0) (jF (Fj A7 fX)) jE) fY)) fX) fY)))))
  (fW (gM (PW.pt (rO (mM (jC (gN mQ rfl T.z_isinstance jg (fV (gR T.c6.cl T.n6had (cv 3)) (fV (sA rfl T.z_list sC) fY))))) (qc (mM (jC (gN mQ rfl T.z_isinstance jg (fV (gR T.c6.cl T.n6meets (cv 3)) (fV (sA rfl T.z_list sC) fY))))))))
   (f9 (gC qa))
   gA)
  (fW (pS (i:=4) nY.nd (gG fY))
  (fW (pS (i:=5) nY.nd DE)
  (fW (jX Mh rfl (ke (gR T.c6.cl T.n6had (cv 3))) (pN (i:=6) nY.nd)
   (fW (gM (PW.pt (rO (mM (jC (pF T.d52 (qB T) O.m (fV (cv 6) fY)))) (rO (mM (oy tX Dw fX (gk gB (cv 6) fX) (gN gH rfl T.z_len iN (fV (gR T.c7.cl T.n7rows (cv 1)) fY)))) (qc (mM (oy tX Dw fX (gk gB (cv 6) fX) (gN gH rfl T.z_len iN (fV (gR T.c7.cl T.n7rows (cv 1)) fY))))))))
    (f9 (gC qa))
    gA)
   (fW (pS (i:=4) nY.nd (pF T.d58 (xQ T) O.m (fV (cv 1) (fV (cv 2) (fV (cv 4) (fV (cv 5) (fV (cv 6) fY)))))))
   (fW (gM (si (AX (cv 4)))
    (f9 (gC qa))
    gA)
   (f9 (nN hu (cv 5) (cv 6) qa rfl))))))
  (fW (gM (gq Aq (gR T.c6.cl T.n6end (cv 3)) gh)
   (f9 (gC qa))
   gA)
  (fW (pS (i:=7) nY.nd (gG fY))
  (fW (jX Mh rfl (ke (cv 4)) (pN (i:=8) nY.nd)
   (f9 (pS (i:=7) nY.nd (gP oH (cv 7) (gk gi (cv 8) fX)))))
  (fW (gM (PW.pt (rO (gq (BF O) (qG rfl (DM rfl gL gL rfl rfl) (ke (cv 4)) (fun _ _ _ _ _=>kS) (fun _ _ _ _ _=>(gk gi (cv 0) fX))) (gR T.c7.cl T.n7roots (cv 1))) (qc (gq (BF O) (gR T.c6.cl T.n6meets (cv 3)) (cv 7)))))
   (f9 (gC qa))
   gA)
  (f9 (gC (nB (pF T.d51 (qA T) O.m (fV (gR T.c6.cl T.n6begun (cv 3)) fY)) (nA (iV iA (gR T.c6.cl T.n6begun (cv 3)) (gN gH rfl T.z_len iN (fV (gR T.c6.cl T.n6had (cv 3)) fY)))))))))))))))))),?_⟩;refine Hz11 ?_;intros;have sl:=L9;refine⟨ad,ns,rfl,hsq,hlen,fun H2 x M ts S2 N=>?_⟩;dsimp only;refine eag (JG N) fun G ho out=>faj fun gd hE eρ hx RR=>?_;have hv:GR.Internal.wordsV x.cps.toList=(wj M ts).map V.str:=by rw[<-(N.tk)];exact GR.Internal.toks_v _
 refine⟨x,M,ts,rfl,N.xl,hv,Jb N.k N.o,N.l,N.n,yQ N.ok,N.ne,N.z,N.h1,N.h12,fun g nl tl rl rtv I H3 S3 pr tr tw=>?_⟩;rw[<-eρ]at tw;obtain⟨gr,dr⟩:=Dm gd.ok;have ertv:=Jd (sd tr (JF _));have erwv:=sd tw gr;obtain⟨dx,ob⟩:=pr.ob;have prr:=pr.rt;rw[ertv]at prr;have prA:PrA T.c7.a H3 g nl tl rl dx I M (i6 ts 0) (G.map Mb):=⟨ob,pr.nm,prr,pr.rw,erwv⟩;dsimp only[gU];refine iaf g nl tl rl dx I _ _ _ _ ⟨rfl,prA,gd,fun lh ys U p _ el ly hoa=>?_⟩;dsimp only[gU];have C4:Ch T.c7.a U g lh nl tl rl dx I ys M (i6 ts 0) (G.map Mb) ho:=⟨prA.same p,el,fun k ρ e=>by have hil:=(av.mp e).1;obtain⟨y,hy⟩:∃y,ys[k]?=some y:=⟨_,bE O2⟩;exact⟨y,hy,by rw[hE k ρ e];exact hoa k y ρ hy e⟩⟩;clear pr tr tw erwv prr hoa ob;have S04:=S2.trans (S3.trans p);refine eaa (wb ns (some (-1)) none) fun ks1 ek1 _=>?_;refine⟨_,rfl,_,rfl,ad,_,rfl,S04.seq hsq,fun c1 hc1=>(ii c1 ks1 ⟨rfl,NT (by rw[f7,ek1]),fun n0=>?_⟩)⟩;have S5:=gb hc1 (.lst (nO (ns.map V.int) (some (-1)) none));generalize upd U c1 _=H5 at S5⊢;have C5:=C4.same S5;refine⟨(show(0:Int)<401 by decide),?_⟩;dsimp only;refine eaa (emN n0 (show(0:Int)<401 by decide)) fun tu et lt=>?_;rw[et];refine eaA (RR tu O2) fun m0 s0 Lf R0 b0 hl0 k0=>?_;refine⟨g,lh,nl,tl,rl,dx,tu,m0,I,ys,s0,M,_,_,ho,rfl,C5.pr,C5.el,C5.ho,gd.ok,(fun ρ hρ=>by refine eaa (bh.mp hρ) fun x hx' B=>?_;subst B;exact(hx x hx').1),R0,O2,k0.en,fun e=>(k0.dn e).1,fun r1 H6 S6 _ ra=>?_⟩;dsimp only[gU];have C6:=C5.same S6;refine ead ra.o fun dx1 v1 me ha=>fag fun y0 o1 y1 y2 _ _=>?_;refine eac y0 fun n1 n2 n3=>?_;refine eaa y1 fun xs1 em im=>?_;refine eaa y2 fun ys1 eh ih=>?_;obtain⟨f1,f2,f3,f4,f5⟩:=G6;refine⟨_,(ii _ _ ⟨o1,f4⟩),_,_,_,_,true,rfl,fun _ r=>r,.lst eh,rfl,_,rfl,ij ⟨_,(ii _ _ ⟨o1,f3⟩),_,_,_,_,true,rfl,fun _ r=>r,.lst em,rfl,_,rfl,ij ?_⟩⟩;dsimp only[jW];refine⟨p7,fun Y hs0=>?_⟩;have T1:=gb hs0 (.lst []);have es0:(upd H6 Y (.lst [])) Y=some (.lst []):=f7;dsimp only[gU];generalize upd H6 Y (.lst [])=H7 at T1 es0⊢;intro td htd;have T2:=gb htd (.dT []);have ed0:(upd H7 td (.dT [])) td=some (.dT []):=f7;have es1:=T2 _ _ es0;have o7:=T1 _ _ o1;have eh7:=T1 _ _ eh;have em7:=T1 _ _ em;have C7:=C6.same T1;have ih7:=ih.mono (gJ.tk T1);dsimp only[gU];generalize upd H7 td (.dT [])=H8 at T2 ed0 es1⊢;have chn:=JE k0.tr .nil;rw[aF]at chn;have ly1:=ih.length;rw[aE,bM]at ly1;refine⟨_,(ii _ _ ⟨T2 _ _ o7,f4⟩),ha,rfl,⟨_,NT (T2 _ _ eh7)⟩,lQ (fun i X H9=>gJ H7 H9/\∃(st:Zx) (us:List V) (L:List Ent) (Z:List (Int×Int)) (o:Option V),X=[some (.ref ad),some (.ref g),some (.ref lh),some (.ref r1),some (.ref st),some (.ref td),o,none,none]/\H9 st=some (.lst us)/\EnL H9 us L/\ThD H9 td Z/\Z.length=i/\Chn G ho (i6 ts 0) Lf (s0.ha.reverse.drop i) Z L) ⟨T2,Y,[],[],[],none,rfl,es1,.nil,⟨[],ed0,cJ _,fun x hx=>nomatch hx⟩,rfl,chn⟩ (fun i X H9 _ h=>NT (h.1 _ _ eh7)) ?_ ?_⟩
 ·refine fun i v X H9 hv=>f8 fun S9=>fak fun st us L Z o=>fag fun B S ie etd li ch=>?_;subst B;refine eaa (jA ih7 hv) fun d hd iv=>?_;rw[aP]at hd;refine eaa (dA.mp hd) fun pr hpr B=>?_;subst B;obtain⟨z1,z2⟩:=av.mp hpr;rw[bS z1,z2]at ch;refine eaa (Jv (ns:=[pr.1,pr.2]) iv) fun pt' B ept=>?_;subst B
  cases ch with
  |@cons r Z L es k ρ τ g' m t T' hk hm c n=>
   dsimp only[gU];have C:=S9 _ _ ept;have C9:=C7.same S9;have klt:k<(G.map Mb).length:=by rw[aE];exact(av.mp hk).1
   refine eah hm fun j gj ej hj=>?_;have jlt:j<(G.map Mb).length:=by rw[aE];exact(av.mp hj).1
   have lw:=C9.pr.i.length;rw[aE]at lw;refine iaa pt' k m (⟨rfl,C,⟨_,rfl,ij ?_⟩⟩);refine⟨_,C,gf (fZ rfl) (ii _ _ ⟨rfl,rfl,_,rfl,?_⟩)⟩;rw[gT (show(0:Int)<=(k:Int) by lia)];refine iK ⟨_,(ii _ _ ⟨C9.pr.o,n9 _ _ _⟩),rl,_,rfl,.inl (NT C9.pr.w),_,_,rfl,rfl,_,rfl,?_⟩;rw[gT (show(k:Int)<(I.length:Int) by lia)];refine ij ⟨_,C,gf (fZ rfl) (ii _ _ ⟨rfl,rfl,_,rfl,?_⟩)⟩;rw[gT (show(0:Int)<=m by lia)];refine iK ⟨_,(ii _ _ ⟨C9.pr.o,n9 _ _ _⟩),rl,_,rfl,.inl (NT C9.pr.w),_,_,rfl,rfl,_,rfl,?_⟩;rw[gT (show m<(I.length:Int) by lia)];refine ij ?_;dsimp only[jW];obtain⟨l1,l2⟩:=Dn T';have l3:=congrArg aK (yZ L es);rw[aR]at l3;have li2:Z.length<=300001:=by rw[li];rw[bM]at z1;lia
   refine⟨g,lh,nl,tl,rl,dx,st,td,pt',I,ys,us,M,_,G,ho,k,ρ,g',m,L,es,Z,t,rfl,C9,hk,fun x h=>(hx x h).1,fun x h=>(hx x h).2,S,ie,etd,C,c,fun e he=>(T'.mem e (aA _ he)).2,O2,Ly c (hx _ (aQ hk)).2,O2,fun a H10 vs S10 ea ie10=>?_⟩;dsimp only[gU];refine eak (etd.same S10) fun kvs ed lk hk2=>?_;refine⟨_,rfl,ij ?_⟩;dsimp only[jW];refine ii td _ ⟨rfl,x9.t (k:=[Mv (k:Int),Mv m]) ed (S10 _ _ C) O2,ip (S9.trans S10) htd _,a,vs,_,((k:Int),m)::Z,_,rfl,?_,ie10.putD ed,ThD.put lk hk2 k m,by rw[aB,li],n⟩;rw[gy (fun z=>by rw[z,ed]at ea;cases ea)];exact ea
 ·refine fun X H9=>f8 fun S9=>fak fun st us L Z o=>fag fun B S ie etd li ch=>?_;subst B;rw[ly1,bR (by rw[bM];exact cJ _)]at ch;cases ch;have C9:=C7.same S9;have o9:=S9 _ _ o7;have em9:=S9 _ _ em7;have eh9:=S9 _ _ eh7;have im9:=im.mono (gJ.tk (T1.trans S9));obtain⟨l1,l2⟩:=Dn k0.tr;dsimp only;refine⟨_,(ii _ _ ⟨o9,f1⟩),?_⟩;obtain⟨en,hen⟩:=k0.en;rw[hen];show if(true ^^ decide (en="done"))=true then _ else _;by_cases z:en="done"
  ·subst z;rw[gT rfl];refine ij ?_;dsimp only[jW];refine ean (k0.dn hen) fun _ d1 d2 d3=>?_;refine⟨p7,fun mt hmt=>?_⟩;have Ta:=gb hmt (.lst []);have emt:(upd H9 mt (.lst [])) mt=some (.lst []):=f7;dsimp only[gU];generalize upd H9 mt (.lst [])=Ha at Ta emt⊢;have iea:=ie.same Ta;refine⟨st,rfl,⟨_,NT (Ta _ _ S)⟩,lQ (fun i X H'=>gJ Ha H'/\∃(q:Zx) (xs:List V) (o8:Option V),X=[some (.ref ad),some (.ref g),some (.ref lh),some (.ref r1),some (.ref st),some (.ref td),o,some (.ref q),o8]/\H' q=some (.lst xs)/\Ims H' xs ((ets (Lf.take i)).map meD)) ⟨gJ.refl _,mt,[],none,rfl,emt,.nil⟩ (fun i X H' _ h=>NT (h.1 _ _ (Ta _ _ S))) ?_ ?_⟩
   ·refine fun i v X Hb hv=>f8 fun Sb=>fab fun q' xs o8=>fae fun B eq' iq=>?_;subst B;refine eaa (iea.get hv) fun e he ea=>?_;obtain⟨c',l',zs,hb,hl',il'⟩:=ea.same Sb;have lx:=iq.length;have lz:=il'.length;rw[aE]at lx lz;have et2:ets (Lf.take (i+ 1))=ets (Lf.take i)++e.t:=by rw[cc,he];exact oE _ _
    have le:(ets (Lf.take (i+ 1))).length<=(ets Lf).length:=by
     have:ets Lf=ets (Lf.take (i+ 1))++ets (Lf.drop (i+ 1)):=by rw[<-yZ,b9]
     rw[this,aR];lia
    rw[et2,aR]at le;dsimp only[gU];refine⟨_,hb,gf (fZ rfl) (io q' _ xs _ ⟨rfl,rfl,eq',hl',O2,fun r O=>?_⟩)⟩;have T':=gb O (.lst (xs++zs));refine⟨Sb.trans T',r,_,_,rfl,f7,?_⟩;rw[et2,bq];exact(iq.app il').mono (gJ.tk T')
   ·refine fun X Hb=>f8 fun Sb=>fab fun q' xs o8=>fae fun B eq' iq=>?_;subst B;rw[iea.length,bA]at iq;have u:=Ta.trans Sb;have Cb:=C9.same u;have ieb:=iea.same Sb;have J:=u _ _ S;have lu:=ieb.length;refine⟨st,rfl,⟨_,NT J⟩,fun D hD=>?_⟩;refine Ee (A:=fun H v (x:Ent)=>EnA H v x) (g:=fun x:Ent=>V.int x.p) (fun i v U hv p=>?_) (Lz d2 gd) hD rfl (fun j U p hj=>zm J p O2) (fun U p=>by rw[<-lu];exact zo J p) (fun j U v H5 p y=>⟨y.1,y.2 _ (NT (p _ _ J))⟩) (fun e v U R he p a kk=>?_) fun U p eD=>?_;·refine eaa (ieb.get hv) fun e h1 h2=>?_;exact⟨e,h1,h2.same p⟩
    ·obtain⟨b,l,zs,hb,_,_⟩:=a;exact⟨_,hb,gf (fZ rfl) (kk _ (gJ.refl _))⟩
    have Cc:=Cb.same p;refine⟨_,(ii _ _ ⟨Cc.pr.o,r6 _ _ _⟩),?_⟩;have eD':U D=some (.lst (((i6 ts 0).map fun r:Nat=>(r:Int)).map V.int)):=by rw[<-d2,bH];exact eD
    have er':U tl=some (.lst (((i6 ts 0).map fun r:Nat=>(r:Int)).map V.int)):=by rw[bH];exact Cc.pr.r
    obtain⟨g1,g2⟩:=k_g ((i6 ts 0).map fun r:Nat=>(r:Int));refine G7 eD' er' (qC _) (qC _) g1 g2 ?_;dsimp only[onB,fo];refine ij ⟨_,(ii _ _ ⟨p _ _ (u _ _ o9),f3⟩),?_⟩;refine JB rfl ?_;obtain⟨g3,g4⟩:=me_g s0.me.reverse;rw[<-d3]at iq;refine G7 (p _ _ (u _ _ em9)) (p _ _ eq') (im9.mono (gJ.tk (u.trans p))) (iq.mono (gJ.tk p)) g3 g4 ?_;dsimp only[onB,fo];refine ij ?_;dsimp only[jW];refine⟨_,(ii _ _ ⟨p _ _ (u _ _ o9),f5⟩),⟨_,rfl,⟨true,rfl,iK ⟨_,(ii _ _ ⟨p _ _ (u _ _ o9),f5⟩),_,(ii _ _ ⟨p _ _ (u _ _ o9),f4⟩),ha,_,rfl,.inl (NT (p _ _ (u _ _ eh9))),?_⟩⟩⟩⟩;show Q (.bl (false ^^ decide ((s0.bg:Int)=(ys1.length:Int)))) _;rw[gT O2];exact q _
  ·rw[hV z];exact iK (q _)
open GR.Internal (stP stT)
abbrev Lt:=List (Str×Tok×Zx)
abbrev Lt.kv (l:Lt):List (Key×V):=l.map fun p=>(Me p.1,V.ref p.2.2)
inductive Al (K:Zp):Lt->List (Str×List Bool)->Prop
 |nil:Al K [] []
 |cons {k:Str} {t:Tok} {q:Zx} {ps:List Bool} {l:Lt} {s:List (Str×List Bool)} (h:∀H:Hp,SqT K H q (ps.map pV)) (r:Al K l s):Al K ((k,t,q)::l) ((k,ps)::s)
def Al.go {K:Zp} {h:Str}:∀{l:Lt} {s:List (Str×List Bool)},Al K l s->∀b,(s.find? fun p=>decide (p.1=h)).map (·.2)=some b->∃q,jL l.kv (Me h)=some (.ref q)/\∀H,SqT K H q (b.map pV):=fun a=>by
 induction a with
 |nil=>intro b e;cases e
 |@cons k t q b l s x r i=>
  rw[aS];by_cases e:k=h;·subst e;rw[gT rfl,Lt.kv,aD,jd rfl];intro b z;cases z;exact⟨q,rfl,x⟩
  ·rw[hV e,Lt.kv,aD,jf (fun z=>e (Nv z))];exact i
def wI {P:Zu} {w:Zv} {K:Zp} {b:Zc} {a:Zx} {n:Nat} {c:Array DictEntry} {l:Lt} (m:b "STEADY_FORMS"=some (.ref a)) (j:(a==MB)=false) (g:K.lookup a=some ⟨.type "dict",none,.dict c n,#[]⟩) (i:c.toList=l.map fun p=>⟨Mg w.params p.1,.str p.1 p.2.1,.ref p.2.2⟩) (f:(l.map (·.1)).Nodup) (h:Al K l stT):Dk P w K b:=⟨a,m,l.kv,zl j g i f,fun k d e=>by unfold stP at e;exact h.go d e⟩
def LA {P:Zu} {w:Zv} {K:Zp} {x:Zc} (T:Txt K x) {a:Zx} {n:Nat} {y:Array DictEntry} {l c t g q k r h f j u e b s i d:Tok} (m:x "WORKERS"=some (.ref a)) (C:(a==MB)=false) (A:K.lookup a=some ⟨.type "dict",none,.dict y n,#[]⟩) (B:y.toList=([("num",l,T.d6.a),("name",c,T.d7.a),("fn",t,T.d8.a),("call",g,T.d9.a),("let",q,T.d10.a),("rec",k,T.d11.a),("get",r,T.d12.a),("tag",h,T.d13.a),("case",f,T.d14.a),("row",j,T.d15.a),("at",u,T.d16.a),("join",e,T.d17.a),("size",b,T.d18.a),("add",s,T.d19.a),("sub",i,T.d20.a),("less",d,T.d21.a)]:Lt).map fun p=>⟨Mg w.params p.1,.str p.1 p.2.1,.ref p.2.2⟩):Wk P w T:=⟨a,m,_,zl C A B (by show(["num","name","fn","call","let","rec","get","tag","case","row","at","join","size","add","sub","less"]:Zd).Nodup;decide+kernel),fun z v=>by
  cases z with
  |num _=>exact⟨_,_,O1,.num,_,rfl⟩
  |name _=>exact⟨_,_,O1,.name,_,rfl⟩
  |fn _ _=>exact⟨_,_,O1,.fn,_,_,rfl⟩
  |tag _ _=>exact⟨_,_,O1,.tag,_,_,rfl⟩
  |lt _ _ _=>exact⟨_,_,O1,.lt,_,_,_,rfl⟩
  |get _ _=>exact⟨_,_,O1,.get,_,_,rfl⟩
  |rcd _=>exact⟨_,_,O1,.rcd,_,rfl⟩
  |case _ _=>exact⟨_,_,O1,.case,_,_,rfl⟩
  |row _=>exact⟨_,_,O1,.row,_,rfl⟩
  |op o D=>
   have v:o∈plain:=v;simp only[plain,ao,bI,or_false]at v;rcases v with rfl|rfl|rfl|rfl|rfl|rfl|rfl;·exact⟨_,_,O1,.size,_,rfl⟩
   ·exact⟨_,_,O1,.ix,_,rfl⟩
   ·exact⟨_,_,O1,.call,_,rfl⟩
   ·exact⟨_,_,O1,.join,_,rfl⟩
   ·exact⟨_,_,O1,.add,_,rfl⟩
   ·exact⟨_,_,O1,.sub,_,rfl⟩
   ·exact⟨_,_,O1,.less,_,rfl⟩⟩
end K68.Internal

structure PySem.W.Fast:Prop where
 (tw3111207335923224001 tw2869525409375925340 tw9418466052986798349 tw394355178994045529 tw1111987756078522663 tw4652703522927535116 tw10033004809684056481 tw7792616014683302460 tw9942240085020726027 tw1890146787243449917 tw16537579231340962368 tw11307176468598107609 tw5608479803261256492 tw11502875338084951056 tw9650622439710631997 tw17623499875199141304 tw17950098906053952215 tw17683828227934792381 tw16820143443340974666 tw1717950764020276549 tw17834891953617627964 tw7043106263006687930 tw4382372670909159068 tw992125777156460356 tw10651471065869194481 tw14384945789227401312 tw16630780840838460082 tw16803890549854189771 tw18192976087188009471 tw13000702615114899578 tw1865558631996956920 tw16062666481461366368 tw4136184590803481840 tw7439109197538813114 tw3664206975861126214 tw15892132954066236630 tw9922043395667136424 tw14136310195264406764 tw12586044970560616677 tw855671340158038637 tw7943668345314454328 tw6979060538905538120 tw8766564623659501835 tw11890644579326777625 tw7341250332589706861 tw12220054513088300188 tw4533192824549082472 tw3374913223970040814 tw4046630337676869001 tw15037016586944132839 tw3193623479262911834 tw16045981248349791857 tw2566302186827449750 tw16679317836678565006 tw16112381134807309806 tw11536766240889572240 tw18335563288975891154 tw16635534481936972293 tw16948932868890646010 tw11532571379809960257 tw3008712372296531705 tw14518012962588397700 tw7010380283131785719 tw9520029304747332489 tw11042587123192790469 tw18227931322949556834 tw812357110624417593 tw10803392388944503047 tw2641703947747947249 tw1211073504526829950 tw12657804283121116516 tw17458047338017200270 tw4521695890907421004 tw13502708043981682547 tw12560479625677494517 tw147273621826669647 tw729629590798285925 tw9007039896844923997 tw13673831845070353581 tw15400443747387619810 tw10056807067937921718 tw13653519325198754802 tw10297784000709929827 tw9533690950330720358 tw8224408371771586217 tw7624904376867623865 tw16780885556169117836 tw8457840503964374457 tw16087715623504079784 tw15848146028050346504 tw8351834918071334690 tw17519783281481006151 tw9322076514170776885 tw11830023637857581193 tw7614848813090047669 tw1472863396217052503 tw9132153433426381912 tw12398396758654396596 tw13581540142752102490 tw12044902209785303291 tw8321356854315191913 tw17519221627416928213 tw12976640157432266051 tw14743072489233175847 tw1121013355709000886 tw3533368325021299564 tw17665951018645406417 tw2829930231220966730 tw16653584046657177585 tw17291925444910586424 tw9452740619545914882 tw11970249593328298154 tw10290627696680584598 tw14092285257921128312 tw15913476451152449013 tw8443035458834375637 tw6999352521030003101 tw17450484567177450827 tw17593437426764301840 tw1201487594083885083 tw9622931456396681978 tw7118051965193686990 tw11433567283514399154 tw15889200585816816711 tw11684270317280057964 tw13363463165332296562 tw6350268001220613699 tw12198046600367233051 tw17168335470113542221 tw16309917407199118220 tw2675269531991228172 tw2329524423337027995 tw7165740011870669083 tw14013355077727321564 tw4851214935116681492 tw7450179674196606675 tw18010792903101300268 tw18000365440813704251 tw7986234671430131516 tw2701226594607876655 tw9220429439573088714 tw11123470099283233957 tw925186617072805308 tw152254140154776467 tw24085878815051246 tw17035961627754282199 tw123143727897692381 tw6464966616773046123 tw9156894633741016600 tw10835073001794059379 tw5147908275816890715 tw10473904214866426700 tw16096373876517174871 tw8718024877059078638 tw17816092881735676453 tw5230191089886451543 tw4998913474908791550 tw18417845832413824235 tw17934006796227294999 tw3160799957427694911 tw6546086515466228316 tw3343966528915117955 tw8288860687479880136 tw1899588028277828922 tw6718251155822979254 tw1421027014807262844 tw16462884664941327210 tw12404721857422863572 tw16191147310311882556 tw7670533814818157483 tw150247544952971886 tw17590314747965342737 tw5600784157038051785 tw15114039782870388447 tw6634190159005625304 tw12595000078564873506 tw875421652855057771 tw108614131926078960 tw18155925143303796221 tw16146988858304661140 tw15085397701803076577 tw1041705273676396140 tw10981906430711353732 tw17094330805973578110 tw2507728359763084902 tw2927629009022401100 tw10327604623080223287 tw12115191967941038677 tw14020973319040872770 tw13405142221057623724 tw925743733421675799 tw12202653456998719964 tw16624324781542353025 tw13306855291102081534 tw6435499098330264108 tw17793787797121010575 tw10313909575918231889 tw15939823196018460564 tw223486667972004286 tw3032287457514720605 tw10151793794664966935 tw4682352595143629195 tw12165128672909001180 tw18188999950242351482 tw6787169553334770936 tw17799084691332604027 tw5488671416863794419 tw4553776357903584033 tw9383627224232890177 tw1668101344706709379 tw7948175238906427202 tw15156469467912207764 tw14603586936033348481 tw12209361547637300831 tw12708867857738853270 tw12541898677411793790 tw2423054565947041168 tw13567715039488640298 tw15160288177331333490 tw6245465434116586990 tw12182018275030960514 tw7806664206305369169 tw1390468052668090387 tw14875516543317525644 tw722095933521980986 tw12976369085773088303 tw5356588030578300708 tw8384156374358491913 tw15266335358609491777 tw5206457100660698234 tw7182604676720533903 tw12678439983054615575 tw12812011818370300808 tw8075386990589941049 tw16564328073232987377 tw9988878916037927547 tw8897298722210798925 tw2521653108660759284 tw8138378599993418284 tw1454653206087637800 tw6660348706126775712 tw8699650148147582445 tw18195487954390168616 tw12926746055937385897 tw8403078781713740773 tw16560408064059338888 tw11295756345817025369 tw1533402375912976889 tw3858158458793900803 tw1204744473652090031 tw17166042408456552946 tw8543220310902274977 tw14553472929442251241 tw13424834559882940925 tw15612260429319500640 tw15960231547329374234 tw2373439531530958746 tw15981305287989839484 tw2386120081149951884 tw2944195857891671689 tw6999501169133322233:True)
namespace K68.Internal
open PySem L2.Internal
def all_mk {l:PySem.W.OpenLaw} {w:Zv} {K:Zp} {h:Zt} {mg:Zc} {fa fL p4 pW bg bh bi bj bk bl bm bn bo bp M N O P Q R pD S U V Y Z aa ab ac ad o p C1 C2 C3 C4 a g C7 b:Zx} {u1 u2 u3 bQ bR bS bT bU bV bW bX bY bZ ar au av aw ax u5 u6 u7 u8 u9 bq br bs cF cG cH cI cJ cK cM cN cO cP b0 b1 b2 b3 b4 b5 bt bu bv bw bx bz bA bB bC af ag ay az aA aB aC aD aE aF aG aH aI aJ aK aM aN aO aP aQ aR ah ai aj ak:Tok} {cQ b6 b7 b8 b9 ca cb cc cd ce aS aT cR bD:Option Zx} {n4 nW nD cS cT cU cV cW cX cY cZ c0 cf cg:Nat} {c9 ch ci cj ck cl cm cn co cp aU aV da:Array (Option Zz)} {db bE bF bG al bH:Zz} (X:K.In h) (G:h.Ns L7 mg) (hfa:mg "law"=some (.ref fa)) (g1:eF K L7 "MOST_JOINED"=some (some (.int 60 u1))) (g2:eF K L7 "LETTERS"=some (some (.str "abcdefghijklmnopqrstuvwxyz" u2))) (g3:eF K L7 "FIGURES"=some (some (.str "0123456789" u3))) (g4:eF K L7 "KEPT_WORDS"=some (some (.ref p4))) (h4:K.lookup p4=some ⟨.type "tuple",cQ,.seq #[.str "def" bQ,.str "fn" bR,.str "call" bS,.str "let" bT,.str "rec" bU,.str "get" bV,.str "tag" bW,.str "case" bX,.str "row" bY,.str "at" bZ,.str "join" ar,.str "size" au,.str "add" av,.str "sub" aw,.str "less" ax] n4,c9⟩) (g5:eF K L7 "MOST_FIGURES"=some (some (.int 60 u5))) (g6:eF K L7 "MOST_SIGNS"=some (some (.int 12 u6))) (g7:eF K L7 "MOST_DEFINITIONS"=some (some (.int 12 u7))) (g8:eF K L7 "MOST_FIELDS"=some (some (.int 6 u8))) (g9:eF K L7 "MOST_ARMS"=some (some (.int 6 u9))) (dc:eF K L7 "MOST_THINGS"=some (some (.int 8 bq))) (dd:eF K L7 "MOST_PLACES"=some (some (.int 160 br))) (de:eF K L7 "MOST_NEST"=some (some (.int 24 bs))) (a1:Fm K "parts_of" qK) (a2:Fm K "places_in" oR) (a3:Fm K "flat" BZ) (a4:Fm K "first_parts" mS) (a5:Fm K "held_value" nQ) (a6:Fm K "work_num" qL) (a7:Fm K "work_name" oS) (a8:Fm K "work_fn" sO) (a9:Fm K "work_call" oT) (df:Fm K "work_let" qM) (dg:Fm K "work_rec" qN) (dh:Fm K "work_get" qO) (di:Fm K "work_tag" qP) (dj:Fm K "work_case" oU) (dk:Fm K "work_row" qQ) (dl:Fm K "work_at" sP) (dm:Fm K "work_join" oW) (dn:Fm K "work_size" oX) (dp:Fm K "work_add" qR) (dq:Fm K "work_sub" qS) (dr:Fm K "work_less" oY) (ds:Fm K "run" FZ) (dt:Fm K "words_of" qT) (du:Fm K "is_name" sQ) (dv:Fm K "is_number" oZ) (dw:Fm K "made_of" sR) (dx:Fm K "read" B0) (dy:Fm K "check_count" mU) (dz:Fm K "homes_of" qU) (dA:Fm K "refuse_twice" mF) (dB:Fm K "words_once" nR) (dC:Fm K "home_of" sS) (dD:Fm K "root_scopes" mV) (dE:Fm K "inner_scopes" mG) (dF:Fm K "widened" sU) (dH:Fm K "_law_stem" ph) (dI:Fm K "_law_words" nS) (dJ:Fm K "_law_leaf" pj) (dK:Fm K "_law_node" pk) (dL:Fm K "_law_held" pA) (dM:Fm K "_law_let" qV) (dN:Fm K "_law_pop" qW) (dO:Fm K "_law_number" mW) (dP:Fm K "_law_by_shape" lV) (dS:Fm K "_law_odd" qX) (dT:Fm K "_law_pair" pB) (dU:Fm K "_law_single" mX) (dV:Fm K "_law_step" pE) (dW:Fm K "_law_ended" nT) (dX:Fm K "_law_program" mH) (dY:Fm K "_law_whole" nU) (dZ:Fm K "_law_two_wholes" kT) (d0:Fm K "_law_within" mY) (d1:Fm K "_law_makes" nV) (d2:Fm K "_law_fits" pG) (d3:Fm K "_law_met" qY) (d4:Fm K "_law_named" nX) (d5:Fm K "_law_come" pH) (c1:eF K L7 "FlowError"=some (some (.ref C1))) (c2:eF K L7 "BadText"=some (some (.ref C2))) (c3:eF K L7 "Twice"=some (some (.ref C3))) (c4:eF K L7 "NoName"=some (some (.ref C4))) (c5:Cm K "Machine" a) (j:dG K (.ref a) "program"=some none) (q:dG K (.ref a) "homes"=some none) (r:dG K (.ref a) "turns"=some none) (t:dG K (.ref a) "begun"=some none) (aW:dG K (.ref a) "end"=some none) (u:dG K (.ref a) "meets"=some none) (aX:dG K (.ref a) "had"=some none) (n:dG K (.ref a) "defined"=some none) (y:dG K (.ref a) "steps"=some none) (A:dG K (.ref a) "ready"=some none) (bI:Mm K a "__init__" "Machine.__init__" ky) (eb:Mm K a "work_program" "Machine.work_program" jx) (ec:Mm K a "work_steps" "Machine.work_steps" jM) (ed:Mm K a "begin" "Machine.begin" lW) (ef:Mm K a "work_parts" "Machine.work_parts" jN) (eg:Mm K a "take_ready" "Machine.take_ready" jO) (eh:Mm K a "finish" "Machine.finish" lM) (ei:Mm K a "go_into" "Machine.go_into" kU) (ej:Mm K a "comes" "Machine.comes" lX) (ek:Mm K a "comes_as" "Machine.comes_as" kz) (el:Mm K a "both_come_as" "Machine.both_come_as" jz) (c6:Cm K "Run" g) (aY:dG K (.ref g) "end"=some none) (B:dG K (.ref g) "value"=some none) (C:dG K (.ref g) "meets"=some none) (aZ:dG K (.ref g) "had"=some none) (D:dG K (.ref g) "begun"=some none) (bJ:Mm K g "__init__" "Run.__init__" mI) (c7:Cm K "Program" C7) (E:dG K (.ref C7) "names"=some none) (F:dG K (.ref C7) "roots"=some none) (am:dG K (.ref C7) "rows"=some none) (bK:Mm K C7 "__init__" "Program.__init__" kC) (c8:Cm K "Reader" b) (H:dG K (.ref b) "words"=some none) (I:dG K (.ref b) "taken"=some none) (an:dG K (.ref b) "rows"=some none) (bL:Mm K b "__init__" "Reader.__init__" kW) (ep:Mm K b "ahead" "Reader.ahead" mJ) (eq:Mm K b "take" "Reader.take" mZ) (er:Mm K b "pass_over" "Reader.pass_over" kE) (es:Mm K b "take_name" "Reader.take_name" kF) (et:Mm K b "take_expr" "Reader.take_expr" kG) (eu:Mm K b "take_row" "Reader.take_row" kX) (ev:Mm K b "take_form" "Reader.take_form" kH) (ew:Mm K b "take_steady" "Reader.take_steady" jP) (ex:Mm K b "take_fields" "Reader.take_fields" jQ) (ey:Mm K b "take_arms" "Reader.take_arms" kI) (ez:Mm K b "take_things" "Reader.take_things" jR) (v1:dR K (.ref g) (.ref g)=some true) (c:eF K L7 "ValueError"=some none) (a0:eF K L7 "all"=some none) (ao:eF K L7 "bool"=some none) (ap:eF K L7 "dict"=some none) (f:eF K L7 "enumerate"=some none) (ba:eF K L7 "int"=some none) (d:eF K L7 "isinstance"=some none) (bb:eF K L7 "len"=some none) (aq:eF K L7 "list"=some none) (bc:eF K L7 "max"=some none) (J:eF K L7 "range"=some none) (i:eF K L7 "reversed"=some none) (bd:eF K L7 "str"=some none) (be:eF K L7 "sum"=some none) (L:eF K L7 "tuple"=some none) (bf:eF K L7 "zip"=some none) (w0:eF K L7 "work_num"=some (some (.ref bg))) (w1:eF K L7 "work_name"=some (some (.ref bh))) (w2:eF K L7 "work_fn"=some (some (.ref bi))) (w3:eF K L7 "work_call"=some (some (.ref bj))) (w4:eF K L7 "work_let"=some (some (.ref bk))) (w5:eF K L7 "work_rec"=some (some (.ref bl))) (w6:eF K L7 "work_get"=some (some (.ref bm))) (w7:eF K L7 "work_tag"=some (some (.ref bn))) (w8:eF K L7 "work_case"=some (some (.ref bo))) (w9:eF K L7 "work_row"=some (some (.ref bp))) (eB:eF K L7 "work_at"=some (some (.ref M))) (eC:eF K L7 "work_join"=some (some (.ref N))) (eD:eF K L7 "work_size"=some (some (.ref O))) (eE:eF K L7 "work_add"=some (some (.ref P))) (eG:eF K L7 "work_sub"=some (some (.ref Q))) (eH:eF K L7 "work_less"=some (some (.ref R))) (gW:eF K L7 "WORKERS"=some (some (.ref pW))) (sW:(pW==MB)=false) (hW:K.lookup pW=some ⟨.type "dict",none,.dict #[⟨Mg w.params "num",.str "num" cF,.ref bg⟩,⟨Mg w.params "name",.str "name" cG,.ref bh⟩,⟨Mg w.params "fn",.str "fn" cH,.ref bi⟩,⟨Mg w.params "call",.str "call" cI,.ref bj⟩,⟨Mg w.params "let",.str "let" cJ,.ref bk⟩,⟨Mg w.params "rec",.str "rec" cK,.ref bl⟩,⟨Mg w.params "get",.str "get" cM,.ref bm⟩,⟨Mg w.params "tag",.str "tag" cN,.ref bn⟩,⟨Mg w.params "case",.str "case" cO,.ref bo⟩,⟨Mg w.params "row",.str "row" cP,.ref bp⟩,⟨Mg w.params "at",.str "at" b0,.ref M⟩,⟨Mg w.params "join",.str "join" b1,.ref N⟩,⟨Mg w.params "size",.str "size" b2,.ref O⟩,⟨Mg w.params "add",.str "add" b3,.ref P⟩,⟨Mg w.params "sub",.str "sub" b4,.ref Q⟩,⟨Mg w.params "less",.str "less" b5,.ref R⟩] nW,#[]⟩) (gD:eF K L7 "STEADY_FORMS"=some (some (.ref pD))) (sD:(pD==MB)=false) (hD:K.lookup pD=some ⟨.type "dict",none,.dict #[⟨Mg w.params "fn",.str "fn" bt,.ref S⟩,⟨Mg w.params "call",.str "call" bu,.ref U⟩,⟨Mg w.params "let",.str "let" bv,.ref V⟩,⟨Mg w.params "get",.str "get" bw,.ref Y⟩,⟨Mg w.params "tag",.str "tag" bx,.ref Z⟩,⟨Mg w.params "at",.str "at" bz,.ref aa⟩,⟨Mg w.params "join",.str "join" bA,.ref ab⟩,⟨Mg w.params "size",.str "size" bB,.ref ac⟩,⟨Mg w.params "add",.str "add" bC,.ref ad⟩,⟨Mg w.params "sub",.str "sub" af,.ref o⟩,⟨Mg w.params "less",.str "less" ag,.ref p⟩] nD,#[]⟩) (eK:K.lookup S=some ⟨.type "tuple",b6,.seq #[.str "name" ay,.str "expr" az] cS,ch⟩) (eL:K.lookup U=some ⟨.type "tuple",b7,.seq #[.str "expr" aA,.str "expr" aB] cT,ci⟩) (eM:K.lookup V=some ⟨.type "tuple",b8,.seq #[.str "name" aC,.str "expr" aD,.str "expr" aE] cU,cj⟩) (eN:K.lookup Y=some ⟨.type "tuple",b9,.seq #[.str "expr" aF,.str "name" aG] cV,ck⟩) (eO:K.lookup Z=some ⟨.type "tuple",ca,.seq #[.str "name" aH,.str "expr" aI] cW,cl⟩) (eP:K.lookup aa=some ⟨.type "tuple",cb,.seq #[.str "expr" aJ,.str "expr" aK,.str "expr" aM] cX,cm⟩) (eQ:K.lookup ab=some ⟨.type "tuple",cc,.seq #[.str "expr" aN,.str "expr" aO] cY,cn⟩) (eR:K.lookup ac=some ⟨.type "tuple",cd,.seq #[.str "expr" aP] cZ,co⟩) (eS:K.lookup ad=some ⟨.type "tuple",ce,.seq #[.str "expr" aQ,.str "expr" aR] c0,cp⟩) (cq:K.lookup o=some ⟨.type "tuple",aS,.seq #[.str "expr" ah,.str "expr" ai] cf,aU⟩) (cr:K.lookup p=some ⟨.type "tuple",aT,.seq #[.str "expr" aj,.str "expr" ak] cg,aV⟩) (aL:eF K L7 "law"=some (some (.ref fL))) (lL:K.lookup fL=some ⟨db,cR,.func (ee "law" "law" (mE vG) (lK vG) (gx vG) .none bE bF bG bD al bH),da⟩) (cL:eA K al "law"=true) (kL:dQ K (.ref fL)=true):
  ∃fd:Zs,(∀(s:Zy) (v:Zz),BindsTo s fd ⟨[v],[]⟩ [("_law_script",v)])/\∀base:Zt,K.In base->base.Ns L7 mg->uC l.prog w K mg base CX0 150 fa fd ["_law_script"] (zF K):=by have e:=hfa.symm.trans (eI X G aL);cases e;have T:Txt K mg:=⟨u1,eI X G g1,u2,eI X G g2,u3,eI X G g3,p4,eI X G g4,fun _=> .inr ⟨_,_,_,h4,rfl,rfl,JU,(.cons ⟨_,rfl⟩ (.cons ⟨_,rfl⟩ (.cons ⟨_,rfl⟩ (.cons ⟨_,rfl⟩ (.cons ⟨_,rfl⟩ (.cons ⟨_,rfl⟩ (.cons ⟨_,rfl⟩ (.cons ⟨_,rfl⟩ (.cons ⟨_,rfl⟩ (.cons ⟨_,rfl⟩ (.cons ⟨_,rfl⟩ (.cons ⟨_,rfl⟩ (.cons ⟨_,rfl⟩ (.cons ⟨_,rfl⟩ (.cons ⟨_,rfl⟩ .nil)))))))))))))))⟩,u5,eI X G g5,u6,eI X G g6,u7,eI X G g7,u8,eI X G g8,u9,eI X G g9,bq,eI X G dc,br,eI X G dd,bs,eI X G de,a1.x X G,a2.x X G,a3.x X G,a4.x X G,a5.x X G,a6.x X G,a7.x X G,a8.x X G,a9.x X G,df.x X G,dg.x X G,dh.x X G,di.x X G,dj.x X G,dk.x X G,dl.x X G,dm.x X G,dn.x X G,dp.x X G,dq.x X G,dr.x X G,ds.x X G,dt.x X G,du.x X G,dv.x X G,dw.x X G,dx.x X G,dy.x X G,dz.x X G,dA.x X G,dB.x X G,dC.x X G,dD.x X G,dE.x X G,dF.x X G,dH.x X G,dI.x X G,dJ.x X G,dK.x X G,dL.x X G,dM.x X G,dN.x X G,dO.x X G,dP.x X G,dS.x X G,dT.x X G,dU.x X G,dV.x X G,dW.x X G,dX.x X G,dY.x X G,dZ.x X G,d0.x X G,d1.x X G,d2.x X G,d3.x X G,d4.x X G,d5.x X G,⟨C1,eI X G c1⟩,⟨C2,eI X G c2⟩,⟨C3,eI X G c3⟩,⟨C4,eI X G c4⟩,c5.x X G,j,q,r,t,aW,u,aX,n,y,A,bI.x,c5.k bI.x,eb.x,ec.x,ed.x,ef.x,eg.x,eh.x,ei.x,ej.x,ek.x,el.x,c6.x X G,aY,B,C,aZ,D,bJ.x,c6.k bJ.x,c7.x X G,E,F,am,bK.x,c7.k bK.x,c8.x X G,H,I,an,bL.x,c8.k bL.x,ep.x,eq.x,er.x,es.x,et.x,eu.x,ev.x,ew.x,ex.x,ey.x,ez.x,v1,eJ X G c,eJ X G a0,eJ X G ao,eJ X G ap,eJ X G f,eJ X G ba,eJ X G d,eJ X G bb,eJ X G aq,eJ X G bc,eJ X G J,eJ X G i,eJ X G bd,eJ X G be,eJ X G L,eJ X G bf⟩;have z:=(eI X G w0).symm.trans T.d6.m;cases z;have z:=(eI X G w1).symm.trans T.d7.m;cases z;have z:=(eI X G w2).symm.trans T.d8.m;cases z;have z:=(eI X G w3).symm.trans T.d9.m;cases z;have z:=(eI X G w4).symm.trans T.d10.m;cases z;have z:=(eI X G w5).symm.trans T.d11.m;cases z;have z:=(eI X G w6).symm.trans T.d12.m;cases z;have z:=(eI X G w7).symm.trans T.d13.m;cases z;have z:=(eI X G w8).symm.trans T.d14.m;cases z;have z:=(eI X G w9).symm.trans T.d15.m;cases z;have z:=(eI X G eB).symm.trans T.d16.m;cases z;have z:=(eI X G eC).symm.trans T.d17.m;cases z;have z:=(eI X G eD).symm.trans T.d18.m;cases z;have z:=(eI X G eE).symm.trans T.d19.m;cases z;have z:=(eI X G eG).symm.trans T.d20.m;cases z;have z:=(eI X G eH).symm.trans T.d21.m;cases z;exact⟨ee "law" "law" (mE vG) (lK vG) (gx vG) .none bE bF bG bD al bH,fun s v=> .of_eq rfl,fun base _ _=>G9 T (wI (l:=[("fn",bt,S),("call",bu,U),("let",bv,V),("get",bw,Y),("tag",bx,Z),("at",bz,aa),("join",bA,ab),("size",bB,ac),("add",bC,ad),("sub",af,o),("less",ag,p)]) (eI X G gD) sD hD rfl (by show(["fn","call","let","get","tag","at","join","size","add","sub","less"]:Zd).Nodup;decide+kernel) (.cons (fun _=> .inr ⟨_,_,_,eK,rfl,rfl,lJ,(.cons ⟨_,rfl⟩ (.cons ⟨_,rfl⟩ .nil))⟩)<| .cons (fun _=> .inr ⟨_,_,_,eL,rfl,rfl,lJ,(.cons ⟨_,rfl⟩ (.cons ⟨_,rfl⟩ .nil))⟩)<| .cons (fun _=> .inr ⟨_,_,_,eM,rfl,rfl,lC,(.cons ⟨_,rfl⟩ (.cons ⟨_,rfl⟩ (.cons ⟨_,rfl⟩ .nil)))⟩)<| .cons (fun _=> .inr ⟨_,_,_,eN,rfl,rfl,lJ,(.cons ⟨_,rfl⟩ (.cons ⟨_,rfl⟩ .nil))⟩)<| .cons (fun _=> .inr ⟨_,_,_,eO,rfl,rfl,lJ,(.cons ⟨_,rfl⟩ (.cons ⟨_,rfl⟩ .nil))⟩)<| .cons (fun _=> .inr ⟨_,_,_,eP,rfl,rfl,lC,(.cons ⟨_,rfl⟩ (.cons ⟨_,rfl⟩ (.cons ⟨_,rfl⟩ .nil)))⟩)<| .cons (fun _=> .inr ⟨_,_,_,eQ,rfl,rfl,lJ,(.cons ⟨_,rfl⟩ (.cons ⟨_,rfl⟩ .nil))⟩)<| .cons (fun _=> .inr ⟨_,_,_,eR,rfl,rfl,se,(.cons ⟨_,rfl⟩ .nil)⟩)<| .cons (fun _=> .inr ⟨_,_,_,eS,rfl,rfl,lJ,(.cons ⟨_,rfl⟩ (.cons ⟨_,rfl⟩ .nil))⟩)<| .cons (fun _=> .inr ⟨_,_,_,cq,rfl,rfl,lJ,(.cons ⟨_,rfl⟩ (.cons ⟨_,rfl⟩ .nil))⟩)<| .cons (fun _=> .inr ⟨_,_,_,cr,rfl,rfl,lJ,(.cons ⟨_,rfl⟩ (.cons ⟨_,rfl⟩ .nil))⟩)<| .nil)) (LA T (eI X G gW) sW hW rfl) (sy (st:=vG) lL cL kL)⟩
def walk {l:PySem.W.OpenLaw} {q:Zu} {loose:Zd} {XP:(Str->Option Zz)->Zt->Prop} {YP:Zv->Zt->Prop} {d:DefRec} {K:Params->Zp} (hn:l.most=some 63) (hdf:d.params.defaults=[])
  (hY:∀(w:Zv) (h:Zt),YP w h->(K w.params).In h)
  (F:∀(w:Zv) (mg:Zc) (fa:Zx) (h:Zt),(K w.params).In h->h.Ns L7 mg->mg d.name=some (.ref fa)->
   ∃fd:Zs,(∀(s:Zy) (u:Zz),BindsTo s fd ⟨[u],[]⟩ [("_law_script",u)])/\∀base:Zt,(K w.params).In base->base.Ns L7 mg->uC l.prog w (K w.params) mg base CX0 150 fa fd ["_law_script"] (zF (K w.params))):
  PySem.W.WalkO q loose XP YP l.row.toRowW d [] (fun f vs=>PySem.call f vs):=
 L2.Internal.walk_of (n:=63) (k:=150) (x:="_law_script") (CX:=fun _=>CX0) (sp:=fun w=>zF (K w.params)) hn O3 hdf ⟨rfl,O3,O3⟩ hY F (fun _ _ a ns hl _ hS=>⟨a,ns,rfl,hS,hl,fun _=>rfl⟩) fun _ _ _ _ _ z=>z
end K68.Internal
open PySem PySem.W PyProof.Rows
set_option maxRecDepth 100000 in
set_option maxHeartbeats 0 in
theorem PySem.Challenge.cw_flowkinds_k68_whole_trace_holds : PySem.Challenge.rw_flowkinds_k68_whole_trace.Holds := by
 w_on;o_law;k_head;(case hw => w_witness2);k_fill;refine K68.Internal.walk (l:=PySem.Challenge.rw_flowkinds_k68_whole_trace) rfl rfl (fun w h Y=>PySem.W.kIn_of Y) ?F;case F =>intro w mg fa h KX G hmg;apply K68.Internal.all_mk KX G hmg;all_goals first|(apply K68.Internal.Fm.mk<;>k_is)|(apply K68.Internal.Mm.mk<;>k_is)|(apply K68.Internal.Cm.mk<;>k_is)|k_is|rfl
