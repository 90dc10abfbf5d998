import PyProof.Rows.All
import Wide.All
import OpenK.AllK
import Wide.FinOn
import Lean
import PyProof.EqAt
import PyProof.EqKinds
import PyProof.TupleCall
import PyProof.NeKinds
import PySem.Challenge.RW_flowkinds_k22_laid_by_places
set_option Elab.async false
set_option linter.all false
set_option maxRecDepth 100000
set_option maxHeartbeats 4000000
set_option genInjectivity false
set_option genSizeOf false
set_option bootstrap.genMatcherCode false
set_option compiler.extract_closed false
section
variable{Q:Prop}{A:Sort u}{B:Sort v}{C:Sort w}{D:Sort x}{E:Sort y}{F:Sort z}{G:Sort r}{H:Sort s}{I:Sort t}{J:Sort q}{K:Sort m}{L:Sort n}
def eai{p q r s t u:Prop}(Y:p∧q∧r∧s∧t∧u)(Z:p→q→r→s→t→u→Q):Q:=by obtain⟨p,q,r,s,t,u⟩:=Y;exact Z p q r s t u
def eab{p q r s t:Prop}(Y:p∧q∧r∧s∧t)(Z:p→q→r→s→t→Q):Q:=by obtain⟨p,q,r,s,t⟩:=Y;exact Z p q r s t
def eaj{p q r s:Prop}(Y:p∧q∧r∧s)(Z:p→q→r→s→Q):Q:=by obtain⟨p,q,r,s⟩:=Y;exact Z p q r s
def ean{p q:Prop}{r s:A→Prop}(Y:p∧q∧∃a,r a∧s a)(Z:p→q→∀a,r a→s a→Q):Q:=by obtain⟨p,q,a,r,s⟩:=Y;exact Z p q a r s
def eao{p q r:Prop}(Y:p∧q∧r)(Z:p→q→r→Q):Q:=by obtain⟨p,q,r⟩:=Y;exact Z p q r
def eaa{p:Prop}{q r:A→B→Prop}(Y:p∧∃a b,q a b∧r a b)(Z:p→∀a b,q a b→r a b→Q):Q:=by obtain⟨p,a,b,q,r⟩:=Y;exact Z p a b q r
def eaq{p q r s:A→Prop}(Y:∃a,p a∧q a∧r a∧s a)(Z:∀a,p a→q a→r a→s a→Q):Q:=by obtain⟨a,p,q,r,s⟩:=Y;exact Z a p q r s
def eah{p q r:A→Prop}(Y:∃a,p a∧q a∧r a)(Z:∀a,p a→q a→r a→Q):Q:=by obtain⟨a,p,q,r⟩:=Y;exact Z a p q r
def eaw{p:A→Prop}{q r s t:A→B→C→D→Prop}(Y:∃a,p a∧∃b c d,q a b c d∧r a b c d∧s a b c d∧t a b c d)(Z:∀a,p a→∀b c d,q a b c d→r a b c d→s a b c d→t a b c d→Q):Q:=by obtain⟨a,p,b,c,d,q,r,s,t⟩:=Y;exact Z a p b c d q r s t
def eae{p q:A→Prop}(Y:∃a,p a∧q a)(Z:∀a,p a→q a→Q):Q:=by obtain⟨a,p,q⟩:=Y;exact Z a p q
def eap{p q r s t:A→B→Prop}(Y:∃a b,p a b∧q a b∧r a b∧s a b∧t a b)(Z:∀a b,p a b→q a b→r a b→s a b→t a b→Q):Q:=by obtain⟨a,b,p,q,r,s,t⟩:=Y;exact Z a b p q r s t
def eak{p q r s:A→B→Prop}(Y:∃a b,p a b∧q a b∧r a b∧s a b)(Z:∀a b,p a b→q a b→r a b→s a b→Q):Q:=by obtain⟨a,b,p,q,r,s⟩:=Y;exact Z a b p q r s
def eal{p q r:A→B→Prop}(Y:∃a b,p a b∧q a b∧r a b)(Z:∀a b,p a b→q a b→r a b→Q):Q:=by obtain⟨a,b,p,q,r⟩:=Y;exact Z a b p q r
def ead{p q:A→B→Prop}(Y:∃a b,p a b∧q a b)(Z:∀a b,p a b→q a b→Q):Q:=by obtain⟨a,b,p,q⟩:=Y;exact Z a b p q
def eav{p q r s:A→B→C→Prop}(Y:∃a b c,p a b c∧q a b c∧r a b c∧s a b c)(Z:∀a b c,p a b c→q a b c→r a b c→s a b c→Q):Q:=by obtain⟨a,b,c,p,q,r,s⟩:=Y;exact Z a b c p q r s
def eag{p q r:A→B→C→Prop}(Y:∃a b c,p a b c∧q a b c∧r a b c)(Z:∀a b c,p a b c→q a b c→r a b c→Q):Q:=by obtain⟨a,b,c,p,q,r⟩:=Y;exact Z a b c p q r
def eaf{p q:A→B→C→Prop}(Y:∃a b c,p a b c∧q a b c)(Z:∀a b c,p a b c→q a b c→Q):Q:=by obtain⟨a,b,c,p,q⟩:=Y;exact Z a b c p q
def ear{p q r s t u:A→B→C→D→E→Prop}(Y:∃a b c d e,p a b c d e∧q a b c d e∧r a b c d e∧s a b c d e∧t a b c d e∧u a b c d e)(Z:∀a b c d e,p a b c d e→q a b c d e→r a b c d e→s a b c d e→t a b c d e→u a b c d e→Q):Q:=by obtain⟨a,b,c,d,e,p,q,r,s,t,u⟩:=Y;exact Z a b c d e p q r s t u
def eat{p q r:A→B→C→D→E→F→Prop}(Y:∃a b c d e f,p a b c d e f∧q a b c d e f∧r a b c d e f)(Z:∀a b c d e f,p a b c d e f→q a b c d e f→r a b c d e f→Q):Q:=by obtain⟨a,b,c,d,e,f,p,q,r⟩:=Y;exact Z a b c d e f p q r
def eau{p q r s t:A→B→C→D→E→F→G→H→I→Prop}(Y:∃a b c d e f g h i,p a b c d e f g h i∧q a b c d e f g h i∧r a b c d e f g h i∧s a b c d e f g h i∧t a b c d e f g h i)(Z:∀a b c d e f g h i,p a b c d e f g h i→q a b c d e f g h i→r a b c d e f g h i→s a b c d e f g h i→t a b c d e f g h i→Q):Q:=by obtain⟨a,b,c,d,e,f,g,h,i,p,q,r,s,t⟩:=Y;exact Z a b c d e f g h i p q r s t
def eas{p q r s t:A→B→C→D→E→F→G→H→I→J→K→L→Prop}(Y:∃a b c d e f g h i j k l,p a b c d e f g h i j k l∧q a b c d e f g h i j k l∧r a b c d e f g h i j k l∧s a b c d e f g h i j k l∧t a b c d e f g h i j k l)(Z:∀a b c d e f g h i j k l,p a b c d e f g h i j k l→q a b c d e f g h i j k l→r a b c d e f g h i j k l→s a b c d e f g h i j k l→t a b c d e f g h i j k l→Q):Q:=by obtain⟨a,b,c,d,e,f,g,h,i,j,k,l,p,q,r,s,t⟩:=Y;exact Z a b c d e f g h i j k l p q r s t
def eac{p:A→B→C→Prop}(Y:∃a b c,p a b c)(Z:∀a b c,p a b c→Q):Q:=by obtain⟨a,b,c,p⟩:=Y;exact Z a b c p
def eam{p:A→B→Prop}(Y:∃a b,p a b)(Z:∀a b,p a b→Q):Q:=by obtain⟨a,b,p⟩:=Y;exact Z a b p
def ian{p:Prop}{q r s:A→Prop}:p→∀a,q a→r a→s a→p∧∃a,q a∧r a∧s a:=fun p a q r s=>⟨p,a,q,r,s⟩
def iag{p:Prop}{q r:A→Prop}:p→∀a,q a→r a→p∧∃a,q a∧r a:=fun p a q r=>⟨p,a,q,r⟩
def iam{p:Prop}{q:A→Prop}:p→∀a,q a→p∧∃a,q a:=fun p a q=>⟨p,a,q⟩
def iak{p q r s:A→Prop}:∀a,p a→q a→r a→s a→∃a,p a∧q a∧r a∧s a:=fun a p q r s=>⟨a,p,q,r,s⟩
def iad{p q r:A→Prop}:∀a,p a→q a→r a→∃a,p a∧q a∧r a:=fun a p q r=>⟨a,p,q,r⟩
def ial{p:A→Prop}{q:A→B→Prop}{r s t u v w:A→B→C→D→E→F→Prop}:∀a,p a→∀b,q a b→∀c d e f,r a b c d e f→s a b c d e f→t a b c d e f→u a b c d e f→v a b c d e f→w a b c d e f→∃a,p a∧∃b,q a b∧∃c d e f,r a b c d e f∧s a b c d e f∧t a b c d e f∧u a b c d e f∧v a b c d e f∧w a b c d e f:=fun a p b q c d e f r s t u v w=>⟨a,p,b,q,c,d,e,f,r,s,t,u,v,w⟩
def io{p q:A→Prop}:∀a,p a→q a→∃a,p a∧q a:=fun a p q=>⟨a,p,q⟩
def iaa{p q r s:A→B→Prop}:∀a b,p a b→q a b→r a b→s a b→∃a b,p a b∧q a b∧r a b∧s a b:=fun a b p q r s=>⟨a,b,p,q,r,s⟩
def iab{p q r:A→B→Prop}:∀a b,p a b→q a b→r a b→∃a b,p a b∧q a b∧r a b:=fun a b p q r=>⟨a,b,p,q,r⟩
def iaf{p q:A→B→Prop}:∀a b,p a b→q a b→∃a b,p a b∧q a b:=fun a b p q=>⟨a,b,p,q⟩
def iah{p q r s t:A→B→C→Prop}:∀a b c,p a b c→q a b c→r a b c→s a b c→t a b c→∃a b c,p a b c∧q a b c∧r a b c∧s a b c∧t a b c:=fun a b c p q r s t=>⟨a,b,c,p,q,r,s,t⟩
def iae{p q r s:A→B→C→Prop}:∀a b c,p a b c→q a b c→r a b c→s a b c→∃a b c,p a b c∧q a b c∧r a b c∧s a b c:=fun a b c p q r s=>⟨a,b,c,p,q,r,s⟩
def iaj{p q r s t u:A→B→C→D→Prop}:∀a b c d,p a b c d→q a b c d→r a b c d→s a b c d→t a b c d→u a b c d→∃a b c d,p a b c d∧q a b c d∧r a b c d∧s a b c d∧t a b c d∧u a b c d:=fun a b c d p q r s t u=>⟨a,b,c,d,p,q,r,s,t,u⟩
def iac{p q r s t u:A→B→C→D→E→Prop}:∀a b c d e,p a b c d e→q a b c d e→r a b c d e→s a b c d e→t a b c d e→u a b c d e→∃a b c d e,p a b c d e∧q a b c d e∧r a b c d e∧s a b c d e∧t a b c d e∧u a b c d e:=fun a b c d e p q r s t u=>⟨a,b,c,d,e,p,q,r,s,t,u⟩
def iao{p q r s:A→B→C→D→E→Prop}{t u:A→B→C→D→E→F→Prop}:∀a b c d e,p a b c d e→q a b c d e→r a b c d e→s a b c d e→∀f,t a b c d e f→u a b c d e f→∃a b c d e,p a b c d e∧q a b c d e∧r a b c d e∧s a b c d e∧∃f,t a b c d e f∧u a b c d e f:=fun a b c d e p q r s f t u=>⟨a,b,c,d,e,p,q,r,s,f,t,u⟩
def iai{p:A→B→Prop}:∀a b,p a b→∃a b,p a b:=fun a b p=>⟨a,b,p⟩
end
section
variable{Q:Prop}{A:Sort u}{B:Sort v}{C:Sort w}{D:Sort x}{E:Sort y}{F:Sort z}{G:Sort r}{H:Sort s}{I:Sort t}{J:Sort q}{K:Sort m}{L:Sort n}
def eaP{p q r s t u v:Prop}(Y:p/\q/\r/\s/\t/\u/\v)(Z:p->q->r->s->t->u->v->Q):Q:=by obtain⟨p,q,r,s,t,u,v⟩:=Y;exact Z p q r s t u v
def eaC{p q r s t:Prop}(Y:p/\q/\r/\s/\t)(Z:p->q->r->s->t->Q):Q:=by obtain⟨p,q,r,s,t⟩:=Y;exact Z p q r s t
def eaJ{p q r s:Prop}(Y:p/\q/\r/\s)(Z:p->q->r->s->Q):Q:=by obtain⟨p,q,r,s⟩:=Y;exact Z p q r s
def eaz{p q r:Prop}(Y:p/\q/\r)(Z:p->q->r->Q):Q:=by obtain⟨p,q,r⟩:=Y;exact Z p q r
def eay{p q:Prop}(Y:p/\q)(Z:p->q->Q):Q:=by obtain⟨p,q⟩:=Y;exact Z p q
def eaE{p q r:A->Prop}(Y:∃a,p a/\q a/\r a)(Z:∀a,p a->q a->r a->Q):Q:=by obtain⟨a,p,q,r⟩:=Y;exact Z a p q r
def eax{p q:A->Prop}(Y:∃a,p a/\q a)(Z:∀a,p a->q a->Q):Q:=by obtain⟨a,p,q⟩:=Y;exact Z a p q
def eaH{p q r:A->B->Prop}(Y:∃a b,p a b/\q a b/\r a b)(Z:∀a b,p a b->q a b->r a b->Q):Q:=by obtain⟨a,b,p,q,r⟩:=Y;exact Z a b p q r
def eaK{p:A->B->C->D->E->F->G->H->I->J->K->L->Prop}(Y:∃a b c d e f g h i j k l,p a b c d e f g h i j k l)(Z:∀a b c d e f g h i j k l,p a b c d e f g h i j k l->Q):Q:=by obtain⟨a,b,c,d,e,f,g,h,i,j,k,l,p⟩:=Y;exact Z a b c d e f g h i j k l p
def eaN{p:A->B->C->D->E->F->G->H->I->J->Prop}(Y:∃a b c d e f g h i j,p a b c d e f g h i j)(Z:∀a b c d e f g h i j,p a b c d e f g h i j->Q):Q:=by obtain⟨a,b,c,d,e,f,g,h,i,j,p⟩:=Y;exact Z a b c d e f g h i j p
def eaI{p:A->B->C->D->E->F->G->H->I->Prop}(Y:∃a b c d e f g h i,p a b c d e f g h i)(Z:∀a b c d e f g h i,p a b c d e f g h i->Q):Q:=by obtain⟨a,b,c,d,e,f,g,h,i,p⟩:=Y;exact Z a b c d e f g h i p
def eaO{p:A->B->C->D->E->F->G->H->Prop}(Y:∃a b c d e f g h,p a b c d e f g h)(Z:∀a b c d e f g h,p a b c d e f g h->Q):Q:=by obtain⟨a,b,c,d,e,f,g,h,p⟩:=Y;exact Z a b c d e f g h p
def eaM{p:A->B->C->D->E->F->G->Prop}(Y:∃a b c d e f g,p a b c d e f g)(Z:∀a b c d e f g,p a b c d e f g->Q):Q:=by obtain⟨a,b,c,d,e,f,g,p⟩:=Y;exact Z a b c d e f g p
def eaL{p:A->B->C->D->E->F->Prop}(Y:∃a b c d e f,p a b c d e f)(Z:∀a b c d e f,p a b c d e f->Q):Q:=by obtain⟨a,b,c,d,e,f,p⟩:=Y;exact Z a b c d e f p
def eaG{p:A->B->C->D->E->Prop}(Y:∃a b c d e,p a b c d e)(Z:∀a b c d e,p a b c d e->Q):Q:=by obtain⟨a,b,c,d,e,p⟩:=Y;exact Z a b c d e p
def eaA{p:A->B->C->D->Prop}(Y:∃a b c d,p a b c d)(Z:∀a b c d,p a b c d->Q):Q:=by obtain⟨a,b,c,d,p⟩:=Y;exact Z a b c d p
def eaB{p:A->B->C->Prop}(Y:∃a b c,p a b c)(Z:∀a b c,p a b c->Q):Q:=by obtain⟨a,b,c,p⟩:=Y;exact Z a b c p
def eaD{p:A->B->Prop}(Y:∃a b,p a b)(Z:∀a b,p a b->Q):Q:=by obtain⟨a,b,p⟩:=Y;exact Z a b p
def eaF{p:A->Prop}(Y:∃a,p a)(Z:∀a,p a->Q):Q:=by obtain⟨a,p⟩:=Y;exact Z a p
def far{p q r s t u v w x y z c q' b s' t' a:Prop}(Z:p->q->r->s->t->u->v->w->x->y->z->c->q'->b->s'->t'->a->Q)(Y:p/\q/\r/\s/\t/\u/\v/\w/\x/\y/\z/\c/\q'/\b/\s'/\t'/\a):Q:=by obtain⟨p,q,r,s,t,u,v,w,x,y,z,c,q',b,s',t',a⟩:=Y;exact Z p q r s t u v w x y z c q' b s' t' a
def fap{p q r s t u v w x y z a:Prop}(Z:p->q->r->s->t->u->v->w->x->y->z->a->Q)(Y:p/\q/\r/\s/\t/\u/\v/\w/\x/\y/\z/\a):Q:=by obtain⟨p,q,r,s,t,u,v,w,x,y,z,a⟩:=Y;exact Z p q r s t u v w x y z a
def fau{p q r s t u v w x y z:Prop}(Z:p->q->r->s->t->u->v->w->x->y->z->Q)(Y:p/\q/\r/\s/\t/\u/\v/\w/\x/\y/\z):Q:=by obtain⟨p,q,r,s,t,u,v,w,x,y,z⟩:=Y;exact Z p q r s t u v w x y z
def fas{p q r s t u v w x:Prop}(Z:p->q->r->s->t->u->v->w->x->Q)(Y:p/\q/\r/\s/\t/\u/\v/\w/\x):Q:=by obtain⟨p,q,r,s,t,u,v,w,x⟩:=Y;exact Z p q r s t u v w x
def fak{p q r s t u v w:Prop}(Z:p->q->r->s->t->u->v->w->Q)(Y:p/\q/\r/\s/\t/\u/\v/\w):Q:=by obtain⟨p,q,r,s,t,u,v,w⟩:=Y;exact Z p q r s t u v w
def fam{p q r s t u v:Prop}(Z:p->q->r->s->t->u->v->Q)(Y:p/\q/\r/\s/\t/\u/\v):Q:=eaP Y Z
def fag{p q r s t u:Prop}(Z:p->q->r->s->t->u->Q)(Y:p/\q/\r/\s/\t/\u):Q:=by obtain⟨p,q,r,s,t,u⟩:=Y;exact Z p q r s t u
def fah{p q r s t:Prop}(Z:p->q->r->s->t->Q)(Y:p/\q/\r/\s/\t):Q:=eaC Y Z
def fac{p q r s:Prop}(Z:p->q->r->s->Q)(Y:p/\q/\r/\s):Q:=eaJ Y Z
def fab{p q r:Prop}(Z:p->q->r->Q)(Y:p/\q/\r):Q:=eaz Y Z
def f8{p q:Prop}(Z:p->q->Q)(Y:p/\q):Q:=eay Y Z
def fan{p q r:A->Prop}(Z:∀a,p a->q a->r a->Q)(Y:∃a,p a/\q a/\r a):Q:=eaE Y Z
def fae{p q:A->Prop}(Z:∀a,p a->q a->Q)(Y:∃a,p a/\q a):Q:=eax Y Z
def fad{p q r:A->B->Prop}(Z:∀a b,p a b->q a b->r a b->Q)(Y:∃a b,p a b/\q a b/\r a b):Q:=eaH Y Z
def faq{p:A->B->C->D->E->F->G->H->I->J->Prop}(Z:∀a b c d e f g h i j,p a b c d e f g h i j->Q)(Y:∃a b c d e f g h i j,p a b c d e f g h i j):Q:=eaN Y Z
def fat{p:A->B->C->D->E->F->G->H->I->Prop}(Z:∀a b c d e f g h i,p a b c d e f g h i->Q)(Y:∃a b c d e f g h i,p a b c d e f g h i):Q:=eaI Y Z
def fao{p:A->B->C->D->E->F->G->H->Prop}(Z:∀a b c d e f g h,p a b c d e f g h->Q)(Y:∃a b c d e f g h,p a b c d e f g h):Q:=eaO Y Z
def fal{p:A->B->C->D->E->F->Prop}(Z:∀a b c d e f,p a b c d e f->Q)(Y:∃a b c d e f,p a b c d e f):Q:=eaL Y Z
def fai{p:A->B->C->D->E->Prop}(Z:∀a b c d e,p a b c d e->Q)(Y:∃a b c d e,p a b c d e):Q:=eaG Y Z
def faj{p:A->B->C->D->Prop}(Z:∀a b c d,p a b c d->Q)(Y:∃a b c d,p a b c d):Q:=eaA Y Z
def faa{p:A->B->C->Prop}(Z:∀a b c,p a b c->Q)(Y:∃a b c,p a b c):Q:=eaB Y Z
def faf{p:A->B->Prop}(Z:∀a b,p a b->Q)(Y:∃a b,p a b):Q:=eaD Y Z
def fL{p:A->Prop}(Z:∀a,p a->Q)(Y:∃a,p a):Q:=eaF Y Z
def iau{p:A->B->C->D->E->F->G->H->I->J->K->L->Prop}:∀a b c d e f g h i j k l,p a b c d e f g h i j k l->∃a b c d e f g h i j k l,p a b c d e f g h i j k l:=fun a b c d e f g h i j k l p=>⟨a,b,c,d,e,f,g,h,i,j,k,l,p⟩
def iax{p:A->B->C->D->E->F->G->H->I->J->Prop}:∀a b c d e f g h i j,p a b c d e f g h i j->∃a b c d e f g h i j,p a b c d e f g h i j:=fun a b c d e f g h i j p=>⟨a,b,c,d,e,f,g,h,i,j,p⟩
def ias{p:A->B->C->D->E->F->G->H->I->Prop}:∀a b c d e f g h i,p a b c d e f g h i->∃a b c d e f g h i,p a b c d e f g h i:=fun a b c d e f g h i p=>⟨a,b,c,d,e,f,g,h,i,p⟩
def iay{p:A->B->C->D->E->F->G->H->Prop}:∀a b c d e f g h,p a b c d e f g h->∃a b c d e f g h,p a b c d e f g h:=fun a b c d e f g h p=>⟨a,b,c,d,e,f,g,h,p⟩
def iat{p:A->B->C->D->E->F->G->Prop}:∀a b c d e f g,p a b c d e f g->∃a b c d e f g,p a b c d e f g:=fun a b c d e f g p=>⟨a,b,c,d,e,f,g,p⟩
def iaw{p:A->B->C->D->E->F->Prop}:∀a b c d e f,p a b c d e f->∃a b c d e f,p a b c d e f:=fun a b c d e f p=>⟨a,b,c,d,e,f,p⟩
def iav{p:A->B->C->D->E->Prop}:∀a b c d e,p a b c d e->∃a b c d e,p a b c d e:=fun a b c d e p=>⟨a,b,c,d,e,p⟩
def iaq{p:A->B->C->D->Prop}:∀a b c d,p a b c d->∃a b c d,p a b c d:=fun a b c d p=>⟨a,b,c,d,p⟩
def iar{p:A->B->C->Prop}:∀a b c,p a b c->∃a b c,p a b c:=fun a b c p=>⟨a,b,c,p⟩
def iap{p:A->B->Prop}:∀a b,p a b->∃a b,p a b:=fun a b p=>⟨a,b,p⟩
end
theorem gU{h:Decidable c} (a:¬c):(ite c t e)=e:=if_neg a
theorem ip{h:Decidable c} (a:c):(ite c t e)=t:=if_pos a
theorem jo[Decidable p] (h:p):decide p=true:=decide_eq_true h
theorem iY[Decidable p] (h:¬p):decide p=false:=decide_eq_false h
theorem gG {p:Prop} (h:p:=by decide+kernel):p:=h
theorem mz:0<=PySem.sizeLine:=by decide
theorem kJ:1<=PySem.sizeLine:=by decide
theorem kB:2<=PySem.sizeLine:=by decide
theorem uk:3<=PySem.sizeLine:=by decide
theorem ui:4<=PySem.sizeLine:=by decide
theorem AS:5<=PySem.sizeLine:=by decide
theorem GL:6<=PySem.sizeLine:=by decide
open List renaming all_cons→aW,any_cons→aR,append_assoc→bG,append_cancel_left→cq,append_nil→aD,cons_append→aS,count_append→cy,count_nil→cB,drop_eq_getElem_cons→bT,drop_eq_nil_iff→bL,drop_eq_nil_of_le→bP,drop_length→cf,drop_zero→bO,eq_nil_of_length_eq_zero→bY,extract_eq_take_drop→bV,filterMap_cons→ag,filter_append→cz,filter_cons_of_neg→cE,filter_cons_of_pos→cD,find?_cons→aQ,forall_mem_cons→cb,getD_eq_getElem?_getD→bq,getElem?_append_left→aK,getElem?_append_right→aJ,getElem?_cons_succ→bp,getElem?_drop→bS,getElem?_eq_getElem→bf,getElem?_eq_none→b9,getElem?_eq_none_iff→bw,getElem?_eq_some_iff→aq,getElem?_map→aM,getElem?_set_ne→aw,getElem?_set_self→av,getElem?_take→bR,getElem?_toArray→bt,getElem?_zip_eq_some→cm,length→aH,length_append→aO,length_cons→az,length_drop→aV,length_dropLast→aY,length_map→aC,length_nil→aT,length_range→cw,length_replicate→aP,length_singleton→aX,length_take→aI,length_zip→ck,lookup→aA,lookup_cons→aZ,map→bj,map_append→bB,map_cons→aB,map_map→bh,map_nil→aU,map_snd_zip→bA,mem_append→ak,mem_append_left→ao,mem_append_right→ax,mem_cons→aj,mem_cons_of_mem→ai,mem_cons_self→ah,mem_filter→ae,mem_iff_getElem?→bC,mem_map→bg,mem_map_of_mem→cC,mem_of_getElem?→aN,mem_of_mem_drop→bJ,mem_of_mem_take→bI,mem_range→af,mem_singleton→bb,nil_append→cc,nodup_cons→aE,not_mem_nil→bo,of_mem_zip→aF,pairwise_append→bE,pairwise_map→b6,perm_append_comm→bH,range→aa,range_succ→cu,range_succ_eq_map→ba,replicate→aG,replicate_succ'→cx,reverse_append→bW,reverse_reverse→bX,set_append_right→bZ,size_toArray→ay,take_add_one→bU,take_append_drop→bD,take_length→bK,take_of_length_le→bM,take_succ→cg,take_succ_cons→cn,take_zero→bQ,toArray→bz,zipIdx_cons→br
open Nat renaming add_assoc→cW,add_sub_cancel_left→dh,add_zero→dg,le_add_right→cR,le_of_eq→cP,le_of_lt→cK,le_refl→cN,le_succ_of_le→cS,le_trans→cJ,lt_irrefl→cG,lt_of_lt_of_le→cF,lt_succ_self→cQ,min_eq_left→cU,ne_of_gt→cM,ne_of_lt→cH,not_lt_zero→di,pos_of_ne_zero→cZ,sub_self→cY,zero_add→cX,zero_le→cO
open Option renaming isSome_iff_exists→dq,map_eq_some_iff→dA,map_some→dw,some→dj
open PySem.W renaming callWith_K→eC,callWith_K0→eF,cellsFrom_some→eG,codeIn→eK,emptyDict→dR,findIn→dH,fnOf→eJ,hasDictIn→dG,instObj→dB,isFn→dJ,keepIn→dW,kia_one→dX,kia_tup→eM,kitx_bool→dZ,kitx_dict→eB,kitx_float→d7,kitx_list→ee,kitx_none→dY,kitx_tuple→eg,lookIn→dD,makesIn→dQ,methodCall_KW→eE,methodObj→dC,mg_none_of→eQ,mg_of→eO,nsIn→eN,plainGet→dE,plainGet_of→dI,plainOver→dO,specialIn→dS,takerIn→dP
open PySem.F renaming args_dict_get_3→eV,args_tuple_add_2→fb,entry_dict_get→eU,entry_tuple_add→e8,plainAttrs_dict→eW,plainAttrs_list→ff,slot_dict_get→eT,slot_dict_getitem→eR,slot_dict_setdefault→fc,slot_list_append→fg,slot_list_index→fe,slot_list_pop→fj,slot_tuple_add→eZ,type_list_append→fh,type_list_pop→fm
open Bool renaming and_eq_true→fu,eq_iff_iff→fo,false_ne_true→fq,false_xor→fA
open Array renaming getElem?_eq_some_iff→fE,getElem?_toList→fD,length_toList→fC,perm_iff_toList_perm→fF,toList_append→fH,toList_extract→fG,toList_push→fJ,toList_reverse→fK,toList_setIfInBounds→fN
open Int renaming emod_lt_of_pos→fV,emod_nonneg→fR,le_refl→fQ,toNat_natCast→fO,zero_add→fW
open PySem.Heap renaming get?_push_of_some→f7,get?_push_size→f6,get?_update_other→gh,get?_update_self→gf,lt_size→fZ,size_push→f9
open PyProof.Rows renaming bubble→gj,callWith_type1→gi
open PySem renaming Value→Zz,Shared→Zy,Addr→Zx,Around→Zw,World→Zv,Program→Zu,Heap→Zt,FuncData→Zs,Expr→Zr,Stmt→Zq
open PySem.W renaming Frag→Zp
open PySem renaming wpAny_bind→C6,wpAny→C7,mainGlobals→C8,starEach→IQ,sizeLine_eq→IS,wpAny_pure→IT,mem_of_lookup→IV,bootBuiltins→IZ,wpAny_mono→I0,compareOp→Jf,Spec→Jg,sysModules→Jh,binaryOp→Jj,wpAny_field→Jk,IsPair→Jl,backTo→Jo,lookup_relabel_local→Jp,wpAny_truthy_bool→Jq,behindInMarks→Jr,wpAny_seqItems→Ju,wpAny_setField_rec→Jv,sizeLine→JA,wpAny_getItem_str_slice→JB,wpAny_callSpecial?_slot→JC,attributeBase→JE,wpAny_Call_Name_kw→JG,wpAny_rule→JH,foldedSetIterable→JK,wpAny_call_entry→JL,wpAny_holding→JM,keywordEach→JO,sliceBounds→JP,wpAny_passesOwn→JQ,wpAny_pyIter_tuple→JU,tupleKind_room_in1→JV,closureFor→J0,wpAny_newObj_type→J4,wpAny_pyIter_enum→J5
open PySem.PyData renaming keyHash→C9
open PySem.Value renaming ref→IP,none→Jm,bool→Jn
open Ne renaming symm→IU
open PySem.PassesOwn renaming never→IW
open False renaming elim→IX
open PySem.Builtin.SmallTypes renaming nextOf→IY,ownedTupleIsFree→Ji
open Classical renaming byContradiction→Ja
open PyProof.Rows.SortSt renaming mk'→Jb
open Prod renaming snd→Jc,fst→JY
open True renaming intro→Jd
open Sum renaming inr→Je,inl→Jw
open PySem.NameKind renaming free→Js,cell→JN
open Prod.mk renaming injEq→Jt
open PySem.F renaming slot_tuple_iterator_next→Jy
open PySem.Obj renaming mapSeq→Jz
open PySem.Calls renaming spliced_cons→JF,callWith_builtin→JJ
open ForInStep renaming yield→JR
open PySem.Heap renaming SameBut→JT
open PySem.Txt renaming slice_le→JW
open PySem.AutoSeq1 renaming wpAny_loadPart'→JX
open PySem.SeqAt renaming EqAt→JZ
open PySem.Str renaming length_append→J6
abbrev Za:=List (PySem.Addr×PySem.Obj)
abbrev Zb:=PySem.Value->PySem.Shared->Prop
abbrev Zc:=PySem.Str->Option PySem.Value
abbrev Zd:=List PySem.Str
noncomputable section
namespace L2.Internal
def auR (h:True=True:=by rfl):True:=trivial
def auD (h:True:=by decide):True:=trivial
def auI (h:True->True=True:=by intro _;rfl):True:=trivial
def auL (h:True=True\/True:=by first|exact .inl rfl|exact .inr rfl|assumption):True:=trivial
open PySem PySem.Spec PyProof.Rows
abbrev Key:=Sum Int Str
noncomputable def xF:Key->Zz->Bool
 | .inl k,v=>Value.isInt k v
 | .inr x,v=>Value.isStrOf x v
noncomputable def keyH (w:Zv):Key->Int
 | .inl k=>hashInt k
 | .inr x=>hashStr w x
def jk:∀{k:Key} {v:Zz},xF k v=true->(∃i t,k=Jw i/\v=Value.int i t)\/(∃x t,k=Je x/\v=Value.str x t)
 | .inl i,v,h=>by obtain⟨t,e⟩:=Value.isInt_shape (k:=i) (v:=v) h;exact .inl (iap i t ⟨rfl,e⟩)
 | .inr x,v,h=>by obtain⟨t,e⟩:=Value.isStrOf_shape (x:=x) (v:=v) h;exact .inr (iap x t ⟨rfl,e⟩)
def yv (i:Int) (t:Tok):xF (.inl i) (.int i t)=true:=by simp[xF,Value.isInt]
def qC (x:Str) (t:Tok):xF (.inr x) (.str x t)=true:=by simp[xF,Value.isStrOf]
def ES (a b:Int):decide ((Jw a:Key)=Jw b)=(a==b):=by
 by_cases e:a=b;·subst e;simp
 ·have h:¬(Jw a:Key)=Jw b:=fun q=>e (Sum.inl.inj q);rw[iY h];exact(beq_eq_false_iff_ne.mpr e).symm
def ET (a b:Str):decide ((Je a:Key)=Je b)=decide (a=b):=by
 by_cases e:a=b;·subst e;simp
 ·have h:¬(Je a:Key)=Je b:=fun q=>e (Sum.inr.inj q);rw[iY h,iY e]
def EU (a:Int) (b:Str):decide ((Jw a:Key)=Je b)=false:=iY (fun q=>nomatch q)
def EV (a:Str) (b:Int):decide ((Je a:Key)=Jw b)=false:=iY (fun q=>nomatch q)
def jq (prog:Zu) (w:Zv):PySem.KeyKind prog w Key where
 is:=xF
 hash:=keyH w
 inj:=fun v a b g d=>by
  rcases jk g with⟨i,t,rfl,rfl⟩|⟨x,t,rfl,rfl⟩
  ·rcases jk d with⟨j,u,rfl,e⟩|⟨y,u,rfl,e⟩;·injection e with e1 _;rw[e1]
   ·exact nomatch e
  ·rcases jk d with⟨j,u,rfl,e⟩|⟨y,u,rfl,e⟩;·exact nomatch e
   ·injection e with e1 _;rw[e1]
 byValue:=fun k v h=>by rcases jk h with⟨i,t,rfl,rfl⟩|⟨x,t,rfl,rfl⟩<;>rfl
 pyHash:=fun c h=>by
  rcases jk c with⟨i,t,rfl,rfl⟩|⟨x,t,rfl,rfl⟩;·exact wpAny_pyHash_int h
  ·exact wpAny_pyHash_str h
 eqBool:=fun f c h=>by
  rcases jk f with⟨i,t,rfl,rfl⟩|⟨x,t,rfl,rfl⟩
  ·rcases jk c with⟨j,u,rfl,rfl⟩|⟨y,u,rfl,rfl⟩;·rw[ES]at h;exact wpAny_eqBool_int h
   ·rw[EU]at h;exact SeqAt.EqAt.int_str i t y u _ _ _ _ h
  ·rcases jk c with⟨j,u,rfl,rfl⟩|⟨y,u,rfl,rfl⟩;·rw[EV]at h;exact SeqAt.EqAt.str_int x t j u _ _ _ _ h
   ·rw[ET]at h;exact wpAny_eqBool_str h
 «strs»:=fun k x t v h=>by
  rcases jk h with⟨i,u,rfl,e⟩|⟨y,u,rfl,e⟩;·exact nomatch e
  ·injection e with e1 _;subst e1;cases v<;>rfl
def vv (prog:Zu) (w:Zv) (i:Int) (t:Tok):(jq prog w).is (.inl i) (.int i t)=true:=yv i t
def vw (prog:Zu) (w:Zv) (x:Str) (t:Tok):(jq prog w).is (.inr x) (.str x t)=true:=qC x t
end L2.Internal
namespace L2.Internal
variable {h:Zt} {H H':Hp} {t' j:Nat} {N ps:Zd} {Q:Zb} {X:Cx} {pos:Pos} {pz:Za} {y:V} {tg:Zr} {fp:List Zx} {C:Zx}
open PySem PySem.Spec PyProof.Rows
set_option genInjectivity true in
inductive V where
 |non|bl (b:Bool)|int (i:Int)|str (x:Str)|byt (b:Array UInt8)|flt (b:UInt64)|ref (a:Zx)|ty (n:String)
 deriving DecidableEq
def iZ:V->Zz->Prop
 | .non,u=>u=Jm
 | .bl b,u=>u=Jn b
 | .int i,u=>∃t,u=Value.int i t
 | .str x,u=>∃t,u=Value.str x t
 | .byt b,u=>∃t,u=Value.bytes b t
 | .flt b,u=>∃t,u=Value.float b t
 | .ref a,u=>u=IP a
 | .ty n,u=>u=Value.type n
abbrev jh:List V->List Zz->Prop:=Paired iZ
theorem jh.length {xs:List V} {us:List Zz} (r:jh xs us):xs.length=us.length:=Paired.length r
theorem jh.get:∀{xs:List V} {us:List Zz} {i:Nat} {x:V},jh xs us->xs[i]?=some x->∃u,us[i]?=some u/\iZ x u
 |_,_,_,_,.nil,e=>by simp at e
 |_,_,0,_,.cons r _,e=>by simp at e;subst e;exact⟨_,rfl,r⟩
 |_,_,i+ 1,x,.cons _ t,e=>by refine eax (jh.get (i:=i) (x:=x) t (by simpa using e)) fun u b a=>?_;exact⟨u,by simpa using b,a⟩
theorem jh.set {x:V} {u:Zz} (r:iZ x u):∀{xs:List V} {us:List Zz} (i:Nat),jh xs us->jh (xs.set i x) (us.set i u)
 |_,_,_,.nil=> .nil
 |_,_,0,.cons _ t=> .cons r t
 |_,_,i+ 1,.cons q t=> .cons q (jh.set r i t)
theorem jh.append:∀{xs ys:List V} {us a:List Zz},jh xs us->jh ys a->jh (xs++ys) (us++a)
 |_,_,_,_,.nil,s=>s
 |_,_,_,_,.cons r t,s=> .cons r (jh.append t s)
theorem jh.take:∀{xs:List V} {us:List Zz} (n:Nat),jh xs us->jh (xs.take n) (us.take n)
 |_,_,0,_=> .nil
 |_,_,_+ 1,.nil=> .nil
 |_,_,n+ 1,.cons r t=> .cons r (jh.take n t)
theorem jh.drop:∀{xs:List V} {us:List Zz} (n:Nat),jh xs us->jh (xs.drop n) (us.drop n)
 |_,_,0,r=>r
 |_,_,_+ 1,.nil=> .nil
 |_,_,n+ 1,.cons _ t=>jh.drop n t
def tf:Option V->Option Zz->Prop
 |some v,some u=>iZ v u
 |none,none=>True
 |_,_=>False
def KV {κ:Type}:List (κ×V)->List (κ×Zz)->Prop:=Paired fun(p:κ×V) (q:κ×Zz)=>p.1=q.1/\iZ p.2 q.2
noncomputable def kV:Key->V
 | .inl i=> .int i
 | .inr x=> .str x
inductive HO where
 |lst (xs:List V)
 |tup (xs:List V)
 |dK (kvs:List (Key×V))|dT (kvs:List (List Key×V))
 |set (S:Int->Bool) (n:Nat)
 |ins (C dx:Zx) (fs:List (Str×V))
 |own (x:Zx)
 |xd (fs:List (Str×V))
 |met (f x:Zx)
 |rng (lo hi:Int)
 |frz (o:Obj) (u:HO)
 |tbl (ps:Array Zz)
 |ext (φ:Zt->Prop)
abbrev Hp:=Zx->Option HO
def xG (h:Zt) (a:Zx) (b:Array Zz):Prop:=∃o,h.get? a=some o/\o.cls= .type "tuple"/\∃n,o.data= .seq b n/\o.dict=none
def xG.tup {h:Zt} {a:Zx} {b:Array Zz}:xG h a b->IsTup h a b
 |⟨o,h1,h2,n,h3,_⟩=>⟨o,h1,h2,n,h3⟩
def xG.lt {a:Zx} {b:Array Zz} (p:xG h a b):a<h.objs.size:=by refine eax p fun o e _=>?_;exact fZ e
def xG.new (h:Zt) (a:Array Zz):xG (h.push {cls:= .type "tuple",data:= .seq a}) h.objs.size a:=⟨_,f6 _ rfl,rfl,_,rfl,rfl⟩
noncomputable def upd (H:Hp) (a:Zx) (o:HO):Hp:=fun b=>if b=a then some o else H b
def gm:upd H a o a=some o:=by unfold upd;rw[ip rfl]
def gx(h:b≠a):upd H a o b=H b:=by unfold upd;rw[gU h]
def iJ:upd (upd H a o) a u=upd H a u:=by funext b;unfold upd;split<;>rfl
def jP(h:H a=some o) (h':H b=some u) (d:o≠u):a≠b:=by intro e;subst e;rw[h]at h';exact d (dj.inj h')
def gD(h:H a=some o) (h':H b=none):a≠b:=by intro e;subst e;rw[h]at h';cases h'
section
variable (P:Zu) (w:Zv)
def jm (H:Hp) (h:Zt) (a:Zx):HO->Prop
 | .lst c=>c.length<=sizeLine/\∃(b:List Zz) (n:Nat),jh c b/\h.get? a=some {cls:= .type "list",data:= .seq b.toArray n}
 | .tup c=>c.length<=sizeLine/\∃b:List Zz,jh c b/\xG h a b.toArray
 | .dK kvs=>kvs.length<=sizeLine/\(a==Jh)=false/\∃i,KV kvs i/\h.DictOf (jq P w) a i
 | .dT kvs=>kvs.length<=sizeLine/\(a==Jh)=false/\∃c:List (List Key×Zx×Zz),
   Paired (fun(p:List Key×V) (q:List Key×Zx×Zz)=>p.1=q.1/\H q.2.1=some (.tup (p.1.map kV))/\iZ p.2 q.2.2) kvs c/\
   ∃o l r,h.get? a=some o/\o.ExactDict/\o.data= .dict l r/\l.toList=c.map (entryOfKey (tupleKind (jq P w)))/\(c.map (·.1)).Nodup
 | .set S n=>h.SetOf (intKind P w) a S n
 | .ins C dx fs=>H dx=some (.own a)/\fs.length<=1000/\dx≠a/\h.get? a=some (dB C dx)/\
   ∃d,h.Ns1 dx d/\(∀f,tf (fs.lookup f) (d f))/\PySem.Within d (fs.map (·.1))
 | .own _=>∃o,h.get? a=some o
 | .xd fs=>∃d,h.Ns1 a d/\∀f,tf (fs.lookup f) (d f)
 | .rng lo hi=>∃t u v,h.get? a=some {cls:= .type "range",data:= .fields #[.int lo t,.int hi u,.int 1 v]}
 | .frz o u=>h.get? a=some o/\jm H h a u
 | .tbl ps=>h.get? a=some {cls:= .none,data:= .fields ps}
 | .met f x=>h.get? a=some (dC (.ref f) (.ref x))
 | .ext φ=>φ h/\(∃o,h.get? a=some o)/\∀k j:Zt,φ k->(∀o,k.get? a=some o->j.get? a=some o)->φ j
def HOk (H:Hp) (h:Zt):Prop:=∀a o,H a=some o->jm P w H h a o
end
section
variable {P:Zu} {w:Zv} {H H':Hp} {h h':Zt} {a:Zx} {o:HO}
theorem jm.lt (x:jm P w H h a o):a<h.objs.size:=by
 cases o with
 |lst d=>refine eaa x fun _ _ _ _ e=>?_;exact fZ e
 |tup d=>refine eay x fun _=>fL fun _=>f8 fun _ p=>?_;exact p.lt
 |dK c=>refine eaz x fun _ _=>fL fun _=>f8 fun _=>faa fun o _ _=>f8 fun e _=>?_;exact fZ e
 |dT c=>refine eaz x fun _ _=>fL fun _=>f8 fun _=>faa fun o _ _=>f8 fun e _=>?_;exact fZ e
 |set S n=>refine eaA x fun o _ _ _=>f8 fun e _=>?_;exact fZ e
 |ins C q g=>refine eab x fun _ _ _ e _=>?_;exact fZ e
 |own y=>obtain⟨_,e⟩:=x;exact fZ e
 |xd g=>refine eax x fun _ b _=>?_;refine eaB b fun _ _ _=>f8 fun e _=>?_;exact fZ e
 |rng l m=>refine eac x fun _ _ _ e=>?_;exact fZ e
 |frz k u=>obtain⟨e,_⟩:=x;exact fZ e
 |tbl j=>exact fZ (show h.get? a=some _ from x)
 |met f y=>exact fZ (show h.get? a=some _ from x)
 |ext i=>refine eaz x fun _ b _=>?_;obtain⟨_,e⟩:=b;exact fZ e
theorem Paired.mapP {g e:Type} {F G:g->e->Prop}:∀{d:List g} {c:List e},Paired F d c->(∀a b,F a b->G a b)->Paired G d c
 |_,_,.nil,_=> .nil
 |_,_,.cons r t,f=> .cons (f _ _ r) (Paired.mapP t f)
def jm.stay (x:jm P w H h a o) (k:∀b u,(b=a\/H b=some (.own a))->h.get? b=some u->h'.get? b=some u)
  (ho:∀b,H b=some (.own a)->H' b=some (.own a)) (K:∀b m,H b=some (.tup m)->H' b=some (.tup m)):jm P w H' h' a o:=by
 induction o with
 |lst m=>refine eaa x fun z l n r e=>?_;exact⟨z,l,n,r,k _ _ (.inl rfl) e⟩
 |tup m=>refine eay x fun z=>fL fun l=>f8 fun r=>fL fun g=>f8 fun e c=>?_;exact⟨z,l,r,g,k _ _ (.inl rfl) e,c⟩
 |dK D=>refine eaz x fun z y=>fL fun G=>f8 fun r=>faa fun g i j=>f8 fun e c=>?_;exact⟨z,y,G,r,g,i,j,k _ _ (.inl rfl) e,c⟩
 |dT D=>refine eaz x fun z y=>fL fun m=>f8 fun r=>faa fun g i j=>f8 fun e c=>?_;exact⟨z,y,m,Paired.mapP r fun p q z=>⟨z.1,K _ _ z.2.1,z.2.2⟩,g,i,j,k _ _ (.inl rfl) e,c⟩
 |set S n=>refine eaA x fun g i j t=>f8 fun e c=>?_;exact iaq g i j t ⟨k _ _ (.inl rfl) e,c⟩
 |ins C R L=>refine eaC x fun d z I e=>fL fun B=>f8 fun s r=>?_;refine eaB s fun A i j=>f8 fun M c=>?_;exact⟨ho _ d,z,I,k _ _ (.inl rfl) e,B,(iar A i j ⟨k _ _ (.inr d) M,c⟩),r⟩
 |own y=>obtain⟨g,e⟩:=x;exact⟨g,k _ _ (.inl rfl) e⟩
 |xd L=>refine eax x fun B s r=>?_;refine eaB s fun A i j=>f8 fun e c=>?_;exact io B (iar A i j ⟨k _ _ (.inl rfl) e,c⟩) r
 |rng O Q=>refine eac x fun t u v e=>?_;exact iar t u v (k _ _ (.inl rfl) e)
 |frz g u J=>obtain⟨e,q⟩:=x;exact⟨k _ _ (.inl rfl) e,J q⟩
 |tbl F=>have e:h.get? a=some {cls:= .none,data:= .fields F}:=x;show h'.get? a=some {cls:= .none,data:= .fields F};exact k a _ (.inl rfl) e
 |met f y=>have e:h.get? a=some (dC (.ref f) (.ref y)):=x;show h'.get? a=some (dC (.ref f) (.ref y));exact k a _ (.inl rfl) e
 |ext N=>refine eaz x fun p s E=>?_;obtain⟨o,e⟩:=s;exact⟨E _ _ p fun o q=>k _ _ (.inl rfl) q,⟨o,k _ _ (.inl rfl) e⟩,E⟩
theorem HOk.lt (x:HOk P w H h) (e:H a=some o):a<h.objs.size:=(x a o e).lt
def HOk.fresh (x:HOk P w H h) (e:h.objs.size<=a):H a=none:=by
 cases q:H a with
 |none=>rfl
 |some u=>exact absurd (cF (x.lt q) e) (cG _)
def HOk.kept (x:HOk P w H h) (k:∀b u,h.get? b=some u->h'.get? b=some u):HOk P w H h':=fun a o e=>
 (x a o e).stay (fun b u _ q=>k b u q) (fun _ q=>q) fun _ _ q=>q
def HOk.laid (x:HOk P w H h) (k:∀b u,h.get? b=some u->h'.get? b=some u) (g:h.objs.size<=a) (d:jm P w (upd H a o) h' a o):HOk P w (upd H a o) h':=fun b u e=>by
 have f:=x.fresh g;by_cases hb:b=a;·subst hb;rw[gm]at e;cases e;exact d
 ·rw[gx hb]at e;exact(x b u e).stay (fun c v _ q=>k c v q) (fun c q=>by rw[gx (gD q f)];exact q) fun c i q=>by rw[gx (gD q f)];exact q
end
def Rd (H:Hp) (a:Zx) (u:HO):Prop:=H a=some u\/∃o,H a=some (.frz o u)
def Rd.ok {P:Zu} {w:Zv} {a:Zx} {u:HO} (r:Rd H a u) (x:HOk P w H h):jm P w H h a u:=by
 rcases r with r|⟨o,r⟩;·exact x a u r
 ·obtain⟨_,q⟩:=x a _ r;exact q
def Mut:Option HO->Prop
 |some (.lst _)=>True
 |some (.dK _)=>True
 |some (.dT _)=>True
 |some (.set _ _)=>True
 |some (.ins _ _ _)=>True
 |some (.ext _)=>True
 |_=>False
section
variable {P:Zu} {w:Zv} {H:Hp} {h h':Zt} {x e:Zx} {o':HO}
def HOk.write (n:HOk P w H h) (g:Mut (H x)) (m:e=x\/H e=some (.own x)) (k:∀b u,b≠e->h.get? b=some u->h'.get? b=some u) (j:∃u,h'.get? e=some u)
  (i:jm P w (upd H x o') h' x o'):HOk P w (upd H x o') h':=fun b u q=>by
 have a:∀c y,H c=some (.own y)->c≠x:=fun c y r z=>by subst z;rw[r]at g;exact g
 have d:∀c f,H c=some (.tup f)->c≠x:=fun c f r z=>by subst z;rw[r]at g;exact g
 by_cases hb:b=x;·subst hb;rw[gm]at q;cases q;exact i
 ·rw[gx hb]at q;by_cases hbe:b=e
  ·have l:H b=some (.own x):=by
    rcases m with z|z;·exact absurd (hbe.trans z) hb
    ·rw[hbe];exact z
   rw[q]at l;cases l;obtain⟨v,o⟩:=j;exact⟨v,by rw[hbe];exact o⟩
  ·refine(n b u q).stay (fun c v hc r=>k c v ?_ r) (fun c r=>by rw[gx (a c b r)];exact r) fun c f r=>by rw[gx (d c f r)];exact r
   rcases hc with rfl|hc;·exact hbe
   ·rintro rfl;rcases m with z|z;·exact a c b hc z
    ·rw[hc]at z;cases z;exact hb rfl
end
structure Un (fs ex:List Zx) (H H':Hp) (h h':Zt):Prop where
 keep:∀b o,h.get? b=some o->H b=none->b∉fs->b∉ex->h'.get? b=some o
 slot:∀b o,h.get? b=some o->H b=none->b∈fs->b∉ex->∃sl,h'.get? b=some {o with slots:=sl}
 free:∀b o,h.get? b=some o->H b=none->b∉ex->H' b=none
 there:∀b o,h.get? b=some o->b∉ex->∃o',h'.get? b=some o'
 tups:∀b xs,H b=some (.tup xs)->H' b=some (.tup xs)
 frzs:∀b o u,H b=some (.frz o u)->H' b=some (.frz o u)
 tbls:∀b ps,H b=some (.tbl ps)->∃more,H' b=some (.tbl (ps++more))
section
variable {fs fs' ex ex':List Zx} {H H1 H2:Hp} {h h1 h2 h':Zt} {a x e:Zx} {o:HO}
def Un.any (u:Un fs ex H H1 h h1) {b:Zx} {a:Obj} (q:h.get? b=some a) (n:H b=none) (c:b∉ex):∃d,h1.get? b=some {a with slots:=d}:=by
 by_cases hb:b∈fs;·exact u.slot b a q n hb c
 ·exact⟨a.slots,u.keep b a q n hb c⟩
def Un.trans (a:Un fs ex H H1 h h1) (b:Un fs ex H1 H2 h1 h2):Un fs ex H H2 h h2 where
 keep:=fun c d q n i e=>b.keep c d (a.keep c d q n i e) (a.free c d q n e) i e
 slot:=fun c d q n i e=>by obtain⟨r,f⟩:=a.slot c d q n i e;obtain⟨j,l⟩:=b.slot c _ f (a.free c d q n e) i e;exact⟨j,l⟩
 free:=fun c d q n e=>by obtain⟨k,f⟩:=a.there c d q e;exact b.free c k f (a.free c d q n e) e
 there:=fun c d q e=>by obtain⟨k,f⟩:=a.there c d q e;exact b.there c k f e
 tups:=fun c g q=>b.tups c g (a.tups c g q)
 frzs:=fun c d g q=>b.frzs c d g (a.frzs c d g q)
 tbls:=fun c m q=>by obtain⟨p,f⟩:=a.tbls c m q;obtain⟨o,l⟩:=b.tbls c _ f;exact⟨p++o,by rw[l,Array.append_assoc]⟩
def Un.kept (k:∀b u,h.get? b=some u->h'.get? b=some u):Un fs ex H H h h':=
 ⟨fun b a q _ _ _=>k b a q,fun b a q _ _ _=>⟨a.slots,k b a q⟩,fun _ _ _ n _=>n,fun b a q _=>⟨a,k b a q⟩,fun _ _ q=>q,fun _ _ _ q=>q,fun _ c q=>⟨#[],by rw[q];simp⟩⟩
def Un.refl:Un fs ex H H h h:=Un.kept fun _ _ q=>q
def Un.laid (k:∀b u,h.get? b=some u->h'.get? b=some u) (e:h.objs.size<=a) (c:H a=none):Un fs ex H (upd H a o) h h' where
 keep:=fun b u q _ _ _=>k b u q
 slot:=fun b u q _ _ _=>⟨u.slots,k b u q⟩
 free:=fun b u q n _=>by rw[gx (cH (cF (fZ q) e))];exact n
 there:=fun b u q _=>⟨u,k b u q⟩
 tups:=fun b d q=>by rw[gx (gD q c)];exact q
 frzs:=fun b u d q=>by rw[gx (gD q c)];exact q
 tbls:=fun b f q=>⟨#[],by rw[gx (gD q c),q];simp⟩
def Un.write (a:Mut (H x)) (l:e=x\/H e=some (.own x)) (k:∀b u,b≠e->h.get? b=some u->h'.get? b=some u) (d:∃u,h'.get? e=some u):Un fs ex H (upd H x o) h h':=by
 have f:∀b,H b=none->b≠x:=fun b n z=>by subst z;rw[n]at a;exact a
 have g:∀b,H b=none->b≠e:=fun b n z=>by
  subst z;rcases l with r|r;·exact f b n r
  ·rw[n]at r;cases r
 have c:∀b u,H b=some u->¬Mut (some u)->b≠x:=fun b u q j z=>by subst z;rw[q]at a;exact j a
 refine⟨fun b u q n _ _=>k b u (g b n) q,fun b u q n _ _=>⟨u.slots,k b u (g b n) q⟩,fun b u q n _=>by rw[gx (f b n)];exact n,fun b u q _=>?_,
  fun b i q=>by rw[gx (c b _ q fun z=>z)];exact q,fun b u i q=>by rw[gx (c b _ q fun z=>z)];exact q,fun b m q=>⟨#[],by rw[gx (c b _ q fun z=>z),q];simp⟩⟩;by_cases hbe:b=e;·subst hbe;exact d
 ·exact⟨u,k b u hbe q⟩
end
noncomputable def trk (h:Zt) (H:Hp):List Zx:=(aa h.objs.size).filter fun a=>(H a).isSome
def AZ (h:Zt) (H:Hp):Zt:=PySem.W.hideAll h (trk h H)
def yw (h:Zt) (H:Hp):(AZ h H).objs.size=h.objs.size:=PySem.W.hideAll_size _ _
def A1(e:h.get? b=some o) (n:H b=none):(AZ h H).get? b=some o:=
 PySem.W.hideAll_get _ e fun a=>by have q:(H b).isSome=true:=(ae.mp a).2;rw[n]at q;simp at q
def Dr(e:(AZ h H).get? b=some o):h.get? b=some o/\H b=none:=by
 have a:h.get? b=some o:=PySem.W.of_hideAll (trk h H) e;refine⟨a,?_⟩
 cases q:H b with
 |none=>rfl
 |some x=>have c:b∈trk h H:=ae.mpr ⟨af.mpr (fZ a),by simp[q]⟩;have z:(AZ h H).get? b=none:=PySem.W.hideAll_none (trk h H) c;rw[z]at e;cases e
structure Mod (K:Zp) (mg:Zc) (base:Zt):Prop where
 kin:K.In base
 glob:base.Ns C8 mg
 blt:∃mb,base.Ns builtinsNs mb/\∀x:Str,x≠"__name__"->mb x=IZ x
 nolimit:base.NoLimit
structure Cx where
 prog:Zu
 w:Zv
 K:Zp
 mg:Str->Option Zz
 base:Zt
 A:Zw
 N:List Str
 s₀:Zy
 H₀:Hp
 env:Env
 outer:List Env
 stack:List Env
 ex:List Zx
 fn:Str->Bool
 calm:Bool
 pn:Za
 xe:Zz->Zy->Prop
noncomputable def frs (l:List Env):List Zx:=l.filterMap (·.frame)
abbrev Cx.fs (X:Cx):List Zx:=frs X.outer
def Vis (sc:Scope) (x:Str):Prop:=sc.names.lookup x=some .local\/sc.names.lookup x=some .cell\/sc.names.lookup x=some .free
def Loc (sc:Scope) (x:Str):Prop:=sc.names.lookup x=some .local\/sc.names.lookup x=some .cell
def Look (a:Env) (h:Zt) (m:Zc) (x:Str) (u:Zz):Prop:=
 (a.kindOf x=some .local/\m x=some u)\/((a.kindOf x=some .cell\/a.kindOf x=some .free)/\∃c,a.cells.lookup x=some c/\h.IsCell c (some u))
structure Cx.Ok (X:Cx):Prop where
 mod:Mod X.K X.mg X.base
 kind:X.env.scope.kind= .function
 glob:X.env.globals=C8
 blt:X.env.builtins=builtinsNs
 above:X.s₀.heap.objs.size<=X.env.locals
 inj:∀x y c,X.env.cells.lookup x=some c->X.env.cells.lookup y=some c->x=y
 has:∀x,(X.env.kindOf x=some .cell\/X.env.kindOf x=some .free)->∃c,X.env.cells.lookup x=some c
 cab:∀x c,X.fn x=true->X.env.cells.lookup x=some c->X.s₀.heap.objs.size<=c
 hd:X.calm=true->X.A.handled=none
 frames:X.A.frames=some X.stack
 stk:X.stack=X.outer\/(X.stack=X.env::X.outer/\X.env.frame=some X.env.locals)
 exf:∀b∈X.ex,b≠X.env.locals/\∀x c,X.env.cells.lookup x=some c->c≠b
 bs:∀b o,X.base.get? b=some o->X.s₀.heap.get? b=some o/\X.H₀ b=none
 bsz:X.base.objs.size<=X.s₀.heap.objs.size
 noex:∀b o,X.base.get? b=some o->b∉X.ex
 exfs:∀b∈X.ex,b∉X.fs
 funs:X.s₀.heap.FunFrames X.base X.outer
 frf:∀b∈X.fs,X.H₀ b=none
structure Inv (X:Cx) (pz:Za) (σ:List (Option V)) (H:Hp) (s:Zy):Prop where
 ok:X.Ok
 os:s.os=X.s₀.os
 bare:AllBare s.gens
 base:Un X.fs X.ex X.H₀ H X.s₀.heap s.heap
 loc:∃m,s.heap.Ns X.env.locals m/\∀(i:Nat) (x:Str) (v:V),X.N[i]?=some x->σ[i]?=some (some v)->Vis X.env.scope x->∃u,iZ v u/\Look X.env s.heap m x u
 cell:∀x c,X.env.cells.lookup x=some c->∃v,s.heap.IsCell c v
 free:H X.env.locals=none
 freeC:∀x c,X.env.cells.lookup x=some c->H c=none
 pin:∀p∈X.pn++pz,s.heap.get? p.1=some p.2/\H p.1=none/\p.1≠X.env.locals/\p.1∉X.fs/\∀v,p.2.data≠ .cell v
 hok:HOk X.prog X.w H s.heap
 len:σ.length=X.N.length
section
variable {X:Cx} {pz:Za} {σ:List (Option V)} {H H':Hp} {s:Zy} {h':Zt}
def Cx.Ok.nofr (a:X.Ok) {b:Zx} {o:Obj} (e:X.base.get? b=some o):b∉X.fs:=fun c=>by have:=(a.funs.mem c).1;rw[e]at this;cases this
theorem Inv.bs (I:Inv X pz σ H s):∀b o,X.base.get? b=some o->s.heap.get? b=some o/\H b=none:=fun b o e=>
 ⟨I.base.keep b o (I.ok.bs b o e).1 (I.ok.bs b o e).2 (I.ok.nofr e) (I.ok.noex b o e),I.base.free b o (I.ok.bs b o e).1 (I.ok.bs b o e).2 (I.ok.noex b o e)⟩
def Inv.bk (I:Inv X pz σ H s):∀b o,X.base.get? b=some o->s.heap.get? b=some o:=fun b o e=>(I.bs b o e).1
theorem Inv.mod (I:Inv X pz σ H s):Mod X.K X.mg X.base:=I.ok.mod
def Inv.kIn (I:Inv X pz σ H s):X.K.In s.heap:=I.ok.mod.kin.keeps I.bk
theorem Inv.lt (I:Inv X pz σ H s):X.env.locals<s.heap.objs.size:=let⟨_,hn,_⟩:=I.loc;hn.lt
def Inv.sz (I:Inv X pz σ H s):X.s₀.heap.objs.size<=s.heap.objs.size:=cJ I.ok.above (cK I.lt)
def Inv.nofs (I:Inv X pz σ H s) {a:Zx} (h:s.heap.objs.size<=a):a∉X.fs:=fun c=>by refine eay (I.ok.funs.mem c) fun _=>fL fun o=>f8 fun b _=>?_;exact absurd (cF (fZ b) (cJ I.sz h)) (cG _)
def Inv.cne (I:Inv X pz σ H s):∀x c,X.env.cells.lookup x=some c->c≠X.env.locals:=fun x c e z=>by refine ead (I.cell x c e) fun v o d f=>?_;refine eax I.loc fun m g _=>?_;refine eaB g fun h i j=>fab fun a b _=>?_;rw[z,a]at d;cases d;rw[b]at f;cases f
theorem Inv.funs (I:Inv X pz w H s):s.heap.FunFrames X.base X.outer:=by
 have g:∀(l:List Env),(∀b∈frs l,b∈X.fs)->X.s₀.heap.FunFrames X.base l->s.heap.FunFrames X.base l:=by
  intro l
  induction l with
  |nil=>intro _ _;trivial
  |cons u r j=>intro h p;refine eaz p fun q i k=>?_;refine eaD i fun L o=>fac fun c n m t=>?_;have f:L∈X.fs:=h L (by unfold frs;rw[ag,c];exact ah);obtain⟨x,e⟩:=I.base.slot L o m (I.ok.frf L f) f fun z=>I.ok.exfs L z f;exact⟨q,(iaa L _ c n e t),j (fun b d=>h b (by unfold frs;rw[ag,c];exact ai _ d)) k⟩
 exact g X.outer (fun _ d=>d) I.ok.funs
theorem Inv.stack (I:Inv X pz σ H s):s.heap.FunFrames X.base X.stack:=by
 rcases I.ok.stk with e|⟨e,b⟩;·rw[e];exact I.funs
 ·rw[e];refine eax I.loc fun m a _=>?_;refine .cons (by rw[I.ok.kind];decide) b a ?_ I.funs;exact Heap.get?_none_of_le (cJ I.ok.bsz I.ok.above)
def Inv.stkSub (I:Inv X pz σ H s):∀b∈frs X.stack,b∈X.env.locals::X.fs:=fun b a=>by
 rcases I.ok.stk with e|⟨e,d⟩;·rw[e]at a;exact ai _ a
 ·rw[e]at a;unfold frs at a;rw[ag,d]at a;exact a
def Inv.stkFree (I:Inv X pz σ H s):∀b∈frs X.stack,H b=none:=fun b hb=>by
 rcases aj.mp (I.stkSub b hb)with e|hb;·rw[e];exact I.free
 ·refine eay (I.ok.funs.mem hb) fun _=>fL fun o=>f8 fun a _=>?_;exact I.base.free b o a (I.ok.frf b hb) fun z=>I.ok.exfs b z hb
def Inv.step {g':Array GenState} {d':Drawn} {ch:List Zx} (I:Inv X T σ H s)
  (j:∀b∈ch,(b∈X.ex\/X.s₀.heap.objs.size<=b)/\b≠X.env.locals/\(∀x c,X.env.cells.lookup x=some c->c≠b)/\∀p∈X.pn++T,p.1≠b)
  (h:∀b o,b≠X.env.locals->b∉X.fs->b∉ch->s.heap.get? b=some o->H b=none->h'.get? b=some o)
  (B:∀b o,b≠X.env.locals->b∈X.fs->b∉ch->s.heap.get? b=some o->H b=none->∃Q,h'.get? b=some {o with slots:=Q}) (f:∀b o,b∉ch->s.heap.get? b=some o->H b=none->H' b=none)
  (C:∀b o,b∉ch->s.heap.get? b=some o->∃J,h'.get? b=some J)
  (F:∀b A,H b=some (.tup A)->H' b=some (.tup A)) (M:∀b o u,H b=some (.frz o u)->H' b=some (.frz o u)) (G:∀b O,H b=some (.tbl O)->∃L,H' b=some (.tbl (O++L)))
  (Z:∀m,s.heap.Ns X.env.locals m->h'.Ns X.env.locals m) (R:HOk X.prog X.w H' h') (hg:AllBare g'):
  Inv X T σ H' {s with heap:=h',gens:=g',drawn:=d',toks:=t'}:=by
 have K:∀b o,X.s₀.heap.get? b=some o->b≠X.env.locals:=fun b o e=>cH (cF (fZ e) I.ok.above);have w:∀b o,X.s₀.heap.get? b=some o->b∉X.ex->b∉ch:=fun b o e a D=>by
  rcases(j b D).1 with z|z;·exact a z
  ·exact absurd (cF (fZ e) z) (cG _)
 have t:∀x c,X.env.cells.lookup x=some c->∀v,s.heap.IsCell c v->h'.IsCell c v:=fun x c e v ⟨o,E,S⟩=>by
  have g:c∉ch:=fun z=>(j c z).2.2.1 x c e rfl;by_cases hc:c∈X.fs;·obtain⟨Q,q⟩:=B c o (I.cne x c e) hc g E (I.freeC x c e);exact⟨_,q,S⟩
  ·exact⟨o,h c o (I.cne x c e) hc g E (I.freeC x c e),S⟩
 refine⟨I.ok,I.os,hg,⟨fun b o e n D a=>?_,fun b o e n D a=>?_,fun b o e n a=>?_,fun b o e a=>?_,fun b A e=>F b A (I.base.tups b A e),fun b o A e=>M b o A (I.base.frzs b o A e),fun b O e=>?_⟩,?_,fun x c e=>?_,?_,fun x c e=>?_,fun p W=>?_,R,I.len⟩;·exact h b o (K b o e) D (w b o e a) (I.base.keep b o e n D a) (I.base.free b o e n a)
 ·obtain⟨Q,y⟩:=I.base.slot b o e n D a;obtain⟨P,N⟩:=B b _ (K b o e) D (w b o e a) y (I.base.free b o e n a);exact⟨P,N⟩
 ·obtain⟨J,y⟩:=I.base.there b o e a;exact f b J (w b o e a) y (I.base.free b o e n a)
 ·obtain⟨J,y⟩:=I.base.there b o e a;exact C b J (w b o e a) y
 ·obtain⟨m1,y⟩:=I.base.tbls b O e;obtain⟨m2,N⟩:=G b _ y;exact⟨m1++m2,by rw[N,Array.append_assoc]⟩
 ·refine eae I.loc fun m hn hl=>?_;refine⟨m,Z m hn,fun i x v y N e3=>?_⟩;refine eae (hl i x v y N e3) fun u r l=>?_;refine⟨u,r,?_⟩;rcases l with l|⟨k,c,e,z⟩;·exact .inl l
  ·exact .inr ⟨k,c,e,t x c e _ z⟩
 ·obtain⟨v,z⟩:=I.cell x c e;exact⟨v,t x c e v z⟩
 ·refine eax I.loc fun m Y _=>?_;refine eaB Y fun o _ _=>f8 fun E _=>?_;exact f _ o (fun z=>(j _ z).2.1 rfl) E I.free
 ·refine ead (I.cell x c e) fun v o E S=>?_;exact f c o (fun z=>(j c z).2.2.1 x c e rfl) E (I.freeC x c e)
 ·refine eab (I.pin p W) fun e n V U d=>?_;have g:p.1∉ch:=fun z=>(j p.1 z).2.2.2 p W rfl;exact⟨h p.1 p.2 V U g e n,f p.1 p.2 g e n,V,U,d⟩
def Inv.un (I:Inv X pz σ H s) (u:Un X.fs [] H H' s.heap h') (c:HOk X.prog X.w H' h'):Inv X pz σ H' {s with heap:=h',toks:=t'}:=by
 refine eax (id I.loc) fun m i _=>?_;refine eaB i fun o v w=>f8 fun h r=>?_;obtain⟨p,l⟩:=u.any h I.free (by simp);exact I.step (g':=s.gens) (d':=s.drawn) (ch:=[]) (fun _ z=>nomatch z) (fun b o _ d _ e n=>u.keep b o e n d (by simp)) (fun b o _ d _ e n=>u.slot b o e n d (by simp)) (fun b o _ e n=>u.free b o e n (by simp)) (fun b o _ e=>u.there b o e (by simp)) u.tups u.frzs u.tbls (fun t k=>by refine eaf k fun q f g a j=>?_;rw[h]at a;cases a;exact iar _ f g ⟨l,j⟩) c I.bare
def Inv.call {g':Array GenState} {d':Drawn} {ch:List Zx} (I:Inv X k σ H s) (u:Un (frs X.stack) ch H H' s.heap h') (g:HOk X.prog X.w H' h') (w:AllBare g')
  (f:∀b∈ch,(b∈X.ex\/X.s₀.heap.objs.size<=b)/\b≠X.env.locals/\(∀x c,X.env.cells.lookup x=some c->c≠b)/\∀p∈X.pn++k,p.1≠b):
  Inv X k σ H' {s with heap:=h',gens:=g',drawn:=d',toks:=t'}:=by
 refine eax (id I.loc) fun m q _=>?_;refine eaB q fun o D E=>f8 fun l r=>?_;obtain⟨A,h⟩:=u.any l I.free fun z=>(f _ z).2.1 rfl;exact I.step (ch:=ch) f (fun b o h y a e n=>u.keep b o e n (fun z=>(aj.mp (I.stkSub b z)).elim h y) a) (fun b o _ _ a e n=>u.any e n a) (fun b o a e n=>u.free b o e n a) (fun b o a e=>u.there b o e a) u.tups u.frzs u.tbls (fun C v=>by refine eaf v fun B i j d t=>?_;rw[l]at d;cases d;exact iar _ i j ⟨h,t⟩) g w
def Inv.turned {it:Zx} (I:Inv X f σ H s) (k:∀b o,b≠it->s.heap.get? b=some o->h'.get? b=some o) (i:H it=none) (g:it≠X.env.locals)
  (y:it∈X.ex\/X.s₀.heap.objs.size<=it) (w:∀x c,X.env.cells.lookup x=some c->c≠it) (t:∀p∈X.pn++f,p.1≠it):Inv X f σ H {s with heap:=h',toks:=t'}:=by
 have d:∀b u,H b=some u->b≠it:=fun b u e z=>by rw[z,i]at e;cases e
 refine I.step (g':=s.gens) (d':=s.drawn) (ch:=[it]) (fun b l=>?_) (fun b o _ _ a e _=>k b o (fun z=>a (by simp[z])) e) (fun b o _ _ a e _=>⟨o.slots,k b o (fun z=>a (by simp[z])) e⟩) (fun _ _ _ _ n=>n)
  (fun b o a e=>⟨o,k b o (fun z=>a (by simp[z])) e⟩) (fun _ _ e=>e) (fun _ _ _ e=>e) (fun b C e=>⟨#[],by rw[e];simp⟩) (fun m j=>?_) (fun b u e=>?_) I.bare
 ·have e:b=it:=by simpa using l
  subst e;exact⟨y,g,w,t⟩
 ·refine eaf j fun o A B h r=>?_;exact iar o A B ⟨k _ o (IU g) h,r⟩
 ·refine(I.hok b u e).stay (fun c v a q=>k c v ?_ q) (fun _ q=>q) fun _ _ q=>q;rcases a with z|z;·rw[z];exact d b u e
  ·exact d c _ z
def Inv.tok (I:Inv X pz σ H s) (t:Nat):Inv X pz σ H {s with toks:=t}:=I.un (h':=s.heap) (t':=t) Un.refl I.hok
theorem Inv.kept (I:Inv X pz σ H s) (k:∀b u,s.heap.get? b=some u->h'.get? b=some u):Inv X pz σ H {s with heap:=h',toks:=t'}:=I.un (Un.kept k) (I.hok.kept k)
theorem Inv.laid {a:Zx} {o:HO} (I:Inv X pz σ H s) (k:∀b u,s.heap.get? b=some u->h'.get? b=some u) (d:s.heap.objs.size<=a) (c:jm X.prog X.w (upd H a o) h' a o):
  Inv X pz σ (upd H a o) {s with heap:=h',toks:=t'}:=I.un (Un.laid k d (I.hok.fresh d)) (I.hok.laid k d c)
theorem Inv.write {x e:Zx} {o:HO} (I:Inv X pz σ H s) (d:Mut (H x)) (f:e=x\/H e=some (.own x)) (k:∀b u,b≠e->s.heap.get? b=some u->h'.get? b=some u) (a:∃u,h'.get? e=some u)
  (c:jm X.prog X.w (upd H x o) h' x o):Inv X pz σ (upd H x o) {s with heap:=h',toks:=t'}:=I.un (Un.write d f k a) (I.hok.write d f k a c)
def Inv.pins_of {a:Za} (I:Inv X pz σ H s) (h:∀p∈a,s.heap.get? p.1=some p.2/\H p.1=none/\p.1≠X.env.locals/\p.1∉X.fs/\∀v,p.2.data≠ .cell v):Inv X a σ H s:=
 ⟨I.ok,I.os,I.bare,I.base,I.loc,I.cell,I.free,I.freeC,fun p b=>(ak.mp b).elim (fun z=>I.pin p (ao _ z)) (h p),I.hok,I.len⟩
def wm(c:N.Nodup) (a:N[i]?=some x) (b:N[j]?=some x):i=j:=by obtain⟨g,e⟩:=aq.mp a;obtain⟨f,d⟩:=aq.mp b;exact(List.getElem_inj c).mp (e.trans d.symm)
def yx{E:Zb} {Q:Unit->Zy->Prop} (I:Inv X pz σ H s) (hN:X.N.Nodup) (hi:X.N[i]?=some x) (t:Loc X.env.scope x) (r:iZ v u)
  (h:∀V,Inv X pz (σ.set i (some v)) H V->(∃a,JT a s.heap V.heap/\(a=X.env.locals\/X.env.cells.lookup x=some a))->Q () V) (hf:autoParam (X.fn x=true\/X.env.scope.names.lookup x=some .local) auL._auto_1):C7 M A (storeName X.env x u) Q E s:=by
 refine eae (id I.loc) fun m hn hl=>?_;have L:(X.env.scope.kind== .class||(X.env.scope.kind== .module&&X.env.locals !=X.env.globals))=false:=by rw[I.ok.kind];rfl
 have hiσ:i<σ.length:=by rw[I.len];exact(aq.mp hi).1
 have F:=I.cne;have g:∀{a:Zx} {G:Zt},(∃o,s.heap.get? a=some o/\H a=none)->JT a s.heap G->HOk X.prog X.w H G:=fun{a G} ha f b ob e=>by
  refine eae ha fun _ _ w=>?_;refine(I.hok b ob e).stay (fun c O hc q=>(f.2 c ?_).trans q) (fun _ q=>q) fun _ _ q=>q;rintro rfl;rcases hc with rfl|hc;·rw[w]at e;cases e
  ·rw[w]at hc;cases hc
 rcases t with hk|hk
 ·refine wpAny_storeName_local hk hn (fun G hn' f=>?_) L;refine eaf (id hn) fun oL _ _ hoL _=>?_;refine h _ ⟨I.ok,I.os,I.bare,⟨fun b o e n D t=>?_,fun b o e n D t=>?_,I.base.free,fun b o e t=>?_,I.base.tups,I.base.frzs,I.base.tbls⟩,⟨_,hn',fun j y S l B e3=>?_⟩,fun y c e=>?_,I.free,I.freeC,fun p hp=>?_,g ⟨oL,hoL,I.free⟩ f,by simpa using I.len⟩ ⟨_,f,.inl rfl⟩;·exact(f.2 b (cH (cF (fZ e) I.ok.above))).trans (I.base.keep b o e n D t)
  ·obtain⟨U,l⟩:=I.base.slot b o e n D t;exact⟨U,(f.2 b (cH (cF (fZ e) I.ok.above))).trans l⟩
  ·obtain⟨Y,l⟩:=I.base.there b o e t;exact⟨Y,(f.2 b (cH (cF (fZ e) I.ok.above))).trans l⟩
  ·by_cases hj:j=i;·subst hj;rw[hi]at l;cases l;rw[av hiσ]at B;cases B;exact⟨u,r,.inl ⟨hk,by simp⟩⟩
   ·rw[aw (IU hj)]at B;refine eae (hl j y S l B e3) fun T W q=>?_;refine⟨T,W,?_⟩;rcases q with⟨k,e⟩|⟨k,c,e,z⟩;·refine .inl ⟨k,?_⟩;have:y≠x:=fun e=>hj (wm hN l (e▸hi));simp[this,e]
    ·exact .inr ⟨k,c,e,z.sameBut f (F y c e)⟩
  ·obtain⟨O,z⟩:=I.cell y c e;exact⟨O,z.sameBut f (F y c e)⟩
  ·refine eab (I.pin p hp) fun e n P Z d=>?_;exact⟨(f.2 p.1 P).trans e,n,P,Z,d⟩
 ·have C:X.fn x=true:=by
   rcases hf with z|z;·exact z
   ·rw[z]at hk;cases hk
  obtain⟨c,hc⟩:=I.ok.has x (.inl hk);obtain⟨O,z⟩:=I.cell x c hc;refine wpAny_storeName_cell I.ok.kind hk hc z (fun G N f=>?_);refine eae (id z) fun oc K J=>?_;refine h {s with heap:=G} ⟨I.ok,I.os,I.bare,⟨fun b o e n D t=>?_,fun b o e n D t=>?_,I.base.free,fun b o e t=>?_,I.base.tups,I.base.frzs,I.base.tbls⟩,⟨m,hn.sameBut f (IU (F x c hc)),fun j y S l B e3=>?_⟩,fun y R e=>?_,I.free,I.freeC,fun p hp=>?_,g ⟨oc,K,I.freeC x c hc⟩ f,by simpa using I.len⟩ ⟨c,f,.inr hc⟩;·exact(f.2 b (cH (cF (fZ e) (I.ok.cab x c C hc)))).trans (I.base.keep b o e n D t)
  ·obtain⟨U,l⟩:=I.base.slot b o e n D t;exact⟨U,(f.2 b (cH (cF (fZ e) (I.ok.cab x c C hc)))).trans l⟩
  ·obtain⟨Y,l⟩:=I.base.there b o e t;exact⟨Y,(f.2 b (cH (cF (fZ e) (I.ok.cab x c C hc)))).trans l⟩
  ·by_cases hj:j=i;·subst hj;rw[hi]at l;cases l;rw[av hiσ]at B;cases B;exact⟨u,r,.inr ⟨.inl hk,c,hc,N⟩⟩
   ·rw[aw (IU hj)]at B;refine eae (hl j y S l B e3) fun T W q=>?_;refine⟨T,W,?_⟩;rcases q with q|⟨k,R,e,z'⟩;·exact .inl q
    ·refine .inr ⟨k,R,e,z'.sameBut f ?_⟩;rintro rfl;exact hj (wm hN l (I.ok.inj _ _ _ e hc▸hi))
  ·by_cases hcc:R=c;·subst hcc;exact⟨_,N⟩
   ·obtain⟨w2,z2⟩:=I.cell y R e;exact⟨w2,z2.sameBut f hcc⟩
  ·refine eab (I.pin p hp) fun e n P Z d=>?_;refine⟨(f.2 p.1 ?_).trans e,n,P,Z,d⟩;intro q;rw[q,K]at e;have q':oc=p.2:=dj.inj e;exact d O (by rw[<-q'];exact J)
def qq{E:Zb} {Q:Unit->Zy->Prop} (I:Inv X pz σ H s) (d:X.N.Nodup) (hi:X.N[i]?=some x) (b:Loc X.env.scope x) (r:iZ v u)
  (h:∀a,Inv X pz (σ.set i (some v)) H a->Q () a) (c:autoParam (X.fn x=true\/X.env.scope.names.lookup x=some .local) auL._auto_1):C7 M A (storeName X.env x u) Q E s:=
 yx I d hi b r (fun a e _=>h a e) c
def Inv.call' {s':Zy} {ch:List Zx} (I:Inv X f σ H s) (ho:s'.os=s.os) (u:Un (frs X.stack) ch H H' s.heap s'.heap) (a:HOk X.prog X.w H' s'.heap) (i:AllBare s'.gens)
  (d:∀b∈ch,(b∈X.ex\/X.s₀.heap.objs.size<=b)/\b≠X.env.locals/\(∀x c,X.env.cells.lookup x=some c->c≠b)/\∀p∈X.pn++f,p.1≠b):Inv X f σ H' s':=by obtain⟨l,j,k,g,h⟩:=s';have e:h=s.os:=ho;subst e;exact I.call (g':=j) (t':=g) (d':=k) u a i d
end
abbrev XK:=Zz->Option Zx->Hp->Prop
abbrev St:=List (Option V)
abbrev VK:=V->Hp->Prop
abbrev TE:=St->Hp->VK->Prop
abbrev TT:=St->Hp->(Bool->Hp->Prop)->Prop
abbrev TA:=St->Hp->(List V->Hp->Prop)->Prop
structure mZ where
 nx:St->Hp->Prop
 rt:VK
 bk:St->Hp->Prop:=fun _ _=>False
 ct:St->Hp->Prop:=fun _ _=>False
abbrev TS.Internal:=mZ->St->Hp->Prop
def EP (X:Cx) (c:Za) (b:St) (Q:VK) (u:Zz) (s':Zy):Prop:=∃v a,Inv X c b a s'/\iZ v u/\Q v a
def TP (X:Cx) (d:Za) (c:St) (Q:Bool->Hp->Prop) (b:Bool) (s':Zy):Prop:=∃a,Inv X d c a s'/\Q b a
def AP (X:Cx) (d:Za) (c:St) (Q:List V->Hp->Prop) (us:List Zz) (s':Zy):Prop:=∃a b,Inv X d c b s'/\jh a us/\Q a b
def SP (X:Cx) (c:Za) (D:mZ) (f:Flow) (s':Zy):Prop:=
 match f with
 | .next=>∃a b,Inv X c a b s'/\D.nx a b
 | .brk=>∃a b,Inv X c a b s'/\D.bk a b
 | .cont=>∃a b,Inv X c a b s'/\D.ct a b
 | .ret u=>∃v a b,Inv X c a b s'/\iZ v u/\D.rt v b
def PE (X:Cx) (e:Zr) (t:TE):Prop:=
 ∀(b:Za) (s:Zy) (a:St) (H:Hp) (Q:VK),Inv X b a H s->t a H Q->C7 (model X.prog X.w) X.A (eval e X.env) (EP X b a Q) X.xe s
def PT (X:Cx) (e:Zr) (t:TT):Prop:=
 ∀(b:Za) (s:Zy) (a:St) (H:Hp) (Q:Bool->Hp->Prop),Inv X b a H s->t a H Q->C7 (model X.prog X.w) X.A (isTrue e X.env (eval e X.env)) (TP X b a Q) X.xe s
def PW (X:Cx) (e:Zr) (t:TT):Prop:=
 ∀(a:Sem Zz) (c:Za) (s:Zy) (b:St) (H:Hp) (Q:Bool->Hp->Prop),Inv X c b H s->t b H Q->C7 (model X.prog X.w) X.A (isTrue e X.env a) (TP X c b Q) X.xe s
def PW.pt {e:Zr} {t:TT} (h:PW X e t):PT X e t:=h _
def PA (X:Cx) (d:List Zr) (t:TA):Prop:=
 ∀(b:Pos) (c:Za) (s:Zy) (a:St) (H:Hp) (Q:List V->Hp->Prop),Inv X c a H s->t a H Q->C7 (model X.prog X.w) X.A (spliced (Jo b (IQ d X.env))) (AP X c a Q) X.xe s
def PS (X:Cx) (st:Zq) (t:TS.Internal):Prop:=
 ∀(b:Za) (s:Zy) (a:St) (H:Hp) (D:mZ),Inv X b a H s->t D a H->C7 (model X.prog X.w) X.A (exec st X.env) (SP X b D) X.xe s
def PSs (X:Cx) (st:List Zq) (t:TS.Internal):Prop:=
 ∀(b:Za) (s:Zy) (a:St) (H:Hp) (D:mZ),Inv X b a H s->t D a H->C7 (model X.prog X.w) X.A (execs st X.env) (SP X b D) X.xe s
def thn{Q:α->Zy->Prop} {E:Zb} (h:C7 M A t Q E s) (b:∀a s,Q a s->Q' a s):C7 M A t Q' E s:=I0 h b fun _ _ x=>x
section
variable {X:Cx}
def Iu (i:Nat):TE:=fun a H Q=>∃v,a[i]?=some (some v)/\Q v H
def tC (v:V):TE:=fun _ H Q=>Q v H
def EW(t:X.N[i]?=some x) (n:Vis X.env.scope x) (d:autoParam ((x==("__debug__":Str))=false) auD._auto_1) (f:autoParam ((x==("__classdict__":Str))=false) auD._auto_1):PE X (.Name x pos) (Iu i):=by
 intro k s j H Q I h;refine eae h fun v e h=>?_;refine eae I.loc fun m o q=>?_;refine eae (q i x v t e n) fun u r l=>?_;have b:EP X k j Q u s:=(iap v H ⟨I,r,h⟩);rcases l with⟨hk,p⟩|⟨hk,c,g,a⟩;·exact wpAny_Name (wpAny_loadName_local I.ok.kind hk o p b) d
 ·rcases hk with hk|hk;·exact wpAny_Name (wpAny_loadName_cell I.ok.kind hk g a b) d
  ·exact wpAny_Name (wpAny_loadName_free I.ok.kind hk g a b f) d
def gu {i j pos}:PE X (.Constant (.int i) j pos) (tC (.int i)):=fun _ _ _ H _ I h=>wpAny_Constant_int (iap (.int i) H (⟨I.tok _,⟨_,rfl⟩,h⟩))
def vx {b j pos}:PE X (.Constant (.bool b) j pos) (tC (.bl b)):=fun _ _ _ H _ I h=>Constant_bool (iap (.bl b) H ⟨I,rfl,h⟩)
def yy {j pos}:PE X (.Constant .none j pos) (tC .non):=fun _ _ _ H _ I h=>Constant_none (iap .non H ⟨I,rfl,h⟩)
def gE {x j pos}:PE X (.Constant (.str x) j pos) (tC (.str x)):=fun _ _ _ H _ I h=>Calls.Constant_str (iap (.str x) H (⟨I.tok _,⟨_,rfl⟩,h⟩))
def Gl (X:Cx) (x:Str):Prop:=X.env.kindOf x=some .globalImplicit
def tj{E:Zb} {a:St} (I:Inv X pz a H s) (c:Gl X x) (b:X.mg x=some u) (h:Q u s)
  (d:autoParam ((x==("__debug__":Str))=false) auD._auto_1):C7 (model X.prog X.w) X.A (eval (.Name x pos) X.env) Q E s:=
 Calls.Name_function_global I.ok.kind c (Calls.loadGlobal_global (by rw[I.ok.glob];exact I.mod.glob.keeps I.bk) b h) d
def p7{E:Zb} {a:St} (I:Inv X pz a H s) (e:Gl X x) (d:X.mg x=none) (b:IZ x=some u) (h:Q u s)
  (c:autoParam (x≠"__name__") auD._auto_1) (f:autoParam ((x==("__debug__":Str))=false) auD._auto_1):C7 (model X.prog X.w) X.A (eval (.Name x pos) X.env) Q E s:=by refine eax I.mod.blt fun j i g=>?_;exact Calls.Name_function_global I.ok.kind e (Calls.loadGlobal_builtin (by rw[I.ok.glob];exact I.mod.glob.keeps I.bk) d (by rw[I.ok.blt];exact i.keeps I.bk) ((g x c).trans b) h) f
def Ds(b:Gl X x) (a:X.mg x=some u) (r:iZ v u) (c:autoParam ((x==("__debug__":Str))=false) auD._auto_1):PE X (.Name x pos) (tC v):=
 fun _ _ _ H _ I h=>tj I b a (iap v H ⟨I,r,h⟩) c
def Du(d:Gl X x) (c:X.mg x=none) (a:IZ x=some u) (r:iZ v u) (b:autoParam (x≠"__name__") auD._auto_1) (e:autoParam ((x==("__debug__":Str))=false) auD._auto_1):PE X (.Name x pos) (tC v):=
 fun _ _ _ H _ I h=>p7 I d c a (iap v H ⟨I,r,h⟩) b e
variable {a b:Zr} {ta tb:TE} {pos:Pos}
def PC (X:Cx) (g:CmpOp) (a b:Zr) (t:TE):Prop:=
 ∀(f:Za) (s:Zy) (e:St) (H:Hp) (Q:VK),Inv X f e H s->t e H Q->
  C7 (model X.prog X.w) X.A (eval a X.env) (fun v d=>C7 (model X.prog X.w) X.A (eval b X.env) (fun u c=>C7 (model X.prog X.w) X.A (Jf g v u) (EP X f e Q) X.xe c) X.xe d) X.xe s
def wo(b:Zr) (h:op≠ .In) (a:op≠ .NotIn):Jr op b=false:=by
 have d:(op==CmpOp.In)=false:=by cases op<;>first|rfl|exact absurd rfl h
 have c:(op==CmpOp.NotIn)=false:=by cases op<;>first|rfl|exact absurd rfl a
 cases b<;>simp[Jr,d,c]
def tIsN (b:TE):TE:=fun a H Q=>b a H fun x c=>Q (.bl (decide (x= .non))) c
def iZ.none_iff {x:V} {v:Zz} (r:iZ x v):(v==Jm)=decide (x= .non):=by
 cases x with
 |non=>cases r;rfl
 |bl _=>cases r;rfl
 |int _=>obtain⟨t,rfl⟩:=r;rfl
 |str _=>obtain⟨t,rfl⟩:=r;rfl
 |byt _=>obtain⟨t,rfl⟩:=r;rfl
 |flt _=>obtain⟨t,rfl⟩:=r;rfl
 |ref _=>cases r;rfl
 |ty _=>cases r;rfl
def yA {j pos'} (f:PE X a ta):PC X .Is a (.Constant .none j pos') (tIsN ta):=by intro e s b H Q I h;refine thn (f e s b H _ I h) ?_;refine fun v k=>fad fun x i g c d=>?_;exact Constant_none (is_none_gen (iap (.bl _) i ⟨g,by rw[c.none_iff];rfl,d⟩))
def tB (t:TE):TT:=fun a H Q=>t a H fun x b=>∃c,x= .bl c/\Q c b
def EX {op:CmpOp} {t:TE} (h:PC X op a b t) (h1:Jr op b=false:=by first|exact wo _ (by decide) (by decide)|rfl):PE X (.Compare a [op] [b] pos) t:=fun pz s σ H Q I hw=>wpAny_Compare1 (h pz s σ H Q I hw) h1
def yB {op:CmpOp} {t:TE} (h:PC X op a b t) (h1:Jr op b=false:=by first|exact wo _ (by decide) (by decide)|rfl):PT X (.Compare a [op] [b] pos) (tB t):=by intro pz s σ H Q I hw;refine wpAny_isTrue_Compare1 (thn (h pz s σ H _ I hw) fun v s1 h1=>thn h1 fun u s2 h2=>thn h2 ?_) h1;refine fun c s3=>fad fun x H1 I1 r1 q1=>?_;refine eae q1 fun d z0 q=>?_;subst z0;cases r1;exact Jq ⟨H1,I1,q⟩
def oB(h:PE X e t) (k:autoParam (∀a,isTrue e X.env a=(do let v<-a;standAt e.pos;holding [v] (truthy v))) auI._auto_1):PT X e (tB t):=by intro i s b H Q I j;refine isTrue_plain (thn (h i s b H _ I j) ?_) (k _);refine fun v n=>fad fun x m l f g=>?_;refine eae g fun d c q=>?_;subst c;cases f;exact Jq ⟨m,l,q⟩
variable {tA tB':TT} {rest:List Zr}
def EK (t u:TT):TT:=fun a H Q=>t a H fun c b=>if c=true then u a b Q else Q false b
def tOr (t u:TT):TT:=fun a H Q=>t a H fun c b=>if c=true then Q true b else u a b Q
def Iv (t:TT):TT:=fun a H Q=>t a H fun c b=>Q (!c) b
def qD (f:PT X a tA):PW X (.BoolOp .And [a] pos) tA:=by
 intro g d s b H Q I h;refine isTrue_and (thn (f d s b H Q I h) fun c i e=>?_)
 cases c with
 |true=>exact isTrue_and_nil e
 |false=>exact e
def wq (f:PT X a tA):PW X (.BoolOp .Or [a] pos) tA:=by
 intro g d s b H Q I h;refine isTrue_or (thn (f d s b H Q I h) fun c i e=>?_)
 cases c with
 |false=>exact isTrue_or_nil e
 |true=>exact e
def su (m:PT X a tA) (l:PW X (.BoolOp .And (b::rest) pos) tB'):PW X (.BoolOp .And (a::b::rest) pos) (EK tA tB'):=by
 intro j f s d H Q I h;refine isTrue_and (thn (m f s d H _ I h) ?_);refine fun c k=>fae fun i g e=>?_
 cases c with
 |true=>exact l j f k d i Q g e
 |false=>exact⟨i,g,e⟩
def yC (m:PT X a tA) (l:PW X (.BoolOp .Or (b::rest) pos) tB'):PW X (.BoolOp .Or (a::b::rest) pos) (tOr tA tB'):=by
 intro j f s d H Q I h;refine isTrue_or (thn (m f s d H _ I h) ?_);refine fun c k=>fae fun i g e=>?_
 cases c with
 |true=>exact⟨i,g,e⟩
 |false=>exact l j f k d i Q g e
def um (e:PT X a tA):PT X (.UnaryOp .Not a pos) (Iv tA):=by intro d s b H Q I h;exact isTrue_not (e d s b H (fun c f=>Q (!c) f) I h)
def GY (e d:TE):TE:=fun a H Q=>e a H fun x b=>∃c,x= .bl c/\if c=true then d a b Q else Q (.bl false) b
def GZ (e d:TE):TE:=fun a H Q=>e a H fun x b=>∃c,x= .bl c/\if c=true then Q (.bl true) b else d a b Q
def G3 (b:TE):TE:=fun a H Q=>b a H fun x d=>∃c,x= .bl c/\Q (.bl (!c)) d
def uo{op} (h:PE X a t):PE X (.BoolOp op [a] pos) t:=fun c s b H Q I d=>BoolOp_one (h c s b H Q I d)
def wu (m:PE X a ta) (l:PE X (.BoolOp .And (b::rest) pos) tb):PE X (.BoolOp .And (a::b::rest) pos) (GY ta tb):=by
 intro f s e H Q I h;refine BoolOp_and (thn (m f s e H _ I h) ?_);refine fun v j=>fad fun x i g k d=>?_;obtain⟨c,rfl,d⟩:=d;cases k;refine Jq ?_
 cases c with
 |true=>exact l f j e i Q g d
 |false=>exact iap (.bl false) i ⟨g,rfl,d⟩
def EY (m:PE X a ta) (l:PE X (.BoolOp .Or (b::rest) pos) tb):PE X (.BoolOp .Or (a::b::rest) pos) (GZ ta tb):=by
 intro f s e H Q I h;refine BoolOp_or (thn (m f s e H _ I h) ?_);refine fun v j=>fad fun x i g k d=>?_;obtain⟨c,rfl,d⟩:=d;cases k;refine Jq ?_
 cases c with
 |false=>exact l f j e i Q g d
 |true=>exact iap (.bl true) i ⟨g,rfl,d⟩
def EZ (g:PE X a ta):PE X (.UnaryOp .Not a pos) (G3 ta):=by intro f s d H Q I h;refine UnaryOp_ (thn (g f s d H _ I h) ?_);refine fun v k=>fad fun x j i e b=>?_;obtain⟨c,rfl,b⟩:=b;cases e;exact not_of (Jq (iab (.bl (!c)) j i rfl b))
end
def SqL (K:Zp) (H:Hp) (a:Zx) (xs:List V):Prop:=
 Rd H a (.lst xs)\/
  ∃(o:Obj) (b:Array Zz) (n:Nat),K.lookup a=some o/\o.cls= .type "list"/\o.dict=none/\o.data= .seq b n/\b.size<=sizeLine/\jh xs b.toList
def SqT (K:Zp) (H:Hp) (a:Zx) (xs:List V):Prop:=
 Rd H a (.tup xs)\/
  ∃(o:Obj) (b:Array Zz) (n:Nat),K.lookup a=some o/\o.cls= .type "tuple"/\o.data= .seq b n/\b.size<=sizeLine/\jh xs b.toList
noncomputable def absV:Zz->Option V
 | .none=>some .non
 | .bool b=>some (.bl b)
 | .int i _=>some (.int i)
 | .str x _=>some (.str x)
 | .bytes b _=>some (.byt b)
 | .float b _=>some (.flt b)
 | .ref a=>some (.ref a)
 | .type n=>some (.ty n)
 |_=>none
def iZ.abs {x:V} {u:Zz} (r:iZ x u):absV u=some x:=by
 cases x with
 |non=>cases r;rfl
 |bl _=>cases r;rfl
 |int _=>obtain⟨t,rfl⟩:=r;rfl
 |str _=>obtain⟨t,rfl⟩:=r;rfl
 |byt _=>obtain⟨t,rfl⟩:=r;rfl
 |flt _=>obtain⟨t,rfl⟩:=r;rfl
 |ref _=>cases r;rfl
 |ty _=>cases r;rfl
theorem iZ.inj {x:V} {u:Zz} (r:iZ x u) (q:iZ y u):x=y:=dj.inj (r.abs.symm.trans q.abs)
theorem jh.inj:∀{xs ys:List V} {us:List Zz},jh xs us->jh ys us->xs=ys
 |_,_,_,.nil,.nil=>rfl
 |_,_,_,.cons r t,.cons r' t'=>by rw[r.inj r',jh.inj t t']
section
variable {X:Cx} {pz:Za} {σ:St} {H:Hp} {s:Zy} {a:Zx} {xs ys:List V}
def SqL.of {K:Zp} (h:H a=some (.lst xs)):SqL K H a xs:= .inl (.inl h)
def SqT.of {K:Zp} (h:H a=some (.tup xs)):SqT K H a xs:= .inl (.inl h)
def Inv.list (I:Inv X pz σ H s) (h:SqL X.K H a xs):∃b:List Zz,jh xs b/\PlainL s.heap a b.toArray/\xs.length<=sizeLine:=by
 rcases h with h|⟨o,b,n,d,g,f,c,i,r⟩;·refine eaa (h.ok I.hok) fun z b n r e=>?_;exact⟨b,r,(iap _ n ⟨e,rfl,rfl,rfl⟩),z⟩
 ·refine⟨b.toList,r,(iap o n ⟨I.kIn a o d,g,f,by simpa using c⟩),?_⟩;have e:=r.length;simp only[fC]at e;lia
def Inv.tuple (I:Inv X pz σ H s) (h:SqT X.K H a xs):∃b:List Zz,jh xs b/\IsTup s.heap a b.toArray/\xs.length<=sizeLine:=by
 rcases h with h|⟨o,b,n,d,f,c,g,r⟩;·refine eay (h.ok I.hok) fun z=>fL fun b=>f8 fun r p=>?_;exact⟨b,r,p.tup,z⟩
 ·refine⟨b.toList,r,⟨o,I.kIn a o d,f,n,by simpa using c⟩,?_⟩;have e:=r.length;simp only[fC]at e;lia
def Inv.list_inj (I:Inv X pz σ H s) (h:SqL X.K H a xs) (h':SqL X.K H a ys):xs=ys:=by
 refine eaE (I.list h) fun f r c _=>?_;refine eaD c fun o n=>fac fun e _ _ d=>?_;refine eaE (I.list h') fun b j c _=>?_;refine eaD c fun k l=>fac fun g _ _ i=>?_;rw[e]at g;cases g;rw[d]at i;injection i with d1 _;have:f=b:=by simpa using congrArg Array.toList d1
 subst this;exact r.inj j
def Inv.tuple_inj (I:Inv X pz σ H s) (h:SqT X.K H a xs) (h':SqT X.K H a ys):xs=ys:=by
 refine eaE (I.tuple h) fun f r c _=>?_;refine eaF c fun o=>fab fun e _=>fL fun n d=>?_;refine eaE (I.tuple h') fun b j c _=>?_;refine eaF c fun k=>fab fun g _=>fL fun l i=>?_;rw[e]at g;cases g;rw[d]at i;injection i with d1 _;have:f=b:=by simpa using congrArg Array.toList d1
 subst this;exact r.inj j
end
abbrev Cx.wish (X:Cx) (E:Zb):Cx:={X with xe:=E}
abbrev Cx.nox (X:Cx):Cx:=X.wish fun _ _=>False
theorem Cx.Ok.wish (a:X.Ok) (E:Zb):(X.wish E).Ok:=
 ⟨a.mod,a.kind,a.glob,a.blt,a.above,a.inj,a.has,a.cab,a.hd,a.frames,a.stk,a.exf,a.bs,a.bsz,a.noex,a.exfs,a.funs,a.frf⟩
def Cx.Ok.unwish {E:Zb} (a:(X.wish E).Ok):X.Ok:=
 ⟨a.mod,a.kind,a.glob,a.blt,a.above,a.inj,a.has,a.cab,a.hd,a.frames,a.stk,a.exf,a.bs,a.bsz,a.noex,a.exfs,a.funs,a.frf⟩
section
variable {X:Cx} {pz:Za} {σ:St} {H:Hp} {s:Zy} {E:Zb}
theorem Inv.wish (I:Inv X pz σ H s) (E:Zb):Inv (X.wish E) pz σ H s:=⟨I.ok.wish E,I.os,I.bare,I.base,I.loc,I.cell,I.free,I.freeC,I.pin,I.hok,I.len⟩
theorem Inv.unwish (I:Inv (X.wish E) pz σ H s):Inv X pz σ H s:=⟨I.ok.unwish,I.os,I.bare,I.base,I.loc,I.cell,I.free,I.freeC,I.pin,I.hok,I.len⟩
theorem SP.unwish {D:mZ} {f:Flow} {s':Zy} (h:SP (X.wish E) pz D f s'):SP X pz D f s':=by
 cases f with
 |next=>refine ead h fun a b I q=>?_;exact iap a b ⟨I.unwish,q⟩
 |brk=>refine ead h fun a b I q=>?_;exact iap a b ⟨I.unwish,q⟩
 |cont=>refine ead h fun a b I q=>?_;exact iap a b ⟨I.unwish,q⟩
 |ret u=>refine eag h fun v a b I r q=>?_;exact iar v a b ⟨I.unwish,r,q⟩
theorem PE.nox {e:Zr} {t:TE} (h:PE X.nox e t):PE X e t:=fun b s a H Q I c=>
 I0 (h b s a H Q (I.wish _) c) (fun _ _ ⟨v,f,d,r,q⟩=>(iap v f ⟨d.unwish,r,q⟩)) fun _ _ z=>IX z
theorem PT.nox {e:Zr} {t:TT} (h:PT X.nox e t):PT X e t:=fun b s a H Q I c=>
 I0 (h b s a H Q (I.wish _) c) (fun _ _ ⟨f,d,q⟩=>⟨f,d.unwish,q⟩) fun _ _ z=>IX z
theorem PSs.nox {st:List Zq} {t:TS.Internal} (h:PSs X.nox st t):PSs X st t:=fun b s a H D I c=>
 I0 (h b s a H D (I.wish _) c) (fun _ _ q=>q.unwish) fun _ _ z=>IX z
end
section
variable {X:Cx} {st:Zq} {rest:List Zq} {t u:TS.Internal} {e:Zr} {te:TE} {pos:Pos}
def hG:TS.Internal:=fun D a H=>D.nx a H
def B3 (t u:TS.Internal):TS.Internal:=fun D a H=>t {D with nx:=u D} a H
def gQ:PSs X [] hG:=fun _ _ a H _ I h=>wpAny_execs_nil (iap a H ⟨I,h⟩)
theorem HzX {b} {D} {σ} {H} (h:let x:=X;∃t,PSs x b t∧t D σ H):∃t,PSs X b t∧t D σ H:=h
theorem Hz2{D σ H} (h:let d:=D;let v2:=u;let v1:=B3 t2 v2;B3 t1 v1 d σ H):(B3 t1 (B3 t2 u)) D σ H:=h
theorem Hz3{D σ H} (h:let d:=D;let v3:=u;let v2:=B3 t3 v3;let v1:=B3 t2 v2;B3 t1 v1 d σ H):(B3 t1 (B3 t2 (B3 t3 u))) D σ H:=h
theorem Hz4{D σ H} (h:let d:=D;let v4:=u;let v3:=B3 t4 v4;let v2:=B3 t3 v3;let v1:=B3 t2 v2;B3 t1 v1 d σ H):(B3 t1 (B3 t2 (B3 t3 (B3 t4 u)))) D σ H:=h
theorem Hz5{D σ H} (h:let d:=D;let v5:=u;let v4:=B3 t5 v5;let v3:=B3 t4 v4;let v2:=B3 t3 v3;let v1:=B3 t2 v2;B3 t1 v1 d σ H):(B3 t1 (B3 t2 (B3 t3 (B3 t4 (B3 t5 u))))) D σ H:=h
theorem Hz6{D σ H} (h:let d:=D;let v6:=u;let v5:=B3 t6 v6;let v4:=B3 t5 v5;let v3:=B3 t4 v4;let v2:=B3 t3 v3;let v1:=B3 t2 v2;B3 t1 v1 d σ H):(B3 t1 (B3 t2 (B3 t3 (B3 t4 (B3 t5 (B3 t6 u)))))) D σ H:=h
theorem Hz7{D σ H} (h:let d:=D;let v7:=u;let v6:=B3 t7 v7;let v5:=B3 t6 v6;let v4:=B3 t5 v5;let v3:=B3 t4 v4;let v2:=B3 t3 v3;let v1:=B3 t2 v2;B3 t1 v1 d σ H):(B3 t1 (B3 t2 (B3 t3 (B3 t4 (B3 t5 (B3 t6 (B3 t7 u))))))) D σ H:=h
theorem Hz8{D σ H} (h:let d:=D;let v8:=u;let v7:=B3 t8 v8;let v6:=B3 t7 v7;let v5:=B3 t6 v6;let v4:=B3 t5 v5;let v3:=B3 t4 v4;let v2:=B3 t3 v3;let v1:=B3 t2 v2;B3 t1 v1 d σ H):(B3 t1 (B3 t2 (B3 t3 (B3 t4 (B3 t5 (B3 t6 (B3 t7 (B3 t8 u)))))))) D σ H:=h
theorem Hz9{D σ H} (h:let d:=D;let v9:=u;let v8:=B3 t9 v9;let v7:=B3 t8 v8;let v6:=B3 t7 v7;let v5:=B3 t6 v6;let v4:=B3 t5 v5;let v3:=B3 t4 v4;let v2:=B3 t3 v3;let v1:=B3 t2 v2;B3 t1 v1 d σ H):(B3 t1 (B3 t2 (B3 t3 (B3 t4 (B3 t5 (B3 t6 (B3 t7 (B3 t8 (B3 t9 u))))))))) D σ H:=h
theorem Hz17{D σ H} (h:let d:=D;let v17:=u;let v16:=B3 t17 v17;let v15:=B3 t16 v16;let v14:=B3 t15 v15;let v13:=B3 t14 v14;let v12:=B3 t13 v13;let v11:=B3 t12 v12;let v10:=B3 t11 v11;let v9:=B3 t10 v10;let v8:=B3 t9 v9;let v7:=B3 t8 v8;let v6:=B3 t7 v7;let v5:=B3 t6 v6;let v4:=B3 t5 v5;let v3:=B3 t4 v4;let v2:=B3 t3 v3;let v1:=B3 t2 v2;B3 t1 v1 d σ H):(B3 t1 (B3 t2 (B3 t3 (B3 t4 (B3 t5 (B3 t6 (B3 t7 (B3 t8 (B3 t9 (B3 t10 (B3 t11 (B3 t12 (B3 t13 (B3 t14 (B3 t15 (B3 t16 (B3 t17 u))))))))))))))))) D σ H:=h
def gq (g:PS X st t) (e:PSs X rest u):PSs X (st::rest) (B3 t u):=by
 intro b s c H D I h;refine wpAny_execs_cons (thn (g b s c H {D with nx:=u D} I h) fun f d q=>?_)
 cases f with
 |next=>refine ead q fun a j i q=>?_;exact e b d a j D i q
 |ret v=>exact q
 |brk=>exact q
 |cont=>exact q
def gw (c:PS X st t):PSs X [st] t:=by
 intro b s a H D I h;refine wpAny_execs_cons (thn (c b s a H D I h) fun f d q=>?_)
 cases f with
 |next=>exact wpAny_execs_nil q
 |ret v=>exact q
 |brk=>exact q
 |cont=>exact q
def Inv.quiet {a:St} {s:Zy} (I:Inv X pz a H s):interactive X.env=false:=by simp[interactive,I.ok.kind]
def G4 (b:TE):TS.Internal:=fun D a H=>b a H fun _ c=>D.nx a c
def gS (f:PE X e te) (d:autoParam (swapsWith e none pos.line X.env=pure false) auR._auto_1):PS X (.Expr e pos) (G4 te):=by intro c s a H D I h;exact wpAny_Expr_any (thn (f c s a H _ I h) fun v j ⟨x,i,g,k,b⟩=>(iap a i ⟨g,b⟩)) I.quiet d
def GN (b:TE):TS.Internal:=fun D a H=>b a H D.rt
def gM (f:PE X e te):PS X (.Return (some e) pos) (GN te):=by intro d s a H D I h;exact wpAny_Return_some (thn (f d s a H _ I h) fun v j ⟨x,i,g,b,c⟩=>(iar x a i ⟨g,b,c⟩))
def sv (c:TT) (t u:TS.Internal):TS.Internal:=fun D a H=>c a H fun b d=>if b=true then t D a d else u D a d
def iC(l:PT X c tc) (n:PSs X a t) (m:PSs X b u):PS X (.If c a b pos) (sv tc t u):=by
 intro f s e H D I h;refine wpAny_If (thn (l f s e H _ I h) ?_);refine fun d g=>fae fun k j i=>?_
 cases d with
 |true=>exact n f g e k D j i
 |false=>exact m f g e k D j i
end
abbrev TG:=V->St->Hp->(St->Hp->Prop)->Prop
abbrev TGs:=List V->St->Hp->(St->Hp->Prop)->Prop
def PG (X:Cx) (a:Zr) (t:TG):Prop:=
 ∀(d:Za) (s:Zy) (c:St) (H:Hp) (v:V) (u:Zz) (Q:St->Hp->Prop),Inv X d c H s->iZ v u->t v c H Q->
  C7 (model X.prog X.w) X.A (assign a X.env u) (fun _ f=>∃b e,Inv X d b e f/\Q b e) X.xe s
def PGs (X:Cx) (ts:List Zr) (t:TGs):Prop:=
 ∀(e:Za) (s:Zy) (b:St) (H:Hp) (c:List V) (d:List Zz) (Q:St->Hp->Prop),Inv X e b H s->jh c d->t c b H Q->
  C7 (model X.prog X.w) X.A (assignInOrder ((assignEach ts X.env).map (·.2)) d) (fun _ g=>∃a f,Inv X e a f g/\Q a f) X.xe s
abbrev G5:=V->V->V->Hp->(Hp->Prop)->Prop
def Iw (X:Cx) (t:G5):Prop:=
 ∀(b:Za) (s:Zy) (a:St) (H:Hp) (o i v:V) (c d u:Zz) (Q:Hp->Prop),Inv X b a H s->iZ o c->iZ i d->iZ v u->t o i v H Q->
  C7 (model X.prog X.w) X.A (setItem c d u) (fun _ f=>∃e,Inv X b a e f/\Q e) X.xe s
section
variable {X:Cx} {pos:Pos}
def gX (i:Nat):TG:=fun v a H Q=>Q (a.set i (some v)) H
def vy(c:X.N.Nodup) (hi:X.N[i]?=some x) (a:Loc X.env.scope x) (b:autoParam (X.fn x=true\/X.env.scope.names.lookup x=some .local) auL._auto_1):PG X (.Name x pos) (gX i):=by intro g s e H v u Q I r h;exact wpAny_assign_Name (qq I c hi a r (fun f d=>(iap _ H ⟨d,h⟩)) b)
def Dv:TGs:=fun b a H Q=>b=[]/\Q a H
def pq (t:TG) (u:TGs):TGs:=fun c b H Q=>∃v r,c=v::r/\t v b H fun a d=>u r a d Q
def tm:PGs X [] Dv:=by intro d s a H b c Q I r h;obtain⟨e,h⟩:=h;subst e;cases r;exact assignInOrder_nil (iap a H ⟨I,h⟩)
def kY(k:PG X e t) (j:PGs X es u)
  (i:autoParam ((assignEach (e::es) X.env).map (·.2)=assign e X.env::(assignEach es X.env).map (·.2)) auR._auto_1):PGs X (e::es) (pq t u):=by
 intro b s c H o q Q I r h;obtain⟨v,p,l,h⟩:=h;subst l
 cases r with
 |cons r f=>rw[i];refine assignInOrder_cons (thn (k b s c H _ _ _ I r h) ?_);refine fun _ d=>faf fun a n=>f8 fun m g=>?_;exact j b d a n _ _ Q m f g
def Dw (K:Zp) (n:Nat) (t:TGs):TG:=fun v c H Q=>∃a b,v= .ref a/\SqT K H a b/\b.length=n/\t b c H Q
def wx(y:X.calm=true) (h:PGs X es t)
  (w:autoParam ((assignEach es X.env).length=n) auR._auto_1) (d:autoParam ((assignEach es X.env).findIdx? (·.1)=none) auR._auto_1):PG X (.Tuple es k pos) (Dw X.K n t):=by intro i s f H v u Q I r c;obtain⟨a,j,A,q,x,c⟩:=c;subst A;cases r;refine eah (I.tuple q) fun l g p C=>?_;refine assign_Tuple_tuple (I.ok.hd y) p (by simp[w,<-x,g.length]) d fun z m=>?_;have B:Inv X i f H {s with heap:=z}:=I.kept (t':=s.toks) fun b o e=>m b o (cH (fZ e)) e;exact h i _ f H j _ Q B (by simpa using g) c
def Iy (b c:TE) (t:G5):TG:=fun v a H Q=>b a H fun o f=>c a f fun i e=>t o i v e fun d=>Q a d
def wy {o i:Zr} {to ti:TE} {t:G5} (ho:PE X o to) (hi:PE X i ti) (hs:Iw X t)
  (ha:∀v,assign (.Subscript o i pos) X.env v=(do
   let ov<-holding [v] (eval o X.env)
   let iv<-holding [v,ov] (eval i X.env)
   standAt pos
   holding [v,ov,iv] (setItem ov iv v)
   release [v,ov,iv] []):=by intro _;rfl):PG X (.Subscript o i pos) (Iy to ti t):=by intro pz s σ H v u Q I r h;rw[ha];refine C6 (JM (thn (ho pz s σ H _ I h) ?_));refine fun ov s1=>fad fun x H1 I1 r1 q1=>?_;refine C6 (JM (thn (hi pz s1 σ H1 _ I1 q1) ?_));refine fun iv s2=>fad fun y H2 I2 r2 q2=>?_;refine C6 (wpAny_standAt (C6 (JM (thn (hs pz s2 σ H2 x y v ov iv u _ I2 r1 r2 r q2) ?_))));refine fun _ s3=>fae fun H3 I3 q3=>?_;exact wpAny_release (iap σ H3 ⟨I3,q3⟩)
def AU (b:TE) (g:TG):TS.Internal:=fun D a H=>b a H fun x c=>g x a c D.nx
def wz(l:PE X e te) (k:PG X tg g) (j:autoParam (swapsWithSole [tg] e pos.line X.env=pure false) auR._auto_1) (i:autoParam (swappedStores [tg] e X.env=pure none) auR._auto_1)
  (m:autoParam ((assignEach [tg] X.env).map (·.2)=[assign tg X.env]) auR._auto_1):PS X (.Assign [tg] e pos) (AU te g):=by intro b s a H D I h;refine wpAny_Assign_stores (thn (l b s a H _ I h) ?_) j i;refine fun v c=>fad fun x o n d f=>?_;rw[m];exact thn (k b c a o x v _ n d f) fun _ p q=>q
def E3(l:X.N.Nodup) (hi:X.N[i]?=some x) (f:Loc X.env.scope x) (k:PE X e te) (g:autoParam (swapsWith e (some (.Name x pos')) pos.line X.env=pure false) auR._auto_1) (j:autoParam (X.fn x=true\/X.env.scope.names.lookup x=some .local) auL._auto_1):
  PS X (.Assign [.Name x pos'] e pos) (AU te (gX i)):=by intro d s a H D I h;refine wpAny_Assign_Name (thn (k d s a H _ I h) ?_) g;refine fun v q=>fad fun y o n b c=>?_;exact qq n l hi f b (fun p m=>(iap _ o ⟨m,c⟩)) j
end
section
variable {X:Cx} {pos:Pos}
end
structure It where
 go:Nat->Hp->Prop
 yld:Nat->Hp->V->Hp->Prop
 stop:Nat->Hp->Prop
def xH (X:Cx) (a:Za) (H:Hp) (b:Zx):Prop:=
 H b=none/\b≠X.env.locals/\b∉X.fs/\(b∈X.ex\/X.s₀.heap.objs.size<=b)/\(∀x c,X.env.cells.lookup x=some c->c≠b)/\∀p∈X.pn++a,p.1≠b
def Inv.fpOk {d:St} {s:Zy} {b:Zx} (I:Inv X pz d H s) (a:s.heap.objs.size<=b) (g:H' b=none):xH X pz H' b:=by
 refine⟨g,cM (cF I.lt a),I.nofs a,.inr (cJ I.sz a),fun x c e z=>?_,fun p f z=>?_⟩;·obtain⟨v,q⟩:=I.cell x c e;exact absurd (cF q.lt (by rw[z];exact a)) (cG _)
 ·exact absurd (cF (fZ (I.pin p f).1) (by rw[z];exact a)) (cG _)
structure Dy (P:Zu) (w:Zv) (K:Zp) (tg:Zr) (J:It) (fp:List Zx) (it:Zx) (tn:Nat->Zt->Prop):Prop where
 mem:it∈fp
 obj:∀i h,tn i h->∀b∈fp,∃o,h.get? b=some o/\∀v,o.data≠ .cell v
 keep:∀i h h',tn i h->(∀b∈fp,∀o,h.get? b=some o->h'.get? b=some o)->tn i h'
 item:∀(X:Cx),X.prog=P->X.w=w->X.K=K->X.calm=true->∀(i:Nat) (pz:Za) (s:Zy) (σ:St) (H:Hp) (E:Zb),Inv X pz σ H s->(∀b∈fp,xH X pz H b)->tn i s.heap->J.go i H->
  C7 (model P w) X.A (pyNext (.ref it)) (fun r s1=>∃u,r=some u/\
   C7 (model P w) X.A (letOwnedTupleGo tg (.ref it) u) (fun _ s2=>∃x H',Inv X pz σ H' s2/\iZ x u/\J.yld i H x H'/\tn (i+ 1) s2.heap/\∀b∈fp,H' b=none) E s1) E s
 done:∀(X:Cx),X.prog=P->X.w=w->X.K=K->X.calm=true->∀(i:Nat) (pz:Za) (s:Zy) (σ:St) (H:Hp) (E:Zb),Inv X pz σ H s->(∀b∈fp,xH X pz H b)->tn i s.heap->J.stop i H->
  C7 (model P w) X.A (pyNext (.ref it)) (fun r s1=>r=none/\Inv X pz σ H s1) E s
 self:∀(A:Zw) (i:Nat) (s:Zy) (Q:Zb) (E:Zb),tn i s.heap->Q (.ref it) s->C7 (model P w) A (pyIter (.ref it)) Q E s
abbrev TI:=St->Hp->(It->Hp->Prop)->Prop
def PIE (X:Cx) (e:Za) (h:St) (i:Zr) (R:It->Hp->Prop) (a:Zz) (s2:Zy):Prop:=
 ∃(f:Zx) (g:List Zx) (d:Nat->Zt->Prop) (J:It) (c:Hp),a= .ref f/\Inv X e h c s2/\Dy X.prog X.w X.K i J g f d/\d 0 s2.heap/\(∀b∈g,xH X e c b)/\R J c
def PI (X:Cx) (e a:Zr) (d:TI):Prop:=
 ∀(c:Za) (s:Zy) (b:St) (H:Hp) (R:It->Hp->Prop),Inv X c b H s->d b H R->
  C7 (model X.prog X.w) X.A (eval a X.env) (fun v f=>C7 (model X.prog X.w) X.A (pyIter v) (PIE X c b e R) X.xe f) X.xe s
def Dz{Q:Unit -> Zy -> Prop} (ho : s.heap.get? it = some o) (d : o.cls = .type n) (c : o.data = .fields vs)
  (b : ["enumerate", "zip", "dict_itemiterator", "dict_reverseitemiterator", "odict_iterator", "itertools.zip_longest", "itertools.pairwise"].contains n = false) (a : Q () s) : C7 M A (letOwnedTupleGo tg (.ref it) u) Q E s := by
 unfold letOwnedTupleGo;cases tg <;> first
  | exact IT a
  | (cases u <;> first
    | exact IT a
    | (refine C6 (wpAny_load ho ?_);rw [d, c];show C7 M A (if (["enumerate", "zip", "dict_itemiterator", "dict_reverseitemiterator", "odict_iterator", "itertools.zip_longest", "itertools.pairwise"].contains n && vs[0]? == some (rawInt _)) = true then _ else _) Q E s;rw [gU (by intro h; rw [b, Bool.false_and] at h; cases h)];exact IT a))
def Itl (K:Zp) (a:Zx):It:=
 ⟨fun i H=>∃b x,SqL K H a b/\b[i]?=some x,fun i H x c=>c=H/\∀b,SqL K H a b->b[i]?=some x,fun i H=>∃b,SqL K H a b/\b.length<=i⟩
def Itt (K:Zp) (a:Zx):It:=
 ⟨fun i H=>∃b x,SqT K H a b/\b[i]?=some x,fun i H x c=>c=H/\∀b,SqT K H a b->b[i]?=some x,fun i H=>∃b,SqT K H a b/\b.length<=i⟩
def Itr (lo:Int) (n:Nat):It:=⟨fun i _=>i<n,fun i H x a=>a=H/\x= .int (lo+i),fun i _=>n<=i⟩
def yD{K:Zp} (a it:Zx):Dy P w K tg (Itl K a) [it] it (fun i h=>h.IsListIter it a i) where
 mem:=by simp
 obj:=fun i h f b g=>by
  have e:b=it:=by simpa using g
  subst e;refine eah f fun o e c d=>?_;exact⟨o,e,fun v z=>by rw[d]at z;cases z⟩
 keep:=fun i h n f k=>f.at fun o e=>k it (by simp) o e
 item:=by intro X B y C O i N s M H E I m f A;subst B y C;refine ead A fun Q x l t=>?_;refine eah (I.list l) fun r q p T=>?_;refine eae (q.get t) fun u V S=>?_;refine eai (m it (by simp)) fun L J W G F D=>?_;refine wpAny_pyNext_list_item f p.isList (x:=u) (by simpa using V) fun n j R=>?_;have Z:Inv X N M H {s with heap:=n}:=I.turned (t':=s.toks) (fun b o g e=>(R.2 b g).trans e) L J G F D;refine eah (id j) fun o e c d=>?_;exact⟨u,rfl,Dz (s:={s with heap:=n}) e c d (by decide) (iap x H (⟨Z,S,⟨rfl,fun ys U=>by rw[I.list_inj U l];exact t⟩,j,fun b g=>(m b g).1⟩))⟩
 done:=by intro X B y C O i N s M H E I m f A;subst B y C;refine eae A fun Q l t=>?_;refine eah (I.list l) fun r q p T=>?_;refine eai (m it (by simp)) fun L J W G F D=>?_;have hl:=q.length;exact wpAny_pyNext_list_end (I.ok.hd O) f p.isList (by simp;lia) fun n Y=>⟨rfl,I.turned (t':=s.toks) (fun b o g e=>Y b o g e) L J G F D⟩
 self:=fun _ _ _ _ _ f h=>wpAny_pyIter_listiter f h
def xI{K:Zp} (a it:Zx):Dy P w K tg (Itt K a) [it] it (fun i h=>h.IsTupleIter it a i) where
 mem:=by simp
 obj:=fun i h f b j=>by
  have e:b=it:=by simpa using j
  subst e;refine eah f fun o e c d=>?_;exact⟨o,e,fun v z=>by rw[d]at z;cases z⟩
 keep:=fun i h q f k=>f.at fun o e=>k it (by simp) o e
 item:=by intro X B y C O i N s M H E I n f A;subst B y C;refine ead A fun Q x m t=>?_;refine eah (I.tuple m) fun g r p T=>?_;refine eae (r.get t) fun u V S=>?_;refine eai (n it (by simp)) fun L J W G F D=>?_;refine wpAny_pyNext_tuple_item f (show s.heap.IsTuple a g.toArray from p) (x:=u) (by simpa using V) fun q l R=>?_;have Z:Inv X N M H {s with heap:=q}:=I.turned (t':=s.toks) (fun b o j e=>(R.2 b j).trans e) L J G F D;refine eah (id l) fun o e c d=>?_;exact⟨u,rfl,Dz (s:={s with heap:=q}) e c d (by decide) (iap x H (⟨Z,S,⟨rfl,fun ys U=>by rw[I.tuple_inj U m];exact t⟩,l,fun b j=>(n b j).1⟩))⟩
 done:=by intro X B y C O i N s M H E I n f A;subst B y C;refine eae A fun Q m t=>?_;refine eah (I.tuple m) fun g r p T=>?_;refine eai (n it (by simp)) fun L J W G F D=>?_;have hl:=r.length;exact wpAny_pyNext_tuple_end (I.ok.hd O) f (show s.heap.IsTuple a g.toArray from p) (by simp;lia) fun q Y=>⟨rfl,I.turned (t':=s.toks) (fun b o j e=>Y b o j e) L J G F D⟩
 self:=fun _ _ _ _ _ f h=>wpAny_pyIter_tupleiter f h
def xJ{K:Zp} (it:Zx) (lo:Int) (n:Nat):Dy P w K tg (Itr lo n) [it] it (fun i h=>IsRangeIter h it (lo+(i:Nat)*1) ((n:Int)-(i:Nat)) 1) where
 mem:=by simp
 obj:=fun i h a b c=>by
  have e:b=it:=by simpa using c
  subst e;exact⟨_,a,fun v z=>by have F:Data.fields _=Data.cell v:=z;cases F⟩
 keep:=fun i h g a k=>k it (by simp) _ a
 item:=by intro X p j q m i D s B H E I f a l;subst p j q;refine eai (f it (by simp)) fun A y L x u r=>?_;have W:=Walks.range (prog:=X.prog) (w:=X.w) (I.ok.hd m) it lo 1 n;refine W.item i s _ _ l a fun v g C J d G=>?_;obtain⟨t,rfl⟩:=J;have N:Inv X D B H {s with heap:=g,toks:=C}:=I.turned (fun b o c e=>G b o (by simpa using c) e) A y x u r;refine⟨_,rfl,Dz (s:={s with heap:=g,toks:=C}) (n:="range_iterator") d rfl rfl (by decide) (iap (.int (lo+i)) H (⟨N,⟨t,?_⟩,⟨rfl,rfl⟩,d,fun b c=>(f b c).1⟩))⟩;rw[Int.mul_one]
 done:=by intro X p j q m i D s B H E I f a l;subst p j q;refine eai (f it (by simp)) fun A y L x u r=>?_;exact wpAny_pyNext_range_end (I.ok.hd m) a (by have:n<=i:=l;lia) fun g M=>⟨rfl,I.turned (t':=s.toks) (fun b o c e=>M b o c e) A y x u r⟩
 self:=fun _ _ _ _ _ a h=>wpAny_pyIter_rangeiter a h
section
variable {X:Cx} {tg:Zr}
def G6 (K:Zp) (e:TE):TI:=fun c H R=>e c H fun x b=>∃a,x= .ref a/\(∃d,SqL K b a d)/\R (Itl K a) b
def iTup (K:Zp) (e:TE):TI:=fun c H R=>e c H fun x b=>∃a,x= .ref a/\(∃d,SqT K b a d)/\R (Itt K a) b
def lR(r:PE X l tl):PI X tg l (G6 X.K tl):=by
 intro k s f H R I h;refine thn (r k s f H _ I h) ?_;refine fun v c=>fad fun x u d i j=>?_;refine eaE j fun a e g q=>?_;obtain⟨w,n⟩:=g;subst e;cases i;refine eah (d.list n) fun m y p z=>?_;refine wpAny_pyIter_list p.isList ?_;refine iac c.heap.objs.size ([c.heap.objs.size]) _ _ u rfl (d.kept (t':=c.toks) fun b o e=>f7 _ e) (yD a _) ((iad _ (f6 _ rfl) rfl rfl)) (fun b t=>?_) q;have e:b=c.heap.objs.size:=by simpa using t
 subst e;exact d.fpOk (cN _) (d.hok.fresh (cN _))
def p8(r:PE X l tl):PI X tg l (iTup X.K tl):=by
 intro m s g H R I h;refine thn (r m s g H _ I h) ?_;refine fun v c=>fad fun x u d j k=>?_;refine eaE k fun a e i q=>?_;obtain⟨w,n⟩:=i;subst e;cases j;refine eah (d.tuple n) fun f y p z=>?_;refine JU (show c.heap.IsTuple a f.toArray from p) ?_;refine iac c.heap.objs.size ([c.heap.objs.size]) _ _ u rfl (d.kept (t':=c.toks) fun b o e=>f7 _ e) (xI a _) ((iad _ (f6 _ rfl) rfl rfl)) (fun b t=>?_) q;have e:b=c.heap.objs.size:=by simpa using t
 subst e;exact d.fpOk (cN _) (d.hok.fresh (cN _))
def wA{a:St} {E:Zb} {lo:Int} (I:Inv X pz a H s) (i: -(2^62)<=lo) (h:lo<2^62) (g: -(2^62)<=hi) (f:hi<2^62)
  (q:R (Itr lo (hi-lo).toNat) H):C7 (model X.prog X.w) X.A (pyIter (.ref s.heap.objs.size)) (PIE X pz a tg R) E {s with heap:=s.heap.push {cls:= .type "range",data:= .fields #[.int lo t,.int hi u,.int 1 v]},toks:=tk}:=by
 refine wpAny_pyIter_range (IsRange.new ..) (small_one i h g f) ?_;have c:Inv X pz a H {s with heap:=s.heap.push {cls:= .type "range",data:= .fields #[.int lo t,.int hi u,.int 1 v]},toks:=tk}:=I.kept fun b o e=>f7 _ e;refine iac ((s.heap.push {cls:= .type "range",data:= .fields #[.int lo t,.int hi u,.int 1 v]}).objs.size) ([(s.heap.push {cls:= .type "range",data:= .fields #[.int lo t,.int hi u,.int 1 v]}).objs.size]) _ _ H rfl (c.kept (t':=tk) fun b o e=>f7 _ e) (xJ _ lo (hi-lo).toNat) ?_ (fun b d=>?_) q
 ·have k:lo+((0:Nat):Int)*1=lo:=by simp
  have j:(((hi-lo).toNat:Nat):Int)-((0:Nat):Int)=Builtin.Range.rangeSize lo hi 1:=by rw[rangeSize_one];split<;>lia
  show IsRangeIter _ _ (lo+((0:Nat):Int)*1) ((((hi-lo).toNat:Nat):Int)-((0:Nat):Int)) 1;rw[k,j];exact f6 _ rfl
 ·have e:b=(s.heap.push {cls:= .type "range",data:= .fields #[.int lo t,.int hi u,.int 1 v]}).objs.size:=by simpa using d
  subst e;exact c.fpOk (cN _) (c.hok.fresh (cN _))
def G7 (c:TA):TI:=fun a H R=>c a H fun b d=>∃j:Int,b=[.int j]/\-(2^62)<=j/\j<2^62/\R (Itr 0 j.toNat) d
def G8 (c:TA):TI:=fun a H R=>c a H fun b d=>∃i j:Int,b=[.int i,.int j]/\(-(2^62)<=i/\i<2^62/\-(2^62)<=j/\j<2^62)/\R (Itr i (j-i).toNat) d
def jE(m:Gl X "range") (l:X.mg "range"=none) (n:PA X [a] ta) (k:autoParam (IQ [a] X.env=[(false,eval a X.env)]) auR._auto_1):PI X tg (.Call (.Name "range" p) [a] [] pos) (G7 ta):=by
 intro i s c H R I h;refine Call_ (p7 I m l boot_range (gi (thn (n pos i s c H _ I h) ?_) k rfl));refine fun v w=>fad fun u x o f b=>?_;obtain⟨j,e,b,g,q⟩:=b;subst e
 cases f with
 |cons r d=>cases d;obtain⟨t,rfl⟩:=r;exact call_range_1 (wA o (by lia) (by lia) b g (by simpa using q))
def uq(x:Gl X "range") (w:X.mg "range"=none) (y:PA X [a,b] ta) (v:autoParam (IQ [a,b] X.env=[(false,eval a X.env),(false,eval b X.env)]) auR._auto_1) (c:autoParam (IQ [b] X.env=[(false,eval b X.env)]) auR._auto_1):
  PI X tg (.Call (.Name "range" p) [a,b] [] pos) (G8 ta):=by
 intro u s g H R I h;refine Call_ (p7 I x w boot_range (gi (thn (y pos u s g H _ I h) ?_) (by rw[v,c]) (by rw[c];rfl)));refine fun B D=>fad fun A E z k f=>?_;obtain⟨i,j,e,⟨f,o,n,m⟩,q⟩:=f;subst e
 cases k with
 |cons r d=>
  cases d with
  |cons l d=>cases d;obtain⟨t,rfl⟩:=r;obtain⟨C,rfl⟩:=l;exact call_range_2 (wA z f o n m q)
def tFor (f:TI) (g:TG) (h:TS.Internal):TS.Internal:=fun D a H=>f a H fun J k=>∃W:Nat->Nat->St->Hp->Prop,(∃m,W 0 m a k)/\∀i m a H,W i m a H->
 (J.stop i H/\D.nx a H)\/(J.go i H/\∃N:St->Hp->Prop,(∀b c,N b c->∃e,e<m/\W (i+ 1) e b c)/\∀x c,J.yld i H x c->g x a c fun d j=>h {D with nx:=N,ct:=N,bk:=D.nx} d j)
noncomputable def sx (a:List Zx) (h:Zt):Za:=a.filterMap fun b=>(h.get? b).map fun o=>(b,o)
def kG(a:b∈fp) (e:h.get? b=some o):(b,o)∈sx fp h:=List.mem_filterMap.mpr ⟨b,a,by rw[e];rfl⟩
def yE(a:p∈sx fp h):p.1∈fp/\h.get? p.1=some p.2:=by
 refine eax (List.mem_filterMap.mp a) fun b c e=>?_
 cases q:h.get? b with
 |none=>rw[q]at e;cases e
 |some o=>rw[q]at e;have d:(b,o)=p:=dj.inj e;subst d;exact⟨c,q⟩
def Inv.pinned {a:St} {s:Zy} (I:Inv X pz a H s) (i:∀b∈f,xH X pz H b) (ho:∀b∈f,∃o,s.heap.get? b=some o/\∀v,o.data≠ .cell v):Inv X (pz++sx f s.heap) a H s:=
 I.pins_of fun p h=>(ak.mp h).elim (fun z=>I.pin p (ax _ z)) fun z=>by obtain⟨c,e⟩:=yE z;refine eaj (i p.1 c) fun l k j _=>?_;refine eae (ho p.1 c) fun o g d=>?_;rw[e]at g;cases g;exact⟨e,l,k,j,d⟩
def Inv.unpinned {pl:Za} {a:St} {s:Zy} (I:Inv X (pz++pl) a H s):Inv X pz a H s:=I.pins_of fun p b=>I.pin p (ax _ (ao _ b))
def kj(K:PassesOwn (model X.prog X.w) X.A X.env X.xe) (hc:X.calm=true) (hi:PI X tg iter wi) (hg:PG X tg g) (l:PSs X body tb)
  (hs:autoParam (∀x,JK iter X.env x=pure x) auI._auto_1):PS X (.For tg iter body [] pos) (tFor wi g tb):=by
 intro A s V H D I h;refine wpAny_For (thn (hi A s V H _ I h) fun v s1 h1=>thn h1 fun itv s2 h2=>?_) hs;refine eaG h2 fun it M Y J H2=>fag fun e I2 T Q f2=>fL fun W=>f8 fun y0 B=>?_;obtain⟨m0,w0⟩:=y0;subst e;have k:∀{w:Hp},(∀b∈M,w b=none)->∀b∈M,xH X A w b:=fun hn b l=>⟨hn b l,(f2 b l).2⟩;refine codeAny_forLoop_any (fun n s'=>∃i j w,Inv X A j w s'/\Y i s'.heap/\(∀b∈M,w b=none)/\W i n j w) ?_ m0 (iae 0 V H2 I2 Q (fun b l=>(f2 b l).1) w0);refine fun n s3=>faa fun i c O=>fac fun I3 F L w3=>?_;rcases B i n c O w3 with⟨C,qn⟩|⟨go,N,hN,E⟩;·refine JQ K (thn (T.done X rfl rfl rfl hc i A s3 c O X.xe I3 (k L) F C) fun r s4 ⟨hr,I4⟩=>?_);subst hr;exact wpAny_execs_nil (iaf c O I4 qn)
 ·refine JQ K (thn (T.item X rfl rfl rfl hc i A s3 c O X.xe I3 (k L) F go) ?_);refine fun r s4=>fae fun u z0 h4=>?_;subst z0;refine JQ K (thn h4 ?_);refine fun _ Z=>faf fun x H5=>fah fun I5 r5 y5 z S=>?_;have U:=I5.pinned (k S) (T.obj _ _ z);refine JQ K (thn (hg _ Z c H5 x u _ U r5 (E x H5 y5)) ?_);refine fun _ s6=>faf fun P H6=>f8 fun I6 q6=>?_;refine JQ K (thn (l _ s6 P H6 _ I6 q6) fun f R y=>?_);have p:∀{a:St} {t:Hp},Inv X (A++sx M Z.heap) a t R->N a t->∃m,m<n/\∃i j w,Inv X A j w R/\Y i R.heap/\(∀b∈M,w b=none)/\W i m j w:=fun{a t} q G=>by refine eae (hN a t G) fun m' hm w7=>?_;refine⟨m',hm,i+ 1,a,t,q.unpinned,T.keep _ _ _ z fun b l o e=>(q.pin (b,o) (ax _ (ax _ (kG l e)))).1,fun b l=>?_,w7⟩;refine eae (T.obj _ _ z b l) fun o e d=>?_;exact(q.pin (b,o) (ax _ (ax _ (kG l e)))).2.1
  cases f with
  |next=>refine ead y fun a t q G=>?_;exact p q G
  |cont=>refine ead y fun a t q G=>?_;exact p q G
  |brk=>refine ead y fun a t q y=>?_;exact iaf a t q.unpinned y
  |ret v=>refine eag y fun x7 a t q r7 y=>?_;exact iar x7 a t ⟨q.unpinned,r7,y⟩
end
def qr{K:Zp} {g:TG} {k:TS.Internal} {D:mZ} (c:Nat->St->Hp->Prop) (v:c 0 b H) (s:∀i b H,i<=xs.length->c i b H->SqL K H a xs)
  (r:∀i x b H,xs[i]?=some x->c i b H->g x b H fun d j=>k {D with nx:=c (i+ 1),ct:=c (i+ 1),bk:=D.nx} d j) (u:∀b H,c xs.length b H->D.nx b H):
  ∃W:Nat->Nat->St->Hp->Prop,(∃m,W 0 m b H)/\∀i m b H,W i m b H->
   ((Itl K a).stop i H/\D.nx b H)\/((Itl K a).go i H/\∃N:St->Hp->Prop,(∀f h,N f h->∃l,l<m/\W (i+ 1) l f h)/\∀x h,(Itl K a).yld i H x h->g x b h fun d j=>k {D with nx:=N,ct:=N,bk:=D.nx} d j):=by
 refine⟨fun i m b H=>m=xs.length-i/\i<=xs.length/\c i b H,⟨xs.length,by simp,cO _,v⟩,?_⟩;refine fun i m b H=>fab fun n t p=>?_;subst n;have q:=s i b H t p;by_cases hlt:i<xs.length;·refine .inr ⟨(iap xs (xs[i]) ⟨q,by simp[hlt]⟩),c (i+ 1),fun f h o=>⟨xs.length-(i+ 1),by lia,rfl,hlt,o⟩,fun x h y=>?_⟩;obtain⟨e,y⟩:=y;subst e;exact r i x b _ (y xs q) p
 ·have e:i=xs.length:=by lia
  subst e;exact .inl ⟨⟨xs,q,cN _⟩,u b H p⟩
def tq{K:Zp} {g:TG} {k:TS.Internal} {D:mZ} (c:Nat->St->Hp->Prop) (v:c 0 b H) (s:∀i b H,i<=xs.length->c i b H->SqT K H a xs)
  (r:∀i x b H,xs[i]?=some x->c i b H->g x b H fun d j=>k {D with nx:=c (i+ 1),ct:=c (i+ 1),bk:=D.nx} d j) (u:∀b H,c xs.length b H->D.nx b H):
  ∃W:Nat->Nat->St->Hp->Prop,(∃m,W 0 m b H)/\∀i m b H,W i m b H->
   ((Itt K a).stop i H/\D.nx b H)\/((Itt K a).go i H/\∃N:St->Hp->Prop,(∀f h,N f h->∃l,l<m/\W (i+ 1) l f h)/\∀x h,(Itt K a).yld i H x h->g x b h fun d j=>k {D with nx:=N,ct:=N,bk:=D.nx} d j):=by
 refine⟨fun i m b H=>m=xs.length-i/\i<=xs.length/\c i b H,⟨xs.length,by simp,cO _,v⟩,?_⟩;refine fun i m b H=>fab fun n t p=>?_;subst n;have q:=s i b H t p;by_cases hlt:i<xs.length;·refine .inr ⟨(iap xs (xs[i]) ⟨q,by simp[hlt]⟩),c (i+ 1),fun f h o=>⟨xs.length-(i+ 1),by lia,rfl,hlt,o⟩,fun x h y=>?_⟩;obtain⟨e,y⟩:=y;subst e;exact r i x b _ (y xs q) p
 ·have e:i=xs.length:=by lia
  subst e;exact .inl ⟨⟨xs,q,cN _⟩,u b H p⟩
def kK{lo:Int} {g:TG} {l:TS.Internal} {D:mZ} (f:Nat->St->Hp->Prop) (u:f 0 a H)
  (s:∀i a H,i<n->f i a H->g (.int (lo+i)) a H fun b k=>l {D with nx:=f (i+ 1),ct:=f (i+ 1),bk:=D.nx} b k) (t:∀a H,f n a H->D.nx a H):
  ∃W:Nat->Nat->St->Hp->Prop,(∃m,W 0 m a H)/\∀i m a H,W i m a H->
   ((Itr lo n).stop i H/\D.nx a H)\/((Itr lo n).go i H/\∃N:St->Hp->Prop,(∀c h,N c h->∃o,o<m/\W (i+ 1) o c h)/\∀x h,(Itr lo n).yld i H x h->g x a h fun b k=>l {D with nx:=N,ct:=N,bk:=D.nx} b k):=by
 refine⟨fun i m a H=>m=n-i/\i<=n/\f i a H,⟨n,by simp,cO _,u⟩,?_⟩;refine fun i m a H=>fab fun q w p=>?_;subst q;by_cases d:i<n;·refine .inr ⟨d,f (i+ 1),fun c h r=>⟨n-(i+ 1),by lia,rfl,d,r⟩,fun x h y=>?_⟩;obtain⟨e,y⟩:=y;subst e y;exact s i a _ d p
 ·have e:i=n:=by lia
  subst e;exact .inl ⟨cN _,t a H p⟩
abbrev R2:=V->V->Hp->VK->Prop
def OpR (X:Cx) (f:Zz->Zz->Sem Zz) (r:R2):Prop:=
 ∀(b:Za) (s:Zy) (a:St) (H:Hp) (x y:V) (v u:Zz) (Q:VK),Inv X b a H s->iZ x v->iZ y u->r x y H Q->
  C7 (model X.prog X.w) X.A (f v u) (EP X b a Q) X.xe s
def UnR (X:Cx) (f:Zz->Sem Zz) (r:V->Hp->VK->Prop):Prop:=
 ∀(b:Za) (s:Zy) (a:St) (H:Hp) (x:V) (v:Zz) (Q:VK),Inv X b a H s->iZ x v->r x H Q->
  C7 (model X.prog X.w) X.A (f v) (EP X b a Q) X.xe s
def oE (X:Cx) (f:Zz) (r:List V->Hp->VK->Prop):Prop:=
 ∀(d:Za) (s:Zy) (a:St) (H:Hp) (b:List V) (c:List Zz) (Q:VK),Inv X d a H s->jh b c->r b H Q->
  C7 (model X.prog X.w) X.A (call f c) (EP X d a Q) X.xe s
def tOp (r:R2) (c b:TE):TE:=fun a H Q=>c a H fun x e=>b a e fun y d=>r x y d Q
def tUn (r:V->Hp->VK->Prop) (b:TE):TE:=fun a H Q=>b a H fun x c=>r x c Q
def rI (C:Int->Int->Prop) (g:Int->Int->V):R2:=fun x y H Q=>∃i j,x= .int i/\y= .int j/\C i j/\Q (g i j) H
def rI0 (g:Int->Int->V):R2:=fun x y H Q=>∃i j,x= .int i/\y= .int j/\Q (g i j) H
def rU (g:Int->V):V->Hp->VK->Prop:=fun x H Q=>∃i,x= .int i/\Q (g i) H
section
variable {X:Cx} {a b c:Zr} {ta tb tc:TE} {pos:Pos}
def G9(r:PE X a ta) (q:PE X b tb) {c:St} {R:V->V->Hp->Prop} (I:Inv X pz c H s)
  (h:ta c H fun x j=>tb c j fun y d=>R x y d) {f:Zz->Zz->Sem Zz}
  (p:∀v u i x y d,Inv X pz c d i->iZ x v->iZ y u->R x y d->C7 (model X.prog X.w) X.A (f v u) Q X.xe i):
  C7 (model X.prog X.w) X.A (eval a X.env) (fun v g=>C7 (model X.prog X.w) X.A (eval b X.env) (fun u e=>C7 (model X.prog X.w) X.A (f v u) Q X.xe e) X.xe g) X.xe s:=by refine thn (r pz s c H _ I h) ?_;refine fun v k=>fad fun x j w m o=>?_;refine thn (q pz k c j _ w o) ?_;refine fun u i=>fad fun y d t l n=>?_;exact p v u i x y d t m l n
def gY(ho:OpR X (Jj op) r) (j:PE X a ta) (i:PE X b tb):PE X (.BinOp a op b pos) (tOp r ta tb):=by intro g s c H Q I h;exact wpAny_BinOp (G9 j i I h fun v u d x y l k f e q=>ho g d c l x y v u Q k f e q)
def qE(ho:UnR X (unaryOp op) r) (g:PE X a ta):PE X (.UnaryOp op a pos) (tUn r ta):=by intro c s b H Q I h;exact UnaryOp_ (thn (g c s b H _ I h) fun v d ⟨x,j,i,e,f⟩=>ho c d b j x v Q i e f)
def opI{C:Int->Int->Prop} {g:Int->Int->Int}
  (a:∀(i j:Int) (t u:Tok) (s:Zy) (Q:Zb) (E:Zb),C i j->Q (.int (g i j) s.toks) {s with toks:=s.toks+ 1}->C7 (model X.prog X.w) X.A (f (.int i t) (.int j u)) Q E s):
  OpR X f (rI C fun i j=> .int (g i j)):=by intro n s m H x y v u Q I k e h;refine eak h fun i j c b l q=>?_;subst c;subst b;obtain⟨t,rfl⟩:=k;obtain⟨d,rfl⟩:=e;exact a i j t d s _ _ l (iap (.int (g i j)) H (⟨I.tok _,⟨_,rfl⟩,q⟩))
def Iz{g:Int->Int->Int}
  (a:∀(i j:Int) (t u:Tok) (s:Zy) (Q:Zb) (E:Zb),Q (.int (g i j) s.toks) {s with toks:=s.toks+ 1}->C7 (model X.prog X.w) X.A (f (.int i t) (.int j u)) Q E s):
  OpR X f (rI0 fun i j=> .int (g i j)):=by intro m s l H x y v u Q I k e h;refine eaH h fun i j c b q=>?_;subst c;subst b;obtain⟨t,rfl⟩:=k;obtain⟨d,rfl⟩:=e;exact a i j t d s _ _ (iap (.int (g i j)) H (⟨I.tok _,⟨_,rfl⟩,q⟩))
def Ha{g:Int->Int->Bool}
  (a:∀(i j:Int) (t u:Tok) (s:Zy) (Q:Zb) (E:Zb),Q (.bool (g i j)) s->C7 (model X.prog X.w) X.A (f (.int i t) (.int j u)) Q E s):
  OpR X f (rI0 fun i j=> .bl (g i j)):=by intro m s l H x y v u Q I k e h;refine eal h fun i j c b q=>?_;subst c;subst b;obtain⟨t,rfl⟩:=k;obtain⟨d,rfl⟩:=e;exact a i j t d s _ _ (iab (.bl (g i j)) H I rfl q)
def Hc (i j:Int):Prop:=0<j/\j<1073741824
def IA (i j:Int):Prop:=0<=j/\j<=1000000/\i.natAbs<2^64
def E4 (i j:Int):Prop:=(-(2^64)<i/\i<2^64)\/(-(2^64)<j/\j<2^64)
def E4.ok {i j:Int} (h:E4 i j):IntMulOk i j:=by
 rcases h with⟨b,a⟩|⟨b,a⟩;·exact .of_left (intBits_le_64 b a)
 ·exact .of_right (intBits_le_64 b a)
def wB:OpR X (Jj .Add) (rI0 fun i j=> .int (i+j)):=Iz fun _ _ _ _ _ _ _ q=>add_int q
def B4:OpR X (Jj .Sub) (rI0 fun i j=> .int (i-j)):=Iz fun _ _ _ _ _ _ _ q=>sub_int q
def E5:OpR X (Jj .Mult) (rI E4 fun i j=> .int (i*j)):=opI fun _ _ _ _ _ _ _ a q=>mul_int q a.ok
def nq:OpR X (Jj .FloorDiv) (rI Hc fun i j=> .int (i/j)):=opI fun i j _ _ _ _ _ a q=>by have c:(0:Int)<j:=a.1;have b:j<1073741824:=a.2;exact floordiv_int (by lia) (by rw[Int.fdiv_eq_ediv_of_nonneg i (by lia)];exact q) (.inl (PyProof.noPylong_small (by lia)))
def qF:OpR X (Jj .Mod) (rI (fun _ j=>0<j) fun i j=> .int (i%j)):=opI fun i j _ _ _ _ _ a q=>by have b:(0:Int)<j:=a;exact mod_int' (by lia) (by rw[Int.fmod_eq_emod_of_nonneg i (by lia)];exact q)
def B5:OpR X (Jj .Pow) (rI IA fun i j=> .int (i^j.toNat)):=opI fun _ _ _ _ _ _ _ a q=>pow_int_small a.1 a.2.1 a.2.2 q
def unI{g:Int->Int}
  (a:∀(i:Int) (t:Tok) (s:Zy) (Q:Zb) (E:Zb),Q (.int (g i) s.toks) {s with toks:=s.toks+ 1}->C7 (model X.prog X.w) X.A (f (.int i t)) Q E s):
  UnR X f (rU fun i=> .int (g i)):=by intro e s d H x v Q I c h;refine eax h fun i b q=>?_;subst b;obtain⟨t,rfl⟩:=c;exact a i t s _ _ (iab (.int (g i)) H (I.tok _) ⟨_,rfl⟩ q)
def mB:UnR X (unaryOp .USub) (rU fun i=> .int (-i)):=unI fun _ _ _ _ _ q=>neg_int q
end
noncomputable def IB:V->V->Bool
 | .non,.non=>true| .non,.int _=>true| .int _,.non=>true| .non,.bl _=>true| .bl _,.non=>true| .non,.str _=>true| .str _,.non=>true
 | .int _,.int _=>true| .bl _,.bl _=>true| .str _,.str _=>true| .byt _,.byt _=>true
 | .int _,.str _=>true| .str _,.int _=>true| .bl _,.str _=>true| .str _,.bl _=>true
 |_,_=>false
def rEq:R2:=fun x y H Q=>IB x y=true/\Q (.bl (decide (x=y))) H
def rNe:R2:=fun x y H Q=>IB x y=true/\Q (.bl (!decide (x=y))) H
def yF{j:Int}:decide (V.int i=V.int j)=(i==j):=by rw[fo];simp
def B6{j:Bool}:decide (V.bl i=V.bl j)=(i==j):=by rw[fo];simp
def yG{j:Str}:decide (V.str i=V.str j)=(i==j):=by rw[fo];simp
def yH{j:Array UInt8}:decide (V.byt i=V.byt j)=(i.toList==j.toList):=by rw[fo];cases i;cases j;simp
section
variable {X:Cx} {a b c:Zr} {ta tb tc:TE} {pos:Pos}
def iR{a:St} {Q:VK} (I:Inv X pz a H s) (q:Q (.bl k) H) (e:k=k'):EP X pz a Q (.bool k') s:=by subst e;exact iap (.bl k) H ⟨I,rfl,q⟩
def xK:OpR X (Jf .Eq) rEq:=by
 intro f s e H x y v u Q I d a h;obtain⟨c,q⟩:=h
 cases x with
 |non=>
  cases d
  cases y with
  |non=>cases a;exact PySem.EqNone.eq_none_none (iR I q (by simp))
  |bl j=>cases a;exact PySem.EqNone.eq_none_bool (iR I q (by simp))
  |int j=>obtain⟨b,rfl⟩:=a;exact PySem.EqNone.eq_none_int (iR I q (by simp))
  |str j=>obtain⟨b,rfl⟩:=a;exact PySem.EqNone.eq_none_str (iR I q (by simp))
  |_=>exact absurd (show false=true from c) fq
 |bl i=>
  cases d
  cases y with
  |non=>cases a;exact PySem.EqNone.eq_bool_none (iR I q (by simp))
  |bl j=>cases a;exact eq_bool (iR I q B6)
  |str j=>obtain⟨b,rfl⟩:=a;exact PySem.EqMixed.eq_bool_str (iR I q (by simp))
  |_=>exact absurd (show false=true from c) fq
 |int i=>
  obtain⟨t,rfl⟩:=d
  cases y with
  |non=>cases a;exact PySem.EqNone.eq_int_none (iR I q (by simp))
  |int j=>obtain⟨b,rfl⟩:=a;exact eq_int (iR I q yF)
  |str j=>obtain⟨b,rfl⟩:=a;exact PySem.EqMixed.eq_int_str (iR I q (by simp))
  |_=>exact absurd (show false=true from c) fq
 |str i=>
  obtain⟨t,rfl⟩:=d
  cases y with
  |non=>cases a;exact PySem.EqNone.eq_str_none (iR I q (by simp))
  |bl j=>cases a;exact PySem.EqMixed.eq_str_bool (iR I q (by simp))
  |int j=>obtain⟨b,rfl⟩:=a;exact PySem.EqMixed.eq_str_int (iR I q (by simp))
  |str j=>obtain⟨b,rfl⟩:=a;exact eq_str (iR I q yG)
  |_=>exact absurd (show false=true from c) fq
 |byt i=>
  obtain⟨t,rfl⟩:=d
  cases y with
  |byt j=>obtain⟨b,rfl⟩:=a;exact PySem.W.eq_bytes (iR I q yH)
  |_=>exact absurd (show false=true from c) fq
 |_=>cases y<;>exact absurd (show false=true from c) fq
def E6:OpR X (Jf .NotEq) rNe:=by
 intro f s e H x y v u Q I d a h;obtain⟨c,q⟩:=h
 cases x with
 |non=>
  cases d
  cases y with
  |non=>cases a;exact PySem.EqNone.ne_none_none (iR I q (by simp))
  |bl j=>cases a;exact PySem.EqNone.ne_none_bool (iR I q (by simp))
  |int j=>obtain⟨b,rfl⟩:=a;exact PySem.EqNone.ne_none_int (iR I q (by simp))
  |str j=>obtain⟨b,rfl⟩:=a;exact PySem.EqNone.ne_none_str (iR I q (by simp))
  |_=>exact absurd (show false=true from c) fq
 |bl i=>
  cases d
  cases y with
  |non=>cases a;exact PySem.EqNone.ne_bool_none (iR I q (by simp))
  |bl j=>cases a;exact ne_bool (iR I q (congrArg not B6))
  |str j=>obtain⟨b,rfl⟩:=a;exact PySem.EqMixed.ne_bool_str (iR I q (by simp))
  |_=>exact absurd (show false=true from c) fq
 |int i=>
  obtain⟨t,rfl⟩:=d
  cases y with
  |non=>cases a;exact PySem.EqNone.ne_int_none (iR I q (by simp))
  |int j=>obtain⟨b,rfl⟩:=a;exact ne_int (iR I q (congrArg not yF))
  |str j=>obtain⟨b,rfl⟩:=a;exact PySem.EqMixed.ne_int_str (iR I q (by simp))
  |_=>exact absurd (show false=true from c) fq
 |str i=>
  obtain⟨t,rfl⟩:=d
  cases y with
  |non=>cases a;exact PySem.EqNone.ne_str_none (iR I q (by simp))
  |bl j=>cases a;exact PySem.EqMixed.ne_str_bool (iR I q (by simp))
  |int j=>obtain⟨b,rfl⟩:=a;exact PySem.EqMixed.ne_str_int (iR I q (by simp))
  |str j=>obtain⟨b,rfl⟩:=a;exact ne_str (iR I q (congrArg not yG))
  |_=>exact absurd (show false=true from c) fq
 |byt i=>
  obtain⟨t,rfl⟩:=d
  cases y with
  |byt j=>obtain⟨b,rfl⟩:=a;exact PySem.W.ne_bytes (iR I q (congrArg not yH))
  |_=>exact absurd (show false=true from c) fq
 |_=>cases y<;>exact absurd (show false=true from c) fq
def Hd:OpR X (Jf .Lt) (rI0 fun i j=> .bl (decide (i<j))):=Ha fun _ _ _ _ _ _ _ q=>lt_int q
def He:OpR X (Jf .LtE) (rI0 fun i j=> .bl (decide (i<=j))):=Ha fun _ _ _ _ _ _ _ q=>le_int q
def Hf:OpR X (Jf .Gt) (rI0 fun i j=> .bl (decide (j<i))):=Ha fun _ _ _ _ _ _ _ q=>gt_int q
def yI(b:Zr) (h:autoParam (op≠ .In) auD._auto_1) (a:autoParam (op≠ .NotIn) auD._auto_1):Jr op b=false:=by
 have d:(op==CmpOp.In)=false:=by cases op<;>first|rfl|exact absurd rfl h
 have c:(op==CmpOp.NotIn)=false:=by cases op<;>first|rfl|exact absurd rfl a
 cases b<;>simp[Jr,d,c]
def pB {op:CmpOp} {r:R2} (ho:OpR X (Jf op) r) (ha:PE X a ta) (hb:PE X b tb) (hm:Jr op b=false:=by exact yI _):PE X (.Compare a [op] [b] pos) (tOp r ta tb):=by intro pz s σ H Q I h;exact wpAny_Compare1 (G9 ha hb I h fun v u s2 x y H2 I2 rx ry q=>ho pz s2 σ H2 x y v u Q I2 rx ry q) hm
def Hg (t:TE):TT:=fun a H Q=>t a H fun x b=>∃k,x= .bl k/\Q k b
def tu {op:CmpOp} {r:R2} (ho:OpR X (Jf op) r) (ha:PE X a ta) (hb:PE X b tb) (hm:Jr op b=false:=by exact yI _):PT X (.Compare a [op] [b] pos) (Hg (tOp r ta tb)):=by
 intro pz s σ H Q I h;refine wpAny_isTrue_Compare1 (thn (ha pz s σ H _ I h) fun v s1 ⟨x,H1,I1,r1,q1⟩=>thn (hb pz s1 σ H1 _ I1 q1) fun u s2 ⟨y,H2,I2,r2,q2⟩=>
  thn (ho pz s2 σ H2 x y v u _ I2 r1 r2 q2) fun c s3 ⟨z,H3,I3,r3,k,e,q3⟩=>?_) hm;subst e;cases r3;exact Jq (io H3 I3 q3)
def sC:(sizeLine:Nat)<2^63:=by rw[IS];decide
def mW:OpR X (Jj .Add) (fun x y H Q=>∃i j,x= .str i/\y= .str j/\i.length+j.length<=sizeLine/\Q (.str (i++j)) H):=by intro l s g H x y v u Q I e d h;refine eak h fun i j b a f q=>?_;subst b;subst a;obtain⟨t,rfl⟩:=e;obtain⟨c,rfl⟩:=d;exact add_str (fun c k=>(iab (.str (i++j)) H (I.tok _) ⟨_,rfl⟩ q)) f
def qi(r:jh [x] us):∃u,us=[u]/\iZ x u:=by
 cases r with
 |cons b a=>cases a;exact⟨_,rfl,b⟩
def A2(r:jh [x,y] us):∃u a,us=[u,a]/\iZ x u/\iZ y a:=by
 cases r with
 |cons e d=>
  cases d with
  |cons c b=>cases b;exact iap _ _ ⟨rfl,e,c⟩
def yJ (g:X.calm=true):oE X (.builtin "max") (fun b H Q=>∃i j,b=[.int i,.int j]/\Q (.int (if j>i then j else i)) H):=by
 intro v s l H b n Q I r h;refine ead h fun i j a q=>?_;subst a;refine eaH (A2 r) fun u m a f e=>?_;subst a;obtain⟨t,d⟩:=f;subst d;obtain⟨p,c⟩:=e;subst c;refine max_two_ints (I.ok.hd g) fun w o k=>(iap _ H ⟨I.kept k,?_,q⟩);by_cases hj:j>i;·rw[ip hj,ip hj];exact⟨_,rfl⟩
 ·rw[gU hj,gU hj];exact⟨_,rfl⟩
def yK:oE X (.type "int") (fun b H Q=>(∃i,b=[.int i]/\Q (.int i) H)\/∃k,b=[.bl k]/\Q (.int (if k then 1 else 0)) H):=by
 intro g s e H b f Q I r h;rcases h with⟨i,rfl,q⟩|⟨k,rfl,q⟩;·refine eaF (qi r) fun u=>f8 fun a=>fL fun t c=>?_;subst a;subst c;exact call_int_int (iab (.int i) H I ⟨_,rfl⟩ q)
 ·refine eae (qi r) fun u a d=>?_;subst a;cases d;exact call_int_bool (iab (.int (if k then 1 else 0)) H (I.tok _) ⟨_,rfl⟩ q)
def Hh (K:Zp) (x:V) (H:Hp) (n:Nat):Prop:=
 match x with
 | .str y=>y.length<=sizeLine/\n=y.length
 | .byt y=>y.size<=sizeLine/\n=y.size
 | .ref p=>(∃a,SqL K H p a/\n=a.length)\/∃a,SqT K H p a/\n=a.length
 |_=>False
def wC:oE X (.builtin "len") (fun a H Q=>∃x n,a=[x]/\Hh X.K x H n/\Q (.int n) H):=by
 intro w s o H a v Q I r h;refine eal h fun x n d e q=>?_;subst d;refine eae (qi r) fun u d f=>?_;subst d;have A:=sC;have z:sizeLine=16777216:=IS
 cases x with
 |str y=>obtain⟨t,rfl⟩:=f;obtain⟨m,c⟩:y.length<=sizeLine/\n=y.length:=e;subst c;exact len_str (by lia) (iap (.int _) H (⟨I.tok _,⟨_,rfl⟩,q⟩))
 |byt y=>obtain⟨t,rfl⟩:=f;obtain⟨m,c⟩:y.size<=sizeLine/\n=y.size:=e;subst c;exact PySem.W.len_bytes (by lia) (iap (.int _) H (⟨I.tok _,⟨_,rfl⟩,q⟩))
 |ref p=>
  cases f;have c:(∃a,SqL X.K H p a/\n=a.length)\/∃a,SqT X.K H p a/\n=a.length:=e;rcases c with⟨a,k,c⟩|⟨a,k,c⟩;·subst c;refine eah (I.list k) fun j g i l=>?_;have b:=g.length;exact Calls.call_len_list i.isList (by simp only[ay];lia) (iap (.int a.length) H (⟨I.tok _,⟨_,by simp only[ay];rw[b]⟩,q⟩))
  ·subst c;refine eah (I.tuple k) fun j g i l=>?_;have b:=g.length;exact len_tuple i (by simp only[ay];lia) (iap (.int a.length) H (⟨I.tok _,⟨_,by simp only[ay];rw[b]⟩,q⟩))
 |_=>exact(show False from e).elim
end
structure DA (h:Zt) (x dx C:Zx) (mA:Zc):Prop where
 obj:h.get? x=some (dB C dx)
 ns:h.Ns1 dx mA
 ne:dx≠x
def yL{f:Zc} (n:h.Ns1 dx f):∃d,h.get? dx=some d/\∀b,dD b d=some (f b):=by
 refine eaB n fun o g r=>fah fun j m l _ k=>?_;refine⟨o,j,fun b=>?_⟩;have e:=k b;unfold nsFind findBy at e;rw[<-Array.find?_toList]at e;unfold dD;rw[m];dsimp only;split;·rename_i y q;rw[q]at e;exact congrArg some e
 ·rename_i q;rw[q]at e;have a:g.toList.any (·.refKey)=false:=by rw[List.any_eq_false];intro y i;refine eam (l y (Array.mem_toList_iff.mp i)) fun z t c=>?_;simp[DictEntry.refKey,c]
  have p:¬g.toList.any (·.refKey)=true:=by rw[a];exact fq
  rw[gU p];exact congrArg some e
def DA.look {x d:Zx} {c:Zc} (I:DA h x d C c):∃b,PySem.W.InstAt h x (dB C d) C (some b)/\∀a,dD a b=some (c a):=
 let⟨b,ho,hl⟩:=yL I.ns
 ⟨b,⟨I.obj,rfl,rfl,ho⟩,hl⟩
section
variable {prog:Zu} {w:Zv} {A:Zw} {E:Zb} {s:Zy} {K:Zp} {x dx C f:Zx} {mA:Zc} {name:Str} {v:Zz}
def DB(X:K.In s.heap) (I:DA s.heap x dx C mA) (e:dE K C name=true) (d:dG K C=true)
  (f:dH K (.ref C) name=some none) (b:mA name=some v) (a:PySem.W.handedIn v=true) (h:Q v {s with toks:=s.toks+ 1}):
  C7 (model prog w) A (getAttr (.ref x) name expr) Q E s:=by refine eax I.look fun g J c=>?_;exact PySem.W.get_value X J (dI e).1 (PySem.W.findObj_own d f rfl (by rw[c,b])) a h
def A3{Q:Zz×List Zz->Zy->Prop} (X:K.In s.heap) (I:DA s.heap x dx C mA) (a:dE K C name=true)
  (g:dH K (.ref C) name=some (some (.ref f))) (d:dJ K (.ref f)=true) (c:mA name=none) (h:Q (.ref f,[.ref x]) s):
  C7 (model prog w) A (getMethod (.ref x) name pl) Q E s:=by refine eax I.look fun b J e=>?_;exact PySem.W.method_fn X J (dI a).1 (dI a).2 g (beq_iff_eq.mp d) (by show(dD name b).map (·.isSome)=some false;rw[e,c];rfl) h
def DC {k:Zd} {Q:Unit->Zy->Prop} (X:K.In s.heap) (I:DA s.heap x dx C mA)
  (o:dH K (.ref C) "__setattr__"=some (some (.builtin "object.__setattr__"))) (p:dO K C=true) (n:dP K C name=some none) (q:dG K C=true)
  (m:PySem.Within mA k) (hsz:k.length<=sizeLine)
  (h:∀e,DA e x dx C (fun y=>if y=name then some v else mA y)->JT dx s.heap e->Q () {s with heap:=e,toks:=s.toks+ 2}):
  C7 (model prog w) A (setAttr (.ref x) name v) Q E s:=by refine eae I.look fun B J F=>?_;refine PySem.W.set_plain X J o (PySem.W.osa_open (s:={s with toks:=s.toks+ 1}) (r:=none) X J p n fun b=>?_);refine eae (PySem.W.any_some q) fun G t i=>?_;have l:s.heap.get? x=some ⟨.ref C,some dx,.plain,#[]⟩:=I.obj;refine C6 (IT (C6 (C6 (wpAny_loadPart l (C6 (PySem.W.Looks.here (s:={s with toks:=s.toks+ 1}) (PySem.W.looks_clsIn X t) ?_))))));rw[i];refine IT (a:=some dx) (C6 (IT (C6 ?_)));refine wpAny_nsSet1 (s:={s with toks:=s.toks+ 1}) I.ns fun e d c=>?_;refine eag (d.count (PySem.Within.cons name v m)) fun D u z f g j=>?_;refine C6 (wpAny_lookBehind f (by rw[g];exact pastItsLine_dict (cJ j (by rw[az];lia))) ?_);exact IT (h _ ⟨(c.2 _ (IU I.ne)).trans I.obj,d,I.ne⟩ c)
def A4(X:K.In s.heap) (b:dQ K C=true)
  (hi:dH K (.ref C) "__init__"=some (some (.ref f))) (c:PySem.W.typeIn K (.ref f)=some (.type "function"))
  (h:codeAny (model prog w) (A.under (.builtin "type.__call__" ⟨.ref C::vs,kw⟩)) (.call (.ref f) ⟨.ref (s.heap.objs.size+ 1)::vs,kw⟩) (PySem.W.InitBack (s.heap.objs.size+ 1) R)
   {s with heap:=(s.heap.push dR).push (dB C s.heap.objs.size)}):
  codeAny (model prog w) A (.call (.ref C) ⟨vs,kw⟩) R s:=by obtain⟨i,g,d,t,e⟩:=s;exact PySem.W.make_core (PySem.W.makes_of X b) (PySem.W.looks_findIn X hi) (fun a=>PySem.W.bind_fn X a c) (.inl rfl) h
end
noncomputable def kh (f:Str) (v:V):List (Str×V)->List (Str×V)
 |[]=>[(f,v)]
 |(g,x)::r=>if g=f then(g,v)::r else(g,x)::kh f v r
theorem qG (f g:Str) (v:V):∀b:List (Str×V),(kh f v b).lookup g=if g=f then some v else b.lookup g
 |[]=>by
  show aA g [(f,v)]=_;by_cases h:g=f;·have a:(g==f)=true:=beq_iff_eq.mpr h;simp only[aA,a,ip h]
  ·have a:(g==f)=false:=beq_eq_false_iff_ne.mpr h;simp only[aA,a,gU h]
 |(k,x)::r=>by
  have c:=qG f g v r;rw[show kh f v ((k,x)::r)=(if k=f then(k,v)::r else(k,x)::kh f v r)from rfl];by_cases hk:k=f
  ·rw[ip hk];by_cases h:g=k;·have a:(g==k)=true:=beq_iff_eq.mpr h;simp only[aA,a,ip (h.trans hk)]
   ·have a:(g==k)=false:=beq_eq_false_iff_ne.mpr h;simp only[aA,a,gU (fun e:g=f=>h (e.trans hk.symm))]
  ·rw[gU hk];by_cases h:g=k;·have a:(g==k)=true:=beq_iff_eq.mpr h;simp only[aA,a,gU (fun e:g=f=>hk (h.symm.trans e))]
   ·have a:(g==k)=false:=beq_eq_false_iff_ne.mpr h;simp only[aA,a];exact c
theorem qH (f:Str) (v:V):∀a:List (Str×V),f∈(kh f v a).map (·.1)/\∀g,g∈a.map (·.1)->g∈(kh f v a).map (·.1)
 |[]=>⟨by simp[kh],fun g h=>by simp at h⟩
 |(k,x)::r=>by
  obtain⟨c,b⟩:=qH f v r;rw[show kh f v ((k,x)::r)=(if k=f then(k,v)::r else(k,x)::kh f v r)from rfl];by_cases hk:k=f;·rw[ip hk];subst hk;exact⟨by simp,fun g h=>by simpa using h⟩
  ·rw[gU hk];refine⟨?_,fun g h=>?_⟩;·rw[aB];exact ai _ c
   ·rw[aB]at h⊢;rcases aj.mp h with e|e;·exact aj.mpr (.inl e)
    ·exact ai _ (b g e)
theorem nv (f:Str) (v:V):∀a:List (Str×V),(kh f v a).length<=a.length+ 1
 |[]=>by simp[kh]
 |(k,x)::r=>by
  have b:=nv f v r;rw[show kh f v ((k,x)::r)=(if k=f then(k,v)::r else(k,x)::kh f v r)from rfl];by_cases hk:k=f;·rw[ip hk,az,az];lia
  ·rw[gU hk,az,az];lia
def tf.some_of {v:V} {o:Option Zz} (r:tf (some v) o):∃u,o=some u/\iZ v u:=by
 cases o with
 |none=>exact(show False from r).elim
 |some u=>exact⟨u,rfl,r⟩
def tf.none_of {o:Option Zz} (r:tf none o):o=none:=by
 cases o with
 |none=>rfl
 |some u=>exact(show False from r).elim
def yM(r:iZ v u):PySem.W.handedIn u=true:=by
 cases v with
 |non=>cases(show u=Jm from r);rfl
 |bl b=>cases(show u=Jn b from r);rfl
 |int i=>obtain⟨t,e⟩:=(show ∃t,u=Value.int i t from r);cases e;rfl
 |str x=>obtain⟨t,e⟩:=(show ∃t,u=Value.str x t from r);cases e;rfl
 |byt b=>obtain⟨t,e⟩:=(show ∃t,u=Value.bytes b t from r);cases e;rfl
 |flt b=>obtain⟨t,e⟩:=(show ∃t,u=Value.float b t from r);cases e;rfl
 |ref a=>cases(show u=IP a from r);rfl
 |ty n=>cases(show u=Value.type n from r);rfl
section
variable {P:Zu} {w:Zv} {H H':Hp} {h h':Zt} {a C dx:Zx} {fs fs':List (Str×V)}
def qI (c:HOk P w H h) (e:H a=some (.ins C dx fs)):∃b,DA h a dx C b/\(∀f,tf (fs.lookup f) (b f))/\PySem.Within b (fs.map (·.1))/\fs.length<=1000/\H dx=some (.own a):=by refine eaC ((show jm P w H h a (.ins C dx fs)from c a _ e)) fun d z i g=>fL fun b=>fab fun n r q=>?_;exact⟨b,⟨g,n,i⟩,r,q,z,d⟩
end
structure Cls (K:Zp) (C:Zx):Prop where
 pg:dE K C Str.empty=true
 hd:dG K C=true
 po:dO K C=true
 sa:dH K (.ref C) "__setattr__"=some (some (.builtin "object.__setattr__"))
def Cls.get {K:Zp} (c:Cls K C) (f:Str):dE K C f=true:=c.pg
def ig (K:Zp) (C:Zx) (f:Str):Prop:=dH K (.ref C) f=some none
def ig.taker {K:Zp} {f:Str} (n:ig K C f):dP K C f=some none:=by unfold dP;rw[show dH K (.ref C) f=some none from n];rfl
structure Con (K:Zp) (C:Zx) (f:Str) (v:V) (u:Zz):Prop where
 at_:dH K (.ref C) f=some (some u)
 rel:iZ v u
 get:dS K u "__get__"=some none
 cp:PySem.W.copiedNames.contains f=false
structure GO (K:Zp) (C:Zx) (m:Str) (f:Zx):Prop where
 at_:dH K (.ref C) m=some (some (.ref f))
 fn:dJ K (.ref f)=true
 kp:dW K (.ref f)=true
section
variable {X:Cx} {pz:Za} {σ:St} {H:Hp} {s:Zy} {a C dx:Zx} {fs:List (Str×V)} {f:Str} {v:V} {A:Zw} {E:Zb}
def xM(I:Inv X pz σ H s) (e:H a=some (.ins C dx fs)) (c:Cls X.K C) (n:ig X.K C f) (l:fs.lookup f=some v)
  (h:∀u d,Inv X pz σ H d->iZ v u->Q u d):C7 (model X.prog X.w) A (getAttr (.ref a) f b) Q E s:=by refine eaF (qI I.hok e) fun i=>fah fun O r _ _ _=>?_;refine eae (tf.some_of (v:=v) (o:=i f) (by rw[<-l];exact r f)) fun u j g=>?_;exact DB I.kIn O (c.get f) c.hd n j (yM g) (h u _ (I.tok _) g)
def sE{Q:Zz×List Zz->Zy->Prop} (I:Inv X pz σ H s) (e:H a=some (.ins C dx fs)) (c:Cls X.K C) (k:GO X.K C m g) (l:fs.lookup m=none)
  (h:Q (.ref g,[.ref a]) s):C7 (model X.prog X.w) A (getMethod (.ref a) m pl) Q E s:=by refine eaF (qI I.hok e) fun b=>fah fun O r _ _ _=>?_;have d:b m=none:=tf.none_of (by rw[<-l];exact r m);exact A3 I.kIn O (c.get m) k.at_ k.fn d h
def xN{Q:Unit->Zy->Prop} (I:Inv X pz σ H s) (e:H a=some (.ins C dx fs)) (c:Cls X.K C) (n:ig X.K C f) (F:fs.length<1000) (p:iZ y u)
  (h:∀j,Inv X pz σ (upd H a (.ins C dx (kh f y fs))) j->Q () j):C7 (model X.prog X.w) A (setAttr (.ref a) f u) Q E s:=by
 refine eaF (qI I.hok e) fun k=>fah fun O r i _ l=>?_;have t:(fs.map (·.1)).length<=sizeLine:=by rw[aC,IS];lia
 refine DC I.kIn O c.sa c.po n.taker c.hd i t fun D d m=>h _ ?_;have w:∃o,D.get? dx=some o:=let⟨o,_,_,e',_⟩:=d.ns;⟨o,e'⟩;refine I.write (x:=a) (e:=dx) (by rw[e];exact Jd) (.inr l) (fun b q B z=>(m.2 b B).trans z) w ?_;refine⟨by rw[gx O.ne];exact l,?_,O.ne,d.obj,_,d.ns,fun g=>?_,fun g v=>?_⟩;·have:=nv f y fs;lia
 ·show tf ((kh f y fs).lookup g) (if g=f then some u else k g);rw[qG];by_cases q:g=f;·rw[ip q,ip q];exact p
  ·rw[gU q,gU q];exact r g
 ·by_cases q:g=f;·rw[q];exact(qH f y fs).1
  ·refine(qH f y fs).2 g (i g fun z=>v ?_);show(if g=f then some u else k g)=none;rw[gU q];exact z
def Inv.made (I:Inv X pz σ H s):Inv X pz σ (upd (upd H s.heap.objs.size (.own (s.heap.objs.size+ 1))) (s.heap.objs.size+ 1) (.ins C s.heap.objs.size []))
  {s with heap:=(s.heap.push dR).push (dB C s.heap.objs.size)}:=by
 have d:(s.heap.push dR).get? s.heap.objs.size=some dR:=f6 s.heap rfl;have i:((s.heap.push dR).push (dB C s.heap.objs.size)).get? (s.heap.objs.size+ 1)=some (dB C s.heap.objs.size):=by have:=f6 (s.heap.push dR) (o:=dB C s.heap.objs.size) rfl;rwa[f9]at this
 have h:(s.heap.push dR).Ns s.heap.objs.size (fun _=>none):=(iar dR (#[]) _ ⟨d,rfl,(fun e g=>absurd g (by simp)),fun _=>rfl⟩);have j:=I.laid (a:=s.heap.objs.size) (o:= .own (s.heap.objs.size+ 1)) (h':=s.heap.push dR) (t':=s.toks) (fun b u q=>f7 _ q) (cN _) ⟨_,d⟩;refine j.laid (a:=s.heap.objs.size+ 1) (o:= .ins C s.heap.objs.size []) (t':=s.toks) (fun b u q=>f7 _ q) (cP (f9 _ _)) ?_;have c:s.heap.objs.size≠s.heap.objs.size+ 1:=cH (cQ _);refine⟨by rw[gx c,gm],cO _,c,i,fun _=>none,(Heap.Ns1.of_empty h).at fun o q=>f7 _ q,fun _=>Jd,fun y f=>absurd rfl f⟩
def DD(b:JE e f env (eval e env)=eval e env)
  (h:C7 (model prog w) A (eval e env) (fun o a=>C7 (model prog w) A (getAttr o f true) Q E a) E s):C7 (model prog w) A (eval (.Attribute e f pos) env) Q E s:=
 Attribute_any_ h (by rw[arm_eval_Attribute,b])
end
def tFld (K:Zp) (e:TE) (f:Str):TE:=fun d H Q=>e d H fun x c=>∃a C g b v,x= .ref a/\c a=some (.ins C g b)/\Cls K C/\ig K C f/\b.lookup f=some v/\Q v c
def IC (K:Zp) (h g:TE) (f:Str):TS.Internal:=fun D b H=>g b H fun y i=>h b i fun x e=>∃a C d c,x= .ref a/\e a=some (.ins C d c)/\Cls K C/\ig K C f/\c.length<1000/\
 D.nx b (upd e a (.ins C d (kh f y c)))
section
variable {X:Cx} {o e value:Zr} {f:Str} {pos pos' tpos:Pos} {ta tv:TE}
def iS (k:PE X e ta) (m:JE e f X.env (eval e X.env)=eval e X.env):PE X (.Attribute e f pos) (tFld X.K ta f):=by intro j s b H Q I h;refine DD m (thn (k j s b H _ I h) ?_);refine fun u z=>faf fun x t=>fab fun r g=>fai fun a C B A v=>fag fun d o c n l q=>?_;subst d;obtain rfl:u=IP a:=g;exact xM r o c n l fun w y p i=>(iap v t ⟨p,i,q⟩)
def i8 (t:PE X o ta) (p:PE X value tv) (r:swapsWith value (some (.Attribute o f pos')) pos.line X.env=pure false):PS X (.Assign [.Attribute o f pos'] value pos) (IC X.K ta tv f):=by intro d s b H D I h;refine plainObj_wpAny_Assign_Attribute (thn (p d s b H _ I h) fun u g ⟨y,B,A,i,q⟩=>thn (t d g b B _ A q) ?_) r;refine fun m F=>faf fun x K=>fab fun z j=>faj fun a C J G=>fag fun e v c n l k=>?_;subst e;obtain rfl:m=IP a:=j;exact xN z v c n l i fun E w=>(iaf b _ w k)
end
section
variable {X:Cx} {pz:Za} {σ:St} {H:Hp} {s:Zy} {A:Zw} {E:Zb} {Q:Zb} {c:Zz} {b:Bool}
inductive vz (K:Zp) (H:Hp):V->Zz->Prop where
 |non:vz K H .non (.type "NoneType")
 |bl (x:Bool):vz K H (.bl x) (.type "bool")
 |int (i:Int):vz K H (.int i) (.type "int")
 |str (x:Str):vz K H (.str x) (.type "str")
 |flt (x:UInt64):vz K H (.flt x) (.type "float")
 |lst {a:Zx} {xs:List V} (e:H a=some (.lst xs)):vz K H (.ref a) (.type "list")
 |frz {a:Zx} {o:Obj} {xs:List V} (e:H a=some (.frz o (.lst xs))):vz K H (.ref a) (.type "list")
 |tup {a:Zx} {xs:List V} (e:H a=some (.tup xs)):vz K H (.ref a) (.type "tuple")
 |dK {a:Zx} {kvs:List (Key×V)} (e:H a=some (.dK kvs)):vz K H (.ref a) (.type "dict")
 |dT {a:Zx} {kvs:List (List Key×V)} (e:H a=some (.dT kvs)):vz K H (.ref a) (.type "dict")
 |ins {a C dx:Zx} {fs:List (Str×V)} (e:H a=some (.ins C dx fs)) (cl:Cls K C) (ha:dH K (.ref C) "__class__"=some (some (.builtin "object.__class__")))
   (hn:dS K (.builtin "object.__class__") "__get__"=some (some (.builtin "getset_descriptor.__get__"))) (htk:PySem.W.takesIn K (.builtin "object.__class__")=some true)
   (hm:PySem.W.mroIn K C (.type "object")=some true):vz K H (.ref a) (.ref C)
def yN(I:Inv X pz σ H s) (d:iZ x u) (v:vz X.K H x t) (e:PySem.W.kitOne X.K t c=some b) (h:∀w,Q (.bool b) {s with toks:=w}):
  C7 (model X.prog X.w) A (call (.builtin "isinstance") [u,c]) Q E s:=by
 cases v with
 |non=>cases(show u=Jm from d);exact dX dY I.kIn Jd e (fun z=>nomatch z) h
 |bl y=>cases(show u=Jn y from d);exact dX dZ I.kIn Jd e (fun z=>nomatch z) h
 |int i=>obtain⟨t,q⟩:=(show ∃t,u=Value.int i t from d);cases q;exact dX PySem.W.kitx_int I.kIn Jd e (fun z=>nomatch z) h
 |str y=>obtain⟨t,q⟩:=(show ∃t,u=Value.str y t from d);cases q;exact dX PySem.W.kitx_str I.kIn Jd e (fun z=>nomatch z) h
 |flt y=>obtain⟨t,q⟩:=(show ∃t,u=Value.float y t from d);cases q;exact dX d7 I.kIn Jd e (fun z=>nomatch z) h
 |@lst a k f=>cases(show u=IP a from d);refine eaa ((show jm X.prog X.w H s.heap a (.lst k)from I.hok a _ f)) fun _ _ n _ g=>?_;exact dX ee I.kIn ⟨_,g,rfl⟩ e (fun z=>nomatch z) h
 |@frz a B k f=>cases(show u=IP a from d);refine eaz ((show jm X.prog X.w H s.heap a (.frz B (.lst k))from I.hok a _ f)) fun _ _=>faf fun _ n=>f8 fun _ g=>?_;exact dX ee I.kIn ⟨_,g,rfl⟩ e (fun z=>nomatch z) h
 |@tup a k f=>cases(show u=IP a from d);refine eay ((show jm X.prog X.w H s.heap a (.tup k)from I.hok a _ f)) fun _=>fL fun _=>f8 fun _ p=>?_;refine eah p fun o g l _=>?_;exact dX eg I.kIn ⟨o,g,l⟩ e (fun z=>nomatch z) h
 |@dK a j f=>cases(show u=IP a from d);refine ean ((show jm X.prog X.w H s.heap a (.dK j)from I.hok a _ f)) fun _ _ M _ p=>?_;refine eag p fun o K L g l _=>?_;exact dX eB I.kIn ⟨o,g,l.1⟩ e (fun z=>nomatch z) h
 |@dT a j f=>cases(show u=IP a from d);refine eaz ((show jm X.prog X.w H s.heap a (.dT j)from I.hok a _ f)) fun _ _=>fL fun k=>f8 fun _=>faa fun o K L=>fab fun g l _=>?_;exact dX eB I.kIn ⟨o,g,l.1⟩ e (fun z=>nomatch z) h
 |@ins a C S R f r G D m F=>cases(show u=IP a from d);refine eae (qI I.hok f) fun P O _=>?_;refine eae O.look fun N J _=>?_;exact dX (PySem.W.kitx_own (r.get _) r.hd G D m F) I.kIn J e (fun z=>nomatch z) h
end
structure mC (k:Nat) (A:Zw):Prop where
 hd:A.handled=none
 dp:A.depth+ 2*k+ 5<recursionLimit
 un:A.units+ 16*k+ 200<cLine
def mC.mono {k:Nat} {A:Zw} (r:mC k A) (h:j<=k):mC j A:=⟨r.hd,by have:=r.dp;lia,by have:=r.un;lia⟩
def mC.m {k:Nat} {A:Zw} (r:mC k A) (h:autoParam (j<=k) auD._auto_1):mC j A:=r.mono h
theorem mC.deeper {k:Nat} {A:Zw} (r:mC (k+ 1) A) (a:Env):mC k (A.deeper a):=
 ⟨r.hd,by have:=r.dp;show A.depth+ 1+ 2*k+ 5<_;lia,by have:=r.un;show A.units+ 3+ 16*k+ 200<_;lia⟩
def xO{A:Zw}:(A.under (.builtin "type.__call__" ⟨.ref C::us,kw⟩)).depth=A.depth+ 1:=by first|rfl|simp[Around.under,Code.weight,Code.isCreation,Code.isGuard,Code.isCaller,Code.frames,Code.isFrame,guardIds]
def xP{A:Zw}:(A.under (.builtin "type.__call__" ⟨.ref C::us,kw⟩)).units=A.units+ 1:=by first|rfl|simp[Around.under,Code.cUnits,Code.frames,Code.isFrame]
def mC.make {k:Nat} {A:Zw} (r:mC (k+ 1) A) (C:Zx) (us:List Zz) (a:List (Str×Zz)):mC k (A.under (.builtin "type.__call__" ⟨.ref C::us,a⟩)):=
 ⟨r.hd,by have:=r.dp;rw[xO];lia,by have:=r.un;rw[xP];lia⟩
theorem mC.depth {k:Nat} {A:Zw} (r:mC k A):A.depth<recursionLimit:=by have:=r.dp;lia
theorem mC.units {k:Nat} {A:Zw} (r:mC k A):A.units+ 64<cLine:=by have:=r.un;lia
def rM:TA:=fun _ H Q=>Q [] H
def ki (d:TE) (c:TA):TA:=fun a H Q=>d a H fun x f=>c a f fun b e=>Q (x::b) e
section
variable {X:Cx} {e:Zr} {es:List Zr} {te:TE} {t:TA} {pos:Pos}
def gn:PA X [] rM:=fun _ _ _ _ H Q I h=>Calls.spliced_nil (iap ([]) H ⟨I,.nil,h⟩)
def gk (n:PE X e te) (m:PA X es t) (l:autoParam (IQ (e::es) X.env=(false,eval e X.env)::IQ es X.env) auR._auto_1):PA X (e::es) (ki te t):=by intro a c s b H Q I h;rw[l];show C7 _ _ (spliced ((false,eval e X.env)::Jo a (IQ es X.env))) _ _ s;refine JF (thn (n c s b H _ I h) ?_);refine fun u f=>fad fun x r p i k=>?_;exact thn (m a c f b r _ p k) fun v w ⟨d,q,o,g,j⟩=>(iab (x::d) q o (.cons i g) j)
def ID (t:TA):TE:=fun c H Q=>t c H fun a b=>a.length<=sizeLine/\∀p,b p=none->Q (.ref p) (upd b p (.tup a))
def AV (t:TA):TE:=fun c H Q=>t c H fun a b=>a.length<=sizeLine/\∀p,b p=none->Q (.ref p) (upd b p (.lst a))
def gK {x1} (h:PA X es t):PE X (.Tuple es x1 pos) (ID t):=by intro j s f H Q I k;refine wpAny_Tuple_spliced (thn (h pos j s f H _ I k) fun i a ⟨g,d,c,r,z,q⟩=>⟨by rw[<-r.length];exact z,?_⟩);have l:d a.heap.objs.size=none:=c.hok.fresh (cN _);refine iab (.ref a.heap.objs.size) (upd d a.heap.objs.size (.tup g)) (c.laid (t':=a.toks) (fun b u e=>f7 _ e) (cN _) ?_) rfl (q _ l);exact iag z i r ⟨_,f6 _ rfl,rfl,_,rfl,rfl⟩
def gN (h:PA X es t):PE X (.List es pos) (AV t):=by intro j s f H Q I k;refine wpAny_List_spliced (thn (h pos j s f H _ I k) fun i a ⟨g,d,c,r,z,q⟩=>⟨by rw[<-r.length];exact z,?_⟩);have l:d a.heap.objs.size=none:=c.hok.fresh (cN _);refine iap (.ref a.heap.objs.size) (upd d a.heap.objs.size (.lst g)) ⟨c.laid (t':=a.toks) (fun b u e=>f7 _ e) (cN _) ?_,rfl,q _ l⟩;exact⟨z,i,0,r,f6 _ rfl⟩
end
abbrev Sp:=List V->Hp->VK->XK->Prop
abbrev CXT:=List Env->Hp->Zy->XK->Zz->Zy->Prop
structure DE (P:Zu) (w:Zv) (K:Zp) (mg:Zc) (base:Zt) (A:Zw) (outer:List Env) (s:Zy) (H:Hp):Prop where
 frames:A.frames=some outer
 mod:Mod K mg base
 bs:∀b o,base.get? b=some o->s.heap.get? b=some o/\H b=none
 bsz:base.objs.size<=s.heap.objs.size
 funs:s.heap.FunFrames base outer
 frf:∀b∈frs outer,H b=none
 hok:HOk P w H s.heap
 bare:AllBare s.gens
def CE (a:List Env) (P:Zu) (w:Zv) (H:Hp) (s:Zy) (Q:VK) (u:Zz) (s':Zy):Prop:=
 ∃v b,s'.os=s.os/\AllBare s'.gens/\Un (frs a) [] H b s.heap s'.heap/\HOk P w b s'.heap/\iZ v u/\Q v b
def CR (b:CXT) (a:List Env) (P:Zu) (w:Zv) (H:Hp) (s:Zy) (Q:VK) (E:XK) (r:Result) (s':Zy):Prop:=
 match r with
 | .ok (.ret u)=>CE a P w H s Q u s'
 | .ok _=>False
 | .error e=>b a H s E e s'
structure rN (P:Zu) (w:Zv) (K:Zp) (mg:Zc) (base:Zt) (CX:CXT) (k:Nat) (f:Zx) (fd:Zs) (ps:Zd) (sp:Sp):Prop where
 len:∀vs H Q E,sp vs H Q E->vs.length=ps.length
 run:∀(A:Zw) (outer:List Env) (s:Zy) (H:Hp) (args:Args) (us:List Zz) (vs:List V) (Q:VK) (E:XK),mC k A->DE P w K mg base A outer s H->BindsTo s fd args (ps.zip us)->jh vs us->sp vs H Q E->
  codeAny (model P w) A (.call (.ref f) args) (CR CX outer P w H s Q E) s
def DE.make {P:Zu} {w:Zv} {K:Zp} {b:Zc} {base:Zt} {A:Zw} {a:List Env} {s:Zy} (e:DE P w K b base A a s H) (C:Zx) (us:List Zz) (c:List (Str×Zz)):
  DE P w K b base (A.under (.builtin "type.__call__" ⟨.ref C::us,c⟩)) a s H:=⟨by first|exact e.frames|(simpa[Around.under,Code.envs,Code.isFrame,pushEnvs]using e.frames),e.mod,e.bs,e.bsz,e.funs,e.frf,e.hok,e.bare⟩
section
variable {X:Cx} {pz:Za} {σ:St} {H:Hp} {s s':Zy}
def Inv.env0 (I:Inv X pz σ H s):DE X.prog X.w X.K X.mg X.base X.A X.stack s H:=
 ⟨I.ok.frames,I.ok.mod,I.bs,cJ I.ok.bsz I.sz,I.stack,I.stkFree,I.hok,I.bare⟩
def Inv.after {Q:VK} {u:Zz} (I:Inv X pz σ H s) (h:CE X.stack X.prog X.w H s Q u s'):EP X pz σ Q u s':=by refine eaD h fun v k=>fag fun i a f e r q=>?_;obtain⟨j,g,d,t,c⟩:=s';obtain rfl:c=s.os:=i;exact iap v k ⟨I.call (h':=j) (g':=g) (d':=d) (t':=t) (ch:=[]) f e a (fun b z=>absurd z (by simp)),r,q⟩
end
def qJ (d:Sp) (a:List V) (E:XK) (t:TA):TE:=fun b H Q=>t b H fun c e=>d (c++a) e Q E
def DF (C:Zx) (m:Str) (h:Sp) (b:List V) (E:XK) (g:TE) (t:TA):TE:=fun c H Q=>g c H fun x e=>∃a i d,x= .ref a/\e a=some (.ins C i d)/\d.lookup m=none/\
 t c e fun f j=>h (x::(f++b)) j Q E
def E7 (C:Zx) (f:Sp) (b:List V) (E:XK) (t:TA):TE:=fun d H Q=>t d H fun e c=>∀x a,c x=none->c a=none->a≠x->
 f (.ref x::(e++b)) (upd (upd c a (.own x)) x (.ins C a [])) (fun v g=>v= .non/\Q (.ref x) g) E
def m7 (K:Zp) (c:Zs) (ps:Zd) (b:List Zz):Prop:=
 ∀(s:Zy) (a:List Zz),K.In s.heap->(a++b).length=ps.length->BindsTo s c ⟨a,[]⟩ (ps.zip (a++b))
def m7.all {K:Zp} {c:Zs} (h:∀a:List Zz,a.length=ps.length->bindArgs c ⟨a,[]⟩=pure (ps.zip a)):m7 K c ps []:=fun s a _ b=>by rw[aD]at b⊢;exact .of_eq (h a b)
def m8 (d:CXT) (X:Cx) (E:XK):Prop:=∀(c:Za) (b:St) (H:Hp) (s:Zy) (e:Zz) (a:Zy),Inv X c b H s->d X.stack H s E e a->X.xe e a
section
variable {X:Cx} {CX:CXT} {k:Nat} {f C:Zx} {fd:Zs} {ps:Zd} {sp:Sp} {dvs:List V} {ds:List Zz} {E:XK} {x m:Str} {p pos apos:Pos} {e o:Zr} {es:List Zr} {ta:TE} {t:TA}
def ur{b:St} {Q:VK} (F:rN X.prog X.w X.K X.mg X.base CX k f fd ps sp) (i:mC k X.A) (m:m7 X.K fd ps ds) (l:jh dvs ds) (g:m8 CX X E)
  (I:Inv X pz b H s) (r:jh vs us) (h:sp (vs++dvs) H Q E):C7 (model X.prog X.w) X.A (call (.ref f) us) (EP X pz b Q) X.xe s:=by
 have c:jh (vs++dvs) (us++ds):=r.append l;have j:(us++ds).length=ps.length:=by rw[<-c.length];exact F.len _ _ _ _ h
 refine wpAny_call (codeAny_mono (F.run X.A X.stack s H ⟨us,[]⟩ (us++ds) (vs++dvs) Q E i I.env0 (m s us I.kIn j) c h) fun r d a=>?_)
 cases r with
 |error e=>exact g pz b H s e d I a
 |ok n=>
  cases n with
  |ret u=>exact I.after a
  |next=>exact IX a
  |brk=>exact IX a
  |cont=>exact IX a
def yO (F:rN X.prog X.w X.K X.mg X.base CX k f fd ps sp) (j:mC k X.A) (n:Gl X x) (l:X.mg x=some (.ref f)) (m:dW X.K (.ref f)=true) (v:m7 X.K fd ps ds) (u:jh dvs ds) (i:m8 CX X E)
  (w:PA X (e::es) t) (b:autoParam ((x==("__debug__":Str))=false) auD._auto_1) (o:autoParam (IQ (e::es) X.env=(false,eval e X.env)::IQ es X.env) auR._auto_1) (a:autoParam ((Jo pos (IQ es X.env)).any (·.1)=false) auR._auto_1):
  PE X (.Call (.Name x p) (e::es) [] pos) (qJ sp dvs E t):=by intro g s d H Q I h;refine JG (tj I n l ?_ b);refine eC (h₀:=X.base) I.ok.mod.kin m (thn (w pos g s d H _ I h) fun z A ⟨y,B,c,r,q⟩=>⟨c.kIn,?_⟩) o a;exact ur F j v u i c r q
def gR {pl:Sem Bool} (he:PE X o ta) (c:Cls X.K C) (hm:GO X.K C m f) (F:rN X.prog X.w X.K X.mg X.base CX k f fd ps sp) (hr:mC k X.A) (hb:m7 X.K fd ps ds) (hd:jh dvs ds) (hx:m8 CX X E) (ha:PA X (e::es) t)
  (hst:autoParam (IQ (e::es) X.env=(false,eval e X.env)::IQ es X.env) auR._auto_1) (hpl:autoParam ((Jo pos (IQ es X.env)).any (·.1)=false) auR._auto_1)
  (ht:eval (.Call (.Attribute o m apos) (e::es) [] pos) X.env=(do
   let ov<-eval o X.env
   standAt apos.atName
   let(f,first)<-holding [ov] (getMethod ov m pl)
   callWith pos f first (Jo pos (IQ (e::es) X.env)) (backToKw pos (JO [] X.env))):=by rfl):
  PE X (.Call (.Attribute o m apos) (e::es) [] pos) (DF C m sp dvs E ta t):=by intro pz s σ H Q I h;refine eE (pl:=pl) (thn (he pz s σ H _ I h) ?_) ht;refine fun u s1=>faf fun x H1=>fab fun I1 rx=>faa fun a dx fs=>fac fun z0 ea l q=>?_;subst z0;obtain rfl:u=IP a:=rx;refine sE I1 ea c hm l ?_;refine eC (first:=[.ref a]) (h₀:=X.base) I.ok.mod.kin hm.kp (thn (ha pos pz s1 σ H1 _ I1 q) fun us s2 ⟨vs,H2,I2,r,q2⟩=>⟨I2.kIn,?_⟩) hst hpl;exact ur (us:= .ref a::us) (vs:= .ref a::vs) F hr hb hd hx I2 (.cons rfl r) q2
def mX {pl:Sem Bool} (he:PE X o ta) (c:Cls X.K C) (hm:GO X.K C m f) (F:rN X.prog X.w X.K X.mg X.base CX k f fd ps sp) (hr:mC k X.A) (hb:m7 X.K fd ps ds) (hd:jh dvs ds) (hx:m8 CX X E)
  (ht:eval (.Call (.Attribute o m apos) [] [] pos) X.env=(do
   let ov<-eval o X.env
   standAt apos.atName
   let(f,first)<-holding [ov] (getMethod ov m pl)
   callWith pos f first (Jo pos (IQ [] X.env)) (backToKw pos (JO [] X.env))):=by rfl):
  PE X (.Call (.Attribute o m apos) [] [] pos) (DF C m sp dvs E ta rM):=by intro pz s σ H Q I h;refine eE (pl:=pl) (thn (he pz s σ H _ I h) ?_) ht;refine fun u s1=>faf fun x H1=>fab fun I1 rx=>faa fun a dx fs=>fac fun z0 ea l q=>?_;subst z0;obtain rfl:u=IP a:=rx;refine sE I1 ea c hm l ?_;exact eF (first:=[.ref a]) I1.kIn hm.kp (ur (us:=[.ref a]) (vs:=[.ref a]) F hr hb hd hx I1 (.cons rfl .nil) q)
structure Mk (K:Zp) (C f:Zx):Prop where
 makes:dQ K C=true
 init:dH K (.ref C) "__init__"=some (some (.ref f))
 fn:dJ K (.ref f)=true
 kp:dW K (.ref C)=true
def wD{d:St} {Q:VK} (M:Mk X.K C f) (F:rN X.prog X.w X.K X.mg X.base CX k f fd ps sp) (o:mC (k+ 1) X.A) (t:m7 X.K fd ps ds) (q:jh dvs ds)
  (n:m8 CX X E) (I:Inv X pz d H s) (r:jh vs us)
  (h:∀x b,H x=none->H b=none->b≠x->sp (.ref x::(vs++dvs)) (upd (upd H b (.own x)) x (.ins C b [])) (fun v A=>v= .non/\Q (.ref x) A) E):
  C7 (model X.prog X.w) X.A (call (.ref C) us) (EP X pz d Q) X.xe s:=by
 have i:=h (s.heap.objs.size+ 1) s.heap.objs.size (I.hok.fresh (Nat.le_succ _)) (I.hok.fresh (cN _)) (cH (cQ _));have c:=Inv.made (C:=C) I;have g:jh (V.ref (s.heap.objs.size+ 1)::(vs++dvs)) (IP (s.heap.objs.size+ 1)::(us++ds)):= .cons rfl (r.append q);have p:(IP (s.heap.objs.size+ 1)::us++ds).length=ps.length:=by have e:=g.length;rw[F.len _ _ _ _ i]at e;exact e.symm
 refine wpAny_call (A4 (f:=f) I.kIn M.makes M.init (beq_iff_eq.mp M.fn) (codeAny_mono (F.run _ X.stack _ _ ⟨IP (s.heap.objs.size+ 1)::us,[]⟩ (IP (s.heap.objs.size+ 1)::(us++ds)) _ _ E (o.make C us [])
  (c.env0.make C us []) (t _ (IP (s.heap.objs.size+ 1)::us) c.kIn p) g i) fun r j a=>?_))
 cases r with
 |error e=>exact n pz d _ _ e j c a
 |ok w=>
  cases w with
  |ret u=>refine eak (c.after a) fun v B z l y m=>?_;subst y;exact⟨l,(iap (V.ref (s.heap.objs.size+ 1)) B ⟨z,rfl,m⟩)⟩
  |next=>exact IX a
  |brk=>exact IX a
  |cont=>exact IX a
def kl (M:Mk X.K C f) (F:rN X.prog X.w X.K X.mg X.base CX k f fd ps sp) (j:mC (k+ 1) X.A) (m:Gl X x) (l:X.mg x=some (.ref C)) (u:m7 X.K fd ps ds) (o:jh dvs ds) (i:m8 CX X E)
  (v:PA X (e::es) t) (b:autoParam ((x==("__debug__":Str))=false) auD._auto_1) (n:autoParam (IQ (e::es) X.env=(false,eval e X.env)::IQ es X.env) auR._auto_1) (a:autoParam ((Jo pos (IQ es X.env)).any (·.1)=false) auR._auto_1):
  PE X (.Call (.Name x p) (e::es) [] pos) (E7 C sp dvs E t):=by intro g s d H Q I h;refine JG (tj I m l ?_ b);refine eC (h₀:=X.base) I.ok.mod.kin M.kp (thn (v pos g s d H _ I h) fun y z ⟨w,A,c,r,q⟩=>⟨c.kIn,?_⟩) n a;exact wD M F j u o i c r q
def A5 (M:Mk X.K C f) (F:rN X.prog X.w X.K X.mg X.base CX k f fd ps sp) (c:mC (k+ 1) X.A) (e:Gl X x) (d:X.mg x=some (.ref C)) (i:m7 X.K fd ps ds) (g:jh dvs ds) (b:m8 CX X E)
  (a:autoParam ((x==("__debug__":Str))=false) auD._auto_1):PE X (.Call (.Name x p) [] [] pos) (E7 C sp dvs E rM):=by intro l s j H Q I h;refine JG (tj I e d ?_ a);exact eF I.kIn M.kp (wD (us:=[]) M F c i g b I .nil h)
end
section
variable {X:Cx} {CX:CXT} {k:Nat} {f C:Zx} {fd:Zs} {ps ks:Zd} {sp:Sp} {E:XK} {x m:Str} {p pos apos kpos:Pos} {e o:Zr} {es:List Zr} {kws:List Keyword} {te ta:TE} {t tk:TA} {nm:Option Str}
variable {g:List Zz->List Zz->List Zz} {gV:List V->List V->List V}
end
structure gJ (N P:Zd) (sc:Scope):Prop where
 kind:sc.kind= .function
 co:sc.isCoroutine=false
 gen:sc.isGenerator=false
 nd:N.Nodup
 pre:N.take P.length=P
 par:∀x∈P,sc.names.lookup x=some .local\/sc.names.lookup x=some .cell
 nofree:∀y∈sc.names,y.2≠ .free
theorem uu{b:Str->Option NameKind}:∀{a:List (Str×Zz)} {m:Zc},(∀v,(x,v)∉a)->bindL b a m x=m x
 |[],_,_=>rfl
 |(n,v)::r,m,h=>by
  unfold bindL;rw[uu fun w c=>h w (ai _ c)];split
  ·have:x≠n:=by rintro rfl;exact h v ah
   simp[this]
  ·rfl
theorem uw{b:Str->Option NameKind}:∀{a:List (Str×Zz)} {m:Zc},(∀v,(x,v)∉a)->bindC b a m x=m x
 |[],_,_=>rfl
 |(n,v)::r,m,h=>by
  unfold bindC;rw[uw fun w c=>h w (ai _ c)];split;·rfl
  ·have:x≠n:=by rintro rfl;exact h v ah
   simp[this]
theorem uz{a:Str->Option NameKind}:∀{P:Zd} {vs:List Zz} {i:Nat} {m:Zc},P.Nodup->P[i]?=some x->vs[i]?=some v->a x=some .local->
  bindL a (P.zip vs) m x=some v
 |[],_,_,_,_,h,_,_=>by simp at h
 |_::_,[],_,_,_,_,h,_=>by simp at h
 |p::P,w::vs,0,m,nd,h1,h2,hk=>by simp at h1 h2;subst h1;subst h2;show bindL a ((p,w)::P.zip vs) m p=_;unfold bindL;rw[uu fun v b=>(aE.mp nd).1 (aF b).1,ip hk];simp
 |p::P,w::vs,i+ 1,m,nd,h1,h2,hk=>by show bindL a ((p,w)::P.zip vs) m x=_;unfold bindL;exact uz (i:=i) (aE.mp nd).2 (by simpa using h1) (by simpa using h2) hk
theorem uA{a:Str->Option NameKind}:∀{P:Zd} {vs:List Zz} {i:Nat} {m:Zc},P.Nodup->P[i]?=some x->vs[i]?=some v->a x≠some .local->
  bindC a (P.zip vs) m x=some v
 |[],_,_,_,_,h,_,_=>by simp at h
 |_::_,[],_,_,_,_,h,_=>by simp at h
 |p::P,w::vs,0,m,nd,h1,h2,hk=>by simp at h1 h2;subst h1;subst h2;show bindC a ((p,w)::P.zip vs) m p=_;unfold bindC;rw[uw fun v b=>(aE.mp nd).1 (aF b).1,gU hk];simp
 |p::P,w::vs,i+ 1,m,nd,h1,h2,hk=>by show bindC a ((p,w)::P.zip vs) m x=_;unfold bindC;exact uA (i:=i) (aE.mp nd).2 (by simpa using h1) (by simpa using h2) hk
noncomputable def start (N:Zd) (vs:List V):St:=vs.map some++aG (N.length-vs.length) none
noncomputable def B8 (i:CXT) (P:Zu) (w:Zv) (K:Zp) (mg:Zc) (base:Zt) (N:Zd) (c:Str) (a:Scope) (f:Zx) (g:Zz) (A:Zw) (outer:List Env) (s:Zy) (H:Hp) (E:XK):Cx where
 prog:=P
 w:=w
 K:=K
 mg:=mg
 base:=base
 A:=A.deeper (envOfC c a s.heap.objs.size f g)
 N:=N
 s₀:=s
 H₀:=H
 env:=envOfC c a s.heap.objs.size f g
 outer:=outer
 stack:=envOfC c a s.heap.objs.size f g::outer
 ex:=[]
 calm:=true
 fn:=fun _=>true
 pn:=[]
 xe:=fun e j=>C7 (model P w) (A.deeper (envOfC c a s.heap.objs.size f g)) (leaving (envOfC c a s.heap.objs.size f g) e) (fun _ d=>i outer H s E e d) (fun k d=>i outer H s E k d) j
def wF{sc:Scope} (h:sc.names.lookup x=some .cell):∃c,(cellsFrom n sc.names []).lookup x=some c:=by have q:=eG sc.names n [] (.inl h);exact dq.mp q
def yP{K:Zp}
  (S:gJ N ps scope) (I:A.handled=none) (g:DE P w K mg base A outer s H) (M:vs.length=ps.length) (r:jh vs us)
  (x:InCallC s s.heap.objs.size (bindL (envOfC qual scope s.heap.objs.size f cd).kindOf (ps.zip us) fun _=>none) (cellsFrom (s.heap.objs.size+ 1) scope.names []) (bindC (envOfC qual scope s.heap.objs.size f cd).kindOf (ps.zip us) fun _=>none) s1):
  Inv (B8 CX P w K mg base N qual scope f cd A outer s H E) [] (start N vs) H s1:=by
 have G:ps.length<=N.length:=by have:=congrArg aH S.pre;rw[aI]at this;lia
 refine ead x.done fun t L D C=>?_;subst D;have j:∀b:Zx,b∉(B8 CX P w K mg base N qual scope f cd A outer s H E).ex:=fun b z=>absurd (show b∈([]:List Zx)from z) (by simp);refine⟨⟨g.mod,S.kind,rfl,rfl,cN _,fun y z c t d=>?_,fun y hy=>?_,fun y c _ h=>?_,fun _=>I,Around.frames_deeper g.frames,.inr ⟨rfl,rfl⟩,fun b z=>absurd z (j b),g.bs,g.bsz,fun b _ _=>j b,fun b z=>absurd z (j b),g.funs,g.frf⟩,
  rfl,g.bare,Un.kept C,(io _ x.toInCall.ns (fun i y v t d O=>?_)),fun y c h=>⟨_,x.cell y c h⟩,g.hok.fresh (cN _),fun y c h=>?_,fun p m=>absurd (show p∈([]:Za)from m) (by simp),g.hok.kept C,?_⟩;·exact name_of_addr x.apart (IV t) (IV d)
 ·have hy:scope.names.lookup y=some .cell\/scope.names.lookup y=some .free:=hy;rcases hy with hy|hy;·exact wF hy
  ·exact absurd rfl (S.nofree _ (IV hy))
 ·exact cK (x.above y c (IV h))
 ·have o:i<vs.length:=by
   unfold start at d;by_cases o:i<vs.length;·exact o
   ·rw[aJ (by simpa using o)]at d;rw[List.getElem?_replicate]at d;split at d<;>cases d
  have J:vs[i]?=some v:=by
   unfold start at d;rw[aK (by simpa using o),aM]at d
   cases e:vs[i]? with
   |none=>rw[e]at d;cases d
   |some a=>rw[e]at d;cases d;rfl
  refine eae (r.get J) fun u B F=>?_;have m:ps[i]?=some y:=by rw[<-S.pre,List.getElem?_take_of_lt (by lia)];exact t
  have l:ps.Nodup:=by rw[<-S.pre];exact S.nd.sublist (List.take_sublist _ _)
  refine io u F ?_;rcases S.par y (aN m)with k|k;·exact .inl ⟨k,uz l m B k⟩
  ·obtain⟨c,e⟩:=wF (n:=s.heap.objs.size+ 1) k;refine .inr (iag (.inl k) c e ?_);have q:=x.cell y c e;rw[uA l m B (by show scope.names.lookup y≠_;rw[k];decide)]at q;exact q
 ·exact g.hok.fresh (cK (x.above y c (IV h)))
 ·unfold start;show _=N.length;rw[aO,aC,aP];lia
def E8{K:Zp} {Y:Zz} (lk:K.lookup f=some ⟨oc,od,.func (eJ B d i body a dV Y W pm an g ct),osl⟩) (U:eK K g d=true) (S:gJ N O a)
  (C:∀vs H Q E,sp vs H Q E->vs.length=O.length)
  (p:∀(A:Zw) (c:List Env) (s:Zy) (H:Hp) (vs:List V) (Q:VK) (E:XK),mC k (A.deeper (envOfC d a s.heap.objs.size f g))->sp vs H Q E->
   ∃t,PSs (B8 CX P w K mg base N d a f g A c s H E) body t/\t {nx:=fun _ l=>Q .non l,rt:=Q} (start N vs) H):
  rN P w K mg base CX (k+ 1) f (eJ B d i body a dV Y W pm an g ct) O sp:=by
 refine⟨C,fun A c s H Z us vs Q E T G hb r D=>?_⟩;have hl:=C _ _ _ _ D;have KX:K.In s.heap:=G.mod.kin.keeps fun b o e=>(G.bs b o e).1;have R:s.heap.NoLimit:=G.mod.nolimit.keeps fun b o e=>(G.bs b o e).1;have m:∀y∈O.zip us,a.names.lookup y.1=some .local\/(a.names.lookup y.1=some .cell/\((cellsFrom (s.heap.objs.size+ 1) a.names []).lookup y.1).isSome=true):=fun⟨n,v⟩ hy=>by
  rcases S.par n (aF hy).1 with q|q;·exact .inl q
  ·exact .inr ⟨q,eG _ _ _ (.inl q)⟩
 refine codeAny_call_function T.depth (KX _ _ lk) rfl S.co S.gen rfl (PySem.W.codeRec_of KX U) (hb _ _ _ _ ?_);refine wpAny_newFunctionEnv_cells S.kind m fun env he X x=>?_;subst he;refine⟨R.keeps x.toInCall.keep,codeAny_func ?_⟩;refine eae (p A c s H vs Q E (T.deeper _) D) fun t ht hq=>?_;have I:Inv (B8 CX P w K mg base N d a f g A c s H E) [] (start N vs) H X:=yP S T.hd G hl r x;refine I0 (ht [] X (start N vs) H _ I hq) (fun fl L z=>?_) fun e L z=>z;have F:∀{h:St} {l:Hp} {v:V} {u:Zz},Inv (B8 CX P w K mg base N d a f g A c s H E) [] h l L->iZ v u->Q v l->CE c P w H s Q u L:=
  fun{h l v u} J M q=>(iap v l ⟨J.os,J.bare,J.base,J.hok,M,q⟩)
 cases fl with
 |ret u=>refine eag z fun v h l J M q=>?_;exact F J M q
 |next=>refine ead z fun h l J q=>?_;exact F (v:=V.non) (u:=Jm) J rfl q
 |brk=>refine ead z fun _ _ _ q=>?_;exact IX q
 |cont=>refine ead z fun _ _ _ q=>?_;exact IX q
section
variable {X:Cx} {x:Str} {p pos:Pos} {e:Zr} {es:List Zr} {t:TA} {id T:String} {r:List V->Hp->VK->Prop}
def tCB (r:List V->Hp->VK->Prop) (t:TA):TE:=fun a H Q=>t a H fun b c=>r b c Q
def hV (u:oE X (.builtin id) r) (o:Gl X x) (n:X.mg x=none) (l:IZ x=some (.builtin id)) (v:PA X (e::es) t) (m:autoParam (x≠"__name__") auD._auto_1) (b:autoParam ((x==("__debug__":Str))=false) auD._auto_1)
  (q:autoParam (IQ (e::es) X.env=(false,eval e X.env)::IQ es X.env) auR._auto_1) (a:autoParam ((Jo pos (IQ es X.env)).any (·.1)=false) auR._auto_1):PE X (.Call (.Name x p) (e::es) [] pos) (tCB r t):=by intro d s c H Q I h;refine JG (p7 I o n l ?_ m b);exact PyProof.Rows.callWith_builtin1 (thn (v pos d s c H _ I h) fun g i ⟨f,y,w,j,k⟩=>u d i c y f g Q w j k) q a
def iQ (u:oE X (.type T) r) (o:Gl X x) (n:X.mg x=none) (l:IZ x=some (.type T)) (v:PA X (e::es) t) (m:autoParam (x≠"__name__") auD._auto_1) (b:autoParam ((x==("__debug__":Str))=false) auD._auto_1)
  (q:autoParam (IQ (e::es) X.env=(false,eval e X.env)::IQ es X.env) auR._auto_1) (a:autoParam ((Jo pos (IQ es X.env)).any (·.1)=false) auR._auto_1):PE X (.Call (.Name x p) (e::es) [] pos) (tCB r t):=by intro d s c H Q I h;refine JG (p7 I o n l ?_ m b);exact gi (thn (v pos d s c H _ I h) fun g i ⟨f,y,w,j,k⟩=>u d i c y f g Q w j k) q a
end
section
variable {κ:Type} [DecidableEq κ]
def k8 (a:List (κ×V)) (k:κ):Option V:=(a.find? fun b=>decide (b.1=k)).map (·.2)
def tw (a:List (κ×V)) (k:κ) (v:V):List (κ×V):=
 if(a.any fun b=>decide (b.1=k))=true then a.map (fun b=>if b.1=k then(b.1,v)else b)else a++[(k,v)]
def jQ{k:κ} (e:p.1=k):k8 (p::r) k=some p.2:=by simp[k8,aQ,e]
def jR{k:κ} (e:¬p.1=k):k8 (p::r) k=k8 r k:=by simp[k8,aQ,e]
theorem qt (k:κ):∀a:List (κ×V),(a.any fun b=>decide (b.1=k))=(k8 a k).isSome
 |[]=>rfl
 |p::r=>by
  rw[aR];by_cases e:p.1=k;·simp only[jQ e,jo e,Bool.true_or,Option.isSome_some]
  ·rw[jR e,iY e,Bool.false_or];exact qt k r
theorem wG (k j:κ) (y:V):∀a:List (κ×V),k8 (a.map fun b=>if b.1=k then(b.1,y)else b) j=(k8 a j).map fun x=>if j=k then y else x
 |[]=>rfl
 |p::r=>by
  have c:=wG k j y r;rw[aB];by_cases h:p.1=k
  ·rw[ip h];by_cases e:p.1=j;·rw[jQ (p:=(p.1,y)) e,jQ e,dw,ip (e.symm.trans h)]
   ·rw[jR (p:=(p.1,y)) e,jR e,c]
  ·rw[gU h];by_cases e:p.1=j;·rw[jQ (p:=p) e,jQ e,dw,gU (fun z=>h (e.trans z))]
   ·rw[jR (p:=p) e,jR e,c]
theorem uB (k j:κ) (y:V):∀a:List (κ×V),k8 a k=none->k8 (a++[(k,y)]) j=if j=k then some y else k8 a j
 |[],_=>by
  by_cases e:k=j;·rw[ip e.symm];exact jQ (p:=(k,y)) e
  ·rw[gU (fun z=>e z.symm)];exact jR (p:=(k,y)) e
 |p::r,hn=>by
  rw[aS];have b:¬p.1=k:=fun z=>by rw[jQ z]at hn;cases hn
  rw[jR b]at hn;have c:=uB k j y r hn;by_cases e:p.1=j;·rw[jQ e,jQ e,gU (fun z=>b (e.trans z))]
  ·rw[jR e,jR e,c]
def qu (b:List (κ×V)) (k j:κ) (y:V):k8 (tw b k y) j=if j=k then some y else k8 b j:=by
 unfold tw;by_cases a:(b.any fun c=>decide (c.1=k))=true
 ·rw[ip a,wG];rw[qt]at a;by_cases e:j=k;·obtain⟨x,d⟩:=dq.mp a;rw[ip e,e,d,dw,ip rfl]
  ·rw[gU e]
   cases k8 b j with
   |none=>rfl
   |some x=>rw[dw,gU e]
 ·rw[gU a];refine uB k j y b ?_;rw[qt]at a
  cases q:k8 b k with
  |none=>rfl
  |some x=>rw[q]at a;exact(a rfl).elim
def kM (a:List (κ×V)) (k:κ) (v:V):(tw a k v).length<=a.length+ 1:=by
 unfold tw;split;·rw[aC];lia
 ·rw[aO,az,aT];lia
def tf.isSome_eq {o:Option V} {u:Option Zz} (r:tf o u):o.isSome=u.isSome:=by
 cases o with
 |none=>cases u with
  |none=>rfl
  |some _=>exact(show False from r).elim
 |some _=>cases u with
  |none=>exact(show False from r).elim
  |some _=>rfl
theorem tf.getD {o:Option V} {u:Option Zz} {d:V} {d':Zz} (r:tf o u) (a:iZ d d'):iZ (o.getD d) (u.getD d'):=by
 cases o with
 |none=>cases u with
  |none=>exact a
  |some _=>exact(show False from r).elim
 |some _=>cases u with
  |none=>exact(show False from r).elim
  |some _=>exact r
def KV.val {a:List (κ×V)} {vs:List (κ×Zz)} (r:KV a vs) (k:κ):tf (k8 a k) (valueAt vs k):=by
 unfold KV at r
 induction r with
 |nil=>exact Jd
 |@cons p q j c h t g=>
  obtain⟨f,i⟩:=h;by_cases e:p.1=k
  ·have d:q.1=k:=f.symm.trans e;have b:valueAt (q::c) k=some q.2:=by simp[valueAt,aQ,d]
   rw[jQ e,b];exact i
  ·have d:¬q.1=k:=fun z=>e (f.trans z);have b:valueAt (q::c) k=valueAt c k:=by simp[valueAt,aQ,d]
   rw[jR e,b];exact g
theorem KV.any {a:List (κ×V)} {vs:List (κ×Zz)} (r:KV a vs) (k:κ):(a.any fun b=>decide (b.1=k))=vs.any fun b=>decide (b.1=k):=by
 unfold KV at r
 induction r with
 |nil=>rfl
 |cons h t c=>rw[aR,aR,c,h.1]
def KV.repl {b:List (κ×V)} {vs:List (κ×Zz)} (r:KV b vs) (k:κ) {u:Zz} (d:iZ y u):
  KV (b.map fun a=>if a.1=k then(a.1,y)else a) (vs.map fun a=>if a.1=k then(a.1,u)else a):=by
 unfold KV at r⊢
 induction r with
 |nil=>exact .nil
 |@cons p q j i h t f=>
  rw[aB,aB];refine .cons ?_ f;obtain⟨c,g⟩:=h;by_cases e:p.1=k;·rw[ip e,ip (c.symm.trans e)];exact⟨c,d⟩
  ·rw[gU e,gU (fun z=>e (c.trans z))];exact⟨c,g⟩
def KV.put {a:List (κ×V)} {vs:List (κ×Zz)} (r:KV a vs) (k:κ) {u:Zz} (b:iZ y u):KV (tw a k y) (stored vs k u):=by
 unfold tw stored;rw[r.any k];by_cases e:(vs.any fun c=>decide (c.1=k))=true;·rw[ip e,ip e];exact r.repl k b
 ·rw[gU e,gU e];exact Paired.snoc r ⟨rfl,b⟩
theorem KV.length {a:List (κ×V)} {vs:List (κ×Zz)} (r:KV a vs):a.length=vs.length:=Paired.length r
end
def vA(r:iZ (kV k) u):(jq P w).is k u=true:=by
 cases k with
 |inl i=>obtain⟨t,e⟩:=(show ∃t,u=Value.int i t from r);subst e;exact vv P w i t
 |inr x=>obtain⟨t,e⟩:=(show ∃t,u=Value.str x t from r);subst e;exact vw P w x t
theorem uC:∀{a:List Key} {us:List Zz},jh (a.map kV) us->ItemsAre (jq P w) a us
 |[],_,r=>by rw[aU]at r;cases r;exact .nil
 |k::a,_,r=>by
  rw[aB]at r
  cases r with
  |cons h t=>exact .cons (vA h) (uC t)
abbrev KT (H:Hp):List (List Key×V)->List (List Key×Zx×Zz)->Prop:=Paired fun p q=>p.1=q.1/\H q.2.1=some (.tup (p.1.map kV))/\iZ p.2 q.2.2
def KT.val {a:List (List Key×V)} {xs:List (List Key×Zx×Zz)} (r:KT H a xs) (k:List Key):tf (k8 a k) ((atKey xs k).map (·.2)):=by
 induction r with
 |nil=>exact Jd
 |@cons p q j c h t g=>
  refine eaz h fun f _ i=>?_;by_cases e:p.1=k
  ·have d:q.1=k:=f.symm.trans e;have b:atKey (q::c) k=some q.2:=by simp[atKey,aQ,d]
   rw[jQ e,b];exact i
  ·have d:¬q.1=k:=fun z=>e (f.trans z);have b:atKey (q::c) k=atKey c k:=by simp[atKey,aQ,d]
   rw[jR e,b];exact g
def KT.repl {a:List (List Key×V)} {xs:List (List Key×Zx×Zz)} (r:KT H a xs) (k:List Key) {u:Zz} (f:iZ y u):
  KT H (a.map fun c=>if c.1=k then(c.1,y)else c) (xs.map (putAt k u)):=by
 induction r with
 |nil=>exact .nil
 |@cons p q l j h t g=>
  rw[aB,aB];refine .cons ?_ g;refine eao h fun b d i=>?_;unfold putAt;by_cases e:p.1=k;·rw[ip e,ip (b.symm.trans e)];exact⟨b,d,f⟩
  ·rw[gU e,gU (fun z=>e (b.trans z))];exact⟨b,d,i⟩
def KT.put {a:List (List Key×V)} {xs:List (List Key×Zx×Zz)} (r:KT H a xs) (k:List Key) {b:Zx} {u:Zz} (f:H b=some (.tup (k.map kV))) (c:iZ y u):
  KT H (tw a k y) (storedH xs k b u):=by
 have e:(a.any fun d=>decide (d.1=k))=(atKey xs k).isSome:=by rw[qt,(r.val k).isSome_eq,Option.isSome_map]
 unfold tw storedH;rw[e];by_cases q:(atKey xs k).isSome=true;·rw[ip q,ip q];exact r.repl k c
 ·rw[gU q,gU q];exact Paired.snoc r ⟨rfl,f,c⟩
def KT.keeps {a:List (List Key×V)} {xs:List (List Key×Zx×Zz)} (r:KT H a xs) (d:∀b c,H b=some (.tup c)->H' b=some (.tup c)):KT H' a xs:=
 Paired.mapP r fun _ _ z=>⟨z.1,d _ _ z.2.1,z.2.2⟩
section
variable {P:Zu} {w:Zv} {H:Hp} {h:Zt} {a:Zx}
def E9(b:HOk P w H h) (e:Rd H a u):jm P w H h a u:=e.ok b
def xQ(c:HOk P w H h) (e:Rd H a (.dK kvs)):kvs.length<=sizeLine/\(a==Jh)=false/\∃b,KV kvs b/\h.DictOf (jq P w) a b:=
 show jm P w H h a (.dK kvs)from E9 c e
def Fb(c:HOk P w H h) (e:H a=some (.dK kvs)):kvs.length<=sizeLine/\(a==Jh)=false/\∃b,KV kvs b/\h.DictOf (jq P w) a b:=xQ c (.inl e)
def uD(c:HOk P w H h) (e:H a=some (.tup (ks.map kV))):(tupleKind (jq P w)).is h ks a:=by refine eay ((show jm P w H h a (.tup (ks.map kV))from c a _ e)) fun _=>fL fun b=>f8 fun r=>fL fun o=>fab fun g f=>fL fun n=>f8 fun d _=>?_;exact iae o b.toArray n g f d (by simpa using uC r)
def xR(d:HOk P w H h) (e:Rd H a (.dT kvs)):kvs.length<=sizeLine/\(a==Jh)=false/\
  ∃b,KT H kvs b/\h.DictOfH (tupleKind (jq P w)) a b:=by
 refine eaz ((show jm P w H h a (.dT kvs)from E9 d e)) fun z y=>fL fun b=>f8 fun r=>faa fun o u v=>fah fun s n k j i=>?_;refine⟨z,y,b,r,o,u,v,s,n,k,j,fun x hx=>?_,i⟩;have c:∀{l:List (List Key×V)} {m:List (List Key×Zx×Zz)},KT H l m->∀x∈m,(tupleKind (jq P w)).is h x.1 x.2.1:=by
  intro l m q
  induction q with
  |nil=>intro x hx;exact nomatch hx
  |@cons p q B A f t g=>
   intro x hx;rcases aj.mp hx with e|hx;·subst e;exact uD d (by rw[<-f.1];exact f.2.1)
   ·exact g x hx
 exact c r x hx
def Hi(c:HOk P w H h) (e:H a=some (.dT kvs)):kvs.length<=sizeLine/\(a==Jh)=false/\
  ∃b,KT H kvs b/\h.DictOfH (tupleKind (jq P w)) a b:=xR c (.inl e)
end
def rO (H:Hp) (a:Zx) (y:V) (r:Option V):Prop:=
 (∃c k,Rd H a (.dK c)/\y=kV k/\r=k8 c k)\/∃c k b,Rd H a (.dT c)/\y= .ref b/\H b=some (.tup (k.map kV))/\r=k8 c k
def yt (H:Hp) (a:Zx) (y v:V) (H':Hp):Prop:=
 (∃c k,H a=some (.dK c)/\y=kV k/\c.length<sizeLine/\H'=upd H a (.dK (tw c k v)))\/
 ∃c k b,H a=some (.dT c)/\y= .ref b/\H b=some (.tup (k.map kV))/\c.length<sizeLine/\H'=upd H a (.dT (tw c k v))
theorem rO.k {a:Zx} {b:List (Key×V)} {k:Key} (e:H a=some (.dK b)):rO H a (kV k) (k8 b k):= .inl (iap b k ⟨.inl e,rfl,rfl⟩)
theorem yt.k {a:Zx} {b:List (Key×V)} {k:Key} {v:V} (e:H a=some (.dK b)) (c:b.length<sizeLine):yt H a (kV k) v (upd H a (.dK (tw b k v))):= .inl (iap b k ⟨e,rfl,c,rfl⟩)
section
variable {X:Cx} {pz:Za} {σ:St} {H:Hp} {s:Zy} {a:Zx} {y v:V} {u r:Zz} {o:Option V} {A:Zw} {E:Zb}
def Inv.big (I:Inv X pz σ H s):Jh<s.heap.objs.size:=by have h:C8<s.heap.objs.size:=(I.mod.glob.keeps I.bk).lt;exact Nat.lt_trans (by decide) h
def yQ (B:A.units+ 1<cLine) (I:Inv X pz σ H s) (g:rO H a y (some v)) (t:iZ y u) (h:∀f r,Inv X pz σ H r->iZ v f->Q f r):
  C7 (model X.prog X.w) A (getItem (.ref a) u) Q E s:=by
 rcases g with⟨i,k,e,n,l⟩|⟨i,k,b,e,n,F,l⟩;·subst n;refine ean (xQ I.hok e) fun z D x d q=>?_;refine eae (tf.some_of (v:=v) (o:=valueAt x k) (by rw[l];exact d.val k)) fun f j c=>?_;exact wpAny_getItem_of (vA t) q.mapOf j (h f _ (I.tok _) c)
 ·subst n;cases(show u=IP b from t);refine ean (xR I.hok e) fun z D w d q=>?_;refine eae (tf.some_of (v:=v) (o:=(atKey w k).map (·.2)) (by rw[l];exact d.val k)) fun f j c=>?_;refine eae (dA.mp j) fun p C m=>?_;refine wpAny_getItem_heap (JV B) (uD I.hok F) q C ?_;rw[m];exact h f _ (I.tok _) c
def d_in (p:A.units+ 1<cLine) (I:Inv X pz σ H s) (g:rO H a y o) (n:iZ y u) (h:∀m,Inv X pz σ H m->Q (.bool o.isSome) m):
  C7 (model X.prog X.w) A (Jf .In u (.ref a)) Q E s:=by
 rcases g with⟨d,k,e,i,l⟩|⟨d,k,b,e,i,r,l⟩;·subst i;refine ean (xQ I.hok e) fun z f v c j=>?_;refine wpAny_in_of (vA n) f j.mapOf ?_;rw[<-(c.val k).isSome_eq,<-l];exact h _ (I.tok _)
 ·subst i;cases(show u=IP b from n);refine ean (xR I.hok e) fun z f t c j=>?_;refine wpAny_in_heap (JV p) (uD I.hok r) f j ?_;have q:=(c.val k).isSome_eq;rw[Option.isSome_map]at q;rw[<-q,<-l];exact h _ (I.tok _)
def vB(I:Inv X pz σ H s) (d:Mut (H a)) (f:JT a s.heap h') (g:∃q,h'.get? a=some q) (c:jm X.prog X.w (upd H a ob) h' a ob):
  Inv X pz σ (upd H a ob) {s with heap:=h',toks:=t'}:=
 I.write (x:=a) (e:=a) d (.inl rfl) (fun b q h z=>(f.2 b h).trans z) g c
def Ca(z:kvs.length<=sizeLine) (c:(a==Jh)=false) (b:KV kvs vs) (d:h'.DictOf (jq P w) a vs):
  jm P w H' h' a (.dK kvs):=⟨z,c,vs,b,d⟩
def yR {Q:Unit->Zy->Prop} (M:A.units+ 1<cLine) (I:Inv X pz σ H s) (g:yt H a y v H') (C:iZ y u) (D:iZ v r) (h:∀B,Inv X pz σ H' B->Q () B):
  C7 (model X.prog X.w) A (setItem (.ref a) u r) Q E s:=by
 rcases g with⟨f,k,e,t,l,w⟩|⟨f,k,b,e,t,J,l,w⟩
 ·subst t w;refine ean (Fb I.hok e) fun z p L d x=>?_;have m:L.length<=sizeLine:=by rw[<-d.length];exact z
  have o:(tw f k v).length<=sizeLine:=by have:=kM f k v;lia
  refine wpAny_setItem_pairs (hsz:=m) (vA C) x fun F i n=>h _ ?_;have N:∃q,F.get? a=some q:=let⟨q,_,_,j,_⟩:=i;⟨q,j⟩;exact vB I (by rw[e];exact Jd) n N (Ca o p (d.put k D) i)
 ·subst t w;cases(show u=IP b from C);refine ean (Hi I.hok e) fun z p K d x=>?_;have m:K.length<=sizeLine:=by rw[<-Paired.length d];exact z
  have o:(tw f k v).length<=sizeLine:=by have:=kM f k v;lia
  refine wpAny_setItem_heap (hsz:=m) (JV M) (uD I.hok J) x fun F i n=>h _ ?_;refine eaB i fun q T U=>fag fun j S R P _ O=>?_;refine vB I (by rw[e];exact Jd) n ⟨q,j⟩ ⟨o,p,_,(d.put k J D).keeps fun c V G=>?_,q,T,U,j,S,R,P,O⟩;rw[gx (jP G e (fun z=>nomatch z))];exact G
end
section
variable {X:Cx} {pz:Za} {σ:St} {H:Hp} {s:Zy} {a:Zx} {kvs:List (Key×V)} {k:Key} {u:Zz} {A:Zw} {E:Zb}
end
def Hj (i:Zr):Prop:=∀a b,subscripted i false a b=operate [a,b] (getItem a b)
def yS{E:Zb} {id:String}
  (l:typeLookup (.type T) "__getitem__"=pure (some (.builtin id))) (k:Hj slice)
  (h:C7 (model prog w) A (eval value env) (fun o d=>C7 (model prog w) A (eval slice env) (fun i a=>a.TypeIs o T/\C7 (model prog w) A (getItem o i) Q E a) E d) E s):
  C7 (model prog w) A (eval (.Subscript value slice pos) env) Q E s:=by
 refine Subscript_ (I0 h (fun o d g=>I0 g (fun i a b=>?_) fun _ _ x=>x) fun _ _ x=>x);obtain⟨j,b⟩:=b;unfold subscriptTail;refine C6 ?_;rw[getitemInPython_of_ne j.not_modules];refine C6 (wpAny_specialOf j l ?_);have e:C7 (model prog w) A (subscripted slice false o i) (fun r c=>C7 (model prog w) A (letTemporaryGo value o r >>= fun _=>pure r) Q E c) E a:=by rw[k o i];exact wpAny_operating (I0 b (fun r c f=>C6 (wpAny_letTemporaryGo (IT f))) fun _ _ x=>x)
 first
  |exact IT (C6 e)
  |exact C6 (IT (C6 e))
  |exact C6 e
def vC{f:St} (I:Inv X pz f H s) (g:rO H a y o):s.TypeIs (.ref a) "dict":=by
 rcases g with⟨c,k,e,_,_⟩|⟨c,k,b,e,_,_,_⟩;·refine ean (xQ I.hok e) fun _ _ i _ d=>?_;exact d.typeIs
 ·refine ean (xR I.hok e) fun _ _ h _ d=>?_;exact d.typeIs
def Hk (e d:TE):TE:=fun b H Q=>e b H fun x f=>d b f fun y c=>∃a v,x= .ref a/\rO c a y (some v)/\Q v c
def tDIn (d e:TE):TE:=fun b H Q=>d b H fun y f=>e b f fun x c=>∃a o,x= .ref a/\rO c a y o/\Q (.bl o.isSome) c
def Hl (f d e:TE):TS.Internal:=fun D b H=>e b H fun v i=>f b i fun x h=>d b h fun y g=>∃a c,x= .ref a/\yt g a y v c/\D.nx b c
section
variable {X:Cx} {o i e value:Zr} {pos pos' tpos:Pos} {td ty tv:TE}
def iq (hu:X.A.units+ 1<cLine) (ho:PE X o td) (hi:PE X i ty) (hs:Hj i:=by exact fun _ _=>rfl):PE X (.Subscript o i pos) (Hk td ty):=by intro pz s σ H Q I h;refine yS eR.lookup hs (thn (ho pz s σ H _ I h) fun u s1 ⟨x,H1,I1,rx,q1⟩=>thn (hi pz s1 σ H1 _ I1 q1) ?_);refine fun iv s2=>faf fun y H2=>fab fun I2 ry=>faf fun a v=>fab fun z0 g q2=>?_;subst z0;obtain rfl:u=IP a:=rx;exact⟨vC I2 g,yQ hu I2 g ry fun w' s3 I3 rw'=>(iab v H2 I3 rw' q2)⟩
def Fc (n:X.A.units+ 1<cLine) (hi:PE X i ty) (ho:PE X o td):PC X .In i o (tDIn ty td):=by intro c s b H Q I h;refine thn (hi c s b H _ I h) fun A e ⟨y,v,r,f,l⟩=>thn (ho c e b v _ r l) ?_;refine fun u z=>faf fun x t=>fab fun q j=>faf fun a m=>fab fun d g k=>?_;subst d;obtain rfl:u=IP a:=j;exact d_in n q g f fun w p=>(iab (.bl m.isSome) t p rfl k)
def nA (t:X.A.units+ 1<cLine) (ho:PE X o td) (hi:PE X i ty) (q:PE X value tv) (w:swapsWith value (some (.Subscript o i pos')) pos.line X.env=pure false):
  PS X (.Assign [.Subscript o i pos'] value pos) (Hl td ty tv):=by intro c s b H D I h;refine wpAny_Assign_Subscript (thn (q c s b H _ I h) fun r f ⟨v,G,C,l,p⟩=>thn (ho c f b G _ C p) fun u e ⟨x,F,B,k,n⟩=>thn (hi c e b F _ B n) ?_) w;refine fun L K=>faf fun y M=>fab fun A j=>faf fun a E=>fab fun d g m=>?_;subst d;obtain rfl:u=IP a:=k;exact yR t A g j l fun J z=>(iaf b E z m)
end
def A6(h:Zt) (a:Jh<h.objs.size):jm P w H (h.push {cls:= .type "dict",data:= .dict #[]}) h.objs.size (.dK []):=
 ⟨cO _,beq_eq_false_iff_ne.mpr (IU (cH a)),[],.nil,Heap.DictOf.new h⟩
def Fe:TE:=fun _ H Q=>∀p,H p=none->Q (.ref p) (upd H p (.dK []))
section
variable {X:Cx} {pos:Pos}
def lT:PE X (.Dict [] [] pos) Fe:=fun c s b H Q I h=>
 wpAny_Dict_empty (iap (.ref s.heap.objs.size) _ ⟨I.laid (a:=s.heap.objs.size) (o:= .dK []) (t':=s.toks) (fun _ _ q=>f7 _ q) (cN _) (A6 s.heap I.big),rfl,h _ (I.hok.fresh (cN _))⟩)
end
structure M1 (X:Cx) (o:Zr) (m:Str) (apos:Pos) (e:Zr) (cpos:Pos):Prop where
 base:JE o m X.env (eval o X.env)=eval o X.env
 few:((Jo cpos (IQ [e] X.env)).all (fun x=>!x.1)&&(backToKw cpos (JO [] X.env)).all (fun x=>x.1.isSome)
  &&decide (([e]:List Zr).length+([]:List Keyword).length+(if([]:List Keyword).isEmpty then 0 else 1)<30))=true
 line:(apos.endLine==cpos.line)=true
 trees:Jo cpos (IQ [e] X.env)=[(false,eval e X.env)]
structure M2 (X:Cx) (o:Zr) (m:Str) (apos:Pos) (e f:Zr) (cpos:Pos):Prop where
 base:JE o m X.env (eval o X.env)=eval o X.env
 few:((Jo cpos (IQ [e,f] X.env)).all (fun x=>!x.1)&&(backToKw cpos (JO [] X.env)).all (fun x=>x.1.isSome)
  &&decide (([e,f]:List Zr).length+([]:List Keyword).length+(if([]:List Keyword).isEmpty then 0 else 1)<30))=true
 line:(apos.endLine==cpos.line)=true
 trees:Jo cpos (IQ [e,f] X.env)=[(false,eval e X.env),(false,eval f X.env)]
def IsD (H:Hp) (a:Zx):Prop:=(∃b,Rd H a (.dK b))\/∃b,Rd H a (.dT b)
def Cb{k:St} (I:Inv X pz k H s) (d:IsD H a):
  s.TypeIs (.ref a) "dict"/\(∀b,IP a= .ref b->∃c,s.heap.get? b=some c/\c.dict=none)/\(a==Jh)=false:=by
 rcases d with⟨g,e⟩|⟨g,e⟩;·refine ean (xQ I.hok e) fun _ h m _ f=>?_;refine⟨f.typeIs,fun b q=>?_,h⟩;cases q;refine eag f fun c _ _ j i _=>?_;exact⟨c,j,i.2.1⟩
 ·refine ean (xR I.hok e) fun _ h l _ f=>?_;refine⟨f.typeIs,fun b q=>?_,h⟩;cases q;refine eag f fun c _ _ j i _=>?_;exact⟨c,j,i.2.1⟩
section
variable {X:Cx} {pz:Za} {σ:St} {H:Hp} {s:Zy} {a:Zx} {y d:V} {u r:Zz} {o:Option V} {A:Zw} {E:Zb}
def Ff (w:A.units+ 1<cLine) (I:Inv X pz σ H s) (g:rO H a y o) (q:iZ y u) (t:iZ d r) (h:∀n p,Inv X pz σ H p->iZ (o.getD d) n->Q n p):
  C7 (model X.prog X.w) A (call (.builtin "dict.get") [.ref a,u,r]) Q E s:=by
 rcases g with⟨i,k,e,m,l⟩|⟨i,k,b,e,m,x,l⟩;·subst m;refine ean (xQ I.hok e) fun z j B c f=>?_;refine call_meetsIn eT f.typeIs eU (eV _ _ _) (meets_dict_get_default (jq X.prog X.w) a (vA q) j r) (io _ f.mapOf (h _ _ (I.tok _) ?_));rw[l];exact(c.val k).getD t
 ·subst m;cases(show u=IP b from q);refine ean (xR I.hok e) fun z j v c f=>?_;refine call_meetsIn eT f.typeIs eU (eV _ _ _) (meetsH_dict_get_default (tupleKind (jq X.prog X.w)) a b j r) ⟨JV w,k,v,uD I.hok x,f,h _ _ (I.tok _) ?_⟩;rw[l];exact(c.val k).getD t
end
def yT (g e f:TE):TE:=fun b H Q=>g b H fun x d=>∃a,x= .ref a/\IsD d a/\e b d fun y h=>f b h fun z c=>∃o,rO c a y o/\Q (o.getD z) c
section
variable {X:Cx} {o e f:Zr} {apos cpos:Pos} {td ty tx:TE}
def wH (C:X.A.units+ 1<cLine) (ho:PE X o td) (E:PE X e ty) (D:PE X f tx) (m:M2 X o "get" apos e f cpos):PE X (.Call (.Attribute o "get" apos) [e,f] [] cpos) (yT td ty tx):=by
 intro i s b H Q I h;refine wpAny_Call_method m.base m.few m.line eW eT PySem.F.type_dict_get (thn (ho i s b H _ I h) ?_);refine fun u q=>faf fun x M=>fab fun j v=>fL fun a=>fab fun k d B=>?_;subst k;obtain rfl:u=IP a:=v;refine eao (Cb j d) fun n l _=>?_;refine⟨n,l,?_⟩;rw[m.trees];refine JJ rfl (Calls.evalArgs_plain (JF (thn (E i q b M _ j B) fun S p ⟨y,L,J,t,A⟩=>
  JF (thn (D i p b L _ J A) fun T P ⟨z,K,G,r,R,g,w⟩=>Calls.spliced_nil ?_))));exact Ff C G g t r fun N O F c=>(iab _ K F c w)
end
section
variable {X:Cx} {pz:Za} {σ:St} {H:Hp} {s:Zy} {a:Zx} {kvs:List (Key×V)} {A:Zw} {E:Zb}
end
section
variable {X:Cx} {pz:Za} {σ:St} {H:Hp} {s:Zy} {a:Zx} {y:V} {u:Zz} {A:Zw} {E:Zb}
end
end L2.Internal
namespace HT.Internal
open PySem PyProof.Rows
section
open PySem.SeqAt
open PySem.AutoSeq1 (wpAny_loadPart')
open PySem.MeetsSeq PySem.MeetsSeq2 PySem.MeetsSeq3
end
section
variable {prog:Zu} {w:Zv} {A:Zw} {E:Zb} {s:Zy}
def cat_tup{Q:Zb} (u:IsTup s.heap t vs.toArray) (v:IsTup s.heap b ws.toArray) (l:vs≠[])
  (y:ws=[]->Q (.ref t) s) (x:ws≠[]->Q (.ref s.heap.objs.size) {s with heap:=s.heap.push {cls:= .type "tuple",data:= .seq (vs++ws).toArray}})
  (hsz:vs.length+ws.length<=sizeLine):C7 (model prog w) A (Jj .Add (.ref t) (.ref b)) Q E s:=by
 obtain⟨⟨z,p,q,j⟩,h,o,n,m⟩:=id u;obtain⟨⟨r,g,i,c⟩,a,f,k,d⟩:=id v;simp only at o m f d;subst o m f d;have e:vs.toArray++ws.toArray=(vs++ws).toArray:=by simp
 by_cases hw:ws=[]
 ·exact concat_meets ⟨_,h,rfl⟩ ⟨_,a,rfl⟩ noFill_tuple_add seq_tuple_add eZ e8 (fb _ _)
   (tuple_addW1 t b vs.toArray ws.toArray n k p g j c (by simpa using l) (by simp[hw])) ⟨h,a,y hw⟩
 ·refine concat_meets ⟨_,h,rfl⟩ ⟨_,a,rfl⟩ noFill_tuple_add seq_tuple_add eZ e8 (fb _ _)
   (tuple_addW2 t b vs.toArray ws.toArray n k p g j c (by simpa using l) (by simpa using hw) (by rw[ay,ay];exact hsz)) ⟨h,a,?_⟩;rw[e];exact x hw
noncomputable def sIx (n d:Nat):Option Int->Nat
 |none=>d
 |some v=>if v<0 then(v+(n:Int)).toNat else min v.toNat n
def sIx_none (n d:Nat):sIx n d none=d:=rfl
def sIx_nat (n d k:Nat):sIx n d (some (k:Int))=min k n:=by show(if(k:Int)<0 then((k:Int)+(n:Int)).toNat else min (k:Int).toNat n)=min k n;rw[gU (by lia),fO]
end
end HT.Internal
namespace L2.Internal
variable {xs:List V} {v:Zz} {pz:Za} {σ:St} {H:Hp} {its:List Zz}
open PySem PySem.Spec PyProof.Rows
abbrev TO:=St->Hp->(Option Int->Hp->Prop)->Prop
def PO (X:Cx) (e:Option Zr) (t:TO):Prop:=
 ∀(b:Za) (s:Zy) (a:St) (H:Hp) (Q:Option Int->Hp->Prop),Inv X b a H s->t a H Q->
  C7 (model X.prog X.w) X.A (evalPart e X.env) (fun u d=>∃o c,Inv X b a c d/\IsPart u o/\Q o c) X.xe s
def DG:TO:=fun _ H Q=>Q none H
def Hn (t:TE):TO:=fun a H Q=>t a H fun x b=>∃i,x= .int i/\Q (some i) b
def sF:∀{us:List Zz},jh (a.map V.int) us->IntsAre us a:=by
 induction a with
 |nil=>intro us r;rw[aU]at r;cases r;exact .nil
 |cons n a d=>
  intro us r;rw[aB]at r
  cases r with
  |cons c b=>obtain⟨t,e⟩:=c;subst e;exact .cons n t (d b)
section
variable {X:Cx} {e:Zr} {te:TE} {lo hi:Option Zr} {tl th:TO} {pos p2:Pos}
def qK:PO X none DG:=by intro b s a H Q I h;rw[evalPart_none];exact IT (iap none H ⟨I,.none,h⟩)
def qL (h:PE X e te):PO X (some e) (Hn te):=by intro f s a H Q I g;rw[evalPart_some];refine thn (h f s a H _ I g) ?_;refine fun u l=>fad fun x k j c d=>?_;refine eae d fun i b q=>?_;subst b;obtain⟨t,rfl⟩:=c;exact iap (some i) k ⟨j,.int i t,q⟩
def SlR (X:Cx) (r:V->Option Int->Option Int->Hp->VK->Prop):Prop:=
 ∀(e:Za) (s:Zy) (a:St) (H:Hp) (x:V) (v c b:Zz) (f g:Option Int) (d:Zx) (Q:VK),Inv X e a H s->iZ x v->s.heap.IsSliceOf d c b .none->IsPart c f->IsPart b g->r x f g H Q->
  ∃T id,typeLookup (.type T) "__getitem__"=pure (some (.builtin id))/\s.TypeIs v T/\C7 (model X.prog X.w) X.A (getItem v (.ref d)) (EP X e a Q) X.xe s
def tSl (r:V->Option Int->Option Int->Hp->VK->Prop) (c:TE) (b th:TO):TE:=fun a H Q=>c a H fun x f=>b a f fun l e=>th a e fun u d=>r x l u d Q
def oF(A:SlR X r) (D:PE X e te) (B:PO X lo tl) (y:PO X hi th):PE X (.Subscript e (.Slice lo hi none p2) pos) (tSl r te tl th):=by intro d s c H Q I h;refine Subscript_ (thn (D d s c H _ I h) ?_);refine fun v k=>fad fun x M K m p=>?_;refine wpAny_Slice (thn (B d k c M _ K p) fun g j ⟨l,L,J,w,o⟩=>thn (y d j c L _ J o) ?_);refine fun f a=>fad fun u i G t n=>?_;rw[evalPart_none];refine IT ?_;have F:Inv X d c i {a with heap:=a.heap.push {cls:= .type "slice",data:= .fields #[g,f,.none]}}:=G.kept (t':=a.toks) fun b N q=>f7 _ q;refine eal (A d {a with heap:=a.heap.push {cls:= .type "slice",data:= .fields #[g,f,.none]}} c i x v g f l u a.heap.objs.size Q F m (Heap.IsSliceOf.new ..) w t n) fun T id E z C=>?_;show C7 (model X.prog X.w) X.A (subscriptTail e (.Slice lo hi none p2) v (.ref a.heap.objs.size)) (EP X d c Q) X.xe {a with heap:=a.heap.push {cls:= .type "slice",data:= .fields #[g,f,.none]}};exact tail_any (ops:=[.ref a.heap.objs.size,v]) z E C (by with_unfolding_all rfl)
noncomputable def yU (xs:List V) (lo hi:Option Int):List V:=(xs.drop (HT.Internal.sIx xs.length 0 lo)).take (HT.Internal.sIx xs.length xs.length hi-HT.Internal.sIx xs.length 0 lo)
def vD (xs:List V) (lo hi:Option Int):(yU xs lo hi).length<=xs.length:=by unfold yU;rw[aI,aV];lia
def jh.nil_iff {us:List Zz} (r:jh xs us):us=[]↔xs=[]:=by
 cases r with
 |nil=>simp
 |cons _ _=>simp
end
noncomputable def ixN (n:Nat) (i:Int):Option Nat:=if 0<=i then(if i<n then some i.toNat else none)else if-(n:Int)<=i then some (i+n).toNat else none
def atI {a:Type} (xs:List a) (i:Int):Option a:=(ixN xs.length i).bind fun j=>xs[j]?
def yV(h:ixN n i=some j):seqIndex? i n=some j/\j<n/\-(n:Int)<=i/\i<n:=by
 unfold ixN at h;by_cases h0:0<=i
 ·rw[ip h0]at h;by_cases h1:i<n;·rw[ip h1]at h;have e:i.toNat=j:=dj.inj h;exact⟨by rw[seqIndex_of h0 h1,e],by lia,by lia,h1⟩
  ·rw[gU h1]at h;cases h
 ·rw[gU h0]at h;by_cases h1: -(n:Int)<=i;·rw[ip h1]at h;have e:(i+n).toNat=j:=dj.inj h;exact⟨by rw[seqIndex_neg (by lia) h1,e],by lia,h1,by lia⟩
  ·rw[gU h1]at h;cases h
def vE{xs:List α} {v:α} (h:atI xs i=some v):∃j,seqIndex? i xs.length=some j/\xs[j]?=some v/\j<xs.length/\-(xs.length:Int)<=i/\i<xs.length:=by
 unfold atI at h
 cases e:ixN xs.length i with
 |none=>rw[e]at h;cases h
 |some j=>rw[e]at h;refine eaj (yV e) fun d c b a=>?_;exact⟨j,d,h,c,b,a⟩
def gv{xs:List α} {j:Nat} {v:α} (h:xs[j]?=some v):atI xs (j:Int)=some v:=by
 have a:j<xs.length:=(aq.mp h).1;have e:ixN xs.length (j:Int)=some j:=by unfold ixN;rw[ip (by lia),ip (by lia)];simp
 unfold atI;rw[e];exact h
def DH (b:Zr):Prop:=∀o i,subscripted b false o i=operate [o,i] (getItem o i)
def IxR (X:Cx) (r:R2):Prop:=
 ∀(b a:Zr) (d:Za) (s:Zy) (c:St) (H:Hp) (x y:V) (v u:Zz) (Q:VK),Inv X d c H s->iZ x v->iZ y u->r x y H Q->
  subscripted a false v u=operate [v,u] (getItem v u)->C7 (model X.prog X.w) X.A (subscriptTail b a v u) (EP X d c Q) X.xe s
def MtR (X:Cx) (id:String) (r:V->List V->Hp->VK->Prop):Prop:=
 ∀(d:Za) (s:Zy) (a:St) (H:Hp) (x:V) (b:List V) (v:Zz) (c:List Zz) (Q:VK),Inv X d a H s->iZ x v->jh b c->r x b H Q->
  C7 (model X.prog X.w) X.A (call (.builtin id) (v::c)) (EP X d a Q) X.xe s
section
variable {X:Cx} {a b:Zr} {ta tb:TE} {pos:Pos}
def gB {r:R2} (hr:IxR X r) (ha:PE X a ta) (hb:PE X b tb) (hs:DH b:=by exact fun _ _=>rfl):PE X (.Subscript a b pos) (tOp r ta tb):=by intro pz s σ H Q I h;exact Subscript_ (G9 ha hb I h fun v u s2 x y H2 I2 rx ry q=>hr a b pz s2 σ H2 x y v u Q I2 rx ry q (hs _ _))
def rIxL (K:Zp):R2:=fun x y H Q=>∃p a i v,x= .ref p/\y= .int i/\SqL K H p a/\atI a i=some v/\Q v H
def rIxT (K:Zp):R2:=fun x y H Q=>∃p a i v,x= .ref p/\y= .int i/\SqT K H p a/\atI a i=some v/\Q v H
def rIxS:R2:=fun x y H Q=>∃z i c,x= .str z/\y= .int i/\z.length<=sizeLine/\atI z.cps.toList i=some c/\Q (.str ⟨#[c]⟩) H
def DI:IxR X (rIxL X.K):=by
 intro c d m s l H x y v u Q I E D h n;refine eaA h fun p N i z=>fah fun B A F J q=>?_;subst B;subst A;cases E;obtain⟨t,rfl⟩:=D;refine eah (I.list F) fun g r f O=>?_;refine eaF (vE J) fun j=>fah fun b M R L K=>?_;refine eae (r.get M) fun w o e=>?_;have G:=r.length;have P:=sC;have a:EP X m l Q w s:=(iap z H ⟨I,e,q⟩);by_cases h0:0<=i
 ·have k:i.toNat=j:=by rw[seqIndex_of h0 K]at b;exact dj.inj b
  exact item_listR f.isList h0 (by lia) (by rw[k];simpa using o) a n
 ·have k:(i+(g.toArray.size:Int)).toNat=j:=by rw[seqIndex_neg (by lia) L]at b;rw[ay,<-G];exact dj.inj b
  exact subscriptTail_builtinR (x:=w) f.isList.typeIs slot_list_getitem.lookup
   (wpAny_getItem_list_neg (Q:=fun r C=>r=w/\EP X m l Q r C) f.isList (by lia) (by rw[ay]<;>lia) (by lia) (by rw[k];simpa using o) ⟨rfl,a⟩) n
def Fg:IxR X (rIxT X.K):=by
 intro a b f s e H x y v u Q I o n h B;refine eaA h fun p K i z=>fah fun l k C E q=>?_;subst l;subst k;cases o;obtain⟨t,rfl⟩:=n;refine eah (I.tuple C) fun A r g L=>?_;refine eaF (vE E) fun j=>fah fun G F P O N=>?_;refine eae (r.get F) fun w J c=>?_;have D:=r.length;have M:=sC;have d:EP X f e Q w s:=(iap z H ⟨I,c,q⟩);exact subscriptTail_builtinR (x:=w) g.typeIs slot_tuple_getitem.lookup
  (getItem_tuple (j:=j) (Q:=fun r m=>r=w/\EP X f e Q r m) g (by lia) (by lia) (by rw[ay,<-D];exact G) (by simpa using J) ⟨rfl,d⟩) B
def yW:IxR X rIxS:=by
 intro a b D s B H x y v u Q I k g h l;refine eaB h fun z i c=>fah fun f e E n q=>?_;subst f;subst e;obtain⟨t,rfl⟩:=k;obtain⟨C,rfl⟩:=g;refine eaF (vE n) fun j=>fah fun d r G p o=>?_;have m:z.cps.toList.length=z.length:=by simp[Str.length]
 rw[m]at d p o;have F:=sC;exact tail_any (typeIs_str s z t) slot_str_getitem.lookup (getItem_str (c:=c) (by have A:decide (i< -(2^63:Int))=false:=iY (by lia);have w:decide (i≥2^63)=false:=iY (by lia);rw[A,w,Bool.or_false]) (by rw[d];simpa using r) (iab (.str ⟨#[c]⟩) H (I.tok _) ⟨_,rfl⟩ q)) l
def xS (its:List Zz) (n j:Nat) (u:Zz):Jz (·.setIfInBounds j u) {cls:= .type "list",data:= .seq its.toArray n}={cls:= .type "list",data:= .seq (its.set j u).toArray n}:=by simp[Jz]
theorem Inv.lst {b:Za} {a:St} {H:Hp} {s:Zy} {p:Zx} {xs:List V} (I:Inv X b a H s) (h:H p=some (.lst xs)):
  ∃(its:List Zz) (n:Nat),jh xs its/\s.heap.get? p=some {cls:= .type "list",data:= .seq its.toArray n}/\xs.length<=sizeLine:=by refine eaa (I.hok p _ h) fun z its n r e=>?_;exact iap its n ⟨r,e,z⟩
def Inv.lstUpd {s:Zy} {p:Zx} {ys:List V} {its':List Zz} {n a:Nat} {f:Obj->Obj} (I:Inv X pz σ H s) (h:H p=some (.lst xs))
  (ho:s.heap.get? p=some {cls:= .type "list",data:= .seq its.toArray n}) (c:f {cls:= .type "list",data:= .seq its.toArray n}={cls:= .type "list",data:= .seq its'.toArray a}) (r:jh ys its') (d:ys.length<=sizeLine) (t:Nat):
  Inv X pz σ (upd H p (.lst ys)) {s with heap:=s.heap.update p f,toks:=t}:=by
 have e:(s.heap.update p f).get? p=some {cls:= .type "list",data:= .seq its'.toArray a}:=by rw[gf f ho (by rw[c]<;>rfl),c]
 refine I.write (x:=p) (e:=p) (by rw[h];trivial) (.inl rfl) (fun b u g q=>(gh _ _ (IU g)).trans q) ⟨_,e⟩ ?_;exact⟨d,its',a,r,e⟩
def Fh:V->V->V->Hp->(Hp->Prop)->Prop:=fun o i v H Q=>∃p a k j,o= .ref p/\i= .int k/\H p=some (.lst a)/\ixN a.length k=some j/\Q (upd H p (.lst (a.set j v)))
def qv:Iw X Fh:=by
 intro D s w H o i v G J u Q I B C A h;refine eaA h fun p z k j=>fah fun y x f F q=>?_;subst y;subst x;cases B;obtain⟨t,rfl⟩:=C;refine eal (I.lst f) fun a n r c E=>?_;refine eaj (yV F) fun b L l g=>?_;have d:=r.length;have K:=sC;have m:Inv X D w (upd H p (.lst (z.set j v))) {s with heap:=s.heap.update p (Jz (·.setIfInBounds j u))}:=
  I.lstUpd f c (xS a n j u) (r.set A j) (by rw[List.length_set];exact E) s.toks;by_cases h0:0<=k
 ·have e:k.toNat=j:=by rw[seqIndex_of h0 g]at b;exact dj.inj b
  exact PySem.W.ki_setAt c h0 (by lia) (by rw[ay,<-d];exact g) (by rw[e];exact⟨_,m,q⟩)
 ·have e:(k+(a.toArray.size:Int)).toNat=j:=by rw[seqIndex_neg (by lia) l]at b;rw[ay,<-d];exact dj.inj b
  exact PySem.W.ki_setBack c (by lia) (by rw[ay,<-d];exact l) (by lia) (by rw[e];exact⟨_,m,q⟩)
def uE (lo hi:Option Int) (n:Nat):(JP lo hi none n).1=((HT.Internal.sIx n 0 lo:Nat):Int)/\(JP lo hi none n).2.1=((HT.Internal.sIx n n hi:Nat):Int)/\(JP lo hi none n).2.2=1:=by
 refine⟨?_,?_,rfl⟩
 ·cases lo with
  |none=>simp[JP,HT.Internal.sIx]
  |some i=>
   simp only[JP,HT.Internal.sIx,Option.getD_none,show(1:Int)>0 by decide,if_true];by_cases h:i<0;·simp only[h,if_true]<;>lia
   ·simp only[h,if_false]<;>lia
 ·cases hi with
  |none=>simp[JP,HT.Internal.sIx]
  |some i=>
   simp only[JP,HT.Internal.sIx,Option.getD_none,show(1:Int)>0 by decide,if_true];by_cases h:i<0;·simp only[h,if_true]<;>lia
   ·simp only[h,if_false]<;>lia
def tD (its:List Zz) (lo hi:Option Int):slicePick its.toArray lo hi none=((its.drop (HT.Internal.sIx its.length 0 lo)).take (HT.Internal.sIx its.length its.length hi-HT.Internal.sIx its.length 0 lo)).toArray:=by refine eao (uE lo hi its.toArray.size) fun c b a=>?_;unfold slicePick;rw[c,b,a];simp only[sliceRange_one,pick_run,ay]<;>rfl
def rSlL (K:Zp):V->Option Int->Option Int->Hp->VK->Prop:=fun x c d H Q=>∃a b,x= .ref a/\SqL K H a b/\∀p,H p=none->Q (.ref p) (upd H p (.lst (yU b c d)))
def vF:SlR X (rSlL X.K):=by intro A s u H x v y w e f z Q I j t l k h;refine eal h fun a c i p q=>?_;subst i;cases j;refine eah (I.list p) fun m r g n=>?_;have d:=r.length;refine iab ("list") _ slot_list_getitem.lookup g.isList.typeIs ?_;refine wpAny_getItem_list_slice g.isList t l k .none (by simp) ?_ (by rw[ay]<;>lia);rw[tD,<-d];refine iab (.ref s.heap.objs.size) _ (I.laid (t':=s.toks) (o:= .lst (yU c e f)) (fun b B q=>f7 _ q) (cN _) ?_) rfl (q _ (I.hok.fresh (cN _)));exact⟨cJ (vD c e f) n,_,0,(r.drop (HT.Internal.sIx c.length 0 e)).take (HT.Internal.sIx c.length c.length f-HT.Internal.sIx c.length 0 e),f6 _ rfl⟩
noncomputable def qj:V->Bool
 | .non=>true
 | .bl _=>true
 | .int _=>true
 | .str _=>true
 |_=>false
noncomputable def eqV:V->V->Bool
 | .non,.non=>true
 | .bl a,.bl b=>a==b
 | .bl a,.int b=>(if a then 1 else 0)==b
 | .int a,.bl b=>a==(if b then 1 else 0)
 | .int a,.int b=>a==b
 | .str a,.str b=>a==b
 |_,_=>false
def yX(e:iZ y u) (c:iZ x v) (g:qj y=true) (f:qj x=true):JZ A s u v (eqV y x):=by
 cases y with
 |non=>
  cases e
  cases x with
  |non=>cases c;exact SeqAt.EqAt.same _
  |bl b=>cases c;exact SeqAt.EqAt.none_bool b
  |int b=>obtain⟨t,rfl⟩:=c;exact SeqAt.EqAt.none_int b t
  |str b=>obtain⟨t,rfl⟩:=c;exact SeqAt.EqAt.none_str b t
  |_=>exact absurd (show false=true from f) fq
 |bl a=>
  cases e
  cases x with
  |non=>cases c;exact SeqAt.EqAt.bool_none a
  |bl b=>cases c;exact SeqAt.EqAt.bool_bool a b
  |int b=>obtain⟨t,rfl⟩:=c;exact SeqAt.EqAt.bool_int a b t
  |str b=>obtain⟨t,rfl⟩:=c;exact SeqAt.EqAt.bool_str a b t
  |_=>exact absurd (show false=true from f) fq
 |int a=>
  obtain⟨d,rfl⟩:=e
  cases x with
  |non=>cases c;exact SeqAt.EqAt.int_none a d
  |bl b=>cases c;exact SeqAt.EqAt.int_bool a d b
  |int b=>obtain⟨t,rfl⟩:=c;exact SeqAt.EqAt.int_int a d b t
  |str b=>obtain⟨t,rfl⟩:=c;exact SeqAt.EqAt.int_str a d b t
  |_=>exact absurd (show false=true from f) fq
 |str a=>
  obtain⟨d,rfl⟩:=e
  cases x with
  |non=>cases c;exact SeqAt.EqAt.str_none a d
  |bl b=>cases c;exact SeqAt.EqAt.str_bool a d b
  |int b=>obtain⟨t,rfl⟩:=c;exact SeqAt.EqAt.str_int a d b t
  |str b=>obtain⟨t,rfl⟩:=c;exact SeqAt.EqAt.str_str a d b t
  |_=>exact absurd (show false=true from f) fq
 |_=>exact absurd (show false=true from g) fq
noncomputable def eqU (x:V) (u:Zz):Bool:=match u with
 | .none=>eqV .non x
 | .bool b=>eqV (.bl b) x
 | .int i _=>eqV (.int i) x
 | .str z _=>eqV (.str z) x
 |_=>false
def Cc(r:iZ y u) (f:qj y=true):eqU x u=eqV y x:=by
 cases y with
 |non=>cases r;rfl
 |bl b=>cases r;rfl
 |int i=>obtain⟨t,rfl⟩:=r;rfl
 |str z=>obtain⟨t,rfl⟩:=r;rfl
 |_=>exact absurd (show false=true from f) fq
theorem vG:∀{xs:List V} {us:List Zz},jh xs us->xs.all qj=true->us.any (eqU x)=xs.any fun y=>eqV y x
 |_,_,.nil,_=>rfl
 |y::xs,u::us,.cons r t,f=>by rw[aW,fu]at f;rw[aR,aR,Cc r f.1,vG t f.2]
theorem tE(a:iZ x v) (b:qj x=true):∀{xs:List V} {us:List Zz},jh xs us->xs.all qj=true->∀u∈us,JZ A s u v (eqU x u)
 |_,_,.nil,_=>fun u hu=>by cases hu
 |y::xs,u::us,.cons r t,f=>fun c hu=>by
  rw[aW,fu]at f;rcases aj.mp hu with rfl|hu;·rw[Cc r f.1];exact yX r a f.1 b
  ·exact tE a b t f.2 c hu
def inV (x:V) (xs:List V):Bool:=xs.any fun y=>eqV y x
def rIn (K:Zp) (b:Bool):R2:=fun x y H Q=>∃p a,y= .ref p/\(SqL K H p a\/SqT K H p a)/\qj x=true/\a.all qj=true/\Q (.bl (if b then !inV x a else inV x a)) H
def oG:OpR X (Jf .In) (rIn X.K false):=by
 intro m s k H x y v u Q I e i h;refine eap h fun p l g hq f b q=>?_;subst g;cases i;rcases hq with hq|hq;·refine eah (I.list hq) fun a r c j=>?_;refine SeqAt.in_listAt (eqU x) c.isList (fun w d=>tE e f r b w (by simpa using d)) (iap (.bl _) H ⟨I,rfl,?_⟩);rw[show a.toArray.any (eqU x)=a.any (eqU x) by simp,vG r b];exact q
 ·refine eah (I.tuple hq) fun a r c j=>?_;refine SeqAt.in_tupleAt (eqU x) c (fun w d=>tE e f r b w (by simpa using d)) (iap (.bl _) H ⟨I,rfl,?_⟩);rw[show a.toArray.any (eqU x)=a.any (eqU x) by simp,vG r b];exact q
def g9:oE X (.builtin "len") (fun g H Q=>∃p b,g=[.ref p]/\(SqL X.K H p b\/SqT X.K H p b)/\Q (.int b.length) H):=by
 intro m s k H g l Q I r h;refine eaH h fun p b c hq q=>?_;subst c;refine eax (qi r) fun u c i=>?_;subst c;cases i;have n:=sC;rcases hq with hq|hq;·refine eaE (I.list hq) fun f d e j=>?_;have a:=d.length;exact Calls.call_len_list e.isList (by simp only[ay]<;>lia) (iap (.int b.length) H (⟨I.tok _,⟨s.toks+ 1,by rw[ay,a]⟩,q⟩))
 ·refine eaE (I.tuple hq) fun f d e j=>?_;have a:=d.length;exact len_tuple e (by simp only[ay]<;>lia) (iap (.int b.length) H (⟨I.tok _,⟨s.toks+ 1,by rw[ay,a]⟩,q⟩))
def k9:oE X (.type "list") (fun z H Q=>∃p d,z=[.ref p]/\(SqL X.K H p d\/SqT X.K H p d)/\∀l,H l=none->Q (.ref l) (upd H l (.lst d))):=by
 intro D s B H z E Q I r h;refine eal h fun p d t hq q=>?_;subst t;refine eae (qi r) fun u t C=>?_;subst t;cases C;have m:∀(a:List Zz),jh d a->d.length<=sizeLine->∀(c:Zt) (g:Nat),(∀b A,s.heap.get? b=some A->c.get? b=some A)->
   c.get? s.heap.objs.size=some {cls:= .type "list",dict:=none,data:= .seq a.toArray g,slots:=#[]}->EP X D B Q (.ref s.heap.objs.size) {s with heap:=c}:=fun a f j c g i e=>
  (iap (.ref s.heap.objs.size) _ (⟨I.laid (t':=s.toks) i (cN _) (show jm X.prog X.w _ c _ (.lst d)from⟨j,a,g,f,e⟩),rfl,q _ (I.hok.fresh (cN _))⟩));rcases hq with hq|hq;·refine eah (I.list hq) fun a f v j=>?_;have k:=f.length;refine eaF v.isList fun o=>fab fun w y=>fL fun n x=>?_;exact call_list_seq p (.inl rfl) w y x (fun c g i e=>m a f j c g i e) (by simp only[ay]<;>lia)
 ·refine eah (I.tuple hq) fun a f v j=>?_;have k:=f.length;refine eaF v fun o=>fab fun w y=>fL fun n x=>?_;exact call_list_seq p (.inr rfl) w y x (fun c g i e=>m a f j c g i e) (by simp only[ay]<;>lia)
def iG:oE X (.type "tuple") (fun k H Q=>∃p c,k=[.ref p]/\((SqL X.K H p c/\∀l,H l=none->Q (.ref l) (upd H l (.tup c)))\/(SqT X.K H p c/\Q (.ref p) H))):=by
 intro m s j H k A Q I r h;obtain⟨p,c,rfl,h⟩:=h;refine eae (qi r) fun u w x=>?_;subst w;cases x;rcases h with⟨i,q⟩|⟨i,q⟩
 ·refine eah (I.list i) fun a f g n=>?_;have t:=f.length;refine call_tuple_list g.isList (fun d y=>?_) (by simp only[ay]<;>lia);have v:Inv X m j H {s with heap:=d}:=I.kept (t':=s.toks) y;have z:Inv X m j (upd H d.objs.size (.tup c)) {s with heap:=d.push {cls:= .type "tuple",data:= .seq a.toArray}}:=
   v.laid (t':=s.toks) (fun b o e=>f7 _ e) (cN _) (show jm X.prog X.w _ _ _ (.tup c)from⟨n,a,f,xG.new _ _⟩);exact iap (.ref d.objs.size) _ ⟨z,rfl,q _ (v.hok.fresh (cN _))⟩
 ·refine eah (I.tuple i) fun a f g n=>?_;exact call_tuple_same g (iap (.ref p) H ⟨I,rfl,q⟩)
def tyV (K:Zp) (T:String) (x:V) (H:Hp):Prop:=match x with
 | .str _=>T="str"
 | .int _=>T="int"
 | .ref p=>(T="list"/\∃b,SqL K H p b)\/(T="tuple"/\∃o,K.lookup p=some o/\o.cls= .type "tuple"/\o.dict=none)\/
   (T="dict"/\((∃a,H p=some (.dK a))\/∃a,H p=some (.dT a)))\/(T="set"/\∃S n,H p=some (.set S n))
 |_=>False
def Cd(I:Inv X pz σ H s) (r:iZ x v) (f:tyV X.K T x H):
  s.TypeIs v T/\∀a,v= .ref a->∃l,s.heap.get? a=some l/\l.dict=none:=by
 cases x with
 |str z=>obtain⟨t,rfl⟩:=r;cases(show T="str" from f);exact⟨typeIs_str s z t,fun _ e=>nomatch e⟩
 |int i=>obtain⟨t,rfl⟩:=r;cases(show T="int" from f);exact⟨typeIs_int s i t,fun _ e=>nomatch e⟩
 |ref p=>
  cases r;rcases f with⟨rfl,w,q⟩|⟨rfl,o,b,u,h⟩|⟨rfl,b⟩|⟨rfl,S,n,b⟩;·refine eah (I.list q) fun m _ k _=>?_;refine⟨k.isList.typeIs,fun a e=>?_⟩;cases e;refine eak k fun o n e c h _=>?_;exact⟨o,e,h⟩
  ·refine⟨⟨o,I.kIn p o b,u⟩,fun a e=>?_⟩;cases e;exact⟨o,I.kIn _ o b,h⟩
  ·have z:∃o,s.heap.get? p=some o/\o.ExactDict:=by
    rcases b with⟨g,b⟩|⟨g,b⟩;·refine eaz (I.hok p _ b) fun _ _=>fL fun _=>f8 fun _=>faa fun o _ _=>fab fun e d _=>?_;exact⟨o,e,d⟩
    ·refine eaz (I.hok p _ b) fun _ _=>fL fun _=>f8 fun _=>faa fun o _ _=>fab fun e d _=>?_;exact⟨o,e,d⟩
   refine eae z fun o e d=>?_;refine⟨⟨o,e,d.1⟩,fun a j=>?_⟩;cases j;exact⟨o,e,d.2.1⟩
  ·refine eaA (I.hok p _ b) fun o _ _ _=>fab fun e d _=>?_;refine⟨⟨o,e,d.1⟩,fun a j=>?_⟩;cases j;exact⟨o,e,d.2.1⟩
 |_=>exact IX f
def tBM0 (K:Zp) (T:String) (r:V->List V->Hp->VK->Prop) (c:TE):TE:=fun b H Q=>c b H fun x a=>tyV K T x a/\r x [] a Q
def tBM (K:Zp) (T:String) (r:V->List V->Hp->VK->Prop) (d:TE) (t:TA):TE:=fun a H Q=>d a H fun x b=>tyV K T x b/\t a b fun c e=>r x c e Q
variable {o e:Zr} {es:List Zr} {to:TE} {t:TA} {name:Str} {apos cpos:Pos} {T id:String} {r:V->List V->Hp->VK->Prop}
def Ce (m:PlainAttrs T) (c:Slot T name id) (d:typeOf (.builtin id)=pure (.type "method_descriptor")) (n:MtR X id r) (ho:PE X o to)
  (b:autoParam (JE o name X.env (eval o X.env)=eval o X.env) auR._auto_1) (a:autoParam ((apos.endLine==cpos.line)=true) auR._auto_1):PE X (.Call (.Attribute o name apos) [] [] cpos) (tBM0 X.K T r to):=by intro g s e H Q I h;refine wpAny_Call_method0_late b a (thn (ho g s e H _ I h) ?_);refine fun v k=>faf fun x t=>fac fun i f j l=>?_;obtain⟨q,p⟩:=Cd i f j;exact iap T id ⟨m,c,d,q,p,JJ rfl (PySem.evalArgs_none (n g k e t x [] v [] Q i f .nil l))⟩
def lB (pa:PlainAttrs T) (slot:Slot T name id) (hty:typeOf (.builtin id)=pure (.type "method_descriptor")) (hm:MtR X id r) (ho:PE X o to) (ha:PA X (e::es) t)
  (hbase:autoParam (JE o name X.env (eval o X.env)=eval o X.env) auR._auto_1)
  (hfew:((Jo cpos (IQ (e::es) X.env)).all (fun x=>!x.1)&&(backToKw cpos (JO [] X.env)).all (fun x=>x.1.isSome)
   &&decide ((e::es).length+([]:List Keyword).length+(if([]:List Keyword).isEmpty then 0 else 1)<30))=true:=by rfl)
  (hline:autoParam ((apos.endLine==cpos.line)=true) auR._auto_1) (hs:autoParam (IQ (e::es) X.env=(false,eval e X.env)::IQ es X.env) auR._auto_1) (hplain:autoParam ((Jo cpos (IQ es X.env)).any (·.1)=false) auR._auto_1):
  PE X (.Call (.Attribute o name apos) (e::es) [] cpos) (tBM X.K T r to t):=by intro pz s σ H Q I h;refine wpAny_Call_method_late hbase hfew hline rfl (thn (ho pz s σ H _ I h) ?_);refine fun v s1=>faf fun x H1=>fac fun I1 r1 ty q1=>?_;obtain⟨h1,h2⟩:=Cd I1 r1 ty;refine iap T id ⟨pa,slot,hty,h1,h2,?_⟩;have hA:=ha cpos pz s1 σ H1 _ I1 q1;rw[hs]at hA⊢;refine JJ (by show(false||(Jo cpos (IQ es X.env)).any (·.1))=false;rw[hplain]<;>rfl) (Calls.evalArgs_plain ?_);exact thn hA fun us s2 ⟨vs,H2,I2,r2,q2⟩=>hm pz s2 σ H2 x vs v us Q I2 r1 r2 q2
end
def MtM (X:Cx) (id:String) (r:V->List V->Hp->VK->Prop):Prop:=
 ∀(d:Za) (s:Zy) (a:St) (H:Hp) (x:V) (b:List V) (v:Zz) (c:List Zz) (Q:VK),Inv X d a H s->iZ x v->jh b c->r x b H Q->
  C7 (model X.prog X.w) X.A (call (.builtin id) (v::c)) (EP X d a Q) X.xe s
def jh.one:∀{x:V} {us:List Zz},jh [x] us->∃u,us=[u]/\iZ x u
 |_,_,.cons r .nil=>⟨_,rfl,r⟩
def jh.zero:∀{us:List Zz},jh [] us->us=[]
 |_,.nil=>rfl
theorem jh.dropLast {us:List Zz} (h:jh xs us):jh xs.dropLast us.dropLast:=by
 induction h with
 |nil=>exact .nil
 |cons r t a=>
  cases t with
  |nil=>exact .nil
  |cons q b=>exact .cons r a
def xT {c:Type} (l:List c):l.eraseIdx (l.length-1)=l.dropLast:=by
 induction l with
 |nil=>rfl
 |cons a r d=>
  cases r with
  |nil=>rfl
  |cons b r=>
   have e:(a::b::r).length-1=((b::r).length-1)+ 1:=by have g:(a::b::r).length=r.length+ 2:=rfl;have f:(b::r).length=r.length+ 1:=rfl;lia
   rw[e,List.eraseIdx_cons_succ,d];all_goals rfl
section
variable {X:Cx} {pz:Za} {σ:St} {H:Hp} {s:Zy} {l b:Zx} {xs ys zs:List V}
def Inv.lset {its':List Zz} {n:Nat} {f:Array Zz->Array Zz} {t':Nat} (I:Inv X pz σ H s) (h:H l=some (.lst xs))
  (e:s.heap.get? l=some {cls:= .type "list",data:= .seq its.toArray n}) (d:f its.toArray=its'.toArray) (b:jh ys its') (a:ys.length<=sizeLine):
  Inv X pz σ (upd H l (.lst ys)) {s with heap:=s.heap.update l (Jz f),toks:=t'}:=by have q:=PySem.IsL.update e f;rw[d]at q;refine I.write (x:=l) (e:=l) (by rw[h];exact trivial) (.inl rfl) (fun i u g c=>(gh s.heap (Jz f) (IU g)).trans c) ⟨_,q⟩ ?_;exact⟨a,its',_,b,q⟩
def Inv.lnew {t':Nat} (I:Inv X pz σ H s) (b:jh ys its) (a:ys.length<=sizeLine):
  Inv X pz σ (upd H s.heap.objs.size (.lst ys)) {s with heap:=s.heap.push {cls:= .type "list",data:= .seq its.toArray},toks:=t'}:=
 I.laid (fun _ _ q=>f7 _ q) (cN _) ⟨a,its,0,b,f6 _ rfl⟩
theorem Inv.fresh (I:Inv X pz σ H s):H s.heap.objs.size=none:=I.hok.fresh (cN _)
def Inv.lstM (I:Inv X pz σ H s) (a:H l=some (.lst xs)):xs.length<=sizeLine/\∃(its:List Zz) (n:Nat),jh xs its/\xs.length=its.length/\s.heap.get? l=some {cls:= .type "list",data:= .seq its.toArray n}:=by refine eaa (I.hok l _ a) fun z its n r e=>?_;exact⟨z,its,n,r,r.length,e⟩
end
section
variable {X:Cx}
def yY:V->List V->Hp->VK->Prop:=fun x b H Q=>∃l a y,x= .ref l/\b=[y]/\H l=some (.lst a)/\a.length<sizeLine/\Q .non (upd H l (.lst (a++[y])))
def iu:MtM X "list.append" yY:=by intro p s j H x m v o Q I f g h;refine eaB h fun l k y=>fah fun b d c t q=>?_;subst b;subst d;cases f;refine eae g.one fun u b i=>?_;subst b;refine eay (I.lstM c) fun z=>faf fun a n=>fab fun r w e=>?_;refine call_meets F.slot_list_append ⟨_,e,rfl⟩ F.entry_list_append (F.args_list_append_2 _ _) (PySem.list_append l a.toArray n u (by rw[ay];lia)) ⟨e,?_⟩;refine iap .non _ ⟨I.lset (its':=a++[u]) c e (by simp) (r.append (.cons i .nil)) ?_,rfl,q⟩;rw[aO,aX];lia
def rPop:V->List V->Hp->VK->Prop:=fun x b H Q=>∃l a y,x= .ref l/\b=[]/\H l=some (.lst a)/\a[a.length-1]?=some y/\Q y (upd H l (.lst a.dropLast))
def Cf:MtM X "list.pop" rPop:=by
 intro C s t H x A v B Q I i j h;refine eaB h fun l w y=>fah fun g f d m q=>?_;subst g;subst f;cases i;have c:=j.zero;subst c;refine eay (I.lstM d) fun z=>faf fun a n=>fab fun r p e=>?_;refine eae (r.get m) fun u o k=>?_;have b:a.toArray[a.toArray.size-1]?=some u:=by show a.toArray[a.length-1]?=some u;rw[<-fD,<-p];exact o
 refine call_meets F.slot_list_pop ⟨_,e,rfl⟩ F.entry_list_pop (F.args_list_pop_1 _) (MeetsSeq.list_pop_last l a.toArray n u b (by rw[ay];lia)) ⟨e,?_⟩;refine iap y _ ⟨I.lset (its':=a.dropLast) d e ?_ r.dropLast ?_,k,q⟩;·show a.toArray.eraseIdxIfInBounds (a.toArray.size-1)=a.dropLast.toArray;rw[ay,List.eraseIdxIfInBounds_toArray,xT]
 ·rw[aY];lia
def rCat:R2:=fun x y H Q=>∃l b c a,x= .ref l/\y= .ref b/\H l=some (.lst c)/\H b=some (.lst a)/\c.length+a.length<=sizeLine/\∀p,H p=none->Q (.ref p) (upd H p (.lst (c++a)))
def p9:OpR X (Jj .Add) rCat:=by
 intro D s w H x y v u Q I i g h;refine eaA h fun l b C A=>fag fun f d m o F q=>?_;subst f;subst d;cases i;cases g;refine eay (I.lstM m) fun z=>faf fun c n=>fab fun r G e=>?_;refine eay (I.lstM o) fun B=>faf fun a E=>fab fun j k t=>?_;refine PySem.P.add_list e t ?_ (by rw[ay,ay];lia);have p:c.toArray++a.toArray=(c++a).toArray:=by simp
 rw[p];exact iap (.ref _) _ ⟨I.lnew (t':=s.toks) (r.append j) (by rw[aO];lia),rfl,q _ I.fresh⟩
end
section
variable {prog:Zu} {w:Zv} {A:Zw} {E:Zb} {s:Zy}
end
section
variable {X:Cx}
end
end L2.Internal
namespace Att.Internal
open PySem PySem.W PySem.Calls PyProof.Rows
def qM:∀(c:List Int) (vs:List Zz),WellAll P h vs (c.map WData.int)->IntsAre vs c:=by
 intro c
 induction c with
 |nil=>intro vs w;rw[aU]at w;cases w;exact .nil
 |cons n c d=>
  intro vs w;rw[aB]at w
  cases w with
  |cons a b=>cases a;exact .cons _ _ (d _ b)
def yZ{l:OpenLaw} (w:l.most=some n)
  (c:l.row.toRowW.claim.pre args=true) (k:WellAll P h vals args):
  ∃a o b,vals=[IP a]/\args=[WData.list (b.map WData.int)]/\h.get? a=some {cls:= .type "list",data:= .seq o.toArray}/\IntsAre o b/\b.length<=n:=by
 have m:WShape.hasAll [] args [.list .int]=true:=(pre_splitW c).1;have p:l.pre.holds [] {args:=args}=true:=(pre_splitW c).2;refine eal (hasAllW_cons m) fun d r j z y=>?_;subst j;obtain rfl:=hasAllW_nil y;refine eae (hasW_list z) fun A j x=>?_;subst j;obtain⟨b,rfl⟩:=items_int x;have e:b.length<=n:=by
  unfold OpenLaw.pre at p;have i:(WTm.not (.lt (.lit (.int (n:Int))) (.len (.arg 0)))).holds [] {args:=[.list (b.map .int)]}=true:=by have i:=(holds_andW p).1;rw[w]at i;exact i
  have g:=condW_of i (w_not (w_lt w_lit (w_len_list (w_arg rfl))));rw[aC]at g;refine Nat.le_of_not_lt fun q=>?_;have u:(n:Int)<((b.length:Nat):Int):=by lia
  first
   |(rw[jo u]at g;exact absurd g (by decide))
   |(simp at g;lia)
 cases k with
 |cons t s=>
  cases s
  cases t with
  |list v f=>exact iah _ _ b rfl rfl v (qM b _ f) e
def y0 (l:OpenLaw) (a:List WData):l.row.toRowW.claim.post a (.bool true) a=true:=
 postW_of (r:=l.row.toRowW) (X:=(true==true))
  (show WShape.has [] (.bool true) .bool=true by first|rfl|decide|simp[WShape.has,WShape.arms,WShape.armsAll])
  (show(WTm.eq .res (.lit (.bool true))).value [] {args:=a,res:=some (.bool true),after:=a}=some (.bool (true==true))from w_eq_bool (w_res rfl) w_lit) rfl
def attach_call{l:OpenLaw} {e:Zd}
  (Q:l.most=some n) (E:d.params.defaults=[])
  (p:∀(w:Zv) (c b:Zy) (v B:Zc) (m:Zx) (o:Obj) (A y h:Zz) (a:Zx) (vs:List Zz) (u:List Int),
   Ground q e [] XP w c v B b.heap->YP w b.heap->
   b.heap.get? m=some o->o.data= .func (docDef d.name d.params d.body d.scope A y h)->b.heap.CodeRec y d.name->v d.name=some (.ref m)->
   b.heap.get? a=some {cls:= .type "list",data:= .seq vs.toArray}->IntsAre vs u->u.length<=n->b.gens=#[]->
   codeAny (model l.prog w) callerA (.call (.ref m) ⟨[.ref a],[]⟩) (fun r t=>r= .ok (.ret (.bool true))/\OldK b.heap t.heap/\t.os=b.os/\AllBare t.gens) b):
  WalkO q e XP YP l.row.toRowW d [] (fun f vs=>PySem.call f vs):=by intro w c b v B G Y m o A y h Z M P U F J D T K H as i I N C S;obtain rfl:Z= .none:=Dflts.none J E;obtain rfl:M= .none:=Dflts.noKw J;refine eaB (yZ Q i C) fun a vs u=>fah fun z L j g k=>?_;subst z;subst L;refine enter_call (codeAny_mono (p w c b v B m o A y h a vs u G Y P (fd_plain U) F D j g k T) fun r t O=>?_);refine eaj O fun z X W V=>?_;subst z;exact⟨.inl (iah (.bool true) (.bool true) ([]) rfl (fun _=>rfl) (.bool true) (y0 l _) (fun _=>⟨List.Pairwise.nil,fun _ R=>(nomatch R)⟩)),X,W,V⟩
section
variable {prog:Zu} {w:Zv} {A:Zw} {E:Zb} {s:Zy} {K:Frag}
end
end Att.Internal
namespace L2.Internal
variable {X:Cx} {qual:Str} {f:Zx} {N:Zd} {pos:Pos} {H:Hp} {xs:List V} {scope:Scope}
open PySem PySem.Spec PyProof.Rows
theorem uF:∀{vs:List Zz} {a:List Int},IntsAre vs a->jh (a.map V.int) vs
 |_,_,.nil=> .nil
 |_,_,.cons n t h=> .cons ⟨t,rfl⟩ (uF h)
def Ho (H:Hp):Prop:=∀b,H b=none\/∃o a,H b=some (.frz o (.lst a))
def A7{K:Zp} {y O:Zc}
  (KX:K.In s₁.heap) (D:s₁.heap.Ns C8 y) (f:s₁.heap.Ns builtinsNs O) (S:∀x:Str,x≠"__name__"->O x=IZ x) (E:s₁.heap.NoLimit) (hg:s₁.gens=#[])
  (M:s₁.heap.get? a=some {cls:= .type "list",data:= .seq vs.toArray}) (hi:IntsAre vs ns) (Y:ns.length<=sizeLine) (hr:mC k callerA)
  (F:∀i:Zt,K.In i->i.Ns C8 y->rN P w K y i CX k fa fd [x] sp) (p:∀(s:Zy) (u:Zz),BindsTo s fd ⟨[u],[]⟩ [(x,u)])
  (Q:∀H:Hp,Ho H->SqL K H a (ns.map V.int)->sp [.ref a] H (fun v _=>v= .bl true) fun _ _ _=>False)
  (T:∀H e g,CX [] H s₁ (fun _ _ _=>False) e g->False):
  codeAny (model P w) callerA (.call (.ref fa) ⟨[.ref a],[]⟩) (fun r g=>r= .ok (.ret (.bool true))/\OldK s₁.heap g.heap/\g.os=s₁.os/\AllBare g.gens) s₁:=by
 have X:=uF hi;have A:=hi.length;have l:∀H:Hp,Ho H->SqL K H a (ns.map V.int)->HOk P w H s₁.heap->(∀b,H b≠none->b=a)->(H a≠none->K.lookup a=none)->
   codeAny (model P w) callerA (.call (.ref fa) ⟨[.ref a],[]⟩) (fun r g=>r= .ok (.ret (.bool true))/\OldK s₁.heap g.heap/\g.os=s₁.os/\AllBare g.gens) s₁:=by
  intro H Z hS C hA hK;have c:∀{b:Zx} {o:Obj},s₁.heap.get? b=some o->H b=none->(AZ s₁.heap H).get? b=some o:=fun e n=>A1 e n;have N:∀{b:Zx} {o:Obj} {I:Array DictEntry} {J:Nat},s₁.heap.get? b=some o->o.data= .dict I J->H b=none:=fun{b o I J} e d=>by
   cases q:H b with
   |none=>rfl
   |some u=>have U:b=a:=hA b (by rw[q];simp);subst U;rw[M]at e;cases e;have d':Data.seq vs.toArray _=Data.dict I J:=d;cases d'
  have j:∀{b:Zx} {m:Zc},s₁.heap.Ns b m->(AZ s₁.heap H).Ns b m:=fun{b m} ⟨o,I,J,e,d,r⟩=>(iar o I J ⟨c e (N e d),d,r⟩);have G:K.In (AZ s₁.heap H):=fun b o e=>c (KX b o e) (by
   cases q:H b with
   |none=>rfl
   |some u=>have U:b=a:=hA b (by rw[q];simp);subst U;rw[hK (by rw[q];simp)]at e;cases e);have hM:Mod K y (AZ s₁.heap H):=⟨G,j D,⟨O,j f,S⟩,let⟨mc,h1,h2⟩:=E;⟨mc,j h1,h2⟩⟩;have e0:DE P w K y (AZ s₁.heap H) callerA [] s₁ H:=⟨rfl,hM,fun b o e=>Dr e,cP (yw _ _),trivial,fun b f=>absurd (show b∈([]:List Zx)from f) (by simp),C,.of_eq hg⟩;refine codeAny_mono ((F _ G (j D)).run callerA [] s₁ H ⟨[.ref a],[]⟩ [.ref a] [.ref a] _ _ hr e0 (p s₁ (.ref a)) (.cons rfl .nil) (Q H Z hS)) fun r g h=>?_
  cases r with
  |error e=>exact(T H e g h).elim
  |ok fl=>
   cases fl with
   |next=>exact IX h
   |brk=>exact IX h
   |cont=>exact IX h
   |ret u=>
    refine eaD h fun v H'=>fag fun os L W B r' q=>?_;have q':v= .bl true:=q;subst q';obtain rfl:u=Jn true:=r';refine⟨rfl,OldK.of_keep fun b o e=>?_,os,L⟩
    cases q:H b with
    |none=>exact W.keep b o e q (by intro z;exact absurd (show b∈([]:List Zx)from z) (by simp)) (by simp)
    |some u=>
     rcases Z b with z|⟨ob,xs,z⟩;·rw[q]at z;cases z
     ·have z2:=W.frzs b ob _ z;obtain⟨e1,_⟩:=C b _ z;obtain⟨e2,_⟩:=B b _ z2;rw[e]at e1;cases e1;exact e2
 cases R:K.lookup a with
 |some o=>have e:=KX a o R;rw[M]at e;cases e;refine l (fun _=>none) (fun _=> .inl rfl) (.inr (iar _ vs.toArray _ ⟨R,rfl,rfl,rfl,by rw[ay,A];exact Y,by simpa using X⟩)) (fun b u z=>by have t:(none:Option HO)=some u:=z;cases t) (fun b z=>absurd rfl z) fun z=>absurd rfl z
 |none=>
  refine l (fun b=>if b=a then some (.frz {cls:= .type "list",data:= .seq vs.toArray} (.lst (ns.map V.int)))else none) (fun b=>?_) (.inl (.inr ⟨{cls:= .type "list",data:= .seq vs.toArray},ip rfl⟩)) (fun b u z=>?_) (fun b z=>?_) fun _=>R
  ·by_cases f:b=a;·exact .inr (iap _ _ (ip f))
   ·exact .inl (gU f)
  ·by_cases f:b=a;·have t:=(ip f).symm.trans z;cases t;subst f;exact⟨M,by rw[aC];exact Y,vs,_,X,M⟩
   ·have t:=(gU f).symm.trans z;cases t
  ·by_cases f:b=a;·exact f
   ·exact absurd (gU f) z
def walk_of{l:PySem.W.OpenLaw} {loose:Zd} {K:Params->Zp} {CX:Zv->CXT} {sp:Zv->Sp}
  (hn:l.most=some n) (hn2:n<=sizeLine) (hdf:d.params.defaults=[]) (hr:mC k callerA)
  (hY:∀(w:Zv) (h:Zt),YP w h->(K w.params).In h)
  (F:∀(w:Zv) (mg:Zc) (fa:Zx) (h:Zt),(K w.params).In h->h.Ns C8 mg->mg d.name=some (.ref fa)->
   ∃fd:Zs,(∀(s:Zy) (u:Zz),BindsTo s fd ⟨[u],[]⟩ [(x,u)])/\
    ∀base:Zt,(K w.params).In base->base.Ns C8 mg->rN l.prog w (K w.params) mg base (CX w) k fa fd [x] (sp w))
  (hsp:∀(w:Zv) (H:Hp) (a:Zx) (ns:List Int),ns.length<=n->Ho H->SqL (K w.params) H a (ns.map V.int)->sp w [.ref a] H (fun v _=>v= .bl true) fun _ _ _=>False)
  (hCX:∀(w:Zv) (H:Hp) (s:Zy) (e:Zz) (s':Zy),CX w [] H s (fun _ _ _=>False) e s'->False):
  PySem.W.WalkO q loose XP YP l.row.toRowW d [] (fun f vs=>PySem.call f vs):=by refine Att.Internal.attach_call hn hdf fun w s₀ s₁ mg mb fa o pm cd doc a vs ns G Y ho hd hcd hmg hobj hints hlen hg=>?_;have KX:=hY w _ Y;refine eae (F w mg fa _ KX G.T.g hmg) fun fd hb hF=>?_;exact A7 KX G.T.g G.T.b G.T.builtins G.T.nolimit hg hobj hints (cJ hlen hn2) hr hF hb (fun H hO hS=>hsp w H a ns hlen hO hS) fun H e s'=>hCX w H s₁ e s'
noncomputable def iV (s:Zq) (j:Nat):Zq:=match s with
 | .ClassDef _ _ _ body _ _ _ _ _ _ _=>body.getD j (.Pass ⟨0,0,0,0⟩)
 |_=> .Pass ⟨0,0,0,0⟩
noncomputable def jS (s:Zq):Arguments:=match s with
 | .FunctionDef _ a _ _ _ _ _ _ _ _=>a
 |_=>{posonlyargs:=[],args:=[],vararg:=none,kwonlyargs:=[],kw_defaults:=[],kwarg:=none,defaults:=[]}
noncomputable def jr (s:Zq):List Zq:=match s with
 | .FunctionDef _ _ b _ _ _ _ _ _ _=>b
 |_=>[]
noncomputable def gA (s:Zq):Scope:=match s with
 | .FunctionDef _ _ _ _ _ _ sc _ _ _=>sc
 |_=>{kind:= .function,names:=[],isGenerator:=false,isCoroutine:=false}
abbrev CX0:CXT:=fun _ _ _ _ _ _=>False
abbrev E0:XK:=fun _ _ _=>False
def ie:m8 CX0 X E0:=fun _ _ _ _ _ _ _ h=>h.elim
structure Fun (K:Zp) (x qual:Str) (st:Zq) (f:Zx) (fd:Zs):Prop where
 ex:∃(oc:Zz) (od:Option Zx) (kV doc pm:Zz) (an:Option Zx) (cdv ct:Zz) (osl:Array (Option Zz)),
  fd=eJ x qual (jS st) (jr st) (gA st) .none kV doc pm an cdv ct/\K.lookup f=some ⟨oc,od,.func fd,osl⟩/\eK K cdv qual=true
 kp:dW K (.ref f)=true
section
variable {P:Zu} {w:Zv} {K:Zp} {mg:Zc} {base:Zt}
def Fun.ok {x:Str} {st:Zq} {j:Zs} {ps:Zd} {k:Nat} {d:Sp} (F:Fun K x qual st f j) (S:gJ N ps (gA st)) (e:∀vs H Q E,d vs H Q E->vs.length=ps.length)
  (c:∀(b:Zz) (A:Zw) (a:List Env) (s:Zy) (H:Hp) (vs:List V) (Q:VK) (E:XK),mC k (A.deeper (envOfC qual (gA st) s.heap.objs.size f b))->d vs H Q E->
   ∃t,PSs (B8 CX0 P w K mg base N qual (gA st) f b A a s H E).nox (jr st) t/\t {nx:=fun _ r=>Q .non r,rt:=Q} (start N vs) H):rN P w K mg base CX0 (k+ 1) f j ps d:=by refine eaI F.ex fun y v z p u C b B m=>fab fun l n i=>?_;subst l;refine E8 n i S e fun A a s H vs Q E o g=>?_;refine eae (c b A a s H vs Q E o g) fun t h q=>?_;exact⟨t,h.nox,q⟩
def Fun.binds {x:Str} {st:Zq} {i:Zs} {ps:Zd} (F:Fun K x qual st f i)
  (h:∀(d a c:Zz) (g:Option Zx) (b e:Zz) (us:List Zz),us.length=ps.length->bindArgs (eJ x qual (jS st) (jr st) (gA st) .none d a c g b e) ⟨us,[]⟩=pure (ps.zip us)):m7 K i ps []:=by refine eaI F.ex fun n m d a c g b e k=>fab fun j o l=>?_;subst j;exact .all (h d a c g b e)
def uG{st:Zq} {g:Zz} (l:K.lookup f=some ⟨oc,od,.func (eJ x a (jS st) (jr st) (gA st) .none g d h j b i),e⟩)
  (c:eK K b a=true) (k:dW K (.ref f)=true):Fun K x a st f (eJ x a (jS st) (jr st) (gA st) .none g d h j b i):=⟨(ias oc od g d h j b i e ⟨rfl,l,c⟩),k⟩
end
def rP(a:mC k A):A.units+ 1<cLine:=Nat.lt_of_le_of_lt (Nat.add_le_add_left (by decide:1<=64) _) a.units
section
variable {X:Cx}
def pv (i:Nat) {x:Str} (hN:autoParam (X.N[i]?=some x) auR._auto_1) (hv:Vis X.env.scope x:=by first|exact Or.inl rfl|exact Or.inr (.inl rfl)|exact Or.inr (.inr rfl)) (hd:autoParam ((x==("__debug__":Str))=false) auD._auto_1)
  (hcd:autoParam ((x==("__classdict__":Str))=false) auD._auto_1):PE X (.Name x pos) (Iu i):=EW hN hv hd hcd
end
def kU{B:Prop} (h:B):if false=true then A else B:=by rw[gU fq];exact h
def lQ{B:Prop} (h:A):if true=true then A else B:=by rw[ip rfl];exact h
def IE{B:Prop} [Decidable c] (b:c->A) (a:¬c->B):if c then A else B:=by
 by_cases h:c;·rw[ip h];exact b h
 ·rw[gU h];exact a h
def gT (H H':Hp):Prop:=∀b o,H b=some o->H' b=some o
def gT.refl (H:Hp):gT H H:=fun _ _ h=>h
def gT.trans {H1 d:Hp} (a:gT H H1) (b:gT H1 d):gT H d:=fun c o h=>b c o (a c o h)
def gT.free {H':Hp} (e:gT H H') {l:Zx} (h:H' l=Option.none):H l=Option.none:=by
 cases q:H l with
 |none=>rfl
 |some o=>rw[e l o q]at h;cases h
def gT.seq {K:Zp} {H':Hp} {a:Zx} (e:gT H H') (h:SqL K H a xs):SqL K H' a xs:=by
 rcases h with(h|⟨o,h⟩)|h;·exact .inl (.inl (e _ _ h))
 ·exact .inl (.inr ⟨o,e _ _ h⟩)
 ·exact .inr h
section
variable {X:Cx}
end
section
variable {κ:Type} [DecidableEq κ]
end
section
variable {X:Cx}
def y4(c:Gl X x) (b:X.mg x=some (.ref a)) (d:autoParam ((x==("__debug__":Str))=false) auD._auto_1):PE X (.Name x pos) (tC (.ref a)):=Ds c b (show iZ (.ref a) _ from rfl) d
def m9(d:Gl X x) (c:X.mg x=none) (a:IZ x=some (.type n)) (b:autoParam (x≠"__name__") auD._auto_1) (e:autoParam ((x==("__debug__":Str))=false) auD._auto_1):PE X (.Name x pos) (tC (.ty n)):=Du d c a (show iZ (.ty n) _ from rfl) b e
end
def jB:IZ "len"=some (.builtin "len"):=gG
def Fi:IZ "all"=some (.builtin "all"):=gG
def Fj:IZ "sum"=some (.builtin "sum"):=gG
def iW:IZ "isinstance"=some (.builtin "isinstance"):=gG
def Cg:IZ "int"=some (.type "int"):=gG
def Ci:IZ "str"=some (.type "str"):=gG
def DJ:IZ "bool"=some (.type "bool"):=gG
def mD:IZ "list"=some (.type "list"):=gG
def jJ:IZ "tuple"=some (.type "tuple"):=gG
section
variable {X:Cx} {tg:Zr}
end
noncomputable def blk (X:Cx) (N:Zd) (a:Scope) (e:List (Str×Zx)) (C:Zx) (b:Zy) (c:Hp) (ex:List Zx) (d:Za):Cx:=
 {X with N:=N,s₀:=b,H₀:=c,env:=compEnvC a e C X.env,outer:=X.stack,stack:=X.stack,ex:=ex,fn:=fun _=>false,pn:=X.pn++d,xe:=fun _ _=>False}
def PTs (X:Cx) (d:List Zr) (t:TT):Prop:=
 ∀(b:Za) (s:Zy) (a:St) (H:Hp) (Q:Bool->Hp->Prop),Inv X b a H s->t a H Q->
  C7 (model X.prog X.w) X.A (forIn d true fun c r=>if r=true then do let ok<-isTrue c X.env (eval c X.env);pure (JR ok)else pure (JR r)) (TP X b a Q) X.xe s
def nE:TT:=fun _ H Q=>Q true H
def km:PTs X [] nE:=fun b s a H Q I h=>IT ⟨H,I,h⟩
structure qN (X:Cx) (N:Zd) (scope:Scope) (cl:List (Str×Zx)) (f:St->St) (i:Nat) (x:Str):Prop where
 kind:scope.kind= .function
 cell:∀y∈scope.names,y.2≠ .cell
 names:∀y∈scope.names,y.2= .local->scope.names.lookup y.1=some .local
 clos:J0 scope X.env=pure cl
 lk:∀y c,cl.lookup y=some c->X.env.cells.lookup y=some c
 has:∀y,((relabel scope X.env).names.lookup y=some .cell\/(relabel scope X.env).names.lookup y=some .free)->∃c,cl.lookup y=some c
 nd:N.Nodup
 ix:N[i]?=some x
 loc:scope.names.lookup x=some .local
 len:∀σ,σ.length=X.N.length->(f σ).length=N.length
 val:∀(σ:St) (k:Nat) (y:Str) (v:V),N[k]?=some y->(f σ)[k]?=some (some v)->∃j:Nat,X.N[j]?=some y/\σ[j]?=some (some v)/\X.env.scope.names.lookup y=some .cell/\(relabel scope X.env).names.lookup y=some .cell
def y6{f:St->St} (B:qN X N scope cl f i x) {σ:St} {m:Zc}
  (I:Inv X pz σ H s) (hex:∀b∈ex,xH X pz H b/\b<s.heap.objs.size) (keep:∀b o,s.heap.get? b=some o->h₁.get? b=some o) (hn:h₁.Ns s.heap.objs.size m):
  Inv (blk X N scope cl s.heap.objs.size s H ex pz) [] (f σ) H {s with heap:=h₁,toks:=tk}:=by
 have nst:∀b,b≠X.env.locals->b∉X.fs->b∉frs X.stack:=fun b h1 h2 hb=>(aj.mp (I.stkSub b hb)).elim h1 h2;have ltC:∀y c,X.env.cells.lookup y=some c->c<s.heap.objs.size:=fun y c e=>by refine ead (I.cell y c e) fun v o ho _=>?_;exact fZ ho
 refine⟨⟨I.ok.mod,B.kind,I.ok.glob,I.ok.blt,cN _,fun y z c h1 h2=>I.ok.inj y z c (B.lk y c h1) (B.lk z c h2),fun y hy=>B.has y hy,fun y c h=>(nomatch h),I.ok.hd,I.ok.frames,.inl rfl,fun b hb=>?_,I.bs,cJ I.ok.bsz I.sz,fun b o e hb=>?_,fun b hb=>?_,I.stack,I.stkFree⟩,
  rfl,I.bare,Un.kept keep,⟨m,hn,fun k y v e1 e2 e3=>?_⟩,fun y c e=>?_,I.hok.fresh (cN _),fun y c e=>I.freeC y c (B.lk y c e),fun p hp=>?_,I.hok.kept keep,B.len σ I.len⟩;·obtain⟨⟨_,_,_,_,hc,_⟩,lt⟩:=hex b hb;exact⟨cH lt,fun y c e=>hc y c (B.lk y c e)⟩
 ·obtain⟨⟨_,_,_,h4,_,_⟩,_⟩:=hex b hb;rcases h4 with z|z;·exact I.ok.noex b o e z
  ·exact absurd (cF (fZ (I.ok.bs b o e).1) z) (cG _)
 ·obtain⟨⟨_,h2,h3,_,_,_⟩,_⟩:=hex b hb;exact nst b h2 h3
 ·refine eaq (B.val σ k y v e1 e2) fun j h1 h2 h3 h4=>?_;refine eae I.loc fun m' _ hl=>?_;refine eae (hl j y v h1 h2 (.inr (.inl h3))) fun u r l=>?_;refine⟨u,r,?_⟩;rcases l with⟨hk,_⟩|⟨_,c,hc,z⟩;·have hk':X.env.scope.names.lookup y=some .local:=hk;rw[h3]at hk';cases hk'
  ·obtain⟨c',hc'⟩:=B.has y (.inl h4);have e:c'=c:=dj.inj ((B.lk y c' hc').symm.trans hc);subst e;refine eae z fun o ho hd=>?_;exact .inr ⟨.inl h4,c',hc',o,keep _ o ho,hd⟩
 ·refine ead (I.cell y c (B.lk y c e)) fun v o ho hd=>?_;exact iap v o ⟨keep _ o ho,hd⟩
 ·rw[aD]at hp;refine eab (I.pin p hp) fun e n ne nf d=>?_;exact⟨keep _ _ e,n,cH (fZ e),nst _ ne nf,d⟩
theorem iH {a:Env}:∀{b:List (Str×NameKind)} {x:Str} {k:NameKind},
  (b.map fun(n,k)=>if(k==Js&&a.scope.kind== .function&&a.kindOf n==some .cell)then(n,JN)else(n,k)).lookup x=some k->
  ∃c,b.lookup x=some c/\(k=c\/(c= .free/\k= .cell))
 |[],_,_,h=>by simp at h
 |(n,c)::r,x,k,h=>by
  have g:=@iH a r x k;have h:aA x ((if(c==Js&&a.scope.kind== .function&&a.kindOf n==some .cell)=true then(n,JN)else(n,c))::(r.map fun(n,k)=>if(k==Js&&a.scope.kind== .function&&a.kindOf n==some .cell)then(n,JN)else(n,k)))=some k:=h
  cases d:x==n with
  |true=>
   by_cases hc:(c==Js&&a.scope.kind== .function&&a.kindOf n==some .cell)=true
   ·rw[ip hc]at h;simp only[aZ,d]at h⊢;have i:c= .free:=by have e:=hc;simp only[fu]at e;exact eq_of_beq e.1.1
    exact⟨c,rfl,.inr ⟨i,(dj.inj h).symm⟩⟩
   ·rw[gU hc]at h;simp only[aZ,d]at h⊢;exact⟨c,rfl,.inl (dj.inj h).symm⟩
  |false=>
   have j:(r.map fun(n,k)=>if(k==Js&&a.scope.kind== .function&&a.kindOf n==some .cell)then(n,JN)else(n,k)).lookup x=some k:=by
    by_cases hc:(c==Js&&a.scope.kind== .function&&a.kindOf n==some .cell)=true;·rw[ip hc]at h;simp only[aZ,d]at h;exact h
    ·rw[gU hc]at h;simp only[aZ,d]at h;exact h
   refine eae (g j) fun f m l=>?_;exact⟨f,by simp only[aZ,d];exact m,l⟩
theorem jK {a:Env} (j:a.scope.kind= .function):∀{b:List (Str×NameKind)} {x:Str},a.scope.names.lookup x=some .cell->b.lookup x=some .free->
  (b.map fun(n,k)=>if(k==Js&&a.scope.kind== .function&&a.kindOf n==some .cell)then(n,JN)else(n,k)).lookup x=some .cell
 |[],_,_,h=>by simp at h
 |(n,k0)::r,x,hc,h=>by
  have i:=@jK a j r x hc;show aA x ((if(k0==Js&&a.scope.kind== .function&&a.kindOf n==some .cell)=true then(n,JN)else(n,k0))::_)=_
  cases c:x==n with
  |true=>
   simp only[aZ,c]at h;cases h;have e:x=n:=eq_of_beq c;have f:a.kindOf n=some .cell:=by rw[<-e];exact hc
   simp[aZ,c,j,f]
  |false=>
   simp only[aZ,c]at h;by_cases hq:(k0==Js&&a.scope.kind== .function&&a.kindOf n==some .cell)=true;·rw[ip hq];simp only[aZ,c];exact i h
   ·rw[gU hq];simp only[aZ,c];exact i h
def Fn(o:a.kind= .function) (d:∀p∈a.names,p.2≠ .cell/\p.2≠ .free) (n:∀y∈a.names,y.2= .local->a.names.lookup y.1=some .local)
  (l:a.names.lookup x=some .local) (q:J0 a X.env=pure []):qN X [x] a [] (fun _=>[none]) 0 x where
 kind:=o
 cell:=fun y j=>(d y j).1
 names:=n
 clos:=q
 lk:=fun y c h=>by simp at h
 has:=fun y h=>by
  rcases h with h|h
  ·refine eax (iH h) fun i e z=>?_;have m:=d _ (IV e);rcases z with z|⟨z,_⟩;·exact absurd z.symm m.1
   ·exact absurd z m.2
  ·refine eax (iH h) fun i e z=>?_;have m:=d _ (IV e);rcases z with z|⟨z,_⟩;·exact absurd z.symm m.2
   ·exact absurd z m.2
 nd:=by simp
 ix:=rfl
 loc:=l
 len:=fun _ _=>rfl
 val:=fun r k y v s f=>by
  cases k with
  |zero=>simp at f
  |succ k=>simp at f
def LcP (J:It) (i:Nat) (j:TT) (l:TE) (Q:VK) (h:St) (H1:Hp) (D:Zx):Prop:=
 ∃W:Nat->Nat->St->Hp->Prop,(∃m,W 0 m h (upd H1 D (.lst [])))/\∀k m a c,W k m a c->
  (J.stop k c/\Q (.ref D) c)\/(J.go k c/\∀v g,J.yld k c v g->j (a.set i (some v)) g fun n f=>if n=true
   then l (a.set i (some v)) f fun y e=>∃d,e D=some (.lst d)/\d.length<sizeLine/\∃b,b<m/\W (k+ 1) b (a.set i (some v)) (upd e D (.lst (d++[y])))
   else ∃b,b<m/\W (k+ 1) b (a.set i (some v)) f)
def tLC (c:TI) (f:St->St) (i:Nat) (d:TT) (e:TE):TE:=fun a H Q=>c a H fun J b=>∀D,b D=none->LcP J i d e Q (f a) b D
def y8{f:St->St} {Qp:Zb} {R:St}
  (hc:X.calm=true) (B:qN X N scope cl f i x) (hi:PI X (.Name x px) iter wi)
  (htt:∀C E G ex l,PTs (blk X N scope cl C E G ex l) ifs tt) (hte:∀C E G ex l,PE (blk X N scope cl C E G ex l) elt te)
  (hs:∀x,JK iter X.env x=pure x) (I:Inv X l R H s) (h:tLC wi f i tt te R H Q)
  (fin:∀(fl:Flow) (a M:Zy) (H3 P:Hp) (d:Zx) (m:Zc),Inv X l R H3 a->Inv X l R P M->P a.heap.objs.size=none->M.heap.Ns a.heap.objs.size m->Q (.ref d) P->
   compPost (model X.prog X.w) X.A X.xe use Qp (.ref d) a.heap.objs.size (.ok fl) M):
  C7 (model X.prog X.w) X.A (comprehension (.ListComp elt [⟨.Name x px,iter,ifs,0⟩] scope pos) scope X.env pos' (newList []) false (eval iter X.env) use) Qp X.xe s:=by
 refine wpAny_comprehension_free (use:=use) rfl hs B.clos B.kind B.names (thn (hi l s R H _ I h) fun xv s1 h1=>thn h1 fun itv j h2=>?_);refine ear h2 fun it t tn J K z0 I2 T st2 f2 q=>?_;subst z0;have hD:K j.heap.objs.size=none:=I2.fresh;refine eax (q _ hD) fun W y0 turn=>?_;obtain⟨m0,w0⟩:=y0;refine J4 (wpAny_newFunctionEnv B.cell (by intro y hy;simp at hy) (fun F A w=>?_) B.kind);have I3:Inv X l R (upd K j.heap.objs.size (.lst [])) {j with heap:=j.heap.push {cls:= .type "list",data:= .seq ([]:List Zz).toArray}}:=I2.lnew (its:=[]) (ys:=[]) (t':=j.toks) .nil (cO _);have lt2:∀b∈t,b<j.heap.objs.size:=fun b g=>by refine eae (T.obj _ _ st2 b g) fun o ho _=>?_;exact fZ ho
 have fp3:∀b∈t,xH X l (upd K j.heap.objs.size (.lst [])) b:=fun b g=>by refine⟨?_,(f2 b g).2⟩;rw[gx (cH (lt2 b g))];exact(f2 b g).1
 generalize hs3:({j with heap:=j.heap.push {cls:= .type "list",data:= .seq ([]:List Zz).toArray}}:Zy)=a at I3 A w⊢;have eh:j.heap.push {cls:= .type "list",data:= .seq ([]:List Zz).toArray}=a.heap:=by rw[<-hs3]
 have lt3:∀b∈t,b<a.heap.objs.size:=fun b g=>by rw[<-eh,f9];exact Nat.lt_succ_of_lt (lt2 b g)
 have old:∀b o,a.heap.get? b=some o->F.get? b=some o:=fun b o e=>w.extBut b o (cH (fZ e)) (f7 _ e);have I4:=y6 (tk:=a.toks+([]:List (Str×Zz)).length) B I3 (ex:=t) (fun b g=>⟨fp3 b g,lt3 b g⟩) old A;have st4:tn 0 F:=T.keep _ _ _ st2 fun b _ o e=>old b o (by rw[<-eh];exact f7 _ e);have fpB:∀{L:Hp},(∀b∈t,L b=none)->∀b∈t,xH (blk X N scope cl a.heap.objs.size a (upd K j.heap.objs.size (.lst [])) t l) [] L b:=fun{L} hn b g=>by refine eai (f2 b g) fun _ g2 g3 g4 g5 g6=>?_;refine⟨hn b g,cH (lt3 b g),fun z=>(aj.mp (I3.stkSub b z)).elim g2 g3,.inl g,fun y c e=>g5 y c (B.lk y c e),fun p hp=>?_⟩;rw[aD]at hp;exact g6 p hp
 have S:∀s4:Zy,s4={a with heap:=F,toks:=a.toks+([]:List (Str×Zz)).length}->
   codeAny (model X.prog X.w) X.A (.compLoop (.ListComp elt [⟨.Name x px,iter,ifs,0⟩] scope pos) 0 (.ref it) (.ref j.heap.objs.size) (compEnvC scope cl a.heap.objs.size X.env))
    (compPost (model X.prog X.w) X.A X.xe use Qp (.ref j.heap.objs.size) a.heap.objs.size) s4:=by
  rintro s4 rfl;refine codeAny_compLoop_tests (I:=fun n s'=>∃k D L,Inv (blk X N scope cl a.heap.objs.size a (upd K j.heap.objs.size (.lst [])) t l) [] D L s'/\tn k s'.heap/\(∀b∈t,L b=none)/\W k n D L) ?_ m0
   (iae 0 (f R) _ I4 st4 (fun b g=>(fp3 b g).1) w0);refine fun n s5=>faa fun k V P=>fac fun I5 st5 fr5 w5=>?_;rcases turn k n V P w5 with⟨stop,qn⟩|⟨go,step⟩
  ·refine I0 (T.done (blk X N scope cl a.heap.objs.size a (upd K j.heap.objs.size (.lst [])) t l) rfl rfl rfl hc k [] s5 V P _ I5 (fpB fr5) st5 stop) (fun r M h6=>?_) fun _ _ z=>z;obtain⟨hr,I6⟩:=h6;subst hr;refine eae (id I6.loc) fun m6 hn6 _=>?_;have I7:Inv X l R P M:=I3.call' (s':=M) (ch:=t) I6.os I6.base I6.hok I6.bare fun b g=>by refine eai (f2 b g) fun _ g2 g3 g4 g5 g6=>?_;exact⟨g4,g2,g5,g6⟩
   exact fin _ a M _ P _ m6 I3 I7 I6.free hn6 qn
  ·refine I0 (T.item (blk X N scope cl a.heap.objs.size a (upd K j.heap.objs.size (.lst [])) t l) rfl rfl rfl hc k [] s5 V P _ I5 (fpB fr5) st5 go) (fun r M h6=>?_) fun _ _ z=>z;obtain⟨u,hr,h6⟩:=h6;subst hr;show C7 _ _ (pure () >>= fun _=>assign (.Name x px) (compEnvC scope cl a.heap.objs.size X.env) u) _ _ M;refine C6 (I0 (show C7 _ _ (pure ()) _ _ M from h6) (fun _ s7 h7=>?_) fun _ _ z=>z);refine eap h7 fun v H7 I7 r7 y7 Z fr7=>?_;have I7':=I7.pinned (fpB fr7) (T.obj _ _ Z);refine wpAny_assign_Name (qq (X:=blk X N scope cl a.heap.objs.size a (upd K j.heap.objs.size (.lst [])) t l) I7' B.nd B.ix (.inl (Jp B.loc)) r7 (fun s8 I8=>?_) (.inr (Jp B.loc)));have U:∀{O:St} {H9:Hp} {s9:Zy},Inv (blk X N scope cl a.heap.objs.size a (upd K j.heap.objs.size (.lst [])) t l) ([]++sx t s7.heap) O H9 s9->(∃m',m'<n/\W (k+ 1) m' O H9)->
     ∃m',m'<n/\∃k D L,Inv (blk X N scope cl a.heap.objs.size a (upd K j.heap.objs.size (.lst [])) t l) [] D L s9/\tn k s9.heap/\(∀b∈t,L b=none)/\W k m' D L:=fun{O H9 s9} I9 q9=>by refine eae q9 fun m' hm w9=>?_;refine⟨m',hm,k+ 1,O,H9,I9.unpinned,T.keep _ _ _ Z fun b g o e=>(I9.pin (b,o) (ax _ (ax _ (kG g e)))).1,fun b g=>?_,w9⟩;refine eae (T.obj _ _ Z b g) fun o e d=>?_;exact(I9.pin (b,o) (ax _ (ax _ (kG g e)))).2.1
   refine I0 (htt _ _ _ _ _ _ s8 _ H7 _ I8 (step v H7 y7)) (fun ok s9 h9=>?_) fun _ _ z=>IX z;refine eae h9 fun H9 I9 q9=>?_
   cases ok with
   |false=>rw[gU fq];rw[gU fq]at q9;exact U I9 q9
   |true=>rw[ip rfl];rw[ip rfl]at q9;refine I0 (hte _ _ _ _ _ _ s9 _ H9 _ I9 q9) (fun y s10 h10=>?_) fun _ _ z=>IX z;refine eaD h10 fun Y H10=>fab fun I10 r10=>fL fun xs=>fab fun hx10 hz q10=>?_;refine I0 (iu (X:=blk X N scope cl a.heap.objs.size a (upd K j.heap.objs.size (.lst [])) t l) _ s10 _ H10 (.ref j.heap.objs.size) [Y] _ [y] (fun _ H11=>H11=upd H10 j.heap.objs.size (.lst (xs++[Y]))) I10 rfl (.cons r10 .nil) (iah _ xs Y rfl rfl hx10 hz rfl)) (fun _ s11 h11=>?_) fun _ _ z=>IX z;refine eal h11 fun _ H11 I11 _ e11=>?_;subst e11;exact U I11 q10
 exact codeAny_compStart_list (S _ rfl) (T.self _ 0 _ _ _ st4 (S _ rfl))
def rQ{f:St->St}
  (G:X.calm=true) (B:qN X N scope cl f i x) (hi:PI X (.Name x px) iter wi)
  (l:∀C a g r j,PTs (blk X N scope cl C a g r j) ifs tt) (n:∀C a g r j,PE (blk X N scope cl C a g r j) elt te)
  (D:autoParam (∀x,JK iter X.env x=pure x) auI._auto_1):PE X (.ListComp elt [⟨.Name x px,iter,ifs,0⟩] scope pos) (tLC wi f i tt te):=by
 intro j s P H Q I h;rw[eval_ListComp];refine y8 G B hi l n D I h fun R w u S O d m k M L F y=>?_;refine⟨m,F,fun K t=>(iap (.ref d) O ⟨?_,rfl,y⟩)⟩;exact Inv.turned (h':=K) (t':=u.toks) (it:=w.heap.objs.size) M (fun b o J e=>(t.2 b J).trans e) L (cM k.lt) (.inr k.sz) (fun z c e q=>by obtain⟨v,A⟩:=k.cell z c e;exact absurd (q▸A.lt) (cG _)) fun p E q=>absurd (q▸fZ (k.pin p E).1) (cG _)
section
variable {X:Cx}
def A8 {a:List Bool}:∀{us:List Zz},jh (a.map V.bl) us->us=a.map Jn:=by
 induction a with
 |nil=>intro us r;rw[aU]at r;cases r;rfl
 |cons n e d=>
  intro us r;rw[aB]at r
  cases r with
  |cons c b=>cases(show _=Jn n from c);rw[d b];rfl
def xU (a:List Bool):((aa a.length).all fun i=>(a[i]?).getD true)=a.all id:=by
 induction a with
 |nil=>rfl
 |cons b r c=>rw[az,ba,aW,List.all_map,aW,<-c];rfl
def xV{h h':Zt} (c:∀b x,b∉[h.objs.size]->(h.push o).get? b=some x->h'.get? b=some x):∀b x,h.get? b=some x->h'.get? b=some x:=
 fun b x e=>c b x (fun a=>by rw[bb.mp a]at e;exact cG _ (fZ e)) (f7 _ e)
def A9 (w:X.calm=true):oE X (.builtin "all") (fun k H Q=>∃(a:Zx) (c:List Bool),k=[.ref a]/\SqL X.K H a (c.map V.bl)/\Q (.bl (c.all id)) H):=by
 intro G s C H k D Q I r h;refine eal h fun a c f x q=>?_;subst f;refine eae (qi r) fun u f n=>?_;subst f;cases n;refine eah (I.list x) fun p m o J=>?_;have z:=A8 m;subst z;have j:s.heap.IsList a (c.map Jn).toArray:=o.isList;have g:a<s.heap.objs.size:=by refine eae j fun _ e _=>?_;exact fZ e
 refine call_all_walk (wpAny_pyIter_list j ?_);refine iat s.heap.objs.size ([s.heap.objs.size,a]) ([s.heap.objs.size]) ((c.map Jn).toArray.size) _ _ (fun i=>(c[i]?).getD true) (⟨rfl,Walks.list (A:=X.A.in1) (I.ok.hd w) _ a (cH g) (c.map Jn).toArray,⟨(iad _ (f6 _ rfl) rfl rfl),j.push _⟩,fun i v F L M y l=>?_,fun K E t=>?_⟩)
 ·have d:(c.map Jn)[i]?=some v:=by simpa using y
  rw[aM]at d
  cases e:c[i]? with
  |none=>rw[e]at d;cases d
  |some b=>rw[e]at d;have B:v=Jn b:=(dj.inj d).symm;subst B;simp only[e,Option.getD_some]at l;exact Jq l
 ·have e:((aa (c.map Jn).toArray.size).all fun i=>(c[i]?).getD true)=c.all id:=by rw[ay,aC];exact xU c
  rw[e];exact iab (.bl (c.all id)) H (I.kept (xV t)) rfl q
def rSlS:V->Option Int->Option Int->Hp->VK->Prop:=fun x a b H Q=>∃z,x= .str z/\z.length<=sizeLine/\Q (.str (Txt.slice z a b)) H
def Cj:SlR X rSlS:=by
 intro p s m H x v B A w y C Q I o e r g h;refine eaE h fun z n d q=>?_;subst n;obtain⟨t,rfl⟩:=o;refine iap ("str") _ ⟨F.slot_str_getitem.lookup,typeIs_str _ _ _,?_⟩;have b:∀a k,EP X p m Q (.str (Txt.slice z w y) a) {s with toks:=k}:=fun a k=>(iap (.str _) H (⟨I.tok k,⟨a,rfl⟩,q⟩))
 cases r with
 |none=>
  cases g with
  |none=>exact JB (l:=none) (u:=none) (st:=none) e rfl (post_val_or_str ⟨cJ (JW z _ _) d,fun a k=>b a k⟩)
  |int j u=>exact JB (l:=none) (u:=some (j,u)) (st:=none) e rfl (post_val_or_str ⟨cJ (JW z _ _) d,fun a k=>b a k⟩)
 |int i f=>
  cases g with
  |none=>exact JB (l:=some (i,f)) (u:=none) (st:=none) e rfl (post_val_or_str ⟨cJ (JW z _ _) d,fun a k=>b a k⟩)
  |int j u=>exact JB (l:=some (i,f)) (u:=some (j,u)) (st:=none) e rfl (post_val_or_str ⟨cJ (JW z _ _) d,fun a k=>b a k⟩)
def mY:oE X (.builtin "isinstance") (fun e H Q=>∃x v c t b,e=[x,v]/\(∀u,iZ v u->u=c)/\vz X.K H x t/\PySem.W.kitOne X.K t c=some b/\Q (.bl b) H):=by intro o s m H e n Q I r h;refine eaG h fun x v c t b=>fah fun a l j k q=>?_;subst a;refine eal (A2 r) fun u f a i d=>?_;subst a;cases l f d;exact yN I i j k fun g=>(iap (.bl b) H ⟨I.tok g,rfl,q⟩)
end
section
variable {X:Cx}
def Hq (X:Cx) (st:List Zq) (t:TS.Internal):Prop:=
 ∀(b:Za) (s:Zy) (a:St) (H:Hp) (D:mZ),Inv X b a H s->1<=s.toks->t D a H->C7 (model X.prog X.w) X.A (execs st X.env) (SP X b D) X.xe s
theorem Hq.nox {st:List Zq} {t:TS.Internal} (h:Hq X.nox st t):Hq X st t:=fun b s a H D I d c=>
 I0 (h b s a H D (I.wish _) d c) (fun _ _ q=>q.unwish) fun _ _ z=>IX z
end
section
variable {X:Cx} {st:Zq} {rest:List Zq} {t u:TS.Internal}
end
section
variable {P:Zu} {w:Zv} {H H':Hp} {h h':Zt} {a:Zx} {o:HO}
def jm.there (x:jm P w H h a o):∃b,h.get? a=some b:=by
 cases o with
 |lst g=>refine eaa x fun _ _ _ _ e=>?_;exact⟨_,e⟩
 |tup g=>refine eay x fun _=>fL fun _=>f8 fun _ c=>?_;refine eax c fun b e _=>?_;exact⟨b,e⟩
 |dK d=>refine eaz x fun _ _=>fL fun _=>f8 fun _=>faa fun b _ _=>f8 fun e _=>?_;exact⟨b,e⟩
 |dT d=>refine eaz x fun _ _=>fL fun _=>f8 fun _=>faa fun b _ _=>f8 fun e _=>?_;exact⟨b,e⟩
 |set S n=>refine eaA x fun b _ _ _=>f8 fun e _=>?_;exact⟨b,e⟩
 |ins C p i=>refine eab x fun _ _ _ e _=>?_;exact⟨_,e⟩
 |own y=>exact x
 |xd i=>refine eax x fun _ c _=>?_;refine eaB c fun b _ _=>f8 fun e _=>?_;exact⟨b,e⟩
 |rng l m=>refine eac x fun _ _ _ e=>?_;exact⟨_,e⟩
 |frz b u=>obtain⟨e,_⟩:=x;exact⟨_,e⟩
 |tbl k=>exact⟨_,x⟩
 |met f y=>exact⟨_,x⟩
 |ext j=>exact x.2.1
end
structure Fl (P:Zu) (w:Zv) (outer:List Env) (H:Hp) (s:Zy) (B:Zt) (H':Hp) (s':Zy):Prop where
 os:s'.os=s.os
 bare:AllBare s'.gens
 un:Un (frs outer) [] H H' s.heap s'.heap
 hok:HOk P w H' s'.heap
 stay:B.StaysIn s'.heap
 trk:∀b u,H' b=some u->∃o,B.get? b=some o
 old:∀b o,s.heap.get? b=some o->b∉frs outer->∃o',B.get? b=some o'
section
variable {X:Cx} {pz:Za} {σ:St} {H H':Hp} {s s':Zy} {B h:Zt}
def Inv.track {a:Zx} {o:HO} (I:Inv X l σ H s) (y:H a=none) (D:X.s₀.heap.get? a=none) (B:a≠X.env.locals) (C:∀x c,X.env.cells.lookup x=some c->c≠a) (A:∀p∈X.pn++l,p.1≠a)
  (j:jm X.prog X.w (upd H a o) s.heap a o):Inv X l σ (upd H a o) s:=by
 have g:∀b u,H b=some u->b≠a:=fun b u e z=>by rw[z,y]at e;cases e
 refine⟨I.ok,I.os,I.bare,⟨I.base.keep,I.base.slot,fun b i e n w=>?_,I.base.there,fun b k e=>?_,fun b i u e=>?_,fun b r e=>?_⟩,I.loc,I.cell,?_,fun x c e=>?_,fun p m=>?_,fun b u e=>?_,I.len⟩;·rw[gx (fun z=>by rw[z,D]at e;cases e)];exact I.base.free b i e n w
 ·have f:=I.base.tups b k e;rw[gx (g b _ f)];exact f
 ·have f:=I.base.frzs b i u e;rw[gx (g b _ f)];exact f
 ·obtain⟨h,f⟩:=I.base.tbls b r e;exact⟨h,by rw[gx (g b _ f)];exact f⟩
 ·rw[gx (IU B)];exact I.free
 ·rw[gx (C x c e)];exact I.freeC x c e
 ·refine eab (I.pin p m) fun e n v t d=>?_;exact⟨e,by rw[gx (A p m)];exact n,v,t,d⟩
 ·by_cases hb:b=a;·subst hb;rw[gm]at e;cases e;exact j
  ·rw[gx hb]at e;exact(I.hok b u e).stay (fun _ _ _ q=>q) (fun c z=>by rw[gx (g c _ z)];exact z) fun c k z=>by rw[gx (g c _ z)];exact z
end
section
variable {P:Zu} {w:Zv} {K:Zp} {mg:Zc} {base:Zt} {N:Zd} {qual:Str} {scope:Scope} {f:Zx} {cd:Zz} {A:Zw} {outer:List Env} {s₀:Zy} {H₀:Hp} {E:XK}
end
noncomputable def VEbm:List Zz:=[.type "ValueError",.type "Exception",.type "BaseException",.type "object"]
section
variable {X:Cx} {C:Zx} {E:XK} {x:Str} {np cpos pos:Pos} {e:Zr} {es:List Zr} {t:TA}
end
section
variable {P:Zu} {w:Zv} {K:Zp} {mg:Zc} {base:Zt}
end
section
variable {X:Cx} {pz:Za} {σ:St} {H:Hp} {s:Zy}
end
section
variable {X:Cx} {CX:CXT} {k:Nat} {f Y:Zx} {fd:Zs} {ps:Zd} {sp:Sp} {dvs:List V} {ds:List Zz} {E:XK} {x y n:Str} {p pos pos' py hpos tpos:Pos} {e:Zr} {es:List Zr} {t:TA} {b₀:Zq} {body:List Zq} {tb:TS.Internal} {i:Nat}
end
section
variable {X:Cx} {e:Zr} {es:List Zr} {te:TE} {pos:Pos}
end
section
variable {X:Cx}
end
inductive Dt where
 |flat (v:V)
 |tup (l:List Dt)
 |lst (l:List Dt)
mutual
inductive At (K:Zp) (H:Hp):V->Dt->Prop where
 |flat {v:V} (h:qj v=true):At K H v (.flat v)
 |tup {a:Zx} {xs:List V} {ds:List Dt} (h:SqT K H a xs) (hs:Ats K H xs ds):At K H (.ref a) (.tup ds)
 |lst {a:Zx} {xs:List V} {ds:List Dt} (h:SqL K H a xs) (hs:Ats K H xs ds):At K H (.ref a) (.lst ds)
inductive Ats (K:Zp) (H:Hp):List V->List Dt->Prop where
 |nil:Ats K H [] []
 |cons {x:V} {d:Dt} {xs:List V} {ds:List Dt} (h:At K H x d) (hs:Ats K H xs ds):Ats K H (x::xs) (d::ds)
end
mutual
noncomputable def eqD:Dt->Dt->Bool
 | .flat a,.flat b=>eqV a b
 | .tup l,.tup m=>xW l m
 | .lst l,.lst m=>xW l m
 |_,_=>false
noncomputable def xW:List Dt->List Dt->Bool
 |[],[]=>true
 |x::xs,y::ys=>eqD x y&&xW xs ys
 |_,_=>false
end
mutual
noncomputable def kW:Dt->Nat
 | .flat _=>0
 | .tup l=>iF l+ 1
 | .lst l=>iF l+ 1
noncomputable def iF:List Dt->Nat
 |[]=>0
 |x::xs=>max (kW x) (iF xs)
end
theorem Ats.length {K:Zp}:∀{xs:List V} {a:List Dt},Ats K H xs a->xs.length=a.length
 |_,_,.nil=>rfl
 |_,_,.cons _ t=>by rw[az,az,Ats.length t]
theorem Ats.get {K:Zp}:∀{xs:List V} {a:List Dt} {j:Nat} {x:V},Ats K H xs a->xs[j]?=some x->∃d,a[j]?=some d/\At K H x d
 |_,_,0,_,.cons h _,e=>⟨_,rfl,by cases e;exact h⟩
 |_,_,j+ 1,_,.cons _ t,e=>Ats.get (j:=j) t e
 |_,_,_,_,.nil,e=>by simp at e
theorem wI:∀(l m:List Dt),l.length≠m.length->xW l m=false
 |[],[],h=>absurd rfl h
 |x::xs,y::ys,h=>by rw[xW,wI xs ys (fun e=>h (by rw[az,az,e])),Bool.and_false]
 |[],y::ys,_=>by rw[xW];all_goals simp
 |x::xs,[],_=>by rw[xW];all_goals simp
noncomputable def y9 (l m:List Dt) (j:Nat):Bool:=match l[j]?,m[j]? with
 |some a,some b=>eqD a b
 |_,_=>false
theorem sG:∀(l m:List Dt),l.length=m.length->((aa l.length).all fun j=>y9 l m j)=xW l m
 |[],[],_=>by rw[xW];rfl
 |x::xs,y::ys,h=>by have a:=sG xs ys (by simpa using h);rw[az,ba,aW,List.all_map,xW,<-a];rfl
 |[],_::_,h=>by simp at h
 |_::_,[],h=>by simp at h
theorem depDs_get:∀{l:List Dt} {j:Nat} {a:Dt},l[j]?=some a->kW a<=iF l
 |x::xs,0,a,e=>by cases e;rw[iF];exact Nat.le_max_left ..
 |x::xs,j+ 1,a,e=>by rw[iF];exact cJ (depDs_get (j:=j) e) (Nat.le_max_right ..)
 |[],_,_,e=>by simp at e
def za(h:qj v=true):eqV v v=true:=by
 cases v with
 |non=>rfl
 |bl b=>show(b==b)=true;simp
 |int i=>show(i==i)=true;simp
 |str x=>show(x==x)=true;simp
 |_=>exact absurd h fq
section
variable {X:Cx} {pz:Za} {σ:St} {H:Hp} {s:Zy}
def Els (K:Zp) (H:Hp) (A:Zw) (s:Zy) (d c:List Dt):Prop:=
 ∀(j:Nat) (b a:Dt) (x y:V) (u v:Zz),d[j]?=some b->c[j]?=some a->iZ x u->iZ y v->At K H x b->At K H y a->JZ A s u v (eqD b a)
def els(r:jh xs its) (d:jh ys its2) (t:Ats X.K H xs ds) (c:Ats X.K H ys es) (z:Els X.K H A s ds es):
  ∀j (f:j<its.toArray.size) (e:j<its2.toArray.size),JZ A s its.toArray[j] its2.toArray[j] (y9 ds es j):=fun j f e=>by
 have C:=r.length;have B:=d.length;have b:j<xs.length:=by simp only[ay]at f;lia
 have a:j<ys.length:=by simp only[ay]at e;lia
 refine eae (r.get (bf b)) fun m y o=>?_;refine eae (d.get (bf a)) fun l x n=>?_;refine eae (t.get (bf b)) fun k h q=>?_;refine eae (c.get (bf a)) fun i g p=>?_;have v:its.toArray[j]=m:=by simpa using(aq.mp y).2
 have u:its2.toArray[j]=l:=by simpa using(aq.mp x).2
 have w:y9 ds es j=eqD k i:=by unfold y9;rw[h,g]
 rw[v,u,w];exact z j k i _ _ _ _ h g o n q p
def DM(b:n=ds.length) (a:m=es.length):((aa (min n m)).all (y9 ds es)&&n==m)=eqD (.tup ds) (.tup es):=by
 subst b a;rw[eqD];by_cases hl:ds.length=es.length;·rw[<-sG ds es hl,<-hl,Nat.min_self];simp
 ·rw[wI ds es hl,beq_eq_false_iff_ne.mpr hl,Bool.and_false]
def Fo(I:Inv X pz σ H s) (h:SqT X.K H a xs) (n:Ats X.K H xs ds) (h':SqT X.K H b ys) (f:Ats X.K H ys es) (m:A.units<cLine) (q:Els X.K H A.in1 s ds es):
  SeqAt.RcAt A s (.ref a) (.ref b) (eqD (.tup ds) (.tup es))/\SeqAt.RcNeAt A s (.ref a) (.ref b) (!eqD (.tup ds) (.tup es)):=by
 refine eah (I.tuple h) fun g r j _=>?_;refine eah (I.tuple h') fun d i c _=>?_;have e:=els r i n f q;have p:g.toArray.size=ds.length:=by rw[ay,<-r.length,n.length]
 have o:d.toArray.size=es.length:=by rw[ay,<-i.length,f.length]
 have l:=SeqAt.RcAt.tuples (A:=A) (s:=s) j c m e;have k:=SeqAt.RcNeAt.tuples (A:=A) (s:=s) j c m e;rw[DM p o]at l k;exact⟨l,k⟩
end
section
variable {X:Cx}
end
def DN (P:Zu) (w:Zv) (K:Zp) (a:Zx) (b:List (Key×V)):Prop:=(a==Jh)=false/\∃c,KV b c/\∀h:Zt,K.In h->h.DictOf (jq P w) a c
def Ba{K:Zp} {l:List (Str×Tok×Zx)} (u:(a==Jh)=false) (s:K.lookup a=some ⟨.type "dict",none,.dict es n,#[]⟩)
  (g:es.toList=l.map fun p=>⟨C9 w.params p.1,.str p.1 p.2.1,.ref p.2.2⟩) (k:(l.map (·.1)).Nodup):DN P w K a (l.map fun p=>(Je p.1,V.ref p.2.2)):=by
 refine iag u (l.map fun p=>(Je p.1,IP p.2.2)) ?_ (fun h t=>?_)
 ·clear g k
  induction l with
  |nil=>exact .nil
  |cons p r j=>exact .cons ⟨rfl,rfl⟩ j
 ·refine iar _ es n (⟨t _ _ s,⟨rfl,rfl,rfl⟩,rfl,fun e q=>?_,?_,?_⟩)
  ·have c:e∈es.toList:=by simpa using q
   rw[g]at c;refine eae (bg.mp c) fun p _ o=>?_;subst o;exact io (Je p.1) (qC p.1 p.2.1) rfl
  ·rw[g];clear g k
   induction l with
   |nil=>exact .nil
   |cons p r j=>exact .cons (qC p.1 p.2.1) rfl j
  ·rw[bh];have e:(bj ((fun(x:Key×Zz)=>x.1)∘fun(p:Str×Tok×Zx)=>((Je p.1:Key),IP p.2.2)) l)=(l.map (·.1)).map (Je:Str->Key):=by rw[bh];rfl
   rw[e];exact List.Pairwise.map _ (fun a b h z=>h (Sum.inr.inj z)) k
def Hr (a:Zx) (b:List (Key×V)) (e d:TE):TE:=fun c H Q=>e c H fun x g=>d c g fun y f=>∃k v,x= .ref a/\y=kV k/\k8 b k=some v/\Q v f
section
variable {X:Cx} {o i:Zr} {pos:Pos} {td ty:TE} {a:Zx} {kvs:List (Key×V)}
def DO (d:DN X.prog X.w X.K a kvs) (ho:PE X o td) (hi:PE X i ty) (hs:Hj i:=by exact fun _ _=>rfl):PE X (.Subscript o i pos) (Hr a kvs td ty):=by intro pz s σ H Q I h;refine yS eR.lookup hs (thn (ho pz s σ H _ I h) fun u s1 ⟨x,H1,I1,rx,q1⟩=>thn (hi pz s1 σ H1 _ I1 q1) ?_);refine fun iv s2=>faf fun y H2=>fab fun I2 ry=>faf fun k v=>fac fun ex ey hv q2=>?_;subst ex ey;obtain rfl:u=IP a:=rx;refine eay d fun _=>fL fun vs=>f8 fun rel dd=>?_;refine eae (tf.some_of (v:=v) (o:=valueAt vs k) (by rw[<-hv];exact rel.val k)) fun w' hw rw'=>?_;exact⟨(dd _ I2.kIn).typeIs,wpAny_getItem_of (vA ry) (dd _ I2.kIn).mapOf hw (iab v H2 (I2.tok _) rw' q2)⟩
end
section
variable {X:Cx}
end
section
variable {X:Cx} {k:Nat} {f Y:Zx} {fd:Zs} {ps:Zd} {sp:Sp} {dvs:List V} {ds:List Zz} {x y n:Str} {p pos pos' py hpos tpos pn:Pos} {e:Zr} {es:List Zr} {t:TA} {b₀:Zq} {body:List Zq} {tb:TS.Internal} {i:Nat}
end
end L2.Internal
namespace L2.Internal
end L2.Internal
namespace L2.Internal
variable {X:Cx} {xs ys:Array Zz} {es:List Zr} {kk k1 k2:Nat} {tp p pos:Pos} {scope:Scope} {z j j1 j2 t1 t2:Zx} {Q:Zb} {b:Zz}
open PySem PySem.Spec PyProof.Rows
section
variable {X:Cx} {pz:Za} {σ:St} {H:Hp} {s:Zy} {h':Zt}
def Inv.turnedL {t':Nat} {ch:List Zx} (I:Inv X pz σ H s) (k:∀b o,b∉ch->s.heap.get? b=some o->h'.get? b=some o) (f:∀b∈ch,xH X pz H b):Inv X pz σ H {s with heap:=h',toks:=t'}:=by
 have d:∀b u,H b=some u->b∉ch:=fun b u e z=>by have q:=(f b z).1;rw[q]at e;cases e
 refine I.step (g':=s.gens) (d':=s.drawn) (ch:=ch) (fun b i=>?_) (fun b o _ _ a e _=>k b o a e) (fun b o _ _ a e _=>⟨o.slots,k b o a e⟩) (fun _ _ _ _ n=>n)
  (fun b o a e=>⟨o,k b o a e⟩) (fun _ _ e=>e) (fun _ _ _ e=>e) (fun b y e=>⟨#[],by rw[e];simp⟩) (fun m h=>?_) (fun b u e=>?_) I.bare;·refine eai (f b i) fun _ t _ p l j=>?_;exact⟨p,t,l,j⟩
 ·refine eaf h fun o w x g r=>?_;exact iar o w x ⟨k _ o (fun z=>(f _ z).2.1 rfl) g,r⟩
 ·refine(I.hok b u e).stay (fun c v a q=>k c v ?_ q) (fun _ q=>q) fun _ _ q=>q;rcases a with z|z;·rw[z];exact d b u e
  ·exact d c _ z
def Inv.pairNew {T:Zx} {h:Zt} {tk:Nat} {b a:Zz} {x y:V} (I:Inv X pz σ H s) (c:s.heap.objs.size<=T) (J:Inv X pz σ H {s with heap:=h,toks:=tk}) (g:xG h T #[b,a]) (e:iZ x b) (d:iZ y a):
  H T=none/\Inv X pz σ (upd H T (.tup [x,y])) {s with heap:=h,toks:=tk}:=by
 have f:=I.fpOk (H':=H) c (I.hok.fresh c);refine⟨f.1,J.track f.1 ?_ f.2.1 f.2.2.2.2.1 f.2.2.2.2.2 ⟨by show 2<=sizeLine;decide,[b,a],.cons e (.cons d .nil),g⟩⟩
 cases q:X.s₀.heap.get? T with
 |none=>rfl
 |some o=>exact absurd (cF (fZ q) (cJ I.sz c)) (cG _)
end
def Fp:IZ "zip"=some (.type "zip"):=gG
def qa:IZ "enumerate"=some (.type "enumerate"):=gG
def SqL.old {c:Za} {b:St} {H:Hp} {s:Zy} {a:Zx} {xs:List V} (I:Inv X c b H s) (h:SqL X.K H a xs):a<s.heap.objs.size:=by refine eaE (I.list h) fun d _ p _=>?_;refine eax p.isList fun o e _=>?_;exact fZ e
section
variable {X:Cx}
end
def Ite (K:Zp) (a:Zx):It:=
 ⟨fun i H=>∃b x,SqL K H a b/\b[i]?=some x,
   fun i H v c=>∃T x,v= .ref T/\H T=none/\c=upd H T (.tup [.int (i:Int),x])/\∀b,SqL K H a b->b[i]?=some x,
   fun i H=>∃b,SqL K H a b/\i=b.length⟩
def ESt (e it a:Zx) (i:Nat) (h:Zt):Prop:=(∃b,IsEnum h e it i b)/\h.IsListIter it a i
def zb{K:Zp} (B:e≠it) (h2:a≠e) (h3:a≠it):Dy P w K (.Tuple es kk tp) (Ite K a) [e,it] e (ESt e it a) where
 mem:=by simp
 obj:=fun i h f c d=>by
  obtain⟨⟨g,j⟩,⟨o4,m,_,d4⟩⟩:=f;simp only[aj,bo,or_false]at d;rcases d with q|q<;>subst q;·exact⟨_,j,fun v q=>nomatch q⟩
  ·exact⟨_,m,fun v q=>by rw[d4]at q;cases q⟩
 keep:=fun i h h' f k=>by obtain⟨⟨g,j⟩,m⟩:=f;exact⟨⟨g,k e (by simp) _ j⟩,m.at fun o q=>k it (by simp) o q⟩
 item:=by
  intro X Y Q Z d i J s C H E I t f U;subst Y Q Z;refine ead U fun xs x A ex=>?_;refine eah (I.list A) fun n G L z1=>?_;obtain⟨j,m⟩:=f;obtain⟨g,u⟩:=j;refine eae (G.get ex) fun ux R F=>?_;have p:e<s.heap.objs.size:=fZ u;refine wpAny_pyNext_enum_item u m L.isList (x:=ux) (by simpa using R) B fun O ho r hT hsz T=>?_;have M:∀c o,c∉[e,it]->s.heap.get? c=some o->O.get? c=some o:=fun c o d q=>T c o (fun z=>d (by simp[z])) (fun z=>d (by simp[z])) q;have J1:Inv X J C H {s with heap:=O,toks:=s.toks+ 1}:=I.turnedL M t;refine⟨.ref s.heap.objs.size,rfl,wpAny_letOwnedTupleGo_enum ho fun N V D=>?_⟩;have J2:Inv X J C H {s with heap:=N,toks:=s.toks+ 1}:=Inv.turnedL (s:={s with heap:=O,toks:=s.toks+ 1}) (h':=N) (t':=s.toks+ 1) (ch:=[e]) J1 (fun c o d q=>(D.2 c (fun z=>d (by simp[z]))).trans q) fun c d=>t c (by simp only[aj,bo,or_false]at d⊢;simp[d]);have S:xG N s.heap.objs.size #[.int i s.toks,ux]:=⟨_,(D.2 _ (cM p)).trans hT,rfl,_,rfl,rfl⟩;obtain⟨fT,J3⟩:=I.pairNew (x:= .int (i:Int)) (cN _) J2 S ⟨s.toks,rfl⟩ F;refine iap (.ref s.heap.objs.size) _ (⟨J3,rfl,(iap _ x ⟨rfl,fT,rfl,fun l hl=>by rw[I.list_inj hl A];exact ex⟩),⟨⟨_,by simpa using V⟩,r.at fun o y=>(D.2 it B.symm).trans y⟩,fun c d=>?_⟩);rw[gx (fun q=>?_)];·exact(t c d).1
  ·have lt:c<s.heap.objs.size:=by
    refine eae m fun o4 e4 _=>?_;simp only[aj,bo,or_false]at d;rcases d with q|q<;>subst q;·exact p
    ·exact fZ e4
   exact absurd lt (by rw[q];exact cG _)
 done:=by
  intro X Y Q Z d i J s C H E I t f U;subst Y Q Z;refine eae U fun xs A ei=>?_;refine eah (I.list A) fun n G L z1=>?_;obtain⟨j,m⟩:=f;have W:=WalksT.enumerate (prog:=X.prog) (w:=X.w) (I.ok.hd d) e it a B h2 h3 n.toArray;have l1:=G.length;have q:i=n.toArray.size:=by simp only[ay];lia
  subst q;exact W.done s _ _ ⟨j,m,L.isList⟩ fun B tk T=>⟨rfl,I.turnedL T t⟩
 self:=fun _ _ _ _ _ f h=>by obtain⟨⟨g,j⟩,_⟩:=f;exact J5 j h
def Ht (K:Zp) (f:TA):TI:=fun c H R=>f c H fun e b=>∃a,e=[.ref a]/\(∃d,SqL K b a d)/\R (Ite K a) b
section
variable {X:Cx}
def DP(B:Gl X "enumerate") (z:X.mg "enumerate"=none) (C:PA X [a] ta) (y:autoParam (IQ [a] X.env=[(false,eval a X.env)]) auR._auto_1):
  PI X (.Tuple es kk tp) (.Call (.Name "enumerate" p) [a] [] pos) (Ht X.K ta):=by
 intro r s l H R I h;refine Call_ (p7 I B z qa (gi (thn (C pos r s l H _ I h) ?_) y rfl));refine fun K f=>fad fun J D b o d=>?_;obtain⟨v,e,⟨F,d⟩,q⟩:=d;subst e;refine eae (qi o) fun u m n=>?_;subst m;cases n;refine eah (b.list d) fun w G t E=>?_;have L:@LT.lt Nat _ v f.heap.objs.size:=SqL.old b d;refine call_enumerate_list t.isList fun M j g x A=>J5 j ?_;refine iac _ _ _ _ D rfl (b.kept (t':=f.toks) A) (zb (fun(h:@Eq Nat _ _)=>by lia) (fun(h:@Eq Nat _ _)=>by lia) (fun(h:@Eq Nat _ _)=>by lia)) (⟨⟨_,j⟩,g⟩) (fun c i=>?_) q;have k:f.heap.objs.size<=c:=by simp only[aj,bo,or_false]at i;rcases i with h|h<;>rw[h]<;>first|exact cN _|exact cR _ _
 exact b.fpOk k (b.hok.fresh k)
end
def LcG (J:It) (g:TG) (j:TE) (Q:VK) (i:St) (H1:Hp) (D:Zx):Prop:=
 ∃W:Nat->Nat->St->Hp->Prop,(∃m,W 0 m i (upd H1 D (.lst [])))/\∀k m b c,W k m b c->
  (J.stop k c/\Q (.ref D) c)\/(J.go k c/\∀v h,J.yld k c v h->g v b h fun a l=>j a l fun y f=>∃d,f D=some (.lst d)/\d.length<sizeLine/\∃e,e<m/\W (k+ 1) e a (upd f D (.lst (d++[y]))))
def tLG (c:TI) (f:St->St) (g:TG) (d:TE):TE:=fun a H Q=>c a H fun J b=>∀D,b D=none->LcG J g d Q (f a) b D
def zc(hc:X.calm=true) (B:qN X N scope cl f i x) (hi:PI X (.Tuple es kk tp) iter wi)
  (hg:∀C E G ex m,PG (blk X N scope cl C E G ex m) (.Tuple es kk tp) g) (hte:∀C E G ex m,PE (blk X N scope cl C E G ex m) elt te)
  (hs:autoParam (∀x,JK iter X.env x=pure x) auI._auto_1):PE X (.ListComp elt [⟨.Tuple es kk tp,iter,[],0⟩] scope pos) (tLG wi f g te):=by
 intro m s σ H Q I h;rw[eval_ListComp];refine wpAny_comprehension_free (use:=none) rfl hs B.clos B.kind B.names (thn (hi m s σ H _ I h) fun xv s1 h1=>thn h1 fun itv a h2=>?_);refine ear h2 fun it l tn J A z0 I2 T st2 f2 q=>?_;subst z0;have hD:A a.heap.objs.size=none:=I2.fresh;refine eax (q _ hD) fun W y0 turn=>?_;obtain⟨m0,w0⟩:=y0;refine J4 (wpAny_newFunctionEnv B.cell (by intro y hy;simp at hy) (fun F w t=>?_) B.kind);have I3:Inv X m σ (upd A a.heap.objs.size (.lst [])) {a with heap:=a.heap.push {cls:= .type "list",data:= .seq ([]:List Zz).toArray}}:=I2.lnew (its:=[]) (ys:=[]) (t':=a.toks) .nil (cO _);have lt2:∀b∈l,b<a.heap.objs.size:=fun b j=>by refine eae (T.obj _ _ st2 b j) fun o ho _=>?_;exact fZ ho
 have fp3:∀b∈l,xH X m (upd A a.heap.objs.size (.lst [])) b:=fun b j=>by refine⟨?_,(f2 b j).2⟩;rw[gx (cH (lt2 b j))];exact(f2 b j).1
 generalize hs3:({a with heap:=a.heap.push {cls:= .type "list",data:= .seq ([]:List Zz).toArray}}:Zy)=s3 at I3 w t⊢;have eh:a.heap.push {cls:= .type "list",data:= .seq ([]:List Zz).toArray}=s3.heap:=by rw[<-hs3]
 have lt3:∀b∈l,b<s3.heap.objs.size:=fun b j=>by rw[<-eh,f9];exact Nat.lt_succ_of_lt (lt2 b j)
 have old:∀b o,s3.heap.get? b=some o->F.get? b=some o:=fun b o e=>t.extBut b o (cH (fZ e)) (f7 _ e);have I4:=y6 (tk:=s3.toks+([]:List (Str×Zz)).length) B I3 (ex:=l) (fun b j=>⟨fp3 b j,lt3 b j⟩) old w;have st4:tn 0 F:=T.keep _ _ _ st2 fun b _ o e=>old b o (by rw[<-eh];exact f7 _ e);have Y:∀{K:Hp},(∀b∈l,K b=none)->∀b∈l,xH (blk X N scope cl s3.heap.objs.size s3 (upd A a.heap.objs.size (.lst [])) l m) [] K b:=fun{K} hn b j=>by refine eai (f2 b j) fun _ g2 g3 g4 g5 g6=>?_;refine⟨hn b j,cH (lt3 b j),fun z=>(aj.mp (I3.stkSub b z)).elim g2 g3,.inl j,fun y c e=>g5 y c (B.lk y c e),fun p hp=>?_⟩;rw[aD]at hp;exact g6 p hp
 have P:∀s4:Zy,s4={s3 with heap:=F,toks:=s3.toks+([]:List (Str×Zz)).length}->
   codeAny (model X.prog X.w) X.A (.compLoop (.ListComp elt [⟨.Tuple es kk tp,iter,[],0⟩] scope pos) 0 (.ref it) (.ref a.heap.objs.size) (compEnvC scope cl s3.heap.objs.size X.env))
    (compPost (model X.prog X.w) X.A X.xe none (EP X m σ Q) (.ref a.heap.objs.size) s3.heap.objs.size) s4:=by
  rintro s4 rfl;refine PyProof.Rows.LCp.codeAny_compLoop_pair (I:=fun n s'=>∃k D K,Inv (blk X N scope cl s3.heap.objs.size s3 (upd A a.heap.objs.size (.lst [])) l m) [] D K s'/\tn k s'.heap/\(∀b∈l,K b=none)/\W k n D K) ?_ m0
   (iae 0 (f σ) _ I4 st4 (fun b j=>(fp3 b j).1) w0);refine fun n s5=>faa fun k M O=>fac fun I5 st5 fr5 w5=>?_;rcases turn k n M O w5 with⟨stop,qn⟩|⟨go,step⟩
  ·refine I0 (T.done (blk X N scope cl s3.heap.objs.size s3 (upd A a.heap.objs.size (.lst [])) l m) rfl rfl rfl hc k [] s5 M O _ I5 (Y fr5) st5 stop) (fun r s6 h6=>?_) fun _ _ z=>z;obtain⟨hr,Z⟩:=h6;subst hr;refine eae (id Z.loc) fun m6 hn6 _=>?_;refine io m6 hn6 (fun h' sb=>?_);have nC:∀b o,s3.heap.get? b=some o->b≠s3.heap.objs.size:=fun b o e=>cH (fZ e);have S:Un (frs X.stack) l (upd A a.heap.objs.size (.lst [])) O s3.heap s6.heap:=Z.base;have u7:Un (frs X.stack) l (upd A a.heap.objs.size (.lst [])) O s3.heap h':=
    ⟨fun b o e z1 z2 z3=>(sb.2 b (nC b o e)).trans (S.keep b o e z1 z2 z3),fun b o e z1 z2 z3=>by obtain⟨sl,e1⟩:=S.slot b o e z1 z2 z3;exact⟨sl,(sb.2 b (nC b o e)).trans e1⟩,S.free,fun b o e z=>by obtain⟨o',e1⟩:=S.there b o e z;exact⟨o',(sb.2 b (nC b o e)).trans e1⟩,S.tups,S.frzs,S.tbls⟩;have hok7:HOk X.prog X.w O h':=fun b o e=>(Z.hok b o e).stay (fun c w' hcc e1=>(sb.2 c (fun z=>by
     have fr:O s3.heap.objs.size=none:=Z.free;rcases hcc with y|y;·rw[<-y,z,fr]at e;cases e
     ·rw[z,fr]at y;cases y)).trans e1) (fun _ z=>z) fun _ _ z=>z;have I7:Inv X m σ O {s6 with heap:=h'}:=I3.call' (s':={s6 with heap:=h'}) (ch:=l) Z.os u7 hok7 Z.bare fun b j=>by refine eai (f2 b j) fun _ g2 g3 g4 g5 g6=>?_;exact⟨g4,g2,g5,g6⟩
   exact iab (.ref a.heap.objs.size) O I7 rfl qn
  ·refine I0 (T.item (blk X N scope cl s3.heap.objs.size s3 (upd A a.heap.objs.size (.lst [])) l m) rfl rfl rfl hc k [] s5 M O _ I5 (Y fr5) st5 go) (fun r s6 h6=>?_) fun _ _ z=>z;obtain⟨u,hr,h6⟩:=h6;subst hr;refine I0 h6 (fun _ s7 h7=>?_) fun _ _ z=>z;refine eap h7 fun v H7 I7 r7 y7 U fr7=>?_;have I7':=I7.pinned (Y fr7) (T.obj _ _ U);have back:∀{L:St} {H9:Hp} {s9:Zy},Inv (blk X N scope cl s3.heap.objs.size s3 (upd A a.heap.objs.size (.lst [])) l m) ([]++sx l s7.heap) L H9 s9->(∃V,V<n/\W (k+ 1) V L H9)->
     ∃V,V<n/\∃k D K,Inv (blk X N scope cl s3.heap.objs.size s3 (upd A a.heap.objs.size (.lst [])) l m) [] D K s9/\tn k s9.heap/\(∀b∈l,K b=none)/\W k V D K:=fun{L H9 s9} I9 q9=>by refine eae q9 fun V hm w9=>?_;refine⟨V,hm,k+ 1,L,H9,I9.unpinned,T.keep _ _ _ U fun b j o e=>(I9.pin (b,o) (ax _ (ax _ (kG j e)))).1,fun b j=>?_,w9⟩;refine eae (T.obj _ _ U b j) fun o e d=>?_;exact(I9.pin (b,o) (ax _ (ax _ (kG j e)))).2.1
   refine I0 (hg s3.heap.objs.size s3 (upd A a.heap.objs.size (.lst [])) l m _ s7 M H7 v u _ I7' r7 (step v H7 y7)) (fun _ s8 h8=>?_) fun _ _ z=>IX z;refine ead h8 fun σ8 H8 I8 q8=>?_;refine I0 (hte _ _ _ _ _ _ s8 _ H8 _ I8 q8) (fun y s10 h10=>?_) fun _ _ z=>IX z;refine eaD h10 fun R H10=>fab fun I10 r10=>fL fun xs=>fab fun hx10 hz q10=>?_;refine I0 (iu (X:=blk X N scope cl s3.heap.objs.size s3 (upd A a.heap.objs.size (.lst [])) l m) _ s10 _ H10 (.ref a.heap.objs.size) [R] _ [y] (fun _ H11=>H11=upd H10 a.heap.objs.size (.lst (xs++[R]))) I10 rfl (.cons r10 .nil) (iah _ xs R rfl rfl hx10 hz rfl)) (fun _ s11 h11=>?_) fun _ _ z=>IX z;refine eal h11 fun _ H11 I11 _ e11=>?_;subst e11;exact back I11 q10
 exact codeAny_compStart_list (P _ rfl) (T.self _ 0 _ _ _ st4 (P _ rfl))
def Fq(q:a.kind= .function) (f:∀p∈a.names,p.2≠ .cell/\p.2≠ .free) (o:∀y∈a.names,y.2= .local->a.names.lookup y.1=some .local)
  (n:a.names.lookup x=some .local) (d:[x,y].Nodup) (r:J0 a X.env=pure []):qN X [x,y] a [] (fun _=>[none,none]) 0 x where
 kind:=q
 cell:=fun y l=>(f y l).1
 names:=o
 clos:=r
 lk:=fun y c h=>by simp at h
 has:=fun y h=>by
  rcases h with h|h
  ·refine eax (iH h) fun j e z=>?_;have m:=f _ (IV e);rcases z with z|⟨z,_⟩;·exact absurd z.symm m.1
   ·exact absurd z m.2
  ·refine eax (iH h) fun j e z=>?_;have m:=f _ (IV e);rcases z with z|⟨z,_⟩;·exact absurd z.symm m.2
   ·exact absurd z m.2
 nd:=d
 ix:=rfl
 loc:=n
 len:=fun _ _=>rfl
 val:=fun s k y v t g=>by
  match k with
  |0=>simp at g
  |1=>simp at g
  |k+ 2=>simp at g
theorem pD {z:Str}:∀{a:List (Str×Nat×Zx)},z∈a.map (·.1)->∃c,(a.map fun p=>(p.1,p.2.2)).lookup z=some c
 |[],h=>by simp at h
 |p::r,h=>by
  cases e:z==p.1 with
  |true=>exact⟨p.2.2,by simp only[aB,aZ,e]⟩
  |false=>
   have q:z∈r.map (·.1):=by
    rcases aj.mp h with y|y;·rw[y]at e;simp at e
    ·exact y
   obtain⟨c,b⟩:=pD q;exact⟨c,by simp only[aB,aZ,e];exact b⟩
def blkC(j:Zd) (b:List (Str×Nat×Zx)) (d:b.map (·.1)=j) (F:a.kind= .function) (t:∀p∈a.names,p.2≠ .cell/\(p.2= .free->p.1∈j)) (E:∀y∈a.names,y.2= .local->a.names.lookup y.1=some .local)
  (C:a.names.lookup x=some .local) (s:(x::j).Nodup) (G:J0 a X.env=pure (b.map fun p=>(p.1,p.2.2))) (r:X.env.scope.kind= .function)
  (h:∀p∈b,a.names.lookup p.1=some .free/\X.env.cells.lookup p.1=some p.2.2/\X.env.scope.names.lookup p.1=some .cell/\X.N[p.2.1]?=some p.1):
  qN X (x::j) a (b.map fun p=>(p.1,p.2.2)) (fun i=>none::b.map fun p=>i.getD p.2.1 none) 0 x where
 kind:=F
 cell:=fun y B=>(t y B).1
 names:=E
 clos:=G
 lk:=fun z c q=>by have m:=IV q;refine eae (bg.mp m) fun p D e=>?_;cases e;exact(h p D).2.1
 has:=fun z q=>by
  refine pD ?_;rw[d];rcases q with q|q
  ·refine eae (iH q) fun A e q=>?_;have m:=t _ (IV e);rcases q with q|⟨q,_⟩;·exact absurd q.symm m.1
   ·exact m.2 q
  ·refine eae (iH q) fun A e q=>?_;have m:=t _ (IV e);rcases q with q|⟨q,_⟩;·exact m.2 q.symm
   ·exact m.2 q
 nd:=s
 ix:=rfl
 loc:=C
 len:=fun _ _=>by simp[<-d]
 val:=fun i k z v f l=>by
  cases k with
  |zero=>simp at l
  |succ k=>
   rw[<-d,bp,aM]at f;rw[bp,aM]at l
   cases e:b[k]? with
   |none=>rw[e]at f;cases f
   |some p=>
    rw[e]at f l;have H:p.1=z:=dj.inj f;have g:i.getD p.2.1 none=some v:=dj.inj l;subst H;refine eaj (h p (aN e)) fun J K w I=>?_;rw[bq]at g;refine⟨p.2.1,I,?_,w,jK r w J⟩
    cases q:i[p.2.1]? with
    |none=>rw[q]at g;cases g
    |some o=>rw[q]at g;exact congrArg some g
theorem Cn:∀{a:List String} {us:List Zz},jh (a.map V.ty) us->us=a.map Value.type
 |[],_,.nil=>rfl
 |c::a,_,.cons h r=>by cases(show _=Value.type c from h);rw[Cn r];rfl
section
variable {X:Cx}
def uH:oE X (.builtin "isinstance") (fun j H Q=>∃(x:V) (m:Zx) (w:List String) (t:Zz) (b:Bool),j=[x,.ref m]/\H m=some (.tup (w.map V.ty))/\vz X.K H x t/\PySem.W.kitAny X.K t (w.map Value.type)=some b/\Q (.bl b) H):=by
 intro P s L H j us Q I r h;refine eaG h fun x m w t b=>fah fun A F M e q=>?_;subst A;refine eal (A2 r) fun u u' A d D=>?_;subst A;cases D;refine eay ((show jm X.prog X.w H s.heap m (.tup (w.map V.ty))from I.hok m _ F)) fun _=>fL fun W=>f8 fun N=>fL fun o=>fab fun f hc=>fL fun n=>f8 fun hd _=>?_;cases Cn N;obtain⟨T,S,E,R⟩:=o;cases(show T=_ from hc);cases(show E=_ from hd);have c:∀B,EP X P L Q (.bool b) {s with toks:=B}:=fun B=>(iap (.bl b) H ⟨I.tok B,rfl,q⟩)
 cases M with
 |non=>cases(show u=Jm from d);exact eM dY I.kIn Jd f e (fun z=>nomatch z) c
 |bl y=>cases(show u=Jn y from d);exact eM dZ I.kIn Jd f e (fun z=>nomatch z) c
 |int i=>obtain⟨t,q⟩:=(show ∃t,u=Value.int i t from d);cases q;exact eM PySem.W.kitx_int I.kIn Jd f e (fun z=>nomatch z) c
 |str y=>obtain⟨t,q⟩:=(show ∃t,u=Value.str y t from d);cases q;exact eM PySem.W.kitx_str I.kIn Jd f e (fun z=>nomatch z) c
 |flt y=>obtain⟨t,q⟩:=(show ∃t,u=Value.float y t from d);cases q;exact eM d7 I.kIn Jd f e (fun z=>nomatch z) c
 |@lst a j g=>cases(show u=IP a from d);refine eaa ((show jm X.prog X.w H s.heap a (.lst j)from I.hok a _ g)) fun _ _ n _ k=>?_;exact eM ee I.kIn ⟨_,k,rfl⟩ f e (fun z=>nomatch z) c
 |@frz a U j g=>cases(show u=IP a from d);refine eaz ((show jm X.prog X.w H s.heap a (.frz U (.lst j))from I.hok a _ g)) fun _ _=>faf fun _ n=>f8 fun _ k=>?_;exact eM ee I.kIn ⟨_,k,rfl⟩ f e (fun z=>nomatch z) c
 |@tup a j g=>cases(show u=IP a from d);refine eay ((show jm X.prog X.w H s.heap a (.tup j)from I.hok a _ g)) fun _=>fL fun _=>f8 fun _ p=>?_;refine eah p fun o k v _=>?_;exact eM eg I.kIn ⟨o,k,v⟩ f e (fun z=>nomatch z) c
 |@dK a l g=>cases(show u=IP a from d);refine ean ((show jm X.prog X.w H s.heap a (.dK l)from I.hok a _ g)) fun _ _ vs _ p=>?_;refine eag p fun o es ep k v _=>?_;exact eM eB I.kIn ⟨o,k,v.1⟩ f e (fun z=>nomatch z) c
 |@dT a l g=>cases(show u=IP a from d);refine eaz ((show jm X.prog X.w H s.heap a (.dT l)from I.hok a _ g)) fun _ _=>fL fun j=>f8 fun _=>faa fun o es ep=>fab fun k v _=>?_;exact eM eB I.kIn ⟨o,k,v.1⟩ f e (fun z=>nomatch z) c
 |@ins a C dx fs g K ha Y G Z=>cases(show u=IP a from d);refine eae (qI I.hok g) fun mA O _=>?_;refine eae O.look fun S J _=>?_;exact eM (PySem.W.kitx_own (K.get _) K.hd ha Y G Z) I.kIn J f e (fun z=>nomatch z) c
end
structure IF (K:Zp) (C:Zx) (m:Str) (f:Zx):Prop where
 ga:dS K (.ref C) "__getattribute__"=some (some (.builtin "type.__getattribute__"))
 rd:∃mc,PySem.W.readsIn K C mc=true/\PySem.W.findCls K (.ref C) mc m=some (.val (.ref f))
 kp:dW K (.ref f)=true
section
variable {X:Cx} {CX:CXT} {k:Nat} {f C:Zx} {fd:Zs} {ps:Zd} {sp:Sp} {dvs:List V} {ds:List Zz} {E:XK} {m:Str} {pos apos:Pos} {e o:Zr} {es:List Zr} {t:TA}
def tF {pl:Sem Bool} (he:PE X o (tC (.ref C))) (c:IF X.K C m f) (F:rN X.prog X.w X.K X.mg X.base CX k f fd ps sp) (hr:mC k X.A) (hb:m7 X.K fd ps ds) (hd:jh dvs ds) (hx:m8 CX X E) (ha:PA X (e::es) t)
  (hst:autoParam (IQ (e::es) X.env=(false,eval e X.env)::IQ es X.env) auR._auto_1) (hpl:autoParam ((Jo pos (IQ es X.env)).any (·.1)=false) auR._auto_1)
  (ht:eval (.Call (.Attribute o m apos) (e::es) [] pos) X.env=(do
   let ov<-eval o X.env
   standAt apos.atName
   let(f,first)<-holding [ov] (getMethod ov m pl)
   callWith pos f first (Jo pos (IQ (e::es) X.env)) (backToKw pos (JO [] X.env))):=by rfl):
  PE X (.Call (.Attribute o m apos) (e::es) [] pos) (qJ sp dvs E t):=by intro pz s σ H Q I h;refine eE (pl:=pl) (thn (he pz s σ H (fun v H1=>v= .ref C/\qJ sp dvs E t σ H1 Q) I ⟨rfl,h⟩) ?_) ht;refine fun u s1=>faf fun x H1=>fac fun I1 rx z0 q=>?_;subst z0;obtain rfl:u=IP C:=rx;refine eae c.rd fun mc hr1 hf=>?_;refine PySem.W.method_cls I1.kIn c.ga (PySem.W.cls_value I1.kIn hr1 hf rfl ?_);refine eC (first:=[]) (h₀:=X.base) I.ok.mod.kin c.kp (thn (ha pos pz _ σ H1 _ (I1.tok (s1.toks+ 1)) q) fun us s2 ⟨vs,H2,I2,r,q2⟩=>⟨I2.kIn,?_⟩) hst hpl;exact ur (us:=us) (vs:=vs) F hr hb hd hx I2 r q2
def PE.or {e:Zr} {t u:TE} (h:PE X e t) (h':PE X e u):PE X e (fun a H Q=>t a H Q\/u a H Q):=fun b s a H Q I c=>c.elim (h b s a H Q I) (h' b s a H Q I)
def PI.or {b e:Zr} {t u:TI} (h:PI X b e t) (h':PI X b e u):PI X b e (fun a H R=>t a H R\/u a H R):=fun c s a H R I d=>d.elim (h c s a H R I) (h' c s a H R I)
end
section
variable {X:Cx}
def Co:IZ "max"=some (.builtin "max"):=gG
def zd (o:X.calm=true):oE X (.builtin "sum") (fun c H Q=>∃(a:Zx) (d:List Int),c=[.ref a]/\SqL X.K H a (d.map V.int)/\∀n,Q (.int n) H):=by intro y s t H c w Q I r h;refine eaH h fun a d b k q=>?_;subst b;refine eax (qi r) fun u b i=>?_;subst b;cases i;refine eaE (I.list k) fun j g p z=>?_;obtain⟨v,e⟩:=(sF g).allInts.items;have l:=p.isList;rw[e]at l;exact sum_intListG (I.ok.hd o) l fun A f x m=>(iab (.int _) H (I.kept (t':=f) m) ⟨_,rfl⟩ (q _))
end
def tG{j:Nat}
  (hc:X.calm=true) (B:qN X N scope cl f i x) (hi:PI X (.Name x px) iter wi)
  (u:∀C a g J k,PTs (blk X N scope cl C a g J k) ifs tt) (w:∀C a g J k,PE (blk X N scope cl C a g J k) elt te)
  (hN:X.N.Nodup) (hj:X.N[j]?=some y) (Y:Loc X.env.scope y) (A:autoParam (swapsWith (.ListComp elt [⟨.Name x px,iter,ifs,0⟩] scope pos) (some (.Name y py)) spos.line X.env=pure true) auR._auto_1) (Z:autoParam (∀x,JK iter X.env x=pure x) auI._auto_1)
  (hf:autoParam (X.fn y=true\/X.env.scope.names.lookup y=some .local) auL._auto_1):PS X (.Assign [.Name y py] (.ListComp elt [⟨.Name x px,iter,ifs,0⟩] scope pos) spos) (AU (tLC wi f i tt te) (gX j)):=by
 intro k s K H En I h;rw[exec_Assign_Name_used _ _ _ _ A];refine C6 (wpAny_standAt (C6 ?_));show C7 _ X.A (do let _<-comprehension (.ListComp elt [⟨.Name x px,iter,ifs,0⟩] scope pos) scope X.env _ (newList []) false (eval iter X.env) (some (assign (.Name y py) X.env))) _ _ s;refine C6 (I0 (y8 (Qp:=fun _ M=>SP X k En .next M) hc B hi u w Z I h fun fl l L H3 R d W r Q fr F U=>?_) (fun _ M hq=>IT (IT hq)) fun _ _ e=>e);refine eag (id F) fun t es ep E m G=>?_;have n:l.heap.objs.size≠X.env.locals:=cM r.lt;have I8:Inv X (k++[(l.heap.objs.size,t)]) K R L:=Q.pins_of fun p D=>(ak.mp D).elim (fun z=>Q.pin p (ax _ z)) fun z=>by
  have ez:p=(l.heap.objs.size,t):=by simpa using z
  subst ez;exact⟨E,fr,n,r.nofs (cN _),fun v q=>by rw[m]at q;cases q⟩
 show C7 _ X.A (assign (.Name y py) X.env (.ref d)) _ _ L;refine wpAny_assign_Name (qq (X:=X) I8 hN hj Y (v:= .ref d) rfl (fun T P=>?_) hf);have O:=P.pin (l.heap.objs.size,t) (ax _ (ax _ (by simp)));refine⟨W,(iar t es ep ⟨O.1,m,G⟩),fun h' S=>?_⟩;refine iap (K.set j (some (.ref d))) R ⟨?_,U⟩;exact Inv.turned (h':=h') (t':=T.toks) (it:=l.heap.objs.size) P.unpinned (fun b o hb e=>(S.2 b hb).trans e) O.2.1 n (.inr r.sz) (fun z c e q=>by obtain⟨v,V⟩:=r.cell z c e;exact absurd (q▸V.lt) (cG _)) fun p D q=>absurd (q▸fZ (r.pin p D).1) (cG _)
section
variable {prog:Zu} {w:Zv} {A:Zw} {E:Zb} {s:Zy}
def Cr{its} (g:s.heap.IsTupleIter j t i) (d:s.heap.IsTuple t its) (e:its[i]?=some x)
  (k:∀c,c.IsTupleIter j t (i+ 1)->JT j s.heap c->Q x {s with heap:=c}):C7 (model prog w) A (IY (.ref j)) Q E s:=by refine eah (id g) fun m b f a=>?_;refine eaF d fun n=>fab fun l _=>fL fun o h=>?_;unfold IY;refine C6 (JC (name:=Str.ofString "__next__") g.typeIs Jy (JL Jy g.typeIs F.entry_tuple_iterator_next ?_ (F.args_tuple_iterator_next_1 _)));show C7 _ _ (field (.ref j) 0 >>= _) _ _ s;refine C6 (Jk b a (x:= .ref t) rfl ?_);show C7 _ _ (if(IP t==Jm)=true then _ else _) _ _ s;rw[gU (show ¬((IP t==Jm)=true)from fun q=>nomatch q)];show C7 _ _ (field (.ref j) 1 >>= _) _ _ s;refine C6 (Jk b a (x:= .int i 0) rfl ?_);refine C6 (Ju l h ?_);simp only[fO,e];refine C6 (wpAny_setField b a (by simp) (IT ⟨x,rfl,IT (k _ ?_ (Heap.SameBut.update ..))⟩));exact⟨_,gf _ b (Obj.isFreed_of_fields (Obj.data_mapFields a _)),(Obj.cls_mapFields ..).trans f,by rw[Obj.data_mapFields a];simp[rawInt]⟩
def sH{its} (h:A.handled=none) (g:s.heap.IsTupleIter j t i) (d:s.heap.IsTuple t its) (e:its[i]?=none)
  (k:∀b x,Heap.ExtBut j s.heap b->(∃o,b.get? x=some o/\o.cls= .type "StopIteration")->E (.ref x) {s with heap:=b}):C7 (model prog w) A (IY (.ref j)) Q E s:=by
 refine eaE (id g) fun p c u f=>?_;refine eaF d fun r=>fab fun n _=>fL fun v l=>?_;unfold IY;refine C6 (JC (name:=Str.ofString "__next__") g.typeIs Jy (JL Jy g.typeIs F.entry_tuple_iterator_next ?_ (F.args_tuple_iterator_next_1 _)));show C7 _ _ (field (.ref j) 0 >>= _) _ _ s;refine C6 (Jk c f (x:= .ref t) rfl ?_);show C7 _ _ (if(IP t==Jm)=true then _ else _) _ _ s;rw[gU (show ¬((IP t==Jm)=true)from fun q=>nomatch q)];show C7 _ _ (field (.ref j) 1 >>= _) _ _ s;refine C6 (Jk c f (x:= .int i 0) rfl ?_);refine C6 (Ju n l ?_);simp only[fO,e];refine C6 (JH (C6 (wpAny_setField c f (by simp) ?_)));show C7 _ _ (newExc (.type "StopIteration") [] >>= _) _ _ _;refine C6 ?_;simp only[newExc,newTuple];refine C6 (J4 ?_ (by size_fits));refine C6 (m:=firstArgMember _ _) (wpAny_of_eq (a:=Jm) (by first|rfl|(unfold firstArgMember;rfl)) ?_);refine J4 ?_ (by size_fits);simp only[raiseNew];refine C6 (wpAny_handled ?_);first|rw[h]|rw[show A.in1.handled=none from h]
 exact C6 (IT (wpAny_throw (k _ _ (((Heap.SameBut.update ..).extBut.push _).push _) ⟨_,f6 _ rfl,rfl⟩)))
end
def SqT.old {c:Za} {b:St} {H:Hp} {s:Zy} {a:Zx} {xs:List V} (I:Inv X c b H s) (h:SqT X.K H a xs):a<s.heap.objs.size:=by refine eaE (I.tuple h) fun d _ p _=>?_;refine eax p fun o e _=>?_;exact fZ e
def SI (c:String) (h:Zt) (j t:Zx) (i:Nat):Prop:=∃o,h.get? j=some o/\o.cls= .type c/\o.data= .fields #[.ref t,.int i 0]
def SI.extBut {c:String} {h h':Zt} {b t:Zx} {i:Nat} (g:SI c h j t i) (e:Heap.ExtBut b h h') (n:j≠b):SI c h' j t i:=let⟨o,e1,r⟩:=g;⟨o,e _ _ n e1,r⟩
structure Sk where
 it:String
 S:Zt->Zx->Array Zz->Prop
 Sq:Zp->Hp->Zx->List V->Prop
 ext:∀{h h':Zt} {a b:Zx} {xs:Array Zz},S h a xs->Heap.ExtBut b h h'->a≠b->S h' a xs
 push:∀{h:Zt} {a:Zx} {xs:Array Zz},S h a xs->∀o,S (h.push o) a xs
 nx:∀{prog:Zu} {w:Zv} {A:Zw} {E:Zb} {s:Zy} {j t:Zx} {i:Nat} {its:Array Zz} {x:Zz} {Q:Zb},SI it s.heap j t i->S s.heap t its->its[i]?=some x->(∀h',SI it h' j t (i+ 1)->JT j s.heap h'->Q x {s with heap:=h'})->C7 (model prog w) A (IY (.ref j)) Q E s
 ne:∀{prog:Zu} {w:Zv} {A:Zw} {E:Zb} {s:Zy} {j t:Zx} {i:Nat} {its:Array Zz} {Q:Zb},A.handled=none->SI it s.heap j t i->S s.heap t its->its[i]?=none->(∀h' x,Heap.ExtBut j s.heap h'->(∃o,h'.get? x=some o/\o.cls= .type "StopIteration")->E (.ref x) {s with heap:=h'})->C7 (model prog w) A (IY (.ref j)) Q E s
 iter:∀{prog:Zu} {w:Zv} {A:Zw} {E:Zb} {s:Zy} {t:Zx} {its:Array Zz} {Q:Zb},S s.heap t its->Q (.ref s.heap.objs.size) {s with heap:=s.heap.push {cls:= .type it,data:= .fields #[.ref t,.int 0 0]}}->C7 (model prog w) A (pyIter (.ref t)) Q E s
 inv:∀{X:Cx} {pz:Za} {σ:St} {H:Hp} {s:Zy} {a:Zx} {xs:List V},Inv X pz σ H s->Sq X.K H a xs->∃its,jh xs its/\S s.heap a its.toArray/\xs.length<=sizeLine
 inj:∀{X:Cx} {pz:Za} {σ:St} {H:Hp} {s:Zy} {a:Zx} {xs ys:List V},Inv X pz σ H s->Sq X.K H a xs->Sq X.K H a ys->xs=ys
 old:∀{X:Cx} {pz:Za} {σ:St} {H:Hp} {s:Zy} {a:Zx} {xs:List V},Inv X pz σ H s->Sq X.K H a xs->a<s.heap.objs.size
def tS:Sk:=⟨"tuple_iterator",Heap.IsTuple,SqT,fun a b c=>a.extBut b c,fun a o=>a.push o,fun a b c d=>Cr a b c d,fun a b c d e=>sH a b c d e,fun a b=>JU a b,fun I q=>I.tuple q,fun I a b=>I.tuple_inj a b,fun I q=>SqT.old I q⟩
def lS:Sk:=⟨"list_iterator",Heap.IsList,SqL,fun a b c=>a.extBut b c,fun a o=>a.push o,fun a b c d=>wpAny_nextOf_list_item a b c d,fun a b c d e=>wpAny_nextOf_list_end a b c d e,fun a b=>wpAny_pyIter_list a b,fun I q=>let⟨its,r,p,z⟩:=I.list q;⟨its,r,p.isList,z⟩,fun I a b=>I.list_inj a b,fun I q=>SqL.old I q⟩
section
variable {prog:Zu} {w:Zv} {A:Zw} {E:Zb} {s:Zy}
def DQ{u j:Sk} {g d:Zx} (D:ZipApart z g d j1 j2 t1 t2)
  (J:IsZip s.heap z g d .none) (gI:Jl s.heap g (.ref j1) (.ref j2)) (gO:Jl s.heap d a b)
  (g1:SI u.it s.heap j1 t1 k1) (g2:SI j.it s.heap j2 t2 k2) (d1:u.S s.heap t1 xs) (d2:j.S s.heap t2 ys) (ex:xs[k1]?=some x) (ey:ys[k2]?=some y)
  (k:∀l,IsZip l z g d (rawInt s.heap.objs.size)->Jl l d x y->SI u.it l j1 t1 (k1+ 1)->SI j.it l j2 t2 (k2+ 1)->Jl l s.heap.objs.size x y->l.objs.size=s.heap.objs.size+ 1->
   (∀c o,c≠z->c≠d->c≠j1->c≠j2->s.heap.get? c=some o->l.get? c=some o)->Q (.ref s.heap.objs.size) {s with heap:=l}):
  C7 (model prog w) A (Builtin.«zip.__next__» ⟨[.ref z],[]⟩) (fun fin s'=>∃v,fin= .done (.ret v)/\Q v s') E s:=by
 show C7 _ _ (field (.ref z) 2 >>= _) _ _ _;refine C6 (Jk J rfl (x:= .bool false) rfl ?_);show C7 _ _ (field (.ref z) 3 >>= _) _ _ _;refine C6 (Jk J rfl (x:= .ref g) rfl ?_);refine C6 (Ju gI rfl ?_);show C7 _ _ (Ji (.ref z) >>= _) _ _ _;refine C6 ?_;unfold Ji;refine C6 (Jk J rfl (x:= .none) rfl (IT ?_));simp only[if_true];refine C6 (JH (C6 (Jk J rfl (x:= .ref d) rfl ?_)));refine C6 (Jv J (by simp) fun q1 p t=>?_);replace p:IsZip q1 z g d .ellipsis:=p;refine C6 ?_;simp only[br,List.zipIdx_nil,List.forIn_cons,List.forIn_nil];refine C6 (C6 (wpAny_onRaise ?_));show C7 _ _ (IY (.ref j1) >>= _) _ _ _;refine C6 (u.nx (g1.extBut t.extBut D.i1z) (u.ext d1 t.extBut D.l1z) ex fun q2 Z C=>IT ?_);have M:Jl q2 d a b:=C.extBut _ _ D.TOi1 (t.extBut _ _ D.TOz gO);refine C6 (Ju M rfl (C6 (wpAny_updateSeq_pair M fun q3 q B=>?_)));replace q:Jl q3 d x b:=q;refine C6 (wpAny_letGo (IT (C6 (C6 (wpAny_onRaise ?_)))));show C7 _ _ (IY (.ref j2) >>= _) _ _ _;refine C6 (j.nx (((g2.extBut t.extBut D.i2z).extBut C.extBut D.i12.symm).extBut B.extBut D.TOi2.symm) (j.ext (j.ext (j.ext d2 t.extBut D.l2z) C.extBut D.l2i1) B.extBut D.l2TO) ey fun q4 X O=>IT ?_);have L:Jl q4 d x b:=O.extBut _ _ D.TOi2 q;refine C6 (Ju L rfl (C6 (wpAny_updateSeq_pair L fun f i N=>?_)));replace i:Jl f d x y:=i;refine C6 (wpAny_letGo (IT (IT (C6 (Ju i rfl (C6 (wpAny_newTuple ?_)))))));have sz:f.objs.size=s.heap.objs.size:=by rw[N.1,O.1,B.1,C.1,t.1]
 have I:IsZip f z g d .ellipsis:=N.extBut _ _ D.TOz.symm (O.extBut _ _ D.i2z.symm (B.extBut _ _ D.TOz.symm (C.extBut _ _ D.i1z.symm p)));have U:∀c o,c≠z->c≠d->c≠j1->c≠j2->s.heap.get? c=some o->f.get? c=some o:=fun c o m R T S e=>
  N.extBut _ _ R (O.extBut _ _ S (B.extBut _ _ R (C.extBut _ _ T (t.extBut _ _ m e))));have Y:SI u.it f j1 t1 (k1+ 1):=((Z.extBut B.extBut D.TOi1.symm).extBut O.extBut D.i12).extBut N.extBut D.TOi1.symm;have W:SI j.it f j2 t2 (k2+ 1):=X.extBut N.extBut D.TOi2.symm;have F:z<f.objs.size:=fZ I;show C7 _ _ (Builtin.SmallTypes.ownedTupleHandOut (.ref z) (.ref f.objs.size) >>= _) _ _ _;refine C6 ?_;unfold Builtin.SmallTypes.ownedTupleHandOut;have V:IsZip (f.push {cls:= .type "tuple",data:= .seq #[x,y]}) z g d .ellipsis:=f7 _ I;refine C6 (Jv V (by simp) fun q7 n b7=>?_);replace n:IsZip q7 z g d (rawInt f.objs.size):=n;refine Jv n (by simp) fun H h b8=>?_;replace h:IsZip H z g d (rawInt f.objs.size):=h;have P:∀c o,c≠z->f.get? c=some o->H.get? c=some o:=fun c o m e=>b8.extBut _ _ m (b7.extBut _ _ m (f7 _ e));have K:Jl H f.objs.size x y:=b8.extBut _ _ (cM F) (b7.extBut _ _ (cM F) (f6 _ rfl));have G:H.objs.size=f.objs.size+ 1:=by rw[b8.1,b7.1,f9]
 rw[sz]at h K G;refine IT ⟨_,rfl,?_⟩;show Q (.ref f.objs.size) _;rw[sz];refine k H h (P _ _ D.TOz i) ?_ ?_ K G fun c o m R T S e=>P c o m (U c o m R T S e);·refine eax Y fun o e r=>?_;exact⟨o,P _ o D.i1z e,r⟩
 ·refine eax W fun o e r=>?_;exact⟨o,P _ o D.i2z e,r⟩
def Fs{p n:Sk} {m i:Zx} {Q:Fin->Zy->Prop} (M:A.handled=none) (D:ZipApart z m i j1 j2 t1 t2)
  (y:IsZip s.heap z m i .none) (Z:Jl s.heap m (.ref j1) (.ref j2)) (Y:Jl s.heap i a b)
  (N:SI p.it s.heap j1 t1 k1) (g2:SI n.it s.heap j2 t2 k2) (O:p.S s.heap t1 xs) (d2:n.S s.heap t2 ys) (t:xs[k1]?=none\/ys[k2]?=none)
  (k:∀J e,(∀c o,c≠z->c≠i->c≠j1->c≠j2->s.heap.get? c=some o->J.get? c=some o)->(∃o,J.get? e=some o/\o.cls= .type "StopIteration")->E (.ref e) {s with heap:=J}):
  C7 (model prog w) A (Builtin.«zip.__next__» ⟨[.ref z],[]⟩) Q E s:=by
 show C7 _ _ (field (.ref z) 2 >>= _) _ _ _;refine C6 (Jk y rfl (x:= .bool false) rfl ?_);show C7 _ _ (field (.ref z) 3 >>= _) _ _ _;refine C6 (Jk y rfl (x:= .ref m) rfl ?_);refine C6 (Ju Z rfl ?_);show C7 _ _ (Ji (.ref z) >>= _) _ _ _;refine C6 ?_;unfold Ji;refine C6 (Jk y rfl (x:= .none) rfl (IT ?_));simp only[if_true];refine C6 (JH (C6 (Jk y rfl (x:= .ref i) rfl ?_)));refine C6 (Jv y (by simp) fun U g h=>?_);replace g:IsZip U z m i .ellipsis:=g;refine C6 ?_;simp only[br,List.zipIdx_nil,List.forIn_cons,List.forIn_nil];refine C6 (C6 (wpAny_onRaise ?_));show C7 _ _ (IY (.ref j1) >>= _) _ _ _
 cases K:xs[k1]? with
 |none=>
  refine C6 (p.ne M (N.extBut h.extBut D.i1z) (p.ext O h.extBut D.l1z) K fun C e j I=>?_);refine eax I fun F d f=>?_;have v:IsZip C z m i .ellipsis:=j _ _ D.i1z.symm g;have G:e≠z:=fun q=>by subst q;rw[v]at d;cases d;simp at f
  refine Jv v (by simp) fun L _ l=>k L e (fun c o r _ H _ q=>l.extBut _ _ r (j _ _ H (h.extBut _ _ r q))) ⟨F,l.extBut _ _ G d,f⟩
 |some x=>
  have ey:ys[k2]?=none:=t.elim (fun q=>by rw[K]at q;cases q) id;refine C6 (p.nx (N.extBut h.extBut D.i1z) (p.ext O h.extBut D.l1z) K fun C g12 j=>IT ?_);have B:Jl C i a b:=j.extBut _ _ D.TOi1 (h.extBut _ _ D.TOz Y);refine C6 (Ju B rfl (C6 (wpAny_updateSeq_pair B fun L X l=>?_)));refine C6 (wpAny_letGo (IT (C6 (C6 (wpAny_onRaise ?_)))));show C7 _ _ (IY (.ref j2) >>= _) _ _ _;refine C6 (n.ne M (((g2.extBut h.extBut D.i2z).extBut j.extBut D.i12.symm).extBut l.extBut D.TOi2.symm) (n.ext (n.ext (n.ext d2 h.extBut D.l2z) j.extBut D.l2i1) l.extBut D.l2TO) ey fun T e R I=>?_);refine eax I fun F d f=>?_;have u:IsZip T z m i .ellipsis:=R _ _ D.i2z.symm (l.extBut _ _ D.TOz.symm (j.extBut _ _ D.i1z.symm g));have G:e≠z:=fun q=>by subst q;rw[u]at d;cases d;simp at f
  refine Jv u (by simp) fun S _ P=>k S e (fun c o r W H V q=>P.extBut _ _ r (R _ _ V (l.extBut _ _ W (j.extBut _ _ H (h.extBut _ _ r q))))) ⟨F,P.extBut _ _ G d,f⟩
def ze{h g:Sk} {f e:Zx} {Q:Option Zz->Zy->Prop} (D:ZipApart z f e j1 j2 t1 t2)
  (j:IsZip s.heap z f e .none) (m:Jl s.heap f (.ref j1) (.ref j2)) (l:Jl s.heap e a b)
  (p:SI h.it s.heap j1 t1 k1) (n:SI g.it s.heap j2 t2 k2) (t:h.S s.heap t1 xs) (r:g.S s.heap t2 ys) (ex:xs[k1]?=some x) (q:ys[k2]?=some y)
  (k:∀d,IsZip d z f e (rawInt s.heap.objs.size)->Jl d e x y->SI h.it d j1 t1 (k1+ 1)->SI g.it d j2 t2 (k2+ 1)->Jl d s.heap.objs.size x y->d.objs.size=s.heap.objs.size+ 1->
   (∀c o,c≠z->c≠e->c≠j1->c≠j2->s.heap.get? c=some o->d.get? c=some o)->Q (some (.ref s.heap.objs.size)) {s with heap:=d}):
  C7 (model prog w) A (pyNext (.ref z)) Q E s:=by
 have i:s.TypeIs (.ref z) "zip":=⟨_,j,rfl⟩;unfold pyNext;exact C6 (wpAny_attempt (JC (name:=Str.ofString "__next__") i F.slot_zip_next (JL F.slot_zip_next i F.entry_zip_next
   (DQ D j m l p n t r ex q fun d I H G C B v u=>IT (k d I H G C B v u)) (F.args_zip_next_1 _))))
def tH{j i:Sk} {h f:Zx} {Q:Option Zz->Zy->Prop} (q:A.handled=none) (D:ZipApart z h f j1 j2 t1 t2)
  (m:IsZip s.heap z h f .none) (v:Jl s.heap h (.ref j1) (.ref j2)) (u:Jl s.heap f a b)
  (y:SI j.it s.heap j1 t1 k1) (x:SI i.it s.heap j2 t2 k2) (C:j.S s.heap t1 xs) (B:i.S s.heap t2 ys) (d:xs[k1]?=none\/ys[k2]?=none)
  (k:∀g,(∀c o,c≠z->c≠f->c≠j1->c≠j2->s.heap.get? c=some o->g.get? c=some o)->Q none {s with heap:=g}):C7 (model prog w) A (pyNext (.ref z)) Q E s:=by have l:s.TypeIs (.ref z) "zip":=⟨_,m,rfl⟩;unfold pyNext;refine C6 (wpAny_attempt (JC (name:=Str.ofString "__next__") l F.slot_zip_next (JL F.slot_zip_next l F.entry_zip_next (Fs q D m v u y x C B d fun g e n r=>?_) (F.args_zip_next_1 _))));refine eae r fun o p t=>?_;exact C6 (wpAny_isInstance (T:="StopIteration") (b:=true) ⟨o,p,t⟩ isSubtype_stop (IT (k _ n)))
end
abbrev zt1 (u1:Sk) (h:Zt) (t1:Zx):Zt:=h.push {cls:= .type u1.it,data:= .fields #[.ref t1,.int 0 0]}
abbrev zt2 (u1 u2:Sk) (h:Zt) (t1 t2:Zx):Zt:=(zt1 u1 h t1).push {cls:= .type u2.it,data:= .fields #[.ref t2,.int 0 0]}
abbrev zt3 (u1 u2:Sk) (h:Zt) (t1 t2:Zx):Zt:=(zt2 u1 u2 h t1 t2).push {cls:= .type "tuple",data:= .seq #[.ref h.objs.size,.ref (zt1 u1 h t1).objs.size]}
abbrev zt4 (u1 u2:Sk) (h:Zt) (t1 t2:Zx):Zt:=(zt3 u1 u2 h t1 t2).push {cls:= .type "tuple",data:= .seq #[.none,.none]}
abbrev zt5 (u1 u2:Sk) (h:Zt) (t1 t2:Zx):Zt:=(zt4 u1 u2 h t1 t2).push {cls:= .type "zip",data:= .fields #[.none,.bool false,.bool false,.ref (zt2 u1 u2 h t1 t2).objs.size,.ref (zt3 u1 u2 h t1 t2).objs.size]}
def Fu (b a:Sk) (c e:Zx) (xs ys:Array Zz):Meets (Builtin.«zip.__new__» ⟨[.type "zip",.ref c,.ref e],[]⟩) (fun _ R s=>b.S s.heap c xs/\a.S s.heap e ys/\R (.ok (.ret (.ref (zt4 b a s.heap c e).objs.size))) {s with heap:=zt5 b a s.heap c e}):=
 .of_wp fun k w A R s h=>by obtain⟨n,g,d,j,l⟩:=s;refine eao h fun p o h=>?_;have m:=sub_zip;have i:b.S (Shared.heap ⟨n,g,d,j,l⟩) c xs:=p;have f:a.S (Shared.heap ⟨n.push {cls:= .type b.it,data:= .fields #[.ref c,.int 0 0]},g,d,j,l⟩) e ys:=a.push o _;wp_walk using b.iter i,a.iter f;exact⟨_,rfl,h⟩
section
variable {prog:Zu} {w:Zv} {A:Zw} {E:Zb} {s:Zy}
def zf {a b:Sk} (t:a.S s.heap t1 xs) (r:b.S s.heap t2 ys)
  (k:∀d,IsZip d (s.heap.objs.size+ 4) (s.heap.objs.size+ 2) (s.heap.objs.size+ 3) .none->Jl d (s.heap.objs.size+ 2) (.ref s.heap.objs.size) (.ref (s.heap.objs.size+ 1))->
   Jl d (s.heap.objs.size+ 3) .none .none->SI a.it d s.heap.objs.size t1 0->SI b.it d (s.heap.objs.size+ 1) t2 0->(∀c o,s.heap.get? c=some o->d.get? c=some o)->Q (.ref (s.heap.objs.size+ 4)) {s with heap:=d}):
  C7 (model prog w) A (call (.type "zip") [.ref t1,.ref t2]) Q E s:=by
 refine callType_new F.called_zip (by decide) (F.typeCall_zip_2 _ _) (F.newCall_zip_2 _ _) (fun h=>F.args_object_init_3 h _ _) F.entry_zip_new (Fu a b t1 t2 xs ys) ⟨t,r,?_⟩;have g:(zt1 a s.heap t1).objs.size=s.heap.objs.size+ 1:=f9 ..;have f:(zt2 a b s.heap t1 t2).objs.size=s.heap.objs.size+ 2:=by rw[f9,g]
 have e:(zt3 a b s.heap t1 t2).objs.size=s.heap.objs.size+ 3:=by rw[f9,f]
 have j:(zt4 a b s.heap t1 t2).objs.size=s.heap.objs.size+ 4:=by rw[f9,e]
 have i:(zt5 a b s.heap t1 t2).get? (zt4 a b s.heap t1 t2).objs.size=some _:=f6 _ rfl;have l:(zt5 a b s.heap t1 t2).get? (zt3 a b s.heap t1 t2).objs.size=some _:=f7 _ (f6 _ rfl);have m:(zt5 a b s.heap t1 t2).get? (zt2 a b s.heap t1 t2).objs.size=some _:=f7 _ (f7 _ (f6 _ rfl));have n:(zt5 a b s.heap t1 t2).get? (zt1 a s.heap t1).objs.size=some _:=f7 _ (f7 _ (f7 _ (f6 _ rfl)));have p:(zt5 a b s.heap t1 t2).get? s.heap.objs.size=some _:=f7 _ (f7 _ (f7 _ (f7 _ (f6 _ rfl))));show _/\_;rw[f,e,j]at i;rw[g,f]at m;rw[e]at l;rw[g]at n;rw[j];exact⟨⟨_,i,rfl⟩,k _ i m l ⟨_,p,rfl,rfl⟩ ⟨_,n,rfl,rfl⟩ fun c o q=>f7 _ (f7 _ (f7 _ (f7 _ (f7 _ q))))⟩
end
def Itg (f e:Sk) (K:Zp) (a b:Zx):It:=
 ⟨fun i H=>∃d c x y,f.Sq K H a d/\e.Sq K H b c/\d[i]?=some x/\c[i]?=some y,
   fun i H v g=>∃T x y,v= .ref T/\H T=none/\g=upd H T (.tup [x,y])/\(∀d,f.Sq K H a d->d[i]?=some x)/\∀c,e.Sq K H b c->c[i]?=some y,
   fun i H=>∃d c,f.Sq K H a d/\e.Sq K H b c/\i=min d.length c.length⟩
def ZTSt (j g:Sk) (z f e d c a b:Zx) (i:Nat) (h:Zt):Prop:=IsZip h z f e .none/\Jl h f (.ref d) (.ref c)/\(∃u v,Jl h e u v)/\SI j.it h d a i/\SI g.it h c b i
def zg{K:Zp} {b T C:Zx} (D:ZipApart z T C i1 i2 a b):Dy P w K (.Tuple es kk tp) (Itg u1 u2 K a b) [z,T,C,i1,i2] z (ZTSt u1 u2 z T C i1 i2 a b) where
 mem:=by simp
 obj:=fun i h g c d=>by
  refine eaC g fun m j t Y W=>?_;refine eaD t fun u v r=>?_;refine eaE Y fun Q p _ d4=>?_;refine eaE W fun O n _ d5=>?_;simp only[aj,bo,or_false]at d;rcases d with e|e|e|e|e<;>subst e;·exact⟨_,m,fun v q=>nomatch q⟩
  ·exact⟨_,j,fun v q=>nomatch q⟩
  ·exact⟨_,r,fun v q=>nomatch q⟩
  ·exact⟨_,p,fun v q=>by rw[d4]at q;cases q⟩
  ·exact⟨_,n,fun v q=>by rw[d5]at q;cases q⟩
 keep:=fun i h h' g k=>by refine eaC g fun m j t Y W=>?_;refine eaD t fun u v r=>?_;refine eax Y fun Q p r4=>?_;refine eax W fun O n r5=>?_;exact⟨k z (by simp) _ m,k T (by simp) _ j,(iap u v (k C (by simp) _ r)),⟨Q,k i1 (by simp) Q p,r4⟩,⟨O,k i2 (by simp) O n,r5⟩⟩
 item:=by
  intro X hP G hK d i N s U H E I J g hg;subst hP G hK;refine eaA hg fun xs ys x y=>fac fun M L ex ey=>?_;refine eah (u1.inv I M) fun B r1 p1 z1=>?_;refine eah (u2.inv I L) fun A r2 p2 z2=>?_;refine eaC g fun m j t p n=>?_;refine eaD t fun u v r=>?_;refine eae (r1.get ex) fun ux hux rr1=>?_;refine eae (r2.get ey) fun uy huy Z=>?_;have G:∀c∈[z,C,i1,i2],xH X N H c:=fun c d=>J c (by simp only[aj,bo,or_false]at d⊢;first|(rcases d with h|h|h|h<;>simp[h])|simp[d]);refine ze D m j r p n (show u1.S s.heap a B.toArray from p1) (show u2.S s.heap b A.toArray from p2) (x:=ux) (y:=uy) (by simpa using hux) (by simpa using huy) fun S a1 a2 a3 a4 a5 a6 R=>?_;have kk1:∀c o,c∉[z,C,i1,i2]->s.heap.get? c=some o->S.get? c=some o:=fun c o d e=>R c o (fun q=>d (by simp[q])) (fun q=>d (by simp[q])) (fun q=>d (by simp[q])) (fun q=>d (by simp[q])) e;have J1:Inv X N U H {s with heap:=S,toks:=s.toks}:=I.turnedL kk1 G;refine⟨.ref s.heap.objs.size,rfl,wpAny_letOwnedTupleGo_zip a1 fun h2 a1' F=>?_⟩;have J2:Inv X N U H {s with heap:=h2,toks:=s.toks}:=Inv.turnedL (s:={s with heap:=S,toks:=s.toks}) (h':=h2) (t':=s.toks) (ch:=[z]) J1 (fun c o d e=>F.extBut _ _ (fun q=>d (by simp[q])) e) fun c d=>J c (by simp only[aj,bo,or_false]at d⊢;first|(rcases d with h|h|h|h<;>simp[h])|simp[d]);have V:z<s.heap.objs.size:=fZ m;have ht2:xG h2 s.heap.objs.size #[ux,uy]:=⟨_,F.extBut _ _ (cM V) a5,rfl,_,rfl,rfl⟩;obtain⟨fT,J3⟩:=I.pairNew (cN _) J2 ht2 rr1 Z;refine iap (.ref s.heap.objs.size) _ (⟨J3,rfl,(iar _ x y ⟨rfl,fT,rfl,fun l hl=>by rw[u1.inj I hl M];exact ex,fun l hl=>by rw[u2.inj I hl L];exact ey⟩),⟨a1',F.extBut _ _ D.TIz (R _ _ D.TIz D.TITO D.TIi1 D.TIi2 j),(iap _ _ (F.extBut _ _ D.TOz a2)),a3.extBut F.extBut D.i1z,a4.extBut F.extBut D.i2z⟩,fun c d=>?_⟩);rw[gx (fun q=>?_)];·exact(J c d).1
  ·have lt:c<s.heap.objs.size:=by
    refine eae p fun Q e4 _=>?_;refine eae n fun O e5 _=>?_;simp only[aj,bo,or_false]at d;rcases d with e|e|e|e|e<;>subst e;·exact fZ m
    ·exact fZ j
    ·exact fZ r
    ·exact fZ e4
    ·exact fZ e5
   exact absurd lt (by rw[q];exact cG _)
 done:=by intro X hP G hK d i N s U H E I J g hg;subst hP G hK;refine eal hg fun xs ys M L ei=>?_;refine eah (u1.inv I M) fun B r1 p1 z1=>?_;refine eah (u2.inv I L) fun A r2 p2 z2=>?_;refine eaC g fun m j t p n=>?_;refine eaD t fun u v r=>?_;have l1:=r1.length;have l2:=r2.length;refine tH (I.ok.hd d) D m j r p n (show u1.S s.heap a B.toArray from p1) (show u2.S s.heap b A.toArray from p2) ?_ fun S R=>⟨rfl,I.turnedL (t':=s.toks) (ch:=[z,C,i1,i2]) (fun c o d e=>R c o (fun q=>d (by simp[q])) (fun q=>d (by simp[q])) (fun q=>d (by simp[q])) (fun q=>d (by simp[q])) e) fun c d=>J c (by simp only[aj,bo,or_false]at d⊢;first|(rcases d with h|h|h|h<;>simp[h])|simp[d])⟩;simp only[bt,bw];lia
 self:=fun _ _ _ _ _ g h=>wpAny_pyIter_zip g.1 h
def Bb (e d:Sk) (K:Zp) (j:TA):TI:=fun f H R=>j f H fun i c=>∃a b,i=[.ref a,.ref b]/\(∃h,e.Sq K c a h)/\(∃g,d.Sq K c b g)/\R (Itg e d K a b) c
section
variable {X:Cx}
def vH(j i:Sk) {b:Zr} (Q:Gl X "zip") (O:X.mg "zip"=none) (S:PA X [a,b] ta) (N:autoParam (IQ [a,b] X.env=[(false,eval a X.env),(false,eval b X.env)]) auR._auto_1) (g:autoParam (IQ [b] X.env=[(false,eval b X.env)]) auR._auto_1):
  PI X (.Tuple es kk tp) (.Call (.Name "zip" p) [a,b] [] pos) (Bb j i X.K ta):=by
 intro K s C H R I h;refine Call_ (p7 I Q O Fp (gi (thn (S pos K s C H _ I h) ?_) (by rw[N,g]) (by rw[g];rfl)));refine fun us d=>fad fun vs T f J k=>?_;obtain⟨m,l,e,⟨Y,k⟩,⟨W,y⟩,q⟩:=k;subst e;refine eal (A2 J) fun u v E G F=>?_;subst E;cases G;cases F;refine eah (j.inv f k) fun o w1 M V=>?_;refine eah (i.inv f y) fun n Z L U=>?_;have o1:@LT.lt Nat _ m d.heap.objs.size:=j.old f k;have o2:@LT.lt Nat _ l d.heap.objs.size:=i.old f y;refine zf (show j.S d.heap m o.toArray from M) (show i.S d.heap l n.toArray from L) fun h1 z x w t r P=>wpAny_pyIter_zip z ?_;have D:ZipApart (d.heap.objs.size+ 4) (d.heap.objs.size+ 2) (d.heap.objs.size+ 3) d.heap.objs.size (d.heap.objs.size+ 1) m l:=by constructor<;>exact fun(h:@Eq Nat _ _)=>by lia
 refine iac _ _ _ _ T rfl (f.kept (t':=d.toks) P) (zg D) ⟨z,x,(iai _ _ w),t,r⟩ (fun c A=>?_) q;have B:d.heap.objs.size<=c:=by simp only[aj,bo,or_false]at A;rcases A with h|h|h|h|h<;>rw[h]<;>first|exact cN _|exact cR _ _
 exact f.fpOk B (f.hok.fresh B)
def Ct{b:Zr} (f:Gl X "zip") (e:X.mg "zip"=none) (g:PA X [a,b] ta) (d:autoParam (IQ [a,b] X.env=[(false,eval a X.env),(false,eval b X.env)]) auR._auto_1) (c:autoParam (IQ [b] X.env=[(false,eval b X.env)]) auR._auto_1):
  PI X (.Tuple es kk tp) (.Call (.Name "zip" p) [a,b] [] pos) (Bb lS lS X.K ta):=vH lS lS f e g d c
def DR{b:Zr} (f:Gl X "zip") (e:X.mg "zip"=none) (g:PA X [a,b] ta) (d:autoParam (IQ [a,b] X.env=[(false,eval a X.env),(false,eval b X.env)]) auR._auto_1) (c:autoParam (IQ [b] X.env=[(false,eval b X.env)]) auR._auto_1):
  PI X (.Tuple es kk tp) (.Call (.Name "zip" p) [a,b] [] pos) (Bb tS tS X.K ta):=vH tS tS f e g d c
def DS{b:Zr} (f:Gl X "zip") (e:X.mg "zip"=none) (g:PA X [a,b] ta) (d:autoParam (IQ [a,b] X.env=[(false,eval a X.env),(false,eval b X.env)]) auR._auto_1) (c:autoParam (IQ [b] X.env=[(false,eval b X.env)]) auR._auto_1):
  PI X (.Tuple es kk tp) (.Call (.Name "zip" p) [a,b] [] pos) (Bb tS lS X.K ta):=vH tS lS f e g d c
end
abbrev Itz:=Itg lS lS
section
variable {prog:Zu} {w:Zv} {A:Zw} {E:Zb} {s:Zy}
end
inductive Prs (H:Hp):List V->List (Str×V)->Prop
 |nil:Prs H [] []
 |cons {a:Zx} {p:Str×V} {l:List V} {m:List (Str×V)}:H a=some (.tup [.str p.1,p.2])->Prs H l m->Prs H (.ref a::l) (p::m)
section
variable {X:Cx} {pz:Za} {σ:St} {H:Hp} {d it t:Zx} {vs:List V} {A:Zw} {R:Result->Zy->Prop}
end
section
variable {X:Cx}
end
end L2.Internal
namespace BO.Internal
variable {H H' H1:Hp} {v:V} {xs:List V}
open PySem L2.Internal
def sz(h:n<=100000):n<=sizeLine:=cJ h (by decide)
def gr(h:H p=none) (o:HO):gT H (upd H p o):=fun b u q=>by rw[gx (gD q h)];exact q
def Cu(l:List α) (i:Int) (d:0<=i) (b:i<(l.length:Int)):∃c,atI l i=some c/\c∈l:=by
 have e:i=((i.toNat:Nat):Int):=by lia
 have a:i.toNat<l.length:=by lia
 refine⟨l[i.toNat],?_,List.getElem_mem a⟩;have z:atI l ((i.toNat:Nat):Int)=some l[i.toNat]:=gv (bf a);rw[<-e]at z;exact z
noncomputable def flN:V->Bool
 | .non=>true
 | .int _=>true
 | .str _=>true
 |_=>false
mutual
inductive Im (H:Hp):V->Dt->Prop where
 |flat {v:V} (h:flN v=true):Im H v (.flat v)
 |tup {a:Zx} {xs:List V} {ds:List Dt} (h:H a=some (.tup xs)) (hs:Ims H xs ds):Im H (.ref a) (.tup ds)
inductive Ims (H:Hp):List V->List Dt->Prop where
 |nil:Ims H [] []
 |cons {x:V} {d:Dt} {xs:List V} {ds:List Dt} (h:Im H x d) (hs:Ims H xs ds):Ims H (x::xs) (d::ds)
end
mutual
inductive Dta (H:Hp):V->Dt->Prop where
 |flat {v:V} (h:flN v=true):Dta H v (.flat v)
 |tup {a:Zx} {xs:List V} {ds:List Dt} (h:H a=some (.tup xs)) (hs:rR H xs ds):Dta H (.ref a) (.tup ds)
 |lst {a:Zx} {xs:List V} {ds:List Dt} (h:H a=some (.lst xs)) (hs:rR H xs ds):Dta H (.ref a) (.lst ds)
inductive rR (H:Hp):List V->List Dt->Prop where
 |nil:rR H [] []
 |cons {x:V} {d:Dt} {xs:List V} {ds:List Dt} (h:Dta H x d) (hs:rR H xs ds):rR H (x::xs) (d::ds)
end
def TK (H H':Hp):Prop:=∀a b,H a=some (.tup b)->H' a=some (.tup b)
def gT.tk (s:gT H H'):TK H H':=fun a b e=>s a _ e
mutual
theorem Im.mono (k:TK H H'):∀{v:V} {d:Dt},Im H v d->Im H' v d
 |_,_,.flat h=> .flat h
 |_,_,.tup h hs=> .tup (k _ _ h) (Ims.mono k hs)
theorem Ims.mono (k:TK H H'):∀{v:List V} {d:List Dt},Ims H v d->Ims H' v d
 |_,_,.nil=> .nil
 |_,_,.cons h hs=> .cons (Im.mono k h) (Ims.mono k hs)
end
mutual
theorem Im.da:∀{v:V} {d:Dt},Im H v d->Dta H v d
 |_,_,.flat h=> .flat h
 |_,_,.tup h hs=> .tup h (Ims.das hs)
theorem Ims.das:∀{v:List V} {d:List Dt},Ims H v d->rR H v d
 |_,_,.nil=> .nil
 |_,_,.cons h hs=> .cons (Im.da h) (Ims.das hs)
end
mutual
theorem Dta.same (k:gT H H'):∀{v:V} {d:Dt},Dta H v d->Dta H' v d
 |_,_,.flat h=> .flat h
 |_,_,.tup h hs=> .tup (k _ _ h) (rR.same k hs)
 |_,_,.lst h hs=> .lst (k _ _ h) (rR.same k hs)
theorem rR.same (k:gT H H'):∀{v:List V} {d:List Dt},rR H v d->rR H' v d
 |_,_,.nil=> .nil
 |_,_,.cons h hs=> .cons (Dta.same k h) (rR.same k hs)
end
theorem rR.length:∀{xs:List V} {a:List Dt},rR H xs a->xs.length=a.length
 |_,_,.nil=>rfl
 |_,_,.cons _ t=>by rw[az,az,rR.length t]
theorem Ims.length:∀{xs:List V} {a:List Dt},Ims H xs a->xs.length=a.length
 |_,_,.nil=>rfl
 |_,_,.cons _ t=>by rw[az,az,Ims.length t]
theorem rR.get:∀{xs:List V} {a:List Dt} {j:Nat} {x:V},rR H xs a->xs[j]?=some x->∃d,a[j]?=some d/\Dta H x d
 |_,_,0,_,.cons h _,e=>⟨_,rfl,by cases e;exact h⟩
 |_,_,j+ 1,_,.cons _ t,e=>by rw[bp]at e;refine eax (rR.get t e) fun d c b=>?_;exact⟨d,by rw[bp];exact c,b⟩
theorem depDs_get:∀{l:List Dt} {j:Nat} {a:Dt},l[j]?=some a->kW a<=iF l
 |x::xs,0,a,h=>by cases h;exact Nat.le_max_left _ _
 |x::xs,j+ 1,a,h=>by rw[bp]at h;exact cJ (depDs_get h) (Nat.le_max_right _ _)
theorem Ims.app:∀{xs ys:List V} {d c:List Dt},Ims H xs d->Ims H ys c->Ims H (xs++ys) (d++c)
 |_,_,_,_,.nil,h=>h
 |_,_,_,_,.cons a b,h=> .cons a (Ims.app b h)
inductive pk {α β:Type} (F:α->β->Prop):List α->List β->Prop
 |nil:pk F [] []
 |cons {a:α} {b:β} {l:List α} {m:List β}:F a b->pk F l m->pk F (a::l) (b::m)
theorem pk.imp {d c:Type} {F G:d->c->Prop} (f:∀a b,F a b->G a b):∀{l:List d} {m:List c},pk F l m->pk G l m
 |_,_,.nil=> .nil
 |_,_,.cons h t=> .cons (f _ _ h) (pk.imp f t)
theorem pk.snoc {d c:Type} {F:d->c->Prop} {a:d} {b:c} (h:F a b):∀{l:List d} {m:List c},pk F l m->pk F (l++[a]) (m++[b])
 |_,_,.nil=> .cons h .nil
 |_,_,.cons x t=> .cons x (pk.snoc h t)
theorem pk.length {b a:Type} {F:b->a->Prop}:∀{l:List b} {m:List a},pk F l m->l.length=m.length
 |_,_,.nil=>rfl
 |_,_,.cons _ t=>by rw[az,az,pk.length t]
theorem pk.get {a b:Type} {F:a->b->Prop}:∀{l:List a} {m:List b} {j:Nat} {x:a},pk F l m->l[j]?=some x->∃y,m[j]?=some y/\F x y
 |_,_,0,_,.cons h _,e=>⟨_,rfl,by cases e;exact h⟩
 |_,_,j+ 1,_,.cons _ t,e=>by rw[bp]at e;refine eax (pk.get t e) fun d f c=>?_;exact⟨d,by rw[bp];exact f,c⟩
mutual
def okD:Dt->Prop
 | .flat _=>True
 | .tup l=>l.length<=100000/\wJ l
 | .lst l=>l.length<=100000/\wJ l
def wJ:List Dt->Prop
 |[]=>True
 |x::xs=>okD x/\wJ xs
end
theorem tI:∀{l:List Dt} {j:Nat} {a:Dt},wJ l->l[j]?=some a->okD a
 |x::xs,0,a,o,h=>by cases h;exact o.1
 |x::xs,j+ 1,a,o,h=>by rw[bp]at h;exact tI o.2 h
theorem jn {a:Type} {f:a->Dt}:∀{l:List a},(∀x∈l,okD (f x))->wJ (l.map f)
 |[],_=>trivial
 |x::xs,h=>⟨h x (by simp),jn fun y b=>h y (by simp[b])⟩
theorem ja{a:Type} {f:a->Dt}:∀{l:List a},(∀x∈l,kW (f x)<=n)->iF (l.map f)<=n
 |[],_=>cO _
 |x::xs,h=>Nat.max_le.mpr ⟨h x (by simp),ja fun y b=>h y (by simp[b])⟩
noncomputable def prL (p:Str×Int):Dt:= .tup [.flat (.str p.1),.flat (.int p.2)]
noncomputable def prD (l:List (Str×Int)):Dt:= .tup (l.map prL)
inductive Us where
 |num (a p s:Int)
 |call (a p s x y:Int)
 |take (a p s:Int) (l:List (Str×Int))
 |case (a p s:Int) (l:List (Str×Int))
 |row (a p s x:Int)
noncomputable def hdD (n:Str) (a p s:Int):List Dt:=[.flat (.str n),.flat (.int a),.flat (.int p),.flat (.int s)]
noncomputable def Us.d:Us->Dt
 | .num a p s=> .tup (hdD "num" a p s)
 | .call a p s x y=> .tup (hdD "call" a p s++[.flat (.int x),.flat (.int y)])
 | .take a p s l=> .tup (hdD "take" a p s++[prD l])
 | .case a p s l=> .tup (hdD "case" a p s++[prD l])
 | .row a p s x=> .tup (hdD "row" a p s++[.flat (.int x)])
def Us.ok:Us->Prop
 | .take _ _ _ l=>l.length<=10
 | .case _ _ _ l=>l.length<=10
 |_=>True
structure Mkg where
 s:Str
 f:Dt
 a:Int
 p:Int
noncomputable def Mkg.d (m:Mkg):Dt:= .tup [.flat (.str m.s),m.f,.flat (.int m.a),.flat (.int m.p)]
def vI (l:List (Str×Int)):kW (prD l)<=2:=by
 have h:∀l:List (Str×Int),iF (l.map prL)<=1:=by
  intro l
  induction l with
  |nil=>exact cO _
  |cons x t a=>exact Nat.max_le.mpr ⟨by simp[prL,kW,iF],a⟩
 exact Nat.succ_le_succ (h l)
def Us.dep (u:Us):kW u.d<=3:=by
 cases u with
 |num a p s=>simp[Us.d,hdD,kW,iF]
 |call a p s x y=>simp[Us.d,hdD,kW,iF]
 |take a p s l=>have:=vI l;simp[Us.d,hdD,kW,iF];lia
 |case a p s l=>have:=vI l;simp[Us.d,hdD,kW,iF];lia
 |row a p s x=>simp[Us.d,hdD,kW,iF]
def zh(h:l.length<=10):okD (prD l):=⟨by rw[aC];lia,jn fun x _=>⟨by show 2<=100000;decide,trivial,trivial,trivial⟩⟩
def Us.okd {u:Us} (h:u.ok):okD u.d:=by
 cases u with
 |num a p s=>exact⟨by show 4<=100000;decide,trivial,trivial,trivial,trivial,trivial⟩
 |call a p s x y=>exact⟨by show 6<=100000;decide,trivial,trivial,trivial,trivial,trivial,trivial,trivial⟩
 |take a p s l=>exact⟨by show 5<=100000;decide,trivial,trivial,trivial,trivial,zh h,trivial⟩
 |case a p s l=>exact⟨by show 5<=100000;decide,trivial,trivial,trivial,trivial,zh h,trivial⟩
 |row a p s x=>exact⟨by show 5<=100000;decide,trivial,trivial,trivial,trivial,trivial,trivial⟩
noncomputable def fU (a p s:V):List (Str×V):=[("at",a),("place",p),("slot",s)]
noncomputable def fU1 (n:Str) (a p s x:V):List (Str×V):=[("at",a),("place",p),("slot",s),(n,x)]
noncomputable def fU2 (a p s x y:V):List (Str×V):=[("at",a),("place",p),("slot",s),("arg",x),("out",y)]
noncomputable def fM (s f a p:V):List (Str×V):=[("shape",s),("parts",f),("at",a),("place",p)]
noncomputable def fB (p0 c b a:Zx) (r:V):List (Str×V):=[("points",.ref p0),("makes",.ref c),("uses",.ref b),("flows",.ref a),("root",r)]
structure Cs where
 M:Zx
 N:Zx
 C:Zx
 T:Zx
 K:Zx
 R:Zx
 B:Zx
def uJ (c:Cs) (H:Hp) (v:V):Us->Prop
 | .num a p s=>∃x b,v= .ref x/\H x=some (.ins c.N b (fU (.int a) (.int p) (.int s)))
 | .call a p s y z=>∃x b,v= .ref x/\H x=some (.ins c.C b (fU2 (.int a) (.int p) (.int s) (.int y) (.int z)))
 | .take a p s l=>∃x b f,v= .ref x/\H x=some (.ins c.T b (fU1 "fields" (.int a) (.int p) (.int s) f))/\Im H f (prD l)/\l.length<=10
 | .case a p s l=>∃x b f,v= .ref x/\H x=some (.ins c.K b (fU1 "arms" (.int a) (.int p) (.int s) f))/\Im H f (prD l)/\l.length<=10
 | .row a p s y=>∃x b,v= .ref x/\H x=some (.ins c.R b (fU1 "out" (.int a) (.int p) (.int s) (.int y)))
def wK (c:Cs) (H:Hp) (v:V) (m:Mkg):Prop:=∃x a f,v= .ref x/\H x=some (.ins c.M a (fM (.str m.s) f (.int m.a) (.int m.p)))/\Im H f m.f/\kW m.f<=2/\okD m.f
def Fz:HO->Prop
 | .tup _=>True
 | .ins _ _ fs=>fs.length≠5\/∃v r,fs=(("at":Str),v)::r
 |_=>False
def FK (H H':Hp):Prop:=∀a o,H a=some o->Fz o->H' a=some o
def FK.tk (k:FK H H'):TK H H':=fun a b e=>k a _ e trivial
def gT.fk (s:gT H H'):FK H H':=fun a o e _=>s a o e
def FK.trans {d:Hp} (a:FK H H1) (b:FK H1 d):FK H d:=fun c o e f=>b c o (a c o e f) f
theorem uJ.mono {c:Cs} (k:FK H H'):∀{u:Us},uJ c H v u->uJ c H' v u
 | .num _ _ _,⟨x,dx,e,h⟩=>(iaf x dx e (k _ _ h (.inr (iai _ _ rfl))))
 | .call _ _ _ _ _,⟨x,dx,e,h⟩=>(iaf x dx e (k _ _ h (.inr (iai _ _ rfl))))
 | .take _ _ _ _,⟨x,dx,f,e,h,i,n⟩=>(iae x dx f e (k _ _ h (.inr (iai _ _ rfl))) (i.mono k.tk) n)
 | .case _ _ _ _,⟨x,dx,f,e,h,i,n⟩=>(iae x dx f e (k _ _ h (.inr (iai _ _ rfl))) (i.mono k.tk) n)
 | .row _ _ _ _,⟨x,dx,e,h⟩=>(iaf x dx e (k _ _ h (.inr (iai _ _ rfl))))
theorem uJ.ok {c:Cs}:∀{u:Us},uJ c H v u->u.ok
 | .num _ _ _,_=>trivial
 | .call _ _ _ _ _,_=>trivial
 | .take _ _ _ _,⟨_,_,_,_,_,_,n⟩=>n
 | .case _ _ _ _,⟨_,_,_,_,_,_,n⟩=>n
 | .row _ _ _ _,_=>trivial
theorem wK.mono {c:Cs} {m:Mkg} (k:FK H H'):wK c H v m->wK c H' v m
 |⟨x,dx,f,e,h,i,d⟩=>(iae x dx f e (k _ _ h (.inl (by show 4≠5;decide))) (i.mono k.tk) d)
def mE{j:St} (n:Nat) (U:n<sizeLine) (R:List V->Hp->Prop) (E:∀c H g,R c H->TK H g->R c g) (x:H1 D=none) (hτ:j.set i none=j)
  (w:∀k H,gT H1 H->k<n->J.go k H) (s:∀H,gT H1 H->J.stop n H) (O:R [] H1)
  (p:∀k H v r c (Z:VK),gT H1 H->k<n->J.yld k H v r->R c H->c.length=k->(∀y d,gT H d->R (c++[y]) d->Z y d)->te (j.set i (some v)) r Z)
  (N:∀g c,gT H1 g->R c g->c.length=n->g D=some (.lst c)->Q (.ref D) g):LcP J i nE te Q j H1 D:=by
 have M:∀(d:Hp) (c B:List V),d D=some (.lst c)->TK d (upd d D (.lst B)):=fun d c B e a T q=>by rw[gx (jP q e (fun z=>nomatch z))];exact q
 have K:∀{H:Hp} (o:HO),gT H1 H->gT H1 (upd H D o):=fun{H} o S b u e=>by rw[gx (gD e x)];exact S b u e
 refine io (fun k m l f=>m=n-k/\k<=n/\(∃o,l=j.set i o)/\gT H1 f/\∃c,f D=some (.lst c)/\c.length=k/\R c f) (⟨n,by simp,cO _,⟨none,hτ.symm⟩,gr x _,[],gm,rfl,E _ _ _ O (gT.tk (gr x _))⟩) ?_;refine fun k m l f=>fah fun G W I S=>fL fun c=>fab fun e t C=>?_;subst G;obtain⟨o,F⟩:=I;subst F;by_cases hlt:k<n;·refine .inr ⟨w k f S hlt,fun v r y=>?_⟩;rw[List.set_set];refine p k f v r c _ S hlt y C t fun y d A L=>?_;refine⟨c,A D _ e,by lia,n-(k+ 1),by lia,rfl,hlt,⟨some v,rfl⟩,K _ (S.trans A),c++[y],gm,by rw[aO,t];rfl,E _ _ _ L (M d _ _ (A D _ e))⟩
 ·have P:k=n:=by lia
  subst P;exact .inl ⟨s f S,N f c S C t e⟩
def wL(e:H1 a=some (.lst xs)) (S:gT H1 H) (h:k<xs.length):(Itl K a).go k H:=(iap xs (xs[k]) ⟨SqL.of (S a _ e),bf h⟩)
def wM(e:H1 a=some (.lst xs)) (S:gT H1 H):(Itl K a).stop xs.length H:=⟨xs,SqL.of (S a _ e),cN _⟩
def wN(e:H1 a=some (.tup xs)) (S:gT H1 H) (h:k<xs.length):(Itt K a).go k H:=(iap xs (xs[k]) ⟨SqT.of (S a _ e),bf h⟩)
def wO(e:H1 a=some (.tup xs)) (S:gT H1 H):(Itt K a).stop xs.length H:=⟨xs,SqT.of (S a _ e),cN _⟩
inductive Ls (H:Hp):List Zx->List (List V)->Prop
 |nil:Ls H [] []
 |cons {a:Zx} {c:List V} {l:List Zx} {m:List (List V)}:H a=some (.lst c)->Ls H l m->Ls H (a::l) (c::m)
structure Sd where
 b:Zx
 dx:Zx
 p0:Zx
 p1:Zx
 p2:Zx
 p3:Zx
 d:Zx
 q0:Zx
 q1:Zx
 q2:Zx
 q3:Zx
structure Bd where
 pts:List Int
 mks:List Mkg
 uss:List Us
 fls:List (Int×Int)
 root:Int
noncomputable def flD (p:Int×Int):Dt:= .tup [.flat (.int p.1),.flat (.int p.2)]
def ky(h:H a=some (.lst xs)):FK H (upd H a o):=fun b u e f=>by rw[gx (jP e h (fun z=>by rw[z]at f;exact f))];exact e
def Bc(h:H a=some (.ins C dx (fB p0 p1 p2 p3 r))):FK H (upd H a o):=fun b u e f=>by
 rw[gx (jP e h (fun z=>by
  rw[z]at f;rcases f with f|⟨v,r,f⟩;·exact f rfl
  ·injection f with f _;injection f with f _;exact absurd f gG))];exact e
section
variable {c:Cs} {H H':Hp} {S:Sd} {E D:Bd}
end
def Frm (M:List Zx) (H H':Hp):Prop:=∀a o,H a=some o->a∉M->H' a=some o
def Frm.trans {M:List Zx} {d:Hp} (a:Frm M H H1) (b:Frm M H1 d):Frm M H d:=fun c o e n=>b c o (a c o e n) n
theorem qO (H:Hp):∀l:List Int,rR H (l.map V.int) (l.map fun i=> .flat (.int i))
 |[]=> .nil
 |_::t=> .cons (.flat rfl) (qO H t)
theorem pk.right {b a:Type} {F:b->a->Prop}:∀{l:List b} {m:List a},pk F l m->∀y∈m,∃x,F x y
 |_,_,.nil,y,h=>by simp at h
 |_,_,.cons f t,y,h=>by
  rcases aj.mp h with z|z;·rw[z];exact⟨_,f⟩
  ·exact pk.right t y z
inductive Mf where
 |num
 |fn (x y:Int)
 |rcd (l:List (Str×Int))
 |tag (w:Str) (x:Int)
 |row (x:Int)
 |any
end BO.Internal
namespace L2.Internal
variable {C:Zx}
open PySem PySem.Spec PyProof.Rows
section
variable {X:Cx} {e a b o f:Zr} {st:Zq} {ta tb td ty tx to:TE} {pos apos cpos:Pos}
def PE.weak {t t':TE} (h:PE X e t) (m:∀a H Q,t' a H Q->t a H Q):PE X e t':=fun b s a H Q I q=>h b s a H Q I (m a H Q q)
def PT.weak {t t':TT} (h:PT X e t) (m:∀a H Q,t' a H Q->t a H Q):PT X e t':=fun b s a H Q I q=>h b s a H Q I (m a H Q q)
def PS.weak {t t':TS.Internal} (h:PS X st t) (m:∀D a H,t' D a H->t D a H):PS X st t':=fun b s a H D I q=>h b s a H D I (m D a H q)
def OpR.weak {g:Zz->Zz->Sem Zz} {r a:R2} (h:OpR X g r) (m:∀x y H Q,a x y H Q->r x y H Q):OpR X g a:=fun e s b H x y v u Q I d c q=>h e s b H x y v u Q I d c (m x y H Q q)
def IxR.weak {r c:R2} (h:IxR X r) (m:∀x y H Q,c x y H Q->r x y H Q):IxR X c:=fun a b g s d H x y v u Q I f e q i=>h a b g s d H x y v u Q I f e (m x y H Q q) i
def mT (t:TE):TE:=fun c H Q=>∃a:VK,t c H a/\∀x b,a x b->Q x b
def PE.mono {t:TE} (h:PE X e t):PE X e (mT t):=fun f s b H Q I ⟨i,g,m⟩=>thn (h f s b H i I g) fun v k ⟨x,a,j,c,d⟩=>(iap x a ⟨j,c,m x a d⟩)
def mR (r:R2):R2:=fun x y H Q=>∃a:VK,r x y H a/\∀x b,a x b->Q x b
def OpR.mono {g:Zz->Zz->Sem Zz} {r:R2} (h:OpR X g r):OpR X g (mR r):=fun i s b H x y v u Q I d c ⟨k,j,m⟩=>thn (h i s b H x y v u k I d c j) fun v n ⟨x,a,l,e,f⟩=>(iap x a ⟨l,e,m x a f⟩)
def onV:Option (Option V)->(V->Prop)->Prop
 |some (some v),k=>k v
 |_,_=>False
def onS {a:Type}:Option a->(a->Prop)->Prop
 |some v,k=>k v
 |none,_=>False
def gy(h:x=some v) (q:k v):onS x k:=by rw[h];exact q
def Cv(h:onS x k):∃v,x=some v/\k v:=by
 cases x with
 |none=>exact h.elim
 |some v=>exact⟨v,rfl,h⟩
def cV (i:Nat):TE:=fun a H Q=>onV a[i]? fun v=>Q v H
def cv (i:Nat) {x:Str} {pos:Pos} (hN:autoParam (X.N[i]?=some x) auR._auto_1) (hv:Vis X.env.scope x:=by first|exact Or.inl rfl|exact Or.inr (.inl rfl)|exact Or.inr (.inr rfl)) (hd:autoParam ((x==("__debug__":Str))=false) auD._auto_1)
  (hcd:autoParam ((x==("__classdict__":Str))=false) auD._auto_1):PE X (.Name x pos) (cV i):=(pv i hN hv hd hcd).weak fun σ H Q h=>by
 unfold cV at h
 cases q:σ[i]? with
 |none=>rw[q]at h;exact h.elim
 |some o=>
  rw[q]at h
  cases o with
  |none=>exact h.elim
  |some v=>exact⟨v,q,h⟩
def cI0 (g:Int->Int->V):R2:=fun x y H Q=>match x,y with
 | .int i,.int j=>Q (g i j) H
 |_,_=>False
def cI (C:Int->Int->Prop) (g:Int->Int->V):R2:=fun x y H Q=>match x,y with
 | .int i,.int j=>C i j/\Q (g i j) H
 |_,_=>False
def uK:∀x y H Q,cI0 g x y H Q->rI0 g x y H Q:=fun x y H Q h=>by
 unfold cI0 at h;split at h;·exact iap _ _ ⟨rfl,rfl,h⟩
 ·exact h.elim
def Be{C:Int->Int->Prop}:∀x y H Q,cI C g x y H Q->rI C g x y H Q:=fun x y H Q h=>by
 unfold cI at h;split at h;·exact iap _ _ ⟨rfl,rfl,h.1,h.2⟩
 ·exact h.elim
def jC:OpR X (Jj .Add) (cI0 fun i j=> .int (i+j)):=wB.weak uK
def uL:OpR X (Jj .Sub) (cI0 fun i j=> .int (i-j)):=B4.weak uK
def uM:OpR X (Jj .Mult) (cI E4 fun i j=> .int (i*j)):=E5.weak Be
def kN:OpR X (Jj .FloorDiv) (cI Hc fun i j=> .int (i/j)):=nq.weak Be
def jD:OpR X (Jj .Mod) (cI (fun _ j=>0<j) fun i j=> .int (i%j)):=qF.weak Be
def zj:OpR X (Jj .Pow) (cI IA fun i j=> .int (i^j.toNat)):=B5.weak Be
def vJ:OpR X (Jf .Lt) (cI0 fun i j=> .bl (decide (i<j))):=Hd.weak uK
def Hu:OpR X (Jf .LtE) (cI0 fun i j=> .bl (decide (i<=j))):=He.weak uK
def xX:OpR X (Jf .Gt) (cI0 fun i j=> .bl (decide (j<i))):=Hf.weak uK
def cEq (n:Bool):R2:=fun x y H Q=>match x,y with
 | .int i,.int j=>Q (.bl (xor n (decide (i=j)))) H
 | .str i,.str j=>Q (.bl (xor n (decide (i=j)))) H
 |_,_=>False
def IG:decide (V.str i=V.str j)=decide (i=j):=by rw[fo];simp
def IH:decide (V.int i=V.int j)=decide (i=j):=by rw[fo];simp
def jb:OpR X (Jf .Eq) (cEq false):=xK.weak fun x y H Q h=>by
 unfold cEq at h;split at h;·refine⟨rfl,?_⟩;rw[IH];rw[fA]at h;exact h
 ·refine⟨rfl,?_⟩;rw[IG];rw[fA]at h;exact h
 ·exact h.elim
def Fv:OpR X (Jf .NotEq) (cEq true):=E6.weak fun x y H Q h=>by
 unfold cEq at h;split at h;·refine⟨rfl,?_⟩;rw[IH];rw[Bool.true_xor]at h;exact h
 ·refine⟨rfl,?_⟩;rw[IG];rw[Bool.true_xor]at h;exact h
 ·exact h.elim
def onB:V->(Bool->Prop)->Prop
 | .bl k,q=>q k
 |_,_=>False
def Fw(h:onB x k):∃c,x= .bl c/\k c:=by cases x<;>first|exact⟨_,rfl,h⟩|exact h.elim
def cT (t:TE):TT:=fun a H Q=>t a H fun x b=>onB x fun k=>Q k b
def gL {op:CmpOp} {r:R2} (ho:OpR X (Jf op) r) (ha:PE X a ta) (hb:PE X b tb) (hm:Jr op b=false:=by exact yI _):PT X (.Compare a [op] [b] pos) (cT (tOp r ta tb)):=
 (tu ho.mono ha.mono hb.mono hm).weak fun σ H Q h=>⟨_,h,fun x H1 h1=>⟨_,h1,fun y H2 h2=>⟨_,h2,fun z H' h3=>Fw h3⟩⟩⟩
def Bg:R2:=fun x y H Q=>match x,y with
 | .ref p,.int i=>∃a,H p=some (.lst a)/\onS (atI a i) fun v=>Q v H
 |_,_=>False
def Cw:R2:=fun x y H Q=>match x,y with
 | .ref p,.int i=>∃a,H p=some (.tup a)/\onS (atI a i) fun v=>Q v H
 |_,_=>False
def gC:IxR X Bg:=DI.weak fun x y H Q h=>by
 unfold Bg at h;split at h;·refine eax h fun a e h=>?_;refine eax (Cv h) fun v b h=>?_;exact iaq _ a _ v ⟨rfl,rfl,SqL.of e,b,h⟩
 ·exact h.elim
def gF:IxR X Cw:=Fg.weak fun x y H Q h=>by
 unfold Cw at h;split at h;·refine eax h fun a e h=>?_;refine eax (Cv h) fun v b h=>?_;exact iaq _ a _ v ⟨rfl,rfl,SqT.of e,b,h⟩
 ·exact h.elim
def Fd (H:Hp) (a C:Zx) (f:Str) (v:V):Prop:=∃c b,H a=some (.ins C c b)/\b.lookup f=some v
def Nf (H:Hp) (a C:Zx) (m:Str):Prop:=∃c b,H a=some (.ins C c b)/\b.lookup m=none
def cFld (C:Zx) (f:Str) (d:TE):TE:=fun c H Q=>d c H fun x b=>match x with
 | .ref a=>∃v,Fd b a C f v/\Q v b
 |_=>False
def gP {f:Str} (c:Cls X.K C) (n:ig X.K C f) (g:PE X e ta) (i:autoParam (JE e f X.env (eval e X.env)=eval e X.env) auR._auto_1):PE X (.Attribute e f pos) (cFld C f ta):=
 (iS g.mono i).weak fun o H Q h=>(io _ h (fun x p b=>by
  cases x with
  |ref a=>refine eax b fun v d q=>?_;refine eaD d fun m j=>f8 fun l k=>?_;exact iac a C m j v rfl l c n k q
  |_=>exact b.elim))
def Hv (C:Zx) (m:Str) (g:Sp) (b:List V) (E:XK) (f:TE) (t:TA):TE:=fun c H Q=>f c H fun x d=>match x with
 | .ref a=>Nf d a C m/\t c d fun e h=>g (.ref a::(e++b)) h Q E
 |_=>False
def gH(h:PE X e (DF C m sp dvs E (mT ta) t)):PE X e (Hv C m sp dvs E ta t):=h.weak fun g H Q h=>(io _ h (fun x i b=>by
  cases x with
  |ref a=>obtain⟨⟨f,c,d,l⟩,q⟩:=b;exact iae a f c rfl d l q
  |_=>exact b.elim))
def Hw (C:Zx) (f:Str) (h g:TE):TS.Internal:=fun D b H=>g b H fun y i=>h b i fun x e=>match x with
 | .ref a=>∃d c,e a=some (.ins C d c)/\c.length<1000/\D.nx b (upd e a (.ins C d (kh f y c)))
 |_=>False
def lV{f:Str} (c:Cls X.K C) (n:ig X.K C f) (h:PS X st (IC X.K (mT ta) (mT tv) f)):PS X st (Hw C f ta tv):=h.weak fun D j H h=>(io _ h (fun y m d=>(io _ d (fun x k b=>by
  cases x with
  |ref a=>refine eal b fun i e g l q=>?_;exact iaj a C i e rfl g c n l q
  |_=>exact b.elim))))
def Hx (h f g:TE):TE:=fun c H Q=>h c H fun x e=>∃a,x= .ref a/\IsD e a/\f c e fun y i=>g c i fun z d=>∃b k,d a=some (.dK b)/\y=kV k/\b.length<sizeLine/\
 (∀v,k8 b k=some v->Q v d)/\(k8 b k=none->Q z (upd d a (.dK (tw b k z))))
def Bh{h:St} {a:Zx} {E:Zb} {Q:Zb} (I:Inv X pz h H s) (e:H a=some (.dK kvs)) (p:iZ (kV k) u) (t:iZ d r) (G:kvs.length<sizeLine)
  (D:∀v j f,k8 kvs k=some v->Inv X pz h H f->iZ v j->Q j f) (C:k8 kvs k=none->∀f,Inv X pz h (upd H a (.dK (tw kvs k d))) f->Q r f):
  C7 (model X.prog X.w) A (call (.builtin "dict.setdefault") [.ref a,u,r]) Q E s:=by
 refine ean (Fb I.hok e) fun z m o b n=>?_;refine call_meetsIn fc n.typeIs PySem.F.entry_dict_setdefault (PySem.F.args_dict_setdefault_3 _ _ _) (kt_meets_setdefault (jq X.prog X.w) a (vA p) m r) (iak o n (by rw[<-b.length];exact z) (fun v w=>?_) (fun y F g x=>?_))
 ·have q:=b.val k;rw[w]at q
  cases c:k8 kvs k with
  |none=>rw[c]at q;exact q.elim
  |some l=>rw[c]at q;exact D l _ _ c (I.tok _) q
 ·have q:=b.val k;rw[y]at q
  cases c:k8 kvs k with
  |some l=>rw[c]at q;exact q.elim
  |none=>
   have i:(tw kvs k d).length<=sizeLine:=by have:=kM kvs k d;lia
   have B:∃q,F.get? a=some q:=let⟨q,_,_,hq,_⟩:=g;⟨q,hq⟩;exact C c _ (vB I (by rw[e];exact Jd) x B (Ca i m (b.put k t) g))
def Bj (ho:PE X o td) (M:PE X e ty) (L:PE X f tx) (m:M2 X o "setdefault" apos e f cpos):PE X (.Call (.Attribute o "setdefault" apos) [e,f] [] cpos) (Hx td ty tx):=by
 intro g s b H Q I h;refine wpAny_Call_method m.base m.few m.line eW fc PySem.F.type_dict_setdefault (thn (ho g s b H _ I h) ?_);refine fun u w=>faf fun x V=>fab fun l B=>fL fun a=>fab fun n d F=>?_;subst n;obtain rfl:u=IP a:=B;refine eao (Cb l d) fun q p _=>?_;refine⟨q,p,?_⟩;rw[m.trees];refine JJ rfl (Calls.evalArgs_plain (JF (thn (M g w b V _ l F) fun Z t ⟨y,U,S,A,E⟩=>
  JF (thn (L g t b U _ S E) fun fv Y ⟨z,T,R,j,G,k,P,N,K,D,C⟩=>Calls.spliced_nil ?_))));subst N;exact Bh R P A j K (fun v W r O i c=>(iab v T i c (D v O))) (fun J r i=>(iab z _ i j (C J)))
def cApp (e f:TE):TE:=fun b H Q=>e b H fun x d=>match x with
 | .ref l=>(∃a,d l=some (.lst a))/\f b d fun y c=>∃a,c l=some (.lst a)/\a.length<sizeLine/\Q .non (upd c l (.lst (a++[y])))
 |_=>False
def jT (h:PE X e (tBM X.K "list" yY (mT to) (ki (mT ta) rM))):PE X e (cApp to ta):=h.weak fun f H Q h=>⟨_,h,fun x i b=>by
  cases x with
  |ref l=>obtain⟨⟨a,e⟩,q⟩:=b;exact⟨.inl ⟨rfl,a,SqL.of e⟩,_,q,fun y g ⟨a,e,d,c⟩=>(iar l a y ⟨rfl,rfl,e,d,c⟩)⟩
  |_=>exact b.elim⟩
end
end L2.Internal
namespace BO.Internal
variable {H:Hp} {L:List Zx}
open PySem L2.Internal
structure Rw where
 w:Bool
 a:Int
 b:Int
 y:Option (Int×Int)
structure DL (H:Hp) (d:Zx) (L:List Zx) (f:Int->List V) (k:Nat):Prop where
 ex:∃kvs:List (Key×V),H d=some (.dK kvs)/\kvs.length<=k/\(∀p,k8 kvs (.inl p)=none->f p=[])/\
  (∀p v,k8 kvs (.inl p)=some v->∃l,l∈L/\v= .ref l/\H l=some (.lst (f p)))/\(∀p q v,k8 kvs (.inl p)=some v->k8 kvs (.inl q)=some v->p=q)
noncomputable def Bk (f:Int->List V) (p:Int) (x:V):Int->List V:=fun q=>if q=p then f p++[x]else f q
structure Sda (H:Hp) (d:Zx) (L:List Zx) (f:Int->List V) (k:Nat) (p:Int) (l:Zx) (H1:Hp):Prop where
 here:H1 l=some (.lst (f p))
 fin:∀H2 x,gT H1 H2->∃L',(∀a∈L',a∈L\/a=l)/\DL (upd H2 l (.lst (f p++[x]))) d L' (Bk f p x) (k+ 1)
 fr:∀a o,H a=some o->a≠d->H1 a=some o
 own:l∈L\/H l=none
def DL.same {H':Hp} {d:Zx} {f:Int->List V} {k:Nat} (W:DL H d L f k) (s:∀a o,H a=some o->a=d\/a∈L->H' a=some o):DL H' d L f k:=by obtain⟨b,e,h,n,j,i⟩:=W;exact⟨b,s _ _ e (.inl rfl),h,n,fun p v g=>by refine eah (j p v g) fun l m c q=>?_;subst c;exact (iad l m rfl (s _ _ q (.inr m))),i⟩
def DL.get {d:Zx} {f:Int->List V} {k:Nat} (W:DL H d L f k) (p:Int) {z:Zx} (c:H z=none):
  ∃a l,(upd H z (.lst [])) d=some (.dK a)/\(k8 a (.inl p)).getD (.ref z)= .ref l/\(upd H z (.lst [])) l=some (.lst (f p))/\(l∈L\/H l=none):=by
 obtain⟨a,e,n,i,h,o⟩:=W;have s:=gr c (.lst [])
 cases b:k8 a (.inl p)with
 |none=>exact iaa a z (s _ _ e) (by rw[b];rfl) (by rw[i p b];exact gm) (.inr c)
 |some v=>refine eah (h p v b) fun l m g j=>?_;subst g;exact iaa a l (s _ _ e) (by rw[b];rfl) (s _ _ j) (.inl m)
def DL.sda {d:Zx} {f:Int->List V} {k:Nat} (W:DL H d L f k) (p:Int) {z:Zx} (u:H z=none):
  ∃b,(upd H z (.lst [])) d=some (.dK b)/\b.length<=k/\
   (∀v,k8 b (.inl p)=some v->∃l,v= .ref l/\Sda H d L f k p l (upd H z (.lst [])))/\
   (k8 b (.inl p)=none->Sda H d L f k p z (upd (upd H z (.lst [])) d (.dK (tw b (.inl p) (.ref z))))):=by
 obtain⟨b,e,K,G,C,F⟩:=W;have s:=gr u (.lst []);have N:d≠z:=gD e u;refine iak b (s _ _ e) K (fun v B=>?_) (fun O=>?_)
 ·refine eah (C p v B) fun l m t M=>?_;subst t;refine⟨l,rfl,s _ _ M,fun Q x S=>⟨L,fun a ha=> .inl ha,b,?_,cS K,fun q h=>?_,fun q v c=>?_,F⟩,fun a o I _=>s _ _ I,.inl m⟩;·rw[gx (jP e M (fun z=>nomatch z))];exact S _ _ (s _ _ e)
  ·have:q≠p:=fun z=>by rw[z,B]at h;cases h
   rw[Bk,gU this];exact G q h
  ·refine eah (C q v c) fun r E t g=>?_;subst t;refine iad r E rfl ?_;by_cases z:q=p;·subst z;rw[B]at c;cases c;rw[Bk,ip rfl];exact gm
   ·have:r≠l:=fun w=>z (F q p (.ref r) c (by rw[w];exact B));rw[Bk,gU z,gx this];exact S _ _ (s _ _ g)
 ·have P:(upd (upd H z (.lst [])) d (.dK (tw b (.inl p) (.ref z)))) z=some (.lst []):=by rw[gx N.symm];exact gm
  refine⟨by rw[P,G p O],fun Q x S=>⟨z::L,fun a ha=>?_,tw b (.inl p) (.ref z),?_,?_,fun q h=>?_,fun q v c=>?_,fun D A v j i=>?_⟩,fun a o I n=>by rw[gx n];exact s _ _ I,.inr u⟩
  ·rcases aj.mp ha with rfl|ha;·exact .inr rfl
   ·exact .inl ha
  ·rw[gx N];exact S _ _ gm
  ·have:=kM b (.inl p) (.ref z);omega
  ·rw[qu]at h;by_cases w:q=p;·rw[ip (by rw[w])]at h;cases h
   ·rw[gU (fun y=>w (by injection y))]at h;rw[Bk,gU w];exact G q h
  ·rw[qu]at c;by_cases w:q=p;·rw[ip (by rw[w])]at c;cases c;exact iad z (by simp) rfl (by rw[Bk,ip w];exact gm)
   ·rw[gU (fun y=>w (by injection y))]at c;refine eah (C q v c) fun r E t g=>?_;subst t;refine iad r (by simp[E]) rfl ?_;rw[Bk,gU w,gx (gD g u)];refine S _ _ ?_;rw[gx (jP g e (fun z=>nomatch z))];exact s _ _ g
  ·rw[qu]at j i;have J:∀q,k8 b (.inl q)≠some (.ref z):=fun q y=>by refine eah (C q _ y) fun r _ w g=>?_;cases w;rw[u]at g;cases g
   by_cases w1:D=p
   ·by_cases w2:A=p;·rw[w1,w2]
    ·rw[ip (by rw[w1])]at j;cases j;rw[gU (fun y=>w2 (by injection y))]at i;exact absurd i (J A)
   ·by_cases w2:A=p;·rw[ip (by rw[w2])]at i;cases i;rw[gU (fun y=>w1 (by injection y))]at j;exact absurd j (J D)
    ·rw[gU (fun y=>w1 (by injection y))]at j;rw[gU (fun y=>w2 (by injection y))]at i;exact F D A v j i
end BO.Internal
namespace L2.Internal
open PySem PySem.Spec PyProof.Rows
section
variable {X:Cx}
end
section
variable {X:Cx}
def uN:IZ "sorted"=some (.builtin "sorted"):=gG
def Hy(l:Zd) (b:List (Str×Nat×Zx)) (d:b.map (·.1)=l) (F:a.kind= .function) (t:∀p∈a.names,p.2≠ .cell/\(p.2= .free->p.1∈l)) (E:∀y∈a.names,y.2= .local->a.names.lookup y.1=some .local)
  (C:a.names.lookup x=some .local) (s:(x::y::l).Nodup) (G:J0 a X.env=pure (b.map fun p=>(p.1,p.2.2))) (r:X.env.scope.kind= .function)
  (h:∀p∈b,a.names.lookup p.1=some .free/\X.env.cells.lookup p.1=some p.2.2/\X.env.scope.names.lookup p.1=some .cell/\X.N[p.2.1]?=some p.1):
  qN X (x::y::l) a (b.map fun p=>(p.1,p.2.2)) (fun j=>none::none::b.map fun p=>j.getD p.2.1 none) 0 x where
 kind:=F
 cell:=fun y B=>(t y B).1
 names:=E
 clos:=G
 lk:=fun z c q=>by refine eax (bg.mp (IV q)) fun p D e=>?_;cases e;exact(h p D).2.1
 has:=fun z q=>by
  refine pD ?_;rw[d];rcases q with q|q
  ·refine eax (iH q) fun A e q=>?_;have m:=t _ (IV e);rcases q with q|⟨q,_⟩;·exact absurd q.symm m.1
   ·exact m.2 q
  ·refine eax (iH q) fun A e q=>?_;have m:=t _ (IV e);rcases q with q|⟨q,_⟩;·exact m.2 q.symm
   ·exact m.2 q
 nd:=s
 ix:=rfl
 loc:=C
 len:=fun _ _=>by simp[<-d]
 val:=fun j k z v g f=>by
  match k with
  |0=>simp at f
  |1=>simp at f
  |k+ 2=>
   rw[<-d,bp,bp,aM]at g;rw[bp,bp,aM]at f
   cases e:b[k]? with
   |none=>rw[e]at g;cases g
   |some p=>
    rw[e]at g f;have H:p.1=z:=dj.inj g;have i:j.getD p.2.1 none=some v:=dj.inj f;subst H;refine eaJ (h p (aN e)) fun J K w I=>?_;rw[bq]at i;refine⟨p.2.1,I,?_,w,jK r w J⟩
    cases q:j[p.2.1]? with
    |none=>rw[q]at i;cases i
    |some o=>rw[q]at i;exact congrArg some i
end
section
variable {X:Cx} {pz:Za} {σ:St} {H:Hp} {s:Zy}
end
section
variable {prog:Zu} {w:Zv} {A:Zw} {R:Result->Zy->Prop} {I:Zx} {fp wr:List Zx} {n:Nat} {P:Nat->Zz->Prop} {St:Nat->Zt->Prop}
end
section
variable {prog:Zu} {w:Zv} {A:Zw} {E:Zb} {s:Zy} {l:Zx} {xs:Array (Int×Tok)}
end
section
variable {X:Cx}
end
section
variable {X:Cx}
end
end L2.Internal
open L2.Internal.PE renaming mono→J7
open L2.Internal.SqL renaming of→J8
open L2.Internal.SqT renaming of→J9
namespace KK.Internal
variable {H:Hp}
open PySem L2.Internal BO.Internal
mutual
inductive Kd where
 |any
 |num
 |fn (a b:Kd)
 |rcd (l:Kds)
 |ch (l:Kds)
 |row (a:Kd)
inductive Kds where
 |nil
 |cons (w:Str) (k:Kd) (t:Kds)
end
noncomputable def sD (s:Str):Dt:= .flat (.str s)
mutual
noncomputable def Kd.d:Kd->Dt
 | .any=> .tup [sD "any"]
 | .num=> .tup [sD "num"]
 | .fn a b=> .tup [sD "fn",a.d,b.d]
 | .rcd l=> .tup [sD "rec",.tup l.ds]
 | .ch l=> .tup [sD "choice",.tup l.ds]
 | .row a=> .tup [sD "row",a.d]
noncomputable def Kds.ds:Kds->List Dt
 | .nil=>[]
 | .cons w k t=> .tup [sD w,k.d]::t.ds
end
noncomputable def lkK:List (Str×Kd)->Str->Option Kd
 |[],_=>none
 |p::t,x=>if p.1=x then some p.2 else lkK t x
def DKd (H:Hp) (d:Zx) (l:List (Str×Kd)):Prop:=∃a,H d=some (.dK a)/\∀w,match lkK l w with
  |some k=>∃v,k8 a (Je w)=some v/\Im H v k.d
  |none=>k8 a (Je w)=none
theorem DKd.some {d:Zx} {l:List (Str×Kd)} {w:Str} {k:Kd} (h:DKd H d l) (e:lkK l w=some k):∃v,rO H d (.str w) (some v)/\Im H v k.d:=by refine eae h fun a g f=>?_;have:=f w;rw[e]at this;refine eae this fun v c b=>?_;exact⟨v,by rw[<-c];exact rO.k (k:=(Je w:Key)) g,b⟩
theorem DKd.none {d:Zx} {l:List (Str×Kd)} {w:Str} (h:DKd H d l) (e:lkK l w=none):rO H d (.str w) none:=by refine eax h fun a b f=>?_;have:=f w;rw[e]at this;rw[<-this];exact rO.k (k:=(Je w:Key)) b
def zk(h:H t=none) (i:Ims H xs ds):Im (upd H t (.tup xs)) (.ref t) (.tup ds):= .tup gm (i.mono (gT.tk (gr h _)))
def zl(s:gT H H2) (h:H l=none) (o:HO):gT H (upd H2 l o):=fun b u e=>by rw[gx (gD e h)];exact s b u e
end KK.Internal
namespace KK.Internal
open PySem L2.Internal BO.Internal
structure Ad where
 b:Zx
 bx:Zx
 p0:Zx
 p1:Zx
 p2:Zx
 p3:Zx
noncomputable def Ad.ls (A:Ad):List Zx:=[A.p0,A.p1,A.p2,A.p3]
def FB (A:Ad) (H H':Hp):Prop:=(∀a o,H a=some o->a∉A.ls->H' a=some o)/\FK H H'
theorem FB.trans {A:Ad} {H H1 d:Hp} (a:FB A H H1) (b:FB A H1 d):FB A H d:=⟨fun c o e n=>b.1 c o (a.1 c o e n) n,a.2.trans b.2⟩
def Ad.ne {A:Ad} (h:A.ls.Nodup):A.p0≠A.p1/\A.p0≠A.p2/\A.p0≠A.p3/\A.p1≠A.p2/\A.p1≠A.p3/\A.p2≠A.p3:=by simp only[Ad.ls,aE,aj,bo,or_false,not_or]at h;exact⟨h.1.1,h.1.2.1,h.1.2.2,h.2.1.1,h.2.1.2,h.2.2.1⟩
section
variable {c:Cs} {H H':Hp} {A:Ad} {r:V} {D:Bd}
end
end KK.Internal
namespace L2.Internal
open PySem PySem.Spec PyProof.Rows PySem.W
section
variable {prog:Zu} {w:Zv} {A:Zw} {E:Zb} {s:Zy}
def zm(ho:s.heap.get? a=some (seqObj "list" vs.toArray n)) (k:vs.length<2)
  (h:P (.done (.ret .none)) {s with heap:=sortedHeap s.heap a vs (bz vs)}):C7 (model prog w) A (Builtin.«list.sort» ⟨[.ref a],[]⟩) P E s:=by
 obtain⟨c,f⟩:∃c,(s.heap.update a (Jz fun _=>(#[]:Array Zz))).get? a=some (seqObj "list" #[] c):=⟨_,get?_update_seq ho fun _=>#[]⟩;have e:(((s.heap.update a (Jz fun _=>(#[]:Array Zz))).push (seqObj "tuple" vs.toArray 0)).push (seqObj "list" #[] 0)).get? a=some (seqObj "list" #[] c):=f7 _ (f7 _ f);rw[list_sort_plain];refine C6 (listItems_at ho rfl (C6 (listUpdate_at ho rfl ?_ (by rw[ay,IS];lia) (cO _))));refine C6 (seqEpoch_at f rfl (C6 (wpAny_newTuple ?_ (by show vs.length<=_;rw[IS];lia))));refine C6 (wpAny_newList (JM ?_) (cO _));dsimp only;have d:vs.toArray.size<2:=by rw[ay];lia
 rw[ip d,ip d];refine C6 (IT ?_);rw[StateT.run_pure];refine C6 (IT ?_);dsimp only;have j:(arrOf (Jb general' (vs.toArray.zip vs.toArray) #[] 7 none)).map (·.2)=bz vs:=by show(vs.toArray.zip vs.toArray).map (·.2)=_;apply Array.toList_inj.mp;simp[bA]
 refine C6 (seqEpoch_at e rfl (C6 (listUpdate_at e rfl ?_ (cO _) (by rw[Array.size_map];show(vs.toArray.zip vs.toArray).size<=_;rw[IS];simp;lia))));simp only[bne_self_eq_false,Bool.false_eq_true,if_false];refine IT ?_;rw[show(fun _:Array Zz=>(arrOf (Jb general' (vs.toArray.zip vs.toArray) #[] 7 none)).map (·.2))=fun _=>bz vs from funext fun _=>j];exact h
end
section
variable {X:Cx}
end
section
variable {fs ex:List Zx} {H H':Hp} {h h':Zt}
def Un.more (k:∀b u,h.get? b=some u->h'.get? b=some u) (S:∀b o,H b=some o->H' b=some o) (n:∀b u,h.get? b=some u->H b=none->H' b=none):Un fs ex H H' h h' where
 keep:=fun b u q _ _ _=>k b u q
 slot:=fun b u q _ _ _=>⟨u.slots,k b u q⟩
 free:=fun b u q e _=>n b u q e
 there:=fun b u q _=>⟨u,k b u q⟩
 tups:=fun b a q=>S _ _ q
 frzs:=fun b u a q=>S _ _ q
 tbls:=fun b c q=>⟨#[],by rw[S _ _ q];simp⟩
end
section
variable {X:Cx} {pz:Za} {σ:St} {H H':Hp} {s:Zy} {h':Zt}
theorem Inv.more {t':Nat} (I:Inv X pz σ H s) (k:∀b u,s.heap.get? b=some u->h'.get? b=some u) (S:∀b o,H b=some o->H' b=some o) (n:∀b u,s.heap.get? b=some u->H b=none->H' b=none)
  (a:∀b o,H' b=some o->H b=none->jm X.prog X.w H' h' b o):Inv X pz σ H' {s with heap:=h',toks:=t'}:=
 I.un (Un.more k S n) fun b o e=>by
  cases d:H b with
  |none=>exact a b o e d
  |some u=>have f:=S b u d;rw[e]at f;cases f;exact(I.hok b o d).stay (fun c v _ q=>k c v q) (fun c q=>S _ _ q) fun c g q=>S _ _ q
end
section
variable {X:Cx}
theorem uO:∀b:List Zx,jh (b.map V.ref) (b.map IP)
 |[]=> .nil
 |a::b=> .cons rfl (uO b)
end
end L2.Internal
namespace L2.Internal
open PySem PySem.Spec PyProof.Rows
mutual
noncomputable def nlD:Dt->Bool
 | .flat _=>true
 | .tup l=>Cy l
 | .lst _=>false
noncomputable def Cy:List Dt->Bool
 |[]=>true
 |x::xs=>nlD x&&Cy xs
end
theorem tJ:∀{l:List Dt} {j:Nat} {a:Dt},Cy l=true->l[j]?=some a->nlD a=true
 |x::xs,0,a,h,e=>by cases e;rw[Cy,fu]at h;exact h.1
 |x::xs,j+ 1,a,h,e=>by rw[Cy,fu]at h;exact tJ h.2 e
 |[],j,a,_,e=>by simp at e
section
variable {X:Cx} {pz:Za} {σ:St} {H:Hp} {s:Zy}
mutual
theorem zo (I:Inv X pz σ H s):∀{x:V} {d e:Dt},At X.K H x d->At X.K H x e->nlD d=true->nlD e=true->eqD d e=true
 |_,_,_,.flat h,.flat _,_,_=>by rw[eqD];exact za h
 |_,_,_,.tup h hs,.tup h' hs',n,n'=>by have e:=I.tuple_inj h h';subst e;rw[nlD]at n n';rw[eqD];exact wQ I hs hs' n n'
 |_,_,_,.flat h,.tup _ _,_,_=>absurd h fq
 |_,_,_,.tup _ _,.flat h,_,_=>absurd h fq
 |_,_,_,.lst _ _,_,n,_=>by rw[nlD]at n;cases n
 |_,_,_,_,.lst _ _,_,n=>by rw[nlD]at n;cases n
theorem wQ (I:Inv X pz σ H s):∀{xs:List V} {l m:List Dt},Ats X.K H xs l->Ats X.K H xs m->Cy l=true->Cy m=true->xW l m=true
 |_,_,_,.nil,.nil,_,_=>by rw[xW]
 |_,_,_,.cons h t,.cons h' t',n,n'=>by rw[Cy,fu]at n n';rw[xW,zo I h h' n.1 n'.1,wQ I t t' n.2 n'.2];rfl
end
def nF(I:Inv X pz σ H s) (r:iZ x u) (e:qj x=true) (h:SqT X.K H b ys) (c:A.units<cLine):JZ A s u (.ref b) false/\JZ A s (.ref b) u false:=by
 refine eah (I.tuple h) fun d _ a _=>?_
 cases x with
 |non=>cases r;exact⟨.none_tuple a c,.tuple_none a c⟩
 |bl k=>cases r;exact⟨.bool_tuple _ a c,.tuple_bool _ a c⟩
 |int i=>obtain⟨t,rfl⟩:=r;exact⟨.int_tuple _ _ a c,.tuple_int _ _ a c⟩
 |str z=>obtain⟨t,rfl⟩:=r;exact⟨.str_tuple _ _ a c,.tuple_str _ _ a c⟩
 |_=>cases e
def Fy (I:Inv X pz σ H s):∀(n:Nat) (A:Zw) {x y:V} {u v:Zz} {d e:Dt},iZ x u->iZ y v->At X.K H x d->At X.K H y e->nlD d=true->nlD e=true->kW d<=n->A.units+n<cLine->JZ A s u v (eqD d e):=by
 intro n
 induction n with
 |zero=>
  intro A x y u v d e i g p m k f o D
  cases p with
  |flat h=>
   cases m with
   |flat c=>rw[eqD];exact yX i g h c
   |tup c _=>cases g;simp only[eqD];exact(nF I i h c (by lia)).1
   |lst _ _=>rw[nlD]at f;cases f
  |tup _ _=>rw[kW]at o;lia
  |lst _ _=>rw[kW]at o;lia
 |succ n C=>
  intro A x y u v d e i g p m k f o D
  cases p with
  |flat h=>
   cases m with
   |flat c=>rw[eqD];exact yX i g h c
   |tup c _=>cases g;simp only[eqD];exact(nF I i h c (by lia)).1
   |lst _ _=>rw[nlD]at f;cases f
  |lst _ _=>rw[nlD]at k;cases k
  |@tup a G K h q=>
   cases m with
   |flat c=>cases i;simp only[eqD];exact(nF I g c h (by lia)).2
   |lst _ _=>rw[nlD]at f;cases f
   |@tup b F J c l=>
    cases i;cases g;by_cases hab:a=b;·subst hab;rw[zo I (.tup h q) (.tup c l) k f];exact SeqAt.EqAt.same _
    ·rw[kW]at o;rw[nlD]at k f;refine SeqAt.EqAt.of_refs hab (Fo I h q c l (by lia) fun j M L x y u v r E w t B z=>?_).1;exact C A.in1 w t B z (tJ k r) (tJ f E) (cJ (depDs_get r) (by lia)) (by show A.units+ 1+n<cLine;lia)
end
section
variable {X:Cx}
end
end L2.Internal
namespace KK.Internal
open PySem L2.Internal BO.Internal
structure Bw (c:Cs) (H:Hp) (A:Ad) (r:V) (D:Bd):Prop where
 b:H A.b=some (.ins c.B A.bx (fB A.p0 A.p1 A.p2 A.p3 r))
 e0:H A.p0=some (.lst (D.pts.map V.int))
 e1:∃mv,H A.p1=some (.lst mv)/\pk (wK c H) mv D.mks
 e2:∃uv,H A.p2=some (.lst uv)/\pk (uJ c H) uv D.uss
 e3:∃fv,H A.p3=some (.lst fv)/\Ims H fv (D.fls.map flD)
 nd:A.ls.Nodup
section
variable {c:Cs} {H H':Hp} {A:Ad} {r:V} {D:Bd}
def Bw.same (B:Bw c H A r D) (s:gT H H'):Bw c H' A r D:=by obtain⟨b,m,⟨g,i,h⟩,⟨a,e,d⟩,⟨l,k,j⟩,f⟩:=B;exact⟨s _ _ b,s _ _ m,⟨g,s _ _ i,h.imp fun _ _=>wK.mono (gT.fk s)⟩,⟨a,s _ _ e,d.imp fun _ _=>uJ.mono (gT.fk s)⟩,⟨l,s _ _ k,j.mono (gT.tk s)⟩,f⟩
def Bw.other (B:Bw c H A r D) {a:Zx} {xs ys:List V} (e:H a=some (.lst xs)) (n:a∉A.ls):Bw c (upd H a (.lst ys)) A r D:=by obtain⟨b,t,⟨j,m,l⟩,⟨d,g,f⟩,⟨s,q,p⟩,i⟩:=B;have k:=ky (o:= .lst ys) e;simp only[Ad.ls,aj,bo,or_false,not_or]at n;exact⟨by rw[gx (jP b e (fun h=>nomatch h))];exact b,by rw[gx (IU n.1)];exact t,⟨j,by rw[gx (IU n.2.1)];exact m,l.imp fun _ _=>wK.mono k⟩,⟨d,by rw[gx (IU n.2.2.1)];exact g,f.imp fun _ _=>uJ.mono k⟩,⟨s,by rw[gx (IU n.2.2.2)];exact q,p.mono k.tk⟩,i⟩
def Bw.pt (B:Bw c H A r D) (v:Int):Bw c (upd H A.p0 (.lst (D.pts.map V.int++[.int v]))) A r {D with pts:=D.pts++[v]}:=by obtain⟨b,d,⟨m,p,n⟩,⟨e,g,f⟩,⟨t,s,q⟩,a⟩:=B;have k:=ky (o:= .lst (D.pts.map V.int++[.int v])) d;refine eaj (Ad.ne a) fun l j i _=>?_;exact⟨by rw[gx (jP b d (fun h=>nomatch h))];exact b,by rw[gm,bB];rfl,⟨m,by rw[gx (IU l)];exact p,n.imp fun _ _=>wK.mono k⟩,⟨e,by rw[gx (IU j)];exact g,f.imp fun _ _=>uJ.mono k⟩,⟨t,by rw[gx (IU i)];exact s,q.mono k.tk⟩,a⟩
def Bw.addM (B:Bw c H A r D) {a:List V} {x:V} {m:Mkg} (e:H A.p1=some (.lst a)) (t:wK c H x m):Bw c (upd H A.p1 (.lst (a++[x]))) A r {D with mks:=D.mks++[m]}:=by obtain⟨b,y,⟨q,f,s⟩,⟨g,j,i⟩,⟨w,v,u⟩,d⟩:=B;rw[e]at f;cases f;have k:=ky (o:= .lst (a++[x])) e;refine eai (Ad.ne d) fun p _ _ n l _=>?_;exact⟨by rw[gx (jP b e (fun h=>nomatch h))];exact b,by rw[gx p];exact y,⟨_,gm,.snoc (t.mono k) (s.imp fun _ _=>wK.mono k)⟩,⟨g,by rw[gx (IU n)];exact j,i.imp fun _ _=>uJ.mono k⟩,⟨w,by rw[gx (IU l)];exact v,u.mono k.tk⟩,d⟩
def Bw.us (B:Bw c H A r D) {a:List V} {x:V} {u:Us} (e:H A.p2=some (.lst a)) (s:uJ c H x u):Bw c (upd H A.p2 (.lst (a++[x]))) A r {D with uss:=D.uss++[u]}:=by obtain⟨b,y,⟨n,q,p⟩,⟨g,d,i⟩,⟨w,v,t⟩,f⟩:=B;rw[e]at d;cases d;have k:=ky (o:= .lst (a++[x])) e;refine eai (Ad.ne f) fun _ m _ l _ j=>?_;exact⟨by rw[gx (jP b e (fun h=>nomatch h))];exact b,by rw[gx m];exact y,⟨n,by rw[gx l];exact q,p.imp fun _ _=>wK.mono k⟩,⟨_,gm,.snoc (s.mono k) (i.imp fun _ _=>uJ.mono k)⟩,⟨w,by rw[gx (IU j)];exact v,t.mono k.tk⟩,f⟩
def Bw.root (B:Bw c H A r D) (v:V):Bw c (upd H A.b (.ins c.B A.bx (fB A.p0 A.p1 A.p2 A.p3 v))) A v D:=by obtain⟨b,j,⟨q,g,s⟩,⟨m,f,n⟩,⟨u,i,t⟩,p⟩:=B;have k:=Bc (o:= .ins c.B A.bx (fB A.p0 A.p1 A.p2 A.p3 v)) b;have d:∀{a:Zx} {l:List V},H a=some (.lst l)->a≠A.b:=fun e=>jP e b (fun h=>nomatch h);exact⟨gm,by rw[gx (d j)];exact j,⟨q,by rw[gx (d g)];exact g,s.imp fun _ _=>wK.mono k⟩,⟨m,by rw[gx (d f)];exact f,n.imp fun _ _=>uJ.mono k⟩,⟨u,by rw[gx (d i)];exact i,t.mono k.tk⟩,p⟩
end
def Bw.fl {c:Cs} {H:Hp} {A:Ad} {r:V} {D:Bd} (B:Bw c H A r D) {a:List V} {x:V} {p:Int×Int} (e:H A.p3=some (.lst a)) (u:Im H x (flD p)):Bw c (upd H A.p3 (.lst (a++[x]))) A r {D with fls:=D.fls++[p]}:=by obtain⟨b,y,⟨q,t,s⟩,⟨g,j,i⟩,⟨w,f,v⟩,d⟩:=B;rw[e]at f;cases f;have k:=ky (o:= .lst (a++[x])) e;refine eai (Ad.ne d) fun _ _ n _ m l=>?_;exact⟨by rw[gx (jP b e (fun h=>nomatch h))];exact b,by rw[gx n];exact y,⟨q,by rw[gx m];exact t,s.imp fun _ _=>wK.mono k⟩,⟨g,by rw[gx l];exact j,i.imp fun _ _=>uJ.mono k⟩,⟨_,gm,by rw[bB];exact(v.mono k.tk).app (.cons (u.mono k.tk) .nil)⟩,d⟩
def Bw.out {c:Cs} {H:Hp} {A:Ad} {r:V} {D:Bd} (B:Bw c H A r D) {a:Zx} (h:H a=none):a∉A.ls:=fun m=>by
 obtain⟨b,g,⟨l,e,n⟩,⟨i,d,j⟩,⟨o,f,_⟩,k⟩:=B;simp only[Ad.ls,aj,bo,or_false]at m;rcases m with rfl|rfl|rfl|rfl;·rw[h]at g;cases g
 ·rw[h]at e;cases e
 ·rw[h]at d;cases d
 ·rw[h]at f;cases f
inductive Pm where
 |num
 |any
 |fn (i o:Nat)
 |rcd (l:List (Str×Nat))
 |tag (w:Str) (o:Nat)
 |row (o:Nat)
inductive Pu where
 |num
 |call (o i:Nat)
 |take (l:List (Str×Nat))
 |case (l:List (Str×Nat))
 |row (i:Nat)
structure Pp where
 outs:List (List Pm)
 ins:List (List Pu)
 fls:List (Nat×Nat)
end KK.Internal
namespace L2.Internal
open PySem PySem.Spec PyProof.Rows
section
variable {X:Cx}
end
section
variable {prog:Zu} {w:Zv} {A:Zw} {s:Zy}
end
section
variable {X:Cx}
end
section
variable {X:Cx}
end
section
variable {prog:Zu} {w:Zv} {A:Zw} {E:Zb} {h:Zt} {g:Array GenState} {d:Drawn} {t:Nat} {os:OsState} {a D:Zx} {o:Obj} {K:Zp}
end
section
variable {X:Cx}
end
open Sem (wp)
def DK (h h':Zt):Prop:=∀b o,h.get? b=some o->∃a,h'.get? b=some a/\a.dict=o.dict/\a.cls=o.cls
theorem DK.trans {h d c:Zt} (a:DK h d) (b:DK d c):DK h c:=fun x o e=>by refine eah (a x o e) fun g j l n=>?_;refine eah (b x g j) fun f i k m=>?_;exact⟨f,i,k.trans l,m.trans n⟩
section
variable {prog:Zu} {w:Zv} {A:Zw} {E:Zb} {h:Zt} {g:Array GenState} {d:Drawn} {t:Nat} {os:OsState} {a D dx:Zx} {o:Obj} {K:Zp} {name:Str} {v:Zz} {mA:Zc}
end
open Builtin Builtin.ObjectAttr
section
variable {prog:Zu} {w:Zv} {A:Zw} {E:Zb} {h:Zt} {g:Array GenState} {d:Drawn} {t:Nat} {os:OsState} {a D dx:Zx} {o:Obj} {K:Zp} {name:Str} {v:Zz} {mA:Zc} {cd:ClassData} {vs:Array Zz}
end
section
variable {prog:Zu} {w:Zv} {A:Zw} {E:Zb} {h:Zt} {g:Array GenState} {d:Drawn} {t:Nat} {os:OsState}
variable {nm q:Str} {C N:Zx} {bs bm bmB:List Zz} {hdct:Bool} {sn:Zd} {sub:List Zz} {ab:Bool} {col:Option Bool} {dd:Option Zx} {k0 k1 k2 k3 k5:Option Zz} {B newId initId:String}
end
section
variable {prog:Zu} {w:Zv} {A:Zw} {E:Zb} {s:Zy} {env:Env}
variable {nm q:Str} {C N:Zx} {bs bm bmB:List Zz} {hdct:Bool} {sn:Zd} {sub:List Zz} {ab:Bool} {col:Option Bool} {dd:Option Zx} {k0 k1 k2 k3 k5:Option Zz} {B newId initId:String}
end
section
variable {P:Zu} {w:Zv} {H:Hp} {h:Zt} {a C dx:Zx}
end
section
variable {X:Cx} {pz:Za} {σ:St} {H:Hp} {s:Zy} {A:Zw} {E:Zb} {a C dx:Zx} {f:Str} {fs:List (Str×V)}
end
section
variable {X:Cx} {o value e:Zr} {ta tv:TE} {f:Str} {pos pos':Pos}
end
section
variable {P:Zu} {w:Zv} {K:Zp} {mg:Zc} {base:Zt} {N:Zd} {qual:Str} {scope:Scope} {f:Zx} {cd:Zz} {A:Zw} {outer:List Env} {s₀:Zy} {H₀:Hp} {E:XK}
end
structure ExcI (K:Zp) (C fI:Zx):Prop where
 at_:∃bm N nm q bs hdct sn sub ab col dd k0 k1 k2 k3 k5,K.lookup C=some (excClassObj nm q C N bs bm hdct sn sub ab col dd k0 k1 k2 k3 k5 "ValueError.__new__")/\PySem.W.nsOkIn K N=true/\eN K N "__init__"=some (some (.ref fI))/\PySem.W.tailIn K VEbm bm=true
 fn:∃oI,K.lookup fI=some oI/\oI.cls= .type "function"
section
variable {X:Cx} {C fI:Zx} {E:XK} {x:Str} {np cpos pos:Pos} {e:Zr} {es:List Zr} {t:TA} {k:Nat} {fd:Zs} {ps:Zd} {sp:Sp}
end
section
variable {X:Cx} {Y:Zx} {y n:Str} {py hpos:Pos} {b₀:Zq} {body:List Zq} {tb:TS.Internal} {i:Nat}
variable {k j:Nat} {f:Zx} {fd:Zs} {ps:Zd} {sp:Sp} {dvs:List V} {ds:List Zz} {x v:Str} {p pv pos pos' tpos:Pos} {e:Zr} {es:List Zr} {t:TA}
end
open Builtin Builtin.ObjectAttr
section
variable {K:Zp} {C fI N:Zx} {nm q:Str} {bs bm:List Zz} {sn:Zd} {sub:List Zz} {ab:Bool} {col:Option Bool} {dd:Option Zx} {k0 k1 k2 k3 k5:Option Zz} {oI:Obj}
end
section
variable {P:Zu} {w:Zv} {K:Zp} {mg:Zc} {base:Zt}
end
section
variable {prog:Zu} {w:Zv} {A:Zw} {E:Zb} {s:Zy}
end
section
variable {X:Cx}
end
section
variable {X:Cx}
end
section
variable {P:Zu} {w:Zv} {K:Zp} {mg:Zc} {base:Zt} {N:Zd} {qual:Str} {scope:Scope} {f:Zx} {cd:Zz} {A:Zw} {outer:List Env} {s₀:Zy} {H₀:Hp} {E:XK}
end
section
variable {X:Cx} {i:Nat} {Y:Zx} {y n:Str} {py hpos:Pos} {b₀:Zq} {body:List Zq} {tb:TS.Internal}
variable {k:Nat} {f:Zx} {fd:Zs} {ps:Zd} {sp:Sp} {dvs:List V} {ds:List Zz} {x:Str} {p pos pos' tpos:Pos} {e:Zr} {es:List Zr} {t:TA}
end
section
variable {X:Cx}
end
section
variable {X:Cx} {CX:CXT} {k:Nat} {E:XK} {c e:Zr} {es:List Zr} {tc:TE} {t:TA} {pos:Pos} {S:Zx->Sp->Prop}
def II (X:Cx) (d:CXT) (k:Nat) (f:Zx) (c:Sp):Prop:=∃b a,rN X.prog X.w X.K X.mg X.base d k f b a c/\dW X.K (.ref f)=true/\m7 X.K b a []
def FA (S:Zx->Sp->Prop) (E:XK) (d:TE) (t:TA):TE:=fun a H Q=>d a H fun x g=>∃f b,x= .ref f/\S f b/\t a g fun c e=>b c e Q E
def Bl (G:∀f a,S f a->II X CX k f a) (x:mC k X.A) (p:m8 CX X E) (B:PE X c tc) (D:PA X (e::es) t)
  (y:autoParam (eval (.Call c (e::es) [] pos) X.env=(do callWith pos (<-eval c X.env) [] (Jo pos (IQ (e::es) X.env)) (backToKw pos (JO [] X.env)))) auR._auto_1)
  (A:autoParam (IQ (e::es) X.env=(false,eval e X.env)::IQ es X.env) auR._auto_1) (b:autoParam ((Jo pos (IQ es X.env)).any (·.1)=false) auR._auto_1):
  PE X (.Call c (e::es) [] pos) (FA S E tc t):=by intro g s d H Q I h;rw[y];refine C6 (thn (B g s d H _ I h) ?_);refine fun u m=>faf fun v J=>fab fun j n=>faf fun f a=>fab fun l w o=>?_;subst l;obtain rfl:u=IP f:=n;refine eal (G f a w) fun O N F z C=>?_;refine eC (h₀:=X.base) j.ok.mod.kin z (thn (D pos g m d J _ j o) fun L M ⟨K,P,i,r,q⟩=>⟨i.kIn,?_⟩) A b;exact ur F x C .nil p i r (by rw[aD];exact q)
end
section
open PySem.SeqAt
open PySem.AutoSeq1 (wpAny_loadPart')
open PySem.MeetsSeq PySem.MeetsSeq2 PySem.MeetsSeq3
end
section
variable {X:Cx}
end
theorem qP (f:Nat->Int):∀n,argBest (fun i j=>decide (f i>f j)) n<=n/\∀k,k<=n->f k<=f (argBest (fun i j=>decide (f i>f j)) n)
 |0=>⟨cN _,fun k hk=>by
   have:k=0:=by lia
   subst this;exact fQ _⟩
 |n+ 1=>by
  obtain⟨h1,h2⟩:=qP f n;rw[argBest];by_cases h:f (n+ 1)>f (argBest (fun i j=>decide (f i>f j)) n)
  ·rw[ip (jo h)];refine⟨cN _,fun k hk=>?_⟩;by_cases e:k=n+ 1;·rw[e];exact fQ _
   ·have:=h2 k (by lia);lia
  ·rw[gU (by simpa using h)];refine⟨by lia,fun k hk=>?_⟩;by_cases e:k=n+ 1;·rw[e];lia
   ·exact h2 k (by lia)
section
variable {X:Cx}
def zr (L:X.calm=true):oE X (.builtin "max") (fun B H Q=>∃(a:Zx) (b:List Int),B=[.ref a]/\SqL X.K H a (b.map V.int)/\b≠[]/\∀n,n∈b->(∀m∈b,m<=n)->Q (.int n) H):=by
 intro R s N H B O Q I r h;refine eak h fun a b k F G q=>?_;subst k;refine eae (qi r) fun u k D=>?_;subst k;cases D;refine eah (I.list F) fun x w p S=>?_;obtain⟨d,e⟩:=(sF w).allInts.items;have l:=p.isList;have f:=w.length;rw[aC]at f;have E:d.size=b.length:=by have i:=congrArg Array.size e;simp only[intItems,ay,Array.size_map]at i;lia
 have c:∀j,j<b.length->numAt d j=b.getD j 0:=fun j g=>by
  have i:x.toArray[j]?=(intItems d)[j]?:=by rw[e]
  refine eae (w.get (show(b.map V.int)[j]?=some (.int b[j]) by rw[aM,bf g];rfl)) fun v y o=>?_;obtain⟨t,rfl⟩:=o;rw[bt,y]at i;obtain⟨P,A⟩:=intItems_at i.symm;injection A with A _;rw[<-A,bq,bf g];rfl
 have U:0<b.length:=List.length_pos_iff.mpr G;rw[e]at l;refine max_intList (I.ok.hd L) l (by lia) fun v T C y K=>?_;obtain⟨t,rfl⟩:=intItems_at y;obtain⟨W,M⟩:=qP (numAt d) (d.size-1);refine iab (.int _) H (I.kept (t':=C) K) ⟨_,rfl⟩ (q _ ?_ fun m J=>?_);·rw[c _ (by lia),bq,bf (by lia)];exact List.getElem_mem _
 ·obtain⟨j,g⟩:=bC.mp J;have z:=(aq.mp g).1;have:=M j (by lia);rw[c j z,bq,g]at this;exact this
end
section
variable {X:Cx}
def zt (K:Zp):V->List V->Hp->VK->Prop:=fun x b H Q=>∃(l:Zx) (a:List Int) (n:Int) (j:Nat),x= .ref l/\b=[.int n]/\SqL K H l (a.map V.int)/\a.length<=1000/\a[j]?=some n/\(∀m:Nat,m<j->a[m]?≠some n)/\Q (.int (j:Int)) H
noncomputable def isInt (n:Int):Zz->Bool
 | .int i _=>decide (i=n)
 |_=>false
def zu(hr:mC k X.A):MtR X "list.index" (zt X.K):=by
 intro pz s σ H x vs v us Q I rx rv h;obtain⟨l,ns,n,j,rfl,rfl,hq,hl,hj,hno,q⟩:=h;cases rx;refine eae rv.one fun u z0 ru=>?_;subst z0;have hu:=hr.un;have sl0:sizeLine=16777216:=IS;refine eah (I.list hq) fun its r pl hz=>?_;have lz:=r.length;rw[aC]at lz;have hjl:=(aq.mp hj).1;obtain⟨⟨cls,dd,data,sl⟩,ho,hcl,n',hd⟩:=id pl.isList;simp only at hcl hd;subst hcl hd;have rel:∀(i:Nat) (hi:i<its.length),∃z t,ns[i]?=some z/\its[i]=Value.int z t:=fun i hi=>by obtain⟨z,hz⟩:∃z,ns[i]?=some z:=⟨_,bf (by lia)⟩;refine eae (r.get (show(ns.map V.int)[i]?=some (.int z) by rw[aM,hz];rfl)) fun w hw rw'=>?_;rw[bf hi]at hw;cases hw;obtain⟨t,et⟩:=rw';exact⟨z,t,hz,et⟩
 refine call_meets fe ⟨_,ho,rfl⟩ PySem.F.entry_list_index (PySem.F.args_list_index_2 _ _)
  (SeqAt.list_indexAt l its.toArray n' dd sl u (isInt n) j (by rw[ay];lia) (by lia) ?_ ?_) ⟨ho,fun w hw=>?_,⟨.int (j:Int),H,I.tok _,⟨_,rfl⟩,q⟩⟩;·refine ead (rel j (by lia)) fun z t hz1 hz2=>?_;rw[hj]at hz1;cases hz1;show isInt n its[j]=true;rw[hz2];exact jo rfl
 ·intro m hm hmj;rw[ay]at hm;refine ead (rel m hm) fun z t hz1 hz2=>?_;show isInt n its[m]=false;rw[hz2];refine iY fun e=>hno m hmj ?_;rw[hz1,e]
 ·have hw':w∈its:=by simpa using hw
  obtain⟨i,hi,rfl⟩:=List.getElem_of_mem hw';refine ead (rel i hi) fun z t hz1 hz2=>?_;have rz:iZ (.int z) its[i]:=⟨t,hz2⟩;have:=Fy I 100 X.A.in1 rz ru (At.flat (K:=X.K) rfl) (At.flat rfl) rfl rfl (by simp[kW]) (by show X.A.units+ 1+ 100<cLine;lia);have e:isInt n its[i]=eqD (.flat (.int z)) (.flat (.int n)):=by rw[hz2];show decide (z=n)=_;rw[eqD];show decide (z=n)=(z==n);rw[fo];simp
  rw[e];exact this
end
section
variable {X:Cx}
end
section
variable {X:Cx}
end
end L2.Internal
namespace HT.Internal
open PySem PySem.Spec PyProof.Rows L2.Internal
section
variable {prog:Zu} {w:Zv} {A:Zw} {E:Zb} {s:Zy}
end
end HT.Internal
namespace L2.Internal
variable {t:Zx}
open PySem PySem.Spec PyProof.Rows
section
variable {X:Cx}
end
section
variable {prog:Zu} {w:Zv} {A:Zw} {E:Zb} {s:Zy}
end
section
variable {X:Cx} {pz:Za} {σ:St} {H:Hp} {d it t:Zx} {vs:List V} {A:Zw} {R:Result->Zy->Prop}
end
section
variable {X:Cx}
def FC (K:Zp):R2:=fun x y H Q=>∃a b d c,x= .ref a/\y= .ref b/\SqT K H a d/\SqT K H b c/\d.length+c.length<=sizeLine/\
 (d=[]->Q (.ref b) H)/\(c=[]->Q (.ref a) H)/\∀p,H p=none->Q (.ref p) (upd H p (.tup (d++c)))
def vK:OpR X (Jj .Add) (FC X.K):=by
 intro pz s σ H x y v u Q I rx ry h;refine eaA h fun a b xs ys=>fak fun z0 z1 ha hb hz q0 q1 q2=>?_;subst z0;subst z1;cases rx;cases ry;refine eah (I.tuple ha) fun its r1 p1 _=>?_;refine eah (I.tuple hb) fun its2 r2 p2 _=>?_;by_cases hx:xs=[]
 ·obtain⟨⟨cls,dd,data,sl⟩,ho,hc,n,hd⟩:=id p1;obtain⟨⟨cls2,dd2,data2,sl2⟩,ho2,hc2,n2,hd2⟩:=id p2;simp only at hc hd hc2 hd2;subst hc hd hc2 hd2;exact concat_meets ⟨_,ho,rfl⟩ ⟨_,ho2,rfl⟩ noFill_tuple_add seq_tuple_add eZ e8 (fb _ _)
   (tuple_addW0 a b its.toArray its2.toArray n n2 dd dd2 sl sl2 (by simp[r1.nil_iff.mpr hx])) ⟨ho,ho2,.ref b,H,I,rfl,q0 hx⟩
 refine HT.Internal.cat_tup p1 p2 (fun z=>hx (r1.nil_iff.mp z)) (fun z=>(iap (.ref a) H ⟨I,rfl,q1 (r2.nil_iff.mp z)⟩)) (fun z=>?_) (by rw[<-r1.length,<-r2.length];exact hz);refine iap (.ref s.heap.objs.size) _ ⟨I.laid (t':=s.toks) (o:= .tup (xs++ys)) (fun b ob q=>f7 _ q) (cN _) ?_,rfl,q2 _ (I.hok.fresh (cN _))⟩;exact⟨by rw[aO];exact hz,_,r1.append r2,xG.new _ _⟩
end
def zv{h h':Zt} (g:h.IsTupleIter j t i) (k:∀o,h.get? j=some o->h'.get? j=some o):h'.IsTupleIter j t i:=by refine eax g fun o e r=>?_;exact⟨o,k o e,r⟩
def Cz{h h':Zt} (g:h.IsTuple t its) (k:∀o,h.get? t=some o->h'.get? t=some o):h'.IsTuple t its:=by refine eax g fun o e r=>?_;exact⟨o,k o e,r⟩
def CA(l:A.handled=none) (j t:Zx) (c:t≠j) (its:Array Zz):Draws prog w A j [j,t] its.size (fun i v=>its[i]?=some v) (fun i h=>h.IsTupleIter j t i/\h.IsTuple t its) where
 live:=fun i h ⟨⟨o,e,_⟩,_⟩=>⟨o,e⟩
 frame:=fun i h g ⟨a,b⟩ k=>⟨zv a fun o e=>k j (by simp) o e,Cz b fun o e=>k t (by simp) o e⟩
 item:=fun i s Q E f ⟨a,b⟩ k=>Cr a b (x:=its[i]) (by simp[f]) fun g m d=>k its[i] g s.toks (by simp[f]) ⟨m,Cz b fun o e=>(d.2 t c).trans e⟩ d
 done:=fun s Q E ⟨a,b⟩ k=>sH l a b (by simp) k
def zw (t:Zx) (its:Array Zz) (n:Nat) (b:Option Zx) (h:Array (Option Zz)):Meets (Builtin.«enumerate.__new__» ⟨[.type "enumerate",.ref t],[]⟩) (fun _ R s=>s.heap.get? t=some {cls:= .type "tuple",dict:=b,data:= .seq its n,slots:=h}/\R (.ok (.ret (.ref (s.heap.push {cls:= .type "tuple_iterator",data:= .fields #[.ref t,.int 0 0]}).objs.size))) {s with heap:=(s.heap.push {cls:= .type "tuple_iterator",data:= .fields #[.ref t,.int 0 0]}).push {cls:= .type "enumerate",data:= .fields #[.none,.bool false,.ref s.heap.objs.size,rawInt 0,.none,.none]}}):=Meets.of_wp fun P w A R s ⟨a,q⟩=>by
 obtain⟨j,g,d,f,i⟩:=s;have l:=sub_enumerate;have e:Heap.IsTuple (Shared.heap ⟨j,g,d,f,i⟩) t its:=⟨_,a,rfl,n,rfl⟩;wp_walk using JX a;refine wpAny_stack_any fun k=>IT ?_;split;·rename_i c _ _ _ _ _;cases(c==Value.type "enumerate")<;>(wp_walk using JX a,JU e)<;>exact⟨_,rfl,q⟩
 ·wp_walk using JX a,JU e;exact⟨_,rfl,q⟩
def xY{E:Zb} {s:Zy} {Q:Zb} (k:s.heap.IsTuple t its)
  (q:∀a,IsEnum a (s.heap.objs.size+ 1) s.heap.objs.size 0 .none->a.IsTupleIter s.heap.objs.size t 0->a.objs.size=s.heap.objs.size+ 2->(∀b o,s.heap.get? b=some o->a.get? b=some o)->Q (.ref (s.heap.objs.size+ 1)) {s with heap:=a}):C7 (model prog w) A (call (.type "enumerate") [.ref t]) Q E s:=by
 obtain⟨⟨c,e,l,g⟩,h,j,n,i⟩:=k;cases(show c= .type "tuple" from j);cases(show l= .seq its n from i);refine callType_new F.called_enumerate (by decide) (F.typeCall_enumerate_1 _) (F.newCall_enumerate_1 _) (fun o=>F.args_object_init_2 o _) F.entry_enumerate_new (zw t its n e g) ⟨h,?_⟩;have d:(s.heap.push {cls:= .type "tuple_iterator",data:= .fields #[.ref t,.int 0 0]}).objs.size=s.heap.objs.size+ 1:=f9 ..;show _/\_;rw[d];have f:IsEnum ((s.heap.push {cls:= .type "tuple_iterator",data:= .fields #[.ref t,.int 0 0]}).push {cls:= .type "enumerate",data:= .fields #[.none,.bool false,.ref s.heap.objs.size,rawInt 0,.none,.none]}) (s.heap.objs.size+ 1) s.heap.objs.size 0 .none:=by have z:=f6 (s.heap.push {cls:= .type "tuple_iterator",data:= .fields #[.ref t,.int 0 0]}) (o:={cls:= .type "enumerate",data:= .fields #[.none,.bool false,.ref s.heap.objs.size,rawInt 0,.none,.none]}) rfl;rw[d]at z;exact z
 exact⟨⟨_,f,rfl⟩,q _ f ⟨_,f7 _ (f6 _ rfl),rfl,rfl⟩ (by rw[f9,d]) fun b o x=>f7 _ (f7 _ x)⟩
def FD (K:Zp) (a:Zx):It:=
 ⟨fun i H=>∃b x,SqT K H a b/\b[i]?=some x,
   fun i H v c=>∃T x,v= .ref T/\H T=none/\c=upd H T (.tup [.int (i:Int),x])/\∀b,SqT K H a b->b[i]?=some x,
   fun i H=>∃b,SqT K H a b/\i=b.length⟩
def EStT (e it a:Zx) (i:Nat) (h:Zt):Prop:=(∃b,IsEnum h e it i b)/\h.IsTupleIter it a i
def xZ{K:Zp} (t:e≠it) (h2:a≠e) (h3:a≠it):Dy P w K (.Tuple es kk tp) (FD K a) [e,it] e (EStT e it a) where
 mem:=by simp
 obj:=fun i h g c d=>by
  obtain⟨⟨j,m⟩,⟨o4,n,_,d4⟩⟩:=g;simp only[aj,bo,or_false]at d;rcases d with q|q<;>subst q;·exact⟨_,m,fun v q=>nomatch q⟩
  ·exact⟨_,n,fun v q=>by rw[d4]at q;cases q⟩
 keep:=fun i h h' g k=>by obtain⟨⟨j,m⟩,n⟩:=g;exact⟨⟨j,k e (by simp) _ m⟩,(zv n fun o q=>k it (by simp) o q)⟩
 item:=by
  intro X G hw hK d i R s N H E I F g hg;subst G hw hK;refine ead hg fun xs x M ex=>?_;refine eah (I.tuple M) fun f L S z1=>?_;obtain⟨m,n⟩:=g;obtain⟨j,J⟩:=m;refine eae (L.get ex) fun ux B Q=>?_;have u:e<s.heap.objs.size:=fZ J;have U:i<f.toArray.size:=by rw[ay];have:=L.length;have:=(aq.mp ex).1;lia
  have T:e∉[it,a]:=fun z=>by simp only[aj,bo,or_false]at z;exact z.elim t fun z=>h2 z.symm
  have D:=CA (prog:=X.prog) (w:=X.w) (A:=X.A.in1) (by exact I.ok.hd d) it a h3 f.toArray;refine wpAny_pyNext_enum_itemD D J ⟨n,show s.heap.IsTuple a f.toArray from S⟩ U t T fun p Z r G ho C hT hsz hk=>?_;obtain rfl:p=ux:=by
   have z:f[i]?=some p:=by simpa using G
   rw[z]at B;exact dj.inj B
  have V:∀c o,c∉[e,it]->s.heap.get? c=some o->Z.get? c=some o:=fun c o d q=>hk c o (fun z=>d (by simp[z])) (fun z=>d (by simp[z])) q;have J1:Inv X R N H {s with heap:=Z,toks:=r+ 1}:=I.turnedL V F;refine⟨.ref s.heap.objs.size,rfl,wpAny_letOwnedTupleGo_enum ho fun Y he' O=>?_⟩;have J2:Inv X R N H {s with heap:=Y,toks:=r+ 1}:=Inv.turnedL (s:={s with heap:=Z,toks:=r+ 1}) (h':=Y) (t':=r+ 1) (ch:=[e]) J1 (fun c o d q=>(O.2 c (fun z=>d (by simp[z]))).trans q) fun c d=>F c (by simp only[aj,bo,or_false]at d⊢;simp[d]);have ht2:xG Y s.heap.objs.size #[.int i r,p]:=⟨_,(O.2 _ (cM u)).trans hT,rfl,_,rfl,rfl⟩;obtain⟨fT,J3⟩:=I.pairNew (x:= .int (i:Int)) (cN _) J2 ht2 ⟨r,rfl⟩ Q;refine iap (.ref s.heap.objs.size) _ (⟨J3,rfl,(iap _ x ⟨rfl,fT,rfl,fun l hl=>by rw[I.tuple_inj hl M];exact ex⟩),⟨⟨_,by simpa using he'⟩,zv C.1 fun o y=>(O.2 it t.symm).trans y⟩,fun c d=>?_⟩);rw[gx (fun q=>?_)];·exact(F c d).1
  ·have U:c<s.heap.objs.size:=by
    refine eae n fun o4 e4 _=>?_;simp only[aj,bo,or_false]at d;rcases d with q|q<;>subst q;·exact u
    ·exact fZ e4
   exact absurd U (by rw[q];exact cG _)
 done:=by
  intro X G hw hK d i R s N H E I F g hg;subst G hw hK;refine eae hg fun xs M ei=>?_;refine eah (I.tuple M) fun f L S z1=>?_;obtain⟨m,n⟩:=g;have T:e∉[it,a]:=fun z=>by simp only[aj,bo,or_false]at z;exact z.elim t fun z=>h2 z.symm
  have D:=CA (prog:=X.prog) (w:=X.w) (A:=X.A.in1) (by exact I.ok.hd d) it a h3 f.toArray;have W:=WalksT.enumerateD D e t T (by simp);have l1:=L.length;have q:i=f.toArray.size:=by simp only[ay];lia
  subst q;exact W.done s _ _ ⟨m,n,show s.heap.IsTuple a f.toArray from S⟩ fun t r hk=>⟨rfl,I.turnedL hk F⟩
 self:=fun _ _ _ _ _ g h=>by obtain⟨⟨j,m⟩,_⟩:=g;exact J5 m h
def FE (K:Zp) (f:TA):TI:=fun c H R=>f c H fun e b=>∃a,e=[.ref a]/\(∃d,SqT K b a d)/\R (FD K a) b
section
variable {X:Cx}
def Bm(B:Gl X "enumerate") (z:X.mg "enumerate"=none) (C:PA X [a] ta) (y:autoParam (IQ [a] X.env=[(false,eval a X.env)]) auR._auto_1):
  PI X (.Tuple es kk tp) (.Call (.Name "enumerate" p) [a] [] pos) (FE X.K ta):=by
 intro v s n H R I h;refine Call_ (p7 I B z qa (gi (thn (C pos v s n H _ I h) ?_) y rfl));refine fun K d=>fad fun J D b t f=>?_;obtain⟨j,e,⟨F,f⟩,q⟩:=f;subst e;refine eae (qi t) fun u o r=>?_;subst o;cases r;refine eah (b.tuple f) fun g G w E=>?_;have L:@LT.lt Nat _ j d.heap.objs.size:=SqT.old b f;refine xY (show d.heap.IsTuple j g.toArray from w) fun M l i x A=>J5 l ?_;refine iac _ _ _ _ D rfl (b.kept (t':=d.toks) A) (xZ (fun(h:@Eq Nat _ _)=>by lia) (fun(h:@Eq Nat _ _)=>by lia) (fun(h:@Eq Nat _ _)=>by lia)) (⟨⟨_,l⟩,i⟩) (fun c k=>?_) q;have m:d.heap.objs.size<=c:=by simp only[aj,bo,or_false]at k;rcases k with h|h<;>rw[h]<;>first|exact cN _|exact cR _ _
 exact b.fpOk m (b.hok.fresh m)
end
end L2.Internal
namespace L2.Internal
abbrev Itzm:=Itg tS lS
end L2.Internal
namespace L2.Internal
variable {qual:Str} {f:Zx}
open PySem PySem.Spec PyProof.Rows
structure EM (K:Zp) (x qual:Str) (st:Zq) (f:Zx) (fd:Zs):Prop where
 ex:∃(oc:Zz) (od:Option Zx) (t:Zx) (kV doc pm:Zz) (an:Option Zx) (cdv ct:Zz) (osl:Array (Option Zz)) (o:Obj) (n:Nat),
  fd=eJ x qual (jS st) (jr st) (gA st) (.ref t) kV doc pm an cdv ct/\K.lookup f=some ⟨oc,od,.func fd,osl⟩/\eK K cdv qual=true/\K.lookup t=some o/\o.data= .seq #[.none] n
 kp:dW K (.ref f)=true
section
variable {P:Zu} {w:Zv} {K:Zp} {mg:Zc} {base:Zt}
def EM.ok {x:Str} {st:Zq} {j:Zs} {N ps:Zd} {k:Nat} {d:Sp} (F:EM K x qual st f j) (S:gJ N ps (gA st)) (e:∀vs H Q E,d vs H Q E->vs.length=ps.length)
  (c:∀(b:Zz) (A:Zw) (a:List Env) (s:Zy) (H:Hp) (vs:List V) (Q:VK) (E:XK),mC k (A.deeper (envOfC qual (gA st) s.heap.objs.size f b))->d vs H Q E->
   ∃t,PSs (B8 CX0 P w K mg base N qual (gA st) f b A a s H E).nox (jr st) t/\t {nx:=fun _ v=>Q .non v,rt:=Q} (start N vs) H):rN P w K mg base CX0 (k+ 1) f j ps d:=by refine eaK F.ex fun B z t C u y G b D m o n=>fac fun l p i _=>?_;subst l;refine E8 p i S e fun A a s H vs Q E r g=>?_;refine eae (c b A a s H vs Q E r g) fun t h q=>?_;exact⟨t,h.nox,q⟩
def EM.binds {x:Str} {st:Zq} {j:Zs} {ps:Zd} (F:EM K x qual st f j)
  (h:∀(t:Zx) (d a c:Zz) (g:Option Zx) (b e:Zz) (us:List Zz),us.length+ 1=ps.length->∃k:Option (Array Zz)->Sem (List (Str×Zz)),bindArgs (eJ x qual (jS st) (jr st) (gA st) (.ref t) d a c g b e) ⟨us,[]⟩=seqItems? (.ref t) >>= k/\k (some #[.none])=pure (ps.zip (us++[.none]))):m7 K j ps [.none]:=by refine eas F.ex fun y w t d a c g b e m o n l z r p q=>?_;subst l;intro s us X i;refine eae (h t d a c g b e us (by rw[aO]at i;exact i)) fun k v u=>?_;exact BindsTo.of_defaults rfl (X _ _ p) q v u
def zx{st:Zq} {g:Zz} (l:K.lookup f=some ⟨oc,od,.func (eJ x a (jS st) (jr st) (gA st) (.ref t) g d h j b i),e⟩)
  (c:eK K b a=true) (k:dW K (.ref f)=true) (m:K.lookup t=some ⟨oct,odt,.seq #[.none] n,slt⟩):EM K x a st f (eJ x a (jS st) (jr st) (gA st) (.ref t) g d h j b i):=⟨(iau oc od t g d h j b i e _ n ⟨rfl,l,c,m,rfl⟩),k⟩
end
end L2.Internal
namespace TS.Internal
variable {j lo hi sa na sb:Nat}
open PySem PyProof.Rows
noncomputable def DT:Bool->Keyed->Array Keyed->Nat->Nat->Nat->StateT SortSt Sem (Option Nat):=sortPriv% PySem.Builtin.gallop
structure Ord (le:Keyed->Keyed->Prop):Prop where
 tot:∀x y,le x y\/le y x
 tr:∀x y z,le x y->le y z->le x z
theorem Ord.refl {le:Keyed->Keyed->Prop} (o:Ord le) (x:Keyed):le x x:=(o.tot x x).elim id id
theorem Ord.of_not {le:Keyed->Keyed->Prop} (o:Ord le) {x y:Keyed} (h:¬le y x):le x y:=(o.tot x y).resolve_right h
def Sg (le:Keyed->Keyed->Prop) (xs:Array Keyed) (lo hi:Nat):Prop:=∀i j x y,lo<=i->i<=j->j<hi->xs[i]?=some x->xs[j]?=some y->le x y
section
variable {prog:Zu} {w:Zv} {A:Zw} {E:Zb} {s:Zy} {le:Keyed->Keyed->Prop} {κ:SortKind} {U:List Keyed}
def Ask (prog:Zu) (w:Zv) (A:Zw) (s:Zy) (κ:SortKind) (U:List Keyed) (le:Keyed->Keyed->Prop):Prop:=
 ∀x y,x∈U->y∈U->∀(E:Zb) (Q:Option Bool->SortSt->Prop) (a:SortSt),kindOf a=κ->(∀b:Bool,(b=true↔¬le y x)->Q (some b) a)->wpS (model prog w) A E s (lt' x y) Q a
def In (U:List Keyed) (xs:Array Keyed):Prop:=∀x,x∈xs.toList->x∈U
theorem In.at {xs:Array Keyed} (h:In U xs) {i:Nat} {x:Keyed} (e:xs[i]?=some x):x∈U:=h x (by obtain⟨b,a⟩:=fE.mp e;rw[<-a];simp)
theorem In.perm {xs ys:Array Keyed} (h:In U xs) (p:ys.Perm xs):In U ys:=fun x a=>h x ((fF.mp p).mem_iff.mp a)
theorem kO{xs:Array Keyed} (h:i<xs.size):∃x,xs[i]?=some x:=⟨xs[i],getElem?_pos xs i h⟩
theorem iE{st:SortSt} (e:xs[i]?=some x) (h:Q x st):wpS (model prog w) A E s (elem' xs i) Q st:=by rw[elem'_eq,e];exact wpS_pure h
theorem zy(a:Ask prog w A s κ U le) {st:SortSt} (e:kindOf st=κ) (d:In U (arrOf st)) (hi:(arrOf st)[i]?=some x) (c:(arrOf st)[j]?=some y) (h:∀b:Bool,(b=true↔¬le y x)->Q (some b) st):
  wpS (model prog w) A E s (ltAt' i j) Q st:=by rw[ltAt'_eq];refine wpS_bind (wpS_get (wpS_bind (iE hi (wpS_bind (iE c ?_)))));exact a x y (d.at hi) (d.at c) E Q st e h
theorem kH(Z:Ask prog w A s κ U le) (o:Ord le) {st:SortSt} (hk:kindOf st=κ) (ku:k∈U) (au:In U arr) (hn:b+n<=arr.size) (hh:hint<n) (sg:Sg le arr b (b+n))
  (h:∀m,m<=n->(∀i x,i<m->arr[b+i]?=some x->if l=true then ¬le k x else le x k)->(∀i x,m<=i->i<n->arr[b+i]?=some x->if l=true then le k x else ¬le x k)->Q (some m) st):
  wpS (model prog w) A E s (DT l k arr b n hint) Q st:=by
 obtain⟨p,hp⟩:∃p:Nat->Prop,∀i,p i↔∀x,arr[b+i]?=some x->if l=true then ¬le k x else le x k:=⟨_,fun i=>Iff.rfl⟩;have B:∀i j,i<=j->j<n->p j->p i:=fun i j hij hj pj=>by
  rw[hp]at pj⊢;intro x L;obtain⟨y,V⟩:=kO (xs:=arr) (i:=b+j) (by lia);have py:=pj y V;have X:=sg (b+i) (b+j) x y (by lia) (by lia) (by lia) L V
  cases l with
  |true=>exact fun z=>py (o.tr _ _ _ z X)
  |false=>exact o.tr _ _ _ X py
 have O:∀(i:Nat) (Q:Option Bool->SortSt->Prop),i<n->(∀c:Bool,(c=true↔p i)->Q (some c) st)->wpS (model prog w) A E s (do
   let x<-elem' arr (b+i)
   if l=true then lt' x k else do
    let r<-lt' k x
    pure (Option.map (fun x=>!x) r)) Q st:=fun i Q g hq=>by
  obtain⟨y,V⟩:=kO (xs:=arr) (i:=b+i) (by lia);have e:∀P:Keyed->Prop,(∀x,arr[b+i]?=some x->P x)↔P y:=fun P=>⟨fun z=>z y V,fun z x L=>by rw[V]at L;cases L;exact z⟩;have pe:=hp i;rw[e]at pe;refine wpS_bind (iE V ?_)
  cases l with
  |true=>rw[ip rfl];exact Z y k (au.at V) ku _ _ _ hk fun c C=>hq c (by rw[C,pe];rfl)
  |false=>
   rw[gU fq];refine wpS_bind (Z k y ku (au.at V) _ _ _ hk fun c C=>wpS_pure (hq (!c) ?_));rw[pe];show _↔le y k
   cases c with
   |true=>exact⟨fun z=>(by cases z),fun z=>absurd z (C.mp rfl)⟩
   |false=>exact⟨fun _=>Ja fun z=>(by have:=C.mpr z;cases this),fun _=>rfl⟩
 have G:∀m,m<=n->(∀i,i<m->p i)->(∀i,m<=i->i<n->¬p i)->Q (some m) st:=fun m hm K N=>by
  refine h m hm (fun i x g L=>(hp i).mp (K i g) x L) fun i x h3 h4 L=>?_;have:=N i h3 h4;rw[hp]at this
  cases l with
  |true=>exact Ja fun z=>this fun x' M=>by rw[L]at M;cases M;exact z
  |false=>exact fun z=>this fun x' M=>by rw[L]at M;cases M;exact z
 refine wpS_bind (O hint _ hh fun c C=>?_);dsimp only;have bs:∀(t g:Nat) (f:Nat->Option (Option Nat)×Nat×Nat->StateT SortSt Sem (ForInStep (Option (Option Nat)×Nat×Nat))),t<=g->g<=n->(∀i,i<t->p i)->(∀i,g<=i->i<n->¬p i)->
   (∀(x t g:Nat) (R:ForInStep (Option (Option Nat)×Nat×Nat)->SortSt->Prop),t<g->g<=n->(∀c:Bool,(c=true↔p (t+(g-t)/2))->R (JR (if c=true then(none,t+(g-t)/2+ 1,g)else(none,t,t+(g-t)/2))) st)->wpS (model prog w) A E s (f x (none,t,g)) R st)->
   (∀(x t g:Nat) (R:ForInStep (Option (Option Nat)×Nat×Nat)->SortSt->Prop),t≥g->R (ForInStep.done (none,t,g)) st->wpS (model prog w) A E s (f x (none,t,g)) R st)->
   ∀R:Option (Option Nat)×Nat×Nat->SortSt->Prop,(∀t m,m<=n->(∀i,i<m->p i)->(∀i,m<=i->i<n->¬p i)->R (none,t,m) st)->
   wpS (model prog w) A E s (forIn [:n] (none,t,g) f) R st:=fun t g f K N h3 h4 hf hf0 R S=>by
  refine(wpS_mono (wpS_forRange (I:=fun x c q=>q=st/\∃t g,c=(none,t,g)/\t<=g/\g<=n/\g-t<=n-x/\(∀i,i<t->p i)/\(∀i,g<=i->i<n->¬p i))
   (Q:=fun c q=>q=st/\∃m,c.1=none/\c.2.2=m/\m<=n/\(∀i,i<m->p i)/\(∀i,m<=i->i<n->¬p i)) ?step ?G ⟨rfl,t,g,rfl,K,N,by lia,h3,h4⟩) ?post);case post=>rintro⟨r,lo',W⟩ q ⟨rfl,m,h5,h6,h7,h8,h9⟩;cases h5;cases h6;exact S _ _ h7 h8 h9
  case G=>refine fun c q=>f8 fun J=>faf fun t g=>fag fun H T v F D g5=>?_;subst J;subst H;exact⟨rfl,g,rfl,rfl,v,fun i W=>D i (by lia),g5⟩
  case step=>
   refine fun x c q _ L=>f8 fun J=>faf fun t g=>fag fun H T v F D g5=>?_;subst J;subst H;by_cases hlt:t<g
   ·refine hf x t g _ hlt v fun c C=>?_
    cases c with
    |true=>exact⟨rfl,_,_,rfl,by lia,v,by lia,fun i W=>B i (t+(g-t)/2) (by lia) (by lia) (C.mp rfl),g5⟩
    |false=>exact⟨rfl,_,_,rfl,by lia,by lia,by lia,D,fun i h5 h6 z=>by have:=C.mpr (B (t+(g-t)/2) i h5 h6 z);cases this⟩
   ·exact hf0 x t g _ (by lia) ⟨rfl,g,rfl,rfl,v,fun i W=>D i (by lia),g5⟩
 have Y:∀{α:Type} {a b:StateT SortSt Sem α} {P:Prop} [Decidable P] {R:α->SortSt->Prop},(P->wpS (model prog w) A E s a R st)->(¬P->wpS (model prog w) A E s b R st)->wpS (model prog w) A E s (if P then a else b) R st:=fun{α a b P} _ {R} K N=>by
  split;·exact K ‹_›
  ·exact N ‹_›
 cases c with
 |true=>
  rw[ip rfl];have ph:=C.mp rfl;refine wpS_bind (wpS_mono (wpS_forRange (I:=fun x c q=>q=st/\∃u d,c=(none,u,d)/\x<d/\u<d/\hint+u<n/\p (hint+u))
   (Q:=fun c q=>q=st/\∃u d,c=(none,u,d)/\u<d/\hint+u<n/\p (hint+u)/\(n-hint<=d\/¬p (hint+d))) ?step ?G ⟨rfl,0,1,rfl,by lia,by lia,by lia,ph⟩) ?post);case G=>refine fun c q=>f8 fun J=>faf fun u d=>fah fun H T v F D=>?_;subst J;subst H;exact⟨rfl,u,d,rfl,v,F,D,.inl (by lia)⟩
  case step=>
   refine fun x c q _ L=>f8 fun J=>faf fun u d=>fah fun H T v F D=>?_;subst J;subst H;dsimp only;refine Y (fun z=>wpS_pure ⟨rfl,u,d,rfl,v,F,D,.inl z⟩) fun z=>wpS_bind (O (hint+d) _ (by lia) fun c C=>?_)
   cases c with
   |true=>exact wpS_pure ⟨rfl,_,_,rfl,by lia,by lia,by lia,C.mp rfl⟩
   |false=>exact wpS_pure ⟨rfl,_,_,rfl,v,F,D,.inr fun y=>by have:=C.mpr y;cases this⟩
  case post=>
   refine fun c q=>f8 fun J=>faf fun u d=>fah fun H v F D g5=>?_;subst J;subst H;dsimp only;refine wpS_bind (bs (hint+u+ 1) (hint+min d (n-hint)) _ (by lia) (by lia) (fun i g=>B i (hint+u) (by lia) F D) (fun i K N z=>?_) ?_ ?_ _ fun t m T v F=>wpS_pure (G m T v F))
   ·rcases g5 with g5|g5;·lia
    ·exact g5 (B (hint+d) i (by lia) N z)
   ·intro x t g R K N S;dsimp only;rw[gU (by lia)];refine wpS_bind (O _ _ (by lia) fun c C=>?_);have:=S c C
    cases c with
    |true=>exact wpS_pure this
    |false=>exact wpS_pure this
   ·intro x t g R K S;dsimp only;rw[ip K];exact wpS_pure S
 |false=>
  rw[gU fq];have ph:¬p hint:=fun z=>by have:=C.mpr z;cases this
  refine wpS_bind (wpS_mono (wpS_forRange (I:=fun x c q=>q=st/\∃u d,c=(none,u,d)/\x<d/\u<d/\u<=hint/\¬p (hint-u))
   (Q:=fun c q=>q=st/\∃u d,c=(none,u,d)/\u<d/\u<=hint/\¬p (hint-u)/\(hint+ 1<=d\/p (hint-d))) ?step ?G ⟨rfl,0,1,rfl,by lia,by lia,by lia,ph⟩) ?post);case G=>refine fun c q=>f8 fun J=>faf fun u d=>fah fun H T v F D=>?_;subst J;subst H;exact⟨rfl,u,d,rfl,v,F,D,.inl (by lia)⟩
  case step=>
   refine fun x c q _ L=>f8 fun J=>faf fun u d=>fah fun H T v F D=>?_;subst J;subst H;dsimp only;refine Y (fun z=>wpS_pure ⟨rfl,u,d,rfl,v,F,D,.inl z⟩) fun z=>wpS_bind (O (hint-d) _ (by lia) fun c C=>?_)
   cases c with
   |true=>exact wpS_pure ⟨rfl,_,_,rfl,v,F,D,.inr (C.mp rfl)⟩
   |false=>exact wpS_pure ⟨rfl,_,_,rfl,by lia,by lia,by lia,fun y=>by have:=C.mpr y;cases this⟩
  case post=>
   refine fun c q=>f8 fun J=>faf fun u d=>fah fun H v F D g5=>?_;subst J;subst H;dsimp only;refine wpS_bind (bs (hint+ 1-min d (hint+ 1)) (hint-u) _ (by lia) (by lia) (fun i g=>?_) (fun i K N z=>D (B (hint-u) i (by lia) N z)) ?_ ?_ _ fun t m T v F=>wpS_pure (G m T v F))
   ·rcases g5 with g5|g5;·lia
    ·exact B i (hint-d) (by lia) (by lia) g5
   ·intro x t g R K N S;dsimp only;rw[gU (by lia)];refine wpS_bind (O _ _ (by lia) fun c C=>?_);have:=S c C
    cases c with
    |true=>exact wpS_pure this
    |false=>exact wpS_pure this
   ·intro x t g R K S;dsimp only;rw[ip K];exact wpS_pure S
end
section
variable {le:Keyed->Keyed->Prop}
abbrev Srt (le:Keyed->Keyed->Prop) (l:List Keyed):Prop:=l.Pairwise le
theorem Srt.drop {l:List Keyed} (h:Srt le l) (n:Nat):Srt le (l.drop n):=List.Pairwise.sublist (List.drop_sublist ..) h
theorem Srt.take {l:List Keyed} (h:Srt le l) (n:Nat):Srt le (l.take n):=List.Pairwise.sublist (List.take_sublist ..) h
theorem Srt.cut {l:List Keyed} (h:Srt le l) (n:Nat) {x y:Keyed} (b:x∈l.take n) (a:y∈l.drop n):le x y:=by have:=h;rw[Srt,<-bD n l,bE]at this;exact this.2.2 x b y a
def ML (le:Keyed->Keyed->Prop) (a b:List Keyed) (d c:Nat) (o:List Keyed):Prop:=
 o.Perm (a.take d++b.take c)/\Srt le o/\∀x∈o,∀y,(y∈a.drop d\/y∈b.drop c)->le x y
theorem ML.nil {a b:List Keyed}:ML le a b 0 0 []:=⟨by simp,.nil,fun x h=>by cases h⟩
section
variable {a b o:List Keyed} {ia ib:Nat}
theorem ML.ga (m:ML le a b c d o) (sa:Srt le a) (k:Nat) (h:∀x∈(a.drop c).take k,∀y∈b.drop d,le x y):ML le a b (c+k) d (o++(a.drop c).take k):=by
 refine eaz m fun g f e=>?_;refine⟨?_,?_,fun x hx y hy=>?_⟩;·rw[List.take_add];refine(g.append_right _).trans ?_;rw[bG,bG];exact bH.append_left _
 ·rw[Srt,bE];exact⟨f,(sa.drop c).take k,fun x hx y hy=>e x hx y (.inl (bI hy))⟩
 ·rw[<-List.drop_drop]at hy;rcases ak.mp hx with hx|hx;·exact e x hx y (hy.imp (bJ) id)
  ·rcases hy with hy|hy;·exact(sa.drop c).cut k hx hy
   ·exact h x hx y hy
theorem ML.gb (m:ML le a b d c o) (sb:Srt le b) (k:Nat) (h:∀x∈(b.drop c).take k,∀y∈a.drop d,le x y):ML le a b d (c+k) (o++(b.drop c).take k):=by
 refine eaz m fun g f e=>?_;refine⟨?_,?_,fun x hx y hy=>?_⟩;·rw[List.take_add];refine(g.append_right _).trans ?_;rw[bG]
 ·rw[Srt,bE];exact⟨f,(sb.drop c).take k,fun x hx y hy=>e x hx y (.inr (bI hy))⟩
 ·rw[<-List.drop_drop]at hy;rcases ak.mp hx with hx|hx;·exact e x hx y (hy.imp id bJ)
  ·rcases hy with hy|hy;·exact h x hx y hy
   ·exact(sb.drop c).cut k hx hy
def Mgd (le:Keyed->Keyed->Prop) (a b r:List Keyed):Prop:=r.Perm (a++b)/\Srt le r
theorem ML.endAB (m:ML le a b c f o) (sa:Srt le a) (sb:Srt le b) (h:∀x∈a.drop c,∀y∈b.drop f,le x y):Mgd le a b (o++a.drop c++b.drop f):=by
 have g:=m.ga sa (a.drop c).length (by rw[bK];exact h);rw[bK]at g;have e:a.drop (c+(a.drop c).length)=[]:=by rw[bL,aV];lia
 have d:=g.gb sb (b.drop f).length (by rw[e];exact fun x _ y i=>by cases i);rw[bK]at d;refine⟨d.1.trans ?_,d.2.1⟩;rw[bM (by rw[aV];lia),bM (by rw[aV];lia)]
theorem ML.endBA (m:ML le a b f c o) (sa:Srt le a) (sb:Srt le b) (h:∀x∈b.drop c,∀y∈a.drop f,le x y):Mgd le a b (o++b.drop c++a.drop f):=by
 have g:=m.gb sb (b.drop c).length (by rw[bK];exact h);rw[bK]at g;have e:b.drop (c+(b.drop c).length)=[]:=by rw[bL,aV];lia
 have d:=g.ga sa (a.drop f).length (by rw[e];exact fun x _ y i=>by cases i);rw[bK]at d;refine⟨d.1.trans ?_,d.2.1⟩;rw[bM (by rw[aV];lia),bM (by rw[aV];lia)]
end
def MH (le:Keyed->Keyed->Prop) (a b:List Keyed) (na nb:Nat) (o:List Keyed):Prop:=
 o.Perm (a.drop na++b.drop nb)/\Srt le o/\∀y∈o,∀x,(x∈a.take na\/x∈b.take nb)->le x y
section
variable {a b o:List Keyed} {na nb:Nat}
theorem MH.nil:MH le a b a.length b.length []:=⟨by simp,.nil,fun x h=>by cases h⟩
theorem wR(l:List Keyed) (h:m<=n):l.drop m=(l.take n).drop m++l.drop n:=by
 have:=bD n l
 calc l.drop m=(l.take n++l.drop n).drop m:=by rw[this]
  _=(l.take n).drop m++(l.drop n).drop (m-(l.take n).length):=List.drop_append ..
  _=_:=by
   rw[aI];by_cases z:n<=l.length;·rw[cU z,Nat.sub_eq_zero_of_le h,bO]
   ·rw[bP (show l.length<=n by lia),List.drop_nil]
theorem MH.ga (m:MH le a b c e o) (sa:Srt le a) {k:Nat} (f:k<=c) (h:∀y∈(a.take c).drop k,∀x∈b.take e,le x y):MH le a b k e ((a.take c).drop k++o):=by
 refine eaz m fun j i g=>?_;have d:∀x,x∈a.take k->x∈(a.take c).take k:=fun x hx=>by rw[List.take_take,cU f];exact hx
 refine⟨?_,?_,fun y hy x hx=>?_⟩;·rw[wR a f,bG];exact j.append_left _
 ·rw[Srt,bE];exact⟨(sa.take c).drop k,i,fun x hx y hy=>g y hy x (.inl (bJ hx))⟩
 ·rcases ak.mp hy with hy|hy
  ·rcases hx with hx|hx;·exact(sa.take c).cut k (d x hx) hy
   ·exact h y hy x hx
  ·exact g y hy x (hx.imp (fun z=>bI (d x z)) id)
theorem MH.gb (m:MH le a b e c o) (sb:Srt le b) {k:Nat} (f:k<=c) (h:∀y∈(b.take c).drop k,∀x∈a.take e,le x y):MH le a b e k ((b.take c).drop k++o):=by
 refine eao m fun j i g=>?_;have d:∀x,x∈b.take k->x∈(b.take c).take k:=fun x hx=>by rw[List.take_take,cU f];exact hx
 refine⟨?_,?_,fun y hy x hx=>?_⟩;·rw[wR b f];refine(j.append_left _).trans ?_;rw[<-bG,<-bG];exact bH.append_right _
 ·rw[Srt,bE];exact⟨(sb.take c).drop k,i,fun x hx y hy=>g y hy x (.inr (bJ hx))⟩
 ·rcases ak.mp hy with hy|hy
  ·rcases hx with hx|hx;·exact h y hy x hx
   ·exact(sb.take c).cut k (d x hx) hy
  ·exact g y hy x (hx.imp id (fun z=>bI (d x z)))
theorem MH.endAB (m:MH le a b f e o) (sa:Srt le a) (sb:Srt le b) (h:∀x∈a.take f,∀y∈b.take e,le x y):Mgd le a b (a.take f++b.take e++o):=by have g:=m.gb sb (cO _) (by rw[bO];exact fun y i x d=>h x d y i);have c:=g.ga sa (cO _) (by rw[bQ];exact fun y _ x d=>by cases d);rw[bO,bO,<-bG]at c;exact⟨c.1,c.2.1⟩
theorem MH.endBA (m:MH le a b f e o) (sa:Srt le a) (sb:Srt le b) (h:∀x∈b.take e,∀y∈a.take f,le x y):Mgd le a b (b.take e++a.take f++o):=by have g:=m.ga sa (cO _) (by rw[bO];exact fun y i x d=>h x d y i);have c:=g.gb sb (cO _) (by rw[bQ];exact fun y _ x d=>by cases d);rw[bO,bO,<-bG]at c;exact⟨c.1,c.2.1⟩
end
end
noncomputable def Bn:Array Keyed->Array Keyed->StateT SortSt Sem (Array Keyed):=sortPriv% PySem.Builtin.mergeLo
noncomputable def FF:Nat->StateT SortSt Sem Unit:=sortPriv% PySem.Builtin.setMinGallop
abbrev GP (st:SortSt) (g:Nat):SortSt:=Jb (kindOf st) (arrOf st) (pendingOf st) g (failedOf st)
def G (st a:SortSt):Prop:=∃g,a=GP st g
theorem G.refl (st:SortSt):G st st:=⟨gallopOf st,rfl⟩
theorem G.set {st a:SortSt} (h:G st a) (g:Nat):G st (GP a g):=by obtain⟨b,rfl⟩:=h;exact⟨g,rfl⟩
theorem G.kind {st a:SortSt} (h:G st a):kindOf a=kindOf st:=by obtain⟨b,rfl⟩:=h;rfl
section
variable {le:Keyed->Keyed->Prop}
theorem zA{l:List Keyed} (h:x∈(l.drop i).take k):∃j,j<k/\l[i+j]?=some x:=by
 obtain⟨j,a⟩:=bC.mp h;rw[bR]at a;by_cases z:j<k;·rw[ip z,bS]at a;exact⟨j,z,a⟩
 ·rw[gU z]at a;cases a
theorem Srt.head (o:Ord le) {l:List Keyed} (s:Srt le l) {i:Nat} {x y:Keyed} (h:l[i]?=some x) (hy:y∈l.drop i):le x y:=by
 obtain⟨b,a⟩:=aq.mp h;rw[bT b,a]at hy;rcases aj.mp hy with rfl|hy;·exact o.refl _
 ·refine s.cut (i+ 1) ?_ hy;rw[bU,h];simp
theorem Srt.last (o:Ord le) {l:List Keyed} (s:Srt le l) {i:Nat} {x y:Keyed} (h:l[i]?=some y) (hx:x∈l.take (i+ 1)):le x y:=by
 rw[bU,h]at hx;rcases ak.mp hx with hx|hx;·refine s.cut i hx ?_;obtain⟨b,a⟩:=aq.mp h;rw[bT b,a];exact ah
 ·have:x=y:=by simpa using hx
  rw[this];exact o.refl _
theorem Srt.sg (o:Ord le) {a:Array Keyed} (s:Srt le a.toList) (lo hi:Nat):Sg le a lo hi:=fun i j x y _ d _ c b=>by rw[<-fD]at c b;refine s.head o c ?_;refine bC.mpr ⟨j-i,?_⟩;rw[bS,show i+(j-i)=j by lia];exact b
theorem wU (a:Array Keyed) (i k:Nat):(a.extract i (i+k)).toList=(a.toList.drop i).take k:=by rw[fG,bV,show i+k-i=k by lia]
theorem qz (a:Array Keyed) (i:Nat):(a.extract i a.size).toList=a.toList.drop i:=by rw[fG,bV];exact bM (by rw[aV,fC];exact cN _)
section
variable {a b out:Array Keyed} {ia ib:Nat} {x:Keyed}
theorem zB{l:List Keyed} (h:l[i]?=some x):(l.drop i).take 1=[x]:=by obtain⟨b,a⟩:=aq.mp h;rw[bT b,a];rfl
theorem LoA (m:ML le a.toList b.toList c d out.toList) (sa:Srt le a.toList) (k:Nat) (h:∀x∈(a.toList.drop c).take k,∀y∈b.toList.drop d,le x y):ML le a.toList b.toList (c+k) d (out++a.extract c (c+k)).toList:=by rw[fH,wU];exact m.ga sa k h
theorem LoB (m:ML le a.toList b.toList d c out.toList) (sb:Srt le b.toList) (k:Nat) (h:∀x∈(b.toList.drop c).take k,∀y∈a.toList.drop d,le x y):ML le a.toList b.toList d (c+k) (out++b.extract c (c+k)).toList:=by rw[fH,wU];exact m.gb sb k h
theorem Hz (m:ML le a.toList b.toList ia d out.toList) (sa:Srt le a.toList) (c:a[ia]?=some x) (h:∀y∈b.toList.drop d,le x y):ML le a.toList b.toList (ia+ 1) d (out.push x).toList:=by rw[<-fD]at c;have:=m.ga sa 1 (by rw[zB c];intro z e;rw[bb.mp e];exact h);rw[zB c]at this;rw[fJ];exact this
theorem HA (m:ML le a.toList b.toList d ib out.toList) (sb:Srt le b.toList) (c:b[ib]?=some x) (h:∀y∈a.toList.drop d,le x y):ML le a.toList b.toList d (ib+ 1) (out.push x).toList:=by rw[<-fD]at c;have:=m.gb sb 1 (by rw[zB c];intro z e;rw[bb.mp e];exact h);rw[zB c]at this;rw[fJ];exact this
theorem zC (m:ML le a.toList b.toList ia ib out.toList) (sa:Srt le a.toList) (sb:Srt le b.toList) (h:ia=a.size\/ib=b.size):Mgd le a.toList b.toList (out++a.extract ia a.size++b.extract ib b.size).toList:=by
 rw[fH,fH,qz,qz];refine m.endAB sa sb fun x d y c=>?_;rcases h with h|h;·rw[bP (by rw[h,fC];exact cN _)]at d;cases d
 ·rw[bP (by rw[h,fC];exact cN _)]at c;cases c
theorem wV (m:ML le a.toList b.toList ia ib out.toList) (sa:Srt le a.toList) (sb:Srt le b.toList) (f:∀x y,x∈b.toList->a[a.size-1]?=some y->le x y) (h:ia+ 1=a.size):Mgd le a.toList b.toList (out++b.extract ib b.size++a.extract ia a.size).toList:=by rw[fH,fH,qz,qz];refine m.endBA sa sb fun x e y d=>f x y (bJ e) ?_;obtain⟨z,c⟩:=kO (xs:=a) (i:=ia) (by lia);rw[<-fD]at c;obtain⟨j,g⟩:=aq.mp c;rw[bT j,g,bP (by rw[fC];lia)]at d;rw[bb.mp d,show a.size-1=ia by lia,<-fD];exact c
end
end
section
variable {prog:Zu} {w:Zv} {A:Zw} {E:Zb} {s:Zy} {le:Keyed->Keyed->Prop} {κ:SortKind} {U:List Keyed}
theorem ifS[Decidable P] {st:σ} (b:P->wpS M A E s p R st) (a:¬P->wpS M A E s q R st):wpS M A E s (if P then p else q) R st:=by
 split;·exact b ‹_›
 ·exact a ‹_›
theorem oH{st:SortSt} (h:Q () (GP st g)):wpS (model prog w) A E s (FF g) Q st:=wpS_modify (f:=fun st=>GP st g) h
theorem vL(ask:Ask prog w A s κ U le) (o:Ord le) (au:In U a) (bu:In U b) (sa:Srt le a.toList) (sb:Srt le b.toList) (ha:1<=a.size) (hb:1<=b.size) (h0:∀x y,b[0]?=some x->a[0]?=some y->le x y) (hl:∀x y,x∈b.toList->a[a.size-1]?=some y->le x y) {st:SortSt} (hk:kindOf st=κ) (h:∀r st',Mgd le a.toList b.toList r.toList->G st st'->Q r st'):wpS (model prog w) A E s (Bn a b) Q st:=by
 obtain⟨b0,hb0⟩:=kO (xs:=b) (i:=0) (by lia);obtain⟨a0,ha0⟩:=kO (xs:=a) (i:=0) (by lia);have m1:ML le a.toList b.toList 0 1 (#[].push b0).toList:=HA (out:=#[]) ML.nil sb hb0 fun y hy=>o.tr _ _ _ (h0 _ _ hb0 ha0) (sa.head o (by rw[fD];exact ha0) hy);refine wpS_bind (wpS_lift (JH ⟨rfl,?_⟩));refine wpS_bind (iE hb0 ?_);refine ifS (fun z=>wpS_pure (h _ _ (zC m1 sa sb (.inr (by simpa using z))) (G.refl _))) fun z1=>?_;refine ifS (fun z=>wpS_pure (h _ _ (wV m1 sa sb hl (by simpa using z)) (G.refl _))) fun z2=>?_;have z1:1≠b.size:=by simpa using z1
 have z2:0+ 1≠a.size:=by simpa using z2
 refine wpS_bind (wpS_get ?_);refine wpS_bind (wpS_mono (wpS_forRange
  (I:=fun x c st'=>G st st'/\∃out ia ib mg,c=(none,out,ia,ib,mg)/\ML le a.toList b.toList ia ib out.toList/\ia+ 1<a.size/\ib<b.size/\x+ 1<=ia+ib)
  (Q:=fun c st'=>G st st'/\∃r,c.1=some r/\Mgd le a.toList b.toList r.toList) ?step ?fin ⟨G.refl _,_,0,1,_,rfl,m1,by lia,by lia,by lia⟩) ?post);case fin=>refine fun c st'=>f8 fun g=>faj fun out ia ib mg=>fah fun z0 m g1 g2 g3=>?_;subst z0;lia
 case post=>refine fun c st'=>f8 fun g=>fL fun r=>f8 fun hr hm=>?_;dsimp only;rw[hr];exact wpS_pure (h r st' hm g)
 case step=>
  refine fun x c st' _ hx=>f8 fun g=>faj fun out ia ib mg=>fah fun z0 m g1 g2 g3=>?_;subst z0;refine wpS_bind (wpS_mono (wpS_forRange
   (I:=fun t c st'=>G st st'/\∃out ia ib ac bc,c=(none,out,ia,ib,ac,bc)/\ML le a.toList b.toList ia ib out.toList/\ia+ 1<a.size/\ib<b.size/\x+ 1+t<=ia+ib)
   (Q:=fun c st'=>G st st'/\((∃r,c.1=some r/\Mgd le a.toList b.toList r.toList)\/∃out ia ib ac bc,c=(none,out,ia,ib,ac,bc)/\ML le a.toList b.toList ia ib out.toList/\ia+ 1<a.size/\ib<b.size/\x+ 2<=ia+ib)) ?step1 ?fin1 ⟨g,out,ia,ib,_,_,rfl,m,g1,g2,by lia⟩) ?post1);case fin1=>refine fun c st'=>f8 fun g=>fai fun out ia ib ac bc=>fah fun z0 m g1 g2 g3=>?_;subst z0;exact⟨g,.inr (iav out ia ib ac bc ⟨rfl,m,g1,g2,by lia⟩)⟩
  case step1=>
   clear g1 g2 g3 m g;refine fun t c st' _ ht=>f8 fun g=>fai fun out ia ib ac bc=>fah fun z0 m g1 g2 g3=>?_;subst z0;obtain⟨xb,hxb⟩:=kO (xs:=b) (i:=ib) g2;obtain⟨xa,hxa⟩:=kO (xs:=a) (i:=ia) (by lia);have hxa':=hxa;have hxb':=hxb;rw[<-fD]at hxa' hxb';dsimp only;refine wpS_bind (iE hxb (wpS_bind (iE hxa (wpS_bind (ask xb xa (bu.at hxb) (au.at hxa) _ _ _ (g.kind.trans hk) fun c hc=>?_)))))
   cases c with
   |true=>
    have m':=HA m sb hxb fun y hy=>o.tr _ _ _ (o.of_not (hc.mp rfl)) (sa.head o hxa' hy);refine wpS_bind (iE hxb ?_);refine ifS (fun z=>wpS_pure ⟨g,.inl (io _ rfl (zC m' sa sb (.inr (by simpa using z))))⟩) fun z=>?_;have z:ib+ 1≠b.size:=by simpa using z
    exact ifS (fun _=>wpS_pure ⟨g,.inr (iav _ _ _ _ _ ⟨rfl,m',g1,by lia,by lia⟩)⟩) fun _=>wpS_pure ⟨g,_,_,_,_,_,rfl,m',g1,by lia,by lia⟩
   |false=>
    have lab:le xa xb:=Ja fun z=>by have:=hc.mpr z;cases this
    have m':=Hz m sa hxa fun y hy=>o.tr _ _ _ lab (sb.head o hxb' hy);refine wpS_bind (iE hxa ?_);refine ifS (fun z=>wpS_pure ⟨g,.inl (io _ rfl (wV m' sa sb hl (by simpa using z)))⟩) fun z=>?_;have z:ia+ 1+ 1≠a.size:=by simpa using z
    exact ifS (fun _=>wpS_pure ⟨g,.inr (iav _ _ _ _ _ ⟨rfl,m',by lia,g2,by lia⟩)⟩) fun _=>wpS_pure ⟨g,_,_,_,_,_,rfl,m',by lia,g2,by lia⟩
  case post1=>
   clear g1 g2 g3 m g;rintro⟨r,c⟩ st' ⟨g,⟨r',hr,hm⟩|⟨out,ia,ib,ac,bc,e,m,g1,g2,g3⟩⟩;·cases hr;exact wpS_pure (iag g r' rfl hm)
   ·cases e;dsimp only;refine wpS_bind (wpS_lift (JH ⟨rfl,?_⟩));refine wpS_bind (wpS_mono (wpS_forRange
     (I:=fun t c st'=>G st st'/\∃out ia ib mg ac bc,c=(none,out,ia,ib,mg,ac,bc)/\ML le a.toList b.toList ia ib out.toList/\ia+ 1<a.size/\ib<b.size/\x+ 2<=ia+ib)
     (Q:=fun c st'=>G st st'/\((∃r,c.1=some r/\Mgd le a.toList b.toList r.toList)\/∃out ia ib mg ac bc,c=(none,out,ia,ib,mg,ac,bc)/\ML le a.toList b.toList ia ib out.toList/\ia+ 1<a.size/\ib<b.size/\x+ 2<=ia+ib)) ?step2 ?fin2 ⟨g,out,ia,ib,_,_,_,rfl,m,g1,g2,g3⟩) ?post2);case fin2=>refine fun c st'=>f8 fun g=>fal fun out ia ib mg ac bc=>fah fun z0 m g1 g2 g3=>?_;subst z0;exact⟨g,.inr (iaw out ia ib mg ac bc ⟨rfl,m,g1,g2,g3⟩)⟩
    case post2=>
     rintro⟨r,c⟩ st' ⟨g,⟨r',hr,hm⟩|⟨out,ia,ib,mg,ac,bc,e,m,g1,g2,g3⟩⟩;·cases hr;exact wpS_pure (iag g r' rfl hm)
     ·cases e;dsimp only;exact wpS_bind (oH (wpS_pure ⟨g.set _,out,ia,ib,_,rfl,m,g1,g2,by lia⟩))
    case step2=>
     clear g1 g2 g3 m g;refine fun t c st' _ ht=>f8 fun g=>fal fun out ia ib mg ac bc=>fah fun z0 m g1 g2 g3=>?_;subst z0;obtain⟨xb,hxb⟩:=kO (xs:=b) (i:=ib) g2;have hxb':=hxb;rw[<-fD]at hxb';dsimp only;refine ifS (fun _=>?_) fun _=>?_;all_goals
      refine wpS_bind (oH (wpS_bind (iE hxb (wpS_bind (kH ask o ((g.set _).kind.trans hk) (bu.at hxb) au (by lia) (by lia) (sa.sg o _ _) fun k hk1 hk2 hk3=>?_)))));have mk:=LoA m sa k fun x hx y hy=>by refine eae (zA hx) fun j hj hxj=>?_;rw[fD]at hxj;exact o.tr _ _ _ (by have:=hk2 j x hj hxj;simpa using this) (sb.head o hxb' hy)
      dsimp only;have mk':∀xa,a[ia+k]?=some xa->le xb xa:=fun xa hxa=>o.of_not (by have:=hk3 k xa (cN _) (by have:=(fE.mp hxa).1;lia) hxa;simpa using this);refine ifS (fun hk0=>ifS (fun z=>wpS_pure ⟨g.set _,.inl (io _ rfl (wV mk sa sb hl (by simpa using z)))⟩) fun z=>ifS (fun z=>wpS_pure ⟨g.set _,.inl (io _ rfl (zC mk sa sb (.inl (by simpa using z))))⟩) fun z'=>?_) fun hk0=>?_;have hia:ia+k+ 1<a.size:=by
       have z:ia+k+ 1≠a.size:=by simpa using z
       have z':ia+k≠a.size:=by simpa using z'
       lia
      refine eaD (show ∃ia' out',ia'=ia+k/\out'=out++a.extract ia (ia+k) from (iaf _ _ rfl rfl)) fun ia' out'=>f8 fun ei eo=>?_;rw[<-eo,<-ei]at mk⊢;rw[<-ei]at mk' hia;rotate_left;have k0:k=0:=by lia
      subst k0;have hia:ia+ 1<a.size:=g1;refine eaD (show ∃ia' out',ia'=ia/\out'=out from (iaf _ _ rfl rfl)) fun ia' out'=>f8 fun ei eo=>?_;rw[<-ei,<-eo]at⊢;have mk:ML le a.toList b.toList ia' ib out'.toList:=by rw[ei,eo];exact m
      have mk':∀xa,a[ia']?=some xa->le xb xa:=by rw[ei];exact mk'
      have hia:ia'+ 1<a.size:=by rw[ei];exact g1
      all_goals
       obtain⟨xa,hxa⟩:=kO (xs:=a) (i:=ia') (by lia);have hxa':=hxa;rw[<-fD]at hxa';have ml:=HA mk sb hxb fun y hy=>o.tr _ _ _ (mk' xa hxa) (sa.head o hxa' hy);refine wpS_bind (iE hxb (ifS (fun z=>wpS_pure ⟨g.set _,.inl (io _ rfl (zC ml sa sb (.inr (by simpa using z))))⟩) fun z=>?_));have hib:ib+ 1<b.size:=by
        have z:ib+ 1≠b.size:=by simpa using z
        lia
       refine wpS_bind (iE hxa (wpS_bind (kH ask o ((g.set _).kind.trans hk) (au.at hxa) bu (by lia) (by lia) (sb.sg o _ _) fun k2 hk4 hk5 hk6=>?_)));have mn:=LoB ml sb k2 fun x hx y hy=>by refine eae (zA hx) fun j hj hxj=>?_;rw[fD]at hxj;exact o.tr _ _ _ (o.of_not (by have:=hk5 j x hj hxj;simpa using this)) (sa.head o hxa' hy)
       have mn':∀y∈b.toList.drop (ib+ 1+k2),le xa y:=fun y hy=>by obtain⟨j,hj⟩:=bC.mp hy;rw[bS,fD,cW]at hj;have:=hk6 (k2+j) y (by lia) (by have:=(fE.mp hj).1;lia) hj;simpa using this
       dsimp only;refine ifS (fun hk0=>ifS (fun z=>wpS_pure ⟨g.set _,.inl (io _ rfl (zC mn sa sb (.inr (by simpa using z))))⟩) fun z=>?_) fun hk0=>?_;have hib2:ib+ 1+k2<b.size:=by
        have z:ib+ 1+k2≠b.size:=by simpa using z
        lia
       have mo:=Hz mn sa hxa mn';rotate_left;have k0:k2=0:=by lia
       subst k0;have hib2:=hib;have mo:=Hz ml sa hxa mn';all_goals
        refine wpS_bind (iE hxa (ifS (fun z=>wpS_pure ⟨g.set _,.inl (io _ rfl (wV mo sa sb hl (by simpa using z)))⟩) fun z=>?_));have z:ia'+ 1+ 1≠a.size:=by simpa using z
        exact ifS (fun _=>wpS_pure ⟨g.set _,.inr (iaw _ _ _ _ _ _ ⟨rfl,mo,by lia,by lia,by lia⟩)⟩) fun _=>wpS_pure ⟨g.set _,_,_,_,_,_,_,rfl,mo,by lia,by lia,by lia⟩
end
noncomputable def Bo:Array Keyed->Array Keyed->StateT SortSt Sem (Array Keyed):=sortPriv% PySem.Builtin.mergeHi
section
variable {le:Keyed->Keyed->Prop}
theorem tK{l:List Keyed} (h:x∈(l.take n).drop k):∃j,k<=j/\j<n/\l[j]?=some x:=by
 obtain⟨j,a⟩:=bC.mp h;rw[bS,bR]at a;by_cases z:k+j<n;·rw[ip z]at a;exact⟨k+j,by lia,z,a⟩
 ·rw[gU z]at a;cases a
theorem zD{l:List Keyed} (h:x∈l.take n):∃j,j<n/\l[j]?=some x:=by refine eah (tK (k:=0) (by rw[bO];exact h)) fun j _ b a=>?_;exact⟨j,b,a⟩
theorem qQ (a:Array Keyed) (i n:Nat):(a.extract i n).toList=(a.toList.take n).drop i:=by rw[fG,bV,List.drop_take]
theorem wW (a:Array Keyed) (n:Nat):(a.extract 0 n).toList=a.toList.take n:=by rw[qQ,bO]
section
variable {a b out:Array Keyed} {na nb:Nat} {x:Keyed}
theorem GQ{l:List Keyed} (a:1<=n) (h:l[n-1]?=some x):(l.take n).drop (n-1)=[x]:=by rw[List.drop_take,show n-(n-1)=1 by lia];exact zB h
theorem HiA(m:MH le a.toList b.toList c d out.toList.reverse) (sa:Srt le a.toList) (e:k<=c) (h:∀y∈(a.toList.take c).drop k,∀x∈b.toList.take d,le x y):MH le a.toList b.toList k d (out++(a.extract k c).reverse).toList.reverse:=by rw[fH,bW,fK,bX,qQ];exact m.ga sa e h
theorem HiB(m:MH le a.toList b.toList d c out.toList.reverse) (sb:Srt le b.toList) (e:k<=c) (h:∀y∈(b.toList.take c).drop k,∀x∈a.toList.take d,le x y):MH le a.toList b.toList d k (out++(b.extract k c).reverse).toList.reverse:=by rw[fH,bW,fK,bX,qQ];exact m.gb sb e h
theorem GR (m:MH le a.toList b.toList na d out.toList.reverse) (sa:Srt le a.toList) (e:1<=na) (c:a[na-1]?=some x) (h:∀y∈b.toList.take d,le y x):MH le a.toList b.toList (na-1) d (out.push x).toList.reverse:=by rw[<-fD]at c;have:=m.ga sa (k:=na-1) (by lia) (by rw[GQ e c];intro z f;rw[bb.mp f];exact h);rw[GQ e c]at this;rw[fJ,bW];exact this
theorem IJ (m:MH le a.toList b.toList d nb out.toList.reverse) (sb:Srt le b.toList) (e:1<=nb) (c:b[nb-1]?=some x) (h:∀y∈a.toList.take d,le y x):MH le a.toList b.toList d (nb-1) (out.push x).toList.reverse:=by rw[<-fD]at c;have:=m.gb sb (k:=nb-1) (by lia) (by rw[GQ e c];intro z f;rw[bb.mp f];exact h);rw[GQ e c]at this;rw[fJ,bW];exact this
theorem zE (m:MH le a.toList b.toList na nb out.toList.reverse) (sa:Srt le a.toList) (sb:Srt le b.toList) (h:na=0\/nb=0):Mgd le a.toList b.toList (a.extract 0 na++b.extract 0 nb++out.reverse).toList:=by
 rw[fH,fH,wW,wW,fK];refine m.endAB sa sb fun x d y c=>?_;rcases h with h|h;·rw[h,bQ]at d;cases d
 ·rw[h,bQ]at c;cases c
theorem Bp (m:MH le a.toList b.toList na nb out.toList.reverse) (sa:Srt le a.toList) (sb:Srt le b.toList) (e:∀x y,b[0]?=some x->y∈a.toList->le x y) (h:nb=1):Mgd le a.toList b.toList (b.extract 0 nb++a.extract 0 na++out.reverse).toList:=by
 rw[fH,fH,wW,wW,fK];refine m.endBA sa sb fun x c y d=>?_;refine eax (zD c) fun j f c=>?_;have:j=0:=by lia
 subst this;rw[fD]at c;exact e x y c (bI d)
end
end
section
variable {prog:Zu} {w:Zv} {A:Zw} {E:Zb} {s:Zy} {le:Keyed->Keyed->Prop} {κ:SortKind} {U:List Keyed}
theorem vM(ask:Ask prog w A s κ U le) (o:Ord le) (au:In U a) (bu:In U b) (sa:Srt le a.toList) (sb:Srt le b.toList) (ha:1<=a.size) (hb:1<=b.size) (h0:∀x y,b[0]?=some x->a[0]?=some y->le x y) (hl:∀x y,x∈b.toList->a[a.size-1]?=some y->le x y) {st:SortSt} (hk:kindOf st=κ) (h:∀r st',Mgd le a.toList b.toList r.toList->G st st'->Q r st'):wpS (model prog w) A E s (Bo a b) Q st:=by
 obtain⟨a0,ha0⟩:=kO (xs:=a) (i:=0) (by lia);obtain⟨al,hal⟩:=kO (xs:=a) (i:=a.size-1) (by lia);have h0':∀x y,b[0]?=some x->y∈a.toList->le x y:=fun x y hx hy=>o.tr _ _ _ (h0 x a0 hx ha0) (sa.head o (i:=0) (by rw[fD];exact ha0) hy);have mn:MH le a.toList b.toList a.size b.size (#[]:Array Keyed).toList.reverse:=by have:=MH.nil (le:=le) (a:=a.toList) (b:=b.toList);rw[fC,fC]at this;exact this
 have m1:MH le a.toList b.toList (a.size-1) b.size (#[].push al).toList.reverse:=GR (out:=#[]) mn sa ha hal fun y hy=>hl y al (bI hy) hal;refine wpS_bind (wpS_lift (JH ⟨rfl,?_⟩));refine wpS_bind (iE hal ?_);refine ifS (fun z=>wpS_pure (h _ _ (zE m1 sa sb (.inl (by simpa using z))) (G.refl _))) fun z1=>?_;refine ifS (fun z=>wpS_pure (h _ _ (Bp m1 sa sb h0' (by simpa using z)) (G.refl _))) fun z2=>?_;have z1:a.size-1≠0:=by simpa using z1
 have z2:b.size≠1:=by simpa using z2
 refine wpS_bind (wpS_get ?_);refine wpS_bind (wpS_mono (wpS_forRange
  (I:=fun x c st'=>G st st'/\∃na nb out mg,c=(none,na,nb,out,mg)/\MH le a.toList b.toList na nb out.toList.reverse/\1<=na/\na<=a.size/\2<=nb/\nb<=b.size/\na+nb+x+ 1<=a.size+b.size)
  (Q:=fun c st'=>G st st'/\∃r,c.1=some r/\Mgd le a.toList b.toList r.toList) ?step ?fin ⟨G.refl _,_,_,_,_,rfl,m1,by lia,by lia,by lia,by lia,by lia⟩) ?post);case fin=>refine fun c st'=>f8 fun g=>faj fun na nb out mg=>fam fun z0 m g1 g1' g2 g2' g3=>?_;subst z0;lia
 case post=>refine fun c st'=>f8 fun g=>fL fun r=>f8 fun hr hm=>?_;dsimp only;rw[hr];exact wpS_pure (h r st' hm g)
 case step=>
  clear z1 z2 m1 mn;refine fun x c st' _ hx=>f8 fun g=>faj fun na nb out mg=>fam fun z0 m g1 g1' g2 g2' g3=>?_;subst z0;refine wpS_bind (wpS_mono (wpS_forRange
   (I:=fun t c st'=>G st st'/\∃na nb out ac bc,c=(none,na,nb,out,ac,bc)/\MH le a.toList b.toList na nb out.toList.reverse/\1<=na/\na<=a.size/\2<=nb/\nb<=b.size/\na+nb+x+ 1+t<=a.size+b.size)
   (Q:=fun c st'=>G st st'/\((∃r,c.1=some r/\Mgd le a.toList b.toList r.toList)\/∃na nb out ac bc,c=(none,na,nb,out,ac,bc)/\MH le a.toList b.toList na nb out.toList.reverse/\1<=na/\na<=a.size/\2<=nb/\nb<=b.size/\na+nb+x+ 2<=a.size+b.size)) ?step1 ?fin1 ⟨g,na,nb,out,_,_,rfl,m,g1,g1',g2,g2',by lia⟩) ?post1);case fin1=>refine fun c st'=>f8 fun g=>fai fun na nb out ac bc=>fam fun z0 m g1 g1' g2 g2' g3=>?_;subst z0;exact⟨g,.inr (iav na nb out ac bc ⟨rfl,m,g1,g1',g2,g2',by lia⟩)⟩
  case step1=>
   clear g1 g1' g2 g2' g3 m g;refine fun t c st' _ ht=>f8 fun g=>fai fun na nb out ac bc=>fam fun z0 m g1 g1' g2 g2' g3=>?_;subst z0;obtain⟨xb,hxb⟩:=kO (xs:=b) (i:=nb-1) (by lia);obtain⟨xa,hxa⟩:=kO (xs:=a) (i:=na-1) (by lia);have hxa':=hxa;have hxb':=hxb;rw[<-fD]at hxa' hxb';have la:∀y∈a.toList.take na,le y xa:=fun y hy=>sa.last o hxa' (by rw[show na-1+ 1=na by lia];exact hy);have lb:∀y∈b.toList.take nb,le y xb:=fun y hy=>sb.last o hxb' (by rw[show nb-1+ 1=nb by lia];exact hy);dsimp only;refine wpS_bind (iE hxb (wpS_bind (iE hxa (wpS_bind (ask xb xa (bu.at hxb) (au.at hxa) _ _ _ (g.kind.trans hk) fun c hc=>?_)))))
   cases c with
   |true=>
    have m':=GR m sa g1 hxa fun y hy=>o.tr _ _ _ (lb y hy) (o.of_not (hc.mp rfl));refine wpS_bind (iE hxa ?_);refine ifS (fun z=>wpS_pure ⟨g,.inl (io _ rfl (zE m' sa sb (.inl (by simpa using z))))⟩) fun z=>?_;have z:na-1≠0:=by simpa using z
    exact ifS (fun _=>wpS_pure ⟨g,.inr (iav _ _ _ _ _ ⟨rfl,m',by lia,by lia,g2,g2',by lia⟩)⟩) fun _=>wpS_pure ⟨g,_,_,_,_,_,rfl,m',by lia,by lia,g2,g2',by lia⟩
   |false=>
    have lab:le xa xb:=Ja fun z=>by have:=hc.mpr z;cases this
    have m':=IJ m sb (by lia) hxb fun y hy=>o.tr _ _ _ (la y hy) lab;refine wpS_bind (iE hxb ?_);refine ifS (fun z=>wpS_pure ⟨g,.inl (io _ rfl (Bp m' sa sb h0' (by simpa using z)))⟩) fun z=>?_;have z:nb-1≠1:=by simpa using z
    exact ifS (fun _=>wpS_pure ⟨g,.inr (iav _ _ _ _ _ ⟨rfl,m',g1,g1',by lia,by lia,by lia⟩)⟩) fun _=>wpS_pure ⟨g,_,_,_,_,_,rfl,m',g1,g1',by lia,by lia,by lia⟩
  case post1=>
   clear g1 g1' g2 g2' g3 m g;rintro⟨r,c⟩ st' ⟨g,⟨r',hr,hm⟩|⟨na,nb,out,ac,bc,e,m,g1,g1',g2,g2',g3⟩⟩;·cases hr;exact wpS_pure (iag g r' rfl hm)
   ·cases e;dsimp only;refine wpS_bind (wpS_lift (JH ⟨rfl,?_⟩));refine wpS_bind (wpS_mono (wpS_forRange
     (I:=fun t c st'=>G st st'/\∃na nb out mg ac bc,c=(none,na,nb,out,mg,ac,bc)/\MH le a.toList b.toList na nb out.toList.reverse/\1<=na/\na<=a.size/\2<=nb/\nb<=b.size/\na+nb+x+ 2<=a.size+b.size)
     (Q:=fun c st'=>G st st'/\((∃r,c.1=some r/\Mgd le a.toList b.toList r.toList)\/∃na nb out mg ac bc,c=(none,na,nb,out,mg,ac,bc)/\MH le a.toList b.toList na nb out.toList.reverse/\1<=na/\na<=a.size/\2<=nb/\nb<=b.size/\na+nb+x+ 2<=a.size+b.size)) ?step2 ?fin2 ⟨g,na,nb,out,_,_,_,rfl,m,g1,g1',g2,g2',g3⟩) ?post2);case fin2=>refine fun c st'=>f8 fun g=>fal fun na nb out mg ac bc=>fam fun z0 m g1 g1' g2 g2' g3=>?_;subst z0;exact⟨g,.inr (iaw na nb out mg ac bc ⟨rfl,m,g1,g1',g2,g2',g3⟩)⟩
    case post2=>
     rintro⟨r,c⟩ st' ⟨g,⟨r',hr,hm⟩|⟨na,nb,out,mg,ac,bc,e,m,g1,g1',g2,g2',g3⟩⟩;·cases hr;exact wpS_pure (iag g r' rfl hm)
     ·cases e;dsimp only;exact wpS_bind (oH (wpS_pure ⟨g.set _,na,nb,out,_,rfl,m,g1,g1',g2,g2',by lia⟩))
    case step2=>
     clear g1 g1' g2 g2' g3 m g;refine fun t c st' _ ht=>f8 fun g=>fal fun na nb out mg ac bc=>fam fun z0 m g1 g1' g2 g2' g3=>?_;subst z0;obtain⟨xb,hxb⟩:=kO (xs:=b) (i:=nb-1) (by lia);have hxb':=hxb;rw[<-fD]at hxb';have lb:∀y∈b.toList.take nb,le y xb:=fun y hy=>sb.last o hxb' (by rw[show nb-1+ 1=nb by lia];exact hy);dsimp only;refine ifS (fun _=>?_) fun _=>?_;all_goals
      refine wpS_bind (oH (wpS_bind (iE hxb (wpS_bind (kH ask o ((g.set _).kind.trans hk) (bu.at hxb) au (by lia) (by lia) (sa.sg o _ _) fun k hk1 hk2 hk3=>?_)))));simp only[cX]at hk2 hk3;have mk:=HiA m sa hk1 fun y hy x hx=>by refine eah (tK hy) fun j hj1 hj2 hyj=>?_;rw[fD]at hyj;exact o.tr _ _ _ (lb x hx) (o.of_not (by have:=hk3 j y hj1 hj2 hyj;simpa using this))
      have mk':∀y∈a.toList.take k,le y xb:=fun y hy=>by refine eae (zD hy) fun j hj hyj=>?_;rw[fD]at hyj;have:=hk2 j y hj hyj;simpa using this
      dsimp only;refine ifS (fun hk0=>ifS (fun z=>wpS_pure ⟨g.set _,.inl (io _ rfl (zE mk sa sb (.inl (by simpa using z))))⟩) fun z=>?_) fun hk0=>?_;have hna:1<=k:=by
       have z:k≠0:=by simpa using z
       lia
      refine eaD (show ∃na' out',na'=k/\out'=out++(a.extract k na).reverse from (iaf _ _ rfl rfl)) fun na' out'=>f8 fun ei eo=>?_;rw[<-eo]at mk⊢;rotate_left;have k0:k=na:=by lia
      subst k0;have hna:1<=k:=g1;refine eaD (show ∃na' out',na'=k/\out'=out from (iaf _ _ rfl rfl)) fun na' out'=>f8 fun ei eo=>?_;rw[<-eo];have mk:MH le a.toList b.toList k nb out'.toList.reverse:=by rw[eo];exact m
      all_goals
       obtain⟨xa,hxa⟩:=kO (xs:=a) (i:=k-1) (by lia);have hxa':=hxa;rw[<-fD]at hxa';have la:∀y∈a.toList.take k,le y xa:=fun y hy=>sa.last o hxa' (by rw[show k-1+ 1=k by lia];exact hy);have ml:=IJ mk sb (by lia) hxb mk';refine wpS_bind (iE hxb (ifS (fun z=>wpS_pure ⟨g.set _,.inl (io _ rfl (Bp ml sa sb h0' (by simpa using z)))⟩) fun z=>?_));have hnb:2<=nb-1:=by
        have z:nb-1≠1:=by simpa using z
        lia
       refine wpS_bind (iE hxa (wpS_bind (kH ask o ((g.set _).kind.trans hk) (au.at hxa) bu (by lia) (by lia) (sb.sg o _ _) fun k2 hk4 hk5 hk6=>?_)));simp only[cX]at hk5 hk6;have mn:=HiB ml sb hk4 fun y hy x hx=>by refine eah (tK hy) fun j hj1 hj2 hyj=>?_;rw[fD]at hyj;exact o.tr _ _ _ (la x hx) (by have:=hk6 j y hj1 hj2 hyj;simpa using this)
       have mn':∀y∈b.toList.take k2,le y xa:=fun y hy=>by refine eae (zD hy) fun j hj hyj=>?_;rw[fD]at hyj;exact o.of_not (by have:=hk5 j y hj hyj;simpa using this)
       dsimp only;refine ifS (fun hk0=>ifS (fun z=>wpS_pure ⟨g.set _,.inl (io _ rfl (Bp mn sa sb h0' (by simpa using z)))⟩) fun z=>ifS (fun z=>wpS_pure ⟨g.set _,.inl (io _ rfl (zE mn sa sb (.inr (by simpa using z))))⟩) fun z'=>?_) fun hk0=>?_;have hnb2:2<=k2:=by
        have z:k2≠1:=by simpa using z
        have z':k2≠0:=by simpa using z'
        lia
       have mo:=GR mn sa hna hxa mn';rotate_left;have k0:k2=nb-1:=by lia
       subst k0;have hnb2:=hnb;have mo:=GR ml sa hna hxa mn';all_goals
        refine wpS_bind (iE hxa (ifS (fun z=>wpS_pure ⟨g.set _,.inl (io _ rfl (zE mo sa sb (.inl (by simpa using z))))⟩) fun z=>?_));have z:k-1≠0:=by simpa using z
        exact ifS (fun _=>wpS_pure ⟨g.set _,.inr (iaw _ _ _ _ _ _ ⟨rfl,mo,by lia,by lia,by lia,by lia,by lia⟩)⟩) fun _=>wpS_pure ⟨g.set _,_,_,_,_,_,_,rfl,mo,by lia,by lia,by lia,by lia,by lia⟩
end
section
variable {le:Keyed->Keyed->Prop}
def Pm (lo:Nat) (xs ys:Array Keyed):Prop:=ys.Perm xs/\∀k,k<lo->ys[k]?=xs[k]?
theorem Pm.refl (lo:Nat) (xs:Array Keyed):Pm lo xs xs:=⟨Array.Perm.refl _,fun _ _=>rfl⟩
theorem Pm.trans {xs ys a:Array Keyed} (h:Pm lo xs ys) (g:Pm lo ys a):Pm lo xs a:=⟨g.1.trans h.1,fun k b=>(g.2 k b).trans (h.2 k b)⟩
theorem Pm.size {xs ys:Array Keyed} (h:Pm lo xs ys):ys.size=xs.size:=h.1.size_eq
theorem Pm.mirror {i:Nat} {xs:Array Keyed} (hi:lo<=i) (a:j<=xs.size):Pm lo xs (mirror xs i j ((j-i)/2)):=⟨mirror_perm _ _ _ _,fun k b=>by rw[getElem?_mirror_all a,gU (by lia)]⟩
def NI (le:Keyed->Keyed->Prop) (xs:Array Keyed) (lo hi:Nat):Prop:=∀i j x y,lo<=i->i<=j->j<hi->xs[i]?=some x->xs[j]?=some y->le y x
def Eqv (le:Keyed->Keyed->Prop) (xs:Array Keyed) (lo hi:Nat):Prop:=∀i j x y,lo<=i->i<hi->lo<=j->j<hi->xs[i]?=some x->xs[j]?=some y->le x y
theorem Eqv.mirror {xs:Array Keyed} {p q:Nat} (h:Eqv le xs lo hi) (e:lo<=p) (d:q<=hi) (c:q<=xs.size):Eqv le (mirror xs p q ((q-p)/2)) lo hi:=by intro i j x y l k g f b a;rw[getElem?_mirror_all c]at b a;split at b<;>split at a;all_goals exact h _ _ x y (by lia) (by lia) (by lia) (by lia) b a
theorem NI.mirror {xs:Array Keyed} {p q:Nat} (n:NI le xs lo hi) (e:Eqv le xs p q) (f:lo<=p) (d:q<=hi) (c:q<=xs.size):NI le (mirror xs p q ((q-p)/2)) lo hi:=by
 intro i j x y k h g b a;rw[getElem?_mirror_all c]at b a;split at b<;>split at a;·exact e _ _ y x (by lia) (by lia) (by lia) (by lia) a b
 ·exact n _ _ x y (by lia) (by lia) (by lia) b a
 ·exact n _ _ x y (by lia) (by lia) (by lia) b a
 ·exact n _ _ x y (by lia) (by lia) (by lia) b a
theorem NI.turn {xs:Array Keyed} (n:NI le xs lo hi) (c:hi<=xs.size):Sg le (PyProof.Rows.mirror xs lo hi ((hi-lo)/2)) lo hi:=by intro i j x y f e d b a;rw[getElem?_mirror_all c,ip (by lia)]at b a;exact n _ _ y x (by lia) (by lia) (by lia) a b
theorem Sg.more (o:Ord le) {xs:Array Keyed} (s:Sg le xs lo hi) (e:lo<hi) (k:hi<=xs.size) (h:∀x y,xs[hi-1]?=some x->xs[hi]?=some y->le x y):Sg le xs lo (hi+ 1):=by
 intro i j x y d f l b a;by_cases z:j<hi;·exact s i j x y d f z b a
 ·have g:j=hi:=by lia
  subst g;by_cases z2:i=j;·subst z2;rw[b]at a;cases a;exact o.refl _
  ·obtain⟨m,c⟩:=kO (xs:=xs) (i:=j-1) (by lia);exact o.tr _ _ _ (s i (j-1) x m d (by lia) (by lia) b c) (h m y c a)
theorem NI.more (o:Ord le) {xs:Array Keyed} (s:NI le xs lo hi) (e:lo<hi) (k:hi<=xs.size) (h:∀x y,xs[hi-1]?=some x->xs[hi]?=some y->le y x):NI le xs lo (hi+ 1):=by
 intro i j x y d f l b a;by_cases z:j<hi;·exact s i j x y d f z b a
 ·have g:j=hi:=by lia
  subst g;by_cases z2:i=j;·subst z2;rw[b]at a;cases a;exact o.refl _
  ·obtain⟨m,c⟩:=kO (xs:=xs) (i:=j-1) (by lia);exact o.tr _ _ _ (h m y c a) (s i (j-1) x m d (by lia) (by lia) b c)
theorem Sg.one (o:Ord le) (xs:Array Keyed) (lo:Nat):Sg le xs lo (lo+ 1):=fun i j x y e d c b a=>by
 have:i=j:=by lia
 subst this;rw[b]at a;cases a;exact o.refl _
end
section
variable {prog:Zu} {w:Zv} {A:Zw} {E:Zb} {s:Zy} {le:Keyed->Keyed->Prop} {κ:SortKind} {U:List Keyed}
theorem tL(ask:Ask prog w A s κ U le) (o:Ord le) {st:SortSt} (hk:kindOf st=κ) (hU:In U (arrOf st)) (hn:lo+nrem<=(arrOf st).size) (h1:1<=nrem)
  (h:∀n xs,Pm lo (arrOf st) xs->1<=n->n<=nrem->Sg le xs lo (lo+n)->Q (some n) (setArr st xs)):wpS (model prog w) A E s (countRun' lo nrem) Q st:=by
 have asc:∀(xs:Array Keyed) (n0:Nat) (f:Nat->Option (Option Nat)×Nat->StateT SortSt Sem (ForInStep (Option (Option Nat)×Nat))),Pm lo (arrOf st) xs->Sg le xs lo (lo+n0)->1<=n0->n0<=nrem->
   (∀(x n:Nat) (R:ForInStep (Option (Option Nat)×Nat)->SortSt->Prop),1<=n->n<nrem->(∀(a b:Keyed) (c:Bool),xs[lo+n-1]?=some a->xs[lo+n]?=some b->(c=true↔¬le a b)->R (if c=true then ForInStep.done (none,n)else JR (none,n+ 1)) (setArr st xs))->wpS (model prog w) A E s (f x (none,n)) R (setArr st xs))->
   ∀R:Option (Option Nat)×Nat->SortSt->Prop,(∀n,n0<=n->n<=nrem->Sg le xs lo (lo+n)->(n=nrem\/∀a b,xs[lo+n-1]?=some a->xs[lo+n]?=some b->¬le a b)->R (none,n) (setArr st xs))->wpS (model prog w) A E s (forIn [n0:nrem] (none,n0) f) R (setArr st xs):=fun xs n0 f hp hs h3 h4 hf R hR=>by
  have sz:=hp.size;refine wpS_forRange (I:=fun x c st'=>st'=setArr st xs/\c=(none,x)/\Sg le xs lo (lo+x)) ?step ?fin ⟨rfl,rfl,hs⟩;case fin=>refine fun c st'=>fab fun z0 z1 hs'=>?_;subst z0;subst z1;rw[show max n0 nrem=nrem by lia]at hs'⊢;exact hR nrem h4 (cN _) hs' (.inl rfl)
  case step=>
   refine fun x c st' hx1 hx2=>fab fun z0 z1 hs'=>?_;subst z0;subst z1;refine hf x x _ (by lia) hx2 fun a b c ha hb hc=>?_
   cases c with
   |true=>refine hR x hx1 (by lia) hs' (.inr fun a' b' ha' hb'=>?_);rw[ha]at ha';rw[hb]at hb';cases ha';cases hb';exact hc.mp rfl
   |false=>refine⟨rfl,rfl,hs'.more o (by lia) (by lia) fun a' b' ha' hb'=>?_⟩;rw[ha]at ha';rw[hb]at hb';cases ha';cases hb';exact Ja fun z=>by have:=hc.mpr z;cases this
 have lts:∀{xs:Array Keyed} {i j:Nat} {Q:Option Bool->SortSt->Prop},Pm lo (arrOf st) xs->i<lo+nrem->j<lo+nrem->(∀(a b:Keyed) (c:Bool),xs[i]?=some a->xs[j]?=some b->(c=true↔¬le b a)->Q (some c) (setArr st xs))->wpS (model prog w) A E s (ltAt' i j) Q (setArr st xs):=fun{xs i j Q} hp hi hj hq=>by have sz:=hp.size;obtain⟨a,ha⟩:=kO (xs:=xs) (i:=i) (by lia);obtain⟨b,hb⟩:=kO (xs:=xs) (i:=j) (by lia);exact zy ask (st:=setArr st xs) hk (hU.perm hp.1) ha hb fun c hc=>hq a b c ha hb hc
 have rev:∀{xs:Array Keyed} {i j:Nat} {Q:Unit->SortSt->Prop},Q () (setArr st (mirror xs i j ((j-i)/2)))->wpS (model prog w) A E s (reverseSlice' i j) Q (setArr st xs):=fun{xs i j Q} hq=>wpS_reverse (st:=setArr st xs) hq;have p0:=Pm.refl lo (arrOf st);show wpS (model prog w) A E s _ Q (setArr st (arrOf st));refine wpS_bind (asc (arrOf st) 1 _ p0 (Sg.one o _ _) (cN _) h1 ?_ _ fun n hn1 hn2 hsn hor=>?_)
 ·intro x n R hn1 hn2 hR;dsimp only;refine wpS_bind (lts p0 (by lia) (by lia) fun a b c ha hb hc=>?_);have:=hR b a c hb ha hc
  cases c with
  |true=>exact wpS_pure this
  |false=>exact wpS_pure this
 dsimp only;refine ifS (fun z=>wpS_pure (h n _ p0 hn1 hn2 hsn)) fun z=>?_;have z:n≠nrem:=by simpa using z
 have drop:=hor.resolve_left z;refine(fun(key:∀xs:Array Keyed,Pm lo (arrOf st) xs->NI le xs lo (lo+n)->(∀a' b',xs[lo+n-1]?=some a'->xs[lo+n]?=some b'->le b' a')->wpS (model prog w) A E s ?P Q (setArr st xs))=>?main) ?key;case main=>
  refine ifS (fun z1=>wpS_bind (lts p0 (by lia) (by lia) fun a b c ha hb hc=>?_)) fun z1=>?_
  ·cases c with
   |true=>exact wpS_pure (h n _ p0 hn1 hn2 hsn)
   |false=>
    have lba:le b a:=Ja fun z=>by have:=hc.mpr z;cases this
    have ev:Eqv le (arrOf st) lo (lo+n):=fun i j x y g1 g2 g3 g4 hx hy=>o.tr _ _ _ (hsn i (lo+n-1) x b g1 (by lia) (by lia) hx hb) (o.tr _ _ _ lba (hsn lo j a y (cN _) g3 g4 ha hy));refine wpS_bind (rev ?_);obtain⟨xs,hxs⟩:∃xs,xs=mirror (arrOf st) lo (lo+n) ((lo+n-lo)/2):=⟨_,rfl⟩;rw[<-hxs];refine key xs (by rw[hxs];exact Pm.mirror (cN _) (by lia)) (fun i j x y g1 g2 g3 hx hy=>?_) fun a' b' ha' hb'=>?_;·have:=ev.mirror (p:=lo) (q:=lo+n) (cN _) (cN _) (by lia);rw[<-hxs]at this;exact this j i y x (by lia) g3 g1 (by lia) hy hx
    ·rw[hxs,getElem?_mirror_all (by lia),ip (by lia)]at ha';rw[hxs,getElem?_mirror_all (by lia),gU (by lia)]at hb';refine o.of_not fun zz=>?_;exact drop b b' hb hb' (o.tr _ _ _ (ev _ _ b a' (by lia) (by lia) (by lia) (by lia) hb ha') zz)
  ·have n1:n=1:=by lia
   refine key _ p0 (fun i j x y g1 g2 g3 hx hy=>?_) fun a' b' ha' hb'=>o.of_not (drop a' b' ha' hb');have:i=j:=by lia
   subst this;rw[hx]at hy;cases hy;exact o.refl _
 case key=>
  intro xs px nx dx;clear hsn hor drop;have sz:=px.size;have nx':=nx.more o (by lia) (by lia) dx;refine wpS_bind (wpS_lift (JH ⟨rfl,?_⟩));refine wpS_bind (wpS_mono (wpS_forRange (I:=fun x c st'=>∃ys neq,st'=setArr st ys/\Pm lo (arrOf st) ys/\c=(none,x,neq)/\NI le ys lo (lo+x)/\neq+ 1<=x/\Eqv le ys (lo+x-(neq+ 1)) (lo+x))
   (Q:=fun c st'=>∃ys neq m,st'=setArr st ys/\Pm lo (arrOf st) ys/\c=(none,m,neq)/\1<=m/\m<=nrem/\NI le ys lo (lo+m)/\neq+ 1<=m/\Eqv le ys (lo+m-(neq+ 1)) (lo+m)) ?step ?fin (iap xs 0 ⟨rfl,px,rfl,nx',by lia,?one⟩)) ?post);case one=>
   intro i j x y g1 g2 g3 g4 hx hy;have:i=j:=by lia
   subst this;rw[hx]at hy;cases hy;exact o.refl _
  case fin=>refine fun c st'=>faf fun ys neq=>fag fun z0 py z1 ny g1 ey=>?_;subst z0;subst z1;rw[show max (n+ 1) nrem=nrem by lia]at ny g1 ey⊢;exact iar ys neq nrem ⟨rfl,py,rfl,h1,cN _,ny,g1,ey⟩
  case step=>
   refine fun x c st' hx1 hx2=>faf fun ys neq=>fag fun z0 py z1 ny g1 ey=>?_;subst z0;subst z1;have sy:=py.size;dsimp only;refine wpS_bind (lts py (by lia) (by lia) fun a b c ha hb hc=>?_)
   cases c with
   |true=>
    have lab:le a b:=o.of_not (hc.mp rfl);dsimp only;rw[ip rfl];refine ifS (fun zq=>wpS_bind (rev (wpS_pure ?_))) fun zq=>wpS_pure ?_
    ·have nm:=ny.mirror ey (by lia) (cN _) (by lia);refine iap _ 0 ⟨rfl,py.trans (Pm.mirror (by lia) (by lia)),rfl,nm.more o (by lia) (by rw[mirror_size];lia) fun a' b' ha' hb'=>?_,by lia,fun i j x y q1 q2 q3 q4 hx hy=>?_⟩;·rw[getElem?_mirror_all (by lia),ip (by lia)]at ha';rw[getElem?_mirror_all (by lia),gU (by lia),ha]at hb';cases hb';exact o.tr _ _ _ lab (ey _ _ b a' (by lia) (by lia) (by lia) (by lia) hb ha')
     ·have:i=j:=by lia
      subst this;rw[hx]at hy;cases hy;exact o.refl _
    ·refine iap ys 0 ⟨rfl,py,rfl,ny.more o (by lia) (by lia) fun a' b' ha' hb'=>?_,by lia,fun i j x y q1 q2 q3 q4 hx hy=>?_⟩;·rw[hb]at ha';rw[ha]at hb';cases ha';cases hb';exact lab
     ·have:i=j:=by lia
      subst this;rw[hx]at hy;cases hy;exact o.refl _
   |false=>
    have lba:le b a:=Ja fun z=>by have:=hc.mpr z;cases this
    dsimp only;rw[gU fq];refine wpS_bind (lts py (by lia) (by lia) fun a' b' c hb' ha' hc=>?_);rw[hb]at hb';rw[ha]at ha';cases hb';cases ha'
    cases c with
    |true=>exact wpS_pure (iar ys neq x ⟨rfl,py,rfl,by lia,by lia,ny,g1,ey⟩)
    |false=>
     have lab:le a b:=Ja fun z=>by have:=hc.mpr z;cases this
     refine wpS_pure (iap ys (neq+ 1) ⟨rfl,py,rfl,ny.more o (by lia) (by lia) fun a' b' ha' hb'=>?_,by lia,fun i j p q q1 q2 q3 q4 hp hq=>?_⟩);·rw[hb]at ha';rw[ha]at hb';cases ha';cases hb';exact lab
     ·have cls:∀i p,lo+(x+ 1)-(neq+ 1+ 1)<=i->i<lo+(x+ 1)->ys[i]?=some p->le p b/\le b p:=fun i p q1 q2 hp=>by
       by_cases zi:i<lo+x;·exact⟨ey i (lo+x-1) p b (by lia) zi (by lia) (by lia) hp hb,ey (lo+x-1) i b p (by lia) (by lia) (by lia) zi hb hp⟩
       ·have ei:i=lo+x:=by lia
        rw[ei,ha]at hp;cases hp;exact⟨lab,lba⟩
      exact o.tr _ _ _ (cls i p q1 q2 hp).1 (cls j q q3 q4 hq).2
  case post=>
   refine fun c st'=>faa fun ys neq m=>fak fun z0 py z1 g0 g0' ny g1 ey=>?_;subst z0;subst z1;have sy:=py.size;dsimp only;refine(fun(key:∀zs:Array Keyed,Pm lo (arrOf st) zs->NI le zs lo (lo+m)->wpS (model prog w) A E s ?P2 Q (setArr st zs))=>?m2) ?k2;case m2=>
    refine ifS (fun zq=>wpS_bind (rev ?_)) fun zq=>?_;·exact key _ (py.trans (Pm.mirror (by lia) (by lia))) (ny.mirror ey (by lia) (cN _) (by lia))
    ·exact key _ py ny
   case k2=>
    intro zs pz nz;clear ey ny py;have sz:=pz.size;refine wpS_bind (rev ?_);have pv:=pz.trans (Pm.mirror (xs:=zs) (i:=lo) (j:=lo+m) (cN _) (by lia));refine wpS_bind (asc _ m _ pv (nz.turn (by lia)) g0 g0' ?_ _ fun n hn1 hn2 hsn hor=>wpS_pure (h n _ pv (by lia) hn2 hsn));intro x n R hn1 hn2 hR;dsimp only;refine wpS_bind (lts pv (by lia) (by lia) fun a b c ha hb hc=>?_);have:=hR b a c hb ha hc
    cases c with
    |true=>exact wpS_pure this
    |false=>exact wpS_pure this
end
section
variable {prog:Zu} {w:Zv} {A:Zw} {E:Zb} {s:Zy} {le:Keyed->Keyed->Prop} {κ:SortKind} {U:List Keyed}
theorem Pm.bubble {a d:Nat} {xs:Array Keyed} (b:a<xs.size) (c:d<=a) (e:lo<=a-d):Pm lo xs (bubble xs a d):=⟨bubble_perm _ _ _,fun k f=>by rw[getElem?_bubble b d c,gU (by lia),gU (by lia)]⟩
theorem qR(P:Ask prog w A s κ U le) (o:Ord le) {st:SortSt} (hk:kindOf st=κ) (hU:In U (arrOf st)) (hn:lo+n<=(arrOf st).size) (W:ok<=n) (V:Sg le (arrOf st) lo (lo+ok))
  (h:∀a,Pm lo (arrOf st) a->Sg le a lo (lo+n)->Q true (setArr st a)):wpS (model prog w) A E s (binarySort' lo n ok) Q st:=by
 refine wpS_bind (wpS_mono (wpS_forRange (I:=fun k c f=>∃a,f=setArr st a/\c=(none,())/\Pm lo (arrOf st) a/\Sg le a lo (lo+min k n))
  (Q:=fun c f=>∃a,f=setArr st a/\c=(none,())/\Pm lo (arrOf st) a/\Sg le a lo (lo+n)) ?step ?fin (iak (arrOf st) rfl rfl (Pm.refl _ _) ?init)) ?post);case post=>refine fun c f=>fL fun a=>fac fun v u D b=>?_;subst v;subst u;exact wpS_pure (h a D b)
 case init=>
  by_cases z:ok=0;·subst z;intro i j x y C B S;exact Sg.one o _ lo i j x y C B (by lia)
  ·intro i j x y C B S;exact V i j x y C B (by lia)
 case fin=>refine fun c f=>fL fun a=>fac fun v u D b=>?_;subst v;subst u;rw[show min (max (max ok 1) n) n=n by lia]at b;exact iak a rfl rfl D b
 case step=>
  refine fun k c f hak Z=>fL fun a=>fac fun v u D b=>?_;subst v;subst u;have sz:=D.size;rw[show min k n=k by lia]at b;obtain⟨G,J⟩:=kO (xs:=a) (i:=lo+k) (by lia);refine wpS_bind (wpS_mono (wpS_forRange (I:=fun x c d=>d=setArr st a/\∃l r,c=(none,l,r)/\l<=r/\r<=k/\r-l<=k-x/\
    (∀i y,i<l->a[lo+i]?=some y->le y G)/\(∀i y,r<=i->i<k->a[lo+i]?=some y->le G y))
   (Q:=fun c d=>d=setArr st a/\∃l r,c=(none,l,r)/\l<=k/\
    (∀i y,i<l->a[lo+i]?=some y->le y G)/\(∀i y,l<=i->i<k->a[lo+i]?=some y->le G y)) ?istep ?ifin ?iinit) ?ipost);case iinit=>exact⟨rfl,0,k,rfl,by lia,by lia,by lia,fun i y hi=>by lia,fun i y C B=>by lia⟩
  case ifin=>
   refine fun c d=>f8 fun v=>faf fun l r=>fag fun u N H X m p=>?_;subst v;subst u;have:l=r:=by lia
   subst this;exact⟨rfl,l,l,rfl,H,m,p⟩
  case istep=>
   refine fun x c d _ T=>f8 fun v=>faf fun l r=>fag fun u N H X m p=>?_;subst v;subst u;dsimp only;refine ifS (fun O=>wpS_pure ⟨rfl,l,r,rfl,by lia,m,fun i y C B=>p i y (by lia) B⟩) fun O=>?_;obtain⟨L,F⟩:=kO (xs:=a) (i:=lo+(l+r)/2) (by lia);refine wpS_bind (zy P (st:=setArr st a) hk (hU.perm D.1) J F fun c R=>?_)
   cases c with
   |true=>refine wpS_pure ⟨rfl,l,(l+r)/2,rfl,by lia,by lia,by lia,m,fun i y C B e=>?_⟩;exact o.tr _ _ _ (o.of_not (R.mp rfl)) (b _ _ L y (by lia) (by lia) (by lia) F e)
   |false=>
    have M:le L G:=Ja fun z=>by have:=R.mpr z;cases this
    refine wpS_pure ⟨rfl,(l+r)/2+ 1,r,rfl,by lia,by lia,by lia,fun i y C e=>?_,p⟩;exact o.tr _ _ _ (b (lo+i) (lo+(l+r)/2) y L (by lia) (by lia) (by lia) e F) M
  case ipost=>
   refine fun c d=>f8 fun v=>faf fun l r=>fac fun u Y m p=>?_;subst v;subst u;show wpS _ _ _ _ (do moveDown' (lo+k) (lo+l);pure (JR (none,()))) _ _;rw[moveDown'_eq];have K:lo+k<a.size:=by lia
   refine wpS_bind (wpS_modify (wpS_pure (iak _ rfl rfl (D.trans (Pm.bubble K (by lia) (by lia))) ?_)));rw[show min (k+ 1) n=k+ 1 by lia,show lo+k-(lo+l)=k-l by lia];intro i j x y C B S t e;have g:∀q:Nat,(gj a (lo+k) (k-l))[q]?=if q=lo+l then some G else if lo+l<q/\q<=lo+k then a[q-1]? else a[q]?:=fun q=>by rw[getElem?_bubble K _ (by lia),J,show lo+k-(k-l)=lo+l by lia]
   have t:(gj a (lo+k) (k-l))[i]?=some x:=t;have e:(gj a (lo+k) (k-l))[j]?=some y:=e;rw[g]at t e;by_cases c1:i=lo+l
   ·rw[ip c1]at t;cases t;by_cases c2:j=lo+l;·rw[ip c2]at e;cases e;exact o.refl _
    ·rw[gU c2,ip (by lia)]at e;exact p (j-1-lo) y (by lia) (by lia) (by rw[show lo+(j-1-lo)=j-1 by lia];exact e)
   ·rw[gU c1]at t;by_cases c2:j=lo+l;·rw[ip c2]at e;cases e;rw[gU (by lia)]at t;exact m (i-lo) x (by lia) (by rw[show lo+(i-lo)=i by lia];exact t)
    ·rw[gU c2]at e;split at t<;>split at e;·exact b _ _ x y (by lia) (by lia) (by lia) t e
     ·lia
     ·exact b _ _ x y (by lia) (by lia) (by lia) t e
     ·exact b _ _ x y (by lia) (by lia) (by lia) t e
end
theorem ar1(e:sb=sa+na) (h:k<=na) (z:na-k≠0):sa+k+(na-k-1)=sb-1:=by lia
theorem ar2(e:sb=sa+na) (h:k<=na):sa+k+(na-k)=sb:=by lia
theorem EN {c:Type} (L:List c) (n:Nat) (h:n<=L.length):∃a b,L=a++b/\a.length=n:=(iap (L.take n) (L.drop n) ⟨(bD n L).symm,by rw[aI];lia⟩)
theorem GS{c:Type} {L a b:List c} (e:L=a++b) (h:a.length=n) (d:L.length=m):b.length=m-n:=by rw[e,aO]at d;lia
theorem room(e:sb=sa+na) (a:sb+nb<=S) (c:k<=na) (b:m<=nb):sa<=S/\k<=S-sa/\na-k<=S-sa-k/\m<=S-sa-k-(na-k)/\nb-m<=S-sa-k-(na-k)-m:=
 ⟨by lia,by lia,by lia,by lia,by lia⟩
section
variable {le:Keyed->Keyed->Prop}
theorem uQ{c:List Keyed} (e:L=a++(b++c)) (f:a.length=i) (d:b.length=n):(L.take (i+n)).drop i=b:=by subst f d;rw[e,List.take_append,List.drop_append];simp
theorem wX{c:List Keyed} (e:L=a++(b++c)) (g:a.length=i) (f:x∈b):∃j,j<b.length/\L[i+j]?=some x:=by obtain⟨j,d⟩:=bC.mp f;have:=(aq.mp d).1;refine⟨j,this,?_⟩;rw[e,aJ (by lia),show i+j-a.length=j by lia,aK this];exact d
theorem CB{c:List Keyed} (e:L=a++(b++c)) (ha:a.length=i) (hj:j<b.length):L[i+j]?=b[j]?:=by rw[e,aJ (by lia),show i+j-a.length=j by lia,aK hj]
theorem zF(s:Sg le xs lo hi):Srt le ((xs.toList.take hi).drop lo):=by
 rw[Srt,List.pairwise_iff_getElem];intro i j h1 h2 hij;have e:∀q (hq:q<((xs.toList.take hi).drop lo).length),xs[lo+q]?=some ((xs.toList.take hi).drop lo)[q]:=fun q hq=>by
  rw[<-fD];have e1:((xs.toList.take hi).drop lo)[q]?=some ((xs.toList.take hi).drop lo)[q]:=bf hq;rw[bS,bR]at e1;by_cases z:lo+q<hi;·rw[ip z]at e1;exact e1
  ·rw[gU z]at e1;cases e1
 rw[aV,aI]at h2;exact s (lo+i) (lo+j) _ _ (by lia) (by lia) (by lia) (e i h1) (e j (by rw[aV,aI];exact h2))
theorem FG(o:Ord le) (s:Srt le ((xs.toList.take hi).drop lo)):Sg le xs lo hi:=fun i j x y f l d c b=>by
 have e:∀q z,lo<=q->q<hi->xs[q]?=some z->((xs.toList.take hi).drop lo)[q-lo]?=some z:=fun q z m g a=>by rw[bS,bR,show lo+(q-lo)=q by lia,ip g,fD];exact a
 have k:=e i x f (by lia) c;have h:=e j y (by lia) d b;refine s.head o k (bC.mpr ⟨j-i,?_⟩);rw[bS,show i-lo+(j-i)=j-lo by lia];exact h
theorem wY (base:Nat):∀(r b:List d) (n:Nat) (f:Array d) (a c:List d),f.toList=a++(b++c)->a.length=base+n->b.length=r.length->
  ((r.zipIdx n).foldl (fun(a:Array d) (q:d×Nat)=>a.setIfInBounds (base+q.2) q.1) f).toList=a++(r++c)
 |[],b,n,f,a,c,e,_,hb=>by rw[bY hb]at e;exact e
 |x::r,[],n,f,a,c,e,ha,hb=>by cases hb
 |x::r,y::b,n,f,a,c,e,ha,hb=>by
  rw[br,List.foldl_cons];have:=wY base r b (n+ 1) (f.setIfInBounds (base+n) x) (a++[x]) c (by rw[fN,e,<-ha,bZ _ _ (cN _),cY,aS,List.set_cons_zero,bG];rfl) (by rw[aO,ha];rfl) (by simpa using hb);rw[this,bG];rfl
end
section
variable {prog:Zu} {w:Zv} {A:Zw} {E:Zb} {s:Zy} {le:Keyed->Keyed->Prop} {κ:SortKind} {U:List Keyed}
theorem DU{st:σ} (h:Q ⟨⟩ v):wpS M A E s (set v:StateT σ Sem PUnit) Q st:=by unfold wpS;rw[StateT.run_set];exact IT ⟨rfl,h⟩
theorem vN(I:Ask prog w A s κ U le) (o:Ord le) {st:SortSt} (hk:kindOf st=κ) (hf:failedOf st=none) (W:In U (arrOf st)) (h1:(pendingOf st)[i]?=some (sa,na,pw)) (h2:(pendingOf st)[i+ 1]?=some (sb,nb,pv)) (u:sb=sa+na) (na1:1<=na) (nb1:1<=nb) (hz:sb+nb<=(arrOf st).size) (sA:Sg le (arrOf st) sa sb) (T:Sg le (arrOf st) sb (sb+nb))
  (h:∀b g,b.Perm (arrOf st)->(∀q,q<sa\/sb+nb<=q->b[q]?=(arrOf st)[q]?)->Sg le b sa (sb+nb)->Q true (Jb κ b (((pendingOf st).setIfInBounds i (sa,na+nb,pw)).eraseIdxIfInBounds (i+ 1)) g none)):wpS (model prog w) A E s (mergeAt' i) Q st:=by
 refine wpS_bind (wpS_get ?_);dsimp only;rw[h1,h2];dsimp only;refine wpS_bind (DU ?_);subst hk;obtain⟨O,t⟩:=kO (xs:=arrOf st) (i:=sb) (by lia);refine wpS_bind (iE t ?_);obtain⟨P,hP⟩:∃P,((pendingOf st).setIfInBounds i (sa,na+nb,pw)).eraseIdxIfInBounds (i+ 1)=P:=⟨_,rfl⟩;rw[hP]at h;have hh:∀b g,b.Perm (arrOf st)->(∀q,q<sa\/sb+nb<=q->b[q]?=(arrOf st)[q]?)->Sg le b sa (sb+nb)->Q (failedOf st).isNone (Jb (kindOf st) b P g (failedOf st)):=by rw[hf];exact h
 have hT:∀b g,b.Perm (arrOf st)->(∀q,q<sa\/sb+nb<=q->b[q]?=(arrOf st)[q]?)->Sg le b sa (sb+nb)->Q true (Jb (kindOf st) b P g (failedOf st)):=by rw[hf];exact h
 show wpS (model prog w) A E s _ Q (Jb (kindOf st) (arrOf st) (((pendingOf st).setIfInBounds i (sa,na+nb,pw)).eraseIdxIfInBounds (i+ 1)) (gallopOf st) (failedOf st));rw[hP];have v:(∀p q x y,sa<=p->p<sb->sb<=q->q<sb+nb->(arrOf st)[p]?=some x->(arrOf st)[q]?=some y->le x y)->Sg le (arrOf st) sa (sb+nb):=fun mid p q x y g1 g2 g3 hx hy=>by
  by_cases z1:q<sb;·exact sA p q x y g1 g2 z1 hx hy
  ·by_cases z2:p<sb;·exact mid p q x y g1 z2 (by lia) g3 hx hy
   ·exact T p q x y (by lia) g2 g3 hx hy
 refine wpS_bind (kH I o rfl (W.at t) W (show sa+na<=(arrOf st).size by lia) (by lia) (by rw[<-u];exact sA) fun k G hk2 hk3=>?_);dsimp only;refine ifS (fun z=>wpS_pure (hT _ _ (Array.Perm.refl _) (fun _ _=>rfl) (v fun p q x y g1 g2 g3 g4 hx hy=>?_))) fun z=>?_
 ·have z:na-k=0:=by simpa using z
  have:=hk2 (p-sa) x (by lia) (by rw[show sa+(p-sa)=p by lia];exact hx);exact o.tr _ _ _ (by simpa using this) (T sb q O y (cN _) g3 g4 t hy)
 have z:na-k≠0:=by simpa using z
 obtain⟨Z,C⟩:=kO (xs:=arrOf st) (i:=sb-1) (by lia);refine wpS_bind (iE (x:=Z) (by rw[show sa+k+(na-k)-1=sb-1 by lia];exact C) (wpS_bind (kH I o rfl (W.at C) W hz (by lia) T fun m hk4 hk5 hk6=>?_)));dsimp only;refine ifS (fun z=>wpS_pure (hT _ _ (Array.Perm.refl _) (fun _ _=>rfl) (v fun p q x y g1 g2 g3 g4 hx hy=>?_))) fun R=>?_
 ·have z:m=0:=by simpa using z
  have:=hk6 (q-sb) y (by lia) (by lia) (by rw[show sb+(q-sb)=q by lia];exact hy);exact o.tr _ _ _ (sA p (sb-1) x Z g1 (by lia) (by lia) hx C) (by simpa using this)
 have R:m≠0:=by simpa using R
 have N:(arrOf st).toList.length=(arrOf st).size:=fC;refine eab (room u hz G hk4) fun c0 c1 c2 c3 c4=>?_;refine ead (EN (arrOf st).toList sa (N▸c0)) fun f r0 K n0=>?_;have t0:=GS K n0 N;refine ead (EN r0 k (t0▸c1)) fun d r1 e1 n1=>?_;have t1:=GS e1 n1 t0;refine ead (EN r1 (na-k) (t1▸c2)) fun X r2 e2 n2=>?_;have t2:=GS e2 n2 t1;refine ead (EN r2 m (t2▸c3)) fun Y r3 e3 n3=>?_;have t3:=GS e3 n3 t2;refine ead (EN r3 (nb-m) (t3▸c4)) fun S B e4 n4=>?_;clear c0 c1 c2 c3 c4;subst e4 e3 e2 e1;clear t0 t1 t2 t3 N na1 nb1;have eP:(arrOf st).toList=f++(d++(X++(Y++(S++B)))):=K;have eX:(arrOf st).toList=(f++d)++(X++(Y++(S++B))):=by rw[K];simp
 have eY:(arrOf st).toList=(f++d++X)++(Y++(S++B)):=by rw[K];simp
 have eS:(arrOf st).toList=(f++d++X++Y)++(S++B):=by rw[K];simp
 have H:(arrOf st).toList=(f++d)++((X++Y)++(S++B)):=by rw[K];simp
 have nX:(f++d).length=sa+k:=by rw[aO,n0,n1]
 have V:(f++d++X).length=sb:=by rw[aO,nX,n2,ar2 u G]
 have nS:(f++d++X++Y).length=sb+m:=by rw[aO,V,n3]
 have fP:∀x∈d,le x O:=fun x hx=>by refine eae (wX eP n0 hx) fun j hj l=>?_;rw[fD]at l;have:=hk2 j x (n1▸hj) l;simpa using this
 have fX:∀x∈X,le O x/\le x Z:=fun x hx=>by refine eae (wX eX nX hx) fun j hj l=>?_;rw[fD,cW]at l;have:=hk3 (k+j) x (by lia) (by lia) l;exact⟨o.of_not (by simpa using this),sA (sa+(k+j)) (sb-1) x Z (by lia) (by lia) (by lia) l C⟩
 have fY:∀y∈Y,le O y/\le y Z:=fun y hy=>by refine eae (wX eY V hy) fun j hj l=>?_;rw[fD]at l;have:=hk5 j y (by lia) l;exact⟨T sb (sb+j) O y (cN _) (by lia) (by lia) t l,o.of_not (by simpa using this)⟩
 have fS:∀y∈S,le O y/\le Z y:=fun y hy=>by refine eae (wX eS nS hy) fun j hj l=>?_;rw[fD,cW]at l;have:=hk6 (m+j) y (by lia) (by lia) l;exact⟨T sb (sb+(m+j)) O y (cN _) (by lia) (by lia) t l,by simpa using this⟩
 have F:Srt le (d++X):=by
  have e:(arrOf st).toList=f++((d++X)++(Y++(S++B))):=by rw[K];simp
  have q:=zF sA;rw[show sb=sa+na from u,uQ (n:=na) e n0 (by rw[aO];lia)]at q;exact q
 have D:Srt le (Y++S):=by
  have e:(arrOf st).toList=(f++d++X)++((Y++S)++B):=by rw[K];simp
  have q:=zF T;rw[uQ (n:=nb) e V (by rw[aO];lia)]at q;exact q
 rw[Srt,bE]at F D;refine eao F fun sP sX F=>?_;refine eao D fun sY sS D=>?_;have M:((arrOf st).extract (sa+k) sb).toList=X:=by rw[qQ];have:=uQ (n:=na-k) eX nX n2;rw[ar2 u G]at this;exact this
 have L:((arrOf st).extract sb (sb+m)).toList=Y:=by rw[qQ];exact uQ eY V n3
 have xz:((arrOf st).extract (sa+k) sb).size=na-k:=by rw[<-fC,M,n2]
 have yz:((arrOf st).extract sb (sb+m)).size=m:=by rw[<-fC,L,n3]
 have xu:In U ((arrOf st).extract (sa+k) sb):=fun x hx=>W x (by rw[M]at hx;rw[eX];simp[hx]);have yu:In U ((arrOf st).extract sb (sb+m)):=fun x hx=>W x (by rw[L]at hx;rw[eY];simp[hx]);have h0:∀x y,((arrOf st).extract sb (sb+m))[0]?=some x->((arrOf st).extract (sa+k) sb)[0]?=some y->le x y:=fun x y hx hy=>by rw[<-fD,L,<-CB (j:=0) eY V (n3▸cZ R),fD,dg,t]at hx;cases hx;rw[<-fD,M]at hy;exact(fX y (aN hy)).1
 have hl:∀x y,x∈((arrOf st).extract sb (sb+m)).toList->((arrOf st).extract (sa+k) sb)[((arrOf st).extract (sa+k) sb).size-1]?=some y->le x y:=fun x y hx hy=>by rw[<-fD,M,xz,<-CB (j:=na-k-1) eX nX (by rw[n2];exact Nat.sub_lt (cZ z) Nat.one_pos),fD,ar1 u G z,C]at hy;cases hy;rw[L]at hx;exact(fY x hx).2
 have fin:∀(r:Array Keyed) (g:Nat),Mgd le ((arrOf st).extract (sa+k) sb).toList ((arrOf st).extract sb (sb+m)).toList r.toList->Q (failedOf st).isNone (Jb (kindOf st) (List.foldl (fun(a:Array Keyed) (q:Keyed×Nat)=>a.setIfInBounds (sa+k+q.2) q.1) (arrOf st) r.toList.zipIdx) P g (failedOf st)):=fun r g J=>by
  rw[M,L]at J;have rl:=J.1.length_eq;clear xz yz V nS z R;have ey:=wY (sa+k) r.toList (X++Y) 0 (arrOf st) (f++d) (S++B) H nX rl.symm;obtain⟨b,hys⟩:∃b,List.foldl (fun(a:Array Keyed) (q:Keyed×Nat)=>a.setIfInBounds (sa+k+q.2) q.1) (arrOf st) r.toList.zipIdx=b:=⟨_,rfl⟩;rw[hys]at ey⊢;have hR:∀x∈r.toList,x∈X\/x∈Y:=fun x hx=>ak.mp (J.1.mem_iff.mp hx);rw[aO]at rl;refine hh b g ?_ (fun q hq=>?_) ?_;·rw[fF,ey,H];exact(J.1.append_right _).append_left _
  ·rw[<-fD,<-fD];have E1:b.toList=(f++d++r.toList++S)++B:=by rw[ey];simp
   have E2:(arrOf st).toList=(f++d++(X++Y)++S)++B:=by rw[H];simp
   rcases hq with hq|hq;·rw[ey,H];exact(aK (by lia)).trans (aK (by lia)).symm
   ·rw[E1,E2,aJ (by simp only[aO];lia),aJ (by simp only[aO];lia)];congr 1;simp only[aO];lia
  ·refine FG o ?_;have E1:b.toList=f++((d++(r.toList++S))++B):=by rw[ey];simp
   have:=uQ (n:=na+nb) E1 n0 (by simp only[aO];lia);rw[show sb+nb=sa+(na+nb) by lia,this,Srt,bE,bE];refine⟨sP,⟨J.2,sS,fun x hx y hy=>?_⟩,fun x hx y hy=>?_⟩
   ·rcases hR x hx with hx|hx;·exact o.tr _ _ _ (fX x hx).2 (fS y hy).2
    ·exact D x hx y hy
   ·rcases ak.mp hy with hy|hy
    ·rcases hR y hy with hy|hy;·exact F x hx y hy
     ·exact o.tr _ _ _ (fP x hx) (fY y hy).1
    ·exact o.tr _ _ _ (fP x hx) (fS y hy).1
 refine ifS (fun _=>wpS_bind (vL I o xu yu (by rw[M];exact sX) (by rw[L];exact sY) (by rw[xz];exact cZ z) (by rw[yz];exact cZ R) h0 hl rfl fun r st' J hg=>?_)) fun _=>wpS_bind (vM I o xu yu (by rw[M];exact sX) (by rw[L];exact sY) (by rw[xz];exact cZ z) (by rw[yz];exact cZ R) h0 hl rfl fun r st' J hg=>?_);all_goals obtain⟨g,rfl⟩:=hg;exact wpS_bind (wpS_modify (wpS_bind (wpS_get (wpS_pure (fin r g J)))))
end
section
variable {le:Keyed->Keyed->Prop}
def Rn (le:Keyed->Keyed->Prop) (xs:Array Keyed):Nat->List (Nat×Nat)->Nat->Prop
 |lo,[],hi=>lo=hi
 |lo,r::p,hi=>r.1=lo/\1<=r.2/\Sg le xs lo (lo+r.2)/\Rn le xs (lo+r.2) p hi
theorem Rn.app {xs:Array Keyed}:∀{p q:List (Nat×Nat)} {lo hi:Nat},Rn le xs lo (p++q) hi↔∃m,Rn le xs lo p m/\Rn le xs m q hi
 |[],q,lo,hi=>⟨fun h=>⟨lo,rfl,h⟩,fun⟨m,b,a⟩=>by cases b;exact a⟩
 |r::p,q,lo,hi=>by
  constructor;·refine fac fun b a e g=>?_;refine eae (Rn.app.mp g) fun m d c=>?_;exact⟨m,⟨b,a,e,d⟩,c⟩
  ·refine fae fun m f c=>?_;refine eaJ f fun b a e d=>?_;exact⟨b,a,e,Rn.app.mpr ⟨m,d,c⟩⟩
theorem Rn.len {xs:Array Keyed}:∀{p:List (Nat×Nat)} {lo hi:Nat},Rn le xs lo p hi->lo+p.length<=hi
 |[],lo,hi,h=>by cases h;exact cN _
 |r::p,lo,hi,⟨h1,h2,h3,h4⟩=>by have:=Rn.len h4;rw[az];lia
theorem Sg.congr {xs ys:Array Keyed} (s:Sg le xs lo hi) (h:∀q,lo<=q->q<hi->ys[q]?=xs[q]?):Sg le ys lo hi:=fun i j x y d e c b a=>by rw[h i d (by lia)]at b;rw[h j (by lia) c]at a;exact s i j x y d e c b a
theorem Rn.congr {xs ys:Array Keyed}:∀{p:List (Nat×Nat)} {lo hi:Nat},Rn le xs lo p hi->(∀q,lo<=q->q<hi->ys[q]?=xs[q]?)->Rn le ys lo p hi
 |[],lo,hi,h,_=>h
 |r::p,lo,hi,⟨h1,h2,h3,h4⟩,g=>by have:=Rn.len h4;exact⟨h1,h2,h3.congr fun q b a=>g q b (by lia),h4.congr fun q b a=>g q (by lia) a⟩
noncomputable def pj (P:Array (Nat×Nat×Nat)):List (Nat×Nat):=P.toList.map fun r=>(r.1,r.2.1)
theorem CC (P:Array (Nat×Nat×Nat)):(pj P).length=P.size:=by unfold pj;rw[aC,fC]
theorem zG (P:Array (Nat×Nat×Nat)) (r:Nat×Nat×Nat):pj (P.push r)=pj P++[(r.1,r.2.1)]:=by unfold pj;rw[fJ,bB];rfl
theorem FH (P:Array (Nat×Nat×Nat)) (i pw:Nat):pj (P.modify i fun x=>(x.1,x.2.1,pw))=pj P:=by
 unfold pj;rw[Array.toList_modify];apply List.ext_getElem?;intro k;rw[aM,aM,List.getElem?_modify]
 cases P.toList[k]? with
 |none=>rfl
 |some r=>
  obtain⟨a,b,c⟩:=r;by_cases e:i=k;·simp[e]
  ·simp[e]
end
section
variable {prog:Zu} {w:Zv} {A:Zw} {E:Zb} {s:Zy} {le:Keyed->Keyed->Prop} {κ:SortKind} {U:List Keyed}
theorem sI(G:Ask prog w A s κ U le) (o:Ord le) (Y:In U xs) (Z:hi<=xs.size) (h1:i+ 1<P.size) (W:Rn le xs 0 (pj P) hi)
  (h:∀c H F,c.Perm xs->(∀q,hi<=q->c[q]?=xs[q]?)->Rn le c 0 (pj H) hi->H.size+ 1=P.size->Q true (Jb κ c H F none)):wpS (model prog w) A E s (mergeAt' i) Q (Jb κ xs P g none):=by
 refine ead (EN P.toList i (by rw[fC];lia)) fun V t f x=>?_;have u:t.length=P.size-i:=by have:=congrArg aH f;rw[aO,fC]at this;lia
 obtain⟨R,p,rfl⟩:∃r q,t=r::q:=by
  cases t with
  |nil=>rw[aT]at u;lia
  |cons r q=>exact iap r q rfl
 rw[az]at u;obtain⟨O,T,rfl⟩:∃r q,p=r::q:=by
  cases p with
  |nil=>rw[aT]at u;lia
  |cons r q=>exact iap r q rfl
 obtain⟨b,d,v⟩:=R;obtain⟨n,a,S⟩:=O;have e:=W;unfold pj at e;rw[f,bB]at e;refine eax (Rn.app.mp e) fun m D N=>?_;refine eaJ N fun L k J M=>?_;subst L;refine eaJ M fun l j I C=>?_;dsimp only at k J l j I D C;have G1:=Rn.len D;have G2:=Rn.len C;refine vN G o (st:=Jb κ xs P g none) (i:=i) (sa:=b) (na:=d) (sb:=n) (nb:=a) (pw:=v) (pv:=S) rfl rfl Y ?_ ?_ l k j (show n+a<=xs.size by lia) (by rw[l];exact J) (by rw[l];exact I) fun c F X B y=>?_;·show P[i]?=_;rw[<-fD,f,aJ (by lia),x,cY];rfl
 ·show P[i+ 1]?=_;rw[<-fD,f,aJ (by lia),x,dh];rfl
 have K:((P.setIfInBounds i (b,d+a,v)).eraseIdxIfInBounds (i+ 1)).toList=V++(b,d+a,v)::T:=by rw[Array.toList_eraseIdxIfInBounds,fN,f,<-x,bZ _ _ (cN _),cY,List.set_cons_zero,List.eraseIdx_append_of_length_le (by lia),dh];rfl
 refine h c _ F X (fun q hq=>B q (.inr (by lia))) ?_ ?_
 ·unfold pj;rw[K,bB];refine Rn.app.mpr ⟨b,D.congr fun q _ p=>B q (.inl p),rfl,by show 1<=d+a;lia,?_,?_⟩;·show Sg le c b (b+(d+a));rw[show b+(d+a)=n+a by lia];exact y
  ·show Rn le c (b+(d+a)) _ hi;rw[show b+(d+a)=n+a by lia];rw[l];exact C.congr fun q t _=>B q (.inr (by lia))
 ·have:=congrArg aH K;rw[fC,aO,az]at this;rw[this];have z:=congrArg aH f;rw[fC,aO,az,az]at z;lia
theorem wpS_sortRunsG(G:Ask prog w A s κ U le) (o:Ord le) (X:In U xs₀)
  (h:∀a,(arrOf a).Perm xs₀->failedOf a=none->Srt le (arrOf a).toList->Q () a):wpS (model prog w) A E s sortRuns' Q (Jb κ xs₀ #[] g₀ none):=by
 refine wpS_bind (wpS_get ?_);dsimp only;refine wpS_bind (wpS_mono (wpS_forRange
  (I:=fun x c a=>∃e P g d,a=Jb κ e P g none/\c=(none,d)/\e.Perm xs₀/\Rn le e 0 (pj P) d/\d<=xs₀.size/\min x xs₀.size<=d)
  (Q:=fun c a=>∃e P g d,a=Jb κ e P g none/\c=(none,d)/\e.Perm xs₀/\Rn le e 0 (pj P) xs₀.size) ?step ?fin (iaj xs₀ (#[]) g₀ 0 rfl rfl (Array.Perm.refl _) rfl (by lia) (by lia))) ?post);case fin=>
  refine fun c a=>faj fun e P g d=>fag fun C B t v h1 h2=>?_;subst C;subst B;have:d=xs₀.size:=by lia
  subst this;exact iaq e P g _ ⟨rfl,rfl,t,v⟩
 case step=>
  refine fun x c a _ hx=>faj fun e P g d=>fag fun C B t v h1 h2=>?_;subst C;subst B;have V:=t.size_eq;dsimp only;refine ifS (fun z=>wpS_pure (iaq e P g d ⟨rfl,rfl,t,?_⟩)) fun z=>?_
  ·have:d=xs₀.size:=by lia
   rw[<-this];exact v
  refine wpS_bind (tL G o (st:=Jb κ e P g none) rfl (X.perm t) (show d+(xs₀.size-d)<=e.size by lia) (by lia) fun n H D n1 n2 O=>?_);have D:Pm d e H:=D;have szy:=D.size;dsimp only;refine ifS (fun M=>wpS_bind (wpS_lift (JH ⟨rfl,wpS_bind (qR G o (st:=Jb κ H P g none) rfl (X.perm (D.1.trans t)) (show d+min (xs₀.size-d) (minRun' xs₀.size xs₀.size 0)<=H.size by lia) (show n<=min (xs₀.size-d) (minRun' xs₀.size xs₀.size 0)from by have M:n<minRun' xs₀.size xs₀.size 0:=M;lia) O fun f F k=>?_)⟩))) fun M=>?_;rw[gU (by simp)];obtain⟨m,T⟩:∃m,m=min (xs₀.size-d) (minRun' xs₀.size xs₀.size 0):=⟨_,rfl⟩;have N:1<=m/\d+m<=xs₀.size:=by have M:n<minRun' xs₀.size xs₀.size 0:=M;lia
  have F:Pm d e f:=D.trans F;have k:Sg le f d (d+m):=by rw[T];exact k
  have hm':min (xs₀.size-d) ((sortPriv% PySem.Builtin.minRun) xs₀.size xs₀.size 0)=m:=T.symm;rw[hm'];rotate_left;refine eaD (show ∃m f,m=n/\f=H from (iaf _ _ rfl rfl)) fun m f=>f8 fun T J=>?_;have N:1<=m/\d+m<=xs₀.size:=by lia
  have F:Pm d e f:=by rw[J];exact D
  have k:Sg le f d (d+m):=by rw[J,T];exact O
  rw[<-J,<-T];all_goals
   have u:Rn le f 0 (pj P) d:=v.congr fun q _ q2=>F.2 q q2;have l:=F.1.trans t;refine wpS_bind (wpS_get ?_);dsimp only
   cases hb:(pendingOf (Jb κ f P g none)).back? with
   |none=>dsimp only;refine wpS_bind (wpS_modify (wpS_pure (iaj f _ _ _ rfl rfl l ?_ N.2 (by lia))));rw[zG];exact Rn.app.mpr ⟨d,u,rfl,N.1,k,rfl⟩
   |some r=>
    obtain⟨s1,n1',p1⟩:=r;dsimp only;refine wpS_bind (wpS_mono (wpS_forRange
     (I:=fun x c a=>∃f P g,a=Jb κ f P g none/\c=(none,())/\f.Perm xs₀/\Rn le f 0 (pj P) d/\Sg le f d (d+m))
     (Q:=fun c a=>∃f P g,a=Jb κ f P g none/\c=(none,())/\f.Perm xs₀/\Rn le f 0 (pj P) d/\Sg le f d (d+m)) ?mstep (fun c a W=>W) (iah f P g rfl rfl l u k)) ?mpost);case mpost=>refine fun c a=>faa fun f P g=>fah fun C B l u k=>?_;subst C;subst B;dsimp only;refine wpS_bind (wpS_modify (wpS_bind (wpS_modify (wpS_pure (iaj f _ _ _ rfl rfl l ?_ N.2 (by lia))))));rw[zG];refine Rn.app.mpr ⟨d,?_,rfl,N.1,k,rfl⟩;show Rn le f 0 (pj (P.modify _ _)) d;rw[FH];exact u
    case mstep=>
     refine fun y c a _ hy=>faa fun f P g=>fah fun C B l u k=>?_;subst C;subst B;have szz:=l.size_eq;refine wpS_bind (wpS_get ?_);dsimp only;by_cases zp:P.size>1;·rw[ip zp];obtain⟨r,hr2⟩:∃r,P[P.size-2]?=some r:=⟨_,getElem?_pos P (P.size-2) (by lia)⟩;obtain⟨q1,q2,Y⟩:=r;rw[hr2];dsimp only;refine ifS (fun _=>wpS_pure (iah f P g rfl rfl l u k)) fun _=>?_;refine wpS_bind (sI G o (X.perm l) (by lia) (by lia) u fun H P' g' L S K hz'=>?_);rw[gU (by simp)];exact wpS_pure (iah H P' g' rfl rfl (L.trans l) K (k.congr fun q q1 _=>S q q1))
     ·rw[gU zp];exact wpS_pure (iah f P g rfl rfl l u k)
 case post=>
  refine fun c a=>faj fun e P g d=>fac fun C B t v=>?_;subst C;subst B;have V:=t.size_eq;have rl:=Rn.len v;rw[CC]at rl;dsimp only;refine wpS_bind (wpS_mono (wpS_forRange
   (I:=fun x c a=>∃e P g,a=Jb κ e P g none/\c=(none,())/\e.Perm xs₀/\Rn le e 0 (pj P) xs₀.size/\(P.size<=1\/P.size+x<=xs₀.size))
   (Q:=fun c a=>∃e P g,a=Jb κ e P g none/\c=(none,())/\e.Perm xs₀/\Rn le e 0 (pj P) xs₀.size/\P.size<=1) ?fstep ?ffin (iah e P g rfl rfl t v (by lia))) ?fpost);case ffin=>refine fun c a=>faa fun e P g=>fah fun C B t v W=>?_;subst C;subst B;exact iah e P g rfl rfl t v (by lia)
  case fstep=>
   refine fun x c a _ hx=>faa fun e P g=>fah fun C B t v W=>?_;subst C;subst B;have V:=t.size_eq;refine wpS_bind (wpS_get ?_);dsimp only;refine ifS (fun z=>wpS_pure (iah e P g rfl rfl t v z)) fun z=>?_;have z:¬P.size<=1:=z;refine wpS_bind (sI G o (X.perm t) (cP V.symm) ?_ v fun H P' g' L S K hz'=>?_)
   ·have Z:∀(b:Prop) [Decidable b],(if b then P.size-2-1 else P.size-2)+ 1<P.size:=fun b _=>by
     by_cases hb:b;·rw[ip hb];lia
     ·rw[gU hb];lia
    exact Z _
   ·rw[gU (by simp)];exact wpS_pure (iah H P' g' rfl rfl (L.trans t) K (by lia))
  case fpost=>
   refine fun c a=>faa fun e P g=>fah fun C B t v W=>?_;subst C;subst B;have V:=t.size_eq;refine wpS_pure (h _ t rfl ?_);show Srt le e.toList;have q:Sg le e 0 xs₀.size:=by
    have pl:=CC P
    cases R:pj P with
    |nil=>rw[R]at v;intro i j x y _ _ h3;rw[<-(show 0=xs₀.size from v)]at h3;lia
    |cons r p=>rw[R]at v pl;rw[az]at pl;have:p=[]:=bY (by lia);subst this;refine eaj v fun _ _ h3 h4=>?_;rw[<-(show 0+r.2=xs₀.size from h4)];exact h3
   have:=zF q;rw[bO,bM (by rw[fC];lia)]at this;exact this
end
end TS.Internal
namespace L2.Internal
open PySem PySem.Spec PyProof.Rows PySem.W
section
variable {prog:Zu} {w:Zv} {A:Zw} {E:Zb} {s:Zy} {le:Keyed->Keyed->Prop}
def zH (prog:Zu) (w:Zv) (A:Zw) (le:Keyed->Keyed->Prop) (vs:List Zz) (s:Zy):Prop:=
 ∃a,(∀(Q:SortKind->Zy->Prop) (E:Zb),Q a s->C7 (model prog w) A (keyKind' vs.toArray) Q E s)/\TS.Internal.Ask prog w A s a (vs.zip vs) le
def Bq(o:TS.Internal.Ord le) (ho:s.heap.get? a=some (seqObj "list" vs.toArray n)) (h2:2<=vs.length) (l:vs.length<=sizeLine)
  (O:∀t,(∀b o,b≠a->s.heap.get? b=some o->t.get? b=some o)->zH prog w A le vs {s with heap:=t})
  (M:∀f:List Zz,f.Perm vs->f.Pairwise (fun x y=>le (x,x) (y,y))->P (.done (.ret .none)) {s with heap:=sortedHeap s.heap a vs (bz f)}):C7 (model prog w) A (Builtin.«list.sort» ⟨[.ref a],[]⟩) P E s:=by
 have lt:a<s.heap.objs.size:=fZ ho;obtain⟨p,v⟩:∃p,(s.heap.update a (Jz fun _=>(#[]:Array Zz))).get? a=some (seqObj "list" #[] p):=⟨_,get?_update_seq ho fun _=>#[]⟩;have j:∀b o,b≠a->s.heap.get? b=some o->(((s.heap.update a (Jz fun _=>(#[]:Array Zz))).push (seqObj "tuple" vs.toArray 0)).push (seqObj "list" #[] 0)).get? b=some o:=fun b o H e=>
  f7 _ (f7 _ ((Heap.get?_update_ne _ _ _ _ H).trans e));have u:(((s.heap.update a (Jz fun _=>(#[]:Array Zz))).push (seqObj "tuple" vs.toArray 0)).push (seqObj "list" #[] 0)).get? a=some (seqObj "list" #[] p):=f7 _ (f7 _ v);refine eae (O _ j) fun Z J I=>?_;rw[list_sort_plain];refine C6 (listItems_at ho rfl (C6 (listUpdate_at ho rfl ?_ (by rw[ay];exact l) (cO _))));refine C6 (seqEpoch_at v rfl (C6 (wpAny_newTuple ?_ l)));refine C6 (wpAny_newList (JM ?_) (cO _));dsimp only;have r:¬vs.toArray.size<2:=by rw[ay];lia
 rw[gU r,gU r];refine C6 (J _ _ ?_);have z:(vs.toArray.zip vs.toArray).toList=vs.zip vs:=by simp
 refine C6 (I0 (TS.Internal.wpS_sortRunsG (xs₀:=vs.toArray.zip vs.toArray) (g₀:=7) (Q:=fun _ c=>(arrOf c).Perm (vs.toArray.zip vs.toArray)/\failedOf c=none/\TS.Internal.Srt le (arrOf c).toList) I o (fun x i=>by rw[z]at i;exact i) fun c Y X W=>⟨Y,X,W⟩) ?_ fun _ _ e=>e);rintro⟨⟨⟩,c⟩ s' ⟨rfl,N,R,L⟩;dsimp only;have m:(arrOf c).toList.Perm (vs.zip vs):=by rw[<-z];exact fF.mp N
 have T:(arrOf c).map (·.2)=bz ((arrOf c).toList.map Jc):=by apply Array.toList_inj.mp;simp
 rw[T];have q:((arrOf c).toList.map Jc).Perm vs:=by have:=m.map Jc;rwa[bA (cN _)]at this
 have G:((arrOf c).toList.map Jc).Pairwise (fun x y=>le (x,x) (y,y)):=by rw[b6];refine List.Pairwise.imp_of_mem (fun{x y} i K h=>?_) L;have V:=(mem_zip_self (m.mem_iff.mp i)).1;have U:=(mem_zip_self (m.mem_iff.mp K)).1;obtain⟨F,D⟩:=x;obtain⟨C,B⟩:=y;cases(show F=D from V);cases(show C=B from U);exact h
 have k:(bz ((arrOf c).toList.map Jc)).size=vs.length:=by rw[ay];exact q.length_eq
 refine C6 (seqEpoch_at u rfl (C6 (listUpdate_at u rfl ?_ (cO _) (by rw[k];exact cS l))));rw[R];simp only[bne_self_eq_false,Bool.false_eq_true,if_false];exact IT (M _ q G)
def FI {a:Type} {R:a->a->Prop}:∀{l:List a},l.length<2->l.Pairwise R
 |[],_=> .nil
 |[x],_=>by simp
 |_::_::_,h=>by simp only[az]at h;lia
def x5{F:Zt->Nat->List Zz->Prop} {Q:Zb} (o:TS.Internal.Ord le) (g:∀R:List Zz->Zy->Prop,(∀c d a,F c d a->R a {s with heap:=c,toks:=d})->C7 (model prog w) A.in1 (collect (.ref r)) R E s)
  (v:∀c d a,F c d a->a.length<=sizeLine/\(2<=a.length->∀h,(∀b o,c.get? b=some o->h.get? b=some o)->zH prog w A.in1.in1 le a {s with heap:=h,toks:=d}))
  (n:∀c d a f,F c d a->f.Perm a->f.Pairwise (fun x y=>le (x,x) (y,y))->Q (.ref c.objs.size) {s with heap:=sortedHeap (c.push (seqObj "list" a.toArray 0)) c.objs.size a (bz f),toks:=d}):C7 (model prog w) A (call (.builtin "sorted") [.ref r]) Q E s:=by
 refine Calls.call_function_entry kind_sorted plain_sorted entry_sorted (args_sorted1 _) ?_;unfold Builtin.«sorted»;refine C6 (m:=checkCount "sorted" 1 1 _) (IT ?_);refine C6 (g _ fun c d a i=>?_);obtain⟨l,t⟩:=v c d a i;refine C6 (wpAny_newList ?_ l);have j:(c.push (seqObj "list" a.toArray 0)).get? c.objs.size=some (seqObj "list" a.toArray 0):=f6 _ rfl;refine C6 (JM (JL slot_list_sort ⟨_,j,rfl⟩ entry_list_sort ?body (args_list_sort _)));case body=>
  by_cases h2:2<=a.length;·exact Bq (s:={s with heap:=c.push (seqObj "list" a.toArray 0),toks:=d}) o j h2 l (fun h k=>t h2 h fun b u e=>k b u (cH (fZ e)) (f7 _ e)) fun f q p=>⟨_,rfl,IT ⟨_,rfl,n c d a f i q p⟩⟩
  ·exact zm (s:={s with heap:=c.push (seqObj "list" a.toArray 0),toks:=d}) j (by lia) ⟨_,rfl,IT ⟨_,rfl,n c d a a i (.refl _) (FI (by lia))⟩⟩
end
section
variable {X:Cx}
theorem zI:∀{a:List Int} {us:List Zz},jh (a.map V.int) us->IntsAre us a
 |[],_,.nil=> .nil
 |x::a,_,.cons h r=>by obtain⟨t,e⟩:=h;cases e;exact .cons x t (zI r)
end
noncomputable def ltL:List Int->List Int->Bool
 |_,[]=>false
 |[],_::_=>true
 |a::as,b::bs=>if a=b then ltL as bs else decide (a<b)
def leL (x y:List Int):Prop:=ltL y x=false
theorem CD:∀{x y:List Int},ltL x y=true->ltL y x=false
 |[],[],h=>by cases h
 |_::_,[],h=>by cases h
 |[],_::_,_=>rfl
 |a::as,b::bs,h=>by
  unfold ltL at h⊢;by_cases e:a=b;·rw[ip e]at h;rw[ip e.symm];exact CD h
  ·rw[gU e,decide_eq_true_eq]at h;rw[gU (fun z=>e z.symm)];exact iY (by lia)
def DV (x y:List Int):leL x y\/leL y x:=by
 cases h:ltL y x with
 |false=>exact .inl h
 |true=>exact .inr (CD h)
def wZ:leL (a::as) (b::bs)↔a<b\/(a=b/\leL as bs):=by
 unfold leL;rw[ltL];by_cases e:b=a;·rw[ip e];exact⟨fun h=> .inr ⟨e.symm,h⟩,fun h=>h.elim (fun z=>by lia) fun z=>z.2⟩
 ·rw[gU e,decide_eq_false_iff_not];exact⟨fun h=> .inl (by lia),fun h=>h.elim (fun z=>by lia) fun z=>absurd z.1.symm e⟩
theorem CF:∀(x y z:List Int),leL x y->leL y z->leL x z
 |[],_,z,_,_=>by unfold leL;cases z<;>rfl
 |a::as,[],z,h,_=>by cases h
 |a::as,b::bs,[],_,h=>by cases h
 |a::as,b::bs,c::cs,e,d=>by
  rw[wZ]at e d⊢;rcases e with e|⟨e,g⟩<;>rcases d with d|⟨d,f⟩;·exact .inl (by lia)
  ·exact .inl (by lia)
  ·exact .inl (by lia)
  ·exact .inr ⟨e.trans d,CF as bs cs g f⟩
theorem CG:∀(x y:List Int),leL x y->leL y x->x=y
 |[],[],_,_=>rfl
 |[],b::bs,_,h=>by cases h
 |a::as,[],h,_=>by cases h
 |a::as,b::bs,h1,h2=>by
  rw[wZ]at h1 h2;have e:a=b:=by lia
  subst e;rw[CG as bs (h1.elim (fun z=>by lia) fun z=>z.2) (h2.elim (fun z=>by lia) fun z=>z.2)]
def DW{y:List (List Int)} (hx:x.Pairwise leL) (hy:y.Pairwise leL) (hp:x.Perm y):x=y:=
 hp.eq_of_pairwise (fun a b _ _ h1 h2=>CG a b h1 h2) hx hy
noncomputable def CH (c:Bool):List Int->List Int->Bool
 |a::as,b::bs=>if a=b then CH c as bs else decide (a<b)
 |_,_=>c
theorem zJ:∀(x y:List Int),CH (decide (x.length<y.length)) x y=ltL x y
 |[],[]=>rfl
 |[],_::_=>by simp[CH,ltL]
 |_::_,[]=>by simp[CH,ltL]
 |a::as,b::bs=>by rw[CH,ltL,<-zJ as bs];simp
section
variable {prog:Zu} {w:Zv} {A:Zw} {E:Zb} {s:Zy}
theorem xc:∀{vs us:List Zz} {xs ys:List Int},IntsAre vs xs->IntsAre us ys->∀i,C (CH fin xs ys) s->KatLex prog w A true fin C (vs.zip us) i s
 |_,_,_,_,.nil,_,i,h=>by rw[List.zip_nil_left];exact h
 |_,_,_,_,.cons a t r,.nil,i,h=>h
 |_,_,_,_,.cons a t r,.cons b u r',i,h=>by
  rw[List.zip_cons_cons];refine kat_cons (wpAny_eqBool_int (kat_go (fun e=>kat_yes (xc r r' (i+ 1) ?_)) fun e=>kat_no ?_));·rw[CH,ip (of_decide_eq_true e)]at h;exact h
  ·rw[CH,gU (of_decide_eq_false e)]at h
   cases(true&&i==0)with
   |true=>exact oneLt_int h
   |false=>exact kat_one _ _ (lt_int h)
def HC (h:Zt) (b:Zz->List Int) (v:Zz):Prop:=∃a o c n,v= .ref a/\h.get? a=some o/\o.cls= .type "tuple"/\o.data= .seq c n/\IntsAre c.toList (b v)/\1<=(b v).length
def leK (a:Zz->List Int) (x y:Keyed):Prop:=leL (a x.1) (a y.1)
def ordK (key:Zz->List Int):TS.Internal.Ord (leK key):=⟨fun x y=>DV _ _,fun _ _ _=>CF _ _ _⟩
theorem zK:∀i:List Zz,(∀v∈i,HC h key v)->∃j,KatTups h i j/\j.length=i.length/\∀f∈j,∃n t,f= .int n t
 |[],_=>⟨[],.nil,rfl,fun f hf=>by cases hf⟩
 |v::i,hv=>by
  refine eah (zK i fun u p=>hv u (ai _ p)) fun j w s r=>?_;refine eaA (hv v ah) fun a o b n=>fag fun e g c d k q=>?_;have l:0<b.size:=by rw[<-fC,k.length];exact q
  have x:=getElem?_pos b 0 l;refine eam (k.all b[0] (by simp)) fun m t y=>?_;subst e;refine⟨b[0]::j,.cons g c d x w,by rw[az,az,s],fun f hf=>?_⟩;rcases aj.mp hf with rfl|hf;·exact iap m t y
  ·exact r f hf
def DX(M:2<=a.length) (e:∀v∈a,HC s.heap key v):zH prog w A (leK key) a s:=by
 refine eah (zK a e) fun N t L l=>?_;refine io (tuples' true) (fun Q E q=>?_) (fun x y r p E Q G u h=>?_);·refine kat_kind (T:= .type "int") t (by lia) (fun v d=>?_) (by decide) q;refine eam (l v d) fun n t k=>?_;subst k;exact Looks.of_pure rfl
 ·refine eaA (e _ (mem_zip_self r).2) fun P I o K=>fag fun j B _ F c _=>?_;refine eaA (e _ (mem_zip_self p).2) fun O H m J=>fag fun i z _ D b _=>?_;rw[lt'_eq];refine wpS_bind (wpS_get ?_);rw[u];have f:∀C:Bool->Zy->Prop,∀E,C (ltL (key x.1) (key y.1)) s->C7 (model prog w) A (keyLt' (tuples' true) x.1 y.1) C E s:=fun C E g=>by rw[j,i]at g⊢;rw[j]at c;rw[i]at b;refine kat_lt B F z D ?_;rw[show o.size=_ from fC.symm.trans c.length,show m.size=_ from fC.symm.trans b.length];refine xc c b 0 ?_;rw[zJ];exact g
  refine wpS_bind (wpS_lift (wpAny_attempt (f _ _ ⟨rfl,?_⟩)));refine wpS_pure (h _ ?_);unfold leK leL;rw[Bool.not_eq_false]
end
section
variable {X:Cx} {pz:Za} {σ:St} {H:Hp} {s:Zy}
theorem sJ{c:Type} {k:c}:∀{l:List (Zx×c)},l.lookup b=some k->(b,k)∈l
 |[],h=>by cases h
 |(a,x)::l,h=>by
  rw[aZ]at h;by_cases e:b=a;·subst e;simp at h;subst h;exact ah
  ·have:(b==a)=false:=by simpa using e
   rw[this]at h;exact ai _ (sJ h)
def x8 (H:Hp) (ps:List (Zx×List Int)):Prop:=∀p∈ps,H p.1=some (.tup (p.2.map V.int))
def Br(I:Inv X pz σ H s) (U:x8 H t) (D:∀p∈t,1<=p.2.length) (hz:t.length<=sizeLine)
  (M:∀R:List Zz->Zy->Prop,(∀D E y,(∀b o,s.heap.get? b=some o->D.get? b=some o)->y.Perm (t.map fun p=>IP p.1)->R y {s with heap:=D,toks:=E})->C7 (model X.prog X.w) X.A.in1 (collect (.ref r)) R X.xe s)
  (q:∀(l:Zx) (a:List (Zx×List Int)),H l=none->a.Perm t->(a.map Jc).Pairwise leL->Q (.ref l) (upd H l (.lst (a.map fun p=>V.ref p.1)))):C7 (model X.prog X.w) X.A (call (.builtin "sorted") [.ref r]) (EP X pz σ Q) X.xe s:=by
 obtain⟨i,B⟩:∃i:Zz->List Int,∀p∈t,i (.ref p.1)=p.2:=by
  refine⟨fun v=>match v with| .ref b=>(t.lookup b).getD []|_=>[],fun p f=>?_⟩;show(t.lookup p.1).getD []=p.2;have T:∀k G:List Int,k.map V.int=G.map V.int->k=G:=fun k G e=>by have:=congrArg (bj fun v=>match v with|V.int n=>n|_=>0) e;simpa[bh,Function.comp_def]using this
  cases e:t.lookup p.1 with
  |none=>have:=List.lookup_eq_none_iff.mp e p f;simp at this
  |some G=>have hm:(p.1,G)∈t:=sJ e;have Y:=U p f;have A:=U _ hm;rw[Y]at A;injection A with A;injection A with A;exact(T _ _ A).symm
 obtain⟨m,C⟩:∃m:Zz->Zx,∀b,m (.ref b)=b:=⟨fun v=>match v with| .ref b=>b|_=>0,fun b=>rfl⟩;refine x5 (le:=leK i) (F:=fun D E y=>(∀b o,s.heap.get? b=some o->D.get? b=some o)/\y.Perm (t.map fun p=>IP p.1)) (ordK i) (fun R hR=>M R fun D E y k1 k2=>hR D E y ⟨k1,k2⟩) (fun h E y L=>⟨by rw[L.2.length_eq,aC];exact hz,fun h2 h' hk=>DX h2 fun v J=>?_⟩) fun h E y w L po pw=>?_;·refine eae (bg.mp (L.2.mem_iff.mp J)) fun p f N=>?_;subst N;refine eay (I.hok p.1 _ (U p f)) fun _=>fL fun S=>f8 fun rv=>fL fun o=>fab fun g c=>fL fun n=>f8 fun d _=>?_;rw[HC,B p f];exact iaj p.1 o S.toArray n rfl (hk _ _ (L.1 _ _ g)) c d (by simpa using zI rv) (D p f)
 ·obtain⟨P,pu⟩:=L;have Z:=po.trans pu;have K:∀v∈w,∃p∈t,v= .ref p.1:=fun v J=>by refine eae (bg.mp (Z.mem_iff.mp J)) fun p f e=>?_;exact io p f e.symm
  obtain⟨a,x⟩:∃a,a=w.map fun v=>(m v,i v):=⟨_,rfl⟩;have Y:a.map (fun p=>IP p.1)=w:=by rw[x,bh];refine(List.map_congr_left fun v J=>?_).trans (List.map_id _);refine eae (K v J) fun p _ N=>?_;subst N;show IP (m (.ref p.1))= .ref p.1;rw[C]
  have A:a.Perm t:=by have:=Z.map fun v=>(m v,i v);rw[<-x,bh]at this;refine this.trans (.of_eq ?_);refine(List.map_congr_left fun p f=>?_).trans (List.map_id _);show(m (.ref p.1),i (.ref p.1))=p;rw[C,B p f]
  have e3:(a.map Jc).Pairwise leL:=by rw[x,bh,b6];exact pw
  have g:(h.push (seqObj "list" y.toArray 0)).get? h.objs.size=some (seqObj "list" y.toArray 0):=f6 _ rfl;obtain⟨e,he⟩:=sortedHeap_at (out:=bz w) g;have O:∀b u,s.heap.get? b=some u->b≠h.objs.size:=fun b u e=>cH (fZ (P b u e));have HB:H h.objs.size=none:=by
   cases e:H h.objs.size with
   |none=>rfl
   |some o=>obtain⟨u,eu⟩:∃u,s.heap.get? h.objs.size=some u:=(I.hok _ _ e).there;exact absurd rfl (O _ u eu)
  refine iab (.ref h.objs.size) (upd H h.objs.size (.lst (a.map fun p=>V.ref p.1))) ?_ rfl (q _ _ HB A e3);refine I.more (t':=E) (fun b u j=>?_) (fun b o j=>?_) (fun b u j W=>?_) fun b o j W=>?_;·rw[sortedHeap_old (O b u j) (fZ (f7 _ (P b u j)))];exact f7 _ (P b u j)
  ·rw[gx (fun z=>by rw[z,HB]at j;cases j)];exact j
  ·rw[gx (O b u j)];exact W
  ·by_cases z:b=h.objs.size;·subst z;rw[gm]at j;cases j;refine⟨by rw[aC,A.length_eq];exact hz,w,e,?_,he⟩;rw[<-Y];have:=uO (a.map JY);rw[bh,bh]at this;exact this
   ·rw[gx z,W]at j;cases j
def oJ:oE X (.builtin "sorted") (fun g H Q=>∃(a:Zx) (ps:List (Zx×List Int)),g=[.ref a]/\SqL X.K H a (ps.map fun p=>V.ref p.1)/\x8 H ps/\(∀p∈ps,1<=p.2.length)/\
  ∀(l:Zx) (c:List (Zx×List Int)),H l=none->c.Perm ps->(c.map Jc).Pairwise leL->Q (.ref l) (upd H l (.lst (c.map fun p=>V.ref p.1)))):=by
 intro G s D H g F Q I n h;refine eap h fun a ps d y w A q=>?_;subst d;refine eae (qi n) fun u d r=>?_;subst d;cases r;refine eah (I.list y) fun f j p k=>?_;rw[aC]at k;have m:f=ps.map fun p=>IP p.1:=by
  have v:=j.length;rw[aC]at v;apply List.ext_getElem?;intro i;rw[aM]
  cases e:ps[i]? with
  |none=>rw[b9 (by have:=bw.mp e;lia)];rfl
  |some t=>refine eae (jh.get j (i:=i) (x:=V.ref t.1) (by rw[aM,e];rfl)) fun E C B=>?_;rw[C];cases B;rfl
 refine Br I w A k (fun R z=>collect_list p.isList (z _ _ _ (fun b o e=>?_) (by rw[m])) (by rw[m,aC];lia)) q;rw[Heap.get?_update_ne _ _ _ _ (cH (fZ e))];exact f7 _ e
end
end L2.Internal
namespace TM.Internal
open PySem L2.Internal
inductive Kn
 |num (n:Int)
 |name (w:Str)
 |fn (w:Str)
 |tag (w:Str)
 |lt (w:Str)
 |get (w:Str)
 |rcd (l:Zd)
 |case (l:List (Str×Str))
 |row (m:Nat)
 |op (s:Str) (m:Nat)
inductive Tr
 |mk (κ:Kn) (ks:List Tr)
noncomputable def ops:List (Str×Nat):=[("call",2),("at",3),("join",2),("size",1),("add",2),("sub",2),("less",2)]
mutual
noncomputable def Tr.sz:Tr->Nat
 | .mk _ ks=>1+szs ks
noncomputable def szs:List Tr->Nat
 |[]=>0
 |t::ts=>t.sz+szs ts
end
mutual
noncomputable def Tr.nest:Tr->Nat
 | .mk _ ks=>1+nests ks
noncomputable def nests:List Tr->Nat
 |[]=>0
 |t::ts=>max t.nest (nests ts)
end
noncomputable def Kn.s:Kn->Str
 | .num _=>"num"
 | .name _=>"name"
 | .fn _=>"fn"
 | .tag _=>"tag"
 | .lt _=>"let"
 | .get _=>"get"
 | .rcd _=>"rec"
 | .case _=>"case"
 | .row _=>"row"
 | .op s _=>s
noncomputable def iA:List Tr->Nat->List Nat
 |[],_=>[]
 |t::ts,p=>p::iA ts (p+t.sz)
theorem offs_len:∀(ts:List Tr) (p:Nat),(iA ts p).length=ts.length
 |[],_=>rfl
 |t::ts,p=>by rw[iA,az,az,offs_len ts]
end TM.Internal
open L2.Internal renaming upd→Zk
namespace K22.Internal
variable {pos:Pos} {scope:Scope}
open PySem L2.Internal
def l0 {P:List Zz->Prop} (h:P []):∀a:List Zz,a.length=0->P a:=fun a e=>by rw[bY e];exact h
def lS{P:List Zz->Prop} (h:∀a,∀b:List Zz,b.length=n->P (a::b)):∀b:List Zz,b.length=n+ 1->P b:=fun b e=>by
 cases b with
 |nil=>cases e
 |cons a t=>exact h a t (Nat.succ.inj e)
noncomputable def top (i:Nat):Zq:=PySem.Challenge.pw_flowkinds_k22_laid_by_places.main.body.getD i (.Pass ⟨0,0,0,0⟩)
variable {K:Zp} {mg:Zc} {n q:Str} {st:Zq} {ps:Zd} {C:Zx} {h:Zt}
inductive Fm (K:Zp) (n:Str) (st:Zq):Prop
 |mk {f:Zx} {od an:Option Zx} {sl:Array (Option Zz)} {oc kV dc pm cd ct:Zz} (a:eN K C8 n=some (some (.ref f))) (l:K.lookup f=some ⟨oc,od,.func (eJ n n (jS st) (jr st) (gA st) .none kV dc pm an cd ct),sl⟩) (c:eK K cd n=true) (k:dW K (.ref f)=true)
inductive Mm (K:Zp) (C:Zx) (n q:Str) (st:Zq):Prop
 |mk {f:Zx} {od an:Option Zx} {sl:Array (Option Zz)} {oc kV dc pm cd ct:Zz} (i:dH K (.ref C) n=some (some (.ref f))) (j:dJ K (.ref f)=true) (l:K.lookup f=some ⟨oc,od,.func (eJ n q (jS st) (jr st) (gA st) .none kV dc pm an cd ct),sl⟩) (c:eK K cd q=true) (k:dW K (.ref f)=true)
structure Cm (K:Zp) (n:Str) (C:Zx):Prop where
 a:eN K C8 n=some (some (.ref C))
 pg:dE K C Str.empty=true
 hd:dG K C=true
 po:dO K C=true
 sa:dH K (.ref C) "__setattr__"=some (some (.builtin "object.__setattr__"))
 t1:dH K (.ref C) "__class__"=some (some (.builtin "object.__class__"))
 t2:dS K (.builtin "object.__class__") "__get__"=some (some (.builtin "getset_descriptor.__get__"))
 t3:PySem.W.takesIn K (.builtin "object.__class__")=some true
 t4:PySem.W.mroIn K C (.type "object")=some true
 ms:dQ K C=true
 kc:dW K (.ref C)=true
structure Fx (K:Zp) (mg:Zc) (n:Str) (st:Zq) (ps:Zd) where
 a:Zx
 fd:Zs
 F:Fun K n n st a fd
 b:m7 K fd ps []
 m:mg n=some (.ref a)
 k:dW K (.ref a)=true
structure Mx (K:Zp) (C:Zx) (n q:Str) (st:Zq) (ps:Zd) where
 a:Zx
 fd:Zs
 F:Fun K n q st a fd
 b:m7 K fd ps []
 me:GO K C n a
structure Ck (K:Zp) (mg:Zc) (n:Str) where
 a:Zx
 m:mg n=some (.ref a)
 cl:Cls K a
 ty:∀(H:Hp) (x dx:Zx) (fs:List (Str×V)),H x=some (.ins a dx fs)->vz K H (.ref x) (.ref a)
def Bf (n q:Str) (st:Zq) (ps:Zd):Prop:=∀(e b d:Zz) (g:Option Zx) (c f:Zz) (a:List Zz),a.length=ps.length->bindArgs (eJ n q (jS st) (jr st) (gA st) .none e b d g c f) ⟨a,[]⟩=pure (ps.zip a)
def Fm.x (X:K.In h) (G:h.Ns C8 mg) (a:Fm K n st) (hb:Bf n n st ps:=by intro _ _ _ _ _ _;repeat(first|exact l0 rfl|refine lS fun _=>?_)):Fx K mg n st ps:=Classical.choice (by obtain⟨a,l,c,k⟩:=a;exact⟨⟨_,_,uG l c k,(uG l c k).binds hb,eO X G a,k⟩⟩)
def Mm.x (a:Mm K C n q st) (hb:Bf n q st ps:=by intro _ _ _ _ _ _;repeat(first|exact l0 rfl|refine lS fun _=>?_)):Mx K C n q st ps:=Classical.choice (by obtain⟨i,j,l,c,k⟩:=a;exact⟨⟨_,_,uG l c k,(uG l c k).binds hb,⟨i,j,k⟩⟩⟩)
def Cm.x (X:K.In h) (G:h.Ns C8 mg) (a:Cm K n C):Ck K mg n:=⟨C,eO X G a.a,⟨a.pg,a.hd,a.po,a.sa⟩,fun _ _ _ _ e=> .ins e ⟨a.pg,a.hd,a.po,a.sa⟩ a.t1 a.t2 a.t3 a.t4⟩
def sf{x:Option (Option Zz)} (d:x=some (some (.ref a))) (c:x=some (some (.ref b))):a=b:=by rw[d]at c;cases c;rfl
def Cm.k (a:Cm K n C) (x:Mx K C "__init__" q st ps):Mk K C x.a:=⟨a.ms,x.me.at_,x.me.fn,a.kc⟩
abbrev FO (P:Zu) (w:Zv) (base:Zt) (k:Nat) (x:Fx K mg n st ps) (sp:Sp):Prop:=rN P w K mg base CX0 k x.a x.fd ps sp
abbrev MO (P:Zu) (w:Zv) (base:Zt) (mg:Zc) (k:Nat) (x:Mx K C n q st ps) (sp:Sp):Prop:=rN P w K mg base CX0 k x.a x.fd ps sp
inductive Dm (K:Zp) (n:Str) (st:Zq):Prop
 |mk {f:Zx} {od an:Option Zx} {sl:Array (Option Zz)} {oc kV dc pm cd ct:Zz} {t:Zx} {od':Option Zx} {sl':Array (Option Zz)} {oc':Zz} {m:Nat} (a:eN K C8 n=some (some (.ref f))) (l:K.lookup f=some ⟨oc,od,.func (eJ n n (jS st) (jr st) (gA st) (.ref t) kV dc pm an cd ct),sl⟩) (c:eK K cd n=true) (k:dW K (.ref f)=true) (lt:K.lookup t=some ⟨oc',od',.seq #[.none] m,sl'⟩)
structure Dx (K:Zp) (mg:Zc) (n:Str) (st:Zq) (ps:Zd) where
 a:Zx
 fd:Zs
 F:EM K n n st a fd
 b:m7 K fd ps [.none]
 m:mg n=some (.ref a)
 k:dW K (.ref a)=true
abbrev nG:Zq:=top 11
abbrev tM:Zq:=top 13
abbrev mF:Zq:=top 14
abbrev mG:Zq:=top 15
abbrev pE:Zq:=top 16
abbrev lW:Zq:=top 17
abbrev zL:Zq:=top 19
abbrev qS:Zq:=top 21
abbrev pG:Zq:=top 22
abbrev lX:Zq:=top 23
abbrev jU:Zq:=top 24
abbrev tN:Zq:=top 25
abbrev pH:Zq:=top 26
abbrev qT:Zq:=top 27
abbrev qU:Zq:=top 28
abbrev qV:Zq:=top 29
abbrev qW:Zq:=top 30
abbrev pJ:Zq:=top 31
abbrev qX:Zq:=top 32
abbrev tO:Zq:=top 33
abbrev pK:Zq:=top 34
abbrev pL:Zq:=top 35
abbrev qY:Zq:=top 36
abbrev pM:Zq:=top 37
abbrev lY:Zq:=top 38
abbrev nH:Zq:=top 43
abbrev mH:Zq:=top 44
abbrev mI:Zq:=top 45
abbrev nJ:Zq:=top 46
abbrev nK:Zq:=top 47
abbrev pO:Zq:=top 48
abbrev lZ:Zq:=top 49
abbrev nL:Zq:=top 50
abbrev nN:Zq:=top 51
abbrev nO:Zq:=top 52
abbrev mf:Zq:=top 53
abbrev pP:Zq:=top 54
abbrev mJ:Zq:=top 55
abbrev lC:Zq:=top 56
abbrev mh:Zq:=top 57
abbrev nP:Zq:=top 58
abbrev pQ:Zq:=top 59
abbrev nQ:Zq:=top 60
abbrev mK:Zq:=top 61
abbrev mL:Zq:=top 62
abbrev mM:Zq:=top 63
abbrev nR:Zq:=top 64
abbrev mN:Zq:=top 65
abbrev kP:Zq:=top 66
abbrev tP:Zq:=top 67
abbrev kQ:Zq:=iV (top 2) 0
abbrev nT:Zq:=iV (top 2) 1
abbrev kq:Zq:=iV (top 3) 0
abbrev mi:Zq:=iV (top 4) 1
abbrev jV:Zq:=iV (top 5) 0
abbrev lD:Zq:=iV (top 5) 2
abbrev jW:Zq:=iV (top 6) 0
abbrev lE:Zq:=iV (top 6) 2
abbrev jX:Zq:=iV (top 7) 0
abbrev lF:Zq:=iV (top 7) 2
abbrev kn:Zq:=iV (top 8) 0
abbrev mj:Zq:=iV (top 8) 2
abbrev kz:Zq:=iV (top 9) 0
abbrev mm:Zq:=iV (top 9) 1
abbrev mO:Zq:=iV (top 9) 2
abbrev nV:Zq:=iV (top 9) 3
abbrev mP:Zq:=iV (top 9) 4
abbrev lH:Zq:=iV (top 9) 5
abbrev ko:Zq:=iV (top 20) 0
abbrev jl:Zq:=iV (top 20) 1
abbrev mQ:Zq:=iV (top 20) 2
abbrev jY:Zq:=iV (top 41) 0
def scK {N ps:Zd} {s:Scope} (h:gJ N ps s:=by constructor<;>first|rfl|decide+kernel):gJ N ps s:=h
set_option genInjectivity false in
set_option genSizeOf false in
structure Txt (K:Zp) (mg:Zc) where
 d1:Fx K mg "stands_in" nG ["program","place","number"]
 d2:Fx K mg "pasted" tM ["board","paper","place"]
 d3:Fx K mg "new_points" mF ["board","count","place"]
 d4:Fx K mg "parts_made" mG ["making","outs","ins"]
 d5:Fx K mg "use_made" pE ["one","at","place","outs","ins"]
 d6:Fx K mg "with_points" lW ["pairs","points"]
 y7:Dx K mg "laid" zL ["program","homes","which","papers"]
 d8:Fx K mg "lay_num" qS ["laying","row","place","own"]
 d9:Fx K mg "lay_name" pG ["laying","row","place","own"]
 d10:Fx K mg "meant_point" lX ["laying","place"]
 d11:Fx K mg "definition_point" jU ["laying","place","number"]
 d12:Fx K mg "lay_fn" tN ["laying","row","place","own"]
 d13:Fx K mg "lay_call" pH ["laying","row","place","own"]
 d14:Fx K mg "lay_let" qT ["laying","row","place","own"]
 d15:Fx K mg "lay_rec" qU ["laying","row","place","own"]
 d16:Fx K mg "lay_get" qV ["laying","row","place","own"]
 d17:Fx K mg "lay_tag" qW ["laying","row","place","own"]
 d18:Fx K mg "lay_case" pJ ["laying","row","place","own"]
 d19:Fx K mg "lay_row" qX ["laying","row","place","own"]
 d20:Fx K mg "lay_at" tO ["laying","row","place","own"]
 d21:Fx K mg "lay_join" pK ["laying","row","place","own"]
 d22:Fx K mg "lay_size" pL ["laying","row","place","own"]
 d23:Fx K mg "lay_sum" qY ["laying","row","place","own"]
 d24:Fx K mg "lay_less" pM ["laying","row","place","own"]
 d25:Fx K mg "lay_numbers" lY ["laying","row","place"]
 d26:Fx K mg "_law_stem" nH ["_law_cell","_law_size"]
 d27:Fx K mg "_law_words" mH ["_law_cell"]
 d28:Fx K mg "_law_alike" mI ["_law_found","_law_due"]
 d29:Fx K mg "_law_leaf" nJ ["_law_node","_law_weight"]
 d30:Fx K mg "_law_knit" nK ["_law_head","_law_words_here","_law_parts","_law_held"]
 d31:Fx K mg "_law_pop" pO ["_law_stack"]
 d32:Fx K mg "_law_number" lZ ["_law_arg"]
 d33:Fx K mg "_law_name" nL ["_law_words_here","_law_var"]
 d34:Fx K mg "_law_most" nN ["_law_item","_law_arg"]
 d35:Fx K mg "_law_wide" nO ["_law_words_here","_law_stack","_law_op","_law_arg"]
 d36:Fx K mg "_law_narrow" mf ["_law_words_here","_law_stack","_law_op","_law_arg"]
 d37:Fx K mg "_law_new" pP ["_law_words_here","_law_stack","_law_made","_law_op","_law_arg"]
 d38:Fx K mg "_law_ended" mJ ["_law_words_here","_law_item","_law_arg"]
 d39:Fx K mg "_law_defined" lC ["_law_words_here","_law_cells"]
 d40:Fx K mg "_law_scoped" mh ["_law_node","_law_k","_law_places"]
 d41:Fx K mg "_law_home" nP ["_law_scope","_law_word"]
 d42:Fx K mg "_law_row" pQ ["_law_node","_law_places"]
 d43:Fx K mg "_law_flat" nQ ["_law_node","_law_scope","_law_rows","_law_homes"]
 d44:Fx K mg "_law_built" mK ["_law_words_here","_law_nodes"]
 d45:Fx K mg "_law_spots" mL ["_law_rows","_law_low","_law_high"]
 d46:Fx K mg "_law_makes" mM ["_law_row_here","_law_p","_law_spots_here"]
 d47:Fx K mg "_law_uses" nR ["_law_row_here","_law_p","_law_spots_here"]
 d48:Fx K mg "_law_flows" mN ["_law_row_here","_law_home_here","_law_p","_law_spots_here"]
 d49:Fx K mg "_law_by_place" kP ["_law_told","_law_at"]
 c1:Ck K mg "Make"
 n1shape:ig K c1.a "shape"
 n1parts:ig K c1.a "parts"
 n1at:ig K c1.a "at"
 n1place:ig K c1.a "place"
 e50:Mx K c1.a "__init__" "Make.__init__" kQ ["self","shape","parts","at","place"]
 mk1:Mk K c1.a e50.a
 e51:Mx K c1.a "told" "Make.told" nT ["self"]
 c2:Ck K mg "Use"
 n2at:ig K c2.a "at"
 n2place:ig K c2.a "place"
 n2slot:ig K c2.a "slot"
 e52:Mx K c2.a "__init__" "Use.__init__" kq ["self","at","place","slot"]
 cm52:IF K c2.a "__init__" e52.a
 mk2:Mk K c2.a e52.a
 c3:Ck K mg "NumUse"
 n3at:ig K c3.a "at"
 n3place:ig K c3.a "place"
 n3slot:ig K c3.a "slot"
 e53:Mx K c3.a "told" "NumUse.told" mi ["self"]
 mk3:Mk K c3.a e52.a
 c4:Ck K mg "CallUse"
 n4arg:ig K c4.a "arg"
 n4out:ig K c4.a "out"
 n4at:ig K c4.a "at"
 n4place:ig K c4.a "place"
 n4slot:ig K c4.a "slot"
 e54:Mx K c4.a "__init__" "CallUse.__init__" jV ["self","at","place","slot","arg","out"]
 mk4:Mk K c4.a e54.a
 e55:Mx K c4.a "told" "CallUse.told" lD ["self"]
 c5:Ck K mg "TakeUse"
 n5fields:ig K c5.a "fields"
 n5at:ig K c5.a "at"
 n5place:ig K c5.a "place"
 n5slot:ig K c5.a "slot"
 e56:Mx K c5.a "__init__" "TakeUse.__init__" jW ["self","at","place","slot","fields"]
 mk5:Mk K c5.a e56.a
 e57:Mx K c5.a "told" "TakeUse.told" lE ["self"]
 c6:Ck K mg "CaseUse"
 n6arms:ig K c6.a "arms"
 n6at:ig K c6.a "at"
 n6place:ig K c6.a "place"
 n6slot:ig K c6.a "slot"
 e58:Mx K c6.a "__init__" "CaseUse.__init__" jX ["self","at","place","slot","arms"]
 mk6:Mk K c6.a e58.a
 e59:Mx K c6.a "told" "CaseUse.told" lF ["self"]
 c7:Ck K mg "RowUse"
 n7out:ig K c7.a "out"
 n7at:ig K c7.a "at"
 n7place:ig K c7.a "place"
 n7slot:ig K c7.a "slot"
 e60:Mx K c7.a "__init__" "RowUse.__init__" kn ["self","at","place","slot","out"]
 mk7:Mk K c7.a e60.a
 e61:Mx K c7.a "told" "RowUse.told" mj ["self"]
 c8:Ck K mg "Board"
 n8points:ig K c8.a "points"
 n8makes:ig K c8.a "makes"
 n8uses:ig K c8.a "uses"
 n8flows:ig K c8.a "flows"
 n8root:ig K c8.a "root"
 e62:Mx K c8.a "__init__" "Board.__init__" kz ["self"]
 mk8:Mk K c8.a e62.a
 e63:Mx K c8.a "point" "Board.point" mm ["self","place"]
 e64:Mx K c8.a "make" "Board.make" mO ["self","shape","parts","at","place"]
 e65:Mx K c8.a "use" "Board.use" nV ["self","one"]
 e66:Mx K c8.a "flow" "Board.flow" mP ["self","p","q"]
 e67:Mx K c8.a "rooted" "Board.rooted" lH ["self","p"]
 c9:Ck K mg "Laying"
 n9program:ig K c9.a "program"
 n9homes:ig K c9.a "homes"
 n9papers:ig K c9.a "papers"
 n9board:ig K c9.a "board"
 n9held:ig K c9.a "held"
 n9starts:ig K c9.a "starts"
 e68:Mx K c9.a "__init__" "Laying.__init__" ko ["self","program","homes","papers"]
 mk9:Mk K c9.a e68.a
 e69:Mx K c9.a "lay_definition" "Laying.lay_definition" jl ["self","number"]
 e70:Mx K c9.a "lay" "Laying.lay" mQ ["self","place"]
 c10:Ck K mg "Program"
 n10names:ig K c10.a "names"
 n10roots:ig K c10.a "roots"
 n10rows:ig K c10.a "rows"
 e71:Mx K c10.a "__init__" "Program.__init__" jY ["self","names","roots","rows"]
 mk10:Mk K c10.a e71.a
 z_all:mg "all"=none
 z_bool:mg "bool"=none
 z_enumerate:mg "enumerate"=none
 z_int:mg "int"=none
 z_isinstance:mg "isinstance"=none
 z_len:mg "len"=none
 z_list:mg "list"=none
 z_max:mg "max"=none
 z_range:mg "range"=none
 z_sorted:mg "sorted"=none
 z_str:mg "str"=none
 z_sum:mg "sum"=none
 z_tuple:mg "tuple"=none
 z_zip:mg "zip"=none
def qb:gJ ["program","place","number","behind"] ["program","place","number"] (gA nG):=scK
def zM:gJ ["board","paper","place","outs","ins","at","makings","making","uses","one","flow"] ["board","paper","place"] (gA tM):=scK
def Bs:gJ ["board","count","place","points","number"] ["board","count","place"] (gA mF):=scK
def Bu:gJ ["making","outs","ins"] ["making","outs","ins"] (gA mG):=scK
def DY:gJ ["one","at","place","outs","ins"] ["one","at","place","outs","ins"] (gA pE):=scK
def AW:gJ ["pairs","points"] ["pairs","points"] (gA lW):=scK
def zN:gJ ["program","homes","which","papers","laying"] ["program","homes","which","papers"] (gA zL):=scK
def ya:gJ ["laying","row","place","own"] ["laying","row","place","own"] (gA qS):=scK
def vO:gJ ["laying","row","place","own"] ["laying","row","place","own"] (gA pG):=scK
def ng:gJ ["laying","place","home"] ["laying","place"] (gA lX):=scK
def nZ:gJ ["laying","place","number"] ["laying","place","number"] (gA jU):=scK
def qZ:gJ ["laying","row","place","own","argument","answer"] ["laying","row","place","own"] (gA tN):=scK
def n8:gJ ["laying","row","place","own","called","argument"] ["laying","row","place","own"] (gA pH):=scK
def yb:gJ ["laying","row","place","own"] ["laying","row","place","own"] (gA qT):=scK
def pR:gJ ["laying","row","place","own","fields","field"] ["laying","row","place","own"] (gA qU):=scK
def sL:gJ ["laying","row","place","own","record"] ["laying","row","place","own"] (gA qV):=scK
def sM:gJ ["laying","row","place","own","tagged"] ["laying","row","place","own"] (gA qW):=scK
def kR:gJ ["laying","row","place","own","subject","arms","arm","tagged"] ["laying","row","place","own"] (gA pJ):=scK
def pT:gJ ["laying","row","place","own","things","thing"] ["laying","row","place","own"] (gA qX):=scK
def oK:gJ ["laying","row","place","own","looked","index","default"] ["laying","row","place","own"] (gA tO):=scK
def mq:gJ ["laying","row","place","own","things","first","second"] ["laying","row","place","own"] (gA pK):=scK
def n9:gJ ["laying","row","place","own","things","measured"] ["laying","row","place","own"] (gA pL):=scK
def yc:gJ ["laying","row","place","own"] ["laying","row","place","own"] (gA qY):=scK
def rb:gJ ["laying","row","place","own","nothing"] ["laying","row","place","own"] (gA pM):=scK
def lI:gJ ["laying","row","place","first","second"] ["laying","row","place"] (gA lY):=scK
def jj:gJ ["_law_cell","_law_size","_law_signs","_law_stem_here","_law_k","_law_many"] ["_law_cell","_law_size"] (gA nH):=scK
def iB:gJ ["_law_cell","_law_size","_law_words_here","_law_stem_here","_law_at","_law_k","_law_word","_law_part"] ["_law_cell"] (gA mH):=scK
def oM:gJ ["_law_found","_law_due"] ["_law_found","_law_due"] (gA mI):=scK
def uR:gJ ["_law_node","_law_weight"] ["_law_node","_law_weight"] (gA nJ):=scK
def iD:gJ ["_law_head","_law_words_here","_law_parts","_law_held","_law_nest","_law_weight","_law_many","_law_own","_law_places","_law_part","_law_var"] ["_law_head","_law_words_here","_law_parts","_law_held"] (gA nK):=scK
def vP:gJ ["_law_stack"] ["_law_stack"] (gA pO):=scK
def rS:gJ ["_law_arg"] ["_law_arg"] (gA lZ):=scK
def qc:gJ ["_law_words_here","_law_var","_law_item"] ["_law_words_here","_law_var"] (gA nL):=scK
def uS:gJ ["_law_item","_law_arg"] ["_law_item","_law_arg"] (gA nN):=scK
def iX:gJ ["_law_words_here","_law_stack","_law_op","_law_arg","_law_many","_law_chosen","_law_parts","_law_heads","_law_k","_law_bodies"] ["_law_words_here","_law_stack","_law_op","_law_arg"] (gA nO):=scK
def jF:gJ ["_law_words_here","_law_stack","_law_op","_law_arg","_law_item","_law_head","_law_chosen","_law_parts"] ["_law_words_here","_law_stack","_law_op","_law_arg"] (gA mf):=scK
def mr:gJ ["_law_words_here","_law_stack","_law_made","_law_op","_law_arg","_law_item","_law_body","_law_var"] ["_law_words_here","_law_stack","_law_made","_law_op","_law_arg"] (gA pP):=scK
def jZ:gJ ["_law_words_here","_law_item","_law_arg","_law_var"] ["_law_words_here","_law_item","_law_arg"] (gA mJ):=scK
def ij:gJ ["_law_words_here","_law_cells","_law_stack","_law_made","_law_nodes","_law_done","_law_cell","_law_c","_law_new_here","_law_item"] ["_law_words_here","_law_cells"] (gA lC):=scK
def rT:gJ ["_law_node","_law_k","_law_places"] ["_law_node","_law_k","_law_places"] (gA mh):=scK
def lg:gJ ["_law_scope","_law_word","_law_home_here","_law_one"] ["_law_scope","_law_word"] (gA nP):=scK
def rf:gJ ["_law_node","_law_places","_law_arms"] ["_law_node","_law_places"] (gA pQ):=scK
def jM:gJ ["_law_node","_law_scope","_law_rows","_law_homes","_law_at","_law_places","_law_k","_law_part"] ["_law_node","_law_scope","_law_rows","_law_homes"] (gA nQ):=scK
def iK:gJ ["_law_words_here","_law_nodes","_law_names","_law_roots","_law_rows","_law_homes","_law_scope","_law_d","_law_node"] ["_law_words_here","_law_nodes"] (gA mK):=scK
def iL:gJ ["_law_rows","_law_low","_law_high","_law_points","_law_spot","_law_inner","_law_arm","_law_case","_law_p","_law_row_here","_law_one"] ["_law_rows","_law_low","_law_high"] (gA mL):=scK
def mw:gJ ["_law_row_here","_law_p","_law_spots_here","_law_at","_law_q"] ["_law_row_here","_law_p","_law_spots_here"] (gA mM):=scK
def qd:gJ ["_law_row_here","_law_p","_law_spots_here","_law_at"] ["_law_row_here","_law_p","_law_spots_here"] (gA nR):=scK
def oN:gJ ["_law_row_here","_law_home_here","_law_p","_law_spots_here","_law_at"] ["_law_row_here","_law_home_here","_law_p","_law_spots_here"] (gA mN):=scK
def kA:gJ ["_law_told","_law_at","_law_found","_law_one"] ["_law_told","_law_at"] (gA kP):=scK
def jN:gJ ["_law_script","_law_first","_law_words_here","_law_built_here","_law_which","_law_program","_law_homes","_law_board","_law_low","_law_high","_law_spots_here","_law_makes_here","_law_uses_here","_law_flows_here","_law_many","_law_p","_law_row_here","_law_due"] ["_law_script"] (gA tP):=scK
def qk:gJ ["self","shape","parts","at","place"] ["self","shape","parts","at","place"] (gA kQ):=scK
def uT:gJ ["self"] ["self"] (gA nT):=scK
def rg:gJ ["self","at","place","slot"] ["self","at","place","slot"] (gA kq):=scK
def rV:gJ ["self"] ["self"] (gA mi):=scK
def oa:gJ ["self","at","place","slot","arg","out"] ["self","at","place","slot","arg","out"] (gA jV):=scK
def rh:gJ ["self"] ["self"] (gA lD):=scK
def oh:gJ ["self","at","place","slot","fields"] ["self","at","place","slot","fields"] (gA jW):=scK
def rj:gJ ["self"] ["self"] (gA lE):=scK
def oi:gJ ["self","at","place","slot","arms"] ["self","at","place","slot","arms"] (gA jX):=scK
def rk:gJ ["self"] ["self"] (gA lF):=scK
def oO:gJ ["self","at","place","slot","out"] ["self","at","place","slot","out"] (gA kn):=scK
def rW:gJ ["self"] ["self"] (gA mj):=scK
def pU:gJ ["self"] ["self"] (gA kz):=scK
def rX:gJ ["self","place"] ["self","place"] (gA mm):=scK
def tQ:gJ ["self","shape","parts","at","place"] ["self","shape","parts","at","place"] (gA mO):=scK
def uU:gJ ["self","one"] ["self","one"] (gA nV):=scK
def tR:gJ ["self","p","q"] ["self","p","q"] (gA mP):=scK
def rm:gJ ["self","p"] ["self","p"] (gA lH):=scK
def oP:gJ ["self","program","homes","papers"] ["self","program","homes","papers"] (gA ko):=scK
def jc:gJ ["self","number","root","start"] ["self","number"] (gA jl):=scK
def kF:gJ ["self","place","row","own"] ["self","place"] (gA mQ):=scK
def oj:gJ ["self","names","roots","rows"] ["self","names","roots","rows"] (gA jY):=scK
def xf (K:Zp):Sp:=fun vs H Q _=>∃(a:Zx) (ns:List Int),vs=[.ref a]/\SqL K H a (ns.map V.int)/\ns.length<=63/\∀H',Q (.bl true) H'
def _root_.L2.Internal.Fun.rd {P:Zu} {w:Zv} {base:Zt} {f:Zx} {fd:Zs} {N:Zd} {k:Nat} {sp:Sp} (F:Fun K n q st f fd) (S:gJ N ps (gA st)) (hbody:∀(cdv:Zz) (A:Zw) (outer:List Env) (s:Zy) (H:Hp) (vs:List V) (Q:VK) (E:XK),mC k (A.deeper (PyProof.Rows.envOfC q (gA st) s.heap.objs.size f cdv))->sp vs H Q E->∃t,PSs (B8 CX0 P w K mg base N q (gA st) f cdv A outer s H E).nox (jr st) t/\t {nx:=fun _ H'=>Q .non H',rt:=Q} (start N vs) H) (len:∀vs H Q E,sp vs H Q E->vs.length=ps.length:=by intro _ _ _ _ h;repeat(first|(obtain⟨rfl,_⟩:=h;rfl)|(cases h;first|(subst_vars;rfl)|rename_i h))):rN P w K mg base CX0 (k+ 1) f fd ps sp:=F.ok S len hbody
section
variable {X:Cx}
def pF {e:Zr} {es:List Zr} {p:Pos} {k:Nat} {sp:Sp} {t:TA} (x:Fx X.K X.mg n st ps) (F:rN X.prog X.w X.K X.mg X.base CX0 k x.a x.fd ps sp) (hr:mC k X.A) (ha:PA X (e::es) t) (hg:Gl X n:=by exact rfl) (hdb:autoParam ((n==("__debug__":Str))=false) L2.Internal.auD._auto_1) (he:autoParam (IQ (e::es) X.env=(false,eval e X.env)::IQ es X.env) L2.Internal.auR._auto_1) (hpl:autoParam ((Jo pos (IQ es X.env)).any (·.1)=false) L2.Internal.auR._auto_1):PE X (.Call (.Name n p) (e::es) [] pos) (qJ sp [] E0 t):=yO F hr hg x.m x.k x.b .nil ie ha hdb he hpl
def pS {i:Nat} {x:Str} {e:Zr} {te:TE} {pos':Pos} (hN:X.N.Nodup) (he:PE X e te) (hi:autoParam (X.N[i]?=some x) L2.Internal.auR._auto_1) (hx:Loc X.env.scope x:=by first|exact .inl rfl|exact .inr rfl) (hs:autoParam (swapsWith e (some (.Name x pos')) pos.line X.env=pure false) L2.Internal.auR._auto_1) (hf:autoParam (X.fn x=true\/X.env.scope.names.lookup x=some .local) L2.Internal.auL._auto_1):PS X (.Assign [.Name x pos'] e pos) (AU te (gX i)):=E3 hN hi hx he hs hf
def pN {i:Nat} {x:Str} (hN:X.N.Nodup) (hi:autoParam (X.N[i]?=some x) L2.Internal.auR._auto_1) (hx:Loc X.env.scope x:=by first|exact .inl rfl|exact .inr rfl) (hf:autoParam (X.fn x=true\/X.env.scope.names.lookup x=some .local) L2.Internal.auL._auto_1):PG X (.Name x pos) (gX i):=vy hN hi hx hf
def CI {x:Str} (ns:Zd) (cap:List (Str×Nat×Zx)) (hns:autoParam (cap.map (·.1)=ns) L2.Internal.auR._auto_1) (hk:autoParam (scope.kind= .function) L2.Internal.auR._auto_1) (hn:∀p∈scope.names,p.2≠ .cell/\(p.2= .free->p.1∈ns):=by decide+kernel) (hl:∀y∈scope.names,y.2= .local->scope.names.lookup y.1=some .local:=by decide+kernel)
  (hx:autoParam (scope.names.lookup x=some .local) L2.Internal.auR._auto_1) (hnd:(x::ns).Nodup:=by decide+kernel) (hc:autoParam (J0 scope X.env=pure (cap.map fun p=>(p.1,p.2.2))) L2.Internal.auR._auto_1) (hok:autoParam (X.env.scope.kind= .function) L2.Internal.auR._auto_1)
  (h:∀p∈cap,scope.names.lookup p.1=some .free/\X.env.cells.lookup p.1=some p.2.2/\X.env.scope.names.lookup p.1=some .cell/\X.N[p.2.1]?=some p.1:=by repeat(first|refine cb.mpr ⟨⟨rfl,rfl,rfl,rfl⟩,?_⟩|exact fun _ h=>absurd h bo)):
  qN X (x::ns) scope (cap.map fun p=>(p.1,p.2.2)) (fun σ=>none::cap.map fun p=>σ.getD p.2.1 none) 0 x:=blkC ns cap hns hk hn hl hx hnd hc hok h
def HD {x y:Str} (ns:Zd) (cap:List (Str×Nat×Zx)) (hns:autoParam (cap.map (·.1)=ns) L2.Internal.auR._auto_1) (hk:autoParam (scope.kind= .function) L2.Internal.auR._auto_1) (hn:∀p∈scope.names,p.2≠ .cell/\(p.2= .free->p.1∈ns):=by decide+kernel) (hl:∀y∈scope.names,y.2= .local->scope.names.lookup y.1=some .local:=by decide+kernel)
  (hx:autoParam (scope.names.lookup x=some .local) L2.Internal.auR._auto_1) (hnd:(x::y::ns).Nodup:=by decide+kernel) (hc:autoParam (J0 scope X.env=pure (cap.map fun p=>(p.1,p.2.2))) L2.Internal.auR._auto_1) (hok:autoParam (X.env.scope.kind= .function) L2.Internal.auR._auto_1)
  (h:∀p∈cap,scope.names.lookup p.1=some .free/\X.env.cells.lookup p.1=some p.2.2/\X.env.scope.names.lookup p.1=some .cell/\X.N[p.2.1]?=some p.1:=by repeat(first|refine cb.mpr ⟨⟨rfl,rfl,rfl,rfl⟩,?_⟩|exact fun _ h=>absurd h bo)):
  qN X (x::y::ns) scope (cap.map fun p=>(p.1,p.2.2)) (fun σ=>none::none::cap.map fun p=>σ.getD p.2.1 none) 0 x:=Hy ns cap hns hk hn hl hx hnd hc hok h
def pgP{c:Zd} (h:X.calm=true) (e:(x::y::c).Nodup) (g:scope.names.lookup x=some .local) (f:scope.names.lookup y=some .local) (C:Zx) (a:Zy) (b:Hp) (ex:List Zx) (d:Za):PG (blk X (x::y::c) scope cl C a b ex d) (.Tuple [.Name x px,.Name y py] kk tp) (Dw X.K 2 (pq (gX 0) (pq (gX 1) Dv))):=
 wx (n:=2) (X:=blk X (x::y::c) scope cl C a b ex d) h (kY (vy (X:=blk X (x::y::c) scope cl C a b ex d) (i:=0) e rfl (.inl (Jp g)) (.inr (Jp g))) (kY (vy (X:=blk X (x::y::c) scope cl C a b ex d) (i:=1) e rfl (.inl (Jp f)) (.inr (Jp f))) tm))
end
end K22.Internal
namespace K22.Internal
variable {H H2 H1 H':Hp} {v:V} {dx h hd sd t CL CP t1 t2 st t3:Zx} {o:HO} {xs ys hs:List V} {Q:VK} {q j pp pw sn lo:Nat} {roots ps:List Nat} {ρ:Ro} {ρs:List Ro} {names wl:Zd} {σ:St} {y:Str}
open PySem L2.Internal BO.Internal KK.Internal
seal L2.Internal.PE L2.Internal.PA L2.Internal.PS L2.Internal.PSs L2.Internal.PT L2.Internal.PI
def kr(s:gT H H2) (h:H l=none) (o:HO):gT H (upd H2 l o):=fun b u e=>by rw[gx (gD e h)];exact s b u e
def HE (a p s:V):kh "slot" s (kh "place" p (kh "at" a []))=fU a p s:=by have d:¬("at":Str)="place":=gG;have c:¬("at":Str)="slot":=gG;have b:¬("place":Str)="slot":=gG;simp only[kh,gU d,gU c,gU b,fU]
def zO (n:Str) (a p s x:V) (d:¬("at":Str)=n) (c:¬("place":Str)=n) (b:¬("slot":Str)=n):kh n x (fU a p s)=fU1 n a p s x:=by simp only[kh,fU,gU d,gU c,gU b,fU1]
def FJ (a p s x y:V):kh "out" y (kh "arg" x (fU a p s))=fU2 a p s x y:=by have h:¬("at":Str)="arg":=gG;have g:¬("place":Str)="arg":=gG;have f:¬("slot":Str)="arg":=gG;have e:¬("at":Str)="out":=gG;have d:¬("place":Str)="out":=gG;have c:¬("slot":Str)="out":=gG;have b:¬("arg":Str)="out":=gG;simp only[kh,fU,gU h,gU g,gU f,gU e,gU d,gU c,gU b,fU2]
def HF (s f a p:V):kh "place" p (kh "at" a (kh "parts" f (kh "shape" s [])))=fM s f a p:=by have h:¬("shape":Str)="parts":=gG;have g:¬("shape":Str)="at":=gG;have e:¬("shape":Str)="place":=gG;have d:¬("parts":Str)="at":=gG;have c:¬("parts":Str)="place":=gG;have b:¬("at":Str)="place":=gG;simp only[kh,gU h,gU g,gU e,gU d,gU c,gU b,fM]
def ju(h:fs.length<n):(kh f v fs).length<n+ 1:=Nat.lt_of_le_of_lt (nv f v fs) (Nat.succ_lt_succ h)
def HG (a p s:V):(fU a p s).lookup ("at":Str)=some (a):=by kernel_rfl
def Bv (a p s:V):(fU a p s).lookup ("place":Str)=some (p):=by kernel_rfl
def DZ (a p s:V):(fU a p s).lookup ("slot":Str)=some (s):=by kernel_rfl
def yd (a p s:V):(fU a p s).lookup ("told":Str)=none:=by kernel_rfl
def FN (a p s x y:V):(fU2 a p s x y).lookup ("at":Str)=some (a):=by kernel_rfl
def zP (a p s x y:V):(fU2 a p s x y).lookup ("place":Str)=some (p):=by kernel_rfl
def Bx (a p s x y:V):(fU2 a p s x y).lookup ("slot":Str)=some (s):=by kernel_rfl
def D0 (a p s x y:V):(fU2 a p s x y).lookup ("arg":Str)=some (x):=by kernel_rfl
def D4 (a p s x y:V):(fU2 a p s x y).lookup ("out":Str)=some (y):=by kernel_rfl
def vQ (a p s x y:V):(fU2 a p s x y).lookup ("told":Str)=none:=by kernel_rfl
def By (s f a p:V):(fM s f a p).lookup ("shape":Str)=some (s):=by kernel_rfl
def Bz (s f a p:V):(fM s f a p).lookup ("parts":Str)=some (f):=by kernel_rfl
def HH (s f a p:V):(fM s f a p).lookup ("at":Str)=some (a):=by kernel_rfl
def BA (s f a p:V):(fM s f a p).lookup ("place":Str)=some (p):=by kernel_rfl
def ye (s f a p:V):(fM s f a p).lookup ("told":Str)=none:=by kernel_rfl
def rn (p0 c b a:Zx) (r:V):(fB p0 c b a r).lookup ("points":Str)=some (.ref p0):=by kernel_rfl
def tT (p0 a c b:Zx) (r:V):(fB p0 a c b r).lookup ("makes":Str)=some (.ref a):=by kernel_rfl
def vR (p0 c a b:Zx) (r:V):(fB p0 c a b r).lookup ("uses":Str)=some (.ref a):=by kernel_rfl
def xg (p0 c b a:Zx) (r:V):(fB p0 c b a r).lookup ("flows":Str)=some (.ref a):=by kernel_rfl
def D5 (p0 c b a:Zx) (r:V):(fB p0 c b a r).lookup ("root":Str)=some (r):=by kernel_rfl
def jv (p0 p1 p2 p3:Zx) (r:V):(fB p0 p1 p2 p3 r).lookup ("point":Str)=none:=by kernel_rfl
def je (p0 c b a:Zx) (r:V):(fB p0 c b a r).lookup ("make":Str)=none:=by kernel_rfl
def jG (p0 c b a:Zx) (r:V):(fB p0 c b a r).lookup ("use":Str)=none:=by kernel_rfl
def kI (p0 c b a:Zx) (r:V):(fB p0 c b a r).lookup ("flow":Str)=none:=by kernel_rfl
def uV (p0 c b a:Zx) (r:V):(fB p0 c b a r).lookup ("rooted":Str)=none:=by kernel_rfl
def D7 (a p s x:V):(fU1 "fields" a p s x).lookup ("at":Str)=some (a):=by kernel_rfl
def yf (a p s x:V):(fU1 "fields" a p s x).lookup ("place":Str)=some (p):=by kernel_rfl
def zQ (a p s x:V):(fU1 "fields" a p s x).lookup ("slot":Str)=some (s):=by kernel_rfl
def vS (a p s x:V):(fU1 "fields" a p s x).lookup ("fields":Str)=some (x):=by kernel_rfl
def uW (a p s x:V):(fU1 "fields" a p s x).lookup ("told":Str)=none:=by kernel_rfl
def D8 (a p s x:V):(fU1 "arms" a p s x).lookup ("at":Str)=some (a):=by kernel_rfl
def yg (a p s x:V):(fU1 "arms" a p s x).lookup ("place":Str)=some (p):=by kernel_rfl
def zR (a p s x:V):(fU1 "arms" a p s x).lookup ("slot":Str)=some (s):=by kernel_rfl
def zS (a p s x:V):(fU1 "arms" a p s x).lookup ("arms":Str)=some (x):=by kernel_rfl
def uX (a p s x:V):(fU1 "arms" a p s x).lookup ("told":Str)=none:=by kernel_rfl
def Ea (a p s x:V):(fU1 "out" a p s x).lookup ("at":Str)=some (a):=by kernel_rfl
def yh (a p s x:V):(fU1 "out" a p s x).lookup ("place":Str)=some (p):=by kernel_rfl
def zT (a p s x:V):(fU1 "out" a p s x).lookup ("slot":Str)=some (s):=by kernel_rfl
def BB (a p s x:V):(fU1 "out" a p s x).lookup ("out":Str)=some (x):=by kernel_rfl
def uY (a p s x:V):(fU1 "out" a p s x).lookup ("told":Str)=none:=by kernel_rfl
def rp (K:Zp):Sp:=fun c H Q _=>∃(x C b:Zx) (a p s:V),c=[.ref x,a,p,s]/\H x=some (.ins C b [])/\Cls K C/\ig K C "at"/\ig K C "place"/\ig K C "slot"/\Q .non (upd H x (.ins C b (fU a p s)))
def jg (T:Txt K mg):MO P w base mg 1 T.e52 (rp K):=by
 refine T.e52.F.rd rg fun _ A _ s H vs Q E hr h=>?_;refine eaL h fun x C dx a p sl=>fam fun z0 hx cl n1 n2 n3 q=>?_;subst z0;refine HzX ?_;intro _;refine io _ ((gq (i8 (pv 0) (pv 1) rfl)
  (gq (i8 (pv 0) (pv 2) rfl)
  (gw (i8 (pv 0) (pv 3) rfl))))) ?_;refine Hz2 ?_;intros;refine ial _ rfl _ rfl x C dx ([]) rfl hx cl n1 (by show 0<1000;decide) ?_;refine ial _ rfl _ rfl x C dx _ rfl gm cl n2 (by show 1<1000;decide) ?_;refine ial _ rfl _ rfl x C dx _ rfl gm cl n3 (ju (ju (by show 0<998;decide))) ?_;rw[iJ,iJ,HE];exact q
def om (C:Zx):Sp:=fun c H Q _=>∃(x b:Zx) (a p s y z:V),c=[.ref x,a,p,s,y,z]/\H x=some (.ins C b [])/\Q .non (upd H x (.ins C b (fU2 a p s y z)))
def oq (T:Txt K mg):MO P w base mg 2 T.e54 (om T.c4.a):=by
 refine T.e54.F.rd oa fun _ A _ s H g Q E f h=>?_;refine eaM h fun x b a p d y z=>fab fun c e q=>?_;subst c;refine HzX ?_;intro _;refine io _ ((gq (gS (tF (y4 rfl T.c2.m) T.cm52 (jg T) f.m T.e52.b .nil ie (gk (pv 0) (gk (pv 1) (gk (pv 2) (gk (pv 3) gn))))))
  (gq (i8 (pv 0) (pv 4) rfl)
  (gw (i8 (pv 0) (pv 5) rfl))))) ?_;refine Hz2 ?_;intros;refine⟨_,rfl,_,rfl,_,rfl,_,rfl,x,_,b,a,p,d,rfl,e,T.c4.cl,T.n4at,T.n4place,T.n4slot,?_⟩;refine ial _ rfl _ rfl x _ b _ rfl gm T.c4.cl T.n4arg (by show 3<1000;decide) ?_;refine ial _ rfl _ rfl x _ b _ rfl gm T.c4.cl T.n4out (ju (by show 3<999;decide)) ?_;rw[iJ,iJ,FJ];exact q
def Eb (C:Zx) (n:Str):Sp:=fun c H Q _=>∃(x b:Zx) (a p s y:V),c=[.ref x,a,p,s,y]/\H x=some (.ins C b [])/\Q .non (upd H x (.ins C b (fU1 n a p s y)))
def ot (T:Txt K mg):MO P w base mg 2 T.e56 (Eb T.c5.a "fields"):=by
 refine T.e56.F.rd oh fun _ A _ s H g Q E f h=>?_;refine eat h fun x c a p b y d e q=>?_;subst d;refine HzX ?_;intro _;refine io _ ((gq (gS (tF (y4 rfl T.c2.m) T.cm52 (jg T) f.m T.e52.b .nil ie (gk (pv 0) (gk (pv 1) (gk (pv 2) (gk (pv 3) gn))))))
  (gw (i8 (pv 0) (pv 4) rfl)))) ?_;refine⟨_,rfl,_,rfl,_,rfl,_,rfl,x,_,c,a,p,b,rfl,e,T.c5.cl,T.n5at,T.n5place,T.n5slot,?_⟩;refine ial _ rfl _ rfl x _ c _ rfl gm T.c5.cl T.n5fields (by show 3<1000;decide) ?_;rw[iJ,zO "fields" a p b y gG gG gG];exact q
def ou (T:Txt K mg):MO P w base mg 2 T.e58 (Eb T.c6.a "arms"):=by
 refine T.e58.F.rd oi fun _ A _ s H g Q E f h=>?_;refine eat h fun x c a p b y d e q=>?_;subst d;refine HzX ?_;intro _;refine io _ ((gq (gS (tF (y4 rfl T.c2.m) T.cm52 (jg T) f.m T.e52.b .nil ie (gk (pv 0) (gk (pv 1) (gk (pv 2) (gk (pv 3) gn))))))
  (gw (i8 (pv 0) (pv 4) rfl)))) ?_;refine⟨_,rfl,_,rfl,_,rfl,_,rfl,x,_,c,a,p,b,rfl,e,T.c6.cl,T.n6at,T.n6place,T.n6slot,?_⟩;refine ial _ rfl _ rfl x _ c _ rfl gm T.c6.cl T.n6arms (by show 3<1000;decide) ?_;rw[iJ,zO "arms" a p b y gG gG gG];exact q
def ka (T:Txt K mg):MO P w base mg 2 T.e60 (Eb T.c7.a "out"):=by
 refine T.e60.F.rd oO fun _ A _ s H g Q E f h=>?_;refine eat h fun x c a p b y d e q=>?_;subst d;refine HzX ?_;intro _;refine io _ ((gq (gS (tF (y4 rfl T.c2.m) T.cm52 (jg T) f.m T.e52.b .nil ie (gk (pv 0) (gk (pv 1) (gk (pv 2) (gk (pv 3) gn))))))
  (gw (i8 (pv 0) (pv 4) rfl)))) ?_;refine⟨_,rfl,_,rfl,_,rfl,_,rfl,x,_,c,a,p,b,rfl,e,T.c7.cl,T.n7at,T.n7place,T.n7slot,?_⟩;refine ial _ rfl _ rfl x _ c _ rfl gm T.c7.cl T.n7out (by show 3<1000;decide) ?_;rw[iJ,zO "out" a p b y gG gG gG];exact q
def ql (C:Zx):Sp:=fun c H Q _=>∃(x b:Zx) (s f a p:V),c=[.ref x,s,f,a,p]/\H x=some (.ins C b [])/\Q .non (upd H x (.ins C b (fM s f a p)))
def qm (T:Txt K mg):MO P w base mg 1 T.e50 (ql T.c1.a):=by
 refine T.e50.F.rd qk fun _ A _ s H e Q E i h=>?_;refine eat h fun x b g f a p c d q=>?_;subst c;refine HzX ?_;intro _;refine io _ ((gq (i8 (pv 0) (pv 1) rfl)
  (gq (i8 (pv 0) (pv 2) rfl)
  (gq (i8 (pv 0) (pv 3) rfl)
  (gw (i8 (pv 0) (pv 4) rfl)))))) ?_;refine Hz3 ?_;intros;refine ial _ rfl _ rfl x _ b ([]) rfl d T.c1.cl T.n1shape (by show 0<1000;decide) ?_;refine ial _ rfl _ rfl x _ b _ rfl gm T.c1.cl T.n1parts (by show 1<1000;decide) ?_;refine ial _ rfl _ rfl x _ b _ rfl gm T.c1.cl T.n1at (ju (ju (by show 0<998;decide))) ?_;refine ial _ rfl _ rfl x _ b _ rfl gm T.c1.cl T.n1place (ju (ju (ju (by show 0<997;decide)))) ?_;rw[iJ,iJ,iJ,HF];exact q
def uZ (C:Zx):Sp:=fun e H Q _=>∃(x f:Zx) (a c d b:V),e=[.ref x]/\H x=some (.ins C f (fM a c d b))/\∀t,H t=none->Q (.ref t) (upd H t (.tup [a,c,d,b]))
def u3 (T:Txt K mg):MO P w base mg 1 T.e51 (uZ T.c1.a):=by refine T.e51.F.rd uT fun _ A _ s H e Q E i h=>?_;refine eat h fun x b f j k g c a q=>?_;subst c;refine io _ ((gw (gM (gK (gk (iS (pv 0) rfl) (gk (iS (pv 0) rfl) (gk (iS (pv 0) rfl) (gk (iS (pv 0) rfl) gn)))))))) ?_;exact⟨_,rfl,x,_,b,_,_,rfl,a,T.c1.cl,T.n1shape,By _ _ _ _,_,rfl,x,_,b,_,_,rfl,a,T.c1.cl,T.n1parts,Bz _ _ _ _,_,rfl,x,_,b,_,_,rfl,a,T.c1.cl,T.n1at,HH _ _ _ _,_,rfl,x,_,b,_,_,rfl,a,T.c1.cl,T.n1place,BA _ _ _ _,ui,fun t d=>q t d⟩
def rY (C:Zx):Sp:=fun d H Q _=>∃(x e:Zx) (c b a:V),d=[.ref x]/\H x=some (.ins C e (fU c b a))/\∀t,H t=none->Q (.ref t) (upd H t (.tup [.str "num",c,b,a]))
def rZ (T:Txt K mg):MO P w base mg 1 T.e53 (rY T.c3.a):=by refine T.e53.F.rd rV fun _ A _ s H e Q E i h=>?_;refine eaG h fun x b j g f=>fab fun c a q=>?_;subst c;refine io _ ((gw (gM (gK (gk gE (gk (iS (pv 0) rfl) (gk (iS (pv 0) rfl) (gk (iS (pv 0) rfl) gn)))))))) ?_;exact⟨_,rfl,x,_,b,_,_,rfl,a,T.c3.cl,T.n3at,HG _ _ _,_,rfl,x,_,b,_,_,rfl,a,T.c3.cl,T.n3place,Bv _ _ _,_,rfl,x,_,b,_,_,rfl,a,T.c3.cl,T.n3slot,DZ _ _ _,ui,fun t d=>q t d⟩
def rq (C:Zx):Sp:=fun f H Q _=>∃(x g:Zx) (e d c b a:V),f=[.ref x]/\H x=some (.ins C g (fU2 e d c b a))/\∀t,H t=none->Q (.ref t) (upd H t (.tup [.str "call",e,d,c,b,a]))
def rA (T:Txt K mg):MO P w base mg 1 T.e55 (rq T.c4.a):=by refine T.e55.F.rd rh fun _ A _ s H g Q E k h=>?_;refine eaM h fun x b l j i f e=>fab fun c a q=>?_;subst c;refine io _ ((gw (gM (gK (gk gE (gk (iS (pv 0) rfl) (gk (iS (pv 0) rfl) (gk (iS (pv 0) rfl) (gk (iS (pv 0) rfl) (gk (iS (pv 0) rfl) gn)))))))))) ?_;exact⟨_,rfl,x,_,b,_,_,rfl,a,T.c4.cl,T.n4at,FN _ _ _ _ _,_,rfl,x,_,b,_,_,rfl,a,T.c4.cl,T.n4place,zP _ _ _ _ _,_,rfl,x,_,b,_,_,rfl,a,T.c4.cl,T.n4slot,Bx _ _ _ _ _,_,rfl,x,_,b,_,_,rfl,a,T.c4.cl,T.n4arg,D0 _ _ _ _ _,_,rfl,x,_,b,_,_,rfl,a,T.c4.cl,T.n4out,D4 _ _ _ _ _,GL,fun t d=>q t d⟩
def rB (C:Zx):Sp:=fun vs H Q _=>∃(x dx:Zx) (a1 p1 s1 x1:V),vs=[.ref x]/\H x=some (.ins C dx (fU1 "fields" a1 p1 s1 x1))/\∀t,H t=none->Q (.ref t) (upd H t (.tup [.str "take",a1,p1,s1,x1]))
def rC (T:Txt K mg):MO P w base mg 1 T.e57 (rB T.c5.a):=by refine T.e57.F.rd rj fun _ A _ s H vs Q E hr h=>?_;refine eat h fun x dx a1 p1 s1 x1 z0 hx q=>?_;subst z0;refine io _ ((gw (gM (gK (gk gE (gk (iS (pv 0) rfl) (gk (iS (pv 0) rfl) (gk (iS (pv 0) rfl) (gk (iS (pv 0) rfl) gn))))))))) ?_;exact⟨_,rfl,x,_,dx,_,_,rfl,hx,T.c5.cl,T.n5at,D7 _ _ _ _,_,rfl,x,_,dx,_,_,rfl,hx,T.c5.cl,T.n5place,yf _ _ _ _,_,rfl,x,_,dx,_,_,rfl,hx,T.c5.cl,T.n5slot,zQ _ _ _ _,_,rfl,x,_,dx,_,_,rfl,hx,T.c5.cl,T.n5fields,vS _ _ _ _,AS,fun t ht=>q t ht⟩
def rE (C:Zx):Sp:=fun e H Q _=>∃(x f:Zx) (d c b a:V),e=[.ref x]/\H x=some (.ins C f (fU1 "arms" d c b a))/\∀t,H t=none->Q (.ref t) (upd H t (.tup [.str "case",d,c,b,a]))
def rF (T:Txt K mg):MO P w base mg 1 T.e59 (rE T.c6.a):=by refine T.e59.F.rd rk fun _ A _ s H f Q E j h=>?_;refine eat h fun x b k i g e c a q=>?_;subst c;refine io _ ((gw (gM (gK (gk gE (gk (iS (pv 0) rfl) (gk (iS (pv 0) rfl) (gk (iS (pv 0) rfl) (gk (iS (pv 0) rfl) gn))))))))) ?_;exact⟨_,rfl,x,_,b,_,_,rfl,a,T.c6.cl,T.n6at,D8 _ _ _ _,_,rfl,x,_,b,_,_,rfl,a,T.c6.cl,T.n6place,yg _ _ _ _,_,rfl,x,_,b,_,_,rfl,a,T.c6.cl,T.n6slot,zR _ _ _ _,_,rfl,x,_,b,_,_,rfl,a,T.c6.cl,T.n6arms,zS _ _ _ _,AS,fun t d=>q t d⟩
def r6 (C:Zx):Sp:=fun vs H Q _=>∃(x dx:Zx) (a1 p1 s1 x1:V),vs=[.ref x]/\H x=some (.ins C dx (fU1 "out" a1 p1 s1 x1))/\∀t,H t=none->Q (.ref t) (upd H t (.tup [.str "row",a1,p1,s1,x1]))
def r8 (T:Txt K mg):MO P w base mg 1 T.e61 (r6 T.c7.a):=by refine T.e61.F.rd rW fun _ A _ s H f Q E j h=>?_;refine eat h fun x b k i g e c a q=>?_;subst c;refine io _ ((gw (gM (gK (gk gE (gk (iS (pv 0) rfl) (gk (iS (pv 0) rfl) (gk (iS (pv 0) rfl) (gk (iS (pv 0) rfl) gn))))))))) ?_;exact⟨_,rfl,x,_,b,_,_,rfl,a,T.c7.cl,T.n7at,Ea _ _ _ _,_,rfl,x,_,b,_,_,rfl,a,T.c7.cl,T.n7place,yh _ _ _ _,_,rfl,x,_,b,_,_,rfl,a,T.c7.cl,T.n7slot,zT _ _ _ _,_,rfl,x,_,b,_,_,rfl,a,T.c7.cl,T.n7out,BB _ _ _ _,AS,fun t d=>q t d⟩
def ke(a:H x=none) (c:H dx=none):gT H (upd (upd H dx (.own x)) x o):=fun b u e=>by rw[gx (gD e a),gx (gD e c)];exact e
def BC (p0 c b a:Zx) (r v:V):kh "root" v (fB p0 c b a r)=fB p0 c b a v:=by have g:¬("points":Str)="root":=gG;have f:¬("makes":Str)="root":=gG;have e:¬("uses":Str)="root":=gG;have d:¬("flows":Str)="root":=gG;simp only[kh,fB,gU g,gU f,gU e,gU d,ip]
def HI (p0 d c b:Zx) (r:V):kh "root" r (kh "flows" (.ref b) (kh "uses" (.ref c) (kh "makes" (.ref d) (kh "points" (.ref p0) []))))=fB p0 d c b r:=by have m:¬("points":Str)="root":=gG;have l:¬("makes":Str)="root":=gG;have k:¬("uses":Str)="root":=gG;have j:¬("flows":Str)="root":=gG;have i:¬("points":Str)="flows":=gG;have h:¬("makes":Str)="flows":=gG;have g:¬("uses":Str)="flows":=gG;have f:¬("points":Str)="uses":=gG;have e:¬("makes":Str)="uses":=gG;have a:¬("points":Str)="makes":=gG;simp only[kh,fB,gU m,gU l,gU k,gU j,gU i,gU h,gU g,gU f,gU e,gU a]
def pV (C:Zx):Sp:=fun i H Q _=>∃(x h:Zx),i=[.ref x]/\H x=some (.ins C h [])/\∀(f e d c:Zx) (g:Hp),(∀a∈[f,e,d,c],H a=none)->[f,e,d,c].Nodup->g x=some (.ins C h (fB f e d c (.int 0)))->Ls g [f,e,d,c] [[],[],[],[]]->(∀b o,H b=some o->b≠x->g b=some o)->Q .non g
def pX (T:Txt K mg):MO P w base mg 1 T.e62 (pV T.c8.a):=by
 refine T.e62.F.rd pU fun _ A _ s H L Q E M h=>?_;refine eal h fun x F n G q=>?_;subst n;refine HzX ?_;intro _;refine io _ ((gq (i8 (pv 0) (gN gn) rfl)
  (gq (i8 (pv 0) (gN gn) rfl)
  (gq (i8 (pv 0) (gN gn) rfl)
  (gq (i8 (pv 0) (gN gn) rfl)
  (gw (i8 (pv 0) gu rfl))))))) ?_;refine Hz4 ?_;intros;have n:(0:Nat)<=sizeLine:=by decide
 refine⟨n,fun y I=>⟨_,rfl,x,_,F,_,rfl,(by rw[gx (gD G I)];exact G),T.c8.cl,T.n8points,(by show 0<1000;decide),?_⟩⟩;refine⟨n,fun v D=>⟨_,rfl,x,_,F,_,rfl,(by rw[gx (gD gm D)];exact gm),T.c8.cl,T.n8makes,(by show 1<1000;decide),?_⟩⟩;refine⟨n,fun u r=>⟨_,rfl,x,_,F,_,rfl,(by rw[gx (gD gm r)];exact gm),T.c8.cl,T.n8uses,ju (ju (by show 0<998;decide)),?_⟩⟩;refine⟨n,fun t j=>⟨_,rfl,x,_,F,_,rfl,(by rw[gx (gD gm j)];exact gm),T.c8.cl,T.n8flows,ju (ju (ju (by show 0<997;decide))),?_⟩⟩;refine⟨_,rfl,x,_,F,_,rfl,gm,T.c8.cl,T.n8root,ju (ju (ju (ju (by show 0<996;decide)))),?_⟩;have c:x≠y:=gD G I;have i:x≠v:=gD gm D;have p:x≠u:=gD gm r;have B:x≠t:=gD gm j;have d:y≠v:=gD (by rw[gx (IU c)];exact gm) D;have g:y≠u:=gD (by rw[gx (IU c),gx d,gx (IU c)];exact gm) r;have f:v≠u:=gD (by rw[gx (IU i)];exact gm) r;have m:y≠t:=gD (by rw[gx (IU c),gx g,gx (IU c),gx d,gx (IU c)];exact gm) j;have l:v≠t:=gD (by rw[gx (IU i),gx f,gx (IU i)];exact gm) j;have k:u≠t:=gD (by rw[gx (IU p)];exact gm) j;rw[gx (IU i),gx (IU d)]at D;rw[gx (IU p),gx (IU f),gx (IU p),gx (IU g)]at r;rw[gx (IU B),gx (IU k),gx (IU B),gx (IU l),gx (IU B),gx (IU m)]at j;refine q y v u t _ ?_ ?_ ?_ ?_ ?_;·intro a J;simp only[aj,bo,or_false]at J;rcases J with e|e|e|e<;>rw[e]<;>assumption
 ·simp only[aE,aj,bo,or_false,not_or];exact⟨⟨d,g,m⟩,⟨f,l⟩,k,fun z=>z,List.nodup_nil⟩
 ·rw[gm,HI]
 ·refine .cons ?_ (.cons ?_ (.cons ?_ (.cons ?_ .nil)));·rw[gx (IU c),gx (IU c),gx m,gx (IU c),gx g,gx (IU c),gx d,gx (IU c)];exact gm
  ·rw[gx (IU i),gx (IU i),gx l,gx (IU i),gx f,gx (IU i)];exact gm
  ·rw[gx (IU p),gx (IU p),gx k,gx (IU p)];exact gm
  ·rw[gx (IU B),gx (IU B)];exact gm
 ·intro b o e C;rw[gx C,gx C,gx (gD e j),gx C,gx (gD e r),gx C,gx (gD e D),gx C,gx (gD e I)];exact e
def lJ (C:Zx):Sp:=fun c H Q _=>∃(x g b f e d:Zx) (r v:V) (a:List V),c=[.ref x,v]/\H x=some (.ins C g (fB b f e d r))/\H b=some (.lst a)/\a.length<sizeLine/\Q (.int a.length) (upd H b (.lst (a++[v])))
def iP (T:Txt K mg):MO P w base mg 1 T.e63 (lJ T.c8.a):=by
 refine T.e63.F.rd rX fun _ A _ s H m Q E n h=>?_;refine eau h fun x f b k j i r v a g d e l q=>?_;subst g;refine HzX ?_;intro _;refine io _ ((gq (gS (lB ff fg fh iu (iS (pv 0) rfl) (gk (pv 1) gn)))
  (gw (gM (gY B4 (hV g9 rfl T.z_len jB (gk (iS (pv 0) rfl) gn)) gu))))) ?_;refine⟨_,rfl,x,_,f,_,_,rfl,d,T.c8.cl,T.n8points,rn _ _ _ _ _,.inl (iam rfl _ (J8 e)),_,rfl,b,_,_,rfl,rfl,e,l,?_⟩;have c:(upd H b (.lst (a++[v]))) x=some (.ins T.c8.a f (fB b k j i r)):=by rw[gx (jP d e (fun z=>nomatch z))];exact d
 refine⟨_,rfl,x,_,f,_,_,rfl,c,T.c8.cl,T.n8points,rn _ _ _ _ _,b,_,rfl,.inl (J8 gm),_,_,rfl,rfl,?_⟩;show Q (V.int (((a++[v]).length:Int)-1)) _;rw[aO,show(((a.length+[v].length:Nat):Int)-1)=(a.length:Int) by simp];exact q
def mx (C M:Zx):Sp:=fun e H Q _=>∃(x j i c h g:Zx) (r s f a p:V) (b:List V),e=[.ref x,s,f,a,p]/\H x=some (.ins C j (fB i c h g r))/\H c=some (.lst b)/\b.length<sizeLine/\∀m d,H m=none->H d=none->Q .non (upd (upd (upd H d (.own m)) m (.ins M d (fM s f a p))) c (.lst (b++[.ref m])))
def iO (T:Txt K mg):MO P w base mg 3 T.e64 (mx T.c8.a T.c1.a):=by refine T.e64.F.rd tQ fun _ A _ s H v Q E n h=>?_;refine eas h fun x u B d z y r k f a p j i l g o q=>?_;subst i;refine io _ ((gw (gS (lB ff fg fh iu (iS (pv 0) rfl) (gk (kl T.mk1 (qm T) n.m rfl T.c1.m T.e50.b .nil ie (gk (pv 1) (gk (pv 2) (gk (pv 3) (gk (pv 4) gn))))) gn))))) ?_;refine⟨_,rfl,x,_,u,_,_,rfl,l,T.c8.cl,T.n8makes,tT _ _ _ _ _,.inl (iam rfl _ (J8 g)),_,rfl,_,rfl,_,rfl,_,rfl,fun m c e b C=>?_⟩;refine iaw m c _ _ _ _ ⟨rfl,gm,rfl,?_⟩;rw[iJ];have t:(upd (upd H c (.own m)) m (.ins T.c1.a c (fM k f a p))) d=some (.lst j):=ke e b _ _ g;exact iah d _ _ rfl rfl t o (q m c e b)
def mS (C:Zx):Sp:=fun c H Q _=>∃(x g f e b d:Zx) (r v:V) (a:List V),c=[.ref x,v]/\H x=some (.ins C g (fB f e b d r))/\H b=some (.lst a)/\a.length<sizeLine/\Q .non (upd H b (.lst (a++[v])))
def jw (T:Txt K mg):MO P w base mg 1 T.e65 (mS T.c8.a):=by refine T.e65.F.rd uU fun _ A _ s H i Q E m h=>?_;refine eau h fun x f l k c j r v g b d a e q=>?_;subst b;refine io _ ((gw (gS (lB ff fg fh iu (iS (pv 0) rfl) (gk (pv 1) gn))))) ?_;exact⟨_,rfl,x,_,f,_,_,rfl,d,T.c8.cl,T.n8uses,vR _ _ _ _ _,.inl (iam rfl _ (J8 a)),_,rfl,c,_,_,rfl,rfl,a,e,q⟩
def oQ (C:Zx):Sp:=fun c H Q _=>∃(x g f e d b:Zx) (r v u:V) (a:List V),c=[.ref x,v,u]/\H x=some (.ins C g (fB f e d b r))/\H b=some (.lst a)/\a.length<sizeLine/\∀t,H t=none->Q .non (upd (upd H t (.tup [v,u])) b (.lst (a++[.ref t])))
def jz (T:Txt K mg):MO P w base mg 1 T.e66 (oQ T.c8.a):=by refine T.e66.F.rd tR fun _ A _ s H j Q E n h=>?_;refine eaN h fun x g m l k d r v u i=>fah fun c e b f q=>?_;subst c;refine io _ ((gw (gS (lB ff fg fh iu (iS (pv 0) rfl) (gk (gK (gk (pv 1) (gk (pv 2) gn))) gn))))) ?_;refine⟨_,rfl,x,_,g,_,_,rfl,e,T.c8.cl,T.n8flows,xg _ _ _ _ _,.inl (iam rfl _ (J8 b)),_,rfl,_,rfl,kB,fun t a=>?_⟩;exact iah d _ _ rfl rfl (gr a _ _ _ b) f (q t a)
def rG (C:Zx):Sp:=fun f H Q _=>∃(x e d c b a:Zx) (r v:V),f=[.ref x,v]/\H x=some (.ins C e (fB d c b a r))/\Q .non (upd H x (.ins C e (fB d c b a v)))
def rH (T:Txt K mg):MO P w base mg 1 T.e67 (rG T.c8.a):=by refine T.e67.F.rd rm fun _ A _ s H d Q E j h=>?_;refine eaO h fun x c i g f e r v=>fab fun a b q=>?_;subst a;refine io _ ((gw (i8 (pv 0) (pv 1) rfl))) ?_;refine ial _ rfl _ rfl x _ c _ rfl b T.c8.cl T.n8root (by show 5<1000;decide) ?_;rw[BC];exact q
abbrev Hm:=Str×Int
noncomputable def hmD (h:Hm):Dt:= .tup [.flat (.str h.1),.flat (.int h.2)]
inductive Ro
 |num (n:Int)
 |name (w:Str)
 |fn (w:Str) (k:Int)
 |tag (w:Str) (k:Int)
 |lt (w:Str) (a b:Int)
 |get (k:Int) (w:Str)
 |rcd (l:List (Str×Int))
 |case (k:Int) (l:List (Str×Str×Int))
 |row (ks:List Int)
 |op (s:Str) (ks:List Int)
noncomputable def kD (k:Int):Dt:= .flat (.int k)
noncomputable def sD (s:Str):Dt:= .flat (.str s)
noncomputable def fdD (p:Str×Int):Dt:= .tup [sD p.1,kD p.2]
noncomputable def amD (p:Str×Str×Int):Dt:= .tup [sD p.1,sD p.2.1,kD p.2.2]
noncomputable def Ro.s:Ro->Str
 | .num _=>"num"
 | .name _=>"name"
 | .fn _ _=>"fn"
 | .tag _ _=>"tag"
 | .lt _ _ _=>"let"
 | .get _ _=>"get"
 | .rcd _=>"rec"
 | .case _ _=>"case"
 | .row _=>"row"
 | .op s _=>s
noncomputable def Ro.r:Ro->List Dt
 | .num n=>[kD n]
 | .name w=>[sD w]
 | .fn w k=>[sD w,kD k]
 | .tag w k=>[sD w,kD k]
 | .lt w a b=>[sD w,kD a,kD b]
 | .get k w=>[kD k,sD w]
 | .rcd l=>[.tup (l.map fdD)]
 | .case k l=>[kD k,.tup (l.map amD)]
 | .row ks=>[.tup (ks.map kD)]
 | .op _ ks=>ks.map kD
noncomputable def Ro.d (ρ:Ro):Dt:= .tup (sD ρ.s::ρ.r)
def atZ {α:Type} (l:List α):Int->Option α
 | .ofNat k=>l[k]?
 | .negSucc _=>none
structure Ls where
 D:Bd
 held:Int->Option Int
 st:Int->Option Int
noncomputable def Ls.n (s:Ls):Int:=(s.D.pts.length:Int)
noncomputable def Ls.pt (s:Ls) (p:Int):Ls:={s with D:={s.D with pts:=s.D.pts++[p]}}
noncomputable def Ls.mk' (s:Ls) (m:Mkg):Ls:={s with D:={s.D with mks:=s.D.mks++[m]}}
noncomputable def Ls.us (s:Ls) (u:Us):Ls:={s with D:={s.D with uss:=s.D.uss++[u]}}
noncomputable def Ls.fl (s:Ls) (p q:Int):Ls:={s with D:={s.D with fls:=s.D.fls++[(p,q)]}}
noncomputable def put (h:Int->Option Int) (k v:Int):Int->Option Int:=fun x=>if x=k then some v else h x
noncomputable def Ls.hold (s:Ls) (k v:Int):Ls:={s with held:=put s.held k v}
noncomputable def Ls.begin (s:Ls) (k v:Int):Ls:={s with st:=put s.st k v}
abbrev Lf:=Int->Ls->Option (Int×Ls)
noncomputable def AX (L:Lf):List (Str×Int)->List (Str×Int)->Ls->Option (List (Str×Int)×Ls)
 |[],acc,s=>some (acc,s)
 |p::l,acc,s=>match L p.2 s with
  |some (q,s)=>AX L l (acc++[(p.1,q)]) s
  |none=>none
noncomputable def BD (L:Lf) (p own:Int):List (Str×Str×Int)->List (Str×Int)->Ls->Option (List (Str×Int)×Ls)
 |[],acc,s=>some (acc,s)
 |a::l,acc,s=>match L a.2.2 ((s.pt p).hold a.2.2 s.n)with
  |some (q,s')=>BD L p own l (acc++[(a.1,s.n)]) (s'.fl q own)
  |none=>none
noncomputable def CJ (L:Lf) (th:Int):List Int->Ls->Option Ls
 |[],s=>some s
 |k::l,s=>match L k s with
  |some (q,s)=>CJ L th l (s.fl q th)
  |none=>none
noncomputable def AY (L:Lf) (roots:List Nat) (d:Int) (s:Ls):Option (Int×Ls):=match atZ roots d with
 |some r=>match L (r:Int) ((s.pt r).begin d s.n)with
  |some (q,s')=>some (s.n,s'.fl q s.n)
  |none=>none
 |none=>none
noncomputable def inF (roots:List Nat) (p d:Int):Bool:=match atZ roots (d+ 1)with
 |some r=>decide (p<(r:Int))
 |none=>true
noncomputable def mU (L:Lf) (roots:List Nat) (h:Hm) (p:Int) (s:Ls):Option (Int×Ls):=
 if h.1="let" then L h.2 s
 else if h.1="def" then if inF roots p h.2 then(s.st h.2).map fun q=>(q,s)else AY L roots h.2 s
 else(s.held h.2).map fun q=>(q,s)
noncomputable def oR (L:Lf) (a b p:Int) (s:Ls):Option Ls:=match L a s with
 |some (x,s)=>match L b s with
  |some (y,s)=>some ((s.us (.num x p 0)).us (.num y p 1))
  |none=>none
 |none=>none
noncomputable def mkN (own p:Int):Mkg:=⟨"num",.tup [],own,p⟩
noncomputable def mkR (th own p:Int):Mkg:=⟨"row",.tup [kD th],own,p⟩
noncomputable def kX (L:Lf) (roots:List Nat) (ho:Option Hm) (p own:Int) (s:Ls):Ro->Option Ls
 | .num _=>some (s.mk' (mkN own p))
 | .name _=>match ho with
  |some h=>match mU L roots h p s with
   |some (q,s)=>some (s.fl q own)
   |none=>none
  |none=>none
 | .fn _ k=>match L k ((s.pt p).hold k s.n)with
  |some (q,d)=>some (d.mk' ⟨"fn",.tup [kD s.n,kD q],own,p⟩)
  |none=>none
 | .lt _ a b=>match L a s with
  |some (_,s)=>match L b s with
   |some (q,s)=>some (s.fl q own)
   |none=>none
  |none=>none
 | .rcd l=>match AX L l [] s with
  |some (fs,s)=>some (s.mk' ⟨"rec",prD fs,own,p⟩)
  |none=>none
 | .get k w=>match L k s with
  |some (q,s)=>some (s.us (.take q p 0 [(w,own)]))
  |none=>none
 | .tag w k=>match L k s with
  |some (q,s)=>some (s.mk' ⟨"tag",.tup [sD w,kD q],own,p⟩)
  |none=>none
 | .case k l=>match L k s with
  |some (q,s)=>match BD L p own l [] s with
   |some (as,s)=>some (s.us (.case q p 0 as))
   |none=>none
  |none=>none
 | .row ks=>match CJ L s.n ks (s.pt p)with
  |some d=>some (d.mk' (mkR s.n own p))
  |none=>none
 | .op o ks=>match ks with
  |[a]=>if o="size" then match L a (s.pt p)with
    |some (q,d)=>some ((d.us (.row q p 0 s.n)).mk' (mkN own p))
    |none=>none
   else none
  |[a,b]=>if o="call" then match L a s with
    |some (x,s)=>match L b s with
     |some (y,s)=>some (s.us (.call x p 0 y own))
     |none=>none
    |none=>none
   else if o="join" then match L a (s.pt p)with
    |some (x,s1)=>match L b s1 with
     |some (y,s2)=>some (((s2.us (.row x p 0 s.n)).us (.row y p 1 s.n)).mk' (mkR s.n own p))
     |none=>none
    |none=>none
   else if o="less" then match oR L a b p (s.pt p)with
    |some d=>some (((d.mk' ⟨"rec",.tup [],s.n,p⟩).mk' ⟨"tag",.tup [sD "yes",kD s.n],own,p⟩).mk' ⟨"tag",.tup [sD "no",kD s.n],own,p⟩)
    |none=>none
   else if o="add"\/o="sub" then match oR L a b p s with
    |some d=>some (d.mk' (mkN own p))
    |none=>none
   else none
  |[a,b,c]=>if o="at" then match L a s with
    |some (x,s)=>match L b s with
     |some (y,s)=>match L c s with
      |some (z,s)=>some (((s.us (.row x p 0 own)).us (.num y p 1)).fl z own)
      |none=>none
     |none=>none
    |none=>none
   else none
  |_=>none
noncomputable def ox (ρs:List Ro) (roots:List Nat) (ho:Nat->Option Hm):Nat->Lf
 |0,_,_=>none
 |f+ 1,p,s=>match atZ ρs p with
  |some ρ=>match kX (ox ρs roots ho f) roots (ho p.toNat) p s.n (s.pt p) ρ with
   |some s'=>some (s.n,s')
   |none=>none
  |none=>none
noncomputable def fLy (p h b c a:Zx):List (Str×V):=[("program",.ref p),("homes",.ref h),("papers",.non),("board",.ref b),("held",.ref c),("starts",.ref a)]
def pY:(fLy p h b hd sd).lookup ("program":Str)=some (.ref p)/\(fLy p h b hd sd).lookup ("homes":Str)=some (.ref h)/\(fLy p h b hd sd).lookup ("papers":Str)=some .non/\(fLy p h b hd sd).lookup ("board":Str)=some (.ref b)/\(fLy p h b hd sd).lookup ("held":Str)=some (.ref hd)/\(fLy p h b hd sd).lookup ("starts":Str)=some (.ref sd):=⟨by kernel_rfl,by kernel_rfl,by kernel_rfl,by kernel_rfl,by kernel_rfl,by kernel_rfl⟩
def jx(a:((["program","homes","papers","board","held","starts"]:Zd).all fun x=>!(n==x))=true):(fLy p h b hd sd).lookup n=none:=by simp only[aW,List.all_nil,Bool.and_true,fu,Bool.not_eq_true']at a;refine eai a fun i g f e d c=>?_;simp only[fLy,aZ,i,g,f,e,d,c,List.lookup_nil]
def DkI (H:Hp) (a:Zx) (g:Int->Option Int) (n:Nat):Prop:=∃b:List (Key×V),H a=some (.dK b)/\b.length<=n/\∀k:Int,k8 b (Jw k)=(g k).map V.int
structure La where
 l:Zx
 lx:Zx
 p:Zx
 h:Zx
 B:Ad
 hd:Zx
 sd:Zx
noncomputable def La.ch (A:La):List Zx:=A.B.ls++[A.hd,A.sd]
structure Lm (CL:Zx) (c:Cs) (H:Hp) (A:La) (s:Ls):Prop where
 o:H A.l=some (.ins CL A.lx (fLy A.p A.h A.B.b A.hd A.sd))
 b:Bw c H A.B (.int 0) s.D
 hd:DkI H A.hd s.held s.D.pts.length
 sd:DkI H A.sd s.st s.D.pts.length
 ne:A.hd≠A.sd
def FL (A:La) (H H':Hp):Prop:=∀a o,H a=some o->a∉A.ch->H' a=some o
def FL.refl {A:La}:FL A H H:=fun _ _ e _=>e
def FL.trans {A:La} (f:FL A H H1) (g:FL A H1 H2):FL A H H2:=fun a o e n=>g a o (f a o e n) n
def FL.same {A:La} (S:gT H H'):FL A H H':=fun a o e _=>S a o e
structure Sz (n:Nat) (s:Ls):Prop where
 p:s.D.pts.length<=n
 m:s.D.mks.length<=n
 u:s.D.uss.length<=n
 f:s.D.fls.length<=n
section
variable {CL:Zx} {c:Cs} {H H':Hp} {A:La} {s:Ls}
def Lm.ins (M:Lm CL c H A s) {a:Zx} {o:HO} (e:H a=some o) (d:∀h,o≠ .lst h) (g:∀f,o≠ .dK f):a∉A.ch:=fun z=>by
 obtain⟨_,b,⟨q,n,_⟩,⟨p,m,_⟩,_⟩:=M;obtain⟨_,l,⟨_,j,_⟩,⟨_,i,_⟩,⟨_,k,_⟩,_⟩:=b;simp only[La.ch,Ad.ls,aS,cc,aj,bo,or_false]at z;rcases z with rfl|rfl|rfl|rfl|rfl|rfl;·rw[l]at e;exact d _ (dj.inj e).symm
 ·rw[j]at e;exact d _ (dj.inj e).symm
 ·rw[i]at e;exact d _ (dj.inj e).symm
 ·rw[k]at e;exact d _ (dj.inj e).symm
 ·rw[n]at e;exact g _ (dj.inj e).symm
 ·rw[m]at e;exact g _ (dj.inj e).symm
def Lm.tk (M:Lm CL c H A s) (F:FL A H H'):TK H H':=fun a xs e=>F a _ e (M.ins e (fun _ z=>nomatch z) fun _ z=>nomatch z)
theorem Lm.same (M:Lm CL c H A s) (S:gT H H'):Lm CL c H' A s:=by obtain⟨o,b,⟨g,i,d⟩,⟨f,h,a⟩,e⟩:=M;exact⟨S _ _ o,b.same S,⟨g,S _ _ i,d⟩,⟨f,S _ _ h,a⟩,e⟩
def Lm.nl (M:Lm CL c H A s) {a:Zx} (e:H a=some (.lst xs)):(upd H a o) A.l=some (.ins CL A.lx (fLy A.p A.h A.B.b A.hd A.sd))/\(∃kvs,(upd H a o) A.hd=some (.dK kvs)/\kvs.length<=s.D.pts.length/\∀k:Int,k8 kvs (Jw k)=(s.held k).map V.int)/\∃kvs,(upd H a o) A.sd=some (.dK kvs)/\kvs.length<=s.D.pts.length/\∀k:Int,k8 kvs (Jw k)=(s.st k).map V.int:=by obtain⟨oo,b,⟨k1,d1,r1⟩,⟨k2,d2,r2⟩,ne⟩:=M;exact⟨by rw[gx (jP oo e (fun z=>nomatch z))];exact oo,⟨k1,by rw[gx (jP d1 e (fun z=>nomatch z))];exact d1,r1⟩,k2,by rw[gx (jP d2 e (fun z=>nomatch z))];exact d2,r2⟩
def yi(h:a∈A.ch):FL A H (upd H a o):=fun b u e n=>by rw[gx (fun z=>n (by rw[z];exact h))];exact e
def xh(M:Lm CL c H A s) (t:s.D.pts.length<10000000) (q:∀a,Lm CL c a A (s.pt p)->FL A H a->DkI a A.hd s.held s.D.pts.length->DkI a A.sd s.st s.D.pts.length->Q (.int s.n) a):lJ c.B [.ref A.B.b,.int p] H Q E0:=by
 have n:=IS;refine eaz (M.nl (o:= .lst (s.D.pts.map V.int++[.int p])) M.b.e0) fun j i=>fL fun e=>fab fun g k b=>?_;refine eaE i fun f h l d=>?_;refine ias _ _ _ _ _ _ _ _ _ ⟨rfl,M.b.b,M.b.e0,by rw[aC];lia,?_⟩;rw[aC];have r:(s.D.pts++[p]).length=s.D.pts.length+ 1:=by rw[aO];rfl
 exact q _ ⟨j,M.b.pt p,(iad f h (by show _<=(s.D.pts++[p]).length;lia) d),(iad e g (by show _<=(s.D.pts++[p]).length;lia) b),M.ne⟩ (yi (by simp[La.ch,Ad.ls])) (iad f h l d) (iad e g k b)
def zU(M:Lm CL c H A s) (b:s.D.pts.length<10000000) (q:∀a,Lm CL c a A (s.pt p)->FL A H a->Q (.int s.n) a):lJ c.B [.ref A.B.b,.int p] H Q E0:=xh M b fun a d e _ _=>q a d e
def pZ(M:Lm CL c H A s) (u:s.D.fls.length<10000000) (q:∀d,Lm CL c d A (s.fl p r)->FL A H d->Q .non d):oQ c.B [.ref A.B.b,.int p,.int r] H Q E0:=by have n:=IS;refine eae M.b.e3 fun e b m=>?_;have j:=m.length;rw[aC]at j;refine iax _ _ _ _ _ _ _ _ _ e ⟨rfl,M.b.b,b,by lia,fun t l=>?_⟩;have a:=gr l (.tup [.int p,.int r]);have f:=M.same a;have k:Im (upd H t (.tup [.int p,.int r])) (.ref t) (flD (p,r)):= .tup gm (.cons (.flat rfl) (.cons (.flat rfl) .nil));refine eao (f.nl (o:= .lst (e++[.ref t])) (a _ _ b)) fun i h g=>?_;exact q _ ⟨i,f.b.fl (a _ _ b) k,h,g,M.ne⟩ ((FL.same a).trans (yi (by simp[La.ch,Ad.ls])))
def FP(M:Lm CL c H A s) (l:s.D.uss.length<10000000) (h:uJ c H x u) (q:∀b,Lm CL c b A (s.us u)->FL A H b->Q .non b):mS c.B [.ref A.B.b,x] H Q E0:=by have j:=IS;refine eae M.b.e2 fun d a i=>?_;have k:=i.length;refine eao (M.nl (o:= .lst (d++[x])) a) fun g f e=>?_;exact ias _ _ _ _ _ _ _ _ d (⟨rfl,M.b.b,a,by lia,q _ ⟨g,M.b.us a h,f,e,M.ne⟩ (yi (by simp[La.ch,Ad.ls]))⟩)
def Ec(M:Lm CL c H A s) (y:s.D.mks.length<10000000) (r:Im H f m.f) (t:kW m.f<=2) (ho:okD m.f) (q:∀h,Lm CL c h A (s.mk' m)->FL A H h->Q .non h):mx c.B c.M [.ref A.B.b,.str m.s,f,.int m.a,.int m.p] H Q E0:=by have w:=IS;refine eax M.b.e1 fun i g v=>?_;have x:=v.length;refine iau _ _ _ _ _ _ _ _ _ _ _ i ⟨rfl,M.b.b,g,by lia,fun a b u e=>?_⟩;have d:gT H (upd (upd H b (.own a)) a (.ins c.M b (fM (.str m.s) f (.int m.a) (.int m.p)))):=ke u e;have j:=M.same d;have k:wK c (upd (upd H b (.own a)) a (.ins c.M b (fM (.str m.s) f (.int m.a) (.int m.p)))) (.ref a) m:=(iah a b f rfl gm (r.mono (gT.tk d)) t ho);refine eaz (j.nl (o:= .lst (i++[.ref a])) (d _ _ g)) fun p n l=>?_;exact q _ ⟨p,j.b.addM (d _ _ g) k,n,l,M.ne⟩ ((FL.same d).trans (yi (by simp[La.ch,Ad.ls])))
end
structure Le (s s':Ls):Prop where
 p:s.D.pts.length<=s'.D.pts.length
 m:s.D.mks.length<=s'.D.mks.length
 u:s.D.uss.length<=s'.D.uss.length
 f:s.D.fls.length<=s'.D.fls.length
def Le.refl (s:Ls):Le s s:=⟨cN _,cN _,cN _,cN _⟩
def Le.trans {a b c:Ls} (h:Le a b) (k:Le b c):Le a c:=⟨cJ h.p k.p,cJ h.m k.m,cJ h.u k.u,cJ h.f k.f⟩
def Le.sz {a b:Ls} {n:Nat} (h:Le a b) (k:Sz n b):Sz n a:=⟨cJ h.p k.p,cJ h.m k.m,cJ h.u k.u,cJ h.f k.f⟩
def GU {b:Type} (l:List b) (a:b):l.length<=(l++[a]).length:=by rw[aO];lia
section
variable {s s':Ls}
theorem Le.pt {p:Int}:Le s (s.pt p):=⟨GU _ _,cN _,cN _,cN _⟩
theorem Le.mk' {p:Mkg}:Le s (s.mk' p):=⟨cN _,GU _ _,cN _,cN _⟩
theorem Le.us {p:Us}:Le s (s.us p):=⟨cN _,cN _,GU _ _,cN _⟩
theorem Le.fl {p q:Int}:Le s (s.fl p q):=⟨cN _,cN _,cN _,GU _ _⟩
def Le.ho {p q:Int}:Le s (s.hold p q):=⟨cN _,cN _,cN _,cN _⟩
def Le.be {p q:Int}:Le s (s.begin p q):=⟨cN _,cN _,cN _,cN _⟩
end
def Lmo (L:Lf):Prop:=∀p s q a,L p s=some (q,a)->Le s a
section
variable {L:Lf} (hL:Lmo L)
include hL
def L1{c:Type} {g:Int->Ls->Option c} {a:c} (h:(match L p s with|some (q,s)=>g q s|none=>none)=some a):∃q b,L p s=some (q,b)/\g q b=some a/\Le s b:=by
 cases e:L p s with
 |none=>rw[e]at h;cases h
 |some z=>obtain⟨q,b⟩:=z;rw[e]at h;exact iap q b ⟨rfl,h,hL _ _ _ _ e⟩
theorem xi:∀{l acc:List (Str×Int)} {s:Ls} {r:List (Str×Int)×Ls},AX L l acc s=some r->Le s r.2/\r.1.length=acc.length+l.length
 |[],acc,s,r,h=>by cases h;exact⟨Le.refl _,rfl⟩
 |p::l,acc,s,r,h=>by refine eal (L1 hL h) fun q e _ d c=>?_;obtain⟨a,b⟩:=xi d;exact⟨c.trans a,by rw[b,aO,aX,az];lia⟩
theorem xj:∀{l:List (Str×Str×Int)} {acc:List (Str×Int)} {s:Ls} {r:List (Str×Int)×Ls},BD L p own l acc s=some r->Le s r.2/\r.1.length=acc.length+l.length
 |[],acc,s,r,h=>by cases h;exact⟨Le.refl _,rfl⟩
 |a::l,acc,s,r,h=>by refine eal (L1 hL h) fun q e _ d c=>?_;obtain⟨x,b⟩:=xj d;exact⟨((Le.pt.trans Le.ho).trans c).trans (Le.fl.trans x),by rw[b,aO,aX,az];lia⟩
theorem xk:∀{l:List Int} {s s':Ls},CJ L th l s=some s'->Le s s'
 |[],s,s',h=>by cases h;exact Le.refl _
 |k::l,s,s',h=>by refine eal (L1 hL h) fun q c _ b a=>?_;exact a.trans (Le.fl.trans (xk b))
def zV(h:oR L a b p s=some s'):Le s s':=by refine eal (L1 hL h) fun x f _ h d=>?_;refine eal (L1 hL h) fun y e _ h c=>?_;cases h;exact(d.trans c).trans (Le.us.trans Le.us)
def FQ(h:AY L roots d s=some r):Le s r.2:=by
 unfold AY at h
 cases e:atZ roots d with
 |none=>rw[e]at h;cases h
 |some z=>rw[e]at h;refine eal (L1 hL h) fun q b _ h a=>?_;cases h;exact((Le.pt.trans Le.be).trans a).trans Le.fl
def BE(h:mU L roots h0 p s=some r):Le s r.2:=by
 unfold mU at h;split at h;·exact hL _ _ _ _ h
 ·split at h
  ·split at h;·refine eax (dA.mp h) fun q _ a=>?_;subst a;exact Le.refl _
   ·exact FQ hL h
  ·refine eax (dA.mp h) fun q _ a=>?_;subst a;exact Le.refl _
def zW(h:kX L roots ho p own s ρ=some s'):Le s s':=by
 cases ρ with
 |num n=>cases h;exact Le.mk'
 |name w=>
  cases ho with
  |none=>cases h
  |some m=>
   have h:(match mU L roots m p s with|some (q,s)=>some (s.fl q own)|none=>none)=some s':=h
   cases e:mU L roots m p s with
   |none=>rw[e]at h;cases h
   |some z=>rw[e]at h;cases h;exact(BE hL e).trans Le.fl
 |fn w k=>refine eal (L1 hL h) fun q f _ h d=>?_;cases h;exact((Le.pt.trans Le.ho).trans d).trans Le.mk'
 |lt w a b=>refine eal (L1 hL h) fun _ f _ h d=>?_;refine eal (L1 hL h) fun q i _ h g=>?_;cases h;exact(d.trans g).trans Le.fl
 |rcd l=>
  have h:(match AX L l [] s with|some (fs,s)=>some (s.mk' ⟨"rec",prD fs,own,p⟩)|none=>none)=some s':=h
  cases e:AX L l [] s with
  |none=>rw[e]at h;cases h
  |some z=>rw[e]at h;cases h;exact(xi hL e).1.trans Le.mk'
 |get k w=>refine eal (L1 hL h) fun q f _ h d=>?_;cases h;exact d.trans Le.us
 |tag w k=>refine eal (L1 hL h) fun q f _ h d=>?_;cases h;exact d.trans Le.mk'
 |case k l=>
  refine eal (L1 hL h) fun q f _ h d=>?_
  cases e:BD L p own l [] f with
  |none=>rw[e]at h;cases h
  |some z=>rw[e]at h;cases h;exact(d.trans (xj hL e).1).trans Le.us
 |row j=>
  have h:(match CJ L s.n j (s.pt p)with|some i=>some (i.mk' (mkR s.n own p))|none=>none)=some s':=h
  cases e:CJ L s.n j (s.pt p)with
  |none=>rw[e]at h;cases h
  |some z=>rw[e]at h;cases h;exact(Le.pt.trans (xk hL e)).trans Le.mk'
 |op o j=>
  match j,h with
  |[],h=>cases h
  |[a],h=>
   simp only[kX]at h;split at h;·refine eal (L1 hL h) fun q f _ h d=>?_;cases h;exact(Le.pt.trans d).trans (Le.us.trans Le.mk')
   ·cases h
  |[a,b],h=>
   simp only[kX]at h;split at h;·refine eal (L1 hL h) fun x f _ h d=>?_;refine eal (L1 hL h) fun y i _ h g=>?_;cases h;exact(d.trans g).trans Le.us
   ·split at h;·refine eal (L1 hL h) fun x f _ h d=>?_;refine eal (L1 hL h) fun y i _ h g=>?_;cases h;exact((Le.pt.trans d).trans g).trans ((Le.us.trans Le.us).trans Le.mk')
    ·split at h
     ·cases e:oR L a b p (s.pt p)with
      |none=>rw[e]at h;cases h
      |some z=>rw[e]at h;cases h;exact(Le.pt.trans (zV hL e)).trans ((Le.mk'.trans Le.mk').trans Le.mk')
     ·split at h
      ·cases e:oR L a b p s with
       |none=>rw[e]at h;cases h
       |some z=>rw[e]at h;cases h;exact(zV hL e).trans Le.mk'
      ·cases h
  |[a,b,c],h=>
   simp only[kX]at h;split at h;·refine eal (L1 hL h) fun x f _ h d=>?_;refine eal (L1 hL h) fun y i _ h g=>?_;refine eal (L1 hL h) fun z t _ h r=>?_;cases h;exact((d.trans g).trans r).trans ((Le.us.trans Le.us).trans Le.fl)
   ·cases h
  |_::_::_::_::_,h=>cases h
end
theorem iT:∀f,Lmo (ox ρs roots ho f)
 |0,p,s,q,s',h=>by cases h
 |f+ 1,p,s,q,s',h=>by
  unfold ox at h
  cases e:atZ ρs p with
  |none=>rw[e]at h;cases h
  |some b=>
   rw[e]at h;have h:(match kX (ox ρs roots ho f) roots (ho p.toNat) p s.n (s.pt p) b with|some c=>some (s.n,c)|none=>none)=some (q,s'):=h
   cases a:kX (ox ρs roots ho f) roots (ho p.toNat) p s.n (s.pt p) b with
   |none=>rw[a]at h;cases h
   |some c=>rw[a]at h;cases h;exact Le.pt.trans (zW (iT f) a)
noncomputable def hoD:Option Hm->Dt
 |none=> .flat .non
 |some h=>hmD h
def Ed{r:List (Str×V)}:aA f ((f,v)::r)=some v:=by rw[aZ,show(f==f)=true by simp]
def Ee{r:List (Str×V)} (h:(f==g)=false):aA f ((g,v)::r)=aA f r:=by rw[aZ,h]
noncomputable def fP (n r w:Zx):List (Str×V):=[("names",.ref n),("roots",.ref r),("rows",.ref w)]
def BF (n r w:Zx):(fP n r w).lookup ("names":Str)=some (.ref n):=Ed
def qA (n r w:Zx):(fP n r w).lookup ("roots":Str)=some (.ref r):=(Ee gG).trans Ed
def zX (n r w:Zx):(fP n r w).lookup ("rows":Str)=some (.ref w):=(Ee gG).trans ((Ee gG).trans Ed)
noncomputable def nI (k:Nat):V:= .int (k:Int)
structure PrA (C:Zx) (H:Hp) (p n r w dx:Zx) (xs:List V) (names:Zd) (roots:List Nat) (ρs:List Ro):Prop where
 o:H p=some (.ins C dx (fP n r w))
 n:H n=some (.lst (names.map V.str))
 r:H r=some (.lst (roots.map nI))
 w:H w=some (.lst xs)
 i:Ims H xs (ρs.map Ro.d)
def PrA.same {C:Zx} {p n r w:Zx} (h:PrA C H p n r w dx xs names roots ρs) (s:gT H H'):PrA C H' p n r w dx xs names roots ρs:=⟨s _ _ h.o,s _ _ h.n,s _ _ h.r,s _ _ h.w,h.i.mono (gT.tk s)⟩
theorem kx:∀{xs:List V} {a:List Dt} {j:Nat} {x:V},Ims H xs a->xs[j]?=some x->∃d,a[j]?=some d/\Im H x d
 |_,_,0,_,.cons h _,e=>⟨_,rfl,by cases e;exact h⟩
 |_,_,j+ 1,_,.cons _ t,e=>by rw[bp]at e;refine eax (kx t e) fun d c b=>?_;exact⟨d,by rw[bp];exact c,b⟩
def vT {k:Nat} (h:Ims H xs (ρs.map Ro.d)) (e:ρs[k]?=some ρ):∃(t:Zx) (ys:List V),xs[k]?=some (.ref t)/\H t=some (.tup (.str ρ.s::ys))/\Ims H ys ρ.r/\Im H (.ref t) ρ.d:=by
 have lx:=h.length;rw[aC]at lx;have hk:=(aq.mp e).1;refine eae (kx h (bf (show k<xs.length by lia))) fun d hd him=>?_;rw[aM,e]at hd;cases hd;have h0:xs[k]?=some xs[k]:=bf (by lia);generalize xs[k]=v at h0 him;have him':=him
 cases him with
 |@tup t ys _ et hs=>
  cases hs with
  |cons a hs=>cases a;exact iaa t _ h0 et hs him'
def kC (h:Im H (.ref t) ρ.d):∃b,H t=some (.tup (.str ρ.s::b))/\Ims H b ρ.r:=by
 unfold Ro.d at h
 cases h with
 |tup e i=>
  cases i with
  |cons a i=>cases a;exact⟨_,e,i⟩
abbrev hdT (i:Nat) (x:Str):TT:=cT (tOp (cEq false) (tOp Cw (cV i) (tC (.int 0))) (tC (.str x)))
def oS(hσ:σ[i]?=some (some (.ref t))) (et:H t=some (.tup (.str s::ys))) (e:decide (s=x)=b) (h:k b H):hdT i x σ H k:=by show onV σ[i]? _;rw[hσ];refine⟨_,et,gy (gv (j:=0) rfl) ?_⟩;dsimp only[tC,cEq,onB];rw[fA,e];exact h
def hX(hσ:σ[i]?=some (some (.ref t))) (et:H t=some (.tup (.str s::ys))) (e:decide (s=x)=false) (h:u D σ H):sv (hdT i x) T u D σ H:=oS hσ et e (kU h)
def jy(hσ:a[i]?=some (some (.ref t))) (b:H t=some (.tup (.str s::ys))) (e:decide (s=x)=true) (h:T D a H):sv (hdT i x) T u D a H:=oS hσ b e (lQ h)
def rJ(h:Im H x (.tup [a,b])):∃t y z,x= .ref t/\H t=some (.tup [y,z])/\Im H y a/\Im H z b:=by
 cases h with
 |tup e i=>
  cases i with
  |cons d i=>
   cases i with
   |cons c i=>cases i;exact iar _ _ _ ⟨rfl,e,d,c⟩
def oT(h:atZ l i=some a):∃k:Nat,i=(k:Int)/\l[k]?=some a:=by
 cases i with
 |ofNat k=>exact⟨k,rfl,h⟩
 |negSucc k=>cases h
def jA(h:H t=none) (i:Ims H xs ds):Im (Zk H t (.tup xs)) (.ref t) (.tup ds):= .tup gm (i.mono (gT.tk (gr h _)))
def Ro.few:Ro->Prop
 | .rcd l=>l.length<=10
 | .case _ l=>l.length<=10
 | .row ks=>ks.length<=1000
 |_=>True
structure Cp (CP:Zx) (H:Hp) (A:La) (names:Zd) (roots:List Nat) (ρs:List Ro) (ho:Nat->Option Hm):Prop where
 p:∃n r w dx xs,PrA CP H A.p n r w dx xs names roots ρs/\A.p∉A.ch/\n∉A.ch/\r∉A.ch/\w∉A.ch
 h:∃hs,H A.h=some (.lst hs)/\A.h∉A.ch/\∀(k:Nat) (ρ:Ro),ρs[k]?=some ρ->∃y,hs[k]?=some y/\Im H y (hoD (ho k))
 few:∀(k:Nat) (ρ:Ro),ρs[k]?=some ρ->ρ.few
 dom:∀(k:Nat) (h:Hm),ho k=some h->h.1="def"->∃d:Nat,h.2=(d:Int)/\d<roots.length
def Cp.fl {c:Cs} {A:La} {s:Ls} {ho:Nat->Option Hm} (x:Cp CP H A names roots ρs ho) (M:Lm CL c H A s) (F:FL A H H'):Cp CP H' A names roots ρs ho:=by have k:=M.tk F;obtain⟨⟨n,r,w,v,o,d,l,i,h,g⟩,⟨p,e,f,t⟩,u,z⟩:=x;exact⟨(iav n r w v o (⟨⟨F _ _ d.o l,F _ _ d.n i,F _ _ d.r h,F _ _ d.w g,d.i.mono k⟩,l,i,h,g⟩)),(iad p (F _ _ e f) f (fun j m q=>let⟨y,a,b⟩:=t j m q;(io y a (b.mono k)))),u,z⟩
theorem DkI.put {a:Zx} {g:Int->Option Int} {n:Nat} (h:DkI H a g n) (f:n<10000000) (k v:Int):∃b,yt H a (.int k) (.int v) b/\(∃o,b=Zk H a (.dK o))/\DkI b a (put g k v) (n+ 1):=by
 have d:=IS;refine eah h fun c e l r=>?_;refine⟨_,yt.k (k:=(Jw k:Key)) e (by lia),⟨_,rfl⟩,_,gm,cJ (kM _ _ _) (by lia),fun x=>?_⟩;rw[qu];unfold K22.Internal.put;by_cases h:x=k;·rw[ip (by rw[h]),ip h];rfl
 ·rw[gU (fun z=>h (by injection z)),gU h];exact r x
def DkI.get {a:Zx} {g:Int->Option Int} {n:Nat} (h:DkI H a g n) {k v:Int} (e:g k=some v):rO H a (.int k) (some (.int v)):=by refine eah h fun b c l r=>?_;have z:=rO.k (k:=(Jw k:Key)) c;rw[r k,e]at z;exact z
def Bw.dk {c:Cs} {A:Ad} {r:V} {D:Bd} (B:Bw c H A r D) {a:Zx} {kvs:List (Key×V)} {o:List (Key×V)} (e:H a=some (.dK kvs)):Bw c (Zk H a (.dK o)) A r D:=by
 obtain⟨b,e0,⟨mv,m1,m2⟩,⟨uv,u1,u2⟩,⟨fv,g1,g2⟩,nd⟩:=B;have k:FK H (Zk H a (.dK o)):=fun b u q f=>by rw[gx (fun z=>by rw[z,e]at q;cases q;exact f.elim)];exact q
 have ne:∀{b:Zx} {u:HO},H b=some u->(∀l,u≠ .dK l)->(Zk H a (.dK o)) b=some u:=fun q n=>by rw[gx (jP q e (n _))];exact q
 exact⟨ne b (fun _ z=>nomatch z),ne e0 (fun _ z=>nomatch z),⟨mv,ne m1 (fun _ z=>nomatch z),m2.imp fun _ _=>wK.mono k⟩,⟨uv,ne u1 (fun _ z=>nomatch z),u2.imp fun _ _=>uJ.mono k⟩,⟨fv,ne g1 (fun _ z=>nomatch z),g2.mono k.tk⟩,nd⟩
theorem Lm.hold {c:Cs} {A:La} {s:Ls} (M:Lm CL c H A (s.pt p0)) (i:DkI H A.hd s.held s.D.pts.length) (t:s.D.pts.length<1000000) (k v:Int):∃a,yt H A.hd (.int k) (.int v) a/\Lm CL c a A ((s.pt p0).hold k v)/\FL A H a:=by
 refine eaE (i.put (by lia) k v) fun a d l h=>?_;obtain⟨o,j⟩:=l;subst j;refine eae i fun p e _=>?_;obtain⟨f,b,_,⟨q,r,m⟩,g⟩:=M;have n:(s.D.pts++[p0]).length=s.D.pts.length+ 1:=by rw[aO];rfl
 refine⟨_,d,⟨by rw[gx (jP f e (fun z=>nomatch z))];exact f,Bw.dk b e,?_,⟨q,by rw[gx g.symm];exact r,m⟩,g⟩,yi (by simp[La.ch])⟩;show DkI _ A.hd (put s.held k v) (s.D.pts++[p0]).length;rw[n];exact h
inductive XLa (CL CP:Zx) (c:Cs) (f:Nat) (vs:List V) (H:Hp) (Q:VK):Prop
 |mk (A:La) (s s':Ls) (p r:Int) (names:Zd) (roots:List Nat) (ρs:List Ro) (ho:Nat->Option Hm) (e:vs=[.ref A.l,.int p]) (M:Lm CL c H A s) (C:Cp CP H A names roots ρs ho) (hl:ox ρs roots ho f p s=some (r,s')) (hz:Sz 1000000 s') (q:∀H',Lm CL c H' A s'->FL A H H'->Q (.int r) H')
def kS (d b:Zx) (c:Cs) (f:Nat):Sp:=fun a H Q _=>XLa d b c f a H Q
inductive XL (CL CP:Zx) (c:Cs) (f:Nat) (U:Ro->Prop) (vs:List V) (H:Hp) (Q:VK):Prop
 |mk (A:La) (s s':Ls) (p own:Int) (t:Zx) (ρ:Ro) (names:Zd) (roots:List Nat) (ρs:List Ro) (ho:Nat->Option Hm) (e:vs=[.ref A.l,.ref t,.int p,.int own]) (M:Lm CL c H A s) (C:Cp CP H A names roots ρs ho) (hk:atZ ρs p=some ρ) (hu:U ρ) (it:Im H (.ref t) ρ.d) (hl:kX (ox ρs roots ho f) roots (ho p.toNat) p own s ρ=some s') (hz:Sz 1000000 s') (q:∀H',Lm CL c H' A s'->FL A H H'->Q .non H')
def jL (d b:Zx) (c:Cs) (f:Nat) (U:Ro->Prop):Sp:=fun a H Q _=>XL d b c f U a H Q
def ji(h:Im H x (kD k)):x= .int k:=by cases h;rfl
def lK(h:Im H x (sD k)):x= .str k:=by cases h;rfl
def zY(h:Ims H xs [d]):∃x,xs=[x]/\Im H x d:=by
 cases h with
 |cons a i=>cases i;exact⟨_,rfl,a⟩
def uj(h:Ims H xs [d,e]):∃x y,xs=[x,y]/\Im H x d/\Im H y e:=by
 cases h with
 |cons a i=>refine eax (zY i) fun y c b=>?_;subst c;exact iap _ _ ⟨rfl,a,b⟩
def EO(h:Ims H xs [d,e,g]):∃x y z,xs=[x,y,z]/\Im H x d/\Im H y e/\Im H z g:=by
 cases h with
 |cons a i=>refine ead (uj i) fun y z c b=>?_;subst c;exact iar _ _ _ ⟨rfl,a,b⟩
theorem FL.tup {a:Zx} {c:Cs} {H H':Hp} {A:La} {s:Ls} (F:FL A H H') (M:Lm a c H A s) {t:Zx} {xs:List V} (e:H t=some (.tup xs)):H' t=some (.tup xs):=M.tk F _ _ e
def gZ:(fLy p h b hd sd).lookup ("board":Str)=some (.ref b):=pY.2.2.2.1
def vU:(fLy p h b hd sd).lookup ("held":Str)=some (.ref hd):=pY.2.2.2.2.1
def jH(M:Lm CL c H A s) (C:Cp CP H A names roots ρs ho) (e:ox ρs roots ho f p s=some (r,s')) (d:Sz 1000000 s') (q:∀a,Lm CL c a A s'->FL A H a->Cp CP a A names roots ρs ho->TK H a->Q (.int r) a):kS CL CP c f [.ref A.l,.int p] H Q E0:=
 ⟨A,s,s',p,r,names,roots,ρs,ho,rfl,M,C,e,d,fun a g b=>q a g b (C.fl M b) (M.tk b)⟩
def kg{o:Int} (M:Lm CL c H A s) (e:Sz 1000000 s) (d:H a=none) (i:Ims H xs ds) (f:kW (.tup ds)<=2) (ho:okD (.tup ds)) (q:∀b,Lm CL c b A (s.mk' ⟨w,.tup ds,o,p⟩)->FL A H b->Q .non b):mx c.B c.M [.ref A.B.b,.str w,.ref a,.int o,.int p] (Zk H a (.tup xs)) Q E0:=
 Ec (m:=⟨w,.tup ds,o,p⟩) (M.same (gr d _)) (by have:=e.m;lia) (jA d i) f ho fun b g h=>q b g ((FL.same (gr d _)).trans h)
def lN(M:Lm CL c H A s) (e:Sz 1000000 s) (b:H x=none) (d:H dx=none) (f:uJ c (Zk (Zk H dx (.own x)) x o) (.ref x) u) (q:∀a,Lm CL c a A (s.us u)->FL A H a->Q .non a):mS c.B [.ref A.B.b,.ref x] (Zk (Zk H dx (.own x)) x o) Q E0:=
 FP (M.same (ke b d)) (by have:=e.u;lia) f fun a g h=>q a g ((FL.same (ke b d)).trans h)
def u4{h:Option Hm} {o:Str} (f:o≠"size") (e:o≠"at") (d:kX L roots h p own s (.op o ks)=some s'):∃a b,ks=[a,b]:=by
 match ks,d with
 |[],d=>exact nomatch(show(none:Option Ls)=some s' from d)
 |[a],d=>exact nomatch((gU f).symm.trans d)
 |[a,b],_=>exact iap a b rfl
 |[a,b,c],d=>exact nomatch((gU e).symm.trans d)
 |_::_::_::_::_,d=>exact nomatch(show(none:Option Ls)=some s' from d)
def cs (T:Txt K mg):Cs:=⟨T.c1.a,T.c3.a,T.c4.a,T.c5.a,T.c6.a,T.c7.a,T.c8.a⟩
def yj (T:Txt K mg) (f:Nat):FO P w base (5*f+ 7) T.d8 (jL T.c9.a T.c10.a (cs T) f fun e=>∃n,e= .num n):=by refine T.d8.F.rd ya fun o B c u H r Q E k h=>?_;obtain⟨A,s,v,p,i,t,e,d,b,g,y,rfl,M,C,z,⟨n,rfl⟩,x,l,j,q⟩:=h;refine⟨_,(gw (gS (gH (gR (J7 (gP T.c9.cl T.n9board (cv 0))) T.c8.cl T.e64.me (iO T) (k.mono (by lia)) T.e64.b .nil ie (gk gE (gk (gK gn) (gk (cv 3) (gk (cv 2) gn)))))))),?_⟩;cases dj.inj l;exact⟨_,(iap _ _ ⟨M.o,gZ⟩),(iap _ _ ⟨M.b.b,je _ _ _ _ _⟩),mz,fun a m=>kg M (Le.mk'.sz j) m .nil (by decide) ⟨by decide,trivial⟩ q⟩
def yk (T:Txt K mg) (f:Nat) (b:MO P w base mg (5*f+ 3) T.e70 (kS T.c9.a T.c10.a (cs T) f)):FO P w base (5*f+ 7) T.d17 (jL T.c9.a T.c10.a (cs T) f fun m=>∃n k,m= .tag n k):=by
 refine T.d17.F.rd sM fun S A0 e s0 H vs Q E r h=>?_;obtain⟨A,s,B,p,D,t,m,g,d,v,ho,rfl,M,C,hk,⟨n,k,rfl⟩,J,c,o,q⟩:=h;refine HzX ?_;intro _;refine⟨_,(gq (pS (i:=4) sM.nd (gH (gR (J7 (cv 0)) T.c9.cl T.e70.me b (r.mono (by lia)) T.e70.b .nil ie (gk (gB gF (cv 1) gu) gn))))
  (gw (gS (gH (gR (J7 (gP T.c9.cl T.n9board (cv 0))) T.c8.cl T.e64.me (iO T) (r.mono (by lia)) T.e64.b .nil ie (gk gE (gk (gK (gk (gB gF (cv 1) gu) (gk (cv 4) gn))) (gk (cv 3) (gk (cv 2) gn))))))))),?_⟩;refine eae (kC J) fun Y u I=>?_;refine eal (uj I) fun y1 Z y N L=>?_;subst y;cases lK N;cases ji L;refine eal (L1 (iT f) c) fun x z R c _=>?_;have F:Le z B:=by cases dj.inj c;exact Le.mk'
 refine⟨(iap _ _ ⟨M.o,jx gG⟩),_,u,gy (gv (j:=2) rfl) (jH M C R (F.sz o) fun H1 l W C1 G=>?_)⟩;cases dj.inj c;exact⟨_,(iap _ _ ⟨l.o,gZ⟩),(iap _ _ ⟨l.b.b,je _ _ _ _ _⟩),_,G _ _ u,gy (gv (j:=1) rfl) ⟨kB,fun a O=>kg l (Le.mk'.sz o) O (.cons (.flat rfl) (.cons (.flat rfl) .nil)) (by simp[kW,iF,sD,kD]) (by simp[okD,wJ,sD,kD]) fun V U X=>q V U (W.trans X)⟩⟩
def ym (T:Txt K mg) (f:Nat) (e:MO P w base mg (5*f+ 3) T.e70 (kS T.c9.a T.c10.a (cs T) f)):FO P w base (5*f+ 7) T.d16 (jL T.c9.a T.c10.a (cs T) f fun y=>∃k n,y= .get k n):=by
 refine T.d16.F.rd sL fun cdv A0 m s0 H vs Q E r h=>?_;obtain⟨A,s,R,p,c,t,y,o,l,L,ho,rfl,M,C,hk,⟨k,n,rfl⟩,W,g,z,q⟩:=h;refine HzX ?_;intro _;refine io _ ((gq (pS (i:=4) sL.nd (gH (gR (J7 (cv 0)) T.c9.cl T.e70.me e (r.mono (by lia)) T.e70.b .nil ie (gk (gB gF (cv 1) gu) gn))))
  (gw (gS (gH (gR (J7 (gP T.c9.cl T.n9board (cv 0))) T.c8.cl T.e65.me (jw T) (r.mono (by lia)) T.e65.b .nil ie (gk (kl T.mk5 (ot T) (r.mono (by lia)) rfl T.c5.m T.e56.b .nil ie (gk (cv 4) (gk (cv 2) (gk gu (gk (gK (gk (gK (gk (gB gF (cv 1) gu) (gk (cv 3) gn))) gn)) gn))))) gn))))))) ?_;refine eae (kC W) fun ys G V=>?_;refine eal (uj V) fun y1 y2 N Z Y=>?_;subst N;cases ji Z;cases lK Y;refine eal (L1 (iT f) g) fun x O h1 g _=>?_;have S:Le O R:=by cases dj.inj g;exact Le.us
 refine iag ((iaf _ _ M.o (jx gG))) _ G (gy (gv (j:=1) rfl) (jH M C h1 (S.sz z) fun H1 v F1 C1 U=>?_));cases dj.inj g;refine⟨_,(iaf _ _ v.o gZ),(iaf _ _ v.b.b (jG _ _ _ _ _)),_,U _ _ G,gy (gv (j:=2) rfl) ⟨kB,fun a F=>⟨kJ,fun b D x I B d nx=>(iaw x I _ _ _ _ ⟨rfl,gm,rfl,?_⟩)⟩⟩⟩;rw[iJ];have S1:=gr F (.tup [.str n,.int c]);have S2:=gr D (.tup [.ref a]);have J:=S1.trans S2;have X:=jA D (.cons (jA F (.cons (.flat rfl) (.cons (.flat rfl) .nil))) .nil);exact lN (u:= .take _ _ _ [(n,c)]) (v.same J) (Le.us.sz z) B d (iae x I _ rfl gm (X.mono (gT.tk (ke B d))) (by show 1<=10;decide)) fun H' M' F'=>q H' M' (F1.trans ((FL.same J).trans F'))
def vV (T:Txt K mg) (f:Nat) (a:MO P w base mg (5*f+ 3) T.e70 (kS T.c9.a T.c10.a (cs T) f)):FO P w base (5*f+ 7) T.d13 (jL T.c9.a T.c10.a (cs T) f fun o=>∃v,o= .op "call" v):=by
 refine T.d13.F.rd n8 fun cdv A0 g s0 H vs Q E c h=>?_;obtain⟨A,s,J,p,L,t,o,k,e,G,ho,rfl,M,C,hk,⟨v,rfl⟩,S,b,l,q⟩:=h;refine HzX ?_;intro _;refine io _ ((gq (pS (i:=4) n8.nd (gH (gR (J7 (cv 0)) T.c9.cl T.e70.me a (c.mono (by lia)) T.e70.b .nil ie (gk (gB gF (cv 1) gu) gn))))
  (gq (pS (i:=5) n8.nd (gH (gR (J7 (cv 0)) T.c9.cl T.e70.me a (c.mono (by lia)) T.e70.b .nil ie (gk (gB gF (cv 1) gu) gn))))
  (gw (gS (gH (gR (J7 (gP T.c9.cl T.n9board (cv 0))) T.c8.cl T.e65.me (jw T) (c.mono (by lia)) T.e65.b .nil ie (gk (kl T.mk4 (oq T) (c.mono (by lia)) rfl T.c4.m T.e54.b .nil ie (gk (cv 4) (gk (cv 2) (gk gu (gk (cv 5) (gk (cv 3) gn)))))) gn)))))))) ?_;refine Hz2 ?_;intros;refine eam (u4 gG gG b) fun z O d=>?_;subst d;refine eae (kC S) fun ys B R=>?_;refine eal (uj R) fun y1 y2 d V U=>?_;subst d;cases ji V;cases ji U;refine eal (L1 (iT f) b) fun x s1 Y b _=>?_;refine eal (L1 (iT f) b) fun y I X b N=>?_;have r:Le I J:=by cases dj.inj b;exact Le.us
 refine iag ((iaf _ _ M.o (jx gG))) _ B (gy (gv (j:=1) rfl) (jH M C Y ((N.trans r).sz l) fun H1 F F1 C1 z=>?_));have Z:=z _ _ B;refine iag ((iaf _ _ F.o (jx gG))) _ Z (gy (gv (j:=2) rfl) (jH F C1 X (r.sz l) fun H2 n F2 C2 O=>?_));cases dj.inj b;refine⟨_,(iaf _ _ n.o gZ),(iaf _ _ n.b.b (jG _ _ _ _ _)),fun x D W m nx=>(iat x D _ _ _ _ _ ⟨rfl,gm,rfl,?_⟩)⟩;rw[iJ];exact lN (u:= .call _ _ _ _ _) n (Le.us.sz l) W m (iaf x D rfl gm) fun H' M' F'=>q H' M' (F1.trans (F2.trans F'))
def yn (T:Txt K mg) (f:Nat) (c:MO P w base mg (5*f+ 3) T.e70 (kS T.c9.a T.c10.a (cs T) f)):FO P w base (5*f+ 7) T.d14 (jL T.c9.a T.c10.a (cs T) f fun o=>∃n a b,o= .lt n a b):=by
 refine T.d14.F.rd yb fun X A0 i s0 H vs Q E m h=>?_;obtain⟨A,s,F,p,G,t,o,k,g,B,ho,rfl,M,C,hk,⟨n,a,b,rfl⟩,N,d,l,q⟩:=h;refine HzX ?_;intro _;refine⟨_,(gq (gS (gH (gR (J7 (cv 0)) T.c9.cl T.e70.me c (m.mono (by lia)) T.e70.b .nil ie (gk (gB gF (cv 1) gu) gn))))
  (gw (gS (gH (gR (J7 (gP T.c9.cl T.n9board (cv 0))) T.c8.cl T.e66.me (jz T) (m.mono (by lia)) T.e66.b .nil ie (gk (gH (gR (J7 (cv 0)) T.c9.cl T.e70.me c (m.mono (by lia)) T.e70.b .nil ie (gk (gB gF (cv 1) gu) gn))) (gk (cv 3) gn))))))),?_⟩;refine eae (kC N) fun ys v L=>?_;refine eav (EO L) fun y1 y2 y3 D S R O=>?_;subst D;cases lK S;cases ji R;cases ji O;refine eal (L1 (iT f) d) fun x s1 V d _=>?_;refine eal (L1 (iT f) d) fun y r U d I=>?_;have u:Le r F:=by cases dj.inj d;exact Le.fl
 refine⟨(iap _ _ ⟨M.o,jx gG⟩),_,v,gy (gv (j:=2) rfl) (jH M C V ((I.trans u).sz l) fun H1 e F1 C1 J=>?_)⟩;have W:=J _ _ v;refine⟨_,(iap _ _ ⟨e.o,gZ⟩),(iap _ _ ⟨e.b.b,kI _ _ _ _ _⟩),(iap _ _ ⟨e.o,jx gG⟩),_,W,gy (gv (j:=3) rfl) (jH e C1 U (u.sz l) fun H2 Y F2 C2 k2=>?_)⟩;cases dj.inj d;exact pZ Y (by have:=(Le.fl.sz l:Sz _ r).f;lia) fun H' Z F'=>q H' Z (F1.trans (F2.trans F'))
def FT{h:Option Hm} (d:kX L roots h p own s (.op "size" ks)=some s'):∃a,ks=[a]:=by
 match ks,d with
 |[],d=>exact nomatch(show(none:Option Ls)=some s' from d)
 |[a],d=>exact⟨a,rfl⟩
 |[a,b],d=>exact nomatch(show(none:Option Ls)=some s' from d)
 |[a,b,c],d=>exact nomatch(show(none:Option Ls)=some s' from d)
 |_::_::_::_::_,d=>exact nomatch(show(none:Option Ls)=some s' from d)
def BG{h:Option Hm} (d:kX L roots h p own s (.op "at" ks)=some s'):∃a b c,ks=[a,b,c]:=by
 match ks,d with
 |[],d=>exact nomatch(show(none:Option Ls)=some s' from d)
 |[a],d=>exact nomatch(show(none:Option Ls)=some s' from d)
 |[a,b],d=>exact nomatch(show(none:Option Ls)=some s' from d)
 |[a,b,c],d=>exact iar a b c rfl
 |_::_::_::_::_,d=>exact nomatch(show(none:Option Ls)=some s' from d)
def u5(f:Lmo L) (h:oR L a b p s=some s'):∃x c y d,L a s=some (x,c)/\L b c=some (y,d)/\s'=(d.us (.num x p 0)).us (.num y p 1)/\Le c d/\Le s c:=by refine eal (L1 f h) fun x c k e i=>?_;refine eal (L1 f e) fun y d j e g=>?_;exact iaq x c y d ⟨k,j,(dj.inj e).symm,g,i⟩
def N1(d:Lmo L) {g:Ls->Option Ls} (h:(match oR L a b p s with|some s=>g s|none=>none)=some s'):∃c,oR L a b p s=some c/\g c=some s':=by
 cases e:oR L a b p s with
 |none=>rw[e]at h;cases h
 |some z=>rw[e]at h;exact⟨z,rfl,h⟩
def tn1(h:k [] H):rM σ H k:=h
def tc1(e:σ[i]?=some (some v)) (h:k [v] H):ki (cV i) rM σ H k:=by show onV σ[i]? _;rw[e];exact h
def tc2(e:σ[i]?=some (some v)) (b:σ[j]?=some (some u)) (h:k [v,u] H):ki (cV i) (ki (cV j) rM) σ H k:=by show onV σ[i]? _;rw[e];exact tc1 (k:=fun a c=>k (v::a) c) b h
def Ef{s:Ls} (h:(s.pt p).D.pts.length<=1000000):s.D.pts.length<1000000:=by have h:(s.D.pts++[p]).length<=1000000:=h;rw[aO,aX]at h;lia
inductive XNu (CL CP:Zx) (c:Cs) (f:Nat) (vs:List V) (H:Hp) (Q:VK):Prop
 |mk (A:La) (s s':Ls) (p a b:Int) (t:Zx) (o:V) (names:Zd) (roots:List Nat) (ρs:List Ro) (ho:Nat->Option Hm) (e:vs=[.ref A.l,.ref t,.int p]) (M:Lm CL c H A s) (C:Cp CP H A names roots ρs ho) (it:H t=some (.tup [o,.int a,.int b])) (hl:oR (ox ρs roots ho f) a b p s=some s') (hz:Sz 1000000 s') (q:∀H',Lm CL c H' A s'->FL A H H'->Q .non H')
def HJ (d b:Zx) (c:Cs) (f:Nat):Sp:=fun a H Q _=>XNu d b c f a H Q
def ni (T:Txt K mg) (f:Nat) (gE70:MO P w base mg (5*f+ 3) T.e70 (kS T.c9.a T.c10.a (cs T) f)):FO P w base (5*f+ 5) T.d25 (HJ T.c9.a T.c10.a (cs T) f):=by
 refine T.d25.F.rd lI fun cdv A0 outer s0 H vs Q E hr h=>?_;obtain⟨A,s,s',p,a,b,t,o,names,roots,ρs,ho,rfl,M,C,et,hl,hz,q⟩:=h;refine HzX ?_;intro _;refine io _ ((gq (pS (i:=3) lI.nd (gH (gR (J7 (cv 0)) T.c9.cl T.e70.me gE70 (hr.mono (by lia)) T.e70.b .nil ie (gk (gB gF (cv 1) gu) gn))))
  (gq (pS (i:=4) lI.nd (gH (gR (J7 (cv 0)) T.c9.cl T.e70.me gE70 (hr.mono (by lia)) T.e70.b .nil ie (gk (gB gF (cv 1) gu) gn))))
  (gq (gS (gH (gR (J7 (gP T.c9.cl T.n9board (cv 0))) T.c8.cl T.e65.me (jw T) (hr.mono (by lia)) T.e65.b .nil ie (gk (kl T.mk3 (jg T) (hr.mono (by lia)) rfl T.c3.m T.e52.b .nil ie (gk (cv 3) (gk (cv 2) (gk gu gn)))) gn))))
  (gw (gS (gH (gR (J7 (gP T.c9.cl T.n9board (cv 0))) T.c8.cl T.e65.me (jw T) (hr.mono (by lia)) T.e65.b .nil ie (gk (kl T.mk3 (jg T) (hr.mono (by lia)) rfl T.c3.m T.e52.b .nil ie (gk (cv 4) (gk (cv 2) (gk gu gn)))) gn))))))))) ?_;refine Hz3 ?_;intros;refine eaA (u5 (iT f) hl) fun x s1 y s2=>fah fun h1 h2 z0 l2 l1=>?_;subst z0;have l3:Le s2 ((s2.us (.num x p 0)).us (.num y p 1)):=Le.us.trans Le.us;refine iag ((iaf _ _ M.o (jx gG))) _ et (gy (gv (j:=1) rfl) (jH M C h1 ((l2.trans l3).sz hz) fun H1 M1 F1 C1 k1=>?_));have e1:=k1 _ _ et;refine iag ((iaf _ _ M1.o (jx gG))) _ e1 (gy (gv (j:=2) rfl) (jH M1 C1 h2 (l3.sz hz) fun H2 M2 F2 C2 k2=>?_));refine⟨_,(iaf _ _ M2.o gZ),(iaf _ _ M2.b.b (jG _ _ _ _ _)),fun z dz hx hdx nx=>(iaw z _ dz _ _ _ ⟨rfl,gm,T.c3.cl,T.n3at,T.n3place,T.n3slot,rfl,?_⟩)⟩;rw[iJ];refine tn1 (lN (u:= .num x p 0) M2 (l3.sz hz) hx hdx (iaf z dz rfl gm) fun H3 M3 F3=>?_);refine⟨_,(iaf _ _ M3.o gZ),(iaf _ _ M3.b.b (jG _ _ _ _ _)),fun z dz hx hdx nx=>(iaw z _ dz _ _ _ ⟨rfl,gm,T.c3.cl,T.n3at,T.n3place,T.n3slot,rfl,?_⟩)⟩;rw[iJ];exact lN (u:= .num _ _ _) M3 (Le.us.sz hz) hx hdx (iaf z dz rfl gm) fun H' M' F'=>q H' M' (F1.trans (F2.trans (F3.trans F')))
def yo (T:Txt K mg) (f:Nat) (gE70:MO P w base mg (5*f+ 3) T.e70 (kS T.c9.a T.c10.a (cs T) f)):FO P w base (5*f+ 7) T.d23 (jL T.c9.a T.c10.a (cs T) f fun ρ=>∃o ks,ρ= .op o ks/\(o="add"\/o="sub")):=by
 have gD25:=ni (P:=P) (w:=w) (base:=base) T f gE70;refine T.d23.F.rd yc fun cdv A0 outer s0 H vs Q E hr h=>?_;obtain⟨A,s,s',p,own,t,ρ,names,roots,ρs,ho,rfl,M,C,hk,⟨o,ks,rfl,ho2⟩,it,hl,hz,q⟩:=h;refine HzX ?_;intro _;refine io _ ((gq (gS (pF T.d25 gD25 (hr.mono (by lia)) (gk (cv 0) (gk (cv 1) (gk (cv 2) gn)))))
  (gw (gS (gH (gR (J7 (gP T.c9.cl T.n9board (cv 0))) T.c8.cl T.e64.me (iO T) (hr.mono (by lia)) T.e64.b .nil ie (gk gE (gk (gK gn) (gk (cv 3) (gk (cv 2) gn)))))))))) ?_;have two:∃a b,ks=[a,b]:=by rcases ho2 with rfl|rfl<;>exact u4 gG gG hl
 refine eam two fun a b z0=>?_;subst z0;refine eae (kC it) fun ys et iy=>?_;refine eal (uj iy) fun y1 y2 z0 i1 i2=>?_;subst z0;cases ji i1;cases ji i2;obtain⟨s1,h1,hl⟩:∃s1,oR (ox ρs roots ho f) a b p s=some s1/\some (s1.mk' (mkN own p))=some s':=by rcases ho2 with rfl|rfl<;>exact N1 (g:=fun s1=>some (s1.mk' (mkN own p))) (iT f) hl
 cases dj.inj hl;refine⟨A,s,s1,p,a,b,t,_,names,roots,ρs,ho,rfl,M,C,et,h1,Le.mk'.sz hz,fun H1 M1 F1=>?_⟩;exact⟨_,(iaf _ _ M1.o gZ),(iaf _ _ M1.b.b (je _ _ _ _ _)),mz,fun a ha=>kg M1 (Le.mk'.sz hz) ha .nil (by decide) ⟨by decide,trivial⟩ fun H' M' F'=>q H' M' (F1.trans F')⟩
def vW (T:Txt K mg) (f:Nat) (gE70:MO P w base mg (5*f+ 3) T.e70 (kS T.c9.a T.c10.a (cs T) f)):FO P w base (5*f+ 7) T.d22 (jL T.c9.a T.c10.a (cs T) f fun ρ=>∃ks,ρ= .op "size" ks):=by
 refine T.d22.F.rd n9 fun cdv A0 outer s0 H vs Q E hr h=>?_;obtain⟨A,s,s',p,own,t,ρ,names,roots,ρs,ho,rfl,M,C,hk,⟨ks,rfl⟩,it,hl,hz,q⟩:=h;refine HzX ?_;intro _;refine io _ ((gq (pS (i:=4) n9.nd (gH (gR (J7 (gP T.c9.cl T.n9board (cv 0))) T.c8.cl T.e63.me (iP T) (hr.mono (by lia)) T.e63.b .nil ie (gk (cv 2) gn))))
  (gq (pS (i:=5) n9.nd (gH (gR (J7 (cv 0)) T.c9.cl T.e70.me gE70 (hr.mono (by lia)) T.e70.b .nil ie (gk (gB gF (cv 1) gu) gn))))
  (gq (gS (gH (gR (J7 (gP T.c9.cl T.n9board (cv 0))) T.c8.cl T.e65.me (jw T) (hr.mono (by lia)) T.e65.b .nil ie (gk (kl T.mk7 (ka T) (hr.mono (by lia)) rfl T.c7.m T.e60.b .nil ie (gk (cv 5) (gk (cv 2) (gk gu (gk (cv 4) gn))))) gn))))
  (gw (gS (gH (gR (J7 (gP T.c9.cl T.n9board (cv 0))) T.c8.cl T.e64.me (iO T) (hr.mono (by lia)) T.e64.b .nil ie (gk gE (gk (gK gn) (gk (cv 3) (gk (cv 2) gn)))))))))))) ?_;refine Hz3 ?_;intros;obtain⟨a,rfl⟩:=FT hl;refine eae (kC it) fun ys et iy=>?_;refine eae (zY iy) fun y1 z0 i1=>?_;subst z0;cases ji i1;refine eal (L1 (iT f) hl) fun x s2 h2 hl l2=>?_;have l3:Le s2 s':=by cases dj.inj hl;exact Le.us.trans Le.mk'
 refine⟨_,(iaf _ _ M.o gZ),(iaf _ _ M.b.b (jv _ _ _ _ _)),?_⟩;refine tc1 (v:= .int p) rfl (zU M (by have:=((Le.pt.trans (l2.trans l3)).sz hz).p;lia) fun H1 M1 F1=>?_);have C1:=C.fl M F1;have e1:=F1.tup M et;refine iag ((iaf _ _ M1.o (jx gG))) _ e1 (gy (gv (j:=1) rfl) (jH M1 C1 h2 (l3.sz hz) fun H2 M2 F2 C2 k2=>?_));cases dj.inj hl;refine⟨_,(iaf _ _ M2.o gZ),(iaf _ _ M2.b.b (jG _ _ _ _ _)),fun z dz hx hdx nx=>(iaw z dz _ _ _ _ ⟨rfl,gm,rfl,?_⟩)⟩;rw[iJ];refine tn1 (lN (u:= .row _ _ _ _) M2 (l3.sz hz) hx hdx (iaf z dz rfl gm) fun H3 M3 F3=>?_);exact⟨_,(iaf _ _ M3.o gZ),(iaf _ _ M3.b.b (je _ _ _ _ _)),mz,fun a ha=>kg M3 (Le.mk'.sz hz) ha .nil (by decide) ⟨by decide,trivial⟩ fun H' M' F'=>q H' M' (F1.trans (F2.trans (F3.trans F')))⟩
def vX (T:Txt K mg) (f:Nat) (d:MO P w base mg (5*f+ 3) T.e70 (kS T.c9.a T.c10.a (cs T) f)):FO P w base (5*f+ 7) T.d21 (jL T.c9.a T.c10.a (cs T) f fun L=>∃O,L= .op "join" O):=by
 refine T.d21.F.rd mq fun cdv A0 r s0 H vs Q E c h=>?_;obtain⟨A,s,X,p,Y,t,L,B,o,V,ho,rfl,M,C,hk,⟨O,rfl⟩,it,e,k,q⟩:=h;refine HzX ?_;intro _;refine io _ ((gq (pS (i:=4) mq.nd (gH (gR (J7 (gP T.c9.cl T.n9board (cv 0))) T.c8.cl T.e63.me (iP T) (c.mono (by lia)) T.e63.b .nil ie (gk (cv 2) gn))))
  (gq (pS (i:=5) mq.nd (gH (gR (J7 (cv 0)) T.c9.cl T.e70.me d (c.mono (by lia)) T.e70.b .nil ie (gk (gB gF (cv 1) gu) gn))))
  (gq (pS (i:=6) mq.nd (gH (gR (J7 (cv 0)) T.c9.cl T.e70.me d (c.mono (by lia)) T.e70.b .nil ie (gk (gB gF (cv 1) gu) gn))))
  (gq (gS (gH (gR (J7 (gP T.c9.cl T.n9board (cv 0))) T.c8.cl T.e65.me (jw T) (c.mono (by lia)) T.e65.b .nil ie (gk (kl T.mk7 (ka T) (c.mono (by lia)) rfl T.c7.m T.e60.b .nil ie (gk (cv 5) (gk (cv 2) (gk gu (gk (cv 4) gn))))) gn))))
  (gq (gS (gH (gR (J7 (gP T.c9.cl T.n9board (cv 0))) T.c8.cl T.e65.me (jw T) (c.mono (by lia)) T.e65.b .nil ie (gk (kl T.mk7 (ka T) (c.mono (by lia)) rfl T.c7.m T.e60.b .nil ie (gk (cv 6) (gk (cv 2) (gk gu (gk (cv 4) gn))))) gn))))
  (gw (gS (gH (gR (J7 (gP T.c9.cl T.n9board (cv 0))) T.c8.cl T.e64.me (iO T) (c.mono (by lia)) T.e64.b .nil ie (gk gE (gk (gK (gk (cv 4) gn)) (gk (cv 3) (gk (cv 2) gn)))))))))))))) ?_;refine Hz5 ?_;intros;refine eam (u4 gG gG e) fun a b n=>?_;subst n;refine eae (kC it) fun ys et iy=>?_;refine eal (uj iy) fun y1 y2 n i1 i2=>?_;subst n;cases ji i1;cases ji i2;refine eal (L1 (iT f) e) fun x s2 h2 e l2=>?_;refine eal (L1 (iT f) e) fun y W h3 e N=>?_;have m:Le W X:=by cases dj.inj e;exact Le.us.trans (Le.us.trans Le.mk')
 refine⟨_,(iaf _ _ M.o gZ),(iaf _ _ M.b.b (jv _ _ _ _ _)),?_⟩;refine tc1 (v:= .int p) rfl (zU M (by have:=((Le.pt.trans (l2.trans (N.trans m))).sz k).p;lia) fun H1 U J=>?_);have C1:=C.fl M J;have R:=J.tup M et;refine iag ((iaf _ _ U.o (jx gG))) _ R (gy (gv (j:=1) rfl) (jH U C1 h2 ((N.trans m).sz k) fun H2 S F2 C2 k2=>?_));have e2:=k2 _ _ R;refine iag ((iaf _ _ S.o (jx gG))) _ e2 (gy (gv (j:=2) rfl) (jH S C2 h3 (m.sz k) fun H3 I F3 C3 k3=>?_));cases dj.inj e;refine⟨_,(iaf _ _ I.o gZ),(iaf _ _ I.b.b (jG _ _ _ _ _)),fun z l D g Z=>(iaw z l _ _ _ _ ⟨rfl,gm,rfl,?_⟩)⟩;rw[iJ];refine tn1 (lN (u:= .row _ _ _ _) I (m.sz k) D g (iaf z l rfl gm) fun H4 G F4=>?_);refine⟨_,(iaf _ _ G.o gZ),(iaf _ _ G.b.b (jG _ _ _ _ _)),fun z l D g Z=>(iaw z l _ _ _ _ ⟨rfl,gm,rfl,?_⟩)⟩;rw[iJ];refine tn1 (lN (u:= .row _ _ _ _) G ((Le.us.trans Le.mk').sz k) D g (iaf z l rfl gm) fun H5 F F5=>?_);exact⟨_,(iaf _ _ F.o gZ),(iaf _ _ F.b.b (je _ _ _ _ _)),kJ,fun a ha=>kg F (Le.mk'.sz k) ha (.cons (.flat rfl) .nil) (by simp[kW,iF,sD,kD]) (by simp[okD,wJ,sD,kD]) fun H' M' F'=>q H' M' (J.trans (F2.trans (F3.trans (F4.trans (F5.trans F')))))⟩
def zZ (T:Txt K mg) (f:Nat) (d:MO P w base mg (5*f+ 3) T.e70 (kS T.c9.a T.c10.a (cs T) f)):FO P w base (5*f+ 7) T.d20 (jL T.c9.a T.c10.a (cs T) f fun L=>∃O,L= .op "at" O):=by
 refine T.d20.F.rd oK fun cdv A0 B s0 H vs Q E g h=>?_;obtain⟨A,s,Y,p,Z,t,L,D,v,W,ho,rfl,M,C,hk,⟨O,rfl⟩,it,e,l,q⟩:=h;refine HzX ?_;intro _;refine io _ ((gq (pS (i:=4) oK.nd (gH (gR (J7 (cv 0)) T.c9.cl T.e70.me d (g.mono (by lia)) T.e70.b .nil ie (gk (gB gF (cv 1) gu) gn))))
  (gq (pS (i:=5) oK.nd (gH (gR (J7 (cv 0)) T.c9.cl T.e70.me d (g.mono (by lia)) T.e70.b .nil ie (gk (gB gF (cv 1) gu) gn))))
  (gq (pS (i:=6) oK.nd (gH (gR (J7 (cv 0)) T.c9.cl T.e70.me d (g.mono (by lia)) T.e70.b .nil ie (gk (gB gF (cv 1) gu) gn))))
  (gq (gS (gH (gR (J7 (gP T.c9.cl T.n9board (cv 0))) T.c8.cl T.e65.me (jw T) (g.mono (by lia)) T.e65.b .nil ie (gk (kl T.mk7 (ka T) (g.mono (by lia)) rfl T.c7.m T.e60.b .nil ie (gk (cv 4) (gk (cv 2) (gk gu (gk (cv 3) gn))))) gn))))
  (gq (gS (gH (gR (J7 (gP T.c9.cl T.n9board (cv 0))) T.c8.cl T.e65.me (jw T) (g.mono (by lia)) T.e65.b .nil ie (gk (kl T.mk3 (jg T) (g.mono (by lia)) rfl T.c3.m T.e52.b .nil ie (gk (cv 5) (gk (cv 2) (gk gu gn)))) gn))))
  (gw (gS (gH (gR (J7 (gP T.c9.cl T.n9board (cv 0))) T.c8.cl T.e66.me (jz T) (g.mono (by lia)) T.e66.b .nil ie (gk (cv 6) (gk (cv 3) gn)))))))))))) ?_;refine Hz5 ?_;intros;refine eac (BG e) fun a b c r=>?_;subst r;refine eae (kC it) fun ys R iy=>?_;refine eav (EO iy) fun y1 y2 y3 r i1 i2 i3=>?_;subst r;cases ji i1;cases ji i2;cases ji i3;refine eal (L1 (iT f) e) fun x s1 h1 e l1=>?_;refine eal (L1 (iT f) e) fun y s2 h2 e l2=>?_;refine eal (L1 (iT f) e) fun z X h3 e N=>?_;have o:Le X Y:=by cases dj.inj e;exact Le.us.trans (Le.us.trans Le.fl)
 refine iag ((iaf _ _ M.o (jx gG))) _ R (gy (gv (j:=1) rfl) (jH M C h1 ((l2.trans (N.trans o)).sz l) fun H1 V F1 C1 k1=>?_));have S:=k1 _ _ R;refine iag ((iaf _ _ V.o (jx gG))) _ S (gy (gv (j:=2) rfl) (jH V C1 h2 ((N.trans o).sz l) fun H2 U F2 C2 k2=>?_));have e2:=k2 _ _ S;refine iag ((iaf _ _ U.o (jx gG))) _ e2 (gy (gv (j:=3) rfl) (jH U C2 h3 (o.sz l) fun H3 J F3 C3 k3=>?_));cases dj.inj e;refine⟨_,(iaf _ _ J.o gZ),(iaf _ _ J.b.b (jG _ _ _ _ _)),fun z n F k nx=>(iaw z n _ _ _ _ ⟨rfl,gm,rfl,?_⟩)⟩;rw[iJ];refine tn1 (lN (u:= .row _ _ _ _) J (o.sz l) F k (iaf z n rfl gm) fun H4 I F4=>?_);refine⟨_,(iaf _ _ I.o gZ),(iaf _ _ I.b.b (jG _ _ _ _ _)),fun z n F k nx=>(iaw z _ n _ _ _ ⟨rfl,gm,T.c3.cl,T.n3at,T.n3place,T.n3slot,rfl,?_⟩)⟩;rw[iJ];refine tn1 (lN (u:= .num y p 1) I ((Le.us.trans Le.fl).sz l) F k (iaf z n rfl gm) fun H5 G F5=>?_);exact⟨_,(iaf _ _ G.o gZ),(iaf _ _ G.b.b (kI _ _ _ _ _)),pZ G (by have:=(Le.fl.sz l:Sz _ _).f;lia) fun H' M' F'=>q H' M' (F1.trans (F2.trans (F3.trans (F4.trans (F5.trans F')))))⟩
def vY (T:Txt K mg) (f:Nat) (gE70:MO P w base mg (5*f+ 3) T.e70 (kS T.c9.a T.c10.a (cs T) f)):FO P w base (5*f+ 7) T.d24 (jL T.c9.a T.c10.a (cs T) f fun ρ=>∃ks,ρ= .op "less" ks):=by
 have gD25:=ni (P:=P) (w:=w) (base:=base) T f gE70;refine T.d24.F.rd rb fun cdv A0 outer s0 H vs Q E hr h=>?_;obtain⟨A,s,s',p,own,t,ρ,names,roots,ρs,ho,rfl,M,C,hk,⟨ks,rfl⟩,it,hl,hz,q⟩:=h;refine HzX ?_;intro _;refine io _ ((gq (pS (i:=4) rb.nd (gH (gR (J7 (gP T.c9.cl T.n9board (cv 0))) T.c8.cl T.e63.me (iP T) (hr.mono (by lia)) T.e63.b .nil ie (gk (cv 2) gn))))
  (gq (gS (pF T.d25 gD25 (hr.mono (by lia)) (gk (cv 0) (gk (cv 1) (gk (cv 2) gn)))))
  (gq (gS (gH (gR (J7 (gP T.c9.cl T.n9board (cv 0))) T.c8.cl T.e64.me (iO T) (hr.mono (by lia)) T.e64.b .nil ie (gk gE (gk (gK gn) (gk (cv 4) (gk (cv 2) gn)))))))
  (gq (gS (gH (gR (J7 (gP T.c9.cl T.n9board (cv 0))) T.c8.cl T.e64.me (iO T) (hr.mono (by lia)) T.e64.b .nil ie (gk gE (gk (gK (gk gE (gk (cv 4) gn))) (gk (cv 3) (gk (cv 2) gn)))))))
  (gw (gS (gH (gR (J7 (gP T.c9.cl T.n9board (cv 0))) T.c8.cl T.e64.me (iO T) (hr.mono (by lia)) T.e64.b .nil ie (gk gE (gk (gK (gk gE (gk (cv 4) gn))) (gk (cv 3) (gk (cv 2) gn))))))))))))) ?_;refine Hz4 ?_;intros;refine eam (u4 gG gG hl) fun a b z0=>?_;subst z0;refine eae (kC it) fun ys et iy=>?_;refine eal (uj iy) fun y1 y2 z0 i1 i2=>?_;subst z0;cases ji i1;cases ji i2;refine eae (N1 (iT f) hl) fun s2 h2 hl=>?_;refine eaA (u5 (iT f) h2) fun _ _ _ s3=>fah fun _ _ e2 l3 l2=>?_;have l5:Le s3 s2:=by rw[e2];exact Le.us.trans Le.us
 have l4:Le s2 s':=by cases dj.inj hl;exact Le.mk'.trans (Le.mk'.trans Le.mk')
 refine⟨_,(iaf _ _ M.o gZ),(iaf _ _ M.b.b (jv _ _ _ _ _)),?_⟩;refine tc1 (v:= .int p) rfl (zU M (by have:=((Le.pt.trans (l2.trans (l3.trans (l5.trans l4)))).sz hz).p;lia) fun H1 M1 F1=>?_);have C1:=C.fl M F1;have e1:=F1.tup M et;refine⟨A,_,s2,p,a,b,t,_,names,roots,ρs,ho,rfl,M1,C1,e1,h2,l4.sz hz,fun H2 M2 F2=>?_⟩;cases dj.inj hl;refine⟨_,(iaf _ _ M2.o gZ),(iaf _ _ M2.b.b (je _ _ _ _ _)),mz,fun a ha=>tc2 rfl rfl (kg M2 (l4.sz hz) ha .nil (by decide) ⟨by decide,trivial⟩ fun H3 M3 F3=>?_)⟩;refine⟨_,(iaf _ _ M3.o gZ),(iaf _ _ M3.b.b (je _ _ _ _ _)),kB,fun a ha=>tc2 rfl rfl (kg M3 ((Le.mk'.trans Le.mk').sz hz) ha (.cons (.flat rfl) (.cons (.flat rfl) .nil)) (by simp[kW,iF,sD,kD]) (by simp[okD,wJ,sD,kD]) fun H4 M4 F4=>?_)⟩;exact⟨_,(iaf _ _ M4.o gZ),(iaf _ _ M4.b.b (je _ _ _ _ _)),kB,fun a ha=>kg M4 (Le.mk'.sz hz) ha (.cons (.flat rfl) (.cons (.flat rfl) .nil)) (by simp[kW,iF,sD,kD]) (by simp[okD,wJ,sD,kD]) fun H' M' F'=>q H' M' (F1.trans (F2.trans (F3.trans (F4.trans F'))))⟩
def z5 (T:Txt K mg) (f:Nat) (b:MO P w base mg (5*f+ 3) T.e70 (kS T.c9.a T.c10.a (cs T) f)):FO P w base (5*f+ 7) T.d12 (jL T.c9.a T.c10.a (cs T) f fun B=>∃n k,B= .fn n k):=by
 refine T.d12.F.rd qZ fun cdv A0 o s0 H vs Q E e h=>?_;obtain⟨A,s,N,p,O,t,B,r,m,I,ho,rfl,M,C,hk,⟨n,k,rfl⟩,U,g,d,q⟩:=h;have X:=rP e;refine HzX ?_;intro _;refine⟨_,(gq (pS (i:=4) qZ.nd (gH (gR (J7 (gP T.c9.cl T.n9board (cv 0))) T.c8.cl T.e63.me (iP T) (e.mono (by lia)) T.e63.b .nil ie (gk (cv 2) gn))))
  (gq (nA X (gP T.c9.cl T.n9held (cv 0)) (gB gF (cv 1) gu) (cv 4) rfl)
  (gq (pS (i:=5) qZ.nd (gH (gR (J7 (cv 0)) T.c9.cl T.e70.me b (e.mono (by lia)) T.e70.b .nil ie (gk (gB gF (cv 1) gu) gn))))
  (gw (gS (gH (gR (J7 (gP T.c9.cl T.n9board (cv 0))) T.c8.cl T.e64.me (iO T) (e.mono (by lia)) T.e64.b .nil ie (gk gE (gk (gK (gk (cv 4) (gk (cv 5) gn))) (gk (cv 3) (gk (cv 2) gn))))))))))),?_⟩;refine Hz3 ?_;intros;refine eae (kC U) fun ys et S=>?_;refine eal (uj S) fun y1 y2 J W V=>?_;subst J;cases lK W;cases ji V;refine eal (L1 (iT f) g) fun x L Z g D=>?_;have c:Le L N:=by cases dj.inj g;exact Le.mk'
 have lp:=((Le.pt.trans (Le.ho.trans (D.trans c))).sz d).p;have R:=((Le.ho.trans (D.trans c)).sz d).p;refine⟨_,(iap _ _ ⟨M.o,gZ⟩),(iap _ _ ⟨M.b.b,jv _ _ _ _ _⟩),?_⟩;refine tc1 (v:= .int p) rfl (xh M (by lia) fun H1 l z d1 _=>?_);have C1:=C.fl M z;have F:=z.tup M et;refine eah (l.hold d1 (Ef R) k s.n) fun H2 dp G y=>?_;have C2:=C1.fl l y;have e2:=y.tup l F;refine⟨_,(iap _ _ ⟨l.o,vU⟩),_,F,gy (gv (j:=2) rfl) (iap A.hd H2 ⟨rfl,dp,?_⟩)⟩;refine⟨(iap _ _ ⟨G.o,jx gG⟩),_,e2,gy (gv (j:=2) rfl) (jH G C2 Z (c.sz d) fun H3 u F3 C3 k3=>?_)⟩;cases dj.inj g;exact⟨_,(iap _ _ ⟨u.o,gZ⟩),(iap _ _ ⟨u.b.b,je _ _ _ _ _⟩),kB,fun a Y=>kg u (c.sz d) Y (.cons (.flat rfl) (.cons (.flat rfl) .nil)) (by simp[kW,iF,sD,kD]) (by simp[okD,wJ,sD,kD]) fun H' M' F'=>q H' M' (z.trans (y.trans (F3.trans F')))⟩
def O1 {b:Type} {o:Option Ls} {g:Ls->Option b} {a:b} (h:(match o with|some s=>g s|none=>none)=some a):∃c,o=some c/\g c=some a:=by
 cases e:o with
 |none=>rw[e]at h;cases h
 |some z=>rw[e]at h;exact⟨z,rfl,h⟩
def u9{b:Type} {l:List b} {a:b} (h:l[i]?=some a):l.drop i=a::l.drop (i+ 1):=by obtain⟨c,rfl⟩:=aq.mp h;exact bT c
theorem z6:∀{a:List Int} {xs:List V},Ims H xs (a.map kD)->xs=a.map V.int
 |[],_,.nil=>rfl
 |k::a,_,.cons h t=>by rw[ji h,z6 t];rfl
def lP(h:Im H x (.tup ds)):∃t a,x= .ref t/\H t=some (.tup a)/\Ims H a ds:=by
 cases h with
 |tup e i=>exact iap _ _ ⟨rfl,e,i⟩
section
variable {CL:Zx} {c:Cs} {H H':Hp} {A:La} {s:Ls}
theorem Lm.out (M:Lm CL c H A s) {a:Zx} (h:H a=none):a∉A.ch:=fun m=>by
 obtain⟨_,b,⟨g,e,_⟩,⟨f,d,_⟩,_⟩:=M;rcases ak.mp m with m|m;·exact b.out h m
 ·rcases aj.mp m with rfl|m;·rw[h]at e;cases e
  ·rcases aj.mp m with rfl|m;·rw[h]at d;cases d
   ·cases m
theorem Lm.other (M:Lm CL c H A s) {a:Zx} (e:H a=some (.lst xs)) (n:a∉A.ch):Lm CL c (Zk H a (.lst ys)) A s:=by refine eaz (M.nl (o:= .lst ys) e) fun f d b=>?_;exact⟨f,M.b.other e fun z=>n (ao _ z),d,b,M.ne⟩
def FL.put {c:Hp} (F:FL A c H) {a:Zx} (h:c a=none) (o:HO):FL A c (Zk H a o):=fun b u e n=>by rw[gx (gD e h)];exact F b u e n
end
def Eg {l:List (Str×Int)} {i:Nat} (h:Ims H xs (l.map fdD)) (e:xs[i]?=some v):∃p t,l[i]?=some p/\v= .ref t/\H t=some (.tup [.str p.1,.int p.2]):=by refine eae (kx h e) fun d b k=>?_;rw[aM]at b;refine eae (dA.mp b) fun p g a=>?_;subst a;refine eav (rJ k) fun t y z a j f c=>?_;subst a;cases lK f;cases ji c;exact iap p t ⟨g,rfl,j⟩
def BH {l:List (Str×Str×Int)} {i:Nat} (h:Ims H b (l.map amD)) (e:b[i]?=some v):∃p t,l[i]?=some p/\v= .ref t/\H t=some (.tup [.str p.1,.str p.2.1,.int p.2.2]):=by refine eae (kx h e) fun d c m=>?_;rw[aM]at c;obtain⟨p,j,rfl⟩:=dA.mp c;obtain⟨t,b,rfl,k,a⟩:=lP m;obtain⟨x,y,z,rfl,a,g,f⟩:=EO a;cases lK a;cases lK g;cases ji f;exact⟨p,t,j,rfl,k⟩
def yp (T:Txt K mg) (f:Nat) (g:MO P w base mg (5*f+ 3) T.e70 (kS T.c9.a T.c10.a (cs T) f)):FO P w base (5*f+ 7) T.d19 (jL T.c9.a T.c10.a (cs T) f fun S=>∃u,S= .row u):=by
 refine T.d19.F.rd pT fun cdv A0 L s0 H vs Q E z h=>?_;obtain⟨A,s,s',p,J,t,S,O,e,I,ho,rfl,M,C,Y,⟨u,rfl⟩,it,B,y,q⟩:=h;refine HzX ?_;intro _;refine io _ ((gq (pS (i:=4) pT.nd (gH (gR (J7 (gP T.c9.cl T.n9board (cv 0))) T.c8.cl T.e63.me (iP T) (z.mono (by lia)) T.e63.b .nil ie (gk (cv 2) gn))))
  (gq (kj IW rfl (p8 (gB gF (cv 1) gu)) (pN (i:=5) pT.nd)
   (gw (gS (gH (gR (J7 (gP T.c9.cl T.n9board (cv 0))) T.c8.cl T.e66.me (jz T) (z.mono (by lia)) T.e66.b .nil ie (gk (gH (gR (J7 (cv 0)) T.c9.cl T.e70.me g (z.mono (by lia)) T.e70.b .nil ie (gk (cv 5) gn))) (gk (cv 4) gn)))))))
  (gw (gS (gH (gR (J7 (gP T.c9.cl T.n9board (cv 0))) T.c8.cl T.e64.me (iO T) (z.mono (by lia)) T.e64.b .nil ie (gk gE (gk (gK (gk (cv 4) gn)) (gk (cv 3) (gk (cv 2) gn))))))))))) ?_;refine Hz2 ?_;intros;refine eae (kC it) fun ys et iy=>?_;refine eae (zY iy) fun y1 b i1=>?_;subst b;refine eal (lP i1) fun tl xs b el il=>?_;subst b;cases z6 il;refine eae (O1 B) fun U Z B=>?_;have l1:=xk (iT f) Z;have r:Le U s':=by cases dj.inj B;exact Le.mk'
 refine⟨_,(iaf _ _ M.o gZ),(iaf _ _ M.b.b (jv _ _ _ _ _)),?_⟩;refine tc1 (v:= .int p) rfl (zU M (by have:=((Le.pt.trans (l1.trans r)).sz y).p;lia) fun H1 R G=>?_);have C1:=C.fl M G;have e1:=G.tup M et;have l:=G.tup M el;refine io _ e1 (gy (gv (j:=1) rfl) (iad tl rfl ⟨_,J9 l⟩ (tq (xs:=u.map V.int) (fun i n m=>∃(N:Option V) (o:Ls),n=[some (.ref A.l),some (.ref t),some (.int p),some (.int J),some (.int s.n),N]/\Lm T.c9.a (cs T) m A o/\CJ (ox I e ho f) s.n (u.drop i) o=some U/\FL A H1 m)
   (iaa none _ rfl R Z FL.refl) (fun i n m _ ⟨_,_,_,_,_,F⟩=>J9 (F.tup R l)) ?_ ?_)));·refine fun i v n m X=>faf fun N o=>fac fun b d c D=>?_;subst b;rw[aM]at X;refine eae (dA.mp X) fun k Y b=>?_;subst b;rw[u9 Y]at c;refine eal (L1 (iT f) c) fun x s2 h3 c l2=>?_;have W:=xk (iT f) c;have C2:=C1.fl R D;dsimp only[gX];refine⟨_,(iaf _ _ d.o gZ),(iaf _ _ d.b.b (kI _ _ _ _ _)),(iaf _ _ d.o (jx gG)),?_⟩;refine tc1 (v:= .int k) rfl (jH d C2 h3 ((Le.fl.trans (W.trans r)).sz y) fun H3 M3 F3 C3 k3=>?_);refine tc1 (v:= .int s.n) rfl (pZ M3 (by have:=((Le.fl.trans (W.trans r)).sz y).f;lia) fun H4 M4 F4=>?_);exact iaa _ _ rfl M4 c (D.trans (F3.trans F4))
 ·refine fun n m=>faf fun N o=>fac fun b d c D=>?_;subst b;rw[aC,cf]at c;cases dj.inj c;cases dj.inj B;exact⟨_,(iaf _ _ d.o gZ),(iaf _ _ d.b.b (je _ _ _ _ _)),kJ,fun a ha=>kg d (r.sz y) ha (.cons (.flat rfl) .nil) (by simp[kW,iF,sD,kD]) (by simp[okD,wJ,sD,kD]) fun H' M' F'=>q H' M' (G.trans (D.trans F'))⟩
def yq (T:Txt K mg) (f:Nat) (I:MO P w base mg (5*f+ 3) T.e70 (kS T.c9.a T.c10.a (cs T) f)):FO P w base (5*f+ 7) T.d15 (jL T.c9.a T.c10.a (cs T) f fun ρ=>∃l,ρ= .rcd l):=by
 refine T.d15.F.rd pR fun cdv A0 X s0 H vs Q E hr h=>?_;obtain⟨A,s,s',p,G,t,ρ,names,b,o,ho,rfl,M,C,hk,⟨l,rfl⟩,it,g,hz,q⟩:=h;refine HzX ?_;intro _;refine io _ ((gq (pS (i:=4) pR.nd (gN gn))
  (gq (kj IW rfl (p8 (gB gF (cv 1) gu)) (pN (i:=5) pR.nd)
   (gw (gS (jT (lB ff fg fh iu (J7 (cv 4)) (gk (J7 (gK (gk (gB gF (cv 5) gu) (gk (gH (gR (J7 (cv 0)) T.c9.cl T.e70.me I (hr.mono (by lia)) T.e70.b .nil ie (gk (gB gF (cv 5) gu) gn))) gn)))) gn))))))
  (gw (gS (gH (gR (J7 (gP T.c9.cl T.n9board (cv 0))) T.c8.cl T.e64.me (iO T) (hr.mono (by lia)) T.e64.b .nil ie (gk gE (gk (iQ iG rfl T.z_tuple jJ (gk (cv 4) gn)) (gk (cv 3) (gk (cv 2) gn))))))))))) ?_;refine Hz2 ?_;intros;have sl:=IS;refine eae (oT hk) fun k0 c hk0=>?_;subst c;have fw:l.length<=10:=C.few _ _ hk0;refine eae (kC it) fun ys et iy=>?_;refine eae (zY iy) fun y1 c i1=>?_;subst c;refine eal (lP i1) fun tl xs c el il=>?_;subst c;obtain⟨n,r,h1,g⟩:∃n r,AX (ox o b ho f) l [] s=some (n,r)/\some (r.mk' ⟨"rec",prD n,G,k0⟩)=some s':=by
  unfold kX at g;dsimp only at g
  cases e:AX (ox o b ho f) l [] s with
  |none=>rw[e]at g;cases g
  |some z=>obtain⟨n,r⟩:=z;rw[e]at g;exact iaf n r rfl g
 obtain⟨l1,n1⟩:=xi (iT f) h1;have n1:n.length=0+l.length:=n1;have l3:Le r s':=by cases dj.inj g;exact Le.mk'
 refine⟨mz,fun d hd=>?_⟩;have Z:=M.out hd;have W:=gr hd (.lst []);refine io _ (W _ _ et) (gy (gv (j:=1) rfl) (iad tl rfl ⟨_,J9 (W _ _ el)⟩ (tq (xs:=xs) (fun i O y=>∃(Y:Option V) (R:Ls) (k:List (Str×Int)) (B:List V),O=[some (.ref A.l),some (.ref t),some (.int k0),some (.int G),some (.ref d),Y]/\Lm T.c9.a (cs T) y A R/\AX (ox o b ho f) (l.drop i) k R=some (n,r)/\FL A H y/\y d=some (.lst B)/\Ims y B (k.map prL))
   (iaj none _ ([]) ([]) rfl (M.same W) h1 (FL.same W) gm .nil) (fun i O y _ ⟨_,_,_,_,_,_,_,F,_⟩=>J9 (F.tup M el)) ?_ ?_)))
 ·refine fun i v O y hv=>faj fun Y R k B=>fag fun c D m N J S=>?_;subst c;refine eal (Eg (il.mono (M.tk N)) hv) fun p t' hp c L=>?_;subst c;rw[u9 hp]at m;refine eal (L1 (iT f) m) fun x s2 h3 m l2=>?_;obtain⟨l4,n4⟩:=xi (iT f) m;have n4:n.length=_:=n4;rw[aO,aX]at n4;have lz:=S.length;rw[aC]at lz;have C2:=C.fl M N;dsimp only[gX];refine iag ⟨_,J⟩ _ L (gy (gv (j:=0) rfl) (iag ((iaf _ _ D.o (jx gG))) _ L (gy (gv (j:=1) rfl) (jH D C2 h3 ((l4.trans l3).sz hz) fun H3 M3 F3 C3 k3=>?_))));refine⟨kB,fun t2 u=>(iad B ?_ (by lia) ?_)⟩;·exact gr u _ _ _ (F3 _ _ J Z)
  have U:=gr u (.tup [.str p.1,.int x]);have e4:=U _ _ (F3 _ _ J Z);refine iaj _ _ _ _ rfl ((M3.same U).other e4 Z) m (((N.trans F3).trans (FL.same U)).put hd _) gm ?_;rw[bB];exact(((S.mono k3).mono (gT.tk U)).app (.cons (jA u (.cons (.flat rfl) (.cons (.flat rfl) .nil))) .nil)).mono (ky e4).tk
 ·refine fun O y=>faj fun Y R k B=>fag fun c D m N J S=>?_;subst c;have lx:=il.length;rw[aC]at lx;rw[lx,cf]at m;cases dj.inj m;cases dj.inj g;refine⟨_,(iaf _ _ D.o gZ),(iaf _ _ D.b.b (je _ _ _ _ _)),d,B,rfl,.inl ⟨J8 J,fun a ha=>?_⟩⟩;exact tc2 rfl rfl (kg D (l3.sz hz) ha S (vI _) (zh (by lia)) fun H' M' F'=>q H' M' (N.trans F'))
def vZ (T:Txt K mg) (f:Nat) (D:MO P w base mg (5*f+ 3) T.e70 (kS T.c9.a T.c10.a (cs T) f)):FO P w base (5*f+ 7) T.d18 (jL T.c9.a T.c10.a (cs T) f fun ρ=>∃k l,ρ= .case k l):=by
 refine T.d18.F.rd kR fun cdv A0 outer s0 H vs Q E N h=>?_;obtain⟨A,s,s',p,g,t,ρ,names,b,G,ho,rfl,M,C,hk,⟨k,l,rfl⟩,it,n,Y,q⟩:=h;have hu:=rP N;refine HzX ?_;intro _;refine io _ ((gq (pS (i:=4) kR.nd (gH (gR (J7 (cv 0)) T.c9.cl T.e70.me D (N.mono (by lia)) T.e70.b .nil ie (gk (gB gF (cv 1) gu) gn))))
  (gq (pS (i:=5) kR.nd (gN gn))
  (gq (kj IW rfl (p8 (gB gF (cv 1) gu)) (pN (i:=6) kR.nd)
   (gq (pS (i:=7) kR.nd (gH (gR (J7 (gP T.c9.cl T.n9board (cv 0))) T.c8.cl T.e63.me (iP T) (N.mono (by lia)) T.e63.b .nil ie (gk (cv 2) gn))))
   (gq (nA hu (gP T.c9.cl T.n9held (cv 0)) (gB gF (cv 6) gu) (cv 7) rfl)
   (gq (gS (gH (gR (J7 (gP T.c9.cl T.n9board (cv 0))) T.c8.cl T.e66.me (jz T) (N.mono (by lia)) T.e66.b .nil ie (gk (gH (gR (J7 (cv 0)) T.c9.cl T.e70.me D (N.mono (by lia)) T.e70.b .nil ie (gk (gB gF (cv 6) gu) gn))) (gk (cv 3) gn)))))
   (gw (gS (jT (lB ff fg fh iu (J7 (cv 5)) (gk (J7 (gK (gk (gB gF (cv 6) gu) (gk (cv 7) gn)))) gn)))))))))
  (gw (gS (gH (gR (J7 (gP T.c9.cl T.n9board (cv 0))) T.c8.cl T.e65.me (jw T) (N.mono (by lia)) T.e65.b .nil ie (gk (kl T.mk6 (ou T) (N.mono (by lia)) rfl T.c6.m T.e58.b .nil ie (gk (cv 4) (gk (cv 2) (gk gu (gk (iQ iG rfl T.z_tuple jJ (gk (cv 5) gn)) gn))))) gn))))))))) ?_;refine Hz3 ?_;intros;have sl:=IS;refine eae (oT hk) fun X c hk0=>?_;subst c;have fw:l.length<=10:=C.few _ _ hk0;refine eae (kC it) fun ys et iy=>?_;refine eal (uj iy) fun y1 y2 c i0 i1=>?_;subst c;cases ji i0;refine eal (lP i1) fun tl xs c el il=>?_;subst c;refine eal (L1 (iT f) n) fun x0 J h0 n _=>?_;obtain⟨o,y,h1,n⟩:∃o y,BD (ox G b ho f) X g l [] J=some (o,y)/\some (y.us (.case x0 X 0 o))=some s':=by
  cases e:BD (ox G b ho f) X g l [] J with
  |none=>rw[e]at n;cases n
  |some z=>obtain⟨o,y⟩:=z;rw[e]at n;exact iaf o y rfl n
 obtain⟨l1,n1⟩:=xj (iT f) h1;have n1:o.length=0+l.length:=n1;have l1:Le J y:=l1;have l3:Le y s':=by cases dj.inj n;exact Le.us
 refine iag ((iaf _ _ M.o (jx gG))) _ et (gy (gv (j:=1) rfl) (jH M C h0 ((l1.trans l3).sz Y) fun H0 M0 F0 C0 L=>?_));have et0:=L _ _ et;have el0:=L _ _ el;have il0:=il.mono L;refine⟨mz,fun d hd=>?_⟩;have nd:=M0.out hd;have S1:=gr hd (.lst []);refine io _ (S1 _ _ et0) (gy (gv (j:=2) rfl) (iad tl rfl ⟨_,J9 (S1 _ _ el0)⟩ (tq (xs:=xs) (fun i σ S=>∃(o6 o7:Option V) (W:Ls) (r:List (Str×Int)) (I:List V),σ=[some (.ref A.l),some (.ref t),some (.int X),some (.int g),some (.int x0),some (.ref d),o6,o7]/\Lm T.c9.a (cs T) S A W/\BD (ox G b ho f) X g (l.drop i) r W=some (o,y)/\FL A H0 S/\S d=some (.lst I)/\Ims S I (r.map prL))
   (iac none none _ ([]) ([]) rfl (M0.same S1) h1 (FL.same S1) gm .nil) (fun i σ S _ ⟨_,_,_,_,_,_,_,_,F,_⟩=>J9 (F.tup M0 el0)) ?_ ?_)))
 ·refine fun i v σ S hv=>fai fun o6 o7 W r I=>fag fun c m B F2 ez iz=>?_;subst c;refine eal (BH (il0.mono (M0.tk F2)) hv) fun p t' hp c et'=>?_;subst c;rw[u9 hp]at B;refine eal (L1 (iT f) B) fun x s2 h3 B l2=>?_;obtain⟨l4,n4⟩:=xj (iT f) B;have n4:o.length=_:=n4;rw[aO,aX]at n4;have lz:=iz.length;rw[aC]at lz;have C2:=C0.fl M0 F2;have l5:Le s2 s':=Le.fl.trans (Le.trans l4 l3);have lp:=((Le.pt.trans (Le.ho.trans (l2.trans l5))).sz Y).p;have lq:=((Le.ho.trans (l2.trans l5)).sz Y).p;dsimp only[gX];refine⟨_,(iaf _ _ m.o gZ),(iaf _ _ m.b.b (jv _ _ _ _ _)),?_⟩;refine tc1 (v:= .int X) rfl (xh m (by lia) fun H3 M3 F3 d3 _=>?_);have e3:=F3.tup m et';refine eah (M3.hold d3 (Ef lq) p.2.2 W.n) fun H4 dp M4 F4=>?_;have e4:=F4.tup M3 e3;have C4:=(C2.fl m F3).fl M3 F4;refine⟨_,(iaf _ _ M3.o vU),_,e3,gy (gv (j:=2) rfl) (iab A.hd H4 rfl dp ?_)⟩;refine⟨_,(iaf _ _ M4.o gZ),(iaf _ _ M4.b.b (kI _ _ _ _ _)),(iaf _ _ M4.o (jx gG)),_,e4,gy (gv (j:=2) rfl) (jH M4 C4 h3 (l5.sz Y) fun H5 M5 F5 C5 k5=>?_)⟩;refine tc1 (v:= .int g) rfl (pZ M5 (by have:=(l5.sz Y).f;lia) fun H6 M6 F6=>?_);have e6:=F6.tup M5 (k5 _ _ e4);have U:=F3.trans (F4.trans (F5.trans F6));have R:=U _ _ ez nd;refine iag ⟨_,R⟩ _ e6 (gy (gv (j:=0) rfl) ⟨kB,fun t2 O=>(iad I ?_ (by lia) ?_)⟩);·exact gr O _ _ _ R
  have S7:=gr O (.tup [.str p.1,.int W.n]);have e7:=S7 _ _ R;refine iac _ _ _ _ _ rfl ((M6.same S7).other e7 nd) B (((F2.trans U).trans (FL.same S7)).put hd _) gm ?_;rw[bB];exact(((iz.mono (m.tk U)).mono (gT.tk S7)).app (.cons (jA O (.cons (.flat rfl) (.cons (.flat rfl) .nil))) .nil)).mono (ky e7).tk
 ·refine fun σ S=>fai fun o6 o7 W r I=>fag fun c m B F2 ez iz=>?_;subst c;have lx:=il.length;rw[aC]at lx;rw[lx,cf]at B;cases dj.inj B;cases dj.inj n;refine⟨_,(iaf _ _ m.o gZ),(iaf _ _ m.b.b (jG _ _ _ _ _)),d,I,rfl,.inl ⟨J8 ez,fun a ha x dx hx Z nx=>(iaw x dx _ _ _ _ ⟨rfl,gm,rfl,?_⟩)⟩⟩;rw[iJ];have S3:=gr ha (.tup I);exact tn1 (lN (u:= .case _ _ _ o) (m.same S3) (l3.sz Y) hx Z (iae x dx _ rfl gm ((jA ha iz).mono (gT.tk (ke hx Z))) (by lia)) fun H' M' F'=>q H' M' (F0.trans (F2.trans ((FL.same S3).trans F'))))
def va:(fLy p h b hd sd).lookup ("starts":Str)=some (.ref sd):=pY.2.2.2.2.2
def p4:(fLy p h b hd sd).lookup ("program":Str)=some (.ref p):=pY.1
def BI:(fLy p h b hd sd).lookup ("homes":Str)=some (.ref h):=pY.2.1
def z7:(fLy p h b hd sd).lookup ("papers":Str)=some .non:=pY.2.2.1
def Lm.start {c:Cs} {A:La} {s:Ls} {p0:Int} (M:Lm CL c H A (s.pt p0)) (i:DkI H A.sd s.st s.D.pts.length) (t:s.D.pts.length<1000000) (k v:Int):∃a,yt H A.sd (.int k) (.int v) a/\Lm CL c a A ((s.pt p0).begin k v)/\FL A H a:=by
 refine eaE (i.put (by lia) k v) fun a d l h=>?_;obtain⟨o,j⟩:=l;subst j;refine eae i fun p e _=>?_;obtain⟨f,b,⟨q,r,m⟩,_,g⟩:=M;have n:(s.D.pts++[p0]).length=s.D.pts.length+ 1:=by rw[aO];rfl
 refine⟨_,d,⟨by rw[gx (jP f e (fun z=>nomatch z))];exact f,Bw.dk b e,⟨q,by rw[gx g];exact r,m⟩,?_,g⟩,yi (by simp[La.ch])⟩;show DkI _ A.sd (put s.st k v) (s.D.pts++[p0]).length;rw[n];exact h
inductive XSt (CP:Zx) (vs:List V) (H:Hp) (Q:VK):Prop
 |mk (a n r w dx:Zx) (xs:List V) (names:Zd) (roots:List Nat) (ρs:List Ro) (p:Int) (d:Nat) (e:vs=[.ref a,.int p,.int (d:Int)]) (pr:PrA CP H a n r w dx xs names roots ρs) (hd:d<roots.length) (q:Q (.bl (inF roots p d)) H)
def HK (b:Zx):Sp:=fun a H Q _=>XSt b a H Q
def BJ(h:AY L roots d s=some (r,s')):∃a c b,atZ roots d=some a/\L (a:Int) ((s.pt a).begin d s.n)=some (c,b)/\r=s.n/\s'=b.fl c s.n:=by
 unfold AY at h
 cases e:atZ roots d with
 |none=>rw[e]at h;cases h
 |some a=>
  rw[e]at h;dsimp only at h
  cases f:L (a:Int) ((s.pt a).begin d s.n)with
  |none=>rw[f]at h;cases h
  |some z=>obtain⟨c,b⟩:=z;rw[f]at h;cases h;exact iae a c b rfl f rfl rfl
inductive XLd (CL CP:Zx) (c:Cs) (f:Nat) (vs:List V) (H:Hp) (Q:VK):Prop
 |mk (A:La) (s s':Ls) (d r:Int) (names:Zd) (roots:List Nat) (ρs:List Ro) (ho:Nat->Option Hm) (e:vs=[.ref A.l,.int d]) (M:Lm CL c H A s) (C:Cp CP H A names roots ρs ho) (hl:AY (ox ρs roots ho f) roots d s=some (r,s')) (hz:Sz 1000000 s') (q:∀H',Lm CL c H' A s'->FL A H H'->Q (.int r) H')
def HL (d b:Zx) (c:Cs) (f:Nat):Sp:=fun a H Q _=>XLd d b c f a H Q
def vb (T:Txt K mg):FO P w base 1 T.d1 (HK T.c10.a):=by
 refine T.d1.F.rd qb fun t B f y H x Q E z h=>?_;obtain⟨a,n,r,w,l,u,g,b,m,p,d,rfl,c,A,q⟩:=h;refine HzX ?_;intro _;refine io _ ((gq (pS (i:=3) qb.nd (gY jC (cv 2) gu))
  (gw (gM (EY (pB jb (cv 3) (hV g9 rfl T.z_len jB (gk (gP T.c10.cl T.n10roots (cv 0)) gn))) (uo (pB vJ (cv 1) (gB gC (gP T.c10.cl T.n10roots (cv 0)) (cv 3))))))))) ?_;refine⟨_,(iaf l _ c.o (qA _ _ _)),r,_,rfl,.inl (J8 c.r),_,rfl,?_⟩;show if(false ^^ decide ((d:Int)+ 1=(((b.map nI).length:Nat):Int)))=true then _ else _;rw[fA,aC,show decide ((d:Int)+ 1=(b.length:Int))=decide (d+ 1=b.length)from decide_eq_decide.mpr (by lia)];have o:atZ b ((d:Int)+ 1)=b[d+ 1]?:=rfl;unfold inF at q;rw[o]at q;by_cases e:d+ 1=b.length;·rw[b9 (by lia)]at q;rw[jo e];exact lQ q
 ·have k:b[d+ 1]?=some (b[d+ 1]'(by lia)):=bf (by lia);rw[k]at q;rw[iY e];refine kU ⟨_,(iaf l _ c.o (qA _ _ _)),_,c.r,gy (v:=nI (b[d+ 1]'(by lia))) (gv (j:=d+ 1) (by rw[aM,k];rfl)) ?_⟩;exact q
def jO (T:Txt K mg) (f:Nat) (b:MO P w base mg (5*f+ 3) T.e70 (kS T.c9.a T.c10.a (cs T) f)):MO P w base mg (5*f+ 4) T.e69 (HL T.c9.a T.c10.a (cs T) f):=by
 refine T.e69.F.rd jc fun U A0 o s0 H vs Q E e h=>?_;obtain⟨A,s,s',d,r,p,l,F,ho,rfl,M,C,N,c,q⟩:=h;have L:=rP e;refine HzX ?_;intro _;refine io _ ((gq (pS (i:=2) jc.nd (gB gC (gP T.c10.cl T.n10roots (gP T.c9.cl T.n9program (cv 0))) (cv 1)))
  (gq (pS (i:=3) jc.nd (gH (gR (J7 (gP T.c9.cl T.n9board (cv 0))) T.c8.cl T.e63.me (iP T) (e.mono (by lia)) T.e63.b .nil ie (gk (cv 2) gn))))
  (gq (nA L (gP T.c9.cl T.n9starts (cv 0)) (cv 1) (cv 3) rfl)
  (gq (gS (gH (gR (J7 (gP T.c9.cl T.n9board (cv 0))) T.c8.cl T.e66.me (jz T) (e.mono (by lia)) T.e66.b .nil ie (gk (gH (gR (J7 (cv 0)) T.c9.cl T.e70.me b (e.mono (by lia)) T.e70.b .nil ie (gk (cv 2) gn))) (gk (cv 3) gn)))))
  (gw (gM (cv 3)))))))) ?_;refine Hz4 ?_;intros;refine eav (BJ N) fun m q0 I O z k G=>?_;subst k;subst G;refine eae (oT O) fun d k t=>?_;subst k;refine eaG C.p fun n rr w' dx xs=>f8 fun x _=>?_;have y:=iT f _ _ _ _ z;have lp:=((Le.pt.trans (Le.be.trans (y.trans Le.fl))).sz c).p;have J:=((Le.be.trans (y.trans Le.fl)).sz c).p;refine⟨_,(iaf _ _ M.o p4),_,(iaf _ _ x.o (qA _ _ _)),?_⟩;refine io _ x.r (gy (v:=nI m) (gv (j:=d) (by rw[aM,t];rfl)) ?_);dsimp only[gX];refine⟨_,(iaf _ _ M.o gZ),(iaf _ _ M.b.b (jv _ _ _ _ _)),?_⟩;refine tc1 (v:= .int m) rfl (xh M (by lia) fun H1 u D _ S=>?_);refine eah (u.start S (Ef J) d s.n) fun X R g B=>?_;have C2:=(C.fl M D).fl u B;refine⟨_,(iaf _ _ u.o va),A.sd,X,rfl,R,?_⟩;refine⟨_,(iaf _ _ g.o gZ),(iaf _ _ g.b.b (kI _ _ _ _ _)),(iaf _ _ g.o (jx gG)),?_⟩;refine tc1 (v:= .int m) rfl (jH g C2 z (Le.fl.sz c) fun H3 W Z C3 k3=>?_);refine tc1 (v:= .int s.n) rfl (pZ W (by have:=(Le.fl.sz c:Sz _ I).f;lia) fun H4 V Y=>?_);exact q _ V (D.trans (B.trans (Z.trans Y)))
noncomputable def dpF (L:Lf) (roots:List Nat) (p d:Int) (s:Ls):Option (Int×Ls):=if inF roots p d then(s.st d).map fun q=>(q,s)else AY L roots d s
inductive XDp (CL CP:Zx) (c:Cs) (f:Nat) (vs:List V) (H:Hp) (Q:VK):Prop
 |mk (A:La) (s s':Ls) (p:Int) (d:Nat) (r:Int) (names:Zd) (roots:List Nat) (ρs:List Ro) (ho:Nat->Option Hm) (e:vs=[.ref A.l,.int p,.int (d:Int)]) (M:Lm CL c H A s) (C:Cp CP H A names roots ρs ho) (hd:d<roots.length) (hl:dpF (ox ρs roots ho f) roots p d s=some (r,s')) (hz:Sz 1000000 s') (q:∀H',Lm CL c H' A s'->FL A H H'->Q (.int r) H')
def HM (d b:Zx) (c:Cs) (f:Nat):Sp:=fun a H Q _=>XDp d b c f a H Q
inductive XMp (CL CP:Zx) (c:Cs) (f:Nat) (vs:List V) (H:Hp) (Q:VK):Prop
 |mk (A:La) (s s':Ls) (k:Nat) (r:Int) (ρ:Ro) (h:Hm) (names:Zd) (roots:List Nat) (ρs:List Ro) (ho:Nat->Option Hm) (e:vs=[.ref A.l,.int (k:Int)]) (M:Lm CL c H A s) (C:Cp CP H A names roots ρs ho) (hk:ρs[k]?=some ρ) (hh:ho k=some h) (hl:mU (ox ρs roots ho f) roots h k s=some (r,s')) (hz:Sz 1000000 s') (q:∀H',Lm CL c H' A s'->FL A H H'->Q (.int r) H')
def HN (CL CP:Zx) (c:Cs) (f:Nat):Sp:=fun vs H Q _=>XMp CL CP c f vs H Q
def HP:Sp:=fun _ _ _ _=>False
def z8 (T:Txt K mg):FO P w base 1 T.d2 HP:=
 T.d2.F.ok zM (fun b H Q E h=>h.elim) (fun c f a d H b Q E e h=>h.elim)
def oy (T:Txt K mg) (f:Nat) (i:MO P w base mg (5*f+ 3) T.e70 (kS T.c9.a T.c10.a (cs T) f)):FO P w base (5*f+ 5) T.d11 (HM T.c9.a T.c10.a (cs T) f):=by
 have j:=jO (P:=P) (w:=w) (base:=base) T f i;refine T.d11.F.rd nZ fun J O l N H L Q E k h=>?_;obtain⟨A,s,t,p,d,r,b,a,c,D,rfl,M,C,F,g,y,q⟩:=h;have B:=rP k;refine HzX ?_;intro _;refine io _ ((gq (iC (oB (pF T.d1 (vb T) (k.mono (by lia)) (gk (gP T.c9.cl T.n9program (cv 0)) (gk (cv 1) (gk (cv 2) gn)))))
   (gw (gM (iq B (gP T.c9.cl T.n9starts (cv 0)) (cv 2))))
   gQ)
  (gq (iC (yB (yA (gP T.c9.cl T.n9papers (cv 0))))
   (gw (gM (gH (gR (J7 (cv 0)) T.c9.cl T.e69.me j (k.mono (by lia)) T.e69.b .nil ie (gk (cv 2) gn)))))
   gQ)
  (gw (gM (pF T.d2 (z8 T) (k.mono (by lia)) (gk (gP T.c9.cl T.n9board (cv 0)) (gk (gB gC (gP T.c9.cl T.n9papers (cv 0)) (cv 2)) (gk (cv 1) gn))))))))) ?_;refine Hz2 ?_;intros;refine eaG C.p fun n u o I m=>f8 fun x _=>?_;refine⟨_,(iaf _ _ M.o p4),A.p,n,u,o,I,m,b,a,c,p,d,rfl,x,F,_,rfl,?_⟩;unfold dpF at g
 cases e:inF a p d with
 |true=>rw[e,ip rfl]at g;refine eae (dA.mp g) fun v z G=>?_;cases G;exact lQ ⟨_,(iaf _ _ M.o va),A.sd,_,rfl,M.sd.get z,q _ M FL.refl⟩
 |false=>rw[e,gU (by decide)]at g;refine kU ⟨_,(iaf _ _ M.o z7),_,rfl,lQ ⟨(iaf _ _ M.o (jx gG)),?_⟩⟩;exact⟨A,s,t,d,r,b,a,c,D,rfl,M,C,g,y,q⟩
def r9 (T:Txt K mg) (f:Nat) (b:MO P w base mg (5*f+ 3) T.e70 (kS T.c9.a T.c10.a (cs T) f)):FO P w base (5*f+ 6) T.d10 (HN T.c9.a T.c10.a (cs T) f):=by
 have l:=oy (P:=P) (w:=w) (base:=base) T f b;refine T.d10.F.rd ng fun X A0 n s0 H vs Q E o h=>?_;obtain⟨A,s,D,k,r,ρ,h,g,e,m,O,rfl,M,C,R,z,a,u,q⟩:=h;have N:=rP o;refine HzX ?_;intro _;refine⟨_,(gq (pS (i:=2) ng.nd (gB gC (gP T.c9.cl T.n9homes (cv 0)) (cv 1)))
  (gq (iC (gL jb (gB gF (cv 2) gu) gE)
   (gw (gM (gH (gR (J7 (cv 0)) T.c9.cl T.e70.me b (o.mono (by lia)) T.e70.b .nil ie (gk (gB gF (cv 2) gu) gn)))))
   gQ)
  (gq (iC (gL jb (gB gF (cv 2) gu) gE)
   (gw (gM (pF T.d11 l (o.mono (by lia)) (gk (cv 0) (gk (cv 1) (gk (gB gF (cv 2) gu) gn))))))
   gQ)
  (gw (gM (iq N (gP T.c9.cl T.n9held (cv 0)) (gB gF (cv 2) gu))))))),?_⟩;refine Hz3 ?_;intros;refine eah C.h fun hs V _ J=>?_;refine eae (J _ _ R) fun y U p=>?_;rw[z]at p;refine eav (rJ (show Im H y (.tup [sD h.1,kD h.2])from p)) fun t y1 y2 B c I G=>?_;subst B;cases lK I;cases ji G;refine⟨_,(iap _ _ ⟨M.o,BI⟩),_,V,gy (gv U) ?_⟩;dsimp only[gX];unfold mU at a;by_cases e1:h.1="let"
 ·rw[ip e1]at a;refine jy (i:=2) (x:="let") ?_ c (jo e1) ?_;·rfl
  exact⟨(iap _ _ ⟨M.o,jx gG⟩),_,c,gy (gv (j:=1) rfl) (jH M C a u fun Z Y F' _ _=>q Z Y F')⟩
 rw[gU e1]at a;refine hX (i:=2) (x:="let") ?_ c (iY e1) ?_;·rfl
 dsimp only[hG];by_cases e2:h.1="def"
 ·rw[ip e2]at a;refine eae (C.dom _ _ z e2) fun d S F=>?_;rw[S]at a c;refine jy (i:=2) (x:="def") ?_ c (jo e2) ?_;·rfl
  exact⟨_,c,gy (gv (j:=1) rfl) ⟨A,s,D,k,d,r,g,e,m,O,rfl,M,C,F,a,u,q⟩⟩
 rw[gU e2]at a;refine hX (i:=2) (x:="def") ?_ c (iY e2) ?_;·rfl
 refine eae (dA.mp a) fun v L W=>?_;cases W;exact⟨_,(iap _ _ ⟨M.o,vU⟩),_,c,gy (gv (j:=1) rfl) (iap A.hd _ ⟨rfl,M.hd.get L,q _ M FL.refl⟩)⟩
def v5 (T:Txt K mg) (f:Nat) (l:MO P w base mg (5*f+ 3) T.e70 (kS T.c9.a T.c10.a (cs T) f)):FO P w base (5*f+ 7) T.d9 (jL T.c9.a T.c10.a (cs T) f fun y=>∃n,y= .name n):=by
 have m:=r9 (P:=P) (w:=w) (base:=base) T f l;refine T.d9.F.rd vO fun L A0 o X H W Q E D h=>?_;obtain⟨A,s,G,p,i,t,y,g,a,c,j,rfl,M,C,u,⟨n,rfl⟩,Y,b,B,q⟩:=h;refine io _ ((gw (gS (gH (gR (J7 (gP T.c9.cl T.n9board (cv 0))) T.c8.cl T.e66.me (jz T) (D.mono (by lia)) T.e66.b .nil ie (gk (pF T.d10 m (D.mono (by lia)) (gk (cv 0) (gk (cv 2) gn))) (gk (cv 3) gn))))))) ?_;refine eae (oT u) fun k F u=>?_;subst F;obtain⟨h,r,d,I,J,b⟩:∃h r d,j k=some h/\mU (ox c a j f) a h k s=some (r,d)/\some (d.fl r i)=some G:=by
  unfold kX at b;dsimp only at b;rw[show((k:Int)).toNat=k from rfl]at b
  cases e:j k with
  |none=>rw[e]at b;cases b
  |some h=>
   rw[e]at b;dsimp only at b
   cases x:mU (ox c a j f) a h k s with
   |none=>rw[x]at b;cases b
   |some z=>obtain⟨r,d⟩:=z;rw[x]at b;exact iar h r d ⟨rfl,x,b⟩
 cases dj.inj b;refine⟨_,(iaf _ _ M.o gZ),(iaf _ _ M.b.b (kI _ _ _ _ _)),A,s,d,k,r,_,h,g,a,c,j,rfl,M,C,u,I,J,Le.fl.sz B,fun Z N U=>?_⟩;exact tc1 (v:= .int i) rfl (pZ N (by have:=(Le.fl.sz B:Sz _ d).f;lia) fun S O V=>q S O (U.trans V))
def U1:Ro->Prop
 | .op o _=>o="call"\/o="at"\/o="join"\/o="size"\/o="add"\/o="sub"\/o="less"
 |_=>True
def HQ{h:Option Hm} (c:kX L roots h p own s ρ=some s'):U1 ρ:=by
 cases ρ with
 |op o e=>
  show o="call"\/o="at"\/o="join"\/o="size"\/o="add"\/o="sub"\/o="less";by_cases h1:o="call";·exact .inl h1
  by_cases h2:o="at";·exact .inr (.inl h2)
  by_cases h3:o="join";·exact .inr (.inr (.inl h3))
  by_cases h4:o="size";·exact .inr (.inr (.inr (.inl h4)))
  by_cases h5:o="add"\/o="sub"
  ·rcases h5 with h5|h5;·exact .inr (.inr (.inr (.inr (.inl h5))))
   ·exact .inr (.inr (.inr (.inr (.inr (.inl h5)))))
  by_cases h6:o="less";·exact .inr (.inr (.inr (.inr (.inr (.inr h6)))))
  refine eam (u4 h4 h2 c) fun a b d=>?_;subst d;unfold kX at c;dsimp only at c;rw[gU h1,gU h3,gU h6,gU h5]at c;cases c
 |_=>trivial
def BK(h:ox ρs roots ho (f+ 1) p s=some (r,s')):∃a,atZ ρs p=some a/\kX (ox ρs roots ho f) roots (ho p.toNat) p s.n (s.pt p) a=some s'/\r=s.n:=by
 unfold ox at h
 cases e:atZ ρs p with
 |none=>rw[e]at h;cases h
 |some a=>
  rw[e]at h;dsimp only at h
  cases b:kX (ox ρs roots ho f) roots (ho p.toNat) p s.n (s.pt p) a with
  |none=>rw[b]at h;cases h
  |some z=>rw[b]at h;cases h;exact⟨a,rfl,b,rfl⟩
inductive LyS (T:Txt K mg) (f:Nat):Zx->Sp->Prop
 |num:LyS T f T.d8.a (jL T.c9.a T.c10.a (cs T) f fun ρ=>∃n,ρ= .num n)
 |name:LyS T f T.d9.a (jL T.c9.a T.c10.a (cs T) f fun ρ=>∃n,ρ= .name n)
 |fn:LyS T f T.d12.a (jL T.c9.a T.c10.a (cs T) f fun ρ=>∃n k,ρ= .fn n k)
 |call:LyS T f T.d13.a (jL T.c9.a T.c10.a (cs T) f fun ρ=>∃ks,ρ= .op "call" ks)
 |lt:LyS T f T.d14.a (jL T.c9.a T.c10.a (cs T) f fun ρ=>∃n a b,ρ= .lt n a b)
 |rcd:LyS T f T.d15.a (jL T.c9.a T.c10.a (cs T) f fun ρ=>∃l,ρ= .rcd l)
 |get:LyS T f T.d16.a (jL T.c9.a T.c10.a (cs T) f fun ρ=>∃k n,ρ= .get k n)
 |tag:LyS T f T.d17.a (jL T.c9.a T.c10.a (cs T) f fun ρ=>∃n k,ρ= .tag n k)
 |case:LyS T f T.d18.a (jL T.c9.a T.c10.a (cs T) f fun ρ=>∃k l,ρ= .case k l)
 |row:LyS T f T.d19.a (jL T.c9.a T.c10.a (cs T) f fun ρ=>∃ks,ρ= .row ks)
 |ix:LyS T f T.d20.a (jL T.c9.a T.c10.a (cs T) f fun ρ=>∃ks,ρ= .op "at" ks)
 |join:LyS T f T.d21.a (jL T.c9.a T.c10.a (cs T) f fun ρ=>∃ks,ρ= .op "join" ks)
 |size:LyS T f T.d22.a (jL T.c9.a T.c10.a (cs T) f fun ρ=>∃ks,ρ= .op "size" ks)
 |sum:LyS T f T.d23.a (jL T.c9.a T.c10.a (cs T) f fun ρ=>∃o ks,ρ= .op o ks/\(o="add"\/o="sub"))
 |less:LyS T f T.d24.a (jL T.c9.a T.c10.a (cs T) f fun ρ=>∃ks,ρ= .op "less" ks)
def LyS.ok {T:Txt K mg} {f:Nat} {X:Cx} (i:X.prog=P) (g:X.w=w) (e:X.K=K) (d:X.mg=mg) (c:X.base=base) (G:MO P w base mg (5*f+ 3) T.e70 (kS T.c9.a T.c10.a (cs T) f)) {a:Zx} {b:Sp} (h:LyS T f a b):II X CX0 (5*f+ 7) a b:=by
 subst i g e d c
 cases h with
 |num=>exact iab _ _ (yj T f) T.d8.k T.d8.b
 |name=>exact iab _ _ (v5 T f G) T.d9.k T.d9.b
 |fn=>exact iab _ _ (z5 T f G) T.d12.k T.d12.b
 |call=>exact iab _ _ (vV T f G) T.d13.k T.d13.b
 |lt=>exact iab _ _ (yn T f G) T.d14.k T.d14.b
 |rcd=>exact iab _ _ (yq T f G) T.d15.k T.d15.b
 |get=>exact iab _ _ (ym T f G) T.d16.k T.d16.b
 |tag=>exact iab _ _ (yk T f G) T.d17.k T.d17.b
 |case=>exact iab _ _ (vZ T f G) T.d18.k T.d18.b
 |row=>exact iab _ _ (yp T f G) T.d19.k T.d19.b
 |ix=>exact iab _ _ (zZ T f G) T.d20.k T.d20.b
 |join=>exact iab _ _ (vX T f G) T.d21.k T.d21.b
 |size=>exact iab _ _ (vW T f G) T.d22.k T.d22.b
 |sum=>exact iab _ _ (yo T f G) T.d23.k T.d23.b
 |less=>exact iab _ _ (vY T f G) T.d24.k T.d24.b
structure Lk (P:Zu) (w:Zv) (T:Txt K mg) where
 a:Zx
 m:mg "LAYERS"=some (.ref a)
 kvs:List (Key×V)
 kd:DN P w K a kvs
 yes:∀ρ,U1 ρ->∃g,k8 kvs (Je ρ.s)=some (.ref g)/\∀f,∃U,LyS T f g (jL T.c9.a T.c10.a (cs T) f U)/\U ρ
def se (T:Txt K mg) (W:Lk P w T) (f:Nat) (c:MO P w base mg (5*f+ 3) T.e70 (kS T.c9.a T.c10.a (cs T) f)):MO P w base mg (5*(f+ 1)+ 3) T.e70 (kS T.c9.a T.c10.a (cs T) (f+ 1)):=by
 refine T.e70.F.rd kF fun Y A0 o s0 H vs Q E F h=>?_;obtain⟨A,s,N,p,r,b,a,e,R,rfl,M,C,S,D,q⟩:=h;refine HzX ?_;intro _;refine io _ ((gq (pS (i:=2) kF.nd (gB gC (gP T.c10.cl T.n10rows (gP T.c9.cl T.n9program (cv 0))) (cv 1)))
  (gq (pS (i:=3) kF.nd (gH (gR (J7 (gP T.c9.cl T.n9board (cv 0))) T.c8.cl T.e63.me (iP T) (F.mono (by lia)) T.e63.b .nil ie (gk (cv 1) gn))))
  (gq (gS (Bl (fun g L (h:LyS T f g L)=>h.ok rfl rfl rfl rfl rfl c) (F.mono (by lia)) ie (DO W.kd (y4 rfl W.m) (gB gF (cv 2) gu)) (gk (cv 0) (gk (cv 2) (gk (cv 1) (gk (cv 3) gn))))))
  (gw (gM (cv 3))))))) ?_;refine Hz3 ?_;intros;refine eah (BK S) fun l G z X=>?_;cases X;refine eae (oT G) fun k I u=>?_;subst I;refine eaG C.p fun n rr w' dx xs=>f8 fun m _=>?_;refine eak (vT m.i u) fun J ys t B _ x=>?_;refine eae (W.yes l (HQ z)) fun g O y=>?_;refine eae (y f) fun U y V=>?_;have lp:=((Le.pt.trans (zW (iT f) z)).sz D).p;refine⟨_,(iaf _ _ M.o p4),_,(iaf _ _ m.o (zX _ _ _)),_,m.w,gy (gv t) ?_⟩;dsimp only[gX];refine⟨_,(iaf _ _ M.o gZ),(iaf _ _ M.b.b (jv _ _ _ _ _)),?_⟩;refine tc1 (v:= .int k) rfl (zU M (by lia) fun H1 Z d=>?_);refine io _ (d.tup M B) (gy (gv (j:=0) rfl) (iap (Je l.s) _ ⟨rfl,rfl,O,g,_,rfl,y,?_⟩));exact⟨A,_,N,k,s.n,J,l,b,a,e,R,rfl,Z,C.fl M d,G,V,x.mono (M.tk d),z,D,fun H' M' F'=>q H' M' (d.trans F')⟩
theorem oU (T:Txt K mg) (W:Lk P w T):∀f:Nat,MO P w base mg (5*f+ 3) T.e70 (kS T.c9.a T.c10.a (cs T) f)
 |0=>by
  refine T.e70.F.rd kF fun g n b j H i Q E l h=>?_;·obtain⟨A,s,k,p,r,c,a,d,m,rfl,M,C,e,_⟩:=h;cases e
 |f+ 1=>se T W f (oU T W f)
noncomputable def s00:Ls:=⟨⟨[],[],[],[],0⟩,fun _=>none,fun _=>none⟩
structure Jx (CL dx x:Zx) (H0 H:Hp) (fs:List (Str×V)) (ks:List (Zx×HO)):Prop where
 x0:∃u,H0 x=some u
 o:H x=some (.ins CL dx fs)
 k:∀b u,H0 b=some u->b≠x->H b=some u
 m:∀q∈ks,H q.1=some q.2/\H0 q.1=none
section
variable {CL dx x:Zx} {H0 H H':Hp} {fs:List (Str×V)} {ks:List (Zx×HO)}
def Jx.fld (j:Jx CL dx x H0 H fs ks) (c:List (Str×V)):Jx CL dx x H0 (Zk H x (.ins CL dx c)) c ks:=
 let⟨_,e⟩:=j.x0
 ⟨j.x0,gm,fun b u h n=>by rw[gx n];exact j.k b u h n,fun q a=>⟨by rw[gx (fun z=>by have:=(j.m q a).2;rw[z,e]at this;cases this)];exact(j.m q a).1,(j.m q a).2⟩⟩
def Jx.non0 (j:Jx CL dx x H0 H fs ks) {a:Zx} (h:H a=none):H0 a=none:=by
 cases e:H0 a with
 |none=>rfl
 |some u=>
  have n:a≠x:=fun z=>by rw[z,j.o]at h;cases h
  rw[j.k a u e n]at h;cases h
def Jx.add (j:Jx CL dx x H0 H fs ks) (S:gT H H') (l:List (Zx×HO)) (a:∀q∈l,H q.1=none/\H' q.1=some q.2):Jx CL dx x H0 H' fs (l++ks):=
 ⟨j.x0,S _ _ j.o,fun b u h n=>S _ _ (j.k b u h n),fun q c=>by
  rcases ak.mp c with h|h;·exact⟨(a q h).2,j.non0 (a q h).1⟩
  ·exact⟨S _ _ (j.m q h).1,(j.m q h).2⟩⟩
end
inductive XLi (CL:Zx) (c:Cs) (vs:List V) (H:Hp) (Q:VK):Prop
 |mk (x dx p h:Zx) (e:vs=[.ref x,.ref p,.ref h,.non]) (o:H x=some (.ins CL dx [])) (q:∀(A:La) (H':Hp),A.l=x->A.p=p->A.h=h->Lm CL c H' A s00->(∀b o,H b=some o->b≠x->H' b=some o)->(∀a∈A.B.b::A.ch,H a=none)->Q .non H')
def HR (b:Zx) (c:Cs):Sp:=fun a H Q _=>XLi b c a H Q
def oV (T:Txt K mg):MO P w base mg 3 T.e68 (HR T.c9.a (cs T)):=by
 refine T.e68.F.rd oP fun cdv A0 outer s0 H vs Q E hr h=>?_;obtain⟨x,dx,p,h,rfl,o,q⟩:=h;refine io _ ((gq (lV T.c9.cl T.n9program (i8 (J7 (cv 0)) (J7 (cv 1)) rfl))
  (gq (lV T.c9.cl T.n9homes (i8 (J7 (cv 0)) (J7 (cv 2)) rfl))
  (gq (lV T.c9.cl T.n9papers (i8 (J7 (cv 0)) (J7 (cv 3)) rfl))
  (gq (lV T.c9.cl T.n9board (i8 (J7 (cv 0)) (J7 (A5 T.mk8 (pX T) hr.m rfl T.c8.m T.e62.b .nil ie)) rfl))
  (gq (lV T.c9.cl T.n9held (i8 (J7 (cv 0)) (J7 lT) rfl))
  (gw (lV T.c9.cl T.n9starts (i8 (J7 (cv 0)) (J7 lT) rfl))))))))) ?_;have j0:Jx T.c9.a dx x H H [] []:=⟨⟨_,o⟩,o,fun _ _ e _=>e,fun q hq=>by cases hq⟩;refine iab _ _ o (by show 0<1000;decide) ?_;have j1:=j0.fld (kh "program" (.ref p) []);dsimp only;generalize Zk H x (.ins T.c9.a dx (kh "program" (.ref p) []))=H1 at j1⊢;refine iab _ _ j1.o (by show 1<1000;decide) ?_;have j2:=j1.fld (kh "homes" (.ref h) (kh "program" (.ref p) []));dsimp only;generalize Zk H1 x _=H2 at j2⊢;refine iab _ _ j2.o (by show 2<1000;decide) ?_;have j3:=j2.fld (kh "papers" .non (kh "homes" (.ref h) (kh "program" (.ref p) [])));dsimp only;generalize Zk H2 x _=H3 at j3⊢;rw[show kh "papers" .non (kh "homes" (.ref h) (kh "program" (.ref p) []))=([("program",.ref p),("homes",.ref h),("papers",.non)]:List (Str×V)) by kernel_rfl]at j3;refine fun b bx hb hbx nx=>(iab b bx rfl gm (fun p0 p1 p2 p3 H4 hn nd eb el hk=>⟨rfl,?_⟩));have Sm:=ke (o:= .ins T.c8.a bx []) hb hbx;have S4:gT H3 H4:=fun y u e=>hk y u (Sm _ _ e) (gD e hb);have hn3:∀a∈[p0,p1,p2,p3],H3 a=none:=fun a ha=>by
  cases e:H3 a with
  |none=>rfl
  |some u=>have:=hn a ha;rw[Sm _ _ e]at this;cases this
 obtain⟨l0,l1,l2,l3⟩:H4 p0=some (.lst [])/\H4 p1=some (.lst [])/\H4 p2=some (.lst [])/\H4 p3=some (.lst []):=by
  cases el with
  |cons a0 el=>cases el with
   |cons a1 el=>cases el with
    |cons a2 el=>cases el with
     |cons a3 el=>exact⟨a0,a1,a2,a3⟩
 have j4:=j3.add S4 [(b,.ins T.c8.a bx (fB p0 p1 p2 p3 (.int 0))),(p0,.lst []),(p1,.lst []),(p2,.lst []),(p3,.lst [])] (fun q hq=>by
  simp only[aj,bo,or_false]at hq;rcases hq with rfl|rfl|rfl|rfl|rfl;·exact⟨hb,eb⟩
  ·exact⟨hn3 p0 (by simp),l0⟩
  ·exact⟨hn3 p1 (by simp),l1⟩
  ·exact⟨hn3 p2 (by simp),l2⟩
  ·exact⟨hn3 p3 (by simp),l3⟩);clear hn3 hn hk Sm;refine iab _ _ j4.o (by show 3<1000;decide) ?_;have j5:=j4.fld (kh "board" (.ref b) [("program",.ref p),("homes",.ref h),("papers",.non)]);dsimp only;generalize Zk H4 x _=H5 at j5⊢;rw[show kh "board" (.ref b) [("program",.ref p),("homes",.ref h),("papers",.non)]=([("program",.ref p),("homes",.ref h),("papers",.non),("board",.ref b)]:List (Str×V)) by kernel_rfl]at j5;refine fun d hd=>?_;have j6:=j5.add (gr hd (.dK [])) [(d,.dK [])] (fun q hq=>by rcases bb.mp hq with rfl;exact⟨hd,gm⟩);refine iab _ _ j6.o (by show 4<1000;decide) ?_;have j7:=j6.fld (kh "held" (.ref d) [("program",.ref p),("homes",.ref h),("papers",.non),("board",.ref b)]);dsimp only;generalize Zk (Zk H5 d _) x _=H7 at j7⊢;rw[show kh "held" (.ref d) [("program",.ref p),("homes",.ref h),("papers",.non),("board",.ref b)]=([("program",.ref p),("homes",.ref h),("papers",.non),("board",.ref b),("held",.ref d)]:List (Str×V)) by kernel_rfl]at j7;refine fun e he=>?_;have ne:d≠e:=gD (j7.m (d,.dK []) (by simp)).1 he;have j8:=j7.add (gr he (.dK [])) [(e,.dK [])] (fun q hq=>by rcases bb.mp hq with rfl;exact⟨he,gm⟩);refine iab _ _ j8.o (by show 5<1000;decide) ?_;have j9:=j8.fld (kh "starts" (.ref e) [("program",.ref p),("homes",.ref h),("papers",.non),("board",.ref b),("held",.ref d)]);dsimp only;generalize Zk (Zk H7 e _) x _=H9 at j9⊢;rw[show kh "starts" (.ref e) [("program",.ref p),("homes",.ref h),("papers",.non),("board",.ref b),("held",.ref d)]=fLy p h b d e by kernel_rfl]at j9;have m:=fun q hq=>(j9.m q hq).1;have mb:=m (b,.ins T.c8.a bx (fB p0 p1 p2 p3 (.int 0))) (by simp);have m0:=m (p0,.lst []) (by simp);have m1:=m (p1,.lst []) (by simp);have m2:=m (p2,.lst []) (by simp);have m3:=m (p3,.lst []) (by simp);have md:=m (d,.dK []) (by simp);have me:=m (e,.dK []) (by simp);refine q ⟨x,dx,p,h,⟨b,bx,p0,p1,p2,p3⟩,d,e⟩ H9 rfl rfl rfl ⟨j9.o,⟨mb,m0,(io ([]) m1 .nil),(io ([]) m2 .nil),(io ([]) m3 .nil),nd⟩,(iad ([]) md (cN _) (fun _=>rfl)),(iad ([]) me (cN _) (fun _=>rfl)),ne⟩ j9.k ?_;intro a ha;simp only[La.ch,Ad.ls,aS,cc,aj,bo,or_false]at ha;rcases ha with rfl|rfl|rfl|rfl|rfl|rfl|rfl;·exact(j9.m (_,.ins T.c8.a bx (fB p0 p1 p2 p3 (.int 0))) (by simp)).2
 ·exact(j9.m (_,.lst []) (by simp)).2
 ·exact(j9.m (_,.lst []) (by simp)).2
 ·exact(j9.m (_,.lst []) (by simp)).2
 ·exact(j9.m (_,.lst []) (by simp)).2
 ·exact(j9.m (_,.dK []) (by simp)).2
 ·exact(j9.m (_,.dK []) (by simp)).2
structure Cq (CP:Zx) (H:Hp) (p h:Zx) (names:Zd) (roots:List Nat) (ρs:List Ro) (ho:Nat->Option Hm):Prop where
 p:∃n r w dx xs,PrA CP H p n r w dx xs names roots ρs
 h:∃hs,H h=some (.lst hs)/\∀(k:Nat) (ρ:Ro),ρs[k]?=some ρ->∃y,hs[k]?=some y/\Im H y (hoD (ho k))
 few:∀(k:Nat) (ρ:Ro),ρs[k]?=some ρ->ρ.few
 dom:∀(k:Nat) (h:Hm),ho k=some h->h.1="def"->∃d:Nat,h.2=(d:Int)/\d<roots.length
def Cq.cp {A:La} {ho:Nat->Option Hm} (x:Cq CP H A.p A.h names roots ρs ho) (S:gT H H') (i:∀a∈A.ch,H a=none):Cp CP H' A names roots ρs ho:=by
 obtain⟨⟨n,r,w,p,g,c⟩,⟨h,e,l⟩,m,q⟩:=x;have d:∀{a:Zx} {o:HO},H a=some o->a∉A.ch:=fun e z=>by rw[i _ z]at e;cases e
 exact⟨(iav n r w p g ⟨c.same S,d c.o,d c.n,d c.r,d c.w⟩),(iad h (S _ _ e) (d e) (fun j f k=>let⟨y,a,b⟩:=l j f k;(io y a (b.mono (gT.tk S))))),m,q⟩
inductive XLd2 (CP:Zx) (c:Cs) (f:Nat) (vs:List V) (H:Hp) (Q:VK):Prop
 |mk (p h:Zx) (d r:Int) (s':Ls) (names:Zd) (roots:List Nat) (ρs:List Ro) (ho:Nat->Option Hm) (e:vs=[.ref p,.ref h,.int d,.non]) (C:Cq CP H p h names roots ρs ho) (hl:AY (ox ρs roots ho f) roots d s00=some (r,s')) (hz:Sz 1000000 s') (q:∀B H',gT H H'->(∀a∈B.b::B.ls,H a=none)->Bw c H' B (.int r) s'.D->Q (.ref B.b) H')
def Eh (b:Zx) (c:Cs) (f:Nat):Sp:=fun a H Q _=>XLd2 b c f a H Q
def Ei (T:Txt K mg) (W:Lk P w T) (f:Nat):rN P w K mg base CX0 (5*f+ 5) T.y7.a T.y7.fd ["program","homes","which","papers"] (Eh T.c10.a (cs T) f):=by
 have j:=jO (P:=P) (w:=w) (base:=base) T f (oU T W f);refine T.y7.F.ok zN (fun R H Q E h=>?_) (fun cdv A0 m s0 H R Q E n h=>?_);·obtain⟨p,h,d,r,F,c,b,g,M,rfl,_⟩:=h;rfl
 obtain⟨p,h,d,r,F,c,b,g,M,rfl,C,V,U,q⟩:=h;refine HzX ?_;intro _;refine io _ ((gq (pS (i:=4) zN.nd (kl T.mk9 (oV T) (n.mono (by lia)) rfl T.c9.m T.e68.b .nil ie (gk (cv 0) (gk (cv 1) (gk (cv 3) gn)))))
  (gq (gS (gH (gR (J7 (gP T.c9.cl T.n9board (cv 4))) T.c8.cl T.e67.me (rH T) (n.mono (by lia)) T.e67.b .nil ie (gk (gH (gR (J7 (cv 4)) T.c9.cl T.e69.me j (n.mono (by lia)) T.e69.b .nil ie (gk (cv 2) gn))) gn))))
  (gw (gM (gP T.c9.cl T.n9board (cv 4))))))) ?_;refine Hz2 ?_;intros;refine fun x N L B nx=>⟨x,N,p,h,rfl,gm,fun A H1 Z X Y l J I=>⟨rfl,?_⟩⟩;have D:=ke (o:= .ins T.c9.a N []) L B;have O:gT H H1:=fun y u e=>J y u (D _ _ e) (gD e L);have t:∀a∈A.B.b::A.ch,H a=none:=fun a ha=>by
  cases e:H a with
  |none=>rfl
  |some u=>have:=I a ha;rw[D _ _ e]at this;cases this
 clear I J D;subst Z X Y;have C1:=C.cp O (fun a ha=>t a (ai _ ha));dsimp only[gX];refine⟨_,(iaf _ _ l.o gZ),(iaf _ _ l.b.b (uV _ _ _ _ _)),(iaf _ _ l.o (jx gG)),?_⟩;refine tc1 (v:= .int d) rfl ⟨A,s00,F,d,r,c,b,g,M,rfl,l,C1,V,U,fun H2 k F2=>?_⟩;refine iay A.B.b A.B.bx A.B.p0 A.B.p1 A.B.p2 A.B.p3 (.int 0) (.int r) ⟨rfl,k.b.b,?_⟩;have S:A.l≠A.B.b:=jP k.o k.b.b (fun z=>by injection z with _ _ z;exact absurd (congrArg aH z) (by show ¬(6:Nat)=5;decide));refine io _ ((iaf _ _ (by rw[gx S];exact k.o) gZ)) ?_;refine q A.B _ (fun y u e=>?_) (fun a ha=>t a ?_) (k.b.root (.int r))
 ·have G:y∉A.B.b::A.ch:=fun z=>by rw[t y z]at e;cases e
  rw[gx (fun z=>G (by rw[z];exact ah))];exact F2 _ _ (O _ _ e) fun z=>G (ai _ z)
 ·rcases aj.mp ha with rfl|ha;·exact ah
  ·exact ai _ (ao _ ha)
def tU(g:H a=some (.tup xs)) (f:H b=some (.tup ys)) (i:xs.length+ys.length<=sizeLine) (h:∀c d,gT H d->d c=some (.tup (xs++ys))->Q (.ref c) d):FC K (.ref a) (.ref b) H Q:=
 (iaq a b xs ys ⟨rfl,rfl,J9 g,J9 f,i,fun z=>h b H (fun _ _ e=>e) (by rw[z];exact f),fun z=>h a H (fun _ _ e=>e) (by rw[z,aD];exact g),fun p j=>h p _ (gr j _) gm⟩)
def BL{g:TG} {l:TS.Internal} {D:mZ} (c:Nat->St->Hp->Prop) (B:c 0 b H) (u:∀i b H,i<=xs.length->c i b H->SqL K H a xs)
  (t:∀(i:Nat) (x:V) (b:St) (H:Hp) (T:Zx),xs[i]?=some x->c i b H->H T=none->g (.ref T) b (upd H T (.tup [.int (i:Int),x])) fun d k=>l {D with nx:=c (i+ 1),ct:=c (i+ 1),bk:=D.nx} d k) (z:∀b H,c xs.length b H->D.nx b H):
  ∃W:Nat->Nat->St->Hp->Prop,(∃m,W 0 m b H)/\∀i m b H,W i m b H->
   ((Ite K a).stop i H/\D.nx b H)\/((Ite K a).go i H/\∃N:St->Hp->Prop,(∀f h,N f h->∃n,n<m/\W (i+ 1) n f h)/\∀x h,(Ite K a).yld i H x h->g x b h fun d k=>l {D with nx:=N,ct:=N,bk:=D.nx} d k):=by
 refine⟨fun i m b H=>m=xs.length-i/\i<=xs.length/\c i b H,⟨xs.length,by simp,cO _,B⟩,?_⟩;refine fun i m b H=>fab fun j w p=>?_;subst j;have q:=u i b H w p;by_cases hlt:i<xs.length;·refine .inr ⟨(iap xs (xs[i]) ⟨q,by simp[hlt]⟩),c (i+ 1),fun f h r=>⟨xs.length-(i+ 1),by lia,rfl,hlt,r⟩,fun v h y=>?_⟩;refine eak y fun T x j A o s=>?_;subst j;subst o;exact t i x b H T (s xs q) p A
 ·have e:i=xs.length:=by lia
  subst e;exact .inl ⟨⟨xs,q,rfl⟩,z b H p⟩
def z9:List Str->TA
 |[]=>rM
 |x::l=>ki (tC (.str x)) (z9 l)
theorem Aa:∀{l:Zd} {k:List V->Hp->Prop},k (l.map V.str) H->z9 l σ H k
 |[],k,h=>h
 |x::l,k,h=>Aa (l:=l) (k:=fun a b=>k (.str x::a) b) h
def ifI{o:Str} (l:Zd) (hσ:σ[i]?=some (some (.ref t))) (et:H t=some (.tup (.str o::ys))) (e:inV (.str o) (l.map V.str)=b) (hl:l.length<=10) (h:∀H',gT H H'->if b=true then T D σ H' else u D σ H'):sv (cT (tOp (rIn K false) (tOp Cw (cV i) (tC (.int 0))) (AV (z9 l)))) T u D σ H:=by have sl:=IS;show onV σ[i]? _;rw[hσ];refine io _ et (gy (gv (j:=0) rfl) (Aa ⟨by rw[aC];lia,fun a ha=>(iap a _ ⟨rfl,.inl (J8 gm),rfl,by simp[qj],?_⟩)⟩));show if inV (.str o) (l.map V.str)=true then _ else _;rw[e];exact h _ (gr ha _)
def oW{o:Str} (l:Zd) (hσ:c[i]?=some (some (.ref t))) (f:H t=some (.tup (.str o::ys))) (e:inV (.str o) (l.map V.str)=false) (d:l.length<=10) (h:∀a,gT H a->u D c a):sv (cT (tOp (rIn K false) (tOp Cw (cV i) (tC (.int 0))) (AV (z9 l)))) T u D c H:=ifI (b:=false) l hσ f e d fun a S=>kU (h a S)
def Ab{o:Str} (l:Zd) (hσ:c[i]?=some (some (.ref t))) (f:H t=some (.tup (.str o::ys))) (e:inV (.str o) (l.map V.str)=true) (d:l.length<=10) (h:∀a,gT H a->T D c a):sv (cT (tOp (rIn K false) (tOp Cw (cV i) (tC (.int 0))) (AV (z9 l)))) T u D c H:=ifI (b:=true) l hσ f e d fun a S=>lQ (h a S)
def Ac{t:TS.Internal} (N:St->Hp->Prop) (h:∀c:St->Hp->Prop,(∀a b,N a b->c a b)->t {D with nx:=c} σ H) (k:∀a b,N a b->u D a b):B3 t u D σ H:=h _ k
def Wf:Ro->Prop
 | .op o ks=>(o,ks.length)∈TM.Internal.ops
 | .lt _ _ _=>False
 | .row ks=>ks.length<=100
 |_=>True
open TM.Internal (Kn Tr iA szs)
noncomputable def roK:Kn->List Nat->Ro
 | .num n,_=> .num n
 | .name w,_=> .name w
 | .fn w,p::_=> .fn w p
 | .tag w,p::_=> .tag w p
 | .lt w,p::q::_=> .lt w p q
 | .get w,p::_=> .get p w
 | .rcd l,a=> .rcd ((l.zip a).map fun q=>(q.1,(q.2:Int)))
 | .case l,p::a=> .case p ((l.zip a).map fun q=>(q.1.1,q.1.2,(q.2:Int)))
 | .row _,a=> .row (a.map fun p:Nat=>(p:Int))
 | .op s _,a=> .op s (a.map fun p:Nat=>(p:Int))
 |_,_=> .num 0
structure En where
 w:Str
 h:Hm
 v:Nat
abbrev Sc:=List En
noncomputable def lkE (sc:Sc) (w:Str):Option En:=sc.foldl (fun a x=>if x.w=w then some x else a) none
def oX (sc:Sc) (x:En) (w:Str):lkE (sc++[x]) w=if x.w=w then some x else lkE sc w:=by unfold lkE;rw[List.foldl_append];rfl
theorem xm:∀{sc:Sc} {a:Option En},sc.foldl (fun a x=>if x.w=w then some x else a) a=some e->a=some e\/(e∈sc/\e.w=w)
 |[],a,h=> .inl h
 |x::sc,a,h=>by
  rcases xm (sc:=sc) h with b|⟨b,c⟩
  ·dsimp only at b;split at b;·cases b;exact .inr ⟨by simp,by assumption⟩
   ·exact .inl b
  ·exact .inr ⟨ai _ b,c⟩
def Ej(h:lkE sc w=some e):e∈sc/\e.w=w:=by
 rcases xm h with h|h;·cases h
 ·exact h
noncomputable def val (sc:Sc) (w:Str):Nat:=match lkE sc w with
 |some e=>e.v
 |none=>0
abbrev Ex:=Option (Str×Str)
noncomputable def exN:Kn->List Ex
 | .fn w=>[some (w,"fn")]
 | .lt w=>[none,some (w,"let")]
 | .case l=>none::l.map fun a=>some (a.2,"arm")
 |_=>[]
noncomputable def hdX (xs:List Ex):Ex:=xs.headD none
noncomputable def exS (sc:Sc) (x:Ex) (p a pw:Nat):Sc:=match x with
 |none=>sc
 |some (w,k)=>sc++[if k="let" then⟨w,("let",(a:Int)),pw⟩else⟨w,(k,(p:Int)),0⟩]
noncomputable def upE (e:Str->Nat) (x:Ex) (pw:Nat):Str->Nat:=match x with
 |none=>e
 |some (w,k)=>fun u=>if w=u then(if k="let" then pw else 0)else e u
noncomputable def nmW:Kn->(Str->Nat)->Nat
 | .name w,e=>e w
 |_,_=>0
mutual
noncomputable def wT:Tr->(Str->Nat)->Nat
 | .mk κ ks,e=>1+nmW κ e+wTs ks (exN κ) e 0
noncomputable def wTs:List Tr->List Ex->(Str->Nat)->Nat->Nat
 |[],_,_,_=>0
 |t::ts,xs,e,pw=>wT t (upE e (hdX xs) pw)+wTs ts xs.tail e (wT t (upE e (hdX xs) pw))
end
def adN (N:Str->Prop) (x:Ex):Str->Prop:=match x with
 |none=>N
 |some (w,_)=>fun u=>u=w\/N u
def okK:Kn->Nat->(Str->Prop)->Prop
 | .num _,n,_=>n=0
 | .name w,n,N=>n=0/\N w
 | .fn _,n,_=>n=1
 | .tag _,n,_=>n=1
 | .lt _,_,_=>False
 | .get _,n,_=>n=1
 | .rcd l,n,_=>n=l.length/\l.length<=10
 | .case l,n,_=>n=l.length+ 1/\l.length<=10
 | .row m,n,_=>n=m/\m<=100
 | .op s m,n,_=>n=m/\(s,m)∈TM.Internal.ops
mutual
def okT:Tr->(Str->Prop)->Prop
 | .mk κ ks,N=>okK κ ks.length N/\oY ks (exN κ) N
def oY:List Tr->List Ex->(Str->Prop)->Prop
 |[],_,_=>True
 |t::ts,xs,N=>okT t (adN N (hdX xs))/\oY ts xs.tail N
end
def BM(h:∀w,N w->M w) (x:Ex):∀w,adN N x w->adN M x w:=fun w a=>by
 cases x with
 |none=>exact h w a
 |some z=>
  rcases a with a|a;·exact .inl a
  ·exact .inr (h w a)
mutual
theorem xn:∀(t:Tr) {N M:Str->Prop},(∀w,N w->M w)->okT t N->okT t M
 | .mk κ ks,N,M,h,a=>by
  unfold okT at a⊢;refine⟨?_,vc ks h a.2⟩;have a1:=a.1
  cases κ with
  |name w=>exact⟨a1.1,h w a1.2⟩
  |_=>exact a1
theorem vc:∀(ts:List Tr) {xs:List Ex} {N M:Str->Prop},(∀w,N w->M w)->oY ts xs N->oY ts xs M
 |[],xs,N,M,_,_=>by unfold oY;trivial
 |t::ts,xs,N,M,h,a=>by unfold oY at a⊢;exact⟨xn t (BM h _) a.1,vc ts h a.2⟩
end
structure Pc where
 ρ:Ro
 sc:Sc
 en:Nat
 df:Nat
 wt:Nat
mutual
noncomputable def pcT:Tr->Nat->Sc->Nat->List Pc
 | .mk κ ks,p,sc,d=>⟨roK κ (iA ks (p+ 1)),sc,p+(Tr.mk κ ks).sz,d,wT (.mk κ ks) (val sc)⟩::Ae ks (p+ 1) 0 0 (exN κ) sc d
noncomputable def Ae:List Tr->Nat->Nat->Nat->List Ex->Sc->Nat->List Pc
 |[],_,_,_,_,_,_=>[]
 |t::ts,p,pp,pw,xs,sc,d=>pcT t p (exS sc (hdX xs) p pp pw) d++Ae ts (p+t.sz) p (wT t (upE (val sc) (hdX xs) pw)) xs.tail sc d
end
mutual
def Pl (G:List Pc):Tr->Nat->Sc->Nat->Prop
 | .mk κ ks,p,sc,d=>G[p]?=some ⟨roK κ (iA ks (p+ 1)),sc,p+(Tr.mk κ ks).sz,d,wT (.mk κ ks) (val sc)⟩/\Pls G ks (p+ 1) 0 0 (exN κ) sc d
def Pls (G:List Pc):List Tr->Nat->Nat->Nat->List Ex->Sc->Nat->Prop
 |[],_,_,_,_,_,_=>True
 |t::ts,p,pp,pw,xs,sc,d=>Pl G t p (exS sc (hdX xs) p pp pw) d/\Pls G ts (p+t.sz) p (wT t (upE (val sc) (hdX xs) pw)) xs.tail sc d
end
mutual
theorem kT:∀(t:Tr) (p:Nat) (sc:Sc) (d:Nat),(pcT t p sc d).length=t.sz
 | .mk κ ks,p,sc,d=>by rw[pcT,az,xo,Tr.sz];lia
theorem xo:∀(ts:List Tr) (p pp pw:Nat) (xs:List Ex) (sc:Sc) (d:Nat),(Ae ts p pp pw xs sc d).length=szs ts
 |[],_,_,_,_,_,_=>rfl
 |t::ts,p,pp,pw,xs,sc,d=>by rw[Ae,aO,kT,xo,szs]
end
def oZ:∀t:Tr,0<t.sz
 | .mk κ ks=>by rw[Tr.sz];lia
mutual
theorem Ek:∀(t:Tr) {p:Nat} {sc:Sc} {d:Nat} {G l1 l2:List Pc},G=l1++(pcT t p sc d++l2)->l1.length=p->Pl G t p sc d
 | .mk κ ks,p,sc,d,G,l1,l2,e,h=>by rw[pcT]at e;refine⟨?_,CK ks (l1:=l1++[_]) (l2:=l2) (by rw[e,bG];rfl) (by rw[aO,h];rfl)⟩;rw[e,aJ (by lia),h,cY];rfl
theorem CK:∀(ts:List Tr) {p pp pw:Nat} {xs:List Ex} {sc:Sc} {d:Nat} {G l1 l2:List Pc},G=l1++(Ae ts p pp pw xs sc d++l2)->l1.length=p->Pls G ts p pp pw xs sc d
 |[],_,_,_,_,_,_,_,_,_,_,_=>trivial
 |t::ts,p,pp,pw,xs,sc,d,G,l1,l2,e,h=>by rw[Ae,bG]at e;exact⟨Ek t e h,CK ts (l1:=l1++_) (l2:=l2) (by rw[e,bG]) (by rw[aO,h,kT])⟩
end
def Pl.at {G:List Pc} {t:Tr} {p:Nat} {sc:Sc} {d:Nat} (h:Pl G t p sc d):∃ρ,G[p]?=some ⟨ρ,sc,p+t.sz,d,wT t (val sc)⟩:=by
 cases t with
 |mk κ ks=>exact⟨_,h.1⟩
open TM.Internal (Kn Tr iA szs)
def Bi (sc:Sc) (k:Int):Prop:=∃e∈sc,(e.h.1="fn"\/e.h.1="arm")/\e.h.2=k
def SE (G:List Pc) (roots:List Nat) (sc:Sc) (p q d:Nat) (e:En):Prop:=
 (e.h.1="let"/\∃(a:Nat) (b:Pc),e.h.2=(a:Int)/\G[a]?=some b/\b.en<=p/\a<b.en/\b.df=d/\b.wt<=e.v/\∀k,Bi b.sc k->Bi sc k)
 \/(e.h.1="def"/\∃j:Nat,e.h.2=(j:Int)/\j<=d/\(j<d->∃(r:Nat) (c:Pc),roots[j]?=some r/\G[r]?=some c/\c.df=j/\c.en<=p/\r<c.en/\c.wt<=e.v/\∀k,¬Bi c.sc k))
 \/((e.h.1="fn"\/e.h.1="arm")/\∃(a:Nat) (b:Pc),e.h.2=(a:Int)/\G[a]?=some b/\a<=p/\q<=b.en)
def Sok (G:List Pc) (roots:List Nat) (sc:Sc) (p q d:Nat):Prop:=∀e∈sc,SE G roots sc p q d e
def Nm (sc:Sc) (w:Str):Prop:=∃e,lkE sc w=some e
def Bi.ex {sc:Sc} {x:Ex} {p:Nat} {k:Int} (h:Bi sc k):Bi (exS sc x p pp pw) k:=by
 cases x with
 |none=>exact h
 |some z=>refine eax h fun e he h=>?_;exact⟨e,ao _ he,h⟩
def Nm.ex {sc:Sc} {x:Ex} {p:Nat} (w:Str) (h:adN (Nm sc) x w):Nm (exS sc x p pp pw) w:=by
 cases x with
 |none=>exact h
 |some z=>
  obtain⟨u,k⟩:=z;refine eax (show ∃y:En,exS sc (some (u,k)) p pp pw=sc++[y]/\y.w=u from ⟨_,rfl,by split<;>rfl⟩) fun y hy ew=>?_;unfold Nm;rw[hy,oX,ew];by_cases e:u=w;·rw[ip e];exact⟨_,rfl⟩
  ·rw[gU e];rcases h with h|h;·exact absurd h.symm e
   ·exact h
structure Ft (G:List Pc) (roots:List Nat) (i:Nat) (c:Pc):Prop where
 t:∃t,Pl G t i c.sc c.df/\c.en=i+t.sz/\c.wt=wT t (val c.sc)/\okT t (Nm c.sc)
 s:Sok G roots c.sc i c.en c.df
def nol (xs:List Ex):Prop:=∀w,some (w,("let":Str))∉xs
def FU {xs:List Ex} (h:nol xs) (w:Str):hdX xs≠some (w,("let":Str)):=fun e=>by
 cases xs with
 |nil=>cases e
 |cons x xs=>exact h w (by rw[show x=_ from e];simp)
section
variable {G:List Pc} {roots:List Nat}
def Sok.in {sc:Sc} {p b q' d:Nat} (h:Sok G roots sc p q d) (t:p<=b) (s:q'<=q):Sok G roots sc b q' d:=fun e o=>by
 rcases h e o with⟨a,x,c,y,g,n,f,m,k,i⟩|⟨a,j,y,l,r⟩|⟨a,x,c,y,g,n,f⟩;·exact .inl ⟨a,x,c,y,g,by lia,f,m,k,i⟩
 ·exact .inr (.inl (ian a j y l (fun z=>let⟨r,c,h1,h2,h3,h4,h5⟩:=r z;(iap r c ⟨h1,h2,h3,by lia,h5⟩))))
 ·exact .inr (.inr ⟨a,x,c,y,g,by lia,by lia⟩)
def Sok.bind {sc:Sc} {p d:Nat} {x:Ex} {cp:Pc} (h:Sok G roots sc p q d) (nl:∀w,x≠some (w,("let":Str))) (nd:∀w k,x=some (w,k)->k="fn"\/k="arm") (hp:G[p]?=some cp) (hq:q<=cp.en):Sok G roots (exS sc x p pp pw) p q d:=by
 cases x with
 |none=>exact h
 |some z=>
  obtain⟨u,k⟩:=z;have nk:k≠"let":=fun e=>nl u (by rw[e]);intro e he;rcases ak.mp he with he|he
  ·rcases h e he with⟨a,x,c,y,g,l1,l2,l3,l4,l5⟩|r|r;·exact .inl ⟨a,x,c,y,g,l1,l2,l3,l4,fun k hk=>(l5 k hk).ex⟩
   ·exact .inr (.inl r)
   ·exact .inr (.inr r)
  ·rw[gU nk]at he;rw[bb.mp he];exact .inr (.inr ⟨nd u k rfl,p,cp,rfl,hp,cN _,hq⟩)
def ndx (xs:List Ex):Prop:=∀w k,some (w,k)∈xs->k="fn"\/k="arm"
def FV {xs:List Ex} (h:ndx xs):ndx xs.tail:=fun w k m=>h w k (List.mem_of_mem_tail m)
def FW {xs:List Ex} (h:ndx xs) (w k:Str) (e:hdX xs=some (w,k)):k="fn"\/k="arm":=by
 cases xs with
 |nil=>cases e
 |cons x xs=>exact h w k (by rw[show x=_ from e];simp)
def El {xs:List Ex} (h:ndx xs):nol xs:=fun w m=>by rcases h w "let" m with h|h<;>exact absurd h gG
def Fts (G:List Pc) (roots:List Nat) (p q d:Nat):Prop:=(∀i,p<=i->i<q->∃c,G[i]?=some c/\Ft G roots i c/\c.df=d/\c.en<=q)/\∀i j a b,p<=i->i<j->j<q->G[i]?=some a->G[j]?=some b->a.en<=j\/b.en<=a.en
def Fts.app {p r d:Nat} (a:Fts G roots p q d) (b:Fts G roots q r d) (g:p<=q) (k:q<=r):Fts G roots p r d:=by
 refine⟨fun i f e=>?_,fun i j o n f e s h m=>?_⟩
 ·by_cases z:i<q;·refine eaq (a.1 i f z) fun c g k l t=>?_;exact⟨c,g,k,l,by lia⟩
  ·exact b.1 i (by lia) e
 ·by_cases z:j<q;·exact a.2 i j o n f e z h m
  ·by_cases y:i<q;·refine eaq (a.1 i f y) fun c g k l t=>?_;rw[g]at h;cases h;exact .inl (by lia)
   ·exact b.2 i j o n (by lia) e s h m
mutual
theorem FX:∀(t:Tr) {p:Nat} {sc:Sc} {d:Nat},Pl G t p sc d->okT t (Nm sc)->Sok G roots sc p (p+t.sz) d->Fts G roots p (p+t.sz) d
 | .mk κ ks,p,sc,d,h,o,s=>by
  have es:(Tr.mk κ ks).sz=1+szs ks:=by rw[Tr.sz]
  have hf:Ft G roots p ⟨roK κ (iA ks (p+ 1)),sc,p+(Tr.mk κ ks).sz,d,wT (.mk κ ks) (val sc)⟩:=⟨⟨_,h,rfl,rfl,o⟩,s⟩;have hr:Fts G roots (p+ 1) (p+(Tr.mk κ ks).sz) d:=by
   rw[es,<-cW];have s':Sok G roots sc (p+ 1) (p+ 1+szs ks) d:=s.in (by lia) (by lia);by_cases hk:∃w,κ= .lt w;·obtain⟨w,rfl⟩:=hk;exact o.1.elim
   ·have nx:ndx (exN κ):=fun w k m=>by
     cases κ with
     |fn u=>simp only[exN,bb,dj.injEq,Jt]at m;exact .inl m.2
     |lt u=>exact absurd ⟨u,rfl⟩ hk
     |case l=>
      simp only[exN,aj,bg]at m;rcases m with m|⟨a,_,m⟩;·cases m
      ·cases m;exact .inr rfl
     |_=>cases m
    exact CM ks h.2 o.2 nx s'
  refine⟨fun i l1 l2=>?_,fun i j ci cj l1 l2 l3 e1 e2=>?_⟩
  ·by_cases z:i=p;·subst z;exact⟨_,h.1,hf,rfl,cN _⟩
   ·exact hr.1 i (by lia) l2
  ·by_cases z:i=p;·subst z;rw[h.1]at e1;cases e1;refine eaq (hr.1 j (by lia) l3) fun c g1 _ _ g4=>?_;rw[g1]at e2;cases e2;exact .inr g4
   ·exact hr.2 i j ci cj (by lia) l2 l3 e1 e2
theorem CM:∀(ts:List Tr) {p pp pw:Nat} {xs:List Ex} {sc:Sc} {d:Nat},Pls G ts p pp pw xs sc d->oY ts xs (Nm sc)->ndx xs->Sok G roots sc p (p+szs ts) d->Fts G roots p (p+szs ts) d
 |[],p,pp,pw,xs,sc,d,_,_,_,_=>⟨fun i l1 l2=>by rw[szs]at l2;lia,fun i j ci cj l1 l2 l3=>by rw[szs]at l3;lia⟩
 |t::ts,p,pp,pw,xs,sc,d,h,o,n,s=>by rw[szs]at s⊢;obtain⟨ρ,ga⟩:=h.1.at;have f1:=FX t h.1 (xn t (fun w h=>Nm.ex w h) o.1) (Sok.bind (s.in (q':=p+t.sz) (cN _) (by lia)) (FU (El n)) (FW n) ga (cN _));have f2:=CM ts h.2 o.2 (FV n) (s.in (by lia) (by lia));rw[<-cW];exact f1.app f2 (by lia) (by lia)
end
end
open TM.Internal (Kn Tr iA szs)
noncomputable def dfE (wd:Nat->Str) (d v:Nat):En:=⟨wd d,("def",(d:Int)),v⟩
noncomputable def pcD (wd:Nat->Str):List Tr->Nat->Nat->Sc->List Pc
 |[],_,_,_=>[]
 |t::ts,d,p,sc=>pcT t p (sc++[dfE wd d 0]) d++pcD wd ts (d+ 1) (p+t.sz) (sc++[dfE wd d (wT t (val (sc++[dfE wd d 0])))])
def GV (wd:Nat->Str):List Tr->Nat->Sc->Prop
 |[],_,_=>True
 |t::ts,d,sc=>okT t (Nm (sc++[dfE wd d 0]))/\GV wd ts (d+ 1) (sc++[dfE wd d (wT t (val (sc++[dfE wd d 0])))])
structure FtD (G:List Pc) (roots:List Nat) (d p q:Nat):Prop where
 a:∀i,p<=i->i<q->∃c,G[i]?=some c/\Ft G roots i c/\c.en<=q/\(∃r,roots[c.df]?=some r/\r<=i)/\∀r',roots[c.df+ 1]?=some r'->c.en<=r'
 n:∀i j ci cj,p<=i->i<j->j<q->G[i]?=some ci->G[j]?=some cj->ci.en<=j\/cj.en<=ci.en
 r:∀j r,d<=j->roots[j]?=some r->r<q/\∃c,G[r]?=some c/\c.df=j/\∀k,¬Bi c.sc k
def Sdf (G:List Pc) (roots:List Nat) (sc:Sc) (p d:Nat):Prop:=∀e∈sc,e.h.1="def"/\∃j:Nat,e.h.2=(j:Int)/\j<d/\∃(r:Nat) (c:Pc),roots[j]?=some r/\G[r]?=some c/\c.df=j/\c.en<=p/\r<c.en/\c.wt<=e.v/\∀k,¬Bi c.sc k
def Sdf.nob {G:List Pc} {sc:Sc} {p d:Nat} {wd:Nat->Str} {v:Nat} (h:Sdf G roots sc p d) (k:Int):¬Bi (sc++[dfE wd d v]) k:=by
 refine fan fun e he h1 _=>?_;have z:e.h.1="def":=by
  rcases ak.mp he with he|he;·exact(h e he).1
  ·rw[bb.mp he];rfl
 rw[z]at h1;rcases h1 with h1|h1<;>exact absurd h1 gG
theorem FY:∀{ts:List Tr} {d p:Nat} {sc:Sc} {l1:List Pc},G=l1++pcD wd ts d p sc->l1.length=p->roots.drop d=iA ts p->GV wd ts d sc->Sdf G roots sc p d->FtD G roots d p (p+szs ts)
 |[],d,p,sc,l1,_,_,hr,_,_=>⟨fun i h1 h2=>by rw[szs]at h2;lia,fun i j ci cj h1 h2 h3=>by rw[szs]at h3;lia,fun j r h1 h2=>by
   have h3:(roots.drop d)[j-d]?=some r:=by rw[bS,Nat.add_sub_cancel' h1];exact h2
   rw[hr]at h3;cases h3⟩
 |t::ts,d,p,sc,l1,e,hl,hr,ok,sd=>by
  have h0:roots[d]?=some p:=by
   have h3:(roots.drop d)[0]?=some p:=by rw[hr];rfl
   rwa[bS,dg]at h3
  have h1:roots.drop (d+ 1)=iA ts (p+t.sz):=by rw[<-List.tail_drop,hr];rfl
  have hp:Pl G t p (sc++[dfE wd d 0]) d:=Ek t (l2:=pcD wd ts (d+ 1) (p+t.sz) (sc++[dfE wd d (wT t (val (sc++[dfE wd d 0])))])) (by rw[e];rfl) hl;obtain⟨ρ,gp⟩:=hp.at;have tp:=oZ t;have so:Sok G roots (sc++[dfE wd d 0]) p (p+t.sz) d:=fun x hx=>by
   refine .inr (.inl ?_);rcases ak.mp hx with hx|hx;·refine eay (sd x hx) fun a=>fL fun j=>fab fun b l r=>?_;exact ian a j b (by lia) (fun _=>r)
   ·rw[bb.mp hx];exact ian rfl d rfl (cN _) (fun z=>absurd z (cG _))
  have f1:=FX t hp ok.1 so;have sd2:Sdf G roots (sc++[dfE wd d (wT t (val (sc++[dfE wd d 0])))]) (p+t.sz) (d+ 1):=fun x hx=>by
   rcases ak.mp hx with hx|hx;·refine eay (sd x hx) fun a=>fL fun j=>fab fun b l=>faf fun r c=>fah fun h1 h2 h3 h4 h5=>?_;exact⟨a,j,b,by lia,r,c,h1,h2,h3,by lia,h5⟩
   ·rw[bb.mp hx];exact⟨rfl,d,rfl,by lia,p,_,h0,gp,rfl,cN _,by show p<p+t.sz;lia,cN _,fun k=>sd.nob k⟩
  have f2:=FY (l1:=l1++pcT t p (sc++[dfE wd d 0]) d) (by rw[e,pcD,bG]) (by rw[aO,hl,kT]) h1 ok.2 sd2;have es:p+szs (t::ts)=p+t.sz+szs ts:=by rw[szs];lia
  rw[es];refine⟨fun i l1 l2=>?_,fun i j ci cj l1 l2 l3 e1 e2=>?_,fun j r l hj=>?_⟩
  ·by_cases z:i<p+t.sz
   ·refine eaq (f1.1 i l1 z) fun c g1 g2 g3 g4=>?_;refine⟨c,g1,g2,by lia,(io p (by rw[g3];exact h0) l1),fun r' hr'=>?_⟩;rw[g3]at hr';have h3:(roots.drop (d+ 1))[0]?=some r':=by rw[bS];exact hr'
    rw[h1]at h3
    cases ts with
    |nil=>cases h3
    |cons u us=>cases h3;exact g4
   ·exact f2.a i (by lia) l2
  ·by_cases z:j<p+t.sz;·exact f1.2 i j ci cj l1 l2 z e1 e2
   ·by_cases y:i<p+t.sz;·refine eaq (f1.1 i l1 y) fun c g1 _ _ g4=>?_;rw[g1]at e1;cases e1;exact .inl (by lia)
    ·exact f2.n i j ci cj (by lia) l2 l3 e1 e2
  ·by_cases z:j=d;·subst z;rw[h0]at hj;cases hj;exact ian (by lia) _ gp rfl (fun k=>sd.nob k)
   ·exact f2.r j r (by lia) hj
theorem Af:∀{ts:List Tr} {d p:Nat} {sc:Sc},(pcD wd ts d p sc).length=szs ts
 |[],_,_,_=>rfl
 |t::ts,d,p,sc=>by rw[pcD,aO,kT,Af,szs]
def Em(a:GV wd ts 0 []):FtD (pcD wd ts 0 0 []) (iA ts 0) 0 0 (szs ts):=by have h:=FY (l1:=[]) (G:=pcD wd ts 0 0 []) (roots:=iA ts 0) rfl rfl rfl a (fun _ h=>by cases h);rwa[cX]at h
noncomputable def hoC (c:Pc):Option Hm:=match c.ρ with
 | .name w=>(lkE c.sc w).map En.h
 |_=>none
noncomputable def hoG (G:List Pc) (k:Nat):Option Hm:=(G[k]?).bind hoC
def HS{h:Hm} (e:hoC c=some h):∃w x,c.ρ= .name w/\lkE c.sc w=some x/\x.h=h:=by
 unfold hoC at e;split at e;·rename_i w d;refine eax (dA.mp e) fun x b a=>?_;subst a;exact iap w x ⟨d,b,rfl⟩
 ·cases e
def HU{h:Hm} (e:hoG G k=some h):∃c w x,G[k]?=some c/\c.ρ= .name w/\x∈c.sc/\lkE c.sc w=some x/\x.h=h:=by unfold hoG at e;refine eae (Option.bind_eq_some_iff.mp e) fun c b e=>?_;refine eal (HS e) fun w x f a d=>?_;exact iah c w x b f ((Ej a).1) a d
theorem Ag:∀{ts:List Tr} {p i a:Nat},(iA ts p)[i]?=some a->p<=a
 |[],_,_,_,h=>by cases h
 |t::ts,p,0,a,h=>by cases h;exact cN _
 |t::ts,p,i+ 1,a,h=>by have:=Ag (show(iA ts (p+t.sz))[i]?=some a from h);lia
open TM.Internal (Kn Tr iA szs)
def dfn {s:Str}:s="def"->s≠"let"/\s≠"fn"/\s≠"arm":=fun h=>by subst h;exact⟨gG,gG,gG⟩
def ltn {s:Str}:s="let"->s≠"def"/\s≠"fn"/\s≠"arm":=fun h=>by subst h;exact⟨gG,gG,gG⟩
section
variable {G:List Pc} {roots:List Nat} {q:Nat}
theorem FtD.at (F:FtD G roots 0 0 q) (k:q=G.length) {i:Nat} {c:Pc} (h:G[i]?=some c):Ft G roots i c/\c.en<=q/\i<c.en/\(∃r,roots[c.df]?=some r/\r<=i)/\∀j,roots[c.df+ 1]?=some j->c.en<=j:=by refine eaF (F.a i (cO _) (by rw[k];exact(aq.mp h).1)) fun l=>fah fun g f a b d=>?_;rw[h]at g;cases g;refine eah f.t fun t _ e _=>?_;have:=oZ t;exact⟨f,a,by lia,b,d⟩
theorem FtD.en (F:FtD G roots 0 0 q) (m:q=G.length) {k:Nat} {h:Hm} (e:hoG G k=some h):∃c x,G[k]?=some c/\x∈c.sc/\x.h=h/\SE G roots c.sc k c.en c.df x/\k<c.en/\(∃r,roots[c.df]?=some r/\r<=k)/\∀d,roots[c.df+ 1]?=some d->c.en<=d:=by refine eaB (HU e) fun c w x=>fah fun i _ g _ j=>?_;subst j;refine eab (F.at m i) fun f _ l a b=>?_;exact iap c x ⟨i,g,rfl,f.s x g,l,a,b⟩
end
open TM.Internal (Kn Tr iA szs)
noncomputable def wsD:Kn->List Dt
 | .num n=>[kD n]
 | .name w=>[sD w]
 | .fn w=>[sD w]
 | .tag w=>[sD w]
 | .lt w=>[sD w]
 | .get w=>[sD w]
 | .rcd l=>l.map sD
 | .case l=>l.flatMap fun a=>[sD a.1,sD a.2]
 |_=>[]
mutual
noncomputable def ndD:Tr->Dt
 | .mk κ ks=> .tup [sD κ.s,.tup (wsD κ),.tup (BN ks)]
noncomputable def BN:List Tr->List Dt
 |[]=>[]
 |t::ts=>ndD t::BN ts
end
theorem Ah:∀{ts:List Tr} {k:Nat} {d:Dt},(BN ts)[k]?=some d->∃t,ts[k]?=some t/\d=ndD t
 |[],_,_,h=>by cases h
 |t::ts,0,d,h=>by cases h;exact⟨t,rfl,rfl⟩
 |t::ts,k+ 1,d,h=>Ah (ts:=ts) (k:=k) h
theorem tV:∀a:List Tr,(BN a).length=a.length
 |[]=>rfl
 |t::a=>by rw[BN,az,tV a,az]
noncomputable def enD (e:En):Dt:= .tup [sD e.w,hmD e.h]
def vd(h:Im H x (ndD (.mk κ ks))):∃a b c g f,x= .ref a/\H a=some (.tup [.str κ.s,.ref b,.ref c])/\H b=some (.tup g)/\Ims H g (wsD κ)/\H c=some (.tup f)/\Ims H f (BN ks):=by rw[ndD]at h;refine eal (lP h) fun a q d e i=>?_;subst d;refine eav (EO i) fun x y z d n m l=>?_;subst d;cases lK n;refine eal (lP m) fun b g d p k=>?_;subst d;refine eal (lP l) fun c f d o j=>?_;subst d;exact iac a b c g f rfl e p k o j
def HV {sc:Sc} {i:Nat} (h:Ims H xs (sc.map enD)) (e:xs[i]?=some v):∃p t y,sc[i]?=some p/\v= .ref t/\H t=some (.tup [.str p.w,y])/\Im H y (hmD p.h):=by refine eae (kx h e) fun d b k=>?_;rw[aM]at b;refine eae (dA.mp b) fun p g a=>?_;subst a;refine eav (rJ k) fun t y z a j f c=>?_;subst a;cases lK f;exact iae p t z g rfl j c
inductive XHo (vs:List V) (H:Hp) (Q:VK):Prop
 |mk (l:Zx) (w:Str) (xs:List V) (sc:Sc) (e:vs=[.ref l,.str w]) (hl:H l=some (.lst xs)) (i:Ims H xs (sc.map enD)) (q:∀v,Im H v (hoD ((lkE sc w).map En.h))->Q v H)
def FZ:Sp:=fun a H Q _=>XHo a H Q
def xp{sc:Sc} (h:sc[i]?=some p):lkE (sc.take (i+ 1)) w=if p.w=w then some p else lkE (sc.take i) w:=by rw[cg,h];exact oX _ _ _
noncomputable def exL (x:Ex) (p a pw:Nat):List En:=match x with
 |none=>[]
 |some (w,k)=>[if k="let" then⟨w,("let",(a:Int)),pw⟩else⟨w,(k,(p:Int)),0⟩]
def Eo (sc:Sc) (x:Ex) (p pp pw:Nat):exS sc x p pp pw=sc++exL x p pp pw:=by
 cases x with
 |none=>exact(aD _).symm
 |some z=>rfl
inductive XSc (vs:List V) (H:Hp) (Q:VK):Prop
 |mk (n:V) (κ:Kn) (ks:List Tr) (k:Nat) (l:Zx) (ps:List Nat) (p pp pw:Nat) (N:Str->Prop) (e:vs=[n,.int (k:Int),.ref l]) (i:Im H n (ndD (.mk κ ks))) (hk:k<ks.length) (ok:okK κ ks.length N) (hl:H l=some (.lst (ps.map nI))) (hp:ps[k]?=some p) (hpp:∀j,j+ 1=k->ps[j]?=some pp) (q:∀H' a xs,gT H H'->H' a=some (.lst xs)->H a=none->Ims H' xs ((exL ((exN κ)[k]?.getD none) p pp pw).map enD)->Q (.ref a) H')
def HW:Sp:=fun a H Q _=>XSc a H Q
theorem tW:∀{l:List (Str×Str)} {k:Nat} {a:Str×Str},l[k]?=some a->(l.flatMap fun a=>[sD a.1,sD a.2])[2*k]?=some (sD a.1)/\(l.flatMap fun a=>[sD a.1,sD a.2])[2*k+ 1]?=some (sD a.2)
 |[],_,_,h=>by cases h
 |b::l,0,a,h=>by cases h;exact⟨rfl,rfl⟩
 |b::l,k+ 1,a,h=>by have:=tW (l:=l) (k:=k) h;rw[List.flatMap_cons];exact⟨by rw[show 2*(k+ 1)=2*k+ 1+ 1 by lia];exact this.1,by rw[show 2*(k+ 1)+ 1=2*k+ 1+ 1+ 1 by lia];exact this.2⟩
def sN(h:Ims H xs ds) (e:ds[j]?=some d):∃x,xs[j]?=some x/\Im H x d:=by have l:=h.length;have f:=(aq.mp e).1;have a:xs[j]?=some (xs[j]'(by lia)):=bf (by lia);refine eax (kx h a) fun g b c=>?_;rw[e]at b;cases b;exact⟨_,a,c⟩
def HX(b:okK κ n N):(κ.s="fn"->∃w,κ= .fn w)/\(κ.s="let"->∃w,κ= .lt w)/\(κ.s="case"->∃l,κ= .case l)/\(κ.s="name"->∃w,κ= .name w)/\(κ.s="get"->∃w,κ= .get w)/\(κ.s="rec"->∃l,κ= .rcd l)/\(κ.s="row"->∃m,κ= .row m):=by
 cases κ with
 |op o m=>have a:(o,m)∈TM.Internal.ops:=b.2;simp only[TM.Internal.ops,aj,Jt,bo,or_false]at a;simp only[Kn.s];rcases a with⟨rfl,rfl⟩|⟨rfl,rfl⟩|⟨rfl,rfl⟩|⟨rfl,rfl⟩|⟨rfl,rfl⟩|⟨rfl,rfl⟩|⟨rfl,rfl⟩<;>refine⟨fun h=>?_,fun h=>?_,fun h=>?_,fun h=>?_,fun h=>?_,fun h=>?_,fun h=>?_⟩<;>exact absurd h gG
 |_=>
  simp only[Kn.s];refine⟨fun h=>?_,fun h=>?_,fun h=>?_,fun h=>?_,fun h=>?_,fun h=>?_,fun h=>?_⟩<;>first
   |exact⟨_,rfl⟩
   |exact absurd h gG
def Ai(hσ:a[i]?=some (some (.ref t))) (b:H t=some (.tup (.str s::ys))) (e:decide (s=x)=false) (h:u D a H):sv (EK (hdT i x) c) T u D a H:=oS hσ b e (kU (kU h))
def Aj(hσ:σ[i]?=some (some (.ref t))) (et:H t=some (.tup (.str s::ys))) (e:decide (s=x)=true) (h:sv c T u D σ H):sv (EK (hdT i x) c) T u D σ H:=oS hσ et e (lQ h)
def sO(hσ:a[i]?=some (some (.int n))) (e:n=m) (h:T D a H):sv (cT (tOp (cEq false) (cV i) (tC (.int m)))) T u D a H:=by show onV a[i]? _;rw[hσ];show if(false ^^ decide (n=m))=true then _ else _;rw[jo e];exact lQ h
def sQ(hσ:a[i]?=some (some (.int n))) (e:n≠m) (h:u D a H):sv (cT (tOp (cEq false) (cV i) (tC (.int m)))) T u D a H:=by show onV a[i]? _;rw[hσ];show if(false ^^ decide (n=m))=true then _ else _;rw[iY e];exact kU h
def ifG(hσ:a[i]?=some (some (.int n))) (h:if m<n then T D a H else u D a H):sv (cT (tOp (cI0 fun i j=> .bl (decide (j<i))) (cV i) (tC (.int m)))) T u D a H:=by
 show onV a[i]? _;rw[hσ];show if decide (m<n)=true then _ else _;by_cases e:m<n;·rw[jo e];rw[ip e]at h;exact lQ h
 ·rw[iY e];rw[gU e]at h;exact kU h
def ve (T:Txt K mg):FO P w base 1 T.d41 FZ:=by
 refine T.d41.F.rd lg fun D J m G H F Q E I h=>?_;obtain⟨l,c,z,A,rfl,s,i,q⟩:=h;refine io _ ((gq (pS (i:=2) lg.nd yy)
  (gq (kj IW rfl (lR (cv 0)) (pN (i:=3) lg.nd)
   (gw (iC (gL jb (gB gF (cv 3) gu) (cv 1))
    (gw (pS (i:=2) lg.nd (gB gF (cv 3) gu)))
    gQ)))
  (gw (gM (cv 2)))))) ?_;dsimp only[gX];have o:=i.length;rw[aC]at o;refine iad l rfl ⟨_,J8 s⟩ (qr (xs:=z) (fun k b f=>∃(v:V) (n:Option V),b=[some (.ref l),some (.str c),some v,n]/\f=H/\Im H v (hoD ((lkE (A.take k) c).map En.h)))
  (iab .non none rfl rfl (.flat rfl)) (fun k b f _ ⟨_,_,_,e,_⟩=>J8 (by rw[e];exact s)) ?_ ?_)
 ·refine fun k x b f C=>fad fun v n a g d=>?_;subst a;subst g;refine eav (HV i C) fun p t y r a u B=>?_;subst a;dsimp only[gX];refine io _ u (gy (gv (j:=0) rfl) ?_);show if(false ^^ decide (p.w=c))=true then _ else _;rw[fA];by_cases e:p.w=c;·rw[jo e];refine lQ (io _ u (gy (gv (j:=1) rfl) (iab y _ rfl rfl ?_)));rw[xp r,ip e];exact B
  ·rw[iY e];refine kU (iab v _ rfl rfl ?_);rw[xp r,gU e];exact d
 ·refine fun b f=>fad fun v n a g d=>?_;subst a;subst g;rw[o,bK]at d;exact q v d
def sj (T:Txt K mg):FO P w base 1 T.d40 HW:=by
 refine T.d40.F.rd rT fun cdv A0 R s0 H vs Q E hr h=>?_;obtain⟨n,t,U,k,l,ps,p,O,pw,N,rfl,i,hk,L,Y,hp,X,q⟩:=h;refine HzX ?_;intro _;refine⟨_,(gq (iC (gL jb (gB gF (cv 0) gu) gE)
   (gw (gM (gN (gk (gK (gk (gB gF (gB gF (cv 0) gu) gu) (gk (gK (gk gE (gk (gB gC (cv 2) gu) gn))) gn))) gn))))
   gQ)
  (gq (iC (PW.pt (su (gL jb (gB gF (cv 0) gu) gE) (qD (gL jb (cv 1) gu))))
   (gw (gM (gN (gk (gK (gk (gB gF (gB gF (cv 0) gu) gu) (gk (gK (gk gE (gk (gB gC (cv 2) gu) gn))) gn))) gn))))
   gQ)
  (gq (iC (PW.pt (su (gL jb (gB gF (cv 0) gu) gE) (qD (gL xX (cv 1) gu))))
   (gw (gM (gN (gk (gK (gk (gB gF (gB gF (cv 0) gu) (gY uL (gY uM gu (cv 1)) gu)) (gk (gK (gk gE (gk (gB gC (cv 2) (cv 1)) gn))) gn))) gn))))
   gQ)
  (gw (gM (gN gn)))))),?_⟩;refine Hz3 ?_;intros;refine ear (vd i) fun a b c xs ys D r eb W ec ic=>?_;subst D;have er:∀{j m:Nat},ps[j]?=some m->(ps.map nI)[j]?=some (.int (m:Int)):=fun h=>by rw[aM,h];rfl
 have nn:∀{f:Hp} {a:Zx},gT H f->f a=none->H a=none:=fun{f a} S h=>by cases z:H a with|none=>rfl|some u=>rw[S _ _ z]at h;cases h
 have o:∀{f:Hp} {a:Zx} {v:V},gT H f->f a=none->Ims f [v] ((exL ((exN t)[k]?.getD none) p O pw).map enD)->Q (.ref a) (Zk f a (.lst [v])):=fun{f a v} S h i=>q _ a [v] (S.trans (gr h _)) gm (nn S h) (i.mono (gT.tk (gr h _)));have C:∀{f:Hp} {a:Zx},gT H f->f a=none->exL ((exN t)[k]?.getD none) p O pw=[]->Q (.ref a) (Zk f a (.lst [])):=fun{f a} S h e=>q _ a [] (S.trans (gr h _)) gm (by cases z:H a with|none=>rfl|some u=>rw[S _ _ z]at h;cases h) (by rw[e];exact .nil);refine eaj (HX L) fun k1 k2 k3 _=>?_;by_cases e1:t.s="fn"
 ·obtain⟨M,rfl⟩:=k1 e1;have g:k=0:=by have:U.length=1:=L;lia
  subst g;refine eae (zY W) fun x D F=>?_;subst D;cases lK F;refine jy (i:=0) (x:="fn") (s:="fn") rfl r gG ?_;refine⟨_,r,gy (gv (j:=1) rfl) ⟨_,eb,gy (gv (j:=0) rfl) ⟨_,Y,gy (gv (er hp)) ⟨kB,fun y d=>⟨kB,fun t2 B=>⟨kJ,fun t3 G=>?_⟩⟩⟩⟩⟩⟩;have J:=gr d (.tup [.str "fn",.int (p:Int)]);have I:=gr B (.tup [.str M,.ref y]);exact o (J.trans I) G (.cons (jA B (.cons (.flat rfl) (.cons (jA d (.cons (.flat rfl) (.cons (.flat rfl) .nil))) .nil))) .nil)
 refine hX (i:=0) (x:="fn") (s:=t.s) rfl r (iY e1) ?_;dsimp only[hG];by_cases e2:t.s="let"
 ·obtain⟨M,rfl⟩:=k2 e2;have lk:U.length=2:=IX L;refine eae (zY W) fun x D F=>?_;subst D;cases lK F;by_cases g:k=1;·subst g;refine Aj (i:=0) (x:="let") (s:="let") rfl r gG ?_;refine sO (i:=1) (n:=((1:Nat):Int)) rfl rfl ?_;refine⟨_,r,gy (gv (j:=1) rfl) ⟨_,eb,gy (gv (j:=0) rfl) ⟨_,Y,gy (gv (er (X 0 rfl))) ⟨kB,fun y d=>⟨kB,fun t2 B=>⟨kJ,fun t3 G=>?_⟩⟩⟩⟩⟩⟩;have J:=gr d (.tup [.str "let",.int (O:Int)]);have I:=gr B (.tup [.str M,.ref y]);exact o (J.trans I) G (.cons (jA B (.cons (.flat rfl) (.cons (jA d (.cons (.flat rfl) (.cons (.flat rfl) .nil))) .nil))) .nil)
  ·have g:k=0:=by lia
   subst g;refine Aj (i:=0) (x:="let") (s:="let") rfl r gG ?_;refine sQ (i:=1) (n:=((0:Nat):Int)) rfl (by decide) ?_;dsimp only[hG];refine Ai (i:=0) (x:="case") (s:="let") rfl r gG ?_;exact⟨mz,fun y d=>C (fun _ _ e=>e) d rfl⟩
 refine Ai (i:=0) (x:="let") (s:=t.s) rfl r (iY e2) ?_;dsimp only[hG];by_cases e3:t.s="case"
 ·obtain⟨A,rfl⟩:=k3 e3;obtain⟨lk,lk2⟩:U.length=A.length+ 1/\A.length<=10:=L;refine Aj (i:=0) (x:="case") (s:="case") rfl r gG ?_;refine ifG (i:=1) (n:=(k:Int)) rfl ?_
  cases k with
  |zero=>rw[gU (by decide)];exact⟨mz,fun y d=>C (fun _ _ e=>e) d rfl⟩
  |succ j=>
   rw[ip (by lia)];have hj:A[j]?=some (A[j]'(by lia)):=bf (by lia);refine eae (sN W (tW hj).2) fun x ex F=>?_;cases lK F;have e5:(2*((j+ 1:Nat):Int)-1)=((2*j+ 1:Nat):Int):=by lia
   refine⟨_,r,gy (gv (j:=1) rfl) ⟨.inl ⟨by decide,by decide⟩,_,eb,gy (show atI xs (2*((j+ 1:Nat):Int)-1)=_ by rw[e5];exact gv ex) ⟨_,Y,gy (gv (er hp)) ⟨kB,fun y d=>⟨kB,fun t2 B=>⟨kJ,fun t3 G=>?_⟩⟩⟩⟩⟩⟩;have J:=gr d (.tup [.str "arm",.int (p:Int)]);have I:=gr B (.tup [.str (A[j]'(by lia)).2,.ref y]);refine o (J.trans I) G ?_;have Z:(exN (.case A))[j+ 1]?.getD none=some ((A[j]'(by lia)).2,("arm":Str)):=by show((A.map fun a=>some (a.2,("arm":Str)))[j]?).getD none=_;rw[aM,hj];rfl
   rw[Z];exact .cons (jA B (.cons (.flat rfl) (.cons (jA d (.cons (.flat rfl) (.cons (.flat rfl) .nil))) .nil))) .nil
 refine Ai (i:=0) (x:="case") (s:=t.s) rfl r (iY e3) ?_;refine⟨mz,fun y d=>C (fun _ _ e=>e) d ?_⟩;have ex:exN t=[]:=by
  cases t with
  |fn=>exact absurd rfl e1
  |lt=>exact absurd rfl e2
  |case=>exact absurd rfl e3
  |_=>rfl
 rw[ex];rfl
open TM.Internal (Kn Tr iA szs)
inductive XRw (vs:List V) (H:Hp) (Q:VK):Prop
 |mk (n:V) (κ:Kn) (ks:List Tr) (l:Zx) (ps:List Nat) (N:Str->Prop) (e:vs=[n,.ref l]) (i:Im H n (ndD (.mk κ ks))) (ok:okK κ ks.length N) (hl:H l=some (.lst (ps.map nI))) (hp:ps.length=ks.length) (q:∀H' v,gT H H'->Im H' v (roK κ ps).d->Q v H')
def HY:Sp:=fun a H Q _=>XRw a H Q
theorem xq:∀ps:List Nat,Ims H (ps.map nI) ((ps.map fun p:Nat=>(p:Int)).map kD)
 |[]=> .nil
 |p::ps=> .cons (.flat rfl) (xq ps)
def Ak(B:H1 b=some (.tup xs)) (A:H1 l=some (.lst ys)) (I:H1 D=none) (hn:xs.length<1000) (X:ys.length=xs.length)
  (W:∀p c,gT H1 p->p D=some (.lst c)->c.length=xs.length->(∀(i:Nat) x y,xs[i]?=some x->ys[i]?=some y->∃t,c[i]?=some (.ref t)/\p t=some (.tup [x,y]))->Q (.ref D) p):LcG (Itzm K b l) (Dw K 2 (pq (gX 0) (pq (gX 1) Dv))) (ID (ki (cV 0) (ki (cV 1) rM))) Q [u0,v0] H1 D:=by
 have sl:=IS;refine io (fun k m n g=>m=xs.length-k/\k<=xs.length/\(∃u v,n=[u,v])/\gT H1 g/\∃c,g D=some (.lst c)/\c.length=k/\∀(i:Nat) x y,i<k->xs[i]?=some x->ys[i]?=some y->∃t,c[i]?=some (.ref t)/\g t=some (.tup [x,y])) ⟨xs.length,by simp,cO _,(iai _ _ rfl),gr I _,[],gm,rfl,fun i x y h=>absurd h (di _)⟩ ?_;refine fun k m n g=>fah fun s hk M S=>fL fun c=>fab fun J w H=>?_;subst s;refine eaD M fun u v r=>?_;subst r;by_cases hlt:k<xs.length
 ·refine .inr ⟨(iaq xs ys (xs[k]) (ys[k]'(by lia)) ⟨J9 (S _ _ B),J8 (S _ _ A),bf hlt,bf (by lia)⟩),?_⟩;refine fun y H3=>faa fun T x y=>fah fun s Y r j o=>?_;subst s;subst r;have j:=j xs (J9 (S _ _ B));have o:=o ys (J8 (S _ _ A));have E:=gr Y (.tup [x,y]);refine iap T _ ⟨rfl,J9 gm,rfl,_,_,rfl,_,_,rfl,rfl,?_⟩;refine⟨kB,fun t U=>?_⟩;have C:=gr U (.tup [x,y]);have L:=(E.trans C) _ _ J;refine⟨c,L,by lia,xs.length-(k+ 1),by lia,rfl,hlt,(iai _ _ rfl),?_,c++[.ref t],gm,by rw[aO,w];rfl,?_⟩;·intro q u e;rw[gx (gD e I)];exact C _ _ (E _ _ (S _ _ e))
  ·have G:∀{a:Zx} {F:List V},(Zk (Zk g T (.tup [x,y])) t (.tup [x,y])) a=some (.tup F)->(Zk (Zk (Zk g T (.tup [x,y])) t (.tup [x,y])) D (.lst (c++[.ref t]))) a=some (.tup F):=fun e=>by rw[gx (jP e L (fun z=>nomatch z))];exact e
   intro i O N hi f d;by_cases z:i<k;·refine eae (H i O N z f d) fun P h1 Z=>?_;exact io P (by rw[aK (by lia)];exact h1) (G (C _ _ (E _ _ Z)))
   ·have R:i=k:=by lia
    subst R;rw[j]at f;rw[o]at d;cases f;cases d;exact io t (by rw[aJ (by lia),w,cY];rfl) (G gm)
 ·have e1:k=xs.length:=by lia
  subst e1;exact .inl ⟨(iab xs ys (J9 (S _ _ B)) (J8 (S _ _ A)) (by lia)),W g c S J w fun i x y j o=>H i x y (aq.mp j).1 j o⟩
theorem CN:∀{zs:List V} {ds:List Dt},zs.length=ds.length->(∀(i:Nat) d,ds[i]?=some d->∃z,zs[i]?=some z/\Im H z d)->Ims H zs ds
 |[],[],_,_=> .nil
 |z::zs,[],h,_=>by cases h
 |[],d::ds,h,_=>by cases h
 |z::zs,d::ds,h,k=>by refine eax (k 0 d rfl) fun z' e i=>?_;cases e;exact .cons i (CN (by simpa using h) fun i d hd=>k (i+ 1) d hd)
def BP{a:Zd} (f:Ims H xs (a.map sD)) (s:zs.length=xs.length) (u:ps.length=a.length) (h:∀(i:Nat) x y,xs[i]?=some x->(ps.map nI)[i]?=some y->∃t,zs[i]?=some (.ref t)/\H t=some (.tup [x,y])):Ims H zs (((a.zip ps).map fun q=>(q.1,(q.2:Int))).map fdD):=by have j:=f.length;rw[aC]at j;refine CN (by rw[aC,aC,ck];lia) fun i d g=>?_;rw[aM,aM]at g;refine eax (dA.mp g) fun q m b=>?_;subst b;refine eax (dA.mp m) fun e c b=>?_;subst b;obtain⟨o,n⟩:=cm.mp c;refine eax (sN f (show(a.map sD)[i]?=some (sD e.1) by rw[aM,o];rfl)) fun x l k=>?_;cases lK k;refine eax (h i _ _ l (show(ps.map nI)[i]?=some (nI e.2) by rw[aM,n];rfl)) fun t r p=>?_;exact⟨_,r,.tup p (.cons (.flat rfl) (.cons (.flat rfl) .nil))⟩
def v7 (T:Txt K mg):FO P w base 2 T.d42 HY:=by
 refine T.d42.F.rd rf fun cdv A0 outer s H vs Q E hr h=>?_;obtain⟨n,z,A,l,d,N,rfl,i,r,I,X,q⟩:=h;refine HzX ?_;intro _;refine io _ ((gq (iC (gL jb (gB gF (cv 0) gu) gE)
   (gw (gM (gK (gk gE (gk (gB gC (cv 1) gu) (gk (gB gF (gB gF (cv 0) gu) gu) gn))))))
   gQ)
  (gq (iC (gL jb (gB gF (cv 0) gu) gE)
   (gw (gM (gK (gk gE (gk (iQ iG rfl T.z_tuple jJ (gk (zc (g:=Dw K 2 (pq (gX 0) (pq (gX 1) Dv))) rfl (Fq (x:="_law_word") (y:="_law_place") rfl gG gG rfl (by decide) rfl) (DS rfl T.z_zip (gk (gB gF (cv 0) gu) (gk (cv 1) gn))) (pgP rfl gG rfl rfl) (fun _ _ _ _ _=>(gK (gk (cv 0) (gk (cv 1) gn))))) gn)) gn)))))
   gQ)
  (gq (iC (gL jb (gB gF (cv 0) gu) gE)
   (gq (tG (j:=2) rfl (CI (x:="_law_k") ["_law_places","_law_node"] [("_law_places",1,s.heap.objs.size+ 2),("_law_node",0,s.heap.objs.size+ 1)]) (jE rfl T.z_range (gk (gY uL (hV g9 rfl T.z_len jB (gk (cv 1) gn)) gu) gn)) (fun _ _ _ _ _=>km) (fun _ _ _ _ _=>(gK (gk (gB gF (gB gF (cv 2) gu) (gY uM gu (cv 0))) (gk (gB gF (gB gF (cv 2) gu) (gY jC (gY uM gu (cv 0)) gu)) (gk (gB gC (cv 1) (gY jC (cv 0) gu)) gn))))) rf.nd rfl (.inl rfl))
   (gw (gM (gK (gk gE (gk (gB gC (cv 1) gu) (gk (iQ iG rfl T.z_tuple jJ (gk (cv 2) gn)) gn)))))))
   gQ)
  (gq (iC (gL jb (gB gF (cv 0) gu) gE)
   (gw (gM (gK (gk gE (gk (iQ iG rfl T.z_tuple jJ (gk (cv 1) gn)) gn)))))
   gQ)
  (gw (gM (gY vK (gY vK (gK (gk (gB gF (cv 0) gu) gn)) (gB gF (cv 0) gu)) (iQ iG rfl T.z_tuple jJ (gk (cv 1) gn)))))))))) ?_;refine Hz4 ?_;intros;have sl:=IS;refine ear (vd i) fun a b c G ys z0 u eb L ec ic=>?_;subst z0;have er:∀{j m:Nat},d[j]?=some m->(d.map nI)[j]?=some (.int (m:Int)):=fun h=>by rw[aM,h];rfl
 refine eaP (HX r) fun k1 k2 k3 k4 k5 k6 k7=>?_;by_cases e5:z.s="get"
 ·obtain⟨w0,rfl⟩:=k5 e5;have lk:A.length=1:=r;refine eae (zY L) fun x z0 ix=>?_;subst z0;cases lK ix;match d,(show d.length=1 by lia)with
  |[p],_=>refine jy (i:=0) (x:="get") (s:="get") rfl u gG ?_;refine io _ I (gy (gv (j:=0) rfl) (io _ u (gy (gv (j:=1) rfl) (io _ eb (gy (gv (j:=0) rfl) ⟨uk,fun O e=>?_⟩)))));exact q _ _ (gr e _) (jA e (.cons (.flat rfl) (.cons (.flat rfl) (.cons (.flat rfl) .nil))))
 refine hX (i:=0) (x:="get") (s:=z.s) rfl u (iY e5) ?_;dsimp only[hG];by_cases e6:z.s="rec"
 ·obtain⟨f,rfl⟩:=k6 e6;obtain⟨lk,lk2⟩:A.length=f.length/\f.length<=10:=r;refine jy (i:=0) (x:="rec") (s:="rec") rfl u gG ?_;have lx:G.length=f.length:=by rw[L.length];simp[wsD]
  refine io _ u (gy (gv (j:=1) rfl) (iaa b l rfl ⟨_,J9 eb⟩ ⟨_,J8 I⟩ (fun D hD=>?_)));refine Ak eb I hD (by lia) (by rw[aC];lia) fun J F S2 ez R hz=>?_;refine iaf D F rfl (.inl ⟨J8 ez,fun O e=>⟨kB,fun t2 B=>?_⟩⟩);have S3:=gr e (.tup F);have i2:=BP (L.mono (gT.tk S2)) R (by lia) hz;exact q _ _ ((S2.trans S3).trans (gr B _)) (jA B (.cons (.flat rfl) (.cons (jA e i2) .nil)))
 refine hX (i:=0) (x:="rec") (s:=z.s) rfl u (iY e6) ?_;dsimp only[hG];by_cases e3:z.s="case"
 ·obtain⟨f,rfl⟩:=k3 e3;obtain⟨lk,lk2⟩:A.length=f.length+ 1/\f.length<=10:=r;refine jy (i:=0) (x:="case") (s:="case") rfl u gG ?_;match d,(show d.length=f.length+ 1 by lia)with
  |p0::d,C=>
   have C:d.length=f.length:=by simpa using C
   have en:((((p0::d).map nI).length:Nat):Int)-1=(f.length:Int):=by rw[aC,az,C];lia
   refine iap l _ ⟨rfl,.inl (J8 I),_,rfl,by rw[en];lia,by rw[en];lia,fun D hD=>?_⟩;rw[en,fO];refine mE f.length (by lia) (fun F J=>Ims J F (((f.zip d).map fun q:(Str×Str)×Nat=>(q.1.1,q.1.2,(q.2:Int))).map amD |>.take F.length)) (fun _ _ _ h k=>h.mono k) hD rfl (fun k J _ h=>h) (fun J _=>cN _) .nil ?_ ?_
   ·rintro k J v H3 F Z S hk ⟨rfl,rfl⟩ U R hZ;have hj:f[k]?=some f[k]:=bf hk;have Y:d[k]?=some (d[k]'(by lia)):=bf (by lia);have V:=L.mono (gT.tk S);refine eae (sN V (tW hj).1) fun x ex ix=>?_;cases lK ix;refine eae (sN V (tW hj).2) fun y ey iy=>?_;cases lK iy;have c1:2*(0+(k:Int))=((2*k:Nat):Int):=by lia
    have c2:2*(0+(k:Int))+ 1=((2*k+ 1:Nat):Int):=by lia
    have c3:0+(k:Int)+ 1=((k+ 1:Nat):Int):=by lia
    have ea2:=S _ _ u;have eb2:=S _ _ eb;have hl2:=S _ _ I;have q1:atI G (2*(0+(k:Int)))=some (.str f[k].1):=by rw[c1];exact gv ex
    have q2:atI G (2*(0+(k:Int))+ 1)=some (.str f[k].2):=by rw[c2];exact gv ey
    have q3:atI ((p0::d).map nI) (0+(k:Int)+ 1)=some (nI (d[k]'(by lia))):=by rw[c3];exact gv (by rw[aM];show Option.map nI d[k]?=_;rw[Y];rfl)
    refine io _ ea2 (gy (gv (j:=1) rfl) (iag (.inl ⟨by decide,by decide⟩) _ eb2 (gy q1 (io _ ea2 (gy (gv (j:=1) rfl) (iag (.inl ⟨by decide,by decide⟩) _ eb2 (gy q2 (io _ hl2 (gy q3 ⟨uk,fun O e=>?_⟩)))))))));refine hZ _ _ (gr e _) ?_;rw[aO,aX,cg,aM,aM,R];rw[R]at U;have W:(f.zip d)[k]?=some (f[k],d[k]'(by lia)):=cm.mpr ⟨hj,Y⟩;rw[W];exact(U.mono (gT.tk (gr e _))).app (.cons (jA e (.cons (.flat rfl) (.cons (.flat rfl) (.cons (.flat rfl) .nil)))) .nil)
   ·intro J F S U R ez;dsimp only[gX];rw[bM (by rw[aC,aC,ck];lia)]at U;refine io _ (S _ _ I) (gy (gv (j:=0) rfl) (iaf D F rfl (.inl ⟨J8 ez,fun O e=>⟨uk,fun t2 B=>?_⟩⟩)));exact q _ _ ((S.trans (gr e _)).trans (gr B _)) (jA B (.cons (.flat rfl) (.cons (.flat rfl) (.cons (jA e U) .nil))))
 refine hX (i:=0) (x:="case") (s:=z.s) rfl u (iY e3) ?_;dsimp only[hG];by_cases e7:z.s="row";·obtain⟨m,rfl⟩:=k7 e7;refine jy (i:=0) (x:="row") (s:="row") rfl u gG ?_;refine iaf l _ rfl (.inl ⟨J8 I,fun O e=>⟨kB,fun t2 B=>?_⟩⟩);have M:=gr e (.tup (d.map nI));exact q _ _ (M.trans (gr B _)) (jA B (.cons (.flat rfl) (.cons (jA e (xq d)) .nil)))
 refine hX (i:=0) (x:="row") (s:=z.s) rfl u (iY e7) ?_;dsimp only[hG];refine io _ u (gy (gv (j:=0) rfl) ⟨kJ,fun O e=>?_⟩);have M:=gr e (.tup [.str z.s]);refine io _ (M _ _ u) (gy (gv (j:=1) rfl) ?_);have lw:G.length<=1:=by
  rw[L.length]
  cases z with
  |rcd=>exact absurd rfl e6
  |case=>exact absurd rfl e3
  |_=>simp[wsD]
 refine tU gm (M _ _ eb) (by show 1+G.length<=_;lia) fun t2 J S2 e2=>?_;refine iaf l _ rfl (.inl ⟨J8 (S2 _ _ (M _ _ I)),fun t3 h3=>?_⟩);have S3:=gr h3 (.tup (d.map nI));have C:d.length<=3:=by
  rw[X]
  cases z with
  |rcd=>exact absurd rfl e6
  |case=>exact absurd rfl e3
  |row=>exact absurd rfl e7
  |op o m=>obtain⟨e,B⟩:A.length=m/\(o,m)∈TM.Internal.ops:=r;simp only[TM.Internal.ops,aj,Jt,bo,or_false]at B;lia
  |num=>have:A.length=0:=r;lia
  |name=>have:A.length=0:=r.1;lia
  |fn=>have:A.length=1:=r;lia
  |tag=>have:A.length=1:=r;lia
  |lt=>have:A.length=2:=IX r;lia
  |get=>have:A.length=1:=r;lia
 refine tU (S3 _ _ e2) gm (by rw[aO,aC];show 1+G.length+_<=_;lia) fun t4 H4 S4 e4=>?_;have S14:gT H H4:=M.trans (S2.trans (S3.trans S4));refine q _ _ S14 (.tup e4 ?_);have t:=L.mono (gT.tk S14)
 cases z with
 |rcd=>exact absurd rfl e6
 |case=>exact absurd rfl e3
 |row=>exact absurd rfl e7
 |get=>exact absurd rfl e5
 |op o m=>cases t;exact .cons (.flat rfl) (xq d)
 |num n=>
  match d,(show d.length=0 from X.trans r)with
  |[],_=>exact .cons (.flat rfl) (by show Ims H4 (G++[]) _;rw[aD];exact t)
 |name n=>
  match d,(show d.length=0 from X.trans r.1)with
  |[],_=>exact .cons (.flat rfl) (by show Ims H4 (G++[]) _;rw[aD];exact t)
 |fn n=>
  match d,(show d.length=1 from X.trans r)with
  |[p],_=>exact .cons (.flat rfl) (t.app (.cons (.flat rfl) .nil))
 |tag n=>
  match d,(show d.length=1 from X.trans r)with
  |[p],_=>exact .cons (.flat rfl) (t.app (.cons (.flat rfl) .nil))
 |lt n=>
  match d,(show d.length=2 from IX r)with
  |[p,p2],_=>exact .cons (.flat rfl) (t.app (.cons (.flat rfl) (.cons (.flat rfl) .nil)))
open TM.Internal (Kn Tr iA szs)
def FR (r h:Zx) (H H':Hp):Prop:=∀a o,H a=some o->a≠r->a≠h->H' a=some o
def FR.refl {r:Zx}:FR r h H H:=fun _ _ e _ _=>e
def FR.trans {r:Zx} (f:FR r h H H1) (g:FR r h H1 H2):FR r h H H2:=fun a o e n m=>g a o (f a o e n m) n m
def FR.same {r:Zx} (S:gT H H'):FR r h H H':=fun a o e _ _=>S a o e
def IK:FR r h H (Zk H r o):=fun a u e n _=>by rw[gx n];exact e
def IL:FR r h H (Zk H h o):=fun a u e _ n=>by rw[gx n];exact e
def FR.tk {r:Zx} {b:List V} (F:FR r h H H') (d:H r=some (.lst b)) (c:H h=some (.lst hs)):TK H H':=fun a f e=>F a _ e (jP e d fun z=>nomatch z) (jP e c fun z=>nomatch z)
def FR.put {r:Zx} {H0:Hp} (F:FR r h H0 H) {a:Zx} (z:H0 a=none) (o:HO):FR r h H0 (Zk H a o):=fun b u e n m=>by rw[gx (gD e z)];exact F b u e n m
def Al{g:TG} {l:TS.Internal} {D:mZ} (c:Nat->St->Hp->Prop) (B:c 0 b H) (u:∀i b H,i<=xs.length->c i b H->SqT K H a xs)
  (t:∀(i:Nat) (x:V) (b:St) (H:Hp) (T:Zx),xs[i]?=some x->c i b H->H T=none->g (.ref T) b (Zk H T (.tup [.int (i:Int),x])) fun d k=>l {D with nx:=c (i+ 1),ct:=c (i+ 1),bk:=D.nx} d k) (z:∀b H,c xs.length b H->D.nx b H):
  ∃W:Nat->Nat->St->Hp->Prop,(∃m,W 0 m b H)/\∀i m b H,W i m b H->
   ((FD K a).stop i H/\D.nx b H)\/((FD K a).go i H/\∃N:St->Hp->Prop,(∀f h,N f h->∃n,n<m/\W (i+ 1) n f h)/\∀x h,(FD K a).yld i H x h->g x b h fun d k=>l {D with nx:=N,ct:=N,bk:=D.nx} d k):=by
 refine⟨fun i m b H=>m=xs.length-i/\i<=xs.length/\c i b H,⟨xs.length,by simp,cO _,B⟩,?_⟩;refine fun i m b H=>fab fun j w p=>?_;subst j;have q:=u i b H w p;by_cases hlt:i<xs.length;·refine .inr ⟨(iap xs (xs[i]) ⟨q,by simp[hlt]⟩),c (i+ 1),fun f h r=>⟨xs.length-(i+ 1),by lia,rfl,hlt,r⟩,fun v h y=>?_⟩;refine eak y fun T x j A o s=>?_;subst j;subst o;exact t i x b H T (s xs q) p A
 ·have e:i=xs.length:=by lia
  subst e;exact .inl ⟨⟨xs,q,rfl⟩,z b H p⟩
def rD (c:Pc):Dt:=c.ρ.d
def hD' (c:Pc):Dt:=hoD (hoC c)
inductive XFl (f:Nat) (vs:List V) (H:Hp) (Q:VK):Prop
 |mk (n:V) (t:Tr) (s r h:Zx) (ss rs hs:List V) (sc:Sc) (p d:Nat) (N:Str->Prop) (e:vs=[n,.ref s,.ref r,.ref h]) (i:Im H n (ndD t)) (hf:t.nest<=f) (es:H s=some (.lst ss)) (is:Ims H ss (sc.map enD)) (er:H r=some (.lst rs)) (eh:H h=some (.lst hs)) (lr:rs.length=p) (lh:hs.length=p) (nrh:r≠h) (nsr:s≠r) (nsh:s≠h) (ok:okT t N) (lp:p+t.sz<=100000) (ls:ss.length+t.nest<=1000) (q:∀H' rs' hs',FR r h H H'->H' r=some (.lst (rs++rs'))->Ims H' rs' ((pcT t p sc d).map rD)->H' h=some (.lst (hs++hs'))->Ims H' hs' ((pcT t p sc d).map hD')->Q .non H')
def Ep (f:Nat):Sp:=fun a H Q _=>XFl f a H Q
def BQ (l:List Ex) (k:Nat):hdX (l.drop k)=l[k]?.getD none:=by unfold hdX;rw[List.headD_eq_head?_getD,List.head?_drop]
theorem Am:∀{ts:List Tr} {k:Nat} {t:Tr},ts[k]?=some t->t.nest<=TM.Internal.nests ts
 |[],_,_,h=>by cases h
 |t::ts,0,_,h=>by cases h;rw[TM.Internal.nests];lia
 |t::ts,k+ 1,u,h=>by have:=Am (ts:=ts) (k:=k) h;rw[TM.Internal.nests];lia
theorem Er:∀{ts:List Tr} {k:Nat} {t:Tr},ts[k]?=some t->szs (ts.take k)+t.sz<=szs ts
 |[],_,_,h=>by cases h
 |t::ts,0,_,h=>by cases h;simp only[bQ,szs];lia
 |t::ts,k+ 1,u,h=>by have:=Er (ts:=ts) (k:=k) h;simp only[cn,szs];lia
theorem An:∀{ts:List Tr} {xs:List Ex} {N:Str->Prop} {k:Nat} {t:Tr},oY ts xs N->ts[k]?=some t->∃M,okT t M
 |[],_,_,_,_,_,h=>by cases h
 |t::ts,xs,N,0,_,o,h=>by cases h;exact⟨_,o.1⟩
 |t::ts,xs,N,k+ 1,u,o,h=>An (ts:=ts) (k:=k) o.2 h
def F9{v:Nat} (h:∀w,κ≠ .name w):hoC ⟨roK κ a,sc,e,d,v⟩=none:=by
 cases κ with
 |name w=>exact absurd rfl (h w)
 |num=>rfl
 |row=>rfl
 |op=>rfl
 |rcd=>rfl
 |fn=>cases a<;>rfl
 |tag=>cases a<;>rfl
 |get=>cases a<;>rfl
 |case=>cases a<;>rfl
 |lt=>
  cases a with
  |nil=>rfl
  |cons p a=>cases a<;>rfl
def BR{v:Nat} (i:Im H (.ref a) (ndD (.mk κ ks))) (t:okK κ ks.length N) (J:H s=some (.lst ss)) (B:Ims H ss (sc.map enD)) (l:H h=some (.lst (hs++[.non]))) (y:hs.length=p)
  (k:σ[0]?=some (some (.ref a))) (G:σ[1]?=some (some (.ref s))) (F:σ[3]?=some (some (.ref h))) (E:σ[4]?=some (some (.int (p:Int)))) (q:∀f x,FR r h H f->(r≠h->f r=H r)->f h=some (.lst (hs++[x]))->Im f x (hD' ⟨roK κ ps,sc,e,d,v⟩)->R D σ f):
  B3 (sv (hdT 0 "name") (AU (qJ FZ [] E0 (ki (cV 1) (ki (tOp Cw (tOp Cw (cV 0) (tC (.int 1))) (tC (.int 0))) rM))) (Iy (cV 3) (cV 4) Fh)) hG) R D σ H:=by
 refine ear (vd i) fun T b c P O M m L C S Q=>?_;cases M;refine eab (HX t) fun _ _ _ A _=>?_;by_cases z:κ.s="name"
 ·obtain⟨w,rfl⟩:=A z;refine eae (zY C) fun x o g=>?_;subst o;cases lK g;refine jy (s:="name") k m gG ?_;show onV σ[1]? _;rw[G];show onV σ[0]? _;rw[k];refine io _ m (gy (gv (j:=1) rfl) (io _ L (gy (gv (j:=0) rfl) ⟨s,w,ss,sc,rfl,J,B,fun x g=>?_⟩)));show onV σ[3]? _;rw[F];show onV σ[4]? _;rw[E];have K:ixN (hs++[V.non]).length (p:Int)=some p:=by unfold ixN;rw[ip (by lia),ip (by rw[aO,aX];lia)];rfl
  refine iaq h _ _ p ⟨rfl,rfl,l,K,?_⟩;have I:(hs++[V.non]).set p x=hs++[x]:=by rw[bZ _ _ (by lia),y,cY];rfl
  rw[I];exact q _ x IL (fun n=>gx n) gm (g.mono (ky l).tk)
 ·refine hX (s:=κ.s) k m (iY z) ?_;refine q H .non FR.refl (fun _=>rfl) l ?_;unfold hD';rw[F9 (fun w u=>z (by rw[u];rfl))];exact .flat rfl
theorem Ao:∀ts:List Tr,ts.length<=szs ts
 |[]=>cN _
 |t::ts=>by have:=Ao ts;have:=oZ t;rw[az,szs];lia
theorem tX:∀{ts:List Tr} {k:Nat} {t:Tr},ts[k]?=some t->szs (ts.take (k+ 1))=szs (ts.take k)+t.sz
 |[],_,_,h=>by cases h
 |t::ts,0,_,h=>by cases h;simp only[bQ,cn,szs];lia
 |t::ts,k+ 1,u,h=>by have:=tX (ts:=ts) (k:=k) h;rw[cn,szs,this,cn,szs];lia
def Es (x:Ex) (p a pw:Nat):(exL x p a pw).length<=1:=by
 cases x with
 |none=>exact cO _
 |some z=>exact cN _
def tY (T:Txt K mg) (f:Nat) (gD43:FO P w base (f+ 2) T.d43 (Ep f)):FO P w base (f+ 1+ 2) T.d43 (Ep (f+ 1)):=by
 refine T.d43.F.rd jM fun cdv A0 outer s0 H vs Q E hr h=>?_;obtain⟨n,t,s,r,h,ss,C,hs,L,p,d,N,rfl,i,hf,es,is,er,eh,lr,lh,S,nsr,nsh,ok,lp,ls,q⟩:=h;refine HzX ?_;intro _;refine io _ ((gq (pS (i:=4) jM.nd (hV g9 rfl T.z_len jB (gk (cv 2) gn)))
  (gq (gS (jT (lB ff fg fh iu (J7 (cv 2)) (gk (J7 yy) gn))))
  (gq (gS (jT (lB ff fg fh iu (J7 (cv 3)) (gk (J7 yy) gn))))
  (gq (iC (gL jb (gB gF (cv 0) gu) gE)
   (gw (wz (pF T.d41 (ve T) (hr.mono (by lia)) (gk (cv 1) (gk (gB gF (gB gF (cv 0) gu) gu) gn))) (wy (cv 3) (cv 4) qv)))
   gQ)
  (gq (pS (i:=5) jM.nd (gN gn))
  (gq (kj IW rfl (Bm rfl T.z_enumerate (gk (gB gF (cv 0) gu) gn)) (wx rfl (kY (pN (i:=6) jM.nd) (kY (pN (i:=7) jM.nd) tm)))
   (gq (gS (jT (lB ff fg fh iu (J7 (cv 5)) (gk (J7 (hV g9 rfl T.z_len jB (gk (cv 2) gn))) gn))))
   (gw (gS (pF T.d43 gD43 (hr.mono (by lia)) (gk (cv 7) (gk (gY p9 (cv 1) (pF T.d40 (sj T) (hr.mono (by lia)) (gk (cv 0) (gk (cv 6) (gk (cv 5) gn))))) (gk (cv 2) (gk (cv 3) gn)))))))))
  (gw (wz (pF T.d42 (v7 T) (hr.mono (by lia)) (gk (cv 0) (gk (cv 5) gn))) (wy (cv 2) (cv 4) qv)))))))))) ?_;refine Hz6 ?_;intros;have sl:=IS;obtain⟨m,l⟩:=t;have hsz:(Tr.mk m l).sz=1+szs l:=by rw[Tr.sz]
 have hne:(Tr.mk m l).nest=1+TM.Internal.nests l:=by rw[Tr.nest]
 rw[hne]at hf ls;rw[hsz]at lp;refine ear (vd i) fun a b c xs ys z0 ea eb ib ec ic=>?_;subst z0;refine iab r _ rfl (.inl (J8 er)) ?_;dsimp only[gX];rw[lr];refine ian ⟨_,er⟩ C er (by lia) ?_;have eh1:(Zk H r (.lst (C++[.non]))) h=some (.lst hs):=by rw[gx S.symm];exact eh
 refine ian ⟨_,eh1⟩ hs eh1 (by lia) ?_;have F1:FR r h H (Zk (Zk H r (.lst (C++[.non]))) h (.lst (hs++[.non]))):=IK.trans IL;have er1:(Zk (Zk H r (.lst (C++[.non]))) h (.lst (hs++[.non]))) r=some (.lst (C++[.non])):=by rw[gx S];exact gm
 have eh2:(Zk (Zk H r (.lst (C++[.non]))) h (.lst (hs++[.non]))) h=some (.lst (hs++[.non])):=gm;generalize(Zk (Zk H r (.lst (C++[.non]))) h (.lst (hs++[.non])))=H1 at F1 er1 eh2;have k1:=F1.tk er eh;have es1:=F1 _ _ es nsr nsh;have is1:=is.mono k1;dsimp only;refine BR (r:=r) (ps:=iA l (p+ 1)) (e:=p+(Tr.mk m l).sz) (d:=d) (v:=wT (.mk m l) (val L)) (i.mono k1) ok.1 es1 is1 eh2 lh rfl rfl rfl rfl fun H2 x F2 fr2 eh3 ix=>?_;have er2:H2 r=some (.lst (C++[.non])):=(fr2 S).trans er1;have k2:=F2.tk er1 eh2;refine⟨mz,fun y D=>?_⟩;dsimp only[gX];have S3:=gr D (.lst []);have nr:y≠r:=fun z=>by rw[z,er2]at D;cases D
 have nh:y≠h:=fun z=>by rw[z,eh3]at D;cases D
 have F3:FR r h H (Zk H2 y (.lst [])):=F1.trans (F2.trans (FR.same S3));have k3:=F3.tk er eh;have ea3:=k3 _ _ ea;have ec3:=k3 _ _ ec;have hpl0:H y=none:=by
  cases z:H y with
  |none=>rfl
  |some o=>rw[(F1.trans F2) _ _ z nr nh]at D;cases D
 have ly:=ic.length;rw[tV]at ly;have k03:TK H2 (Zk H2 y (.lst [])):=gT.tk S3;refine io _ ea3 (gy (gv (j:=2) rfl) (iad c rfl ⟨_,J9 ec3⟩ (Al (xs:=ys) (fun k σ A=>∃(o6 o7:Option V) (g:List Pc) (u:List Nat) (R O:Nat) (G hh:List V),σ=[some (.ref a),some (.ref s),some (.ref r),some (.ref h),some (.int (p:Int)),some (.ref y),o6,o7]/\FR r h H A/\g++Ae (l.drop k) (p+ 1+g.length) R O ((exN m).drop k) L d=Ae l (p+ 1) 0 0 (exN m) L d/\u++iA (l.drop k) (p+ 1+g.length)=iA l (p+ 1)/\u.length=k/\(∀j,j+ 1=k->u[j]?=some R)/\g.length=szs (l.take k)/\A y=some (.lst (u.map nI))/\A r=some (.lst (C++(.non::G)))/\Ims A G (g.map rD)/\A h=some (.lst (hs++(x::hh)))/\Ims A (x::hh) (hD' ⟨roK m (iA l (p+ 1)),L,p+(Tr.mk m l).sz,d,wT (.mk m l) (val L)⟩::g.map hD')) ?_ ?_ ?_ ?_)));·exact iay none none ([]) ([]) 0 0 ([]) ([]) ⟨rfl,F3,rfl,rfl,rfl,fun j z=>by lia,rfl,gm,S3 _ _ er2,.nil,S3 _ _ eh3,.cons (ix.mono k03) .nil⟩
 ·refine fun k σ A _=>fao fun o6 o7 g u R O G hh=>fab fun _ F4 _=>?_;exact J9 (F4.tk er eh _ _ ec)
 ·refine fun k v σ A t4 hv=>fao fun o6 o7 g u R O G hh=>fap fun z0 F4 F I lps hpp ldn epl er4 Y eh4 Z h4=>?_;subst z0;refine eae (kx ic hv) fun dv e1 iv=>?_;refine eae (Ah e1) fun t ht z0=>?_;subst z0;have hk:k<l.length:=(aq.mp ht).1;rw[u9 ht]at F I;have S4:=gr h4 (.tup [.int (k:Int),v]);refine iap t4 _ ⟨rfl,J9 gm,rfl,_,_,rfl,_,_,rfl,rfl,?_⟩;have X:=S4 _ _ epl;have U:=S4 _ _ er4;have eh5:=S4 _ _ eh4;have lrr:=Y.length;rw[aC]at lrr;have ih5:=Z.length;rw[az,az,aC]at ih5;have lsz:=Er ht;have tp:=oZ t;have elen:(C++(V.non::G)).length=p+ 1+g.length:=by rw[aO,az];lia
  refine⟨⟨_,X⟩,r,_,rfl,.inl (J8 U),_,X,by rw[aC];have:=Ao l;lia,?_⟩;rw[elen];have F5:FR r h H (Zk (Zk A t4 (.tup [.int (k:Int),v])) y (.lst (u.map nI++[.int ((p+ 1+g.length:Nat):Int)]))):=(F4.trans (FR.same S4)).put hpl0 _;have W:(Zk (Zk A t4 (.tup [.int (k:Int),v])) y (.lst (u.map nI++[.int ((p+ 1+g.length:Nat):Int)]))) y=some (.lst ((u++[p+ 1+g.length]).map nI)):=by rw[gm,bB];rfl
  have er6:(Zk (Zk A t4 (.tup [.int (k:Int),v])) y (.lst (u.map nI++[.int ((p+ 1+g.length:Nat):Int)]))) r=some (.lst (C++(V.non::G))):=by rw[gx nr.symm];exact U
  have eh6:(Zk (Zk A t4 (.tup [.int (k:Int),v])) y (.lst (u.map nI++[.int ((p+ 1+g.length:Nat):Int)]))) h=some (.lst (hs++(x::hh))):=by rw[gx nh.symm];exact eh5
  have k45:TK A (Zk (Zk A t4 (.tup [.int (k:Int),v])) y (.lst (u.map nI++[.int ((p+ 1+g.length:Nat):Int)]))):=fun b ws e=>by rw[gx (jP (S4 _ _ e) X fun z=>nomatch z)];exact S4 _ _ e
  generalize(Zk (Zk A t4 (.tup [.int (k:Int),v])) y (.lst (u.map nI++[.int ((p+ 1+g.length:Nat):Int)])))=H5 at F5 W er6 eh6 k45;have k5:=F5.tk er eh;have hpk:(u++[p+ 1+g.length])[k]?=some (p+ 1+g.length):=by rw[aJ (by lia),lps,cY];rfl
  refine⟨.ref a,m,l,k,y,u++[p+ 1+g.length],p+ 1+g.length,R,O,N,rfl,i.mono k5,hk,ok.1,W,hpk,fun j hj=>by rw[aK (by lia)];exact hpp j hj,fun H6 a6 B S6 e6 n6 i6=>?_⟩;have es6:=S6 _ _ (F5 _ _ es nsr nsh);have lx6:B.length<=1:=by rw[i6.length,aC];exact Es _ _ _ _
  refine iaj s a6 ss B rfl rfl es6 e6 (by lia) (fun s7 h7=>?_);have S7:=gr h7 (.lst (ss++B));have J:=S6.trans S7;obtain⟨M,okt⟩:=An ok.2 ht;have nt:=Am ht;have er7:=J _ _ er6;have eh7:=J _ _ eh6;have k57:TK H H6:=fun b ws e=>S6 _ _ (k5 _ _ e);have k7:TK H (Zk H6 s7 (.lst (ss++B))):=fun b ws e=>J _ _ (k5 _ _ e);have is7:Ims (Zk H6 s7 (.lst (ss++B))) (ss++B) ((L++exL ((exN m)[k]?.getD none) (p+ 1+g.length) R O).map enD):=by rw[bB];exact(is.mono k7).app (i6.mono (gT.tk S7))
  have n1:s7≠r:=fun z=>by rw[z,S6 _ _ er6]at h7;cases h7
  have n2:s7≠h:=fun z=>by rw[z,S6 _ _ eh6]at h7;cases h7
  refine⟨v,t,s7,r,h,ss++B,_,_,L++exL ((exN m)[k]?.getD none) (p+ 1+g.length) R O,p+ 1+g.length,d,M,rfl,iv.mono k7,by lia,gm,is7,er7,eh7,elen,by rw[aO,az];lia,S,n1,n2,okt,by lia,by rw[aO];lia,fun H8 rs' hs' F8 er8 ir8 eh8 ih8=>?_⟩;have e9:exS L (hdX ((exN m).drop k)) (p+ 1+g.length) R O=L++exL ((exN m)[k]?.getD none) (p+ 1+g.length) R O:=by rw[Eo,BQ]
  have k78:=F8.tk er7 eh7;have k48:TK A H8:=fun b ws e=>k78 _ _ (J _ _ (k45 _ _ e));rw[Ae,e9,<-bG,List.tail_drop]at F;refine iay _ _ (g++pcT t (p+ 1+g.length) (L++exL ((exN m)[k]?.getD none) (p+ 1+g.length) R O) d) (u++[p+ 1+g.length]) (p+ 1+g.length) (wT t (upE (val L) (hdX ((exN m).drop k)) O)) (G++rs') (hh++hs') ⟨rfl,F5.trans ((FR.same J).trans F8),?_,?_,by rw[aO,lps];rfl,fun j hj=>by rw[show j=k by lia];exact hpk,by rw[aO,kT,tX ht,ldn],?_,?_,?_,?_,?_⟩;·rw[aO,kT,<-cW];exact F
  ·rw[aO,kT,<-cW,bG];exact I
  ·exact F8 _ _ (J _ _ W) nr nh
  ·rw[er8,bG];rfl
  ·rw[bB];exact(Y.mono k48).app ir8
  ·rw[eh8,bG];rfl
  ·rw[bB];exact(Z.mono k48).app ih8
 ·refine fun σ A=>fao fun o6 o7 g u R O G hh=>fap fun z0 F4 F I lps hpp ldn epl er4 Y eh4 Z=>?_;subst z0;rw[ly,cf]at F I;rw[show Ae [] (p+ 1+g.length) R O ((exN m).drop l.length) L d=[] by rw[Ae],aD]at F;rw[show iA [] (p+ 1+g.length)=[]from rfl,aD]at I;subst F I;have k4:=F4.tk er eh;refine⟨.ref a,m,l,y,iA l (p+ 1),N,rfl,i.mono k4,ok.1,epl,TM.Internal.offs_len _ _,fun H5 v S5 iv=>?_⟩;have U:=S5 _ _ er4;have ej:ixN (C++(V.non::G)).length (p:Int)=some p:=by unfold ixN;rw[ip (by lia),ip (by rw[aO,az];lia)];rfl
  refine iaq r _ _ p ⟨rfl,rfl,U,ej,?_⟩;have et:(C++(V.non::G)).set p v=C++(v::G):=by rw[bZ _ _ (by lia),lr,cY];rfl
  rw[et];have k6:TK H5 (Zk H5 r (.lst (C++(v::G)))):=(ky U).tk;refine q _ (v::G) (x::hh) (F4.trans ((FR.same S5).trans IK)) gm ?_ (by rw[gx S.symm];exact S5 _ _ eh4) ?_;·rw[pcT];exact .cons (iv.mono k6) ((Y.mono (gT.tk S5)).mono k6)
  ·rw[pcT];exact(Z.mono (gT.tk S5)).mono k6
theorem qe (T:Txt K mg):∀f:Nat,FO P w base (f+ 2) T.d43 (Ep f)
 |0=>by
  refine T.d43.F.rd jM fun c u a l H g Q E t h=>?_;·obtain⟨n,⟨e,o⟩,s,r,h,j,m,q,k,p,d,N,rfl,i,b,_⟩:=h;rw[Tr.nest]at b;lia
 |f+ 1=>tY T f (qe T f)
open TM.Internal (Kn Tr iA szs)
noncomputable def wdE (a:Zd) (d:Nat):Str:=a.getD (3+d) ""
structure Bt (H H':Hp) (wl:Zd) (ts:List Tr) (b n r w h:Zx):Prop where
 sm:gT H H'
 eb:H' b=some (.lst [.ref n,.ref r,.ref w,.ref h])
 en:∃ns:List Str,H' n=some (.lst (ns.map V.str))/\ns.length=ts.length
 er:H' r=some (.lst ((iA ts 0).map nI))
 ew:∃xs,H' w=some (.lst xs)/\Ims H' xs ((pcD (wdE wl) ts 0 0 []).map rD)
 eh:∃xs,H' h=some (.lst xs)/\Ims H' xs ((pcD (wdE wl) ts 0 0 []).map hD')
 nw:∀a∈[b,n,r,w,h],H a=none
inductive XBu (vs:List V) (H:Hp) (Q:VK):Prop
 |mk (wa l:Zx) (wl:Zd) (xs:List V) (ts:List Tr) (e:vs=[.ref wa,.ref l]) (hw:H wa=some (.lst (wl.map V.str))) (lw:wl.length=16) (hl:H l=some (.lst xs)) (ix:Ims H xs (ts.map ndD)) (lt:ts.length<=12) (ok:∀t∈ts,(∃N,okT t N)/\t.nest<=40) (sz:szs ts<=10000) (q:∀H' b n r w h,Bt H H' wl ts b n r w h->Q (.ref b) H')
def HZ:Sp:=fun a H Q _=>XBu a H Q
def BS{d:Nat} {H1:Hp} (b:H t1=none) (a:(Zk H t1 (.tup [.str "def",.int (d:Int)])) t2=none):Im (Zk (Zk H t1 (.tup [.str "def",.int (d:Int)])) t2 (.tup [.str w,.ref t1])) (.ref t2) (.tup [sD w,hmD ("def",(d:Int))]):=jA a (.cons (.flat rfl) (.cons (jA b (.cons (.flat rfl) (.cons (.flat rfl) .nil))) .nil))
def tZ (T:Txt K mg):FO P w base 43 T.d44 HZ:=by
 have gD43:=qe (P:=P) (w:=w) (base:=base) T 40;refine T.d44.F.rd iK fun cdv A0 outer s0 H vs Q E hr h=>?_;obtain⟨wa,l,d,xs,Z,rfl,hw,lw,hl,ix,lt,ok,sz,q⟩:=h;refine HzX ?_;intro _;refine io _ ((gq (pS (i:=2) iK.nd (gN gn))
  (gq (pS (i:=3) iK.nd (gN gn))
  (gq (pS (i:=4) iK.nd (gN gn))
  (gq (pS (i:=5) iK.nd (gN gn))
  (gq (pS (i:=6) iK.nd (gN gn))
  (gq (kj IW rfl (DP rfl T.z_enumerate (gk (cv 1) gn)) (wx rfl (kY (pN (i:=7) iK.nd) (kY (pN (i:=8) iK.nd) tm)))
   (gq (pS (i:=6) iK.nd (gY p9 (cv 6) (gN (gk (gK (gk (gB gC (cv 0) (gY jC gu (cv 7))) (gk (gK (gk gE (gk (cv 7) gn))) gn))) gn))))
   (gq (gS (jT (lB ff fg fh iu (J7 (cv 2)) (gk (J7 (gB gC (cv 0) (gY jC gu (cv 7)))) gn))))
   (gq (gS (jT (lB ff fg fh iu (J7 (cv 3)) (gk (J7 (hV g9 rfl T.z_len jB (gk (cv 4) gn))) gn))))
   (gw (gS (pF T.d43 gD43 (hr.mono (by lia)) (gk (cv 8) (gk (cv 6) (gk (cv 4) (gk (cv 5) gn)))))))))))
  (gw (gM (gN (gk (cv 2) (gk (cv 3) (gk (cv 4) (gk (cv 5) gn)))))))))))))) ?_;refine Hz6 ?_;intros;have sl:=IS;refine⟨mz,fun n hn=>?_⟩;dsimp only[gX];refine⟨mz,fun r L=>?_⟩;dsimp only[gX];refine⟨mz,fun c F=>?_⟩;dsimp only[gX];refine⟨mz,fun s x=>?_⟩;dsimp only[gX];refine⟨mz,fun m g=>?_⟩;dsimp only[gX];have S1:=gr hn (.lst []);have Y:=gr L (.lst []);have W:=gr F (.lst []);have O:=gr x (.lst []);have S5:=gr g (.lst []);have en0:=S5 _ _ (O _ _ (W _ _ (Y _ _ (show(Zk H n (.lst [])) n=some (.lst [])from gm))));have er0:=S5 _ _ (O _ _ (W _ _ (show(Zk (Zk H n (.lst [])) r (.lst [])) r=some (.lst [])from gm)));have ew0:=S5 _ _ (O _ _ (show(Zk (Zk (Zk H n (.lst [])) r (.lst [])) c (.lst [])) c=some (.lst [])from gm));have eh0:=S5 _ _ (show(Zk (Zk (Zk (Zk H n (.lst [])) r (.lst [])) c (.lst [])) s (.lst [])) s=some (.lst [])from gm);have es0:(Zk (Zk (Zk (Zk (Zk H n (.lst [])) r (.lst [])) c (.lst [])) s (.lst [])) m (.lst [])) m=some (.lst []):=gm;have S0:=S1.trans (Y.trans (W.trans (O.trans S5)));have n0:∀a∈[n,r,c,s],H a=none:=fun a ha=>by
  simp only[aj,bo,or_false]at ha;have nn:∀{H2:Hp} {a:Zx},gT H H2->H2 a=none->H a=none:=fun{H2 a} S h=>by cases z:H a with|none=>rfl|some u=>rw[S _ _ z]at h;cases h
  rcases ha with rfl|rfl|rfl|rfl;·exact hn
  ·exact nn S1 L
  ·exact nn (S1.trans Y) F
  ·exact nn (S1.trans (Y.trans W)) x
 have d1:r≠n:=fun z=>by rw[z,show(Zk H n (.lst [])) n=some (.lst [])from gm]at L;cases L
 have d2:c≠n:=fun z=>by rw[z,Y _ _ (show(Zk H n (.lst [])) n=some (.lst [])from gm)]at F;cases F
 have d3:c≠r:=fun z=>by rw[z,show(Zk (Zk H n (.lst [])) r (.lst [])) r=some (.lst [])from gm]at F;cases F
 have d4:s≠n:=fun z=>by rw[z,W _ _ (Y _ _ (show(Zk H n (.lst [])) n=some (.lst [])from gm))]at x;cases x
 have d5:s≠r:=fun z=>by rw[z,W _ _ (show(Zk (Zk H n (.lst [])) r (.lst [])) r=some (.lst [])from gm)]at x;cases x
 have d6:s≠c:=fun z=>by rw[z,show(Zk (Zk (Zk H n (.lst [])) r (.lst [])) c (.lst [])) c=some (.lst [])from gm]at x;cases x
 have ds:m≠n/\m≠r/\m≠c/\m≠s:=by
  refine⟨fun z=>?_,fun z=>?_,fun z=>?_,fun z=>?_⟩;·rw[z,O _ _ (W _ _ (Y _ _ (show(Zk H n (.lst [])) n=some (.lst [])from gm)))]at g;cases g
  ·rw[z,O _ _ (W _ _ (show(Zk (Zk H n (.lst [])) r (.lst [])) r=some (.lst [])from gm))]at g;cases g
  ·rw[z,O _ _ (show(Zk (Zk (Zk H n (.lst [])) r (.lst [])) c (.lst [])) c=some (.lst [])from gm)]at g;cases g
  ·rw[z,show(Zk (Zk (Zk (Zk H n (.lst [])) r (.lst [])) c (.lst [])) s (.lst [])) s=some (.lst [])from gm]at g;cases g
 clear hn L F x g S1 Y W O S5;generalize(Zk (Zk (Zk (Zk (Zk H n (.lst [])) r (.lst [])) c (.lst [])) s (.lst [])) m (.lst []))=H0 at*;have lx:=ix.length;rw[aC]at lx;refine iad l rfl ⟨_,J8 (S0 _ _ hl)⟩ (BL (xs:=xs) (fun k σ A=>∃(o7 o8:Option V) (m:Zx) (D:List V) (I:Sc) (f:List Pc) (B:List Nat) (p:Zd) (M U:List V),σ=[some (.ref wa),some (.ref l),some (.ref n),some (.ref r),some (.ref c),some (.ref s),some (.ref m),o7,o8]/\gT H A/\f++pcD (wdE d) (Z.drop k) k f.length I=pcD (wdE d) Z 0 0 []/\B++iA (Z.drop k) f.length=iA Z 0/\B.length=k/\f.length=szs (Z.take k)/\A m=some (.lst D)/\Ims A D (I.map enD)/\D.length=k/\(m≠n/\m≠r/\m≠c/\m≠s)/\A n=some (.lst (p.map V.str))/\p.length=k/\A r=some (.lst (B.map nI))/\A c=some (.lst M)/\Ims A M (f.map rD)/\A s=some (.lst U)/\Ims A U (f.map hD')) ?_ ?_ ?_ ?_);·exact iax none none m ([]) ([]) ([]) ([]) ([]) ([]) ([]) ⟨rfl,S0,rfl,rfl,rfl,rfl,es0,.nil,rfl,ds,en0,rfl,er0,ew0,.nil,eh0,.nil⟩
 ·refine fun k σ A _=>faq fun o7 o8 m D I f B p M U=>fab fun _ S _=>?_;exact J8 (S _ _ hl)
 ·refine fun k v σ A t4 hv=>faq fun o7 o8 m D I f B p M U=>far fun z0 S G J lps ldn es is R y0 en lns er ew iw eh ih h4=>?_;subst z0;refine eaJ y0 fun m1 m2 m3 m4=>?_;refine eae (kx ix hv) fun dv e1 iv=>?_;rw[aM]at e1;refine eae (dA.mp e1) fun t ht z0=>?_;subst z0;have hk:k<Z.length:=(aq.mp ht).1;rw[u9 ht]at G J;obtain⟨⟨N,okt⟩,nt⟩:=ok t (aN ht);have lsz:=Er ht;have T4:=gr h4 (.tup [.int (k:Int),v]);refine iap t4 _ ⟨rfl,J9 gm,rfl,_,_,rfl,_,_,rfl,rfl,?_⟩;have ek:(d.map V.str)[3+k]?=some (.str (wdE d k)):=by rw[aM,bf (show 3+k<d.length by lia)];show some (V.str _)=_;unfold wdE;rw[bq,bf (show 3+k<d.length by lia)];rfl
  have c3:(3:Int)+(k:Int)=((3+k:Nat):Int):=by lia
  have ea:atI (d.map V.str) ((3:Int)+(k:Int))=some (.str (wdE d k)):=by rw[c3];exact gv ek
  have O:=S.trans T4;have hw4:=O _ _ hw;refine io _ hw4 (gy ea ⟨kB,fun t1 h1=>⟨kB,fun C h2=>⟨kJ,fun l3 h3=>?_⟩⟩⟩);have T1:=gr h1 (.tup [.str "def",.int (k:Int)]);have T2:=gr h2 (.tup [.str (wdE d k),.ref t1]);have T3:=gr h3 (.lst [.ref C]);have T13:=T4.trans (T1.trans (T2.trans T3));refine iaj m l3 D _ rfl rfl (T13 _ _ es) gm (by rw[R];show k+ 1<=_;lia) (fun X h5=>?_);dsimp only[gX];have T5:=gr h5 (.lst (D++[.ref C]));have y:=T13.trans T5;have is5:Ims (Zk (Zk (Zk (Zk (Zk A t4 (.tup [.int (k:Int),v])) t1 (.tup [.str "def",.int (k:Int)])) C (.tup [.str (wdE d k),.ref t1])) l3 (.lst [.ref C])) X (.lst (D++[.ref C]))) (D++[.ref C]) ((I++[dfE (wdE d) k 0]).map enD):=by rw[bB];exact(is.mono (gT.tk y)).app (.cons ((BS (H1:=A) h1 h2).mono (gT.tk (T3.trans T5))) .nil)
  have es5:(Zk (Zk (Zk (Zk (Zk A t4 (.tup [.int (k:Int),v])) t1 (.tup [.str "def",.int (k:Int)])) C (.tup [.str (wdE d k),.ref t1])) l3 (.lst [.ref C])) X (.lst (D++[.ref C]))) X=some (.lst (D++[.ref C])):=gm;have nx:∀{a:Zx} {o:HO},A a=some o->X≠a:=fun e z=>by rw[<-z]at e;rw[T13 _ _ e]at h5;cases h5
  have m1:=nx en;have m2:=nx er;have m3:=nx ew;have m4:=nx eh;generalize(Zk (Zk (Zk (Zk (Zk A t4 (.tup [.int (k:Int),v])) t1 (.tup [.str "def",.int (k:Int)])) C (.tup [.str (wdE d k),.ref t1])) l3 (.lst [.ref C])) X (.lst (D++[.ref C])))=H5 at y is5 es5;have en5:=y _ _ en;refine iag ⟨_,en5⟩ _ (y _ _ (S _ _ hw)) (gy ea (iad _ en5 (by rw[aC];lia) ?_));have k6:TK H5 (Zk H5 n (.lst (p.map V.str++[.str (wdE d k)]))):=(ky en5).tk;have er6:(Zk H5 n (.lst (p.map V.str++[.str (wdE d k)]))) r=some (.lst (B.map nI)):=by rw[gx d1];exact y _ _ er
  have ew6:(Zk H5 n (.lst (p.map V.str++[.str (wdE d k)]))) c=some (.lst M):=by rw[gx d2];exact y _ _ ew
  refine⟨⟨_,er6⟩,c,_,rfl,.inl (J8 ew6),_,er6,by rw[aC];lia,?_⟩;have lrr:=iw.length;have lhh:=ih.length;rw[aC]at lrr lhh;rw[lrr];have k7:TK H5 (Zk (Zk H5 n (.lst (p.map V.str++[.str (wdE d k)]))) r (.lst (B.map nI++[.int (f.length:Int)]))):=fun a ws e=>(ky er6).tk _ _ (k6 _ _ e);have es7:(Zk (Zk H5 n (.lst (p.map V.str++[.str (wdE d k)]))) r (.lst (B.map nI++[.int (f.length:Int)]))) X=some (.lst (D++[.ref C])):=by rw[gx m2,gx m1];exact es5
  have ew7:(Zk (Zk H5 n (.lst (p.map V.str++[.str (wdE d k)]))) r (.lst (B.map nI++[.int (f.length:Int)]))) c=some (.lst M):=by rw[gx d3];exact ew6
  have eh7:(Zk (Zk H5 n (.lst (p.map V.str++[.str (wdE d k)]))) r (.lst (B.map nI++[.int (f.length:Int)]))) s=some (.lst U):=by rw[gx d5,gx d4];exact y _ _ eh
  have en7:(Zk (Zk H5 n (.lst (p.map V.str++[.str (wdE d k)]))) r (.lst (B.map nI++[.int (f.length:Int)]))) n=some (.lst ((p++[wdE d k]).map V.str)):=by rw[gx d1.symm,gm,bB];rfl
  have er7:(Zk (Zk H5 n (.lst (p.map V.str++[.str (wdE d k)]))) r (.lst (B.map nI++[.int (f.length:Int)]))) r=some (.lst ((B++[f.length]).map nI)):=by rw[gm,bB];rfl
  have S7:gT H (Zk (Zk H5 n (.lst (p.map V.str++[.str (wdE d k)]))) r (.lst (B.map nI++[.int (f.length:Int)]))):=fun a u e=>by rw[gx (gD e (n0 r (by simp))),gx (gD e (n0 n (by simp)))];exact y _ _ (S _ _ e)
  generalize(Zk (Zk H5 n (.lst (p.map V.str++[.str (wdE d k)]))) r (.lst (B.map nI++[.int (f.length:Int)])))=H7 at k7 es7 ew7 eh7 en7 er7 S7;have k47:TK A H7:=fun a ws e=>k7 _ _ (y _ _ e);refine⟨v,t,X,c,s,D++[.ref C],M,U,I++[dfE (wdE d) k 0],f.length,k,N,rfl,iv.mono (gT.tk S7),nt,es7,is5.mono k7,ew7,eh7,lrr,lhh,d6.symm,m3,m4,okt,by lia,by rw[aO,R];show k+ 1+_<=_;lia,fun H8 rs' hs' F8 er8 ir8 eh8 ih8=>?_⟩;have k78:=F8.tk ew7 eh7;have k48:TK A H8:=fun a ws e=>k78 _ _ (k47 _ _ e);have k58:TK H5 H8:=fun a ws e=>k78 _ _ (k7 _ _ e);rw[pcD,<-bG]at G;refine iax _ _ X (D++[.ref C]) (I++[dfE (wdE d) k (wT t (val (I++[dfE (wdE d) k 0])))]) (f++pcT t f.length (I++[dfE (wdE d) k 0]) k) (B++[f.length]) (p++[wdE d k]) (M++rs') (U++hs') (⟨rfl,fun a u e=>F8 _ _ (S7 _ _ e) (gD e (n0 c (by simp))) (gD e (n0 s (by simp))),?_,?_,by rw[aO,lps];rfl,by rw[aO,kT,tX ht,ldn],F8 _ _ es7 m3 m4,?_,by rw[aO,R];rfl,⟨m1,m2,m3,m4⟩,F8 _ _ en7 d2.symm d4.symm,by rw[aO,lns];rfl,F8 _ _ er7 d3.symm d5.symm,er8,?_,eh8,?_⟩);·rw[aO,kT];exact G
  ·rw[aO,kT,bG];exact J
  ·have e0:(I++[dfE (wdE d) k (wT t (val (I++[dfE (wdE d) k 0])))]).map enD=(I++[dfE (wdE d) k 0]).map enD:=by rw[bB,bB];rfl
   rw[e0];exact is5.mono k58
  ·rw[bB];exact(iw.mono k48).app ir8
  ·rw[bB];exact(ih.mono k48).app ih8
 ·refine fun σ A=>faq fun o7 o8 m D I f B p M U=>far fun z0 S G J lps ldn es is R ms en lns er ew iw eh ih=>?_;subst z0;rw[lx,cf]at G J;rw[show pcD (wdE d) [] Z.length f.length I=[]from rfl,aD]at G;rw[show iA [] f.length=[]from rfl,aD]at J;subst G J;refine⟨ui,fun b hb=>?_⟩;have Tb:=gr hb (.lst [.ref n,.ref r,.ref c,.ref s]);have kb:=gT.tk Tb;refine q _ b n r c s ⟨S.trans Tb,gm,(io p (Tb _ _ en) (lns.trans lx)),Tb _ _ er,(io M (Tb _ _ ew) (iw.mono kb)),(io U (Tb _ _ eh) (ih.mono kb)),fun a ha=>?_⟩;rcases aj.mp ha with rfl|ha
  ·cases z:H a with
   |none=>rfl
   |some u=>rw[S _ _ z]at hb;cases hb
  ·exact n0 a ha
def vf:Sp:=fun a H Q _=>∃c m:Int,a=[.int c,.int m]/\0<=m/\m<=100/\∀x:Str,x.length<=100->Q (.str x) H
def sg36:("abcdefghijklmnopqrstuvwxyz0123456789":Str).cps.toList.length=36:=gG
def mV (c:Nat):(⟨#[c]⟩:Str).length=1:=rfl
def vg (T:Txt K mg):FO P w base 1 T.d26 vf:=by
 refine T.d26.F.rd jj fun _ A _ s H t Q E v h=>?_;refine eak h fun c m b C B q=>?_;subst b;refine HzX ?_;intro _;refine io _ ((gq (pS (i:=2) jj.nd gE)
  (gq (pS (i:=3) jj.nd gE)
  (gq (kj IW rfl (jE rfl T.z_range (gk (pv 1) gn)) (pN (i:=4) jj.nd)
   (gq (pS (i:=5) jj.nd gu)
   (gq (iC (tu xK (pv 4) gu)
    (gw (pS (i:=5) jj.nd gu))
    gQ)
   (gq (pS (i:=3) jj.nd (gY mW (pv 3) (gB yW (pv 2) (gY qF (pv 0) (pv 5)))))
   (gw (pS (i:=0) jj.nd (gY nq (pv 0) gu)))))))
  (gw (gM (pv 3))))))) ?_;refine Hz3 ?_;intros;have u:=IS;refine⟨_,rfl,_,rfl,by lia,by lia,kK (fun i f k=>∃(y:Str) (c:Int) (o j:Option V),f=[some (.int c),some (.int m),some (.str "abcdefghijklmnopqrstuvwxyz0123456789"),some (.str y),o,j]/\k=H/\y.length<=i)
  (iaq ("") c none none ⟨rfl,rfl,cN _⟩) ?_ ?_⟩
 ·refine fun i f k z=>faj fun y c o j=>fab fun b g p=>?_;subst b;subst g;have a:∀n:Int,(n=26\/n=36)->∃d:Nat,atI ("abcdefghijklmnopqrstuvwxyz0123456789":Str).cps.toList (c%n)=some d:=fun n x=>by
   have l:(0:Int)<n:=by lia
   have r:=fR c (Int.ne_of_gt l);have D:=fV c l;refine eae (Cu ("abcdefghijklmnopqrstuvwxyz0123456789":Str).cps.toList (c%n) r (by rw[sg36];lia)) fun d e _=>?_;exact⟨d,e⟩
  refine⟨_,rfl,rfl,_,rfl,IE (fun _=>?_) (fun _=>?_)⟩;·obtain⟨d,e⟩:=a 26 (.inl rfl);refine⟨_,rfl,_,rfl,_,rfl,_,rfl,_,_,rfl,rfl,(by show(0:Int)<26;decide),_,_,_,rfl,rfl,sz gG,e,_,_,rfl,rfl,by rw[mV];lia,?_⟩;refine⟨_,rfl,_,_,rfl,rfl,⟨by decide,by decide⟩,?_⟩;exact iaq _ _ _ _ ⟨rfl,rfl,by rw[J6,mV];lia⟩
  ·obtain⟨d,e⟩:=a 36 (.inr rfl);refine⟨_,rfl,_,rfl,_,rfl,_,rfl,_,_,rfl,rfl,(by show(0:Int)<36;decide),_,_,_,rfl,rfl,sz gG,e,_,_,rfl,rfl,by rw[mV];lia,?_⟩;refine⟨_,rfl,_,_,rfl,rfl,⟨by decide,by decide⟩,?_⟩;exact iaq _ _ _ _ ⟨rfl,rfl,by rw[J6,mV];lia⟩
 ·refine fun f k=>faj fun y c o j=>fab fun b g p=>?_;subst b;subst g;exact io _ rfl (q y (by lia))
noncomputable def sgn (k:Nat):Nat:=("abcdefghijklmnop":Str).cps.toList.getD k 0
noncomputable def w1 (A B:Str) (k:Nat):Str:=A++⟨#[sgn k]⟩++B
noncomputable def t7 (z:Int):Nat:=(atI ("t7":Str).cps.toList z).getD 0
noncomputable def Ga (j:Nat):Int:=([8,4,2,1]:List Int).getD j 1
noncomputable def bit (k j:Nat):Nat:=t7 ((0+(k:Int))/Ga j%2)
noncomputable def w2 (x:Str) (k:Nat):Nat->Str
 |0=>x
 |j+ 1=>w2 x k j++⟨#[bit k j]⟩
def Et{i:Nat} (h:i<l.length):atI l (0+(i:Int))=some (l.getD i 0):=by rw[fW,bq,bf h];exact gv (bf h)
def xr (a b:Str):(a++b).cps.toList=a.cps.toList++b.cps.toList:=fH
def vh {f:Nat->Str} (h:∀a,a<16->∀b,b<16->a≠b->f a≠f b):((aa 16).map f).Nodup:=by rw[List.Nodup,b6];refine List.Pairwise.imp_of_mem (fun{a b} e d c=>?_) List.pairwise_lt_range;exact h a (af.mp e) b (af.mp d) (cH c)
def Gb:∀a,a<16->∀b,b<16->a≠b->sgn a≠sgn b:=gG
def Gd:∀a,a<16->∀b,b<16->a≠b->[bit a 0,bit a 1,bit a 2,bit a 3]≠[bit b 0,bit b 1,bit b 2,bit b 3]:=gG
def BU (A B:Str):((aa 16).map (w1 A B)).Nodup:=vh fun a g b f d e=>by have h:=congrArg (fun z:Str=>z.cps.toList) e;simp only[w1,xr]at h;have i:=cq (List.append_cancel_right h);injection i with h3 _;exact Gb a g b f d h3
def BV (x:Str):((aa 16).map fun k=>w2 x k 4).Nodup:=vh fun a ha b hb hn e=>by have h:=congrArg (fun z:Str=>z.cps.toList) e;simp only[w2,xr,bG]at h;have h2:=cq h;exact Gd a ha b hb hn h2
def sR {f:Nat->Str} (i:Nat):(aa (i+ 1)).map f=(aa i).map f++[f i]:=by rw[cu,bB];rfl
def Wd (H:Hp) (l:Zx):Prop:=∃a:List Str,H l=some (.lst (a.map V.str))/\a.length=16/\a.Nodup
def t6:Sp:=fun b H Q _=>∃c:Int,b=[.int c]/\∀l a,gT H a->H l=none->Wd a l->Q (.ref l) a
def t8 (T:Txt K mg):FO P w base 2 T.d27 t6:=by
 refine T.d27.F.rd iB fun _ A _ s H vs Q E J h=>?_;refine eae h fun c b q=>?_;subst b;refine HzX ?_;intro _;refine io _ ((gq (pS (i:=0) iB.nd (gY qF (pv 0) (gY B5 gu gu)))
  (gq (pS (i:=1) iB.nd (gY wB (gY qF (pv 0) gu) gu))
  (gq (pS (i:=2) iB.nd (gN gn))
  (gq (iC (tu xK (gY qF (gY nq (pv 0) gu) gu) gu)
   (gq (pS (i:=3) iB.nd (pF T.d26 (vg T) J.m (gk (gY nq (pv 0) gu) (gk (gY wB (pv 1) gu) gn))))
   (gq (pS (i:=4) iB.nd (gY qF (gY nq (pv 0) gu) (gY wB (pv 1) gu)))
   (gq (kj IW rfl (jE rfl T.z_range (gk gu gn)) (pN (i:=5) iB.nd)
    (gw (gS (lB ff fg fh iu (pv 2) (gk (gY mW (gY mW (oF Cj (pv 3) qK (qL (pv 4))) (gB yW gE (pv 5))) (oF Cj (pv 3) (qL (pv 4)) qK)) gn)))))
   (gw (gM (pv 2))))))
   gQ)
  (gq (pS (i:=3) iB.nd (pF T.d26 (vg T) J.m (gk (gY nq (pv 0) gu) (gk (pv 1) gn))))
  (gq (kj IW rfl (jE rfl T.z_range (gk gu gn)) (pN (i:=5) iB.nd)
   (gq (pS (i:=6) iB.nd (pv 3))
   (gq (kj IW rfl (lR (gN (gk gu (gk gu (gk gu (gk gu gn)))))) (pN (i:=7) iB.nd)
    (gw (pS (i:=6) iB.nd (gY mW (pv 6) (gB yW gE (gY qF (gY nq (pv 5) (pv 7)) gu))))))
   (gw (gS (lB ff fg fh iu (pv 2) (gk (pv 6) gn)))))))
  (gw (gM (pv 2)))))))))) ?_;refine Hz6 ?_;intros;have sl:=IS;refine⟨_,rfl,_,_,rfl,rfl,⟨by decide,by decide,by decide⟩,_,_,rfl,rfl,(by show(0:Int)<10^(24:Int).toNat;decide+kernel),?_⟩;dsimp only;generalize c%10^(24:Int).toNat=c;refine⟨_,rfl,_,_,rfl,rfl,(by show(0:Int)<8;decide),_,_,rfl,rfl,?_⟩;have s0:=fR c (show(8:Int)≠0 by decide);have s1:=fV c (show(0:Int)<8 by decide);refine⟨mz,fun l t=>?_⟩;have r:∀(f:Nat->Str) (a:Hp),gT H a->a l=some (.lst (((aa 16).map f).map V.str))->((aa 16).map f).Nodup->Q (.ref l) a:=fun f a S e W=>q l a S t (iad _ e (by rw[aC,cw]) W);have N:gT H (upd H l (.lst [])):=gr t _;refine⟨_,rfl,_,_,rfl,rfl,⟨by decide,by decide⟩,_,_,rfl,rfl,(by show(0:Int)<2;decide),rfl,_,rfl,IE (fun _=>?_) (fun _=>?_)⟩
 ·refine⟨_,rfl,_,_,rfl,rfl,⟨by decide,by decide⟩,_,rfl,_,_,rfl,rfl,_,_,rfl,by lia,by lia,fun x I=>?_⟩;refine⟨_,rfl,_,_,rfl,rfl,⟨by decide,by decide⟩,_,rfl,_,_,rfl,rfl,_,_,rfl,rfl,(by show(0:Int)<c%8+ 1+ 4;lia),?_⟩;dsimp only;generalize c/16%(c%8+ 1+ 4)=at_;refine iak 16 rfl (by decide) (by decide) (kK (fun i d a=>∃(o:Option V),d=[some (.int c),some (.int (c%8+ 1)),some (.ref l),some (.str x),some (.int at_),o,none,none]/\gT H a/\a l=some (.lst (((aa i).map (w1 (Txt.slice x none (some at_)) (Txt.slice x (some at_) none))).map V.str)))
   (iad none rfl N gm) ?_ ?_);·refine fun i d a D=>fan fun o b S e=>?_;subst b;have n:i<16:=D;have u:=Et (l:=("abcdefghijklmnop":Str).cps.toList) (i:=i) (by rw[show("abcdefghijklmnop":Str).cps.toList.length=16 by decide+kernel];lia);have la:=JW x none (some at_);have lb:=JW x (some at_) none;refine⟨_,rfl,.inl (iam rfl _ (J8 e)),_,rfl,_,rfl,_,rfl,_,rfl,by lia,_,rfl,_,_,_,rfl,rfl,sz gG,u,_,_,rfl,rfl,by rw[mV];lia,_,rfl,_,rfl,_,rfl,_,rfl,by lia,_,_,rfl,rfl,by rw[J6,mV];lia,l,_,_,rfl,rfl,e,by rw[aC,aC,cw];lia,?_⟩;refine iad _ rfl (kr S t _) ?_;rw[gm,sR,bB];rfl
  ·refine fun d a=>fan fun o b S e=>?_;subst b;exact io _ rfl (r _ a S e (BU _ _))
 ·refine⟨_,rfl,_,_,rfl,rfl,⟨by decide,by decide⟩,_,rfl,_,_,rfl,by lia,by lia,fun x I=>?_⟩;refine iak 16 rfl (by decide) (by decide) (kK (fun i d a=>∃(o B m:Option V),d=[some (.int c),some (.int (c%8+ 1)),some (.ref l),some (.str x),none,o,B,m]/\gT H a/\a l=some (.lst (((aa i).map fun k=>w2 x k 4).map V.str)))
   (iar none none none ⟨rfl,N,gm⟩) ?_ ?_)
  ·refine fun i d a D=>faa fun o B m=>fab fun b S e=>?_;subst b;have n:i<16:=D;refine iad _ rfl ui (fun p L=>(iad p rfl ⟨_,J8 gm⟩ ?_));have S2:gT H (upd a p (.lst [V.int 8,V.int 4,V.int 2,V.int 1])):=S.trans (gr L _);have C:l≠p:=gD e L;refine qr (xs:=[V.int 8,V.int 4,V.int 2,V.int 1]) (fun j d y=>∃(m:Option V),d=[some (.int c),some (.int (c%8+ 1)),some (.ref l),some (.str x),none,some (.int (0+(i:Int))),some (.str (w2 x i j)),m]/\y=upd a p (.lst [V.int 8,V.int 4,V.int 2,V.int 1])/\(w2 x i j).length<=100+j)
    (iad m rfl rfl I) (fun j d y _ ⟨G,_,Z,_⟩=>by rw[Z];exact J8 gm) ?_ ?_
   ·refine fun j v d y g=>fan fun G b z U=>?_;subst b;subst z;have Y:j<4:=(aq.mp g).1;have X:v= .int (Ga j)/\0<Ga j/\Ga j<1073741824:=by
     match j,Y,g with
     |0,_,g=>cases g;exact⟨rfl,by decide,by decide⟩
     |1,_,g=>cases g;exact⟨rfl,by decide,by decide⟩
     |2,_,g=>cases g;exact⟨rfl,by decide,by decide⟩
     |3,_,g=>cases g;exact⟨rfl,by decide,by decide⟩
    refine eao X fun b R O=>?_;subst b;refine eae (Cu ("t7":Str).cps.toList ((0+(i:Int))/Ga j%2) (fR _ (by decide)) (by rw[show("t7":Str).cps.toList.length=2 by decide+kernel];exact fV _ (by decide))) fun ch u _=>?_;have F:ch=bit i j:=by rw[bit,t7,u];rfl
    subst F;refine⟨_,rfl,_,rfl,_,rfl,_,_,rfl,rfl,⟨R,O⟩,_,_,rfl,rfl,(by show(0:Int)<2;decide),_,_,_,rfl,rfl,sz gG,u,_,_,rfl,rfl,by rw[mV];lia,?_⟩;exact iad _ rfl rfl (by rw[w2,J6,mV];lia)
   ·refine fun d y=>fan fun G b z U=>?_;subst b;subst z;have M:(upd a p (.lst [V.int 8,V.int 4,V.int 2,V.int 1])) l=some (.lst (((aa i).map fun k=>w2 x k 4).map V.str)):=by rw[gx C];exact e
    refine⟨_,rfl,.inl (iam rfl _ (J8 M)),_,rfl,l,_,_,rfl,rfl,M,by rw[aC,aC,cw];lia,?_⟩;refine iar _ _ _ ⟨rfl,kr S2 t _,?_⟩;rw[gm,sR,bB];rfl
  ·refine fun d a=>faa fun o B m=>fab fun b S e=>?_;subst b;exact io _ rfl (r _ a S e (BV x))
def xt:Nat->Sp
 |0=>fun _ _ _ _=>False
 |n+ 1=>fun b H Q _=>∃(x y:V) (d:Dt),b=[x,y]/\Dta H x d/\Dta H y d/\kW d<=n/\okD d/\∀a,gT H a->Q (.bl true) a
def Ap(h:H a=some (.tup xs)):Hh K (.ref a) H xs.length:= .inr ⟨xs,J9 h,rfl⟩
def Aq(h:H a=some (.lst xs)):Hh K (.ref a) H xs.length:= .inl ⟨xs,J8 h,rfl⟩
def xw (n:Nat):(aG n true).all id=true:=by rw[List.all_eq_true];intro b a;exact(List.mem_replicate.mp a).2
def Ar(n:Nat) (E:n<sizeLine) (s:H1 D=none)
  (o:∀k H,gT H1 H->k<n->J.go k H) (l:∀H,gT H1 H->J.stop n H)
  (f:∀(k:Nat) (H:Hp) (v:V) (j:Hp) (R:St->V->Hp->Prop),gT H1 H->k<n->J.yld k H v j->∀b:St,b.length=τ.length->(∀(a:St) (c:Hp),a.length=τ.length->gT H c->R a (.bl true) c)->g v b j fun a C=>te a C (R a))
  (w:∀q,gT H1 q->q D=some (.lst ((aG n true).map V.bl))->Q (.ref D) q):LcG J g te Q τ H1 D:=by
 refine io (fun k m b d=>m=n-k/\k<=n/\b.length=τ.length/\gT H1 d/\d D=some (.lst ((aG k true).map V.bl))) ⟨n,by simp,cO _,rfl,gr s _,gm⟩ ?_;refine fun k m b d=>fah fun u F z S e=>?_;subst u;by_cases hlt:k<n;·refine .inr ⟨o k d S hlt,fun v j y=>f k d v j (fun(a:St) (x:V) (c:Hp)=>∃h,c D=some (.lst h)/\h.length<sizeLine/\∃r,r<n-k/\r=n-(k+ 1)/\k+ 1<=n/\a.length=τ.length/\gT H1 (upd c D (.lst (h++[x])))/\(upd c D (.lst (h++[x]))) D=some (.lst ((aG (k+ 1) true).map V.bl))) S hlt y b z fun a c A t=>?_⟩;refine⟨_,t D _ e,by rw[aC,aP];lia,n-(k+ 1),by lia,rfl,hlt,A,kr (S.trans t) s _,?_⟩;rw[gm,cx,bB];rfl
 ·have B:k=n:=by lia
  subst B;exact .inl ⟨l d S,w d S e⟩
theorem pb (T:Txt K mg):∀n,FO P w base (n+ 1) T.d28 (xt n)
 |0=>T.d28.F.ok oM (fun vs H Q E h=>h.elim) (fun cdv A S s H vs Q E hr h=>h.elim)
 |n+ 1=>by
  have gD28:=pb (P:=P) (w:=w) (base:=base) T n;refine T.d28.F.rd oM fun cdv A S s H vs Q E hr h=>?_;refine eaB h fun x y d=>fag fun Y hx hy hd ho q=>?_;subst Y;refine io _ ((gq (iC (oB (hV uH rfl T.z_isinstance iW (gk (pv 1) (gk (gK (gk (m9 rfl T.z_list mD) (gk (m9 rfl T.z_tuple jJ) gn))) gn))))
   (gq (iC (PW.pt (yC (um (oB (hV uH rfl T.z_isinstance iW (gk (pv 0) (gk (gK (gk (m9 rfl T.z_list mD) (gk (m9 rfl T.z_tuple jJ) gn))) gn))))) (wq (tu E6 (hV mY rfl T.z_isinstance iW (gk (pv 0) (gk (m9 rfl T.z_list mD) gn))) (hV mY rfl T.z_isinstance iW (gk (pv 1) (gk (m9 rfl T.z_list mD) gn)))))))
    (gw (gM vx))
    gQ)
   (gw (gM (wu (pB xK (hV wC rfl T.z_len jB (gk (pv 0) gn)) (hV wC rfl T.z_len jB (gk (pv 1) gn))) (uo (hV (A9 rfl) rfl T.z_all Fi (gk (zc (g:=Dw K 2 (pq (gX 0) (pq (gX 1) Dv))) rfl (Fq (x:="_law_one") (y:="_law_other") rfl gG gG rfl (by decide) rfl) (PI.or (Ct rfl T.z_zip (gk (pv 0) (gk (pv 1) gn))) (DR rfl T.z_zip (gk (pv 0) (gk (pv 1) gn)))) (pgP rfl gG rfl rfl) (fun _ _ _ _ _=>(pF T.d28 gD28 (hr.mono (by lia)) (gk (pv 0) (gk (pv 1) gn))))) gn)))))))
   gQ)
  (gq (iC (oB (hV mY rfl T.z_isinstance iW (gk (pv 1) (gk (m9 rfl T.z_str Ci) gn))))
   (gw (gM (wu (hV mY rfl T.z_isinstance iW (gk (pv 0) (gk (m9 rfl T.z_str Ci) gn))) (uo (pB xK (pv 0) (pv 1))))))
   gQ)
  (gq (iC (yB (yA (pv 1)))
   (gw (gM (EX (yA (pv 0)))))
   gQ)
  (gw (gM (wu (hV mY rfl T.z_isinstance iW (gk (pv 0) (gk (m9 rfl T.z_int Cg) gn))) (wu (EZ (hV mY rfl T.z_isinstance iW (gk (pv 0) (gk (m9 rfl T.z_bool DJ) gn)))) (uo (pB xK (pv 0) (pv 1))))))))))) ?_;have sl:=IS
  cases hy with
  |flat h=>
   cases hx
   cases x with
   |non=>refine iad _ rfl kB (fun t I=>(iao _ t (["list","tuple"]) _ false rfl gm .non rfl _ rfl (kU ?_)));refine⟨_,rfl,_,_,_,_,false,rfl,fun _ r=>r,.non,rfl,_,rfl,kU ?_⟩;refine⟨_,rfl,_,rfl,?_⟩;rw[jo rfl];refine lQ (io _ rfl ?_);dsimp only;rw[jo rfl];exact q _ (gr I _)
   |int i=>refine iad _ rfl kB (fun t I=>(iao _ t (["list","tuple"]) _ false rfl gm (.int i) rfl _ rfl (kU ?_)));refine⟨_,rfl,_,_,_,_,false,rfl,fun _ r=>r,.int i,rfl,_,rfl,kU ?_⟩;refine⟨_,rfl,_,rfl,?_⟩;rw[iY (fun z=>nomatch z)];refine kU ⟨_,rfl,_,_,_,_,true,rfl,fun _ r=>r,.int i,rfl,_,rfl,lQ ⟨_,rfl,_,_,_,_,false,rfl,fun _ r=>r,.int i,rfl,_,rfl,_,rfl,lQ ⟨_,rfl,_,rfl,rfl,?_⟩⟩⟩;dsimp only;rw[jo rfl];exact q _ (gr I _)
   |str z=>refine iad _ rfl kB (fun t I=>(iao _ t (["list","tuple"]) _ false rfl gm (.str z) rfl _ rfl (kU ?_)));refine⟨_,rfl,_,_,_,_,true,rfl,fun _ r=>r,.str z,rfl,_,rfl,lQ ?_⟩;refine⟨_,rfl,_,_,_,_,true,rfl,fun _ r=>r,.str z,rfl,_,rfl,lQ ⟨_,rfl,_,rfl,rfl,?_⟩⟩;dsimp only;rw[jo rfl];exact q _ (gr I _)
   |bl b=>cases h
   |byt b=>cases h
   |flt b=>cases h
   |ref a=>cases h
   |ty n=>cases h
  |@tup b o ds j C=>
   cases hx with
   |@tup a f _ l F=>
   have lx:=F.length;have ly:=C.length;have dd:iF ds+ 1<=n:=hd;refine iad _ rfl kB (fun t I=>(iao _ t (["list","tuple"]) _ true rfl gm (.tup (gr I _ _ _ j)) rfl _ rfl (lQ ?_)));have X:gT H (upd H t (.tup [V.ty "list",V.ty "tuple"])):=gr I _;generalize upd H t (.tup [V.ty "list",V.ty "tuple"])=H1 at X⊢;refine iad _ rfl kB (fun O G=>(iao _ O (["list","tuple"]) _ true rfl gm (.tup (gr G _ _ _ (X _ _ l))) rfl _ rfl ?_));have c:gT H (upd H1 O (.tup [V.ty "list",V.ty "tuple"])):=X.trans (gr G _);generalize upd H1 O (.tup [V.ty "list",V.ty "tuple"])=H2 at c⊢;refine kU ⟨_,rfl,_,_,_,_,false,rfl,fun _ r=>r,.tup (c _ _ l),rfl,_,rfl,_,_,_,_,false,rfl,fun _ r=>r,.tup (c _ _ j),rfl,rfl,_,rfl,kU ?_⟩;refine⟨_,rfl,_,f.length,rfl,Ap (c _ _ l),_,rfl,_,o.length,rfl,Ap (c _ _ j),rfl,_,rfl,?_⟩;rw[jo (show V.int (f.length:Int)=V.int (o.length:Int) by rw[lx,ly])]
   cases n with
   |zero=>lia
   |succ m=>
   refine lQ (.inr ⟨_,rfl,_,rfl,a,b,rfl,⟨_,J9 (c _ _ l)⟩,⟨_,J9 (c _ _ j)⟩,fun D hD=>?_⟩);refine Ar f.length (by have:=ho.1;lia) hD (fun k N e hk=>(iaq f o (f[k]) (o[k]'(by lia)) ⟨J9 (e _ _ (c _ _ l)),J9 (e _ _ (c _ _ j)),bf hk,bf (by lia)⟩))
    (fun N e=>(iab f o (J9 (e _ _ (c _ _ l))) (J9 (e _ _ (c _ _ j))) (by lia))) ?_ ?_
   ·refine fun k N v H4 R e hk=>faa fun p J B=>fah fun Y Z z1 e1 e2 u hl r=>?_;subst Y;subst z1;obtain⟨M,L,rfl⟩:∃M L,u=[M,L]:=by
     match u,hl with
     |[M,L],_=>exact iai M L rfl
    have S4:gT H (upd N p (.tup [J,B])):=(c.trans e).trans (gr Z _);refine eae (F.get (e1 f (J9 (e _ _ (c _ _ l))))) fun d1 W g1=>?_;refine eae (C.get (e2 o (J9 (e _ _ (c _ _ j))))) fun d2 f2 g2=>?_;have ed:d2=d1:=by rw[W]at f2;exact(dj.inj f2).symm
    subst ed;have dp:=BO.Internal.depDs_get W;refine iap p ([J,B]) ⟨rfl,J9 gm,rfl,J,[B],rfl,B,[],rfl,rfl,_,rfl,_,rfl,J,B,d2,rfl,g1.same S4,g2.same S4,by lia,tI ho.2 W,fun H5 S5=>?_⟩;exact r _ _ rfl ((gr Z _).trans S5)
   ·intro N e U;refine iab D (aG f.length true) rfl (J8 U) ?_;rw[xw];exact q _ (c.trans e)
  |@lst b o ds j C=>
   cases hx with
   |@lst a f _ l F=>
   have lx:=F.length;have ly:=C.length;have dd:iF ds+ 1<=n:=hd;refine iad _ rfl kB (fun t I=>(iao _ t (["list","tuple"]) _ true rfl gm (.lst (gr I _ _ _ j)) rfl _ rfl (lQ ?_)));have X:gT H (upd H t (.tup [V.ty "list",V.ty "tuple"])):=gr I _;generalize upd H t (.tup [V.ty "list",V.ty "tuple"])=H1 at X⊢;refine iad _ rfl kB (fun O G=>(iao _ O (["list","tuple"]) _ true rfl gm (.lst (gr G _ _ _ (X _ _ l))) rfl _ rfl ?_));have c:gT H (upd H1 O (.tup [V.ty "list",V.ty "tuple"])):=X.trans (gr G _);generalize upd H1 O (.tup [V.ty "list",V.ty "tuple"])=H2 at c⊢;refine kU ⟨_,rfl,_,_,_,_,true,rfl,fun _ r=>r,.lst (c _ _ l),rfl,_,rfl,_,_,_,_,true,rfl,fun _ r=>r,.lst (c _ _ j),rfl,rfl,_,rfl,kU ?_⟩;refine⟨_,rfl,_,f.length,rfl,Aq (c _ _ l),_,rfl,_,o.length,rfl,Aq (c _ _ j),rfl,_,rfl,?_⟩;rw[jo (show V.int (f.length:Int)=V.int (o.length:Int) by rw[lx,ly])]
   cases n with
   |zero=>lia
   |succ m=>
   refine lQ (.inl ⟨_,rfl,_,rfl,a,b,rfl,⟨_,J8 (c _ _ l)⟩,⟨_,J8 (c _ _ j)⟩,fun D hD=>?_⟩);refine Ar f.length (by have:=ho.1;lia) hD (fun k N e hk=>(iaq f o (f[k]) (o[k]'(by lia)) ⟨J8 (e _ _ (c _ _ l)),J8 (e _ _ (c _ _ j)),bf hk,bf (by lia)⟩))
    (fun N e=>(iab f o (J8 (e _ _ (c _ _ l))) (J8 (e _ _ (c _ _ j))) (by lia))) ?_ ?_
   ·refine fun k N v H4 R e hk=>faa fun p J B=>fah fun Y Z z1 e1 e2 u hl r=>?_;subst Y;subst z1;obtain⟨M,L,rfl⟩:∃M L,u=[M,L]:=by
     match u,hl with
     |[M,L],_=>exact iai M L rfl
    have S4:gT H (upd N p (.tup [J,B])):=(c.trans e).trans (gr Z _);refine eae (F.get (e1 f (J8 (e _ _ (c _ _ l))))) fun d1 W g1=>?_;refine eae (C.get (e2 o (J8 (e _ _ (c _ _ j))))) fun d2 f2 g2=>?_;have ed:d2=d1:=by rw[W]at f2;exact(dj.inj f2).symm
    subst ed;have dp:=BO.Internal.depDs_get W;refine iap p ([J,B]) ⟨rfl,J9 gm,rfl,J,[B],rfl,B,[],rfl,rfl,_,rfl,_,rfl,J,B,d2,rfl,g1.same S4,g2.same S4,by lia,tI ho.2 W,fun H5 S5=>?_⟩;exact r _ _ rfl ((gr Z _).trans S5)
   ·intro N e U;refine iab D (aG f.length true) rfl (J8 U) ?_;rw[xw];exact q _ (c.trans e)
open TM.Internal (Kn Tr iA szs)
structure It where
 t:Tr
 w:Nat
 c:Nat->Nat
 own:Bool
noncomputable def vr (a:Zd) (k:Nat):Str:=a.getD k ""
structure JI (wl:Zd) (made:List Nat) (I:It):Prop where
 o:∀N:Str->Prop,(I.own=true->N (wdE wl made.length))->(∀k,k<3->0<I.c k->N (vr wl k))->okT I.t N
noncomputable def knC:List It->List (Option Nat)->Nat->Nat
 |I::l,v::vs,k=>(if v=some k then 0 else I.c k)+knC l vs k
 |_,_,_=>0
noncomputable def knW:List It->Nat
 |[]=>0
 |I::l=>I.w+knW l
noncomputable def knO:List It->Bool
 |[]=>false
 |I::l=>I.own||knO l
noncomputable def knI (κ:Kn) (its:List It) (vs:List (Option Nat)):It:=⟨.mk κ (its.map It.t),1+knW its,knC its vs,knO its⟩
def Mxs (a:Zd):List Ex->List (Option Nat)->Prop
 |_,[]=>True
 |xs,none::vs=>hdX xs=none/\Mxs a xs.tail vs
 |xs,some v::vs=>v<3/\(∃k:Str,k≠"let"/\hdX xs=some (vr a v,k))/\Mxs a xs.tail vs
section
variable {wl:Zd} {made:List Nat}
theorem v8:∀{its:List It} {vs:List (Option Nat)} {xs:List Ex},its.length=vs.length->Mxs wl xs vs->(∀I∈its,JI wl made I)->(knO its=true->N (wdE wl made.length))->(∀k,k<3->0<knC its vs k->N (vr wl k))->oY (its.map It.t) xs N
 |[],[],xs,_,_,_,_,_=>by unfold oY;exact trivial
 |I::its,none::vs,xs,hl,m,hJ,ho,hc=>by rw[aB];unfold oY;rw[m.1];refine⟨(hJ I (by simp)).o N (fun z=>ho (by simp[knO,z])) (fun k a z=>hc k a (by simp only[knC,reduceCtorEq,if_false];lia)),v8 (by simpa using hl) m.2 (fun J h=>hJ J (by simp[h])) (fun z=>ho (by simp[knO,z])) fun k a z=>hc k a (by simp only[knC];lia)⟩
 |I::its,some v::vs,xs,hl,⟨hv,⟨k,nk,hx⟩,m⟩,hJ,ho,hc=>by
  rw[aB];unfold oY;rw[hx];refine⟨(hJ I (by simp)).o _ (fun z=> .inr (ho (by simp[knO,z]))) (fun j b z=>?_),v8 (by simpa using hl) m (fun J h=>hJ J (by simp[h])) (fun z=>ho (by simp[knO,z])) fun k a z=>hc k a (by simp only[knC];lia)⟩;by_cases e:v=j;·subst e;exact .inl rfl
  ·exact .inr (hc j b (by simp only[knC,dj.injEq,e,if_false];lia))
 |[],_::_,_,h,_,_,_,_=>by cases h
 |_::_,[],_,h,_,_,_,_=>by cases h
def JI.knit (lw:wl.length=16) (nd:wl.Nodup) (lm:made.length<=12) {κ:Kn} {its:List It} {vs:List (Option Nat)} (hl:its.length=vs.length) (m:Mxs wl (exN κ) vs) (hJ:∀I∈its,JI wl made I) (nn:∀w,κ≠ .name w) (ok:∀N,okK κ its.length N):JI wl made (knI κ its vs):=by refine⟨fun N ho hc=>?_⟩;show okT (.mk κ (its.map It.t)) N;unfold okT;exact⟨by rw[aC];exact ok N,v8 hl m hJ ho hc⟩
end
open TM.Internal (Kn Tr iA szs)
def Eu{g:TG} {o:TS.Internal} {D:mZ} (d:Nat->St->Hp->Prop) (E:d 0 c H) (z:∀i c H,i<=xs.length->d i c H->SqL K H a xs/\SqL K H b ys) (F:ys.length=xs.length)
  (w:∀(i:Nat) (x y:V) (c:St) (H:Hp) (T:Zx),xs[i]?=some x->ys[i]?=some y->d i c H->H T=none->g (.ref T) c (Zk H T (.tup [x,y])) fun f n=>o {D with nx:=d (i+ 1),ct:=d (i+ 1),bk:=D.nx} f n) (B:∀c H,d xs.length c H->D.nx c H):
  ∃W:Nat->Nat->St->Hp->Prop,(∃m,W 0 m c H)/\∀i m c H,W i m c H->
   ((Itz K a b).stop i H/\D.nx c H)\/((Itz K a b).go i H/\∃N:St->Hp->Prop,(∀h j,N h j->∃q,q<m/\W (i+ 1) q h j)/\∀x j,(Itz K a b).yld i H x j->g x c j fun f n=>o {D with nx:=N,ct:=N,bk:=D.nx} f n):=by
 refine io (fun i m c H=>m=xs.length-i/\i<=xs.length/\d i c H) ((iad xs.length (by simp) (cO _) E)) ?_;refine fun i m c H=>fab fun r A p=>?_;subst r;obtain⟨l,k⟩:=z i c H A p;by_cases hlt:i<xs.length;·refine .inr (iag (iaq xs ys (xs[i]) (ys[i]'(by lia)) ⟨l,k,by simp[hlt],bf (by lia)⟩) (d (i+ 1)) (fun h j s=>(iak (xs.length-(i+ 1)) (by lia) rfl hlt s)) (fun v j y=>?_));obtain⟨T,x,y,rfl,C,rfl,u,t⟩:=y;exact w i x y c H T (u xs l) (t ys k) p C
 ·have e:i=xs.length:=by lia
  subst e;exact .inl ⟨(iab xs ys l k (by lia)),B c H p⟩
noncomputable def itV (n:V) (I:It) (a:Zx):List V:=[n,.int (I.t.nest:Int),.int (I.w:Int),.ref a,.bl I.own,.int (I.t.sz:Int)]
noncomputable def cV3 (c:Nat->Nat):List V:=[.int (c 0:Int),.int (c 1:Int),.int (c 2:Int)]
def ItA (H:Hp) (x:V) (I:It):Prop:=∃a n b,x= .ref a/\H a=some (.lst (itV n I b))/\H b=some (.lst (cV3 I.c))/\Im H n (ndD I.t)
def ItA.same {x:V} {I:It} (h:ItA H x I) (S:gT H H'):ItA H' x I:=by refine eav h fun a n e b d c i=>?_;subst b;exact iae a n e rfl (S _ _ d) (S _ _ c) (i.mono (gT.tk S))
structure ItN (H H':Hp) (a cs:Zx) (n:V) (I:It):Prop where
 sm:gT H H'
 na:H a=none
 nc:H cs=none
 ne:a≠cs
 ea:H' a=some (.lst (itV n I cs))
 ec:H' cs=some (.lst (cV3 I.c))
 im:Im H' n (ndD I.t)
def ItN.it {a b:Zx} {n:V} {I:It} (h:ItN H H' a b n I):ItA H' (.ref a) I:=(iae a n b rfl h.ea h.ec h.im)
noncomputable def hZ:Option Nat->Int
 |none=> -1
 |some v=>(v:Int)
noncomputable def hI (v:Option Nat):V:= .int (hZ v)
def at3{k:Nat} (h:k<3):atI (cV3 c) (0+(k:Int))=some (.int (c k:Int)):=by
 rw[fW];refine gv ?_;match k,h with
 |0,_=>rfl
 |1,_=>rfl
 |2,_=>rfl
noncomputable def cA (c:Nat->Nat) (v:Option Nat) (d:Nat->Nat) (k:Nat):Nat:=c k+(if v=some k then 0 else d k)
def Ia (c d:Nat->Nat) (v:Option Nat) (k:Nat):(c k:Int)+(if(true ^^ decide (0+(k:Int)=hZ v))=true then 1 else 0)*(d k:Int)=(cA c v d k:Int):=by
 unfold cA
 cases v with
 |none=>rw[iY (by show ¬0+(k:Int)= -1;lia)];simp
 |some v=>
  by_cases h:v=k;·subst h;rw[jo (by show 0+(v:Int)=(v:Int);lia)];simp
  ·rw[iY (by show ¬0+(k:Int)=(v:Int);lia)];simp[h]
def Ge{n:Nat} (h1:σ[i]?=some (some (.bl a))) (h2:σ[j]?=some (some (.ref p))) (e:H p=some (.lst xs)) (hx:atI xs m=some (.bl b)) (q:Q (.bl (a||b)) H):GZ (cV i) (tOp Bg (cV j) (tC (.int m))) σ H Q:=by
 show onV σ[i]? _;rw[h1];refine⟨a,rfl,?_⟩
 cases a with
 |true=>exact lQ q
 |false=>refine kU ?_;show onV σ[j]? _;rw[h2];exact⟨_,e,gy hx q⟩
def Gf(f:σ[i]?=some (some (.bl a))) (d:σ[j]?=some (some (.ref p))) (e:H p=some (.lst xs)) (c:atI xs m=some (.bl b)) (q:R D (σ.set g (some (.bl (a||b)))) H):B3 (AU (GZ (cV i) (tOp Bg (cV j) (tC (.int m)))) (gX g)) R D σ H:=Ge (n:=0) f d e c q
inductive XLf (vs:List V) (H:Hp) (Q:VK):Prop
 |mk (n:V) (w:Nat) (κ:Kn) (e:vs=[n,.int (w:Int)]) (i:Im H n (ndD (.mk κ []))) (q:∀H' a cs,ItN H H' a cs n ⟨.mk κ [],w,fun _=>0,false⟩->Q (.ref a) H')
def Ib:Sp:=fun a H Q _=>XLf a H Q
inductive XKn (vs:List V) (H:Hp) (Q:VK):Prop
 |mk (wt pl hl:Zx) (κ:Kn) (ws xs:List V) (its:List It) (ho:List (Option Nat)) (e:vs=[.str κ.s,.ref wt,.ref pl,.ref hl]) (ew:H wt=some (.tup ws)) (iw:Ims H ws (wsD κ)) (ep:H pl=some (.lst xs)) (ix:pk (ItA H) xs its) (eh:H hl=some (.lst (ho.map hI))) (hl':ho.length=its.length) (ln:its.length<=1000) (q:∀H' a cs n,ItN H H' a cs n (knI κ its ho)->Q (.ref a) H')
def Ew:Sp:=fun a H Q _=>XKn a H Q
theorem v9:∀{xs:List α} {ys:List β} {i:Nat} {x:α},pk R xs ys->xs[i]?=some x->∃y,ys[i]?=some y/\R x y
 |_,_,0,_,.cons h _,e=>by cases e;exact⟨_,rfl,h⟩
 |_,_,i+ 1,_,.cons _ t,e=>v9 (i:=i) t e
def ll (T:Txt K mg):FO P w base 1 T.d29 Ib:=by
 refine T.d29.F.rd uR fun p v c s H r Q E t h=>?_;obtain⟨n,k,g,rfl,i,q⟩:=h;refine⟨_,(gw (gM (gN (gk (cv 0) (gk gu (gk (cv 1) (gk (gN (gk gu (gk gu (gk gu gn)))) (gk vx (gk gu gn))))))))),?_⟩;refine⟨uk,fun d j=>⟨GL,fun a b=>?_⟩⟩;have f:=gr j (.lst [.int 0,.int 0,.int 0]);have e:=gr b (.lst [n,.int 1,.int (k:Int),.ref d,.bl false,.int 1]);have o:a≠d:=fun z=>by rw[z,gm]at b;cases b
 have l:(Tr.mk g []).sz=1:=by simp[Tr.sz,szs]
 have m:(Tr.mk g []).nest=1:=by simp[Tr.nest,TM.Internal.nests]
 refine q _ a d ⟨f.trans e,?_,j,o,?_,e _ _ gm,i.mono (gT.tk (f.trans e))⟩
 ·cases z:H a with
  |none=>rfl
  |some u=>rw[f _ _ z]at b;cases b
 ·rw[gm];unfold itV;rw[l,m];rfl
def lA (T:Txt K mg):FO P w base 2 T.d30 Ew:=by
 refine T.d30.F.rd iD fun cdv A0 outer s H vs Q E hr h=>?_;obtain⟨wt,pl,hl,t,ws,xs,d,L,rfl,ew,iw,ep,ix,eh,lh,ln,q⟩:=h;refine io _ ((gq (pS (i:=4) iD.nd gu)
  (gq (pS (i:=5) iD.nd gu)
  (gq (pS (i:=6) iD.nd (gN (gk gu (gk gu (gk gu gn)))))
  (gq (pS (i:=7) iD.nd vx)
  (gq (pS (i:=8) iD.nd gu)
  (gq (kj IW rfl (Ct rfl T.z_zip (gk (cv 2) (gk (cv 3) gn))) (wx rfl (kY (pN (i:=9) iD.nd) (kY (pN (i:=10) iD.nd) tm)))
   (gq (pS (i:=4) iD.nd (hV (yJ rfl) rfl T.z_max Co (gk (cv 4) (gk (gB gC (cv 9) gu) gn))))
   (gq (pS (i:=5) iD.nd (gY jC (cv 5) (gB gC (cv 9) gu)))
   (gq (pS (i:=6) iD.nd (rQ rfl (CI (x:="_law_k") ["_law_var","_law_part","_law_many"] [("_law_var",10,s.heap.objs.size+ 3),("_law_part",9,s.heap.objs.size+ 2),("_law_many",6,s.heap.objs.size+ 1)]) (jE rfl T.z_range (gk gu gn)) (fun _ _ _ _ _=>km) (fun _ _ _ _ _=>(gY jC (gB gC (cv 3) (cv 0)) (gY uM (iQ yK rfl T.z_int Cg (gk (pB Fv (cv 0) (cv 1)) gn)) (gB gC (gB gC (cv 2) gu) (cv 0)))))))
   (gq (pS (i:=7) iD.nd (EY (cv 7) (uo (gB gC (cv 9) gu))))
   (gw (pS (i:=8) iD.nd (gY jC (cv 8) (gB gC (cv 9) gu)))))))))
  (gw (gM (gN (gk (gK (gk (cv 0) (gk (cv 1) (gk (iQ iG rfl T.z_tuple jJ (gk (rQ rfl (Fn (x:="_law_part") rfl gG gG rfl rfl) (lR (cv 2)) (fun _ _ _ _ _=>km) (fun _ _ _ _ _=>(gB gC (cv 0) gu))) gn)) gn)))) (gk (gY jC (cv 4) gu) (gk (cv 5) (gk (cv 6) (gk (cv 7) (gk (cv 8) gn)))))))))))))))) ?_;have sl:=IS;dsimp only[gX];refine⟨uk,fun m hm=>?_⟩;dsimp only[gX];have lx:=ix.length;refine iaa pl hl rfl ⟨_,J8 (gr hm _ _ _ ep)⟩ ⟨_,J8 (gr hm _ _ _ eh)⟩ (Eu (xs:=xs) (ys:=L.map hI) (fun i σ H2=>∃(o9 C:Option V) (p U W:Nat) (B:Bool) (F:Zx) (c:Nat->Nat),σ=[some (.str t.s),some (.ref wt),some (.ref pl),some (.ref hl),some (.int (p:Int)),some (.int (U:Int)),some (.ref F),some (.bl B),some (.int (W:Int)),o9,C]/\gT H H2/\H F=none/\H2 F=some (.lst (cV3 c))/\max p (TM.Internal.nests ((d.drop i).map It.t))=TM.Internal.nests (d.map It.t)/\U+knW (d.drop i)=1+knW d/\(B||knO (d.drop i))=knO d/\W+szs ((d.drop i).map It.t)=1+szs (d.map It.t)/\∀k,k<3->c k+knC (d.drop i) (L.drop i) k=knC d L k) ?_ ?_ ?_ ?_ ?_);·exact iay none none 0 1 1 false m (fun _=>0) ⟨rfl,gr hm _,hm,gm,by simp,rfl,by simp,rfl,fun k _=>by simp⟩
 ·refine fun i σ H2 _=>fao fun o9 C p U W B F c=>fab fun _ S _=>?_;exact⟨J8 (S _ _ ep),J8 (S _ _ eh)⟩
 ·rw[aC,lh,lx]
 ·refine fun i x y σ H2 t4 hx hy=>fao fun o9 C p U W B F c=>fas fun A S nm em h1 h2 Y h4 X ht4=>?_;subst A;refine eaw (v9 ix hx) fun I N a n cs A ea ec iN=>?_;subst A;rw[aM]at hy;refine eae (dA.mp hy) fun v hv A=>?_;subst A;rw[u9 N]at h1 h2 Y h4;have T4:=gr ht4 (.tup [.ref a,hI v]);have S4:=S.trans T4;refine iap t4 _ ⟨rfl,J9 gm,rfl,_,_,rfl,_,_,rfl,rfl,?_⟩;have r:=S4 _ _ ea;have ec4:=S4 _ _ ec;have em4:=T4 _ _ em;have emx:(if((I.t.nest:Nat):Int)>(p:Int)then((I.t.nest:Nat):Int)else(p:Int))=((max p I.t.nest:Nat):Int):=by split<;>lia
  refine io _ r (gy (gv (j:=1) rfl) (iaf _ _ rfl ?_));dsimp only[gX];rw[emx];refine io _ r (gy (gv (j:=2) rfl) ?_);dsimp only[gX];refine iak 3 rfl (by decide) (by decide) (fun D hD=>?_);refine mE 3 (by lia) (fun g R=>g=(cV3 (cA c v I.c)).take g.length) (fun _ _ _ h _=>h) hD rfl (fun k _ _ h=>h) (fun _ _=>cN _) rfl ?_ ?_
  ·rintro k R x H6 g Z f M ⟨rfl,rfl⟩ o G kZ;refine io _ (f _ _ em4) (gy (at3 M) ?_);refine .inr (io _ rfl ?_);refine io _ (f _ _ r) (gy (gv (j:=3) rfl) (io _ (f _ _ ec4) (gy (at3 M) ⟨.inl (by split<;>exact⟨by decide,by decide⟩),?_⟩)));refine kZ _ _ (fun _ _ e=>e) ?_;dsimp only;rw[Ia,aO,aX,cg,G];rw[G]at o;have e3:(cV3 (cA c v I.c))[k]?=some (.int (cA c v I.c k:Int)):=by
    have:=at3 (c:=cA c v I.c) M;match k,M with
    |0,_=>rfl
    |1,_=>rfl
    |2,_=>rfl
   rw[e3,<-o];rfl
  ·intro R g f o G ez;dsimp only[gX];rw[G]at o;have o:g=cV3 (cA c v I.c):=o;subst o;refine Gf (i:=7) (j:=9) (a:=B) (b:=I.own) rfl rfl (f _ _ r) (gv (j:=4) rfl) ?_;refine io _ (f _ _ r) (gy (gv (j:=5) rfl) ?_);dsimp only[gX];have nD:H D=none:=by
    cases z:H D with
    |none=>rfl
    |some u=>rw[S4 _ _ z]at hD;cases hD
   have hv':=u9 hv;refine iay _ _ (max p I.t.nest) (U+I.w) (W+I.t.sz) (B||I.own) D (cA c v I.c) ⟨rfl,S4.trans f,nD,ez,?_,?_,?_,?_,fun k M=>?_⟩;·rw[aB,TM.Internal.nests]at h1;lia
   ·rw[knW]at h2;lia
   ·rw[knO,<-Bool.or_assoc]at Y;exact Y
   ·rw[aB,szs]at h4;lia
   ·have h6:=X k M;rw[u9 N,hv']at h6;rw[knC]at h6;unfold cA;lia
 ·refine fun σ H2=>fao fun o9 C p U W B F c=>fas fun A S nm em h1 h2 Y h4 X=>?_;subst A;rw[lx,cf]at h1 h2 Y h4;have X:∀k,k<3->c k=knC d L k:=fun k M=>by have:=X k M;rw[lx,cf]at this;simpa[knC]using this
  dsimp only;have O:=S _ _ ep;refine iad pl rfl ⟨_,J8 O⟩ (fun D hD=>?_);refine mE xs.length (by lia) (fun g R=>Ims R g ((BN (d.map It.t)).take g.length)) (fun _ _ _ h k=>h.mono k) hD rfl (fun k R f h=>wL O f h) (fun R f=>wM O f) .nil ?_ ?_
  ·rintro k R v H6 g Z f M ⟨rfl,hv⟩ o G kZ;have hv:=hv xs (J8 (f _ _ O));refine eaw (v9 ix hv) fun I N a n cs A ea ec iN=>?_;subst A;have S6:=S.trans f;refine io _ (S6 _ _ ea) (gy (gv (j:=0) rfl) ?_);refine kZ _ _ (fun _ _ e=>e) ?_;rw[aO,aX,cg,G];rw[G]at o;have e3:(BN (d.map It.t))[k]?=some (ndD I.t):=by
    have:∀{l:List It} {k:Nat},l[k]?=some I->(BN (l.map It.t))[k]?=some (ndD I.t):=by
     intro l
     induction l with
     |nil=>intro k h;cases h
     |cons J l ih=>
      intro k h
      cases k with
      |zero=>cases h;rfl
      |succ k=>exact ih h
    exact this N
   rw[e3];exact o.app (.cons (iN.mono (gT.tk S6)) .nil)
  ·intro R g f o G ez;rw[G,bM (by rw[tV,aC];lia)]at o;refine iaf D g rfl (.inl ⟨J8 ez,fun t1 ht1=>⟨uk,fun t2 ht2=>⟨GL,fun a ha=>?_⟩⟩⟩);have U1:=gr ht1 (.tup g);have U2:=gr ht2 (.tup [.str t.s,.ref wt,.ref t1]);have U3:=gr ha (.lst [.ref t2,.int ((p:Int)+ 1),.int (U:Int),.ref F,.bl B,.int (W:Int)]);have U12:=U1.trans U2;have S6:=S.trans (f.trans U12);have em6:=(f.trans U12) _ _ em;have nea:a≠F:=fun z=>by rw[z,em6]at ha;cases ha
   have iN:Im (Zk (Zk R t1 (.tup g)) t2 (.tup [.str t.s,.ref wt,.ref t1])) (.ref t2) (ndD (.mk t (d.map It.t))):=by rw[ndD];exact jA ht2 (.cons (.flat rfl) (.cons (.tup ((S.trans (f.trans U1)) _ _ ew) (iw.mono (gT.tk (S.trans (f.trans U1))))) (.cons (jA ht1 o) .nil)))
   refine q _ a F (.ref t2) ⟨S6.trans U3,?_,nm,nea,?_,U3 _ _ ?_,iN.mono (gT.tk U3)⟩
   ·cases z:H a with
    |none=>rfl
    |some u=>rw[S6 _ _ z]at ha;cases ha
   ·rw[gm];have s1:((knI t d L).t.nest:Int)=(p:Int)+ 1:=by show(((Tr.mk t (d.map It.t)).nest:Nat):Int)=_;rw[Tr.nest,<-h1];simp[TM.Internal.nests];lia
    have s2:((knI t d L).t.sz:Int)=(W:Int):=by show(((Tr.mk t (d.map It.t)).sz:Nat):Int)=_;rw[Tr.sz,<-h4];simp[szs]
    have s3:(knI t d L).w=U:=by show 1+knW d=_;rw[<-h2];rfl
    have s4:(knI t d L).own=B:=by show knO d=_;rw[<-Y];exact Bool.or_false _
    unfold itV;rw[s1,s2,s3,s4]
   ·rw[em6];show some (HO.lst (cV3 c))=some (.lst (cV3 (knC d L)));unfold cV3;rw[X 0 (by lia),X 1 (by lia),X 2 (by lia)]
open TM.Internal (Kn Tr iA szs)
def FS (st:Zx) (H H':Hp):Prop:=∀a o,H a=some o->a≠st->H' a=some o
def FS.trans (f:FS st H H1) (g:FS st H1 H2):FS st H H2:=fun a o e n=>g a o (f a o e n) n
def FS.same (S:gT H H'):FS st H H':=fun a o e _=>S a o e
def Stk (H:Hp) (st:Zx) (sn:Nat) (J:It->Prop):Prop:=∃xs,H st=some (.lst xs)/\xs.length<=sn/\∀x∈xs,∃I,ItA H x I/\J I
def Stk.tk {J:It->Prop} (h:Stk H st sn J) (F:FS st H H'):TK H H':=fun a d e=>by refine eax h fun c b _=>?_;exact F a _ e (jP e b fun z=>nomatch z)
def ItA.fs {J:It->Prop} {x:V} {I:It} (h:ItA H x I) (k:Stk H st sn J) (F:FS st H H'):ItA H' x I:=by
 have o:=k.tk F;refine eah k fun l f _ q=>?_;refine eav h fun a n p g c b i=>?_;subst g;have d:∀z:Int,V.int z∉l:=fun z m=>by refine eax (q _ m) fun _ j _=>?_;refine eaB j fun _ _ _=>f8 fun e _=>?_;cases e
 refine iae a n p rfl (F _ _ c fun z=>?_) (F _ _ b fun z=>?_) (i.mono o);·rw[z,f]at c;cases dj.inj c;exact d (I.t.nest:Int) (by simp[itV])
 ·rw[z,f]at b;cases dj.inj b;exact d (I.c 0:Int) (by simp[cV3])
theorem Stk.same {J:It->Prop} (k:Stk H st sn J) (S:gT H H'):Stk H' st sn J:=by refine eah k fun a c l d=>?_;exact⟨a,S _ _ c,l,fun x b=>let⟨I,h,j⟩:=d x b;⟨I,h.same S,j⟩⟩
noncomputable def nuI (n:Int):It:=⟨.mk (.num n) [],1,fun _=>0,false⟩
noncomputable def naI (a:Zd) (v:Nat):It:=⟨.mk (.name (vr a v)) [],1,fun k=>if k=v then 1 else 0,false⟩
def CO(c:H t1=none) (a:(Zk H t1 (.tup [.int n])) t2=none) (b:(Zk (Zk H t1 (.tup [.int n])) t2 (.tup [])) t3=none):Im (Zk (Zk (Zk H t1 (.tup [.int n])) t2 (.tup [])) t3 (.tup [.str "num",.ref t1,.ref t2])) (.ref t3) (ndD (.mk (.num n) [])):=by rw[ndD];exact jA b (.cons (.flat rfl) (.cons ((jA c (.cons (.flat rfl) .nil)).mono (gT.tk (gr a _))) (.cons (jA a .nil) .nil)))
def As(c:H t1=none) (a:(Zk H t1 (.tup [.str n])) t2=none) (b:(Zk (Zk H t1 (.tup [.str n])) t2 (.tup [])) t3=none):Im (Zk (Zk (Zk H t1 (.tup [.str n])) t2 (.tup [])) t3 (.tup [.str "name",.ref t1,.ref t2])) (.ref t3) (ndD (.mk (.name n) [])):=by rw[ndD];exact jA b (.cons (.flat rfl) (.cons ((jA c (.cons (.flat rfl) .nil)).mono (gT.tk (gr a _))) (.cons (jA a .nil) .nil)))
def Au(f:H t1=none) (e:(Zk H t1 a) t2=none) (d:(Zk (Zk H t1 a) t2 b) t3=none):gT H (Zk (Zk (Zk H t1 a) t2 b) t3 c):=(gr f _).trans ((gr e _).trans (gr d _))
inductive XPo (vs:List V) (H:Hp) (Q:VK):Prop
 |mk (st:Zx) (sn:Nat) (J:It->Prop) (e:vs=[.ref st]) (k:Stk H st sn J) (j:J (nuI 0)) (q:∀H' x I,FS st H H'->Stk H' st sn J->ItA H' x I->J I->Q x H')
def Gg:Sp:=fun a H Q _=>XPo a H Q
inductive XNm (vs:List V) (H:Hp) (Q:VK):Prop
 |mk (n:Int) (e:vs=[.int n]) (q:∀H' x,gT H H'->ItA H' x (nuI (n%10^60))->Q x H')
def Ey:Sp:=fun a H Q _=>XNm a H Q
inductive XNa (vs:List V) (H:Hp) (Q:VK):Prop
 |mk (wa:Zx) (wl:Zd) (v:Nat) (e:vs=[.ref wa,.int (v:Int)]) (hw:H wa=some (.lst (wl.map V.str))) (lw:wl.length=16) (hv:v<3) (q:∀H' x,gT H H'->ItA H' x (naI wl v)->Q x H')
def Gh:Sp:=fun a H Q _=>XNa a H Q
inductive XMo (vs:List V) (H:Hp) (Q:VK):Prop
 |mk (x:V) (I:It) (k:Int) (e:vs=[x,.int k]) (i:ItA H x I) (q:∀v:Nat,v<3->Q (.int (v:Int)) H)
def Ic:Sp:=fun a H Q _=>XMo a H Q
def vi(a:wl.length=16) (b:k<16):(wl.map V.str)[k]?=some (.str (vr wl k)):=by rw[aM,bf (by lia)];unfold vr;rw[bq,bf (by lia)];rfl
def lO (T:Txt K mg):FO P w base 2 T.d32 Ey:=by refine T.d32.F.rd rS fun g r b m H i Q E f h=>?_;obtain⟨n,rfl,q⟩:=h;refine⟨_,(gw (gM (pF T.d29 (ll T) (f.mono (by lia)) (gk (gK (gk gE (gk (gK (gk (gY jD (cv 0) (gY zj gu gu)) gn)) (gk (gK gn) gn)))) (gk gu gn))))),?_⟩;refine⟨⟨by decide,by decide,by decide⟩,(by show(0:Int)<10^(60:Int).toNat;decide+kernel),kJ,fun l e=>⟨mz,fun k d=>⟨uk,fun j c=>?_⟩⟩⟩;refine⟨_,1,.num (n%10^60),rfl,CO e d c,fun p a o N=>?_⟩;exact q _ _ ((Au e d c).trans N.sm) N.it
def my (T:Txt K mg):FO P w base 2 T.d31 Gg:=by
 refine T.d31.F.rd vP fun v U d L H A Q E t h=>?_;obtain⟨c,G,J,rfl,k,j,q⟩:=h;refine HzX ?_;intro _;refine⟨_,(gq (iC (gL jb (hV g9 rfl T.z_len jB (gk (cv 0) gn)) gu)
   (gw (gM (pF T.d29 (ll T) (t.mono (by lia)) (gk (gK (gk gE (gk (gK (gk gu gn)) (gk (gK gn) gn)))) (gk gu gn)))))
   gQ)
  (gw (gM (Ce ff fj fm Cf (cv 0))))),?_⟩;refine eah (id k) fun b g M r=>?_;refine iap c _ ⟨rfl,.inl (J8 g),?_⟩;show if(false ^^ decide ((b.length:Int)=0))=true then _ else _;by_cases z:b.length=0;·rw[jo (by lia)];refine lQ ?_;refine⟨kJ,fun D p=>⟨mz,fun C m=>⟨uk,fun B l=>?_⟩⟩⟩;refine⟨_,1,.num 0,rfl,CO p m l,fun R a O N=>?_⟩;have S:=(Au p m l).trans N.sm;exact q _ _ (nuI 0) (FS.same S) (k.same S) N.it j
 ·rw[iY (by lia)];refine kU ?_;have i:b[b.length-1]?=some (b[b.length-1]'(by lia)):=bf (by lia);refine eae (r _ (aN i)) fun I f u=>?_;refine⟨.inl ⟨rfl,_,J8 g⟩,c,b,_,rfl,rfl,g,i,?_⟩;have F:FS c H (Zk H c (.lst b.dropLast)):=fun a o e n=>by rw[gx n];exact e
  exact q _ _ I F ⟨b.dropLast,gm,by rw[aY];lia,fun x s=>let⟨I',h,j⟩:=r x (List.dropLast_subset _ s);⟨I',h.fs k F,j⟩⟩ (f.fs k F) u
def vj (T:Txt K mg):FO P w base 2 T.d33 Gh:=by
 refine T.d33.F.rd qc fun A L f I H C Q E x h=>?_;obtain⟨B,d,v,rfl,s,r,t,q⟩:=h;refine HzX ?_;intro _;refine io _ ((gq (pS (i:=2) qc.nd (pF T.d29 (ll T) (x.mono (by lia)) (gk (gK (gk gE (gk (gK (gk (gB gC (cv 0) (cv 1)) gn)) (gk (gK gn) gn)))) (gk gu gn))))
  (gq (wz gu (wy (gB gC (cv 2) gu) (cv 1) qv))
  (gw (gM (cv 2)))))) ?_;refine Hz2 ?_;intros;refine io _ s (gy (gv (vi r (by lia))) ⟨kJ,fun G m=>⟨mz,fun F l=>⟨uk,fun D g=>?_⟩⟩⟩);refine⟨_,1,.name (vr d v),rfl,As m l g,fun J a c N=>?_⟩;dsimp only[gX];have S:=(Au m l g).trans N.sm;have p:H c=none:=by
  cases z:H c with
  |none=>rfl
  |some u=>have:=N.nc;rw[Au m l g _ _ z]at this;cases this
 have y:ixN (cV3 (fun _=>0)).length (v:Int)=some v:=by unfold ixN;rw[ip (by lia),ip (by show(v:Int)<((3:Nat):Int);lia)];rfl
 refine io _ N.ea (gy (gv (j:=3) rfl) (iaq c _ _ v ⟨rfl,rfl,N.ec,y,?_⟩));have n:(cV3 (fun _=>0)).set v (.int 1)=cV3 (fun k=>if k=v then 1 else 0):=by
  match v,t with
  |0,_=>rfl
  |1,_=>rfl
  |2,_=>rfl
 have n:(cV3 (It.c ⟨.mk (.name (vr d v)) [],1,fun _=>0,false⟩)).set v (.int 1)=cV3 (naI d v).c:=n;rw[n];refine q _ _ (fun b o e=>by rw[gx (gD e p)];exact S _ _ e) (iae a _ c rfl (by rw[gx N.ne];exact N.ea) gm (N.im.mono (ky N.ec).tk))
def vk (T:Txt K mg):FO P w base 2 T.d34 Ic:=by
 refine T.d34.F.rd uS fun cdv A0 outer s0 H vs Q E hr h=>?_;obtain⟨x,I,k,rfl,i,q⟩:=h;refine HzX ?_;intro _;refine⟨_,(gq (iC (gL jb (gY jD (cv 1) gu) gu)
   (gw (gM (gY jD (gY kN (cv 1) gu) gu)))
   gQ)
  (gw (gM (lB ff fe PySem.F.type_list_index (zu hr) (gB gC (cv 0) gu) (gk (hV (zr rfl) rfl T.z_max Co (gk (gB gC (cv 0) gu) gn)) gn))))),?_⟩;refine eav i fun a n cs z0 e1 e2 iN=>?_;subst z0;refine⟨(by show(0:Int)<4;decide),?_⟩;show if(false ^^ decide (k%4=0))=true then _ else _;by_cases z:k%4=0
 ·rw[jo z];refine lQ ⟨⟨by decide,by decide⟩,(by show(0:Int)<3;decide),?_⟩;have e:k/4%3=(((k/4%3).toNat:Nat):Int):=by lia
  show Q (.int (k/4%3)) H;rw[e];exact q _ (by lia)
 ·rw[iY z];refine kU ?_;refine⟨_,e1,gy (gv (j:=3) rfl) ⟨.inl ⟨rfl,_,J8 e2⟩,_,e1,gy (gv (j:=3) rfl) (iap cs ([(I.c 0:Int),(I.c 1:Int),(I.c 2:Int)]) ⟨rfl,J8 e2,by simp,fun n hn _=>?_⟩)⟩⟩;have go:∀j:Nat,j<3->([(I.c 0:Int),(I.c 1:Int),(I.c 2:Int)]:List Int)[j]?=some n->(∀m:Nat,m<j->([(I.c 0:Int),(I.c 1:Int),(I.c 2:Int)]:List Int)[m]?≠some n)->zt K (.ref cs) [.int n] H Q:=fun j hj h1 h2=>(iaq cs ([(I.c 0:Int),(I.c 1:Int),(I.c 2:Int)]) n j ⟨rfl,rfl,J8 e2,by simp,h1,h2,q j hj⟩);by_cases a0:(I.c 0:Int)=n;·exact go 0 (by lia) (by rw[<-a0];rfl) (fun m h=>absurd h (di _))
  by_cases a1:(I.c 1:Int)=n
  ·exact go 1 (by lia) (by rw[<-a1];rfl) (fun m h=>by
    have:m=0:=by lia
    subst this;intro z;exact a0 (dj.inj z))
  have a2:(I.c 2:Int)=n:=by simp only[aj,bo,or_false]at hn;lia
  exact go 2 (by lia) (by rw[<-a2];rfl) (fun m h z=>by
   match m,h with
   |0,_=>exact a0 (dj.inj z)
   |1,_=>exact a1 (dj.inj z))
open TM.Internal (Kn Tr iA szs)
def JS (a:Zd) (made:List Nat) (I:It):Prop:=JI a made I/\I.w<=40/\I.t.nest<=16/\I.t.sz<=140
theorem JI.num {made:List Nat} (n:Int):JI wl made (nuI n):=by refine⟨fun N _ _=>?_⟩;show okT (.mk (.num n) []) N;unfold okT oY;exact⟨rfl,trivial⟩
theorem JS.num {made:List Nat} (n:Int):JS wl made (nuI n):=⟨JI.num n,by show 1<=40;decide,by show(Tr.mk (.num n) []).nest<=16;simp[Tr.nest,TM.Internal.nests],by show(Tr.mk (.num n) []).sz<=140;simp[Tr.sz,szs]⟩
theorem JI.name {made:List Nat} {v:Nat} (a:v<3):JI wl made (naI wl v):=by refine⟨fun N _ h=>?_⟩;show okT (.mk (.name (vr wl v)) []) N;unfold okT oY;exact⟨⟨rfl,h v a (by show 0<if v=v then 1 else 0;simp)⟩,trivial⟩
noncomputable def owI (a:Zd) (made:List Nat):It:=⟨.mk (.name (wdE a made.length)) [],1,fun _=>0,true⟩
def JI.ow {made:List Nat}:JI wl made (owI wl made):=by refine⟨fun N h _=>?_⟩;show okT (.mk (.name (wdE wl made.length)) []) N;unfold okT oY;exact⟨⟨rfl,h rfl⟩,trivial⟩
theorem Av{J:β->Prop}:∀{xs:List α},(∀x∈xs,∃y,R x y/\J y)->∃a,pk R xs a/\∀y∈a,J y
 |[],_=>⟨[],.nil,fun _ h=>by cases h⟩
 |x::xs,h=>by
  refine eax (h x (by simp)) fun y r j=>?_;refine eax (Av (xs:=xs) fun z hz=>h z (ai _ hz)) fun a b c=>?_;refine⟨y::a,.cons r b,fun z hz=>?_⟩;rcases aj.mp hz with rfl|hz;·exact j
  ·exact c z hz
def Ez(hn:n<=50) (B:Stk H1 st sn J) (T:J (nuI 0)) (i:H1 D=none) (W:∀l c d,FS st H1 l->Stk l st sn J->l D=some (.lst c)->pk (ItA l) c d->d.length=n->(∀I∈d,J I)->Q (.ref D) l):LcP (Itr 0 n) 0 nE (qJ Gg [] E0 (ki (cV 1) rM)) Q [none,some (.ref st)] H1 D:=by
 have sl:=IS;have g:D≠st:=fun z=>by refine eae B fun w e _=>?_;rw[z,e]at i;cases i
 refine io (fun k m f H=>m=n-k/\k<=n/\(∃o,f=[o,some (.ref st)])/\∃c,c.length=k/\H D=some (.lst c)/\Stk H st sn J/\FS st H1 H/\∀x∈c,∃I,ItA H x I/\J I) (⟨n,rfl,cO _,⟨none,rfl⟩,[],rfl,gm,B.same (gr i _),FS.same (gr i _),fun _ h=>by cases h⟩) ?_;refine fun k m f H=>fac fun M hk N=>fL fun c=>fah fun A C r F G=>?_;subst M;obtain⟨o,L⟩:=N;subst L;by_cases lk:k<n
 ·refine .inr ⟨lk,?_⟩;rintro v H3 ⟨rfl,rfl⟩;dsimp only[nE];rw[ip rfl];refine⟨st,sn,J,rfl,r,T,fun p x I u P U S=>?_⟩;have E:=u _ _ C g;have j:∀x∈c,∃I,ItA p x I/\J I:=fun x V=>let⟨I,a,b⟩:=G x V;(io I (a.fs r u) b);have s:Stk p D 100 J:=(iad c E (by lia) j);have q:FS D p (Zk p D (.lst (c++[x]))):=fun a o e n=>by rw[gx n];exact e
  refine⟨c,E,by lia,n-(k+ 1),by lia,rfl,lk,⟨_,rfl⟩,c++[x],by rw[aO,A];rfl,gm,?_,fun a o e n=>?_,fun y hy=>?_⟩;·refine eah P fun w X O t=>?_;exact iad w (q _ _ X g.symm) O (fun y hy=>let⟨I,a,b⟩:=t y hy;(io I (a.fs s q) b))
  ·rw[gx (gD e i)];exact u _ _ (F _ _ e n) n
  ·rcases ak.mp hy with hy|hy;·refine eae (j y hy) fun Z a b=>?_;exact io Z (a.fs s q) b
   ·rw[bb.mp hy];exact io I (U.fs s q) S
 ·have Y:k=n:=by lia
  subst Y;refine eae (Av G) fun d K R=>?_;exact .inl ⟨cN _,W H c d F r C K (by rw[<-K.length];exact A) R⟩
inductive XWi (L:Int->Int->Prop) (vs:List V) (H:Hp) (Q:VK):Prop
 |mk (wa st:Zx) (sn:Nat) (wl:Zd) (made:List Nat) (op k:Int) (e:vs=[.ref wa,.ref st,.int op,.int k]) (ho:L op k) (hw:H wa=some (.lst (wl.map V.str))) (lw:wl.length=16) (nd:wl.Nodup) (lm:made.length<=12) (nws:wa≠st) (ks:Stk H st sn (JS wl made)) (q:∀H' x I,FS st H H'->Stk H' st sn (JS wl made)->ItA H' x I->JI wl made I->Q x H')
def Gi (L:Int->Int->Prop):Sp:=fun a H Q _=>XWi L a H Q
noncomputable def hs3:Nat->Str
 |0=>"get"
 |1=>"tag"
 |_=>"size"
noncomputable def pk3 (a b c:Zx):Nat->Zx
 |0=>a
 |1=>b
 |_=>c
noncomputable def hs5:Nat->Str
 |0=>"call"
 |1=>"join"
 |2=>"add"
 |3=>"sub"
 |_=>"less"
def sk{h:Str} (j:h=κ.s) (g:H wt=some (.tup ws)) (e:Ims H ws (wsD κ)) (i:H pl=some (.lst xs)) (d:pk (ItA H) xs its) (k:H hl=some (.lst ys)) (f:ys=ho.map hI) (l:ho.length=its.length) (c:its.length<=1000) (q:∀b x,gT H b->ItA b x (knI κ its ho)->Q x b):Ew [.str h,.ref wt,.ref pl,.ref hl] H Q E0:=
 ⟨wt,pl,hl,κ,ws,xs,its,ho,by rw[j],g,e,i,d,by rw[k,f],l,c,fun b a m n N=>q b _ N.sm N.it⟩
def sq (T:Txt K mg):FO P w base 3 T.d36 (Gi fun d _=>d=0\/d=1\/d=2):=by
 have b:=my (P:=P) (w:=w) (base:=base) T;refine T.d36.F.rd jF fun cdv A0 outer s H vs Q E o h=>?_;obtain⟨wa,X,Y,c,a,d,k,rfl,ho,hw,Z,nd,lm,nws,ks,q⟩:=h;refine HzX ?_;intro _;refine io _ ((gq (pS (i:=4) jF.nd (pF T.d31 b (o.mono (by lia)) (gk (cv 1) gn)))
  (gq (iC (gL jb (cv 2) gu)
   (gq (pS (i:=5) jF.nd (gB gC (gN (gk gE (gk gE (gk gE gn)))) (gY jD (cv 3) gu)))
   (gq (pS (i:=6) jF.nd (gB gC (gN (gk (gK (gk (gB gC (cv 0) (gY jD (gY kN (cv 3) gu) gu)) gn)) (gk (gK (gk (gB gC (cv 0) (gY jD (gY kN (cv 3) gu) gu)) gn)) (gk (gK gn) gn)))) (gY jD (cv 3) gu)))
   (gw (gM (pF T.d30 (lA T) (o.mono (by lia)) (gk (cv 5) (gk (cv 6) (gk (gN (gk (cv 4) gn)) (gk (gN (gk (qE mB gu) gn)) gn)))))))))
   gQ)
  (gq (iC (gL jb (cv 2) gu)
   (gq (pS (i:=7) jF.nd (gN (gk (pF T.d31 b (o.mono (by lia)) (gk (cv 1) gn)) (gk (pF T.d31 b (o.mono (by lia)) (gk (cv 1) gn)) (gk (cv 4) gn)))))
   (gw (gM (pF T.d30 (lA T) (o.mono (by lia)) (gk gE (gk (gK gn) (gk (cv 7) (gk (gN (gk (qE mB gu) (gk (qE mB gu) (gk (qE mB gu) gn)))) gn))))))))
   gQ)
  (gw (gM (pF T.d30 (lA T) (o.mono (by lia)) (gk (gB gC (gN (gk gE (gk gE (gk gE (gk gE (gk gE gn)))))) (gY jD (cv 3) gu)) (gk (gK gn) (gk (gN (gk (pF T.d31 b (o.mono (by lia)) (gk (cv 1) gn)) (gk (cv 4) gn))) (gk (gN (gk (qE mB gu) (gk (qE mB gu) gn))) gn))))))))))) ?_;refine Hz3 ?_;intros;have sl:=IS;refine⟨X,Y,JS c a,rfl,ks,JS.num 0,fun H1 x I F1 k1 i1 j1=>?_⟩;dsimp only[gX];have hw1:=F1 _ _ hw nws;by_cases e0:d=0
 ·refine sO (i:=2) (n:=d) rfl e0 ?_;refine⟨uk,fun l1 h1=>?_⟩;refine eax (show ∃j:Nat,j<3/\k%3=(j:Int) from (io ((k%3).toNat) (by lia) (by lia))) fun j v ej=>?_;refine eax (show ∃i:Nat,i<16/\k/3%16=(i:Int) from (io ((k/3%16).toNat) (by lia) (by lia))) fun i hi ei=>?_;have qw:atI (c.map V.str) (k/3%16)=some (.str (vr c i)):=by rw[ei];exact gv (vi Z hi)
  have U1:=gr h1 (.lst [.str "get",.str "tag",.str "size"]);have r:∀(l:Kn) (t:Hp) (wt:Zx) (ws:List V),gT H1 t->t wt=some (.tup ws)->Ims t ws (wsD l)->exN l=[]->(∀w,l≠ .name w)->(∀N,okK l 1 N)->∀(f:St),f[5]?=some (some (.str l.s))->f[6]?=some (some (.ref wt))->f[4]?=some (some x)->GN (qJ Ew [] E0 (ki (cV 5) (ki (cV 6) (ki (AV (ki (cV 4) rM)) (ki (AV (ki (tUn (rU fun i=>V.int (-i)) (tC (V.int 1))) rM)) rM))))) {nx:=fun x u=>Q V.non u,rt:=Q} f t:=by intro l t wt ws U ew iw ex nn ok f s5 s6 s4;show onV f[5]? _;rw[s5];show onV f[6]? _;rw[s6];show onV f[4]? _;rw[s4];refine⟨kJ,fun l3 L=>(iad 1 rfl kJ (fun l4 h4=>?_))⟩;have O:=gr L (.lst [x]);have M:=gr h4 (.lst [.int (-1)]);have e:=O.trans M;refine sk (κ:=l) (its:=[I]) (ho:=[none]) rfl (e _ _ ew) (iw.mono (gT.tk e)) (M _ _ gm) (.cons (i1.same (U.trans e)) .nil) gm rfl rfl (by show 1<=1000;decide) fun u B R F=>?_;have g:=U.trans (e.trans R);exact q u B _ (F1.trans (FS.same g)) (k1.same g) F (JI.knit Z nd lm rfl (by rw[ex];exact⟨rfl,trivial⟩) (fun J p=>by rw[bb.mp p];exact j1.1) nn ok)
  have qh:atI [V.str "get",V.str "tag",V.str "size"] (k%3)=some (.str (hs3 j)):=by
   rw[ej];match j,v with
   |0,_=>rfl
   |1,_=>rfl
   |2,_=>rfl
  refine iag ((by show(0:Int)<3;decide)) _ gm (gy qh ?_);dsimp only[gX];have G:=U1 _ _ hw1;refine⟨⟨by decide,by decide⟩,(by show(0:Int)<16;decide),_,G,gy qw ⟨kJ,fun W g1=>?_⟩⟩;have V1:=gr g1 (.tup [.str (vr c i)]);refine⟨⟨by decide,by decide⟩,(by show(0:Int)<16;decide),_,V1 _ _ G,gy qw ⟨kJ,fun C g2=>⟨mz,fun S g3=>⟨uk,fun l2 g4=>?_⟩⟩⟩⟩;have V2:=gr g2 (.tup [.str (vr c i)]);have V3:=gr g3 (.tup []);have V4:=gr g4 (.lst [.ref W,.ref C,.ref S]);have qp:atI [V.ref W,V.ref C,V.ref S] (k%3)=some (.ref (pk3 W C S j)):=by
   rw[ej];match j,v with
   |0,_=>rfl
   |1,_=>rfl
   |2,_=>rfl
  refine iag ((by show(0:Int)<3;decide)) _ gm (gy qp ?_);dsimp only[gX];have UV:=U1.trans (V1.trans (V2.trans (V3.trans V4)));match j,v with
  |0,_=>exact r (.get (vr c i)) _ W _ UV ((V2.trans (V3.trans V4)) _ _ gm) (.cons (.flat rfl) .nil) rfl (fun _ z=>nomatch z) (fun _=>rfl) _ rfl rfl rfl
  |1,_=>exact r (.tag (vr c i)) _ C _ UV ((V3.trans V4) _ _ gm) (.cons (.flat rfl) .nil) rfl (fun _ z=>nomatch z) (fun _=>rfl) _ rfl rfl rfl
  |2,_=>exact r (.op "size" 1) _ S _ UV (V4 _ _ gm) .nil rfl (fun _ z=>nomatch z) (fun _=>⟨rfl,by simp[TM.Internal.ops]⟩) _ rfl rfl rfl
 refine sQ (i:=2) (n:=d) rfl e0 ?_;dsimp only[hG];by_cases e1:d=1
 ·refine sO (i:=2) (n:=d) rfl e1 ?_;refine⟨X,Y,JS c a,rfl,k1,JS.num 0,fun t x2 I2 A D i2 j2=>?_⟩;refine⟨X,Y,JS c a,rfl,D,JS.num 0,fun H3 x3 I3 F3 k3 i3 j3=>?_⟩;refine⟨uk,fun l3 L=>?_⟩;dsimp only[gX];refine⟨mz,fun t4 h4=>⟨1,rfl,1,rfl,1,rfl,uk,fun l5 h5=>?_⟩⟩;have O:=gr L (.lst [x2,x3,x]);have M:=gr h4 (.tup []);have y:=gr h5 (.lst [.int (-1),.int (-1),.int (-1)]);have U:=O.trans (M.trans y);refine sk (κ:= .op "at" 3) (its:=[I2,I3,I]) (ho:=[none,none,none]) rfl (y _ _ gm) .nil ((M.trans y) _ _ gm) (.cons ((i2.fs D F3).same U) (.cons (i3.same U) (.cons (((i1.fs k1 A).fs D F3).same U) .nil))) gm rfl rfl (by show 3<=1000;decide) fun u B R F=>?_;have g:=U.trans R;exact q u B _ (F1.trans (A.trans (F3.trans (FS.same g)))) (k3.same g) F (JI.knit Z nd lm rfl ⟨rfl,rfl,rfl,trivial⟩ (fun J p=>by
   simp only[aj,bo,or_false]at p;rcases p with rfl|rfl|rfl;·exact j2.1
   ·exact j3.1
   ·exact j1.1) (fun _ z=>nomatch z) (fun _=>⟨rfl,by simp[TM.Internal.ops]⟩))
 refine sQ (i:=2) (n:=d) rfl e1 ?_;dsimp only[hG];refine eax (show ∃j:Nat,j<5/\k%5=(j:Int) from (io ((k%5).toNat) (by lia) (by lia))) fun j v ej=>?_;have qh:atI [V.str "call",V.str "join",V.str "add",V.str "sub",V.str "less"] (k%5)=some (.str (hs5 j)):=by
  rw[ej];match j,v with
  |0,_=>rfl
  |1,_=>rfl
  |2,_=>rfl
  |3,_=>rfl
  |4,_=>rfl
 have ho5:(hs5 j,2)∈TM.Internal.ops:=by
  match j,v with
  |0,_=>simp[TM.Internal.ops,hs5]
  |1,_=>simp[TM.Internal.ops,hs5]
  |2,_=>simp[TM.Internal.ops,hs5]
  |3,_=>simp[TM.Internal.ops,hs5]
  |4,_=>simp[TM.Internal.ops,hs5]
 refine⟨AS,fun l1 h1=>(iag ((by show(0:Int)<5;decide)) _ gm (gy qh ⟨mz,fun C h2=>?_⟩))⟩;have V1:=gr h1 (.lst [.str "call",.str "join",.str "add",.str "sub",.str "less"]);have V2:=gr h2 (.tup []);have V:=V1.trans V2;have m:=k1.same V;refine⟨X,Y,JS c a,rfl,m,JS.num 0,fun t x2 I2 A D i2 j2=>?_⟩;refine⟨kB,fun l3 L=>⟨1,rfl,1,rfl,kB,fun l5 h5=>?_⟩⟩;have O:=gr L (.lst [x2,x]);have y:=gr h5 (.lst [.int (-1),.int (-1)]);have U:=O.trans y;refine sk (κ:= .op (hs5 j) 2) (its:=[I2,I]) (ho:=[none,none]) rfl (U _ _ (m.tk A _ _ gm)) .nil (y _ _ gm) (.cons (i2.same U) (.cons (((i1.same V).fs m A).same U) .nil)) gm rfl rfl (by show 2<=1000;decide) fun u B R F=>?_;have g:=U.trans R;exact q u B _ (F1.trans ((FS.same V).trans (A.trans (FS.same g)))) (D.same g) F (JI.knit Z nd lm rfl ⟨rfl,rfl,trivial⟩ (fun J p=>by
  simp only[aj,bo,or_false]at p;rcases p with rfl|rfl;·exact j2.1
  ·exact j1.1) (fun _ z=>nomatch z) (fun _=>⟨rfl,ho5⟩))
open TM.Internal (Kn Tr iA szs)
theorem wb:∀n:Nat,Mxs wl [] (aG n none)
 |0=>trivial
 |n+ 1=>⟨rfl,wb n⟩
theorem Aw:∀{l:List (Str×Str)} {vs:List Nat},(∀(i:Nat) a v,l[i]?=some a->vs[i]?=some v->v<3/\a.2=vr wl v)->l.length=vs.length->Mxs wl (l.map fun a=>some (a.2,("arm":Str))) (vs.map some)
 |[],[],_,_=>trivial
 |a::l,v::vs,h,e=>by obtain⟨f,d⟩:=h 0 a v rfl rfl;exact⟨f,⟨"arm",gG,by rw[<-d];rfl⟩,Aw (fun i a v c b=>h (i+ 1) a v c b) (by simpa using e)⟩
 |[],_::_,_,e=>by cases e
 |_::_,[],_,e=>by cases e
def Gj {n:Nat}:yU xs none (some (n:Int))=xs.take n:=by
 unfold yU;rw[HT.Internal.sIx_none,HT.Internal.sIx_nat,bO,Nat.sub_zero];by_cases h:n<=xs.length;·rw[cU h]
 ·rw[Nat.min_eq_right (by lia),bK,bM (by lia)]
def xx (n:Nat):(aG n (none:Option Nat)).map hI=aG n (.int (-1)):=by rw[List.map_replicate];rfl
def CQ(g:H1 l=some (.lst xs)) (n:H1 D=none) (r:xs.length<=1000) (m:∀a,gT H1 a->a D=some (.lst (aG xs.length (.int (-1))))->Q (.ref D) a):LcP (Itl K l) 0 nE (tUn (rU fun i=>V.int (-i)) (tC (V.int 1))) Q [none] H1 D:=by
 have q:=IS;refine mE xs.length (by lia) (fun b _=>b=aG b.length (.int (-1))) (fun _ _ _ h _=>h) n rfl (fun k p d h=>wL g d h) (fun p d=>wM g d) rfl ?_ ?_;·rintro k H v t b Z S s ⟨rfl,_⟩ c f j;refine⟨1,rfl,j _ _ (fun _ _ e=>e) ?_⟩;rw[aO,aX,cx,<-c]
 ·intro a b S c f o;rw[f]at c;exact m a S (by rw[o,c])
abbrev ER (a b:TE):TE:=tOp (cI (fun _ j=>0<j) fun i j=>V.int (i%j)) a b
abbrev tDv (a b:TE):TE:=tOp (cI Hc fun i j=>V.int (i/j)) a b
def BW(j:σ[2]?=some (some (.int op))) (c:σ[3]?=some (some (.int k))) (ho:op=0\/op=1\/op=2) (h:∀(n:Nat) (H':Hp),n<=8->(op=2->n<=5)->gT H H'->R D (σ.set 4 (some (.int (n:Int)))) H'):
  B3 (AU (ER (tDv (cV 3) (tC (.int 3))) (tC (.int 3))) (gX 4)) (B3 (sv (cT (tOp (cEq false) (ER (tDv (cV 3) (tC (.int 9))) (tC (.int 4))) (tC (.int 0)))) (AU (ER (tDv (cV 3) (tC (.int 36))) (tOp Bg (AV (ki (tC (.int 7)) (ki (tC (.int 9)) (ki (tC (.int 6)) rM)))) (cV 2))) (gX 4)) hG) R) D σ H:=by
 show onV σ[3]? _;rw[c];refine⟨⟨by decide,by decide⟩,(by show(0:Int)<3;decide),?_⟩;have q:k/3%3=(((k/3%3).toNat:Nat):Int):=by lia
 have b:(σ.set 4 (some (.int (k/3%3))))[3]?=some (some (.int k)):=by rw[aw (by decide)];exact c
 have f:(σ.set 4 (some (.int (k/3%3))))[2]?=some (some (.int op)):=by rw[aw (by decide)];exact j
 show onV (σ.set 4 (some (.int (k/3%3))))[3]? _;rw[b];refine⟨⟨by decide,by decide⟩,(by show(0:Int)<4;decide),?_⟩;show if(false ^^ decide (k/9%4=0))=true then _ else _;by_cases z:k/9%4=0
 ·rw[jo z];refine lQ ?_;show onV (σ.set 4 (some (.int (k/3%3))))[3]? _;rw[b];refine⟨⟨by decide,by decide⟩,uk,fun l g=>?_⟩;show onV (σ.set 4 (some (.int (k/3%3))))[2]? _;rw[f];obtain⟨m,o,d,r,i⟩:∃m:Int,atI [V.int 7,V.int 9,V.int 6] op=some (.int m)/\0<m/\m<=9/\(op=2->m<=6):=by
   rcases ho with rfl|rfl|rfl;·exact⟨7,rfl,by decide,by decide,fun z=>by cases z⟩
   ·exact⟨9,rfl,by decide,by decide,fun z=>by cases z⟩
   ·exact⟨6,rfl,by decide,by decide,fun _=>by decide⟩
  refine⟨_,gm,gy o ⟨d,?_⟩⟩;have t:=fR (k/36) (show m≠0 by lia);have s:=fV (k/36) d;have p:k/36%m=(((k/36%m).toNat:Nat):Int):=by lia
  have a:=h (k/36%m).toNat _ (by lia) (fun y=>by have:=i y;lia) (gr g (.lst [.int 7,.int 9,.int 6]));rw[<-p]at a;show R D ((σ.set 4 (some (.int (k/3%3)))).set 4 (some (.int (k/36%m)))) _;rw[List.set_set];exact a
 ·rw[iY z];refine kU ?_;have a:=h (k/3%3).toNat H (by lia) (fun _=>by lia) (fun _ _ e=>e);rw[<-q]at a;exact a
def BX(g:H1 wa=some (.lst (wl.map V.str))) (d:wl.length=16) (o:H1 D=none) (s:n<=50) (l:∀(H':Hp) (a:Zd),gT H1 H'->H' D=some (.lst (a.map V.str))->a.length=n->Q (.ref D) H'):LcP (Itr 0 n) 0 nE (tOp Bg (cV 1) (ER (tOp (cI0 fun i j=>V.int (i+j)) (tDv (cV 2) (tC (V.int 189))) (tOp (cI E4 fun i j=>V.int (i*j)) (tC (V.int 3)) (cV 0))) (tC (V.int 16)))) Q [none,some (.ref wa),some (.int k)] H1 D:=by
 have r:=IS;refine mE n (by lia) (fun b _=>∃a:List Str,b=a.map V.str) (fun _ _ _ h _=>h) o rfl (fun j _ _ h=>h) (fun _ _=>cN _) ⟨[],rfl⟩ ?_ ?_;·rintro j H v u b Z S t ⟨rfl,rfl⟩ ⟨a,rfl⟩ c f;refine eax (show ∃i:Nat,i<16/\(k/189+ 3*(0+(j:Int)))%16=(i:Int) from ⟨((k/189+ 3*(0+(j:Int)))%16).toNat,by lia,by lia⟩) fun i m q=>?_;refine⟨⟨by decide,by decide⟩,.inl ⟨by decide,by decide⟩,(by show(0:Int)<16;decide),_,S _ _ g,gy (show atI _ ((k/189+ 3*(0+(j:Int)))%16)=some (.str (vr wl i)) by rw[q];exact gv (vi d m)) ?_⟩;exact f _ _ (fun _ _ e=>e) ⟨a++[vr wl i],by rw[bB];rfl⟩
 ·rintro H' b S ⟨a,rfl⟩ c p;exact l H' a S p (by rw[aC]at c;exact c)
def EA(g:H1 D=none) (o:n<=50) (f:∀(H':Hp),gT H1 H'->H' D=some (.lst (((aa n).map fun j:Nat=>((k+(j:Int))%3).toNat).map fun v:Nat=> .int (v:Int)))->Q (.ref D) H'):LcP (Itr 0 n) 0 nE (ER (tOp (cI0 fun i j=>V.int (i+j)) (cV 1) (cV 0)) (tC (V.int 3))) Q [none,some (.int k)] H1 D:=by
 have m:=IS;refine mE n (by lia) (fun a _=>a=((aa a.length).map fun j:Nat=>((k+(j:Int))%3).toNat).map fun v:Nat=> .int (v:Int)) (fun _ _ _ h _=>h) g rfl (fun j _ _ h=>h) (fun _ _=>cN _) rfl ?_ ?_
 ·rintro j H v q a Z S p ⟨rfl,rfl⟩ b c d;refine⟨(by show(0:Int)<3;decide),d _ _ (fun _ _ e=>e) ?_⟩;rw[aO,aX,cu,bB,bB,<-b,c];have e:(k+(0+(j:Int)))%3=((((k+(j:Int))%3).toNat:Nat):Int):=by rw[fW];lia
  show a++[V.int ((k+(0+(j:Int)))%3)]=_;rw[e];rfl
 ·intro H' a S b c l;rw[c]at b;exact f H' S (by rw[l,b])
theorem t9:∀l:List Str,Ims H (l.map V.str) (l.map sD)
 |[]=> .nil
 |x::l=> .cons (.flat rfl) (t9 l)
theorem xy:∀l:List (Str×Str),Ims H (l.flatMap fun a=>[V.str a.1,V.str a.2]) (l.flatMap fun a=>[sD a.1,sD a.2])
 |[]=> .nil
 |x::l=> .cons (.flat rfl) (.cons (.flat rfl) (xy l))
noncomputable def lsA (a b:Zd) (k:Int) (i:Nat):List (Str×Str):=(aa i).map fun j:Nat=>(b.getD j "",vr a ((k+(j:Int))%3).toNat)
def ub{a:Zd}:(lsA wl a k i).length=i:=by unfold lsA;rw[aC,cw]
theorem xA:∀l:List (Str×Str),(l.flatMap fun a=>[V.str a.1,V.str a.2]).length=2*l.length
 |[]=>rfl
 |x::l=>by have e:=az (a:=x) (as:=l);rw[List.flatMap_cons,aO,xA l];show 2+ 2*l.length=_;lia
def vm (T:Txt K mg):FO P w base 3 T.d35 (Gi fun c _=>c=0\/c=1\/c=2):=by
 refine T.d35.F.rd iX fun cdv A0 outer s H vs Q E O h=>?_;obtain⟨wa,A,sn,y,t,c,k,rfl,ho,hw,Z,nd,lm,nws,ks,q⟩:=h;refine HzX ?_;intro _;refine io _ ((gq (pS (i:=4) iX.nd (gY jD (gY kN (cv 3) gu) gu))
  (gq (iC (gL jb (gY jD (gY kN (cv 3) gu) gu) gu)
   (gw (pS (i:=4) iX.nd (gY jD (gY kN (cv 3) gu) (gB gC (gN (gk gu (gk gu (gk gu gn)))) (cv 2)))))
   gQ)
  (gq (tG (j:=5) rfl (CI (x:="_law_k") ["_law_words_here","_law_arg"] [("_law_words_here",0,s.heap.objs.size+ 1),("_law_arg",3,s.heap.objs.size+ 3)]) (jE rfl T.z_range (gk (gY jC (cv 4) gu) gn)) (fun _ _ _ _ _=>km) (fun _ _ _ _ _=>(gB gC (cv 1) (gY jD (gY jC (gY kN (cv 2) gu) (gY uM gu (cv 0))) gu))) iX.nd rfl (.inl rfl))
  (gq (tG (j:=6) rfl (CI (x:="_law_k") ["_law_stack"] [("_law_stack",1,s.heap.objs.size+ 2)]) (jE rfl T.z_range (gk (cv 4) gn)) (fun _ _ _ _ _=>km) (fun _ _ _ _ _=>(pF T.d31 (my T) (O.mono (by lia)) (gk (cv 1) gn))) iX.nd rfl (.inl rfl))
  (gq (iC (gL jb (cv 2) gu)
   (gw (gM (pF T.d30 (lA T) (O.mono (by lia)) (gk gE (gk (iQ iG rfl T.z_tuple jJ (gk (oF vF (cv 5) qK (qL (cv 4))) gn)) (gk (cv 6) (gk (rQ rfl (Fn (x:="_law_part") rfl gG gG rfl rfl) (lR (cv 6)) (fun _ _ _ _ _=>km) (fun _ _ _ _ _=>(qE mB gu))) gn)))))))
   gQ)
  (gq (iC (gL jb (cv 2) gu)
   (gw (gM (pF T.d30 (lA T) (O.mono (by lia)) (gk gE (gk (gK gn) (gk (cv 6) (gk (rQ rfl (Fn (x:="_law_part") rfl gG gG rfl rfl) (lR (cv 6)) (fun _ _ _ _ _=>km) (fun _ _ _ _ _=>(qE mB gu))) gn)))))))
   gQ)
  (gq (pS (i:=7) iX.nd (gK gn))
  (gq (kj IW rfl (jE rfl T.z_range (gk (gY jC (cv 4) gu) gn)) (pN (i:=8) iX.nd)
   (gw (pS (i:=7) iX.nd (gY vK (cv 7) (gK (gk (gB gC (cv 5) (cv 8)) (gk (gB gC (cv 0) (gY jD (gY jC (cv 3) (cv 8)) gu)) gn)))))))
  (gq (pS (i:=9) iX.nd (gY p9 (cv 6) (gN (gk (pF T.d31 (my T) (O.mono (by lia)) (gk (cv 1) gn)) gn))))
  (gw (gM (pF T.d30 (lA T) (O.mono (by lia)) (gk gE (gk (cv 7) (gk (gY p9 (gN (gk (pF T.d31 (my T) (O.mono (by lia)) (gk (cv 1) gn)) gn)) (cv 9)) (gk (gY p9 (gN (gk (qE mB gu) gn)) (rQ rfl (CI (x:="_law_k") ["_law_arg"] [("_law_arg",3,s.heap.objs.size+ 3)]) (jE rfl T.z_range (gk (gY jC (cv 4) gu) gn)) (fun _ _ _ _ _=>km) (fun _ _ _ _ _=>(gY jD (gY jC (cv 1) (cv 0)) gu)))) gn))))))))))))))))) ?_;refine Hz9 ?_;intros;have sl:=IS;refine BW rfl rfl ho fun n H0 hn h5 S0=>?_;have en:(n:Int)+ 1=((n+ 1:Nat):Int):=by lia
 refine iak _ rfl (by lia) (by lia) (fun D1 D=>?_);rw[show((n:Int)+ 1).toNat=n+ 1 by lia];refine BX (S0 _ _ hw) Z D (by lia) fun H1 d S1 e1 lc=>?_;dsimp only[gX];have N:=S0.trans S1;refine iak _ rfl (by lia) (by lia) (fun D2 C=>?_);rw[show((n:Int)).toNat=n by lia];refine Ez (by lia) (ks.same N) (JS.num 0) C fun H2 r o F2 k2 G a2 l jI=>?_;dsimp only[gX];have p:FS A H H2:=(FS.same N).trans F2;have lz:r.length=n:=by rw[a2.length];exact l
 have n1:D1≠A:=fun z=>by refine eae ks fun xs e _=>?_;rw[z,S0 _ _ e]at D;cases D
 have e12:=F2 _ _ e1 n1;by_cases e0:c=0
 ·refine sO (i:=2) (n:=c) rfl e0 ?_;have ec:yU (d.map V.str) none (some (n:Int))=(d.take n).map V.str:=by rw[Gj,List.map_take]
  refine⟨_,rfl,D1,_,rfl,J8 e12,fun l3 h3=>?_⟩;rw[ec];refine iaf l3 _ rfl (.inl ⟨J8 gm,fun t4 h4=>?_⟩);have U3:=gr h3 (.lst ((d.take n).map V.str));have U4:=gr h4 (.tup ((d.take n).map V.str));have L:=U3.trans U4;refine iad D2 rfl ⟨_,J8 (L _ _ G)⟩ (fun D3 B=>CQ (L _ _ G) B (by lia) fun S b e3=>?_);have U:=L.trans b;have lt:(d.take n).length=n:=by rw[aI];lia
  refine sk (κ:= .rcd (d.take n)) (its:=o) (ho:=aG n none) rfl (b _ _ gm) (t9 _) (U _ _ G) (a2.imp fun _ _ h=>h.same U) e3 (by rw[xx,lz]) (by rw[aP,l]) (by lia) fun H' Y S' i'=>?_;have u:=U.trans S';exact q H' Y _ (p.trans (FS.same u)) (k2.same u) i' (JI.knit Z nd lm (by rw[aP,l]) (wb n) (fun I hI=>(jI I hI).1) (fun _ z=>nomatch z) (fun _=>⟨by rw[l,lt],by rw[lt];lia⟩))
 refine sQ (i:=2) (n:=c) rfl e0 ?_;dsimp only[hG];by_cases e1':c=1;·refine sO (i:=2) (n:=c) rfl e1' ?_;refine⟨mz,fun t1 h1=>?_⟩;have U1:=gr h1 (.tup []);refine iad D2 rfl ⟨_,J8 (U1 _ _ G)⟩ (fun D3 B=>CQ (U1 _ _ G) B (by lia) fun S b e3=>?_);have U:=U1.trans b;refine sk (κ:= .row n) (its:=o) (ho:=aG n none) rfl (b _ _ gm) .nil (U _ _ G) (a2.imp fun _ _ h=>h.same U) e3 (by rw[xx,lz]) (by rw[aP,l]) (by lia) fun H' Y S' i'=>?_;have u:=U.trans S';exact q H' Y _ (p.trans (FS.same u)) (k2.same u) i' (JI.knit Z nd lm (by rw[aP,l]) (wb n) (fun I hI=>(jI I hI).1) (fun _ z=>nomatch z) (fun _=>⟨l,by lia⟩))
 refine sQ (i:=2) (n:=c) rfl e1' ?_;dsimp only[hG];have op2:c=2:=by rcases ho with h|h|h;exact absurd h e0;exact absurd h e1';exact h
 have n5:=h5 op2;refine⟨mz,fun t1 h1=>?_⟩;dsimp only[gX];have U1:=gr h1 (.tup []);have hw2:=p _ _ hw nws;refine iak _ rfl (by lia) (by lia) ?_;rw[show((n:Int)+ 1).toNat=n+ 1 by lia];refine kK (fun i σ S=>∃(o8:Option V) (th:Zx),σ=[some (.ref wa),some (.ref A),some (.int c),some (.int k),some (.int (n:Int)),some (.ref D1),some (.ref D2),some (.ref th),o8,none]/\gT H2 S/\S th=some (.tup ((lsA y d k i).flatMap fun a=>[V.str a.1,V.str a.2]))) (iab none t1 rfl U1 gm) ?_ ?_
 ·refine fun i σ S hi=>fad fun o8 th W b F=>?_;subst W;dsimp only[gX];have q1:atI (d.map V.str) (0+(i:Int))=some (.str (d.getD i "")):=by rw[fW];refine gv ?_;rw[aM,bq,bf (show i<d.length by lia)];rfl
  refine eax (show ∃j:Nat,j<3/\(k+(0+(i:Int)))%3=(j:Int) from (io (((k+(0+(i:Int)))%3).toNat) (by lia) (by lia))) fun j hj ej=>?_;have q2:atI (y.map V.str) ((k+(0+(i:Int)))%3)=some (.str (vr y j)):=by rw[ej];exact gv (vi Z (by lia))
  have ej2:((k+(i:Int))%3).toNat=j:=by rw[fW]at ej;lia
  refine io _ (b _ _ e12) (gy q1 (iag ((by show(0:Int)<3;decide)) _ (b _ _ hw2) (gy q2 ⟨kB,fun t2 h2=>?_⟩)));have U2:=gr h2 (.tup [.str (d.getD i ""),.str (vr y j)]);refine tU (U2 _ _ F) gm (by rw[xA,ub];show 2*i+ 2<=_;lia) fun t4 H4 S4 e4=>?_;dsimp only[gX];refine iab _ t4 rfl (b.trans (U2.trans S4)) ?_;rw[e4];unfold lsA;rw[cu,bB,List.flatMap_append];simp[ej2]
 ·refine fun σ S=>fad fun o8 th W b F=>?_;subst W;dsimp only;have k3:=k2.same b;have nD2:D2≠A:=fun z=>by refine eae ks fun ys e' _=>?_;rw[z,N _ _ e']at C;cases C
  have eD3:=b _ _ G;refine⟨A,sn,JS y t,rfl,k3,JS.num 0,fun H4 X I4 F4 k4 i4 j4=>?_⟩;refine⟨kJ,fun l5 h5'=>?_⟩;have U5:=gr h5' (.lst [X]);have eD5:=U5 _ _ (F4 _ _ eD3 nD2);refine iaj D2 l5 r ([X]) rfl rfl eD5 gm (by show r.length+ 1<=_;lia) (fun D6 h6=>?_);dsimp only[gX];have U6:=gr h6 (.lst (r++[X]));have m:=U5.trans U6;have k6:=k4.same m;have n6:D6≠A:=fun z=>by refine eae (k4.same U5) fun xs e _=>?_;rw[z,e]at h6;cases h6
  refine⟨A,sn,JS y t,rfl,k6,JS.num 0,fun H7 x7 I7 F7 k7 i7 j7=>?_⟩;refine⟨kJ,fun l8 h8=>?_⟩;have U8:=gr h8 (.lst [x7]);refine iaj l8 D6 ([x7]) (r++[X]) rfl rfl gm (U8 _ _ (F7 _ _ gm n6)) (by rw[aO];show 1+(r.length+ 1)<=_;lia) (fun D9 h9=>?_);have U9:=gr h9 (.lst ([x7]++(r++[X])));refine iad 1 rfl kJ (fun l10 h10=>?_);have U10:=gr h10 (.lst [.int (-1)]);refine iak _ rfl (by lia) (by lia) (fun D11 hD11=>?_);rw[show((n:Int)+ 1).toNat=n+ 1 by lia];refine EA hD11 (by lia) fun H12 M e12'=>?_;refine iaj l10 D11 _ _ rfl rfl (M _ _ gm) e12' (by rw[aC,aC,cw];show 1+(n+ 1)<=_;lia) (fun D13 h13=>?_);have U13:=gr h13 (.lst ([.int (-1)]++((aa (n+ 1)).map fun j:Nat=>((k+(j:Int))%3).toNat).map fun v:Nat=> .int (v:Int)));have U7:=U8.trans (U9.trans (U10.trans (M.trans U13)));have eth7:=U7 _ _ (k6.tk F7 _ _ (m _ _ (k3.tk F4 _ _ F)));have a27:pk (ItA _) r o:=a2.imp fun _ _ h=>((((h.same b).fs k3 F4).same m).fs k6 F7).same U7;refine sk (κ:= .case (lsA y d k (n+ 1))) (its:=I7::(o++[I4])) (ho:=none::((aa (n+ 1)).map fun j:Nat=>((k+(j:Int))%3).toNat).map some) rfl eth7 (xy _) ((U10.trans (M.trans U13)) _ _ gm) (.cons (i7.same U7) (.snoc (((i4.same m).fs k6 F7).same U7) a27)) gm ?_ ?_ ?_ fun H' Y S' i'=>?_;·show _=hI none::bj hI _;rw[bh (f:=some) (g:=hI)];rfl
  ·rw[az,aC,aC,cw,az,aO,l];rfl
  ·rw[az,aO,l];show n+ 1+ 1<=1000;lia
  ·have u:=U7.trans S';refine q H' Y _ (p.trans ((FS.same b).trans (F4.trans ((FS.same m).trans (F7.trans (FS.same u)))))) (k7.same u) i' (JI.knit Z nd lm ?_ ⟨rfl,Aw (fun i a v ha hv=>?_) ?_⟩ (fun J hJ=>?_) (fun _ z=>nomatch z) (fun _=>⟨?_,?_⟩));·simp only[az,aC,cw,aO,l,aT]
   ·unfold lsA at ha;rw[aM]at ha hv;refine eae (dA.mp ha) fun j hj W=>?_;subst W;rw[hj]at hv;cases hv;exact⟨by show((k+(j:Int))%3).toNat<3;lia,rfl⟩
   ·rw[ub,aC,cw]
   ·rcases aj.mp hJ with rfl|hJ;·exact j7.1
    ·rcases ak.mp hJ with hJ|hJ;·exact(jI J hJ).1
     ·rw[bb.mp hJ];exact j4.1
   ·rw[az,aO,l,ub];rfl
   ·rw[ub];lia
open TM.Internal (Kn Tr iA szs)
inductive XNe (vs:List V) (H:Hp) (Q:VK):Prop
 |mk (wa st ma:Zx) (sn:Nat) (wl:Zd) (made:List Nat) (op k:Int) (e:vs=[.ref wa,.ref st,.ref ma,.int op,.int k]) (h0:0<=op) (h1:op<22) (hw:H wa=some (.lst (wl.map V.str))) (hm:H ma=some (.lst (made.map nI))) (lw:wl.length=16) (nd:wl.Nodup) (lm:made.length<=12) (nws:wa≠st) (nms:ma≠st) (ks:Stk H st sn (JS wl made)) (q:∀H' x I,FS st H H'->Stk H' st sn (JS wl made)->ItA H' x I->JI wl made I->Q x H')
def Ie:Sp:=fun vs H Q _=>XNe vs H Q
def BY(hσ:σ[i]?=some (some (.int n))) (h:if n<m then T D σ H else u D σ H):sv (cT (tOp (cI0 fun i j=> .bl (decide (i<j))) (cV i) (tC (.int m)))) T u D σ H:=by
 show onV σ[i]? _;rw[hσ];show if decide (n<m)=true then _ else _;by_cases e:n<m;·rw[jo e];rw[ip e]at h;exact lQ h
 ·rw[iY e];rw[gU e]at h;exact kU h
def wc (T:Txt K mg):FO P w base 4 T.d37 Ie:=by
 refine T.d37.F.rd mr fun cdv A0 Y s H vs Q E p h=>?_;obtain⟨B,R,ma,W,g,d,f,k,rfl,h0,h1,C,hm,y,Z,lm,r,nms,G,q⟩:=h;refine HzX ?_;intro _;refine io _ ((gq (iC (gL vJ (cv 3) gu)
   (gw (gM (pF T.d32 (lO T) (p.mono (by lia)) (gk (cv 4) gn))))
   gQ)
  (gq (iC (gL vJ (cv 3) gu)
   (gw (gM (pF T.d33 (vj T) (p.mono (by lia)) (gk (cv 0) (gk (gY jD (cv 4) gu) gn)))))
   gQ)
  (gq (iC (gL jb (cv 3) gu)
   (gq (pS (i:=5) mr.nd (pF T.d29 (ll T) (p.mono (by lia)) (gk (gK (gk gE (gk (gK (gk (gB gC (cv 0) (gY jC gu (hV g9 rfl T.z_len jB (gk (cv 2) gn)))) gn)) (gk (gK gn) gn)))) (gk gu gn))))
   (gq (wz vx (wy (cv 5) gu qv))
   (gw (gM (cv 5)))))
   gQ)
  (gq (iC (gL vJ (cv 3) gu)
   (gq (pS (i:=6) mr.nd (pF T.d31 (my T) (p.mono (by lia)) (gk (cv 1) gn)))
   (gq (pS (i:=7) mr.nd (pF T.d34 (vk T) (p.mono (by lia)) (gk (cv 6) (gk (cv 4) gn))))
   (gw (gM (pF T.d30 (lA T) (p.mono (by lia)) (gk gE (gk (gK (gk (gB gC (cv 0) (cv 7)) gn)) (gk (gN (gk (cv 6) gn)) (gk (gN (gk (cv 7) gn)) gn)))))))))
   gQ)
  (gq (iC (gL vJ (cv 3) gu)
   (gw (gM (pF T.d35 (vm T) (p.mono (by lia)) (gk (cv 0) (gk (cv 1) (gk (gY jD (gY uL (cv 3) gu) gu) (gk (cv 4) gn)))))))
   gQ)
  (gw (gM (pF T.d36 (sq T) (p.mono (by lia)) (gk (cv 0) (gk (cv 1) (gk (gB gC (gN (gk gu (gk gu (gk gu (gk gu gn))))) (gY uL (cv 3) gu)) (gk (cv 4) gn))))))))))))) ?_;refine Hz5 ?_;intros;have sl:=IS;have X:∀{l:Hp} {x:V} {I:It},gT H l->ItA l x I->JI g d I->Q x l:=fun S i j=>q _ _ _ (FS.same S) (G.same S) i j;refine BY (i:=3) (n:=f) rfl ?_;by_cases c1:f<2;·rw[ip c1];exact⟨k,rfl,fun l x S i=>X S i (JI.num _)⟩
 rw[gU c1];dsimp only[hG];have nam:∀(t:St) (D:mZ),D.rt=Q->t[0]?=some (some (.ref B))->t[4]?=some (some (.int k))->GN (qJ Gh [] E0 (ki (cV 0) (ki (ER (cV 4) (tC (V.int 3))) rM))) D t H:=by intro t D eD s0 s4;show onV t[0]? _;rw[s0];show onV t[4]? _;rw[s4];refine eax (show ∃v:Nat,v<3/\k%3=(v:Int) from (io ((k%3).toNat) (by lia) (by lia))) fun v L ev=>?_;refine⟨(by show(0:Int)<3;decide),B,g,v,by show[V.ref B,V.int (k%3)]=_;rw[ev],C,y,L,fun l x S i=>?_⟩;rw[eD];exact X S i (JI.name L)
 have lm':(((d.map nI).length:Nat):Int)=(d.length:Int):=by rw[aC]
 refine BY (i:=3) (n:=f) rfl ?_;by_cases c2:f<8;·rw[ip c2];exact nam _ _ rfl rfl rfl
 rw[gU c2];dsimp only[hG];by_cases c5:f=8
 ·refine sO (i:=3) (n:=f) rfl c5 ?_;have q1:atI (g.map V.str) (3+(((d.map nI).length:Nat):Int))=some (.str (wdE g d.length)):=by rw[lm',show(3:Int)+(d.length:Int)=((3+d.length:Nat):Int) by lia];exact gv (vi y (by lia))
  refine iap ma _ (⟨rfl,.inl (J8 hm),_,C,gy q1 ⟨kJ,fun t1 A=>⟨mz,fun t2 O=>⟨uk,fun t3 M=>?_⟩⟩⟩⟩);have S3:=Au (c:= .tup [.str "name",.ref t1,.ref t2]) A O M;refine⟨_,1,.name (wdE g d.length),rfl,As A O M,fun l a cs N=>?_⟩;dsimp only[gX];have na:H a=none:=by
   cases z:H a with
   |none=>rfl
   |some u=>have:=N.na;rw[S3 _ _ z]at this;cases this
  refine iaq a _ 4 4 ⟨rfl,rfl,N.ea,rfl,?_⟩;refine X (I:=owI g d) (fun b o e=>by rw[gx (gD e na)];exact(S3.trans N.sm) _ _ e) (iae a _ cs rfl gm (by rw[gx N.ne.symm];exact N.ec) (N.im.mono (ky N.ea).tk)) JI.ow
 refine sQ (i:=3) (n:=f) rfl c5 ?_;dsimp only[hG];refine BY (i:=3) (n:=f) rfl ?_;by_cases c6:f<13;·rw[ip c6];refine⟨R,W,JS g d,rfl,G,JS.num 0,fun H1 x I F1 k1 i1 j1=>?_⟩;dsimp only[gX];have hw1:=F1 _ _ C r;refine⟨x,I,k,rfl,i1,fun v L=>?_⟩;dsimp only[gX];refine io _ hw1 (gy (gv (vi y (by lia))) ⟨kJ,fun t1 A=>⟨kJ,fun l2 O=>⟨kJ,fun l3 M=>?_⟩⟩⟩);have F:=gr A (.tup [.str (vr g v)]);have T2:=gr O (.lst [x]);have T3:=gr M (.lst [.int (v:Int)]);have U:=F.trans (T2.trans T3);refine sk (κ:= .fn (vr g v)) (its:=[I]) (ho:=[some v]) rfl ((T2.trans T3) _ _ gm) (.cons (.flat rfl) .nil) (T3 _ _ gm) (.cons (i1.same U) .nil) gm rfl rfl (by show 1<=1000;decide) fun l x' S' i'=>?_;have U':=U.trans S';exact q l x' _ (F1.trans (FS.same U')) (k1.same U') i' (JI.knit y Z lm rfl ⟨L,(io ("fn") gG rfl),trivial⟩ (fun J hJ=>by rw[bb.mp hJ];exact j1.1) (fun _ z=>nomatch z) (fun _=>rfl))
 rw[gU c6];dsimp only[hG];refine BY (i:=3) (n:=f) rfl ?_;by_cases c8:f<18;·rw[ip c8];refine⟨(by show(0:Int)<3;decide),?_⟩;exact⟨B,R,W,g,d,(f-13)%3,k,rfl,by lia,C,y,Z,lm,r,G,q⟩
 rw[gU c8];dsimp only[hG];obtain⟨m,em,hm3⟩:∃m:Int,atI [V.int 0,V.int 1,V.int 2,V.int 2] (f-18)=some (.int m)/\(m=0\/m=1\/m=2):=by
  have c9:f=18\/f=19\/f=20\/f=21:=by lia
  rcases c9 with rfl|rfl|rfl|rfl;·exact io 0 rfl (.inl rfl)
  ·exact io 1 rfl (.inr (.inl rfl))
  ·exact io 2 rfl (.inr (.inr rfl))
  ·exact io 2 rfl (.inr (.inr rfl))
 refine⟨ui,fun l1 A=>(io _ gm (gy em ?_))⟩;have F:=gr A (.lst [.int 0,.int 1,.int 2,.int 2]);exact⟨B,R,W,g,d,m,k,rfl,hm3,F _ _ C,y,Z,lm,r,G.same F,fun l x I F' k' i' j'=>q l x I ((FS.same F).trans F') k' i' j'⟩
open TM.Internal (Kn Tr iA szs)
inductive XEd (vs:List V) (H:Hp) (Q:VK):Prop
 |mk (wa:Zx) (wl:Zd) (made:List Nat) (x:V) (I:It) (k:Int) (e:vs=[.ref wa,x,.int k]) (hw:H wa=some (.lst (wl.map V.str))) (lw:wl.length=16) (nd:wl.Nodup) (lm:made.length<=12) (i:ItA H x I) (j:JI wl made I) (q:∀H' x' I',gT H H'->ItA H' x' I'->JI wl made I'->(∀k,k<3->I'.c k=0)->I'.w<=I.w+ 10->I'.t.nest<=I.t.nest+ 10->I'.t.sz<=I.t.sz+ 10->Q x' H')
def Ig:Sp:=fun vs H Q _=>XEd vs H Q
def CS:(knI κ [I] ho).w=1+I.w/\(knI κ [I] ho).t.nest=1+I.t.nest/\(knI κ [I] ho).t.sz=1+I.t.sz:=by
 refine⟨rfl,?_,?_⟩;·show(Tr.mk κ [I.t]).nest=_;simp[Tr.nest,TM.Internal.nests]
 ·show(Tr.mk κ [I.t]).sz=_;simp[Tr.sz,szs]
def Gk(h:J.t.nest<=1):(knI κ [I,J] ho).w=1+I.w+J.w/\(knI κ [I,J] ho).t.nest<=2+I.t.nest/\(knI κ [I,J] ho).t.sz=1+I.t.sz+J.t.sz:=by
 refine⟨by show 1+(I.w+(J.w+ 0))=_;lia,?_,?_⟩;·show(Tr.mk κ [I.t,J.t]).nest<=_;simp[Tr.nest,TM.Internal.nests];lia
 ·show(Tr.mk κ [I.t,J.t]).sz=_;simp[Tr.sz,szs];lia
def Ih:∀{v:Nat},v<3->∃m:Int,atI [V.int 1,V.int 2,V.int 4] (0+(v:Int))=some (.int m)/\0<m/\m<1073741824
 |0,_=>⟨1,rfl,by decide,by decide⟩
 |1,_=>⟨2,rfl,by decide,by decide⟩
 |2,_=>⟨4,rfl,by decide,by decide⟩
def uc (T:Txt K mg):FO P w base 3 T.d38 Ig:=by
 refine T.d38.F.rd jZ fun cdv A0 outer s H vs Q E hr h=>?_;obtain⟨wa,wl,made,x,I,k,rfl,hw,lw,nd,lm,i,j,q⟩:=h;refine HzX ?_;intro _;refine io _ ((gq (kj IW rfl (jE rfl T.z_range (gk gu gn)) (pN (i:=3) jZ.nd)
   (gw (iC (gL xX (gB gC (gB gC (cv 1) gu) (cv 3)) gu)
    (gq (pS (i:=1) jZ.nd (pF T.d30 (lA T) (hr.mono (by lia)) (gk gE (gk (gK (gk (gB gC (cv 0) (cv 3)) gn)) (gk (gN (gk (cv 1) gn)) (gk (gN (gk (cv 3) gn)) gn))))))
    (gw (iC (gL jb (gY jD (gY kN (cv 2) (gB gC (gN (gk gu (gk gu (gk gu gn)))) (cv 3))) gu) gu)
     (gw (pS (i:=1) jZ.nd (pF T.d30 (lA T) (hr.mono (by lia)) (gk gE (gk (gK gn) (gk (gN (gk (cv 1) (gk (pF T.d32 (lO T) (hr.mono (by lia)) (gk (cv 2) gn)) gn))) (gk (gN (gk (qE mB gu) (gk (qE mB gu) gn))) gn)))))))
     gQ)))
    gQ)))
  (gq (iC (oB (gB gC (cv 1) gu))
   (gw (pS (i:=1) jZ.nd (pF T.d30 (lA T) (hr.mono (by lia)) (gk gE (gk (gK (gk (gB gC (cv 0) gu) gn)) (gk (gN (gk (cv 1) gn)) (gk (gN (gk gu gn)) gn)))))))
   gQ)
  (gw (gM (cv 1)))))) ?_;refine Hz2 ?_;intros;have sl:=IS;refine iak 3 rfl (by decide) (by decide) ?_;refine kK (fun v σ H1=>∃(o3:Option V) (x':V) (I':It),σ=[some (.ref wa),some x',some (.int k),o3]/\gT H H1/\ItA H1 x' I'/\JI wl made I'/\(∀k,k<v->I'.c k=0)/\I'.w<=I.w+ 3*v/\I'.t.nest<=I.t.nest+ 3*v/\I'.t.sz<=I.t.sz+ 3*v) (iar none x I ⟨rfl,fun _ _ e=>e,i,j,fun k h=>absurd h (di _),by lia,by lia,by lia⟩) ?_ ?_
 ·refine fun v σ H1 hv=>faa fun o3 x' I'=>fak fun z0 S1 i1 j1 z1 w1 n1 s1=>?_;subst z0;have hv:v<3:=hv;dsimp only[gX];refine eav (id i1) fun a n cs z0 ea ec iN=>?_;subst z0;refine io _ ea (gy (gv (j:=3) rfl) (io _ ec (gy (at3 hv) ?_)));show if decide ((0:Int)<(I'.c v:Int))=true then _ else _;by_cases c0:0<I'.c v
  ·rw[jo (by lia)];refine lQ ?_;have q1:atI (wl.map V.str) (0+(v:Int))=some (.str (vr wl v)):=by rw[fW];exact gv (vi lw (by lia))
   refine io _ (S1 _ _ hw) (gy q1 ⟨kJ,fun t1 g1=>⟨kJ,fun l2 g2=>⟨kJ,fun l3 g3=>?_⟩⟩⟩);have T1:=gr g1 (.tup [.str (vr wl v)]);have T2:=gr g2 (.lst [.ref a]);have T3:=gr g3 (.lst [.int (0+(v:Int))]);have U:=T1.trans (T2.trans T3);refine sk (κ:= .fn (vr wl v)) (its:=[I']) (ho:=[some v]) rfl ((T2.trans T3) _ _ gm) (.cons (.flat rfl) .nil) (T3 _ _ gm) (.cons (i1.same U) .nil) gm (by rw[fW];rfl) rfl (by show 1<=1000;decide) fun H2 x2 S2 i2=>?_;dsimp only[gX];have j2:JI wl made (knI (.fn (vr wl v)) [I'] [some v]):=JI.knit lw nd lm rfl ⟨hv,(io ("fn") gG rfl),trivial⟩ (fun J hJ=>by rw[bb.mp hJ];exact j1) (fun _ z=>nomatch z) (fun _=>rfl);refine eao (CS (κ:= .fn (vr wl v)) (I:=I') (ho:=[some v])) fun y1 y2 y3=>?_;have z2:∀k,k<v+ 1->(knI (.fn (vr wl v)) [I'] [some v]).c k=0:=fun k hk=>by
    show(if some v=some k then 0 else I'.c k)+ 0=0;by_cases e:v=k;·rw[ip (by rw[e])]
    ·rw[gU (fun h=>e (dj.inj h)),z1 k (by lia)]
   have S12:=S1.trans (U.trans S2);refine eah (Ih hv) fun m em hm0 hm1=>?_;refine⟨uk,fun l4 g4=>(io _ gm (gy em ⟨⟨hm0,hm1⟩,(by show(0:Int)<2;decide),?_⟩))⟩;have T4:=gr g4 (.lst [.int 1,.int 2,.int 4]);show if(false ^^ decide (k/m%2=1))=true then _ else _;by_cases c1:k/m%2=1
   ·rw[jo c1];refine lQ ?_;refine⟨mz,fun t5 g5=>?_⟩;have T5:=gr g5 (.tup []);refine⟨k,rfl,fun H6 x6 S6 i6=>?_⟩;refine⟨kB,fun l7 g7=>⟨1,rfl,1,rfl,kB,fun l8 g8=>?_⟩⟩;have T7:=gr g7 (.lst [x2,x6]);have T8:=gr g8 (.lst [.int (-1),.int (-1)]);have U7:=T7.trans T8;have U2:=T4.trans (T5.trans (S6.trans U7));refine sk (κ:= .op "call" 2) (its:=[_,_]) (ho:=[none,none]) rfl ((S6.trans U7) _ _ gm) .nil (T8 _ _ gm) (.cons (i2.same U2) (.cons (i6.same U7) .nil)) gm rfl rfl (by show 2<=1000;decide) fun H9 x9 S9 i9=>?_;dsimp only[gX];refine eao (Gk (κ:= .op "call" 2) (I:=knI (.fn (vr wl v)) [I'] [some v]) (J:=nuI (k%10^60)) (ho:=[none,none]) (by simp[nuI,Tr.nest,TM.Internal.nests])) fun r1 r2 r3=>?_;have r4:(nuI (k%10^60)).w=1:=rfl;have r5:(nuI (k%10^60)).t.sz=1:=by simp[nuI,Tr.sz,szs]
    refine iar _ x9 _ (⟨rfl,S12.trans (U2.trans S9),i9,JI.knit lw nd lm rfl ⟨rfl,rfl,trivial⟩ (fun J hJ=>?_) (fun _ z=>nomatch z) (fun _=>⟨rfl,by simp[TM.Internal.ops]⟩),fun k hk=>?_,by lia,by lia,by lia⟩)
    ·simp only[aj,bo,or_false]at hJ;rcases hJ with rfl|rfl;·exact j2
     ·exact JI.num _
    ·show(if(none:Option Nat)=some k then 0 else(knI (.fn (vr wl v)) [I'] [some v]).c k)+((if(none:Option Nat)=some k then 0 else 0)+ 0)=0;rw[gU (fun z=>nomatch z),gU (fun z=>nomatch z),z2 k hk]
   ·rw[iY c1];exact kU (iar _ x2 _ ⟨rfl,S12.trans T4,i2.same T4,j2,z2,by lia,by lia,by lia⟩)
  ·rw[iY (by lia)];refine kU (iar _ _ I' ⟨rfl,S1,i1,j1,fun k hk=>?_,by lia,by lia,by lia⟩);by_cases e:k=v;·rw[e];lia
   ·exact z1 k (by lia)
 ·refine fun σ H1=>faa fun o3 x' I'=>fak fun z0 S1 i1 j1 z1 w1 n1 s1=>?_;subst z0;dsimp only;refine eav (id i1) fun a n cs z0 ea ec iN=>?_;subst z0;refine io _ ea (gy (gv (j:=4) rfl) (io I'.own rfl ?_))
  cases eo:I'.own with
  |false=>exact kU (q _ _ I' S1 i1 j1 z1 (by lia) (by lia) (by lia))
  |true=>
   refine lQ ?_;refine io _ (S1 _ _ hw) (gy (show atI (wl.map V.str) ((0:Nat):Int)=some (.str (vr wl 0))from gv (vi lw (by decide))) ⟨kJ,fun t1 g1=>⟨kJ,fun l2 g2=>⟨kJ,fun l3 g3=>?_⟩⟩⟩);have T1:=gr g1 (.tup [.str (vr wl 0)]);have T2:=gr g2 (.lst [.ref a]);have T3:=gr g3 (.lst [.int 0]);have U:=T1.trans (T2.trans T3);refine sk (κ:= .fn (vr wl 0)) (its:=[I']) (ho:=[some 0]) rfl ((T2.trans T3) _ _ gm) (.cons (.flat rfl) .nil) (T3 _ _ gm) (.cons (i1.same U) .nil) gm rfl rfl (by show 1<=1000;decide) fun H2 x2 S2 i2=>?_;refine eao (CS (κ:= .fn (vr wl 0)) (I:=I') (ho:=[some 0])) fun y1 y2 y3=>?_;refine q _ _ _ (S1.trans (U.trans S2)) i2 (JI.knit lw nd lm rfl ⟨by decide,(io ("fn") gG rfl),trivial⟩ (fun J hJ=>by rw[bb.mp hJ];exact j1) (fun _ z=>nomatch z) (fun _=>rfl)) (fun k hk=>?_) (by lia) (by lia) (by lia);show(if some 0=some k then 0 else I'.c k)+ 0=0;split;·rfl
   ·rw[z1 k hk]
open TM.Internal (Kn Tr iA szs)
structure JD (wl:Zd) (md:List Nat) (t:Tr) (m:Nat):Prop where
 o:∀N:Str->Prop,N (wdE wl md.length)->okT t N
 n:t.nest<=30
 z:t.sz<=150
def JDs (a:Zd) (ts:List Tr) (made:List Nat):Prop:=ts.length=made.length/\∀(d:Nat) t,ts[d]?=some t->JD a (made.take d) t (made.getD d 0)
def JD.of {made:List Nat} {I:It} (j:JI wl made I) (z:∀k,k<3->I.c k=0) (d:I.w<=50) (c:I.t.nest<=30) (b:I.t.sz<=150):JD wl made I.t I.w:=
 ⟨fun N h=>j.o N (fun _=>h) (fun k a u=>by rw[z k a]at u;lia),c,b⟩
def JDs.snoc {ts:List Tr} {made:List Nat} {t:Tr} {w:Nat} (h:JDs wl ts made) (j:JD wl made t w):JDs wl (ts++[t]) (made++[w]):=by
 refine⟨by rw[aO,aO,h.1];rfl,fun d u a=>?_⟩;by_cases e:d<ts.length;·rw[aK e]at a;have:=h.2 d u a;rw[List.take_append_of_le_length (by rw[<-h.1];lia),bq,aK (by rw[<-h.1];exact e),<-bq];exact this
 ·rw[aJ (by lia)]at a;have c:d-ts.length=0:=by have:=(aq.mp a).1;simpa using this
  rw[c]at a;cases a;have f:d=made.length:=by rw[<-h.1];lia
  subst f;rw[List.take_left',bq,aJ (cN _),cY];·exact j
  ·rfl
theorem Ax {made:List Nat}:∀{us:List Tr} {d:Nat} {sc:Sc},d+us.length=made.length->(∀(k:Nat) t,us[k]?=some t->JD wl (made.take (d+k)) t (made.getD (d+k) 0))->GV (wdE wl) us d sc
 |[],_,_,_,_=>trivial
 |t::us,d,sc,hm,h=>by
  have j:JD wl (made.take d) t (made.getD d 0):=h 0 t rfl;have a:(made.take d).length=d:=by rw[aI];simp only[az]at hm;lia
  refine⟨j.o _ (by rw[a];unfold Nm;rw[oX,ip (show(dfE (wdE wl) d 0).w=wdE wl d from rfl)];exact⟨_,rfl⟩),Ax (made:=made) (us:=us) (d:=d+ 1) (by simp only[az]at hm;lia) fun k t b=>?_⟩;have:=h (k+ 1) t b;rw[show d+ 1+k=d+(k+ 1) by lia];exact this
theorem CT:∀{us:List Tr} {d p j r:Nat} {sc:Sc} {l1:List Pc},G=l1++pcD wd us d p sc->l1.length=p->(iA us p)[j]?=some r->∃t sc',us[j]?=some t/\Pl G t r (sc'++[dfE wd (d+j) 0]) (d+j)
 |[],_,_,_,_,_,_,_,_,h=>by cases h
 |t::us,d,p,0,r,sc,l1,e,hl,h=>by cases h;exact iap t sc ⟨rfl,Ek t (l2:=pcD wd us (d+ 1) (p+t.sz) (sc++[dfE wd d (wT t (val (sc++[dfE wd d 0])))])) (by rw[e];rfl) hl⟩
 |t::us,d,p,j+ 1,r,sc,l1,e,hl,h=>by rw[pcD,<-bG]at e;refine ead (CT (j:=j) (d:=d+ 1) e (by rw[aO,hl,kT]) h) fun u sc' e1 e2=>?_;exact iap u sc' ⟨e1,by rw[show d+(j+ 1)=d+ 1+j by lia];exact e2⟩
theorem Ay:∀{ts:List Tr},(∀t∈ts,t.sz<=150)->szs ts<=150*ts.length
 |[],_=>cN _
 |t::ts,h=>by have c:=h t (by simp);have b:=Ay (ts:=ts) fun u a=>h u (by simp[a]);rw[szs,az];lia
inductive XDf (vs:List V) (H:Hp) (Q:VK):Prop
 |mk (wa cl:Zx) (wl:Zd) (cells:List Int) (e:vs=[.ref wa,.ref cl]) (hw:H wa=some (.lst (wl.map V.str))) (lw:wl.length=16) (nd:wl.Nodup) (hc:H cl=some (.lst (cells.map V.int))) (lc:cells.length<=63) (q:∀H' l xs ts made,gT H H'->H' l=some (.lst xs)->Ims H' xs (ts.map ndD)->ts≠[]->ts.length<=12->JDs wl ts made->Q (.ref l) H')
def Ii:Sp:=fun a H Q _=>XDf a H Q
theorem xB {a:Type}:∀{l:List a} {i:Nat} {v:a},l[i]?=some v->l.set i v=l
 |[],_,_,h=>by cases h
 |x::l,0,v,h=>by cases h;rfl
 |x::l,i+ 1,v,h=>by rw[List.set_cons_succ,xB (l:=l) (i:=i) h]
def Stk.le {n m:Nat} {J:It->Prop} (h:Stk H st n J) (l:n<=m):Stk H st m J:=by refine eah h fun a e z b=>?_;exact⟨a,e,by lia,b⟩
def Stk.push {n:Nat} {J:It->Prop} {x:V} {I:It} (h:Stk H st n J) (e:H st=some (.lst xs)) (i:ItA H x I) (j:J I):Stk (Zk H st (.lst (xs++[x]))) st (n+ 1) J:=by
 have F:FS st H (Zk H st (.lst (xs++[x]))):=fun a o e n=>by rw[gx n];exact e
 refine eaE (id h) fun g c z d=>?_;rw[e]at c;cases c;refine⟨_,gm,by rw[aO,aX];lia,fun y hy=>?_⟩;rcases ak.mp hy with hy|hy;·refine eax (d y hy) fun f a b=>?_;exact⟨f,a.fs h F,b⟩
 ·rw[bb.mp hy];exact⟨I,i.fs h F,j⟩
def EB{ts:List Tr} (h:Ims H ns (ts.map ndD)) (f:x∈ns):∃p,x= .ref p:=by obtain⟨i,g⟩:=bC.mp f;refine eae (kx h g) fun d b c=>?_;rw[aM]at b;obtain⟨⟨j,k⟩,_,rfl⟩:=dA.mp b;refine eaG (vd c) fun a _ _ _ _=>f8 fun e _=>?_;exact⟨a,e⟩
def EC{g:Nat} (i:ItA H (.ref a) I) (j:JI wl made I) (d:σ[8]?=some (some (.ref a))) (o:σ[7]?=some (some (.int k))) (p:σ[5]?=some (some (.int (g:Int)))) (h:∀c l m,gT H c->ItA c l m->JS wl made m->R D (σ.set 8 (some l)) c):
  B3 (sv (tOr (cT (tOp (cI0 fun i j=>V.bl (decide (j<i))) (tOp Bg (cV 8) (tC (V.int 1))) (tC (V.int 16)))) (tOr (cT (tOp (cI0 fun i j=>V.bl (decide (j<i))) (tOp Bg (cV 8) (tC (V.int 2))) (tC (V.int 40)))) (cT (tOp (cI0 fun i j=>V.bl (decide (j<i))) (tOp (cI0 fun i j=>V.int (i+j)) (tOp Bg (cV 8) (tC (V.int 5))) (cV 5)) (tC (V.int 140)))))) (AU (qJ Ey [] E0 (ki (cV 7) rM)) (gX 8)) hG) R D σ H:=by
 refine eav (id i) fun u n t q f s r=>?_;cases q;have b:(AU (qJ Ey [] E0 (ki (cV 7) rM)) (gX 8)) {D with nx:=R D} σ H:=by show onV σ[7]? _;rw[o];exact⟨k,rfl,fun c x S i=>h c x _ S i (JS.num _)⟩
 show onV σ[8]? _;rw[d];refine⟨_,f,gy (gv (j:=1) rfl) ?_⟩;show if decide ((16:Int)<(I.t.nest:Int))=true then _ else _;by_cases c1:(16:Int)<(I.t.nest:Int);·rw[jo c1];exact lQ (lQ b)
 rw[iY c1];refine kU ?_;show onV σ[8]? _;rw[d];refine⟨_,f,gy (gv (j:=2) rfl) ?_⟩;show if decide ((40:Int)<(I.w:Int))=true then _ else _;by_cases c2:(40:Int)<(I.w:Int);·rw[jo c2];exact lQ (lQ b)
 rw[iY c2];refine kU ?_;show onV σ[8]? _;rw[d];refine⟨_,f,gy (gv (j:=5) rfl) ?_⟩;show onV σ[5]? _;rw[p];show if decide ((140:Int)<(I.t.sz:Int)+(g:Int))=true then _ else _;by_cases c3:(140:Int)<(I.t.sz:Int)+(g:Int);·rw[jo c3];exact lQ b
 rw[iY c3];refine kU ?_;have:=h H (.ref a) I (fun _ _ e=>e) i ⟨j,by lia,by lia,by lia⟩;rw[xB d]at this;exact this
def Stk.new {J:It->Prop} (h:H st=some (.lst [])):Stk H st sn J:=⟨[],h,cO _,fun _ m=>by cases m⟩
def rK (T:Txt K mg):FO P w base 5 T.d39 Ii:=by
 refine T.d39.F.rd ij fun cdv A0 outer s H vs Q E hr h=>?_;obtain⟨wa,cl,wl,cells,rfl,hw,lw,nd,hc,lc,q⟩:=h;refine HzX ?_;intro _;refine io _ ((gq (pS (i:=2) ij.nd (gN gn))
  (gq (pS (i:=3) ij.nd (gN gn))
  (gq (pS (i:=4) ij.nd (gN gn))
  (gq (pS (i:=5) ij.nd gu)
  (gq (kj IW rfl (lR (cv 1)) (pN (i:=6) ij.nd)
   (gq (pS (i:=7) ij.nd (gY jD (cv 6) (gY zj gu gu)))
   (gw (iC (gL vJ (gY jD (cv 7) gu) gu)
    (gq (pS (i:=8) ij.nd (pF T.d37 (wc T) (hr.mono (by lia)) (gk (cv 0) (gk (cv 2) (gk (cv 3) (gk (gY jD (cv 7) gu) (gk (gY kN (cv 7) gu) gn)))))))
    (gq (iC (PW.pt (yC (gL xX (gB gC (cv 8) gu) gu) (yC (gL xX (gB gC (cv 8) gu) gu) (wq (gL xX (gY jC (gB gC (cv 8) gu) (cv 5)) gu)))))
     (gw (pS (i:=8) ij.nd (pF T.d32 (lO T) (hr.mono (by lia)) (gk (cv 7) gn))))
     gQ)
    (gw (gS (jT (lB ff fg fh iu (J7 (cv 2)) (gk (J7 (cv 8)) gn)))))))
    (gw (iC (PW.pt (su (gL xX (hV g9 rfl T.z_len jB (gk (cv 2) gn)) gu) (su (gL vJ (hV g9 rfl T.z_len jB (gk (cv 4) gn)) gu) (qD (gL Hu (cv 5) gu)))))
     (gq (pS (i:=9) ij.nd (pF T.d38 (uc T) (hr.mono (by lia)) (gk (cv 0) (gk (Ce ff fj fm Cf (cv 2)) (gk (gY kN (cv 7) gu) gn)))))
     (gq (gS (jT (lB ff fg fh iu (J7 (cv 4)) (gk (J7 (gB gC (cv 9) gu)) gn))))
     (gq (gS (jT (lB ff fg fh iu (J7 (cv 3)) (gk (J7 (gB gC (cv 9) gu)) gn))))
     (gq (pS (i:=5) ij.nd (gY jC (cv 5) (gB gC (cv 9) gu)))
     (gw (pS (i:=2) ij.nd (gN gn)))))))
     gQ))))))
  (gw (gM (gY p9 (cv 4) (gN (gk (gB gC (pF T.d38 (uc T) (hr.mono (by lia)) (gk (cv 0) (gk (pF T.d31 (my T) (hr.mono (by lia)) (gk (cv 2) gn)) (gk (hV g9 rfl T.z_len jB (gk (cv 1) gn)) gn)))) gu) gn))))))))))) ?_;refine Hz5 ?_;intros;have sl:=IS;refine⟨mz,fun g hst=>?_⟩;dsimp only[gX];refine⟨mz,fun r hma=>?_⟩;dsimp only[gX];refine⟨mz,fun m N=>?_⟩;dsimp only[gX];have S1:=gr hst (.lst []);have S2:=gr hma (.lst []);have L:=gr N (.lst []);have S0:=S1.trans (S2.trans L);have nn:∀{H2:Hp} {a:Zx},gT H H2->H2 a=none->H a=none:=fun{H2 a} S h=>by cases z:H a with|none=>rfl|some u=>rw[S _ _ z]at h;cases h
 have nma:=nn S1 hma;have nno:=nn (S1.trans S2) N;have d1:r≠g:=fun z=>by rw[z,gm]at hma;cases hma
 have d2:m≠g:=fun z=>by rw[z,S2 _ _ (show(Zk H g (.lst [])) g=_ from gm)]at N;cases N
 have d3:m≠r:=fun z=>by rw[z,gm]at N;cases N
 refine iad cl rfl ⟨_,J8 (S0 _ _ hc)⟩ (qr (xs:=cells.map V.int) (fun i σ C=>∃(o6 o7 o8 o9:Option V) (g:Zx) (dn:Nat) (l:List V) (U:List Tr) (f:List Nat),σ=[some (.ref wa),some (.ref cl),some (.ref g),some (.ref r),some (.ref m),some (.int (dn:Int)),o6,o7,o8,o9]/\gT H C/\H g=none/\r≠g/\m≠g/\Stk C g i (JS wl f)/\C r=some (.lst (f.map nI))/\C m=some (.lst l)/\Ims C l (U.map ndD)/\U.length<=11/\JDs wl U f) ?_ ?_ ?_ ?_);·exact ias none none none none g 0 ([]) ([]) ([]) ⟨rfl,S0,hst,d1,d2,Stk.new (L _ _ (S2 _ _ gm)),L _ _ gm,gm,.nil,by decide,rfl,fun d t h=>by cases h⟩
 ·refine fun i σ C _=>fat fun o6 o7 o8 o9 g dn l U f=>fab fun _ S _=>?_;exact J8 (S _ _ hc)
 ·refine fun i v σ C hv=>fat fun o6 o7 o8 o9 g dn l U f=>fau fun R S A m1 m2 ks ema O B X jd=>?_;subst R;rw[aM]at hv;refine eae (dA.mp hv) fun c hc' R=>?_;subst R;have li:i<cells.length:=(aq.mp hc').1;have lm:f.length<=11:=by rw[<-jd.1];exact X
  have nws:wa≠g:=gD hw A;have hw1:=S _ _ hw;dsimp only[gX];refine⟨⟨by decide,by decide,by decide⟩,(by show(0:Int)<10^(64:Int).toNat;decide+kernel),?_⟩;dsimp only[gX];generalize c%10^(64:Int).toNat=k;refine⟨(by show(0:Int)<24;decide),?_⟩;show if decide (k%24<22)=true then _ else _;by_cases c1:k%24<22
  ·rw[jo c1];refine lQ ?_;refine⟨(by show(0:Int)<24;decide),⟨by decide,by decide⟩,?_⟩;refine⟨wa,g,r,i,wl,f,k%24,k/24,rfl,by lia,c1,hw1,ema,lw,nd,by lia,nws,m1,ks,fun H2 x I F2 k2 i2 j2=>?_⟩;dsimp only[gX];refine eav (id i2) fun a n cs R ea ec iN=>?_;subst R;refine EC i2 j2 rfl rfl rfl fun G x3 y L i3 j3=>?_;have k3:=k2.same L;refine eah (id k3) fun M es ls al=>?_;refine ian ⟨_,es⟩ M es (by lia) ?_;have F4:FS g G (Zk G g (.lst (M++[x3]))):=fun a o e n=>by rw[gx n];exact e
   have F14:FS g C (Zk G g (.lst (M++[x3]))):=F2.trans ((FS.same L).trans F4);refine ias _ _ _ _ g dn l U f ⟨rfl,fun a o e=>F14 _ _ (S _ _ e) (gD e A),A,m1,m2,k3.push es i3 j3,F14 _ _ ema m1,F14 _ _ O m2,B.mono (ks.tk F14),X,jd⟩
  ·rw[iY c1];refine kU ?_;refine eah (id ks) fun M es ls al=>?_;have Y:∃(o6' o7' o8' o9':Option V) (W:Zx) (dn':Nat) (ns':List V) (ts':List Tr) (D:List Nat),[some (V.ref wa),some (V.ref cl),some (V.ref g),some (V.ref r),some (V.ref m),some (V.int (dn:Int)),some (V.int c),some (V.int k),o8,o9]=[some (V.ref wa),some (V.ref cl),some (V.ref W),some (V.ref r),some (V.ref m),some (V.int (dn':Int)),o6',o7',o8',o9']/\gT H C/\H W=none/\r≠W/\m≠W/\Stk C W (i+ 1) (JS wl D)/\C r=some (.lst (D.map nI))/\C m=some (.lst ns')/\Ims C ns' (ts'.map ndD)/\ts'.length<=11/\JDs wl ts' D:=(ias _ _ _ _ g dn l U f ⟨rfl,S,A,m1,m2,ks.le (by lia),ema,O,B,X,jd⟩);refine iab g _ rfl (.inl (J8 es)) ?_;show if decide ((0:Int)<(M.length:Int))=true then _ else _;by_cases c2:0<M.length
   ·rw[jo (by lia)];refine lQ (iab m _ rfl (.inl (J8 O)) ?_);have lns:=B.length;rw[aC]at lns;show if decide ((l.length:Int)<11)=true then _ else _;by_cases c3:l.length<11
    ·rw[jo (by lia)];refine lQ ?_;show if decide ((dn:Int)<=100)=true then _ else _;by_cases c4:dn<=100
     ·rw[jo (by lia)];refine lQ ?_;have hy:M[M.length-1]?=some (M[M.length-1]'(by lia)):=bf (by lia);refine eae (al _ (aN hy)) fun I hI' hJ=>?_;refine⟨.inl (iam rfl _ (J8 es)),g,M,_,rfl,rfl,es,hy,?_⟩;have F:FS g C (Zk C g (.lst M.dropLast)):=fun a o e n=>by rw[gx n];exact e
      have tkF:=ks.tk F;have hw2:=F _ _ hw1 nws;have ema2:=F _ _ ema m1;have eno2:=F _ _ O m2;have SH:gT H (Zk C g (.lst M.dropLast)):=fun a o e=>F _ _ (S _ _ e) (gD e A);have iI:=hI'.fs ks F;refine⟨⟨by decide,by decide⟩,wa,wl,f,_,I,k/24,rfl,hw2,lw,nd,by lia,iI,hJ.1,fun G x3 y L i3 j3 z3 w3 n3 s3=>?_⟩;dsimp only[gX];refine eav (id i3) fun a n cs R ea ec iN=>?_;subst R;have J:=L _ _ eno2;refine iag ⟨_,J⟩ _ ea (gy (gv (j:=0) rfl) (iad _ J (by lia) ?_));have na:a≠m:=fun z=>by rw[z,J]at ea;cases dj.inj ea;obtain⟨p,e⟩:=EB B (show V.int (y.t.nest:Int)∈itV n y cs by simp[itV]);cases e
      have ema3:=L _ _ ema2;have nb:a≠r:=fun z=>by
       rw[z,ema3]at ea;have e:=dj.inj ea;injection e with e;have hm:V.ref cs∈f.map nI:=by rw[e];simp[itV]
       refine eae (bg.mp hm) fun u _ hu=>?_;cases hu
      have ea4:(Zk G m (.lst (l++[n]))) a=some (.lst (itV n y cs)):=by rw[gx na];exact ea
      have ema4:(Zk G m (.lst (l++[n]))) r=some (.lst (f.map nI)):=by rw[gx d3.symm];exact ema3
      refine iag ⟨_,ema4⟩ _ ea4 (gy (gv (j:=2) rfl) (iad _ ema4 (by rw[aC];lia) ?_));have ea5:(Zk (Zk G m (.lst (l++[n]))) r (.lst (f.map nI++[.int (y.w:Int)]))) a=some (.lst (itV n y cs)):=by rw[gx nb];exact ea4
      have ema5:(Zk (Zk G m (.lst (l++[n]))) r (.lst (f.map nI++[.int (y.w:Int)]))) r=some (.lst ((f++[y.w]).map nI)):=by rw[gm,bB];rfl
      have Z:(Zk (Zk G m (.lst (l++[n]))) r (.lst (f.map nI++[.int (y.w:Int)]))) m=some (.lst (l++[n])):=by rw[gx d3];exact gm
      have k35:TK G (Zk (Zk G m (.lst (l++[n]))) r (.lst (f.map nI++[.int (y.w:Int)]))):=fun b ws e=>(ky ema4).tk _ _ ((ky J).tk _ _ e);have S5:gT H (Zk (Zk G m (.lst (l++[n]))) r (.lst (f.map nI++[.int (y.w:Int)]))):=fun b o e=>by rw[gx (gD e nma),gx (gD e nno)];exact L _ _ (SH _ _ e)
      show B3 _ _ _ _ (Zk (Zk G m (.lst (l++[n]))) r (.lst (f.map nI++[.int (y.w:Int)])));generalize(Zk (Zk G m (.lst (l++[n]))) r (.lst (f.map nI++[.int (y.w:Int)])))=H5 at ea5 ema5 Z k35 S5;refine io _ ea5 (gy (gv (j:=5) rfl) ?_);dsimp only[gX];refine⟨mz,fun st6 h6=>?_⟩;dsimp only[gX];have S6:=gr h6 (.lst []);have n6:∀{b:Zx} {o:HO},H5 b=some o->b≠st6:=fun e z=>by rw[<-z,e]at h6;cases h6
      refine ias _ _ _ _ st6 (dn+y.t.sz) (l++[n]) (U++[y.t]) (f++[y.w]) ⟨rfl,S5.trans S6,nn S5 h6,n6 ema5,n6 Z,Stk.new gm,S6 _ _ ema5,S6 _ _ Z,?_,by rw[aO,<-lns];show l.length+ 1<=11;lia,jd.snoc (JD.of j3 z3 (by have:=hJ.2.1;lia) (by have:=hJ.2.2.1;lia) (by have:=hJ.2.2.2;lia))⟩;rw[bB];exact((((B.mono tkF).mono (gT.tk L)).app (.cons iN .nil)).mono k35).mono (gT.tk S6)
     ·rw[iY (by lia)];exact kU Y
    ·rw[iY (by lia)];exact kU (kU Y)
   ·rw[iY (by lia)];exact kU (kU Y)
 ·refine fun σ C=>fat fun o6 o7 o8 o9 g dn l U f=>fau fun R S A m1 m2 ks ema O B X jd=>?_;subst R;dsimp only;have nws:wa≠g:=gD hw A;have lm:f.length<=11:=by rw[<-jd.1];exact X
  refine⟨g,_,JS wl f,rfl,ks,JS.num 0,fun H2 x2 I2 F2 k2 i2 j2=>?_⟩;have S2':gT H H2:=fun a o e=>F2 _ _ (S _ _ e) (gD e A);refine iab cl _ rfl (.inl (J8 (S2' _ _ hc))) ?_;refine⟨wa,wl,f,x2,I2,_,rfl,S2' _ _ hw,lw,nd,by lia,i2,j2.1,fun G x3 y L i3 j3 z3 w3 n3 s3=>?_⟩;refine eav (id i3) fun a n cs R ea ec iN=>?_;subst R;refine io _ ea (gy (gv (j:=0) rfl) ⟨kJ,fun l4 h4=>?_⟩);have S4:=gr h4 (.lst [n]);have eno4:=S4 _ _ (L _ _ (F2 _ _ O m2));have lns:=B.length;rw[aC]at lns;refine iaj m l4 l ([n]) rfl rfl eno4 gm (by show l.length+ 1<=_;lia) (fun l5 h5=>?_);have S5:=gr h5 (.lst (l++[n]));have S35:=L.trans (S4.trans S5);refine q _ l5 (l++[n]) (U++[y.t]) (f++[y.w]) (S2'.trans S35) gm ?_ (by simp) (by rw[aO];show U.length+ 1<=12;lia) (jd.snoc (JD.of j3 z3 (by have:=j2.2.1;lia) (by have:=j2.2.2.1;lia) (by have:=j2.2.2.2;lia)));rw[bB];exact(((B.mono (ks.tk F2)).mono (gT.tk S35))).app (.cons (iN.mono (gT.tk (S4.trans S5))) .nil)
open TM.Internal (Kn Tr iA szs)
theorem qB:∀{a:List (Str×V)} (b:Zd),a.map JY=b->f∉b->kh f v a=a++[(f,v)]
 |[],_,_,_=>rfl
 |p::t,_,rfl,h=>by rw[aB,aj,not_or]at h;have:¬p.1=f:=fun z=>h.1 z.symm;simp only[kh,gU this,aS];rw[qB _ rfl h.2]
def oz (C:Zx):Sp:=fun b H Q _=>∃(x a n r w:Zx),b=[.ref x,.ref n,.ref r,.ref w]/\H x=some (.ins C a [])/\Q .non (Zk H x (.ins C a (fP n r w)))
def oA (T:Txt K mg):MO P w base mg 1 T.e71 (oz T.c10.a):=by
 refine T.e71.F.rd oj fun _ A _ s H d Q E e h=>?_;refine eaG h fun x a n r w=>fab fun b c q=>?_;subst b;refine HzX ?_;intro _;refine io _ ((gq (lV T.c10.cl T.n10names (i8 (J7 (cv 0)) (J7 (cv 1)) rfl))
  (gq (lV T.c10.cl T.n10roots (i8 (J7 (cv 0)) (J7 (cv 2)) rfl))
  (gw (lV T.c10.cl T.n10rows (i8 (J7 (cv 0)) (J7 (cv 3)) rfl)))))) ?_;refine Hz2 ?_;intros;refine iap a _ ⟨c,(by show 0<1000;decide),a,_,gm,(by show 1<1000;decide),a,_,gm,?_,?_⟩;·rw[qB (f:=("roots":Str)) ["names"] rfl gG];show 2<1000;decide
 ·rw[iJ,iJ,qB (f:=("roots":Str)) ["names"] rfl gG,qB (f:=("rows":Str)) ["names","roots"] rfl gG];exact q
def Gm(b:okK κ n N) (e:a.length=n):(roK κ a).few:=by
 cases κ with
 |rcd l=>obtain⟨d,c⟩:n=l.length/\l.length<=10:=b;show(bj _ (l.zip a)).length<=10;rw[aC,ck];lia
 |case l=>
  cases a with
  |nil=>trivial
  |cons p a=>obtain⟨d,c⟩:n=l.length+ 1/\l.length<=10:=b;show(bj _ (l.zip a)).length<=10;rw[aC,ck];lia
 |row m=>obtain⟨d,c⟩:n=m/\m<=100:=b;show(bj _ a).length<=1000;rw[aC];lia
 |lt w=>
  cases a with
  |nil=>trivial
  |cons p a=>cases a<;>trivial
 |num=>trivial
 |name=>trivial
 |op=>trivial
 |_=>cases a<;>trivial
section
variable {G:List Pc} {roots:List Nat} {q:Nat}
theorem FtD.few (F:FtD G roots 0 0 q) (hq:q=G.length) (k:Nat) (ρ:Ro) (h:(G.map Pc.ρ)[k]?=some ρ):ρ.few:=by rw[aM]at h;refine eae (dA.mp h) fun c hc z0=>?_;subst z0;obtain⟨f,_⟩:=F.at hq hc;obtain⟨⟨κ,ks⟩,pl,_,_,ok⟩:=f.t;have p1:=pl.1;rw[hc]at p1;rw[dj.inj p1];exact Gm ok.1 (TM.Internal.offs_len _ _)
def FtD.dom (F:FtD G roots 0 0 q) (hq:q=G.length) (k:Nat) (h:Hm) (e:hoG G k=some h) (hd:h.1="def"):∃d:Nat,h.2=(d:Int)/\d<roots.length:=by
 refine eaD (F.en hq e) fun c x=>fam fun gc hx z0 s l y0 _=>?_;subst z0;refine eax y0 fun r hr _=>?_;rcases s with⟨z,_⟩|⟨_,j,ej,lj,_⟩|⟨z,_⟩;·exact absurd hd (ltn z).1
 ·exact⟨j,ej,by have:=(aq.mp hr).1;lia⟩
 ·rcases z with z|z;·exact absurd z (dfn hd).2.1
  ·exact absurd z (dfn hd).2.2
end
def ED(d:okK κ n N) (j:c.length=n):kW (roK κ c).d<=3/\okD (roK κ c).d:=by
 have g:∀l:List Int,iF (l.map kD)<=0/\wJ (l.map kD):=fun l=>⟨ja fun _ _=>cN _,jn fun _ _=>trivial⟩
 cases κ with
 |rcd l=>
  obtain⟨f,e⟩:n=l.length/\l.length<=10:=d;have a:iF (((l.zip c).map fun q=>(q.1,(q.2:Int))).map fdD)<=1:=ja fun _ _=>by simp[fdD,sD,kD,kW,iF]
  have b:wJ (((l.zip c).map fun q=>(q.1,(q.2:Int))).map fdD):=jn fun _ _=>⟨by show 2<=100000;decide,trivial,trivial,trivial⟩;refine⟨?_,by show 2<=100000;decide,trivial,⟨by rw[aC,aC,ck];lia,b⟩,trivial⟩;show max 0 (max (iF (((l.zip c).map fun q=>(q.1,(q.2:Int))).map fdD)+ 1) 0)+ 1<=3;lia
 |case l=>
  cases c with
  |nil=>exact⟨by simp[roK,Ro.d,Ro.s,Ro.r,sD,kD,kW,iF],by show 2<=100000;decide,trivial,trivial,trivial⟩
  |cons p c=>
   obtain⟨f,e⟩:n=l.length+ 1/\l.length<=10:=d;have a:iF (((l.zip c).map fun q=>(q.1.1,q.1.2,(q.2:Int))).map amD)<=1:=ja fun _ _=>by simp[amD,sD,kD,kW,iF]
   have b:wJ (((l.zip c).map fun q=>(q.1.1,q.1.2,(q.2:Int))).map amD):=jn fun _ _=>⟨by show 3<=100000;decide,trivial,trivial,trivial,trivial⟩;refine⟨?_,by show 3<=100000;decide,trivial,trivial,⟨by rw[aC,aC,ck];lia,b⟩,trivial⟩;show max 0 (max 0 (max (iF (((l.zip c).map fun q=>(q.1.1,q.1.2,(q.2:Int))).map amD)+ 1) 0))+ 1<=3;lia
 |row m=>obtain⟨f,e⟩:n=m/\m<=100:=d;obtain⟨a,b⟩:=g (c.map fun p:Nat=>(p:Int));refine⟨?_,by show 2<=100000;decide,trivial,⟨by rw[aC,aC];lia,b⟩,trivial⟩;show max 0 (max (iF ((c.map fun p:Nat=>(p:Int)).map kD)+ 1) 0)+ 1<=3;lia
 |op s m=>
  obtain⟨f,e⟩:n=m/\(s,m)∈TM.Internal.ops:=d;have k:m<=3:=by have:∀x∈TM.Internal.ops,x.2<=3:=gG;exact this _ e
  obtain⟨a,b⟩:=g (c.map fun p:Nat=>(p:Int));refine⟨?_,by show((c.map fun p:Nat=>(p:Int)).map kD).length+ 1<=100000;rw[aC,aC];lia,trivial,b⟩;show max 0 (iF ((c.map fun p:Nat=>(p:Int)).map kD))+ 1<=3;lia
 |num=>exact⟨by simp[roK,Ro.d,Ro.s,Ro.r,sD,kD,kW,iF],by show 2<=100000;decide,trivial,trivial,trivial⟩
 |name=>exact⟨by simp[roK,Ro.d,Ro.s,Ro.r,sD,kD,kW,iF],by show 2<=100000;decide,trivial,trivial,trivial⟩
 |lt w=>
  rcases c with _|⟨p,_|⟨i,c⟩⟩;·exact⟨by simp[roK,Ro.d,Ro.s,Ro.r,sD,kD,kW,iF],by show 2<=100000;decide,trivial,trivial,trivial⟩
  ·exact⟨by simp[roK,Ro.d,Ro.s,Ro.r,sD,kD,kW,iF],by show 2<=100000;decide,trivial,trivial,trivial⟩
  ·exact⟨by simp[roK,Ro.d,Ro.s,Ro.r,sD,kD,kW,iF],by show 4<=100000;decide,trivial,trivial,trivial,trivial,trivial⟩
 |_=>
  cases c with
  |nil=>exact⟨by simp[roK,Ro.d,Ro.s,Ro.r,sD,kD,kW,iF],by show 2<=100000;decide,trivial,trivial,trivial⟩
  |cons p c=>exact⟨by simp[roK,Ro.d,Ro.s,Ro.r,sD,kD,kW,iF],by show 3<=100000;decide,trivial,trivial,trivial,trivial⟩
def FtD.good {G:List Pc} (F:FtD G roots 0 0 q) (i:q=G.length) (k:Nat) (ρ:Ro) (h:(G.map Pc.ρ)[k]?=some ρ):kW ρ.d<=3/\okD ρ.d:=by rw[aM]at h;refine eax (dA.mp h) fun c b d=>?_;subst d;obtain⟨f,_⟩:=F.at i b;obtain⟨⟨j,l⟩,e,_,_,g⟩:=f.t;have a:=e.1;rw[b]at a;rw[dj.inj a];exact ED g.1 (TM.Internal.offs_len _ _)
def Ij(a:okK κ n N) (d:ps.length=n):Wf (roK κ ps):=by
 cases κ with
 |lt w=>exact a.elim
 |row m=>obtain⟨c,b⟩:n=m/\m<=100:=a;show(bj _ ps).length<=100;rw[aC];lia
 |op s m=>obtain⟨c,b⟩:n=m/\(s,m)∈TM.Internal.ops:=a;show(s,(bj _ ps).length)∈TM.Internal.ops;rw[aC,d,c];exact b
 |num=>trivial
 |name=>trivial
 |rcd=>trivial
 |_=>cases ps<;>trivial
def FtD.wf {G:List Pc} (F:FtD G roots 0 0 q) (i:q=G.length) (k:Nat) (ρ:Ro) (h:(G.map Pc.ρ)[k]?=some ρ):Wf ρ:=by rw[aM]at h;refine eax (dA.mp h) fun c b d=>?_;subst d;obtain⟨f,_⟩:=F.at i b;obtain⟨⟨j,l⟩,e,_,_,g⟩:=f.t;have a:=e.1;rw[b]at a;rw[dj.inj a];exact Ij g.1 (TM.Internal.offs_len _ _)
open TM.Internal (Kn Tr iA szs)
structure Sn where
 ps:List Int
 sp:Int->Option Int
 inn:Int->Option Int
 ar:Int->Option Int
 cs:Int->Option Int
noncomputable def inR:Ro->Bool
 | .fn _ _=>true
 | .row _=>true
 | .op o _=>o=="join"||o=="size"||o=="less"
 |_=>false
noncomputable def arms:Ro->List Int
 | .case _ l=>l.map fun x=>x.2.2
 |_=>[]
noncomputable def vn:Ro->List Int
 | .fn _ k=>[k]
 | .tag _ k=>[k]
 | .lt _ a b=>[a,b]
 | .get k _=>[k]
 | .rcd l=>l.map fun x=>x.2
 | .case k l=>k::l.map fun x=>x.2.2
 | .row ks=>ks
 | .op _ ks=>ks
 |_=>[]
noncomputable def csN (g:Int->Option Int) (l:List Int) (v:Int):Int->Option Int:=fun i=>if i∈l then some v else g i
noncomputable def Sn.c (s:Sn) (l:List Int) (p:Int):Sn:={s with cs:=csN s.cs l p}
noncomputable def Sn.a (s:Sn) (p:Int):Sn:=match s.cs p with
 |some c=>{s with ar:=put s.ar p s.ps.length,ps:=s.ps++[c]}
 |none=>s
noncomputable def Sn.s (s:Sn) (p:Int):Sn:={s with sp:=put s.sp p s.ps.length,ps:=s.ps++[p]}
noncomputable def Sn.i (s:Sn) (b:Bool) (p:Int):Sn:=match b with
 |true=>{s with inn:=put s.inn p s.ps.length,ps:=s.ps++[p]}
 |false=>s
noncomputable def Sn.one (s:Sn) (p:Int) (ρ:Ro):Sn:=(((s.c (arms ρ) p).a p).s p).i (inR ρ) p
noncomputable def sn0 (lo:Nat):Sn:=⟨[(lo:Int)],fun _=>none,fun _=>none,fun _=>none,fun _=>none⟩
noncomputable def snF (ρs:List Ro) (lo:Nat):Nat->Sn
 |0=>sn0 lo
 |p+ 1=>if p<lo then sn0 lo else match ρs[p]? with
  |some a=>(snF ρs lo p).one p a
  |none=>snF ρs lo p
def CU (ρs:List Ro):∀lo,snF ρs lo lo=sn0 lo
 |0=>rfl
 |lo+ 1=>by unfold snF;exact ip (cQ _)
def vo(h:lo<=p) (e:ρs[p]?=some ρ):snF ρs lo (p+ 1)=(snF ρs lo p).one p ρ:=by rw[snF,gU (by lia),e]
def sT{v:Int} (h:x≠k):put g k v x=g x:=gU h
def sU{v:Int}:put g k v k=some v:=ip rfl
def Gn{s:Sn} (h:k≠p):(s.one p ρ).sp k=s.sp k/\(s.one p ρ).inn k=s.inn k/\(s.one p ρ).ar k=s.ar k:=by
 have l:∀t:Sn,(t.a p).sp k=t.sp k/\(t.a p).inn k=t.inn k/\(t.a p).ar k=t.ar k:=fun t=>by
  unfold Sn.a
  cases t.cs p with
  |none=>exact⟨rfl,rfl,rfl⟩
  |some c=>exact⟨rfl,rfl,sT h⟩
 have j:∀(t:Sn) b,(t.i b p).sp k=t.sp k/\(t.i b p).inn k=t.inn k/\(t.i b p).ar k=t.ar k:=fun t b=>by
  cases b with
  |false=>exact⟨rfl,rfl,rfl⟩
  |true=>exact⟨rfl,sT h,rfl⟩
 refine eao (j (((s.c (arms ρ) p).a p).s p) (inR ρ)) fun i g f=>?_;refine eao (l (s.c (arms ρ) p)) fun e d a=>?_;refine⟨i.trans ?_,g.trans ?_,f.trans ?_⟩;·exact(sT h).trans e
 ·exact d
 ·exact a
theorem xC(h:lo<=p):∀n,(snF ρs lo (p+ 1+n)).sp p=(snF ρs lo (p+ 1)).sp p/\(snF ρs lo (p+ 1+n)).inn p=(snF ρs lo (p+ 1)).inn p/\(snF ρs lo (p+ 1+n)).ar p=(snF ρs lo (p+ 1)).ar p
 |0=>⟨rfl,rfl,rfl⟩
 |n+ 1=>by
  refine eao (xC h n) fun a b c=>?_;rw[<-cW]
  cases e:ρs[p+ 1+n]? with
  |none=>rw[snF,gU (by lia),e];exact⟨a,b,c⟩
  |some d=>rw[vo (by lia) e];refine eao (Gn (s:=snF ρs lo (p+ 1+n)) (p:=((p+ 1+n:Nat):Int)) (k:=(p:Int)) (ρ:=d) (by lia)) fun i g f=>?_;exact⟨i.trans a,g.trans b,f.trans c⟩
noncomputable def aL (s:Sn) (p:Int):List Int:=match s.cs p with
 |some c=>[c]
 |none=>[]
structure Atp (ρs:List Ro) (lo hi p:Nat) (ρ:Ro):Prop where
 ps:(snF ρs lo (p+ 1)).ps=((snF ρs lo p).ps++aL (snF ρs lo p) p++[(p:Int)])++(if inR ρ=true then[(p:Int)]else[])
 sp:(snF ρs lo hi).sp p=some (((snF ρs lo p).ps++aL (snF ρs lo p) p).length:Int)
 inn:inR ρ=true->(snF ρs lo hi).inn p=some (((snF ρs lo p).ps++aL (snF ρs lo p) p++[(p:Int)]).length:Int)
 ar:∀c,(snF ρs lo p).cs p=some c->(snF ρs lo hi).ar p=some ((snF ρs lo p).ps.length:Int)
 cs:∀i,(snF ρs lo (p+ 1)).cs i=if i∈arms ρ then some (p:Int)else(snF ρs lo p).cs i
def Gp(na:p∉arms ρ):(s.one p ρ).ps=(s.ps++aL s p++[p])++(if inR ρ=true then[p]else[])/\(s.one p ρ).sp p=some ((s.ps++aL s p).length:Int)/\(inR ρ=true->(s.one p ρ).inn p=some ((s.ps++aL s p++[p]).length:Int))/\(∀c,s.cs p=some c->(s.one p ρ).ar p=some (s.ps.length:Int))/\(s.one p ρ).cs=csN s.cs (arms ρ) p:=by
 have f:(s.c (arms ρ) p).cs p=s.cs p:=gU na;have e:((s.c (arms ρ) p).a p).ps=s.ps++aL s p/\((s.c (arms ρ) p).a p).cs=csN s.cs (arms ρ) p/\∀c,s.cs p=some c->((s.c (arms ρ) p).a p).ar p=some (s.ps.length:Int):=by
  unfold Sn.a aL;rw[f]
  cases s.cs p with
  |none=>exact⟨(aD _).symm,rfl,fun _ z=>nomatch z⟩
  |some c=>exact⟨rfl,rfl,fun _ _=>sU⟩
 refine eao e fun d b a=>?_;unfold Sn.one;generalize(s.c (arms ρ) p).a p=t at d b a;rw[<-d,<-b]
 cases inR ρ with
 |false=>exact⟨(aD _).symm,sU,fun z=>(nomatch z),a,rfl⟩
 |true=>exact⟨rfl,sU,fun _=>sU,a,rfl⟩
def Gq(a:lo<=p) (n:p<hi) (e:ρs[p]?=some ρ) (na:(p:Int)∉arms ρ):Atp ρs lo hi p ρ:=by obtain⟨m,rfl⟩:∃m,hi=p+ 1+m:=⟨hi-(p+ 1),by lia⟩;refine eao (xC (ρs:=ρs) a m) fun f d b=>?_;refine eab (Gp (s:=snF ρs lo p) na) fun l k j h g=>?_;rw[vo a e]at f d b;refine⟨by rw[vo a e];exact l,f.trans k,fun z=>d.trans (j z),fun c z=>b.trans (h c z),fun i=>by rw[vo a e,g];rfl⟩
noncomputable def Sn.S (F:Sn) (k:Int):Int:=(F.sp k).getD 0
noncomputable def Sn.I (F:Sn) (k:Int):Int:=(F.inn k).getD 0
noncomputable def Sn.A (F:Sn) (k:Int):Int:=(F.ar k).getD 0
noncomputable def mdR (F:Sn) (p:Int):Ro->List Mkg
 | .num _=>[mkN (F.S p) p]
 | .fn _ k=>[⟨"fn",.tup [kD (F.I p),kD (F.S k)],F.S p,p⟩]
 | .rcd l=>[⟨"rec",prD (l.map fun x=>(x.1,F.S x.2)),F.S p,p⟩]
 | .tag w k=>[⟨"tag",.tup [sD w,kD (F.S k)],F.S p,p⟩]
 | .row _=>[mkR (F.I p) (F.S p) p]
 | .op o _=>if o="size"\/o="add"\/o="sub" then[mkN (F.S p) p]else if o="join" then[mkR (F.I p) (F.S p) p]else if o="less" then[⟨"rec",.tup [],F.I p,p⟩,⟨"tag",.tup [sD "yes",kD (F.I p)],F.S p,p⟩,⟨"tag",.tup [sD "no",kD (F.I p)],F.S p,p⟩]else[]
 |_=>[]
noncomputable def udR (F:Sn) (p:Int):Ro->List Us
 | .get k w=>[.take (F.S k) p 0 [(w,F.S p)]]
 | .case k l=>[.case (F.S k) p 0 (l.map fun a=>(a.1,F.A a.2.2))]
 | .op o [a]=>if o="size" then[.row (F.S a) p 0 (F.I p)]else[]
 | .op o [a,b]=>if o="call" then[.call (F.S a) p 0 (F.S b) (F.S p)]else if o="join" then[.row (F.S a) p 0 (F.I p),.row (F.S b) p 1 (F.I p)]else if o="add"\/o="sub"\/o="less" then[.num (F.S a) p 0,.num (F.S b) p 1]else[]
 | .op o [a,b,_]=>if o="at" then[.row (F.S a) p 0 (F.S p),.num (F.S b) p 1]else[]
 |_=>[]
noncomputable def fdR (F:Sn) (p:Int) (h:Option Hm):Ro->List (Int×Int)
 | .name _=>match h with
  |some h=>if h.1="fn" then[(F.I (h.2-1),F.S p)]else if h.1="arm" then[(F.A h.2,F.S p)]else[(0,F.S p)]
  |none=>[]
 | .case _ l=>l.map fun a=>(F.S a.2.2,F.S p)
 | .row ks=>ks.map fun k=>(F.S k,F.I p)
 | .op o [_,_,c]=>if o="at" then[(F.S c,F.S p)]else[]
 |_=>[]
structure RdR (F:Sn) (h:Option Hm) (p:Int) (ρ:Ro):Prop where
 s:∃v,F.sp p=some v
 k:∀k∈vn ρ,∃v,F.sp k=some v
 i:inR ρ=true->∃v,F.inn p=some v
 a:∀k∈arms ρ,∃v,F.ar k=some v
 h:∀w,ρ= .name w->∃hm,h=some hm/\((hm.1="fn"/\∃v,F.inn (hm.2-1)=some v)\/(hm.1="arm"/\∃v,F.ar hm.2=some v)\/hm.1="def")
open TM.Internal (Kn Tr iA szs)
def uP:Us->Int
 | .num _ p _=>p
 | .call _ p _ _ _=>p
 | .take _ p _ _=>p
 | .case _ p _ _=>p
 | .row _ p _ _=>p
noncomputable def byM (i:Nat) (l:List Mkg):List Mkg:=l.filter fun m=>decide (m.p=i)
noncomputable def byU (i:Nat) (l:List Us):List Us:=l.filter fun u=>decide (uP u=i)
noncomputable def dM (G:List Pc) (F:Sn) (i:Nat):List Mkg:=match G[i]? with
 |some c=>mdR F i c.ρ
 |none=>[]
noncomputable def dU (G:List Pc) (F:Sn) (i:Nat):List Us:=match G[i]? with
 |some c=>udR F i c.ρ
 |none=>[]
noncomputable def dF (G:List Pc) (F:Sn) (i:Nat):List (Int×Int):=match G[i]? with
 |some c=>fdR F i (hoC c) c.ρ
 |none=>[]
noncomputable def flN (f:Nat->List (Int×Int)) (p:Nat):Nat->List (Int×Int)
 |0=>[]
 |n+ 1=>flN f p n++f (p+n)
noncomputable def nnN (m:Nat->Nat) (p:Nat):Nat->Nat
 |0=>0
 |n+ 1=>nnN m p n+m (p+n)
theorem wg:∀n,flN f p (m+n)=flN f p m++flN f (p+m) n
 |0=>(aD _).symm
 |n+ 1=>by show flN f p (m+n)++f (p+(m+n))=_++(flN f (p+m) n++f (p+m+n));rw[wg n,bG,cW]
theorem wj:∀n,nnN f p (m+n)=nnN f p m+nnN f (p+m) n
 |0=>rfl
 |n+ 1=>by show nnN f p (m+n)+f (p+(m+n))=_+(nnN f (p+m) n+f (p+m+n));rw[wj n,cW,cW]
noncomputable def dN (G:List Pc) (F:Sn) (i:Nat):Nat:=(dM G F i).length+(dU G F i).length
structure Ads (G:List Pc) (F:Sn) (p n:Nat) (X:List (Int×Int)) (s s':Ls):Prop where
 m:∀i:Nat,byM i s'.D.mks=byM i s.D.mks++(if p<=i/\i<p+n then dM G F i else[])
 u:∀i:Nat,byU i s'.D.uss=byU i s.D.uss++(if p<=i/\i<p+n then dU G F i else[])
 nn:s'.D.mks.length+s'.D.uss.length=s.D.mks.length+s.D.uss.length+nnN (dN G F) p n
 f:∀a,s'.D.fls.count a=s.D.fls.count a+(flN (dF G F) p n).count a+X.count a
 st:s'.st=s.st
 hd:∀k:Int,k<p->s'.held k=s.held k
 rd:∀i c,p<=i->i<p+n->G[i]?=some c->RdR F (hoC c) i c.ρ
section
variable {G:List Pc} {F:Sn} {p n m:Nat} {X Y:List (Int×Int)} {s s' s2:Ls}
def Ads.refl:Ads G F p 0 [] s s:=⟨fun i=>by rw[gU (by lia),aD],fun i=>by rw[gU (by lia),aD],rfl,fun _=>rfl,rfl,fun _ _=>rfl,fun i c b a=>by lia⟩
def ifi{c:Type} {l:List c}:(if p<=i/\i<p+n then l else[])++(if p+n<=i/\i<p+n+m then l else[])=if p<=i/\i<p+(n+m)then l else[]:=by
 by_cases a:p<=i/\i<p+n;·rw[ip a,gU (by lia),ip (by lia),aD]
 ·rw[gU a,cc];by_cases b:p+n<=i/\i<p+n+m;·rw[ip b,ip (by lia)]
  ·rw[gU b,gU (by lia)]
theorem Ads.trans (a:Ads G F p n X s s') (b:Ads G F (p+n) m Y s' s2):Ads G F p (n+m) (X++Y) s s2 where
 m i:=by rw[b.m,a.m,bG,ifi]
 u i:=by rw[b.u,a.u,bG,ifi]
 nn:=by rw[b.nn,a.nn,wj];lia
 f x:=by rw[b.f,a.f,wg,cy,cy];lia
 st:=b.st.trans a.st
 hd k h:=(b.hd k (by lia)).trans (a.hd k h)
 rd i c h1 h2 e:=by
  by_cases z:i<p+n;·exact a.rd i c h1 z e
  ·exact b.rd i c (by lia) (by lia) e
theorem Ads.fl (a:Ads G F p n X s s') (x y:Int):Ads G F p n (X++[(x,y)]) s (s'.fl x y):=⟨a.m,a.u,a.nn,fun z=>by show(s'.D.fls++[(x,y)]).count z=_;rw[cy,a.f,cy];lia,a.st,a.hd,a.rd⟩
noncomputable def Ls.out (s:Ls) (a:List Mkg) (us:List Us) (b:List (Int×Int)):Ls:={s with D:={s.D with mks:=s.D.mks++a,uss:=s.D.uss++us,fls:=s.D.fls++b}}
def CV {b:Type} {k:b->Int} {l:List b} (h:∀x∈l,k x=p) (i:Nat):l.filter (fun x=>decide (k x=i))=if i=p then l else[]:=by
 by_cases e:i=p;·subst e;rw[ip rfl];exact List.filter_eq_self.mpr fun x a=>jo (h x a)
 ·rw[gU e];exact List.filter_eq_nil_iff.mpr fun x a=>by rw[h x a];intro z;have:=of_decide_eq_true z;lia
def md_p (F:Sn) (p:Int) (ρ:Ro):∀x∈mdR F p ρ,x.p=p:=by
 intro x a;unfold mdR at a;repeat' split at a
 all_goals(first|(cases a;done)|skip)
 all_goals simp only[aj,bo,or_false]at a
 all_goals(first|(rw[a];rfl)|(rcases a with rfl|rfl|rfl<;>rfl))
def ud_p (F:Sn) (p:Int) (ρ:Ro):∀x∈udR F p ρ,uP x=p:=by
 intro x hx;unfold udR at hx;repeat' split at hx
 all_goals(first|(cases hx;done)|skip)
 all_goals simp only[aj,bo,or_false]at hx
 all_goals(first|(rw[hx];rfl)|(rcases hx with rfl|rfl<;>rfl))
def Ads.own {s1:Ls} {c:Pc} (a:Ads G F (p+ 1) n X s1 s2) (e1:s1.D.mks=s.D.mks) (e2:s1.D.uss=s.D.uss) (e3:s1.D.fls=s.D.fls) (e4:s1.st=s.st) (e5:∀k:Int,k<p->s1.held k=s.held k) (hc:G[p]?=some c) (hf:∀x,(fdR F p (hoC c) c.ρ).count x=X.count x+Y.count x) (hr:RdR F (hoC c) p c.ρ):Ads G F p (1+n) [] s (s2.out (mdR F p c.ρ) (udR F p c.ρ) Y):=by
 have dm:dM G F p=mdR F p c.ρ:=by unfold dM;rw[hc]
 have du:dU G F p=udR F p c.ρ:=by unfold dU;rw[hc]
 have df:dF G F p=fdR F p (hoC c) c.ρ:=by unfold dF;rw[hc]
 refine⟨fun i=>?_,fun i=>?_,?_,fun x=>?_,a.st.trans e4,fun k h=>(a.hd k (by lia)).trans (e5 k h),fun i c' h1 h2 e=>?_⟩
 ·show byM i (s2.D.mks++mdR F p c.ρ)=_;unfold byM;rw[cz];have:=a.m i;unfold byM at this;rw[this,e1,bG,CV (k:=Mkg.p) (md_p F p c.ρ)];congr 1;by_cases z:i=p;·subst z;rw[gU (by lia),ip rfl,ip (by lia),dm];rfl
  ·rw[gU z,aD];by_cases y:p+ 1<=i/\i<p+ 1+n;·rw[ip y,ip (by lia)]
   ·rw[gU y,gU (by lia)]
 ·show byU i (s2.D.uss++udR F p c.ρ)=_;unfold byU;rw[cz];have:=a.u i;unfold byU at this;rw[this,e2,bG,CV (k:=uP) (ud_p F p c.ρ)];congr 1;by_cases z:i=p;·subst z;rw[gU (by lia),ip rfl,ip (by lia),du];rfl
  ·rw[gU z,aD];by_cases y:p+ 1<=i/\i<p+ 1+n;·rw[ip y,ip (by lia)]
   ·rw[gU y,gU (by lia)]
 ·show(s2.D.mks++mdR F p c.ρ).length+(s2.D.uss++udR F p c.ρ).length=_;have:=a.nn;rw[e1,e2]at this;have k:nnN (dN G F) p (1+n)=dN G F p+nnN (dN G F) (p+ 1) n:=by rw[wj];show 0+dN G F p+_=_;lia
  rw[aO,aO,k];unfold dN at this⊢;rw[dm,du];lia
 ·show(s2.D.fls++Y).count x=_;have k:flN (dF G F) p (1+n)=dF G F p++flN (dF G F) (p+ 1) n:=by rw[wg];rfl
  rw[cy,a.f,e3,k,cy,df,hf];show _=_+ 0;lia
 ·by_cases z:i=p;·subst z;rw[hc]at e;cases e;exact hr
  ·exact a.rd i c' (by lia) (by lia) e
end
open TM.Internal (Kn Tr iA szs nests)
def GW (F:Sn) (d:Nat) (p:Int) (s:Ls) (e:En):Prop:=(e.h.1="fn"/\e.h.2<=p/\∃v,F.inn (e.h.2-1)=some v/\s.held e.h.2=some v)\/(e.h.1="arm"/\e.h.2<=p/\∃v,F.ar e.h.2=some v/\s.held e.h.2=some v)\/(e.h.1="def"/\e.h.2=(d:Int)/\s.st d=some 0)
def Hs (F:Sn) (d:Nat) (N:Str->Prop) (sc:Sc) (p:Int) (s:Ls):Prop:=∀w,N w->∃e,lkE sc w=some e/\GW F d p s e
def GW.mo {F:Sn} {d:Nat} {p f:Int} {s s':Ls} {e:En} (h:GW F d p s e) (g:∀k,k<=p->s'.held k=s.held k) (i:s'.st=s.st) (j:p<=f):GW F d f s' e:=by
 rcases h with⟨a,b,v,c,x⟩|⟨a,b,v,c,x⟩|⟨a,b,c⟩;·exact .inl ⟨a,by lia,v,c,by rw[g _ b];exact x⟩
 ·exact .inr (.inl ⟨a,by lia,v,c,by rw[g _ b];exact x⟩)
 ·exact .inr (.inr ⟨a,b,by rw[i];exact c⟩)
theorem Hs.mo {F:Sn} {d:Nat} {N:Str->Prop} {sc:Sc} {p c:Int} {s s':Ls} (h:Hs F d N sc p s) (i:∀k,k<=p->s'.held k=s.held k) (g:s'.st=s.st) (f:p<=c):Hs F d N sc c s':=fun w n=>let⟨e,a,b⟩:=h w n;⟨e,a,b.mo i g f⟩
def Hs.bind {F:Sn} {d:Nat} {N:Str->Prop} {sc:Sc} {p0 p:Nat} {s:Ls} {w k:Str} {v:Int} (h:Hs F d N sc p0 s) (l:p0<p) (f:(k="fn"/\p=p0+ 1/\F.inn p0=some v)\/(k="arm"/\F.ar p=some v)):Hs F d (adN N (some (w,k))) (exS sc (some (w,k)) p pp pw) p (s.hold p v):=fun u hu=>by
 have i:k≠"let":=by rcases f with⟨rfl,_⟩|⟨rfl,_⟩<;>decide+kernel
 have j:exS sc (some (w,k)) p pp pw=sc++[⟨w,(k,(p:Int)),0⟩]:=by show sc++[if k="let" then _ else _]=_;rw[gU i]
 rw[j,oX];by_cases e:w=u
 ·rw[ip e];refine⟨_,rfl,?_⟩;have g:(s.hold p v).held p=some v:=sU;rcases f with⟨rfl,m,c⟩|⟨rfl,c⟩;·exact .inl ⟨rfl,fQ _,v,by show F.inn ((p:Int)-1)=_;rw[show(p:Int)-1=p0 by lia];exact c,g⟩
  ·exact .inr (.inl ⟨rfl,fQ _,v,c,g⟩)
 ·rw[gU e];rcases hu with hu|hu;·exact absurd hu.symm e
  ·refine eax (h u hu) fun x a b=>?_;exact⟨x,a,b.mo (fun k f=>sT (by lia)) rfl (by lia)⟩
abbrev SS (G:List Pc) (lo p:Nat):Sn:=snF (G.map Pc.ρ) lo p
structure Rk (G:List Pc) (lo hi p n:Nat) (X:List (Int×Int)) (s s':Ls):Prop where
 ps:s'.D.pts=(SS G lo (p+n)).ps
 a:Ads G (SS G lo hi) p n X s s'
 cs:∀i:Int,((p+n:Nat):Int)<=i->(SS G lo (p+n)).cs i=(SS G lo p).cs i
def KL (G:List Pc) (lo hi d f:Nat) (L:Lf):Prop:=∀t p a N s,Pl G t p a d->okT t N->t.nest<=f->lo<=p->p+t.sz<=hi->Hs (SS G lo hi) d N a p s->s.D.pts=(SS G lo p).ps++aL (SS G lo p) p->(∀i:Int,(p:Int)<i->i<(p+t.sz:Nat)->(SS G lo p).cs i=none)->∃q b,L p s=some (q,b)/\(SS G lo hi).sp p=some q/\Rk G lo hi p t.sz [] s b
structure Pk (G:List Pc) (lo hi d:Nat) (N:Str->Prop) (sc:Sc) (p0 p n:Nat) (s:Ls):Prop where
 hs:Hs (SS G lo hi) d N sc p0 s
 lt:p0<p
 ps:s.D.pts=(SS G lo p).ps
 cs:∀i:Int,(p:Int)<=i->i<(p+n:Nat)->(SS G lo p).cs i=none
 l:lo<=p
 h:p+n<=hi
def xD(h:c∈arms (roK κ d)):∃n∈d,c=(n:Int):=by
 cases κ with
 |case l=>
  cases d with
  |nil=>cases h
  |cons p d=>have h:c∈((l.zip d).map fun q=>(q.1.1,q.1.2,(q.2:Int))).map fun x=>x.2.2:=h;simp only[bh,bg,Function.comp]at h;refine eax h fun q f e=>?_;subst e;exact⟨q.2,ai _ (aF f).2,rfl⟩
 |lt=>rcases d with _|⟨a,_|⟨b,d⟩⟩<;>cases h
 |num=>cases h
 |name=>cases h
 |rcd=>cases h
 |row=>cases h
 |op=>cases h
 |_=>cases d<;>cases h
def wk(h:n∈iA ts p):p<=n:=by obtain⟨i,a⟩:=bC.mp h;exact Ag a
theorem ue:∀{ts:List Tr} {p n:Nat},n∈iA ts p->n<p+szs ts
 |[],_,_,h=>by cases h
 |t::ts,p,n,h=>by
  have:=oZ t;rw[szs];rcases aj.mp (show n∈p::iA ts (p+t.sz)from h)with rfl|h;·lia
  ·have:=ue h;lia
section
variable {G:List Pc} {lo hi d f:Nat} {L:Lf} {N:Str->Prop} {sc:Sc} {p0 p n m:Nat} {s s' s2:Ls} {X Y:List (Int×Int)}
def CW(h:Pl G (.mk κ ks) p sc d) (h1:lo<=p) (h2:p<hi):Atp (G.map Pc.ρ) lo hi p (roK κ (iA ks (p+ 1))):=
 Gq h1 h2 (by rw[aM,h.1];rfl) fun z=>by refine eax (xD z) fun n hn e=>?_;have:=wk hn;lia
theorem Rk.trans (a:Rk G lo c p n X s s') (b:Rk G lo c (p+n) m Y s' s2):Rk G lo c p (n+m) (X++Y) s s2:=
 ⟨by rw[<-cW];exact b.ps,a.a.trans b.a,fun i c=>by rw[<-cW,b.cs i (by lia),a.cs i (by lia)]⟩
theorem Rk.fl (a:Rk G lo hi p n X s s') (x y:Int):Rk G lo hi p n (X++[(x,y)]) s (s'.fl x y):=⟨a.ps,a.a.fl x y,a.cs⟩
theorem Rk.refl (h:s.D.pts=(SS G lo p).ps):Rk G lo hi p 0 [] s s:=⟨h,Ads.refl,fun _ _=>rfl⟩
theorem Pk.fl (a:Pk G lo hi d N sc p0 p n s) (x y:Int):Pk G lo hi d N sc p0 p n (s.fl x y):=⟨a.hs.mo (fun _ _=>rfl) rfl (fQ _),a.lt,a.ps,a.cs,a.l,a.h⟩
variable (K:KL G lo hi d f L)
include K
def sV {t:Tr} (h:Pl G t p sc d) (o:okT t N) (g:t.nest<=f) (P:Pk G lo hi d N sc p0 p (t.sz+m) s):∃q a,L p s=some (q,a)/\(SS G lo hi).sp p=some q/\Rk G lo hi p t.sz [] s a/\Pk G lo hi d N sc p0 (p+t.sz) m a:=by
 have l:=oZ t;have n:=P.lt;have j:aL (SS G lo p) p=[]:=by unfold aL;rw[P.cs p (fQ _) (by lia)]
 refine eal (K t p sc N s h o g P.l (by have:=P.h;lia) (P.hs.mo (fun _ _=>rfl) rfl (by lia)) (by rw[j,aD];exact P.ps) fun i e c=>P.cs i (by lia) (by lia)) fun q a e c b=>?_;exact⟨q,a,e,c,b,P.hs.mo (fun k r=>b.a.hd k (by lia)) b.a.st (fQ _),by lia,b.ps,fun i e c=>by rw[b.cs i (by lia)];exact P.cs i (by lia) (by lia),by have:=P.l;lia,by have:=P.h;lia⟩
theorem Gr:∀{ts:List Tr} {l:Zd} {p b pw:Nat} {acc:List (Str×Int)} {s:Ls},ts.length=l.length->Pls G ts p b pw [] sc d->oY ts [] N->nests ts<=f->Pk G lo hi d N sc p0 p (szs ts) s->∃j,AX L ((l.zip (iA ts p)).map fun q=>(q.1,(q.2:Int))) acc s=some (acc++((l.zip (iA ts p)).map fun q=>(q.1,(q.2:Int))).map (fun x=>(x.1,(SS G lo hi).S x.2)),j)/\Rk G lo hi p (szs ts) [] s j/\∀c∈iA ts p,∃v,(SS G lo hi).sp c=some v
 |[],l,p,b,pw,acc,s,_,_,_,_,P=>⟨s,by cases l<;>exact congrArg some (Prod.ext (aD _).symm rfl),Rk.refl P.ps,fun c h=>by cases h⟩
 |t::ts,[],_,_,_,_,_,e,_,_,_,_=>by cases e
 |t::ts,w::l,p,b,pw,acc,s,e,h,o,hn,P=>by
  have D:nests (t::ts)=max t.nest (nests ts):=by rw[nests]
  unfold oY at o;refine eak (sV K (m:=szs ts) h.1 o.1 (by lia) P) fun q C r k n B=>?_;refine eah (Gr (l:=l) (acc:=acc++[(w,q)]) (by simpa using e) h.2 o.2 (by lia) B) fun i z y u=>?_;have A:(SS G lo hi).S p=q:=by unfold Sn.S;rw[k];rfl
  refine⟨i,?_,n.trans y,fun c hc=>?_⟩;·show(match L (p:Int) s with|some (q,s)=>AX L ((l.zip (iA ts (p+t.sz))).map fun q:Str×Nat=>(q.1,(q.2:Int))) (acc++[(w,q)]) s|none=>none)=_;rw[r];refine z.trans ?_;rw[bG];show _=some (acc++(w,(SS G lo hi).S p)::_,i);rw[A];rfl
  ·rcases aj.mp (show c∈p::iA ts (p+t.sz)from hc)with rfl|hc;·exact⟨q,k⟩
   ·exact u c hc
theorem Gs:∀{ts:List Tr} {p b pw:Nat} {s:Ls},Pls G ts p b pw [] sc d->oY ts [] N->nests ts<=f->Pk G lo hi d N sc p0 p (szs ts) s->∃g,CJ L th ((iA ts p).map fun p:Nat=>(p:Int)) s=some g/\Rk G lo hi p (szs ts) (((iA ts p).map fun p:Nat=>(p:Int)).map fun k=>((SS G lo hi).S k,th)) s g/\∀c∈iA ts p,∃v,(SS G lo hi).sp c=some v
 |[],p,b,pw,s,_,_,_,P=>⟨s,rfl,Rk.refl P.ps,fun c h=>by cases h⟩
 |t::ts,p,b,pw,s,h,o,hn,P=>by
  have z:nests (t::ts)=max t.nest (nests ts):=by rw[nests]
  unfold oY at o;refine eak (sV K (m:=szs ts) h.1 o.1 (by lia) P) fun q y l i j x=>?_;refine eah (Gs (th:=th) h.2 o.2 (by lia) (x.fl q th)) fun e u r n=>?_;have w:(SS G lo hi).S p=q:=by unfold Sn.S;rw[i];rfl
  refine⟨e,?_,?_,fun c hc=>?_⟩;·show(match L (p:Int) s with|some (q,s)=>CJ L th ((iA ts (p+t.sz)).map fun p:Nat=>(p:Int)) (s.fl q th)|none=>none)=_;rw[l];exact u
  ·have:=(j.fl q th).trans r;show Rk G lo hi p (t.sz+szs ts) (((SS G lo hi).S p,th)::_) s e;rw[w];exact this
  ·rcases aj.mp (show c∈p::iA ts (p+t.sz)from hc)with rfl|hc;·exact⟨q,i⟩
   ·exact n c hc
theorem Gu:∀{ts:List Tr} {l:List (Str×Str)} {p B pw:Nat} {acc:List (Str×Int)} {s:Ls},ts.length=l.length->Pls G ts p B pw (l.map fun a=>some (a.2,"arm")) sc d->oY ts (l.map fun a=>some (a.2,"arm")) N->nests ts<=f->Hs (SS G lo hi) d N sc p0 s->p0<p->s.D.pts=(SS G lo p).ps->(∀i:Nat,p<=i->i<p+szs ts->(SS G lo p).cs i=if i∈iA ts p then some (p0:Int)else none)->lo<=p->p+szs ts<=hi->∃y,BD L p0 own ((l.zip (iA ts p)).map fun q=>(q.1.1,q.1.2,(q.2:Int))) acc s=some (acc++((l.zip (iA ts p)).map fun q=>(q.1.1,q.1.2,(q.2:Int))).map (fun a=>(a.1,(SS G lo hi).A a.2.2)),y)/\Rk G lo hi p (szs ts) (((l.zip (iA ts p)).map fun q=>(q.1.1,q.1.2,(q.2:Int))).map fun a=>((SS G lo hi).S a.2.2,own)) s y/\∀c∈iA ts p,(∃v,(SS G lo hi).sp c=some v)/\∃v,(SS G lo hi).ar c=some v
 |[],l,p,B,pw,acc,s,_,_,_,_,_,_,ps,_,_,_=>(iad s (by cases l<;>exact congrArg some (Prod.ext (aD _).symm rfl)) (by cases l<;>exact Rk.refl ps) (fun c h=>by cases h))
 |t::ts,[],_,_,_,_,_,e,_,_,_,_,_,_,_,_,_=>by cases e
 |t::ts,w::l,p,B,pw,acc,s,e,h,o,hn,hs,lt,ps,cs,hlo,hhi=>by
  have Z:nests (t::ts)=max t.nest (nests ts):=by rw[nests]
  have U:szs (t::ts)=t.sz+szs ts:=by rw[szs]
  have Y:=oZ t;unfold oY at o;have M:(SS G lo p).cs p=some (p0:Int):=(cs p (cN _) (by lia)).trans (ip (show p∈p::iA ts (p+t.sz)from ah));have X:aL (SS G lo p) p=[(p0:Int)]:=by unfold aL;rw[M]
  have H:Pl G t p (exS sc (some (w.2,"arm")) p B pw) d:=h.1;obtain⟨n,r⟩:=t;have A:=CW H hlo (show p<hi by lia);have C:=A.ar _ M;have E:s.n=((SS G lo p).ps.length:Int):=by unfold Ls.n;rw[ps]
  rw[<-E]at C;refine eal (K (.mk n r) p _ _ ((s.pt p0).hold p s.n) H o.1 (by lia) hlo (by lia) ((hs.mo (s':=s.pt p0) (fun _ _=>rfl) rfl (fQ _)).bind lt (.inr ⟨rfl,C⟩)) (by show s.D.pts++[(p0:Int)]=_;rw[X,ps]) fun i P O=>by
   obtain⟨j,rfl⟩:∃j:Nat,i=(j:Int):=⟨i.toNat,by lia⟩;rw[cs j (by lia) (by lia),gU];intro z;rcases aj.mp (show j∈p::iA ts (p+(Tr.mk n r).sz)from z)with z|z;·lia
   ·have:=wk z;lia) fun q F Q J g=>?_
  have x:Rk G lo hi p (Tr.mk n r).sz [] s F:=⟨g.ps,⟨g.a.m,g.a.u,g.a.nn,g.a.f,g.a.st,fun k I=>(g.a.hd k I).trans (sT (by lia)),g.a.rd⟩,g.cs⟩;refine eah (Gu (l:=l) (acc:=acc++[(w.1,s.n)]) (own:=own) (s:=F.fl q own) (by simpa using e) h.2 o.2 (by lia) (hs.mo (fun k I=>x.a.hd k (by lia)) x.a.st (fQ _)) (by lia) x.ps (fun i P O=>by
   rw[x.cs i (by lia),cs i (by lia) (by lia)];have:(i∈iA (Tr.mk n r::ts) p)↔i∈iA ts (p+(Tr.mk n r).sz):=by show i∈p::iA ts (p+(Tr.mk n r).sz)↔_;rw[aj];exact⟨fun z=>z.resolve_left (by lia),.inr⟩
   simp only[this]) (by lia) (by lia)) fun D T S R=>?_;have V:(SS G lo hi).S p=q:=by unfold Sn.S;rw[J];rfl
  have W:(SS G lo hi).A p=s.n:=by unfold Sn.A;rw[C];rfl
  refine iad D ?_ ?_ (fun c hc=>?_);·show(match L (p:Int) ((s.pt p0).hold p s.n)with|some (q,y)=>BD L p0 own ((l.zip (iA ts (p+(Tr.mk n r).sz))).map fun q:(Str×Str)×Nat=>(q.1.1,q.1.2,(q.2:Int))) (acc++[(w.1,s.n)]) (y.fl q own)|none=>none)=_;rw[Q];refine T.trans ?_;rw[bG];show _=some (acc++(w.1,(SS G lo hi).A p)::_,D);rw[W];rfl
  ·have:=(x.fl q own).trans S;rw[U];show Rk G lo hi p _ (((SS G lo hi).S p,own)::_) s D;rw[V];exact this
  ·rcases aj.mp (show c∈p::iA ts (p+(Tr.mk n r).sz)from hc)with rfl|hc;·exact⟨⟨q,J⟩,⟨_,C⟩⟩
   ·exact R c hc
end
open TM.Internal (Kn Tr iA szs nests)
noncomputable def uI (o:Str):Bool:=o=="join"||o=="size"||o=="less"
def CY:uI "call"=false:=gG
def IM:uI "at"=false:=gG
def Gv:uI "add"=false:=gG
def Gw:uI "sub"=false:=gG
def xE:uI "join"=true:=gG
def Az:uI "size"=true:=gG
def AA:uI "less"=true:=gG
def rL (t:Tr) (ts:List Tr):nests (t::ts)=max t.nest (nests ts):=by rw[nests]
def Gx (t:Tr):szs [t]=t.sz:=by rw[szs,szs];rfl
section
variable (s:Ls) (F:Sn) (p a b c:Int) (ks:List Int)
def nj (m:Mkg):s.mk' m=s.out [m] [] []:=by simp only[Ls.mk',Ls.out,aD]
def pd (u:Us):s.us u=s.out [] [u] []:=by simp only[Ls.us,Ls.out,aD]
def CZ (x y:Int):s.fl x y=s.out [] [] [(x,y)]:=by simp only[Ls.fl,Ls.out,aD]
def p6 (a f:List Mkg) (b e:List Us) (c d:List (Int×Int)):(s.out a b c).out f e d=s.out (a++f) (b++e) (c++d):=by simp only[Ls.out,bG]
def AB:mdR F p (.op "call" ks)=[]:=by unfold mdR;dsimp only;rw[gU gG,gU gG,gU gG]
def Gy:mdR F p (.op "at" ks)=[]:=by unfold mdR;dsimp only;rw[gU gG,gU gG,gU gG]
def AD:mdR F p (.op "join" ks)=[mkR (F.I p) (F.S p) p]:=by unfold mdR;dsimp only;rw[gU gG,ip rfl]
def AE:mdR F p (.op "size" ks)=[mkN (F.S p) p]:=by unfold mdR;dsimp only;rw[ip (.inl rfl)]
def Dc:mdR F p (.op "add" ks)=[mkN (F.S p) p]:=by unfold mdR;dsimp only;rw[ip (.inr (.inl rfl))]
def Dd:mdR F p (.op "sub" ks)=[mkN (F.S p) p]:=by unfold mdR;dsimp only;rw[ip (.inr (.inr rfl))]
def AF:mdR F p (.op "less" ks)=[⟨"rec",.tup [],F.I p,p⟩,⟨"tag",.tup [sD "yes",kD (F.I p)],F.S p,p⟩,⟨"tag",.tup [sD "no",kD (F.I p)],F.S p,p⟩]:=by unfold mdR;dsimp only;rw[gU gG,gU gG,ip rfl]
def AG:udR F p (.op "call" [a,b])=[.call (F.S a) p 0 (F.S b) (F.S p)]:=by unfold udR;dsimp only;rw[ip rfl]
def Gz:udR F p (.op "at" [a,b,c])=[.row (F.S a) p 0 (F.S p),.num (F.S b) p 1]:=by unfold udR;dsimp only;rw[ip rfl]
def AH:udR F p (.op "join" [a,b])=[.row (F.S a) p 0 (F.I p),.row (F.S b) p 1 (F.I p)]:=by unfold udR;dsimp only;rw[gU gG,ip rfl]
def AI:udR F p (.op "size" [a])=[.row (F.S a) p 0 (F.I p)]:=by unfold udR;dsimp only;rw[ip rfl]
def De:udR F p (.op "add" [a,b])=[.num (F.S a) p 0,.num (F.S b) p 1]:=by unfold udR;dsimp only;rw[gU gG,gU gG,ip (.inl rfl)]
def Df:udR F p (.op "sub" [a,b])=[.num (F.S a) p 0,.num (F.S b) p 1]:=by unfold udR;dsimp only;rw[gU gG,gU gG,ip (.inr (.inl rfl))]
def AJ:udR F p (.op "less" [a,b])=[.num (F.S a) p 0,.num (F.S b) p 1]:=by unfold udR;dsimp only;rw[gU gG,gU gG,ip (.inr (.inr rfl))]
def Dg (h:Option Hm):fdR F p h (.op "at" [a,b,c])=[(F.S c,F.S p)]:=by unfold fdR;dsimp only;rw[ip rfl]
end
section
variable {G:List Pc} {lo hi d f:Nat} {L:Lf} {N:Str->Prop} {sc:Sc} {p0 p:Nat} {s:Ls} (K:KL G lo hi d f L)
include K
def BZ(h:Pls G [a] p pp pw [] sc d) (o:oY [a] [] N) (k:nests [a]<=f) (P:Pk G lo hi d N sc p0 p (szs [a]) s):∃b,L p s=some ((SS G lo hi).S p,b)/\(∃v,(SS G lo hi).sp p=some v)/\Rk G lo hi p (szs [a]) [] s b:=by
 have l:=rL a [];unfold oY at o;refine eak (sV K (m:=0) h.1 o.1 (by lia) (by rw[szs,szs]at P;exact P)) fun q e i c g _=>?_;have j:(SS G lo hi).S p=q:=by unfold Sn.S;rw[c];rfl
 refine⟨e,by rw[j];exact i,⟨q,c⟩,?_⟩;rw[szs,szs];exact g
def yr(h:Pls G [a,b] p pp pw [] sc d) (o:oY [a,b] [] N) (w:nests [a,b]<=f) (P:Pk G lo hi d N sc p0 p (szs [a,b]) s):∃c e,L p s=some ((SS G lo hi).S p,c)/\L ((p+a.sz:Nat):Int) c=some ((SS G lo hi).S ((p+a.sz:Nat):Int),e)/\(∃v,(SS G lo hi).sp p=some v)/\(∃v,(SS G lo hi).sp ((p+a.sz:Nat):Int)=some v)/\Rk G lo hi p (szs [a,b]) [] s e:=by
 have x:=rL a [b];unfold oY at o;refine eak (sV K (m:=szs [b]) h.1 o.1 (by lia) (by rw[szs]at P;exact P)) fun q c k g j u=>?_;refine eah (BZ K h.2 o.2 (by lia) u) fun i r n l=>?_;have t:(SS G lo hi).S p=q:=by unfold Sn.S;rw[g];rfl
 refine iap c i (⟨by rw[t];exact k,r,⟨q,g⟩,n,?_⟩);rw[szs];exact j.trans l
def EE(h:Pls G [a,b,c] p pp pw [] sc d) (o:oY [a,b,c] [] N) (A:nests [a,b,c]<=f) (P:Pk G lo hi d N sc p0 p (szs [a,b,c]) s):∃g e k,L p s=some ((SS G lo hi).S p,g)/\L ((p+a.sz:Nat):Int) g=some ((SS G lo hi).S ((p+a.sz:Nat):Int),e)/\L ((p+a.sz+b.sz:Nat):Int) e=some ((SS G lo hi).S ((p+a.sz+b.sz:Nat):Int),k)/\(∃v,(SS G lo hi).sp p=some v)/\(∃v,(SS G lo hi).sp ((p+a.sz:Nat):Int)=some v)/\(∃v,(SS G lo hi).sp ((p+a.sz+b.sz:Nat):Int)=some v)/\Rk G lo hi p (szs [a,b,c]) [] s k:=by
 have B:=rL a [b,c];unfold oY at o;refine eak (sV K (m:=szs [b,c]) h.1 o.1 (by lia) (by rw[szs]at P;exact P)) fun q g t l r z=>?_;refine eap (yr K h.2 o.2 (by lia) z) fun e n x j w i u=>?_;have y:(SS G lo hi).S p=q:=by unfold Sn.S;rw[l];rfl
 refine iar g e n (⟨by rw[y];exact t,x,j,⟨q,l⟩,w,i,?_⟩);rw[szs];exact r.trans u
end
theorem GA {G:List Pc} {lo hi d:Nat} {roots:List Nat} (hin:∀p:Nat,lo<=p->p<hi->inF roots p d=true):∀f,KL G lo hi d f (ox (G.map Pc.ρ) roots (hoG G) f)
 |0=>fun t p sc N s h o hn=>by cases t;rw[Tr.nest]at hn;lia
 |f+ 1=>fun t p sc N s h o hn hlo hhi hs ps cs=>by
  have K:=GA (G:=G) (roots:=roots) hin f;obtain⟨L,eL⟩:∃L,ox (G.map Pc.ρ) roots (hoG G) f=L:=⟨_,rfl⟩;rw[eL]at K;obtain⟨κ,ks⟩:=t;have hsz:(Tr.mk κ ks).sz=1+szs ks:=by rw[Tr.sz]
  have hnn:nests ks<=f:=by rw[Tr.nest]at hn;lia
  clear hn;rw[hsz]at hhi cs⊢;have A:=CW h hlo (show p<hi by lia);refine eaE (show ∃c:Pc,G[p]?=some c/\c.ρ=roK κ (iA ks (p+ 1))/\c.sc=sc from ⟨_,h.1,rfl,rfl⟩) fun c hc eρ esc=>?_;have hk:=h.2;unfold okT at o;obtain⟨o1,o2⟩:=o;have en:s.n=((((SS G lo p).ps++aL (SS G lo p) p).length:Nat):Int):=by unfold Ls.n;rw[ps]
  have sp:=A.sp;rw[<-en]at sp;have eS:(SS G lo hi).S p=s.n:=by unfold Sn.S;rw[sp];rfl
  have en1:(s.pt p).n=((((SS G lo p).ps++aL (SS G lo p) p++[(p:Int)]).length:Nat):Int):=by show((s.D.pts++[(p:Int)]).length:Int)=_;rw[ps]
  have inn:=A.inn;rw[<-en1]at inn;have eI:inR (roK κ (iA ks (p+ 1)))=true->(SS G lo hi).I p=(s.pt p).n:=fun z=>by unfold Sn.I;rw[inn z];rfl
  suffices z:∃s',kX L roots (hoC c) p s.n (s.pt p) (roK κ (iA ks (p+ 1)))=some s'/\Rk G lo hi p (1+szs ks) [] s s' by
   refine eae z fun s' z1 z2=>?_;refine iap s.n s' ⟨?_,sp,z2⟩;unfold ox;have e1:atZ (G.map Pc.ρ) (p:Int)=some c.ρ:=by show(G.map Pc.ρ)[p]?=_;rw[aM,hc];rfl
   have e2:hoG G (p:Int).toNat=hoC c:=by show(G[p]?).bind hoC=_;rw[hc];rfl
   rw[e1];dsimp only;rw[e2,eρ,eL,z1]
  have csA:∀i:Int,((p+(1+szs ks):Nat):Int)<=i->(SS G lo (p+ 1)).cs i=(SS G lo p).cs i:=fun i hi'=>by rw[A.cs,gU];intro z;refine eae (xD z) fun n hn e=>?_;have:=ue hn;lia
  have fin:∀{s1 s2:Ls} {X Y:List (Int×Int)},Rk G lo hi (p+ 1) (szs ks) X s1 s2->s1.D.mks=s.D.mks->s1.D.uss=s.D.uss->s1.D.fls=s.D.fls->s1.st=s.st->(∀k:Int,k<p->s1.held k=s.held k)->(∀x,(fdR (SS G lo hi) p (hoC c) (roK κ (iA ks (p+ 1)))).count x=X.count x+Y.count x)->RdR (SS G lo hi) (hoC c) p (roK κ (iA ks (p+ 1)))->Rk G lo hi p (1+szs ks) [] s (s2.out (mdR (SS G lo hi) p (roK κ (iA ks (p+ 1)))) (udR (SS G lo hi) p (roK κ (iA ks (p+ 1)))) Y):=by intro s1 s2 X Y R e1 e2 e3 e4 e5 hf hr;rw[<-eρ]at hf hr⊢;exact⟨by rw[<-cW];exact R.ps,R.a.own e1 e2 e3 e4 e5 hc hf hr,fun i z=>by rw[<-cW,R.cs i (by lia)];exact csA i z⟩
  have pk0:inR (roK κ (iA ks (p+ 1)))=false->arms (roK κ (iA ks (p+ 1)))=[]->Pk G lo hi d N sc p (p+ 1) (szs ks) (s.pt p):=fun z1 z2=>by
   have a1:=A.ps;have a2:=A.cs;rw[z1]at a1;rw[z2]at a2;refine⟨hs.mo (fun _ _=>rfl) rfl (fQ _),by lia,?_,fun i h1 h2=>?_,by lia,by lia⟩;·rw[a1,gU (by decide),aD,<-ps];rfl
   ·rw[a2,gU (by simp)];exact cs i (by lia) (by lia)
  have pk1:inR (roK κ (iA ks (p+ 1)))=true->arms (roK κ (iA ks (p+ 1)))=[]->Pk G lo hi d N sc p (p+ 1) (szs ks) ((s.pt p).pt p):=fun z1 z2=>by
   have a1:=A.ps;have a2:=A.cs;rw[z1]at a1;rw[z2]at a2;refine⟨hs.mo (fun _ _=>rfl) rfl (fQ _),by lia,?_,fun i h1 h2=>?_,by lia,by lia⟩;·rw[a1,ip rfl,<-ps];rfl
   ·rw[a2,gU (by simp)];exact cs i (by lia) (by lia)
  have rdn:∀{ρ:Ro},inR ρ=false->arms ρ=[]->vn ρ=[]->(∀w,ρ≠ .name w)->RdR (SS G lo hi) (hoC c) p ρ:=fun z1 z2 z3 z4=>⟨⟨_,sp⟩,fun k hk=>by(rw[z3]at hk;cases hk),fun z=>by(rw[z1]at z;cases z),fun k hk=>by(rw[z2]at hk;cases hk),fun w e=>absurd e (z4 w)⟩
  cases κ with
  |num n=>
   have l0:ks.length=0:=o1;match ks,l0 with
   |[],_=>refine⟨_,?_,fin (s1:=s.pt p) (s2:=s.pt p) (X:=[]) (Y:=[]) (Rk.refl (pk0 rfl rfl).ps) rfl rfl rfl rfl (fun _ _=>rfl) (fun _=>rfl) (rdn rfl rfl rfl (fun _ z=>nomatch z))⟩;show some ((s.pt p).mk' (mkN s.n p))=some (Ls.out _ [mkN ((SS G lo hi).S p) p] [] []);rw[eS,nj]
  |name w=>
   have l0:ks.length=0:=o1.1;match ks,l0 with
   |[],_=>
    refine eae (hs w o1.2) fun e he mn=>?_;have eh:hoC c=some e.h:=by unfold hoC;rw[eρ,esc];show(lkE sc w).map En.h=_;rw[he];rfl
    have m:∃q,mU L roots e.h p (s.pt p)=some (q,s.pt p)/\(∀x,(fdR (SS G lo hi) p (some e.h) (.name w)).count x=([]:List (Int×Int)).count x+[(q,s.n)].count x)/\((e.h.1="fn"/\∃v,(SS G lo hi).inn (e.h.2-1)=some v)\/(e.h.1="arm"/\∃v,(SS G lo hi).ar e.h.2=some v)\/e.h.1="def"):=by
     have k0:∀l x,l=[x]->∀y:Int×Int,l.count y=([]:List (Int×Int)).count y+[x].count y:=fun l x e y=>by rw[e,cB,cX]
     unfold mU fdR;dsimp only;rw[eS];rcases mn with⟨a,_,v,b1,b2⟩|⟨a,_,v,b1,b2⟩|⟨a,b1,b2⟩;·rw[gU (by rw[a];decide+kernel),gU (by rw[a];decide+kernel),show(s.pt p).held e.h.2=some v from b2];refine⟨v,rfl,k0 _ _ ?_,.inl ⟨a,v,b1⟩⟩;rw[ip a];unfold Sn.I;rw[b1];rfl
     ·rw[gU (by rw[a];decide+kernel),gU (by rw[a];decide+kernel),show(s.pt p).held e.h.2=some v from b2];refine⟨v,rfl,k0 _ _ ?_,.inr (.inl ⟨a,v,b1⟩)⟩;rw[gU (by rw[a];decide+kernel),ip a];unfold Sn.A;rw[b1];rfl
     ·rw[gU (by rw[a];decide+kernel),ip a,b1,hin p hlo (by lia),ip rfl,show(s.pt p).st d=some 0 from b2];refine⟨0,rfl,k0 _ _ ?_,.inr (.inr a)⟩;rw[gU (by rw[a];decide+kernel),gU (by rw[a];decide+kernel)]
    refine eah m fun q m1 m2 m3=>?_;refine⟨_,?_,fin (s1:=s.pt p) (s2:=s.pt p) (X:=[]) (Y:=[(q,s.n)]) (Rk.refl (pk0 rfl rfl).ps) rfl rfl rfl rfl (fun _ _=>rfl) (by rw[eh];exact m2) ⟨⟨_,sp⟩,fun k hk=>by(cases hk),fun z=>by(cases z),fun k hk=>by(cases hk),fun w' _=>⟨e.h,eh,m3⟩⟩⟩;rw[eh];show kX L roots (some e.h) p s.n (s.pt p) (.name w)=some (Ls.out _ [] [] [(q,s.n)]);unfold kX;dsimp only;rw[m1];exact congrArg some (CZ _ _ _)
  |fn w=>
   match ks,(show ks.length=1 from o1)with
   |[a],_=>
    have P1:=pk1 rfl rfl;unfold oY at o2;have na:=rL a [];have ss:=Gx a;have tp:=oZ a;have a0:aL (SS G lo (p+ 1)) ((p+ 1:Nat):Int)=[]:=by unfold aL;rw[P1.cs _ (fQ _) (by lia)]
    refine eal (K a (p+ 1) (exS sc (some (w,"fn")) (p+ 1) 0 0) (adN N (some (w,"fn"))) (((s.pt p).pt p).hold ((p+ 1:Nat):Int) (s.pt p).n) hk.1 o2.1 (by lia) (by lia) (by lia) (P1.hs.bind P1.lt (.inl ⟨rfl,rfl,inn rfl⟩)) (by rw[a0,aD];exact P1.ps) fun i z1 z2=>P1.cs i (by lia) (by lia)) fun q s1 h1 h2 h3=>?_;have eq:(SS G lo hi).S ((p+ 1:Nat):Int)=q:=by unfold Sn.S;rw[h2];rfl
    refine⟨_,?_,fin (s1:=((s.pt p).pt p).hold ((p+ 1:Nat):Int) (s.pt p).n) (s2:=s1) (X:=[]) (Y:=[]) (by rw[ss];exact h3) rfl rfl rfl rfl (fun k z=>sT (by lia)) (fun _=>rfl) ⟨⟨_,sp⟩,fun k hk=>?_,fun z=>⟨_,inn z⟩,fun k hk=>by(cases hk),fun w' e=>nomatch e⟩⟩;·show kX L roots (hoC c) p s.n (s.pt p) (.fn w ((p+ 1:Nat):Int))=some (Ls.out _ [⟨"fn",.tup [kD ((SS G lo hi).I p),kD ((SS G lo hi).S ((p+ 1:Nat):Int))],(SS G lo hi).S p,p⟩] [] []);rw[eI rfl,eS,eq,<-nj];simp only[kX,h1]
    ·rw[bb.mp (show k∈[((p+ 1:Nat):Int)]from hk)];exact⟨_,h2⟩
  |tag w=>
   match ks,(show ks.length=1 from o1)with
   |[a],_=>refine eah (BZ K hk o2 hnn (pk0 rfl rfl)) fun s1 h1 h2 h3=>?_;refine⟨_,?_,fin (X:=[]) (Y:=[]) h3 rfl rfl rfl rfl (fun _ _=>rfl) (fun _=>rfl) ⟨⟨_,sp⟩,fun k hk=>by rw[bb.mp (show k∈[((p+ 1:Nat):Int)]from hk)];exact h2,fun z=>by(cases z),fun k hk=>by(cases hk),fun w' e=>nomatch e⟩⟩;show kX L roots (hoC c) p s.n (s.pt p) (.tag w ((p+ 1:Nat):Int))=some (Ls.out _ [⟨"tag",.tup [sD w,kD ((SS G lo hi).S ((p+ 1:Nat):Int))],(SS G lo hi).S p,p⟩] [] []);rw[eS,<-nj];simp only[kX,h1]
  |get w=>
   match ks,(show ks.length=1 from o1)with
   |[a],_=>refine eah (BZ K hk o2 hnn (pk0 rfl rfl)) fun s1 h1 h2 h3=>?_;refine⟨_,?_,fin (X:=[]) (Y:=[]) h3 rfl rfl rfl rfl (fun _ _=>rfl) (fun _=>rfl) ⟨⟨_,sp⟩,fun k hk=>by rw[bb.mp (show k∈[((p+ 1:Nat):Int)]from hk)];exact h2,fun z=>by(cases z),fun k hk=>by(cases hk),fun w' e=>nomatch e⟩⟩;show kX L roots (hoC c) p s.n (s.pt p) (.get ((p+ 1:Nat):Int) w)=some (Ls.out _ [] [.take ((SS G lo hi).S ((p+ 1:Nat):Int)) p 0 [(w,(SS G lo hi).S p)]] []);rw[eS,<-pd];simp only[kX,h1]
  |lt w=>exact o1.elim
  |rcd l=>
   refine eah (Gr K (l:=l) (acc:=[]) o1.1 hk o2 hnn (pk0 rfl rfl)) fun s1 h1 h3 h2=>?_;refine⟨_,?_,fin (X:=[]) (Y:=[]) h3 rfl rfl rfl rfl (fun _ _=>rfl) (fun _=>rfl) ⟨⟨_,sp⟩,fun k hk=>?_,fun z=>by(cases z),fun k hk=>by(cases hk),fun w' e=>nomatch e⟩⟩;·show kX L roots (hoC c) p s.n (s.pt p) (.rcd _)=some (Ls.out _ [⟨"rec",prD (((l.zip (iA ks (p+ 1))).map fun q=>(q.1,(q.2:Int))).map fun x=>(x.1,(SS G lo hi).S x.2)),(SS G lo hi).S p,p⟩] [] []);rw[eS,<-nj];simp only[kX,h1];rfl
   ·have hk:k∈((l.zip (iA ks (p+ 1))).map fun q=>(q.1,(q.2:Int))).map fun x=>x.2:=hk;rw[bh]at hk;refine eae (bg.mp hk) fun q hq z0=>?_;subst z0;exact h2 q.2 (aF hq).2
  |row m=>
   refine eah (Gs K (th:=(s.pt p).n) hk o2 hnn (pk1 rfl rfl)) fun s1 h1 h3 h2=>?_;refine⟨_,?_,fin (Y:=[]) h3 rfl rfl rfl rfl (fun _ _=>rfl) (fun x=>?_) ⟨⟨_,sp⟩,fun k hk=>?_,fun z=>⟨_,inn z⟩,fun k hk=>by(cases hk),fun w' e=>nomatch e⟩⟩;·show kX L roots (hoC c) p s.n (s.pt p) (.row _)=some (Ls.out _ [mkR ((SS G lo hi).I p) ((SS G lo hi).S p) p] [] []);rw[eS,eI rfl,<-nj];simp only[kX,h1]
   ·show(bj (fun k=>((SS G lo hi).S k,(SS G lo hi).I p)) ((iA ks (p+ 1)).map fun p:Nat=>(p:Int))).count x=_;rw[eI rfl,cB];rfl
   ·have hk:k∈(iA ks (p+ 1)).map fun p:Nat=>(p:Int):=hk;refine eae (bg.mp hk) fun q hq z0=>?_;subst z0;exact h2 q hq
  |case l=>
   match ks,o1 with
   |[],o1=>exact absurd o1.1 (by simp)
   |a::bs,o1=>
    have lb:bs.length=l.length:=by have:=o1.1;simpa using this
    have na:=rL a bs;have ss:szs (a::bs)=a.sz+szs bs:=by rw[szs]
    have tp:=oZ a;unfold oY at o2;have a1:(SS G lo (p+ 1)).ps=(s.pt p).D.pts:=by have a1:=A.ps;refine a1.trans ?_;rw[gU (by show ¬false=true;decide),aD,<-ps];rfl
    have earm:arms (roK (.case l) (iA (a::bs) (p+ 1)))=(iA bs (p+ 1+a.sz)).map fun n:Nat=>(n:Int):=by
     show((l.zip (iA bs (p+ 1+a.sz))).map fun q=>(q.1.1,q.1.2,(q.2:Int))).map (fun x=>x.2.2)=_;rw[bh];have:(l.zip (iA bs (p+ 1+a.sz))).map Jc=iA bs (p+ 1+a.sz):=bA (by rw[TM.Internal.offs_len];lia);conv=>rhs;rw[<-this]
     rw[bh];rfl
    have cs1:∀i:Nat,p<i->i<p+(1+szs (a::bs))->(SS G lo (p+ 1)).cs i=if i∈iA bs (p+ 1+a.sz)then some (p:Int)else none:=fun i z1 z2=>by
     rw[A.cs,earm];have:((i:Int)∈(iA bs (p+ 1+a.sz)).map fun n:Nat=>(n:Int))↔i∈iA bs (p+ 1+a.sz):=by simp only[bg];exact⟨fun⟨j,h1,h2⟩=>by rw[<-Int.ofNat.inj h2];exact h1,fun h=>⟨i,h,rfl⟩⟩
     simp only[this];rw[cs i (by lia) (by lia)]
    have na':∀i:Nat,i<p+ 1+a.sz->i∉iA bs (p+ 1+a.sz):=fun i z y=>by have:=wk y;lia
    have P0:Pk G lo hi d N sc p (p+ 1) (a.sz+ 0) (s.pt p):=⟨hs.mo (fun _ _=>rfl) rfl (fQ _),by lia,a1.symm,fun i z1 z2=>by obtain⟨j,rfl⟩:∃j:Nat,i=(j:Int):=⟨i.toNat,by lia⟩;rw[cs1 j (by lia) (by lia),gU (na' j (by lia))],by lia,by lia⟩;refine eak (sV K hk.1 o2.1 (by lia) P0) fun q s1 h1 h2 h3 P1=>?_;refine eah (Gu K (p0:=p) (own:=s.n) (l:=l) (acc:=[]) lb hk.2 o2.2 (by lia) P1.hs (by lia) P1.ps (fun i z1 z2=>by rw[h3.cs i (by lia),cs1 i (by lia) (by lia)]) (by lia) (by lia)) fun s2 g1 g2 g3=>?_;have eq:(SS G lo hi).S ((p+ 1:Nat):Int)=q:=by unfold Sn.S;rw[h2];rfl
    refine⟨_,?_,fin (s1:=s.pt p) (s2:=s2) (Y:=[]) (by rw[ss];exact h3.trans g2) rfl rfl rfl rfl (fun _ _=>rfl) (fun x=>?_) ⟨⟨_,sp⟩,fun k hk=>?_,fun z=>by(cases z),fun k hk=>?_,fun w' e=>nomatch e⟩⟩;·show kX L roots (hoC c) p s.n (s.pt p) (.case ((p+ 1:Nat):Int) ((l.zip (iA bs (p+ 1+a.sz))).map fun q=>(q.1.1,q.1.2,(q.2:Int))))=some (Ls.out _ [] [.case ((SS G lo hi).S ((p+ 1:Nat):Int)) p 0 (((l.zip (iA bs (p+ 1+a.sz))).map fun q=>(q.1.1,q.1.2,(q.2:Int))).map fun a=>(a.1,(SS G lo hi).A a.2.2))] []);rw[eq,<-pd];simp only[kX,h1,g1];rfl
    ·show(bj (fun a=>((SS G lo hi).S a.2.2,(SS G lo hi).S p)) ((l.zip (iA bs (p+ 1+a.sz))).map fun q=>(q.1.1,q.1.2,(q.2:Int)))).count x=_;rw[eS,cB];rfl
    ·rcases aj.mp (show k∈((p+ 1:Nat):Int)::arms (roK (.case l) (iA (a::bs) (p+ 1)))from hk)with rfl|hk;·exact⟨_,h2⟩
     ·rw[earm]at hk;refine eae (bg.mp hk) fun n hn z0=>?_;subst z0;exact(g3 n hn).1
    ·rw[earm]at hk;refine eae (bg.mp hk) fun n hn z0=>?_;subst z0;exact(g3 n hn).2
  |op o m=>
   obtain⟨lk,ho⟩:ks.length=m/\(o,m)∈TM.Internal.ops:=o1;simp only[TM.Internal.ops,aj,Jt,bo,or_false]at ho;have m1:∀{x y:Int} {Z:Int->Prop},Z x->∀k∈[x],Z k:=fun h k hk=>by rw[bb.mp hk];exact h
   have m2:∀{x y:Int} {Z:Int->Prop},Z x->Z y->∀k∈[x,y],Z k:=fun h1 h2 k hk=>by
    simp only[aj,bo,or_false]at hk;rcases hk with rfl|rfl;·exact h1
    ·exact h2
   have m3:∀{x y z:Int} {Z:Int->Prop},Z x->Z y->Z z->∀k∈[x,y,z],Z k:=fun h1 h2 h3 k hk=>by
    simp only[aj,bo,or_false]at hk;rcases hk with rfl|rfl|rfl;·exact h1
    ·exact h2
    ·exact h3
   rcases ho with⟨rfl,rfl⟩|⟨rfl,rfl⟩|⟨rfl,rfl⟩|⟨rfl,rfl⟩|⟨rfl,rfl⟩|⟨rfl,rfl⟩|⟨rfl,rfl⟩
   ·match ks,lk with
    |[a,b],_=>refine eap (yr K hk o2 hnn (pk0 CY rfl)) fun s1 s2 h1 h2 v1 v2 h3=>?_;refine⟨_,?_,fin (X:=[]) (Y:=[]) h3 rfl rfl rfl rfl (fun _ _=>rfl) (fun _=>rfl) ⟨⟨_,sp⟩,m2 v1 v2,fun z=>absurd (z.symm.trans CY) (by decide),fun k hk=>by(cases hk),fun w' e=>nomatch e⟩⟩;show kX L roots (hoC c) p s.n (s.pt p) (.op "call" [((p+ 1:Nat):Int),((p+ 1+a.sz:Nat):Int)])=some (Ls.out _ (mdR _ _ (.op "call" _)) (udR _ _ (.op "call" [((p+ 1:Nat):Int),((p+ 1+a.sz:Nat):Int)])) []);rw[AB,AG,eS,<-pd];unfold kX;dsimp only;rw[ip rfl];simp only[h1,h2]
   ·match ks,lk with
    |[a,b,e],_=>
     refine eaB (EE K hk o2 hnn (pk0 IM rfl)) fun s1 s2 s3=>fam fun h1 h2 h3 v1 v2 v3 h4=>?_;refine⟨_,?_,fin (X:=[]) (Y:=[((SS G lo hi).S ((p+ 1+a.sz+b.sz:Nat):Int),s.n)]) h4 rfl rfl rfl rfl (fun _ _=>rfl) (fun x=>?_) ⟨⟨_,sp⟩,m3 v1 v2 v3,fun z=>absurd (z.symm.trans IM) (by decide),fun k hk=>by(cases hk),fun w' e=>nomatch e⟩⟩;·show kX L roots (hoC c) p s.n (s.pt p) (.op "at" [((p+ 1:Nat):Int),((p+ 1+a.sz:Nat):Int),((p+ 1+a.sz+b.sz:Nat):Int)])=some (Ls.out _ (mdR _ _ (.op "at" _)) (udR _ _ (.op "at" [((p+ 1:Nat):Int),((p+ 1+a.sz:Nat):Int),((p+ 1+a.sz+b.sz:Nat):Int)])) _);rw[Gy,Gz,eS];unfold kX;dsimp only;rw[ip rfl];simp only[h1,h2,h3,pd,CZ,p6,cc,aS]
     ·show(fdR (SS G lo hi) p (hoC c) (.op "at" [((p+ 1:Nat):Int),((p+ 1+a.sz:Nat):Int),((p+ 1+a.sz+b.sz:Nat):Int)])).count x=_;rw[Dg,eS,cB,cX]
   ·match ks,lk with
    |[a,b],_=>refine eap (yr K hk o2 hnn (pk1 xE rfl)) fun s1 s2 h1 h2 v1 v2 h3=>?_;refine⟨_,?_,fin (X:=[]) (Y:=[]) h3 rfl rfl rfl rfl (fun _ _=>rfl) (fun _=>rfl) ⟨⟨_,sp⟩,m2 v1 v2,fun z=>⟨_,inn z⟩,fun k hk=>by(cases hk),fun w' e=>nomatch e⟩⟩;show kX L roots (hoC c) p s.n (s.pt p) (.op "join" [((p+ 1:Nat):Int),((p+ 1+a.sz:Nat):Int)])=some (Ls.out _ (mdR _ _ (.op "join" _)) (udR _ _ (.op "join" [((p+ 1:Nat):Int),((p+ 1+a.sz:Nat):Int)])) []);rw[AD,AH,eS,eI xE];unfold kX;dsimp only;rw[gU gG,ip rfl];simp only[h1,h2,pd,nj,p6,cc,aS]
   ·match ks,lk with
    |[a],_=>refine eah (BZ K hk o2 hnn (pk1 Az rfl)) fun s1 h1 v1 h3=>?_;refine⟨_,?_,fin (X:=[]) (Y:=[]) h3 rfl rfl rfl rfl (fun _ _=>rfl) (fun _=>rfl) ⟨⟨_,sp⟩,m1 (y:=0) v1,fun z=>⟨_,inn z⟩,fun k hk=>by(cases hk),fun w' e=>nomatch e⟩⟩;show kX L roots (hoC c) p s.n (s.pt p) (.op "size" [((p+ 1:Nat):Int)])=some (Ls.out _ (mdR _ _ (.op "size" _)) (udR _ _ (.op "size" [((p+ 1:Nat):Int)])) []);rw[AE,AI,eS,eI Az];unfold kX;dsimp only;rw[ip rfl];simp only[h1,pd,nj,p6,cc,aS]
   ·match ks,lk with
    |[a,b],_=>refine eap (yr K hk o2 hnn (pk0 Gv rfl)) fun s1 s2 h1 h2 v1 v2 h3=>?_;refine⟨_,?_,fin (X:=[]) (Y:=[]) h3 rfl rfl rfl rfl (fun _ _=>rfl) (fun _=>rfl) ⟨⟨_,sp⟩,m2 v1 v2,fun z=>absurd (z.symm.trans Gv) (by decide),fun k hk=>by(cases hk),fun w' e=>nomatch e⟩⟩;show kX L roots (hoC c) p s.n (s.pt p) (.op "add" [((p+ 1:Nat):Int),((p+ 1+a.sz:Nat):Int)])=some (Ls.out _ (mdR _ _ (.op "add" _)) (udR _ _ (.op "add" [((p+ 1:Nat):Int),((p+ 1+a.sz:Nat):Int)])) []);rw[Dc,De,eS];unfold kX;dsimp only;rw[gU gG,gU gG,gU gG,ip (.inl rfl)];simp only[oR,h1,h2,pd,nj,p6,cc,aS]
   ·match ks,lk with
    |[a,b],_=>refine eap (yr K hk o2 hnn (pk0 Gw rfl)) fun s1 s2 h1 h2 v1 v2 h3=>?_;refine⟨_,?_,fin (X:=[]) (Y:=[]) h3 rfl rfl rfl rfl (fun _ _=>rfl) (fun _=>rfl) ⟨⟨_,sp⟩,m2 v1 v2,fun z=>absurd (z.symm.trans Gw) (by decide),fun k hk=>by(cases hk),fun w' e=>nomatch e⟩⟩;show kX L roots (hoC c) p s.n (s.pt p) (.op "sub" [((p+ 1:Nat):Int),((p+ 1+a.sz:Nat):Int)])=some (Ls.out _ (mdR _ _ (.op "sub" _)) (udR _ _ (.op "sub" [((p+ 1:Nat):Int),((p+ 1+a.sz:Nat):Int)])) []);rw[Dd,Df,eS];unfold kX;dsimp only;rw[gU gG,gU gG,gU gG,ip (.inr rfl)];simp only[oR,h1,h2,pd,nj,p6,cc,aS]
   ·match ks,lk with
    |[a,b],_=>refine eap (yr K hk o2 hnn (pk1 AA rfl)) fun s1 s2 h1 h2 v1 v2 h3=>?_;refine⟨_,?_,fin (X:=[]) (Y:=[]) h3 rfl rfl rfl rfl (fun _ _=>rfl) (fun _=>rfl) ⟨⟨_,sp⟩,m2 v1 v2,fun z=>⟨_,inn z⟩,fun k hk=>by(cases hk),fun w' e=>nomatch e⟩⟩;show kX L roots (hoC c) p s.n (s.pt p) (.op "less" [((p+ 1:Nat):Int),((p+ 1+a.sz:Nat):Int)])=some (Ls.out _ (mdR _ _ (.op "less" _)) (udR _ _ (.op "less" [((p+ 1:Nat):Int),((p+ 1+a.sz:Nat):Int)])) []);rw[AF,AJ,eS,eI AA];unfold kX;dsimp only;rw[gU gG,gU gG,ip rfl];simp only[oR,h1,h2,pd,nj,p6,cc,aS]
open TM.Internal (Kn Tr iA szs)
structure Sw (H:Hp) (a0 d1 d2 d3 d4:Zx) (s:Sn) (n:Nat):Prop where
 p:H a0=some (.lst (s.ps.map V.int))
 l:s.ps.length<=n
 sp:DkI H d1 s.sp n
 inn:DkI H d2 s.inn n
 ar:DkI H d3 s.ar n
 cs:DkI H d4 s.cs n
def Nd (d1 d2 d3 d4:Zx):Prop:=d1≠d2/\d1≠d3/\d1≠d4/\d2≠d3/\d2≠d4/\d3≠d4
def DkI.le {a:Zx} {g:Int->Option Int} {n m:Nat} (l:n<=m):DkI H a g n->DkI H a g m
 |⟨k,e,z,r⟩=>⟨k,e,by lia,r⟩
def DkI.same {a:Zx} {g:Int->Option Int} {n:Nat} (S:gT H H'):DkI H a g n->DkI H' a g n
 |⟨k,e,z,r⟩=>⟨k,S _ _ e,z,r⟩
def DkI.ne {a b:Zx} {g:Int->Option Int} {n:Nat} (h:a≠b):DkI H a g n->DkI (Zk H b o) a g n
 |⟨k,e,z,r⟩=>⟨k,by rw[gx h];exact e,z,r⟩
def DkI.nl {a b:Zx} {g:Int->Option Int} {n:Nat} (h:H b=some (.lst xs)):DkI H a g n->DkI (Zk H b o) a g n
 |⟨k,e,z,r⟩=>⟨k,by rw[gx (jP e h (fun z=>nomatch z))];exact e,z,r⟩
def DkI.pl {a b:Zx} {g:Int->Option Int} {n:Nat} (h:H b=some (.lst xs)):DkI H a g n->(Zk H a o) b=some (.lst xs)
 |⟨k,e,z,r⟩=>by rw[gx (jP h e (fun z=>nomatch z))];exact h
section
variable {H:Hp} {a0 d1 d2 d3 d4:Zx} {s:Sn} {n:Nat}
def Sw.mo {m:Nat} (h:Sw H a0 d1 d2 d3 d4 s n) (l:n<=m):Sw H a0 d1 d2 d3 d4 s m:=⟨h.p,cJ h.l l,h.sp.le l,h.inn.le l,h.ar.le l,h.cs.le l⟩
theorem Sw.same (h:Sw H a0 d1 d2 d3 d4 s n) (S:gT H H'):Sw H' a0 d1 d2 d3 d4 s n:=⟨S _ _ h.p,h.l,h.sp.same S,h.inn.same S,h.ar.same S,h.cs.same S⟩
def Sw.app (h:Sw H a0 d1 d2 d3 d4 s n) (x:Int):Sw (Zk H a0 (.lst (s.ps.map V.int++[.int x]))) a0 d1 d2 d3 d4 {s with ps:=s.ps++[x]} (n+ 1):=by have a:=h.p;have b:=h.l;exact⟨by rw[gm,bB];rfl,by show(s.ps++[x]).length<=_;rw[aO,aX];lia,(h.sp.nl a).le (by lia),(h.inn.nl a).le (by lia),(h.ar.nl a).le (by lia),(h.cs.nl a).le (by lia)⟩
def Sw.pS (h:Sw H a0 d1 d2 d3 d4 s n) (N:Nd d1 d2 d3 d4) (i:n<10000000) (k v:Int):∃a,yt H d1 (.int k) (.int v) a/\(∃o,a=Zk H d1 (.dK o))/\Sw a a0 d1 d2 d3 d4 {s with sp:=put s.sp k v} (n+ 1):=by refine eai N fun g f d m l j=>?_;refine eaE (h.sp.put i k v) fun a e c r=>?_;obtain⟨o,b⟩:=c;subst b;exact⟨_,e,⟨o,rfl⟩,h.sp.pl h.p,cS h.l,r,(h.inn.ne g.symm).le (by lia),(h.ar.ne f.symm).le (by lia),(h.cs.ne d.symm).le (by lia)⟩
def Sw.pI (h:Sw H a0 d1 d2 d3 d4 s n) (N:Nd d1 d2 d3 d4) (i:n<10000000) (k v:Int):∃a,yt H d2 (.int k) (.int v) a/\(∃o,a=Zk H d2 (.dK o))/\Sw a a0 d1 d2 d3 d4 {s with inn:=put s.inn k v} (n+ 1):=by refine eai N fun g m l f d j=>?_;refine eaE (h.inn.put i k v) fun a e c r=>?_;obtain⟨o,b⟩:=c;subst b;exact⟨_,e,⟨o,rfl⟩,h.inn.pl h.p,cS h.l,(h.sp.ne g).le (by lia),r,(h.ar.ne f.symm).le (by lia),(h.cs.ne d.symm).le (by lia)⟩
def Sw.pA (h:Sw H a0 d1 d2 d3 d4 s n) (N:Nd d1 d2 d3 d4) (i:n<10000000) (k v:Int):∃a,yt H d3 (.int k) (.int v) a/\(∃o,a=Zk H d3 (.dK o))/\Sw a a0 d1 d2 d3 d4 {s with ar:=put s.ar k v} (n+ 1):=by refine eai N fun m g l f j d=>?_;refine eaE (h.ar.put i k v) fun a e c r=>?_;obtain⟨o,b⟩:=c;subst b;exact⟨_,e,⟨o,rfl⟩,h.ar.pl h.p,cS h.l,(h.sp.ne g).le (by lia),(h.inn.ne f).le (by lia),r,(h.cs.ne d.symm).le (by lia)⟩
def Sw.pC (h:Sw H a0 d1 d2 d3 d4 s n) (N:Nd d1 d2 d3 d4) (i:n<10000000) (k v:Int):∃a,yt H d4 (.int k) (.int v) a/\(∃o,a=Zk H d4 (.dK o))/\Sw a a0 d1 d2 d3 d4 {s with cs:=put s.cs k v} (n+ 1):=by refine eai N fun m l g j f d=>?_;refine eaE (h.cs.put i k v) fun a e c r=>?_;obtain⟨o,b⟩:=c;subst b;exact⟨_,e,⟨o,rfl⟩,h.cs.pl h.p,cS h.l,(h.sp.ne g).le (by lia),(h.inn.ne f).le (by lia),(h.ar.ne d).le (by lia),r⟩
end
def DkI.look {a:Zx} {g:Int->Option Int} {n:Nat} (h:DkI H a g n) (k:Int):rO H a (.int k) ((g k).map V.int):=by refine eaE h fun b c l r=>?_;have z:=rO.k (k:=(Jw k:Key)) c;rw[r k]at z;exact z
inductive Sps (H:Hp) (sh:Zx) (F:Sn):Prop
 |mk (a0 d1 d2 d3:Zx) (n:Nat) (e:H sh=some (.lst [.ref a0,.ref d1,.ref d2,.ref d3])) (p:H a0=some (.lst (F.ps.map V.int))) (l:F.ps.length<=100000) (s:DkI H d1 F.sp n) (i:DkI H d2 F.inn n) (a:DkI H d3 F.ar n)
theorem Sps.same {sh:Zx} {F:Sn} (S:gT H H'):Sps H sh F->Sps H' sh F
 |⟨a0,d1,d2,d3,n,e,p,l,s,i,a⟩=>⟨a0,d1,d2,d3,n,S _ _ e,S _ _ p,l,s.same S,i.same S,a.same S⟩
inductive XSp (vs:List V) (H:Hp) (Q:VK):Prop
 |mk (ra:Zx) (rs:List V) (ρs:List Ro) (lo hi:Nat) (e:vs=[.ref ra,.int (lo:Int),.int (hi:Int)]) (hr:H ra=some (.lst rs)) (ir:Ims H rs (ρs.map Ro.d)) (fw:∀(k:Nat) (ρ:Ro),ρs[k]?=some ρ->ρ.few/\Wf ρ) (h1:lo<=hi) (h2:hi<=ρs.length) (h3:ρs.length<=3000) (q:∀H' sh,gT H H'->Sps H' sh (snF ρs lo hi)->Q (.ref sh) H')
def Ik:Sp:=fun a H Q _=>XSp a H Q
def EF{l:List Int} {v:Int} (h:l[j]?=some k):put (csN g (l.take j) v) k v=csN g (l.take (j+ 1)) v:=by
 funext i;have e:l.take (j+ 1)=l.take j++[k]:=by rw[bU,h];rfl
 unfold put csN;rw[e];by_cases z:i=k;·rw[ip z,ip (by simp[z])]
 ·rw[gU z];by_cases y:i∈l.take j;·rw[ip y,ip (by simp[y])]
  ·rw[gU y,gU (by simp[y,z])]
def AK{s:Sn}:s.c [] p=s:=by
 have:csN s.cs [] p=s.cs:=by funext i;exact gU (by simp)
 unfold Sn.c;rw[this]
def DkI.tkd {a:Zx} {g:Int->Option Int} {n:Nat} (h:DkI H a g n):TK H (Zk H a o):=fun b d e=>by refine eax h fun k c _=>?_;rw[gx (jP e c (fun z=>nomatch z))];exact e
def in5 (h:Wf ρ):inV (.str ρ.s) ((["fn","row","join","size","less"]:Zd).map V.str)=inR ρ:=by
 cases ρ with
 |op o a=>simp only[Wf,TM.Internal.ops,aj,Jt,bo,or_false]at h;show inV (.str o) _=(o=="join"||o=="size"||o=="less");rcases h with⟨rfl,_⟩|⟨rfl,_⟩|⟨rfl,_⟩|⟨rfl,_⟩|⟨rfl,_⟩|⟨rfl,_⟩|⟨rfl,_⟩<;>decide+kernel
 |num=>show inV (.str "num") _=false;decide+kernel
 |name=>show inV (.str "name") _=false;decide+kernel
 |fn=>show inV (.str "fn") _=true;decide+kernel
 |tag=>show inV (.str "tag") _=false;decide+kernel
 |lt=>exact h.elim
 |get=>show inV (.str "get") _=false;decide+kernel
 |rcd=>show inV (.str "rec") _=false;decide+kernel
 |case=>show inV (.str "case") _=false;decide+kernel
 |row=>show inV (.str "row") _=true;decide+kernel
def Il (h:Wf c) (n:∀k l,c≠ .case k l):decide (c.s="case")=false/\arms c=[]:=by
 have d:∀(s:Str) (c:Ro),c.s=s->decide (s="case")=false->arms c=[]->decide (c.s="case")=false/\arms c=[]:=fun s c e a b=>by subst e;exact⟨a,b⟩
 cases c with
 |op o f=>simp only[Wf,TM.Internal.ops,aj,Jt,bo,or_false]at h;refine d o _ rfl ?_ rfl;rcases h with⟨rfl,_⟩|⟨rfl,_⟩|⟨rfl,_⟩|⟨rfl,_⟩|⟨rfl,_⟩|⟨rfl,_⟩|⟨rfl,_⟩<;>decide+kernel
 |case k l=>exact absurd rfl (n k l)
 |num=>exact d "num" _ rfl gG rfl
 |name=>exact d "name" _ rfl gG rfl
 |fn=>exact d "fn" _ rfl gG rfl
 |tag=>exact d "tag" _ rfl gG rfl
 |lt=>exact h.elim
 |get=>exact d "get" _ rfl gG rfl
 |rcd=>exact d "rec" _ rfl gG rfl
 |row=>exact d "row" _ rfl gG rfl
def uf (T:Txt K mg):FO P w base 1 T.d45 Ik:=by
 refine T.d45.F.rd iL fun cdv A0 outer s H vs Q E hr h=>?_;obtain⟨ra,rs,G,m,J,rfl,er,ir,fw,h1,h2,h3,q⟩:=h;have Z:=rP hr;refine HzX ?_;intro _;refine io _ ((gq (pS (i:=3) iL.nd (gN (gk (cv 1) gn)))
  (gq (pS (i:=4) iL.nd lT)
  (gq (pS (i:=5) iL.nd lT)
  (gq (pS (i:=6) iL.nd lT)
  (gq (pS (i:=7) iL.nd lT)
  (gq (kj IW rfl (uq rfl T.z_range (gk (cv 1) (gk (cv 2) gn))) (pN (i:=8) iL.nd)
   (gq (pS (i:=9) iL.nd (gB gC (cv 0) (cv 8)))
   (gq (iC (gL jb (gB gF (cv 9) gu) gE)
    (gw (kj IW rfl (p8 (gB gF (cv 9) gu)) (pN (i:=10) iL.nd)
     (gw (nA Z (cv 7) (gB gF (cv 10) gu) (cv 8) rfl))))
    gQ)
   (gq (iC (yB (Fc Z (cv 8) (cv 7)) rfl)
    (gq (nA Z (cv 6) (cv 8) (hV g9 rfl T.z_len jB (gk (cv 3) gn)) rfl)
    (gw (gS (jT (lB ff fg fh iu (J7 (cv 3)) (gk (J7 (iq Z (cv 7) (cv 8))) gn))))))
    gQ)
   (gq (nA Z (cv 4) (cv 8) (hV g9 rfl T.z_len jB (gk (cv 3) gn)) rfl)
   (gq (gS (jT (lB ff fg fh iu (J7 (cv 3)) (gk (J7 (cv 8)) gn))))
   (gw (iC (gL oG (gB gF (cv 9) gu) (gN (gk gE (gk gE (gk gE (gk gE (gk gE gn)))))) rfl)
    (gq (nA Z (cv 5) (cv 8) (hV g9 rfl T.z_len jB (gk (cv 3) gn)) rfl)
    (gw (gS (jT (lB ff fg fh iu (J7 (cv 3)) (gk (J7 (cv 8)) gn))))))
    gQ))))))))
  (gw (gM (gN (gk (cv 3) (gk (cv 4) (gk (cv 5) (gk (cv 6) gn)))))))))))))) ?_;refine Hz6 ?_;intros;have sl:=IS;refine⟨kJ,fun v g0=>?_⟩;dsimp only[gX];refine fun C g1=>?_;dsimp only[gX];refine fun B g2=>?_;dsimp only[gX];refine fun A g3=>?_;dsimp only[gX];refine fun y U=>?_;dsimp only[gX];have nn:∀{H2:Hp} {a:Zx},gT H H2->H2 a=none->H a=none:=fun{H2 a} S h=>by cases z:H a with|none=>rfl|some u=>rw[S _ _ z]at h;cases h
 have S0:=gr g0 (.lst [.int (m:Int)]);have S1:=gr g1 (.dK []);have N:=gr g2 (.dK []);have O:=gr g3 (.dK []);have S4:=gr U (.dK []);have nd1:=nn S0 g1;have nd2:=nn (S0.trans S1) g2;have nd3:=nn (S0.trans (S1.trans N)) g3;have nd4:=nn (S0.trans (S1.trans (N.trans O))) U;have nd:Nd C B A y:=by
  refine⟨fun z=>?_,fun z=>?_,fun z=>?_,fun z=>?_,fun z=>?_,fun z=>?_⟩;·rw[<-z,gm]at g2;cases g2
  ·rw[<-z,N _ _ gm]at g3;cases g3
  ·rw[<-z,O _ _ (N _ _ gm)]at U;cases U
  ·rw[<-z,gm]at g3;cases g3
  ·rw[<-z,O _ _ gm]at U;cases U
  ·rw[<-z,gm]at U;cases U
 have dn:∀{H:Hp} {d:Zx},H d=some (.dK [])->DkI H d (fun _=>none) 1:=fun h=>(iad ([]) h (cO _) (fun k=>rfl));have w0:Sw (Zk (Zk (Zk (Zk (Zk H v (.lst [.int (m:Int)])) C (.dK [])) B (.dK [])) A (.dK [])) y (.dK [])) v C B A y (snF G m (m+ 0)) (1+ 20*0):=by rw[dg,CU];exact⟨(S1.trans (N.trans (O.trans S4))) _ _ gm,cN _,dn ((N.trans (O.trans S4)) _ _ gm),dn ((O.trans S4) _ _ gm),dn (S4 _ _ gm),dn gm⟩
 have Sb:=S0.trans (S1.trans (N.trans (O.trans S4)));generalize(Zk (Zk (Zk (Zk (Zk H v (.lst [.int (m:Int)])) C (.dK [])) B (.dK [])) A (.dK [])) y (.dK []))=Hb at w0 Sb;have bd:∀n:Nat,n<=3000-> -(2^62)<=(n:Int)/\(n:Int)<2^62:=fun n h=>⟨by lia,by lia⟩;have en:((J:Int)-(m:Int)).toNat=J-m:=by lia
 refine iab (m:Int) (J:Int) rfl ⟨(bd m (by lia)).1,(bd m (by lia)).2,(bd J (by lia)).1,(bd J (by lia)).2⟩ ?_;rw[en];refine kK (fun i R H1=>∃(o8 o9 f:Option V),R=[some (.ref ra),some (.int (m:Int)),some (.int (J:Int)),some (.ref v),some (.ref C),some (.ref B),some (.ref A),some (.ref y),o8,o9,f]/\gT H H1/\Sw H1 v C B A y (snF G m (m+i)) (1+ 20*i)) (iar none none none ⟨rfl,Sb,w0⟩) ?_ ?_
 ·refine fun i R H1 li=>faa fun o8 o9 f=>fab fun g S W=>?_;subst g;have lp:m+i<G.length:=by lia
  obtain⟨r,hρ⟩:∃r,G[m+i]?=some r:=⟨_,bf lp⟩;obtain⟨few,wf⟩:=fw _ _ hρ;refine eak (vT (ir.mono (gT.tk S)) hρ) fun t ys hx et iy it=>?_;rw[show(m:Int)+(i:Int)=((m+i:Nat):Int) by lia,show m+(i+ 1)=m+i+ 1 by lia,vo (by lia) hρ];dsimp only[gX];refine io rs (S _ _ er) (gy (gv hx) ?_);dsimp only[gX];generalize m+i=p at hx hρ W;generalize snF G m p=sn at W;refine Ac (fun F D=>∃f,F=[some (.ref ra),some (.int (m:Int)),some (.int (J:Int)),some (.ref v),some (.ref C),some (.ref B),some (.ref A),some (.ref y),some (.int (p:Int)),some (.ref t),f]/\gT H D/\D t=some (.tup (.str r.s::ys))/\Sw D v C B A y (sn.c (arms r) p) (1+ 20*i+ 10)) ?_ ?_
  ·intro nx I;by_cases hc:∃k l,r= .case k l
   ·refine eam hc fun k l g=>?_;subst g;refine jy (i:=9) (x:="case") (s:="case") rfl et gG ?_;refine eal (uj iy) fun y1 y2 g i1 i2=>?_;subst g;refine eal (lP i2) fun tl xs g el il=>?_;subst g;have lx:=il.length;rw[aC]at lx;have few:l.length<=10:=few;refine io _ et (gy (gv (j:=2) rfl) (iad tl rfl ⟨_,J9 el⟩ (tq (xs:=xs) (fun j R D=>∃f,R=[some (.ref ra),some (.int (m:Int)),some (.int (J:Int)),some (.ref v),some (.ref C),some (.ref B),some (.ref A),some (.ref y),some (.int (p:Int)),some (.ref t),f]/\gT H D/\TK H1 D/\Sw D v C B A y (sn.c ((l.map fun x=>x.2.2).take j) p) (1+ 20*i+j)) (iak f rfl S (fun _ _ e=>e) ?_) (fun j R D _ ⟨_,_,_,k,_⟩=>J9 (k _ _ el)) ?_ ?_)));·rw[bQ,AK];exact W
    ·refine fun j x R D hx=>fL fun f=>fac fun g S' k' M=>?_;subst g;have lj:=(aq.mp hx).1;refine eal (BH (il.mono k') hx) fun a t' ha g et'=>?_;subst g;dsimp only[gX];refine eaE (M.pC nd (by lia) a.2.2 p) fun H'' dp Y W''=>?_;obtain⟨o,g⟩:=Y;subst g;refine io _ et' (gy (gv (j:=2) rfl) (iap y _ ⟨rfl,dp,some (.ref t'),rfl,kr S' nd4 _,fun b ws e=>M.cs.tkd _ _ (k' _ _ e),?_⟩));have:=W'';rw[show({sn.c ((l.map fun x=>x.2.2).take j) p with cs:=put (sn.c ((l.map fun x=>x.2.2).take j) p).cs a.2.2 p}:Sn)=sn.c ((l.map fun x=>x.2.2).take (j+ 1)) p from congrArg (fun z=>({sn with cs:=z}:Sn)) (EF (by rw[aM,ha];rfl))]at this;exact this
    ·refine fun R D=>fL fun f=>fac fun g S' k' M=>?_;subst g;rw[bM (by rw[aC];lia)]at M;exact I _ _ (iak f rfl S' (k' _ _ et) (M.mo (by lia)))
   ·obtain⟨c1,c2⟩:=Il wf (fun k l e=>hc (iai k l e));refine hX (i:=9) (x:="case") (s:=r.s) rfl et c1 (I _ _ (iak f rfl S et ?_));rw[c2];refine Sw.mo ?_ (cR _ _);rw[AK];exact W
  refine fun F H2=>fL fun f=>fac fun g N et2 W2=>?_;subst g;have hn:1+ 20*i+ 10<5000000:=by lia
  refine Ac (fun F D=>F=[some (.ref ra),some (.int (m:Int)),some (.int (J:Int)),some (.ref v),some (.ref C),some (.ref B),some (.ref A),some (.ref y),some (.int (p:Int)),some (.ref t),f]/\gT H D/\D t=some (.tup (.str r.s::ys))/\Sw D v C B A y ((sn.c (arms r) p).a p) (1+ 20*i+ 12)) ?_ ?_
  ·intro nx I;refine iap y _ ⟨rfl,W2.cs.look p,_,rfl,?_⟩
   cases e:(sn.c (arms r) p).cs p with
   |none=>refine kU (I _ _ ⟨rfl,N,et2,?_⟩);unfold Sn.a;rw[e];exact W2.mo (by lia)
   |some c=>refine lQ ?_;refine eaE (W2.pA nd (by lia) p ((bj V.int (sn.c (arms r) p).ps).length:Int)) fun H3 dp Y L=>?_;obtain⟨o,g⟩:=Y;subst g;refine iap v _ ⟨rfl,.inl (J8 W2.p),A,_,rfl,dp,?_⟩;have lq:=L.l;refine⟨⟨_,L.p⟩,y,.int c,rfl,L.cs.get e,_,L.p,by rw[aC];lia,I _ _ ⟨rfl,kr (kr N nd3 _) g0 _,(ky L.p).tk _ _ (W2.ar.tkd _ _ et2),?_⟩⟩;have X:=L.app c;unfold Sn.a;rw[e];rw[aC]at X;exact X
  refine fun F H3=>fac fun g O et3 L=>?_;subst g;have e1:sn.one p r=(((sn.c (arms r) p).a p).s p).i (inR r) p:=rfl;generalize(sn.c (arms r) p).a p=sa at L e1;refine eaE (L.pS nd (by lia) p ((bj V.int sa.ps).length:Int)) fun H4 dp Y X=>?_;obtain⟨o,g⟩:=Y;subst g;refine iap v _ ⟨rfl,.inl (J8 L.p),C,_,rfl,dp,?_⟩;have l4:=X.l;refine ian ⟨_,X.p⟩ _ X.p (by rw[aC];lia) ?_;have W5:=X.app p;have et5:=(ky (o:= .lst (sa.ps.map V.int++[.int (p:Int)])) X.p).tk _ _ (L.sp.tkd (o:= .dK o) _ _ et3);have S5:=kr (kr O nd1 (.dK o)) g0 (.lst (sa.ps.map V.int++[.int (p:Int)]));rw[aC]at W5;have W5:Sw _ v C B A y (sa.s p) (1+ 20*i+ 12+ 1+ 1):=W5;dsimp only;refine ifI (i:=9) (o:=r.s) (b:=inR r) ["fn","row","join","size","less"] rfl et5 (in5 wf) (by decide) fun H6 S6=>?_;have W6:=W5.same S6;have SH:=S5.trans S6
  cases hI:inR r with
  |false=>rw[hI]at e1;exact kU (iar _ _ _ ⟨rfl,SH,by rw[e1];exact W6.mo (by lia)⟩)
  |true=>rw[hI]at e1;refine eaE (W6.pI nd (by lia) p ((bj V.int (sa.s p).ps).length:Int)) fun H7 dp7 Y W7=>?_;obtain⟨o7,g⟩:=Y;subst g;refine lQ (iap v _ ⟨rfl,.inl (J8 W6.p),B,_,rfl,dp7,?_⟩);have l7:=W7.l;refine ian ⟨_,W7.p⟩ _ W7.p (by rw[aC];lia) ?_;have W8:=W7.app p;rw[aC]at W8;exact iar _ _ _ ⟨rfl,kr (kr SH nd2 _) g0 _,by rw[e1];exact Sw.mo W8 (by lia)⟩
 ·refine fun R H1=>faa fun o8 o9 f=>fab fun g S W=>?_;subst g;rw[show m+(J-m)=J by lia]at W;refine⟨ui,fun sh hsh=>?_⟩;have S5:=gr hsh (.lst [.ref v,.ref C,.ref B,.ref A]);have M:=W.same S5;exact q _ sh (S.trans S5) ⟨v,C,B,A,_,gm,M.p,cJ M.l (by lia),M.sp,M.inn,M.ar⟩
open TM.Internal (Kn Tr iA szs)
def EG{f:St} (e:H1 a=some (.tup d)) (T:d.length<sizeLine) (s:H1 D=none)
  (r:∀(k:Nat) (v:V),d[k]?=some v->∃t x y,v= .ref t/\H1 t=some (.tup [x,y]))
  (R:List V->Hp->Prop) (E:∀c H h,R c H->TK H h->R c h) (N:R [] H1)
  (j:∀(k:Nat) H t x y c (Z:VK),gT H1 H->d[k]?=some (.ref t)->H1 t=some (.tup [x,y])->R c H->c.length=k->(∀z g,gT H g->R (c++[z]) g->Z z g)->te (some x::some y::f) H Z)
  (M:∀h c,gT H1 h->R c h->c.length=d.length->h D=some (.lst c)->Q (.ref D) h):LcG (Itt K a) (Dw K 2 (pq (gX 0) (pq (gX 1) Dv))) te Q (P::u1::f) H1 D:=by
 have L:∀(g:Hp) (d B:List V),g D=some (.lst d)->TK g (upd g D (.lst B)):=fun g d B e b c q=>by rw[gx (jP q e (fun z=>nomatch z))];exact q
 refine io (fun k m i l=>m=d.length-k/\k<=d.length/\(∃u v,i=u::v::f)/\gT H1 l/\∃c,l D=some (.lst c)/\c.length=k/\R c l) ⟨d.length,by simp,cO _,(iai _ _ rfl),gr s _,[],gm,rfl,E _ _ _ N (gT.tk (gr s _))⟩ ?_;refine fun k m i l=>fah fun o U I S=>fL fun c=>fab fun w p C=>?_;subst o;refine eaD I fun u v G=>?_;subst G;by_cases hlt:k<d.length;·refine .inr ⟨wN e S hlt,?_⟩;rintro y W ⟨rfl,n⟩;have n:=n d (J9 (S _ _ e));refine eaf (r k _ n) fun t x y o F=>?_;subst o;refine iap t _ ⟨rfl,J9 (S _ _ F),rfl,_,_,rfl,_,_,rfl,rfl,?_⟩;refine j k _ t x y c _ S n F C p fun z g A J=>?_;exact⟨c,A D _ w,by lia,d.length-(k+ 1),by lia,rfl,hlt,(iai _ _ rfl),zl (S.trans A) s _,c++[z],gm,by rw[aO,p];rfl,E _ _ _ J (L g _ _ (A D _ w))⟩
 ·have O:k=d.length:=by lia
  subst O;exact .inl ⟨wO e S,M l c S C p w⟩
def im3(h:H t=some (.tup xs)) (i:Ims H xs ds):Im H (.ref t) (.tup ds):= .tup h i
structure Gt (H:Hp) (sh d1 d2 d3:Zx) (F:Sn):Prop where
 e:∃a0,H sh=some (.lst [.ref a0,.ref d1,.ref d2,.ref d3])
 s:∀k,(∃v,F.sp k=some v)->rO H d1 (.int k) (some (.int (F.S k)))
 i:∀k,(∃v,F.inn k=some v)->rO H d2 (.int k) (some (.int (F.I k)))
 a:∀k,(∃v,F.ar k=some v)->rO H d3 (.int k) (some (.int (F.A k)))
def Sps.gt {g:Zx} {F:Sn}:Sps H g F->∃d c b,∀f,gT H f->Gt f g d c b F
 |⟨a0,d,c,b,n,e,p,l,s,i,a⟩=>(iar d c b (fun f S=>⟨⟨a0,S _ _ e⟩,fun k ⟨v,h⟩=>by have:=(s.same S).get h;rw[show v=F.S k by unfold Sn.S;rw[h];rfl]at this;exact this,fun k ⟨v,h⟩=>by have:=(i.same S).get h;rw[show v=F.I k by unfold Sn.I;rw[h];rfl]at this;exact this,fun k ⟨v,h⟩=>by have:=(a.same S).get h;rw[show v=F.A k by unfold Sn.A;rw[h];rfl]at this;exact this⟩))
inductive XMk (due:Sn->Int->Ro->List Dt) (vs:List V) (H:Hp) (Q:VK):Prop
 |mk (t sh:Zx) (p:Int) (h:Option Hm) (ρ:Ro) (F:Sn) (e:vs=[.ref t,.int p,.ref sh]) (it:Im H (.ref t) ρ.d) (sp:Sps H sh F) (rd:RdR F h p ρ) (wf:Wf ρ) (few:ρ.few) (q:∀H' l xs,gT H H'->H' l=some (.lst xs)->Ims H' xs (due F p ρ)->Q (.ref l) H')
noncomputable def mkD (F:Sn) (p:Int) (ρ:Ro):List Dt:=(mdR F p ρ).map Mkg.d
def GB (a:Sn->Int->Ro->List Dt):Sp:=fun b H Q _=>XMk a b H Q
noncomputable def inS (l:Zd) (ρ:Ro):Bool:=inV (.str ρ.s) (l.map V.str)
abbrev m1:List Str:=["num","add","sub","size"]
abbrev m2:List Str:=["row","join"]
inductive MkC (F:Sn) (p:Int) (ρ:Ro):Prop
 |num (a:inS m1 ρ=true) (e:mdR F p ρ=[mkN (F.S p) p])
 |fn (w:Str) (k:Int) (e:ρ= .fn w k)
 |rcd (l:List (Str×Int)) (e:ρ= .rcd l)
 |tag (w:Str) (k:Int) (e:ρ= .tag w k)
 |row (a:inS m1 ρ=false) (b:decide (ρ.s="fn")=false) (c:decide (ρ.s="rec")=false) (d:decide (ρ.s="tag")=false) (f:inS m2 ρ=true) (i:inR ρ=true) (e:mdR F p ρ=[mkR (F.I p) (F.S p) p])
 |less (ks:List Int) (e:ρ= .op "less" ks)
 |no (a:inS m1 ρ=false) (b:decide (ρ.s="fn")=false) (c:decide (ρ.s="rec")=false) (d:decide (ρ.s="tag")=false) (f:inS m2 ρ=false) (i:decide (ρ.s="less")=false) (e:mdR F p ρ=[])
def GC (F:Sn) (p:Int) (q:Wf ρ):MkC F p ρ:=by
 have j:∀(s:Str) (ρ:Ro),ρ.s=s->inV (.str s) (m1.map V.str)=false->decide (s="fn")=false->decide (s="rec")=false->decide (s="tag")=false->inV (.str s) (m2.map V.str)=false->decide (s="less")=false->mdR F p ρ=[]->MkC F p ρ:=fun s ρ e a b c d f i g=>by subst e;exact .no a b c d f i g
 have r:∀(s:Str) (ρ:Ro),ρ.s=s->inV (.str s) (m1.map V.str)=false->decide (s="fn")=false->decide (s="rec")=false->decide (s="tag")=false->inV (.str s) (m2.map V.str)=true->inR ρ=true->mdR F p ρ=[mkR (F.I p) (F.S p) p]->MkC F p ρ:=fun s ρ e a b c d f i g=>by subst e;exact .row a b c d f i g
 have m:∀(s:Str) (ρ:Ro),ρ.s=s->inV (.str s) (m1.map V.str)=true->mdR F p ρ=[mkN (F.S p) p]->MkC F p ρ:=fun s ρ e a g=>by subst e;exact .num a g
 cases ρ with
 |num n=>exact m "num" _ rfl gG rfl
 |fn w k=>exact .fn w k rfl
 |rcd l=>exact .rcd l rfl
 |tag w k=>exact .tag w k rfl
 |lt=>exact q.elim
 |row t=>exact r "row" _ rfl gG gG gG gG gG rfl rfl
 |name w=>exact j "name" _ rfl gG gG gG gG gG gG rfl
 |get k w=>exact j "get" _ rfl gG gG gG gG gG gG rfl
 |case k l=>exact j "case" _ rfl gG gG gG gG gG gG rfl
 |op o t=>
  simp only[Wf,TM.Internal.ops,aj,Jt,bo,or_false]at q;rcases q with⟨rfl,_⟩|⟨rfl,_⟩|⟨rfl,_⟩|⟨rfl,_⟩|⟨rfl,_⟩|⟨rfl,_⟩|⟨rfl,_⟩;·exact j "call" _ rfl gG gG gG gG gG gG (AB _ _ _)
  ·exact j "at" _ rfl gG gG gG gG gG gG (Gy _ _ _)
  ·exact r "join" _ rfl gG gG gG gG gG xE (AD _ _ _)
  ·exact m "size" _ rfl gG (AE _ _ _)
  ·exact m "add" _ rfl gG (Dc _ _ _)
  ·exact m "sub" _ rfl gG (Dd _ _ _)
  ·exact .less t rfl
def GX(h:(Zk H t o) l=none) (i:Im (Zk H t o) (.ref t) d):Ims (Zk (Zk H t o) l (.lst xs)) [.ref t] [d]:= .cons (i.mono (gT.tk (gr h _))) .nil
def ug (T:Txt K mg):FO P w base 1 T.d46 (GB mkD):=by
 refine T.d46.F.rd mw fun cdv A0 outer s H vs Q E hr h=>?_;obtain⟨t,sh,p,h,ρ,F,rfl,it,sp,rd,wf,few,q⟩:=h;have hu:=rP hr;refine HzX ?_;intro _;refine io _ ((gq (pS (i:=3) mw.nd (iq hu (gB gC (cv 2) gu) (cv 1)))
  (gq (iC (gL oG (gB gF (cv 0) gu) (gN (gk gE (gk gE (gk gE (gk gE gn))))) rfl)
   (gw (gM (gN (gk (gK (gk gE (gk (gK gn) (gk (cv 3) (gk (cv 1) gn))))) gn))))
   gQ)
  (gq (iC (gL jb (gB gF (cv 0) gu) gE)
   (gw (gM (gN (gk (gK (gk gE (gk (gK (gk (iq hu (gB gC (cv 2) gu) (cv 1)) (gk (iq hu (gB gC (cv 2) gu) (gB gF (cv 0) gu)) gn))) (gk (cv 3) (gk (cv 1) gn))))) gn))))
   gQ)
  (gq (iC (gL jb (gB gF (cv 0) gu) gE)
   (gw (gM (gN (gk (gK (gk gE (gk (iQ iG rfl T.z_tuple jJ (gk (zc (g:=Dw K 2 (pq (gX 0) (pq (gX 1) Dv))) rfl (HD (x:="_law_word") (y:="_law_q") ["_law_spots_here"] [("_law_spots_here",2,s.heap.objs.size+ 1)]) (p8 (gB gF (cv 0) gu)) (pgP rfl gG rfl rfl) (fun _ _ _ _ _=>(gK (gk (cv 0) (gk (iq hu (gB gC (cv 2) gu) (cv 1)) gn))))) gn)) (gk (cv 3) (gk (cv 1) gn))))) gn))))
   gQ)
  (gq (iC (gL jb (gB gF (cv 0) gu) gE)
   (gw (gM (gN (gk (gK (gk gE (gk (gK (gk (gB gF (cv 0) gu) (gk (iq hu (gB gC (cv 2) gu) (gB gF (cv 0) gu)) gn))) (gk (cv 3) (gk (cv 1) gn))))) gn))))
   gQ)
  (gq (iC (gL oG (gB gF (cv 0) gu) (gN (gk gE (gk gE gn))) rfl)
   (gw (gM (gN (gk (gK (gk gE (gk (gK (gk (iq hu (gB gC (cv 2) gu) (cv 1)) gn)) (gk (cv 3) (gk (cv 1) gn))))) gn))))
   gQ)
  (gq (iC (gL jb (gB gF (cv 0) gu) gE)
   (gq (pS (i:=4) mw.nd (iq hu (gB gC (cv 2) gu) (cv 1)))
   (gw (gM (gN (gk (gK (gk gE (gk (gK gn) (gk (cv 4) (gk (cv 1) gn))))) (gk (gK (gk gE (gk (gK (gk gE (gk (cv 4) gn))) (gk (cv 3) (gk (cv 1) gn))))) (gk (gK (gk gE (gk (gK (gk gE (gk (cv 4) gn))) (gk (cv 3) (gk (cv 1) gn))))) gn)))))))
   gQ)
  (gw (gM (gN gn))))))))))) ?_;refine Hz7 ?_;intros;have sl:=IS;refine eac sp.gt fun d1 d2 d3 gt=>?_;refine eae (kC it) fun ys et iy=>?_;have G0:=gt H (fun _ _ e=>e);obtain⟨a0,esh⟩:=G0.e;refine io _ esh (gy (gv (j:=1) rfl) (iab d1 _ rfl (G0.s p rd.s) ?_));dsimp only[gX];unfold mkD at q;have one:∀{H':Hp} {t1 l:Zx} {xs:List V} {m:Mkg},gT H H'->mdR F p ρ=[m]->H' t1=none->(Zk H' t1 (.tup xs)) l=none->(∀H2,gT H' H2->Ims H2 xs [.flat (.str m.s),m.f,.flat (.int m.a),.flat (.int m.p)])->Q (.ref l) (Zk (Zk H' t1 (.tup xs)) l (.lst [.ref t1])):=fun{H' t1 l xs m} S e h1 h2 i=>by have S1:=gr h1 (.tup xs);have S2:=gr h2 (.lst [.ref t1]);refine q _ l _ (S.trans (S1.trans S2)) gm ?_;rw[e];exact GX h2 (im3 gm (i _ S1))
 cases GC F p wf with
 |num a e=>refine Ab (i:=0) (o:=ρ.s) m1 rfl et a (by decide) fun H1 S1=>?_;refine⟨mz,fun t0 g0=>⟨ui,fun t1 g1=>⟨kJ,fun l g2=>?_⟩⟩⟩;have S2:=gr g0 (.tup []);exact one (S1.trans S2) e g1 g2 fun H2 S3=> .cons (.flat rfl) (.cons (.tup (S3 _ _ gm) .nil) (.cons (.flat rfl) (.cons (.flat rfl) .nil)))
 |fn w k e=>subst e;refine eal (uj iy) fun y1 y2 z0 i1 i2=>?_;subst z0;cases lK i1;cases ji i2;refine oW (i:=0) (o:="fn") m1 rfl et gG (by decide) fun H1 S1=>?_;dsimp only[hG];have G1:=gt H1 S1;refine jy (i:=0) (x:="fn") (s:="fn") rfl (S1 _ _ et) gG ?_;refine io _ (S1 _ _ esh) (gy (gv (j:=2) rfl) (iap d2 _ (⟨rfl,G1.i p (rd.i rfl),_,S1 _ _ esh,gy (gv (j:=1) rfl) (io _ (S1 _ _ et) (gy (gv (j:=2) rfl) (iaa d1 _ rfl (G1.s k (rd.k k (by simp[vn]))) kB (fun t0 g0=>⟨ui,fun t1 g1=>⟨kJ,fun l g2=>?_⟩⟩))))⟩)));have S2:=gr g0 (.tup [.int (F.I p),.int (F.S k)]);exact one (S1.trans S2) rfl g1 g2 fun H2 S3=> .cons (.flat rfl) (.cons (.tup (S3 _ _ gm) (.cons (.flat rfl) (.cons (.flat rfl) .nil))) (.cons (.flat rfl) (.cons (.flat rfl) .nil)))
 |rcd l e=>
  subst e;refine eae (zY iy) fun y1 z0 i1=>?_;subst z0;refine eal (lP i1) fun tl xs z0 el il=>?_;subst z0;have lx:=il.length;rw[aC]at lx;have few:l.length<=10:=few;refine oW (i:=0) (o:="rec") m1 rfl et gG (by decide) fun H1 S1=>?_;dsimp only[hG];refine hX (i:=0) (x:="fn") (s:="rec") rfl (S1 _ _ et) gG ?_;dsimp only[hG];refine jy (i:=0) (x:="rec") (s:="rec") rfl (S1 _ _ et) gG ?_;refine io _ (S1 _ _ et) (gy (gv (j:=1) rfl) (iad tl rfl ⟨_,J9 (S1 _ _ el)⟩ (fun D hD=>?_)));have il1:=il.mono (gT.tk S1);refine EG (S1 _ _ el) (by lia) hD (fun k v hv=>?_) (fun zs H=>Ims H zs (((l.take zs.length).map fun x:Str×Int=>(x.1,F.S x.2)).map prL)) (fun zs H H' h k=>h.mono k) .nil ?_ ?_;·refine eal (Eg il1 hv) fun x t' _ z0 et'=>?_;subst z0;exact iar t' _ _ ⟨rfl,et'⟩
  ·rintro k H2 t' x y zs Z S2 hk et' iz lz hZ;refine eal (Eg il1 hk) fun x' t'' hx e et''=>?_;cases e;rw[et']at et'';cases et'';have G2:=gt H2 (S1.trans S2);refine io _ ((S1.trans S2) _ _ esh) (gy (gv (j:=1) rfl) (iaa d1 _ rfl (G2.s x'.2 (rd.k _ (cC (aN hx)))) kB (fun t2 h2=>?_)));refine hZ _ _ (gr h2 _) ?_;rw[aO,aX,lz,bU,hx,bB,bB];rw[lz]at iz;exact(iz.mono (gT.tk (gr h2 _))).app (.cons (jA h2 (.cons (.flat rfl) (.cons (.flat rfl) .nil))) .nil)
  ·rintro H2 zs S2 iz lz ez;rw[bM (by lia)]at iz;refine iaf D zs rfl (.inl ⟨J8 ez,fun a3 ha3=>⟨ui,fun t1 g1=>⟨kJ,fun l' g2=>?_⟩⟩⟩);have S3:=gr ha3 (.tup zs);exact one (S1.trans (S2.trans S3)) rfl g1 g2 fun H3 S4=> .cons (.flat rfl) (.cons (.tup (S4 _ _ gm) (iz.mono (gT.tk (S3.trans S4)))) (.cons (.flat rfl) (.cons (.flat rfl) .nil)))
 |tag w k e=>subst e;refine eal (uj iy) fun y1 y2 z0 i1 i2=>?_;subst z0;cases lK i1;cases ji i2;refine oW (i:=0) (o:="tag") m1 rfl et gG (by decide) fun H1 S1=>?_;dsimp only[hG];have G1:=gt H1 S1;refine hX (i:=0) (x:="fn") (s:="tag") rfl (S1 _ _ et) gG ?_;dsimp only[hG];refine hX (i:=0) (x:="rec") (s:="tag") rfl (S1 _ _ et) gG ?_;dsimp only[hG];refine jy (i:=0) (x:="tag") (s:="tag") rfl (S1 _ _ et) gG ?_;refine io _ (S1 _ _ et) (gy (gv (j:=1) rfl) (io _ (S1 _ _ esh) (gy (gv (j:=1) rfl) (io _ (S1 _ _ et) (gy (gv (j:=2) rfl) (iaa d1 _ rfl (G1.s k (rd.k k (by simp[vn]))) kB (fun t0 g0=>⟨ui,fun t1 g1=>⟨kJ,fun l g2=>?_⟩⟩)))))));have S2:=gr g0 (.tup [.str w,.int (F.S k)]);exact one (S1.trans S2) rfl g1 g2 fun H2 S3=> .cons (.flat rfl) (.cons (.tup (S3 _ _ gm) (.cons (.flat rfl) (.cons (.flat rfl) .nil))) (.cons (.flat rfl) (.cons (.flat rfl) .nil)))
 |row a b c d f i e=>refine oW (i:=0) (o:=ρ.s) m1 rfl et a (by decide) fun H1 S1=>?_;dsimp only[hG];refine hX (i:=0) (x:="fn") (s:=ρ.s) rfl (S1 _ _ et) b ?_;dsimp only[hG];refine hX (i:=0) (x:="rec") (s:=ρ.s) rfl (S1 _ _ et) c ?_;dsimp only[hG];refine hX (i:=0) (x:="tag") (s:=ρ.s) rfl (S1 _ _ et) d ?_;dsimp only[hG];refine Ab (i:=0) (o:=ρ.s) m2 rfl (S1 _ _ et) f (by decide) fun H2 S2=>?_;have S12:=S1.trans S2;have G1:=gt H2 S12;refine io _ (S12 _ _ esh) (gy (gv (j:=2) rfl) (iaa d2 _ rfl (G1.i p (rd.i i)) kJ (fun t0 g0=>⟨ui,fun t1 g1=>⟨kJ,fun l g2=>?_⟩⟩)));have S3:=gr g0 (.tup [.int (F.I p)]);exact one (S12.trans S3) e g1 g2 fun H2 S3=> .cons (.flat rfl) (.cons (.tup (S3 _ _ gm) (.cons (.flat rfl) .nil)) (.cons (.flat rfl) (.cons (.flat rfl) .nil)))
 |less ks e=>subst e;refine oW (i:=0) (o:="less") m1 rfl et gG (by decide) fun H1 S1=>?_;dsimp only[hG];refine hX (i:=0) (x:="fn") (s:="less") rfl (S1 _ _ et) gG ?_;dsimp only[hG];refine hX (i:=0) (x:="rec") (s:="less") rfl (S1 _ _ et) gG ?_;dsimp only[hG];refine hX (i:=0) (x:="tag") (s:="less") rfl (S1 _ _ et) gG ?_;dsimp only[hG];refine oW (i:=0) (o:="less") m2 rfl (S1 _ _ et) gG (by decide) fun H2 S2=>?_;dsimp only[hG];have S12:=S1.trans S2;have G1:=gt H2 S12;refine jy (i:=0) (x:="less") (s:="less") rfl (S12 _ _ et) gG ?_;refine io _ (S12 _ _ esh) (gy (gv (j:=2) rfl) (iab d2 _ rfl (G1.i p (rd.i AA)) ?_));dsimp only[gX];refine⟨mz,fun t0 g0=>⟨ui,fun t1 g1=>⟨kB,fun t2 g2=>⟨ui,fun t3 g3=>⟨kB,fun t4 g4=>⟨ui,fun t5 g5=>⟨uk,fun l g6=>?_⟩⟩⟩⟩⟩⟩⟩;have T0:=gr g0 (.tup []);have T1:=gr g1 (.tup [.str "rec",.ref t0,.int (F.I p),.int p]);have T2:=gr g2 (.tup [.str "yes",.int (F.I p)]);have T3:=gr g3 (.tup [.str "tag",.ref t2,.int (F.S p),.int p]);have T4:=gr g4 (.tup [.str "no",.int (F.I p)]);have T5:=gr g5 (.tup [.str "tag",.ref t4,.int (F.S p),.int p]);have T6:=gr g6 (.lst [.ref t1,.ref t3,.ref t5]);refine q _ l _ (S12.trans (T0.trans (T1.trans (T2.trans (T3.trans (T4.trans (T5.trans T6))))))) gm ?_;rw[AF];have U6:=T6;have U5:=T5.trans U6;have U4:=T4.trans U5;have U3:=T3.trans U4;have U2:=T2.trans U3;have U1:=T1.trans U2;exact .cons (.tup (U2 _ _ gm) (.cons (.flat rfl) (.cons (.tup (U1 _ _ gm) .nil) (.cons (.flat rfl) (.cons (.flat rfl) .nil))))) (.cons (.tup (U4 _ _ gm) (.cons (.flat rfl) (.cons (.tup (U3 _ _ gm) (.cons (.flat rfl) (.cons (.flat rfl) .nil))) (.cons (.flat rfl) (.cons (.flat rfl) .nil))))) (.cons (.tup (U6 _ _ gm) (.cons (.flat rfl) (.cons (.tup (U5 _ _ gm) (.cons (.flat rfl) (.cons (.flat rfl) .nil))) (.cons (.flat rfl) (.cons (.flat rfl) .nil))))) .nil))
 |no a b c d f i e=>refine oW (i:=0) (o:=ρ.s) m1 rfl et a (by decide) fun H1 S1=>?_;dsimp only[hG];refine hX (i:=0) (x:="fn") (s:=ρ.s) rfl (S1 _ _ et) b ?_;dsimp only[hG];refine hX (i:=0) (x:="rec") (s:=ρ.s) rfl (S1 _ _ et) c ?_;dsimp only[hG];refine hX (i:=0) (x:="tag") (s:=ρ.s) rfl (S1 _ _ et) d ?_;dsimp only[hG];refine oW (i:=0) (o:=ρ.s) m2 rfl (S1 _ _ et) f (by decide) fun H2 S2=>?_;dsimp only[hG];have S12:=S1.trans S2;refine hX (i:=0) (x:="less") (s:=ρ.s) rfl (S12 _ _ et) i ?_;dsimp only[hG];refine⟨mz,fun l g2=>q _ l _ (S12.trans (gr g2 _)) gm ?_⟩;rw[e];exact .nil
open TM.Internal (Kn Tr iA szs)
noncomputable def usD (F:Sn) (p:Int) (ρ:Ro):List Dt:=(udR F p ρ).map Us.d
abbrev m3:List Str:=["add","sub","less"]
inductive UsC (F:Sn) (p:Int) (ρ:Ro):Prop
 |call (a b:Int) (e:ρ= .op "call" [a,b])
 |get (k:Int) (w:Str) (e:ρ= .get k w)
 |case (k:Int) (l:List (Str×Str×Int)) (e:ρ= .case k l)
 |at (a b c:Int) (e:ρ= .op "at" [a,b,c])
 |join (a b:Int) (e:ρ= .op "join" [a,b])
 |size (a:Int) (e:ρ= .op "size" [a])
 |num (o:Str) (a b:Int) (e:ρ= .op o [a,b]) (h:o="add"\/o="sub"\/o="less")
 |no (h:∀x∈(["call","get","case","at","join","size"]:Zd),decide (ρ.s=x)=false) (i:inS m3 ρ=false) (e:udR F p ρ=[])
def GD (F:Sn) (p:Int) (wf:Wf ρ):UsC F p ρ:=by
 have nn:∀s:Str,(((["call","get","case","at","join","size"]:Zd).all fun x=>!decide (s=x))=true)->∀x∈(["call","get","case","at","join","size"]:Zd),decide (s=x)=false:=fun s h x hx=>by have:=List.all_eq_true.mp h x hx;simpa using this
 cases ρ with
 |num n=>exact .no (nn "num" gG) (by show inV (.str "num") (m3.map V.str)=false;decide+kernel) rfl
 |name n=>exact .no (nn "name" gG) (by show inV (.str "name") (m3.map V.str)=false;decide+kernel) rfl
 |fn w k=>exact .no (nn "fn" gG) (by show inV (.str "fn") (m3.map V.str)=false;decide+kernel) rfl
 |rcd l=>exact .no (nn "rec" gG) (by show inV (.str "rec") (m3.map V.str)=false;decide+kernel) rfl
 |tag w k=>exact .no (nn "tag" gG) (by show inV (.str "tag") (m3.map V.str)=false;decide+kernel) rfl
 |row ks=>exact .no (nn "row" gG) (by show inV (.str "row") (m3.map V.str)=false;decide+kernel) rfl
 |lt=>exact wf.elim
 |get k w=>exact .get k w rfl
 |case k l=>exact .case k l rfl
 |op o ks=>
  simp only[Wf,TM.Internal.ops,aj,Jt,bo,or_false]at wf;rcases wf with⟨rfl,l⟩|⟨rfl,l⟩|⟨rfl,l⟩|⟨rfl,l⟩|⟨rfl,l⟩|⟨rfl,l⟩|⟨rfl,l⟩;·match ks,l with|[a,b],_=>exact .call a b rfl
  ·match ks,l with|[a,b,c],_=>exact .at a b c rfl
  ·match ks,l with|[a,b],_=>exact .join a b rfl
  ·match ks,l with|[a],_=>exact .size a rfl
  ·match ks,l with|[a,b],_=>exact .num _ a b rfl (.inl rfl)
  ·match ks,l with|[a,b],_=>exact .num _ a b rfl (.inr (.inl rfl))
  ·match ks,l with|[a,b],_=>exact .num _ a b rfl (.inr (.inr rfl))
def sr (s:Str) (a p b:Int):Ims H [.str s,.int a,.int p,.int b] (hdD s a p b):= .cons (.flat rfl) (.cons (.flat rfl) (.cons (.flat rfl) (.cons (.flat rfl) .nil)))
def vp (T:Txt K mg):FO P w base 1 T.d47 (GB usD):=by
 refine T.d47.F.rd qd fun cdv A0 outer s H vs Q E hr h=>?_;obtain⟨t,sh,p,h,U,F,rfl,it,sp,rd,wf,few,q⟩:=h;have z:=rP hr;refine HzX ?_;intro _;refine io _ ((gq (pS (i:=3) qd.nd (iq z (gB gC (cv 2) gu) (cv 1)))
  (gq (iC (gL jb (gB gF (cv 0) gu) gE)
   (gw (gM (gN (gk (gK (gk gE (gk (iq z (gB gC (cv 2) gu) (gB gF (cv 0) gu)) (gk (cv 1) (gk gu (gk (iq z (gB gC (cv 2) gu) (gB gF (cv 0) gu)) (gk (cv 3) gn))))))) gn))))
   gQ)
  (gq (iC (gL jb (gB gF (cv 0) gu) gE)
   (gw (gM (gN (gk (gK (gk gE (gk (iq z (gB gC (cv 2) gu) (gB gF (cv 0) gu)) (gk (cv 1) (gk gu (gk (gK (gk (gK (gk (gB gF (cv 0) gu) (gk (cv 3) gn))) gn)) gn)))))) gn))))
   gQ)
  (gq (iC (gL jb (gB gF (cv 0) gu) gE)
   (gw (gM (gN (gk (gK (gk gE (gk (iq z (gB gC (cv 2) gu) (gB gF (cv 0) gu)) (gk (cv 1) (gk gu (gk (iQ iG rfl T.z_tuple jJ (gk (rQ rfl (CI (x:="_law_one") ["_law_spots_here"] [("_law_spots_here",2,s.heap.objs.size+ 1)]) (p8 (gB gF (cv 0) gu)) (fun _ _ _ _ _=>km) (fun _ _ _ _ _=>(gK (gk (gB gF (cv 0) gu) (gk (iq z (gB gC (cv 1) gu) (gB gF (cv 0) gu)) gn))))) gn)) gn)))))) gn))))
   gQ)
  (gq (iC (gL jb (gB gF (cv 0) gu) gE)
   (gw (gM (gN (gk (gK (gk gE (gk (iq z (gB gC (cv 2) gu) (gB gF (cv 0) gu)) (gk (cv 1) (gk gu (gk (cv 3) gn)))))) (gk (gK (gk gE (gk (iq z (gB gC (cv 2) gu) (gB gF (cv 0) gu)) (gk (cv 1) (gk gu gn))))) gn)))))
   gQ)
  (gq (iC (gL jb (gB gF (cv 0) gu) gE)
   (gw (gM (gN (gk (gK (gk gE (gk (iq z (gB gC (cv 2) gu) (gB gF (cv 0) gu)) (gk (cv 1) (gk gu (gk (iq z (gB gC (cv 2) gu) (cv 1)) gn)))))) (gk (gK (gk gE (gk (iq z (gB gC (cv 2) gu) (gB gF (cv 0) gu)) (gk (cv 1) (gk gu (gk (iq z (gB gC (cv 2) gu) (cv 1)) gn)))))) gn)))))
   gQ)
  (gq (iC (gL jb (gB gF (cv 0) gu) gE)
   (gw (gM (gN (gk (gK (gk gE (gk (iq z (gB gC (cv 2) gu) (gB gF (cv 0) gu)) (gk (cv 1) (gk gu (gk (iq z (gB gC (cv 2) gu) (cv 1)) gn)))))) gn))))
   gQ)
  (gq (iC (gL oG (gB gF (cv 0) gu) (gN (gk gE (gk gE (gk gE gn)))) rfl)
   (gw (gM (gN (gk (gK (gk gE (gk (iq z (gB gC (cv 2) gu) (gB gF (cv 0) gu)) (gk (cv 1) (gk gu gn))))) (gk (gK (gk gE (gk (iq z (gB gC (cv 2) gu) (gB gF (cv 0) gu)) (gk (cv 1) (gk gu gn))))) gn)))))
   gQ)
  (gw (gM (gN gn)))))))))))) ?_;refine Hz8 ?_;intros;have sl:=IS;refine eac sp.gt fun L d2 d3 gt=>?_;refine eae (kC it) fun ys d iy=>?_;have R:=gt H (fun _ _ e=>e);obtain⟨a0,f⟩:=R.e;refine io _ f (gy (gv (j:=1) rfl) (iab L _ rfl (R.s p rd.s) ?_));dsimp only[gX];unfold usD at q;have W:∀{B:Hp} {m l:Zx} {C:List V} {ds:List Dt} {u:Us},gT H B->udR F p U=[u]->B m=none->(Zk B m (.tup C)) l=none->u.d= .tup ds->(∀n,gT B n->Ims n C ds)->Q (.ref l) (Zk (Zk B m (.tup C)) l (.lst [.ref m])):=fun{B m l C ds u} S e h1 h2 ed i=>by have g:=gr h1 (.tup C);have r:=gr h2 (.lst [.ref m]);refine q _ l _ (S.trans (g.trans r)) gm ?_;rw[e];refine GX h2 ?_;rw[ed];exact im3 gm (i _ g)
 have two:∀{B:Hp} {m N l:Zx} {C ys:List V} {ds es:List Dt} {u v:Us},gT H B->udR F p U=[u,v]->B m=none->(Zk B m (.tup C)) N=none->(Zk (Zk B m (.tup C)) N (.tup ys)) l=none->u.d= .tup ds->v.d= .tup es->(∀n,gT B n->Ims n C ds)->(∀n,gT B n->Ims n ys es)->Q (.ref l) (Zk (Zk (Zk B m (.tup C)) N (.tup ys)) l (.lst [.ref m,.ref N])):=fun{B m N l C ys ds es u v} S e h1 h2 h3 ed ed2 i I=>by
  have g:=gr h1 (.tup C);have r:=gr h2 (.tup ys);have M:=gr h3 (.lst [.ref m,.ref N]);refine q _ l _ (S.trans (g.trans (r.trans M))) gm ?_;rw[e];refine .cons ?_ (.cons ?_ .nil);·rw[ed];exact .tup ((r.trans M) _ _ gm) (i _ (g.trans (r.trans M)))
  ·rw[ed2];exact .tup (M _ _ gm) (I _ (g.trans (r.trans M)))
 have O:∀k,k∈vn U->∃v,F.sp k=some v:=rd.k
 cases GD F p wf with
 |call a b e=>subst e;refine eal (uj iy) fun y1 y2 y J I=>?_;subst y;cases ji J;cases ji I;refine jy (i:=0) (x:="call") (s:="call") rfl d gG ?_;refine io _ f (gy (gv (j:=1) rfl) (io _ d (gy (gv (j:=1) rfl) (iap L _ (⟨rfl,R.s a (O a (by simp[vn])),_,f,gy (gv (j:=1) rfl) (io _ d (gy (gv (j:=2) rfl) (iaa L _ rfl (R.s b (O b (by simp[vn]))) GL (fun m A=>⟨kJ,fun l G=>?_⟩))))⟩)))));exact W (fun _ _ e=>e) (AG _ _ _ _) A G rfl fun n M=>(sr "call" (F.S a) p 0).app (.cons (.flat rfl) (.cons (.flat rfl) .nil))
 |get k w e=>subst e;refine eal (uj iy) fun y1 y2 y J I=>?_;subst y;cases ji J;cases lK I;refine hX (i:=0) (x:="call") (s:="get") rfl d gG ?_;dsimp only[hG];refine jy (i:=0) (x:="get") (s:="get") rfl d gG ?_;refine io _ f (gy (gv (j:=1) rfl) (io _ d (gy (gv (j:=1) rfl) (iap L _ (⟨rfl,R.s k (O k (by simp[vn])),_,d,gy (gv (j:=2) rfl) ⟨kB,fun m A=>⟨kJ,fun N G=>⟨AS,fun t3 g3=>⟨kJ,fun l g4=>?_⟩⟩⟩⟩⟩)))));have g:=gr A (.tup [.str w,.int (F.S p)]);have r:=gr G (.tup [.ref m]);exact W (g.trans r) rfl g3 g4 rfl fun n M=>(sr "take" (F.S k) p 0).app (.cons (.tup (M _ _ gm) (.cons (.tup ((r.trans M) _ _ gm) (.cons (.flat rfl) (.cons (.flat rfl) .nil))) .nil)) .nil)
 |case k l e=>
  subst e;refine eal (uj iy) fun y1 y2 y J I=>?_;subst y;cases ji J;refine eal (lP I) fun tl C y el il=>?_;subst y;have lx:=il.length;rw[aC]at lx;have few:l.length<=10:=few;refine hX (i:=0) (x:="call") (s:="case") rfl d gG ?_;dsimp only[hG];refine hX (i:=0) (x:="get") (s:="case") rfl d gG ?_;dsimp only[hG];refine jy (i:=0) (x:="case") (s:="case") rfl d gG ?_;refine io _ f (gy (gv (j:=1) rfl) (io _ d (gy (gv (j:=1) rfl) (iap L _ (⟨rfl,R.s k (O k (by simp[vn])),_,d,gy (gv (j:=2) rfl) (iad tl rfl ⟨_,J9 el⟩ (fun D hD=>?_))⟩)))));refine mE C.length (by lia) (fun zs H=>Ims H zs (((l.take zs.length).map fun x:Str×Str×Int=>(x.1,F.A x.2.2)).map prL)) (fun zs H B h k=>h.mono k) hD rfl (fun k n r hk=>wN el r hk) (fun n r=>wO el r) .nil ?_ ?_;·rintro j n v H3 zs Z r hk ⟨rfl,hv⟩ iz lz hZ;have hv:=hv C (J9 (r _ _ el));refine eal (BH (il.mono (gT.tk r)) hv) fun x' t'' X y et''=>?_;subst y;have G2:=gt H3 r;refine io _ et'' (gy (gv (j:=0) rfl) (io _ (r _ _ f) (gy (gv (j:=3) rfl) (io _ et'' (gy (gv (j:=2) rfl) (iaa d3 _ rfl (G2.a x'.2.2 (rd.a _ (cC (aN X)))) kB (fun N h2=>?_)))))));refine hZ _ _ (gr h2 _) ?_;rw[aO,aX,lz,bU,X,bB,bB];rw[lz]at iz;exact(iz.mono (gT.tk (gr h2 _))).app (.cons (jA h2 (.cons (.flat rfl) (.cons (.flat rfl) .nil))) .nil)
  ·rintro n zs r iz lz ez;rw[bM (by lia)]at iz;refine iaf D zs rfl (.inl ⟨J8 ez,fun a3 ha3=>⟨AS,fun m A=>⟨kJ,fun l' G=>?_⟩⟩⟩);have M:=gr ha3 (.tup zs);exact W (r.trans M) rfl A G rfl fun H3 S4=>(sr "case" (F.S k) p 0).app (.cons (.tup (S4 _ _ gm) (iz.mono (gT.tk (M.trans S4)))) .nil)
 |«at» a b c e=>subst e;refine eav (EO iy) fun y1 y2 y3 y J I i3=>?_;subst y;cases ji J;cases ji I;cases ji i3;refine hX (i:=0) (x:="call") (s:="at") rfl d gG ?_;dsimp only[hG];refine hX (i:=0) (x:="get") (s:="at") rfl d gG ?_;dsimp only[hG];refine hX (i:=0) (x:="case") (s:="at") rfl d gG ?_;dsimp only[hG];refine jy (i:=0) (x:="at") (s:="at") rfl d gG ?_;refine io _ f (gy (gv (j:=1) rfl) (io _ d (gy (gv (j:=1) rfl) (iaa L _ rfl (R.s a (O a (by simp[vn]))) AS (fun m A=>?_)))));have g:=gr A (.tup [.str "row",.int (F.S a),.int p,.int 0,.int (F.S p)]);refine io _ (g _ _ f) (gy (gv (j:=1) rfl) (io _ (g _ _ d) (gy (gv (j:=2) rfl) (iaa L _ rfl ((gt _ g).s b (O b (by simp[vn]))) ui (fun N G=>⟨kB,fun l g3=>?_⟩)))));exact two (fun _ _ e=>e) (Gz _ _ _ _ _) A G g3 rfl rfl (fun n _=>(sr "row" (F.S a) p 0).app (.cons (.flat rfl) .nil)) (fun n _=>sr "num" (F.S b) p 1)
 |join a b e=>subst e;refine eal (uj iy) fun y1 y2 y J I=>?_;subst y;cases ji J;cases ji I;refine hX (i:=0) (x:="call") (s:="join") rfl d gG ?_;dsimp only[hG];refine hX (i:=0) (x:="get") (s:="join") rfl d gG ?_;dsimp only[hG];refine hX (i:=0) (x:="case") (s:="join") rfl d gG ?_;dsimp only[hG];refine hX (i:=0) (x:="at") (s:="join") rfl d gG ?_;dsimp only[hG];refine jy (i:=0) (x:="join") (s:="join") rfl d gG ?_;have ii:=rd.i xE;refine io _ f (gy (gv (j:=1) rfl) (io _ d (gy (gv (j:=1) rfl) (iap L _ ⟨rfl,R.s a (O a (by simp[vn])),_,f,gy (gv (j:=2) rfl) (iaa d2 _ rfl (R.i p ii) AS (fun m A=>?_))⟩))));have g:=gr A (.tup [.str "row",.int (F.S a),.int p,.int 0,.int (F.I p)]);refine io _ (g _ _ f) (gy (gv (j:=1) rfl) (io _ (g _ _ d) (gy (gv (j:=2) rfl) (iap L _ (⟨rfl,(gt _ g).s b (O b (by simp[vn])),_,g _ _ f,gy (gv (j:=2) rfl) (iaa d2 _ rfl ((gt _ g).i p ii) AS (fun N G=>⟨kB,fun l g3=>?_⟩))⟩)))));exact two (fun _ _ e=>e) (AH _ _ _ _) A G g3 rfl rfl (fun n _=>(sr "row" (F.S a) p 0).app (.cons (.flat rfl) .nil)) (fun n _=>(sr "row" (F.S b) p 1).app (.cons (.flat rfl) .nil))
 |size a e=>subst e;refine eae (zY iy) fun y1 y J=>?_;subst y;cases ji J;refine hX (i:=0) (x:="call") (s:="size") rfl d gG ?_;dsimp only[hG];refine hX (i:=0) (x:="get") (s:="size") rfl d gG ?_;dsimp only[hG];refine hX (i:=0) (x:="case") (s:="size") rfl d gG ?_;dsimp only[hG];refine hX (i:=0) (x:="at") (s:="size") rfl d gG ?_;dsimp only[hG];refine hX (i:=0) (x:="join") (s:="size") rfl d gG ?_;dsimp only[hG];refine jy (i:=0) (x:="size") (s:="size") rfl d gG ?_;refine io _ f (gy (gv (j:=1) rfl) (io _ d (gy (gv (j:=1) rfl) (iap L _ (⟨rfl,R.s a (O a (by simp[vn])),_,f,gy (gv (j:=2) rfl) (iaa d2 _ rfl (R.i p (rd.i Az)) AS (fun m A=>⟨kJ,fun l G=>?_⟩))⟩)))));exact W (fun _ _ e=>e) (AI _ _ _) A G rfl fun n _=>(sr "row" (F.S a) p 0).app (.cons (.flat rfl) .nil)
 |num o a b e Y=>
  subst e;refine eal (uj iy) fun y1 y2 y J I=>?_;subst y;cases ji J;cases ji I;have eu:udR F p (.op o [a,b])=[.num (F.S a) p 0,.num (F.S b) p 1]:=by
   rcases Y with rfl|rfl|rfl;·exact De _ _ _ _
   ·exact Df _ _ _ _
   ·exact AJ _ _ _ _
  refine hX (i:=0) (x:="call") (s:=o) rfl d (by rcases Y with rfl|rfl|rfl<;>decide+kernel) ?_;dsimp only[hG];refine hX (i:=0) (x:="get") (s:=o) rfl d (by rcases Y with rfl|rfl|rfl<;>decide+kernel) ?_;dsimp only[hG];refine hX (i:=0) (x:="case") (s:=o) rfl d (by rcases Y with rfl|rfl|rfl<;>decide+kernel) ?_;dsimp only[hG];refine hX (i:=0) (x:="at") (s:=o) rfl d (by rcases Y with rfl|rfl|rfl<;>decide+kernel) ?_;dsimp only[hG];refine hX (i:=0) (x:="join") (s:=o) rfl d (by rcases Y with rfl|rfl|rfl<;>decide+kernel) ?_;dsimp only[hG];refine hX (i:=0) (x:="size") (s:=o) rfl d (by rcases Y with rfl|rfl|rfl<;>decide+kernel) ?_;dsimp only[hG];refine Ab (i:=0) (o:=o) m3 rfl d (by rcases Y with rfl|rfl|rfl<;>decide+kernel) (by decide) fun H1 S0=>?_;refine io _ (S0 _ _ f) (gy (gv (j:=1) rfl) (io _ (S0 _ _ d) (gy (gv (j:=1) rfl) (iaa L _ rfl ((gt _ S0).s a (O a (by simp[vn]))) ui (fun m A=>?_)))));have g:=S0.trans (gr A (.tup [.str "num",.int (F.S a),.int p,.int 0]));refine io _ (g _ _ f) (gy (gv (j:=1) rfl) (io _ (g _ _ d) (gy (gv (j:=2) rfl) (iaa L _ rfl ((gt _ g).s b (O b (by simp[vn]))) ui (fun N G=>⟨kB,fun l g3=>?_⟩)))));exact two S0 eu A G g3 rfl rfl (fun n _=>sr "num" (F.S a) p 0) (fun n _=>sr "num" (F.S b) p 1)
 |no X i e=>refine hX (i:=0) (x:="call") (s:=U.s) rfl d (X _ (by simp)) ?_;dsimp only[hG];refine hX (i:=0) (x:="get") (s:=U.s) rfl d (X _ (by simp)) ?_;dsimp only[hG];refine hX (i:=0) (x:="case") (s:=U.s) rfl d (X _ (by simp)) ?_;dsimp only[hG];refine hX (i:=0) (x:="at") (s:=U.s) rfl d (X _ (by simp)) ?_;dsimp only[hG];refine hX (i:=0) (x:="join") (s:=U.s) rfl d (X _ (by simp)) ?_;dsimp only[hG];refine hX (i:=0) (x:="size") (s:=U.s) rfl d (X _ (by simp)) ?_;dsimp only[hG];refine oW (i:=0) (o:=U.s) m3 rfl d i (by decide) fun H1 g=>?_;refine⟨mz,fun l G=>q _ l _ (g.trans (gr G _)) gm ?_⟩;rw[e];exact .nil
open TM.Internal (Kn Tr iA szs)
inductive XFw (vs:List V) (H:Hp) (Q:VK):Prop
 |mk (t sh:Zx) (hv:V) (p:Int) (h:Option Hm) (ρ:Ro) (F:Sn) (e:vs=[.ref t,hv,.int p,.ref sh]) (it:Im H (.ref t) ρ.d) (ih:Im H hv (hoD h)) (sp:Sps H sh F) (rd:RdR F h p ρ) (wf:Wf ρ) (few:ρ.few) (q:∀H' l xs,gT H H'->H' l=some (.lst xs)->Ims H' xs ((fdR F p h ρ).map flD)->Q (.ref l) H')
def Io:Sp:=fun a H Q _=>XFw a H Q
inductive FwC (F:Sn) (p:Int) (h:Option Hm) (ρ:Ro):Prop
 |name (w:Str) (e:ρ= .name w)
 |case (k:Int) (l:List (Str×Str×Int)) (e:ρ= .case k l)
 |row (ks:List Int) (e:ρ= .row ks)
 |at (a b c:Int) (e:ρ= .op "at" [a,b,c])
 |no (a:decide (ρ.s="name")=false) (b:decide (ρ.s="case")=false) (c:decide (ρ.s="row")=false) (d:decide (ρ.s="at")=false) (e:fdR F p h ρ=[])
def GF (F:Sn) (p:Int) (h:Option Hm) (m:Wf ρ):FwC F p h ρ:=by
 have f:∀(s:Str) (ρ:Ro),ρ.s=s->decide (s="name")=false->decide (s="case")=false->decide (s="row")=false->decide (s="at")=false->fdR F p h ρ=[]->FwC F p h ρ:=fun s ρ e a b c d g=>by subst e;exact .no a b c d g
 cases ρ with
 |num n=>exact f "num" _ rfl gG gG gG gG rfl
 |name w=>exact .name w rfl
 |fn w k=>exact f "fn" _ rfl gG gG gG gG rfl
 |rcd l=>exact f "rec" _ rfl gG gG gG gG rfl
 |tag w k=>exact f "tag" _ rfl gG gG gG gG rfl
 |row i=>exact .row i rfl
 |lt=>exact m.elim
 |get k w=>exact f "get" _ rfl gG gG gG gG rfl
 |case k l=>exact .case k l rfl
 |op o i=>
  simp only[Wf,TM.Internal.ops,aj,Jt,bo,or_false]at m;rcases m with⟨rfl,l⟩|⟨rfl,l⟩|⟨rfl,l⟩|⟨rfl,l⟩|⟨rfl,l⟩|⟨rfl,l⟩|⟨rfl,l⟩;·match i,l with|[a,b],_=>exact f "call" _ rfl gG gG gG gG rfl
  ·match i,l with|[a,b,c],_=>exact .at a b c rfl
  ·match i,l with|[a,b],_=>exact f "join" _ rfl gG gG gG gG rfl
  ·match i,l with|[a],_=>exact f "size" _ rfl gG gG gG gG rfl
  ·match i,l with|[a,b],_=>exact f "add" _ rfl gG gG gG gG rfl
  ·match i,l with|[a,b],_=>exact f "sub" _ rfl gG gG gG gG rfl
  ·match i,l with|[a,b],_=>exact f "less" _ rfl gG gG gG gG rfl
def qf(hσ:a[i]?=some (some (.ref t))) (b:H t=some (.tup (.str s::ys))) (e:decide (s=x)=false) (h:u D a H):sv (EK (hdT i x) (hdT j y)) T u D a H:=oS hσ b e (kU (kU h))
def AL(hσ:a[i]?=some (some (.ref t))) (c:H t=some (.tup (.str s::ys))) (e:decide (s=x)=true) (hσ':a[j]?=some (some (.ref t'))) (b:H t'=some (.tup (.str s'::ys'))) (d:decide (s'=y)=false) (h:u D a H):sv (EK (hdT i x) (hdT j y)) T u D a H:=oS hσ c e (lQ (oS hσ' b d (kU h)))
def Dh(hσ:σ[i]?=some (some (.ref t))) (et:H t=some (.tup (.str s::ys))) (e:decide (s=x)=true) (hσ':σ[j]?=some (some (.ref t'))) (et':H t'=some (.tup (.str s'::ys'))) (e':decide (s'=y)=true) (h:T D σ H):sv (EK (hdT i x) (hdT j y)) T u D σ H:=oS hσ et e (lQ (oS hσ' et' e' (lQ h)))
def uh (T:Txt K mg):FO P w base 1 T.d48 Io:=by
 refine T.d48.F.rd oN fun cdv A0 outer s H vs Q E hr h=>?_;obtain⟨t,sh,G,p,h,N,F,rfl,it,ih,sp,W,wf,J,q⟩:=h;have O:=rP hr;refine HzX ?_;intro _;refine io _ ((gq (pS (i:=4) oN.nd (iq O (gB gC (cv 3) gu) (cv 2)))
  (gq (iC (PW.pt (su (gL jb (gB gF (cv 0) gu) gE) (qD (gL jb (gB gF (cv 1) gu) gE))))
   (gw (gM (gN (gk (gK (gk (iq O (gB gC (cv 3) gu) (gY uL (gB gF (cv 1) gu) gu)) (gk (cv 4) gn))) gn))))
   gQ)
  (gq (iC (PW.pt (su (gL jb (gB gF (cv 0) gu) gE) (qD (gL jb (gB gF (cv 1) gu) gE))))
   (gw (gM (gN (gk (gK (gk (iq O (gB gC (cv 3) gu) (gB gF (cv 1) gu)) (gk (cv 4) gn))) gn))))
   gQ)
  (gq (iC (gL jb (gB gF (cv 0) gu) gE)
   (gw (gM (gN (gk (gK (gk gu (gk (cv 4) gn))) gn))))
   gQ)
  (gq (iC (gL jb (gB gF (cv 0) gu) gE)
   (gw (gM (rQ rfl (CI (x:="_law_one") ["_law_spots_here","_law_at"] [("_law_spots_here",3,s.heap.objs.size+ 2),("_law_at",4,s.heap.objs.size+ 3)]) (p8 (gB gF (cv 0) gu)) (fun _ _ _ _ _=>km) (fun _ _ _ _ _=>(gK (gk (iq O (gB gC (cv 1) gu) (gB gF (cv 0) gu)) (gk (cv 2) gn)))))))
   gQ)
  (gq (iC (gL jb (gB gF (cv 0) gu) gE)
   (gw (gM (rQ rfl (CI (x:="_law_q") ["_law_spots_here","_law_p"] [("_law_spots_here",3,s.heap.objs.size+ 2),("_law_p",2,s.heap.objs.size+ 1)]) (p8 (gB gF (cv 0) gu)) (fun _ _ _ _ _=>km) (fun _ _ _ _ _=>(gK (gk (iq O (gB gC (cv 1) gu) (cv 0)) (gk (iq O (gB gC (cv 1) gu) (cv 2)) gn)))))))
   gQ)
  (gq (iC (gL jb (gB gF (cv 0) gu) gE)
   (gw (gM (gN (gk (gK (gk (iq O (gB gC (cv 3) gu) (gB gF (cv 0) gu)) (gk (cv 4) gn))) gn))))
   gQ)
  (gw (gM (gN gn))))))))))) ?_;refine Hz7 ?_;intros;have sl:=IS;refine eac sp.gt fun d1 d2 d3 gt=>?_;refine eae (kC it) fun ys f iy=>?_;have G0:=gt H (fun _ _ e=>e);obtain⟨a0,o⟩:=G0.e;refine io _ o (gy (gv (j:=1) rfl) (iab d1 _ rfl (G0.s p W.s) ?_));dsimp only[gX];have C:∀{A l:Zx} {x y:Int},fdR F p h N=[(x,y)]->H A=none->(Zk H A (.tup [.int x,.int y])) l=none->Q (.ref l) (Zk (Zk H A (.tup [.int x,.int y])) l (.lst [.ref A])):=fun{A l x y} e h1 B=>by have S1:=gr h1 (.tup [.int x,.int y]);have g:=gr B (.lst [.ref A]);refine q _ l _ (S1.trans g) gm ?_;rw[e];exact GX B (im3 gm (.cons (.flat rfl) (.cons (.flat rfl) .nil)))
 cases GF F p h wf with
 |name w e=>
  subst e;refine eae (W.h w rfl) fun hm m R=>?_;subst m;refine eav (rJ ih) fun th y z m n X Y=>?_;subst m;cases X;cases Y;rcases R with⟨a,b⟩|⟨a,b⟩|a;·refine Dh (i:=0) (j:=1) (x:="name") (y:="fn") (s:="name") (s':=hm.1) rfl f gG rfl n (jo a) ?_;refine io _ o (gy (gv (j:=2) rfl) (io _ n (gy (gv (j:=1) rfl) (iaa d2 _ rfl (G0.i _ b) kB (fun A S=>⟨kJ,fun l I=>C ?_ S I⟩)))));unfold fdR;dsimp only;rw[ip a]
  ·refine AL (i:=0) (j:=1) (x:="name") (y:="fn") (s:="name") (s':=hm.1) rfl f gG rfl n (by rw[a];decide+kernel) ?_;dsimp only[hG];refine Dh (i:=0) (j:=1) (x:="name") (y:="arm") (s:="name") (s':=hm.1) rfl f gG rfl n (jo a) ?_;refine io _ o (gy (gv (j:=3) rfl) (io _ n (gy (gv (j:=1) rfl) (iaa d3 _ rfl (G0.a _ b) kB (fun A S=>⟨kJ,fun l I=>C ?_ S I⟩)))));unfold fdR;dsimp only;rw[gU (by rw[a];decide+kernel),ip a]
  ·refine AL (i:=0) (j:=1) (x:="name") (y:="fn") (s:="name") (s':=hm.1) rfl f gG rfl n (by rw[a];decide+kernel) ?_;dsimp only[hG];refine AL (i:=0) (j:=1) (x:="name") (y:="arm") (s:="name") (s':=hm.1) rfl f gG rfl n (by rw[a];decide+kernel) ?_;dsimp only[hG];refine jy (i:=0) (x:="name") (s:="name") rfl f gG ?_;refine⟨kB,fun A S=>⟨kJ,fun l I=>C ?_ S I⟩⟩;unfold fdR;dsimp only;rw[gU (by rw[a];decide+kernel),gU (by rw[a];decide+kernel)]
 |case k l e=>
  subst e;refine eal (uj iy) fun y1 y2 m X Y=>?_;subst m;refine eal (lP Y) fun tl xs m L il=>?_;subst m;have lx:=il.length;rw[aC]at lx;have J:l.length<=10:=J;refine qf (i:=0) (j:=1) (x:="name") (y:="fn") (s:="case") rfl f gG ?_;dsimp only[hG];refine qf (i:=0) (j:=1) (x:="name") (y:="arm") (s:="case") rfl f gG ?_;dsimp only[hG];refine hX (i:=0) (x:="name") (s:="case") rfl f gG ?_;dsimp only[hG];refine jy (i:=0) (x:="case") (s:="case") rfl f gG ?_;refine io _ f (gy (gv (j:=2) rfl) (iad tl rfl ⟨_,J9 L⟩ (fun D hD=>?_)));refine mE xs.length (by lia) (fun r H=>Ims H r (((l.take r.length).map fun x:Str×Str×Int=>(F.S x.2.2,F.S p)).map flD)) (fun r H H' h k=>h.mono k) hD rfl (fun k U g R=>wN L g R) (fun U g=>wO L g) .nil ?_ ?_;·rintro j U v H3 r Z g R ⟨rfl,G⟩ u M hZ;have G:=G xs (J9 (g _ _ L));refine eal (BH (il.mono (gT.tk g)) G) fun x' t'' hx m et''=>?_;subst m;have G2:=gt H3 g;refine io _ (g _ _ o) (gy (gv (j:=1) rfl) (io _ et'' (gy (gv (j:=2) rfl) (iaa d1 _ rfl (G2.s x'.2.2 (W.k _ (ai _ (cC (aN hx))))) kB (fun t2 B=>?_)))));refine hZ _ _ (gr B _) ?_;rw[aO,aX,M,bU,hx,bB,bB];rw[M]at u;exact(u.mono (gT.tk (gr B _))).app (.cons (jA B (.cons (.flat rfl) (.cons (.flat rfl) .nil))) .nil)
  ·rintro U r g u M ez;rw[bM (by lia)]at u;exact q _ D r g ez u
 |row ks e=>
  subst e;refine eae (zY iy) fun y1 m X=>?_;subst m;refine eal (lP X) fun tl xs m L il=>?_;subst m;cases z6 il;have J:ks.length<=1000:=J;refine qf (i:=0) (j:=1) (x:="name") (y:="fn") (s:="row") rfl f gG ?_;dsimp only[hG];refine qf (i:=0) (j:=1) (x:="name") (y:="arm") (s:="row") rfl f gG ?_;dsimp only[hG];refine hX (i:=0) (x:="name") (s:="row") rfl f gG ?_;dsimp only[hG];refine hX (i:=0) (x:="case") (s:="row") rfl f gG ?_;dsimp only[hG];refine jy (i:=0) (x:="row") (s:="row") rfl f gG ?_;refine io _ f (gy (gv (j:=1) rfl) (iad tl rfl ⟨_,J9 L⟩ (fun D hD=>?_)));refine mE (ks.map V.int).length (by rw[aC];lia) (fun r H=>Ims H r (((ks.take r.length).map fun x:Int=>(F.S x,F.I p)).map flD)) (fun r H H' h k=>h.mono k) hD rfl (fun k U g R=>wN L g R) (fun U g=>wO L g) .nil ?_ ?_;·rintro j U v H3 r Z g R ⟨rfl,G⟩ u M hZ;have G:=G _ (J9 (g _ _ L));rw[aM]at G;refine eae (dA.mp G) fun x' hx m=>?_;subst m;have G2:=gt H3 g;refine io _ (g _ _ o) (gy (gv (j:=1) rfl) (iap d1 _ ⟨rfl,G2.s x' (W.k _ (aN hx)),_,g _ _ o,gy (gv (j:=2) rfl) (iaa d2 _ rfl (G2.i p (W.i rfl)) kB (fun t2 B=>?_))⟩));refine hZ _ _ (gr B _) ?_;rw[aO,aX,M,bU,hx,bB,bB];rw[M]at u;exact(u.mono (gT.tk (gr B _))).app (.cons (jA B (.cons (.flat rfl) (.cons (.flat rfl) .nil))) .nil)
  ·rintro U r g u M ez;rw[M,aC,bK]at u;exact q _ D r g ez u
 |«at» a b c e=>subst e;refine eav (EO iy) fun y1 y2 y3 m X Y i3=>?_;subst m;cases ji X;cases ji Y;cases ji i3;refine qf (i:=0) (j:=1) (x:="name") (y:="fn") (s:="at") rfl f gG ?_;dsimp only[hG];refine qf (i:=0) (j:=1) (x:="name") (y:="arm") (s:="at") rfl f gG ?_;dsimp only[hG];refine hX (i:=0) (x:="name") (s:="at") rfl f gG ?_;dsimp only[hG];refine hX (i:=0) (x:="case") (s:="at") rfl f gG ?_;dsimp only[hG];refine hX (i:=0) (x:="row") (s:="at") rfl f gG ?_;dsimp only[hG];refine jy (i:=0) (x:="at") (s:="at") rfl f gG ?_;exact io _ o (gy (gv (j:=1) rfl) (io _ f (gy (gv (j:=3) rfl) (iaa d1 _ rfl (G0.s c (W.k c (by simp[vn]))) kB (fun A S=>⟨kJ,fun l I=>C (Dg _ _ _ _ _ _) S I⟩)))))
 |no a b c d e=>refine qf (i:=0) (j:=1) (x:="name") (y:="fn") (s:=N.s) rfl f a ?_;dsimp only[hG];refine qf (i:=0) (j:=1) (x:="name") (y:="arm") (s:=N.s) rfl f a ?_;dsimp only[hG];refine hX (i:=0) (x:="name") (s:=N.s) rfl f a ?_;dsimp only[hG];refine hX (i:=0) (x:="case") (s:=N.s) rfl f b ?_;dsimp only[hG];refine hX (i:=0) (x:="row") (s:=N.s) rfl f c ?_;dsimp only[hG];refine hX (i:=0) (x:="at") (s:=N.s) rfl f d ?_;refine⟨mz,fun l I=>q _ l _ (gr I _) gm ?_⟩;rw[e];exact .nil
noncomputable def fz (l:List (V×Dt×Int)) (p:Int):List V:=(l.filter fun x=>decide (x.2.2=p)).map JY
def GG{a:List (V×Dt×Int)} (h:a[i]?=some (x,d,k)):Bk (fz (a.take i)) k x=fz (a.take (i+ 1)):=by
 funext q;unfold Bk fz;rw[bU,h];show _=bj JY (List.filter _ (a.take i++[(x,d,k)]));rw[cz,bB];by_cases z:q=k;·rw[ip z,z,cD (by simp)];rfl
 ·rw[gU z,cE (by simp;exact fun y=>z y.symm),List.filter_nil,aU,aD]
theorem AM:∀{xs:List V} {ps:List (Dt×Int)},Ims H xs (ps.map JY)->Ims H (fz (xs.zip ps) p) ((ps.filter fun x=>decide (x.2=p)).map JY)
 |[],[],_=> .nil
 |x::xs,y::ps,h=>by
  cases h with
  |cons h1 h2=>
   have r:=AM (p:=p) h2;unfold fz at r⊢;rw[List.zip_cons_cons];by_cases z:y.2=p;·rw[cD (by simp[z]),cD (by simp[z])];exact .cons h1 r
   ·rw[cE (by simp[z]),cE (by simp[z])];exact r
 |[],_::_,h=>by cases h
 |_::_,[],h=>by cases h
inductive XBp (vs:List V) (H:Hp) (Q:VK):Prop
 |mk (tl:Zx) (xs:List V) (ps:List (Dt×Int)) (j:Nat) (e:vs=[.ref tl,.int (j:Int)]) (hl:H tl=some (.lst xs)) (i:Ims H xs (ps.map JY)) (hk:∀x∈ps,∃l,x.1= .tup l/\l[j]?=some (kD x.2)) (hn:ps.length<=100000) (q:∀d L H',gT H H'->H d=none->(∀a∈L,H a=none/\∃o,H' a=some o)->DL H' d L (fz (xs.zip ps)) xs.length->Q (.ref d) H')
def Ip:Sp:=fun a H Q _=>XBp a H Q
def qo (T:Txt K mg):FO P w base 1 T.d49 Ip:=by
 refine T.d49.F.rd kA fun cdv A0 N s H vs Q E hr h=>?_;obtain⟨J,b,u,j,rfl,hl,im,hk,hn,q⟩:=h;refine HzX ?_;intro _;refine io _ ((gq (pS (i:=2) kA.nd lT)
  (gq (kj IW rfl (lR (cv 0)) (pN (i:=3) kA.nd)
   (gw (gS (jT (lB ff fg fh iu (J7 (Bj (cv 2) (gB gF (cv 3) (cv 1)) (gN gn) ⟨rfl,rfl,rfl,rfl⟩)) (gk (J7 (cv 3)) gn))))))
  (gw (gM (cv 2)))))) ?_;refine Hz2 ?_;intros;have sl:=IS;have lx:=im.length;rw[aC]at lx;have lz:(b.zip u).length=b.length:=by rw[ck];lia
 intro d M;dsimp only[gX];have s1:=gr M (.dK []);refine iad J rfl ⟨_,J8 (s1 _ _ hl)⟩ (qr (xs:=b) (fun i I c=>∃(C:Option V) (L:List Zx),I=[some (.ref J),some (.int (j:Int)),some (.ref d),C]/\gT H c/\(∀a∈L,H a=none/\∃o,c a=some o)/\DL c d L (fz ((b.zip u).take i)) i)
  ⟨none,[],rfl,s1,fun a X=>absurd X (bo),[],gm,cO _,fun p _=>rfl,fun p v e=>(by cases e),fun p q v e=>(by cases e)⟩ (fun i I c _ ⟨_,_,_,S,_⟩=>J8 (S _ _ hl)) ?_ ?_)
 ·refine fun i x I c U=>faf fun C L=>fac fun f S F W=>?_;subst f;have hi:=(aq.mp U).1;refine eae (kx im U) fun dt D ix=>?_;rw[aM]at D;obtain⟨⟨dt',k⟩,hp,rfl⟩:=dA.mp D;refine eae (hk _ (aN hp)) fun l Z ek=>?_;have Z:dt'= .tup l:=Z;subst Z;refine eal (lP ix) fun t ys f et iy=>?_;subst f;refine eae (sN iy ek) fun y hy O=>?_;cases ji O;have hz:(b.zip u)[i]?=some (.ref t,.tup l,k):=by rw[cm];exact⟨U,hp⟩
  dsimp only[gX];refine⟨d,rfl,.inl (by obtain⟨g,e,_⟩:=W;exact⟨g,.inl e⟩),_,S _ _ et,gy (gv hy) ⟨mz,fun z R=>?_⟩⟩;refine eaq (W.sda k R) fun g ek' hl' c1 c2=>?_;have G:∀(l:Zx) (r:Hp),Sda c d L (fz ((b.zip u).take i)) i k l r->∃B,r l=some (.lst B)/\B.length<sizeLine/\∃(C:Option V) (L:List Zx),[some (V.ref J),some (V.int (j:Int)),some (V.ref d),some (V.ref t)]=[some (.ref J),some (.int (j:Int)),some (.ref d),C]/\gT H (Zk r l (.lst (B++[V.ref t])))/\(∀a∈L,H a=none/\∃o,(Zk r l (.lst (B++[V.ref t]))) a=some o)/\DL (Zk r l (.lst (B++[V.ref t]))) d L (fz ((b.zip u).take (i+ 1))) (i+ 1):=fun l r A=>by
   refine eae (A.fin r (.ref t) (gT.refl _)) fun L' Y W'=>?_;have nl:H l=none:=by
    rcases A.own with m|m;·exact(F l m).1
    ·cases e:H l with
     |none=>rfl
     |some o=>rw[S _ _ e]at m;cases m
   have dn:∀a o,H a=some o->a≠d:=fun a o e z=>by rw[z,M]at e;cases e
   refine⟨_,A.here,?_,_,L',rfl,fun a o e=>?_,fun a X=>?_,?_⟩;·unfold fz;rw[aC];have h1:=List.length_filter_le (fun x:V×Dt×Int=>decide (x.2.2=k)) ((b.zip u).take i);rw[aI]at h1;lia
   ·rw[gx (fun z=>by rw[z,nl]at e;cases e)];exact A.fr a o (S _ _ e) (dn a o e)
   ·by_cases y:a=l;·rw[y];exact iam nl _ gm
    ·rcases Y a X with m|m
     ·obtain⟨o,eo⟩:=(F a m).2;by_cases z:a=d;·rw[z];obtain⟨kv,ekv,_⟩:=W';exact iam M _ ekv
      ·exact iam ((F a m).1) o (by rw[gx y];exact A.fr a o eo z)
     ·exact absurd m y
   ·rw[GG hz]at W';exact W'
  refine iap g (Jw k) ⟨ek',rfl,by lia,fun v hv=>?_,fun n=>?_⟩;·refine eae (c1 v hv) fun l f A=>?_;subst f;exact⟨⟨_,A.here⟩,G l _ A⟩
  ·have A:=c2 n;exact⟨⟨_,A.here⟩,G z _ A⟩
 ·refine fun I c=>faf fun C L=>fac fun f S F W=>?_;subst f;rw[bM (by lia)]at W;exact q d L c S M F W
open TM.Internal (Kn Tr iA szs nests)
theorem vq:∀{ts:List Tr} {p j r:Nat} {t:Tr},(iA ts p)[j]?=some r->ts[j]?=some t->(iA ts p++[p+szs ts])[j+ 1]?=some (r+t.sz)
 |[],_,_,_,_,h,_=>by cases h
 |t::ts,p,0,r,t',h,e=>by
  cases h;cases e
  cases ts with
  |nil=>show some (p+szs [t])=_;rw[Gx]
  |cons u a=>rfl
 |t::ts,p,j+ 1,r,t',h,e=>by have:=vq (ts:=ts) (p:=p+t.sz) (j:=j) h e;rw[szs,<-cW];exact this
theorem GH {ρs:List Ro} {lo:Nat}:∀p,(snF ρs lo p).ps.length<=1+ 3*p
 |0=>cN _
 |p+ 1=>by
  have h:=GH (ρs:=ρs) (lo:=lo) p;rw[snF];split;·show 1<=_;lia
  ·split
   ·rename_i a _;have d:∀(t:Sn) (k:Int),(t.a k).ps.length<=t.ps.length+ 1:=fun t k=>by
     unfold Sn.a;split;·show(t.ps++[_]).length<=_;rw[aO];exact cN _
     ·lia
    have c:∀(t:Sn) b (k:Int),(t.i b k).ps.length<=t.ps.length+ 1:=fun t b k=>by
     cases b with
     |false=>exact Nat.le_succ _
     |true=>show(t.ps++[_]).length<=_;rw[aO];exact cN _
    have i:=d ((snF ρs lo p).c (arms a) p) p;have g:=c ((((snF ρs lo p).c (arms a) p).a p).s p) (inR a) p;have f:((((snF ρs lo p).c (arms a) p).a p).s p).ps.length=(((snF ρs lo p).c (arms a) p).a p).ps.length+ 1:=by show(_++[_]).length=_;rw[aO];rfl
    have e:((snF ρs lo p).c (arms a) p).ps.length=(snF ρs lo p).ps.length:=rfl;show((snF ρs lo p).one p a).ps.length<=_;unfold Sn.one;lia
   ·lia
def Di (F:Sn) (p:Int) (ρ:Ro):(mdR F p ρ).length<=3:=by
 unfold mdR;repeat' split
 all_goals(simp only[az,aT];try lia)
def Dj (F:Sn) (p:Int) (ρ:Ro):(udR F p ρ).length<=3:=by
 unfold udR;repeat' split
 all_goals(simp only[az,aT];try lia)
def Dl (F:Sn) (p:Int) (h:Option Hm) (few:ρ.few) (wf:Wf ρ):(fdR F p h ρ).length<=100:=by
 cases ρ with
 |case k l=>have few:l.length<=10:=few;show(bj _ l).length<=_;rw[aC];lia
 |row ks=>have wf:ks.length<=100:=wf;show(bj _ ks).length<=_;rw[aC];lia
 |name w=>
  unfold fdR;dsimp only;repeat' split
  all_goals(simp only[az,aT];try lia)
 |op o ks=>
  unfold fdR;repeat' split
  all_goals first|(simp only[az,aT];lia)|(rename_i e;cases e;done)|skip
  all_goals(simp only[aT];lia)
 |_=>exact cO _
theorem AN(h:∀i,(f i).length<=c):∀n,(flN f p n).length<=c*n
 |0=>cO _
 |n+ 1=>by show(flN f p n++f (p+n)).length<=_;have:=AN (f:=f) (p:=p) h n;have:=h (p+n);rw[aO,Nat.mul_succ];lia
theorem Dn(h:∀i,f i<=c):∀n,nnN f p n<=c*n
 |0=>cO _
 |n+ 1=>by show nnN f p n+f (p+n)<=_;have:=Dn (f:=f) (p:=p) h n;have:=h (p+n);rw[Nat.mul_succ];lia
def AO(b:∀(k:Nat) (ρ:Ro),(G.map Pc.ρ)[k]?=some ρ->ρ.few/\Wf ρ) (n:Nat):(flN (dF G F) p n).length<=100*n:=AN (fun i=>by
 unfold dF;split;·rename_i c a;obtain⟨e,d⟩:=b i c.ρ (by rw[aM,a];rfl);exact Dl _ _ _ e d
 ·exact cO _) n
structure Dk (G:List Pc) (lo hi:Nat) (s:Ls):Prop where
 pt:s.D.pts=(SS G lo hi).ps
 m:∀i:Nat,lo<=i->i<hi->byM i s.D.mks=dM G (SS G lo hi) i
 u:∀i:Nat,lo<=i->i<hi->byU i s.D.uss=dU G (SS G lo hi) i
 n:s.D.mks.length+s.D.uss.length=nnN (dN G (SS G lo hi)) lo (hi-lo)
 f:s.D.fls.Perm (((SS G lo hi).S lo,0)::flN (dF G (SS G lo hi)) lo (hi-lo))
 rd:∀i c,lo<=i->i<hi->G[i]?=some c->RdR (SS G lo hi) (hoC c) i c.ρ
 sp:∃v,(SS G lo hi).sp lo=some v
 z:Sz 60000 s
def Iq{d:Nat} {t:Tr} {w:Str} (C:roots[d]?=some lo) (j:∀p:Nat,lo<=p->p<lo+t.sz->inF roots p d=true) (pl:Pl G t lo (sc++[dfE wd d 0]) d) (z:okT t (·=wd d)) (D:t.nest<=50) (J:t.sz<=150) (K:lo<=3000) (H:∀(k:Nat) (ρ:Ro),(G.map Pc.ρ)[k]?=some ρ->ρ.few/\Wf ρ):∃o,AY (ox (G.map Pc.ρ) roots (hoG G) 50) roots (d:Int) s00=some (0,o)/\Dk G lo (lo+t.sz) o:=by
 have y:SS G lo lo=sn0 lo:=CU _ _;refine eal (GA (G:=G) (hi:=lo+t.sz) (d:=d) (roots:=roots) j 50 t lo _ _ ((s00.pt lo).begin d 0) pl z D (cN _) (cN _) (fun u B=>⟨_,by rw[oX,ip (show(dfE wd d 0).w=u from B.symm)],.inr (.inr ⟨rfl,rfl,sU⟩)⟩) (by rw[y];rfl) (fun i _ _=>by rw[y];rfl)) fun q b E v m=>?_;have I:(SS G lo (lo+t.sz)).S lo=q:=by unfold Sn.S;rw[v];rfl
 have a:=m.a;have n:lo+t.sz-lo=t.sz:=by lia
 have r:(b.fl q 0).D.fls.Perm (((SS G lo (lo+t.sz)).S lo,0)::flN (dF G (SS G lo (lo+t.sz))) lo (lo+t.sz-lo)):=by rw[List.perm_iff_count];intro x;show(b.D.fls++[(q,0)]).count x=_;rw[cy,a.f,n,I];show 0+_+ 0+_=([(q,(0:Int))]++flN (dF G (SS G lo (lo+t.sz))) lo t.sz).count x;rw[cy];lia
 have l:=a.nn;have L:=Dn (f:=dN G (SS G lo (lo+t.sz))) (p:=lo) (c:=6) (fun i=>by
  unfold dN dM dU;split;·exact Nat.add_le_add (Di _ _ _) (Dj _ _ _)
  ·show 0+ 0<=6;lia) t.sz;have M:=AO (F:=SS G lo (lo+t.sz)) (p:=lo) H t.sz;refine⟨b.fl q 0,?_,m.ps,fun i h g=>?_,fun i h g=>?_,?_,r,fun i c h g e=>a.rd i c h g e,⟨q,v⟩,?_⟩;·unfold AY;rw[show atZ roots (d:Int)=roots[d]? from rfl,C];dsimp only;rw[show s00.n=0 from rfl,E]
 ·show byM i b.D.mks=_;rw[a.m i,ip ⟨h,g⟩];rfl
 ·show byU i b.D.uss=_;rw[a.u i,ip ⟨h,g⟩];rfl
 ·rw[n];show b.D.mks.length+b.D.uss.length=_;rw[l];show 0+ 0+_=_;lia
 ·have l:b.D.mks.length+b.D.uss.length=0+ 0+_:=l;have A:=r.length_eq;rw[az,n]at A;refine⟨?_,by show b.D.mks.length<=_;lia,by show b.D.uss.length<=_;lia,by lia⟩;show b.D.pts.length<=_;rw[m.ps];have:=GH (ρs:=G.map Pc.ρ) (lo:=lo) (lo+t.sz);show(snF _ _ _).ps.length<=_;lia
open TM.Internal (Kn Tr iA szs)
def qg (n:Int):Im H (.int n) (.flat (.int n)):= .flat rfl
def Dp (s:Str):Im H (.str s) (.flat (.str s)):= .flat rfl
def sZ{b:Type} {l:List b} {a:b} (h:l[i]?=some a):l.take (i+ 1)=l.take i++[a]:=by rw[bU,h];rfl
def GI {G:List Pc} (h:Ims H xs (G.map rD)):Ims H xs ((G.map Pc.ρ).map Ro.d):=by rw[bh];exact h
def GJ(h:Ims H hs (G.map hD')) (k:Nat) (ρ:Ro) (e:(G.map Pc.ρ)[k]?=some ρ):∃y,hs[k]?=some y/\Im H y (hoD (hoG G k)):=by
 rw[aM]at e;refine eax (dA.mp e) fun c hc z0=>?_;subst z0;refine eax (sN h (show(G.map hD')[k]?=some (hD' c) by rw[aM,hc];rfl)) fun x hx ix=>?_;refine⟨x,hx,?_⟩;have:hoG G k=hoC c:=by unfold hoG;rw[hc];rfl
 rw[this];exact ix
def B2:jh [V.non] [Jm]:= .cons (show iZ V.non Jm from rfl) .nil
def vt (a:List Int) (lo hi:Option Int):∃b:List Int,yU (a.map V.int) lo hi=b.map V.int/\b.length<=a.length:=by unfold yU;rw[<-List.map_drop,<-List.map_take];refine⟨_,rfl,?_⟩;rw[aI,aV];lia
def AQ (c:Pc):kW (hD' c)<=1/\okD (hD' c):=by
 unfold hD' hoD;split;·exact⟨cO _,trivial⟩
 ·exact⟨by simp[hmD,kW,iF],by show 2<=100000;decide,trivial,trivial,trivial⟩
theorem EH:∀{l:List (Int×Int)} {fv:List V},Ims H fv (l.map flD)->∃ps:List (Zx×List Int),fv=ps.map (fun p=>V.ref p.1)/\x8 H ps/\ps.map Jc=l.map fun x=>[x.1,x.2]
 |[],_,.nil=>⟨[],rfl,fun _ h=>(by cases h),rfl⟩
 |x::l,_,.cons h r=>by
  refine eah (EH r) fun ps e1 e2 e3=>?_;refine eav (rJ (show Im H _ (.tup [kD x.1,kD x.2])from h)) fun t y z z0 et i1 i2=>?_;subst z0;cases i1;cases i2;exact⟨(t,[x.1,x.2])::ps,by rw[e1];rfl,fun p hp=>by
   rcases aj.mp hp with rfl|hp;·exact et
   ·exact e2 p hp,by rw[aB,e3];rfl⟩
noncomputable def kyD (k:List Int):Dt:= .tup (k.map kD)
theorem AR:∀{ps:List (Zx×List Int)},x8 H ps->Ims H (ps.map fun p=>V.ref p.1) ((ps.map Jc).map kyD)
 |[],_=> .nil
 |p::ps,h=> .cons (.tup (h p (by simp)) (by
   have:∀k:List Int,Ims H (k.map V.int) (k.map kD):=fun k=>by
    induction k with
    |nil=>exact .nil
    |cons a k ih=>exact .cons (.flat rfl) ih
   exact this p.2)) (AR fun q hq=>h q (ai _ hq))
def by_m (i:Nat) (l:List Mkg):((l.map fun m=>(m.d,m.p)).filter fun x=>decide (x.2=(i:Int))).map JY=(byM i l).map Mkg.d:=by unfold byM;rw[List.filter_map,bh];rfl
def by_u (i:Nat) (l:List Us):((l.map fun u=>(u.d,uP u)).filter fun x=>decide (x.2=(i:Int))).map JY=(byU i l).map Us.d:=by unfold byU;rw[List.filter_map,bh];rfl
def GK (u:Us):∃l,u.d= .tup l/\l[2]?=some (kD (uP u)):=by cases u<;>exact io _ rfl rfl
def Dq(W:DL H d L f k) (p:Int) (b:H z=none):∃o l,rO (Zk H z (.lst [])) d (.int p) o/\o.getD (.ref z)= .ref l/\(Zk H z (.lst [])) l=some (.lst (f p)):=by refine eak (W.get p b) fun a l g e c _=>?_;exact iab _ l (rO.k (k:=(Jw p:Key)) g) e c
def EI{dM dU:Zx} {fM fU:Int->List V} {md:List Mkg} {ud:List Us} (WM:DL H16 dM LM fM nM) (WU:DL H16 dU LU fU nU) (iM:Ims H16 (fM p) (md.map Mkg.d)) (iU:Ims H16 (fU p) (ud.map Us.d)) (S:gT H16 H) (eld:H ld=some (.lst [.ref l2,.ref l3])) (e2:H l2=some (.lst xs2)) (e3:H l3=some (.lst xs3)) (i2:Ims H xs2 (md.map Mkg.d)) (i3:Ims H xs3 (ud.map Us.d)) (hM:∀m∈md,kW m.f<=2/\okD m.f) (hU:∀u∈ud,u.ok) (lM:md.length<=100) (lU:ud.length<=100) (h11:σ[11]?=some (some (.ref dM))) (h12:σ[12]?=some (some (.ref dU))) (h15:σ[15]?=some (some (.int p))) (h17:σ[17]?=some (some (.ref ld))) (k:∀H',gT H H'->D.nx σ H'):
  sv (Iv (tB (qJ (xt 8) [] E0 (ki (AV (ki (yT (cV 11) (cV 15) (AV rM)) (ki (yT (cV 12) (cV 15) (AV rM)) rM))) (ki (cV 17) rM))))) (GN (tC (.bl false))) hG D σ H:=by
 have isd:∀{H:Hp} {d:Zx} {L:List Zx} {f:Int->List V} {n:Nat},DL H d L f n->IsD H d:=fun W=> .inl (by obtain⟨kvs,e,_⟩:=W;exact⟨kvs,.inl e⟩);have WM1:=WM.same fun a o e _=>S _ _ e;have WU1:=WU.same fun a o e _=>S _ _ e;show onV σ[11]? _;rw[h11];refine⟨dM,rfl,isd WM1,?_⟩;show onV σ[15]? _;rw[h15];refine⟨mz,fun z1 hz1=>?_⟩;refine eal (Dq WM1 p hz1) fun o1 a1 g1 g2 g3=>?_;refine⟨o1,g1,?_⟩;rw[g2];have S1:=gr hz1 (.lst []);show onV σ[12]? _;rw[h12];have WU2:=WU1.same fun a o e _=>S1 _ _ e;refine⟨dU,rfl,isd WU2,?_⟩;show onV σ[15]? _;rw[h15];refine⟨mz,fun z2 hz2=>?_⟩;refine eal (Dq WU2 p hz2) fun o2 a2 k1 k2 k3=>?_;refine⟨o2,k1,?_⟩;rw[k2];have S2:=gr hz2 (.lst []);refine⟨kB,fun l4 h4=>?_⟩;have S3:=gr h4 (.lst [.ref a1,.ref a2]);have S13:=S1.trans (S2.trans S3);show onV σ[17]? _;rw[h17];refine iar (.ref l4) (.ref ld) (.lst [.lst (md.map Mkg.d),.lst (ud.map Us.d)]) (⟨rfl,.lst gm (.cons (.lst ((S2.trans S3) _ _ g3) (iM.mono (gT.tk (S.trans S13))).das) (.cons (.lst (S3 _ _ k3) (iU.mono (gT.tk (S.trans S13))).das) .nil)),.lst (S13 _ _ eld) (.cons (.lst (S13 _ _ e2) (i2.mono (gT.tk S13)).das) (.cons (.lst (S13 _ _ e3) (i3.mono (gT.tk S13)).das) .nil)),?_,?_,fun H' S'=>⟨true,rfl,kU (k H' (S13.trans S'))⟩⟩)
 ·have d1:iF (md.map Mkg.d)<=3:=ja fun m hm=>by have:=(hM m hm).1;simp[Mkg.d,kW,iF];lia
  have d2:iF (ud.map Us.d)<=3:=ja fun u _=>u.dep;simp only[kW,iF];lia
 ·exact⟨by show 2<=100000;decide,⟨by rw[aC];lia,jn fun m hm=>⟨by show 4<=100000;decide,trivial,(hM m hm).2,trivial,trivial,trivial⟩⟩,⟨by rw[aC];lia,jn fun u hu=>Us.okd (hU u hu)⟩,trivial⟩
open TM.Internal (Kn Tr iA szs)
def EJ(T:Txt K mg) (W:Lk P w T) (F:Fun K "law" "law" tP f fd):rN P w K mg base CX0 300 f fd ["_law_script"] (xf K):=by
 have gY7:=Ei (P:=P) (w:=w) (base:=base) T W 50;have gD28:=pb (P:=P) (w:=w) (base:=base) T 8;refine F.rd jN fun cdv A0 outer s H vs Q E hr h=>?_;refine eak h fun a ns z0 ha ln q=>?_;subst z0;have hu:=rP hr;refine HzX ?_;intro _;refine io _ ((gq (pS (i:=1) jN.nd (gY jD (hV (zd rfl) rfl T.z_sum Fj (gk (oF vF (cv 0) qK (qL gu)) gn)) (gY zj gu gu)))
  (gq (pS (i:=2) jN.nd (pF T.d27 (t8 T) hr.m (gk (cv 1) gn)))
  (gq (pS (i:=3) jN.nd (pF T.d44 (tZ T) hr.m (gk (cv 2) (gk (pF T.d39 (rK T) hr.m (gk (cv 2) (gk (oF vF (cv 0) (qL gu) qK) gn))) gn))))
  (gq (pS (i:=4) jN.nd (gY jD (gY kN (cv 1) gu) (hV g9 rfl T.z_len jB (gk (gB gC (cv 3) gu) gn))))
  (gq (pS (i:=5) jN.nd (kl T.mk10 (oA T) hr.m rfl T.c10.m T.e71.b .nil ie (gk (iQ k9 rfl T.z_list mD (gk (gB gC (cv 3) gu) gn)) (gk (iQ k9 rfl T.z_list mD (gk (gB gC (cv 3) gu) gn)) (gk (iQ k9 rfl T.z_list mD (gk (gB gC (cv 3) gu) gn)) gn)))))
  (gq (pS (i:=6) jN.nd (iQ k9 rfl T.z_list mD (gk (gB gC (cv 3) gu) gn)))
  (gq (pS (i:=7) jN.nd (yO gY7 hr.m rfl T.y7.m T.y7.k T.y7.b B2 ie (gk (cv 5) (gk (cv 6) (gk (cv 4) gn)))))
  (gq (pS (i:=8) jN.nd (gB gC (gB gC (cv 3) gu) (cv 4)))
  (gq (pS (i:=9) jN.nd (gB gC (gY p9 (gB gC (cv 3) gu) (gN (gk (hV g9 rfl T.z_len jB (gk (gB gC (cv 3) gu) gn)) gn))) (gY jC (cv 4) gu)))
  (gq (pS (i:=10) jN.nd (pF T.d45 (uf T) hr.m (gk (gB gC (cv 3) gu) (gk (cv 8) (gk (cv 9) gn)))))
  (gq (iC (PW.pt (yC (um (oB (pF T.d28 gD28 hr.m (gk (gP T.c8.cl T.n8points (cv 7)) (gk (gB gC (cv 10) gu) gn))))) (wq (um (oB (pF T.d28 gD28 hr.m (gk (gP T.c8.cl T.n8root (cv 7)) (gk gu gn))))))))
   (gw (gM vx))
   gQ)
  (gq (pS (i:=11) jN.nd (pF T.d49 (qo T) hr.m (gk (rQ rfl (Fn (x:="_law_one") rfl gG gG rfl rfl) (lR (gP T.c8.cl T.n8makes (cv 7))) (fun _ _ _ _ _=>km) (fun _ _ _ _ _=>(gH (mX (J7 (cv 0)) T.c1.cl T.e51.me (u3 T) hr.m T.e51.b .nil ie)))) (gk gu gn))))
  (gq (pS (i:=12) jN.nd (pF T.d49 (qo T) hr.m (gk (rQ rfl (Fn (x:="_law_one") rfl gG gG rfl rfl) (lR (gP T.c8.cl T.n8uses (cv 7))) (fun _ _ _ _ _=>km) (fun _ _ _ _ _=>(PE.or (gH (mX (J7 (cv 0)) T.c3.cl T.e53.me (rZ T) hr.m T.e53.b .nil ie)) (PE.or (gH (mX (J7 (cv 0)) T.c4.cl T.e55.me (rA T) hr.m T.e55.b .nil ie)) (PE.or (gH (mX (J7 (cv 0)) T.c5.cl T.e57.me (rC T) hr.m T.e57.b .nil ie)) (PE.or (gH (mX (J7 (cv 0)) T.c6.cl T.e59.me (rF T) hr.m T.e59.b .nil ie)) (gH (mX (J7 (cv 0)) T.c7.cl T.e61.me (r8 T) hr.m T.e61.b .nil ie)))))))) (gk gu gn))))
  (gq (pS (i:=13) jN.nd (gN (gk (gK (gk (iq hu (gB gC (cv 10) gu) (cv 8)) (gk gu gn))) gn)))
  (gq (pS (i:=14) jN.nd gu)
  (gq (kj IW rfl (uq rfl T.z_range (gk (cv 8) (gk (cv 9) gn))) (pN (i:=15) jN.nd)
   (gq (pS (i:=16) jN.nd (gB gC (gB gC (cv 3) gu) (cv 15)))
   (gq (pS (i:=17) jN.nd (gN (gk (pF T.d46 (ug T) hr.m (gk (cv 16) (gk (cv 15) (gk (cv 10) gn)))) (gk (pF T.d47 (vp T) hr.m (gk (cv 16) (gk (cv 15) (gk (cv 10) gn)))) gn))))
   (gq (pS (i:=14) jN.nd (gY jC (gY jC (cv 14) (hV g9 rfl T.z_len jB (gk (gB gC (cv 17) gu) gn))) (hV g9 rfl T.z_len jB (gk (gB gC (cv 17) gu) gn))))
   (gq (pS (i:=13) jN.nd (gY p9 (cv 13) (pF T.d48 (uh T) hr.m (gk (cv 16) (gk (gB gC (gB gC (cv 3) gu) (cv 15)) (gk (cv 15) (gk (cv 10) gn)))))))
   (gw (iC (um (oB (pF T.d28 gD28 hr.m (gk (gN (gk (wH hu (cv 11) (cv 15) (gN gn) ⟨rfl,rfl,rfl,rfl⟩) (gk (wH hu (cv 12) (cv 15) (gN gn) ⟨rfl,rfl,rfl,rfl⟩) gn))) (gk (cv 17) gn)))))
    (gw (gM vx))
    gQ)))))))
  (gq (iC (PW.pt (yC (gL Fv (cv 14) (gY jC (hV g9 rfl T.z_len jB (gk (gP T.c8.cl T.n8makes (cv 7)) gn)) (hV g9 rfl T.z_len jB (gk (gP T.c8.cl T.n8uses (cv 7)) gn)))) (wq (um (oB (pF T.d28 gD28 hr.m (gk (hV oJ rfl T.z_sorted uN (gk (gP T.c8.cl T.n8flows (cv 7)) gn)) (gk (hV oJ rfl T.z_sorted uN (gk (cv 13) gn)) gn))))))))
   (gw (gM vx))
   gQ)
  (gw (gM (pF T.d28 gD28 hr.m (gk (gN (gk (gP T.c10.cl T.n10names (cv 5)) (gk (gP T.c10.cl T.n10roots (cv 5)) (gk (gP T.c10.cl T.n10rows (cv 5)) (gk (cv 6) gn))))) (gk (cv 3) gn))))))))))))))))))))))) ?_;refine Hz17 ?_;intros;have sl:=IS;refine eae (vt ns none (some 1)) fun m1 em1 lm1=>?_;refine eae (vt ns (some 1) none) fun m2 em2 lm2=>?_;refine⟨_,rfl,a,_,rfl,ha,fun l1 h1=>(iab l1 m1 rfl (J8 (by rw[gm,em1])) (fun n0=>?_))⟩;have S1:=gr h1 (.lst (yU (ns.map V.int) none (some 1)));refine⟨⟨by decide,by decide,gG⟩,(show(0:Int)<10^Int.toNat 30 by decide+kernel),?_⟩;dsimp only[gX];generalize n0%10^Int.toNat 30=fi;refine io fi rfl (fun wa H2 S2 _ hw=>?_);dsimp only[gX];have S12:=S1.trans S2;refine eah hw fun wl hw lw nd=>?_;refine⟨_,rfl,a,_,rfl,S12.seq ha,fun l3 h3=>?_⟩;have S3:=gr h3 (.lst (yU (ns.map V.int) (some 1) none));refine⟨wa,l3,wl,m2,rfl,S3 _ _ hw,lw,nd,by rw[gm,em2],by lia,fun H4 l4 xs ts made S4 e4 i4 ne4 lt4 jd=>?_⟩;have hw4:=(S3.trans S4) _ _ hw;have ltm:ts.length=made.length:=jd.1;have jdt:∀t∈ts,∃d,JD wl (made.take d) t (made.getD d 0):=fun t ht=>by obtain⟨d,hd⟩:=bC.mp ht;exact⟨d,jd.2 d t hd⟩
 have sz4:szs ts<=10000:=by have:=Ay (ts:=ts) fun t ht=>let⟨d,j⟩:=jdt t ht;j.z;lia
 refine⟨wa,l4,wl,xs,ts,rfl,hw4,lw,e4,i4,lt4,fun t ht=>?_,sz4,fun H5 b n r w' h Bt=>?_⟩;·obtain⟨d,j⟩:=jdt t ht;exact⟨⟨fun _=>True,j.o _ trivial⟩,by have:=j.n;lia⟩
 dsimp only[gX];obtain⟨sm,eb,⟨nms,en,lnm⟩,er',⟨rs,ew,iw⟩,⟨hs,eh,ih⟩,nw⟩:=Bt;have ft:=Em (Ax (us:=ts) (d:=0) (made:=made) (by lia) fun k t hk=>by rw[cX];exact jd.2 k t hk);have hq:szs ts=(pcD (wdE wl) ts 0 0 []).length:=Af.symm;have few:=FtD.few ft hq;have dom:=FtD.dom ft hq;have iw':=GI iw;have wff:=FtD.wf ft hq;have good:=FtD.good ft hq;have roL:(iA ts 0).length=ts.length:=TM.Internal.offs_len _ _;have dpl:∀{j r:Nat},(iA ts 0)[j]?=some r->∃t sc',ts[j]?=some t/\Pl (pcD (wdE wl) ts 0 0 []) t r (sc'++[dfE (wdE wl) j 0]) j:=fun{j r} hj=>by have:=CT (G:=pcD (wdE wl) ts 0 0 []) (wd:=wdE wl) (us:=ts) (d:=0) (p:=0) (sc:=[]) (l1:=[]) rfl rfl hj;rw[cX]at this;exact this
 generalize pcD (wdE wl) ts 0 0 []=G at*;have l0:0<ts.length:=List.length_pos_iff.mpr ne4;refine iag ⟨by decide,by decide⟩ _ eb (gy (gv (j:=0) rfl) (iaa n _ rfl (.inl (J8 en)) ((by show(0:Int)<((nms.map V.str).length:Int);rw[aC,lnm];lia)) ?_));dsimp only[gX];obtain⟨wh,hwh,lwh⟩:∃wh:Nat,fi/7%((nms.map V.str).length:Int)=(wh:Int)/\wh<ts.length:=by rw[aC,lnm];have c0:=fR (fi/7) (show(ts.length:Int)≠0 by lia);have c1:=fV (fi/7) (show(0:Int)<(ts.length:Int) by lia);exact io ((fi/7%(ts.length:Int)).toNat) (by lia) (by lia)
 rw[hwh];refine io _ eb (gy (gv (j:=0) rfl) (iab n _ rfl (.inl (J8 en)) (fun p1 g1=>?_)));have U1:=gr g1 (.lst (nms.map V.str));refine io _ (U1 _ _ eb) (gy (gv (j:=1) rfl) (iab r _ rfl (.inl (J8 (U1 _ _ er'))) (fun p2 g2=>?_)));have U2:=gr g2 (.lst ((iA ts 0).map nI));refine io _ (U2 _ _ (U1 _ _ eb)) (gy (gv (j:=2) rfl) (iab w' _ rfl (.inl (J8 (U2 _ _ (U1 _ _ ew)))) (fun p3 g3=>?_)));have U3:=gr g3 (.lst rs);refine fun x dx hx hdx nx=>(iav x dx p1 p2 p3 ⟨rfl,gm,rfl,?_⟩);rw[iJ];have U4:=ke (o:= .ins T.c10.a dx (fP p1 p2 p3)) hx hdx;dsimp only[gX];have U14:=U1.trans (U2.trans (U3.trans U4));refine io _ (U14 _ _ eb) (gy (gv (j:=3) rfl) (iab h _ rfl (.inl (J8 (U14 _ _ eh))) (fun p5 g5=>?_)));have U5:=gr g5 (.lst hs);dsimp only[gX];have U15:=U14.trans U5;have Cq0:Cq T.c10.a _ x p5 nms (iA ts 0) (G.map Pc.ρ) (hoG G):=⟨⟨p1,p2,p3,dx,rs,U5 _ _ gm,(U2.trans (U3.trans (U4.trans U5))) _ _ gm,(U3.trans (U4.trans U5)) _ _ gm,(U4.trans U5) _ _ gm,iw'.mono (gT.tk U15)⟩,(io hs gm (fun k ρ e=>GJ (ih.mono (gT.tk U15)) k ρ e)),few,dom⟩;have hx6:_=some (HO.ins T.c10.a dx (fP p1 p2 p3)):=U5 _ _ (gm (H:=(Zk (Zk (Zk (Zk H5 p1 (.lst (nms.map V.str))) p2 (.lst ((iA ts 0).map nI))) p3 (.lst rs)) dx (.own x))) (a:=x));have h16:=(U2.trans (U3.trans (U4.trans U5))) _ _ (gm (H:=H5) (a:=p1) (o:= .lst (nms.map V.str)));have h26:=(U3.trans (U4.trans U5)) _ _ (gm (a:=p2) (o:= .lst ((iA ts 0).map nI)));have h36:=(U4.trans U5) _ _ (gm (a:=p3) (o:= .lst rs));have h56:=gm (H:=(Zk (Zk (Zk (Zk (Zk H5 p1 (.lst (nms.map V.str))) p2 (.lst ((iA ts 0).map nI))) p3 (.lst rs)) dx (.own x)) x (.ins T.c10.a dx (fP p1 p2 p3)))) (a:=p5) (o:= .lst hs);have eb6:=U15 _ _ eb;have en6:=U15 _ _ en;have er6:=U15 _ _ er';have ew6:=U15 _ _ ew;have eh6:=U15 _ _ eh;have iw6:=iw'.mono (gT.tk U15);have ih6:=ih.mono (gT.tk U15);generalize(Zk (Zk (Zk (Zk (Zk (Zk H5 p1 (.lst (nms.map V.str))) p2 (.lst ((iA ts 0).map nI))) p3 (.lst rs)) dx (.own x)) x (.ins T.c10.a dx (fP p1 p2 p3))) p5 (.lst hs))=H6 at Cq0 hx6 h16 h26 h36 h56 eb6 en6 er6 ew6 eh6 iw6 ih6⊢;obtain⟨lo,hlo⟩:∃r,(iA ts 0)[wh]?=some r:=⟨_,bf (by lia)⟩;refine ead (dpl hlo) fun t sc' ht pl=>?_;have jt:=jd.2 wh t ht;have ltk:(made.take wh).length=wh:=by rw[aI];lia
 have okt:=jt.o (·=wdE wl wh) (by rw[ltk]);have nxt:=vq hlo ht;rw[cX]at nxt;have szb:szs ts<=1800:=by have:=Ay (ts:=ts) fun t ht=>let⟨d,j⟩:=jdt t ht;j.z;lia
 have lol:lo<szs ts:=by have:=ue (aN hlo);lia
 have hil:lo+t.sz<=szs ts:=by
  by_cases e:wh+ 1<(iA ts 0).length;·rw[aK e]at nxt;have:=ue (aN nxt);lia
  ·have e':wh+ 1=(iA ts 0).length:=by lia
   rw[e',aJ (cN _),cY]at nxt;have:szs ts=lo+t.sz:=dj.inj nxt;lia
 have hin:∀p:Nat,lo<=p->p<lo+t.sz->inF (iA ts 0) p wh=true:=fun p _ h2=>by
  unfold inF;rw[show atZ (iA ts 0) ((wh:Int)+ 1)=(iA ts 0)[wh+ 1]? from rfl];by_cases e:wh+ 1<(iA ts 0).length;·rw[aK e]at nxt;rw[nxt];exact jo (by lia)
  ·rw[b9 (by lia)]
 have fwf:∀(k:Nat) (ρ:Ro),(G.map Pc.ρ)[k]?=some ρ->ρ.few/\Wf ρ:=fun k ρ h=>⟨few k ρ h,wff k ρ h⟩;refine eae (Iq (wd:=wdE wl) (w:="") hlo hin pl okt (by have:=jt.n;lia) jt.z (by lia) fwf) fun s' hF dk=>?_;have zz:=dk.z;have szt:=jt.z;refine⟨x,p5,wh,0,s',nms,iA ts 0,G.map Pc.ρ,hoG G,rfl,Cq0,hF,⟨cJ zz.p (by decide),cJ zz.m (by decide),cJ zz.u (by decide),cJ zz.f (by decide)⟩,fun B H7 S7 fB B7=>?_⟩;dsimp only[gX];have lG:G.length=szs ts:=hq.symm;generalize hhi:lo+t.sz=hi at nxt hil hin dk;have lhi:lo<=hi:=by lia
 have eb7:=S7 _ _ eb6;refine io _ eb7 (gy (gv (j:=1) rfl) (io _ (S7 _ _ er6) (gy (gv (j:=wh) (show((iA ts 0).map nI)[wh]?=some (.int (lo:Int)) by rw[aM,hlo];rfl)) ?_)));dsimp only[gX];refine io _ eb7 (gy (gv (j:=1) rfl) (io _ eb7 (gy (gv (j:=2) rfl) (iaa w' _ rfl (.inl (J8 (S7 _ _ ew6))) kJ (fun l8 h8=>?_)))));have lrs:rs.length=szs ts:=by have:=iw6.length;rw[aC,aC]at this;lia
 have S8:=gr h8 (.lst [.int (rs.length:Int)]);refine iaj r l8 ((iA ts 0).map nI) ([.int (rs.length:Int)]) rfl rfl ((S7.trans S8) _ _ er6) gm (by rw[aC];show _+ 1<=_;lia) (fun l9 h9=>?_);have S9:=gr h9 (.lst ((iA ts 0).map nI++[.int (rs.length:Int)]));refine io _ gm (gy (show atI ((iA ts 0).map nI++[.int (rs.length:Int)]) ((wh:Int)+ 1)=some (.int (hi:Int))from ?_) ?_)
 ·refine gv (j:=wh+ 1) ?_;have:(iA ts 0).map nI++[.int (rs.length:Int)]=(iA ts 0++[szs ts]).map nI:=by rw[bB,lrs];rfl
  rw[this,aM,nxt];rfl
 dsimp only[gX];have S79:=S7.trans (S8.trans S9);have B9:=B7.same (S8.trans S9);have iw9:=iw6.mono (gT.tk S79);have ih9:=ih6.mono (gT.tk S79);have eb9:=S79 _ _ eb6;have ew9:=S79 _ _ ew6;have eh9:=S79 _ _ eh6;have hx9:=S79 _ _ hx6;have h19:=S79 _ _ h16;have h29:=S79 _ _ h26;have h39:=S79 _ _ h36;have h59:=S79 _ _ h56;have en9:=S79 _ _ en6;have er9:=S79 _ _ er6;generalize(Zk (Zk H7 l8 (.lst [.int (rs.length:Int)])) l9 (.lst ((iA ts 0).map nI++[.int (rs.length:Int)])))=H9 at S79 B9 iw9 ih9 eb9 ew9 eh9 hx9 h19 h29 h39 h59 en9 er9⊢;refine io _ eb9 (gy (gv (j:=2) rfl) ⟨w',rs,G.map Pc.ρ,lo,hi,rfl,ew9,iw9,fwf,lhi,by rw[aC];lia,by rw[aC];lia,fun H10 sh S10 sp=>?_⟩);dsimp only[gX];have esp:snF (G.map Pc.ρ) lo hi=SS G lo hi:=rfl;rw[esp]at sp;have B10:=B9.same S10;obtain⟨a0,d1,d2,d3,nsp,esh,ep,lp,_,_,_⟩:=id sp;refine⟨_,(iaf _ _ B10.b (rn _ _ _ _ _)),_,esh,gy (gv (j:=0) rfl) ?_⟩;refine iar (.ref B.p0) (.ref a0) (.lst ((SS G lo hi).ps.map fun i=> .flat (.int i))) ⟨rfl,.lst B10.e0 (by rw[dk.pt];exact qO _ _),.lst ep (qO _ _),?_,?_,fun H11 S11=>(io true rfl (kU ?_))⟩;·show iF ((SS G lo hi).ps.map fun i=>Dt.flat (.int i))+ 1<=7;have:iF ((SS G lo hi).ps.map fun i=>Dt.flat (.int i))<=3:=ja fun x _=>cO _;lia
 ·exact⟨by rw[aC];exact lp,jn fun _ _=>trivial⟩
 have B11:=B10.same S11;refine⟨_,(iaf _ _ B11.b (D5 _ _ _ _ _)),.int 0,.int 0,.flat (.int 0),rfl,.flat rfl,.flat rfl,by show 0<=7;decide,trivial,fun H12 S12=>(io true rfl (kU ?_))⟩;have B12:=B11.same S12;dsimp only[hG];refine eae B12.e1 fun mv em am=>?_;refine eae B12.e2 fun uv eu au=>?_;refine eae B12.e3 fun fv ef jf=>?_;have lm:=am.length;have lu:=au.length;have z1:=zz.m;have z2:=zz.u;have hMk:∀m∈s'.D.mks,kW m.f<=2/\okD m.f:=fun m hm=>let⟨x,_,_,_,_,_,_,d,o⟩:=am.right m hm;⟨d,o⟩;have hUs:∀u∈s'.D.uss,u.ok:=fun u hu=>let⟨x,q⟩:=au.right u hu;q.ok;refine⟨_,(iaf _ _ B12.b (tT _ _ _ _ _)),B.p1,rfl,⟨_,J8 em⟩,fun dm hdm=>?_⟩;refine mE mv.length (by lia) (fun xs H=>Ims H xs ((s'.D.mks.take xs.length).map Mkg.d)) (fun xs H H' h k=>h.mono k) hdm rfl (fun k H S hk=>wL em S hk) (fun H S=>wM em S) .nil ?_ ?_;·rintro k H2 v H3 xs Z S2 hk ⟨rfl,hv⟩ I2 hl z;refine eaw (am.get (hv _ (J8 (S2 _ _ em)))) fun m hm x dx f z0 ex hf _=>?_;subst z0;have ex2:=S2 _ _ ex;refine⟨(iaf _ _ ex2 (ye _ _ _ _)),x,dx,_,_,_,_,rfl,ex2,fun t ht=>z _ _ (gr ht _) ?_⟩;show Ims _ (xs++[V.ref t]) ((s'.D.mks.take (xs++[V.ref t]).length).map Mkg.d);rw[aO,aX,sZ (by rw[hl];exact hm),bB];exact(Ims.mono (gT.tk (gr ht _)) I2).app (.cons (zk ht (.cons (Dp _) (.cons (hf.mono (gT.tk S2)) (.cons (qg _) (.cons (qg _) .nil))))) .nil)
 rintro H13 xs13 S13 I13 hl13 eD13;have I13':Ims H13 xs13 ((s'.D.mks.take xs13.length).map Mkg.d):=I13;rw[hl13,lm,bK]at I13';refine⟨dm,xs13,s'.D.mks.map (fun m=>(m.d,m.p)),3,rfl,eD13,by rw[bh];exact I13',fun x hx=>?_,by rw[aC];lia,fun dM' LM H14 S14 hdM hLM WM=>?_⟩;·refine eae (bg.mp hx) fun m _ z0=>?_;subst z0;exact io _ rfl rfl
 dsimp only[gX];have S2:=S13.trans S14;have B14:=B12.same S2;have eu2:=S2 _ _ eu;refine⟨_,(iaf _ _ B14.b (vR _ _ _ _ _)),B.p2,rfl,⟨_,J8 eu2⟩,fun d2' hd2=>?_⟩;refine mE uv.length (by lia) (fun xs H=>Ims H xs ((s'.D.uss.take xs.length).map Us.d)) (fun xs H H' h k=>h.mono k) hd2 rfl (fun k H S hk=>wL eu2 S hk) (fun H S=>wM eu2 S) .nil ?_ ?_
 ·rintro k H3 v H4 ys Z S3 hk ⟨rfl,hv⟩ I3 hl3 z;refine eae (au.get (hv _ (J8 (S3 _ _ eu2)))) fun u hu ua=>?_;have S:=S2.trans S3;have fin:∀{t:Zx} {ts:List V} {ds:List Dt},H4 t=none->Ims H4 ts ds->Us.d u= .tup ds->Z (.ref t) (Zk H4 t (.tup ts)):=fun{t ts ds} ht i e=>z _ _ (gr ht _) (by show Ims _ (ys++[V.ref t]) ((s'.D.uss.take (ys++[V.ref t]).length).map Us.d);rw[aO,aX,sZ (by rw[hl3];exact hu),bB];refine(Ims.mono (gT.tk (gr ht _)) I3).app (.cons ?_ .nil);rw[e];exact zk ht i);have h4:∀(s:Str) (a p sl:Int),Ims H4 [.str s,.int a,.int p,.int sl] (hdD s a p sl):=fun s a p sl=> .cons (Dp _) (.cons (qg _) (.cons (qg _) (.cons (qg _) .nil)))
  cases u with
  |num a p sl=>refine ead ua fun x dx z0 ex=>?_;subst z0;have ex2:=S _ _ ex;exact .inl ⟨(iaf _ _ ex2 (yd _ _ _)),x,dx,_,_,_,rfl,ex2,fun t ht=>fin ht (h4 "num" a p sl) rfl⟩
  |call a p sl y1 y2=>refine ead ua fun x dx z0 ex=>?_;subst z0;have ex2:=S _ _ ex;exact .inr (.inl ⟨(iaf _ _ ex2 (vQ _ _ _ _ _)),x,dx,_,_,_,_,_,rfl,ex2,fun t ht=>fin ht ((h4 "call" a p sl).app (.cons (qg y1) (.cons (qg y2) .nil))) rfl⟩)
  |take a p sl l=>refine eav ua fun x dx f z0 ex hf _=>?_;subst z0;have ex2:=S _ _ ex;exact .inr (.inr (.inl ⟨(iaf _ _ ex2 (uW _ _ _ _)),x,dx,_,_,_,_,rfl,ex2,fun t ht=>fin ht ((h4 "take" a p sl).app (.cons (hf.mono (gT.tk S)) .nil)) rfl⟩))
  |case a p sl l=>refine eav ua fun x dx f z0 ex hf _=>?_;subst z0;have ex2:=S _ _ ex;exact .inr (.inr (.inr (.inl ⟨(iaf _ _ ex2 (uX _ _ _ _)),x,dx,_,_,_,_,rfl,ex2,fun t ht=>fin ht ((h4 "case" a p sl).app (.cons (hf.mono (gT.tk S)) .nil)) rfl⟩)))
  |row a p sl y1=>refine ead ua fun x dx z0 ex=>?_;subst z0;have ex2:=S _ _ ex;exact .inr (.inr (.inr (.inr ⟨(iaf _ _ ex2 (uY _ _ _ _)),x,dx,_,_,_,_,rfl,ex2,fun t ht=>fin ht ((h4 "row" a p sl).app (.cons (qg y1) .nil)) rfl⟩)))
 rintro H15 xs15 S15 I15 hl15 eD15;have I15':Ims H15 xs15 ((s'.D.uss.take xs15.length).map Us.d):=I15;rw[hl15,lu,bK]at I15';refine⟨d2',xs15,s'.D.uss.map (fun u=>(u.d,uP u)),2,rfl,eD15,by rw[bh];exact I15',fun x hx=>?_,by rw[aC];lia,fun dU' LU H16 S16 hdU hLU WU=>?_⟩;·refine eae (bg.mp hx) fun u _ z0=>?_;subst z0;exact GK u
 dsimp only[gX];have S1416:=S15.trans S16;have WM16:=WM.same fun a o e _=>S1416 _ _ e;have iM:∀i:Nat,lo<=i->i<hi->Ims H16 (fz (xs13.zip (s'.D.mks.map fun m=>(m.d,m.p))) i) ((dM G (SS G lo hi) i).map Mkg.d):=fun i l1 l2=>by have:=AM (H:=H16) (p:=(i:Int)) (xs:=xs13) (ps:=s'.D.mks.map fun m=>(m.d,m.p)) (by rw[bh];exact I13'.mono (gT.tk (S14.trans S1416)));rw[by_m,dk.m i l1 l2]at this;exact this
 have iU:∀i:Nat,lo<=i->i<hi->Ims H16 (fz (xs15.zip (s'.D.uss.map fun u=>(u.d,uP u))) i) ((dU G (SS G lo hi) i).map Us.d):=fun i l1 l2=>by have:=AM (H:=H16) (p:=(i:Int)) (xs:=xs15) (ps:=s'.D.uss.map fun u=>(u.d,uP u)) (by rw[bh];exact I15'.mono (gT.tk S16));rw[by_u,dk.u i l1 l2]at this;exact this
 generalize fz (xs13.zip (s'.D.mks.map fun m=>(m.d,m.p)))=fM at WM16 iM;generalize fz (xs15.zip (s'.D.uss.map fun u=>(u.d,uP u)))=fU at WU iU;have S1016:=S11.trans (S12.trans (S2.trans S1416));have S916:=S10.trans S1016;have sp16:=sp.same S1016;have esh16:=S1016 _ _ esh;refine eac sp16.gt fun e1' e2' e3' gt=>?_;have G16:=gt H16 (fun _ _ e=>e);obtain⟨a0',esh'⟩:=G16.e;refine io _ esh' (gy (gv (j:=1) rfl) (iaa e1' _ rfl (G16.s lo dk.sp) kB (fun t17 g17=>⟨kJ,fun l17 h17=>?_⟩)));dsimp only[gX];have S17:=(gr g17 (.tup [.int ((SS G lo hi).S lo),.int 0])).trans (gr h17 (.lst [.ref t17]));have bd:∀n:Nat,n<=3000-> -(2^62)<=(n:Int)/\(n:Int)<2^62:=fun n h=>⟨by lia,by lia⟩;have enn:((hi:Int)-(lo:Int)).toNat=hi-lo:=by lia
 refine⟨(lo:Int),(hi:Int),rfl,⟨(bd lo (by lia)).1,(bd lo (by lia)).2,(bd hi (by lia)).1,(bd hi (by lia)).2⟩,?_⟩;rw[enn];refine kK (fun i σ H1=>∃(o15 o16 o17:Option V) (fl:Zx) (xs:List V),σ=[some (.ref a),some (.int fi),some (.ref wa),some (.ref b),some (.int (wh:Int)),some (.ref x),some (.ref p5),some (.ref B.b),some (.int (lo:Int)),some (.int (hi:Int)),some (.ref sh),some (.ref dM'),some (.ref dU'),some (.ref fl),some (.int (nnN (dN G (SS G lo hi)) lo i:Int)),o15,o16,o17]/\gT H16 H1/\H1 fl=some (.lst xs)/\Ims H1 xs ((((SS G lo hi).S lo,0)::flN (dF G (SS G lo hi)) lo i).map flD)) (iav none none none l17 ([.ref t17]) ⟨rfl,S17,gm,GX h17 (im3 gm (.cons (.flat rfl) (.cons (.flat rfl) .nil)))⟩) ?_ ?_
 ·refine fun i σ H1 li=>fai fun o15 o16 o17 fl xs'=>fac fun z0 S efl ifl=>?_;subst z0;have lp':lo+i<hi:=by lia
  obtain⟨c,hc⟩:∃c,G[lo+i]?=some c:=⟨_,bf (by lia)⟩;have hρ:(G.map Pc.ρ)[lo+i]?=some c.ρ:=by rw[aM,hc];rfl
  obtain⟨few',wf'⟩:=fwf _ _ hρ;have rd:=dk.rd (lo+i) c (by lia) lp' hc;have S9':=S916.trans S;refine eak (vT (iw9.mono (gT.tk S9')) hρ) fun t' ys' hx' et' iy' it'=>?_;rw[show(lo:Int)+(i:Int)=((lo+i:Nat):Int) by lia];dsimp only[gX];refine io _ (S9' _ _ eb9) (gy (gv (j:=2) rfl) (io rs (S9' _ _ ew9) (gy (gv hx') ?_)));dsimp only[gX];refine⟨t',sh,((lo+i:Nat):Int),hoC c,c.ρ,SS G lo hi,rfl,it',sp16.same S,rd,wf',few',fun H2 l2 xs2 U2 e2 i2=>?_⟩;refine⟨t',sh,((lo+i:Nat):Int),hoC c,c.ρ,SS G lo hi,rfl,it'.mono (gT.tk U2),(sp16.same S).same U2,rd,wf',few',fun H3 l3' xs3 U3 e3 i3=>?_⟩;refine⟨kB,fun ld hld=>?_⟩;dsimp only[gX];have U4:=gr hld (.lst [.ref l2,.ref l3']);have eld:=gm (H:=H3) (a:=ld) (o:= .lst [.ref l2,.ref l3']);have e2':=(U3.trans U4) _ _ e2;have e3'':=U4 _ _ e3;have i2':=i2.mono (gT.tk (U3.trans U4));have i3':=i3.mono (gT.tk U4);have UU:=U2.trans (U3.trans U4);generalize(Zk H3 ld (.lst [.ref l2,.ref l3']))=H4 at eld e2' e3'' i2' i3' UU;have l2n:=i2.length;have l3n:=i3.length;unfold mkD at l2n i2';unfold usD at l3n i3';rw[aC]at l2n l3n;have edM:dM G (SS G lo hi) (lo+i)=mdR (SS G lo hi) ((lo+i:Nat):Int) c.ρ:=by unfold dM;rw[hc]
  have edU:dU G (SS G lo hi) (lo+i)=udR (SS G lo hi) ((lo+i:Nat):Int) c.ρ:=by unfold dU;rw[hc]
  have edF:dF G (SS G lo hi) (lo+i)=fdR (SS G lo hi) ((lo+i:Nat):Int) (hoC c) c.ρ:=by unfold dF;rw[hc]
  rw[<-edM]at l2n i2';rw[<-edU]at l3n i3';refine io _ eld (gy (gv (j:=0) rfl) (iap l2 _ ⟨rfl,.inl (J8 e2'),_,eld,gy (gv (j:=1) rfl) (iab l3' _ rfl (.inl (J8 e3'')) ?_)⟩));dsimp only[gX];have S9'':=S9'.trans UU;refine eae (GJ (ih9.mono (gT.tk S9'')) (lo+i) c.ρ hρ) fun y' hy' iy''=>?_;have eho:hoG G (lo+i)=hoC c:=by unfold hoG;rw[hc];rfl
  rw[eho]at iy'';refine io _ (S9'' _ _ eb9) (gy (gv (j:=3) rfl) (io hs (S9'' _ _ eh9) (gy (gv hy') ?_)));refine⟨t',sh,y',((lo+i:Nat):Int),hoC c,c.ρ,SS G lo hi,rfl,it'.mono (gT.tk UU),iy'',(sp16.same S).same UU,rd,wf',few',fun H5' l5 xs5 U5' e5 i5=>?_⟩;have lfl:=ifl.length;have lf5:=i5.length;rw[aC]at lfl lf5;have bF:=AO (F:=SS G lo hi) (p:=lo) fwf i;have bf5:=Dl (SS G lo hi) ((lo+i:Nat):Int) (hoC c) few' wf';rw[az]at lfl;refine iaj fl l5 xs' xs5 rfl rfl ((UU.trans U5') _ _ efl) e5 (by lia) (fun l6 h6=>?_);dsimp only[gX];have U6:=gr h6 (.lst (xs'++xs5));have U56:=U5'.trans U6;have U46:=UU.trans U56;have ifl6:=(ifl.mono (gT.tk U46)).app (i5.mono (gT.tk U6));have efl6:=gm (H:=H5') (a:=l6) (o:= .lst (xs'++xs5));have eld6:=U56 _ _ eld;have e26:=U56 _ _ e2';have e36:=U56 _ _ e3'';have i26:=i2'.mono (gT.tk U56);have i36:=i3'.mono (gT.tk U56);have S6':=S.trans U46;generalize(Zk H5' l6 (.lst (xs'++xs5)))=H6' at efl6 ifl6 eld6 e26 e36 i26 i36 S6';refine EI WM16 WU (iM _ (by lia) lp') (iU _ (by lia) lp') S6' eld6 e26 e36 i26 i36 (by rw[<-dk.m _ (by lia) lp'];exact fun m hm=>hMk m (ae.mp hm).1) (by rw[<-dk.u _ (by lia) lp'];exact fun u hu=>hUs u (ae.mp hu).1) (by have:=Di (SS G lo hi) ((lo+i:Nat):Int) c.ρ;rw[edM];lia) (by have:=Dj (SS G lo hi) ((lo+i:Nat):Int) c.ρ;rw[edU];lia) rfl rfl rfl rfl ?_
  ·intro H7' S7';refine iav (some (.int ((lo+i:Nat):Int))) (some (.ref t')) (some (.ref ld)) l6 (xs'++xs5) ⟨?_,S6'.trans S7',S7' _ _ efl6,?_⟩
   ·have:(nnN (dN G (SS G lo hi)) lo i:Int)+(xs2.length:Int)+(xs3.length:Int)=(nnN (dN G (SS G lo hi)) lo (i+ 1):Int):=by show _=((nnN (dN G (SS G lo hi)) lo i+((dM G (SS G lo hi) (lo+i)).length+(dU G (SS G lo hi) (lo+i)).length):Nat):Int);rw[l2n,l3n];lia
    rw[<-this];rfl
   ·have:(((SS G lo hi).S lo,(0:Int))::flN (dF G (SS G lo hi)) lo (i+ 1)).map flD=(((SS G lo hi).S lo,(0:Int))::flN (dF G (SS G lo hi)) lo i).map flD++(fdR (SS G lo hi) ((lo+i:Nat):Int) (hoC c) c.ρ).map flD:=by rw[<-bB,<-edF];rfl
    rw[this];exact ifl6.mono (gT.tk S7')
 ·refine fun σ H1=>fai fun o15 o16 o17 fl xs'=>fac fun z0 S efl ifl=>?_;subst z0;dsimp only;have B1:=B12.same (S2.trans (S1416.trans S));have S12':=S2.trans (S1416.trans S);have bF:=AO (F:=SS G lo hi) (p:=lo) fwf (hi-lo);refine⟨_,(iaf _ _ B1.b (tT _ _ _ _ _)),B.p1,_,rfl,.inl (J8 (S12' _ _ em)),_,(iaf _ _ B1.b (vR _ _ _ _ _)),B.p2,_,rfl,.inl (J8 (S12' _ _ eu)),?_⟩;have en1:(nnN (dN G (SS G lo hi)) lo (hi-lo):Int)=(mv.length:Int)+(uv.length:Int):=by rw[<-dk.n,lm,lu];lia
  show if(true ^^ decide ((nnN (dN G (SS G lo hi)) lo (hi-lo):Int)=(mv.length:Int)+(uv.length:Int)))=true then _ else _;rw[jo en1];refine kU ?_;refine eah (EH (jf.mono (gT.tk S12'))) fun ps1 q1 q2 q3=>?_;refine eah (EH ifl) fun ps2 r1 r2 r3=>?_;have one:∀{ps:List (Zx×List Int)} {l:List (Int×Int)},ps.map Jc=l.map (fun x=>[x.1,x.2])->∀p∈ps,1<=p.2.length:=fun{ps l} e p hp=>by have:p.2∈ps.map Jc:=cC hp;rw[e]at this;refine eae (bg.mp this) fun x _ h=>?_;rw[<-h];show 1<=2;decide
  refine⟨_,(iaf _ _ B1.b (xg _ _ _ _ _)),B.p3,ps1,rfl,J8 (by rw[<-q1];exact S12' _ _ ef),q2,one q3,fun l20 ps1' h20 pm1 pw1=>?_⟩;have S20:=gr h20 (.lst (ps1'.map fun p=>V.ref p.1));have th:∀{H H':Hp} {ps ps':List (Zx×List Int)},x8 H ps->ps'.Perm ps->gT H H'->x8 H' ps':=fun h pm S p hp=>S _ _ (h p (pm.mem_iff.mp hp));refine iap fl ps2 ⟨rfl,J8 (by rw[<-r1];exact S20 _ _ efl),th r2 (.refl _) S20,one r3,fun l21 ps2' h21 pm2 pw2=>?_⟩;have S21:=gr h21 (.lst (ps2'.map fun p=>V.ref p.1));have ek:ps1'.map Jc=ps2'.map Jc:=DW pw1 pw2 (by refine(pm1.map Jc).trans (?_:(ps1.map Jc).Perm _);rw[q3];refine(dk.f.map _).trans ?_;rw[<-r3];exact(pm2.map Jc).symm);have k1:=AR (th q2 pm1 (S20.trans S21));have k2:=AR (th r2 pm2 (S20.trans S21));rw[ek]at k1;have lk:(ps2'.map Jc).length<=100000:=by rw[aC,pm2.length_eq,<-aC (f:=Jc),r3,aC,az];lia
  refine iar (.ref l20) (.ref l21) (.lst ((ps2'.map Jc).map kyD)) ⟨rfl,.lst (S21 _ _ gm) k1.das,.lst gm k2.das,?_,?_,fun H22 S22=>(io true rfl (kU ?_))⟩
  ·show iF _+ 1<=7;have:iF ((ps2'.map Jc).map kyD)<=3:=ja fun k _=>by show iF (k.map kD)+ 1<=3;have:iF (k.map kD)<=1:=ja fun _ _=>cO _;lia
   lia
  ·refine⟨by rw[aC];exact lk,jn fun k hk=>?_⟩;have l2:k.length=2:=by refine eae (bg.mp hk) fun p hp z0=>?_;subst z0;have:p.2∈ps2.map Jc:=cC (pm2.mem_iff.mp hp);rw[r3]at this;refine eae (bg.mp this) fun x _ h=>?_;rw[<-h];rfl
   exact⟨by rw[aC,l2];decide,jn fun _ _=>trivial⟩
  dsimp only[hG];have SF:=S79.trans (S916.trans (S.trans (S20.trans (S21.trans S22))));refine⟨_,(iaf _ _ (SF _ _ hx6) (BF _ _ _)),_,(iaf _ _ (SF _ _ hx6) (qA _ _ _)),_,(iaf _ _ (SF _ _ hx6) (zX _ _ _)),ui,fun l hl=>?_⟩;have S10:=gr hl (.lst [.ref p1,.ref p2,.ref p3,.ref p5]);have SE:=SF.trans S10;have dn:∀H',rR H' (nms.map V.str) (nms.map sD):=fun H'=>(t9 nms).das;have dr:∀H',rR H' ((iA ts 0).map nI) (((iA ts 0).map fun p:Nat=>(p:Int)).map kD):=fun H'=>(xq (iA ts 0)).das;refine iar (.ref l) (.ref b) (.lst [.lst (nms.map sD),.lst (((iA ts 0).map fun p:Nat=>(p:Int)).map kD),.lst ((G.map Pc.ρ).map Ro.d),.lst (G.map hD')]) ⟨rfl,.lst gm (.cons (.lst (SE _ _ h16) (dn _)) (.cons (.lst (SE _ _ h26) (dr _)) (.cons (.lst (SE _ _ h36) (iw6.mono (gT.tk SE)).das) (.cons (.lst (SE _ _ h56) (ih6.mono (gT.tk SE)).das) .nil)))),.lst (SE _ _ eb6) (.cons (.lst (SE _ _ en6) (dn _)) (.cons (.lst (SE _ _ er6) (dr _)) (.cons (.lst (SE _ _ ew6) (iw6.mono (gT.tk SE)).das) (.cons (.lst (SE _ _ eh6) (ih6.mono (gT.tk SE)).das) .nil)))),?_,?_,fun H' _=>q H'⟩
  ·have d0:iF (nms.map sD)<=3:=ja fun _ _=>cO _;have d1:iF (((iA ts 0).map fun p:Nat=>(p:Int)).map kD)<=3:=ja fun _ _=>cO _;have d2:iF ((G.map Pc.ρ).map Ro.d)<=3:=ja fun ρ hρ=>by obtain⟨k,hk⟩:=bC.mp hρ;exact(good k ρ hk).1
   have d3:iF (G.map hD')<=3:=ja fun c _=>cJ (AQ c).1 (by decide);simp only[kW,iF];lia
  ·have lG:G.length<=10000:=by lia
   refine⟨by show 4<=100000;decide,⟨by rw[aC];lia,jn fun _ _=>trivial⟩,⟨by rw[aC,aC];lia,jn fun _ _=>trivial⟩,⟨by rw[aC,aC];lia,jn fun ρ hρ=>?_⟩,⟨by rw[aC];lia,jn fun c _=>(AQ c).2⟩,trivial⟩;obtain⟨k,hk⟩:=bC.mp hρ;exact(good k ρ hk).2
def kE {l:List (Str×Tok×Zx)}:(l.map (·.1)).Nodup->∀x∈l,k8 (l.map fun p=>((Je p.1:Key),V.ref p.2.2)) (Je x.1)=some (.ref x.2.2):=by
 induction l with
 |nil=>exact fun _ x a=>nomatch a
 |cons y r f=>
  intro b x a;rw[aB,aE]at b;unfold k8;rw[aB,aQ];rcases aj.mp a with e|hm;·subst e;rw[jo rfl];rfl
  ·have d:¬(Je y.1:Key)=Je x.1:=fun z=>b.1 (by rw[Sum.inr.inj z];exact cC hm);rw[iY d];exact f b.2 x hm
noncomputable def Ir {P:Zu} {w:Zv} {K:Zp} {z:Zc} (T:Txt K z) {a:Zx} {n:Nat} {r c x h s q t j g l y e b u k d:Tok} (m:z "LAYERS"=some (.ref a)) (D:(a==Jh)=false) (C:K.lookup a=some ⟨.type "dict",none,.dict #[⟨C9 w.params "num",.str "num" r,.ref T.d8.a⟩,⟨C9 w.params "name",.str "name" c,.ref T.d9.a⟩,⟨C9 w.params "fn",.str "fn" x,.ref T.d12.a⟩,⟨C9 w.params "call",.str "call" h,.ref T.d13.a⟩,⟨C9 w.params "let",.str "let" s,.ref T.d14.a⟩,⟨C9 w.params "rec",.str "rec" q,.ref T.d15.a⟩,⟨C9 w.params "get",.str "get" t,.ref T.d16.a⟩,⟨C9 w.params "tag",.str "tag" j,.ref T.d17.a⟩,⟨C9 w.params "case",.str "case" g,.ref T.d18.a⟩,⟨C9 w.params "row",.str "row" l,.ref T.d19.a⟩,⟨C9 w.params "at",.str "at" y,.ref T.d20.a⟩,⟨C9 w.params "join",.str "join" e,.ref T.d21.a⟩,⟨C9 w.params "size",.str "size" b,.ref T.d22.a⟩,⟨C9 w.params "add",.str "add" u,.ref T.d23.a⟩,⟨C9 w.params "sub",.str "sub" k,.ref T.d23.a⟩,⟨C9 w.params "less",.str "less" d,.ref T.d24.a⟩] n,#[]⟩):Lk P w T where
 a:=a
 m:=m
 kvs:=([("num",r,T.d8.a),("name",c,T.d9.a),("fn",x,T.d12.a),("call",h,T.d13.a),("let",s,T.d14.a),("rec",q,T.d15.a),("get",t,T.d16.a),("tag",j,T.d17.a),("case",g,T.d18.a),("row",l,T.d19.a),("at",y,T.d20.a),("join",e,T.d21.a),("size",b,T.d22.a),("add",u,T.d23.a),("sub",k,T.d23.a),("less",d,T.d24.a)]:List (Str×Tok×Zx)).map fun p=>((Je p.1:Key),V.ref p.2.2)
 kd:=Ba D C rfl (by show(["num","name","fn","call","let","rec","get","tag","case","row","at","join","size","add","sub","less"]:Zd).Nodup;decide+kernel)
 yes:=fun A B=>by
  have v:(([("num",r,T.d8.a),("name",c,T.d9.a),("fn",x,T.d12.a),("call",h,T.d13.a),("let",s,T.d14.a),("rec",q,T.d15.a),("get",t,T.d16.a),("tag",j,T.d17.a),("case",g,T.d18.a),("row",l,T.d19.a),("at",y,T.d20.a),("join",e,T.d21.a),("size",b,T.d22.a),("add",u,T.d23.a),("sub",k,T.d23.a),("less",d,T.d24.a)]:List (Str×Tok×Zx)).map (·.1)).Nodup:=by show(["num","name","fn","call","let","rec","get","tag","case","row","at","join","size","add","sub","less"]:Zd).Nodup;decide+kernel
  cases A with
  |num _=>exact⟨_,kE v ("num",r,T.d8.a) (aN (i:=0) rfl),fun f=>⟨_,.num,_,rfl⟩⟩
  |name _=>exact⟨_,kE v ("name",c,T.d9.a) (aN (i:=1) rfl),fun f=>⟨_,.name,_,rfl⟩⟩
  |fn _ _=>exact⟨_,kE v ("fn",x,T.d12.a) (aN (i:=2) rfl),fun f=>⟨_,.fn,_,_,rfl⟩⟩
  |tag _ _=>exact⟨_,kE v ("tag",j,T.d17.a) (aN (i:=7) rfl),fun f=>⟨_,.tag,_,_,rfl⟩⟩
  |lt _ _ _=>exact⟨_,kE v ("let",s,T.d14.a) (aN (i:=4) rfl),fun f=>⟨_,.lt,_,_,_,rfl⟩⟩
  |get _ _=>exact⟨_,kE v ("get",t,T.d16.a) (aN (i:=6) rfl),fun f=>⟨_,.get,_,_,rfl⟩⟩
  |rcd _=>exact⟨_,kE v ("rec",q,T.d15.a) (aN (i:=5) rfl),fun f=>⟨_,.rcd,_,rfl⟩⟩
  |case _ _=>exact⟨_,kE v ("case",g,T.d18.a) (aN (i:=8) rfl),fun f=>⟨_,.case,_,_,rfl⟩⟩
  |row _=>exact⟨_,kE v ("row",l,T.d19.a) (aN (i:=9) rfl),fun f=>⟨_,.row,_,rfl⟩⟩
  |op o E=>
   rcases B with rfl|rfl|rfl|rfl|rfl|rfl|rfl;·exact⟨_,kE v ("call",h,T.d13.a) (aN (i:=3) rfl),fun f=>⟨_,.call,_,rfl⟩⟩
   ·exact⟨_,kE v ("at",y,T.d20.a) (aN (i:=10) rfl),fun f=>⟨_,.ix,_,rfl⟩⟩
   ·exact⟨_,kE v ("join",e,T.d21.a) (aN (i:=11) rfl),fun f=>⟨_,.join,_,rfl⟩⟩
   ·exact⟨_,kE v ("size",b,T.d22.a) (aN (i:=12) rfl),fun f=>⟨_,.size,_,rfl⟩⟩
   ·exact⟨_,kE v ("add",u,T.d23.a) (aN (i:=13) rfl),fun f=>⟨_,.sum,_,_,rfl,.inl rfl⟩⟩
   ·exact⟨_,kE v ("sub",k,T.d23.a) (aN (i:=14) rfl),fun f=>⟨_,.sum,_,_,rfl,.inr rfl⟩⟩
   ·exact⟨_,kE v ("less",d,T.d24.a) (aN (i:=15) rfl),fun f=>⟨_,.less,_,rfl⟩⟩
end K22.Internal
structure PySem.W.Fast:Prop where
 (tw5523523708292506945 tw6377354558534303191 tw10764734134188654405 tw10268517051425986515 tw10448611644306861927 tw16253230171911094098 tw852344980442072464 tw12506360145935410478 tw6211888118842249720 tw11776561183235654550 tw9085108944387023897 tw5426237416554100748 tw18303742473530462805 tw5010366791704191234 tw14167114037790256163 tw5611185649805688361 tw3004438612905719812 tw14490182784366865999 tw3959131916552128591 tw11529849436367275859 tw16673212166452227870 tw907660838709564886 tw5542936184169295335 tw4744569913063183806 tw6870975122128221979 tw5364750089069369609 tw11870269763402363099 tw4277109758467111863 tw6922804912434836909 tw4546992132987410238 tw10483533971407993944 tw16619696860968391991 tw8880542557123962525 tw9161084782601287180 tw11267854696168929389 tw6263402463866049957 tw6396076824743748716 tw10572439760622943196 tw14134229766948227507 tw17585914005197779624 tw15296270159719679805 tw13833718340329528458 tw6377432795814342213 tw4152814433189536424 tw10533536651429114719 tw4729831809086678170 tw11731403655097531408 tw13495541328689198173 tw9768549424213715124 tw12105173018056476775 tw8226906313654874792 tw14515763958028371173 tw10446513265785707764 tw9388519441640609370 tw5324434923408953091 tw4868745553761335506 tw17519243550138587156 tw13021449473872721116 tw4613648208151507921 tw13202733255492911492 tw6716331068608763638 tw2562901892182175463 tw18114544309056774994 tw18434372417424264709 tw3512234574807446955 tw13563624612402749781 tw10087375322545202104 tw3542588663744651762 tw9371388899309235359 tw15056152954473256093 tw11253950222971056683 tw16996178351951149711 tw12812528463154566036 tw12269617537199331476 tw6962646614626607994 tw8780849530103762742 tw16394551027998085129 tw2371755150095758662 tw690541408308402198 tw7685678185435639510 tw10793338223542799624 tw260207678537135891 tw16501223238783923945 tw4567059218891911350 tw13458267238130935549 tw3322912539762999730 tw16237264535256137530 tw7241187953986212950 tw2574415573142273566 tw9126396245122261910 tw4567484758438143338 tw15883501603009882833 tw11270096560511019319 tw14801143385967977256 tw10809158132770638417 tw6478034744068667229 tw167176084308900003 tw8909231226723385140 tw9778948883038056071 tw17206368233983949129 tw9143723423095098765 tw10761929464179063730 tw11354943050014895674 tw10872530480338003233 tw17744759916574034139 tw16310555628004007901 tw17115219366631409399 tw468381536980144882 tw4927837946445561187 tw8292275482203286408 tw16291850746145507800 tw12718653470997978583 tw17749239440067501813 tw2984417106323197825 tw9654239578572033045 tw3813668472824980908 tw13676741275776207509 tw8641725327533167898 tw18015036302636452421 tw17885346276039253000 tw534271254468921034 tw1510027710966316724 tw199559157499122208 tw7894486982531976170 tw1182278277162152574 tw17932924110962986601 tw10701953926914279928 tw17252856025743780992 tw1432984738940840171 tw2037708638829387360 tw9798656472884771722 tw9505442872817974466 tw4604323445488168105 tw1122026975753993942 tw8532603049744080449 tw15816436286859565336 tw14218561180082031007 tw13238311344552520514 tw14126825641985667547 tw13058113423959390808 tw16693479057018999131 tw707198414953440869 tw4215424425732173559 tw18173837381035566990 tw8033843087481853250 tw13177769818756775169 tw17636500864567695518 tw9385330447524424339 tw15983943221385286725 tw4268842153708037147 tw13331896806679588579 tw15541173670112582219 tw10229833030525123649 tw6234484128436488917 tw5361494848577310186 tw2551300738417505319 tw18301582970628553919 tw17920165387903071667 tw3020605295594685404 tw3234454282962029936 tw3736189396238547769 tw5732668057478916112 tw7638646584687353621 tw3799799435576822896 tw14570412497233411630 tw15710924086850509540 tw6780946855231906085 tw361577701733759762 tw13723239577890230169 tw1623997777520009976 tw1169320829797359263 tw3860334919963902281 tw12907008344307196824 tw1447502066181806423 tw7604785952959072135 tw12658058323493312450 tw16638129171654085463 tw14754251472402603431 tw14828414451899241654 tw11577368381879182560 tw1772146825318501826 tw7159062326921793097 tw16881704900011077903 tw3887447153079371306 tw7140816149584086407 tw16719675152747576763 tw964887130878693371 tw14169263874411781443 tw7249800038582300101 tw12913315209115138401 tw4071599373091540043 tw10318958376816938293 tw16320446034695758070 tw12406369818088744211 tw14300166642523658216 tw10654538921290871847 tw5717802435377056476 tw8107549884150468849 tw10647254917953431622 tw9061586050542645346 tw11214660361429818478 tw4874171389220182360 tw7809444739740346228 tw9514298340363741368 tw14446838378932744672 tw7862459393246909977 tw11945199845679029269 tw1402936537988354619 tw10234078538744701868 tw1773357006600335295 tw13840106303809256328 tw6403491667691131487 tw3655642460376120131 tw2083984053818240499 tw16497183114555797872 tw10876683891589552387 tw14634071492176631396 tw17823762099783576369 tw12088674377659705527 tw9850864771679150618 tw8055820257776215112 tw8986546132257279293 tw6577541677454601987 tw5239318512556377195 tw10345289520159169778 tw8731645781264745079 tw16063969687755767495 tw5681647212891598272 tw12317712054794512652 tw7946714825232464033 tw2632409635832115050 tw4950868775844732840 tw6218310038953922321 tw13384768221987124740 tw5853199840196920205 tw4350455717903134030 tw14255007088508476398 tw17655217840913113273 tw12208583786992419811 tw126084805952514318 tw16681962484765393391 tw6324286539731588475:True)
namespace K22.Internal
open PySem L2.Internal
def all_mk {l:PySem.W.OpenLaw} {w:Zv} {K:Zp} {h:Zt} {mg:Zc} {fa fL pW aG aH aI aJ aK aM aN aO aP aQ ad ae af p ag fU q f I j r u y b g n:Zx} {nW:Nat} {bB bC bD bE bF bG bH bI bJ bK bi bj bk bl bm bn:Tok} {bL aR:Option Zx} {bM:Array (Option Zz)} {bN aS aT aU ah aV:Zz} (X:K.In h) (G:h.Ns C8 mg) (hfa:mg "law"=some (.ref fa)) (a1:Fm K "stands_in" nG) (a2:Fm K "pasted" tM) (a3:Fm K "new_points" mF) (a4:Fm K "parts_made" mG) (a5:Fm K "use_made" pE) (a6:Fm K "with_points" lW) (a7:Dm K "laid" zL) (a8:Fm K "lay_num" qS) (a9:Fm K "lay_name" pG) (bO:Fm K "meant_point" lX) (bP:Fm K "definition_point" jU) (bQ:Fm K "lay_fn" tN) (bR:Fm K "lay_call" pH) (bS:Fm K "lay_let" qT) (bT:Fm K "lay_rec" qU) (bU:Fm K "lay_get" qV) (bV:Fm K "lay_tag" qW) (bW:Fm K "lay_case" pJ) (bX:Fm K "lay_row" qX) (bY:Fm K "lay_at" tO) (bZ:Fm K "lay_join" pK) (b0:Fm K "lay_size" pL) (b1:Fm K "lay_sum" qY) (b2:Fm K "lay_less" pM) (b3:Fm K "lay_numbers" lY) (b4:Fm K "_law_stem" nH) (b5:Fm K "_law_words" mH) (b6:Fm K "_law_alike" mI) (b7:Fm K "_law_leaf" nJ) (b8:Fm K "_law_knit" nK) (b9:Fm K "_law_pop" pO) (ca:Fm K "_law_number" lZ) (cb:Fm K "_law_name" nL) (cc:Fm K "_law_most" nN) (cd:Fm K "_law_wide" nO) (ce:Fm K "_law_narrow" mf) (cf:Fm K "_law_new" pP) (cg:Fm K "_law_ended" mJ) (ch:Fm K "_law_defined" lC) (ci:Fm K "_law_scoped" mh) (cj:Fm K "_law_home" nP) (ck:Fm K "_law_row" pQ) (cl:Fm K "_law_flat" nQ) (cm:Fm K "_law_built" mK) (cn:Fm K "_law_spots" mL) (co:Fm K "_law_makes" mM) (cp:Fm K "_law_uses" nR) (cq:Fm K "_law_flows" mN) (cr:Fm K "_law_by_place" kP) (c1:Cm K "Make" q) (J:dH K (.ref q) "shape"=some none) (L:dH K (.ref q) "parts"=some none) (bo:dH K (.ref q) "at"=some none) (M:dH K (.ref q) "place"=some none) (aW:Mm K q "__init__" "Make.__init__" kQ) (ct:Mm K q "told" "Make.told" nT) (c2:Cm K "Use" f) (bp:dH K (.ref f) "at"=some none) (N:dH K (.ref f) "place"=some none) (ai:dH K (.ref f) "slot"=some none) (cv:Mm K f "__init__" "Use.__init__" kq) (bq:dS K (.ref f) "__getattribute__"=some (some (.builtin "type.__getattribute__"))) (br:PySem.W.readsIn K f (.type "type")=true) (aX:dH K (.ref f) "__init__"=some (some (.ref fU))) (bs:PySem.W.findCls K (.ref f) (.type "type") "__init__"=some (.val (.ref fU))) (c3:Cm K "NumUse" I) (bu:dH K (.ref I) "at"=some none) (O:dH K (.ref I) "place"=some none) (aj:dH K (.ref I) "slot"=some none) (cw:Mm K I "told" "NumUse.told" mi) (cx:dH K (.ref I) "__init__"=some (some (.ref fU))) (c4:Cm K "CallUse" j) (aw:dH K (.ref j) "arg"=some none) (ax:dH K (.ref j) "out"=some none) (bv:dH K (.ref j) "at"=some none) (P:dH K (.ref j) "place"=some none) (ak:dH K (.ref j) "slot"=some none) (aY:Mm K j "__init__" "CallUse.__init__" jV) (cz:Mm K j "told" "CallUse.told" lD) (c5:Cm K "TakeUse" r) (A:dH K (.ref r) "fields"=some none) (bw:dH K (.ref r) "at"=some none) (Q:dH K (.ref r) "place"=some none) (al:dH K (.ref r) "slot"=some none) (aZ:Mm K r "__init__" "TakeUse.__init__" jW) (cB:Mm K r "told" "TakeUse.told" lE) (c6:Cm K "CaseUse" u) (am:dH K (.ref u) "arms"=some none) (bx:dH K (.ref u) "at"=some none) (R:dH K (.ref u) "place"=some none) (an:dH K (.ref u) "slot"=some none) (a0:Mm K u "__init__" "CaseUse.__init__" jX) (cD:Mm K u "told" "CaseUse.told" lF) (c7:Cm K "RowUse" y) (ay:dH K (.ref y) "out"=some none) (bz:dH K (.ref y) "at"=some none) (S:dH K (.ref y) "place"=some none) (ao:dH K (.ref y) "slot"=some none) (ba:Mm K y "__init__" "RowUse.__init__" kn) (cF:Mm K y "told" "RowUse.told" mj) (c8:Cm K "Board" b) (B:dH K (.ref b) "points"=some none) (U:dH K (.ref b) "makes"=some none) (ap:dH K (.ref b) "uses"=some none) (V:dH K (.ref b) "flows"=some none) (aq:dH K (.ref b) "root"=some none) (bb:Mm K b "__init__" "Board.__init__" kz) (cH:Mm K b "point" "Board.point" mm) (cI:Mm K b "make" "Board.make" mO) (cJ:Mm K b "use" "Board.use" nV) (cK:Mm K b "flow" "Board.flow" mP) (cM:Mm K b "rooted" "Board.rooted" lH) (c9:Cm K "Laying" g) (o:dH K (.ref g) "program"=some none) (Y:dH K (.ref g) "homes"=some none) (C:dH K (.ref g) "papers"=some none) (Z:dH K (.ref g) "board"=some none) (ar:dH K (.ref g) "held"=some none) (D:dH K (.ref g) "starts"=some none) (bc:Mm K g "__init__" "Laying.__init__" ko) (cO:Mm K g "lay_definition" "Laying.lay_definition" jl) (cP:Mm K g "lay" "Laying.lay" mQ) (bd:Cm K "Program" n) (E:dH K (.ref n) "names"=some none) (F:dH K (.ref n) "roots"=some none) (aa:dH K (.ref n) "rows"=some none) (be:Mm K n "__init__" "Program.__init__" jY) (az:eN K C8 "all"=some none) (au:eN K C8 "bool"=some none) (i:eN K C8 "enumerate"=some none) (aA:eN K C8 "int"=some none) (d:eN K C8 "isinstance"=some none) (aB:eN K C8 "len"=some none) (av:eN K C8 "list"=some none) (aC:eN K C8 "max"=some none) (ab:eN K C8 "range"=some none) (H:eN K C8 "sorted"=some none) (aD:eN K C8 "str"=some none) (aE:eN K C8 "sum"=some none) (ac:eN K C8 "tuple"=some none) (aF:eN K C8 "zip"=some none) (w0:eN K C8 "lay_num"=some (some (.ref aG))) (w1:eN K C8 "lay_name"=some (some (.ref aH))) (w2:eN K C8 "lay_fn"=some (some (.ref aI))) (w3:eN K C8 "lay_call"=some (some (.ref aJ))) (w4:eN K C8 "lay_let"=some (some (.ref aK))) (w5:eN K C8 "lay_rec"=some (some (.ref aM))) (w6:eN K C8 "lay_get"=some (some (.ref aN))) (w7:eN K C8 "lay_tag"=some (some (.ref aO))) (w8:eN K C8 "lay_case"=some (some (.ref aP))) (w9:eN K C8 "lay_row"=some (some (.ref aQ))) (cQ:eN K C8 "lay_at"=some (some (.ref ad))) (cR:eN K C8 "lay_join"=some (some (.ref ae))) (cS:eN K C8 "lay_size"=some (some (.ref af))) (cT:eN K C8 "lay_sum"=some (some (.ref p))) (cU:eN K C8 "lay_less"=some (some (.ref ag))) (gW:eN K C8 "LAYERS"=some (some (.ref pW))) (sW:(pW==Jh)=false) (hW:K.lookup pW=some ⟨.type "dict",none,.dict #[⟨C9 w.params "num",.str "num" bB,.ref aG⟩,⟨C9 w.params "name",.str "name" bC,.ref aH⟩,⟨C9 w.params "fn",.str "fn" bD,.ref aI⟩,⟨C9 w.params "call",.str "call" bE,.ref aJ⟩,⟨C9 w.params "let",.str "let" bF,.ref aK⟩,⟨C9 w.params "rec",.str "rec" bG,.ref aM⟩,⟨C9 w.params "get",.str "get" bH,.ref aN⟩,⟨C9 w.params "tag",.str "tag" bI,.ref aO⟩,⟨C9 w.params "case",.str "case" bJ,.ref aP⟩,⟨C9 w.params "row",.str "row" bK,.ref aQ⟩,⟨C9 w.params "at",.str "at" bi,.ref ad⟩,⟨C9 w.params "join",.str "join" bj,.ref ae⟩,⟨C9 w.params "size",.str "size" bk,.ref af⟩,⟨C9 w.params "add",.str "add" bl,.ref p⟩,⟨C9 w.params "sub",.str "sub" bm,.ref p⟩,⟨C9 w.params "less",.str "less" bn,.ref ag⟩] nW,#[]⟩) (aL:eN K C8 "law"=some (some (.ref fL))) (lL:K.lookup fL=some ⟨bN,bL,.func (eJ "law" "law" (jS tP) (jr tP) (gA tP) .none aS aT aU aR ah aV),bM⟩) (cL:eK K ah "law"=true) (kL:dW K (.ref fL)=true):
  ∃fd:Zs,(∀(s:Zy) (v:Zz),BindsTo s fd ⟨[v],[]⟩ [("_law_script",v)])/\∀base:Zt,K.In base->base.Ns C8 mg->rN l.prog w K mg base CX0 300 fa fd ["_law_script"] (xf K):=by have e:=hfa.symm.trans (eO X G aL);cases e;have x52:Mx K f "__init__" "Use.__init__" kq ["self","at","place","slot"]:=cv.x;have T:Txt K mg:=⟨a1.x X G,a2.x X G,a3.x X G,a4.x X G,a5.x X G,a6.x X G,Classical.choice (by obtain⟨a,l,c,k,t⟩:=a7;exact⟨⟨_,_,zx l c k t,(zx l c k t).binds (ps:=["program","homes","which","papers"]) (fun _ _ _ _ _ _ _ us hl=>match us,hl with|[_,_,_],_=>⟨_,rfl,rfl⟩),eO X G a,k⟩⟩),a8.x X G,a9.x X G,bO.x X G,bP.x X G,bQ.x X G,bR.x X G,bS.x X G,bT.x X G,bU.x X G,bV.x X G,bW.x X G,bX.x X G,bY.x X G,bZ.x X G,b0.x X G,b1.x X G,b2.x X G,b3.x X G,b4.x X G,b5.x X G,b6.x X G,b7.x X G,b8.x X G,b9.x X G,ca.x X G,cb.x X G,cc.x X G,cd.x X G,ce.x X G,cf.x X G,cg.x X G,ch.x X G,ci.x X G,cj.x X G,ck.x X G,cl.x X G,cm.x X G,cn.x X G,co.x X G,cp.x X G,cq.x X G,cr.x X G,c1.x X G,J,L,bo,M,aW.x,c1.k aW.x,ct.x,c2.x X G,bp,N,ai,x52,⟨bq,⟨_,br,sf aX x52.me.at_▸bs⟩,x52.me.kp⟩,c2.k x52,c3.x X G,bu,O,aj,cw.x,⟨c3.ms,sf aX x52.me.at_▸cx,x52.me.fn,c3.kc⟩,c4.x X G,aw,ax,bv,P,ak,aY.x,c4.k aY.x,cz.x,c5.x X G,A,bw,Q,al,aZ.x,c5.k aZ.x,cB.x,c6.x X G,am,bx,R,an,a0.x,c6.k a0.x,cD.x,c7.x X G,ay,bz,S,ao,ba.x,c7.k ba.x,cF.x,c8.x X G,B,U,ap,V,aq,bb.x,c8.k bb.x,cH.x,cI.x,cJ.x,cK.x,cM.x,c9.x X G,o,Y,C,Z,ar,D,bc.x,c9.k bc.x,cO.x,cP.x,bd.x X G,E,F,aa,be.x,bd.k be.x,eQ X G az,eQ X G au,eQ X G i,eQ X G aA,eQ X G d,eQ X G aB,eQ X G av,eQ X G aC,eQ X G ab,eQ X G H,eQ X G aD,eQ X G aE,eQ X G ac,eQ X G aF⟩;have z:=(eO X G w0).symm.trans T.d8.m;cases z;have z:=(eO X G w1).symm.trans T.d9.m;cases z;have z:=(eO X G w2).symm.trans T.d12.m;cases z;have z:=(eO X G w3).symm.trans T.d13.m;cases z;have z:=(eO X G w4).symm.trans T.d14.m;cases z;have z:=(eO X G w5).symm.trans T.d15.m;cases z;have z:=(eO X G w6).symm.trans T.d16.m;cases z;have z:=(eO X G w7).symm.trans T.d17.m;cases z;have z:=(eO X G w8).symm.trans T.d18.m;cases z;have z:=(eO X G w9).symm.trans T.d19.m;cases z;have z:=(eO X G cQ).symm.trans T.d20.m;cases z;have z:=(eO X G cR).symm.trans T.d21.m;cases z;have z:=(eO X G cS).symm.trans T.d22.m;cases z;have z:=(eO X G cT).symm.trans T.d23.m;cases z;have z:=(eO X G cU).symm.trans T.d24.m;cases z;exact⟨eJ "law" "law" (jS tP) (jr tP) (gA tP) .none aS aT aU aR ah aV,fun s v=> .of_eq rfl,fun base _ _=>EJ T (Ir T (eO X G gW) sW hW) (uG (st:=tP) lL cL kL)⟩
def walk {l:PySem.W.OpenLaw} {q:Zu} {loose:Zd} {XP:(Str->Option Zz)->Zt->Prop} {YP:Zv->Zt->Prop} {d:DefRec} {K:Params->Zp} (hn:l.most=some 63) (hdf:d.params.defaults=[])
  (hY:∀(w:Zv) (h:Zt),YP w h->(K w.params).In h)
  (F:∀(w:Zv) (mg:Zc) (fa:Zx) (h:Zt),(K w.params).In h->h.Ns C8 mg->mg d.name=some (.ref fa)->
   ∃fd:Zs,(∀(s:Zy) (u:Zz),BindsTo s fd ⟨[u],[]⟩ [("_law_script",u)])/\∀base:Zt,(K w.params).In base->base.Ns C8 mg->rN l.prog w (K w.params) mg base CX0 300 fa fd ["_law_script"] (xf (K w.params))):
  PySem.W.WalkO q loose XP YP l.row.toRowW d [] (fun f vs=>PySem.call f vs):=
 L2.Internal.walk_of (n:=63) (k:=300) (x:="_law_script") (CX:=fun _=>CX0) (sp:=fun w=>xf (K w.params)) hn (by decide) hdf ⟨rfl,by decide,by decide⟩ hY F (fun _ _ a ns hl _ hS=>⟨a,ns,rfl,hS,hl,fun _=>rfl⟩) fun _ _ _ _ _ z=>z
end K22.Internal
open PySem PySem.W PyProof.Rows
set_option maxRecDepth 100000 in
set_option maxHeartbeats 0 in
theorem PySem.Challenge.cw_flowkinds_k22_laid_by_places_holds : PySem.Challenge.rw_flowkinds_k22_laid_by_places.Holds := by
 w_on;o_law;k_head;(case hw => w_witness2);k_fill;refine K22.Internal.walk (l:=PySem.Challenge.rw_flowkinds_k22_laid_by_places) rfl rfl (fun w h Y=>PySem.W.kIn_of Y) ?F;case F =>intro w mg fa h KX G hmg;apply K22.Internal.all_mk KX G hmg;all_goals first|(apply K22.Internal.Dm.mk<;>k_is)|(apply K22.Internal.Fm.mk<;>k_is)|(apply K22.Internal.Mm.mk<;>k_is)|(apply K22.Internal.Cm.mk<;>k_is)|k_is|rfl
