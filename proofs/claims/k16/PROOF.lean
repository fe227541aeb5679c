import PyProof.Rows.All
import Wide.All
import OpenK.AllK
import Wide.FinOn
import PyProof.EqAt
import PyProof.EqKinds
import PyProof.TupleCall
import PyProof.AttrMiss
import PyProof.IsiH_list
import PyProof.Rows.SetFrom
import KE.KDictOf
import KE.KTab
import PyProof.AutoListH
import KE.KSortTup
import KE.KItemsList
import KE.KEqDict
import KE.KIntText
import Lean
import PyProof.RulesRaise
import PyProof.RulesTry
import KE.KTryDeep
import KE.KTryMore
import KE.KTryOn
import KE.TryInHelper
import KE.TryLedger
import PyProof.ExcArgsOwn
import PyProof.ExcAttrAll.ValueError
import KE.KIsAll
import PyProof.ExcBaseAll.ValueError
import PyProof.InstStoreFacts
import PyProof.ExcInit
import PyProof.SeqI3
import PyProof.ConsumeWalk
import PySem.Challenge.RW_callboard_k16_whole_fits
set_option Elab.async false
set_option linter.all false
set_option maxRecDepth 100000
set_option maxHeartbeats 4000000
open LawfulBEq renaming eq_of_beq->At
open List renaming length_map->cV,getElem?_eq_getElem->cX,length_append->cY,getElem?_eq_some_iff->cZ,mem_cons->c9,mem_singleton->dg,not_mem_nil->dq,size_toArray->dA,mem_map->dD,getElem?_map->dF,mem_cons_of_mem->dH,length_singleton->dJ,mem_cons_self->dN,length_nil->dO,mem_append->dR,map_append->dU,nodup_cons->dW,map_cons->dZ,nil_append->d6,map_map->eA,length_cons->eB,mem_append_right->eF,length_range->eG,replicate_succ->eJ,nodup_nil->eL,lookup_cons->eM,mem_filter->eQ,take_length->eS,all_eq_true->eU,getElem?_append_right->eY,append_nil->e9,getElem?_append_left->fg,length_take->fh,append_assoc->fj,find?_cons->fA,length_pos_iff->fC,nodup_append->fD,mem_append_left->fF,getElem?_set_ne->fG,getElem?_set_self->fJ,mem_of_find?_eq_some->fL,getElem_of_mem->fM,cons_ne_nil->fR,all_cons->fS,exists_cons_of_ne_nil->fT,flatten_cons->fU,find?_eq_none->fW,any_cons->fX,mem_of_getElem?->fY,foldl_cons->gb,filterMap_cons->gc,filter_sublist->gf,any_eq_true->gj,length_modify->gp,getLast?_eq_none_iff->gq,take_add_one->gv,length_eq_zero_iff->gy,mem_range->gz,length_drop->gA,length_filter_le->gI,getD_eq_getElem?_getD->gJ,filter_cons->gN,map_congr_left->gQ,filter_cons_of_pos->gR,filter_cons_of_neg->gS,filter_map->gW,findIdx?_map->hJ,getElem?_eq_none->hW,getElem_mem->ic,mem_of_getLast?->ig,length_set->ik,drop_eq_getElem_cons->il,getLastD_eq_getLast?->im,contains_cons->iz,filter_append->iB,getElem?_cons_zero->iE,take_of_length_le->iF,findIdx?_eq_some_iff_getElem->iG,length_replicate->iI,getElem?_toArray->iJ,map_nil->iN,filter_nil->iS,mem_of_mem_take->iT,dropLast_subset->iU,getElem?_modify->iV,find?_some->iW,map_id->jc,find?_append->jr,sublist_append_right->jv,pairwise_iff_getElem->jw,getLast?_eq_getElem?->jx,findIdx?_eq_none_iff->jy,drop_length->jE,set_set->jF,any_map->jJ,eq_of_mem_replicate->jK,getElem?_replicate->jL,of_mem_zip->jN,forIn_cons->jO,any_append->jT,range_succ->jU,forIn_nil->jZ,drop_zero->j7,set_append_right->j9,mem_of_mem_drop->ko,map_drop->kx,getElem?_range->kz,filter_eq_self->kD,modify_eq_self->kE,mem_filterMap->kK,getElem_range->kU,findIdx?_cons->kW,set_cons_succ->kX,ne_nil_of_mem->kY,any_eq_false->k9,foldl_append->lj,getElem_take->ly,getElem_inj->lD,zipIdx_cons->lN,getElem_map->lQ,zipIdx_nil->lW,map_take->mf,all_map->mo,any_nil->mv,map_set->mw
open PySem renaming wpAny_bind->cW,wpAny_pure->dz,sizeLine_eq->dP,wpAny_mono->eE,wpAny_field->fm,wpAny_holding->ft,wpAny_truthy_bool->fu,wpAny_callSpecial?_slot->fQ,wpAny_newObj_type->fZ,wpAny_call_entry->gh,wpAny_Call_Name_kw->gm,codeAny_mono->gu,wpAny_seqItems->gB,wpAny_setField_rec->gF,wpAny_passesOwn->gG,mem_of_lookup->gP,wpAny_execs_nil->gT,codeAny_builtin->gU,wpAny_pyIter_list->g9,wpAny_loadPart_at->hG,wpAny_setField->hZ,wpAny_standAt->ii,tupleKind_room_in1->ip,wpAny_pyIter_tuple->iy,wpAny_call->iD,wpAny_pyIter_zip->iH,plainObj_wpAny_Assign_Attribute->iK,codeAny_call_builtin->iO,wpAny_updateSeq_pair->iP,isSubtype_type->ja,slot_dict_contains->jf,wpAny_onRaise->jk,wpAny_sequenceKey->jn,call_meets->js,wpAny_letOwnedTupleGo_zip->ju,wpAny_execs_cons->jz,wpAny_typeOf->jB,wpAny_comprehension_free->jD,codeAny_of_tree->jQ,wpAny_specialOf->jR,builtinLookup_eq_fast->j3,weight_type_call_type->j4,getitemInPython_of_ne->j5,wpAny_rule->ke,wpAny_letTemporaryGo->kh,plainId_quiet->ku,wpAny_isSubtype_exc->kC,concat_meets->kM,seqIndex_neg->kO,wpAny_assign_Name->kZ,slot_list_getitem->lh,slot_dict_getitem->ls,wpAny_pyIter_enum->lu,seqIndex_of->lA,wpAny_letGo->lB,wpAny_pyHash_str->lC,wpAny_lookBehind->lE,pastItsLine_dict->lF,noFill_tuple_add->lH,check_set_init_1->lM,wpAny_Name->lR,typeIs_int->lT,Addr->Uf,sizeLine->Ch,wpAny->pi,model->Tk,starEach->Tl,bootBuiltins->zn,Expr->Go,Heap->No,eval->wp,compareOp->Op,keywordEach->Ps,FuncData->Rs,mainGlobals->wv,backTo->Ix,holding->xz,Stmt->sB,IsPair->ZB,swapsWith->TD,behindInMarks->wE,attributeBase->sK,backToKw->xL,sysModules->IN,assignEach->ZO,cLine->wP,binaryOp->ZP,NameKind->ZQ,foldedSetIterable->ZR,getMethod->wS,ExcBaseFacts->ZS,rawInt->wT,scanBound->AT,excClassObj->ZT,standAt->ZU,Scope->XV,Keyword->ZV,getItem->TW,sliceBounds->ZW,callWith->ZX,letOwnedTupleGo->ZY,codeAny->ZZ,IsZip->Z0,Operator->Z2
def de:=@if_neg
def dh:=@if_pos
def dX:=@decide_eq_true
def d9:=@or_false
def eC:=@decide_eq_true_eq
def eO:=@not_or
def eP:=@decide_eq_false
def eR:=@congrArg
def fi:=@beq_self_eq_true
def fk:=@beq_iff_eq
def fv:=@of_decide_eq_true
def fV:=@beq_eq_false_iff_ne
def iZ:=@if_true
open PySem.Heap renaming get?_push_of_some->df,lt_size->dE,get?_push_size->dI,size_push->fz,get?_update_self->fO,get?_update_other->gg,get?_none_of_le->gM,get?_update_ne->kB
open Option.some renaming inj->dv,injEq->jo
open Nat renaming le_refl->dw,ne_of_lt->dQ,lt_of_lt_of_le->dS,le_trans->eh,lt_irrefl->eX,zero_le->eZ,lt_succ_self->fK,le_add_right->gi,ne_of_gt->gC,le_succ->gX,lt_succ_of_lt->gZ,sub_self->h9,succ_le_succ->ie,lt_of_le_of_lt->iC,le_succ_of_le->jp,lt_trans->jC,mul_le_mul->j6,le_of_lt->kI,sub_zero->kQ,min_eq_left->lX,le_of_eq->mi,succ_mul->mj,zero_add->mq,succ_pos->mx
open Bool renaming eq_false_iff->dB,false_ne_true->dC,and_eq_true->dY,true_and->eI,false_and->eW,eq_iff_iff->fH,false_or->fN,not_eq_true'->gw,or_eq_true->gH,true_or->hU,or_false->jj,not_eq_false->jq,and_eq_true_iff->kq,or_true->kT,beq_comm->ma,and_true->me,true->pc,false->lf
open Ne renaming symm->dG
open Int renaming eq_ofNat_of_zero_le->eD,emod_lt_of_pos->eN,emod_nonneg->eV,add_zero->iR,mul_le_mul_of_nonneg_left->iX,toNat_natCast->jm,emod_add_mul_ediv->j8,zero_add->my
open PySem.PassesOwn renaming never->eK
open PySem.F renaming called_set->fB,slot_tuple_iterator_next->gK,slot_list_getattribute->iq,slot_zip_next->iQ,args_tuple_iterator_next_1->jb,entry_tuple_iterator_next->jg,slot_dict_getitem->jt,args_tuple_add_2->jA,store_ValueError->jI,entry_tuple_add->jM,slot_tuple_add->jW,excBase_ValueError->km,entry_type_call->lq,args_zip_next_1->lw,typeCall_set_1->lK,entry_set_init->lL,entry_zip_next->lO,slot_int_rmul->lU
open PyProof.Rows renaming slot_tuple_getitem->fE,callWith_type1->fP,SetOf_congr->iu,callWith_builtin1->iM,setObjOf_fresh->je,subscriptTail_builtinR->jX,entry_tuple_getitem->ky,args_tuple_getitem->kN,envOfC->dL,AllBare->Z1
open PySem.W renaming kia_one->gx,callWith_K->iL,methodCall_KW->jS,plainGet_of->kr,looks_clsIn->kt,kitx_list->lz,cellsFrom_some->lG,looks_findIn->lY
open PyProof.Rows.F renaming plain_set_update_loop->gD,entry_set_update_loop->ir
open List.cons renaming inj->gL
open Array renaming length_toList->gO,getElem?_setIfInBounds_self_of_lt->ij,toList_append->iY,size_setIfInBounds->jG,mem_toList_iff->kc,append_assoc->kH
open Option renaming isSome_map->gY,isSome_iff_exists->io,map_some->jP,map_eq_some_iff->jY,getD_none->lJ,bind_some->lP,none_or->l0,some->Fa,none->Db
open PySem.Around renaming under_plainId->ib,under_plain->kP
open PySem.Code renaming quiet_builtin->iw
open List.Nodup renaming sublist->iA
open PySem.Calls renaming spliced_cons->jd,Name_function_global->ji,spliced_nil->jl
open PySem.Paired renaming length->jh,snoc->mB
open Sum.inr renaming inj->jV
open PySem.Walks renaming list->kg
open PySem.Draws renaming list->kl
open PySem.Heap.SameBut renaming update->kA
open PySem.SeqAt.EqAt renaming int_str->kF,str_int->kG
open PySem.Obj renaming data_mapFields->kS
open PySem.Heap.Ns1 renaming of_empty->lb
open PySem.Heap.DictOf renaming new->lV
open Eq renaming symm->lZ
open PySem.W.Looks renaming here->mh
open PySem.Heap.FunFrames renaming of_keeps->mz
open PySem.Moved renaming trans->mC
open PySem.Heap.IsSliceOf renaming new->mD
abbrev qp:=PySem.W.Frag
local macro_rules | `(tactic| walk_at "l") => `(tactic| (intro _ _ _ h; repeat (first | (obtain ⟨e, _⟩ := h; subst e; rfl; done) | (cases h; rename_i h))))
local macro_rules | `(tactic| walk_at "m") => `(tactic| (intro _ _ _ _ h; repeat (first | (obtain ⟨e, _⟩ := h; subst e; rfl; done) | (cases h; rename_i h))))
abbrev Vl:=PySem.Value
abbrev Sd:=PySem.Shared
abbrev Pg:=PySem.Program
abbrev Ar:=PySem.Around
abbrev Wo:=PySem.World
abbrev T0(α:Type _):=List α
abbrev QQQ:=List PySem.Str
abbrev QQX:=PySem.Value->PySem.Shared->Prop
abbrev QQY:=List (PySem.Addr×PySem.Obj)
abbrev QQZ:=PySem.Str->Option PySem.Value
abbrev QXQ:=List PySem.Addr
section
open PySem PySem.Spec PyProof.Rows
namespace L2
def x5{α:Sort u}{β:Sort v}{p q r:α->β->Prop}{C:Prop}(h:∃a b,p a b/\q a b/\r a b)(f:∀a b,p a b->q a b->r a b->C):C:=by obtain⟨a,b,h1,h2,h3⟩:=h;exact f a b h1 h2 h3
abbrev qZ:=Sum Int Str
def DI:qZ->Vl->Bool
 | .inl k,v=>Value.isInt k v
 | .inr x,v=>Value.isStrOf x v
def U0(w:Wo):qZ->Int
 | .inl k=>hashInt k
 | .inr x=>hashStr w x
def sf:∀{k:qZ} {v:Vl},DI k v=pc->(∃i t,k=Sum.inl i/\v=Value.int i t)\/(∃x t,k=Sum.inr x/\v=Value.str x t)
 | .inl i,v,h=>by obtain⟨t,e⟩:=Value.isInt_shape (k:=i) (v:=v) h;exact .inl ⟨i,t,rfl,e⟩
 | .inr x,v,h=>by obtain⟨t,e⟩:=Value.isStrOf_shape (x:=x) (v:=v) h;exact .inr ⟨x,t,rfl,e⟩
def JS(i:Int)(t:Tok):DI (.inl i) (.int i t)=pc:=by simp[DI,Value.isInt]
def Jz(x:Str)(t:Tok):DI (.inr x) (.str x t)=pc:=by simp[DI,Value.isStrOf]
def Sh(a b:Int):decide ((Sum.inl a:qZ)=Sum.inl b)=(a==b):=by
 by_cases e:a=b
 .subst e;simp
 .have h:¬(Sum.inl a:qZ)=Sum.inl b:=λq=>e (Sum.inl.inj q);rw[eP h];exact(fV.mpr e).symm
def Ru(a b:Str):decide ((Sum.inr a:qZ)=Sum.inr b)=decide (a=b):=by
 by_cases e:a=b
 .subst e;simp
 .have h:¬(Sum.inr a:qZ)=Sum.inr b:=λq=>e (jV q);rw[eP h,eP e]
def QO(a:Int)(b:Str):decide ((Sum.inl a:qZ)=Sum.inr b)=lf:=eP (λq=>nomatch q)
def Q3(a:Str)(b:Int):decide ((Sum.inr a:qZ)=Sum.inl b)=lf:=eP (λq=>nomatch q)
def rD(prog:Pg)(w:Wo):PySem.KeyKind prog w qZ where
 is:=DI
 hash:=U0 w
 inj:=λv a b ha hb=>by
  rcases sf ha with⟨i,t,rfl,rfl⟩|⟨x,t,rfl,rfl⟩
  .rcases sf hb with⟨j,u,rfl,e⟩|⟨y,u,rfl,e⟩
   .injection e with e1 _;rw[e1]
   .exact nomatch e
  .rcases sf hb with⟨j,u,rfl,e⟩|⟨y,u,rfl,e⟩
   .exact nomatch e
   .injection e with e1 _;rw[e1]
 byValue:=λk v h=>by rcases sf h with⟨i,t,rfl,rfl⟩|⟨x,t,rfl,rfl⟩<;>rfl
 pyHash:=λhv h=>by
  rcases sf hv with⟨i,t,rfl,rfl⟩|⟨x,t,rfl,rfl⟩
  .exact wpAny_pyHash_int h
  .exact lC h
 eqBool:=λhu hv h=>by
  rcases sf hu with⟨i,t,rfl,rfl⟩|⟨x,t,rfl,rfl⟩
  .rcases sf hv with⟨j,u,rfl,rfl⟩|⟨y,u,rfl,rfl⟩
   .rw[Sh]at h;exact wpAny_eqBool_int h
   .rw[QO]at h;exact kF i t y u _ _ _ _ h
  .rcases sf hv with⟨j,u,rfl,rfl⟩|⟨y,u,rfl,rfl⟩
   .rw[Q3]at h;exact kG x t j u _ _ _ _ h
   .rw[Ru]at h;exact wpAny_eqBool_str h
 «strs»:=λk x t v h=>by
  rcases sf h with⟨i,u,rfl,e⟩|⟨y,u,rfl,e⟩
  .exact nomatch e
  .injection e with e1 _
   subst e1;cases v<;>rfl
def FL(prog:Pg)(w:Wo)(i:Int)(t:Tok):(rD prog w).is (.inl i) (.int i t)=pc:=JS i t
def An(prog:Pg)(w:Wo)(x:Str)(t:Tok):(rD prog w).is (.inr x) (.str x t)=pc:=Jz x t
inductive V where
 | mL|bl (b:Bool)|int (i:Int)|str (x:Str)|byt (b:Array UInt8)|flt (b:UInt64)|ref (a:Uf)|ty (n:String)
 deriving DecidableEq
def qH:V->Vl->Prop
 | .mL,u=>u=Value.none
 | .bl b,u=>u=Value.bool b
 | .int i,u=>∃t,u=Value.int i t
 | .str x,u=>∃t,u=Value.str x t
 | .byt b,u=>∃t,u=Value.bytes b t
 | .flt b,u=>∃t,u=Value.float b t
 | .ref a,u=>u=Value.ref a
 | .ty n,u=>u=Value.type n
abbrev qA:T0 V->T0 Vl->Prop:=Paired qH
def qA.length(r:qA xs us):xs.length=us.length:=jh r
theorem qA.get:∀{xs:T0 V} {us:T0 Vl} {i:Nat} {x:V},qA xs us->xs[i]?=Fa x->∃u,us[i]?=Fa u/\qH x u
 | _,_,_,_,.nil,e=>by simp at e
 | _,_,0,_,.cons r _,e=>by simp at e;subst e;exact⟨_,rfl,r⟩
 | _,_,i+1,x,.cons _ t,e=>by obtain⟨u,h1,h2⟩:=qA.get (i:=i) (x:=x) t (by simpa using e);exact⟨u,by simpa using h1,h2⟩
theorem qA.set(r:qH x u):∀{xs:T0 V} {us:T0 Vl} (i:Nat),qA xs us->qA (xs.set i x) (us.set i u)
 | _,_,_,.nil=>.nil
 | _,_,0,.cons _ t=>.cons r t
 | _,_,i+1,.cons q t=>.cons q (qA.set r i t)
theorem qA.append:∀{xs ys:T0 V} {us ws:T0 Vl},qA xs us->qA ys ws->qA (xs++ys) (us++ws)
 | _,_,_,_,.nil,s=>s
 | _,_,_,_,.cons r t,s=>.cons r (qA.append t s)
theorem qA.take:∀{xs:T0 V} {us:T0 Vl} (n:Nat),qA xs us->qA (xs.take n) (us.take n)
 | _,_,0,_=>.nil
 | _,_,_+1,.nil=>.nil
 | _,_,n+1,.cons r t=>.cons r (qA.take n t)
theorem qA.drop:∀{xs:T0 V} {us:T0 Vl} (n:Nat),qA xs us->qA (xs.drop n) (us.drop n)
 | _,_,0,r=>r
 | _,_,_+1,.nil=>.nil
 | _,_,n+1,.cons _ t=>qA.drop n t
def yl:Option V->Option Vl->Prop
 | some v,Fa u=>qH v u
 | none,none=>True
 | _,_=>False
def KV{κ:Type}:T0 (κ×V)->T0 (κ×Vl)->Prop:=Paired λ(p:κ×V) (q:κ×Vl)=>p.1=q.1/\qH p.2 q.2
def kV:qZ->V
 | .inl i=>.int i
 | .inr x=>.str x
inductive HO where
 | lst (xs:List V)
 | tup (xs:List V)
 | dK (kvs:List (qZ×V))|dT (kvs:List (List qZ×V))
 | set (S:Int->Bool) (n:Nat)
 | ins (C dx:Uf) (fs:List (Str×V))
 | own (x:Uf)
 | xd (fs:List (Str×V))
 | met (f x:Uf)
 | rng (lo hi:Int)
 | frz (o:Obj) (u:HO)
 | tbl (ps:Array Vl)
 | ext (φ:No->Prop)
abbrev Hp:=Uf->Option HO
def upd(H:Hp)(a:Uf)(o:HO):Hp:=λb=>if b=a then Fa o else H b
def pY:upd H a o a=Fa o:=by unfold upd;rw[dh rfl]
def pS{a b:Uf}(h:b≠a):upd H a o b=H b:=by unfold upd;rw[de h]
def P7:upd (upd H a o) a u=upd H a u:=by funext b;unfold upd;split<;>rfl
def S9{H:Hp}{a b:Uf}{o u:HO}(h:H a=Fa o)(h':H b=Fa u)(d:o≠u):a≠b:=by intro e;subst e;rw[h]at h';exact d (dv h')
def qP{H:Hp}{a b:Uf}{o:HO}(h:H a=Fa o)(h':H b=Db):a≠b:=by intro e;subst e;rw[h]at h';cases h'
section
variable (P:Pg)(w:Wo)
def Ed(h:No)(a:Uf)(its:Array Vl):Prop:=∃o,h.get? a=Fa o/\o.cls=.type "tuple"/\(∃n,o.data=.seq its n)/\o.dict=Db
def sj(H:Hp)(h:No)(a:Uf):HO->Prop
 | .lst xs=>xs.length<=Ch/\∃(its:T0 Vl) (n:Nat),qA xs its/\h.get? a=Fa {cls:=.type "list",data:=.seq its.toArray n}
 | .tup xs=>xs.length<=Ch/\∃its:T0 Vl,qA xs its/\Ed h a its.toArray
 | .dK kvs=>kvs.length<=Ch/\(a==IN)=lf/\∃vs,KV kvs vs/\h.DictOf (rD P w) a vs
 | .dT kvs=>kvs.length<=Ch/\(a==IN)=lf/\∃xs:T0 (List qZ×Uf×Vl),Paired (λ(p:List qZ×V) (q:List qZ×Uf×Vl)=>p.1=q.1/\H q.2.1=Fa (.tup (p.1.map kV))/\qH p.2 q.2.2) kvs xs/\
   ∃o es ep,h.get? a=Fa o/\o.ExactDict/\o.data=.dict es ep/\es.toList=xs.map (entryOfKey (tupleKind (rD P w)))/\(xs.map (·.1)).Nodup
 | .set S n=>h.SetOf (intKind P w) a S n
 | .ins C dx fs=>H dx=Fa (.own a)/\fs.length<=1000/\dx≠a/\h.get? a=Fa (W.instObj C dx)/\
   ∃mA,h.Ns1 dx mA/\(∀f,yl (fs.lookup f) (mA f))/\PySem.Within mA (fs.map (·.1))
 | .own _=>∃o,h.get? a=Fa o
 | .xd fs=>∃mA,h.Ns1 a mA/\∀f,yl (fs.lookup f) (mA f)
 | .rng lo hi=>∃t u v,h.get? a=Fa {cls:=.type "range",data:=.fields #[.int lo t,.int hi u,.int 1 v]}
 | .frz o u=>h.get? a=Fa o/\sj H h a u
 | .tbl ps=>h.get? a=Fa {cls:=.none,data:=.fields ps}
 | .met f x=>h.get? a=Fa (W.methodObj (.ref f) (.ref x))
 | .ext φ=>φ h/\(∃o,h.get? a=Fa o)/\∀h1 h2:No,φ h1->(∀o,h1.get? a=Fa o->h2.get? a=Fa o)->φ h2
def yk(H:Hp)(h:No):Prop:=∀a o,H a=Fa o->sj P w H h a o
end
variable {H H':Hp}{h h':No}
section
variable {P:Pg}{w:Wo}{a:Uf}{o:HO}
def Ed.is(x:Ed h a its):IsTup h a its:=let⟨o,e,c,d,_⟩:=x;⟨o,e,c,d⟩
def Ed.new(h:No)(items:Array Vl):Ed (h.push {cls:=.type "tuple",data:=.seq items}) h.objs.size items:=⟨_,dI _ rfl,rfl,⟨_,rfl⟩,rfl⟩
def sj.lt(x:sj P w H h a o):a<h.objs.size:=by
 cases o with
 | lst xs=>obtain⟨_,_,_,_,e⟩:=x;exact dE e
 | tup xs=>obtain⟨_,_,_,_,e,_⟩:=x;exact dE e
 | dK kvs=>obtain⟨_,_,_,_,o,_,_,e,_⟩:=x;exact dE e
 | dT kvs=>obtain⟨_,_,_,_,o,_,_,e,_⟩:=x;exact dE e
 | set S n=>obtain⟨o,_,_,_,e,_⟩:=x;exact dE e
 | ins C dx fs=>obtain⟨_,_,_,e,_⟩:=x;exact dE e
 | own y=>obtain⟨_,e⟩:=x;exact dE e
 | xd fs=>obtain⟨_,⟨_,_,_,e,_⟩,_⟩:=x;exact dE e
 | rng lo hi=>obtain⟨_,_,_,e⟩:=x;exact dE e
 | frz ob u=>obtain⟨e,_⟩:=x;exact dE e
 | tbl ps=>exact dE (show h.get? a=Fa _ from x)
 | met f y=>exact dE (show h.get? a=Fa _ from x)
 | ext φ=>obtain⟨_,⟨_,e⟩,_⟩:=x;exact dE e
theorem Paired.ow{α β:Type}{F G:α->β->Prop}:∀{l₁:List α} {l₂:List β},Paired F l₁ l₂->(∀a b,F a b->G a b)->Paired G l₁ l₂
 | _,_,.nil,_=>.nil
 | _,_,.cons r t,f=>.cons (f _ _ r) (Paired.ow t f)
def sj.ni(x:sj P w H h a o)(k:∀b u,(b=a\/H b=Fa (.own a))->h.get? b=Fa u->h'.get? b=Fa u) (ho:∀b,H b=Fa (.own a)->H' b=Fa (.own a)) (ht:∀b xs,H b=Fa (.tup xs)->H' b=Fa (.tup xs)):sj P w H' h' a o:=by
 induction o with
 | lst xs=>obtain⟨z,its,n,r,e⟩:=x;exact⟨z,its,n,r,k _ _ (.inl rfl) e⟩
 | tup xs=>obtain⟨z,its,r,ob,e,c⟩:=x;exact⟨z,its,r,ob,k _ _ (.inl rfl) e,c⟩
 | dK kvs=>obtain⟨z,y,vs,r,ob,es,ep,e,c⟩:=x;exact⟨z,y,vs,r,ob,es,ep,k _ _ (.inl rfl) e,c⟩
 | dT kvs=>obtain⟨z,y,xs,r,ob,es,ep,e,c⟩:=x;exact⟨z,y,xs,Paired.ow r λp q z=>⟨z.1,ht _ _ z.2.1,z.2.2⟩,ob,es,ep,k _ _ (.inl rfl) e,c⟩
 | set S n=>obtain⟨ob,es,ep,t,e,c⟩:=x;exact⟨ob,es,ep,t,k _ _ (.inl rfl) e,c⟩
 | ins C dx fs=>obtain⟨d,z,ne,e,mA,⟨od,es,ep,e2,c⟩,r⟩:=x;exact⟨ho _ d,z,ne,k _ _ (.inl rfl) e,mA,⟨od,es,ep,k _ _ (.inr d) e2,c⟩,r⟩
 | own y=>obtain⟨ob,e⟩:=x;exact⟨ob,k _ _ (.inl rfl) e⟩
 | xd fs=>obtain⟨mA,⟨od,es,ep,e,c⟩,r⟩:=x;exact⟨mA,⟨od,es,ep,k _ _ (.inl rfl) e,c⟩,r⟩
 | rng lo hi=>obtain⟨t,u,v,e⟩:=x;exact⟨t,u,v,k _ _ (.inl rfl) e⟩
 | frz ob u ih=>obtain⟨e,q⟩:=x;exact⟨k _ _ (.inl rfl) e,ih q⟩
 | tbl ps=>have e:h.get? a=Fa {cls:=.none,data:=.fields ps}:=x;show h'.get? a=Fa {cls:=.none,data:=.fields ps};exact k a _ (.inl rfl) e
 | met f y=>have e:h.get? a=Fa (W.methodObj (.ref f) (.ref y)):=x;show h'.get? a=Fa (W.methodObj (.ref f) (.ref y));exact k a _ (.inl rfl) e
 | ext φ=>obtain⟨p,⟨o,e⟩,st⟩:=x;exact⟨st _ _ p λo q=>k _ _ (.inl rfl) q,⟨o,k _ _ (.inl rfl) e⟩,st⟩
def yk.lt(x:yk P w H h)(e:H a=Fa o):a<h.objs.size:=(x a o e).lt
def yk.fresh(x:yk P w H h)(e:h.objs.size<=a):H a=Db:=by
 cases q:H a with
 | none=>rfl
 | some u=>exact absurd (dS (x.lt q) e) (eX _)
def yk.kept(x:yk P w H h)(k:∀b u,h.get? b=Fa u->h'.get? b=Fa u):yk P w H h':=λa o e=>(x a o e).ni (λb u _ q=>k b u q) (λ_ q=>q) λ_ _ q=>q
def yk.laid(x:yk P w H h)(k:∀b u,h.get? b=Fa u->h'.get? b=Fa u)(hp:h.objs.size<=a)(new:sj P w (upd H a o) h' a o):yk P w (upd H a o) h':=λb u e=>by
 have hn:=x.fresh hp;by_cases hb:b=a
 .subst hb;rw[pY]at e;cases e;exact new
 .rw[pS hb]at e;exact(x b u e).ni (λc v _ q=>k c v q) (λc q=>by rw[pS (qP q hn)];exact q) λc xs q=>by rw[pS (qP q hn)];exact q
end
def Rd(H:Hp)(a:Uf)(u:HO):Prop:=H a=Fa u\/∃o,H a=Fa (.frz o u)
def Rd.ok(r:Rd H a u)(x:yk P w H h):sj P w H h a u:=by
 rcases r with r|⟨o,r⟩
 .exact x a u r
 .obtain⟨_,q⟩:=x a _ r;exact q
def Ti:Option HO->Prop
 | some (.lst _)=>True
 | some (.dK _)=>True
 | some (.dT _)=>True
 | some (.set _ _)=>True
 | some (.ins _ _ _)=>True
 | some (.ext _)=>True
 | _=>False
variable {o':HO}
section
variable {P:Pg}{w:Wo}{x e:Uf}
def yk.write(ok:yk P w H h)(mu:Ti (H x))(he:e=x\/H e=Fa (.own x))(k:∀b u,b≠e->h.get? b=Fa u->h'.get? b=Fa u)(heo:∃u,h'.get? e=Fa u) (new:sj P w (upd H x o') h' x o'):yk P w (upd H x o') h':=λb u q=>by
 have nown:∀c y,H c=Fa (.own y)->c≠x:=λc y r z=>by subst z;rw[r]at mu;exact mu
 have ntup:∀c xs,H c=Fa (.tup xs)->c≠x:=λc xs r z=>by subst z;rw[r]at mu;exact mu
 by_cases hb:b=x
 .subst hb;rw[pY]at q;cases q;exact new
 .rw[pS hb]at q;by_cases hbe:b=e
  .have q':H b=Fa (.own x):=by
    rcases he with z|z
    .exact absurd (hbe.trans z) hb
    .rw[hbe];exact z
   rw[q]at q';cases q';obtain⟨v,hv⟩:=heo;exact⟨v,by rw[hbe];exact hv⟩
  .refine(ok b u q).ni (λc v hc r=>k c v ?_ r) (λc r=>by rw[pS (nown c b r)];exact r) λc xs r=>by rw[pS (ntup c xs r)];exact r
   rcases hc with rfl|hc
   .exact hbe
   .rintro rfl
    rcases he with z|z
    .exact nown c b hc z
    .rw[hc]at z;cases z;exact hb rfl
end
structure Un(fs ex:QXQ)(H H':Hp)(h h':No):Prop where
 keep:∀b o,h.get? b=Fa o->H b=Db->b∉fs->b∉ex->h'.get? b=Fa o
 slot:∀b o,h.get? b=Fa o->H b=Db->b∈fs->b∉ex->∃sl,h'.get? b=Fa {o with slots:=sl}
 free:∀b o,h.get? b=Fa o->H b=Db->b∉ex->H' b=Db
 there:∀b o,h.get? b=Fa o->b∉ex->∃o',h'.get? b=Fa o'
 nE:∀b xs,H b=Fa (.tup xs)->H' b=Fa (.tup xs)
 nv:∀b o u,H b=Fa (.frz o u)->H' b=Fa (.frz o u)
 nG:∀b ps,H b=Fa (.tbl ps)->∃more,H' b=Fa (.tbl (ps++more))
variable {ex ex':QXQ}{H1 H2:Hp}{h1 h2:No}
section
variable {fs fs':QXQ}{a x e:Uf}{o:HO}
def Un.any(u:Un fs ex H H1 h h1){b:Uf}{ob:Obj}(q:h.get? b=Fa ob)(n:H b=Db)(hx:b∉ex):∃sl,h1.get? b=Fa {ob with slots:=sl}:=by
 by_cases hb:b∈fs
 .exact u.slot b ob q n hb hx
 .exact⟨ob.slots,u.keep b ob q n hb hx⟩
def Un.trans(a:Un fs ex H H1 h h1)(b:Un fs ex H1 H2 h1 h2):Un fs ex H H2 h h2 where
 keep:=λc ob q n hc hx=>b.keep c ob (a.keep c ob q n hc hx) (a.free c ob q n hx) hc hx
 slot:=λc ob q n hc hx=>by obtain⟨sl,e1⟩:=a.slot c ob q n hc hx;obtain⟨X6,e2⟩:=b.slot c _ e1 (a.free c ob q n hx) hc hx;exact⟨X6,e2⟩
 free:=λc ob q n hx=>by obtain⟨o',e1⟩:=a.there c ob q hx;exact b.free c o' e1 (a.free c ob q n hx) hx
 there:=λc ob q hx=>by obtain⟨o',e1⟩:=a.there c ob q hx;exact b.there c o' e1 hx
 nE:=λc xs q=>b.nE c xs (a.nE c xs q)
 nv:=λc ob xs q=>b.nv c ob xs (a.nv c ob xs q)
 nG:=λc ps q=>by obtain⟨m1,e1⟩:=a.nG c ps q;obtain⟨m2,e2⟩:=b.nG c _ e1;exact⟨m1++m2,by rw[e2,kH]⟩
def Un.kept(k:∀b u,h.get? b=Fa u->h'.get? b=Fa u):Un fs ex H H h h':=
 ⟨λb ob q _ _ _=>k b ob q,λb ob q _ _ _=>⟨ob.slots,k b ob q⟩,λ_ _ _ n _=>n,λb ob q _=>⟨ob,k b ob q⟩,λ_ _ q=>q,λ_ _ _ q=>q,λ_ ps q=>⟨#[],by rw[q];simp⟩⟩
def Un.refl:Un fs ex H H h h:=Un.kept λ_ _ q=>q
def Un.laid(k:∀b u,h.get? b=Fa u->h'.get? b=Fa u)(hp:h.objs.size<=a)(hn:H a=Db):Un fs ex H (upd H a o) h h' where
 keep:=λb u q _ _ _=>k b u q
 slot:=λb u q _ _ _=>⟨u.slots,k b u q⟩
 free:=λb u q n _=>by rw[pS (dQ (dS (dE q) hp))];exact n
 there:=λb u q _=>⟨u,k b u q⟩
 nE:=λb xs q=>by rw[pS (qP q hn)];exact q
 nv:=λb u xs q=>by rw[pS (qP q hn)];exact q
 nG:=λb ps q=>⟨#[],by rw[pS (qP q hn),q];simp⟩
def Un.write(mu:Ti (H x))(he:e=x\/H e=Fa (.own x))(k:∀b u,b≠e->h.get? b=Fa u->h'.get? b=Fa u)(heo:∃u,h'.get? e=Fa u):Un fs ex H (upd H x o) h h':=by
 have hx:∀b,H b=Db->b≠x:=λb n z=>by subst z;rw[n]at mu;exact mu
 have hb:∀b,H b=Db->b≠e:=λb n z=>by
  subst z;rcases he with r|r
  .exact hx b n r
  .rw[n]at r;cases r
 have hm:∀b u,H b=Fa u->¬Ti (Fa u)->b≠x:=λb u q nm z=>by subst z;rw[q]at mu;exact nm mu
 refine⟨λb u q n _ _=>k b u (hb b n) q,λb u q n _ _=>⟨u.slots,k b u (hb b n) q⟩,λb u q n _=>by rw[pS (hx b n)];exact n,λb u q _=>?_,λb xs q=>by rw[pS (hm b _ q λz=>z)];exact q,λb u xs q=>by rw[pS (hm b _ q λz=>z)];exact q,λb ps q=>⟨#[],by rw[pS (hm b _ q λz=>z),q];simp⟩⟩
 by_cases hbe:b=e
 .subst hbe;exact heo
 .exact⟨u,k b u hbe q⟩
end
def UN(h:No)(H:Hp):QXQ:=(List.range h.objs.size).filter λa=>(H a).isSome
def Eh(h:No)(H:Hp):No:=W.hideAll h (UN h H)
def Jr(h:No)(H:Hp):(Eh h H).objs.size=h.objs.size:=W.hideAll_size _ _
def KI{h:No}{H:Hp}{b:Uf}{o:Obj}(e:h.get? b=Fa o)(n:H b=Db):(Eh h H).get? b=Fa o:=
 W.hideAll_get _ e λhm=>by have q:(H b).isSome=pc:=(eQ.mp hm).2;rw[n]at q;simp at q
def NS{b:Uf}{o:Obj}(e:(Eh h H).get? b=Fa o):h.get? b=Fa o/\H b=Db:=by
 have e':h.get? b=Fa o:=W.of_hideAll (UN h H) e;refine⟨e',?_⟩;cases q:H b with
 | none=>rfl
 | some x=>have hm:b∈UN h H:=eQ.mpr ⟨gz.mpr (dE e'),by simp[q]⟩;have z:(Eh h H).get? b=Db:=W.hideAll_none (UN h H) hm;rw[z]at e;cases e
structure Mod(K:qp)(mg:QQZ)(base:No):Prop where
 og:K.In base
 glob:base.Ns wv mg
 blt:∃mb,base.Ns builtinsNs mb/\∀x:Str,x≠"__name__"->mb x=zn x
 nolimit:base.NoLimit
structure Cx where
 prog:Pg
 w:Wo
 K:qp
 mg:QQZ
 base:No
 A:Ar
 N:QQQ
 s₀:Sd
 H₀:Hp
 env:Env
 outer:List Env
 stack:List Env
 ex:QXQ
 fn:Str->Bool
 calm:Bool
 pn:QQY
 xe:QQX
abbrev Bg(X:Cx)(e:Go)(es:T0 Go):Prop:=Tl (e::es) X.env=(lf,wp e X.env)::Tl es X.env
abbrev CC(X:Cx)(p:Pos)(es:T0 Go):Prop:=(Ix p (Tl es X.env)).any (·.1)=lf
abbrev yR(x:Str):Prop:=(x==("__debug__":Str))=lf
abbrev Ln(X:Cx)(x:Str):Prop:=X.fn x=pc\/X.env.scope.names.lookup x=Fa .local
def wk(l:T0 Env):QXQ:=l.filterMap (·.frame)
abbrev Cx.fs(X:Cx):QXQ:=wk X.outer
def Ta(sc:XV)(x:Str):Prop:=sc.names.lookup x=Fa .local\/sc.names.lookup x=Fa .cell\/sc.names.lookup x=Fa .free
def Nq(sc:XV)(x:Str):Prop:=sc.names.lookup x=Fa .local\/sc.names.lookup x=Fa .cell
def Vw(env:Env)(h:No)(m:QQZ)(x:Str)(u:Vl):Prop:=
 (env.kindOf x=Fa .local/\m x=Fa u)\/((env.kindOf x=Fa .cell\/env.kindOf x=Fa .free)/\∃c,env.cells.lookup x=Fa c/\h.IsCell c (Fa u))
structure Cx.Ok(X:Cx):Prop where
 mod:Mod X.K X.mg X.base
 kind:X.env.scope.kind=.function
 glob:X.env.globals=wv
 blt:X.env.builtins=builtinsNs
 above:X.s₀.heap.objs.size<=X.env.locals
 inj:∀x y c,X.env.cells.lookup x=Fa c->X.env.cells.lookup y=Fa c->x=y
 has:∀x,(X.env.kindOf x=Fa .cell\/X.env.kindOf x=Fa .free)->∃c,X.env.cells.lookup x=Fa c
 oo:∀x c,X.fn x=pc->X.env.cells.lookup x=Fa c->X.s₀.heap.objs.size<=c
 hd:X.calm=pc->X.A.handled=Db
 frames:X.A.frames=Fa X.stack
 oE:X.stack=X.outer\/(X.stack=X.env::X.outer/\X.env.frame=Fa X.env.locals)
 oS:∀b∈X.ex,b≠X.env.locals/\∀x c,X.env.cells.lookup x=Fa c->c≠b
 bs:∀b o,X.base.get? b=Fa o->X.s₀.heap.get? b=Fa o/\X.H₀ b=Db
 nW:X.base.objs.size<=X.s₀.heap.objs.size
 nK:∀b o,X.base.get? b=Fa o->b∉X.ex
 nU:∀b∈X.ex,b∉X.fs
 ny:X.s₀.heap.FunFrames X.base X.outer
 oh:∀b∈X.fs,X.H₀ b=Db
structure Inv(X:Cx)(Wz:QQY)(Y:List (Option V))(H:Hp)(s:Sd):Prop where
 ok:X.Ok
 os:s.os=X.s₀.os
 bare:Z1 s.gens
 base:Un X.fs X.ex X.H₀ H X.s₀.heap s.heap
 loc:∃m,s.heap.Ns X.env.locals m/\∀(i:Nat) (x:Str) (v:V),X.N[i]?=Fa x->Y[i]?=Fa (Fa v)->Ta X.env.scope x->∃u,qH v u/\Vw X.env s.heap m x u
 cell:∀x c,X.env.cells.lookup x=Fa c->∃v,s.heap.IsCell c v
 free:H X.env.locals=Db
 mX:∀x c,X.env.cells.lookup x=Fa c->H c=Db
 pin:∀p∈X.pn++Wz,s.heap.get? p.1=Fa p.2/\H p.1=Db/\p.1≠X.env.locals/\p.1∉X.fs/\∀v,p.2.data≠.cell v
 mQ:yk X.prog X.w H s.heap
 len:Y.length=X.N.length
variable {X:Cx}{Wz:T0 (Uf × Obj)}{s:Sd}
section
variable {Y:T0 (Option V)}
def Cx.Ok.nofr(ok:X.Ok){b:Uf}{o:Obj}(e:X.base.get? b=Fa o):b∉X.fs:=λhb=>by have:=(ok.ny.mem hb).1;rw[e]at this;cases this
def Inv.bs(I:Inv X Wz Y H s):∀b o,X.base.get? b=Fa o->s.heap.get? b=Fa o/\H b=Db:=λb o e=>⟨I.base.keep b o (I.ok.bs b o e).1 (I.ok.bs b o e).2 (I.ok.nofr e) (I.ok.nK b o e),I.base.free b o (I.ok.bs b o e).1 (I.ok.bs b o e).2 (I.ok.nK b o e)⟩
def Inv.bk(I:Inv X Wz Y H s):∀b o,X.base.get? b=Fa o->s.heap.get? b=Fa o:=λb o e=>(I.bs b o e).1
def Inv.mod(I:Inv X Wz Y H s):Mod X.K X.mg X.base:=I.ok.mod
def Inv.m7(I:Inv X Wz Y H s):X.K.In s.heap:=I.ok.mod.og.keeps I.bk
def Inv.lt(I:Inv X Wz Y H s):X.env.locals<s.heap.objs.size:=let⟨_,hn,_⟩:=I.loc;hn.lt
def Inv.sz(I:Inv X Wz Y H s):X.s₀.heap.objs.size<=s.heap.objs.size:=eh I.ok.above (kI I.lt)
def Inv.oH(I:Inv X Wz Y H s){a:Uf}(h:s.heap.objs.size<=a):a∉X.fs:=λhb=>by obtain⟨_,o,ho,_⟩:=I.ok.ny.mem hb;exact absurd (dS (dE ho) (eh I.sz h)) (eX _)
def Inv.oV(I:Inv X Wz Y H s):∀x c,X.env.cells.lookup x=Fa c->c≠X.env.locals:=λx c e z=>by obtain⟨v,o,ho,hd⟩:=I.cell x c e;obtain⟨m,⟨o',es,ep,Xg,hd',_⟩,_⟩:=I.loc;rw[z,Xg]at ho;cases ho;rw[hd']at hd;cases hd
def Inv.ny(I:Inv X Wz Y H s):s.heap.FunFrames X.base X.outer:=by
 have all:∀(l:T0 Env),(∀b∈wk l,b∈X.fs)->X.s₀.heap.FunFrames X.base l->s.heap.FunFrames X.base l:=by
  intro l;induction l with
  | nil=>intro _ _;trivial
  | cons env r ih=>intro hs hl;obtain⟨hk,⟨L,o,hf,hn,ho,hd⟩,hr⟩:=hl;have hL:L∈X.fs:=hs L (by unfold wk;rw[gc,hf];exact dN);obtain⟨sl,e⟩:=I.base.slot L o ho (I.ok.oh L hL) hL λz=>I.ok.nU L z hL;exact⟨hk,⟨L,_,hf,hn,e,hd⟩,ih (λb hb=>hs b (by unfold wk;rw[gc,hf];exact dH _ hb)) hr⟩
 exact all X.outer (λ_ hb=>hb) I.ok.ny
def Inv.stack(I:Inv X Wz Y H s):s.heap.FunFrames X.base X.stack:=by
 rcases I.ok.oE with e|⟨e,hf⟩
 .rw[e];exact I.ny
 .rw[e];obtain⟨m,hn,_⟩:=I.loc;refine .cons (by rw[I.ok.kind];decide) hf hn ?_ I.ny;exact gM (eh I.ok.nW I.ok.above)
def Inv.nA(I:Inv X Wz Y H s):∀b∈wk X.stack,b∈X.env.locals::X.fs:=λb hb=>by
 rcases I.ok.oE with e|⟨e,hf⟩
 .rw[e]at hb;exact dH _ hb
 .rw[e]at hb;unfold wk at hb;rw[gc,hf]at hb;exact hb
def Inv.nF(I:Inv X Wz Y H s):∀b∈wk X.stack,H b=Db:=λb hb=>by
 rcases c9.mp (I.nA b hb)with e|hb
 .rw[e];exact I.free
 .obtain⟨_,o,ho,_⟩:=I.ok.ny.mem hb;exact I.base.free b o ho (I.ok.oh b hb) λz=>I.ok.nU b z hb
def Inv.step{g':Array GenState}{t':Nat}{d':Drawn}{ch:QXQ}(I:Inv X Wz Y H s) (Xx:∀b∈ch,(b∈X.ex\/X.s₀.heap.objs.size<=b)/\b≠X.env.locals/\(∀x c,X.env.cells.lookup x=Fa c->c≠b)/\∀p∈X.pn++Wz,p.1≠b) (keep:∀b o,b≠X.env.locals->b∉X.fs->b∉ch->s.heap.get? b=Fa o->H b=Db->h'.get? b=Fa o) (slot:∀b o,b≠X.env.locals->b∈X.fs->b∉ch->s.heap.get? b=Fa o->H b=Db->∃sl,h'.get? b=Fa {o with slots:=sl}) (free:∀b o,b∉ch->s.heap.get? b=Fa o->H b=Db->H' b=Db)
  (there:∀b o,b∉ch->s.heap.get? b=Fa o->∃o',h'.get? b=Fa o')
  (nE:∀b xs,H b=Fa (.tup xs)->H' b=Fa (.tup xs)) (nv:∀b o u,H b=Fa (.frz o u)->H' b=Fa (.frz o u)) (nG:∀b ps,H b=Fa (.tbl ps)->∃more,H' b=Fa (.tbl (ps++more)))
  (ns:∀m,s.heap.Ns X.env.locals m->h'.Ns X.env.locals m) (mQ:yk X.prog X.w H' h') (hg:Z1 g'):
  Inv X Wz Y H' {s with heap:=h',gens:=g',drawn:=d',toks:=t'}:=by
 have neL:∀b o,X.s₀.heap.get? b=Fa o->b≠X.env.locals:=λb o e=>dQ (dS (dE e) I.ok.above);have neC:∀b o,X.s₀.heap.get? b=Fa o->b∉X.ex->b∉ch:=λb o e hx hb=>by
  rcases(Xx b hb).1 with z|z
  .exact hx z
  .exact absurd (dS (dE e) z) (eX _)
 have Y1:∀x c,X.env.cells.lookup x=Fa c->∀v,s.heap.IsCell c v->h'.IsCell c v:=λx c e v ⟨o,ho,hd⟩=>by
  have nch:c∉ch:=λz=>(Xx c z).2.2.1 x c e rfl;by_cases hc:c∈X.fs
  .obtain⟨sl,q⟩:=slot c o (I.oV x c e) hc nch ho (I.mX x c e);exact⟨_,q,hd⟩
  .exact⟨o,keep c o (I.oV x c e) hc nch ho (I.mX x c e),hd⟩
 refine⟨I.ok,I.os,hg,⟨λb o e n hb hx=>?_,λb o e n hb hx=>?_,λb o e n hx=>?_,λb o e hx=>?_,λb xs e=>nE b xs (I.base.nE b xs e),λb o xs e=>nv b o xs (I.base.nv b o xs e),λb ps e=>?_⟩,?_,λx c e=>?_,?_,λx c e=>?_,λp hp=>?_,mQ,I.len⟩
 .exact keep b o (neL b o e) hb (neC b o e hx) (I.base.keep b o e n hb hx) (I.base.free b o e n hx)
 .obtain⟨sl,e1⟩:=I.base.slot b o e n hb hx;obtain⟨X6,e2⟩:=slot b _ (neL b o e) hb (neC b o e hx) e1 (I.base.free b o e n hx);exact⟨X6,e2⟩
 .obtain⟨o',e1⟩:=I.base.there b o e hx;exact free b o' (neC b o e hx) e1 (I.base.free b o e n hx)
 .obtain⟨o',e1⟩:=I.base.there b o e hx;exact there b o' (neC b o e hx) e1
 .obtain⟨m1,e1⟩:=I.base.nG b ps e;obtain⟨m2,e2⟩:=nG b _ e1;exact⟨m1++m2,by rw[e2,kH]⟩
 .obtain⟨m,hn,hl⟩:=I.loc;refine⟨m,ns m hn,λi x v e1 e2 e3=>?_⟩;obtain⟨u,r,l⟩:=hl i x v e1 e2 e3;refine⟨u,r,?_⟩;rcases l with l|⟨k,c,e,z⟩
  .exact .inl l
  .exact .inr ⟨k,c,e,Y1 x c e _ z⟩
 .obtain⟨v,z⟩:=I.cell x c e;exact⟨v,Y1 x c e v z⟩
 .obtain⟨m,⟨o,_,_,ho,_⟩,_⟩:=I.loc;exact free _ o (λz=>(Xx _ z).2.1 rfl) ho I.free
 .obtain⟨v,o,ho,hd⟩:=I.cell x c e;exact free c o (λz=>(Xx c z).2.2.1 x c e rfl) ho (I.mX x c e)
 .obtain⟨e,n,ne,nf,d⟩:=I.pin p hp;have nch:p.1∉ch:=λz=>(Xx p.1 z).2.2.2 p hp rfl;exact⟨keep p.1 p.2 ne nf nch e n,free p.1 p.2 nch e n,ne,nf,d⟩
def Inv.un{t':Nat}(I:Inv X Wz Y H s)(u:Un X.fs [] H H' s.heap h')(mQ:yk X.prog X.w H' h'):Inv X Wz Y H' {s with heap:=h',toks:=t'}:=by
 obtain⟨m,⟨o,es,ep,ho,r⟩,_⟩:=id I.loc;obtain⟨sl,hL⟩:=u.any ho I.free (by simp);exact I.step (g':=s.gens) (d':=s.drawn) (ch:=[]) (λ_ z=>nomatch z) (λb o _ hb _ e n=>u.keep b o e n hb (by simp)) (λb o _ hb _ e n=>u.slot b o e n hb (by simp)) (λb o _ e n=>u.free b o e n (by simp)) (λb o _ e=>u.there b o e (by simp)) u.nE u.nv u.nG (λm' hm=>by
  obtain⟨o',es',ep',Xg,r'⟩:=hm;rw[ho]at Xg;cases Xg;exact⟨_,es',ep',hL,r'⟩) mQ I.bare
def Inv.call{t':Nat}{d':Drawn}(I:Inv X Wz Y H s)(u:Un (wk X.stack) ch H H' s.heap h')(mQ:yk X.prog X.w H' h')(hg:Z1 g') (Xx:∀b∈ch,(b∈X.ex\/X.s₀.heap.objs.size<=b)/\b≠X.env.locals/\(∀x c,X.env.cells.lookup x=Fa c->c≠b)/\∀p∈X.pn++Wz,p.1≠b):
  Inv X Wz Y H' {s with heap:=h',gens:=g',drawn:=d',toks:=t'}:=by
 obtain⟨m,⟨o,es,ep,ho,r⟩,_⟩:=id I.loc;obtain⟨sl,hL⟩:=u.any ho I.free λz=>(Xx _ z).2.1 rfl;exact I.step (ch:=ch) Xx (λb o hL hb hc e n=>u.keep b o e n (λz=>(c9.mp (I.nA b z)).elim hL hb) hc) (λb o _ _ hc e n=>u.any e n hc) (λb o hc e n=>u.free b o e n hc) (λb o hc e=>u.there b o e hc) u.nE u.nv u.nG (λm' hm=>by
  obtain⟨o',es',ep',Xg,r'⟩:=hm;rw[ho]at Xg;cases Xg;exact⟨_,es',ep',hL,r'⟩) mQ hg
def Inv.turned{t':Nat}{it:Uf}(I:Inv X Wz Y H s)(k:∀b o,b≠it->s.heap.get? b=Fa o->h'.get? b=Fa o)(hn:H it=Db)(hL:it≠X.env.locals) (h1:it∈X.ex\/X.s₀.heap.objs.size<=it) (h2:∀x c,X.env.cells.lookup x=Fa c->c≠it) (h3:∀p∈X.pn++Wz,p.1≠it):Inv X Wz Y H {s with heap:=h',toks:=t'}:=by
 have nit:∀b u,H b=Fa u->b≠it:=λb u e z=>by rw[z,hn]at e;cases e
 refine I.step (g':=s.gens) (d':=s.drawn) (ch:=[it]) (λb hb=>?_) (λb o _ _ hc e _=>k b o (λz=>hc (by simp[z])) e) (λb o _ _ hc e _=>⟨o.slots,k b o (λz=>hc (by simp[z])) e⟩) (λ_ _ _ _ n=>n)
  (λb o hc e=>⟨o,k b o (λz=>hc (by simp[z])) e⟩) (λ_ _ e=>e) (λ_ _ _ e=>e) (λb ps e=>⟨#[],by rw[e];simp⟩) (λm hm=>?_) (λb u e=>?_) I.bare
 .have e:b=it:=by simpa using hb
  subst e;exact⟨h1,hL,h2,h3⟩
 .obtain⟨o,es,ep,ho,r⟩:=hm;exact⟨o,es,ep,k _ o (dG hL) ho,r⟩
 .refine(I.mQ b u e).ni (λc v hc q=>k c v ?_ q) (λ_ q=>q) λ_ _ q=>q;rcases hc with z|z
  .rw[z];exact nit b u e
  .exact nit c _ z
def Inv.tok(I:Inv X Wz Y H s)(t:Nat):Inv X Wz Y H {s with toks:=t}:=I.un (h':=s.heap) (t':=t) Un.refl I.mQ
def Inv.kept{t':Nat}(I:Inv X Wz Y H s)(k:∀b u,s.heap.get? b=Fa u->h'.get? b=Fa u):Inv X Wz Y H {s with heap:=h',toks:=t'}:=I.un (Un.kept k) (I.mQ.kept k)
def Inv.laid{a:Uf}{t':Nat}(I:Inv X Wz Y H s)(k:∀b u,s.heap.get? b=Fa u->h'.get? b=Fa u)(hp:s.heap.objs.size<=a)(new:sj X.prog X.w (upd H a o) h' a o):
  Inv X Wz Y (upd H a o) {s with heap:=h',toks:=t'}:=I.un (Un.laid k hp (I.mQ.fresh hp)) (I.mQ.laid k hp new)
def Inv.write{x e:Uf}{t':Nat}(I:Inv X Wz Y H s)(mu:Ti (H x))(he:e=x\/H e=Fa (.own x))(k:∀b u,b≠e->s.heap.get? b=Fa u->h'.get? b=Fa u)(heo:∃u,h'.get? e=Fa u) (new:sj X.prog X.w (upd H x o) h' x o):Inv X Wz Y (upd H x o) {s with heap:=h',toks:=t'}:=I.un (Un.write mu he k heo) (I.mQ.write mu he k heo new)
def Inv.nM{Xy:QQY}(I:Inv X Wz Y H s)(h:∀p∈Xy,s.heap.get? p.1=Fa p.2/\H p.1=Db/\p.1≠X.env.locals/\p.1∉X.fs/\∀v,p.2.data≠.cell v):Inv X Xy Y H s:=
 ⟨I.ok,I.os,I.bare,I.base,I.loc,I.cell,I.free,I.mX,λp hp=>(dR.mp hp).elim (λz=>I.pin p (fF _ z)) (h p),I.mQ,I.len⟩
def GP{N:QQQ}(hN:N.Nodup){i j:Nat}{x:Str}(a:N[i]?=Fa x)(b:N[j]?=Fa x):i=j:=by obtain⟨h1,e1⟩:=cZ.mp a;obtain⟨h2,e2⟩:=cZ.mp b;exact(lD hN).mp (e1.trans e2.symm)
def Dn{M:Model}{A:Ar}{E:QQX}{i:Nat}{x:Str}{Q:Unit->Sd->Prop}(I:Inv X Wz Y H s)(hN:X.N.Nodup)(hi:X.N[i]?=Fa x)(hx:Nq X.env.scope x)(r:qH v u) (h:∀s',Inv X Wz (Y.set i (Fa v)) H s'->(∃a,Heap.SameBut a s.heap s'.heap/\(a=X.env.locals\/X.env.cells.lookup x=Fa a))->Q () s') (hf:Ln X x:=by first|exact .inl rfl|exact .inr rfl|assumption):pi M A (storeName X.env x u) Q E s:=by
 obtain⟨m,hn,hl⟩:=id I.loc;have hcls:(X.env.scope.kind==.class||(X.env.scope.kind==.module&&X.env.locals != X.env.globals))=lf:=by rw[I.ok.kind];rfl
 have hiσ:i<Y.length:=by rw[I.len];exact(cZ.mp hi).1
 have oV:=I.oV;have WM:∀{a:Uf} {h':No},(∃o,s.heap.get? a=Fa o/\H a=Db)->Heap.SameBut a s.heap h'->yk X.prog X.w H h':=λ{a h'} ha hs b ob e=>by
  obtain⟨_,_,Xl⟩:=ha;refine(I.mQ b ob e).ni (λc w' hc q=>(hs.2 c ?_).trans q) (λ_ q=>q) λ_ _ q=>q
  rintro rfl
  rcases hc with rfl|hc
  .rw[Xl]at e;cases e
  .rw[Xl]at hc;cases hc
 rcases hx with hk|hk
 .refine wpAny_storeName_local hk hn (λh' YA hs=>?_) hcls;obtain⟨oL,_,_,hoL,_⟩:=id hn;refine h _ ⟨I.ok,I.os,I.bare,⟨λb o e n hb hx=>?_,λb o e n hb hx=>?_,I.base.free,λb o e hx=>?_,I.base.nE,I.base.nv,I.base.nG⟩,⟨_,YA,λj y v' e1 e2 e3=>?_⟩,λy c e=>?_,I.free,I.mX,λp hp=>?_,WM ⟨oL,hoL,I.free⟩ hs,by simpa using I.len⟩ ⟨_,hs,.inl rfl⟩
  .exact(hs.2 b (dQ (dS (dE e) I.ok.above))).trans (I.base.keep b o e n hb hx)
  .obtain⟨sl,e1⟩:=I.base.slot b o e n hb hx;exact⟨sl,(hs.2 b (dQ (dS (dE e) I.ok.above))).trans e1⟩
  .obtain⟨o',e1⟩:=I.base.there b o e hx;exact⟨o',(hs.2 b (dQ (dS (dE e) I.ok.above))).trans e1⟩
  .by_cases hj:j=i
   .subst hj;rw[hi]at e1;cases e1;rw[fJ hiσ]at e2;cases e2;exact⟨u,r,.inl ⟨hk,by simp⟩⟩
   .rw[fG (dG hj)]at e2;obtain⟨u',r',q⟩:=hl j y v' e1 e2 e3;refine⟨u',r',?_⟩;rcases q with⟨k,e⟩|⟨k,c,e,z⟩
    .refine .inl ⟨k,?_⟩;have:y≠x:=λe=>hj (GP hN e1 (e ▸ hi));simp[this,e]
    .exact .inr ⟨k,c,e,z.sameBut hs (oV y c e)⟩
  .obtain⟨w',z⟩:=I.cell y c e;exact⟨w',z.sameBut hs (oV y c e)⟩
  .obtain⟨e,n,ne,nf,d⟩:=I.pin p hp;exact⟨(hs.2 p.1 ne).trans e,n,ne,nf,d⟩
 .have hfn:X.fn x=pc:=by
   rcases hf with z|z
   .exact z
   .rw[z]at hk;cases hk
  obtain⟨c,hc⟩:=I.ok.has x (.inl hk);obtain⟨w',z⟩:=I.cell x c hc;refine wpAny_storeName_cell I.ok.kind hk hc z (λh' hc' hs=>?_);obtain⟨oc,hoc,hocd⟩:=id z;refine h {s with heap:=h'} ⟨I.ok,I.os,I.bare,⟨λb o e n hb hx=>?_,λb o e n hb hx=>?_,I.base.free,λb o e hx=>?_,I.base.nE,I.base.nv,I.base.nG⟩,⟨m,hn.sameBut hs (dG (oV x c hc)),λj y v' e1 e2 e3=>?_⟩,λy c' e=>?_,I.free,I.mX,λp hp=>?_,WM ⟨oc,hoc,I.mX x c hc⟩ hs,by simpa using I.len⟩ ⟨c,hs,.inr hc⟩
  .exact(hs.2 b (dQ (dS (dE e) (I.ok.oo x c hfn hc)))).trans (I.base.keep b o e n hb hx)
  .obtain⟨sl,e1⟩:=I.base.slot b o e n hb hx;exact⟨sl,(hs.2 b (dQ (dS (dE e) (I.ok.oo x c hfn hc)))).trans e1⟩
  .obtain⟨o',e1⟩:=I.base.there b o e hx;exact⟨o',(hs.2 b (dQ (dS (dE e) (I.ok.oo x c hfn hc)))).trans e1⟩
  .by_cases hj:j=i
   .subst hj;rw[hi]at e1;cases e1;rw[fJ hiσ]at e2;cases e2;exact⟨u,r,.inr ⟨.inl hk,c,hc,hc'⟩⟩
   .rw[fG (dG hj)]at e2;obtain⟨u',r',q⟩:=hl j y v' e1 e2 e3;refine⟨u',r',?_⟩;rcases q with q|⟨k,c',e,z'⟩
    .exact .inl q
    .refine .inr ⟨k,c',e,z'.sameBut hs ?_⟩
     rintro rfl
     exact hj (GP hN e1 (I.ok.inj _ _ _ e hc ▸ hi))
  .by_cases Y2:c'=c
   .subst Y2;exact⟨_,hc'⟩
   .obtain⟨w2,z2⟩:=I.cell y c' e;exact⟨w2,z2.sameBut hs Y2⟩
  .obtain⟨e,n,ne,nf,d⟩:=I.pin p hp;refine⟨(hs.2 p.1 ?_).trans e,n,ne,nf,d⟩;intro q;rw[q,hoc]at e;have q':oc=p.2:=dv e;exact d w' (by rw[<-q'];exact hocd)
def FH{M:Model}{A:Ar}{E:QQX}{i:Nat}{x:Str}{Q:Unit->Sd->Prop}(I:Inv X Wz Y H s)(hN:X.N.Nodup)(hi:X.N[i]?=Fa x)(hx:Nq X.env.scope x)(r:qH v u) (h:∀s',Inv X Wz (Y.set i (Fa v)) H s'->Q () s') (hf:Ln X x:=by first|exact .inl rfl|exact .inr rfl|assumption):pi M A (storeName X.env x u) Q E s:=
 Dn I hN hi hx r (λs' I' _=>h s' I') hf
def Inv.oN{s':Sd}(I:Inv X Wz Y H s)(ho:s'.os=s.os)(u:Un (wk X.stack) ch H H' s.heap s'.heap)(mQ:yk X.prog X.w H' s'.heap)(hg:Z1 s'.gens) (Xx:∀b∈ch,(b∈X.ex\/X.s₀.heap.objs.size<=b)/\b≠X.env.locals/\(∀x c,X.env.cells.lookup x=Fa c->c≠b)/\∀p∈X.pn++Wz,p.1≠b):Inv X Wz Y H' s':=by
 obtain⟨h',g',d',t',o'⟩:=s';have e:o'=s.os:=ho;subst e;exact I.call (g':=g') (t':=t') (d':=d') u mQ hg Xx
end
abbrev XK:=Vl->Option Uf->Hp->Prop
abbrev St:=T0 (Option V)
abbrev VK:=V->Hp->Prop
abbrev TE:=St->Hp->VK->Prop
abbrev TT:=St->Hp->(Bool->Hp->Prop)->Prop
abbrev TA:=St->Hp->(T0 V->Hp->Prop)->Prop
structure Eu where
 nx:St->Hp->Prop
 rt:VK
 bk:St->Hp->Prop:=λ_ _=>False
 ct:St->Hp->Prop:=λ_ _=>False
abbrev TS:=Eu->St->Hp->Prop
def EP(X:Cx)(Wz:QQY)(Y:St)(Q:VK)(u:Vl)(s':Sd):Prop:=∃v H',Inv X Wz Y H' s'/\qH v u/\Q v H'
def TP(X:Cx)(Wz:QQY)(Y:St)(Q:Bool->Hp->Prop)(b:Bool)(s':Sd):Prop:=∃H',Inv X Wz Y H' s'/\Q b H'
def AP(X:Cx)(Wz:QQY)(Y:St)(Q:T0 V->Hp->Prop)(us:T0 Vl)(s':Sd):Prop:=∃vs H',Inv X Wz Y H' s'/\qA vs us/\Q vs H'
def SP(X:Cx)(Wz:QQY)(D:Eu)(f:Flow)(s':Sd):Prop:=
 match f with
 | .next=>∃σ' H',Inv X Wz σ' H' s'/\D.nx σ' H'
 | .brk=>∃σ' H',Inv X Wz σ' H' s'/\D.bk σ' H'
 | .cont=>∃σ' H',Inv X Wz σ' H' s'/\D.ct σ' H'
 | .ret u=>∃v σ' H',Inv X Wz σ' H' s'/\qH v u/\D.rt v H'
def PE(X:Cx)(e:Go)(t:TE):Prop:=
 ∀(Wz:QQY) (s:Sd) (Y:St) (H:Hp) (Q:VK),Inv X Wz Y H s->t Y H Q->pi (Tk X.prog X.w) X.A (wp e X.env) (EP X Wz Y Q) X.xe s
def PT(X:Cx)(e:Go)(t:TT):Prop:=
 ∀(Wz:QQY) (s:Sd) (Y:St) (H:Hp) (Q:Bool->Hp->Prop),Inv X Wz Y H s->t Y H Q->pi (Tk X.prog X.w) X.A (isTrue e X.env (wp e X.env)) (TP X Wz Y Q) X.xe s
def PW(X:Cx)(e:Go)(t:TT):Prop:=
 ∀(W7:Sem Vl) (Wz:QQY) (s:Sd) (Y:St) (H:Hp) (Q:Bool->Hp->Prop),Inv X Wz Y H s->t Y H Q->pi (Tk X.prog X.w) X.A (isTrue e X.env W7) (TP X Wz Y Q) X.xe s
def PW.pt(h:PW X e t):PT X e t:=h _
def PA(X:Cx)(es:T0 Go)(t:TA):Prop:=
 ∀(pos:Pos) (Wz:QQY) (s:Sd) (Y:St) (H:Hp) (Q:T0 V->Hp->Prop),Inv X Wz Y H s->t Y H Q->pi (Tk X.prog X.w) X.A (spliced (Ix pos (Tl es X.env))) (AP X Wz Y Q) X.xe s
def PS(X:Cx)(st:sB)(t:TS):Prop:=
 ∀(Wz:QQY) (s:Sd) (Y:St) (H:Hp) (D:Eu),Inv X Wz Y H s->t D Y H->pi (Tk X.prog X.w) X.A (exec st X.env) (SP X Wz D) X.xe s
def Bz(X:Cx)(st:T0 sB)(t:TS):Prop:=
 ∀(Wz:QQY) (s:Sd) (Y:St) (H:Hp) (D:Eu),Inv X Wz Y H s->t D Y H->pi (Tk X.prog X.w) X.A (execs st X.env) (SP X Wz D) X.xe s
def sy{α:Type}{t:Sem α}{Q Q':α->Sd->Prop}{M:Model}{A:Ar}{E:QQX}{s:Sd}(h:pi M A t Q E s)(hQ:∀a s,Q a s->Q' a s):pi M A t Q' E s:=eE h hQ λ_ _ x=>x
variable {tA tB':TT}{ta tb:TE}{pos:Pos}
section
def HC(i:Nat):TE:=λY H Q=>∃v,Y[i]?=Fa (Fa v)/\Q v H
def tC(v:V):TE:=λ_ H Q=>Q v H
def RM{i:Nat}{x:Str}(hN:X.N[i]?=Fa x)(hv:Ta X.env.scope x)(hd:yR x:=by decide)(XO:(x==("__classdict__":Str))=lf:=by decide):PE X (.Name x pos) (HC i):=by
 intro Wz s Y H Q I h;obtain⟨v,e,h⟩:=h;obtain⟨m,hn,hl⟩:=I.loc;obtain⟨u,r,l⟩:=hl i x v hN e hv;have WB:EP X Wz Y Q u s:=⟨v,H,I,r,h⟩;rcases l with⟨hk,hm⟩|⟨hk,c,hc,hcell⟩
 .exact lR (wpAny_loadName_local I.ok.kind hk hn hm WB) hd
 .rcases hk with hk|hk
  .exact lR (wpAny_loadName_cell I.ok.kind hk hc hcell WB) hd
  .exact lR (wpAny_loadName_free I.ok.kind hk hc hcell WB XO) hd
def QN{i j pos}:PE X (.Constant (.int i) j pos) (tC (.int i)):=λ_ _ _ H _ I h=>wpAny_Constant_int ⟨.int i,H,I.tok _,⟨_,rfl⟩,h⟩
def Tq{b j pos}:PE X (.Constant (.bool b) j pos) (tC (.bl b)):=λ_ _ _ H _ I h=>Constant_bool ⟨.bl b,H,I,rfl,h⟩
def Q9{j pos}:PE X (.Constant .none j pos) (tC .mL):=λ_ _ _ H _ I h=>Constant_none ⟨.mL,H,I,rfl,h⟩
def SC{x j pos}:PE X (.Constant (.str x) j pos) (tC (.str x)):=λ_ _ _ H _ I h=>Calls.Constant_str ⟨.str x,H,I.tok _,⟨_,rfl⟩,h⟩
def Gl(X:Cx)(x:Str):Prop:=X.env.kindOf x=Fa .globalImplicit
def xc{E:QQX}{Wz:QQY}{u:Vl}{Q:QQX}(I:Inv X Wz Y H s)(hg:Gl X x)(hm:X.mg x=Fa u)(h:Q u s) (hd:yR x:=by decide):pi (Tk X.prog X.w) X.A (wp (.Name x pos) X.env) Q E s:=
 ji I.ok.kind hg (Calls.loadGlobal_global (by rw[I.ok.glob];exact I.mod.glob.keeps I.bk) hm h) hd
def xb{E:QQX}{Wz:QQY}{u:Vl}{Q:QQX}(I:Inv X Wz Y H s)(hg:Gl X x)(hm:X.mg x=Db)(hv:zn x=Fa u)(h:Q u s) (hn:x≠"__name__":=by decide) (hd:yR x:=by decide):pi (Tk X.prog X.w) X.A (wp (.Name x pos) X.env) Q E s:=by
 obtain⟨mb,h1,h2⟩:=I.mod.blt;exact ji I.ok.kind hg (Calls.loadGlobal_builtin (by rw[I.ok.glob];exact I.mod.glob.keeps I.bk) hm (by rw[I.ok.blt];exact h1.keeps I.bk) ((h2 x hn).trans hv) h) hd
def D7{u:Vl}(hg:Gl X x)(hm:X.mg x=Fa u)(r:qH v u)(hd:yR x:=by decide):PE X (.Name x pos) (tC v):=
 λ_ _ _ H _ I h=>xc I hg hm ⟨v,H,I,r,h⟩ hd
def NH{u:Vl}(hg:Gl X x)(hm:X.mg x=Db)(hv:zn x=Fa u)(r:qH v u)(hn:x≠"__name__":=by decide)(hd:yR x:=by decide):PE X (.Name x pos) (tC v):=
 λ_ _ _ H _ I h=>xb I hg hm hv ⟨v,H,I,r,h⟩ hn hd
variable {a b:Go}
def tB(t:TE):TT:=λY H Q=>t Y H λx H1=>∃c,x=.bl c/\Q c H1
def Sb(h:PE X e t)(he:∀W7,isTrue e X.env W7=(do let v<-W7;ZU e.pos;xz [v] (truthy v)):=by intro _;rfl):PT X e (tB t):=by intro Wz s Y H Q I hw;refine isTrue_plain (sy (h Wz s Y H _ I hw) λv s1 zz=>x5 zz λx H1 I1 r1 q1=>?_) (he _);obtain⟨d,rfl,q⟩:=q1;cases r1;exact fu ⟨H1,I1,q⟩
variable {rest:T0 Go}
def VA(t u:TT):TT:=λY H Q=>t Y H λc H1=>if c=pc then u Y H1 Q else Q lf H1
def Wj(t u:TT):TT:=λY H Q=>t Y H λc H1=>if c=pc then Q pc H1 else u Y H1 Q
def Vs(t:TT):TT:=λY H Q=>t Y H λc H1=>Q (!c) H1
def PJ(ha:PT X a tA):PW X (.BoolOp .And [a] pos) tA:=by
 intro wh Wz s Y H Q I h;refine isTrue_and (sy (ha Wz s Y H Q I h) λc s1 e=>?_);cases c with
 | true=>exact isTrue_and_nil e
 | false=>exact e
def Rx(ha:PT X a tA):PW X (.BoolOp .Or [a] pos) tA:=by
 intro wh Wz s Y H Q I h;refine isTrue_or (sy (ha Wz s Y H Q I h) λc s1 e=>?_);cases c with
 | false=>exact isTrue_or_nil e
 | true=>exact e
def Rh(ha:PT X a tA)(hb:PW X (.BoolOp .And (b::rest) pos) tB'):PW X (.BoolOp .And (a::b::rest) pos) (VA tA tB'):=by
 intro wh Wz s Y H Q I h;refine isTrue_and (sy (ha Wz s Y H _ I h) λc s1 ⟨H1,I1,q1⟩=>?_);cases c with
 | true=>exact hb wh Wz s1 Y H1 Q I1 q1
 | false=>exact⟨H1,I1,q1⟩
def TL(ha:PT X a tA)(hb:PW X (.BoolOp .Or (b::rest) pos) tB'):PW X (.BoolOp .Or (a::b::rest) pos) (Wj tA tB'):=by
 intro wh Wz s Y H Q I h;refine isTrue_or (sy (ha Wz s Y H _ I h) λc s1 ⟨H1,I1,q1⟩=>?_);cases c with
 | true=>exact⟨H1,I1,q1⟩
 | false=>exact hb wh Wz s1 Y H1 Q I1 q1
def R5(ha:PT X a tA):PT X (.UnaryOp .Not a pos) (Vs tA):=by intro Wz s Y H Q I h;exact isTrue_not (ha Wz s Y H (λc H1=>Q (!c) H1) I h)
def TB(ta tb:TE):TE:=λY H Q=>ta Y H λx H1=>∃c,x=.bl c/\if c=pc then tb Y H1 Q else Q (.bl lf) H1
def VL(ta tb:TE):TE:=λY H Q=>ta Y H λx H1=>∃c,x=.bl c/\if c=pc then Q (.bl pc) H1 else tb Y H1 Q
def Tz(ta:TE):TE:=λY H Q=>ta Y H λx H1=>∃c,x=.bl c/\Q (.bl (!c)) H1
def RC{op}(h:PE X a t):PE X (.BoolOp op [a] pos) t:=λWz s Y H Q I hw=>BoolOp_one (h Wz s Y H Q I hw)
def QE(ha:PE X a ta)(hb:PE X (.BoolOp .And (b::rest) pos) tb):PE X (.BoolOp .And (a::b::rest) pos) (TB ta tb):=by
 intro Wz s Y H Q I h;refine BoolOp_and (sy (ha Wz s Y H _ I h) λv s1 zz=>x5 zz λx H1 I1 r1 q1=>?_);obtain⟨c,rfl,q1⟩:=q1;cases r1;refine fu ?_;cases c with
 | true=>exact hb Wz s1 Y H1 Q I1 q1
 | false=>exact⟨.bl lf,H1,I1,rfl,q1⟩
def TK(ha:PE X a ta)(hb:PE X (.BoolOp .Or (b::rest) pos) tb):PE X (.BoolOp .Or (a::b::rest) pos) (VL ta tb):=by
 intro Wz s Y H Q I h;refine BoolOp_or (sy (ha Wz s Y H _ I h) λv s1 zz=>x5 zz λx H1 I1 r1 q1=>?_);obtain⟨c,rfl,q1⟩:=q1;cases r1;refine fu ?_;cases c with
 | false=>exact hb Wz s1 Y H1 Q I1 q1
 | true=>exact⟨.bl pc,H1,I1,rfl,q1⟩
def QW(ha:PE X a ta):PE X (.UnaryOp .Not a pos) (Tz ta):=by intro Wz s Y H Q I h;refine UnaryOp_ (sy (ha Wz s Y H _ I h) λv s1 zz=>x5 zz λx H1 I1 r1 q1=>?_);obtain⟨c,rfl,q1⟩:=q1;cases r1;exact not_of (fu ⟨.bl (!c),H1,I1,rfl,q1⟩)
def Wm(t:TT)(ta tb:TE):TE:=λY H Q=>t Y H λc H1=>if c=pc then ta Y H1 Q else tb Y H1 Q
def LB(hc:PT X c tA)(ha:PE X a ta)(hb:PE X b tb):PE X (.IfExp c a b pos) (Wm tA ta tb):=by
 intro Wz s Y H Q I h;refine wpAny_IfExp (sy (hc Wz s Y H _ I h) λd s1 ⟨H1,I1,q1⟩=>?_);cases d with
 | true=>exact ha Wz s1 Y H1 Q I1 q1
 | false=>exact hb Wz s1 Y H1 Q I1 q1
end
def w9(K:qp)(H:Hp)(a:Uf)(xs:T0 V):Prop:=
 Rd H a (.lst xs)\/
  ∃(o:Obj) (its:Array Vl) (n:Nat),K.lookup a=Fa o/\o.cls=.type "list"/\o.dict=Db/\o.data=.seq its n/\its.size<=Ch/\qA xs its.toList
def ve(K:qp)(H:Hp)(a:Uf)(xs:T0 V):Prop:=
 Rd H a (.tup xs)\/
  ∃(o:Obj) (its:Array Vl) (n:Nat),K.lookup a=Fa o/\o.cls=.type "tuple"/\o.dict=Db/\o.data=.seq its n/\its.size<=Ch/\qA xs its.toList
def US:Vl->Option V
 | .none=>Fa .mL
 | .bool b=>Fa (.bl b)
 | .int i _=>Fa (.int i)
 | .str x _=>Fa (.str x)
 | .bytes b _=>Fa (.byt b)
 | .float b _=>Fa (.flt b)
 | .ref a=>Fa (.ref a)
 | .type n=>Fa (.ty n)
 | _=>Db
def qH.abs(r:qH x u):US u=Fa x:=by
 cases x with
 | mL=>cases r;rfl
 | bl _=>cases r;rfl
 | int _=>obtain⟨t,rfl⟩:=r;rfl
 | str _=>obtain⟨t,rfl⟩:=r;rfl
 | byt _=>obtain⟨t,rfl⟩:=r;rfl
 | flt _=>obtain⟨t,rfl⟩:=r;rfl
 | ref _=>cases r;rfl
 | ty _=>cases r;rfl
def qH.inj(r:qH x u)(q:qH y u):x=y:=dv (r.abs.symm.trans q.abs)
theorem qA.inj:∀{xs ys:T0 V} {us:T0 Vl},qA xs us->qA ys us->xs=ys
 | _,_,_,.nil,.nil=>rfl
 | _,_,_,.cons r t,.cons r' t'=>by rw[r.inj r',qA.inj t t']
variable {xs ys:T0 V}
section
variable {Y:St}{a:Uf}
def ve.of{K:qp}(h:H a=Fa (.tup xs)):ve K H a xs:=.inl (.inl h)
def Inv.list(I:Inv X Wz Y H s)(h:w9 X.K H a xs):∃its:T0 Vl,qA xs its/\PlainL s.heap a its.toArray/\xs.length<=Ch:=by
 rcases h with h|⟨o,its,n,hk,hc,hd,hs,hz,r⟩
 .obtain⟨z,its,n,r,e⟩:=h.ok I.mQ;exact⟨its,r,⟨_,n,e,rfl,rfl,rfl⟩,z⟩
 .refine⟨its.toList,r,⟨o,n,I.m7 a o hk,hc,hd,by simpa using hs⟩,?_⟩;have e:=r.length;simp only[gO]at e;omega
def Inv.tuple(I:Inv X Wz Y H s)(h:ve X.K H a xs):∃its:T0 Vl,qA xs its/\IsTup s.heap a its.toArray/\xs.length<=Ch:=by
 rcases h with h|⟨o,its,n,hk,hc,hd,hs,hz,r⟩
 .obtain⟨z,its,r,p⟩:=h.ok I.mQ;exact⟨its,r,p.is,z⟩
 .refine⟨its.toList,r,⟨o,I.m7 a o hk,hc,n,by simpa using hs⟩,?_⟩;have e:=r.length;simp only[gO]at e;omega
def Inv.nu(I:Inv X Wz Y H s)(h:w9 X.K H a xs)(h':w9 X.K H a ys):xs=ys:=by
 obtain⟨its,r,⟨o,n,e,_,_,d⟩,_⟩:=I.list h;obtain⟨its',r',⟨o',n',e',_,_,d'⟩,_⟩:=I.list h';rw[e]at e';cases e';rw[d]at d';injection d' with d1 _
 have:its=its':=by simpa using eR Array.toList d1
 subst this;exact r.inj r'
def Inv.ng(I:Inv X Wz Y H s)(h:ve X.K H a xs)(h':ve X.K H a ys):xs=ys:=by
 obtain⟨its,r,⟨o,e,_,n,d⟩,_⟩:=I.tuple h;obtain⟨its',r',⟨o',e',_,n',d'⟩,_⟩:=I.tuple h';rw[e]at e';cases e';rw[d]at d';injection d' with d1 _
 have:its=its':=by simpa using eR Array.toList d1
 subst this;exact r.inj r'
end
abbrev Cx.nJ(X:Cx)(E:QQX):Cx:={X with xe:=E}
abbrev Cx.ou(X:Cx):Cx:=X.nJ λ_ _=>False
def Cx.Ok.nJ{X:Cx}(ok:X.Ok)(E:QQX):(X.nJ E).Ok:=
 ⟨ok.mod,ok.kind,ok.glob,ok.blt,ok.above,ok.inj,ok.has,ok.oo,ok.hd,ok.frames,ok.oE,ok.oS,ok.bs,ok.nW,ok.nK,ok.nU,ok.ny,ok.oh⟩
def Cx.Ok.m9{X:Cx}{E:QQX}(ok:(X.nJ E).Ok):X.Ok:=
 ⟨ok.mod,ok.kind,ok.glob,ok.blt,ok.above,ok.inj,ok.has,ok.oo,ok.hd,ok.frames,ok.oE,ok.oS,ok.bs,ok.nW,ok.nK,ok.nU,ok.ny,ok.oh⟩
section
variable {Y:St}{E:QQX}
def Inv.nJ(I:Inv X Wz Y H s)(E:QQX):Inv (X.nJ E) Wz Y H s:=⟨I.ok.nJ E,I.os,I.bare,I.base,I.loc,I.cell,I.free,I.mX,I.pin,I.mQ,I.len⟩
def Inv.m9(I:Inv (X.nJ E) Wz Y H s):Inv X Wz Y H s:=⟨I.ok.m9,I.os,I.bare,I.base,I.loc,I.cell,I.free,I.mX,I.pin,I.mQ,I.len⟩
def SP.m9{D:Eu}(h:SP (X.nJ E) Wz D f s'):SP X Wz D f s':=by
 cases f with
 | next=>obtain⟨σ',H',I,q⟩:=h;exact⟨σ',H',I.m9,q⟩
 | brk=>obtain⟨σ',H',I,q⟩:=h;exact⟨σ',H',I.m9,q⟩
 | cont=>obtain⟨σ',H',I,q⟩:=h;exact⟨σ',H',I.m9,q⟩
 | ret u=>obtain⟨v,σ',H',I,r,q⟩:=h;exact⟨v,σ',H',I.m9,r,q⟩
def Bz.ou{st:T0 sB}(h:Bz X.ou st t):Bz X st t:=λWz s Y H D I hw=>eE (h Wz s Y H D (I.nJ _) hw) (λ_ _ q=>q.m9) λ_ _ z=>False.elim z
end
variable {st:sB}{u:TS}{te:TE}
section
variable {rest:T0 sB}{t:TS}{e:Go}
def S':TS:=λD Y H=>D.nx Y H
def VH(t u:TS):TS:=λD Y H=>t {D with nx:=u D} Y H
def PM:Bz X [] S':=λ_ _ Y H _ I h=>gT ⟨Y,H,I,h⟩
def Me(h1:PS X st t)(h2:Bz X rest u):Bz X (st::rest) (VH t u):=by
 intro Wz s Y H D I h;refine jz (sy (h1 Wz s Y H {D with nx:=u D} I h) λf s1 q=>?_);cases f with
 | next=>obtain⟨σ',H',I',q⟩:=q;exact h2 Wz s1 σ' H' D I' q
 | ret v=>exact q
 | brk=>exact q
 | cont=>exact q
def Ic(h1:PS X st t):Bz X [st] t:=by
 intro Wz s Y H D I h;refine jz (sy (h1 Wz s Y H D I h) λf s1 q=>?_);cases f with
 | next=>exact gT q
 | ret v=>exact q
 | brk=>exact q
 | cont=>exact q
def Inv.quiet{Wz:QQY}(I:Inv X Wz Y H s):interactive X.env=lf:=by simp[interactive,I.ok.kind]
def Tr(te:TE):TS:=λD Y H=>te Y H λ_ H1=>D.nx Y H1
def P6(he:PE X e te)(hs:TD e Db pos.line X.env=pure lf:=by rfl):PS X (.Expr e pos) (Tr te):=by intro Wz s Y H D I h;exact wpAny_Expr_any (sy (he Wz s Y H _ I h) λv s1 zz=>x5 zz λx H1 I1 r1 q1=>⟨Y,H1,I1,q1⟩) I.quiet hs
def Vn(te:TE):TS:=λD Y H=>te Y H D.rt
def QZ(he:PE X e te):PS X (.Return (Fa e) pos) (Vn te):=by intro Wz s Y H D I h;exact wpAny_Return_some (sy (he Wz s Y H _ I h) λv s1 zz=>x5 zz λx H1 I1 r1 q1=>⟨x,Y,H1,I1,r1,q1⟩)
def Vv(c:TT)(t u:TS):TS:=λD Y H=>c Y H λb H1=>if b=pc then t D Y H1 else u D Y H1
def Us(hc:PT X c tc)(ha:Bz X a t)(hb:Bz X b u):PS X (.If c a b pos) (Vv tc t u):=by
 intro Wz s Y H D I h;refine wpAny_If (sy (hc Wz s Y H _ I h) λd s1 ⟨H1,I1,q1⟩=>?_);cases d with
 | true=>exact ha Wz s1 Y H1 D I1 q1
 | false=>exact hb Wz s1 Y H1 D I1 q1
def R8:TS:=λ_ _ _=>False
def LX:PS X st R8:=λ_ _ _ _ _ _ h=>h.elim
end
abbrev TG:=V->St->Hp->(St->Hp->Prop)->Prop
abbrev Po:=T0 V->St->Hp->(St->Hp->Prop)->Prop
def PG(X:Cx)(W5:Go)(t:TG):Prop:=
 ∀(Wz:QQY) (s:Sd) (Y:St) (H:Hp) (v:V) (u:Vl) (Q:St->Hp->Prop),Inv X Wz Y H s->qH v u->t v Y H Q->
  pi (Tk X.prog X.w) X.A (assign W5 X.env u) (λ_ s'=>∃σ' H',Inv X Wz σ' H' s'/\Q σ' H') X.xe s
def Nv(X:Cx)(ts:T0 Go)(t:Po):Prop:=
 ∀(Wz:QQY) (s:Sd) (Y:St) (H:Hp) (vs:T0 V) (us:T0 Vl) (Q:St->Hp->Prop),Inv X Wz Y H s->qA vs us->t vs Y H Q->
  pi (Tk X.prog X.w) X.A (assignInOrder ((ZO ts X.env).map (·.2)) us) (λ_ s'=>∃σ' H',Inv X Wz σ' H' s'/\Q σ' H') X.xe s
abbrev Q5:=V->V->V->Hp->(Hp->Prop)->Prop
def Ub(X:Cx)(t:Q5):Prop:=
 ∀(Wz:QQY) (s:Sd) (Y:St) (H:Hp) (o i v:V) (ov iv u:Vl) (Q:Hp->Prop),Inv X Wz Y H s->qH o ov->qH i iv->qH v u->t o i v H Q->
  pi (Tk X.prog X.w) X.A (setItem ov iv u) (λ_ s'=>∃H',Inv X Wz Y H' s'/\Q H') X.xe s
def LM(i:Nat):TG:=λv Y H Q=>Q (Y.set i (Fa v)) H
def PD{i:Nat}{x:Str}(hN:X.N.Nodup)(hi:X.N[i]?=Fa x)(hx:Nq X.env.scope x)(hf:Ln X x:=by first|exact .inl rfl|exact .inr rfl|assumption):PG X (.Name x pos) (LM i):=by intro Wz s Y H v u Q I r h;exact kZ (FH I hN hi hx r (λs' I'=>⟨_,H,I',h⟩) hf)
def Vc:Po:=λvs Y H Q=>vs=[]/\Q Y H
def SY(t:TG)(u:Po):Po:=λvs Y H Q=>∃v r,vs=v::r/\t v Y H λσ' H'=>u r σ' H' Q
def ND:Nv X [] Vc:=by intro Wz s Y H vs us Q I r h;obtain⟨e,h⟩:=h;subst e;cases r;exact assignInOrder_nil ⟨Y,H,I,h⟩
def MQ{u:Po}(h1:PG X e t)(h2:Nv X es u) (hs:(ZO (e::es) X.env).map (·.2)=assign e X.env::(ZO es X.env).map (·.2):=by rfl):Nv X (e::es) (SY t u):=by
 intro Wz s Y H vs us Q I r h;obtain⟨v,vr,e1,h⟩:=h;subst e1;cases r with
 | cons r rr=>rw[hs];refine assignInOrder_cons (sy (h1 Wz s Y H _ _ _ I r h) λ_ s1 ⟨σ1,H1,I1,q1⟩=>?_);exact h2 Wz s1 σ1 H1 _ _ Q I1 rr q1
def UX(K:qp)(n:Nat)(t:Po):TG:=λv Y H Q=>∃a xs,v=.ref a/\ve K H a xs/\xs.length=n/\t xs Y H Q
def Rp{n:Nat}(hc:X.calm=pc)(h:Nv X es t) (hn:(ZO es X.env).length=n:=by rfl) (WV:(ZO es X.env).findIdx? (·.1)=Db:=by rfl):PG X (.Tuple es k pos) (UX X.K n t):=by
 intro Wz s Y H v u Q I r hw;obtain⟨a,xs,e1,hq,hl,hw⟩:=hw;subst e1;cases r;obtain⟨its,rv,ht,hz⟩:=I.tuple hq;refine assign_Tuple_tuple (I.ok.hd hc) ht (by simp[hn,<-hl,rv.length]) WV λh' hx=>?_;have I1:Inv X Wz Y H {s with heap:=h'}:=I.kept (t':=s.toks) λb o e=>hx b o (dQ (dE e)) e;exact h Wz _ Y H xs _ Q I1 (by simpa using rv) hw
def Vz(to ti:TE)(t:Q5):TG:=λv Y H Q=>to Y H λo H1=>ti Y H1 λi H2=>t o i v H2 λH3=>Q Y H3
def QD(ho:PE X o to)(hi:PE X i ti)(hs:Ub X t) (ha:∀v,assign (.Subscript o i pos) X.env v=(do
   let ov<-xz [v] (wp o X.env);let iv<-xz [v,ov] (wp i X.env)
   ZU pos
   xz [v,ov,iv] (setItem ov iv v)
   release [v,ov,iv] []):=by intro _;rfl):PG X (.Subscript o i pos) (Vz to ti t):=by
 intro Wz s Y H v u Q I r h;rw[ha];refine cW (ft (sy (ho Wz s Y H _ I h) λov s1 zz=>x5 zz λx H1 I1 r1 q1=>?_));refine cW (ft (sy (hi Wz s1 Y H1 _ I1 q1) λiv s2 zz=>x5 zz λy H2 I2 r2 q2=>?_));refine cW (ii (cW (ft (sy (hs Wz s2 Y H2 x y v ov iv u _ I2 r1 r2 r q2) λ_ s3 ⟨H3,I3,q3⟩=>?_))));exact wpAny_release ⟨Y,H3,I3,q3⟩
def SJ(te:TE)(g:TG):TS:=λD Y H=>te Y H λx H1=>g x Y H1 D.nx
def SG(he:PE X e te)(hg:PG X tg g)(hs:swapsWithSole [tg] e pos.line X.env=pure lf:=by rfl)(hw:swappedStores [tg] e X.env=pure Db:=by rfl)
  (h1:(ZO [tg] X.env).map (·.2)=[assign tg X.env]:=by rfl):PS X (.Assign [tg] e pos) (SJ te g):=by
 intro Wz s Y H D I h;refine wpAny_Assign_stores (sy (he Wz s Y H _ I h) λv s1 zz=>x5 zz λx H1 I1 r1 q1=>?_) hs hw;rw[h1];exact sy (hg Wz s1 Y H1 x v _ I1 r1 q1) λ_ s2 q=>q
def SD{i:Nat}{x:Str}(hN:X.N.Nodup)(hi:X.N[i]?=Fa x)(hx:Nq X.env.scope x)(he:PE X e te)(hs:TD e (Fa (.Name x WL)) pos.line X.env=pure lf:=by rfl)(hf:Ln X x:=by first|exact .inl rfl|exact .inr rfl|assumption):
  PS X (.Assign [.Name x WL] e pos) (SJ te (LM i)):=by
 intro Wz s Y H D I h;refine wpAny_Assign_Name (sy (he Wz s Y H _ I h) λv s1 zz=>x5 zz λy H1 I1 r1 q1=>?_) hs;exact FH I1 hN hi hx r1 (λs2 I2=>⟨_,H1,I2,q1⟩) hf
def Rl(c:TT)(tb:TS):TS:=λD Y H=>∃W:Nat->St->Hp->Prop,(∃m,W m Y H)/\∀m Y H,W m Y H->
 c Y H λb H1=>if b=pc then ∃N:St->Hp->Prop,(∀σ' H',N σ' H'->∃m',m'<m/\W m' σ' H')/\tb {D with nx:=N,ct:=N,bk:=D.nx} Y H1 else D.nx Y H1
def MS{tb:TS}(hp:PassesOwn (Tk X.prog X.w) X.A X.env X.xe)(hc:PT X c tc)(hb:Bz X body tb):PS X (.While c body [] pos) (Rl tc tb):=by
 intro Wz s Y H D I h;obtain⟨W,⟨m0,w0⟩,turn⟩:=h;refine wpAny_While (codeAny_whileLoop (λn s'=>∃σ' H',Inv X Wz σ' H' s'/\W n σ' H') ?_ m0 ⟨Y,H,I,w0⟩)
 rintro n s1 ⟨σ1,H1,I1,w1⟩
 refine gG hp (sy (hc Wz s1 σ1 H1 _ I1 (turn n σ1 H1 w1)) λb s2 ⟨H2,I2,q2⟩=>?_);cases b with
 | true=>
  obtain⟨N,hN,q2⟩:=q2;rw[dh rfl];refine gG hp (sy (hb Wz s2 σ1 H2 _ I2 q2) λf s3 q3=>?_);cases f with
  | next=>obtain⟨σ3,H3,I3,n3⟩:=q3;obtain⟨m',hm,w3⟩:=hN σ3 H3 n3;exact⟨m',hm,σ3,H3,I3,w3⟩
  | cont=>obtain⟨σ3,H3,I3,n3⟩:=q3;obtain⟨m',hm,w3⟩:=hN σ3 H3 n3;exact⟨m',hm,σ3,H3,I3,w3⟩
  | brk=>exact q3
  | ret v=>exact q3
 | false=>rw[de dC];exact gT ⟨σ1,H2,I2,q2⟩
structure It where
 go:Nat->Hp->Prop
 oQ:Nat->Hp->V->Hp->Prop
 stop:Nat->Hp->Prop
def zN(X:Cx)(Wz:QQY)(H:Hp)(b:Uf):Prop:=
 H b=Db/\b≠X.env.locals/\b∉X.fs/\(b∈X.ex\/X.s₀.heap.objs.size<=b)/\(∀x c,X.env.cells.lookup x=Fa c->c≠b)/\∀p∈X.pn++Wz,p.1≠b
def Inv.nP{Wz:QQY}{H H':Hp}{b:Uf}(I:Inv X Wz Y H s)(hb:s.heap.objs.size<=b)(hn:H' b=Db):zN X Wz H' b:=by
 refine⟨hn,gC (dS I.lt hb),I.oH hb,.inr (eh I.sz hb),λx c e z=>?_,λp hp z=>?_⟩
 .obtain⟨v,q⟩:=I.cell x c e;exact absurd (dS q.lt (by rw[z];exact hb)) (eX _)
 .exact absurd (dS (dE (I.pin p hp).1) (by rw[z];exact hb)) (eX _)
structure E5(P:Pg)(w:Wo)(K:qp)(tg:Go)(J:It)(fp:QXQ)(it:Uf)(tn:Nat->No->Prop):Prop where
 mem:it∈fp
 obj:∀i h,tn i h->∀b∈fp,∃o,h.get? b=Fa o/\∀v,o.data≠.cell v
 keep:∀i h h',tn i h->(∀b∈fp,∀o,h.get? b=Fa o->h'.get? b=Fa o)->tn i h'
 item:∀(X:Cx),X.prog=P->X.w=w->X.K=K->X.calm=pc->∀(i:Nat) (Wz:QQY) (s:Sd) (Y:St) (H:Hp) (E:QQX),Inv X Wz Y H s->(∀b∈fp,zN X Wz H b)->tn i s.heap->J.go i H->
  pi (Tk P w) X.A (pyNext (.ref it)) (λr s1=>∃u,r=Fa u/\
   pi (Tk P w) X.A (ZY tg (.ref it) u) (λ_ s2=>∃x H',Inv X Wz Y H' s2/\qH x u/\J.oQ i H x H'/\tn (i+1) s2.heap/\∀b∈fp,H' b=Db) E s1) E s
 done:∀(X:Cx),X.prog=P->X.w=w->X.K=K->X.calm=pc->∀(i:Nat) (Wz:QQY) (s:Sd) (Y:St) (H:Hp) (E:QQX),Inv X Wz Y H s->(∀b∈fp,zN X Wz H b)->tn i s.heap->J.stop i H->
  pi (Tk P w) X.A (pyNext (.ref it)) (λr s1=>r=Db/\Inv X Wz Y H s1) E s
 self:∀(A:Ar) (i:Nat) (s:Sd) (Q:QQX) (E:QQX),tn i s.heap->Q (.ref it) s->pi (Tk P w) A (pyIter (.ref it)) Q E s
abbrev TI:=St->Hp->(It->Hp->Prop)->Prop
def VY(X:Cx)(Wz:QQY)(Y:St)(tg:Go)(R:It->Hp->Prop)(itv:Vl)(s2:Sd):Prop:=
 ∃(it:Uf) (fp:QXQ) (tn:Nat->No->Prop) (J:It) (H':Hp),itv=.ref it/\Inv X Wz Y H' s2/\E5 X.prog X.w X.K tg J fp it tn/\tn 0 s2.heap/\(∀b∈fp,zN X Wz H' b)/\R J H'
def PI(X:Cx)(tg iter:Go)(wi:TI):Prop:=
 ∀(Wz:QQY) (s:Sd) (Y:St) (H:Hp) (R:It->Hp->Prop),Inv X Wz Y H s->wi Y H R->
  pi (Tk X.prog X.w) X.A (wp iter X.env) (λv s1=>pi (Tk X.prog X.w) X.A (pyIter v) (VY X Wz Y tg R) X.xe s1) X.xe s
def H9{M:Model}{A:Ar}{E:QQX}{s:Sd}{tg:Go}{it:Uf}{u:Vl}{o:Obj}{n:String}{vs:Array Vl}{Q:Unit->Sd->Prop}(ho:s.heap.get? it=Fa o)(hc:o.cls=.type n)(hd:o.data=.fields vs) (hn:["enumerate","zip","dict_itemiterator","dict_reverseitemiterator","odict_iterator","itertools.zip_longest","itertools.pairwise"].contains n=lf) (hQ:Q () s):pi M A (ZY tg (.ref it) u) Q E s:=by
  unfold ZY;cases tg<;>first
    | exact dz hQ
    | (cases u<;>first
        | exact dz hQ
        | (refine cW (wpAny_load ho ?_)
           rw[hc,hd];show pi M A (if (["enumerate","zip","dict_itemiterator","dict_reverseitemiterator","odict_iterator","itertools.zip_longest","itertools.pairwise"].contains n&&vs[0]?==Fa (wT _))=pc then _ else _) Q E s;rw[de (by intro h;rw[hn,eW]at h;cases h)];exact dz hQ))
def UG(K:qp)(a:Uf):It:=
 ⟨λi H=>∃xs x,w9 K H a xs/\xs[i]?=Fa x,λi H x H'=>H'=H/\∀xs,w9 K H a xs->xs[i]?=Fa x,λi H=>∃xs,w9 K H a xs/\xs.length<=i⟩
def Vd(K:qp)(a:Uf):It:=
 ⟨λi H=>∃xs x,ve K H a xs/\xs[i]?=Fa x,λi H x H'=>H'=H/\∀xs,ve K H a xs->xs[i]?=Fa x,λi H=>∃xs,ve K H a xs/\xs.length<=i⟩
def UO(lo:Int)(n:Nat):It:=⟨λi _=>i<n,λi H x H'=>H'=H/\x=.int (lo+i),λi _=>n<=i⟩
def Km{K:qp}(a it:Uf):E5 P w K tg (UG K a) [it] it (λi h=>h.IsListIter it a i) where
 mem:=by simp
 obj:=λi h st b hb=>by
  have e:b=it:=by simpa using hb
  subst e;obtain⟨o,e,c,d⟩:=st;exact⟨o,e,λv z=>by rw[d]at z;cases z⟩
 keep:=λi h h' st k=>st.at λo e=>k it (by simp) o e
 item:=by intro X hP hw hK hc i Wz s Y H E I hf st hg;subst hP hw hK;obtain⟨xs,x,hq,hx⟩:=hg;obtain⟨its,rv,p,hz⟩:=I.list hq;obtain⟨u,hu,ru⟩:=rv.get hx;obtain⟨f0,f1,f2,f3,f4,f5⟩:=hf it (by simp);refine wpAny_pyNext_list_item st p.isList (x:=u) (by simpa using hu) λh' X0 sb=>?_;have I1:Inv X Wz Y H {s with heap:=h'}:=I.turned (t':=s.toks) (λb o hb e=>(sb.2 b hb).trans e) f0 f1 f3 f4 f5;obtain⟨o,e,c,d⟩:=id X0;exact⟨u,rfl,H9 (s:={s with heap:=h'}) e c d (by decide) ⟨x,H,I1,ru,⟨rfl,λys hy=>by rw[I.nu hy hq];exact hx⟩,X0,λb hb=>(hf b hb).1⟩⟩
 done:=by intro X hP hw hK hc i Wz s Y H E I hf st hg;subst hP hw hK;obtain⟨xs,hq,hx⟩:=hg;obtain⟨its,rv,p,hz⟩:=I.list hq;obtain⟨f0,f1,f2,f3,f4,f5⟩:=hf it (by simp);have hl:=rv.length;exact wpAny_pyNext_list_end (I.ok.hd hc) st p.isList (by simp;omega) λh' eb=>⟨rfl,I.turned (t':=s.toks) (λb o hb e=>eb b o hb e) f0 f1 f3 f4 f5⟩
 self:=λ_ _ _ _ _ st h=>wpAny_pyIter_listiter st h
def Ha{K:qp}(a it:Uf):E5 P w K tg (Vd K a) [it] it (λi h=>h.IsTupleIter it a i) where
 mem:=by simp
 obj:=λi h st b hb=>by
  have e:b=it:=by simpa using hb
  subst e;obtain⟨o,e,c,d⟩:=st;exact⟨o,e,λv z=>by rw[d]at z;cases z⟩
 keep:=λi h h' st k=>st.at λo e=>k it (by simp) o e
 item:=by intro X hP hw hK hc i Wz s Y H E I hf st hg;subst hP hw hK;obtain⟨xs,x,hq,hx⟩:=hg;obtain⟨its,rv,p,hz⟩:=I.tuple hq;obtain⟨u,hu,ru⟩:=rv.get hx;obtain⟨f0,f1,f2,f3,f4,f5⟩:=hf it (by simp);refine wpAny_pyNext_tuple_item st (show s.heap.IsTuple a its.toArray from p) (x:=u) (by simpa using hu) λh' X0 sb=>?_;have I1:Inv X Wz Y H {s with heap:=h'}:=I.turned (t':=s.toks) (λb o hb e=>(sb.2 b hb).trans e) f0 f1 f3 f4 f5;obtain⟨o,e,c,d⟩:=id X0;exact⟨u,rfl,H9 (s:={s with heap:=h'}) e c d (by decide) ⟨x,H,I1,ru,⟨rfl,λys hy=>by rw[I.ng hy hq];exact hx⟩,X0,λb hb=>(hf b hb).1⟩⟩
 done:=by intro X hP hw hK hc i Wz s Y H E I hf st hg;subst hP hw hK;obtain⟨xs,hq,hx⟩:=hg;obtain⟨its,rv,p,hz⟩:=I.tuple hq;obtain⟨f0,f1,f2,f3,f4,f5⟩:=hf it (by simp);have hl:=rv.length;exact wpAny_pyNext_tuple_end (I.ok.hd hc) st (show s.heap.IsTuple a its.toArray from p) (by simp;omega) λh' eb=>⟨rfl,I.turned (t':=s.toks) (λb o hb e=>eb b o hb e) f0 f1 f3 f4 f5⟩
 self:=λ_ _ _ _ _ st h=>wpAny_pyIter_tupleiter st h
def G8{K:qp}(it:Uf)(lo:Int)(n:Nat):E5 P w K tg (UO lo n) [it] it (λi h=>IsRangeIter h it (lo+(i:Nat)*1) ((n:Int) - (i:Nat)) 1) where
 mem:=by simp
 obj:=λi h st b hb=>by
  have e:b=it:=by simpa using hb
  subst e;exact⟨_,st,λv z=>by
   have z':Data.fields _=Data.cell v:=z;cases z'⟩
 keep:=λi h h' st k=>k it (by simp) _ st
 item:=by intro X hP hw hK hc i Wz s Y H E I hf st hg;subst hP hw hK;obtain⟨f0,f1,f2,f3,f4,f5⟩:=hf it (by simp);have W:=Walks.range (prog:=X.prog) (w:=X.w) (I.ok.hd hc) it lo 1 n;refine W.item i s _ _ hg st λv h' tk hv X0 kk=>?_;obtain⟨t,rfl⟩:=hv;have I1:Inv X Wz Y H {s with heap:=h',toks:=tk}:=I.turned (λb o hb e=>kk b o (by simpa using hb) e) f0 f1 f3 f4 f5;refine⟨_,rfl,H9 (s:={s with heap:=h',toks:=tk}) (n:="range_iterator") X0 rfl rfl (by decide) ⟨.int (lo+i),H,I1,⟨t,?_⟩,⟨rfl,rfl⟩,X0,λb hb=>(hf b hb).1⟩⟩;rw[Int.mul_one]
 done:=by intro X hP hw hK hc i Wz s Y H E I hf st hg;subst hP hw hK;obtain⟨f0,f1,f2,f3,f4,f5⟩:=hf it (by simp);exact wpAny_pyNext_range_end (I.ok.hd hc) st (by have:n<=i:=hg;omega) λh' eb=>⟨rfl,I.turned (t':=s.toks) (λb o hb e=>eb b o hb e) f0 f1 f3 f4 f5⟩
 self:=λ_ _ _ _ _ st h=>wpAny_pyIter_rangeiter st h
variable {tg:Go}
def Np{Wz:QQY}{R:It->Hp->Prop}{E:QQX}{lo hi:Int}{t u v:Tok}{tk:Nat}(I:Inv X Wz Y H s)(h1:-(2 ^ 62)<=lo)(h2:lo<2 ^ 62)(h3:-(2 ^ 62)<=hi)(h4:hi<2 ^ 62) (q:R (UO lo (hi - lo).toNat) H):pi (Tk X.prog X.w) X.A (pyIter (.ref s.heap.objs.size)) (VY X Wz Y tg R) E {s with heap:=s.heap.push {cls:=.type "range",data:=.fields #[.int lo t,.int hi u,.int 1 v]},toks:=tk}:=by
 refine wpAny_pyIter_range (IsRange.new ..) (small_one h1 h2 h3 h4) ?_;have I1:Inv X Wz Y H {s with heap:=s.heap.push {cls:=.type "range",data:=.fields #[.int lo t,.int hi u,.int 1 v]},toks:=tk}:=I.kept λb o e=>df _ e;refine⟨(s.heap.push {cls:=.type "range",data:=.fields #[.int lo t,.int hi u,.int 1 v]}).objs.size,[(s.heap.push {cls:=.type "range",data:=.fields #[.int lo t,.int hi u,.int 1 v]}).objs.size],_,_,H,rfl,I1.kept (t':=tk) λb o e=>df _ e,G8 _ lo (hi - lo).toNat,?_,λb hb=>?_,q⟩
 .have e1:lo+((0:Nat):Int)*1=lo:=by simp
  have e2:(((hi - lo).toNat:Nat):Int) - ((0:Nat):Int)=Builtin.Range.rangeSize lo hi 1:=by rw[rangeSize_one];split<;>omega
  show IsRangeIter _ _ (lo+((0:Nat):Int)*1) ((((hi - lo).toNat:Nat):Int) - ((0:Nat):Int)) 1;rw[e1,e2];exact dI _ rfl
 .have e:b=(s.heap.push {cls:=.type "range",data:=.fields #[.int lo t,.int hi u,.int 1 v]}).objs.size:=by simpa using hb
  subst e;exact I1.nP (dw _) (I1.mQ.fresh (dw _))
def Ua(ta:TA):TI:=λY H R=>ta Y H λvs H1=>∃j:Int,vs=[.int j]/\-(2 ^ 62)<=j/\j<2 ^ 62/\R (UO 0 j.toNat) H1
def Kt{a:Go}{ta:TA}(hg:Gl X "range")(hm:X.mg "range"=Db)(ha:PA X [a] ta)(hs:Tl [a] X.env=[(lf,wp a X.env)]:=by rfl):PI X tg (.Call (.Name "range" p) [a] [] pos) (Ua ta):=by
 intro Wz s Y H R I h;refine Call_ (xb I hg hm boot_range (fP (sy (ha pos Wz s Y H _ I h) λus s1 zz=>x5 zz λvs H1 I1 r1 q1=>?_) hs rfl));obtain⟨j,e,q1,q2,q⟩:=q1;subst e;cases r1 with
 | cons r rr=>cases rr;obtain⟨t,rfl⟩:=r;exact call_range_1 (Np I1 (by omega) (by omega) q1 q2 (by simpa using q))
def Vg(wi:TI)(g:TG)(tb:TS):TS:=λD Y H=>wi Y H λJ H1=>∃W:Nat->Nat->St->Hp->Prop,(∃m,W 0 m Y H1)/\∀i m Y H,W i m Y H->
 (J.stop i H/\D.nx Y H)\/(J.go i H/\∃N:St->Hp->Prop,(∀σ' H',N σ' H'->∃m',m'<m/\W (i+1) m' σ' H')/\∀x H',J.oQ i H x H'->g x Y H' λσ2 H2=>tb {D with nx:=N,ct:=N,bk:=D.nx} σ2 H2)
def Ce(fp:QXQ)(h:No):QQY:=fp.filterMap λb=>(h.get? b).map λo=>(b,o)
def vm{fp:QXQ}{h:No}{b:Uf}{o:Obj}(hb:b∈fp)(e:h.get? b=Fa o):(b,o)∈Ce fp h:=kK.mpr ⟨b,hb,by rw[e];rfl⟩
def Ki{p:Uf×Obj}(hp:p∈Ce fp h):p.1∈fp/\h.get? p.1=Fa p.2:=by
 obtain⟨b,hb,e⟩:=kK.mp hp;cases q:h.get? b with
 | none=>rw[q]at e;cases e
 | some o=>rw[q]at e;have e':(b,o)=p:=dv e;subst e';exact⟨hb,q⟩
def Inv.pinned{Wz:QQY}{fp:QXQ}(I:Inv X Wz Y H s)(hf:∀b∈fp,zN X Wz H b)(ho:∀b∈fp,∃o,s.heap.get? b=Fa o/\∀v,o.data≠.cell v):Inv X (Wz++Ce fp s.heap) Y H s:=
 I.nM λp hp=>(dR.mp hp).elim (λz=>I.pin p (eF _ z)) λz=>by obtain⟨hb,e⟩:=Ki z;obtain⟨f0,f1,f2,_⟩:=hf p.1 hb;obtain⟨o,e',d⟩:=ho p.1 hb;rw[e]at e';cases e';exact⟨e,f0,f1,f2,d⟩
def Inv.mW{Wz pl:QQY}(I:Inv X (Wz++pl) Y H s):Inv X Wz Y H s:=I.nM λp hp=>I.pin p (eF _ (fF _ hp))
def Ri{tb:TS}(hp:PassesOwn (Tk X.prog X.w) X.A X.env X.xe)(hc:X.calm=pc)(hi:PI X tg iter wi)(hg:PG X tg g)(hb:Bz X body tb) (hs:∀x,ZR iter X.env x=pure x:=by intro _;rfl):PS X (.For tg iter body [] pos) (Vg wi g tb):=by
 intro Wz s Y H D I h;refine wpAny_For (sy (hi Wz s Y H _ I h) λv s1 h1=>sy h1 λitv s2 h2=>?_) hs;obtain⟨it,fp,tn,J,H2,e,I2,T,WW,f2,W,⟨m0,w0⟩,turn⟩:=h2;subst e;have XQ:∀{H':Hp},(∀b∈fp,H' b=Db)->∀b∈fp,zN X Wz H' b:=λhn b hb=>⟨hn b hb,(f2 b hb).2⟩;refine codeAny_forLoop_any (λn s'=>∃i σ' H',Inv X Wz σ' H' s'/\tn i s'.heap/\(∀b∈fp,H' b=Db)/\W i n σ' H') ?_ m0 ⟨0,Y,H2,I2,WW,λb hb=>(f2 b hb).1,w0⟩
 rintro n s3 ⟨i,σ3,H3,I3,Xm,fr3,w3⟩
 rcases turn i n σ3 H3 w3 with⟨stop,qn⟩|⟨go,N,hN,step⟩
 .refine gG hp (sy (T.done X rfl rfl rfl hc i Wz s3 σ3 H3 X.xe I3 (XQ fr3) Xm stop) λr s4 ⟨hr,I4⟩=>?_);subst hr;exact gT ⟨σ3,H3,I4,qn⟩
 .refine gG hp (sy (T.item X rfl rfl rfl hc i Wz s3 σ3 H3 X.xe I3 (XQ fr3) Xm go) λr s4 ⟨u,hr,h4⟩=>?_);subst hr;refine gG hp (sy h4 λ_ s5 zz=>?_);obtain⟨x,H5,I5,r5,y5,Y3,fr5⟩:=zz;have I5':=I5.pinned (XQ fr5) (T.obj _ _ Y3);refine gG hp (sy (hg _ s5 σ3 H5 x u _ I5' r5 (step x H5 y5)) λ_ s6 ⟨σ6,H6,I6,q6⟩=>?_);refine gG hp (sy (hb _ s6 σ6 H6 _ I6 q6) λf s7 q7=>?_);have again:∀{σ7:St} {H7:Hp},Inv X (Wz++Ce fp s5.heap) σ7 H7 s7->N σ7 H7->∃m,m<n/\∃i σ' H',Inv X Wz σ' H' s7/\tn i s7.heap/\(∀b∈fp,H' b=Db)/\W i m σ' H':=λ{σ7 H7} I7 n7=>by obtain⟨m',hm,w7⟩:=hN σ7 H7 n7;refine⟨m',hm,i+1,σ7,H7,I7.mW,T.keep _ _ _ Y3 λb hb o e=>(I7.pin (b,o) (eF _ (eF _ (vm hb e)))).1,λb hb=>?_,w7⟩;obtain⟨o,e,d⟩:=T.obj _ _ Y3 b hb;exact(I7.pin (b,o) (eF _ (eF _ (vm hb e)))).2.1
  cases f with
  | next=>obtain⟨σ7,H7,I7,n7⟩:=q7;exact again I7 n7
  | cont=>obtain⟨σ7,H7,I7,n7⟩:=q7;exact again I7 n7
  | brk=>obtain⟨σ7,H7,I7,q7⟩:=q7;exact⟨σ7,H7,I7.mW,q7⟩
  | ret v=>obtain⟨x7,σ7,H7,I7,r7,q7⟩:=q7;exact⟨x7,σ7,H7,I7.mW,r7,q7⟩
abbrev R2:=V->V->Hp->VK->Prop
def xq(X:Cx)(f:Vl->Vl->Sem Vl)(r:R2):Prop:=
 ∀(Wz:QQY) (s:Sd) (Y:St) (H:Hp) (x y:V) (v u:Vl) (Q:VK),Inv X Wz Y H s->qH x v->qH y u->r x y H Q->
  pi (Tk X.prog X.w) X.A (f v u) (EP X Wz Y Q) X.xe s
def Vk(X:Cx)(f:Vl->Sem Vl)(r:V->Hp->VK->Prop):Prop:=
 ∀(Wz:QQY) (s:Sd) (Y:St) (H:Hp) (x:V) (v:Vl) (Q:VK),Inv X Wz Y H s->qH x v->r x H Q->
  pi (Tk X.prog X.w) X.A (f v) (EP X Wz Y Q) X.xe s
def yq(X:Cx)(f:Vl)(r:T0 V->Hp->VK->Prop):Prop:=
 ∀(Wz:QQY) (s:Sd) (Y:St) (H:Hp) (xs:T0 V) (us:T0 Vl) (Q:VK),Inv X Wz Y H s->qA xs us->r xs H Q->
  pi (Tk X.prog X.w) X.A (call f us) (EP X Wz Y Q) X.xe s
def Uo(r:R2)(ta tb:TE):TE:=λY H Q=>ta Y H λx H1=>tb Y H1 λy H2=>r x y H2 Q
def Wn(r:V->Hp->VK->Prop)(ta:TE):TE:=λY H Q=>ta Y H λx H1=>r x H1 Q
def rI(C:Int->Int->Prop)(g:Int->Int->V):R2:=λx y H Q=>∃i j,x=.int i/\y=.int j/\C i j/\Q (g i j) H
def Qk(g:Int->Int->V):R2:=λx y H Q=>∃i j,x=.int i/\y=.int j/\Q (g i j) H
def rU(g:Int->V):V->Hp->VK->Prop:=λx H Q=>∃i,x=.int i/\Q (g i) H
variable {tc:TE}
section
variable {a b c:Go}
def So(ha:PE X a ta)(hb:PE X b tb){Wz:QQY}{s:Sd}{Y:St}{H:Hp}{R:V->V->Hp->Prop}(I:Inv X Wz Y H s) (h:ta Y H λx H1=>tb Y H1 λy H2=>R x y H2) {Q:QQX} {f:Vl->Vl->Sem Vl} (hf:∀v u s2 x y H2,Inv X Wz Y H2 s2->qH x v->qH y u->R x y H2->pi (Tk X.prog X.w) X.A (f v u) Q X.xe s2):
  pi (Tk X.prog X.w) X.A (wp a X.env) (λv s₁=>pi (Tk X.prog X.w) X.A (wp b X.env) (λu s₂=>pi (Tk X.prog X.w) X.A (f v u) Q X.xe s₂) X.xe s₁) X.xe s:=by
 refine sy (ha Wz s Y H _ I h) λv s1 zz=>x5 zz λx H1 I1 r1 q1=>?_;refine sy (hb Wz s1 Y H1 _ I1 q1) λu s2 zz=>x5 zz λy H2 I2 r2 q2=>?_;exact hf v u s2 x y H2 I2 r1 r2 q2
def Qz{op:Z2}(ho:xq X (ZP op) r)(ha:PE X a ta)(hb:PE X b tb):PE X (.BinOp a op b pos) (Uo r ta tb):=by intro Wz s Y H Q I h;exact wpAny_BinOp (So ha hb I h λv u s2 x y H2 I2 rx ry q=>ho Wz s2 Y H2 x y v u Q I2 rx ry q)
def TF{op:UnaryOp}(ho:Vk X (unaryOp op) r)(ha:PE X a ta):PE X (.UnaryOp op a pos) (Wn r ta):=by intro Wz s Y H Q I h;exact UnaryOp_ (sy (ha Wz s Y H _ I h) λv s1 zz=>x5 zz λx H1 I1 r1 q1=>ho Wz s1 Y H1 x v Q I1 r1 q1)
def Vm{f:Vl->Vl->Sem Vl}{C:Int->Int->Prop}{g:Int->Int->Int} (rule:∀(i j:Int) (t u:Tok) (s:Sd) (Q:QQX) (E:QQX),C i j->Q (.int (g i j) s.toks) {s with toks:=s.toks+1}->pi (Tk X.prog X.w) X.A (f (.int i t) (.int j u)) Q E s):
  xq X f (rI C λi j=>.int (g i j)):=by
 intro Wz s Y H x y v u Q I rx ry h;obtain⟨i,j,rfl,rfl,hc,q⟩:=h;obtain⟨t,rfl⟩:=rx;obtain⟨t',rfl⟩:=ry;exact rule i j t t' s _ _ hc ⟨.int (g i j),H,I.tok _,⟨_,rfl⟩,q⟩
def Tc{f:Vl->Vl->Sem Vl}{g:Int->Int->Int} (rule:∀(i j:Int) (t u:Tok) (s:Sd) (Q:QQX) (E:QQX),Q (.int (g i j) s.toks) {s with toks:=s.toks+1}->pi (Tk X.prog X.w) X.A (f (.int i t) (.int j u)) Q E s):
  xq X f (Qk λi j=>.int (g i j)):=by
 intro Wz s Y H x y v u Q I rx ry h;obtain⟨i,j,rfl,rfl,q⟩:=h;obtain⟨t,rfl⟩:=rx;obtain⟨t',rfl⟩:=ry;exact rule i j t t' s _ _ ⟨.int (g i j),H,I.tok _,⟨_,rfl⟩,q⟩
def N8{f:Vl->Vl->Sem Vl}{g:Int->Int->Bool} (rule:∀(i j:Int) (t u:Tok) (s:Sd) (Q:QQX) (E:QQX),Q (.bool (g i j)) s->pi (Tk X.prog X.w) X.A (f (.int i t) (.int j u)) Q E s):
  xq X f (Qk λi j=>.bl (g i j)):=by
 intro Wz s Y H x y v u Q I rx ry h;obtain⟨i,j,rfl,rfl,q⟩:=h;obtain⟨t,rfl⟩:=rx;obtain⟨t',rfl⟩:=ry;exact rule i j t t' s _ _ ⟨.bl (g i j),H,I,rfl,q⟩
def TN(i j:Int):Prop:=0<j/\j<1073741824
def CZ(i j:Int):Prop:=(-(2 ^ 64)<i/\i<2 ^ 64)\/(-(2 ^ 64)<j/\j<2 ^ 64)
def CZ.ok(h:CZ i j):IntMulOk i j:=by
 rcases h with⟨h1,h2⟩|⟨h1,h2⟩
 .exact .of_left (intBits_le_64 h1 h2)
 .exact .of_right (intBits_le_64 h1 h2)
def Rq:xq X (ZP .Add) (Qk λi j=>.int (i+j)):=Tc λ_ _ _ _ _ _ _ q=>add_int q
def QY:xq X (ZP .Sub) (Qk λi j=>.int (i - j)):=Tc λ_ _ _ _ _ _ _ q=>sub_int q
def RK:xq X (ZP .Mult) (rI CZ λi j=>.int (i*j)):=Vm λ_ _ _ _ _ _ _ hc q=>mul_int q hc.ok
def OP:xq X (ZP .FloorDiv) (rI TN λi j=>.int (i / j)):=Vm λi j _ _ _ _ _ hc q=>by have h1:(0:Int)<j:=hc.1;have h2:j<1073741824:=hc.2;exact floordiv_int (by omega) (by rw[Int.fdiv_eq_ediv_of_nonneg i (by omega)];exact q) (.inl (PyProof.noPylong_small (by omega)))
def RL:xq X (ZP .Mod) (rI (λ_ j=>0<j) λi j=>.int (i % j)):=Vm λi j _ _ _ _ _ hc q=>by have h1:(0:Int)<j:=hc;exact mod_int' (by omega) (by rw[Int.fmod_eq_emod_of_nonneg i (by omega)];exact q)
def Wg{f:Vl->Sem Vl}{g:Int->Int} (rule:∀(i:Int) (t:Tok) (s:Sd) (Q:QQX) (E:QQX),Q (.int (g i) s.toks) {s with toks:=s.toks+1}->pi (Tk X.prog X.w) X.A (f (.int i t)) Q E s):
  Vk X f (rU λi=>.int (g i)):=by
 intro Wz s Y H x v Q I rx h;obtain⟨i,rfl,q⟩:=h;obtain⟨t,rfl⟩:=rx;exact rule i t s _ _ ⟨.int (g i),H,I.tok _,⟨_,rfl⟩,q⟩
def RQ:Vk X (unaryOp .USub) (rU λi=>.int (-i)):=Wg λ_ _ _ _ _ q=>neg_int q
end
section
variable {a b c:Go}
def Hu{Wz:QQY}{Q:VK}{k k':Bool}(I:Inv X Wz Y H s)(q:Q (.bl k) H)(e:k=k'):EP X Wz Y Q (.bool k') s:=by subst e;exact⟨.bl k,H,I,rfl,q⟩
def T9:xq X (Op .Lt) (Qk λi j=>.bl (decide (i<j))):=N8 λ_ _ _ _ _ _ _ q=>lt_int q
def Te:xq X (Op .LtE) (Qk λi j=>.bl (decide (i<=j))):=N8 λ_ _ _ _ _ _ _ q=>le_int q
def Uy:xq X (Op .Gt) (Qk λi j=>.bl (decide (j<i))):=N8 λ_ _ _ _ _ _ _ q=>gt_int q
def T5:xq X (Op .GtE) (Qk λi j=>.bl (decide (j<=i))):=N8 λ_ _ _ _ _ _ _ q=>ge_int q
def JH:xq X (Op .In) (λx y H Q=>∃i j,x=.str i/\y=.str j/\Q (.bl (!(Builtin.Str.occurrences j i 0 j.length 1).isEmpty)) H):=by intro Wz s Y H x y v u Q I rx ry h;obtain⟨i,j,rfl,rfl,q⟩:=h;obtain⟨t,rfl⟩:=rx;obtain⟨t',rfl⟩:=ry;exact in_str (Hu I q rfl)
def QL:xq X (Op .Is) (λx y H Q=>y=.mL/\Q (.bl (decide (x=.mL))) H):=by
 intro Wz s Y H x y v u Q I rx ry h;obtain⟨rfl,q⟩:=h;cases ry;refine is_none_gen (Hu I q ?_);cases x<;>first
  | (cases rx;rfl)
  | (obtain⟨t,rfl⟩:=rx;rfl)
def Oa:xq X (Op .IsNot) (λx y H Q=>y=.mL/\Q (.bl (!decide (x=.mL))) H):=by
 intro Wz s Y H x y v u Q I rx ry h;obtain⟨rfl,q⟩:=h;cases ry;refine isnot_none_gen (Hu I q ?_);cases x<;>first
  | (cases rx;rfl)
  | (obtain⟨t,rfl⟩:=rx;rfl)
def Fz(b:Go){op:CmpOp}(h:op≠.In:=by decide)(h2:op≠.NotIn:=by decide):wE op b=lf:=by
 have e1:(op==CmpOp.In)=lf:=by cases op<;>first|rfl|exact absurd rfl h
 have e2:(op==CmpOp.NotIn)=lf:=by cases op<;>first|rfl|exact absurd rfl h2
 cases b<;>simp[wE,e1,e2]
def II{op:CmpOp}(ho:xq X (Op op) r)(ha:PE X a ta)(hb:PE X b tb)(hm:wE op b=lf):PE X (.Compare a [op] [b] pos) (Uo r ta tb):=by intro Wz s Y H Q I h;exact wpAny_Compare1 (So ha hb I h λv u s2 x y H2 I2 rx ry q=>ho Wz s2 Y H2 x y v u Q I2 rx ry q) hm
def Ql(t:TE):TT:=λY H Q=>t Y H λx H'=>∃k,x=.bl k/\Q k H'
def Fu{op:CmpOp}(ho:xq X (Op op) r)(ha:PE X a ta)(hb:PE X b tb)(hm:wE op b=lf):PT X (.Compare a [op] [b] pos) (Ql (Uo r ta tb)):=by
 intro Wz s Y H Q I h;refine wpAny_isTrue_Compare1 (sy (ha Wz s Y H _ I h) λv s1 zz=>x5 zz λx H1 I1 r1 q1=>sy (hb Wz s1 Y H1 _ I1 q1) λu s2 zz=>x5 zz λy H2 I2 r2 q2=>
  sy (ho Wz s2 Y H2 x y v u _ I2 r1 r2 q2) λc s3 zz=>?_) hm
 obtain⟨z,H3,I3,r3,k,e,q3⟩:=zz;subst e;cases r3;exact fu ⟨H3,I3,q3⟩
def MP(r r':R2)(ta tb tc:TE):TE:=λY H Q=>ta Y H λx H1=>tb Y H1 λy H2=>r x y H2 λz H3=>∃k,z=.bl k/\
 (if k=pc then tc Y H3 λw' H4=>r' y w' H4 Q else Q (.bl lf) H3)
def LP{op Xq:CmpOp}(ho:xq X (Op op) r)(Xg:xq X (Op Xq) r')(ha:PE X a ta)(hb:PE X b tb)(hc:PE X c tc) (hm:lastMarks [op,Xq] [b,c]=lf:=by with_unfolding_all rfl):PE X (.Compare a [op,Xq] [b,c] pos) (MP r r' ta tb tc):=by
 intro Wz s Y H Q I h;refine Compare_chain (sy (ha Wz s Y H _ I h) λv s1 zz=>x5 zz λx H1 I1 r1 q1=>chain_link (sy (hb Wz s1 Y H1 _ I1 q1) λu s2 zz=>x5 zz λy H2 I2 r2 q2=>
  sy (ho Wz s2 Y H2 x y v u _ I2 r1 r2 q2) λd s3 zz=>?_)) hm
 obtain⟨z,H3,I3,r3,k,e,q3⟩:=zz;subst e;cases r3;refine fu ?_;cases k with
 | false=>exact ite_ff ⟨.bl lf,H3,I3,rfl,q3⟩
 | true=>exact ite_tt (chain_last (sy (hc Wz s3 Y H3 _ I3 q3) λw' s4 zz=>x5 zz λz' H4 I4 r4 q4=>Xg Wz s4 Y H4 y z' u w' Q I4 r2 r4 q4))
def Lr{op Xq:CmpOp}(ho:xq X (Op op) r)(Xg:xq X (Op Xq) r')(ha:PE X a ta)(hb:PE X b tb)(hc:PE X c tc) (hm:lastMarks [op,Xq] [b,c]=lf:=by with_unfolding_all rfl):PT X (.Compare a [op,Xq] [b,c] pos) (Ql (MP r r' ta tb tc)):=by
 intro Wz s Y H Q I h;refine isTrue_chain (sy (ha Wz s Y H _ I h) λv s1 zz=>x5 zz λx H1 I1 r1 q1=>test_link (sy (hb Wz s1 Y H1 _ I1 q1) λu s2 zz=>x5 zz λy H2 I2 r2 q2=>
  sy (ho Wz s2 Y H2 x y v u _ I2 r1 r2 q2) λd s3 zz=>?_)) hm
 obtain⟨z,H3,I3,r3,k,e,q3⟩:=zz;subst e;cases r3;refine fu ?_;cases k with
 | false=>obtain⟨k',e',q'⟩:=q3;cases e';exact ite_ff ⟨H3,I3,q'⟩
 | true=>refine ite_tt (test_last (sy (hc Wz s3 Y H3 _ I3 q3) λw' s4 zz=>x5 zz λz' H4 I4 r4 q4=>sy (Xg Wz s4 Y H4 y z' u w' _ I4 r2 r4 q4) λd' s5 zz=>?_));obtain⟨z2,H5,I5,r5,k2,e2,q5⟩:=zz;subst e2;cases r5;exact fu ⟨H5,I5,q5⟩
def yH:(Ch:Nat)<2 ^ 63:=by rw[dP];decide
def Hq:xq X (ZP .Add) (λx y H Q=>∃i j,x=.str i/\y=.str j/\i.length+j.length<=Ch/\Q (.str (i++j)) H):=by intro Wz s Y H x y v u Q I rx ry h;obtain⟨i,j,rfl,rfl,hz,q⟩:=h;obtain⟨t,rfl⟩:=rx;obtain⟨t',rfl⟩:=ry;exact add_str (λt' tk=>⟨.str (i++j),H,I.tok _,⟨_,rfl⟩,q⟩) hz
def wA{x:V}(r:qA [x] us):∃u,us=[u]/\qH x u:=by
 cases r with
 | cons r1 r2=>cases r2;exact⟨_,rfl,r1⟩
def Io{x y:V}(r:qA [x,y] us):∃u w',us=[u,w']/\qH x u/\qH y w':=by
 cases r with
 | cons r1 r2=>
  cases r2 with
  | cons r3 r4=>cases r4;exact⟨_,_,rfl,r1,r3⟩
def Kn(hc:X.calm=pc):yq X (.builtin "min") (λxs H Q=>∃i j,xs=[.int i,.int j]/\Q (.int (if j<i then j else i)) H):=by
 intro Wz s Y H xs us Q I r h;obtain⟨i,j,rfl,q⟩:=h;obtain⟨u,w',rfl,⟨t,rfl⟩,⟨t',rfl⟩⟩:=Io r;refine min_two_ints (I.ok.hd hc) λh' tk k=>⟨_,H,I.kept k,?_,q⟩;by_cases hj:j<i
 .rw[dh hj,dh hj];exact⟨_,rfl⟩
 .rw[de hj,de hj];exact⟨_,rfl⟩
def Dm:yq X (.type "int") (λxs H Q=>(∃i,xs=[.int i]/\Q (.int i) H)\/∃k,xs=[.bl k]/\Q (.int (if k then 1 else 0)) H):=by
 intro Wz s Y H xs us Q I r h;rcases h with⟨i,rfl,q⟩|⟨k,rfl,q⟩
 .obtain⟨u,rfl,t,rfl⟩:=wA r;exact call_int_int ⟨.int i,H,I,⟨_,rfl⟩,q⟩
 .obtain⟨u,rfl,r1⟩:=wA r;cases r1;exact call_int_bool ⟨.int (if k then 1 else 0),H,I.tok _,⟨_,rfl⟩,q⟩
end
structure Hg(h:No)(x dx C:Uf)(mA:QQZ):Prop where
 obj:h.get? x=Fa (W.instObj C dx)
 ns:h.Ns1 dx mA
 ne:dx≠x
def Jn{h:No}{dx:Uf}{mA:QQZ}(n:h.Ns1 dx mA):∃od,h.get? dx=Fa od/\∀name,W.lookIn name od=Fa (mA name):=by
 obtain⟨o,es,ep,ho,hd,hk,_,hm⟩:=n;refine⟨o,ho,λname=>?_⟩;have e:=hm name;unfold nsFind findBy at e;rw[<-Array.find?_toList]at e;unfold W.lookIn;rw[hd];dsimp only;split
 .rename_i y q;rw[q]at e;exact eR Fa e
 .rename_i q;rw[q]at e;have a:es.toList.any (·.refKey)=lf:=by rw[k9];intro y hy;obtain⟨z,t,hkey⟩:=hk y (kc.mp hy);simp[DictEntry.refKey,hkey]
  have a':¬es.toList.any (·.refKey)=pc:=by rw[a];exact dC
  rw[de a'];exact eR Fa e
def Hg.look(I:Hg h x dx C mA):∃od,W.InstAt h x (W.instObj C dx) C (Fa od)/\∀name,W.lookIn name od=Fa (mA name):=
 let⟨od,ho,hl⟩:=Jn I.ns
 ⟨od,⟨I.obj,rfl,rfl,ho⟩,hl⟩
variable {prog:Pg}{A:Ar}{K:qp}{dx C:Uf}{mA:QQZ}{name:Str}
section
variable {w:Wo}{E:QQX}{x f:Uf}{v:Vl}
def PR{expr:Bool}{Q:QQX}(X:K.In s.heap)(I:Hg s.heap x dx C mA)(hg:W.plainGet K C name=pc)(hh:W.hasDictIn K C=pc) (ha:W.findIn K (.ref C) name=Fa Db) (hv:mA name=Fa v) (hv':W.handedIn v=pc) (h:Q v {s with toks:=s.toks+1}):
  pi (Tk prog w) A (getAttr (.ref x) name expr) Q E s:=by
 obtain⟨od,J,hl⟩:=I.look;exact W.get_value X J (kr hg).1 (W.findObj_own hh ha rfl (by rw[hl,hv])) hv' h
def K9{pl:Sem Bool}{Q:Vl×T0 Vl->Sd->Prop}(X:K.In s.heap)(I:Hg s.heap x dx C mA)(hg:W.plainGet K C name=pc) (hf:W.findIn K (.ref C) name=Fa (Fa (.ref f))) (ht:W.isFn K (.ref f)=pc) (hv:mA name=Db) (h:Q (.ref f,[.ref x]) s):
  pi (Tk prog w) A (wS (.ref x) name pl) Q E s:=by
 obtain⟨od,J,hl⟩:=I.look;exact W.method_fn X J (kr hg).1 (kr hg).2 hf (fk.mp ht) (by show(W.lookIn name od).map (·.isSome)=Fa lf;rw[hl,hv];rfl) h
def Pn{Q:Unit->Sd->Prop}(X:K.In s.heap)(I:Hg s.heap x dx C mA) (hs:W.findIn K (.ref C) "__setattr__"=Fa (Fa (.builtin "object.__setattr__"))) (hp:W.plainOver K C=pc) (ht:W.takerIn K C name=Fa Db) (hh:W.hasDictIn K C=pc) (hw:PySem.Within mA ns) (hsz:ns.length<=Ch) (h:∀h',Hg h' x dx C (λy=>if y=name then Fa v else mA y)->Heap.SameBut dx s.heap h'->Q () {s with heap:=h',toks:=s.toks+2}):
  pi (Tk prog w) A (setAttr (.ref x) name v) Q E s:=by
 obtain⟨od,J,hl⟩:=I.look;refine W.set_plain X J hs (W.osa_open (s:={s with toks:=s.toks+1}) (r:=none) X J hp ht λb=>?_);obtain⟨cd,hc,hd'⟩:=W.any_some hh;have hx:s.heap.get? x=Fa ⟨.ref C,Fa dx,.plain,#[]⟩:=I.obj;refine cW (dz (cW (cW (wpAny_loadPart hx (cW (mh (s:={s with toks:=s.toks+1}) (kt X hc) ?_))))));rw[hd'];refine dz (a:=some dx) (cW (dz (cW ?_)));refine wpAny_nsSet1 (s:={s with toks:=s.toks+1}) I.ns λh' Zm XH=>?_;obtain⟨oD,esD,epD,hoD,Gw,hcD⟩:=Zm.count (PySem.Within.cons name v hw);refine cW (lE hoD (by rw[Gw];exact lF (eh hcD (by rw[eB];omega))) ?_);exact dz (h _ ⟨(XH.2 _ (dG I.ne)).trans I.obj,Zm,I.ne⟩ XH)
def LG{vs:T0 Vl}{kw:T0 (Str×Vl)}(X:K.In s.heap)(hm:W.makesIn K C=pc) (hi:W.findIn K (.ref C) "__init__"=Fa (Fa (.ref f))) (hf:W.typeIn K (.ref f)=Fa (.type "function")) (h:ZZ (Tk prog w) (A.under (.builtin "type.__call__" ⟨.ref C::vs,kw⟩)) (.call (.ref f) ⟨.ref (s.heap.objs.size+1)::vs,kw⟩) (W.InitBack (s.heap.objs.size+1) R) {s with heap:=(s.heap.push W.emptyDict).push (W.instObj C s.heap.objs.size)}):
  ZZ (Tk prog w) A (.call (.ref C) ⟨vs,kw⟩) R s:=by
 obtain⟨hh,g,d,t,os⟩:=s;exact W.make_core (W.makes_of X hm) (lY X hi) (λself=>W.bind_fn X self hf) (.inl rfl) h
end
def vL(f:Str)(v:V):T0 (Str×V)->T0 (Str×V)
 | []=>[(f,v)]
 | (g,x)::r=>if g=f then(g,v)::r else(g,x)::vL f v r
theorem Am(f g:Str)(v:V):∀fs:T0 (Str×V),(vL f v fs).lookup g=if g=f then Fa v else fs.lookup g
 | []=>by
  show List.lookup g [(f,v)]=_;by_cases h:g=f
  .have hb:(g==f)=pc:=fk.mpr h;simp only[List.lookup,hb,dh h]
  .have hb:(g==f)=lf:=fV.mpr h;simp only[List.lookup,hb,de h]
 | (k,x)::r=>by
  have ih:=Am f g v r;rw[show vL f v ((k,x)::r)=(if k=f then(k,v)::r else(k,x)::vL f v r)from rfl];by_cases hk:k=f
  .rw[dh hk];by_cases h:g=k
   .have hb:(g==k)=pc:=fk.mpr h;simp only[List.lookup,hb,dh (h.trans hk)]
   .have hb:(g==k)=lf:=fV.mpr h;simp only[List.lookup,hb,de (λe:g=f=>h (e.trans hk.symm))]
  .rw[de hk];by_cases h:g=k
   .have hb:(g==k)=pc:=fk.mpr h;simp only[List.lookup,hb,de (λe:g=f=>hk (h.symm.trans e))]
   .have hb:(g==k)=lf:=fV.mpr h;simp only[List.lookup,hb];exact ih
theorem Ai(f:Str)(v:V):∀fs:T0 (Str×V),f∈(vL f v fs).map (·.1)/\∀g,g∈fs.map (·.1)->g∈(vL f v fs).map (·.1)
 | []=>⟨by simp[vL],λg h=>by simp at h⟩
 | (k,x)::r=>by
  obtain⟨i1,i2⟩:=Ai f v r;rw[show vL f v ((k,x)::r)=(if k=f then(k,v)::r else(k,x)::vL f v r)from rfl];by_cases hk:k=f
  .rw[dh hk];subst hk;exact⟨by simp,λg h=>by simpa using h⟩
  .rw[de hk];refine⟨?_,λg h=>?_⟩
   .rw[dZ];exact dH _ i1
   .rw[dZ]at h ⊢;rcases c9.mp h with e|e
    .exact c9.mpr (.inl e)
    .exact dH _ (i2 g e)
theorem AA(f:Str)(v:V):∀fs:T0 (Str×V),(vL f v fs).length<=fs.length+1
 | []=>by simp[vL]
 | (k,x)::r=>by
  have ih:=AA f v r;rw[show vL f v ((k,x)::r)=(if k=f then(k,v)::r else(k,x)::vL f v r)from rfl];by_cases hk:k=f
  .rw[dh hk,eB,eB];omega
  .rw[de hk,eB,eB];omega
def yl.some_of{v:V}(r:yl (Fa v) o):∃u,o=Fa u/\qH v u:=by
 cases o with
 | none=>exact(show False from r).elim
 | some u=>exact⟨u,rfl,r⟩
def yl.none_of{o:Option Vl}(r:yl Db o):o=Db:=by
 cases o with
 | none=>rfl
 | some u=>exact(show False from r).elim
def Jy{u:Vl}(r:qH v u):W.handedIn u=pc:=by
 cases v with
 | mL=>cases(show u=Value.none from r);rfl
 | bl b=>cases(show u=Value.bool b from r);rfl
 | int i=>obtain⟨t,e⟩:=(show ∃t,u=Value.int i t from r);cases e;rfl
 | str x=>obtain⟨t,e⟩:=(show ∃t,u=Value.str x t from r);cases e;rfl
 | byt b=>obtain⟨t,e⟩:=(show ∃t,u=Value.bytes b t from r);cases e;rfl
 | flt b=>obtain⟨t,e⟩:=(show ∃t,u=Value.float b t from r);cases e;rfl
 | ref a=>cases(show u=Value.ref a from r);rfl
 | ty n=>cases(show u=Value.type n from r);rfl
section
variable {P:Pg}{w:Wo}{a:Uf}{fs fs':T0 (Str × V)}
def Bb(mQ:yk P w H h)(e:H a=Fa (.ins C dx fs)):∃mA,Hg h a dx C mA/\(∀f,yl (fs.lookup f) (mA f))/\PySem.Within mA (fs.map (·.1))/\fs.length<=1000/\H dx=Fa (.own a):=by obtain⟨d,z,ne,ob,mA,n,r,q⟩:=(show sj P w H h a (.ins C dx fs)from mQ a _ e);exact⟨mA,⟨ob,n,ne⟩,r,q,z,d⟩
end
structure Cls(K:qp)(C:Uf):Prop where
 pg:W.plainGet K C Str.empty=pc
 hd:W.hasDictIn K C=pc
 po:W.plainOver K C=pc
 sa:W.findIn K (.ref C) "__setattr__"=Fa (Fa (.builtin "object.__setattr__"))
def Cls.get{K:qp}(c:Cls K C)(f:Str):W.plainGet K C f=pc:=c.pg
def ue(K:qp)(C:Uf)(f:Str):Prop:=W.findIn K (.ref C) f=Fa Db
def ue.oJ{K:qp}(n:ue K C f):W.takerIn K C f=Fa Db:=by unfold W.takerIn;rw[show W.findIn K (.ref C) f=Fa Db from n];rfl
structure Wy(K:qp)(C:Uf)(f:Str)(v:V)(u:Vl):Prop where
 at_:W.findIn K (.ref C) f=Fa (Fa u)
 rel:qH v u
 get:W.specialIn K u "__get__"=Fa Db
 cp:W.copiedNames.contains f=lf
structure vM(K:qp)(C:Uf)(m:Str)(f:Uf):Prop where
 at_:W.findIn K (.ref C) m=Fa (Fa (.ref f))
 fn:W.isFn K (.ref f)=pc
 kp:W.keepIn K (.ref f)=pc
section
variable {Y:St}{a:Uf}{fs:T0 (Str × V)}{f:Str}{v:V}{E:QQX}
def B1{b:Bool}{Q:QQX}(I:Inv X Wz Y H s)(e:H a=Fa (.ins C dx fs))(c:Cls X.K C)(n:ue X.K C f)(l:fs.lookup f=Fa v) (h:∀u s',Inv X Wz Y H s'->qH v u->Q u s'):pi (Tk X.prog X.w) A (getAttr (.ref a) f b) Q E s:=by
 obtain⟨mA,O,r,_,_,_⟩:=Bb I.mQ e;obtain⟨u,hu,ru⟩:=yl.some_of (v:=v) (o:=mA f) (by rw[<-l];exact r f);exact PR I.m7 O (c.get f) c.hd n hu (Jy ru) (h u _ (I.tok _) ru)
def Cq{pl:Sem Bool}{Q:Vl×T0 Vl->Sd->Prop}(I:Inv X Wz Y H s)(e:H a=Fa (.ins C dx fs))(c:Cls X.K C)(k:vM X.K C m g)(l:fs.lookup m=Db) (h:Q (.ref g,[.ref a]) s):pi (Tk X.prog X.w) A (wS (.ref a) m pl) Q E s:=by
 obtain⟨mA,O,r,_,_,_⟩:=Bb I.mQ e;have hn:mA m=Db:=yl.none_of (by rw[<-l];exact r m);exact K9 I.m7 O (c.get m) k.at_ k.fn hn h
def BW{u:Vl}{Q:Unit->Sd->Prop}(I:Inv X Wz Y H s)(e:H a=Fa (.ins C dx fs))(c:Cls X.K C)(n:ue X.K C f)(hl:fs.length<1000)(ry:qH y u) (h:∀s',Inv X Wz Y (upd H a (.ins C dx (vL f y fs))) s'->Q () s'):pi (Tk X.prog X.w) A (setAttr (.ref a) f u) Q E s:=by
 obtain⟨mA,O,r,wi,_,ho⟩:=Bb I.mQ e;have hz:(fs.map (·.1)).length<=Ch:=by rw[cV,dP];omega
 refine Pn I.m7 O c.sa c.po n.oJ c.hd wi hz λh' O' sb=>h _ ?_;have hd:∃o,h'.get? dx=Fa o:=let⟨o,_,_,e',_⟩:=O'.ns;⟨o,e'⟩;refine I.write (x:=a) (e:=dx) (by rw[e];exact True.intro) (.inr ho) (λb q hb z=>(sb.2 b hb).trans z) hd ?_;refine⟨by rw[pS O.ne];exact ho,?_,O.ne,O'.obj,_,O'.ns,λg=>?_,λg hg=>?_⟩
 .have:=AA f y fs;omega
 .show yl ((vL f y fs).lookup g) (if g=f then Fa u else mA g);rw[Am];by_cases q:g=f
  .rw[dh q,dh q];exact ry
  .rw[de q,de q];exact r g
 .by_cases q:g=f
  .rw[q];exact(Ai f y fs).1
  .refine(Ai f y fs).2 g (wi g λz=>hg ?_);show(if g=f then Fa u else mA g)=Db;rw[de q];exact z
def Inv.made(I:Inv X Wz Y H s):Inv X Wz Y (upd (upd H s.heap.objs.size (.own (s.heap.objs.size+1))) (s.heap.objs.size+1) (.ins C s.heap.objs.size [])) {s with heap:=(s.heap.push W.emptyDict).push (W.instObj C s.heap.objs.size)}:=by
 have e1:(s.heap.push W.emptyDict).get? s.heap.objs.size=Fa W.emptyDict:=dI s.heap rfl;have e2:((s.heap.push W.emptyDict).push (W.instObj C s.heap.objs.size)).get? (s.heap.objs.size+1)=Fa (W.instObj C s.heap.objs.size):=by
  have:=dI (s.heap.push W.emptyDict) (o:=W.instObj C s.heap.objs.size) rfl
  rwa [fz]at this
 have e3:(s.heap.push W.emptyDict).Ns s.heap.objs.size (λ_=>Db):=⟨W.emptyDict,#[],_,e1,rfl,(λe he=>absurd he (by simp)),λ_=>rfl⟩;have I1:=I.laid (a:=s.heap.objs.size) (o:=.own (s.heap.objs.size+1)) (h':=s.heap.push W.emptyDict) (t':=s.toks) (λb u q=>df _ q) (dw _) ⟨_,e1⟩;refine I1.laid (a:=s.heap.objs.size+1) (o:=.ins C s.heap.objs.size []) (t':=s.toks) (λb u q=>df _ q) (mi (fz _ _)) ?_;have ne:s.heap.objs.size≠s.heap.objs.size+1:=dQ (fK _);refine⟨by rw[pS ne,pY],eZ _,ne,e2,λ_=>Db,(lb e3).at λo q=>df _ q,λ_=>True.intro,λy hy=>absurd rfl hy⟩
def OK{prog:Pg}{w:Wo}{env:Env}{e:Go}{f:Str}{s:Sd}{Q:QQX}(hb:sK e f env (wp e env)=wp e env) (h:pi (Tk prog w) A (wp e env) (λo s₁=>pi (Tk prog w) A (getAttr o f pc) Q E s₁) E s):pi (Tk prog w) A (wp (.Attribute e f pos) env) Q E s:=
 Attribute_any_ h (by rw[arm_eval_Attribute,hb])
end
def VQ(K:qp)(ta:TE)(f:Str):TE:=λY H Q=>ta Y H λx H1=>∃a C dx fs v,x=.ref a/\H1 a=Fa (.ins C dx fs)/\Cls K C/\ue K C f/\fs.lookup f=Fa v/\Q v H1
def VN(K:qp)(ta tv:TE)(f:Str):TS:=λD Y H=>tv Y H λy H1=>ta Y H1 λx H2=>∃a C dx fs,x=.ref a/\H2 a=Fa (.ins C dx fs)/\Cls K C/\ue K C f/\fs.length<1000/\
 D.nx Y (upd H2 a (.ins C dx (vL f y fs)))
def Oh(X:Cx)(op:Z2)(rd:V->V->Hp->VK->Prop):Prop:=
 ∀(Wz:QQY) (s:Sd) (Y:St) (H:Hp) (x y:V) (u v:Vl) (Q:VK),Inv X Wz Y H s->qH x u->qH y v->rd x y H Q->pi (Tk X.prog X.w) X.A (inplaceOp op u v) (EP X Wz Y Q) X.xe s
def Pl(K:qp)(ta tv:TE)(rd:V->V->Hp->VK->Prop)(f:Str):TS:=λD Y H=>ta Y H λx H1=>∃a C dx fs v,x=.ref a/\H1 a=Fa (.ins C dx fs)/\Cls K C/\ue K C f/\fs.lookup f=Fa v/\
 tv Y H1 λy H2=>rd v y H2 λz H3=>∃Zn fs',H3 a=Fa (.ins C Zn fs')/\fs'.length<1000/\D.nx Y (upd H3 a (.ins C Zn (vL f z fs')))
variable {value:Go}{WL YH:Pos}{tv:TE}
section
variable {o e:Go}{f:Str}
def QH(he:PE X e ta)(hb:sK e f X.env (wp e X.env)=wp e X.env):PE X (.Attribute e f pos) (VQ X.K ta f):=by intro Wz s Y H Q I h;refine OK hb (sy (he Wz s Y H _ I h) λu s1 zz=>?_);obtain⟨x,H1,I1,rx,a,C,dx,fs,v,ex,ea,c,n,l,q⟩:=zz;subst ex;obtain rfl:u=Value.ref a:=rx;exact B1 I1 ea c n l λu' s2 I2 ru=>⟨v,H1,I2,ru,q⟩
def RX(ha:PE X o ta)(hv:PE X value tv)(hs:TD value (Fa (.Attribute o f WL)) pos.line X.env=pure lf):PS X (.Assign [.Attribute o f WL] value pos) (VN X.K ta tv f):=by intro Wz s Y H D I h;refine iK (sy (hv Wz s Y H _ I h) λu s1 zz=>x5 zz λy H1 I1 ry q=>sy (ha Wz s1 Y H1 _ I1 q) λov s2 zz=>?_) hs;obtain⟨x,H2,I2,rx,a,C,dx,fs,ex,ea,c,n,l,q2⟩:=zz;subst ex;obtain rfl:ov=Value.ref a:=rx;exact BW I2 ea c n l ry λs3 I3=>⟨Y,_,I3,q2⟩
def JB(ha:PE X o ta)(hv:PE X value tv)(hop:Oh X op rd):PS X (.AugAssign (.Attribute o f YH) op value pos) (Pl X.K ta tv rd f):=by intro Wz s Y H D I h;refine wpAny_AugAssign_AttributeAny (sy (ha Wz s Y H _ I h) λov s1 zz=>?_);obtain⟨x,H1,I1,rx,a,C,dx,fs,v,ex,ea,c,n,l,q⟩:=zz;subst ex;obtain rfl:ov=Value.ref a:=rx;refine B1 I1 ea c n l λu s2 I2 ru=>sy (hv Wz s2 Y H1 _ I2 q) λw3 s3 zz=>x5 zz λy H2 I3 ry q3=>sy (hop Wz s3 Y H2 v y u w3 _ I3 ru ry q3) λw4 s4 zz=>?_;obtain⟨z,H3,I4,rz,Zn,fs',ea',l',q4⟩:=zz;exact BW I4 ea' c n l' rz λs5 I5=>⟨Y,_,I5,q4⟩
def U':V->V->Hp->VK->Prop:=λx y H Q=>∃i j,x=.int i/\y=.int j/\Q (.int (i+j)) H
def Ve:V->V->Hp->VK->Prop:=λx y H Q=>∃i j,x=.int i/\y=.int j/\Q (.int (i - j)) H
def Sq:Oh X .Add U':=by
 rintro Wz s Y H x y u v Q I rx ry ⟨i,j,rfl,rfl,q⟩
 obtain⟨t,rfl⟩:=(show ∃t,u=Value.int i t from rx);obtain⟨t',rfl⟩:=(show ∃t',v=Value.int j t' from ry);exact PyProof.Rows.iadd_int ⟨.int (i+j),H,I.tok _,⟨_,rfl⟩,q⟩
def QR:Oh X .Sub Ve:=by
 rintro Wz s Y H x y u v Q I rx ry ⟨i,j,rfl,rfl,q⟩
 obtain⟨t,rfl⟩:=(show ∃t,u=Value.int i t from rx);obtain⟨t',rfl⟩:=(show ∃t',v=Value.int j t' from ry);exact PyProof.Rows.isub_int ⟨.int (i - j),H,I.tok _,⟨_,rfl⟩,q⟩
end
variable {Q:QQX}
section
variable {Y:St}{E:QQX}{c:Vl}{b:Bool}
inductive AY(K:qp)(H:Hp):V->Vl->Prop where
 | mL:AY K H .mL (.type "NoneType")
 | bl (x:Bool):AY K H (.bl x) (.type "bool")
 | int (i:Int):AY K H (.int i) (.type "int")
 | str (x:Str):AY K H (.str x) (.type "str")
 | flt (x:UInt64):AY K H (.flt x) (.type "float")
 | lst {a:Uf} {xs:List V} (e:H a=Fa (.lst xs)):AY K H (.ref a) (.type "list")
 | frz {a:Uf} {o:Obj} {xs:List V} (e:H a=Fa (.frz o (.lst xs))):AY K H (.ref a) (.type "list")
 | tup {a:Uf} {xs:List V} (e:H a=Fa (.tup xs)):AY K H (.ref a) (.type "tuple")
 | dK {a:Uf} {kvs:List (qZ×V)} (e:H a=Fa (.dK kvs)):AY K H (.ref a) (.type "dict")
 | dT {a:Uf} {kvs:List (List qZ×V)} (e:H a=Fa (.dT kvs)):AY K H (.ref a) (.type "dict")
 | ins {a C dx:Uf} {fs:List (Str×V)} (e:H a=Fa (.ins C dx fs)) (cl:Cls K C) (ha:W.findIn K (.ref C) "__class__"=Fa (Fa (.builtin "object.__class__")))
   (hn:W.specialIn K (.builtin "object.__class__") "__get__"=Fa (Fa (.builtin "getset_descriptor.__get__"))) (htk:W.takesIn K (.builtin "object.__class__")=Fa pc)
   (hm:W.mroIn K C (.type "object")=Fa pc):AY K H (.ref a) (.ref C)
def uF{u t:Vl}(I:Inv X Wz Y H s)(rx:qH x u)(ty:AY X.K H x t)(e:W.kitOne X.K t c=Fa b)(h:∀tk,Q (.bool b) {s with toks:=tk}):
  pi (Tk X.prog X.w) A (call (.builtin "isinstance") [u,c]) Q E s:=by
 cases ty with
 | mL=>cases(show u=Value.none from rx);exact gx W.kitx_none I.m7 True.intro e (λz=>nomatch z) h
 | bl y=>cases(show u=Value.bool y from rx);exact gx W.kitx_bool I.m7 True.intro e (λz=>nomatch z) h
 | int i=>obtain⟨t,q⟩:=(show ∃t,u=Value.int i t from rx);cases q;exact gx W.kitx_int I.m7 True.intro e (λz=>nomatch z) h
 | str y=>obtain⟨t,q⟩:=(show ∃t,u=Value.str y t from rx);cases q;exact gx W.kitx_str I.m7 True.intro e (λz=>nomatch z) h
 | flt y=>obtain⟨t,q⟩:=(show ∃t,u=Value.float y t from rx);cases q;exact gx W.kitx_float I.m7 True.intro e (λz=>nomatch z) h
 | @lst a xs ea=>cases(show u=Value.ref a from rx);obtain⟨_,_,n,_,h1⟩:=(show sj X.prog X.w H s.heap a (.lst xs)from I.mQ a _ ea);exact gx lz I.m7 ⟨_,h1,rfl⟩ e (λz=>nomatch z) h
 | @frz a ob xs ea=>cases(show u=Value.ref a from rx);obtain⟨_,_,_,n,_,h1⟩:=(show sj X.prog X.w H s.heap a (.frz ob (.lst xs))from I.mQ a _ ea);exact gx lz I.m7 ⟨_,h1,rfl⟩ e (λz=>nomatch z) h
 | @tup a xs ea=>cases(show u=Value.ref a from rx);obtain⟨_,_,_,p⟩:=(show sj X.prog X.w H s.heap a (.tup xs)from I.mQ a _ ea);obtain⟨o,h1,h2,_⟩:=p;exact gx W.kitx_tuple I.m7 ⟨o,h1,h2⟩ e (λz=>nomatch z) h
 | @dK a kvs ea=>cases(show u=Value.ref a from rx);obtain⟨_,_,vs,_,p⟩:=(show sj X.prog X.w H s.heap a (.dK kvs)from I.mQ a _ ea);obtain⟨o,es,ep,h1,h2,_⟩:=p;exact gx W.kitx_dict I.m7 ⟨o,h1,h2.1⟩ e (λz=>nomatch z) h
 | @dT a kvs ea=>cases(show u=Value.ref a from rx);obtain⟨_,_,xs,_,o,es,ep,h1,h2,_⟩:=(show sj X.prog X.w H s.heap a (.dT kvs)from I.mQ a _ ea);exact gx W.kitx_dict I.m7 ⟨o,h1,h2.1⟩ e (λz=>nomatch z) h
 | @ins a C dx fs ea cl ha hn htk hm=>cases(show u=Value.ref a from rx);obtain⟨mA,O,_⟩:=Bb I.mQ ea;obtain⟨od,J,_⟩:=O.look;exact gx (W.kitx_own (cl.get _) cl.hd ha hn htk hm) I.m7 J e (λz=>nomatch z) h
end
structure rX(k:Nat)(A:Ar):Prop where
 hd:A.handled=Db
 dp:A.depth+3*k+5<recursionLimit
 un:A.units+16*k+200<wP
def rX.mono{j k:Nat}(r:rX k A)(h:j<=k):rX j A:=⟨r.hd,by have:=r.dp;omega,by have:=r.un;omega⟩
def rX.deeper{k:Nat}(r:rX (k+1) A)(env:Env):rX k (A.deeper env):=
 ⟨r.hd,by have:=r.dp;show A.depth+1+3*k+5<_;omega,by have:=r.un;show A.units+3+16*k+200<_;omega⟩
def G2{A:Ar}{C:Uf}{us:T0 Vl}{kw:T0 (Str×Vl)}:(A.under (.builtin "type.__call__" ⟨.ref C::us,kw⟩)).depth=A.depth+1:=by first|rfl|simp[Around.under,Code.weight,Code.isCreation,Code.isGuard,Code.isCaller,Code.frames,Code.isFrame,guardIds]
def Hj{A:Ar}{C:Uf}{us:T0 Vl}{kw:T0 (Str×Vl)}:(A.under (.builtin "type.__call__" ⟨.ref C::us,kw⟩)).units=A.units+1:=by first|rfl|simp[Around.under,Code.cUnits,Code.frames,Code.isFrame]
def rX.make{k:Nat}(r:rX (k+1) A)(C:Uf)(us:T0 Vl)(kw:T0 (Str×Vl)):rX k (A.under (.builtin "type.__call__" ⟨.ref C::us,kw⟩)):=
 ⟨r.hd,by have:=r.dp;rw[G2];omega,by have:=r.un;rw[Hj];omega⟩
def rX.depth(r:rX k A):A.depth<recursionLimit:=by have:=r.dp;omega
def rX.units(r:rX k A):A.units+64<wP:=by have:=r.un;omega
def Tj:TA:=λ_ H Q=>Q [] H
def Ue(ta:TE)(tr:TA):TA:=λY H Q=>ta Y H λx H1=>tr Y H1 λxs H2=>Q (x::xs) H2
variable {es:T0 Go}
section
variable {e:Go}{t:TA}
def Sn:PA X [] Tj:=λ_ _ _ _ H Q I h=>jl ⟨[],H,I,.nil,h⟩
def NP(ha:PE X e te)(hr:PA X es t)(hs:Bg X e es:=by rfl):PA X (e::es) (Ue te t):=by intro pos Wz s Y H Q I h;rw[hs];show pi _ _ (spliced ((lf,wp e X.env)::Ix pos (Tl es X.env))) _ _ s;refine jd (sy (ha Wz s Y H _ I h) λu s1 zz=>x5 zz λx H1 I1 r1 q1=>?_);exact sy (hr pos Wz s1 Y H1 _ I1 q1) λus s2 zz=>x5 zz λxs H2 I2 r2 q2=>⟨x::xs,H2,I2,.cons r1 r2,q2⟩
def U4(t:TA):TE:=λY H Q=>t Y H λxs H1=>xs.length<=Ch/\∀p,H1 p=Db->Q (.ref p) (upd H1 p (.tup xs))
def Vq(t:TA):TE:=λY H Q=>t Y H λxs H1=>xs.length<=Ch/\∀p,H1 p=Db->Q (.ref p) (upd H1 p (.lst xs))
def QM{x1}(h:PA X es t):PE X (.Tuple es x1 pos) (U4 t):=by intro Wz s Y H Q I hq;refine wpAny_Tuple_spliced (sy (h pos Wz s Y H _ I hq) λus s1 ⟨xs,H1,I1,r,z,q⟩=>⟨by rw[<-r.length];exact z,?_⟩);have hf:H1 s1.heap.objs.size=Db:=I1.mQ.fresh (dw _);refine⟨.ref s1.heap.objs.size,upd H1 s1.heap.objs.size (.tup xs),I1.laid (t':=s1.toks) (λb u e=>df _ e) (dw _) ?_,rfl,q _ hf⟩;exact⟨z,us,r,⟨_,dI _ rfl,rfl,⟨_,rfl⟩,rfl⟩⟩
def Rf(h:PA X es t):PE X (.List es pos) (Vq t):=by intro Wz s Y H Q I hq;refine wpAny_List_spliced (sy (h pos Wz s Y H _ I hq) λus s1 ⟨xs,H1,I1,r,z,q⟩=>⟨by rw[<-r.length];exact z,?_⟩);have hf:H1 s1.heap.objs.size=Db:=I1.mQ.fresh (dw _);refine⟨.ref s1.heap.objs.size,upd H1 s1.heap.objs.size (.lst xs),I1.laid (t':=s1.toks) (λb u e=>df _ e) (dw _) ?_,rfl,q _ hf⟩;exact⟨z,us,0,r,dI _ rfl⟩
end
abbrev Sp:=T0 V->Hp->VK->XK->Prop
abbrev Kw:=T0 Env->Hp->Sd->XK->Vl->Sd->Prop
structure Hz(P:Pg)(w:Wo)(K:qp)(mg:QQZ)(base:No)(A:Ar)(outer:List Env)(s:Sd)(H:Hp):Prop where
 frames:A.frames=Fa outer
 mod:Mod K mg base
 bs:∀b o,base.get? b=Fa o->s.heap.get? b=Fa o/\H b=Db
 nW:base.objs.size<=s.heap.objs.size
 ny:s.heap.FunFrames base outer
 oh:∀b∈wk outer,H b=Db
 mQ:yk P w H s.heap
 bare:Z1 s.gens
def CE(outer:T0 Env)(P:Pg)(w:Wo)(H:Hp)(s:Sd)(Q:VK)(u:Vl)(s':Sd):Prop:=
 ∃v H',s'.os=s.os/\Z1 s'.gens/\Un (wk outer) [] H H' s.heap s'.heap/\yk P w H' s'.heap/\qH v u/\Q v H'
def CR(CX:Kw)(outer:T0 Env)(P:Pg)(w:Wo)(H:Hp)(s:Sd)(Q:VK)(E:XK)(r:Result)(s':Sd):Prop:=
 match r with
 | .ok (.ret u)=>CE outer P w H s Q u s'
 | .ok _=>False
 | .error e=>CX outer H s E e s'
structure xp(P:Pg)(w:Wo)(K:qp)(mg:QQZ)(base:No)(CX:Kw)(k:Nat)(f:Uf)(fd:Rs)(ps:QQQ)(sp:Sp):Prop where
 len:∀vs H Q E,sp vs H Q E->vs.length=ps.length
 run:∀(A:Ar) (outer:List Env) (s:Sd) (H:Hp) (args:Args) (us:List Vl) (vs:List V) (Q:VK) (E:XK),rX k A->Hz P w K mg base A outer s H->BindsTo s fd args (ps.zip us)->qA vs us->sp vs H Q E->
  ZZ (Tk P w) A (.call (.ref f) args) (CR CX outer P w H s Q E) s
def Hz.make{K:qp}(e:Hz P w K mg base A outer s H)(C:Uf)(us:T0 Vl)(kw:T0 (Str×Vl)):
  Hz P w K mg base (A.under (.builtin "type.__call__" ⟨.ref C::us,kw⟩)) outer s H:=⟨by first|exact e.frames|(simpa [Around.under,Code.envs,Code.isFrame,pushEnvs]using e.frames),e.mod,e.bs,e.nW,e.ny,e.oh,e.mQ,e.bare⟩
variable {s':Sd}
section
variable {Y:St}
def Inv.n9(I:Inv X Wz Y H s):Hz X.prog X.w X.K X.mg X.base X.A X.stack s H:=
 ⟨I.ok.frames,I.ok.mod,I.bs,eh I.ok.nW I.sz,I.stack,I.nF,I.mQ,I.bare⟩
def Inv.after{Q:VK}{u:Vl}(I:Inv X Wz Y H s)(h:CE X.stack X.prog X.w H s Q u s'):EP X Wz Y Q u s':=by obtain⟨v,H',os,bare,un,mQ,r,q⟩:=h;obtain⟨hh,g,d,t,Zo⟩:=s';obtain rfl:Zo=s.os:=os;exact⟨v,H',I.call (h':=hh) (g':=g) (d':=d) (t':=t) (ch:=[]) un mQ bare (λb z=>absurd z (by simp)),r,q⟩
end
def S0(sp:Sp)(Xn:T0 V)(E:XK)(t:TA):TE:=λY H Q=>t Y H λvs H1=>sp (vs++Xn) H1 Q E
def Uz(C:Uf)(sp:Sp)(Xn:T0 V)(E:XK)(t:TA):TE:=λY H Q=>t Y H λvs H1=>∀x dx,H1 x=Db->H1 dx=Db->dx≠x->
 sp (.ref x::(vs++Xn)) (upd (upd H1 dx (.own x)) x (.ins C dx [])) (λv H2=>v=.mL/\Q (.ref x) H2) E
def uM(K:qp)(fd:Rs)(ps:QQQ)(ds:T0 Vl):Prop:=
 ∀(s:Sd) (us:T0 Vl),K.In s.heap->(us++ds).length=ps.length->BindsTo s fd ⟨us,[]⟩ (ps.zip (us++ds))
def uM.all{K:qp}{fd:Rs}{ps:QQQ}(h:∀us:T0 Vl,us.length=ps.length->bindArgs fd ⟨us,[]⟩=pure (ps.zip us)):uM K fd ps []:=λs us _ hl=>by rw[e9]at hl ⊢;exact .of_eq (h us hl)
def Cr(CX:Kw)(X:Cx)(E:XK):Prop:=∀(Wz:QQY) (Y:St) (H:Hp) (s:Sd) (e:Vl) (s':Sd),Inv X Wz Y H s->CX X.stack H s E e s'->X.xe e s'
variable {CX:Kw}{k:Nat}{fd:Rs}{ps:QQQ}{sp:Sp}{Xn:T0 V}{ds:T0 Vl}{m:Str}{p WD:Pos}
section
variable {f:Uf}{E:XK}{x:Str}{e o:Go}{t:TA}
def EY{Wz:QQY}{Q:VK}(F:xp X.prog X.w X.K X.mg X.base CX k f fd ps sp)(hr:rX k X.A)(hb:uM X.K fd ps ds)(hd:qA Xn ds)(hx:Cr CX X E) (I:Inv X Wz Y H s) (r:qA vs us) (h:sp (vs++Xn) H Q E):pi (Tk X.prog X.w) X.A (call (.ref f) us) (EP X Wz Y Q) X.xe s:=by
 have r2:qA (vs++Xn) (us++ds):=r.append hd;have hl:(us++ds).length=ps.length:=by rw[<-r2.length];exact F.len _ _ _ _ h
 refine iD (gu (F.run X.A X.stack s H ⟨us,[]⟩ (us++ds) (vs++Xn) Q E hr I.n9 (hb s us I.m7 hl) r2 h) λr s' hq=>?_);cases r with
 | error e=>exact hx Wz Y H s e s' I hq
 | ok fl=>
  cases fl with
  | ret u=>exact I.after hq
  | next=>exact False.elim hq
  | brk=>exact False.elim hq
  | cont=>exact False.elim hq
def Om(F:xp X.prog X.w X.K X.mg X.base CX k f fd ps sp)(hr:rX k X.A)(hg:Gl X x)(hm:X.mg x=Fa (.ref f))(hk:W.keepIn X.K (.ref f)=pc)(hb:uM X.K fd ps ds)(hd:qA Xn ds)(hx:Cr CX X E) (ha:PA X (e::es) t) (WS:yR x:=by decide) (he:Bg X e es:=by rfl) (WN:CC X pos es:=by rfl):
  PE X (.Call (.Name x p) (e::es) [] pos) (S0 sp Xn E t):=by
 intro Wz s Y H Q I h;refine gm (xc I hg hm ?_ WS);refine iL (h₀:=X.base) I.ok.mod.og hk (sy (ha pos Wz s Y H _ I h) λus s1 zz=>x5 zz λvs H1 I1 r q=>⟨I1.m7,?_⟩) he WN;exact EY F hr hb hd hx I1 r q
structure Mk(K:qp)(C f:Uf):Prop where
 makes:W.makesIn K C=pc
 init:W.findIn K (.ref C) "__init__"=Fa (Fa (.ref f))
 fn:W.isFn K (.ref f)=pc
 kp:W.keepIn K (.ref C)=pc
def KW{Wz:QQY}{Q:VK}(M:Mk X.K C f)(F:xp X.prog X.w X.K X.mg X.base CX k f fd ps sp)(hr:rX (k+1) X.A)(hb:uM X.K fd ps ds)(hd:qA Xn ds) (hx:Cr CX X E) (I:Inv X Wz Y H s) (r:qA vs us) (h:∀x dx,H x=Db->H dx=Db->dx≠x->sp (.ref x::(vs++Xn)) (upd (upd H dx (.own x)) x (.ins C dx [])) (λv H2=>v=.mL/\Q (.ref x) H2) E):
  pi (Tk X.prog X.w) X.A (call (.ref C) us) (EP X Wz Y Q) X.xe s:=by
 have hq:=h (s.heap.objs.size+1) s.heap.objs.size (I.mQ.fresh (gX _)) (I.mQ.fresh (dw _)) (dQ (fK _));have I2:=Inv.made (C:=C) I;have r2:qA (V.ref (s.heap.objs.size+1)::(vs++Xn)) (Value.ref (s.heap.objs.size+1)::(us++ds)):=.cons rfl (r.append hd);have hl:(Value.ref (s.heap.objs.size+1)::us++ds).length=ps.length:=by have e:=r2.length;rw[F.len _ _ _ _ hq]at e;exact e.symm
 refine iD (LG (f:=f) I.m7 M.makes M.init (fk.mp M.fn) (gu (F.run _ X.stack _ _ ⟨Value.ref (s.heap.objs.size+1)::us,[]⟩ (Value.ref (s.heap.objs.size+1)::(us++ds)) _ _ E (hr.make C us [])
  (I2.n9.make C us []) (hb _ (Value.ref (s.heap.objs.size+1)::us) I2.m7 hl) r2 hq) λr s' Yk=>?_))
 cases r with
 | error e=>exact hx Wz Y _ _ e s' I2 Yk
 | ok fl=>
  cases fl with
  | ret u=>obtain⟨v,H',I3,rv,ev,q3⟩:=I2.after Yk;subst ev;exact⟨rv,⟨V.ref (s.heap.objs.size+1),H',I3,rfl,q3⟩⟩
  | next=>exact False.elim Yk
  | brk=>exact False.elim Yk
  | cont=>exact False.elim Yk
def Pq(M:Mk X.K C f)(F:xp X.prog X.w X.K X.mg X.base CX k f fd ps sp)(hr:rX (k+1) X.A)(hg:Gl X x)(hm:X.mg x=Fa (.ref C))(hb:uM X.K fd ps ds)(hd:qA Xn ds)(hx:Cr CX X E) (ha:PA X (e::es) t) (WS:yR x:=by decide) (he:Bg X e es:=by rfl) (WN:CC X pos es:=by rfl):
  PE X (.Call (.Name x p) (e::es) [] pos) (Uz C sp Xn E t):=by
 intro Wz s Y H Q I h;refine gm (xc I hg hm ?_ WS);refine iL (h₀:=X.base) I.ok.mod.og M.kp (sy (ha pos Wz s Y H _ I h) λus s1 zz=>x5 zz λvs H1 I1 r q=>⟨I1.m7,?_⟩) he WN;exact KW M F hr hb hd hx I1 r q
end
variable {g:T0 Vl→T0 Vl→T0 Vl}{gV:T0 V→T0 V→T0 V}{ks:QQQ}{kpos:Pos}{kws:T0 ZV}{tk:TA}{nm:Option Str}
section
variable {f:Uf}{E:XK}{x:Str}{e o:Go}{t:TA}
structure Vj(K:qp)(fd:Rs)(ps ks:QQQ)(g:List Vl->List Vl->List Vl)(gV:List V->List V->List V):Prop where
 to:∀(s:Sd) (us ws:List Vl),K.In s.heap->(g us ws).length=ps.length->BindsTo s fd ⟨us,ks.zip ws⟩ (ps.zip (g us ws))
 rel:∀{vs:List V} {us:List Vl} {zs:List V} {ws:List Vl},qA vs us->qA zs ws->qA (gV vs zs) (g us ws)
end
structure sV(N P:QQQ)(sc:XV):Prop where
 kind:sc.kind=.function
 co:sc.isCoroutine=lf
 gen:sc.isGenerator=lf
 nd:N.Nodup
 pre:N.take P.length=P
 par:∀x∈P,sc.names.lookup x=Fa .local\/sc.names.lookup x=Fa .cell
 oU:∀y∈sc.names,y.2≠.free
theorem DC{kindOf:Str->Option ZQ}{x:Str}:∀{binds:T0 (Str×Vl)} {m:QQZ},(∀v,(x,v)∉binds)->bindL kindOf binds m x=m x
 | [],_,_=>rfl
 | (n,v)::r,m,h=>by
  unfold bindL;rw[DC λw hw=>h w (dH _ hw)];split
  .have:x≠n:=by rintro rfl;exact h v dN
   simp[this]
  .rfl
theorem DQ{kindOf:Str->Option ZQ}{x:Str}:∀{binds:T0 (Str×Vl)} {m:QQZ},(∀v,(x,v)∉binds)->bindC kindOf binds m x=m x
 | [],_,_=>rfl
 | (n,v)::r,m,h=>by
  unfold bindC;rw[DQ λw hw=>h w (dH _ hw)];split
  .rfl
  .have:x≠n:=by rintro rfl;exact h v dN
   simp[this]
theorem Du{kindOf:Str->Option ZQ}{x:Str}{v:Vl}:∀{P:QQQ} {vs:T0 Vl} {i:Nat} {m:QQZ},P.Nodup->P[i]?=Fa x->vs[i]?=Fa v->kindOf x=Fa .local->
  bindL kindOf (P.zip vs) m x=Fa v
 | [],_,_,_,_,h,_,_=>by simp at h
 | _::_,[],_,_,_,_,h,_=>by simp at h
 | p::P,w::vs,0,m,nd,h1,h2,hk=>by simp at h1 h2;subst h1;subst h2;show bindL kindOf ((p,w)::P.zip vs) m p=_;unfold bindL;rw[DC λv hv=>(dW.mp nd).1 (jN hv).1,dh hk];simp
 | p::P,w::vs,i+1,m,nd,h1,h2,hk=>by show bindL kindOf ((p,w)::P.zip vs) m x=_;unfold bindL;exact Du (i:=i) (dW.mp nd).2 (by simpa using h1) (by simpa using h2) hk
theorem DO{kindOf:Str->Option ZQ}{x:Str}{v:Vl}:∀{P:QQQ} {vs:T0 Vl} {i:Nat} {m:QQZ},P.Nodup->P[i]?=Fa x->vs[i]?=Fa v->kindOf x≠Fa .local->
  bindC kindOf (P.zip vs) m x=Fa v
 | [],_,_,_,_,h,_,_=>by simp at h
 | _::_,[],_,_,_,_,h,_=>by simp at h
 | p::P,w::vs,0,m,nd,h1,h2,hk=>by simp at h1 h2;subst h1;subst h2;show bindC kindOf ((p,w)::P.zip vs) m p=_;unfold bindC;rw[DQ λv hv=>(dW.mp nd).1 (jN hv).1,de hk];simp
 | p::P,w::vs,i+1,m,nd,h1,h2,hk=>by show bindC kindOf ((p,w)::P.zip vs) m x=_;unfold bindC;exact DO (i:=i) (dW.mp nd).2 (by simpa using h1) (by simpa using h2) hk
def start(N:QQQ)(vs:T0 V):St:=vs.map Fa++List.replicate (N.length - vs.length) Db
def vp(CX:Kw)(P:Pg)(w:Wo)(K:qp)(mg:QQZ)(base:No)(N:QQQ)(qual:Str)(scope:XV)(f:Uf)(cd:Vl)(A:Ar)(outer:T0 Env)(s:Sd)(H:Hp)(E:XK):Cx where
 prog:=P
 w:=w
 K:=K
 mg:=mg
 base:=base
 A:=A.deeper (dL qual scope s.heap.objs.size f cd)
 N:=N
 s₀:=s
 H₀:=H
 env:=dL qual scope s.heap.objs.size f cd
 outer:=outer
 stack:=dL qual scope s.heap.objs.size f cd::outer
 ex:=[]
 calm:=true
 fn:=λ_=>pc
 pn:=[]
 xe:=λe s'=>pi (Tk P w) (A.deeper (dL qual scope s.heap.objs.size f cd)) (leaving (dL qual scope s.heap.objs.size f cd) e) (λ_ Zp=>CX outer H s E e Zp) (λe' Zp=>CX outer H s E e' Zp) s'
def GK{sc:XV}{n:Nat}{x:Str}(h:sc.names.lookup x=Fa .cell):∃c,(cellsFrom n sc.names []).lookup x=Fa c:=by have q:=lG sc.names n [] (.inl h);exact io.mp q
def JM{CX:Kw}{K:qp}{qual:Str}{f:Uf}{cd:Vl}{A:Ar}{E:XK}{vs:T0 V} (S:sV N ps scope) (hd:A.handled=Db) (e0:Hz P w K mg base A outer s H) (hl:vs.length=ps.length) (r:qA vs us) (x:InCallC s s.heap.objs.size (bindL (dL qual scope s.heap.objs.size f cd).kindOf (ps.zip us) λ_=>Db) (cellsFrom (s.heap.objs.size+1) scope.names []) (bindC (dL qual scope s.heap.objs.size f cd).kindOf (ps.zip us) λ_=>Db) s1):
  Inv (vp CX P w K mg base N qual scope f cd A outer s H E) [] (start N vs) H s1:=by
 have WN:ps.length<=N.length:=by have:=eR List.length S.pre;rw[fh]at this;omega
 obtain⟨h1,tk,rfl,hk⟩:=x.done;have noA:∀b:Uf,b∉(vp CX P w K mg base N qual scope f cd A outer s H E).ex:=λb z=>absurd (show b∈([]:QXQ)from z) (by simp);refine⟨⟨e0.mod,S.kind,rfl,rfl,dw _,λy z c h1 h2=>?_,λy hy=>?_,λy c _ h=>?_,λ_=>hd,Around.frames_deeper e0.frames,.inr ⟨rfl,rfl⟩,λb z=>absurd z (noA b),e0.bs,e0.nW,λb _ _=>noA b,λb z=>absurd z (noA b),e0.ny,e0.oh⟩,rfl,e0.bare,Un.kept hk,⟨_,x.toInCall.ns,λi y v h1 h2 h3=>?_⟩,λy c h=>⟨_,x.cell y c h⟩,e0.mQ.fresh (dw _),λy c h=>?_,λp hp=>absurd (show p∈([]:QQY)from hp) (by simp),e0.mQ.kept hk,?_⟩
 .exact name_of_addr x.apart (gP h1) (gP h2)
 .have hy:scope.names.lookup y=Fa .cell\/scope.names.lookup y=Fa .free:=hy;rcases hy with hy|hy
  .exact GK hy
  .exact absurd rfl (S.oU _ (gP hy))
 .exact kI (x.above y c (gP h))
 .have hi:i<vs.length:=by
   unfold start at h2;by_cases hi:i<vs.length
   .exact hi
   .rw[eY (by simpa using hi)]at h2;rw[jL]at h2;split at h2<;>cases h2
  have ha:vs[i]?=Fa v:=by
   unfold start at h2;rw[fg (by simpa using hi),dF]at h2;cases e:vs[i]? with
   | none=>rw[e]at h2;cases h2
   | some a=>rw[e]at h2;cases h2;rfl
  obtain⟨u,hu,rv⟩:=r.get ha;have hp:ps[i]?=Fa y:=by rw[<-S.pre,List.getElem?_take_of_lt (by omega)];exact h1
  have ndP:ps.Nodup:=by rw[<-S.pre];exact S.nd.sublist (List.take_sublist _ _)
  refine⟨u,rv,?_⟩;rcases S.par y (fY hp)with k|k
  .exact .inl ⟨k,Du ndP hp hu k⟩
  .obtain⟨c,e⟩:=GK (n:=s.heap.objs.size+1) k;refine .inr ⟨.inl k,c,e,?_⟩;have q:=x.cell y c e;rw[DO ndP hp hu (by show scope.names.lookup y≠_;rw[k];decide)]at q;exact q
 .exact e0.mQ.fresh (kI (x.above y c (gP h)))
 .unfold start;show _=N.length;rw[cY,cV,iI];omega
def KL{CX:Kw}{P:Pg}{w:Wo}{K:qp}{mg:QQZ}{base:No}{f:Uf}{dV kV Xd pm WJ ct oc:Vl}{an od:Option Uf} {Xt:Array (Option Vl)} {N ps:QQQ} {sp:Sp} (lk:K.lookup f=Fa ⟨oc,od,.func (W.fnOf name qual params body scope dV kV Xd pm an WJ ct),Xt⟩) (XO:W.codeIn K WJ qual=pc) (S:sV N ps scope) (len:∀vs H Q E,sp vs H Q E->vs.length=ps.length) (WT:∀(A:Ar) (outer:T0 Env) (s:Sd) (H:Hp) (vs:T0 V) (Q:VK) (E:XK),rX k (A.deeper (dL qual scope s.heap.objs.size f WJ))->sp vs H Q E->
   ∃t,Bz (vp CX P w K mg base N qual scope f WJ A outer s H E) body t/\t {nx:=λ_ H'=>Q .mL H',rt:=Q} (start N vs) H):
  xp P w K mg base CX (k+1) f (W.fnOf name qual params body scope dV kV Xd pm an WJ ct) ps sp:=by
 refine⟨len,λA outer s H args us vs Q E hr e0 hb r X7=>?_⟩;have hl:=len _ _ _ _ X7;have KX:K.In s.heap:=e0.mod.og.keeps λb o e=>(e0.bs b o e).1;have lim:s.heap.NoLimit:=e0.mod.nolimit.keeps λb o e=>(e0.bs b o e).1;have hkind:∀y∈ps.zip us,scope.names.lookup y.1=Fa .local\/(scope.names.lookup y.1=Fa .cell/\((cellsFrom (s.heap.objs.size+1) scope.names []).lookup y.1).isSome=pc):=λ⟨n,v⟩ hy=>by
  rcases S.par n (jN hy).1 with q|q
  .exact .inl q
  .exact .inr ⟨q,lG _ _ _ (.inl q)⟩
 refine codeAny_call_function hr.depth (KX _ _ lk) rfl S.co S.gen rfl (W.codeRec_of KX XO) (hb _ _ _ _ ?_);refine wpAny_newFunctionEnv_cells S.kind hkind λenv he s1 x=>?_;subst he;refine⟨lim.keeps x.toInCall.keep,codeAny_func ?_⟩;obtain⟨t,ht,hq⟩:=WT A outer s H vs Q E (hr.deeper _) X7;have I:Inv (vp CX P w K mg base N qual scope f WJ A outer s H E) [] (start N vs) H s1:=JM S hr.hd e0 hl r x;refine eE (ht [] s1 (start N vs) H _ I hq) (λfl s' hs=>?_) λe s' hs=>hs;have WB:∀{σ':St} {H':Hp} {v:V} {u:Vl},Inv (vp CX P w K mg base N qual scope f WJ A outer s H E) [] σ' H' s'->qH v u->Q v H'->CE outer P w H s Q u s':=
  λ{σ' H' v u} J rv q=>⟨v,H',J.os,J.bare,J.base,J.mQ,rv,q⟩
 cases fl with
 | ret u=>obtain⟨v,σ',H',J,rv,q⟩:=hs;exact WB J rv q
 | next=>obtain⟨σ',H',J,q⟩:=hs;exact WB (v:=V.mL) (u:=Value.none) J rfl q
 | brk=>obtain⟨_,_,_,q⟩:=hs;exact False.elim q
 | cont=>obtain⟨_,_,_,q⟩:=hs;exact False.elim q
variable {id T:String}{r:T0 V→Hp→VK→Prop}
section
variable {x:Str}{e:Go}{t:TA}
def VX(r:T0 V->Hp->VK->Prop)(t:TA):TE:=λY H Q=>t Y H λvs H1=>r vs H1 Q
def KY(hc:yq X (.builtin id) r)(hg:Gl X x)(hm:X.mg x=Db)(hv:zn x=Fa (.builtin id))(ha:PA X (e::es) t)(hn:x≠"__name__":=by decide)(WS:yR x:=by decide)
  (he:Bg X e es:=by rfl) (WN:CC X pos es:=by rfl):PE X (.Call (.Name x p) (e::es) [] pos) (VX r t):=by
 intro Wz s Y H Q I h;refine gm (xb I hg hm hv ?_ hn WS);exact iM (sy (ha pos Wz s Y H _ I h) λus s1 zz=>x5 zz λvs H1 I1 r1 q1=>hc Wz s1 Y H1 vs us Q I1 r1 q1) he WN
def Ks(hc:yq X (.type T) r)(hg:Gl X x)(hm:X.mg x=Db)(hv:zn x=Fa (.type T))(ha:PA X (e::es) t)(hn:x≠"__name__":=by decide)(WS:yR x:=by decide)
  (he:Bg X e es:=by rfl) (WN:CC X pos es:=by rfl):PE X (.Call (.Name x p) (e::es) [] pos) (VX r t):=by
 intro Wz s Y H Q I h;refine gm (xb I hg hm hv ?_ hn WS);exact fP (sy (ha pos Wz s Y H _ I h) λus s1 zz=>x5 zz λvs H1 I1 r1 q1=>hc Wz s1 Y H1 vs us Q I1 r1 q1) he WN
end
end L2
namespace HT
open PySem PyProof.Rows
section
open PySem.SeqAt
open PySem.AutoSeq1 (wpAny_loadPart')
open PySem.MeetsSeq PySem.MeetsSeq2 PySem.MeetsSeq3
end
variable {prog:Pg}{w:Wo}{A:Ar}{E:QQX}{s:Sd}
def NU{vs ws:T0 Vl}{Q:QQX}(ht:IsTup s.heap t vs.toArray)(hb:IsTup s.heap b ws.toArray)(hv:vs≠[]) (h1:ws=[]->Q (.ref t) s) (h2:ws≠[]->Q (.ref s.heap.objs.size) {s with heap:=s.heap.push {cls:=.type "tuple",data:=.seq (vs++ws).toArray}})
  (hsz:vs.length+ws.length<=Ch):pi (Tk prog w) A (ZP .Add (.ref t) (.ref b)) Q E s:=by
 obtain⟨⟨cls,dd,data,sl⟩,ho,hc,n,hd⟩:=id ht;obtain⟨⟨cls2,dd2,data2,sl2⟩,ho2,hc2,n2,hd2⟩:=id hb;simp only at hc hd hc2 hd2;subst hc hd hc2 hd2;have e:vs.toArray++ws.toArray=(vs++ws).toArray:=by simp
 by_cases hw:ws=[]
 .exact kM ⟨_,ho,rfl⟩ ⟨_,ho2,rfl⟩ lH seq_tuple_add jW jM (jA _ _)
   (tuple_addW1 t b vs.toArray ws.toArray n n2 dd dd2 sl sl2 (by simpa using hv) (by simp[hw])) ⟨ho,ho2,h1 hw⟩
 .refine kM ⟨_,ho,rfl⟩ ⟨_,ho2,rfl⟩ lH seq_tuple_add jW jM (jA _ _)
   (tuple_addW2 t b vs.toArray ws.toArray n n2 dd dd2 sl sl2 (by simpa using hv) (by simpa using hw) (by rw[dA,dA];exact hsz)) ⟨ho,ho2,?_⟩
  rw[e];exact h2 hw
def sX(n d:Nat):Option Int->Nat
 | none=>d
 | some v=>if v<0 then(v+(n:Int)).toNat else min v.toNat n
def BS(n d:Nat):sX n d Db=d:=rfl
def IX(n d k:Nat):sX n d (Fa (k:Int))=min k n:=by show(if (k:Int)<0 then((k:Int)+(n:Int)).toNat else min (k:Int).toNat n)=min k n;rw[de (by omega),jm]
def Sw(n d:Nat)(hd:d<=n)(o:Option Int):sX n d o<=n:=by
 cases o with
 | none=>exact hd
 | some v=>
  show(if v<0 then(v+(n:Int)).toNat else min v.toNat n)<=n;by_cases hv:v<0
  .rw[dh hv];omega
  .rw[de hv];exact Nat.min_le_right _ _
def Jd(v:Int)(n d:Nat):(if v<0 then max (v+(n:Int)) 0 else min v (n:Int))=((sX n d (Fa v):Nat):Int):=by
 show(if v<0 then max (v+(n:Int)) 0 else min v (n:Int))=(((if v<0 then(v+(n:Int)).toNat else min v.toNat n):Nat):Int);by_cases hv:v<0
 .simp only[dh hv];omega
 .simp only[de hv];omega
def G'(lo hi:Option Int)(n:Nat):Builtin.Slice.sliceAdjust lo hi 1 (n:Int)=(((sX n 0 lo:Nat):Int),((sX n n hi:Nat):Int)):=by
 have h1:¬((1:Int)<0):=by omega
 unfold Builtin.Slice.sliceAdjust;simp only[h1,if_false];refine Prod.ext ?_ ?_
 .cases lo with
  | none=>rfl
  | some v=>exact Jd v n 0
 .cases hi with
  | none=>rfl
  | some v=>exact Jd v n n
def HK(i j:Nat):Builtin.Slice.slicePlaces (i:Int) (j:Int) 1=j - i:=by
 unfold Builtin.Slice.slicePlaces;have h1:(1:Int)>0:=by omega
 simp only[h1,iZ,Int.ediv_one];split<;>omega
def B8{Q:Option Int->Sd->Prop}(p:IsPart v o)(h:Q o s):pi (Tk prog w) A (Builtin.Slice.slicePartIndex v) Q E s:=by
 cases p with
 | none=>exact slicePart_none h
 | int i t=>exact slicePart_int h
def wq{sl:Uf}{vl vu:Vl}{lo hi:Option Int}{Q:Int×Int×Nat->Sd->Prop}(hs:s.heap.IsSliceOf sl vl vu .none)(pl:IsPart vl lo)(pu:IsPart vu hi) (h:Q (((sX n 0 lo:Nat):Int),1,sX n n hi - sX n 0 lo) s):pi (Tk prog w) A (Builtin.Slice.sliceApplied (.ref sl) (pure (n:Int))) Q E s:=by
 obtain⟨os,Zq,Y4,XS⟩:=id hs;unfold Builtin.Slice.sliceApplied Builtin.Slice.sliceFields;refine cW (cW (fm Zq XS (x:=vl) rfl (cW (fm Zq XS (x:=vu) rfl (cW (fm Zq XS (x:=.none) rfl (dz ?_)))))));refine cW (slicePart_none ?_);show pi _ _ (if ((1:Int)==0)=pc then _ else _) _ _ s;rw[de (by decide)];refine cW (B8 pl (cW (B8 pu (cW (dz ?_)))));show pi _ _ (match Builtin.Slice.sliceAdjust lo hi 1 (n:Int)with|(lo,hi)=>pure (lo,(1:Int),Builtin.Slice.slicePlaces lo hi 1)) _ _ s;rw[G' lo hi n];show pi _ _ (pure (((sX n 0 lo:Nat):Int),(1:Int),Builtin.Slice.slicePlaces ((sX n 0 lo:Nat):Int) ((sX n n hi:Nat):Int) 1)) _ _ s;rw[HK];exact dz h
def Mn(xs:Array Vl)(i k:Nat):((List.range k).filterMap λ(m:Nat)=>xs[((i:Int)+(m:Int)*1).toNat]?).toArray=((xs.toList.drop i).take k).toArray:=by
 have e:(λ(m:Nat)=>xs[((i:Int)+(m:Int)*1).toNat]?)=λm=>xs[i+m]?:=by
  funext m;have:((i:Int)+(m:Int)*1).toNat=i+m:=by omega
  rw[this]
 rw[e];have:=pick_run xs i k;rw[List.filterMap_map]at this;have e2:((λx=>xs[x]?)∘λx=>i+x)=λm=>xs[i+m]?:=rfl;rw[e2]at this;rw[this]
def zg{t sl:Uf}{vl vu:Vl}{lo hi:Option Int}{Q:QQX}(ht:IsTup s.heap t items)(hs:s.heap.IsSliceOf sl vl vu .none)(pl:IsPart vl lo)(pu:IsPart vu hi) (hw:¬(sX items.size 0 lo=0/\sX items.size items.size hi=items.size)) (h:Q (.ref s.heap.objs.size) {s with heap:=s.heap.push {cls:=.type "tuple",data:=.seq ((items.toList.drop (sX items.size 0 lo)).take (sX items.size items.size hi - sX items.size 0 lo)).toArray}})
  (hsz:items.size<=Ch):pi (Tk prog w) A (TW (.ref t) (.ref sl)) Q E s:=by
 have X1:sizeOk (.seq ((items.toList.drop (sX items.size 0 lo)).take (sX items.size items.size hi - sX items.size 0 lo)).toArray):=by show((items.toList.drop (sX items.size 0 lo)).take (sX items.size items.size hi - sX items.size 0 lo)).toArray.size<=Ch;rw[dA,fh,gA,gO];omega
 have hj:sX items.size items.size hi<=items.size:=Sw _ _ (dw _) hi;obtain⟨os,Zq,Y4,XS⟩:=id hs;have hTs:s.TypeIs (.ref sl) "slice":=⟨os,Zq,Y4⟩;unfold TW
 try with_reducible refine ft ?_
 first|refine cW (dz ?_)|skip
 refine cW (jn ht.typeIs (by decide) ?_);refine cW (fQ (name:=Str.ofString "__getitem__") ht.typeIs fE
  (gh fE ht.typeIs ky ?_ (kN _ _)))
 show pi _ _ (Builtin.Tuple.tupleItemsOf (.ref t)>>=_) _ _ s;refine cW (tupleItemsOf_ ht ?_);refine cW (jB hTs ?_);rw[dh (by decide)];refine cW (wq hs pl pu ?_);have hno:¬((((sX items.size 0 lo:Nat):Int)==0&&(1:Int)==1&&(sX items.size items.size hi - sX items.size 0 lo)==items.size)=pc):=by intro q;rw[dY,dY]at q;have q1:((sX items.size 0 lo:Nat):Int)=0:=At q.1.1;have q2:sX items.size items.size hi - sX items.size 0 lo=items.size:=At q.2;exact hw ⟨by omega,by omega⟩
 show pi _ _ (if (((sX items.size 0 lo:Nat):Int)==0&&(1:Int)==1&&(sX items.size items.size hi - sX items.size 0 lo)==items.size)=pc then _ else _) _ _ s;rw[de hno,Mn]
 first
  | exact cW (m:=Builtin.Tuple.tupleExact _) (fZ (dz ⟨_,rfl,dz h⟩) X1)
  | exact cW (m:=Builtin.Tuple.tupleExact _) (fZ (cW (dz (dz ⟨_,rfl,dz h⟩))) X1)
  | exact cW (cW (m:=Builtin.Tuple.tupleExact _) (fZ (dz (dz ⟨_,rfl,dz h⟩)) X1))
  | exact cW (cW (m:=Builtin.Tuple.tupleExact _) (fZ (dz ⟨_,rfl,dz h⟩) X1))
end HT
namespace L2
abbrev TO:=St->Hp->(Option Int->Hp->Prop)->Prop
def PO(X:Cx)(e:Option Go)(t:TO):Prop:=
 ∀(Wz:QQY) (s:Sd) (Y:St) (H:Hp) (Q:Option Int->Hp->Prop),Inv X Wz Y H s->t Y H Q->
  pi (Tk X.prog X.w) X.A (evalPart e X.env) (λu s'=>∃o H',Inv X Wz Y H' s'/\IsPart u o/\Q o H') X.xe s
def PK:TO:=λ_ H Q=>Q Db H
def Uu(t:TE):TO:=λY H Q=>t Y H λx H1=>∃i,x=.int i/\Q (Fa i) H1
variable {X:Cx}{e:Go}{te:TE}{lo hi:Option Go}{tl th:TO}{pos p2:Pos}
def NX:PO X Db PK:=by intro Wz s Y H Q I h;rw[evalPart_none];exact dz ⟨Db,H,I,.none,h⟩
def Ou(h:PE X e te):PO X (Fa e) (Uu te):=by intro Wz s Y H Q I hw;rw[evalPart_some];refine sy (h Wz s Y H _ I hw) λu s1 zz=>x5 zz λx H1 I1 r1 q1=>?_;obtain⟨i,rfl,q⟩:=q1;obtain⟨t,rfl⟩:=r1;exact⟨Fa i,H1,I1,.int i t,q⟩
def SV(X:Cx)(r:V->Option Int->Option Int->Hp->VK->Prop):Prop:=
 ∀(Wz:QQY) (s:Sd) (Y:St) (H:Hp) (x:V) (v vl vu:Vl) (lo hi:Option Int) (sl:Uf) (Q:VK),Inv X Wz Y H s->qH x v->s.heap.IsSliceOf sl vl vu .none->IsPart vl lo->IsPart vu hi->r x lo hi H Q->
  ∃T id,typeLookup (.type T) "__getitem__"=pure (Fa (.builtin id))/\s.TypeIs v T/\pi (Tk X.prog X.w) X.A (TW v (.ref sl)) (EP X Wz Y Q) X.xe s
def Wt(r:V->Option Int->Option Int->Hp->VK->Prop)(te:TE)(tl th:TO):TE:=λY H Q=>te Y H λx H1=>tl Y H1 λl H2=>th Y H2 λu H3=>r x l u H3 Q
def La(hr:SV X r)(he:PE X e te)(hl:PO X lo tl)(hu:PO X hi th):PE X (.Subscript e (.Slice lo hi Db p2) pos) (Wt r te tl th):=by intro Wz s Y H Q I h;refine Subscript_ (sy (he Wz s Y H _ I h) λv s1 zz=>x5 zz λx H1 I1 r1 q1=>?_);refine wpAny_Slice (sy (hl Wz s1 Y H1 _ I1 q1) λvl s2 zz=>x5 zz λl H2 I2 pl q2=>sy (hu Wz s2 Y H2 _ I2 q2) λvu s3 zz=>x5 zz λu H3 I3 pu q3=>?_);rw[evalPart_none];refine dz ?_;have I4:Inv X Wz Y H3 {s3 with heap:=s3.heap.push {cls:=.type "slice",data:=.fields #[vl,vu,.none]}}:=I3.kept (t':=s3.toks) λb ob q=>df _ q;obtain⟨T,id,hT,ht,hg⟩:=hr Wz {s3 with heap:=s3.heap.push {cls:=.type "slice",data:=.fields #[vl,vu,.none]}} Y H3 x v vl vu l u s3.heap.objs.size Q I4 r1 (mD ..) pl pu q3;show pi (Tk X.prog X.w) X.A (subscriptTail e (.Slice lo hi Db p2) v (.ref s3.heap.objs.size)) (EP X Wz Y Q) X.xe {s3 with heap:=s3.heap.push {cls:=.type "slice",data:=.fields #[vl,vu,.none]}};exact tail_any (ops:=[.ref s3.heap.objs.size,v]) ht hT hg (by with_unfolding_all rfl)
def Bv(xs:T0 V)(lo hi:Option Int):T0 V:=(xs.drop (HT.sX xs.length 0 lo)).take (HT.sX xs.length xs.length hi - HT.sX xs.length 0 lo)
def Aq(xs:T0 V)(lo hi:Option Int):(Bv xs lo hi).length<=xs.length:=by unfold Bv;rw[fh,gA];omega
def Vh(K:qp):V->Option Int->Option Int->Hp->VK->Prop:=λx lo hi H Q=>∃a xs,x=.ref a/\ve K H a xs/\
 ¬(HT.sX xs.length 0 lo=0/\HT.sX xs.length xs.length hi=xs.length)/\∀p,H p=Db->Q (.ref p) (upd H p (.tup (Bv xs lo hi)))
def Q0:SV X (Vh X.K):=by
 intro Wz s Y H x v vl vu lo hi sl Q I rx hs pl pu h;obtain⟨a,xs,rfl,hx,hw,q⟩:=h;cases rx;obtain⟨its,r,ht,hz⟩:=I.tuple hx;have WE:its.toArray.size=xs.length:=by rw[dA];exact r.length.symm
 refine⟨"tuple",_,fE.lookup,ht.typeIs,?_⟩;refine HT.zg ht hs pl pu (by rw[WE];exact hw) ?_ (by rw[WE];exact hz);rw[WE];refine⟨.ref s.heap.objs.size,_,I.laid (t':=s.toks) (o:=.tup (Bv xs lo hi)) (λb ob q=>df _ q) (dw _) ?_,rfl,q _ (I.mQ.fresh (dw _))⟩;exact⟨eh (Aq xs lo hi) hz,_,(r.drop (HT.sX xs.length 0 lo)).take (HT.sX xs.length xs.length hi - HT.sX xs.length 0 lo),Ed.new _ _⟩
def SX(K:qp):R2:=λx y H Q=>∃a b xs ys,x=.ref a/\y=.ref b/\ve K H a xs/\ve K H b ys/\xs≠[]/\xs.length+ys.length<=Ch/\
 (ys=[]->Q (.ref a) H)/\(ys≠[]->∀p,H p=Db->Q (.ref p) (upd H p (.tup (xs++ys))))
def qA.nL(r:qA xs us):us=[]↔xs=[]:=by
 cases r with
 | nil=>simp
 | cons _ _=>simp
def Pf:xq X (ZP .Add) (SX X.K):=by intro Wz s Y H x y v u Q I rx ry h;obtain⟨a,b,xs,ys,rfl,rfl,ha,hb,hx,hz,q1,q2⟩:=h;cases rx;cases ry;obtain⟨its,r1,p1,_⟩:=I.tuple ha;obtain⟨its2,r2,p2,_⟩:=I.tuple hb;refine HT.NU p1 p2 (λz=>hx (r1.nL.mp z)) (λz=>⟨.ref a,H,I,rfl,q1 (r2.nL.mp z)⟩) (λz=>?_) (by rw[<-r1.length,<-r2.length];exact hz);refine⟨.ref s.heap.objs.size,_,I.laid (t':=s.toks) (o:=.tup (xs++ys)) (λb ob q=>df _ q) (dw _) ?_,rfl,q2 (λw=>z (r2.nL.mpr w)) _ (I.mQ.fresh (dw _))⟩;exact⟨by rw[cY];exact hz,_,r1.append r2,Ed.new _ _⟩
def FG(n:Nat)(i:Int):Option Nat:=if 0<=i then(if i<n then Fa i.toNat else Db)else if -(n:Int)<=i then Fa (i+n).toNat else Db
def wI{α:Type}(xs:List α)(i:Int):Option α:=(FG xs.length i).bind λj=>xs[j]?
def IE{j:Nat}(h:FG n i=Fa j):seqIndex? i n=Fa j/\j<n/\-(n:Int)<=i/\i<n:=by
 unfold FG at h;by_cases h0:0<=i
 .rw[dh h0]at h;by_cases h1:i<n
  .rw[dh h1]at h;have e:i.toNat=j:=dv h;exact⟨by rw[lA h0 h1,e],by omega,by omega,h1⟩
  .rw[de h1]at h;cases h
 .rw[de h0]at h;by_cases h1:-(n:Int)<=i
  .rw[dh h1]at h;have e:(i+n).toNat=j:=dv h;exact⟨by rw[kO (by omega) h1,e],by omega,h1,by omega⟩
  .rw[de h1]at h;cases h
def EU{α:Type}{xs:List α}{i:Int}{v:α}(h:wI xs i=Fa v):∃j,seqIndex? i xs.length=Fa j/\xs[j]?=Fa v/\j<xs.length/\-(xs.length:Int)<=i/\i<xs.length:=by
 unfold wI at h;cases e:FG xs.length i with
 | none=>rw[e]at h;cases h
 | some j=>rw[e]at h;obtain⟨h1,h2,h3,h4⟩:=IE e;exact⟨j,h1,h,h2,h3,h4⟩
def vb{α:Type}{xs:List α}{j:Nat}{v:α}(h:xs[j]?=Fa v):wI xs (j:Int)=Fa v:=by
 have hj:j<xs.length:=(cZ.mp h).1;have e:FG xs.length (j:Int)=Fa j:=by unfold FG;rw[dh (by omega),dh (by omega)];simp
 unfold wI;rw[e];exact h
def Bc(b:Go):Prop:=∀o i,subscripted b lf o i=operate [o,i] (TW o i)
def SL(X:Cx)(r:R2):Prop:=
 ∀(value WK:Go) (Wz:QQY) (s:Sd) (Y:St) (H:Hp) (x y:V) (v u:Vl) (Q:VK),Inv X Wz Y H s->qH x v->qH y u->r x y H Q->
  subscripted WK lf v u=operate [v,u] (TW v u)->pi (Tk X.prog X.w) X.A (subscriptTail value WK v u) (EP X Wz Y Q) X.xe s
def V6(X:Cx)(id:String)(r:V->T0 V->Hp->VK->Prop):Prop:=
 ∀(Wz:QQY) (s:Sd) (Y:St) (H:Hp) (x:V) (xs:T0 V) (v:Vl) (us:T0 Vl) (Q:VK),Inv X Wz Y H s->qH x v->qA xs us->r x xs H Q->
  pi (Tk X.prog X.w) X.A (call (.builtin id) (v::us)) (EP X Wz Y Q) X.xe s
variable {o:Go}{es:T0 Go}{to:TE}{t:TA}{name:Str}{WD WH:Pos}{T id:String}{r:V→T0 V→Hp→VK→Prop}{a:Go}{ta tb:TE}
section
variable {b:Go}
def KF{r:R2}(hr:SL X r)(ha:PE X a ta)(hb:PE X b tb)(hs:Bc b):PE X (.Subscript a b pos) (Uo r ta tb):=by intro Wz s Y H Q I h;exact Subscript_ (So ha hb I h λv u s2 x y H2 I2 rx ry q=>hr a b Wz s2 Y H2 x y v u Q I2 rx ry q (hs _ _))
def VG(K:qp):R2:=λx y H Q=>∃p xs i v,x=.ref p/\y=.int i/\w9 K H p xs/\wI xs i=Fa v/\Q v H
def Vi(K:qp):R2:=λx y H Q=>∃p xs i v,x=.ref p/\y=.int i/\ve K H p xs/\wI xs i=Fa v/\Q v H
def UY:R2:=λx y H Q=>∃z i c,x=.str z/\y=.int i/\z.length<=Ch/\wI z.cps.toList i=Fa c/\Q (.str ⟨#[c]⟩) H
def Ih:SL X (VG X.K):=by
 intro value WK Wz s Y H x y v u Q I rx ry h hs;obtain⟨p,xs,i,z,rfl,rfl,hq,he,q⟩:=h;cases rx;obtain⟨t,rfl⟩:=ry;obtain⟨its,r,pl,hz⟩:=I.list hq;obtain⟨j,h1,h2,h3,h4,h5⟩:=EU he;obtain⟨w,ew,YI⟩:=r.get h2;have hl:=r.length;have hn:=yH;have WB:EP X Wz Y Q w s:=⟨z,H,I,YI,q⟩;by_cases h0:0<=i
 .have hj:i.toNat=j:=by rw[lA h0 h5]at h1;exact dv h1
  exact item_listR pl.isList h0 (by omega) (by rw[hj];simpa using ew) WB hs
 .have hj:(i+(its.toArray.size:Int)).toNat=j:=by rw[kO (by omega) h4]at h1;rw[dA,<-hl];exact dv h1
  exact jX (x:=w) pl.isList.typeIs lh.lookup
   (wpAny_getItem_list_neg (Q:=λr s'=>r=w/\EP X Wz Y Q r s') pl.isList (by omega) (by rw[dA]<;>omega) (by omega) (by rw[hj];simpa using ew) ⟨rfl,WB⟩) hs
def QB:SL X (Vi X.K):=by
 intro value WK Wz s Y H x y v u Q I rx ry h hs;obtain⟨p,xs,i,z,rfl,rfl,hq,he,q⟩:=h;cases rx;obtain⟨t,rfl⟩:=ry;obtain⟨its,r,pl,hz⟩:=I.tuple hq;obtain⟨j,h1,h2,h3,h4,h5⟩:=EU he;obtain⟨w,ew,YI⟩:=r.get h2;have hl:=r.length;have hn:=yH;have WB:EP X Wz Y Q w s:=⟨z,H,I,YI,q⟩;exact jX (x:=w) pl.typeIs slot_tuple_getitem.lookup
  (getItem_tuple (j:=j) (Q:=λr s'=>r=w/\EP X Wz Y Q r s') pl (by omega) (by omega) (by rw[dA,<-hl];exact h1) (by simpa using ew) ⟨rfl,WB⟩) hs
def Sv:SL X UY:=by
 intro value WK Wz s Y H x y v u Q I rx ry h hs;obtain⟨z,i,c,rfl,rfl,hz,he,q⟩:=h;obtain⟨t,rfl⟩:=rx;obtain⟨t',rfl⟩:=ry;obtain⟨j,h1,h2,h3,h4,h5⟩:=EU he;have hl:z.cps.toList.length=z.length:=by simp[Str.length]
 rw[hl]at h1 h4 h5;have hn:=yH;exact tail_any (typeIs_str s z t) slot_str_getitem.lookup (getItem_str (c:=c) (by
  have e1:decide (i< -(2 ^ 63:Int))=lf:=eP (by omega);have e2:decide (i>=2 ^ 63)=lf:=eP (by omega);rw[e1,e2,jj]) (by rw[h1];simpa using h2) ⟨.str ⟨#[c]⟩,H,I.tok _,⟨_,rfl⟩,q⟩) hs
def HW(its:T0 Vl)(n j:Nat)(u:Vl):Obj.mapSeq (·.setIfInBounds j u) {cls:=.type "list",data:=.seq its.toArray n}={cls:=.type "list",data:=.seq (its.set j u).toArray n}:=by simp[Obj.mapSeq]
def Inv.lst{p:Uf}{xs:T0 V}(I:Inv X Wz Y H s)(h:H p=Fa (.lst xs)):
  ∃(its:T0 Vl) (n:Nat),qA xs its/\s.heap.get? p=Fa {cls:=.type "list",data:=.seq its.toArray n}/\xs.length<=Ch:=by
 obtain⟨z,its,n,r,e⟩:=I.mQ p _ h;exact⟨its,n,r,e,z⟩
def Inv.oA{p:Uf}{xs ys:T0 V}{its its':T0 Vl}{n n':Nat}{f:Obj->Obj}(I:Inv X Wz Y H s)(h:H p=Fa (.lst xs)) (ho:s.heap.get? p=Fa {cls:=.type "list",data:=.seq its.toArray n}) (hf:f {cls:=.type "list",data:=.seq its.toArray n}={cls:=.type "list",data:=.seq its'.toArray n'}) (r:qA ys its') (hz:ys.length<=Ch) (t:Nat):
  Inv X Wz Y (upd H p (.lst ys)) {s with heap:=s.heap.update p f,toks:=t}:=by
 have e:(s.heap.update p f).get? p=Fa {cls:=.type "list",data:=.seq its'.toArray n'}:=by rw[fO f ho (by rw[hf]<;>rfl),hf]
 refine I.write (x:=p) (e:=p) (by rw[h];trivial) (.inl rfl) (λb u hb q=>(gg _ _ (dG hb)).trans q) ⟨_,e⟩ ?_;exact⟨hz,its',n',r,e⟩
def T1:V->V->V->Hp->(Hp->Prop)->Prop:=λo i v H Q=>∃p xs k j,o=.ref p/\i=.int k/\H p=Fa (.lst xs)/\FG xs.length k=Fa j/\Q (upd H p (.lst (xs.set j v)))
def LO:Ub X T1:=by
 intro Wz s Y H o i v ov iv u Q I ro ri rv h;obtain⟨p,xs,k,j,rfl,rfl,hp,hj,q⟩:=h;cases ro;obtain⟨t,rfl⟩:=ri;obtain⟨its,n,r,ho,hz⟩:=I.lst hp;obtain⟨h1,h2,h3,h4⟩:=IE hj;have hl:=r.length;have hn:=yH;have I':Inv X Wz Y (upd H p (.lst (xs.set j v))) {s with heap:=s.heap.update p (Obj.mapSeq (·.setIfInBounds j u))}:=
  I.oA hp ho (HW its n j u) (r.set rv j) (by rw[ik];exact hz) s.toks
 by_cases h0:0<=k
 .have hk:k.toNat=j:=by rw[lA h0 h4]at h1;exact dv h1
  exact W.ki_setAt ho h0 (by omega) (by rw[dA,<-hl];exact h4) (by rw[hk];exact⟨_,I',q⟩)
 .have hk:(k+(its.toArray.size:Int)).toNat=j:=by rw[kO (by omega) h3]at h1;rw[dA,<-hl];exact dv h1
  exact W.ki_setBack ho (by omega) (by rw[dA,<-hl];exact h3) (by omega) (by rw[hk];exact⟨_,I',q⟩)
def FE(lo hi:Option Int)(n:Nat):(ZW lo hi Db n).1=((HT.sX n 0 lo:Nat):Int)/\(ZW lo hi Db n).2.1=((HT.sX n n hi:Nat):Int)/\(ZW lo hi Db n).2.2=1:=by
 refine⟨?_,?_,rfl⟩
 .cases lo with
  | none=>simp[ZW,HT.sX]
  | some i=>
   simp only[ZW,HT.sX,lJ,show(1:Int)>0 by decide,iZ];by_cases h:i<0
   .simp only[h,iZ]<;>omega
   .simp only[h,if_false]<;>omega
 .cases hi with
  | none=>simp[ZW,HT.sX]
  | some i=>
   simp only[ZW,HT.sX,lJ,show(1:Int)>0 by decide,iZ];by_cases h:i<0
   .simp only[h,iZ]<;>omega
   .simp only[h,if_false]<;>omega
def CK(its:T0 Vl)(lo hi:Option Int):slicePick its.toArray lo hi Db=((its.drop (HT.sX its.length 0 lo)).take (HT.sX its.length its.length hi - HT.sX its.length 0 lo)).toArray:=by obtain⟨h1,h2,h3⟩:=FE lo hi its.toArray.size;unfold slicePick;rw[h1,h2,h3];simp only[sliceRange_one,pick_run,dA]<;>rfl
def U8(K:qp):V->Option Int->Option Int->Hp->VK->Prop:=λx lo hi H Q=>∃a xs,x=.ref a/\w9 K H a xs/\∀p,H p=Db->Q (.ref p) (upd H p (.lst (Bv xs lo hi)))
def Ia:SV X (U8 X.K):=by intro Wz s Y H x v vl vu lo hi sl Q I rx hs pl pu h;obtain⟨a,xs,rfl,hx,q⟩:=h;cases rx;obtain⟨its,r,ht,hz⟩:=I.list hx;have WE:=r.length;refine⟨"list",_,lh.lookup,ht.isList.typeIs,?_⟩;refine wpAny_getItem_list_slice ht.isList hs pl pu .none (by simp) ?_ (by rw[dA]<;>omega);rw[CK,<-WE];refine⟨.ref s.heap.objs.size,_,I.laid (t':=s.toks) (o:=.lst (Bv xs lo hi)) (λb ob q=>df _ q) (dw _) ?_,rfl,q _ (I.mQ.fresh (dw _))⟩;exact⟨eh (Aq xs lo hi) hz,_,0,(r.drop (HT.sX xs.length 0 lo)).take (HT.sX xs.length xs.length hi - HT.sX xs.length 0 lo),dI _ rfl⟩
def yo:V->Bool
 | .mL=>pc
 | .bl _=>pc
 | .int _=>pc
 | .str _=>pc
 | _=>lf
def Nu:V->V->Bool
 | .mL,.mL=>pc
 | .bl a,.bl b=>a==b
 | .bl a,.int b=>(if a then 1 else 0)==b
 | .int a,.bl b=>a==(if b then 1 else 0)
 | .int a,.int b=>a==b
 | .str a,.str b=>a==b
 | _,_=>lf
def Si(ry:qH y u)(rx:qH x v)(fy:yo y=pc)(fx:yo x=pc):SeqAt.EqAt A s u v (Nu y x):=by
 cases y with
 | mL=>
  cases ry;cases x with
  | mL=>cases rx;exact SeqAt.EqAt.same _
  | bl b=>cases rx;exact SeqAt.EqAt.none_bool b
  | int b=>obtain⟨t,rfl⟩:=rx;exact SeqAt.EqAt.none_int b t
  | str b=>obtain⟨t,rfl⟩:=rx;exact SeqAt.EqAt.none_str b t
  | _=>exact absurd (show lf=pc from fx) dC
 | bl a=>
  cases ry;cases x with
  | mL=>cases rx;exact SeqAt.EqAt.bool_none a
  | bl b=>cases rx;exact SeqAt.EqAt.bool_bool a b
  | int b=>obtain⟨t,rfl⟩:=rx;exact SeqAt.EqAt.bool_int a b t
  | str b=>obtain⟨t,rfl⟩:=rx;exact SeqAt.EqAt.bool_str a b t
  | _=>exact absurd (show lf=pc from fx) dC
 | int a=>
  obtain⟨t',rfl⟩:=ry;cases x with
  | mL=>cases rx;exact SeqAt.EqAt.int_none a t'
  | bl b=>cases rx;exact SeqAt.EqAt.int_bool a t' b
  | int b=>obtain⟨t,rfl⟩:=rx;exact SeqAt.EqAt.int_int a t' b t
  | str b=>obtain⟨t,rfl⟩:=rx;exact kF a t' b t
  | _=>exact absurd (show lf=pc from fx) dC
 | str a=>
  obtain⟨t',rfl⟩:=ry;cases x with
  | mL=>cases rx;exact SeqAt.EqAt.str_none a t'
  | bl b=>cases rx;exact SeqAt.EqAt.str_bool a t' b
  | int b=>obtain⟨t,rfl⟩:=rx;exact kG a t' b t
  | str b=>obtain⟨t,rfl⟩:=rx;exact SeqAt.EqAt.str_str a t' b t
  | _=>exact absurd (show lf=pc from fx) dC
 | _=>exact absurd (show lf=pc from fy) dC
def Fk(x:V)(u:Vl):Bool:=match u with
 | .none=>Nu .mL x
 | .bool b=>Nu (.bl b) x
 | .int i _=>Nu (.int i) x
 | .str z _=>Nu (.str z) x
 | _=>lf
def G7(r:qH y u)(f:yo y=pc):Fk x u=Nu y x:=by
 cases y with
 | mL=>cases r;rfl
 | bl b=>cases r;rfl
 | int i=>obtain⟨t,rfl⟩:=r;rfl
 | str z=>obtain⟨t,rfl⟩:=r;rfl
 | _=>exact absurd (show lf=pc from f) dC
theorem zm:∀{xs:T0 V} {us:T0 Vl},qA xs us->xs.all yo=pc->us.any (Fk x)=xs.any λy=>Nu y x
 | _,_,.nil,_=>rfl
 | y::xs,u::us,.cons r t,f=>by rw[fS,dY]at f;rw[fX,fX,G7 r f.1,zm t f.2]
theorem wn(rx:qH x v)(fx:yo x=pc):∀{xs:T0 V} {us:T0 Vl},qA xs us->xs.all yo=pc->∀u∈us,SeqAt.EqAt A s u v (Fk x u)
 | _,_,.nil,_=>λu hu=>by cases hu
 | y::xs,u::us,.cons r t,f=>λu' hu=>by
  rw[fS,dY]at f;rcases c9.mp hu with rfl|hu
  .rw[G7 r f.1];exact Si r rx f.1 fx
  .exact wn rx fx t f.2 u' hu
def inV(x:V)(xs:T0 V):Bool:=xs.any λy=>Nu y x
def UV(K:qp)(Ye:Bool):R2:=λx y H Q=>∃p xs,y=.ref p/\(w9 K H p xs\/ve K H p xs)/\yo x=pc/\xs.all yo=pc/\Q (.bl (if Ye then !inV x xs else inV x xs)) H
def Jw:xq X (Op .In) (UV X.K lf):=by
 intro Wz s Y H x y v u Q I rx ry h;obtain⟨p,xs,rfl,hq,fx,fs,q⟩:=h;cases ry;rcases hq with hq|hq
 .obtain⟨its,r,pl,hz⟩:=I.list hq;refine SeqAt.in_listAt (Fk x) pl.isList (λw hw=>wn rx fx r fs w (by simpa using hw)) ⟨.bl _,H,I,rfl,?_⟩;rw[show its.toArray.any (Fk x)=its.any (Fk x)by simp,zm r fs];exact q
 .obtain⟨its,r,pl,hz⟩:=I.tuple hq;refine SeqAt.in_tupleAt (Fk x) pl (λw hw=>wn rx fx r fs w (by simpa using hw)) ⟨.bl _,H,I,rfl,?_⟩;rw[show its.toArray.any (Fk x)=its.any (Fk x)by simp,zm r fs];exact q
def Er:xq X (Op .NotIn) (UV X.K pc):=by
 intro Wz s Y H x y v u Q I rx ry h;obtain⟨p,xs,rfl,hq,fx,fs,q⟩:=h;cases ry;rcases hq with hq|hq
 .obtain⟨its,r,pl,hz⟩:=I.list hq;refine SeqAt.notIn_listAt (Fk x) pl.isList (λw hw=>wn rx fx r fs w (by simpa using hw)) ⟨.bl _,H,I,rfl,?_⟩;rw[show its.toArray.any (Fk x)=its.any (Fk x)by simp,zm r fs];exact q
 .obtain⟨its,r,pl,hz⟩:=I.tuple hq;refine SeqAt.notIn_tupleAt (Fk x) pl (λw hw=>wn rx fx r fs w (by simpa using hw)) ⟨.bl _,H,I,rfl,?_⟩;rw[show its.toArray.any (Fk x)=its.any (Fk x)by simp,zm r fs];exact q
def Ey:xq X (Op .NotIn) (λx y H Q=>∃i j,x=.str i/\y=.str j/\Q (.bl (!(!(Builtin.Str.occurrences j i 0 j.length 1).isEmpty))) H):=by intro Wz s Y H x y v u Q I rx ry h;obtain⟨i,j,rfl,rfl,q⟩:=h;obtain⟨t,rfl⟩:=rx;obtain⟨t',rfl⟩:=ry;exact notIn_str ⟨.bl _,H,I,rfl,q⟩
def wY:yq X (.builtin "len") (λxs H Q=>∃p ys,xs=[.ref p]/\(w9 X.K H p ys\/ve X.K H p ys)/\Q (.int ys.length) H):=by
 intro Wz s Y H xs us Q I r h;obtain⟨p,ys,rfl,hq,q⟩:=h;obtain⟨u,rfl,rx⟩:=wA r;cases rx;have hn:=yH;rcases hq with hq|hq
 .obtain⟨its,r',pl,hz⟩:=I.list hq;have WE:=r'.length;exact Calls.call_len_list pl.isList (by simp only[dA]<;>omega) ⟨.int ys.length,H,I.tok _,⟨s.toks+1,by rw[dA,WE]⟩,q⟩
 .obtain⟨its,r',pl,hz⟩:=I.tuple hq;have WE:=r'.length;exact len_tuple pl (by simp only[dA]<;>omega) ⟨.int ys.length,H,I.tok _,⟨s.toks+1,by rw[dA,WE]⟩,q⟩
def ED:yq X (.builtin "len") (λxs H Q=>∃z,xs=[.str z]/\z.length<=Ch/\Q (.int z.length) H):=by intro Wz s Y H xs us Q I r h;obtain⟨z,rfl,hz,q⟩:=h;obtain⟨u,rfl,t,rfl⟩:=wA r;have hn:=yH;exact len_str (by omega) ⟨.int z.length,H,I.tok _,⟨_,rfl⟩,q⟩
def E1:yq X (.type "list") (λxs H Q=>∃p ys,xs=[.ref p]/\(w9 X.K H p ys\/ve X.K H p ys)/\∀l,H l=Db->Q (.ref l) (upd H l (.lst ys))):=by
 intro Wz s Y H xs us Q I r h;obtain⟨p,ys,rfl,hq,q⟩:=h;obtain⟨u,rfl,rx⟩:=wA r;cases rx;have WB:∀(its:T0 Vl),qA ys its->ys.length<=Ch->∀(h':No) (c':Nat),(∀b o',s.heap.get? b=Fa o'->h'.get? b=Fa o')->
   h'.get? s.heap.objs.size=Fa {cls:=.type "list",dict:=none,data:=.seq its.toArray c',slots:=#[]}->EP X Wz Y Q (.ref s.heap.objs.size) {s with heap:=h'}:=λits r' hz h' c' kp e=>
  ⟨.ref s.heap.objs.size,_,I.laid (t':=s.toks) kp (dw _) (show sj X.prog X.w _ h' _ (.lst ys)from⟨hz,its,c',r',e⟩),rfl,q _ (I.mQ.fresh (dw _))⟩
 rcases hq with hq|hq
 .obtain⟨its,r',pl,hz⟩:=I.list hq;have WE:=r'.length;obtain⟨o,ho,hc,n,hd⟩:=pl.isList;exact call_list_seq p (.inl rfl) ho hc hd (λh' c' kp e=>WB its r' hz h' c' kp e) (by simp only[dA]<;>omega)
 .obtain⟨its,r',pl,hz⟩:=I.tuple hq;have WE:=r'.length;obtain⟨o,ho,hc,n,hd⟩:=pl;exact call_list_seq p (.inr rfl) ho hc hd (λh' c' kp e=>WB its r' hz h' c' kp e) (by simp only[dA]<;>omega)
def wj:yq X (.type "tuple") (λxs H Q=>∃p ys,xs=[.ref p]/\((w9 X.K H p ys/\∀l,H l=Db->Q (.ref l) (upd H l (.tup ys)))\/(ve X.K H p ys/\Q (.ref p) H))):=by
 intro Wz s Y H xs us Q I r h;obtain⟨p,ys,rfl,h⟩:=h;obtain⟨u,rfl,rx⟩:=wA r;cases rx;rcases h with⟨hq,q⟩|⟨hq,q⟩
 .obtain⟨its,r',pl,hz⟩:=I.list hq;have WE:=r'.length;refine call_tuple_list pl.isList (λh' kp=>?_) (by simp only[dA]<;>omega);have I1:Inv X Wz Y H {s with heap:=h'}:=I.kept (t':=s.toks) kp;have I2:Inv X Wz Y (upd H h'.objs.size (.tup ys)) {s with heap:=h'.push {cls:=.type "tuple",data:=.seq its.toArray}}:=
   I1.laid (t':=s.toks) (λb o e=>df _ e) (dw _) (show sj X.prog X.w _ _ _ (.tup ys)from⟨hz,its,r',Ed.new _ _⟩)
  exact⟨.ref h'.objs.size,_,I2,rfl,q _ (I1.mQ.fresh (dw _))⟩
 .obtain⟨its,r',pl,hz⟩:=I.tuple hq;exact call_tuple_same pl ⟨.ref p,H,I,rfl,q⟩
def UZ(K:qp)(T:String)(x:V)(H:Hp):Prop:=match x with
 | .str _=>T="str"
 | .int _=>T="int"
 | .ref p=>(T="list"/\∃xs,w9 K H p xs)\/(T="tuple"/\∃o,K.lookup p=Fa o/\o.cls=.type "tuple"/\o.dict=Db)\/
   (T="dict"/\((∃kvs,H p=Fa (.dK kvs))\/∃kvs,H p=Fa (.dT kvs)))\/(T="set"/\∃S n,H p=Fa (.set S n))
 | _=>False
def Rk(I:Inv X Wz Y H s)(r:qH x v)(ty:UZ X.K T x H):
  s.TypeIs v T/\∀a,v=.ref a->∃ob,s.heap.get? a=Fa ob/\ob.dict=Db:=by
 cases x with
 | str z=>obtain⟨t,rfl⟩:=r;cases(show T="str" from ty);exact⟨typeIs_str s z t,λ_ e=>nomatch e⟩
 | int i=>obtain⟨t,rfl⟩:=r;cases(show T="int" from ty);exact⟨lT s i t,λ_ e=>nomatch e⟩
 | ref p=>
  cases r;rcases ty with⟨rfl,xs,hq⟩|⟨rfl,o,hk,hc,hd⟩|⟨rfl,hk⟩|⟨rfl,S,n,hk⟩
  .obtain⟨its,_,pl,_⟩:=I.list hq;refine⟨pl.isList.typeIs,λa e=>?_⟩;cases e;obtain⟨o,n,e,c,hd,_⟩:=pl;exact⟨o,e,hd⟩
  .refine⟨⟨o,I.m7 p o hk,hc⟩,λa e=>?_⟩;cases e;exact⟨o,I.m7 _ o hk,hd⟩
  .have z:∃o,s.heap.get? p=Fa o/\o.ExactDict:=by
    rcases hk with⟨kvs,hk⟩|⟨kvs,hk⟩
    .obtain⟨_,_,_,_,o,_,_,e,ex,_⟩:=I.mQ p _ hk;exact⟨o,e,ex⟩
    .obtain⟨_,_,_,_,o,_,_,e,ex,_⟩:=I.mQ p _ hk;exact⟨o,e,ex⟩
   obtain⟨o,e,ex⟩:=z;refine⟨⟨o,e,ex.1⟩,λa e2=>?_⟩;cases e2;exact⟨o,e,ex.2.1⟩
  .obtain⟨o,_,_,_,e,ex,_⟩:=I.mQ p _ hk;refine⟨⟨o,e,ex.1⟩,λa e2=>?_⟩;cases e2;exact⟨o,e,ex.2.1⟩
 | _=>exact False.elim ty
def Ws(K:qp)(T:String)(r:V->T0 V->Hp->VK->Prop)(to:TE)(t:TA):TE:=λY H Q=>to Y H λx H1=>UZ K T x H1/\t Y H1 λxs H2=>r x xs H2 Q
def S5(pa:PlainAttrs T)(slot:Slot T name id)(hty:typeOf (.builtin id)=pure (.type "method_descriptor"))(hm:V6 X id r)(ho:PE X o to)(ha:PA X (e::es) t) (WU:sK o name X.env (wp o X.env)=wp o X.env:=by rfl)
  (XT:((Ix WH (Tl (e::es) X.env)).all (λx=>!x.1)&&(xL WH (Ps [] X.env)).all (λx=>x.1.isSome)
   &&decide ((e::es).length+([]:T0 ZV).length+(if ([]:T0 ZV).isEmpty then 0 else 1)<30))=pc:=by rfl)
  (W8:(WD.endLine==WH.line)=pc:=by rfl) (hs:Bg X e es:=by rfl) (WQ:CC X WH es:=by rfl):
  PE X (.Call (.Attribute o name WD) (e::es) [] WH) (Ws X.K T r to t):=by
 intro Wz s Y H Q I h;refine wpAny_Call_method_late WU XT W8 rfl (sy (ho Wz s Y H _ I h) λv s1 zz=>?_);obtain⟨x,H1,I1,r1,ty,q1⟩:=zz;obtain⟨h1,h2⟩:=Rk I1 r1 ty;refine⟨T,id,pa,slot,hty,h1,h2,?_⟩;have hA:=ha WH Wz s1 Y H1 _ I1 q1;rw[hs]at hA ⊢;refine Calls.callWith_builtin (by show(lf||(Ix WH (Tl es X.env)).any (·.1))=lf;rw[WQ]<;>rfl) (Calls.evalArgs_plain ?_);exact sy hA λus s2 zz=>x5 zz λvs H2 I2 r2 q2=>hm Wz s2 Y H2 x vs v us Q I2 r1 r2 q2
end
def Wf(X:Cx)(id:String)(r:V->T0 V->Hp->VK->Prop):Prop:=
 ∀(Wz:QQY) (s:Sd) (Y:St) (H:Hp) (x:V) (xs:T0 V) (v:Vl) (us:T0 Vl) (Q:VK),Inv X Wz Y H s->qH x v->qA xs us->r x xs H Q->
  pi (Tk X.prog X.w) X.A (call (.builtin id) (v::us)) (EP X Wz Y Q) X.xe s
def qA.one:∀{x:V} {us:T0 Vl},qA [x] us->∃u,us=[u]/\qH x u
 | _,_,.cons r .nil=>⟨_,rfl,r⟩
theorem qA.rep(h:qA xs us):∀k:Nat,qA (List.replicate k xs).flatten (List.replicate k us).flatten
 | 0=>.nil
 | k+1=>by rw[eJ,eJ,fU,fU];exact qA.append h (qA.rep h k)
theorem Dq(its:T0 Vl):∀(k:Nat) (acc:T0 Vl),List.foldl (λx1 x2=>x1++x2) acc.toArray (List.replicate k its.toArray)=(acc++(List.replicate k its).flatten).toArray
 | 0,acc=>by simp
 | k+1,acc=>by
  have e:acc.toArray++its.toArray=(acc++its).toArray:=by simp
  have e2:(acc++its)++(List.replicate k its).flatten=acc++(List.replicate (k+1) its).flatten:=by rw[eJ,fU,fj]
  rw[<-e2,<-Dq its k (acc++its),<-e,eJ,gb]
variable {Wz:T0 (Uf × Obj)}{Y:St}{H:Hp}{s:Sd}{l:Uf}{xs ys zs:T0 V}
section
variable {b:Uf}
def Inv.lset{its its':T0 Vl}{n:Nat}{f:Array Vl->Array Vl}{t':Nat}(I:Inv X Wz Y H s)(hH:H l=Fa (.lst xs)) (e:s.heap.get? l=Fa {cls:=.type "list",data:=.seq its.toArray n}) (hf:f its.toArray=its'.toArray) (hv:qA ys its') (hz:ys.length<=Ch):
  Inv X Wz Y (upd H l (.lst ys)) {s with heap:=s.heap.update l (Obj.mapSeq f),toks:=t'}:=by
 have q:=PySem.IsL.update e f;rw[hf]at q;refine I.write (x:=l) (e:=l) (by rw[hH];exact trivial) (.inl rfl) (λb' u hb hu=>(gg s.heap (Obj.mapSeq f) (dG hb)).trans hu) ⟨_,q⟩ ?_;exact⟨hz,its',_,hv,q⟩
def Inv.oO{t':Nat}(I:Inv X Wz Y H s)(hv:qA ys its)(hz:ys.length<=Ch):
  Inv X Wz Y (upd H s.heap.objs.size (.lst ys)) {s with heap:=s.heap.push {cls:=.type "list",data:=.seq its.toArray},toks:=t'}:=
 I.laid (λ_ _ q=>df _ q) (dw _) ⟨hz,its,0,hv,dI _ rfl⟩
def Inv.fresh(I:Inv X Wz Y H s):H s.heap.objs.size=Db:=I.mQ.fresh (dw _)
def Inv.oK(I:Inv X Wz Y H s)(hH:H l=Fa (.lst xs)):xs.length<=Ch/\∃(its:T0 Vl) (n:Nat),qA xs its/\xs.length=its.length/\s.heap.get? l=Fa {cls:=.type "list",data:=.seq its.toArray n}:=by obtain⟨z,its,n,r,e⟩:=I.mQ l _ hH;exact⟨z,its,n,r,r.length,e⟩
def KR{n:Nat}(h:n<=Ch):Builtin.List.listTooLong n=lf:=by unfold Builtin.List.listTooLong;exact eP (by omega)
end
def Pi:V->T0 V->Hp->VK->Prop:=λx vs H Q=>∃l xs y,x=.ref l/\vs=[y]/\H l=Fa (.lst xs)/\xs.length<Ch/\Q .mL (upd H l (.lst (xs++[y])))
def Ku:Wf X "list.append" Pi:=by intro Wz s Y H x vs v us Q I rx rv h;obtain⟨l,xs,y,rfl,rfl,hH,hz,q⟩:=h;cases rx;obtain⟨u,rfl,ru⟩:=rv.one;obtain⟨z,its,n,r,hl,e⟩:=I.oK hH;refine js F.slot_list_append ⟨_,e,rfl⟩ F.entry_list_append (F.args_list_append_2 _ _) (PySem.list_append l its.toArray n u (by rw[dA];omega)) ⟨e,?_⟩;refine⟨.mL,_,I.lset (its':=its++[u]) hH e (by simp) (r.append (.cons ru .nil)) ?_,rfl,q⟩;rw[cY,dJ];omega
def VU:R2:=λx y H Q=>∃l k xs,x=.ref l/\y=.int k/\H l=Fa (.lst xs)/\-(2 ^ 63)<=k/\k<2 ^ 63/\xs.length*k.toNat<=Ch/\
 ∀p,H p=Db->Q (.ref p) (upd H p (.lst (List.replicate k.toNat xs).flatten))
def NG{α:Type}(xs:List α)(k:Nat):(List.replicate k xs).flatten.length=k*xs.length:=by
 induction k with
 | zero=>simp
 | succ k ih=>rw[eJ,fU,cY,ih,mj,Nat.add_comm]
def R9:xq X (ZP .Mult) VU:=by
 intro Wz s Y H x y v u Q I rx ry h;obtain⟨l,k,xs,rfl,rfl,hH,h1,h2,hz,q⟩:=h;cases rx;obtain⟨t,rfl⟩:=ry;obtain⟨z,its,n,r,hl,e⟩:=I.oK hH;have WE:its.toArray.size*k.toNat<=Ch:=by rw[dA,<-hl];exact hz
 have hcap:¬its.toArray.size*k.toNat>(2 ^ 63 - 1) / 8:=by
  have:(Ch:Nat)<=(2 ^ 63 - 1) / 8:=by decide
  omega
 have W9:¬(!Builtin.List.listFitsIndex k)=pc:=by rw[fitsIndex_both h1 h2];exact dC
 have hlong:¬Builtin.List.listTooLong (its.toArray.size*k.toNat)=pc:=by rw[KR WE];exact dC
 have Yl:List.foldl (λx1 x2=>x1++x2) #[] (List.replicate (if its.toArray.isEmpty=pc then 0 else k.toNat) its.toArray)=(List.replicate k.toNat its).flatten.toArray:=by
  have f0:∀m:Nat,List.foldl (λx1 x2=>x1++x2) #[] (List.replicate m its.toArray)=(List.replicate m its).flatten.toArray:=λm=>by have:=Dq its m [];rw[d6]at this;exact this
  rw[f0];cases its with
  | nil=>simp
  | cons a r'=>rw[de (by simp)]
 refine wpAny_binaryOp_repeat_ref (T:="list") (U:="int") (by decide) ⟨_,e,rfl⟩ (λs'=>lT s' k t) noFill_list_mul F.fills_int_mul lU repeat_list F.slot_int_index.lookup
  (js lU (lT s k t) F.entry_int_rmul (F.args_int_rmul_2 _ _) (int___rmul___int_list k t l its.toArray n)
   ⟨e,rfl,⟨_,e,rfl⟩,js F.slot_list_mul ⟨_,e,rfl⟩ F.entry_list_mul (F.args_list_mul_2 _ _) (AutoListH.list___mul___list_int_3 l its.toArray n k t W9 hcap hlong) ⟨e,?_⟩⟩)
 rw[Yl];exact⟨.ref _,_,I.oO (t':=s.toks) (r.rep k.toNat) (by rw[NG,Nat.mul_comm];exact hz),rfl,q _ I.fresh⟩
variable {prog:Pg}{w:Wo}{A:Ar}{E:QQX}
end L2
namespace Att
open PySem PySem.W PySem.Calls PyProof.Rows
def AS:∀(ns:T0 Int) (vs:T0 Vl),WellAll P h vs (ns.map WData.int)->IntsAre vs ns:=by
 intro ns;induction ns with
 | nil=>intro vs w;rw[iN]at w;cases w;exact .nil
 | cons n ns ih=>
  intro vs w;rw[dZ]at w;cases w with
  | cons a b=>cases a;exact .cons _ _ (ih _ b)
def Kj{l:OpenLaw}{n:Nat}(hn:l.most=Fa n){P:Params}{h:No}{args:T0 WData}{Zr:T0 Vl} (Xr:l.row.toRowW.claim.pre args=pc) (hwl:WellAll P h Zr args):
  ∃a vs ns,Zr=[Value.ref a]/\args=[WData.list (ns.map WData.int)]/\h.get? a=Fa {cls:=.type "list",data:=.seq vs.toArray}/\IntsAre vs ns/\ns.length<=n:=by
 have hsh:WShape.hasAll [] args [.list .int]=pc:=(pre_splitW Xr).1;have hc:l.pre.holds [] {args:=args}=pc:=(pre_splitW Xr).2;obtain⟨d,r,rfl,h1,h2⟩:=hasAllW_cons hsh;obtain rfl:=hasAllW_nil h2;obtain⟨xs,rfl,h3⟩:=hasW_list h1;obtain⟨ns,rfl⟩:=items_int h3;have WE:ns.length<=n:=by
  unfold OpenLaw.pre at hc;have h4:(WTm.not (.lt (.lit (.int (n:Int))) (.len (.arg 0)))).holds [] {args:=[.list (ns.map .int)]}=pc:=by have h4:=(holds_andW hc).1;rw[hn]at h4;exact h4
  have h5:=condW_of h4 (w_not (w_lt w_lit (w_len_list (w_arg rfl))));rw[cV]at h5;refine Nat.le_of_not_lt λq=>?_;have q':(n:Int)<((ns.length:Nat):Int):=by omega
  first
   | (rw[dX q']at h5;exact absurd h5 (by decide))
   | (simp at h5;omega)
 cases hwl with
 | cons w1 w2=>
  cases w2;cases w1 with
  | list ho W1=>exact⟨_,_,ns,rfl,rfl,ho,AS ns _ W1,WE⟩
def J1(l:OpenLaw)(args:T0 WData):l.row.toRowW.claim.post args (.bool pc) args=pc:=
 postW_of (r:=l.row.toRowW) (X:=(pc==pc))
  (show WShape.has [] (.bool pc) .bool=pc by first|rfl|decide|simp[WShape.has,WShape.arms,WShape.armsAll])
  (show(WTm.eq .res (.lit (.bool pc))).value [] {args:=args,res:=some (.bool pc),after:=args}=Fa (.bool (pc==pc))from w_eq_bool (w_res rfl) w_lit) rfl
def attach_call{l:OpenLaw}{n:Nat}{YP:Wo->No->Prop}{d:DefRec} (hn:l.most=Fa n) (Y5:d.params.defaults=[]) (call:∀(w:Wo) (s₀ s₁:Sd) (mg mb:QQZ) (fa:Uf) (o:Obj) (pm cd Xd:Vl) (a:Uf) (vs:T0 Vl) (ns:T0 Int),Ground q Xo [] XP w s₀ mg mb s₁.heap->YP w s₁.heap->
   s₁.heap.get? fa=Fa o->o.data=.func (docDef d.name d.params d.body d.scope pm cd Xd)->s₁.heap.CodeRec cd d.name->mg d.name=Fa (.ref fa)->
   s₁.heap.get? a=Fa {cls:=.type "list",data:=.seq vs.toArray}->IntsAre vs ns->ns.length<=n->s₁.gens=#[]->
   ZZ (Tk l.prog w) callerA (.call (.ref fa) ⟨[.ref a],[]⟩) (λr s'=>r=.ok (.ret (.bool pc))/\OldK s₁.heap s'.heap/\s'.os=s₁.os/\Z1 s'.gens) s₁):
  WalkO q Xo XP YP l.row.toRowW d [] (λf vs=>PySem.call f vs):=by
 intro w s₀ s₁ mg mb G Y fa o pm cd Xd dV kV ho hd XO hD hmg hg args Zr as Xr hlay hrd hwl hlo;obtain rfl:dV=.none:=Dflts.none hD Y5;obtain rfl:kV=.none:=Dflts.noKw hD;obtain⟨a,vs,ns,rfl,rfl,Zs,Ym,WE⟩:=Kj hn Xr hwl;refine enter_call (gu (call w s₀ s₁ mg mb fa o pm cd Xd a vs ns G Y ho (fd_plain hd) XO hmg Zs Ym WE hg) λr s' hq=>?_);obtain⟨rfl,h2,h3,h4⟩:=hq;exact⟨.inl ⟨.bool pc,.bool pc,[],rfl,λ_=>rfl,.bool pc,J1 l _,λ_=>⟨List.Pairwise.nil,λ_ hm=>(nomatch hm)⟩⟩,h2,h3,h4⟩
variable {prog:Pg}{w:Wo}{A:Ar}{E:QQX}{s:Sd}{K:Frag}
end Att
namespace L2
theorem DP:∀{vs:T0 Vl} {ns:T0 Int},IntsAre vs ns->qA (ns.map V.int) vs
 | _,_,.nil=>.nil
 | _,_,.cons n t h=>.cons ⟨t,rfl⟩ (DP h)
def MH(H:Hp):Prop:=∀b,H b=Db\/∃o xs,H b=Fa (.frz o (.lst xs))
def Nm{P:Pg}{w:Wo}{K:qp}{mg mb:QQZ}{CX:Kw}{fa a:Uf}{fd:Rs}{x:Str}{sp:Sp}{s₁:Sd}{vs:T0 Vl} (KX:K.In s₁.heap) (hns:s₁.heap.Ns wv mg) (hb:s₁.heap.Ns builtinsNs mb) (hbb:∀x:Str,x≠"__name__"->mb x=zn x) (hlim:s₁.heap.NoLimit) (hg:s₁.gens=#[]) (ha:s₁.heap.get? a=Fa {cls:=.type "list",data:=.seq vs.toArray}) (hi:IntsAre vs ns) (hl:ns.length<=Ch) (hr:rX k callerA)
  (F:∀base:No,K.In base->base.Ns wv mg->xp P w K mg base CX k fa fd [x] sp) (hbind:∀(s:Sd) (u:Vl),BindsTo s fd ⟨[u],[]⟩ [(x,u)])
  (X7:∀H:Hp,MH H->w9 K H a (ns.map V.int)->sp [.ref a] H (λv _=>v=.bl pc) λ_ _ _=>False)
  (hCX:∀H e s',CX [] H s₁ (λ_ _ _=>False) e s'->False):
  ZZ (Tk P w) callerA (.call (.ref fa) ⟨[.ref a],[]⟩) (λr s'=>r=.ok (.ret (.bool pc))/\OldK s₁.heap s'.heap/\s'.os=s₁.os/\Z1 s'.gens) s₁:=by
 have rv:=DP hi;have lenV:=hi.length;have core:∀H:Hp,MH H->w9 K H a (ns.map V.int)->yk P w H s₁.heap->(∀b,H b≠Db->b=a)->(H a≠Db->K.lookup a=Db)->
   ZZ (Tk P w) callerA (.call (.ref fa) ⟨[.ref a],[]⟩) (λr s'=>r=.ok (.ret (.bool pc))/\OldK s₁.heap s'.heap/\s'.os=s₁.os/\Z1 s'.gens) s₁:=by
  intro H hO hS mQ hA hK;have X2:∀{b:Uf} {o:Obj},s₁.heap.get? b=Fa o->H b=Db->(Eh s₁.heap H).get? b=Fa o:=λe n=>KI e n;have noA:∀{b:Uf} {o:Obj} {es:Array DictEntry} {ep:Nat},s₁.heap.get? b=Fa o->o.data=.dict es ep->H b=Db:=λ{b o es ep} e d=>by
   cases q:H b with
   | none=>rfl
   | some u=>have e':b=a:=hA b (by rw[q];simp);subst e';rw[ha]at e;cases e;have d':Data.seq vs.toArray _=Data.dict es ep:=d;cases d'
  have nsK:∀{b:Uf} {m:QQZ},s₁.heap.Ns b m->(Eh s₁.heap H).Ns b m:=λ{b m} ⟨o,es,ep,e,d,r⟩=>⟨o,es,ep,X2 e (noA e d),d,r⟩;have hKb:K.In (Eh s₁.heap H):=λb o e=>X2 (KX b o e) (by
   cases q:H b with
   | none=>rfl
   | some u=>
    have e':b=a:=hA b (by rw[q];simp);subst e';rw[hK (by rw[q];simp)]at e;cases e)
  have hM:Mod K mg (Eh s₁.heap H):=⟨hKb,nsK hns,⟨mb,nsK hb,hbb⟩,let⟨mc,h1,h2⟩:=hlim;⟨mc,nsK h1,h2⟩⟩;have e0:Hz P w K mg (Eh s₁.heap H) callerA [] s₁ H:=⟨rfl,hM,λb o e=>NS e,mi (Jr _ _),trivial,λb hb=>absurd (show b∈([]:QXQ)from hb) (by simp),mQ,.of_eq hg⟩;refine gu ((F _ hKb (nsK hns)).run callerA [] s₁ H ⟨[.ref a],[]⟩ [.ref a] [.ref a] _ _ hr e0 (hbind s₁ (.ref a)) (.cons rfl .nil) (X7 H hO hS)) λr s' h=>?_;cases r with
  | error e=>exact(hCX H e s' h).elim
  | ok fl=>
   cases fl with
   | next=>exact False.elim h
   | brk=>exact False.elim h
   | cont=>exact False.elim h
   | ret u=>
    obtain⟨v,H',os,bare,un,Zt,r',q⟩:=h;have q':v=.bl pc:=q;subst q';obtain rfl:u=Value.bool pc:=r';refine⟨rfl,OldK.of_keep λb o e=>?_,os,bare⟩;cases q:H b with
    | none=>exact un.keep b o e q (by intro z;exact absurd (show b∈([]:QXQ)from z) (by simp)) (by simp)
    | some u=>
     rcases hO b with z|⟨ob,xs,z⟩
     .rw[q]at z;cases z
     .have z2:=un.nv b ob _ z;obtain⟨e1,_⟩:=mQ b _ z;obtain⟨e2,_⟩:=Zt b _ z2;rw[e]at e1;cases e1;exact e2
 cases hk:K.lookup a with
 | some o=>have e:=KX a o hk;rw[ha]at e;cases e;refine core (λ_=>Db) (λ_=>.inl rfl) (.inr ⟨_,vs.toArray,_,hk,rfl,rfl,rfl,by rw[dA,lenV];exact hl,by simpa using rv⟩) (λb u z=>by have z':(Db:Option HO)=Fa u:=z;cases z') (λb z=>absurd rfl z) λz=>absurd rfl z
 | none=>
  refine core (λb=>if b=a then Fa (.frz {cls:=.type "list",data:=.seq vs.toArray} (.lst (ns.map V.int)))else Db) (λb=>?_) (.inl (.inr ⟨{cls:=.type "list",data:=.seq vs.toArray},dh rfl⟩)) (λb u z=>?_) (λb z=>?_) λ_=>hk
  .by_cases hb:b=a
   .exact .inr ⟨_,_,dh hb⟩
   .exact .inl (de hb)
  .by_cases hb:b=a
   .have z':=(dh hb).symm.trans z;cases z';subst hb;exact⟨ha,by rw[cV];exact hl,vs,_,rv,ha⟩
   .have z':=(de hb).symm.trans z;cases z'
  .by_cases hb:b=a
   .exact hb
   .exact absurd (de hb) z
def OY{l:W.OpenLaw}{n k:Nat}{q:Pg}{Xo:QQQ}{XP:(QQZ)->No->Prop}{YP:Wo->No->Prop}{d:DefRec}{K:Params->qp}{CX:Wo->Kw}{sp:Wo->Sp}{x:Str} (hn:l.most=Fa n) (Zm:n<=Ch) (Y5:d.params.defaults=[]) (hr:rX k callerA) (hY:∀(w:Wo) (h:No),YP w h->(K w.params).In h) (F:∀(w:Wo) (mg:QQZ) (fa:Uf) (h:No),(K w.params).In h->h.Ns wv mg->mg d.name=Fa (.ref fa)->
   ∃fd:Rs,(∀(s:Sd) (u:Vl),BindsTo s fd ⟨[u],[]⟩ [(x,u)])/\
    ∀base:No,(K w.params).In base->base.Ns wv mg->xp l.prog w (K w.params) mg base (CX w) k fa fd [x] (sp w))
  (X7:∀(w:Wo) (H:Hp) (a:Uf) (ns:T0 Int),ns.length<=n->MH H->w9 (K w.params) H a (ns.map V.int)->sp w [.ref a] H (λv _=>v=.bl pc) λ_ _ _=>False)
  (hCX:∀(w:Wo) (H:Hp) (s:Sd) (e:Vl) (s':Sd),CX w [] H s (λ_ _ _=>False) e s'->False):
  W.WalkO q Xo XP YP l.row.toRowW d [] (λf vs=>PySem.call f vs):=by
 refine Att.attach_call hn Y5 λw s₀ s₁ mg mb fa o pm cd Xd a vs ns G Y ho hd XO hmg Zs Ym WE hg=>?_;have KX:=hY w _ Y;obtain⟨fd,hb,hF⟩:=F w mg fa _ KX G.T.g hmg;exact Nm KX G.T.g G.T.b G.T.builtins G.T.nolimit hg Zs Ym (eh WE Zm) hr hF hb (λH hO hS=>X7 w H a ns WE hO hS) λH e s'=>hCX w H s₁ e s'
def NN(s:sB)(j:Nat):sB:=match s with
 | .ClassDef _ _ _ body _ _ _ _ _ _ _=>body.getD j (.Pass ⟨0,0,0,0⟩)
 | _=>.Pass ⟨0,0,0,0⟩
def um(s:sB):Arguments:=match s with
 | .FunctionDef _ a _ _ _ _ _ _ _ _=>a
 | _=>{posonlyargs:=[],args:=[],vararg:=none,kwonlyargs:=[],kw_defaults:=[],kwarg:=none,defaults:=[]}
def rO(s:sB):T0 sB:=match s with
 | .FunctionDef _ _ b _ _ _ _ _ _ _=>b
 | _=>[]
def pZ(s:sB):XV:=match s with
 | .FunctionDef _ _ _ _ _ _ sc _ _ _=>sc
 | _=>{kind:=.function,names:=[],isGenerator:=false,isCoroutine:=false}
abbrev Nt:Kw:=λ_ _ _ _ _ _=>False
abbrev E0:XK:=λ_ _ _=>False
def GS:Cr Nt X E0:=λ_ _ _ _ _ _ _ h=>h.elim
structure Od(K:qp)(x qual:Str)(st:sB)(f:Uf)(fd:Rs):Prop where
 ex:∃(oc:Vl) (od:Option Uf) (kV Xd pm:Vl) (an:Option Uf) (WJ ct:Vl) (Xt:Array (Option Vl)),
  fd=W.fnOf x qual (um st) (rO st) (pZ st) .none kV Xd pm an WJ ct/\K.lookup f=Fa ⟨oc,od,.func fd,Xt⟩/\W.codeIn K WJ qual=pc
 kp:W.keepIn K (.ref f)=pc
variable {P:Pg}{K:qp}{mg:QQZ}{base:No}
section
variable {w:Wo}
def Od.ok{st:sB}{sp:Sp}(F:Od K x qual st f fd)(S:sV N ps (pZ st))(len:∀vs H Q E,sp vs H Q E->vs.length=ps.length) (WT:∀(WJ:Vl) (A:Ar) (outer:T0 Env) (s:Sd) (H:Hp) (vs:T0 V) (Q:VK) (E:XK),rX k (A.deeper (dL qual (pZ st) s.heap.objs.size f WJ))->sp vs H Q E->
   ∃t,Bz (vp Nt P w K mg base N qual (pZ st) f WJ A outer s H E).ou (rO st) t/\t {nx:=λ_ H'=>Q .mL H',rt:=Q} (start N vs) H):xp P w K mg base Nt (k+1) f fd ps sp:=by
 obtain⟨oc,od,kV,Xd,pm,an,WJ,ct,Xt,rfl,lk,XO⟩:=F.ex;refine KL lk XO S len λA outer s H vs Q E hr X7=>?_;obtain⟨t,h,q⟩:=WT WJ A outer s H vs Q E hr X7;exact⟨t,h.ou,q⟩
def Od.binds{st:sB}{ps:QQQ}(F:Od K x qual st f fd) (h:∀(kV Xd pm:Vl) (an:Option Uf) (WJ ct:Vl) (us:T0 Vl),us.length=ps.length->bindArgs (W.fnOf x qual (um st) (rO st) (pZ st) .none kV Xd pm an WJ ct) ⟨us,[]⟩=pure (ps.zip us)):uM K fd ps []:=by
 obtain⟨oc,od,kV,Xd,pm,an,WJ,ct,Xt,rfl,lk,XO⟩:=F.ex;exact .all (h kV Xd pm an WJ ct)
def KP{st:sB}{oc:Vl}{od an:Option Uf}{Xt:Array (Option Vl)}{kV Xd pm WJ ct:Vl}(l:K.lookup f=Fa ⟨oc,od,.func (W.fnOf x qual (um st) (rO st) (pZ st) .none kV Xd pm an WJ ct),Xt⟩) (c:W.codeIn K WJ qual=pc) (k:W.keepIn K (.ref f)=pc):Od K x qual st f (W.fnOf x qual (um st) (rO st) (pZ st) .none kV Xd pm an WJ ct):=⟨⟨oc,od,kV,Xd,pm,an,WJ,ct,Xt,rfl,l,c⟩,k⟩
end
variable {X:Cx}
def pv(i:Nat){x:Str}{pos:Pos}(hN:X.N[i]?=Fa x:=by rfl)(hv:Ta X.env.scope x:=by first|exact Or.inl rfl|exact Or.inr (Or.inl rfl)|exact Or.inr (Or.inr rfl))(hd:yR x:=by decide)
  (XO:(x==("__classdict__":Str))=lf:=by decide):PE X (.Name x pos) (HC i):=RM hN hv hd XO
def C5{A B:Prop}(h:B):if lf=pc then A else B:=by rw[de dC];exact h
def JL{A B:Prop}(h:A):if pc=pc then A else B:=by rw[dh rfl];exact h
def qg{c A B:Prop}[Decidable c](h1:c->A)(h2:¬c->B):if c then A else B:=by
 by_cases h:c
 .rw[dh h];exact h1 h
 .rw[de h];exact h2 h
def Oj(H H':Hp):Prop:=∀b o,H b=Fa o->H' b=Fa o
def Oj.trans(a:Oj H H1)(b:Oj H1 H2):Oj H H2:=λc o h=>b c o (a c o h)
section
variable {κ:Type}[DecidableEq κ]
def wK(kvs:T0 (κ×V))(k:κ):Option V:=(kvs.find? λkv=>decide (kv.1=k)).map (·.2)
def yx(kvs:T0 (κ×V))(k:κ)(v:V):T0 (κ×V):=
 if (kvs.any λkv=>decide (kv.1=k))=pc then kvs.map (λkv=>if kv.1=k then(kv.1,v)else kv)else kvs++[(k,v)]
def BL{p:κ×V}{r:T0 (κ×V)}{k:κ}(e:p.1=k):wK (p::r) k=Fa p.2:=by simp[wK,fA,e]
def Cv{p:κ×V}{r:T0 (κ×V)}{k:κ}(e:¬p.1=k):wK (p::r) k=wK r k:=by simp[wK,fA,e]
theorem Gr(k:κ):∀kvs:T0 (κ×V),(kvs.any λkv=>decide (kv.1=k))=(wK kvs k).isSome
 | []=>rfl
 | p::r=>by
  rw[fX];by_cases e:p.1=k
  .simp only[BL e,dX e,hU,Option.isSome_some]
  .rw[Cv e,eP e,fN];exact Gr k r
def Aw(kvs:T0 (κ×V))(k:κ)(v:V):(yx kvs k v).length<=kvs.length+1:=by
 unfold yx;split
 .rw[cV];omega
 .rw[cY,eB,dO];omega
def yl.mZ(r:yl o u):o.isSome=u.isSome:=by
 cases o with
 | none=>cases u with
  | none=>rfl
  | some _=>exact(show False from r).elim
 | some _=>cases u with
  | none=>exact(show False from r).elim
  | some _=>rfl
def KV.val(r:KV kvs vs)(k:κ):yl (wK kvs k) (valueAt vs k):=by
 unfold KV at r;induction r with
 | nil=>exact True.intro
 | @cons p q ps qs h t ih=>
  obtain⟨h1,h2⟩:=h;by_cases e:p.1=k
  .have e':q.1=k:=h1.symm.trans e;have b:valueAt (q::qs) k=Fa q.2:=by simp[valueAt,fA,e']
   rw[BL e,b];exact h2
  .have e':¬q.1=k:=λz=>e (h1.trans z);have b:valueAt (q::qs) k=valueAt qs k:=by simp[valueAt,fA,e']
   rw[Cv e,b];exact ih
def KV.any(r:KV kvs vs)(k:κ):(kvs.any λkv=>decide (kv.1=k))=vs.any λkv=>decide (kv.1=k):=by
 unfold KV at r;induction r with
 | nil=>rfl
 | cons h t ih=>rw[fX,fX,ih,h.1]
def KV.oC(r:KV kvs vs)(k:κ){y:V}{u:Vl}(ry:qH y u):
  KV (kvs.map λkv=>if kv.1=k then(kv.1,y)else kv) (vs.map λkv=>if kv.1=k then(kv.1,u)else kv):=by
 unfold KV at r ⊢;induction r with
 | nil=>exact .nil
 | @cons p q ps qs h t ih=>
  rw[dZ,dZ];refine .cons ?_ ih;obtain⟨h1,h2⟩:=h;by_cases e:p.1=k
  .rw[dh e,dh (h1.symm.trans e)];exact⟨h1,ry⟩
  .rw[de e,de (λz=>e (h1.trans z))];exact⟨h1,h2⟩
def KV.put(r:KV kvs vs)(k:κ){y:V}{u:Vl}(ry:qH y u):KV (yx kvs k y) (stored vs k u):=by
 unfold yx stored;rw[r.any k];by_cases e:(vs.any λkv=>decide (kv.1=k))=pc
 .rw[dh e,dh e];exact r.oC k ry
 .rw[de e,de e];exact mB r ⟨rfl,ry⟩
def KV.length(r:KV kvs vs):kvs.length=vs.length:=jh r
end
def DW(r:qH (kV k) u):(rD P w).is k u=pc:=by
 cases k with
 | inl i=>obtain⟨t,e⟩:=(show ∃t,u=Value.int i t from r);subst e;exact FL P w i t
 | inr x=>obtain⟨t,e⟩:=(show ∃t,u=Value.str x t from r);subst e;exact An P w x t
theorem DY:∀{ks:List qZ} {us:T0 Vl},qA (ks.map kV) us->ItemsAre (rD P w) ks us
 | [],_,r=>by rw[iN]at r;cases r;exact .nil
 | k::ks,_,r=>by
  rw[dZ]at r;cases r with
  | cons h t=>exact .cons (DW h) (DY t)
abbrev KT(H:Hp):T0 (List qZ×V)->T0 (List qZ×Uf×Vl)->Prop:=Paired λp q=>p.1=q.1/\H q.2.1=Fa (.tup (p.1.map kV))/\qH p.2 q.2.2
def KT.val(r:KT H kvs xs)(k:List qZ):yl (wK kvs k) ((atKey xs k).map (·.2)):=by
 induction r with
 | nil=>exact True.intro
 | @cons p q ps qs h t ih=>
  obtain⟨h1,_,h2⟩:=h;by_cases e:p.1=k
  .have e':q.1=k:=h1.symm.trans e;have b:atKey (q::qs) k=Fa q.2:=by simp[atKey,fA,e']
   rw[BL e,b];exact h2
  .have e':¬q.1=k:=λz=>e (h1.trans z);have b:atKey (q::qs) k=atKey qs k:=by simp[atKey,fA,e']
   rw[Cv e,b];exact ih
def KT.oC(r:KT H kvs xs)(k:List qZ){y:V}{u:Vl}(ry:qH y u):
  KT H (kvs.map λkv=>if kv.1=k then(kv.1,y)else kv) (xs.map (putAt k u)):=by
 induction r with
 | nil=>exact .nil
 | @cons p q ps qs h t ih=>
  rw[dZ,dZ];refine .cons ?_ ih;obtain⟨h1,h2,h3⟩:=h;unfold putAt;by_cases e:p.1=k
  .rw[dh e,dh (h1.symm.trans e)];exact⟨h1,h2,ry⟩
  .rw[de e,de (λz=>e (h1.trans z))];exact⟨h1,h2,h3⟩
def KT.put(r:KT H kvs xs)(k:List qZ){b:Uf}{y:V}{u:Vl}(hb:H b=Fa (.tup (k.map kV)))(ry:qH y u):
  KT H (yx kvs k y) (storedH xs k b u):=by
 have e:(kvs.any λkv=>decide (kv.1=k))=(atKey xs k).isSome:=by rw[Gr,(r.val k).mZ,gY]
 unfold yx storedH;rw[e];by_cases q:(atKey xs k).isSome=pc
 .rw[dh q,dh q];exact r.oC k ry
 .rw[de q,de q];exact mB r ⟨rfl,hb,ry⟩
def KT.keeps{H H':Hp}(r:KT H kvs xs)(ht:∀b ys,H b=Fa (.tup ys)->H' b=Fa (.tup ys)):KT H' kvs xs:=
 Paired.ow r λ_ _ z=>⟨z.1,ht _ _ z.2.1,z.2.2⟩
variable {H:Hp}{h:No}{a:Uf}
section
variable {w:Wo}
def Qu(ok:yk P w H h)(e:Rd H a u):sj P w H h a u:=e.ok ok
def FK{kvs:T0 (qZ×V)}(ok:yk P w H h)(e:Rd H a (.dK kvs)):kvs.length<=Ch/\(a==IN)=lf/\∃vs,KV kvs vs/\h.DictOf (rD P w) a vs:=
 show sj P w H h a (.dK kvs)from Qu ok e
def TY{kvs:T0 (qZ×V)}(ok:yk P w H h)(e:H a=Fa (.dK kvs)):kvs.length<=Ch/\(a==IN)=lf/\∃vs,KV kvs vs/\h.DictOf (rD P w) a vs:=FK ok (.inl e)
def Co{ks:List qZ}(ok:yk P w H h)(e:H a=Fa (.tup (ks.map kV))):(tupleKind (rD P w)).is h ks a:=by obtain⟨_,its,r,o,h1,h2,⟨n,h3⟩,_⟩:=(show sj P w H h a (.tup (ks.map kV))from ok a _ e);exact⟨o,its.toArray,n,h1,h2,h3,by simpa using DY r⟩
def Gz{kvs:T0 (List qZ×V)}(ok:yk P w H h)(e:Rd H a (.dT kvs)):kvs.length<=Ch/\(a==IN)=lf/\
  ∃xs,KT H kvs xs/\h.DictOfH (tupleKind (rD P w)) a xs:=by
 obtain⟨z,y,xs,r,o,es,ep,h1,h2,h3,h4,h5⟩:=(show sj P w H h a (.dT kvs)from Qu ok e);refine⟨z,y,xs,r,o,es,ep,h1,h2,h3,h4,λx hx=>?_,h5⟩;have all:∀{l:T0 (List qZ×V)} {m:T0 (List qZ×Uf×Vl)},KT H l m->∀x∈m,(tupleKind (rD P w)).is h x.1 x.2.1:=by
  intro l m q;induction q with
  | nil=>intro x hx;exact nomatch hx
  | @cons p q ps qs hq t ih=>
   intro x hx;rcases c9.mp hx with e|hx
   .subst e;exact Co ok (by rw[<-hq.1];exact hq.2.1)
   .exact ih x hx
 exact all r x hx
def TQ{kvs:T0 (List qZ×V)}(ok:yk P w H h)(e:H a=Fa (.dT kvs)):kvs.length<=Ch/\(a==IN)=lf/\
  ∃xs,KT H kvs xs/\h.DictOfH (tupleKind (rD P w)) a xs:=Gz ok (.inl e)
end
def AO(H:Hp)(a:Uf)(y:V)(r:Option V):Prop:=
 (∃kvs k,Rd H a (.dK kvs)/\y=kV k/\r=wK kvs k)\/∃kvs k b,Rd H a (.dT kvs)/\y=.ref b/\H b=Fa (.tup (k.map kV))/\r=wK kvs k
def Mh(H:Hp)(a:Uf)(y v:V)(H':Hp):Prop:=
 (∃kvs k,H a=Fa (.dK kvs)/\y=kV k/\kvs.length<Ch/\H'=upd H a (.dK (yx kvs k v)))\/
 ∃kvs k b,H a=Fa (.dT kvs)/\y=.ref b/\H b=Fa (.tup (k.map kV))/\kvs.length<Ch/\H'=upd H a (.dT (yx kvs k v))
def AO.k{H:Hp}{a:Uf}{kvs:T0 (qZ×V)}{k:qZ}(e:H a=Fa (.dK kvs)):AO H a (kV k) (wK kvs k):=.inl ⟨kvs,k,.inl e,rfl,rfl⟩
def Mh.k{H:Hp}{a:Uf}{kvs:T0 (qZ×V)}{k:qZ}(e:H a=Fa (.dK kvs))(hl:kvs.length<Ch):Mh H a (kV k) v (upd H a (.dK (yx kvs k v))):=.inl ⟨kvs,k,e,rfl,hl,rfl⟩
variable {Wz:T0 (Uf × Obj)}{Y:St}{y v:V}{u r:Vl}
section
variable {s:Sd}{o:Option V}{A:Ar}{E:QQX}
def Inv.big(I:Inv X Wz Y H s):IN<s.heap.objs.size:=by have h:wv<s.heap.objs.size:=(I.mod.glob.keeps I.bk).lt;exact jC (by decide) h
def J5{Q:QQX}(hu:A.units+1<wP)(I:Inv X Wz Y H s)(g:AO H a y (Fa v))(ry:qH y u)(h:∀w' s',Inv X Wz Y H s'->qH v w'->Q w' s'):
  pi (Tk X.prog X.w) A (TW (.ref a) u) Q E s:=by
 rcases g with⟨kvs,k,e,ey,l⟩|⟨kvs,k,b,e,ey,eb,l⟩
 .subst ey;obtain⟨z,hd,vs,rel,dd⟩:=FK I.mQ e;obtain⟨w',hw,YI⟩:=yl.some_of (v:=v) (o:=valueAt vs k) (by rw[l];exact rel.val k);exact wpAny_getItem_of (DW ry) dd.mapOf hw (h w' _ (I.tok _) YI)
 .subst ey;cases(show u=Value.ref b from ry);obtain⟨z,hd,xs,rel,dd⟩:=Gz I.mQ e;obtain⟨w',hw,YI⟩:=yl.some_of (v:=v) (o:=(atKey xs k).map (·.2)) (by rw[l];exact rel.val k);obtain⟨p,hp,WG⟩:=jY.mp hw;refine wpAny_getItem_heap (ip hu) (Co I.mQ eb) dd hp ?_;rw[WG];exact h w' _ (I.tok _) YI
def VP{Q:QQX}(hu:A.units+1<wP)(I:Inv X Wz Y H s)(g:AO H a y o)(ry:qH y u)(h:∀s',Inv X Wz Y H s'->Q (.bool o.isSome) s'):
  pi (Tk X.prog X.w) A (Op .In u (.ref a)) Q E s:=by
 rcases g with⟨kvs,k,e,ey,l⟩|⟨kvs,k,b,e,ey,eb,l⟩
 .subst ey;obtain⟨z,hd,vs,rel,dd⟩:=FK I.mQ e;refine wpAny_in_of (DW ry) hd dd.mapOf ?_;rw[<-(rel.val k).mZ,<-l];exact h _ (I.tok _)
 .subst ey;cases(show u=Value.ref b from ry);obtain⟨z,hd,xs,rel,dd⟩:=Gz I.mQ e;refine wpAny_in_heap (ip hu) (Co I.mQ eb) hd dd ?_;have q:=(rel.val k).mZ;rw[gY]at q;rw[<-q,<-l];exact h _ (I.tok _)
def OU{Q:QQX}(hu:A.units+1<wP)(I:Inv X Wz Y H s)(g:AO H a y o)(ry:qH y u)(h:∀s',Inv X Wz Y H s'->Q (.bool (!o.isSome)) s'):
  pi (Tk X.prog X.w) A (Op .NotIn u (.ref a)) Q E s:=by
 rcases g with⟨kvs,k,e,ey,l⟩|⟨kvs,k,b,e,ey,eb,l⟩
 .subst ey;obtain⟨z,hd,vs,rel,dd⟩:=FK I.mQ e;refine wpAny_notIn_of (DW ry) hd dd.mapOf ?_;rw[<-(rel.val k).mZ,<-l];exact h _ (I.tok _)
 .subst ey;cases(show u=Value.ref b from ry);obtain⟨z,hd,xs,rel,dd⟩:=Gz I.mQ e;refine wpAny_notIn_heap (ip hu) (Co I.mQ eb) hd dd ?_;have q:=(rel.val k).mZ;rw[gY]at q;rw[<-q,<-l];exact h _ (I.tok _)
def IU{t':Nat}(I:Inv X Wz Y H s)(mu:Ti (H a))(hs:Heap.SameBut a s.heap h')(he:∃q,h'.get? a=Fa q)(new:sj X.prog X.w (upd H a ob) h' a ob):
  Inv X Wz Y (upd H a ob) {s with heap:=h',toks:=t'}:=
 I.write (x:=a) (e:=a) mu (.inl rfl) (λb q hb z=>(hs.2 b hb).trans z) he new
def L9{H':Hp}{h':No}{kvs:T0 (qZ×V)}(z:kvs.length<=Ch)(hd:(a==IN)=lf)(rel:KV kvs vs)(dd:h'.DictOf (rD P w) a vs):
  sj P w H' h' a (.dK kvs):=⟨z,hd,vs,rel,dd⟩
def JT{Q:Unit->Sd->Prop}(hu:A.units+1<wP)(I:Inv X Wz Y H s)(g:Mh H a y v H')(ry:qH y u)(rv:qH v r)(h:∀s',Inv X Wz Y H' s'->Q () s'):
  pi (Tk X.prog X.w) A (setItem (.ref a) u r) Q E s:=by
 rcases g with⟨kvs,k,e,ey,l,eH⟩|⟨kvs,k,b,e,ey,eb,l,eH⟩
 .subst ey eH;obtain⟨z,hd,vs,rel,dd⟩:=TY I.mQ e;have hz:vs.length<=Ch:=by rw[<-rel.length];exact z
  have hl:(yx kvs k v).length<=Ch:=by have:=Aw kvs k v;omega
  refine wpAny_setItem_pairs (hsz:=hz) (DW ry) dd λh' dd' hs=>h _ ?_;have he:∃q,h'.get? a=Fa q:=let⟨q,_,_,hq,_⟩:=dd';⟨q,hq⟩;exact IU I (by rw[e];exact True.intro) hs he (L9 hl hd (rel.put k rv) dd')
 .subst ey eH;cases(show u=Value.ref b from ry);obtain⟨z,hd,xs,rel,dd⟩:=TQ I.mQ e;have hz:xs.length<=Ch:=by rw[<-jh rel];exact z
  have hl:(yx kvs k v).length<=Ch:=by have:=Aw kvs k v;omega
  refine wpAny_setItem_heap (hsz:=hz) (ip hu) (Co I.mQ eb) dd λh' dd' hs=>h _ ?_;obtain⟨q,es,ep,hq,h2,h3,h4,_,h5⟩:=dd';refine IU I (by rw[e];exact True.intro) hs ⟨q,hq⟩ ⟨hl,hd,_,(rel.put k eb rv).keeps λc ys ec=>?_,q,es,ep,hq,h2,h3,h4,h5⟩;rw[pS (S9 ec e (λz=>nomatch z))];exact ec
end
variable {kvs:T0 (qZ × V)}{k:qZ}
section
variable {s:Sd}{A:Ar}{E:QQX}
end
def GH{Wz:QQY}(I:Inv X Wz Y H s)(g:AO H a y o):s.TypeIs (.ref a) "dict":=by
 rcases g with⟨kvs,k,e,_,_⟩|⟨kvs,k,b,e,_,_,_⟩
 .obtain⟨_,_,vs,_,dd⟩:=FK I.mQ e;exact dd.typeIs
 .obtain⟨_,_,xs,_,dd⟩:=Gz I.mQ e;exact dd.typeIs
def Ux(td ty tv:TE):TS:=λD Y H=>tv Y H λv H1=>td Y H1 λx H2=>ty Y H2 λy H3=>∃a H4,x=.ref a/\Mh H3 a y v H4/\D.nx Y H4
variable {i e value:Go}{pos WL YH:Pos}{td ty tv:TE}
section
variable {o:Go}
def OM(hu:X.A.units+1<wP)(ho:PE X o td)(hi:PE X i ty)(hv:PE X value tv)(hs:TD value (Fa (.Subscript o i WL)) pos.line X.env=pure lf):
  PS X (.Assign [.Subscript o i WL] value pos) (Ux td ty tv):=by
 intro Wz s Y H D I h;refine wpAny_Assign_Subscript (sy (hv Wz s Y H _ I h) λr s1 zz=>x5 zz λv H1 I1 rv q1=>sy (ho Wz s1 Y H1 _ I1 q1) λu s2 zz=>x5 zz λx H2 I2 rx q2=>sy (hi Wz s2 Y H2 _ I2 q2) λiv s3 zz=>?_) hs;obtain⟨y,H3,I3,ry,a,H4,ex,g,q3⟩:=zz;subst ex;obtain rfl:u=Value.ref a:=rx;exact JT hu I3 g ry rv λs4 I4=>⟨Y,H4,I4,q3⟩
end
def LH(h:No)(hb:IN<h.objs.size):sj P w H (h.push {cls:=.type "dict",data:=.dict #[]}) h.objs.size (.dK []):=
 ⟨eZ _,fV.mpr (dG (dQ hb)),[],.nil,lV h⟩
def Rj:TE:=λ_ H Q=>∀p,H p=Db->Q (.ref p) (upd H p (.dK []))
def LC:PE X (.Dict [] [] pos) Rj:=λWz s Y H Q I h=>wpAny_Dict_empty ⟨.ref s.heap.objs.size,_,I.laid (a:=s.heap.objs.size) (o:=.dK []) (t':=s.toks) (λ_ _ q=>df _ q) (dw _) (LH s.heap I.big),rfl,h _ (I.mQ.fresh (dw _))⟩
structure M1(X:Cx)(o:Go)(m:Str)(WD:Pos)(e:Go)(WH:Pos):Prop where
 base:sK o m X.env (wp o X.env)=wp o X.env
 oW:((Ix WH (Tl [e] X.env)).all (λx=>!x.1)&&(xL WH (Ps [] X.env)).all (λx=>x.1.isSome)
  &&decide (([e]:List Go).length+([]:List ZV).length+(if ([]:List ZV).isEmpty then 0 else 1)<30))=pc
 line:(WD.endLine==WH.line)=pc
 trees:Ix WH (Tl [e] X.env)=[(lf,wp e X.env)]
structure M2(X:Cx)(o:Go)(m:Str)(WD:Pos)(e f:Go)(WH:Pos):Prop where
 base:sK o m X.env (wp o X.env)=wp o X.env
 oW:((Ix WH (Tl [e,f] X.env)).all (λx=>!x.1)&&(xL WH (Ps [] X.env)).all (λx=>x.1.isSome)
  &&decide (([e,f]:List Go).length+([]:List ZV).length+(if ([]:List ZV).isEmpty then 0 else 1)<30))=pc
 line:(WD.endLine==WH.line)=pc
 trees:Ix WH (Tl [e,f] X.env)=[(lf,wp e X.env),(lf,wp f X.env)]
variable {d:V}
section
variable {s:Sd}{o:Option V}{A:Ar}{E:QQX}
end
variable {f:Go}{WD WH:Pos}{tx:TE}
section
variable {o:Go}
end
section
variable {s:Sd}{A:Ar}{E:QQX}
end
section
variable {s:Sd}{A:Ar}{E:QQX}
end
section
variable {κ:Type}[DecidableEq κ]
end
def AJ(env:Env):T0 (Str×ZQ)->T0 (Str×Uf)->T0 (Str×Uf)
 | [],acc=>acc
 | (n,k)::r,acc=>AJ env r (if k==.free then(n,(env.cells.lookup n).getD 0)::acc else acc)
theorem GT{env:Env}{f:(Str×ZQ)->T0 (Str×Uf)->Sem (ForInStep (T0 (Str×Uf)))} (hf:∀x cs,(x.2=.free->∃c,env.cells.lookup x.1=Fa c)->f x cs=pure (.yield (if x.2==.free then(x.1,(env.cells.lookup x.1).getD 0)::cs else cs))):
  ∀(l:T0 (Str×ZQ)) (acc:T0 (Str×Uf)),(∀x∈l,x.2=.free->∃c,env.cells.lookup x.1=Fa c)->forIn l acc f=pure (AJ env l acc)
 | [],acc,_=>by rw[jZ];rfl
 | (n,k)::r,acc,h=>by rw[jO,hf (n,k) acc (h _ dN),pure_bind];exact GT hf r _ λx hx=>h x (dH _ hx)
def yp{scope:XV}{env:Env}(h:∀x∈scope.names,x.2=.free->∃c,env.cells.lookup x.1=Fa c):closureFor scope env=pure (AJ env scope.names []):=by
 unfold closureFor;have e:=GT (env:=env) (f:=λ(x:Str×ZQ) (cs:T0 (Str×Uf))=>(do
   if x.2==.free then
    let a<-cellOf env x.1
    pure (ForInStep.yield ((x.1,a)::cs))
   else pure (ForInStep.yield cs))) (λx cs hx=>by
  cases hk:x.2==NameKind.free with
  | false=>simp
  | true=>
   obtain⟨c,hc⟩:=hx (by simpa using hk);simp[cellOf,hc]) scope.names [] h
 first
  | exact(eR (·>>=pure) e).trans (by simp)
  | (simp only[bind_pure];exact e)
  | (rw[<-e];rfl)
theorem L0{env:Env}{x:Str}{c:Uf}:∀{l:T0 (Str×ZQ)} {acc:T0 (Str×Uf)},(∀x∈l,x.2=.free->∃c,env.cells.lookup x.1=Fa c)->(∀x c,acc.lookup x=Fa c->env.cells.lookup x=Fa c)->(AJ env l acc).lookup x=Fa c->env.cells.lookup x=Fa c
 | [],acc,_,ha,h=>ha x c h
 | (n,k)::r,acc,hl,ha,h=>by
  refine L0 (l:=r) (acc:=if k==.free then(n,(env.cells.lookup n).getD 0)::acc else acc) (λy hy=>hl y (dH _ hy)) (λy d hd=>?_) h;cases hk:k==NameKind.free with
  | false=>rw[hk]at hd;exact ha y d (by simpa using hd)
  | true=>
   rw[hk,dh rfl]at hd;obtain⟨e,he⟩:=hl (n,k) dN (by simpa using hk);rw[eM]at hd;cases hy:y==n with
   | true=>
    rw[hy]at hd;have yn:y=n:=by simpa using hy
    subst yn;have he:env.cells.lookup y=Fa e:=he;rw[he]at hd ⊢;exact hd
   | false=>rw[hy]at hd;exact ha y d hd
theorem LU{x:Str}:∀{l:T0 (Str×ZQ)} {acc:T0 (Str×Uf)},(∃c,acc.lookup x=Fa c)->∃c,(AJ env l acc).lookup x=Fa c
 | [],_,h=>h
 | (n,k)::r,acc,h=>by
  refine LU (l:=r) ?_;cases hk:k==NameKind.free with
  | false=>simpa using h
  | true=>
   rw[dh rfl,eM];cases hy:x==n with
   | true=>exact⟨_,rfl⟩
   | false=>exact h
theorem Hl{x:Str}:∀{l:T0 (Str×ZQ)} {acc:T0 (Str×Uf)},l.lookup x=Fa .free->∃c,(AJ env l acc).lookup x=Fa c
 | [],_,h=>by simp at h
 | (n,k)::r,acc,h=>by
  rw[eM]at h;cases hy:x==n with
  | true=>rw[hy]at h;have hk:k=.free:=dv h;subst hk;refine LU (l:=r) ⟨(env.cells.lookup n).getD 0,?_⟩;show List.lookup x (if NameKind.free==NameKind.free then(n,(env.cells.lookup n).getD 0)::acc else acc)=Fa ((env.cells.lookup n).getD 0);rw[dh (by rfl),eM,hy]
  | false=>rw[hy]at h;exact Hl (l:=r) h
theorem uh{env:Env}{x:Str}:∀{l:T0 (Str×ZQ)},(l.map λ(n,k)=>if (k==NameKind.free&&env.scope.kind==.function&&env.kindOf n==Fa .cell)then(n,NameKind.cell)else(n,k)).lookup x
   = (l.lookup x).map λk=>if (k==NameKind.free&&env.scope.kind==.function&&env.kindOf x==Fa .cell)then NameKind.cell else k
 | []=>rfl
 | (n,k)::r=>by
  rw[dZ];show List.lookup x ((if (k==NameKind.free&&env.scope.kind==.function&&env.kindOf n==Fa .cell)=pc then(n,NameKind.cell)else(n,k))::_)=_;cases hy:x==n with
  | true=>
   have yn:x=n:=by simpa using hy
   subst yn;by_cases hc:(k==NameKind.free&&env.scope.kind==.function&&env.kindOf x==Fa .cell)=pc
   .rw[dh hc,eM,eM,hy];simp only[jP];rw[dh hc]
   .rw[de hc,eM,eM,hy];simp only[jP];rw[de hc]
  | false=>
   by_cases hc:(k==NameKind.free&&env.scope.kind==.function&&env.kindOf n==Fa .cell)=pc
   .rw[dh hc,eM,eM,hy];exact uh
   .rw[de hc,eM,eM,hy];exact uh
def NB(ix:T0 (Option Nat))(Y:St):St:=ix.map λo=>o.bind λi=>(Y[i]?).join
abbrev Cx.comp(X:Cx)(scope:XV)(N':QQQ)(C:Uf)(s0:Sd)(H0:Hp)(ex:QXQ):Cx:=
 {X with N:=N',s₀:=s0,H₀:=H0,env:=compEnvC scope (AJ X.env scope.names []) C X.env,outer:=X.stack,ex:=ex,fn:=λ_=>lf,pn:=[],xe:=λ_ _=>False}
structure r6(X:Cx)(scope:XV)(ix:List (Option Nat))(N':QQQ):Prop where
 kind:scope.kind=.function
 om:∀y∈scope.names,y.2≠.cell
 nam:∀y∈scope.names,y.2=.local->scope.names.lookup y.1=Fa .local
 fre:∀y∈scope.names,y.2=.free->X.env.scope.names.lookup y.1=Fa .cell\/X.env.scope.names.lookup y.1=Fa .free
 len:ix.length=N'.length
 at_:∀(j i:Nat) (x:Str),ix[j]?=Fa (Fa i)->N'[j]?=Fa x->X.N[i]?=Fa x/\scope.names.lookup x=Fa .free
variable {scope:XV}{ix:T0 (Option Nat)}{N':QQQ}{fp:QXQ}
section
variable {s:Sd}
def r6.cells(S:r6 X scope ix N')(ok:X.Ok):∀x∈scope.names,x.2=.free->∃c,X.env.cells.lookup x.1=Fa c:=λx hx hk=>ok.has x.1 (S.fre x hx hk)
def r6.sub(S:r6 X scope ix N')(ok:X.Ok){x:Str}{c:Uf}(h:(AJ X.env scope.names []).lookup x=Fa c):X.env.cells.lookup x=Fa c:=L0 (S.cells ok) (λ_ _ z=>by simp at z) h
theorem vI{x:Str}{k:ZQ}:∀{l:T0 (Str×ZQ)},l.lookup x=Fa k->(x,k)∈l
 | [],h=>by simp at h
 | (n,j)::r,h=>by
  rw[eM]at h;cases hy:x==n with
  | true=>
   rw[hy]at h;have yn:x=n:=by simpa using hy
   subst yn;rw[dv h];exact dN
  | false=>rw[hy]at h;exact dH _ (vI h)
def Inv.comp{C:Uf}{h1:No}{tk:Nat}(I:Inv X Wz Y H s)(S:r6 X scope ix N')(hf:∀b∈fp,zN X Wz H b)(WP:∀b∈fp,b<s.heap.objs.size)(hC:s.heap.objs.size<=C) (k:∀b o,s.heap.get? b=Fa o->h1.get? b=Fa o) (hn:h1.Ns C (λ_=>Db)):Inv (X.comp scope N' C s H fp) (X.pn++Wz) (NB ix Y) H {s with heap:=h1,toks:=tk}:=by
 have sub:∀{x:Str} {c:Uf},(AJ X.env scope.names []).lookup x=Fa c->X.env.cells.lookup x=Fa c:=λh=>S.sub I.ok h;refine⟨⟨I.ok.mod,S.kind,I.ok.glob,I.ok.blt,hC,λx y c e1 e2=>I.ok.inj x y c (sub e1) (sub e2),λx hx=>?_,λ_ _ z=>(dC z).elim,I.ok.hd,I.ok.frames,.inl rfl,λb hb=>⟨dQ (dS (WP b hb) hC),λx c e=>(hf b hb).2.2.2.2.1 x c (sub e)⟩,I.bs,eh I.ok.nW I.sz,λb o e hb=>?_,λb hb hfs=>?_,I.stack,I.nF⟩,rfl,I.bare,Un.kept k,⟨_,hn,λi x v e1 e2 e3=>?_⟩,λx c e=>?_,I.mQ.fresh hC,λx c e=>I.mX x c (sub e),λp hp=>?_,I.mQ.kept k,?_⟩
 .have hx:(relabel scope X.env).names.lookup x=Fa .cell\/(relabel scope X.env).names.lookup x=Fa .free:=hx;have e:(relabel scope X.env).names.lookup x=(scope.names.lookup x).map λk=>if (k==NameKind.free&&X.env.scope.kind==.function&&X.env.kindOf x==Fa .cell)then NameKind.cell else k:=uh
  rw[e]at hx;cases q:scope.names.lookup x with
  | none=>rw[q]at hx;rcases hx with hx|hx<;>simp at hx
  | some kd=>
   cases kd with
   | free=>exact Hl q
   | cell=>exact absurd rfl (S.om _ (vI q))
   | _=>rw[q]at hx;rcases hx with hx|hx<;>simp at hx
 .rcases(hf b hb).2.2.2.1 with z|z
  .exact I.ok.nK b o e z
  .exact absurd (dS (dE e) (eh I.ok.nW z)) (eX _)
 .rcases c9.mp (I.nA b hfs)with z|z
  .exact(hf b hb).2.1 z
  .exact(hf b hb).2.2.1 z
 .have Yn:(ix[i]?).map (λo=>o.bind λi=>(Y[i]?).join)=Fa (Fa v):=by have z:(NB ix Y)[i]?=Fa (Fa v):=e2;unfold NB at z;rw[dF]at z;exact z
  cases q:ix[i]? with
  | none=>rw[q]at Yn;cases Yn
  | some o=>
   rw[q]at Yn;cases o with
   | none=>cases Yn
   | some j=>
    have YJ:(Y[j]?).join=Fa v:=dv Yn;have e4:Y[j]?=Fa (Fa v):=by
     cases r:Y[j]? with
     | none=>rw[r]at YJ;cases YJ
     | some w=>rw[r]at YJ;exact eR Fa YJ
    obtain⟨n1,n2⟩:=S.at_ i j x q e1;obtain⟨m,hm,hl⟩:=I.loc;have hk:=S.fre _ (vI n2) rfl;have hv:Ta X.env.scope x:=by
     rcases hk with z|z
     .exact .inr (.inl z)
     .exact .inr (.inr z)
    obtain⟨u,ru,lk⟩:=hl j x v n1 e4 hv;refine⟨u,ru,?_⟩;have YK:X.env.kindOf x=Fa .cell\/X.env.kindOf x=Fa .free:=hk;rcases lk with⟨z,_⟩|⟨_,c,hc,hcell⟩
    .rcases YK with y|y<;>(rw[y]at z;cases z)
    .obtain⟨c',hc'⟩:=Hl (env:=X.env) (acc:=[]) n2;have:=sub hc';rw[hc]at this;cases this;refine .inr ⟨?_,c,hc',hcell.keeps k⟩;show(relabel scope X.env).names.lookup x=Fa .cell\/(relabel scope X.env).names.lookup x=Fa .free;have e:(relabel scope X.env).names.lookup x=(scope.names.lookup x).map λk=>if (k==NameKind.free&&X.env.scope.kind==.function&&X.env.kindOf x==Fa .cell)then NameKind.cell else k:=uh
     rw[e,n2];simp only[jP];split
     .exact .inl rfl
     .exact .inr rfl
 .obtain⟨v,q⟩:=I.cell x c (sub e);exact⟨v,q.keeps k⟩
 .obtain⟨e,n,ne,nf,d⟩:=I.pin p (by simpa using hp);refine⟨k _ _ e,n,dQ (dS (dE e) hC),λz=>?_,d⟩;rcases c9.mp (I.nA p.1 z)with y|y
  .exact ne y
  .exact nf y
 .show(NB ix Y).length=N'.length;unfold NB;rw[cV];exact S.len
end
section
variable {prog:Pg}{w:Wo}{A:Ar}{R:Result→Sd→Prop}{s:Sd}
def xZ{Xs W5 iter:Go}{Xa:T0 Go}{scope:XV}{pos:Pos}{it acc:Vl}{env:Env}(I:Nat->Sd->Prop){EX:QQX}(hEX:∀e s',EX e s'->notedBy (Tk prog w) A env (λx s'=>R (.error x) s') e s') (turn:∀n s,I n s->pi (Tk prog w) A (pyNext it) (λr s₁=>match r with
   | none=>R (.ok .next) s₁
   | some v=>pi (Tk prog w) A (ZY W5 it v) (λ_ s₁=>pi (Tk prog w) A (assign W5 env v) (λ_ s₂=>
     pi (Tk prog w) A (forIn Xa pc λc r=>if r=pc then do let ok<-isTrue c env (wp c env);pure (ForInStep.yield ok)else pure (ForInStep.yield r)) (λok s₃=>
      if ok=pc then pi (Tk prog w) A (wp Xs env) (λx s₄=>
       pi (Tk prog w) A (call (.builtin "list.append") [acc,x]) (λ_ s₅=>∃m,m<n/\I m s₅) (λ_ _=>False) s₄) EX s₃
      else ∃m,m<n/\I m s₃) (λ_ _=>False) s₂) (λ_ _=>False) s₁) (λ_ _=>False) s₁) (λ_ _=>False) s)
  (n:Nat) (h:I n s):
  ZZ (Tk prog w) A (.compLoop (.ListComp Xs [⟨W5,iter,Xa,0⟩] scope pos) 0 it acc env) R s:=by
 refine codeAny_loop rfl I (λn s hI=>?_) n h;show pi _ A ((compTurn (.ListComp Xs [⟨W5,iter,Xa,0⟩] scope pos) 0 it acc env).onRaise (λx=>do noteFrame x env;theTreesLotGoes x)) _ _ s;refine wpAny_noted ?_;rw[compTurn_list];refine cW (ii (cW (eE (turn n s hI) (λr s₁ h₁=>?_) λ_ _ h'=>h'.elim)));cases r with
 | none=>exact dz h₁
 | some v=>
  refine cW (eE h₁ (λ_ s₁' h₁'=>?_) λ_ _ h'=>h'.elim);refine cW (eE h₁' (λ_ s₂ h₂=>cW (eE h₂ (λok s₃ h₃=>?_) λ_ _ h'=>h'.elim)) λ_ _ h'=>h'.elim);cases ok with
  | false=>exact dz ⟨rfl,h₃⟩
  | true=>exact cW (cW (eE h₃ (λx s₄ h₄=>cW (eE h₄ (λ_ s₅ h₅=>dz (dz ⟨rfl,h₅⟩)) λ_ _ h'=>h'.elim)) hEX))
end
def PF(X:Cx)(Xa:T0 Go)(t:TT):Prop:=
 ∀(Wz:QQY) (s:Sd) (Y:St) (H:Hp) (Q:Bool->Hp->Prop),Inv X Wz Y H s->t Y H Q->
  pi (Tk X.prog X.w) X.A (forIn Xa pc λc r=>if r=pc then do let ok<-isTrue c X.env (wp c X.env);pure (ForInStep.yield ok)else pure (ForInStep.yield r)) (TP X Wz Y Q) X.xe s
def Uj:TT:=λ_ H Q=>Q pc H
def RJ:PF X [] Uj:=λ_ _ _ H _ I h=>wpAny_tests_nil ⟨H,I,h⟩
def Sr(h:PT X c t):PF X [c] t:=λWz s Y H Q I q=>wpAny_tests_one (h Wz s Y H Q I q)
def Qx(ix:T0 (Option Nat))(g:TG)(tt:TT)(te:TE)(Y:St)(J:It)(Q:VK)(H:Hp):Prop:=
 ∃W:Nat->Nat->T0 V->St->Hp->Prop,(∃m,W 0 m [] (NB ix Y) H)/\∀i m ys σ' H,W i m ys σ' H->
  (J.stop i H/\ys.length<=Ch/\∀D,H D=Db->Q (.ref D) (upd H D (.lst ys)))\/
  (J.go i H/\ys.length<Ch/\∀x H',J.oQ i H x H'->g x σ' H' λσ2 H2=>tt σ2 H2 λb H3=>if b=pc then te σ2 H3 λy H4=>∃m',m'<m/\W (i+1) m' (ys++[y]) σ2 H4 else ∃m',m'<m/\W (i+1) m' ys σ2 H3)
def Mq(ix:T0 (Option Nat))(wi:TI)(g:TG)(tt:TT)(te:TE):TE:=λY H Q=>wi Y H λJ H1=>Qx ix g tt te Y J Q H1
variable {tg iter Xs:Go}{Xa:T0 Go}{g:TG}{tt:TT}{te:TE}{J:It}{it:Uf}{tn:Nat→No→Prop}{Q:VK}
section
variable {s:Sd}
def Cs{XP:Uf->Sd->Hp->QXQ->QQY->St->Vl->Sd->Prop}{RR:Vl->Uf->Result->Sd->Prop}{E:QQX}(hc:X.calm=pc)(S:r6 X scope ix N')(I:Inv X Wz Y H s)(T:E5 X.prog X.w X.K tg J fp it tn)(st:tn 0 s.heap)(hf:∀b∈fp,zN X Wz H b) (hg:∀C s0 H0 ex,PG (X.comp scope N' C s0 H0 ex) tg g) (ht:∀C s0 H0 ex,PF (X.comp scope N' C s0 H0 ex) Xa tt) (he:∀C s0 H0 ex Wz s Y H Q,Inv (X.comp scope N' C s0 H0 ex) Wz Y H s->te Y H Q->pi (Tk X.prog X.w) X.A (wp Xs (X.comp scope N' C s0 H0 ex).env) (EP (X.comp scope N' C s0 H0 ex) Wz Y Q) (XP C s0 H0 ex Wz Y) s) (hx:∀C D e s',s.heap.objs.size<=C->(∃Xy σ',(∀b∈fp,∃o,(b,o)∈Xy)/\XP C s H fp Xy σ' e s')->notedBy (Tk X.prog X.w) X.A (compEnvC scope (AJ X.env scope.names []) C X.env) (λx s'=>RR D C (.error x) s') e s') (hw:Qx ix g tt te Y J Q H) (WB:∀D C s' H' m,s.heap.objs.size<=C->H' C=Db->s'.heap.Ns C m->Inv X Wz Y H' s'->Q (.ref D) H'->RR (.ref D) C (.ok .next) s'):
  pi (Tk X.prog X.w) X.A (newList []) (λacc s₃=>pi (Tk X.prog X.w) X.A (newFunctionEnv scope X.env.globals (AJ X.env scope.names []) [] X.env.qual Db .none (Fa X.env)) (λXh s₄=>
   ZZ (Tk X.prog X.w) X.A (.compStart (.ListComp Xs [⟨tg,iter,Xa,0⟩] scope pos) 0 (.ref it) acc {Xh with scope:=relabel scope X.env}) (RR acc Xh.locals) s₄) E s₃) E s:=by
 obtain⟨W,⟨m0,w0⟩,turn⟩:=hw;have WP:∀b∈fp,b<s.heap.objs.size:=λb hb=>by obtain⟨o,e,_⟩:=T.obj _ _ st b hb;exact dE e
 refine fZ (wpAny_newFunctionEnv S.om (by intro y hy;simp at hy) (λh₁ Yo YL=>?_) S.kind);dsimp only at Yo YL ⊢;generalize hH2:s.heap.push {cls:=.type "list",dict:=none,data:=.seq ([]:T0 Vl).toArray}=H2 at Yo YL ⊢;have hC:H2.objs.size=s.heap.objs.size+1:=by rw[<-hH2,fz]
 have hDC:s.heap.objs.size≠H2.objs.size:=by rw[hC];exact dQ (fK _)
 have YM:s.heap.objs.size<=H2.objs.size:=by rw[hC];exact gX _
 have Y6:∀b,b<s.heap.objs.size->b≠H2.objs.size/\b≠s.heap.objs.size:=λb hb=>⟨by rw[hC];exact dQ (gZ hb),dQ hb⟩;have Xi:∀b o,s.heap.get? b=Fa o->h₁.get? b=Fa o:=λb o e=>YL.extBut b o (Y6 b (dE e)).1 (df _ (hH2 ▸ df _ e));have hacc:h₁.get? s.heap.objs.size=Fa {cls:=.type "list",data:=.seq ([]:T0 Vl).toArray 0}:=YL.extBut _ _ hDC (df _ (hH2 ▸ dI _ rfl));have Yo:h₁.Ns H2.objs.size (λ_=>Db):=Yo;have XQ:∀{H':Hp} {pl:QQY},(∀b∈fp,H' b=Db)->(∀p∈pl,p.1∉fp)->∀b∈fp,zN (X.comp scope N' H2.objs.size s H fp) (X.pn++Wz++pl) H' b:=λ{H' pl} hn WN b hb=>by
  refine⟨hn b hb,dQ (dS (WP b hb) YM),λz=>?_,.inl hb,λx c e=>(hf b hb).2.2.2.2.1 x c (S.sub I.ok e),λp hp=>?_⟩
  .rcases c9.mp (I.nA b z)with y|y
   .exact(hf b hb).2.1 y
   .exact(hf b hb).2.2.1 y
  .rcases dR.mp (show p∈X.pn++Wz++pl by simpa using hp)with z|z
   .exact(hf b hb).2.2.2.2.2 p z
   .intro q;exact WN p z (q ▸ hb)
 have loop:∀s₃:Sd,s₃={s with heap:=h₁,toks:=s.toks+([]:T0 (Str×Vl)).length}->
   ZZ (Tk X.prog X.w) X.A (.compLoop (.ListComp Xs [⟨tg,iter,Xa,0⟩] scope pos) 0 (.ref it) (.ref s.heap.objs.size) (compEnvC scope (AJ X.env scope.names []) H2.objs.size X.env))
    (RR (.ref s.heap.objs.size) H2.objs.size) s₃:=by
  rintro s₃ rfl
  refine xZ (hEX:=λe s' z=>hx _ _ e s' YM z) (λn s'=>∃(i:Nat) (ys:T0 V) (us:T0 Vl) (k:Nat) (σ':St) (H':Hp),Inv (X.comp scope N' H2.objs.size s H fp) (X.pn++Wz) σ' H' s'/\tn i s'.heap/\(∀b∈fp,H' b=Db)/\H' s.heap.objs.size=Db/\
   s'.heap.get? s.heap.objs.size=Fa {cls:=.type "list",data:=.seq us.toArray k}/\qA ys us/\ys.length<=Ch/\W i n ys σ' H') ?_ m0
   ⟨0,[],[],0,NB ix Y,H,I.comp S hf WP YM Xi Yo,T.keep _ _ _ st λb _ o e=>Xi b o e,λb hb=>(hf b hb).1,I.mQ.fresh (dw _),hacc,.nil,eZ _,w0⟩
  rintro n s' ⟨i,ys,us,k,σ',H',I',X0,fr',hD',Xg,rv',hz',w'⟩
  have cellD:∀x c,(X.comp scope N' H2.objs.size s H fp).env.cells.lookup x=Fa c->c≠s.heap.objs.size:=λx c e=>by obtain⟨v,q⟩:=I.cell x c (S.sub I.ok e);exact dQ q.lt
  have pinD:∀p∈X.pn++Wz,p.1≠s.heap.objs.size:=λp hp=>dQ (dE (I.pin p hp).1);have dfs:s.heap.objs.size∉(X.comp scope N' H2.objs.size s H fp).fs:=λz=>by
   rcases c9.mp (I.nA _ z)with y|y
   .exact absurd I.lt (by rw[<-y];exact eX _)
   .exact I.oH (dw _) y
  have dfp:s.heap.objs.size∉fp:=λz=>absurd (WP _ z) (eX _);have IpD:Inv (X.comp scope N' H2.objs.size s H fp) (X.pn++Wz++[(s.heap.objs.size,{cls:=.type "list",data:=.seq us.toArray k})]) σ' H' s':=I'.nM λp hp=>by
   rcases dR.mp hp with z|z
   .exact I'.pin p (eF _ z)
   .have e:p=(s.heap.objs.size,{cls:=.type "list",data:=.seq us.toArray k}):=by simpa using z
    subst e;exact⟨Xg,hD',hDC,dfs,λv z=>by cases z⟩
  have pfp:∀p∈[((s.heap.objs.size,{cls:=.type "list",data:=.seq us.toArray k}):Uf×Obj)],p.1∉fp:=λp hp=>by
   have e:p=(s.heap.objs.size,{cls:=.type "list",data:=.seq us.toArray k}):=by simpa using hp
   subst e;exact dfp
  rcases turn i n ys σ' H' w' with⟨stop,hz,q⟩|⟨go,hz,step⟩
  .refine eE (T.done (X.comp scope N' H2.objs.size s H fp) rfl rfl rfl hc i _ s' σ' H' (λ_ _=>False) IpD (XQ fr' pfp) X0 stop) (λr s1 ⟨hr,I1⟩=>?_) λ_ _ z=>z;subst hr;show RR _ _ _ _;have ho1:s1.heap.get? s.heap.objs.size=Fa {cls:=.type "list",data:=.seq us.toArray k}:=(I1.pin (s.heap.objs.size,{cls:=.type "list",data:=.seq us.toArray k}) (by simp)).1;obtain⟨m,hnC,_⟩:=id I1.loc;refine WB _ _ s1 (upd H' s.heap.objs.size (.lst ys)) m YM (by rw[pS (dG hDC)];exact I1.free) hnC ?_ (q _ hD');have nD:∀b o,s.heap.get? b=Fa o->b≠s.heap.objs.size:=λb o e=>(Y6 b (dE e)).2;have hD0:H s.heap.objs.size=Db:=I.mQ.fresh (dw _);refine I.oN (s':=s1) (ch:=fp) I1.os ⟨λb o e n1 n2 n3=>?_,λb o e n1 n2 n3=>?_,λb o e n1 n2=>?_,λb o e n1=>?_,λb xs e=>?_,λb o u e=>?_,λb ps e=>?_⟩ (λb u e=>?_) I1.bare λb hb=>⟨(hf b hb).2.2.2.1,(hf b hb).2.1,(hf b hb).2.2.2.2.1,(hf b hb).2.2.2.2.2⟩
   .exact I1.base.keep b o e n1 n2 n3
   .exact I1.base.slot b o e n1 n2 n3
   .rw[pS (nD b o e)];exact I1.base.free b o e n1 n2
   .exact I1.base.there b o e n1
   .rw[pS (qP e hD0)];exact I1.base.nE b xs e
   .rw[pS (qP e hD0)];exact I1.base.nv b o u e
   .obtain⟨more,z⟩:=I1.base.nG b ps e;exact⟨more,by rw[pS (qP e hD0)];exact z⟩
   .by_cases hb:b=s.heap.objs.size
    .subst hb;rw[pY]at e;cases e;exact⟨hz,us,k,rv',ho1⟩
    .rw[pS hb]at e;exact(I1.mQ b u e).ni (λc v _ z=>z) (λc z=>by rw[pS (qP z hD')];exact z) (λc xs z=>by rw[pS (qP z hD')];exact z)
  .refine eE (T.item (X.comp scope N' H2.objs.size s H fp) rfl rfl rfl hc i _ s' σ' H' (λ_ _=>False) IpD (XQ fr' pfp) X0 go) (λr s1 ⟨v,hr,h4⟩=>?_) λ_ _ z=>z;subst hr;show pi _ _ (ZY tg (.ref it) v) _ _ s1;refine eE h4 (λ_ s2 zz=>?_) λ_ _ z=>z;obtain⟨x,H5,I5,r5,y5,Y3,fr5⟩:=zz;have I5':=I5.pinned (XQ fr5 pfp) (T.obj _ _ Y3);refine eE (hg H2.objs.size s H fp _ s2 σ' H5 x v _ I5' r5 (step x H5 y5)) (λ_ s3 ⟨σ6,H6,I6,q6⟩=>?_) λ_ _ z=>z;refine eE (ht H2.objs.size s H fp _ s3 σ6 H6 _ I6 q6) (λok s4 ⟨H7,I7,q7⟩=>?_) λ_ _ z=>z;have Y7:∀{σ7:St} {H7:Hp} {s7:Sd},Inv (X.comp scope N' H2.objs.size s H fp) (X.pn++Wz++[(s.heap.objs.size,{cls:=.type "list",data:=.seq us.toArray k})]++Ce fp s2.heap) σ7 H7 s7->
     tn (i+1) s7.heap/\(∀b∈fp,H7 b=Db)/\H7 s.heap.objs.size=Db/\s7.heap.get? s.heap.objs.size=Fa {cls:=.type "list",data:=.seq us.toArray k}:=λ{σ7 H7 s7} K7=>by
    have pd:=K7.pin (s.heap.objs.size,{cls:=.type "list",data:=.seq us.toArray k}) (by simp);refine⟨T.keep _ _ _ Y3 λb hb o e=>(K7.pin (b,o) (eF _ (eF _ (vm hb e)))).1,λb hb=>?_,pd.2.1,pd.1⟩;obtain⟨o,e,d⟩:=T.obj _ _ Y3 b hb;exact(K7.pin (b,o) (eF _ (eF _ (vm hb e)))).2.1
   cases ok with
   | false=>rw[de dC]at q7 ⊢;obtain⟨m',hm,w7⟩:=q7;obtain⟨t7,f7,d7,o7⟩:=Y7 I7;exact⟨m',hm,i+1,ys,us,k,σ6,H7,I7.mW.mW,t7,f7,d7,o7,rv',hz',w7⟩
   | true=>
    rw[dh rfl]at q7 ⊢;refine eE (he H2.objs.size s H fp _ s4 σ6 H7 _ I7 q7) (λyv s5 ⟨y,H8,I8,r8,m',hm,w8⟩=>?_) λ_ _ z=>⟨_,_,λb hb=>(by
     obtain⟨o,e,_⟩:=T.obj _ _ Y3 b hb;exact⟨o,eF _ (vm hb e)⟩),z⟩
    obtain⟨t8,f8,d8,o8⟩:=Y7 I8;have hsz:us.toArray.size<=Ch:=by rw[dA,<-rv'.length];exact hz'
    refine append_at (hsz:=hsz) o8 λh' sb od=>?_;refine⟨m',hm,i+1,ys++[y],us++[yv],k+1,σ6,H8,?_,T.keep _ _ _ t8 λb hb o e=>(sb.2 b λq=>dfp (q ▸ hb)).trans e,f8,d8,?_,rv'.append (.cons r8 .nil),?_,w8⟩
    .exact I8.mW.mW.turned (it:=s.heap.objs.size) (t':=s5.toks) (λb o hb e=>(sb.2 b hb).trans e) d8 hDC (.inr (dw _)) cellD (by simpa using pinD)
    .rw[od,List.push_toArray]
    .rw[cY,dJ];exact hz
 exact codeAny_compStart_list (loop _ rfl) (T.self _ 0 _ _ _ (T.keep _ _ _ st λb _ o e=>Xi b o e) (loop _ rfl))
def Inv.letGo{C:Uf}(I:Inv X Wz Y H s)(I':Inv X Wz σ' H' s')(hC:s.heap.objs.size<=C)(hn:H' C=Db)(hs:Heap.SameBut C s'.heap h'):Inv X Wz σ' H' {s' with heap:=h'}:=
 I'.turned (t':=s'.toks) (it:=C) (λb o hb e=>(hs.2 b hb).trans e) hn (λz=>absurd (dS I.lt hC) (by rw[z];exact eX _)) (.inr (eh I.sz hC))
  (λx c e z=>by
   obtain⟨v,r⟩:=I.cell x c e;exact absurd (dS r.lt hC) (by rw[z];exact eX _))
  (λp hp z=>absurd (dS (dE (I.pin p hp).1) hC) (by rw[z];exact eX _))
def PB(hc:X.calm=pc)(S:r6 X scope ix N')(hi:PI X tg iter wi)(hg:∀C s0 H0 ex,PG (X.comp scope N' C s0 H0 ex) tg g)(ht:∀C s0 H0 ex,PF (X.comp scope N' C s0 H0 ex) Xa tt)(he:∀C s0 H0 ex,PE (X.comp scope N' C s0 H0 ex) Xs te) (hs:∀x,ZR iter X.env x=pure x:=by intro _;rfl):PE X (.ListComp Xs [⟨tg,iter,Xa,0⟩] scope pos) (Mq ix wi g tt te):=by
 intro Wz s Y H Q I h;rw[eval_ListComp];refine jD (use:=none) rfl hs (yp (S.cells I.ok)) S.kind S.nam (eE (hi Wz s Y H _ I h) (λxv s₁ h₁=>eE h₁ (λitv s₂ h₂=>?_) λ_ _ e=>e) λ_ _ e=>e);obtain⟨it,fp,tn,J,H2,e,I2,T,WW,f2,hw⟩:=h₂;subst e;refine Cs (RR:=λacc C=>compPost (Tk X.prog X.w) X.A X.xe Db (EP X Wz Y Q) acc C) hc S I2 T WW f2 hg ht (XP:=λ_ _ _ _ _ _ _ _=>False) he (λ_ _ _ _ _ z=>by obtain⟨_,_,_,z⟩:=z;exact z.elim) hw λD C s' H' m hCs hCn hn I3 q=>?_;exact⟨m,hn,λh' Y8=>⟨.ref D,_,I2.letGo I3 hCs hCn Y8,rfl,q⟩⟩
def Hk{i:Nat}{x:Str}{px Yp:Pos}(hN:X.N.Nodup)(hix:X.N[i]?=Fa x)(hx:Nq X.env.scope x)(hc:X.calm=pc)(S:r6 X scope ix N')(hi:PI X tg iter wi)(hg:∀C s0 H0 ex,PG (X.comp scope N' C s0 H0 ex) tg g)(ht:∀C s0 H0 ex,PF (X.comp scope N' C s0 H0 ex) Xa tt) (he:∀C s0 H0 ex,PE (X.comp scope N' C s0 H0 ex) Xs te) (X8:TD (.ListComp Xs [⟨tg,iter,Xa,0⟩] scope pos) (Fa (.Name x px)) Yp.line X.env=pure pc) (hf:Ln X x:=by first|exact .inl rfl|exact .inr rfl|assumption) (hs:∀x,ZR iter X.env x=pure x:=by intro _;rfl):
  PS X (.Assign [.Name x px] (.ListComp Xs [⟨tg,iter,Xa,0⟩] scope pos) Yp) (SJ (Mq ix wi g tt te) (LM i)):=by
 intro Wz s Y H D I h;rw[exec_Assign_Name_used _ _ _ _ X8];refine cW (ii (cW ?_));show pi _ X.A (do let _<-comprehension (.ListComp Xs [⟨tg,iter,Xa,0⟩] scope pos) scope X.env _ (newList []) lf (wp iter X.env) (Fa (assign (.Name x px) X.env))) _ _ s;refine cW (eE (jD (use:=some (assign (.Name x px) X.env)) (Q:=λ_ s'=>SP X Wz D .next s') rfl hs (yp (S.cells I.ok)) S.kind S.nam
  (eE (hi Wz s Y H _ I h) (λxv s₁ h₁=>eE h₁ (λitv s₂ h₂=>?_) λ_ _ e=>e) λ_ _ e=>e)) (λ_ s' hq=>dz (dz hq)) λ_ _ e=>e)
 obtain⟨it,fp,tn,J,H2,e,I2,T,WW,f2,hw⟩:=h₂;subst e;refine Cs (RR:=λacc C=>compPost (Tk X.prog X.w) X.A X.xe (Fa (assign (.Name x px) X.env)) (λ_ s'=>SP X Wz D .next s') acc C) hc S I2 T WW f2 hg ht (XP:=λ_ _ _ _ _ _ _ _=>False) he (λ_ _ _ _ _ z=>by obtain⟨_,_,_,z⟩:=z;exact z.elim) hw λDa C s' H' m hCs hCn hn I3 q=>?_;show pi _ X.A (assign (.Name x px) X.env (.ref Da)) _ _ _;refine kZ (Dn I3 hN hix hx (v:=.ref Da) rfl (λs4 I4 ⟨a,sb,ha⟩=>?_) hf);have ca:C≠a:=λz=>by
  rcases ha with y|y
  .exact absurd (dS I2.lt hCs) (by rw[z,y];exact eX _)
  .obtain⟨v,r⟩:=I2.cell x a y;exact absurd (dS r.lt hCs) (by rw[z];exact eX _)
 exact⟨m,hn.sameBut sb ca,λh' Y8=>⟨_,H',I2.letGo I4 hCs hCn Y8,q⟩⟩
end
def AV:typeLookup (.type "list") "__getattr__"=pure Db:=by rw[typeLookup_type,j3];kernel_rfl
def E2:typeLookup (.type "list") "keys"=pure Db:=by rw[typeLookup_type,j3];kernel_rfl
section
variable {prog:Pg}{w:Wo}{A:Ar}{E:QQX}
def Mf(a:Uf)(u:Tok)(its:Array Vl)(n:Nat)(sl:Array (Option Vl)):
  Meets (Builtin.«object.__getattribute__» ⟨[.ref a,.str "keys" u],[]⟩) λA R s=>s.heap.get? a=Fa ⟨.type "list",Db,.seq its n,sl⟩/\A.handled=Db/\∀h' tk e,Heap.NewAttrErr s.heap h' e (.ref a) "keys"->R (.error (.ref e)) {s with heap:=h',toks:=tk}:=
 Meets.of_wp λprog w A R s hs=>by
  obtain⟨hp,g,d,tk,os⟩:=s;obtain⟨h1,h2,h3⟩:=hs;have hT:(⟨hp,g,d,tk,os⟩:Sd).TypeIs (.ref a) "list":=⟨_,h1,rfl⟩;have f1:=E2;unfold Builtin.«object.__getattribute__»
  repeat (any_goals(first|assumption|wp_step))
  exact wpAny_raiseAttrError h2 h3 (attrMsg_fits (by decide+kernel) (by decide))
def E6{s:Sd}{a:Uf}{its:Array Vl}{n:Nat}{sl:Array (Option Vl)}{Q:Option Vl->Sd->Prop}(ha:s.heap.get? a=Fa ⟨.type "list",Db,.seq its n,sl⟩)(hA:A.handled=Db) (h:∀h' tk,(∀b o,s.heap.get? b=Fa o->h'.get? b=Fa o)->Q Db {s with heap:=h',toks:=tk}):pi (Tk prog w) A (getAttr? (.ref a) "keys") Q E s:=by
 obtain⟨hp,g,d,tk,os⟩:=s;have hT:(⟨hp,g,d,tk,os⟩:Sd).TypeIs (.ref a) "list":=⟨_,ha,rfl⟩;have f1:=sub_AttributeError;have f3:=iq.lookup;have f4:=iq.bind (.ref a);have f5:=AV;unfold getAttr? getAttrBy? getAttrBy
 repeat (any_goals(first|assumption|((with_reducible show pi _ _ (call (Value.builtin "list.__getattribute__") _ _) _ _ _);refine js iq hT F.entry_list_ga (F.args_list_getattribute_2 _ _) (Mf a _ its n sl) ⟨ha,hA,λh' tk' e hx=>?_⟩)|wp_step))
 obtain⟨t',u',he⟩:=hx.there;show pi _ _ (getattributeRaised _ _ _ _ _ _ _) _ _ _;unfold getattributeRaised
 repeat (any_goals(first|assumption|wp_step))
 all_goals first|exact h _ _ hx.keeps|skip
end
def AC:entryFor table "dict.update.loop"=Fa Builtin.«dict.update.loop»:=entryFor_of_tree (by kernel_rfl)
def vO:plainId "dict.update.loop"=pc:=by decide+kernel
section
variable {prog:Pg}{w:Wo}{A:Ar}{E:QQX}{R:Result→Sd→Prop}{κ:Type}[DecidableEq κ]{knd:PySem.KeyKind prog w κ}
 {I:Uf} {fp wr:QXQ} {G:Array GenState->Array GenState->Prop} {P:Nat->Vl->Prop} {St:Nat->Sd->Prop}
def Pw{s:Sd}{t:Uf}{x y:Vl}{Q:T0 Vl->Sd->Prop}(h:s.heap.IsTuple t #[x,y])(q:Q [x,y] s):pi (Tk prog w) A (Builtin.Dict.pairItems (.ref t)) Q E s:=by
 obtain⟨⟨oc,od,oda,Xt⟩,h1,h2,n,h3⟩:=h;simp only at h2 h3;subst h2 h3;have hT:s.TypeIs (.ref t) "tuple":=⟨_,h1,rfl⟩;obtain⟨hp,g,d,tk,os⟩:=s;unfold Builtin.Dict.pairItems
 repeat (any_goals(first|assumption|wp_step))
def JV{all:T0 (κ×Vl)}(W:WalksS prog w A.in1 I fp wr G all.length P St)(d:Uf)(Y5:d∉fp)(kv:Nat->Vl)(tp:Nat->Uf)(hP:∀i v,P i v->v=.ref (tp i))(hw:∀j,j<all.length->tp j∉wr/\tp j≠d) (hk:∀j p,all[j]?=Fa p->knd.is p.1 (kv j)=pc) (hz:all.length<=Ch):
  ∀(k i:Nat) (z:Int) (s:Sd),all.length - i=k->i<=all.length->St i s->(∀j p,all[j]?=Fa p->s.heap.IsTuple (tp j) #[kv j,p.2])->s.heap.DictOf knd d (merged [] (all.take i))->
   (∀s',Moved (d::wr) G s s'->s'.heap.DictOf knd d (merged [] all)->R (.ok (.ret .none)) s')->ZZ (Tk prog w) A (.builtin "dict.update.loop" ⟨[.ref d,.ref I,.int z 0,.none],[]⟩) R s:=by
 have hdw:d∉wr:=λh=>Y5 (W.sub _ h);have Yq:∀b∈wr,b∈d::wr:=λb hb=>dH _ hb;intro k;induction k with
 | zero=>
  intro i z s hk0 hi WV hT hD hR;have Yf:i=all.length:=by omega
  subst Yf;refine gU AC ?_;rw[ib vO _];show pi _ A.in1 (pyNext (.ref I)>>=_) _ _ s;refine cW (W.done s _ _ WV λs' hm=>?_);show pi _ A.in1 (Builtin.Dict.addKeywords d []>>=_) _ _ s';refine cW (dz (dz (hR s' (hm.mono Yq) ?_)));rw[eS]at hD;obtain⟨o,es,ep,ho,rest⟩:=hD;exact⟨o,es,ep,hm.heap d _ hdw ho,rest⟩
 | succ k ih=>
  intro i z s hk0 hi WV hT hD hR;have WP:i<all.length:=by omega
  have XU:all[i]?=Fa all[i]:=cX WP;refine gU AC ?_;rw[ib vO _];show pi _ A.in1 (pyNext (.ref I)>>=_) _ _ s;refine cW (W.item i s _ _ WP WV λv s' hPv Zu hm=>?_);obtain rfl:=hP i v hPv;have hT':∀j p,all[j]?=Fa p->s'.heap.IsTuple (tp j) #[kv j,p.2]:=λj p e=>by obtain⟨o,h1,h2⟩:=hT j p e;exact⟨o,hm.heap _ _ (hw j (cZ.mp e).1).1 h1,h2⟩
  have hD':s'.heap.DictOf knd d (merged [] (all.take i)):=by obtain⟨o,es,ep,ho,rest⟩:=hD;exact⟨o,es,ep,hm.heap d _ hdw ho,rest⟩
  show pi _ A.in1 (xz [Value.ref (tp i)] _>>=_) _ _ s';refine cW (ft (cW (wpAny_tryCatch (Pw (hT' i _ XU) ?_))));show pi _ A.in1 (xz [kv i,all[i].2] (dictSet d (kv i) all[i].2)) _ _ s';refine ft ?_;unfold dictSet;refine ft (cW (knd.pyHash (hk i _ XU) ?_));have hl:(merged [] (all.take i)).length<=Ch:=by have:=merged_length_le [] (all.take i);rw[fh]at this;simp only[dO]at this;omega
  refine wpAny_dictSetHashed_pairs (hsz:=hl) (hk i _ XU) hD' λh' dd hs=>?_;rw[<-merged_take_succ [] all i _ XU]at dd;refine dz ⟨ku vO _,ih (i+1) _ _ (by omega) WP (W.frame _ s' _ _ Zu (gX _) λb hb o e=>?_) (λj p e=>?_) dd λZp Zv hD''=>?_⟩
  .rw[hs.2 b (λz:b=d=>Y5 (z ▸ hb))];exact e
  .obtain⟨o,h1,h2⟩:=hT' j p e;refine⟨o,?_,h2⟩;show h'.get? (tp j)=Fa o;rw[hs.2 _ (hw j (cZ.mp e).1).2];exact h1
  .refine hR Zp (mC W.gtrans ((hm.mono Yq).then_heap (gX _) λb o hb e=>?_) Zv) hD'';rw[hs.2 b (λz:b=d=>hb (by rw[z];exact dN))];exact e
end
section
variable {prog:Pg}{w:Wo}{A:Ar}{E:QQX}{κ:Type}[DecidableEq κ]{knd:PySem.KeyKind prog w κ}{s:Sd}
def AZ{l:Uf}{its:Array Vl}{n:Nat}{sl:Array (Option Vl)}{all:T0 (κ×Vl)}{Q:QQX}(kv:Nat->Vl)(tp:Nat->Uf)(hh:A.handled=Db)(hl:s.heap.get? l=Fa ⟨.type "list",Db,.seq its n,sl⟩) (hits:∀(j:Nat) (v:Vl),its[j]?=Fa v->v=.ref (tp j)) (WE:its.size=all.length) (hT:∀j p,all[j]?=Fa p->s.heap.IsTuple (tp j) #[kv j,p.2]) (hk:∀j p,all[j]?=Fa p->knd.is p.1 (kv j)=pc) (hz:all.length<=Ch) (h:∀h' tk,h'.DictOf knd s.heap.objs.size (merged [] all)->(∀b o,s.heap.get? b=Fa o->h'.get? b=Fa o)->Q (.ref s.heap.objs.size) {s with heap:=h',toks:=tk}):
  pi (Tk prog w) A (call (.type "dict") [.ref l]) Q E s:=by
 refine callType_codes (Q₁:=λobj s₁=>obj=Value.ref s.heap.objs.size/\s₁={s with heap:=s.heap.push {cls:=.type "dict",data:=.dict #[]}}) PySem.F.kt_called_dict (PySem.F.kt_typeCall_dict_1 _) F.entry_dict_init (kt_code_dict_new _ ⟨rfl,rfl⟩) ?_
 rintro obj s₁ ⟨rfl,rfl⟩
 have Yl:(s.heap.push {cls:=.type "dict",data:=.dict #[]}).DictOf knd s.heap.objs.size []:=lV s.heap;have hl':(s.heap.push {cls:=.type "dict",data:=.dict #[]}).get? l=Fa ⟨.type "list",Db,.seq its n,sl⟩:=df _ hl;have hTl:Shared.TypeIs {s with heap:=s.heap.push {cls:=.type "dict",data:=.dict #[]}} (.ref l) "list":=⟨_,hl',rfl⟩;have lsz:l<s.heap.objs.size:=dE hl;refine⟨Yl.typeIs,F.args_dict_init_2 _ _,?_⟩;unfold Builtin.«dict.__init__»;refine cW ?_;unfold Builtin.Dict.selfAndRest;refine cW (wpAny_notOrdered_dict Yl.typeIs ?_);show pi _ _ (pure (s.heap.objs.size,[Value.ref l])) _ _ _;refine dz ?_;show pi _ _ (Builtin.Dict.updateFrom "dict.__init__" s.heap.objs.size (.ref l) [] .none) _ _ _;unfold Builtin.Dict.updateFrom;refine cW (jB hTl ?_);rw[dh (by decide)];refine cW (E6 hl' (by simpa using hh) λh' tk keep=>?_);have hl2:h'.IsList l its:=⟨_,keep _ _ hl',rfl,n,rfl⟩;show pi _ _ (rule _>>=_) _ _ _;refine cW (ke (cW (g9 hl2 ?_)));have nd:h'.objs.size>s.heap.objs.size:=by have z:h'.get? s.heap.objs.size=Fa _:=keep _ _ (dI _ rfl);exact dE z
 have hDn:h'.DictOf knd s.heap.objs.size []:=by obtain⟨o,es,ep,ho,rest⟩:=Yl;exact⟨o,es,ep,keep _ _ ho,rest⟩
 have hTs:∀j p,all[j]?=Fa p->h'.IsTuple (tp j) #[kv j,p.2]:=λj p e=>by obtain⟨o,h1,h2⟩:=hT j p e;exact⟨o,keep _ _ (df _ h1),h2⟩
 have WZ:l≠h'.objs.size:=dQ (jC lsz nd);have W:=(kg (prog:=prog) (w:=w) (A:=A.in1.in1) (by simpa using hh) h'.objs.size l WZ its).toS;rw[WE]at W;refine dz ⟨ku vO _,JV (A:=A.in1) W s.heap.objs.size ?_ kv tp (λi v e=>hits i v e) (λj hj=>?_) hk hz all.length 0 0 _ (by omega) (eZ _) ⟨⟨_,dI _ rfl,rfl,rfl⟩,hl2.push _⟩ (λj p e=>(hTs j p e).push _) ?_ λs' hm hD=>?_⟩
 .simp only[c9,dq,d9,eO];exact⟨dQ nd,gC lsz⟩
 .have hj':all[j]?=Fa all[j]:=cX hj;obtain⟨o,h1,_⟩:=hT j _ hj';have tsz:=dE h1;simp only[c9,dq,d9];exact⟨dQ (jC tsz nd),dQ tsz⟩
 .obtain⟨o,es,ep,ho,rest⟩:=hDn;exact⟨o,es,ep,df _ ho,rest⟩
 .obtain⟨h2,g2,d2,t2,o2⟩:=s';have eg:g2=s.gens:=hm.gens;have ed:d2=s.drawn:=hm.drawn;have eo:o2=s.os:=hm.os;subst eg ed eo;refine⟨rfl,h h2 t2 hD λb o e=>?_⟩;have hb:=dE e;refine hm.heap b o ?_ (df _ (keep _ _ (df _ e)));simp only[c9,dq,d9,eO];exact⟨dQ hb,dQ (jC hb nd)⟩
end
def sP{κ:Type}[DecidableEq κ](l:List κ):List κ:=l.foldl (λacc k=>if k∈acc then acc else acc++[k]) []
def yh{κ:Type}[DecidableEq κ](l:List κ)(k:κ):sP (l++[k])=if k∈sP l then sP l else sP l++[k]:=by unfold sP;rw[lj];rfl
def IG{κ:Type}[DecidableEq κ]:∀l:List κ,(sP l).length<=l.length:=by
 have go:∀(l acc:List κ),(l.foldl (λacc k=>if k∈acc then acc else acc++[k]) acc).length<=acc.length+l.length:=by
  intro l;induction l with
  | nil=>intro acc;simp
  | cons k r ih=>
   intro acc;rw[gb];refine eh (ih _) ?_;split
   .simp only[eB];omega
   .simp only[eB,cY,dO];omega
 intro l;have:=go l []
 simpa [sP]using this
def Mw{κ:Type}[DecidableEq κ](x:κ):∀l:List κ,x∈sP l↔x∈l:=by
 have go:∀(l acc:List κ),x∈l.foldl (λacc k=>if k∈acc then acc else acc++[k]) acc↔x∈acc\/x∈l:=by
  intro l;induction l with
  | nil=>intro acc;simp
  | cons k r ih=>
   intro acc;rw[gb,ih];by_cases h:k∈acc
   .rw[dh h,c9];constructor
    .rintro (z|z)
     .exact .inl z
     .exact .inr (.inr z)
    .rintro (z|z|z)
     .exact .inl z
     .subst z;exact .inl h
     .exact .inr z
   .rw[de h,dR,dg,c9,or_assoc]
 intro l;have:=go l []
 simpa [sP]using this
def HL{κ:Type}[DecidableEq κ]:∀l:List κ,l.Nodup->sP l=l:=by
 have go:∀(l acc:List κ),(acc++l).Nodup->l.foldl (λacc k=>if k∈acc then acc else acc++[k]) acc=acc++l:=by
  intro l;induction l with
  | nil=>intro acc _;simp
  | cons k r ih=>
   intro acc h;have hk:k∉acc:=λz=>by rw[fD]at h;exact h.2.2 k z k dN rfl
   rw[gb,de hk,ih]
   .rw[fj];rfl
   .rw[fj];exact h
 intro l h;have:=go l [] (by simpa using h)
 simpa [sP]using this
section
variable {prog:Pg}{w:Wo}{A:Ar}{E:QQX}{R:Result→Sd→Prop}{κ:Type}[DecidableEq κ][BEq κ][LawfulBEq κ]{knd:PySem.KeyKind prog w κ}
 {I:Uf} {fp wr:QXQ} {G:Array GenState->Array GenState->Prop} {P:Nat->Vl->Prop} {St:Nat->Sd->Prop}
def Gs{all:List κ}(W:WalksS prog w A.in1 I fp wr G all.length P St)(S:Uf)(hSf:S∉fp)(hval:∀i v k,P i v->all[i]?=Fa k->knd.is k v=pc/\v.scannable=pc)(hb:all.length+1<AT):
  ∀(n i:Nat) (s:Sd),all.length - i=n->i<=all.length->St i s->s.heap.SetOf knd S (λx=>decide (x∈sP (all.take i))) (sP (all.take i)).length->
   (∀s',Moved (S::wr) G s s'->s'.heap.SetOf knd S (λx=>decide (x∈sP all)) (sP all).length->R (.ok (.ret .none)) s')->ZZ (Tk prog w) A (.builtin "set.update.loop" ⟨[.ref S,.ref I],[]⟩) R s:=by
 have hSw:S∉wr:=λh=>hSf (W.sub _ h);have up:∀b∈wr,b∈S::wr:=λb hb=>dH _ hb;have kept:∀{s s':Sd} {T:κ->Bool} {m:Nat},Moved wr G s s'->s.heap.SetOf knd S T m->s'.heap.SetOf knd S T m:=λhm ⟨o,es,ep,t,ho,rest⟩=>⟨o,es,ep,t,hm.heap S _ hSw ho,rest⟩;intro n;induction n with
 | zero=>
  intro i s h0 hi WV hS hR;obtain rfl:i=all.length:=by omega
  refine gU ir ?_;rw[ib gD _];rw[eS]at hS;exact cW (W.done s _ _ WV λs' hm=>dz (hR s' (hm.mono up) (kept hm hS)))
 | succ n ih=>
  intro i s h0 hi WV hS hR;have WP:i<all.length:=by omega
  have XU:all[i]?=Fa all[i]:=cX WP;refine gU ir ?_;rw[ib gD _];refine cW (W.item i s _ _ WP WV λv s' hP Zu hm=>?_);obtain⟨k1,k2⟩:=hval i v _ hP XU;have YN:=kept hm hS;show pi _ A.in1 (xz [v] (setAdd S v)>>=_) _ _ s';refine cW (ft ?_);unfold setAdd;refine ft (cW (knd.pyHash k1 ?_));have room:(sP (all.take i)).length+1<AT:=by have h1:=IG (all.take i);rw[fh]at h1;omega
  refine wpAny_setAddHashed_of (knd:=knd) (s:={s' with toks:=s'.toks+1}) k1 k2 YN room λh' hsb hS2=>?_;have et:all.take (i+1)=all.take i++[all[i]]:=by rw[gv,XU];rfl
  have hSi:h'.SetOf knd S (λx=>decide (x∈sP (all.take (i+1)))) (sP (all.take (i+1))).length:=by
   refine iu hS2 (λx=>?_) ?_
   .rw[et];by_cases WA:all[i]∈sP (all.take i)
    .rw[yh,dh WA];by_cases hx:x=all[i]
     .subst hx;simp[WA]
     .simp[hx]
    .rw[yh,de WA];by_cases hx:x=all[i]
     .subst hx;simp
     .simp[hx]
   .rw[et,yh];by_cases WA:all[i]∈sP (all.take i)
    .rw[dh WA];simp[WA]
    .rw[de WA];simp[WA]
  refine dz ⟨ku gD _,ih (i+1) _ (by omega) WP (W.frame _ s' _ _ Zu (gX _) λb hb o e=>?_) hSi λZp Zv hS''=>?_⟩
  .rw[hsb.2 b (λz:b=S=>hSf (z ▸ hb))];exact e
  .refine hR Zp (mC W.gtrans ((hm.mono up).then_heap (gX _) λb o hb e=>?_) Zv) hS'';rw[hsb.2 b (λz:b=S=>hb (by rw[z];exact dN))];exact e
end
def Fp:isSubtype (.type "list") (.type "set")=pure lf:=by rw[ja];kernel_rfl
def AX:isSubtype (.type "list") (.type "frozenset")=pure lf:=by rw[ja];kernel_rfl
section
variable {prog:Pg}{w:Wo}{A:Ar}{E:QQX}{κ:Type}[DecidableEq κ][BEq κ][LawfulBEq κ]{knd:PySem.KeyKind prog w κ}{s:Sd}
set_option maxHeartbeats 4000000 in
def C4{l:Uf}{items:Array Vl}{all:List κ}{Q:QQX}(hh:A.handled=Db)(hl:s.heap.IsList l items)(hn:items.size=all.length)(hi:∀(i:Nat) (v:Vl) (k:κ),items[i]?=Fa v->all[i]?=Fa k->knd.is k v=pc/\v.scannable=pc)(hb:all.length+1<AT) (h:∀(h':No) (tk:Nat),h'.SetOf knd s.heap.objs.size (λx=>decide (x∈sP all)) (sP all).length->(∀b o,s.heap.get? b=Fa o->h'.get? b=Fa o)->Q (.ref s.heap.objs.size) {s with heap:=h',toks:=tk}):
  pi (Tk prog w) A (call (.type "set") [.ref l]) Q E s:=by
 obtain⟨c,tl,Zw⟩:=fB.mro;have hmade:=fB.made;have Yq:=fB.sub;refine iD (jQ ?_);show pi _ _ (callAny (.type "set") _) _ _ _;refine dz ⟨iw _ (by decide+kernel),gU lq ?_⟩;rw[kP (j4 "set" [.ref l] []) rfl];have h1:=fB.notType;have h2:=fB.canCreate;have hct:=lK (.ref l)
 repeat (any_goals(first|assumption|wp_step))
 have fresh:∀W2:Bool,(s.heap.push {cls:=.type "set",dict:=none,data:=.set #[] 0 (.fresh 0 0 W2)}).get? s.heap.objs.size=Fa {cls:=.type "set",dict:=none,data:=.set #[] 0 (.fresh 0 0 W2)}:=λW2=>dI _ rfl;refine gu (code_set_new_1 (.ref l) (E:=E) (Q₁:=λobj s₁=>∃W2:Bool,obj=Value.ref s.heap.objs.size/\s₁={s with heap:=s.heap.push {cls:=.type "set",dict:=none,data:=.set #[] 0 (.fresh 0 0 W2)}}) λW2=>⟨W2,rfl,rfl⟩) λr s₁ hr=>?_;cases r with
 | error e=>exact hr
 | ok fl=>
  cases fl with
  | ret obj=>
   obtain⟨W2,rfl,rfl⟩:=hr;have hS:=fresh W2;have hT:Shared.TypeIs {s with heap:=s.heap.push {cls:=.type "set",dict:=none,data:=.set #[] 0 (.fresh 0 0 W2)}} (.ref s.heap.objs.size) "set":=⟨_,hS,rfl⟩;have hli:=fB.init.lookup;have hbi:=fB.init.bind (.ref s.heap.objs.size)
   repeat (any_goals(first|assumption|wp_step))
   refine gu (iO (R:=wants (λr s₂=>r=.none/\∃h' tk,s₂={s with heap:=h',toks:=tk}/\h'.SetOf knd s.heap.objs.size (λx=>decide (x∈sP all)) (sP all).length/\(∀b o,s.heap.get? b=Fa o->h'.get? b=Fa o)) E) fB.init.plain lL (lM hT ?_)) λr₂ s₂ Zx=>?_
   .obtain⟨ol,hol,Y9,nl,hdl⟩:=hl;obtain⟨ocls,Yr,odata,XW⟩:=ol;simp only at Y9 hdl;subst Y9;subst hdl;have Zy:(s.heap.push {cls:=.type "set",dict:=none,data:=.set #[] 0 (.fresh 0 0 W2)}).get? l=Fa {cls:=.type "list",dict:=Yr,data:=.seq items nl,slots:=XW}:=df _ hol;have hsls:=Fp;have hslf:=AX;have hnd:(Value.type "list"==Value.type "dict")=lf:=by decide
    have hl1:(s.heap.push {cls:=.type "set",dict:=none,data:=.set #[] 0 (.fresh 0 0 W2)}).IsList l items:=⟨_,Zy,rfl,nl,rfl⟩;unfold Builtin.«set.__init__» noKeywords Builtin.Frozenset.updateFrom;generalize hPI:pyIter=PI
    wp_walk
    subst hPI;refine g9 hl1 ?_;refine cW (wpAny_runValue ?_);have lS:l<s.heap.objs.size:=dE hol;have hh3:A.in1.in1.in1.handled=Db:=by simp[hh]
    have lI:l≠(s.heap.push {cls:=.type "set",dict:=none,data:=.set #[] 0 (.fresh 0 0 W2)}).objs.size:=by rw[fz];exact dQ (gZ lS)
    have W:=(kg (prog:=prog) (w:=w) hh3 _ l lI items).toS;rw[hn]at W;refine Gs W s.heap.objs.size ?hf (λi v k e1 e2=>hi i v k e1 e2) hb all.length 0 _ (by omega) (eZ _) ⟨⟨_,dI _ rfl,rfl,rfl⟩,(hl1.push _)⟩ ?h0 ?hR;case hf=>rw[fz];simp only[c9,dq,d9,eO];exact⟨dQ (fK _),gC lS⟩
    case h0=>exact iu ((je (knd:=knd) W2).setOf (df _ hS) (by unfold AT;omega)) (λ_=>rfl) rfl
    case hR=>intro s' hm YN;obtain⟨h',g',d',tk',Zo⟩:=s';have eg:g'=s.gens:=hm.gens;have ed:d'=s.drawn:=hm.drawn;have eo:Zo=s.os:=hm.os;subst eg;subst ed;subst eo;refine dz ?_;show pi _ _ (ret Value.none) _ _ _;refine dz ⟨rfl,h',tk',rfl,YN,λb o e=>?_⟩;have hb:=dE e;refine hm.heap b o ?_ (df _ (df _ e));rw[fz];simp only[c9,dq,d9,eO];exact⟨dQ hb,dQ (gZ hb)⟩
   .cases r₂ with
    | error e=>exact Zx
    | ok fl₂=>
     cases fl₂ with
     | ret r=>
      obtain⟨rfl,h',tk,rfl,YN,YK⟩:=Zx
      repeat (any_goals(first|assumption|wp_step))
      exact h _ _ YN YK
     | _=>exact Zx.elim
  | _=>exact hr.elim
end
def CN:isSubtype (.type "tuple") (.type "set")=pure lf:=by rw[ja];kernel_rfl
def Ag:isSubtype (.type "tuple") (.type "frozenset")=pure lf:=by rw[ja];kernel_rfl
section
variable {prog:Pg}{w:Wo}{A:Ar}{E:QQX}{κ:Type}[DecidableEq κ][BEq κ][LawfulBEq κ]{knd:PySem.KeyKind prog w κ}{s:Sd}
set_option maxHeartbeats 4000000 in
def Cd{l:Uf}{items:Array Vl}{all:List κ}{Q:QQX}(hh:A.handled=Db)(hl:s.heap.IsTuple l items)(hn:items.size=all.length)(hi:∀(i:Nat) (v:Vl) (k:κ),items[i]?=Fa v->all[i]?=Fa k->knd.is k v=pc/\v.scannable=pc)(hb:all.length+1<AT) (h:∀(h':No) (tk:Nat),h'.SetOf knd s.heap.objs.size (λx=>decide (x∈sP all)) (sP all).length->(∀b o,s.heap.get? b=Fa o->h'.get? b=Fa o)->Q (.ref s.heap.objs.size) {s with heap:=h',toks:=tk}):
  pi (Tk prog w) A (call (.type "set") [.ref l]) Q E s:=by
 obtain⟨c,tl,Zw⟩:=fB.mro;have hmade:=fB.made;have Yq:=fB.sub;refine iD (jQ ?_);show pi _ _ (callAny (.type "set") _) _ _ _;refine dz ⟨iw _ (by decide+kernel),gU lq ?_⟩;rw[kP (j4 "set" [.ref l] []) rfl];have h1:=fB.notType;have h2:=fB.canCreate;have hct:=lK (.ref l)
 repeat (any_goals(first|assumption|wp_step))
 have fresh:∀W2:Bool,(s.heap.push {cls:=.type "set",dict:=none,data:=.set #[] 0 (.fresh 0 0 W2)}).get? s.heap.objs.size=Fa {cls:=.type "set",dict:=none,data:=.set #[] 0 (.fresh 0 0 W2)}:=λW2=>dI _ rfl;refine gu (code_set_new_1 (.ref l) (E:=E) (Q₁:=λobj s₁=>∃W2:Bool,obj=Value.ref s.heap.objs.size/\s₁={s with heap:=s.heap.push {cls:=.type "set",dict:=none,data:=.set #[] 0 (.fresh 0 0 W2)}}) λW2=>⟨W2,rfl,rfl⟩) λr s₁ hr=>?_;cases r with
 | error e=>exact hr
 | ok fl=>
  cases fl with
  | ret obj=>
   obtain⟨W2,rfl,rfl⟩:=hr;have hS:=fresh W2;have hT:Shared.TypeIs {s with heap:=s.heap.push {cls:=.type "set",dict:=none,data:=.set #[] 0 (.fresh 0 0 W2)}} (.ref s.heap.objs.size) "set":=⟨_,hS,rfl⟩;have hli:=fB.init.lookup;have hbi:=fB.init.bind (.ref s.heap.objs.size)
   repeat (any_goals(first|assumption|wp_step))
   refine gu (iO (R:=wants (λr s₂=>r=.none/\∃h' tk,s₂={s with heap:=h',toks:=tk}/\h'.SetOf knd s.heap.objs.size (λx=>decide (x∈sP all)) (sP all).length/\(∀b o,s.heap.get? b=Fa o->h'.get? b=Fa o)) E) fB.init.plain lL (lM hT ?_)) λr₂ s₂ Zx=>?_
   .obtain⟨ol,hol,Y9,nl,hdl⟩:=hl;obtain⟨ocls,Yr,odata,XW⟩:=ol;simp only at Y9 hdl;subst Y9;subst hdl;have Zy:(s.heap.push {cls:=.type "set",dict:=none,data:=.set #[] 0 (.fresh 0 0 W2)}).get? l=Fa {cls:=.type "tuple",dict:=Yr,data:=.seq items nl,slots:=XW}:=df _ hol;have hsls:=CN;have hslf:=Ag;have hnd:(Value.type "tuple"==Value.type "dict")=lf:=by decide
    have hl1:(s.heap.push {cls:=.type "set",dict:=none,data:=.set #[] 0 (.fresh 0 0 W2)}).IsTuple l items:=⟨_,Zy,rfl,nl,rfl⟩;unfold Builtin.«set.__init__» noKeywords Builtin.Frozenset.updateFrom;generalize hPI:pyIter=PI
    wp_walk
    subst hPI;refine iy hl1 ?_;refine cW (wpAny_runValue ?_);have lS:l<s.heap.objs.size:=dE hol;have hh3:A.in1.in1.in1.handled=Db:=by simp[hh]
    have lI:l≠(s.heap.push {cls:=.type "set",dict:=none,data:=.set #[] 0 (.fresh 0 0 W2)}).objs.size:=by rw[fz];exact dQ (gZ lS)
    have W:=(Walks.tuple (prog:=prog) (w:=w) hh3 _ l lI items).toS;rw[hn]at W;refine Gs W s.heap.objs.size ?hf (λi v k e1 e2=>hi i v k e1 e2) hb all.length 0 _ (by omega) (eZ _) ⟨⟨_,dI _ rfl,rfl,rfl⟩,(hl1.push _)⟩ ?h0 ?hR;case hf=>rw[fz];simp only[c9,dq,d9,eO];exact⟨dQ (fK _),gC lS⟩
    case h0=>exact iu ((je (knd:=knd) W2).setOf (df _ hS) (by unfold AT;omega)) (λ_=>rfl) rfl
    case hR=>intro s' hm YN;obtain⟨h',g',d',tk',Zo⟩:=s';have eg:g'=s.gens:=hm.gens;have ed:d'=s.drawn:=hm.drawn;have eo:Zo=s.os:=hm.os;subst eg;subst ed;subst eo;refine dz ?_;show pi _ _ (ret Value.none) _ _ _;refine dz ⟨rfl,h',tk',rfl,YN,λb o e=>?_⟩;have hb:=dE e;refine hm.heap b o ?_ (df _ (df _ e));rw[fz];simp only[c9,dq,d9,eO];exact⟨dQ hb,dQ (gZ hb)⟩
   .cases r₂ with
    | error e=>exact Zx
    | ok fl₂=>
     cases fl₂ with
     | ret r=>
      obtain⟨rfl,h',tk,rfl,YN,YK⟩:=Zx
      repeat (any_goals(first|assumption|wp_step))
      exact h _ _ YN YK
     | _=>exact Zx.elim
  | _=>exact hr.elim
end
end L2
namespace HT
open PySem PyProof.Rows
variable {prog:Pg}{w:Wo}{A:Ar}{E:QQX}{s:Sd}
def yY{t sl:Uf}{vl vu:Vl}{lo hi:Option Int}{Q:QQX}(ht:IsTup s.heap t items)(hs:s.heap.IsSliceOf sl vl vu .none)(pl:IsPart vl lo)(pu:IsPart vu hi) (hw:sX items.size 0 lo=0/\sX items.size items.size hi=items.size) (h:Q (.ref t) s):pi (Tk prog w) A (TW (.ref t) (.ref sl)) Q E s:=by
 obtain⟨os,Zq,Y4,XS⟩:=id hs;have hTs:s.TypeIs (.ref sl) "slice":=⟨os,Zq,Y4⟩;unfold TW
 try with_reducible refine ft ?_
 first|refine cW (dz ?_)|skip
 refine cW (jn ht.typeIs (by decide) ?_);refine cW (fQ (name:=Str.ofString "__getitem__") ht.typeIs fE (gh fE ht.typeIs ky ?_ (kN _ _)));show pi _ _ (Builtin.Tuple.tupleItemsOf (.ref t)>>=_) _ _ s;refine cW (tupleItemsOf_ ht ?_);refine cW (jB hTs ?_);rw[dh (by decide)];refine cW (wq hs pl pu ?_);have yes:(((sX items.size 0 lo:Nat):Int)==0&&(1:Int)==1&&(sX items.size items.size hi - sX items.size 0 lo)==items.size)=pc:=by rw[hw.1,hw.2];simp
 show pi _ _ (if (((sX items.size 0 lo:Nat):Int)==0&&(1:Int)==1&&(sX items.size items.size hi - sX items.size 0 lo)==items.size)=pc then _ else _) _ _ s;rw[dh yes];have hT:=ht.typeIs;obtain⟨hp,g,d,tk,o⟩:=s
 repeat (any_goals(first|assumption|wp_step))
 exact⟨_,rfl,dz h⟩
end HT
namespace L2
variable {X:Cx}{p p2 pos Ys:Pos}{e:Go}{te:TE}
section
def Vr(K:qp):V->Option Int->Option Int->Hp->VK->Prop:=λx lo hi H Q=>∃a xs,x=.ref a/\ve K H a xs/\(HT.sX xs.length 0 lo=0/\HT.sX xs.length xs.length hi=xs.length)/\Q (.ref a) H
def Rt:SV X (Vr X.K):=by
 intro Wz s Y H x v vl vu lo hi sl Q I rx hs pl pu h;obtain⟨a,xs,rfl,hx,hw,q⟩:=h;cases rx;obtain⟨its,r,ht,hz⟩:=I.tuple hx;have WE:its.toArray.size=xs.length:=by rw[dA];exact r.length.symm
 exact⟨"tuple",_,fE.lookup,ht.typeIs,HT.yY ht hs pl pu (by rw[WE];exact hw) ⟨.ref a,H,I,rfl,q⟩⟩
local instance (priority:=5000) keyBEq:BEq qZ:=instBEqOfDecidableEq
local instance (priority:=5000) keyLaw:LawfulBEq qZ:=inferInstanceAs (LawfulBEq (Sum Int Str))
def Oe(K:qp)(te:TE):TE:=λY H Q=>te Y H λx H1=>∃a,∃ss:QQQ,x=.ref a/\(w9 K H1 a (ss.map V.str)\/ve K H1 a (ss.map V.str))/\ss.length+1<AT/\Q (.int (sP ss).length) H1
def FP{ss:QQQ}(r:qA (ss.map V.str) us):us.length=ss.length/\∀(i:Nat) (v:Vl) (k:qZ),us[i]?=Fa v->(ss.map λx=>(Sum.inr x:qZ))[i]?=Fa k->(rD P w).is k v=pc/\v.scannable=pc:=by
 refine⟨by rw[<-r.length,cV],λi v k e1 e2=>?_⟩;rw[dF]at e2;cases q:ss[i]? with
 | none=>rw[q]at e2;cases e2
 | some x=>rw[q]at e2;cases e2;obtain⟨u,e3,t,rfl⟩:=r.get (i:=i) (x:=V.str x) (by rw[dF,q];rfl);rw[e3]at e1;cases e1;exact⟨An P w x t,rfl⟩
def Nj{ss:QQQ}:(sP (ss.map λx=>(Sum.inr x:qZ))).length=(sP ss).length:=by
 have go:∀(l acc:QQQ),(l.map λx=>(Sum.inr x:qZ)).foldl (λacc k=>if k∈acc then acc else acc++[k]) (acc.map Sum.inr)=(l.foldl (λacc k=>if k∈acc then acc else acc++[k]) acc).map Sum.inr:=by
  intro l;induction l with
  | nil=>intro acc;rfl
  | cons k r ih=>
   intro acc;rw[dZ,gb,gb];have hm:(Sum.inr k:qZ)∈acc.map Sum.inr↔k∈acc:=by
    rw[dD];constructor
    .rintro ⟨y,h1,h2⟩;cases h2;exact h1
    .exact λh=>⟨k,h,rfl⟩
   by_cases h:k∈acc
   .rw[dh h,dh (hm.mpr h)];exact ih acc
   .rw[de h,de λz=>h (hm.mp z)];have:=ih (acc++[k]);rw[dU]at this;exact this
 have:=go ss [];unfold sP;rw[iN]at this;rw[this,cV]
def JX(hc:X.calm=pc)(he:PE X e te)(hg1:Gl X "len")(WA:X.mg "len"=Db)(hg2:Gl X "set")(WR:X.mg "set"=Db)(b1:zn "len"=Fa (.builtin "len"))(b2:zn "set"=Fa (.type "set")) (hs:Tl [e] X.env=[(lf,wp e X.env)]:=by rfl):PE X (.Call (.Name "len" p) [.Call (.Name "set" p2) [e] [] Ys] [] pos) (Oe X.K te):=by
 intro Wz s Y H Q I h;refine gm (xb I hg1 WA b1 ?_);refine iM ?_ rfl rfl;show pi _ _ (spliced ((lf,wp (.Call (.Name "set" p2) [e] [] Ys) X.env)::Ix pos (Tl [] X.env))) _ _ s;refine jd ?_;refine gm (xb I hg2 WR b2 ?_);refine fP ?_ hs rfl;rw[hs];show pi _ _ (spliced ((lf,wp e X.env)::Ix Ys (Tl [] X.env))) _ _ s;refine jd (sy (he Wz s Y H _ I h) λu s1 ⟨x,H1,I1,r1,a,ss,ex,hq,hb,q⟩=>jl ?_);subst ex;obtain rfl:u=Value.ref a:=r1;have Xe:(ss.map λx=>(Sum.inr x:qZ)).length+1<AT:=by rw[cV];exact hb
 have WB:∀(h':No) (tk:Nat),h'.SetOf (rD X.prog X.w) s1.heap.objs.size (λx=>decide (x∈sP (ss.map λx=>(Sum.inr x:qZ)))) (sP (ss.map λx=>(Sum.inr x:qZ))).length->(∀b o,s1.heap.get? b=Fa o->h'.get? b=Fa o)->
   pi (Tk X.prog X.w) X.A (spliced (Ix pos (Tl [] X.env))) (λvs s₁=>pi (Tk X.prog X.w) X.A (call (.builtin "len") (.ref s1.heap.objs.size::vs)) (EP X Wz Y Q) X.xe s₁) X.xe {s1 with heap:=h',toks:=tk}:=λh' tk hS keep=>by
  refine jl ?_;obtain⟨o,es,ep,t,ho,hex,hd,_,_,hz,hf,hn⟩:=hS;have WP:(es.size:Int)<2 ^ 63:=by have:AT=4096:=rfl;omega
  refine call_len_set ho hex hd hf WP ?_;refine⟨.int es.size,H1,I1.kept keep,⟨_,rfl⟩,?_⟩;rw[hn,Nj];exact q
 rcases hq with hq|hq
 .obtain⟨its,r,pl,hz⟩:=I1.list hq;obtain⟨k1,k2⟩:=FP (P:=X.prog) (w:=X.w) r;exact L2.C4 (knd:=rD X.prog X.w) (all:=ss.map λx=>(Sum.inr x:qZ)) (I1.ok.hd hc) pl.isList (by rw[dA,k1,cV]) (λi v k e1 e2=>k2 i v k (by simpa using e1) e2) Xe WB
 .obtain⟨its,r,pl,hz⟩:=I1.tuple hq;obtain⟨k1,k2⟩:=FP (P:=X.prog) (w:=X.w) r;exact L2.Cd (knd:=rD X.prog X.w) (all:=ss.map λx=>(Sum.inr x:qZ)) (I1.ok.hd hc) pl (by rw[dA,k1,cV]) (λi v k e1 e2=>k2 i v k (by simpa using e1) e2) Xe WB
end
variable {Wz:T0 (Uf × Obj)}{Y:St}{H:Hp}{s:Sd}
theorem Dx(I:Inv X Wz Y H s):∀(ts:QXQ) (kvs:T0 (qZ×V)),ts.length=kvs.length->(∀(j:Nat) (t:Uf) (p:qZ×V),ts[j]?=Fa t->kvs[j]?=Fa p->ve X.K H t [kV p.1,p.2])->
  ∃(us:T0 Vl) (all:T0 (qZ×Vl)),us.length=kvs.length/\KV kvs all/\∀(j:Nat) (t:Uf) (p:qZ×Vl),ts[j]?=Fa t->all[j]?=Fa p->∃u,us[j]?=Fa u/\s.heap.IsTuple t #[u,p.2]/\(rD X.prog X.w).is p.1 u=pc
 | [],[],_,_=>⟨[],[],rfl,.nil,λj t p e=>by simp at e⟩
 | [],_::_,h,_=>by simp at h
 | _::_,[],h,_=>by simp at h
 | t::ts,(k,v)::kvs,h,hq=>by
  obtain⟨us,all,h1,h2,h3⟩:=Dx I ts kvs (by simpa using h) (λj t p e1 e2=>hq (j+1) t p (by simpa using e1) (by simpa using e2));obtain⟨its,r,pl,_⟩:=I.tuple (hq 0 t (k,v) (by simp) (by simp));cases r with
  | cons r1 r2=>
   cases r2 with
   | cons r3 r4=>
    cases r4;rename_i u w;refine⟨u::us,(k,w)::all,by simpa using h1,.cons ⟨rfl,r3⟩ h2,λj t' p e1 e2=>?_⟩;cases j with
    | zero=>
     have e1':t=t':=by simpa using e1
     have Yn:(k,w)=p:=by simpa using e2
     subst e1' Yn;exact⟨u,by simp,pl,DW r1⟩
    | succ j=>simpa using h3 j t' p (by simpa using e1) (by simpa using e2)
theorem L':∀{kvs:T0 (qZ×V)} {all:T0 (qZ×Vl)},KV kvs all->all.map (·.1)=kvs.map (·.1)
 | _,_,.nil=>rfl
 | _,_,.cons r rs=>by rw[dZ,dZ,L' rs,r.1]
def HN(hc:X.calm=pc):yq X (.type "dict") (λxs H Q=>∃l,∃ts:QXQ,∃kvs:T0 (qZ×V),xs=[V.ref l]/\w9 X.K H l (ts.map V.ref)/\ts.length=kvs.length/\
  (∀(j:Nat) (t:Uf) (p:qZ×V),ts[j]?=Fa t->kvs[j]?=Fa p->ve X.K H t [kV p.1,p.2])/\(kvs.map (·.1)).Nodup/\∀d,H d=Db->Q (.ref d) (upd H d (.dK kvs))):=by
 intro Wz s Y H xs us Q I r h;obtain⟨l,ts,kvs,rfl,hl,WE,hq,hnd,q⟩:=h;obtain⟨u,rfl,ru⟩:=wA r;cases ru;obtain⟨its,rv,⟨⟨c1,d1,t1,sl1⟩,n,g1,e1,e2,e3⟩,hz⟩:=I.list hl;simp only at e1 e2 e3;subst e1 e2 e3;obtain⟨ks,all,h1,h2,h3⟩:=Dx I ts kvs WE hq;have la:all.length=kvs.length:=(jh h2).symm;have li:its.length=kvs.length:=by rw[<-rv.length,cV,WE]
 have zl:all.length<=Ch:=by rw[la,<-WE];simpa using hz
 have at_:∀(j:Nat) (p:qZ×Vl),all[j]?=Fa p->∃t,ts[j]?=Fa t:=λj p e=>by have:=(cZ.mp e).1;exact⟨ts[j],cX (by omega)⟩
 refine AZ (knd:=rD X.prog X.w) (all:=all) (λj=>(ks[j]?).getD .none) (λj=>(ts[j]?).getD 0) (I.ok.hd hc) g1 (λj v e=>?_) (by rw[dA,li,la]) (λj p e=>?_) (λj p e=>?_) zl λh' tk hD keep=>?_
 .have e':its[j]?=Fa v:=by simpa using e
  have hj:=(cZ.mp e').1;have hj2:j<ts.length:=by omega
  obtain⟨w,e4,e5⟩:=rv.get (i:=j) (x:=V.ref ts[j]) (by rw[dF,cX hj2];rfl);rw[e']at e4;cases e4;show v=Value.ref ((ts[j]?).getD 0);rw[cX hj2];exact e5
 .obtain⟨t,et⟩:=at_ j p e;obtain⟨u,e4,e5,_⟩:=h3 j t p et e;show s.heap.IsTuple ((ts[j]?).getD 0) #[(ks[j]?).getD .none,p.2];rw[et,e4];exact e5
 .obtain⟨t,et⟩:=at_ j p e;obtain⟨u,e4,_,e6⟩:=h3 j t p et e;show(rD X.prog X.w).is p.1 ((ks[j]?).getD .none)=pc;rw[e4];exact e6
 .rw[merged_nil_of_nodup all (by rw[L' h2];exact hnd)]at hD;have fr:=I.mQ.fresh (dw s.heap.objs.size);exact⟨.ref s.heap.objs.size,_,I.laid (t':=tk) (o:=.dK kvs) keep (dw _) (L9 (by rw[<-la];exact zl) (fV.mpr (dG (dQ I.big))) h2 hD),rfl,q _ fr⟩
def U5:R2:=λx y H Q=>∃a v,x=.ref a/\AO H a y (Fa v)/\Q v H
def ON(hu:X.A.units+1<wP):SL X U5:=by
 intro value WK Wz s Y H x y o i Q I rx ry h hs;obtain⟨a,v,rfl,g,q⟩:=h;obtain rfl:o=Value.ref a:=rx;have hT:=GH I g;have h2:pi (Tk X.prog X.w) X.A (TW (.ref a) i) (EP X Wz Y Q) X.xe s:=J5 hu I g ry λw' s3 I3 YI=>⟨v,H,I3,YI,q⟩;unfold subscriptTail;refine cW ?_;rw[j5 hT.not_modules];refine cW (jR hT jt.lookup ?_);have WB:pi (Tk X.prog X.w) X.A (subscripted WK lf (.ref a) i) (λr s₃=>pi (Tk X.prog X.w) X.A (letTemporaryGo value (.ref a) r>>=λ_=>pure r) (EP X Wz Y Q) X.xe s₃) X.xe s:=by rw[hs];exact wpAny_operating (eE h2 (λr s₃ h₃=>cW (kh (dz h₃))) λ_ _ x=>x)
 first
  | exact dz (cW WB)
  | exact cW (dz (cW WB))
  | exact cW WB
def RZ(hu:X.A.units+1<wP):xq X (Op .In) (λx y H Q=>∃a o,y=.ref a/\AO H a x o/\Q (.bl o.isSome) H):=by intro Wz s Y H x y v u Q I rx ry h;obtain⟨a,o,rfl,g,q⟩:=h;obtain rfl:u=Value.ref a:=ry;exact VP hu I g rx λs3 I3=>⟨.bl o.isSome,H,I3,rfl,q⟩
def JP(hu:X.A.units+1<wP):xq X (Op .NotIn) (λx y H Q=>∃a o,y=.ref a/\AO H a x o/\Q (.bl (!o.isSome)) H):=by intro Wz s Y H x y v u Q I rx ry h;obtain⟨a,o,rfl,g,q⟩:=h;obtain rfl:u=Value.ref a:=ry;exact OU hu I g rx λs3 I3=>⟨.bl (!o.isSome),H,I3,rfl,q⟩
variable {prog:Pg}{w:Wo}{A:Ar}{E:QQX}{a:Uf}{U:Type}{k:Str}{tk:Tok}
section
variable {R:U→Vl→Prop}{D:T0 (Str × U)}
def yK(T:KTD.TabOf R s.heap a D):s.TypeIs (.ref a) "dict":=let⟨_,o,_,_,ho,hc,_⟩:=T;⟨o,ho,hc.1⟩
def Jj{Q:Option Vl->Sd->Prop}(T:KTD.TabOf R s.heap a D)(h1:∀d v,KTD.datumAt k D=Fa d->R d v->Q (Fa v) {s with toks:=s.toks+1})(h2:KTD.datumAt k D=Db->Q Db {s with toks:=s.toks+1}):
  pi (Tk prog w) A (dictGet a (.str k tk)) Q E s:=by
 obtain⟨_,o,es,ep,ho,hc,hd,hr⟩:=T;have hq:Q (findBy (λk v=>v.isStr k) es k) {s with toks:=s.toks+1}:=by
  have hf:findBy (λk v=>v.isStr k) es k=(es.toList.find? λe=>e.key.isStr k).map (·.val):=by obtain⟨l⟩:=es;simp[findBy]
  rw[hf];cases Zz:KTD.datumAt k D with
  | none=>rw[hr.find_none Zz];exact h2 Zz
  | some d=>obtain⟨v,hv,hfl⟩:=hr.find_some Zz;rw[hv];exact h1 d v Zz hfl
 have W1:(es.all λe=>isExactStrKey e.key)=pc:=by
  obtain⟨l⟩:=es
  simpa using hr.exact
 unfold dictGet
 try with_reducible refine ft ?_
 refine cW (lC (cW (KTD.kt_dictFind_strs (s:={s with toks:=s.toks+1}) ho hd W1 ?_)));rw[findBy_of_findIdx?]at hq;cases hi:es.findIdx? λe=>e.key.isStr k with
 | none=>rw[hi]at hq;exact dz hq
 | some i=>rw[hi]at hq;exact cW (wpAny_dictEntries (s:={s with toks:=s.toks+1}) ho hd (dz hq))
def RD{Q:QQX}(T:KTD.TabOf R s.heap a D)(h:Q (.bool (KTD.datumAt k D).isSome) {s with toks:=s.toks+1}):pi (Tk prog w) A (Op .In (.str k tk) (.ref a)) Q E s:=by
 have hT:=yK T;show pi _ _ (do return .bool (<-contains (.ref a) (.str k tk))) Q E s;refine cW ?_;unfold contains
 try with_reducible refine ft ?_
 refine cW (jR hT jf.lookup ?_);show pi _ _ (if (Fa (Value.builtin "dict.__contains__")==Fa Value.none)=pc then _ else _) _ E s;rw[de (by rw[beq_builtin_none];exact dC)];refine cW (wpAny_callSpecialUnlessNone?_slot (name:=Str.ofString "__contains__") hT jf (gh jf hT entry_dict_contains ?_ (args_dict_contains _ _)));show pi _ _ (dictGet a (.str k tk)>>=_) _ _ s;refine cW (Jj T (λd v ha _=>?_) λhn=>?_)
 .rw[ha]at h;show pi _ _ (ret (.bool pc)) _ _ _;exact dz ⟨_,rfl,fu (dz h)⟩
 .rw[hn]at h;show pi _ _ (Builtin.Dict.pendingKey? a (.str k tk)>>=_) _ _ _;exact cW (wpAny_pendingKey_other T.1 (dz ⟨_,rfl,fu (dz h)⟩))
def Nk{Q:QQX}{d:U}(T:KTD.TabOf R s.heap a D)(hd:KTD.datumAt k D=Fa d)(h:∀v,R d v->Q v {s with toks:=s.toks+1}):pi (Tk prog w) A (TW (.ref a) (.str k tk)) Q E s:=by
 have hT:=yK T;unfold TW
 try with_reducible refine ft ?_
 refine cW (jn hT (by decide) ?_);refine cW (fQ (name:=Str.ofString "__getitem__") hT ls (gh ls hT entry_dict_getitem ?_ (args_dict_getitem _ _)));show pi _ _ (dictGet a (.str k tk)>>=_) _ _ s;refine cW (Jj T (λd' v ha hv=>dz ⟨v,rfl,dz (h v ?_)⟩) λhn=>?_)
 .rw[hd]at ha;cases ha;exact hv
 .rw[hd]at hn;cases hn
end
def Nb(K:qp)(mg:QQZ)(x:Str)(F:T0 (Str×QQQ)):Prop:=∃a o es ep,mg x=Fa (.ref a)/\(a==IN)=lf/\K.lookup a=Fa o/\o.ExactDict/\o.data=.dict es ep/\
 KTD.Rows (λ(ss:QQQ) v=>∃t,v=Value.ref t/\ve K (λ_=>Db) t (ss.map V.str)) es.toList F
variable {x:Str}{F:T0 (Str × QQQ)}
def IZ{K:qp}(h:ve K (λ_=>Db) t xs):ve K H t xs:=by
 rcases h with(h|⟨o,h⟩)|h
 .cases h
 .cases h
 .exact .inr h
def F5{K:qp}(T:Nb K mg x F):∃a,mg x=Fa (.ref a)/\∀h:No,K.In h->KTD.TabOf (λ(ss:QQQ) v=>∃t,v=Value.ref t/\ve K (λ_=>Db) t (ss.map V.str)) h a F:=by obtain⟨a,o,es,ep,h1,h2,h3,h4,h5,h6⟩:=T;exact⟨a,h1,λh hk=>⟨h2,o,es,ep,hk a o h3,h4,h5,h6⟩⟩
def VO(x:Str):It:=⟨λi _=>i<x.cps.size,λi H v H'=>H'=H/\∃c,x.cps[i]?=Fa c/\v=.str ⟨#[c]⟩,λi _=>i=x.cps.size⟩
def GM{K:qp}{ty:String}{x:Str}{t:Tok}(it:Uf)(W:∀A':Ar,A'.handled=Db->Walks P w A' it [it] [it] x.cps.size (SignAt x) (λi h=>h.IsStrIter it ty x t i)) (hself:∀(A:Ar) (i:Nat) (s:Sd) (Q:QQX) (E:QQX),s.heap.IsStrIter it ty x t i->Q (.ref it) s->pi (Tk P w) A (pyIter (.ref it)) Q E s) (hn:["enumerate","zip","dict_itemiterator","dict_reverseitemiterator","odict_iterator","itertools.zip_longest","itertools.pairwise"].contains ty=lf):E5 P w K tg (VO x) [it] it (λi h=>h.IsStrIter it ty x t i) where
 mem:=by simp
 obj:=λi h st b hb=>by
  obtain rfl:b=it:=by simpa using hb
  obtain⟨o,e,c,d⟩:=st;exact⟨o,e,λv z=>by rw[d]at z;cases z⟩
 keep:=λi h h' st k=>by obtain⟨o,e,r⟩:=st;exact⟨o,k it (by simp) o e,r⟩
 item:=by intro X hP hw hK hc i Wz s Y H E I hf st hg;subst hP hw hK;obtain⟨f0,f1,f2,f3,f4,f5⟩:=hf it (by simp);refine(W X.A (I.ok.hd hc)).item i s _ _ hg st λv h' tk hv X0 kp=>?_;obtain⟨c,u,e1,e2⟩:=hv;have I1:Inv X Wz Y H {s with heap:=h',toks:=tk}:=I.turned (t':=tk) (λb o hb e=>kp b o (by simpa using hb) e) f0 f1 f3 f4 f5;obtain⟨o,e,cl,d⟩:=id X0;exact⟨v,rfl,H9 (s:={s with heap:=h',toks:=tk}) e cl d hn ⟨.str ⟨#[c]⟩,H,I1,⟨u,e2⟩,⟨rfl,c,e1,rfl⟩,X0,λb hb=>(hf b hb).1⟩⟩
 done:=by intro X hP hw hK hc i Wz s Y H E I hf st hg;subst hP hw hK;obtain⟨f0,f1,f2,f3,f4,f5⟩:=hf it (by simp);obtain rfl:i=x.cps.size:=hg;exact(W X.A (I.ok.hd hc)).done s _ _ st λh' tk kp=>⟨rfl,I.turned (t':=tk) (λb o hb e=>kp b o (by simpa using hb) e) f0 f1 f3 f4 f5⟩
 self:=hself
variable {tg:Go}
def OJ(hc:X.calm=pc)(hl:PE X l tl):PI X tg l (λY H R=>tl Y H λx H1=>(∃a,x=.ref a/\(((∃xs,w9 X.K H1 a xs)/\R (UG X.K a) H1)\/((∃xs,ve X.K H1 a xs)/\R (Vd X.K a) H1)))\/∃z,x=.str z/\R (VO z) H1):=by
 intro Wz s Y H R I h;refine sy (hl Wz s Y H _ I h) λv s1 zz=>x5 zz λx H1 I1 r1 q1=>?_;rcases q1 with⟨a,e,q1⟩|⟨z,e,q⟩
 .subst e;cases r1;rcases q1 with⟨⟨xs,hq⟩,q⟩|⟨⟨xs,hq⟩,q⟩
  .obtain⟨its,rv,p,hz⟩:=I1.list hq;refine g9 p.isList ?_;refine⟨s1.heap.objs.size,[s1.heap.objs.size],_,_,H1,rfl,I1.kept (t':=s1.toks) λb o e=>df _ e,Km a _,⟨_,dI _ rfl,rfl,rfl⟩,λb hb=>?_,q⟩;obtain rfl:b=s1.heap.objs.size:=by simpa using hb
   exact I1.nP (dw _) (I1.mQ.fresh (dw _))
  .obtain⟨its,rv,p,hz⟩:=I1.tuple hq;refine iy (show s1.heap.IsTuple a its.toArray from p) ?_;refine⟨s1.heap.objs.size,[s1.heap.objs.size],_,_,H1,rfl,I1.kept (t':=s1.toks) λb o e=>df _ e,Ha a _,⟨_,dI _ rfl,rfl,rfl⟩,λb hb=>?_,q⟩;obtain rfl:b=s1.heap.objs.size:=by simpa using hb
   exact I1.nP (dw _) (I1.mQ.fresh (dw _))
 .subst e;obtain⟨t,rfl⟩:=r1;have fp:∀b∈[s1.heap.objs.size],zN X Wz H1 b:=λb hb=>by
   obtain rfl:b=s1.heap.objs.size:=by simpa using hb
   exact I1.nP (dw _) (I1.mQ.fresh (dw _))
  cases ha:z.cps.all (·<128)
  .refine wpAny_pyIter_wide ha ?_;exact⟨s1.heap.objs.size,[s1.heap.objs.size],_,_,H1,rfl,I1.kept (t':=s1.toks) λb o e=>df _ e,GM _ (λA' hA=>Walks.strWide hA _ z t) (λA i s Q E st h=>wpAny_pyIter_striter_wide st h) (by decide),⟨_,dI _ rfl,rfl,rfl⟩,fp,q⟩
  .refine wpAny_pyIter_ascii ha ?_;exact⟨s1.heap.objs.size,[s1.heap.objs.size],_,_,H1,rfl,I1.kept (t':=s1.toks) λb o e=>df _ e,GM _ (λA' hA=>Walks.strAscii hA _ z t) (λA i s Q E st h=>wpAny_pyIter_striter_ascii st h) (by decide),⟨_,dI _ rfl,rfl,rfl⟩,fp,q⟩
end L2
namespace L2
inductive CW{α0:Sort u}{α1:Sort v}(p:α0->α1->Prop):Prop
 | mk (a0:α0) (a1:α1) (h:p a0 a1):CW p
inductive De{α0:Sort u}{α1:Sort v}{α2:Sort w}(p:α0->α1->α2->Prop):Prop
 | mk (a0:α0) (a1:α1) (a2:α2) (h:p a0 a1 a2):De p
def x7{α:Sort u}{β:Sort v}{γ:Sort w}{p q r s:α->β->γ->Prop}{C:Prop}(h:De λa b c=>p a b c/\q a b c/\r a b c/\s a b c)(f:∀a b c,p a b c->q a b c->r a b c->s a b c->C):C:=by obtain⟨a,b,c,h1,h2,h3,h4⟩:=h;exact f a b c h1 h2 h3 h4
def Kv{α:Sort u}{β:Sort v}{γ:Sort w}{p q r s s1 s2 s3:α->β->γ->Prop}{C:Prop}(h:De λa b c=>p a b c/\q a b c/\r a b c/\s a b c/\s1 a b c/\s2 a b c/\s3 a b c)(f:∀a b c,p a b c->q a b c->r a b c->s a b c->s1 a b c->s2 a b c->s3 a b c->C):C:=by obtain⟨a,b,c,h1,h2,h3,h4,h5,h6,h7⟩:=h;exact f a b c h1 h2 h3 h4 h5 h6 h7
inductive BA{α0:Sort u}{α1:Sort v}{α2:Sort w}{α3:Sort u1}(p:α0->α1->α2->α3->Prop):Prop
 | mk (a0:α0) (a1:α1) (a2:α2) (a3:α3) (h:p a0 a1 a2 a3):BA p
inductive GY{α0:Sort u}{α1:Sort v}{α2:Sort w}{α3:Sort u1}{α4:Sort u2}(p:α0->α1->α2->α3->α4->Prop):Prop
 | mk (a0:α0) (a1:α1) (a2:α2) (a3:α3) (a4:α4) (h:p a0 a1 a2 a3 a4):GY p
inductive J0{α0:Sort u}{α1:Sort v}{α2:Sort w}{α3:Sort u1}{α4:Sort u2}{α5:Sort u3}(p:α0->α1->α2->α3->α4->α5->Prop):Prop
 | mk (a0:α0) (a1:α1) (a2:α2) (a3:α3) (a4:α4) (a5:α5) (h:p a0 a1 a2 a3 a4 a5):J0 p
inductive SO{α0:Sort u}{α1:Sort v}{α2:Sort w}{α3:Sort u1}{α4:Sort u2}{α5:Sort u3}{α6:Sort u4}(p:α0->α1->α2->α3->α4->α5->α6->Prop):Prop
 | mk (a0:α0) (a1:α1) (a2:α2) (a3:α3) (a4:α4) (a5:α5) (a6:α6) (h:p a0 a1 a2 a3 a4 a5 a6):SO p
inductive RV{α0:Sort u}{α1:Sort v}{α2:Sort w}{α3:Sort u1}{α4:Sort u2}{α5:Sort u3}{α6:Sort u4}{α7:Sort u5}(p:α0->α1->α2->α3->α4->α5->α6->α7->Prop):Prop
 | mk (a0:α0) (a1:α1) (a2:α2) (a3:α3) (a4:α4) (a5:α5) (a6:α6) (a7:α7) (h:p a0 a1 a2 a3 a4 a5 a6 a7):RV p
inductive QP{α0:Sort u}{α1:Sort v}{α2:Sort w}{α3:Sort u1}{α4:Sort u2}{α5:Sort u3}{α6:Sort u4}{α7:Sort u5}{α8:Sort u6}(p:α0->α1->α2->α3->α4->α5->α6->α7->α8->Prop):Prop
 | mk (a0:α0) (a1:α1) (a2:α2) (a3:α3) (a4:α4) (a5:α5) (a6:α6) (a7:α7) (a8:α8) (h:p a0 a1 a2 a3 a4 a5 a6 a7 a8):QP p
inductive JY{α0:Sort u}{α1:Sort v}{α2:Sort w}{α3:Sort u1}{α4:Sort u2}{α5:Sort u3}{α6:Sort u4}{α7:Sort u5}{α8:Sort u6}{α9:Sort u7}(p:α0->α1->α2->α3->α4->α5->α6->α7->α8->α9->Prop):Prop
 | mk (a0:α0) (a1:α1) (a2:α2) (a3:α3) (a4:α4) (a5:α5) (a6:α6) (a7:α7) (a8:α8) (a9:α9) (h:p a0 a1 a2 a3 a4 a5 a6 a7 a8 a9):JY p
inductive U6{α0:Sort u}{α1:Sort v}{α2:Sort w}{α3:Sort u1}{α4:Sort u2}{α5:Sort u3}{α6:Sort u4}{α7:Sort u5}{α8:Sort u6}{α9:Sort u7}{α10:Sort u8}(p:α0->α1->α2->α3->α4->α5->α6->α7->α8->α9->α10->Prop):Prop
 | mk (a0:α0) (a1:α1) (a2:α2) (a3:α3) (a4:α4) (a5:α5) (a6:α6) (a7:α7) (a8:α8) (a9:α9) (oX:α10) (h:p a0 a1 a2 a3 a4 a5 a6 a7 a8 a9 oX):U6 p
inductive Vb{α0:Sort u}{α1:Sort v}{α2:Sort w}{α3:Sort u1}{α4:Sort u2}{α5:Sort u3}{α6:Sort u4}{α7:Sort u5}{α8:Sort u6}{α9:Sort u7}{α10:Sort u8}{α11:Sort u9}(p:α0->α1->α2->α3->α4->α5->α6->α7->α8->α9->α10->α11->Prop):Prop
 | mk (a0:α0) (a1:α1) (a2:α2) (a3:α3) (a4:α4) (a5:α5) (a6:α6) (a7:α7) (a8:α8) (a9:α9) (oX:α10) (a11:α11) (h:p a0 a1 a2 a3 a4 a5 a6 a7 a8 a9 oX a11):Vb p
end L2
namespace L2
open PySem
def TV(a C:Uf)(h:No):Prop:=CW λoe vs=>h.get? a=Fa oe/\oe.cls=.ref C/\oe.data=.fields vs/\oe.dict=Db
end L2
namespace L3
open L2
inductive D where
 | mL|bl (b:Bool)|int (i:Int)|str (x:Str)|tup (ds:List D)|ref (a:Uf)|ty (n:String)
 | rl (ds:List D)
def NW(K:qp)(H:Hp)(a:Uf)(xs:T0 V):Prop:=(∃o,H a=Fa (.frz o (.lst xs)))\/
 ∃(o:Obj) (its:Array Vl) (n:Nat),K.lookup a=Fa o/\o.cls=.type "list"/\o.dict=Db/\o.data=.seq its n/\its.size<=Ch/\qA xs its.toList
def NW.sq{K:qp}(h:NW K H a xs):w9 K H a xs:=by
 rcases h with⟨o,h⟩|h
 .exact .inl (.inr ⟨o,h⟩)
 .exact .inr h
mutual
def rL(K:qp)(H:Hp):D->V->Prop
 | .mL,v=>v=.mL
 | .bl b,v=>v=.bl b
 | .int i,v=>v=.int i
 | .str x,v=>v=.str x
 | .ref a,v=>v=.ref a
 | .ty n,v=>v=.ty n
 | .tup ds,v=>∃a xs,v=.ref a/\ve K H a xs/\qc K H ds xs
 | .rl ds,v=>∃a xs,v=.ref a/\NW K H a xs/\qc K H ds xs
def qc(K:qp)(H:Hp):T0 D->T0 V->Prop
 | [],xs=>xs=[]
 | d::ds,xs=>∃x r,xs=x::r/\rL K H d x/\qc K H ds r
end
structure qO(K:qp)(H H':Hp):Prop where
 t:∀a xs,ve K H a xs->ve K H' a xs
 f:∀a o xs,H a=Fa (.frz o (.lst xs))->H' a=Fa (.frz o (.lst xs))
def qO.refl{K:qp}:qO K H H:=⟨λ_ _ h=>h,λ_ _ _ h=>h⟩
def qO.trans{K:qp}(a:qO K H H1)(b:qO K H1 H2):qO K H H2:=⟨λc xs h=>b.t c xs (a.t c xs h),λc o xs h=>b.f c o xs (a.f c o xs h)⟩
def qO.upd{K:qp}(h:∀xs,¬Rd H p (.tup xs))(h':∀u xs,H p≠Fa (.frz u (.lst xs))):qO K H (upd H p o):=⟨λa xs q=>by
 rcases q with q|q
 .have ne:a≠p:=λz=>h xs (z ▸ q);rcases q with q|⟨u,q⟩
  .exact .inl (.inl (by rw[pS ne];exact q))
  .exact .inl (.inr ⟨u,by rw[pS ne];exact q⟩)
 .exact .inr q,λa u xs q=>by
 have ne:a≠p:=λz=>h' u xs (z ▸ q);rw[pS ne];exact q⟩
def qO.new{K:qp}{H:Hp}{p:Uf}(h:H p=Db):qO K H (L2.upd H p o):=.upd (λxs q=>by
 rcases q with q|⟨u,q⟩<;>(rw[h]at q;cases q)) λu xs q=>by rw[h]at q;cases q
def NW.mono{K:qp}(e:qO K H H')(h:NW K H a xs):NW K H' a xs:=by
 rcases h with⟨o,h⟩|h
 .exact .inl ⟨o,e.f a o xs h⟩
 .exact .inr h
mutual
theorem rL.mono{K:qp}(e:qO K H H'):∀{d:D} {v:V},rL K H d v->rL K H' d v
 | .mL,_,h=>h
 | .bl _,_,h=>h
 | .int _,_,h=>h
 | .str _,_,h=>h
 | .ref _,_,h=>h
 | .ty _,_,h=>h
 | .tup ds,v,h=>by unfold rL at h ⊢;obtain⟨a,xs,e1,e2,e3⟩:=h;exact⟨a,xs,e1,e.t _ _ e2,qc.mono e e3⟩
 | .rl ds,v,h=>by unfold rL at h ⊢;obtain⟨a,xs,e1,e2,e3⟩:=h;exact⟨a,xs,e1,e2.mono e,qc.mono e e3⟩
theorem qc.mono{K:qp}(e:qO K H H'):∀{ds:T0 D} {xs:T0 V},qc K H ds xs->qc K H' ds xs
 | [],_,h=>h
 | d::ds,xs,h=>by unfold qc at h ⊢;obtain⟨x,r,e1,e2,e3⟩:=h;exact⟨x,r,e1,rL.mono e e2,qc.mono e e3⟩
end
variable {K:qp}{H H':Hp}
def qc.nil:qc K H [] []:=by unfold qc;rfl
def qc.cons(a:rL K H d x)(b:qc K H ds xs):qc K H (d::ds) (x::xs):=by unfold qc;exact⟨x,xs,rfl,a,b⟩
def qc.inv{d:D}{ds:T0 D}(h:qc K H (d::ds) xs):∃x r,xs=x::r/\rL K H d x/\qc K H ds r:=by unfold qc at h;exact h
def qc.nil_inv(h:qc K H [] xs):xs=[]:=by unfold qc at h;exact h
theorem qc.length:∀{ds:T0 D} {xs:T0 V},qc K H ds xs->ds.length=xs.length
 | [],_,h=>by rw[h.nil_inv];rfl
 | d::ds,_,h=>by obtain⟨x,r,rfl,_,e⟩:=h.inv;simp[qc.length e]
theorem qc.get:∀{ds:T0 D} {xs:T0 V} {i:Nat} {d:D},qc K H ds xs->ds[i]?=Fa d->∃x,xs[i]?=Fa x/\rL K H d x
 | [],_,_,_,_,e=>by simp at e
 | d::ds,_,0,_,h,e=>by obtain⟨x,r,rfl,a,_⟩:=h.inv;simp at e;subst e;exact⟨x,by simp,a⟩
 | d::ds,_,i+1,_,h,e=>by obtain⟨x,r,rfl,_,b⟩:=h.inv;obtain⟨y,e1,e2⟩:=qc.get b (by simpa using e);exact⟨y,by simpa using e1,e2⟩
theorem qc.append:∀{ds es:T0 D} {xs ys:T0 V},qc K H ds xs->qc K H es ys->qc K H (ds++es) (xs++ys)
 | [],_,_,_,h,g=>by rw[h.nil_inv];exact g
 | d::ds,_,_,_,h,g=>by obtain⟨x,r,rfl,a,b⟩:=h.inv;exact .cons a (qc.append b g)
theorem qc.take:∀{ds:T0 D} {xs:T0 V} (n:Nat),qc K H ds xs->qc K H (ds.take n) (xs.take n)
 | _,_,0,_=>by simp only[List.take_zero];exact .nil
 | [],_,n+1,h=>by rw[h.nil_inv];exact .nil
 | d::ds,_,n+1,h=>by obtain⟨x,r,rfl,a,b⟩:=h.inv;exact .cons a (qc.take n b)
theorem qc.drop:∀{ds:T0 D} {xs:T0 V} (n:Nat),qc K H ds xs->qc K H (ds.drop n) (xs.drop n)
 | _,_,0,h=>h
 | [],_,n+1,h=>by rw[h.nil_inv];exact .nil
 | d::ds,_,n+1,h=>by obtain⟨x,r,rfl,a,b⟩:=h.inv;exact qc.drop n b
def qc.snoc(h:qc K H ds xs)(a:rL K H d x):qc K H (ds++[d]) (xs++[x]):=h.append (.cons a .nil)
theorem qc.ints:∀{ns:T0 Int},qc K H (ns.map D.int) (ns.map V.int)
 | []=>.nil
 | n::r=>.cons (by unfold rL;rfl) qc.ints
def rL.tup(q:ve K H a xs)(h:qc K H ds xs):rL K H (.tup ds) (.ref a):=by unfold rL;exact⟨a,xs,rfl,q,h⟩
def rL.mO{ds:T0 D}(h:rL K H (.tup ds) v):∃a xs,v=.ref a/\ve K H a xs/\qc K H ds xs:=by unfold rL at h;exact h
def rL.mY{ds:T0 D}(h:rL K H (.rl ds) v):∃a xs,v=.ref a/\NW K H a xs/\qc K H ds xs:=by unfold rL at h;exact h
def rL.int{i:Int}:rL K H (.int i) (.int i):=by unfold rL;rfl
def rL.bl{i:Bool}:rL K H (.bl i) (.bl i):=by unfold rL;rfl
def rL.str{i:Str}:rL K H (.str i) (.str i):=by unfold rL;rfl
def rL.ref{i:Uf}:rL K H (.ref i) (.ref i):=by unfold rL;rfl
def rL.mL:rL K H .mL .mL:=by unfold rL;rfl
def rL.int_inv{i:Int}(h:rL K H (.int i) v):v=.int i:=by unfold rL at h;exact h
def rL.mI{i:Bool}(h:rL K H (.bl i) v):v=.bl i:=by unfold rL at h;exact h
def rL.str_inv{i:Str}(h:rL K H (.str i) v):v=.str i:=by unfold rL at h;exact h
def rL.mH{i:Uf}(h:rL K H (.ref i) v):v=.ref i:=by unfold rL at h;exact h
def rL.nQ{i:String}(h:rL K H (.ty i) v):v=.ty i:=by unfold rL at h;exact h
def rL.mJ{v:V}(h:rL K H .mL v):v=.mL:=by unfold rL at h;exact h
inductive uR where
 | lst (ds:List D)
 | ins (C:Uf) (fs:List (Str×D))
 | dk (kvs:List (qZ×D))
 | exc (C:Uf)
abbrev Mp:=Uf->Option uR
def pB(M:Mp)(a:Uf)(c:uR):Mp:=λb=>if b=a then Fa c else M b
def pL:pB M a c a=Fa c:=by unfold pB;rw[dh rfl]
def tZ{a b:Uf}(h:b≠a):pB M a c b=M b:=by unfold pB;rw[de h]
def rH:pB (pB M a c) a d=pB M a d:=by funext b;unfold pB;split<;>rfl
def Nx{M:Mp}{a b:Uf}{c:uR}(h:M a=Fa c)(h':M b=Db):a≠b:=by intro e;subst e;rw[h]at h';cases h'
def BM(K:qp)(H:Hp)(fs:T0 (Str×D))(vs:T0 (Str×V)):Prop:=vs.map (·.1)=fs.map (·.1)/\qc K H (fs.map (·.2)) (vs.map (·.2))
def xQ(K:qp)(H:Hp)(a:Uf):uR->Prop
 | .lst ds=>∃xs,H a=Fa (.lst xs)/\qc K H ds xs
 | .ins C fs=>∃dx vs,H a=Fa (.ins C dx vs)/\Cls K C/\(∀f,f∈fs.map (·.1)->ue K C f)/\BM K H fs vs
 | .dk kvs=>∃vs,H a=Fa (.dK vs)/\vs.map (·.1)=kvs.map (·.1)/\qc K H (kvs.map (·.2)) (vs.map (·.2))
 | .exc C=>H a=Fa (.ext (TV a C))
def HM(K:qp)(H:Hp)(M:Mp):Prop:=∀a c,M a=Fa c->xQ K H a c
variable {M:Mp}
def BM.mono(e:qO K H H')(h:BM K H fs vs):BM K H' fs vs:=⟨h.1,h.2.mono e⟩
def xQ.keep(e:qO K H H')(k:H' a=H a)(h:xQ K H a c):xQ K H' a c:=by
 cases c with
 | lst ds=>obtain⟨xs,e1,e2⟩:=h;exact⟨xs,by rw[k];exact e1,e2.mono e⟩
 | ins C fs=>obtain⟨dx,vs,e1,c,n,e2⟩:=h;exact⟨dx,vs,by rw[k];exact e1,c,n,e2.mono e⟩
 | dk kvs=>obtain⟨vs,e1,e2,e3⟩:=h;exact⟨vs,by rw[k];exact e1,e2,e3.mono e⟩
 | exc C=>exact k.trans h
def xQ.there(h:xQ K H a c):∃o,H a=Fa o/\(∀xs,¬Rd H a (.tup xs))/\∀u xs,H a≠Fa (.frz u (.lst xs)):=by
 have go:∀o,H a=Fa o->(∀xs,o≠.tup xs)->(∀u v,o≠.frz u v)->∃o,H a=Fa o/\(∀xs,¬Rd H a (.tup xs))/\∀u xs,H a≠Fa (.frz u (.lst xs)):=λo e n1 n2=>⟨o,e,λxs q=>by
  rcases q with q|⟨u,q⟩
  .rw[e]at q;exact n1 xs (dv q)
  .rw[e]at q;exact n2 u _ (dv q),λu xs q=>by rw[e]at q;exact n2 u _ (dv q)⟩
 cases c with
 | lst ds=>obtain⟨xs,e1,e2⟩:=h;exact go _ e1 (λ_ z=>by cases z) λ_ _ z=>by cases z
 | ins C fs=>obtain⟨dx,vs,e1,e2⟩:=h;exact go _ e1 (λ_ z=>by cases z) λ_ _ z=>by cases z
 | dk kvs=>obtain⟨vs,e1,e2,e3⟩:=h;exact go _ e1 (λ_ z=>by cases z) λ_ _ z=>by cases z
 | exc C=>exact go _ h (λ_ z=>by cases z) λ_ _ z=>by cases z
def HM.fresh(h:HM K H M){p:Uf}(n:H p=Db):M p=Db:=by
 cases e:M p with
 | none=>rfl
 | some c=>obtain⟨o,q,_⟩:=(h p c e).there;rw[n]at q;cases q
def HM.keep(h:HM K H M)(e:qO K H H')(k:∀a c,M a=Fa c->H' a=H a):HM K H' M:=λa c q=>(h a c q).keep e (k a c q)
def HM.add(h:HM K H M){p:Uf}{o:HO}(n:H p=Db):HM K (upd H p o) M:=h.keep (.new n) λa c q=>by obtain⟨u,e,_⟩:=(h a c q).there;rw[pS (qP e n)]
def HM.new(h:HM K H M){p:Uf}{o:HO}{c:uR}(n:H p=Db)(ok:xQ K (upd H p o) p c):HM K (upd H p o) (pB M p c):=λa d q=>by
 by_cases e:a=p
 .subst e;rw[pL]at q;cases q;exact ok
 .rw[tZ e]at q;exact h.add n a d q
def HM.put(h:HM K H M){p:Uf}{o:HO}{c c0:uR}(e0:M p=Fa c0)(ok:qO K H (upd H p o)->xQ K (upd H p o) p c):HM K (upd H p o) (pB M p c)/\qO K H (upd H p o):=by
 obtain⟨u,eu,nt,nf⟩:=(h p c0 e0).there;have x:qO K H (upd H p o):=.upd nt nf;refine⟨λa d q=>?_,x⟩;by_cases e:a=p
 .subst e;rw[pL]at q;cases q;exact ok x
 .rw[tZ e]at q;exact(h a d q).keep x (pS e)
abbrev St:=L2.St
abbrev vJ:=T0 (Option D)
abbrev DK:=D->Mp->Prop
abbrev T3:=vJ->Mp->DK->Prop
abbrev Az:=vJ->Mp->(Bool->Mp->Prop)->Prop
abbrev xn:=vJ->Mp->(T0 D->Mp->Prop)->Prop
structure Gg where
 nx:vJ->Mp->Prop
 rt:DK
 bk:vJ->Mp->Prop:=λ_ _=>False
 ct:vJ->Mp->Prop:=λ_ _=>False
abbrev xu:=Gg->vJ->Mp->Prop
def zI(K:qp)(H:Hp)(Y:St)(U:vJ):Prop:=∀(i:Nat) (d:D),U[i]?=Fa (Fa d)->∃v,Y[i]?=Fa (Fa v)/\rL K H d v
def zI.mono{K:qp}(e:qO K H H')(h:zI K H Y U):zI K H' Y U:=λi d q=>by obtain⟨v,e1,e2⟩:=h i d q;exact⟨v,e1,e2.mono e⟩
def zI.set{K:qp}{i:Nat}(h:zI K H Y U)(hv:rL K H d v)(hi:i<Y.length):zI K H (Y.set i (Fa v)) (U.set i (Fa d)):=λj e q=>by
 by_cases hj:j=i
 .subst hj;rw[fJ hi];by_cases hl:j<U.length
  .rw[fJ hl]at q;cases q;exact⟨v,rfl,hv⟩
  .rw[hW (by simpa using hl)]at q;cases q
 .rw[fG (dG hj)]at q ⊢;exact h j e q
def lo(K:qp)(t:T3):TE:=λY H Q'=>De λU M Q=>zI K H Y U/\HM K H M/\t U M Q/\∀v H' d M',rL K H' d v->HM K H' M'->qO K H H'->Q d M'->Q' v H'
def SM(K:qp)(t:Az):TT:=λY H Q'=>De λU M Q=>zI K H Y U/\HM K H M/\t U M Q/\∀b H' M',HM K H' M'->qO K H H'->Q b M'->Q' b H'
def Wa(K:qp)(t:xn):TA:=λY H Q'=>De λU M Q=>zI K H Y U/\HM K H M/\t U M Q/\∀vs H' ds M',qc K H' ds vs->HM K H' M'->qO K H H'->Q ds M'->Q' vs H'
def UH(K:qp)(t:xu):TS:=λD' Y H=>De λU M D=>zI K H Y U/\HM K H M/\t D U M/\(∀σ' H' δ' M',zI K H' σ' δ'->HM K H' M'->qO K H H'->σ'.length=Y.length->D.nx δ' M'->D'.nx σ' H')/\
 (∀v H' d M',rL K H' d v->HM K H' M'->qO K H H'->D.rt d M'->D'.rt v H')/\(∀σ' H' δ' M',zI K H' σ' δ'->HM K H' M'->qO K H H'->σ'.length=Y.length->D.bk δ' M'->D'.bk σ' H')/\
 (∀σ' H' δ' M',zI K H' σ' δ'->HM K H' M'->qO K H H'->σ'.length=Y.length->D.ct δ' M'->D'.ct σ' H')
def E3(X:Cx)(e:Go)(t:T3):Prop:=PE X e (lo X.K t)
def B3(X:Cx)(e:Go)(t:Az):Prop:=PT X e (SM X.K t)
def A3(X:Cx)(es:T0 Go)(t:xn):Prop:=PA X es (Wa X.K t)
def S3(X:Cx)(st:sB)(t:xu):Prop:=PS X st (UH X.K t)
def GX(X:Cx)(st:T0 sB)(t:xu):Prop:=Bz X st (UH X.K t)
def PE.mono{t t':TE}(h:PE X e t)(m:∀Y H Q,t' Y H Q->t Y H Q):PE X e t':=λWz s Y H Q I q=>h Wz s Y H Q I (m Y H Q q)
def PT.mono{t t':TT}(h:PT X e t)(m:∀Y H Q,t' Y H Q->t Y H Q):PT X e t':=λWz s Y H Q I q=>h Wz s Y H Q I (m Y H Q q)
def PA.mono{t t':TA}(h:PA X e t)(m:∀Y H Q,t' Y H Q->t Y H Q):PA X e t':=λpos Wz s Y H Q I q=>h pos Wz s Y H Q I (m Y H Q q)
def PS.mono{t t':TS}(h:PS X e t)(m:∀D Y H,t' D Y H->t D Y H):PS X e t':=λWz s Y H D I q=>h Wz s Y H D I (m D Y H q)
def Bz.mono{t t':TS}(h:Bz X e t)(m:∀D Y H,t' D Y H->t D Y H):Bz X e t':=λWz s Y H D I q=>h Wz s Y H D I (m D Y H q)
def PS.nN{t t':TS}(h:PS X e t)(m:∀D Y H,Y.length=X.N.length->t' D Y H->t D Y H):PS X e t':=λWz s Y H D I q=>h Wz s Y H D I (m D Y H I.len q)
def vU{K:qp}{Q':VK}{Q:DK}(x:qO K H H1)(f:∀v H' d M',rL K H' d v->HM K H' M'->qO K H H'->Q d M'->Q' v H'):∀v H' d M',rL K H' d v->HM K H' M'->qO K H1 H'->Q d M'->Q' v H':=
 λv H' d M' a b c e=>f v H' d M' a b (x.trans c) e
variable {X:Cx}{pos:Pos}
def v3(i:Nat):T3:=λU M Q=>(U.getD i Db).elim False λd=>Q d M
def Kl{U:vJ}{i:Nat}{P:D->Prop}(h:(U.getD i Db).elim False P):∃d,U[i]?=Fa (Fa d)/\P d:=by
 cases e:U[i]? with
 | none=>rw[gJ,e]at h;exact h.elim
 | some o=>
  rw[gJ,e]at h;cases o with
  | none=>exact h.elim
  | some d=>exact⟨d,rfl,h⟩
def Ry(i:Nat){x:Str}(h:PE X (.Name x pos) (HC i)):E3 X (.Name x pos) (v3 i):=PE.mono h λY H Q' zz=>x7 zz λU M Q hs hm ht k=>by obtain⟨d,e,q⟩:=Kl ht;obtain⟨v,e1,e2⟩:=hs i d e;exact⟨v,e1,k v H d M e2 hm .refl q⟩
def c3(d:D):T3:=λ_ M Q=>Q d M
def pb{i j}:E3 X (.Constant (.int i) j pos) (c3 (.int i)):=PE.mono QN λY H Q' zz=>x7 zz λU M Q hs hm ht k=>k _ H _ M .int hm .refl ht
def tL{i j}:E3 X (.Constant (.bool i) j pos) (c3 (.bl i)):=PE.mono Tq λY H Q' zz=>x7 zz λU M Q hs hm ht k=>k _ H _ M .bl hm .refl ht
def pf{i j}:E3 X (.Constant (.str i) j pos) (c3 (.str i)):=PE.mono SC λY H Q' zz=>x7 zz λU M Q hs hm ht k=>k _ H _ M .str hm .refl ht
def sr{j}:E3 X (.Constant .none j pos) (c3 .mL):=PE.mono Q9 λY H Q' zz=>x7 zz λU M Q hs hm ht k=>k _ H _ M .mL hm .refl ht
def TM{n:String}(hg:Gl X x)(hm:X.mg x=Db)(hv:zn x=Fa (.type n))(hn:x≠"__name__":=by decide)(hd:yR x:=by decide):E3 X (.Name x pos) (c3 (.ty n)):=
 PE.mono (NH (v:=.ty n) hg hm hv rfl hn hd) λY H Q' zz=>x7 zz λU M Q hs hm ht k=>k _ H _ M (by unfold rL;rfl) hm .refl ht
def oK(M:Mp)(a:Uf):Option (T0 D):=match M a with
 | some (.lst ds)=>Fa ds
 | _=>Db
def yQ(x:Str)(n:Int):Str:=⟨(List.replicate n.toNat x.cps).foldl (·++·) #[]⟩
def UI(op:Z2)(x y:D)(M:Mp)(Q:DK):Prop:=match op,x,y with
 | .Add,.int i,.int j=>Q (.int (i+j)) M
 | .Add,.str i,.str j=>i.length+j.length<=Ch/\Q (.str (i++j)) M
 | .Add,.tup i,.tup j=>i≠[]/\i.length+j.length<=Ch/\Q (.tup (i++j)) M
 | .Add,.ref a,.ref b=>(oK M a).elim False λi=>(oK M b).elim False λj=>i.length+j.length<=Ch/\∀p,M p=Db->Q (.ref p) (pB M p (.lst (i++j)))
 | .Add,.rl i,.ref b=>(oK M b).elim False λj=>i.length+j.length<=Ch/\∀p,M p=Db->Q (.ref p) (pB M p (.lst (i++j)))
 | .Sub,.int i,.int j=>Q (.int (i - j)) M
 | .Mult,.int i,.int j=>CZ i j/\Q (.int (i*j)) M
 | .Mult,.str i,.int j=>(j<4096/\-4096<j/\i.length<4096)/\Q (.str (yQ i j)) M
 | .FloorDiv,.int i,.int j=>TN i j/\Q (.int (i / j)) M
 | .Mod,.int i,.int j=>0<j/\Q (.int (i % j)) M
 | _,_,_=>False
def o3(op:Z2)(ta tb:T3):T3:=λU M Q=>ta U M λx M1=>tb U M1 λy M2=>UI op x y M2 Q
def Up(K:qp)(H:Hp)(Q':VK)(Q:DK):Prop:=∀v H' d M',rL K H' d v->HM K H' M'->qO K H H'->Q d M'->Q' v H'
variable {ta tb:T3}
section
def pU{K:qp}{ds:T0 D}(hm:HM K H M)(h:oK M a=Fa ds):∃xs,w9 K H a xs/\qc K H ds xs/\Rd H a (.lst xs):=by
 unfold oK at h;cases e:M a with
 | none=>rw[e]at h;cases h
 | some c=>
  rw[e]at h;have ok:=hm a c e;cases c with
  | lst es=>cases h;obtain⟨xs,e1,e2⟩:=ok;exact⟨xs,.inl (.inl e1),e2,.inl e1⟩
  | ins _ _=>cases h
  | dk _=>cases h
  | exc _=>cases h
def qN{α:Type}{o:Option α}{P:α->Prop}(h:o.elim False P):∃a,o=Fa a/\P a:=by
 cases o with
 | none=>exact h.elim
 | some a=>exact⟨a,rfl,h⟩
def IQ:xq X (ZP .Add) (λx y H Q=>∃l b xs zs,x=.ref l/\y=.ref b/\w9 X.K H l xs/\w9 X.K H b zs/\xs.length+zs.length<=Ch/\∀p,H p=Db->Q (.ref p) (upd H p (.lst (xs++zs)))):=by
 intro Wz s Y H x y v u Q I rx ry h;obtain⟨l,b,xs,zs,rfl,rfl,hH,hB,hz,q⟩:=h;cases rx;cases ry;obtain⟨its,r,⟨⟨c1,d1,t1,sl1⟩,n,g1,e1,_,f1⟩,_⟩:=I.list hH;obtain⟨Xz,r2,⟨⟨c2,d2,t2,sl2⟩,m,g2,e2,_,f2⟩,_⟩:=I.list hB;simp only at e1 f1 e2 f2;subst e1 f1 e2 f2;have hl:=r.length;have hl2:=r2.length;refine kM ⟨_,g1,rfl⟩ ⟨_,g2,rfl⟩ noFill_list_add seq_list_add PySem.F.slot_list_add PySem.F.entry_list_add (PySem.F.args_list_add_2 _ _) (list_addW l b its.toArray Xz.toArray n m d1 d2 sl1 sl2 (by rw[dA,dA];omega)) ⟨g1,g2,?_⟩;have ea:its.toArray++Xz.toArray=(its++Xz).toArray:=by simp
 rw[ea];exact⟨.ref _,_,I.oO (t':=s.toks) (r.append r2) (by rw[cY];omega),rfl,q _ I.fresh⟩
def IB(x:Array Nat):∀k,((List.replicate k x).foldl (·++·) #[]:Array Nat).size=k*x.size:=by
 have go:∀(k:Nat) (acc:Array Nat),((List.replicate k x).foldl (·++·) acc).size=acc.size+k*x.size:=by
  intro k;induction k with
  | zero=>intro acc;simp
  | succ k ih=>intro acc;rw[eJ,gb,ih,Array.size_append,mj];omega
 intro k;rw[go];simp
def NL:xq X (ZP .Mult) (λx y H Q=>∃i j,x=.str i/\y=.int j/\(j<4096/\-4096<j/\i.length<4096)/\Q (.str (yQ i j)) H):=by
 intro Wz s Y H x y v u Q I rx ry h;obtain⟨i,j,rfl,rfl,⟨h1,h2,h3⟩,q⟩:=h;obtain⟨t,rfl⟩:=rx;obtain⟨t',rfl⟩:=ry;refine PySem.P.mul_str ?_ ?_ ?_ ?_
 .rw[eP (by omega),eP (by omega)];rfl
 .intro h0 _;have:(4096:Int)<=(2 ^ 63 - 1) / j:=by
   have:(4096:Int)*j<=2 ^ 63 - 1:=by omega
   exact(Int.le_ediv_iff_mul_le (by omega)).mpr this
  omega
 .intro h0 _;have hm:i.length*j.toNat<=4096*4096:=j6 (by omega) (by omega);have hz:=dP;unfold Builtin.Str.tooLong;exact eP (by omega)
 .by_cases h0:j<1
  .rw[dh h0];have e:yQ i j=Str.empty:=by unfold yQ;rw[show j.toNat=0 by omega];rfl
   rw[e]at q;exact⟨by decide,⟨.str Str.empty,H,I.tok _,⟨_,rfl⟩,q⟩⟩
  .rw[de h0];by_cases hj:(j==1||i.length==0)=pc
   .rw[dh hj];have e:yQ i j=i:=by
     have hj':j=1\/i.length=0:=by simpa using hj
     unfold yQ;rcases hj' with z|z
     .subst z;show(⟨#[]++i.cps⟩:Str)=i;simp
     .have ec:i.cps=#[]:=Array.size_eq_zero_iff.mp z;have er:∀k:Nat,((List.replicate k (#[]:Array Nat)).foldl (·++·) #[]:Array Nat)=#[]:=by
       intro k;induction k with
       | zero=>rfl
       | succ k ih=>rw[eJ,gb];simpa using ih
      rw[ec,er,<-ec]
    rw[e]at q;exact⟨.str i,H,I,⟨t,rfl⟩,q⟩
   .rw[de hj];refine⟨?_,⟨.str _,H,I.tok _,⟨_,rfl⟩,q⟩⟩;have hz:=dP;have hm:j.toNat*i.length<=4096*4096:=j6 (by omega) (by omega);show((List.replicate j.toNat i.cps).foldl (·++·) #[]:Array Nat).size<=_;rw[IB];have X9:j.toNat*i.cps.size<=4096*4096:=hm;omega
def R3(K:qp)(f:D->D->Mp->DK->Prop):R2:=λvx vy H Q'=>BA λx y M Q=>rL K H x vx/\rL K H y vy/\HM K H M/\f x y M Q/\Up K H Q' Q
def Wu(op:Z2):xq X (ZP op) (R3 X.K (UI op)):=by
 intro Wz s Y H vx vy v u Q' I rx ry h;obtain⟨x,y,M,Q,hx,hy,hm,q,k⟩:=h;unfold UI at q;split at q
 .cases hx.int_inv;cases hy.int_inv;exact Rq Wz s Y H _ _ v u Q' I rx ry ⟨_,_,rfl,rfl,k _ _ _ _ .int hm .refl q⟩
 .cases hx.str_inv;cases hy.str_inv;exact Hq Wz s Y H _ _ v u Q' I rx ry ⟨_,_,rfl,rfl,q.1,k _ _ _ _ .str hm .refl q.2⟩
 .rename_i i j;obtain⟨q1,q2,q3⟩:=q;obtain⟨a,xs,rfl,ha,Yg⟩:=hx.mO;obtain⟨b,ys,rfl,hb,Xe⟩:=hy.mO;have l1:=Yg.length;have l2:=Xe.length;refine Pf Wz s Y H _ _ v u Q' I rx ry ⟨a,b,xs,ys,rfl,rfl,ha,hb,λz=>q1 (by rw[z]at l1;exact gy.mp l1),by omega,λz=>?_,λz p hp=>?_⟩
  .refine k _ _ _ _ (.tup ha ?_) hm .refl q3;rw[z]at Xe;have e0:j=[]:=gy.mp (by simpa using Xe.length);rw[e0,e9];exact Yg
  .have e:qO X.K H (upd H p (.tup (xs++ys))):=.new hp;exact k _ _ _ _ (.tup (.of pY) ((Yg.append Xe).mono e)) (hm.add hp) e q3
 .obtain⟨i,ei,q⟩:=qN q;obtain⟨j,ej,q1,q2⟩:=qN q;cases hx.mH;cases hy.mH;obtain⟨xs,rx',ZA,_⟩:=pU hm ei;obtain⟨ys,ry',hys,_⟩:=pU hm ej;have l1:=ZA.length;have l2:=hys.length;refine IQ Wz s Y H _ _ v u Q' I rx ry ⟨_,_,xs,ys,rfl,rfl,rx',ry',by omega,λp hp=>?_⟩;have e:qO X.K H (upd H p (.lst (xs++ys))):=.new hp;exact k _ _ _ _ .ref (hm.new (c:=.lst (i++j)) hp ⟨_,pY,(ZA.append hys).mono e⟩) e (q2 p (hm.fresh hp))
 .obtain⟨j,ej,q1,q2⟩:=qN q;obtain⟨l,xs,rfl,rx',ZA⟩:=hx.mY;cases hy.mH;obtain⟨ys,ry',hys,_⟩:=pU hm ej;have l1:=ZA.length;have l2:=hys.length;refine IQ Wz s Y H _ _ v u Q' I rx ry ⟨_,_,xs,ys,rfl,rfl,rx'.sq,ry',by omega,λp hp=>?_⟩;have e:qO X.K H (upd H p (.lst (xs++ys))):=.new hp;exact k _ _ _ _ .ref (hm.new (c:=.lst (_++j)) hp ⟨_,pY,(ZA.append hys).mono e⟩) e (q2 p (hm.fresh hp))
 .cases hx.int_inv;cases hy.int_inv;exact QY Wz s Y H _ _ v u Q' I rx ry ⟨_,_,rfl,rfl,k _ _ _ _ .int hm .refl q⟩
 .cases hx.int_inv;cases hy.int_inv;exact RK Wz s Y H _ _ v u Q' I rx ry ⟨_,_,rfl,rfl,q.1,k _ _ _ _ .int hm .refl q.2⟩
 .cases hx.str_inv;cases hy.int_inv;exact NL Wz s Y H _ _ v u Q' I rx ry ⟨_,_,rfl,rfl,q.1,k _ _ _ _ .str hm .refl q.2⟩
 .cases hx.int_inv;cases hy.int_inv;exact OP Wz s Y H _ _ v u Q' I rx ry ⟨_,_,rfl,rfl,q.1,k _ _ _ _ .int hm .refl q.2⟩
 .cases hx.int_inv;cases hy.int_inv;exact RL Wz s Y H _ _ v u Q' I rx ry ⟨_,_,rfl,rfl,q.1,k _ _ _ _ .int hm .refl q.2⟩
 .exact q.elim
variable {a b:Go}
def FN{f:D->D->Mp->DK->Prop}:∀Y H Q',lo X.K (λU M Q=>ta U M λx M1=>tb U M1 λy M2=>f x y M2 Q) Y H Q'->Uo (R3 X.K f) (lo X.K ta) (lo X.K tb) Y H Q':=λY H Q' zz=>x7 zz λU M Q hs hm ht k=>⟨U,M,_,hs,hm,ht,λv H1 x M1 hx WA e1 q1=>⟨U,M1,_,hs.mono e1,WA,q1,λu H2 y M2 hy WR e2 q2=>⟨x,y,M2,Q,hx.mono e2,hy,WR,q2,vU (e1.trans e2) k⟩⟩⟩
def pQ(ha:E3 X a ta)(hb:E3 X b tb):E3 X (.BinOp a op b pos) (o3 op ta tb):=PE.mono (Qz (Wu op) ha hb) FN
end
def sF(f:D->D->Option Bool):T0 D->T0 D->Option Bool
 | x::a,y::b=>(f x y).bind λp=>(sF f a b).map λq=>p&&q
 | _,_=>Fa pc
def zU(M:Mp):Nat->D->D->Option Bool
 | 0,_,_=>Db
 | n+1,x,y=>match x,y with
  | .mL,.mL=>Fa pc
  | .bl a,.bl b=>Fa (a==b)
  | .int a,.int b=>Fa (a==b)
  | .str a,.str b=>Fa (a==b)
  | .mL,.bl _=>Fa lf
  | .mL,.int _=>Fa lf
  | .mL,.str _=>Fa lf
  | .bl _,.mL=>Fa lf
  | .bl _,.str _=>Fa lf
  | .int _,.mL=>Fa lf
  | .int _,.str _=>Fa lf
  | .str _,.mL=>Fa lf
  | .str _,.bl _=>Fa lf
  | .str _,.int _=>Fa lf
  | .tup a,.tup b=>(sF (zU M n) a b).map λp=>p&&a.length==b.length
  | .ref a,.ref b=>(oK M a).bind λi=>(oK M b).bind λj=>if i.length=j.length then sF (zU M n) i j else Fa lf
  | _,_=>Db
variable {Wz:T0 (Uf × Obj)}{Y:St}{s:Sd}
theorem yN{f:D->D->Option Bool}:∀{ds es:T0 D} {xs:T0 V} {b:Bool},qc X.K H ds xs->qc X.K H es xs->(∀x y v b,rL X.K H x v->rL X.K H y v->f x y=Fa b->b=pc)->sF f ds es=Fa b->b=pc
 | [],[],_,_,_,_,_,e=>(dv e).symm
 | [],_::_,_,_,h,g,_,_=>by have h1:=h.length;have h2:=g.length;rw[<-h1]at h2;simp at h2
 | _::_,[],_,_,h,g,_,_=>by have h1:=h.length;have h2:=g.length;rw[<-h1]at h2;simp at h2
 | d::ds,e::es,xs,b,h,g,k,q=>by
  obtain⟨x,r,rfl,h1,h2⟩:=h.inv;obtain⟨x',r',e',g1,g2⟩:=g.inv;cases e';unfold sF at q;cases p1:f d e with
  | none=>rw[p1]at q;cases q
  | some b1=>
   rw[p1]at q;cases p2:sF f ds es with
   | none=>rw[p2]at q;cases q
   | some b2=>rw[p2]at q;have q':(b1&&b2)=b:=dv q;rw[<-q',k _ _ _ _ h1 g1 p1,yN h2 g2 k p2];rfl
theorem zE(I:Inv X Wz Y H s)(hm:HM X.K H M):∀(n:Nat) (x y:D) (v:V) (b:Bool),rL X.K H x v->rL X.K H y v->zU M n x y=Fa b->b=pc
 | 0,_,_,_,_,_,_,e=>by cases e
 | n+1,x,y,v,b,hx,hy,e=>by
  unfold zU at e;split at e
  .exact(dv e).symm
  .rw[hx.mI]at hy;cases hy.mI;exact(dv e).symm.trans (by simp)
  .rw[hx.int_inv]at hy;cases hy.int_inv;exact(dv e).symm.trans (by simp)
  .rw[hx.str_inv]at hy;cases hy.str_inv;exact(dv e).symm.trans (by simp)
  .rw[hx.mJ]at hy;cases hy.mI
  .rw[hx.mJ]at hy;cases hy.int_inv
  .rw[hx.mJ]at hy;cases hy.str_inv
  .rw[hx.mI]at hy;cases hy.mJ
  .rw[hx.mI]at hy;cases hy.str_inv
  .rw[hx.int_inv]at hy;cases hy.mJ
  .rw[hx.int_inv]at hy;cases hy.str_inv
  .rw[hx.str_inv]at hy;cases hy.mJ
  .rw[hx.str_inv]at hy;cases hy.mI
  .rw[hx.str_inv]at hy;cases hy.int_inv
  .obtain⟨a,xs,rfl,h1,h2⟩:=hx.mO;obtain⟨a',ys,e',g1,g2⟩:=hy.mO;cases e';rw[I.ng g1 h1]at g2;cases p:sF (zU M n) _ _ with
   | none=>rw[p]at e;cases e
   | some b1=>rw[p]at e;have e':=dv e;rw[<-e',yN h2 g2 (zE I hm n) p,h2.length,g2.length];simp
  .rw[hx.mH]at hy;cases hy.mH;cases p:oK M _ with
   | none=>rw[p]at e;cases e
   | some i=>rw[p]at e;have e:(if i.length=i.length then sF (zU M n) i i else Fa lf)=Fa b:=e;rw[dh rfl]at e;obtain⟨xs,_,h2,_⟩:=pU hm p;exact yN h2 h2 (zE I hm n) e
  .cases e
theorem BY{A:Ar}:∀{ds es:T0 D} {xs ys:T0 V} {us ws:T0 Vl} {b:Bool},sF f ds es=Fa b->qc X.K H ds xs->qc X.K H es ys->qA xs us->qA ys ws->
  (∀x y b vx vy u w,f x y=Fa b->rL X.K H x vx->rL X.K H y vy->qH vx u->qH vy w->SeqAt.EqAt A s u w b)->
  ∃e:Nat->Bool,(∀j (h1:j<us.length) (h2:j<ws.length),SeqAt.EqAt A s us[j] ws[j] (e j))/\(List.range (min us.length ws.length)).all e=b
 | [],es,xs,ys,us,ws,b,q,hx,hy,rx,ry,k=>by
  have e1:=hx.nil_inv;subst e1;cases rx;refine⟨λ_=>pc,λj h1=>absurd h1 (by simp),?_⟩;have q':Fa pc=Fa b:=by cases es<;>exact q
  simpa using(dv q')
 | d::ds,[],xs,ys,us,ws,b,q,hx,hy,rx,ry,k=>by
  have e1:=hy.nil_inv;subst e1;cases ry;refine⟨λ_=>pc,λj _ h2=>absurd h2 (by simp),?_⟩;have q':Fa pc=Fa b:=q
  simpa using(dv q')
 | d::ds,e::es,xs,ys,us,ws,b,q,hx,hy,rx,ry,k=>by
  obtain⟨x,r,rfl,h1,h2⟩:=hx.inv;obtain⟨y,r',rfl,g1,g2⟩:=hy.inv;cases rx with
  | cons r1 r2=>
   cases ry with
   | cons t1 t2=>
    unfold sF at q;cases p1:f d e with
    | none=>rw[p1]at q;cases q
    | some b1=>
     rw[p1]at q;cases p2:sF f ds es with
     | none=>rw[p2]at q;cases q
     | some b2=>
      rw[p2]at q;have q':(b1&&b2)=b:=dv q;obtain⟨e',he,ha⟩:=BY p2 h2 g2 r2 t2 k;refine⟨λj=>match j with|0=>b1|j+1=>e' j,λj l1 l2=>?_,?_⟩
      .cases j with
       | zero=>exact k _ _ _ _ _ _ _ p1 h1 g1 r1 t1
       | succ j=>exact he j (by simpa using l1) (by simpa using l2)
      .rw[<-q',<-ha];simp only[eB];rw[Nat.succ_min_succ,List.range_succ_eq_map,fS,mo];rfl
theorem ES(I:Inv X Wz Y H s)(hm:HM X.K H M):∀(n:Nat) (A:Ar) (x y:D) (b:Bool) (vx vy:V) (u w:Vl),A.units+n<wP->zU M n x y=Fa b->rL X.K H x vx->rL X.K H y vy->qH vx u->qH vy w->
  SeqAt.RcAt A s u w b/\SeqAt.EqAt A s u w b/\SeqAt.RcNeAt A s u w (!b)
 | 0,_,_,_,_,_,_,_,_,_,e,_,_,_,_=>by cases e
 | n+1,A,x,y,b,vx,vy,u,w,hu,e,hx,hy,rx,ry=>by
  have hu1:A.units<wP:=by omega
  have hui:A.in1.units+n<wP:=by show A.units+1+n<wP;omega
  unfold zU at e;split at e
  .cases hx.mJ;cases hy.mJ;cases rx;cases ry;cases e;exact⟨.none_none,.same _,.none_none⟩
  .cases hx.mI;cases hy.mI;cases rx;cases ry;cases e;exact⟨.bool_bool _ _,.bool_bool _ _,.bool_bool _ _⟩
  .cases hx.int_inv;cases hy.int_inv;obtain⟨t,rfl⟩:=rx;obtain⟨t',rfl⟩:=ry;cases e;exact⟨.int_int _ _ _ _,.int_int _ _ _ _,.int_int _ _ _ _⟩
  .cases hx.str_inv;cases hy.str_inv;obtain⟨t,rfl⟩:=rx;obtain⟨t',rfl⟩:=ry;cases e;exact⟨.str_str _ _ _ _,.str_str _ _ _ _,.str_str _ _ _ _⟩
  .cases hx.mJ;cases hy.mI;cases rx;cases ry;cases e;exact⟨.none_bool _,.none_bool _,.none_bool _⟩
  .cases hx.mJ;cases hy.int_inv;cases rx;obtain⟨t',rfl⟩:=ry;cases e;exact⟨.none_int _ _,.none_int _ _,.none_int _ _⟩
  .cases hx.mJ;cases hy.str_inv;cases rx;obtain⟨t',rfl⟩:=ry;cases e;exact⟨.none_str _ _,.none_str _ _,.none_str _ _⟩
  .cases hx.mI;cases hy.mJ;cases rx;cases ry;cases e;exact⟨.bool_none _,.bool_none _,.bool_none _⟩
  .cases hx.mI;cases hy.str_inv;cases rx;obtain⟨t',rfl⟩:=ry;cases e;exact⟨.bool_str _ _ _,.bool_str _ _ _,.bool_str _ _ _⟩
  .cases hx.int_inv;cases hy.mJ;obtain⟨t,rfl⟩:=rx;cases ry;cases e;exact⟨.int_none _ _,.int_none _ _,.int_none _ _⟩
  .cases hx.int_inv;cases hy.str_inv;obtain⟨t,rfl⟩:=rx;obtain⟨t',rfl⟩:=ry;cases e;exact⟨.int_str _ _ _ _,.int_str _ _ _ _,.int_str _ _ _ _⟩
  .cases hx.str_inv;cases hy.mJ;obtain⟨t,rfl⟩:=rx;cases ry;cases e;exact⟨.str_none _ _,.str_none _ _,.str_none _ _⟩
  .cases hx.str_inv;cases hy.mI;obtain⟨t,rfl⟩:=rx;cases ry;cases e;exact⟨.str_bool _ _ _,.str_bool _ _ _,.str_bool _ _ _⟩
  .cases hx.str_inv;cases hy.int_inv;obtain⟨t,rfl⟩:=rx;obtain⟨t',rfl⟩:=ry;cases e;exact⟨.str_int _ _ _ _,.str_int _ _ _ _,.str_int _ _ _ _⟩
  .rename_i da db;obtain⟨a1,xs,rfl,h1,h2⟩:=hx.mO;obtain⟨a2,ys,rfl,g1,g2⟩:=hy.mO;cases rx;cases ry;obtain⟨us,r1,p1,_⟩:=I.tuple h1;obtain⟨ws,r2,p2,_⟩:=I.tuple g1;cases p:sF (zU M n) da db with
   | none=>rw[p]at e;cases e
   | some b1=>
    have e0:=e;rw[p]at e;have e':(b1&&da.length==db.length)=b:=dv e;obtain⟨f,hf,ha⟩:=BY (A:=A.in1) (s:=s) p h2 g2 r1 r2 λx y b vx vy u w q1 q2 q3 q4 q5=>(ES I hm n A.in1 x y b vx vy u w hui q1 q2 q3 q4 q5).2.1;have hb:((List.range (min us.toArray.size ws.toArray.size)).all f&&us.toArray.size==ws.toArray.size)=b:=by rw[dA,dA,ha,<-e',<-r1.length,<-r2.length,h2.length,g2.length]
    have hf':∀j (l1:j<us.toArray.size) (l2:j<ws.toArray.size),SeqAt.EqAt A.in1 s us.toArray[j] ws.toArray[j] (f j):=λj l1 l2=>by simpa using hf j (by simpa using l1) (by simpa using l2)
    have c1:SeqAt.RcAt A s (.ref a1) (.ref a2) b:=by rw[<-hb];exact .tuples p1 p2 hu1 hf'
    have c3:SeqAt.RcNeAt A s (.ref a1) (.ref a2) (!b):=by have:=SeqAt.RcNeAt.tuples p1 p2 hu1 hf';rw[hb]at this;exact this
    refine⟨c1,?_,c3⟩;by_cases ea:a1=a2
    .subst ea;have:b=pc:=zE I hm (n+1) (.tup da) (.tup db) (.ref a1) b hx hy (by unfold zU;exact e0);rw[this];exact .same _
    .exact .of_refs ea c1
  .cases hx.mH;cases hy.mH;cases rx;cases ry;rename_i a1 a2;have e0:=e;cases p:oK M a1 with
   | none=>rw[p]at e;cases e
   | some i=>
    cases p':oK M a2 with
    | none=>rw[p,p']at e;cases e
    | some j=>
     rw[p,p']at e;have e:(if i.length=j.length then sF (zU M n) i j else Fa lf)=Fa b:=e;obtain⟨xs,q1,h2,_⟩:=pU hm p;obtain⟨ys,q2,g2,_⟩:=pU hm p';obtain⟨us,r1,p1,_⟩:=I.list q1;obtain⟨ws,r2,p2,_⟩:=I.list q2;have WB:SeqAt.RcAt A s (.ref a1) (.ref a2) b/\SeqAt.RcNeAt A s (.ref a1) (.ref a2) (!b):=by
      by_cases hl:i.length=j.length
      .rw[dh hl]at e;obtain⟨f,hf,ha⟩:=BY (A:=A.in1) (s:=s) e h2 g2 r1 r2 λx y b vx vy u w q1 q2 q3 q4 q5=>(ES I hm n A.in1 x y b vx vy u w hui q1 q2 q3 q4 q5).2.1;have hsz:us.toArray.size=ws.toArray.size:=by rw[dA,dA,<-r1.length,<-r2.length,<-h2.length,<-g2.length];exact hl
       have hf':∀j (l1:j<us.toArray.size) (l2:j<ws.toArray.size),SeqAt.EqAt A.in1 s us.toArray[j] ws.toArray[j] (f j):=λj l1 l2=>by simpa using hf j (by simpa using l1) (by simpa using l2)
       have hb:(List.range us.toArray.size).all f=b:=by rw[<-ha];rw[dA,dA]at hsz;rw[dA,<-hsz,Nat.min_self]
       rw[<-hb];exact⟨.lists p1.isList p2.isList hsz hu1 hf',.lists p1.isList p2.isList hsz hu1 hf'⟩
      .rw[de hl]at e;cases e;have hsz:(us.toArray.size != ws.toArray.size)=pc:=by
        rw[dA,dA,<-r1.length,<-r2.length,<-h2.length,<-g2.length]
        simpa using hl
       exact⟨.lists_lengths p1.isList p2.isList hsz hu1,.lists_lengths p1.isList p2.isList hsz hu1⟩
     refine⟨WB.1,?_,WB.2⟩;by_cases ea:a1=a2
     .subst ea;have:b=pc:=zE I hm (n+1) (.ref a1) (.ref a1) (.ref a1) b .ref .ref (by unfold zU;exact e0);rw[this];exact .same _
     .exact .of_refs ea WB.1
  .cases e
def uU:D->Bool
 | .mL=>pc
 | .bl _=>pc
 | .int _=>pc
 | .str _=>pc
 | _=>lf
def On:D->D->Bool
 | .mL,.mL=>pc
 | .bl a,.bl b=>a==b
 | .bl a,.int b=>(if a then 1 else 0)==b
 | .int a,.bl b=>a==(if b then 1 else 0)
 | .int a,.int b=>a==b
 | .str a,.str b=>a==b
 | _,_=>lf
def inD(x:D)(ds:T0 D):Bool:=ds.any λy=>On y x
def Kz(M:Mp):D->Option (T0 D)
 | .tup ds=>Fa ds
 | .ref a=>oK M a
 | .rl ds=>Fa ds
 | _=>Db
def Df(i j:Str):Bool:=!(Builtin.Str.occurrences j i 0 j.length 1).isEmpty
def R4(Ye:Bool)(x y:D)(M:Mp)(Q:DK):Prop:=match x,y with
 | .str i,.str j=>Q (.bl (if Ye then !Df i j else Df i j)) M
 | _,_=>(Kz M y).elim False λds=>uU x=pc/\ds.all uU=pc/\Q (.bl (if Ye then !inD x ds else inD x ds)) M
def OQ(op:CmpOp)(x y:D)(M:Mp)(Q:DK):Prop:=match op with
 | .Eq=>(zU M 9 x y).elim False λb=>Q (.bl b) M
 | .NotEq=>(zU M 9 x y).elim False λb=>Q (.bl (!b)) M
 | .Lt=>match x,y with|.int i,.int j=>Q (.bl (decide (i<j))) M|_,_=>False
 | .LtE=>match x,y with|.int i,.int j=>Q (.bl (decide (i<=j))) M|_,_=>False
 | .Gt=>match x,y with|.int i,.int j=>Q (.bl (decide (j<i))) M|_,_=>False
 | .GtE=>match x,y with|.int i,.int j=>Q (.bl (decide (j<=i))) M|_,_=>False
 | .Is=>match y with|.mL=>Q (.bl (match x with|.mL=>pc|_=>lf)) M|_=>False
 | .IsNot=>match y with|.mL=>Q (.bl (match x with|.mL=>lf|_=>pc)) M|_=>False
 | .In=>R4 lf x y M Q
 | .NotIn=>R4 pc x y M Q
def k3(op:CmpOp)(ta tb:T3):T3:=λU M Q=>ta U M λx M1=>tb U M1 λy M2=>OQ op x y M2 Q
def yV(h:rL K H d v)(f:uU d=pc):yo v=pc:=by
 cases d with
 | mL=>rw[h.mJ];rfl
 | bl _=>rw[h.mI];rfl
 | int _=>rw[h.int_inv];rfl
 | str _=>rw[h.str_inv];rfl
 | _=>cases f
def IY(h:rL K H d v)(g:rL K H e w)(f:uU d=pc)(f':uU e=pc):Nu v w=On d e:=by
 cases d with
 | mL=>
  rw[h.mJ];cases e with
  | mL=>rw[g.mJ];rfl
  | bl _=>rw[g.mI];rfl
  | int _=>rw[g.int_inv];rfl
  | str _=>rw[g.str_inv];rfl
  | _=>cases f'
 | bl _=>
  rw[h.mI];cases e with
  | mL=>rw[g.mJ];rfl
  | bl _=>rw[g.mI];rfl
  | int _=>rw[g.int_inv];rfl
  | str _=>rw[g.str_inv];rfl
  | _=>cases f'
 | int _=>
  rw[h.int_inv];cases e with
  | mL=>rw[g.mJ];rfl
  | bl _=>rw[g.mI];rfl
  | int _=>rw[g.int_inv];rfl
  | str _=>rw[g.str_inv];rfl
  | _=>cases f'
 | str _=>
  rw[h.str_inv];cases e with
  | mL=>rw[g.mJ];rfl
  | bl _=>rw[g.mI];rfl
  | int _=>rw[g.int_inv];rfl
  | str _=>rw[g.str_inv];rfl
  | _=>cases f'
 | _=>cases f
theorem ER:∀{ds:T0 D} {xs:T0 V},qc K H ds xs->ds.all uU=pc->xs.all yo=pc
 | [],_,h,_=>by rw[h.nil_inv];rfl
 | d::ds,_,h,f=>by obtain⟨x,r,rfl,h1,h2⟩:=h.inv;rw[fS,dY]at f ⊢;exact⟨yV h1 f.1,ER h2 f.2⟩
theorem MI(g:rL K H e w)(f':uU e=pc):∀{ds:T0 D} {xs:T0 V},qc K H ds xs->ds.all uU=pc->inV w xs=inD e ds
 | [],_,h,_=>by rw[h.nil_inv];rfl
 | d::ds,_,h,f=>by obtain⟨x,r,rfl,h1,h2⟩:=h.inv;rw[fS,dY]at f;show(Nu x w||inV w r)=(On d e||inD e ds);rw[IY h1 g f.1 f',MI g f' h2 f.2]
def Fm(hm:HM K H M){y:D}{v:V}{ds:T0 D}(h:rL K H y v)(q:Kz M y=Fa ds):∃p xs,v=.ref p/\(w9 K H p xs\/ve K H p xs)/\qc K H ds xs:=by
 cases y with
 | tup es=>cases q;obtain⟨a,xs,rfl,h1,h2⟩:=h.mO;exact⟨a,xs,rfl,.inr h1,h2⟩
 | ref a=>cases h.mH;obtain⟨xs,h1,h2,_⟩:=pU hm q;exact⟨a,xs,rfl,.inl h1,h2⟩
 | rl es=>cases q;obtain⟨a,xs,rfl,h1,h2⟩:=h.mY;exact⟨a,xs,rfl,.inl h1.sq,h2⟩
 | _=>cases q
variable {c:Go}{tc:T3}
section
def J6(op:CmpOp)(hu:X.A.units+9<wP):xq X (Op op) (R3 X.K (OQ op)):=by
 intro Wz s Y H vx vy v u Q' I rx ry h;obtain⟨x,y,M,Q,hx,hy,hm,q,k⟩:=h;have bk:∀b,Q (.bl b) M->EP X Wz Y Q' (.bool b) s:=λb q=>⟨.bl b,H,I,rfl,k _ _ _ _ .bl hm .refl q⟩;have inn:∀Ye:Bool,((Kz M y).elim False λds=>uU x=pc/\ds.all uU=pc/\Q (.bl (if Ye then !inD x ds else inD x ds)) M)->UV X.K Ye vx vy H Q':=λYe q=>by obtain⟨ds,e,f1,f2,q⟩:=qN q;obtain⟨p,xs,rfl,h1,h2⟩:=Fm hm hy e;refine⟨p,xs,rfl,h1,yV hx f1,ER h2 f2,?_⟩;rw[MI hx f1 h2 f2];exact k _ _ _ _ .bl hm .refl q
 cases op with
 | Eq=>obtain⟨b,e,q⟩:=qN q;exact(ES I hm 9 X.A x y b vx vy v u hu e hx hy rx ry).1 _ _ _ _ (bk b q)
 | NotEq=>obtain⟨b,e,q⟩:=qN q;exact(ES I hm 9 X.A x y b vx vy v u hu e hx hy rx ry).2.2 _ _ _ _ (bk _ q)
 | Lt=>
  cases x<;>first|exact q.elim|skip
  cases y<;>first|exact q.elim|skip
  cases hx.int_inv;cases hy.int_inv;exact T9 Wz s Y H _ _ v u Q' I rx ry ⟨_,_,rfl,rfl,k _ _ _ _ .bl hm .refl q⟩
 | LtE=>
  cases x<;>first|exact q.elim|skip
  cases y<;>first|exact q.elim|skip
  cases hx.int_inv;cases hy.int_inv;exact Te Wz s Y H _ _ v u Q' I rx ry ⟨_,_,rfl,rfl,k _ _ _ _ .bl hm .refl q⟩
 | Gt=>
  cases x<;>first|exact q.elim|skip
  cases y<;>first|exact q.elim|skip
  cases hx.int_inv;cases hy.int_inv;exact Uy Wz s Y H _ _ v u Q' I rx ry ⟨_,_,rfl,rfl,k _ _ _ _ .bl hm .refl q⟩
 | GtE=>
  cases x<;>first|exact q.elim|skip
  cases y<;>first|exact q.elim|skip
  cases hx.int_inv;cases hy.int_inv;exact T5 Wz s Y H _ _ v u Q' I rx ry ⟨_,_,rfl,rfl,k _ _ _ _ .bl hm .refl q⟩
 | Is=>
  cases y<;>first|exact q.elim|skip
  cases hy.mJ;refine QL Wz s Y H _ _ v u Q' I rx ry ⟨rfl,k _ _ _ _ ?_ hm .refl q⟩;cases x with
  | mL=>rw[hx.mJ];exact .bl
  | bl _=>rw[hx.mI];exact .bl
  | int _=>rw[hx.int_inv];exact .bl
  | str _=>rw[hx.str_inv];exact .bl
  | tup _=>obtain⟨a,xs,rfl,_⟩:=hx.mO;exact .bl
  | ref _=>rw[hx.mH];exact .bl
  | ty _=>rw[hx.nQ];exact .bl
  | rl _=>obtain⟨a,xs,rfl,_⟩:=hx.mY;exact .bl
 | IsNot=>
  cases y<;>first|exact q.elim|skip
  cases hy.mJ;refine Oa Wz s Y H _ _ v u Q' I rx ry ⟨rfl,k _ _ _ _ ?_ hm .refl q⟩;cases x with
  | mL=>rw[hx.mJ];exact .bl
  | bl _=>rw[hx.mI];exact .bl
  | int _=>rw[hx.int_inv];exact .bl
  | str _=>rw[hx.str_inv];exact .bl
  | tup _=>obtain⟨a,xs,rfl,_⟩:=hx.mO;exact .bl
  | ref _=>rw[hx.mH];exact .bl
  | ty _=>rw[hx.nQ];exact .bl
  | rl _=>obtain⟨a,xs,rfl,_⟩:=hx.mY;exact .bl
 | In=>
  have q:R4 lf x y M Q:=q;unfold R4 at q;split at q
  .cases hx.str_inv;cases hy.str_inv;exact JH Wz s Y H _ _ v u Q' I rx ry ⟨_,_,rfl,rfl,k _ _ _ _ .bl hm .refl q⟩
  .exact Jw Wz s Y H _ _ v u Q' I rx ry (inn lf q)
 | NotIn=>
  have q:R4 pc x y M Q:=q;unfold R4 at q;split at q
  .cases hx.str_inv;cases hy.str_inv;exact Ey Wz s Y H _ _ v u Q' I rx ry ⟨_,_,rfl,rfl,k _ _ _ _ .bl hm .refl q⟩
  .exact Er Wz s Y H _ _ v u Q' I rx ry (inn pc q)
variable {a b:Go}
def pR{op:CmpOp}(hu:X.A.units+9<wP)(ha:E3 X a ta)(hb:E3 X b tb)(hm:wE op b=lf:=by first|exact Fz _|with_unfolding_all rfl):E3 X (.Compare a [op] [b] pos) (k3 op ta tb):=PE.mono (II (J6 op hu) ha hb hm) FN
def b3(t:T3):Az:=λU M Q=>t U M λd M1=>match d with|.bl c=>Q c M1|_=>False
def uB(h:E3 X e t)(he:∀W7,isTrue e X.env W7=(do let v<-W7;ZU e.pos;xz [v] (truthy v)):=by intro _;rfl):B3 X e (b3 t):=PT.mono (Sb h he) λY H Q' zz=>x7 zz λU M Q hs hm ht k=>
 ⟨U,M,_,hs,hm,ht,λv H1 d M1 hd WA e1 q1=>by
  cases d with
  | bl c=>exact⟨c,hd.mI,k c H1 M1 WA e1 q1⟩
  | _=>exact q1.elim⟩
def pA{op:CmpOp}(hu:X.A.units+9<wP)(ha:E3 X a ta)(hb:E3 X b tb)(hm:wE op b=lf:=by first|exact Fz _|with_unfolding_all rfl):B3 X (.Compare a [op] [b] pos) (b3 (k3 op ta tb)):=PT.mono (Fu (J6 op hu) ha hb hm) λY H Q' zz=>x7 zz λU M Q hs hm ht k=>
 FN Y H _ ⟨U,M,_,hs,hm,ht,λv H1 d M1 hd WA e1 q1=>by
  cases d with
  | bl c=>exact⟨c,hd.mI,k c H1 M1 WA e1 q1⟩
  | _=>exact q1.elim⟩
end
variable {tA tB:Az}{rest:T0 Go}
section
variable {a b:Go}
def P'(t u:Az):Az:=λU M Q=>t U M λc M1=>if c=pc then u U M1 Q else Q lf M1
def Wl(t u:Az):Az:=λU M Q=>t U M λc M1=>if c=pc then Q pc M1 else u U M1 Q
def Uc(t:Az):Az:=λU M Q=>t U M λc M1=>Q (!c) M1
def W3(X:Cx)(e:Go)(t:Az):Prop:=PW X e (SM X.K t)
def PW.mono{t t':TT}(h:PW X e t)(m:∀Y H Q,t' Y H Q->t Y H Q):PW X e t':=λwh Wz s Y H Q I q=>h wh Wz s Y H Q I (m Y H Q q)
def W3.b3(h:W3 X e t):B3 X e t:=PW.pt h
def vd(h:B3 X a tA):W3 X (.BoolOp .And [a] pos) tA:=PJ h
def vk(h:B3 X a tA):W3 X (.BoolOp .Or [a] pos) tA:=Rx h
def vY(ha:B3 X a tA)(hb:W3 X (.BoolOp .And (b::rest) pos) tB):W3 X (.BoolOp .And (a::b::rest) pos) (P' tA tB):=PW.mono (Rh ha hb) λY H Q' zz=>x7 zz λU M Q hs hm ht k=>
 ⟨U,M,_,hs,hm,ht,λc H1 M1 WA e1 q1=>by
  cases c with
  | true=>exact(dh rfl).mpr ⟨U,M1,Q,hs.mono e1,WA,(dh rfl).mp q1,λb H' M' x1 x2 x3=>k b H' M' x1 (e1.trans x2) x3⟩
  | false=>exact(de dC).mpr (k lf H1 M1 WA e1 ((de dC).mp q1))⟩
def vC(ha:B3 X a tA)(hb:W3 X (.BoolOp .Or (b::rest) pos) tB):W3 X (.BoolOp .Or (a::b::rest) pos) (Wl tA tB):=PW.mono (TL ha hb) λY H Q' zz=>x7 zz λU M Q hs hm ht k=>
 ⟨U,M,_,hs,hm,ht,λc H1 M1 WA e1 q1=>by
  cases c with
  | true=>exact(dh rfl).mpr (k pc H1 M1 WA e1 ((dh rfl).mp q1))
  | false=>exact(de dC).mpr ⟨U,M1,Q,hs.mono e1,WA,(de dC).mp q1,λb H' M' x1 x2 x3=>k b H' M' x1 (e1.trans x2) x3⟩⟩
def we(ha:B3 X a tA):B3 X (.UnaryOp .Not a pos) (Uc tA):=PT.mono (R5 ha) λY H Q' zz=>x7 zz λU M Q hs hm ht k=>⟨U,M,_,hs,hm,ht,λc H1 M1 WA e1 q1=>k _ H1 M1 WA e1 q1⟩
def UD(ta tb:T3):T3:=λU M Q=>ta U M λd M1=>match d with|.bl c=>if c=pc then tb U M1 Q else Q (.bl lf) M1|_=>False
def VI(ta tb:T3):T3:=λU M Q=>ta U M λd M1=>match d with|.bl c=>if c=pc then Q (.bl pc) M1 else tb U M1 Q|_=>False
def UA(ta:T3):T3:=λU M Q=>ta U M λd M1=>match d with|.bl c=>Q (.bl (!c)) M1|_=>False
def rJ{op}(h:E3 X a ta):E3 X (.BoolOp op [a] pos) ta:=RC h
def rV(ha:E3 X a ta)(hb:E3 X (.BoolOp .And (b::rest) pos) tb):E3 X (.BoolOp .And (a::b::rest) pos) (UD ta tb):=PE.mono (QE ha hb) λY H Q' zz=>x7 zz λU M Q hs hm ht k=>
 ⟨U,M,_,hs,hm,ht,λv H1 d M1 hd WA e1 q1=>by
  cases d with
  | bl c=>
   refine⟨c,hd.mI,?_⟩;cases c with
   | true=>exact(dh rfl).mpr ⟨U,M1,Q,hs.mono e1,WA,(dh rfl).mp q1,vU e1 k⟩
   | false=>exact(de dC).mpr (k _ H1 _ M1 .bl WA e1 ((de dC).mp q1))
  | _=>exact q1.elim⟩
def F7(ha:E3 X a ta)(hb:E3 X (.BoolOp .Or (b::rest) pos) tb):E3 X (.BoolOp .Or (a::b::rest) pos) (VI ta tb):=PE.mono (TK ha hb) λY H Q' zz=>x7 zz λU M Q hs hm ht k=>
 ⟨U,M,_,hs,hm,ht,λv H1 d M1 hd WA e1 q1=>by
  cases d with
  | bl c=>
   refine⟨c,hd.mI,?_⟩;cases c with
   | true=>exact(dh rfl).mpr (k _ H1 _ M1 .bl WA e1 ((dh rfl).mp q1))
   | false=>exact(de dC).mpr ⟨U,M1,Q,hs.mono e1,WA,(de dC).mp q1,vU e1 k⟩
  | _=>exact q1.elim⟩
def Q1(ha:E3 X a ta):E3 X (.UnaryOp .Not a pos) (UA ta):=PE.mono (QW ha) λY H Q' zz=>x7 zz λU M Q hs hm ht k=>
 ⟨U,M,_,hs,hm,ht,λv H1 d M1 hd WA e1 q1=>by
  cases d with
  | bl c=>exact⟨c,hd.mI,k _ H1 _ M1 .bl WA e1 q1⟩
  | _=>exact q1.elim⟩
def Ww(t:Az)(ta tb:T3):T3:=λU M Q=>t U M λc M1=>if c=pc then ta U M1 Q else tb U M1 Q
def Qc(hc:B3 X c tA)(ha:E3 X a ta)(hb:E3 X b tb):E3 X (.IfExp c a b pos) (Ww tA ta tb):=PE.mono (LB hc ha hb) λY H Q' zz=>x7 zz λU M Q hs hm ht k=>
 ⟨U,M,_,hs,hm,ht,λc H1 M1 WA e1 q1=>by
  cases c with
  | true=>exact(dh rfl).mpr ⟨U,M1,Q,hs.mono e1,WA,(dh rfl).mp q1,vU e1 k⟩
  | false=>exact(de dC).mpr ⟨U,M1,Q,hs.mono e1,WA,(de dC).mp q1,vU e1 k⟩⟩
def Vo(x y:D)(M:Mp)(Q:DK):Prop:=match x,y with
 | .tup ds,.int i=>(wI ds i).elim False λd=>Q d M
 | .ref a,.int i=>(oK M a).elim False λds=>(wI ds i).elim False λd=>Q d M
 | .rl ds,.int i=>(wI ds i).elim False λd=>Q d M
 | .str z,.int i=>z.length<=Ch/\(wI z.cps.toList i).elim False λc=>Q (.str ⟨#[c]⟩) M
 | _,_=>False
def i3(ta tb:T3):T3:=λU M Q=>ta U M λx M1=>tb U M1 λy M2=>Vo x y M2 Q
def Ec{K:qp}{d:D}(h:qc K H ds xs)(e:wI ds i=Fa d):∃v,wI xs i=Fa v/\rL K H d v:=by
 unfold wI at e ⊢;rw[<-h.length];cases q:FG ds.length i with
 | none=>rw[q]at e;cases e
 | some j=>rw[q]at e;exact h.get e
def Wx:SL X (R3 X.K Vo):=by
 intro value WK Wz s Y H vx vy v u Q' I rx ry h hs;obtain⟨x,y,M,Q,hx,hy,hm,q,k⟩:=h;unfold Vo at q;split at q
 .obtain⟨d,e,q⟩:=qN q;obtain⟨p,xs,rfl,h1,h2⟩:=hx.mO;cases hy.int_inv;obtain⟨w,e1,e2⟩:=Ec h2 e;exact QB value WK Wz s Y H _ _ v u Q' I rx ry ⟨p,xs,_,w,rfl,rfl,h1,e1,k _ _ _ _ e2 hm .refl q⟩ hs
 .obtain⟨ds,e0,q⟩:=qN q;obtain⟨d,e,q⟩:=qN q;cases hx.mH;cases hy.int_inv;obtain⟨xs,h1,h2,_⟩:=pU hm e0;obtain⟨w,e1,e2⟩:=Ec h2 e;exact Ih value WK Wz s Y H _ _ v u Q' I rx ry ⟨_,xs,_,w,rfl,rfl,h1,e1,k _ _ _ _ e2 hm .refl q⟩ hs
 .obtain⟨d,e,q⟩:=qN q;obtain⟨p,xs,rfl,h1,h2⟩:=hx.mY;cases hy.int_inv;obtain⟨w,e1,e2⟩:=Ec h2 e;exact Ih value WK Wz s Y H _ _ v u Q' I rx ry ⟨p,xs,_,w,rfl,rfl,h1.sq,e1,k _ _ _ _ e2 hm .refl q⟩ hs
 .obtain⟨q1,q⟩:=q;obtain⟨c,e,q⟩:=qN q;cases hx.str_inv;cases hy.int_inv;exact Sv value WK Wz s Y H _ _ v u Q' I rx ry ⟨_,_,c,rfl,rfl,q1,e,k _ _ _ _ .str hm .refl q⟩ hs
 .exact q.elim
def pF(ha:E3 X a ta)(hb:E3 X b tb)(hs:Bc b:=by exact λ_ _=>rfl):E3 X (.Subscript a b pos) (i3 ta tb):=PE.mono (KF Wx ha hb hs) FN
def uH(ds:T0 D)(lo hi:Option Int):T0 D:=(ds.drop (HT.sX ds.length 0 lo)).take (HT.sX ds.length ds.length hi - HT.sX ds.length 0 lo)
def EW{K:qp}(q:qc K H ds xs):qc K H (uH ds l h) (Bv xs l h):=by unfold uH Bv;rw[q.length];exact(q.drop _).take _
abbrev SN:=vJ->Mp->(Option Int->Mp->Prop)->Prop
def Wh(K:qp)(t:SN):TO:=λY H Q'=>De λU M Q=>zI K H Y U/\HM K H M/\t U M Q/\∀o H' M',HM K H' M'->qO K H H'->Q o M'->Q' o H'
def O3(X:Cx)(e:Option Go)(t:SN):Prop:=PO X e (Wh X.K t)
def Pb:SN:=λ_ M Q=>Q Db M
def Um(t:T3):SN:=λU M Q=>t U M λd M1=>match d with|.int i=>Q (Fa i) M1|_=>False
def PO.mono{t t':TO}(h:PO X e t)(m:∀Y H Q,t' Y H Q->t Y H Q):PO X e t':=λWz s Y H Q I q=>h Wz s Y H Q I (m Y H Q q)
def sI:O3 X Db Pb:=PO.mono NX λY H Q' zz=>x7 zz λU M Q hs hm ht k=>k Db H M hm .refl ht
def sG(h:E3 X e t):O3 X (Fa e) (Um t):=PO.mono (Ou h) λY H Q' zz=>x7 zz λU M Q hs hm ht k=>
 ⟨U,M,_,hs,hm,ht,λv H1 d M1 hd WA e1 q1=>by
  cases d with
  | int i=>exact⟨i,hd.int_inv,k (Fa i) H1 M1 WA e1 q1⟩
  | _=>exact q1.elim⟩
def Wb(x:D)(lo hi:Option Int)(M:Mp)(Q:DK):Prop:=match x with
 | .tup ds=>Q (.tup (uH ds lo hi)) M
 | .ref a=>(oK M a).elim False λds=>∀p,M p=Db->Q (.ref p) (pB M p (.lst (uH ds lo hi)))
 | .rl ds=>∀p,M p=Db->Q (.ref p) (pB M p (.lst (uH ds lo hi)))
 | _=>False
def s3(te:T3)(tl th:SN):T3:=λU M Q=>te U M λx M1=>tl U M1 λl M2=>th U M2 λu M3=>Wb x l u M3 Q
def U7(K:qp):V->Option Int->Option Int->Hp->VK->Prop:=λvx l u H Q'=>De λx M Q=>rL K H x vx/\HM K H M/\Wb x l u M Q/\Up K H Q' Q
def O5{ds:T0 D}{lo hi:Option Int}(h:HT.sX ds.length 0 lo=0/\HT.sX ds.length ds.length hi=ds.length):uH ds lo hi=ds:=by unfold uH;rw[h.1,h.2,j7,kQ,eS]
def UT:SV X (U7 X.K):=by
 intro Wz s Y H vx v vl vu l u sl Q' I rx Za pl pu h;obtain⟨x,M,Q,hx,hm,q,k⟩:=h;cases x with
 | tup ds=>
  have q2:Q (.tup (uH ds l u)) M:=q;obtain⟨a,xs,rfl,h1,h2⟩:=hx.mO;by_cases q1:HT.sX ds.length 0 l=0/\HT.sX ds.length ds.length u=ds.length
  .rw[O5 q1]at q2;exact Rt Wz s Y H _ v vl vu l u sl Q' I rx Za pl pu ⟨a,xs,rfl,h1,by rw[<-h2.length];exact q1,k _ _ _ _ hx hm .refl q2⟩
  refine Q0 Wz s Y H _ v vl vu l u sl Q' I rx Za pl pu ⟨a,xs,rfl,h1,by rw[<-h2.length];exact q1,λp hp=>?_⟩;have e:qO X.K H (upd H p (.tup (Bv xs l u))):=.new hp;exact k _ _ _ _ (.tup (.of pY) ((EW h2).mono e)) (hm.add hp) e q2
 | ref a=>obtain⟨ds,e0,q⟩:=qN q;cases hx.mH;obtain⟨xs,h1,h2,_⟩:=pU hm e0;refine Ia Wz s Y H _ v vl vu l u sl Q' I rx Za pl pu ⟨a,xs,rfl,h1,λp hp=>?_⟩;have e:qO X.K H (upd H p (.lst (Bv xs l u))):=.new hp;exact k _ _ _ _ .ref (hm.new (c:=.lst (uH ds l u)) hp ⟨_,pY,(EW h2).mono e⟩) e (q p (hm.fresh hp))
 | rl ds=>obtain⟨a,xs,rfl,h1,h2⟩:=hx.mY;refine Ia Wz s Y H _ v vl vu l u sl Q' I rx Za pl pu ⟨a,xs,rfl,h1.sq,λp hp=>?_⟩;have e:qO X.K H (upd H p (.lst (Bv xs l u))):=.new hp;exact k _ _ _ _ .ref (hm.new (c:=.lst (uH ds l u)) hp ⟨_,pY,(EW h2).mono e⟩) e (q p (hm.fresh hp))
 | _=>exact q.elim
def rS{lo hi:Option Go}{p2:Pos}(he:E3 X e te)(hl:O3 X lo tl)(hu:O3 X hi th):E3 X (.Subscript e (.Slice lo hi Db p2) pos) (s3 te tl th):=PE.mono (La UT he hl hu) λY H Q' zz=>x7 zz λU M Q hs hm ht k=>⟨U,M,_,hs,hm,ht,λv H1 x M1 hx WA e1 q1=>⟨U,M1,_,hs.mono e1,WA,q1,λl H2 M2 WR e2 q2=>⟨U,M2,_,hs.mono (e1.trans e2),WR,q2,λu H3 M3 Xu e3 q3=>⟨x,M3,Q,hx.mono (e2.trans e3),Xu,q3,vU (e1.trans (e2.trans e3)) k⟩⟩⟩⟩
def xG:xn:=λ_ M Q=>Q [] M
def vn(ta:T3)(tr:xn):xn:=λU M Q=>ta U M λx M1=>tr U M1 λxs M2=>Q (x::xs) M2
def sS:A3 X [] xG:=PA.mono Sn λY H Q' zz=>x7 zz λU M Q hs hm ht k=>k [] H [] M .nil hm .refl ht
def pP(ha:E3 X e te)(hr:A3 X es t)(hs:Bg X e es:=by rfl):A3 X (e::es) (vn te t):=PA.mono (NP ha hr hs) λY H Q' zz=>x7 zz λU M Q hs hm ht k=>⟨U,M,_,hs,hm,ht,λv H1 x M1 hx WA e1 q1=>⟨U,M1,_,hs.mono e1,WA,q1,λvs H2 xs M2 ZA WR e2 q2=>k _ H2 _ M2 (.cons (hx.mono e2) ZA) WR (e1.trans e2) q2⟩⟩
def VE(t:xn):T3:=λU M Q=>t U M λds M1=>ds.length<=Ch/\Q (.tup ds) M1
def UC(t:xn):T3:=λU M Q=>t U M λds M1=>ds.length<=Ch/\∀p,M1 p=Db->Q (.ref p) (pB M1 p (.lst ds))
def pI{x1}(h:A3 X es t):E3 X (.Tuple es x1 pos) (VE t):=PE.mono (QM h) λY H Q' zz=>x7 zz λU M Q hs hm ht k=>
 ⟨U,M,_,hs,hm,ht,λvs H1 ds M1 XS WA e1 q1=>⟨by rw[<-XS.length];exact q1.1,λp hp=>by
  have e:qO X.K H1 (upd H1 p (.tup vs)):=.new hp;exact k _ _ _ M1 (.tup (.of pY) (XS.mono e)) (WA.add hp) (e1.trans e) q1.2⟩⟩
def qK(h:A3 X es t):E3 X (.List es pos) (UC t):=PE.mono (Rf h) λY H Q' zz=>x7 zz λU M Q hs hm ht k=>
 ⟨U,M,_,hs,hm,ht,λvs H1 ds M1 XS WA e1 q1=>⟨by rw[<-XS.length];exact q1.1,λp hp=>by
  have e:qO X.K H1 (upd H1 p (.lst vs)):=.new hp;exact k _ _ _ _ .ref (WA.new (c:=.lst ds) hp ⟨_,pY,XS.mono e⟩) (e1.trans e) (q1.2 p (WA.fresh hp))⟩⟩
def uy(t u:xu):xu:=λD U M=>t {D with nx:=u D} U M
def UP:xu:=λD U M=>D.nx U M
def pD:GX X [] UP:=Bz.mono PM λD' Y H zz=>Kv zz λU M D hs hm ht k1 k2 k3 k4=>k1 Y H U M hs hm .refl rfl ht
def oY{st:sB}{rest:T0 sB}(h1:S3 X st t)(h2:GX X rest u):GX X (st::rest) (uy t u):=Bz.mono (Me h1 h2) λD' Y H zz=>Kv zz λU M D hs hm ht k1 k2 k3 k4=>
 ⟨U,M,{D with nx:=u D},hs,hm,ht,λσ1 H1 δ1 M1 ZC WA e1 l1 q1=>⟨δ1,M1,D,ZC,WA,q1,λσ' H' δ' M' x1 x2 x3 x4 x5=>k1 σ' H' δ' M' x1 x2 (e1.trans x3) (x4.trans l1) x5,λv H' d M' x1 x2 x3 x4=>k2 v H' d M' x1 x2 (e1.trans x3) x4,λσ' H' δ' M' x1 x2 x3 x4 x5=>k3 σ' H' δ' M' x1 x2 (e1.trans x3) (x4.trans l1) x5,λσ' H' δ' M' x1 x2 x3 x4 x5=>k4 σ' H' δ' M' x1 x2 (e1.trans x3) (x4.trans l1) x5⟩,k2,k3,k4⟩
def oZ{st:sB}(h1:S3 X st t):GX X [st] t:=Bz.mono (Ic h1) λD' Y H h=>h
def SU(te:T3):xu:=λD U M=>te U M λ_ M1=>D.nx U M1
def pK(he:E3 X e te)(X8:TD e Db pos.line X.env=pure lf:=by rfl):S3 X (.Expr e pos) (SU te):=PS.mono (P6 he X8) λD' Y H zz=>Kv zz λU M D hs hm ht k1 k2 k3 k4=>⟨U,M,_,hs,hm,ht,λv H1 d M1 hd WA e1 q1=>k1 Y H1 U M1 (hs.mono e1) WA e1 rfl q1⟩
def RU(te:T3):xu:=λD U M=>te U M D.rt
def pk(he:E3 X e te):S3 X (.Return (Fa e) pos) (RU te):=PS.mono (QZ he) λD' Y H zz=>Kv zz λU M D hs hm ht k1 k2 k3 k4=>⟨U,M,_,hs,hm,ht,λv H1 d M1 hd WA e1 q1=>k2 v H1 d M1 hd WA e1 q1⟩
def KH(c:Az)(t u:xu):xu:=λD U M=>c U M λb M1=>if b=pc then t D U M1 else u D U M1
def pJ{tc:Az}(hc:B3 X c tc)(ha:GX X as t)(hb:GX X bs u):S3 X (.If c as bs pos) (KH tc t u):=PS.mono (Us hc ha hb) λD' Y H zz=>Kv zz λU M D hs hm ht k1 k2 k3 k4=>
 ⟨U,M,_,hs,hm,ht,λb H1 M1 WA e1 q1=>by
  have up:∀t:xu,t D U M1->UH X.K t D' Y H1:=λt q=>⟨U,M1,D,hs.mono e1,WA,q,λσ' H' δ' M' x1 x2 x3 x4 x5=>k1 σ' H' δ' M' x1 x2 (e1.trans x3) x4 x5,λv H' d M' x1 x2 x3 x4=>k2 v H' d M' x1 x2 (e1.trans x3) x4,λσ' H' δ' M' x1 x2 x3 x4 x5=>k3 σ' H' δ' M' x1 x2 (e1.trans x3) x4 x5,λσ' H' δ' M' x1 x2 x3 x4 x5=>k4 σ' H' δ' M' x1 x2 (e1.trans x3) x4 x5⟩
  cases b with
  | true=>exact(dh rfl).mpr (up t ((dh rfl).mp q1))
  | false=>exact(de dC).mpr (up u ((de dC).mp q1))⟩
def QJ:xu:=λ_ _ _=>False
def FF{st:sB}:S3 X st QJ:=PS.mono LX λD' Y H ⟨U,M,D,hs,hm,ht,_⟩=>ht
abbrev D3:=D->vJ->Mp->(vJ->Mp->Prop)->Prop
def UL(K:qp)(g:D3):TG:=λv Y H Q'=>BA λd U M Q=>rL K H d v/\zI K H Y U/\HM K H M/\g d U M Q/\∀σ' H' δ' M',zI K H' σ' δ'->HM K H' M'->qO K H H'->σ'.length=Y.length->Q δ' M'->Q' σ' H'
def G3(X:Cx)(e:Go)(g:D3):Prop:=PG X e (UL X.K g)
def PG.nN{t t':TG}(h:PG X e t)(m:∀v Y H Q,Y.length=X.N.length->t' v Y H Q->t v Y H Q):PG X e t':=λWz s Y H v u Q I r q=>h Wz s Y H v u Q I r (m v Y H Q I.len q)
def rT(i:Nat):D3:=λd U M Q=>Q (U.set i (Fa d)) M
def Ir{i:Nat}{x:Str}(hN:X.N.Nodup)(hi:X.N[i]?=Fa x)(hx:Nq X.env.scope x)(hf:Ln X x:=by first|exact .inl rfl|exact .inr rfl|assumption):G3 X (.Name x pos) (rT i):=
 PG.nN (PD hN hi hx hf) λv Y H Q' hl ⟨d,U,M,Q,hd,hs,hm,ht,k⟩=>k _ H _ M (hs.set hd (by rw[hl];exact(cZ.mp hi).1)) hm .refl (by simp) ht
abbrev Ga:=T0 D->vJ->Mp->(vJ->Mp->Prop)->Prop
def VT(K:qp)(g:Ga):Po:=λvs Y H Q'=>BA λds U M Q=>qc K H ds vs/\zI K H Y U/\HM K H M/\g ds U M Q/\∀σ' H' δ' M',zI K H' σ' δ'->HM K H' M'->qO K H H'->σ'.length=Y.length->Q δ' M'->Q' σ' H'
def UQ(X:Cx)(es:T0 Go)(g:Ga):Prop:=Nv X es (VT X.K g)
def Nv.mono{t t':Po}(h:Nv X e t)(m:∀v Y H Q,t' v Y H Q->t v Y H Q):Nv X e t':=λWz s Y H v u Q I r q=>h Wz s Y H v u Q I r (m v Y H Q q)
def PG.mono{t t':TG}(h:PG X e t)(m:∀v Y H Q,t' v Y H Q->t v Y H Q):PG X e t':=λWz s Y H v u Q I r q=>h Wz s Y H v u Q I r (m v Y H Q q)
def DU:Ga:=λds U M Q=>match ds with|[]=>Q U M|_=>False
def yu(t:D3)(u:Ga):Ga:=λds U M Q=>match ds with|d::r=>t d U M λδ' M'=>u r δ' M' Q|[]=>False
def sv:UQ X [] DU:=Nv.mono ND λvs Y H Q' ⟨ds,U,M,Q,hd,hs,hm,ht,k⟩=>by
 cases ds with
 | nil=>exact⟨hd.nil_inv,k Y H U M hs hm .refl rfl ht⟩
 | cons _ _=>exact ht.elim
def pV(h1:G3 X e t)(h2:UQ X es u)(hs:(ZO (e::es) X.env).map (·.2)=assign e X.env::(ZO es X.env).map (·.2):=by rfl):UQ X (e::es) (yu t u):=
 Nv.mono (MQ h1 h2 hs) λvs Y H Q' ⟨ds,U,M,Q,hd,hs,hm,ht,k⟩=>by
 cases ds with
 | nil=>exact ht.elim
 | cons d r=>obtain⟨x,xr,rfl,hx,hr⟩:=hd.inv;exact⟨x,xr,rfl,d,U,M,_,hx,hs,hm,ht,λσ1 H1 δ1 M1 ZC WA e1 l1 q1=>⟨r,δ1,M1,Q,hr.mono e1,ZC,WA,q1,λσ' H' δ' M' x1 x2 x3 x4 x5=>k σ' H' δ' M' x1 x2 (e1.trans x3) (x4.trans l1) x5⟩⟩
def Qt(n:Nat)(t:Ga):D3:=λd U M Q=>match d with|.tup ds=>ds.length=n/\t ds U M Q|_=>False
def tO{n:Nat}(hc:X.calm=pc)(h:UQ X es t)(hn:(ZO es X.env).length=n:=by rfl)(WV:(ZO es X.env).findIdx? (·.1)=Db:=by rfl):G3 X (.Tuple es k pos) (Qt n t):=
 PG.mono (Rp hc h hn WV) λv Y H Q' ⟨d,U,M,Q,hd,hs,hm,ht,k⟩=>by
 cases d with
 | tup ds=>obtain⟨a,xs,rfl,h1,h2⟩:=hd.mO;exact⟨a,xs,rfl,h1,by rw[<-h2.length];exact ht.1,ds,U,M,Q,h2,hs,hm,ht.2,k⟩
 | _=>exact ht.elim
def yr(te:T3)(g:D3):xu:=λD U M=>te U M λx M1=>g x U M1 D.nx
def Sk(he:E3 X e te)(hg:G3 X tg g)(hs:swapsWithSole [tg] e pos.line X.env=pure lf:=by rfl)(hw:swappedStores [tg] e X.env=pure Db:=by rfl)
  (h1:(ZO [tg] X.env).map (·.2)=[assign tg X.env]:=by rfl):S3 X (.Assign [tg] e pos) (yr te g):=PS.mono (SG he hg hs hw h1) λD' Y H zz=>Kv zz λU M D hs hm ht k1 k2 k3 k4=>
 ⟨U,M,_,hs,hm,ht,λv H1 d M1 hd WA e1 q1=>⟨d,U,M1,_,hd,hs.mono e1,WA,q1,λσ' H' δ' M' x1 x2 x3 x4 x5=>k1 σ' H' δ' M' x1 x2 (e1.trans x3) x4 x5⟩⟩
def Ra{i:Nat}{x:Str}(hN:X.N.Nodup)(hi:X.N[i]?=Fa x)(hx:Nq X.env.scope x)(he:E3 X e te)(X8:TD e (Fa (.Name x WL)) pos.line X.env=pure lf:=by rfl)
  (hf:Ln X x:=by first|exact .inl rfl|exact .inr rfl|assumption):S3 X (.Assign [.Name x WL] e pos) (yr te (rT i)):=PS.nN (SD hN hi hx he X8 hf) λD' Y H hl zz=>Kv zz λU M D hs hm ht k1 k2 k3 k4=>
 ⟨U,M,_,hs,hm,ht,λv H1 d M1 hd WA e1 q1=>k1 _ H1 _ M1 ((hs.mono e1).set hd (by rw[hl];exact(cZ.mp hi).1)) WA e1 (by simp) q1⟩
end
abbrev qY:=T0 D->Mp->DK->Prop
def Nw(K:qp)(sp:qY):Sp:=λvs H Q' _=>De λds M Q=>qc K H ds vs/\HM K H M/\sp ds M Q/\Up K H Q' Q
def wW(N:QQQ)(ds:T0 D):vJ:=ds.map Fa++List.replicate (N.length - ds.length) Db
def Dt{K:qp}(h:qc K H ds vs):zI K H (L2.start N vs) (wW N ds):=λi d q=>by
 unfold wW at q;unfold L2.start;by_cases hi:i<ds.length
 .rw[fg (by simpa using hi),dF]at q;cases e:ds[i]? with
  | none=>rw[e]at q;cases q
  | some d'=>rw[e]at q;cases q;obtain⟨v,e1,e2⟩:=h.get e;refine⟨v,?_,e2⟩;rw[fg (by rw[cV,<-h.length];exact hi),dF,e1];rfl
 .rw[eY (by simpa using hi),jL]at q;split at q<;>cases q
variable {P:Pg}{w:Wo}{mg:QQZ}{base:No}
abbrev SK(P:Pg)(w:Wo)(K:qp)(mg:QQZ)(base:No)(k:Nat)(f:Uf)(fd:Rs)(ps:QQQ)(sp:qY):Prop:=xp P w K mg base Nt k f fd ps (Nw K sp)
variable {k:Nat}{f C:Uf}{fd:Rs}{ps:QQQ}{sp:qY}{x m fn:Str}{p WD:Pos}{e o:Go}{es:T0 Go}{t:xn}
def Do(sp:qY)(t:xn):T3:=λU M Q=>t U M λds M1=>sp ds M1 Q
def O9(F:SK X.prog X.w X.K X.mg X.base k f fd ps sp)(hr:rX k X.A)(hg:Gl X x)(hm:X.mg x=Fa (.ref f))(hk:W.keepIn X.K (.ref f)=pc)(hb:uM X.K fd ps [])(ha:A3 X (e::es) t) (WS:yR x:=by decide) (he:Bg X e es:=by rfl) (WN:CC X pos es:=by rfl):
  E3 X (.Call (.Name x p) (e::es) [] pos) (Do sp t):=PE.mono (Om F hr hg hm hk hb .nil (GS (X:=X)) ha WS he WN) λY H Q' zz=>x7 zz λU M Q hs hm ht k=>
 ⟨U,M,_,hs,hm,ht,λvs H1 ds M1 hd WA e1 q1=>⟨ds,M1,Q,by rw[e9];exact hd,WA,q1,vU e1 k⟩⟩
def C3(X:Cx)(f:Vl)(r:qY):Prop:=yq X f λvs H Q'=>∃ds M Q,qc X.K H ds vs/\HM X.K H M/\r ds M Q/\Up X.K H Q' Q
def pN{id:String}(hc:C3 X (.builtin id) r)(hg:Gl X x)(hm:X.mg x=Db)(hv:zn x=Fa (.builtin id))(ha:A3 X (e::es) t)(hn:x≠"__name__":=by decide)(WS:yR x:=by decide)
  (he:Bg X e es:=by rfl) (WN:CC X pos es:=by rfl):E3 X (.Call (.Name x p) (e::es) [] pos) (Do r t):=
 PE.mono (KY hc hg hm hv ha hn WS he WN) λY H Q' zz=>x7 zz λU M Q hs hm ht k=>⟨U,M,_,hs,hm,ht,λvs H1 ds M1 hd WA e1 q1=>⟨ds,M1,Q,hd,WA,q1,vU e1 k⟩⟩
def qr{T:String}(hc:C3 X (.type T) r)(hg:Gl X x)(hm:X.mg x=Db)(hv:zn x=Fa (.type T))(ha:A3 X (e::es) t)(hn:x≠"__name__":=by decide)(WS:yR x:=by decide)
  (he:Bg X e es:=by rfl) (WN:CC X pos es:=by rfl):E3 X (.Call (.Name x p) (e::es) [] pos) (Do r t):=
 PE.mono (Ks hc hg hm hv ha hn WS he WN) λY H Q' zz=>x7 zz λU M Q hs hm ht k=>⟨U,M,_,hs,hm,ht,λvs H1 ds M1 hd WA e1 q1=>⟨ds,M1,Q,hd,WA,q1,vU e1 k⟩⟩
def Tp(ds:T0 D)(M:Mp)(Q:DK):Prop:=match ds with
 | [.str z]=>z.length<=Ch/\Q (.int z.length) M
 | [.tup es]=>Q (.int es.length) M
 | [.ref a]=>(oK M a).elim False λes=>Q (.int es.length) M
 | [.rl es]=>Q (.int es.length) M
 | _=>False
def rA{K:qp}{d:D}(h:qc K H [d] vs):∃v,vs=[v]/\rL K H d v:=by obtain⟨x,r,rfl,a,b⟩:=h.inv;rw[b.nil_inv];exact⟨x,rfl,a⟩
def Ba{K:qp}{d e:D}(h:qc K H [d,e] vs):∃v u,vs=[v,u]/\rL K H d v/\rL K H e u:=by obtain⟨x,r,rfl,a,b⟩:=h.inv;obtain⟨y,rfl,c⟩:=rA b;exact⟨x,y,rfl,a,c⟩
def ql:C3 X (.builtin "len") Tp:=by
 intro Wz s Y H vs us Q' I rv h;obtain⟨ds,M,Q,hd,hm,q,k⟩:=h;unfold Tp at q;split at q
 .obtain⟨v,rfl,hv⟩:=rA hd;cases hv.str_inv;exact ED Wz s Y H _ us Q' I rv ⟨_,rfl,q.1,k _ _ _ _ .int hm .refl q.2⟩
 .obtain⟨v,rfl,hv⟩:=rA hd;obtain⟨a,xs,rfl,h1,h2⟩:=hv.mO;exact wY Wz s Y H _ us Q' I rv ⟨a,xs,rfl,.inr h1,k _ _ _ _ (by rw[<-h2.length];exact .int) hm .refl q⟩
 .obtain⟨v,rfl,hv⟩:=rA hd;obtain⟨es,e0,q⟩:=qN q;cases hv.mH;obtain⟨xs,h1,h2,_⟩:=pU hm e0;exact wY Wz s Y H _ us Q' I rv ⟨_,xs,rfl,.inl h1,k _ _ _ _ (by rw[<-h2.length];exact .int) hm .refl q⟩
 .obtain⟨v,rfl,hv⟩:=rA hd;obtain⟨a,xs,rfl,h1,h2⟩:=hv.mY;exact wY Wz s Y H _ us Q' I rv ⟨a,xs,rfl,.inl h1.sq,k _ _ _ _ (by rw[<-h2.length];exact .int) hm .refl q⟩
 .exact q.elim
def Th(ds:T0 D)(M:Mp)(Q:DK):Prop:=match ds with
 | [.int i,.int j]=>Q (.int (if j<i then j else i)) M
 | _=>False
def RF(hc:X.calm=pc):C3 X (.builtin "min") Th:=by
 intro Wz s Y H vs us Q' I rv h;obtain⟨ds,M,Q,hd,hm,q,k⟩:=h;unfold Th at q;split at q
 .obtain⟨v,u,rfl,hv,hw⟩:=Ba hd;cases hv.int_inv;cases hw.int_inv;exact Kn hc Wz s Y H _ us Q' I rv ⟨_,_,rfl,k _ _ _ _ .int hm .refl q⟩
 .exact q.elim
def Nn(ds:T0 D)(M:Mp)(Q:DK):Prop:=match ds with
 | [.tup es]=>Q (.tup es) M
 | [.ref a]=>(oK M a).elim False λes=>Q (.tup es) M
 | [.rl es]=>Q (.tup es) M
 | _=>False
def uN:C3 X (.type "tuple") Nn:=by
 intro Wz s Y H vs us Q' I rv h;obtain⟨ds,M,Q,hd,hm,q,k⟩:=h;unfold Nn at q;split at q
 .obtain⟨v,rfl,hv⟩:=rA hd;obtain⟨a,xs,rfl,h1,h2⟩:=id hv.mO;exact wj Wz s Y H _ us Q' I rv ⟨a,xs,rfl,.inr ⟨h1,k _ _ _ _ hv hm .refl q⟩⟩
 .obtain⟨v,rfl,hv⟩:=rA hd;obtain⟨es,e0,q⟩:=qN q;cases hv.mH;obtain⟨xs,h1,h2,_⟩:=pU hm e0;refine wj Wz s Y H _ us Q' I rv ⟨_,xs,rfl,.inl ⟨h1,λl hl=>?_⟩⟩;have e:qO X.K H (upd H l (.tup xs)):=.new hl;exact k _ _ _ _ (.tup (.of pY) (h2.mono e)) (hm.add hl) e q
 .obtain⟨v,rfl,hv⟩:=rA hd;obtain⟨a,xs,rfl,h1,h2⟩:=hv.mY;refine wj Wz s Y H _ us Q' I rv ⟨_,xs,rfl,.inl ⟨h1.sq,λl hl=>?_⟩⟩;have e:qO X.K H (upd H l (.tup xs)):=.new hl;exact k _ _ _ _ (.tup (.of pY) (h2.mono e)) (hm.add hl) e q
 .exact q.elim
def QA(ds:T0 D)(M:Mp)(Q:DK):Prop:=match ds with
 | [d]=>(Kz M d).elim False λes=>∀p,M p=Db->Q (.ref p) (pB M p (.lst es))
 | _=>False
def tI:C3 X (.type "list") QA:=by
 intro Wz s Y H vs us Q' I rv h;obtain⟨ds,M,Q,hd,hm,q,k⟩:=h;unfold QA at q;split at q
 .obtain⟨v,rfl,hv⟩:=rA hd;obtain⟨es,e0,q⟩:=qN q;obtain⟨p,xs,rfl,h1,h2⟩:=Fm hm hv e0;refine E1 Wz s Y H _ us Q' I rv ⟨p,xs,rfl,h1,λl hl=>?_⟩;have e:qO X.K H (upd H l (.lst xs)):=.new hl;exact k _ _ _ _ .ref (hm.new (c:=.lst es) hl ⟨_,pY,h2.mono e⟩) e (q l (hm.fresh hl))
 .exact q.elim
theorem wR{K:qp}{f:Str}:∀{fs:T0 (Str×D)} {vs:T0 (Str×V)},BM K H fs vs->(∀d,fs.lookup f=Fa d->∃v,vs.lookup f=Fa v/\rL K H d v)/\(fs.lookup f=Db->vs.lookup f=Db)
 | [],[],_=>⟨λd e=>by simp at e,λ_=>rfl⟩
 | [],_::_,h=>by have:=h.1;simp at this
 | _::_,[],h=>by have:=h.1;simp at this
 | (g,d)::fs,(g',v)::vs,h=>by
  have h1:g'=g/\vs.map (·.1)=fs.map (·.1):=by
   have:=h.1
   simpa using this
  obtain⟨x,r,e,a,b⟩:=h.2.inv;have e':v::vs.map (·.2)=x::r:=e;cases e';obtain⟨i1,i2⟩:=wR (f:=f) (fs:=fs) (vs:=vs) ⟨h1.2,b⟩;rw[h1.1];refine⟨λd' e=>?_,λe=>?_⟩
  .rw[eM]at e ⊢;cases q:f==g with
   | true=>rw[q]at e;cases e;exact⟨v,rfl,a⟩
   | false=>rw[q]at e;exact i1 d' e
  .rw[eM]at e ⊢;cases q:f==g with
   | true=>rw[q]at e;cases e
   | false=>rw[q]at e;exact i2 e
theorem Jk{f:Str}{d:D}:∀{fs:T0 (Str×D)},fs.lookup f=Fa d->f∈fs.map (·.1)
 | [],h=>by simp at h
 | (g,e)::r,h=>by
  rw[eM]at h;cases q:f==g with
  | true=>
   have z:f=g:=by simpa using q
   rw[z,dZ];exact dN
  | false=>rw[q]at h;simp[Jk h]
def AL(o:Option uR)(F:Uf->T0 (Str×D)->Prop):Prop:=match o with
 | some (.ins C fs)=>F C fs
 | _=>False
def o9{o:Option uR}{F:Uf->T0 (Str×D)->Prop}{C:Uf}{fs:T0 (Str×D)}(e:o=Fa (.ins C fs))(h:F C fs):AL o F:=by rw[e];exact h
def xY{o:Option uR}(h:AL o F):∃C fs,o=Fa (.ins C fs)/\F C fs:=by
 unfold AL at h;split at h
 .exact⟨_,_,rfl,h⟩
 .exact h.elim
def Vu(f:Str)(ta:T3):T3:=λU M Q=>ta U M λx M1=>match x with
 | .ref a=>AL (M1 a) λ_ fs=>(fs.lookup f).elim False λd=>Q d M1
 | _=>False
def pq{f:Str}(he:E3 X o ta)(hb:sK o f X.env (wp o X.env)=wp o X.env:=by rfl):E3 X (.Attribute o f pos) (Vu f ta):=PE.mono (QH he hb) λY H Q' zz=>x7 zz λU M Q hs hm ht k=>
 ⟨U,M,_,hs,hm,ht,λv H1 d M1 hd WA e1 q1=>by
  cases d with
  | ref a=>cases hd.mH;obtain⟨C,fs,e,q1⟩:=xY q1;obtain⟨d,e2,q⟩:=qN q1;obtain⟨dx,vs,h1,cl,na,fo⟩:=WA a _ e;obtain⟨v,e3,hv⟩:=(wR fo).1 d e2;exact⟨a,C,dx,vs,v,rfl,h1,cl,na f (Jk e2),e3,k v H1 d M1 hv WA e1 q⟩
  | _=>exact q1.elim⟩
def vV(f:Str)(v:D):T0 (Str×D)->T0 (Str×D)
 | []=>[(f,v)]
 | (g,u)::r=>if g=f then(g,v)::r else(g,u)::vV f v r
theorem D9{K:qp}{f:Str}(hv:rL K H d v):∀{fs:T0 (Str×D)} {vs:T0 (Str×V)},BM K H fs vs->BM K H (vV f d fs) (vL f v vs)
 | [],[],_=>⟨rfl,.cons hv .nil⟩
 | [],_::_,h=>by have:=h.1;simp at this
 | _::_,[],h=>by have:=h.1;simp at this
 | (g,e)::fs,(g',u)::vs,h=>by
  have h1:g'=g/\vs.map (·.1)=fs.map (·.1):=by
   have:=h.1
   simpa using this
  obtain⟨x,r,e1,a,b⟩:=h.2.inv;have e':u::vs.map (·.2)=x::r:=e1;cases e';obtain⟨hg,ht⟩:=h1;subst hg;rw[show vV f d ((g',e)::fs)=(if g'=f then(g',d)::fs else(g',e)::vV f d fs)from rfl,show vL f v ((g',u)::vs)=(if g'=f then(g',v)::vs else(g',u)::vL f v vs)from rfl];by_cases q:g'=f
  .rw[dh q,dh q];exact⟨by simpa using ht,.cons hv b⟩
  .rw[de q,de q];obtain⟨i1,i2⟩:=D9 hv (fs:=fs) (vs:=vs) ⟨ht,b⟩;exact⟨by simpa using i1,.cons a i2⟩
theorem Bt{f:Str}:∀{fs:T0 (Str×D)} {g:Str},g∈(vV f d fs).map (·.1)->g=f\/g∈fs.map (·.1)
 | [],g,h=>.inl (by simpa [vV]using h)
 | (k,e)::r,g,h=>by
  rw[show vV f d ((k,e)::r)=(if k=f then(k,d)::r else(k,e)::vV f d r)from rfl]at h;by_cases q:k=f
  .rw[dh q]at h;exact .inr (by simpa using h)
  .rw[de q]at h;rw[dZ,c9]at h;rcases h with h|h
   .exact .inr (by simp[h])
   .rcases Bt h with z|z
    .exact .inl z
    .exact .inr (by simp;right;simpa using z)
def Tg(K:qp)(f:Str)(ta tv:T3):xu:=λD U M=>tv U M λy M1=>ta U M1 λx M2=>match x with
 | .ref a=>AL (M2 a) λC fs=>ue K C f/\fs.length<1000/\D.nx U (pB M2 a (.ins C (vV f y fs)))
 | _=>False
def pX{f:Str}(ha:E3 X o ta)(hv:E3 X value tv)(X8:TD value (Fa (.Attribute o f WL)) pos.line X.env=pure lf:=by rfl):S3 X (.Assign [.Attribute o f WL] value pos) (Tg X.K f ta tv):=
 PS.mono (RX ha hv X8) λD' Y H zz=>Kv zz λU M D hs hm ht k1 k2 k3 k4=>
 ⟨U,M,_,hs,hm,ht,λy H1 dy M1 hy WA e1 q1=>⟨U,M1,_,hs.mono e1,WA,q1,λv H2 d M2 hd WR e2 q2=>by
  cases d with
  | ref a=>
   cases hd.mH;obtain⟨C,fs,e,q2⟩:=xY q2;obtain⟨na,hl,q⟩:=q2;obtain⟨dx,vs,h1,cl,nn,fo⟩:=WR a _ e;have WE:vs.length=fs.length:=by have:=eR List.length fo.1;simpa using this
   refine⟨a,C,dx,vs,rfl,h1,cl,na,by omega,?_⟩;obtain⟨Xu,e3⟩:=WR.put (p:=a) (o:=.ins C dx (vL f y vs)) (c:=.ins C (vV f dy fs)) e λx=>⟨dx,_,pY,cl,λg hg=>by
    rcases Bt hg with z|z
    .rw[z];exact na
    .exact nn g z,D9 ((hy.mono e2).mono x) (fo.mono x)⟩
   exact k1 Y _ U _ (hs.mono (e1.trans (e2.trans e3))) Xu (e1.trans (e2.trans e3)) rfl q
  | _=>exact q2.elim⟩⟩
def Qr(C:Uf)(sp:qY)(t:xn):T3:=λU M Q=>t U M λds M1=>∀x,M1 x=Db->sp (.ref x::ds) (pB M1 x (.ins C [])) λd M2=>d=.mL/\Q (.ref x) M2
def Lw{K:qp}{xa dx:Uf}(hm:HM K H M)(cl:Cls K C)(h1:H xa=Db)(h2:H dx=Db)(ne:dx≠xa):HM K (upd (upd H dx (.own xa)) xa (.ins C dx [])) (pB M xa (.ins C []))/\qO K H (upd (upd H dx (.own xa)) xa (.ins C dx [])):=by
 have Xj:upd H dx (.own xa) xa=Db:=by rw[pS (dG ne)];exact h1
 exact⟨(hm.add (p:=dx) (o:=.own xa) h2).new Xj ⟨dx,[],pY,cl,λg hg=>by simp at hg,rfl,.nil⟩,qO.trans (.new h2) (.new Xj)⟩
def NC(cl:Cls X.K C)(Mk':Mk X.K C f)(F:SK X.prog X.w X.K X.mg X.base k f fd ps sp)(hr:rX (k+1) X.A)(hg:Gl X x)(hm:X.mg x=Fa (.ref C))(hb:uM X.K fd ps [])(ha:A3 X (e::es) t) (WS:yR x:=by decide) (he:Bg X e es:=by rfl) (WN:CC X pos es:=by rfl):
  E3 X (.Call (.Name x p) (e::es) [] pos) (Qr C sp t):=PE.mono (Pq Mk' F hr hg hm hb .nil (GS (X:=X)) ha WS he WN) λY H Q' zz=>x7 zz λU M Q hs hm ht k=>
 ⟨U,M,_,hs,hm,ht,λvs H1 ds M1 hd WA e1 q1=>λxa dx n1 n2 ne=>by
  obtain⟨WR,e2⟩:=Lw WA cl n1 n2 ne;refine⟨.ref xa::ds,_,_,?_,WR,q1 xa (WA.fresh n1),λv H3 d M3 hd3 Xu e3 q3=>?_⟩
  .rw[e9];exact .cons .ref (hd.mono e2)
  .obtain⟨z,q3⟩:=q3;subst z;exact⟨hd3.mJ,k _ H3 _ M3 .ref Xu (e1.trans (e2.trans e3)) q3⟩⟩
def Hb(m:Str)(R:Uf->Sp->Prop)(ta:TE)(t:TA):TE:=λY H Q=>ta Y H λx H1=>∃a C dx fs sp,x=.ref a/\H1 a=Fa (.ins C dx fs)/\fs.lookup m=Db/\R C sp/\t Y H1 λvs H2=>sp (x::vs) H2 Q E0
def xR(P:Pg)(w:Wo)(K:qp)(mg:QQZ)(base:No)(k:Nat)(m:Str)(C:Uf)(sp:Sp):Prop:=Cls K C/\∃f fd ps,vM K C m f/\xp P w K mg base Nt k f fd ps sp/\uM K fd ps []
def MF{R:Uf->Sp->Prop}{ta:TE}{t:TA}{pl:Sem Bool}(he:PE X o ta)(hR:∀C sp,R C sp->xR X.prog X.w X.K X.mg X.base k m C sp)(hr:rX k X.A)(ha:PA X (e::es) t) (WV:Bg X e es:=by rfl) (WN:CC X pos es:=by rfl)
  (ht:wp (.Call (.Attribute o m WD) (e::es) [] pos) X.env=(do
   let ov<-wp o X.env
   ZU WD.atName
   let(f,first)<-xz [ov] (wS ov m pl)
   ZX pos f first (Ix pos (Tl (e::es) X.env)) (xL pos (Ps [] X.env))):=by rfl):
  PE X (.Call (.Attribute o m WD) (e::es) [] pos) (Hb m R ta t):=by
 intro Wz s Y H Q I h;refine jS (pl:=pl) (sy (he Wz s Y H _ I h) λu s1 zz=>?_) ht;obtain⟨x,H1,I1,rx,a,C,dx,fs,sp,ex,ea,l,hRC,q⟩:=zz;obtain⟨c,f,fd,ps,hm,F,hb⟩:=hR C sp hRC;subst ex;obtain rfl:u=Value.ref a:=rx;refine Cq I1 ea c hm l ?_;refine iL (first:=[.ref a]) (h₀:=X.base) I.ok.mod.og hm.kp (sy (ha pos Wz s1 Y H1 _ I1 q) λus s2 zz=>x5 zz λvs H2 I2 r q2=>⟨I2.m7,?_⟩) WV WN;exact EY (us:=.ref a::us) (vs:=.ref a::vs) F hr hb .nil (GS (X:=X)) I2 (.cons rfl r) (by rw[e9];exact q2)
def JJ{R:Uf->Sp->Prop}{ta:TE}{pl:Sem Bool}(he:PE X o ta)(hR:∀C sp,R C sp->xR X.prog X.w X.K X.mg X.base k m C sp)(hr:rX k X.A) (ht:wp (.Call (.Attribute o m WD) [] [] pos) X.env=(do
   let ov<-wp o X.env
   ZU WD.atName
   let(f,first)<-xz [ov] (wS ov m pl)
   ZX pos f first (Ix pos (Tl [] X.env)) (xL pos (Ps [] X.env))):=by rfl):
  PE X (.Call (.Attribute o m WD) [] [] pos) (Hb m R ta Tj):=by
 intro Wz s Y H Q I h;refine jS (pl:=pl) (sy (he Wz s Y H _ I h) λu s1 zz=>?_) ht;obtain⟨x,H1,I1,rx,a,C,dx,fs,sp,ex,ea,l,hRC,q⟩:=zz;obtain⟨c,f,fd,ps,hm,F,hb⟩:=hR C sp hRC;subst ex;obtain rfl:u=Value.ref a:=rx;refine Cq I1 ea c hm l ?_;exact W.callWith_K0 (first:=[.ref a]) I1.m7 hm.kp (EY (us:=[.ref a]) (vs:=[.ref a]) F hr hb .nil (GS (X:=X)) I1 (.cons rfl .nil) (by rw[e9];exact q))
def As(m:Str)(R:Uf->qY->Prop)(ta:T3)(t:xn):T3:=λU M Q=>ta U M λx M1=>match x with
 | .ref a=>AL (M1 a) λC fs=>fs.lookup m=Db/\∃sp,R C sp/\t U M1 λds M2=>sp (x::ds) M2 Q
 | _=>False
def U9(K:qp)(R:Uf->qY->Prop):Uf->Sp->Prop:=λC sp'=>∃sp,R C sp/\sp'=Nw K sp
def IM:∀Y H Q',lo X.K (As m R ta t) Y H Q'->Hb m (U9 X.K R) (lo X.K ta) (Wa X.K t) Y H Q':=λY H Q' zz=>x7 zz λU M Q hs hm ht k=>
 ⟨U,M,_,hs,hm,ht,λv H1 d M1 hd WA e1 q1=>by
  cases d with
  | ref a=>cases hd.mH;obtain⟨C,fs,e,q1⟩:=xY q1;obtain⟨hn,sp,hR,q⟩:=q1;obtain⟨dx,vs,h1,cl,na,fo⟩:=WA a _ e;exact⟨a,C,dx,vs,_,rfl,h1,(wR fo).2 hn,⟨sp,hR,rfl⟩,U,M1,_,hs.mono e1,WA,q,λus H2 ds M2 XS WR e2 q2=>⟨.ref a::ds,M2,Q,.cons .ref XS,WR,q2,vU (e1.trans e2) k⟩⟩
  | _=>exact q1.elim⟩
def Bl{R:Uf->qY->Prop}{pl:Sem Bool}(he:E3 X o ta)(hR:∀C sp,R C sp->xR X.prog X.w X.K X.mg X.base k m C (Nw X.K sp))(hr:rX k X.A)(ha:A3 X (e::es) t) (WV:Bg X e es:=by rfl) (WN:CC X pos es:=by rfl)
  (ht:wp (.Call (.Attribute o m WD) (e::es) [] pos) X.env=(do
   let ov<-wp o X.env
   ZU WD.atName
   let(f,first)<-xz [ov] (wS ov m pl)
   ZX pos f first (Ix pos (Tl (e::es) X.env)) (xL pos (Ps [] X.env))):=by rfl):
  E3 X (.Call (.Attribute o m WD) (e::es) [] pos) (As m R ta t):=PE.mono (MF (R:=U9 X.K R) he (λC sp' ⟨sp,h,z⟩=>by rw[z];exact hR C sp h) hr ha WV WN ht) IM
def xK{R:Uf->qY->Prop}{pl:Sem Bool}(he:E3 X o ta)(hR:∀C sp,R C sp->xR X.prog X.w X.K X.mg X.base k m C (Nw X.K sp))(hr:rX k X.A) (ht:wp (.Call (.Attribute o m WD) [] [] pos) X.env=(do
   let ov<-wp o X.env
   ZU WD.atName
   let(f,first)<-xz [ov] (wS ov m pl)
   ZX pos f first (Ix pos (Tl [] X.env)) (xL pos (Ps [] X.env))):=by rfl):
  E3 X (.Call (.Attribute o m WD) [] [] pos) (As m R ta xG):=PE.mono (JJ (R:=U9 X.K R) he (λC sp' ⟨sp,h,z⟩=>by rw[z];exact hR C sp h) hr ht) λY H Q' h=>by
 obtain⟨U,M,Q,hs,hm,ht,k⟩:=IM (t:=xG) Y H Q' h;refine⟨U,M,Q,hs,hm,ht,λv H' d M' x1 x2 x3 x4=>?_⟩;obtain⟨a,C,dx,fs,sp,e1,e2,e3,e4,δ',WC,Q'',y1,y2,y3,y4⟩:=k v H' d M' x1 x2 x3 x4;exact⟨a,C,dx,fs,sp,e1,e2,e3,e4,y4 [] H' [] WC .nil y2 .refl y3⟩
structure Ei(K:qp)(H1:Hp)(J:It)(ds:List D)(ok:Mp->Prop):Prop where
 go:∀i H M,i<ds.length->HM K H M->ok M->qO K H1 H->J.go i H
 oQ:∀i d H M x H',ds[i]?=Fa d->HM K H M->ok M->qO K H1 H->J.oQ i H x H'->rL K H' d x/\HM K H' M/\qO K H H'
 stop:∀H M,HM K H M->ok M->qO K H1 H->J.stop ds.length H
abbrev Na:=vJ->Mp->(T0 D->(Mp->Prop)->Mp->Prop)->Prop
def VW(K:qp)(wi:Na):TI:=λY H R'=>De λU M R=>zI K H Y U/\HM K H M/\wi U M R/\∀J H1 ds ok M1,Ei K H1 J ds ok->HM K H1 M1->qO K H H1->ok M1->R ds ok M1->R' J H1
def I3(X:Cx)(tg iter:Go)(wi:Na):Prop:=PI X tg iter (VW X.K wi)
def PI.mono{t t':TI}(h:PI X tg e t)(m:∀Y H Q,t' Y H Q->t Y H Q):PI X tg e t':=λWz s Y H Q I q=>h Wz s Y H Q I (m Y H Q q)
variable {H1:Hp}
def KM:Ei K H1 (UG K a) ds (λM=>oK M a=Fa ds) where
 go:=λi H M hi hm ok _=>by obtain⟨xs,h1,h2,_⟩:=pU hm ok;obtain⟨x,e,_⟩:=h2.get (cX hi);exact⟨xs,x,h1,e⟩
 oQ:=λi d H M x H' hd hm ok _ y=>by obtain⟨xs,h1,h2,_⟩:=pU hm ok;obtain⟨e,y⟩:=y;subst e;obtain⟨x',e,hx⟩:=h2.get hd;have:=y xs h1;rw[e]at this;cases this;exact⟨hx,hm,.refl⟩
 stop:=λH M hm ok _=>by obtain⟨xs,h1,h2,_⟩:=pU hm ok;exact⟨xs,h1,by rw[h2.length];exact dw _⟩
def Px(h1:ve K H1 a xs)(h2:qc K H1 ds xs):Ei K H1 (Vd K a) ds (λ_=>True) where
 go:=λi H M hi hm ok e1=>by obtain⟨x,e,_⟩:=h2.get (cX hi);exact⟨xs,x,e1.t _ _ h1,e⟩
 oQ:=λi d H M x H' hd hm ok e1 y=>by obtain⟨e,y⟩:=y;subst e;obtain⟨x',e,hx⟩:=h2.get hd;have:=y xs (e1.t _ _ h1);rw[e]at this;cases this;exact⟨hx.mono e1,hm,.refl⟩
 stop:=λH M hm ok e1=>⟨xs,e1.t _ _ h1,by rw[h2.length];exact dw _⟩
def Su(h1:NW K H1 a xs)(h2:qc K H1 ds xs):Ei K H1 (UG K a) ds (λ_=>True) where
 go:=λi H M hi hm ok e1=>by obtain⟨x,e,_⟩:=h2.get (cX hi);exact⟨xs,x,(h1.mono e1).sq,e⟩
 oQ:=λi d H M x H' hd hm ok e1 y=>by obtain⟨e,y⟩:=y;subst e;obtain⟨x',e,hx⟩:=h2.get hd;have:=y xs (h1.mono e1).sq;rw[e]at this;cases this;exact⟨hx.mono e1,hm,.refl⟩
 stop:=λH M hm ok e1=>⟨xs,(h1.mono e1).sq,by rw[h2.length];exact dw _⟩
def JF{lo:Int}:Ei K H1 (UO lo n) ((List.range n).map λi=>D.int (lo+(i:Nat))) (λ_=>True) where
 go:=λi H M hi hm ok e1=>by
  have z:i<n:=by simpa using hi
  exact z
 oQ:=λi d H M x H' hd hm ok e1 y=>by
  obtain⟨e,y⟩:=y;subst e;subst y;have hi:i<n:=by
   have:=(cZ.mp hd).1
   simpa using this
  have hd':d=D.int (lo+(i:Nat)):=by rw[dF,kz hi]at hd;exact(dv hd).symm
  subst hd';exact⟨.int,hm,.refl⟩
 stop:=λH M hm ok e1=>by show n<=_;simp
variable {scope:XV}{ix:T0 (Option Nat)}{N':QQQ}{iter Xs:Go}{Xa:T0 Go}{wi:Na}{g:D3}{tt:Az}{te:T3}{tg:Go}
def Uk(t:T3):Na:=λU M R=>t U M λx M1=>match x with
 | .tup ds=>R ds (λ_=>True) M1
 | .ref a=>(oK M1 a).elim False λds=>R ds (λM=>oK M a=Fa ds) M1
 | .rl ds=>R ds (λ_=>True) M1
 | .str z=>R (z.cps.toList.map λc=>D.str ⟨#[c]⟩) (λ_=>True) M1
 | _=>False
def NT{K:qp}:Ei K H1 (VO z) (z.cps.toList.map λc=>D.str ⟨#[c]⟩) (λ_=>True) where
 go:=λi H M hi hm ok _=>by
  show i<z.cps.size
  simpa using hi
 oQ:=λi d H M x H' hd hm ok _ y=>by obtain⟨e,c,e1,e2⟩:=y;subst e e2;rw[dF,Array.getElem?_toList,e1]at hd;cases hd;exact⟨.str,hm,.refl⟩
 stop:=λH M hm ok _=>by show _=z.cps.size;simp
def qv{t:T3}(h:E3 X l t)(hc:X.calm=pc:=by rfl):I3 X tg l (Uk t):=PI.mono (OJ hc h) λY H R' zz=>x7 zz λU M R hs hm ht k=>
 ⟨U,M,_,hs,hm,ht,λv H1 d M1 hd WA e1 q1=>by
  cases d with
  | tup ds=>obtain⟨a,xs,rfl,h1,h2⟩:=hd.mO;exact .inl ⟨a,rfl,.inr ⟨⟨xs,h1⟩,k _ H1 ds _ M1 (Px h1 h2) WA e1 trivial q1⟩⟩
  | ref a=>cases hd.mH;obtain⟨ds,e0,q⟩:=qN q1;obtain⟨xs,h1,h2,_⟩:=pU WA e0;exact .inl ⟨a,rfl,.inl ⟨⟨xs,h1⟩,k _ H1 ds _ M1 KM WA e1 e0 q⟩⟩
  | str z=>exact .inr ⟨z,hd.str_inv,k _ H1 _ _ M1 NT WA e1 trivial q1⟩
  | rl ds=>obtain⟨a,xs,rfl,h1,h2⟩:=hd.mY;exact .inl ⟨a,rfl,.inl ⟨⟨xs,h1.sq⟩,k _ H1 ds _ M1 (Su h1 h2) WA e1 trivial q1⟩⟩
  | _=>exact q1.elim⟩
def TC(t:xn):Na:=λU M R=>t U M λds M1=>match ds with
 | [.int j]=>(-(2 ^ 62)<=j/\j<2 ^ 62)/\R ((List.range j.toNat).map λi=>D.int (0+(i:Nat))) (λ_=>True) M1
 | [.int i,.int j]=>(-(2 ^ 62)<=i/\i<2 ^ 62/\-(2 ^ 62)<=j/\j<2 ^ 62)/\R ((List.range (j - i).toNat).map λn=>D.int (i+(n:Nat))) (λ_=>True) M1
 | _=>False
def wH{a:Go}{ta:xn}(hg:Gl X "range")(hm:X.mg "range"=Db)(ha:A3 X [a] ta)(hs:Tl [a] X.env=[(lf,wp a X.env)]:=by rfl):I3 X tg (.Call (.Name "range" p) [a] [] pos) (TC λU M Q=>ta U M λds M1=>ds.length=1/\Q ds M1):=
 PI.mono (Kt hg hm ha hs) λY H R' zz=>x7 zz λU M R hs hm ht k=>⟨U,M,_,hs,hm,ht,λvs H1 ds M1 hd WA e1 q1=>by
  obtain⟨hl,q1⟩:=q1;split at q1
  .obtain⟨v,rfl,hv⟩:=rA hd;cases hv.int_inv;exact⟨_,rfl,q1.1.1,q1.1.2,k _ H1 _ _ M1 JF WA e1 trivial q1.2⟩
  .simp at hl
  .exact q1.elim⟩
def E7(g:D3)(tb:xu)(ok:Mp->Prop)(E:Gg):T0 D->vJ->Mp->Prop
 | [],U,M=>E.nx U M
 | d::r,U,M=>g d U M λδ2 M2=>tb {E with nx:=λδ' M'=>ok M'/\E7 g tb ok E r δ' M',ct:=λδ' M'=>ok M'/\E7 g tb ok E r δ' M',bk:=E.nx} δ2 M2
def RH(wi:Na)(g:D3)(tb:xu):xu:=λE U M=>wi U M λds ok M1=>E7 g tb ok E ds U M1
def sT{tb:xu}(hp:PassesOwn (Tk X.prog X.w) X.A X.env X.xe)(hc:X.calm=pc)(hi:I3 X tg iter wi)(hg:G3 X tg g)(hb:GX X body tb) (hs:∀x,ZR iter X.env x=pure x:=by intro _;rfl):S3 X (.For tg iter body [] pos) (RH wi g tb):=PS.mono (Ri hp hc hi hg hb hs) λD' Y H zz=>Kv zz λU M E hs hm ht k1 k2 k3 k4=>
 ⟨U,M,_,hs,hm,ht,λJ H1 ds ok M1 S WA e1 YO q1=>by
  refine⟨λi m σ' H'=>m=ds.length - i/\i<=ds.length/\∃δ' M',zI X.K H' σ' δ'/\HM X.K H' M'/\ok M'/\qO X.K H1 H'/\σ'.length=Y.length/\E7 g tb ok E (ds.drop i) δ' M',⟨ds.length,by simp,eZ _,U,M1,hs.mono e1,WA,YO,.refl,rfl,by simpa using q1⟩,?_⟩
  rintro i m σ' H' ⟨rfl,hi,δ',M',Y8,X9,ZD,e',l',q'⟩
  by_cases WP:i<ds.length
  .rw[il WP]at q';refine .inr ⟨S.go i H' M' WP X9 ZD e',λσ2 H2=>∃δ2 M2,zI X.K H2 σ2 δ2/\HM X.K H2 M2/\ok M2/\qO X.K H1 H2/\σ2.length=Y.length/\E7 g tb ok E (ds.drop (i+1)) δ2 M2,λσ2 H2 z=>⟨ds.length - (i+1),by omega,rfl,WP,z⟩,λx H2 y=>?_⟩;obtain⟨hx,WR,e2⟩:=S.oQ i ds[i] H' M' x H2 (cX WP) X9 ZD e' y;refine⟨ds[i],δ',M',_,hx,Y8.mono e2,WR,q',λσ3 H3 δ3 M3 x1 x2 x3 x4 x5=>?_⟩;refine⟨δ3,M3,_,x1,x2,x5,λσ4 H4 δ4 M4 y1 y2 y3 y4 y5=>?_,λv H4 d M4 y1 y2 y3 y4=>?_,λσ4 H4 δ4 M4 y1 y2 y3 y4 y5=>?_,λσ4 H4 δ4 M4 y1 y2 y3 y4 y5=>?_⟩
   .exact⟨δ4,M4,y1,y2,y5.1,e'.trans (e2.trans (x3.trans y3)),by rw[y4,x4,l'],y5.2⟩
   .exact k2 v H4 d M4 y1 y2 (e1.trans (e'.trans (e2.trans (x3.trans y3)))) y4
   .exact k1 σ4 H4 δ4 M4 y1 y2 (e1.trans (e'.trans (e2.trans (x3.trans y3)))) (by rw[y4,x4,l']) y5
   .exact⟨δ4,M4,y1,y2,y5.1,e'.trans (e2.trans (x3.trans y3)),by rw[y4,x4,l'],y5.2⟩
  .have e:i=ds.length:=by omega
   subst e;rw[jE]at q';exact .inl ⟨S.stop H' M' X9 ZD e',k1 σ' H' δ' M' Y8 X9 (e1.trans e') l' q'⟩⟩
def NO(ix:T0 (Option Nat))(U:vJ):vJ:=ix.map λo=>o.bind λi=>(U[i]?).join
def Os{K:qp}(h:zI K H Y U):zI K H (NB ix Y) (NO ix U):=λi d q=>by
 unfold NO at q;unfold NB;rw[dF]at q ⊢;cases e:ix[i]? with
 | none=>rw[e]at q;cases q
 | some o=>
  rw[e]at q;cases o with
  | none=>cases q
  | some j=>
   have q':(U[j]?).join=Fa d:=dv q;have e4:U[j]?=Fa (Fa d):=by
    cases r:U[j]? with
    | none=>rw[r]at q';cases q'
    | some w=>rw[r]at q';exact eR Fa q'
   obtain⟨v,e5,hv⟩:=h j d e4;refine⟨v,?_,hv⟩;show Fa ((Y[j]?).join)=Fa (Fa v);rw[e5];rfl
def uX(g:D3)(tt:Az)(te:T3)(ok:Mp->Prop)(Q:DK):T0 D->T0 D->vJ->Mp->Prop
 | [],acc,_,M=>acc.length<=Ch/\∀p,M p=Db->Q (.ref p) (pB M p (.lst acc))
 | d::r,acc,U,M=>acc.length<Ch/\g d U M λδ2 M2=>tt δ2 M2 λb M3=>if b=pc then te δ2 M3 λy M4=>ok M4/\uX g tt te ok Q r (acc++[y]) δ2 M4 else ok M3/\uX g tt te ok Q r acc δ2 M3
def Lv(ix:T0 (Option Nat))(wi:Na)(g:D3)(tt:Az)(te:T3):T3:=λU M Q=>wi U M λds ok M1=>uX g tt te ok Q ds [] (NO ix U) M1
def F3(X:Cx)(Xa:T0 Go)(t:Az):Prop:=PF X Xa (SM X.K t)
def PF.mono{e:T0 Go}{t t':TT}(h:PF X e t)(m:∀Y H Q,t' Y H Q->t Y H Q):PF X e t':=λWz s Y H Q I q=>h Wz s Y H Q I (m Y H Q q)
def Cy:Az:=λ_ M Q=>Q pc M
def rP:F3 X [] Cy:=PF.mono RJ λY H Q' zz=>x7 zz λU M Q hs hm ht k=>k pc H M hm .refl ht
def uQ{t:Az}(h:B3 X c t):F3 X [c] t:=Sr h
def Jf:∀Y H Q',lo X.K (Lv ix wi g tt te) Y H Q'->Mq ix (VW X.K wi) (UL X.K g) (SM X.K tt) (lo X.K te) Y H Q':=λY H Q' zz=>x7 zz λU M Q hs hm ht k=>
 ⟨U,M,_,hs,hm,ht,λJ H1 ds ok M1 S WA e1 YO q1=>by
  refine⟨λi m ys σ' H'=>m=ds.length - i/\i<=ds.length/\∃δ' M' acc,zI X.K H' σ' δ'/\HM X.K H' M'/\qc X.K H' acc ys/\ok M'/\qO X.K H1 H'/\uX g tt te ok Q (ds.drop i) acc δ' M',⟨ds.length,by simp,eZ _,NO ix U,M1,[],Os (hs.mono e1),WA,.nil,YO,.refl,by simpa using q1⟩,?_⟩
  rintro i m ys σ' H' ⟨rfl,hi,δ',M',acc,Y8,X9,Yg,ZD,e',q'⟩
  by_cases WP:i<ds.length
  .rw[il WP]at q';obtain⟨hz,q'⟩:=q';refine .inr ⟨S.go i H' M' WP X9 ZD e',by rw[<-Yg.length];exact hz,λx H2 y=>?_⟩;obtain⟨hx,WR,e2⟩:=S.oQ i ds[i] H' M' x H2 (cX WP) X9 ZD e' y;refine⟨ds[i],δ',M',_,hx,Y8.mono e2,WR,q',λσ3 H3 δ3 M3 x1 x2 x3 x4 x5=>?_⟩;refine⟨δ3,M3,_,x1,x2,x5,λb H4 M4 y2 y3 y5=>?_⟩;cases b with
   | true=>rw[dh rfl]at y5 ⊢;refine⟨δ3,M4,_,x1.mono y3,y2,y5,λv H5 d M5 z1 z2 z3 z4=>⟨ds.length - (i+1),by omega,rfl,WP,δ3,M5,acc++[d],x1.mono (y3.trans z3),z2,(Yg.mono (e2.trans (x3.trans (y3.trans z3)))).snoc z1,z4.1,e'.trans (e2.trans (x3.trans (y3.trans z3))),z4.2⟩⟩
   | false=>rw[de dC]at y5 ⊢;exact⟨ds.length - (i+1),by omega,rfl,WP,δ3,M4,acc,x1.mono y3,y2,Yg.mono (e2.trans (x3.trans y3)),y5.1,e'.trans (e2.trans (x3.trans y3)),y5.2⟩
  .have e:i=ds.length:=by omega
   subst e;rw[jE]at q';refine .inl ⟨S.stop H' M' X9 ZD e',by rw[<-Yg.length];exact q'.1,λp hp=>?_⟩;have e5:qO X.K H' (upd H' p (.lst ys)):=.new hp;exact k _ _ _ _ .ref (X9.new (c:=.lst acc) hp ⟨_,pY,Yg.mono e5⟩) (e1.trans (e'.trans e5)) (q'.2 p (X9.fresh hp))⟩
def qE(hc:X.calm=pc)(S:r6 X scope ix N')(hi:I3 X tg iter wi)(hg:∀{C s0 H0 ex},G3 (X.comp scope N' C s0 H0 ex) tg g)(ht:∀{C s0 H0 ex},F3 (X.comp scope N' C s0 H0 ex) Xa tt)(he:∀{C s0 H0 ex},E3 (X.comp scope N' C s0 H0 ex) Xs te) (hs:∀x,ZR iter X.env x=pure x:=by intro _;rfl):E3 X (.ListComp Xs [⟨tg,iter,Xa,0⟩] scope pos) (Lv ix wi g tt te):=PE.mono (PB (g:=UL X.K g) (tt:=SM X.K tt) (te:=lo X.K te) hc S hi (λ_ _ _ _=>hg) (λ_ _ _ _=>ht) (λ_ _ _ _=>he) hs) Jf
def uE{i:Nat}{x:Str}{px Yp:Pos}(hN:X.N.Nodup)(hix:X.N[i]?=Fa x)(hx:Nq X.env.scope x)(hc:X.calm=pc)(S:r6 X scope ix N')(hi:I3 X tg iter wi)(hg:∀{C s0 H0 ex},G3 (X.comp scope N' C s0 H0 ex) tg g)(ht:∀{C s0 H0 ex},F3 (X.comp scope N' C s0 H0 ex) Xa tt) (he:∀{C s0 H0 ex},E3 (X.comp scope N' C s0 H0 ex) Xs te) (X8:TD (.ListComp Xs [⟨tg,iter,Xa,0⟩] scope pos) (Fa (.Name x px)) Yp.line X.env=pure pc:=by rfl)
  (hf:Ln X x:=by first|exact .inl rfl|exact .inr rfl|assumption) (hs:∀x,ZR iter X.env x=pure x:=by intro _;rfl):
  S3 X (.Assign [.Name x px] (.ListComp Xs [⟨tg,iter,Xa,0⟩] scope pos) Yp) (yr (Lv ix wi g tt te) (rT i)):=PS.nN (Hk (g:=UL X.K g) (tt:=SM X.K tt) (te:=lo X.K te) hN hix hx hc S hi (λ_ _ _ _=>hg) (λ_ _ _ _=>ht) (λ_ _ _ _=>he) X8 hf hs) λD' Y H hl zz=>Kv zz λU M D hs hm ht k1 k2 k3 k4=>
 Jf Y H _ ⟨U,M,_,hs,hm,ht,λv H1 d M1 hd WA e1 q1=>k1 _ H1 _ M1 ((hs.mono e1).set hd (by rw[hl];exact(cZ.mp hix).1)) WA e1 (by simp) q1⟩
def V7(hr:rX k A):A.units+9<wP:=by have:=hr.units;omega
def G1(sc:XV)(N:QQQ)(scope:XV)(ix:T0 (Option Nat))(N':QQQ):Bool:=
 (scope.kind==.function)&&(scope.names.all λy=>!(y.2==.cell))&&(scope.names.all λy=>!(y.2==.local)||(scope.names.lookup y.1==Fa .local))&&
 (scope.names.all λy=>!(y.2==.free)||(sc.names.lookup y.1==Fa .cell)||(sc.names.lookup y.1==Fa .free))&&(ix.length==N'.length)&&
 ((ix.zip N').all λp=>match p.1 with|none=>pc|some i=>(N[i]?==Fa p.2)&&(scope.names.lookup p.2==Fa .free))
def Uh{X:Cx}(h:G1 X.env.scope X.N scope ix N'=pc):r6 X scope ix N':=by
 unfold G1 at h;simp only[dY]at h;obtain⟨⟨⟨⟨⟨h1,h2⟩,h3⟩,h4⟩,h5⟩,h6⟩:=h;refine⟨by simpa using h1,λy hy e=>?_,λy hy e=>?_,λy hy e=>?_,by simpa using h5,λj i x e1 e2=>?_⟩
 .have:=eU.mp h2 y hy;rw[e]at this;simp at this
 .have:=eU.mp h3 y hy;rw[e]at this
  simpa using this
 .have:=eU.mp h4 y hy;rw[e]at this
  simpa using this
 .have hm:(Fa i,x)∈ix.zip N':=by
   have:(ix.zip N')[j]?=Fa (Fa i,x):=by rw[List.getElem?_zip_eq_some];exact⟨e1,e2⟩
   exact fY this
  have:=eU.mp h6 _ hm
  simpa using this
section
variable {a b:Go}
def IA(op Xq:CmpOp)(ta tb tc:T3):T3:=λU M Q=>ta U M λx M1=>tb U M1 λy M2=>OQ op x y M2 λz M3=>match z with
 | .bl k=>if k=pc then tc U M3 λw M4=>OQ Xq y w M4 Q else Q (.bl lf) M3
 | _=>False
def ur{op Xq:CmpOp}(hu:X.A.units+9<wP)(ha:E3 X a ta)(hb:E3 X b tb)(hc:E3 X c tc)(hmk:lastMarks [op,Xq] [b,c]=lf:=by rfl):
  E3 X (.Compare a [op,Xq] [b,c] pos) (IA op Xq ta tb tc):=PE.mono (LP (J6 op hu) (J6 Xq hu) ha hb hc hmk) λY H Q' zz=>x7 zz λU M Q hs hm ht k=>
 ⟨U,M,_,hs,hm,ht,λv H1 x M1 hx WA e1 q1=>⟨U,M1,_,hs.mono e1,WA,q1,λu H2 y M2 hy WR e2 q2=>⟨x,y,M2,_,hx.mono e2,hy,WR,q2,λw H3 z M3 hz Xu e3 q3=>by
  cases z with
  | bl c=>
   refine⟨c,hz.mI,?_⟩;cases c with
   | true=>refine(dh rfl).mpr ⟨U,M3,_,hs.mono (e1.trans (e2.trans e3)),Xu,(dh rfl).mp q3,λw' H4 d M4 hd hm4 e4 q4=>⟨y,d,M4,Q,hy.mono (e3.trans e4),hd,hm4,q4,vU (e1.trans (e2.trans (e3.trans e4))) k⟩⟩
   | false=>exact(de dC).mpr (k _ H3 _ M3 .bl Xu (e1.trans (e2.trans e3)) ((de dC).mp q3))
  | _=>exact q3.elim⟩⟩⟩
def FQ{op Xq:CmpOp}(hu:X.A.units+9<wP)(ha:E3 X a ta)(hb:E3 X b tb)(hc:E3 X c tc)(hmk:lastMarks [op,Xq] [b,c]=lf:=by rfl):
  B3 X (.Compare a [op,Xq] [b,c] pos) (b3 (IA op Xq ta tb tc)):=PT.mono (Lr (J6 op hu) (J6 Xq hu) ha hb hc hmk) λY H Q' zz=>x7 zz λU M Q hs hm ht k=>
 ⟨U,M,_,hs,hm,ht,λv H1 x M1 hx WA e1 q1=>⟨U,M1,_,hs.mono e1,WA,q1,λu H2 y M2 hy WR e2 q2=>⟨x,y,M2,_,hx.mono e2,hy,WR,q2,λw H3 z M3 hz Xu e3 q3=>by
  cases z with
  | bl c=>
   refine⟨c,hz.mI,?_⟩;cases c with
   | true=>
    refine(dh rfl).mpr ⟨U,M3,_,hs.mono (e1.trans (e2.trans e3)),Xu,(dh rfl).mp q3,λw' H4 d M4 hd hm4 e4 q4=>⟨y,d,M4,_,hy.mono (e3.trans e4),hd,hm4,q4,λw5 H5 d5 M5 hd5 hm5 e5 q5=>?_⟩⟩;cases d5 with
    | bl c5=>exact⟨c5,hd5.mI,k c5 H5 M5 hm5 (e1.trans (e2.trans (e3.trans (e4.trans e5)))) q5⟩
    | _=>exact q5.elim
   | false=>exact(de dC).mpr ⟨lf,rfl,k lf H3 M3 Xu (e1.trans (e2.trans e3)) ((de dC).mp q3)⟩
  | _=>exact q3.elim⟩⟩⟩
structure Vt(K:qp)(C:Uf):Prop where
 ha:W.findIn K (.ref C) "__class__"=Fa (Fa (.builtin "object.__class__"))
 hn:W.specialIn K (.builtin "object.__class__") "__get__"=Fa (Fa (.builtin "getset_descriptor.__get__"))
 htk:W.takesIn K (.builtin "object.__class__")=Fa pc
 hm:W.mroIn K C (.type "object")=Fa pc
def Ng:Option uR->Option Vl
 | some (.lst _)=>Fa (.type "list")
 | some (.ins C _)=>Fa (.ref C)
 | some (.dk _)=>Fa (.type "dict")
 | some (.exc _)=>Db
 | none=>Db
def Wk(M:Mp):D->Option Vl
 | .mL=>Fa (.type "NoneType")
 | .bl _=>Fa (.type "bool")
 | .int _=>Fa (.type "int")
 | .str _=>Fa (.type "str")
 | .tup _=>Fa (.type "tuple")
 | .ref a=>Ng (M a)
 | .ty _=>Db
 | .rl _=>Fa (.type "list")
def VC:D->Option Vl
 | .ref C=>Fa (.ref C)
 | .ty n=>Fa (.type n)
 | _=>Db
def Qj(K:qp)(ds:T0 D)(M:Mp)(Q:DK):Prop:=match ds with
 | [x,c]=>(Wk M x).elim False λt=>(VC c).elim False λcv=>(∀C,t=.ref C->Vt K C)/\(W.kitOne K t cv).elim False λb=>Q (.bl b) M
 | _=>False
def Js:C3 X (.builtin "isinstance") (Qj X.K):=by
 intro Wz s Y H vs us Q' I rv h;obtain⟨ds,M,Q,hd,hm,q,k⟩:=h;unfold Qj at q;split at q
 .rename_i x c;obtain⟨v,u,rfl,hv,hw⟩:=Ba hd;obtain⟨t,et,q⟩:=qN q;obtain⟨cv,ec,hC,q⟩:=qN q;obtain⟨b,eb,qb⟩:=qN q;obtain⟨uv,uw,rfl,YQ,rv2⟩:=Io rv;have ecv:uw=cv:=by
   cases c with
   | ref C=>cases hw.mH;cases ec;exact rv2
   | ty n=>cases hw.nQ;cases ec;exact rv2
   | _=>cases ec
  subst ecv;have WB:∀tk,EP X Wz Y Q' (.bool b) {s with toks:=tk}:=λtk=>⟨.bl b,H,I.tok tk,rfl,k _ _ _ _ .bl hm .refl qb⟩;cases x with
  | mL=>cases hv.mJ;cases et;exact uF I YQ .mL eb WB
  | bl y=>cases hv.mI;cases et;exact uF I YQ (.bl y) eb WB
  | int y=>cases hv.int_inv;cases et;exact uF I YQ (.int y) eb WB
  | str y=>cases hv.str_inv;cases et;exact uF I YQ (.str y) eb WB
  | tup ds=>obtain⟨a,xs,rfl,h1,h2⟩:=hv.mO;cases et;cases YQ;obtain⟨its,r,p,_⟩:=I.tuple h1;obtain⟨o,g1,g2,_⟩:=p;exact gx W.kitx_tuple I.m7 ⟨o,g1,g2⟩ eb (λz=>nomatch z) WB
  | ref a=>
   cases hv.mH;have et:Ng (M a)=Fa t:=et;cases e:M a with
   | none=>rw[e]at et;cases et
   | some cell=>
    rw[e]at et;have ok:=hm a cell e;cases cell with
    | lst ds=>cases et;obtain⟨xs,e1,_⟩:=ok;exact uF I YQ (.lst e1) eb WB
    | ins C fs=>cases et;obtain⟨dx,vs,e1,cl,_⟩:=ok;obtain⟨i1,i2,i3,i4⟩:=hC C rfl;exact uF I YQ (.ins e1 cl i1 i2 i3 i4) eb WB
    | dk kvs=>cases et;obtain⟨vs,e1,_⟩:=ok;exact uF I YQ (.dK e1) eb WB
    | exc C=>cases et
  | ty n=>cases et
  | rl ds=>obtain⟨p,xs,rfl,h1,h2⟩:=hv.mY;cases et;cases YQ;obtain⟨its,r,⟨o,n,g1,g2,_⟩,_⟩:=I.list h1.sq;exact gx lz I.m7 ⟨o,g1,g2⟩ eb (λz=>nomatch z) WB
 .exact q.elim
def Gy:T0 D->Option (T0 Bool)
 | []=>Fa []
 | .bl b::r=>(Gy r).map (b::·)
 | _::_=>Db
theorem Ej{K:qp}:∀{ds:T0 D} {bs:T0 Bool} {xs:T0 V} {us:T0 Vl},Gy ds=Fa bs->qc K H ds xs->qA xs us->us=bs.map Value.bool
 | [],bs,xs,us,e,h,r=>by cases e;have:=h.nil_inv;subst this;cases r;rfl
 | d::ds,bs,xs,us,e,h,r=>by
  cases d with
  | bl b=>
   obtain⟨y,ys,rfl,h1,h2⟩:=h.inv;cases h1.mI;unfold Gy at e;cases q:Gy ds with
   | none=>rw[q]at e;cases e
   | some cs=>
    rw[q]at e;cases e;cases r with
    | cons r1 r2=>cases r1;rw[Ej q h2 r2];rfl
  | _=>cases e
def Tb(ds:T0 D)(M:Mp)(Q:DK):Prop:=match ds with
 | [.ref a]=>(oK M a).elim False λes=>(Gy es).elim False λbs=>Q (.bl (bs.all id)) M
 | _=>False
def ET(hc:X.calm=pc):C3 X (.builtin "all") Tb:=by
 intro Wz s Y H vs us Q' I rv h;obtain⟨ds,M,Q,hd,hm,q,k⟩:=h;unfold Tb at q;split at q
 .rename_i a;obtain⟨v,rfl,hv⟩:=rA hd;obtain⟨es,e0,q⟩:=qN q;obtain⟨bs,e1,q⟩:=qN q;cases hv.mH;obtain⟨u,rfl,ru⟩:=wA rv;cases ru;obtain⟨xs,h1,h2,_⟩:=pU hm e0;obtain⟨its,r,pl,hz⟩:=I.list h1;have ZE:=Ej e1 h2 r;subst ZE;have WZ:a≠s.heap.objs.size:=by obtain⟨o,_,e,_⟩:=pl;exact dQ (dE e)
  refine call_all_walk (g9 pl.isList ?_);refine⟨s.heap.objs.size,_,_,_,_,_,λi=>(bs[i]?).getD pc,rfl,kg (A:=X.A.in1) (I.ok.hd hc) _ a WZ (bs.map Value.bool).toArray,⟨⟨_,dI _ rfl,rfl,rfl⟩,?_⟩,λi v s' Q E hP hQ=>?_,λh' tk hk=>?_⟩
  .obtain⟨o,n,e,c,d,q⟩:=pl;exact⟨o,df _ e,c,n,q⟩
  .simp only[iJ,dF]at hP;cases e2:bs[i]? with
   | none=>rw[e2]at hP;cases hP
   | some b=>rw[e2]at hP;cases hP;have hQ:Q ((bs[i]?).getD pc) s':=hQ;rw[e2]at hQ;exact fu hQ
  .have ea:(List.range (bs.map Value.bool).toArray.size).all (λi=>(bs[i]?).getD pc)=bs.all id:=by
    rw[dA,cV];rw[fH,eU,eU];constructor
    .intro z b hb;obtain⟨i,hi,e⟩:=fM hb;have:=z i (gz.mpr hi);rw[cX hi,e]at this;exact this
    .intro z i hi;have X3:=gz.mp hi;rw[cX X3];exact z _ (ic X3)
   rw[ea];refine⟨.bl (bs.all id),H,?_,rfl,k _ _ _ _ .bl hm .refl q⟩;exact I.kept (h':=h') (t':=tk) λb o e=>hk b o (by simpa using dQ (dE e)) (df _ e)
 .exact q.elim
def AN(x:D):T0 D->Option Nat
 | []=>Db
 | d::r=>if On d x=pc then Fa 0 else(AN x r).map (·+1)
theorem Ii{K:qp}{e:D}{w:V}(g:rL K H e w)(fe:uU e=pc):∀{ds:T0 D} {xs:T0 V} {us:T0 Vl} {j:Nat},qc K H ds xs->qA xs us->ds.all uU=pc->AN e ds=Fa j->
  ∃h:j<us.length,Fk w us[j]=pc/\∀m (hm:m<us.length),m<j->Fk w us[m]=lf
 | [],_,_,_,_,_,_,q=>by cases q
 | d::ds,_,us,j,h,r,fl,q=>by
  obtain⟨y,ys,rfl,h1,h2⟩:=h.inv;rw[fS,dY]at fl;cases r with
  | @cons _ u _ us' r1 r2=>
   have eu:Fk w u=On d e:=by rw[G7 r1 (yV h1 fl.1),IY h1 g fl.1 fe]
   unfold AN at q;by_cases hq:On d e=pc
   .rw[dh hq]at q;cases q;exact⟨by simp,by simpa [eu]using hq,λm _ hm=>absurd hm (Nat.not_lt_zero m)⟩
   .rw[de hq]at q;cases q2:AN e ds with
    | none=>rw[q2]at q;cases q
    | some j'=>
     rw[q2]at q;cases q;obtain⟨hl,e1,e2⟩:=Ii g fe h2 r2 fl.2 q2;refine⟨by simpa using hl,by simpa using e1,λm hm WP=>?_⟩;cases m with
     | zero=>simpa [eu]using hq
     | succ m=>simpa using e2 m (by simpa using hm) (by have z:m+1<j'+1:=WP;omega)
def Rr(x:D)(ds:T0 D)(M:Mp)(Q:DK):Prop:=match x,ds with
 | .ref a,[y]=>(oK M a).elim False λes=>uU y=pc/\es.all uU=pc/\(AN y es).elim False λj=>Q (.int (j:Nat)) M
 | _,_=>False
def M3(X:Cx)(id:String)(r:D->T0 D->Mp->DK->Prop):Prop:=V6 X id λvx vs H Q'=>∃x ds M Q,rL X.K H x vx/\qc X.K H ds vs/\HM X.K H M/\r x ds M Q/\Up X.K H Q' Q
def Ms:M3 X "list.index" Rr:=by
 intro Wz s Y H vx vs v us Q' I rx rv h;obtain⟨x,ds,M,Q,hx,hd,hm,q,k⟩:=h;unfold Rr at q;split at q
 .rename_i a y;obtain⟨es,e0,f1,f2,q⟩:=qN q;obtain⟨j,e1,q⟩:=qN q;cases hx.mH;cases rx;obtain⟨w,rfl,hw⟩:=rA hd;obtain⟨u,rfl,ru⟩:=wA rv;obtain⟨xs,h1,h2,rd⟩:=pU hm e0;obtain⟨hz,its,n,r,g⟩:=rd.ok I.mQ;obtain⟨hl,p1,p2⟩:=Ii hw f1 h2 r f2 e1;have hlz:its.length<=Ch:=by rw[<-r.length];exact hz
  have h63:=yH;refine js F.slot_list_index ⟨_,g,rfl⟩ F.entry_list_index (F.args_list_index_2 _ _) (SeqAt.list_indexAt a its.toArray n Db #[] u (Fk w) j (by simpa using hl) (by omega) (by simpa using p1) λm hm WP=>by simpa using p2 m (by simpa using hm) WP) ⟨g,?_,?_⟩
  .intro z hz';exact wn ru (yV hw f1) r (ER h2 f2) z (by simpa using hz')
  .exact⟨.int (j:Nat),H,I.tok _,⟨_,rfl⟩,k _ _ _ _ .int hm .refl q⟩
 .exact q.elim
def Qq(M:Mp):D->Prop
 | .ref a=>(oK M a).isSome=pc
 | _=>False
def VR(r:D->T0 D->Mp->DK->Prop)(to:T3)(t:xn):T3:=λU M Q=>to U M λx M1=>Qq M1 x/\t U M1 λds M2=>r x ds M2 Q
def QQ{K:qp}{x:D}(hm:HM K H M)(h:rL K H x v)(l:Qq M x):UZ K "list" v H:=by
 cases x with
 | ref a=>cases h.mH;obtain⟨ds,e⟩:=io.mp (show(oK M a).isSome=pc from l);obtain⟨xs,h1,_⟩:=pU hm e;exact .inl ⟨rfl,xs,h1⟩
 | _=>exact l.elim
def Qf{id:String}(slot:Slot "list" name id)(hty:typeOf (.builtin id)=pure (.type "method_descriptor"))(hm:M3 X id r)(ho:E3 X o ta)(ha:A3 X (e::es) t) (WU:sK o name X.env (wp o X.env)=wp o X.env:=by rfl)
  (XT:((Ix pos (Tl (e::es) X.env)).all (λx=>!x.1)&&(xL pos (Ps [] X.env)).all (λx=>x.1.isSome)
   &&decide ((e::es).length+([]:T0 ZV).length+(if ([]:T0 ZV).isEmpty then 0 else 1)<30))=pc:=by rfl)
  (W8:(WD.endLine==pos.line)=pc:=by rfl) (hs:Bg X e es:=by rfl) (WQ:CC X pos es:=by rfl):
  E3 X (.Call (.Attribute o name WD) (e::es) [] pos) (VR r ta t):=PE.mono (S5 PySem.F.plainAttrs_list slot hty hm ho ha WU XT W8 hs WQ) λY H Q' zz=>x7 zz λU M Q hs hm ht k=>
 ⟨U,M,_,hs,hm,ht,λv H1 x M1 hx WA e1 q1=>⟨QQ WA hx q1.1,U,M1,_,hs.mono e1,WA,q1.2,λvs H2 ds M2 XS WR e2 q2=>⟨x,ds,M2,Q,hx.mono e2,XS,WR,q2,vU (e1.trans e2) k⟩⟩⟩
def xU(ho:E3 X o ta)(ha:A3 X (e::es) t) (WU:sK o "index" X.env (wp o X.env)=wp o X.env:=by rfl)
  (XT:((Ix pos (Tl (e::es) X.env)).all (λx=>!x.1)&&(xL pos (Ps [] X.env)).all (λx=>x.1.isSome)
   &&decide ((e::es).length+([]:T0 ZV).length+(if ([]:T0 ZV).isEmpty then 0 else 1)<30))=pc:=by rfl)
  (W8:(WD.endLine==pos.line)=pc:=by rfl) (hs:Bg X e es:=by rfl) (WQ:CC X pos es:=by rfl):
  E3 X (.Call (.Attribute o "index" WD) (e::es) [] pos) (VR Rr ta t):=Qf PySem.F.slot_list_index PySem.F.type_list_index Ms ho ha WU XT W8 hs WQ
structure Li(K:qp)(C:Uf)(m:Str)(f:Uf):Prop where
 hg:W.specialIn K (.ref C) "__getattribute__"=Fa (Fa (.builtin "type.__getattribute__"))
 rd:W.readsIn K C (.type "type")=pc
 fc:W.findCls K (.ref C) (.type "type") m=Fa (.val (.ref f))
def Py{sp:Sp}{t:TA}{pl:Sem Bool}(cm:Li X.K C m f)(F:xp X.prog X.w X.K X.mg X.base Nt k f fd ps sp)(hr:rX k X.A)(hg:Gl X x)(hm:X.mg x=Fa (.ref C))(hk:W.keepIn X.K (.ref f)=pc)(hb:uM X.K fd ps [])(ha:PA X (e::es) t) (WS:yR x:=by decide) (WV:Bg X e es:=by rfl) (WN:CC X pos es:=by rfl)
  (ht:wp (.Call (.Attribute (.Name x p) m WD) (e::es) [] pos) X.env=(do
   let ov<-wp (.Name x p) X.env
   ZU WD.atName
   let(f,first)<-xz [ov] (wS ov m pl)
   ZX pos f first (Ix pos (Tl (e::es) X.env)) (xL pos (Ps [] X.env))):=by rfl):
  PE X (.Call (.Attribute (.Name x p) m WD) (e::es) [] pos) (λY H Q=>t Y H λvs H1=>sp vs H1 Q E0):=by
 intro Wz s Y H Q I h;refine jS (pl:=pl) (xc I hg hm ?_ WS) ht;refine W.method_cls I.m7 cm.hg (W.cls_value I.m7 cm.rd cm.fc rfl ?_);refine iL (first:=[]) (h₀:=X.base) I.ok.mod.og hk (sy (ha pos Wz _ Y H _ (I.tok _) h) λus s2 zz=>x5 zz λvs H2 I2 r q2=>⟨I2.m7,?_⟩) WV WN;exact EY F hr hb .nil (GS (X:=X)) I2 r (by rw[e9];exact q2)
def Nz{pl:Sem Bool}(cm:Li X.K C m f)(F:SK X.prog X.w X.K X.mg X.base k f fd ps sp)(hr:rX k X.A)(hg:Gl X x)(hm:X.mg x=Fa (.ref C))(hk:W.keepIn X.K (.ref f)=pc)(hb:uM X.K fd ps [])(ha:A3 X (e::es) t) (WS:yR x:=by decide) (WV:Bg X e es:=by rfl) (WN:CC X pos es:=by rfl)
  (ht:wp (.Call (.Attribute (.Name x p) m WD) (e::es) [] pos) X.env=(do
   let ov<-wp (.Name x p) X.env
   ZU WD.atName
   let(f,first)<-xz [ov] (wS ov m pl)
   ZX pos f first (Ix pos (Tl (e::es) X.env)) (xL pos (Ps [] X.env))):=by rfl):
  E3 X (.Call (.Attribute (.Name x p) m WD) (e::es) [] pos) (Do sp t):=PE.mono (Py cm F hr hg hm hk hb ha WS WV WN ht) λY H Q' zz=>x7 zz λU M Q hs hm ht k=>
 ⟨U,M,_,hs,hm,ht,λvs H1 ds M1 hd WA e1 q1=>⟨ds,M1,Q,hd,WA,q1,vU e1 k⟩⟩
def qh:zn "len"=Fa (.builtin "len"):=by decide+kernel
def QC:zn "min"=Fa (.builtin "min"):=by decide+kernel
def Sx:zn "max"=Fa (.builtin "max"):=by decide+kernel
def Dg:zn "isinstance"=Fa (.builtin "isinstance"):=by decide+kernel
def Eg:zn "all"=Fa (.builtin "all"):=by decide+kernel
def uO:zn "tuple"=Fa (.type "tuple"):=by decide+kernel
def tD:zn "list"=Fa (.type "list"):=by decide+kernel
def RP:zn "int"=Fa (.type "int"):=by decide+kernel
def Pa:zn "bool"=Fa (.type "bool"):=by decide+kernel
def EM:zn "dict"=Fa (.type "dict"):=by decide+kernel
def EH:zn "enumerate"=Fa (.type "enumerate"):=by decide+kernel
def KZ:zn "zip"=Fa (.type "zip"):=by decide+kernel
end
theorem _root_.L2.Inv.drawn{ch:QXQ}{T:Uf}{xs:T0 V}{h':No}{tk:Nat}(I:Inv X Wz Y H s)(Xx:∀b∈ch,zN X Wz H b)(k:∀b o,b∉ch->s.heap.get? b=Fa o->h'.get? b=Fa o)(hT:s.heap.objs.size<=T)(hx:xs.length<=Ch) (rv:qA xs its) (ht:Ed h' T its.toArray):Inv X Wz Y (upd H T (.tup xs)) {s with heap:=h',toks:=tk}:=by
 have Yt:H T=Db:=I.mQ.fresh hT;have nT:∀b o,s.heap.get? b=Fa o->b≠T:=λb o e=>dQ (dS (dE e) hT);refine I.step (g':=s.gens) (d':=s.drawn) (ch:=ch) (λb hb=>⟨(Xx b hb).2.2.2.1,(Xx b hb).2.1,(Xx b hb).2.2.2.2.1,(Xx b hb).2.2.2.2.2⟩) (λb o _ _ hc e _=>k b o hc e) (λb o _ _ hc e _=>⟨o.slots,k b o hc e⟩) (λb o _ e n=>by rw[pS (nT b o e)];exact n)
  (λb o hc e=>⟨o,k b o hc e⟩) (λb ys e=>by rw[pS (qP e Yt)];exact e) (λb o u e=>by rw[pS (qP e Yt)];exact e) (λb ps e=>⟨#[],by rw[pS (qP e Yt),e];simp⟩) (λm hm=>?_) (λb u e=>?_) I.bare
 .obtain⟨o,es,ep,ho,r⟩:=hm;exact⟨o,es,ep,k _ o (λz=>(Xx _ z).2.1 rfl) ho,r⟩
 .by_cases hb:b=T
  .subst hb;rw[pY]at e;cases e;exact⟨hx,its,rv,ht⟩
  .rw[pS hb]at e;refine(I.mQ b u e).ni (λc v hc q=>k c v (λz=>?_) q) (λc q=>by rw[pS (qP q Yt)];exact q) (λc ys q=>by rw[pS (qP q Yt)];exact q);have n:=(Xx c z).1;rcases hc with y|y
   .rw[y,e]at n;cases n
   .rw[y]at n;cases n
def UW(K:qp)(a:Uf):It:=
 ⟨λi H=>∃xs x,w9 K H a xs/\xs[i]?=Fa x,λi H x H'=>∃p y,x=.ref p/\H p=Db/\H'=upd H p (.tup [.int (i:Nat),y])/\∀xs,w9 K H a xs->xs[i]?=Fa y,λi H=>∃xs,w9 K H a xs/\xs.length<=i⟩
def J2{K:qp}(a e it:Uf)(hei:e≠it):E5 P w K (.Tuple WY n tp) (UW K a) [e,it] e (λi h=>(∃Xi,IsEnum h e it (i:Nat) Xi)/\h.IsListIter it a i) where
 mem:=by simp
 obj:=λi h st b hb=>by
  obtain⟨⟨Xi,he⟩,o,e1,c,d⟩:=st;rcases c9.mp hb with rfl|hb
  .exact⟨_,he,λv z=>by cases z⟩
  .rw[dg.mp hb];exact⟨o,e1,λv z=>by rw[d]at z;cases z⟩
 keep:=λi h h' st k=>by obtain⟨⟨Xi,he⟩,hi⟩:=st;exact⟨⟨Xi,k e (by simp) _ he⟩,hi.at λo q=>k it (by simp) o q⟩
 item:=by
  intro X hP hw hK hc i Wz s Y H E I hf st hg;subst hP hw hK;obtain⟨xs,x,hq,hx⟩:=hg;obtain⟨its,rv,p,hz⟩:=I.list hq;obtain⟨u,hu,ru⟩:=rv.get hx;obtain⟨⟨Xi,he⟩,hi⟩:=st;refine wpAny_pyNext_enum_item he hi p.isList (x:=u) (by simpa using hu) hei λh1 ho Yh hT hsz hk=>?_;refine⟨_,rfl,wpAny_letOwnedTupleGo_enum ho λh2 he2 XH=>?_⟩;have helt:e<s.heap.objs.size:=dE he;have hilt:it<s.heap.objs.size:=by obtain⟨o,q,_⟩:=hi;exact dE q
  have kk:∀b o,b∉[e,it]->s.heap.get? b=Fa o->h2.get? b=Fa o:=λb o hb q=>(XH.2 b λz=>hb (by simp[z])).trans (hk b o (λz=>hb (by simp[z])) (λz=>hb (by simp[z])) q);have hT2:h2.get? s.heap.objs.size=Fa {cls:=.type "tuple",data:=.seq #[.int (i:Nat) s.toks,u]}:=(XH.2 _ (gC helt)).trans hT;have Yt:H s.heap.objs.size=Db:=I.mQ.fresh (dw _);have I2:=I.drawn (ch:=[e,it]) (T:=s.heap.objs.size) (xs:=[.int (i:Nat),x]) (its:=[.int (i:Nat) s.toks,u]) (h':=h2) (tk:=s.toks+1) hf kk (dw _) (by show 2<=Ch;decide) (.cons ⟨_,rfl⟩ (.cons ru .nil)) ⟨_,hT2,rfl,⟨_,rfl⟩,rfl⟩;refine⟨.ref s.heap.objs.size,_,I2,rfl,⟨_,x,rfl,Yt,rfl,λys hy=>by rw[I.nu hy hq];exact hx⟩,⟨⟨_,by simpa using he2⟩,Yh.extBut XH.extBut (dG hei)⟩,λb hb=>?_⟩;have Xe:b<s.heap.objs.size:=by
   rcases c9.mp hb with z|z
   .rw[z];exact helt
   .rw[dg.mp z];exact hilt
  rw[pS (dQ Xe)];exact(hf b hb).1
 done:=by intro X hP hw hK hc i Wz s Y H E I hf st hg;subst hP hw hK;obtain⟨xs,hq,hx⟩:=hg;obtain⟨its,rv,p,hz⟩:=I.list hq;obtain⟨⟨Xi,he⟩,hi⟩:=st;have hl:=rv.length;obtain⟨f0,f1,f2,f3,f4,f5⟩:=hf it (by simp);exact wpAny_pyNext_enum_end (I.ok.hd hc) he hi p.isList (by simp;omega) λh' eb=>⟨rfl,I.turned (t':=s.toks) (λb o hb q=>eb b o hb q) f0 f1 f3 f4 f5⟩
 self:=λ_ _ _ _ _ st h=>by obtain⟨⟨Xi,he⟩,_⟩:=st;exact lu he h
variable {tp:Pos}{WY:T0 Go}{n:Nat}
def OR{a:Go}{ta:TA}(hg:Gl X "enumerate")(hm:X.mg "enumerate"=Db)(ha:PA X [a] ta)(hs:Tl [a] X.env=[(lf,wp a X.env)]:=by rfl):
  PI X (.Tuple WY n tp) (.Call (.Name "enumerate" p) [a] [] pos) (λY H R=>ta Y H λvs H1=>∃l,vs=[.ref l]/\(∃xs,w9 X.K H1 l xs)/\R (UW X.K l) H1):=by
 intro Wz s Y H R I h;refine Call_ (xb I hg hm EH (fP (sy (ha pos Wz s Y H _ I h) λus s1 zz=>x5 zz λvs H1 I1 r1 q1=>?_) hs rfl));obtain⟨l,e,⟨xs,hq⟩,q⟩:=q1;subst e;obtain⟨u,rfl,ru⟩:=wA r1;cases ru;obtain⟨its,rv,pl,hz⟩:=I1.list hq;refine call_enumerate_list pl.isList λh' he hi hsz hk=>?_;refine lu he ?_;have I2:Inv X Wz Y H1 {s1 with heap:=h'}:=I1.kept (t':=s1.toks) hk;refine⟨s1.heap.objs.size+1,[s1.heap.objs.size+1,s1.heap.objs.size],_,_,H1,rfl,I2,J2 l _ _ (Nat.succ_ne_self _),⟨⟨_,he⟩,hi⟩,λb hb=>?_,q⟩;have Xe:s1.heap.objs.size<=b:=by
  rcases c9.mp hb with z|z
  .rw[z];exact gX _
  .rw[dg.mp z];exact dw _
 exact I1.nP Xe (I1.mQ.fresh Xe)
def ug:Nat->T0 D->T0 D
 | _,[]=>[]
 | i,d::r=>.tup [.int (i:Nat),d]::ug (i+1) r
theorem zt:∀{ds:T0 D} {i j:Nat},(ug j ds)[i]?=(ds[i]?).map λd=>D.tup [.int ((j+i:Nat):Int),d]
 | [],i,j=>by simp[ug]
 | d::r,0,j=>by simp[ug]
 | d::r,i+1,j=>by show(ug (j+1) r)[i]?=_;rw[zt];simp only[List.getElem?_cons_succ];rw[show j+1+i=j+(i+1)by omega]
theorem vv:∀{ds:T0 D} {j:Nat},(ug j ds).length=ds.length
 | [],j=>rfl
 | d::r,j=>by simp[ug,vv]
def Ls{K:qp}:Ei K H1 (UW K a) (ug 0 ds) (λM=>oK M a=Fa ds) where
 go:=λi H M hi hm ok _=>by rw[vv]at hi;obtain⟨xs,h1,h2,_⟩:=pU hm ok;obtain⟨x,e,_⟩:=h2.get (cX hi);exact⟨xs,x,h1,e⟩
 oQ:=λi d H M x H' hd hm ok _ y=>by
  obtain⟨xs,h1,h2,_⟩:=pU hm ok;obtain⟨p,z,rfl,hp,rfl,y⟩:=y;rw[zt]at hd;cases e:ds[i]? with
  | none=>rw[e]at hd;cases hd
  | some d'=>rw[e]at hd;cases hd;obtain⟨x',e',hx⟩:=h2.get e;have w1:=y xs h1;rw[e']at w1;have w2:x'=z:=dv w1;subst w2;have ex:qO K H (upd H p (.tup [.int (i:Nat),x'])):=.new hp;refine⟨.tup (.of pY) (.cons (by rw[mq];exact .int) (.cons (hx.mono ex) .nil)),hm.add hp,ex⟩
 stop:=λH M hm ok _=>by obtain⟨xs,h1,h2,_⟩:=pU hm ok;exact⟨xs,h1,by rw[vv,h2.length];exact dw _⟩
def Ss(t:xn):Na:=λU M R=>t U M λds M1=>match ds with
 | [.ref a]=>(oK M1 a).elim False λes=>R (ug 0 es) (λM=>oK M a=Fa es) M1
 | _=>False
def vg{a:Go}{ta:xn}(hg:Gl X "enumerate")(hm:X.mg "enumerate"=Db)(ha:A3 X [a] ta)(hs:Tl [a] X.env=[(lf,wp a X.env)]:=by rfl):I3 X (.Tuple WY n tp) (.Call (.Name "enumerate" p) [a] [] pos) (Ss ta):=
 PI.mono (OR hg hm ha hs) λY H R' zz=>x7 zz λU M R hs hm ht k=>⟨U,M,_,hs,hm,ht,λvs H1 ds M1 hd WA e1 q1=>by
  split at q1
  .obtain⟨v,rfl,hv⟩:=rA hd;cases hv.mH;obtain⟨es,e0,q⟩:=qN q1;obtain⟨xs,h1,h2,_⟩:=pU WA e0;exact⟨_,rfl,⟨xs,h1⟩,k _ H1 _ _ M1 Ls WA e1 e0 q⟩
  .exact q1.elim⟩
variable {prog:Pg}{A:Ar}{E:QQX}
def He{it t:Uf}{i:Nat}{its:Array Vl}{x:Vl}{Q:QQX}(hi:s.heap.IsTupleIter it t i)(ht:s.heap.IsTuple t its)(hx:its[i]?=Fa x) (hQ:∀g,g.IsTupleIter it t (i+1)->Heap.SameBut it s.heap g->Q x {s with heap:=g}):pi (Tk prog w) A (Builtin.SmallTypes.nextOf (.ref it)) Q E s:=by
 obtain⟨ob,e1,e2,e3⟩:=id hi;obtain⟨ot,e4,_,nt,e5⟩:=ht;unfold Builtin.SmallTypes.nextOf;refine cW (fQ (name:=Str.ofString "__next__") hi.typeIs gK (gh gK hi.typeIs jg ?_ (jb _)));show pi (Tk prog w) _ (field (.ref it) 0>>=_) _ _ s;refine cW (fm e1 e3 (x:=.ref t) rfl ?_);show pi (Tk prog w) _ (if (Value.ref t==Value.none)=pc then _ else _) _ _ s;rw[de (show ¬(Value.ref t==Value.none)=pc from dC)];show pi (Tk prog w) _ (field (.ref it) 1>>=_) _ _ s;refine cW (fm e1 e3 (x:=.int i 0) rfl ?_);show pi (Tk prog w) _ (seqItems? (.ref t)>>=_) _ _ s;refine cW (gB e4 e5 ?_);simp only[jm,hx];refine cW (hZ e1 e3 (by simp) (dz ⟨x,rfl,dz (hQ _ ⟨_,fO _ e1 (Obj.isFreed_of_fields (kS e3 _)),(Obj.cls_mapFields ..).trans e2,?_⟩ (kA ..))⟩));rw[kS e3];simp[wT]
def B6{it t:Uf}{i:Nat}{its:Array Vl}{Q:QQX}(hh:A.handled=Db)(hi:s.heap.IsTupleIter it t i)(ht:s.heap.IsTuple t its)(hx:its[i]?=Db) (hE:∀g e,Heap.ExtBut it s.heap g->(∃o,g.get? e=Fa o/\o.cls=.type "StopIteration")->E (.ref e) {s with heap:=g}):pi (Tk prog w) A (Builtin.SmallTypes.nextOf (.ref it)) Q E s:=by
 obtain⟨ob,e1,e2,e3⟩:=id hi;obtain⟨ot,e4,_,nt,e5⟩:=ht;unfold Builtin.SmallTypes.nextOf;refine cW (fQ (name:=Str.ofString "__next__") hi.typeIs gK (gh gK hi.typeIs jg ?_ (jb _)));show pi (Tk prog w) _ (field (.ref it) 0>>=_) _ _ s;refine cW (fm e1 e3 (x:=.ref t) rfl ?_);show pi (Tk prog w) _ (if (Value.ref t==Value.none)=pc then _ else _) _ _ s;rw[de (show ¬(Value.ref t==Value.none)=pc from dC)];show pi (Tk prog w) _ (field (.ref it) 1>>=_) _ _ s;refine cW (fm e1 e3 (x:=.int i 0) rfl ?_);show pi (Tk prog w) _ (seqItems? (.ref t)>>=_) _ _ s;refine cW (gB e4 e5 ?_);simp only[jm,hx];refine cW (ke (cW (hZ e1 e3 (by simp) ?_)));show pi (Tk prog w) _ (newExc (.type "StopIteration") []>>=_) _ _ _;refine cW ?_;simp only[newExc,newTuple];refine cW (fZ ?_ (by size_fits));refine cW (m:=firstArgMember _ _) (wpAny_of_eq (a:=Value.none) (by first|rfl|(simp only[firstArgMember];rfl)) ?_);refine fZ ?_ (by size_fits);simp only[raiseNew];refine cW (wpAny_handled ?_)
 first|rw[show A.in1.handled=Db from hh]|rw[hh]
 refine cW (dz (wpAny_throw (hE _ _ (((kA ..).extBut.push _).push _) ⟨_,dI _ rfl,rfl⟩)))
def yc{prog:Pg}{w:Wo}{A:Ar}(hh:A.handled=Db)(it t:Uf)(WZ:t≠it)(its:Array Vl):
  Draws prog w A it [it,t] its.size (λi v=>its[i]?=Fa v) (λi h=>h.IsTupleIter it t i/\h.IsTuple t its) where
 live:=λi h st=>let⟨o,ho,_⟩:=st.1;⟨o,ho⟩
 frame:=λi h g st hk=>by obtain⟨⟨o,e1,e2⟩,⟨o',e3,e4⟩⟩:=st;exact⟨⟨o,hk it (by simp) o e1,e2⟩,⟨o',hk t (by simp) o' e3,e4⟩⟩
 item:=λi s Q E hi st hQ=>He st.1 st.2 (x:=its[i]) (by simp[hi]) λg hg hs=>hQ _ g s.toks (by simp[hi]) ⟨hg,st.2.extBut hs.extBut WZ⟩ hs
 done:=λs Q E st hE=>B6 hh st.1 st.2 (by simp) hE
structure xy(z TI TO i1 i2:Uf)(f1 f2:QXQ):Prop where
 a1:TI≠z
 a2:TO≠z
 a3:i1≠z
 a4:i2≠z
 a5:TI≠TO
 a6:TI≠i1
 a7:TI≠i2
 a8:TO≠i1
 a9:TO≠i2
 oX:i1≠i2
 b1:z∉f1
 b2:TO∉f1
 b3:i2∉f1
 c1:z∉f2
 c2:TO∉f2
 c3:i1∉f2
variable {z TI TO i1 i2:Uf}{f1 f2:QXQ}{n1 n2 k1 k2:Nat}{P1 P2:Nat→Vl→Prop}{S1 S2:Nat→No→Prop}
section
variable {a b:Vl}
def rZ{St:Nat->No->Prop}(Dr:Draws prog w A it fp n Pt St){i:Nat}{h g:No}{c:Uf}(st:St i h)(hs:Heap.SameBut c h g)(hc:c∉fp):St i g:=
 Dr.frame _ _ _ st λd hd o e=>(hs.2 d λq=>hc (q ▸ hd)).trans e
def JW{Q:QQX}(D1:Draws prog w A i1 f1 n1 P1 S1)(D2:Draws prog w A i2 f2 n2 P2 S2)(WO:xy z TI TO i1 i2 f1 f2)(hz:Z0 s.heap z TI TO .none)(hI:ZB s.heap TI (.ref i1) (.ref i2))(hO:ZB s.heap TO a b) (Xf:S1 k1 s.heap) (WW:S2 k2 s.heap) (l1:k1<n1) (l2:k2<n2) (hQ:∀x y g tk,P1 k1 x->P2 k2 y->Z0 g z TI TO (wT s.heap.objs.size)->ZB g TO x y->S1 (k1+1) g->S2 (k2+1) g->ZB g s.heap.objs.size x y->g.objs.size=s.heap.objs.size+1->
   (∀c o,c≠z->c≠TO->c≠i1->c≠i2->s.heap.get? c=Fa o->g.get? c=Fa o)->Q (.ref s.heap.objs.size) {s with heap:=g,toks:=tk}):
  pi (Tk prog w) A (Builtin.«zip.__next__» ⟨[.ref z],[]⟩) (λWB s'=>∃v,WB=.done (.ret v)/\Q v s') E s:=by
 show pi (Tk prog w) A (field (.ref z) 2>>=_) _ _ _;refine cW (fm hz rfl (x:=.bool lf) rfl ?_);show pi (Tk prog w) A (field (.ref z) 3>>=_) _ _ _;refine cW (fm hz rfl (x:=.ref TI) rfl (cW (gB hI rfl ?_)));show pi (Tk prog w) A (Builtin.SmallTypes.ownedTupleIsFree (.ref z)>>=_) _ _ _;refine cW ?_;unfold Builtin.SmallTypes.ownedTupleIsFree;refine cW (fm hz rfl (x:=.none) rfl (dz ?_));simp only[iZ];refine cW (ke (cW (fm hz rfl (x:=.ref TO) rfl (cW (gF hz (by simp) λg1 z1 Yu=>?_)))));replace z1:Z0 g1 z TI TO .ellipsis:=z1;refine cW ?_;simp only[lN,lW,jO,jZ];refine cW (cW (jk ?_));show pi (Tk prog w) A (Builtin.SmallTypes.nextOf (.ref i1)>>=_) _ _ _;have Yv:S1 k1 g1:=rZ D1 Xf Yu WO.b1;refine cW (D1.item k1 _ _ _ l1 Yv λx g2 tk2 px st1b XA=>dz ?_);replace XA:Heap.SameBut i1 g1 g2:=XA;have o2:ZB g2 TO a b:=XA.extBut _ _ WO.a8 (Yu.extBut _ _ WO.a2 hO);refine cW (gB o2 rfl (cW (iP o2 λg3 o3 XI=>?_)));replace o3:ZB g3 TO x b:=o3;replace XI:Heap.SameBut TO g2 g3:=XI;refine cW (lB (dz (cW (cW (jk ?_)))));show pi (Tk prog w) A (Builtin.SmallTypes.nextOf (.ref i2)>>=_) _ _ _;have YR:S2 k2 g3:=rZ D2 (rZ D2 (rZ D2 WW Yu WO.c1) XA WO.c3) XI WO.c2;refine cW (D2.item k2 _ _ _ l2 YR λy g4 tk4 py st2b YB=>dz ?_);replace YB:Heap.SameBut i2 g3 g4:=YB;have o4:ZB g4 TO x b:=YB.extBut _ _ WO.a9 o3;refine cW (gB o4 rfl (cW (iP o4 λg5 o5 YC=>?_)));replace o5:ZB g5 TO x y:=o5;replace YC:Heap.SameBut TO g4 g5:=YC;refine cW (lB (dz (dz (cW (gB o5 rfl (cW (wpAny_newTuple ?_)))))));have esz:g5.objs.size=s.heap.objs.size:=by rw[YC.1,YB.1,XI.1,XA.1,Yu.1]
 have z5:Z0 g5 z TI TO .ellipsis:=YC.extBut _ _ WO.a2.symm (YB.extBut _ _ WO.a4.symm (XI.extBut _ _ WO.a2.symm (XA.extBut _ _ WO.a3.symm z1)));have kp:∀c o,c≠z->c≠TO->c≠i1->c≠i2->s.heap.get? c=Fa o->g5.get? c=Fa o:=λc o q1 q2 q3 q4 q=>YC.extBut _ _ q2 (YB.extBut _ _ q4 (XI.extBut _ _ q2 (XA.extBut _ _ q3 (Yu.extBut _ _ q1 q))));have st1c:S1 (k1+1) g5:=rZ D1 (rZ D1 (rZ D1 st1b XI WO.b2) YB WO.b3) YC WO.b2;have st2c:S2 (k2+1) g5:=rZ D2 st2b YC WO.c2;have zlt:z<g5.objs.size:=dE z5;show pi (Tk prog w) A (Builtin.SmallTypes.ownedTupleHandOut (.ref z) (.ref g5.objs.size)>>=_) _ _ _;refine cW ?_;unfold Builtin.SmallTypes.ownedTupleHandOut;have z6:Z0 (g5.push {cls:=.type "tuple",data:=.seq #[x,y]}) z TI TO .ellipsis:=df _ z5;refine cW (gF z6 (by simp) λg7 z7 sb7=>?_);replace z7:Z0 g7 z TI TO (wT g5.objs.size):=z7;refine gF z7 (by simp) λg8 z8 sb8=>?_;replace z8:Z0 g8 z TI TO (wT g5.objs.size):=z8;have up:∀c o,c≠z->g5.get? c=Fa o->g8.get? c=Fa o:=λc o q1 q=>sb8.extBut _ _ q1 (sb7.extBut _ _ q1 (df _ q));have tu:ZB g8 g5.objs.size x y:=sb8.extBut _ _ (gC zlt) (sb7.extBut _ _ (gC zlt) (dI _ rfl));have es8:g8.objs.size=g5.objs.size+1:=by rw[sb8.1,sb7.1,fz]
 rw[esz]at z8 tu es8;refine dz ⟨_,rfl,?_⟩;show Q (.ref g5.objs.size) _;rw[esz];exact hQ x y g8 _ px py z8 (up _ _ WO.a2 o5) (D1.frame _ _ _ st1c λc hc o q=>up c o (λr=>WO.b1 (r ▸ hc)) q) (D2.frame _ _ _ st2c λc hc o q=>up c o (λr=>WO.c1 (r ▸ hc)) q) tu es8 λc o q1 q2 q3 q4 q=>up c o q1 (kp c o q1 q2 q3 q4 q)
def K8{Q:Fin->Sd->Prop}(D1:Draws prog w A i1 f1 n1 P1 S1)(D2:Draws prog w A i2 f2 n2 P2 S2)(WO:xy z TI TO i1 i2 f1 f2)(hz:Z0 s.heap z TI TO .none)(hI:ZB s.heap TI (.ref i1) (.ref i2))(hO:ZB s.heap TO a b) (Xf:S1 k1 s.heap) (WW:S2 k1 s.heap) (ZF:k1=n1\/(k1<n1/\k1=n2)) (hE:∀g e,(∀c o,c≠z->c≠TO->c≠i1->c≠i2->s.heap.get? c=Fa o->g.get? c=Fa o)->(∃o,g.get? e=Fa o/\o.cls=.type "StopIteration")->∀tk,E (.ref e) {s with heap:=g,toks:=tk}):
  pi (Tk prog w) A (Builtin.«zip.__next__» ⟨[.ref z],[]⟩) Q E s:=by
 show pi (Tk prog w) A (field (.ref z) 2>>=_) _ _ _;refine cW (fm hz rfl (x:=.bool lf) rfl ?_);show pi (Tk prog w) A (field (.ref z) 3>>=_) _ _ _;refine cW (fm hz rfl (x:=.ref TI) rfl (cW (gB hI rfl ?_)));show pi (Tk prog w) A (Builtin.SmallTypes.ownedTupleIsFree (.ref z)>>=_) _ _ _;refine cW ?_;unfold Builtin.SmallTypes.ownedTupleIsFree;refine cW (fm hz rfl (x:=.none) rfl (dz ?_));simp only[iZ];refine cW (ke (cW (fm hz rfl (x:=.ref TO) rfl (cW (gF hz (by simp) λg1 z1 Yu=>?_)))));replace z1:Z0 g1 z TI TO .ellipsis:=z1;refine cW ?_;simp only[lN,lW,jO,jZ];refine cW (cW (jk ?_));show pi (Tk prog w) A (Builtin.SmallTypes.nextOf (.ref i1)>>=_) _ _ _;have Yv:S1 k1 g1:=rZ D1 Xf Yu WO.b1;rcases ZF with he|⟨WP,he⟩
 .rw[he]at Yv;refine cW (D1.done _ _ _ Yv λg2 e XA hx=>?_);obtain⟨oe,g,ZG⟩:=hx;have z2:Z0 g2 z TI TO .ellipsis:=XA _ _ WO.a3.symm z1;have hez:e≠z:=λq=>by subst q;rw[z2]at g;cases g;simp at ZG
  exact gF z2 (by simp) λg3 _ XI=>hE g3 e (λc o q1 _ q3 _ q=>XI.extBut _ _ q1 (XA _ _ q3 (Yu.extBut _ _ q1 q))) ⟨oe,XI.extBut _ _ hez g,ZG⟩ _
 .refine cW (D1.item k1 _ _ _ WP Yv λx g2 tk2 px st1b XA=>dz ?_);replace XA:Heap.SameBut i1 g1 g2:=XA;have o2:ZB g2 TO a b:=XA.extBut _ _ WO.a8 (Yu.extBut _ _ WO.a2 hO);refine cW (gB o2 rfl (cW (iP o2 λg3 o3 XI=>?_)));replace XI:Heap.SameBut TO g2 g3:=XI;refine cW (lB (dz (cW (cW (jk ?_)))));show pi (Tk prog w) A (Builtin.SmallTypes.nextOf (.ref i2)>>=_) _ _ _;have YR:S2 k1 g3:=rZ D2 (rZ D2 (rZ D2 WW Yu WO.c1) XA WO.c3) XI WO.c2;rw[he]at YR;refine cW (D2.done _ _ _ YR λg4 e YB hx=>?_);obtain⟨oe,g,ZG⟩:=hx;have z4:Z0 g4 z TI TO .ellipsis:=YB _ _ WO.a4.symm (XI.extBut _ _ WO.a2.symm (XA.extBut _ _ WO.a3.symm z1));have hez:e≠z:=λq=>by subst q;rw[z4]at g;cases g;simp at ZG
  exact gF z4 (by simp) λg5 _ YC=>hE g5 e (λc o q1 q2 q3 q4 q=>YC.extBut _ _ q1 (YB _ _ q4 (XI.extBut _ _ q2 (XA.extBut _ _ q3 (Yu.extBut _ _ q1 q))))) ⟨oe,YC.extBut _ _ hez g,ZG⟩ _
end
abbrev UJ(h:No)(t:Uf):No:=h.push {cls:=.type "tuple_iterator",data:=.fields #[.ref t,.int 0 0]}
abbrev UR(h:No)(t u:Uf):No:=(UJ h t).push {cls:=.type "tuple_iterator",data:=.fields #[.ref u,.int 0 0]}
abbrev UK(h:No)(t u:Uf):No:=(UR h t u).push {cls:=.type "tuple",data:=.seq #[.ref h.objs.size,.ref (UJ h t).objs.size]}
abbrev UM(h:No)(t u:Uf):No:=(UK h t u).push {cls:=.type "tuple",data:=.seq #[.none,.none]}
abbrev SQ(h:No)(t u:Uf):No:=(UM h t u).push {cls:=.type "zip",data:=.fields #[.none,.bool lf,.bool lf,.ref (UR h t u).objs.size,.ref (UK h t u).objs.size]}
def Dc(t u:Uf)(xs ys:Array Vl):
  Meets (Builtin.«zip.__new__» ⟨[.type "zip",.ref t,.ref u],[]⟩) (λ_ R s=>s.heap.IsTuple t xs/\s.heap.IsTuple u ys/\R (.ok (.ret (.ref (UM s.heap t u).objs.size))) {s with heap:=SQ s.heap t u}):=
 .of_wp λprog w A R s h=>by
  obtain⟨hp,g,d,tk,os⟩:=s;obtain⟨e1,e2,h⟩:=h;have Yq:=sub_zip;have q1:Heap.IsTuple (Shared.heap ⟨hp,g,d,tk,os⟩) t xs:=e1;have q2:Heap.IsTuple (Shared.heap ⟨hp.push {cls:=.type "tuple_iterator",data:=.fields #[.ref t,.int 0 0]},g,d,tk,os⟩) u ys:=Heap.IsTuple.push e2 _
  wp_walk using iy q1,iy q2
  exact⟨_,rfl,h⟩
def EC{t u:Uf}{xs ys:Array Vl}{Q:QQX}(ht:s.heap.IsTuple t xs)(hu:s.heap.IsTuple u ys) (h:∀g,Z0 g (s.heap.objs.size+4) (s.heap.objs.size+2) (s.heap.objs.size+3) .none->ZB g (s.heap.objs.size+2) (.ref s.heap.objs.size) (.ref (s.heap.objs.size+1))->ZB g (s.heap.objs.size+3) .none .none->
   g.IsTupleIter s.heap.objs.size t 0->g.IsTupleIter (s.heap.objs.size+1) u 0->(∀c o,s.heap.get? c=Fa o->g.get? c=Fa o)->Q (.ref (s.heap.objs.size+4)) {s with heap:=g}):
  pi (Tk prog w) A (call (.type "zip") [.ref t,.ref u]) Q E s:=by
 refine callType_new F.called_zip (by decide) (F.typeCall_zip_2 _ _) (F.newCall_zip_2 _ _) (λobj=>F.args_object_init_3 obj _ _) F.entry_zip_new (Dc t u xs ys) ⟨ht,hu,?_⟩;have m1:(UJ s.heap t).objs.size=s.heap.objs.size+1:=fz ..;have m2:(UR s.heap t u).objs.size=s.heap.objs.size+2:=by rw[fz,m1]
 have m3:(UK s.heap t u).objs.size=s.heap.objs.size+3:=by rw[fz,m2]
 have m4:(UM s.heap t u).objs.size=s.heap.objs.size+4:=by rw[fz,m3]
 have up:∀{h:No} {c:Uf} {o p:Obj},h.get? c=Fa o->(h.push p).get? c=Fa o:=λq=>df _ q;have r5:(SQ s.heap t u).get? (UM s.heap t u).objs.size=Fa _:=dI _ rfl;have r4:(SQ s.heap t u).get? (UK s.heap t u).objs.size=Fa _:=up (dI _ rfl);have r3:(SQ s.heap t u).get? (UR s.heap t u).objs.size=Fa _:=up (up (dI _ rfl));have r2:(SQ s.heap t u).get? (UJ s.heap t).objs.size=Fa _:=up (up (up (dI _ rfl)));have r1:(SQ s.heap t u).get? s.heap.objs.size=Fa _:=up (up (up (up (dI _ rfl))));show _/\_;rw[m2,m3,m4]at r5;rw[m1,m2]at r3;rw[m3]at r4;rw[m1]at r2;rw[m4];exact⟨⟨_,r5,rfl⟩,h _ r5 r3 r4 ⟨_,r1,rfl,rfl⟩ ⟨_,r2,rfl,rfl⟩ λc o q=>up (up (up (up (up q))))⟩
def Ap{z TI TO i1 i2:Uf}{n1 n2 k:Nat}{P1 P2:Nat->Vl->Prop}{S1 S2:Nat->No->Prop}{Q:Option Vl->Sd->Prop}(D1:Draws prog w A.in1 i1 f1 n1 P1 S1)(D2:Draws prog w A.in1 i2 f2 n2 P2 S2)(WO:xy z TI TO i1 i2 f1 f2) (hz:Z0 s.heap z TI TO .none) (hI:ZB s.heap TI (.ref i1) (.ref i2)) (hO:ZB s.heap TO a b) (Xf:S1 k s.heap) (WW:S2 k s.heap) (l1:k<n1) (l2:k<n2) (hQ:∀x y g tk,P1 k x->P2 k y->Z0 g z TI TO (wT s.heap.objs.size)->ZB g TO x y->S1 (k+1) g->S2 (k+1) g->ZB g s.heap.objs.size x y->g.objs.size=s.heap.objs.size+1->
   (∀c o,c≠z->c≠TO->c≠i1->c≠i2->s.heap.get? c=Fa o->g.get? c=Fa o)->Q (Fa (.ref s.heap.objs.size)) {s with heap:=g,toks:=tk}):pi (Tk prog w) A (pyNext (.ref z)) Q E s:=by
 have hT:s.TypeIs (.ref z) "zip":=⟨_,hz,rfl⟩;unfold pyNext;refine cW (wpAny_attempt (fQ (name:=Str.ofString "__next__") hT iQ (gh iQ hT lO ?_ (lw _))));exact JW D1 D2 WO hz hI hO Xf WW l1 l2 λx y g tk q1 q2 q3 q4 q5 q6 q7 q8 q9=>dz (hQ x y g tk q1 q2 q3 q4 q5 q6 q7 q8 q9)
def xk{z TI TO i1 i2:Uf}{n1 n2 k:Nat}{P1 P2:Nat->Vl->Prop}{S1 S2:Nat->No->Prop}{Q:Option Vl->Sd->Prop}(D1:Draws prog w A.in1 i1 f1 n1 P1 S1)(D2:Draws prog w A.in1 i2 f2 n2 P2 S2)(WO:xy z TI TO i1 i2 f1 f2) (hz:Z0 s.heap z TI TO .none) (hI:ZB s.heap TI (.ref i1) (.ref i2)) (hO:ZB s.heap TO a b) (Xf:S1 k s.heap) (WW:S2 k s.heap) (ZF:k=n1\/(k<n1/\k=n2)) (hQ:∀g tk,(∀c o,c≠z->c≠TO->c≠i1->c≠i2->s.heap.get? c=Fa o->g.get? c=Fa o)->Q Db {s with heap:=g,toks:=tk}):pi (Tk prog w) A (pyNext (.ref z)) Q E s:=by
 have hT:s.TypeIs (.ref z) "zip":=⟨_,hz,rfl⟩;unfold pyNext;refine cW (wpAny_attempt (fQ (name:=Str.ofString "__next__") hT iQ (gh iQ hT lO (K8 D1 D2 WO hz hI hO Xf WW ZF λg e kp hx tk=>?_) (lw _))));obtain⟨o,e1,e2⟩:=hx;exact cW (wpAny_isInstance (T:="StopIteration") (b:=true) ⟨o,e1,e2⟩ isSubtype_stop (dz (hQ g tk kp)))
def EN(I:Inv X Wz Y H s)(f:zN X Wz H b)(q:ve X.K H a xs):a≠b:=by
 rintro rfl
 rcases q with q|⟨o,its,n,hk,_⟩
 .have z:=f.1;rcases q with q|⟨u,q⟩<;>(rw[q]at z;cases z)
 .have e:=I.mod.og a o hk;rcases f.2.2.2.1 with z|z
  .exact I.ok.nK a o e z
  .exact absurd (dS (dE e) (eh I.ok.nW z)) (eX _)
def Vx(K:qp)(a b:Uf):It:=
 ⟨λi H=>∃xs ys x y,ve K H a xs/\ve K H b ys/\xs[i]?=Fa x/\ys[i]?=Fa y,λi H v H'=>∃p x y,v=.ref p/\H p=Db/\H'=upd H p (.tup [x,y])/\(∀xs,ve K H a xs->xs[i]?=Fa x)/\(∀ys,ve K H b ys->ys[i]?=Fa y),λi H=>∃xs ys,ve K H a xs/\ve K H b ys/\i=min xs.length ys.length⟩
def LN{P:Pg}{w:Wo}{K:qp}{WY:T0 Go}{n:Nat}{tp:Pos}(a b z TI TO i1 i2:Uf)(a1:TI≠z)(a2:TO≠z)(a3:i1≠z)(a4:i2≠z)(a5:TI≠TO)(a6:TI≠i1)(a7:TI≠i2)(a8:TO≠i1)(a9:TO≠i2)(oX:i1≠i2):
  E5 P w K (.Tuple WY n tp) (Vx K a b) [z,TI,TO,i1,i2] z (λi h=>Z0 h z TI TO .none/\ZB h TI (.ref i1) (.ref i2)/\(∃u v,ZB h TO u v)/\h.IsTupleIter i1 a i/\h.IsTupleIter i2 b i) where
 mem:=by simp
 obj:=λi h st c hc=>by
  obtain⟨h1,h2,⟨u,v,h3⟩,⟨o4,h4,_,d4⟩,⟨o5,h5,_,d5⟩⟩:=st;simp only[c9,dq,d9]at hc;rcases hc with rfl|rfl|rfl|rfl|rfl
  .exact⟨_,h1,λv z=>by cases z⟩
  .exact⟨_,h2,λv z=>by cases z⟩
  .exact⟨_,h3,λv z=>by cases z⟩
  .exact⟨_,h4,λv z=>by rw[d4]at z;cases z⟩
  .exact⟨_,h5,λv z=>by rw[d5]at z;cases z⟩
 keep:=λi h h' st k=>by obtain⟨h1,h2,⟨u,v,h3⟩,⟨o4,h4,c4⟩,⟨o5,h5,c5⟩⟩:=st;exact⟨k z (by simp) _ h1,k TI (by simp) _ h2,⟨u,v,k TO (by simp) _ h3⟩,⟨o4,k i1 (by simp) _ h4,c4⟩,⟨o5,k i2 (by simp) _ h5,c5⟩⟩
 item:=by
  intro X hP hw hK hc i Wz s Y H E I hf st hg;subst hP hw hK;obtain⟨xs,ys,x,y,hx,hy,ex,ey⟩:=hg;obtain⟨its,rx,px,_⟩:=I.tuple hx;obtain⟨Xz,ry,py,_⟩:=I.tuple hy;obtain⟨u,eu,ru⟩:=rx.get ex;obtain⟨v,ev,rv⟩:=ry.get ey;obtain⟨h1,h2,⟨p,q,h3⟩,h4,h5⟩:=st;have hh:X.A.in1.handled=Db:=I.ok.hd hc;have fa:∀c∈[z,TI,TO,i1,i2],a≠c:=λc hc=>EN I (hf c hc) hx;have fb:∀c∈[z,TI,TO,i1,i2],b≠c:=λc hc=>EN I (hf c hc) hy;have WO:xy z TI TO i1 i2 [i1,a] [i2,b]:=⟨a1,a2,a3,a4,a5,a6,a7,a8,a9,oX,by
   simp only[c9,dq,d9,eO];exact⟨dG a3,dG (fa z (by simp))⟩,by
   simp only[c9,dq,d9,eO];exact⟨a8,dG (fa TO (by simp))⟩,by
   simp only[c9,dq,d9,eO];exact⟨dG oX,dG (fa i2 (by simp))⟩,by
   simp only[c9,dq,d9,eO];exact⟨dG a4,dG (fb z (by simp))⟩,by
   simp only[c9,dq,d9,eO];exact⟨a9,dG (fb TO (by simp))⟩,by
   simp only[c9,dq,d9,eO];exact⟨oX,dG (fb i1 (by simp))⟩⟩
  have l1:i<its.toArray.size:=by
   have:=(cZ.mp eu).1
   simpa using this
  have l2:i<Xz.toArray.size:=by
   have:=(cZ.mp ev).1
   simpa using this
  refine Ap (yc hh i1 a (fa i1 (by simp)) its.toArray) (yc hh i2 b (fb i2 (by simp)) Xz.toArray) WO h1 h2 h3 ⟨h4,px⟩ ⟨h5,py⟩ l1 l2 λx' y' g tk e1 e2 z1 o1 s1 s2 t1 sz kp=>?_;have e1':x'=u:=by
   have:its[i]?=Fa x':=by simpa using e1
   rw[eu]at this;exact(dv this).symm
  have Yn:y'=v:=by
   have:Xz[i]?=Fa y':=by simpa using e2
   rw[ev]at this;exact(dv this).symm
  subst e1' Yn;refine⟨_,rfl,ju z1 λg2 z2 sb=>?_⟩;have zlt:z<s.heap.objs.size:=dE h1;have kk:∀c o,c∉[z,TI,TO,i1,i2]->s.heap.get? c=Fa o->g2.get? c=Fa o:=λc o hc e=>by simp only[c9,dq,d9,eO]at hc;exact(sb.2 c hc.1).trans (kp c o hc.1 hc.2.2.1 hc.2.2.2.1 hc.2.2.2.2 e)
  have t2:g2.get? s.heap.objs.size=Fa {cls:=.type "tuple",data:=.seq #[x',y']}:=(sb.2 _ (gC zlt)).trans t1;have Yt:H s.heap.objs.size=Db:=I.mQ.fresh (dw _);have I2:=I.drawn (ch:=[z,TI,TO,i1,i2]) (T:=s.heap.objs.size) (xs:=[x,y]) (its:=[x',y']) (h':=g2) (tk:=tk) hf kk (dw _) (by show 2<=Ch;decide) (.cons ru (.cons rv .nil)) ⟨_,t2,rfl,⟨_,rfl⟩,rfl⟩;refine⟨.ref s.heap.objs.size,_,I2,rfl,⟨_,x,y,rfl,Yt,rfl,λxs' hx'=>by rw[I.ng hx' hx];exact ex,λys' hy'=>by rw[I.ng hy' hy];exact ey⟩,?_,λc hc=>?_⟩
  .obtain⟨o4,g4,c4⟩:=s1.1;obtain⟨o5,g5,c5⟩:=s2.1;exact⟨z2,(sb.2 _ a1).trans (kp _ _ a1 a5 a6 a7 h2),⟨_,_,(sb.2 _ a2).trans o1⟩,⟨o4,(sb.2 _ a3).trans g4,c4⟩,⟨o5,(sb.2 _ a4).trans g5,c5⟩⟩
  .have n0:=(hf c hc).1;obtain⟨o,eo⟩:∃o,s.heap.get? c=Fa o:=by
    obtain⟨o4,g4,_⟩:=h4;obtain⟨o5,g5,_⟩:=h5;simp only[c9,dq,d9]at hc;rcases hc with rfl|rfl|rfl|rfl|rfl
    .exact⟨_,h1⟩
    .exact⟨_,h2⟩
    .exact⟨_,h3⟩
    .exact⟨_,g4⟩
    .exact⟨_,g5⟩
   rw[pS (dQ (dE eo))];exact n0
 done:=by
  intro X hP hw hK hc i Wz s Y H E I hf st hg;subst hP hw hK;obtain⟨xs,ys,hx,hy,hi⟩:=hg;obtain⟨its,rx,px,_⟩:=I.tuple hx;obtain⟨Xz,ry,py,_⟩:=I.tuple hy;obtain⟨h1,h2,⟨p,q,h3⟩,h4,h5⟩:=st;have hh:X.A.in1.handled=Db:=I.ok.hd hc;have fa:∀c∈[z,TI,TO,i1,i2],a≠c:=λc hc=>EN I (hf c hc) hx;have fb:∀c∈[z,TI,TO,i1,i2],b≠c:=λc hc=>EN I (hf c hc) hy;have WO:xy z TI TO i1 i2 [i1,a] [i2,b]:=⟨a1,a2,a3,a4,a5,a6,a7,a8,a9,oX,by
   simp only[c9,dq,d9,eO];exact⟨dG a3,dG (fa z (by simp))⟩,by
   simp only[c9,dq,d9,eO];exact⟨a8,dG (fa TO (by simp))⟩,by
   simp only[c9,dq,d9,eO];exact⟨dG oX,dG (fa i2 (by simp))⟩,by
   simp only[c9,dq,d9,eO];exact⟨dG a4,dG (fb z (by simp))⟩,by
   simp only[c9,dq,d9,eO];exact⟨a9,dG (fb TO (by simp))⟩,by
   simp only[c9,dq,d9,eO];exact⟨oX,dG (fb i1 (by simp))⟩⟩
  have e1:=rx.length;have e2:=ry.length;refine xk (yc hh i1 a (fa i1 (by simp)) its.toArray) (yc hh i2 b (fb i2 (by simp)) Xz.toArray) WO h1 h2 h3 ⟨h4,px⟩ ⟨h5,py⟩ (by simp only[dA];omega) λg tk kp=>⟨rfl,?_⟩;have kk:∀c o,c∉[z,TI,TO,i1,i2]->s.heap.get? c=Fa o->g.get? c=Fa o:=λc o hc e=>by simp only[c9,dq,d9,eO]at hc;exact kp c o hc.1 hc.2.2.1 hc.2.2.2.1 hc.2.2.2.2 e
  refine I.step (g':=s.gens) (d':=s.drawn) (t':=tk) (ch:=[z,TI,TO,i1,i2]) (λc hc=>⟨(hf c hc).2.2.2.1,(hf c hc).2.1,(hf c hc).2.2.2.2.1,(hf c hc).2.2.2.2.2⟩) ?_ ?_ (λc o _ e n=>n) ?_ (λ_ _ e=>e) (λ_ _ _ e=>e) (λc ps e=>⟨#[],by rw[e];simp⟩) ?_ ?_ I.bare
  .exact λc o _ _ hc e _=>kk c o hc e
  .exact λc o _ _ hc e _=>⟨o.slots,kk c o hc e⟩
  .exact λc o hc e=>⟨o,kk c o hc e⟩
  .intro m hm;obtain⟨o,es,ep,ho,r⟩:=hm;exact⟨o,es,ep,kk _ o (λy=>(hf _ y).2.1 rfl) ho,r⟩
  .intro c u e;refine(I.mQ c u e).ni (λd v hd q=>kk d v (λy=>?_) q) (λ_ q=>q) λ_ _ q=>q;have n:=(hf d y).1;rcases hd with x|x
   .rw[x,e]at n;cases n
   .rw[x]at n;cases n
 self:=λ_ _ _ _ _ st h=>iH st.1 h
def RA{a b:Go}{ta:TA}(hg:Gl X "zip")(hm:X.mg "zip"=Db)(ha:PA X [a,b] ta)(hs:Tl [a,b] X.env=[(lf,wp a X.env),(lf,wp b X.env)]:=by rfl)(XH:Tl [b] X.env=[(lf,wp b X.env)]:=by rfl):
  PI X (.Tuple WY n tp) (.Call (.Name "zip" p) [a,b] [] pos) (λY H R=>ta Y H λvs H1=>∃l m,vs=[.ref l,.ref m]/\(∃xs,ve X.K H1 l xs)/\(∃xs,ve X.K H1 m xs)/\R (Vx X.K l m) H1):=by
 intro Wz s Y H R I h;refine Call_ (xb I hg hm KZ (fP (sy (ha pos Wz s Y H _ I h) λus s1 zz=>x5 zz λvs H1 I1 r1 q1=>?_) (by rw[hs,XH]) (by rw[XH];rfl)));obtain⟨l,m,e,⟨xs,hx⟩,⟨ys,hy⟩,q⟩:=q1;subst e;obtain⟨u,v,rfl,ru,rv⟩:=Io r1;cases ru;cases rv;obtain⟨its,_,px,_⟩:=I1.tuple hx;obtain⟨Xz,_,py,_⟩:=I1.tuple hy;refine EC px py λg h1 h2 h3 h4 h5 hk=>iH h1 ?_;have I2:Inv X Wz Y H1 {s1 with heap:=g}:=I1.kept (t':=s1.toks) hk;refine⟨s1.heap.objs.size+4,[s1.heap.objs.size+4,s1.heap.objs.size+2,s1.heap.objs.size+3,s1.heap.objs.size,s1.heap.objs.size+1],_,_,H1,rfl,I2,LN l m _ _ _ _ _ ?_ ?_ ?_ ?_ ?_ ?_ ?_ ?_ ?_ ?_,⟨h1,h2,⟨_,_,h3⟩,h4,h5⟩,λb hb=>?_,q⟩
 .exact λz=>by have z:s1.heap.objs.size+2=s1.heap.objs.size+4:=z;omega
 .exact λz=>by have z:s1.heap.objs.size+3=s1.heap.objs.size+4:=z;omega
 .exact λz=>by have z:s1.heap.objs.size=s1.heap.objs.size+4:=z;omega
 .exact λz=>by have z:s1.heap.objs.size+1=s1.heap.objs.size+4:=z;omega
 .exact λz=>by have z:s1.heap.objs.size+2=s1.heap.objs.size+3:=z;omega
 .exact λz=>by have z:s1.heap.objs.size+2=s1.heap.objs.size:=z;omega
 .exact λz=>by have z:s1.heap.objs.size+2=s1.heap.objs.size+1:=z;omega
 .exact λz=>by have z:s1.heap.objs.size+3=s1.heap.objs.size:=z;omega
 .exact λz=>by have z:s1.heap.objs.size+3=s1.heap.objs.size+1:=z;omega
 .exact λz=>by have z:s1.heap.objs.size=s1.heap.objs.size+1:=z;omega
 .have Xe:s1.heap.objs.size<=b:=by
   simp only[c9,dq,d9]at hb;rcases hb with rfl|rfl|rfl|rfl|rfl
   .exact gi _ _
   .exact gi _ _
   .exact gi _ _
   .exact dw _
   .exact gi _ _
  exact I1.nP Xe (I1.mQ.fresh Xe)
def xS:T0 D->T0 D->T0 D
 | x::a,y::b=>.tup [x,y]::xS a b
 | _,_=>[]
theorem Fy:∀{ds es:T0 D} {i:Nat},(xS ds es)[i]?=(ds[i]?).bind λd=>(es[i]?).map λe=>D.tup [d,e]
 | [],es,i=>by simp[xS]
 | d::ds,[],i=>by simp[xS]
 | d::ds,e::es,0=>by simp[xS]
 | d::ds,e::es,i+1=>by show(xS ds es)[i]?=_;rw[Fy];simp
theorem zj:∀{ds es:T0 D},(xS ds es).length=min ds.length es.length
 | [],es=>by simp[xS]
 | d::ds,[]=>by simp[xS]
 | d::ds,e::es=>by show(xS ds es).length+1=_;rw[zj];simp only[eB];omega
def Pv{K:qp}{ds es:T0 D}(h1:ve K H1 a xs)(h2:qc K H1 ds xs)(g1:ve K H1 b ys)(g2:qc K H1 es ys):Ei K H1 (Vx K a b) (xS ds es) (λ_=>True) where
 go:=λi H M hi hm ok e1=>by rw[zj]at hi;obtain⟨x,ex,_⟩:=h2.get (cX (show i<ds.length by omega));obtain⟨y,ey,_⟩:=g2.get (cX (show i<es.length by omega));exact⟨xs,ys,x,y,e1.t _ _ h1,e1.t _ _ g1,ex,ey⟩
 oQ:=λi d H M v H' hd hm ok e1 y=>by
  obtain⟨p,x,z,rfl,hp,rfl,y1,y2⟩:=y;rw[Fy]at hd;cases e:ds[i]? with
  | none=>rw[e]at hd;cases hd
  | some d'=>
   cases e':es[i]? with
   | none=>rw[e,e']at hd;cases hd
   | some d''=>rw[e,e']at hd;cases hd;obtain⟨x',q1,hx⟩:=h2.get e;obtain⟨z',q2,hz⟩:=g2.get e';have w1:=y1 xs (e1.t _ _ h1);have w2:=y2 ys (e1.t _ _ g1);rw[q1]at w1;rw[q2]at w2;have v1:x'=x:=dv w1;have v2:z'=z:=dv w2;subst v1 v2;have ex:qO K H (upd H p (.tup [x',z'])):=.new hp;exact⟨.tup (.of pY) (.cons (hx.mono (e1.trans ex)) (.cons (hz.mono (e1.trans ex)) .nil)),hm.add hp,ex⟩
 stop:=λH M hm ok e1=>⟨xs,ys,e1.t _ _ h1,e1.t _ _ g1,by rw[zj,h2.length,g2.length]⟩
def Uw(t:xn):Na:=λU M R=>t U M λds M1=>match ds with
 | [.tup a,.tup b]=>R (xS a b) (λ_=>True) M1
 | _=>False
def QI{a b:Go}{ta:xn}(hg:Gl X "zip")(hm:X.mg "zip"=Db)(ha:A3 X [a,b] ta)(hs:Tl [a,b] X.env=[(lf,wp a X.env),(lf,wp b X.env)]:=by rfl)(XH:Tl [b] X.env=[(lf,wp b X.env)]:=by rfl):
  I3 X (.Tuple WY n tp) (.Call (.Name "zip" p) [a,b] [] pos) (Uw ta):=
 PI.mono (RA hg hm ha hs XH) λY H R' zz=>x7 zz λU M R hs hm ht k=>⟨U,M,_,hs,hm,ht,λvs H1 ds M1 hd WA e1 q1=>by
  split at q1
  .obtain⟨v,u,rfl,hv,hw⟩:=Ba hd;obtain⟨l,xs,rfl,h1,h2⟩:=hv.mO;obtain⟨m,ys,rfl,g1,g2⟩:=hw.mO;exact⟨l,m,rfl,⟨xs,h1⟩,⟨ys,g1⟩,k _ H1 _ _ M1 (Pv h1 h2 g1 g2) WA e1 trivial q1⟩
  .exact q1.elim⟩
def qo(M M':Mp):Prop:=∀a c,M a=Fa c->M' a=Fa c
def qo.refl:qo M M:=λ_ _ h=>h
def qo.trans{M M1 M2:Mp}(a:qo M M1)(b:qo M1 M2):qo M M2:=λx c h=>b x c (a x c h)
def qo.new{M:Mp}{p:Uf}{c:uR}(h:M p=Db):qo M (pB M p c):=λx d q=>by rw[tZ (Nx q h)];exact q
def qo.lst{ds:T0 D}(s:qo M M')(h:oK M a=Fa ds):oK M' a=Fa ds:=by
 unfold oK at h ⊢;cases e:M a with
 | none=>rw[e]at h;cases h
 | some c=>rw[s a c e];rw[e]at h;exact h
def HM.sub{K:qp}(h:HM K H M')(s:qo M M'):HM K H M:=λa c q=>h a c (s a c q)
def TJ{st:sB}{sp:qY}(F:Od K x qual st f fd)(S:sV N ps (pZ st))(len:∀ds M Q,sp ds M Q->ds.length=ps.length) (WT:∀(WJ:Vl) (A:Ar) (outer:T0 Env) (s:Sd) (H:Hp) (E:XK),rX k (A.deeper (dL qual (pZ st) s.heap.objs.size f WJ))->
   ∃t,GX (vp Nt P w K mg base N qual (pZ st) f WJ A outer s H E).ou (rO st) t/\∀ds M Q,sp ds M Q->t {nx:=λ_ M'=>∃WC,qo WC M'/\Q .mL WC,rt:=λd M'=>∃WC,qo WC M'/\Q d WC} (wW N ds) M):SK P w K mg base (k+1) f fd ps sp:=by
 refine F.ok S (λvs H Q E h=>?_) (λWJ A outer s H vs Q' E hr h=>?_)
 .obtain⟨ds,M,Q,hd,_,hs,_⟩:=h;rw[<-hd.length];exact len ds M Q hs
 .obtain⟨ds,M,Q,hd,hm,hs,k⟩:=h;obtain⟨t,ht,hb⟩:=WT WJ A outer s H E hr;exact⟨_,ht,wW N ds,M,_,Dt hd,hm,hb ds M Q hs,λσ' H' δ' M' _ x2 x3 _ ⟨WC,y1,y2⟩=>k .mL H' .mL WC .mL (x2.sub y1) x3 y2,λv H' d M' x1 x2 x3 ⟨WC,y1,y2⟩=>k v H' d WC x1 (x2.sub y1) x3 y2,λ_ _ _ _ _ _ _ _ z=>z,λ_ _ _ _ _ _ _ _ z=>z⟩
theorem BB{g:D3}{te:T3}{ok:Mp->Prop}{Q:DK}{f:D->D}{M:Mp}(J:vJ->Prop)(mQ:ok M):∀(ds acc:T0 D) (U:vJ),J U->acc.length+ds.length<=Ch->
  (∀d∈ds,∀U,J U->∀k:vJ->DK,(∀δ',J δ'->k δ' (f d) M)->g d U M λδ2 M2=>te δ2 M2 (k δ2))->(∀p,M p=Db->Q (.ref p) (pB M p (.lst (acc++ds.map f))))->uX g Cy te ok Q ds acc U M
 | [],acc,U,_,hl,_,hq=>⟨by simpa using hl,by simpa using hq⟩
 | d::r,acc,U,hj,hl,ht,hq=>by
  rw[eB]at hl;refine⟨by omega,?_⟩;refine ht d dN U hj (λδ2 y M4=>ok M4/\uX g Cy te ok Q r (acc++[y]) δ2 M4) λδ' hj'=>⟨mQ,BB (f:=f) J mQ r (acc++[f d]) δ' hj' ?_ (λe he=>ht e (dH _ he)) ?_⟩
  .rw[cY,dJ];omega
  .simpa using hq
def qR{te:T3}{ok:Mp->Prop}{Q:DK}{f:D->D}{M:Mp}(mQ:ok M):∀(ds acc:T0 D) (U:vJ),acc.length+ds.length<=Ch->(∀d∈ds,∀k:DK,k (f d) M->te (U.set i (Fa d)) M k)->
  (∀p,M p=Db->Q (.ref p) (pB M p (.lst (acc++ds.map f))))->uX (rT i) Cy te ok Q ds acc U M:=λds acc U hl ht hq=>
 BB (f:=f) (λδ'=>∀d,δ'.set i (Fa d)=U.set i (Fa d)) mQ ds acc U (λ_=>rfl) hl (λd hd δ' hj k hk=>by
  show te (δ'.set i (Fa d)) M (k (δ'.set i (Fa d)));rw[hj d];exact ht d hd _ (hk _ λe=>by rw[jF])) hq
theorem ye{α:Type}(f:α->Bool):∀l:List α,Gy (l.map λx=>D.bl (f x))=Fa (l.map f)
 | []=>rfl
 | x::r=>by show(Gy (r.map λx=>D.bl (f x))).map (f x::·)=_;rw[ye f r];rfl
def pz{p:Uf}{ds:T0 D}:oK (pB M p (.lst ds)) p=Fa ds:=by unfold oK;rw[pL]
def i'{α:Type}{o:Option α}{P:α->Prop}{x:α}(e:o=Fa x)(h:P x):o.elim False P:=by rw[e];exact h
def oW{l:T0 D}(h:decide (l.length<=100)=pc):l.length<=Ch:=by have z:=dP;have:=fv h;omega
theorem Be{g:D3}{tb:xu}{ok:Mp->Prop}{E:Gg}(J:vJ->Mp->Prop)(mQ:∀U M,J U M->ok M):∀(ds:T0 D) (U:vJ) (M:Mp),J U M->
  (∀d∈ds,∀U M,J U M->∀nx:vJ->Mp->Prop,(∀δ' M',J δ' M'->nx δ' M')->g d U M λδ2 M2=>tb {E with nx:=nx,ct:=nx,bk:=E.nx} δ2 M2)->(∀U M,J U M->E.nx U M)->E7 g tb ok E ds U M
 | [],U,M,j,_,hn=>hn U M j
 | d::r,U,M,j,ht,hn=>ht d dN U M j (λδ' M'=>ok M'/\E7 g tb ok E r δ' M') λδ' M' j'=>⟨mQ δ' M' j',Be J mQ r δ' M' j' (λe he=>ht e (dH _ he)) hn⟩
theorem uc{g:D3}{tb:xu}{ok:Mp->Prop}{E:Gg}(all:T0 D)(J:T0 D->vJ->Mp->Prop)(mQ:∀p U M,J p U M->ok M):∀(ds pre:T0 D) (U:vJ) (M:Mp),pre++ds=all->J pre U M->
  (∀pre d post,pre++d::post=all->∀U M,J pre U M->∀nx:vJ->Mp->Prop,(∀δ' M',J (pre++[d]) δ' M'->nx δ' M')->g d U M λδ2 M2=>tb {E with nx:=nx,ct:=nx,bk:=E.nx} δ2 M2)->(∀U M,J all U M->E.nx U M)->E7 g tb ok E ds U M
 | [],pre,U,M,e,j,_,hn=>hn U M (by rw[<-e,e9];exact j)
 | d::r,pre,U,M,e,j,ht,hn=>ht pre d r e U M j (λδ' M'=>ok M'/\E7 g tb ok E r δ' M') λδ' M' j'=>⟨mQ _ δ' M' j',uc all J mQ r (pre++[d]) δ' M' (by rw[<-e,fj];rfl) j' ht hn⟩
def L8{K:qp}{t:Vl}:W.kitOne K t t=Fa pc:=by unfold W.kitOne;rw[dh (by simp)]
def MV{c:Bool}{A B:Prop}(h:c=lf)(hb:B):if c=pc then A else B:=by subst h;exact C5 hb
def AU{c:Bool}{A B:Prop}(h:c=pc)(ha:A):if c=pc then A else B:=by subst h;exact JL ha
def Hh{t u:xu}{E:Gg}{U:vJ}{M:Mp}(R:vJ->Mp->Prop)(h2:∀nx:vJ->Mp->Prop,(∀δ' M',R δ' M'->nx δ' M')->t {E with nx:=nx} U M)(h1:∀δ' M',R δ' M'->u E δ' M'):uy t u E U M:=h2 (u E) h1
def T4{K:qp}{ns:T0 Int}(hO:MH H)(hS:w9 K H a (ns.map V.int)):rL K H (.rl (ns.map D.int)) (.ref a):=by
 have r:NW K H a (ns.map V.int):=by
  rcases hS with h|h
  .rcases h with h|⟨o,h⟩
   .rcases hO a with z|⟨o,xs,z⟩<;>(rw[h]at z;cases z)
   .exact .inl ⟨o,h⟩
  .exact .inr h
 unfold rL;exact⟨a,_,rfl,r,.ints⟩
def RE{K:qp}{sp:qY}{ns:T0 Int}(hO:MH H)(hS:w9 K H a (ns.map V.int))(h:sp [.rl (ns.map D.int)] (λ_=>Db) λd _=>d=.bl pc):Nw K sp [.ref a] H (λv _=>v=.bl pc) λ_ _ _=>False:=
 ⟨_,λ_=>Db,_,.cons (T4 hO hS) .nil,λ_ _ z=>(by cases z),h,λv H' d M' x1 _ _ x4=>by subst x4;exact x1.mI⟩
def K5{l:W.OpenLaw}{q:Pg}{Xo:QQQ}{XP:(QQZ)->No->Prop}{YP:Wo->No->Prop}{d:DefRec}{K:Params->qp}{x:Str}{sp:qY}(hn:l.most=Fa 63)(Y5:d.params.defaults=[])(hr:rX k callerA) (hY:∀(w:Wo) (h:No),YP w h->(K w.params).In h) (X7:∀ns:T0 Int,ns.length<=63->sp [.rl (ns.map D.int)] (λ_=>Db) λd _=>d=.bl pc) (F:∀(w:Wo) (mg:QQZ) (fa:Uf) (h:No),(K w.params).In h->h.Ns wv mg->mg d.name=Fa (.ref fa)->
   ∃fd:Rs,(∀(s:Sd) (u:Vl),BindsTo s fd ⟨[u],[]⟩ [(x,u)])/\∀base:No,(K w.params).In base->base.Ns wv mg->SK l.prog w (K w.params) mg base k fa fd [x] sp):
  W.WalkO q Xo XP YP l.row.toRowW d [] (λf vs=>PySem.call f vs):=
 L2.OY (n:=63) (k:=k) (x:=x) (CX:=λ_=>Nt) (sp:=λw=>Nw (K w.params) sp) hn (by decide) Y5 hr hY F (λ_ _ a ns hl hO hS=>RE hO hS (X7 ns hl)) λ_ _ _ _ _ z=>z
def KD(K:qp)(mg:QQZ)(x:Str)(d:D):Prop:=CW λv u=>mg x=Fa u/\qH v u/\∀H,rL K H d v
def Sl{K:qp}{mg:QQZ}{x y:Str}{t:Tok}(h:mg x=Fa (.str y t)):KD K mg x (.str y):=⟨.str y,_,h,⟨t,rfl⟩,λ_=>.str⟩
def vW{K:qp}{mg:QQZ}{x:Str}{y:Int}{t:Tok}(h:mg x=Fa (.int y t)):KD K mg x (.int y):=⟨.int y,_,h,⟨t,rfl⟩,λ_=>.int⟩
def uo{K:qp}{a:Uf}{ss:QQQ}{us:T0 Vl}{n:Nat}{sl:Array (Option Vl)}(h:K.lookup a=Fa ⟨.type "tuple",Db,.seq us.toArray n,sl⟩)(r:qA (ss.map V.str) us)(hz:us.length<=1000):ve K (λ_=>Db) a (ss.map V.str):=
 .inr ⟨_,us.toArray,n,h,rfl,rfl,rfl,by rw[dA,dP];omega,by simpa using r⟩
theorem z9{K:qp}:∀{ss:QQQ},qc K H (ss.map D.str) (ss.map V.str)
 | []=>.nil
 | _::_=>.cons .str z9
def O7{K:qp}{mg:QQZ}{x:Str}{a:Uf}{ss:QQQ}(h:mg x=Fa (.ref a))(q:ve K (λ_=>Db) a (ss.map V.str)):KD K mg x (.tup (ss.map D.str)):=
 ⟨.ref a,_,h,rfl,λ_=>.tup (IZ q) z9⟩
variable {d:D}{i:Go}{td tk:T3}{F:T0 (Str × QQQ)}
def sC(hg:Gl X x)(h:KD X.K X.mg x d)(hd:yR x:=by decide):E3 X (.Name x pos) (c3 d):=by obtain⟨v,u,hm,r,hh⟩:=h;exact PE.mono (D7 hg hm r hd) λY H Q' zz=>x7 zz λU M Q hs hm ht k=>k _ H _ M (hh H) hm .refl ht
def VB(F:T0 (Str×QQQ))(ta:T3):T3:=λU M Q=>ta U M λx M1=>match x with|.str k=>Q (.bl (KTD.datumAt k F).isSome) M1|_=>False
def UB(F:T0 (Str×QQQ))(ta:T3):T3:=λU M Q=>ta U M λx M1=>match x with|.str k=>(KTD.datumAt k F).elim False λss=>Q (.tup (ss.map D.str)) M1|_=>False
def Mb(T:Nb X.K X.mg x F)(hg:Gl X x)(he:E3 X e ta)(hd:yR x:=by decide)(hmk:wE .In (.Name x p)=lf:=by rfl):E3 X (.Compare e [.In] [.Name x p] pos) (VB F ta):=by
 obtain⟨a,hm,T⟩:=F5 T;refine PE.mono (II (r:=λy z H Q=>∃k,y=.str k/\z=.ref a/\Q (.bl (KTD.datumAt k F).isSome) H) (λWz s Y H y z v u Q I ry rz ⟨k,e1,e2,q⟩=>?_) he (D7 (v:=.ref a) hg hm rfl hd) hmk) λY H Q' zz=>x7 zz λU M Q hs hm ht k=>⟨U,M,_,hs,hm,ht,λv H1 d M1 hd WA e1 q1=>?_⟩
 .subst e1 e2;obtain⟨t,rfl⟩:=ry;obtain rfl:u=Value.ref a:=rz;exact RD (T s.heap I.m7) ⟨.bl (KTD.datumAt k F).isSome,H,I.tok _,rfl,q⟩
 .cases d with
  | str k'=>exact⟨k',hd.str_inv,rfl,k _ _ _ _ .bl WA e1 q1⟩
  | _=>exact q1.elim
def Kk(T:Nb X.K X.mg x F)(hg:Gl X x)(he:E3 X e ta)(hd:yR x:=by decide)(hs:Bc e:=by exact λ_ _=>rfl):E3 X (.Subscript (.Name x p) e pos) (UB F ta):=by
 obtain⟨a,hm,T⟩:=F5 T;refine PE.mono (KF (r:=λz y H Q=>∃k ss,y=.str k/\z=.ref a/\KTD.datumAt k F=Fa ss/\∀t,ve X.K H t (ss.map V.str)->Q (.ref t) H) (λvalue WK Wz s Y H z y o i Q I rz ry ⟨k,ss,e1,e2,e3,q⟩ hs=>?_) (D7 (v:=.ref a) hg hm rfl hd) he hs) λY H Q' zz=>x7 zz λU M Q hs hm ht k=>⟨U,M,_,hs,hm,ht,λv H1 d M1 hd WA e1 q1=>?_⟩
 .subst e1 e2;obtain⟨t,rfl⟩:=ry;obtain rfl:o=Value.ref a:=rz;have hT:=yK (s:=s) (T s.heap I.m7);have h2:pi (Tk X.prog X.w) X.A (TW (.ref a) (.str k t)) (EP X Wz Y Q) X.xe s:=Nk (T s.heap I.m7) e3 λv ⟨t',e4,q4⟩=>⟨.ref t',H,I.tok _,e4,q t' (IZ q4)⟩;unfold subscriptTail;refine cW ?_;rw[j5 hT.not_modules];refine cW (jR hT jt.lookup ?_);have WB:pi (Tk X.prog X.w) X.A (subscripted WK lf (.ref a) (.str k t)) (λr s₃=>pi (Tk X.prog X.w) X.A (letTemporaryGo value (.ref a) r>>=λ_=>pure r) (EP X Wz Y Q) X.xe s₃) X.xe s:=by rw[hs];exact wpAny_operating (eE h2 (λr s₃ h₃=>cW (kh (dz h₃))) λ_ _ x=>x)
  first
   | exact dz (cW WB)
   | exact cW (dz (cW WB))
   | exact cW WB
 .cases d with
  | str k'=>obtain⟨ss,e4,q2⟩:=qN q1;exact⟨k',ss,hd.str_inv,rfl,e4,λt qt=>k _ _ _ _ (.tup qt z9) WA e1 q2⟩
  | _=>exact q1.elim
def yA(M:Mp)(a:Uf):Option (T0 (qZ×D)):=match M a with
 | some (.dk kvs)=>Fa kvs
 | _=>Db
def uL(kvs:T0 (qZ×D))(k:qZ):Option D:=(kvs.find? λp=>decide (p.1=k)).map (·.2)
def zG{K:qp}{kvs:T0 (qZ×D)}(hm:HM K H M)(h:yA M a=Fa kvs):∃vs,H a=Fa (.dK vs)/\vs.map (·.1)=kvs.map (·.1)/\qc K H (kvs.map (·.2)) (vs.map (·.2)):=by
 unfold yA at h;cases e:M a with
 | none=>rw[e]at h;cases h
 | some c=>
  rw[e]at h;have ok:=hm a c e;cases c with
  | dk es=>cases h;exact ok
  | ins _ _=>cases h
  | lst _=>cases h
  | exc _=>cases h
theorem D6{K:qp}{k:qZ}:∀{kvs:T0 (qZ×D)} {vs:T0 (qZ×V)},vs.map (·.1)=kvs.map (·.1)->qc K H (kvs.map (·.2)) (vs.map (·.2))->(∀d,uL kvs k=Fa d->∃v,wK vs k=Fa v/\rL K H d v)/\(uL kvs k=Db->wK vs k=Db)
 | [],[],_,_=>⟨λd z=>(by cases z),λ_=>rfl⟩
 | [],_::_,e,_=>by cases e
 | _::_,[],e,_=>by cases e
 | (j,d)::kvs,(j',v)::vs,e,h=>by
  have e1:j'=j:=by simpa using(gL e).1
  subst e1;obtain⟨x,r,e2,h1,h2⟩:=h.inv;obtain⟨e3,e4⟩:=gL e2;subst e3 e4;have ih:=D6 (k:=k) (kvs:=kvs) (vs:=vs) (gL e).2 h2;by_cases hk:j'=k
  .have g:uL ((j',d)::kvs) k=Fa d:=by simp[uL,hk]
   have g':wK ((j',v)::vs) k=Fa v:=by simp[wK,hk]
   rw[g,g'];exact⟨λd' z=>by cases z;exact⟨v,rfl,h1⟩,λz=>by cases z⟩
  .have g:uL ((j',d)::kvs) k=uL kvs k:=by simp[uL,hk]
   have g':wK ((j',v)::vs) k=wK vs k:=by simp[wK,hk]
   rw[g,g'];exact ih
def MR(x y:D)(M:Mp)(Q:DK):Prop:=match x,y with
 | .ref a,.str k=>(yA M a).elim False λkvs=>(uL kvs (.inr k)).elim False λd=>Q d M
 | _,_=>False
def Tv(td tk:T3):T3:=λU M Q=>td U M λx M1=>tk U M1 λy M2=>MR x y M2 Q
def wJ(hu:X.A.units+9<wP)(ho:E3 X o td)(hi:E3 X i tk)(hs:Bc i:=by exact λ_ _=>rfl):E3 X (.Subscript o i pos) (Tv td tk):=by
 refine PE.mono (KF (r:=R3 X.K MR) (λvalue WK Wz s Y H vx vy v u Q' I rx ry h hs=>?_) ho hi hs) FN;obtain⟨x,y,M,Q,hx,hy,hm,q,k⟩:=h;unfold MR at q;split at q
 .rename_i a0 k0;obtain⟨kvs,e1,q⟩:=qN q;obtain⟨d,e2,q⟩:=qN q;cases hx.mH;cases hy.str_inv;obtain⟨vs,h1,h2,h3⟩:=zG hm e1;obtain⟨w,e3,hw⟩:=(D6 h2 h3).1 d e2;refine ON (by omega) value WK Wz s Y H _ _ v u Q' I rx ry ⟨_,w,rfl,?_,k _ _ _ _ hw hm .refl q⟩ hs;have g:=AO.k (k:=Sum.inr k0) h1;rw[e3]at g;exact g
 .exact q.elim
def MK(Ye:Bool)(x y:D)(M:Mp)(Q:DK):Prop:=match x,y with
 | .str k,.ref a=>(yA M a).elim False λkvs=>Q (.bl (if Ye then !(uL kvs (.inr k)).isSome else(uL kvs (.inr k)).isSome)) M
 | _,_=>False
def GC{K:qp}{k:qZ}{kvs:T0 (qZ×D)}{vs:T0 (qZ×V)}(h2:vs.map (·.1)=kvs.map (·.1))(h3:qc K H (kvs.map (·.2)) (vs.map (·.2))):(wK vs k).isSome=(uL kvs k).isSome:=by
 obtain⟨a,b⟩:=D6 (k:=k) h2 h3;cases e:uL kvs k with
 | none=>rw[b e];rfl
 | some d=>obtain⟨v,e3,_⟩:=a d e;rw[e3];rfl
def Ul(Ye:Bool)(tk td:T3):T3:=λU M Q=>tk U M λx M1=>td U M1 λy M2=>MK Ye x y M2 Q
def UE(hu:X.A.units+9<wP):xq X (Op .In) (R3 X.K (MK lf)):=λWz s Y H vx vy v u Q' I rx ry h=>by
 obtain⟨x,y,M,Q,hx,hy,hm,q,k⟩:=h;unfold MK at q;split at q
 .obtain⟨kvs,e1,q⟩:=qN q;cases hy.mH;cases hx.str_inv;obtain⟨vs,h1,h2,h3⟩:=zG hm e1;refine RZ (by omega) Wz s Y H _ _ v u Q' I rx ry ⟨_,_,rfl,AO.k (k:=Sum.inr _) h1,?_⟩;rw[GC h2 h3];exact k _ _ _ _ .bl hm .refl q
 .exact q.elim
def Rc(hu:X.A.units+9<wP):xq X (Op .NotIn) (R3 X.K (MK pc)):=λWz s Y H vx vy v u Q' I rx ry h=>by
 obtain⟨x,y,M,Q,hx,hy,hm,q,k⟩:=h;unfold MK at q;split at q
 .obtain⟨kvs,e1,q⟩:=qN q;cases hy.mH;cases hx.str_inv;obtain⟨vs,h1,h2,h3⟩:=zG hm e1;refine JP (by omega) Wz s Y H _ _ v u Q' I rx ry ⟨_,_,rfl,AO.k (k:=Sum.inr _) h1,?_⟩;rw[GC h2 h3];exact k _ _ _ _ .bl hm .refl q
 .exact q.elim
def LQ(hu:X.A.units+9<wP)(hi:E3 X i tk)(ho:E3 X o td)(hm:wE .In o=lf:=by first|exact Fz _|with_unfolding_all rfl):B3 X (.Compare i [.In] [o] pos) (b3 (Ul lf tk td)):=PT.mono (Fu (UE hu) hi ho hm) λY H Q' zz=>x7 zz λU M Q hs hm ht k=>
 FN Y H _ ⟨U,M,_,hs,hm,ht,λv H1 d M1 hd WA e1 q1=>by
  cases d with
  | bl c=>exact⟨c,hd.mI,k c H1 M1 WA e1 q1⟩
  | _=>exact q1.elim⟩
def Jx(hu:X.A.units+9<wP)(hi:E3 X i tk)(ho:E3 X o td)(hm:wE .NotIn o=lf:=by first|exact Fz _|with_unfolding_all rfl):B3 X (.Compare i [.NotIn] [o] pos) (b3 (Ul pc tk td)):=PT.mono (Fu (Rc hu) hi ho hm) λY H Q' zz=>x7 zz λU M Q hs hm ht k=>
 FN Y H _ ⟨U,M,_,hs,hm,ht,λv H1 d M1 hd WA e1 q1=>by
  cases d with
  | bl c=>exact⟨c,hd.mI,k c H1 M1 WA e1 q1⟩
  | _=>exact q1.elim⟩
def wU:T0 D->Option (T0 (qZ×D))
 | []=>Fa []
 | .tup [.str k,d]::r=>(wU r).map ((.inr k,d)::·)
 | _::_=>Db
theorem DE{K:qp}:∀{es:T0 D} {kvs:T0 (qZ×D)} {xs:T0 V},wU es=Fa kvs->qc K H es xs->∃(ts:QXQ) (vs:T0 (qZ×V)),xs=ts.map V.ref/\ts.length=vs.length/\vs.map (·.1)=kvs.map (·.1)/\qc K H (kvs.map (·.2)) (vs.map (·.2))/\
  ∀(j:Nat) (t:Uf) (p:qZ×V),ts[j]?=Fa t->vs[j]?=Fa p->ve K H t [kV p.1,p.2]
 | [],_,_,e,h=>by cases e;exact⟨[],[],h.nil_inv,rfl,rfl,.nil,λj t p z=>by simp at z⟩
 | d::es,kvs,xs,e,h=>by
  obtain⟨x,r,rfl,h1,h2⟩:=h.inv;unfold wU at e;split at e
  .rename_i z;cases z
  .rename_i k d' r' z;cases z;cases q:wU es with
   | none=>rw[q]at e;cases e
   | some kvs'=>
    rw[q]at e;cases e;obtain⟨ts,vs,e1,e2,e3,e4,e5⟩:=DE q h2;obtain⟨a,ys,rfl,g1,g2⟩:=h1.mO;obtain⟨y,r1,rfl,g3,g4⟩:=g2.inv;obtain⟨w,r2,rfl,g5,g6⟩:=g4.inv;cases g6.nil_inv;cases g3.str_inv;refine⟨a::ts,(.inr k,w)::vs,by rw[e1];rfl,by simpa using e2,by rw[dZ,dZ,e3],.cons g5 e4,λj t p z1 z2=>?_⟩;cases j with
    | zero=>
     have z1':a=t:=by simpa using z1
     have z2':(Sum.inr k,w)=p:=by simpa using z2
     subst z1' z2';exact g1
    | succ j=>exact e5 j t p (by simpa using z1) (by simpa using z2)
  .cases e
def Qy(ds:T0 D)(M:Mp)(Q:DK):Prop:=match ds with
 | [.ref a]=>(oK M a).elim False λes=>(wU es).elim False λkvs=>(kvs.map (·.1)).Nodup/\∀p,M p=Db->Q (.ref p) (pB M p (.dk kvs))
 | _=>False
def D5(hc:X.calm=pc):C3 X (.type "dict") Qy:=by
 intro Wz s Y H vs us Q' I rv h;obtain⟨ds,M,Q,hd,hm,q,k⟩:=h;unfold Qy at q;split at q
 .obtain⟨es,e1,q⟩:=qN q;obtain⟨kvs,e2,hnd,q⟩:=qN q;obtain⟨v,rfl,hv⟩:=rA hd;cases hv.mH;obtain⟨xs,h1,h2,_⟩:=pU hm e1;obtain⟨ts,ws,rfl,f2,f3,f4,f5⟩:=DE e2 h2;refine HN hc Wz s Y H _ us Q' I rv ⟨_,ts,ws,rfl,h1,f2,f5,by rw[f3];exact hnd,λd hd=>?_⟩;have e:qO X.K H (upd H d (.dK ws)):=.new hd;exact k _ _ _ _ .ref (hm.new (c:=.dk kvs) hd ⟨_,pY,f3,f4.mono e⟩) e (q d (hm.fresh hd))
 .exact q.elim
def RO:zn "set"=Fa (.type "set"):=by decide+kernel
def BD:T0 D->Option (QQQ)
 | []=>Fa []
 | .str x::r=>(BD r).map (x::·)
 | _::_=>Db
theorem B2:∀ss:QQQ,BD (ss.map D.str)=Fa ss
 | []=>rfl
 | x::r=>by show(BD (r.map D.str)).map (x::·)=_;rw[B2 r];rfl
theorem Gd{K:qp}:∀{ds:T0 D} {ss:QQQ} {xs:T0 V},BD ds=Fa ss->qc K H ds xs->xs=ss.map V.str
 | [],_,_,e,h=>by cases e;exact h.nil_inv
 | d::ds,_,_,e,h=>by
  obtain⟨x,r,rfl,h1,h2⟩:=h.inv;cases d with
  | str z=>
   unfold BD at e;cases q:BD ds with
   | none=>rw[q]at e;cases e
   | some ss=>rw[q]at e;cases e;rw[h1.str_inv,Gd q h2];rfl
  | _=>cases e
def Tu(ta:T3):T3:=λU M Q=>ta U M λx M1=>(Kz M1 x).elim False λes=>(BD es).elim False λss=>ss.length<4000/\Q (.int (sP ss).length) M1
def Kh(hc:X.calm=pc)(he:E3 X e ta)(hg1:Gl X "len")(WA:X.mg "len"=Db)(hg2:Gl X "set")(WR:X.mg "set"=Db)(b1:zn "len"=Fa (.builtin "len"))(b2:zn "set"=Fa (.type "set")) (hs:Tl [e] X.env=[(lf,wp e X.env)]:=by rfl):E3 X (.Call (.Name "len" p) [.Call (.Name "set" p2) [e] [] Ys] [] pos) (Tu ta):=
 PE.mono (JX hc he hg1 WA hg2 WR b1 b2 hs) λY H Q' zz=>x7 zz λU M Q hs hm ht k=>⟨U,M,_,hs,hm,ht,λv H1 d M1 hd WA e1 q1=>by
  obtain⟨es,e2,q1⟩:=qN q1;obtain⟨ss,e3,hz,q1⟩:=qN q1;obtain⟨a,xs,rfl,h1,h2⟩:=Fm WA hd e2;rw[Gd e3 h2]at h1;have z:AT=4096:=rfl;exact⟨a,ss,rfl,h1,by omega,k _ _ _ _ .int WA e1 q1⟩⟩
def RN(x:D)(ds:T0 D)(M:Mp)(Q:DK):Prop:=match x,ds with
 | .ref a,[y]=>(oK M a).elim False λes=>es.length<Ch/\Q .mL (pB M a (.lst (es++[y])))
 | _,_=>False
def qm{es:T0 D}(h:oK M a=Fa es):M a=Fa (.lst es):=by
 unfold oK at h;split at h
 .rename_i e;rw[e];cases h;rfl
 .cases h
def Eb{K:qp}{es:T0 D}(hm:HM K H M)(h:oK M a=Fa es):∃xs,H a=Fa (.lst xs)/\qc K H es xs:=hm a _ (qm h)
def J3:M3 X "list.append" RN:=by
 intro Wz s Y H vx vs v us Q' I rx rv h;obtain⟨x,ds,M,Q,hx,hd,hm,q,k⟩:=h;unfold RN at q;split at q
 .obtain⟨es,e1,hz,q⟩:=qN q;obtain⟨w,rfl,hw⟩:=rA hd;cases hx.mH;obtain⟨xs,h1,h2⟩:=Eb hm e1;refine Ku Wz s Y H _ _ v us Q' I rx rv ⟨_,xs,w,rfl,rfl,h1,by rw[<-h2.length];exact hz,?_⟩;obtain⟨WR,ex⟩:=hm.put (c:=.lst (es++[_])) (qm e1) λex=>⟨_,pY,(h2.mono ex).snoc (hw.mono ex)⟩;exact k _ _ _ _ .mL WR ex q
 .exact q.elim
def rQ(ho:E3 X o ta)(ha:A3 X (e::es) t)(WU:sK o "append" X.env (wp o X.env)=wp o X.env:=by rfl)
  (XT:((Ix pos (Tl (e::es) X.env)).all (λx=>!x.1)&&(xL pos (Ps [] X.env)).all (λx=>x.1.isSome)&&decide ((e::es).length+([]:T0 ZV).length+(if ([]:T0 ZV).isEmpty then 0 else 1)<30))=pc:=by rfl)
  (W8:(WD.endLine==pos.line)=pc:=by rfl) (hs:Bg X e es:=by rfl) (WQ:CC X pos es:=by rfl):
  E3 X (.Call (.Attribute o "append" WD) (e::es) [] pos) (VR RN ta t):=Qf PySem.F.slot_list_append PySem.F.type_list_append J3 ho ha WU XT W8 hs WQ
def qo.none{M M2:Mp}{q:Uf}(s:qo M M2)(h:M2 q=Db):M q=Db:=by
 cases e:M q with
 | none=>rfl
 | some c=>rw[s q c e]at h;cases h
def qo.upd{M M2:Mp}{c:uR}(s:qo M M2):qo (pB M q c) (pB M2 q c):=λx d h=>by
 by_cases e:x=q
 .subst e;rw[pL]at h ⊢;exact h
 .rw[tZ e]at h ⊢;exact s x d h
def qo.dk{ds:T0 (qZ×D)}(s:qo M M')(h:yA M a=Fa ds):yA M' a=Fa ds:=by
 unfold yA at h ⊢;cases e:M a with
 | none=>rw[e]at h;cases h
 | some c=>rw[s a c e];rw[e]at h;exact h
def sm(p:Uf)(M M':Mp):Prop:=∀b c,b≠p->M b=Fa c->M' b=Fa c
def qo.keep{p:Uf}(s:qo M M'):sm p M M':=λb c _ h=>s b c h
def sm.trans{M M1 M2:Mp}{p:Uf}(a:sm p M M1)(b:sm p M1 M2):sm p M M2:=λx c n h=>b x c n (a x c n h)
def sm.put{p:Uf}{c:uR}:sm p M (pB M p c):=λb d n h=>by rw[tZ n];exact h
def sm.lst{p a:Uf}{ds:T0 D}(k:sm p M M')(n:a≠p)(h:oK M a=Fa ds):oK M' a=Fa ds:=by have:=k a _ n (qm h);unfold oK;rw[this]
def sm.dk{p a:Uf}{ds:T0 (qZ×D)}(k:sm p M M')(n:a≠p)(h:yA M a=Fa ds):yA M' a=Fa ds:=by
 unfold yA at h ⊢;cases e:M a with
 | none=>rw[e]at h;cases h
 | some c=>rw[k a c n e];rw[e]at h;exact h
def pO{a p C:Uf}{ds:T0 D}{fs:T0 (Str×D)}(h:oK M a=Fa ds)(hp:M p=Fa (.ins C fs)):a≠p:=λz=>by subst z;rw[qm h]at hp;cases hp
def B7{a p C:Uf}{ds:T0 (qZ×D)}{fs:T0 (Str×D)}(h:yA M a=Fa ds)(hp:M p=Fa (.ins C fs)):a≠p:=λz=>by subst z;unfold yA at h;rw[hp]at h;cases h
def sJ{M:Mp}{p:Uf}{ds:T0 D}(h:M p=Fa (.lst ds)):oK M p=Fa ds:=by unfold oK;rw[h]
def Ao{M:Mp}{p:Uf}{ds:T0 (qZ×D)}(h:M p=Fa (.dk ds)):yA M p=Fa ds:=by unfold yA;rw[h]
def sU{N:Mp}{p q C:Uf}{fs fs':T0 (Str×D)}{c:uR}(hp:N p=Fa (.ins C fs))(hq:N q=Db):
  q≠p/\pB N q c p=Fa (.ins C fs)/\sm p N (pB (pB N q c) p (.ins C fs'))/\pB (pB N q c) p (.ins C fs') q=Fa c/\pB (pB N q c) p (.ins C fs') p=Fa (.ins C fs'):=by
 have n:p≠q:=Nx hp hq;refine⟨dG n,by rw[tZ n];exact hp,(qo.new hq).keep.trans .put,by rw[tZ (dG n),pL],pL⟩
theorem FD{g:D3}{te:T3}{ok:Mp->Prop}{Q:DK}(all:T0 D)(J:T0 D->T0 D->vJ->Mp->Prop)(mQ:∀p acc U M,J p acc U M->ok M):∀(ds pre acc:T0 D) (U:vJ) (M:Mp),pre++ds=all->acc.length+ds.length<=Ch->J pre acc U M->
  (∀pre d post,pre++d::post=all->∀acc U M,J pre acc U M->∀k:vJ->DK,(∀δ2 y M4,J (pre++[d]) (acc++[y]) δ2 M4->k δ2 y M4)->g d U M λδ2 M2=>te δ2 M2 (k δ2))->
  (∀acc U M,J all acc U M->∀p,M p=Db->Q (.ref p) (pB M p (.lst acc)))->uX g Cy te ok Q ds acc U M
 | [],pre,acc,U,M,e,hl,j,_,hq=>⟨by simpa using hl,hq acc U M (by rw[<-e,e9];exact j)⟩
 | d::r,pre,acc,U,M,e,hl,j,ht,hq=>by rw[eB]at hl;refine⟨by omega,?_⟩;refine ht pre d r e acc U M j (λδ2 y M4=>ok M4/\uX g Cy te ok Q r (acc++[y]) δ2 M4) λδ2 y M4 j'=>⟨mQ _ _ _ _ j',FD all J mQ r (pre++[d]) (acc++[y]) δ2 M4 (by rw[<-e,fj];rfl) ?_ j' ht hq⟩;rw[cY,dJ];omega
def AB:Nat->D->Bool
 | _,.mL=>pc
 | _,.bl _=>pc
 | _,.int _=>pc
 | _,.str _=>pc
 | n+1,.tup ds=>ds.all (AB n)
 | _,_=>lf
theorem CA{f:D->D->Option Bool}:∀ds:T0 D,(∀d∈ds,f d d=Fa pc)->sF f ds ds=Fa pc
 | [],_=>rfl
 | d::r,h=>by show(f d d).bind (λp=>(sF f r r).map λq=>p&&q)=Fa pc;rw[h d dN,CA r λe he=>h e (dH _ he)];rfl
theorem BG:∀(n:Nat) (d:D),AB n d=pc->zU M (n+1) d d=Fa pc
 | _,.mL,_=>rfl
 | _,.bl _,_=>by simp[zU]
 | _,.int _,_=>by simp[zU]
 | _,.str _,_=>by simp[zU]
 | n+1,.tup ds,h=>by have h:ds.all (AB n)=pc:=h;show(sF (zU M (n+1)) ds ds).map (λp=>p&&ds.length==ds.length)=Fa pc;rw[CA ds λd hd=>BG n d (eU.mp h d hd)];simp
 | 0,.tup _,h=>by cases h
 | 0,.ref _,h=>by cases h
 | _+1,.ref _,h=>by cases h
 | 0,.ty _,h=>by cases h
 | _+1,.ty _,h=>by cases h
 | 0,.rl _,h=>by cases h
 | _+1,.rl _,h=>by cases h
def R0(tc:Az)(tb:xu):xu:=λE U M=>∃W:Nat->vJ->Mp->Prop,(∃m,W m U M)/\∀m U M,W m U M->
 tc U M λb M1=>if b=pc then tb {E with nx:=λδ' M'=>∃m',m'<m/\W m' δ' M',ct:=λδ' M'=>∃m',m'<m/\W m' δ' M',bk:=E.nx} U M1 else E.nx U M1
def Mv{tc:Az}{tb:xu}(hp:PassesOwn (Tk X.prog X.w) X.A X.env X.xe)(hc:B3 X c tc)(hb:GX X body tb):S3 X (.While c body [] pos) (R0 tc tb):=
 PS.mono (MS hp hc hb) λD' Y H ⟨U,M,E,hs,hm,⟨W,⟨m0,w0⟩,turn⟩,k1,k2,k3,k4⟩=>by
 refine⟨λm σ' H'=>∃δ' M',zI X.K H' σ' δ'/\HM X.K H' M'/\qO X.K H H'/\σ'.length=Y.length/\W m δ' M',⟨m0,U,M,hs,hm,.refl,rfl,w0⟩,?_⟩
 rintro m σ1 H1 ⟨δ1,M1,ZC,WA,e1,l1,w1⟩
 refine⟨δ1,M1,_,ZC,WA,turn m δ1 M1 w1,λb H2 M2 WR e2 q2=>?_⟩;cases b with
 | false=>rw[de dC]at q2 ⊢;exact k1 σ1 H2 δ1 M2 (ZC.mono e2) WR (e1.trans e2) l1 q2
 | true=>
  rw[dh rfl]at q2 ⊢;refine⟨λσ' H'=>∃δ' M',zI X.K H' σ' δ'/\HM X.K H' M'/\qO X.K H H'/\σ'.length=Y.length/\∃m',m'<m/\W m' δ' M',?_,δ1,M2,_,ZC.mono e2,WR,q2,?_,?_,?_,?_⟩
  .rintro σ' H' ⟨δ',M',a1,a2,a3,a4,m',lt,w⟩
   exact⟨m',lt,δ',M',a1,a2,a3,a4,w⟩
  .exact λσ' H' δ' M' y1 y2 y3 y4 y5=>⟨δ',M',y1,y2,e1.trans (e2.trans y3),by rw[y4,l1],y5⟩
  .exact λv H' d M' y1 y2 y3 y4=>k2 v H' d M' y1 y2 (e1.trans (e2.trans y3)) y4
  .exact λσ' H' δ' M' y1 y2 y3 y4 y5=>k1 σ' H' δ' M' y1 y2 (e1.trans (e2.trans y3)) (by rw[y4,l1]) y5
  .exact λσ' H' δ' M' y1 y2 y3 y4 y5=>⟨δ',M',y1,y2,e1.trans (e2.trans y3),by rw[y4,l1],y5⟩
def Rv(op:Z2)(x y:D):Option D:=match op,x,y with
 | .Add,.int i,.int j=>Fa (.int (i+j))
 | .Sub,.int i,.int j=>Fa (.int (i - j))
 | _,_,_=>Db
def Rg(op:Z2):V->V->Hp->VK->Prop:=λvx vy H Q=>match op,vx,vy with
 | .Add,.int i,.int j=>Q (.int (i+j)) H
 | .Sub,.int i,.int j=>Q (.int (i - j)) H
 | _,_,_=>False
def QK:Oh X op (Rg op):=by
 intro Wz s Y H x y u v Q I rx ry h;unfold Rg at h;split at h
 .exact Sq Wz s Y H _ _ u v Q I rx ry ⟨_,_,rfl,rfl,h⟩
 .exact QR Wz s Y H _ _ u v Q I rx ry ⟨_,_,rfl,rfl,h⟩
 .exact h.elim
def P5{K:qp}{x y z:D}{Q:VK}(hx:rL K H x vx)(hy:rL K H y vy)(e:Rv op x y=Fa z)(k:∀vz,rL K H z vz->Q vz H):Rg op vx vy H Q:=by
 unfold Rv at e;split at e
 .cases e;cases hx.int_inv;cases hy.int_inv;exact k _ .int
 .cases e;cases hx.int_inv;cases hy.int_inv;exact k _ .int
 .cases e
def Td(K:qp)(f:Str)(op:Z2)(ta tv:T3):xu:=λE U M=>ta U M λx M1=>match x with
 | .ref a=>AL (M1 a) λC fs=>ue K C f/\(fs.lookup f).elim False λd=>tv U M1 λy M2=>(Rv op d y).elim False λz=>AL (M2 a) λC' fs'=>C'=C/\fs'.length<1000/\E.nx U (pB M2 a (.ins C (vV f z fs')))
 | _=>False
def DH{f:Str}(ha:E3 X o ta)(hv:E3 X value tv):S3 X (.AugAssign (.Attribute o f YH) op value pos) (Td X.K f op ta tv):=
 PS.mono (JB ha hv QK) λD' Y H zz=>Kv zz λU M E hs hm ht k1 k2 k3 k4=>
 ⟨U,M,_,hs,hm,ht,λv H1 d M1 hd WA e1 q1=>by
  cases d with
  | ref a=>
   cases hd.mH;obtain⟨C,fs,e,q1⟩:=xY q1;obtain⟨na,q1⟩:=q1;obtain⟨d,ed,q1⟩:=qN q1;obtain⟨dx,vs,h1,cl,nn,fo⟩:=WA a _ e;obtain⟨w,ew,hw⟩:=(wR fo).1 d ed;refine⟨a,C,dx,vs,w,rfl,h1,cl,na,ew,U,M1,_,hs.mono e1,WA,q1,λu H2 y M2 hy WR e2 q2=>?_⟩;obtain⟨z,ez,q2⟩:=qN q2;obtain⟨C',fs',e',q2⟩:=xY q2;obtain⟨rfl,hl,q2⟩:=q2;refine P5 (hw.mono e2) hy ez λvz hz=>?_;obtain⟨Zn,vs',Xj,cl',nn',fo'⟩:=WR a _ e';have WE:vs'.length=fs'.length:=by have:=eR List.length fo'.1;simpa using this
   refine⟨Zn,vs',Xj,by omega,?_⟩;obtain⟨Xu,e3⟩:=WR.put (p:=a) (o:=.ins C' Zn (vL f vz vs')) (c:=.ins C' (vV f z fs')) e' λx=>⟨Zn,_,pY,cl',λg hg=>by
    rcases Bt hg with q|q
    .rw[q];exact na
    .exact nn' g q,D9 (hz.mono x) (fo'.mono x)⟩
   exact k1 Y _ U _ (hs.mono (e1.trans (e2.trans e3))) Xu (e1.trans (e2.trans e3)) rfl q2
  | _=>exact q1.elim⟩
theorem tG{i:Nat}{tt:Az}{te:T3}{ok:Mp->Prop}{Q:DK}{f:D->D}{t:D->Bool}{M:Mp}(mQ:ok M):∀(ds acc:T0 D) (U:vJ),acc.length+ds.length<=Ch->
  (∀d∈ds,∀k:Bool->Mp->Prop,k (t d) M->tt (U.set i (Fa d)) M k)->(∀d∈ds,t d=pc->∀k:DK,k (f d) M->te (U.set i (Fa d)) M k)->
  (∀p,M p=Db->Q (.ref p) (pB M p (.lst (acc++(ds.filter t).map f))))->uX (rT i) tt te ok Q ds acc U M
 | [],acc,U,hl,_,_,hq=>⟨by simpa using hl,by simpa using hq⟩
 | d::r,acc,U,hl,ht,he,hq=>by
  rw[eB]at hl;refine⟨by omega,?_⟩;show tt (U.set i (Fa d)) M _;refine ht d dN _ ?_;have z:∀e:D,(U.set i (Fa d)).set i (Fa e)=U.set i (Fa e):=λe=>by rw[jF]
  cases q:t d with
  | true=>
   rw[dh rfl];refine he d dN q _ ⟨mQ,tG (f:=f) (t:=t) mQ r (acc++[f d]) _ ?_ (λe m k h=>?_) (λe m h0 k h=>?_) ?_⟩
   .rw[cY,dJ];omega
   .rw[z];exact ht e (dH _ m) k h
   .rw[z];exact he e (dH _ m) h0 k h
   .intro p hp;have:=hq p hp;rw[gR q]at this
    simpa using this
  | false=>
   rw[de dC];refine⟨mQ,tG (f:=f) (t:=t) mQ r acc _ (by omega) (λe m k h=>?_) (λe m h0 k h=>?_) ?_⟩
   .rw[z];exact ht e (dH _ m) k h
   .rw[z];exact he e (dH _ m) h0 k h
   .intro p hp;have:=hq p hp;rw[gS (by rw[q];exact dC)]at this;exact this
section
variable {a:Go}
def Vp(ta:T3):T3:=λU M Q=>ta U M λx M1=>match x with|.int i=>Q (.int (-i)) M1|_=>False
def BK(ha:E3 X a ta):E3 X (.UnaryOp .USub a pos) (Vp ta):=PE.mono (TF RQ ha) λY H Q' zz=>x7 zz λU M Q hs hm ht k=>
 ⟨U,M,_,hs,hm,ht,λv H1 d M1 hd WA e1 q1=>by
  cases d with
  | int i=>cases hd.int_inv;exact⟨i,rfl,k _ H1 _ M1 .int WA e1 q1⟩
  | _=>exact q1.elim⟩
end
end L3
namespace L2
open PySem.W
variable {prog:Pg}{w:Wo}{A:Ar}{E:QQX}{s:Sd}
end L2
namespace L3
open L2
variable {X:Cx}{pos:Pos}{a b o i:Go}{ta tb ti to:T3}
def Ug(to ti:T3):D3:=λd U M Q=>to U M λx M1=>ti U M1 λy M2=>match x,y with
 | .ref p,.int k=>(oK M2 p).elim False λes=>(FG es.length k).elim False λj=>Q U (pB M2 p (.lst (es.set j d)))
 | _,_=>False
theorem qc.set{K:qp}(hv:rL K H d v):∀{ds:T0 D} {xs:T0 V} (j:Nat),qc K H ds xs->qc K H (ds.set j d) (xs.set j v)
 | [],_,j,h=>by rw[h.nil_inv];simp only[List.set_nil];exact .nil
 | e::ds,_,0,h=>by obtain⟨x,r,rfl,h1,h2⟩:=h.inv;exact .cons hv h2
 | e::ds,_,j+1,h=>by obtain⟨x,r,rfl,h1,h2⟩:=h.inv;exact .cons h1 (qc.set hv j h2)
def Sg(ho:E3 X o to)(hi:E3 X i ti) (ha:∀v,assign (.Subscript o i pos) X.env v=(do
   let ov<-xz [v] (wp o X.env);let iv<-xz [v,ov] (wp i X.env)
   ZU pos
   xz [v,ov,iv] (setItem ov iv v)
   release [v,ov,iv] []):=by intro _;rfl):G3 X (.Subscript o i pos) (Ug to ti):=
 PG.mono (QD ho hi LO ha) λv Y H Q' ⟨d,U,M,Q,hd,hs,hm,ht,k⟩=>
 ⟨U,M,_,hs,hm,ht,λvx H1 x M1 hx WA e1 q1=>⟨U,M1,_,hs.mono e1,WA,q1,λvy H2 y M2 hy WR e2 q2=>by
  cases x with
  | ref p=>
   cases y with
   | int j0=>obtain⟨es,f1,q2⟩:=qN q2;obtain⟨j,f2,q2⟩:=qN q2;cases(hx.mono e2).mH;cases hy.int_inv;obtain⟨xs,h1,h2⟩:=Eb WR f1;refine⟨p,xs,j0,j,rfl,rfl,h1,by rw[<-h2.length];exact f2,?_⟩;have hd2:=hd.mono (e1.trans e2);obtain⟨Xu,e3⟩:=WR.put (o:=.lst (xs.set j v)) (c:=.lst (es.set j d)) (qm f1) λex=>⟨_,pY,(h2.mono ex).set (hd2.mono ex) j⟩;exact k Y _ U _ (hs.mono (e1.trans (e2.trans e3))) Xu (e1.trans (e2.trans e3)) rfl q2
   | _=>exact q2.elim
  | _=>exact q2.elim⟩⟩
def SS(ds:T0 D)(M:Mp)(Q:DK):Prop:=match ds with
 | [.int i]=>Q (.int i) M
 | [.bl k]=>Q (.int (if k then 1 else 0)) M
 | _=>False
def QU:C3 X (.type "int") SS:=by
 intro Wz s Y H vs us Q' I rv h;obtain⟨ds,M,Q,hd,hm,q,k⟩:=h;unfold SS at q;split at q
 .obtain⟨v,rfl,hv⟩:=rA hd;cases hv.int_inv;exact Dm Wz s Y H _ us Q' I rv (.inl ⟨_,rfl,k _ _ _ _ .int hm .refl q⟩)
 .obtain⟨v,rfl,hv⟩:=rA hd;cases hv.mI;exact Dm Wz s Y H _ us Q' I rv (.inr ⟨_,rfl,k _ _ _ _ .int hm .refl q⟩)
 .exact q.elim
end L3
namespace L2
variable {prog:Pg}{w:Wo}{A:Ar}{E:QQX}{s:Sd}{X:Cx}
end L2
namespace L3
open L2
variable {X:Cx}{pos WD p:Pos}{a b o e i value:Go}{es:T0 Go}{ta tb ti to tv td tk:T3}{t:xn}
def SA(x y:D)(M:Mp)(Q:DK):Prop:=match x,y with
 | .ref a,.int k=>(oK M a).elim False λes=>(0<=k/\k<=1000/\es.length<=1000)/\∀p,M p=Db->Q (.ref p) (pB M p (.lst (List.replicate k.toNat es).flatten))
 | _,_=>False
theorem IJ{K:qp}(h:qc K H ds xs):∀n:Nat,qc K H (List.replicate n ds).flatten (List.replicate n xs).flatten
 | 0=>.nil
 | n+1=>by rw[eJ,eJ,fU,fU];exact h.append (IJ h n)
def Q6:xq X (ZP .Mult) (R3 X.K SA):=λWz s Y H vx vy v u Q' I rx ry h=>by
 obtain⟨x,y,M,Q,hx,hy,hm,q,k⟩:=h;unfold SA at q;split at q
 .obtain⟨es,e1,⟨q1,q2,q3⟩,q⟩:=qN q;cases hx.mH;cases hy.int_inv;obtain⟨xs,h1,h2⟩:=Eb hm e1;have hz:=dP;have hl:=h2.length;refine R9 Wz s Y H _ _ v u Q' I rx ry ⟨_,_,xs,rfl,rfl,h1,by omega,by omega,?_,λpp hp=>?_⟩
  .exact eh (j6 (show xs.length<=1000 by omega) (show Int.toNat _<=1000 by omega)) (by rw[hz];decide)
  .exact k _ _ _ _ .ref (hm.new (c:=.lst _) hp ⟨_,pY,(IJ h2 _).mono (.new hp)⟩) (.new hp) (q pp (hm.fresh hp))
 .exact q.elim
def S8(ta tb:T3):T3:=λU M Q=>ta U M λx M1=>tb U M1 λy M2=>SA x y M2 Q
def BQ(ha:E3 X a ta)(hb:E3 X b tb):E3 X (.BinOp a .Mult b pos) (S8 ta tb):=PE.mono (Qz Q6 ha hb) FN
def Tt:T3:=λ_ M Q=>∀p,M p=Db->Q (.ref p) (pB M p (.dk []))
def P8:E3 X (.Dict [] [] pos) Tt:=PE.mono LC λY H Q' zz=>x7 zz λU M Q hs hm ht k=>λp hp=>by have ex:qO X.K H (upd H p (.dK [])):=.new hp;exact k _ _ _ _ .ref (hm.new (c:=.dk []) hp ⟨[],pY,rfl,.nil⟩) ex (ht p (hm.fresh hp))
def Bp(kvs:T0 (qZ×D))(k:qZ)(v:D):T0 (qZ×D):=if (kvs.any λkv=>decide (kv.1=k))=pc then kvs.map (λkv=>if kv.1=k then(kv.1,v)else kv)else kvs++[(k,v)]
theorem FY{κ α β:Type}{k:κ}[DecidableEq κ]:∀{xs:T0 (κ×α)} {ys:T0 (κ×β)},xs.map (·.1)=ys.map (·.1)->(xs.any λkv=>decide (kv.1=k))=ys.any λkv=>decide (kv.1=k)
 | [],[],_=>rfl
 | [],_::_,e=>by cases e
 | _::_,[],e=>by cases e
 | x::xs,y::ys,e=>by obtain⟨e1,e2⟩:=gL e;rw[fX,fX,FY e2];have e1:x.1=y.1:=e1;rw[e1]
def JQ{K:qp}{k:qZ}(hv:rL K H d v){kvs:T0 (qZ×D)}{vs:T0 (qZ×V)}(h1:vs.map (·.1)=kvs.map (·.1))(h2:qc K H (kvs.map (·.2)) (vs.map (·.2))):
  (yx vs k v).map (·.1)=(Bp kvs k d).map (·.1)/\qc K H ((Bp kvs k d).map (·.2)) ((yx vs k v).map (·.2)):=by
 have go:∀{kvs:T0 (qZ×D)} {vs:T0 (qZ×V)},vs.map (·.1)=kvs.map (·.1)->qc K H (kvs.map (·.2)) (vs.map (·.2))->
   (vs.map (λkv=>if kv.1=k then(kv.1,v)else kv)).map (·.1)=(kvs.map (λkv=>if kv.1=k then(kv.1,d)else kv)).map (·.1)/\qc K H ((kvs.map (λkv=>if kv.1=k then(kv.1,d)else kv)).map (·.2)) ((vs.map (λkv=>if kv.1=k then(kv.1,v)else kv)).map (·.2)):=λ{kvs}=>by
  induction kvs with
  | nil=>intro vs e h;cases vs with
   | nil=>exact⟨rfl,.nil⟩
   | cons _ _=>cases e
  | cons c r ih=>intro vs e h;cases vs with
   | nil=>cases e
   | cons w ws=>
    obtain⟨e1,e2⟩:=gL e;obtain⟨x,xr,e3,g1,g2⟩:=h.inv;obtain⟨e4,e5⟩:=gL e3;subst e4 e5;obtain⟨i1,i2⟩:=ih e2 g2;have e1:w.1=c.1:=e1;by_cases hk:c.1=k
    .have w1:(if w.1=k then(w.1,v)else w)=(w.1,v):=dh (e1.trans hk);have w2:(if c.1=k then(c.1,d)else c)=(c.1,d):=dh hk;simp only[dZ,w1,w2];exact⟨by rw[i1,e1],.cons hv i2⟩
    .have w1:(if w.1=k then(w.1,v)else w)=w:=de λz=>hk (e1.symm.trans z);have w2:(if c.1=k then(c.1,d)else c)=c:=de hk;simp only[dZ,w1,w2];exact⟨by rw[i1,e1],.cons g1 i2⟩
 unfold yx Bp;rw[FY (k:=k) h1];by_cases hk:(kvs.any λkv=>decide (kv.1=k))=pc
 .rw[dh hk,dh hk];exact go h1 h2
 .rw[de hk,de hk];exact⟨by rw[dU,dU,h1];rfl,by rw[dU,dU];exact h2.append (.cons hv .nil)⟩
def T6(td tk tv:T3):xu:=λD U M=>tv U M λv M1=>td U M1 λx M2=>tk U M2 λy M3=>match x,y with
 | .ref a,.str k=>(yA M3 a).elim False λkvs=>kvs.length<Ch/\D.nx U (pB M3 a (.dk (Bp kvs (.inr k) v)))
 | _,_=>False
def yU{a:Uf}{kvs:T0 (qZ×D)}(h:yA M a=Fa kvs):M a=Fa (.dk kvs):=by
 unfold yA at h;split at h
 .rename_i e;rw[e];cases h;rfl
 .cases h
def IT(hu:X.A.units+9<wP)(ho:E3 X o td)(hi:E3 X i tk)(hv:E3 X value tv)(hs:TD value (Fa (.Subscript o i WL)) pos.line X.env=pure lf:=by rfl):S3 X (.Assign [.Subscript o i WL] value pos) (T6 td tk tv):=
 PS.mono (OM (by omega) ho hi hv hs) λD' Y H zz=>Kv zz λU M D hs hm ht k1 k2 k3 k4=>
 ⟨U,M,_,hs,hm,ht,λv H1 d M1 hd WA e1 q1=>⟨U,M1,_,hs.mono e1,WA,q1,λvx H2 x M2 hx WR e2 q2=>⟨U,M2,_,hs.mono (e1.trans e2),WR,q2,λvy H3 y M3 hy Xu e3 q3=>by
  split at q3
  .rename_i a0 k0;obtain⟨kvs,f1,f2,q3⟩:=qN q3;cases(hx.mono e3).mH;cases hy.str_inv;obtain⟨vs,h1,h2,h3⟩:=zG Xu f1;have hl:vs.length=kvs.length:=by have:=eR List.length h2;simpa using this
   refine⟨_,_,rfl,Mh.k (k:=Sum.inr k0) h1 (by omega),?_⟩;have hd3:=hd.mono (e2.trans e3);obtain⟨hm4,e4⟩:=Xu.put (o:=.dK (yx vs (Sum.inr k0) v)) (c:=.dk (Bp kvs (.inr k0) d)) (yU f1) λex=>by obtain⟨g1,g2⟩:=JQ (k:=Sum.inr k0) (hd3.mono ex) h2 (h3.mono ex);exact⟨_,pY,g1,g2⟩
   exact k1 Y _ U _ (hs.mono (e1.trans (e2.trans (e3.trans e4)))) hm4 (e1.trans (e2.trans (e3.trans e4))) rfl q3
  .exact q3.elim⟩⟩⟩
variable {Wz:T0 (Uf × Obj)}{Y:St}{H:Hp}{s:Sd}
def Ex{a b:Uf}(I:Inv X Wz Y H s)(f:zN X Wz H b)(q:w9 X.K H a xs):a≠b:=by
 rintro rfl
 rcases q with q|⟨o,its,n,hk,_⟩
 .have z:=f.1;rcases q with q|⟨u,q⟩<;>(rw[q]at z;cases z)
 .have e:=I.mod.og a o hk;rcases f.2.2.2.1 with z|z
  .exact I.ok.nK a o e z
  .exact absurd (dS (dE e) (eh I.ok.nW z)) (eX _)
def RS(K:qp)(a b:Uf):It:=
 ⟨λi H=>∃xs ys x y,w9 K H a xs/\w9 K H b ys/\xs[i]?=Fa x/\ys[i]?=Fa y,λi H v H'=>∃p x y,v=.ref p/\H p=Db/\H'=upd H p (.tup [x,y])/\(∀xs,w9 K H a xs->xs[i]?=Fa x)/\(∀ys,w9 K H b ys->ys[i]?=Fa y),λi H=>∃xs ys,w9 K H a xs/\w9 K H b ys/\i=min xs.length ys.length⟩
def J9{P:Pg}{w:Wo}{K:qp}{WY:T0 Go}{n:Nat}{tp:Pos}(a b z TI TO i1 i2:Uf)(a1:TI≠z)(a2:TO≠z)(a3:i1≠z)(a4:i2≠z)(a5:TI≠TO)(a6:TI≠i1)(a7:TI≠i2)(a8:TO≠i1)(a9:TO≠i2)(oX:i1≠i2):
  E5 P w K (.Tuple WY n tp) (RS K a b) [z,TI,TO,i1,i2] z (λi h=>Z0 h z TI TO .none/\ZB h TI (.ref i1) (.ref i2)/\(∃u v,ZB h TO u v)/\h.IsListIter i1 a i/\h.IsListIter i2 b i) where
 mem:=by simp
 obj:=λi h st c hc=>by
  obtain⟨h1,h2,⟨u,v,h3⟩,⟨o4,h4,_,d4⟩,⟨o5,h5,_,d5⟩⟩:=st;simp only[c9,dq,d9]at hc;rcases hc with rfl|rfl|rfl|rfl|rfl
  .exact⟨_,h1,λv z=>by cases z⟩
  .exact⟨_,h2,λv z=>by cases z⟩
  .exact⟨_,h3,λv z=>by cases z⟩
  .exact⟨_,h4,λv z=>by rw[d4]at z;cases z⟩
  .exact⟨_,h5,λv z=>by rw[d5]at z;cases z⟩
 keep:=λi h h' st k=>by obtain⟨h1,h2,⟨u,v,h3⟩,⟨o4,h4,c4⟩,⟨o5,h5,c5⟩⟩:=st;exact⟨k z (by simp) _ h1,k TI (by simp) _ h2,⟨u,v,k TO (by simp) _ h3⟩,⟨o4,k i1 (by simp) _ h4,c4⟩,⟨o5,k i2 (by simp) _ h5,c5⟩⟩
 item:=by
  intro X hP hw hK hc i Wz s Y H E I hf st hg;subst hP hw hK;obtain⟨xs,ys,x,y,hx,hy,ex,ey⟩:=hg;obtain⟨its,rx,px,_⟩:=I.list hx;obtain⟨Xz,ry,py,_⟩:=I.list hy;obtain⟨u,eu,ru⟩:=rx.get ex;obtain⟨v,ev,rv⟩:=ry.get ey;obtain⟨h1,h2,⟨p,q,h3⟩,h4,h5⟩:=st;have hh:X.A.in1.handled=Db:=I.ok.hd hc;have fa:∀c∈[z,TI,TO,i1,i2],a≠c:=λc hc=>Ex I (hf c hc) hx;have fb:∀c∈[z,TI,TO,i1,i2],b≠c:=λc hc=>Ex I (hf c hc) hy;have WO:xy z TI TO i1 i2 [i1,a] [i2,b]:=⟨a1,a2,a3,a4,a5,a6,a7,a8,a9,oX,by
   simp only[c9,dq,d9,eO];exact⟨dG a3,dG (fa z (by simp))⟩,by
   simp only[c9,dq,d9,eO];exact⟨a8,dG (fa TO (by simp))⟩,by
   simp only[c9,dq,d9,eO];exact⟨dG oX,dG (fa i2 (by simp))⟩,by
   simp only[c9,dq,d9,eO];exact⟨dG a4,dG (fb z (by simp))⟩,by
   simp only[c9,dq,d9,eO];exact⟨a9,dG (fb TO (by simp))⟩,by
   simp only[c9,dq,d9,eO];exact⟨oX,dG (fb i1 (by simp))⟩⟩
  have l1:i<its.toArray.size:=by
   have:=(cZ.mp eu).1
   simpa using this
  have l2:i<Xz.toArray.size:=by
   have:=(cZ.mp ev).1
   simpa using this
  refine Ap (kl hh i1 a (fa i1 (by simp)) its.toArray) (kl hh i2 b (fb i2 (by simp)) Xz.toArray) WO h1 h2 h3 ⟨h4,px.isList⟩ ⟨h5,py.isList⟩ l1 l2 λx' y' g tk e1 e2 z1 o1 s1 s2 t1 sz kp=>?_;have e1':x'=u:=by
   have:its[i]?=Fa x':=by simpa using e1
   rw[eu]at this;exact(dv this).symm
  have Yn:y'=v:=by
   have:Xz[i]?=Fa y':=by simpa using e2
   rw[ev]at this;exact(dv this).symm
  subst e1' Yn;refine⟨_,rfl,ju z1 λg2 z2 sb=>?_⟩;have zlt:z<s.heap.objs.size:=dE h1;have kk:∀c o,c∉[z,TI,TO,i1,i2]->s.heap.get? c=Fa o->g2.get? c=Fa o:=λc o hc e=>by simp only[c9,dq,d9,eO]at hc;exact(sb.2 c hc.1).trans (kp c o hc.1 hc.2.2.1 hc.2.2.2.1 hc.2.2.2.2 e)
  have t2:g2.get? s.heap.objs.size=Fa {cls:=.type "tuple",data:=.seq #[x',y']}:=(sb.2 _ (gC zlt)).trans t1;have Yt:H s.heap.objs.size=Db:=I.mQ.fresh (dw _);have I2:=I.drawn (ch:=[z,TI,TO,i1,i2]) (T:=s.heap.objs.size) (xs:=[x,y]) (its:=[x',y']) (h':=g2) (tk:=tk) hf kk (dw _) (by show 2<=Ch;decide) (.cons ru (.cons rv .nil)) ⟨_,t2,rfl,⟨_,rfl⟩,rfl⟩;refine⟨.ref s.heap.objs.size,_,I2,rfl,⟨_,x,y,rfl,Yt,rfl,λxs' hx'=>by rw[I.nu hx' hx];exact ex,λys' hy'=>by rw[I.nu hy' hy];exact ey⟩,?_,λc hc=>?_⟩
  .obtain⟨o4,g4,c4⟩:=s1.1;obtain⟨o5,g5,c5⟩:=s2.1;exact⟨z2,(sb.2 _ a1).trans (kp _ _ a1 a5 a6 a7 h2),⟨_,_,(sb.2 _ a2).trans o1⟩,⟨o4,(sb.2 _ a3).trans g4,c4⟩,⟨o5,(sb.2 _ a4).trans g5,c5⟩⟩
  .have n0:=(hf c hc).1;obtain⟨o,eo⟩:∃o,s.heap.get? c=Fa o:=by
    obtain⟨o4,g4,_⟩:=h4;obtain⟨o5,g5,_⟩:=h5;simp only[c9,dq,d9]at hc;rcases hc with rfl|rfl|rfl|rfl|rfl
    .exact⟨_,h1⟩
    .exact⟨_,h2⟩
    .exact⟨_,h3⟩
    .exact⟨_,g4⟩
    .exact⟨_,g5⟩
   rw[pS (dQ (dE eo))];exact n0
 done:=by
  intro X hP hw hK hc i Wz s Y H E I hf st hg;subst hP hw hK;obtain⟨xs,ys,hx,hy,hi⟩:=hg;obtain⟨its,rx,px,_⟩:=I.list hx;obtain⟨Xz,ry,py,_⟩:=I.list hy;obtain⟨h1,h2,⟨p,q,h3⟩,h4,h5⟩:=st;have hh:X.A.in1.handled=Db:=I.ok.hd hc;have fa:∀c∈[z,TI,TO,i1,i2],a≠c:=λc hc=>Ex I (hf c hc) hx;have fb:∀c∈[z,TI,TO,i1,i2],b≠c:=λc hc=>Ex I (hf c hc) hy;have WO:xy z TI TO i1 i2 [i1,a] [i2,b]:=⟨a1,a2,a3,a4,a5,a6,a7,a8,a9,oX,by
   simp only[c9,dq,d9,eO];exact⟨dG a3,dG (fa z (by simp))⟩,by
   simp only[c9,dq,d9,eO];exact⟨a8,dG (fa TO (by simp))⟩,by
   simp only[c9,dq,d9,eO];exact⟨dG oX,dG (fa i2 (by simp))⟩,by
   simp only[c9,dq,d9,eO];exact⟨dG a4,dG (fb z (by simp))⟩,by
   simp only[c9,dq,d9,eO];exact⟨a9,dG (fb TO (by simp))⟩,by
   simp only[c9,dq,d9,eO];exact⟨oX,dG (fb i1 (by simp))⟩⟩
  have e1:=rx.length;have e2:=ry.length;refine xk (kl hh i1 a (fa i1 (by simp)) its.toArray) (kl hh i2 b (fb i2 (by simp)) Xz.toArray) WO h1 h2 h3 ⟨h4,px.isList⟩ ⟨h5,py.isList⟩ (by simp only[dA];omega) λg tk kp=>⟨rfl,?_⟩;have kk:∀c o,c∉[z,TI,TO,i1,i2]->s.heap.get? c=Fa o->g.get? c=Fa o:=λc o hc e=>by simp only[c9,dq,d9,eO]at hc;exact kp c o hc.1 hc.2.2.1 hc.2.2.2.1 hc.2.2.2.2 e
  refine I.step (g':=s.gens) (d':=s.drawn) (t':=tk) (ch:=[z,TI,TO,i1,i2]) (λc hc=>⟨(hf c hc).2.2.2.1,(hf c hc).2.1,(hf c hc).2.2.2.2.1,(hf c hc).2.2.2.2.2⟩) ?_ ?_ (λc o _ e n=>n) ?_ (λ_ _ e=>e) (λ_ _ _ e=>e) (λc ps e=>⟨#[],by rw[e];simp⟩) ?_ ?_ I.bare
  .exact λc o _ _ hc e _=>kk c o hc e
  .exact λc o _ _ hc e _=>⟨o.slots,kk c o hc e⟩
  .exact λc o hc e=>⟨o,kk c o hc e⟩
  .intro m hm;obtain⟨o,es,ep,ho,r⟩:=hm;exact⟨o,es,ep,kk _ o (λy=>(hf _ y).2.1 rfl) ho,r⟩
  .intro c u e;refine(I.mQ c u e).ni (λd v hd q=>kk d v (λy=>?_) q) (λ_ q=>q) λ_ _ q=>q;have n:=(hf d y).1;rcases hd with x|x
   .rw[x,e]at n;cases n
   .rw[x]at n;cases n
 self:=λ_ _ _ _ _ st h=>iH st.1 h
variable {tp:Pos}{WY:T0 Go}{n:Nat}
def PP{a b:Go}{ta:TA}(hg:Gl X "zip")(hm:X.mg "zip"=Db)(ha:PA X [a,b] ta)(hs:Tl [a,b] X.env=[(lf,wp a X.env),(lf,wp b X.env)]:=by rfl)(XH:Tl [b] X.env=[(lf,wp b X.env)]:=by rfl):
  PI X (.Tuple WY n tp) (.Call (.Name "zip" p) [a,b] [] pos) (λY H R=>ta Y H λvs H1=>∃l m,vs=[.ref l,.ref m]/\(∃xs,w9 X.K H1 l xs)/\(∃xs,w9 X.K H1 m xs)/\R (RS X.K l m) H1):=by
 intro Wz s Y H R I h;refine Call_ (xb I hg hm KZ (fP (sy (ha pos Wz s Y H _ I h) λus s1 zz=>x5 zz λvs H1 I1 r1 q1=>?_) (by rw[hs,XH]) (by rw[XH];rfl)));obtain⟨l,m,e,⟨xs,hx⟩,⟨ys,hy⟩,q⟩:=q1;subst e;obtain⟨u,v,rfl,ru,rv⟩:=Io r1;cases ru;cases rv;obtain⟨its,_,px,_⟩:=I1.list hx;obtain⟨Xz,_,py,_⟩:=I1.list hy;refine call_zip_2 px.isList py.isList λg h1 h2 h3 h4 h5 _ hk=>iH h1 ?_;have I2:Inv X Wz Y H1 {s1 with heap:=g}:=I1.kept (t':=s1.toks) hk;refine⟨s1.heap.objs.size+4,[s1.heap.objs.size+4,s1.heap.objs.size+2,s1.heap.objs.size+3,s1.heap.objs.size,s1.heap.objs.size+1],_,_,H1,rfl,I2,J9 l m _ _ _ _ _ ?_ ?_ ?_ ?_ ?_ ?_ ?_ ?_ ?_ ?_,⟨h1,h2,⟨_,_,h3⟩,h4,h5⟩,λb hb=>?_,q⟩
 .exact λz=>by have z:s1.heap.objs.size+2=s1.heap.objs.size+4:=z;omega
 .exact λz=>by have z:s1.heap.objs.size+3=s1.heap.objs.size+4:=z;omega
 .exact λz=>by have z:s1.heap.objs.size=s1.heap.objs.size+4:=z;omega
 .exact λz=>by have z:s1.heap.objs.size+1=s1.heap.objs.size+4:=z;omega
 .exact λz=>by have z:s1.heap.objs.size+2=s1.heap.objs.size+3:=z;omega
 .exact λz=>by have z:s1.heap.objs.size+2=s1.heap.objs.size:=z;omega
 .exact λz=>by have z:s1.heap.objs.size+2=s1.heap.objs.size+1:=z;omega
 .exact λz=>by have z:s1.heap.objs.size+3=s1.heap.objs.size:=z;omega
 .exact λz=>by have z:s1.heap.objs.size+3=s1.heap.objs.size+1:=z;omega
 .exact λz=>by have z:s1.heap.objs.size=s1.heap.objs.size+1:=z;omega
 .have Xe:s1.heap.objs.size<=b:=by
   simp only[c9,dq,d9]at hb;rcases hb with rfl|rfl|rfl|rfl|rfl
   .exact gi _ _
   .exact gi _ _
   .exact gi _ _
   .exact dw _
   .exact gi _ _
  exact I1.nP Xe (I1.mQ.fresh Xe)
def Nr{K:qp}{a b:Uf}{ds es:T0 D}:Ei K H1 (RS K a b) (xS ds es) (λM=>oK M a=Fa ds/\oK M b=Fa es) where
 go:=λi H M hi hm ok _=>by rw[zj]at hi;obtain⟨xs,h1,h2,_⟩:=pU hm ok.1;obtain⟨ys,g1,g2,_⟩:=pU hm ok.2;obtain⟨x,e1,_⟩:=h2.get (cX (show i<ds.length by omega));obtain⟨y,e2,_⟩:=g2.get (cX (show i<es.length by omega));exact⟨xs,ys,x,y,h1,g1,e1,e2⟩
 oQ:=λi d H M x H' hd hm ok _ y=>by
  obtain⟨xs,h1,h2,_⟩:=pU hm ok.1;obtain⟨ys,g1,g2,_⟩:=pU hm ok.2;obtain⟨p,u,v,rfl,hp,rfl,y1,y2⟩:=y;rw[L3.Fy]at hd;cases e:ds[i]? with
  | none=>rw[e]at hd;cases hd
  | some d'=>
   cases e':es[i]? with
   | none=>rw[e,e']at hd;cases hd
   | some c'=>rw[e,e']at hd;cases hd;obtain⟨x',q1,hx⟩:=h2.get e;obtain⟨z',q2,hz⟩:=g2.get e';have w1:=y1 xs h1;have w2:=y2 ys g1;rw[q1]at w1;rw[q2]at w2;have v1:x'=u:=dv w1;have v2:z'=v:=dv w2;subst v1 v2;have ex:qO K H (upd H p (.tup [x',z'])):=.new hp;exact⟨.tup (.of pY) (.cons (hx.mono ex) (.cons (hz.mono ex) .nil)),hm.add hp,ex⟩
 stop:=λH M hm ok _=>by obtain⟨xs,h1,h2,_⟩:=pU hm ok.1;obtain⟨ys,g1,g2,_⟩:=pU hm ok.2;exact⟨xs,ys,h1,g1,by rw[zj,h2.length,g2.length]⟩
def SH(t:xn):Na:=λU M R=>t U M λds M1=>match ds with
 | [.ref a,.ref b]=>(oK M1 a).elim False λxs=>(oK M1 b).elim False λys=>R (xS xs ys) (λM=>oK M a=Fa xs/\oK M b=Fa ys) M1
 | _=>False
def P4{a b:Go}{ta:xn}(hg:Gl X "zip")(hm:X.mg "zip"=Db)(ha:A3 X [a,b] ta)(hs:Tl [a,b] X.env=[(lf,wp a X.env),(lf,wp b X.env)]:=by rfl)(XH:Tl [b] X.env=[(lf,wp b X.env)]:=by rfl):
  I3 X (.Tuple WY n tp) (.Call (.Name "zip" p) [a,b] [] pos) (SH ta):=
 PI.mono (PP hg hm ha hs XH) λY H R' zz=>x7 zz λU M R hs hm ht k=>⟨U,M,_,hs,hm,ht,λvs H1 ds M1 hd WA e1 q1=>by
  split at q1
  .obtain⟨xs,f1,q1⟩:=qN q1;obtain⟨ys,f2,q1⟩:=qN q1;obtain⟨v,u,rfl,hv,hw⟩:=Ba hd;cases hv.mH;cases hw.mH;obtain⟨us,h1,_⟩:=pU WA f1;obtain⟨ws,g1,_⟩:=pU WA f2;exact⟨_,_,rfl,⟨us,h1⟩,⟨ws,g1⟩,k _ H1 _ _ M1 Nr WA e1 ⟨f1,f2⟩ q1⟩
  .exact q1.elim⟩
end L3
namespace L2
open Builtin Builtin.Str
variable {prog:Pg}{w:Wo}{A:Ar}{E:QQX}{s:Sd}{X:Cx}
end L2
namespace L3
open L2 Builtin Builtin.Str
variable {X:Cx}{pos WD:Pos}{o e:Go}{es:T0 Go}{ta:T3}{t:xn}
@[irreducible] def SsI (X:Cx) (st:T0 sB) (t:xu):Prop:=GX X st t
@[irreducible] def SI (X:Cx) (st:sB) (t:xu):Prop:=S3 X st t
@[irreducible] def EI (X:Cx) (e:Go) (t:T3):Prop:=E3 X e t
@[irreducible] def AI (X:Cx) (es:T0 Go) (t:xn):Prop:=A3 X es t
variable {prog:Pg}{w:Wo}{A:Ar}{E:QQX}{s:Sd}{Wz:T0 (Uf × Obj)}{Y:St}{H:Hp}{p tp:Pos}{WY:T0 Go}{n:Nat}
theorem vj{g:D3}{tt:Az}{te:T3}{ok:Mp->Prop}{Q:DK}(all:T0 D)(J:T0 D->T0 D->vJ->Mp->Prop)(mQ:∀p acc U M,J p acc U M->ok M):∀(ds pre acc:T0 D) (U:vJ) (M:Mp),pre++ds=all->acc.length+ds.length<=Ch->J pre acc U M->
  (∀pre d post,pre++d::post=all->∀acc U M,J pre acc U M->∀(k:vJ->DK) (k2:vJ->Mp->Prop),(∀δ2 y M4,J (pre++[d]) (acc++[y]) δ2 M4->k δ2 y M4)->(∀δ2 M3,J (pre++[d]) acc δ2 M3->k2 δ2 M3)->g d U M λδ2 M2=>tt δ2 M2 λb M3=>if b=pc then te δ2 M3 (k δ2)else k2 δ2 M3)->
  (∀acc U M,J all acc U M->∀p,M p=Db->Q (.ref p) (pB M p (.lst acc)))->uX g tt te ok Q ds acc U M
 | [],pre,acc,U,M,e,hl,j,_,hq=>⟨by simpa using hl,hq acc U M (by rw[<-e,e9];exact j)⟩
 | d::r,pre,acc,U,M,e,hl,j,ht,hq=>by rw[eB]at hl;refine⟨by omega,?_⟩;refine ht pre d r e acc U M j (λδ2 y M4=>ok M4/\uX g tt te ok Q r (acc++[y]) δ2 M4) (λδ2 M3=>ok M3/\uX g tt te ok Q r acc δ2 M3) (λδ2 y M4 j'=>⟨mQ _ _ _ _ j',vj all J mQ r (pre++[d]) (acc++[y]) δ2 M4 (by rw[<-e,fj];rfl) ?_ j' ht hq⟩) λδ2 M3 j'=>⟨mQ _ _ _ _ j',vj all J mQ r (pre++[d]) acc δ2 M3 (by rw[<-e,fj];rfl) (by omega) j' ht hq⟩;rw[cY,dJ];omega
end L3
namespace L2
def Cx.nS(X:Cx)(E:QQX):Cx:={X with xe:=E}
def Inv.nS{E:QQX}{Wz:QQY}(I:Inv X Wz Y H s):Inv (X.nS E) Wz Y H s:=
 ⟨⟨I.ok.mod,I.ok.kind,I.ok.glob,I.ok.blt,I.ok.above,I.ok.inj,I.ok.has,I.ok.oo,I.ok.hd,I.ok.frames,I.ok.oE,I.ok.oS,I.ok.bs,I.ok.nW,I.ok.nK,I.ok.nU,I.ok.ny,I.ok.oh⟩,I.os,I.bare,I.base,I.loc,I.cell,I.free,I.mX,I.pin,I.mQ,I.len⟩
def Inv.xeOf{X:Cx}{E:QQX}{Wz:QQY}(I:Inv (X.nS E) Wz Y H s):Inv X Wz Y H s:=
 ⟨⟨I.ok.mod,I.ok.kind,I.ok.glob,I.ok.blt,I.ok.above,I.ok.inj,I.ok.has,I.ok.oo,I.ok.hd,I.ok.frames,I.ok.oE,I.ok.oS,I.ok.bs,I.ok.nW,I.ok.nK,I.ok.nU,I.ok.ny,I.ok.oh⟩,I.os,I.bare,I.base,I.loc,I.cell,I.free,I.mX,I.pin,I.mQ,I.len⟩
end L2
namespace L3
open L2
end L3
namespace L2
end L2
namespace L3
open L2
variable {X:Cx}{pos p tp kpos:Pos}{WY:T0 Go}{n:Nat}
end L3
namespace L2
variable {prog:Pg}{w:Wo}{A:Ar}{E:QQX}{s:Sd}{a:Uf}{U:Type}{k:Str}{tk:Tok}
section
variable {R:U→Vl→Prop}{D:T0 (Str × U)}
end
end L2
namespace L3
open L2
variable {X:Cx}{pos p:Pos}{x:Str}{d:D}{e o i:Go}{ta tb td tk:T3}{F:T0 (Str × QQQ)}
end L3
namespace L2
def Mi(h:No)(e:Uf)(cls:Vl)(dx tb:Option Uf)(F:Vl):Prop:=
 ∃oe vs,h.get? e=Fa oe/\oe.cls=cls/\oe.dict=dx/\oe.data=.fields vs/\1<vs.size/\vs[1]?=Fa (tb.elim Value.none Value.ref)/\∀T,tb=Fa T->T≠e/\∃oT ts,h.get? T=Fa oT/\oT.data=.fields ts/\3<ts.size/\ts[3]?=Fa F
def OB(h:No)(e:Uf)(cls:Vl)(dx tb:Option Uf):Prop:=Mi h e cls dx tb Value.none
theorem Cn{h base:No}:∀{l:T0 Env} {b:Uf},h.FunFrames base l->b∈wk l->∃o,h.get? b=Fa o/\∀vs,o.data≠.fields vs
 | [],b,_,hb=>by cases hb
 | env::r,b,hF,hb=>by
  obtain⟨_,⟨L,o,hL,_,ho,hd⟩,hr⟩:=hF;have e:wk (env::r)=L::wk r:=by unfold wk;rw[gc,hL]
  rw[e]at hb;rcases c9.mp hb with z|z
  .rw[z];exact⟨o,ho,hd⟩
  .exact Cn hr z
def Dy{h base:No}{l:T0 Env}{b:Uf}{o:Obj}{vs:Array Vl}(hF:h.FunFrames base l)(ho:h.get? b=Fa o)(hd:o.data=.fields vs):b∉wk l:=λhb=>by obtain⟨o',Xg,hn⟩:=Cn hF hb;rw[ho]at Xg;cases Xg;exact hn vs hd
variable {M:Model}{A:Ar}{s:Sd}{base:No}{env:Env}{outer:T0 Env}{L e:Uf}{cls:Vl}{dx:Option Uf}{Q:Unit→Sd→Prop}
section
variable {E:QQX}
def Pp{XX:Vl}{YS:Bool}{oe:Obj}{vs:Array Vl}{Xh:Env}(hcf:Xh.frame=Fa L)(YD:A.frames=Fa (env::outer))(hF:s.heap.FunFrames base (env::outer))(hL:env.frame=Fa L)(ho:s.heap.get? e=Fa oe)(hd:oe.data=.fields vs)(h1:1<vs.size) (k:∀(h':No) (T:Uf),s.heap.get? T=Db->(∀b o,s.heap.get? b=Fa o->b∉wk (env::outer)->b≠e->h'.get? b=Fa o)->(∀b o,s.heap.get? b=Fa o->b∈wk (env::outer)->∃sl,h'.get? b=Fa {o with slots:=sl})->
   (∃oe',h'.get? e=Fa oe'/\oe'.cls=oe.cls/\oe'.dict=oe.dict/\oe'.data=.fields (vs.setIfInBounds 1 (.ref T)))->(∃oT ts,h'.get? T=Fa oT/\oT.data=.fields ts/\3<ts.size/\ts[3]?=Fa (wT ↑L))->Q () {s with heap:=h'}):
  pi M A (do
   let a<-PySem.frameOf Xh;let pl<-entryPlaceOf L YS;let b<-EntryCells.newEntry XX a Value.none (wT ↑L) Value.none pl
   setField (Value.ref e) 1 b) Q E s:=by
 have ne:=Dy hF ho hd;unfold PySem.frameOf;refine cW (cW (wpAny_frameEnvs YD (cW ?_)));have ed:List.dropWhile (λx=>x.frame != Xh.frame) (env::outer)=env::outer:=by rw[List.dropWhile_cons,de (by rw[hL,hcf];simp)]
 rw[ed];unfold frameObject;refine cW (wpAny_readyFrames_fun hF λXj hs=>?_);obtain⟨z1,z2,z3⟩:=hs;rw[hL];refine dz (dz ?_);refine cW (wpAny_entryPlaceOf λpl hp=>?_);refine cW ?_;unfold EntryCells.newEntry newFields;have WE:([XX,Value.ref L,Value.none,wT ↑L,Value.none]++if pl.isEmpty=pc then List.replicate 6 Value.none else pl).length=11:=by rw[cY];rcases hp with rfl|⟨_,_,_,_,_,_,_,rfl⟩<;>rfl
 have hfl:([XX,Value.ref L,Value.none,wT ↑L,Value.none]++if pl.isEmpty=pc then List.replicate 6 Value.none else pl)[3]?=Fa (wT ↑L):=rfl;generalize ([XX,Value.ref L,Value.none,wT ↑L,Value.none]++if pl.isEmpty=pc then List.replicate 6 Value.none else pl)=fs at WE hfl ⊢;refine fZ ?_ (by
  show fs.toArray.size<=_;rw[dA,WE];decide)
 have e1:Xj.get? e=Fa oe:=by rw[z2 e ne];exact ho
 have e2:(Xj.push {cls:=.type "traceback",data:=.fields fs.toArray}).get? e=Fa oe:=df _ e1;refine hZ e2 hd h1 ?_;have tn:s.heap.get? Xj.objs.size=Db:=gM (by rw[z1];exact dw _);have te:Xj.objs.size≠e:=λz=>by rw[z,ho]at tn;cases tn
 obtain⟨oc,od,ZH,Xt⟩:=oe;obtain rfl:ZH=.fields vs:=hd;have up:∀b,e≠b->((Xj.push {cls:=.type "traceback",data:=.fields fs.toArray}).update e (Obj.mapFields λx=>x.setIfInBounds 1 (.ref Xj.objs.size))).get? b=(Xj.push {cls:=.type "traceback",data:=.fields fs.toArray}).get? b:=λb z=>gg _ _ z;refine k _ Xj.objs.size tn (λb o hb nf ne'=>?_) (λb o hb hf=>?_) ⟨_,fO _ e2 rfl,rfl,rfl,rfl⟩ ⟨_,fs.toArray,(up _ (dG te)).trans (dI _ rfl),rfl,by rw[dA,WE];decide,by rw[iJ];exact hfl⟩
 .rw[up b (dG ne')];exact df _ (by rw[z2 b nf];exact hb)
 .obtain⟨sl,q⟩:=z3 b o hb;refine⟨sl,?_⟩;rw[up b (λz=>ne (z ▸ hf))];exact df _ q
def QG{E₁:QQX}{tb:Option Uf}{F:Vl}{Xh:Env}(hcf:Xh.frame=Fa L)(YD:A.frames=Fa (env::outer))(hF:s.heap.FunFrames base (env::outer))(hL:env.frame=Fa L)(hx:Mi s.heap e cls dx tb F)(hFL:(F==wT ↑L)=lf) (k:∀(h':No) (T:Uf),s.heap.get? T=Db->(∀b o,s.heap.get? b=Fa o->b∉wk (env::outer)->b≠e->tb≠Fa b->h'.get? b=Fa o)->(∀b o,s.heap.get? b=Fa o->b∈wk (env::outer)->∃sl,h'.get? b=Fa {o with slots:=sl})->
   (∀b,h'.get? b=Db->s.heap.get? b=Db)->Mi h' e cls dx (Fa T) (wT ↑L)->Q () {s with heap:=h'}):pi M A (noteFrame (.ref e) Xh) Q E₁ s:=by
 obtain⟨oe,vs,ho,hc,Zb,hd,h1,hv,hT⟩:=hx;have ne:=Dy hF ho hd;unfold noteFrame;rw[hcf];refine cW (fm ho hd hv ?_);have WB:∀(s1:Sd) (oe1:Obj),s1.gens=s.gens->s1.drawn=s.drawn->s1.toks=s.toks->s1.os=s.os->s1.heap.FunFrames base (env::outer)->s1.heap.get? e=Fa oe1->oe1.cls=cls->oe1.dict=dx->oe1.data=.fields vs->(∀b o,s.heap.get? b=Fa o->b∉wk (env::outer)->b≠e->tb≠Fa b->s1.heap.get? b=Fa o)->
   (∀b o,s.heap.get? b=Fa o->b∈wk (env::outer)->s1.heap.get? b=Fa o)->(∀b,s1.heap.get? b=Db↔s.heap.get? b=Db)->∀(XX:Vl) (YS:Bool),pi M A (do
   let a<-PySem.frameOf Xh;let pl<-entryPlaceOf L YS;let b<-EntryCells.newEntry XX a Value.none (wT ↑L) Value.none pl
   setField (Value.ref e) 1 b) Q E₁ s1:=by
  intro s1 oe1 g1 g2 g3 g4 hF1 ho1 hc1 hdx1 hd1 kb kf kn XX YS;refine Pp hcf YD hF1 hL ho1 hd1 h1 λh' T tn k1 k2 ⟨oe',he',ZG,hdxe,hde⟩ ⟨oT,ts,XJ,Yi,h3,h3v⟩=>?_;have te:T≠e:=λz=>by rw[z,ho1]at tn;cases tn
  have:=k h' T ((kn T).mp tn) (λb o hb nf nb nt=>k1 b o (kb b o hb nf nb nt) nf nb) (λb o hb hf=>k2 b o (kf b o hb hf) hf) (λb hb=>?_) ⟨oe',vs.setIfInBounds 1 (.ref T),he',ZG.trans hc1,hdxe.trans hdx1,hde,by rw[jG];exact h1,by rw[ij h1];rfl,λT' eT=>?_⟩
  .show Q () {heap:=_,gens:=s1.gens,drawn:=s1.drawn,toks:=s1.toks,os:=s1.os};rw[g1,g2,g3,g4];exact this
  .refine(kn b).mp ?_;cases q:s1.heap.get? b with
   | none=>rfl
   | some o=>
    by_cases z:b=e
    .rw[z,he']at hb;cases hb
    .by_cases zf:b∈wk (env::outer)
     .obtain⟨sl,q2⟩:=k2 b o q zf;rw[q2]at hb;cases hb
     .rw[k1 b o q zf z]at hb;cases hb
  .cases eT;exact⟨te,oT,ts,XJ,Yi,h3,h3v⟩
 cases tb with
 | none=>rw[de (show ¬((Db:Option Uf).elim Value.none Value.ref != Value.none)=pc by decide+kernel)];exact WB s oe rfl rfl rfl rfl hF ho hc Zb hd (λb o hb _ _ _=>hb) (λb o hb _=>hb) (λb=>.rfl) _ _
 | some T=>
  obtain⟨nTe,oT,ts,XJ,Yi,h3,hn⟩:=hT T rfl;rw[dh (show((Fa T:Option Uf).elim Value.none Value.ref != Value.none)=pc by rfl)];refine cW (fm XJ Yi hn ?_);rw[de (by rw[hFL];exact dC)];refine cW (hZ XJ Yi h3 ?_);have up:∀b,T≠b->(s.heap.update T (Obj.mapFields λx=>x.setIfInBounds 3 .none)).get? b=s.heap.get? b:=λb z=>gg _ _ z;have nf:∀b o,s.heap.get? b=Fa o->(∀vs,o.data≠.fields vs)->T≠b:=λb o hb hn z=>by rw[<-z,XJ]at hb;cases hb;exact hn ts Yi
  have sz:∀b,(s.heap.update T (Obj.mapFields λx=>x.setIfInBounds 3 .none)).get? b=Db↔s.heap.get? b=Db:=λb=>by
   by_cases z:T=b
   .rw[<-z];obtain⟨oc,od,ZH,Xt⟩:=oT;obtain rfl:ZH=.fields ts:=Yi;rw[fO _ XJ rfl,XJ];exact⟨(λq=>by cases q),(λq=>by cases q)⟩
   .rw[up b z]
  exact WB {s with heap:=s.heap.update T (Obj.mapFields λx=>x.setIfInBounds 3 .none)} oe rfl rfl rfl rfl (mz (λb o hb hn=>⟨o,(up b (nf b o hb hn)).trans hb,rfl⟩) hF) ((up e nTe).trans ho) hc Zb hd
   (λb o hb _ _ nt=>(up b λz=>nt (by rw[z])).trans hb) (λb o hb hf=>by
    obtain⟨o',Xg,hn⟩:=Cn hF hf;rw[hb]at Xg;cases Xg;exact(up b (nf b o hb hn)).trans hb) sz _ _
def K6{T:Uf}{F:Vl}(x:Option Uf)(hx:Mi s.heap e cls dx (Fa T) F)(k:∀h':No,(∀b,T≠b->h'.get? b=s.heap.get? b)->(∀b,h'.get? b=Db↔s.heap.get? b=Db)->Mi h' e cls dx (Fa T) (x.elim .none λf=>wT f)->Q () {s with heap:=h'}):pi M A (setFlight (.ref e) x) Q E s:=by
 obtain⟨oe,vs,ho,hc,Zb,hd,h1,hv,hT⟩:=hx;obtain⟨nTe,oT,ts,XJ,Yi,h3,hn⟩:=hT T rfl;unfold setFlight;refine cW (fm ho hd hv ?_);rw[dh (by rfl)];refine hZ XJ Yi h3 ?_;obtain⟨oc,od,ZH,Xt⟩:=oT;obtain rfl:ZH=.fields ts:=Yi;have up:∀b,T≠b->(s.heap.update T (Obj.mapFields λy=>y.setIfInBounds 3 (x.elim .none λf=>wT f))).get? b=s.heap.get? b:=λb z=>gg _ _ z;refine k _ up (λb=>?_) ⟨oe,vs,(up e nTe).trans ho,hc,Zb,hd,h1,hv,λT' eT=>?_⟩
 .by_cases z:T=b
  .rw[<-z,fO _ XJ rfl,XJ];exact⟨(λq=>by cases q),(λq=>by cases q)⟩
  .rw[up b z]
 .cases eT;exact⟨nTe,_,ts.setIfInBounds 3 (x.elim .none λf=>wT f),fO _ XJ rfl,rfl,by rw[jG];exact h3,by rw[ij h3]⟩
def IR{E₁ E₂:QQX}{tb:Option Uf}(YD:A.frames=Fa (env::outer))(hF:s.heap.FunFrames base (env::outer))(hL:env.frame=Fa L)(hx:OB s.heap e cls dx tb) (k:∀(h':No) (T:Uf),s.heap.get? T=Db->(∀b o,s.heap.get? b=Fa o->b∉wk (env::outer)->b≠e->tb≠Fa b->h'.get? b=Fa o)->(∀b o,s.heap.get? b=Fa o->b∈wk (env::outer)->∃sl,h'.get? b=Fa {o with slots:=sl})->
   OB h' e cls dx (Fa T)->Q () {s with heap:=h'}):pi M A (noteFrame (.ref e) env) (λ_ s₂=>pi M A (setFlight (.ref e) Db) Q E₂ s₂) E₁ s:=by
 refine QG hL YD hF hL hx (dB.mpr λz=>by have:=fk.mp z;cases this) λh' T tn k1 k2 _ x'=>?_;refine K6 Db x' λh2 up _ x2=>k h2 T tn (λb o hb nf nb nt=>?_) (λb o hb hf=>?_) x2
 .have tb:T≠b:=λz=>by rw[z,hb]at tn;cases tn
  exact(up b tb).trans (k1 b o hb nf nb nt)
 .have tb:T≠b:=λz=>by rw[z,hb]at tn;cases tn
  obtain⟨sl,q⟩:=k2 b o hb hf;exact⟨sl,(up b tb).trans q⟩
def P9{tb:Option Uf}(YD:A.frames=Fa (env::outer))(hF:s.heap.FunFrames base (env::outer))(hL:env.frame=Fa L)(hx:OB s.heap e cls dx tb) (k:∀(h':No) (T:Uf),s.heap.get? T=Db->(∀b o,s.heap.get? b=Fa o->b∉wk (env::outer)->b≠e->tb≠Fa b->h'.get? b=Fa o)->(∀b o,s.heap.get? b=Fa o->b∈wk (env::outer)->∃sl,h'.get? b=Fa {o with slots:=sl})->
   OB h' e cls dx (Fa T)->Q () {s with heap:=h'}):pi M A (leaving env (.ref e)) Q E s:=cW (IR YD hF hL hx k)
end
def Ci(P:Pg)(w:Wo):Kw:=λouter H s E ev s'=>GY λe C dx H' tb=>ev=.ref e/\E (.ref C) dx H'/\s'.os=s.os/\Z1 s'.gens/\Un (wk outer) [] H H' s.heap s'.heap/\yk P w H' s'.heap/\
 OB s'.heap e (.ref C) dx (Fa tb)/\s.heap.get? e=Db/\s.heap.get? tb=Db/\H' e=Db/\H' tb=Db
def vS{o:HO}(x:sj P w H h a o):∃ob,h.get? a=Fa ob:=by
 cases o with
 | lst xs=>obtain⟨_,_,_,_,e⟩:=x;exact⟨_,e⟩
 | tup xs=>obtain⟨_,_,_,o,e,_⟩:=x;exact⟨_,e⟩
 | dK kvs=>obtain⟨_,_,_,_,o,_,_,e,_⟩:=x;exact⟨_,e⟩
 | dT kvs=>obtain⟨_,_,_,_,o,_,_,e,_⟩:=x;exact⟨_,e⟩
 | set S n=>obtain⟨o,_,_,_,e,_⟩:=x;exact⟨_,e⟩
 | ins C dx fs=>obtain⟨_,_,_,e,_⟩:=x;exact⟨_,e⟩
 | own y=>exact x
 | xd fs=>obtain⟨_,⟨_,_,_,e,_⟩,_⟩:=x;exact⟨_,e⟩
 | rng lo hi=>obtain⟨_,_,_,e⟩:=x;exact⟨_,e⟩
 | frz ob u=>obtain⟨e,_⟩:=x;exact⟨_,e⟩
 | tbl ps=>exact⟨_,x⟩
 | met f y=>exact⟨_,x⟩
 | ext φ=>obtain⟨_,e,_⟩:=x;exact e
def zC{T:Uf}(mQ:yk P w H h)(tn:h.get? T=Db):H T=Db:=by
 cases z:H T with
 | none=>rfl
 | some o=>obtain⟨ob,hob⟩:=vS (mQ T o z);rw[hob]at tn;cases tn
variable {P:Pg}{w:Wo}{K:qp}{mg:QQZ}{N:QQQ}{qual:Str}{scope:XV}{f:Uf}{cd:Vl}{s0:Sd}{H0:Hp}
section
variable {E:XK}
def GJ(u:Un fs ex H H' h h')(hex:ex=[]){b:Uf}(hb:h'.get? b=Db):h.get? b=Db:=by
 cases q:h.get? b with
 | none=>rfl
 | some o=>obtain⟨o',e⟩:=u.there b o q (by rw[hex];simp);rw[e]at hb;cases hb
def Ml{Wz:QQY}{e C T:Uf}{tb dx:Option Uf}{h':No}(I:Inv (vp (Ci P w) P w K mg base N qual scope f cd A outer s0 H0 E) Wz Y H s)(he:s0.heap.get? e=Db)(Xi:∀T,tb=Fa T->s0.heap.get? T=Db/\H T=Db)(hn:H e=Db)(q:E (.ref C) dx H)(hT:s0.heap.get? T=Db/\H T=Db) (k1:∀b o,s.heap.get? b=Fa o->b∉wk (dL qual scope s0.heap.objs.size f cd::outer)->b≠e->tb≠Fa b->h'.get? b=Fa o) (k2:∀b o,s.heap.get? b=Fa o->b∈wk (dL qual scope s0.heap.objs.size f cd::outer)->∃sl,h'.get? b=Fa {o with slots:=sl}) (x':OB h' e (.ref C) dx (Fa T)):
  Ci P w outer H0 s0 E (.ref e) {s with heap:=h'}:=by
 have Xl:=I.nF;have WM:∀b o,H b=Fa o->∀u,s.heap.get? b=Fa u->h'.get? b=Fa u:=λb o hb u hu=>k1 b u hu (λz=>by rw[Xl b z]at hb;cases hb) (λz=>by rw[z,hn]at hb;cases hb) (λz=>by rw[(Xi b z).2]at hb;cases hb);have oldf:∀b o,s0.heap.get? b=Fa o->b∉wk [dL qual scope s0.heap.objs.size f cd]:=λb o hb z=>by
  have:b=s0.heap.objs.size:=by have hz:b∈[s0.heap.objs.size]:=z;exact dg.mp hz
  rw[this]at hb;exact absurd (dE hb) (eX _)
 have fr:∀b,b∈wk (dL qual scope s0.heap.objs.size f cd::outer)->b∈wk [dL qual scope s0.heap.objs.size f cd]\/b∈wk outer:=λb hb=>by
  have hb:b∈s0.heap.objs.size::wk outer:=hb;rcases c9.mp hb with z|z
  .exact .inl (by rw[z];exact dN)
  .exact .inr z
 have W4:Un (wk outer) [] H0 H s0.heap s.heap:=I.base;refine⟨e,C,dx,H,T,rfl,q,I.os,I.bare,⟨λb o hb h0 nf ne=>?_,λb o hb h0 hf ne=>?_,W4.free,λb o hb ne=>?_,W4.nE,W4.nv,W4.nG⟩,λb o hb=>?_,x',he,hT.1,hn,hT.2⟩
 .have hs:=W4.keep b o hb h0 nf ne;refine k1 b o hs (λz=>?_) (λz=>by rw[z,he]at hb;cases hb) λz=>by rw[(Xi b z).1]at hb;cases hb
  rcases fr b z with z|z
  .exact oldf b o hb z
  .exact nf z
 .obtain⟨sl,hs⟩:=W4.slot b o hb h0 hf ne;have:b∈wk (dL qual scope s0.heap.objs.size f cd::outer):=dH _ hf;obtain⟨X6,h2⟩:=k2 b _ hs this;exact⟨X6,h2⟩
 .obtain⟨o',hs⟩:=W4.there b o hb ne;by_cases z:b∈wk (dL qual scope s0.heap.objs.size f cd::outer)
  .obtain⟨sl,h2⟩:=k2 b o' hs z;exact⟨_,h2⟩
  .exact⟨o',k1 b o' hs z (λz=>by rw[z,he]at hb;cases hb) λz=>by rw[(Xi b z).1]at hb;cases hb⟩
 .refine(I.mQ b o hb).ni (λb' u Xe hu=>?_) (λ_ q=>q) λ_ _ q=>q;rcases Xe with z|z
  .subst z;exact WM b' o hb u hu
  .exact WM b' _ z u hu
def T7{Wz:QQY}{e C:Uf}{tb dx:Option Uf}(I:Inv (vp (Ci P w) P w K mg base N qual scope f cd A outer s0 H0 E) Wz Y H s)(hx:OB s.heap e (.ref C) dx tb)(he:s0.heap.get? e=Db)(hT:∀T,tb=Fa T->s0.heap.get? T=Db/\H T=Db)(hn:H e=Db)(q:E (.ref C) dx H):
  (vp (Ci P w) P w K mg base N qual scope f cd A outer s0 H0 E).xe (.ref e) s:=
 P9 (base:=base) (outer:=outer) I.ok.frames I.stack rfl hx λh' T tn k1 k2 x'=>Ml I he hT hn q ⟨GJ (show Un (wk outer) [] H0 H s0.heap s.heap from I.base) rfl tn,zC I.mQ tn⟩ k1 k2 x'
end
section
variable {E:XK}
end
def NJ(d:Uf)(f:Str)(v:V)(h:No):Prop:=∃u,h.Ns1 d (λy=>if y=f then Fa u else Db)/\qH v u
end L2
namespace L3
open L2
abbrev XR:=Uf->Option (Str×D)->Mp->Prop
abbrev FW:=T0 D->Mp->DK->XR->Prop
def SW(K:qp)(H:Hp)(dx:Option Uf)(y:Option (Str×D)):Prop:=(dx=Db/\y=Db)\/BA λd f z v=>dx=Fa d/\y=Fa (f,z)/\H d=Fa (.ext (NJ d f v))/\rL K H z v
def Tw(K:qp)(R:XR)(E:XK):Prop:=∀C dx H M y,HM K H M->SW K H dx y->R C y M->E (.ref C) dx H
def VM(K:qp)(sp:FW):Sp:=λvs H Q' E=>BA λds M Q R=>qc K H ds vs/\HM K H M/\sp ds M Q R/\Up K H Q' Q/\Tw K R E
abbrev RG(P:Pg)(w:Wo)(K:qp)(mg:QQZ)(base:No)(k:Nat)(f:Uf)(fd:Rs)(ps:QQQ)(sp:FW):Prop:=xp P w K mg base (Ci P w) k f fd ps (VM K sp)
variable {X:Cx}{x:Str}{p pos np WH:Pos}{e:Go}{es:T0 Go}{t:xn}{k:Nat}{f C:Uf}{fd:Rs}{ps:QQQ}{sp:FW}{R:XR}{E:XK}{P:Pg}{w:Wo}{K:qp}{mg:QQZ}{base:No}{N:QQQ}{qual:Str}{scope:XV}{cd:Vl}{A:Ar}{outer:T0 Env}{s0:Sd}{H0:Hp}{ta:xn}
def Uv{st:sB}{sp:FW}(F:Od K x qual st f fd)(S:sV N ps (pZ st))(len:∀ds M Q R,sp ds M Q R->ds.length=ps.length) (WT:∀(WJ:Vl) (A:Ar) (outer:T0 Env) (s:Sd) (H:Hp) (E:XK) (R:XR),rX k (A.deeper (dL qual (pZ st) s.heap.objs.size f WJ))->Tw K R E->
   ∃t,GX (vp (Ci P w) P w K mg base N qual (pZ st) f WJ A outer s H E) (rO st) t/\∀ds M Q,sp ds M Q R->t {nx:=λ_ M'=>∃WC,qo WC M'/\Q .mL WC,rt:=λd M'=>∃WC,qo WC M'/\Q d WC} (wW N ds) M):RG P w K mg base (k+1) f fd ps sp:=by
 obtain⟨oc,od,kV,Xd,pm,an,WJ,ct,Xt,rfl,lk,XO⟩:=F.ex;refine KL lk XO S (λvs H Q E h=>?_) λA outer s H vs Q' E hr h=>?_
 .obtain⟨ds,M,Q,R,hd,_,hs,_⟩:=h;rw[<-hd.length];exact len ds M Q R hs
 .obtain⟨ds,M,Q,R,hd,hm,hs,k,hR⟩:=h;obtain⟨t,ht,hb⟩:=WT WJ A outer s H E R hr hR;exact⟨_,ht,wW N ds,M,_,Dt hd,hm,hb ds M Q hs,λσ' H' δ' M' _ x2 x3 _ ⟨WC,y1,y2⟩=>k .mL H' .mL WC .mL (x2.sub y1) x3 y2,λv H' d M' x1 x2 x3 ⟨WC,y1,y2⟩=>k v H' d WC x1 (x2.sub y1) x3 y2,λ_ _ _ _ _ _ _ _ z=>z,λ_ _ _ _ _ _ _ _ z=>z⟩
end L3
namespace L2
def TKept(H H':Hp):Prop:=(∀b xs,H b=Fa (.tup xs)->H' b=Fa (.tup xs))/\∀b o u,H b=Fa (.frz o u)->H' b=Fa (.frz o u)
def VS(X:Cx)(Wz:QQY)(Y:St)(J:Hp->Prop)(E:XK)(ev:Vl)(s':Sd):Prop:=CW λH s=>J H/\Inv X Wz Y H s/\Ci X.prog X.w X.stack H s E ev s'
def TU(X:Cx)(Wz:QQY)(Y:St)(J:Hp->Prop)(E:XK)(ev:Vl)(s':Sd):Prop:=SO λa C dx H' tb H1 s1=>ev=.ref a/\E (.ref C) dx H'/\Inv X Wz Y H' s'/\OB s'.heap a (.ref C) dx (Fa tb)/\H' a=Db/\H' tb=Db/\J H1/\TKept H1 H'/\Inv X Wz Y H1 s1/\s1.heap.get? a=Db
def SE{M:Model}{E₁ E₂:QQX}{Wz:QQY}{E:XK}{outer:T0 Env}{L:Uf}(h:VS X Wz Y J E ev s')(WV:X.stack=X.env::outer)(hL:X.env.frame=Fa L):
  pi M X.A (noteFrame ev X.env) (λ_ s₂=>pi M X.A (setFlight ev Db) (λ_ s₃=>TU X Wz Y J E ev s₃) E₂ s₂) E₁ s':=by
 obtain⟨H,s,jH,I,e,C,dx,H',tb,rfl,q,os,bare,un,mQ,x,he,ht,ne,nt⟩:=h;obtain⟨hh,g,d,t,Zo⟩:=s';obtain rfl:Zo=s.os:=os;have I':=I.call (h':=hh) (g':=g) (d':=d) (t':=t) (ch:=[]) un mQ bare (λb z=>absurd z (by simp));have hF:=I'.stack;have Xl:=I'.nF;have YD:=I.ok.frames;rw[WV]at hF YD;refine IR (base:=X.base) (outer:=outer) YD hF hL x λh' T tn k1 k2 x'=>?_;have WM:∀b o,H' b=Fa o->∀u,hh.get? b=Fa u->h'.get? b=Fa u:=λb o hb u hu=>k1 b u hu (λz=>by rw[Xl b (by rw[WV];exact z)]at hb;cases hb) (λz=>by rw[z,ne]at hb;cases hb) (λz=>by cases z;rw[nt]at hb;cases hb);have un':Un (wk X.stack) [] H H' s.heap h':=by
  refine⟨λb o hb h0 nf nx=>?_,λb o hb h0 hf nx=>?_,un.free,λb o hb nx=>?_,un.nE,un.nv,un.nG⟩
  .exact k1 b o (un.keep b o hb h0 nf nx) (λz=>nf (by rw[WV];exact z)) (λz=>by rw[z,he]at hb;cases hb) λz=>by cases z;rw[ht]at hb;cases hb
  .obtain⟨sl,hs⟩:=un.slot b o hb h0 hf nx;obtain⟨X6,h2⟩:=k2 b _ hs (by rw[<-WV];exact hf);exact⟨X6,h2⟩
  .obtain⟨o',hs⟩:=un.there b o hb nx;by_cases z:b∈wk (X.env::outer)
   .obtain⟨sl,h2⟩:=k2 b o' hs z;exact⟨_,h2⟩
   .exact⟨o',k1 b o' hs z (λz=>by rw[z,he]at hb;cases hb) λz=>by cases z;rw[ht]at hb;cases hb⟩
 have Zt:yk X.prog X.w H' h':=λb o hb=>(mQ b o hb).ni (λb' u Xe hu=>by
  rcases Xe with z|z
  .subst z;exact WM b' o hb u hu
  .exact WM b' _ z u hu) (λ_ q=>q) λ_ _ q=>q
 have I3:Inv X Wz Y H' {heap:=h',gens:=g,drawn:=d,toks:=t,os:=s.os}:=Inv.call (s:=s) (ch:=[]) I un' Zt bare (λb z=>absurd z (by simp));refine⟨e,C,dx,H',T,H,s,rfl,q,I3,x',ne,?_,jH,⟨un.nE,un.nv⟩,I,he⟩;cases z:H' T with
 | none=>rfl
 | some o=>obtain⟨ob,hob⟩:=vS (mQ T o z);have tn:hh.get? T=Db:=tn;rw[hob]at tn;cases tn
variable {X:Cx}{Wz:T0 (Uf × Obj)}{Y σ':St}{H H1:Hp}{s s1:Sd}{ev:Vl}{E':QQX}{a:Uf}
def Inv.adopt{o:HO}(I:Inv X Wz Y H s)(I1:Inv X Wz σ' H1 s1)(n1:s1.heap.get? a=Db)(hn:H a=Db)(ok:sj X.prog X.w (upd H a o) s.heap a o):Inv X Wz Y (upd H a o) s:=by
 have ne:∀b ob,s1.heap.get? b=Fa ob->b≠a:=λb ob e z=>by rw[z,n1]at e;cases e
 have nh:∀b ob,H b=Fa ob->b≠a:=λb ob e z=>by rw[z,hn]at e;cases e
 refine⟨I.ok,I.os,I.bare,⟨I.base.keep,I.base.slot,λb o' e h0 hb=>?_,I.base.there,λb xs e=>?_,λb o' u e=>?_,λb ps e=>?_⟩,I.loc,I.cell,?_,λx c e=>?_,λp hp=>?_,λb ob e=>?_,I.len⟩
 .obtain⟨o2,e2⟩:=I1.base.there b o' e hb;rw[pS (ne b o2 e2)];exact I.base.free b o' e h0 hb
 .have:=I.base.nE b xs e;rw[pS (nh b _ this)];exact this
 .have:=I.base.nv b o' u e;rw[pS (nh b _ this)];exact this
 .obtain⟨more,this⟩:=I.base.nG b ps e;exact⟨more,by rw[pS (nh b _ this)];exact this⟩
 .obtain⟨m,⟨o2,_,_,e2,_⟩,_⟩:=I1.loc;rw[pS (ne _ o2 e2)];exact I.free
 .obtain⟨v,o2,e2,_⟩:=I1.cell x c e;rw[pS (ne _ o2 e2)];exact I.mX x c e
 .obtain⟨e1,e2,e3,e4,e5⟩:=I.pin p hp;exact⟨e1,by rw[pS (ne _ _ (I1.pin p hp).1)];exact e2,e3,e4,e5⟩
 .by_cases z:b=a
  .subst z;rw[pY]at e;cases e;exact ok
  .rw[pS z]at e;exact(I.mQ b ob e).ni (λ_ _ _ q=>q) (λb' q=>by rw[pS (nh b' _ q)];exact q) λb' xs q=>by rw[pS (nh b' _ q)];exact q
def Cx.marked(X:Cx)(ev:Vl)(E:QQX):Cx:={X with A:=X.A.mark (Fa ev),calm:=false,xe:=E}
def Inv.mark(I:Inv X Wz Y H s):Inv (X.marked ev E') Wz Y H s:=
 ⟨⟨I.ok.mod,I.ok.kind,I.ok.glob,I.ok.blt,I.ok.above,I.ok.inj,I.ok.has,I.ok.oo,(λz=>by cases z),I.ok.frames,I.ok.oE,I.ok.oS,I.ok.bs,I.ok.nW,I.ok.nK,I.ok.nU,I.ok.ny,I.ok.oh⟩,I.os,I.bare,I.base,I.loc,I.cell,I.free,I.mX,I.pin,I.mQ,I.len⟩
def Inv.unmark(ok:X.Ok)(I:Inv (X.marked ev E') Wz Y H s):Inv X Wz Y H s:=⟨ok,I.os,I.bare,I.base,I.loc,I.cell,I.free,I.mX,I.pin,I.mQ,I.len⟩
def SP.unmark(ok:X.Ok){D:Eu}{f:Flow}(h:SP (X.marked ev E') Wz D f s):SP X Wz D f s:=by
 cases f with
 | next=>obtain⟨a,b,I,q⟩:=h;exact⟨a,b,I.unmark ok,q⟩
 | brk=>obtain⟨a,b,I,q⟩:=h;exact⟨a,b,I.unmark ok,q⟩
 | cont=>obtain⟨a,b,I,q⟩:=h;exact⟨a,b,I.unmark ok,q⟩
 | ret v=>obtain⟨a,b,c,I,q⟩:=h;exact⟨a,b,c,I.unmark ok,q⟩
def HQ{M:Model}{h:No}{a:Uf}{o:Obj}(ho:h.get? a=Fa o):W.Looks M h (typeOf (.ref a)) o.cls:=by intro A Q E s k q;unfold typeOf;exact cW (wpAny_load (k a o ho) (dz q))
def FV{M:Model}{A:Ar}{E:QQX}{a C T:Uf}{Q:Unit->Sd->Prop}(x:OB s.heap a (.ref C) dx (Fa T))(h:∀h':No,(∀b,h'.get? b=s.heap.get? b)->Q () {s with heap:=h'}):pi M A (setFlight (.ref a) Db) Q E s:=by
 obtain⟨oe,vs,ho,hc,_,hd,h1,hv,hT⟩:=x;obtain⟨nTe,oT,ts,XJ,Yi,h3,hn⟩:=hT T rfl;unfold setFlight;refine cW (fm ho hd hv ?_);rw[dh (by rfl)];refine hZ XJ Yi h3 (h _ λb=>?_);by_cases z:T=b
 .subst z;obtain⟨oc,od,ZH,Xt⟩:=oT;obtain rfl:ZH=.fields ts:=Yi;rw[fO _ XJ rfl,XJ];show Fa (Obj.mk oc od (.fields (ts.setIfInBounds 3 .none)) Xt)=_;have:ts.setIfInBounds 3 .none=ts:=by
   apply Array.ext
   .simp
   .intro i h1 h2;rw[Array.getElem_setIfInBounds];split
    .rename_i e;subst e;rw[Array.getElem?_eq_getElem h3]at hn;exact(dv hn).symm
    .rfl
  rw[this]
 .exact gg _ _ z
def Rz(X:Cx)(e:Go)(t:St->Hp->VK->(Hp->Prop)->XK->Prop):Prop:=∀(Wz:QQY) (s:Sd) (Y:St) (H:Hp) (Q:VK) (J:Hp->Prop) (E:XK),Inv X Wz Y H s->t Y H Q J E->pi (Tk X.prog X.w) X.A (wp e X.env) (EP X Wz Y Q) (VS X Wz Y J E) s
def We(X:Cx)(st:sB)(t:Eu->St->Hp->(Hp->Prop)->XK->Prop):Prop:=∀(Wz:QQY) (s:Sd) (Y:St) (H:Hp) (D:Eu) (J:Hp->Prop) (E:XK),Inv X Wz Y H s->t D Y H J E->pi (Tk X.prog X.w) X.A (exec st X.env) (SP X Wz D) (VS X Wz Y J E) s
variable {k:Nat}{f C:Uf}{fd:Rs}{ps:QQQ}{sp:Sp}{Xn:T0 V}{ds:T0 Vl}{m:Str}{p pos WD:Pos}{e o:Go}{es:T0 Go}{t:TA}
section
variable {x:Str}
def Lx(F:xp X.prog X.w X.K X.mg X.base (Ci X.prog X.w) k f fd ps sp)(hr:rX k X.A)(hg:Gl X x)(hm:X.mg x=Fa (.ref f))(hk:W.keepIn X.K (.ref f)=pc)(hb:uM X.K fd ps ds)(hd:qA Xn ds) (ha:PA (X.nS λ_ _=>False) (e::es) t) (WS:yR x:=by decide) (he:Bg X e es:=by rfl) (WN:CC X pos es:=by rfl):
  Rz X (.Call (.Name x p) (e::es) [] pos) (λY H Q J E=>t Y H λvs H1=>J H1/\sp (vs++Xn) H1 Q E):=by
 intro Wz s Y H Q J E I h;refine gm (xc I hg hm ?_ WS);refine iL (h₀:=X.base) I.ok.mod.og hk (eE (ha pos Wz s Y H _ I.nS h) (λus s1 ⟨vs,H1,I1,r,jH,q⟩=>⟨I1.m7,?_⟩) λ_ _ z=>z.elim) he WN;have I1:=I1.xeOf;have r2:qA (vs++Xn) (us++ds):=r.append hd;have hl:(us++ds).length=ps.length:=by rw[<-r2.length];exact F.len _ _ _ _ q
 refine iD (gu (F.run X.A X.stack s1 H1 ⟨us,[]⟩ (us++ds) (vs++Xn) Q E hr I1.n9 (hb s1 us I1.m7 hl) r2 q) λr s' hq=>?_);cases r with
 | error e=>exact⟨H1,s1,jH,I1,hq⟩
 | ok fl=>
  cases fl with
  | ret u=>exact I1.after hq
  | next=>exact False.elim hq
  | brk=>exact False.elim hq
  | cont=>exact False.elim hq
end
def Pe{st b₀:sB}{Xp:T0 sB}{cnp Yw pos:Pos}{Cc L:Uf}{outer:T0 Env}{t:Eu->St->Hp->(Hp->Prop)->XK->Prop}(hb:We X st t)(WV:X.stack=X.env::outer)(hL:X.env.frame=Fa L)(hg:Gl X cn)(hm:X.mg cn=Fa (.ref Cc))(hs:∀ev E',Bz (X.marked ev E') (b₀::Xp) th) (WS:yR cn:=by decide):
  PS X (.Try [st] [.ExceptHandler (Fa (.Name cn cnp)) Db (b₀::Xp) Yw] [] [] pos) (λD Y H=>∃(J:Hp->Prop) (E:XK),t D Y H J E/\∀C dx H1 H',J H1->TKept H1 H'->E (.ref C) dx H'->W.exmOne X.K (.ref C) (.ref Cc)=Fa pc/\th D Y H'):=by
 intro Wz s Y H D I ⟨J,E,h,hh⟩;refine wpAny_Try_except (eE (Q:=λf s'=>SP X Wz D f s') (jz (sy (hb Wz s Y H D J E I h) λf s1 q=>?_)) (λf s1 q=>?_) λev s1 x=>?_)
 .cases f with
  | next=>exact gT q
  | brk=>exact q
  | cont=>exact q
  | ret v=>exact q
 .cases f with
  | next=>exact gT q
  | brk=>exact q
  | cont=>exact q
  | ret v=>exact q
 .refine eE (SE x WV hL) (λ_ s2 y=>sy y λ_ s3 z=>?_) λ_ _ z=>z;obtain⟨a,C,dx,H',tb,H1,s1,rfl,q,I3,x3,na,nt,jH,tk,I1,n1⟩:=z;obtain⟨WA,h1⟩:=hh C dx H1 H' jH tk q;refine wpAny_handleBy_cons (codeAny_handlers_test (xc (X:=X.marked (.ref a) λ_ _=>False) I3.mark hg hm ?_ WS)) (by intro z;cases z);obtain⟨oe,vs,ho,hc,_⟩:=id x3;refine W.exm_one I3.m7 (HQ ho) (by rw[hc];exact WA) _ _ _ _ (λ_ _ z=>z) ?_;refine codeAny_handlers_suite (FV x3 λh' hh'=>?_);have I4:Inv X Wz Y H' {s3 with heap:=h'}:=I3.kept (t':=s3.toks) λb u z=>by rw[hh' b];exact z
  refine eE (hs (.ref a) _ Wz _ Y H' D I4.mark h1) (λf s5 q5=>SP.unmark I.ok q5) λ_ _ z=>z
structure VV(K:qp)(C:Uf):Prop where
 hd:(W.clsIn K C).isSome=pc
 ga:W.findIn K (.ref C) "__getattribute__"=Fa (Fa (.builtin "BaseException.__getattribute__"))
 gt:W.findIn K (.ref C) "__getattr__"=Fa Db
 ha:W.findIn K (.ref C) "__class__"=Fa (Fa (.builtin "object.__class__"))
 hn:W.specialIn K (.builtin "object.__class__") "__get__"=Fa (Fa (.builtin "getset_descriptor.__get__"))
 htk:W.takesIn K (.builtin "object.__class__")=Fa pc
 hm:W.mroIn K C (.type "object")=Fa pc
 hb:W.mroIn K C (.type "BaseException")=Fa pc
variable {prog:Pg}{w:Wo}{A:Ar}{E:QQX}{K:qp}{ox:Obj}
section
variable {x:Uf}
end
end L2
namespace L3
open L2
theorem _root_.L2.TKept.ext{K:qp}(h:TKept H H'):qO K H H':=⟨λa xs q=>by
 rcases q with(q|⟨u,q⟩)|q
 .exact .inl (.inl (h.1 a xs q))
 .exact .inl (.inr ⟨u,h.2 a u _ q⟩)
 .exact .inr q,λa o xs q=>h.2 a o _ q⟩
abbrev Uq:=vJ->Mp->DK->XR->Prop
def Wv(K:qp)(t:Uq):St->Hp->VK->(Hp->Prop)->XK->Prop:=λY H Q' J E=>BA λU M Q R=>zI K H Y U/\HM K H M/\t U M Q R/\(∀v H' d M',rL K H' d v->HM K H' M'->qO K H H'->Q d M'->Q' v H')/\(∀H1,qO K H H1->J H1)/\Tw K R E
def V8(X:Cx)(e:Go)(t:Uq):Prop:=Rz X e (Wv X.K t)
def Rz.mono{t t':St->Hp->VK->(Hp->Prop)->XK->Prop}(h:Rz X e t)(m:∀Y H Q J E,t' Y H Q J E->t Y H Q J E):Rz X e t':=λWz s Y H Q J E I q=>h Wz s Y H Q J E I (m Y H Q J E q)
variable {X:Cx}{x:Str}{p pos np WH:Pos}{e:Go}{es:T0 Go}{t:xn}{k:Nat}{f C:Uf}{fd:Rs}{ps:QQQ}{sp:FW}
def MM(F:RG X.prog X.w X.K X.mg X.base k f fd ps sp)(hr:rX k X.A)(hg:Gl X x)(hm:X.mg x=Fa (.ref f))(hk:W.keepIn X.K (.ref f)=pc)(hb:uM X.K fd ps [])(ha:A3 (X.nS λ_ _=>False) (e::es) t) (WS:yR x:=by decide) (he:Bg X e es:=by rfl) (WN:CC X pos es:=by rfl):
  V8 X (.Call (.Name x p) (e::es) [] pos) (λU M Q R=>t U M λds M1=>sp ds M1 Q R):=Rz.mono (Lx F hr hg hm hk hb .nil ha WS he WN) λY H Q' J E ⟨U,M,Q,R,hs,hm,ht,k,kJ,kR⟩=>
 ⟨U,M,_,hs,hm,ht,λvs H1 ds M1 hd WA e1 q1=>⟨kJ H1 e1,ds,M1,Q,R,by rw[e9];exact hd,WA,q1,vU e1 k,kR⟩⟩
variable {b₀:sB}{Xp:T0 sB}{cn n:Str}{cnp Yw WD xpos:Pos}{Cc L:Uf}{outer:T0 Env}{i ix:Nat}{te:Uq}{th:xu}
end L3
namespace L2
def Bw(es:Array DictEntry):Bool:=es.toList.all λe=>match e.key with|.str _ _=>pc|_=>lf
def Cp{es:Array DictEntry}(h:Bw es=pc):StrKeys es:=λe he=>by
 have:=eU.mp h e (kc.mpr he);cases z:e.key with
 | str n t=>exact⟨n,t,rfl⟩
 | _=>rw[z]at this;cases this
abbrev K4:T0 Vl:=[.type "ValueError",.type "Exception",.type "BaseException",.type "object"]
def O0{K:qp}{t:Vl}{C:Uf}{cd:ClassData}{b:Bool}(q0:W.subIn K (.ref C) (.type "BaseException")=Fa pc)(q1:W.clsIn K C=Fa cd)(q2:W.typeIn K (.ref C)=Fa (.type "type"))(s:W.subIn K t (.ref C)=Fa b):W.exmOne K t (.ref C)=Fa b:=by unfold W.exmOne;rw[q0,dh (by rfl)];unfold W.kitCls;simp only;rw[q1,q2,dh (by rfl)];exact s
end L2
namespace L3
open L2
end L3
namespace L2
theorem Bs(self:Vl):∀own:QXQ,refuseLoop self "__setattr__" (own.map Value.ref++K4)=pure ()
 | []=>jI.passes self
 | c::r=>by show refuseLoop self "__setattr__" (.ref c::(r.map Value.ref++K4))=pure ();rw[refuseLoop_ref];exact Bs self r
variable {prog:Pg}{w:Wo}{A:Ar}{s:Sd}{K:qp}{x C:Uf}{ox:Obj}{own:QXQ}{name:Str}{v:Vl}
section
variable {E:QQX}{cd:ClassData}
def OW{Q:Unit->Sd->Prop}(X:K.In s.heap)(I:W.InstAt s.heap x ox C Db)(hs:W.findIn K (.ref C) "__setattr__"=Fa (Fa (.builtin "object.__setattr__")))(hc:W.clsIn K C=Fa cd)(hm:cd.mro=own.map Value.ref++K4)(ht:W.takerIn K C name=Fa Db)(hd:cd.hasDict=pc) (h:∀h' d t,(∀b o,b≠x->s.heap.get? b=Fa o->h'.get? b=Fa o)->h'.get? x=Fa {ox with dict:=some d}->s.heap.get? d=Db->d≠x->h'.Ns1 d (λy=>if y=name then Fa v else Db)->Q () {s with heap:=h',toks:=t}):pi (Tk prog w) A (setAttr (.ref x) name v) Q E s:=by
 refine W.set_plain X I hs ?_;have SF:=jI;have ne:cd.mro.isEmpty=lf:=by rw[hm];cases own<;>rfl
 have has:cd.mro.contains (.type "object")=pc:=by
  rw[hm,List.contains_eq_any_beq,jT];have:K4.any (Value.type "object"==·)=pc:=by decide+kernel
  rw[this,kT]
 have sub:W.Looks (Tk prog w) s.heap (isInstance (.ref x) (.type "object")) pc:=I.type.andThen (W.looks_mroIn X (by unfold W.mroIn;rw[hc,lP,de (by rw[ne];decide),has]));refine iO SF.slot.plain SF.entry (@PySem.W.check_slot (Tk prog w) _ _ {s with toks:=s.toks+1} "object.__setattr__" "object" "__setattr__" (.ref x) [.str name s.toks,v] [] _ SF.kind SF.split sub (SF.args (.ref x) (.str name s.toks) v) ?_);obtain⟨attr,ha,hr⟩:=Option.bind_eq_some_iff.mp ht;have Zw:W.Looks (Tk prog w) s.heap (mroOf (.ref C)) cd.mro:=(kt X hc).andThen .now;have L3':W.Looks (Tk prog w) s.heap (Builtin.ObjectAttr.storeTaker? attr) Db:=by
  cases attr with
  | none=>exact .now
  | some a=>
   obtain⟨b,hb,hr⟩:=jY.mp hr;refine(W.looks_takesIn X hb).andThen ?_;cases b
   .exact .now
   .cases hr
 rw[W.osa_eq,refuse_eq];refine cW (cW (I.type.here (s:={s with toks:=s.toks+1}) (cW (Zw.here (s:={s with toks:=s.toks+1}) ?_))));rw[hm,Bs];refine dz (cW (I.type.here (s:={s with toks:=s.toks+1}) (cW ((lY X ha).here (s:={s with toks:=s.toks+1}) (cW (L3'.here (s:={s with toks:=s.toks+1}) ?_))))));obtain⟨hx,Y9,hn,Zb⟩:=I;obtain⟨oc,odi,oda,Xt⟩:=ox;dsimp only at Y9 Zb;subst Y9;cases odi with
 | some _=>exact Zb.elim
 | none=>
  refine cW (dz (cW (cW (wpAny_loadPart hx (cW (mh (s:={s with toks:=s.toks+1}) (kt X hc) ?_))))));rw[hd];rw[de (by decide)];obtain⟨hh,g,dr,tk,os⟩:=s;dsimp only at hx h ⊢;rw[de (by simp[typeHasDict])];split
  .cases hn
  .have y1:(hh.push W.emptyDict).get? x=Fa ⟨.ref C,Db,oda,Xt⟩:=df _ hx;have nx:x≠hh.objs.size:=λz=>eX _ (z ▸ dE hx);refine cW (wpAny_alloc' (cW (wpAny_update' y1 (dz ?_))));have e0:((hh.push W.emptyDict).update x λo=>{o with dict:=some hh.objs.size}).Ns hh.objs.size (λ_=>Db):=⟨W.emptyDict,#[],_,(kB _ _ _ _ nx.symm).trans (dI hh rfl),rfl,λe he=>absurd he (by simp),λ_=>rfl⟩;refine cW (dz (cW (wpAny_nsSet1 (lb e0) λh' n1 sb=>?_)));obtain⟨oD,esD,epD,g1,g2,g3⟩:=n1.count (Within.cons name v Within.nil);refine cW (lE g1 (g2 ▸ lF (eh g3 (by rw[dP,dJ];decide))) (dz (h h' hh.objs.size _ (λb o hb z=>?_) ?_ (gM (dw _)) nx.symm n1)))
   .exact(sb.2 b λy=>eX _ (y ▸ dE z)).trans ((kB _ _ _ _ hb).trans (df _ z))
   .refine(sb.2 x nx).trans (fO _ y1 ?_);have fr:=(Heap.get?_some_iff.mp hx).2;cases oda with
    | _=>first|rfl|exact fr
end
variable {nm q:Str}{bs bm X4:T0 Vl}{hdct:Bool}{sn:QQQ}{sub:T0 Vl}{ab:Bool}{col:Option Bool}{dd:Option Uf}{k0 k1 k2 k3 k5:Option Vl}{B Bn newId nid W6 yS:String}{bmN:T0 Vl}{h:No}{g:Array GenState}{d:Drawn}{t:Nat}{os:OsState}
section
variable {E:QQX}{N:Uf}
abbrev PX(C t:Uf):Obj:={cls:=.ref C,data:=.fields #[.ref t,.none,.none,.none,.bool lf,.none]}
def AW(Fn:ZS Bn newId yS bmN)(hBn:X4.contains (.type Bn)=pc)(F:ZS B nid W6 X4)(T:OwnTail h X4 bm){mN:QQZ}{us:T0 Vl}{fI:Uf}{oI:Obj}{Q:PySem.Fin->Sd->Prop} (hC:h.get? C=Fa (ZT nm q C N bs bm hdct sn sub ab col dd k0 k1 k2 k3 k5 newId)) (hn:h.Ns N mN) (hi:mN "__init__"=Fa (.ref fI)) (hf:h.get? fI=Fa oI) (hfc:oI.cls=.type "function") (WE:us.length<=Ch) (hq:∀h' e,Heap.MadeExcOf h h' e (.ref C) us->pi (Tk prog w) A (call (.ref fI) (.ref e::us)) (λr s'=>r=.none/\Q (.done (.ret (.ref e))) s') E ⟨h',g,d,t,os⟩):
  pi (Tk prog w) A (Builtin.«type.__call__» ⟨.ref C::us,[]⟩) Q E ⟨h,g,d,t,os⟩:=by
 repeat (first|with_reducible refine hG hC ?_|with_reducible refine wpAny_madeBy_exc hC ?_|wp_step)
 refine codeAny_call_builtin_code (iw _ Fn.quiet) (wpAny_check_new_subU Fn hBn T hC (codeAny_exc_new_subU Fn hBn F T hC ?_ WE));have kp:∀b o,h.get? b=Fa o->((h.push {cls:=.type "tuple",data:=.seq us.toArray}).push (PX C h.objs.size)).get? b=Fa o:=λb o z=>df _ (df _ z);have gE:((h.push {cls:=.type "tuple",data:=.seq us.toArray}).push (PX C h.objs.size)).get? (h.objs.size+1)=Fa (PX C h.objs.size):=by heap_get
 have hC2:=kp _ _ hC;have Zm:((h.push {cls:=.type "tuple",data:=.seq us.toArray}).push (PX C h.objs.size)).Ns N mN:=let⟨o,es,ep,e,r⟩:=hn;⟨o,es,ep,kp _ _ e,r⟩;have cC:(Value.ref C::bm).contains (.ref C)=pc:=by rw[iz,fi,hU]
 have T2:=T.keeps kp;show pi _ _ _ _ _ _;unfold isInstance
 repeat (first|with_reducible refine hG gE ?_|(with_reducible refine kC hC2 ?_;rw[cC])|wp_step)
 show pi _ _ (typeLookup (.ref C) _) _ _ _;refine wpAny_typeLookup_tail hC2 Zm T2 F.mroIs F.init.lookup ?_;rw[hi];refine ft (cW ?_);unfold bindSpecial;refine cW (jB (T:="function") ⟨_,kp _ _ hf,hfc⟩ ?_);rw[dh (by decide)];refine dz (cW (eE (hq _ (h.objs.size+1) ⟨kp,gM (gX _),h.objs.size,gE,gM (dw _),df _ (Heap.get?_push_at rfl rfl)⟩) (λr s' hr=>?_) λ_ _ z=>z));obtain⟨rfl,hQ⟩:=hr
 wp_walk
 exact hQ
def HX(Fn:ZS Bn newId yS bmN)(hBn:X4.contains (.type Bn)=pc)(F:ZS B nid W6 X4)(T:OwnTail h X4 bm){mN:QQZ}{us:T0 Vl}{fI:Uf}{oI:Obj}{Q:QQX} (hC:h.get? C=Fa (ZT nm q C N bs bm hdct sn sub ab col dd k0 k1 k2 k3 k5 newId)) (hn:h.Ns N mN) (hi:mN "__init__"=Fa (.ref fI)) (hf:h.get? fI=Fa oI) (hfc:oI.cls=.type "function") (WE:us.length<=Ch) (hq:∀h' e,Heap.MadeExcOf h h' e (.ref C) us->pi (Tk prog w) (A.under (.builtin "type.__call__" ⟨.ref C::us,[]⟩)) (call (.ref fI) (.ref e::us)) (λr s'=>r=.none/\Q (.ref e) s') E ⟨h',g,d,t,os⟩):
  pi (Tk prog w) A (call (.ref C) us) Q E ⟨h,g,d,t,os⟩:=by
 have f1:=tc_lookup;have f2:=tc_bind (.ref C);have hT:(⟨h,g,d,t,os⟩:Sd).TypeIs (.ref C) "type":=⟨_,hC,rfl⟩;refine iD (jQ ?_);show pi _ _ (callAny (.ref C) _) _ _ _
 repeat (any_goals(first|assumption|with_reducible refine hG hC ?_|wp_step))
 exact⟨rfl,codeAny_call_builtin_at (iw _ (by decide+kernel)) entry_typeCall (wpAny_check_type_call_sub hC (AW Fn hBn F T hC hn hi hf hfc WE hq))⟩
end
variable {M:Model}{env:Env}
section
variable {E:QQX}{N:Uf}
def I9(h:No)(e C:Uf)(dx:Option Uf):Prop:=CW λt sl=>h.get? e=Fa ⟨.ref C,dx,.fields #[.ref t,.none,.none,.none,.bool lf,.none],sl⟩
def GE{x:Sem Vl}{Q:Flow->Sd->Prop}(WU:bm.contains (.type "BaseException")=pc)(hh:A.handled=Db) (h:pi M A x (λv s₁=>∃e dx,v=.ref e/\s₁.heap.get? C=Fa (ZT nm q C N bs bm hdct sn sub ab col dd k0 k1 k2 k3 k5 newId)/\I9 s₁.heap e C dx/\E (.ref e) s₁) E s):
  pi M A (raiseStmt env (Fa x) Db) Q E s:=by
 have cB:(Value.ref C::bm).contains (.type "BaseException")=pc:=by rw[iz,WU,kT]
 unfold raiseStmt;refine cW (eE h (λv s₁ ⟨e,dx,ev,hC,⟨t,sl,he⟩,hE⟩=>?_) λ_ _ z=>z);subst ev;obtain⟨hp,g,d,tk,os⟩:=s₁
 repeat (first|with_reducible refine hG he ?_|with_reducible refine hG hC ?_|(with_reducible refine kC hC ?_;rw[cB])|wp_step)
 exact wpAny_raiseNew_none hh hE
def Gb(Fn:ZS Bn newId yS bmN)(hBn:X4.contains (.type Bn)=pc)(F:ZS B nid W6 X4){mN:QQZ}{fI:Uf}{x:Str}{np WH pos:Pos}{args:T0 Go}{Q:Flow->Sd->Prop} (WU:bm.contains (.type "BaseException")=pc) (hh:A.handled=Db) (WQ:(Ix WH (Tl args env)).any (·.1)=lf) (hi:mN "__init__"=Fa (.ref fI)) (h:pi (Tk prog w) A (wp (.Name x np) env) (λf s₁=>f=.ref C/\pi (Tk prog w) A (evalArgs (.ref C) pc (Ix WH (Tl args env)) []) (λa s₂=>a.kw=[]/\a.pos.length<=Ch/\s₂.heap.get? C=Fa (ZT nm q C N bs bm hdct sn sub ab col dd k0 k1 k2 k3 k5 newId)/\s₂.heap.Ns N mN/\OwnTail s₂.heap X4 bm/\(∃oI,s₂.heap.get? fI=Fa oI/\oI.cls=.type "function")/\
    ∀h' e,Heap.MadeExcOf s₂.heap h' e (.ref C) a.pos->pi (Tk prog w) (A.under (.builtin "type.__call__" ⟨.ref C::a.pos,[]⟩)) (call (.ref fI) (.ref e::a.pos))
     (λr s'=>r=.none/\∃dx,s'.heap.get? C=Fa (ZT nm q C N bs bm hdct sn sub ab col dd k0 k1 k2 k3 k5 newId)/\I9 s'.heap e C dx/\E (.ref e) s') E {s₂ with heap:=h'}) E s₁) E s):
  pi (Tk prog w) A (exec (.Raise (Fa (.Call (.Name x np) args [] WH)) Db pos) env) Q E s:=by
 rw[arm_exec_Raise];refine cW (ii (GE (C:=C) (nm:=nm) (q:=q) (N:=N) (bs:=bs) (bm:=bm) (hdct:=hdct) (sn:=sn) (sub:=sub) (ab:=ab) (col:=col) (dd:=dd) (k0:=k0) (k1:=k1) (k2:=k2) (k3:=k3) (k5:=k5) (newId:=newId) WU hh ?_));refine cW (eE (wpAny_Call_ofName (eE h (λf s₁ ⟨ef,h₁⟩=>?_) λ_ _ z=>z)) (λv s₃ h₃=>cW (ii (dz h₃))) λ_ _ z=>z);subst ef;unfold ZX;refine cW (ft (eE h₁ (λa s₂ h₂=>cW (ii ?_)) λ_ _ z=>z));obtain⟨WD,akw⟩:=a;obtain⟨hkw,WE,hC,hn,T,⟨oI,hf,hfc⟩,h₂⟩:=h₂;obtain rfl:akw=[]:=hkw;obtain⟨hp,g,d,tk,os⟩:=s₂;simp only[WQ];refine cW (wpAny_keeperOf_exc hC (cW (HX Fn hBn F T hC hn hi hf hfc WE λh' e hm=>eE (h₂ h' e hm) (λr s' ⟨z,dx,c1,c2,c3⟩=>⟨z,cW (ft (wpAny_point (dz ⟨e,dx,rfl,c1,c2,c3⟩)))⟩) λ_ _ z=>z)))
end
def x0(a C:Uf)(h:No):Prop:=I9 h a C Db
def x1(a C d:Uf)(h:No):Prop:=I9 h a C (Fa d)
structure yw(K:qp)(C:Uf)(f:Str):Prop where
 sa:W.findIn K (.ref C) "__setattr__"=Fa (Fa (.builtin "object.__setattr__"))
 cd:∃cd own,W.clsIn K C=Fa cd/\cd.mro=List.map Value.ref own++K4/\cd.hasDict=pc
 tk:W.takerIn K C f=Fa Db
variable {X:Cx}{Wz:T0 (Uf × Obj)}{Y σ':St}{H H1:Hp}{s1:Sd}{a:Uf}
section
variable {f:Str}
def Ge{A:Ar}{E:QQX}{Q:Unit->Sd->Prop}(I:Inv X Wz Y H s)(e:H a=Fa (.ext (x0 a C)))(ry:qH y u)(st:yw X.K C f)(h:∀d s',H d=Db->d≠a->Inv X Wz Y (upd (upd H a (.ext (x1 a C d))) d (.ext (NJ d f y))) s'->Q () s'):pi (Tk X.prog X.w) A (setAttr (.ref a) f u) Q E s:=by obtain⟨⟨t,sl,ho⟩,_,_⟩:=I.mQ a _ e;obtain⟨cd,own,c1,c2,c3⟩:=st.cd;refine OW I.m7 ⟨ho,rfl,rfl,trivial⟩ st.sa c1 c2 st.tk c3 λh' d tk k1 k2 dn da n1=>h d _ (zC I.mQ dn) da ?_;have I2:=I.write (t':=tk) (x:=a) (e:=a) (o:=.ext (x1 a C d)) (by rw[e];exact True.intro) (.inl rfl) k1 ⟨_,k2⟩ ⟨⟨t,sl,k2⟩,⟨_,k2⟩,λh1 h2 ⟨t',X6,z⟩ kk=>⟨t',X6,kk _ z⟩⟩;refine I2.adopt I dn (by rw[pS da];exact zC I.mQ dn) ⟨⟨u,n1,ry⟩,?_,λh1 h2 ⟨u,n,r⟩ kk=>⟨u,n.at kk,r⟩⟩;obtain⟨o,_,_,z,_⟩:=n1;exact⟨o,z⟩
def Inv.drop{φ:No->Prop}(I:Inv X Wz Y H s)(ea:H a=Fa (.ext φ)):Inv X Wz Y (λb=>if b=a then Db else H b) s:=by
 have less:∀b,H b=Db->(if b=a then Db else H b)=Db:=λb e=>by split<;>first|rfl|exact e
 have keep:∀b o,H b=Fa o->(∀φ,o≠.ext φ)->(if b=a then Db else H b)=Fa o:=λb o e n=>by
  rw[de]
  .exact e
  .intro z;rw[z,ea]at e;exact n φ (dv e).symm
 refine⟨I.ok,I.os,I.bare,⟨I.base.keep,I.base.slot,λb o e h0 hb=>less b (I.base.free b o e h0 hb),I.base.there,λb xs e=>keep b _ (I.base.nE b xs e) (λ_ z=>nomatch z),λb o u e=>keep b _ (I.base.nv b o u e) (λ_ z=>nomatch z),λb ps e=>?_⟩,I.loc,I.cell,less _ I.free,λx c e=>less _ (I.mX x c e),λp hp=>⟨(I.pin p hp).1,less _ (I.pin p hp).2.1,(I.pin p hp).2.2⟩,λb ob e=>?_,I.len⟩
 .obtain⟨more,z⟩:=I.base.nG b ps e;exact⟨more,keep b _ z (λ_ z=>nomatch z)⟩
 .have e':H b=Fa ob:=by
   by_cases z:b=a
   .rw[dh z]at e;cases e
   .rw[de z]at e;exact e
  exact(I.mQ b ob e').ni (λ_ _ _ q=>q) (λb' q=>keep b' _ q (λ_ z=>nomatch z)) λb' xs q=>keep b' _ q (λ_ z=>nomatch z)
end
def LL(K:qp)(ta tv:TE)(f:Str):TS:=λD Y H=>tv Y H λy H1=>ta Y H1 λx H2=>∃a C,x=.ref a/\H2 a=Fa (.ext (x0 a C))/\yw K C f/\∀d,H2 d=Db->d≠a->D.nx Y (upd (upd H2 a (.ext (x1 a C d))) d (.ext (NJ d f y)))
def NR{f:Str}{pos WL:Pos}{ta tv:TE}(ha:PE X o ta)(hv:PE X value tv)(hs:TD value (Fa (.Attribute o f WL)) pos.line X.env=pure lf:=by rfl):PS X (.Assign [.Attribute o f WL] value pos) (LL X.K ta tv f):=by intro Wz s Y H D I h;refine iK (sy (hv Wz s Y H _ I h) λu s1 zz=>x5 zz λy H1 I1 ry q=>sy (ha Wz s1 Y H1 _ I1 q) λov s2 zz=>?_) hs;obtain⟨x,H2,I2,rx,a,C,ex,ea,st,q2⟩:=zz;subst ex;obtain rfl:ov=Value.ref a:=rx;exact Ge I2 ea ry st λd s3 dn da I3=>⟨Y,_,I3,q2 d dn da⟩
def wx(K:qp)(f:Str):Sp:=λvs H Q _=>De λe C y=>vs=[.ref e,y]/\H e=Fa (.ext (x0 e C))/\yw K C f/\∀d,H d=Db->d≠e->Q .mL (upd (upd H e (.ext (x1 e C d))) d (.ext (NJ d f y)))
variable {qual:Str}{scope:XV}{outer:T0 Env}{s0:Sd}{H0:Hp}{P:Pg}{mg:QQZ}{base:No}
section
def K2{x qual y1 y2 fl:Str}{st:sB}(F:Od K x qual st f fd)(S:sV [y1,y2] [y1,y2] (pZ st)) (hb:∀(WJ:Vl) (A:Ar) (outer:T0 Env) (s:Sd) (H:Hp) (E:XK),Bz (vp (Ci P w) P w K mg base [y1,y2] qual (pZ st) f WJ A outer s H E) (rO st) (LL K (HC 0) (HC 1) fl)):xp P w K mg base (Ci P w) 1 f fd [y1,y2] (wx K fl):=by
 obtain⟨oc,od,kV,Xd,pm,an,WJ,ct,Xt,rfl,lk,XO⟩:=F.ex;refine KL lk XO S (λvs H Q E h=>?_) λA outer s H vs Q' E hr h=>⟨_,hb WJ A outer s H E,?_⟩
 .obtain⟨e,C,y,rfl,_⟩:=h;rfl
 .obtain⟨e,C,y,rfl,h1,h2,q⟩:=h;exact⟨y,rfl,.ref e,rfl,e,C,rfl,h1,h2,q⟩
def Ib(K:qp)(C fI:Uf):Prop:=
 ∃nm q N bs bm X4 hdct sn sub ab col dd k0 k1 k2 k3 k5,∃B Bn newId nid W6 yS:String,∃bmN,∃mN:QQZ,ZS Bn newId yS bmN/\X4.contains (Value.type Bn)=pc/\ZS B nid W6 X4/\bm.contains (Value.type "BaseException")=pc/\mN "__init__"=Fa (.ref fI)/\
  ∀h:No,K.In h->h.get? C=Fa (ZT nm q C N bs bm hdct sn sub ab col dd k0 k1 k2 k3 k5 newId)/\h.Ns N mN/\OwnTail h X4 bm/\∃oI,h.get? fI=Fa oI/\oI.cls=.type "function"
variable {N:QQQ}{f:Uf}{cd:Vl}{E:XK}
def J4{X:Cx}(hX:X=vp (Ci P w) P w K mg base N qual scope f cd A outer s0 H0 E){C fI:Uf}{fdI:Rs}{ps:QQQ}{fl:Str}{k:Nat}{x:Str}{np WH pos:Pos}{e:Go}{ta:TA}(hC:Ib X.K C fI)(F:xp X.prog X.w X.K X.mg X.base (Ci X.prog X.w) k fI fdI ps (wx X.K fl))(hr:rX (k+1) X.A)(hb:uM X.K fdI ps [])(st:yw X.K C fl) (hg:Gl X x) (hm:X.mg x=Fa (.ref C)) (ha:PA X [e] ta) (hs:Tl [e] X.env=[(lf,wp e X.env)]:=by rfl) (WS:yR x:=by decide):
  PS X (.Raise (Fa (.Call (.Name x np) [e] [] WH)) Db pos) (λ_ Y H=>ta Y H λvs H1=>∃y,vs=[y]/\∀d,H1 d=Db->E (.ref C) (Fa d) (upd H1 d (.ext (NJ d fl y)))):=by
 intro Wz s Y H D I h;obtain⟨nm,q,N',bs,bm,X4,hdct,sn,sub,ab,col,dd,k0,k1,k2,k3,k5,B,Bn,newId,nid,W6,yS,bmN,mN,f1,f2,f3,f4,f5,Yf⟩:=hC;have hcalm:X.A.handled=Db:=I.ok.hd (by rw[hX];rfl);refine Gb (nm:=nm) (q:=q) (N:=N') (bs:=bs) (hdct:=hdct) (sn:=sn) (sub:=sub) (ab:=ab) (col:=col) (dd:=dd) (k0:=k0) (k1:=k1) (k2:=k2) (k3:=k3) (k5:=k5) f1 f2 f3 f4 hcalm (by rw[hs];rfl) f5 (xc I hg hm ⟨rfl,?_⟩ WS);rw[hs];refine evalArgs_kwB rfl ?_;have Yg:=ha WH Wz s Y H _ I h;rw[hs]at Yg;refine sy Yg λus s1 zz=>?_;obtain⟨vs,H1,I1,r1,y,ey,q1⟩:=zz;subst ey;obtain⟨u,rfl,ru⟩:=wA r1;refine wpAny_evalAll_nil ?_;obtain⟨c1,c2,c3,c4⟩:=Yf s1.heap I1.m7;refine⟨rfl,by show 1<=Ch;rw[dP];decide,c1,c2,c3,c4,λh' e' md=>?_⟩;obtain⟨mk,mn,t,mt,_⟩:=md;have hn:H1 e'=Db:=zC I1.mQ mn;have I2:Inv X Wz Y H1 {s1 with heap:=h'}:=I1.kept (t':=s1.toks) mk;have I3:Inv X Wz Y (upd H1 e' (.ext (x0 e' C))) {s1 with heap:=h'}:=I2.adopt I1 mn hn ⟨⟨t,_,mt⟩,⟨_,mt⟩,λh1 h2 ⟨t',X6,z⟩ kk=>⟨t',X6,kk _ z⟩⟩;have r2:qA [V.ref e',y] [Value.ref e',u]:=.cons rfl (.cons ru .nil);have X7:wx X.K fl [V.ref e',y] (upd H1 e' (.ext (x0 e' C))) (λv H2=>v=.mL/\∃d,d≠e'/\H1 d=Db/\H2=upd (upd H1 e' (.ext (x1 e' C d))) d (.ext (NJ d fl y))) (λ_ _ _=>False):=⟨e',C,y,rfl,pY,st,λd dn da=>⟨rfl,d,da,by rw[pS da]at dn;exact dn,by rw[P7]⟩⟩;have hl:([Value.ref e',u]:T0 Vl).length=ps.length:=by rw[<-r2.length];exact F.len _ _ _ _ X7
 refine iD (gu (F.run _ X.stack _ _ ⟨[Value.ref e',u],[]⟩ [Value.ref e',u] _ _ _ (hr.make C [u] []) (I3.n9.make C [u] []) (hb _ [Value.ref e',u] I3.m7 hl) r2 X7) λr s' Yk=>?_);cases r with
 | error ev=>obtain⟨_,_,_,_,_,_,z,_⟩:=Yk;exact z.elim
 | ok fw=>
  cases fw with
  | ret uv=>
   obtain⟨v,H',I4,rv,ev,d,da,dn,eH⟩:=I3.after Yk;subst ev eH;obtain⟨⟨t',X6,md⟩,_,_⟩:=I4.mQ e' _ (by rw[pS (dG da)];exact pY);have I5:Inv X Wz Y (upd H1 d (.ext (NJ d fl y))) _:=(funext λb=>by
    by_cases z:b=e'
    .subst z;rw[dh rfl,pS (dG da),hn]
    .rw[de z];by_cases z2:b=d
     .subst z2;rw[pY,pY]
     .rw[pS z2,pS z2,pS z]:(λb=>if b=e' then Db else upd (upd H1 e' (.ext (x1 e' C d))) d (.ext (NJ d fl y)) b)=upd H1 d (.ext (NJ d fl y))) ▸ I4.drop (a:=e') (φ:=x1 e' C d) (by rw[pS (dG da)];exact pY)
   refine⟨rv,Fa d,(Yf s'.heap I4.m7).1,⟨t',X6,md⟩,?_⟩;subst hX;have W4:Un (wk outer) [] H0 H1 s0.heap s1.heap:=I1.base;exact T7 I5 (tb:=none) ⟨_,_,md,rfl,rfl,rfl,(by show 1<6;decide),rfl,λT z=>by cases z⟩ (GJ W4 rfl mn) (λT z=>by cases z) (by rw[pS (dG da)];exact hn) (q1 d dn)
  | next=>exact False.elim Yk
  | brk=>exact False.elim Yk
  | cont=>exact False.elim Yk
end
end L2
namespace L3
open L2
variable {P:Pg}{w:Wo}{K:qp}{mg:QQZ}{base:No}{N:QQQ}{qual:Str}{scope:XV}{f:Uf}{cd:Vl}{A:Ar}{outer:T0 Env}{s0:Sd}{H0:Hp}{E:XK}{x:Str}{np WH pos:Pos}{e:Go}{C fI:Uf}{fdI:Rs}{ps:QQQ}{fl:Str}{k:Nat}{R:XR}{ta:xn}
def Oc(C:Uf)(R:XR)(f:Str)(ta:xn):xu:=λ_ U M=>ta U M λds M1=>∃z,ds=[z]/\R C (Fa (f,z)) M1
def JE(hC:Ib K C fI)(F:xp P w K mg base (Ci P w) k fI fdI ps (wx K fl))(hr:rX (k+1) (vp (Ci P w) P w K mg base N qual scope f cd A outer s0 H0 E).A)(hb:uM K fdI ps [])(st:yw K C fl)(_:W.findIn K (.ref C) "__init__"=Fa (Fa (.ref fI)))(hg:Gl (vp (Ci P w) P w K mg base N qual scope f cd A outer s0 H0 E) x)(hm:mg x=Fa (.ref C))(hR:Tw K R E)(ha:A3 (vp (Ci P w) P w K mg base N qual scope f cd A outer s0 H0 E) [e] ta) (hs:Tl [e] (vp (Ci P w) P w K mg base N qual scope f cd A outer s0 H0 E).env=[(lf,wp e (vp (Ci P w) P w K mg base N qual scope f cd A outer s0 H0 E).env)]:=by rfl) (WS:yR x:=by decide):
  S3 (vp (Ci P w) P w K mg base N qual scope f cd A outer s0 H0 E) (.Raise (Fa (.Call (.Name x np) [e] [] WH)) Db pos) (Oc C R fl ta):=
 PS.mono (J4 rfl hC F hr hb st hg hm ha hs WS) λD' Y H ⟨U,M,D,hs,hm,ht,_⟩=>⟨U,M,_,hs,hm,ht,λvs H1 ds M1 hd WA e1 q1=>by
  obtain⟨z,rfl,r⟩:=q1;obtain⟨v,rfl,hv⟩:=rA hd;exact⟨v,rfl,λd dn=>hR C (Fa d) _ M1 _ (WA.add dn) (.inr ⟨d,fl,z,v,rfl,rfl,pY,hv.mono (.new dn)⟩) r⟩⟩
variable {X:Cx}{b₀:sB}{Xp:T0 sB}{cn:Str}{cnp Yw YT:Pos}{Cc L:Uf}{te:Uq}{th:xu}
def Nd{t:St->Hp->VK->(Hp->Prop)->XK->Prop}(he:Rz X e t)(hs:TD e Db YT.line X.env=pure lf:=by rfl):We X (.Expr e YT) (λD Y H J E=>t Y H (λ_ H'=>D.nx Y H') J E):=by intro Wz s Y H D J E I h;exact wpAny_Expr_any (sy (he Wz s Y H _ J E I h) λv s1 zz=>x5 zz λy H1 I1 r1 q1=>⟨Y,H1,I1,q1⟩) I.quiet hs
def Ts(K:qp)(Cc:Uf)(te:Uq)(th:xu):xu:=λD U M=>∃R,te U M (λ_ M1=>D.nx U M1) R/\∀C y M',R C y M'->W.exmOne K (.ref C) (.ref Cc)=Fa pc/\th D U M'
def Pd(he:V8 X e te)(WV:X.stack=X.env::outer)(hL:X.env.frame=Fa L)(hg:Gl X cn)(hm:X.mg cn=Fa (.ref Cc)) (hs:∀ev E',GX (X.marked ev E') (b₀::Xp) th) (WS:yR cn:=by decide) (X8:TD e Db YT.line X.env=pure lf:=by rfl):
  S3 X (.Try [.Expr e YT] [.ExceptHandler (Fa (.Name cn cnp)) Db (b₀::Xp) Yw] [] [] pos) (Ts X.K Cc te th):=
 PS.nN (Pe (th:=UH X.K th) (Nd he X8) WV hL hg hm hs WS) λD' Y H hl ⟨U,M,D,hs,hm,⟨R,ht,hh⟩,k1,k2,k3,k4⟩=>by
  refine⟨λH1=>qO X.K H H1,λcv d H'=>∃C M' y,cv=.ref C/\HM X.K H' M'/\SW X.K H' d y/\R C y M',⟨U,M,_,R,hs,hm,ht,λv H1 d M1 hd WA e1 q1=>?_,λ_ z=>z,λC dx H' M' y h1 h0 h2=>⟨C,M',y,rfl,h1,h0,h2⟩⟩,λC dx H1 H' jH tk ⟨C',M',y,ec,X9,Zb,r⟩=>?_⟩
  .exact k1 _ H1 _ M1 (hs.mono e1) WA e1 rfl q1
  .cases ec;obtain⟨r1,r2⟩:=hh C y M' r;have e1:qO X.K H H':=jH.trans (L2.TKept.ext tk);refine⟨r1,U,M',D,hs.mono e1,X9,r2,λσ2 H2 δ2 M2 y1 y2 y3 y4 y5=>?_,λv H2 d M2 y1 y2 y3 y5=>?_,λσ2 H2 δ2 M2 y1 y2 y3 y4 y5=>?_,λσ2 H2 δ2 M2 y1 y2 y3 y4 y5=>?_⟩
   .exact k1 _ H2 _ M2 y1 y2 (e1.trans y3) y4 y5
   .exact k2 _ H2 _ M2 y1 y2 (e1.trans y3) y5
   .exact k3 _ H2 _ M2 y1 y2 (e1.trans y3) y4 y5
   .exact k4 _ H2 _ M2 y1 y2 (e1.trans y3) y4 y5
end L3
namespace L2
def K1{K:qp}{C C2 N fI:Uf}{nm q:Str}{bs sub:T0 Vl}{hdct ab:Bool}{sn:QQQ}{col:Option Bool}{dd od1 od2 dd2:Option Uf}{k0 k1 k2 k3 k5:Option Vl}{oc1 oc2 c0:Vl}{es1 es2:Array DictEntry}{ep1 ep2:Nat}{sl1 sl2 UT:Array (Option Vl)}{cd2:ClassData}{oI:Obj} (l1:K.lookup C=Fa (ZT nm q C N bs (.ref C2::K4) hdct sn sub ab col dd k0 k1 k2 k3 k5 "ValueError.__new__")) (n1:K.lookup N=Fa ⟨oc1,od1,.dict es1 ep1,sl1⟩) (s1:Bw es1=pc) (i1:nsFind es1 "__init__"=Fa (.ref fI)) (l2:K.lookup C2=Fa ⟨c0,dd2,.cls cd2,UT⟩) (n2:K.lookup cd2.ns=Fa ⟨oc2,od2,.dict es2 ep2,sl2⟩) (s2:Bw es2=pc) (i2:nsFind es2 "__init__"=Db) (l3:K.lookup fI=Fa oI) (hf:W.isFn K (.ref fI)=pc):Ib K C fI:=by
 have hc:oI.cls=.type "function":=by have hf:=fk.mp hf;unfold W.typeIn at hf;simp only at hf;rw[l3]at hf;exact dv hf
 refine⟨nm,q,N,bs,.ref C2::K4,K4,hdct,sn,sub,ab,col,dd,k0,k1,k2,k3,k5,"ValueError","ValueError","ValueError.__new__","ValueError.__new__","ValueError.__init__","ValueError.__init__",K4,λn=>nsFind es1 n,km,by decide+kernel,km,?_,i1,λh X=>⟨X C _ l1,⟨_,es1,ep1,X N _ n1,rfl,Cp s1,λ_=>rfl⟩,.own (X C2 _ l2) ⟨_,es2,ep2,X _ _ n2,rfl,Cp s2,λ_=>rfl⟩ i2 .base,oI,X fI _ l3,hc⟩⟩;rw[iz];have:K4.contains (.type "BaseException")=pc:=by decide+kernel
 rw[this,kT]
def Kr{K:qp}{C C2 N:Uf}{nm q f:Str}{bs sub:T0 Vl}{ab:Bool}{sn:QQQ}{col:Option Bool}{dd:Option Uf}{k0 k1 k2 k3 k5:Option Vl}(l1:K.lookup C=Fa (ZT nm q C N bs (.ref C2::K4) pc sn sub ab col dd k0 k1 k2 k3 k5 "ValueError.__new__"))(sa:W.findIn K (.ref C) "__setattr__"=Fa (Fa (.builtin "object.__setattr__")))(tk:W.findIn K (.ref C) f=Fa Db):yw K C f:=by refine⟨sa,⟨_,[C,C2],by unfold W.clsIn;rw[l1],rfl,rfl⟩,?_⟩;unfold W.takerIn;rw[tk];rfl
end L2
namespace L3
open L2
variable {X:Cx}{pos WD:Pos}{o e:Go}{es:T0 Go}{ta:T3}{t:xn}
theorem FX{K:qp}:∀{ns:T0 Int} {xs:T0 V} {us:T0 Vl},qc K H (ns.map D.int) xs->qA xs us->IntsAre us ns
 | [],xs,us,h,r=>by have:=h.nil_inv;subst this;cases r;exact .nil
 | n::ns,xs,us,h,r=>by
  obtain⟨y,ys,rfl,h1,h2⟩:=h.inv;cases h1.int_inv;cases r with
  | cons r1 r2=>obtain⟨t,rfl⟩:=r1;exact .cons n t (FX h2 r2)
def Qg(ds:T0 D)(M:Mp)(Q:DK):Prop:=match ds with
 | [.ref a]=>∃ns:T0 Int,oK M a=Fa (ns.map D.int)/\0<ns.length/\∀m∈ns,(∀n∈ns,n<=m)->Q (.int m) M
 | _=>False
def OH(hc:X.calm=pc):C3 X (.builtin "max") Qg:=by
 intro Wz s Y H vs us Q' I rv h;obtain⟨ds,M,Q,hd,hm,q,k⟩:=h;unfold Qg at q;split at q
 .rename_i a;obtain⟨v,rfl,hv⟩:=rA hd;obtain⟨ns,e0,hn,q⟩:=q;cases hv.mH;obtain⟨u,rfl,ru⟩:=wA rv;cases ru;obtain⟨xs,h1,h2,_⟩:=pU hm e0;obtain⟨its,r,pl,hz⟩:=I.list h1;have ia:=FX h2 r;obtain⟨ys,ey⟩:=ia.allInts.items;have en:numsOf (intItems ys).toList=ns:=by rw[<-ey];exact ia.numsOf
  have hsz:0<ys.size:=by
   have:=eR Array.size ey;rw[dA,ia.length]at this;have e2:(intItems ys).size=ys.size:=by simp[intItems]
   omega
  rw[nums_intItems]at en;refine max_intList (I.ok.hd hc) (ey ▸ pl.isList) hsz λv h' tk hv hk=>?_;obtain⟨t,rfl⟩:=intItems_at hv;obtain⟨g1,g2⟩:=argBest_gt (numAt ys) (ys.size - 1);refine⟨.int _,H,I.kept (h':=h') (t':=tk) hk,⟨t,rfl⟩,k _ _ _ _ .int hm .refl (q _ ?_ λn hn=>?_)⟩
  .rw[<-en,numAt_eq];exact getD_mem (by rw[cV,gO];omega)
  .rw[<-en]at hn;obtain⟨j,hj,rfl⟩:=mem_getD hn;rw[cV,gO]at hj;rw[<-numAt_eq];exact g2 j (by omega)
 .exact q.elim
structure FA where
 f:Uf
 d:Rs
 p:QQQ
structure DG(K:qp)(st:sB)(py qual:Str)(ps:QQQ)(x:FA):Prop where
 pe:x.p=ps
 fn:Od K py qual st x.f x.d
 b:uM K x.d x.p []
 ty:W.isFn K (.ref x.f)=pc
structure TG(K:qp)(mg:QQZ)(st:sB)(py:Str)(ps:QQQ)(x:FA):Prop extends DG K st py py ps x where
 mg:mg py=Fa (.ref x.f)
structure MG(K:qp)(C:Uf)(st:sB)(py qual:Str)(ps:QQQ)(x:FA):Prop extends DG K st py qual ps x where
 at_:W.findIn K (.ref C) py=Fa (Fa (.ref x.f))
structure CG(K:qp)(mg:QQZ)(nm:Str)(C:Uf):Prop extends Cls K C where
 mg:mg nm=Fa (.ref C)
def DG.kp{K:qp}{st:sB}{x:FA}(h:DG K st py qual ps x):W.keepIn K (.ref x.f)=pc:=h.fn.kp
def MG.nj{K:qp}{st:sB}{x:FA}(h:MG K C st py qual ps x):vM K C py x.f:=⟨h.at_,h.ty,h.toDG.kp⟩
def zy(K:qp)(C:Uf)(fs:QQQ):Prop:=∀f,fs.contains f=pc->ue K C f
def tq{K:qp}:zy K C []:=λf h=>by simp at h
def pM{K:qp}{C:Uf}{g:Str}(h:W.findIn K (.ref C) g=Fa Db)(r:zy K C fs):zy K C (g::fs):=λf q=>by
 rw[iz,gH]at q;rcases q with q|q
 .rw[At q];exact h
 .exact r f q
abbrev Fq(P:Pg)(w:Wo)(K:qp)(mg:QQZ)(base:No)(k:Nat)(x:FA)(sp:qY):Prop:=SK P w K mg base k x.f x.d x.p sp
abbrev Va(P:Pg)(w:Wo)(K:qp)(mg:QQZ)(base:No)(k:Nat)(x:FA)(sp:FW):Prop:=RG P w K mg base k x.f x.d x.p sp
def Q4(N P:QQQ)(sc:XV):Bool:=sc.kind==.function&&(!sc.isCoroutine&&(!sc.isGenerator&&(decide N.Nodup&&(decide (N.take P.length=P)&&((P.all λx=>sc.names.lookup x==Fa .local||sc.names.lookup x==Fa .cell)&&sc.names.all λy=>!(y.2==.free))))))
def Wq{N P:QQQ}(h:Q4 N P sc=pc):sV N P sc:=by
 unfold Q4 at h;simp only[dY,gw,fk,eC]at h;obtain⟨h1,h2,h3,h4,h5,h6,h7⟩:=h;refine⟨h1,h2,h3,h4,h5,λx hx=>?_,λy hy e=>?_⟩
 .have:=eU.mp h6 x hx
  simpa using this
 .have:=eU.mp h7 y hy;rw[e]at this;simp at this
variable {P:Pg}{w:Wo}{K:qp}{mg:QQZ}{base:No}
def VJ{st:sB}{sp:qY}(F:DG K st x qual ps fa)(S:sV N ps (pZ st))(len:∀ds M Q,sp ds M Q->ds.length=ps.length) (WT:∀(WJ:Vl) (A:Ar) (outer:T0 Env) (s:Sd) (H:Hp) (E:XK),rX k (A.deeper (dL qual (pZ st) s.heap.objs.size fa.f WJ))->
   ∃t,GX (vp Nt P w K mg base N qual (pZ st) fa.f WJ A outer s H E).ou (rO st) t/\∀ds M Q,sp ds M Q->t {nx:=λ_ M'=>∃WC,qo WC M'/\Q .mL WC,rt:=λd M'=>∃WC,qo WC M'/\Q d WC} (wW N ds) M):Fq P w K mg base (k+1) fa sp:=by
 unfold Fq;rw[F.pe];exact TJ F.fn S len WT
def Ud{st:sB}{sp:FW}(F:DG K st x qual ps fa)(S:sV N ps (pZ st))(len:∀ds M Q R,sp ds M Q R->ds.length=ps.length) (WT:∀(WJ:Vl) (A:Ar) (outer:T0 Env) (s:Sd) (H:Hp) (E:XK) (R:XR),rX k (A.deeper (dL qual (pZ st) s.heap.objs.size fa.f WJ))->Tw K R E->
   ∃t,GX (vp (Ci P w) P w K mg base N qual (pZ st) fa.f WJ A outer s H E) (rO st) t/\∀ds M Q,sp ds M Q R->t {nx:=λ_ M'=>∃WC,qo WC M'/\Q .mL WC,rt:=λd M'=>∃WC,qo WC M'/\Q d WC} (wW N ds) M):Va P w K mg base (k+1) fa sp:=by
 unfold Va;rw[F.pe];exact Uv F.fn S len WT
variable {k n:Nat}{f C:Uf}{fa:FA}{st:sB}{qual:Str}{ps:QQQ}{sp:qY}{x m:Str}{p:Pos}
def pE(F:Fq X.prog X.w X.K X.mg X.base k fa sp)(hr:rX n X.A)(T:TG X.K X.mg st x ps fa)(ha:A3 X (e::es) t)(hn:k<=n:=by first|decide|omega)(hg:Gl X x:=by rfl)
  (WS:yR x:=by decide) (he:Bg X e es:=by rfl) (WN:CC X pos es:=by rfl):
  E3 X (.Call (.Name x p) (e::es) [] pos) (Do sp t):=O9 F (hr.mono hn) hg T.mg T.toDG.kp T.b ha WS he WN
def vq(F:Fq X.prog X.w X.K X.mg X.base k fa sp)(hr:rX n X.A)(c:CG X.K X.mg x C)(i:Mk X.K C fa.f)(T:DG X.K st m qual ps fa)(ha:A3 X (e::es) t)(hn:k+1<=n:=by first|decide|omega)(hg:Gl X x:=by rfl)
  (WS:yR x:=by decide) (he:Bg X e es:=by rfl) (WN:CC X pos es:=by rfl):
  E3 X (.Call (.Name x p) (e::es) [] pos) (Qr C sp t):=NC c.toCls i F (hr.mono hn) hg c.mg T.b ha WS he WN
def pT{pl:Sem Bool}(he:E3 X o ta)(c:Cls X.K C)(T:MG X.K C st m qual ps fa)(F:Fq X.prog X.w X.K X.mg X.base k fa sp)(hr:rX n X.A)(ha:A3 X (e::es) t)(hn:k<=n:=by first|decide|omega)
  (WV:Bg X e es:=by rfl) (WN:CC X pos es:=by rfl)
  (ht:wp (.Call (.Attribute o m WD) (e::es) [] pos) X.env=(do
   let ov<-wp o X.env
   ZU WD.atName
   let(f,first)<-xz [ov] (wS ov m pl)
   ZX pos f first (Ix pos (Tl (e::es) X.env)) (xL pos (Ps [] X.env))):=by rfl):
  E3 X (.Call (.Attribute o m WD) (e::es) [] pos) (As m (λD s=>D=C/\s=sp) ta t):=
 Bl (R:=λD s=>D=C/\s=sp) he (λD s ⟨e1,e2⟩=>by subst e1 e2;exact⟨c,_,_,_,T.nj,F,T.b⟩) (hr.mono hn) ha WV WN ht
def yg{pl:Sem Bool}(he:E3 X o ta)(c:Cls X.K C)(T:MG X.K C st m qual ps fa)(F:Fq X.prog X.w X.K X.mg X.base k fa sp)(hr:rX n X.A)(hn:k<=n:=by first|decide|omega)
  (ht:wp (.Call (.Attribute o m WD) [] [] pos) X.env=(do
   let ov<-wp o X.env
   ZU WD.atName
   let(f,first)<-xz [ov] (wS ov m pl)
   ZX pos f first (Ix pos (Tl [] X.env)) (xL pos (Ps [] X.env))):=by rfl):
  E3 X (.Call (.Attribute o m WD) [] [] pos) (As m (λD s=>D=C/\s=sp) ta xG):=
 xK (R:=λD s=>D=C/\s=sp) he (λD s ⟨e1,e2⟩=>by subst e1 e2;exact⟨c,_,_,_,T.nj,F,T.b⟩) (hr.mono hn) ht
def yM{pl:Sem Bool}(cm:Li X.K C m fa.f)(F:Fq X.prog X.w X.K X.mg X.base k fa sp)(hr:rX n X.A)(c:CG X.K X.mg x C)(T:DG X.K st m qual ps fa)(ha:A3 X (e::es) t)(hn:k<=n:=by first|decide|omega)(hg:Gl X x:=by rfl)
  (WS:yR x:=by decide) (WV:Bg X e es:=by rfl) (WN:CC X pos es:=by rfl)
  (ht:wp (.Call (.Attribute (.Name x p) m WD) (e::es) [] pos) X.env=(do
   let ov<-wp (.Name x p) X.env
   ZU WD.atName
   let(f,first)<-xz [ov] (wS ov m pl)
   ZX pos f first (Ix pos (Tl (e::es) X.env)) (xL pos (Ps [] X.env))):=by rfl):
  E3 X (.Call (.Attribute (.Name x p) m WD) (e::es) [] pos) (Do sp t):=Nz cm F (hr.mono hn) hg c.mg T.kp T.b ha WS WV WN ht
variable {h:No}{py:Str}{od an:Option Uf}{sl:Array (Option Vl)}{kv dc pm cd ct:Vl}
def Iv{fd:Rs}{oc:Vl}(l:K.lookup f=Fa ⟨oc,od,.func fd,sl⟩):W.keepIn K (.ref f)=pc:=by unfold W.keepIn;simp only;rw[l]
def OZ{fd:Rs}(l:K.lookup f=Fa ⟨.type "function",od,.func fd,sl⟩):W.isFn K (.ref f)=pc:=by unfold W.isFn W.typeIn;simp only;rw[l];rfl
abbrev m8(py qual:Str)(st:sB)(ps:QQQ):Prop:=∀(kV Xd pm:Vl) (an:Option Uf) (WJ ct:Vl) (us:T0 Vl),us.length=ps.length->bindArgs (W.fnOf py qual (um st) (rO st) (pZ st) .none kV Xd pm an WJ ct) ⟨us,[]⟩=pure (ps.zip us)
def Qw(l:K.lookup f=Fa ⟨.type "function",od,.func (W.fnOf py qual (um st) (rO st) (pZ st) .none kv dc pm an cd ct),sl⟩)(k:W.codeIn K cd qual=pc)(hb:m8 py qual st ps):
  DG K st py qual ps ⟨f,W.fnOf py qual (um st) (rO st) (pZ st) .none kv dc pm an cd ct,ps⟩:=⟨rfl,KP l k (Iv l),(KP l k (Iv l)).binds hb,OZ l⟩
def qk(X:K.In h)(G:h.Ns wv mg)(a:W.nsIn K wv py=Fa (Fa (.ref f)))(l:K.lookup f=Fa ⟨.type "function",od,.func (W.fnOf py py (um st) (rO st) (pZ st) .none kv dc pm an cd ct),sl⟩)(k:W.codeIn K cd py=pc)(hb:m8 py py st ps):
  TG K mg st py ps ⟨f,W.fnOf py py (um st) (rO st) (pZ st) .none kv dc pm an cd ct,ps⟩:=⟨Qw l k hb,W.mg_of X G a⟩
def pW(a:W.findIn K (.ref C) py=Fa (Fa (.ref f)))(l:K.lookup f=Fa ⟨.type "function",od,.func (W.fnOf py qual (um st) (rO st) (pZ st) .none kv dc pm an cd ct),sl⟩)(k:W.codeIn K cd qual=pc)(hb:m8 py qual st ps):
  MG K C st py qual ps ⟨f,W.fnOf py qual (um st) (rO st) (pZ st) .none kv dc pm an cd ct,ps⟩:=⟨Qw l k hb,a⟩
def wG(X:K.In h)(G:h.Ns wv mg)(a:W.nsIn K wv py=Fa (Fa (.ref C)))(h1:W.plainGet K C Str.empty=pc)(h2:W.hasDictIn K C=pc)(h3:W.plainOver K C=pc)(h4:W.findIn K (.ref C) "__setattr__"=Fa (Fa (.builtin "object.__setattr__"))):CG K mg py C:=⟨⟨h1,h2,h3,h4⟩,W.mg_of X G a⟩
def Ob{x:Str}{a:Uf}{es:T0 DictEntry}{ep:Nat}(h:mg x=Fa (.ref a))(s:(a==IN)=lf)(l:K.lookup a=Fa ⟨.type "dict",Db,.dict es.toArray ep,#[]⟩) (r:KTD.Rows (λ(ss:QQQ) v=>∃t,v=Value.ref t/\ve K (λ_=>Db) t (ss.map V.str)) es T):Nb K mg x T:=⟨a,_,_,_,h,s,l,⟨rfl,rfl,rfl⟩,rfl,by simpa using r⟩
def MX{x qual y1 y2 fl:Str}{st:sB}(F:DG K st x qual [y1,y2] fa)(S:sV [y1,y2] [y1,y2] (pZ st)) (hb:∀(WJ:Vl) (A:Ar) (outer:T0 Env) (s:Sd) (H:Hp) (E:XK),Bz (vp (Ci P w) P w K mg base [y1,y2] qual (pZ st) fa.f WJ A outer s H E) (rO st) (LL K (HC 0) (HC 1) fl)):xp P w K mg base (Ci P w) 1 fa.f fa.d fa.p (wx K fl):=by
 rw[F.pe];exact K2 F.fn S hb
def S4(ds:T0 D)(M:Mp)(Q:DK):Prop:=match ds with
 | [.ref a]=>(oK M a).elim False λes=>(Gy es).elim False λbs=>Q (.bl (bs.any id)) M
 | _=>False
def RW(hc:X.calm=pc):C3 X (.builtin "any") S4:=by
 intro Wz s Y H vs us Q' I rv h;obtain⟨ds,M,Q,hd,hm,q,k⟩:=h;unfold S4 at q;split at q
 .rename_i a;obtain⟨v,rfl,hv⟩:=rA hd;obtain⟨es,e0,q⟩:=qN q;obtain⟨bs,e1,q⟩:=qN q;cases hv.mH;obtain⟨u,rfl,ru⟩:=wA rv;cases ru;obtain⟨xs,h1,h2,_⟩:=pU hm e0;obtain⟨its,r,pl,hz⟩:=I.list h1;have ZE:=Ej e1 h2 r;subst ZE;have WZ:a≠s.heap.objs.size:=by obtain⟨o,_,e,_⟩:=pl;exact dQ (dE e)
  refine call_any_walk (g9 pl.isList ?_);refine⟨s.heap.objs.size,_,_,_,_,_,λi=>(bs[i]?).getD lf,rfl,kg (A:=X.A.in1) (I.ok.hd hc) _ a WZ (bs.map Value.bool).toArray,⟨⟨_,dI _ rfl,rfl,rfl⟩,?_⟩,λi v s' Q E hP hQ=>?_,λh' tk hk=>?_⟩
  .obtain⟨o,n,e,c,d,q⟩:=pl;exact⟨o,df _ e,c,n,q⟩
  .simp only[iJ,dF]at hP;cases e2:bs[i]? with
   | none=>rw[e2]at hP;cases hP
   | some b=>rw[e2]at hP;cases hP;have hQ:Q ((bs[i]?).getD lf) s':=hQ;rw[e2]at hQ;exact fu hQ
  .have ea:(List.range (bs.map Value.bool).toArray.size).any (λi=>(bs[i]?).getD lf)=bs.any id:=by
    rw[dA,cV];rw[fH,gj,gj];constructor
    .rintro ⟨i,hi,z⟩
     have X3:=gz.mp hi;rw[cX X3]at z;exact⟨_,ic X3,z⟩
    .rintro ⟨b,hb,z⟩
     obtain⟨i,hi,e⟩:=fM hb;refine⟨i,gz.mpr hi,?_⟩;rw[cX hi,e];exact z
   rw[ea];refine⟨.bl (bs.any id),H,?_,rfl,k _ _ _ _ .bl hm .refl q⟩;exact I.kept (h':=h') (t':=tk) λb o e=>hk b o (by simpa using dQ (dE e)) (df _ e)
 .exact q.elim
def Q8:zn "any"=Fa (.builtin "any"):=by decide+kernel
end L3
namespace L3
open L2
def My(i:Nat){X:Cx}{pos:Pos}{x:Str}(h1:X.N[i]?=Fa x:=by rfl)(h2:Ta X.env.scope x:=by first|exact Or.inl rfl|exact Or.inr (Or.inl rfl)|exact Or.inr (Or.inr rfl))(h3:yR x:=by decide)(h4:(x==("__classdict__":Str))=lf:=by decide):E3 X (.Name x pos) (v3 i):=Ry i (pv i h1 h2 h3 h4)
variable {X:Cx}{pos:Pos}
def Wr{N:QQQ}(h:decide N.Nodup=pc):N.Nodup:=fv h
def pG(i:Nat){x:Str}{e:Go}{te:T3}{WL:Pos}{ps:QQQ}{sc:XV}(S:sV X.N ps sc)(he:E3 X e te)(hi:X.N[i]?=Fa x:=by rfl)(hx:Nq X.env.scope x:=by first|exact Or.inl rfl|exact Or.inr rfl)(X8:TD e (Fa (.Name x WL)) pos.line X.env=pure lf:=by rfl)(hf:Ln X x:=by first|exact .inl rfl|exact .inr rfl|assumption):S3 X (.Assign [.Name x WL] e pos) (yr te (rT i)):=Ra S.nd hi hx he X8 hf
def qI(i:Nat){x:Str}{ps:QQQ}{sc:XV}(S:sV X.N ps sc)(hi:X.N[i]?=Fa x:=by rfl)(hx:Nq X.env.scope x:=by first|exact Or.inl rfl|exact Or.inr rfl)(hf:Ln X x:=by first|exact .inl rfl|exact .inr rfl|assumption):G3 X (.Name x pos) (rT i):=Ir S.nd hi hx hf
def qB(i:Nat){x:Str}(hN:decide X.N.Nodup=pc:=by kernel_rfl)(hi:X.N[i]?=Fa x:=by rfl)(hx:Nq X.env.scope x:=by first|exact Or.inl rfl|exact Or.inr rfl)(hf:Ln X x:=by first|exact .inl rfl|exact .inr rfl|assumption):G3 X (.Name x pos) (rT i):=Ir (Wr hN) hi hx hf
abbrev Sc(n:Nat)(N:QQQ)(s:sB):=sV N (N.take n) (pZ s)
def sk{n:Nat}{s:sB}(h:Q4 N (N.take n) (pZ s)=pc:=by decide+kernel):Sc n N s:=Wq h
def qd(h0:E3 X e0 t0)(g0:Tl [e0] X.env=(lf,wp e0 X.env)::Tl [] X.env:=by rfl):A3 X [e0] (vn t0 xG):=(pP h0 sS g0)
def rW(h0:E3 X e0 t0)(h1:E3 X e1 t1)(g0:Tl [e0,e1] X.env=(lf,wp e0 X.env)::Tl [e1] X.env:=by rfl)(g1:Tl [e1] X.env=(lf,wp e1 X.env)::Tl [] X.env:=by rfl):A3 X [e0,e1] (vn t0 (vn t1 xG)):=(pP h0 (pP h1 sS g1) g0)
def qV(h0:E3 X e0 t0)(h1:E3 X e1 t1)(h2:E3 X e2 t2)(g0:Tl [e0,e1,e2] X.env=(lf,wp e0 X.env)::Tl [e1,e2] X.env:=by rfl)(g1:Tl [e1,e2] X.env=(lf,wp e1 X.env)::Tl [e2] X.env:=by rfl)(g2:Tl [e2] X.env=(lf,wp e2 X.env)::Tl [] X.env:=by rfl):A3 X [e0,e1,e2] (vn t0 (vn t1 (vn t2 xG))):=(pP h0 (pP h1 (pP h2 sS g2) g1) g0)
abbrev y0:=@My 0
abbrev U1:=@My 1
abbrev U2:=@My 2
abbrev U3:=@My 3
abbrev v5:=@My 5
abbrev v4:=@My 4
abbrev v6:=@My 6
abbrev v7:=@My 7
abbrev v8:=@My 8
abbrev v9:=@My 9
abbrev Vy:=@My 10
variable {P:Pg}{w:Wo}{K:qp}{mg:QQZ}{base:No}
def fq{st:sB}{sp:qY}(F:DG K st x qual ps fa)(S:sV N ps (pZ st)) (hb:∀{WJ:Vl} {A:Ar} {outer:T0 Env} {s:Sd} {H:Hp} {E:XK},rX k (A.deeper (dL qual (pZ st) s.heap.objs.size fa.f WJ))->(A.deeper (dL qual (pZ st) s.heap.objs.size fa.f WJ)).units+9<wP->
   ∃t,GX (vp Nt P w K mg base N qual (pZ st) fa.f WJ A outer s H E).ou (rO st) t/\∀ds M Q,sp ds M Q->t {nx:=λ_ M'=>∃WC,qo WC M'/\Q .mL WC,rt:=λd M'=>∃WC,qo WC M'/\Q d WC} (wW N ds) M) (len:∀ds M Q,sp ds M Q->ds.length=ps.length:=by walk_at "l"):Fq P w K mg base (k+1) fa sp:=VJ F S len λ_ _ _ _ _ _ h=>hb h (V7 h)
def xw{X:Cx}(h:G1 X.env.scope X.N scope ix N'=pc:=by kernel_rfl):r6 X scope ix N':=Uh h
end L3
namespace Z
open L2 L3
def qW(i:Nat):sB:=PySem.Challenge.pw_callboard_k16_whole_fits.main.body.getD i (.Pass ⟨0,0,0,0⟩)
abbrev tm(i j:Nat):sB:=NN (qW i) j
def HD:Sc 3 ["board","caller","target"] (qW 5):=sk
def Ct:Sc 1 ["told","word"] (qW 16):=sk
def Ac:Sc 1 ["answers"] (qW 18):=sk
def GQ:Sc 2 ["call","word"] (qW 20):=sk
def CS:Sc 2 ["call","phone"] (qW 21):=sk
def xP:Sc 2 ["call","event","word"] (qW 22):=sk
def BN:Sc 3 ["board","caller","target","wishes"] (qW 25):=sk
def s8:Sc 3 ["board","caller","target","free","members","place","in_turn"] (qW 26):=sk
def uY:Sc 3 ["board","caller","target","phones"] (qW 27):=sk
def Ab:Sc 2 ["wanted","target"] (qW 28):=sk
def wD:Sc 4 ["board","caller","target","way","come_to","steps","fits","wanted"] (qW 29):=sk
def yL:Sc 2 ["board","phone"] (qW 31):=sk
def ww:Sc 3 ["board","phone","target","word"] (qW 32):=sk
def Ky:Sc 3 ["word","phone","calls"] (qW 33):=sk
def tS:Sc 4 ["board","word","phone","numbers","calls","due"] (qW 34):=sk
def yC:Sc 3 ["board","word","number"] (qW 35):=sk
def Cu:Sc 2 ["board","deed","word"] (qW 36):=sk
def tT:Sc 3 ["board","number","steps","last","target","fits"] (qW 37):=sk
def uG:Sc 4 ["board","number","target","phones","members","place"] (qW 38):=sk
def xT:Sc 3 ["board","number","target","talk","members"] (qW 39):=sk
def xO:Sc 3 ["board","number","end","word"] (qW 40):=sk
def wu:Sc 2 ["board","number","call","told","end","steps","last"] (qW 41):=sk
def zF:Sc 3 ["board","phone","target","number"] (qW 42):=sk
def B0:Sc 3 ["board","phone","number","call"] (qW 43):=sk
def ym:Sc 2 ["board","call","wishes"] (qW 44):=sk
def BH:Sc 3 ["board","number","fits","wish"] (qW 45):=sk
def tJ:Sc 1 ["board","number","call","fits"] (qW 46):=sk
def tj:Sc 2 ["board","deed","word","phone","number","call","kept","others"] (qW 47):=sk
def LY:Sc 2 ["board","deed","word"] (qW 48):=sk
def HP:Sc 2 ["board","deed","word","begun"] (qW 49):=sk
def P0:Sc 2 ["holds","words"] (qW 64):=sk
def HA:Sc 1 ["text"] (qW 65):=sk
def CO:Sc 1 ["things"] (qW 66):=sk
def Fl:Sc 3 ["chosen","known","most"] (qW 67):=sk
def ua:Sc 1 ["phones","name","lines","rank"] (qW 68):=sk
def tY:Sc 2 ["groups","phone_names","name","manner","members"] (qW 69):=sk
def Dd:Sc 4 ["kind","part","phone_names","names"] (qW 70):=sk
def tU:Sc 3 ["wish","phone_names","names","form","parts","kind","part"] (qW 71):=sk
def uS:Sc 3 ["wishes","phone_names","names","on","wish"] (qW 72):=sk
def vX:Sc 3 ["phones","groups","wishes","phone_names","names"] (qW 73):=sk
def Jv:Sc 2 ["_law_script","_law_k"] (qW 76):=sk
def Gj:Sc 3 ["_law_cell","_law_factor","_law_many"] (qW 77):=sk
def uf:Sc 2 ["_law_seed","_law_which","_law_letters","_law_size","_law_place","_law_rest","_law_sign"] (qW 78):=sk
def xX:Sc 3 ["_law_row","_law_cell","_law_most","_law_first","_law_size"] (qW 79):=sk
def uJ:Sc 2 ["_law_seed","_law_most","_law_phones_here","_law_k","_law_lines"] (qW 80):=sk
def uK:Sc 2 ["_law_seed","_law_own","_law_groups_here","_law_g","_law_manner"] (qW 81):=sk
def tw:Sc 3 ["_law_cell","_law_own","_law_names","_law_a","_law_place","_law_b","_law_c","_law_pick","_law_first"] (qW 82):=sk
def so:Sc 2 ["_law_script","_law_most","_law_seed","_law_phones_here","_law_own","_law_groups_here","_law_names","_law_wishes","_law_k","_law_cell"] (qW 83):=sk
def Dl:Sc 1 ["_law_call"] (qW 84):=sk
def AK:Sc 2 ["_law_board","_law_states"] (qW 85):=sk
def rq:Sc 4 ["_law_board","_law_cell","_law_word_here","_law_states","_law_some_here","_law_k","_law_people_here","_law_a","_law_m"] (qW 86):=sk
def uD:Sc 4 ["_law_cell","_law_own","_law_names","_law_many","_law_a","_law_b","_law_k","_law_m","_law_some_here"] (qW 87):=sk
def rk:Sc 4 ["_law_board","_law_cell","_law_own","_law_names","_law_word_here","_law_states","_law_found","_law_a"] (qW 88):=sk
def xW:Sc 2 ["_law_board","_law_deed_here","_law_fine"] (qW 89):=sk
def J7:Sc 2 ["_law_call","_law_phone"] (qW 90):=sk
def qX:Sc 4 ["_law_board","_law_made","_law_caller","_law_target","_law_members","_law_name","_law_manner","_law_some_here","_law_lines","_law_rank"] (qW 91):=sk
def rR:Sc 5 ["_law_board","_law_made","_law_a","_law_caller","_law_target","_law_ranks","_law_name","_law_lines","_law_rank","_law_call"] (qW 92):=sk
def CJ:Sc 3 ["_law_hour","_law_first","_law_last"] (qW 93):=sk
def vF:Sc 6 ["_law_board","_law_made","_law_told","_law_caller","_law_target","_law_hour","_law_word_here","_law_waiting"] (qW 94):=sk
def GD:Sc 2 ["_law_found","_law_due"] (qW 95):=sk
def sL:Sc 5 ["_law_board","_law_made","_law_own","_law_names","_law_hour","_law_wish_here","_law_on","_law_told","_law_caller","_law_target","_law_due"] (qW 96):=sk
def ui:Sc 1 ["_law_script","_law_made","_law_own","_law_names","_law_cell","_law_acts","_law_more","_law_board","_law_turns","_law_k","_law_deed_here"] (qW 97):=sk
def BP:Sc 2 ["self","word"] (tm 3 0):=sk
def CF:Sc 3 ["self","plan","hour"] (tm 23 0):=sk
def Fx:Sc 4 ["self","phones","groups","wishes"] (tm 74 0):=sk
def F6:Sc 2 ["self","told"] (tm 7 0):=sk
def EG:Sc 1 ["self"] (tm 6 1):=sk
def Gu:Sc 4 ["self","board","caller","target"] (tm 7 2):=sk
def FB:Sc 2 ["self","told"] (tm 8 0):=sk
def Fw:Sc 4 ["self","board","caller","target"] (tm 8 2):=sk
def A5:Sc 2 ["self","told"] (tm 9 0):=sk
def BJ:Sc 4 ["self","board","caller","target"] (tm 10 0):=sk
def CH:Sc 2 ["self","told"] (tm 11 0):=sk
def Dj:Sc 4 ["self","board","caller","target"] (tm 11 2):=sk
def Em:Sc 4 ["self","board","caller","target"] (tm 12 0):=sk
def BX:Sc 2 ["self","told"] (tm 13 0):=sk
def BZ:Sc 4 ["self","board","caller","target"] (tm 13 1):=sk
def Fh:Sc 2 ["self","told"] (tm 14 0):=sk
def Ek:Sc 4 ["self","board","caller","target"] (tm 14 2):=sk
def Br:Sc 2 ["self","told"] (tm 15 0):=sk
def vH:Sc 4 ["self","board","caller","target","talk","members"] (tm 15 3):=sk
def zS:Sc 2 ["self","phone"] (tm 23 3):=sk
def EF:Sc 2 ["self","told"] (tm 6 0):=sk
def zA:Sc 2 ["self","hour"] (tm 11 1):=sk
def zh:Sc 1 ["self"] (tm 23 8):=sk
def ze:Sc 2 ["self","phone"] (tm 23 6):=sk
def yi:Sc 1 ["self"] (tm 74 2):=sk
def vB:Sc 3 ["self","plan","members","rank"] (tm 15 2):=sk
def xC:Sc 2 ["self","event","word"] (tm 23 12):=sk
def zq:Sc 3 ["self","caller","target"] (tm 23 7):=sk
def EV:Sc 2 ["self","phone"] (tm 74 4):=sk
def CT:Sc 1 ["self"] (tm 74 1):=sk
def Ah:Sc 2 ["self","phone"] (tm 23 2):=sk
def EJ:Sc 2 ["self","caller"] (tm 19 0):=sk
def yF:Sc 2 ["self","phone"] (tm 19 2):=sk
def yP:Sc 2 ["self","phone"] (tm 19 5):=sk
def yj:Sc 2 ["self","phone"] (tm 19 4):=sk
def zQ:Sc 2 ["self","leg"] (tm 23 10):=sk
def xD:Sc 4 ["self","merged","kept","members","call"] (tm 23 11):=sk
def vD:Sc 1 ["self","call"] (tm 23 9):=sk
def yB:Sc 2 ["self","phone"] (tm 19 8):=sk
def zw:Sc 2 ["self","name"] (tm 74 5):=sk
def BO:Sc 2 ["self","phone"] (tm 23 4):=sk
def Ae:Sc 2 ["self","phone"] (tm 23 5):=sk
def Dh:Sc 2 ["self","phone"] (tm 23 1):=sk
def C0:Sc 2 ["self","phone"] (tm 74 3):=sk
def xf:Sc 2 ["self","phone"] (tm 19 7):=sk
def CM:Sc 2 ["self","phone"] (tm 19 6):=sk
def B':Sc 2 ["self","call"] (tm 6 4):=sk
def zW:Sc 2 ["self","call"] (tm 13 2):=sk
def CU:Sc 2 ["self","phone"] (tm 19 3):=sk
def Gm:Sc 2 ["self","phone"] (tm 19 1):=sk
def Ft:Sc 1 ["self"] (tm 7 1):=sk
def CY:Sc 1 ["self"] (tm 8 1):=sk
def zV:Sc 1 ["self"] (tm 9 1):=sk
def CV:Sc 1 ["self"] (tm 14 1):=sk
def A0:Sc 1 ["self"] (tm 15 1):=sk
def BU:Sc 2 ["self","name"] (tm 74 6):=sk
noncomputable def JR:T0 (Str×QQQ):=[("bar",["phone","names"]),("shut",["name","phones"]),("always",["name","name"]),("night",["name","name","hour","hour"]),("busy",["name","name"]),("silent",["name","name","turns"]),("wait",["phone"]),("breaks",["phone"])]
set_option genInjectivity false in
structure Ad where
 (M aa N ab aP aQ aR aS aT aU aV ac aW aX aY aZ a0 a1 a2 a3 a4 ad a5 a6 a7 a8 a9 ba bb O m ae af P bc bd be bf bg bh F i ag H bi bj bk bl bm bn bo bp bq br bs Q bt bu bv bw bx ah I ai aj ak l al am an A ao ap aq ar au av aw ax ay az R E bz bA bB S bC k aA aB bD T aC U aD V bE bF bG aE X bH bI bJ bK bL aF q aG bM bN aH aI z aJ aK aL:FA)
 (B r t Y w n x u v o e c h b3 J:Uf)
structure Gl(K:qp)(mg:QQZ)(a:Ad):Prop where
 B:CG K mg "Wish" a.B
 r:CG K mg "Bar" a.r
 t:CG K mg "Shut" a.t
 Y:CG K mg "Forward" a.Y
 w:CG K mg "Always" a.w
 n:CG K mg "Night" a.n
 x:CG K mg "Busy" a.x
 u:CG K mg "Silent" a.u
 v:CG K mg "Wait" a.v
 o:CG K mg "Breaks" a.o
 e:CG K mg "Call" a.e
 c:CG K mg "Board" a.c
 h:CG K mg "Plan" a.h
 cU:mg "CallError"=Fa (.ref a.b3)
 bW:mg "NoDeed"=Fa (.ref a.J)
 M:TG K mg (qW 5) "is_busy" ["board","caller","target"] a.M
 aa:TG K mg (qW 16) "wish_of" ["told"] a.aa
 N:TG K mg (qW 18) "place_of_true" ["answers"] a.N
 ab:TG K mg (qW 20) "end_call" ["call","word"] a.ab
 aP:TG K mg (qW 21) "drop_phone" ["call","phone"] a.aP
 aQ:TG K mg (qW 22) "change_call" ["call","event"] a.aQ
 aR:TG K mg (qW 25) "fitting" ["board","caller","target"] a.aR
 aS:TG K mg (qW 26) "rung_phones" ["board","caller","target"] a.aS
 aT:TG K mg (qW 27) "end_without_wish" ["board","caller","target"] a.aT
 aU:TG K mg (qW 28) "end_as_wanted" ["wanted","target"] a.aU
 aV:TG K mg (qW 29) "route" ["board","caller","target","way"] a.aV
 ac:TG K mg (qW 31) "word_for_idling" ["board","phone"] a.ac
 aW:TG K mg (qW 32) "word_for_call" ["board","phone","target"] a.aW
 aX:TG K mg (qW 33) "suits" ["word","phone","calls"] a.aX
 aY:TG K mg (qW 34) "word_for_numbers" ["board","word","phone","numbers"] a.aY
 aZ:TG K mg (qW 35) "word_for_switch" ["board","word","number"] a.aZ
 a0:TG K mg (qW 36) "refusal" ["board","deed"] a.a0
 a1:TG K mg (qW 37) "take_steps" ["board","number","steps"] a.a1
 a2:TG K mg (qW 38) "start_ringing" ["board","number","target","phones"] a.a2
 a3:TG K mg (qW 39) "break_in" ["board","number","target"] a.a3
 a4:TG K mg (qW 40) "come_to_end" ["board","number","end"] a.a4
 ad:TG K mg (qW 41) "go_on" ["board","number"] a.ad
 a5:TG K mg (qW 42) "make_call" ["board","phone","target"] a.a5
 a6:TG K mg (qW 43) "hang_up" ["board","phone","number"] a.a6
 a7:TG K mg (qW 44) "due_wishes" ["board","call"] a.a7
 a8:TG K mg (qW 45) "send_on" ["board","number","fits"] a.a8
 a9:TG K mg (qW 46) "let_turn_pass" ["board"] a.a9
 ba:TG K mg (qW 47) "event_of" ["board","deed"] a.ba
 bb:TG K mg (qW 48) "act" ["board","deed"] a.bb
 O:TG K mg (qW 49) "do" ["board","deed"] a.O
 m:TG K mg (qW 64) "need" ["holds","words"] a.m
 ae:TG K mg (qW 65) "is_name" ["text"] a.ae
 af:TG K mg (qW 66) "all_unlike" ["things"] a.af
 P:TG K mg (qW 67) "is_choice" ["chosen","known","most"] a.P
 bc:TG K mg (qW 68) "check_phones" ["phones"] a.bc
 bd:TG K mg (qW 69) "check_groups" ["groups","phone_names"] a.bd
 be:TG K mg (qW 70) "part_holds" ["kind","part","phone_names","names"] a.be
 bf:TG K mg (qW 71) "check_wish" ["wish","phone_names","names"] a.bf
 bg:TG K mg (qW 72) "check_wishes" ["wishes","phone_names","names"] a.bg
 bh:TG K mg (qW 73) "check_plan" ["phones","groups","wishes"] a.bh
 F:TG K mg (qW 76) "_law_at" ["_law_script","_law_k"] a.F
 i:TG K mg (qW 77) "_law_draw" ["_law_cell","_law_factor","_law_many"] a.i
 ag:TG K mg (qW 78) "_law_word" ["_law_seed","_law_which"] a.ag
 H:TG K mg (qW 79) "_law_some" ["_law_row","_law_cell","_law_most"] a.H
 bi:TG K mg (qW 80) "_law_phones" ["_law_seed","_law_most"] a.bi
 bj:TG K mg (qW 81) "_law_groups" ["_law_seed","_law_own"] a.bj
 bk:TG K mg (qW 82) "_law_wish" ["_law_cell","_law_own","_law_names"] a.bk
 bl:TG K mg (qW 83) "_law_plan" ["_law_script","_law_most"] a.bl
 bm:TG K mg (qW 84) "_law_people" ["_law_call"] a.bm
 bn:TG K mg (qW 85) "_law_of_state" ["_law_board","_law_states"] a.bn
 bo:TG K mg (qW 86) "_law_on_call" ["_law_board","_law_cell","_law_word_here","_law_states"] a.bo
 bp:TG K mg (qW 87) "_law_any" ["_law_cell","_law_own","_law_names","_law_many"] a.bp
 bq:TG K mg (qW 88) "_law_deed" ["_law_board","_law_cell","_law_own","_law_names"] a.bq
 br:TG K mg (qW 89) "_law_done" ["_law_board","_law_deed_here"] a.br
 bs:TG K mg (qW 90) "_law_in" ["_law_call","_law_phone"] a.bs
 Q:TG K mg (qW 91) "_law_is_busy" ["_law_board","_law_made","_law_caller","_law_target"] a.Q
 bt:TG K mg (qW 92) "_law_may_break" ["_law_board","_law_made","_law_a","_law_caller","_law_target"] a.bt
 bu:TG K mg (qW 93) "_law_within" ["_law_hour","_law_first","_law_last"] a.bu
 bv:TG K mg (qW 94) "_law_due_fit" ["_law_board","_law_made","_law_told","_law_caller","_law_target","_law_hour"] a.bv
 bw:TG K mg (qW 95) "_law_flag" ["_law_found","_law_due"] a.bw
 bx:TG K mg (qW 96) "_law_right" ["_law_board","_law_made","_law_own","_law_names","_law_hour"] a.bx
 ah:TG K mg (qW 97) "law" ["_law_script"] a.ah
 I:MG K a.J (tm 3 0) "__init__" "NoDeed.__init__" ["self","word"] a.I
 ai:MG K a.c (tm 23 0) "__init__" "Board.__init__" ["self","plan","hour"] a.ai
 aj:MG K a.h (tm 74 0) "__init__" "Plan.__init__" ["self","phones","groups","wishes"] a.aj
 ak:MG K a.r (tm 7 0) "__init__" "Bar.__init__" ["self","told"] a.ak
 l:MG K a.B (tm 6 1) "told" "Wish.told" ["self"] a.l
 al:MG K a.r (tm 7 2) "fits" "Bar.fits" ["self","board","caller","target"] a.al
 am:MG K a.t (tm 8 0) "__init__" "Shut.__init__" ["self","told"] a.am
 an:MG K a.t (tm 8 2) "fits" "Shut.fits" ["self","board","caller","target"] a.an
 A:MG K a.Y (tm 9 0) "__init__" "Forward.__init__" ["self","told"] a.A
 ao:MG K a.w (tm 10 0) "fits" "Always.fits" ["self","board","caller","target"] a.ao
 ap:MG K a.n (tm 11 0) "__init__" "Night.__init__" ["self","told"] a.ap
 aq:MG K a.n (tm 11 2) "fits" "Night.fits" ["self","board","caller","target"] a.aq
 ar:MG K a.x (tm 12 0) "fits" "Busy.fits" ["self","board","caller","target"] a.ar
 au:MG K a.u (tm 13 0) "__init__" "Silent.__init__" ["self","told"] a.au
 av:MG K a.u (tm 13 1) "fits" "Silent.fits" ["self","board","caller","target"] a.av
 aw:MG K a.v (tm 14 0) "__init__" "Wait.__init__" ["self","told"] a.aw
 ax:MG K a.v (tm 14 2) "fits" "Wait.fits" ["self","board","caller","target"] a.ax
 ay:MG K a.o (tm 15 0) "__init__" "Breaks.__init__" ["self","told"] a.ay
 az:MG K a.o (tm 15 3) "fits" "Breaks.fits" ["self","board","caller","target"] a.az
 R:MG K a.c (tm 23 3) "talk_of" "Board.talk_of" ["self","phone"] a.R
 E:MG K a.B (tm 6 0) "__init__" "Wish.__init__" ["self","told"] a.E
 bz:MG K a.n (tm 11 1) "has_hour" "Night.has_hour" ["self","hour"] a.bz
 bA:MG K a.c (tm 23 8) "hour_now" "Board.hour_now" ["self"] a.bA
 bB:MG K a.c (tm 23 6) "waits_at" "Board.waits_at" ["self","phone"] a.bB
 S:MG K a.h (tm 74 2) "phone_names" "Plan.phone_names" ["self"] a.S
 bC:MG K a.o (tm 15 2) "outranks" "Breaks.outranks" ["self","plan","members"] a.bC
 k:MG K a.c (tm 23 12) "apply" "Board.apply" ["self","event"] a.k
 aA:MG K a.c (tm 23 7) "ringable" "Board.ringable" ["self","caller","target"] a.aA
 aB:MG K a.h (tm 74 4) "rank" "Plan.rank" ["self","phone"] a.aB
 bD:MG K a.h (tm 74 1) "names" "Plan.names" ["self"] a.bD
 T:MG K a.c (tm 23 2) "is_free" "Board.is_free" ["self","phone"] a.T
 aC:MG K a.e (tm 19 0) "__init__" "Call.__init__" ["self","caller"] a.aC
 U:MG K a.e (tm 19 2) "talks_with" "Call.talks_with" ["self","phone"] a.U
 aD:MG K a.e (tm 19 5) "waits_with" "Call.waits_with" ["self","phone"] a.aD
 V:MG K a.e (tm 19 4) "is_tried_by" "Call.is_tried_by" ["self","phone"] a.V
 bE:MG K a.c (tm 23 10) "add_leg" "Board.add_leg" ["self","leg"] a.bE
 bF:MG K a.c (tm 23 11) "merge" "Board.merge" ["self","merged","kept","members"] a.bF
 bG:MG K a.c (tm 23 9) "pass_turn" "Board.pass_turn" ["self"] a.bG
 aE:MG K a.e (tm 19 8) "other_than" "Call.other_than" ["self","phone"] a.aE
 X:MG K a.h (tm 74 5) "phones_of" "Plan.phones_of" ["self","name"] a.X
 bH:MG K a.c (tm 23 4) "bound" "Board.bound" ["self","phone"] a.bH
 bI:MG K a.c (tm 23 5) "calling" "Board.calling" ["self","phone"] a.bI
 bJ:MG K a.c (tm 23 1) "used" "Board.used" ["self","phone"] a.bJ
 bK:MG K a.h (tm 74 3) "lines" "Plan.lines" ["self","phone"] a.bK
 bL:MG K a.e (tm 19 7) "can_be_left_by" "Call.can_be_left_by" ["self","phone"] a.bL
 aF:MG K a.e (tm 19 6) "pairs" "Call.pairs" ["self","phone"] a.aF
 q:MG K a.B (tm 6 4) "is_due" "Wish.is_due" ["self","call"] a.q
 aG:MG K a.u (tm 13 2) "is_due" "Silent.is_due" ["self","call"] a.aG
 bM:MG K a.e (tm 19 3) "binds" "Call.binds" ["self","phone"] a.bM
 bN:MG K a.e (tm 19 1) "has" "Call.has" ["self","phone"] a.bN
 aH:MG K a.r (tm 7 1) "wants" "Bar.wants" ["self"] a.aH
 aI:MG K a.t (tm 8 1) "wants" "Shut.wants" ["self"] a.aI
 z:MG K a.Y (tm 9 1) "wants" "Forward.wants" ["self"] a.z
 aJ:MG K a.v (tm 14 1) "wants" "Wait.wants" ["self"] a.aJ
 aK:MG K a.o (tm 15 1) "wants" "Breaks.wants" ["self"] a.aK
 aL:MG K a.h (tm 74 6) "manner" "Plan.manner" ["self","name"] a.aL
 b4:Ib K a.J a.I.f
 b5:yw K a.J "word"
 b6:W.exmOne K (.ref a.J) (.ref a.J)=Fa pc
 b7:Mk K a.c a.ai.f
 b8:Mk K a.h a.aj.f
 b9:Mk K a.r a.ak.f
 ca:Mk K a.t a.am.f
 cb:Mk K a.w a.A.f
 cc:Mk K a.n a.ap.f
 cd:Mk K a.x a.A.f
 ce:Mk K a.u a.au.f
 cf:Mk K a.v a.aw.f
 cg:Mk K a.o a.ay.f
 ch:Mk K a.e a.aC.f
 ci:vM K a.r "told" a.l.f
 cj:vM K a.t "told" a.l.f
 ck:vM K a.w "told" a.l.f
 cl:vM K a.n "told" a.l.f
 cm:vM K a.x "told" a.l.f
 cn:vM K a.u "told" a.l.f
 co:vM K a.v "told" a.l.f
 cp:vM K a.o "told" a.l.f
 cq:vM K a.r "is_due" a.q.f
 cr:vM K a.t "is_due" a.q.f
 cs:vM K a.w "is_due" a.q.f
 ct:vM K a.n "is_due" a.q.f
 cu:vM K a.x "is_due" a.q.f
 cv:vM K a.v "is_due" a.q.f
 cw:vM K a.o "is_due" a.q.f
 cx:vM K a.w "wants" a.z.f
 cy:vM K a.n "wants" a.z.f
 cz:vM K a.x "wants" a.z.f
 cA:vM K a.u "wants" a.z.f
 aM:Li K a.B "__init__" a.E.f
 bX:Li K a.Y "__init__" a.A.f
 C:zy K a.c ["plan","hour","turn","calls","legs","nexts","on","log"]
 Z:zy K a.h ["phones","groups","wishes","on","phone_rows","group_rows"]
 bR:zy K a.r ["form","phone","targets"]
 bS:zy K a.t ["form","target","callers"]
 bT:zy K a.w ["form","target","goal"]
 aN:zy K a.n ["form","target","goal","first","last"]
 bU:zy K a.x ["form","target","goal"]
 bO:zy K a.u ["form","target","goal","turns"]
 bY:zy K a.v ["form","phone"]
 bZ:zy K a.o ["form","phone"]
 j:zy K a.e ["state","caller","way","at","members","holder","since","word"]
 cB:W.kitOne K (.type "bool") (.type "bool")=Fa pc
 bP:mg "enumerate"=Db
 cC:mg "int"=Db
 g:mg "len"=Db
 aO:mg "range"=Db
 cD:mg "min"=Db
 L:mg "tuple"=Db
 bV:mg "dict"=Db
 y:mg "list"=Db
 b0:mg "zip"=Db
 cE:mg "isinstance"=Db
 cF:mg "bool"=Db
 cG:mg "set"=Db
 cH:mg "max"=Db
 bQ:mg "all"=Db
 cI:mg "any"=Db
 cJ:KD K mg "MOST_PHONES" (.int 8)
 cK:KD K mg "MOST_LINES" (.int 3)
 cL:KD K mg "MOST_RANK" (.int 9)
 cM:KD K mg "MOST_GROUPS" (.int 3)
 cN:KD K mg "MANNERS" (.tup ((["all","turns"]:QQQ).map D.str))
 cO:KD K mg "MOST_MEMBERS" (.int 4)
 cP:KD K mg "MOST_WISHES" (.int 16)
 cQ:KD K mg "MOST_SIGNS" (.int 6)
 cR:KD K mg "LETTERS" (.str "abcdefghijklmnopqrstuvwxyz")
 b1:Nb K mg "FORMS" JR
 b2:KD K mg "MOST_LISTED" (.int 6)
 cS:KD K mg "LAST_HOUR" (.int 23)
 cT:KD K mg "MOST_TURNS" (.int 9)
noncomputable def qx(c f m:Int):Int:=(c % 2147483647+5)*f % 2147483629 / 89 % m
def qS{c f m:Int}(h:0<m):0<=qx c f m:=eV _ (by omega)
def qG{c f m:Int}(h:0<m):qx c f m<m:=eN _ h
def Iy:qY:=λds M Q=>De λc f m=>ds=[.int c,.int f,.int m]/\0<m/\Q (.int (qx c f m)) M
noncomputable def uq:Str:="abcdefghijklmnopqrstuvwxyz"
noncomputable def ub(i:Int):Str:=⟨#[97+i.toNat]⟩
noncomputable def size(s:Int):Int:=1+s % 6
noncomputable def uu(s:Int):Int:=s / 6 % size s
noncomputable def xM(s v:Int):Str:=yQ (ub (s / 36 % 26)) (uu s)++ub ((s / 936+v) % 26)++yQ (ub (s / 36 % 26)) (size s - 1 - uu s)
def NA:qY:=λds M Q=>CW λs v=>ds=[.int s,.int v]/\Q (.str (xM s v)) M
noncomputable def cell(ns:T0 Int)(i:Int):Int:=if 0<=i/\i<ns.length then ns.getD i.toNat 0 else 0
def Ui:qY:=λds M Q=>CW λns i=>ds=[.rl (ns.map D.int),.int i]/\Q (.int (cell ns i)) M
def Gc(c:Int):0<size c:=by unfold size;have:=eV c (show(6:Int)≠0 by decide);omega
def IL(c:Int):size c<=6:=by unfold size;have:=eN c (show(0:Int)<6 by decide);omega
def GU(i n:Int):(yQ (ub i) n).length=n.toNat:=by show((List.replicate n.toNat (ub i).cps).foldl (·++·) #[]:Array Nat).size=n.toNat;rw[IB];show n.toNat*1=n.toNat;omega
def Ay:uq.length<=Ch:=by decide+kernel
variable {P:Pg}{w:Wo}{K:qp}{mg:QQZ}{base:No}{a:Ad}(G:Gl K mg a)
def qF:Fq P w K mg base 1 a.i Iy:=by
 refine fq G.i.toDG Gj (λr u=>⟨_,(oZ (pk (pQ (pQ (pQ (pQ (pQ (pQ y0 pb) pb) U1) pb) pb) U2))),?_⟩)
 rintro ds M Q ⟨c,f,m,rfl,hm,q⟩
 refine⟨by decide,.inl ?_,by decide,⟨by decide,by decide⟩,hm,M,.refl,q⟩;have h1:0<=c % 2147483647:=eV _ (by decide);have h2:c % 2147483647<2147483647:=eN _ (by decide);exact⟨by omega,by omega⟩
def Dw{i:Int}(h0:0<=i)(h1:i<26):wI uq.cps.toList i=Fa (97+i.toNat):=by
 obtain⟨n,rfl⟩:=eD h0;have hn:n<26:=by omega
 have key:∀n:_root_.Fin 26,wI uq.cps.toList ((n.val:Nat):Int)=Fa (97+n.val):=by decide+kernel
 exact key ⟨n,hn⟩
def Jb:Fq P w K mg base 1 a.ag NA:=by
 refine fq G.ag.toDG uf (λr u=>⟨_,(oY (pG 2 uf pf)
 (oY (pG 3 uf (pQ pb (pQ y0 pb)))
 (oY (pG 4 uf (pQ (pQ y0 pb) U3))
 (oY (pG 5 uf (pF U2 (pQ (pQ y0 pb) pb)))
 (oY (pG 6 uf (pF U2 (pQ (pQ (pQ y0 pb) U1) pb)))
 (oZ (pk (pQ (pQ (pQ v5 v4) v6) (pQ v5 (pQ (pQ U3 pb) v4)))))))))),?_⟩)
 rintro ds M Q ⟨c,v,rfl,q⟩
 have hs:=Gc c;have hs6:=IL c;have hp0:0<=uu c:=eV _ (by omega);have Yj:uu c<size c:=eN _ hs;have l1:=GU (c / 36 % 26) (uu c);have l2:=GU (c / 36 % 26) (size c - 1 - uu c);have hz:=dP;refine⟨by decide,⟨by decide,by decide⟩,hs,⟨by decide,by decide⟩,by decide,Ay,i' (Dw (eV _ (by decide)) (eN _ (by decide))) ?_⟩;refine⟨⟨by decide,by decide⟩,by decide,Ay,i' (Dw (eV _ (by decide)) (eN _ (by decide))) ?_⟩;refine⟨⟨?_,?_,?_⟩,?_,⟨?_,?_,?_⟩,?_,M,.refl,q⟩
 .show uu c<4096;omega
 .show -4096<uu c;omega
 .show(1:Nat)<4096;decide
 .show(yQ (ub (c / 36 % 26)) (uu c)).length+1<=Ch;omega
 .show size c - 1 - uu c<4096;omega
 .show -4096<size c - 1 - uu c;omega
 .show(1:Nat)<4096;decide
 .show(yQ (ub (c / 36 % 26)) (uu c)++ub ((c / 936+v) % 26)).length+(yQ (ub (c / 36 % 26)) (size c - 1 - uu c)).length<=Ch;rw[PySem.size_cat];have:(ub ((c / 936+v) % 26)).length=1:=rfl;omega
def GR:Fq P w K mg base 1 a.F Ui:=by
 refine fq G.F.toDG Jv (λr u=>⟨_,(oY (pJ (FQ u pb U1 (pN ql rfl G.g qh (qd y0)))
 (oZ (pk (pF y0 U1)))
 pD)
 (oZ (pk pb))),?_⟩)
 rintro ds M Q ⟨ns,i,rfl,q⟩
 refine qg (λh0=>?_) (λh0=>?_)
 .have h0:0<=i:=fv h0;refine qg (λh1=>?_) (λh1=>?_)
  .have h1:i<((ns.map D.int).length:Int):=fv h1;rw[cV]at h1;have hi:i.toNat<ns.length:=by omega
   have e:wI (ns.map D.int) i=Fa (D.int (ns.getD i.toNat 0)):=by
    obtain⟨n,rfl⟩:=eD h0;have hn:n<ns.length:=by omega
    refine vb ?_;rw[dF,cX hn];simp[hn]
   refine i' e ⟨M,.refl,?_⟩;have:cell ns i=ns.getD i.toNat 0:=by unfold cell;rw[dh ⟨h0,h1⟩]
   rw[<-this];exact q
  .have h1:¬i<((ns.map D.int).length:Int):=λz=>h1 (dX z);rw[cV]at h1;refine⟨M,.refl,?_⟩;have:cell ns i=0:=by unfold cell;rw[de (λz=>h1 z.2)]
   rw[<-this];exact q
 .have h0:¬0<=i:=λz=>h0 (dX z);refine⟨M,.refl,?_⟩;have:cell ns i=0:=by unfold cell;rw[de (λz=>h0 z.1)]
  rw[<-this];exact q
inductive Wi where
 | bar (x:Str) (ns:QQQ)|shut (x:Str) (ns:QQQ)|always (x y:Str)|night (x y:Str) (f l:Int)|busy (x y:Str)|silent (x y:Str) (n:Int)|wait (x:Str)|breaks (x:Str)
abbrev names(ns:QQQ):D:=.tup (ns.map D.str)
noncomputable def Wi.told:Wi->T0 D
 | .bar x ns=>[.str "bar",.str x,names ns]
 | .shut x ns=>[.str "shut",.str x,names ns]
 | .always x y=>[.str "always",.str x,.str y]
 | .night x y f l=>[.str "night",.str x,.str y,.int f,.int l]
 | .busy x y=>[.str "busy",.str x,.str y]
 | .silent x y n=>[.str "silent",.str x,.str y,.int n]
 | .wait x=>[.str "wait",.str x]
 | .breaks x=>[.str "breaks",.str x]
noncomputable def Wi.cls(a:Ad):Wi->Uf
 | .bar _ _=>a.r
 | .shut _ _=>a.t
 | .always _ _=>a.w
 | .night _ _ _ _=>a.n
 | .busy _ _=>a.x
 | .silent _ _ _=>a.u
 | .wait _=>a.v
 | .breaks _=>a.o
noncomputable def Wi.more:Wi->T0 (Str×D)
 | .bar x ns=>[("phone",.str x),("targets",names ns)]
 | .shut x ns=>[("target",.str x),("callers",names ns)]
 | .always x y=>[("target",.str x),("goal",.str y)]
 | .night x y f l=>[("target",.str x),("goal",.str y),("first",.int f),("last",.int l)]
 | .busy x y=>[("target",.str x),("goal",.str y)]
 | .silent x y n=>[("target",.str x),("goal",.str y),("turns",.int n)]
 | .wait x=>[("phone",.str x)]
 | .breaks x=>[("phone",.str x)]
noncomputable def Wi.nH(v:Wi):T0 (Str×D):=("form",.tup v.told)::v.more
abbrev Bm(ns:QQQ)(i:Int):Str:=ns.getD i.toNat Str.empty
noncomputable def xm(row:QQQ)(c m:Int):Nat:=(1+qx c 40692 (if (row.length:Int)<m then(row.length:Int)else m)).toNat
noncomputable def S7(row:QQQ)(c:Int)(j:Nat):Str:=Bm row ((qx c 69621 row.length+(0+(j:Nat))) % row.length)
noncomputable def va(row:QQQ)(c m:Int):QQQ:=(List.range (xm row c m)).map (S7 row c)
def Pk:qY:=λds M Q=>BA λr c m row=>ds=[.ref r,.int c,.int m]/\oK M r=Fa (row.map D.str)/\row≠[]/\0<m/\row.length<=64/\Q (names (va row c m)) M
def ID{row:QQQ}(h:row≠[])(x:Int):wI (row.map D.str) (x % row.length)=Fa (D.str (Bm row (x % row.length))):=by
 have hl:0<row.length:=fC.mpr h;have h0:0<=x % row.length:=eV _ (by omega);have h1:x % row.length<row.length:=eN _ (by omega);obtain⟨n,hn⟩:=eD h0;rw[hn]at h1 ⊢;have YA:n<row.length:=by omega
 refine vb ?_;rw[dF,cX YA];simp[Bm,YA]
def vS:Fq P w K mg base 2 a.H Pk:=by
 refine fq G.H.toDG xX (λr u=>⟨_,(oY (pG 3 xX (pE (qF G) r G.i (qV U1 pb (pN ql rfl G.g qh (qd y0)))))
 (oY (pG 4 xX (pQ pb (pE (qF G) r G.i (qV U1 pb (pN (RF rfl) rfl G.cD QC (rW U2 (pN ql rfl G.g qh (qd y0))))))))
 (oZ (pk (qr uN rfl G.L uO (qd (qE rfl (xw (ix:=[Db,Fa 0,Fa 3]) (N':=["_law_j","_law_row","_law_first"])) (wH rfl G.aO (qd v4)) (qB 0) rP (pF U1 (pQ (pQ U2 y0) (pN ql rfl G.g qh (qd U1))))))))))),?_⟩)
 rintro ds M Q ⟨r,c,m,row,rfl,hl,WZ,hm,h64,q⟩
 have WE:0<row.length:=fC.mpr WZ;have hz:=dP;have el:((row.map D.str).length:Int)=row.length:=by rw[cV]
 refine i' hl ⟨c,69621,_,rfl,by rw[el];omega,?_⟩;refine i' hl ⟨c,40692,_,rfl,by rw[el];split<;>omega,?_⟩;rw[el];have d0:=qS (c:=c) (f:=40692) (m:=if (row.length:Int)<m then(row.length:Int)else m) (by split<;>omega);have d1:=qG (c:=c) (f:=40692) (m:=if (row.length:Int)<m then(row.length:Int)else m) (by split<;>omega);have d2:qx c 40692 (if (row.length:Int)<m then(row.length:Int)else m)<row.length+1:=by refine Int.lt_of_lt_of_le d1 ?_;split<;>omega
 refine⟨rfl,⟨?_,?_⟩,qR (f:=λd=>match d with|.int j=>D.str (Bm row ((qx c 69621 row.length+j) % row.length))|_=>.mL) trivial _ [] _ ?_ (λd hd k hk=>?_) λp hp=>?_⟩
 .show -(2 ^ 62)<=1+qx c 40692 (if (row.length:Int)<m then(row.length:Int)else m);omega
 .show 1+qx c 40692 (if (row.length:Int)<m then(row.length:Int)else m)<2 ^ 62;omega
 .rw[cV,eG];show 0+xm row c m<=Ch;unfold xm;omega
 .obtain⟨j,_,rfl⟩:=dD.mp hd;refine i' hl ⟨by rw[el];omega,i' hl ?_⟩;rw[el];exact i' (ID WZ _) hk
 .refine i' (x:=(va row c m).map D.str) ?_ ⟨M,.new hp,q⟩;unfold oK;rw[pL];show Fa ([]++((List.range (xm row c m)).map λi=>D.int (0+(i:Nat))).map _)=_;rw[d6,eA];unfold va;rw[eA];rfl
noncomputable def wz(c:Int)(own all:QQQ):Wi:=
 let x:=Bm own (qx c 16807 own.length);let pl:=qx c 39373 all.length;let y:=Bm all pl;let z:=Bm all ((pl+1+qx c 742938285 ((all.length:Int) - 1)) % all.length);let k:=qx c 1226874159 12
 if k=0 then .bar x (va all c 3)
 else if k=1 then .shut y (va own c 3)
 else if k=2 then .always y z
 else if k<5 then .night y z (qx c 22695477 24) ((qx c 22695477 24+1+qx c 48271 23) % 24)
 else if k<7 then .busy y z
 else if k<9 then .silent y z ([1,1,2,3,9].getD (qx c 950706376 5).toNat 0)
 else if k=9 then .wait x
 else .breaks x
def OF:qY:=λds M Q=>GY λc o n own all=>ds=[.int c,.ref o,.ref n]/\oK M o=Fa (own.map D.str)/\oK M n=Fa (all.map D.str)/\own≠[]/\2<=all.length/\own.length<=64/\all.length<=64/\Q (.tup (wz c own all).told) M
def Hn{row:QQQ}{x:Int}(h0:0<=x)(h1:x<row.length):wI (row.map D.str) x=Fa (D.str (Bm row x)):=by
 obtain⟨n,rfl⟩:=eD h0;have YA:n<row.length:=by omega
 refine vb ?_;rw[dF,cX YA];simp[Bm,YA]
def Ox:Fq P w K mg base 3 a.bk OF:=by
 refine fq G.bk.toDG tw (λr u=>⟨_,(oY (pG 3 tw (pF U1 (pE (qF G) r G.i (qV y0 pb (pN ql rfl G.g qh (qd U1))))))
 (oY (pG 4 tw (pE (qF G) r G.i (qV y0 pb (pN ql rfl G.g qh (qd U2)))))
 (oY (pG 5 tw (pF U2 v4))
 (oY (pG 6 tw (pF U2 (pQ (pQ (pQ v4 pb) (pE (qF G) r G.i (qV y0 pb (pQ (pN ql rfl G.g qh (qd U2)) pb)))) (pN ql rfl G.g qh (qd U2)))))
 (oY (pG 7 tw (pE (qF G) r G.i (qV y0 pb pb)))
 (oY (pJ (pA u v7 pb)
 (oZ (pk (pI (qV pf U3 (pE (vS G) r G.H (qV U2 y0 pb))))))
 pD)
 (oY (pJ (pA u v7 pb)
 (oZ (pk (pI (qV pf v5 (pE (vS G) r G.H (qV U1 y0 pb))))))
 pD)
 (oY (pJ (pA u v7 pb)
 (oZ (pk (pI (qV pf v5 v6))))
 pD)
 (oY (pJ (pA u v7 pb)
 (oY (pG 8 tw (pE (qF G) r G.i (qV y0 pb pb)))
 (oZ (pk (pI (pP pf (pP v5 (qV v6 v8 (pQ (pQ (pQ v8 pb) (pE (qF G) r G.i (qV y0 pb pb))) pb))))))))
 pD)
 (oY (pJ (pA u v7 pb)
 (oZ (pk (pI (qV pf v5 v6))))
 pD)
 (oY (pJ (pA u v7 pb)
 (oZ (pk (pI (pP pf (qV v5 v6 (pF (pI (pP pb (pP pb (qV pb pb pb)))) (pE (qF G) r G.i (qV y0 pb pb))))))))
 pD)
 (oY (pJ (pA u v7 pb)
 (oZ (pk (pI (rW pf U3))))
 pD)
 (oZ (pk (pI (rW pf U3)))))))))))))))),?_⟩)
 rintro ds M Q ⟨c,o,n,own,all,rfl,ho,hn,WZ,h2,l1,l2,q⟩
 have WE:0<own.length:=fC.mpr WZ;have hne2:all≠[]:=λz=>by rw[z]at h2;simp at h2
 have e1:((own.map D.str).length:Int)=own.length:=by rw[cV]
 have e2:((all.map D.str).length:Int)=all.length:=by rw[cV]
 have p1:(0:Int)<own.length:=by omega
 have p2:(0:Int)<all.length:=by omega
 have p3:(0:Int)<(all.length:Int) - 1:=by omega
 refine i' ho ⟨c,_,_,rfl,by rw[e1];exact p1,?_⟩;rw[e1];refine i' ho (i' (Hn (qS p1) (qG p1)) ?_);refine i' hn ⟨c,_,_,rfl,by rw[e2];exact p2,?_⟩;rw[e2];refine i' hn (i' (Hn (qS p2) (qG p2)) ?_);refine i' hn ⟨c,_,_,rfl,by rw[e2];exact p3,?_⟩;rw[e2];refine i' hn ⟨by rw[e2];exact p2,?_⟩;rw[e2];refine i' hn (i' (ID hne2 _) ?_);refine⟨c,_,_,rfl,by decide,?_⟩;have WB:∀t:T0 D,(wz c own all).told=t->∃WC,qo WC M/\Q (.tup t) WC:=λt e=>⟨M,.refl,e ▸ q⟩;have k0:0<=qx c 1226874159 12:=qS (by decide);refine qg (λh=>?_) (λh=>?_)
 .have h:qx c 1226874159 12=0:=by simpa using h
  refine⟨n,c,3,all,rfl,hn,hne2,by decide,l2,oW rfl,WB _ ?_⟩;simp only[wz,dh h,Wi.told]
 have h:¬qx c 1226874159 12=0:=by simpa using h
 refine qg (λg=>?_) (λg=>?_)
 .have g:qx c 1226874159 12=1:=by simpa using g
  refine⟨o,c,3,own,rfl,ho,WZ,by decide,l1,oW rfl,WB _ ?_⟩;simp only[wz,de h,dh g,Wi.told]
 have g:¬qx c 1226874159 12=1:=by simpa using g
 refine qg (λi=>?_) (λi=>?_)
 .have i:qx c 1226874159 12=2:=by simpa using i
  refine⟨oW rfl,WB _ ?_⟩;simp only[wz,de h,de g,dh i,Wi.told]
 have i:¬qx c 1226874159 12=2:=by simpa using i
 refine qg (λj=>?_) (λj=>?_)
 .have j:qx c 1226874159 12<5:=fv j;refine⟨c,_,_,rfl,by decide,c,_,_,rfl,by decide,by decide,oW rfl,WB _ ?_⟩;simp only[wz,de h,de g,de i,dh j,Wi.told]
 have j:¬qx c 1226874159 12<5:=λz=>j (dX z);refine qg (λl=>?_) (λl=>?_)
 .have l:qx c 1226874159 12<7:=fv l;refine⟨oW rfl,WB _ ?_⟩;simp only[wz,de h,de g,de i,de j,dh l,Wi.told]
 have l:¬qx c 1226874159 12<7:=λz=>l (dX z);refine qg (λm=>?_) (λm=>?_)
 .have m:qx c 1226874159 12<9:=fv m;have d0:0<=qx c 950706376 5:=qS (by decide);have d1:qx c 950706376 5<5:=qG (by decide);have e:wI [D.int 1,.int 1,.int 2,.int 3,.int 9] (qx c 950706376 5)=Fa (D.int ([1,1,2,3,9].getD (qx c 950706376 5).toNat 0)):=by
   obtain⟨t,ht⟩:=eD d0;rw[ht]at d1 ⊢;have:t<5:=by omega
   match t,this with
   | 0,_=>rfl
   | 1,_=>rfl
   | 2,_=>rfl
   | 3,_=>rfl
   | 4,_=>rfl
  refine⟨oW rfl,c,_,_,rfl,by decide,i' e ⟨oW rfl,WB _ ?_⟩⟩;simp only[wz,de h,de g,de i,de j,de l,dh m,Wi.told]
 have m:¬qx c 1226874159 12<9:=λz=>m (dX z);refine qg (λr=>?_) (λr=>?_)
 .have r:qx c 1226874159 12=9:=by simpa using r
  refine⟨oW rfl,WB _ ?_⟩;simp only[wz,de h,de g,de i,de j,de l,de m,dh r,Wi.told]
 have r:¬qx c 1226874159 12=9:=by simpa using r
 refine⟨oW rfl,WB _ ?_⟩;simp only[wz,de h,de g,de i,de j,de l,de m,de r,Wi.told]
def LR(K:qp):qY:=λds M Q=>De λp d C=>ds=[.ref p,d]/\M p=Fa (.ins C [])/\ue K C "form"/\Q .mL (pB M p (.ins C [("form",d)]))
def KC(K:qp):qY:=λds M Q=>GY λp t x y C=>ds=[.ref p,.tup t]/\wI t 1=Fa x/\wI t 2=Fa y/\M p=Fa (.ins C [])/\ue K C "form"/\ue K C "target"/\ue K C "goal"/\Q .mL (pB M p (.ins C [("form",.tup t),("target",x),("goal",y)]))
def ya(a:Ad)(k:Wi->Prop):qY:=λds M Q=>CW λp v=>ds=[.ref p,.tup (Wi.told v)]/\k v/\M p=Fa (.ins (v.cls a) [])/\Q .mL (pB M p (.ins (v.cls a) v.nH))
def xH:Fq P w K mg base 1 a.E (LR K):=by
 refine fq G.E.toDG EF (λr u=>⟨_,(oZ (pX y0 U1)),?_⟩)
 rintro ds M Q ⟨p,d,C,rfl,hp,na,q⟩
 exact o9 hp ⟨na,by decide,_,.refl,q⟩
def zp:Fq P w K mg base 2 a.A (KC K):=by
 refine fq G.A.toDG A5 (λr u=>⟨_,(oY (pK (yM G.aM (xH G) r G.B G.E.toDG (rW y0 U1)))
 (oY (pX y0 (pF U1 pb))
 (oZ (pX y0 (pF U1 pb))))),?_⟩)
 rintro ds M Q ⟨p,t,x,y,C,rfl,e1,e2,hp,n1,n2,n3,q⟩
 refine⟨p,_,C,rfl,hp,n1,i' e1 (o9 pL ⟨n2,by show 1<1000;decide,?_⟩)⟩;refine i' e2 (o9 pL ⟨n3,by show 2<1000;decide,_,?_,q⟩);rw[rH,rH];exact .refl
def R6:Fq P w K mg base 2 a.ak (ya a λv=>∃x ns,v=.bar x ns):=by
 refine fq G.ak.toDG F6 (λr u=>⟨_,(oY (pK (yM G.aM (xH G) r G.B G.E.toDG (rW y0 U1)))
 (oY (pX y0 (pF U1 pb))
 (oZ (pX y0 (pF U1 pb))))),?_⟩)
 rintro ds M Q ⟨p,v,rfl,⟨x,ns,rfl⟩,hp,q⟩
 refine⟨p,_,_,rfl,hp,(G.bR "form" rfl),o9 pL ⟨(G.bR "phone" rfl),by show 1<1000;decide,?_⟩⟩;refine o9 pL ⟨(G.bR "targets" rfl),by show 2<1000;decide,_,?_,q⟩;rw[rH,rH];exact .refl
def NM:Fq P w K mg base 2 a.am (ya a λv=>∃x ns,v=.shut x ns):=by
 refine fq G.am.toDG FB (λr u=>⟨_,(oY (pK (yM G.aM (xH G) r G.B G.E.toDG (rW y0 U1)))
 (oY (pX y0 (pF U1 pb))
 (oZ (pX y0 (pF U1 pb))))),?_⟩)
 rintro ds M Q ⟨p,v,rfl,⟨x,ns,rfl⟩,hp,q⟩
 refine⟨p,_,_,rfl,hp,(G.bS "form" rfl),o9 pL ⟨(G.bS "target" rfl),by show 1<1000;decide,?_⟩⟩;refine o9 pL ⟨(G.bS "callers" rfl),by show 2<1000;decide,_,?_,q⟩;rw[rH,rH];exact .refl
def L7:Fq P w K mg base 3 a.ap (ya a λv=>∃x y f l,v=.night x y f l):=by
 refine fq G.ap.toDG CH (λr u=>⟨_,(oY (pK (yM G.bX (zp G) r G.Y G.A.toDG (rW y0 U1)))
 (oY (pX y0 (pF U1 pb))
 (oZ (pX y0 (pF U1 pb))))),?_⟩)
 rintro ds M Q ⟨p,v,rfl,⟨x,y,f,l,rfl⟩,hp,q⟩
 refine⟨p,_,_,_,_,rfl,rfl,rfl,hp,(G.aN "form" rfl),(G.aN "target" rfl),(G.aN "goal" rfl),o9 pL ⟨(G.aN "first" rfl),by show 3<1000;decide,?_⟩⟩;refine o9 pL ⟨(G.aN "last" rfl),by show 4<1000;decide,_,?_,q⟩;rw[rH,rH];exact .refl
def JK:Fq P w K mg base 3 a.au (ya a λv=>∃x y n,v=.silent x y n):=by
 refine fq G.au.toDG BX (λr u=>⟨_,(oY (pK (yM G.bX (zp G) r G.Y G.A.toDG (rW y0 U1)))
 (oZ (pX y0 (pF U1 pb)))),?_⟩)
 rintro ds M Q ⟨p,v,rfl,⟨x,y,n,rfl⟩,hp,q⟩
 refine⟨p,_,_,_,_,rfl,rfl,rfl,hp,(G.bO "form" rfl),(G.bO "target" rfl),(G.bO "goal" rfl),o9 pL ⟨(G.bO "turns" rfl),by show 3<1000;decide,_,?_,q⟩⟩;rw[rH];exact .refl
def Ov:Fq P w K mg base 2 a.aw (ya a λv=>∃x,v=.wait x):=by
 refine fq G.aw.toDG Fh (λr u=>⟨_,(oY (pK (yM G.aM (xH G) r G.B G.E.toDG (rW y0 U1)))
 (oZ (pX y0 (pF U1 pb)))),?_⟩)
 rintro ds M Q ⟨p,v,rfl,⟨x,rfl⟩,hp,q⟩
 refine⟨p,_,_,rfl,hp,(G.bY "form" rfl),o9 pL ⟨(G.bY "phone" rfl),by show 1<1000;decide,_,?_,q⟩⟩;rw[rH];exact .refl
def Kg:Fq P w K mg base 2 a.ay (ya a λv=>∃x,v=.breaks x):=by
 refine fq G.ay.toDG Br (λr u=>⟨_,(oY (pK (yM G.aM (xH G) r G.B G.E.toDG (rW y0 U1)))
 (oZ (pX y0 (pF U1 pb)))),?_⟩)
 rintro ds M Q ⟨p,v,rfl,⟨x,rfl⟩,hp,q⟩
 refine⟨p,_,_,rfl,hp,(G.bZ "form" rfl),o9 pL ⟨(G.bZ "phone" rfl),by show 1<1000;decide,_,?_,q⟩⟩;rw[rH];exact .refl
def HB(a:Ad):qY:=λds M Q=>∃v:Wi,ds=[.tup v.told]/\∀p,M p=Db->Q (.ref p) (pB M p (.ins (v.cls a) v.nH))
def Ig(a:Ad):qY:=λds M Q=>CW λp (v:Wi)=>ds=[.ref p]/\M p=Fa (.ins (v.cls a) v.nH)/\Q (.tup v.told) M
def Hm:qY:=λds M Q=>∃p,ds=[.ref p]/\Q (.tup [.str "end"]) M
def Ld:qY:=λds M Q=>∃p,ds=[.ref p]/\Q (.tup [.str "break"]) M
def Qi:qY:=λds M Q=>BA λp C fs y=>ds=[.ref p]/\M p=Fa (.ins C fs)/\fs.lookup ("goal":Str)=Fa y/\Q (.tup [.str "to",y]) M
def Qb:qY:=λds M Q=>BA λp C fs y=>ds=[.ref p]/\M p=Fa (.ins C fs)/\fs.lookup ("phone":Str)=Fa y/\Q (.tup [.str "wait",y]) M
def Fc(a:Ad):Uf->qY->Prop:=λC sp=>(∃v:Wi,C=v.cls a)/\sp=Ig a
def Jl(a:Ad):Uf->qY->Prop:=λC sp=>((C=a.r\/C=a.t)/\sp=Hm)\/((C=a.w\/C=a.n\/C=a.x\/C=a.u)/\sp=Qi)\/(C=a.v/\sp=Qb)\/(C=a.o/\sp=Ld)
def BV:Fq P w K mg base 5 a.aa (HB a):=by
 refine fq G.aa.toDG Ct (λr u=>⟨_,(oY (pG 1 Ct (pF y0 pb))
 (oY (pJ (pA u U1 pf)
 (oZ (pk (vq (R6 G) r G.r G.b9 G.ak.toDG (qd y0))))
 pD)
 (oY (pJ (pA u U1 pf)
 (oZ (pk (vq (NM G) r G.t G.ca G.am.toDG (qd y0))))
 pD)
 (oY (pJ (pA u U1 pf)
 (oZ (pk (vq (zp G) r G.w G.cb G.A.toDG (qd y0))))
 pD)
 (oY (pJ (pA u U1 pf)
 (oZ (pk (vq (L7 G) r G.n G.cc G.ap.toDG (qd y0))))
 pD)
 (oY (pJ (pA u U1 pf)
 (oZ (pk (vq (zp G) r G.x G.cd G.A.toDG (qd y0))))
 pD)
 (oY (pJ (pA u U1 pf)
 (oZ (pk (vq (JK G) r G.u G.ce G.au.toDG (qd y0))))
 pD)
 (oY (pJ (pA u U1 pf)
 (oZ (pk (vq (Ov G) r G.v G.cf G.aw.toDG (qd y0))))
 pD)
 (oY (pJ (pA u U1 pf)
 (oZ (pk (vq (Kg G) r G.o G.cg G.ay.toDG (qd y0))))
 pD)
 (oZ FF)))))))))),?_⟩)
 rintro ds M Q ⟨v,rfl,q⟩
 have WB:∀(x:Uf) (c0 c1:uR) (C:Uf) (fs:T0 (Str×D)),M x=Db->Q (.ref x) (pB M x c1)->∃WC,qo WC (pB (pB M x c0) x c1)/\Q (.ref x) WC:=λx c0 c1 C fs hx q=>⟨_,by rw[rH];exact .refl,q⟩;cases v with
 | bar x ns=>exact λp hp=>⟨p,.bar x ns,rfl,⟨_,_,rfl⟩,pL,rfl,WB p _ _ 0 [] hp (q p hp)⟩
 | shut x ns=>exact λp hp=>⟨p,.shut x ns,rfl,⟨_,_,rfl⟩,pL,rfl,WB p _ _ 0 [] hp (q p hp)⟩
 | always x y=>exact λp hp=>⟨p,_,_,_,_,rfl,rfl,rfl,pL,(G.bT "form" rfl),(G.bT "target" rfl),(G.bT "goal" rfl),rfl,WB p _ _ 0 [] hp (q p hp)⟩
 | night x y f l=>exact λp hp=>⟨p,.night x y f l,rfl,⟨_,_,_,_,rfl⟩,pL,rfl,WB p _ _ 0 [] hp (q p hp)⟩
 | busy x y=>exact λp hp=>⟨p,_,_,_,_,rfl,rfl,rfl,pL,(G.bU "form" rfl),(G.bU "target" rfl),(G.bU "goal" rfl),rfl,WB p _ _ 0 [] hp (q p hp)⟩
 | silent x y n=>exact λp hp=>⟨p,.silent x y n,rfl,⟨_,_,_,rfl⟩,pL,rfl,WB p _ _ 0 [] hp (q p hp)⟩
 | wait x=>exact λp hp=>⟨p,.wait x,rfl,⟨_,rfl⟩,pL,rfl,WB p _ _ 0 [] hp (q p hp)⟩
 | breaks x=>exact λp hp=>⟨p,.breaks x,rfl,⟨_,rfl⟩,pL,rfl,WB p _ _ 0 [] hp (q p hp)⟩
def OS:Fq P w K mg base 1 a.l (Ig a):=by
 refine fq G.l.toDG EG (λr u=>⟨_,(oZ (pk (pq y0))),?_⟩)
 rintro ds M Q ⟨p,v,rfl,hp,q⟩
 exact o9 hp (i' rfl ⟨M,.refl,q⟩)
def PQ:Fq P w K mg base 1 a.aH Hm:=by
 refine fq G.aH.toDG Ft (λr u=>⟨_,(oZ (pk (pI (qd pf)))),?_⟩)
 rintro ds M Q ⟨p,rfl,q⟩
 exact⟨oW rfl,M,.refl,q⟩
def LD:Fq P w K mg base 1 a.aI Hm:=by
 refine fq G.aI.toDG CY (λr u=>⟨_,(oZ (pk (pI (qd pf)))),?_⟩)
 rintro ds M Q ⟨p,rfl,q⟩
 exact⟨oW rfl,M,.refl,q⟩
def vP:Fq P w K mg base 1 a.z Qi:=by
 refine fq G.z.toDG zV (λr u=>⟨_,(oZ (pk (pI (rW pf (pq y0))))),?_⟩)
 rintro ds M Q ⟨p,C,fs,y,rfl,hp,e,q⟩
 exact o9 hp (i' e ⟨oW rfl,M,.refl,q⟩)
def Mg:Fq P w K mg base 1 a.aJ Qb:=by
 refine fq G.aJ.toDG CV (λr u=>⟨_,(oZ (pk (pI (rW pf (pq y0))))),?_⟩)
 rintro ds M Q ⟨p,C,fs,y,rfl,hp,e,q⟩
 exact o9 hp (i' e ⟨oW rfl,M,.refl,q⟩)
def Hs:Fq P w K mg base 1 a.aK Ld:=by
 refine fq G.aK.toDG A0 (λr u=>⟨_,(oZ (pk (pI (qd pf)))),?_⟩)
 rintro ds M Q ⟨p,rfl,q⟩
 exact⟨oW rfl,M,.refl,q⟩
def HH:∀C sp,Fc a C sp->xR P w K mg base 1 "told" C (Nw K sp):=by
 rintro C sp ⟨⟨v,rfl⟩,rfl⟩
 have F:=OS (P:=P) (w:=w) (base:=base) G;cases v with
 | bar _ _=>exact⟨G.r.toCls,_,_,_,G.ci,F,G.l.b⟩
 | shut _ _=>exact⟨G.t.toCls,_,_,_,G.cj,F,G.l.b⟩
 | always _ _=>exact⟨G.w.toCls,_,_,_,G.ck,F,G.l.b⟩
 | night _ _ _ _=>exact⟨G.n.toCls,_,_,_,G.cl,F,G.l.b⟩
 | busy _ _=>exact⟨G.x.toCls,_,_,_,G.cm,F,G.l.b⟩
 | silent _ _ _=>exact⟨G.u.toCls,_,_,_,G.cn,F,G.l.b⟩
 | wait _=>exact⟨G.v.toCls,_,_,_,G.co,F,G.l.b⟩
 | breaks _=>exact⟨G.o.toCls,_,_,_,G.cp,F,G.l.b⟩
def NQ:∀C sp,Jl a C sp->xR P w K mg base 1 "wants" C (Nw K sp):=by
 rintro C sp (⟨rfl|rfl,rfl⟩|⟨rfl|rfl|rfl|rfl,rfl⟩|⟨rfl,rfl⟩|⟨rfl,rfl⟩)
 .exact⟨G.r.toCls,_,_,_,G.aH.nj,PQ G,G.aH.b⟩
 .exact⟨G.t.toCls,_,_,_,G.aI.nj,LD G,G.aI.b⟩
 .exact⟨G.w.toCls,_,_,_,G.cx,vP G,G.z.b⟩
 .exact⟨G.n.toCls,_,_,_,G.cy,vP G,G.z.b⟩
 .exact⟨G.x.toCls,_,_,_,G.cz,vP G,G.z.b⟩
 .exact⟨G.u.toCls,_,_,_,G.cA,vP G,G.z.b⟩
 .exact⟨G.v.toCls,_,_,_,G.aJ.nj,Mg G,G.aJ.b⟩
 .exact⟨G.o.toCls,_,_,_,G.aK.nj,Hs G,G.aK.b⟩
noncomputable def ul(x:Str):Bool:=decide ((1:Int)<=x.length)&&(decide ((x.length:Int)<=6)&&x.cps.toList.all λc=>Df ⟨#[c]⟩ uq)
def Hy:qY:=λds M Q=>∃x:Str,ds=[.str x]/\x.length<=1000/\Q (.bl (ul x)) M
def IH:qY:=λds M Q=>∃w,ds=[.bl pc,w]/\Q .mL M
noncomputable def wZ(ss:QQQ):Bool:=((sP ss).length:Int)==(ss.length:Int)
def RT(M:Mp)(x:D)(ss:QQQ):Prop:=x=.tup (ss.map D.str)\/∃a,x=.ref a/\oK M a=Fa (ss.map D.str)
def Jp:qY:=λds M Q=>CW λx ss=>ds=[x]/\RT M x ss/\ss.length<4000/\Q (.bl (wZ ss)) M
def yW{α:Type}(f:α->Bool)(l:List α):(l.map f).all id=l.all f:=by rw[mo];rfl
def rG(x:Str)(ss:QQQ):inD (.str x) (ss.map D.str)=ss.any (·==x):=by unfold inD;rw[jJ];rfl
theorem qe:∀ss:QQQ,(ss.map D.str).all uU=pc
 | []=>rfl
 | _::r=>by rw[dZ,fS,qe r];rfl
noncomputable def su(cs ks:QQQ)(m:Int):Bool:=decide ((1:Int)<=cs.length)&&(decide ((cs.length:Int)<=m)&&(wZ cs&&cs.all λc=>ks.any (·==c)))
def JG:qY:=λds M Q=>BA λcs ks k m=>ds=[.tup (cs.map D.str),.ref k,.int m]/\oK M k=Fa (ks.map D.str)/\cs.length<4000/\Q (.bl (su cs ks m)) M
def Cb:Fq P w K mg base 1 a.ae Hy:=by
 refine fq G.ae.toDG HA (λr u=>⟨_,(oZ (pk (rV (ur u pb (pN ql rfl G.g qh (qd y0)) (sC rfl G.cQ)) (rJ (pN (ET rfl) rfl G.bQ Eg (qd (qE rfl (xw (ix:=[Db]) (N':=["sign"])) (qv y0) (qB 0) rP (pR u y0 (sC rfl G.cR))))))))),?_⟩)
 rintro ds M Q ⟨x,rfl,hl,q⟩
 have hz:=dP;refine⟨by omega,qg (λh1=>?_) (λh1=>?_)⟩
 .refine qg (λh2=>?_) (λh2=>?_)
  .refine qR (f:=λd=>match d with|.str z=>D.bl (Df z uq)|_=>.mL) trivial _ [] _ ?_ (λd hd k hk=>?_) λp hp=>?_
   .rw[cV];have:x.cps.toList.length=x.length:=by simp[Str.length]
    simp only[dO];omega
   .obtain⟨c,_,rfl⟩:=dD.mp hd;exact hk
   .refine i' pz ?_;have e:([]++(x.cps.toList.map λc=>D.str ⟨#[c]⟩).map λd=>match d with|.str z=>D.bl (Df z uq)|_=>.mL)=x.cps.toList.map λc=>D.bl (Df ⟨#[c]⟩ uq):=by rw[d6,eA];rfl
    rw[e];refine i' (ye (λc=>Df ⟨#[c]⟩ uq) x.cps.toList) ⟨M,.new hp,?_⟩;rw[yW];have:ul x=x.cps.toList.all λc=>Df ⟨#[c]⟩ uq:=by unfold ul;rw[h1,h2];rfl
    rw[<-this];exact q
  .refine⟨M,.refl,?_⟩;have:ul x=lf:=by
    unfold ul;have h2:decide ((x.length:Int)<=6)=lf:=by simpa using h2
    rw[h2];simp
   rw[<-this];exact q
 .refine⟨M,.refl,?_⟩;have:ul x=lf:=by
   unfold ul;have h1:decide ((1:Int)<=x.length)=lf:=by simpa using h1
   rw[h1];rfl
  rw[<-this];exact q
def sO:Fq P w K mg base 1 a.m IH:=by
 refine fq G.m.toDG P0 (λr u=>⟨_,(oZ (pJ (we (uB y0))
 (oZ FF)
 pD)),?_⟩)
 rintro ds M Q ⟨x,rfl,q⟩
 exact⟨M,.refl,q⟩
def DJ:Fq P w K mg base 1 a.af Jp:=by
 refine fq G.af.toDG CO (λr u=>⟨_,(oZ (pk (pR u (Kh rfl y0 rfl G.g rfl G.cG qh RO) (pN ql rfl G.g qh (qd y0))))),?_⟩)
 rintro ds M Q ⟨x,ss,rfl,hx,hl,q⟩
 have key:((ss.map D.str).length:Int)=ss.length:=by rw[cV]
 rcases hx with rfl|⟨b,rfl,hb⟩
 .refine i' (L3.B2 ss) ⟨hl,M,.refl,?_⟩;rw[key];exact q
 .refine i' hb (i' (L3.B2 ss) ⟨hl,i' hb ⟨M,.refl,?_⟩⟩);rw[key];exact q
def zP:Fq P w K mg base 2 a.P JG:=by
 refine fq G.P.toDG Fl (λr u=>⟨_,(oZ (pk (rV (ur u pb (pN ql rfl G.g qh (qd y0)) U2) (rV (pE (DJ G) r G.af (qd y0)) (rJ (pN (ET rfl) rfl G.bQ Eg (qd (qE rfl (xw (ix:=[Db,Fa 1]) (N':=["name","known"])) (qv y0) (qB 0) rP (pR u y0 U1))))))))),?_⟩)
 rintro ds M Q ⟨cs,ks,k,m,rfl,hk,hl,q⟩
 have hz:=dP;have key:((cs.map D.str).length:Int)=cs.length:=by rw[cV]
 have ZI:∀b:Bool,su cs ks m=b->∃WC,qo WC M/\Q (.bl b) WC:=λb e=>⟨M,.refl,e ▸ q⟩;refine qg (λh1=>?_) (λh1=>?_)
 .have h1:decide ((1:Int)<=cs.length)=pc:=by rw[<-key];exact h1
  refine qg (λh2=>?_) (λh2=>?_)
  .have h2:decide ((cs.length:Int)<=m)=pc:=by rw[<-key];exact h2
   refine⟨_,cs,rfl,.inl rfl,hl,qg (λh3=>?_) (λh3=>?_)⟩
   .refine qR (f:=λd=>match d with|.str z=>D.bl (ks.any (·==z))|_=>.mL) trivial _ [] _ ?_ (λd hd k0 hk0=>?_) λp hp=>?_
    .rw[cV];simp only[dO];omega
    .obtain⟨c,_,rfl⟩:=dD.mp hd;refine i' hk ⟨rfl,qe ks,?_⟩;show k0 (.bl (inD (.str c) (ks.map D.str))) M;rw[rG];exact hk0
    .refine i' pz ?_;have e:([]++(cs.map D.str).map λd=>match d with|.str z=>D.bl (ks.any (·==z))|_=>.mL)=cs.map λc=>D.bl (ks.any (·==c)):=by rw[d6,eA];rfl
     rw[e];refine i' (ye (λc=>ks.any (·==c)) cs) ⟨M,.new hp,?_⟩;rw[yW];have:su cs ks m=cs.all λc=>ks.any (·==c):=by unfold su;rw[h1,h2,h3];rfl
     rw[<-this];exact q
   .refine ZI _ ?_;unfold su;have h3:wZ cs=lf:=by simpa using h3
    rw[h3];simp
  .refine ZI _ ?_;unfold su;have h2:decide ((cs.length:Int)<=m)=lf:=by
    rw[<-key]
    simpa using h2
   rw[h2];simp
 .refine ZI _ ?_;unfold su;have h1:decide ((1:Int)<=cs.length)=lf:=by
   rw[<-key]
   simpa using h1
  rw[h1];rfl
abbrev sN:=Str×Int×Int
abbrev ud:=Str×Str×QQQ
abbrev uV:=Bool×Wi
noncomputable def qD(p:sN):D:=.tup [.str p.1,.int p.2.1,.int p.2.2]
noncomputable def qL(g:ud):D:=.tup [.str g.1,.str g.2.1,names g.2.2]
noncomputable def uz(w:uV):D:=.tup [.bl w.1,.tup w.2.told]
structure Ew(p:sN):Prop where
 len:p.1.length<=1000
 nm:ul p.1=pc
 l1:1<=p.2.1
 l2:p.2.1<=3
 r1:0<=p.2.2
 r2:p.2.2<=9
structure Fb(pn:QQQ)(g:ud):Prop where
 len:g.1.length<=1000
 nm:ul g.1=pc
 man:g.2.1="all"\/g.2.1="turns"
 oW:g.2.2.length<4000
 mem:su g.2.2 pn 4=pc
def xV(ss:QQQ)(x:Str):Prop:=ss.any (·==x)=pc
def zR(pn nm:QQQ):Wi->Prop
 | .bar x ns=>xV pn x/\ns.length<4000/\su ns nm 6=pc
 | .shut x ns=>xV nm x/\ns.length<4000/\su ns pn 6=pc
 | .always x y=>xV nm x/\xV nm y/\x≠y
 | .night x y f l=>xV nm x/\xV nm y/\x≠y/\(0<=f/\f<=23)/\(0<=l/\l<=23)/\f≠l
 | .busy x y=>xV nm x/\xV nm y/\x≠y
 | .silent x y n=>xV nm x/\xV nm y/\x≠y/\1<=n/\n<=9
 | .wait x=>xV pn x
 | .breaks x=>xV pn x
inductive xx(pn nm:QQQ):Str->D->Prop
 | mV (x:Str) (h:xV pn x):xx pn nm "phone" (.str x)
 | name (x:Str) (h:xV nm x):xx pn nm "name" (.str x)
 | mF (cs:QQQ) (l:cs.length<4000) (h:su cs pn 6=pc):xx pn nm "phones" (names cs)
 | names (cs:QQQ) (l:cs.length<4000) (h:su cs nm 6=pc):xx pn nm "names" (names cs)
 | hour (i:Int) (h0:0<=i) (h1:i<=23):xx pn nm "hour" (.int i)
 | turns (i:Int) (h0:1<=i) (h1:i<=9):xx pn nm "turns" (.int i)
def IK:qY:=λds M Q=>J0 λk d pl nl (pn nm:QQQ)=>ds=[.str k,d,.ref pl,.ref nl]/\oK M pl=Fa (pn.map D.str)/\oK M nl=Fa (nm.map D.str)/\xx pn nm k d/\Q (.bl pc) M
def AD:qY:=λds M Q=>CW λr (ps:List sN)=>ds=[.ref r]/\oK M r=Fa (ps.map qD)/\1<=ps.length/\ps.length<=8/\(∀p∈ps,Ew p)/\Q .mL M
def AG:qY:=λds M Q=>BA λr (gs:List ud) pl (pn:QQQ)=>ds=[.ref r,.ref pl]/\oK M r=Fa (gs.map qL)/\oK M pl=Fa (pn.map D.str)/\gs.length<=3/\(∀g∈gs,Fb pn g)/\Q .mL M
def C7:qY:=λds M Q=>GY λv pl nl (pn nm:QQQ)=>ds=[.tup (Wi.told v),.ref pl,.ref nl]/\oK M pl=Fa (pn.map D.str)/\oK M nl=Fa (nm.map D.str)/\zR pn nm v/\Q .mL M
def A6:qY:=λds M Q=>J0 λr (ws:List uV) pl nl (pn nm:QQQ)=>ds=[.ref r,.ref pl,.ref nl]/\oK M r=Fa (ws.map uz)/\oK M pl=Fa (pn.map D.str)/\oK M nl=Fa (nm.map D.str)/\ws.length<=16/\(∀w∈ws,zR pn nm w.2)/\Q .mL M
def VZ(h:xV ss x):inD (.str x) (ss.map D.str)=pc:=by rw[rG];exact h
def Of:Fq P w K mg base 3 a.be IK:=by
 refine fq G.be.toDG Dd (λr u=>⟨_,(oY (pJ (pA u y0 pf)
 (oZ (pk (pR u U1 U2)))
 pD)
 (oY (pJ (pA u y0 pf)
 (oZ (pk (pR u U1 U3)))
 pD)
 (oY (pJ (pA u y0 pf)
 (oZ (pk (pE (zP G) r G.P (qV U1 U2 (sC rfl G.b2)))))
 pD)
 (oY (pJ (pA u y0 pf)
 (oZ (pk (pE (zP G) r G.P (qV U1 U3 (sC rfl G.b2)))))
 pD)
 (oY (pJ (pA u y0 pf)
 (oZ (pk (ur u pb U1 (sC rfl G.cS))))
 pD)
 (oZ (pk (ur u pb U1 (sC rfl G.cT))))))))),?_⟩)
 rintro ds M Q ⟨k,d,pl,nl,pn,nm,rfl,hp,hn,ok,q⟩
 cases ok with
 | mV x h=>refine i' hp ⟨rfl,qe pn,M,.refl,?_⟩;show Q (.bl (inD (.str x) (pn.map D.str))) M;rw[VZ h];exact q
 | name x h=>refine i' hn ⟨rfl,qe nm,M,.refl,?_⟩;show Q (.bl (inD (.str x) (nm.map D.str))) M;rw[VZ h];exact q
 | mF cs l h=>exact⟨cs,pn,pl,6,rfl,hp,l,M,.refl,by rw[h];exact q⟩
 | names cs l h=>exact⟨cs,nm,nl,6,rfl,hn,l,M,.refl,by rw[h];exact q⟩
 | hour i h0 h1=>refine AU (c:=decide (0<=i)) (dX h0) ⟨M,.refl,?_⟩;show Q (.bl (decide (i<=23))) M;rw[dX h1];exact q
 | turns i h0 h1=>refine AU (c:=decide (1<=i)) (dX h0) ⟨M,.refl,?_⟩;show Q (.bl (decide (i<=9))) M;rw[dX h1];exact q
def AE:Fq P w K mg base 2 a.bc AD:=by
 refine fq G.bc.toDG ua (λr u=>⟨_,(oY (pK (pE (sO G) r G.m (rW (ur u pb (pN ql rfl G.g qh (qd y0)) (sC rfl G.cJ)) pf)))
 (oZ (sT eK rfl (qv y0) (tO (n:=3) rfl (pV (qI 1 ua) (pV (qI 2 ua) (pV (qI 3 ua) sv))))
 (oY (pK (pE (sO G) r G.m (rW (pE (Cb G) r G.ae (qd U1)) pf)))
 (oY (pK (pE (sO G) r G.m (rW (ur u pb U2 (sC rfl G.cK)) pf)))
 (oZ (pK (pE (sO G) r G.m (rW (ur u pb U3 (sC rfl G.cL)) pf))))))))),?_⟩)
 rintro ds M Q ⟨r,ps,rfl,Xk,h1,h8,mQ,q⟩
 have el:((ps.map qD).length:Int)=ps.length:=by rw[cV]
 refine i' Xk (AU (c:=decide ((1:Int)<=(ps.map qD).length)) (dX (by omega)) ⟨_,by rw[dX (show((ps.map qD).length:Int)<=8 by omega)],i' Xk ?_⟩);refine Be (λU M'=>M=M'/\∃x y z,U=[Fa (.ref r),x,y,z]) (λU M' j=>by rw[<-j.1];exact Xk) _ _ _ ⟨rfl,Db,Db,Db,rfl⟩ ?_ ?_
 .rintro d hd U M' ⟨rfl,x,y,z,rfl⟩ nx WI
  obtain⟨p,hp,rfl⟩:=dD.mp hd;have o:=mQ p hp;refine⟨rfl,⟨p.1,rfl,o.len,_,by rw[o.nm],?_⟩⟩;refine AU (c:=decide ((1:Int)<=p.2.1)) (dX o.l1) ⟨_,by rw[dX (show p.2.1<=3 from o.l2)],?_⟩;refine AU (c:=decide ((0:Int)<=p.2.2)) (dX o.r1) ⟨_,by rw[dX (show p.2.2<=9 from o.r2)],?_⟩;exact WI _ _ ⟨rfl,_,_,_,rfl⟩
 .rintro U M' ⟨rfl,x,y,z,rfl⟩
  exact⟨M,.refl,q⟩
def AF:Fq P w K mg base 3 a.bd AG:=by
 refine fq G.bd.toDG tY (λr u=>⟨_,(oY (pK (pE (sO G) r G.m (rW (pR u (pN ql rfl G.g qh (qd y0)) (sC rfl G.cM)) pf)))
 (oZ (sT eK rfl (qv y0) (tO (n:=3) rfl (pV (qI 2 tY) (pV (qI 3 tY) (pV (qI 4 tY) sv))))
 (oY (pK (pE (sO G) r G.m (rW (pE (Cb G) r G.ae (qd U2)) pf)))
 (oY (pK (pE (sO G) r G.m (rW (pR u U3 (sC rfl G.cN)) pf)))
 (oZ (pK (pE (sO G) r G.m (rW (pE (zP G) r G.P (qV v4 U1 (sC rfl G.cO))) pf))))))))),?_⟩)
 rintro ds M Q ⟨r,gs,pl,pn,rfl,Xk,hp,h3,mQ,q⟩
 have el:((gs.map qL).length:Int)=gs.length:=by rw[cV]
 refine i' Xk ⟨_,by rw[dX (show((gs.map qL).length:Int)<=3 by omega)],i' Xk ?_⟩;refine Be (λU M'=>M=M'/\∃x y z,U=[Fa (.ref r),Fa (.ref pl),x,y,z]) (λU M' j=>by rw[<-j.1];exact Xk) _ _ _ ⟨rfl,Db,Db,Db,rfl⟩ ?_ ?_
 .rintro d hd U M' ⟨rfl,x,y,z,rfl⟩ nx WI
  obtain⟨g,hg,rfl⟩:=dD.mp hd;have o:=mQ g hg;refine⟨rfl,⟨g.1,rfl,o.len,_,by rw[o.nm],?_⟩⟩;have hm:inD (.str g.2.1) [.str "all",.str "turns"]=pc:=by rcases o.man with e|e<;>(rw[e];rfl)
  refine⟨rfl,rfl,.str "a group's manner is all or turns",eR (λb=>[D.bl b,D.str "a group's manner is all or turns"]) hm,?_⟩;refine⟨g.2.2,pn,pl,4,rfl,hp,o.oW,_,by rw[o.mem],?_⟩;exact WI _ _ ⟨rfl,_,_,_,rfl⟩
 .rintro U M' ⟨rfl,x,y,z,rfl⟩
  exact⟨M,.refl,q⟩
def C8:Fq P w K mg base 4 a.bf C7:=by
 refine fq G.bf.toDG tU (λr u=>⟨_,(oY (pK (pE (sO G) r G.m (rW (Mb G.b1 rfl (pF y0 pb)) pf)))
 (oY (pG 3 tU (Kk G.b1 rfl (pF y0 pb)))
 (oY (pG 4 tU (rS y0 (sG pb) sI))
 (oY (pK (pE (sO G) r G.m (rW (pR u (pN ql rfl G.g qh (qd v4)) (pN ql rfl G.g qh (qd U3))) pf)))
 (oY (sT eK rfl (QI rfl G.b0 (rW U3 v4)) (tO (n:=2) rfl (pV (qI 5 tU) (pV (qI 6 tU) sv)))
 (oZ (pK (pE (sO G) r G.m (rW (pE (Of G) r G.be (pP v5 (qV v6 U1 U2))) pf)))))
 (oY (pJ (pA u (rS U3 sI (sG pb)) (pI (rW pf pf)))
 (oZ (pK (pE (sO G) r G.m (rW (pR u (pF v4 pb) (pF v4 pb)) pf))))
 pD)
 (oZ (pJ (pA u (rS U3 (sG pb) sI) (pI (rW pf pf)))
 (oZ (pK (pE (sO G) r G.m (rW (pR u (pF v4 pb) (pF v4 pb)) pf))))
 pD)))))))),?_⟩)
 rintro ds M Q ⟨v,pl,nl,pn,nm,rfl,hp,hn,ok,q⟩
 have part:∀{k:Str} {d:D} {C:DK},xx pn nm k d->C (.bl pc) M->IK [.str k,d,.ref pl,.ref nl] M C:=λo c=>⟨_,_,pl,nl,pn,nm,rfl,hp,hn,o,c⟩;have need:∀{x:D} {C:DK},C .mL M->IH [.bl pc,x] M C:=λc=>⟨_,rfl,c⟩;have ne:∀{x y:Str},x≠y->(!(x==y))=pc:=λh=>by simpa using h
 have nei:∀{x y:Int},x≠y->(!(x==y))=pc:=λh=>by simpa using h
 have WB:∃WC,qo WC M/\Q .mL WC:=⟨M,.refl,q⟩;cases v with
 | bar x ns=>obtain⟨h1,h2,h3⟩:=ok;refine⟨_,rfl,_,rfl,?_⟩;refine⟨rfl,_,_,pl,nl,pn,nm,rfl,hp,hn,.mV x h1,_,rfl,trivial,⟨rfl,_,_,pl,nl,pn,nm,rfl,hp,hn,.names ns h2 h3,_,rfl,trivial,?_⟩⟩;exact⟨oW rfl,oW rfl,WB⟩
 | shut x ns=>obtain⟨h1,h2,h3⟩:=ok;refine⟨_,rfl,_,rfl,?_⟩;refine⟨rfl,_,_,pl,nl,pn,nm,rfl,hp,hn,.name x h1,_,rfl,trivial,⟨rfl,_,_,pl,nl,pn,nm,rfl,hp,hn,.mF ns h2 h3,_,rfl,trivial,?_⟩⟩;exact⟨oW rfl,oW rfl,WB⟩
 | always x y=>obtain⟨h1,h2,h3⟩:=ok;refine⟨_,rfl,_,rfl,?_⟩;refine⟨rfl,_,_,pl,nl,pn,nm,rfl,hp,hn,.name x h1,_,rfl,trivial,⟨rfl,_,_,pl,nl,pn,nm,rfl,hp,hn,.name y h2,_,rfl,trivial,?_⟩⟩;refine⟨oW rfl,⟨_,by rw[ne h3],?_⟩⟩;exact⟨oW rfl,WB⟩
 | night x y f l=>obtain⟨h1,h2,h3,h4,h5,h6⟩:=ok;refine⟨_,rfl,_,rfl,?_⟩;refine⟨rfl,_,_,pl,nl,pn,nm,rfl,hp,hn,.name x h1,_,rfl,trivial,⟨rfl,_,_,pl,nl,pn,nm,rfl,hp,hn,.name y h2,_,rfl,trivial,⟨rfl,_,_,pl,nl,pn,nm,rfl,hp,hn,.hour f h4.1 h4.2,_,rfl,trivial,⟨rfl,_,_,pl,nl,pn,nm,rfl,hp,hn,.hour l h5.1 h5.2,_,rfl,trivial,?_⟩⟩⟩⟩;refine⟨oW rfl,⟨_,by rw[ne h3],?_⟩⟩;refine⟨oW rfl,⟨_,by rw[nei h6],?_⟩⟩;exact WB
 | busy x y=>obtain⟨h1,h2,h3⟩:=ok;refine⟨_,rfl,_,rfl,?_⟩;refine⟨rfl,_,_,pl,nl,pn,nm,rfl,hp,hn,.name x h1,_,rfl,trivial,⟨rfl,_,_,pl,nl,pn,nm,rfl,hp,hn,.name y h2,_,rfl,trivial,?_⟩⟩;refine⟨oW rfl,⟨_,by rw[ne h3],?_⟩⟩;exact⟨oW rfl,WB⟩
 | silent x y n=>obtain⟨h1,h2,h3,h4,h5⟩:=ok;refine⟨_,rfl,_,rfl,?_⟩;refine⟨rfl,_,_,pl,nl,pn,nm,rfl,hp,hn,.name x h1,_,rfl,trivial,⟨rfl,_,_,pl,nl,pn,nm,rfl,hp,hn,.name y h2,_,rfl,trivial,⟨rfl,_,_,pl,nl,pn,nm,rfl,hp,hn,.turns n h4 h5,_,rfl,trivial,?_⟩⟩⟩;refine⟨oW rfl,⟨_,by rw[ne h3],?_⟩⟩;exact⟨oW rfl,WB⟩
 | wait x=>refine⟨_,rfl,_,rfl,?_⟩;refine⟨rfl,_,_,pl,nl,pn,nm,rfl,hp,hn,.mV x ok,_,rfl,trivial,?_⟩;exact⟨oW rfl,oW rfl,WB⟩
 | breaks x=>refine⟨_,rfl,_,rfl,?_⟩;refine⟨rfl,_,_,pl,nl,pn,nm,rfl,hp,hn,.mV x ok,_,rfl,trivial,?_⟩;exact⟨oW rfl,oW rfl,WB⟩
def AH:Fq P w K mg base 5 a.bg A6:=by
 refine fq G.bg.toDG uS (λr u=>⟨_,(oY (pK (pE (sO G) r G.m (rW (pR u (pN ql rfl G.g qh (qd y0)) (sC rfl G.cP)) pf)))
 (oZ (sT eK rfl (qv y0) (tO (n:=2) rfl (pV (qI 3 uS) (pV (qI 4 uS) sv)))
 (oZ (pK (pE (C8 G) r G.bf (qV v4 U1 U2))))))),?_⟩)
 rintro ds M Q ⟨r,ws,pl,nl,pn,nm,rfl,Xk,hp,hn,h16,mQ,q⟩
 have el:((ws.map uz).length:Int)=ws.length:=by rw[cV]
 refine i' Xk ⟨_,by rw[dX (show((ws.map uz).length:Int)<=16 by omega)],i' Xk ?_⟩;refine Be (λU M'=>M=M'/\∃x y,U=[Fa (.ref r),Fa (.ref pl),Fa (.ref nl),x,y]) (λU M' j=>by rw[<-j.1];exact Xk) _ _ _ ⟨rfl,Db,Db,rfl⟩ ?_ ?_
 .rintro d hd U M' ⟨rfl,x,y,rfl⟩ nx WI
  obtain⟨v,hv,rfl⟩:=dD.mp hd;exact⟨rfl,⟨v.2,pl,nl,pn,nm,rfl,hp,hn,mQ v hv,WI _ _ ⟨rfl,_,_,rfl⟩⟩⟩
 .rintro U M' ⟨rfl,x,y,rfl⟩
  exact⟨M,.refl,q⟩
structure pC where
 mF:List sN
 groups:List ud
 mG:List uV
noncomputable def pC.pn(l:pC):QQQ:=l.mF.map (·.1)
noncomputable def pC.gn(l:pC):QQQ:=l.groups.map (·.1)
noncomputable def pC.nm(l:pC):QQQ:=l.pn++l.gn
structure rf(l:pC):Prop where
 p1:1<=l.mF.length
 p8:l.mF.length<=8
 po:∀p∈l.mF,Ew p
 g3:l.groups.length<=3
 go:∀g∈l.groups,Fb l.pn g
 nd:l.nm.Nodup
 w16:l.mG.length<=16
 wo:∀w∈l.mG,zR l.pn l.nm w.2
def DS{ss:QQQ}(h:ss.Nodup):wZ ss=pc:=by unfold wZ;rw[HL ss h];simp
def C1:qY:=λds M Q=>BA λr1 r2 r3 (l:pC)=>ds=[.ref r1,.ref r2,.ref r3]/\oK M r1=Fa (l.mF.map qD)/\oK M r2=Fa (l.groups.map qL)/\oK M r3=Fa (l.mG.map uz)/\rf l/\Q .mL M
noncomputable def AQ:D->D
 | .tup (x::_)=>x
 | _=>.mL
def wV(ps:List sN):(ps.map qD).map AQ=(ps.map (·.1)).map D.str:=by rw[eA,eA];rfl
def wM(ps:List ud):(ps.map qL).map AQ=(ps.map (·.1)).map D.str:=by rw[eA,eA];rfl
def Di:Fq P w K mg base 6 a.bh C1:=by
 refine fq G.bh.toDG vX (λr u=>⟨_,(oY (pK (pE (AE G) r G.bc (qd y0)))
 (oY (uE (i:=3) vX.nd rfl (Or.inl rfl) rfl (xw (ix:=[Db]) (N':=["phone"])) (qv y0) (qB 0) rP (pF y0 pb))
 (oY (pK (pE (AF G) r G.bd (rW U1 U3)))
 (oY (pG 4 vX (pQ U3 (qE rfl (xw (ix:=[Db]) (N':=["group"])) (qv U1) (qB 0) rP (pF y0 pb))))
 (oY (pK (pE (sO G) r G.m (rW (pE (DJ G) r G.af (qd v4)) pf)))
 (oZ (pK (pE (AH G) r G.bg (qV U2 U3 v4))))))))),?_⟩)
 rintro ds M Q ⟨r1,r2,r3,l,rfl,h1,h2,h3,ok,q⟩
 have hz:=dP;have l1:=ok.p8;have l2:=ok.g3;refine⟨r1,l.mF,rfl,h1,ok.p1,ok.p8,ok.po,i' h1 ?_⟩;refine qR (f:=AQ) h1 _ [] _ (by rw[cV];simp only[dO];omega) (λd hd k hk=>?_) λp hp=>?_
 .obtain⟨x,_,rfl⟩:=dD.mp hd;exact hk
 rw[d6,wV];have s1:=qo.new (c:=.lst ((l.mF.map (·.1)).map D.str)) hp;have lp:oK (pB M p (.lst ((l.mF.map (·.1)).map D.str))) p=Fa (l.pn.map D.str):=pz;generalize pB M p (.lst ((l.mF.map (·.1)).map D.str))=M1 at s1 lp ⊢;refine⟨r2,l.groups,p,l.pn,rfl,s1.lst h2,lp,ok.g3,ok.go,?_⟩;refine i' (s1.lst h2) (qR (f:=AQ) (s1.lst h2) _ [] _ (by rw[cV];simp only[dO];omega) (λd hd k hk=>?_) λp2 WG=>?_)
 .obtain⟨x,_,rfl⟩:=dD.mp hd;exact hk
 rw[d6,wM];have s2:=qo.new (c:=.lst ((l.groups.map (·.1)).map D.str)) WG;refine i' (s2.lst lp) (i' pz ⟨?_,λp3 ZJ=>?_⟩)
 .rw[cV,cV,cV];show(l.mF.map (·.1)).length+_<=_;rw[cV];omega
 have en:l.pn.map D.str++(l.groups.map (·.1)).map D.str=l.nm.map D.str:=by unfold pC.nm;rw[dU];rfl
 rw[en];have s3:=s2.trans (qo.new (c:=.lst (l.nm.map D.str)) ZJ);have l3:=@pz (pB M1 p2 (.lst ((l.groups.map (·.1)).map D.str))) p3 (l.nm.map D.str);generalize pB (pB M1 p2 (.lst ((l.groups.map (·.1)).map D.str))) p3 (.lst (l.nm.map D.str))=M3 at s3 l3 ⊢;have ln:l.nm.length<4000:=by unfold pC.nm pC.pn pC.gn;rw[cY,cV,cV];omega
 refine⟨_,l.nm,rfl,.inr ⟨p3,rfl,l3⟩,ln,_,by rw[DS ok.nd],?_⟩;exact⟨r3,l.mG,p,p3,l.pn,l.nm,rfl,s3.lst (s1.lst h3),s3.lst lp,l3,ok.w16,ok.wo,M,s1.trans s3,q⟩
noncomputable def Qn(ph gr ws on pr gd:Uf):T0 (Str×D):=[("phones",.ref ph),("groups",.ref gr),("wishes",.ref ws),("on",.ref on),("phone_rows",.ref pr),("group_rows",.ref gd)]
noncomputable def Rn(l:pC):T0 (qZ×D):=l.mF.map λp=>(Sum.inr p.1,qD p)
noncomputable def HJ(l:pC):T0 (qZ×D):=l.groups.map λg=>(Sum.inr g.1,qL g)
def sE(a:Ad)(M:Mp)(rs:QXQ)(ws:List uV):Prop:=rs.length=ws.length/\∀(i:Nat) (r:Uf) (v:uV),rs[i]?=Fa r->ws[i]?=Fa v->M r=Fa (.ins (v.2.cls a) v.2.nH)
def sY(a:Ad)(M:Mp)(p:Uf)(l:pC):Prop:=SO λph gr ws on pr gd (rs:QXQ)=>M p=Fa (.ins a.h (Qn ph gr ws on pr gd))/\oK M ph=Fa (l.mF.map qD)/\oK M gr=Fa (l.groups.map qL)/\
 oK M ws=Fa (rs.map D.ref)/\oK M on=Fa (l.mG.map λw=>D.bl w.1)/\yA M pr=Fa (Rn l)/\yA M gd=Fa (HJ l)/\sE a M rs l.mG
def sE.keep{p:Uf}(h:sE a M rs ws)(k:sm p M M')(n:∀r∈rs,r≠p):sE a M' rs ws:=⟨h.1,λi r v e1 e2=>k r _ (n r (fY e1)) (h.2 i r v e1 e2)⟩
def sE.sub(h:sE a M rs ws)(k:qo M M'):sE a M' rs ws:=⟨h.1,λi r v e1 e2=>k r _ (h.2 i r v e1 e2)⟩
def sY.sub{p:Uf}(h:sY a M p l)(s:qo M M'):sY a M' p l:=by obtain⟨ph,gr,ws,on,pr,gd,rs,h1,h2,h3,h4,h5,h6,h7,h8⟩:=h;exact⟨ph,gr,ws,on,pr,gd,rs,s _ _ h1,s.lst h2,s.lst h3,s.lst h4,s.lst h5,s.dk h6,s.dk h7,h8.sub s⟩
def OE(a:Ad):qY:=λds M Q=>GY λp r1 r2 r3 (l:pC)=>ds=[.ref p,.ref r1,.ref r2,.ref r3]/\M p=Fa (.ins a.h [])/\oK M r1=Fa (l.mF.map qD)/\oK M r2=Fa (l.groups.map qL)/\oK M r3=Fa (l.mG.map uz)/\rf l/\
 ∀M',sm p M M'->sY a M' p l->(∀WC,(∀b c,(b=p\/M b=Db)->M' b=Fa c->WC b=Fa c)->sY a WC p l)->Q .mL M'
def rB{p x:Uf}{c:uR}(k:sm p M N)(hp:N p=Fa c)(h:N x=Db):M x=Db:=by
 cases e:M x with
 | none=>rfl
 | some d=>
  have n:x≠p:=λz=>by rw[z,hp]at h;cases h
  rw[k x d n e]at h;cases h
def yU{a:Uf}{es:T0 (qZ×D)}(h:yA M a=Fa es):M a=Fa (.dk es):=by
 unfold yA at h;split at h
 .rename_i e;rw[e];cases h;rfl
 .cases h
theorem wO{α:Type}(f:α->Str)(g:α->D):∀l:List α,wU (l.map λx=>D.tup [.str (f x),g x])=Fa (l.map λx=>(Sum.inr (f x),g x))
 | []=>rfl
 | x::r=>by show(wU (r.map λx=>D.tup [.str (f x),g x])).map ((Sum.inr (f x),g x)::·)=_;rw[wO f g r];rfl
def Ju{ss:QQQ}(h:ss.Nodup):(ss.map λx=>(Sum.inr x:qZ)).Nodup:=by
 induction ss with
 | nil=>exact eL
 | cons x r ih=>obtain⟨h1,h2⟩:=dW.mp h;rw[dZ];refine dW.mpr ⟨λz=>h1 ?_,ih h2⟩;obtain⟨y,hy,e⟩:=dD.mp z;cases e;exact hy
def yD{α:Type}{f:α->Str}{g:α->D}{l:List α}(h:(l.map f).Nodup):((l.map λx=>((Sum.inr (f x):qZ),g x)).map (·.1)).Nodup:=by rw[eA];have:=Ju h;rw[eA]at this;exact this
noncomputable def Bk(d:D):D:=.tup [AQ d,d]
noncomputable def V9:D->D
 | .tup (x::_)=>x
 | _=>.mL
def QT(ws:List uV):(ws.map uz).map V9=ws.map λw=>D.bl w.1:=by rw[eA];rfl
def F1(ps:List sN):(ps.map qD).map Bk=ps.map λp=>D.tup [.str p.1,qD p]:=by rw[eA];rfl
def FS(ps:List ud):(ps.map qL).map Bk=ps.map λp=>D.tup [.str p.1,qL p]:=by rw[eA];rfl
def sE.snoc{r:Uf}{v:uV}(h:sE a M rs ws)(n:M r=Db):sE a (pB M r (.ins (v.2.cls a) v.2.nH)) (rs++[r]) (ws++[v]):=by
 refine⟨by rw[cY,cY,h.1];rfl,λi r' v' e1 e2=>?_⟩;by_cases hi:i<rs.length
 .rw[fg hi]at e1;rw[fg (by rw[<-h.1];exact hi)]at e2;have:=h.2 i r' v' e1 e2;rw[tZ (Nx this n)];exact this
 .have X3:i=rs.length:=by have:=(cZ.mp e1).1;rw[cY,dJ]at this;omega
  subst X3;rw[eY (dw _)]at e1;rw[h.1,eY (dw _)]at e2;simp only[h9,iE,jo]at e1 e2;subst e1 e2;exact pL
def Oy:Fq P w K mg base 7 a.aj (OE a):=by
 refine fq G.aj.toDG Fx (λr u=>⟨_,(oY (pK (pE (Di G) r G.bh (qV U1 U2 U3)))
 (oY (pX y0 (qr tI rfl G.y tD (qd U1)))
 (oY (pX y0 (qr tI rfl G.y tD (qd U2)))
 (oY (pX y0 (qE rfl (xw (ix:=[Db,Db]) (N':=["on","wish"])) (qv U3) (tO (n:=2) rfl (pV (qB 0) (pV (qB 1) sv))) rP (pE (BV G) r G.aa (qd U1))))
 (oY (pX y0 (qE rfl (xw (ix:=[Db,Db]) (N':=["on","wish"])) (qv U3) (tO (n:=2) rfl (pV (qB 0) (pV (qB 1) sv))) rP y0))
 (oY (pX y0 (qr (D5 rfl) rfl G.bV EM (qd (qE rfl (xw (ix:=[Db]) (N':=["phone"])) (qv U1) (qB 0) rP (pI (rW (pF y0 pb) y0))))))
 (oZ (pX y0 (qr (D5 rfl) rfl G.bV EM (qd (qE rfl (xw (ix:=[Db]) (N':=["group"])) (qv U2) (qB 0) rP (pI (rW (pF y0 pb) y0))))))))))))),?_⟩)
 rintro ds M Q ⟨p,r1,r2,r3,l,rfl,hp,h1,h2,h3,ok,q⟩
 have hz:=dP;have l1:=ok.p8;have l2:=ok.g3;have l3:=ok.w16;refine⟨r1,r2,r3,l,rfl,h1,h2,h3,ok,?_⟩;refine i' h1 λph hph=>?_;obtain⟨n1,e1,k1,c1,p1⟩:=sU (fs':=[("phones",.ref ph)]) (c:=.lst (l.mF.map qD)) hp hph;refine o9 e1 ⟨(G.Z "phones" rfl),by show 0<1000;decide,?_⟩;show uy _ _ _ _ (pB (pB M ph (.lst (l.mF.map qD))) p (.ins a.h [("phones",.ref ph)]));generalize pB (pB M ph (.lst (l.mF.map qD))) p (.ins a.h [("phones",.ref ph)])=N1 at k1 c1 p1 ⊢;have Xj:=k1.lst (pO h1 hp) h1;have h2':=k1.lst (pO h2 hp) h2;have Zc:=k1.lst (pO h3 hp) h3;have f1:oK N1 ph=Fa (l.mF.map qD):=sJ c1;refine i' h2' λgr hgr=>?_;obtain⟨n2,e2,k2,c2,p2⟩:=sU (fs':=[("phones",.ref ph),("groups",.ref gr)]) (c:=.lst (l.groups.map qL)) p1 hgr;refine o9 e2 ⟨(G.Z "groups" rfl),by show 1<1000;decide,?_⟩;show uy _ _ _ _ (pB (pB N1 gr (.lst (l.groups.map qL))) p (.ins a.h [("phones",.ref ph),("groups",.ref gr)]));generalize pB (pB N1 gr (.lst (l.groups.map qL))) p (.ins a.h [("phones",.ref ph),("groups",.ref gr)])=N2 at k2 c2 p2 ⊢;have g1:=k2.lst (pO Xj p1) Xj;have g2:=k2.lst (pO h2' p1) h2';have g3:=k2.lst (pO Zc p1) Zc;have f2:=k2.lst (pO f1 p1) f1;have f3:oK N2 gr=Fa (l.groups.map qL):=sJ c2;have kk2:=k1.trans k2;have m2:M gr=Db:=rB k1 p1 hgr;clear Xj h2' Zc f1 c1 c2 k1 k2 e1 e2;refine i' g3 ?_;refine FD (l.mG.map uz) (λpre acc U Mx=>(∃x y,U=[x,y])/\qo N2 Mx/\∃rs:QXQ,acc=rs.map D.ref/\(∀r∈rs,N2 r=Db)/\sE a Mx rs (l.mG.take pre.length)) (λpre acc U Mx j=>j.2.1.lst g3) _ [] [] _ _ rfl (by rw[cV];simp only[dO];omega) ⟨⟨Db,Db,rfl⟩,.refl,[],rfl,λr hr=>absurd hr (dq),rfl,λi r v e=>by simp at e⟩ ?_ ?_
 .rintro pre d post e acc U Mx ⟨⟨x,y,rfl⟩,sx,rs,rfl,fr,wa⟩ k hk
  obtain⟨v,hv,rfl⟩:∃v,l.mG[pre.length]?=Fa v/\d=uz v:=by
   have:(l.mG.map uz)[pre.length]?=Fa d:=by rw[<-e];simp
   rw[dF]at this;cases z:l.mG[pre.length]? with
   | none=>rw[z]at this;cases this
   | some v=>rw[z]at this;exact⟨v,rfl,(dv this).symm⟩
  refine⟨rfl,⟨v.2,rfl,λr hr=>hk _ _ _ ⟨⟨_,_,rfl⟩,sx.trans (.new hr),rs++[r],?_,λr' hr'=>?_,?_⟩⟩⟩
  .rw[dU];rfl
  .rcases dR.mp hr' with z|z
   .exact fr r' z
   .rw[dg.mp z];exact sx.none hr
  .rw[cY,dJ,gv,hv];exact wa.snoc hr
 rintro acc U Mx ⟨⟨x,y,rfl⟩,sx,rs,rfl,fr,wa⟩ ws hws
 have wa:sE a Mx rs l.mG:=by rw[cV,eS]at wa;exact wa
 obtain⟨n3,e3,k3,c3,p3⟩:=sU (fs':=[("phones",.ref ph),("groups",.ref gr),("wishes",.ref ws)]) (c:=.lst (rs.map D.ref)) (sx _ _ p2) hws;refine o9 e3 ⟨(G.Z "wishes" rfl),by show 2<1000;decide,?_⟩;show uy _ _ _ _ (pB (pB Mx ws (.lst (rs.map D.ref))) p (.ins a.h [("phones",.ref ph),("groups",.ref gr),("wishes",.ref ws)]));generalize pB (pB Mx ws (.lst (rs.map D.ref))) p (.ins a.h [("phones",.ref ph),("groups",.ref gr),("wishes",.ref ws)])=N3 at k3 c3 p3 ⊢;have px:=sx _ _ p2;have i1:=k3.lst (pO (sx.lst g1) px) (sx.lst g1);have i2:=k3.lst (pO (sx.lst g2) px) (sx.lst g2);have i3:=k3.lst (pO (sx.lst g3) px) (sx.lst g3);have f4:=k3.lst (pO (sx.lst f2) px) (sx.lst f2);have f5:=k3.lst (pO (sx.lst f3) px) (sx.lst f3);have f6:oK N3 ws=Fa (rs.map D.ref):=sJ c3;have rp:∀r∈rs,r≠p:=λr hr z=>by have:=fr r hr;rw[z,p2]at this;cases this
 have w3:=wa.keep k3 rp;have kk3:=(kk2.trans sx.keep).trans k3;have m3:M ws=Db:=rB (kk2.trans sx.keep) px hws;have mr:∀r∈rs,M r=Db:=λr hr=>rB kk2 p2 (fr r hr);clear g1 g2 g3 f2 f3 c3 k3 e3 wa px kk2;refine i' i3 (BB (f:=V9) (λU=>∃x y,U=[x,y]) i3 _ [] _ ⟨Db,Db,rfl⟩ (by rw[cV];simp only[dO];omega) (λd hd U hj k hk=>?_) λon ZK=>?_)
 .obtain⟨x,y,rfl⟩:=hj;obtain⟨v,_,rfl⟩:=dD.mp hd;exact⟨rfl,hk _ ⟨_,_,rfl⟩⟩
 rw[d6,QT];obtain⟨n4,e4,k4,c4,p4⟩:=sU (fs':=[("phones",.ref ph),("groups",.ref gr),("wishes",.ref ws),("on",.ref on)]) (c:=.lst (l.mG.map λw=>D.bl w.1)) p3 ZK;refine o9 e4 ⟨(G.Z "on" rfl),by show 3<1000;decide,?_⟩;show uy _ _ _ _ (pB (pB N3 on (.lst (l.mG.map λw=>D.bl w.1))) p (.ins a.h [("phones",.ref ph),("groups",.ref gr),("wishes",.ref ws),("on",.ref on)]));generalize pB (pB N3 on (.lst (l.mG.map λw=>D.bl w.1))) p (.ins a.h [("phones",.ref ph),("groups",.ref gr),("wishes",.ref ws),("on",.ref on)])=N4 at k4 c4 p4 ⊢;have j1:=k4.lst (pO i1 p3) i1;have j2:=k4.lst (pO i2 p3) i2;have f7:=k4.lst (pO f4 p3) f4;have f8:=k4.lst (pO f5 p3) f5;have f9:=k4.lst (pO f6 p3) f6;have fa:oK N4 on=Fa (l.mG.map λw=>D.bl w.1):=sJ c4;have w4:=w3.keep k4 rp;have YE:=kk3.trans k4;have m4:M on=Db:=rB kk3 p3 ZK;clear i1 i2 i3 f4 f5 f6 c4 k4 e4 w3 kk3;refine i' j1 (qR (f:=Bk) j1 _ [] _ (by rw[cV];simp only[dO];omega) (λd hd k hk=>?_) λq1 XB=>?_)
 .obtain⟨v,_,rfl⟩:=dD.mp hd;exact⟨oW rfl,hk⟩
 rw[d6,F1];have Zd:=qo.new (c:=.lst (l.mF.map λp=>D.tup [.str p.1,qD p])) XB;refine i' pz (i' (wO (λp:sN=>p.1) qD l.mF) ⟨yD (iA (List.sublist_append_left _ _) ok.nd),λpr hpr=>?_⟩);obtain⟨n5,e5,k5,c5,p5⟩:=sU (fs':=[("phones",.ref ph),("groups",.ref gr),("wishes",.ref ws),("on",.ref on),("phone_rows",.ref pr)]) (c:=.dk (l.mF.map λx=>(Sum.inr x.1,qD x))) (Zd _ _ p4) hpr;refine o9 e5 ⟨(G.Z "phone_rows" rfl),by show 4<1000;decide,?_⟩;have k5:=Zd.keep.trans k5;have Yx:vV "phone_rows" (.ref pr) [("phones",.ref ph),("groups",.ref gr),("wishes",.ref ws),("on",.ref on)]=([("phones",.ref ph),("groups",.ref gr),("wishes",.ref ws),("on",.ref on),("phone_rows",.ref pr)]:T0 (Str×D)):=rfl;rw[Yx];generalize pB (pB (pB N4 q1 (.lst (l.mF.map λp=>D.tup [.str p.1,qD p]))) pr (.dk (l.mF.map λx=>(Sum.inr x.1,qD x)))) p (.ins a.h [("phones",.ref ph),("groups",.ref gr),("wishes",.ref ws),("on",.ref on),("phone_rows",.ref pr)])=N5 at k5 c5 p5 ⊢;have mm:=k5.lst (pO j2 p4) j2;have fb:=k5.lst (pO f7 p4) f7;have fc:=k5.lst (pO f8 p4) f8;have fd:=k5.lst (pO f9 p4) f9;have fe:=k5.lst (pO fa p4) fa;have ff:yA N5 pr=Fa (Rn l):=Ao c5;have w5:=w4.keep k5 rp;have YF:=YE.trans k5;have m5:M pr=Db:=rB (YE.trans Zd.keep) (Zd _ _ p4) hpr;clear j1 j2 f7 f8 f9 fa c5 k5 e5 w4 YE;refine i' mm (qR (f:=Bk) mm _ [] _ (by rw[cV];simp only[dO];omega) (λd hd k hk=>?_) λq2 YU=>?_)
 .obtain⟨v,_,rfl⟩:=dD.mp hd;exact⟨oW rfl,hk⟩
 rw[d6,FS];have sq2:=qo.new (c:=.lst (l.groups.map λg=>D.tup [.str g.1,qL g])) YU;refine i' pz (i' (wO (λp:ud=>p.1) qL l.groups) ⟨yD (iA (jv _ _) ok.nd),λgd hgd=>?_⟩);obtain⟨n6,e6,k6,c6,p6⟩:=sU (fs':=Qn ph gr ws on pr gd) (c:=.dk (HJ l)) (sq2 _ _ p5) hgd;have k6:=sq2.keep.trans k6;refine o9 e6 ⟨(G.Z "group_rows" rfl),by show 5<1000;decide,_,.refl,?_⟩;have m6:M gd=Db:=rB (YF.trans sq2.keep) (sq2 _ _ p5) hgd;have w6:=w5.keep k6 rp;have y1:=k6.lst (pO fb p5) fb;have y2:=k6.lst (pO fc p5) fc;have y3:=k6.lst (pO fd p5) fd;have y4:=k6.lst (pO fe p5) fe;have y5:=k6.dk (B7 ff p5) ff;refine q _ (YF.trans k6) ⟨ph,gr,ws,on,pr,gd,rs,p6,y1,y2,y3,y4,y5,Ao c6,w6⟩ λWC hs=>?_;exact⟨ph,gr,ws,on,pr,gd,rs,hs _ _ (.inl rfl) p6,sJ (hs _ _ (.inr hph) (qm y1)),sJ (hs _ _ (.inr m2) (qm y2)),sJ (hs _ _ (.inr m3) (qm y3)),sJ (hs _ _ (.inr m4) (qm y4)),Ao (hs _ _ (.inr m5) (yU y5)),Ao (hs _ _ (.inr m6) c6),w6.1,λi r v e1 e2=>hs _ _ (.inr (mr r (fY e1))) (w6.2 i r v e1 e2)⟩
theorem wB{α:Type}(f:α->Str)(g:α->D)(k:Str):∀l:List α,uL (l.map λx=>((Sum.inr (f x):qZ),g x)) (Sum.inr k)=(l.find? λx=>decide (f x=k)).map g
 | []=>rfl
 | x::r=>by
  have ih:=wB f g k r;unfold uL at ih ⊢;rw[dZ,fA,fA];by_cases h:f x=k
  .have h':decide ((Sum.inr (f x):qZ)=Sum.inr k)=pc:=dX (by rw[h]);simp[h]
  .have h':¬(Sum.inr (f x):qZ)=Sum.inr k:=λz=>h (jV z);simp only[h,h',decide_false];exact ih
noncomputable def pC.mV(l:pC)(x:Str):Option sN:=l.mF.find? λp=>decide (p.1=x)
noncomputable def pC.group(l:pC)(x:Str):Option ud:=l.groups.find? λg=>decide (g.1=x)
noncomputable def pC.mE(l:pC)(x:Str):QQQ:=(l.group x).elim [x] λg=>g.2.2
noncomputable def pC.mP(l:pC)(x:Str):Str:=(l.group x).elim "one" λg=>g.2.1
def FT(l:pC)(x:Str):uL (Rn l) (Sum.inr x)=(l.mV x).map qD:=wB (λp:sN=>p.1) qD x l.mF
def wF(l:pC)(x:Str):uL (HJ l) (Sum.inr x)=(l.group x).map qL:=wB (λp:ud=>p.1) qL x l.groups
def yO(a:Ad):qY:=λds M Q=>CW λp (l:pC)=>ds=[.ref p]/\sY a M p l/\l.mF.length<=100/\∀q,M q=Db->Q (.ref q) (pB M q (.lst (l.pn.map D.str)))
def EO(a:Ad):qY:=λds M Q=>CW λp (l:pC)=>ds=[.ref p]/\sY a M p l/\l.mF.length<=100/\l.groups.length<=100/\∀q,M q=Db->Q (.ref q) (pB M q (.lst (l.nm.map D.str)))
def Fo(a:Ad):qY:=λds M Q=>BA λp x v (l:pC)=>ds=[.ref p,.str x]/\sY a M p l/\l.mV x=Fa v/\Q (.int v.2.1) M
def FU(a:Ad):qY:=λds M Q=>BA λp x v (l:pC)=>ds=[.ref p,.str x]/\sY a M p l/\l.mV x=Fa v/\Q (.int v.2.2) M
def zT(a:Ad):qY:=λds M Q=>De λp x (l:pC)=>ds=[.ref p,.str x]/\sY a M p l/\∀q,M q=Db->Q (.ref q) (pB M q (.lst ((l.mE x).map D.str)))
def Dk(a:Ad):qY:=λds M Q=>De λp x (l:pC)=>ds=[.ref p,.str x]/\sY a M p l/\Q (.str (l.mP x)) M
def tR:Fq P w K mg base 1 a.S (yO a):=by
 refine fq G.S.toDG yi (λr u=>⟨_,(oZ (pk (qE rfl (xw (ix:=[Db]) (N':=["phone"])) (qv (pq y0)) (qB 0) rP (pF y0 pb)))),?_⟩)
 rintro ds M Q ⟨p,l,rfl,hp,hl,q⟩
 have hz:=dP;obtain⟨ph,gr,ws,on,pr,gd,rs,h1,h2,h3,h4,h5,h6,h7,h8⟩:=hp;refine o9 h1 (i' rfl (i' h2 ?_));refine qR (f:=AQ) h2 _ [] _ (by rw[cV];simp only[dO];omega) (λd hd k hk=>?_) λq1 XB=>?_
 .obtain⟨x,_,rfl⟩:=dD.mp hd;exact hk
 rw[d6,wV];exact⟨_,.refl,q q1 XB⟩
def C6:Fq P w K mg base 2 a.bD (EO a):=by
 refine fq G.bD.toDG CT (λr u=>⟨_,(oZ (pk (pQ (yg y0 G.h.toCls G.S (tR G) r) (qE rfl (xw (ix:=[Db]) (N':=["group"])) (qv (pq y0)) (qB 0) rP (pF y0 pb))))),?_⟩)
 rintro ds M Q ⟨p,l,rfl,hp,hl,hl2,q⟩
 have hz:=dP;have WN:=hp;obtain⟨ph,gr,ws,on,pr,gd,rs,h1,h2,h3,h4,h5,h6,h7,h8⟩:=hp;refine o9 h1 ⟨rfl,_,⟨rfl,rfl⟩,p,l,rfl,WN,hl,λq1 XB=>?_⟩;have s1:=qo.new (c:=.lst (l.pn.map D.str)) XB;have e1:=@pz M q1 (l.pn.map D.str);generalize pB M q1 (.lst (l.pn.map D.str))=M1 at s1 e1 ⊢;have Zc:=s1.lst h3;refine o9 (s1 _ _ h1) (i' rfl (i' Zc ?_));refine qR (f:=AQ) Zc _ [] _ (by rw[cV];simp only[dO];omega) (λd hd k hk=>?_) λq2 YU=>?_
 .obtain⟨x,_,rfl⟩:=dD.mp hd;exact hk
 rw[d6,wM];have s2:=qo.new (c:=.lst ((l.groups.map (·.1)).map D.str)) YU;refine i' (s2.lst e1) (i' pz ⟨?_,λq3 hq3=>?_⟩)
 .rw[cV,cV,cV];show(l.mF.map (·.1)).length+_<=_;rw[cV];omega
 have en:l.pn.map D.str++(l.groups.map (·.1)).map D.str=l.nm.map D.str:=by unfold pC.nm;rw[dU];rfl
 rw[en];exact⟨_,(s1.trans s2).upd,q q3 ((s1.trans s2).none hq3)⟩
def CP:Fq P w K mg base 1 a.bK (Fo a):=by
 refine fq G.bK.toDG C0 (λr u=>⟨_,(oZ (pk (pF (wJ u (pq y0) U1) pb))),?_⟩)
 rintro ds M Q ⟨p,x,v,l,rfl,hp,hv,q⟩
 obtain⟨ph,gr,ws,on,pr,gd,rs,h1,h2,h3,h4,h5,h6,h7,h8⟩:=hp;exact o9 h1 (i' rfl (i' rfl (i' h6 (i' (x:=qD v) (by rw[FT,hv];rfl) ⟨M,.refl,q⟩))))
def zc:Fq P w K mg base 1 a.aB (FU a):=by
 refine fq G.aB.toDG EV (λr u=>⟨_,(oZ (pk (pF (wJ u (pq y0) U1) pb))),?_⟩)
 rintro ds M Q ⟨p,x,v,l,rfl,hp,hv,q⟩
 obtain⟨ph,gr,ws,on,pr,gd,rs,h1,h2,h3,h4,h5,h6,h7,h8⟩:=hp;exact o9 h1 (i' rfl (i' rfl (i' h6 (i' (x:=qD v) (by rw[FT,hv];rfl) ⟨M,.refl,q⟩))))
def ut:Fq P w K mg base 1 a.X (zT a):=by
 refine fq G.X.toDG zw (λr u=>⟨_,(oY (pJ (LQ u U1 (pq y0))
 (oZ (pk (qr tI rfl G.y tD (qd (pF (wJ u (pq y0) U1) pb)))))
 pD)
 (oZ (pk (qK (qd U1))))),?_⟩)
 rintro ds M Q ⟨p,x,l,rfl,hp,q⟩
 obtain⟨ph,gr,ws,on,pr,gd,rs,h1,h2,h3,h4,h5,h6,h7,h8⟩:=hp;refine o9 h1 (i' rfl (i' h7 ?_));cases e:l.group x with
 | none=>refine MV (c:=(uL (HJ l) (Sum.inr x)).isSome) (by rw[wF,e];rfl) ⟨oW rfl,λq1 XB=>⟨_,.refl,?_⟩⟩;have:=q q1 XB;unfold pC.mE at this;rw[e]at this;exact this
 | some g=>refine AU (c:=(uL (HJ l) (Sum.inr x)).isSome) (by rw[wF,e];rfl) (o9 h1 (i' rfl (i' rfl (i' h7 (i' (x:=qL g) (by rw[wF,e];rfl) λq1 XB=>⟨_,.refl,?_⟩)))));have:=q q1 XB;unfold pC.mE at this;rw[e]at this;exact this
def xI:Fq P w K mg base 1 a.aL (Dk a):=by
 refine fq G.aL.toDG BU (λr u=>⟨_,(oY (pJ (LQ u U1 (pq y0))
 (oZ (pk (pF (wJ u (pq y0) U1) pb)))
 pD)
 (oZ (pk pf))),?_⟩)
 rintro ds M Q ⟨p,x,l,rfl,hp,q⟩
 obtain⟨ph,gr,ws,on,pr,gd,rs,h1,h2,h3,h4,h5,h6,h7,h8⟩:=hp;refine o9 h1 (i' rfl (i' h7 ?_));cases e:l.group x with
 | none=>refine MV (c:=(uL (HJ l) (Sum.inr x)).isSome) (by rw[wF,e];rfl) ⟨M,.refl,?_⟩;unfold pC.mP at q;rw[e]at q;exact q
 | some g=>refine AU (c:=(uL (HJ l) (Sum.inr x)).isSome) (by rw[wF,e];rfl) (o9 h1 (i' rfl (i' rfl (i' h7 (i' (x:=qL g) (by rw[wF,e];rfl) ⟨M,.refl,?_⟩)))));unfold pC.mP at q;rw[e]at q;exact q
noncomputable def OL:T0 Int:=[1,1,2,2,3]
noncomputable def OA:T0 Int:=[0,1,1,2,5,9]
noncomputable def PC:QQQ:=["all","turns"]
noncomputable def FO(t:T0 Int)(i:Int):Int:=t.getD i.toNat 0
noncomputable def vZ(s:Int)(i:Nat):sN:=(xM s (0+(i:Nat)),FO OL (qx (s+17*(0+(i:Nat))*(0+(i:Nat))) 16807 5),FO OA (qx (s+17*(0+(i:Nat))*(0+(i:Nat))) 39373 6))
noncomputable def rN(s m:Int):Nat:=(2+qx s 48271 (m - 1)).toNat
noncomputable def qw(s m:Int):List sN:=(List.range (rN s m)).map (vZ s)
noncomputable def zO(s:Int)(own:QQQ)(i:Nat):ud:=(xM s (8+(0+(i:Nat))),Bm PC (qx (s+5*(0+(i:Nat))) 742938285 2),va own (s+11*(0+(i:Nat))) 4)
noncomputable def vN(s:Int):Nat:=(qx s 69621 3).toNat
noncomputable def qT(s:Int)(own:QQQ):List ud:=(List.range (vN s)).map (zO s own)
def F0{ts:T0 Int}{i:Int}(h0:0<=i)(h1:i<ts.length):wI (ts.map D.int) i=Fa (D.int (FO ts i)):=by
 obtain⟨n,rfl⟩:=eD h0;have YA:n<ts.length:=by omega
 refine vb ?_;rw[dF,cX YA];simp[FO,YA]
def BR{pre post:T0 D}{d:D}(e:pre++d::post=(List.range n).map λi=>D.int (0+(i:Nat))):d=.int (0+(pre.length:Nat))/\pre.length<n:=by
 have h:((List.range n).map λi=>D.int (0+(i:Nat)))[pre.length]?=Fa d:=by rw[<-e];simp
 have hl:pre.length<n:=by
  have:=(cZ.mp h).1
  simpa using this
 rw[dF,kz hl]at h;exact⟨(dv h).symm,hl⟩
def Cw{α β:Type}(f:Nat->α)(g:α->β)(n:Nat):((List.range n).map f).map g++[g (f n)]=((List.range (n+1)).map f).map g:=by rw[jU,dU,dU];rfl
def Hr:qY:=λds M Q=>CW λs m=>ds=[.int s,.int m]/\2<=m/\m<=100/\∀q,M q=Db->Q (.ref q) (pB M q (.lst ((qw s m).map qD)))
def Ht:qY:=λds M Q=>De λs o own=>ds=[.int s,.ref o]/\oK M o=Fa (own.map D.str)/\own≠[]/\own.length<=64/\∀q,M q=Db->Q (.ref q) (pB M q (.lst ((qT s own).map qL)))
def yJ{s m:Int}(h2:2<=m)(h:m<=100):rN s m<=100/\2<=rN s m:=by have d0:=qS (c:=s) (f:=48271) (m:=m - 1) (by omega);have d1:=qG (c:=s) (f:=48271) (m:=m - 1) (by omega);unfold rN;omega
def xg{s:Int}:vN s<=3:=by have d0:=qS (c:=s) (f:=69621) (m:=3) (by decide);have d1:=qG (c:=s) (f:=69621) (m:=3) (by decide);unfold vN;omega
def Hc:Fq P w K mg base 2 a.bi Hr:=by
 refine fq G.bi.toDG uJ (λr u=>⟨_,(oY (pG 2 uJ (qK sS))
 (oY (sT eK rfl (wH rfl G.aO (qd (pQ pb (pE (qF G) r G.i (qV y0 pb (pQ U1 pb)))))) (qI 3 uJ)
 (oY (pG 4 uJ (pF (pI (pP pb (pP pb (qV pb pb pb)))) (pE (qF G) r G.i (qV (pQ y0 (pQ (pQ pb U3) U3)) pb pb))))
 (oZ (pK (rQ U2 (qd (pI (qV (pE (Jb G) r G.ag (rW y0 U3)) v4 (pF (pI (pP pb (pP pb (pP pb (qV pb pb pb))))) (pE (qF G) r G.i (qV (pQ y0 (pQ (pQ pb U3) U3)) pb pb)))))))))))
 (oZ (pk U2)))),?_⟩)
 rintro ds M Q ⟨s,m,rfl,h2,h100,q⟩
 have hz:=dP;have d0:=qS (c:=s) (f:=48271) (m:=m - 1) (by omega);have d1:=qG (c:=s) (f:=48271) (m:=m - 1) (by omega);have nl:=(yJ (s:=s) h2 h100).1;refine⟨oW rfl,λr hr=>⟨s,_,_,rfl,by show 0<m - 1;omega,rfl,⟨?_,?_⟩,?_⟩⟩
 .show -(2 ^ 62)<=2+qx s 48271 (m - 1);omega
 .show 2+qx s 48271 (m - 1)<2 ^ 62;omega
 refine uc ((List.range (rN s m)).map λi=>D.int (0+(i:Nat))) (λpre U M'=>M'=pB M r (.lst (((List.range pre.length).map (vZ s)).map qD))/\∃x y,U=[Fa (.int s),Fa (.int m),Fa (.ref r),x,y]) (λ_ _ _ _=>trivial) _ [] _ _ rfl ⟨rfl,Db,Db,rfl⟩ ?_ ?_
 .rintro pre d post e U M' ⟨rfl,x,y,rfl⟩ nx WI
  obtain⟨rfl,WP⟩:=BR e;generalize hi:pre.length=i at WP WI ⊢;have cm:CZ (17*(0+(i:Int))) (0+(i:Int)):=.inr ⟨by omega,by omega⟩;have c17:CZ 17 (0+(i:Int)):=.inl ⟨by decide,by decide⟩;have t5:wI [D.int 1,.int 1,.int 2,.int 2,.int 3] (qx (s+17*(0+(i:Int))*(0+(i:Int))) 16807 5)=Fa (.int (vZ s i).2.1):=F0 (ts:=OL) (qS (by decide)) (qG (by decide));have t6:wI [D.int 0,.int 1,.int 1,.int 2,.int 5,.int 9] (qx (s+17*(0+(i:Int))*(0+(i:Int))) 39373 6)=Fa (.int (vZ s i).2.2):=F0 (ts:=OA) (qS (by decide)) (qG (by decide));refine⟨oW rfl,c17,cm,_,_,_,rfl,by decide,i' t5 ?_⟩;refine⟨by show(oK _ r).isSome=pc;rw[pz];rfl,s,_,rfl,oW rfl,c17,cm,_,_,_,rfl,by decide,i' t6 ⟨oW rfl,i' pz ⟨?_,?_⟩⟩⟩
  .rw[cV,cV,eG];omega
  .refine WI _ _ ⟨?_,_,_,rfl⟩;rw[rH,cY,hi];show pB M r (.lst (_++[qD (vZ s i)]))=_;rw[Cw];rfl
 .rintro U M' ⟨rfl,x,y,rfl⟩
  refine⟨_,.refl,?_⟩;rw[cV,eG];exact q r hr
def HR:Fq P w K mg base 3 a.bj Ht:=by
 refine fq G.bj.toDG uK (λr u=>⟨_,(oY (pG 2 uK (qK sS))
 (oY (sT eK rfl (wH rfl G.aO (qd (pE (qF G) r G.i (qV y0 pb pb)))) (qI 3 uK)
 (oY (pG 4 uK (pF (pI (rW pf pf)) (pE (qF G) r G.i (qV (pQ y0 (pQ pb U3)) pb pb))))
 (oZ (pK (rQ U2 (qd (pI (qV (pE (Jb G) r G.ag (rW y0 (pQ pb U3))) v4 (pE (vS G) r G.H (qV U1 (pQ y0 (pQ pb U3)) pb))))))))))
 (oZ (pk U2)))),?_⟩)
 rintro ds M Q ⟨s,o,own,rfl,ho,WZ,h64,q⟩
 have hz:=dP;have d0:=qS (c:=s) (f:=69621) (m:=3) (by decide);have d1:=qG (c:=s) (f:=69621) (m:=3) (by decide);have nl:=xg (s:=s);refine⟨oW rfl,λr hr=>⟨s,_,_,rfl,by decide,rfl,⟨?_,?_⟩,?_⟩⟩
 .show -(2 ^ 62)<=qx s 69621 3;omega
 .show qx s 69621 3<2 ^ 62;omega
 have nor:o≠r:=λz=>by rw[z]at ho;unfold oK at ho;rw[hr]at ho;cases ho
 refine uc ((List.range (vN s)).map λi=>D.int (0+(i:Nat))) (λpre U M'=>M'=pB M r (.lst (((List.range pre.length).map (zO s own)).map qL))/\∃x y,U=[Fa (.int s),Fa (.ref o),Fa (.ref r),x,y]) (λ_ _ _ _=>trivial) _ [] _ _ rfl ⟨rfl,Db,Db,rfl⟩ ?_ ?_
 .rintro pre d post e U M' ⟨rfl,x,y,rfl⟩ nx WI
  obtain⟨rfl,WP⟩:=BR e;generalize hi:pre.length=i at WP WI ⊢;have c5:CZ 5 (0+(i:Int)):=.inl ⟨by decide,by decide⟩;have c11:CZ 11 (0+(i:Int)):=.inl ⟨by decide,by decide⟩;have tm:wI [D.str "all",.str "turns"] (qx (s+5*(0+(i:Int))) 742938285 2)=Fa (.str (zO s own i).2.1):=Hn (row:=PC) (qS (by decide)) (qG (by decide));have Xg:oK (pB M r (.lst (((List.range i).map (zO s own)).map qL))) o=Fa (own.map D.str):=by unfold oK;rw[tZ nor];exact ho
  refine⟨oW rfl,c5,_,_,_,rfl,by decide,i' tm ?_⟩;refine⟨by show(oK _ r).isSome=pc;rw[pz];rfl,s,_,rfl,c11,o,_,_,own,rfl,Xg,WZ,by decide,h64,oW rfl,i' pz ⟨?_,?_⟩⟩
  .rw[cV,cV,eG];omega
  .refine WI _ _ ⟨?_,_,_,rfl⟩;rw[rH,cY,hi];show pB M r (.lst (_++[qL (zO s own i)]))=_;rw[Cw];rfl
 .rintro U M' ⟨rfl,x,y,rfl⟩
  refine⟨_,.refl,?_⟩;rw[cV,eG];exact q r hr
noncomputable def HZ(ns:T0 Int)(own nm:QQQ)(i:Nat):uV:=(decide (0<qx (cell ns (1+(0+(i:Nat)))+31*(0+(i:Nat))*(0+(i:Nat))) 22695477 6),wz (cell ns (1+(0+(i:Nat)))+31*(0+(i:Nat))*(0+(i:Nat))) own nm)
noncomputable def vi(s:Int):Nat:=(qx s 950706376 11).toNat
noncomputable def Ax(ns:T0 Int)(m:Int):pC:=
 let s:=cell ns 0;let own:=(qw s m).map (·.1);let gs:=qT s own
 ⟨qw s m,gs,(List.range (vi s)).map (HZ ns own (own++gs.map (·.1)))⟩
def ME:qY:=λds M Q=>CW λns m=>ds=[.rl (ns.map D.int),.int m]/\2<=m/\m<=8/\∀r1 r2 r3 M',qo M M'->oK M' r1=Fa ((Ax ns m).mF.map qD)->oK M' r2=Fa ((Ax ns m).groups.map qL)->oK M' r3=Fa ((Ax ns m).mG.map uz)->Q (.tup [.ref r1,.ref r2,.ref r3]) M'
def ML:Fq P w K mg base 4 a.bl ME:=by
 refine fq G.bl.toDG so (λr u=>⟨_,(oY (pG 2 so (pE (GR G) r G.F (rW y0 pb)))
 (oY (pG 3 so (pE (Hc G) r G.bi (rW U2 U1)))
 (oY (uE (i:=4) so.nd rfl (Or.inl rfl) rfl (xw (ix:=[Db]) (N':=["_law_phone"])) (qv U3) (qB 0) rP (pF y0 pb))
 (oY (pG 5 so (pE (HR G) r G.bj (rW U2 v4)))
 (oY (pG 6 so (pQ v4 (qE rfl (xw (ix:=[Db]) (N':=["_law_group"])) (qv v5) (qB 0) rP (pF y0 pb))))
 (oY (pG 7 so (qK sS))
 (oY (sT eK rfl (wH rfl G.aO (qd (pE (qF G) r G.i (qV U2 pb pb)))) (qI 8 so)
 (oY (pG 9 so (pQ (pE (GR G) r G.F (rW y0 (pQ pb v8))) (pQ (pQ pb v8) v8)))
 (oZ (pK (rQ v7 (qd (pI (rW (pR u (pE (qF G) r G.i (qV v9 pb pb)) pb) (pE (Ox G) r G.bk (qV v9 v4 v6))))))))))
 (oZ (pk (pI (qV U3 v5 v7))))))))))),?_⟩)
 rintro ds M Q ⟨ns,m,rfl,h2,h8,q⟩
 have hz:=dP;have pl:=yJ (s:=cell ns 0) h2 (by omega);have p8:rN (cell ns 0) m<=8:=by have d1:=qG (c:=cell ns 0) (f:=48271) (m:=m - 1) (by omega);unfold rN;omega
 have gl:=xg (s:=cell ns 0);have lp:(qw (cell ns 0) m).length=rN (cell ns 0) m:=by unfold qw;rw[cV,eG]
 refine⟨ns,0,rfl,cell ns 0,m,rfl,h2,by omega,λr1 Xk=>?_⟩;have s1:=qo.new (c:=.lst ((qw (cell ns 0) m).map qD)) Xk;have a1:=@pz M r1 ((qw (cell ns 0) m).map qD);generalize pB M r1 (.lst ((qw (cell ns 0) m).map qD))=M1 at s1 a1 ⊢;refine i' a1 (qR (f:=AQ) a1 _ [] _ (by rw[cV];simp only[dO];omega) (λd hd k hk=>?_) λo ho=>?_)
 .obtain⟨x,_,rfl⟩:=dD.mp hd;exact hk
 rw[d6,wV];have s2:=s1.trans (qo.new (c:=.lst (((qw (cell ns 0) m).map (·.1)).map D.str)) ho);have b1:=(qo.new (c:=.lst (((qw (cell ns 0) m).map (·.1)).map D.str)) ho).lst a1;have bo:=@pz M1 o (((qw (cell ns 0) m).map (·.1)).map D.str);generalize pB M1 o (.lst (((qw (cell ns 0) m).map (·.1)).map D.str))=M2 at s2 b1 bo ⊢;have ol:((qw (cell ns 0) m).map (·.1)).length=rN (cell ns 0) m:=by rw[cV,lp]
 have one:(qw (cell ns 0) m).map (·.1)≠[]:=λz=>by rw[z]at ol;have:0=rN (cell ns 0) m:=ol;omega
 have WN:Ax ns m=⟨qw (cell ns 0) m,qT (cell ns 0) ((qw (cell ns 0) m).map (·.1)),(List.range (vi (cell ns 0))).map (HZ ns ((qw (cell ns 0) m).map (·.1)) ((qw (cell ns 0) m).map (·.1)++(qT (cell ns 0) ((qw (cell ns 0) m).map (·.1))).map (·.1)))⟩:=rfl;rw[WN]at q;generalize (qw (cell ns 0) m).map (·.1)=own at bo ol one q ⊢;refine⟨cell ns 0,o,own,rfl,bo,one,by omega,λr2 YV=>?_⟩;have t3:=qo.new (c:=.lst ((qT (cell ns 0) own).map qL)) YV;have c2:=@pz M2 r2 ((qT (cell ns 0) own).map qL);have c1:=t3.lst b1;have co:=t3.lst bo;have s3:=s2.trans t3;generalize pB M2 r2 (.lst ((qT (cell ns 0) own).map qL))=M3 at s3 c1 c2 co ⊢;have gll:(qT (cell ns 0) own).length=vN (cell ns 0):=by unfold qT;rw[cV,eG]
 refine i' c2 (qR (f:=AQ) c2 _ [] _ (by rw[cV];simp only[dO];omega) (λd hd k hk=>?_) λx4 hx4=>?_)
 .obtain⟨x,_,rfl⟩:=dD.mp hd;exact hk
 rw[d6,wM];have t4:=qo.new (c:=.lst (((qT (cell ns 0) own).map (·.1)).map D.str)) hx4;refine i' (t4.lst co) (i' pz ⟨?_,λn hn=>?_⟩)
 .rw[cV,cV,cV];omega
 have en:own.map D.str++((qT (cell ns 0) own).map (·.1)).map D.str=(own++(qT (cell ns 0) own).map (·.1)).map D.str:=by rw[dU]
 rw[en];have nl:(own++(qT (cell ns 0) own).map (·.1)).length=rN (cell ns 0) m+vN (cell ns 0):=by rw[cY,cV,ol,gll]
 have t5:=t4.trans (qo.new (c:=.lst ((own++(qT (cell ns 0) own).map (·.1)).map D.str)) hn);have en5:=@pz (pB M3 x4 (.lst (((qT (cell ns 0) own).map (·.1)).map D.str))) n ((own++(qT (cell ns 0) own).map (·.1)).map D.str);have e1:=t5.lst c1;have e2:=t5.lst c2;have eo:=t5.lst co;have s5:=s3.trans t5;generalize pB (pB M3 x4 (.lst (((qT (cell ns 0) own).map (·.1)).map D.str))) n (.lst ((own++(qT (cell ns 0) own).map (·.1)).map D.str))=M5 at s5 e1 e2 eo en5 ⊢;generalize own++(qT (cell ns 0) own).map (·.1)=nm at en5 nl q ⊢;have d0:=qS (c:=cell ns 0) (f:=950706376) (m:=11) (by decide);have d1:=qG (c:=cell ns 0) (f:=950706376) (m:=11) (by decide);refine⟨oW rfl,λr3 Ze=>⟨_,_,_,rfl,by decide,rfl,⟨?_,?_⟩,?_⟩⟩
 .show -(2 ^ 62)<=qx (cell ns 0) 950706376 11;omega
 .show qx (cell ns 0) 950706376 11<2 ^ 62;omega
 have t6:=qo.new (c:=.lst []) Ze;have g3:=@pz M5 r3 [];have no:o≠r3:=λz=>by have:=qm eo;rw[z,Ze]at this;cases this
 have nn:n≠r3:=λz=>by have:=qm en5;rw[z,Ze]at this;cases this
 have n1:r1≠r3:=λz=>by have:=qm e1;rw[z,Ze]at this;cases this
 have n2:r2≠r3:=λz=>by have:=qm e2;rw[z,Ze]at this;cases this
 have f1:=t6.lst e1;have f2:=t6.lst e2;have fo:=t6.lst eo;have fn:=t6.lst en5;have k6:qo M (pB M5 r3 (.lst [])):=s5.trans t6;have nr:M r3=Db:=s5.none Ze;generalize pB M5 r3 (.lst [])=M6 at f1 f2 fo fn k6 g3 ⊢;have wl:vi (cell ns 0)<=10:=by unfold vi;omega
 refine uc ((List.range (vi (cell ns 0))).map λi=>D.int (0+(i:Nat))) (λpre U M'=>sm r3 M6 M'/\oK M' r3=Fa (((List.range pre.length).map (HZ ns own nm)).map uz)/\∃x y,U=[Fa (.rl (ns.map D.int)),Fa (.int m),Fa (.int (cell ns 0)),Fa (.ref r1),Fa (.ref o),Fa (.ref r2),Fa (.ref n),Fa (.ref r3),x,y]) (λp U M' j=>trivial) _ [] _ _ rfl ⟨λ_ _ _ h=>h,g3,Db,Db,rfl⟩ ?_ ?_
 .rintro pre d post e U M' ⟨kp,lr,x,y,rfl⟩ nx WI
  obtain⟨rfl,WP⟩:=BR e;generalize hi:pre.length=i at WP WI lr ⊢;have c31:CZ 31 (0+(i:Int)):=.inl ⟨by decide,by decide⟩;have cm:CZ (31*(0+(i:Int))) (0+(i:Int)):=.inr ⟨by omega,by omega⟩;refine⟨ns,_,rfl,c31,cm,?_⟩;refine⟨by show(oK M' r3).isSome=pc;rw[lr];rfl,_,_,_,rfl,by decide,_,o,n,own,nm,rfl,kp.lst no fo,kp.lst nn fn,one,by omega,by omega,by omega,oW rfl,i' lr ⟨?_,?_⟩⟩
  .rw[cV,cV,eG];omega
  .refine WI _ _ ⟨kp.trans .put,?_,_,_,rfl⟩;rw[pz,cY,hi];show Fa (_++[uz (HZ ns own nm i)])=_;rw[Cw];rfl
 .rintro U M' ⟨kp,lr,x,y,rfl⟩
  rw[cV,eG]at lr;exact⟨oW rfl,M',.refl,q r1 r2 r3 M' (λb c h=>kp b c (λz=>by rw[z,nr]at h;cases h) (k6 b c h)) (kp.lst n1 f1) (kp.lst n2 f2) lr⟩
theorem Ck(x:Array Nat):∀(n:Nat) (acc:Array Nat),((List.replicate n x).foldl (·++·) acc).toList=acc.toList++(List.replicate n x.toList).flatten
 | 0,acc=>by simp
 | n+1,acc=>by rw[eJ,gb,Ck x n (acc++x),eJ,fU,iY,fj]
theorem F4(c:Nat):∀n:Nat,(List.replicate n [c]).flatten=List.replicate n c
 | 0=>rfl
 | n+1=>by rw[eJ,fU,F4 c n,eJ];rfl
def Ds(i n:Int):(yQ (ub i) n).cps.toList=List.replicate n.toNat (97+i.toNat):=by show((List.replicate n.toNat (ub i).cps).foldl (·++·) #[]:Array Nat).toList=_;rw[Ck];show[]++(List.replicate n.toNat [97+i.toNat]).flatten=_;rw[d6,F4]
def x9(s v:Int):(xM s v).cps.toList=List.replicate (uu s).toNat (97+(s / 36 % 26).toNat)++(97+((s / 936+v) % 26).toNat)::List.replicate (size s - 1 - uu s).toNat (97+(s / 36 % 26).toNat):=by show((yQ (ub (s / 36 % 26)) (uu s)).cps++(ub ((s / 936+v) % 26)).cps++(yQ (ub (s / 36 % 26)) (size s - 1 - uu s)).cps).toList=_;rw[iY,iY,Ds,Ds];show _++[97+((s / 936+v) % 26).toNat]++_=_;rw[fj];rfl
def Ca(s v:Int):1<=(xM s v).length/\(xM s v).length<=6:=by
 have e:(xM s v).length=(xM s v).cps.toList.length:=by simp[Str.length]
 rw[e,x9,cY,eB,iI,iI];have h1:=Gc s;have h2:=IL s;have h3:0<=uu s:=eV _ (by omega);have h4:uu s<size s:=eN _ h1;omega
def Lz{i:Int}(h0:0<=i)(h1:i<26):Df ⟨#[97+i.toNat]⟩ uq=pc:=by
 obtain⟨n,rfl⟩:=eD h0;have hn:n<26:=by omega
 have key:∀n:_root_.Fin 26,Df ⟨#[97+n.val]⟩ uq=pc:=by decide+kernel
 exact key ⟨n,hn⟩
def DB(s v:Int):ul (xM s v)=pc:=by
 obtain⟨h1,h2⟩:=Ca s v;unfold ul;rw[dX (show(1:Int)<=(xM s v).length by omega),dX (show((xM s v).length:Int)<=6 by omega),eI,eI,eU];intro c hc;rw[x9]at hc;have k1:=Lz (eV (s / 36) (show(26:Int)≠0 by decide)) (eN (s / 36) (by decide));have k2:=Lz (eV (s / 936+v) (show(26:Int)≠0 by decide)) (eN (s / 936+v) (by decide));rcases dR.mp hc with z|z
 .rw[jK z];exact k1
 .rcases c9.mp z with z|z
  .rw[z];exact k2
  .rw[jK z];exact k1
def CB{s u v:Int}(hu:0<=u)(hu':u<26)(hv:0<=v)(hv':v<26)(e:xM s u=xM s v):u=v:=by
 have e':(xM s u).cps.toList=(xM s v).cps.toList:=by rw[e]
 rw[x9,x9]at e';have:=(List.append_cancel_left e');have:=(gL this).1;have a1:=eV (s / 936+u) (show(26:Int)≠0 by decide);have a2:=eV (s / 936+v) (show(26:Int)≠0 by decide);have h:(s / 936+u) % 26=(s / 936+v) % 26:=by omega
 omega
def Fd{ss:QQQ}{x:Str}(h:x∈ss):xV ss x:=gj.mpr ⟨x,h,by simp⟩
def A8{row:QQQ}{i:Int}(h0:0<=i)(h1:i<row.length):Bm row i∈row:=by
 obtain⟨n,rfl⟩:=eD h0;have hn:n<row.length:=by omega
 have:Bm row (n:Int)=row[n]:=by simp[Bm,hn]
 rw[this];exact ic hn
def IV{row:QQQ}{i j:Int}(nd:row.Nodup)(h0:0<=i)(h1:i<row.length)(g0:0<=j)(g1:j<row.length)(e:Bm row i=Bm row j):i=j:=by
 obtain⟨n,rfl⟩:=eD h0;obtain⟨k,rfl⟩:=eD g0;have hn:n<row.length:=by omega
 have hk:k<row.length:=by omega
 have e1:Bm row (n:Int)=row[n]:=by simp[Bm,hn]
 have e2:Bm row (k:Int)=row[k]:=by simp[Bm,hk]
 rw[e1,e2]at e;have pw:=jw.mp nd;rcases Nat.lt_trichotomy n k with z|z|z
 .exact absurd e (pw n k hn hk z)
 .rw[z]
 .exact absurd e.symm (pw k n hk hn z)
def zL{α:Type}(f:Nat->α)(n:Nat)(h:∀i j,i<n->j<n->f i=f j->i=j):((List.range n).map f).Nodup:=by refine jw.mpr λi j hi hj WP e=>?_;rw[cV,eG]at hi hj;rw[lQ,lQ,kU,kU]at e;have:=h i j hi hj e;omega
def BF{row:QQQ}{c m:Int}(hr:row≠[])(hm:0<m):1<=xm row c m/\(xm row c m:Int)<=m/\xm row c m<=row.length:=by
 have hl:0<row.length:=fC.mpr hr;have d0:=qS (c:=c) (f:=40692) (m:=if (row.length:Int)<m then(row.length:Int)else m) (by split<;>omega);have d1:=qG (c:=c) (f:=40692) (m:=if (row.length:Int)<m then(row.length:Int)else m) (by split<;>omega);unfold xm;by_cases h:(row.length:Int)<m
 .rw[dh h]at d0 d1 ⊢;omega
 .rw[de h]at d0 d1 ⊢;omega
def BI{row:QQQ}{c:Int}(hr:row≠[])(j:Nat):0<=(qx c 69621 row.length+(0+(j:Nat))) % (row.length:Int)/\(qx c 69621 row.length+(0+(j:Nat))) % (row.length:Int)<row.length:=by have hl:0<row.length:=fC.mpr hr;exact⟨eV _ (by omega),eN _ (by omega)⟩
def Iq{d n i j:Int}(hn:0<n)(hi:0<=i)(X3:i<n)(hj:0<=j)(hj':j<n)(e:(d+i) % n=(d+j) % n):i=j:=by
 have h1:=j8 (d+i) n;have h2:=j8 (d+j) n;generalize (d+i) / n=a at h1;generalize (d+j) / n=b at h2;have h3:i - j=n*(a - b):=by rw[Int.mul_sub];omega
 rcases Int.lt_trichotomy (a - b) 0 with z|z|z
 .have:n*(a - b)<=n*(-1):=iX (by omega) (by omega);omega
 .rw[z]at h3;omega
 .have:n*1<=n*(a - b):=iX (by omega) (by omega);omega
def Hv{row:QQQ}{c m:Int}(nd:row.Nodup)(hr:row≠[])(hm:0<m):(va row c m).Nodup:=by have hl:0<row.length:=fC.mpr hr;obtain⟨_,_,l3⟩:=BF (c:=c) hr hm;refine zL _ _ λi j hi hj e=>?_;obtain⟨a0,a1⟩:=BI (c:=c) hr i;obtain⟨b0,b1⟩:=BI (c:=c) hr j;have e':=IV nd a0 a1 b0 b1 e;have:=Iq (d:=qx c 69621 row.length) (n:=row.length) (i:=0+(i:Nat)) (j:=0+(j:Nat)) (by omega) (by omega) (by omega) (by omega) (by omega) e';omega
def uP{row:QQQ}{c m k:Int}(nd:row.Nodup)(hr:row≠[])(hm:0<m)(hk:m<=k):su (va row c m) row k=pc:=by
 obtain⟨l1,l2,l3⟩:=BF (c:=c) hr hm;have el:(va row c m).length=xm row c m:=by unfold va;rw[cV,eG]
 unfold su;rw[el,dX (show(1:Int)<=xm row c m by omega),dX (show(xm row c m:Int)<=k by omega),DS (Hv nd hr hm),eI,eI,eI,eU];intro x hx;unfold va at hx;obtain⟨j,_,rfl⟩:=dD.mp hx;obtain⟨a0,a1⟩:=BI (c:=c) hr j;exact Fd (A8 a0 a1)
def xJ{row:QQQ}{c m:Int}(hr:row≠[])(hm:0<m)(h:m<=100):(va row c m).length<4000:=by
 obtain⟨l1,l2,l3⟩:=BF (c:=c) hr hm;have el:(va row c m).length=xm row c m:=by unfold va;rw[cV,eG]
 omega
def NK{c:Int}{own all:QQQ}(no:own.Nodup)(na:all.Nodup)(ho:own≠[])(ha:2<=all.length):zR own all (wz c own all):=by
 have hl:(0:Int)<own.length:=by have:=fC.mpr ho;omega
 have ha0:all≠[]:=λz=>by rw[z]at ha;simp at ha
 have hx:=Fd (A8 (qS (c:=c) (f:=16807) hl) (qG (c:=c) (f:=16807) hl));have p0:=qS (c:=c) (f:=39373) (m:=all.length) (by omega);have p1:=qG (c:=c) (f:=39373) (m:=all.length) (by omega);have e0:=qS (c:=c) (f:=742938285) (m:=(all.length:Int) - 1) (by omega);have e1:=qG (c:=c) (f:=742938285) (m:=(all.length:Int) - 1) (by omega);have z0:=eV (qx c 39373 all.length+1+qx c 742938285 ((all.length:Int) - 1)) (show(all.length:Int)≠0 by omega);have z1:=eN (qx c 39373 all.length+1+qx c 742938285 ((all.length:Int) - 1)) (show(0:Int)<all.length by omega);have hy:=Fd (A8 p0 p1);have Zf:=Fd (A8 z0 z1);have ne:Bm all (qx c 39373 all.length)≠Bm all ((qx c 39373 all.length+1+qx c 742938285 ((all.length:Int) - 1)) % all.length):=λz=>by
  have q:=IV na p0 p1 z0 z1 z;have q2:(qx c 39373 all.length+0) % (all.length:Int)=(qx c 39373 all.length+(1+qx c 742938285 ((all.length:Int) - 1))) % (all.length:Int):=by rw[iR,Int.emod_eq_of_lt p0 p1,<-Int.add_assoc];exact q
  have:=Iq (by omega) (by omega) (by omega) (by omega) (by omega) q2;omega
 have f0:=qS (c:=c) (f:=22695477) (m:=24) (by decide);have f1:=qG (c:=c) (f:=22695477) (m:=24) (by decide);have g0:=qS (c:=c) (f:=48271) (m:=23) (by decide);have g1:=qG (c:=c) (f:=48271) (m:=23) (by decide);have t0:=qS (c:=c) (f:=950706376) (m:=5) (by decide);have t1:=qG (c:=c) (f:=950706376) (m:=5) (by decide);unfold wz;simp only;split
 .exact⟨hx,xJ ha0 (by decide) (by decide),uP na ha0 (by decide) (by decide)⟩
 .split
  .exact⟨hy,xJ ho (by decide) (by decide),uP no ho (by decide) (by decide)⟩
  .split
   .exact⟨hy,Zf,ne⟩
   .split
    .refine⟨hy,Zf,ne,⟨f0,by omega⟩,⟨eV _ (by decide),?_⟩,?_⟩
     .have:=eN (qx c 22695477 24+1+qx c 48271 23) (show(0:Int)<24 by decide);omega
     .omega
    .split
     .exact⟨hy,Zf,ne⟩
     .split
      .refine⟨hy,Zf,ne,?_⟩;generalize qx c 950706376 5=d at t0 t1;have:d=0\/d=1\/d=2\/d=3\/d=4:=by omega
       rcases this with z|z|z|z|z<;>(subst z;decide)
      .split
       .exact hx
       .exact hx
def KQ(s:Int)(i:Nat):Ew (vZ s i):=by
 have t0:=qS (c:=s+17*(0+(i:Nat))*(0+(i:Nat))) (f:=16807) (m:=5) (by decide);have t1:=qG (c:=s+17*(0+(i:Nat))*(0+(i:Nat))) (f:=16807) (m:=5) (by decide);have u0:=qS (c:=s+17*(0+(i:Nat))*(0+(i:Nat))) (f:=39373) (m:=6) (by decide);have u1:=qG (c:=s+17*(0+(i:Nat))*(0+(i:Nat))) (f:=39373) (m:=6) (by decide);have a:1<=(vZ s i).2.1/\(vZ s i).2.1<=3:=by
  show 1<=FO OL (qx (s+17*(0+(i:Nat))*(0+(i:Nat))) 16807 5)/\FO OL (qx (s+17*(0+(i:Nat))*(0+(i:Nat))) 16807 5)<=3;generalize qx (s+17*(0+(i:Nat))*(0+(i:Nat))) 16807 5=d at t0 t1;have:d=0\/d=1\/d=2\/d=3\/d=4:=by omega
  rcases this with z|z|z|z|z<;>(subst z;decide)
 have b:0<=(vZ s i).2.2/\(vZ s i).2.2<=9:=by
  show 0<=FO OA (qx (s+17*(0+(i:Nat))*(0+(i:Nat))) 39373 6)/\FO OA (qx (s+17*(0+(i:Nat))*(0+(i:Nat))) 39373 6)<=9;generalize qx (s+17*(0+(i:Nat))*(0+(i:Nat))) 39373 6=d at u0 u1;have:d=0\/d=1\/d=2\/d=3\/d=4\/d=5:=by omega
  rcases this with z|z|z|z|z|z<;>(subst z;decide)
 exact⟨eh (Ca s (0+(i:Nat))).2 (by decide),DB _ _,a.1,a.2,b.1,b.2⟩
def LV{s:Int}{own:QQQ}(nd:own.Nodup)(hr:own≠[])(i:Nat):Fb own (zO s own i):=by
 have t0:=qS (c:=s+5*(0+(i:Nat))) (f:=742938285) (m:=2) (by decide);have t1:=qG (c:=s+5*(0+(i:Nat))) (f:=742938285) (m:=2) (by decide);refine⟨eh (Ca s (8+(0+(i:Nat)))).2 (by decide),DB _ _,?_,xJ hr (by decide) (by decide),uP nd hr (by decide) (by decide)⟩;show Bm PC (qx (s+5*(0+(i:Nat))) 742938285 2)="all"\/Bm PC (qx (s+5*(0+(i:Nat))) 742938285 2)="turns";generalize qx (s+5*(0+(i:Nat))) 742938285 2=d at t0 t1;have:d=0\/d=1:=by omega
 rcases this with z|z
 .subst z;exact .inl rfl
 .subst z;exact .inr rfl
def MW(s m:Int):(qw s m).map (·.1)=(List.range (rN s m)).map λi=>xM s (0+(i:Nat)):=by unfold qw;rw[eA];rfl
def Gv{s m:Int}(h2:2<=m)(h8:m<=8):((qw s m).map (·.1)).Nodup/\∀own,((qw s m).map (·.1)++(qT s own).map (·.1)).Nodup:=by
 have d1:=qG (c:=s) (f:=48271) (m:=m - 1) (by omega);have d0:=qS (c:=s) (f:=48271) (m:=m - 1) (by omega);have p8:rN s m<=8:=by unfold rN;omega
 have g3:=xg (s:=s);have a:((qw s m).map (·.1)).Nodup:=by rw[MW];refine zL _ _ λi j hi hj e=>?_;have:=CB (by omega) (by omega) (by omega) (by omega) e;omega
 refine⟨a,λown=>?_⟩;have ge:(qT s own).map (·.1)=(List.range (vN s)).map λi=>xM s (8+(0+(i:Nat))):=by unfold qT;rw[eA];rfl
 rw[fD];refine⟨a,?_,λx hx y hy e=>?_⟩
 .rw[ge];refine zL _ _ λi j hi hj e=>?_;have:=CB (by omega) (by omega) (by omega) (by omega) e;omega
 .rw[MW]at hx;rw[ge]at hy;obtain⟨i,hi,rfl⟩:=dD.mp hx;obtain⟨j,hj,rfl⟩:=dD.mp hy;have hi:=gz.mp hi;have hj:=gz.mp hj;have:=CB (by omega) (by omega) (by omega) (by omega) e;omega
def OX{m:Int}(h2:2<=m)(h8:m<=8):rf (Ax ns m):=by
 obtain⟨n1,n2⟩:=Gv (s:=cell ns 0) h2 h8;have pl:=yJ (s:=cell ns 0) h2 (by omega);have p8:rN (cell ns 0) m<=8:=by have d1:=qG (c:=cell ns 0) (f:=48271) (m:=m - 1) (by omega);unfold rN;omega
 have lp:(qw (cell ns 0) m).length=rN (cell ns 0) m:=by unfold qw;rw[cV,eG]
 have ol:((qw (cell ns 0) m).map (·.1)).length=rN (cell ns 0) m:=by rw[cV,lp]
 have one:(qw (cell ns 0) m).map (·.1)≠[]:=λz=>by rw[z]at ol;have:0=rN (cell ns 0) m:=ol;omega
 have gl:(qT (cell ns 0) ((qw (cell ns 0) m).map (·.1))).length=vN (cell ns 0):=by unfold qT;rw[cV,eG]
 refine⟨?_,?_,λp hp=>?_,?_,λg hg=>?_,n2 _,?_,λv hv=>?_⟩
 .show 1<=(qw (cell ns 0) m).length;omega
 .show(qw (cell ns 0) m).length<=8;omega
 .obtain⟨i,_,rfl⟩:=dD.mp hp;exact KQ _ i
 .show(qT (cell ns 0) ((qw (cell ns 0) m).map (·.1))).length<=3;rw[gl];exact xg
 .obtain⟨i,_,rfl⟩:=dD.mp hg;exact LV n1 one i
 .show((List.range (vi (cell ns 0))).map _).length<=16;rw[cV,eG];have d1:=qG (c:=cell ns 0) (f:=950706376) (m:=11) (by decide);unfold vi;omega
 .obtain⟨i,hi,rfl⟩:=dD.mp hv;refine NK n1 (n2 _) one ?_;show 2<=((qw (cell ns 0) m).map (·.1)++_).length;rw[cY,ol];omega
structure pj where
 st:Str
 cr:Str
 way:QQQ
 at_:QQQ
 ms:QQQ
 hd:Option Str
 si:Int
 wd:Option Str
structure rY where
 i:Nat
 f:Str
 g:Str
 y:Str
inductive Ev
 | new (n:Nat) (x:Str)
 | leg (v:rY)
 | asks (i:Nat) (z:Str) (ns:List Nat)
 | next (z:Str) (n:Int)
 | merge (i j:Nat) (ms:QQQ)
 | turn
 | sw (b:Bool) (i:Nat)
 | rings (i:Nat) (ps:QQQ)
 | quiet (i:Nat)
 | waits (i:Nat) (x:Str)
 | talks (i:Nat) (ms:QQQ)
 | held (i:Nat) (x:Str)
 | leaves (i:Nat) (x:Str)
 | over (i:Nat) (w:Str)
structure qu where
 p:Uf
 h:Int
 t:Int
 calls:List pj
 mS:List rY
 ps:List (Str×Int)
 on:List Bool
 log:List Ev
 fo:QXQ
noncomputable def xA(ns:T0 Nat):D:=.tup (ns.map λn=>D.int (n:Nat))
noncomputable def rY.d(v:rY):D:=.tup [.int (v.i:Nat),.str v.f,.str v.g,.str v.y]
noncomputable def SZ(b:Bool):Str:=if b=pc then "on" else "off"
noncomputable def Ev.d:Ev->D
 | .new n x=>.tup [.str "new",.int (n:Nat),.str x]
 | .leg v=>.tup [.str "leg",.int (v.i:Nat),.str v.f,.str v.g,.str v.y]
 | .asks i z ns=>.tup [.str "asks",.int (i:Nat),.str z,xA ns]
 | .next z n=>.tup [.str "next",.str z,.int n]
 | .merge i j ms=>.tup [.str "merge",.int (i:Nat),.int (j:Nat),names ms]
 | .turn=>.tup [.str "turn"]
 | .sw b i=>.tup [.str (SZ b),.int (i:Nat)]
 | .rings i ps=>.tup [.str "rings",.int (i:Nat),names ps]
 | .quiet i=>.tup [.str "quiet",.int (i:Nat)]
 | .waits i x=>.tup [.str "waits",.int (i:Nat),.str x]
 | .talks i ms=>.tup [.str "talks",.int (i:Nat),names ms]
 | .held i x=>.tup [.str "held",.int (i:Nat),.str x]
 | .leaves i x=>.tup [.str "leaves",.int (i:Nat),.str x]
 | .over i w=>.tup [.str "over",.int (i:Nat),.str w]
noncomputable def hasS(ss:QQQ)(x:Str):Bool:=ss.any (·==x)
noncomputable def rE(ss:QQQ)(x:Str):QQQ:=ss.filter λy=>!(y==x)
noncomputable def zB(x:Str):pj:=⟨"rings",x,[],[],[],Db,0,Db⟩
noncomputable def pj.over(c:pj)(w:Str):pj:={c with st:="over",wd:=some w,at_:=[],ms:=[],hd:=none}
noncomputable def pj.drop(c:pj)(x:Str):pj:={c with at_:=rE c.at_ x,ms:=rE c.ms x}
noncomputable def pj.ring(c:pj)(ps:QQQ):pj:={c with st:="rings",at_:=ps,si:=0}
noncomputable def pj.nC(c:pj)(ms:QQQ):pj:={c with st:="talks",ms:=ms,at_:=[],hd:=none}
noncomputable def pj.wait(c:pj)(x:Str):pj:={c with st:="waits",at_:=[x]}
noncomputable def pj.hold(c:pj)(x:Str):pj:={c with st:="held",hd:=some x}
noncomputable def pj.nI(c:pj):pj:={c with at_:=[]}
noncomputable def pj.mem(c:pj)(ms:QQQ):pj:={c with ms:=ms}
noncomputable def pj.go(c:pj)(g:Str):pj:={c with way:=c.way++[g]}
noncomputable def pj.tick(c:pj):pj:=if (c.st=="rings")=pc then{c with si:=c.si+1}else c
noncomputable def rY.to(m k:Nat)(v:rY):rY:=if v.i=m then{v with i:=k}else v
noncomputable def zY(ps:T0 (Str×Int))(z:Str)(n:Int):T0 (Str×Int):=if ps.any (λp=>decide (p.1=z))=pc then ps.map (λp=>if p.1=z then(p.1,n)else p)else ps++[(z,n)]
noncomputable def xN(V:qu)(i:Nat)(f:pj->pj):qu:={V with calls:=V.calls.modify i f}
noncomputable def qM(V:qu)(e:Ev):qu:={V with log:=V.log++[e]}
noncomputable def To(V:qu):Ev->qu
 | .new _ x=>{V with calls:=V.calls++[zB x]}
 | .leg v=>{V with mS:=V.mS++[v],calls:=V.calls.modify v.i (·.go v.g)}
 | .asks _ _ _=>V
 | .next z n=>{V with ps:=zY V.ps z n}
 | .merge i j ms=>{V with calls:=(V.calls.modify i (·.over "merged")).modify j (·.mem ms),mS:=V.mS.map (rY.to i j)}
 | .turn=>{V with t:=V.t+1,calls:=V.calls.map pj.tick}
 | .sw b i=>{V with on:=V.on.set i b}
 | .rings i ps=>xN V i (·.ring ps)
 | .quiet i=>xN V i pj.nI
 | .waits i x=>xN V i (·.wait x)
 | .talks i ms=>xN V i (·.nC ms)
 | .held i x=>xN V i (·.hold x)
 | .leaves i x=>xN V i (·.drop x)
 | .over i w=>xN V i (·.over w)
noncomputable def qa(V:qu)(e:Ev):qu:=To (qM V e) e
noncomputable def qC(V:qu)(es:T0 Ev):qu:=es.foldl qa V
def Ev.ok(V:qu):Ev->Prop
 | .new _ _=>True
 | .leg v=>v.i<V.calls.length
 | .asks _ _ _=>True
 | .next _ _=>True
 | .merge i j ms=>i<V.calls.length/\j<V.calls.length/\i≠j/\ms.length<=100
 | .turn=>True
 | .sw _ i=>i<V.on.length
 | .rings i ps=>i<V.calls.length/\ps.length<=100
 | .quiet i=>i<V.calls.length
 | .waits i _=>i<V.calls.length
 | .talks i ms=>i<V.calls.length/\ms.length<=100
 | .held i _=>i<V.calls.length
 | .leaves i _=>i<V.calls.length
 | .over i _=>i<V.calls.length
def rC(V:qu)(es fs:T0 Ev):qC V (es++fs)=qC (qC V es) fs:=lj ..
theorem Jg:∀(es:T0 Ev) (V:qu),(qC V es).log=V.log++es
 | [],V=>(e9 _).symm
 | e::r,V=>by
  show(qC (qa V e) r).log=_;rw[Jg r];have:(qa V e).log=V.log++[e]:=by cases e<;>rfl
  rw[this,fj];rfl
noncomputable def pj.mM(c:pj)(x:Str):Bool:=(c.st=="talks")&&hasS c.ms x
noncomputable def pj.hasB(c:pj)(x:Str):Bool:=if (c.st=="rings")=pc then(x==c.cr)||hasS c.at_ x else if (c.st=="waits")=pc then x==c.cr else(c.st=="talks"||c.st=="held")&&hasS c.ms x
noncomputable def pj.m8(c:pj)(x:Str):Bool:=if (c.st=="held")=pc then hasS c.ms x&&!((c.hd==Fa x))else c.mM x
noncomputable def pj.mR(c:pj)(x:Str):Bool:=(c.st=="rings"||c.st=="waits")&&(x==c.cr)
noncomputable def pj.mK(c:pj)(x:Str):Bool:=(c.st=="waits")&&hasS c.at_ x
noncomputable def pj.nB(c:pj)(x:Str):Bool:=c.mR x||(hasS c.at_ x||hasS c.ms x)
noncomputable def pj.mT(c:pj)(x:Str):Bool:=c.mM x&&(c.ms.length==2)
noncomputable def uk(V:qu)(x:Str):Nat:=(V.calls.filter (·.hasB x)).length
noncomputable def wQ(l:pC)(x:Str):Int:=(l.mV x).elim 0 λv=>v.2.1
noncomputable def tW(l:pC)(x:Str):Int:=(l.mV x).elim 0 λv=>v.2.2
noncomputable def sZ(l:pC)(V:qu)(x:Str):Bool:=decide ((uk V x:Int)<wQ l x)
noncomputable def sQ(l:pC)(V:qu)(c z:Str):QQQ:=(l.mE z).filter λx=>!(x==c)&&sZ l V x
noncomputable def tN(l:pC)(V:qu)(c z:Str):Bool:=(sQ l V c z).isEmpty
noncomputable def vE(V:qu)(x:Str):Option Nat:=V.calls.findIdx? (·.mM x)
noncomputable def E9(V:qu)(x:Str):Option Nat:=V.calls.findIdx? (·.m8 x)
noncomputable def IF(V:qu)(x:Str):Option Nat:=V.calls.findIdx? (·.mR x)
noncomputable def wC(V:qu)(x:Str):Bool:=V.calls.any (·.mK x)
noncomputable def O6:Option Nat->D
 | none=>.mL
 | some j=>.int (j:Nat)
noncomputable def yd(f l h:Int):Bool:=if f<l then decide (f<=h)&&decide (h<l)else decide (h>=f)||decide (h<l)
noncomputable def Cz(l:pC)(x:Str)(ms:QQQ):Bool:=ms.all λm=>decide (tW l m<tW l x)
noncomputable def Bq(l:pC)(V:qu)(x c z:Str):Bool:=if (!(c==x)||(z==x))=pc then lf else if (!(hasS l.pn z)||!(tN l V c z))=pc then lf else((vE V z).bind (V.calls[·]?)).elim lf λk=>(k.ms.length==2)&&Cz l x k.ms
noncomputable def zD(l:pC)(V:qu)(c z:Str):Wi->Bool
 | .bar x ns=>(c==x)&&hasS ns z
 | .shut x ns=>(z==x)&&hasS ns c
 | .always x _=>z==x
 | .night x _ f m=>(z==x)&&yd f m ((V.h+V.t) % 24)
 | .busy x _=>(z==x)&&tN l V c z
 | .silent _ _ _=>lf
 | .wait x=>if (!(z==x)||(c==x))=pc then lf else tN l V c z&&!(wC V z)
 | .breaks x=>Bq l V x c z
noncomputable def FR(c:pj):Wi->Bool
 | .silent x _ n=>(c.way.getLast?==Fa x)&&decide (n<=c.si)
 | _=>lf
noncomputable def Hd(l:pC)(V:qu)(f:Wi->Bool):T0 Nat:=(List.range V.on.length).filter λi=>V.on.getD i lf&&(l.mG[i]?).elim lf λw=>f w.2
noncomputable def DV(l:pC)(V:qu)(c z:Str):T0 Nat:=Hd l V (zD l V c z)
noncomputable def uW(ms:QQQ)(n:Nat):QQQ:=ms.drop n++ms.take n
noncomputable def zv(V:qu)(z:Str):Nat:=((V.ps.find? λp=>decide (p.1=z)).elim 0 λp=>p.2).toNat
noncomputable def xE(l:pC)(V:qu)(c z:Str):QQQ:=if (l.mP z=="turns")=pc then((uW (l.mE z) (zv V z)).filter λx=>hasS (sQ l V c z) x).take 1 else sQ l V c z
inductive vK
 | engaged (z:Str)
 | rings (z:Str) (ps:QQQ)
 | waits (z:Str)
 | breaks (z:Str)
 | barred
 | ring (ns:QQQ)
noncomputable def vK.d:vK->D
 | .engaged z=>.tup [.str "engaged",.str z]
 | .rings z ps=>.tup [.str "rings",.str z,names ps]
 | .waits z=>.tup [.str "waits",.str z]
 | .breaks z=>.tup [.str "breaks",.str z]
 | .barred=>.tup [.str "barred"]
 | .ring ns=>.tup [.str "ring",names ns]
noncomputable def G4(l:pC)(V:qu)(c z:Str):vK:=match xE l V c z with
 | []=>.engaged z
 | x::r=>.rings z (x::r)
noncomputable def IP(z:Str):Wi->Sum vK Str
 | .bar _ _=>.inl .barred
 | .shut _ _=>.inl .barred
 | .always _ y=>.inr y
 | .night _ y _ _=>.inr y
 | .busy _ y=>.inr y
 | .silent _ y _=>.inr y
 | .wait _=>.inl (.waits z)
 | .breaks _=>.inl (.breaks z)
abbrev tz:=T0 (Str×T0 Nat)
noncomputable def xh(l:pC)(V:qu)(c:Str):Nat->Str->QQQ->tz->vK×tz
 | 0,_,_,st=>(.barred,st)
 | n+1,z,way,st=>if hasS way z=pc then(.ring (way.drop (way.findIdx (·==z))),st)else
  match DV l V c z with
  | []=>(G4 l V c z,st++[(z,[])])
  | i::r=>(l.mG[i]?).elim (.barred,st) λw=>match IP z w.2 with
   | .inl e=>(e,st++[(z,i::r)])
   | .inr y=>xh l V c n y (way++[z]) (st++[(z,i::r)])
noncomputable def uZ(l:pC)(V:qu)(c z:Str)(way:QQQ):vK×tz:=xh l V c (l.nm.length+1) z way []
noncomputable def rF(i:Nat):Option Str->tz->T0 Ev
 | _,[]=>[]
 | none,(z,fs)::r=>.asks i z fs::rF i (Fa z) r
 | some y,(z,fs)::r=>.leg ⟨i,y,z,y⟩::.asks i z fs::rF i (Fa z) r
noncomputable def PN(ms:QQQ)(x:Str):Int:=((ms.findIdx (·==x):Nat)+1) % (ms.length:Int)
noncomputable def sH(l:pC)(V:qu)(i:Nat):vK->T0 Ev
 | .rings z ps=>(if (l.mP z=="turns")=pc then[.next z (PN (l.mE z) (ps.headD Str.empty))]else[])++[.rings i ps]
 | .waits z=>[.waits i z]
 | .breaks z=>match vE V z,V.calls[i]? with
  | some j,Fa c=>[.merge i j ((V.calls[j]?).elim [] (·.ms)++[c.cr])]
  | _,_=>[]
 | .engaged _=>[.over i "engaged"]
 | .barred=>[.over i "barred"]
 | .ring _=>[.over i "ring"]
noncomputable def tX(i:Nat)(st:tz):vK->T0 Ev
 | .ring ns=>(st.getLast?).elim [] λs=>[.leg ⟨i,s.1,ns.headD Str.empty,s.1⟩]
 | _=>[]
noncomputable def vA(l:pC)(V:qu)(i:Nat):T0 Ev:=(V.calls[i]?).elim [] λc=>
 let r:=uZ l V c.cr (c.way.getLastD Str.empty) c.way.dropLast
 rF i Db r.2++(tX i r.2 r.1++sH l V i r.1)
noncomputable def A9(l:pC)(V:qu)(y z:Str):T0 Ev:=
 let es:=[Ev.new V.calls.length y,.leg ⟨V.calls.length,y,z,y⟩]
 es++vA l (qC V es) V.calls.length
noncomputable def vc(V:qu)(x:Str)(i:Nat):T0 Ev:=(V.calls[i]?).elim [] λc=>if c.mR x=pc then[.over i "left"]else if hasS c.at_ x=pc then .leaves i x::(if rE c.at_ x=[]then[.over i "refused"]else[])else if 2<c.ms.length then[.leaves i x]else[.over i "done"]
noncomputable def sW(l:pC)(V:qu)(i:Nat)(fs:T0 Nat):T0 Ev:=match fs.head?.bind (l.mG[·]?)with
 | some (_,.silent x y _)=>
  let es:=[Ev.asks i x fs,.quiet i,.leg ⟨i,x,y,x⟩]
  es++vA l (qC V es) i
 | _=>[]
noncomputable def zH(l:pC)(V:qu)(i:Nat):T0 Nat:=(V.calls[i]?).elim [] λc=>if (c.st=="rings")=pc then Hd l V (FR c)else[]
noncomputable def rg(l:pC):T0 Nat->qu->T0 Ev
 | [],_=>[]
 | i::r,V=>sW l V i (zH l V i)++rg l r (qC V (sW l V i (zH l V i)))
noncomputable def D4(l:pC)(V:qu):T0 Ev:=.turn::rg l (List.range V.calls.length) (qa V .turn)
inductive tQ
 | call (y z:Str)
 | num (w x:Str) (ns:List Int)
 | turn
 | sw (b:Bool) (i:Int)
noncomputable def tQ.d:tQ->D
 | .call y z=>.tup [.str "call",.str y,.str z]
 | .num w x ns=>.tup (.str w::.str x::ns.map D.int)
 | .turn=>.tup [.str "turn"]
 | .sw b i=>.tup [.str (SZ b),.int i]
def tQ.nq:tQ->Prop
 | .num w _ ns=>((w="answer"\/w="hang"\/w="hold"\/w="back")/\ns.length=1)\/((w="hand"\/w="join")/\ns.length=2)
 | _=>True
noncomputable def uA(V:qu)(x:Str):Option Str:=if (E9 V x).isSome=pc then Fa "bound" else if (IF V x).isSome=pc then Fa "calls" else Db
noncomputable def yS(n:Nat)(i:Int):Bool:=decide (0<=i)&&decide (i<(n:Int))
noncomputable def IW(w x:Str):List pj->Bool
 | []=>lf
 | c::r=>if (w=="answer")=pc then hasS c.at_ x else if (w=="hang")=pc then c.nB x else if (w=="hold")=pc then c.mT x else if (w=="back")=pc then c.hd==Fa x else(c.hd==Fa x)&&(r.head?.elim lf λd=>d.mT x)
noncomputable def tE(V:qu)(ns:T0 Int):List pj:=ns.filterMap λi=>V.calls[i.toNat]?
noncomputable def Gi(l:pC)(V:qu)(y z:Str):Option Str:=if hasS l.nm z=lf then Fa "name" else if ((uA V y).isNone&&!(sZ l V y))=pc then Fa "full" else uA V y
noncomputable def Lg(l:pC)(V:qu)(w x:Str)(ns:T0 Int):Option Str:=if ns.all (yS V.calls.length)=lf then Fa "call" else if IW w x (tE V ns)=lf then Fa "call" else if (w=="answer"||w=="back")=lf then Db else
 if ((uA V x).isNone&&((tE V ns).head?.elim lf (λc=>c.mK x)&&!(sZ l V x)))=pc then Fa "full" else uA V x
noncomputable def Pr(V:qu)(b:Bool)(i:Int):Option Str:=if yS V.on.length i=lf then Fa "wish" else if (V.on.getD i.toNat lf==b)=pc then Fa "wish" else Db
noncomputable def xi(l:pC)(V:qu):tQ->Option Str
 | .turn=>Db
 | .sw b i=>Pr V b i
 | .call y z=>if hasS l.pn y=lf then Fa "name" else Gi l V y z
 | .num w x ns=>if hasS l.pn x=lf then Fa "name" else Lg l V w x ns
noncomputable def qy(c:pj)(x:Str):Str:=(rE c.ms x).headD Str.empty
noncomputable def xt(V:qu)(w x:Str)(i:Nat):Ev:=(V.calls[i]?).elim .turn λc=>if (w=="answer")=pc then .talks i [c.cr,x]else if (w=="hold")=pc then .held i x else .talks i c.ms
noncomputable def Bx(V:qu)(w x:Str)(i j:Nat):Ev:=(V.calls[i]?).elim .turn λc=>(V.calls[j]?).elim .turn λd=>.merge i j (if (w=="hand")=pc then[qy c x,qy d x]else[x,qy c x,qy d x])
noncomputable def vw(l:pC)(V:qu):tQ->T0 Ev
 | .call y z=>A9 l V y z
 | .num w x [i]=>if (w=="hang")=pc then vc V x i.toNat else[xt V w x i.toNat]
 | .num w x [i,j]=>[Bx V w x i.toNat j.toNat]
 | .num _ _ _=>[]
 | .turn=>D4 l V
 | .sw b i=>[.sw b i.toNat]
structure rh where
 p:Uf
 wy:Uf
structure tM where
 b:Uf
 ca:Uf
 le:Uf
 nx:Uf
 on:Uf
 lo:Uf
 cs:List rh
noncomputable def Gw:Option Str->D
 | none=>.mL
 | some x=>.str x
noncomputable def ra(c:pj)(wy ad md:Uf):T0 (Str×D):=[("state",.str c.st),("caller",.str c.cr),("way",.ref wy),("at",.ref ad),("members",.ref md),("holder",Gw c.hd),("since",.int c.si),("word",Gw c.wd)]
noncomputable def tP(p:D)(h t:Int)(ca le nx on lo:Uf):T0 (Str×D):=[("plan",p),("hour",.int h),("turn",.int t),("calls",.ref ca),("legs",.ref le),("nexts",.ref nx),("on",.ref on),("log",.ref lo)]
noncomputable def rK(ps:T0 (Str×Int)):T0 (qZ×D):=ps.map λp=>((Sum.inr p.1:qZ),D.int p.2)
noncomputable def tM.lists(A:tM):QXQ:=A.ca::A.le::A.on::A.lo::A.cs.map (·.wy)
noncomputable def tM.foot(A:tM):QXQ:=A.b::A.nx::(A.lists++A.cs.map (·.p))
def rM(a:Ad)(M:Mp)(L:QXQ)(k:rh)(c:pj):Prop:=CW λad md=>M k.p=Fa (.ins a.e (ra c k.wy ad md))/\oK M k.wy=Fa (c.way.map D.str)/\oK M ad=Fa (c.at_.map D.str)/\oK M md=Fa (c.ms.map D.str)/\ad∉L/\md∉L
structure pH(a:Ad)(M:Mp)(A:tM)(V:qu):Prop where
 at_:M A.b=Fa (.ins a.c (tP (.ref V.p) V.h V.t A.ca A.le A.nx A.on A.lo))
 ca:oK M A.ca=Fa (A.cs.map λk=>D.ref k.p)
 le:oK M A.le=Fa (V.mS.map rY.d)
 nx:yA M A.nx=Fa (rK V.ps)
 on:oK M A.on=Fa (V.on.map D.bl)
 lo:oK M A.lo=Fa (V.log.map Ev.d)
 len:A.cs.length=V.calls.length
 cs:∀(i:Nat) k c,A.cs[i]?=Fa k->V.calls[i]?=Fa c->rM a M (A.lists++V.fo) k c
 nl:A.lists.Nodup
 np:(A.b::A.cs.map (·.p)).Nodup
 fo:∀x∈V.fo,∃c,M x=Fa c
def xj{F:QXQ}{M:Mp}{p:Uf}{c:uR}(h:∀x∈F,∃c,M x=Fa c):∀x∈F,∃d,pB M p c x=Fa d:=λx hx=>by
 by_cases z:x=p
 .exact⟨c,by rw[z];exact pL⟩
 .obtain⟨d,e⟩:=h x hx;exact⟨d,sm.put x d z e⟩
def rM.sub{k:rh}{c:pj}(h:rM a M L k c)(s:qo M M'):rM a M' L k c:=by obtain⟨ad,md,h1,h2,h3,h4,h5⟩:=h;exact⟨ad,md,s _ _ h1,s.lst h2,s.lst h3,s.lst h4,h5⟩
def pH.sub{A:tM}{V:qu}(h:pH a M A V)(s:qo M M'):pH a M' A V:=⟨s _ _ h.at_,s.lst h.ca,s.lst h.le,s.dk h.nx,s.lst h.on,s.lst h.lo,h.len,λi k c e1 e2=>(h.cs i k c e1 e2).sub s,h.nl,h.np,λx hx=>(h.fo x hx).imp λc e=>s x c e⟩
def rM.nR{k:rh}{c:pj}{x:Uf}{ds:T0 D}(h:rM a M L k c)(kp:sm x M M')(hl:oK M x=Fa ds)(hx:x∈L)(hn:k.wy≠x):rM a M' L k c:=by obtain⟨ad,md,h1,h2,h3,h4,h5,h6⟩:=h;exact⟨ad,md,kp _ _ (λz=>by rw[z,qm hl]at h1;cases h1) h1,kp.lst hn h2,kp.lst (λz=>h5 (z ▸ hx)) h3,kp.lst (λz=>h6 (z ▸ hx)) h4,h5,h6⟩
def rM.nY{k:rh}{c:pj}{x C:Uf}{fs:T0 (Str×D)}(h:rM a M L k c)(kp:sm x M M')(hi:M x=Fa (.ins C fs))(hn:k.p≠x):rM a M' L k c:=by obtain⟨ad,md,h1,h2,h3,h4,h5⟩:=h;exact⟨ad,md,kp _ _ hn h1,kp.lst (pO h2 hi) h2,kp.lst (pO h3 hi) h3,kp.lst (pO h4 hi) h4,h5⟩
def uT{a p:Uf}{ds:T0 (qZ×D)}{es:T0 D}(h:yA M a=Fa ds)(hp:oK M p=Fa es):a≠p:=λz=>by subst z;unfold yA at h;rw[qm hp]at h;cases h
def rM.oR{k:rh}{c:pj}{x:Uf}{ds:T0 (qZ×D)}(h:rM a M L k c)(kp:sm x M M')(hd:yA M x=Fa ds):rM a M' L k c:=by obtain⟨ad,md,h1,h2,h3,h4,h5⟩:=h;exact⟨ad,md,kp _ _ (λz=>by rw[z,yU hd]at h1;cases h1) h1,kp.lst (dG (uT hd h2)) h2,kp.lst (dG (uT hd h3)) h3,kp.lst (dG (uT hd h4)) h4,h5⟩
def qJ{α:Type}{l:List α}{i:Nat}{x:α}(h:l[i]?=Fa x):x∈l:=fY h
def pH.ne{A:tM}{V:qu}(h:pH a M A V):A.ca≠A.le/\A.ca≠A.on/\A.ca≠A.lo/\A.le≠A.on/\A.le≠A.lo/\A.on≠A.lo/\∀k∈A.cs,k.wy≠A.ca/\k.wy≠A.le/\k.wy≠A.on/\k.wy≠A.lo:=by
 have n:=h.nl;unfold tM.lists at n;obtain⟨n1,n⟩:=dW.mp n;obtain⟨n2,n⟩:=dW.mp n;obtain⟨n3,n⟩:=dW.mp n;obtain⟨n4,n⟩:=dW.mp n;have w:∀k∈A.cs,k.wy∈A.cs.map (·.wy):=λk hk=>dD.mpr ⟨k,hk,rfl⟩;refine⟨λz=>n1 (z ▸ by simp),λz=>n1 (z ▸ by simp),λz=>n1 (z ▸ by simp),λz=>n2 (z ▸ by simp),λz=>n2 (z ▸ by simp),λz=>n3 (z ▸ by simp),λk hk=>⟨λz=>n1 ?_,λz=>n2 ?_,λz=>n3 ?_,λz=>n4 ?_⟩⟩
 .rw[<-z];exact dH _ (dH _ (dH _ (w k hk)))
 .rw[<-z];exact dH _ (dH _ (w k hk))
 .rw[<-z];exact dH _ (w k hk)
 .rw[<-z];exact w k hk
def pH.oB{A:tM}{V:qu}(_:pH a M A V):A.ca∈A.lists/\A.le∈A.lists/\A.lo∈A.lists/\(∀k∈A.cs,k.wy∈A.lists)/\A.on∈A.lists:=by unfold tM.lists;refine⟨by simp,by simp,by simp,?_,by simp⟩;exact λk hk=>by simp;exact .inr (.inr (.inr (.inr ⟨k,hk,rfl⟩)))
def pH.oP{A:tM}{V:qu}(h:pH a M A V):A.ca∈A.lists++V.fo/\A.le∈A.lists++V.fo/\A.lo∈A.lists++V.fo/\(∀k∈A.cs,k.wy∈A.lists++V.fo)/\A.on∈A.lists++V.fo:=by obtain⟨h1,h2,h3,h4,h5⟩:=h.oB;exact⟨fF _ h1,fF _ h2,fF _ h3,λk hk=>fF _ (h4 k hk),fF _ h5⟩
def qQ(A:tM)(M:Mp)(A':tM)(M':Mp):Prop:=(∀x c,x∉A.foot->M x=Fa c->M' x=Fa c)/\(∀x∈A'.foot,x∈A.foot\/M x=Db)/\(∀(i:Nat) k,A.cs[i]?=Fa k->A'.cs[i]?=Fa k)/\∀x c,M x=Fa c->∃d,M' x=Fa d
def Ff{M:Mp}{p y:Uf}{c d:uR}(h:M y=Fa d):∃e,pB M p c y=Fa e:=by
 by_cases z:y=p
 .exact⟨c,by rw[z];exact pL⟩
 .exact⟨d,sm.put y d z h⟩
def qQ.refl{A:tM}:qQ A M A M:=⟨λ_ _ _ h=>h,λ_ h=>.inl h,λ_ _ h=>h,λ_ c h=>⟨c,h⟩⟩
def qQ.trans{A A1 A2:tM}{M M1 M2:Mp}(s:qQ A M A1 M1)(u:qQ A1 M1 A2 M2):qQ A M A2 M2:=by
 refine⟨λx c n h=>u.1 x c (λz=>?_) (s.1 x c n h),λx hx=>?_,λi k h=>u.2.2.1 i k (s.2.2.1 i k h),λx c h=>(s.2.2.2 x c h).elim λd e=>u.2.2.2 x d e⟩
 .rcases s.2.1 x z with y|y
  .exact n y
  .rw[y]at h;cases h
 .rcases u.2.1 x hx with z|z
  .exact s.2.1 x z
  .by_cases y:x∈A.foot
   .exact .inl y
   .refine .inr ?_;cases e:M x with
    | none=>rfl
    | some c=>rw[s.1 x c y e]at z;cases z
def qQ.keep{A:tM}{x:Uf}{c:uR}(h:x∈A.foot)(k:sm x M (pB M x c)):qQ A M A (pB M x c):=⟨λy c n e=>k y c (λz=>n (z ▸ h)) e,λ_ h=>.inl h,λ_ _ h=>h,λ_ _ h=>Ff h⟩
def qQ.sub{A:tM}(s:qo M M'):qQ A M A M':=⟨λy c _ e=>s y c e,λ_ h=>.inl h,λ_ _ h=>h,λx c h=>⟨c,s x c h⟩⟩
def tM.mU(A:tM):A.b∈A.foot/\A.nx∈A.foot/\A.ca∈A.foot/\A.le∈A.foot/\A.lo∈A.foot/\(∀k∈A.cs,k.p∈A.foot)/\∀k∈A.cs,k.wy∈A.foot:=by unfold tM.foot tM.lists;exact⟨by simp,by simp,by simp,by simp,by simp,λk hk=>by simp;exact .inr (.inr (.inr (.inr (.inr (.inr (.inr ⟨k,hk,rfl⟩)))))),λk hk=>by simp;exact .inr (.inr (.inr (.inr (.inr (.inr (.inl ⟨k,hk,rfl⟩))))))⟩
def tM.nO(A:tM){x:Uf}(h:x∈A.lists):x∈A.foot:=by unfold tM.foot;exact dH _ (dH _ (dR.mpr (.inl h)))
variable {M M1:Mp}{A:tM}{V:qu}
def Ee{α:Type}{l:List α}{i j:Nat}{x y:α}(h:(l.set i x)[j]?=Fa y):(j=i/\y=x/\i<l.length)\/(j≠i/\l[j]?=Fa y):=by
 by_cases z:j=i
 .subst z;by_cases hl:j<l.length
  .rw[fJ hl]at h;exact .inl ⟨rfl,(dv h).symm,hl⟩
  .rw[hW (by rw[ik];omega)]at h;cases h
 .rw[fG (dG z)]at h;exact .inr ⟨z,h⟩
def B9{α β:Type}{f:α->β}{l:List α}{i j:Nat}{x y:α}(nd:(l.map f).Nodup)(h1:l[i]?=Fa x)(h2:l[j]?=Fa y)(e:f x=f y):i=j:=by
 have e1:(l.map f)[i]?=Fa (f x):=by rw[dF,h1];rfl
 have e2:(l.map f)[j]?=Fa (f y):=by rw[dF,h2];rfl
 obtain⟨l1,q1⟩:=cZ.mp e1;obtain⟨l2,q2⟩:=cZ.mp e2;exact(lD nd).mp (q1.trans (e.trans q2.symm))
def pH.nw(h:pH a M A V):(A.cs.map (·.wy)).Nodup:=(dW.mp (dW.mp (dW.mp (dW.mp h.nl).2).2).2).2
def pH.oM(h:pH a M A V):(A.cs.map (·.p)).Nodup/\∀k∈A.cs,k.p≠A.b:=⟨(dW.mp h.np).2,λk hk z=>(dW.mp h.np).1 (z ▸ dD.mpr ⟨k,hk,rfl⟩)⟩
def pH.oi(h:pH a M A V){es:T0 Ev}:pH a (pB M A.lo (.lst (es.map Ev.d))) A {V with log:=es}/\qQ A M A (pB M A.lo (.lst (es.map Ev.d))):=by have kp:sm A.lo M (pB M A.lo (.lst (es.map Ev.d))):=.put;obtain⟨n1,n2,n3,n4,n5,n6,nw⟩:=h.ne;exact⟨⟨kp _ _ (dG (pO h.lo h.at_)) h.at_,kp.lst n3 h.ca,kp.lst n5 h.le,kp.dk (uT h.nx h.lo) h.nx,kp.lst n6 h.on,pz,h.len,λi k c e1 e2=>(h.cs i k c e1 e2).nR kp h.lo h.oP.2.2.1 (nw k (qJ e1)).2.2.2,h.nl,h.np,xj h.fo⟩,.keep A.mU.2.2.2.2.1 kp⟩
def pH.oq(h:pH a M A V){es:List rY}:pH a (pB M A.le (.lst (es.map rY.d))) A {V with mS:=es}/\qQ A M A (pB M A.le (.lst (es.map rY.d))):=by have kp:sm A.le M (pB M A.le (.lst (es.map rY.d))):=.put;obtain⟨n1,n2,n3,n4,n5,n6,nw⟩:=h.ne;exact⟨⟨kp _ _ (dG (pO h.le h.at_)) h.at_,kp.lst n1 h.ca,pz,kp.dk (uT h.nx h.le) h.nx,kp.lst (dG n4) h.on,kp.lst (dG n5) h.lo,h.len,λi k c e1 e2=>(h.cs i k c e1 e2).nR kp h.le h.oP.2.1 (nw k (qJ e1)).2.1,h.nl,h.np,xj h.fo⟩,.keep A.mU.2.2.2.1 kp⟩
def pH.oG(h:pH a M A V){bs:T0 Bool}:pH a (pB M A.on (.lst (bs.map D.bl))) A {V with on:=bs}/\qQ A M A (pB M A.on (.lst (bs.map D.bl))):=by have kp:sm A.on M (pB M A.on (.lst (bs.map D.bl))):=.put;obtain⟨n1,n2,n3,n4,n5,n6,nw⟩:=h.ne;exact⟨⟨kp _ _ (dG (pO h.on h.at_)) h.at_,kp.lst n2 h.ca,kp.lst n4 h.le,kp.dk (uT h.nx h.on) h.nx,pz,kp.lst (dG n6) h.lo,h.len,λi k c e1 e2=>(h.cs i k c e1 e2).nR kp h.on h.oP.2.2.2.2 (nw k (qJ e1)).2.2.1,h.nl,h.np,xj h.fo⟩,.keep (A.nO h.oB.2.2.2.2) kp⟩
def pH.oF(h:pH a M A V){ps:T0 (Str×Int)}:pH a (pB M A.nx (.dk (rK ps))) A {V with ps:=ps}/\qQ A M A (pB M A.nx (.dk (rK ps))):=by have kp:sm A.nx M (pB M A.nx (.dk (rK ps))):=.put;exact⟨⟨kp _ _ (dG (B7 h.nx h.at_)) h.at_,kp.lst (dG (uT h.nx h.ca)) h.ca,kp.lst (dG (uT h.nx h.le)) h.le,Ao pL,kp.lst (dG (uT h.nx h.on)) h.on,kp.lst (dG (uT h.nx h.lo)) h.lo,h.len,λi k c e1 e2=>(h.cs i k c e1 e2).oR kp h.nx,h.nl,h.np,xj h.fo⟩,.keep A.mU.2.1 kp⟩
def pH.putT(h:pH a M A V){t:Int}:pH a (pB M A.b (.ins a.c (tP (.ref V.p) V.h t A.ca A.le A.nx A.on A.lo))) A {V with t:=t}/\qQ A M A (pB M A.b (.ins a.c (tP (.ref V.p) V.h t A.ca A.le A.nx A.on A.lo))):=by have kp:sm A.b M (pB M A.b (.ins a.c (tP (.ref V.p) V.h t A.ca A.le A.nx A.on A.lo))):=.put;exact⟨⟨pL,kp.lst (pO h.ca h.at_) h.ca,kp.lst (pO h.le h.at_) h.le,kp.dk (B7 h.nx h.at_) h.nx,kp.lst (pO h.on h.at_) h.on,kp.lst (pO h.lo h.at_) h.lo,h.len,λi k c e1 e2=>(h.cs i k c e1 e2).nY kp h.at_ (h.oM.2 k (qJ e1)),h.nl,h.np,xj h.fo⟩,.keep A.mU.1 kp⟩
def pH.oa(h:pH a M A V){i:Nat}{k:rh}{c c':pj}{ad md:Uf}(e1:A.cs[i]?=Fa k)(e2:V.calls[i]?=Fa c)(ew:c'.way=c.way)(la:oK M ad=Fa (c'.at_.map D.str))(lm:oK M md=Fa (c'.ms.map D.str))(na:ad∉A.lists++V.fo)(nm:md∉A.lists++V.fo):
  pH a (pB M k.p (.ins a.e (ra c' k.wy ad md))) A {V with calls:=V.calls.set i c'}/\qQ A M A (pB M k.p (.ins a.e (ra c' k.wy ad md))):=by
 have kp:sm k.p M (pB M k.p (.ins a.e (ra c' k.wy ad md))):=.put;obtain⟨_,_,h1,h2,_⟩:=h.cs i k c e1 e2;refine⟨⟨kp _ _ (dG (h.oM.2 k (qJ e1))) h.at_,kp.lst (pO h.ca h1) h.ca,kp.lst (pO h.le h1) h.le,kp.dk (B7 h.nx h1) h.nx,kp.lst (pO h.on h1) h.on,kp.lst (pO h.lo h1) h.lo,by rw[h.len,ik],λj k' d f1 f2=>?_,h.nl,h.np,xj h.fo⟩,.keep (A.mU.2.2.2.2.2.1 k (qJ e1)) kp⟩;rcases Ee f2 with⟨rfl,rfl,_⟩|⟨hj,f2⟩
 .rw[e1]at f1;cases f1;exact⟨ad,md,pL,by rw[ew];exact kp.lst (pO h2 h1) h2,kp.lst (pO la h1) la,kp.lst (pO lm h1) lm,na,nm⟩
 .exact(h.cs j k' d f1 f2).nY kp h1 λz=>hj (B9 h.oM.1 f1 e1 z)
def pH.oj(h:pH a M A V){i:Nat}{k:rh}{c:pj}{ws:QQQ}(e1:A.cs[i]?=Fa k)(e2:V.calls[i]?=Fa c):
  pH a (pB M k.wy (.lst (ws.map D.str))) A {V with calls:=V.calls.set i {c with way:=ws}}/\qQ A M A (pB M k.wy (.lst (ws.map D.str))):=by
 have kp:sm k.wy M (pB M k.wy (.lst (ws.map D.str))):=.put;obtain⟨ad,md,h1,h2,h3,h4,h5,h6⟩:=h.cs i k c e1 e2;obtain⟨n1,n2,n3,n4,n5,n6,nw⟩:=h.ne;obtain⟨w1,w2,w3,w4⟩:=nw k (qJ e1);have kL:=h.oP.2.2.2.1 k (qJ e1);refine⟨⟨kp _ _ (dG (pO h2 h.at_)) h.at_,kp.lst (dG w1) h.ca,kp.lst (dG w2) h.le,kp.dk (uT h.nx h2) h.nx,kp.lst (dG w3) h.on,kp.lst (dG w4) h.lo,by rw[h.len,ik],λj k' d f1 f2=>?_,h.nl,h.np,xj h.fo⟩,.keep (A.mU.2.2.2.2.2.2 k (qJ e1)) kp⟩;rcases Ee f2 with⟨rfl,rfl,_⟩|⟨hj,f2⟩
 .rw[e1]at f1;cases f1;exact⟨ad,md,kp _ _ (dG (pO h2 h1)) h1,pz,kp.lst (λz=>h5 (z ▸ kL)) h3,kp.lst (λz=>h6 (z ▸ kL)) h4,h5,h6⟩
 .exact(h.cs j k' d f1 f2).nR kp h2 kL λz=>hj (B9 h.nw f1 e1 z)
noncomputable def tM.add(A:tM)(k:rh):tM:={A with cs:=A.cs++[k]}
def Aa(A:tM)(k:rh):(A.add k).lists=A.lists++[k.wy]:=by unfold tM.add tM.lists;rw[dU];rfl
def pH.dom(h:pH a M A V):(∀x∈A.lists,∃ds,oK M x=Fa ds)/\∀x∈A.foot,∃c,M x=Fa c:=by
 have hc:∀k∈A.cs,(∃ds,oK M k.wy=Fa ds)/\∃c,M k.p=Fa c:=λk hk=>by
  obtain⟨i,hi,e⟩:=fM hk;have e1:A.cs[i]?=Fa k:=by rw[cX hi,e]
  have XM:i<V.calls.length:=by rw[<-h.len];exact hi
  have e2:V.calls[i]?=Fa V.calls[i]:=cX XM;obtain⟨ad,md,h1,h2,_⟩:=h.cs i k _ e1 e2;exact⟨⟨_,h2⟩,_,h1⟩
 have hl:∀x∈A.lists,∃ds,oK M x=Fa ds:=λx hx=>by
  unfold tM.lists at hx;simp only[c9,dD]at hx;rcases hx with rfl|rfl|rfl|rfl|⟨k,hk,rfl⟩
  .exact⟨_,h.ca⟩
  .exact⟨_,h.le⟩
  .exact⟨_,h.on⟩
  .exact⟨_,h.lo⟩
  .exact(hc k hk).1
 refine⟨hl,λx hx=>?_⟩;unfold tM.foot at hx;simp only[c9,dR,dD]at hx;rcases hx with rfl|rfl|hx|⟨k,hk,rfl⟩
 .exact⟨_,h.at_⟩
 .exact⟨_,yU h.nx⟩
 .obtain⟨ds,e⟩:=hl x hx;exact⟨_,qm e⟩
 .exact(hc k hk).2
def pH.nX(h:pH a M A V){x:Uf}(hx:M x=Db):x∉A.lists:=λz=>by obtain⟨ds,e⟩:=h.dom.1 x z;have:=qm e;rw[hx]at this;cases this
def pH.nk(h:pH a M A V){x:Uf}(hx:M x=Db):x∉A.lists++V.fo:=λz=>by
 rcases dR.mp z with z|z
 .exact h.nX hx z
 .obtain⟨c,e⟩:=h.fo x z;rw[hx]at e;cases e
def pH.nV(h:pH a M A V){x:Uf}(hx:M x=Db):x∉A.foot:=λz=>by obtain⟨ds,e⟩:=h.dom.2 x z;rw[hx]at e;cases e
def pH.nZ(h:pH a M A V)(s:qo M M1){p wy ad md:Uf}{c:pj}(hp:M p=Db)(hw:M wy=Db)(ha:M ad=Db)(hm:M md=Db)(h1:M1 p=Fa (.ins a.e (ra c wy ad md)))(h2:oK M1 wy=Fa (c.way.map D.str))(h3:oK M1 ad=Fa (c.at_.map D.str))(h4:oK M1 md=Fa (c.ms.map D.str))(n1:ad≠wy)(n2:md≠wy):
  pH a (pB M1 A.ca (.lst ((A.cs.map λk=>D.ref k.p)++[.ref p]))) (A.add ⟨p,wy⟩) {V with calls:=V.calls++[c]}/\qQ A M (A.add ⟨p,wy⟩) (pB M1 A.ca (.lst ((A.cs.map λk=>D.ref k.p)++[.ref p]))):=by
 have h':=h.sub s;have kp:sm A.ca M1 (pB M1 A.ca (.lst ((A.cs.map λk=>D.ref k.p)++[.ref p]))):=.put;obtain⟨m1,m2,m3,m4,m5,m6,nw⟩:=h.ne;have wL:wy∉A.lists:=h.nX hw;have cL:=h.oP.1;have nl':∀x,x∉A.lists++V.fo->x≠wy->x∉(A.add ⟨p,wy⟩).lists++V.fo:=λx h1 h2=>by
  rw[Aa,dR,dR,dg]
  rintro ((z|z)|z)
  .exact h1 (fF _ z)
  .exact h2 z
  .exact h1 (eF _ z)
 have Xi:∀x c,M x=Fa c->x≠wy:=λx c e z=>by rw[z,hw]at e;cases e
 refine⟨⟨kp _ _ (dG (pO h'.ca h'.at_)) h'.at_,?_,kp.lst (dG m1) h'.le,kp.dk (uT h'.nx h'.ca) h'.nx,kp.lst (dG m2) h'.on,kp.lst (dG m3) h'.lo,?_,λi k d e1 e2=>?_,?_,?_,xj h'.fo⟩,λx d n e=>kp x d (λz=>n (z ▸ A.mU.2.2.1)) (s x d e),λx hx=>?_,λi k e=>by show(A.cs++[(⟨p,wy⟩:rh)])[i]?=Fa k;rw[fg (cZ.mp e).1];exact e,λx d e=>Ff (s x d e)⟩
 .show oK _ A.ca=Fa ((A.cs++[(⟨p,wy⟩:rh)]).map λk=>D.ref k.p);rw[dU];exact pz
 .show(A.cs++[(⟨p,wy⟩:rh)]).length=(V.calls++[c]).length;rw[cY,cY,h.len];rfl
 .have e1:(A.cs++[(⟨p,wy⟩:rh)])[i]?=Fa k:=e1;have e2:(V.calls++[c])[i]?=Fa d:=e2;by_cases hi:i<A.cs.length
  .rw[fg hi]at e1;rw[fg (by rw[<-h.len];exact hi)]at e2;obtain⟨ad',md',g1,g2,g3,g4,g5,g6⟩:=(h.cs i k d e1 e2);refine⟨ad',md',kp _ _ (λz=>by have:=s _ _ g1;rw[z,qm h'.ca]at this;cases this) (s _ _ g1),kp.lst (nw k (qJ e1)).1 (s.lst g2),kp.lst (λz=>g5 (z ▸ cL)) (s.lst g3),kp.lst (λz=>g6 (z ▸ cL)) (s.lst g4),nl' _ g5 (Xi _ _ (qm g3)),nl' _ g6 (Xi _ _ (qm g4))⟩
  .have X3:i=A.cs.length:=by have:=(cZ.mp e1).1;rw[cY,dJ]at this;omega
   subst X3;rw[eY (dw _)]at e1;rw[h.len,eY (dw _)]at e2;simp only[h9,iE,jo]at e1 e2;subst e1 e2;have q1:p≠A.ca:=λz=>by rw[z,qm h'.ca]at h1;cases h1
   have q2:wy≠A.ca:=λz=>wL (z ▸ h.oB.1);exact⟨ad,md,kp p _ q1 h1,kp.lst (a:=wy) q2 h2,kp.lst (λz=>h.nk ha (z ▸ cL)) h3,kp.lst (λz=>h.nk hm (z ▸ cL)) h4,nl' _ (h.nk ha) n1,nl' _ (h.nk hm) n2⟩
 .rw[Aa];refine fD.mpr ⟨h.nl,dW.mpr ⟨dq,eL⟩,λx hx y hy=>?_⟩;rw[dg]at hy;subst hy;exact λz=>wL (z ▸ hx)
 .show(A.b::(A.cs++[(⟨p,wy⟩:rh)]).map (·.p)).Nodup;rw[dU,<-List.cons_append];refine fD.mpr ⟨h.np,dW.mpr ⟨dq,eL⟩,λx hx y hy=>?_⟩;rw[dZ,iN,dg]at hy;subst hy;refine λz=>h.nV hp (z ▸ ?_);rcases c9.mp hx with y|y
  .rw[y];exact A.mU.1
  .obtain⟨k,hk,rfl⟩:=dD.mp y;exact A.mU.2.2.2.2.2.1 k hk
 .unfold tM.foot at hx;rw[Aa]at hx;have hx:x∈A.b::A.nx::(A.lists++[wy]++(A.cs++[(⟨p,wy⟩:rh)]).map (·.p)):=hx;simp only[c9,dR,dU,dZ,iN,dq,d9]at hx;unfold tM.foot;simp only[c9,dR];rcases hx with z|z|(z|z)|(z|z)
  .exact .inl (.inl z)
  .exact .inl (.inr (.inl z))
  .exact .inl (.inr (.inr (.inl z)))
  .exact .inr (by rw[z];exact hw)
  .exact .inl (.inr (.inr (.inr z)))
  .exact .inr (by rw[z];exact hp)
def pH.oz{V:qu}{p:Uf}{es:List rY}(h:pH a M A V)(hp:M p=Db):
  pH a (pB (pB M p (.lst (es.map rY.d))) A.b (.ins a.c (tP (.ref V.p) V.h V.t A.ca p A.nx A.on A.lo))) {A with le:=p} {V with mS:=es}/\qQ A M {A with le:=p} (pB (pB M p (.lst (es.map rY.d))) A.b (.ins a.c (tP (.ref V.p) V.h V.t A.ca p A.nx A.on A.lo))):=by
 have t:=qo.new (c:=.lst (es.map rY.d)) hp;have lp:=@pz M p (es.map rY.d);have h1:=h.sub t;have np:p∉A.lists:=h.nX hp;have nf:p∉A.foot:=h.nV hp;have Xi:∀x c,M x=Fa c->x≠p:=λx c e z=>by rw[z,hp]at e;cases e
 generalize pB M p (.lst (es.map rY.d))=M1 at t lp h1 ⊢;have kp:sm A.b M1 (pB M1 A.b (.ins a.c (tP (.ref V.p) V.h V.t A.ca p A.nx A.on A.lo))):=.put;have sub:∀x,x∉A.lists++V.fo->x≠p->x∉({A with le:=p}:tM).lists++V.fo:=λx h1 h2 z=>by
  rcases dR.mp z with z|z
  rotate_left
  .exact h1 (eF _ z)
  have h1:x∉A.lists:=λy=>h1 (fF _ y);unfold tM.lists at h1 z;simp only[c9,eO]at h1 z;rcases z with z|z|z|z|z
  .exact h1.1 z
  .exact h2 z
  .exact h1.2.2.1 z
  .exact h1.2.2.2.1 z
  .exact h1.2.2.2.2 z
 refine⟨⟨pL,kp.lst (pO h1.ca h1.at_) h1.ca,kp.lst (pO lp h1.at_) lp,kp.dk (B7 h1.nx h1.at_) h1.nx,kp.lst (pO h1.on h1.at_) h1.on,kp.lst (pO h1.lo h1.at_) h1.lo,h.len,λi k c e1 e2=>?_,?_,h.np,xj h1.fo⟩,λx c n e=>kp x c (λz=>n (z ▸ A.mU.1)) (t x c e),λx hx=>?_,λi k e=>e,λx d e=>Ff (t x d e)⟩
 .obtain⟨ad,md,g1,g2,g3,g4,g5,g6⟩:=(h.cs i k c e1 e2);obtain⟨ad',md',f1,f2,f3,f4,f5⟩:=((h.cs i k c e1 e2).sub t).nY kp h1.at_ (h.oM.2 k (qJ e1));have q1:=kp _ _ (λz=>h.oM.2 k (qJ e1) z) (t _ _ g1);exact⟨ad,md,q1,f2,kp.lst (pO (t.lst g3) h1.at_) (t.lst g3),kp.lst (pO (t.lst g4) h1.at_) (t.lst g4),sub _ g5 (Xi _ _ (qm g3)),sub _ g6 (Xi _ _ (qm g4))⟩
 .have n:=h.nl;unfold tM.lists at n np ⊢;simp only[c9,eO]at np;simp only[dW,c9,eO]at n ⊢;exact⟨⟨λz=>np.1 z.symm,n.1.2⟩,⟨np.2.2.1,np.2.2.2.1,np.2.2.2.2⟩,n.2.2⟩
 .by_cases z:x=p
  .exact .inr (z ▸ hp)
  .refine .inl ?_;unfold tM.foot tM.lists at hx ⊢;simp only[c9,dR]at hx ⊢;rcases hx with y|y|(y|y|y|y|y)|y
   .exact .inl y
   .exact .inr (.inl y)
   .exact .inr (.inr (.inl (.inl y)))
   .exact absurd y z
   .exact .inr (.inr (.inl (.inr (.inr (.inl y)))))
   .exact .inr (.inr (.inl (.inr (.inr (.inr (.inl y))))))
   .exact .inr (.inr (.inl (.inr (.inr (.inr (.inr y))))))
   .exact .inr (.inr (.inr y))
def xF(x:D)(l:T0 D):wI (x::l) 0=Fa x:=by
 unfold wI;have:FG (x::l).length 0=Fa 0:=by unfold FG;rw[eB];simp
 rw[this];rfl
def x8(f:pj->Str->Bool)(a:Ad):qY:=λds M Q=>BA λL k c x=>ds=[.ref k.p,.str x]/\rM a M L k c/\Q (.bl (f c x)) M
abbrev HG:=x8 pj.hasB
abbrev za:=x8 pj.mM
abbrev Fe:=x8 pj.m8
abbrev yE:=x8 pj.mR
abbrev vQ:=x8 pj.mK
abbrev FC:=x8 pj.mT
abbrev xo:=x8 pj.nB
noncomputable def Pj(x:Str):D->Bool
 | .str y=>!(y==x)
 | _=>lf
def yX(a:Ad):qY:=λds M Q=>J0 λL k c x y r=>ds=[.ref k.p,.str x]/\rM a M L k c/\c.ms.length<=100/\rE c.ms x=y::r/\Q (.str y) M
def Bo(ss:QQQ)(x:Str):[]++(List.filter (Pj x) (ss.map D.str)).map id=(rE ss x).map D.str:=by rw[d6,jc,gW];rfl
def Au{k:Uf}{ks:QQQ}{c:Str}{K:DK}(hk:oK M k=Fa (ks.map D.str))(h:K (.bl (hasS ks c)) M):R4 lf (.str c) (.ref k) M K:=by refine i' hk ⟨rfl,qe ks,?_⟩;show K (.bl (inD (.str c) (ks.map D.str))) M;rw[rG];exact h
def Wc(w x y:Str):inD (.str w) [.str x,.str y]=(w==x||w==y):=by rw[show[D.str x,D.str y]=[x,y].map D.str from rfl,rG,fH];simp only[fX,mv,jj,gH,fk];exact⟨λh=>h.imp lZ lZ,λh=>h.imp lZ lZ⟩
def R1:Fq P w K mg base 1 a.bN (HG a):=by
 refine fq G.bN.toDG Gm (λr u=>⟨_,(oY (pJ (pA u (pq y0) pf)
 (oZ (pk (F7 (pR u U1 (pq y0)) (rJ (pR u U1 (pq y0))))))
 pD)
 (oY (pJ (pA u (pq y0) pf)
 (oZ (pk (pR u U1 (pq y0))))
 pD)
 (oZ (pk (rV (pR u (pq y0) (pI (rW pf pf))) (rJ (pR u U1 (pq y0)))))))),?_⟩)
 rintro ds M Q ⟨L,k,c,x,rfl,⟨ad,md,h1,h2,h3,h4,_⟩,q⟩
 unfold pj.hasB at q;refine o9 h1 (i' rfl ?_);refine qg (c:=c.st=="rings") (λg=>?_) (λg=>?_)
 .rw[dh g]at q;refine o9 h1 (i' rfl (qg (c:=x==c.cr) (λg2=>?_) (λg2=>?_)))
  .rw[g2]at q;exact⟨M,.refl,q⟩
  .rw[show(x==c.cr)=lf from dB.mpr g2,fN]at q;exact o9 h1 (i' rfl (Au h3 ⟨M,.refl,q⟩))
 .rw[de g]at q;refine o9 h1 (i' rfl ?_);refine qg (c:=c.st=="waits") (λg2=>?_) (λg2=>?_)
  .rw[dh g2]at q;exact o9 h1 (i' rfl ⟨M,.refl,q⟩)
  .rw[de g2]at q;refine o9 h1 (i' rfl ⟨oW rfl,rfl,rfl,?_⟩);show if inD (.str c.st) [.str "talks",.str "held"]=pc then _ else _
   rw[Wc];refine qg (λg3=>?_) (λg3=>?_)
   .rw[g3,eI]at q;exact o9 h1 (i' rfl (Au h4 ⟨M,.refl,q⟩))
   .rw[show(c.st=="talks"||c.st=="held")=lf from dB.mpr g3,eW]at q;exact⟨M,.refl,q⟩
def wg:Fq P w K mg base 1 a.U (za a):=by
 refine fq G.U.toDG yF (λr u=>⟨_,(oZ (pk (rV (pR u (pq y0) pf) (rJ (pR u U1 (pq y0)))))),?_⟩)
 rintro ds M Q ⟨L,k,c,x,rfl,⟨ad,md,h1,h2,h3,h4,_⟩,q⟩
 unfold pj.mM at q;refine o9 h1 (i' rfl (qg (c:=c.st=="talks") (λg=>?_) (λg=>?_)))
 .rw[g,eI]at q;exact o9 h1 (i' rfl (Au h4 ⟨M,.refl,q⟩))
 .rw[show(c.st=="talks")=lf from dB.mpr g,eW]at q;exact⟨M,.refl,q⟩
def MN:Fq P w K mg base 2 a.bM (Fe a):=by
 refine fq G.bM.toDG CU (λr u=>⟨_,(oY (pJ (pA u (pq y0) pf)
 (oZ (pk (rV (pR u U1 (pq y0)) (rJ (pR u U1 (pq y0))))))
 pD)
 (oZ (pk (pT y0 G.e.toCls G.U (wg G) r (qd U1))))),?_⟩)
 rintro ds M Q ⟨L,k,c,x,rfl,hc,q⟩
 obtain⟨ad,md,h1,h2,h3,h4,_⟩:=id hc;unfold pj.m8 at q;refine o9 h1 (i' rfl ?_);refine qg (c:=c.st=="held") (λg=>?_) (λg=>?_)
 .rw[dh g]at q;refine o9 h1 (i' rfl (i' h4 ⟨rfl,qe c.ms,?_⟩));show if inD (.str x) (c.ms.map D.str)=pc then _ else _
  rw[rG];refine qg (c:=hasS c.ms x) (λg2=>?_) (λg2=>?_)
  .rw[g2,eI]at q;refine o9 h1 (i' rfl ?_);cases e:c.hd with
   | none=>rw[e]at q;exact⟨M,.refl,q⟩
   | some y=>
    rw[e]at q;refine⟨M,.refl,?_⟩;rw[show(!(Fa y==Fa x))=!(x==y)from by
     show(!(y==x))=_;rw[ma]]at q
    exact q
  .rw[show hasS c.ms x=lf from dB.mpr g2,eW]at q;exact⟨M,.refl,q⟩
 .rw[de g]at q;exact o9 h1 ⟨rfl,_,⟨rfl,rfl⟩,L,k,c,x,rfl,hc,M,.refl,q⟩
def Cg:Fq P w K mg base 1 a.V (yE a):=by
 refine fq G.V.toDG yj (λr u=>⟨_,(oZ (pk (rV (pR u (pq y0) (pI (rW pf pf))) (rJ (pR u U1 (pq y0)))))),?_⟩)
 rintro ds M Q ⟨L,k,c,x,rfl,⟨ad,md,h1,h2,h3,h4,_⟩,q⟩
 unfold pj.mR at q;refine o9 h1 (i' rfl ⟨oW rfl,rfl,rfl,?_⟩);show if inD (.str c.st) [.str "rings",.str "waits"]=pc then _ else _
 rw[Wc];refine qg (λg3=>?_) (λg3=>?_)
 .rw[g3,eI]at q;exact o9 h1 (i' rfl ⟨M,.refl,q⟩)
 .rw[show(c.st=="rings"||c.st=="waits")=lf from dB.mpr g3,eW]at q;exact⟨M,.refl,q⟩
def GI:Fq P w K mg base 1 a.aD (vQ a):=by
 refine fq G.aD.toDG yP (λr u=>⟨_,(oZ (pk (rV (pR u (pq y0) pf) (rJ (pR u U1 (pq y0)))))),?_⟩)
 rintro ds M Q ⟨L,k,c,x,rfl,⟨ad,md,h1,h2,h3,h4,_⟩,q⟩
 unfold pj.mK at q;refine o9 h1 (i' rfl (qg (c:=c.st=="waits") (λg=>?_) (λg=>?_)))
 .rw[g,eI]at q;exact o9 h1 (i' rfl (Au h3 ⟨M,.refl,q⟩))
 .rw[show(c.st=="waits")=lf from dB.mpr g,eW]at q;exact⟨M,.refl,q⟩
def Nc:Fq P w K mg base 2 a.bL (xo a):=by
 refine fq G.bL.toDG xf (λr u=>⟨_,(oZ (pk (F7 (pT y0 G.e.toCls G.V (Cg G) r (qd U1)) (F7 (pR u U1 (pq y0)) (rJ (pR u U1 (pq y0))))))),?_⟩)
 rintro ds M Q ⟨L,k,c,x,rfl,hc,q⟩
 obtain⟨ad,md,h1,h2,h3,h4,_⟩:=id hc;unfold pj.nB at q;refine o9 h1 ⟨rfl,_,⟨rfl,rfl⟩,L,k,c,x,rfl,hc,qg (c:=c.mR x) (λg=>?_) (λg=>?_)⟩
 .rw[g]at q;exact⟨M,.refl,q⟩
 .rw[show c.mR x=lf from dB.mpr g,fN]at q;refine o9 h1 (i' rfl (i' h3 ⟨rfl,qe c.at_,?_⟩));show if inD (.str x) (c.at_.map D.str)=pc then _ else _
  rw[rG];refine qg (c:=hasS c.at_ x) (λg2=>?_) (λg2=>?_)
  .rw[g2]at q;exact⟨M,.refl,q⟩
  .rw[show hasS c.at_ x=lf from dB.mpr g2,fN]at q;exact o9 h1 (i' rfl (Au h4 ⟨M,.refl,q⟩))
def F8:Fq P w K mg base 2 a.aF (FC a):=by
 refine fq G.aF.toDG CM (λr u=>⟨_,(oZ (pk (rV (pT y0 G.e.toCls G.U (wg G) r (qd U1)) (rJ (pR u (pN ql rfl G.g qh (qd (pq y0))) pb))))),?_⟩)
 rintro ds M Q ⟨L,k,c,x,rfl,hc,q⟩
 obtain⟨ad,md,h1,h2,h3,h4,_⟩:=id hc;unfold pj.mT at q;refine o9 h1 ⟨rfl,_,⟨rfl,rfl⟩,L,k,c,x,rfl,hc,qg (c:=c.mM x) (λg=>?_) (λg=>?_)⟩
 .rw[g,eI]at q;refine o9 h1 (i' rfl (i' h4 ⟨M,.refl,?_⟩));rw[cV];have:(((c.ms.length:Nat):Int)==2)=(c.ms.length==2):=by rw[fH,fk,fk];omega
  show Q (.bl (((c.ms.length:Nat):Int)==2)) M;rw[this];exact q
 .rw[show c.mM x=lf from dB.mpr g,eW]at q;exact⟨M,.refl,q⟩
def GL:Fq P w K mg base 1 a.aE (yX a):=by
 refine fq G.aE.toDG yB (λr u=>⟨_,(oZ (pk (pF (qE rfl (xw (ix:=[Db,Fa 1]) (N':=["member","phone"])) (qv (pq y0)) (qB 0) (uQ (pA u y0 U1)) y0) pb))),?_⟩)
 rintro ds M Q ⟨L,k,c,x,y,r,rfl,hc,hl,e,q⟩
 have hz:=dP;obtain⟨ad,md,h1,h2,h3,h4,_⟩:=id hc;refine o9 h1 (i' rfl (i' h4 (tG (f:=id) (t:=Pj x) h4 _ [] _ (by rw[cV];simp only[dO];omega) (λd hd k0 hk=>?_) (λd hd _ k0 hk=>?_) λp hp=>?_)))
 .obtain⟨y,hy,rfl⟩:=dD.mp hd;exact hk
 .obtain⟨y,hy,rfl⟩:=dD.mp hd;exact hk
 rw[Bo,e];exact i' pz (i' (xF _ _) ⟨M,.new hp,q⟩)
theorem Bu:∀bs:T0 Bool,AN (.bl pc) (bs.map D.bl)=bs.findIdx? id
 | []=>rfl
 | b::r=>by rw[dZ,kW];unfold AN;rw[Bu r];cases b<;>rfl
theorem MT(x:D):∀ds:T0 D,(AN x ds).isSome=ds.any λd=>On d x
 | []=>rfl
 | d::r=>by
  unfold AN;rw[fX];by_cases h:On d x=pc
  .rw[dh h,h];rfl
  .rw[de h,gY,MT x r,show On d x=lf from dB.mpr h,fN]
theorem BC:∀bs:T0 Bool,(bs.map D.bl).all uU=pc
 | []=>rfl
 | _::r=>by rw[dZ,fS,BC r];rfl
structure Rd(a:Ad)(M:Mp)(A:tM)(V:qu)(l:pC):Prop where
 bd:pH a M A V
 k:V.calls.length<=1000000
 pl:sY a M V.p l
 ok:rf l
 on:V.on.length=l.mG.length
 ms:∀c∈V.calls,(∀x∈c.ms,x∈l.pn)/\c.ms.length<=100
def Rd.sub{V:qu}(h:Rd a M A V l)(s:qo M M'):Rd a M' A V l:=⟨h.bd.sub s,h.k,h.pl.sub s,h.ok,h.on,h.ms⟩
def K0:qY:=λds M Q=>CW λr bs=>ds=[.ref r]/\oK M r=Fa (List.map D.bl bs)/\Q (O6 (bs.findIdx? id)) M
def Jo(f:qu->Str->D)(a:Ad):qY:=λds M Q=>De λA V x=>ds=[.ref A.b,.str x]/\pH a M A V/\V.calls.length<=1000000/\Q (f V x) M
noncomputable def Tx(V:qu)(x:Str):D:=.int (uk V x:Nat)
noncomputable def Ll(V:qu)(x:Str):D:=O6 (E9 V x)
noncomputable def Al(V:qu)(x:Str):D:=O6 (vE V x)
noncomputable def Tf(V:qu)(x:Str):D:=O6 (IF V x)
noncomputable def T8(V:qu)(x:Str):D:=.bl (wC V x)
abbrev El:=Jo Tx
abbrev CL:=Jo Ll
abbrev AM:=Jo Al
abbrev AR:=Jo Tf
abbrev zX:=Jo T8
def xl(a:Ad):qY:=λds M Q=>BA λA V l x=>ds=[.ref A.b,.str x]/\Rd a M A V l/\x∈l.pn/\Q (.bl (sZ l V x)) M
def Af(a:Ad):qY:=λds M Q=>GY λA V l c z=>ds=[.ref A.b,.str c,.str z]/\Rd a M A V l/\z∈l.nm/\∀q M',qo M M'->M q=Db->oK M' q=Fa ((sQ l V c z).map D.str)->Q (.ref q) M'
def Aj(a:Ad):qY:=λds M Q=>CW λA V=>ds=[.ref A.b]/\pH a M A V/\Q (.int ((V.h+V.t) % 24)) M
def Pu(a:Ad):qY:=λds M Q=>GY λA V l c z=>ds=[.ref A.b,.str c,.str z]/\Rd a M A V l/\z∈l.nm/\Q (.bl (tN l V c z)) M
def yZ{V:qu}(h:pH a M A V){pre post:T0 D}{d:D}(e:pre++d::post=A.cs.map λk=>D.ref k.p):∃k c,A.cs[pre.length]?=Fa k/\V.calls[pre.length]?=Fa c/\d=.ref k.p/\rM a M (A.lists++V.fo) k c/\V.calls.take (pre.length+1)=V.calls.take pre.length++[c]:=by
 have h1:(A.cs.map λk=>D.ref k.p)[pre.length]?=Fa d:=by rw[<-e];simp
 rw[dF]at h1;cases z:A.cs[pre.length]? with
 | none=>rw[z]at h1;cases h1
 | some k=>
  rw[z]at h1;have hi:pre.length<V.calls.length:=by rw[<-h.len];exact(cZ.mp z).1
  have e2:V.calls[pre.length]?=Fa V.calls[pre.length]:=cX hi;refine⟨k,_,rfl,e2,(dv h1).symm,h.cs _ _ _ z e2,?_⟩;rw[gv,e2];rfl
def uC{l:pC}{x:Str}(h:x∈l.pn):∃v,l.mV x=Fa v:=by
 obtain⟨p,hp,rfl⟩:=dD.mp h;unfold pC.mV;cases e:l.mF.find? λq=>decide (q.1=p.1)with
 | some v=>exact⟨v,rfl⟩
 | none=>exact absurd (fW.mp e p hp) (by simp)
def qz:hasS ss x=pc↔x∈ss:=by unfold hasS;rw[gj];exact⟨λ⟨y,hy,e⟩=>At e ▸ hy,λh=>⟨x,h,fi _⟩⟩
def JO(h:wZ ss=pc):ss.Nodup:=by
 have h:(sP ss).length=ss.length:=by unfold wZ at h;have:=fk.mp h;omega
 suffices key:∀r:QQQ,(sP r.reverse).length=r.reverse.length->r.reverse.Nodup by have:=key ss.reverse;rw[List.reverse_reverse]at this;exact this h
 intro r;induction r with
 | nil=>intro _;exact eL
 | cons k r ih=>
  intro h;rw[List.reverse_cons]at h ⊢;generalize r.reverse=l at ih h ⊢;rw[yh]at h;split at h
  .have:=IG l;rw[cY,dJ]at h;omega
  .rename_i hk;rw[cY,cY,dJ]at h;have h1:=ih (by omega);rw[Mw]at hk;refine fD.mpr ⟨h1,by simp,λx hx y hy=>?_⟩;rw[dg.mp hy];exact λz=>hk (z ▸ hx)
def HS{m:Int}(h:su cs ks m=pc):cs≠[]/\(cs.length:Int)<=m/\cs.Nodup/\∀x∈cs,x∈ks:=by unfold su at h;simp only[dY,eC,eU]at h;obtain⟨h1,h2,h3,h4⟩:=h;refine⟨λz=>by rw[z]at h1;exact absurd h1 (by decide),h2,JO h3,λx hx=>qz.mp (h4 x hx)⟩
def rf.of(ok:rf l){z:Str}(hz:z∈l.nm):(l.mE z≠[]/\(l.mE z).length<=4/\(l.mE z).Nodup/\∀x∈l.mE z,x∈l.pn)/\(z∈l.pn->l.mE z=[z]/\l.mP z="one"):=by
 have hd:=fD.mp ok.nd;have h1:z∈l.pn->l.group z=Db:=λh=>fW.mpr λg hg e=>hd.2.2 z h g.1 (dD.mpr ⟨g,hg,rfl⟩) (by simpa using e:g.1=z).symm;refine⟨?_,λh=>by unfold pC.mE pC.mP;rw[h1 h];exact⟨rfl,rfl⟩⟩;unfold pC.mE;cases e:l.group z with
 | none=>
  have hp:z∈l.pn:=by
   rcases dR.mp hz with h|h
   .exact h
   .obtain⟨g,hg,rfl⟩:=dD.mp h;exact absurd (fW.mp e g hg) (by simp)
  exact⟨fR _ _,by show 1<=4;decide,dW.mpr ⟨dq,eL⟩,λx hx=>by rw[dg.mp hx];exact hp⟩
 | some g=>obtain⟨c1,c2,c3,c4⟩:=HS (ok.go g (fL e)).mem;exact⟨c1,by show g.2.2.length<=4;omega,c3,c4⟩
def yb{V:qu}{f:pj->Str->Bool}{m x:Str}{Q:DK}{ok:Mp->Prop}(bd:pH a M A V)(hk:V.calls.length<=1000000)(mQ:ok M)(hm:∀c wy ad md,(ra c wy ad md).lookup m=Db)(q:∀p,M p=Db->Q (.ref p) (pB M p (.lst ((V.calls.map λc=>f c x).map D.bl)))):
  uX (rT 0) Cy (As m (λC s=>C=a.e/\s=x8 f a) (v3 0) (vn (v3 1) xG)) ok Q (A.cs.map λk=>D.ref k.p) [] [Db,Fa (.str x)] M:=by
 have hz:=dP;refine FD (A.cs.map λk=>D.ref k.p) (λpre acc U M'=>M=M'/\acc=((V.calls.take pre.length).map λc=>f c x).map D.bl/\∃y,U=[y,Fa (.str x)]) (λ_ _ _ M' j=>by rw[<-j.1];exact mQ) _ [] [] _ _ rfl ?_ ⟨rfl,rfl,Db,rfl⟩ ?_ ?_
 .rw[cV,bd.len];simp only[dO];omega
 .rintro pre d post e acc U M' ⟨rfl,rfl,y,rfl⟩ k hk
  obtain⟨ka,c,e1,e2,rfl,hc,et⟩:=yZ bd e;obtain⟨_,_,g1,_⟩:=id hc;refine o9 g1 ⟨hm _ _ _ _,_,⟨rfl,rfl⟩,_,ka,c,x,rfl,hc,hk _ _ _ ⟨rfl,?_,_,rfl⟩⟩;rw[cY,dJ,et,dU,dU];rfl
 .rintro acc U M' ⟨rfl,rfl,y,rfl⟩ p hp
  rw[cV,bd.len,eS];exact q p hp
def By:Fq P w K mg base 1 a.N K0:=by
 refine fq G.N.toDG Ac (λr u=>⟨_,(oY (pJ (pA u tL y0)
 (oZ (pk (xU y0 (qd tL))))
 pD)
 (oZ (pk sr))),?_⟩)
 rintro ds M Q ⟨r,bs,rfl,hr,q⟩
 have ei:inD (.bl pc) (bs.map D.bl)=(bs.findIdx? id).isSome:=by rw[<-Bu];exact(MT _ _).symm
 refine i' hr ⟨rfl,BC bs,?_⟩;show if inD (.bl pc) (bs.map D.bl)=pc then _ else _
 rw[ei];cases e:bs.findIdx? id with
 | none=>rw[e]at q;exact⟨M,.refl,q⟩
 | some j=>rw[e]at q;exact JL ⟨by show(oK M r).isSome=pc;rw[hr];rfl,i' hr ⟨rfl,BC bs,i' ((Bu bs).trans e) ⟨M,.refl,q⟩⟩⟩
def Oz:Fq P w K mg base 2 a.bJ (El a):=by
 refine fq G.bJ.toDG Dh (λr u=>⟨_,(oZ (pk (pN ql rfl G.g qh (qd (qE rfl (xw (ix:=[Db,Fa 1]) (N':=["call","phone"])) (qv (pq y0)) (qB 0) (uQ (uB (pT y0 G.e.toCls G.bN (R1 G) r (qd U1)))) y0))))),?_⟩)
 rintro ds M Q ⟨A,V,x,rfl,bd,WX,q⟩
 have hz:=dP;refine o9 bd.at_ (i' rfl (i' bd.ca ?_));refine vj (A.cs.map λk=>D.ref k.p) (λpre acc U M'=>M=M'/\acc.length=((V.calls.take pre.length).filter (·.hasB x)).length/\∃y,U=[y,Fa (.str x)]) (λ_ _ _ M' j=>by rw[<-j.1];exact bd.ca) _ [] [] _ _ rfl ?_ ⟨rfl,rfl,Db,rfl⟩ ?_ ?_
 .rw[cV,bd.len];simp only[dO];omega
 .rintro pre d post e acc U M' ⟨rfl,ha,y,rfl⟩ k k2 hk XN
  obtain⟨ka,c,e1,e2,rfl,hc,et⟩:=yZ bd e;rw[cY,dJ,et,iB]at hk XN;obtain⟨_,_,g1,_⟩:=id hc;refine o9 g1 ⟨rfl,_,⟨rfl,rfl⟩,_,ka,c,x,rfl,hc,?_⟩;refine qg (c:=c.hasB x) (λg=>?_) (λg=>?_)
  .refine hk _ _ _ ⟨rfl,?_,_,rfl⟩;rw[cY,cY,ha,gR (by exact g)];rfl
  .refine XN _ _ ⟨rfl,?_,_,rfl⟩;rw[cY,ha,gS (by exact g)];rfl
 .rintro acc U M' ⟨rfl,ha,y,rfl⟩ p hp
  refine i' pz ⟨M,.new hp,?_⟩;rw[cV,bd.len,eS]at ha;rw[ha];exact q
def Ly:Fq P w K mg base 3 a.bH (CL a):=by
 refine fq G.bH.toDG BO (λr u=>⟨_,(oZ (pk (pE (By G) r G.N (qd (qE rfl (xw (ix:=[Db,Fa 1]) (N':=["call","phone"])) (qv (pq y0)) (qB 0) rP (pT y0 G.e.toCls G.bM (MN G) r (qd U1))))))),?_⟩)
 rintro ds M Q ⟨A,V,x,rfl,bd,WX,q⟩
 refine o9 bd.at_ (i' rfl (i' bd.ca (yb bd WX bd.ca (λ_ _ _ _=>rfl) λp hp=>⟨p,_,rfl,pz,M,.new hp,?_⟩)));rw[hJ];exact q
def G0:Fq P w K mg base 3 a.bI (AR a):=by
 refine fq G.bI.toDG Ae (λr u=>⟨_,(oZ (pk (pE (By G) r G.N (qd (qE rfl (xw (ix:=[Db,Fa 1]) (N':=["call","phone"])) (qv (pq y0)) (qB 0) rP (pT y0 G.e.toCls G.V (Cg G) r (qd U1))))))),?_⟩)
 rintro ds M Q ⟨A,V,x,rfl,bd,WX,q⟩
 refine o9 bd.at_ (i' rfl (i' bd.ca (yb bd WX bd.ca (λ_ _ _ _=>rfl) λp hp=>⟨p,_,rfl,pz,M,.new hp,?_⟩)));rw[hJ];exact q
def yG:Fq P w K mg base 3 a.R (AM a):=by
 refine fq G.R.toDG zS (λr u=>⟨_,(oZ (pk (pE (By G) r G.N (qd (qE rfl (xw (ix:=[Db,Fa 1]) (N':=["call","phone"])) (qv (pq y0)) (qB 0) rP (pT y0 G.e.toCls G.U (wg G) r (qd U1))))))),?_⟩)
 rintro ds M Q ⟨A,V,x,rfl,bd,WX,q⟩
 refine o9 bd.at_ (i' rfl (i' bd.ca (yb bd WX bd.ca (λ_ _ _ _=>rfl) λp hp=>⟨p,_,rfl,pz,M,.new hp,?_⟩)));rw[hJ];exact q
def GB:Fq P w K mg base 3 a.bB (zX a):=by
 refine fq G.bB.toDG ze (λr u=>⟨_,(oZ (pk (pN (RW rfl) rfl G.cI Q8 (qd (qE rfl (xw (ix:=[Db,Fa 1]) (N':=["call","phone"])) (qv (pq y0)) (qB 0) rP (pT y0 G.e.toCls G.aD (GI G) r (qd U1))))))),?_⟩)
 rintro ds M Q ⟨A,V,x,rfl,bd,WX,q⟩
 refine o9 bd.at_ (i' rfl (i' bd.ca (yb bd WX bd.ca (λ_ _ _ _=>rfl) λp hp=>i' pz ?_)));rw[eA];refine i' (ye _ _) ⟨M,.new hp,?_⟩;rw[jJ];exact q
def GO:Fq P w K mg base 1 a.bA (Aj a):=by
 refine fq G.bA.toDG zh (λr u=>⟨_,(oZ (pk (pQ (pQ (pq y0) (pq y0)) pb))),?_⟩)
 rintro ds M Q ⟨A,V,rfl,bd,q⟩
 exact o9 bd.at_ (i' rfl (o9 bd.at_ (i' rfl ⟨by decide,M,.refl,q⟩)))
def GF{l:pC}{x:Str}{v:sN}(h:l.mV x=Fa v):wQ l x=v.2.1:=by unfold wQ;rw[h];rfl
def yy:Fq P w K mg base 3 a.T (xl a):=by
 refine fq G.T.toDG Ah (λr u=>⟨_,(oZ (pk (pR u (pT y0 G.c.toCls G.bJ (Oz G) r (qd U1)) (pT (pq y0) G.h.toCls G.bK (CP G) r (qd U1))))),?_⟩)
 rintro ds M Q ⟨A,V,l,x,rfl,rd,hx,q⟩
 obtain⟨ph,gr,ws,Ya,pr,gd,rs,i1,_⟩:=rd.pl;obtain⟨v,hv⟩:=uC hx;refine o9 rd.bd.at_ ⟨rfl,_,⟨rfl,rfl⟩,A,V,x,rfl,rd.bd,rd.k,?_⟩;refine o9 rd.bd.at_ (i' rfl (o9 i1 ⟨rfl,_,⟨rfl,rfl⟩,V.p,x,v,l,rfl,rd.pl,hv,?_⟩));unfold sZ at q;rw[GF hv]at q;exact⟨M,.refl,q⟩
def Av:Fq P w K mg base 4 a.aA (Af a):=by
 refine fq G.aA.toDG zq (λr u=>⟨_,(oZ (pk (qE rfl (xw (ix:=[Db,Fa 1,Fa 0]) (N':=["phone","caller","self"])) (qv (pT (pq y0) G.h.toCls G.X (ut G) r (qd U2))) (qB 0) (uQ (W3.b3 (vY (pA u y0 U1) (vd (uB (pT U2 G.c.toCls G.T (yy G) r (qd y0))))))) y0))),?_⟩)
 rintro ds M Q ⟨A,V,l,c,z,rfl,rd,Xb,q⟩
 obtain⟨ph,gr,ws,Ya,pr,gd,rs,i1,_⟩:=rd.pl;obtain⟨⟨_,p4,_,pin⟩,_⟩:=rd.ok.of Xb;refine o9 rd.bd.at_ (i' rfl (o9 i1 ⟨rfl,_,⟨rfl,rfl⟩,V.p,z,l,rfl,rd.pl,λq1 XB=>i' pz ?_⟩));have s1:=qo.new (c:=.lst (List.map D.str (l.mE z))) XB;have c1:=@pz M q1 (List.map D.str (l.mE z));generalize pB M q1 (.lst (List.map D.str (l.mE z)))=M1 at s1 c1 ⊢;have hz:=dP;have Xv:=rd.sub s1;refine tG (f:=id) (t:=λd=>match d with|.str x=>!(x==c)&&sZ l V x|_=>lf) c1 _ [] _ (by rw[cV];simp only[dO];omega) (λd hd k hk=>?_) (λd hd _ k hk=>?_) λq2 YU=>?_
 .obtain⟨x,hx,rfl⟩:=dD.mp hd;have hk:k (!(x==c)&&sZ l V x) M1:=hk;cases e:x==c with
  | true=>rw[e]at hk;refine MV (c:=!(x==c)) (by rw[e];rfl) hk
  | false=>rw[e]at hk;refine AU (c:=!(x==c)) (by rw[e];rfl) (o9 Xv.bd.at_ ⟨rfl,_,⟨rfl,rfl⟩,A,V,l,x,rfl,Xv,pin x hx,hk⟩)
 .obtain⟨x,hx,rfl⟩:=dD.mp hd;exact hk
 .have ef:[]++(List.filter (λd=>match d with|.str x=>!(x==c)&&sZ l V x|_=>lf) ((l.mE z).map D.str)).map id=(sQ l V c z).map D.str:=by rw[d6,jc,gW];rfl
  rw[ef];have t2:=qo.new (c:=.lst ((sQ l V c z).map D.str)) YU;exact⟨_,.refl,q q2 _ (s1.trans t2) (s1.none YU) pz⟩
def Ez:Fq P w K mg base 5 a.M (Pu a):=by
 refine fq G.M.toDG HD (λr u=>⟨_,(oZ (pk (pR u (pN ql rfl G.g qh (qd (pT y0 G.c.toCls G.aA (Av G) r (rW U1 U2)))) pb))),?_⟩)
 rintro ds M Q ⟨A,V,l,c,z,rfl,rd,tg,q⟩
 refine o9 rd.bd.at_ ⟨rfl,_,⟨rfl,rfl⟩,A,V,l,c,z,rfl,rd,tg,λq1 M1 s1 XB e1=>i' e1 ⟨M,s1,?_⟩⟩;have e:((((sQ l V c z).map D.str).length:Int)==0)=tN l V c z:=by unfold tN;rw[cV,fH,fk,List.isEmpty_iff,<-gy];omega
 show Q (.bl ((((sQ l V c z).map D.str).length:Int)==0)) M;rw[e];exact q
def wX(a:Ad)(v:Wi):qY:=λds M Q=>J0 λp A V l c z=>ds=[.ref p,.ref A.b,.str c,.str z]/\M p=Fa (.ins (v.cls a) v.nH)/\Rd a M A V l/\z∈l.nm/\zR l.pn l.nm v/\Q (.bl (zD l V c z v)) M
def Qm(a:Ad)(v:Wi):qY:=λds M Q=>BA λp L k c=>ds=[.ref p,.ref (rh.p k)]/\M p=Fa (.ins (v.cls a) v.nH)/\rM a M L k c/\Q (.bl (FR c v)) M
def FZ:qY:=λds M Q=>CW λx y=>ds=[x,y]/\Q (.bl lf) M
def Hf(a:Ad):Uf->qY->Prop:=λC sp=>∃v:Wi,C=v.cls a/\sp=wX a v
noncomputable def Mc(a:Ad):Wi->qY
 | .silent x y n=>Qm a (.silent x y n)
 | _=>FZ
def GG(a:Ad):Uf->qY->Prop:=λC sp=>∃v:Wi,C=v.cls a/\sp=Mc a v
def zZ(a:Ad):qY:=λds M Q=>J0 λp x y f l h=>ds=[.ref p,.int h]/\M p=Fa (.ins a.n (Wi.night x y f l).nH)/\Q (.bl (yd f l h)) M
def zd(a:Ad):qY:=λds M Q=>J0 λp x q l r ms=>ds=[.ref p,.ref q,.ref r]/\M p=Fa (.ins a.o (Wi.breaks x).nH)/\sY a M q l/\oK M r=Fa (List.map D.str ms)/\ms.length<=100/\x∈l.pn/\(∀m∈ms,m∈l.pn)/\Q (.bl (Cz l x ms)) M
def E4{l:pC}{x:Str}{v:sN}(h:l.mV x=Fa v):tW l x=v.2.2:=by unfold tW;rw[h];rfl
def rb{ks:List rh}{i:Nat}{k:rh}(h:ks[i]?=Fa k):wI (ks.map λk=>D.ref k.p) (i:Nat)=Fa (.ref k.p):=vb (by rw[dF,h];rfl)
def Le(ds:T0 D):L3.uH ds (Fa (-1:Int)) Db=ds.drop (ds.length - 1):=by
 unfold L3.uH;have e:HT.sX ds.length 0 (Fa (-1:Int))=ds.length - 1:=by show(if (-1:Int)<0 then((-1:Int)+(ds.length:Int)).toNat else min (-1:Int).toNat ds.length)=ds.length - 1;rw[dh (by decide)];omega
 rw[e];show(ds.drop (ds.length - 1)).take (ds.length - (ds.length - 1))=_;exact iF (by rw[gA];exact dw _)
theorem DL{α:Type}:∀w:List α,w.drop (w.length - 1)=w.getLast?.toList
 | []=>rfl
 | [_]=>rfl
 | _::z::r=>by rw[List.getLast?_cons_cons,<-DL (z::r)];rfl
def NF{p q:Uf}{w:QQQ}(h1:oK M p=Fa ((w.map D.str).drop ((w.map D.str).length - 1)))(h2:oK M q=Fa [D.str x]):zU M 9 (.ref p) (.ref q)=Fa (w.getLast?==Fa x):=by
 have e:(w.map D.str).drop ((w.map D.str).length - 1)=(w.getLast?.toList).map D.str:=by rw[cV,<-kx];rw[DL]
 rw[e]at h1;show(oK M p).bind (λi=>(oK M q).bind λj=>if i.length=j.length then sF (zU M 8) i j else Fa lf)=_;rw[h1,h2];cases w.getLast? with
 | none=>rfl
 | some y=>show((Fa (y==x)).bind λp=>(Fa pc).map λq=>p&&q)=Fa (Fa y==Fa x);show Fa ((y==x)&&pc)=_;rw[me];rfl
def Lo(G:Gl K mg a)(x:Str)(ns:QQQ):Fq P w K mg base 6 a.al (wX a (.bar x ns)):=by
 refine fq G.al.toDG Gu (λr u=>⟨_,(oZ (pk (rV (pR u U2 (pq y0)) (rJ (pR u U3 (pq y0)))))),?_⟩)
 rintro ds M Q ⟨p,A,V,l,c,z,rfl,hp,_,_,_,q⟩
 refine o9 hp ?_;refine qg (c:=c==x) (λg=>o9 hp ⟨rfl,qe ns,M,.refl,?_⟩) (λg=>⟨M,.refl,?_⟩)
 .show Q (.bl (inD (.str z) (ns.map D.str))) M;rw[rG];dsimp only[zD]at q;rw[g,eI]at q;exact q
 .dsimp only[zD]at q;rw[show(c==x)=lf from dB.mpr g,eW]at q;exact q
def K3(G:Gl K mg a)(x:Str)(ns:QQQ):Fq P w K mg base 6 a.an (wX a (.shut x ns)):=by
 refine fq G.an.toDG Fw (λr u=>⟨_,(oZ (pk (rV (pR u U3 (pq y0)) (rJ (pR u U2 (pq y0)))))),?_⟩)
 rintro ds M Q ⟨p,A,V,l,c,z,rfl,hp,_,_,_,q⟩
 refine o9 hp ?_;refine qg (c:=z==x) (λg=>o9 hp ⟨rfl,qe ns,M,.refl,?_⟩) (λg=>⟨M,.refl,?_⟩)
 .show Q (.bl (inD (.str c) (ns.map D.str))) M;rw[rG];dsimp only[zD]at q;rw[g,eI]at q;exact q
 .dsimp only[zD]at q;rw[show(z==x)=lf from dB.mpr g,eW]at q;exact q
def KG(G:Gl K mg a)(x y:Str):Fq P w K mg base 6 a.ao (wX a (.always x y)):=by
 refine fq G.ao.toDG BJ (λr u=>⟨_,(oZ (pk (pR u U3 (pq y0)))),?_⟩)
 rintro ds M Q ⟨p,A,V,l,c,z,rfl,hp,_,_,_,q⟩
 exact o9 hp ⟨M,.refl,q⟩
def GW:Fq P w K mg base 1 a.bz (zZ a):=by
 refine fq G.bz.toDG zA (λr u=>⟨_,(oY (pJ (pA u (pq y0) (pq y0))
 (oZ (pk (ur u (pq y0) U1 (pq y0))))
 pD)
 (oZ (pk (F7 (pR u U1 (pq y0)) (rJ (pR u U1 (pq y0))))))),?_⟩)
 rintro ds M Q ⟨p,x,y,f,l,h,rfl,hp,q⟩
 refine o9 hp (o9 hp ?_);show if (decide (f<l))=pc then _ else _
 unfold yd at q;by_cases z:f<l
 .rw[dh z]at q;refine AU (dX z) (o9 hp ?_);refine qg (c:=decide (f<=h)) (λg=>?_) (λg=>?_)
  .rw[g,eI]at q;exact o9 hp ⟨M,.refl,q⟩
  .rw[show decide (f<=h)=lf from dB.mpr g,eW]at q;exact⟨M,.refl,q⟩
 .rw[de z]at q;refine MV (eP z) (o9 hp ?_);refine qg (c:=decide (h>=f)) (λg=>?_) (λg=>?_)
  .rw[g,hU]at q;exact⟨M,.refl,q⟩
  .rw[show decide (h>=f)=lf from dB.mpr g,fN]at q;exact o9 hp ⟨M,.refl,q⟩
def Mz(G:Gl K mg a)(x y:Str)(f m:Int):Fq P w K mg base 6 a.aq (wX a (.night x y f m)):=by
 refine fq G.aq.toDG Dj (λr u=>⟨_,(oZ (pk (rV (pR u U3 (pq y0)) (rJ (pT y0 G.n.toCls G.bz (GW G) r (qd (yg U1 G.c.toCls G.bA (GO G) r))))))),?_⟩)
 rintro ds M Q ⟨p,A,V,l,c,z,rfl,hp,rd,_,_,q⟩
 dsimp only[zD]at q;refine o9 hp ?_;refine qg (c:=z==x) (λg=>?_) (λg=>?_)
 .rw[g,eI]at q;exact o9 hp ⟨rfl,_,⟨rfl,rfl⟩,o9 rd.bd.at_ ⟨rfl,_,⟨rfl,rfl⟩,A,V,rfl,rd.bd,p,x,y,f,m,_,rfl,hp,M,.refl,q⟩⟩
 .rw[show(z==x)=lf from dB.mpr g,eW]at q;exact⟨M,.refl,q⟩
def MO(G:Gl K mg a)(x y:Str):Fq P w K mg base 6 a.ar (wX a (.busy x y)):=by
 refine fq G.ar.toDG Em (λr u=>⟨_,(oZ (pk (rV (pR u U3 (pq y0)) (rJ (pE (Ez G) r G.M (qV U1 U2 U3)))))),?_⟩)
 rintro ds M Q ⟨p,A,V,l,c,z,rfl,hp,rd,hz,_,q⟩
 dsimp only[zD]at q;refine o9 hp ?_;refine qg (c:=z==x) (λg=>?_) (λg=>?_)
 .rw[g,eI]at q;exact⟨A,V,l,c,z,rfl,rd,hz,M,.refl,q⟩
 .rw[show(z==x)=lf from dB.mpr g,eW]at q;exact⟨M,.refl,q⟩
def Lu(G:Gl K mg a)(x y:Str)(n:Int):Fq P w K mg base 6 a.av (wX a (.silent x y n)):=by
 refine fq G.av.toDG BZ (λr u=>⟨_,(oZ (pk tL)),?_⟩)
 rintro ds M Q ⟨p,A,V,l,c,z,rfl,hp,rd,hz,_,q⟩
 exact⟨M,.refl,q⟩
def K'(G:Gl K mg a)(x:Str):Fq P w K mg base 6 a.ax (wX a (.wait x)):=by
 refine fq G.ax.toDG Ek (λr u=>⟨_,(oY (pJ (W3.b3 (vC (pA u U3 (pq y0)) (vk (pA u U2 (pq y0)))))
 (oZ (pk tL))
 pD)
 (oZ (pk (rV (pE (Ez G) r G.M (qV U1 U2 U3)) (rJ (Q1 (pT U1 G.c.toCls G.bB (GB G) r (qd U3)))))))),?_⟩)
 rintro ds M Q ⟨p,A,V,l,c,z,rfl,hp,rd,hz,_,q⟩
 dsimp only[zD]at q;refine o9 hp ?_;refine qg (c:=!(z==x)) (λg=>?_) (λg=>?_)
 .rw[g,hU]at q;exact⟨M,.refl,q⟩
 rw[show(!(z==x))=lf from dB.mpr g,fN]at q;refine o9 hp ?_;refine qg (c:=c==x) (λg=>?_) (λg=>?_)
 .rw[g]at q;exact⟨M,.refl,q⟩
 rw[de g]at q;refine⟨A,V,l,c,z,rfl,rd,hz,?_⟩;refine qg (c:=tN l V c z) (λg=>?_) (λg=>?_)
 .rw[g,eI]at q;exact o9 rd.bd.at_ ⟨rfl,_,⟨rfl,rfl⟩,A,V,z,rfl,rd.bd,rd.k,M,.refl,q⟩
 .rw[show tN l V c z=lf from dB.mpr g,eW]at q;exact⟨M,.refl,q⟩
def F9:Fq P w K mg base 2 a.bC (zd a):=by
 refine fq G.bC.toDG vB (λr u=>⟨_,(oY (pG 3 vB (pT U1 G.h.toCls G.aB (zc G) r (qd (pq y0))))
 (oZ (pk (pN (ET rfl) rfl G.bQ Eg (qd (qE rfl (xw (ix:=[Db,Fa 1,Fa 3]) (N':=["member","plan","rank"])) (qv U2) (qB 0) rP (pR u (pT U1 G.h.toCls G.aB (zc G) r (qd y0)) U2))))))),?_⟩)
 rintro ds M Q ⟨p,x,q,l,r,ms,rfl,hp,pl,lr,h100,hx,hm,k⟩
 have hz:=dP;obtain⟨v,hv⟩:=uC hx;obtain⟨ph,gr,ws,Ya,pr,gd,rs,i1,_⟩:=id pl;refine o9 i1 ⟨rfl,_,⟨rfl,rfl⟩,o9 hp (i' rfl ⟨q,x,v,l,rfl,pl,hv,?_⟩)⟩;refine i' lr (qR (f:=λd=>match d with|.str m=>.bl (decide (tW l m<tW l x))|_=>.mL) lr _ [] _ (by rw[cV];show 0+ms.length<=Ch;omega) (λd hd k0 hk=>?_) λp1 Yj=>?_)
 .obtain⟨m,hmm,rfl⟩:=dD.mp hd;obtain⟨u,hu⟩:=uC (hm m hmm);have hk:k0 (.bl (decide (tW l m<tW l x))) M:=hk;rw[E4 hu,E4 hv]at hk;exact o9 i1 ⟨rfl,_,⟨rfl,rfl⟩,q,m,u,l,rfl,pl,hu,hk⟩
 .have em:[]++(ms.map D.str).map (λd=>match d with|.str m=>.bl (decide (tW l m<tW l x))|_=>.mL)=ms.map λm=>D.bl (decide (tW l m<tW l x)):=by rw[d6,eA];rfl
  rw[em];refine i' pz (i' (ye (λm=>decide (tW l m<tW l x)) ms) ⟨M,.new Yj,?_⟩);unfold Cz at k;rw[yW];exact k
def Nh(G:Gl K mg a)(x:Str):Fq P w K mg base 6 a.az (wX a (.breaks x)):=by
 refine fq G.az.toDG vH (λr u=>⟨_,(oY (pJ (W3.b3 (vC (pA u U2 (pq y0)) (vk (pA u U3 (pq y0)))))
 (oZ (pk tL))
 pD)
 (oY (pJ (W3.b3 (vC (pA u U3 (yg (pq U1) G.h.toCls G.S (tR G) r)) (vk (we (uB (pE (Ez G) r G.M (qV U1 U2 U3)))))))
 (oZ (pk tL))
 pD)
 (oY (pG 4 vH (pT U1 G.c.toCls G.R (yG G) r (qd U3)))
 (oY (pJ (pA u v4 sr)
 (oZ (pk tL))
 pD)
 (oY (pG 5 vH (pq (pF (pq U1) v4)))
 (oZ (pk (rV (pR u (pN ql rfl G.g qh (qd v5)) pb) (rJ (pT y0 G.o.toCls G.bC (F9 G) r (rW (pq U1) v5))))))))))),?_⟩)
 rintro ds M Q ⟨p,A,V,l,c,z,rfl,hp,rd,Xb,hx,q⟩
 have hx:x∈l.pn:=qz.mp hx;obtain⟨ph,gr,ws,Ya,pr,gd,rs,i1,_⟩:=rd.pl;have p8:=rd.ok.p8;dsimp only[zD,Bq]at q;refine o9 hp ?_;refine qg (c:=!(c==x)) (λh1=>?_) (λh1=>?_)
 .rw[h1,hU]at q;exact⟨M,.refl,q⟩
 rw[show(!(c==x))=lf from dB.mpr h1,fN]at q;refine o9 hp ?_;refine qg (c:=z==x) (λh2=>?_) (λh2=>?_)
 .rw[h2]at q;exact⟨M,.refl,q⟩
 rw[de h2]at q;refine o9 rd.bd.at_ (i' rfl (o9 i1 ⟨rfl,_,⟨rfl,rfl⟩,V.p,l,rfl,rd.pl,by omega,λq1 XB=>i' pz ⟨rfl,qe _,?_⟩⟩));have t:=qo.new (c:=.lst (l.pn.map D.str)) XB;have W0:=rd.sub t;generalize pB M q1 (.lst (l.pn.map D.str))=M1 at t W0 ⊢;show if (!(inD (.str z) (l.pn.map D.str)))=pc then _ else _
 rw[rG];refine qg (c:=!(hasS l.pn z)) (λh3=>?_) (λh3=>?_)
 .rw[h3,hU]at q;exact⟨M,t,q⟩
 rw[show(!(hasS l.pn z))=lf from dB.mpr h3,fN]at q;refine⟨A,V,l,c,z,rfl,W0,Xb,?_⟩;refine qg (c:=!(tN l V c z)) (λh4=>?_) (λh4=>?_)
 .rw[h4]at q;exact⟨M,t,q⟩
 rw[de h4]at q;refine o9 W0.bd.at_ ⟨rfl,_,⟨rfl,rfl⟩,A,V,z,rfl,W0.bd,W0.k,?_⟩;cases e:vE V z with
 | none=>rw[e]at q;rw[show Al V z=.mL from by unfold Al;rw[e];rfl];exact⟨M,t,q⟩
 | some j=>
  rw[show Al V z=.int (j:Nat)from by unfold Al;rw[e];rfl];have hj:j<V.calls.length:=(iG.mp e).1;have e2:V.calls[j]?=Fa V.calls[j]:=cX hj;rw[e]at q;generalize V.calls[j]=k at e2;have q:Q (.bl (((V.calls[j]?).elim lf λk=>(k.ms.length==2)&&Cz l x k.ms))) M:=q;rw[e2]at q;have hj:j<A.cs.length:=by rw[rd.bd.len];exact hj
  have ek:A.cs[j]?=Fa A.cs[j]:=cX hj;obtain⟨ad,md,f1,f2,f3,f4,_⟩:=W0.bd.cs j _ k ek e2;refine o9 W0.bd.at_ (i' rfl (i' rfl (i' W0.bd.ca (i' (rb ek) (o9 f1 (i' rfl ?_))))));refine i' f4 ?_;have el:((((k.ms.map D.str).length:Nat):Int)==2)=(k.ms.length==2):=by rw[cV,fH,fk,fk];omega
  show if ((((k.ms.map D.str).length:Nat):Int)==2)=pc then _ else _
  rw[el];have q:Q (.bl ((k.ms.length==2)&&Cz l x k.ms)) M:=q;refine qg (c:=k.ms.length==2) (λh5=>?_) (λh5=>?_)
  .rw[h5,eI]at q;have hm:=rd.ms k (qJ e2);refine o9 (t _ _ hp) ⟨rfl,_,⟨rfl,rfl⟩,o9 W0.bd.at_ (i' rfl ⟨p,x,V.p,l,md,k.ms,rfl,t _ _ hp,W0.pl,f4,hm.2,hx,hm.1,M,t,q⟩)⟩
  .rw[show(k.ms.length==2)=lf from dB.mpr h5,eW]at q;exact⟨M,t,q⟩
def Ma:Fq P w K mg base 1 a.q FZ:=by
 refine fq G.q.toDG B' (λr u=>⟨_,(oZ (pk tL)),?_⟩)
 rintro ds M Q ⟨x,y,rfl,q⟩
 exact⟨M,.refl,q⟩
def Ro(G:Gl K mg a)(x y:Str)(n:Int):Fq P w K mg base 1 a.aG (Qm a (.silent x y n)):=by
 refine fq G.aG.toDG zW (λr u=>⟨_,(oZ (pk (rV (pR u (rS (pq U1) (sG (BK pb)) sI) (qK (qd (pq y0)))) (rJ (pR u (pq y0) (pq U1)))))),?_⟩)
 rintro ds M Q ⟨p,L,k,c,rfl,hp,⟨ad,md,h1,h2,h3,h4,_⟩,q⟩
 refine o9 h1 (i' rfl (i' h2 λp1 Yj=>?_));have t1:=qo.new (c:=.lst (L3.uH (c.way.map D.str) (Fa (-1:Int)) Db)) Yj;have l1:oK (pB M p1 (.lst (L3.uH (c.way.map D.str) (Fa (-1:Int)) Db))) p1=Fa ((c.way.map D.str).drop ((c.way.map D.str).length - 1)):=by rw[pz,Le]
 show AL (pB M p1 (.lst (L3.uH (c.way.map D.str) (Fa (-1:Int)) Db)) p) _;generalize pB M p1 (.lst (L3.uH (c.way.map D.str) (Fa (-1:Int)) Db))=M1 at t1 l1 ⊢;refine o9 (t1 _ _ hp) ⟨oW rfl,λp2 WG=>?_⟩;have t2:=qo.new (c:=.lst [D.str x]) WG;have l2:=@pz M1 p2 [D.str x];show Option.elim (zU (pB M1 p2 (.lst [D.str x])) 9 (.ref p1) (.ref p2)) False _;generalize pB M1 p2 (.lst [D.str x])=M2 at t2 l2 ⊢;have s2:=t1.trans t2;refine i' (NF (t2.lst l1) l2) ?_;dsimp only[FR]at q;refine qg (c:=c.way.getLast?==Fa x) (λg=>?_) (λg=>?_)
 .rw[g,eI]at q;exact o9 (s2 _ _ hp) (o9 (s2 _ _ h1) ⟨M,s2,q⟩)
 .rw[show(c.way.getLast?==Fa x)=lf from dB.mpr g,eW]at q;exact⟨M,s2,q⟩
def KA:∀C sp,Hf a C sp->xR P w K mg base 6 "fits" C (Nw K sp):=by
 rintro C sp ⟨v,rfl,rfl⟩
 cases v with
 | bar x ns=>exact⟨G.r.toCls,_,_,_,G.al.nj,Lo G x ns,G.al.b⟩
 | shut x ns=>exact⟨G.t.toCls,_,_,_,G.an.nj,K3 G x ns,G.an.b⟩
 | always x y=>exact⟨G.w.toCls,_,_,_,G.ao.nj,KG G x y,G.ao.b⟩
 | night x y f m=>exact⟨G.n.toCls,_,_,_,G.aq.nj,Mz G x y f m,G.aq.b⟩
 | busy x y=>exact⟨G.x.toCls,_,_,_,G.ar.nj,MO G x y,G.ar.b⟩
 | silent x y n=>exact⟨G.u.toCls,_,_,_,G.av.nj,Lu G x y n,G.av.b⟩
 | wait x=>exact⟨G.v.toCls,_,_,_,G.ax.nj,K' G x,G.ax.b⟩
 | breaks x=>exact⟨G.o.toCls,_,_,_,G.az.nj,Nh G x,G.az.b⟩
def TZ:∀C sp,GG a C sp->xR P w K mg base 1 "is_due" C (Nw K sp):=by
 rintro C sp ⟨v,rfl,rfl⟩
 have F:=Ma (P:=P) (w:=w) (base:=base) G;cases v with
 | silent x y n=>exact⟨G.u.toCls,_,_,_,G.aG.nj,Ro G x y n,G.aG.b⟩
 | bar _ _=>exact⟨G.r.toCls,_,_,_,G.cq,F,G.q.b⟩
 | shut _ _=>exact⟨G.t.toCls,_,_,_,G.cr,F,G.q.b⟩
 | always _ _=>exact⟨G.w.toCls,_,_,_,G.cs,F,G.q.b⟩
 | night _ _ _ _=>exact⟨G.n.toCls,_,_,_,G.ct,F,G.q.b⟩
 | busy _ _=>exact⟨G.x.toCls,_,_,_,G.cu,F,G.q.b⟩
 | wait _=>exact⟨G.v.toCls,_,_,_,G.cv,F,G.q.b⟩
 | breaks _=>exact⟨G.o.toCls,_,_,_,G.cw,F,G.q.b⟩
def Ep{es pre post:T0 D}{d:D}(e:pre++d::post=ug 0 es):∃x,es[pre.length]?=Fa x/\d=.tup [.int (pre.length:Nat),x]:=by
 have h:(ug 0 es)[pre.length]?=Fa d:=by rw[<-e];simp
 rw[zt]at h;cases q:es[pre.length]? with
 | none=>rw[q]at h;cases h
 | some x=>rw[q]at h;refine⟨x,rfl,?_⟩;have:=(dv h).symm;rw[mq]at this;exact this
def vv(n:Nat):∀es:T0 D,(ug n es).length=es.length:=λes=>by
 have h:∀i:Nat,(ug n es)[i]?=Db↔es[i]?=Db:=λi=>by rw[zt];cases es[i]?<;>simp
 have a:=(h es.length).mpr (hW (dw _));have b:=(h (ug n es).length).mp (hW (dw _));rw[List.getElem?_eq_none_iff]at a b;omega
def Je{l:pC}{V:qu}{f:Wi->Bool}{tt:Az}{ok:Mp->Prop}{Q:DK}{M:Mp}{rest:T0 (Option D)}(hl:V.on.length=l.mG.length)(h16:l.mG.length<=16)(mQ:ok M) (ht:∀(i:Nat) (w:uV),l.mG[i]?=Fa w->∀(y:Option D) (k:Bool->Mp->Prop),k (f w.2) M->tt (Fa (.int (i:Nat))::y::rest) M k) (q:∀p,M p=Db->Q (.ref p) (pB M p (.lst ((Hd l V f).map λn=>D.int (n:Nat))))):
  uX (Qt 2 (yu (rT 0) (yu (rT 1) DU))) (P' (b3 (v3 1)) tt) (v3 0) ok Q (ug 0 (V.on.map D.bl)) [] (Db::Db::rest) M:=by
 have hz:=dP;refine vj (ug 0 (V.on.map D.bl)) (λpre acc U M'=>M=M'/\acc=((List.range pre.length).filter λi=>V.on.getD i lf&&(l.mG[i]?).elim lf λw=>f w.2).map (λn=>D.int (n:Nat))/\∃y1 y2,U=y1::y2::rest) (λ_ _ _ M' j=>by rw[<-j.1];exact mQ) _ [] [] _ _ rfl ?_ ⟨rfl,rfl,Db,Db,rfl⟩ ?_ ?_
 .rw[vv,cV,hl];simp only[dO];omega
 .rintro pre d post e acc U M' ⟨rfl,rfl,y1,y2,rfl⟩ k k2 hk XN
  obtain⟨x,hx,rfl⟩:=Ep e;rw[cY,dJ,jU,iB]at hk XN;rw[dF]at hx;cases eo:V.on[pre.length]? with
  | none=>rw[eo]at hx;cases hx
  | some b=>
   rw[eo]at hx;have hx:D.bl b=x:=dv hx;subst hx;have hi:pre.length<l.mG.length:=by rw[<-hl];exact(cZ.mp eo).1
   have ew:l.mG[pre.length]?=Fa l.mG[pre.length]:=cX hi;generalize l.mG[pre.length]=w0 at ew;have eg:V.on.getD pre.length lf=b:=by rw[gJ,eo];rfl
   have no:(b&&f w0.2)=lf->k2 (Fa (.int (pre.length:Nat))::Fa (.bl b)::rest) M:=λg=>by refine XN _ _ ⟨rfl,?_,_,_,rfl⟩;rw[gS (by rw[eg,ew];show ¬(b&&f w0.2)=pc;rw[g];exact dC),iS,e9]
   refine⟨rfl,?_⟩;show if b=pc then _ else _
   cases b with
   | false=>exact C5 (no rfl)
   | true=>
    refine JL (ht _ _ ew _ _ ?_);cases g:f w0.2 with
    | false=>exact C5 (no (by rw[g];rfl))
    | true=>refine JL (hk _ _ _ ⟨rfl,?_,_,_,rfl⟩);rw[gR (by rw[eg,ew];show(pc&&f w0.2)=pc;rw[g];rfl),iS,dU];rfl
 .rintro acc U M' ⟨rfl,rfl,y1,y2,rfl⟩ p hp
  rw[vv,cV];exact q p hp
def Bf(h:sE a M rs ws){i:Nat}{w:uV}(e:ws[i]?=Fa w):∃r,wI (rs.map D.ref) (i:Nat)=Fa (.ref r)/\M r=Fa (.ins (w.2.cls a) w.2.nH):=by
 have hi:i<rs.length:=by rw[h.1];exact(cZ.mp e).1
 exact⟨rs[i],vb (by rw[dF,cX hi];rfl),h.2 i _ w (cX hi) e⟩
def Hw(ds:T0 D)(m:Nat):L3.uH ds Db (Fa (m:Int))=ds.take m:=by
 unfold L3.uH;rw[HT.BS,HT.IX,j7,kQ];by_cases h:m<=ds.length
 .rw[lX h]
 .rw[Nat.min_eq_right (by omega),eS,iF (by omega)]
def G6(ds:T0 D)(m:Nat)(h:m<=ds.length):L3.uH ds (Fa (m:Int)) Db=ds.drop m:=by unfold L3.uH;rw[HT.BS,HT.IX,lX h];exact iF (by rw[gA];exact dw _)
def uj(l:pC)(V:qu):Prop:=∀z∈l.nm,(l.mP z=="turns")=pc->∃v,V.ps.find? (λp=>decide (p.1=z))=Fa v/\0<=v.2/\v.2<=((l.mE z).length:Int)
def Mo{V:qu}(h:uj l V){z:Str}(hz:z∈l.nm)(e:(l.mP z=="turns")=pc):uL (rK V.ps) (.inr z)=Fa (.int (zv V z:Nat))/\zv V z<=(l.mE z).length:=by
 obtain⟨v,e1,e2,e3⟩:=h z hz e;have h1:zv V z=v.2.toNat:=by unfold zv;rw[e1];rfl
 have h2:uL (rK V.ps) (.inr z)=(V.ps.find? λp=>decide (p.1=z)).map λp=>D.int p.2:=wB (λp:Str×Int=>p.1) (λp=>D.int p.2) z V.ps;rw[h2,e1,h1];exact⟨by show Fa (D.int v.2)=Fa (.int (v.2.toNat:Nat));rw[Int.toNat_of_nonneg e2],by omega⟩
def Hx(a:Ad):qY:=λds M Q=>GY λA V l c z=>ds=[.ref A.b,.str c,.str z]/\Rd a M A V l/\z∈l.nm/\Q (xA (DV l V c z)) M
def O8(a:Ad):qY:=λds M Q=>GY λA V l c z=>ds=[.ref A.b,.str c,.str z]/\Rd a M A V l/\z∈l.nm/\uj l V/\Q (names (xE l V c z)) M
def LI(a:Ad):qY:=λds M Q=>GY λA V l c z=>ds=[.ref A.b,.str c,.str z]/\Rd a M A V l/\z∈l.nm/\uj l V/\Q (G4 l V c z).d M
def JZ:qY:=λds M Q=>De λx r z=>ds=[.tup (.str x::r),.str z]/\Q (if (x=="wait")=pc then(vK.waits z).d else if (x=="break")=pc then(vK.breaks z).d else vK.barred.d) M
noncomputable def rc(st:tz):T0 D:=st.map λs=>.tup [.str s.1,xA s.2]
def Nl(a:Ad):qY:=λds M Q=>SO λA V l c z r way=>ds=[.ref A.b,.str c,.str z,.ref r]/\Rd a M A V l/\z∈l.nm/\uj l V/\oK M r=Fa (List.map D.str way)/\way.length<=8000000/\∀q M',qo M M'->M q=Db->oK M' q=Fa (rc (uZ l V c z way).2)->Q (.tup [(uZ l V c z way).1.d,.ref q]) M'
def EL{V:qu}{f:Wi->Bool}{i:Nat}(h:i∈Hd l V f):∃w,l.mG[i]?=Fa w/\f w.2=pc:=by
 have h:=(eQ.mp h).2;rw[dY]at h;cases e:l.mG[i]? with
 | none=>rw[e]at h;cases h.2
 | some w=>rw[e]at h;exact⟨w,rfl,h.2⟩
noncomputable def Ij(l:pC)(way:QQQ):Nat:=(l.nm.filter λx=>!(hasS way x)).length
def Bh{l:pC}{z:Str}(hz:z∈l.nm)(h:hasS way z=lf):Ij l (way++[z])<Ij l way:=by
 unfold Ij;have e:(l.nm.filter λx=>!(hasS (way++[z]) x))=(l.nm.filter λx=>!(hasS way x)).filter λx=>!(x==z):=by rw[List.filter_filter];refine List.filter_congr λx _=>?_;unfold hasS;rw[jT];show(!(way.any (·==x)||((z==x)||false)))=_;rw[jj,Bool.not_or,Bool.and_comm,ma]
 rw[e];refine Nat.lt_of_le_of_ne (gI _ _) λg=>?_;have:=kD.mp (List.Sublist.eq_of_length gf g) z (eQ.mpr ⟨hz,by rw[h];rfl⟩);simp at this
def Cj(ok:rf l){w:uV}(hw:w∈l.mG){z y:Str}(h:IP z w.2=.inr y):y∈l.nm:=by
 have o:=ok.wo w hw;cases e:w.2 with
 | bar _ _=>rw[e]at h;cases h
 | shut _ _=>rw[e]at h;cases h
 | always x u=>rw[e]at h o;cases h;exact qz.mp o.2.1
 | night x u f m=>rw[e]at h o;cases h;exact qz.mp o.2.1
 | busy x u=>rw[e]at h o;cases h;exact qz.mp o.2.1
 | silent x u n=>rw[e]at h o;cases h;exact qz.mp o.2.1
 | wait _=>rw[e]at h;cases h
 | breaks _=>rw[e]at h;cases h
theorem Fv(x:Str):∀ss:QQQ,x∈ss->AN (.str x) (ss.map D.str)=Fa (ss.findIdx (·==x))
 | [],h=>by cases h
 | y::r,h=>by
  rw[dZ,List.findIdx_cons];unfold AN;show(if (y==x)=pc then Fa 0 else(AN (.str x) (r.map D.str)).map (·+1))=_;cases e:y==x with
  | true=>rfl
  | false=>
   rw[de dC];have hr:x∈r:=by
    rcases c9.mp h with g|g
    .rw[g,fi]at e;cases e
    .exact g
   rw[Fv x r hr];rfl
def Hi:Fq P w K mg base 7 a.aR (Hx a):=by
 refine fq G.aR.toDG BN (λr u=>⟨_,(oY (pG 3 BN (pq (pq y0)))
 (oZ (pk (qr uN rfl G.L uO (qd (qE rfl (xw (ix:=[Db,Db,Fa 3,Fa 0,Fa 1,Fa 2]) (N':=["i","on","wishes","board","caller","target"])) (vg rfl G.bP (qd (pq y0))) (tO (n:=2) rfl (pV (qB 0) (pV (qB 1) sv))) (uQ (W3.b3 (vY (uB U1) (vd (uB (Bl (R:=Hf a) (pF U2 y0) (KA G) (r.mono (by first|decide|omega)) (qV U3 v4 v5))))))) y0)))))),?_⟩)
 rintro ds M Q ⟨A,V,l,c,z,rfl,rd,hz,q⟩
 obtain⟨ph,gr,ws,Ya,pr,gd,rs,i1,i2,i3,i4,i5,i6,i7,i8⟩:=rd.pl;refine o9 rd.bd.at_ (i' rfl (o9 i1 (i' rfl ?_)));refine o9 rd.bd.at_ (i' rfl (i' rd.bd.on ?_));refine Je (rest:=[Fa (.ref ws),Fa (.ref A.b),Fa (.str c),Fa (.str z)]) rd.on rd.ok.w16 rd.bd.on (λi w0 ew y k hk=>?_) λp hp=>i' pz ⟨M,.new hp,q⟩;obtain⟨r,e1,e2⟩:=Bf i8 ew;refine i' i4 (i' e1 (o9 e2 ⟨by cases w0.2<;>rfl,_,⟨w0.2,rfl,rfl⟩,r,A,V,l,c,z,rfl,e2,rd,hz,rd.ok.wo w0 (qJ ew),hk⟩))
def NI:Fq P w K mg base 5 a.aS (O8 a):=by
 refine fq G.aS.toDG s8 (λr u=>⟨_,(oY (pG 3 s8 (pT y0 G.c.toCls G.aA (Av G) r (rW U1 U2)))
 (oY (pJ (pA u (pT (pq y0) G.h.toCls G.aL (xI G) r (qd U2)) pf)
 (oZ (pk (qr uN rfl G.L uO (qd U3))))
 pD)
 (oY (pG 4 s8 (pT (pq y0) G.h.toCls G.X (ut G) r (qd U2)))
 (oY (pG 5 s8 (wJ u (pq y0) U2))
 (oY (uE (i:=6) s8.nd rfl (Or.inl rfl) rfl (xw (ix:=[Db,Fa 3]) (N':=["phone","free"])) (qv (pQ (rS v4 (sG v5) sI) (rS v4 sI (sG v5)))) (qB 0) (uQ (pA u y0 U1)) y0)
 (oZ (pk (qr uN rfl G.L uO (qd (rS v6 sI (sG pb))))))))))),?_⟩)
 rintro ds M Q ⟨A,V,l,c,z,rfl,rd,Xb,nx,q⟩
 have hz:=dP;have bd:=rd.bd;have pl:=rd.pl;obtain⟨ph,gr,ws,Ya,pr,gd,rs,i1,_⟩:=rd.pl;obtain⟨⟨_,tf,_⟩,_⟩:=rd.ok.of Xb;refine o9 bd.at_ ⟨rfl,_,⟨rfl,rfl⟩,A,V,l,c,z,rfl,rd,Xb,λq1 M1 s1 XB e1=>?_⟩;refine o9 (s1 _ _ bd.at_) (i' rfl (o9 (s1 _ _ i1) ⟨rfl,_,⟨rfl,rfl⟩,V.p,z,l,rfl,pl.sub s1,?_⟩));unfold xE at q;cases e:l.mP z=="turns" with
 | false=>rw[e]at q;exact AU (c:=!(l.mP z=="turns")) (by rw[e];rfl) (i' e1 ⟨M,s1,q⟩)
 | true=>
  obtain⟨hn,nl⟩:=Mo nx Xb e;generalize zv V z=n at hn nl q;rw[e,dh rfl]at q;refine MV (c:=!(l.mP z=="turns")) (by rw[e];rfl) ?_;refine o9 (s1 _ _ bd.at_) (i' rfl (o9 (s1 _ _ i1) ⟨rfl,_,⟨rfl,rfl⟩,V.p,z,l,rfl,pl.sub s1,λq2 YU=>?_⟩));have s2:=s1.trans (qo.new (c:=.lst ((l.mE z).map D.str)) YU);have c2:=@pz M1 q2 ((l.mE z).map D.str);have e2:=(qo.new (c:=.lst ((l.mE z).map D.str)) YU).lst e1;generalize pB M1 q2 (.lst ((l.mE z).map D.str))=M2 at s2 c2 e2 ⊢;refine o9 (s2 _ _ bd.at_) (i' rfl (i' rfl (i' (s2.dk bd.nx) (i' hn ?_))));refine i' c2 λq3 hq3=>?_;rw[G6 _ n (by rw[cV];exact nl),<-kx];have t3:=qo.new (c:=.lst (((l.mE z).drop n).map D.str)) hq3;have c3':=@pz M2 q3 (((l.mE z).drop n).map D.str);generalize pB M2 q3 (.lst (((l.mE z).drop n).map D.str))=M3 at t3 c3' ⊢;refine i' (t3.lst c2) λq4 hq4=>?_;rw[Hw,<-mf];have t4:=qo.new (c:=.lst (((l.mE z).take n).map D.str)) hq4;have c4:=@pz M3 q4 (((l.mE z).take n).map D.str);generalize pB M3 q4 (.lst (((l.mE z).take n).map D.str))=M4 at t4 c4 ⊢;refine i' (t4.lst c3') (i' c4 ?_);refine⟨by rw[cV,cV,gA,fh];omega,λq5 hq5=>i' pz ?_⟩;rw[<-dU];have t5:=qo.new (c:=.lst ((uW (l.mE z) n).map D.str)) hq5;have c5:=@pz M4 q5 ((uW (l.mE z) n).map D.str);show uX _ _ _ _ _ ((uW (l.mE z) n).map D.str) _ _ (pB M4 q5 (.lst ((uW (l.mE z) n).map D.str)));generalize pB M4 q5 (.lst ((uW (l.mE z) n).map D.str))=M5 at t5 c5 ⊢;have s5:=t3.trans (t4.trans t5);have e5:=s5.lst e2;have tl:(uW (l.mE z) n).length<=200:=by unfold uW;rw[cY,gA,fh];omega
  refine tG (f:=id) (t:=λd=>inD d ((sQ l V c z).map D.str)) c5 _ [] _ (by rw[cV];simp only[dO];omega) (λd hd k hk=>?_) (λd hd _ k hk=>?_) λq6 hq6=>?_
  .obtain⟨x,hx,rfl⟩:=dD.mp hd;exact i' e5 ⟨rfl,qe _,hk⟩
  .obtain⟨x,hx,rfl⟩:=dD.mp hd;exact hk
  .have ef:[]++(List.filter (λd=>inD d ((sQ l V c z).map D.str)) ((uW (l.mE z) n).map D.str)).map id=((uW (l.mE z) n).filter λx=>hasS (sQ l V c z) x).map D.str:=by
    rw[d6,jc,gW];have:((λd=>inD d ((sQ l V c z).map D.str))∘D.str)=λx=>hasS (sQ l V c z) x:=by funext x;exact rG _ _
    rw[this]
   rw[ef];refine i' pz λq7 hq7=>i' pz ?_;rw[show L3.uH (((uW (l.mE z) n).filter λx=>hasS (sQ l V c z) x).map D.str) Db (Fa (1:Int))=(((uW (l.mE z) n).filter λx=>hasS (sQ l V c z) x).take 1).map D.str from(Hw _ 1).trans (mf).symm];exact⟨M,s2.trans (s5.trans ((qo.new hq6).trans (.new hq7))),q⟩
def Mt:Fq P w K mg base 6 a.aT (LI a):=by
 refine fq G.aT.toDG uY (λr u=>⟨_,(oY (pG 3 uY (pE (NI G) r G.aS (qV y0 U1 U2)))
 (oY (pJ (pA u (pN ql rfl G.g qh (qd U3)) pb)
 (oZ (pk (pI (rW pf U2))))
 pD)
 (oZ (pk (pI (qV pf U2 U3)))))),?_⟩)
 rintro ds M Q ⟨A,V,l,c,z,rfl,rd,hz,nx,q⟩
 refine⟨A,V,l,c,z,rfl,rd,hz,nx,?_⟩;unfold G4 at q;cases e:xE l V c z with
 | nil=>rw[e]at q;exact⟨oW rfl,M,.refl,q⟩
 | cons x r=>rw[e]at q;exact⟨oW rfl,M,.refl,q⟩
def Ka:Fq P w K mg base 1 a.aU JZ:=by
 refine fq G.aU.toDG Ab (λr u=>⟨_,(oY (pJ (pA u (pF y0 pb) pf)
 (oZ (pk (pI (rW pf U1))))
 pD)
 (oY (pJ (pA u (pF y0 pb) pf)
 (oZ (pk (pI (rW pf U1))))
 pD)
 (oZ (pk (pI (qd pf)))))),?_⟩)
 rintro ds M Q ⟨x,r,z,rfl,q⟩
 refine i' (xF _ _) (qg (c:=x=="wait") (λg=>?_) (λg=>?_))
 .rw[dh g]at q;exact⟨oW rfl,M,.refl,q⟩
 rw[de g]at q;refine i' (xF _ _) (qg (c:=x=="break") (λg=>?_) (λg=>?_))
 .rw[dh g]at q;exact⟨oW rfl,M,.refl,q⟩
 rw[de g]at q;exact⟨oW rfl,M,.refl,q⟩
def Mr:Fq P w K mg base 8 a.aV (Nl a):=by
 refine fq G.aV.toDG wD (λr u=>⟨_,(oY (pG 4 wD (qr tI rfl G.y tD (qd U3)))
 (oY (pG 5 wD (qK sS))
 (oY (Mv eK (pA u U2 v4)
 (oY (pK (rQ v4 (qd U2)))
 (oY (pG 6 wD (pE (Hi G) r G.aR (qV y0 U1 U2)))
 (oY (pK (rQ v5 (qd (pI (rW U2 v6)))))
 (oY (pJ (pA u (pN ql rfl G.g qh (qd v6)) pb)
 (oZ (pk (pI (rW (pE (Mt G) r G.aT (qV y0 U1 U2)) v5))))
 pD)
 (oY (pG 7 wD (xK (R:=Jl a) (pF (pq (pq y0)) (pF v6 pb)) (NQ G) (r.mono (by first|decide|omega))))
 (oY (pJ (pA u (pF v7 pb) pf)
 (oZ (pk (pI (rW (pE (Ka G) r G.aU (rW v7 U2)) v5))))
 pD)
 (oZ (pG 2 wD (pF v7 pb))))))))))
 (oZ (pk (pI (rW (pI (rW pf (qr uN rfl G.L uO (qd (rS v4 (sG (xU v4 (qd U2))) sI))))) v5))))))),?_⟩)
 rintro ds M Q ⟨A,V,l,c,z0,r,XY,rfl,rd,hz0,nx,ZL,hw0,q⟩
 have hz:=dP;have p8:=rd.ok.p8;have g3:=rd.ok.g3;have nl:l.nm.length<=11:=by unfold pC.nm pC.pn pC.gn;rw[cY,cV,cV];omega
 refine i' ZL λp1 Yj=>⟨oW rfl,λp2 WG=>?_⟩;have t1:=qo.new (c:=.lst (XY.map D.str)) Yj;have t2:=qo.new (c:=.lst []) WG;have c1:oK (pB (pB M p1 (.lst (XY.map D.str))) p2 (.lst [])) p1=Fa (XY.map D.str):=t2.lst pz;have c2:=@pz (pB M p1 (.lst (XY.map D.str))) p2 [];have n12:p2≠p1:=λy=>by rw[y,pL]at WG;cases WG
 have m2:M p2=Db:=t1.none WG;have s2:=t1.trans t2;generalize pB (pB M p1 (.lst (XY.map D.str))) p2 (.lst [])=M2 at c1 c2 s2 ⊢;refine⟨λm U M'=>∃z way st,qo M M'/\oK M' p1=Fa (List.map D.str way)/\oK M' p2=Fa (rc st)/\z∈l.nm/\Ij l way<m/\way.length+m<=8000012/\st.length+m<=100/\xh l V c m z way st=uZ l V c z0 XY/\∃y6 y7,U=[Fa (.ref A.b),Fa (.str c),Fa (.str z),Fa (.ref r),Fa (.ref p1),Fa (.ref p2),y6,y7],⟨l.nm.length+1,z0,XY,[],s2,c1,c2,hz0,Nat.lt_succ_of_le (gI _ _),by omega,by show 0+(l.nm.length+1)<=100;omega,rfl,Db,Db,rfl⟩,?_⟩
 rintro m U M' ⟨z,way,st,sM,l1,l2,Xb,WP,hwl,Za,er,y6,y7,rfl⟩
 obtain⟨m,rfl⟩:∃k,m=k+1:=⟨m - 1,by omega⟩;have q2:∀WC,qo M WC->oK WC p2=Fa (rc (xh l V c (m+1) z way st).2)->Q (.tup [(xh l V c (m+1) z way st).1.d,.ref p2]) WC:=λWC s ll=>by rw[er]at ll ⊢;exact q p2 WC s m2 ll
 clear q;unfold xh at er q2;refine i' l1 ⟨rfl,qe way,?_⟩;show if (!(inD (.str z) (way.map D.str)))=pc then _ else _
 rw[rG];refine qg (c:=!(hasS way z)) (λh1=>?_) (λh1=>?_)
 rotate_left
 .
  have h1:hasS way z=pc:=by simpa using h1
  rw[dh h1]at q2;refine⟨by show(oK M' p1).isSome=pc;rw[l1];rfl,i' l1 ⟨rfl,qe _,i' (Fv z way (qz.mp h1)) (i' l1 λp3 ZJ=>?_)⟩⟩;have Zg:way.findIdx (·==z)<=(way.map D.str).length:=by rw[cV];exact List.findIdx_le_length
  rw[G6 _ _ Zg,<-kx];refine i' pz ⟨oW rfl,oW rfl,_,.refl,q2 _ (sM.trans (.new ZJ)) ((qo.new ZJ).lst l2)⟩
 have h1:hasS way z=lf:=by simpa using h1
 rw[h1,de dC]at er q2;refine⟨by show(oK M' p1).isSome=pc;rw[l1];rfl,i' l1 ⟨by rw[cV];omega,?_⟩⟩;have k3:sm p1 M' (pB M' p1 (.lst (way.map D.str++[D.str z]))):=.put;have s3:qo M (pB M' p1 (.lst (way.map D.str++[D.str z]))):=λx d hx=>by rw[tZ (Nx hx Yj)];exact sM x d hx
 have c3:=k3.lst n12 l2;have l3:oK (pB M' p1 (.lst (way.map D.str++[D.str z]))) p1=Fa ((way++[z]).map D.str):=by rw[pz,dU];rfl
 generalize pB M' p1 (.lst (way.map D.str++[D.str z]))=M3 at s3 c3 l3 ⊢;refine⟨A,V,l,c,z,rfl,rd.sub s3,Xb,?_⟩;generalize hf:DV l V c z=fs at er q2 ⊢;refine⟨by show(oK M3 p2).isSome=pc;rw[c3];rfl,oW rfl,i' c3 ⟨by unfold rc;rw[cV];omega,?_⟩⟩;have es:rc st++[.tup [.str z,xA fs]]=rc (st++[(z,fs)]):=by unfold rc;rw[dU];rfl
 rw[es];have s4:qo M (pB M3 p2 (.lst (rc (st++[(z,fs)])))):=λx d hx=>by rw[tZ (Nx hx m2)];exact s3 x d hx
 have c4:=@pz M3 p2 (rc (st++[(z,fs)]));have l4:oK (pB M3 p2 (.lst (rc (st++[(z,fs)])))) p1=Fa ((way++[z]).map D.str):=sm.lst .put (dG n12) l3;generalize pB M3 p2 (.lst (rc (st++[(z,fs)])))=M4 at s4 c4 l4 ⊢;cases fs with
 | nil=>exact⟨A,V,l,c,z,rfl,rd.sub s4,Xb,nx,oW rfl,M4,.refl,q2 M4 s4 c4⟩
 | cons i fr=>
  obtain⟨w0,ew,_⟩:=EL (l:=l) (V:=V) (f:=zD l V c z) (i:=i) (by show i∈DV l V c z;rw[hf];exact dN);dsimp only at er q2;rw[ew]at er q2;dsimp only[Option.elim]at er q2;obtain⟨ph,gr,ws,Ya,pr,gd,rs,i1,i2,i3,i4,i5,i6,i7,i8⟩:=(rd.sub s4).pl;obtain⟨Zh,e1,e2⟩:=Bf i8 ew;have hwo:=rd.ok.wo w0 (qJ ew);have Zi:∀y,IP z w0.2=.inr y->y∈l.nm:=λy h=>Cj rd.ok (qJ ew) h;refine o9 (s4 _ _ rd.bd.at_) (i' rfl (o9 i1 (i' rfl (i' (xF _ _) (i' i4 (i' e1 ?_))))));cases hv:w0.2 with
  | bar x ns=>rw[hv]at q2 e2;exact o9 e2 ⟨rfl,_,.inl ⟨.inl rfl,rfl⟩,Zh,rfl,⟨"end",[],z,rfl,oW rfl,M4,.refl,q2 M4 s4 c4⟩⟩
  | shut x ns=>rw[hv]at q2 e2;exact o9 e2 ⟨rfl,_,.inl ⟨.inr rfl,rfl⟩,Zh,rfl,⟨"end",[],z,rfl,oW rfl,M4,.refl,q2 M4 s4 c4⟩⟩
  | wait x=>rw[hv]at q2 e2;exact o9 e2 ⟨rfl,_,.inr (.inr (.inl ⟨rfl,rfl⟩)),Zh,_,_,_,rfl,e2,rfl,⟨"wait",_,z,rfl,oW rfl,M4,.refl,q2 M4 s4 c4⟩⟩
  | breaks x=>rw[hv]at q2 e2;exact o9 e2 ⟨rfl,_,.inr (.inr (.inr ⟨rfl,rfl⟩)),Zh,rfl,⟨"break",_,z,rfl,oW rfl,M4,.refl,q2 M4 s4 c4⟩⟩
  | always x y=>rw[hv]at er e2 Zi;exact o9 e2 ⟨rfl,_,.inr (.inl ⟨.inl rfl,rfl⟩),Zh,_,_,_,rfl,e2,rfl,⟨m,fK _,y,way++[z],st++[(z,i::fr)],s4,l4,c4,Zi y rfl,by have:=Bh Xb h1;omega,by rw[cY];show way.length+1+m<=_;omega,by rw[cY];show st.length+1+m<=_;omega,er,_,_,rfl⟩⟩
  | night x y f mm=>rw[hv]at er e2 Zi;exact o9 e2 ⟨rfl,_,.inr (.inl ⟨.inr (.inl rfl),rfl⟩),Zh,_,_,_,rfl,e2,rfl,⟨m,fK _,y,way++[z],st++[(z,i::fr)],s4,l4,c4,Zi y rfl,by have:=Bh Xb h1;omega,by rw[cY];show way.length+1+m<=_;omega,by rw[cY];show st.length+1+m<=_;omega,er,_,_,rfl⟩⟩
  | busy x y=>rw[hv]at er e2 Zi;exact o9 e2 ⟨rfl,_,.inr (.inl ⟨.inr (.inr (.inl rfl)),rfl⟩),Zh,_,_,_,rfl,e2,rfl,⟨m,fK _,y,way++[z],st++[(z,i::fr)],s4,l4,c4,Zi y rfl,by have:=Bh Xb h1;omega,by rw[cY];show way.length+1+m<=_;omega,by rw[cY];show st.length+1+m<=_;omega,er,_,_,rfl⟩⟩
  | silent x y n=>rw[hv]at er e2 Zi;exact o9 e2 ⟨rfl,_,.inr (.inl ⟨.inr (.inr (.inr rfl)),rfl⟩),Zh,_,_,_,rfl,e2,rfl,⟨m,fK _,y,way++[z],st++[(z,i::fr)],s4,l4,c4,Zi y rfl,by have:=Bh Xb h1;omega,by rw[cY];show way.length+1+m<=_;omega,by rw[cY];show st.length+1+m<=_;omega,er,_,_,rfl⟩⟩
noncomputable def yI(V:qu)(i:Nat)(c:pj):qu:={V with calls:=V.calls.set i c}
def se(V:qu)(i:Nat)(c d:pj):yI (yI V i c) i d=yI V i d:=by unfold yI;rw[jF]
structure CI(a:Ad)(M:Mp)(A:tM)(V:qu)(i:Nat)(k:rh)(c:pj):Prop where
 bd:pH a M A V
 e1:A.cs[i]?=Fa k
 e2:V.calls[i]?=Fa c
noncomputable def cF(x:Str)(wy ad md:Uf)(k:Nat):T0 (Str×D):=List.take (α:=Str×D) k [("state",.str "rings"),("caller",.str x),("way",.ref wy),("at",.ref ad),("members",.ref md),("holder",.mL),("since",.int 0)]
variable {M':Mp}{i:Nat}{k:rh}
section
variable {c:pj}
def CI.cell(h:CI a M A V i k c):rM a M (A.lists++V.fo) k c:=h.bd.cs i k c h.e1 h.e2
def CI.sub(h:CI a M A V i k c)(s:qo M M'):CI a M' A V i k c:=⟨h.bd.sub s,h.e1,h.e2⟩
def CI.put(h:CI a M A V i k c)(c':pj){ad md:Uf}(ew:c'.way=c.way)(la:oK M ad=Fa (c'.at_.map D.str))(lm:oK M md=Fa (c'.ms.map D.str))(na:ad∉A.lists++V.fo)(nm:md∉A.lists++V.fo):
  CI a (pB M k.p (.ins a.e (ra c' k.wy ad md))) A (yI V i c') i k c'/\qQ A M A (pB M k.p (.ins a.e (ra c' k.wy ad md))):=by
 obtain⟨b,s⟩:=h.bd.oa h.e1 h.e2 ew la lm na nm;refine⟨⟨b,h.e1,?_⟩,s⟩;show(V.calls.set i c')[i]?=Fa c';rw[fJ (cZ.mp h.e2).1]
end
inductive Qh(i:Nat)(c:pj):Ev->pj->Prop
 | rings (ps:QQQ):Qh i c (.rings i ps) (c.ring ps)
 | quiet:Qh i c (.quiet i) c.nI
 | waits (x:Str):Qh i c (.waits i x) (c.wait x)
 | talks (ms:QQQ):Qh i c (.talks i ms) (c.nC ms)
 | held (x:Str):Qh i c (.held i x) (c.hold x)
 | leaves (x:Str):Qh i c (.leaves i x) (c.drop x)
 | over (w:Str):Qh i c (.over i w) (c.over w)
def GN(a:Ad):qY:=λds M Q=>CW λp x=>ds=[.ref p,.str x]/\M p=Fa (.ins a.e [])/\∀M' wy ad md,sm p M M'->M wy=Db->M ad=Db->M md=Db->ad≠wy->md≠wy->M' p=Fa (.ins a.e (ra (zB x) wy ad md))->oK M' wy=Fa []->oK M' ad=Fa []->oK M' md=Fa []->Q .mL M'
def PV(a:Ad):qY:=λds M Q=>J0 λA V i k c w=>ds=[.ref k.p,.str w]/\CI a M A V i k c/\∀M',qQ A M A M'->pH a M' A (yI V i (c.over w))->Q .mL M'
def LK(a:Ad):qY:=λds M Q=>J0 λA V i k c x=>ds=[.ref k.p,.str x]/\CI a M A V i k c/\c.at_.length<=100/\c.ms.length<=100/\∀M',qQ A M A M'->pH a M' A (yI V i (c.drop x))->Q .mL M'
def Kf(a:Ad):qY:=λds M Q=>SO λA V i k c e c'=>ds=[.ref k.p,Ev.d e]/\CI a M A V i k c/\c.at_.length<=100/\c.ms.length<=100/\Qh i c e c'/\∀M',qQ A M A M'->pH a M' A (yI V i c')->Q .mL M'
def PL:Fq P w K mg base 1 a.aC (GN a):=by
 refine fq G.aC.toDG EJ (λr u=>⟨_,(oY (pX y0 pf)
 (oY (pX y0 U1)
 (oY (pX y0 (qK sS))
 (oY (pX y0 (qK sS))
 (oY (pX y0 (qK sS))
 (oY (pX y0 sr)
 (oY (pX y0 pb)
 (oZ (pX y0 sr))))))))),?_⟩)
 rintro ds M Q ⟨p,x,rfl,hb,q⟩
 refine o9 hb ⟨(G.j "state" rfl),by show 0<1000;decide,?_⟩;have k1:sm p M (pB M p (.ins a.e [("state",.str "rings")])):=.put;have b1:pB M p (.ins a.e [("state",.str "rings")]) p=Fa (.ins a.e [("state",.str "rings")]):=pL;show uy _ _ _ _ (pB M p (.ins a.e [("state",.str "rings")]));generalize pB M p (.ins a.e [("state",.str "rings")])=N1 at k1 b1 ⊢;refine o9 b1 ⟨(G.j "caller" rfl),by show 1<1000;decide,?_⟩;have k2:=k1.trans (sm.put (p:=p) (c:=.ins a.e [("state",.str "rings"),("caller",.str x)]));have b2:pB N1 p (.ins a.e [("state",.str "rings"),("caller",.str x)]) p=Fa (.ins a.e [("state",.str "rings"),("caller",.str x)]):=pL;show uy _ _ _ _ (pB N1 p (.ins a.e [("state",.str "rings"),("caller",.str x)]));generalize pB N1 p (.ins a.e [("state",.str "rings"),("caller",.str x)])=N2 at k2 b2 ⊢;refine⟨oW rfl,λwy hwy=>?_⟩;obtain⟨n3,e3,k3,c3,b3⟩:=sU (fs':=(cF x wy 0 0 3)) (c:=.lst []) b2 hwy;refine o9 e3 ⟨(G.j "way" rfl),by show 2<1000;decide,?_⟩;show uy _ _ _ _ (pB (pB N2 wy (.lst [])) p (.ins a.e (cF x wy 0 0 3)));generalize pB (pB N2 wy (.lst [])) p (.ins a.e (cF x wy 0 0 3))=N3 at k3 c3 b3 ⊢;have z1:M wy=Db:=rB k2 b2 hwy;have kk3:=k2.trans k3;have l3:oK N3 wy=Fa []:=sJ c3;refine⟨oW rfl,λad YS=>?_⟩;obtain⟨n4,e4,k4,c4,b4⟩:=sU (fs':=(cF x wy ad 0 4)) (c:=.lst []) b3 YS;refine o9 e4 ⟨(G.j "at" rfl),by show 3<1000;decide,?_⟩;show uy _ _ _ _ (pB (pB N3 ad (.lst [])) p (.ins a.e (cF x wy ad 0 4)));generalize pB (pB N3 ad (.lst [])) p (.ins a.e (cF x wy ad 0 4))=N4 at k4 c4 b4 ⊢;have z2:M ad=Db:=rB kk3 b3 YS;have YE:=kk3.trans k4;have naw:ad≠wy:=λz=>by rw[z,c3]at YS;cases YS
 have l4:=k4.lst (pO l3 b3) l3;have m4:oK N4 ad=Fa []:=sJ c4;refine⟨oW rfl,λmd hmd=>?_⟩;obtain⟨n5,e5,k5,c5,b5⟩:=sU (fs':=(cF x wy ad md 5)) (c:=.lst []) b4 hmd;refine o9 e5 ⟨(G.j "members" rfl),by show 4<1000;decide,?_⟩;show uy _ _ _ _ (pB (pB N4 md (.lst [])) p (.ins a.e (cF x wy ad md 5)));generalize pB (pB N4 md (.lst [])) p (.ins a.e (cF x wy ad md 5))=N5 at k5 c5 b5 ⊢;have z3:M md=Db:=rB YE b4 hmd;have YF:=YE.trans k5;have nmw:md≠wy:=λz=>by rw[z,qm l4]at hmd;cases hmd
 have l5:=k5.lst (pO l4 b4) l4;have m5:=k5.lst (pO m4 b4) m4;have o5:oK N5 md=Fa []:=sJ c5;refine o9 b5 ⟨(G.j "holder" rfl),by show 5<1000;decide,?_⟩;have k6:sm p N5 (pB N5 p (.ins a.e (cF x wy ad md 6))):=.put;have b6:pB N5 p (.ins a.e (cF x wy ad md 6)) p=Fa (.ins a.e (cF x wy ad md 6)):=pL;show uy _ _ _ _ (pB N5 p (.ins a.e (cF x wy ad md 6)));generalize pB N5 p (.ins a.e (cF x wy ad md 6))=N6 at k6 b6 ⊢;refine o9 b6 ⟨(G.j "since" rfl),by show 6<1000;decide,?_⟩;have k7:=k6.trans (sm.put (p:=p) (c:=.ins a.e (cF x wy ad md 7)));have b7:pB N6 p (.ins a.e (cF x wy ad md 7)) p=Fa (.ins a.e (cF x wy ad md 7)):=pL;rw[show vV "since" (.int 0) (cF x wy ad md 6)=(cF x wy ad md 7)from rfl];generalize pB N6 p (.ins a.e (cF x wy ad md 7))=N7 at k7 b7 ⊢;refine o9 b7 ⟨(G.j "word" rfl),by show 7<1000;decide,_,.refl,?_⟩;have k8:=k7.trans (sm.put (p:=p) (c:=.ins a.e (ra (zB x) wy ad md)));exact q _ wy ad md (YF.trans k8) z1 z2 z3 naw nmw pL (k8.lst (pO l5 b5) l5) (k8.lst (pO m5 b5) m5) (k8.lst (pO o5 b5) o5)
def Jh:Fq P w K mg base 1 a.ab (PV a):=by
 refine fq G.ab.toDG GQ (λr u=>⟨_,(oY (pX y0 pf)
 (oY (pX y0 U1)
 (oY (pX y0 (qK sS))
 (oY (pX y0 (qK sS))
 (oZ (pX y0 sr)))))),?_⟩)
 rintro ds M Q ⟨A,V,i,k,c,w0,rfl,h,q⟩
 obtain⟨ad,md,h1,h2,h3,h4,n1,n2⟩:=h.cell;refine o9 h1 ⟨(G.j "state" rfl),by show 8<1000;decide,?_⟩;obtain⟨g1,s1⟩:=h.put {c with st:="over"} rfl h3 h4 n1 n2;show uy _ _ _ _ (pB M k.p (.ins a.e (ra {c with st:="over"} k.wy ad md)));generalize pB M k.p (.ins a.e (ra {c with st:="over"} k.wy ad md))=M1 at g1 s1 ⊢;clear h1 h2 h3 h4 n1 n2;obtain⟨ad,md,h1,h2,h3,h4,n1,n2⟩:=g1.cell;refine o9 h1 ⟨(G.j "word" rfl),by show 8<1000;decide,?_⟩;obtain⟨g2,s2⟩:=g1.put {c with st:="over",wd:=some w0} rfl h3 h4 n1 n2;show uy _ _ _ _ (pB M1 k.p (.ins a.e (ra {c with st:="over",wd:=some w0} k.wy ad md)));generalize pB M1 k.p (.ins a.e (ra {c with st:="over",wd:=some w0} k.wy ad md))=M2 at g2 s2 ⊢;clear h1 h2 h3 h4 n1 n2;refine⟨oW rfl,λp hp=>?_⟩;have t3:=qo.new (c:=.lst []) hp;have lp:=@pz M2 p [];have np:=g2.bd.nk hp;have YW:=g2.sub t3;have s2':=s2.trans (.sub t3);generalize pB M2 p (.lst [])=M2' at t3 lp YW s2' ⊢;obtain⟨ad,md,h1,h2,h3,h4,n1,n2⟩:=YW.cell;refine o9 h1 ⟨(G.j "at" rfl),by show 8<1000;decide,?_⟩;obtain⟨g3,s3⟩:=YW.put {c with st:="over",wd:=some w0,at_:=[]} rfl lp h4 np n2;show uy _ _ _ _ (pB M2' k.p (.ins a.e (ra {c with st:="over",wd:=some w0,at_:=[]} k.wy p md)));generalize pB M2' k.p (.ins a.e (ra {c with st:="over",wd:=some w0,at_:=[]} k.wy p md))=M3 at g3 s3 ⊢;clear h1 h2 h3 h4 n1 n2 lp t3 np g2 YW;refine⟨oW rfl,λp2 WG=>?_⟩;have t4:=qo.new (c:=.lst []) WG;have lp:=@pz M3 p2 [];have np:=g3.bd.nk WG;have Zj:=g3.sub t4;have s3':=s3.trans (.sub t4);generalize pB M3 p2 (.lst [])=M3' at t4 lp Zj s3' ⊢;obtain⟨ad,md,h1,h2,h3,h4,n1,n2⟩:=Zj.cell;refine o9 h1 ⟨(G.j "members" rfl),by show 8<1000;decide,?_⟩;obtain⟨g4,s4⟩:=Zj.put {c with st:="over",wd:=some w0,at_:=[],ms:=[]} rfl h3 lp n1 np;rw[show vV "members" (.ref p2) (ra {c with st:="over",wd:=some w0,at_:=[]} k.wy ad md)=ra {c with st:="over",wd:=some w0,at_:=[],ms:=[]} k.wy ad p2 from rfl];generalize pB M3' k.p (.ins a.e (ra {c with st:="over",wd:=some w0,at_:=[],ms:=[]} k.wy ad p2))=M4 at g4 s4 ⊢;clear h1 h2 h3 h4 n1 n2 lp t4 np g3 Zj;obtain⟨ad,md,h1,h2,h3,h4,n1,n2⟩:=g4.cell;refine o9 h1 ⟨(G.j "holder" rfl),by show 8<1000;decide,_,.refl,?_⟩;obtain⟨g5,s5⟩:=g4.put (c.over w0) rfl h3 h4 n1 n2;refine q _ ((s1.trans s2').trans (s3'.trans (s4.trans s5))) ?_;have:=g5.bd;rw[se,se,se,se]at this;exact this
def Mu:Fq P w K mg base 1 a.aP (LK a):=by
 refine fq G.aP.toDG CS (λr u=>⟨_,(oY (pX y0 (qE rfl (xw (ix:=[Db,Fa 1]) (N':=["other","phone"])) (qv (pq y0)) (qB 0) (uQ (pA u y0 U1)) y0))
 (oZ (pX y0 (qE rfl (xw (ix:=[Db,Fa 1]) (N':=["other","phone"])) (qv (pq y0)) (qB 0) (uQ (pA u y0 U1)) y0)))),?_⟩)
 rintro ds M Q ⟨A,V,i,k,c,x,rfl,h,la,lm,q⟩
 have hz:=dP;obtain⟨ad,md,h1,h2,h3,h4,n1,n2⟩:=h.cell;refine o9 h1 (i' rfl (i' h3 (tG (f:=id) (t:=Pj x) h3 _ [] _ (by rw[cV];simp only[dO];omega) (λd hd k0 hk=>?_) (λd hd _ k0 hk=>?_) λp hp=>?_)))
 .obtain⟨y,hy,rfl⟩:=dD.mp hd;exact hk
 .obtain⟨y,hy,rfl⟩:=dD.mp hd;exact hk
 rw[Bo];have t1:=qo.new (c:=.lst ((rE c.at_ x).map D.str)) hp;have lp:=@pz M p ((rE c.at_ x).map D.str);have np:=h.bd.nk hp;have h':=h.sub t1;have s1:qQ A M A (pB M p (.lst ((rE c.at_ x).map D.str))):=.sub t1;generalize pB M p (.lst ((rE c.at_ x).map D.str))=M1 at t1 lp h' s1 ⊢;clear h1 h2 h3 h4 n1 n2;obtain⟨ad,md,h1,h2,h3,h4,n1,n2⟩:=h'.cell;refine o9 h1 ⟨(G.j "at" rfl),by show 8<1000;decide,?_⟩;obtain⟨g2,s2⟩:=h'.put {c with at_:=rE c.at_ x} rfl lp h4 np n2;rw[show vV "at" (.ref p) (ra c k.wy ad md)=ra {c with at_:=rE c.at_ x} k.wy p md from rfl];generalize pB M1 k.p (.ins a.e (ra {c with at_:=rE c.at_ x} k.wy p md))=M2 at g2 s2 ⊢;clear h1 h2 h3 h4 n1 n2 lp np;obtain⟨ad,md,h1,h2,h3,h4,n1,n2⟩:=g2.cell;refine o9 h1 (i' rfl (i' h4 (tG (f:=id) (t:=Pj x) h4 _ [] _ (by rw[cV];simp only[dO];show 0+c.ms.length<=Ch;omega) (λd hd k0 hk=>?_) (λd hd _ k0 hk=>?_) λp2 WG=>?_)))
 .obtain⟨y,hy,rfl⟩:=dD.mp hd;exact hk
 .obtain⟨y,hy,rfl⟩:=dD.mp hd;exact hk
 rw[Bo];have t3:=qo.new (c:=.lst ((rE c.ms x).map D.str)) WG;have lp:=@pz M2 p2 ((rE c.ms x).map D.str);have np:=g2.bd.nk WG;have YW:=g2.sub t3;have s3:qQ A M2 A (pB M2 p2 (.lst ((rE c.ms x).map D.str))):=.sub t3;generalize pB M2 p2 (.lst ((rE c.ms x).map D.str))=M3 at t3 lp YW s3 ⊢;clear h1 h2 h3 h4 n1 n2;obtain⟨ad,md,h1,h2,h3,h4,n1,n2⟩:=YW.cell;refine o9 h1 ⟨(G.j "members" rfl),by show 8<1000;decide,_,.refl,?_⟩;obtain⟨g4,s4⟩:=YW.put (c.drop x) rfl h3 lp n1 np;refine q _ ((s1.trans s2).trans (s3.trans s4)) ?_;have:=g4.bd;rw[se]at this;exact this
def Ke:Fq P w K mg base 2 a.aQ (Kf a):=by
 refine fq G.aQ.toDG xP (λr u=>⟨_,(oY (pG 2 xP (pF U1 pb))
 (oZ (pJ (pA u U2 pf)
 (oY (pX y0 pf)
 (oY (pX y0 (qr tI rfl G.y tD (qd (pF U1 pb))))
 (oZ (pX y0 pb))))
 (oZ (pJ (pA u U2 pf)
 (oZ (pX y0 (qK sS)))
 (oZ (pJ (pA u U2 pf)
 (oY (pX y0 pf)
 (oZ (pX y0 (qK (qd (pF U1 pb))))))
 (oZ (pJ (pA u U2 pf)
 (oY (pX y0 pf)
 (oY (pX y0 (qr tI rfl G.y tD (qd (pF U1 pb))))
 (oY (pX y0 (qK sS))
 (oZ (pX y0 sr)))))
 (oZ (pJ (pA u U2 pf)
 (oY (pX y0 pf)
 (oZ (pX y0 (pF U1 pb))))
 (oZ (pJ (pA u U2 pf)
 (oZ (pK (pE (Mu G) r G.aP (rW y0 (pF U1 pb)))))
 (oZ (pJ (pA u U2 pf)
 (oZ (pK (pE (Jh G) r G.ab (rW y0 (pF U1 pb)))))
 pD))))))))))))))),?_⟩)
 rintro ds M Q ⟨A,V,i,k,c,e,c',rfl,h,la,lm,hc,q⟩
 cases hc with
 | over w0=>exact⟨A,V,i,k,c,w0,rfl,h,λM' s b=>⟨M',.refl,q M' s b⟩⟩
 | leaves x=>exact⟨A,V,i,k,c,x,rfl,h,la,lm,λM' s b=>⟨M',.refl,q M' s b⟩⟩
 | quiet=>refine⟨oW rfl,λp hp=>?_⟩;have t3:=qo.new (c:=.lst []) hp;have lp:=@pz M p [];have np:=h.bd.nk hp;have g1:=h.sub t3;generalize pB M p (.lst [])=M1 at t3 lp g1 ⊢;obtain⟨ad,md,h1,h2,h3,h4,n1,n2⟩:=g1.cell;refine o9 h1 ⟨(G.j "at" rfl),by show 8<1000;decide,_,.refl,?_⟩;obtain⟨g5,s5⟩:=g1.put c.nI rfl lp h4 np n2;exact q _ ((qQ.sub t3).trans s5) g5.bd
 | waits x=>obtain⟨ad,md,h1,h2,h3,h4,n1,n2⟩:=h.cell;refine o9 h1 ⟨(G.j "state" rfl),by show 8<1000;decide,?_⟩;obtain⟨g1,s1⟩:=h.put {c with st:="waits"} rfl h3 h4 n1 n2;show uy _ _ _ _ (pB M k.p (.ins a.e (ra {c with st:="waits"} k.wy ad md)));generalize pB M k.p (.ins a.e (ra {c with st:="waits"} k.wy ad md))=M1 at g1 s1 ⊢;clear h1 h2 h3 h4 n1 n2;refine⟨oW rfl,λp hp=>?_⟩;have t3:=qo.new (c:=.lst [D.str x]) hp;have lp:=@pz M1 p [D.str x];have np:=g1.bd.nk hp;have Yy:=g1.sub t3;generalize pB M1 p (.lst [D.str x])=M1' at t3 lp Yy ⊢;obtain⟨ad,md,h1,h2,h3,h4,n1,n2⟩:=Yy.cell;refine o9 h1 ⟨(G.j "at" rfl),by show 8<1000;decide,_,.refl,?_⟩;obtain⟨g5,s5⟩:=Yy.put (c.wait x) rfl lp h4 np n2;refine q _ (s1.trans ((qQ.sub t3).trans s5)) ?_;have:=g5.bd;rw[se]at this;exact this
 | held x=>obtain⟨ad,md,h1,h2,h3,h4,n1,n2⟩:=h.cell;refine o9 h1 ⟨(G.j "state" rfl),by show 8<1000;decide,?_⟩;obtain⟨g1,s1⟩:=h.put {c with st:="held"} rfl h3 h4 n1 n2;show uy _ _ _ _ (pB M k.p (.ins a.e (ra {c with st:="held"} k.wy ad md)));generalize pB M k.p (.ins a.e (ra {c with st:="held"} k.wy ad md))=M1 at g1 s1 ⊢;clear h1 h2 h3 h4 n1 n2;obtain⟨ad,md,h1,h2,h3,h4,n1,n2⟩:=g1.cell;refine o9 h1 ⟨(G.j "holder" rfl),by show 8<1000;decide,_,.refl,?_⟩;obtain⟨g5,s5⟩:=g1.put (c.hold x) rfl h3 h4 n1 n2;refine q _ (s1.trans s5) ?_;have:=g5.bd;rw[se]at this;exact this
 | rings ps=>obtain⟨ad,md,h1,h2,h3,h4,n1,n2⟩:=h.cell;refine o9 h1 ⟨(G.j "state" rfl),by show 8<1000;decide,?_⟩;obtain⟨g1,s1⟩:=h.put {c with st:="rings"} rfl h3 h4 n1 n2;show uy _ _ _ _ (pB M k.p (.ins a.e (ra {c with st:="rings"} k.wy ad md)));generalize pB M k.p (.ins a.e (ra {c with st:="rings"} k.wy ad md))=M1 at g1 s1 ⊢;clear h1 h2 h3 h4 n1 n2;refine λp hp=>?_;have t3:=qo.new (c:=.lst (ps.map D.str)) hp;have lp:=@pz M1 p (ps.map D.str);have np:=g1.bd.nk hp;have Yy:=g1.sub t3;have s1':=s1.trans (.sub t3);generalize pB M1 p (.lst (ps.map D.str))=M1' at t3 lp Yy s1' ⊢;obtain⟨ad,md,h1,h2,h3,h4,n1,n2⟩:=Yy.cell;refine o9 h1 ⟨(G.j "at" rfl),by show 8<1000;decide,?_⟩;obtain⟨g3,s3⟩:=Yy.put {c with st:="rings",at_:=ps} rfl lp h4 np n2;rw[show vV "at" (.ref p) (ra {c with st:="rings"} k.wy ad md)=ra {c with st:="rings",at_:=ps} k.wy p md from rfl];generalize pB M1' k.p (.ins a.e (ra {c with st:="rings",at_:=ps} k.wy p md))=M3 at g3 s3 ⊢;clear h1 h2 h3 h4 n1 n2 lp t3 np;obtain⟨ad,md,h1,h2,h3,h4,n1,n2⟩:=g3.cell;refine o9 h1 ⟨(G.j "since" rfl),by show 8<1000;decide,_,.refl,?_⟩;obtain⟨g5,s5⟩:=g3.put (c.ring ps) rfl h3 h4 n1 n2;refine q _ (s1'.trans (s3.trans s5)) ?_;have:=g5.bd;rw[se,se]at this;exact this
 | talks ms=>obtain⟨ad,md,h1,h2,h3,h4,n1,n2⟩:=h.cell;refine o9 h1 ⟨(G.j "state" rfl),by show 8<1000;decide,?_⟩;obtain⟨g1,s1⟩:=h.put {c with st:="talks"} rfl h3 h4 n1 n2;show uy _ _ _ _ (pB M k.p (.ins a.e (ra {c with st:="talks"} k.wy ad md)));generalize pB M k.p (.ins a.e (ra {c with st:="talks"} k.wy ad md))=M1 at g1 s1 ⊢;clear h1 h2 h3 h4 n1 n2;refine λp hp=>?_;have t3:=qo.new (c:=.lst (ms.map D.str)) hp;have lp:=@pz M1 p (ms.map D.str);have np:=g1.bd.nk hp;have Yy:=g1.sub t3;have s1':=s1.trans (.sub t3);generalize pB M1 p (.lst (ms.map D.str))=M1' at t3 lp Yy s1' ⊢;obtain⟨ad,md,h1,h2,h3,h4,n1,n2⟩:=Yy.cell;refine o9 h1 ⟨(G.j "members" rfl),by show 8<1000;decide,?_⟩;obtain⟨g3,s3⟩:=Yy.put {c with st:="talks",ms:=ms} rfl h3 lp n1 np;show uy _ _ _ _ (pB M1' k.p (.ins a.e (ra {c with st:="talks",ms:=ms} k.wy ad p)));generalize pB M1' k.p (.ins a.e (ra {c with st:="talks",ms:=ms} k.wy ad p))=M3 at g3 s3 ⊢;clear h1 h2 h3 h4 n1 n2 lp t3 np;refine⟨oW rfl,λp2 WG=>?_⟩;have t4:=qo.new (c:=.lst []) WG;have lp:=@pz M3 p2 [];have np:=g3.bd.nk WG;have Zj:=g3.sub t4;have s3':=s3.trans (.sub t4);generalize pB M3 p2 (.lst [])=M3' at t4 lp Zj s3' ⊢;obtain⟨ad,md,h1,h2,h3,h4,n1,n2⟩:=Zj.cell;refine o9 h1 ⟨(G.j "at" rfl),by show 8<1000;decide,?_⟩;obtain⟨g4,s4⟩:=Zj.put {c with st:="talks",ms:=ms,at_:=[]} rfl lp h4 np n2;rw[show vV "at" (.ref p2) (ra {c with st:="talks",ms:=ms} k.wy ad md)=ra {c with st:="talks",ms:=ms,at_:=[]} k.wy p2 md from rfl];generalize pB M3' k.p (.ins a.e (ra {c with st:="talks",ms:=ms,at_:=[]} k.wy p2 md))=M4 at g4 s4 ⊢;clear h1 h2 h3 h4 n1 n2 lp t4 np;obtain⟨ad,md,h1,h2,h3,h4,n1,n2⟩:=g4.cell;refine o9 h1 ⟨(G.j "holder" rfl),by show 8<1000;decide,_,.refl,?_⟩;obtain⟨g5,s5⟩:=g4.put (c.nC ms) rfl h3 h4 n1 n2;refine q _ (s1'.trans (s3'.trans (s4.trans s5))) ?_;have:=g5.bd;rw[se,se,se]at this;exact this
theorem tH{α:Type}{f:α->α}:∀{l:List α} {i:Nat} {c:α},l[i]?=Fa c->l.modify i f=l.set i (f c)
 | [],_,_,h=>by simp at h
 | _::_,0,_,h=>by cases h;rfl
 | x::r,i+1,c,h=>by rw[List.modify_succ_cons,kX,tH (l:=r) (by simpa using h)]
def B4(ps:T0 (Str×Int))(z:Str)(n:Int):Bp (rK ps) (.inr z) (.int n)=rK (zY ps z n):=by
 have ea:((rK ps).any λkv=>decide (kv.1=(Sum.inr z:qZ)))=ps.any λp=>decide (p.1=z):=by unfold rK;rw[jJ];congr 1;funext p;have:((Sum.inr p.1:qZ)=Sum.inr z)=(p.1=z):=propext ⟨λh=>jV h,λh=>by rw[h]⟩;simp only[Function.comp,this]
 unfold Bp zY;rw[ea];by_cases h:(ps.any λp=>decide (p.1=z))=pc
 .rw[dh h,dh h];unfold rK;rw[eA,eA];refine gQ λp _=>?_;by_cases hp:p.1=z
  .simp[hp]
  .have:¬(Sum.inr p.1:qZ)=Sum.inr z:=λy=>hp (jV y);simp[hp]
 .rw[de h,de h];unfold rK;rw[dU];rfl
def F2{α:Type}{l:List α}{i:Nat}{x:α}(h:l[i]?=Fa x):l.set i x=l:=by obtain⟨hi,e⟩:=cZ.mp h;rw[<-e,List.set_getElem_self]
structure V5(V:qu):Prop where
 lo:V.log.length<10000000
 le:V.mS.length<10000000
 ca:V.calls.length<=1000000
 ps:V.ps.length<10000000
 cs:∀c∈V.calls,c.way.length<10000000/\c.at_.length<=100/\c.ms.length<=100
def A7(a:Ad):qY:=λds M Q=>GY λA V k c v=>ds=[.ref A.b,rY.d v]/\CI a M A V v.i k c/\V.mS.length<10000000/\c.way.length<10000000/\∀M',qQ A M A M'->pH a M' A {yI V v.i (c.go v.g)with mS:=V.mS++[v]}->Q .mL M'
def C9(a:Ad):qY:=λds M Q=>RV λA V i j ki ci cj ms=>ds=[.ref A.b,.int (i:Nat),.int (j:Nat),names ms]/\CI a M A V i ki ci/\V.calls[j]?=Fa cj/\i≠j/\V.mS.length<10000000/\∀M' A',A'.b=A.b->qQ A M A' M'->pH a M' A' {yI (yI V i (ci.over "merged")) j (cj.mem ms)with mS:=V.mS.map (rY.to i j)}->Q .mL M'
def zb(a:Ad):qY:=λds M Q=>CW λA V=>ds=[.ref A.b]/\pH a M A V/\∀M',qQ A M A M'->pH a M' A {V with t:=V.t+1,calls:=V.calls.map pj.tick}->Q .mL M'
def wc(a:Ad):qY:=λds M Q=>BA λb A V e=>ds=[.ref b,Ev.d e]/\A.b=b/\pH a M A V/\V5 V/\e.ok V/\∀M' A',A'.b=A.b->qQ A M A' M'->pH a M' A' (qa V e)->Q .mL M'
noncomputable def Rb(m k:Nat):D->D
 | .tup (.int i::r)=>if i=(m:Int)then .tup (.int (k:Nat)::r)else .tup (.int i::r)
 | d=>d
def Re(m k:Nat)(v:rY):Rb m k v.d=(v.to m k).d:=by
 show(if ((v.i:Nat):Int)=(m:Int)then _ else _)=_;unfold rY.to;by_cases h:v.i=m
 .rw[dh h,dh (by rw[h])];rfl
 .rw[de h,de (by omega)];rfl
def G9:Fq P w K mg base 1 a.bE (A7 a):=by
 refine fq G.bE.toDG zQ (λr u=>⟨_,(oY (pK (rQ (pq y0) (qd U1)))
 (oZ (pK (rQ (pq (pF (pq y0) (pF U1 pb))) (qd (pF U1 pb)))))),?_⟩)
 rintro ds M Q ⟨A,V,k,c,v,rfl,ci,l1,l2,q⟩
 have hz:=dP;have bd:=ci.bd;refine o9 bd.at_ (i' rfl ⟨by show(oK M A.le).isSome=pc;rw[bd.le];rfl,i' bd.le ⟨by rw[cV];omega,?_⟩⟩);obtain⟨b1,s1⟩:=bd.oq (es:=V.mS++[v]);rw[dU]at b1 s1;have b1:pH a (pB M A.le (.lst (V.mS.map rY.d++[v.d]))) A {V with mS:=V.mS++[v]}:=b1;have s1:qQ A M A (pB M A.le (.lst (V.mS.map rY.d++[v.d]))):=s1;generalize pB M A.le (.lst (V.mS.map rY.d++[v.d]))=M1 at b1 s1 ⊢;obtain⟨ad,md,h1,h2,h3,h4,n1,n2⟩:=b1.cs v.i k c ci.e1 ci.e2;refine o9 b1.at_ (i' rfl (i' b1.ca (i' (rb ci.e1) (o9 h1 (i' rfl ⟨by show(oK M1 k.wy).isSome=pc;rw[h2];rfl,i' h2 ⟨by rw[cV];omega,?_⟩⟩)))));obtain⟨b2,s2⟩:=b1.oj (ws:=c.way++[v.g]) ci.e1 ci.e2;rw[dU]at b2 s2;exact⟨_,.refl,q _ (s1.trans s2) b2⟩
def MB:Fq P w K mg base 2 a.bF (C9 a):=by
 refine fq G.bF.toDG xD (λr u=>⟨_,(oY (pK (pE (Jh G) r G.ab (rW (pF (pq y0) U1) pf)))
 (oY (pX y0 (qE rfl (xw (ix:=[Db,Fa 1,Fa 2]) (N':=["leg","merged","kept"])) (qv (pq y0)) (qB 0) rP (Qc (pA u (pF y0 pb) U1) (pQ (pI (qd U2)) (rS y0 (sG pb) sI)) y0)))
 (oY (pG 4 xD (pF (pq y0) U2))
 (oZ (pX v4 (qr tI rfl G.y tD (qd U3))))))),?_⟩)
 rintro ds M Q ⟨A,V,i,j,ki,ci,cj,ms,rfl,hi,hj,Xw,l1,q⟩
 have hz:=dP;refine o9 hi.bd.at_ (i' rfl (i' rfl (i' hi.bd.ca (i' (rb hi.e1) ⟨A,V,i,ki,ci,"merged",rfl,hi,λM1 s1 b1=>?_⟩))));have hj1:(yI V i (ci.over "merged")).calls[j]?=Fa cj:=by show(V.calls.set i _)[j]?=_;rw[fG Xw];exact hj
 have le1:oK M1 A.le=Fa (V.mS.map rY.d):=b1.le;refine o9 b1.at_ (i' rfl (i' le1 (qR (f:=Rb i j) le1 _ [] _ (by rw[cV];simp only[dO];omega) (λd hd k hk=>?_) λp hp=>?_)))
 .obtain⟨v,_,rfl⟩:=dD.mp hd;refine i' rfl ?_;have hk:k (if ((v.i:Nat):Int)=(i:Int)then .tup [.int (j:Nat),.str v.f,.str v.g,.str v.y]else .tup [.int (v.i:Nat),.str v.f,.str v.g,.str v.y]) M1:=hk;refine qg (c:=((v.i:Nat):Int)==(i:Nat)) (λz=>?_) (λz=>?_)
  .rw[dh (At z)]at hk;exact⟨oW rfl,fR _ _,by show 1+3<=Ch;omega,hk⟩
  .rw[de (λy=>z (by rw[y];exact fi _))]at hk;exact hk
 have em:[]++(V.mS.map rY.d).map (Rb i j)=(V.mS.map (rY.to i j)).map rY.d:=by rw[d6,eA,eA];exact gQ λv _=>Re i j v
 rw[em];obtain⟨b2,s2⟩:=b1.oz (es:=V.mS.map (rY.to i j)) hp;have t:=qo.new (c:=.lst ((V.mS.map (rY.to i j)).map rY.d)) hp;refine o9 (t _ _ b1.at_) ⟨(G.C "legs" rfl),by show 8<1000;decide,?_⟩;show uy _ _ _ _ (pB (pB M1 p (.lst ((V.mS.map (rY.to i j)).map rY.d))) A.b (.ins a.c (tP (.ref V.p) V.h V.t A.ca p A.nx A.on A.lo)));have b2:pH a (pB (pB M1 p (.lst ((V.mS.map (rY.to i j)).map rY.d))) A.b (.ins a.c (tP (.ref V.p) V.h V.t A.ca p A.nx A.on A.lo))) {A with le:=p} {yI V i (ci.over "merged")with mS:=V.mS.map (rY.to i j)}:=b2;have s2:qQ A M1 {A with le:=p} (pB (pB M1 p (.lst ((V.mS.map (rY.to i j)).map rY.d))) A.b (.ins a.c (tP (.ref V.p) V.h V.t A.ca p A.nx A.on A.lo))):=s2;generalize pB (pB M1 p (.lst ((V.mS.map (rY.to i j)).map rY.d))) A.b (.ins a.c (tP (.ref V.p) V.h V.t A.ca p A.nx A.on A.lo))=M2 at b2 s2 ⊢;have hjk:j<A.cs.length:=by rw[hi.bd.len];exact(cZ.mp hj).1
 have ej:A.cs[j]?=Fa A.cs[j]:=cX hjk;generalize A.cs[j]=kj at ej;have cj2:CI a M2 {A with le:=p} _ j kj cj:=⟨b2,ej,hj1⟩;refine o9 b2.at_ (i' rfl (i' rfl (i' b2.ca (i' (rb ej) ?_))));refine λr ZL=>?_;have t3:=qo.new (c:=.lst (ms.map D.str)) ZL;have lr:=@pz M2 r (ms.map D.str);have nr:=b2.nk ZL;have cj3:=cj2.sub t3;generalize pB M2 r (.lst (ms.map D.str))=M3 at t3 lr cj3 ⊢;obtain⟨ad,md,h1,h2,h3,h4,n1,n2⟩:=cj3.cell;refine o9 h1 ⟨(G.j "members" rfl),by show 8<1000;decide,_,.refl,?_⟩;obtain⟨g5,s5⟩:=cj3.put (cj.mem ms) rfl h3 lr n1 nr;exact q _ {A with le:=p} rfl (s1.trans (s2.trans ((qQ.sub t3).trans s5))) g5.bd
def Fs:Fq P w K mg base 1 a.bG (zb a):=by
 refine fq G.bG.toDG vD (λr u=>⟨_,(oY (DH y0 pb)
 (oZ (sT eK rfl (qv (pq y0)) (qI 1 vD)
 (oZ (pJ (pA u (pq U1) pf)
 (oZ (DH U1 pb))
 pD))))),?_⟩)
 rintro ds M Q ⟨A,V,rfl,bd,q⟩
 refine o9 bd.at_ ⟨(G.C "turn" rfl),i' rfl (i' rfl (o9 bd.at_ ⟨rfl,by show 8<1000;decide,?_⟩))⟩;obtain⟨b1,s1⟩:=bd.putT (t:=V.t+1);rw[show vV "turn" (.int (V.t+1)) (tP (.ref V.p) V.h V.t A.ca A.le A.nx A.on A.lo)=tP (.ref V.p) V.h (V.t+1) A.ca A.le A.nx A.on A.lo from rfl];generalize pB M A.b (.ins a.c (tP (.ref V.p) V.h (V.t+1) A.ca A.le A.nx A.on A.lo))=M1 at b1 s1 ⊢;refine o9 b1.at_ (i' rfl (i' b1.ca ?_));refine uc (A.cs.map λk=>D.ref k.p) (λpre U M'=>pH a M' A {V with t:=V.t+1,calls:=(V.calls.take pre.length).map pj.tick++V.calls.drop pre.length}/\qQ A M A M'/\∃y,U=[Fa (.ref A.b),y]) (λ_ _ M' j=>j.1.ca) _ [] _ _ rfl ⟨b1,s1,Db,rfl⟩ ?_ ?_
 .rintro pre d post e U M' ⟨b2,s2,y,rfl⟩ nx WI
  have hd:(A.cs.map λk=>D.ref k.p)[pre.length]?=Fa d:=by rw[<-e];simp
  rw[dF]at hd;cases ek:A.cs[pre.length]? with
  | none=>rw[ek]at hd;cases hd
  | some k=>
   rw[ek]at hd;have hd:D.ref k.p=d:=dv hd;subst hd;have hi:pre.length<V.calls.length:=by rw[<-bd.len];exact(cZ.mp ek).1
   have ec:V.calls[pre.length]?=Fa V.calls[pre.length]:=cX hi;have ed:V.calls.drop pre.length=V.calls[pre.length]::V.calls.drop (pre.length+1):=il hi;have et:V.calls.take (pre.length+1)=V.calls.take pre.length++[V.calls[pre.length]]:=by rw[gv,ec];rfl
   generalize V.calls[pre.length]=c at ec ed et;have hl:((V.calls.take pre.length).map pj.tick).length=pre.length:=by rw[cV,fh];omega
   have ec2:((V.calls.take pre.length).map pj.tick++V.calls.drop pre.length)[pre.length]?=Fa c:=by rw[eY (by rw[hl];exact dw _),hl,h9,ed];rfl
   rw[cY,dJ,et]at WI;have en:((V.calls.take pre.length).map pj.tick++V.calls.drop pre.length).set pre.length c.tick=(V.calls.take pre.length++[c]).map pj.tick++V.calls.drop (pre.length+1):=by rw[j9 _ _ (by rw[hl];exact dw _),hl,h9,ed,dU,fj];rfl
   have ci:CI a M' A _ pre.length k c:=⟨b2,ek,ec2⟩;obtain⟨ad,md,h1,h2,h3,h4,n1,n2⟩:=ci.cell;refine o9 h1 (i' rfl ?_);have ht:c.tick=if (c.st=="rings")=pc then{c with si:=c.si+1}else c:=rfl;refine qg (c:=c.st=="rings") (λg=>?_) (λg=>?_)
   .rw[dh g]at ht;refine o9 h1 ⟨(G.j "since" rfl),i' rfl (i' rfl (o9 h1 ⟨rfl,by show 8<1000;decide,?_⟩))⟩;obtain⟨g5,s5⟩:=ci.put c.tick (by rw[ht]) (by rw[ht];exact h3) (by rw[ht];exact h4) n1 n2;have b5:=g5.bd;unfold yI at b5;rw[en]at b5;rw[ht]at b5 s5;exact WI _ _ ⟨b5,s2.trans s5,_,rfl⟩
   .rw[de g]at ht;rw[ht,F2 ec2]at en;rw[en]at b2;exact WI _ _ ⟨b2,s2,_,rfl⟩
 .rintro U M' ⟨b2,s2,y,rfl⟩
  rw[cV,bd.len,eS,jE,e9]at b2;exact⟨M',.refl,q M' s2 b2⟩
def qU:Fq P w K mg base 3 a.k (wc a):=by
 refine fq G.k.toDG xC (λr u=>⟨_,(oY (pK (rQ (pq y0) (qd U1)))
 (oY (pG 2 xC (pF U1 pb))
 (oZ (pJ (pA u U2 pf)
 (oZ (pK (rQ (pq y0) (qd (vq (PL G) r G.e G.ch G.aC.toDG (qd (pF U1 pb)))))))
 (oZ (pJ (pA u U2 pf)
 (oZ (pK (pT y0 G.c.toCls G.bE (G9 G) r (qd (rS U1 (sG pb) sI)))))
 (oZ (pJ (pA u U2 pf)
 (oZ (IT u (pq y0) (pF U1 pb) (pF U1 pb)))
 (oZ (pJ (pA u U2 pf)
 (oZ (pK (pT y0 G.c.toCls G.bF (MB G) r (qV (pF U1 pb) (pF U1 pb) (pF U1 pb)))))
 (oZ (pJ (pA u U2 pf)
 (oZ (pK (yg y0 G.c.toCls G.bG (Fs G) r)))
 (oZ (pJ (pA u U2 (pI (rW pf pf)))
 (oZ (Sk (pR u U2 pf) (Sg (pq y0) (pF U1 pb))))
 (oZ (pJ (pA u U2 pf)
 (oZ (pK (pE (Ke G) r G.aQ (rW (pF (pq y0) (pF U1 pb)) U1))))
 pD)))))))))))))))),?_⟩)
 rintro ds M Q ⟨_,A,V,e,rfl,rfl,bd,lim,ev,q⟩
 have hz:=dP;have ll:=lim.lo;have lc:=lim.ca;have lp:=lim.ps;refine o9 bd.at_ (i' rfl ⟨by show(oK M A.lo).isSome=pc;rw[bd.lo];rfl,i' bd.lo ⟨by rw[cV];omega,?_⟩⟩);have hb:=bd.oi (es:=V.log++[e]);rw[dU]at hb;obtain⟨b1,s1⟩:pH a (pB M A.lo (.lst (V.log.map Ev.d++[e.d]))) A (qM V e)/\qQ A M A (pB M A.lo (.lst (V.log.map Ev.d++[e.d]))):=hb;show uy _ _ _ _ (pB M A.lo (.lst (V.log.map Ev.d++[e.d])));generalize pB M A.lo (.lst (V.log.map Ev.d++[e.d]))=M1 at b1 s1 ⊢;have YG:∀i,i<V.calls.length->∃k c,A.cs[i]?=Fa k/\V.calls[i]?=Fa c/\c∈V.calls:=λi hi=>by
  have XM:i<A.cs.length:=by rw[bd.len];exact hi
  exact⟨_,_,cX XM,cX hi,ic hi⟩
 have ZM:∀(i:Nat) (k:rh) (c:pj) (c':pj) (f:pj->pj),A.cs[i]?=Fa k->V.calls[i]?=Fa c->f c=c'->qa V e=xN (qM V e) i f->∀(M2:Mp),qQ A M1 A M2->pH a M2 A (yI (qM V e) i c')->∃WC,qo WC M2/\Q .mL WC:=λi k c c' f e1 e2 e3 e4 M2 s2 b2=>⟨M2,.refl,q M2 A rfl (s1.trans s2) (by
  rw[e4];unfold xN;rw[show(qM V e).calls=V.calls from rfl,tH e2,e3];exact b2)⟩
 cases e with
 | new n x=>refine o9 b1.at_ (i' rfl ⟨by show(oK M1 A.ca).isSome=pc;rw[b1.ca];rfl,λp hp=>⟨p,x,rfl,pL,λM2 wy ad md kp z1 z2 z3 n1 n2 h1 h2 h3 h4=>⟨rfl,?_⟩⟩⟩);have sp:=qo.new (c:=.ins a.e []) hp;have s2:qo M1 M2:=λy d hy=>kp y d (Nx hy hp) (sp y d hy);refine i' (s2.lst b1.ca) ⟨by rw[cV,b1.len];show V.calls.length<Ch;omega,?_⟩;obtain⟨b3,s3⟩:=b1.nZ s2 (c:=zB x) hp (sp.none z1) (sp.none z2) (sp.none z3) h1 h2 h3 h4 n1 n2;exact⟨_,.refl,q _ (A.add ⟨p,wy⟩) rfl (s1.trans s3) b3⟩
 | leg v=>obtain⟨k,c,ek,ec,hc⟩:=YG v.i ev;refine o9 b1.at_ ⟨rfl,_,⟨rfl,rfl⟩,A,qM V (.leg v),k,c,v,rfl,⟨b1,ek,ec⟩,lim.le,(lim.cs c hc).1,λM2 s2 b2=>⟨M2,.refl,q M2 A rfl (s1.trans s2) ?_⟩⟩;show pH a M2 A {qM V (.leg v)with mS:=V.mS++[v],calls:=V.calls.modify v.i (·.go v.g)};rw[tH ec];exact b2
 | next z n=>refine o9 b1.at_ (i' rfl (i' b1.nx ⟨by show(rK V.ps).length<Ch;unfold rK;rw[cV];omega,?_⟩));rw[B4];obtain⟨b2,s2⟩:=b1.oF (ps:=zY V.ps z n);exact⟨_,.refl,q _ A rfl (s1.trans s2) b2⟩
 | merge i j ms=>obtain⟨hi,hj,hij,_⟩:=ev;obtain⟨ki,ci,eki,eci,hci⟩:=YG i hi;obtain⟨kj,cj,ekj,ecj,hcj⟩:=YG j hj;refine o9 b1.at_ ⟨rfl,_,⟨rfl,rfl⟩,A,qM V (.merge i j ms),i,j,ki,ci,cj,ms,rfl,⟨b1,eki,eci⟩,ecj,hij,lim.le,λM2 A2 eb s2 b2=>⟨M2,.refl,q M2 A2 eb (s1.trans s2) ?_⟩⟩;show pH a M2 A2 {qM V (.merge i j ms)with calls:=(V.calls.modify i (·.over "merged")).modify j (·.mem ms),mS:=V.mS.map (rY.to i j)};rw[tH eci,tH (show(V.calls.set i _)[j]?=Fa cj by rw[fG hij];exact ecj)];exact b2
 | asks i z ns=>exact⟨oW rfl,rfl,rfl,M1,.refl,q M1 A rfl s1 b1⟩
 | turn=>exact o9 b1.at_ ⟨rfl,_,⟨rfl,rfl⟩,A,qM V .turn,rfl,b1,λM2 s2 b2=>⟨M2,.refl,q M2 A rfl (s1.trans s2) b2⟩⟩
 | sw b i=>
  have hi:i<V.on.length:=ev;obtain⟨b2,s2⟩:=b1.oG (bs:=V.on.set i b);have es:(V.on.map D.bl).set i (.bl b)=(V.on.set i b).map D.bl:=(mw).symm;have ix:FG (V.on.map D.bl).length (i:Nat)=Fa i:=by rw[cV];unfold FG;simp[hi]
  have WB:∃WC,qo WC (pB M1 A.on (.lst ((V.on.map D.bl).set i (.bl b))))/\Q .mL WC:=by rw[es];exact⟨_,.refl,q _ A rfl (s1.trans s2) b2⟩
  cases b with
  | true=>exact⟨oW rfl,rfl,rfl,o9 b1.at_ (i' rfl (i' b1.on (i' ix WB)))⟩
  | false=>exact⟨oW rfl,rfl,rfl,o9 b1.at_ (i' rfl (i' b1.on (i' ix WB)))⟩
 | rings i ps=>obtain⟨k,c,ek,ec,hc⟩:=YG i ev.1;exact⟨oW rfl,rfl,rfl,o9 b1.at_ (i' rfl (i' b1.ca (i' (rb ek) ⟨A,qM V _,i,k,c,_,_,rfl,⟨b1,ek,ec⟩,(lim.cs c hc).2.1,(lim.cs c hc).2.2,.rings ps,ZM i k c _ _ ek ec rfl rfl⟩)))⟩
 | quiet i=>obtain⟨k,c,ek,ec,hc⟩:=YG i ev;exact⟨oW rfl,rfl,rfl,o9 b1.at_ (i' rfl (i' b1.ca (i' (rb ek) ⟨A,qM V _,i,k,c,_,_,rfl,⟨b1,ek,ec⟩,(lim.cs c hc).2.1,(lim.cs c hc).2.2,.quiet,ZM i k c _ _ ek ec rfl rfl⟩)))⟩
 | waits i x=>obtain⟨k,c,ek,ec,hc⟩:=YG i ev;exact⟨oW rfl,rfl,rfl,o9 b1.at_ (i' rfl (i' b1.ca (i' (rb ek) ⟨A,qM V _,i,k,c,_,_,rfl,⟨b1,ek,ec⟩,(lim.cs c hc).2.1,(lim.cs c hc).2.2,.waits x,ZM i k c _ _ ek ec rfl rfl⟩)))⟩
 | talks i ms=>obtain⟨k,c,ek,ec,hc⟩:=YG i ev.1;exact⟨oW rfl,rfl,rfl,o9 b1.at_ (i' rfl (i' b1.ca (i' (rb ek) ⟨A,qM V _,i,k,c,_,_,rfl,⟨b1,ek,ec⟩,(lim.cs c hc).2.1,(lim.cs c hc).2.2,.talks ms,ZM i k c _ _ ek ec rfl rfl⟩)))⟩
 | held i x=>obtain⟨k,c,ek,ec,hc⟩:=YG i ev;exact⟨oW rfl,rfl,rfl,o9 b1.at_ (i' rfl (i' b1.ca (i' (rb ek) ⟨A,qM V _,i,k,c,_,_,rfl,⟨b1,ek,ec⟩,(lim.cs c hc).2.1,(lim.cs c hc).2.2,.held x,ZM i k c _ _ ek ec rfl rfl⟩)))⟩
 | leaves i x=>obtain⟨k,c,ek,ec,hc⟩:=YG i ev;exact⟨oW rfl,rfl,rfl,o9 b1.at_ (i' rfl (i' b1.ca (i' (rb ek) ⟨A,qM V _,i,k,c,_,_,rfl,⟨b1,ek,ec⟩,(lim.cs c hc).2.1,(lim.cs c hc).2.2,.leaves x,ZM i k c _ _ ek ec rfl rfl⟩)))⟩
 | over i w0=>obtain⟨k,c,ek,ec,hc⟩:=YG i ev;exact⟨oW rfl,rfl,rfl,o9 b1.at_ (i' rfl (i' b1.ca (i' (rb ek) ⟨A,qM V _,i,k,c,_,_,rfl,⟨b1,ek,ec⟩,(lim.cs c hc).2.1,(lim.cs c hc).2.2,.over w0,ZM i k c _ _ ek ec rfl rfl⟩)))⟩
noncomputable def Lb:QQQ:=["barred","ring","engaged","left","refused","done","merged"]
def Lc(o:Bool)(c:pj):Prop:=(c.st="rings"/\c.ms=[]/\c.hd=Db/\c.wd=Db/\(o=pc->c.at_=[])/\(o=lf->c.at_≠[]))\/(o=lf/\((c.st="waits"/\c.ms=[]/\c.hd=Db/\c.wd=Db/\c.at_.length=1)\/(c.st="talks"/\(c.ms.length=2\/c.ms.length=3)/\c.hd=Db/\c.wd=Db/\c.at_=[])\/
 (∃x,c.st="held"/\c.ms.length=2/\c.hd=Fa x/\x∈c.ms/\c.wd=Db/\c.at_=[])\/(c.st="over"/\c.ms=[]/\c.hd=Db/\c.at_=[]/\∃w∈Lb,c.wd=Fa w)))
structure wb(l:pC)(o:Bool)(c:pj):Prop where
 sh:Lc o c
 cr:c.cr∈l.pn
 at_:∀x∈c.at_,x∈l.pn
 ms:∀x∈c.ms,x∈l.pn
 an:c.at_.Nodup
 mn:c.ms.Nodup
 ca:c.cr∉c.at_
 wy:c.way≠[]/\∀z∈c.way,z∈l.nm
def Bd(c:pj)(x:Str):Prop:=c.m8 x=pc\/c.mR x=pc
structure zJ(l:pC)(V:qu)(o:Option Nat):Prop where
 ok:∀(i:Nat) c,V.calls[i]?=Fa c->wb l (o==Fa i) c
 un:∀(i j:Nat) ci cj x,V.calls[i]?=Fa ci->V.calls[j]?=Fa cj->Bd ci x->Bd cj x->i=j
 ln:∀x∈l.pn,(uk V x:Int)<=wQ l x
 wt:∀(i j:Nat) ci cj x,V.calls[i]?=Fa ci->V.calls[j]?=Fa cj->ci.mK x=pc->cj.mK x=pc->i=j
 nx:uj l V
abbrev WF(l:pC)(V:qu):Prop:=zJ l V Db
structure Sz(V:qu)(c n:Nat):Prop where
 lo:V.log.length<=n
 le:V.mS.length<=n
 ca:V.calls.length<=c
 ps:V.ps.length<=n
 cs:∀k∈V.calls,k.way.length<=n/\k.at_.length<=100/\k.ms.length<=100
def Sz.mono{V:qu}{c n c' n':Nat}(h:Sz V c n)(hc:c<=c')(hn:n<=n'):Sz V c' n':=⟨eh h.lo hn,eh h.le hn,eh h.ca hc,eh h.ps hn,λk hk=>⟨eh (h.cs k hk).1 hn,(h.cs k hk).2⟩⟩
noncomputable def Ev.nw:Ev->Nat
 | .new _ _=>1
 | _=>0
def KO(ps:T0 (Str×Int))(z:Str)(n:Int):(zY ps z n).length<=ps.length+1:=by
 unfold zY;split
 .rw[cV];omega
 .rw[cY];exact dw _
def Im(ss:QQQ)(x:Str):(rE ss x).length<=ss.length:=gI _ _
def EK{α:Type}{f:α->α}{l:List α}{i:Nat}{x:α}(h:x∈l.modify i f):x∈l\/∃y∈l,x=f y:=by
 cases e:l[i]? with
 | none=>rw[kE (by simpa using e)]at h;exact .inl h
 | some c=>
  rw[tH e]at h;rcases List.mem_or_eq_of_mem_set h with g|g
  .exact .inl g
  .exact .inr ⟨c,fY e,g⟩
def Sz.step{V:qu}{c n:Nat}{e:Ev}(h:Sz V c n)(ok:e.ok V):Sz (qa V e) (c+e.nw) (n+1):=by
 have h1:Sz (qM V e) c (n+1):=⟨by show(V.log++[e]).length<=n+1;rw[cY];exact ie h.lo,jp h.le,h.ca,jp h.ps,λk hk=>⟨jp (h.cs k hk).1,(h.cs k hk).2⟩⟩;have md:∀(i:Nat) (f:pj->pj),(∀k∈V.calls,(f k).way=k.way/\(f k).at_.length<=100/\(f k).ms.length<=100)->Sz (xN (qM V e) i f) c (n+1):=λi f hf=>⟨h1.lo,h1.le,by show(V.calls.modify i f).length<=c;rw[gp];exact h.ca,h1.ps,λk hk=>by
  rcases EK hk with g|⟨y,hy,rfl⟩
  .exact h1.cs k g
  .obtain⟨a1,a2,a3⟩:=hf y hy;exact⟨by rw[a1];exact(h1.cs y hy).1,a2,a3⟩⟩
 cases e with
 | new m x=>
  refine⟨h1.lo,h1.le,by show(V.calls++[zB x]).length<=c+1;rw[cY];exact ie h.ca,h1.ps,λk hk=>?_⟩;rcases dR.mp hk with g|g
  .exact h1.cs k g
  .rw[dg.mp g];exact⟨eZ _,eZ _,eZ _⟩
 | leg v=>
  refine⟨h1.lo,by show(V.mS++[v]).length<=n+1;rw[cY];exact ie h.le,by show(V.calls.modify v.i _).length<=c;rw[gp];exact h.ca,h1.ps,λk hk=>?_⟩;rcases EK (l:=V.calls) hk with g|⟨y,hy,rfl⟩
  .exact h1.cs k g
  .exact⟨by show(y.way++[v.g]).length<=n+1;rw[cY];exact ie (h.cs y hy).1,(h.cs y hy).2⟩
 | asks i z ns=>exact h1
 | next z m=>exact⟨h1.lo,h1.le,h1.ca,eh (KO _ _ _) (ie h.ps),h1.cs⟩
 | merge i j ms=>
  have m1:=md i (·.over "merged") λk hk=>⟨rfl,eZ _,eZ _⟩;refine⟨h1.lo,by show(V.mS.map _).length<=n+1;rw[cV];exact h1.le,by show((V.calls.modify i _).modify j _).length<=c;rw[gp,gp];exact h.ca,h1.ps,λk hk=>?_⟩;rcases EK (l:=V.calls.modify i (·.over "merged")) hk with g|⟨y,hy,rfl⟩
  .exact m1.cs k g
  .exact⟨(m1.cs y hy).1,(m1.cs y hy).2.1,ok.2.2.2⟩
 | turn=>
  refine⟨h1.lo,h1.le,by show(V.calls.map pj.tick).length<=c;rw[cV];exact h.ca,h1.ps,λk hk=>?_⟩;obtain⟨y,hy,rfl⟩:=dD.mp hk;have e:y.tick.way=y.way/\y.tick.at_=y.at_/\y.tick.ms=y.ms:=by unfold pj.tick;split<;>exact⟨rfl,rfl,rfl⟩
  rw[e.1,e.2.1,e.2.2];exact h1.cs y hy
 | sw b i=>exact⟨h1.lo,h1.le,h1.ca,h1.ps,h1.cs⟩
 | rings i ps=>exact md i _ λk hk=>⟨rfl,ok.2,(h.cs k hk).2.2⟩
 | quiet i=>exact md i _ λk hk=>⟨rfl,eZ _,(h.cs k hk).2.2⟩
 | waits i x=>exact md i _ λk hk=>⟨rfl,by show 1<=100;decide,(h.cs k hk).2.2⟩
 | talks i ms=>exact md i _ λk hk=>⟨rfl,eZ _,ok.2⟩
 | held i x=>exact md i _ λk hk=>⟨rfl,(h.cs k hk).2.1,(h.cs k hk).2.2⟩
 | leaves i x=>exact md i _ λk hk=>⟨rfl,eh (Im _ _) (h.cs k hk).2.1,eh (Im _ _) (h.cs k hk).2.2⟩
 | over i w=>exact md i _ λk hk=>⟨rfl,eZ _,eZ _⟩
def Sf(V:qu)(e:Ev):(qa V e).p=V.p/\(qa V e).h=V.h/\(qa V e).on.length=V.on.length:=by cases e<;>first|exact⟨rfl,rfl,rfl⟩|exact⟨rfl,rfl,ik⟩
structure ux(a:Ad)(M0 M:Mp)(b:Uf)(A:tM)(V:qu)(l:pC)(c n:Nat):Prop where
 bd:pH a M A V
 pl0:sY a M0 V.p l
 s0:qo M0 M
 fr:∀x∈A.foot,M0 x=Db
 b:A.b=b
 sz:Sz V c n
 ok:rf l
 on:V.on.length=l.mG.length
variable {M0:Mp}{b:Uf}{A':tM}{V':qu}{l:pC}{n:Nat}
section
variable {c:Nat}
def ux.at_(h:ux a M0 M b A V l c n):M b=Fa (.ins a.c (tP (.ref V.p) V.h V.t A.ca A.le A.nx A.on A.lo)):=h.b ▸ h.bd.at_
def ux.sub(h:ux a M0 M b A V l c n)(s:qo M M'):ux a M0 M' b A V l c n:=⟨h.bd.sub s,h.pl0,h.s0.trans s,h.fr,h.b,h.sz,h.ok,h.on⟩
def ux.pl(h:ux a M0 M b A V l c n):sY a M V.p l:=h.pl0.sub h.s0
def ux.mono(h:ux a M0 M b A V l c n){c' n':Nat}(hc:c<=c')(hn:n<=n'):ux a M0 M b A V l c' n':=⟨h.bd,h.pl0,h.s0,h.fr,h.b,h.sz.mono hc hn,h.ok,h.on⟩
def ux.lim(h:ux a M0 M b A V l c n)(hc:c<=1000000)(hn:n<9000000):V5 V:=⟨iC h.sz.lo (by omega),iC h.sz.le (by omega),eh h.sz.ca hc,iC h.sz.ps (by omega),λk hk=>⟨iC (h.sz.cs k hk).1 (by omega),(h.sz.cs k hk).2⟩⟩
def ux.rd(h:ux a M0 M b A V l c n)(hc:c<=1000000){o:Option Nat}(wf:zJ l V o):Rd a M A V l:=⟨h.bd,eh h.sz.ca hc,h.pl,h.ok,h.on,λk hk=>by
 obtain⟨i,hi,e⟩:=fM hk;exact⟨(wf.ok i k (by rw[cX hi,e])).ms,(h.sz.cs k hk).2.2⟩⟩
def ux.call(h:ux a M0 M b A V l c n){i:Nat}{v:pj}(e:V.calls[i]?=Fa v):∃k,CI a M A V i k v:=by
 have hi:i<A.cs.length:=by rw[h.bd.len];exact(cZ.mp e).1
 exact⟨A.cs[i],h.bd,cX hi,e⟩
def ux.after(h:ux a M0 M b A V l c n){e:Ev}(ok:e.ok V)(eb:A'.b=A.b)(st:qQ A M A' M')(bd:pH a M' A' (qa V e)):ux a M0 M' b A' (qa V e) l (c+e.nw) (n+1):=by
 obtain⟨p1,p2,p3⟩:=Sf V e;refine⟨bd,p1 ▸ h.pl0,λx d hx=>st.1 x d (λz=>?_) (h.s0 x d hx),λx hx=>?_,eb.trans h.b,h.sz.step ok,h.ok,p3.trans h.on⟩
 .rw[h.fr x z]at hx;cases hx
 .rcases st.2.1 x hx with z|z
  .exact h.fr x z
  .exact h.s0.none z
end
def GV(l:pC)(V:qu)(c:Str):vK->Prop
 | .rings z ps=>z∈l.nm/\ps≠[]/\ps=xE l V c z
 | .breaks z=>∃x,x=c/\Bq l V x c z=pc
 | .waits z=>z∈l.pn/\z≠c/\wC V z=lf
 | .ring ns=>ns≠[]
 | _=>True
def Gx{V:qu}{c z:Str}:(∀x∈xE l V c z,x∈sQ l V c z/\x∈l.mE z)/\(xE l V c z).length<=(l.mE z).length:=by
 have hr:∀x∈sQ l V c z,x∈l.mE z:=λx hx=>(eQ.mp hx).1;unfold xE;split
 .refine⟨λx hx=>?_,?_⟩
  .have hx:=(eQ.mp (iT hx)).2;have hx:=qz.mp hx;exact⟨hx,hr x hx⟩
  .cases e:(uW (l.mE z) (zv V z)).filter λx=>hasS (sQ l V c z) x with
   | nil=>exact eZ _
   | cons y r=>
    have hy:y∈uW (l.mE z) (zv V z):=(eQ.mp (by rw[e];exact dN)).1;have hy:y∈l.mE z:=by
     unfold uW at hy;rcases dR.mp hy with q|q
     .exact ko q
     .exact iT q
    rw[fh];have:=List.length_pos_of_mem hy;omega
 .exact⟨λx hx=>⟨hx,hr x hx⟩,gI _ _⟩
def Ot{l:pC}{V:qu}{c z:Str}(hz:z∈l.nm):GV l V c (G4 l V c z):=by
 unfold G4;split
 .trivial
 .rename_i x r e;exact⟨hz,fR _ _,e.symm⟩
structure yf(l:pC)(V:qu)(c:Str)(n:Nat)(st:tz)(r:vK×tz):Prop where
 e:GV l V c r.1
 len:r.2.length<=st.length+n
 nm:∀s∈r.2,s∈st\/s.1∈l.nm
 wy:∀ns,r.1=.ring ns->∀z∈ns,z∈l.nm
theorem zu{V:qu}{c:Str}(ok:rf l):∀(n:Nat) (z:Str) (way:QQQ) (st:tz),z∈l.nm->(∀x∈way,x∈l.nm)->yf l V c n st (xh l V c n z way st)
 | 0,z,way,st,_,_=>⟨trivial,dw _,λs hs=>.inl hs,λns h=>by cases h⟩
 | n+1,z,way,st,hz,hw=>by
  unfold xh;by_cases h:hasS way z=pc
  .rw[dh h];refine⟨?_,by show st.length<=_;omega,λs hs=>.inl hs,λns e y hy=>?_⟩
   .have h1:way.findIdx (·==z)<way.length:=List.findIdx_lt_length_of_exists ⟨z,qz.mp h,fi z⟩;show way.drop _≠[];intro g;have:=eR List.length g;rw[gA]at this;simp only[dO]at this;omega
   .cases e;exact hw y (ko hy)
  rw[de h];have sn:∀(fs:T0 Nat),∀s∈st++[(z,fs)],s∈st\/s.1∈l.nm:=λfs s hs=>by
   rcases dR.mp hs with g|g
   .exact .inl g
   .rw[dg.mp g];exact .inr hz
  have sl:∀fs:T0 Nat,(st++[(z,fs)]).length=st.length+1:=λfs=>by rw[cY];rfl
  cases hf:DV l V c z with
  | nil=>refine⟨Ot hz,by show(st++[(z,[])]).length<=_;rw[sl];omega,sn [],λns e=>?_⟩;have e:G4 l V c z=.ring ns:=e;unfold G4 at e;split at e<;>cases e
  | cons i r=>
   obtain⟨w,ew,W9⟩:=EL (l:=l) (V:=V) (f:=zD l V c z) (i:=i) (by show i∈DV l V c z;rw[hf];exact dN);dsimp only;rw[ew];dsimp only[Option.elim];have stop:∀e:vK,GV l V c e->(∀ns,e≠.ring ns)->yf l V c (n+1) st (e,st++[(z,i::r)]):=λe he WZ=>⟨he,by show(st++[(z,i::r)]).length<=_;rw[sl];omega,sn _,λns g=>absurd g (WZ ns)⟩
   have YX:∀y,IP z w.2=.inr y->yf l V c (n+1) st (xh l V c n y (way++[z]) (st++[(z,i::r)])):=λy hy=>by
    have hr:=zu (V:=V) (c:=c) ok n y (way++[z]) (st++[(z,i::r)]) (Cj ok (qJ ew) hy) λx hx=>by
     rcases dR.mp hx with g|g
     .exact hw x g
     .rw[dg.mp g];exact hz
    refine⟨hr.e,by have:=hr.len;rw[sl]at this;omega,λs hs=>?_,hr.wy⟩;rcases hr.nm s hs with g|g
    .exact sn _ s g
    .exact .inr g
   cases hv:w.2 with
   | bar x ns=>exact stop _ trivial λns g=>by cases g
   | shut x ns=>exact stop _ trivial λns g=>by cases g
   | wait x=>
    rw[hv]at W9;have hf2:(if (!(z==x)||(c==x))=pc then lf else tN l V c z&&!(wC V z))=pc:=W9;have hx:xV l.pn x:=by have:=ok.wo w (qJ ew);rw[hv]at this;exact this
    by_cases g:(!(z==x)||(c==x))=pc
    .rw[dh g]at hf2;cases hf2
    rw[de g]at hf2;simp only[gH,gw,eO,jq,dY]at g hf2;have ezx:=At g.1;subst ezx;exact stop _ ⟨qz.mp hx,λy=>g.2 (by rw[y];exact fi _),hf2.2⟩ λns g=>by cases g
   | breaks x=>
    rw[hv]at W9;refine stop _ ⟨x,?_,?_⟩ λns g=>by cases g
    .have W9:Bq l V x c z=pc:=W9;unfold Bq at W9;by_cases g:(!(c==x)||(z==x))=pc
     .rw[dh g]at W9;cases W9
     .simp only[gH,gw,eO,jq]at g;exact(At g.1).symm
    .exact W9
   | always x y=>exact YX y (by rw[hv];rfl)
   | night x y f m=>exact YX y (by rw[hv];rfl)
   | busy x y=>exact YX y (by rw[hv];rfl)
   | silent x y m=>exact YX y (by rw[hv];rfl)
def GA{V:qu}{x c z:Str}(h:Bq l V x c z=pc):∃j k,vE V z=Fa j/\V.calls[j]?=Fa k/\k.st="talks"/\z∈k.ms/\k.ms.length=2/\z≠c:=by
 unfold Bq at h;by_cases g:(!(c==x)||(z==x))=pc
 .rw[dh g]at h;cases h
 rw[de g]at h;simp only[gH,gw,eO,jq]at g;by_cases g2:(!(hasS l.pn z)||!(tN l V c z))=pc
 .rw[dh g2]at h;cases h
 rw[de g2]at h;cases e:vE V z with
 | none=>rw[e]at h;cases h
 | some j=>obtain⟨hj,ht,_⟩:=iG.mp e;rw[e]at h;have h:((V.calls[j]?).elim lf λk=>(k.ms.length==2)&&Cz l x k.ms)=pc:=h;rw[cX hj]at h;have h:((V.calls[j].ms.length==2)&&Cz l x V.calls[j].ms)=pc:=h;unfold pj.mM at ht;rw[dY]at h ht;refine⟨j,V.calls[j],rfl,cX hj,At ht.1,qz.mp ht.2,At h.1,λy=>?_⟩;rw[y]at g;have:=At g.1;rw[this,fi]at g;exact absurd rfl g.2
noncomputable def pj.bare(c:pj):pj:={c with way:=[]}
def tK(V V':qu):Prop:=V'.calls.map pj.bare=V.calls.map pj.bare
def tK.at_{V V':qu}(h:tK V V'){i:Nat}{c:pj}(e:V.calls[i]?=Fa c):∃c',V'.calls[i]?=Fa c'/\c'.bare=c.bare:=by
 have:=eR (·[i]?) h;simp only[dF,e]at this;cases e':V'.calls[i]? with
 | none=>rw[e']at this;cases this
 | some c'=>rw[e']at this;exact⟨c',rfl,dv this⟩
def zo(f:pj->Bool)(hf:∀c,f c.bare=f c)(cs:List pj):(cs.map pj.bare).findIdx? f=cs.findIdx? f:=by rw[hJ];congr 1;funext c;exact hf c
def tK.nC{V V':qu}(h:tK V V')(z:Str):vE V' z=vE V z:=by unfold vE;rw[<-zo _ (λ_=>rfl) V'.calls,h,zo _ (λ_=>rfl)]
def tK.ends{V V':qu}(h:tK V V')(i:Nat)(e:vK):sH l V' i e=sH l V i e:=by
 cases e with
 | breaks z=>
  unfold sH;dsimp only;rw[h.nC];have key:∀j:Nat,(V'.calls[j]?).map pj.bare=(V.calls[j]?).map pj.bare:=λj=>by
   have:=eR (·[j]?) h
   simpa only [dF]using this
  have ki:=key i;cases vE V z with
  | none=>rfl
  | some j=>
   have kj:=key j;cases e1:V.calls[i]? with
   | none=>rw[e1]at ki;rw[show V'.calls[i]?=Db by cases q:V'.calls[i]? with|none=>rfl|some _=>rw[q]at ki;cases ki]
   | some c=>
    rw[e1]at ki;cases e2:V'.calls[i]? with
    | none=>rw[e2]at ki;cases ki
    | some c'=>
     rw[e2]at ki;have k1:c'.cr=c.cr:=by have kb:c'.bare=c.bare:=dv ki;exact show c'.bare.cr=c.bare.cr by rw[kb]
     have k2:(V'.calls[j]?).elim [] pj.ms=(V.calls[j]?).elim [] pj.ms:=by
      cases e3:V.calls[j]? with
      | none=>rw[e3]at kj;rw[show V'.calls[j]?=Db by cases q:V'.calls[j]? with|none=>rfl|some _=>rw[q]at kj;cases kj]
      | some d=>
       rw[e3]at kj;cases e4:V'.calls[j]? with
       | none=>rw[e4]at kj;cases kj
       | some d'=>rw[e4]at kj;exact show d'.bare.ms=d.bare.ms by rw[show d'.bare=d.bare from dv kj]
     dsimp only;rw[k1,k2]
 | _=>rfl
def tK.trans{V V1 V2:qu}(h:tK V V1)(g:tK V1 V2):tK V V2:=Eq.trans g h
def yT(V:qu)(v:rY):tK V (qa V (.leg v)):=by
 show(V.calls.modify v.i (·.go v.g)).map pj.bare=V.calls.map pj.bare;cases e:V.calls[v.i]? with
 | none=>rw[kE (by simpa using e)]
 | some c=>rw[tH e,mw,show(c.go v.g).bare=c.bare from rfl,F2 (by rw[dF,e];rfl)]
def Dv(V:qu)(i:Nat)(z:Str)(ns:T0 Nat):tK V (qa V (.asks i z ns)):=rfl
def tK.len{V V':qu}(h:tK V V'):V'.calls.length=V.calls.length:=by
 have:=eR List.length h
 rwa [cV,cV]at this
noncomputable def FJ:Option Str->tz->Option Str
 | o,[]=>o
 | _,(z,_)::r=>FJ (Fa z) r
noncomputable def TR(i:Nat)(z:Str)(fs:T0 Nat):Option Str->T0 Ev
 | none=>[.asks i z fs]
 | some y=>[.leg ⟨i,y,z,y⟩,.asks i z fs]
theorem yz(i:Nat)(z:Str)(fs:T0 Nat):∀(st:tz) (o:Option Str),rF i o (st++[(z,fs)])=rF i o st++TR i z fs (FJ o st)
 | [],none=>rfl
 | [],Fa _=>rfl
 | (y,gs)::r,none=>by show .asks i y gs::rF i (Fa y) (r++[(z,fs)])=_;rw[yz i z fs r];rfl
 | (y,gs)::r,Fa u=>by show .leg ⟨i,u,y,u⟩::.asks i y gs::rF i (Fa y) (r++[(z,fs)])=_;rw[yz i z fs r];rfl
theorem B5(z:Str)(fs:T0 Nat):∀(st:tz) (o:Option Str),FJ o (st++[(z,fs)])=Fa z
 | [],_=>rfl
 | _::r,_=>B5 z fs r _
theorem vG(i:Nat):∀(st:tz) (o:Option Str) (V:qu),tK V (qC V (rF i o st))
 | [],_,V=>rfl
 | (y,gs)::r,Db,V=>(Dv V i y gs).trans (vG i r (Fa y) _)
 | (y,gs)::r,Fa u,V=>((yT V ⟨i,u,y,u⟩).trans (Dv _ i y gs)).trans (vG i r (Fa y) _)
def Oo(a:Ad):qY:=λds M Q=>JY λM0 b A V l c n i st r=>ds=[.ref b,.int ((i:Nat):Int),.ref r]/\ux a M0 M b A V l c n/\c<=1000000/\n<=8000000/\st.length<=100/\i<V.calls.length/\oK M r=Fa (rc st)/\r∉A.foot/\∀M' A',ux a M0 M' b A' (qC V (rF i Db st)) l c (n+2*st.length)->qQ A M A' M'->Q .mL M'
def L5(a:Ad):qY:=λds M Q=>JY λM0 b A V l c n i z ps=>ds=[.ref b,.int ((i:Nat):Int),.str z,names ps]/\ux a M0 M b A V l c n/\c<=1000000/\n<=8000000/\i<V.calls.length/\z∈l.nm/\ps≠[]/\(∀x∈ps,x∈l.mE z)/\ps.length<=100/\∀M' A',ux a M0 M' b A' (qC V (sH l V i (.rings z ps))) l c (n+2)->qQ A M A' M'->Q .mL M'
def Gn(l:pC)(V:qu)(i:Nat):vK->Prop
 | .rings z ps=>z∈l.nm/\ps≠[]/\(∀x∈ps,x∈l.mE z)/\ps.length<=100
 | .breaks z=>∃j k,vE V z=Fa j/\V.calls[j]?=Fa k/\i≠j/\k.ms.length=2
 | _=>True
def LF(a:Ad):qY:=λds M Q=>QP λM0 b A V l c n i z=>ds=[.ref b,.int ((i:Nat):Int),.str z]/\ux a M0 M b A V l c n/\c<=1000000/\n<=8000000/\i<V.calls.length/\Gn l V i (.breaks z)/\∀M' A',ux a M0 M' b A' (qC V (sH l V i (.breaks z))) l c (n+2)->qQ A M A' M'->Q .mL M'
def Ji(a:Ad):qY:=λds M Q=>QP λM0 b A V l c n i e=>ds=[.ref b,.int ((i:Nat):Int),vK.d e]/\ux a M0 M b A V l c n/\c<=1000000/\n<=8000000/\i<V.calls.length/\Gn l V i e/\∀M' A',ux a M0 M' b A' (qC V (sH l V i e)) l c (n+2)->qQ A M A' M'->Q .mL M'
def O1(a:Ad):qY:=λds M Q=>QP λM0 b A V l c n i k=>ds=[.ref b,.int ((i:Nat):Int)]/\ux a M0 M b A V l c n/\c<=1000000/\n<=7000000/\zJ l V (Fa i)/\V.calls[i]?=Fa k/\∀M' A',ux a M0 M' b A' (qC V (vA l V i)) l c (n+30)->qQ A M A' M'->Q .mL M'
def LJ(a:Ad):qY:=λds M Q=>QP λM0 b A V l c n y z=>ds=[.ref b,.str y,.str z]/\ux a M0 M b A V l c n/\c<1000000/\n<=6000000/\zJ l (qC V [.new V.calls.length y,.leg ⟨V.calls.length,y,z,y⟩]) (Fa V.calls.length)/\∀M' A',ux a M0 M' b A' (qC V (A9 l V y z)) l (c+1) (n+32)->qQ A M A' M'->Q .mL M'
def KS{st:tz}{pre post:T0 D}{d:D}(e:pre++d::post=rc st):∃z fs,st[pre.length]?=Fa (z,fs)/\d=.tup [.str z,xA fs]/\st.take (pre.length+1)=st.take pre.length++[(z,fs)]:=by
 have h:(rc st)[pre.length]?=Fa d:=by rw[<-e];simp
 unfold rc at h;rw[dF]at h;cases q:st[pre.length]? with
 | none=>rw[q]at h;cases h
 | some s=>rw[q]at h;refine⟨s.1,s.2,rfl,(dv h).symm,?_⟩;rw[gv,q];rfl
noncomputable def Vf:Option Str->D
 | none=>.mL
 | some x=>.str x
def IS{ss:QQQ}{x:Str}(h:ss.getLast?=Fa x):wI (ss.map D.str) (-1)=Fa (.str x):=by
 have hp:0<ss.length:=by cases ss with|nil=>cases h|cons _ _=>exact mx _
 unfold wI;have e:FG (ss.map D.str).length (-1)=Fa (ss.length - 1):=by
  rw[cV];unfold FG;have:¬((-1:Int)>=0):=by decide
  simp;omega
 rw[e];show(ss.map D.str)[ss.length - 1]?=_;rw[dF,<-jx,h];rfl
def LS(ds:T0 D):L3.uH ds Db (Fa (-1:Int))=ds.dropLast:=by
 unfold L3.uH;have e:HT.sX ds.length ds.length (Fa (-1:Int))=ds.length - 1:=by show(if (-1:Int)<0 then((-1:Int)+(ds.length:Int)).toNat else min (-1:Int).toNat ds.length)=ds.length - 1;rw[dh (by decide)];omega
 rw[e,HT.BS,j7,kQ,List.dropLast_eq_take]
def Oq:Fq P w K mg base 4 a.a1 (Oo a):=by
 refine fq G.a1.toDG tT (λr u=>⟨_,(oY (pG 3 tT sr)
 (oZ (sT eK rfl (qv U2) (tO (n:=2) rfl (pV (qI 4 tT) (pV (qI 5 tT) sv)))
 (oY (pJ (pA u U3 sr)
 (oZ (pK (pT y0 G.c.toCls G.k (qU G) r (qd (pI (pP pf (pP U1 (qV U3 v4 U3))))))))
 pD)
 (oY (pK (pT y0 G.c.toCls G.k (qU G) r (qd (pI (pP pf (qV U1 v4 v5))))))
 (oZ (pG 3 tT v4))))))),?_⟩)
 rintro ds M Q ⟨M0,b,A,V,l,c,n,i,st,r,rfl,cu,hc,hn,WV,hi,lr,nf,q⟩
 refine i' lr (uc (rc st) (λpre U M'=>(∃A',ux a M0 M' b A' (qC V (rF i Db (st.take pre.length))) l c (n+2*pre.length)/\qQ A M A' M')/\∃y4 y5,U=[Fa (.ref b),Fa (.int ((i:Nat):Int)),Fa (.ref r),Fa (Vf (FJ Db (st.take pre.length))),y4,y5]) (λpre U M' j=>?_) _ [] _ _ rfl ⟨⟨A,cu,.refl⟩,Db,Db,rfl⟩ ?_ ?_)
 .obtain⟨⟨A',c1,Xf⟩,_⟩:=j;exact sJ (Xf.1 r _ nf (qm lr))
 .rintro pre d post e U M' ⟨⟨A',c1,Xf⟩,y4,y5,rfl⟩ nx WI
  obtain⟨z,fs,es,rfl,et⟩:=KS e;have hp:pre.length<100:=dS (cZ.mp es).1 WV;rw[cY,dJ,et,yz,B5]at WI;have len:∀es,tK V (qC V es)->i<(qC V es).calls.length:=λes h=>by rw[h.len];exact hi
  have Yh:=len _ (vG i (st.take pre.length) Db V);generalize hV:qC V (rF i Db (st.take pre.length))=V1 at c1 Yh;rw[rC,hV]at WI;refine⟨rfl,?_⟩;dsimp only[rT,yu,DU];have asks:∀(M2:Mp) (A2:tM) (V2:qu) (m:Nat) (y3:Option D),m<9000000->ux a M0 M2 b A2 V2 l c m->qQ A M A2 M2->(∀M3 A3,ux a M0 M3 b A3 (qa V2 (.asks i z fs)) l c (m+1)->qQ A M A3 M3->nx [Fa (.ref b),Fa (.int ((i:Nat):Int)),Fa (.ref r),Fa (.str z),Fa (.str z),Fa (xA fs)] M3)->AL (M2 b) λC fs'=>fs'.lookup ("apply":Str)=Db/\∃sp,(C=a.c/\sp=wc a)/\4<=Ch/\sp [.ref b,.tup [.str "asks",.int ((i:Nat):Int),.str z,xA fs]] M2 λ_ M3=>nx [Fa (.ref b),Fa (.int ((i:Nat):Int)),Fa (.ref r),Fa (.str z),Fa (.str z),Fa (xA fs)] M3:=λM2 A2 V2 m y3 hm c2 s2 k=>o9 c2.at_ ⟨rfl,_,⟨rfl,rfl⟩,by rw[dP];decide,b,A2,V2,.asks i z fs,rfl,c2.b,c2.bd,c2.lim hc hm,trivial,λM3 A3 eb s3 bd=>k M3 A3 (c2.after trivial eb s3 bd) (s2.trans s3)⟩;cases hl:FJ Db (st.take pre.length)with
  | none=>rw[hl]at WI;refine asks M' A' V1 _ Db (by omega) c1 Xf λM3 A3 c3 s3=>WI _ _ ⟨⟨A3,c3.mono (dw _) (by omega),s3⟩,_,_,rfl⟩
  | some y=>rw[hl]at WI;refine o9 c1.at_ ⟨rfl,_,⟨rfl,rfl⟩,oW rfl,b,A',V1,.leg ⟨i,y,z,y⟩,rfl,c1.b,c1.bd,c1.lim hc (by omega),Yh,λM2 A2 eb s2 bd=>?_⟩;have c2:=c1.after (e:=.leg ⟨i,y,z,y⟩) Yh eb s2 bd;refine asks M2 A2 _ _ Db (by omega) c2 (Xf.trans s2) λM3 A3 c3 s3=>WI _ _ ⟨⟨A3,c3.mono (dw _) (by omega),s3⟩,_,_,rfl⟩
 .rintro U M' ⟨⟨A',c1,Xf⟩,_⟩
  have hl:(rc st).length=st.length:=by unfold rc;rw[cV]
  rw[hl,eS]at c1;exact⟨M',.refl,q M' A' c1 Xf⟩
def KU:Fq P w K mg base 4 a.a2 (L5 a):=by
 refine fq G.a2.toDG uG (λr u=>⟨_,(oY (pJ (pA u (pT (pq y0) G.h.toCls G.aL (xI G) r (qd U2)) pf)
 (oY (pG 4 uG (pT (pq y0) G.h.toCls G.X (ut G) r (qd U2)))
 (oY (pG 5 uG (pQ (pQ (xU v4 (qd (pF U3 pb))) pb) (pN ql rfl G.g qh (qd v4))))
 (oZ (pK (pT y0 G.c.toCls G.k (qU G) r (qd (pI (qV pf U2 v5))))))))
 pD)
 (oZ (pK (pT y0 G.c.toCls G.k (qU G) r (qd (pI (qV pf U1 U3))))))),?_⟩)
 rintro ds M Q ⟨M0,b,A,V,l,c,n,i,z,ps,rfl,cu,hc,hn,hi,hz,WZ,hm,hps,q⟩
 obtain⟨ph,gr,ws,Ya,pr,gd,rs,i1,_⟩:=cu.pl;have pl:=cu.pl;obtain⟨x,ps',rfl⟩:=fT WZ;obtain⟨⟨YY,_⟩,_⟩:=cu.ok.of hz;refine Hh (t:=KH _ _ _) (λU M'=>(∃A',ux a M0 M' b A' (qC V (if (l.mP z=="turns")=pc then[.next z (PN (l.mE z) x)]else[])) l c (n+1)/\qQ A M A' M')/\∃y1 y2,U=[Fa (.ref b),Fa (.int ((i:Nat):Int)),Fa (.str z),Fa (names (x::ps')),y1,y2]) (λnx h=>?_) ?_
 .refine o9 cu.at_ (i' rfl (o9 i1 ⟨rfl,_,⟨rfl,rfl⟩,V.p,z,l,rfl,pl,?_⟩));refine qg (c:=l.mP z=="turns") (λg=>?_) (λg=>?_)
  .rw[dh g]at h;refine o9 cu.at_ (i' rfl (o9 i1 ⟨rfl,_,⟨rfl,rfl⟩,V.p,z,l,rfl,pl,λp hp=>?_⟩));have t:=qo.new (c:=.lst ((l.mE z).map D.str)) hp;have lp:=@pz M p ((l.mE z).map D.str);have cu':=cu.sub t;have st0:qQ A M A (pB M p (.lst ((l.mE z).map D.str))):=.sub t;generalize pB M p (.lst ((l.mE z).map D.str))=M1 at t lp cu' st0 ⊢;have ej:=Fv x (l.mE z) (hm x dN);have lpos:0<(l.mE z).length:=fC.mpr YY;have el:(((l.mE z).map D.str).length:Int)=(l.mE z).length:=by rw[cV]
   refine⟨by show(oK M1 p).isSome=pc;rw[lp];rfl,i' (xF _ _) (i' lp ⟨rfl,qe _,i' ej (i' lp ⟨by rw[el];omega,?_⟩)⟩)⟩;rw[el];refine o9 cu'.at_ ⟨rfl,_,⟨rfl,rfl⟩,oW rfl,b,A,V,.next z (PN (l.mE z) x),rfl,cu'.b,cu'.bd,cu'.lim hc (by omega),trivial,λM2 A2 eb st Yb=>?_⟩;exact h _ _ ⟨⟨A2,cu'.after (e:=.next z (PN (l.mE z) x)) trivial eb st Yb,st0.trans st⟩,_,_,rfl⟩
  .rw[de g]at h;exact h _ _ ⟨⟨A,cu.mono (dw _) (by omega),.refl⟩,_,_,rfl⟩
 rintro U M1 ⟨⟨A1,c1,Xf⟩,y1,y2,rfl⟩
 have q:∀M' A',ux a M0 M' b A' (qC V ((if (l.mP z=="turns")=pc then[.next z (PN (l.mE z) x)]else[])++[.rings i (x::ps')])) l c (n+2)->qQ A M A' M'->Q .mL M':=q;rw[rC]at q;have Yh:i<(qC V (if (l.mP z=="turns")=pc then[.next z (PN (l.mE z) x)]else[])).calls.length:=by
  split
  .exact hi
  .exact hi
 generalize qC V (if (l.mP z=="turns")=pc then[.next z (PN (l.mE z) x)]else[])=V1 at c1 q Yh;refine o9 c1.at_ ⟨rfl,_,⟨rfl,rfl⟩,oW rfl,b,A1,V1,.rings i (x::ps'),rfl,c1.b,c1.bd,c1.lim hc (by omega),⟨Yh,hps⟩,λM2 A2 eb WW Yb=>?_⟩;exact⟨M2,.refl,q M2 A2 (c1.after (e:=.rings i (x::ps')) ⟨Yh,hps⟩ eb WW Yb) (Xf.trans WW)⟩
def Mj:Fq P w K mg base 4 a.a3 (LF a):=by
 refine fq G.a3.toDG xT (λr u=>⟨_,(oY (pG 3 xT (pT y0 G.c.toCls G.R (yG G) r (qd U2)))
 (oY (pG 4 xT (pQ (qr uN rfl G.L uO (qd (pq (pF (pq y0) U3)))) (pI (qd (pq (pF (pq y0) U1))))))
 (oZ (pK (pT y0 G.c.toCls G.k (qU G) r (qd (pI (pP pf (qV U1 U3 v4))))))))),?_⟩)
 rintro ds M Q ⟨M0,b,A,V,l,c,n,i,z,rfl,cu,hc,hn,hi,⟨j,k,ej,ek,Xw,XN⟩,q⟩
 have hz:=dP;have ei:V.calls[i]?=Fa V.calls[i]:=cX hi;generalize V.calls[i]=ci at ei;obtain⟨ka,qi⟩:=cu.call ei;obtain⟨kb,qj⟩:=cu.call ek;obtain⟨ad,md,h1,h2,h3,h4,_⟩:=qi.cell;obtain⟨ad',md',g1,g2,g3,g4,_⟩:=qj.cell;have hee:sH l V i (.breaks z)=[.merge i j (k.ms++[ci.cr])]:=by unfold sH;dsimp only;rw[ej,ei];dsimp only;rw[ek];rfl
 rw[hee]at q;have ok:(Ev.merge i j (k.ms++[ci.cr])).ok V:=⟨hi,(cZ.mp ek).1,Xw,by rw[cY,XN];show 3<=100;decide⟩;refine o9 cu.at_ ⟨rfl,_,⟨rfl,rfl⟩,A,V,z,by rw[cu.b],cu.bd,eh cu.sz.ca hc,?_⟩;rw[show Al V z=.int (j:Nat)from by unfold Al;rw[ej];rfl];refine o9 cu.at_ (i' rfl (i' rfl (i' cu.bd.ca (i' (rb qj.e1) (o9 g1 (i' rfl (i' g4 ?_)))))));refine o9 cu.at_ (i' rfl (i' rfl (i' cu.bd.ca (i' (rb qi.e1) (o9 h1 (i' rfl ⟨oW rfl,?_⟩))))));refine⟨(by intro y;rw[List.map_eq_nil_iff]at y;rw[y]at XN;cases XN),(by rw[cV,XN];show 2+1<=Ch;omega),?_⟩;rw[show k.ms.map D.str++[D.str ci.cr]=(k.ms++[ci.cr]).map D.str by rw[dU];rfl];refine o9 cu.at_ ⟨rfl,_,⟨rfl,rfl⟩,oW rfl,b,A,V,.merge i j (k.ms++[ci.cr]),rfl,cu.b,cu.bd,cu.lim hc (by omega),ok,λM2 A2 eb WW Yb=>?_⟩;exact⟨M2,.refl,q M2 A2 ((cu.after ok eb WW Yb).mono (dw _) (by omega)) WW⟩
def Pc:Fq P w K mg base 5 a.a4 (Ji a):=by
 refine fq G.a4.toDG xO (λr u=>⟨_,(oY (pG 3 xO (pF U2 pb))
 (oZ (pJ (pA u U3 pf)
 (oZ (pK (pE (KU G) r G.a2 (pP y0 (qV U1 (pF U2 pb) (pF U2 pb))))))
 (oZ (pJ (pA u U3 pf)
 (oZ (pK (pT y0 G.c.toCls G.k (qU G) r (qd (pI (qV pf U1 (pF U2 pb)))))))
 (oZ (pJ (pA u U3 pf)
 (oZ (pK (pE (Mj G) r G.a3 (qV y0 U1 (pF U2 pb)))))
 (oZ (pK (pT y0 G.c.toCls G.k (qU G) r (qd (pI (qV pf U1 U3))))))))))))),?_⟩)
 rintro ds M Q ⟨M0,b,A,V,l,c,n,i,e,rfl,cu,hc,hn,hi,he,q⟩
 have one:∀(ev:Ev) (ok:ev.ok V),ev.nw=0->sH l V i e=[ev]->∀M2 A2,A2.b=A.b->qQ A M A2 M2->pH a M2 A2 (qa V ev)->∃WC,qo WC M2/\Q .mL WC:=λev ok h0 h1 M2 A2 eb WW Yb=>by rw[h1]at q;have c2:=cu.after ok eb WW Yb;rw[h0]at c2;exact⟨M2,.refl,q M2 A2 (c2.mono (dw _) (by omega)) WW⟩
 cases e with
 | rings z ps=>exact⟨M0,b,A,V,l,c,n,i,z,ps,rfl,cu,hc,hn,hi,he.1,he.2.1,he.2.2.1,he.2.2.2,λM' A' c1 st=>⟨M',.refl,q M' A' c1 st⟩⟩
 | waits z=>exact o9 cu.at_ ⟨rfl,_,⟨rfl,rfl⟩,oW rfl,b,A,V,.waits i z,rfl,cu.b,cu.bd,cu.lim hc (by omega),hi,one (.waits i z) hi rfl rfl⟩
 | breaks z=>exact⟨M0,b,A,V,l,c,n,i,z,rfl,cu,hc,hn,hi,he,λM' A' c1 st=>⟨M',.refl,q M' A' c1 st⟩⟩
 | engaged z=>exact o9 cu.at_ ⟨rfl,_,⟨rfl,rfl⟩,oW rfl,b,A,V,.over i "engaged",rfl,cu.b,cu.bd,cu.lim hc (by omega),hi,one (.over i "engaged") hi rfl rfl⟩
 | barred=>exact o9 cu.at_ ⟨rfl,_,⟨rfl,rfl⟩,oW rfl,b,A,V,.over i "barred",rfl,cu.b,cu.bd,cu.lim hc (by omega),hi,one (.over i "barred") hi rfl rfl⟩
 | ring ns=>exact o9 cu.at_ ⟨rfl,_,⟨rfl,rfl⟩,oW rfl,b,A,V,.over i "ring",rfl,cu.b,cu.bd,cu.lim hc (by omega),hi,one (.over i "ring") hi rfl rfl⟩
def MU{V:qu}{i:Nat}{k:pj}{e:vK}(ok:rf l)(wf:zJ l V (Fa i))(hk:V.calls[i]?=Fa k)(h:GV l V k.cr e):Gn l V i e:=by
 cases e with
 | rings z ps=>obtain⟨hz,WZ,rfl⟩:=h;have h1:=(Gx (l:=l) (V:=V) (c:=k.cr) (z:=z));have h2:=(ok.of hz).1.2.1;exact⟨hz,WZ,λx hx=>(h1.1 x hx).2,by have:=h1.2;omega⟩
 | breaks z=>
  obtain⟨x,rfl,hb⟩:=h;obtain⟨j,d,e1,e2,e3,e4,e5,_⟩:=GA hb;refine⟨j,d,e1,e2,λy=>?_,e5⟩;subst y;rw[hk]at e2;cases e2;have sh:=(wf.ok i k hk).sh;rw[show(Fa i==Fa i)=pc from fi _]at sh;rcases sh with g|g
  .rw[g.1]at e3;exact absurd e3 (by decide)
  .cases g.1
 | _=>trivial
def Iu:Fq P w K mg base 9 a.ad (O1 a):=by
 refine fq G.ad.toDG wu (λr u=>⟨_,(oY (pG 2 wu (pF (pq y0) U1))
 (oY (pG 3 wu (pE (Mr G) r G.aV (pP y0 (qV (pq U2) (pF (pq U2) (BK pb)) (rS (pq U2) sI (sG (BK pb)))))))
 (oY (pG 4 wu (pF U3 pb))
 (oY (pG 5 wu (pF U3 pb))
 (oY (pK (pE (Oq G) r G.a1 (qV y0 U1 v5)))
 (oY (pJ (W3.b3 (vY (pA u (pF v4 pb) pf) (vd (pA u (pN ql rfl G.g qh (qd v5)) pb))))
 (oY (pG 6 wu (pF (pF v5 (BK pb)) pb))
 (oZ (pK (pT y0 G.c.toCls G.k (qU G) r (qd (pI (pP pf (pP U1 (qV v6 (pF (pF v4 pb) pb) v6)))))))))
 pD)
 (oZ (pK (pE (Pc G) r G.a4 (qV y0 U1 v4)))))))))),?_⟩)
 rintro ds M Q ⟨M0,b,A,V,l,c,n,i,k,rfl,cu,hc,hn,wf,hk,q⟩
 obtain⟨ka,ci⟩:=cu.call hk;obtain⟨ad,md,h1,h2,h3,h4,n1,n2⟩:=ci.cell;have XC:=wf.ok i k hk;have hi:=(cZ.mp hk).1;obtain⟨z,hz⟩:∃z,k.way.getLast?=Fa z:=by
  cases e:k.way.getLast? with
  | none=>exact absurd (gq.mp e) XC.wy.1
  | some z=>exact⟨z,rfl⟩
 have Xb:z∈l.nm:=XC.wy.2 z (ig hz);have hdn:∀x∈k.way.dropLast,x∈l.nm:=λx hx=>XC.wy.2 x (iU _ hx);have hwl:=(cu.sz.cs k (qJ hk)).1;have hev:vA l V i=rF i Db (uZ l V k.cr z k.way.dropLast).2++(tX i (uZ l V k.cr z k.way.dropLast).2 (uZ l V k.cr z k.way.dropLast).1++sH l V i (uZ l V k.cr z k.way.dropLast).1):=by
  unfold vA;rw[hk];have:k.way.getLastD Str.empty=z:=by rw[im,hz];rfl
  dsimp only[Option.elim];rw[this]
 rw[hev]at q;have ro:yf l V k.cr (l.nm.length+1) [] (uZ l V k.cr z k.way.dropLast):=zu cu.ok _ _ _ _ Xb hdn;have rl:=ro.len;have eo:=MU cu.ok wf hk ro.e;have nl:l.nm.length<=11:=by have p8:=cu.ok.p8;have g3:=cu.ok.g3;unfold pC.nm pC.pn pC.gn;rw[cY,cV,cV];omega
 have re:=ro.e;refine Hh (t:=yr _ _) (λU M'=>M=M'/\U=[Fa (.ref b),Fa (.int ((i:Nat):Int)),Fa (.ref ka.p),Db,Db,Db,Db]) (λnx0 h=>o9 cu.at_ (i' rfl (i' rfl (i' ci.bd.ca (i' (rb ci.e1) (h _ _ ⟨rfl,rfl⟩)))))) ?_
 rintro U _ ⟨rfl,rfl⟩
 refine Hh (t:=yr _ _) (λU M'=>qo M M'/\∃r,M r=Db/\oK M' r=Fa (rc (uZ l V k.cr z k.way.dropLast).2)/\U=[Fa (.ref b),Fa (.int ((i:Nat):Int)),Fa (.ref ka.p),Fa (.tup [(uZ l V k.cr z k.way.dropLast).1.d,.ref r]),Db,Db,Db]) (λnx0 h=>?_) ?_
 .refine o9 h1 (i' rfl (o9 h1 (i' rfl (i' h2 (i' (IS hz) (o9 h1 (i' rfl (i' h2 λp hp=>?_))))))));rw[show L3.uH (k.way.map D.str) Db (Fa (-1:Int))=k.way.dropLast.map D.str from(LS _).trans (List.map_dropLast).symm];have t:=qo.new (c:=.lst (k.way.dropLast.map D.str)) hp;have lp:=@pz M p (k.way.dropLast.map D.str);refine⟨A,V,l,k.cr,z,p,k.way.dropLast,by rw[cu.b],(cu.rd hc wf).sub t,Xb,wf.nx,lp,by rw[List.length_dropLast];omega,λr M' s hr lr=>?_⟩;exact h _ _ ⟨t.trans s,r,t.none hr,lr,rfl⟩
 rintro U M1 ⟨s1,r,hr,lr,rfl⟩
 generalize uZ l V k.cr z k.way.dropLast=R at lr ro rl eo re q;obtain⟨e,st⟩:=R;have cu1:=cu.sub s1;have rl:st.length<=0+(l.nm.length+1):=rl;refine⟨M0,b,A,V,l,c,n,i,st,r,rfl,cu1,hc,by omega,by omega,hi,lr,cu.bd.nV hr,λM2 A2 c2 WW=>?_⟩;have same:=vG i st Db V;have XM:i<(qC V (rF i Db st)).calls.length:=by rw[same.len];exact hi
 have Zk:oK M2 r=Fa (rc st):=sJ (WW.1 r _ (cu.bd.nV hr) (qm lr));rw[rC,rC]at q;have hee:=λV' (h:tK V V')=>h.ends (l:=l) i e;have Zz:∀V',tK V V'->Gn l V' i e:=λV' h=>by
  cases e with
  | breaks z'=>obtain⟨j,d,a1,a2,a3,a4⟩:=eo;obtain⟨d',b1,b2⟩:=h.at_ a2;exact⟨j,d',by rw[h.nC];exact a1,b1,a3,by rw[show d'.ms=d.ms from show d'.bare.ms=d.bare.ms by rw[b2]];exact a4⟩
  | rings _ _=>exact eo
  | _=>trivial
 generalize qC V (rF i Db st)=V2 at c2 XM same q;have XD:∀(M3:Mp) (A3:tM) (V3:qu),ux a M0 M3 b A3 V3 l c (n+2*st.length+1)->qQ A M A3 M3->tK V V3->i<V3.calls.length->V3=qC V2 (tX i st e)->Ji a [.ref b,.int ((i:Nat):Int),e.d] M3 λ_ M'=>∃WC,qo WC M'/\Q .mL WC:=λM3 A3 V3 c3 s3 XE hi3 e3=>⟨M0,b,A3,V3,l,c,_,i,e,rfl,c3,hc,by omega,hi3,Zz V3 XE,λM4 A4 c4 s4=>⟨M4,.refl,q M4 A4 (by
  rw[<-e3];rw[hee V3 XE]at c4;exact c4.mono (dw _) (by omega)) (s3.trans s4)⟩⟩
 have c2':=c2.mono (dw c) (show n+2*st.length<=n+2*st.length+1 by omega);have XZ:=(qQ.sub s1 (A:=A)).trans WW;cases e with
 | ring ns=>
  obtain⟨x,ns',rfl⟩:=fT (show ns≠[]from re);refine i' Zk ?_;cases hl:st.getLast? with
  | none=>have:st=[]:=gq.mp hl;subst this;exact XD M2 A2 V2 c2' XZ same XM rfl
  | some s0=>
   have Yw:0<st.length:=by cases st with|nil=>cases hl|cons _ _=>exact mx _
   have hd:decide ((0:Int)<((rc st).length:Int))=pc:=dX (by unfold rc;rw[cV];omega);refine AU (c:=decide ((0:Int)<((rc st).length:Int))) hd ?_;have hat1:wI (rc st) (-1)=Fa (.tup [.str s0.1,xA s0.2]):=by
    unfold wI;have e1:FG (rc st).length (-1)=Fa (st.length - 1):=by unfold rc;rw[cV];unfold FG;simp;omega
    rw[e1];show(rc st)[st.length - 1]?=_;unfold rc;rw[dF,<-jx,hl];rfl
   have hrv:tX i st (.ring (x::ns'))=[.leg ⟨i,s0.1,x,s0.1⟩]:=by unfold tX;dsimp only;rw[hl];rfl
   rw[hrv]at XD;refine i' Zk (i' hat1 ?_);refine o9 c2.at_ ⟨rfl,_,⟨rfl,rfl⟩,i' (xF _ _) ⟨oW rfl,b,A2,V2,.leg ⟨i,s0.1,x,s0.1⟩,rfl,c2.b,c2.bd,c2.lim hc (by omega),XM,λM3 A3 eb Xm bd3=>?_⟩⟩;have XE:=same.trans (yT V2 ⟨i,s0.1,x,s0.1⟩);exact XD M3 A3 _ (c2.after (e:=.leg ⟨i,s0.1,x,s0.1⟩) XM eb Xm bd3) (XZ.trans Xm) XE (by rw[XE.len];exact hi) rfl
 | rings z' ps=>exact XD M2 A2 V2 c2' XZ same XM rfl
 | waits z'=>exact XD M2 A2 V2 c2' XZ same XM rfl
 | breaks z'=>exact XD M2 A2 V2 c2' XZ same XM rfl
 | engaged z'=>exact XD M2 A2 V2 c2' XZ same XM rfl
 | barred=>exact XD M2 A2 V2 c2' XZ same XM rfl
def L4:Fq P w K mg base 10 a.a5 (LJ a):=by
 refine fq G.a5.toDG zF (λr u=>⟨_,(oY (pG 3 zF (pN ql rfl G.g qh (qd (pq y0))))
 (oY (pK (pT y0 G.c.toCls G.k (qU G) r (qd (pI (qV pf U3 U1)))))
 (oY (pK (pT y0 G.c.toCls G.k (qU G) r (qd (pI (pP pf (pP U3 (qV U1 U2 U1)))))))
 (oZ (pK (pE (Iu G) r G.ad (rW y0 U3))))))),?_⟩)
 rintro ds M Q ⟨M0,b,A,V,l,c,n,y,z,rfl,cu,hc,hn,wf,q⟩
 have lc:((A.cs.map λk=>D.ref k.p).length:Int)=(V.calls.length:Nat):=by rw[cV,cu.bd.len]
 refine o9 cu.at_ (i' rfl (i' cu.bd.ca ?_));rw[lc];refine o9 cu.at_ ⟨rfl,_,⟨rfl,rfl⟩,oW rfl,b,A,V,.new V.calls.length y,rfl,cu.b,cu.bd,cu.lim (by omega) (by omega),trivial,λM1 A1 eb1 Xf bd1=>?_⟩;have c1:=cu.after (e:=.new V.calls.length y) trivial eb1 Xf bd1;have ok2:(Ev.leg ⟨V.calls.length,y,z,y⟩).ok (qa V (.new V.calls.length y)):=by show V.calls.length<(V.calls++[zB y]).length;rw[cY];exact fK _
 refine o9 c1.at_ ⟨rfl,_,⟨rfl,rfl⟩,oW rfl,b,A1,_,.leg ⟨V.calls.length,y,z,y⟩,rfl,c1.b,c1.bd,c1.lim (by show c+1<=_;omega) (by omega),ok2,λM2 A2 eb2 WW Yb=>?_⟩;have c2:=c1.after ok2 eb2 WW Yb;obtain⟨k,hk⟩:∃k,(qC V [.new V.calls.length y,.leg ⟨V.calls.length,y,z,y⟩]).calls[V.calls.length]?=Fa k:=by
  have:V.calls.length<(qC V [.new V.calls.length y,.leg ⟨V.calls.length,y,z,y⟩]).calls.length:=by show V.calls.length<((V.calls++[zB y]).modify _ _).length;rw[gp];exact ok2
  exact⟨_,cX this⟩
 refine⟨M0,b,A2,_,l,c+1,n+2,V.calls.length,k,rfl,c2,by omega,by omega,wf,hk,λM3 A3 c3 Xm=>⟨M3,.refl,q M3 A3 ?_ (Xf.trans (WW.trans Xm))⟩⟩;unfold A9;rw[rC];exact c3.mono (dw _) (by omega)
noncomputable def Et(V:qu)(x:Str):D:=Gw (uA V x)
abbrev DR:=Jo Et
def Lm(a:Ad):qY:=λds M Q=>GY λA V l x z=>ds=[.ref A.b,.str x,.str z]/\Rd a M A V l/\x∈l.pn/\Q (Gw (Gi l V x z)) M
inductive vR(a:Ad)(M:Mp)(L:QXQ):List rh->List pj->Prop
 | nil:vR a M L [] []
 | cons (k:rh) (c:pj) (ks:List rh) (cs:List pj) (h:rM a M L k c) (r:vR a M L ks cs):vR a M L (k::ks) (c::cs)
def tQ.nf(w:Str)(m:Nat):Prop:=((w="answer"\/w="hang"\/w="hold"\/w="back")/\m=1)\/((w="hand"\/w="join")/\m=2)
def Lf(a:Ad):qY:=λds M Q=>J0 λwd x r L ks cs=>ds=[.str wd,.str x,.ref r]/\oK M r=Fa (List.map (λk:rh=>D.ref k.p) ks)/\vR a M L ks cs/\tQ.nf wd cs.length/\Q (.bl (IW wd x cs)) M
def IC(a:Ad):qY:=λds M Q=>J0 λA V l wd x ns=>ds=[.ref A.b,.str wd,.str x,.tup (List.map D.int ns)]/\Rd a M A V l/\x∈l.pn/\tQ.nf wd ns.length/\Q (Gw (Lg l V wd x ns)) M
def Q7(a:Ad):qY:=λds M Q=>BA λA V b i=>ds=[.ref A.b,.str (SZ b),.int i]/\pH a M A V/\Q (Gw (Pr V b i)) M
def HY(a:Ad):qY:=λds M Q=>BA λA V l e=>ds=[.ref A.b,tQ.d e]/\Rd a M A V l/\e.nq/\Q (Gw (xi l V e)) M
noncomputable def Wd(m:Nat):D->D
 | .int i=>.bl (yS m i)
 | _=>.bl lf
noncomputable def V4(A:tM):D->D
 | .int i=>(A.cs[i.toNat]?).elim .mL λk=>.ref k.p
 | _=>.mL
theorem Qp{V:qu}(bd:pH a M A V):∀{ns:T0 Int},ns.all (yS V.calls.length)=pc->∃ks,vR a M (A.lists++V.fo) ks (tE V ns)/\(ns.map D.int).map (V4 A)=ks.map (λk:rh=>D.ref k.p)/\(tE V ns).length=ns.length/\∀i∈ns,∃k,0<=i/\A.cs[i.toNat]?=Fa k
 | [],_=>⟨[],.nil,rfl,rfl,λi hi=>by cases hi⟩
 | i::r,h=>by
  rw[fS,dY]at h;obtain⟨ks,h1,h2,h3,h4⟩:=Qp bd h.2;have hh:(decide (0<=i)&&decide (i<V.calls.length))=pc:=h.1;rw[dY,eC,eC]at hh;have hi:i.toNat<V.calls.length:=by omega
  have hk:i.toNat<A.cs.length:=by rw[bd.len];exact hi
  have e1:A.cs[i.toNat]?=Fa A.cs[i.toNat]:=cX hk;have e2:V.calls[i.toNat]?=Fa V.calls[i.toNat]:=cX hi;have ec:tE V (i::r)=V.calls[i.toNat]::tE V r:=by unfold tE;rw[List.filterMap_cons_some (f:=λi:Int=>V.calls[i.toNat]?) e2]
  rw[ec];refine⟨A.cs[i.toNat]::ks,.cons _ _ _ _ (bd.cs _ _ _ e1 e2) h1,?_,eR Nat.succ h3,λj hj=>?_⟩
  .rw[dZ,dZ,h2];show(A.cs[i.toNat]?).elim _ _::_=_;rw[e1];rfl
  .rcases c9.mp hj with rfl|hj
   .exact⟨_,hh.1,e1⟩
   .exact h4 j hj
def vR.sub(h:vR a M L ks cs)(s:qo M M'):vR a M' L ks cs:=by
 induction h with
 | nil=>exact .nil
 | cons k c ks cs h r ih=>exact .cons k c ks cs (h.sub s) ih
def RI{bs:T0 Bool}{i:Int}(h:yS bs.length i=pc):wI (bs.map D.bl) i=Fa (.bl (bs.getD i.toNat lf)):=by
 have hh:(decide (0<=i)&&decide (i<bs.length))=pc:=h;rw[dY,eC,eC]at hh;obtain⟨n,rfl⟩:=eD hh.1;have hn:n<bs.length:=by omega
 refine vb ?_;rw[dF,cX hn];show Fa (D.bl bs[n])=Fa (.bl (bs.getD n lf));rw[gJ,cX hn];rfl
def DZ:Fq P w K mg base 4 a.ac (DR a):=by
 refine fq G.ac.toDG yL (λr u=>⟨_,(oY (pJ (pA u (pT y0 G.c.toCls G.bH (Ly G) r (qd U1)) sr)
 (oZ (pk pf))
 pD)
 (oY (pJ (pA u (pT y0 G.c.toCls G.bI (G0 G) r (qd U1)) sr)
 (oZ (pk pf))
 pD)
 (oZ (pk sr)))),?_⟩)
 rintro ds M Q ⟨A,V,x,rfl,bd,hk,q⟩
 unfold Et uA at q;refine o9 bd.at_ ⟨rfl,_,⟨rfl,rfl⟩,A,V,x,rfl,bd,hk,?_⟩;unfold Ll;cases e:E9 V x with
 | some j=>rw[e]at q;exact⟨M,.refl,q⟩
 | none=>
  rw[e]at q;refine o9 bd.at_ ⟨rfl,_,⟨rfl,rfl⟩,A,V,x,rfl,bd,hk,?_⟩;unfold Tf;cases e:IF V x with
  | some j=>rw[e]at q;exact⟨M,.refl,q⟩
  | none=>rw[e]at q;exact⟨M,.refl,q⟩
def LZ:Fq P w K mg base 5 a.aW (Lm a):=by
 refine fq G.aW.toDG ww (λr u=>⟨_,(oY (pJ (pA u U2 (yg (pq y0) G.h.toCls G.bD (C6 G) r))
 (oZ (pk pf))
 pD)
 (oY (pG 3 ww (pE (DZ G) r G.ac (rW y0 U1)))
 (oY (pJ (W3.b3 (vY (pA u U3 sr) (vd (we (uB (pT y0 G.c.toCls G.T (yy G) r (qd U1)))))))
 (oZ (pk pf))
 pD)
 (oZ (pk U3))))),?_⟩)
 rintro ds M Q ⟨A,V,l,x,z,rfl,rd,hx,q⟩
 obtain⟨ph,gr,ws,Ya,pr,gd,rs,i1,_⟩:=rd.pl;have p8:=rd.ok.p8;have g3:=rd.ok.g3;unfold Gi at q;refine o9 rd.bd.at_ (i' rfl (o9 i1 ⟨rfl,_,⟨rfl,rfl⟩,V.p,l,rfl,rd.pl,by omega,by omega,λp hp=>i' pz ⟨rfl,qe _,?_⟩⟩));have t:=qo.new (c:=.lst (l.nm.map D.str)) hp;have W0:=rd.sub t;generalize pB M p (.lst (l.nm.map D.str))=M1 at t W0 ⊢;show if (!(inD (.str z) (l.nm.map D.str)))=pc then _ else _
 rw[rG];refine qg (c:=!(hasS l.nm z)) (λg=>?_) (λg=>?_)
 .rw[dh (by simpa using g)]at q;exact⟨M,t,q⟩
 rw[de (by simpa using g)]at q;refine⟨A,V,x,rfl,W0.bd,W0.k,?_⟩;unfold Et;cases e:uA V x with
 | some w0=>rw[e]at q;exact⟨M,t,q⟩
 | none=>
  rw[e]at q;refine o9 W0.bd.at_ ⟨rfl,_,⟨rfl,rfl⟩,A,V,l,x,rfl,W0,hx,?_⟩;refine qg (c:=!(sZ l V x)) (λg=>?_) (λg=>?_)
  .rw[g]at q;exact⟨M,t,q⟩
  .rw[show(!(sZ l V x))=lf from dB.mpr g]at q;exact⟨M,t,q⟩
def MY:Fq P w K mg base 3 a.aX (Lf a):=by
 refine fq G.aX.toDG Ky (λr u=>⟨_,(oY (pJ (pA u y0 pf)
 (oZ (pk (pR u U1 (pq (pF U2 pb)))))
 pD)
 (oY (pJ (pA u y0 pf)
 (oZ (pk (pT (pF U2 pb) G.e.toCls G.bL (Nc G) r (qd U1))))
 pD)
 (oY (pJ (pA u y0 pf)
 (oZ (pk (pT (pF U2 pb) G.e.toCls G.aF (F8 G) r (qd U1))))
 pD)
 (oY (pJ (pA u y0 pf)
 (oZ (pk (pR u (pq (pF U2 pb)) U1)))
 pD)
 (oZ (pk (rV (pR u (pq (pF U2 pb)) U1) (rJ (pT (pF U2 pb) G.e.toCls G.aF (F8 G) r (qd U1)))))))))),?_⟩)
 rintro ds M Q ⟨wd,x,r,L,ks,cs,rfl,lr,Y4,hw,q⟩
 cases Y4 with
 | nil=>rcases hw with⟨_,h⟩|⟨_,h⟩<;>cases h
 | cons k c ks cs hc Xk=>
 obtain⟨ad,md,h1,h2,h3,h4,_⟩:=id hc;have a0:=xF (.ref k.p) (ks.map λk:rh=>D.ref k.p);have hold:∀K:DK,K (.bl (c.hd==Fa x)) M->Option.elim (zU M 9 (Gw c.hd) (.str x)) False λb=>K (.bl b) M:=λK hK=>by
  cases e:c.hd with
  | none=>rw[e]at hK;exact hK
  | some y=>rw[e]at hK;exact hK
 rcases hw with⟨rfl|rfl|rfl|rfl,h⟩|⟨hw,h⟩
 .exact i' lr (i' a0 (o9 h1 (i' rfl (Au h3 ⟨M,.refl,q⟩))))
 .exact i' lr (i' a0 (o9 h1 ⟨rfl,_,⟨rfl,rfl⟩,L,k,c,x,rfl,hc,M,.refl,q⟩))
 .exact i' lr (i' a0 (o9 h1 ⟨rfl,_,⟨rfl,rfl⟩,L,k,c,x,rfl,hc,M,.refl,q⟩))
 .exact i' lr (i' a0 (o9 h1 (i' rfl (hold _ ⟨M,.refl,q⟩))))
 .cases Xk with
  | nil=>cases h
  | cons k' d ks cs hd _=>
   obtain⟨ad',md',f1,_⟩:=id hd;have a1:wI (.ref k.p::.ref k'.p::ks.map λk:rh=>D.ref k.p) 1=Fa (.ref k'.p):=vb (j:=1) rfl;have qq:Q (.bl ((c.hd==Fa x)&&d.mT x)) M:=by
    rcases hw with rfl|rfl
    .exact q
    .exact q
   rcases hw with rfl|rfl
   all_goals
    refine i' lr (i' a0 (o9 h1 (i' rfl ?_)));cases e:c.hd with
    | none=>rw[e]at qq;exact⟨M,.refl,qq⟩
    | some y=>
     rw[e]at qq;have qq:Q (.bl ((y==x)&&d.mT x)) M:=qq;refine qg (c:=y==x) (λg=>?_) (λg=>?_)
     .rw[g,eI]at qq;exact i' lr (i' a1 (o9 f1 ⟨rfl,_,⟨rfl,rfl⟩,L,k',d,x,rfl,hd,M,.refl,qq⟩))
     .rw[show(y==x)=lf from dB.mpr g,eW]at qq;exact⟨M,.refl,qq⟩
def Oi:Fq P w K mg base 5 a.aY (IC a):=by
 refine fq G.aY.toDG tS (λr u=>⟨_,(oY (pJ (we (uB (pN (ET rfl) rfl G.bQ Eg (qd (qE rfl (xw (ix:=[Db,Fa 0]) (N':=["number","board"])) (qv U3) (qB 0) rP (ur u pb y0 (pN ql rfl G.g qh (qd (pq U1)))))))))
 (oZ (pk pf))
 pD)
 (oY (uE (i:=4) tS.nd rfl (Or.inl rfl) rfl (xw (ix:=[Db,Fa 0]) (N':=["number","board"])) (qv U3) (qB 0) rP (pF (pq U1) y0))
 (oY (pJ (we (uB (pE (MY G) r G.aX (qV U1 U2 v4))))
 (oZ (pk pf))
 pD)
 (oY (pJ (pA u U1 (pI (rW pf pf)))
 (oZ (pk sr))
 pD)
 (oY (pG 5 tS (pE (DZ G) r G.ac (rW y0 U2)))
 (oY (pJ (W3.b3 (vY (pA u v5 sr) (vY (uB (pT (pF v4 pb) G.e.toCls G.aD (GI G) r (qd U2))) (vd (we (uB (pT y0 G.c.toCls G.T (yy G) r (qd U2))))))))
 (oZ (pk pf))
 pD)
 (oZ (pk v5)))))))),?_⟩)
 rintro ds M Q ⟨A,V,l,wd,x,ns,rfl,rd,hx,hw,q⟩
 have hz:=dP;have Zm:ns.length<=2:=by rcases hw with⟨_,h⟩|⟨_,h⟩<;>omega
 have lca:((A.cs.map λk=>D.ref k.p).length:Int)=V.calls.length:=by rw[cV,rd.bd.len]
 unfold Lg at q;refine qR (f:=Wd V.calls.length) trivial _ [] _ (by rw[cV];simp only[dO];omega) (λd hd k hk=>?_) λp hp=>?_
 .obtain⟨i,_,rfl⟩:=dD.mp hd;have hk:k (.bl (decide (0<=i)&&decide (i<V.calls.length))) M:=hk;refine qg (c:=decide (0<=i)) (λg=>?_) (λg=>?_)
  .rw[g,eI]at hk;refine o9 rd.bd.at_ (i' rfl (i' rd.bd.ca ?_));rw[lca];exact hk
  .rw[show decide (0<=i)=lf from dB.mpr g,eW]at hk;exact hk
 have em:[]++(ns.map D.int).map (Wd V.calls.length)=ns.map λi=>D.bl (yS V.calls.length i):=by rw[d6,eA];rfl
 rw[em];have t:=qo.new (c:=.lst (ns.map λi=>D.bl (yS V.calls.length i))) hp;refine i' pz (i' (ye (yS V.calls.length) ns) ?_);have W0:=rd.sub t;generalize pB M p (.lst (ns.map λi=>D.bl (yS V.calls.length i)))=M1 at t W0 ⊢;rw[yW];refine qg (c:=!(ns.all (yS V.calls.length))) (λg=>?_) (λW1=>?_)
 .rw[dh (by simpa using g)]at q;exact⟨M,t,q⟩
 have W1:ns.all (yS V.calls.length)=pc:=by simpa using W1
 rw[de (by rw[W1];exact Bool.noConfusion)]at q;obtain⟨ks,hks,eks,lcs,Yf⟩:=Qp W0.bd W1;refine qR (f:=V4 A) trivial _ [] _ (by rw[cV];simp only[dO];omega) (λd hd k0 hk=>?_) λp2 WG=>?_
 .obtain⟨i,hi,rfl⟩:=dD.mp hd;obtain⟨k,i0,e1⟩:=Yf i hi;obtain⟨n,rfl⟩:=eD i0;have e1:A.cs[n]?=Fa k:=e1;have hk:k0 ((A.cs[n]?).elim .mL λk=>.ref k.p) M1:=hk;rw[e1]at hk;exact o9 W0.bd.at_ (i' rfl (i' rfl (i' W0.bd.ca (i' (rb e1) hk))))
 rw[d6,eks];have t2:=qo.new (c:=.lst (ks.map λk:rh=>D.ref k.p)) WG;have l2:=@pz M1 p2 (ks.map λk:rh=>D.ref k.p);have Yc:=W0.sub t2;have s2:=t.trans t2;generalize pB M1 p2 (.lst (ks.map λk:rh=>D.ref k.p))=M2 at l2 Yc s2 t2 ⊢;have hks:=hks.sub t2;generalize tE V ns=cs at hks lcs q;refine⟨wd,x,p2,_,ks,cs,rfl,l2,hks,by rw[lcs];exact hw,?_⟩;refine qg (c:=!IW wd x cs) (λg=>?_) (λg=>?_)
 .rw[dh (by simpa using g)]at q;exact⟨M,s2,q⟩
 rw[de (by simpa using g)]at q;have two:∀wd:Str,(wd=="answer"||wd=="back")=pc->Q (Gw (if ((uA V x).isNone&&(cs.head?.elim lf (λc=>c.mK x)&&!(sZ l V x)))=pc then Fa "full" else uA V x)) M->cs.length=1->DR a [.ref A.b,.str x] M2 λdue M3=>uy (KH (P' (b3 (k3 .Is (v3 5) (c3 .mL))) (P' (b3 (As "waits_with" (λD s=>D=a.e/\s=vQ a) (i3 (v3 4) (c3 (.int 0))) (vn (v3 2) xG))) (Uc (b3 (As "is_free" (λD s=>D=a.c/\s=xl a) (v3 0) (vn (v3 2) xG)))))) (RU (c3 (.str "full"))) UP) (RU (v3 5)) {nx:=λ_ M'=>∃WC,qo WC M'/\Q .mL WC,rt:=λd M'=>∃WC,qo WC M'/\Q d WC} [Fa (.ref A.b),Fa (.str wd),Fa (.str x),Fa (.tup (ns.map D.int)),Fa (.ref p2),Fa due] M3:=λwd _ q hl=>by
  cases hks with
  | nil=>cases hl
  | cons k c ks cs hc _=>
  have q:Q (Gw (if ((uA V x).isNone&&(c.mK x&&!(sZ l V x)))=pc then Fa "full" else uA V x)) M:=q;obtain⟨ad,md,h1,_⟩:=id hc;refine⟨A,V,x,rfl,Yc.bd,Yc.k,?_⟩;unfold Et;cases e:uA V x with
  | some w0=>rw[e]at q;exact⟨M,s2,q⟩
  | none=>
   rw[e]at q;refine i' l2 (i' (xF _ _) (o9 h1 ⟨rfl,_,⟨rfl,rfl⟩,_,k,c,x,rfl,hc,?_⟩));refine qg (c:=c.mK x) (λg1=>?_) (λg1=>?_)
   .rw[g1]at q;refine o9 Yc.bd.at_ ⟨rfl,_,⟨rfl,rfl⟩,A,V,l,x,rfl,Yc,hx,?_⟩;refine qg (c:=!(sZ l V x)) (λg=>?_) (λg=>?_)
    .rw[g]at q;exact⟨M,s2,q⟩
    .rw[show(!(sZ l V x))=lf from dB.mpr g]at q;exact⟨M,s2,q⟩
   .rw[show c.mK x=lf from dB.mpr g1]at q;exact⟨M,s2,q⟩
 rcases hw with⟨rfl|rfl|rfl|rfl,h⟩|⟨rfl|rfl,h⟩
 .exact⟨oW rfl,rfl,rfl,two "answer" rfl q (lcs.trans h)⟩
 .exact⟨oW rfl,rfl,rfl,M,s2,q⟩
 .exact⟨oW rfl,rfl,rfl,M,s2,q⟩
 .exact⟨oW rfl,rfl,rfl,two "back" rfl q (lcs.trans h)⟩
 .exact⟨oW rfl,rfl,rfl,M,s2,q⟩
 .exact⟨oW rfl,rfl,rfl,M,s2,q⟩
def RB:Fq P w K mg base 1 a.aZ (Q7 a):=by
 refine fq G.aZ.toDG yC (λr u=>⟨_,(oY (pJ (we (FQ u pb U2 (pN ql rfl G.g qh (qd (pq y0)))))
 (oZ (pk pf))
 pD)
 (oY (pJ (pA u (pF (pq y0) U2) (pR u U1 pf))
 (oZ (pk pf))
 pD)
 (oZ (pk sr)))),?_⟩)
 rintro ds M Q ⟨A,V,b,i,rfl,bd,q⟩
 unfold Pr at q;have Yf:yS V.on.length i=(decide (0<=i)&&decide (i<V.on.length)):=rfl;have lon:((V.on.map D.bl).length:Int)=V.on.length:=by rw[cV]
 have no:yS V.on.length i=lf->Q (.str "wish") M:=λh=>by rw[dh h]at q;exact q
 have yes:yS V.on.length i=pc->Q (Gw (if (V.on.getD i.toNat lf==b)=pc then Fa "wish" else Db)) M:=λh=>by rw[h,de Bool.noConfusion]at q;exact q
 refine qg (c:=decide (0<=i)) (λg0=>?_) (λg0=>⟨M,.refl,no (by rw[Yf,show decide (0<=i)=lf from dB.mpr g0];rfl)⟩);refine o9 bd.at_ (i' rfl (i' bd.on ?_));rw[lon];refine qg (c:=!(decide (i<(V.on.length:Int)))) (λg1=>⟨M,.refl,no (by rw[Yf,g0,show decide (i<(V.on.length:Int))=lf by simpa using g1];rfl)⟩) (λg1=>?_);have h:yS V.on.length i=pc:=by rw[Yf,g0,show decide (i<(V.on.length:Int))=pc by simpa using g1];rfl
 have q:=yes h;refine o9 bd.at_ (i' rfl (i' rfl (i' bd.on (i' (RI h) ?_))));have es:(SZ b=="on")=b:=by cases b<;>rfl
 show if (V.on.getD i.toNat lf==(SZ b=="on"))=pc then _ else _
 rw[es];refine qg (λg=>?_) (λg=>?_)
 .rw[dh g]at q;exact⟨M,.refl,q⟩
 .rw[de g]at q;exact⟨M,.refl,q⟩
def GZ:Fq P w K mg base 6 a.a0 (HY a):=by
 refine fq G.a0.toDG Cu (λr u=>⟨_,(oY (pG 2 Cu (pF U1 pb))
 (oY (pJ (pA u U2 pf)
 (oZ (pk sr))
 pD)
 (oY (pJ (pA u U2 (pI (rW pf pf)))
 (oZ (pk (pE (RB G) r G.aZ (qV y0 U2 (pF U1 pb)))))
 pD)
 (oY (pJ (pA u (pF U1 pb) (yg (pq y0) G.h.toCls G.S (tR G) r))
 (oZ (pk pf))
 pD)
 (oY (pJ (pA u U2 pf)
 (oZ (pk (pE (LZ G) r G.aW (qV y0 (pF U1 pb) (pF U1 pb)))))
 pD)
 (oZ (pk (pE (Oi G) r G.aY (pP y0 (qV U2 (pF U1 pb) (rS U1 (sG pb) sI))))))))))),?_⟩)
 rintro ds M Q ⟨A,V,l,e,rfl,rd,hf,q⟩
 obtain⟨ph,gr,ws,Ya,pr,gd,rs,i1,_⟩:=rd.pl;have p8:=rd.ok.p8;cases e with
 | turn=>exact⟨M,.refl,q⟩
 | sw b i=>
  cases b with
  | true=>exact⟨oW rfl,rfl,rfl,A,V,pc,i,rfl,rd.bd,M,.refl,q⟩
  | false=>exact⟨oW rfl,rfl,rfl,A,V,lf,i,rfl,rd.bd,M,.refl,q⟩
 | call x z=>
  have q:Q (Gw (if hasS l.pn x=lf then Fa "name" else Gi l V x z)) M:=q;refine⟨oW rfl,rfl,rfl,?_⟩;refine o9 rd.bd.at_ (i' rfl (o9 i1 ⟨rfl,_,⟨rfl,rfl⟩,V.p,l,rfl,rd.pl,by omega,λp WG=>i' pz ⟨rfl,qe _,?_⟩⟩));have t:=qo.new (c:=.lst (l.pn.map D.str)) WG;have W0:=rd.sub t;generalize pB M p (.lst (l.pn.map D.str))=M1 at t W0 ⊢;show if (!(inD (.str x) (l.pn.map D.str)))=pc then _ else _
  rw[rG];refine qg (c:=!(hasS l.pn x)) (λg=>?_) (λg=>?_)
  .rw[dh (by simpa using g)]at q;exact⟨M,t,q⟩
  .have g:hasS l.pn x=pc:=by simpa using g
   rw[g,de Bool.noConfusion]at q;exact⟨A,V,l,x,z,rfl,W0,qz.mp g,M,t,q⟩
 | num wd x ns=>
  have q:Q (Gw (if hasS l.pn x=lf then Fa "name" else Lg l V wd x ns)) M:=q;have hf:tQ.nf wd ns.length:=hf;have key:∀(M1:Mp),qo M M1->if (!(inD (.str x) (l.pn.map D.str)))=pc then(∃WC,qo WC M1/\Q (.str "name") WC)else IC a [.ref A.b,.str wd,.str x,.tup (ns.map D.int)] M1 λd M'=>∃WC,qo WC M'/\Q d WC:=λM1 t=>by
   rw[rG];refine qg (c:=!(hasS l.pn x)) (λg=>?_) (λg=>?_)
   .rw[dh (by simpa using g)]at q;exact⟨M,t,q⟩
   .have g:hasS l.pn x=pc:=by simpa using g
    rw[g,de Bool.noConfusion]at q;exact⟨A,V,l,wd,x,ns,rfl,rd.sub t,qz.mp g,hf,M,t,q⟩
  have one:ns.length=1->∃i,ns=[i]:=List.length_eq_one_iff.mp;have two:ns.length=2->∃i j,ns=[i,j]:=λh=>by
   match ns,h with
   | [i,j],_=>exact⟨i,j,rfl⟩
  rcases id hf with⟨rfl|rfl|rfl|rfl,h⟩|⟨rfl|rfl,h⟩
  .obtain⟨i,rfl⟩:=one h;exact⟨oW rfl,rfl,rfl,o9 rd.bd.at_ (i' rfl (o9 i1 ⟨rfl,_,⟨rfl,rfl⟩,V.p,l,rfl,rd.pl,by omega,λp WG=>i' pz ⟨rfl,qe _,key _ (.new WG)⟩⟩))⟩
  .obtain⟨i,rfl⟩:=one h;exact⟨oW rfl,rfl,rfl,o9 rd.bd.at_ (i' rfl (o9 i1 ⟨rfl,_,⟨rfl,rfl⟩,V.p,l,rfl,rd.pl,by omega,λp WG=>i' pz ⟨rfl,qe _,key _ (.new WG)⟩⟩))⟩
  .obtain⟨i,rfl⟩:=one h;exact⟨oW rfl,rfl,rfl,o9 rd.bd.at_ (i' rfl (o9 i1 ⟨rfl,_,⟨rfl,rfl⟩,V.p,l,rfl,rd.pl,by omega,λp WG=>i' pz ⟨rfl,qe _,key _ (.new WG)⟩⟩))⟩
  .obtain⟨i,rfl⟩:=one h;exact⟨oW rfl,rfl,rfl,o9 rd.bd.at_ (i' rfl (o9 i1 ⟨rfl,_,⟨rfl,rfl⟩,V.p,l,rfl,rd.pl,by omega,λp WG=>i' pz ⟨rfl,qe _,key _ (.new WG)⟩⟩))⟩
  .obtain⟨i,j,rfl⟩:=two h;exact⟨oW rfl,rfl,rfl,o9 rd.bd.at_ (i' rfl (o9 i1 ⟨rfl,_,⟨rfl,rfl⟩,V.p,l,rfl,rd.pl,by omega,λp WG=>i' pz ⟨rfl,qe _,key _ (.new WG)⟩⟩))⟩
  .obtain⟨i,j,rfl⟩:=two h;exact⟨oW rfl,rfl,rfl,o9 rd.bd.at_ (i' rfl (o9 i1 ⟨rfl,_,⟨rfl,rfl⟩,V.p,l,rfl,rd.pl,by omega,λp WG=>i' pz ⟨rfl,qe _,key _ (.new WG)⟩⟩))⟩
def CD(V:qu)(x:Str):Prop:=∀c∈V.calls,¬Bd c x
def E8{V:qu}(h:uA V x=Db):CD V x:=by
 unfold uA at h;cases e1:E9 V x with
 | some j=>rw[e1]at h;cases h
 | none=>
  cases e2:IF V x with
  | some j=>rw[e1,e2]at h;cases h
  | none=>
   intro c hc g;have h1:=jy.mp e1 c hc;have h2:=jy.mp e2 c hc;rcases g with g|g
   .rw[h1]at g;cases g
   .rw[h2]at g;cases g
def sD{c:pj}(h:c.st="rings"){x:Str}:Bd c x↔x=c.cr:=by unfold Bd pj.m8 pj.mR pj.mM;rw[h];simp(decide:=true)
def DD{c:pj}(h:c.st="waits"){x:Str}:Bd c x↔x=c.cr:=by unfold Bd pj.m8 pj.mR pj.mM;rw[h];simp(decide:=true)
def tF{c:pj}(h:c.st="talks"){x:Str}:Bd c x↔x∈c.ms:=by unfold Bd pj.m8 pj.mR pj.mM;rw[h,<-qz];simp(decide:=true)
def Cm{c:pj}(h:c.st="held"){x:Str}:Bd c x↔x∈c.ms/\c.hd≠Fa x:=by unfold Bd pj.m8 pj.mR;rw[h,<-qz];simp(decide:=true)
def FI{c:pj}(h:c.st="over"){x:Str}:¬Bd c x:=by unfold Bd pj.m8 pj.mR pj.mM;rw[h];simp(decide:=true)
def sA{c:pj}(h:c.st="rings"){x:Str}:c.hasB x=pc↔x=c.cr\/x∈c.at_:=by unfold pj.hasB;rw[h,<-qz];simp(decide:=true)
def DX{c:pj}(h:c.st="waits"){x:Str}:c.hasB x=pc↔x=c.cr:=by unfold pj.hasB;rw[h];simp(decide:=true)
def sR{c:pj}(h:c.st="talks"\/c.st="held"){x:Str}:c.hasB x=pc↔x∈c.ms:=by unfold pj.hasB;rw[<-qz];rcases h with h|h<;>(rw[h];simp(decide:=true))
def Gh{c:pj}(h:c.st="over"){x:Str}:c.hasB x=lf:=by unfold pj.hasB;rw[h];simp(decide:=true)
def sd{c:pj}{x:Str}:c.mK x=pc↔c.st="waits"/\x∈c.at_:=by unfold pj.mK;rw[dY,fk,qz]
theorem EZ{α:Type}(f:α->Bool):∀{l:List α} {i:Nat} {c:α} (c':α),l[i]?=Fa c->((l.set i c').filter f).length+(if f c=pc then 1 else 0)=(l.filter f).length+(if f c'=pc then 1 else 0)
 | [],_,_,_,h=>by simp at h
 | x::r,0,c,c',h=>by cases h;rw[List.set_cons_zero,gN,gN];split<;>split<;>simp
 | x::r,i+1,c,c',h=>by
  have ih:=EZ f (l:=r) (i:=i) (c:=c) c' (by simpa using h);rw[kX,gN,gN];split
  .rw[eB,eB];omega
  .exact ih
def zJ.set{V V':qu}{o o':Option Nat}{i:Nat}{c c':pj}(h:zJ l V o)(e:V'.calls=V.calls.set i c')(hc:V.calls[i]?=Fa c)(ho:∀j,j≠i->(o==Fa j)=(o'==Fa j))(ok:wb l (o'==Fa i) c')(he:∀x,Bd c' x->Bd c x\/CD V x)(hu:∀x,c'.hasB x=pc->c.hasB x=pc\/(uk V x:Int)<wQ l x)(hw:∀x,c'.mK x=pc->c.mK x=pc\/wC V x=lf)(nx:uj l V'):zJ l V' o':=by
 have si:∀{j:Nat} {d:pj},V'.calls[j]?=Fa d->(j=i/\d=c')\/(j≠i/\V.calls[j]?=Fa d):=λ{j d} g=>by rw[e]at g;exact(Ee g).imp (λg=>⟨g.1,g.2.1⟩) id
 have key:∀(j:Nat) cj x,j≠i->V.calls[j]?=Fa cj->Bd c' x->Bd cj x->False:=λj cj x hj e1 g1 g2=>by
  rcases he x g1 with z|z
  .exact hj (h.un j i cj c x e1 hc g2 z)
  .exact z cj (qJ e1) g2
 have keyw:∀(j:Nat) cj x,j≠i->V.calls[j]?=Fa cj->c'.mK x=pc->cj.mK x=pc->False:=λj cj x hj e1 g1 g2=>by
  rcases hw x g1 with z|z
  .exact hj (h.wt j i cj c x e1 hc g2 z)
  .unfold wC at z;exact absurd g2 (by rw[k9.mp z cj (qJ e1)|>dB.mpr];exact Bool.noConfusion)
 refine⟨λj d g=>?_,λm n cm cn x e1 e2 g1 g2=>?_,λx hx=>?_,λm n cm cn x e1 e2 g1 g2=>?_,nx⟩
 .rcases si g with⟨rfl,rfl⟩|⟨hj,g⟩
  .exact ok
  .rw[<-ho j hj];exact h.ok j d g
 .rcases si e1 with⟨rfl,rfl⟩|⟨hm,e1⟩<;>rcases si e2 with⟨rfl,rfl⟩|⟨hn,e2⟩
  .rfl
  .exact(key n cn x hn e2 g1 g2).elim
  .exact(key m cm x hm e1 g2 g1).elim
  .exact h.un m n cm cn x e1 e2 g1 g2
 .have cs:=EZ (λk:pj=>k.hasB x) c' hc;have hl:=h.ln x hx;unfold uk at hl ⊢;rw[e];by_cases g:c'.hasB x=pc
  .rw[dh g]at cs;rcases hu x g with z|z
   .rw[dh z]at cs;omega
   .unfold uk at z;omega
  .rw[de g]at cs;omega
 .rcases si e1 with⟨rfl,rfl⟩|⟨hm,e1⟩<;>rcases si e2 with⟨rfl,rfl⟩|⟨hn,e2⟩
  .rfl
  .exact(keyw n cn x hn e2 g1 g2).elim
  .exact(keyw m cm x hm e1 g2 g1).elim
  .exact h.wt m n cm cn x e1 e2 g1 g2
def zJ.add{V V':qu}{c':pj}(h:WF l V)(e:V'.calls=V.calls++[c'])(ok:wb l pc c')(he:∀x,Bd c' x->CD V x)(hu:∀x,c'.hasB x=pc->(uk V x:Int)<wQ l x)(hw:∀x,c'.mK x=lf)(nx:uj l V'):zJ l V' (Fa V.calls.length):=by
 have si:∀{j:Nat} {d:pj},V'.calls[j]?=Fa d->(j=V.calls.length/\d=c')\/(j≠V.calls.length/\V.calls[j]?=Fa d):=λ{j d} g=>by
  rw[e]at g;by_cases z:j<V.calls.length
  .rw[fg z]at g;exact .inr ⟨by omega,g⟩
  .have:=(cZ.mp g).1;rw[cY,dJ]at this;have z:j=V.calls.length:=by omega
   subst z;rw[eY (dw _)]at g;simp only[h9,iE,jo]at g;exact .inl ⟨rfl,g.symm⟩
 refine⟨λj d g=>?_,λm n cm cn x e1 e2 g1 g2=>?_,λx hx=>?_,λm n cm cn x e1 e2 g1 g2=>?_,nx⟩
 .rcases si g with⟨rfl,rfl⟩|⟨hj,g⟩
  .rw[fi];exact ok
  .rw[show(Fa V.calls.length==Fa j)=lf by simpa using dG hj];exact h.ok j d g
 .rcases si e1 with⟨rfl,rfl⟩|⟨hm,e1⟩<;>rcases si e2 with⟨rfl,rfl⟩|⟨hn,e2⟩
  .rfl
  .exact(he x g1 cn (qJ e2) g2).elim
  .exact(he x g2 cm (qJ e1) g1).elim
  .exact h.un m n cm cn x e1 e2 g1 g2
 .have hl:=h.ln x hx;unfold uk at hl ⊢;rw[e,iB,cY,gN];split
  .rename_i g;have:=hu x g;unfold uk at this;simp only[iS,dJ];omega
  .simp only[iS,dO];omega
 .rcases si e1 with⟨rfl,rfl⟩|⟨hm,e1⟩<;>rcases si e2 with⟨rfl,rfl⟩|⟨hn,e2⟩
  .rfl
  .rw[hw x]at g1;cases g1
  .rw[hw x]at g2;cases g2
  .exact h.wt m n cm cn x e1 e2 g1 g2
noncomputable def pj.core(c:pj):pj:={c with way:=[],si:=0}
def zr(V V':qu):Prop:=V'.calls.map pj.core=V.calls.map pj.core
def zr.at_{V V':qu}(h:zr V V'){i:Nat}{c':pj}(e:V'.calls[i]?=Fa c'):∃c,V.calls[i]?=Fa c/\c'.core=c.core:=by
 have:=eR (·[i]?) h;simp only[dF,e]at this;cases e':V.calls[i]? with
 | none=>rw[e']at this;cases this
 | some c=>rw[e']at this;exact⟨c,rfl,dv this⟩
def zr.used{V V':qu}(h:zr V V')(x:Str):uk V' x=uk V x:=by
 have key:∀cs:List pj,(cs.filter (·.hasB x)).length=((cs.map pj.core).filter (·.hasB x)).length:=λcs=>by rw[gW,cV];rfl
 unfold uk;rw[key,h,<-key]
def zr.wf{V V':qu}{o:Option Nat}(h:zr V V')(wf:zJ l V o)(hw:∀(i:Nat) c',V'.calls[i]?=Fa c'->c'.way≠[]/\∀z∈c'.way,z∈l.nm)(nx:uj l V'):zJ l V' o:=by
 refine⟨λi c' e=>?_,λi j ci cj x e1 e2 g1 g2=>?_,λx hx=>by rw[h.used];exact wf.ln x hx,λi j ci cj x e1 e2 g1 g2=>?_,nx⟩
 .obtain⟨c,ec,ee⟩:=h.at_ e;have k:=wf.ok i c ec;have k1:c'.at_=c.at_:=show c'.core.at_=c.core.at_ by rw[ee]
  have k2:c'.ms=c.ms:=show c'.core.ms=c.core.ms by rw[ee]
  have k3:c'.cr=c.cr:=show c'.core.cr=c.core.cr by rw[ee]
  exact⟨by show Lc _ c'.core;rw[ee];exact k.sh,by rw[k3];exact k.cr,by rw[k1];exact k.at_,by rw[k2];exact k.ms,by rw[k1];exact k.an,by rw[k2];exact k.mn,by rw[k1,k3];exact k.ca,hw i c' e⟩
 .obtain⟨di,a1,a2⟩:=h.at_ e1;obtain⟨dj,b1,b2⟩:=h.at_ e2;exact wf.un i j di dj x a1 b1 (by show Bd di.core x;rw[<-a2];exact g1) (by show Bd dj.core x;rw[<-b2];exact g2)
 .obtain⟨di,a1,a2⟩:=h.at_ e1;obtain⟨dj,b1,b2⟩:=h.at_ e2;exact wf.wt i j di dj x a1 b1 (by show di.core.mK x=pc;rw[<-a2];exact g1) (by show dj.core.mK x=pc;rw[<-b2];exact g2)
def tK.core{V V':qu}(h:tK V V'):zr V V':=by have:=eR (List.map pj.core) h;rw[eA,eA]at this;exact this
def Kp(V:qu):zr V (qa V .turn):=by show(V.calls.map pj.tick).map pj.core=V.calls.map pj.core;rw[eA];refine gQ λc _=>?_;show(pj.tick c).core=c.core;unfold pj.tick;split<;>rfl
def Ef{V:qu}(wf:WF l V):WF l (qa V .turn):=(Kp V).wf wf (λi c' e=>by
 have e:(V.calls.map pj.tick)[i]?=Fa c':=e;rw[dF]at e;cases q:V.calls[i]? with
 | none=>rw[q]at e;cases e
 | some c=>
  rw[q]at e;have e:c.tick=c':=dv e;have hw:c.tick.way=c.way:=by unfold pj.tick;split<;>rfl
  rw[<-e,hw];exact(wf.ok i c q).wy) wf.nx
def SR{V:qu}{b:Bool}{i:Nat}(wf:WF l V):WF l (qa V (.sw b i)):=⟨wf.ok,wf.un,wf.ln,wf.wt,wf.nx⟩
def Fi{V:qu}{o:Option Nat}{i:Nat}{z:Str}{ns:T0 Nat}(wf:zJ l V o):zJ l (qa V (.asks i z ns)) o:=⟨wf.ok,wf.un,wf.ln,wf.wt,wf.nx⟩
def HI{V:qu}{o:Option Nat}{v:rY}(wf:zJ l V o)(hz:v.g∈l.nm):zJ l (qa V (.leg v)) o:=(yT V v).core.wf wf (λi c' e=>by
 have e:(V.calls.modify v.i (·.go v.g))[i]?=Fa c':=e;rw[iV]at e;cases q:V.calls[i]? with
 | none=>rw[q]at e;cases e
 | some c=>
  rw[q]at e;have k:=(wf.ok i c q).wy;have e:(if v.i=i then c.go v.g else c)=c':=dv e;by_cases g:v.i=i
  .rw[dh g]at e;rw[<-e];refine⟨by show c.way++[v.g]≠[];simp,λz hz'=>?_⟩;rcases dR.mp (show z∈c.way++[v.g]from hz')with y|y
   .exact k.2 z y
   .rw[dg.mp y];exact hz
  .rw[de g]at e;rw[<-show c=c' from e];exact k) wf.nx
theorem BE{o:Option Nat}(i:Nat):∀(st:tz) (q:Option Str) {V:qu},zJ l V o->(∀s∈st,s.1∈l.nm)->zJ l (qC V (rF i q st)) o
 | [],_,V,wf,_=>wf
 | (y,gs)::r,Db,V,wf,h=>BE i r (Fa y) (Fi wf) λs hs=>h s (dH _ hs)
 | (y,gs)::r,Fa u,V,wf,h=>BE i r (Fa y) (Fi (HI wf (h _ dN))) λs hs=>h s (dH _ hs)
def rj{V:qu}{i:Nat}{c:pj}{f:pj->pj}(h:V.calls[i]?=Fa c):(xN V i f).calls=V.calls.set i (f c):=by unfold xN;rw[tH h]
def Bi{i:Nat}:∀j,j≠i->((Fa i:Option Nat)==Fa j)=((Db:Option Nat)==Fa j):=λj hj=>by rw[show((Fa i:Option Nat)==Fa j)=lf by simpa using dG hj];rfl
def VF{V:qu}{i:Nat}{c:pj}(wf:zJ l V (Fa i))(hc:V.calls[i]?=Fa c):c.st="rings"/\c.ms=[]/\c.hd=Db/\c.wd=Db/\c.at_=[]:=by
 have sh:=(wf.ok i c hc).sh;rw[fi]at sh;rcases sh with g|g
 .exact⟨g.1,g.2.1,g.2.2.1,g.2.2.2.1,g.2.2.2.2.1 rfl⟩
 .cases g.1
def O2{c:pj}{o:Bool}{w:Str}(k:wb l o c)(hw:w∈Lb):wb l lf (c.over w):=⟨.inr ⟨rfl,.inr (.inr (.inr ⟨rfl,rfl,rfl,rfl,w,hw,rfl⟩))⟩,k.cr,(λx hx=>by cases hx),(λx hx=>by cases hx),eL,eL,(λhx=>by cases hx),k.wy⟩
def wN{V V':qu}{o:Option Nat}{i:Nat}{c:pj}{w:Str}(wf:zJ l V o)(hc:V.calls[i]?=Fa c)(ho:o=Db\/o=Fa i)(hw:w∈Lb)(e:V'.calls=V.calls.set i (c.over w))(nx:uj l V'):WF l V':=
 wf.set e hc (λj hj=>by rcases ho with rfl|rfl;rfl;exact Bi j hj) (O2 (wf.ok i c hc) hw) (λx g=>(FI rfl g).elim) (λx g=>by rw[Gh (c:=c.over w) rfl]at g;cases g) (λx g=>by have:=(sd.mp g).1;exact absurd this (show("over":Str)≠"waits" by decide)) nx
def G5{l:pC}{V:qu}{c z:Str}(h:(l.mE z).Nodup):(xE l V c z).Nodup:=by
 unfold xE;split
 .cases(uW (l.mE z) (zv V z)).filter λx=>hasS (sQ l V c z) x with
  | nil=>exact eL
  | cons y r=>exact dW.mpr ⟨dq,eL⟩
 .exact h.sublist gf
def KN(ps:T0 (Str×Int))(z:Str)(n:Int)(y:Str):(zY ps z n).find? (λp=>decide (p.1=y))=if y=z then Fa (z,n)else ps.find? λp=>decide (p.1=y):=by
 unfold zY;by_cases h:ps.any (λp=>decide (p.1=z))=pc
 .rw[dh h];induction ps with
  | nil=>cases h
  | cons p r ih=>
   rw[dZ,fA,fA];by_cases hp:p.1=z
   .rw[dh hp];by_cases hy:y=z
    .rw[dh hy,hy];simp[hp]
    .rw[de hy];have n1:decide (p.1=y)=lf:=eP (λq=>hy (q.symm.trans hp));simp only[n1];by_cases hr:r.any (λp=>decide (p.1=z))=pc
     .have:=ih hr;rw[de hy]at this;exact this
     .have hr:∀q∈r,¬q.1=z:=λq hq g=>hr (gj.mpr ⟨q,hq,dX g⟩);rw[show r.map (λp=>if p.1=z then(p.1,n)else p)=r from(gQ λq hq=>de (hr q hq)).trans (jc _)]
   .rw[de hp];have hr:r.any (λp=>decide (p.1=z))=pc:=by
     rw[fX,gH]at h;rcases h with g|g
     .exact absurd (fv g) hp
     .exact g
    have ih:=ih hr;by_cases hy:y=z
    .rw[dh hy]at ih ⊢;have n1:decide (p.1=y)=lf:=eP (λq=>hp (q.trans hy));simp only[n1];exact ih
    .rw[de hy]at ih ⊢;cases decide (p.1=y)with
     | true=>rfl
     | false=>exact ih
 .rw[de h,jr];have hr:∀q∈ps,¬q.1=z:=λq hq g=>h (gj.mpr ⟨q,hq,dX g⟩);by_cases hy:y=z
  .subst hy;rw[dh rfl,fW.mpr λq hq=>by simpa using hr q hq,l0];simp
  .rw[de hy,fA,eP (λq:z=y=>hy q.symm)];simp
def MC{V:qu}{z:Str}{n:Int}(h:uj l V)(h0:0<=n)(h1:n<=((l.mE z).length:Int)):uj l (qa V (.next z n)):=λy hy ht=>by
 show ∃v,(zY V.ps z n).find? _=Fa v/\_;rw[KN];by_cases e:y=z
 .subst e;rw[dh rfl];exact⟨_,rfl,h0,h1⟩
 .rw[de e];exact h y hy ht
def D8{V:qu}(h:sZ l V x=pc):(uk V x:Int)<wQ l x:=fv h
def Jt{V V':qu}{o:Option Nat}{i:Nat}{c:pj}{w x:Str}(wf:zJ l V o)(hc:V.calls[i]?=Fa c)(e:V'.calls=V.calls.set i (c.over w))(hx:Bd c x):CD V' x:=λd hd g=>by
 rw[e]at hd;obtain⟨j,hj,ed⟩:=fM hd;have ej:(V.calls.set i (c.over w))[j]?=Fa d:=by rw[cX hj,ed]
 rcases Ee ej with⟨_,rfl,_⟩|⟨WZ,ej⟩
 .exact FI rfl g
 .exact WZ (wf.un j i d c x ej hc g hx)
def Kb{V V':qu}{i:Nat}{c:pj}{w x:Str}(hc:V.calls[i]?=Fa c)(e:V'.calls=V.calls.set i (c.over w))(hx:c.hasB x=pc):uk V' x+1=uk V x:=by
 have:=EZ (λk:pj=>k.hasB x) (c.over w) hc;unfold uk;rw[e];simp only[hx,iZ,Gh (c:=c.over w) rfl]at this
 simpa using this
def FM{V V':qu}{o:Option Nat}{i j:Nat}{c d:pj}{ms:QQQ}(wf:zJ l V o)(ho:o=Db\/o=Fa i)(hc:V.calls[i]?=Fa c)(hd:V.calls[j]?=Fa d)(Xw:i≠j)(e:V'.calls=(V.calls.set i (c.over "merged")).set j (d.mem ms))(nx:uj l V')(dt:d.st="talks")(m1:ms.Nodup)(m2:ms.length=2\/ms.length=3)(m3:∀x∈ms,x∈d.ms\/(Bd c x/\c.hasB x=pc))(m4:∀x∈ms,x∈l.pn):WF l V':=by
 have e1:(xN V i (·.over "merged")).calls=V.calls.set i (c.over "merged"):=rj hc;have w1:WF l (xN V i (·.over "merged")):=wN wf hc ho (by decide) e1 wf.nx;have hd1:(xN V i (·.over "merged")).calls[j]?=Fa d:=by rw[e1,fG Xw];exact hd
 have kd:=w1.ok j d hd1;have kd':d.hd=Db/\d.wd=Db/\d.at_=[]:=by
  rcases kd.sh with g|⟨_,g|g|⟨_,g⟩|g⟩
  .rw[dt]at g;exact absurd g.1 (by decide)
  .rw[dt]at g;exact absurd g.1 (by decide)
  .exact⟨g.2.2.1,g.2.2.2.1,g.2.2.2.2⟩
  .rw[dt]at g;exact absurd g.1 (by decide)
  .rw[dt]at g;exact absurd g.1 (by decide)
 refine w1.set (c':=d.mem ms) (by rw[e,e1]) hd1 (λ_ _=>rfl) ⟨.inr ⟨rfl,.inr (.inl ⟨dt,m2,kd'.1,kd'.2.1,kd'.2.2⟩)⟩,kd.cr,kd.at_,m4,kd.an,m1,kd.ca,kd.wy⟩ (λx g=>?_) (λx g=>?_) (λx g=>?_) nx
 .have g:=(tF (c:=d.mem ms) dt).mp g;rcases m3 x g with y|y
  .exact .inl ((tF dt).mpr y)
  .exact .inr (Jt wf hc e1 y.1)
 .have g:=(sR (c:=d.mem ms) (.inl dt)).mp g;rcases m3 x g with y|y
  .exact .inl ((sR (.inl dt)).mpr y)
  .have:=Kb hc e1 y.2;have:=wf.ln x (m4 x g);exact .inr (by omega)
 .have:=(sd.mp g).1;rw[show(d.mem ms).st="talks" from dt]at this;exact absurd this (by decide)
def Se{V V1:qu}{i:Nat}{c:pj}{e:vK}(ok:rf l)(wf:zJ l V1 (Fa i))(same:zr V V1)(hc:V1.calls[i]?=Fa c)(he:GV l V c.cr e):WF l (qC V1 (sH l V1 i e)):=by
 obtain⟨p1,p2,p3,p4,p5⟩:=VF wf hc;have k:=wf.ok i c hc;have hi:=(cZ.mp hc).1;cases e with
 | rings z ps=>
  obtain⟨hz,WZ,rfl⟩:=he;obtain⟨⟨q1,q2,q3,q4⟩,_⟩:=ok.of hz;obtain⟨r1,r2⟩:=Gx (l:=l) (V:=V) (c:=c.cr) (z:=z);generalize hps:xE l V c.cr z=ps at WZ r1 r2;have WB:∀V2:qu,V2.calls=V1.calls->uj l V2->WF l (qa V2 (.rings i ps)):=λV2 e2 nx=>by
   have e3:(qa V2 (.rings i ps)).calls=V1.calls.set i (c.ring ps):=by show(xN (qM V2 _) i _).calls=_;rw[rj (c:=c) (by show V2.calls[i]?=_;rw[e2];exact hc)];show V2.calls.set i _=_;rw[e2]
   have free:∀x∈ps,sZ l V x=pc/\x≠c.cr:=λx hx=>by have h:=(eQ.mp (r1 x hx).1).2;simp only[dY,gw]at h;exact⟨h.2,by simpa using h.1⟩
   refine wf.set e3 hc Bi ⟨.inl ⟨rfl,p2,p3,p4,(λh=>by cases h),λ_=>WZ⟩,k.cr,λx hx=>q4 x (r1 x hx).2,k.ms,by rw[<-hps];exact G5 q3,k.mn,λhx=>(free _ hx).2 rfl,k.wy⟩ (λx g=>?_) (λx g=>?_) (λx g=>?_) nx
   .exact .inl ((sD p1).mpr ((sD (c:=c.ring ps) rfl).mp g))
   .rcases(sA (c:=c.ring ps) rfl).mp g with y|y
    .exact .inl ((sA p1).mpr (.inl y))
    .refine .inr ?_;rw[same.used];exact D8 (free x y).1
   .exact absurd (sd.mp g).1 (show("rings":Str)≠"waits" by decide)
  show WF l (qC V1 ((if (l.mP z=="turns")=pc then _ else _)++[.rings i ps]));rw[rC];by_cases ht:(l.mP z=="turns")=pc
  .rw[dh ht];have lp:0<(l.mE z).length:=fC.mpr q1;refine WB _ rfl (MC wf.nx (eV _ (by omega)) (Int.le_of_lt (eN _ (by omega))))
  .rw[de ht];exact WB V1 rfl wf.nx
 | waits z=>
  obtain⟨hz,WZ,hw⟩:=he;have e3:(qa V1 (.waits i z)).calls=V1.calls.set i (c.wait z):=rj (V:=qM V1 _) hc;have hw1:wC V1 z=lf:=by
   unfold wC at hw ⊢;have key:∀cs:List pj,cs.any (·.mK z)=(cs.map pj.core).any (·.mK z):=λcs=>by rw[jJ];rfl
   rw[key,same,<-key];exact hw
  refine wf.set e3 hc Bi ⟨.inr ⟨rfl,.inl ⟨rfl,p2,p3,p4,rfl⟩⟩,k.cr,λx hx=>by rw[dg.mp hx];exact hz,k.ms,dW.mpr ⟨dq,eL⟩,k.mn,λhx=>WZ (dg.mp hx).symm,k.wy⟩ (λx g=>?_) (λx g=>?_) (λx g=>?_) wf.nx
  .exact .inl ((sD p1).mpr ((DD (c:=c.wait z) rfl).mp g))
  .exact .inl ((sA p1).mpr (.inl ((DX (c:=c.wait z) rfl).mp g)))
  .have:=(sd.mp g).2;rw[dg.mp this];exact .inr hw1
 | breaks z=>
  obtain⟨x,rfl,hb⟩:=he;obtain⟨j,d0,t1,t2,t3,t4,t5,t6⟩:=GA hb;have ht:vE V1 z=Fa j:=by
   rw[<-t1];unfold vE;have key:∀cs:List pj,cs.findIdx? (·.mM z)=(cs.map pj.core).findIdx? (·.mM z):=λcs=>by rw[hJ];rfl
   rw[key,same,<-key]
  obtain⟨d,ed,ec⟩:∃d,V1.calls[j]?=Fa d/\d.core=d0.core:=by
   have:=eR (·[j]?) same;simp only[dF,t2]at this;cases q:V1.calls[j]? with
   | none=>rw[q]at this;cases this
   | some d=>rw[q]at this;exact⟨d,rfl,dv this⟩
  have ds:d.st="talks":=by rw[show d.st=d0.st from show d.core.st=d0.core.st by rw[ec]];exact t3
  have dm:d.ms=d0.ms:=show d.core.ms=d0.core.ms by rw[ec]
  have Xw:i≠j:=λy=>by subst y;rw[hc]at ed;cases ed;rw[p1]at ds;exact absurd ds (by decide)
  have hee:sH l V1 i (.breaks z)=[.merge i j (d.ms++[c.cr])]:=by unfold sH;dsimp only;rw[ht,hc];dsimp only;rw[ed];rfl
  rw[hee];have ncr:c.cr∉d.ms:=λy=>Xw (wf.un i j c d c.cr hc ed ((sD p1).mpr rfl) ((tF ds).mpr y));have kd:=wf.ok j d ed;refine FM (V':=qa V1 (.merge i j (d.ms++[c.cr]))) (ms:=d.ms++[c.cr]) wf (.inr rfl) hc ed Xw ?_ wf.nx ds ?_ (.inr ?_) (λx hx=>?_) (λx hx=>?_)
  .show(V1.calls.modify i _).modify j _=_;rw[tH hc,tH (show(V1.calls.set i _)[j]?=Fa d by rw[fG Xw];exact ed)]
  .refine fD.mpr ⟨kd.mn,dW.mpr ⟨dq,eL⟩,λx hx y hy q=>ncr ?_⟩;rw[dg.mp hy]at q;rw[<-q];exact hx
  .rw[cY,dm,t5];rfl
  .rcases dR.mp hx with y|y
   .exact .inl y
   .rw[dg.mp y];exact .inr ⟨(sD p1).mpr rfl,(sA p1).mpr (.inl rfl)⟩
  .rcases dR.mp hx with y|y
   .exact kd.ms x y
   .rw[dg.mp y];exact k.cr
 | engaged z=>exact wN (V':=qa V1 (.over i "engaged")) wf hc (.inr rfl) (by decide) (rj (V:=qM V1 _) hc) wf.nx
 | barred=>exact wN (V':=qa V1 (.over i "barred")) wf hc (.inr rfl) (by decide) (rj (V:=qM V1 _) hc) wf.nx
 | ring ns=>exact wN (V':=qa V1 (.over i "ring")) wf hc (.inr rfl) (by decide) (rj (V:=qM V1 _) hc) wf.nx
def Qo{V:qu}{i:Nat}{k:pj}(ok:rf l)(wf:zJ l V (Fa i))(hk:V.calls[i]?=Fa k):WF l (qC V (vA l V i)):=by
 have XC:=wf.ok i k hk;unfold vA;rw[hk];dsimp only[Option.elim];obtain⟨z,hz⟩:∃z,k.way.getLast?=Fa z:=by
  cases e:k.way.getLast? with
  | none=>exact absurd (gq.mp e) XC.wy.1
  | some z=>exact⟨z,rfl⟩
 rw[show k.way.getLastD Str.empty=z by rw[im,hz];rfl];have ro:yf l V k.cr (l.nm.length+1) [] (uZ l V k.cr z k.way.dropLast):=zu ok _ _ _ _ (XC.wy.2 z (ig hz)) λx hx=>XC.wy.2 x (iU _ hx);generalize uZ l V k.cr z k.way.dropLast=R at ro;obtain⟨e,st⟩:=R;have snm:∀s∈st,s.1∈l.nm:=λs hs=>(ro.nm s hs).elim (λh=>by cases h) id;have w1:=BE i st Db wf snm;have Xc:=vG i st Db V;rw[rC,rC];dsimp only;have WB:∀V1:qu,zJ l V1 (Fa i)->tK V V1->WF l (qC V1 (sH l V i e)):=λV1 w s=>by
  rw[<-s.ends];obtain⟨c',e1,e2⟩:=s.at_ hk;have hcr:c'.cr=k.cr:=show c'.bare.cr=k.bare.cr by rw[e2]
  exact Se ok w s.core e1 (by rw[hcr];exact ro.e)
 cases e with
 | ring ns=>
  obtain⟨x,ns',rfl⟩:=fT (show ns≠[]from ro.e);cases hl:st.getLast? with
  | none=>rw[show tX i st (.ring (x::ns'))=[]by unfold tX;dsimp only;rw[hl];rfl];exact WB _ w1 Xc
  | some s0=>rw[show tX i st (.ring (x::ns'))=[.leg ⟨i,s0.1,x,s0.1⟩]by unfold tX;dsimp only;rw[hl];rfl];exact WB _ (HI (v:=⟨i,s0.1,x,s0.1⟩) w1 (ro.wy _ rfl x dN)) (Xc.trans (yT _ _))
 | rings _ _=>exact WB _ w1 Xc
 | waits _=>exact WB _ w1 Xc
 | breaks _=>exact WB _ w1 Xc
 | engaged _=>exact WB _ w1 Xc
 | barred=>exact WB _ w1 Xc
def HF{V:qu}{y z:Str}(wf:WF l V)(hy:y∈l.pn)(hz:z∈l.nm)(hi:CD V y)(hf:sZ l V y=pc):zJ l (qC V [.new V.calls.length y,.leg ⟨V.calls.length,y,z,y⟩]) (Fa V.calls.length):=by
 have e:(qC V [.new V.calls.length y,.leg ⟨V.calls.length,y,z,y⟩]).calls=V.calls++[(zB y).go z]:=by show(V.calls++[zB y]).modify V.calls.length _=_;rw[tH (c:=zB y) (by rw[eY (dw _),h9];rfl),j9 _ _ (dw _),h9];rfl
 refine wf.add e ⟨.inl ⟨rfl,rfl,rfl,rfl,λ_=>rfl,(λh=>by cases h)⟩,hy,(λx h=>by cases h),(λx h=>by cases h),eL,eL,(λh=>by cases h),fR _ _,λx h=>by rw[dg.mp h];exact hz⟩ (λx h=>?_) (λx h=>?_) (λx=>?_) wf.nx
 .rw[(sD (c:=(zB y).go z) rfl).mp h];exact hi
 .rcases(sA (c:=(zB y).go z) rfl).mp h with g|g
  .rw[g];exact D8 hf
  .cases g
 .cases q:((zB y).go z).mK x with
  | false=>rfl
  | true=>exact absurd (sd.mp q).1 (show("rings":Str)≠"waits" by decide)
def Nf{V:qu}{y z:Str}:∃k,(qC V [.new V.calls.length y,.leg ⟨V.calls.length,y,z,y⟩]).calls[V.calls.length]?=Fa k:=by
 have:V.calls.length<(qC V [.new V.calls.length y,.leg ⟨V.calls.length,y,z,y⟩]).calls.length:=by show V.calls.length<((V.calls++[zB y]).modify _ _).length;rw[gp,cY];exact fK _
 exact⟨_,cX this⟩
def Fj{V:qu}{i:Nat}{c:pj}{x y:Str}{fs:T0 Nat}(wf:WF l V)(hc:V.calls[i]?=Fa c)(hs:c.st="rings")(hy:y∈l.nm):zJ l (qC V [.asks i x fs,.quiet i,.leg ⟨i,x,y,x⟩]) (Fa i):=by
 refine HI (v:=⟨i,x,y,x⟩) ?_ hy;have k:=wf.ok i c hc;have w1:WF l (qa V (.asks i x fs)):=Fi wf;have sh:c.ms=[]/\c.hd=Db/\c.wd=Db:=by
  rcases k.sh with g|⟨_,g|g|⟨_,g⟩|g⟩
  .exact⟨g.2.1,g.2.2.1,g.2.2.2.1⟩
  all_goals(rw[hs]at g;exact absurd g.1 (by decide))
 refine w1.set (i:=i) (c:=c) (c':=c.nI) (rj (V:=qM (qa V (.asks i x fs)) _) hc) hc (λj hj=>(Bi j hj).symm) ?_ (λx g=>.inl ?_) (λx g=>.inl ?_) (λx g=>?_) wf.nx
 .rw[fi];exact⟨.inl ⟨hs,sh.1,sh.2.1,sh.2.2,λ_=>rfl,(λh=>by cases h)⟩,k.cr,(λx h=>by cases h),k.ms,eL,k.mn,(λh=>by cases h),k.wy⟩
 .exact(sD hs).mpr ((sD (c:=c.nI) hs).mp g)
 .rcases(sA (c:=c.nI) hs).mp g with y|y
  .exact(sA hs).mpr (.inl y)
  .cases y
 .have:=(sd.mp g).1;rw[show c.nI.st="rings" from hs]at this;exact absurd this (by decide)
inductive UF(l:pC)(V:qu)(i:Nat):List Nat->Prop
 | no:UF l V i []
 | on (c:pj) (k:Nat) (r:List Nat) (b:Bool) (x y:Str) (n:Int):V.calls[i]?=Fa c->c.st="rings"->l.mG[k]?=Fa (b,.silent x y n)->c.way.getLast?=Fa x->y∈l.nm->UF l V i (k::r)
def HV{V:qu}(ok:rf l):UF l V i (zH l V i):=by
 unfold zH;cases e:V.calls[i]? with
 | none=>exact .no
 | some c=>
  dsimp only[Option.elim];by_cases hs:(c.st=="rings")=pc
  .rw[dh hs];cases q:Hd l V (FR c)with
   | nil=>exact .no
   | cons k r=>
    obtain⟨⟨b,w⟩,e1,e2⟩:=EL (i:=k) (by rw[q];exact dN);cases w with
    | silent x y n=>unfold FR at e2;rw[dY,fk]at e2;exact .on c k r b x y n e (At hs) e1 e2.1 (Cj ok (fY e1) (z:=Str.empty) rfl)
    | _=>cases e2
  .rw[de hs];exact .no
def Ak{l:pC}{V:qu}{i k:Nat}{r:T0 Nat}{b:Bool}{x y:Str}{n:Int}(h:l.mG[k]?=Fa (b,.silent x y n)):sW l V i (k::r)=[.asks i x (k::r),.quiet i,.leg ⟨i,x,y,x⟩]++vA l (qC V [.asks i x (k::r),.quiet i,.leg ⟨i,x,y,x⟩]) i:=by unfold sW;simp only[List.head?_cons,lP,h]
def En{V:qu}{i:Nat}{c:pj}{x y:Str}{fs:T0 Nat}(h:V.calls[i]?=Fa c):(qC V [.asks i x fs,.quiet i,.leg ⟨i,x,y,x⟩]).calls[i]?=Fa (c.nI.go y):=by show((V.calls.modify i pj.nI).modify i _)[i]?=_;rw[iV,iV,h];simp
def Jc{V:qu}(ok:rf l)(wf:WF l V):WF l (qC V (sW l V i (zH l V i))):=by
 have d:=HV (V:=V) (i:=i) ok;generalize zH l V i=fs at d;cases d with
 | no=>exact wf
 | on c k r b x y n hc hs hk hw hy=>rw[Ak hk,rC];exact Qo ok (Fj wf hc hs hy) (En hc)
theorem Eo(ok:rf l):∀(is:T0 Nat) {V:qu},WF l V->WF l (qC V (rg l is V))
 | [],_,wf=>wf
 | i::r,V,wf=>by unfold rg;rw[rC];exact Eo ok r (Jc ok wf)
theorem DA(l:pC)(i:Nat):∀(is:T0 Nat) (V:qu),rg l (is++[i]) V=rg l is V++sW l (qC V (rg l is V)) i (zH l (qC V (rg l is V)) i)
 | [],V=>by show sW l V i _++[]=[]++_;rw[e9];rfl
 | j::r,V=>by show sW l V j _++rg l (r++[i]) _=(sW l V j _++rg l r _)++_;rw[DA l i r,fj,show rg l (j::r) V=sW l V j (zH l V j)++rg l r (qC V (sW l V j (zH l V j)))from rfl,rC]
def tV{x y:Str}:y∈rE ss x↔y∈ss/\y≠x:=by unfold rE;rw[eQ,gw,fV]
theorem xB{x:Str}:∀{ss:QQQ},ss.Nodup->x∈ss->(rE ss x).length+1=ss.length
 | [],_,h=>by cases h
 | y::r,nd,h=>by
  have nd:=dW.mp nd;unfold rE;rw[gN];by_cases e:y=x
  .subst e;rw[show(!(y==y))=lf by simp,de (by decide),kD.mpr λz hz=>by
    have:z≠y:=λq=>nd.1 (q ▸ hz)
    simpa using this]
   rfl
  .have h:x∈r:=by
    rcases c9.mp h with q|q
    .exact absurd q.symm e
    .exact q
   rw[dh (by simpa using e)];have:=xB nd.2 h;unfold rE at this;rw[eB,eB,this]
def OT{V:qu}{i:Nat}{c:pj}{x:Str}(wf:WF l V)(hc:V.calls[i]?=Fa c)(hl:c.nB x=pc):WF l (qC V (vc V x i)):=by
 have k:=wf.ok i c hc;unfold vc;rw[hc];dsimp only[Option.elim];by_cases h1:c.mR x=pc
 .rw[dh h1];exact wN (V':=qa V (.over i "left")) wf hc (.inl rfl) (by decide) (rj (V:=qM V _) hc) wf.nx
 .rw[de h1];have e1:(qa V (.leaves i x)).calls=V.calls.set i (c.drop x):=rj (V:=qM V _) hc;by_cases h2:hasS c.at_ x=pc
  .rw[dh h2];by_cases h3:rE c.at_ x=[]
   .rw[dh h3];refine wN (V':=qa (qa V (.leaves i x)) (.over i "refused")) wf hc (.inl rfl) (by decide) (w:="refused") ?_ wf.nx;have h4:(qa V (.leaves i x)).calls[i]?=Fa (c.drop x):=by rw[e1,fJ (cZ.mp hc).1]
    show(xN (qM (qa V (.leaves i x)) _) i _).calls=_;rw[rj (V:=qM (qa V (.leaves i x)) _) h4];show(qa V (.leaves i x)).calls.set i _=_;rw[e1,jF];rfl
   .rw[de h3];have hs:c.st="rings"/\c.ms=[]/\c.hd=Db/\c.wd=Db:=by
     rcases k.sh with g|⟨_,g|g|⟨_,g⟩|g⟩
     .exact⟨g.1,g.2.1,g.2.2.1,g.2.2.2.1⟩
     .exfalso;have:=xB k.an (qz.mp h2);rw[g.2.2.2.2]at this;exact h3 (gy.mp (by omega))
     .rw[g.2.2.2.2]at h2;cases h2
     .rw[g.2.2.2.2.2]at h2;cases h2
     .rw[g.2.2.2.1]at h2;cases h2
    refine wf.set (V':=qa V (.leaves i x)) (c':=c.drop x) e1 hc (λ_ _=>rfl) ⟨.inl ⟨hs.1,by show rE c.ms x=[];rw[hs.2.1];rfl,hs.2.2.1,hs.2.2.2,(λh=>by cases h),λ_=>h3⟩,k.cr,λy hy=>k.at_ y (tV.mp hy).1,λy hy=>k.ms y (tV.mp hy).1,k.an.sublist gf,k.mn.sublist gf,λhy=>k.ca (tV.mp hy).1,k.wy⟩ (λy g=>?_) (λy g=>?_) (λy g=>?_) wf.nx
    .exact .inl ((sD hs.1).mpr ((sD (c:=c.drop x) hs.1).mp g))
    .refine .inl ((sA hs.1).mpr (((sA (c:=c.drop x) hs.1).mp g).imp id λh=>(tV.mp h).1))
    .have:=(sd.mp g).1;rw[show(c.drop x).st="rings" from hs.1]at this;exact absurd this (by decide)
  .rw[de h2];by_cases h3:2<c.ms.length
   .rw[dh h3];have hx:x∈c.ms:=by unfold pj.nB at hl;rw[dB.mpr h1,dB.mpr h2,fN,fN]at hl;exact qz.mp hl
    have hs:c.st="talks"/\c.ms.length=3/\c.hd=Db/\c.wd=Db/\c.at_=[]:=by
     rcases k.sh with g|⟨_,g|g|⟨_,g⟩|g⟩
     .rw[g.2.1]at h3;cases h3
     .rw[g.2.1]at h3;cases h3
     .exact⟨g.1,g.2.1.elim (λq=>by omega) id,g.2.2⟩
     .omega
     .rw[g.2.1]at h3;cases h3
    have dl:=xB k.mn hx;refine wf.set (V':=qa V (.leaves i x)) (c':=c.drop x) e1 hc (λ_ _=>rfl) ⟨.inr ⟨rfl,.inr (.inl ⟨hs.1,.inl (by show(rE c.ms x).length=2;omega),hs.2.2.1,hs.2.2.2.1,by show rE c.at_ x=[];rw[hs.2.2.2.2];rfl⟩)⟩,k.cr,λy hy=>k.at_ y (tV.mp hy).1,λy hy=>k.ms y (tV.mp hy).1,k.an.sublist gf,k.mn.sublist gf,λhy=>k.ca (tV.mp hy).1,k.wy⟩ (λy g=>?_) (λy g=>?_) (λy g=>?_) wf.nx
    .exact .inl ((tF hs.1).mpr (tV.mp ((tF (c:=c.drop x) hs.1).mp g)).1)
    .exact .inl ((sR (.inl hs.1)).mpr (tV.mp ((sR (c:=c.drop x) (.inl hs.1)).mp g)).1)
    .have:=(sd.mp g).1;rw[show(c.drop x).st="talks" from hs.1]at this;exact absurd this (by decide)
   .rw[de h3];exact wN (V':=qa V (.over i "done")) wf hc (.inl rfl) (by decide) (rj (V:=qM V _) hc) wf.nx
def J'{V:qu}{i:Nat}{c:pj}(wf:WF l V)(hc:V.calls[i]?=Fa c)(hx:hasS c.at_ x=pc)(hi:CD V x)(hf:c.mK x=pc->sZ l V x=pc):WF l (qa V (.talks i [c.cr,x])):=by
 have k:=wf.ok i c hc;have hx:=qz.mp hx;have WZ:c.cr≠x:=λq=>k.ca (q ▸ hx);have hs:(c.st="rings"\/c.st="waits")/\c.wd=Db:=by
  rcases k.sh with g|⟨_,g|g|⟨_,g⟩|g⟩
  .exact⟨.inl g.1,g.2.2.2.1⟩
  .exact⟨.inr g.1,g.2.2.2.1⟩
  .rw[g.2.2.2.2]at hx;cases hx
  .rw[g.2.2.2.2.2]at hx;cases hx
  .rw[g.2.2.2.1]at hx;cases hx
 have ec:Bd c c.cr/\c.hasB c.cr=pc:=by
  rcases hs.1 with g|g
  .exact⟨(sD g).mpr rfl,(sA g).mpr (.inl rfl)⟩
  .exact⟨(DD g).mpr rfl,(DX g).mpr rfl⟩
 refine wf.set (V':=qa V (.talks i [c.cr,x])) (c':=c.nC [c.cr,x]) (rj (V:=qM V _) hc) hc (λ_ _=>rfl) ⟨.inr ⟨rfl,.inr (.inl ⟨rfl,.inl rfl,rfl,hs.2,rfl⟩)⟩,k.cr,(λy h=>by cases h),(λy h=>?_),eL,?_,(λh=>by cases h),k.wy⟩ (λy g=>?_) (λy g=>?_) (λy g=>?_) wf.nx
 .rcases c9.mp h with g|g
  .rw[g];exact k.cr
  .rw[dg.mp g];exact k.at_ x hx
 .exact dW.mpr ⟨λh=>WZ (dg.mp h),dW.mpr ⟨dq,eL⟩⟩
 .rcases c9.mp ((tF (c:=c.nC [c.cr,x]) rfl).mp g)with h|h
  .rw[h];exact .inl ec.1
  .rw[dg.mp h];exact .inr hi
 .rcases c9.mp ((sR (c:=c.nC [c.cr,x]) (.inl rfl)).mp g)with h|h
  .rw[h];exact .inl ec.2
  .rw[dg.mp h];rcases hs.1 with q|q
   .exact .inl ((sA q).mpr (.inr hx))
   .exact .inr (D8 (hf (sd.mpr ⟨q,hx⟩)))
 .exact absurd (sd.mp g).1 (show("talks":Str)≠"waits" by decide)
def zM{c:pj}{x:Str}:c.mT x=pc↔c.st="talks"/\x∈c.ms/\c.ms.length=2:=by unfold pj.mT pj.mM;rw[dY,dY,fk,qz,fk,and_assoc]
def MZ{c:pj}(k:wb l lf c)(h:c.st="talks"):c.hd=Db/\c.wd=Db/\c.at_=[]:=by
 rcases k.sh with g|⟨_,g|g|⟨_,g⟩|g⟩
 .rw[h]at g;exact absurd g.1 (by decide)
 .rw[h]at g;exact absurd g.1 (by decide)
 .exact g.2.2
 .rw[h]at g;exact absurd g.1 (by decide)
 .rw[h]at g;exact absurd g.1 (by decide)
def EQ{c:pj}{x:Str}(k:wb l lf c)(h:c.hd=Fa x):c.st="held"/\c.ms.length=2/\x∈c.ms/\c.wd=Db/\c.at_=[]:=by
 rcases k.sh with g|⟨_,g|g|⟨y,g⟩|g⟩
 .rw[h]at g;cases g.2.2.1
 .rw[h]at g;cases g.2.2.1
 .rw[h]at g;cases g.2.2.1
 .have e:=g.2.2.1;rw[h]at e;cases e;exact⟨g.1,g.2.1,g.2.2.2⟩
 .rw[h]at g;cases g.2.2.1
def NV{V:qu}{i:Nat}{c:pj}{x:Str}(wf:WF l V)(hc:V.calls[i]?=Fa c)(hx:c.mT x=pc):WF l (qa V (.held i x)):=by
 have k:=wf.ok i c hc;obtain⟨h1,h2,h3⟩:=zM.mp hx;obtain⟨s1,s2,s3⟩:=MZ k h1;refine wf.set (V':=qa V (.held i x)) (c':=c.hold x) (rj (V:=qM V _) hc) hc (λ_ _=>rfl) ⟨.inr ⟨rfl,.inr (.inr (.inl ⟨x,rfl,h3,rfl,h2,s2,s3⟩))⟩,k.cr,k.at_,k.ms,k.an,k.mn,k.ca,k.wy⟩ (λy g=>.inl ?_) (λy g=>.inl ?_) (λy g=>?_) wf.nx
 .exact(tF h1).mpr ((Cm (c:=c.hold x) rfl).mp g).1
 .exact(sR (.inl h1)).mpr ((sR (c:=c.hold x) (.inr rfl)).mp g)
 .exact absurd (sd.mp g).1 (show("held":Str)≠"waits" by decide)
def Ny{V:qu}{i:Nat}{c:pj}{x:Str}(wf:WF l V)(hc:V.calls[i]?=Fa c)(hx:c.hd=Fa x)(hi:CD V x):WF l (qa V (.talks i c.ms)):=by
 have k:=wf.ok i c hc;obtain⟨h1,h2,h3,h4,h5⟩:=EQ k hx;refine wf.set (V':=qa V (.talks i c.ms)) (c':=c.nC c.ms) (rj (V:=qM V _) hc) hc (λ_ _=>rfl) ⟨.inr ⟨rfl,.inr (.inl ⟨rfl,.inl h2,rfl,h4,rfl⟩)⟩,k.cr,(λy h=>by cases h),k.ms,eL,k.mn,(λh=>by cases h),k.wy⟩ (λy g=>?_) (λy g=>.inl ?_) (λy g=>?_) wf.nx
 .have g:=(tF (c:=c.nC c.ms) rfl).mp g;by_cases e:y=x
  .rw[e];exact .inr hi
  .exact .inl ((Cm h1).mpr ⟨g,λq=>e (dv (q.symm.trans hx))⟩)
 .exact(sR (.inr h1)).mpr ((sR (c:=c.nC c.ms) (.inl rfl)).mp g)
 .exact absurd (sd.mp g).1 (show("talks":Str)≠"waits" by decide)
def Dp{c:pj}{x:Str}(nd:c.ms.Nodup)(h2:c.ms.length=2)(hx:x∈c.ms):qy c x∈c.ms/\qy c x≠x:=by
 have dl:=xB nd hx;obtain⟨y,r,e⟩:=List.exists_cons_of_length_pos (show 0<(rE c.ms x).length by omega);have hm:y∈rE c.ms x:=by rw[e];exact dN
 unfold qy;rw[e];exact tV.mp hm
def Ik{V:qu}{i j:Nat}{c d:pj}{w x:Str}(wf:WF l V)(hc:V.calls[i]?=Fa c)(hd:V.calls[j]?=Fa d)(h1:c.hd=Fa x)(h2:d.mT x=pc):i≠j/\WF l (qa V (.merge i j (if (w=="hand")=pc then[qy c x,qy d x]else[x,qy c x,qy d x]))):=by
 have k:=wf.ok i c hc;have kd:=wf.ok j d hd;obtain⟨c1,c2,c3,c4,c5⟩:=EQ k h1;obtain⟨d1,d2,d3⟩:=zM.mp h2;obtain⟨a1,a2⟩:=Dp k.mn c2 c3;obtain⟨b1,b2⟩:=Dp kd.mn d3 d2;have Xw:i≠j:=λq=>by subst q;rw[hc]at hd;cases hd;rw[c1]at d1;exact absurd d1 (by decide)
 refine⟨Xw,?_⟩;have ea:Bd c (qy c x):=(Cm c1).mpr ⟨a1,λq=>a2 (dv (q.symm.trans h1))⟩;have ab:qy c x≠qy d x:=λq=>Xw (wf.un i j c d _ hc hd ea (by rw[q];exact(tF d1).mpr b1));generalize hms:(if (w=="hand")=pc then[qy c x,qy d x]else[x,qy c x,qy d x])=ms;have mm:∀y∈ms,y=x\/y=qy c x\/y=qy d x:=λy hy=>by
  rw[<-hms]at hy;split at hy
  .rcases c9.mp hy with g|g
   .exact .inr (.inl g)
   .exact .inr (.inr (dg.mp g))
  .rcases c9.mp hy with g|g
   .exact .inl g
   .rcases c9.mp g with g|g
    .exact .inr (.inl g)
    .exact .inr (.inr (dg.mp g))
 have n2:[qy c x,qy d x].Nodup:=dW.mpr ⟨λh=>ab (dg.mp h),dW.mpr ⟨dq,eL⟩⟩;refine FM (V':=qa V (.merge i j ms)) (ms:=ms) wf (.inl rfl) hc hd Xw ?_ wf.nx d1 ?_ ?_ (λy hy=>?_) (λy hy=>?_)
 .show(V.calls.modify i _).modify j _=_;rw[tH hc,tH (show(V.calls.set i _)[j]?=Fa d by rw[fG Xw];exact hd)]
 .rw[<-hms];split
  .exact n2
  .refine dW.mpr ⟨λh=>?_,n2⟩;rcases c9.mp h with g|g
   .exact a2 g.symm
   .exact b2 (dg.mp g).symm
 .rw[<-hms];split
  .exact .inl rfl
  .exact .inr rfl
 .rcases mm y hy with g|g|g
  .rw[g];exact .inl d2
  .rw[g];exact .inr ⟨ea,(sR (.inr c1)).mpr a1⟩
  .rw[g];exact .inl b1
 .rcases mm y hy with g|g|g
  .rw[g];exact k.ms x c3
  .rw[g];exact k.ms _ a1
  .rw[g];exact kd.ms _ b1
def SB{V:qu}{i:Int}(h:yS V.calls.length i=pc):∃c,V.calls[i.toNat]?=Fa c:=by unfold yS at h;rw[dY,eC,eC]at h;exact⟨_,cX (by omega)⟩
def EB{V:qu}{b:Bool}(h:(if ((uA V x).isNone&&b)=pc then Fa ("full":Str)else uA V x)=Db):uA V x=Db/\b=lf:=by
 cases e:uA V x with
 | some w=>rw[e]at h;cases h
 | none=>
  rw[e]at h;cases b with
  | true=>cases h
  | false=>exact⟨rfl,rfl⟩
inductive DN(l:pC)(V:qu)(x:Str):Str->List Int->Prop
 | answer (i:Int) (c:pj):0<=i->V.calls[i.toNat]?=Fa c->hasS c.at_ x=pc->CD V x->(c.mK x=pc->sZ l V x=pc)->DN l V x "answer" [i]
 | hang (i:Int) (c:pj):0<=i->V.calls[i.toNat]?=Fa c->c.nB x=pc->DN l V x "hang" [i]
 | hold (i:Int) (c:pj):0<=i->V.calls[i.toNat]?=Fa c->c.mT x=pc->DN l V x "hold" [i]
 | back (i:Int) (c:pj):0<=i->V.calls[i.toNat]?=Fa c->c.hd=Fa x->CD V x->DN l V x "back" [i]
 | two (w:Str) (i j:Int) (c d:pj):0<=i->0<=j->w="hand"\/w="join"->V.calls[i.toNat]?=Fa c->V.calls[j.toNat]?=Fa d->c.hd=Fa x->d.mT x=pc->DN l V x w [i,j]
def Es{V:qu}{w x:Str}(f:(tQ.num w x ns).nq)(h:xi l V (.num w x ns)=Db):x∈l.pn/\DN l V x w ns:=by
 have hp:hasS l.pn x=pc:=by
  cases q:hasS l.pn x with
  | true=>rfl
  | false=>unfold xi at h;dsimp only at h;rw[dh q]at h;cases h
 refine⟨qz.mp hp,?_⟩;unfold xi at h;dsimp only at h;rw[de (by rw[hp];decide)]at h;unfold Lg at h;cases q1:ns.all (yS V.calls.length)with
 | false=>rw[dh q1]at h;cases h
 | true=>
 rw[de (by rw[q1];decide)]at h;cases q2:IW w x (tE V ns)with
 | false=>rw[dh q2]at h;cases h
 | true=>
 rw[de (by rw[q2];decide)]at h;have z:∀i∈ns,0<=i/\∃c,V.calls[i.toNat]?=Fa c:=λi hi=>by have g:=eU.mp q1 i hi;refine⟨?_,SB g⟩;unfold yS at g;rw[dY,eC]at g;exact g.1
 rcases f with⟨fw,fl⟩|⟨fw,fl⟩
 .match ns,fl with
  | [i],_=>
   obtain⟨hi,c,hc⟩:=z i dN;have ec:tE V [i]=[c]:=by unfold tE;rw[gc,hc];rfl
   rw[ec]at h q2;rcases fw with rfl|rfl|rfl|rfl
   .rw[de (by decide)]at h;obtain⟨h1,h2⟩:=EB h;refine .answer i c hi hc q2 (E8 h1) λhw=>?_;have h2:(c.mK x&&!(sZ l V x))=lf:=h2;rw[hw]at h2
    simpa using h2
   .exact .hang i c hi hc q2
   .exact .hold i c hi hc q2
   .rw[de (by decide)]at h;exact .back i c hi hc (At q2) (E8 (EB h).1)
 .match ns,fl with
  | [i,j],_=>
   obtain⟨hi,c,hc⟩:=z i dN;obtain⟨hj,d,hd⟩:=z j (dH _ dN);have ec:tE V [i,j]=[c,d]:=by unfold tE;rw[gc,hc];dsimp only;rw[gc,hd];rfl
   rw[ec]at q2;have q3:((c.hd==Fa x)&&d.mT x)=pc:=by rcases fw with rfl|rfl<;>exact q2
   rw[dY]at q3;exact .two w i j c d hi hj fw hc hd (At q3.1) q3.2
def Ea{V:qu}{y z:Str}(h:xi l V (.call y z)=Db):y∈l.pn/\z∈l.nm/\CD V y/\sZ l V y=pc:=by
 unfold xi at h;dsimp only at h;cases q:hasS l.pn y with
 | false=>rw[dh q]at h;cases h
 | true=>
 rw[de (by rw[q];decide)]at h;unfold Gi at h;cases q1:hasS l.nm z with
 | false=>rw[dh q1]at h;cases h
 | true=>
 rw[de (by rw[q1];decide)]at h;obtain⟨h1,h2⟩:=EB h;exact⟨qz.mp q,qz.mp q1,E8 h1,by simpa using h2⟩
def S6{V:qu}{b:Bool}{i:Int}(h:xi l V (.sw b i)=Db):0<=i/\i.toNat<V.on.length:=by
 unfold xi Pr at h;dsimp only at h;cases q:yS V.on.length i with
 | false=>rw[dh q]at h;cases h
 | true=>unfold yS at q;rw[dY,eC,eC]at q;omega
def zk{V:qu}{w x:Str}{i:Nat}{c:pj}(h:V.calls[i]?=Fa c):xt V w x i=if (w=="answer")=pc then .talks i [c.cr,x]else if (w=="hold")=pc then .held i x else .talks i c.ms:=by unfold xt;rw[h];rfl
def Ho{V:qu}{w x:Str}{i j:Nat}{c d:pj}(h:V.calls[i]?=Fa c)(g:V.calls[j]?=Fa d):Bx V w x i j=.merge i j (if (w=="hand")=pc then[qy c x,qy d x]else[x,qy c x,qy d x]):=by unfold Bx;rw[h,g];rfl
def TH{V:qu}{e:tQ}(ok:rf l)(wf:WF l V)(f:e.nq)(h:xi l V e=Db):WF l (qC V (vw l V e)):=by
 cases e with
 | call y z=>obtain⟨h1,h2,h3,h4⟩:=Ea h;obtain⟨k,hk⟩:=Nf (V:=V) (y:=y) (z:=z);show WF l (qC V (_++vA l _ _));rw[rC];exact Qo ok (HF wf h1 h2 h3 h4) hk
 | turn=>exact Eo ok _ (Ef wf)
 | sw b i=>exact SR wf
 | num w x ns=>
  obtain⟨_,n⟩:=Es f h;cases n with
  | answer i c hi hc h1 h2 h3=>show WF l (qa V (xt V "answer" x i.toNat));rw[zk hc];exact J' wf hc h1 h2 h3
  | hang i c hi hc h1=>exact OT wf hc h1
  | hold i c hi hc h1=>show WF l (qa V (xt V "hold" x i.toNat));rw[zk hc];exact NV wf hc h1
  | back i c hi hc h1 h2=>show WF l (qa V (xt V "back" x i.toNat));rw[zk hc];exact Ny wf hc h1 h2
  | two _ i j c d hi hj hw hc hd h1 h2=>show WF l (qa V (Bx V w x i.toNat j.toNat));rw[Ho hc hd];exact(Ik wf hc hd h1 h2).2
def Og(a:Ad):qY:=λds M Q=>JY λM0 b A V l c n x i k=>ds=[.ref b,.str x,.int ((i:Nat):Int)]/\ux a M0 M b A V l c n/\c<=1000000/\n<=7000000/\V.calls[i]?=Fa k/\∀M' A',ux a M0 M' b A' (qC V (vc V x i)) l c (n+2)->qQ A M A' M'->Q .mL M'
def Ol(a:Ad):qY:=λds M Q=>J0 λA V l L k c=>ds=[.ref A.b,.ref (rh.p k)]/\Rd a M A V l/\rM a M L k c/\Q (xA (Hd l V (FR c))) M
def OC(a:Ad):qY:=λds M Q=>JY λM0 b A V l c n i k r=>ds=[.ref b,.int ((i:Nat):Int),xA (k::r)]/\ux a M0 M b A V l c n/\c<=1000000/\n<=6900000/\WF l V/\UF l V i (k::r)/\∀M' A',ux a M0 M' b A' (qC V (sW l V i (k::r))) l c (n+33)->qQ A M A' M'->Q .mL M'
def NY(a:Ad):qY:=λds M Q=>SO λM0 b A V l c n=>ds=[.ref b]/\ux a M0 M b A V l c n/\c<=10000/\n<=6000000/\WF l V/\∀M' A',ux a M0 M' b A' (qC V (D4 l V)) l c (n+1+33*c)->qQ A M A' M'->Q .mL M'
def Sa{a:Ad}{M:Mp}{c:pj}{v:Wi}{r:Uf}{Q:DK}(h:M r=Fa (.ins (v.cls a) v.nH))(hk:rM a M L k c)(q:Q (.bl (FR c v)) M):Mc a v [.ref r,.ref k.p] M Q:=by
 cases v with
 | silent x y n=>exact⟨r,L,k,c,rfl,h,hk,q⟩
 | _=>exact⟨_,_,rfl,q⟩
def P3:Fq P w K mg base 4 a.a6 (Og a):=by
 refine fq G.a6.toDG B0 (λr u=>⟨_,(oY (pG 3 B0 (pF (pq y0) U2))
 (oZ (pJ (uB (pT U3 G.e.toCls G.V (Cg G) r (qd U1)))
 (oZ (pK (pT y0 G.c.toCls G.k (qU G) r (qd (pI (qV pf U2 pf))))))
 (oZ (pJ (pA u U1 (pq U3))
 (oY (pK (pT y0 G.c.toCls G.k (qU G) r (qd (pI (qV pf U2 U1)))))
 (oZ (pJ (pA u (pN ql rfl G.g qh (qd (pq U3))) pb)
 (oZ (pK (pT y0 G.c.toCls G.k (qU G) r (qd (pI (qV pf U2 pf))))))
 pD)))
 (oZ (pJ (pA u (pN ql rfl G.g qh (qd (pq U3))) pb)
 (oZ (pK (pT y0 G.c.toCls G.k (qU G) r (qd (pI (qV pf U2 U1))))))
 (oZ (pK (pT y0 G.c.toCls G.k (qU G) r (qd (pI (qV pf U2 pf))))))))))))),?_⟩)
 rintro ds M Q ⟨M0,b,A,V,l,cc,n,x,i,c,rfl,cu,Y2,hn,hc,q⟩
 obtain⟨ka,ci⟩:=cu.call hc;obtain⟨ad,md,h1,h2,h3,h4,n1,n2⟩:=ci.cell;have hi:=(cZ.mp hc).1;refine o9 cu.at_ (i' rfl (i' rfl (i' ci.bd.ca (i' (rb ci.e1) ?_))));refine o9 h1 ⟨rfl,_,⟨rfl,rfl⟩,_,ka,c,x,rfl,ci.cell,?_⟩;unfold vc at q;rw[hc]at q;dsimp only[Option.elim]at q;have over:∀(w0:Str),(∀M' A',ux a M0 M' b A' (qC V [.over i w0]) l cc (n+2)->qQ A M A' M'->Q .mL M')->∀(M1:Mp) (A1:tM),A1.b=A.b->qQ A M A1 M1->pH a M1 A1 (qa V (.over i w0))->∃WC,qo WC M1/\Q .mL WC:=λw0 q M1 A1 eb st bd=>⟨M1,.refl,q M1 A1 ((cu.after (e:=.over i w0) hi eb st bd).mono (dw _) (by omega)) st⟩;refine qg (c:=c.mR x) (λg=>?_) (λg=>?_)
 .rw[dh g]at q;exact o9 cu.at_ ⟨rfl,_,⟨rfl,rfl⟩,oW rfl,b,A,V,.over i "left",rfl,cu.b,cu.bd,cu.lim Y2 (by omega),hi,over "left" q⟩
 rw[de g]at q;refine o9 h1 (i' rfl (i' h3 ⟨rfl,qe _,?_⟩));show if inD (.str x) (c.at_.map D.str)=pc then _ else _
 rw[rG];refine qg (c:=hasS c.at_ x) (λg2=>?_) (λg2=>?_)
 .rw[dh g2]at q;refine o9 cu.at_ ⟨rfl,_,⟨rfl,rfl⟩,oW rfl,b,A,V,.leaves i x,rfl,cu.b,cu.bd,cu.lim Y2 (by omega),hi,λM1 A1 eb st bd=>?_⟩;have c1:=cu.after (e:=.leaves i x) hi eb st bd;have Y4:(qa V (.leaves i x)).calls=V.calls.set i (c.drop x):=rj (V:=qM V _) hc;have hc1:(qa V (.leaves i x)).calls[i]?=Fa (c.drop x):=by rw[Y4,fJ hi]
  obtain⟨ad',md',g1,YW,g3,g4,_⟩:=c1.bd.cs i ka _ (st.2.2.1 i ka ci.e1) hc1;have le0:((((c.drop x).at_.map D.str).length:Int)==0)=decide (rE c.at_ x=[]):=by rw[cV,fH,fk,eC];show((rE c.at_ x).length:Int)=0↔_;rw[<-gy];omega
  refine o9 g1 (i' rfl (i' g3 ?_));refine qg (c:=(((c.drop x).at_.map D.str).length:Int)==0) (λg5=>?_) (λg5=>?_)
  .rw[le0,eC]at g5;rw[dh g5]at q;have Yh:i<(qa V (.leaves i x)).calls.length:=(cZ.mp hc1).1;refine o9 c1.at_ ⟨rfl,_,⟨rfl,rfl⟩,oW rfl,b,A1,_,.over i "refused",rfl,c1.b,c1.bd,c1.lim Y2 (by omega),Yh,λM2 A2 eb2 WW Yb=>?_⟩;exact⟨M2,.refl,q M2 A2 (c1.after (e:=.over i "refused") Yh eb2 WW Yb) (st.trans WW)⟩
  .rw[le0,eC]at g5;rw[de g5]at q;exact⟨M1,.refl,q M1 A1 (c1.mono (dw _) (by omega)) st⟩
 .rw[de g2]at q;refine o9 h1 (i' rfl (i' h4 ?_));have lm:decide ((2:Int)<((c.ms.map D.str).length:Int))=decide (2<c.ms.length):=by rw[cV,fH,eC,eC];omega
  refine qg (c:=decide ((2:Int)<((c.ms.map D.str).length:Int))) (λg3=>?_) (λg3=>?_)
  .rw[lm,eC]at g3;rw[dh g3]at q;refine o9 cu.at_ ⟨rfl,_,⟨rfl,rfl⟩,oW rfl,b,A,V,.leaves i x,rfl,cu.b,cu.bd,cu.lim Y2 (by omega),hi,λM1 A1 eb st bd=>?_⟩;exact⟨M1,.refl,q M1 A1 ((cu.after (e:=.leaves i x) hi eb st bd).mono (dw _) (by omega)) st⟩
  .rw[lm,eC]at g3;rw[de g3]at q;exact o9 cu.at_ ⟨rfl,_,⟨rfl,rfl⟩,oW rfl,b,A,V,.over i "done",rfl,cu.b,cu.bd,cu.lim Y2 (by omega),hi,over "done" q⟩
def Pz:Fq P w K mg base 2 a.a7 (Ol a):=by
 refine fq G.a7.toDG ym (λr u=>⟨_,(oY (pG 2 ym (pq (pq y0)))
 (oZ (pk (qr uN rfl G.L uO (qd (qE rfl (xw (ix:=[Db,Db,Fa 2,Fa 1]) (N':=["i","on","wishes","call"])) (vg rfl G.bP (qd (pq y0))) (tO (n:=2) rfl (pV (qB 0) (pV (qB 1) sv))) (uQ (W3.b3 (vY (uB U1) (vd (uB (Bl (R:=GG a) (pF U2 y0) (TZ G) (r.mono (by first|decide|omega)) (qd U3))))))) y0)))))),?_⟩)
 rintro ds M Q ⟨A,V,l,L,k,c,rfl,rd,hk,q⟩
 obtain⟨ph,gr,ws,Ya,pr,gd,rs,i1,i2,i3,i4,i5,i6,i7,i8⟩:=rd.pl;refine o9 rd.bd.at_ (i' rfl (o9 i1 (i' rfl ?_)));refine o9 rd.bd.at_ (i' rfl (i' rd.bd.on ?_));refine Je (rest:=[Fa (.ref ws),Fa (.ref k.p)]) rd.on rd.ok.w16 rd.bd.on (λi w0 ew y kk hkk=>?_) λp hp=>i' pz ⟨M,.new hp,q⟩;obtain⟨r,e1,e2⟩:=Bf i8 ew;exact i' i4 (i' e1 (o9 e2 ⟨by cases w0.2<;>rfl,_,⟨w0.2,rfl,rfl⟩,Sa e2 hk hkk⟩))
def PY:Fq P w K mg base 10 a.a8 (OC a):=by
 refine fq G.a8.toDG BH (λr u=>⟨_,(oY (pG 3 BH (xK (R:=Fc a) (pF (pq (pq y0)) (pF U2 pb)) (HH G) (r.mono (by first|decide|omega))))
 (oY (pK (pT y0 G.c.toCls G.k (qU G) r (qd (pI (pP pf (qV U1 (pF U3 pb) U2))))))
 (oY (pK (pT y0 G.c.toCls G.k (qU G) r (qd (pI (rW pf U1)))))
 (oY (pK (pT y0 G.c.toCls G.k (qU G) r (qd (pI (pP pf (pP U1 (qV (pF U3 pb) (pF U3 pb) (pF U3 pb))))))))
 (oZ (pK (pE (Iu G) r G.ad (rW y0 U1)))))))),?_⟩)
 rintro ds M Q ⟨M0,b,A,V,l,c,n,i,k,r,rfl,cu,hc,hn,wf,du,q⟩
 obtain⟨ph,gr,ws,Ya,pr,gd,rs,i1,i2,i3,i4,i5,i6,i7,i8⟩:=cu.pl;cases du with
 | on k0 _ _ b0 x y m hk hs hw hl hy=>
  have hi:=(cZ.mp hk).1;rw[Ak hw]at q;rw[rC]at q;obtain⟨r0,e1,e2⟩:=Bf i8 hw;refine o9 cu.at_ (i' rfl (o9 i1 (i' rfl (i' (xF _ _) (i' i4 (i' e1 (o9 e2 ⟨rfl,_,⟨⟨.silent x y m,rfl⟩,rfl⟩,r0,.silent x y m,rfl,e2,?_⟩)))))));refine o9 cu.at_ ⟨rfl,_,⟨rfl,rfl⟩,oW rfl,b,A,V,.asks i x (k::r),rfl,cu.b,cu.bd,cu.lim hc (by omega),trivial,λM1 A1 eb1 Xf bd1=>?_⟩;have c1:=cu.after (e:=.asks i x (k::r)) trivial eb1 Xf bd1;refine o9 c1.at_ ⟨rfl,_,⟨rfl,rfl⟩,oW rfl,b,A1,_,.quiet i,rfl,c1.b,c1.bd,c1.lim hc (by omega),hi,λM2 A2 eb2 WW Yb=>?_⟩;have c2:=c1.after (e:=.quiet i) hi eb2 WW Yb;have XM:i<(qa (qa V (.asks i x (k::r))) (.quiet i)).calls.length:=by show i<(V.calls.modify i pj.nI).length;rw[gp];exact hi
  refine o9 c2.at_ ⟨rfl,_,⟨rfl,rfl⟩,oW rfl,b,A2,_,.leg ⟨i,x,y,x⟩,rfl,c2.b,c2.bd,c2.lim hc (by omega),XM,λM3 A3 eb3 Xm bd3=>?_⟩;have c3:=c2.after (e:=.leg ⟨i,x,y,x⟩) XM eb3 Xm bd3;exact⟨M0,b,A3,_,l,c,n+3,i,_,rfl,c3,hc,by omega,Fj wf hk hs hy,En hk,λM4 A4 c4 st4=>⟨M4,.refl,q M4 A4 (c4.mono (dw _) (by omega)) (Xf.trans (WW.trans (Xm.trans st4)))⟩⟩
def O4:Fq P w K mg base 11 a.a9 (NY a):=by
 refine fq G.a9.toDG tJ (λr u=>⟨_,(oY (pK (pT y0 G.c.toCls G.k (qU G) r (qd (pI (qd pf)))))
 (oZ (sT eK rfl (vg rfl G.bP (qd (qr tI rfl G.y tD (qd (pq y0))))) (tO (n:=2) rfl (pV (qI 1 tJ) (pV (qI 2 tJ) sv)))
 (oZ (pJ (pA u (pq U2) pf)
 (oY (pG 3 tJ (pE (Pz G) r G.a7 (rW y0 U2)))
 (oZ (pJ (pA u (pN ql rfl G.g qh (qd U3)) pb)
 (oZ (pK (pE (PY G) r G.a8 (qV y0 U1 U3))))
 pD)))
 pD))))),?_⟩)
 rintro ds M Q ⟨M0,b,A,V,l,c,n,rfl,cu,hc,hn,wf,q⟩
 refine o9 cu.at_ ⟨rfl,_,⟨rfl,rfl⟩,oW rfl,b,A,V,.turn,rfl,cu.b,cu.bd,cu.lim (by omega) (by omega),trivial,λM1 A1 eb st bd=>?_⟩;have c1:=cu.after (e:=.turn) trivial eb st bd;have wf1:=Ef wf;have lv:(qa V .turn).calls.length=V.calls.length:=cV ..;have ev:D4 l V=.turn::rg l (List.range V.calls.length) (qa V .turn):=rfl;rw[ev,<-lv]at q;have q:∀M' A',ux a M0 M' b A' (qC (qa V .turn) (rg l (List.range (qa V .turn).calls.length) (qa V .turn))) l c (n+1+33*c)->qQ A M A' M'->Q .mL M':=q;have c1:ux a M0 M1 b A1 (qa V .turn) l c (n+1):=c1;generalize qa V .turn=V1 at c1 wf1 q bd;refine o9 c1.at_ (i' rfl (i' c1.bd.ca λr hr=>i' pz ?_));have t:=qo.new (c:=.lst (A1.cs.map λk=>D.ref k.p)) hr;have lr:=@pz M1 r (A1.cs.map λk=>D.ref k.p);have nf:=c1.bd.nV hr;have c2:=c1.sub t;have cl:V1.calls.length<=c:=c1.sz.ca;generalize pB M1 r (.lst (A1.cs.map λk=>D.ref k.p))=M2 at t lr c2 ⊢;refine uc (ug 0 (A1.cs.map λk=>D.ref k.p)) (λpre U M'=>(∃A',ux a M0 M' b A' (qC V1 (rg l (List.range pre.length) V1)) l c (n+1+33*pre.length)/\qQ A1 M2 A' M')/\∃y1 y2 y3,U=[Fa (.ref b),y1,y2,y3]) (λpre U M' j=>?_) _ [] _ _ rfl ⟨⟨A1,c2,.refl⟩,Db,Db,Db,rfl⟩ ?_ ?_
 .obtain⟨⟨A',c3,Xm⟩,_⟩:=j;exact sJ (Xm.1 r _ nf (qm lr))
 .rintro pre d post e U M' ⟨⟨A',c3,Xm⟩,y1,y2,y3,rfl⟩ nx WI
  rw[cY,dJ,jU,DA,rC]at WI;have wf3:=Eo cu.ok (List.range pre.length) wf1;generalize qC V1 (rg l (List.range pre.length) V1)=V3 at c3 wf3 WI;obtain⟨x,hx,rfl⟩:=Ep e;rw[dF]at hx;cases ek:A1.cs[pre.length]? with
  | none=>rw[ek]at hx;cases hx
  | some k=>
   rw[ek]at hx;have hx:D.ref k.p=x:=dv hx;subst hx;have hp:pre.length<c:=by have:=(cZ.mp ek).1;rw[c1.bd.len]at this;omega
   have ek3:=Xm.2.2.1 _ k ek;have hi:pre.length<V3.calls.length:=by rw[<-c3.bd.len];exact(cZ.mp ek3).1
   have ec:V3.calls[pre.length]?=Fa V3.calls[pre.length]:=cX hi;generalize V3.calls[pre.length]=cv at ec;have ca:=c3.bd.cs _ k cv ek3 ec;obtain⟨ad,md,g1,_⟩:=ca;refine⟨rfl,o9 g1 (i' rfl ?_)⟩;have hdv:zH l V3 pre.length=if (cv.st=="rings")=pc then Hd l V3 (FR cv)else[]:=by unfold zH;rw[ec];rfl
   have mL:zH l V3 pre.length=[]->∀y1' y2' y3',nx [Fa (.ref b),y1',y2',y3'] M':=λh0 y1' y2' y3'=>WI _ _ ⟨⟨A',by rw[h0];exact c3.mono (dw _) (by omega),Xm⟩,_,_,_,rfl⟩;have du:=HV (V:=V3) (i:=pre.length) cu.ok;refine qg (c:=cv.st=="rings") (λg=>?_) (λg=>mL (by rw[hdv,de g]) _ _ _);rw[dh g]at hdv;refine⟨A',V3,l,_,k,cv,by rw[c3.b],c3.rd (by omega) wf3,c3.bd.cs _ k cv ek3 ec,?_⟩;rw[<-hdv];cases hdq:zH l V3 pre.length with
   | nil=>exact mL hdq _ _ _
   | cons k0 r0=>rw[hdq]at du WI;refine AU (dX (by rw[cV];show(0:Int)<((k0::r0).length:Nat);rw[eB];omega)) ?_;exact⟨M0,b,A',V3,l,c,_,pre.length,k0,r0,rfl,c3,by omega,by omega,wf3,du,λM4 A4 c4 st4=>WI _ _ ⟨⟨A4,c4.mono (dw _) (by omega),Xm.trans st4⟩,_,_,_,rfl⟩⟩
 .rintro U M' ⟨⟨A',c3,Xm⟩,y1,y2,y3,rfl⟩
  have hl:(ug 0 (A1.cs.map λk=>D.ref k.p)).length=V1.calls.length:=by rw[vv,cV,c1.bd.len]
  rw[hl]at c3;exact⟨M',.refl,q M' A' (c3.mono (dw _) (by omega)) (st.trans ((qQ.sub t).trans Xm))⟩
inductive Qv(l:pC)(V:qu):tQ->Ev->Prop
 | sw (b:Bool) (i:Nat):i<V.on.length->Qv l V (.sw b (i:Nat)) (.sw b i)
 | answer (x:Str) (i:Nat) (c:pj):V.calls[i]?=Fa c->Qv l V (.num "answer" x [(i:Nat)]) (.talks i [c.cr,x])
 | hold (x:Str) (i:Nat) (c:pj):V.calls[i]?=Fa c->Qv l V (.num "hold" x [(i:Nat)]) (.held i x)
 | back (x:Str) (i:Nat) (c:pj):V.calls[i]?=Fa c->Qv l V (.num "back" x [(i:Nat)]) (.talks i c.ms)
 | two (w x:Str) (i j:Nat) (c d:pj):i≠j->w="hand"\/w="join"->V.calls[i]?=Fa c->V.calls[j]?=Fa d->rE c.ms x≠[]->rE d.ms x≠[]->Qv l V (.num w x [(i:Nat),(j:Nat)]) (.merge i j (if (w=="hand")=pc then[qy c x,qy d x]else[x,qy c x,qy d x]))
def Gf(a:Ad):qY:=λds M Q=>GY λA V l e ev=>ds=[.ref A.b,tQ.d e]/\Rd a M A V l/\Qv l V e ev/\Q ev.d M
def R7(a:Ad):qY:=λds M Q=>RV λM0 b A V l c n e=>ds=[.ref b,tQ.d e]/\ux a M0 M b A V l c n/\c<10000/\n<=5000000/\WF l V/\e.nq/\xi l V e=Db/\∀M' A',ux a M0 M' b A' (qC V (vw l V e)) l (c+1) (n+40+33*c)->qQ A M A' M'->Q .mL M'
def Wp(a:Ad)(M0 M:Mp)(b:Uf)(A:tM)(V:qu)(l:pC)(c n:Nat)(e:tQ)(Q:DK):Prop:=xi l V e=Db->∀M' A' r,ux a M0 M' b A' (qC V (vw l V e)) l (c+1) (n+40+33*c)->qQ A M A' M'->M' r=Db->Q (.ref r) (pB M' r (.lst ((vw l V e).map Ev.d)))
def Tn(a:Ad):FW:=λds M Q R=>RV λM0 b A V l c n e=>ds=[.ref b,tQ.d e]/\ux a M0 M b A V l c n/\c<10000/\n<=5000000/\WF l V/\e.nq/\Wp a M0 M b A V l c n e Q/\(∀w,xi l V e=Fa w->R a.J (Fa ("word",.str w)) M)
def Rd.call{V:qu}(rd:Rd a M A V l){i:Nat}{c:pj}(e:V.calls[i]?=Fa c):∃k,A.cs[i]?=Fa k/\rM a M (A.lists++V.fo) k c:=by
 have hi:i<A.cs.length:=by rw[rd.bd.len];exact(cZ.mp e).1
 exact⟨A.cs[i],cX hi,rd.bd.cs i _ c (cX hi) e⟩
def yt{i:Int}(h:0<=i):∃m:Nat,i=(m:Int):=eD h
def Iw{c:pj}{x:Str}(nd:c.ms.Nodup)(h2:c.ms.length=2)(hx:x∈c.ms):rE c.ms x≠[]:=λz=>by have:=xB nd hx;rw[z]at this;simp only[dO]at this;omega
def Lq:Fq P w K mg base 2 a.ba (Gf a):=by
 refine fq G.ba.toDG tj (λr u=>⟨_,(oY (pG 2 tj (pF U1 pb))
 (oY (pJ (pA u U2 (pI (rW pf pf)))
 (oZ (pk (pI (rW U2 (pF U1 pb)))))
 pD)
 (oY (pG 3 tj (pF U1 pb))
 (oY (pG 4 tj (pF U1 pb))
 (oY (pG 5 tj (pF (pq y0) v4))
 (oY (pJ (pA u U2 pf)
 (oZ (pk (pI (qV pf v4 (pI (rW (pq v5) U3))))))
 pD)
 (oY (pJ (pA u U2 pf)
 (oZ (pk (pI (qV pf v4 U3))))
 pD)
 (oY (pJ (pA u U2 pf)
 (oZ (pk (pI (qV pf v4 (qr uN rfl G.L uO (qd (pq v5)))))))
 pD)
 (oY (pG 6 tj (pF U1 pb))
 (oY (pG 7 tj (pI (rW (pT v5 G.e.toCls G.aE (GL G) r (qd U3)) (pT (pF (pq y0) v6) G.e.toCls G.aE (GL G) r (qd U3)))))
 (oY (pJ (pA u U2 pf)
 (oZ (pk (pI (pP pf (qV v4 v6 v7)))))
 pD)
 (oZ (pk (pI (pP pf (qV v4 v6 (pQ (pI (qd U3)) v7))))))))))))))))),?_⟩)
 rintro ds M Q ⟨A,V,l,e,ev,rfl,rd,sg,q⟩
 cases sg with
 | sw b i hi=>
  cases b with
  | true=>exact⟨oW rfl,rfl,rfl,oW rfl,M,.refl,q⟩
  | false=>exact⟨oW rfl,rfl,rfl,oW rfl,M,.refl,q⟩
 | answer x i c hc=>obtain⟨k,ek,ca⟩:=rd.call hc;obtain⟨ad,md,h1,h2,h3,h4,n1,n2⟩:=ca;refine⟨oW rfl,rfl,rfl,?_⟩;refine o9 rd.bd.at_ (i' rfl (i' rfl (i' rd.bd.ca (i' (rb ek) ?_))));exact o9 h1 (i' rfl ⟨oW rfl,oW rfl,M,.refl,q⟩)
 | hold x i c hc=>obtain⟨k,ek,ca⟩:=rd.call hc;refine⟨oW rfl,rfl,rfl,?_⟩;refine o9 rd.bd.at_ (i' rfl (i' rfl (i' rd.bd.ca (i' (rb ek) ?_))));exact⟨oW rfl,M,.refl,q⟩
 | back x i c hc=>obtain⟨k,ek,ca⟩:=rd.call hc;obtain⟨ad,md,h1,h2,h3,h4,n1,n2⟩:=ca;refine⟨oW rfl,rfl,rfl,?_⟩;refine o9 rd.bd.at_ (i' rfl (i' rfl (i' rd.bd.ca (i' (rb ek) ?_))));exact o9 h1 (i' rfl (i' h4 ⟨oW rfl,M,.refl,q⟩))
 | two wd x i j c d Xw hw hc hd nc nd=>
  obtain⟨k,ek,ca⟩:=rd.call hc;obtain⟨k',ek',ca'⟩:=rd.call hd;have ca0:=ca;have ca1:=ca';obtain⟨ad,md,h1,h2,h3,h4,n1,n2⟩:=ca0;obtain⟨ad',md',f1,_⟩:=ca1;obtain⟨y1,r1,e1⟩:=fT nc;obtain⟨y2,r2,e2⟩:=fT nd;have o1:qy c x=y1:=by unfold qy;rw[e1];rfl
  have o2:qy d x=y2:=by unfold qy;rw[e2];rfl
  rw[o1,o2]at q;rcases hw with rfl|rfl
  .refine⟨oW rfl,rfl,rfl,?_⟩;refine o9 rd.bd.at_ (i' rfl (i' rfl (i' rd.bd.ca (i' (rb ek) ?_))));refine o9 h1 ⟨rfl,_,⟨rfl,rfl⟩,_,k,c,x,y1,r1,rfl,ca,(rd.ms c (qJ hc)).2,e1,?_⟩;refine o9 rd.bd.at_ (i' rfl (i' rfl (i' rd.bd.ca (i' (rb ek') ?_))));refine o9 f1 ⟨rfl,_,⟨rfl,rfl⟩,_,k',d,x,y2,r2,rfl,ca',(rd.ms d (qJ hd)).2,e2,?_⟩;exact⟨oW rfl,oW rfl,M,.refl,q⟩
  .refine⟨oW rfl,rfl,rfl,?_⟩;refine o9 rd.bd.at_ (i' rfl (i' rfl (i' rd.bd.ca (i' (rb ek) ?_))));refine o9 h1 ⟨rfl,_,⟨rfl,rfl⟩,_,k,c,x,y1,r1,rfl,ca,(rd.ms c (qJ hc)).2,e1,?_⟩;refine o9 rd.bd.at_ (i' rfl (i' rfl (i' rd.bd.ca (i' (rb ek') ?_))));refine o9 f1 ⟨rfl,_,⟨rfl,rfl⟩,_,k',d,x,y2,r2,rfl,ca',(rd.ms d (qJ hd)).2,e2,?_⟩;exact⟨oW rfl,oW rfl,fR _ _,by show 1+2<=Ch;have hz:=dP;omega,oW rfl,M,.refl,q⟩
def QX:Fq P w K mg base 12 a.bb (R7 a):=by
 refine fq G.bb.toDG LY (λr u=>⟨_,(oY (pG 2 LY (pF U1 pb))
 (oZ (pJ (pA u U2 pf)
 (oZ (pK (pE (L4 G) r G.a5 (qV y0 (pF U1 pb) (pF U1 pb)))))
 (oZ (pJ (pA u U2 pf)
 (oZ (pK (pE (P3 G) r G.a6 (qV y0 (pF U1 pb) (pF U1 pb)))))
 (oZ (pJ (pA u U2 pf)
 (oZ (pK (pE (O4 G) r G.a9 (qd y0))))
 (oZ (pK (pT y0 G.c.toCls G.k (qU G) r (qd (pE (Lq G) r G.ba (rW y0 U1))))))))))))),?_⟩)
 rintro ds M Q ⟨M0,b,A,V,l,c,n,e,rfl,cu,hc,hn,wf,hf,hr,q⟩
 have rd:=cu.rd (by omega) wf;have one:∀(ev:Ev),Qv l V e ev->vw l V e=[ev]->ev.ok V->ev.nw=0->AL (M b) λC fs'=>fs'.lookup ("apply":Str)=Db/\∃sp,(C=a.c/\sp=wc a)/\Gf a [.ref b,e.d] M λd M1=>sp [.ref b,d] M1 λ_ M'=>∃WC,qo WC M'/\Q .mL WC:=λev sg he ok h0=>by refine o9 cu.at_ ⟨rfl,_,⟨rfl,rfl⟩,A,V,l,e,ev,by rw[cu.b],rd,sg,b,A,V,ev,rfl,cu.b,cu.bd,cu.lim (by omega) (by omega),ok,λM1 A1 eb st bd=>?_⟩;rw[he]at q;have c1:=cu.after ok eb st bd;rw[h0]at c1;exact⟨M1,.refl,q M1 A1 (c1.mono (by omega) (by omega)) st⟩
 cases e with
 | call y z=>obtain⟨h1,h2,h3,h4⟩:=Ea hr;exact⟨M0,b,A,V,l,c,n,y,z,rfl,cu,by omega,by omega,HF wf h1 h2 h3 h4,λM' A' c1 st=>⟨M',.refl,q M' A' (c1.mono (by omega) (by omega)) st⟩⟩
 | turn=>exact⟨M0,b,A,V,l,c,n,rfl,cu,by omega,by omega,wf,λM' A' c1 st=>⟨M',.refl,q M' A' (c1.mono (by omega) (by omega)) st⟩⟩
 | sw b0 i=>
  obtain⟨h1,h2⟩:=S6 hr;obtain⟨i,rfl⟩:=yt h1;cases b0 with
  | true=>exact one (.sw pc i) (.sw pc i h2) rfl h2 rfl
  | false=>exact one (.sw lf i) (.sw lf i h2) rfl h2 rfl
 | num wd x ns=>
  obtain⟨hx,no⟩:=Es hf hr;cases no with
  | answer i c0 hi hc0 h1 h2 h3=>obtain⟨i,rfl⟩:=yt hi;have lt:=(cZ.mp hc0).1;exact one (.talks i [c0.cr,x]) (.answer x i c0 hc0) (eR (λev=>[ev]) (zk hc0)) ⟨lt,by show 2<=100;decide⟩ rfl
  | hang i c0 hi hc0 h1=>obtain⟨i,rfl⟩:=yt hi;exact⟨M0,b,A,V,l,c,n,x,i,c0,rfl,cu,by omega,by omega,hc0,λM' A' c1 st=>⟨M',.refl,q M' A' (c1.mono (by omega) (by omega)) st⟩⟩
  | hold i c0 hi hc0 h1=>obtain⟨i,rfl⟩:=yt hi;have lt:=(cZ.mp hc0).1;exact one (.held i x) (.hold x i c0 hc0) (eR (λev=>[ev]) (zk hc0)) lt rfl
  | back i c0 hi hc0 h1 h2=>obtain⟨i,rfl⟩:=yt hi;have lt:=(cZ.mp hc0).1;exact one (.talks i c0.ms) (.back x i c0 hc0) (eR (λev=>[ev]) (zk hc0)) ⟨lt,(cu.sz.cs c0 (qJ hc0)).2.2⟩ rfl
  | two _ i j c0 d0 hi hj hw hc0 hd0 h1 h2=>
   obtain⟨i,rfl⟩:=yt hi;obtain⟨j,rfl⟩:=yt hj;have lt:=(cZ.mp hc0).1;have lt':=(cZ.mp hd0).1;have Xw:=(Ik (w:=wd) wf hc0 hd0 h1 h2).1;have k0:=wf.ok _ c0 hc0;have k1:=wf.ok _ d0 hd0;obtain⟨_,u2,u3,_⟩:=EQ k0 h1;obtain⟨_,v2,v3⟩:=zM.mp h2;have sg:=Qv.two (l:=l) wd x i j c0 d0 Xw hw hc0 hd0 (Iw k0.mn u2 u3) (Iw k1.mn v3 v2);have ok:(Ev.merge i j (if (wd=="hand")=pc then[qy c0 x,qy d0 x]else[x,qy c0 x,qy d0 x])).ok V:=⟨lt,lt',Xw,by split;exact(by decide:2<=100);exact(by decide:3<=100)⟩;have he:vw l V (.num wd x [(i:Int),(j:Int)])=[.merge i j (if (wd=="hand")=pc then[qy c0 x,qy d0 x]else[x,qy c0 x,qy d0 x])]:=eR (λev=>[ev]) (Ho hc0 hd0);rcases hw with rfl|rfl
   .exact one _ sg he ok rfl
   .exact one _ sg he ok rfl
def JD:xp P w K mg base (Ci P w) 1 a.I.f a.I.d a.I.p (wx K "word"):=
 MX G.I.toDG BP λWJ A outer s H E=>Ic (NR (pv 0) (pv 1))
def TX:Va P w K mg base 13 a.O (Tn a):=by
 refine Ud G.O.toDG HP (by walk_at "m") (λ_ _ _ _ _ _ R hr hR=>⟨_,(oY (pG 2 HP (pE (GZ G) hr G.a0 (rW y0 U1)))
 (oY (pJ (pA (V7 hr) U2 sr)
 (oZ (JE G.b4 (JD G) (hr.mono (by first|decide|omega)) G.I.b G.b5 G.I.at_ rfl G.bW hR (qd U2)))
 pD)
 (oY (pG 3 HP (pN ql rfl G.g qh (qd (pq y0))))
 (oY (pK (pE (QX G) hr G.bb (rW y0 U1)))
 (oZ (pk (rS (pq y0) (sG U3) sI))))))),?_⟩)
 .rintro ds M Q ⟨M0,b,A,V,l,c,n,e,rfl,cu,hc,hn,wf,hf,q,rr⟩
  refine⟨A,V,l,e,by rw[cu.b],cu.rd (by omega) wf,hf,?_⟩;cases er:xi l V e with
  | some w0=>exact⟨_,rfl,rr w0 er⟩
  | none=>
   refine o9 cu.at_ (i' rfl (i' cu.bd.lo ?_));refine⟨M0,b,A,V,l,c,n,e,rfl,cu,hc,hn,wf,hf,er,λM' A' c1 st=>?_⟩;refine o9 c1.at_ (i' rfl (i' c1.bd.lo λp hp=>?_));have hcut:L3.uH ((qC V (vw l V e)).log.map Ev.d) (Fa (((V.log.map Ev.d).length:Nat):Int)) Db=(vw l V e).map Ev.d:=by rw[Jg,dU,G6 _ _ (by rw[cY];omega),List.drop_left]
   rw[hcut];exact⟨_,.refl,q er M' A' p c1 st hp⟩
def Pm(a:Ad):qY:=λds M Q=>RV λM0 b A V l c n e=>ds=[.ref b,tQ.d e]/\ux a M0 M b A V l c n/\c<10000/\n<=5000000/\WF l V/\e.nq/\(xi l V e=Db->∀M' A',ux a M0 M' b A' (qC V (vw l V e)) l (c+1) (n+40+33*c)->qQ A M A' M'->Q (.bl pc) M')/\(xi l V e≠Db->Q (.bl lf) M)
def Qa:Fq P w K mg base 14 a.br (Pm a):=by
 refine fq G.br.toDG xW (λr u=>⟨_,(oY (pG 2 xW tL)
 (oY (Pd (MM (TX G) (r.mono (by first|decide|omega)) rfl G.O.mg G.O.toDG.kp G.O.b (rW y0 U1)) rfl rfl rfl G.bW (λev E'=>
 (oZ (pG 2 xW tL))))
 (oZ (pk U2)))),?_⟩)
 rintro ds M Q ⟨M0,b,A,V,l,c,n,e,rfl,cu,hc,hn,wf,hf,q,qf⟩
 refine⟨λC _ M'=>(C=a.J/\xi l V e≠Db)/\M=M',?_,?_⟩
 .exact⟨M0,b,A,V,l,c,n,e,rfl,cu,hc,hn,wf,hf,λh M' A' r c1 st hm=>⟨M',.new hm,q h M' A' c1 st⟩,λw h=>⟨⟨rfl,by rw[h];exact λz=>nomatch z⟩,rfl⟩⟩
 .rintro C y M' ⟨⟨rfl,h⟩,rfl⟩
  exact⟨G.b6,M,.refl,qf h⟩
noncomputable def vT(g:ud):Bool:=g.2.1==("turns":Str)
noncomputable def vf(l:pC):T0 (Str×Int):=(l.groups.filter vT).map λg=>(g.1,0)
noncomputable def V0(p:Uf)(h:Int)(l:pC)(F:QXQ):qu:=⟨p,h,0,[],[],vf l,l.mG.map (·.1),[],F⟩
def EE(a:Ad):qY:=λds M Q=>GY λb p h F (l:pC)=>ds=[.ref b,.ref p,.int h]/\M b=Fa (.ins a.c [])/\sY a M p l/\rf l/\p≠b/\(∀x∈F,∃c,M x=Fa c)/\∀M' A,A.b=b->sm b M M'->(∀x∈A.foot,x=b\/M x=Db)->pH a M' A (V0 p h l F)->Q .mL M'
noncomputable def Mm(g:D):Bool:=match g with
 | .tup (_::.str m::_)=>m=="turns"
 | _=>lf
noncomputable def Qd(d:D):D:=.tup [AQ d,.int 0]
def HU(gs:List ud):((gs.map qL).filter Mm).map Qd=(gs.filter vT).map λg=>D.tup [.str g.1,.int 0]:=by rw[gW,eA];rfl
def JA(l:pC):((l.groups.filter vT).map λg=>((Sum.inr g.1:qZ),D.int 0))=rK (vf l):=by unfold rK vf;rw[eA];rfl
noncomputable def bF(p:Uf)(h:Int)(ca le nx Yd:Uf)(k:Nat):T0 (Str×D):=List.take (α:=Str×D) k [("plan",.ref p),("hour",.int h),("turn",.int 0),("calls",.ref ca),("legs",.ref le),("nexts",.ref nx),("on",.ref Yd)]
def KB:Fq P w K mg base 1 a.ai (EE a):=by
 refine fq G.ai.toDG CF (λr u=>⟨_,(oY (pX y0 U1)
 (oY (pX y0 U2)
 (oY (pX y0 pb)
 (oY (pX y0 (qK sS))
 (oY (pX y0 (qK sS))
 (oY (pX y0 (qr (D5 rfl) rfl G.bV EM (qd (qE rfl (xw (ix:=[Db]) (N':=["group"])) (qv (pq U1)) (qB 0) (uQ (pA u (pF y0 pb) pf)) (pI (rW (pF y0 pb) pb))))))
 (oY (pX y0 (qr tI rfl G.y tD (qd (pq U1))))
 (oZ (pX y0 (qK sS)))))))))),?_⟩)
 rintro ds M Q ⟨b,p,h,F,l,rfl,hb,⟨ph,gr,ws,on,pr,gd,rs,i1,i2,i3,i4,i5,i6,i7,i8⟩,ok,nbp,hF,q⟩
 have hz:=dP;have l2:=ok.g3;refine o9 hb ⟨(G.C "plan" rfl),by show 0<1000;decide,?_⟩;have k1:sm b M (pB M b (.ins a.c [("plan",.ref p)])):=.put;have b1:pB M b (.ins a.c [("plan",.ref p)]) b=Fa (.ins a.c [("plan",.ref p)]):=pL;show uy _ _ _ _ (pB M b (.ins a.c [("plan",.ref p)]));generalize pB M b (.ins a.c [("plan",.ref p)])=N1 at k1 b1 ⊢;refine o9 b1 ⟨(G.C "hour" rfl),by show 1<1000;decide,?_⟩;have k2:=k1.trans (sm.put (p:=b) (c:=.ins a.c [("plan",.ref p),("hour",.int h)]));have b2:pB N1 b (.ins a.c [("plan",.ref p),("hour",.int h)]) b=Fa (.ins a.c [("plan",.ref p),("hour",.int h)]):=pL;show uy _ _ _ _ (pB N1 b (.ins a.c [("plan",.ref p),("hour",.int h)]));generalize pB N1 b (.ins a.c [("plan",.ref p),("hour",.int h)])=N2 at k2 b2 ⊢;refine o9 b2 ⟨(G.C "turn" rfl),by show 2<1000;decide,?_⟩;have k3:=k2.trans (sm.put (p:=b) (c:=.ins a.c (bF p h 0 0 0 0 3)));have b3:pB N2 b (.ins a.c (bF p h 0 0 0 0 3)) b=Fa (.ins a.c (bF p h 0 0 0 0 3)):=pL;show uy _ _ _ _ (pB N2 b (.ins a.c (bF p h 0 0 0 0 3)));generalize pB N2 b (.ins a.c (bF p h 0 0 0 0 3))=N3 at k3 b3 ⊢;clear k1 k2 b1 b2;refine⟨oW rfl,λca hca=>?_⟩;obtain⟨n4,e4,k4,c4,b4⟩:=sU (fs':=(bF p h ca 0 0 0 4)) (c:=.lst []) b3 hca;refine o9 e4 ⟨(G.C "calls" rfl),by show 3<1000;decide,?_⟩;show uy _ _ _ _ (pB (pB N3 ca (.lst [])) b (.ins a.c (bF p h ca 0 0 0 4)));generalize pB (pB N3 ca (.lst [])) b (.ins a.c (bF p h ca 0 0 0 4))=N4 at k4 c4 b4 ⊢;have YE:=k3.trans k4;have z1:M ca=Db:=rB k3 b3 hca;have lc4:oK N4 ca=Fa []:=sJ c4;refine⟨oW rfl,λle Zg=>?_⟩;obtain⟨n5,e5,k5,c5,b5⟩:=sU (fs':=(bF p h ca le 0 0 5)) (c:=.lst []) b4 Zg;refine o9 e5 ⟨(G.C "legs" rfl),by show 4<1000;decide,?_⟩;show uy _ _ _ _ (pB (pB N4 le (.lst [])) b (.ins a.c (bF p h ca le 0 0 5)));generalize pB (pB N4 le (.lst [])) b (.ins a.c (bF p h ca le 0 0 5))=N5 at k5 c5 b5 ⊢;have YF:=YE.trans k5;have z2:M le=Db:=rB YE b4 Zg;have le5:oK N5 le=Fa []:=sJ c5;have mcl:le≠ca:=λz=>by rw[z,qm lc4]at Zg;cases Zg
 have lc5:=k5.lst (pO lc4 b4) lc4;have p5:=YF _ _ nbp i1;have g5:=YF.lst (pO i3 hb) i3;clear k3 k4 k5 YE lc4 c4 c5 e4 e5 b3 b4;refine o9 p5 (i' rfl (i' g5 ?_));refine tG (f:=Qd) (t:=Mm) g5 _ [] _ (by rw[cV];simp only[dO];omega) (λd hd k hk=>?_) (λd hd _ k hk=>?_) λq1 XB=>?_
 .obtain⟨v,_,rfl⟩:=dD.mp hd;exact hk
 .obtain⟨v,_,rfl⟩:=dD.mp hd;exact⟨oW rfl,hk⟩
 rw[d6,HU];have Zd:=qo.new (c:=.lst ((l.groups.filter vT).map λg=>D.tup [.str g.1,.int 0])) XB;refine i' pz (i' (wO (λg:ud=>g.1) (λ_=>D.int 0) _) ⟨yD (iA (List.Sublist.map _ gf) (iA (jv _ _) ok.nd)),λnx WI=>?_⟩);have z3:M nx=Db:=rB YF b5 (Zd.none WI);obtain⟨n6,e6,k6,c6,b6⟩:=sU (fs':=(bF p h ca le nx 0 6)) (c:=.dk ((l.groups.filter vT).map λg=>((Sum.inr g.1:qZ),D.int 0))) (Zd _ _ b5) WI;refine o9 e6 ⟨(G.C "nexts" rfl),by show 5<1000;decide,?_⟩;have k6:=Zd.keep.trans k6;have Yx:vV "nexts" (.ref nx) (bF p h ca le 0 0 5)=(bF p h ca le nx 0 6):=rfl;rw[Yx];generalize pB (pB (pB N5 q1 (.lst ((l.groups.filter vT).map λg=>D.tup [.str g.1,.int 0]))) nx (.dk ((l.groups.filter vT).map λg=>((Sum.inr g.1:qZ),D.int 0)))) b (.ins a.c (bF p h ca le nx 0 6))=N6 at k6 b6 c6 ⊢;have x6:yA N6 nx=Fa ((l.groups.filter vT).map λg=>((Sum.inr g.1:qZ),D.int 0)):=Ao c6;have kk6:=YF.trans k6;have lc6:=k6.lst (pO lc5 b5) lc5;have le6:=k6.lst (pO le5 b5) le5;have p6:=kk6 _ _ nbp i1;have o6:=kk6.lst (pO i5 hb) i5;clear YF k6 lc5 p5 g5 e6 c6;refine o9 p6 (i' rfl (i' o6 λYd ZK=>?_));have z4:M Yd=Db:=rB kk6 b6 ZK;obtain⟨n7,e7,k7,c7,b7⟩:=sU (fs':=(bF p h ca le nx Yd 7)) (c:=.lst (l.mG.map λw=>D.bl w.1)) b6 ZK;refine o9 e7 ⟨(G.C "on" rfl),by show 6<1000;decide,?_⟩;have Yx:vV "on" (.ref Yd) (bF p h ca le nx 0 6)=(bF p h ca le nx Yd 7):=rfl;rw[Yx];generalize pB (pB N6 Yd (.lst (l.mG.map λw=>D.bl w.1))) b (.ins a.c (bF p h ca le nx Yd 7))=N7 at k7 b7 c7 ⊢;have kk7:=kk6.trans k7;have lc7:=k7.lst (pO lc6 b6) lc6;have le7:=k7.lst (pO le6 b6) le6;have x7:=k7.dk (B7 x6 b6) x6;have lo7:oK N7 Yd=Fa ((l.mG.map (·.1)).map D.bl):=by rw[eA];exact sJ c7
 refine⟨oW rfl,λlg hlg=>?_⟩;obtain⟨n8,e8,k8,c8,b8⟩:=sU (fs':=tP (.ref p) h 0 ca le nx Yd lg) (c:=.lst []) b7 hlg;refine o9 e8 ⟨(G.C "log" rfl),by show 7<1000;decide,_,.refl,?_⟩;have apart:∀{N:Mp} {x y:Uf} {ds:T0 D},N x=Db->oK N y=Fa ds->x≠y:=λ{N x y ds} h1 h2 z=>by have:=qm h2;rw[<-z,h1]at this;cases this
 have y5:=rB kk7 b7 hlg;refine q _ ⟨b,ca,le,nx,Yd,lg,[]⟩ rfl (kk7.trans k8) (λx hx=>?_) ⟨b8,k8.lst (pO lc7 b7) lc7,k8.lst (pO le7 b7) le7,?_,k8.lst (pO lo7 b7) lo7,sJ c8,rfl,λi k c e=>by simp at e,?_,dW.mpr ⟨dq,eL⟩,λx hx=>?_⟩
 rotate_right
 .by_cases z:x=b
  .exact⟨_,by rw[z];exact b8⟩
  .obtain⟨c,e⟩:=hF x hx;exact⟨c,(kk7.trans k8) x c z e⟩
 .have hx:x∈[b,nx,ca,le,Yd,lg]:=by
   unfold tM.foot tM.lists at hx
   simpa using hx
  simp only[c9,dq,d9]at hx;rcases hx with rfl|rfl|rfl|rfl|rfl|rfl
  .exact .inl rfl
  .exact .inr z3
  .exact .inr z1
  .exact .inr z2
  .exact .inr z4
  .exact .inr y5
 .show yA _ nx=Fa (rK (vf l));rw[<-JA];exact k8.dk (B7 x7 b7) x7
 .have m1:=apart hlg lc7;have m2:=apart hlg le7;have m3:=apart hlg lo7;have m4:=apart ZK lc6;have m5:=apart ZK le6;show[ca,le,Yd,lg].Nodup;simp only[dW,c9,dq,d9,eO,not_false_eq_true,eL,and_true];exact⟨⟨dG mcl,dG m4,dG m1⟩,⟨dG m5,dG m2⟩,dG m3⟩
def UU{p:Uf}{F:QXQ}(ok:rf l):WF l (V0 p h l F):=by
 refine⟨λi c e=>by simp[V0]at e,λi j ci cj x e=>by simp[V0]at e,λx hx=>?_,λi j ci cj x e=>by simp[V0]at e,λz hz ht=>?_⟩
 .show((0:Nat):Int)<=wQ l x;unfold wQ;cases e:l.mV x with
  | none=>exact Int.le_refl _
  | some v=>have:=(ok.po v (fL e)).l1;show(0:Int)<=v.2.1;omega
 .show ∃v,(vf l).find? (λp=>decide (p.1=z))=Fa v/\_;unfold pC.mP at ht;cases e:l.group z with
  | none=>rw[e]at ht;exact absurd ht (by decide)
  | some g=>
   rw[e]at ht;have hg:=fL e;have hn:g.1=z:=by simpa using iW e
   have hm:((g.1,0):Str×Int)∈vf l:=dD.mpr ⟨g,eQ.mpr ⟨hg,ht⟩,rfl⟩;cases q:(vf l).find? (λp=>decide (p.1=z))with
   | none=>exact absurd (fW.mp q _ hm) (by simp[hn])
   | some v=>refine⟨v,rfl,?_⟩;obtain⟨g',_,rfl⟩:=dD.mp (fL q);exact⟨Int.le_refl _,Int.natCast_nonneg _⟩
def Dz(ok:rf l):(vf l).length<=3:=by unfold vf;rw[cV];exact eh (gI _ _) ok.g3
def Ev.oy:Ev->Prop
 | .turn=>False
 | .sw _ _=>False
 | _=>True
def Ev.noN:Ev->Prop
 | .next _ _=>False
 | _=>True
theorem I0:∀{es:T0 Ev} {V:qu},(∀e∈es,e.oy)->(qC V es).t=V.t
 | [],_,_=>rfl
 | e::r,V,h=>(I0 (es:=r) (V:=qa V e) λx hx=>h x (dH _ hx)).trans (by have:=h e dN;cases e<;>first|rfl|cases this)
theorem Fg:∀{es:T0 Ev} {V:qu},(∀e∈es,e.noN)->(qC V es).ps=V.ps
 | [],_,_=>rfl
 | e::r,V,h=>(Fg (es:=r) (V:=qa V e) λx hx=>h x (dH _ hx)).trans (by have:=h e dN;cases e<;>first|rfl|cases this)
theorem zi(i:Nat):∀(st:tz) (q:Option Str),∀e∈rF i q st,e.oy/\e.noN
 | [],_,e,h=>by unfold rF at h;cases h
 | (y,gs)::r,Db,e,h=>by
  rcases c9.mp (show e∈Ev.asks i y gs::rF i (Fa y) r from h)with rfl|h
  .exact⟨trivial,trivial⟩
  .exact zi i r _ e h
 | (y,gs)::r,Fa u,e,h=>by
  rcases c9.mp (show e∈Ev.leg ⟨i,u,y,u⟩::Ev.asks i y gs::rF i (Fa y) r from h)with rfl|h
  .exact⟨trivial,trivial⟩
  rcases c9.mp h with rfl|h
  .exact⟨trivial,trivial⟩
  .exact zi i r _ e h
def Ie{st:tz}:∀e∈tX i st en,e.oy/\e.noN:=λe h=>by
 unfold tX at h;cases en with
 | ring ns=>
  dsimp only at h;cases q:st.getLast? with
  | none=>rw[q]at h;cases h
  | some s0=>rw[q]at h;rw[dg.mp h];exact⟨trivial,trivial⟩
 | _=>cases h
def OO{V:qu}:∀e∈sH l V i en,e.oy:=λe h=>by
 cases en with
 | rings z ps=>
  rcases dR.mp (show e∈(if (l.mP z=="turns")=pc then[Ev.next z (PN (l.mE z) (ps.headD Str.empty))]else[])++[.rings i ps]from h)with g|g
  .split at g
   .rw[dg.mp g];trivial
   .cases g
  .rw[dg.mp g];trivial
 | breaks z=>
  unfold sH at h;dsimp only at h;split at h
  .rw[dg.mp h];trivial
  .cases h
 | waits z=>rw[dg.mp h];trivial
 | engaged z=>rw[dg.mp h];trivial
 | barred=>rw[dg.mp h];trivial
 | ring ns=>rw[dg.mp h];trivial
def L6{V:qu}:∀e∈vA l V i,e.oy:=λe h=>by
 unfold vA at h;cases q:V.calls[i]? with
 | none=>rw[q]at h;cases h
 | some c=>
  rw[q]at h;dsimp only[Option.elim]at h;rcases dR.mp h with h|h
  .exact(zi i _ _ e h).1
  rcases dR.mp h with h|h
  .exact(Ie e h).1
  .exact OO e h
def MD{V:qu}:∀e∈sW l V i fs,e.oy:=λe h=>by
 unfold sW at h;split at h
 .rename_i x y n _;dsimp only at h;rcases dR.mp h with h|h
  .simp only[c9,dq,d9]at h;rcases h with rfl|rfl|rfl<;>trivial
  .exact L6 e h
 .cases h
theorem F':∀(is:T0 Nat) (V:qu),∀e∈rg l is V,e.oy
 | [],_,e,h=>by unfold rg at h;cases h
 | i::r,V,e,h=>by
  unfold rg at h;rcases dR.mp h with h|h
  .exact MD e h
  .exact F' r _ e h
def QV{V:qu}:(qC V (vw l V .turn)).t=V.t+1:=I0 (V:=qa V .turn) (F' _ _)
def PZ{ps:T0 (Str×Int)}{z:Str}{n:Int}(h:ps.any (λp=>decide (p.1=z))=pc):(zY ps z n).length=ps.length:=by unfold zY;rw[dh h,cV]
def Q2{V V1:qu}(nx:uj l V1)(he:Gn l V i en):(qC V1 (sH l V i en)).ps.length=V1.ps.length:=by
 cases en with
 | rings z ps=>
  show(qC V1 ((if (l.mP z=="turns")=pc then[Ev.next z (PN (l.mE z) (ps.headD Str.empty))]else[])++[.rings i ps])).ps.length=_;rw[rC];by_cases ht:(l.mP z=="turns")=pc
  .rw[dh ht];refine PZ ?_;obtain⟨v,e,_⟩:=nx z he.1 ht;exact gj.mpr ⟨v,fL e,by simpa using iW e⟩
  .rw[de ht];rfl
 | breaks z=>
  unfold sH;dsimp only;split
  .rfl
  .rfl
 | waits z=>rfl
 | engaged z=>rfl
 | barred=>rfl
 | ring ns=>rfl
def Qe{V:qu}{i:Nat}{k:pj}(ok:rf l)(wf:zJ l V (Fa i))(hk:V.calls[i]?=Fa k):(qC V (vA l V i)).ps.length=V.ps.length:=by
 have XC:=wf.ok i k hk;unfold vA;rw[hk];dsimp only[Option.elim];obtain⟨z,hz⟩:∃z,k.way.getLast?=Fa z:=by
  cases e:k.way.getLast? with
  | none=>exact absurd (gq.mp e) XC.wy.1
  | some z=>exact⟨z,rfl⟩
 rw[show k.way.getLastD Str.empty=z by rw[im,hz];rfl];have ro:yf l V k.cr (l.nm.length+1) [] (uZ l V k.cr z k.way.dropLast):=zu ok _ _ _ _ (XC.wy.2 z (ig hz)) λx hx=>XC.wy.2 x (iU _ hx);have eo:=MU ok wf hk ro.e;generalize uZ l V k.cr z k.way.dropLast=R at eo;obtain⟨e,st⟩:=R;have e1:(qC (qC V (rF i Db st)) (tX i st e)).ps=V.ps:=(Fg λx hx=>(Ie x hx).2).trans (Fg λx hx=>(zi i st Db x hx).2);rw[rC,rC];refine(Q2 (λz hz ht=>?_) eo).trans (eR List.length e1);rw[e1];exact wf.nx z hz ht
theorem Il(ok:rf l):∀(is:T0 Nat) {V:qu},WF l V->(qC V (rg l is V)).ps.length=V.ps.length
 | [],V,_=>by unfold rg;rfl
 | i::r,V,wf=>by
  unfold rg;rw[rC];refine(Il ok r (Jc ok wf)).trans ?_;have d:=HV (V:=V) (i:=i) ok;generalize zH l V i=fs at d;cases d with
  | no=>rfl
  | on c k r b x y n hc hs hk hw hy=>rw[Ak hk,rC];exact Qe ok (Fj wf hc hs hy) (En hc)
def Ut{V:qu}{e:tQ}(ok:rf l)(wf:WF l V)(f:e.nq)(h:xi l V e=Db):(qC V (vw l V e)).ps.length=V.ps.length:=by
 cases e with
 | call y z=>obtain⟨h1,h2,h3,h4⟩:=Ea h;obtain⟨k,hk⟩:=Nf (V:=V) (y:=y) (z:=z);show(qC V (_++vA l _ _)).ps.length=_;rw[rC];exact Qe ok (HF wf h1 h2 h3 h4) hk
 | turn=>exact Il ok _ (Ef wf)
 | sw b i=>rfl
 | num w x ns=>
  refine eR List.length (Fg λev hev=>?_);obtain⟨_,n⟩:=Es f h;cases n with
  | answer i c hi hc h1 h2 h3=>rw[dg.mp (show ev∈[xt V "answer" x i.toNat]from hev),zk hc];trivial
  | hang i c hi hc h1=>
   have hev:ev∈vc V x i.toNat:=hev;unfold vc at hev;rw[hc]at hev;dsimp only[Option.elim]at hev;split at hev
   .rw[dg.mp hev];trivial
   split at hev
   .rcases c9.mp hev with rfl|hev
    .trivial
    split at hev
    .rw[dg.mp hev];trivial
    .cases hev
   split at hev
   .rw[dg.mp hev];trivial
   .rw[dg.mp hev];trivial
  | hold i c hi hc h1=>rw[dg.mp (show ev∈[xt V "hold" x i.toNat]from hev),zk hc];trivial
  | back i c hi hc h1 h2=>rw[dg.mp (show ev∈[xt V "back" x i.toNat]from hev),zk hc];trivial
  | two _ i j c d hi hj hw hc hd h1 h2=>rw[dg.mp (show ev∈[Bx V w x i.toNat j.toNat]from hev),Ho hc hd];trivial
theorem DF(n:Nat):∀ss:QQQ,(ss.map D.str).all (AB n)=pc
 | []=>rfl
 | s::r=>by rw[dZ,fS,DF n r];cases n<;>rfl
noncomputable def Bj(c:pj):QQQ:=if (c.st=="talks"||c.st=="held")=pc then c.ms else c.cr::c.at_
def Kq(a:Ad):qY:=λds M Q=>De λL k c=>ds=[.ref (rh.p k)]/\rM a M L k c/\c.at_.length<=100/\∀r M',qo M M'->oK M' r=Fa ((Bj c).map D.str)->Q (.ref r) M'
noncomputable def Lh(V:qu)(XF:QQQ):T0 Nat:=(List.range V.calls.length).filter λi=>(V.calls[i]?).elim lf λc=>hasS XF c.st
def OG(a:Ad):qY:=λds M Q=>BA λA V l XF=>ds=[.ref A.b,.tup (List.map D.str XF)]/\Rd a M A V l/\∀r M',qo M M'->oK M' r=Fa ((Lh V XF).map λn=>D.int (n:Nat))->Q (.ref r) M'
noncomputable def Rm(V:qu)(XF:QQQ):D->Bool
 | .int n=>(V.calls[n.toNat]?).elim lf λc=>hasS XF c.st
 | _=>lf
def JN:Fq P w K mg base 1 a.bm (Kq a):=by
 refine fq G.bm.toDG Dl (λr u=>⟨_,(oY (pJ (W3.b3 (vC (pA u (pq y0) pf) (vk (pA u (pq y0) pf))))
 (oZ (pk (qr tI rfl G.y tD (qd (pq y0)))))
 pD)
 (oZ (pk (pQ (qK (qd (pq y0))) (qr tI rfl G.y tD (qd (pq y0))))))),?_⟩)
 rintro ds M Q ⟨L,k,c,rfl,⟨ad,md,h1,h2,h3,h4,_⟩,ha,q⟩
 have hz:=dP;unfold Bj at q;refine o9 h1 (i' rfl (qg (c:=c.st=="talks") (λg=>?_) (λg=>?_)))
 .rw[g,hU,dh rfl]at q;exact o9 h1 (i' rfl (i' h4 λr hr=>⟨_,.refl,q r _ (.new hr) pz⟩))
 rw[dB.mpr g,fN]at q;refine o9 h1 (i' rfl (qg (c:=c.st=="held") (λg=>?_) (λg=>?_)))
 .rw[dh g]at q;exact o9 h1 (i' rfl (i' h4 λr hr=>⟨_,.refl,q r _ (.new hr) pz⟩))
 rw[de g]at q;refine o9 h1 (i' rfl ⟨oW rfl,λr1 Xk=>?_⟩);have t1:=qo.new (c:=.lst [D.str c.cr]) Xk;have l1:=@pz M r1 [D.str c.cr];show AL (pB M r1 (.lst [D.str c.cr]) k.p) _;generalize pB M r1 (.lst [D.str c.cr])=M1 at t1 l1 ⊢;refine o9 (t1 _ _ h1) (i' rfl (i' (t1.lst h3) λr2 YV=>?_));have t2:=qo.new (c:=.lst (c.at_.map D.str)) YV;refine i' (t2.lst l1) (i' pz ⟨?_,λr3 Ze=>⟨_,.refl,q r3 _ (t1.trans (t2.trans (.new Ze))) pz⟩⟩);rw[cV];show 1+c.at_.length<=Ch;omega
def Ph:Fq P w K mg base 1 a.bn (OG a):=by
 refine fq G.bn.toDG AK (λr u=>⟨_,(oZ (pk (qE rfl (xw (ix:=[Db,Fa 0,Fa 1]) (N':=["_law_k","_law_board","_law_states"])) (wH rfl G.aO (qd (pN ql rfl G.g qh (qd (pq y0))))) (qB 0) (uQ (pA u (pq (pF (pq U1) y0)) U2)) y0))),?_⟩)
 rintro ds M Q ⟨A,V,l,XF,rfl,rd,q⟩
 have hz:=dP;have lc:((A.cs.map λk=>D.ref k.p).length:Int)=(V.calls.length:Nat):=by rw[cV,rd.bd.len]
 have hb:=rd.k;refine o9 rd.bd.at_ (i' rfl (i' rd.bd.ca ?_));rw[lc];refine⟨rfl,⟨by omega,by omega⟩,?_⟩;refine tG (f:=id) (t:=Rm V XF) trivial _ [] _ (by rw[cV,eG];simp only[dO];omega) (λd hd k hk=>?_) (λd hd _ k hk=>?_) λr hr=>?_
 .obtain⟨i,hi,rfl⟩:=dD.mp hd;rw[gz]at hi;have hi:i<V.calls.length:=by omega
  obtain⟨k',ek,⟨ad,md,h1,_⟩⟩:=rd.call (cX hi);have ea:wI (A.cs.map λk=>D.ref k.p) (0+(i:Nat))=Fa (.ref k'.p):=by rw[my];exact rb ek
  refine o9 rd.bd.at_ (i' rfl (i' rfl (i' rd.bd.ca (i' ea (o9 h1 (i' rfl (i' rfl ⟨rfl,qe _,?_⟩)))))));show k (inD (.str V.calls[i].st) (XF.map D.str)) M;rw[rG];have e1:Rm V XF (.int (0+(i:Nat)))=hasS XF V.calls[i].st:=by show(V.calls[(0+(i:Int)).toNat]?).elim lf _=_;rw[show(0+(i:Int)).toNat=i by omega,cX hi];rfl
  show k (hasS XF V.calls[i].st) M;rw[<-e1];exact hk
 .exact hk
 .refine⟨_,.refl,q r _ (.new hr) (pz.trans (eR Fa ?_))⟩;rw[d6,jc,gW,show(((V.calls.length:Nat):Int)).toNat=V.calls.length from rfl];unfold Lh;have e1:(Rm V XF∘λi:Nat=>D.int (0+(i:Nat)))=λi=>(V.calls[i]?).elim lf λc=>hasS XF c.st:=funext λi=>by show(V.calls[(0+(i:Int)).toNat]?).elim lf _=_;rw[show(0+(i:Int)).toNat=i by omega]
  rw[e1];exact gQ λi _=>by rw[my]
noncomputable def Gk:Str->QQQ:=λw=>if (w=="answer")=pc then["rings","waits"]else if (w=="hold")=pc then["talks"]else if (w=="hang")=pc then["rings","waits","talks","held"]else["held"]
def RY(w:Str):Prop:=w="answer"\/w="hang"\/w="hold"\/w="back"\/w="hand"\/w="join"
def Jq(a:Ad):qY:=λds M Q=>GY λA V l c w=>ds=[.ref A.b,.int c,.str w,.tup ((Gk w).map D.str)]/\Rd a M A V l/\WF l V/\(∀k∈V.calls,k.at_.length<=100)/\RY w/\∀M',qo M M'->Q .mL M'/\∀e:tQ,e.nq->Q e.d M'
def Sy{n:Nat}{a b:Uf}{ds:T0 D}(ha:oK M a=Fa ds)(hb:oK M b=Fa []):zU M (n+1) (.ref a) (.ref b)=Fa ds.isEmpty:=by
 show(oK M a).bind (λi=>(oK M b).bind λj=>if i.length=j.length then sF (zU M n) i j else Fa lf)=_;rw[ha,hb];cases ds with
 | nil=>rfl
 | cons x r=>rfl
def uI{α:Type}(f:α->D){xs:List α}(h:xs≠[])(c k:Int):(0:Int)<((xs.map f).length:Nat)/\∃x∈xs,wI (xs.map f) (qx c k ((xs.map f).length:Nat))=Fa (f x):=by
 have hp:(0:Int)<((xs.map f).length:Nat):=by have:=fC.mpr h;rw[cV];omega
 have d0:=qS (c:=c) (f:=k) hp;have d1:=qG (c:=c) (f:=k) hp;obtain⟨n,e⟩:=eD d0;rw[e]at d1 ⊢;have hn:n<xs.length:=by rw[cV]at d1;omega
 exact⟨hp,xs[n],ic hn,vb (by rw[dF,cX hn];rfl)⟩
def Sm{V:qu}{i:Nat}(h:i∈Lh V XF):∃c,V.calls[i]?=Fa c/\c.st∈XF:=by
 have h:=(eQ.mp h).2;cases e:V.calls[i]? with
 | none=>rw[e]at h;cases h
 | some c=>rw[e]at h;exact⟨c,rfl,qz.mp h⟩
def DM{c:pj}(k:wb l lf c)(h:c.st≠"over"):Bj c≠[]:=by
 unfold Bj;split
 .rename_i g;rcases k.sh with z|⟨_,z|z|⟨_,z⟩|z⟩
  .rw[z.1]at g;exact absurd g (by decide)
  .rw[z.1]at g;exact absurd g (by decide)
  .intro y;rw[y]at z;rcases z.2.1 with u|u<;>cases u
  .intro y;rw[y]at z;cases z.2.1
  .exact absurd z.1 h
 .exact fR _ _
def Ur{c:pj}(k:wb l lf c)(h:c.st∈Gk "answer"):c.at_≠[]:=by
 have h:c.st="rings"\/c.st="waits":=by
  rcases c9.mp h with g|g
  .exact .inl g
  .exact .inr (dg.mp g)
 rcases k.sh with z|⟨_,z|z|⟨_,z⟩|z⟩
 .exact z.2.2.2.2.2 rfl
 .intro y;rw[y]at z;cases z.2.2.2.2
 all_goals(rw[z.1]at h;exact absurd h (by decide))
def Iz{c:pj}(k:wb l lf c)(h:c.st="held"):∃x,c.hd=Fa x:=by
 rcases k.sh with z|⟨_,z|z|⟨x,z⟩|z⟩
 .rw[h]at z;exact absurd z.1 (by decide)
 .rw[h]at z;exact absurd z.1 (by decide)
 .rw[h]at z;exact absurd z.1 (by decide)
 .exact⟨x,z.2.2.1⟩
 .rw[h]at z;exact absurd z.1 (by decide)
def Kd:Fq P w K mg base 4 a.bo (Jq a):=by
 refine fq G.bo.toDG rq (λr u=>⟨_,(oY (pG 4 rq (pE (Ph G) r G.bn (rW y0 U3)))
 (oY (pJ (pA u v4 (qK sS))
 (oZ (pk sr))
 pD)
 (oY (pG 5 rq (pF v4 (pE (qF G) r G.i (qV U1 pb (pN ql rfl G.g qh (qd v4))))))
 (oY (pG 6 rq (pE (JN G) r G.bm (qd (pF (pq y0) v5))))
 (oY (pJ (pA u U2 pf)
 (oZ (pG 6 rq (qr tI rfl G.y tD (qd (pq (pF (pq y0) v5))))))
 pD)
 (oY (pJ (W3.b3 (vC (pA u U2 pf) (vC (pA u U2 pf) (vk (pA u U2 pf)))))
 (oZ (pG 6 rq (qK (qd (pq (pF (pq y0) v5))))))
 pD)
 (oY (pG 7 rq (pF v6 (pE (qF G) r G.i (qV U1 pb (pN ql rfl G.g qh (qd v6))))))
 (oY (pJ (W3.b3 (vC (pA u U2 pf) (vk (pA u U2 pf))))
 (oY (pG 8 rq (pT y0 G.c.toCls G.R (yG G) r (qd v7)))
 (oZ (pk (pI (pP U2 (qV v7 v5 (Qc (pA u v8 sr) pb v8)))))))
 pD)
 (oZ (pk (pI (qV U2 v7 v5)))))))))))),?_⟩)
 rintro ds M Q ⟨A,V,l,c,wd,rfl,rd,wf,ha,ho,q⟩
 have hz:=dP;refine⟨A,V,l,Gk wd,rfl,rd,λr M1 s1 lr=>?_⟩;refine⟨oW rfl,λr0 ZL=>?_⟩;have t2:=qo.new (c:=.lst []) ZL;have Zk:=t2.lst lr;refine i' (Sy Zk pz) ?_;have s2:=s1.trans t2;generalize pB M1 r0 (.lst [])=M2 at s2 Zk ⊢;clear t2 lr ZL s1;refine qg (c:=((Lh V (Gk wd)).map λn=>D.int (n:Nat)).isEmpty) (λ_=>⟨M2,.refl,(q M2 s2).1⟩) (λg=>?_);have gne:Lh V (Gk wd)≠[]:=λz=>g (by rw[z];rfl);obtain⟨hp,i,hi,ei⟩:=uI (λn:Nat=>D.int (n:Nat)) gne c 40692;obtain⟨cv,hc,hs⟩:=Sm hi;have Yc:=rd.sub s2;obtain⟨k,ek,ca⟩:=Yc.call hc;have ca0:=ca;obtain⟨ad,md,h1,h2,h3,h4,_⟩:=ca0;have XC:=wf.ok i cv hc;refine i' Zk ⟨c,_,_,rfl,hp,i' Zk (i' ei ?_)⟩;refine o9 Yc.bd.at_ (i' rfl (i' rfl (i' Yc.bd.ca (i' (rb ek) ?_))));refine⟨_,k,cv,rfl,ca,ha cv (qJ hc),λr3 M3 s3 lr3=>?_⟩;have Xj:=s3 _ _ h1;have q3:=λM' (s:qo M3 M')=>q M' (s2.trans (s3.trans s));have YZ:=Yc.sub s3;have Zc:=s3.lst h3;clear q Zk s2 h1 h2 h3 h4 ca;rcases ho with rfl|rfl|rfl|rfl|rfl|rfl
 .
  refine o9 YZ.bd.at_ (i' rfl (i' rfl (i' YZ.bd.ca (i' (rb ek) (o9 Xj (i' rfl (i' Zc λr4 ZN=>?_)))))));obtain⟨WG,x,hx,ex⟩:=uI D.str (Ur XC hs) c 742938285;refine i' pz ⟨c,_,_,rfl,WG,i' pz (i' ex ?_)⟩;exact⟨oW rfl,_,.refl,(q3 _ (.new ZN)).2 (.num "answer" x [(i:Nat)]) (.inl ⟨.inl rfl,rfl⟩)⟩
 .
  obtain⟨WG,x,hx,ex⟩:=uI D.str (DM XC (λz=>by rw[z]at hs;exact absurd hs (by decide))) c 742938285;refine i' lr3 ⟨c,_,_,rfl,WG,i' lr3 (i' ex ?_)⟩;exact⟨oW rfl,_,.refl,(q3 _ .refl).2 (.num "hang" x [(i:Nat)]) (.inl ⟨.inr (.inl rfl),rfl⟩)⟩
 .
  obtain⟨WG,x,hx,ex⟩:=uI D.str (DM XC (λz=>by rw[z]at hs;exact absurd hs (by decide))) c 742938285;refine i' lr3 ⟨c,_,_,rfl,WG,i' lr3 (i' ex ?_)⟩;exact⟨oW rfl,_,.refl,(q3 _ .refl).2 (.num "hold" x [(i:Nat)]) (.inl ⟨.inr (.inr (.inl rfl)),rfl⟩)⟩
 .
  obtain⟨y,hy⟩:=Iz XC (dg.mp hs);refine o9 YZ.bd.at_ (i' rfl (i' rfl (i' YZ.bd.ca (i' (rb ek) (o9 Xj (i' rfl ⟨oW rfl,λr4 ZN=>?_⟩))))));rw[show Gw cv.hd=.str y by rw[hy];rfl];obtain⟨WG,x,hx,ex⟩:=uI D.str (fR y []) c 742938285;refine i' pz ⟨c,_,_,rfl,WG,i' pz (i' ex ?_)⟩;exact⟨oW rfl,_,.refl,(q3 _ (.new ZN)).2 (.num "back" x [(i:Nat)]) (.inl ⟨.inr (.inr (.inr rfl)),rfl⟩)⟩
 all_goals
  obtain⟨y,hy⟩:=Iz XC (dg.mp hs);refine o9 YZ.bd.at_ (i' rfl (i' rfl (i' YZ.bd.ca (i' (rb ek) (o9 Xj (i' rfl ⟨oW rfl,λr4 ZN=>?_⟩))))));rw[show Gw cv.hd=.str y by rw[hy];rfl];obtain⟨WG,x,hx,ex⟩:=uI D.str (fR y []) c 742938285;refine i' pz ⟨c,_,_,rfl,WG,i' pz (i' ex ?_)⟩;have t4:=qo.new (c:=.lst [D.str y]) ZN;refine o9 (t4 _ _ YZ.bd.at_) ⟨rfl,_,⟨rfl,rfl⟩,A,V,x,rfl,YZ.bd.sub t4,YZ.k,?_⟩;unfold Al;cases vE V x with
  | none=>first|exact⟨oW rfl,_,.refl,(q3 _ t4).2 (.num "hand" x [(i:Nat),(0:Nat)]) (.inr ⟨.inl rfl,rfl⟩)⟩|exact⟨oW rfl,_,.refl,(q3 _ t4).2 (.num "join" x [(i:Nat),(0:Nat)]) (.inr ⟨.inr rfl,rfl⟩)⟩
  | some j=>first|exact⟨oW rfl,_,.refl,(q3 _ t4).2 (.num "hand" x [(i:Nat),(j:Nat)]) (.inr ⟨.inl rfl,rfl⟩)⟩|exact⟨oW rfl,_,.refl,(q3 _ t4).2 (.num "join" x [(i:Nat),(j:Nat)]) (.inr ⟨.inr rfl,rfl⟩)⟩
def Ip:qY:=λds M Q=>J0 λc o n own nm m=>ds=[.int c,.ref o,.ref n,.int ((m:Nat):Int)]/\oK M o=Fa (List.map D.str own)/\oK M n=Fa (List.map D.str nm)/\own.length<=100/\nm.length<=100/\m<=1000000/\∀M' (e:tQ),qo M M'->e.nq->Q e.d M'
def Lj(a:Ad):qY:=λds M Q=>RV λA V l c o n own nm=>ds=[.ref A.b,.int c,.ref o,.ref n]/\Rd a M A V l/\WF l V/\(∀k∈V.calls,k.at_.length<=100)/\oK M o=Fa (List.map D.str own)/\oK M n=Fa (List.map D.str nm)/\own≠[]/\nm≠[]/\own.length<=100/\nm.length<=100/\∀M' (e:tQ),qo M M'->e.nq->Q e.d M'
def Ja{α:Type}(f:α->D){xs:List α}(h:xs≠[]){m:Int}(hm:m=(xs.length:Nat))(c k:Int):(0:Int)<m/\∃x∈xs,wI (xs.map f) (qx c k m)=Fa (f x):=by have:=uI f h c k;rw[cV,<-hm]at this;exact this
def PU{α:Type}(xs:List α)(x:α):xs++[x]≠[]:=by simp
noncomputable def HE:QQQ:=["call","call","call","call","call","answer","answer","answer","answer","answer","hang","hang","hold","hold","hold","back","hand","join","turn","turn","turn"]
theorem DT(d:D):∀n:Nat,(List.replicate n [d]).flatten=List.replicate n d
 | 0=>rfl
 | n+1=>by rw[eJ,fU,DT d n,eJ];rfl
noncomputable def zz:Str:="zzzzzz"
noncomputable def Md(a b:Str)(k m:Int):List tQ:=[.call a b,.num "answer" a [k],.num "hang" a [k],.num "hold" a [k],.num "back" a [k],.num "hand" a [k,m],.num "join" a [k,m],.turn,.sw pc k,.sw lf k]
def Kx{a b:Str}{k m:Int}{e:tQ}(h:e∈Md a b k m):e.nq:=by
 unfold Md at h;simp only[c9,dq,d9]at h;rcases h with rfl|rfl|rfl|rfl|rfl|rfl|rfl|rfl|rfl|rfl
 .trivial
 .exact .inl ⟨.inl rfl,rfl⟩
 .exact .inl ⟨.inr (.inl rfl),rfl⟩
 .exact .inl ⟨.inr (.inr (.inl rfl)),rfl⟩
 .exact .inl ⟨.inr (.inr (.inr rfl)),rfl⟩
 .exact .inr ⟨.inl rfl,rfl⟩
 .exact .inr ⟨.inr rfl,rfl⟩
 .trivial
 .trivial
 .trivial
def NE:Fq P w K mg base 2 a.bp Ip:=by
 refine fq G.bp.toDG uD (λr u=>⟨_,(oY (pG 4 uD (pF (pQ U1 (qK (qd pf))) (pE (qF G) r G.i (qV y0 pb (pQ (pN ql rfl G.g qh (qd U1)) pb)))))
 (oY (pG 5 uD (pF (pQ U2 (qK (qd pf))) (pE (qF G) r G.i (qV y0 pb (pQ (pN ql rfl G.g qh (qd U2)) pb)))))
 (oY (pG 6 uD (pQ (pE (qF G) r G.i (qV y0 pb (pQ U3 pb))) pb))
 (oY (pG 7 uD (pQ (pE (qF G) r G.i (qV y0 pb (pQ U3 pb))) pb))
 (oY (pG 8 uD (qK (pP (pI (qV pf v4 v5)) (pP (pI (qV pf v4 v6)) (pP (pI (qV pf v4 v6)) (qV (pI (qV pf v4 v6)) (pI (qV pf v4 v6)) (pI (pP pf (qV v4 v6 v7)))))))))
 (oZ (pk (pF (pQ v8 (qK (pP (pI (pP pf (qV v4 v6 v7))) (qV (pI (qd pf)) (pI (rW pf v6)) (pI (rW pf v6)))))) (pE (qF G) r G.i (qV y0 pb pb)))))))))),?_⟩)
 rintro ds M Q ⟨c,o,n,own,nm,m,rfl,ho,hn,ol,nl,ml,q⟩
 have hz:=dP;have add:∀{M1:Mp} {p:Uf} {xs:QQQ} (f:Int) (nx:DK),qo M M1->oK M1 p=Fa (xs.map D.str)->xs.length<=100->(∀x M',qo M M'->nx (.str x) M')->∀r1,M1 r1=Db->(oK (pB M1 r1 (.lst [D.str zz])) p).elim False λi=>(oK (pB M1 r1 (.lst [D.str zz])) r1).elim False λj=>i.length+j.length<=Ch/\∀r2,pB M1 r1 (.lst [D.str zz]) r2=Db->(oK (pB (pB M1 r1 (.lst [D.str zz])) r2 (.lst (i++j))) p).elim False λys=>Iy [.int c,.int f,.int ((ys.length:Nat)+1)] (pB (pB M1 r1 (.lst [D.str zz])) r2 (.lst (i++j))) λy M2=>match y with
  | .int n=>(oK M2 r2).elim False λzs=>(wI zs n).elim False λd=>nx d M2
  | _=>False:=λ{M1 p xs} f nx s hx lx WI r1 Xk=>by
  have t1:=qo.new (c:=.lst [D.str zz]) Xk;refine i' (t1.lst hx) (i' pz ⟨by rw[cV];show xs.length+1<=Ch;omega,λr2 YV=>?_⟩);have t2:=qo.new (c:=.lst (xs.map D.str++[D.str zz])) YV;obtain⟨hp,x,_,ex⟩:=Ja D.str (PU xs zz) (m:=((xs.map D.str).length:Nat)+1) (by rw[cV,cY];rfl) c f;rw[dU]at ex;exact i' ((t1.trans t2).lst hx) ⟨c,f,_,rfl,hp,i' pz (i' ex (WI x _ (s.trans (t1.trans t2))))⟩
 refine⟨oW rfl,add 16807 _ .refl ho ol λx M1 s1=>⟨oW rfl,add 39373 _ s1 (s1.lst hn) nl λy M2 s2=>?_⟩⟩;refine⟨c,_,_,rfl,by show(0:Int)<(m:Nat)+2;omega,⟨c,_,_,rfl,by show(0:Int)<(m:Nat)+2;omega,?_⟩⟩;generalize qx c 69621 ((m:Nat)+2) - 1=k0;refine⟨oW rfl,oW rfl,oW rfl,oW rfl,oW rfl,oW rfl,oW rfl,λr8 hr8=>⟨oW rfl,oW rfl,oW rfl,oW rfl,oW rfl,λr9 hr9=>?_⟩⟩;have t8:=qo.new (c:=.lst (((Md x y k0 (qx c 22695477 ((m:Nat)+2) - 1)).take 6).map tQ.d)) hr8;have t9:=qo.new (c:=.lst (((Md x y k0 (qx c 22695477 ((m:Nat)+2) - 1)).drop 6).map tQ.d)) hr9;refine i' (t9.lst pz) (i' pz ⟨by show 6+4<=Ch;omega,λr10 hr10=>?_⟩);obtain⟨hp,e,he,ee⟩:=Ja tQ.d (xs:=Md x y k0 (qx c 22695477 ((m:Nat)+2) - 1)) (fR _ _) (m:=10) rfl c 1664525;exact⟨c,_,_,rfl,hp,i' pz (i' ee ⟨_,.refl,q _ e (s2.trans (t8.trans (t9.trans (.new hr10)))) (Kx he)⟩)⟩
def Ni:Fq P w K mg base 5 a.bq (Lj a):=by
 refine fq G.bq.toDG rk (λr u=>⟨_,(oY (pG 4 rk (pQ (pQ (pQ (pQ (pQ (BQ (qK (qd pf)) pb) (BQ (qK (qd pf)) pb)) (BQ (qK (qd pf)) pb)) (BQ (qK (qd pf)) pb)) (qK (qV pf pf pf))) (BQ (qK (qd pf)) pb)))
 (oY (pG 4 rk (pF v4 (pE (qF G) r G.i (qV U1 pb (pN ql rfl G.g qh (qd v4))))))
 (oY (pG 5 rk (pI (pP pf (qV pf pf pf))))
 (oY (pJ (pA u v4 pf)
 (oZ (pG 5 rk (pI (rW pf pf))))
 pD)
 (oY (pJ (pA u v4 pf)
 (oZ (pG 5 rk (pI (qd pf))))
 pD)
 (oY (pJ (W3.b3 (vC (pA u v4 pf) (vC (pA u v4 pf) (vk (pA u v4 pf)))))
 (oZ (pG 5 rk (pI (qd pf))))
 pD)
 (oY (pJ (pA u v4 pf)
 (oZ (pk (pI (qd pf))))
 pD)
 (oY (pJ (pA u (pE (qF G) r G.i (qV U1 pb pb)) pb)
 (oZ (pk (pE (NE G) r G.bp (pP U1 (qV U2 U3 (pN ql rfl G.g qh (qd (pq y0))))))))
 pD)
 (oY (pG 6 rk sr)
 (oY (pJ (pA u v4 pf)
 (oZ (pG 6 rk (pE (Kd G) r G.bo (pP y0 (qV U1 v4 v5)))))
 pD)
 (oY (pJ (pA u v6 sr)
 (oY (pG 7 rk (pF U2 (pE (qF G) r G.i (qV U1 pb (pN ql rfl G.g qh (qd U2))))))
 (oZ (pG 6 rk (pI (qV pf v7 (pF U3 (pE (qF G) r G.i (qV U1 pb (pN ql rfl G.g qh (qd U3))))))))))
 pD)
 (oZ (pk v6))))))))))))),?_⟩)
 rintro ds M Q ⟨A,V,l,c,o,n,own,nm,rfl,rd,wf,ha,ho,hn,one,Y0,ol,nl,q⟩
 have hz:=dP;refine Hh (t:=yr _ _) (λU M'=>qo M M'/\∃r,oK M' r=Fa (HE.map D.str)/\U=[Fa (.ref A.b),Fa (.int c),Fa (.ref o),Fa (.ref n),Fa (.ref r),Db,Db,Db]) (λnx h=>?_) ?_
 .have Yz:∀{N:Mp} {U:vJ} (w0:Str) (m:Int) (nx:DK),qo M N->(0<=m/\m<=10)->(∀r N',qo M N'->qo N N'->oK N' r=Fa ((List.replicate m.toNat w0).map D.str)->nx (.ref r) N')->S8 (UC (vn (L3.c3 (.str w0)) xG)) (L3.c3 (.int m)) U N nx:=λ{N U} w0 m nx sn hm WI=>by refine⟨oW rfl,λr1 Xk=>?_⟩;refine i' pz ⟨⟨by omega,by omega,by show 1<=1000;decide⟩,λr2 YV=>?_⟩;have t:=(qo.new (c:=.lst [D.str w0]) Xk).trans (qo.new (c:=.lst (List.replicate m.toNat [D.str w0]).flatten) YV);refine WI r2 _ (sn.trans t) t (pz.trans (eR Fa ?_));rw[List.map_replicate];exact DT _ _
  have XG:∀{N:Mp} {p r:Uf} {xs ys:QQQ} (nx:DK),qo M N->oK N p=Fa (xs.map D.str)->oK N r=Fa (ys.map D.str)->xs.length+ys.length<=100->(∀r N',qo M N'->oK N' r=Fa ((xs++ys).map D.str)->nx (.ref r) N')->UI .Add (.ref p) (.ref r) N nx:=λ{N p r xs ys} nx sn hx hy hl WI=>by refine i' hx (i' hy ⟨by rw[cV,cV];omega,λr2 YV=>?_⟩);refine WI r2 _ (sn.trans (.new YV)) (pz.trans (eR Fa ?_));rw[dU]
  dsimp only[yr,o3];refine Yz "call" 5 _ .refl (by decide) λp1 N1 s1 _ l1=>Yz "answer" 5 _ s1 (by decide) λq2 N2 s2 t2 l2=>XG _ s2 (t2.lst l1) l2 (by decide) λp2 N3 s3 l3=>Yz "hang" 2 _ s3 (by decide) λq4 N4 s4 t4 l4=>XG _ s4 (t4.lst l3) l4 (by decide) λp5 N5 s5 l5=>Yz "hold" 3 _ s5 (by decide) λq6 N6 s6 t6 l6=>XG _ s6 (t6.lst l5) l6 (by decide) λp7 N7 s7 l7=>⟨oW rfl,λr8 hr8=>?_⟩;have t8:=qo.new (c:=.lst ((["back","hand","join"]:QQQ).map D.str)) hr8;exact XG (ys:=["back","hand","join"]) _ (s7.trans t8) (t8.lst l7) pz (by decide) λp9 N9 s9 l9=>Yz "turn" 3 _ s9 (by decide) λq10 N10 s10 t10 l10=>XG _ s10 (t10.lst l9) l10 (by decide) λp11 N11 s11 l11=>h _ _ ⟨s11,p11,l11,rfl⟩
 rintro U M1 ⟨s1,r,lr,rfl⟩
 have s1n:=s1.lst hn;have s1o:=s1.lst ho;obtain⟨hp,w0,hw,ew⟩:=uI D.str (show HE≠[]from fR _ _) c 48271;refine i' lr ⟨c,_,_,rfl,hp,i' lr (i' ew ?_)⟩;obtain⟨Yj,x1,hx1,ex1⟩:=uI D.str one c 16807;obtain⟨WG,x2,hx2,ex2⟩:=uI D.str Y0 c 39373;have Xv:=rd.sub s1;have lc:((A.cs.map λk=>D.ref k.p).length:Int)=(V.calls.length:Nat):=by rw[cV,rd.bd.len]
 clear lr hp ew;have hw:w0="call"\/w0="turn"\/RY w0:=by unfold HE at hw;simp only[c9,dq,d9]at hw;unfold RY;rcases hw with h|h|h|h|h|h|h|h|h|h|h|h|h|h|h|h|h|h|h|h|h<;>simp[h]
 have WB:∀M' (e:tQ),qo M1 M'->e.nq->∃WC,qo WC M'/\Q e.d WC:=λM' e s f=>⟨M',.refl,q M' e (s1.trans s) f⟩;rcases hw with rfl|rfl|hw
 .refine⟨oW rfl,c,_,_,rfl,by decide,qg (c:=qx c 950706376 9==0) (λ_=>o9 Xv.bd.at_ (i' rfl (i' Xv.bd.ca ?_))) (λ_=>?_)⟩
  .rw[lc];exact⟨c,o,n,own,nm,V.calls.length,rfl,s1o,s1n,ol,nl,rd.k,WB⟩
  exact i' s1o ⟨c,_,_,rfl,Yj,i' s1o (i' ex1 (i' s1n ⟨c,_,_,rfl,WG,i' s1n (i' ex2 ⟨oW rfl,WB M1 (.call x1 x2) .refl trivial⟩)⟩))⟩
 .exact⟨oW rfl,oW rfl,WB M1 .turn .refl trivial⟩
 have lany:Ip [.int c,.ref o,.ref n,.int ((V.calls.length:Nat):Int)] M1 λd M'=>∃WC,qo WC M'/\Q d WC:=⟨c,o,n,own,nm,V.calls.length,rfl,s1o,s1n,ol,nl,rd.k,WB⟩;have hw':=hw;rcases hw with rfl|rfl|rfl|rfl|rfl|rfl
 all_goals
  first
   | refine⟨oW rfl,oW rfl,c,_,_,rfl,by decide,qg (c:=qx c 950706376 9==0) (λ_=>o9 Xv.bd.at_ (i' rfl (i' Xv.bd.ca ?_))) (λ_=>⟨A,V,l,c,_,rfl,Xv,wf,ha,hw',λM' s=>⟨?_,λe f=>?_⟩⟩)⟩
   | refine⟨oW rfl,c,_,_,rfl,by decide,qg (c:=qx c 950706376 9==0) (λ_=>o9 Xv.bd.at_ (i' rfl (i' Xv.bd.ca ?_))) (λ_=>⟨A,V,l,c,_,rfl,Xv,wf,ha,hw',λM' s=>⟨?_,λe f=>?_⟩⟩)⟩
  .rw[lc];exact lany
  .exact i' (s.lst s1o) ⟨c,_,_,rfl,Yj,i' (s.lst s1o) (i' ex1 (i' (s.lst s1n) ⟨c,_,_,rfl,WG,i' (s.lst s1n) (i' ex2 ⟨oW rfl,WB M' (.call x1 x2) s trivial⟩)⟩))⟩
  .cases e with
   | call y z=>exact WB M' (.call y z) s f
   | num v y ns=>exact WB M' (.num v y ns) s f
   | turn=>exact WB M' .turn s f
   | sw b i=>exact WB M' (.sw b i) s f
def Rw(a:Ad):qY:=λds M Q=>BA λL k c x=>ds=[.ref (rh.p k),.str x]/\rM a M L k c/\Lc lf c/\Q (.bl (c.hasB x)) M
def LW(a:Ad):qY:=λds M Q=>RV λA V l r1 r2 r3 c z=>ds=[.ref (tM.b A),.tup [.ref r1,.ref r2,.ref r3],.str c,.str z]/\oK M r1=Fa (pC.mF l|>.map qD)/\oK M r2=Fa (l.groups.map qL)/\Rd a M A V l/\WF l V/\z∈l.nm/\Q (.bl (tN l V c z)) M
def OV:qY:=λds M Q=>∃x,ds=[.bl x,.bl x]/\Q (.bl pc) M
def J8(ok:rf l){v:sN}(hv:v∈l.mF):l.mV v.1=Fa v:=by
 obtain⟨u,hu⟩:=uC (dD.mpr ⟨v,hv,rfl⟩:v.1∈l.pn);rw[hu];unfold pC.mV at hu;have u1:u.1=v.1:=by simpa using iW hu
 obtain⟨i,hi,ei⟩:=fM (fL hu);obtain⟨j,hj,ej⟩:=fM hv;have:=B9 (f:=λp:sN=>p.1) (fD.mp ok.nd).1 (by rw[cX hi,ei]) (by rw[cX hj,ej]) u1;subst this;rw[<-ei,<-ej]
def EA{α:Type}{f:α->D}{xs:List α}{pre post:T0 D}{d:D}(e:pre++d::post=xs.map f):∃x,xs[pre.length]?=Fa x/\d=f x/\xs.take (pre.length+1)=xs.take pre.length++[x]:=by
 have h:(xs.map f)[pre.length]?=Fa d:=by rw[<-e];simp
 rw[dF]at h;cases hx:xs[pre.length]? with
 | none=>rw[hx]at h;cases h
 | some x=>rw[hx]at h;refine⟨x,rfl,(dv h).symm,?_⟩;rw[gv,hx];rfl
def QF:Fq P w K mg base 1 a.bs (Rw a):=by
 refine fq G.bs.toDG J7 (λr u=>⟨_,(oY (pJ (pA u (pq y0) pf)
 (oZ (pk (F7 (pR u U1 (pq y0)) (rJ (pR u U1 (pq y0))))))
 pD)
 (oY (pJ (pA u (pq y0) pf)
 (oZ (pk (pR u U1 (pq y0))))
 pD)
 (oZ (pk (pR u U1 (pq y0)))))),?_⟩)
 rintro ds M Q ⟨L,k,c,x,rfl,⟨ad,md,h1,h2,h3,h4,_⟩,st,q⟩
 unfold pj.hasB at q;refine o9 h1 (i' rfl ?_);refine qg (c:=c.st=="rings") (λg=>?_) (λg=>?_)
 .rw[dh g]at q;refine o9 h1 (i' rfl (qg (c:=x==c.cr) (λg2=>?_) (λg2=>?_)))
  .rw[g2]at q;exact⟨M,.refl,q⟩
  .rw[show(x==c.cr)=lf from dB.mpr g2,fN]at q;exact o9 h1 (i' rfl (Au h3 ⟨M,.refl,q⟩))
 .rw[de g]at q;refine o9 h1 (i' rfl ?_);refine qg (c:=c.st=="waits") (λg2=>?_) (λg2=>?_)
  .rw[dh g2]at q;exact o9 h1 (i' rfl ⟨M,.refl,q⟩)
  .rw[de g2]at q;refine o9 h1 (i' rfl (Au h4 ⟨M,.refl,?_⟩));rcases st with⟨e,_⟩|⟨_,⟨e,_⟩|⟨e,_⟩|⟨_,e,_⟩|⟨e,e2,_⟩⟩
   .exact absurd (by rw[e];rfl) g
   .exact absurd (by rw[e];rfl) g2
   .rw[e]at q;exact q
   .rw[e]at q;exact q
   .rw[e2];rw[e,e2]at q;exact q
def Cf:Fq P w K mg base 2 a.Q (LW a):=by
 refine fq G.Q.toDG qX (λr u=>⟨_,(oY (pG 4 qX (qK (qd U3)))
 (oY (sT eK rfl (qv (pF U1 pb)) (tO (n:=3) rfl (pV (qI 5 qX) (pV (qI 6 qX) (pV (qI 7 qX) sv))))
 (oZ (pJ (pA u v5 U3)
 (oZ (pG 4 qX (qr tI rfl G.y tD (qd v7))))
 pD)))
 (oY (sT eK rfl (qv (pF U1 pb)) (tO (n:=3) rfl (pV (qI 5 qX) (pV (qI 8 qX) (pV (qI 9 qX) sv))))
 (oZ (pJ (W3.b3 (vY (pA u v5 v4) (vd (pA u v5 U2))))
 (oZ (pJ (pA u (pN ql rfl G.g qh (qd (qE rfl (xw (ix:=[Db,Fa 5]) (N':=["_law_call","_law_name"])) (qv (pq y0)) (qB 0) (uQ (uB (pE (QF G) r G.bs (rW y0 U1)))) y0))) v8)
 (oZ (pk tL))
 pD))
 pD)))
 (oZ (pk tL))))),?_⟩)
 rintro ds M Q ⟨A,V,l,r1,r2,r3,c,z,rfl,m1,m2,rd,wf,hz,q⟩
 have Zf:=dP;refine⟨oW rfl,λp hp=>?_⟩;have t:=qo.new (c:=.lst [D.str z]) hp;have lp:oK (pB M p (.lst [D.str z])) p=Fa ([z].map D.str):=pz;generalize pB M p (.lst [D.str z])=M1 at t lp ⊢;dsimp only[rT];refine Hh (t:=RH _ _ _) (λU M'=>qo M M'/\∃p y5 y6 y7,oK M' p=Fa ((l.mE z).map D.str)/\U=[Fa (.ref A.b),Fa (.tup [.ref r1,.ref r2,.ref r3]),Fa (.str c),Fa (.str z),Fa (.ref p),y5,y6,y7,Db,Db]) (λnx h=>?_) ?_
 .refine i' (t.lst m2) ?_;refine uc (l.groups.map qL) (λpre U M'=>qo M M'/\∃p y5 y6 y7,oK M' p=Fa ((((l.groups.take pre.length).find? λg=>decide (g.1=z)).elim [z] λg=>g.2.2).map D.str)/\U=[Fa (.ref A.b),Fa (.tup [.ref r1,.ref r2,.ref r3]),Fa (.str c),Fa (.str z),Fa (.ref p),y5,y6,y7,Db,Db]) (λ_ _ M' j=>j.1.lst m2) _ [] _ _ rfl ⟨t,p,Db,Db,Db,lp,rfl⟩ ?_ ?_
  .rintro pre d post e U M' ⟨s1,p,y5,y6,y7,lp,rfl⟩ Zl WI
   obtain⟨gr,eg,rfl,et⟩:=EA e;rw[cY,dJ,et,jr]at WI;refine⟨rfl,?_⟩;refine qg (c:=gr.1==z) (λg=>λp2 WG=>?_) (λg=>?_)
   .have g:gr.1=z:=At g;have hn:(l.groups.take pre.length).find? (λg=>decide (g.1=z))=Db:=fW.mpr λu hu eu=>by
     obtain⟨i,hi,ei⟩:=fM hu;have X3:i<pre.length/\i<l.groups.length:=by rw[fh]at hi;omega
     rw[ly]at ei;have:=B9 (f:=λp:ud=>p.1) (fD.mp rd.ok.nd).2.1 (by rw[cX X3.2,ei]) eg ((fv eu).trans g.symm);omega
    refine WI _ _ ⟨s1.trans (.new WG),p2,_,_,_,?_,rfl⟩;rw[hn,List.find?_cons_of_pos (by simpa using g)];exact pz
   .refine WI _ _ ⟨s1,p,_,_,_,?_,rfl⟩;rw[List.find?_cons_of_neg (by simpa using g),List.find?_nil,Option.or_none];exact lp
  .rintro U M' ⟨s1,p,y5,y6,y7,lp,rfl⟩
   rw[cV,eS]at lp;exact h _ _ ⟨s1,p,_,_,_,lp,rfl⟩
 clear lp t hp
 rintro U M2 ⟨s2,p,y5,y6,y7,lp2,rfl⟩
 refine i' (s2.lst m1) ?_;refine uc (l.mF.map qD) (λpre U M'=>qo M2 M'/\(∀v∈l.mF.take pre.length,v.1∉sQ l V c z)/\∃y5 y6 y7 y8 y9,U=[Fa (.ref A.b),Fa (.tup [.ref r1,.ref r2,.ref r3]),Fa (.str c),Fa (.str z),Fa (.ref p),y5,y6,y7,y8,y9]) (λ_ _ M' j=>(s2.trans j.1).lst m1) _ [] _ _ rfl ⟨.refl,(λd hd=>by cases hd),_,_,_,_,_,rfl⟩ ?_ ?_
 .rintro pre d post e U M' ⟨sM,Xr,y5,y6,y7,y8,y9,rfl⟩ Zl WI
  have W0:=rd.sub (s2.trans sM);obtain⟨v,ev,rfl,et⟩:=EA e;rw[cY,dJ,et]at WI;have skip:∀M3,qo M2 M3->v.1∉sQ l V c z->Zl [Fa (.ref A.b),Fa (.tup [.ref r1,.ref r2,.ref r3]),Fa (.str c),Fa (.str z),Fa (.ref p),Fa (.str v.1),y6,y7,Fa (.int v.2.1),Fa (.int v.2.2)] M3:=λM3 s3 h=>WI _ _ ⟨s3,λu hu=>(dR.mp hu).elim (Xr u) λz1=>by rw[dg.mp z1];exact h,_,_,_,_,_,rfl⟩;refine⟨rfl,i' (sM.lst lp2) ⟨rfl,qe _,?_⟩⟩;show if inD (.str v.1) ((l.mE z).map D.str)=pc then _ else _
  rw[show inD (.str v.1) ((l.mE z).map D.str)=hasS (l.mE z) v.1 from rG ..];refine qg (c:=hasS (l.mE z) v.1) (λh1=>?_) (λh1=>skip _ sM λe=>h1 (qz.mpr (eQ.mp e).1));refine qg (c:=!(v.1==c)) (λh2=>?_) (λh2=>skip _ sM λe=>h2 (kq.mp (eQ.mp e).2).1);have ef:sZ l V v.1=decide ((uk V v.1:Int)<v.2.1):=by unfold sZ;rw[GF (J8 rd.ok (qJ ev))]
  refine o9 W0.bd.at_ (i' rfl (i' W0.bd.ca ?_));have WX:=rd.k;refine vj (A.cs.map λk=>D.ref k.p) (λpre acc U M2=>M'=M2/\acc.length=((V.calls.take pre.length).filter (·.hasB v.1)).length/\∃y,U=[y,Fa (.str v.1)]) (λ_ _ _ M' j=>by rw[<-j.1];exact W0.bd.ca) _ [] [] _ _ rfl ?_ ⟨rfl,rfl,Db,rfl⟩ ?_ ?_
  .rw[cV,rd.bd.len];simp only[dO];omega
  .rintro pre d post e acc U _ ⟨rfl,ha,y,rfl⟩ k k2 hk XN
   obtain⟨ka,c0,e3,e2,rfl,hc,et⟩:=yZ W0.bd e;rw[cY,dJ,et,iB]at hk XN;refine⟨_,ka,c0,v.1,rfl,hc,(wf.ok _ c0 e2).sh,?_⟩;refine qg (c:=c0.hasB v.1) (λg=>?_) (λg=>?_)
   .refine hk _ _ _ ⟨rfl,?_,_,rfl⟩;rw[cY,cY,ha,gR (by exact g)];rfl
   .refine XN _ _ ⟨rfl,?_,_,rfl⟩;rw[cY,ha,gS (by exact g)];rfl
  .rintro acc U _ ⟨rfl,ha,y,rfl⟩ p2 WG
   rw[cV,rd.bd.len,eS]at ha;have ha:acc.length=uk V v.1:=ha;refine i' pz ?_;rw[ha];refine qg (c:=decide ((uk V v.1:Int)<v.2.1)) (λh3=>?_) (λh3=>?_)
   .have hm:v.1∈sQ l V c z:=eQ.mpr ⟨qz.mp h1,by rw[ef,h3,h2];rfl⟩;have eb:tN l V c z=lf:=by
     unfold tN;cases hr:sQ l V c z with
     | nil=>rw[hr]at hm;cases hm
     | cons=>rfl
    rw[eb]at q;exact⟨M,s2.trans (sM.trans (.new WG)),q⟩
   .refine skip _ (sM.trans (.new WG)) λe=>h3 ?_;rw[<-ef];exact(kq.mp (eQ.mp e).2).2
 .rintro U M' ⟨sM,W1,y5,y6,y7,y8,y9,rfl⟩
  rw[cV,eS]at W1;have eb:tN l V c z=pc:=by
   unfold tN;cases hr:sQ l V c z with
   | nil=>rfl
   | cons x r=>
    have hx:x∈sQ l V c z:=by rw[hr];exact dN
    obtain⟨v,hv,rfl⟩:=dD.mp (((rd.ok.of hz).1.2.2.2) x (eQ.mp hx).1);exact absurd hx (W1 v hv)
  rw[eb]at q;exact⟨M,s2.trans sM,q⟩
def Ow:Fq P w K mg base 1 a.bw OV:=by
 refine fq G.bw.toDG GD (λr u=>⟨_,(oZ (pk (rV (pN Js rfl G.cE Dg (rW y0 (TM rfl G.cF Pa))) (rJ (pR u y0 U1))))),?_⟩)
 rintro ds M Q ⟨x,rfl,q⟩
 refine⟨λC z=>(by cases z),i' G.cB (JL ⟨M,.refl,?_⟩)⟩;show Q (.bl (x==x)) M;rw[fi];exact q
def JC{x:Uf}{c:uR}(st:qQ A M A' M')(h:x∉A.foot)(hx:M x=Fa c):x∉A'.foot:=λz=>by
 rcases st.2.1 x z with y|y
 .exact h y
 .rw[hx]at y;cases y
noncomputable def MA(A:tM)(M:Mp):Mp:=λx=>if x∈A.foot then Db else M x
def NZ{A:tM}{x:Uf}{ds:T0 D}(h:oK M x=Fa ds)(n:x∉A.foot):oK (MA A M) x=Fa ds:=sJ (by unfold MA;rw[de n];exact qm h)
structure Lp(a:Ad)(M0 N M:Mp)(b:Uf)(A:tM)(V:qu)(l:pC)(m:Nat):Prop where
 cu:ux a M0 M b A V l (1+m) (3+2200*m)
 wf:WF l V
 ps:V.ps.length<=3
 own:∀x c,N x=Fa c->M x=Fa c/\x∉A.foot
variable {N:Mp}{m:Nat}
def Lp.s(g:Lp a M0 N M b A V l m):qo N M:=λx c e=>(g.own x c e).1
def Lp.sub(g:Lp a M0 N M b A V l m)(s:qo M M'):Lp a M0 N M' b A V l m:=⟨g.cu.sub s,g.wf,g.ps,λx c e=>⟨s x c (g.own x c e).1,(g.own x c e).2⟩⟩
def Lp.ni(g:Lp a M0 N M b A V l m):Lp a M0 N M b A V l (m+1):=⟨g.cu.mono (by omega) (by omega),g.wf,g.ps,g.own⟩
def Lp.after{e:tQ}(g:Lp a M0 N M b A V l m)(hm:m<=63)(f:e.nq)(hr:xi l V e=Db)(cu:ux a M0 M' b A' (qC V (vw l V e)) l (1+m+1) (3+2200*m+40+33*(1+m)))(st:qQ A M A' M'):Lp a M0 N M' b A' (qC V (vw l V e)) l (m+1):=⟨cu.mono (by omega) (by omega),TH g.cu.ok g.wf f hr,by rw[Ut g.cu.ok g.wf f hr];exact g.ps,λx c h=>⟨st.1 x c (g.own x c h).2 (g.own x c h).1,JC st (g.own x c h).2 (g.own x c h).1⟩⟩
def Lp.rd(g:Lp a M0 N M b A V l m)(hm:m<=64):Rd a M A V l:=g.cu.rd (by omega) g.wf
def Lp.mk0(cu:ux a M0 M b A V l 1 3)(wf:WF l V)(ps:V.ps.length<=3):Lp a M0 (MA A M) M b A V l 0:=⟨cu,wf,ps,λx c e=>by
 unfold MA at e;split at e
 .cases e
 .rename_i h;exact⟨e,h⟩⟩
def Lp.start{b p:Uf}{A:tM}(ok:rf l)(pl:sY a M0 p l)(hb:M0 b=Db)(eb:A.b=b)(kp:sm b (pB M0 b (.ins a.c [])) M)(fr:∀x∈A.foot,x=b\/pB M0 b (.ins a.c []) x=Db)(bd:pH a M A (V0 p h l [])):ux a M0 M b A (V0 p h l []) l 1 3/\WF l (V0 p h l [])/\(V0 p h l []).ps.length<=3:=by
 have t:=qo.new (c:=.ins a.c []) hb;refine⟨⟨bd,pl,λx c e=>kp x c (Nx e hb) (t x c e),λx hx=>?_,eb,⟨eZ _,eZ _,eZ _,Dz ok,λk hk=>by cases hk⟩,ok,cV ..⟩,UU ok,Dz ok⟩;rcases fr x hx with z|z
 .rw[z];exact hb
 .exact t.none z
noncomputable def vo(vs:List sN):T0 (Str×Int):=vs.map λv=>(v.1,v.2.2)
def Gp(l:pC)(x:Str):uL (rK (vo l.mF)) (.inr x)=(l.mV x).map λv=>D.int v.2.2:=by unfold rK vo;rw[eA];exact wB (λp:sN=>p.1) (λp=>D.int p.2.2) x l.mF
def Lk{l:pC}(nd:l.pn.Nodup){n:Nat}{v:sN}(h:l.mF[n]?=Fa v):zY (vo (l.mF.take n)) v.1 v.2.2=vo (l.mF.take (n+1)):=by
 unfold zY;rw[de]
 .unfold vo;rw[gv,h,dU];rfl
 .intro z;obtain⟨p,hp,e⟩:=gj.mp z;obtain⟨u,hu,rfl⟩:=dD.mp hp;have e:u.1=v.1:=fv e;obtain⟨i,hi,ei⟩:=fM hu;have X3:i<n/\i<l.mF.length:=by rw[fh]at hi;omega
  have ei:l.mF[i]?=Fa u:=by rw[ly]at ei;rw[cX X3.2,ei]
  have:=B9 (f:=λp:sN=>p.1) nd ei h e;omega
theorem Gq{α:Type}(p:α->Bool):∀cs:List α,(cs.findIdx? p).bind (cs[·]?)=cs.find? p
 | []=>rfl
 | c::r=>by
  rw[kW,fA];cases p c with
  | true=>rfl
  | false=>rw[<-Gq p r];cases r.findIdx? p<;>rfl
def Ko{V:qu}{z:Str}:(vE V z).bind (V.calls[·]?)=V.calls.find? λc=>c.mM z:=Gq _ _
def PH{f m h:Int}(f0:0<=f/\f<=23)(m0:0<=m/\m<=23)(n:f≠m)(h0:0<=h/\h<=23):decide ((h - f) % 24<(m - f) % 24)=yd f m h:=by unfold yd;split<;>(rw[fH];simp only[eC,dY,gH];omega)
def JI(a:Ad):qY:=λds M Q=>QP λA V l r1 r2 r3 x c z=>ds=[.ref (tM.b A),.tup [.ref r1,.ref r2,.ref r3],.str x,.str c,.str z]/\oK M r1=Fa (pC.mF l|>.map qD)/\oK M r2=Fa (l.groups.map qL)/\Rd a M A V l/\WF l V/\x∈l.pn/\z∈l.nm/\Q (.bl (Bq l V x c z)) M
def JU:qY:=λds M Q=>De λh f m=>ds=[.int h,.int f,.int m]/\Q (.bl (decide ((h - f) % 24<(m - f) % 24))) M
def OI(a:Ad):qY:=λds M Q=>JY λA V l r1 r2 r3 wi c z h=>ds=[.ref (tM.b A),.tup [.ref r1,.ref r2,.ref r3],.tup (Wi.told wi),.str c,.str z,.int h]/\oK M r1=Fa (pC.mF l|>.map qD)/\oK M r2=Fa (l.groups.map qL)/\Rd a M A V l/\WF l V/\z∈l.nm/\zR l.pn l.nm wi/\(h=(V.h+V.t) % 24)/\Q (.bl (zD l V c z wi)) M
def Kc:Fq P w K mg base 3 a.bt (JI a):=by
 refine fq G.bt.toDG rR (λr u=>⟨_,(oY (pG 5 rR P8)
 (oY (sT eK rfl (qv (pF U1 pb)) (tO (n:=3) rfl (pV (qI 6 rR) (pV (qI 7 rR) (pV (qI 8 rR) sv))))
 (oZ (IT u v5 v6 v8)))
 (oY (pJ (W3.b3 (vC (pA u U3 U2) (vC (pA u v4 U2) (vC (Jx u v4 v5) (vk (we (uB (pE (Cf G) r G.Q (pP y0 (qV U1 U3 v4))))))))))
 (oZ (pk tL))
 pD)
 (oY (sT eK rfl (qv (pq y0)) (qI 9 rR)
 (oZ (pJ (W3.b3 (vY (pA u (pq v9) pf) (vd (pA u v4 (pq v9)))))
 (oZ (pk (rV (pR u (pN ql rfl G.g qh (qd (pq v9))) pb) (rJ (pR u (pN (OH rfl) rfl G.cH Sx (qd (qE rfl (xw (ix:=[Db,Fa 5]) (N':=["_law_name","_law_ranks"])) (qv (pq v9)) (qB 0) rP (wJ u U1 y0)))) (wJ u v5 U2))))))
 pD)))
 (oZ (pk tL)))))),?_⟩)
 rintro ds M Q ⟨A,V,l,r1,r2,r3,x,c,z,rfl,m1,m2,rd,wf,hx,Xb,q⟩
 have nd:l.pn.Nodup:=(fD.mp rd.ok.nd).1;have hms:∀k∈V.calls,k.ms.length<=100:=λk hk=>(rd.ms k hk).2;have Zf:=dP;refine λpd hpd=>?_;have t0:=qo.new (c:=.dk []) hpd;have d0:yA (pB M pd (.dk [])) pd=Fa []:=Ao pL;generalize pB M pd (.dk [])=M0 at t0 d0 ⊢;dsimp only[rT];refine Hh (t:=RH _ _ _) (λU M'=>qo M M'/\yA M' pd=Fa (rK (vo l.mF))/\∃y6 y7 y8,U=[Fa (.ref A.b),Fa (.tup [.ref r1,.ref r2,.ref r3]),Fa (.str x),Fa (.str c),Fa (.str z),Fa (.ref pd),y6,y7,y8,Db]) (λnx h=>?_) ?_
 .refine i' (t0.lst m1) ?_;refine uc (l.mF.map qD) (λpre U M'=>qo M M'/\yA M' pd=Fa (rK (vo (l.mF.take pre.length)))/\∃y6 y7 y8,U=[Fa (.ref A.b),Fa (.tup [.ref r1,.ref r2,.ref r3]),Fa (.str x),Fa (.str c),Fa (.str z),Fa (.ref pd),y6,y7,y8,Db]) (λ_ _ M' j=>j.1.lst m1) _ [] _ _ rfl ⟨t0,d0,Db,Db,Db,rfl⟩ ?_ ?_
  .rintro pre d post e U M' ⟨sM,dM,y6,y7,y8,rfl⟩ Zl WI
   have hd:(l.mF.map qD)[pre.length]?=Fa d:=by rw[<-e];simp
   rw[dF]at hd;cases ev:l.mF[pre.length]? with
   | none=>rw[ev]at hd;cases hd
   | some v=>rw[ev]at hd;have hd:qD v=d:=dv hd;subst hd;have lp:=rd.ok.p8;rw[cY,dJ]at WI;refine⟨rfl,i' dM ⟨by unfold rK vo;rw[cV,cV,fh];omega,?_⟩⟩;rw[B4,Lk nd ev];refine WI _ _ ⟨λy cc hy=>?_,Ao pL,_,_,_,rfl⟩;rw[tZ (Nx hy hpd)];exact sM y cc hy
  .rintro U M' ⟨sM,dM,y6,y7,y8,rfl⟩
   rw[cV,eS]at dM;exact h _ _ ⟨sM,dM,_,_,_,rfl⟩
 rintro U M1 ⟨s1,d1,y6,y7,y8,rfl⟩
 have Xv:=rd.sub s1;have WB:∀(b:Bool) (M2:Mp),qo M M2->Bq l V x c z=b->∃WC,qo WC M2/\Q (.bl b) WC:=λb M2 s e=>⟨M,s,e ▸ q⟩;have Yf:(uL (rK (vo l.mF)) (.inr z)).isSome=hasS l.pn z:=by
  rw[Gp,gY,fH,qz];constructor
  .intro h;obtain⟨v,hv⟩:=io.mp h;unfold pC.mV at hv;have h1:v.1=z:=by simpa using iW hv
   exact h1 ▸ dD.mpr ⟨v,fL hv,rfl⟩
  .intro h;obtain⟨v,hv⟩:=uC h;rw[hv];rfl
 refine Hh (t:=KH _ _ _) (λU M'=>M1=M'/\Bq l V x c z=((V.calls.find? λc=>c.mM z).elim lf λk=>(k.ms.length==2)&&Cz l x k.ms)/\U=[Fa (.ref A.b),Fa (.tup [.ref r1,.ref r2,.ref r3]),Fa (.str x),Fa (.str c),Fa (.str z),Fa (.ref pd),y6,y7,y8,Db]) (λnx h=>?_) ?_
 .unfold Bq at WB h;refine qg (c:=!(c==x)) (λh1=>WB lf _ s1 (by rw[h1];rfl)) (λh1=>?_);refine qg (c:=z==x) (λh2=>WB lf _ s1 (by rw[h2];simp)) (λh2=>?_);refine i' d1 ?_;show if (!(uL (rK (vo l.mF)) (.inr z)).isSome)=pc then _ else _
  rw[Yf];rw[show(!(c==x))=lf from dB.mpr h1,show(z==x)=lf from dB.mpr h2]at WB h;refine qg (c:=!(hasS l.pn z)) (λh3=>WB lf _ s1 (by rw[h3];rfl)) (λh3=>?_);have hz:z∈l.pn:=qz.mp (by simpa using h3);rw[show(!(hasS l.pn z))=lf from dB.mpr h3]at WB h;refine⟨A,V,l,r1,r2,r3,c,z,rfl,s1.lst m1,s1.lst m2,Xv,wf,Xb,?_⟩;refine qg (c:=!(tN l V c z)) (λh4=>WB lf _ s1 (by rw[h4];rfl)) (λh4=>?_);refine h _ _ ⟨rfl,?_,rfl⟩;rw[show(!(tN l V c z))=lf from dB.mpr h4,Ko];rfl
 rintro U _ ⟨rfl,ef,rfl⟩
 rw[ef]at WB;have gk:∀y∈l.pn,uL (rK (vo l.mF)) (.inr y)=Fa (.int (tW l y)):=λy hy=>by obtain⟨v,hv⟩:=uC hy;rw[Gp,hv,E4 hv];rfl
 refine o9 Xv.bd.at_ (i' rfl (i' Xv.bd.ca ?_));refine uc (A.cs.map λk=>D.ref k.p) (λpre U M'=>M1=M'/\(∀k∈V.calls.take pre.length,k.mM z=lf)/\∃y9,U=[Fa (.ref A.b),Fa (.tup [.ref r1,.ref r2,.ref r3]),Fa (.str x),Fa (.str c),Fa (.str z),Fa (.ref pd),y6,y7,y8,y9]) (λ_ _ M' j=>by rw[<-j.1];exact Xv.bd.ca) _ [] _ _ rfl ⟨rfl,(λk hk=>by cases hk),Db,rfl⟩ ?_ ?_
 .rintro pre d post e U M' ⟨rfl,Xr,y9,rfl⟩ Zl WI
  obtain⟨ka,k,e1,e2,rfl,hc,et⟩:=yZ Xv.bd e;obtain⟨ad,md,f1,f2,f3,f4,_⟩:=hc;rw[cY,dJ,et]at WI;have skip:k.mM z=lf->Zl [Fa (.ref A.b),Fa (.tup [.ref r1,.ref r2,.ref r3]),Fa (.str x),Fa (.str c),Fa (.str z),Fa (.ref pd),y6,y7,y8,Fa (.ref ka.p)] M1:=λh=>WI _ _ ⟨rfl,λk' YK=>by
   rcases dR.mp YK with w1|w1
   .exact Xr k' w1
   .rw[dg.mp w1];exact h,_,rfl⟩
  refine o9 f1 (i' rfl ?_);refine qg (c:=k.st=="talks") (λh1=>?_) (λh1=>skip (by unfold pj.mM;rw[show(k.st=="talks")=lf from dB.mpr h1];rfl));refine o9 f1 (i' rfl (i' f4 ⟨rfl,qe k.ms,?_⟩));show if inD (.str z) (k.ms.map D.str)=pc then _ else _
  rw[rG];refine qg (c:=hasS k.ms z) (λh2=>?_) (λh2=>skip (by unfold pj.mM;rw[show hasS k.ms z=lf from dB.mpr h2,Bool.and_false]));have tk:k.mM z=pc:=by unfold pj.mM;rw[h1,h2];rfl
  have tc:(V.calls.find? λc=>c.mM z)=Fa k:=by
   have hv:V.calls=V.calls.take pre.length++k::V.calls.drop (pre.length+1):=by rw[show k::V.calls.drop (pre.length+1)=[k]++V.calls.drop (pre.length+1)from rfl,<-fj,<-et,List.take_append_drop]
   rw[hv,jr,show(V.calls.take pre.length).find? (λc=>c.mM z)=Db from fW.mpr λk' YK=>by rw[Xr k' YK];exact dC,l0,fA,tk]
  rw[tc]at WB;have WB:∀(b:Bool) (M2:Mp),qo M M2->((k.ms.length==2)&&Cz l x k.ms)=b->∃WC,qo WC M2/\Q (.bl b) WC:=WB;have kms:=(wf.ok _ k e2).ms;have k100:=hms k (qJ e2);refine o9 f1 (i' rfl (i' f4 ?_));have el:((((k.ms.map D.str).length:Nat):Int)==2)=(k.ms.length==2):=by rw[cV,fH,fk,fk];omega
  show if ((((k.ms.map D.str).length:Nat):Int)==2)=pc then _ else _
  rw[el];refine qg (c:=k.ms.length==2) (λh5=>?_) (λh5=>WB lf _ s1 (by rw[show(k.ms.length==2)=lf from dB.mpr h5];rfl));rw[h5]at WB;refine o9 f1 (i' rfl (i' f4 (qR (f:=λd=>match d with|.str m=>.int (tW l m)|_=>.mL) f4 _ [] _ (by rw[cV];show 0+k.ms.length<=Ch;omega) (λd hd k0 hk=>?_) λp1 Yj=>?_)))
  .obtain⟨m,hmm,rfl⟩:=dD.mp hd;exact i' d1 (i' (gk m (kms m hmm)) hk)
  .have em:[]++(k.ms.map D.str).map (λd=>match d with|.str m=>.int (tW l m)|_=>.mL)=(k.ms.map (tW l)).map D.int:=by rw[d6,eA,eA];rfl
   rw[em];have t:=qo.new (c:=.lst ((k.ms.map (tW l)).map D.int)) Yj;refine⟨k.ms.map (tW l),pz,by rw[cV];have:=At h5;omega,λm hm Zg=>?_⟩;refine i' (t.dk d1) (i' (gk x hx) (WB _ _ (s1.trans t) ?_));show Cz l x k.ms=decide (m<tW l x);unfold Cz;rw[fH,eU,eC];constructor
   .intro h;obtain⟨y,hy,rfl⟩:=dD.mp hm;exact fv (h y hy)
   .intro h y hy;exact dX (Int.lt_of_le_of_lt (Zg _ (dD.mpr ⟨y,hy,rfl⟩)) h)
 .rintro U M' ⟨rfl,W1,y9,rfl⟩
  rw[cV,Xv.bd.len,eS]at W1;refine WB lf _ s1 ?_;rw[fW.mpr λk hk=>by rw[W1 k hk];exact dC];rfl
def Jm:Fq P w K mg base 1 a.bu JU:=by
 refine fq G.bu.toDG CJ (λr u=>⟨_,(oZ (pk (pR u (pQ (pQ y0 U1) pb) (pQ (pQ U2 U1) pb)))),?_⟩)
 rintro ds M Q ⟨h,f,m,rfl,q⟩
 exact⟨by decide,by decide,M,.refl,q⟩
def N0:Fq P w K mg base 4 a.bv (OI a):=by
 refine fq G.bv.toDG vF (λr u=>⟨_,(oY (pG 6 vF (pF U2 pb))
 (oY (pJ (pA u v6 pf)
 (oZ (pk (rV (pR u U3 (pF U2 pb)) (rJ (pR u v4 (pF U2 pb))))))
 pD)
 (oY (pJ (pA u v6 pf)
 (oZ (pk (pE (Kc G) r G.bt (pP y0 (pP U1 (qV (pF U2 pb) U3 v4))))))
 pD)
 (oY (pJ (W3.b3 (vC (pA u v4 (pF U2 pb)) (vk (pA u v6 pf))))
 (oZ (pk tL))
 pD)
 (oY (pJ (pA u v6 pf)
 (oZ (pk (pR u U3 (pF U2 pb))))
 pD)
 (oY (pJ (pA u v6 pf)
 (oZ (pk (pE (Jm G) r G.bu (qV v5 (pF U2 pb) (pF U2 pb)))))
 pD)
 (oY (pJ (pA u v6 pf)
 (oZ (pk (pE (Cf G) r G.Q (pP y0 (qV U1 U3 v4)))))
 pD)
 (oY (pJ (pA u v6 pf)
 (oY (uE (i:=7) vF.nd rfl (Or.inl rfl) rfl (xw (ix:=[Db,Fa 4]) (N':=["_law_call","_law_target"])) (qv (pq y0)) (qB 0) (uQ (W3.b3 (vY (pA u (pq y0) pf) (vd (pA u (pq y0) (qK (qd U1))))))) y0)
 (oZ (pk (rV (pR u U3 v4) (rV (pE (Cf G) r G.Q (pP y0 (qV U1 U3 v4))) (rJ (pR u (pN ql rfl G.g qh (qd v7)) pb)))))))
 pD)
 (oZ (pk tL)))))))))),?_⟩)
 rintro ds M Q ⟨A,V,l,r1,r2,r3,wi,c,z,h,rfl,m1,m2,rd,wf,Xb,wo,hh,q⟩
 have Zf:=dP;have WB:∀b M2,qo M M2->zD l V c z wi=b->∃WC,qo WC M2/\Q (.bl b) WC:=λb M2 s e=>⟨M,s,e ▸ q⟩;clear q;have zx:∀x:Str,¬((!(z==x))=pc)->(z==x)=pc:=λx g=>by
  cases hx:(z==x)with
  | true=>rfl
  | false=>rw[hx]at g;exact absurd rfl g
 cases wi with
 | bar x ns=>
  refine qg (c:=c==x) (λg=>?_) (λg=>?_)
  .refine⟨rfl,qe _,?_⟩;rw[rG];exact WB _ M .refl (by show((c==x)&&hasS ns z)=_;rw[g];rfl)
  .exact WB _ M .refl (by show((c==x)&&hasS ns z)=_;rw[dB.mpr g];rfl)
 | shut x ns=>refine qg (c:=!(z==x)) (λg=>WB lf M .refl (by show((z==x)&&hasS ns c)=_;rw[show(z==x)=lf by simpa using g];rfl)) (λg=>?_);refine⟨rfl,qe _,?_⟩;rw[rG];exact WB _ M .refl (by show((z==x)&&hasS ns c)=_;rw[zx x g];rfl)
 | always x y=>refine qg (c:=!(z==x)) (λg=>WB lf M .refl (by show(z==x)=_;simpa using g)) (λg=>?_);exact WB pc M .refl (zx x g)
 | night x y f m=>refine qg (c:=!(z==x)) (λg=>WB lf M .refl (by show((z==x)&&_)=_;rw[show(z==x)=lf by simpa using g];rfl)) (λg=>?_);refine⟨h,f,m,rfl,WB _ M .refl ?_⟩;show((z==x)&&yd f m ((V.h+V.t) % 24))=_;rw[zx x g,PH wo.2.2.2.1 wo.2.2.2.2.1 wo.2.2.2.2.2 (by rw[hh];omega),hh];rfl
 | busy x y=>refine qg (c:=!(z==x)) (λg=>WB lf M .refl (by show((z==x)&&_)=_;rw[show(z==x)=lf by simpa using g];rfl)) (λg=>?_);exact⟨A,V,l,r1,r2,r3,c,z,rfl,m1,m2,rd,wf,Xb,WB _ M .refl (by show((z==x)&&tN l V c z)=_;rw[zx x g];rfl)⟩
 | silent x y n=>exact qg (c:=!(z==x)) (λg=>WB lf M .refl rfl) (λg=>WB lf M .refl rfl)
 | wait x=>
  refine qg (c:=!(z==x)) (λg=>WB lf M .refl (by show(if (!(z==x)||(c==x))=pc then lf else _)=lf;rw[g];rfl)) (λg=>?_);have zx':=At (zx x g);subst zx';have WX:=rd.k;have ff:∀b M2,qo M M2->(if (c==z)=pc then lf else tN l V c z&&!(wC V z))=b->∃WC,qo WC M2/\Q (.bl b) WC:=λb M2 s e=>WB b M2 s (by
   show(if (!(z==z)||(c==z))=pc then lf else tN l V c z&&!(wC V z))=b;rw[fi];exact e)
  refine o9 rd.bd.at_ (i' rfl (i' rd.bd.ca ?_));refine vj (A.cs.map λk=>D.ref k.p) (λpre acc U M2=>qo M M2/\(acc≠[]↔(V.calls.take pre.length).any (·.mK z)=pc)/\∃y,U=[y,Fa (.str z)]) (λ_ _ _ M' j=>j.1.lst rd.bd.ca) _ [] [] _ _ rfl ?_ ⟨.refl,by simp,Db,rfl⟩ ?_ ?_
  .rw[cV,rd.bd.len];simp only[dO];omega
  .rintro pre d post e acc U M1 ⟨s1,ha,y,rfl⟩ k k2 hk XN
   obtain⟨ka,c0,e3,e2,rfl,hc,et⟩:=yZ (rd.sub s1).bd e;rw[cY,dJ,et,jT]at hk XN;have no:c0.mK z=lf->∀M2 δ2,qo M M2->(∃y,δ2=[y,Fa (.str z)])->k2 δ2 M2:=λh M2 δ2 s2 hd=>XN _ _ ⟨s2,by rw[ha];simp[h],hd⟩;have sh:=(wf.ok _ c0 e2).sh;obtain⟨ad,md,h1,h2,h3,h4,_⟩:=hc;refine o9 h1 (i' rfl ?_);refine qg (c:=c0.st=="waits") (λg=>?_) (λg=>C5 (no (by unfold pj.mK;rw[dB.mpr g];rfl) _ _ s1 ⟨_,rfl⟩));refine o9 h1 (i' rfl ⟨oW rfl,λp2 WG=>?_⟩);obtain⟨x,ex⟩:∃x,c0.at_=[x]:=by
    have g:c0.st="waits":=At g;rcases sh with⟨e,_⟩|⟨_,⟨_,_,_,_,e⟩|⟨e,_⟩|⟨_,e,_⟩|⟨e,_⟩⟩
    .rw[g]at e;exact absurd e (by decide+kernel)
    .match Zz:c0.at_,e with
     | [x],_=>exact⟨x,rfl⟩
    .rw[g]at e;exact absurd e (by decide+kernel)
    .rw[g]at e;exact absurd e (by decide+kernel)
    .rw[g]at e;exact absurd e (by decide+kernel)
   have t:=qo.new (c:=.lst [D.str z]) WG;have s2:=s1.trans t;have ew:c0.mK z=(x==z):=by unfold pj.mK hasS;rw[g,ex,fX,mv,jj,eI]
   rw[ex]at h3;have ee:zU (pB M1 p2 (.lst [D.str z])) 9 (.ref ad) (.ref p2)=Fa (x==z):=by show(oK _ _).bind (λi=>(oK _ p2).bind λj=>if i.length=j.length then sF (zU _ 8) i j else Fa lf)=_;rw[t.lst h3,pz];show Fa ((x==z)&&pc)=_;rw[me]
   refine i' ee ?_;refine qg (c:=x==z) (λg2=>hk _ _ _ ⟨s2,?_,_,rfl⟩) (λg2=>no (ew.trans (dB.mpr g2)) _ _ s2 ⟨_,rfl⟩);simp[ew,g2]
  .rintro acc U M1 ⟨s1,ha,y,rfl⟩ p2 WG
   rw[cV,rd.bd.len,eS]at ha;have t:=qo.new (c:=.lst acc) WG;have lp:=@pz M1 p2 acc;have s2:=s1.trans t;generalize pB M1 p2 (.lst acc)=M2 at lp s2 ⊢;dsimp only[rT];refine qg (c:=!(c==z)) (λg1=>?_) (λg1=>?_)
   .have g1:(c==z)=lf:=by simpa using g1
    rw[g1]at ff;refine⟨A,V,l,r1,r2,r3,c,z,rfl,s2.lst m1,s2.lst m2,rd.sub s2,wf,Xb,?_⟩;refine qg (c:=tN l V c z) (λg2=>?_) (λg2=>ff _ _ s2 (by rw[dB.mpr g2];rfl));refine i' lp (ff _ _ s2 ?_);rw[g2];show(!(wC V z))=(((acc.length:Nat):Int)==0);have e:wC V z=!(((acc.length:Nat):Int)==0):=by
     unfold wC;cases acc with
     | nil=>
      cases h:V.calls.any (·.mK z)with
      | false=>rfl
      | true=>exact absurd rfl (ha.mpr h)
     | cons d r=>rw[ha.mp (by simp)];rw[eB];symm;rw[gw,fV];omega
    rw[e,Bool.not_not]
   .have g1:(c==z)=pc:=by
     cases hx:(c==z)with
     | true=>rfl
     | false=>rw[hx]at g1;exact absurd rfl g1
    rw[g1]at ff;exact ff lf _ s2 rfl
 | breaks x=>exact⟨A,V,l,r1,r2,r3,x,c,z,rfl,m1,m2,rd,wf,qz.mp wo,Xb,WB _ M .refl rfl⟩
def D0(v:Wi):AB 8 (.tup v.told)=pc:=by
 have t:∀ss:QQQ,AB 7 (names ss)=pc:=λss=>DF 6 ss;cases v with
 | bar x ns=>show([D.str "bar",.str x,names ns].all (AB 7))=pc;simp only[fS,t];rfl
 | shut x ns=>show([D.str "shut",.str x,names ns].all (AB 7))=pc;simp only[fS,t];rfl
 | _=>rfl
theorem LA{α β:Type}{f:α->D}{g:β->D}:∀{xs:List α} {ys:List β} {pre post:T0 D} {d:D},xs.length=ys.length->pre++d::post=xS (xs.map f) (ys.map g)->∃x y,xs[pre.length]?=Fa x/\ys[pre.length]?=Fa y/\d=.tup [f x,g y]
 | [],[],pre,post,d,_,e=>by cases pre<;>cases e
 | x::xs,y::ys,[],post,d,_,e=>by cases e;exact⟨x,y,rfl,rfl,rfl⟩
 | x::xs,y::ys,p::pre,post,d,h,e=>by have e:p::(pre++d::post)=.tup [f x,g y]::xS (xs.map f) (ys.map g):=e;exact LA (xs:=xs) (ys:=ys) (pre:=pre) (Nat.succ.inj h) (gL e).2
def KJ(a:Ad):qY:=λds M Q=>QP λA V l r1 r2 r3 ro rn h=>ds=[.ref (tM.b A),.tup [.ref r1,.ref r2,.ref r3],.ref ro,.ref rn,.int h]/\oK M r1=Fa (pC.mF l|>.map qD)/\oK M r2=Fa (l.groups.map qL)/\oK M r3=Fa (l.mG.map uz)/\oK M ro=Fa (l.pn.map D.str)/\oK M rn=Fa (l.nm.map D.str)/\Rd a M A V l/\WF l V/\(h=(V.h+V.t) % 24)/\Q (.bl pc) M
def L1:Fq P w K mg base 8 a.bx (KJ a):=by
 refine fq G.bx.toDG sL (λr u=>⟨_,(oY (pJ (pA u (pN ql rfl G.g qh (qd (pq (pq y0)))) (pN ql rfl G.g qh (qd (pF U1 pb))))
 (oZ (pk tL))
 pD)
 (oY (sT eK rfl (P4 rfl G.b0 (rW (pq (pq y0)) (pF U1 pb))) (tO (n:=2) rfl (pV (qI 5 sL) (pV (tO (n:=2) rfl (pV (qI 6 sL) (pV (qI 7 sL) sv))) sv)))
 (oY (pJ (W3.b3 (vC (pA u (xK (R:=Fc a) v5 (HH G) (r.mono (by first|decide|omega))) v7) (vk (pA u (xK (R:=Fc a) (pE (BV G) r G.aa (qd v7)) (HH G) (r.mono (by first|decide|omega))) v7))))
 (oZ (pk tL))
 pD)
 (oZ (sT eK rfl (qv U2) (qI 8 sL)
 (oZ (sT eK rfl (qv U3) (qI 9 sL)
 (oY (pG 10 sL (pE (N0 G) r G.bv (pP y0 (pP U1 (pP v7 (qV v8 v9 v4))))))
 (oZ (pJ (we (uB (pE (Ow G) r G.bw (rW (Bl (R:=Hf a) v5 (KA G) (r.mono (by first|decide|omega)) (qV y0 v8 v9)) Vy))))
 (oZ (pk tL))
 pD)))))))))
 (oZ (pk tL)))),?_⟩)
 .rintro ds M Q ⟨A,V,l,r1,r2,r3,ro,rn,h,rfl,m1,m2,m3,lo,ln,rd,wf,hh,q⟩
  have Zf:=dP;obtain⟨ph,gr,ws,Ya,pr,gd,rs,i1,i2,i3,i4,i5,i6,i7,i8⟩:=rd.pl;refine o9 rd.bd.at_ (i' rfl (o9 i1 (i' rfl (i' i4 (i' m3 ?_)))));have e0:((((rs.map D.ref).length:Nat):Int)==((l.mG.map uz).length:Nat))=pc:=by rw[cV,cV,i8.1];exact fi _
  show if (!((((rs.map D.ref).length:Nat):Int)==((l.mG.map uz).length:Nat)))=pc then _ else _
  rw[e0];refine C5 ?_;dsimp only[UP];refine o9 rd.bd.at_ (i' rfl (o9 i1 (i' rfl (i' i4 (i' m3 ?_)))));refine uc (xS (rs.map D.ref) (l.mG.map uz)) (λpre U M'=>qo M M'/\∃y5 y6 y7 y8 y9 X5,U=[Fa (.ref A.b),Fa (.tup [.ref r1,.ref r2,.ref r3]),Fa (.ref ro),Fa (.ref rn),Fa (.int h),y5,y6,y7,y8,y9,X5]) (λ_ _ M' j=>⟨j.1.lst i4,j.1.lst m3⟩) _ [] _ _ rfl ⟨.refl,Db,Db,Db,Db,Db,Db,rfl⟩ ?_ ?_
  rotate_left
  .rintro U M' ⟨s1,_⟩
   exact⟨M,s1,q⟩
  rintro pre d post e U M' ⟨s1,y5,y6,y7,y8,y9,X5,rfl⟩ nx WI
  obtain⟨p,wm,ep,ew,rfl⟩:=LA i8.1 e;have hw:=i8.2 _ p wm ep ew;have wo:=rd.ok.wo wm (qJ ew);obtain⟨bw,wi⟩:=wm;have hw1:=s1 _ _ hw;refine⟨rfl,⟨rfl,?_⟩⟩;dsimp only[rT,yu,DU];refine Hh (t:=KH _ _ _) (λU M2=>qo M M2/\U=[Fa (.ref A.b),Fa (.tup [.ref r1,.ref r2,.ref r3]),Fa (.ref ro),Fa (.ref rn),Fa (.int h),Fa (.ref p),Fa (.bl bw),Fa (.tup wi.told),y8,y9,X5]) (λZl hh2=>?_) ?_
  .refine o9 hw1 ⟨by cases wi<;>rfl,_,⟨⟨wi,rfl⟩,rfl⟩,p,wi,rfl,hw1,?_⟩;refine i' rfl (i' (BG 8 _ (D0 wi)) (C5 ?_));refine⟨wi,rfl,λp2 WG=>?_⟩;refine o9 pL ⟨by cases wi<;>rfl,_,⟨⟨wi,rfl⟩,rfl⟩,p2,wi,rfl,pL,?_⟩;exact i' rfl (i' (BG 8 _ (D0 wi)) (C5 (hh2 _ _ ⟨s1.trans (.new WG),rfl⟩)))
  rintro U M2 ⟨s2,rfl⟩
  refine i' (s2.lst lo) (uc (l.pn.map D.str) (λpre U M3=>M2=M3/\∃y8 y9 X5,U=[Fa (.ref A.b),Fa (.tup [.ref r1,.ref r2,.ref r3]),Fa (.ref ro),Fa (.ref rn),Fa (.int h),Fa (.ref p),Fa (.bl bw),Fa (.tup wi.told),y8,y9,X5]) (λ_ _ M3 j=>by rw[<-j.1];exact s2.lst lo) _ [] _ _ rfl ⟨rfl,_,_,_,rfl⟩ ?_ ?_)
  rotate_left
  .rintro U M3 ⟨rfl,y8,y9,X5,rfl⟩
   exact WI _ _ ⟨s2,_,_,_,_,_,_,rfl⟩
  rintro pre2 d2 post2 e2 U M3 ⟨rfl,y8,y9,X5,rfl⟩ UP hnx3
  obtain⟨c,ec,rfl,_⟩:=EA e2;dsimp only[rT];refine i' (s2.lst ln) (uc (l.nm.map D.str) (λpre U M3=>M2=M3/\∃y9 X5,U=[Fa (.ref A.b),Fa (.tup [.ref r1,.ref r2,.ref r3]),Fa (.ref ro),Fa (.ref rn),Fa (.int h),Fa (.ref p),Fa (.bl bw),Fa (.tup wi.told),Fa (.str c),y9,X5]) (λ_ _ M3 j=>by rw[<-j.1];exact s2.lst ln) _ [] _ _ rfl ⟨rfl,_,_,rfl⟩ ?_ ?_)
  rotate_left
  .rintro U M3 ⟨rfl,y9,X5,rfl⟩
   exact hnx3 _ _ ⟨rfl,_,_,_,rfl⟩
  rintro pre3 d3 post3 e3 U M3 ⟨rfl,y9,X5,rfl⟩ nx4 hnx4
  obtain⟨z,ez,rfl,_⟩:=EA e3;dsimp only[rT];have Yc:=rd.sub s2;refine⟨A,V,l,r1,r2,r3,wi,c,z,h,rfl,s2.lst m1,s2.lst m2,Yc,wf,qJ ez,wo,hh,?_⟩;have hw2:=s2 _ _ hw;refine o9 hw2 ⟨by cases wi<;>rfl,_,⟨wi,rfl,rfl⟩,p,A,V,l,c,z,rfl,hw2,Yc,qJ ez,wo,?_⟩;exact⟨_,rfl,C5 (hnx4 _ _ ⟨rfl,_,_,rfl⟩)⟩
seal L3.E3 L3.B3 L3.A3 L3.S3 L3.GX
def MJ:qY:=λds M Q=>∃ns:T0 Int,ds=[.rl (ns.map D.int)]/\ns.length<=63/\Q (.bl pc) M
def Sj(V:qu)(e:Ev):(qa V e).h=V.h:=by cases e<;>rfl
theorem Qs:∀(es:T0 Ev) (V:qu),(qC V es).h=V.h
 | [],_=>rfl
 | e::r,V=>(Qs r _).trans (Sj V e)
noncomputable def tQ.isT:tQ->Bool
 | .turn=>pc
 | _=>lf
def VD{V:qu}{e:tQ}(f:e.nq)(h:xi l V e=Db):(qC V (vw l V e)).t=V.t+(if e.isT=pc then 1 else 0):=by
 cases e with
 | turn=>exact QV
 | call y z=>
  show(qC V (A9 l V y z)).t=V.t+0;rw[iR];refine I0 λe he=>?_;rcases dR.mp (show e∈[Ev.new V.calls.length y,.leg ⟨V.calls.length,y,z,y⟩]++vA l _ _ from he)with h|h
  .simp only[c9,dq,d9]at h;rcases h with rfl|rfl<;>trivial
  .exact L6 e h
 | sw b i=>exact(iR _).symm
 | num w x ns=>
  show _=V.t+0;rw[iR];obtain⟨_,no⟩:=Es f h;cases no with
  | answer i c hi hc _ _ _=>show(qC V [xt V "answer" x i.toNat]).t=V.t;rw[show xt V "answer" x i.toNat=.talks i.toNat [c.cr,x]by unfold xt;rw[hc];rfl];rfl
  | hang i c hi hc _=>
   show(qC V (vc V x i.toNat)).t=V.t;refine I0 λe he=>?_;unfold vc at he;rw[hc]at he;dsimp only[Option.elim]at he;split at he
   .rw[dg.mp he];trivial
   split at he
   .rcases c9.mp he with rfl|he
    .trivial
    .split at he
     .rw[dg.mp he];trivial
     .cases he
   split at he
   .rw[dg.mp he];trivial
   .rw[dg.mp he];trivial
  | hold i c hi hc _=>show(qC V [xt V "hold" x i.toNat]).t=V.t;rw[show xt V "hold" x i.toNat=.held i.toNat x by unfold xt;rw[hc];rfl];rfl
  | back i c hi hc _ _=>show(qC V [xt V "back" x i.toNat]).t=V.t;rw[show xt V "back" x i.toNat=.talks i.toNat c.ms by unfold xt;rw[hc];rfl];rfl
  | two _ i j c d hi hj hw hc hd _ _=>show(qC V [Bx V w x i.toNat j.toNat]).t=V.t;unfold Bx;rw[hc,hd];rfl
noncomputable def CQ(ns:T0 Int)(ys:T0 (Option D)):T0 (Option D):=some (.rl (ns.map D.int))::ys
noncomputable def zK(l:pC)(b:Bool)(o n:Str)(c:Int):List uV:=[(b,.bar o (va l.nm c 6)),(b,.shut n (va l.pn c 6))]
def OD(ok:rf l)(w10:l.mG.length<=10)(b:Bool){o n:Str}(c:Int)(ho:o∈l.pn)(hn:n∈l.nm):rf {l with mG:=l.mG++zK l b o n c}:=by
 have ndp:l.pn.Nodup:=(fD.mp ok.nd).1;have YY:l.pn≠[]:=kY ho;have Y0:l.nm≠[]:=kY hn;refine⟨ok.p1,ok.p8,ok.po,ok.g3,ok.go,ok.nd,?_,λw hw=>?_⟩
 .show(l.mG++zK l b o n c).length<=16;rw[cY];show l.mG.length+2<=16;omega
 .rcases dR.mp hw with h|h
  .exact ok.wo w h
  .rcases c9.mp h with rfl|h
   .exact⟨qz.mpr ho,xJ Y0 (by decide) (by decide),uP ok.nd Y0 (by decide) (by decide)⟩
   .rw[dg.mp h];exact⟨qz.mpr hn,xJ YY (by decide) (by decide),uP ndp YY (by decide) (by decide)⟩
def QS:Fq P w K mg base 17 a.ah MJ:=by
 refine fq G.ah.toDG ui (λr u=>⟨_,(oY (pG 1 ui (pE (ML G) r G.bl (rW y0 pb)))
 (oY (uE (i:=2) ui.nd rfl (Or.inl rfl) rfl (xw (ix:=[Db]) (N':=["_law_phone"])) (qv (pF U1 pb)) (qB 0) rP (pF y0 pb))
 (oY (pG 3 ui (pQ U2 (qE rfl (xw (ix:=[Db]) (N':=["_law_group"])) (qv (pF U1 pb)) (qB 0) rP (pF y0 pb))))
 (oY (pG 4 ui (pE (GR G) r G.F (rW y0 pb)))
 (oY (pG 5 ui (pR u (pE (qF G) r G.i (qV v4 pb pb)) pb))
 (oY (pG 6 ui (qK (rW (pI (rW v5 (pI (qV pf (pF U2 pb) (pE (vS G) r G.H (qV U3 v4 pb)))))) (pI (rW v5 (pI (qV pf (pF U3 (BK pb)) (pE (vS G) r G.H (qV U2 v4 pb)))))))))
 (oY (pG 1 ui (pI (qV (pF U1 pb) (pF U1 pb) (pQ (pF U1 pb) v6))))
 (oY (pG 7 ui (vq (KB G) r G.c G.b7 G.ai.toDG (rW (vq (Oy G) r G.h G.b8 G.aj.toDG (qV (pF U1 pb) (pF U1 pb) (pF U1 pb))) (pQ (pE (GR G) r G.F (rW y0 pb)) pb))))
 (oY (pG 8 ui pb)
 (oY (sT eK rfl (vg rfl G.bP (qd (pQ (rS y0 sI (sG pb)) (qK (qd pb))))) (tO (n:=2) rfl (pV (qI 9 ui) (pV (qI 4 ui) sv)))
 (oY (pG 10 ui (pE (Ni G) r G.bq (pP v7 (qV (pQ v4 (pQ (pQ pb v9) v9)) U2 U3))))
 (oY (pG 8 ui (pQ v8 (qr QU rfl G.cC RP (qd (rV (pE (Qa G) r G.br (rW v7 Vy)) (rJ (pR u (pF Vy pb) pf)))))))
 (oZ (pJ (W3.b3 (vC (pA u (pQ v9 pb) pb) (vk (pA u v9 (pN ql rfl G.g qh (qd (rS y0 sI (sG pb))))))))
 (oZ (pJ (we (uB (pE (L1 G) r G.bx (pP v7 (pP U1 (qV U2 U3 (pQ (pQ (pE (GR G) r G.F (rW y0 pb)) v8) pb)))))))
 (oZ (pk tL))
 pD))
 pD)))))
 (oZ (pk tL)))))))))))),?_⟩)
 rintro ds M Q ⟨ns,rfl,hns,q⟩
 have hz:=dP;have ok:rf (Ax ns 5):=OX (by decide) (by decide);have w10:(Ax ns 5).mG.length<=10:=by show((List.range (vi (cell ns 0))).map _).length<=10;rw[cV,eG];have:=qG (c:=cell ns 0) (f:=950706376) (m:=11) (by decide);unfold vi;omega
 refine⟨ns,5,rfl,by decide,by decide,λr1 r2 r3 M1 s1 h1 h2 h3=>?_⟩;generalize Ax ns 5=l at h1 h2 h3 ok w10;have p1:=ok.p1;have p8:=ok.p8;have g3:=ok.g3;have pl:l.pn.length=l.mF.length:=cV ..;have nl:l.nm.length=l.mF.length+l.groups.length:=by unfold pC.nm pC.pn pC.gn;rw[cY,cV,cV]
 have YY:l.pn≠[]:=λz=>by rw[z]at pl;simp only[dO]at pl;omega
 have Y0:l.nm≠[]:=λz=>by rw[z]at nl;simp only[dO]at nl;omega
 obtain⟨o0,or',eo⟩:∃o0 r,l.pn=o0::r:=fT YY;obtain⟨nz,hnz⟩:∃x,l.nm.getLast?=Fa x:=by
  cases e:l.nm.getLast? with
  | none=>exact absurd (gq.mp e) Y0
  | some x=>exact⟨x,rfl⟩
 dsimp only[rT,yu,DU];refine i' h1 (qR (f:=AQ) h1 _ [] _ (by rw[cV];simp only[dO];omega) (λd hd k hk=>?_) λro hro=>?_)
 .obtain⟨x,_,rfl⟩:=dD.mp hd;exact hk
 rw[d6,wV];have t3:=qo.new (c:=.lst ((l.mF.map (·.1)).map D.str)) hro;have lo:oK (pB M1 ro (.lst ((l.mF.map (·.1)).map D.str))) ro=Fa (l.pn.map D.str):=pz;have h1:=t3.lst h1;have h2:=t3.lst h2;have h3:=t3.lst h3;have s03:=s1.trans t3;generalize pB M1 ro (.lst ((l.mF.map (·.1)).map D.str))=M2 at lo h1 h2 h3 s03 ⊢;clear t3 hro s1;dsimp only[rT];refine Hh (t:=yr _ _) (λU M'=>qo M2 M'/\∃rn,oK M' rn=Fa (l.nm.map D.str)/\U=CQ ns [Fa (.tup [.ref r1,.ref r2,.ref r3]),Fa (.ref ro),Fa (.ref rn),Db,Db,Db,Db,Db,Db,Db]) (λnx h=>?_) ?_
 .refine i' h2 (qR (f:=AQ) h2 _ [] _ (by rw[cV];simp only[dO];omega) (λd hd k hk=>?_) λp hp=>?_)
  .obtain⟨x,_,rfl⟩:=dD.mp hd;exact hk
  .rw[d6,wM];have t:=qo.new (c:=.lst ((l.groups.map (·.1)).map D.str)) hp;refine i' (t.lst lo) (i' pz ⟨by rw[cV,cV,cV];omega,λp2 WG=>h _ _ ⟨t.trans (.new WG),p2,?_,rfl⟩⟩);rw[pz,<-dU];rfl
 rintro U M3 ⟨s3,rn,ln,rfl⟩
 have lo:=s3.lst lo;have h1:=s3.lst h1;have h2:=s3.lst h2;have h3:=s3.lst h3;have s03:=s03.trans s3;clear s3;refine Hh (t:=yr _ _) (λU M'=>M3=M'/\∃c:Int,U=CQ ns [Fa (.tup [.ref r1,.ref r2,.ref r3]),Fa (.ref ro),Fa (.ref rn),Fa (.int c),Db,Db,Db,Db,Db,Db]) (λnx h=>⟨ns,12,rfl,h _ _ ⟨rfl,_,rfl⟩⟩) ?_
 rintro U M' ⟨rfl,c,rfl⟩
 refine Hh (t:=yr _ _) (λU M'=>M3=M'/\∃b:Bool,U=CQ ns [Fa (.tup [.ref r1,.ref r2,.ref r3]),Fa (.ref ro),Fa (.ref rn),Fa (.int c),Fa (.bl b),Db,Db,Db,Db,Db]) (λnx h=>⟨_,_,_,rfl,by decide,h _ _ ⟨rfl,_,rfl⟩⟩) ?_
 rintro U M' ⟨rfl,b,rfl⟩
 refine Hh (t:=yr _ _) (λU M'=>qo M3 M'/\∃rm,oK M' rm=Fa ((zK l b o0 nz c).map uz)/\U=CQ ns [Fa (.tup [.ref r1,.ref r2,.ref r3]),Fa (.ref ro),Fa (.ref rn),Fa (.int c),Fa (.bl b),Fa (.ref rm),Db,Db,Db,Db]) (λnx h=>?_) ?_
 .refine i' lo (i' (by rw[eo];exact xF _ _) ?_);refine⟨rn,c,6,l.nm,rfl,ln,Y0,by decide,by omega,oW rfl,oW rfl,?_⟩;refine i' ln (i' (IS hnz) ?_);exact⟨ro,c,6,l.pn,rfl,lo,YY,by decide,by omega,oW rfl,oW rfl,oW rfl,λrm hrm=>h _ _ ⟨.new hrm,rm,pz,rfl⟩⟩
 rintro U M4 ⟨s4,rm,lm,rfl⟩
 refine Hh (t:=yr _ _) (λU M'=>qo M4 M'/\∃r4,oK M' r4=Fa ((l.mG++zK l b o0 nz c).map uz)/\U=CQ ns [Fa (.tup [.ref r1,.ref r2,.ref r4]),Fa (.ref ro),Fa (.ref rn),Fa (.int c),Fa (.bl b),Fa (.ref rm),Db,Db,Db,Db]) (λnx h=>?_) ?_
 .refine i' (s4.lst h3) (i' lm ⟨by rw[cV,cV];show l.mG.length+2<=Ch;omega,λr4 ZN=>⟨oW rfl,h _ _ ⟨.new ZN,r4,?_,rfl⟩⟩⟩);rw[dU];exact pz
 rintro U M5 ⟨s5,r4,h4,rfl⟩
 have s35:=s4.trans s5;have lo:=s35.lst lo;have ln:=s35.lst ln;have h1:=s35.lst h1;have h2:=s35.lst h2;have s05:=s03.trans s35;have YO:=OD ok w10 b c (o:=o0) (n:=nz) (by rw[eo];exact dN) (ig hnz);obtain⟨l1,e1,e2,e3,YO⟩:∃l1:pC,l1.mF=l.mF/\l1.groups=l.groups/\l1.mG=l.mG++zK l b o0 nz c/\rf l1:=⟨{l with mG:=l.mG++zK l b o0 nz c},rfl,rfl,rfl,YO⟩;have epn:l.pn=l1.pn:=by unfold pC.pn;rw[e1]
 have enm:l.nm=l1.nm:=by unfold pC.nm pC.gn;rw[epn,e2]
 rw[<-e1]at h1;rw[<-e2]at h2;rw[<-e3]at h4;rw[epn]at lo YY pl;rw[enm]at ln Y0 nl;clear lm s4 s5 s35 s03 h3 eo hnz e1 e2 e3 epn enm w10;refine λp hp=>?_;have t2:=qo.new (c:=.ins a.h []) hp;refine⟨p,r1,r2,r4,l1,rfl,pL,t2.lst h1,t2.lst h2,t2.lst h4,YO,λM6 kp pa _=>⟨rfl,?_⟩⟩;have s6:qo M5 M6:=λx c e=>kp x c (Nx e hp) (t2 x c e);refine⟨ns,0,rfl,by decide,λbb hb=>?_⟩;have t5:=qo.new (c:=.ins a.c []) hb;have npb:p≠bb:=λz=>by obtain⟨ph,gr,ws,Ya,pr,gd,rs,i1,_⟩:=pa;rw[z,hb]at i1;cases i1
 refine⟨bb,p,_,[],l1,rfl,pL,pa.sub t5,YO,npb,(λx hx=>by cases hx),λM7 A eb kp7 fr bd=>⟨rfl,?_⟩⟩;obtain⟨cu,wf,ps⟩:=Lp.start YO pa hb eb kp7 fr bd;clear kp kp7 fr bd t2 t5 npb hp hb pa;have v0:(V0 p (cell ns 0 % 24) l1 []).h=cell ns 0 % 24/\(V0 p (cell ns 0 % 24) l1 []).t=0:=⟨rfl,rfl⟩;generalize V0 p (cell ns 0 % 24) l1 []=V at cu wf ps v0;have h1:=s6.lst h1;have h2:=s6.lst h2;have h4:=s6.lst h4;have lo:=s6.lst lo;have ln:=s6.lst ln;have s06:=s05.trans s6;dsimp only[rT];refine Hh (t:=yr _ _) (λU M'=>M7=M'/\U=CQ ns [Fa (.tup [.ref r1,.ref r2,.ref r4]),Fa (.ref ro),Fa (.ref rn),Fa (.int c),Fa (.bl b),Fa (.ref rm),Fa (.ref bb),Fa (.int 0),Db,Db]) (λnx h=>h _ _ ⟨rfl,rfl⟩) ?_
 rintro U M' ⟨rfl,rfl⟩
 intro sl Za;rw[show L3.uH (ns.map D.int) Db (Fa (63:Int))=(ns.map D.int).take 63 from Hw _ 63];have t7:=qo.new (c:=.lst ((ns.map D.int).take 63)) Za;have l7:=@pz M7 sl ((ns.map D.int).take 63);generalize pB M7 sl (.lst ((ns.map D.int).take 63))=M8 at t7 l7 ⊢;refine⟨oW rfl,λp8 hp8=>?_⟩;have t8:=qo.new (c:=.lst [D.int 1]) hp8;have l8:=@pz M8 p8 [D.int 1];generalize pB M8 p8 (.lst [D.int 1])=M9 at t8 l8 ⊢;refine i' (t8.lst l7) (i' l8 ⟨by rw[fh,cV];show min 63 ns.length+1<=Ch;omega,λr5 hr5=>i' pz ?_⟩);have hL:((ns.map D.int).take 63++[D.int 1]).length<=64:=by rw[cY,fh,cV];show min 63 ns.length+1<=64;omega
 have hLi:∀d∈(ns.map D.int).take 63++[D.int 1],∃c,d=.int c:=λd hd=>by
  rcases dR.mp hd with z|z
  .obtain⟨c,_,rfl⟩:=dD.mp (iT z);exact⟨c,rfl⟩
  .rw[dg]at z;exact⟨1,z⟩
 generalize (ns.map D.int).take 63++[D.int 1]=L at hL hLi ⊢;have t9:=qo.new (c:=.lst L) hr5;have l9:=@pz M9 r5 L;have s9:=t7.trans (t8.trans t9);have n5:r5∉A.foot:=(cu.sub (t7.trans t8)).bd.nV hr5;generalize pB M9 r5 (.lst L)=M10 at t9 l9 s9 ⊢;have i9:=Lp.mk0 (cu.sub s9) wf ps;have l5:=NZ l9 n5;generalize MA A M10=N at i9 l5;refine uc (ug 0 L) (λpre U M'=>(∃A V t,Lp a M6 N M' bb A V l1 pre.length/\(V.h=cell ns 0 % 24/\V.t=t)/\∃y3 y9 X5,U=CQ ns [Fa (.tup [.ref r1,.ref r2,.ref r4]),Fa (.ref ro),Fa (.ref rn),y3,Fa (.bl b),Fa (.ref rm),Fa (.ref bb),Fa (.int t),y9,X5])) (λ_ _ M' j=>by obtain⟨A,V,t,g,_⟩:=j;exact g.s.lst l5) _ [] _ _ rfl ⟨A,V,0,i9,v0,_,Db,Db,rfl⟩ ?_ ?_
 rotate_left
 .rintro U M' ⟨A',V',t',g,_⟩
  exact⟨M,s06.trans g.cu.s0,q⟩
 clear i9 n5 s9 l9 t9 hr5 l8 t8 hp8 l7 t7 Za cu wf ps v0
 rintro pre d post e U M' ⟨A,V,tt,g,⟨vh,vt⟩,y3,y9,X5,rfl⟩ Zl WI
 obtain⟨dx,hx,rfl⟩:=Ep e;have pl5:pre.length<64:=dS (cZ.mp hx).1 hL;obtain⟨c0,rfl⟩:=hLi dx (qJ hx);rw[cY,dJ]at WI;generalize pre.length=m at g pl5 WI;refine⟨rfl,?_⟩;dsimp only[rT,yu,DU];refine⟨.inl ⟨by decide,by decide⟩,.inr ⟨by omega,by omega⟩,?_⟩;have eb:=g.cu.b;subst eb;refine⟨A,V,l1,_,ro,rn,l1.pn,l1.nm,rfl,g.rd (by omega),g.wf,λk hk=>(g.cu.sz.cs k hk).2.1,g.cu.s0.lst lo,g.cu.s0.lst ln,YY,Y0,by omega,by omega,λM2 e s f=>?_⟩;have g:=g.sub s;dsimp only[rT];refine Hh (t:=yr _ _) (λU M3=>(∃A' V t,Lp a M6 N M3 A.b A' V l1 (m+1)/\(V.h=cell ns 0 % 24/\V.t=t)/\U=CQ ns [Fa (.tup [.ref r1,.ref r2,.ref r4]),Fa (.ref ro),Fa (.ref rn),Fa (.int c0),Fa (.bl b),Fa (.ref rm),Fa (.ref A.b),Fa (.int t),Fa (.int (m:Nat)),Fa e.d])) (λnx h=>?_) ?_
 .refine⟨M6,A.b,A,V,l1,_,_,e,rfl,g.cu,by omega,by omega,g.wf,f,λhr M3 A3 c3 Xm=>?_,λ_=>?_⟩
  .have g3:=g.after (by omega) f hr c3 Xm;have e1:=Qs (vw l1 V e) V;have e2:=VD f hr;have go:∀t,t=tt+(if e.isT=pc then 1 else 0)->nx (CQ ns [Fa (.tup [.ref r1,.ref r2,.ref r4]),Fa (.ref ro),Fa (.ref rn),Fa (.int c0),Fa (.bl b),Fa (.ref rm),Fa (.ref A.b),Fa (.int t),Fa (.int (m:Nat)),Fa e.d]) M3:=λt ht=>h _ _ ⟨A3,_,t,g3,⟨e1.trans vh,by rw[e2,vt,ht]⟩,rfl⟩;clear g3 e1 e2;cases e with
   | turn=>exact go _ rfl
   | call y z=>exact go _ rfl
   | sw b0 i=>
    cases b0 with
    | true=>exact go _ rfl
    | false=>exact go _ rfl
   | num wd x ms=>rcases f with⟨rfl|rfl|rfl|rfl,_⟩|⟨rfl|rfl,_⟩<;>exact i' (xF _ _) (go _ rfl)
  .exact h _ _ ⟨A,V,_,g.ni,⟨vh,vt.trans (iR _).symm⟩,rfl⟩
 clear g vh vt
 rintro U M3 ⟨A',V,t,g,⟨vh,vt⟩,rfl⟩
 have hh:(cell ns 0+t) % 24=(V.h+V.t) % 24:=by rw[vh,vt];omega
 have go:∀M4,qo M3 M4->Zl (CQ ns [Fa (.tup [.ref r1,.ref r2,.ref r4]),Fa (.ref ro),Fa (.ref rn),Fa (.int c0),Fa (.bl b),Fa (.ref rm),Fa (.ref A.b),Fa (.int t),Fa (.int (m:Nat)),Fa e.d]) M4:=λM4 s=>WI _ _ ⟨A',V,t,g.sub s,⟨vh,vt⟩,_,_,_,rfl⟩;have eb:=g.cu.b;have s63:=g.cu.s0;refine⟨by decide,?_⟩;refine qg (c:=((m:Nat):Int) % 8==0) (λ_=>JL ?_) (λ_=>?_)
 .exact⟨ns,0,rfl,by decide,A',V,l1,r1,r2,r4,ro,rn,_,by rw[eb],s63.lst h1,s63.lst h2,s63.lst h4,s63.lst lo,s63.lst ln,g.rd (by omega),g.wf,hh,C5 (go M3 .refl)⟩
 intro p3 ZJ;refine i' pz (qg (λ_=>?_) (λ_=>go _ (.new ZJ)));have t3:=qo.new (c:=.lst (L3.uH (ns.map D.int) Db (Fa 63))) ZJ;have s64:=s63.trans t3;exact⟨ns,0,rfl,by decide,A',V,l1,r1,r2,r4,ro,rn,_,by rw[eb],s64.lst h1,s64.lst h2,s64.lst h4,s64.lst lo,s64.lst ln,(g.sub t3).rd (by omega),g.wf,hh,C5 (go _ t3)⟩
end Z
end
structure PySem.W.Fast:Prop where(tw9420055320824604401 tw937834625238666242 tw8578368900797441557 tw8167747577203525714 tw7144665978319378725 tw7078663035622577803 tw5704335937093126075 tw5608766528678298562 tw4484643784747138141 tw3500544442365042564 tw3464226082509870267 tw3348100298551360241 tw3297525635639702189 tw18162870921351430894 tw17891133195401134860 tw17627609774536246216 tw17596193190603715782 tw1647967242720447817 tw1605150537045069913 tw15717245981609850638 tw15051169615959478387 tw14324692473783586189 tw13611019904863848486 tw13262749014012421538 tw12454151047236399587 tw11125776792363123595 tw1080414831938239510 tw10566613412324904626 tw10393308733547354849 tw10345199417664649075 tw10768820101405960442 tw7608773047821961051 tw10646221287947514818 tw15508064062858932690 tw13373638776887607655 tw17750085456195357286 tw9979428794043450563 tw7462031269235215831 tw10352867339119949850 tw15755638042519123844 tw14294253600575628474 tw5162119267576737110 tw8856388093798032164 tw11810142308047067646 tw5815442645591615913 tw1486373990601991488 tw14981247323333994966 tw14158642690272290094 tw16247139979613393739 tw18033656163424100226 tw15218093315921124797 tw18255582643190217844 tw10550731280858069329 tw6346710979836717234 tw12988232406728559650 tw14613504184841723077 tw1798658933772549149 tw13949540203037698013 tw2408205909957038194 tw17409251015772336346 tw4347440013932258491 tw7681256043311174758 tw2078170473764394588 tw12326007700082573433 tw17168633948953060330 tw4265521074076947070 tw4364240377991957803 tw5056207754802083137 tw11532938880296587201 tw2815816516417811567 tw1244959970419233162 tw16775425936338284684 tw3810444401365756736 tw14226509355552331006 tw8788909766737598033 tw7171308127117590839 tw5193782505867736951 tw9405484595122644198 tw2152692390237763735 tw13658580332943544623 tw9997632653839360782 tw3992097727675627605 tw3537204150452579411 tw18422205588003414310 tw12474939568997803539 tw4165147828354277428 tw11540209249090379119 tw4765513241677287674 tw7238946186436847261 tw13822218291275312833 tw15209427985870164874 tw11172041087448294774 tw14599195445160967450 tw10714401592570376512 tw14797211827107862895 tw2291562548464971757 tw14890671945527437037 tw18021321433222102326 tw17873556326827567218 tw12163645355739320963 tw6764496327221028627 tw13639160387608062595 tw6634084544027870812 tw17071972036618942646 tw1467689005438722556 tw6902237447425188833 tw12607415982382848133 tw5458657157925173916 tw6966284984018198711 tw9614531341365726056 tw1668885144734623855 tw16701187334333730335 tw17978627013051288934 tw3840406141651433780 tw4674156655323118558 tw8241129931650322205 tw6007561216271361821 tw3653033286455993772 tw7833591986785979430 tw6099101394055386818 tw10826800632196032654 tw12810976666703161670 tw11667088906309281075 tw9769078160412074118 tw9227995227498788633 tw14040953637836992739 tw13401862407013245991 tw11257898286577836005 tw2046196717923512239 tw13109724359218372137 tw8998468040198239063 tw15659292716817193779 tw5792534126801328373 tw15684182372395171400 tw9893856684421278650 tw9276516998001646221 tw17356139480275725928 tw18052779374344230361 tw18121481781028625756 tw16119681027486637191 tw5130296468505067184 tw5295146224997382918 tw649875539949001977 tw4910313402064456046 tw9713720240035084689 tw17348519639169943208 tw10059236533211475438 tw2442278106066479138 tw1009613723923989735 tw1556897093161093673 tw8415065951816356305 tw8308060468344598413 tw6584551521631287860 tw5655979622598533504 tw9347280873333405110 tw2186855314068767284 tw10980270944735109815 tw3474836409310827993 tw5058756610944561330 tw11396912482737768935 tw9478617740496589481 tw10599458956076800849 tw9904311368138471440 tw5791341177680774308 tw8019601079335416978 tw17048888449570322059 tw17634321668051799819 tw3947817836085999648 tw1198800904932560545 tw6753349199402463016 tw12699947077265363402 tw8718708634641590928 tw13468003567331715046 tw2131858753579465211 tw11522088619804600722 tw17694026273323458108 tw10258539774715920581 tw6209042704593657299 tw14936353134088470169 tw12693836892733825387 tw2687582454572136560 tw2534203113385073871 tw2816033001804820454 tw5569764676355986794 tw9636235558291854557 tw17628389949533180600 tw17171927452458906048 tw12231296283985163330 tw10248102901816535667 tw12391994554365772676 tw3364583377593691288 tw6341898772497004729 tw17193885749111196701 tw11086462811879139510 tw10342340280171144972 tw2596782482417923395 tw14167257203126900059 tw900434964673873815 tw4447336283612960699 tw13995185666596072168 tw4775449462431730811 tw6637435293783774748 tw3812737928526968630 tw2126996420508774139 tw3039461073523137192 tw3617308270895760676 tw12918511641808066814 tw18158106312595251098 tw5238719222775663389 tw16084730567390995650 tw771213603834525377 tw8095620416458423462 tw3442532924204333498 tw5631132339243599176 tw17510459743769662407 tw1209406432909912882 tw14112913367541544210 tw9707229981749927838 tw5749053531335310935 tw17894714319237255472 tw3262730313708199220 tw6678220779397946097 tw6805578050202111555 tw14687814683739452525 tw3515908632119390993 tw2357561286676990263 tw15896229651718791267 tw12502799508780483665 tw12776969431360030427 tw15721580851871658452 tw9181818713910883791 tw819222366744767522 tw18310159679339387273 tw1154257060098823419 tw3894906003657630763 tw5468518422309776548 tw5988793277177980916 tw12292419574779764572 tw9082693250711084581 tw12141665795915625956 tw5316043511999320465 tw11785271450008932967 tw7997541878350610013 tw17733090502024865315 tw3269058768224967880 tw13438277195133577263 tw14272641420921780137 tw12258310918400001246 tw8752089934504171369 tw16865273597311827900 tw12312366921722574695 tw12561368833363828660 tw11337282801786452170 tw6320524206176413128 tw13794391061833031948 tw9027784818944172805 tw6842494490316250477 tw4819719524859958313 tw13488923274909598394 tw1749044991846398874 tw7155445290118959200 tw1852622009915281114 tw8321385932866383680 tw9516097584468060026 tw12989881772017511787 tw11309751833735341174 tw15658594083952660615 tw16708072139540747898 tw3611138697726578992 tw6244787895214506238 tw521634228503919714 tw16811458926033035266 tw8723327472748427908 tw16522691317919604920 tw790512336326833459 tw5887875333343188265 tw1722355478231428047 tw7847484188742371624 tw2967675583616517949 tw14548007089318422044 tw13063106681724440874 tw754567621876597708 tw323244642279942990 tw8213900962836049010 tw17663063618114523358 tw17954240329313192968 tw11522087082178193141 tw4343306691459601423 tw16452088300388836776 tw4324267856275161926 tw9218229046776839328 tw5671418844986323906 tw10742707949079448529 tw284822485285526549 tw15020103920296028514 tw16543167022809168440 tw3273478471709446597 tw4965475200471300988 tw15841747167919634213 tw11128418380811724394 tw3475836269651629334 tw3124961872346220999 tw17490550935290973063 tw17026887251448310468 tw18262053956471765330 tw16256211014820689006 tw1378539443172382685 tw13475053841643460009 tw7279237935795080589 tw5392672214962384591 tw7954655892793743378 tw15735928795437310737 tw2694008810637986414 tw2840367312804197680 tw10117014315221629390 tw16828933595801611736 tw16038691097807611590 tw15950660971784432969 tw9251251641489254274 tw1074990485259100962 tw9302355440977234825 tw12961070445867880156 tw9441123078432170189 tw885557278880360850 tw1890128495961495676 tw11804722520136309575 tw7163007136488474977 tw5242633502490101713 tw10167117253962442508 tw5770100669441581954 tw7455207779763181424 tw14088990337321619788 tw9120853403626076148 tw14323975037808692099 tw13910125956334228220 tw4832194000502114492 tw13216308521829137693 tw7022371604386073899 tw16157363034102802302 tw10162628463422407078 tw18075523666035495620 tw9145906414116881874 tw18062523268329553967 tw11620198327567432815 tw14636224387005467388 tw12423789327365340996 tw10838573788704542850 tw17400727564055629398 tw12248671778434808703 tw5484781011203792868 tw14941859280875651906 tw15025187014357783138 tw1313054350617966215 tw11297210361874362371 tw4562706630265929405 tw13892743502753943920 tw12740768474775681708 tw17147970706577121112 tw10114496498951235347 tw1034560446622545853 tw347401213244097522 tw5805678977339789263 tw16112823995628099667 tw17377367154564369043 tw14082595520561802547 tw3487053684654761538 tw14481996563710131417 tw1489838839382019163 tw13489509209877935715 tw11837719663765434862 tw8103631047037034000 tw17885005544012367262 tw12344226235713310110 tw2910866395047019528 tw6877947174367452962 tw625432524845560067 tw1982208629641908052 tw13437771885373787797 tw7113340788266748119 tw5534546270992671161 tw18005339682148492753 tw7977737484766930588 tw3193463551721018164 tw2653509770849010175 tw3099711751934443015 tw2276571096248003253 tw1141337221864759474 tw5245735413838669363 tw8620015750704500388 tw10108397268963455428 tw14545778205804796515 tw10635793479016714307 tw3975557876753436526 tw2404876887566094772 tw12173745221181277348 tw6274266149285680525 tw4349761312689463627 tw16196930454082535292 tw5882685969012953300 tw17367821783161589194 tw14420577273302723994 tw11373803910258066962 tw7768272197190902666 tw5210950696459036407 tw11845076790489245462 tw9511590199473297603 tw8541350305151888278 tw5601934570807451772 tw9677606781420876511 tw7204658199021348383 tw4692468062420446165 tw16666823335887916764 tw15399794408474194849 tw14783274828359065607 tw14537914067107322999 tw8364548486684333945 tw9569310909733877813 tw8002908512941778272 tw5060682684991253763 tw9562984957268984893 tw941712100349063986 tw14897361267968756270 tw11959347443631569498 tw2281479098877743990 tw1665961107670001742 tw145848727234289197 tw13859100377672382121 tw11161045459236447061 tw5774654188253520370 tw15948010960754564413 tw3206625564410930526 tw6279256221786720254 tw17320377143645886577 tw14789786179666432560 tw4130641891510699651 tw15300018071227253584 tw10883000306228534365 tw3919849648032449381 tw10039276914968175954 tw17308648492144265435 tw15691384970021333363 tw8066638772873584033 tw15802543345278940651 tw14488475807442060960 tw12915092928133781098 tw1542377587879465468 tw9835760999608741837 tw9742923724885308715 tw15128673239562449957 tw13149886771231583947 tw3805871969848183909 tw2953090110494244544 tw16876870864738965596 tw13350709915974854450 tw11607632904312219297 tw9852464860298799084 tw8958502303592661642 tw2117567406337529227 tw2100413625465270131 tw4637664019235939865 tw17238376719623211249 tw12027119834757643205 tw18382443069542767759 tw17858916091919936027 tw2538367916405793808 tw16600815940981669347 tw10867198837005784795 tw8396355670632434335 tw5622972853870829679 tw15952180457483198885 tw10553786640909680599 tw3985219772502231153 tw18280089456148020921 tw11573372406679960055 tw10185760608297026349 tw17087358344328980581 tw14418203036864329290 tw15742258973858880296 tw14966369975949265721 tw9080394964354725695 tw16450742629554438957 tw16090778844207403346 tw13628932783480931617 tw10331267215019512992 tw486609700511597201 tw12011924244316737486 tw8911243722274073150 tw7570249770343784538 tw6940050477497206700 tw4304835987414650058 tw14062666993799597594 tw1600764332186524938 tw9866595117017408513 tw7590635046502618443 tw7572241805447145866 tw4687214360366997039 tw17203835977117967988 tw14833048836995991003 tw12876895600189067429 tw12870576659447571540 tw10004526516236372563 tw2910480286076068215 tw10440686143028632311 tw3875470876180325588 tw12769577164213564838 tw16759680056643005121 tw11521109054304182909 tw2875076949957943468 tw13440508178480918998 tw8353097727170818164 tw10854956726905581997 tw8498741048126044819 tw4490615659660541219 tw6268124021171047755 tw5966434244138039310 tw17552047226084885154 tw11177487958335631247 tw18347121115520678148 tw18148535297903576532 tw17909680747090637838 tw15473582426558038396 tw6210011241141819364 tw3867166371243935683 tw13571184906271115313 tw4685034852750362761 tw8149449974828150323 tw13893774846163491760 tw3536401130484398974 tw14414032663502120808 tw2320928003713631563 tw9610305200079788524 tw575282814051916936 tw9667540764365303278 tw13739802418341037803 tw10161527412119726608 tw4746181130631603959 tw7712997590442112790 tw11630881623174390561 tw4281923182002736177 tw8504996069470628805 tw2903879865038337446 tw7938711464159619341 tw3818644397927649948 tw11888973006618197230 tw11120045605194828618 tw9143251850230399513 tw13013363875910395450 tw8660339740271289273 tw15481584126243536262 tw2751783348285879815 tw14033671075754266933 tw17049606165352600437 tw15194987988535553843 tw8166623896258535826 tw13141884432327522099 tw102839450829862834 tw14991186187462035829 tw15264735579930903770 tw13246847593590899282 tw1016866312438128334 tw11687314196424096388 tw9963355074861990125 tw291417683028800043 tw16529006555887102689 tw5956802939094989902 tw13063776297884485038 tw17840716503496103694 tw9622761269599437158 tw3137640575507267196 tw13253374527736232519 tw10667473771363990115 tw2597723922218577961 tw7564000675385257094 tw6959465347006137328 tw3222526170505021061 tw2898758220977287630 tw2469272216927412190 tw18153717400523151580 tw17280021298588390924 tw15477173183579325997 tw15341325328019844016 tw14425243998571368227 tw12825045990756492579 tw9589177971632606502 tw16101035779741837512 tw6162058811871944272 tw12882774367843268852 tw2623620449550833524 tw8986805914314249796 tw15979085098346473779 tw13861581063526836048 tw12495765244896154438 tw10870123169092074268 tw9692057625761644084 tw8142593292344035601 tw5496716524165011018 tw4556476614898727675 tw4278122737164581569 tw390262704648247767 tw2522267164181430574 tw13575229606615191843 tw1225365773530555131 tw11712197029692710413 tw9922184594688922368 tw922558831250254012 tw4990785639008356854 tw10337952702343305781 tw394496716800203825 tw14915438547745661796 tw13527209474815260705 tw12244387736893389064 tw10530299762927135537 tw9144092817307893671 tw6880641970205326130 tw5872493343763956318 tw3334719210184742636 tw3149588907624915757 tw17734066582912257207 tw17513181297896049475 tw16706773801798264700 tw16129381209693599666 tw13957594833320823572 tw11877186208054902711 tw10902805498595880447 tw10723935247519040120 tw3866870024206328410 tw17515724282949828060 tw10037592873879607082 tw6844820401532740729 tw4904723395850189362 tw16125364835727922641 tw11861166547441330888 tw821372924625751571 tw16280172974994409713 tw4477167483723016551 tw13514775747871608606 tw18001557168902137087:True)
open PySem PySem.W PyProof.Rows L2 L3
set_option maxRecDepth 100000 in
set_option maxHeartbeats 0 in
theorem PySem.Challenge.cw_callboard_k16_whole_fits_holds : PySem.Challenge.rw_callboard_k16_whole_fits.Holds := by
 w_on;o_law;k_head;(case hw=>w_witness2)
 k_fill
 refine L3.K5 (l:=PySem.Challenge.rw_callboard_k16_whole_fits) (sp:=Z.MJ) (k:=17) (x:="_law_script") rfl rfl ⟨rfl,by decide,by decide⟩ (λw h Y=>PySem.W.kIn_of Y) (λns hl=>⟨ns,rfl,hl,rfl⟩) ?F;case F=>
  intro w mg fa h KX G hmg;suffices h:∃a:Z.Ad,Z.Gl _ mg a/\∀(s:Shared) (u:Value),BindsTo s a.ah.d ⟨[u],[]⟩ [("_law_script",u)]by obtain⟨a,g,hb⟩:=h;have e:=hmg.symm.trans g.ah.mg;cases e;exact⟨a.ah.d,hb,λbase _ _=>g.ah.pe ▸ Z.QS g⟩
  refine'⟨⟨_,_,_,_,_,_,_,_,_,_,_,_,_,_,_,_,_,_,_,_,_,_,_,_,_,_,_,_,_,_,_,_,_,_,_,_,_,_,_,_,_,_,_,_,_,_,_,_,_,_,_,_,_,_,_,_,_,_,_,_,_,_,_,_,_,_,_,_,_,_,_,_,_,_,_,_,_,_,_,_,_,_,_,_,_,_,_,_,_,_,_,_,_,_,_,_,_,_,_,_,_,_,_,_,_,_,_,_,_,_,_,_,_,_,_,_,_,_,_,_,_,_,_,_,_,_,_,_,_,_,_,_,_⟩,⟨wG KX G ..,wG KX G ..,wG KX G ..,wG KX G ..,wG KX G ..,wG KX G ..,wG KX G ..,wG KX G ..,wG KX G ..,wG KX G ..,wG KX G ..,wG KX G ..,wG KX G ..,PySem.W.mg_of KX G ?_,PySem.W.mg_of KX G ?_,qk KX G ..,qk KX G ..,qk KX G ..,qk KX G ..,qk KX G ..,qk KX G ..,qk KX G ..,qk KX G ..,qk KX G ..,qk KX G ..,qk KX G ..,qk KX G ..,qk KX G ..,qk KX G ..,qk KX G ..,qk KX G ..,qk KX G ..,qk KX G ..,qk KX G ..,qk KX G ..,qk KX G ..,qk KX G ..,qk KX G ..,qk KX G ..,qk KX G ..,qk KX G ..,qk KX G ..,qk KX G ..,qk KX G ..,qk KX G ..,qk KX G ..,qk KX G ..,qk KX G ..,qk KX G ..,qk KX G ..,qk KX G ..,qk KX G ..,qk KX G ..,qk KX G ..,qk KX G ..,qk KX G ..,qk KX G ..,qk KX G ..,qk KX G ..,qk KX G ..,qk KX G ..,qk KX G ..,qk KX G ..,qk KX G ..,qk KX G ..,qk KX G ..,qk KX G ..,qk KX G ..,qk KX G ..,qk KX G ..,qk KX G ..,qk KX G ..,qk KX G ..,qk KX G ..,qk KX G ..,qk KX G ..,qk KX G ..,pW ..,pW ..,pW ..,pW ..,pW ..,pW ..,pW ..,pW ..,pW ..,pW ..,pW ..,pW ..,pW ..,pW ..,pW ..,pW ..,pW ..,pW ..,pW ..,pW ..,pW ..,pW ..,pW ..,pW ..,pW ..,pW ..,pW ..,pW ..,pW ..,pW ..,pW ..,pW ..,pW ..,pW ..,pW ..,pW ..,pW ..,pW ..,pW ..,pW ..,pW ..,pW ..,pW ..,pW ..,pW ..,pW ..,pW ..,pW ..,pW ..,pW ..,pW ..,pW ..,pW ..,pW ..,pW ..,pW ..,K1 ?_ ?_ ?_ ?_ ?_ ?_ ?_ ?_ ?_ ?_,Kr ?_ ?_ ?_,O0 ?_ ?_ ?_ ?_,⟨?_,?_,?_,?_⟩,⟨?_,?_,?_,?_⟩,⟨?_,?_,?_,?_⟩,⟨?_,?_,?_,?_⟩,⟨?_,?_,?_,?_⟩,⟨?_,?_,?_,?_⟩,⟨?_,?_,?_,?_⟩,⟨?_,?_,?_,?_⟩,⟨?_,?_,?_,?_⟩,⟨?_,?_,?_,?_⟩,⟨?_,?_,?_,?_⟩,⟨?_,?_,?_⟩,⟨?_,?_,?_⟩,⟨?_,?_,?_⟩,⟨?_,?_,?_⟩,⟨?_,?_,?_⟩,⟨?_,?_,?_⟩,⟨?_,?_,?_⟩,⟨?_,?_,?_⟩,⟨?_,?_,?_⟩,⟨?_,?_,?_⟩,⟨?_,?_,?_⟩,⟨?_,?_,?_⟩,⟨?_,?_,?_⟩,⟨?_,?_,?_⟩,⟨?_,?_,?_⟩,⟨?_,?_,?_⟩,⟨?_,?_,?_⟩,⟨?_,?_,?_⟩,⟨?_,?_,?_⟩,⟨?_,?_,?_⟩,⟨?_,?_,?_⟩,(pM ?_ (pM ?_ (pM ?_ (pM ?_ (pM ?_ (pM ?_ (pM ?_ (pM ?_ tq)))))))),(pM ?_ (pM ?_ (pM ?_ (pM ?_ (pM ?_ (pM ?_ tq)))))),(pM ?_ (pM ?_ (pM ?_ tq))),(pM ?_ (pM ?_ (pM ?_ tq))),(pM ?_ (pM ?_ (pM ?_ tq))),(pM ?_ (pM ?_ (pM ?_ (pM ?_ (pM ?_ tq))))),(pM ?_ (pM ?_ (pM ?_ tq))),(pM ?_ (pM ?_ (pM ?_ (pM ?_ tq)))),(pM ?_ (pM ?_ tq)),(pM ?_ (pM ?_ tq)),(pM ?_ (pM ?_ (pM ?_ (pM ?_ (pM ?_ (pM ?_ (pM ?_ (pM ?_ tq)))))))),L8,PySem.W.mg_none_of KX G ?_,PySem.W.mg_none_of KX G ?_,PySem.W.mg_none_of KX G ?_,PySem.W.mg_none_of KX G ?_,PySem.W.mg_none_of KX G ?_,PySem.W.mg_none_of KX G ?_,PySem.W.mg_none_of KX G ?_,PySem.W.mg_none_of KX G ?_,PySem.W.mg_none_of KX G ?_,PySem.W.mg_none_of KX G ?_,PySem.W.mg_none_of KX G ?_,PySem.W.mg_none_of KX G ?_,PySem.W.mg_none_of KX G ?_,PySem.W.mg_none_of KX G ?_,PySem.W.mg_none_of KX G ?_,vW (PySem.W.mg_of KX G ?_),vW (PySem.W.mg_of KX G ?_),vW (PySem.W.mg_of KX G ?_),vW (PySem.W.mg_of KX G ?_),O7 (PySem.W.mg_of KX G ?_) (uo (ss:=["all","turns"]) ?_ (.cons ⟨_,rfl⟩ (.cons ⟨_,rfl⟩ .nil)) (Nat.le_of_ble_eq_true rfl)),vW (PySem.W.mg_of KX G ?_),vW (PySem.W.mg_of KX G ?_),vW (PySem.W.mg_of KX G ?_),Sl (PySem.W.mg_of KX G ?_),Ob (es:=[⟨_,.str "bar" _,.ref _⟩,⟨_,.str "shut" _,.ref _⟩,⟨_,.str "always" _,.ref _⟩,⟨_,.str "night" _,.ref _⟩,⟨_,.str "busy" _,.ref _⟩,⟨_,.str "silent" _,.ref _⟩,⟨_,.str "wait" _,.ref _⟩,⟨_,.str "breaks" _,.ref _⟩]) (PySem.W.mg_of KX G ?_) ?_ ?_ (.cons rfl ⟨_,rfl,(uo (ss:=["phone","names"]) ?_ (.cons ⟨_,rfl⟩ (.cons ⟨_,rfl⟩ .nil)) (Nat.le_of_ble_eq_true rfl))⟩ (.cons rfl ⟨_,rfl,(uo (ss:=["name","phones"]) ?_ (.cons ⟨_,rfl⟩ (.cons ⟨_,rfl⟩ .nil)) (Nat.le_of_ble_eq_true rfl))⟩ (.cons rfl ⟨_,rfl,(uo (ss:=["name","name"]) ?_ (.cons ⟨_,rfl⟩ (.cons ⟨_,rfl⟩ .nil)) (Nat.le_of_ble_eq_true rfl))⟩ (.cons rfl ⟨_,rfl,(uo (ss:=["name","name","hour","hour"]) ?_ (.cons ⟨_,rfl⟩ (.cons ⟨_,rfl⟩ (.cons ⟨_,rfl⟩ (.cons ⟨_,rfl⟩ .nil)))) (Nat.le_of_ble_eq_true rfl))⟩ (.cons rfl ⟨_,rfl,(uo (ss:=["name","name"]) ?_ (.cons ⟨_,rfl⟩ (.cons ⟨_,rfl⟩ .nil)) (Nat.le_of_ble_eq_true rfl))⟩ (.cons rfl ⟨_,rfl,(uo (ss:=["name","name","turns"]) ?_ (.cons ⟨_,rfl⟩ (.cons ⟨_,rfl⟩ (.cons ⟨_,rfl⟩ .nil))) (Nat.le_of_ble_eq_true rfl))⟩ (.cons rfl ⟨_,rfl,(uo (ss:=["phone"]) ?_ (.cons ⟨_,rfl⟩ .nil) (Nat.le_of_ble_eq_true rfl))⟩ (.cons rfl ⟨_,rfl,(uo (ss:=["phone"]) ?_ (.cons ⟨_,rfl⟩ .nil) (Nat.le_of_ble_eq_true rfl))⟩ .nil)))))))),vW (PySem.W.mg_of KX G ?_),vW (PySem.W.mg_of KX G ?_),vW (PySem.W.mg_of KX G ?_)⟩,λs u=>.of_eq rfl⟩
  all_goals try first|k_is|(intro _ _ _ _ _ _ us hl;rcases us with _|⟨_,_|⟨_,_|⟨_,_|⟨_,_|⟨_,_|⟨_,_|⟨_,us⟩⟩⟩⟩⟩⟩⟩<;>first|rfl|(exfalso;revert hl;simp;done))|rfl
