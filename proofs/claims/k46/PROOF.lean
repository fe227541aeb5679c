import PyProof.Rows.All
import Wide.All
import OpenK.AllK
import Wide.FinOn
import PyProof.EqAt
import PyProof.EqKinds
import PyProof.TupleCall
import PyProof.AttrMiss
import PyProof.IsiH_list
import PyProof.Rows.SetFrom
import KE.KDictOf
import KE.KTab
import PyProof.AutoListH
import KE.KSortTup
import KE.KItemsList
import KE.KEqDict
import KE.KIntText
import Lean
import PyProof.RulesRaise
import PyProof.RulesTry
import KE.KTryDeep
import KE.KTryMore
import KE.KTryOn
import KE.TryInHelper
import KE.TryLedger
import PyProof.ExcArgsOwn
import PyProof.ExcAttrAll.ValueError
import KE.KIsAll
import PyProof.ExcBaseAll.ValueError
import PyProof.InstStoreFacts
import PyProof.ExcInit
import PyProof.SeqI3
import PyProof.ConsumeWalk
import PySem.Challenge.RW_callboard_k46_whole_off_is_as_none
set_option genInjectivity false
set_option genSizeOfSpec false
set_option genSizeOf false
set_option Elab.async false
set_option linter.all false
set_option maxRecDepth 100000
set_option maxHeartbeats 4000000
noncomputable section
open LawfulBEq renaming eq_of_beq->sK
open List renaming length_map->cT,getElem?_eq_getElem->cV,length_append->cW,getElem?_eq_some_iff->cX,mem_cons->de,mem_singleton->dg,size_toArray->dw,not_mem_nil->dA,mem_map->dB,mem_cons_of_mem->dC,getElem?_map->dD,mem_cons_self->dG,length_nil->dH,map_append->dM,length_singleton->dP,mem_append->dQ,nodup_cons->dR,map_cons->dU,nil_append->dX,map_map->dZ,length_cons->d6,mem_append_right->eA,all_eq_true->eD,length_range->eE,lookup_cons->eF,replicate_succ->eG,nodup_nil->eI,getElem?_set_self->eM,getElem?_set_ne->eQ,append_nil->eR,getElem?_append_right->eW,all_cons->eX,getElem?_append_left->eY,append_assoc->e9,mem_append_left->fg,mem_of_getElem?->fk,find?_cons->ft,cons_ne_nil->fz,length_pos_iff->fA,mem_filter->fC,take_length->fF,length_take->fL,getD_eq_getElem?_getD->fN,flatten_cons->fO,foldl_cons->fV,filterMap_cons->fW,filter_sublist->fX,any_cons->fZ,exists_cons_of_ne_nil->gb,length_drop->gc,mem_range->gf,length_filter_le->gg,length_modify->gh,mem_of_find?_eq_some->gi,nodup_append->gm,length_eq_zero_iff->gq,map_congr_left->gv,any_eq_true->gx,getElem?_eq_none->gB,filter_map->gC,take_add_one->gG,drop_eq_getElem_cons->gJ,getLast?_eq_none_iff->gK,filter_cons->gM,getElem_of_mem->gO,find?_eq_none->gU,take_of_length_le->gX,findIdx?_map->gZ,getElem_mem->ia,length_set->ig,getElem?_zip_eq_some->ii,getLastD_eq_getLast?->ij,contains_cons->iw,filter_cons_of_pos->iA,filter_cons_of_neg->iB,getElem?_cons_zero->iC,map_id->iG,findIdx?_eq_some_iff_getElem->iH,length_replicate->iL,getElem?_toArray->iM,map_nil->iP,set_set->iT,range_succ->iU,filter_nil->iV,mem_of_mem_take->iW,mem_of_mem_drop->iX,mem_of_getLast?->iY,dropLast_subset->iZ,getElem?_modify->ja,drop_zero->ji,filter_append->jo,sublist_append_right->jz,pairwise_iff_getElem->jA,getLast?_eq_getElem?->jB,findIdx?_eq_none_iff->jC,all_map->jL,drop_length->jM,any_map->jP,eq_of_mem_replicate->jQ,getElem?_replicate->jR,of_mem_zip->jU,forIn_cons->jV,range_succ_eq_map->j7,forIn_nil->j9,set_append_right->ko,map_drop->kF,getElem?_range->kH,filter_eq_self->kM,modify_eq_self->kN,mem_filterMap->kS,getElem_range->lh,set_cons_succ->lj,any_eq_false->lu,foldl_append->lz,getLast?_map->lF,getElem_inj->lN,zipIdx_cons->lX,getElem_map->l8,zipIdx_nil->mh,any_append->mj,find?_some->mq,map_take->mx,map_set->mE
open PySem renaming wpAny_bind->cU,wpAny_pure->df,sizeLine_eq->dI,wpAny_mono->d9,wpAny_holding->eB,wpAny_field->fi,wpAny_truthy_bool->fj,wpAny_callSpecial?_slot->fK,wpAny_Call_Name_kw->fQ,wpAny_call_entry->fR,wpAny_newObj_type->fS,codeAny_mono->gj,wpAny_seqItems->gw,wpAny_setField_rec->gz,wpAny_passesOwn->gA,wpAny_pyIter_list->gF,mem_of_lookup->gN,wpAny_standAt->gP,wpAny_execs_nil->gQ,codeAny_builtin->gS,wpAny_loadPart_at->gY,wpAny_setField->hJ,wpAny_call->hW,codeAny_call_builtin->h9,wpAny_pyIter_tuple->ir,wpAny_onRaise->iI,plainObj_wpAny_Assign_Attribute->iN,wpAny_specialOf->iQ,wpAny_updateSeq_pair->iR,isSubtype_type->jh,tupleKind_room_in1->jk,slot_dict_contains->jm,wpAny_sequenceKey->js,call_meets->jx,wpAny_execs_cons->jE,wpAny_typeOf->jI,wpAny_comprehension_free->jK,codeAny_of_tree->jX,wpAny_pyNext_list_item->j3,wpAny_pyNext_list_end->j8,builtinLookup_eq_fast->kc,weight_type_call_type->ke,getitemInPython_of_ne->kg,wpAny_rule->kt,wpAny_letTemporaryGo->kx,plainId_quiet->kC,wpAny_attempt->kD,wpAny_isSubtype_exc->kK,concat_meets->kU,seqIndex_neg->kX,wpAny_assign_Name->lq,wpAny_Assign_Name->ls,slot_list_getitem->ly,slot_dict_getitem->lB,wpAny_pyIter_enum->lC,seqIndex_of->lH,wpAny_letGo->lJ,wpAny_pyHash_str->lL,wpAny_eqBool_int->lM,wpAny_lookBehind->lO,pastItsLine_dict->lP,noFill_tuple_add->lR,check_set_init_1->lW,wpAny_pyIter_zip->lZ,wpAny_Name->ma,typeIs_int->me,Addr->Uf,sizeLine->Ch,wpAny->pi,model->Tk,starEach->Tl,bootBuiltins->zn,Expr->Go,Heap->No,eval->wp,compareOp->Op,attributeBase->Ps,keywordEach->Rs,assignEach->At,FuncData->wv,mainGlobals->Ix,backTo->xz,swapsWith->sB,holding->ZB,Stmt->TD,backToKw->xL,IsPair->IN,binaryOp->wP,NameKind->wS,behindInMarks->wT,foldedSetIterable->AT,sysModules->XV,getMethod->TW,ExcBaseFacts->o0,rawInt->X',cLine->Y',scanBound->XXa,excClassObj->XXb,standAt->XXc,Scope->XXd,Keyword->XXe,getItem->XXf,sliceBounds->XXg,callWith->XXh,letOwnedTupleGo->XXi,codeAny->XXj,IsZip->XXk,Operator->XYb
def cY:=@if_neg
def c9:=@if_pos
def dW:=@decide_eq_true
def eh:=@decide_eq_true_eq
def eK:=@congrArg
def eL:=@or_false
def eP:=@decide_eq_false
def fh:=@beq_iff_eq
def fv:=@beq_self_eq_true
def fJ:=@not_or
def fP:=@of_decide_eq_true
def gu:=@beq_eq_false_iff_ne
def jf:=@if_false
def jg:=@if_true
def lE:=@bne_self_eq_false
open PySem.Heap renaming get?_push_of_some->cZ,lt_size->dv,get?_push_size->dF,size_push->fm,get?_update_self->fH,get?_update_other->fY,get?_none_of_le->gI,get?_push_ne->iE,size_update->iK,get?_update_ne->jc
open Option.some renaming inj->dh,injEq->ju
open Nat renaming le_refl->dq,ne_of_lt->dE,lt_of_lt_of_le->dN,le_trans->dY,zero_le->eN,lt_irrefl->eZ,lt_succ_self->fE,lt_succ_of_lt->fT,ne_of_gt->gL,le_succ->gW,sub_self->hU,succ_le_succ->ib,lt_trans->il,lt_of_le_of_lt->iz,le_add_right->iJ,le_succ_of_le->jv,le_of_lt->jD,le_of_not_lt->jJ,mul_le_mul->kh,sub_zero->kZ,min_eq_left->mo,le_of_eq->mz,succ_mul->mC,zero_add->mD,succ_pos->mF
open Bool renaming false_ne_true->dz,eq_false_iff->dJ,and_eq_true->dS,true_and->eJ,false_and->eV,false_or->fM,eq_iff_iff->gk,not_eq_true'->gH,or_eq_true->gT,true_or->g9,false_eq_true->iu,not_eq_false->jw,or_false->kB,or_true->lb,beq_comm->mw,true->pc,false->lf
open Ne renaming symm->dO
open Int renaming eq_ofNat_of_zero_le->eC,emod_lt_of_pos->eO,emod_nonneg->eU,mul_le_mul_of_nonneg_left->jb,toNat_natCast->jr,emod_add_mul_ediv->km,zero_add->mG
open PySem.F renaming called_set->fu,slot_tuple_iterator_next->gD,slot_list_getattribute->im,slot_zip_next->iS,args_tuple_iterator_next_1->jj,entry_tuple_iterator_next->jn,slot_dict_getitem->jy,args_tuple_add_2->jG,store_ValueError->jO,entry_tuple_add->jS,slot_dict_items->jT,slot_tuple_add->j4,attrBase_ValueError->kl,excBase_ValueError->ky,entry_type_call->lA,args_zip_next_1->lD,typeCall_set_1->lU,entry_set_init->lV,entry_zip_next->lY,slot_int_rmul->mf
open PyProof.Rows renaming slot_tuple_getitem->fB,callWith_type1->fU,callWith_builtin1->gR,SetOf_congr->ip,setObjOf_fresh->jl,subscriptTail_builtinR->j5,listUpdate_at->kE,entry_tuple_getitem->kG,args_tuple_getitem->kW,seqEpoch_at->lK,size_push'->mi,seqObj->wE,envOfC->dL,AllBare->XYa
open PySem.PassesOwn renaming never->fD
open List.cons renaming inj->fG
open PySem.W renaming kia_one->gp,callWith_K->iO,looks_findIn->je,methodCall_KW->jY,plainGet_of->kz,looks_clsIn->kA,kitx_list->lG,cellsFrom_some->lQ
open PyProof.Rows.F renaming plain_set_update_loop->gy,entry_set_update_loop->io
open PySem.Around renaming under_plainId->hZ,under_plain->kY
open Array renaming getElem?_setIfInBounds_self_of_lt->ic,length_toList->ie,toList_append->jd,size_setIfInBounds->jN,mem_toList_iff->kr,append_assoc->kQ,find?_toList->kT
open PySem.Calls renaming spliced_cons->ik,spliced_nil->iD,Name_function_global->jq,callWith_builtin->j6
open PySem.Code renaming quiet_builtin->iq
open List.Nodup renaming sublist->iy
open Option renaming map_eq_some_iff->iF,isSome_map->jt,isSome_iff_exists->jF,map_some->jW,getD_none->lT,bind_some->l0,some->Fa,none->Db
open PySem.Paired renaming length->jp,snoc->mI
open Sum.inr renaming inj->jZ
open PySem.Walks renaming list->ku
open PySem.Heap.SameBut renaming update->kI
open PySem.SeqAt.EqAt renaming int_str->kO,str_int->kP
open PySem.Obj renaming data_mapFields->k9
open PySem.Heap.Ns1 renaming of_empty->lw
open Eq renaming symm->mv
open PySem.W.Looks renaming here->my
open Prod renaming ext->mB
open PySem.Heap.FunFrames renaming of_keeps->mH
open PySem.Moved renaming trans->mJ
open PySem.Heap.IsSliceOf renaming new->mK
abbrev qC:=PySem.W.Frag
local macro_rules | `(tactic| walk_at "l") => `(tactic| (intro _ _ _ h; repeat (first | (obtain ⟨e, _⟩ := h; subst e; rfl; done) | (cases h; rename_i h))))
local macro_rules | `(tactic| walk_at "m") => `(tactic| (intro _ _ _ _ h; repeat (first | (obtain ⟨e, _⟩ := h; subst e; rfl; done) | (cases h; rename_i h))))
abbrev Vl:=PySem.Value
abbrev Sd:=PySem.Shared
abbrev Pg:=PySem.Program
abbrev Ar:=PySem.Around
theorem Z'{α:Sort _}{a:α}:a=a:=rfl
abbrev Wo:=PySem.World
abbrev T0(α:Type _):=List α
abbrev QQQ:=List PySem.Str
abbrev QQX:=PySem.Value->PySem.Shared->Prop
abbrev QQY:=List (PySem.Addr×PySem.Obj)
abbrev QQZ:=PySem.Str->Option PySem.Value
abbrev QXQ:=List PySem.Addr
section
open PySem PySem.Spec PyProof.Rows
namespace L2
def x5{α:Sort u}{β:Sort v}{p q r:α->β->Prop}{C:Prop}(h:∃a b,p a b/\q a b/\r a b)(f:∀a b,p a b->q a b->r a b->C):C:=by obtain⟨a,b,h1,h2,h3⟩:=h;exact f a b h1 h2 h3
abbrev rj:=Sum Int Str
noncomputable def CC:rj->Vl->Bool
 | .inl k,v=>Value.isInt k v
 | .inr x,v=>Value.isStrOf x v
noncomputable def Wh(w:Wo):rj->Int
 | .inl k=>hashInt k
 | .inr x=>hashStr w x
def so:∀{k:rj} {v:Vl},CC k v=pc->(∃i t,k=Sum.inl i/\v=Value.int i t)\/(∃x t,k=Sum.inr x/\v=Value.str x t)
 | .inl i,v,h=>by obtain⟨t,e⟩:=Value.isInt_shape (k:=i) (v:=v) h;exact .inl ⟨i,t,Z',e⟩
 | .inr x,v,h=>by obtain⟨t,e⟩:=Value.isStrOf_shape (x:=x) (v:=v) h;exact .inr ⟨x,t,Z',e⟩
def Kf(i:Int)(t:Tok):CC (.inl i) (.int i t)=pc:=by simp[CC,Value.isInt]
def K1(x:Str)(t:Tok):CC (.inr x) (.str x t)=pc:=by simp[CC,Value.isStrOf]
def Tp(a b:Int):decide ((Sum.inl a:rj)=Sum.inl b)=(a==b):=by
 by_cases e:a=b
 .subst e;simp
 .have h:¬(Sum.inl a:rj)=Sum.inl b:=λq=>e (Sum.inl.inj q);rw[eP h];exact(gu.mpr e).symm
def Tg(a b:Str):decide ((Sum.inr a:rj)=Sum.inr b)=decide (a=b):=by
 by_cases e:a=b
 .subst e;simp
 .have h:¬(Sum.inr a:rj)=Sum.inr b:=λq=>e (jZ q);rw[eP h,eP e]
def Sj(a:Int)(b:Str):decide ((Sum.inl a:rj)=Sum.inr b)=lf:=eP (λq=>nomatch q)
def SQ(a:Str)(b:Int):decide ((Sum.inr a:rj)=Sum.inl b)=lf:=eP (λq=>nomatch q)
noncomputable def rL(prog:Pg)(w:Wo):PySem.KeyKind prog w rj where
 is:=CC
 hash:=Wh w
 inj:=λv a b ha hb=>by
  rcases so ha with⟨i,t,rfl,rfl⟩|⟨x,t,rfl,rfl⟩
  .rcases so hb with⟨j,u,rfl,e⟩|⟨y,u,rfl,e⟩
   .injection e with e1 _;rw[e1]
   .exact nomatch e
  .rcases so hb with⟨j,u,rfl,e⟩|⟨y,u,rfl,e⟩
   .exact nomatch e
   .injection e with e1 _;rw[e1]
 byValue:=λk v h=>by rcases so h with⟨i,t,rfl,rfl⟩|⟨x,t,rfl,rfl⟩<;>rfl
 pyHash:=λhv h=>by
  rcases so hv with⟨i,t,rfl,rfl⟩|⟨x,t,rfl,rfl⟩
  .exact wpAny_pyHash_int h
  .exact lL h
 eqBool:=λhu hv h=>by
  rcases so hu with⟨i,t,rfl,rfl⟩|⟨x,t,rfl,rfl⟩
  .rcases so hv with⟨j,u,rfl,rfl⟩|⟨y,u,rfl,rfl⟩
   .rw[Tp]at h;exact lM h
   .rw[Sj]at h;exact kO i t y u _ _ _ _ h
  .rcases so hv with⟨j,u,rfl,rfl⟩|⟨y,u,rfl,rfl⟩
   .rw[SQ]at h;exact kP x t j u _ _ _ _ h
   .rw[Tg]at h;exact wpAny_eqBool_str h
 «strs»:=λk x t v h=>by
  rcases so h with⟨i,u,rfl,e⟩|⟨y,u,rfl,e⟩
  .exact nomatch e
  .injection e with e1 _
   subst e1;cases v<;>rfl
def G8(prog:Pg)(w:Wo)(i:Int)(t:Tok):(rL prog w).is (.inl i) (.int i t)=pc:=Kf i t
def AO(prog:Pg)(w:Wo)(x:Str)(t:Tok):(rL prog w).is (.inr x) (.str x t)=pc:=K1 x t
inductive V where
 | mS|bl (b:Bool)|int (i:Int)|str (x:Str)|byt (b:Array UInt8)|flt (b:UInt64)|ref (a:Uf)|ty (n:String)
 deriving DecidableEq
def qR:V->Vl->Prop
 | .mS,u=>u=Value.none
 | .bl b,u=>u=Value.bool b
 | .int i,u=>∃t,u=Value.int i t
 | .str x,u=>∃t,u=Value.str x t
 | .byt b,u=>∃t,u=Value.bytes b t
 | .flt b,u=>∃t,u=Value.float b t
 | .ref a,u=>u=Value.ref a
 | .ty n,u=>u=Value.type n
abbrev qJ:T0 V->T0 Vl->Prop:=Paired qR
def qJ.length(r:qJ xs us):xs.length=us.length:=jp r
theorem qJ.get:∀{xs:T0 V} {us:T0 Vl} {i:Nat} {x:V},qJ xs us->xs[i]?=Fa x->∃u,us[i]?=Fa u/\qR x u
 | _,_,_,_,.nil,e=>by simp at e
 | _,_,0,_,.cons r _,e=>by simp at e;subst e;exact⟨_,Z',r⟩
 | _,_,i+1,x,.cons _ t,e=>by obtain⟨u,h1,h2⟩:=qJ.get (i:=i) (x:=x) t (by simpa using e);exact⟨u,by simpa using h1,h2⟩
theorem qJ.set(r:qR x u):∀{xs:T0 V} {us:T0 Vl} (i:Nat),qJ xs us->qJ (xs.set i x) (us.set i u)
 | _,_,_,.nil=>.nil
 | _,_,0,.cons _ t=>.cons r t
 | _,_,i+1,.cons q t=>.cons q (qJ.set r i t)
theorem qJ.append:∀{xs ys:T0 V} {us ws:T0 Vl},qJ xs us->qJ ys ws->qJ (xs++ys) (us++ws)
 | _,_,_,_,.nil,s=>s
 | _,_,_,_,.cons r t,s=>.cons r (qJ.append t s)
theorem qJ.take:∀{xs:T0 V} {us:T0 Vl} (n:Nat),qJ xs us->qJ (xs.take n) (us.take n)
 | _,_,0,_=>.nil
 | _,_,_+1,.nil=>.nil
 | _,_,n+1,.cons r t=>.cons r (qJ.take n t)
theorem qJ.drop:∀{xs:T0 V} {us:T0 Vl} (n:Nat),qJ xs us->qJ (xs.drop n) (us.drop n)
 | _,_,0,r=>r
 | _,_,_+1,.nil=>.nil
 | _,_,n+1,.cons _ t=>qJ.drop n t
def yF:Option V->Option Vl->Prop
 | some v,Fa u=>qR v u
 | none,none=>True
 | _,_=>False
def KV{κ:Type}:T0 (κ×V)->T0 (κ×Vl)->Prop:=Paired λ(p:κ×V) (q:κ×Vl)=>p.1=q.1/\qR p.2 q.2
noncomputable def kV:rj->V
 | .inl i=>.int i
 | .inr x=>.str x
inductive HO where
 | lst (xs:List V)
 | tup (xs:List V)
 | dK (kvs:List (rj×V))|dT (kvs:List (List rj×V))
 | set (S:Int->Bool) (n:Nat)
 | ins (C dx:Uf) (fs:List (Str×V))
 | own (x:Uf)
 | xd (fs:List (Str×V))
 | met (f x:Uf)
 | rng (lo hi:Int)
 | frz (o:Obj) (u:HO)
 | tbl (ps:Array Vl)
 | ext (φ:No->Prop)
abbrev Hp:=Uf->Option HO
noncomputable def upd(H:Hp)(a:Uf)(o:HO):Hp:=λb=>if b=a then Fa o else H b
def qw:upd H a o a=Fa o:=by unfold upd;rw[c9 Z']
def qh{a b:Uf}(h:b≠a):upd H a o b=H b:=by unfold upd;rw[cY h]
def QS:upd (upd H a o) a u=upd H a u:=by funext b;unfold upd;split<;>rfl
def UD{H:Hp}{a b:Uf}{o u:HO}(h:H a=Fa o)(h':H b=Fa u)(d:o≠u):a≠b:=by intro e;subst e;rw[h]at h';exact d (dh h')
def qZ{H:Hp}{a b:Uf}{o:HO}(h:H a=Fa o)(h':H b=Db):a≠b:=by intro e;subst e;rw[h]at h';cases h'
section
variable (P:Pg)(w:Wo)
def EK(h:No)(a:Uf)(its:Array Vl):Prop:=∃o,h.get? a=Fa o/\o.cls=.type "tuple"/\(∃n,o.data=.seq its n)/\o.dict=Db
def su(H:Hp)(h:No)(a:Uf):HO->Prop
 | .lst xs=>xs.length<=Ch/\∃(its:T0 Vl) (n:Nat),qJ xs its/\h.get? a=Fa {cls:=.type "list",data:=.seq its.toArray n}
 | .tup xs=>xs.length<=Ch/\∃its:T0 Vl,qJ xs its/\EK h a its.toArray
 | .dK kvs=>kvs.length<=Ch/\(a==XV)=lf/\∃vs,KV kvs vs/\h.DictOf (rL P w) a vs
 | .dT kvs=>kvs.length<=Ch/\(a==XV)=lf/\∃xs:T0 (List rj×Uf×Vl),Paired (λ(p:List rj×V) (q:List rj×Uf×Vl)=>p.1=q.1/\H q.2.1=Fa (.tup (p.1.map kV))/\qR p.2 q.2.2) kvs xs/\
   ∃o es ep,h.get? a=Fa o/\o.ExactDict/\o.data=.dict es ep/\es.toList=xs.map (entryOfKey (tupleKind (rL P w)))/\(xs.map (·.1)).Nodup
 | .set S n=>h.SetOf (intKind P w) a S n
 | .ins C dx fs=>H dx=Fa (.own a)/\fs.length<=1000/\dx≠a/\h.get? a=Fa (W.instObj C dx)/\
   ∃mA,h.Ns1 dx mA/\(∀f,yF (fs.lookup f) (mA f))/\PySem.Within mA (fs.map (·.1))
 | .own _=>∃o,h.get? a=Fa o
 | .xd fs=>∃mA,h.Ns1 a mA/\∀f,yF (fs.lookup f) (mA f)
 | .rng lo hi=>∃t u v,h.get? a=Fa {cls:=.type "range",data:=.fields #[.int lo t,.int hi u,.int 1 v]}
 | .frz o u=>h.get? a=Fa o/\su H h a u
 | .tbl ps=>h.get? a=Fa {cls:=.none,data:=.fields ps}
 | .met f x=>h.get? a=Fa (W.methodObj (.ref f) (.ref x))
 | .ext φ=>φ h/\(∃o,h.get? a=Fa o)/\∀h1 h2:No,φ h1->(∀o,h1.get? a=Fa o->h2.get? a=Fa o)->φ h2
def yE(H:Hp)(h:No):Prop:=∀a o,H a=Fa o->su P w H h a o
end
variable {H H':Hp}{h h':No}
section
variable {P:Pg}{w:Wo}{a:Uf}{o:HO}
def EK.is(x:EK h a its):IsTup h a its:=let⟨o,e,c,d,_⟩:=x;⟨o,e,c,d⟩
def EK.new(h:No)(XS:Array Vl):EK (h.push {cls:=.type "tuple",data:=.seq XS}) h.objs.size XS:=⟨_,dF _ Z',Z',⟨_,Z'⟩,Z'⟩
def su.lt(x:su P w H h a o):a<h.objs.size:=by
 cases o with
 | lst xs=>obtain⟨_,_,_,_,e⟩:=x;exact dv e
 | tup xs=>obtain⟨_,_,_,_,e,_⟩:=x;exact dv e
 | dK kvs=>obtain⟨_,_,_,_,o,_,_,e,_⟩:=x;exact dv e
 | dT kvs=>obtain⟨_,_,_,_,o,_,_,e,_⟩:=x;exact dv e
 | set S n=>obtain⟨o,_,_,_,e,_⟩:=x;exact dv e
 | ins C dx fs=>obtain⟨_,_,_,e,_⟩:=x;exact dv e
 | own y=>obtain⟨_,e⟩:=x;exact dv e
 | xd fs=>obtain⟨_,⟨_,_,_,e,_⟩,_⟩:=x;exact dv e
 | rng lo hi=>obtain⟨_,_,_,e⟩:=x;exact dv e
 | frz ob u=>obtain⟨e,_⟩:=x;exact dv e
 | tbl ps=>exact dv (show h.get? a=Fa _ from x)
 | met f y=>exact dv (show h.get? a=Fa _ from x)
 | ext φ=>obtain⟨_,⟨_,e⟩,_⟩:=x;exact dv e
theorem Paired.oJ{α β:Type}{F G:α->β->Prop}:∀{l₁:List α} {l₂:List β},Paired F l₁ l₂->(∀a b,F a b->G a b)->Paired G l₁ l₂
 | _,_,.nil,_=>.nil
 | _,_,.cons r t,f=>.cons (f _ _ r) (Paired.oJ t f)
def su.nA(x:su P w H h a o)(k:∀b u,(b=a\/H b=Fa (.own a))->h.get? b=Fa u->h'.get? b=Fa u) (ho:∀b,H b=Fa (.own a)->H' b=Fa (.own a)) (ht:∀b xs,H b=Fa (.tup xs)->H' b=Fa (.tup xs)):su P w H' h' a o:=by
 induction o with
 | lst xs=>obtain⟨z,its,n,r,e⟩:=x;exact⟨z,its,n,r,k _ _ (.inl Z') e⟩
 | tup xs=>obtain⟨z,its,r,ob,e,c⟩:=x;exact⟨z,its,r,ob,k _ _ (.inl Z') e,c⟩
 | dK kvs=>obtain⟨z,y,vs,r,ob,es,ep,e,c⟩:=x;exact⟨z,y,vs,r,ob,es,ep,k _ _ (.inl Z') e,c⟩
 | dT kvs=>obtain⟨z,y,xs,r,ob,es,ep,e,c⟩:=x;exact⟨z,y,xs,Paired.oJ r λp q z=>⟨z.1,ht _ _ z.2.1,z.2.2⟩,ob,es,ep,k _ _ (.inl Z') e,c⟩
 | set S n=>obtain⟨ob,es,ep,t,e,c⟩:=x;exact⟨ob,es,ep,t,k _ _ (.inl Z') e,c⟩
 | ins C dx fs=>obtain⟨d,z,ne,e,mA,⟨od,es,ep,e2,c⟩,r⟩:=x;exact⟨ho _ d,z,ne,k _ _ (.inl Z') e,mA,⟨od,es,ep,k _ _ (.inr d) e2,c⟩,r⟩
 | own y=>obtain⟨ob,e⟩:=x;exact⟨ob,k _ _ (.inl Z') e⟩
 | xd fs=>obtain⟨mA,⟨od,es,ep,e,c⟩,r⟩:=x;exact⟨mA,⟨od,es,ep,k _ _ (.inl Z') e,c⟩,r⟩
 | rng lo hi=>obtain⟨t,u,v,e⟩:=x;exact⟨t,u,v,k _ _ (.inl Z') e⟩
 | frz ob u ih=>obtain⟨e,q⟩:=x;exact⟨k _ _ (.inl Z') e,ih q⟩
 | tbl ps=>have e:h.get? a=Fa {cls:=.none,data:=.fields ps}:=x;show h'.get? a=Fa {cls:=.none,data:=.fields ps};exact k a _ (.inl Z') e
 | met f y=>have e:h.get? a=Fa (W.methodObj (.ref f) (.ref y)):=x;show h'.get? a=Fa (W.methodObj (.ref f) (.ref y));exact k a _ (.inl Z') e
 | ext φ=>obtain⟨p,⟨o,e⟩,st⟩:=x;exact⟨st _ _ p λo q=>k _ _ (.inl Z') q,⟨o,k _ _ (.inl Z') e⟩,st⟩
def yE.lt(x:yE P w H h)(e:H a=Fa o):a<h.objs.size:=(x a o e).lt
def yE.fresh(x:yE P w H h)(e:h.objs.size<=a):H a=Db:=by
 cases q:H a with
 | none=>rfl
 | some u=>exact absurd (dN (x.lt q) e) (eZ _)
def yE.kept(x:yE P w H h)(k:∀b u,h.get? b=Fa u->h'.get? b=Fa u):yE P w H h':=λa o e=>(x a o e).nA (λb u _ q=>k b u q) (λ_ q=>q) λ_ _ q=>q
def yE.laid(x:yE P w H h)(k:∀b u,h.get? b=Fa u->h'.get? b=Fa u)(hp:h.objs.size<=a)(new:su P w (upd H a o) h' a o):yE P w (upd H a o) h':=λb u e=>by
 have hn:=x.fresh hp;by_cases hb:b=a
 .subst hb;rw[qw]at e;cases e;exact new
 .rw[qh hb]at e;exact(x b u e).nA (λc v _ q=>k c v q) (λc q=>by rw[qh (qZ q hn)];exact q) λc xs q=>by rw[qh (qZ q hn)];exact q
end
def Rd(H:Hp)(a:Uf)(u:HO):Prop:=H a=Fa u\/∃o,H a=Fa (.frz o u)
def Rd.ok(r:Rd H a u)(x:yE P w H h):su P w H h a u:=by
 rcases r with r|⟨o,r⟩
 .exact x a u r
 .obtain⟨_,q⟩:=x a _ r;exact q
def UV:Option HO->Prop
 | some (.lst _)=>True
 | some (.dK _)=>True
 | some (.dT _)=>True
 | some (.set _ _)=>True
 | some (.ins _ _ _)=>True
 | some (.ext _)=>True
 | _=>False
variable {o':HO}
section
variable {P:Pg}{w:Wo}{x e:Uf}
def yE.write(ok:yE P w H h)(mu:UV (H x))(he:e=x\/H e=Fa (.own x))(k:∀b u,b≠e->h.get? b=Fa u->h'.get? b=Fa u)(heo:∃u,h'.get? e=Fa u) (new:su P w (upd H x o') h' x o'):yE P w (upd H x o') h':=λb u q=>by
 have nown:∀c y,H c=Fa (.own y)->c≠x:=λc y r z=>by subst z;rw[r]at mu;exact mu
 have ntup:∀c xs,H c=Fa (.tup xs)->c≠x:=λc xs r z=>by subst z;rw[r]at mu;exact mu
 by_cases hb:b=x
 .subst hb;rw[qw]at q;cases q;exact new
 .rw[qh hb]at q;by_cases hbe:b=e
  .have q':H b=Fa (.own x):=by
    rcases he with z|z
    .exact absurd (hbe.trans z) hb
    .rw[hbe];exact z
   rw[q]at q';cases q';obtain⟨v,hv⟩:=heo;exact⟨v,by rw[hbe];exact hv⟩
  .refine(ok b u q).nA (λc v hc r=>k c v ?_ r) (λc r=>by rw[qh (nown c b r)];exact r) λc xs r=>by rw[qh (ntup c xs r)];exact r
   rcases hc with rfl|hc
   .exact hbe
   .rintro rfl
    rcases he with z|z
    .exact nown c b hc z
    .rw[hc]at z;cases z;exact hb Z'
end
structure Un(fs ex:QXQ)(H H':Hp)(h h':No):Prop where
 keep:∀b o,h.get? b=Fa o->H b=Db->b∉fs->b∉ex->h'.get? b=Fa o
 slot:∀b o,h.get? b=Fa o->H b=Db->b∈fs->b∉ex->∃sl,h'.get? b=Fa {o with slots:=sl}
 free:∀b o,h.get? b=Fa o->H b=Db->b∉ex->H' b=Db
 there:∀b o,h.get? b=Fa o->b∉ex->∃o',h'.get? b=Fa o'
 nJ:∀b xs,H b=Fa (.tup xs)->H' b=Fa (.tup xs)
 nz:∀b o u,H b=Fa (.frz o u)->H' b=Fa (.frz o u)
 nK:∀b ps,H b=Fa (.tbl ps)->∃more,H' b=Fa (.tbl (ps++more))
variable {ex ex':QXQ}{H1 H2:Hp}{h1 h2:No}
section
variable {fs fs':QXQ}{a x e:Uf}{o:HO}
def Un.any(u:Un fs ex H H1 h h1){b:Uf}{ob:Obj}(q:h.get? b=Fa ob)(n:H b=Db)(hx:b∉ex):∃sl,h1.get? b=Fa {ob with slots:=sl}:=by
 by_cases hb:b∈fs
 .exact u.slot b ob q n hb hx
 .exact⟨ob.slots,u.keep b ob q n hb hx⟩
def Un.trans(a:Un fs ex H H1 h h1)(b:Un fs ex H1 H2 h1 h2):Un fs ex H H2 h h2 where
 keep:=λc ob q n hc hx=>b.keep c ob (a.keep c ob q n hc hx) (a.free c ob q n hx) hc hx
 slot:=λc ob q n hc hx=>by obtain⟨sl,e1⟩:=a.slot c ob q n hc hx;obtain⟨Zf,e2⟩:=b.slot c _ e1 (a.free c ob q n hx) hc hx;exact⟨Zf,e2⟩
 free:=λc ob q n hx=>by obtain⟨o',e1⟩:=a.there c ob q hx;exact b.free c o' e1 (a.free c ob q n hx) hx
 there:=λc ob q hx=>by obtain⟨o',e1⟩:=a.there c ob q hx;exact b.there c o' e1 hx
 nJ:=λc xs q=>b.nJ c xs (a.nJ c xs q)
 nz:=λc ob xs q=>b.nz c ob xs (a.nz c ob xs q)
 nK:=λc ps q=>by obtain⟨m1,e1⟩:=a.nK c ps q;obtain⟨m2,e2⟩:=b.nK c _ e1;exact⟨m1++m2,by rw[e2,kQ]⟩
def Un.kept(k:∀b u,h.get? b=Fa u->h'.get? b=Fa u):Un fs ex H H h h':=
 ⟨λb ob q _ _ _=>k b ob q,λb ob q _ _ _=>⟨ob.slots,k b ob q⟩,λ_ _ _ n _=>n,λb ob q _=>⟨ob,k b ob q⟩,λ_ _ q=>q,λ_ _ _ q=>q,λ_ ps q=>⟨#[],by rw[q];simp⟩⟩
def Un.refl:Un fs ex H H h h:=Un.kept λ_ _ q=>q
def Un.laid(k:∀b u,h.get? b=Fa u->h'.get? b=Fa u)(hp:h.objs.size<=a)(hn:H a=Db):Un fs ex H (upd H a o) h h' where
 keep:=λb u q _ _ _=>k b u q
 slot:=λb u q _ _ _=>⟨u.slots,k b u q⟩
 free:=λb u q n _=>by rw[qh (dE (dN (dv q) hp))];exact n
 there:=λb u q _=>⟨u,k b u q⟩
 nJ:=λb xs q=>by rw[qh (qZ q hn)];exact q
 nz:=λb u xs q=>by rw[qh (qZ q hn)];exact q
 nK:=λb ps q=>⟨#[],by rw[qh (qZ q hn),q];simp⟩
def Un.write(mu:UV (H x))(he:e=x\/H e=Fa (.own x))(k:∀b u,b≠e->h.get? b=Fa u->h'.get? b=Fa u)(heo:∃u,h'.get? e=Fa u):Un fs ex H (upd H x o) h h':=by
 have hx:∀b,H b=Db->b≠x:=λb n z=>by subst z;rw[n]at mu;exact mu
 have hb:∀b,H b=Db->b≠e:=λb n z=>by
  subst z;rcases he with r|r
  .exact hx b n r
  .rw[n]at r;cases r
 have hm:∀b u,H b=Fa u->¬UV (Fa u)->b≠x:=λb u q nm z=>by subst z;rw[q]at mu;exact nm mu
 refine⟨λb u q n _ _=>k b u (hb b n) q,λb u q n _ _=>⟨u.slots,k b u (hb b n) q⟩,λb u q n _=>by rw[qh (hx b n)];exact n,λb u q _=>?_,λb xs q=>by rw[qh (hm b _ q λz=>z)];exact q,λb u xs q=>by rw[qh (hm b _ q λz=>z)];exact q,λb ps q=>⟨#[],by rw[qh (hm b _ q λz=>z),q];simp⟩⟩
 by_cases hbe:b=e
 .subst hbe;exact heo
 .exact⟨u,k b u hbe q⟩
end
noncomputable def V5(h:No)(H:Hp):QXQ:=(List.range h.objs.size).filter λa=>(H a).isSome
noncomputable def EY(h:No)(H:Hp):No:=W.hideAll h (V5 h H)
def KF(h:No)(H:Hp):(EY h H).objs.size=h.objs.size:=W.hideAll_size _ _
def Nd{h:No}{H:Hp}{b:Uf}{o:Obj}(e:h.get? b=Fa o)(n:H b=Db):(EY h H).get? b=Fa o:=
 W.hideAll_get _ e λhm=>by have q:(H b).isSome=pc:=(fC.mp hm).2;rw[n]at q;simp at q
def QQ{b:Uf}{o:Obj}(e:(EY h H).get? b=Fa o):h.get? b=Fa o/\H b=Db:=by
 have e':h.get? b=Fa o:=W.of_hideAll (V5 h H) e;refine⟨e',?_⟩;cases q:H b with
 | none=>rfl
 | some x=>have hm:b∈V5 h H:=fC.mpr ⟨gf.mpr (dv e'),by simp[q]⟩;have z:(EY h H).get? b=Db:=W.hideAll_none (V5 h H) hm;rw[z]at e;cases e
structure Mod(K:qC)(mg:QQZ)(base:No):Prop where
 oC:K.In base
 glob:base.Ns Ix mg
 blt:∃mb,base.Ns builtinsNs mb/\∀x:Str,x≠"__name__"->mb x=zn x
 nolimit:base.NoLimit
structure Cx where
 prog:Pg
 w:Wo
 K:qC
 mg:QQZ
 base:No
 A:Ar
 N:QQQ
 s₀:Sd
 H₀:Hp
 env:Env
 outer:List Env
 stack:List Env
 ex:QXQ
 fn:Str->Bool
 calm:Bool
 pn:QQY
 xe:QQX
abbrev Bw(X:Cx)(e:Go)(es:T0 Go):Prop:=Tl (e::es) X.env=(lf,wp e X.env)::Tl es X.env
abbrev Dc(X:Cx)(p:Pos)(es:T0 Go):Prop:=(xz p (Tl es X.env)).any (·.1)=lf
abbrev zb(x:Str):Prop:=(x==("__debug__":Str))=lf
abbrev Lm(X:Cx)(x:Str):Prop:=X.fn x=pc\/X.env.scope.names.lookup x=Fa .local
noncomputable def wx(l:T0 Env):QXQ:=l.filterMap (·.frame)
abbrev Cx.fs(X:Cx):QXQ:=wx X.outer
def R9(sc:XXd)(x:Str):Prop:=sc.names.lookup x=Fa .local\/sc.names.lookup x=Fa .cell\/sc.names.lookup x=Fa .free
def Ll(sc:XXd)(x:Str):Prop:=sc.names.lookup x=Fa .local\/sc.names.lookup x=Fa .cell
def Uz(env:Env)(h:No)(m:QQZ)(x:Str)(u:Vl):Prop:=
 (env.kindOf x=Fa .local/\m x=Fa u)\/((env.kindOf x=Fa .cell\/env.kindOf x=Fa .free)/\∃c,env.cells.lookup x=Fa c/\h.IsCell c (Fa u))
structure Cx.Ok(X:Cx):Prop where
 mod:Mod X.K X.mg X.base
 kind:X.env.scope.kind=.function
 glob:X.env.globals=Ix
 blt:X.env.builtins=builtinsNs
 above:X.s₀.heap.objs.size<=X.env.locals
 inj:∀x y c,X.env.cells.lookup x=Fa c->X.env.cells.lookup y=Fa c->x=y
 has:∀x,(X.env.kindOf x=Fa .cell\/X.env.kindOf x=Fa .free)->∃c,X.env.cells.lookup x=Fa c
 oO:∀x c,X.fn x=pc->X.env.cells.lookup x=Fa c->X.s₀.heap.objs.size<=c
 hd:X.calm=pc->X.A.handled=Db
 frames:X.A.frames=Fa X.stack
 oR:X.stack=X.outer\/(X.stack=X.env::X.outer/\X.env.frame=Fa X.env.locals)
 pB:∀b∈X.ex,b≠X.env.locals/\∀x c,X.env.cells.lookup x=Fa c->c≠b
 bs:∀b o,X.base.get? b=Fa o->X.s₀.heap.get? b=Fa o/\X.H₀ b=Db
 oo:X.base.objs.size<=X.s₀.heap.objs.size
 nV:∀b o,X.base.get? b=Fa o->b∉X.ex
 oi:∀b∈X.ex,b∉X.fs
 nF:X.s₀.heap.FunFrames X.base X.outer
 oA:∀b∈X.fs,X.H₀ b=Db
structure Inv(X:Cx)(XQ:QQY)(Y:List (Option V))(H:Hp)(s:Sd):Prop where
 ok:X.Ok
 os:s.os=X.s₀.os
 bare:XYa s.gens
 base:Un X.fs X.ex X.H₀ H X.s₀.heap s.heap
 loc:∃m,s.heap.Ns X.env.locals m/\∀(i:Nat) (x:Str) (v:V),X.N[i]?=Fa x->Y[i]?=Fa (Fa v)->R9 X.env.scope x->∃u,qR v u/\Uz X.env s.heap m x u
 cell:∀x c,X.env.cells.lookup x=Fa c->∃v,s.heap.IsCell c v
 free:H X.env.locals=Db
 m9:∀x c,X.env.cells.lookup x=Fa c->H c=Db
 pin:∀p∈X.pn++XQ,s.heap.get? p.1=Fa p.2/\H p.1=Db/\p.1≠X.env.locals/\p.1∉X.fs/\∀v,p.2.data≠.cell v
 mW:yE X.prog X.w H s.heap
 len:Y.length=X.N.length
variable {X:Cx}{XQ:T0 (Uf × Obj)}{s:Sd}
section
variable {Y:T0 (Option V)}
def Cx.Ok.nofr(ok:X.Ok){b:Uf}{o:Obj}(e:X.base.get? b=Fa o):b∉X.fs:=λhb=>by have:=(ok.nF.mem hb).1;rw[e]at this;cases this
def Inv.bs(I:Inv X XQ Y H s):∀b o,X.base.get? b=Fa o->s.heap.get? b=Fa o/\H b=Db:=λb o e=>⟨I.base.keep b o (I.ok.bs b o e).1 (I.ok.bs b o e).2 (I.ok.nofr e) (I.ok.nV b o e),I.base.free b o (I.ok.bs b o e).1 (I.ok.bs b o e).2 (I.ok.nV b o e)⟩
def Inv.bk(I:Inv X XQ Y H s):∀b o,X.base.get? b=Fa o->s.heap.get? b=Fa o:=λb o e=>(I.bs b o e).1
def Inv.mod(I:Inv X XQ Y H s):Mod X.K X.mg X.base:=I.ok.mod
def Inv.nk(I:Inv X XQ Y H s):X.K.In s.heap:=I.ok.mod.oC.keeps I.bk
def Inv.lt(I:Inv X XQ Y H s):X.env.locals<s.heap.objs.size:=let⟨_,hn,_⟩:=I.loc;hn.lt
def Inv.sz(I:Inv X XQ Y H s):X.s₀.heap.objs.size<=s.heap.objs.size:=dY I.ok.above (jD I.lt)
def Inv.pz(I:Inv X XQ Y H s){a:Uf}(h:s.heap.objs.size<=a):a∉X.fs:=λhb=>by obtain⟨_,o,ho,_⟩:=I.ok.nF.mem hb;exact absurd (dN (dv ho) (dY I.sz h)) (eZ _)
def Inv.pC(I:Inv X XQ Y H s):∀x c,X.env.cells.lookup x=Fa c->c≠X.env.locals:=λx c e z=>by obtain⟨v,o,ho,hd⟩:=I.cell x c e;obtain⟨m,⟨o',es,ep,Yw,hd',_⟩,_⟩:=I.loc;rw[z,Yw]at ho;cases ho;rw[hd']at hd;cases hd
def Inv.nF(I:Inv X XQ Y H s):s.heap.FunFrames X.base X.outer:=by
 have all:∀(l:T0 Env),(∀b∈wx l,b∈X.fs)->X.s₀.heap.FunFrames X.base l->s.heap.FunFrames X.base l:=by
  intro l;induction l with
  | nil=>intro _ _;trivial
  | cons env r ih=>intro hs hl;obtain⟨hk,⟨L,o,hf,hn,ho,hd⟩,hr⟩:=hl;have hL:L∈X.fs:=hs L (by unfold wx;rw[fW,hf];exact dG);obtain⟨sl,e⟩:=I.base.slot L o ho (I.ok.oA L hL) hL λz=>I.ok.oi L z hL;exact⟨hk,⟨L,_,hf,hn,e,hd⟩,ih (λb hb=>hs b (by unfold wx;rw[fW,hf];exact dC _ hb)) hr⟩
 exact all X.outer (λ_ hb=>hb) I.ok.nF
def Inv.stack(I:Inv X XQ Y H s):s.heap.FunFrames X.base X.stack:=by
 rcases I.ok.oR with e|⟨e,hf⟩
 .rw[e];exact I.nF
 .rw[e];obtain⟨m,hn,_⟩:=I.loc;refine .cons (by rw[I.ok.kind];decide) hf hn ?_ I.nF;exact gI (dY I.ok.oo I.ok.above)
def Inv.nE(I:Inv X XQ Y H s):∀b∈wx X.stack,b∈X.env.locals::X.fs:=λb hb=>by
 rcases I.ok.oR with e|⟨e,hf⟩
 .rw[e]at hb;exact dC _ hb
 .rw[e]at hb;unfold wx at hb;rw[fW,hf]at hb;exact hb
def Inv.nN(I:Inv X XQ Y H s):∀b∈wx X.stack,H b=Db:=λb hb=>by
 rcases de.mp (I.nE b hb)with e|hb
 .rw[e];exact I.free
 .obtain⟨_,o,ho,_⟩:=I.ok.nF.mem hb;exact I.base.free b o ho (I.ok.oA b hb) λz=>I.ok.oi b z hb
def Inv.step{g':Array GenState}{t':Nat}{d':Drawn}{ch:QXQ}(I:Inv X XQ Y H s) (YO:∀b∈ch,(b∈X.ex\/X.s₀.heap.objs.size<=b)/\b≠X.env.locals/\(∀x c,X.env.cells.lookup x=Fa c->c≠b)/\∀p∈X.pn++XQ,p.1≠b) (keep:∀b o,b≠X.env.locals->b∉X.fs->b∉ch->s.heap.get? b=Fa o->H b=Db->h'.get? b=Fa o) (slot:∀b o,b≠X.env.locals->b∈X.fs->b∉ch->s.heap.get? b=Fa o->H b=Db->∃sl,h'.get? b=Fa {o with slots:=sl}) (free:∀b o,b∉ch->s.heap.get? b=Fa o->H b=Db->H' b=Db)
  (there:∀b o,b∉ch->s.heap.get? b=Fa o->∃o',h'.get? b=Fa o')
  (nJ:∀b xs,H b=Fa (.tup xs)->H' b=Fa (.tup xs)) (nz:∀b o u,H b=Fa (.frz o u)->H' b=Fa (.frz o u)) (nK:∀b ps,H b=Fa (.tbl ps)->∃more,H' b=Fa (.tbl (ps++more)))
  (ns:∀m,s.heap.Ns X.env.locals m->h'.Ns X.env.locals m) (mW:yE X.prog X.w H' h') (hg:XYa g'):
  Inv X XQ Y H' {s with heap:=h',gens:=g',drawn:=d',toks:=t'}:=by
 have neL:∀b o,X.s₀.heap.get? b=Fa o->b≠X.env.locals:=λb o e=>dE (dN (dv e) I.ok.above);have neC:∀b o,X.s₀.heap.get? b=Fa o->b∉X.ex->b∉ch:=λb o e hx hb=>by
  rcases(YO b hb).1 with z|z
  .exact hx z
  .exact absurd (dN (dv e) z) (eZ _)
 have cellK:∀x c,X.env.cells.lookup x=Fa c->∀v,s.heap.IsCell c v->h'.IsCell c v:=λx c e v ⟨o,ho,hd⟩=>by
  have nch:c∉ch:=λz=>(YO c z).2.2.1 x c e Z';by_cases hc:c∈X.fs
  .obtain⟨sl,q⟩:=slot c o (I.pC x c e) hc nch ho (I.m9 x c e);exact⟨_,q,hd⟩
  .exact⟨o,keep c o (I.pC x c e) hc nch ho (I.m9 x c e),hd⟩
 refine⟨I.ok,I.os,hg,⟨λb o e n hb hx=>?_,λb o e n hb hx=>?_,λb o e n hx=>?_,λb o e hx=>?_,λb xs e=>nJ b xs (I.base.nJ b xs e),λb o xs e=>nz b o xs (I.base.nz b o xs e),λb ps e=>?_⟩,?_,λx c e=>?_,?_,λx c e=>?_,λp hp=>?_,mW,I.len⟩
 .exact keep b o (neL b o e) hb (neC b o e hx) (I.base.keep b o e n hb hx) (I.base.free b o e n hx)
 .obtain⟨sl,e1⟩:=I.base.slot b o e n hb hx;obtain⟨Zf,e2⟩:=slot b _ (neL b o e) hb (neC b o e hx) e1 (I.base.free b o e n hx);exact⟨Zf,e2⟩
 .obtain⟨o',e1⟩:=I.base.there b o e hx;exact free b o' (neC b o e hx) e1 (I.base.free b o e n hx)
 .obtain⟨o',e1⟩:=I.base.there b o e hx;exact there b o' (neC b o e hx) e1
 .obtain⟨m1,e1⟩:=I.base.nK b ps e;obtain⟨m2,e2⟩:=nK b _ e1;exact⟨m1++m2,by rw[e2,kQ]⟩
 .obtain⟨m,hn,hl⟩:=I.loc;refine⟨m,ns m hn,λi x v e1 e2 e3=>?_⟩;obtain⟨u,r,l⟩:=hl i x v e1 e2 e3;refine⟨u,r,?_⟩;rcases l with l|⟨k,c,e,z⟩
  .exact .inl l
  .exact .inr ⟨k,c,e,cellK x c e _ z⟩
 .obtain⟨v,z⟩:=I.cell x c e;exact⟨v,cellK x c e v z⟩
 .obtain⟨m,⟨o,_,_,ho,_⟩,_⟩:=I.loc;exact free _ o (λz=>(YO _ z).2.1 Z') ho I.free
 .obtain⟨v,o,ho,hd⟩:=I.cell x c e;exact free c o (λz=>(YO c z).2.2.1 x c e Z') ho (I.m9 x c e)
 .obtain⟨e,n,ne,nf,d⟩:=I.pin p hp;have nch:p.1∉ch:=λz=>(YO p.1 z).2.2.2 p hp Z';exact⟨keep p.1 p.2 ne nf nch e n,free p.1 p.2 nch e n,ne,nf,d⟩
def Inv.un{t':Nat}(I:Inv X XQ Y H s)(u:Un X.fs [] H H' s.heap h')(mW:yE X.prog X.w H' h'):Inv X XQ Y H' {s with heap:=h',toks:=t'}:=by
 obtain⟨m,⟨o,es,ep,ho,r⟩,_⟩:=id I.loc;obtain⟨sl,hL⟩:=u.any ho I.free (by simp);exact I.step (g':=s.gens) (d':=s.drawn) (ch:=[]) (λ_ z=>nomatch z) (λb o _ hb _ e n=>u.keep b o e n hb (by simp)) (λb o _ hb _ e n=>u.slot b o e n hb (by simp)) (λb o _ e n=>u.free b o e n (by simp)) (λb o _ e=>u.there b o e (by simp)) u.nJ u.nz u.nK (λm' hm=>by
  obtain⟨o',es',ep',Yw,r'⟩:=hm;rw[ho]at Yw;cases Yw;exact⟨_,es',ep',hL,r'⟩) mW I.bare
def Inv.call{t':Nat}{d':Drawn}(I:Inv X XQ Y H s)(u:Un (wx X.stack) ch H H' s.heap h')(mW:yE X.prog X.w H' h')(hg:XYa g') (YO:∀b∈ch,(b∈X.ex\/X.s₀.heap.objs.size<=b)/\b≠X.env.locals/\(∀x c,X.env.cells.lookup x=Fa c->c≠b)/\∀p∈X.pn++XQ,p.1≠b):
  Inv X XQ Y H' {s with heap:=h',gens:=g',drawn:=d',toks:=t'}:=by
 obtain⟨m,⟨o,es,ep,ho,r⟩,_⟩:=id I.loc;obtain⟨sl,hL⟩:=u.any ho I.free λz=>(YO _ z).2.1 Z';exact I.step (ch:=ch) YO (λb o hL hb hc e n=>u.keep b o e n (λz=>(de.mp (I.nE b z)).elim hL hb) hc) (λb o _ _ hc e n=>u.any e n hc) (λb o hc e n=>u.free b o e n hc) (λb o hc e=>u.there b o e hc) u.nJ u.nz u.nK (λm' hm=>by
  obtain⟨o',es',ep',Yw,r'⟩:=hm;rw[ho]at Yw;cases Yw;exact⟨_,es',ep',hL,r'⟩) mW hg
def Inv.turned{t':Nat}{it:Uf}(I:Inv X XQ Y H s)(k:∀b o,b≠it->s.heap.get? b=Fa o->h'.get? b=Fa o)(hn:H it=Db)(hL:it≠X.env.locals) (h1:it∈X.ex\/X.s₀.heap.objs.size<=it) (h2:∀x c,X.env.cells.lookup x=Fa c->c≠it) (h3:∀p∈X.pn++XQ,p.1≠it):Inv X XQ Y H {s with heap:=h',toks:=t'}:=by
 have nit:∀b u,H b=Fa u->b≠it:=λb u e z=>by rw[z,hn]at e;cases e
 refine I.step (g':=s.gens) (d':=s.drawn) (ch:=[it]) (λb hb=>?_) (λb o _ _ hc e _=>k b o (λz=>hc (by simp[z])) e) (λb o _ _ hc e _=>⟨o.slots,k b o (λz=>hc (by simp[z])) e⟩) (λ_ _ _ _ n=>n)
  (λb o hc e=>⟨o,k b o (λz=>hc (by simp[z])) e⟩) (λ_ _ e=>e) (λ_ _ _ e=>e) (λb ps e=>⟨#[],by rw[e];simp⟩) (λm hm=>?_) (λb u e=>?_) I.bare
 .have e:b=it:=by simpa using hb
  subst e;exact⟨h1,hL,h2,h3⟩
 .obtain⟨o,es,ep,ho,r⟩:=hm;exact⟨o,es,ep,k _ o (dO hL) ho,r⟩
 .refine(I.mW b u e).nA (λc v hc q=>k c v ?_ q) (λ_ q=>q) λ_ _ q=>q;rcases hc with z|z
  .rw[z];exact nit b u e
  .exact nit c _ z
def Inv.tok(I:Inv X XQ Y H s)(t:Nat):Inv X XQ Y H {s with toks:=t}:=I.un (h':=s.heap) (t':=t) Un.refl I.mW
def Inv.kept{t':Nat}(I:Inv X XQ Y H s)(k:∀b u,s.heap.get? b=Fa u->h'.get? b=Fa u):Inv X XQ Y H {s with heap:=h',toks:=t'}:=I.un (Un.kept k) (I.mW.kept k)
def Inv.laid{a:Uf}{t':Nat}(I:Inv X XQ Y H s)(k:∀b u,s.heap.get? b=Fa u->h'.get? b=Fa u)(hp:s.heap.objs.size<=a)(new:su X.prog X.w (upd H a o) h' a o):
  Inv X XQ Y (upd H a o) {s with heap:=h',toks:=t'}:=I.un (Un.laid k hp (I.mW.fresh hp)) (I.mW.laid k hp new)
def Inv.write{x e:Uf}{t':Nat}(I:Inv X XQ Y H s)(mu:UV (H x))(he:e=x\/H e=Fa (.own x))(k:∀b u,b≠e->s.heap.get? b=Fa u->h'.get? b=Fa u)(heo:∃u,h'.get? e=Fa u) (new:su X.prog X.w (upd H x o) h' x o):Inv X XQ Y (upd H x o) {s with heap:=h',toks:=t'}:=I.un (Un.write mu he k heo) (I.mW.write mu he k heo new)
def Inv.nS{YQ:QQY}(I:Inv X XQ Y H s)(h:∀p∈YQ,s.heap.get? p.1=Fa p.2/\H p.1=Db/\p.1≠X.env.locals/\p.1∉X.fs/\∀v,p.2.data≠.cell v):Inv X YQ Y H s:=
 ⟨I.ok,I.os,I.bare,I.base,I.loc,I.cell,I.free,I.m9,λp hp=>(dQ.mp hp).elim (λz=>I.pin p (fg _ z)) (h p),I.mW,I.len⟩
def CW{N:QQQ}(hN:N.Nodup){i j:Nat}{x:Str}(a:N[i]?=Fa x)(b:N[j]?=Fa x):i=j:=by obtain⟨h1,e1⟩:=cX.mp a;obtain⟨h2,e2⟩:=cX.mp b;exact(lN hN).mp (e1.trans e2.symm)
def DT{M:Model}{A:Ar}{E:QQX}{i:Nat}{x:Str}{Q:Unit->Sd->Prop}(I:Inv X XQ Y H s)(hN:X.N.Nodup)(hi:X.N[i]?=Fa x)(hx:Ll X.env.scope x)(r:qR v u) (h:∀s',Inv X XQ (Y.set i (Fa v)) H s'->(∃a,Heap.SameBut a s.heap s'.heap/\(a=X.env.locals\/X.env.cells.lookup x=Fa a))->Q () s') (hf:Lm X x:=by first|exact .inl Z'|exact .inr Z'|assumption):pi M A (storeName X.env x u) Q E s:=by
 obtain⟨m,hn,hl⟩:=id I.loc;have hcls:(X.env.scope.kind==.class||(X.env.scope.kind==.module&&X.env.locals != X.env.globals))=lf:=by rw[I.ok.kind];rfl
 have hiσ:i<Y.length:=by rw[I.len];exact(cX.mp hi).1
 have pC:=I.pC;have X8:∀{a:Uf} {h':No},(∃o,s.heap.get? a=Fa o/\H a=Db)->Heap.SameBut a s.heap h'->yE X.prog X.w H h':=λ{a h'} ha hs b ob e=>by
  obtain⟨_,_,YB⟩:=ha;refine(I.mW b ob e).nA (λc w' hc q=>(hs.2 c ?_).trans q) (λ_ q=>q) λ_ _ q=>q
  rintro rfl
  rcases hc with rfl|hc
  .rw[YB]at e;cases e
  .rw[YB]at hc;cases hc
 rcases hx with hk|hk
 .refine wpAny_storeName_local hk hn (λh' Zm hs=>?_) hcls;obtain⟨oL,_,_,hoL,_⟩:=id hn;refine h _ ⟨I.ok,I.os,I.bare,⟨λb o e n hb hx=>?_,λb o e n hb hx=>?_,I.base.free,λb o e hx=>?_,I.base.nJ,I.base.nz,I.base.nK⟩,⟨_,Zm,λj y v' e1 e2 e3=>?_⟩,λy c e=>?_,I.free,I.m9,λp hp=>?_,X8 ⟨oL,hoL,I.free⟩ hs,by simpa using I.len⟩ ⟨_,hs,.inl Z'⟩
  .exact(hs.2 b (dE (dN (dv e) I.ok.above))).trans (I.base.keep b o e n hb hx)
  .obtain⟨sl,e1⟩:=I.base.slot b o e n hb hx;exact⟨sl,(hs.2 b (dE (dN (dv e) I.ok.above))).trans e1⟩
  .obtain⟨o',e1⟩:=I.base.there b o e hx;exact⟨o',(hs.2 b (dE (dN (dv e) I.ok.above))).trans e1⟩
  .by_cases hj:j=i
   .subst hj;rw[hi]at e1;cases e1;rw[eM hiσ]at e2;cases e2;exact⟨u,r,.inl ⟨hk,by simp⟩⟩
   .rw[eQ (dO hj)]at e2;obtain⟨u',r',q⟩:=hl j y v' e1 e2 e3;refine⟨u',r',?_⟩;rcases q with⟨k,e⟩|⟨k,c,e,z⟩
    .refine .inl ⟨k,?_⟩;have:y≠x:=λe=>hj (CW hN e1 (e ▸ hi));simp[this,e]
    .exact .inr ⟨k,c,e,z.sameBut hs (pC y c e)⟩
  .obtain⟨w',z⟩:=I.cell y c e;exact⟨w',z.sameBut hs (pC y c e)⟩
  .obtain⟨e,n,ne,nf,d⟩:=I.pin p hp;exact⟨(hs.2 p.1 ne).trans e,n,ne,nf,d⟩
 .have hfn:X.fn x=pc:=by
   rcases hf with z|z
   .exact z
   .rw[z]at hk;cases hk
  obtain⟨c,hc⟩:=I.ok.has x (.inl hk);obtain⟨w',z⟩:=I.cell x c hc;refine wpAny_storeName_cell I.ok.kind hk hc z (λh' hc' hs=>?_);obtain⟨oc,hoc,hocd⟩:=id z;refine h {s with heap:=h'} ⟨I.ok,I.os,I.bare,⟨λb o e n hb hx=>?_,λb o e n hb hx=>?_,I.base.free,λb o e hx=>?_,I.base.nJ,I.base.nz,I.base.nK⟩,⟨m,hn.sameBut hs (dO (pC x c hc)),λj y v' e1 e2 e3=>?_⟩,λy c' e=>?_,I.free,I.m9,λp hp=>?_,X8 ⟨oc,hoc,I.m9 x c hc⟩ hs,by simpa using I.len⟩ ⟨c,hs,.inr hc⟩
  .exact(hs.2 b (dE (dN (dv e) (I.ok.oO x c hfn hc)))).trans (I.base.keep b o e n hb hx)
  .obtain⟨sl,e1⟩:=I.base.slot b o e n hb hx;exact⟨sl,(hs.2 b (dE (dN (dv e) (I.ok.oO x c hfn hc)))).trans e1⟩
  .obtain⟨o',e1⟩:=I.base.there b o e hx;exact⟨o',(hs.2 b (dE (dN (dv e) (I.ok.oO x c hfn hc)))).trans e1⟩
  .by_cases hj:j=i
   .subst hj;rw[hi]at e1;cases e1;rw[eM hiσ]at e2;cases e2;exact⟨u,r,.inr ⟨.inl hk,c,hc,hc'⟩⟩
   .rw[eQ (dO hj)]at e2;obtain⟨u',r',q⟩:=hl j y v' e1 e2 e3;refine⟨u',r',?_⟩;rcases q with q|⟨k,c',e,z'⟩
    .exact .inl q
    .refine .inr ⟨k,c',e,z'.sameBut hs ?_⟩
     rintro rfl
     exact hj (CW hN e1 (I.ok.inj _ _ _ e hc ▸ hi))
  .by_cases hcc:c'=c
   .subst hcc;exact⟨_,hc'⟩
   .obtain⟨w2,z2⟩:=I.cell y c' e;exact⟨w2,z2.sameBut hs hcc⟩
  .obtain⟨e,n,ne,nf,d⟩:=I.pin p hp;refine⟨(hs.2 p.1 ?_).trans e,n,ne,nf,d⟩;intro q;rw[q,hoc]at e;have q':oc=p.2:=dh e;exact d w' (by rw[<-q'];exact hocd)
def x8{M:Model}{A:Ar}{E:QQX}{i:Nat}{x:Str}{Q:Unit->Sd->Prop}(I:Inv X XQ Y H s)(hN:X.N.Nodup)(hi:X.N[i]?=Fa x)(hx:Ll X.env.scope x)(r:qR v u) (h:∀s',Inv X XQ (Y.set i (Fa v)) H s'->Q () s') (hf:Lm X x:=by first|exact .inl Z'|exact .inr Z'|assumption):pi M A (storeName X.env x u) Q E s:=
 DT I hN hi hx r (λs' I' _=>h s' I') hf
def Inv.oX{s':Sd}(I:Inv X XQ Y H s)(ho:s'.os=s.os)(u:Un (wx X.stack) ch H H' s.heap s'.heap)(mW:yE X.prog X.w H' s'.heap)(hg:XYa s'.gens) (YO:∀b∈ch,(b∈X.ex\/X.s₀.heap.objs.size<=b)/\b≠X.env.locals/\(∀x c,X.env.cells.lookup x=Fa c->c≠b)/\∀p∈X.pn++XQ,p.1≠b):Inv X XQ Y H' s':=by
 obtain⟨h',g',d',t',o'⟩:=s';have e:o'=s.os:=ho;subst e;exact I.call (g':=g') (t':=t') (d':=d') u mW hg YO
end
abbrev XK:=Vl->Option Uf->Hp->Prop
abbrev St:=T0 (Option V)
abbrev VK:=V->Hp->Prop
abbrev TE:=St->Hp->VK->Prop
abbrev TT:=St->Hp->(Bool->Hp->Prop)->Prop
abbrev TA:=St->Hp->(T0 V->Hp->Prop)->Prop
structure F8 where
 nx:St->Hp->Prop
 rt:VK
 bk:St->Hp->Prop:=λ_ _=>False
 ct:St->Hp->Prop:=λ_ _=>False
abbrev TS:=F8->St->Hp->Prop
def EP(X:Cx)(XQ:QQY)(Y:St)(Q:VK)(u:Vl)(s':Sd):Prop:=∃v H',Inv X XQ Y H' s'/\qR v u/\Q v H'
def TP(X:Cx)(XQ:QQY)(Y:St)(Q:Bool->Hp->Prop)(b:Bool)(s':Sd):Prop:=∃H',Inv X XQ Y H' s'/\Q b H'
def AP(X:Cx)(XQ:QQY)(Y:St)(Q:T0 V->Hp->Prop)(us:T0 Vl)(s':Sd):Prop:=∃vs H',Inv X XQ Y H' s'/\qJ vs us/\Q vs H'
def SP(X:Cx)(XQ:QQY)(D:F8)(f:Flow)(s':Sd):Prop:=
 match f with
 | .next=>∃σ' H',Inv X XQ σ' H' s'/\D.nx σ' H'
 | .brk=>∃σ' H',Inv X XQ σ' H' s'/\D.bk σ' H'
 | .cont=>∃σ' H',Inv X XQ σ' H' s'/\D.ct σ' H'
 | .ret u=>∃v σ' H',Inv X XQ σ' H' s'/\qR v u/\D.rt v H'
def PE(X:Cx)(e:Go)(t:TE):Prop:=
 ∀(XQ:QQY) (s:Sd) (Y:St) (H:Hp) (Q:VK),Inv X XQ Y H s->t Y H Q->pi (Tk X.prog X.w) X.A (wp e X.env) (EP X XQ Y Q) X.xe s
def PT(X:Cx)(e:Go)(t:TT):Prop:=
 ∀(XQ:QQY) (s:Sd) (Y:St) (H:Hp) (Q:Bool->Hp->Prop),Inv X XQ Y H s->t Y H Q->pi (Tk X.prog X.w) X.A (isTrue e X.env (wp e X.env)) (TP X XQ Y Q) X.xe s
def PW(X:Cx)(e:Go)(t:TT):Prop:=
 ∀(Yq:Sem Vl) (XQ:QQY) (s:Sd) (Y:St) (H:Hp) (Q:Bool->Hp->Prop),Inv X XQ Y H s->t Y H Q->pi (Tk X.prog X.w) X.A (isTrue e X.env Yq) (TP X XQ Y Q) X.xe s
def PW.pt(h:PW X e t):PT X e t:=h _
def PA(X:Cx)(es:T0 Go)(t:TA):Prop:=
 ∀(pos:Pos) (XQ:QQY) (s:Sd) (Y:St) (H:Hp) (Q:T0 V->Hp->Prop),Inv X XQ Y H s->t Y H Q->pi (Tk X.prog X.w) X.A (spliced (xz pos (Tl es X.env))) (AP X XQ Y Q) X.xe s
def PS(X:Cx)(st:TD)(t:TS):Prop:=
 ∀(XQ:QQY) (s:Sd) (Y:St) (H:Hp) (D:F8),Inv X XQ Y H s->t D Y H->pi (Tk X.prog X.w) X.A (exec st X.env) (SP X XQ D) X.xe s
def CS(X:Cx)(st:T0 TD)(t:TS):Prop:=
 ∀(XQ:QQY) (s:Sd) (Y:St) (H:Hp) (D:F8),Inv X XQ Y H s->t D Y H->pi (Tk X.prog X.w) X.A (execs st X.env) (SP X XQ D) X.xe s
def sS{α:Type}{t:Sem α}{Q Q':α->Sd->Prop}{M:Model}{A:Ar}{E:QQX}{s:Sd}(h:pi M A t Q E s)(hQ:∀a s,Q a s->Q' a s):pi M A t Q' E s:=d9 h hQ λ_ _ x=>x
variable {tA tB':TT}{ta tb:TE}{pos:Pos}
section
def F7(i:Nat):TE:=λY H Q=>∃v,Y[i]?=Fa (Fa v)/\Q v H
def tC(v:V):TE:=λ_ H Q=>Q v H
def Ls{i:Nat}{x:Str}(hN:X.N[i]?=Fa x)(hv:R9 X.env.scope x)(hd:zb x:=by decide)(YR:(x==("__classdict__":Str))=lf:=by decide):PE X (.Name x pos) (F7 i):=by
 intro XQ s Y H Q I h;obtain⟨v,e,h⟩:=h;obtain⟨m,hn,hl⟩:=I.loc;obtain⟨u,r,l⟩:=hl i x v hN e hv;have XW:EP X XQ Y Q u s:=⟨v,H,I,r,h⟩;rcases l with⟨hk,hm⟩|⟨hk,c,hc,hcell⟩
 .exact ma (wpAny_loadName_local I.ok.kind hk hn hm XW) hd
 .rcases hk with hk|hk
  .exact ma (wpAny_loadName_cell I.ok.kind hk hc hcell XW) hd
  .exact ma (wpAny_loadName_free I.ok.kind hk hc hcell XW YR) hd
def T6{i j pos}:PE X (.Constant (.int i) j pos) (tC (.int i)):=λ_ _ _ H _ I h=>wpAny_Constant_int ⟨.int i,H,I.tok _,⟨_,Z'⟩,h⟩
def Vw{b j pos}:PE X (.Constant (.bool b) j pos) (tC (.bl b)):=λ_ _ _ H _ I h=>Constant_bool ⟨.bl b,H,I,Z',h⟩
def R8{j pos}:PE X (.Constant .none j pos) (tC .mS):=λ_ _ _ H _ I h=>Constant_none ⟨.mS,H,I,Z',h⟩
def R6{x j pos}:PE X (.Constant (.str x) j pos) (tC (.str x)):=λ_ _ _ H _ I h=>Calls.Constant_str ⟨.str x,H,I.tok _,⟨_,Z'⟩,h⟩
def Gl(X:Cx)(x:Str):Prop:=X.env.kindOf x=Fa .globalImplicit
def xk{E:QQX}{XQ:QQY}{u:Vl}{Q:QQX}(I:Inv X XQ Y H s)(hg:Gl X x)(hm:X.mg x=Fa u)(h:Q u s) (hd:zb x:=by decide):pi (Tk X.prog X.w) X.A (wp (.Name x pos) X.env) Q E s:=
 jq I.ok.kind hg (Calls.loadGlobal_global (by rw[I.ok.glob];exact I.mod.glob.keeps I.bk) hm h) hd
def xj{E:QQX}{XQ:QQY}{u:Vl}{Q:QQX}(I:Inv X XQ Y H s)(hg:Gl X x)(hm:X.mg x=Db)(hv:zn x=Fa u)(h:Q u s) (hn:x≠"__name__":=by decide) (hd:zb x:=by decide):pi (Tk X.prog X.w) X.A (wp (.Name x pos) X.env) Q E s:=by
 obtain⟨mb,h1,h2⟩:=I.mod.blt;exact jq I.ok.kind hg (Calls.loadGlobal_builtin (by rw[I.ok.glob];exact I.mod.glob.keeps I.bk) hm (by rw[I.ok.blt];exact h1.keeps I.bk) ((h2 x hn).trans hv) h) hd
def F2{u:Vl}(hg:Gl X x)(hm:X.mg x=Fa u)(r:qR v u)(hd:zb x:=by decide):PE X (.Name x pos) (tC v):=
 λ_ _ _ H _ I h=>xk I hg hm ⟨v,H,I,r,h⟩ hd
def OX{u:Vl}(hg:Gl X x)(hm:X.mg x=Db)(hv:zn x=Fa u)(r:qR v u)(hn:x≠"__name__":=by decide)(hd:zb x:=by decide):PE X (.Name x pos) (tC v):=
 λ_ _ _ H _ I h=>xj I hg hm hv ⟨v,H,I,r,h⟩ hn hd
variable {a b:Go}
def tB(t:TE):TT:=λY H Q=>t Y H λx H1=>∃c,x=.bl c/\Q c H1
def Si(h:PE X e t)(he:∀Yq,isTrue e X.env Yq=(do let v<-Yq;XXc e.pos;ZB [v] (truthy v)):=by intro _;rfl):PT X e (tB t):=by intro XQ s Y H Q I hw;refine isTrue_plain (sS (h XQ s Y H _ I hw) λv s1 zz=>x5 zz λx H1 I1 r1 q1=>?_) (he _);obtain⟨d,rfl,q⟩:=q1;cases r1;exact fj ⟨H1,I1,q⟩
variable {rest:T0 Go}
def W6(t u:TT):TT:=λY H Q=>t Y H λc H1=>if c=pc then u Y H1 Q else Q lf H1
def XC(t u:TT):TT:=λY H Q=>t Y H λc H1=>if c=pc then Q pc H1 else u Y H1 Q
def WB(t:TT):TT:=λY H Q=>t Y H λc H1=>Q (!c) H1
def Re(ha:PT X a tA):PW X (.BoolOp .And [a] pos) tA:=by
 intro wh XQ s Y H Q I h;refine isTrue_and (sS (ha XQ s Y H Q I h) λc s1 e=>?_);cases c with
 | true=>exact isTrue_and_nil e
 | false=>exact e
def RP(ha:PT X a tA):PW X (.BoolOp .Or [a] pos) tA:=by
 intro wh XQ s Y H Q I h;refine isTrue_or (sS (ha XQ s Y H Q I h) λc s1 e=>?_);cases c with
 | false=>exact isTrue_or_nil e
 | true=>exact e
def SD(ha:PT X a tA)(hb:PW X (.BoolOp .And (b::rest) pos) tB'):PW X (.BoolOp .And (a::b::rest) pos) (W6 tA tB'):=by
 intro wh XQ s Y H Q I h;refine isTrue_and (sS (ha XQ s Y H _ I h) λc s1 ⟨H1,I1,q1⟩=>?_);cases c with
 | true=>exact hb wh XQ s1 Y H1 Q I1 q1
 | false=>exact⟨H1,I1,q1⟩
def VF(ha:PT X a tA)(hb:PW X (.BoolOp .Or (b::rest) pos) tB'):PW X (.BoolOp .Or (a::b::rest) pos) (XC tA tB'):=by
 intro wh XQ s Y H Q I h;refine isTrue_or (sS (ha XQ s Y H _ I h) λc s1 ⟨H1,I1,q1⟩=>?_);cases c with
 | true=>exact⟨H1,I1,q1⟩
 | false=>exact hb wh XQ s1 Y H1 Q I1 q1
def R0(ha:PT X a tA):PT X (.UnaryOp .Not a pos) (WB tA):=by intro XQ s Y H Q I h;exact isTrue_not (ha XQ s Y H (λc H1=>Q (!c) H1) I h)
def UU(ta tb:TE):TE:=λY H Q=>ta Y H λx H1=>∃c,x=.bl c/\if c=pc then tb Y H1 Q else Q (.bl lf) H1
def Wa(ta tb:TE):TE:=λY H Q=>ta Y H λx H1=>∃c,x=.bl c/\if c=pc then Q (.bl pc) H1 else tb Y H1 Q
def Uq(ta:TE):TE:=λY H Q=>ta Y H λx H1=>∃c,x=.bl c/\Q (.bl (!c)) H1
def TL{op}(h:PE X a t):PE X (.BoolOp op [a] pos) t:=λXQ s Y H Q I hw=>BoolOp_one (h XQ s Y H Q I hw)
def TX(ha:PE X a ta)(hb:PE X (.BoolOp .And (b::rest) pos) tb):PE X (.BoolOp .And (a::b::rest) pos) (UU ta tb):=by
 intro XQ s Y H Q I h;refine BoolOp_and (sS (ha XQ s Y H _ I h) λv s1 zz=>x5 zz λx H1 I1 r1 q1=>?_);obtain⟨c,rfl,q1⟩:=q1;cases r1;refine fj ?_;cases c with
 | true=>exact hb XQ s1 Y H1 Q I1 q1
 | false=>exact⟨.bl lf,H1,I1,Z',q1⟩
def UI(ha:PE X a ta)(hb:PE X (.BoolOp .Or (b::rest) pos) tb):PE X (.BoolOp .Or (a::b::rest) pos) (Wa ta tb):=by
 intro XQ s Y H Q I h;refine BoolOp_or (sS (ha XQ s Y H _ I h) λv s1 zz=>x5 zz λx H1 I1 r1 q1=>?_);obtain⟨c,rfl,q1⟩:=q1;cases r1;refine fj ?_;cases c with
 | false=>exact hb XQ s1 Y H1 Q I1 q1
 | true=>exact⟨.bl pc,H1,I1,Z',q1⟩
def RV(ha:PE X a ta):PE X (.UnaryOp .Not a pos) (Uq ta):=by intro XQ s Y H Q I h;refine UnaryOp_ (sS (ha XQ s Y H _ I h) λv s1 zz=>x5 zz λx H1 I1 r1 q1=>?_);obtain⟨c,rfl,q1⟩:=q1;cases r1;exact not_of (fj ⟨.bl (!c),H1,I1,Z',q1⟩)
def XJ(t:TT)(ta tb:TE):TE:=λY H Q=>t Y H λc H1=>if c=pc then ta Y H1 Q else tb Y H1 Q
def L9(hc:PT X c tA)(ha:PE X a ta)(hb:PE X b tb):PE X (.IfExp c a b pos) (XJ tA ta tb):=by
 intro XQ s Y H Q I h;refine wpAny_IfExp (sS (hc XQ s Y H _ I h) λd s1 ⟨H1,I1,q1⟩=>?_);cases d with
 | true=>exact ha XQ s1 Y H1 Q I1 q1
 | false=>exact hb XQ s1 Y H1 Q I1 q1
end
def zo(K:qC)(H:Hp)(a:Uf)(xs:T0 V):Prop:=
 Rd H a (.lst xs)\/
  ∃(o:Obj) (its:Array Vl) (n:Nat),K.lookup a=Fa o/\o.cls=.type "list"/\o.dict=Db/\o.data=.seq its n/\its.size<=Ch/\qJ xs its.toList
def vn(K:qC)(H:Hp)(a:Uf)(xs:T0 V):Prop:=
 Rd H a (.tup xs)\/
  ∃(o:Obj) (its:Array Vl) (n:Nat),K.lookup a=Fa o/\o.cls=.type "tuple"/\o.dict=Db/\o.data=.seq its n/\its.size<=Ch/\qJ xs its.toList
noncomputable def Wb:Vl->Option V
 | .none=>Fa .mS
 | .bool b=>Fa (.bl b)
 | .int i _=>Fa (.int i)
 | .str x _=>Fa (.str x)
 | .bytes b _=>Fa (.byt b)
 | .float b _=>Fa (.flt b)
 | .ref a=>Fa (.ref a)
 | .type n=>Fa (.ty n)
 | _=>Db
def qR.abs(r:qR x u):Wb u=Fa x:=by
 cases x with
 | mS=>cases r;rfl
 | bl _=>cases r;rfl
 | int _=>obtain⟨t,rfl⟩:=r;rfl
 | str _=>obtain⟨t,rfl⟩:=r;rfl
 | byt _=>obtain⟨t,rfl⟩:=r;rfl
 | flt _=>obtain⟨t,rfl⟩:=r;rfl
 | ref _=>cases r;rfl
 | ty _=>cases r;rfl
def qR.inj(r:qR x u)(q:qR y u):x=y:=dh (r.abs.symm.trans q.abs)
theorem qJ.inj:∀{xs ys:T0 V} {us:T0 Vl},qJ xs us->qJ ys us->xs=ys
 | _,_,_,.nil,.nil=>rfl
 | _,_,_,.cons r t,.cons r' t'=>by rw[r.inj r',qJ.inj t t']
variable {xs ys:T0 V}
section
variable {Y:St}{a:Uf}
def vn.of{K:qC}(h:H a=Fa (.tup xs)):vn K H a xs:=.inl (.inl h)
def Inv.list(I:Inv X XQ Y H s)(h:zo X.K H a xs):∃its:T0 Vl,qJ xs its/\PlainL s.heap a its.toArray/\xs.length<=Ch:=by
 rcases h with h|⟨o,its,n,hk,hc,hd,hs,hz,r⟩
 .obtain⟨z,its,n,r,e⟩:=h.ok I.mW;exact⟨its,r,⟨_,n,e,Z',Z',Z'⟩,z⟩
 .refine⟨its.toList,r,⟨o,n,I.nk a o hk,hc,hd,by simpa using hs⟩,?_⟩;have e:=r.length;simp only[ie]at e;omega
def Inv.tuple(I:Inv X XQ Y H s)(h:vn X.K H a xs):∃its:T0 Vl,qJ xs its/\IsTup s.heap a its.toArray/\xs.length<=Ch:=by
 rcases h with h|⟨o,its,n,hk,hc,hd,hs,hz,r⟩
 .obtain⟨z,its,r,p⟩:=h.ok I.mW;exact⟨its,r,p.is,z⟩
 .refine⟨its.toList,r,⟨o,I.nk a o hk,hc,n,by simpa using hs⟩,?_⟩;have e:=r.length;simp only[ie]at e;omega
def Inv.nW(I:Inv X XQ Y H s)(h:zo X.K H a xs)(h':zo X.K H a ys):xs=ys:=by
 obtain⟨its,r,⟨o,n,e,_,_,d⟩,_⟩:=I.list h;obtain⟨its',r',⟨o',n',e',_,_,d'⟩,_⟩:=I.list h';rw[e]at e';cases e';rw[d]at d';injection d' with d1 _
 have:its=its':=by simpa using eK Array.toList d1
 subst this;exact r.inj r'
def Inv.nv(I:Inv X XQ Y H s)(h:vn X.K H a xs)(h':vn X.K H a ys):xs=ys:=by
 obtain⟨its,r,⟨o,e,_,n,d⟩,_⟩:=I.tuple h;obtain⟨its',r',⟨o',e',_,n',d'⟩,_⟩:=I.tuple h';rw[e]at e';cases e';rw[d]at d';injection d' with d1 _
 have:its=its':=by simpa using eK Array.toList d1
 subst this;exact r.inj r'
end
abbrev Cx.nQ(X:Cx)(E:QQX):Cx:={X with xe:=E}
abbrev Cx.oB(X:Cx):Cx:=X.nQ λ_ _=>False
def Cx.Ok.nQ{X:Cx}(ok:X.Ok)(E:QQX):(X.nQ E).Ok:=
 ⟨ok.mod,ok.kind,ok.glob,ok.blt,ok.above,ok.inj,ok.has,ok.oO,ok.hd,ok.frames,ok.oR,ok.pB,ok.bs,ok.oo,ok.nV,ok.oi,ok.nF,ok.oA⟩
def Cx.Ok.nu{X:Cx}{E:QQX}(ok:(X.nQ E).Ok):X.Ok:=
 ⟨ok.mod,ok.kind,ok.glob,ok.blt,ok.above,ok.inj,ok.has,ok.oO,ok.hd,ok.frames,ok.oR,ok.pB,ok.bs,ok.oo,ok.nV,ok.oi,ok.nF,ok.oA⟩
section
variable {Y:St}{E:QQX}
def Inv.nQ(I:Inv X XQ Y H s)(E:QQX):Inv (X.nQ E) XQ Y H s:=⟨I.ok.nQ E,I.os,I.bare,I.base,I.loc,I.cell,I.free,I.m9,I.pin,I.mW,I.len⟩
def Inv.nu(I:Inv (X.nQ E) XQ Y H s):Inv X XQ Y H s:=⟨I.ok.nu,I.os,I.bare,I.base,I.loc,I.cell,I.free,I.m9,I.pin,I.mW,I.len⟩
def SP.nu{D:F8}(h:SP (X.nQ E) XQ D f s'):SP X XQ D f s':=by
 cases f with
 | next=>obtain⟨σ',H',I,q⟩:=h;exact⟨σ',H',I.nu,q⟩
 | brk=>obtain⟨σ',H',I,q⟩:=h;exact⟨σ',H',I.nu,q⟩
 | cont=>obtain⟨σ',H',I,q⟩:=h;exact⟨σ',H',I.nu,q⟩
 | ret u=>obtain⟨v,σ',H',I,r,q⟩:=h;exact⟨v,σ',H',I.nu,r,q⟩
def CS.oB{st:T0 TD}(h:CS X.oB st t):CS X st t:=λXQ s Y H D I hw=>d9 (h XQ s Y H D (I.nQ _) hw) (λ_ _ q=>q.nu) λ_ _ z=>False.elim z
end
variable {st:TD}{u:TS}{te:TE}
section
variable {rest:T0 TD}{t:TS}{e:Go}
def Vd:TS:=λD Y H=>D.nx Y H
def WQ(t u:TS):TS:=λD Y H=>t {D with nx:=u D} Y H
def PR:CS X [] Vd:=λ_ _ Y H _ I h=>gQ ⟨Y,H,I,h⟩
def NK(h1:PS X st t)(h2:CS X rest u):CS X (st::rest) (WQ t u):=by
 intro XQ s Y H D I h;refine jE (sS (h1 XQ s Y H {D with nx:=u D} I h) λf s1 q=>?_);cases f with
 | next=>obtain⟨σ',H',I',q⟩:=q;exact h2 XQ s1 σ' H' D I' q
 | ret v=>exact q
 | brk=>exact q
 | cont=>exact q
def EL(h1:PS X st t):CS X [st] t:=by
 intro XQ s Y H D I h;refine jE (sS (h1 XQ s Y H D I h) λf s1 q=>?_);cases f with
 | next=>exact gQ q
 | ret v=>exact q
 | brk=>exact q
 | cont=>exact q
def UP:TS:=λD Y H=>D.ct Y H
def G4:PS X (.Continue pos) UP:=λ_ _ Y H _ I h=>wpAny_Continue ⟨Y,H,I,h⟩
def Inv.quiet{XQ:QQY}(I:Inv X XQ Y H s):interactive X.env=lf:=by simp[interactive,I.ok.kind]
def UY(te:TE):TS:=λD Y H=>te Y H λ_ H1=>D.nx Y H1
def OY(he:PE X e te)(hs:sB e Db pos.line X.env=pure lf:=by rfl):PS X (.Expr e pos) (UY te):=by intro XQ s Y H D I h;exact wpAny_Expr_any (sS (he XQ s Y H _ I h) λv s1 zz=>x5 zz λx H1 I1 r1 q1=>⟨Y,H1,I1,q1⟩) I.quiet hs
def Xc(te:TE):TS:=λD Y H=>te Y H D.rt
def R7(he:PE X e te):PS X (.Return (Fa e) pos) (Xc te):=by intro XQ s Y H D I h;exact wpAny_Return_some (sS (he XQ s Y H _ I h) λv s1 zz=>x5 zz λx H1 I1 r1 q1=>⟨x,Y,H1,I1,r1,q1⟩)
def W5(c:TT)(t u:TS):TS:=λD Y H=>c Y H λb H1=>if b=pc then t D Y H1 else u D Y H1
def Uu(hc:PT X c tc)(ha:CS X a t)(hb:CS X b u):PS X (.If c a b pos) (W5 tc t u):=by
 intro XQ s Y H D I h;refine wpAny_If (sS (hc XQ s Y H _ I h) λd s1 ⟨H1,I1,q1⟩=>?_);cases d with
 | true=>exact ha XQ s1 Y H1 D I1 q1
 | false=>exact hb XQ s1 Y H1 D I1 q1
def Sn:TS:=λ_ _ _=>False
def Mt:PS X st Sn:=λ_ _ _ _ _ _ h=>h.elim
end
abbrev TG:=V->St->Hp->(St->Hp->Prop)->Prop
abbrev Qk:=T0 V->St->Hp->(St->Hp->Prop)->Prop
def PG(X:Cx)(Ym:Go)(t:TG):Prop:=
 ∀(XQ:QQY) (s:Sd) (Y:St) (H:Hp) (v:V) (u:Vl) (Q:St->Hp->Prop),Inv X XQ Y H s->qR v u->t v Y H Q->
  pi (Tk X.prog X.w) X.A (assign Ym X.env u) (λ_ s'=>∃σ' H',Inv X XQ σ' H' s'/\Q σ' H') X.xe s
def Oy(X:Cx)(ts:T0 Go)(t:Qk):Prop:=
 ∀(XQ:QQY) (s:Sd) (Y:St) (H:Hp) (vs:T0 V) (us:T0 Vl) (Q:St->Hp->Prop),Inv X XQ Y H s->qJ vs us->t vs Y H Q->
  pi (Tk X.prog X.w) X.A (assignInOrder ((At ts X.env).map (·.2)) us) (λ_ s'=>∃σ' H',Inv X XQ σ' H' s'/\Q σ' H') X.xe s
abbrev Tb:=V->V->V->Hp->(Hp->Prop)->Prop
def VC(X:Cx)(t:Tb):Prop:=
 ∀(XQ:QQY) (s:Sd) (Y:St) (H:Hp) (o i v:V) (ov iv u:Vl) (Q:Hp->Prop),Inv X XQ Y H s->qR o ov->qR i iv->qR v u->t o i v H Q->
  pi (Tk X.prog X.w) X.A (setItem ov iv u) (λ_ s'=>∃H',Inv X XQ Y H' s'/\Q H') X.xe s
def JC(i:Nat):TG:=λv Y H Q=>Q (Y.set i (Fa v)) H
def O9{i:Nat}{x:Str}(hN:X.N.Nodup)(hi:X.N[i]?=Fa x)(hx:Ll X.env.scope x)(hf:Lm X x:=by first|exact .inl Z'|exact .inr Z'|assumption):PG X (.Name x pos) (JC i):=by intro XQ s Y H v u Q I r h;exact lq (x8 I hN hi hx r (λs' I'=>⟨_,H,I',h⟩) hf)
def Wt:Qk:=λvs Y H Q=>vs=[]/\Q Y H
def Vo(t:TG)(u:Qk):Qk:=λvs Y H Q=>∃v r,vs=v::r/\t v Y H λσ' H'=>u r σ' H' Q
def OL:Oy X [] Wt:=by intro XQ s Y H vs us Q I r h;obtain⟨e,h⟩:=h;subst e;cases r;exact assignInOrder_nil ⟨Y,H,I,h⟩
def NZ{u:Qk}(h1:PG X e t)(h2:Oy X es u) (hs:(At (e::es) X.env).map (·.2)=assign e X.env::(At es X.env).map (·.2):=by rfl):Oy X (e::es) (Vo t u):=by
 intro XQ s Y H vs us Q I r h;obtain⟨v,vr,e1,h⟩:=h;subst e1;cases r with
 | cons r rr=>rw[hs];refine assignInOrder_cons (sS (h1 XQ s Y H _ _ _ I r h) λ_ s1 ⟨σ1,H1,I1,q1⟩=>?_);exact h2 XQ s1 σ1 H1 _ _ Q I1 rr q1
def Wz(K:qC)(n:Nat)(t:Qk):TG:=λv Y H Q=>∃a xs,v=.ref a/\vn K H a xs/\xs.length=n/\t xs Y H Q
def SX{n:Nat}(hc:X.calm=pc)(h:Oy X es t) (hn:(At es X.env).length=n:=by rfl) (Yf:(At es X.env).findIdx? (·.1)=Db:=by rfl):PG X (.Tuple es k pos) (Wz X.K n t):=by
 intro XQ s Y H v u Q I r hw;obtain⟨a,xs,e1,hq,hl,hw⟩:=hw;subst e1;cases r;obtain⟨its,rv,ht,hz⟩:=I.tuple hq;refine assign_Tuple_tuple (I.ok.hd hc) ht (by simp[hn,<-hl,rv.length]) Yf λh' hx=>?_;have I1:Inv X XQ Y H {s with heap:=h'}:=I.kept (t':=s.toks) λb o e=>hx b o (dE (dv e)) e;exact h XQ _ Y H xs _ Q I1 (by simpa using rv) hw
def WR(to ti:TE)(t:Tb):TG:=λv Y H Q=>to Y H λo H1=>ti Y H1 λi H2=>t o i v H2 λH3=>Q Y H3
def SC(ho:PE X o to)(hi:PE X i ti)(hs:VC X t) (ha:∀v,assign (.Subscript o i pos) X.env v=(do
   let ov<-ZB [v] (wp o X.env);let iv<-ZB [v,ov] (wp i X.env)
   XXc pos
   ZB [v,ov,iv] (setItem ov iv v)
   release [v,ov,iv] []):=by intro _;rfl):PG X (.Subscript o i pos) (WR to ti t):=by
 intro XQ s Y H v u Q I r h;rw[ha];refine cU (eB (sS (ho XQ s Y H _ I h) λov s1 zz=>x5 zz λx H1 I1 r1 q1=>?_));refine cU (eB (sS (hi XQ s1 Y H1 _ I1 q1) λiv s2 zz=>x5 zz λy H2 I2 r2 q2=>?_));refine cU (gP (cU (eB (sS (hs XQ s2 Y H2 x y v ov iv u _ I2 r1 r2 r q2) λ_ s3 ⟨H3,I3,q3⟩=>?_))));exact wpAny_release ⟨Y,H3,I3,q3⟩
def OJ(te:TE)(g:TG):TS:=λD Y H=>te Y H λx H1=>g x Y H1 D.nx
def T4(he:PE X e te)(hg:PG X tg g)(hs:swapsWithSole [tg] e pos.line X.env=pure lf:=by rfl)(hw:swappedStores [tg] e X.env=pure Db:=by rfl)
  (h1:(At [tg] X.env).map (·.2)=[assign tg X.env]:=by rfl):PS X (.Assign [tg] e pos) (OJ te g):=by
 intro XQ s Y H D I h;refine wpAny_Assign_stores (sS (he XQ s Y H _ I h) λv s1 zz=>x5 zz λx H1 I1 r1 q1=>?_) hs hw;rw[h1];exact sS (hg XQ s1 Y H1 x v _ I1 r1 q1) λ_ s2 q=>q
def MK{i:Nat}{x:Str}(hN:X.N.Nodup)(hi:X.N[i]?=Fa x)(hx:Ll X.env.scope x)(he:PE X e te)(hs:sB e (Fa (.Name x X0)) pos.line X.env=pure lf:=by rfl)(hf:Lm X x:=by first|exact .inl Z'|exact .inr Z'|assumption):
  PS X (.Assign [.Name x X0] e pos) (OJ te (JC i)):=by
 intro XQ s Y H D I h;refine ls (sS (he XQ s Y H _ I h) λv s1 zz=>x5 zz λy H1 I1 r1 q1=>?_) hs;exact x8 I1 hN hi hx r1 (λs2 I2=>⟨_,H1,I2,q1⟩) hf
def R4(c:TT)(tb:TS):TS:=λD Y H=>∃W:Nat->St->Hp->Prop,(∃m,W m Y H)/\∀m Y H,W m Y H->
 c Y H λb H1=>if b=pc then ∃N:St->Hp->Prop,(∀σ' H',N σ' H'->∃m',m'<m/\W m' σ' H')/\tb {D with nx:=N,ct:=N,bk:=D.nx} Y H1 else D.nx Y H1
def LC{tb:TS}(hp:PassesOwn (Tk X.prog X.w) X.A X.env X.xe)(hc:PT X c tc)(hb:CS X body tb):PS X (.While c body [] pos) (R4 tc tb):=by
 intro XQ s Y H D I h;obtain⟨W,⟨m0,w0⟩,turn⟩:=h;refine wpAny_While (codeAny_whileLoop (λn s'=>∃σ' H',Inv X XQ σ' H' s'/\W n σ' H') ?_ m0 ⟨Y,H,I,w0⟩)
 rintro n s1 ⟨σ1,H1,I1,w1⟩
 refine gA hp (sS (hc XQ s1 σ1 H1 _ I1 (turn n σ1 H1 w1)) λb s2 ⟨H2,I2,q2⟩=>?_);cases b with
 | true=>
  obtain⟨N,hN,q2⟩:=q2;rw[c9 Z'];refine gA hp (sS (hb XQ s2 σ1 H2 _ I2 q2) λf s3 q3=>?_);cases f with
  | next=>obtain⟨σ3,H3,I3,n3⟩:=q3;obtain⟨m',hm,w3⟩:=hN σ3 H3 n3;exact⟨m',hm,σ3,H3,I3,w3⟩
  | cont=>obtain⟨σ3,H3,I3,n3⟩:=q3;obtain⟨m',hm,w3⟩:=hN σ3 H3 n3;exact⟨m',hm,σ3,H3,I3,w3⟩
  | brk=>exact q3
  | ret v=>exact q3
 | false=>rw[cY dz];exact gQ ⟨σ1,H2,I2,q2⟩
structure It where
 go:Nat->Hp->Prop
 pq:Nat->Hp->V->Hp->Prop
 stop:Nat->Hp->Prop
def Ba(X:Cx)(XQ:QQY)(H:Hp)(b:Uf):Prop:=
 H b=Db/\b≠X.env.locals/\b∉X.fs/\(b∈X.ex\/X.s₀.heap.objs.size<=b)/\(∀x c,X.env.cells.lookup x=Fa c->c≠b)/\∀p∈X.pn++XQ,p.1≠b
def Inv.og{XQ:QQY}{H H':Hp}{b:Uf}(I:Inv X XQ Y H s)(hb:s.heap.objs.size<=b)(hn:H' b=Db):Ba X XQ H' b:=by
 refine⟨hn,gL (dN I.lt hb),I.pz hb,.inr (dY I.sz hb),λx c e z=>?_,λp hp z=>?_⟩
 .obtain⟨v,q⟩:=I.cell x c e;exact absurd (dN q.lt (by rw[z];exact hb)) (eZ _)
 .exact absurd (dN (dv (I.pin p hp).1) (by rw[z];exact hb)) (eZ _)
structure Hk(P:Pg)(w:Wo)(K:qC)(tg:Go)(J:It)(fp:QXQ)(it:Uf)(tn:Nat->No->Prop):Prop where
 mem:it∈fp
 obj:∀i h,tn i h->∀b∈fp,∃o,h.get? b=Fa o/\∀v,o.data≠.cell v
 keep:∀i h h',tn i h->(∀b∈fp,∀o,h.get? b=Fa o->h'.get? b=Fa o)->tn i h'
 item:∀(X:Cx),X.prog=P->X.w=w->X.K=K->X.calm=pc->∀(i:Nat) (XQ:QQY) (s:Sd) (Y:St) (H:Hp) (E:QQX),Inv X XQ Y H s->(∀b∈fp,Ba X XQ H b)->tn i s.heap->J.go i H->
  pi (Tk P w) X.A (pyNext (.ref it)) (λr s1=>∃u,r=Fa u/\
   pi (Tk P w) X.A (XXi tg (.ref it) u) (λ_ s2=>∃x H',Inv X XQ Y H' s2/\qR x u/\J.pq i H x H'/\tn (i+1) s2.heap/\∀b∈fp,H' b=Db) E s1) E s
 done:∀(X:Cx),X.prog=P->X.w=w->X.K=K->X.calm=pc->∀(i:Nat) (XQ:QQY) (s:Sd) (Y:St) (H:Hp) (E:QQX),Inv X XQ Y H s->(∀b∈fp,Ba X XQ H b)->tn i s.heap->J.stop i H->
  pi (Tk P w) X.A (pyNext (.ref it)) (λr s1=>r=Db/\Inv X XQ Y H s1) E s
 self:∀(A:Ar) (i:Nat) (s:Sd) (Q:QQX) (E:QQX),tn i s.heap->Q (.ref it) s->pi (Tk P w) A (pyIter (.ref it)) Q E s
abbrev TI:=St->Hp->(It->Hp->Prop)->Prop
def Xo(X:Cx)(XQ:QQY)(Y:St)(tg:Go)(R:It->Hp->Prop)(itv:Vl)(s2:Sd):Prop:=
 ∃(it:Uf) (fp:QXQ) (tn:Nat->No->Prop) (J:It) (H':Hp),itv=.ref it/\Inv X XQ Y H' s2/\Hk X.prog X.w X.K tg J fp it tn/\tn 0 s2.heap/\(∀b∈fp,Ba X XQ H' b)/\R J H'
def PI(X:Cx)(tg iter:Go)(wi:TI):Prop:=
 ∀(XQ:QQY) (s:Sd) (Y:St) (H:Hp) (R:It->Hp->Prop),Inv X XQ Y H s->wi Y H R->
  pi (Tk X.prog X.w) X.A (wp iter X.env) (λv s1=>pi (Tk X.prog X.w) X.A (pyIter v) (Xo X XQ Y tg R) X.xe s1) X.xe s
def JG{M:Model}{A:Ar}{E:QQX}{s:Sd}{tg:Go}{it:Uf}{u:Vl}{o:Obj}{n:String}{vs:Array Vl}{Q:Unit->Sd->Prop}(ho:s.heap.get? it=Fa o)(hc:o.cls=.type n)(hd:o.data=.fields vs) (hn:["enumerate","zip","dict_itemiterator","dict_reverseitemiterator","odict_iterator","itertools.zip_longest","itertools.pairwise"].contains n=lf) (hQ:Q () s):pi M A (XXi tg (.ref it) u) Q E s:=by
  unfold XXi;cases tg<;>first
    | exact df hQ
    | (cases u<;>first
        | exact df hQ
        | (refine cU (wpAny_load ho ?_)
           rw[hc,hd];show pi M A (if (["enumerate","zip","dict_itemiterator","dict_reverseitemiterator","odict_iterator","itertools.zip_longest","itertools.pairwise"].contains n&&vs[0]?==Fa (X' _))=pc then _ else _) Q E s;rw[cY (by intro h;rw[hn,eV]at h;cases h)];exact df hQ))
noncomputable def V7(K:qC)(a:Uf):It:=
 ⟨λi H=>∃xs x,zo K H a xs/\xs[i]?=Fa x,λi H x H'=>H'=H/\∀xs,zo K H a xs->xs[i]?=Fa x,λi H=>∃xs,zo K H a xs/\xs.length<=i⟩
noncomputable def W'(K:qC)(a:Uf):It:=
 ⟨λi H=>∃xs x,vn K H a xs/\xs[i]?=Fa x,λi H x H'=>H'=H/\∀xs,vn K H a xs->xs[i]?=Fa x,λi H=>∃xs,vn K H a xs/\xs.length<=i⟩
noncomputable def VZ(lo:Int)(n:Nat):It:=⟨λi _=>i<n,λi H x H'=>H'=H/\x=.int (lo+i),λi _=>n<=i⟩
def KH{K:qC}(a it:Uf):Hk P w K tg (V7 K a) [it] it (λi h=>h.IsListIter it a i) where
 mem:=by simp
 obj:=λi h st b hb=>by
  have e:b=it:=by simpa using hb
  subst e;obtain⟨o,e,c,d⟩:=st;exact⟨o,e,λv z=>by rw[d]at z;cases z⟩
 keep:=λi h h' st k=>st.at λo e=>k it (by simp) o e
 item:=by intro X hP hw hK hc i XQ s Y H E I hf st hg;subst hP hw hK;obtain⟨xs,x,hq,hx⟩:=hg;obtain⟨its,rv,p,hz⟩:=I.list hq;obtain⟨u,hu,ru⟩:=rv.get hx;obtain⟨f0,f1,f2,f3,f4,f5⟩:=hf it (by simp);refine j3 st p.isList (x:=u) (by simpa using hu) λh' YG sb=>?_;have I1:Inv X XQ Y H {s with heap:=h'}:=I.turned (t':=s.toks) (λb o hb e=>(sb.2 b hb).trans e) f0 f1 f3 f4 f5;obtain⟨o,e,c,d⟩:=id YG;exact⟨u,Z',JG (s:={s with heap:=h'}) e c d (by decide) ⟨x,H,I1,ru,⟨Z',λys hy=>by rw[I.nW hy hq];exact hx⟩,YG,λb hb=>(hf b hb).1⟩⟩
 done:=by intro X hP hw hK hc i XQ s Y H E I hf st hg;subst hP hw hK;obtain⟨xs,hq,hx⟩:=hg;obtain⟨its,rv,p,hz⟩:=I.list hq;obtain⟨f0,f1,f2,f3,f4,f5⟩:=hf it (by simp);have hl:=rv.length;exact j8 (I.ok.hd hc) st p.isList (by simp;omega) λh' eb=>⟨Z',I.turned (t':=s.toks) (λb o hb e=>eb b o hb e) f0 f1 f3 f4 f5⟩
 self:=λ_ _ _ _ _ st h=>wpAny_pyIter_listiter st h
def Ir{K:qC}(a it:Uf):Hk P w K tg (W' K a) [it] it (λi h=>h.IsTupleIter it a i) where
 mem:=by simp
 obj:=λi h st b hb=>by
  have e:b=it:=by simpa using hb
  subst e;obtain⟨o,e,c,d⟩:=st;exact⟨o,e,λv z=>by rw[d]at z;cases z⟩
 keep:=λi h h' st k=>st.at λo e=>k it (by simp) o e
 item:=by intro X hP hw hK hc i XQ s Y H E I hf st hg;subst hP hw hK;obtain⟨xs,x,hq,hx⟩:=hg;obtain⟨its,rv,p,hz⟩:=I.tuple hq;obtain⟨u,hu,ru⟩:=rv.get hx;obtain⟨f0,f1,f2,f3,f4,f5⟩:=hf it (by simp);refine wpAny_pyNext_tuple_item st (show s.heap.IsTuple a its.toArray from p) (x:=u) (by simpa using hu) λh' YG sb=>?_;have I1:Inv X XQ Y H {s with heap:=h'}:=I.turned (t':=s.toks) (λb o hb e=>(sb.2 b hb).trans e) f0 f1 f3 f4 f5;obtain⟨o,e,c,d⟩:=id YG;exact⟨u,Z',JG (s:={s with heap:=h'}) e c d (by decide) ⟨x,H,I1,ru,⟨Z',λys hy=>by rw[I.nv hy hq];exact hx⟩,YG,λb hb=>(hf b hb).1⟩⟩
 done:=by intro X hP hw hK hc i XQ s Y H E I hf st hg;subst hP hw hK;obtain⟨xs,hq,hx⟩:=hg;obtain⟨its,rv,p,hz⟩:=I.tuple hq;obtain⟨f0,f1,f2,f3,f4,f5⟩:=hf it (by simp);have hl:=rv.length;exact wpAny_pyNext_tuple_end (I.ok.hd hc) st (show s.heap.IsTuple a its.toArray from p) (by simp;omega) λh' eb=>⟨Z',I.turned (t':=s.toks) (λb o hb e=>eb b o hb e) f0 f1 f3 f4 f5⟩
 self:=λ_ _ _ _ _ st h=>wpAny_pyIter_tupleiter st h
def HI{K:qC}(it:Uf)(lo:Int)(n:Nat):Hk P w K tg (VZ lo n) [it] it (λi h=>IsRangeIter h it (lo+(i:Nat)*1) ((n:Int) - (i:Nat)) 1) where
 mem:=by simp
 obj:=λi h st b hb=>by
  have e:b=it:=by simpa using hb
  subst e;exact⟨_,st,λv z=>by
   have z':Data.fields _=Data.cell v:=z;cases z'⟩
 keep:=λi h h' st k=>k it (by simp) _ st
 item:=by intro X hP hw hK hc i XQ s Y H E I hf st hg;subst hP hw hK;obtain⟨f0,f1,f2,f3,f4,f5⟩:=hf it (by simp);have W:=Walks.range (prog:=X.prog) (w:=X.w) (I.ok.hd hc) it lo 1 n;refine W.item i s _ _ hg st λv h' tk hv YG kk=>?_;obtain⟨t,rfl⟩:=hv;have I1:Inv X XQ Y H {s with heap:=h',toks:=tk}:=I.turned (λb o hb e=>kk b o (by simpa using hb) e) f0 f1 f3 f4 f5;refine⟨_,Z',JG (s:={s with heap:=h',toks:=tk}) (n:="range_iterator") YG Z' Z' (by decide) ⟨.int (lo+i),H,I1,⟨t,?_⟩,⟨Z',Z'⟩,YG,λb hb=>(hf b hb).1⟩⟩;rw[Int.mul_one]
 done:=by intro X hP hw hK hc i XQ s Y H E I hf st hg;subst hP hw hK;obtain⟨f0,f1,f2,f3,f4,f5⟩:=hf it (by simp);exact wpAny_pyNext_range_end (I.ok.hd hc) st (by have:n<=i:=hg;omega) λh' eb=>⟨Z',I.turned (t':=s.toks) (λb o hb e=>eb b o hb e) f0 f1 f3 f4 f5⟩
 self:=λ_ _ _ _ _ st h=>wpAny_pyIter_rangeiter st h
variable {tg:Go}
def Ob{XQ:QQY}{R:It->Hp->Prop}{E:QQX}{lo hi:Int}{t u v:Tok}{tk:Nat}(I:Inv X XQ Y H s)(h1:-(2 ^ 62)<=lo)(h2:lo<2 ^ 62)(h3:-(2 ^ 62)<=hi)(h4:hi<2 ^ 62) (q:R (VZ lo (hi - lo).toNat) H):pi (Tk X.prog X.w) X.A (pyIter (.ref s.heap.objs.size)) (Xo X XQ Y tg R) E {s with heap:=s.heap.push {cls:=.type "range",data:=.fields #[.int lo t,.int hi u,.int 1 v]},toks:=tk}:=by
 refine wpAny_pyIter_range (IsRange.new ..) (small_one h1 h2 h3 h4) ?_;have I1:Inv X XQ Y H {s with heap:=s.heap.push {cls:=.type "range",data:=.fields #[.int lo t,.int hi u,.int 1 v]},toks:=tk}:=I.kept λb o e=>cZ _ e;refine⟨(s.heap.push {cls:=.type "range",data:=.fields #[.int lo t,.int hi u,.int 1 v]}).objs.size,[(s.heap.push {cls:=.type "range",data:=.fields #[.int lo t,.int hi u,.int 1 v]}).objs.size],_,_,H,Z',I1.kept (t':=tk) λb o e=>cZ _ e,HI _ lo (hi - lo).toNat,?_,λb hb=>?_,q⟩
 .have e1:lo+((0:Nat):Int)*1=lo:=by simp
  have e2:(((hi - lo).toNat:Nat):Int) - ((0:Nat):Int)=Builtin.Range.rangeSize lo hi 1:=by rw[rangeSize_one];split<;>omega
  show IsRangeIter _ _ (lo+((0:Nat):Int)*1) ((((hi - lo).toNat:Nat):Int) - ((0:Nat):Int)) 1;rw[e1,e2];exact dF _ Z'
 .have e:b=(s.heap.push {cls:=.type "range",data:=.fields #[.int lo t,.int hi u,.int 1 v]}).objs.size:=by simpa using hb
  subst e;exact I1.og (dq _) (I1.mW.fresh (dq _))
def Vb(ta:TA):TI:=λY H R=>ta Y H λvs H1=>∃j:Int,vs=[.int j]/\-(2 ^ 62)<=j/\j<2 ^ 62/\R (VZ 0 j.toNat) H1
def Ku{a:Go}{ta:TA}(hg:Gl X "range")(hm:X.mg "range"=Db)(ha:PA X [a] ta)(hs:Tl [a] X.env=[(lf,wp a X.env)]:=by rfl):PI X tg (.Call (.Name "range" p) [a] [] pos) (Vb ta):=by
 intro XQ s Y H R I h;refine Call_ (xj I hg hm boot_range (fU (sS (ha pos XQ s Y H _ I h) λus s1 zz=>x5 zz λvs H1 I1 r1 q1=>?_) hs Z'));obtain⟨j,e,q1,q2,q⟩:=q1;subst e;cases r1 with
 | cons r rr=>cases rr;obtain⟨t,rfl⟩:=r;exact call_range_1 (Ob I1 (by omega) (by omega) q1 q2 (by simpa using q))
def WH(wi:TI)(g:TG)(tb:TS):TS:=λD Y H=>wi Y H λJ H1=>∃W:Nat->Nat->St->Hp->Prop,(∃m,W 0 m Y H1)/\∀i m Y H,W i m Y H->
 (J.stop i H/\D.nx Y H)\/(J.go i H/\∃N:St->Hp->Prop,(∀σ' H',N σ' H'->∃m',m'<m/\W (i+1) m' σ' H')/\∀x H',J.pq i H x H'->g x Y H' λσ2 H2=>tb {D with nx:=N,ct:=N,bk:=D.nx} σ2 H2)
noncomputable def C5(fp:QXQ)(h:No):QQY:=fp.filterMap λb=>(h.get? b).map λo=>(b,o)
def vI{fp:QXQ}{h:No}{b:Uf}{o:Obj}(hb:b∈fp)(e:h.get? b=Fa o):(b,o)∈C5 fp h:=kS.mpr ⟨b,hb,by rw[e];rfl⟩
def Lg{p:Uf×Obj}(hp:p∈C5 fp h):p.1∈fp/\h.get? p.1=Fa p.2:=by
 obtain⟨b,hb,e⟩:=kS.mp hp;cases q:h.get? b with
 | none=>rw[q]at e;cases e
 | some o=>rw[q]at e;have e':(b,o)=p:=dh e;subst e';exact⟨hb,q⟩
def Inv.pinned{XQ:QQY}{fp:QXQ}(I:Inv X XQ Y H s)(hf:∀b∈fp,Ba X XQ H b)(ho:∀b∈fp,∃o,s.heap.get? b=Fa o/\∀v,o.data≠.cell v):Inv X (XQ++C5 fp s.heap) Y H s:=
 I.nS λp hp=>(dQ.mp hp).elim (λz=>I.pin p (eA _ z)) λz=>by obtain⟨hb,e⟩:=Lg z;obtain⟨f0,f1,f2,_⟩:=hf p.1 hb;obtain⟨o,e',d⟩:=ho p.1 hb;rw[e]at e';cases e';exact⟨e,f0,f1,f2,d⟩
def Inv.ng{XQ pl:QQY}(I:Inv X (XQ++pl) Y H s):Inv X XQ Y H s:=I.nS λp hp=>I.pin p (eA _ (fg _ hp))
def Sr{tb:TS}(hp:PassesOwn (Tk X.prog X.w) X.A X.env X.xe)(hc:X.calm=pc)(hi:PI X tg iter wi)(hg:PG X tg g)(hb:CS X body tb) (hs:∀x,AT iter X.env x=pure x:=by intro _;rfl):PS X (.For tg iter body [] pos) (WH wi g tb):=by
 intro XQ s Y H D I h;refine wpAny_For (sS (hi XQ s Y H _ I h) λv s1 h1=>sS h1 λitv s2 h2=>?_) hs;obtain⟨it,fp,tn,J,H2,e,I2,T,X6,f2,W,⟨m0,w0⟩,turn⟩:=h2;subst e;have Y1:∀{H':Hp},(∀b∈fp,H' b=Db)->∀b∈fp,Ba X XQ H' b:=λhn b hb=>⟨hn b hb,(f2 b hb).2⟩;refine codeAny_forLoop_any (λn s'=>∃i σ' H',Inv X XQ σ' H' s'/\tn i s'.heap/\(∀b∈fp,H' b=Db)/\W i n σ' H') ?_ m0 ⟨0,Y,H2,I2,X6,λb hb=>(f2 b hb).1,w0⟩
 rintro n s3 ⟨i,σ3,H3,I3,YC,fr3,w3⟩
 rcases turn i n σ3 H3 w3 with⟨stop,qn⟩|⟨go,N,hN,step⟩
 .refine gA hp (sS (T.done X Z' Z' Z' hc i XQ s3 σ3 H3 X.xe I3 (Y1 fr3) YC stop) λr s4 ⟨hr,I4⟩=>?_);subst hr;exact gQ ⟨σ3,H3,I4,qn⟩
 .refine gA hp (sS (T.item X Z' Z' Z' hc i XQ s3 σ3 H3 X.xe I3 (Y1 fr3) YC go) λr s4 ⟨u,hr,h4⟩=>?_);subst hr;refine gA hp (sS h4 λ_ s5 zz=>?_);obtain⟨x,H5,I5,r5,y5,Zt,fr5⟩:=zz;have I5':=I5.pinned (Y1 fr5) (T.obj _ _ Zt);refine gA hp (sS (hg _ s5 σ3 H5 x u _ I5' r5 (step x H5 y5)) λ_ s6 ⟨σ6,H6,I6,q6⟩=>?_);refine gA hp (sS (hb _ s6 σ6 H6 _ I6 q6) λf s7 q7=>?_);have again:∀{σ7:St} {H7:Hp},Inv X (XQ++C5 fp s5.heap) σ7 H7 s7->N σ7 H7->∃m,m<n/\∃i σ' H',Inv X XQ σ' H' s7/\tn i s7.heap/\(∀b∈fp,H' b=Db)/\W i m σ' H':=λ{σ7 H7} I7 n7=>by obtain⟨m',hm,w7⟩:=hN σ7 H7 n7;refine⟨m',hm,i+1,σ7,H7,I7.ng,T.keep _ _ _ Zt λb hb o e=>(I7.pin (b,o) (eA _ (eA _ (vI hb e)))).1,λb hb=>?_,w7⟩;obtain⟨o,e,d⟩:=T.obj _ _ Zt b hb;exact(I7.pin (b,o) (eA _ (eA _ (vI hb e)))).2.1
  cases f with
  | next=>obtain⟨σ7,H7,I7,n7⟩:=q7;exact again I7 n7
  | cont=>obtain⟨σ7,H7,I7,n7⟩:=q7;exact again I7 n7
  | brk=>obtain⟨σ7,H7,I7,q7⟩:=q7;exact⟨σ7,H7,I7.ng,q7⟩
  | ret v=>obtain⟨x7,σ7,H7,I7,r7,q7⟩:=q7;exact⟨x7,σ7,H7,I7.ng,r7,q7⟩
abbrev R2:=V->V->Hp->VK->Prop
def yc(X:Cx)(f:Vl->Vl->Sem Vl)(r:R2):Prop:=
 ∀(XQ:QQY) (s:Sd) (Y:St) (H:Hp) (x y:V) (v u:Vl) (Q:VK),Inv X XQ Y H s->qR x v->qR y u->r x y H Q->
  pi (Tk X.prog X.w) X.A (f v u) (EP X XQ Y Q) X.xe s
def WE(X:Cx)(f:Vl->Sem Vl)(r:V->Hp->VK->Prop):Prop:=
 ∀(XQ:QQY) (s:Sd) (Y:St) (H:Hp) (x:V) (v:Vl) (Q:VK),Inv X XQ Y H s->qR x v->r x H Q->
  pi (Tk X.prog X.w) X.A (f v) (EP X XQ Y Q) X.xe s
def Ab(X:Cx)(f:Vl)(r:T0 V->Hp->VK->Prop):Prop:=
 ∀(XQ:QQY) (s:Sd) (Y:St) (H:Hp) (xs:T0 V) (us:T0 Vl) (Q:VK),Inv X XQ Y H s->qJ xs us->r xs H Q->
  pi (Tk X.prog X.w) X.A (call f us) (EP X XQ Y Q) X.xe s
def Vk(r:R2)(ta tb:TE):TE:=λY H Q=>ta Y H λx H1=>tb Y H1 λy H2=>r x y H2 Q
def XH(r:V->Hp->VK->Prop)(ta:TE):TE:=λY H Q=>ta Y H λx H1=>r x H1 Q
def rI(C:Int->Int->Prop)(g:Int->Int->V):R2:=λx y H Q=>∃i j,x=.int i/\y=.int j/\C i j/\Q (g i j) H
def Ro(g:Int->Int->V):R2:=λx y H Q=>∃i j,x=.int i/\y=.int j/\Q (g i j) H
def rU(g:Int->V):V->Hp->VK->Prop:=λx H Q=>∃i,x=.int i/\Q (g i) H
variable {tc:TE}
section
variable {a b c:Go}
def TK(ha:PE X a ta)(hb:PE X b tb){XQ:QQY}{s:Sd}{Y:St}{H:Hp}{R:V->V->Hp->Prop}(I:Inv X XQ Y H s) (h:ta Y H λx H1=>tb Y H1 λy H2=>R x y H2) {Q:QQX} {f:Vl->Vl->Sem Vl} (hf:∀v u s2 x y H2,Inv X XQ Y H2 s2->qR x v->qR y u->R x y H2->pi (Tk X.prog X.w) X.A (f v u) Q X.xe s2):
  pi (Tk X.prog X.w) X.A (wp a X.env) (λv s₁=>pi (Tk X.prog X.w) X.A (wp b X.env) (λu s₂=>pi (Tk X.prog X.w) X.A (f v u) Q X.xe s₂) X.xe s₁) X.xe s:=by
 refine sS (ha XQ s Y H _ I h) λv s1 zz=>x5 zz λx H1 I1 r1 q1=>?_;refine sS (hb XQ s1 Y H1 _ I1 q1) λu s2 zz=>x5 zz λy H2 I2 r2 q2=>?_;exact hf v u s2 x y H2 I2 r1 r2 q2
def RG{op:XYb}(ho:yc X (wP op) r)(ha:PE X a ta)(hb:PE X b tb):PE X (.BinOp a op b pos) (Vk r ta tb):=by intro XQ s Y H Q I h;exact wpAny_BinOp (TK ha hb I h λv u s2 x y H2 I2 rx ry q=>ho XQ s2 Y H2 x y v u Q I2 rx ry q)
def UM{op:UnaryOp}(ho:WE X (unaryOp op) r)(ha:PE X a ta):PE X (.UnaryOp op a pos) (XH r ta):=by intro XQ s Y H Q I h;exact UnaryOp_ (sS (ha XQ s Y H _ I h) λv s1 zz=>x5 zz λx H1 I1 r1 q1=>ho XQ s1 Y H1 x v Q I1 r1 q1)
def Wy{f:Vl->Vl->Sem Vl}{C:Int->Int->Prop}{g:Int->Int->Int} (rule:∀(i j:Int) (t u:Tok) (s:Sd) (Q:QQX) (E:QQX),C i j->Q (.int (g i j) s.toks) {s with toks:=s.toks+1}->pi (Tk X.prog X.w) X.A (f (.int i t) (.int j u)) Q E s):
  yc X f (rI C λi j=>.int (g i j)):=by
 intro XQ s Y H x y v u Q I rx ry h;obtain⟨i,j,rfl,rfl,hc,q⟩:=h;obtain⟨t,rfl⟩:=rx;obtain⟨t',rfl⟩:=ry;exact rule i j t t' s _ _ hc ⟨.int (g i j),H,I.tok _,⟨_,Z'⟩,q⟩
def UA{f:Vl->Vl->Sem Vl}{g:Int->Int->Int} (rule:∀(i j:Int) (t u:Tok) (s:Sd) (Q:QQX) (E:QQX),Q (.int (g i j) s.toks) {s with toks:=s.toks+1}->pi (Tk X.prog X.w) X.A (f (.int i t) (.int j u)) Q E s):
  yc X f (Ro λi j=>.int (g i j)):=by
 intro XQ s Y H x y v u Q I rx ry h;obtain⟨i,j,rfl,rfl,q⟩:=h;obtain⟨t,rfl⟩:=rx;obtain⟨t',rfl⟩:=ry;exact rule i j t t' s _ _ ⟨.int (g i j),H,I.tok _,⟨_,Z'⟩,q⟩
def PH{f:Vl->Vl->Sem Vl}{g:Int->Int->Bool} (rule:∀(i j:Int) (t u:Tok) (s:Sd) (Q:QQX) (E:QQX),Q (.bool (g i j)) s->pi (Tk X.prog X.w) X.A (f (.int i t) (.int j u)) Q E s):
  yc X f (Ro λi j=>.bl (g i j)):=by
 intro XQ s Y H x y v u Q I rx ry h;obtain⟨i,j,rfl,rfl,q⟩:=h;obtain⟨t,rfl⟩:=rx;obtain⟨t',rfl⟩:=ry;exact rule i j t t' s _ _ ⟨.bl (g i j),H,I,Z',q⟩
def UC(i j:Int):Prop:=0<j/\j<1073741824
def Dn(i j:Int):Prop:=(-(2 ^ 64)<i/\i<2 ^ 64)\/(-(2 ^ 64)<j/\j<2 ^ 64)
def Dn.ok(h:Dn i j):IntMulOk i j:=by
 rcases h with⟨h1,h2⟩|⟨h1,h2⟩
 .exact .of_left (intBits_le_64 h1 h2)
 .exact .of_right (intBits_le_64 h1 h2)
def TQ:yc X (wP .Add) (Ro λi j=>.int (i+j)):=UA λ_ _ _ _ _ _ _ q=>add_int q
def TJ:yc X (wP .Sub) (Ro λi j=>.int (i - j)):=UA λ_ _ _ _ _ _ _ q=>sub_int q
def T1:yc X (wP .Mult) (rI Dn λi j=>.int (i*j)):=Wy λ_ _ _ _ _ _ _ hc q=>mul_int q hc.ok
def QD:yc X (wP .FloorDiv) (rI UC λi j=>.int (i / j)):=Wy λi j _ _ _ _ _ hc q=>by have h1:(0:Int)<j:=hc.1;have h2:j<1073741824:=hc.2;exact floordiv_int (by omega) (by rw[Int.fdiv_eq_ediv_of_nonneg i (by omega)];exact q) (.inl (PyProof.noPylong_small (by omega)))
def R5:yc X (wP .Mod) (rI (λ_ j=>0<j) λi j=>.int (i % j)):=Wy λi j _ _ _ _ _ hc q=>by have h1:(0:Int)<j:=hc;exact mod_int' (by omega) (by rw[Int.fmod_eq_emod_of_nonneg i (by omega)];exact q)
def XE{f:Vl->Sem Vl}{g:Int->Int} (rule:∀(i:Int) (t:Tok) (s:Sd) (Q:QQX) (E:QQX),Q (.int (g i) s.toks) {s with toks:=s.toks+1}->pi (Tk X.prog X.w) X.A (f (.int i t)) Q E s):
  WE X f (rU λi=>.int (g i)):=by
 intro XQ s Y H x v Q I rx h;obtain⟨i,rfl,q⟩:=h;obtain⟨t,rfl⟩:=rx;exact rule i t s _ _ ⟨.int (g i),H,I.tok _,⟨_,Z'⟩,q⟩
def RQ:WE X (unaryOp .USub) (rU λi=>.int (-i)):=XE λ_ _ _ _ _ q=>neg_int q
end
section
variable {a b c:Go}
def HV{XQ:QQY}{Q:VK}{k k':Bool}(I:Inv X XQ Y H s)(q:Q (.bl k) H)(e:k=k'):EP X XQ Y Q (.bool k') s:=by subst e;exact⟨.bl k,H,I,Z',q⟩
def Uy:yc X (Op .Lt) (Ro λi j=>.bl (decide (i<j))):=PH λ_ _ _ _ _ _ _ q=>lt_int q
def VP:yc X (Op .LtE) (Ro λi j=>.bl (decide (i<=j))):=PH λ_ _ _ _ _ _ _ q=>le_int q
def Vz:yc X (Op .Gt) (Ro λi j=>.bl (decide (j<i))):=PH λ_ _ _ _ _ _ _ q=>gt_int q
def UB:yc X (Op .GtE) (Ro λi j=>.bl (decide (j<=i))):=PH λ_ _ _ _ _ _ _ q=>ge_int q
def Kq:yc X (Op .In) (λx y H Q=>∃i j,x=.str i/\y=.str j/\Q (.bl (!(Builtin.Str.occurrences j i 0 j.length 1).isEmpty)) H):=by intro XQ s Y H x y v u Q I rx ry h;obtain⟨i,j,rfl,rfl,q⟩:=h;obtain⟨t,rfl⟩:=rx;obtain⟨t',rfl⟩:=ry;exact in_str (HV I q Z')
def TU:yc X (Op .Is) (λx y H Q=>y=.mS/\Q (.bl (decide (x=.mS))) H):=by
 intro XQ s Y H x y v u Q I rx ry h;obtain⟨rfl,q⟩:=h;cases ry;refine is_none_gen (HV I q ?_);cases x<;>first
  | (cases rx;rfl)
  | (obtain⟨t,rfl⟩:=rx;rfl)
def Pb:yc X (Op .IsNot) (λx y H Q=>y=.mS/\Q (.bl (!decide (x=.mS))) H):=by
 intro XQ s Y H x y v u Q I rx ry h;obtain⟨rfl,q⟩:=h;cases ry;refine isnot_none_gen (HV I q ?_);cases x<;>first
  | (cases rx;rfl)
  | (obtain⟨t,rfl⟩:=rx;rfl)
def HQ(b:Go){op:CmpOp}(h:op≠.In:=by decide)(h2:op≠.NotIn:=by decide):wT op b=lf:=by
 have e1:(op==CmpOp.In)=lf:=by cases op<;>first|rfl|exact absurd Z' h
 have e2:(op==CmpOp.NotIn)=lf:=by cases op<;>first|rfl|exact absurd Z' h2
 cases b<;>simp[wT,e1,e2]
def Jw{op:CmpOp}(ho:yc X (Op op) r)(ha:PE X a ta)(hb:PE X b tb)(hm:wT op b=lf):PE X (.Compare a [op] [b] pos) (Vk r ta tb):=by intro XQ s Y H Q I h;exact wpAny_Compare1 (TK ha hb I h λv u s2 x y H2 I2 rx ry q=>ho XQ s2 Y H2 x y v u Q I2 rx ry q) hm
def Rt(t:TE):TT:=λY H Q=>t Y H λx H'=>∃k,x=.bl k/\Q k H'
def Jv{op:CmpOp}(ho:yc X (Op op) r)(ha:PE X a ta)(hb:PE X b tb)(hm:wT op b=lf):PT X (.Compare a [op] [b] pos) (Rt (Vk r ta tb)):=by
 intro XQ s Y H Q I h;refine wpAny_isTrue_Compare1 (sS (ha XQ s Y H _ I h) λv s1 zz=>x5 zz λx H1 I1 r1 q1=>sS (hb XQ s1 Y H1 _ I1 q1) λu s2 zz=>x5 zz λy H2 I2 r2 q2=>
  sS (ho XQ s2 Y H2 x y v u _ I2 r1 r2 q2) λc s3 zz=>?_) hm
 obtain⟨z,H3,I3,r3,k,e,q3⟩:=zz;subst e;cases r3;exact fj ⟨H3,I3,q3⟩
def MU(r r':R2)(ta tb tc:TE):TE:=λY H Q=>ta Y H λx H1=>tb Y H1 λy H2=>r x y H2 λz H3=>∃k,z=.bl k/\
 (if k=pc then tc Y H3 λw' H4=>r' y w' H4 Q else Q (.bl lf) H3)
def Mz{op YH:CmpOp}(ho:yc X (Op op) r)(Yw:yc X (Op YH) r')(ha:PE X a ta)(hb:PE X b tb)(hc:PE X c tc) (hm:lastMarks [op,YH] [b,c]=lf:=by with_unfolding_all rfl):PE X (.Compare a [op,YH] [b,c] pos) (MU r r' ta tb tc):=by
 intro XQ s Y H Q I h;refine Compare_chain (sS (ha XQ s Y H _ I h) λv s1 zz=>x5 zz λx H1 I1 r1 q1=>chain_link (sS (hb XQ s1 Y H1 _ I1 q1) λu s2 zz=>x5 zz λy H2 I2 r2 q2=>
  sS (ho XQ s2 Y H2 x y v u _ I2 r1 r2 q2) λd s3 zz=>?_)) hm
 obtain⟨z,H3,I3,r3,k,e,q3⟩:=zz;subst e;cases r3;refine fj ?_;cases k with
 | false=>exact ite_ff ⟨.bl lf,H3,I3,Z',q3⟩
 | true=>exact ite_tt (chain_last (sS (hc XQ s3 Y H3 _ I3 q3) λw' s4 zz=>x5 zz λz' H4 I4 r4 q4=>Yw XQ s4 Y H4 y z' u w' Q I4 r2 r4 q4))
def Ma{op YH:CmpOp}(ho:yc X (Op op) r)(Yw:yc X (Op YH) r')(ha:PE X a ta)(hb:PE X b tb)(hc:PE X c tc) (hm:lastMarks [op,YH] [b,c]=lf:=by with_unfolding_all rfl):PT X (.Compare a [op,YH] [b,c] pos) (Rt (MU r r' ta tb tc)):=by
 intro XQ s Y H Q I h;refine isTrue_chain (sS (ha XQ s Y H _ I h) λv s1 zz=>x5 zz λx H1 I1 r1 q1=>test_link (sS (hb XQ s1 Y H1 _ I1 q1) λu s2 zz=>x5 zz λy H2 I2 r2 q2=>
  sS (ho XQ s2 Y H2 x y v u _ I2 r1 r2 q2) λd s3 zz=>?_)) hm
 obtain⟨z,H3,I3,r3,k,e,q3⟩:=zz;subst e;cases r3;refine fj ?_;cases k with
 | false=>obtain⟨k',e',q'⟩:=q3;cases e';exact ite_ff ⟨H3,I3,q'⟩
 | true=>refine ite_tt (test_last (sS (hc XQ s3 Y H3 _ I3 q3) λw' s4 zz=>x5 zz λz' H4 I4 r4 q4=>sS (Yw XQ s4 Y H4 y z' u w' _ I4 r2 r4 q4) λd' s5 zz=>?_));obtain⟨z2,H5,I5,r5,k2,e2,q5⟩:=zz;subst e2;cases r5;exact fj ⟨H5,I5,q5⟩
def yU:(Ch:Nat)<2 ^ 63:=by rw[dI];decide
def HE:yc X (wP .Add) (λx y H Q=>∃i j,x=.str i/\y=.str j/\i.length+j.length<=Ch/\Q (.str (i++j)) H):=by intro XQ s Y H x y v u Q I rx ry h;obtain⟨i,j,rfl,rfl,hz,q⟩:=h;obtain⟨t,rfl⟩:=rx;obtain⟨t',rfl⟩:=ry;exact add_str (λt' tk=>⟨.str (i++j),H,I.tok _,⟨_,Z'⟩,q⟩) hz
def yK{x:V}(r:qJ [x] us):∃u,us=[u]/\qR x u:=by
 cases r with
 | cons r1 r2=>cases r2;exact⟨_,Z',r1⟩
def Np{x y:V}(r:qJ [x,y] us):∃u w',us=[u,w']/\qR x u/\qR y w':=by
 cases r with
 | cons r1 r2=>
  cases r2 with
  | cons r3 r4=>cases r4;exact⟨_,_,Z',r1,r3⟩
def Ki(hc:X.calm=pc):Ab X (.builtin "min") (λxs H Q=>∃i j,xs=[.int i,.int j]/\Q (.int (if j<i then j else i)) H):=by
 intro XQ s Y H xs us Q I r h;obtain⟨i,j,rfl,q⟩:=h;obtain⟨u,w',rfl,⟨t,rfl⟩,⟨t',rfl⟩⟩:=Np r;refine min_two_ints (I.ok.hd hc) λh' tk k=>⟨_,H,I.kept k,?_,q⟩;by_cases hj:j<i
 .rw[c9 hj,c9 hj];exact⟨_,Z'⟩
 .rw[cY hj,cY hj];exact⟨_,Z'⟩
end
structure IB(h:No)(x dx C:Uf)(mA:QQZ):Prop where
 obj:h.get? x=Fa (W.instObj C dx)
 ns:h.Ns1 dx mA
 ne:dx≠x
def Ke{h:No}{dx:Uf}{mA:QQZ}(n:h.Ns1 dx mA):∃od,h.get? dx=Fa od/\∀name,W.lookIn name od=Fa (mA name):=by
 obtain⟨o,es,ep,ho,hd,hk,_,hm⟩:=n;refine⟨o,ho,λname=>?_⟩;have e:=hm name;unfold nsFind findBy at e;rw[<-kT]at e;unfold W.lookIn;rw[hd];dsimp only;split
 .rename_i y q;rw[q]at e;exact eK Fa e
 .rename_i q;rw[q]at e;have a:es.toList.any (·.refKey)=lf:=by rw[lu];intro y hy;obtain⟨z,t,hkey⟩:=hk y (kr.mp hy);simp[DictEntry.refKey,hkey]
  have a':¬es.toList.any (·.refKey)=pc:=by rw[a];exact dz
  rw[cY a'];exact eK Fa e
def IB.look(I:IB h x dx C mA):∃od,W.InstAt h x (W.instObj C dx) C (Fa od)/\∀name,W.lookIn name od=Fa (mA name):=
 let⟨od,ho,hl⟩:=Ke I.ns
 ⟨od,⟨I.obj,Z',Z',ho⟩,hl⟩
variable {prog:Pg}{A:Ar}{K:qC}{dx C:Uf}{mA:QQZ}{name:Str}
section
variable {w:Wo}{E:QQX}{x f:Uf}{v:Vl}
def QV{expr:Bool}{Q:QQX}(X:K.In s.heap)(I:IB s.heap x dx C mA)(hg:W.plainGet K C name=pc)(hh:W.hasDictIn K C=pc) (ha:W.findIn K (.ref C) name=Fa Db) (hv:mA name=Fa v) (hv':W.handedIn v=pc) (h:Q v {s with toks:=s.toks+1}):
  pi (Tk prog w) A (getAttr (.ref x) name expr) Q E s:=by
 obtain⟨od,J,hl⟩:=I.look;exact W.get_value X J (kz hg).1 (W.findObj_own hh ha Z' (by rw[hl,hv])) hv' h
def Ol{pl:Sem Bool}{Q:Vl×T0 Vl->Sd->Prop}(X:K.In s.heap)(I:IB s.heap x dx C mA)(hg:W.plainGet K C name=pc) (hf:W.findIn K (.ref C) name=Fa (Fa (.ref f))) (ht:W.isFn K (.ref f)=pc) (hv:mA name=Db) (h:Q (.ref f,[.ref x]) s):
  pi (Tk prog w) A (TW (.ref x) name pl) Q E s:=by
 obtain⟨od,J,hl⟩:=I.look;exact W.method_fn X J (kz hg).1 (kz hg).2 hf (fh.mp ht) (by show(W.lookIn name od).map (·.isSome)=Fa lf;rw[hl,hv];rfl) h
def QX{Q:Unit->Sd->Prop}(X:K.In s.heap)(I:IB s.heap x dx C mA) (hs:W.findIn K (.ref C) "__setattr__"=Fa (Fa (.builtin "object.__setattr__"))) (hp:W.plainOver K C=pc) (ht:W.takerIn K C name=Fa Db) (hh:W.hasDictIn K C=pc) (hw:PySem.Within mA ns) (hsz:ns.length<=Ch) (h:∀h',IB h' x dx C (λy=>if y=name then Fa v else mA y)->Heap.SameBut dx s.heap h'->Q () {s with heap:=h',toks:=s.toks+2}):
  pi (Tk prog w) A (setAttr (.ref x) name v) Q E s:=by
 obtain⟨od,J,hl⟩:=I.look;refine W.set_plain X J hs (W.osa_open (s:={s with toks:=s.toks+1}) (r:=none) X J hp ht λb=>?_);obtain⟨cd,hc,hd'⟩:=W.any_some hh;have hx:s.heap.get? x=Fa ⟨.ref C,Fa dx,.plain,#[]⟩:=I.obj;refine cU (df (cU (cU (wpAny_loadPart hx (cU (my (s:={s with toks:=s.toks+1}) (kA X hc) ?_))))));rw[hd'];refine df (a:=some dx) (cU (df (cU ?_)));refine wpAny_nsSet1 (s:={s with toks:=s.toks+1}) I.ns λh' hn2 Zu=>?_;obtain⟨oD,esD,epD,hoD,Dd,hcD⟩:=hn2.count (PySem.Within.cons name v hw);refine cU (lO hoD (by rw[Dd];exact lP (dY hcD (by rw[d6];omega))) ?_);exact df (h _ ⟨(Zu.2 _ (dO I.ne)).trans I.obj,hn2,I.ne⟩ Zu)
def Ow{vs:T0 Vl}{kw:T0 (Str×Vl)}(X:K.In s.heap)(hm:W.makesIn K C=pc) (hi:W.findIn K (.ref C) "__init__"=Fa (Fa (.ref f))) (hf:W.typeIn K (.ref f)=Fa (.type "function")) (h:XXj (Tk prog w) (A.under (.builtin "type.__call__" ⟨.ref C::vs,kw⟩)) (.call (.ref f) ⟨.ref (s.heap.objs.size+1)::vs,kw⟩) (W.InitBack (s.heap.objs.size+1) R) {s with heap:=(s.heap.push W.emptyDict).push (W.instObj C s.heap.objs.size)}):
  XXj (Tk prog w) A (.call (.ref C) ⟨vs,kw⟩) R s:=by
 obtain⟨hh,g,d,t,os⟩:=s;exact W.make_core (W.makes_of X hm) (je X hi) (λself=>W.bind_fn X self hf) (.inl Z') h
end
noncomputable def vP(f:Str)(v:V):T0 (Str×V)->T0 (Str×V)
 | []=>[(f,v)]
 | (g,x)::r=>if g=f then(g,v)::r else(g,x)::vP f v r
theorem AR(f g:Str)(v:V):∀fs:T0 (Str×V),(vP f v fs).lookup g=if g=f then Fa v else fs.lookup g
 | []=>by
  show List.lookup g [(f,v)]=_;by_cases h:g=f
  .have hb:(g==f)=pc:=fh.mpr h;simp only[List.lookup,hb,c9 h]
  .have hb:(g==f)=lf:=gu.mpr h;simp only[List.lookup,hb,cY h]
 | (k,x)::r=>by
  have ih:=AR f g v r;rw[show vP f v ((k,x)::r)=(if k=f then(k,v)::r else(k,x)::vP f v r)from Z'];by_cases hk:k=f
  .rw[c9 hk];by_cases h:g=k
   .have hb:(g==k)=pc:=fh.mpr h;simp only[List.lookup,hb,c9 (h.trans hk)]
   .have hb:(g==k)=lf:=gu.mpr h;simp only[List.lookup,hb,cY (λe:g=f=>h (e.trans hk.symm))]
  .rw[cY hk];by_cases h:g=k
   .have hb:(g==k)=pc:=fh.mpr h;simp only[List.lookup,hb,cY (λe:g=f=>hk (h.symm.trans e))]
   .have hb:(g==k)=lf:=gu.mpr h;simp only[List.lookup,hb];exact ih
theorem Ao(f:Str)(v:V):∀fs:T0 (Str×V),f∈(vP f v fs).map (·.1)/\∀g,g∈fs.map (·.1)->g∈(vP f v fs).map (·.1)
 | []=>⟨by simp[vP],λg h=>by simp at h⟩
 | (k,x)::r=>by
  obtain⟨i1,i2⟩:=Ao f v r;rw[show vP f v ((k,x)::r)=(if k=f then(k,v)::r else(k,x)::vP f v r)from Z'];by_cases hk:k=f
  .rw[c9 hk];subst hk;exact⟨by simp,λg h=>by simpa using h⟩
  .rw[cY hk];refine⟨?_,λg h=>?_⟩
   .rw[dU];exact dC _ i1
   .rw[dU]at h ⊢;rcases de.mp h with e|e
    .exact de.mpr (.inl e)
    .exact dC _ (i2 g e)
theorem AX(f:Str)(v:V):∀fs:T0 (Str×V),(vP f v fs).length<=fs.length+1
 | []=>by simp[vP]
 | (k,x)::r=>by
  have ih:=AX f v r;rw[show vP f v ((k,x)::r)=(if k=f then(k,v)::r else(k,x)::vP f v r)from Z'];by_cases hk:k=f
  .rw[c9 hk,d6,d6];omega
  .rw[cY hk,d6,d6];omega
def yF.some_of{v:V}(r:yF (Fa v) o):∃u,o=Fa u/\qR v u:=by
 cases o with
 | none=>exact(show False from r).elim
 | some u=>exact⟨u,Z',r⟩
def yF.none_of{o:Option Vl}(r:yF Db o):o=Db:=by
 cases o with
 | none=>rfl
 | some u=>exact(show False from r).elim
def K5{u:Vl}(r:qR v u):W.handedIn u=pc:=by
 cases v with
 | mS=>cases(show u=Value.none from r);rfl
 | bl b=>cases(show u=Value.bool b from r);rfl
 | int i=>obtain⟨t,e⟩:=(show ∃t,u=Value.int i t from r);cases e;rfl
 | str x=>obtain⟨t,e⟩:=(show ∃t,u=Value.str x t from r);cases e;rfl
 | byt b=>obtain⟨t,e⟩:=(show ∃t,u=Value.bytes b t from r);cases e;rfl
 | flt b=>obtain⟨t,e⟩:=(show ∃t,u=Value.float b t from r);cases e;rfl
 | ref a=>cases(show u=Value.ref a from r);rfl
 | ty n=>cases(show u=Value.type n from r);rfl
section
variable {P:Pg}{w:Wo}{a:Uf}{fs fs':T0 (Str × V)}
def Bx(mW:yE P w H h)(e:H a=Fa (.ins C dx fs)):∃mA,IB h a dx C mA/\(∀f,yF (fs.lookup f) (mA f))/\PySem.Within mA (fs.map (·.1))/\fs.length<=1000/\H dx=Fa (.own a):=by obtain⟨d,z,ne,ob,mA,n,r,q⟩:=(show su P w H h a (.ins C dx fs)from mW a _ e);exact⟨mA,⟨ob,n,ne⟩,r,q,z,d⟩
end
structure Cls(K:qC)(C:Uf):Prop where
 pg:W.plainGet K C Str.empty=pc
 hd:W.hasDictIn K C=pc
 po:W.plainOver K C=pc
 sa:W.findIn K (.ref C) "__setattr__"=Fa (Fa (.builtin "object.__setattr__"))
def Cls.get{K:qC}(c:Cls K C)(f:Str):W.plainGet K C f=pc:=c.pg
def ux(K:qC)(C:Uf)(f:Str):Prop:=W.findIn K (.ref C) f=Fa Db
def ux.oY{K:qC}(n:ux K C f):W.takerIn K C f=Fa Db:=by unfold W.takerIn;rw[show W.findIn K (.ref C) f=Fa Db from n];rfl
structure XO(K:qC)(C:Uf)(f:Str)(v:V)(u:Vl):Prop where
 at_:W.findIn K (.ref C) f=Fa (Fa u)
 rel:qR v u
 get:W.specialIn K u "__get__"=Fa Db
 cp:W.copiedNames.contains f=lf
structure vQ(K:qC)(C:Uf)(m:Str)(f:Uf):Prop where
 at_:W.findIn K (.ref C) m=Fa (Fa (.ref f))
 fn:W.isFn K (.ref f)=pc
 kp:W.keepIn K (.ref f)=pc
section
variable {Y:St}{a:Uf}{fs:T0 (Str × V)}{f:Str}{v:V}{E:QQX}
def C6{b:Bool}{Q:QQX}(I:Inv X XQ Y H s)(e:H a=Fa (.ins C dx fs))(c:Cls X.K C)(n:ux X.K C f)(l:fs.lookup f=Fa v) (h:∀u s',Inv X XQ Y H s'->qR v u->Q u s'):pi (Tk X.prog X.w) A (getAttr (.ref a) f b) Q E s:=by
 obtain⟨mA,O,r,_,_,_⟩:=Bx I.mW e;obtain⟨u,hu,ru⟩:=yF.some_of (v:=v) (o:=mA f) (by rw[<-l];exact r f);exact QV I.nk O (c.get f) c.hd n hu (K5 ru) (h u _ (I.tok _) ru)
def Co{pl:Sem Bool}{Q:Vl×T0 Vl->Sd->Prop}(I:Inv X XQ Y H s)(e:H a=Fa (.ins C dx fs))(c:Cls X.K C)(k:vQ X.K C m g)(l:fs.lookup m=Db) (h:Q (.ref g,[.ref a]) s):pi (Tk X.prog X.w) A (TW (.ref a) m pl) Q E s:=by
 obtain⟨mA,O,r,_,_,_⟩:=Bx I.mW e;have hn:mA m=Db:=yF.none_of (by rw[<-l];exact r m);exact Ol I.nk O (c.get m) k.at_ k.fn hn h
def BS{u:Vl}{Q:Unit->Sd->Prop}(I:Inv X XQ Y H s)(e:H a=Fa (.ins C dx fs))(c:Cls X.K C)(n:ux X.K C f)(hl:fs.length<1000)(ry:qR y u) (h:∀s',Inv X XQ Y (upd H a (.ins C dx (vP f y fs))) s'->Q () s'):pi (Tk X.prog X.w) A (setAttr (.ref a) f u) Q E s:=by
 obtain⟨mA,O,r,wi,_,ho⟩:=Bx I.mW e;have hz:(fs.map (·.1)).length<=Ch:=by rw[cT,dI];omega
 refine QX I.nk O c.sa c.po n.oY c.hd wi hz λh' O' sb=>h _ ?_;have hd:∃o,h'.get? dx=Fa o:=let⟨o,_,_,e',_⟩:=O'.ns;⟨o,e'⟩;refine I.write (x:=a) (e:=dx) (by rw[e];exact True.intro) (.inr ho) (λb q hb z=>(sb.2 b hb).trans z) hd ?_;refine⟨by rw[qh O.ne];exact ho,?_,O.ne,O'.obj,_,O'.ns,λg=>?_,λg hg=>?_⟩
 .have:=AX f y fs;omega
 .show yF ((vP f y fs).lookup g) (if g=f then Fa u else mA g);rw[AR];by_cases q:g=f
  .rw[c9 q,c9 q];exact ry
  .rw[cY q,cY q];exact r g
 .by_cases q:g=f
  .rw[q];exact(Ao f y fs).1
  .refine(Ao f y fs).2 g (wi g λz=>hg ?_);show(if g=f then Fa u else mA g)=Db;rw[cY q];exact z
def Inv.made(I:Inv X XQ Y H s):Inv X XQ Y (upd (upd H s.heap.objs.size (.own (s.heap.objs.size+1))) (s.heap.objs.size+1) (.ins C s.heap.objs.size [])) {s with heap:=(s.heap.push W.emptyDict).push (W.instObj C s.heap.objs.size)}:=by
 have e1:(s.heap.push W.emptyDict).get? s.heap.objs.size=Fa W.emptyDict:=dF s.heap Z';have e2:((s.heap.push W.emptyDict).push (W.instObj C s.heap.objs.size)).get? (s.heap.objs.size+1)=Fa (W.instObj C s.heap.objs.size):=by
  have:=dF (s.heap.push W.emptyDict) (o:=W.instObj C s.heap.objs.size) Z'
  rwa [fm]at this
 have e3:(s.heap.push W.emptyDict).Ns s.heap.objs.size (λ_=>Db):=⟨W.emptyDict,#[],_,e1,Z',(λe he=>absurd he (by simp)),λ_=>rfl⟩;have I1:=I.laid (a:=s.heap.objs.size) (o:=.own (s.heap.objs.size+1)) (h':=s.heap.push W.emptyDict) (t':=s.toks) (λb u q=>cZ _ q) (dq _) ⟨_,e1⟩;refine I1.laid (a:=s.heap.objs.size+1) (o:=.ins C s.heap.objs.size []) (t':=s.toks) (λb u q=>cZ _ q) (mz (fm _ _)) ?_;have ne:s.heap.objs.size≠s.heap.objs.size+1:=dE (fE _);refine⟨by rw[qh ne,qw],eN _,ne,e2,λ_=>Db,(lw e3).at λo q=>cZ _ q,λ_=>True.intro,λy hy=>absurd Z' hy⟩
def Jg{prog:Pg}{w:Wo}{env:Env}{e:Go}{f:Str}{s:Sd}{Q:QQX}(hb:Ps e f env (wp e env)=wp e env) (h:pi (Tk prog w) A (wp e env) (λo s₁=>pi (Tk prog w) A (getAttr o f pc) Q E s₁) E s):pi (Tk prog w) A (wp (.Attribute e f pos) env) Q E s:=
 Attribute_any_ h (by rw[arm_eval_Attribute,hb])
end
def WV(K:qC)(ta:TE)(f:Str):TE:=λY H Q=>ta Y H λx H1=>∃a C dx fs v,x=.ref a/\H1 a=Fa (.ins C dx fs)/\Cls K C/\ux K C f/\fs.lookup f=Fa v/\Q v H1
def WW(K:qC)(ta tv:TE)(f:Str):TS:=λD Y H=>tv Y H λy H1=>ta Y H1 λx H2=>∃a C dx fs,x=.ref a/\H2 a=Fa (.ins C dx fs)/\Cls K C/\ux K C f/\fs.length<1000/\
 D.nx Y (upd H2 a (.ins C dx (vP f y fs)))
def PL(X:Cx)(op:XYb)(rd:V->V->Hp->VK->Prop):Prop:=
 ∀(XQ:QQY) (s:Sd) (Y:St) (H:Hp) (x y:V) (u v:Vl) (Q:VK),Inv X XQ Y H s->qR x u->qR y v->rd x y H Q->pi (Tk X.prog X.w) X.A (inplaceOp op u v) (EP X XQ Y Q) X.xe s
def OZ(K:qC)(ta tv:TE)(rd:V->V->Hp->VK->Prop)(f:Str):TS:=λD Y H=>ta Y H λx H1=>∃a C dx fs v,x=.ref a/\H1 a=Fa (.ins C dx fs)/\Cls K C/\ux K C f/\fs.lookup f=Fa v/\
 tv Y H1 λy H2=>rd v y H2 λz H3=>∃dx' fs',H3 a=Fa (.ins C dx' fs')/\fs'.length<1000/\D.nx Y (upd H3 a (.ins C dx' (vP f z fs')))
variable {value:Go}{X0 Z0:Pos}{tv:TE}
section
variable {o e:Go}{f:Str}
def Tj(he:PE X e ta)(hb:Ps e f X.env (wp e X.env)=wp e X.env):PE X (.Attribute e f pos) (WV X.K ta f):=by intro XQ s Y H Q I h;refine Jg hb (sS (he XQ s Y H _ I h) λu s1 zz=>?_);obtain⟨x,H1,I1,rx,a,C,dx,fs,v,ex,ea,c,n,l,q⟩:=zz;subst ex;obtain rfl:u=Value.ref a:=rx;exact C6 I1 ea c n l λu' s2 I2 ru=>⟨v,H1,I2,ru,q⟩
def Tz(ha:PE X o ta)(hv:PE X value tv)(hs:sB value (Fa (.Attribute o f X0)) pos.line X.env=pure lf):PS X (.Assign [.Attribute o f X0] value pos) (WW X.K ta tv f):=by intro XQ s Y H D I h;refine iN (sS (hv XQ s Y H _ I h) λu s1 zz=>x5 zz λy H1 I1 ry q=>sS (ha XQ s1 Y H1 _ I1 q) λov s2 zz=>?_) hs;obtain⟨x,H2,I2,rx,a,C,dx,fs,ex,ea,c,n,l,q2⟩:=zz;subst ex;obtain rfl:ov=Value.ref a:=rx;exact BS I2 ea c n l ry λs3 I3=>⟨Y,_,I3,q2⟩
def Kh(ha:PE X o ta)(hv:PE X value tv)(hop:PL X op rd):PS X (.AugAssign (.Attribute o f Z0) op value pos) (OZ X.K ta tv rd f):=by intro XQ s Y H D I h;refine wpAny_AugAssign_AttributeAny (sS (ha XQ s Y H _ I h) λov s1 zz=>?_);obtain⟨x,H1,I1,rx,a,C,dx,fs,v,ex,ea,c,n,l,q⟩:=zz;subst ex;obtain rfl:ov=Value.ref a:=rx;refine C6 I1 ea c n l λu s2 I2 ru=>sS (hv XQ s2 Y H1 _ I2 q) λw3 s3 zz=>x5 zz λy H2 I3 ry q3=>sS (hop XQ s3 Y H2 v y u w3 _ I3 ru ry q3) λw4 s4 zz=>?_;obtain⟨z,H3,I4,rz,dx',fs',ea',l',q4⟩:=zz;exact BS I4 ea' c n l' rz λs5 I5=>⟨Y,_,I5,q4⟩
def WZ:V->V->Hp->VK->Prop:=λx y H Q=>∃i j,x=.int i/\y=.int j/\Q (.int (i+j)) H
def Wl:V->V->Hp->VK->Prop:=λx y H Q=>∃i j,x=.int i/\y=.int j/\Q (.int (i - j)) H
def Th:PL X .Add WZ:=by
 rintro XQ s Y H x y u v Q I rx ry ⟨i,j,rfl,rfl,q⟩
 obtain⟨t,rfl⟩:=(show ∃t,u=Value.int i t from rx);obtain⟨t',rfl⟩:=(show ∃t',v=Value.int j t' from ry);exact PyProof.Rows.iadd_int ⟨.int (i+j),H,I.tok _,⟨_,Z'⟩,q⟩
def Tu:PL X .Sub Wl:=by
 rintro XQ s Y H x y u v Q I rx ry ⟨i,j,rfl,rfl,q⟩
 obtain⟨t,rfl⟩:=(show ∃t,u=Value.int i t from rx);obtain⟨t',rfl⟩:=(show ∃t',v=Value.int j t' from ry);exact PyProof.Rows.isub_int ⟨.int (i - j),H,I.tok _,⟨_,Z'⟩,q⟩
end
variable {Q:QQX}
section
variable {Y:St}{E:QQX}{c:Vl}{b:Bool}
inductive Be(K:qC)(H:Hp):V->Vl->Prop where
 | mS:Be K H .mS (.type "NoneType")
 | bl (x:Bool):Be K H (.bl x) (.type "bool")
 | int (i:Int):Be K H (.int i) (.type "int")
 | str (x:Str):Be K H (.str x) (.type "str")
 | flt (x:UInt64):Be K H (.flt x) (.type "float")
 | lst {a:Uf} {xs:List V} (e:H a=Fa (.lst xs)):Be K H (.ref a) (.type "list")
 | frz {a:Uf} {o:Obj} {xs:List V} (e:H a=Fa (.frz o (.lst xs))):Be K H (.ref a) (.type "list")
 | tup {a:Uf} {xs:List V} (e:H a=Fa (.tup xs)):Be K H (.ref a) (.type "tuple")
 | dK {a:Uf} {kvs:List (rj×V)} (e:H a=Fa (.dK kvs)):Be K H (.ref a) (.type "dict")
 | dT {a:Uf} {kvs:List (List rj×V)} (e:H a=Fa (.dT kvs)):Be K H (.ref a) (.type "dict")
 | ins {a C dx:Uf} {fs:List (Str×V)} (e:H a=Fa (.ins C dx fs)) (cl:Cls K C) (ha:W.findIn K (.ref C) "__class__"=Fa (Fa (.builtin "object.__class__")))
   (hn:W.specialIn K (.builtin "object.__class__") "__get__"=Fa (Fa (.builtin "getset_descriptor.__get__"))) (htk:W.takesIn K (.builtin "object.__class__")=Fa pc)
   (hm:W.mroIn K C (.type "object")=Fa pc):Be K H (.ref a) (.ref C)
def uT{u t:Vl}(I:Inv X XQ Y H s)(rx:qR x u)(ty:Be X.K H x t)(e:W.kitOne X.K t c=Fa b)(h:∀tk,Q (.bool b) {s with toks:=tk}):
  pi (Tk X.prog X.w) A (call (.builtin "isinstance") [u,c]) Q E s:=by
 cases ty with
 | mS=>cases(show u=Value.none from rx);exact gp W.kitx_none I.nk True.intro e (λz=>nomatch z) h
 | bl y=>cases(show u=Value.bool y from rx);exact gp W.kitx_bool I.nk True.intro e (λz=>nomatch z) h
 | int i=>obtain⟨t,q⟩:=(show ∃t,u=Value.int i t from rx);cases q;exact gp W.kitx_int I.nk True.intro e (λz=>nomatch z) h
 | str y=>obtain⟨t,q⟩:=(show ∃t,u=Value.str y t from rx);cases q;exact gp W.kitx_str I.nk True.intro e (λz=>nomatch z) h
 | flt y=>obtain⟨t,q⟩:=(show ∃t,u=Value.float y t from rx);cases q;exact gp W.kitx_float I.nk True.intro e (λz=>nomatch z) h
 | @lst a xs ea=>cases(show u=Value.ref a from rx);obtain⟨_,_,n,_,h1⟩:=(show su X.prog X.w H s.heap a (.lst xs)from I.mW a _ ea);exact gp lG I.nk ⟨_,h1,Z'⟩ e (λz=>nomatch z) h
 | @frz a ob xs ea=>cases(show u=Value.ref a from rx);obtain⟨_,_,_,n,_,h1⟩:=(show su X.prog X.w H s.heap a (.frz ob (.lst xs))from I.mW a _ ea);exact gp lG I.nk ⟨_,h1,Z'⟩ e (λz=>nomatch z) h
 | @tup a xs ea=>cases(show u=Value.ref a from rx);obtain⟨_,_,_,p⟩:=(show su X.prog X.w H s.heap a (.tup xs)from I.mW a _ ea);obtain⟨o,h1,h2,_⟩:=p;exact gp W.kitx_tuple I.nk ⟨o,h1,h2⟩ e (λz=>nomatch z) h
 | @dK a kvs ea=>cases(show u=Value.ref a from rx);obtain⟨_,_,vs,_,p⟩:=(show su X.prog X.w H s.heap a (.dK kvs)from I.mW a _ ea);obtain⟨o,es,ep,h1,h2,_⟩:=p;exact gp W.kitx_dict I.nk ⟨o,h1,h2.1⟩ e (λz=>nomatch z) h
 | @dT a kvs ea=>cases(show u=Value.ref a from rx);obtain⟨_,_,xs,_,o,es,ep,h1,h2,_⟩:=(show su X.prog X.w H s.heap a (.dT kvs)from I.mW a _ ea);exact gp W.kitx_dict I.nk ⟨o,h1,h2.1⟩ e (λz=>nomatch z) h
 | @ins a C dx fs ea cl ha hn htk hm=>cases(show u=Value.ref a from rx);obtain⟨mA,O,_⟩:=Bx I.mW ea;obtain⟨od,J,_⟩:=O.look;exact gp (W.kitx_own (cl.get _) cl.hd ha hn htk hm) I.nk J e (λz=>nomatch z) h
end
structure sA(k:Nat)(A:Ar):Prop where
 hd:A.handled=Db
 dp:A.depth+3*k+5<recursionLimit
 un:A.units+16*k+200<Y'
def sA.mono{j k:Nat}(r:sA k A)(h:j<=k):sA j A:=⟨r.hd,by have:=r.dp;omega,by have:=r.un;omega⟩
def sA.deeper{k:Nat}(r:sA (k+1) A)(env:Env):sA k (A.deeper env):=
 ⟨r.hd,by have:=r.dp;show A.depth+1+3*k+5<_;omega,by have:=r.un;show A.units+3+16*k+200<_;omega⟩
def Iq{A:Ar}{C:Uf}{us:T0 Vl}{kw:T0 (Str×Vl)}:(A.under (.builtin "type.__call__" ⟨.ref C::us,kw⟩)).depth=A.depth+1:=by first|rfl|simp[Around.under,Code.weight,Code.isCreation,Code.isGuard,Code.isCaller,Code.frames,Code.isFrame,guardIds]
def HU{A:Ar}{C:Uf}{us:T0 Vl}{kw:T0 (Str×Vl)}:(A.under (.builtin "type.__call__" ⟨.ref C::us,kw⟩)).units=A.units+1:=by first|rfl|simp[Around.under,Code.cUnits,Code.frames,Code.isFrame]
def sA.make{k:Nat}(r:sA (k+1) A)(C:Uf)(us:T0 Vl)(kw:T0 (Str×Vl)):sA k (A.under (.builtin "type.__call__" ⟨.ref C::us,kw⟩)):=
 ⟨r.hd,by have:=r.dp;rw[Iq];omega,by have:=r.un;rw[HU];omega⟩
def sA.depth(r:sA k A):A.depth<recursionLimit:=by have:=r.dp;omega
def sA.units(r:sA k A):A.units+64<Y':=by have:=r.un;omega
def U':TA:=λ_ H Q=>Q [] H
def U0(ta:TE)(tr:TA):TA:=λY H Q=>ta Y H λx H1=>tr Y H1 λxs H2=>Q (x::xs) H2
variable {es:T0 Go}
section
variable {e:Go}{t:TA}
def RI:PA X [] U':=λ_ _ _ _ H Q I h=>iD ⟨[],H,I,.nil,h⟩
def QG(ha:PE X e te)(hr:PA X es t)(hs:Bw X e es:=by rfl):PA X (e::es) (U0 te t):=by intro pos XQ s Y H Q I h;rw[hs];show pi _ _ (spliced ((lf,wp e X.env)::xz pos (Tl es X.env))) _ _ s;refine ik (sS (ha XQ s Y H _ I h) λu s1 zz=>x5 zz λx H1 I1 r1 q1=>?_);exact sS (hr pos XQ s1 Y H1 _ I1 q1) λus s2 zz=>x5 zz λxs H2 I2 r2 q2=>⟨x::xs,H2,I2,.cons r1 r2,q2⟩
def Wv(t:TA):TE:=λY H Q=>t Y H λxs H1=>xs.length<=Ch/\∀p,H1 p=Db->Q (.ref p) (upd H1 p (.tup xs))
def V8(t:TA):TE:=λY H Q=>t Y H λxs H1=>xs.length<=Ch/\∀p,H1 p=Db->Q (.ref p) (upd H1 p (.lst xs))
def TN{x1}(h:PA X es t):PE X (.Tuple es x1 pos) (Wv t):=by intro XQ s Y H Q I hq;refine wpAny_Tuple_spliced (sS (h pos XQ s Y H _ I hq) λus s1 ⟨xs,H1,I1,r,z,q⟩=>⟨by rw[<-r.length];exact z,?_⟩);have hf:H1 s1.heap.objs.size=Db:=I1.mW.fresh (dq _);refine⟨.ref s1.heap.objs.size,upd H1 s1.heap.objs.size (.tup xs),I1.laid (t':=s1.toks) (λb u e=>cZ _ e) (dq _) ?_,Z',q _ hf⟩;exact⟨z,us,r,⟨_,dF _ Z',Z',⟨_,Z'⟩,Z'⟩⟩
def So(h:PA X es t):PE X (.List es pos) (V8 t):=by intro XQ s Y H Q I hq;refine wpAny_List_spliced (sS (h pos XQ s Y H _ I hq) λus s1 ⟨xs,H1,I1,r,z,q⟩=>⟨by rw[<-r.length];exact z,?_⟩);have hf:H1 s1.heap.objs.size=Db:=I1.mW.fresh (dq _);refine⟨.ref s1.heap.objs.size,upd H1 s1.heap.objs.size (.lst xs),I1.laid (t':=s1.toks) (λb u e=>cZ _ e) (dq _) ?_,Z',q _ hf⟩;exact⟨z,us,0,r,dF _ Z'⟩
end
abbrev Sp:=T0 V->Hp->VK->XK->Prop
abbrev Ln:=T0 Env->Hp->Sd->XK->Vl->Sd->Prop
structure Ie(P:Pg)(w:Wo)(K:qC)(mg:QQZ)(base:No)(A:Ar)(outer:List Env)(s:Sd)(H:Hp):Prop where
 frames:A.frames=Fa outer
 mod:Mod K mg base
 bs:∀b o,base.get? b=Fa o->s.heap.get? b=Fa o/\H b=Db
 oo:base.objs.size<=s.heap.objs.size
 nF:s.heap.FunFrames base outer
 oA:∀b∈wx outer,H b=Db
 mW:yE P w H s.heap
 bare:XYa s.gens
def CE(outer:T0 Env)(P:Pg)(w:Wo)(H:Hp)(s:Sd)(Q:VK)(u:Vl)(s':Sd):Prop:=
 ∃v H',s'.os=s.os/\XYa s'.gens/\Un (wx outer) [] H H' s.heap s'.heap/\yE P w H' s'.heap/\qR v u/\Q v H'
def CR(CX:Ln)(outer:T0 Env)(P:Pg)(w:Wo)(H:Hp)(s:Sd)(Q:VK)(E:XK)(r:Result)(s':Sd):Prop:=
 match r with
 | .ok (.ret u)=>CE outer P w H s Q u s'
 | .ok _=>False
 | .error e=>CX outer H s E e s'
structure xA(P:Pg)(w:Wo)(K:qC)(mg:QQZ)(base:No)(CX:Ln)(k:Nat)(f:Uf)(fd:wv)(ps:QQQ)(sp:Sp):Prop where
 len:∀vs H Q E,sp vs H Q E->vs.length=ps.length
 run:∀(A:Ar) (outer:List Env) (s:Sd) (H:Hp) (args:Args) (us:List Vl) (vs:List V) (Q:VK) (E:XK),sA k A->Ie P w K mg base A outer s H->BindsTo s fd args (ps.zip us)->qJ vs us->sp vs H Q E->
  XXj (Tk P w) A (.call (.ref f) args) (CR CX outer P w H s Q E) s
def Ie.make{K:qC}(e:Ie P w K mg base A outer s H)(C:Uf)(us:T0 Vl)(kw:T0 (Str×Vl)):
  Ie P w K mg base (A.under (.builtin "type.__call__" ⟨.ref C::us,kw⟩)) outer s H:=⟨by first|exact e.frames|(simpa [Around.under,Code.envs,Code.isFrame,pushEnvs]using e.frames),e.mod,e.bs,e.oo,e.nF,e.oA,e.mW,e.bare⟩
variable {s':Sd}
section
variable {Y:St}
def Inv.ow(I:Inv X XQ Y H s):Ie X.prog X.w X.K X.mg X.base X.A X.stack s H:=
 ⟨I.ok.frames,I.ok.mod,I.bs,dY I.ok.oo I.sz,I.stack,I.nN,I.mW,I.bare⟩
def Inv.after{Q:VK}{u:Vl}(I:Inv X XQ Y H s)(h:CE X.stack X.prog X.w H s Q u s'):EP X XQ Y Q u s':=by obtain⟨v,H',os,bare,un,mW,r,q⟩:=h;obtain⟨hh,g,d,t,os'⟩:=s';obtain rfl:os'=s.os:=os;exact⟨v,H',I.call (h':=hh) (g':=g) (d':=d) (t':=t) (ch:=[]) un mW bare (λb z=>absurd z (by simp)),r,q⟩
end
def VL(sp:Sp)(YD:T0 V)(E:XK)(t:TA):TE:=λY H Q=>t Y H λvs H1=>sp (vs++YD) H1 Q E
def UQ(C:Uf)(sp:Sp)(YD:T0 V)(E:XK)(t:TA):TE:=λY H Q=>t Y H λvs H1=>∀x dx,H1 x=Db->H1 dx=Db->dx≠x->
 sp (.ref x::(vs++YD)) (upd (upd H1 dx (.own x)) x (.ins C dx [])) (λv H2=>v=.mS/\Q (.ref x) H2) E
def vb(K:qC)(fd:wv)(ps:QQQ)(ds:T0 Vl):Prop:=
 ∀(s:Sd) (us:T0 Vl),K.In s.heap->(us++ds).length=ps.length->BindsTo s fd ⟨us,[]⟩ (ps.zip (us++ds))
def vb.all{K:qC}{fd:wv}{ps:QQQ}(h:∀us:T0 Vl,us.length=ps.length->bindArgs fd ⟨us,[]⟩=pure (ps.zip us)):vb K fd ps []:=λs us _ hl=>by rw[eR]at hl ⊢;exact .of_eq (h us hl)
def B5(CX:Ln)(X:Cx)(E:XK):Prop:=∀(XQ:QQY) (Y:St) (H:Hp) (s:Sd) (e:Vl) (s':Sd),Inv X XQ Y H s->CX X.stack H s E e s'->X.xe e s'
variable {CX:Ln}{k:Nat}{fd:wv}{ps:QQQ}{sp:Sp}{YD:T0 V}{ds:T0 Vl}{m:Str}{p XU:Pos}
section
variable {f:Uf}{E:XK}{x:Str}{e o:Go}{t:TA}
def ES{XQ:QQY}{Q:VK}(F:xA X.prog X.w X.K X.mg X.base CX k f fd ps sp)(hr:sA k X.A)(hb:vb X.K fd ps ds)(hd:qJ YD ds)(hx:B5 CX X E) (I:Inv X XQ Y H s) (r:qJ vs us) (h:sp (vs++YD) H Q E):pi (Tk X.prog X.w) X.A (call (.ref f) us) (EP X XQ Y Q) X.xe s:=by
 have r2:qJ (vs++YD) (us++ds):=r.append hd;have hl:(us++ds).length=ps.length:=by rw[<-r2.length];exact F.len _ _ _ _ h
 refine hW (gj (F.run X.A X.stack s H ⟨us,[]⟩ (us++ds) (vs++YD) Q E hr I.ow (hb s us I.nk hl) r2 h) λr s' hq=>?_);cases r with
 | error e=>exact hx XQ Y H s e s' I hq
 | ok fl=>
  cases fl with
  | ret u=>exact I.after hq
  | next=>exact False.elim hq
  | brk=>exact False.elim hq
  | cont=>exact False.elim hq
def PU(F:xA X.prog X.w X.K X.mg X.base CX k f fd ps sp)(hr:sA k X.A)(hg:Gl X x)(hm:X.mg x=Fa (.ref f))(hk:W.keepIn X.K (.ref f)=pc)(hb:vb X.K fd ps ds)(hd:qJ YD ds)(hx:B5 CX X E) (ha:PA X (e::es) t) (Yd:zb x:=by decide) (he:Bw X e es:=by rfl) (X9:Dc X pos es:=by rfl):
  PE X (.Call (.Name x p) (e::es) [] pos) (VL sp YD E t):=by
 intro XQ s Y H Q I h;refine fQ (xk I hg hm ?_ Yd);refine iO (h₀:=X.base) I.ok.mod.oC hk (sS (ha pos XQ s Y H _ I h) λus s1 zz=>x5 zz λvs H1 I1 r q=>⟨I1.nk,?_⟩) he X9;exact ES F hr hb hd hx I1 r q
structure Mk(K:qC)(C f:Uf):Prop where
 makes:W.makesIn K C=pc
 init:W.findIn K (.ref C) "__init__"=Fa (Fa (.ref f))
 fn:W.isFn K (.ref f)=pc
 kp:W.keepIn K (.ref C)=pc
def NC{XQ:QQY}{Q:VK}(M:Mk X.K C f)(F:xA X.prog X.w X.K X.mg X.base CX k f fd ps sp)(hr:sA (k+1) X.A)(hb:vb X.K fd ps ds)(hd:qJ YD ds) (hx:B5 CX X E) (I:Inv X XQ Y H s) (r:qJ vs us) (h:∀x dx,H x=Db->H dx=Db->dx≠x->sp (.ref x::(vs++YD)) (upd (upd H dx (.own x)) x (.ins C dx [])) (λv H2=>v=.mS/\Q (.ref x) H2) E):
  pi (Tk X.prog X.w) X.A (call (.ref C) us) (EP X XQ Y Q) X.xe s:=by
 have hq:=h (s.heap.objs.size+1) s.heap.objs.size (I.mW.fresh (gW _)) (I.mW.fresh (dq _)) (dE (fE _));have I2:=Inv.made (C:=C) I;have r2:qJ (V.ref (s.heap.objs.size+1)::(vs++YD)) (Value.ref (s.heap.objs.size+1)::(us++ds)):=.cons Z' (r.append hd);have hl:(Value.ref (s.heap.objs.size+1)::us++ds).length=ps.length:=by have e:=r2.length;rw[F.len _ _ _ _ hq]at e;exact e.symm
 refine hW (Ow (f:=f) I.nk M.makes M.init (fh.mp M.fn) (gj (F.run _ X.stack _ _ ⟨Value.ref (s.heap.objs.size+1)::us,[]⟩ (Value.ref (s.heap.objs.size+1)::(us++ds)) _ _ E (hr.make C us [])
  (I2.ow.make C us []) (hb _ (Value.ref (s.heap.objs.size+1)::us) I2.nk hl) r2 hq) λr s' Zv=>?_))
 cases r with
 | error e=>exact hx XQ Y _ _ e s' I2 Zv
 | ok fl=>
  cases fl with
  | ret u=>obtain⟨v,H',I3,rv,ev,q3⟩:=I2.after Zv;subst ev;exact⟨rv,⟨V.ref (s.heap.objs.size+1),H',I3,Z',q3⟩⟩
  | next=>exact False.elim Zv
  | brk=>exact False.elim Zv
  | cont=>exact False.elim Zv
def Pi(M:Mk X.K C f)(F:xA X.prog X.w X.K X.mg X.base CX k f fd ps sp)(hr:sA (k+1) X.A)(hg:Gl X x)(hm:X.mg x=Fa (.ref C))(hb:vb X.K fd ps ds)(hd:qJ YD ds)(hx:B5 CX X E) (ha:PA X (e::es) t) (Yd:zb x:=by decide) (he:Bw X e es:=by rfl) (X9:Dc X pos es:=by rfl):
  PE X (.Call (.Name x p) (e::es) [] pos) (UQ C sp YD E t):=by
 intro XQ s Y H Q I h;refine fQ (xk I hg hm ?_ Yd);refine iO (h₀:=X.base) I.ok.mod.oC M.kp (sS (ha pos XQ s Y H _ I h) λus s1 zz=>x5 zz λvs H1 I1 r q=>⟨I1.nk,?_⟩) he X9;exact NC M F hr hb hd hx I1 r q
end
variable {g:T0 Vl→T0 Vl→T0 Vl}{gV:T0 V→T0 V→T0 V}{ks:QQQ}{kpos:Pos}{kws:T0 XXe}{tk:TA}{nm:Option Str}
section
variable {f:Uf}{E:XK}{x:Str}{e o:Go}{t:TA}
structure WP(K:qC)(fd:wv)(ps ks:QQQ)(g:List Vl->List Vl->List Vl)(gV:List V->List V->List V):Prop where
 to:∀(s:Sd) (us ws:List Vl),K.In s.heap->(g us ws).length=ps.length->BindsTo s fd ⟨us,ks.zip ws⟩ (ps.zip (g us ws))
 rel:∀{vs:List V} {us:List Vl} {zs:List V} {ws:List Vl},qJ vs us->qJ zs ws->qJ (gV vs zs) (g us ws)
end
structure tM(N P:QQQ)(sc:XXd):Prop where
 kind:sc.kind=.function
 co:sc.isCoroutine=lf
 gen:sc.isGenerator=lf
 nd:N.Nodup
 pre:N.take P.length=P
 par:∀x∈P,sc.names.lookup x=Fa .local\/sc.names.lookup x=Fa .cell
 pD:∀y∈sc.names,y.2≠.free
theorem D0{kindOf:Str->Option wS}{x:Str}:∀{binds:T0 (Str×Vl)} {m:QQZ},(∀v,(x,v)∉binds)->bindL kindOf binds m x=m x
 | [],_,_=>rfl
 | (n,v)::r,m,h=>by
  unfold bindL;rw[D0 λw hw=>h w (dC _ hw)];split
  .have:x≠n:=by rintro rfl;exact h v dG
   simp[this]
  .rfl
theorem Ep{kindOf:Str->Option wS}{x:Str}:∀{binds:T0 (Str×Vl)} {m:QQZ},(∀v,(x,v)∉binds)->bindC kindOf binds m x=m x
 | [],_,_=>rfl
 | (n,v)::r,m,h=>by
  unfold bindC;rw[Ep λw hw=>h w (dC _ hw)];split
  .rfl
  .have:x≠n:=by rintro rfl;exact h v dG
   simp[this]
theorem Er{kindOf:Str->Option wS}{x:Str}{v:Vl}:∀{P:QQQ} {vs:T0 Vl} {i:Nat} {m:QQZ},P.Nodup->P[i]?=Fa x->vs[i]?=Fa v->kindOf x=Fa .local->
  bindL kindOf (P.zip vs) m x=Fa v
 | [],_,_,_,_,h,_,_=>by simp at h
 | _::_,[],_,_,_,_,h,_=>by simp at h
 | p::P,w::vs,0,m,nd,h1,h2,hk=>by simp at h1 h2;subst h1;subst h2;show bindL kindOf ((p,w)::P.zip vs) m p=_;unfold bindL;rw[D0 λv hv=>(dR.mp nd).1 (jU hv).1,c9 hk];simp
 | p::P,w::vs,i+1,m,nd,h1,h2,hk=>by show bindL kindOf ((p,w)::P.zip vs) m x=_;unfold bindL;exact Er (i:=i) (dR.mp nd).2 (by simpa using h1) (by simpa using h2) hk
theorem DY{kindOf:Str->Option wS}{x:Str}{v:Vl}:∀{P:QQQ} {vs:T0 Vl} {i:Nat} {m:QQZ},P.Nodup->P[i]?=Fa x->vs[i]?=Fa v->kindOf x≠Fa .local->
  bindC kindOf (P.zip vs) m x=Fa v
 | [],_,_,_,_,h,_,_=>by simp at h
 | _::_,[],_,_,_,_,h,_=>by simp at h
 | p::P,w::vs,0,m,nd,h1,h2,hk=>by simp at h1 h2;subst h1;subst h2;show bindC kindOf ((p,w)::P.zip vs) m p=_;unfold bindC;rw[Ep λv hv=>(dR.mp nd).1 (jU hv).1,cY hk];simp
 | p::P,w::vs,i+1,m,nd,h1,h2,hk=>by show bindC kindOf ((p,w)::P.zip vs) m x=_;unfold bindC;exact DY (i:=i) (dR.mp nd).2 (by simpa using h1) (by simpa using h2) hk
noncomputable def start(N:QQQ)(vs:T0 V):St:=vs.map Fa++List.replicate (N.length - vs.length) Db
noncomputable def vG(CX:Ln)(P:Pg)(w:Wo)(K:qC)(mg:QQZ)(base:No)(N:QQQ)(qual:Str)(scope:XXd)(f:Uf)(cd:Vl)(A:Ar)(outer:T0 Env)(s:Sd)(H:Hp)(E:XK):Cx where
 prog:=P
 w:=w
 K:=K
 mg:=mg
 base:=base
 A:=A.deeper (dL qual scope s.heap.objs.size f cd)
 N:=N
 s₀:=s
 H₀:=H
 env:=dL qual scope s.heap.objs.size f cd
 outer:=outer
 stack:=dL qual scope s.heap.objs.size f cd::outer
 ex:=[]
 calm:=true
 fn:=λ_=>pc
 pn:=[]
 xe:=λe s'=>pi (Tk P w) (A.deeper (dL qual scope s.heap.objs.size f cd)) (leaving (dL qual scope s.heap.objs.size f cd) e) (λ_ s''=>CX outer H s E e s'') (λe' s''=>CX outer H s E e' s'') s'
def G7{sc:XXd}{n:Nat}{x:Str}(h:sc.names.lookup x=Fa .cell):∃c,(cellsFrom n sc.names []).lookup x=Fa c:=by have q:=lQ sc.names n [] (.inl h);exact jF.mp q
def Lk{CX:Ln}{K:qC}{qual:Str}{f:Uf}{cd:Vl}{A:Ar}{E:XK}{vs:T0 V} (S:tM N ps scope) (hd:A.handled=Db) (e0:Ie P w K mg base A outer s H) (hl:vs.length=ps.length) (r:qJ vs us) (x:InCallC s s.heap.objs.size (bindL (dL qual scope s.heap.objs.size f cd).kindOf (ps.zip us) λ_=>Db) (cellsFrom (s.heap.objs.size+1) scope.names []) (bindC (dL qual scope s.heap.objs.size f cd).kindOf (ps.zip us) λ_=>Db) s1):
  Inv (vG CX P w K mg base N qual scope f cd A outer s H E) [] (start N vs) H s1:=by
 have X9:ps.length<=N.length:=by have:=eK List.length S.pre;rw[fL]at this;omega
 obtain⟨h1,tk,rfl,hk⟩:=x.done;have noA:∀b:Uf,b∉(vG CX P w K mg base N qual scope f cd A outer s H E).ex:=λb z=>absurd (show b∈([]:QXQ)from z) (by simp);refine⟨⟨e0.mod,S.kind,Z',Z',dq _,λy z c h1 h2=>?_,λy hy=>?_,λy c _ h=>?_,λ_=>hd,Around.frames_deeper e0.frames,.inr ⟨Z',Z'⟩,λb z=>absurd z (noA b),e0.bs,e0.oo,λb _ _=>noA b,λb z=>absurd z (noA b),e0.nF,e0.oA⟩,Z',e0.bare,Un.kept hk,⟨_,x.toInCall.ns,λi y v h1 h2 h3=>?_⟩,λy c h=>⟨_,x.cell y c h⟩,e0.mW.fresh (dq _),λy c h=>?_,λp hp=>absurd (show p∈([]:QQY)from hp) (by simp),e0.mW.kept hk,?_⟩
 .exact name_of_addr x.apart (gN h1) (gN h2)
 .have hy:scope.names.lookup y=Fa .cell\/scope.names.lookup y=Fa .free:=hy;rcases hy with hy|hy
  .exact G7 hy
  .exact absurd Z' (S.pD _ (gN hy))
 .exact jD (x.above y c (gN h))
 .have hi:i<vs.length:=by
   unfold start at h2;by_cases hi:i<vs.length
   .exact hi
   .rw[eW (by simpa using hi)]at h2;rw[jR]at h2;split at h2<;>cases h2
  have ha:vs[i]?=Fa v:=by
   unfold start at h2;rw[eY (by simpa using hi),dD]at h2;cases e:vs[i]? with
   | none=>rw[e]at h2;cases h2
   | some a=>rw[e]at h2;cases h2;rfl
  obtain⟨u,hu,rv⟩:=r.get ha;have hp:ps[i]?=Fa y:=by rw[<-S.pre,List.getElem?_take_of_lt (by omega)];exact h1
  have ndP:ps.Nodup:=by rw[<-S.pre];exact S.nd.sublist (List.take_sublist _ _)
  refine⟨u,rv,?_⟩;rcases S.par y (fk hp)with k|k
  .exact .inl ⟨k,Er ndP hp hu k⟩
  .obtain⟨c,e⟩:=G7 (n:=s.heap.objs.size+1) k;refine .inr ⟨.inl k,c,e,?_⟩;have q:=x.cell y c e;rw[DY ndP hp hu (by show scope.names.lookup y≠_;rw[k];decide)]at q;exact q
 .exact e0.mW.fresh (jD (x.above y c (gN h)))
 .unfold start;show _=N.length;rw[cW,cT,iL];omega
def Nk{CX:Ln}{P:Pg}{w:Wo}{K:qC}{mg:QQZ}{base:No}{f:Uf}{dV kV Yu pm X1 ct oc:Vl}{an od:Option Uf} {YL:Array (Option Vl)} {N ps:QQQ} {sp:Sp} (lk:K.lookup f=Fa ⟨oc,od,.func (W.fnOf name qual params body scope dV kV Yu pm an X1 ct),YL⟩) (YR:W.codeIn K X1 qual=pc) (S:tM N ps scope) (len:∀vs H Q E,sp vs H Q E->vs.length=ps.length) (Yg:∀(A:Ar) (outer:T0 Env) (s:Sd) (H:Hp) (vs:T0 V) (Q:VK) (E:XK),sA k (A.deeper (dL qual scope s.heap.objs.size f X1))->sp vs H Q E->
   ∃t,CS (vG CX P w K mg base N qual scope f X1 A outer s H E) body t/\t {nx:=λ_ H'=>Q .mS H',rt:=Q} (start N vs) H):
  xA P w K mg base CX (k+1) f (W.fnOf name qual params body scope dV kV Yu pm an X1 ct) ps sp:=by
 refine⟨len,λA outer s H args us vs Q E hr e0 hb r Zg=>?_⟩;have hl:=len _ _ _ _ Zg;have KX:K.In s.heap:=e0.mod.oC.keeps λb o e=>(e0.bs b o e).1;have lim:s.heap.NoLimit:=e0.mod.nolimit.keeps λb o e=>(e0.bs b o e).1;have hkind:∀y∈ps.zip us,scope.names.lookup y.1=Fa .local\/(scope.names.lookup y.1=Fa .cell/\((cellsFrom (s.heap.objs.size+1) scope.names []).lookup y.1).isSome=pc):=λ⟨n,v⟩ hy=>by
  rcases S.par n (jU hy).1 with q|q
  .exact .inl q
  .exact .inr ⟨q,lQ _ _ _ (.inl q)⟩
 refine codeAny_call_function hr.depth (KX _ _ lk) Z' S.co S.gen Z' (W.codeRec_of KX YR) (hb _ _ _ _ ?_);refine wpAny_newFunctionEnv_cells S.kind hkind λenv he s1 x=>?_;subst he;refine⟨lim.keeps x.toInCall.keep,codeAny_func ?_⟩;obtain⟨t,ht,hq⟩:=Yg A outer s H vs Q E (hr.deeper _) Zg;have I:Inv (vG CX P w K mg base N qual scope f X1 A outer s H E) [] (start N vs) H s1:=Lk S hr.hd e0 hl r x;refine d9 (ht [] s1 (start N vs) H _ I hq) (λfl s' hs=>?_) λe s' hs=>hs;have XW:∀{σ':St} {H':Hp} {v:V} {u:Vl},Inv (vG CX P w K mg base N qual scope f X1 A outer s H E) [] σ' H' s'->qR v u->Q v H'->CE outer P w H s Q u s':=
  λ{σ' H' v u} J rv q=>⟨v,H',J.os,J.bare,J.base,J.mW,rv,q⟩
 cases fl with
 | ret u=>obtain⟨v,σ',H',J,rv,q⟩:=hs;exact XW J rv q
 | next=>obtain⟨σ',H',J,q⟩:=hs;exact XW (v:=V.mS) (u:=Value.none) J Z' q
 | brk=>obtain⟨_,_,_,q⟩:=hs;exact False.elim q
 | cont=>obtain⟨_,_,_,q⟩:=hs;exact False.elim q
variable {id T:String}{r:T0 V→Hp→VK→Prop}
section
variable {x:Str}{e:Go}{t:TA}
def Xf(r:T0 V->Hp->VK->Prop)(t:TA):TE:=λY H Q=>t Y H λvs H1=>r vs H1 Q
def Mq(hc:Ab X (.builtin id) r)(hg:Gl X x)(hm:X.mg x=Db)(hv:zn x=Fa (.builtin id))(ha:PA X (e::es) t)(hn:x≠"__name__":=by decide)(Yd:zb x:=by decide)
  (he:Bw X e es:=by rfl) (X9:Dc X pos es:=by rfl):PE X (.Call (.Name x p) (e::es) [] pos) (Xf r t):=by
 intro XQ s Y H Q I h;refine fQ (xj I hg hm hv ?_ hn Yd);exact gR (sS (ha pos XQ s Y H _ I h) λus s1 zz=>x5 zz λvs H1 I1 r1 q1=>hc XQ s1 Y H1 vs us Q I1 r1 q1) he X9
def Kr(hc:Ab X (.type T) r)(hg:Gl X x)(hm:X.mg x=Db)(hv:zn x=Fa (.type T))(ha:PA X (e::es) t)(hn:x≠"__name__":=by decide)(Yd:zb x:=by decide)
  (he:Bw X e es:=by rfl) (X9:Dc X pos es:=by rfl):PE X (.Call (.Name x p) (e::es) [] pos) (Xf r t):=by
 intro XQ s Y H Q I h;refine fQ (xj I hg hm hv ?_ hn Yd);exact fU (sS (ha pos XQ s Y H _ I h) λus s1 zz=>x5 zz λvs H1 I1 r1 q1=>hc XQ s1 Y H1 vs us Q I1 r1 q1) he X9
end
end L2
namespace HT
open PySem PyProof.Rows
section
open PySem.SeqAt
open PySem.AutoSeq1 (wpAny_loadPart')
open PySem.MeetsSeq PySem.MeetsSeq2 PySem.MeetsSeq3
end
variable {prog:Pg}{w:Wo}{A:Ar}{E:QQX}{s:Sd}
def Q3{vs ws:T0 Vl}{Q:QQX}(ht:IsTup s.heap t vs.toArray)(hb:IsTup s.heap b ws.toArray)(hv:vs≠[]) (h1:ws=[]->Q (.ref t) s) (h2:ws≠[]->Q (.ref s.heap.objs.size) {s with heap:=s.heap.push {cls:=.type "tuple",data:=.seq (vs++ws).toArray}})
  (hsz:vs.length+ws.length<=Ch):pi (Tk prog w) A (wP .Add (.ref t) (.ref b)) Q E s:=by
 obtain⟨⟨cls,dd,data,sl⟩,ho,hc,n,hd⟩:=id ht;obtain⟨⟨cls2,dd2,data2,sl2⟩,ho2,hc2,n2,hd2⟩:=id hb;simp only at hc hd hc2 hd2;subst hc hd hc2 hd2;have e:vs.toArray++ws.toArray=(vs++ws).toArray:=by simp
 by_cases hw:ws=[]
 .exact kU ⟨_,ho,Z'⟩ ⟨_,ho2,Z'⟩ lR seq_tuple_add j4 jS (jG _ _)
   (tuple_addW1 t b vs.toArray ws.toArray n n2 dd dd2 sl sl2 (by simpa using hv) (by simp[hw])) ⟨ho,ho2,h1 hw⟩
 .refine kU ⟨_,ho,Z'⟩ ⟨_,ho2,Z'⟩ lR seq_tuple_add j4 jS (jG _ _)
   (tuple_addW2 t b vs.toArray ws.toArray n n2 dd dd2 sl sl2 (by simpa using hv) (by simpa using hw) (by rw[dw,dw];exact hsz)) ⟨ho,ho2,?_⟩
  rw[e];exact h2 hw
noncomputable def tO(n d:Nat):Option Int->Nat
 | none=>d
 | some v=>if v<0 then(v+(n:Int)).toNat else min v.toNat n
def CM(n d:Nat):tO n d Db=d:=rfl
def JF(n d k:Nat):tO n d (Fa (k:Int))=min k n:=by show(if (k:Int)<0 then((k:Int)+(n:Int)).toNat else min (k:Int).toNat n)=min k n;rw[cY (by omega),jr]
def Sy(n d:Nat)(hd:d<=n)(o:Option Int):tO n d o<=n:=by
 cases o with
 | none=>exact hd
 | some v=>
  show(if v<0 then(v+(n:Int)).toNat else min v.toNat n)<=n;by_cases hv:v<0
  .rw[c9 hv];omega
  .rw[cY hv];exact Nat.min_le_right _ _
def JU(v:Int)(n d:Nat):(if v<0 then max (v+(n:Int)) 0 else min v (n:Int))=((tO n d (Fa v):Nat):Int):=by
 show(if v<0 then max (v+(n:Int)) 0 else min v (n:Int))=(((if v<0 then(v+(n:Int)).toNat else min v.toNat n):Nat):Int);by_cases hv:v<0
 .simp only[c9 hv];omega
 .simp only[cY hv];omega
def IC(lo hi:Option Int)(n:Nat):Builtin.Slice.sliceAdjust lo hi 1 (n:Int)=(((tO n 0 lo:Nat):Int),((tO n n hi:Nat):Int)):=by
 have h1:¬((1:Int)<0):=by omega
 unfold Builtin.Slice.sliceAdjust;simp only[h1,jf];refine mB ?_ ?_
 .cases lo with
  | none=>rfl
  | some v=>exact JU v n 0
 .cases hi with
  | none=>rfl
  | some v=>exact JU v n n
def IU(i j:Nat):Builtin.Slice.slicePlaces (i:Int) (j:Int) 1=j - i:=by
 unfold Builtin.Slice.slicePlaces;have h1:(1:Int)>0:=by omega
 simp only[h1,jg,Int.ediv_one];split<;>omega
def CQ{Q:Option Int->Sd->Prop}(p:IsPart v o)(h:Q o s):pi (Tk prog w) A (Builtin.Slice.slicePartIndex v) Q E s:=by
 cases p with
 | none=>exact slicePart_none h
 | int i t=>exact slicePart_int h
def wz{sl:Uf}{vl vu:Vl}{lo hi:Option Int}{Q:Int×Int×Nat->Sd->Prop}(hs:s.heap.IsSliceOf sl vl vu .none)(pl:IsPart vl lo)(pu:IsPart vu hi) (h:Q (((tO n 0 lo:Nat):Int),1,tO n n hi - tO n 0 lo) s):pi (Tk prog w) A (Builtin.Slice.sliceApplied (.ref sl) (pure (n:Int))) Q E s:=by
 obtain⟨os,hos,hcs,Y2⟩:=id hs;unfold Builtin.Slice.sliceApplied Builtin.Slice.sliceFields;refine cU (cU (fi hos Y2 (x:=vl) Z' (cU (fi hos Y2 (x:=vu) Z' (cU (fi hos Y2 (x:=.none) Z' (df ?_)))))));refine cU (slicePart_none ?_);show pi _ _ (if ((1:Int)==0)=pc then _ else _) _ _ s;rw[cY (by decide)];refine cU (CQ pl (cU (CQ pu (cU (df ?_)))));show pi _ _ (match Builtin.Slice.sliceAdjust lo hi 1 (n:Int)with|(lo,hi)=>pure (lo,(1:Int),Builtin.Slice.slicePlaces lo hi 1)) _ _ s;rw[IC lo hi n];show pi _ _ (pure (((tO n 0 lo:Nat):Int),(1:Int),Builtin.Slice.slicePlaces ((tO n 0 lo:Nat):Int) ((tO n n hi:Nat):Int) 1)) _ _ s;rw[IU];exact df h
def NE(xs:Array Vl)(i k:Nat):((List.range k).filterMap λ(m:Nat)=>xs[((i:Int)+(m:Int)*1).toNat]?).toArray=((xs.toList.drop i).take k).toArray:=by
 have e:(λ(m:Nat)=>xs[((i:Int)+(m:Int)*1).toNat]?)=λm=>xs[i+m]?:=by
  funext m;have:((i:Int)+(m:Int)*1).toNat=i+m:=by omega
  rw[this]
 rw[e];have:=pick_run xs i k;rw[List.filterMap_map]at this;have e2:((λx=>xs[x]?)∘λx=>i+x)=λm=>xs[i+m]?:=rfl;rw[e2]at this;rw[this]
def zx{t sl:Uf}{vl vu:Vl}{lo hi:Option Int}{Q:QQX}(ht:IsTup s.heap t XS)(hs:s.heap.IsSliceOf sl vl vu .none)(pl:IsPart vl lo)(pu:IsPart vu hi) (hw:¬(tO XS.size 0 lo=0/\tO XS.size XS.size hi=XS.size)) (h:Q (.ref s.heap.objs.size) {s with heap:=s.heap.push {cls:=.type "tuple",data:=.seq ((XS.toList.drop (tO XS.size 0 lo)).take (tO XS.size XS.size hi - tO XS.size 0 lo)).toArray}})
  (hsz:XS.size<=Ch):pi (Tk prog w) A (XXf (.ref t) (.ref sl)) Q E s:=by
 have Y9:sizeOk (.seq ((XS.toList.drop (tO XS.size 0 lo)).take (tO XS.size XS.size hi - tO XS.size 0 lo)).toArray):=by show((XS.toList.drop (tO XS.size 0 lo)).take (tO XS.size XS.size hi - tO XS.size 0 lo)).toArray.size<=Ch;rw[dw,fL,gc,ie];omega
 have hj:tO XS.size XS.size hi<=XS.size:=Sy _ _ (dq _) hi;obtain⟨os,hos,hcs,Y2⟩:=id hs;have hTs:s.TypeIs (.ref sl) "slice":=⟨os,hos,hcs⟩;unfold XXf
 try with_reducible refine eB ?_
 first|refine cU (df ?_)|skip
 refine cU (js ht.typeIs (by decide) ?_);refine cU (fK (name:=Str.ofString "__getitem__") ht.typeIs fB
  (fR fB ht.typeIs kG ?_ (kW _ _)))
 show pi _ _ (Builtin.Tuple.tupleItemsOf (.ref t)>>=_) _ _ s;refine cU (tupleItemsOf_ ht ?_);refine cU (jI hTs ?_);rw[c9 (by decide)];refine cU (wz hs pl pu ?_);have hno:¬((((tO XS.size 0 lo:Nat):Int)==0&&(1:Int)==1&&(tO XS.size XS.size hi - tO XS.size 0 lo)==XS.size)=pc):=by intro q;rw[dS,dS]at q;have q1:((tO XS.size 0 lo:Nat):Int)=0:=sK q.1.1;have q2:tO XS.size XS.size hi - tO XS.size 0 lo=XS.size:=sK q.2;exact hw ⟨by omega,by omega⟩
 show pi _ _ (if (((tO XS.size 0 lo:Nat):Int)==0&&(1:Int)==1&&(tO XS.size XS.size hi - tO XS.size 0 lo)==XS.size)=pc then _ else _) _ _ s;rw[cY hno,NE]
 first
  | exact cU (m:=Builtin.Tuple.tupleExact _) (fS (df ⟨_,rfl,df h⟩) Y9)
  | exact cU (m:=Builtin.Tuple.tupleExact _) (fS (cU (df (df ⟨_,rfl,df h⟩))) Y9)
  | exact cU (cU (m:=Builtin.Tuple.tupleExact _) (fS (df (df ⟨_,rfl,df h⟩)) Y9))
  | exact cU (cU (m:=Builtin.Tuple.tupleExact _) (fS (df ⟨_,rfl,df h⟩) Y9))
end HT
namespace L2
abbrev TO:=St->Hp->(Option Int->Hp->Prop)->Prop
def PO(X:Cx)(e:Option Go)(t:TO):Prop:=
 ∀(XQ:QQY) (s:Sd) (Y:St) (H:Hp) (Q:Option Int->Hp->Prop),Inv X XQ Y H s->t Y H Q->
  pi (Tk X.prog X.w) X.A (evalPart e X.env) (λu s'=>∃o H',Inv X XQ Y H' s'/\IsPart u o/\Q o H') X.xe s
def Pk:TO:=λ_ H Q=>Q Db H
def Vy(t:TE):TO:=λY H Q=>t Y H λx H1=>∃i,x=.int i/\Q (Fa i) H1
variable {X:Cx}{e:Go}{te:TE}{lo hi:Option Go}{tl th:TO}{pos p2:Pos}
def Q9:PO X Db Pk:=by intro XQ s Y H Q I h;rw[evalPart_none];exact df ⟨Db,H,I,.none,h⟩
def Pa(h:PE X e te):PO X (Fa e) (Vy te):=by intro XQ s Y H Q I hw;rw[evalPart_some];refine sS (h XQ s Y H _ I hw) λu s1 zz=>x5 zz λx H1 I1 r1 q1=>?_;obtain⟨i,rfl,q⟩:=q1;obtain⟨t,rfl⟩:=r1;exact⟨Fa i,H1,I1,.int i t,q⟩
def Uh(X:Cx)(r:V->Option Int->Option Int->Hp->VK->Prop):Prop:=
 ∀(XQ:QQY) (s:Sd) (Y:St) (H:Hp) (x:V) (v vl vu:Vl) (lo hi:Option Int) (sl:Uf) (Q:VK),Inv X XQ Y H s->qR x v->s.heap.IsSliceOf sl vl vu .none->IsPart vl lo->IsPart vu hi->r x lo hi H Q->
  ∃T id,typeLookup (.type T) "__getitem__"=pure (Fa (.builtin id))/\s.TypeIs v T/\pi (Tk X.prog X.w) X.A (XXf v (.ref sl)) (EP X XQ Y Q) X.xe s
def XB(r:V->Option Int->Option Int->Hp->VK->Prop)(te:TE)(tl th:TO):TE:=λY H Q=>te Y H λx H1=>tl Y H1 λl H2=>th Y H2 λu H3=>r x l u H3 Q
def LM(hr:Uh X r)(he:PE X e te)(hl:PO X lo tl)(hu:PO X hi th):PE X (.Subscript e (.Slice lo hi Db p2) pos) (XB r te tl th):=by intro XQ s Y H Q I h;refine Subscript_ (sS (he XQ s Y H _ I h) λv s1 zz=>x5 zz λx H1 I1 r1 q1=>?_);refine wpAny_Slice (sS (hl XQ s1 Y H1 _ I1 q1) λvl s2 zz=>x5 zz λl H2 I2 pl q2=>sS (hu XQ s2 Y H2 _ I2 q2) λvu s3 zz=>x5 zz λu H3 I3 pu q3=>?_);rw[evalPart_none];refine df ?_;have I4:Inv X XQ Y H3 {s3 with heap:=s3.heap.push {cls:=.type "slice",data:=.fields #[vl,vu,.none]}}:=I3.kept (t':=s3.toks) λb ob q=>cZ _ q;obtain⟨T,id,hT,ht,hg⟩:=hr XQ {s3 with heap:=s3.heap.push {cls:=.type "slice",data:=.fields #[vl,vu,.none]}} Y H3 x v vl vu l u s3.heap.objs.size Q I4 r1 (mK ..) pl pu q3;show pi (Tk X.prog X.w) X.A (subscriptTail e (.Slice lo hi Db p2) v (.ref s3.heap.objs.size)) (EP X XQ Y Q) X.xe {s3 with heap:=s3.heap.push {cls:=.type "slice",data:=.fields #[vl,vu,.none]}};exact tail_any (ops:=[.ref s3.heap.objs.size,v]) ht hT hg (by with_unfolding_all rfl)
noncomputable def Cn(xs:T0 V)(lo hi:Option Int):T0 V:=(xs.drop (HT.tO xs.length 0 lo)).take (HT.tO xs.length xs.length hi - HT.tO xs.length 0 lo)
def AS(xs:T0 V)(lo hi:Option Int):(Cn xs lo hi).length<=xs.length:=by unfold Cn;rw[fL,gc];omega
def WS(K:qC):V->Option Int->Option Int->Hp->VK->Prop:=λx lo hi H Q=>∃a xs,x=.ref a/\vn K H a xs/\
 ¬(HT.tO xs.length 0 lo=0/\HT.tO xs.length xs.length hi=xs.length)/\∀p,H p=Db->Q (.ref p) (upd H p (.tup (Cn xs lo hi)))
def RH:Uh X (WS X.K):=by
 intro XQ s Y H x v vl vu lo hi sl Q I rx hs pl pu h;obtain⟨a,xs,rfl,hx,hw,q⟩:=h;cases rx;obtain⟨its,r,ht,hz⟩:=I.tuple hx;have XY:its.toArray.size=xs.length:=by rw[dw];exact r.length.symm
 refine⟨"tuple",_,fB.lookup,ht.typeIs,?_⟩;refine HT.zx ht hs pl pu (by rw[XY];exact hw) ?_ (by rw[XY];exact hz);rw[XY];refine⟨.ref s.heap.objs.size,_,I.laid (t':=s.toks) (o:=.tup (Cn xs lo hi)) (λb ob q=>cZ _ q) (dq _) ?_,Z',q _ (I.mW.fresh (dq _))⟩;exact⟨dY (AS xs lo hi) hz,_,(r.drop (HT.tO xs.length 0 lo)).take (HT.tO xs.length xs.length hi - HT.tO xs.length 0 lo),EK.new _ _⟩
def VN(K:qC):R2:=λx y H Q=>∃a b xs ys,x=.ref a/\y=.ref b/\vn K H a xs/\vn K H b ys/\xs≠[]/\xs.length+ys.length<=Ch/\
 (ys=[]->Q (.ref a) H)/\(ys≠[]->∀p,H p=Db->Q (.ref p) (upd H p (.tup (xs++ys))))
def qJ.nU(r:qJ xs us):us=[]↔xs=[]:=by
 cases r with
 | nil=>simp
 | cons _ _=>simp
def Qa:yc X (wP .Add) (VN X.K):=by intro XQ s Y H x y v u Q I rx ry h;obtain⟨a,b,xs,ys,rfl,rfl,ha,hb,hx,hz,q1,q2⟩:=h;cases rx;cases ry;obtain⟨its,r1,p1,_⟩:=I.tuple ha;obtain⟨its2,r2,p2,_⟩:=I.tuple hb;refine HT.Q3 p1 p2 (λz=>hx (r1.nU.mp z)) (λz=>⟨.ref a,H,I,Z',q1 (r2.nU.mp z)⟩) (λz=>?_) (by rw[<-r1.length,<-r2.length];exact hz);refine⟨.ref s.heap.objs.size,_,I.laid (t':=s.toks) (o:=.tup (xs++ys)) (λb ob q=>cZ _ q) (dq _) ?_,Z',q2 (λw=>z (r2.nU.mpr w)) _ (I.mW.fresh (dq _))⟩;exact⟨by rw[cW];exact hz,_,r1.append r2,EK.new _ _⟩
noncomputable def Hj(n:Nat)(i:Int):Option Nat:=if 0<=i then(if i<n then Fa i.toNat else Db)else if -(n:Int)<=i then Fa (i+n).toNat else Db
noncomputable def wQ{α:Type}(xs:List α)(i:Int):Option α:=(Hj xs.length i).bind λj=>xs[j]?
def J'{j:Nat}(h:Hj n i=Fa j):seqIndex? i n=Fa j/\j<n/\-(n:Int)<=i/\i<n:=by
 unfold Hj at h;by_cases h0:0<=i
 .rw[c9 h0]at h;by_cases h1:i<n
  .rw[c9 h1]at h;have e:i.toNat=j:=dh h;exact⟨by rw[lH h0 h1,e],by omega,by omega,h1⟩
  .rw[cY h1]at h;cases h
 .rw[cY h0]at h;by_cases h1:-(n:Int)<=i
  .rw[c9 h1]at h;have e:(i+n).toNat=j:=dh h;exact⟨by rw[kX (by omega) h1,e],by omega,h1,by omega⟩
  .rw[cY h1]at h;cases h
def Fm{α:Type}{xs:List α}{i:Int}{v:α}(h:wQ xs i=Fa v):∃j,seqIndex? i xs.length=Fa j/\xs[j]?=Fa v/\j<xs.length/\-(xs.length:Int)<=i/\i<xs.length:=by
 unfold wQ at h;cases e:Hj xs.length i with
 | none=>rw[e]at h;cases h
 | some j=>rw[e]at h;obtain⟨h1,h2,h3,h4⟩:=J' e;exact⟨j,h1,h,h2,h3,h4⟩
def vq{α:Type}{xs:List α}{j:Nat}{v:α}(h:xs[j]?=Fa v):wQ xs (j:Int)=Fa v:=by
 have hj:j<xs.length:=(cX.mp h).1;have e:Hj xs.length (j:Int)=Fa j:=by unfold Hj;rw[c9 (by omega),c9 (by omega)];simp
 unfold wQ;rw[e];exact h
def BG(b:Go):Prop:=∀o i,subscripted b lf o i=operate [o,i] (XXf o i)
def Ub(X:Cx)(r:R2):Prop:=
 ∀(value X3:Go) (XQ:QQY) (s:Sd) (Y:St) (H:Hp) (x y:V) (v u:Vl) (Q:VK),Inv X XQ Y H s->qR x v->qR y u->r x y H Q->
  subscripted X3 lf v u=operate [v,u] (XXf v u)->pi (Tk X.prog X.w) X.A (subscriptTail value X3 v u) (EP X XQ Y Q) X.xe s
def Xq(X:Cx)(id:String)(r:V->T0 V->Hp->VK->Prop):Prop:=
 ∀(XQ:QQY) (s:Sd) (Y:St) (H:Hp) (x:V) (xs:T0 V) (v:Vl) (us:T0 Vl) (Q:VK),Inv X XQ Y H s->qR x v->qJ xs us->r x xs H Q->
  pi (Tk X.prog X.w) X.A (call (.builtin id) (v::us)) (EP X XQ Y Q) X.xe s
variable {o:Go}{es:T0 Go}{to:TE}{t:TA}{name:Str}{XU XZ:Pos}{T id:String}{r:V→T0 V→Hp→VK→Prop}{a:Go}{ta tb:TE}
section
variable {b:Go}
def Mr{r:R2}(hr:Ub X r)(ha:PE X a ta)(hb:PE X b tb)(hs:BG b):PE X (.Subscript a b pos) (Vk r ta tb):=by intro XQ s Y H Q I h;exact Subscript_ (TK ha hb I h λv u s2 x y H2 I2 rx ry q=>hr a b XQ s2 Y H2 x y v u Q I2 rx ry q (hs _ _))
def WN(K:qC):R2:=λx y H Q=>∃p xs i v,x=.ref p/\y=.int i/\zo K H p xs/\wQ xs i=Fa v/\Q v H
def WC(K:qC):R2:=λx y H Q=>∃p xs i v,x=.ref p/\y=.int i/\vn K H p xs/\wQ xs i=Fa v/\Q v H
def Xd:R2:=λx y H Q=>∃z i c,x=.str z/\y=.int i/\z.length<=Ch/\wQ z.cps.toList i=Fa c/\Q (.str ⟨#[c]⟩) H
def JD:Ub X (WN X.K):=by
 intro value X3 XQ s Y H x y v u Q I rx ry h hs;obtain⟨p,xs,i,z,rfl,rfl,hq,he,q⟩:=h;cases rx;obtain⟨t,rfl⟩:=ry;obtain⟨its,r,pl,hz⟩:=I.list hq;obtain⟨j,h1,h2,h3,h4,h5⟩:=Fm he;obtain⟨w,ew,Z1⟩:=r.get h2;have hl:=r.length;have hn:=yU;have XW:EP X XQ Y Q w s:=⟨z,H,I,Z1,q⟩;by_cases h0:0<=i
 .have hj:i.toNat=j:=by rw[lH h0 h5]at h1;exact dh h1
  exact item_listR pl.isList h0 (by omega) (by rw[hj];simpa using ew) XW hs
 .have hj:(i+(its.toArray.size:Int)).toNat=j:=by rw[kX (by omega) h4]at h1;rw[dw,<-hl];exact dh h1
  exact j5 (x:=w) pl.isList.typeIs ly.lookup
   (wpAny_getItem_list_neg (Q:=λr s'=>r=w/\EP X XQ Y Q r s') pl.isList (by omega) (by rw[dw]<;>omega) (by omega) (by rw[hj];simpa using ew) ⟨Z',XW⟩) hs
def S7:Ub X (WC X.K):=by
 intro value X3 XQ s Y H x y v u Q I rx ry h hs;obtain⟨p,xs,i,z,rfl,rfl,hq,he,q⟩:=h;cases rx;obtain⟨t,rfl⟩:=ry;obtain⟨its,r,pl,hz⟩:=I.tuple hq;obtain⟨j,h1,h2,h3,h4,h5⟩:=Fm he;obtain⟨w,ew,Z1⟩:=r.get h2;have hl:=r.length;have hn:=yU;have XW:EP X XQ Y Q w s:=⟨z,H,I,Z1,q⟩;exact j5 (x:=w) pl.typeIs slot_tuple_getitem.lookup
  (getItem_tuple (j:=j) (Q:=λr s'=>r=w/\EP X XQ Y Q r s') pl (by omega) (by omega) (by rw[dw,<-hl];exact h1) (by simpa using ew) ⟨Z',XW⟩) hs
def Te:Ub X Xd:=by
 intro value X3 XQ s Y H x y v u Q I rx ry h hs;obtain⟨z,i,c,rfl,rfl,hz,he,q⟩:=h;obtain⟨t,rfl⟩:=rx;obtain⟨t',rfl⟩:=ry;obtain⟨j,h1,h2,h3,h4,h5⟩:=Fm he;have hl:z.cps.toList.length=z.length:=by simp[Str.length]
 rw[hl]at h1 h4 h5;have hn:=yU;exact tail_any (typeIs_str s z t) slot_str_getitem.lookup (getItem_str (c:=c) (by
  have e1:decide (i< -(2 ^ 63:Int))=lf:=eP (by omega);have e2:decide (i>=2 ^ 63)=lf:=eP (by omega);rw[e1,e2,kB]) (by rw[h1];simpa using h2) ⟨.str ⟨#[c]⟩,H,I.tok _,⟨_,Z'⟩,q⟩) hs
def HZ(its:T0 Vl)(n j:Nat)(u:Vl):Obj.mapSeq (·.setIfInBounds j u) {cls:=.type "list",data:=.seq its.toArray n}={cls:=.type "list",data:=.seq (its.set j u).toArray n}:=by simp[Obj.mapSeq]
def Inv.lst{p:Uf}{xs:T0 V}(I:Inv X XQ Y H s)(h:H p=Fa (.lst xs)):
  ∃(its:T0 Vl) (n:Nat),qJ xs its/\s.heap.get? p=Fa {cls:=.type "list",data:=.seq its.toArray n}/\xs.length<=Ch:=by
 obtain⟨z,its,n,r,e⟩:=I.mW p _ h;exact⟨its,n,r,e,z⟩
def Inv.oQ{p:Uf}{xs ys:T0 V}{its its':T0 Vl}{n n':Nat}{f:Obj->Obj}(I:Inv X XQ Y H s)(h:H p=Fa (.lst xs)) (ho:s.heap.get? p=Fa {cls:=.type "list",data:=.seq its.toArray n}) (hf:f {cls:=.type "list",data:=.seq its.toArray n}={cls:=.type "list",data:=.seq its'.toArray n'}) (r:qJ ys its') (hz:ys.length<=Ch) (t:Nat):
  Inv X XQ Y (upd H p (.lst ys)) {s with heap:=s.heap.update p f,toks:=t}:=by
 have e:(s.heap.update p f).get? p=Fa {cls:=.type "list",data:=.seq its'.toArray n'}:=by rw[fH f ho (by rw[hf]<;>rfl),hf]
 refine I.write (x:=p) (e:=p) (by rw[h];trivial) (.inl Z') (λb u hb q=>(fY _ _ (dO hb)).trans q) ⟨_,e⟩ ?_;exact⟨hz,its',n',r,e⟩
def UX:V->V->V->Hp->(Hp->Prop)->Prop:=λo i v H Q=>∃p xs k j,o=.ref p/\i=.int k/\H p=Fa (.lst xs)/\Hj xs.length k=Fa j/\Q (upd H p (.lst (xs.set j v)))
def L7:VC X UX:=by
 intro XQ s Y H o i v ov iv u Q I ro ri rv h;obtain⟨p,xs,k,j,rfl,rfl,hp,hj,q⟩:=h;cases ro;obtain⟨t,rfl⟩:=ri;obtain⟨its,n,r,ho,hz⟩:=I.lst hp;obtain⟨h1,h2,h3,h4⟩:=J' hj;have hl:=r.length;have hn:=yU;have I':Inv X XQ Y (upd H p (.lst (xs.set j v))) {s with heap:=s.heap.update p (Obj.mapSeq (·.setIfInBounds j u))}:=
  I.oQ hp ho (HZ its n j u) (r.set rv j) (by rw[ig];exact hz) s.toks
 by_cases h0:0<=k
 .have hk:k.toNat=j:=by rw[lH h0 h4]at h1;exact dh h1
  exact W.ki_setAt ho h0 (by omega) (by rw[dw,<-hl];exact h4) (by rw[hk];exact⟨_,I',q⟩)
 .have hk:(k+(its.toArray.size:Int)).toNat=j:=by rw[kX (by omega) h3]at h1;rw[dw,<-hl];exact dh h1
  exact W.ki_setBack ho (by omega) (by rw[dw,<-hl];exact h3) (by omega) (by rw[hk];exact⟨_,I',q⟩)
def FW(lo hi:Option Int)(n:Nat):(XXg lo hi Db n).1=((HT.tO n 0 lo:Nat):Int)/\(XXg lo hi Db n).2.1=((HT.tO n n hi:Nat):Int)/\(XXg lo hi Db n).2.2=1:=by
 refine⟨?_,?_,Z'⟩
 .cases lo with
  | none=>simp[XXg,HT.tO]
  | some i=>
   simp only[XXg,HT.tO,lT,show(1:Int)>0 by decide,jg];by_cases h:i<0
   .simp only[h,jg]<;>omega
   .simp only[h,jf]<;>omega
 .cases hi with
  | none=>simp[XXg,HT.tO]
  | some i=>
   simp only[XXg,HT.tO,lT,show(1:Int)>0 by decide,jg];by_cases h:i<0
   .simp only[h,jg]<;>omega
   .simp only[h,jf]<;>omega
def DO(its:T0 Vl)(lo hi:Option Int):slicePick its.toArray lo hi Db=((its.drop (HT.tO its.length 0 lo)).take (HT.tO its.length its.length hi - HT.tO its.length 0 lo)).toArray:=by obtain⟨h1,h2,h3⟩:=FW lo hi its.toArray.size;unfold slicePick;rw[h1,h2,h3];simp only[sliceRange_one,pick_run,dw]<;>rfl
def Wc(K:qC):V->Option Int->Option Int->Hp->VK->Prop:=λx lo hi H Q=>∃a xs,x=.ref a/\zo K H a xs/\∀p,H p=Db->Q (.ref p) (upd H p (.lst (Cn xs lo hi)))
def J0:Uh X (Wc X.K):=by intro XQ s Y H x v vl vu lo hi sl Q I rx hs pl pu h;obtain⟨a,xs,rfl,hx,q⟩:=h;cases rx;obtain⟨its,r,ht,hz⟩:=I.list hx;have XY:=r.length;refine⟨"list",_,ly.lookup,ht.isList.typeIs,?_⟩;refine wpAny_getItem_list_slice ht.isList hs pl pu .none (by simp) ?_ (by rw[dw]<;>omega);rw[DO,<-XY];refine⟨.ref s.heap.objs.size,_,I.laid (t':=s.toks) (o:=.lst (Cn xs lo hi)) (λb ob q=>cZ _ q) (dq _) ?_,Z',q _ (I.mW.fresh (dq _))⟩;exact⟨dY (AS xs lo hi) hz,_,0,(r.drop (HT.tO xs.length 0 lo)).take (HT.tO xs.length xs.length hi - HT.tO xs.length 0 lo),dF _ Z'⟩
noncomputable def yL:V->Bool
 | .mS=>pc
 | .bl _=>pc
 | .int _=>pc
 | .str _=>pc
 | _=>lf
noncomputable def OD:V->V->Bool
 | .mS,.mS=>pc
 | .bl a,.bl b=>a==b
 | .bl a,.int b=>(if a then 1 else 0)==b
 | .int a,.bl b=>a==(if b then 1 else 0)
 | .int a,.int b=>a==b
 | .str a,.str b=>a==b
 | _,_=>lf
def RU(ry:qR y u)(rx:qR x v)(fy:yL y=pc)(fx:yL x=pc):SeqAt.EqAt A s u v (OD y x):=by
 cases y with
 | mS=>
  cases ry;cases x with
  | mS=>cases rx;exact SeqAt.EqAt.same _
  | bl b=>cases rx;exact SeqAt.EqAt.none_bool b
  | int b=>obtain⟨t,rfl⟩:=rx;exact SeqAt.EqAt.none_int b t
  | str b=>obtain⟨t,rfl⟩:=rx;exact SeqAt.EqAt.none_str b t
  | _=>exact absurd (show lf=pc from fx) dz
 | bl a=>
  cases ry;cases x with
  | mS=>cases rx;exact SeqAt.EqAt.bool_none a
  | bl b=>cases rx;exact SeqAt.EqAt.bool_bool a b
  | int b=>obtain⟨t,rfl⟩:=rx;exact SeqAt.EqAt.bool_int a b t
  | str b=>obtain⟨t,rfl⟩:=rx;exact SeqAt.EqAt.bool_str a b t
  | _=>exact absurd (show lf=pc from fx) dz
 | int a=>
  obtain⟨t',rfl⟩:=ry;cases x with
  | mS=>cases rx;exact SeqAt.EqAt.int_none a t'
  | bl b=>cases rx;exact SeqAt.EqAt.int_bool a t' b
  | int b=>obtain⟨t,rfl⟩:=rx;exact SeqAt.EqAt.int_int a t' b t
  | str b=>obtain⟨t,rfl⟩:=rx;exact kO a t' b t
  | _=>exact absurd (show lf=pc from fx) dz
 | str a=>
  obtain⟨t',rfl⟩:=ry;cases x with
  | mS=>cases rx;exact SeqAt.EqAt.str_none a t'
  | bl b=>cases rx;exact SeqAt.EqAt.str_bool a t' b
  | int b=>obtain⟨t,rfl⟩:=rx;exact kP a t' b t
  | str b=>obtain⟨t,rfl⟩:=rx;exact SeqAt.EqAt.str_str a t' b t
  | _=>exact absurd (show lf=pc from fx) dz
 | _=>exact absurd (show lf=pc from fy) dz
noncomputable def EA(x:V)(u:Vl):Bool:=match u with
 | .none=>OD .mS x
 | .bool b=>OD (.bl b) x
 | .int i _=>OD (.int i) x
 | .str z _=>OD (.str z) x
 | _=>lf
def HL(r:qR y u)(f:yL y=pc):EA x u=OD y x:=by
 cases y with
 | mS=>cases r;rfl
 | bl b=>cases r;rfl
 | int i=>obtain⟨t,rfl⟩:=r;rfl
 | str z=>obtain⟨t,rfl⟩:=r;rfl
 | _=>exact absurd (show lf=pc from f) dz
theorem zP:∀{xs:T0 V} {us:T0 Vl},qJ xs us->xs.all yL=pc->us.any (EA x)=xs.any λy=>OD y x
 | _,_,.nil,_=>rfl
 | y::xs,u::us,.cons r t,f=>by rw[eX,dS]at f;rw[fZ,fZ,HL r f.1,zP t f.2]
theorem wM(rx:qR x v)(fx:yL x=pc):∀{xs:T0 V} {us:T0 Vl},qJ xs us->xs.all yL=pc->∀u∈us,SeqAt.EqAt A s u v (EA x u)
 | _,_,.nil,_=>λu hu=>by cases hu
 | y::xs,u::us,.cons r t,f=>λu' hu=>by
  rw[eX,dS]at f;rcases de.mp hu with rfl|hu
  .rw[HL r f.1];exact RU r rx f.1 fx
  .exact wM rx fx t f.2 u' hu
noncomputable def inV(x:V)(xs:T0 V):Bool:=xs.any λy=>OD y x
def Wn(K:qC)(Zn:Bool):R2:=λx y H Q=>∃p xs,y=.ref p/\(zo K H p xs\/vn K H p xs)/\yL x=pc/\xs.all yL=pc/\Q (.bl (if Zn then !inV x xs else inV x xs)) H
def KO:yc X (Op .In) (Wn X.K lf):=by
 intro XQ s Y H x y v u Q I rx ry h;obtain⟨p,xs,rfl,hq,fx,fs,q⟩:=h;cases ry;rcases hq with hq|hq
 .obtain⟨its,r,pl,hz⟩:=I.list hq;refine SeqAt.in_listAt (EA x) pl.isList (λw hw=>wM rx fx r fs w (by simpa using hw)) ⟨.bl _,H,I,Z',?_⟩;rw[show its.toArray.any (EA x)=its.any (EA x)by simp,zP r fs];exact q
 .obtain⟨its,r,pl,hz⟩:=I.tuple hq;refine SeqAt.in_tupleAt (EA x) pl (λw hw=>wM rx fx r fs w (by simpa using hw)) ⟨.bl _,H,I,Z',?_⟩;rw[show its.toArray.any (EA x)=its.any (EA x)by simp,zP r fs];exact q
def F6:yc X (Op .NotIn) (Wn X.K pc):=by
 intro XQ s Y H x y v u Q I rx ry h;obtain⟨p,xs,rfl,hq,fx,fs,q⟩:=h;cases ry;rcases hq with hq|hq
 .obtain⟨its,r,pl,hz⟩:=I.list hq;refine SeqAt.notIn_listAt (EA x) pl.isList (λw hw=>wM rx fx r fs w (by simpa using hw)) ⟨.bl _,H,I,Z',?_⟩;rw[show its.toArray.any (EA x)=its.any (EA x)by simp,zP r fs];exact q
 .obtain⟨its,r,pl,hz⟩:=I.tuple hq;refine SeqAt.notIn_tupleAt (EA x) pl (λw hw=>wM rx fx r fs w (by simpa using hw)) ⟨.bl _,H,I,Z',?_⟩;rw[show its.toArray.any (EA x)=its.any (EA x)by simp,zP r fs];exact q
def Fp:yc X (Op .NotIn) (λx y H Q=>∃i j,x=.str i/\y=.str j/\Q (.bl (!(!(Builtin.Str.occurrences j i 0 j.length 1).isEmpty))) H):=by intro XQ s Y H x y v u Q I rx ry h;obtain⟨i,j,rfl,rfl,q⟩:=h;obtain⟨t,rfl⟩:=rx;obtain⟨t',rfl⟩:=ry;exact notIn_str ⟨.bl _,H,I,Z',q⟩
def xc:Ab X (.builtin "len") (λxs H Q=>∃p ys,xs=[.ref p]/\(zo X.K H p ys\/vn X.K H p ys)/\Q (.int ys.length) H):=by
 intro XQ s Y H xs us Q I r h;obtain⟨p,ys,rfl,hq,q⟩:=h;obtain⟨u,rfl,rx⟩:=yK r;cases rx;have hn:=yU;rcases hq with hq|hq
 .obtain⟨its,r',pl,hz⟩:=I.list hq;have XY:=r'.length;exact Calls.call_len_list pl.isList (by simp only[dw]<;>omega) ⟨.int ys.length,H,I.tok _,⟨s.toks+1,by rw[dw,XY]⟩,q⟩
 .obtain⟨its,r',pl,hz⟩:=I.tuple hq;have XY:=r'.length;exact len_tuple pl (by simp only[dw]<;>omega) ⟨.int ys.length,H,I.tok _,⟨s.toks+1,by rw[dw,XY]⟩,q⟩
def ET:Ab X (.builtin "len") (λxs H Q=>∃z,xs=[.str z]/\z.length<=Ch/\Q (.int z.length) H):=by intro XQ s Y H xs us Q I r h;obtain⟨z,rfl,hz,q⟩:=h;obtain⟨u,rfl,t,rfl⟩:=yK r;have hn:=yU;exact len_str (by omega) ⟨.int z.length,H,I.tok _,⟨_,Z'⟩,q⟩
def FL:Ab X (.type "list") (λxs H Q=>∃p ys,xs=[.ref p]/\(zo X.K H p ys\/vn X.K H p ys)/\∀l,H l=Db->Q (.ref l) (upd H l (.lst ys))):=by
 intro XQ s Y H xs us Q I r h;obtain⟨p,ys,rfl,hq,q⟩:=h;obtain⟨u,rfl,rx⟩:=yK r;cases rx;have XW:∀(its:T0 Vl),qJ ys its->ys.length<=Ch->∀(h':No) (c':Nat),(∀b o',s.heap.get? b=Fa o'->h'.get? b=Fa o')->
   h'.get? s.heap.objs.size=Fa {cls:=.type "list",dict:=none,data:=.seq its.toArray c',slots:=#[]}->EP X XQ Y Q (.ref s.heap.objs.size) {s with heap:=h'}:=λits r' hz h' c' kp e=>
  ⟨.ref s.heap.objs.size,_,I.laid (t':=s.toks) kp (dq _) (show su X.prog X.w _ h' _ (.lst ys)from⟨hz,its,c',r',e⟩),Z',q _ (I.mW.fresh (dq _))⟩
 rcases hq with hq|hq
 .obtain⟨its,r',pl,hz⟩:=I.list hq;have XY:=r'.length;obtain⟨o,ho,hc,n,hd⟩:=pl.isList;exact call_list_seq p (.inl Z') ho hc hd (λh' c' kp e=>XW its r' hz h' c' kp e) (by simp only[dw]<;>omega)
 .obtain⟨its,r',pl,hz⟩:=I.tuple hq;have XY:=r'.length;obtain⟨o,ho,hc,n,hd⟩:=pl;exact call_list_seq p (.inr Z') ho hc hd (λh' c' kp e=>XW its r' hz h' c' kp e) (by simp only[dw]<;>omega)
def wk:Ab X (.type "tuple") (λxs H Q=>∃p ys,xs=[.ref p]/\((zo X.K H p ys/\∀l,H l=Db->Q (.ref l) (upd H l (.tup ys)))\/(vn X.K H p ys/\Q (.ref p) H))):=by
 intro XQ s Y H xs us Q I r h;obtain⟨p,ys,rfl,h⟩:=h;obtain⟨u,rfl,rx⟩:=yK r;cases rx;rcases h with⟨hq,q⟩|⟨hq,q⟩
 .obtain⟨its,r',pl,hz⟩:=I.list hq;have XY:=r'.length;refine call_tuple_list pl.isList (λh' kp=>?_) (by simp only[dw]<;>omega);have I1:Inv X XQ Y H {s with heap:=h'}:=I.kept (t':=s.toks) kp;have I2:Inv X XQ Y (upd H h'.objs.size (.tup ys)) {s with heap:=h'.push {cls:=.type "tuple",data:=.seq its.toArray}}:=
   I1.laid (t':=s.toks) (λb o e=>cZ _ e) (dq _) (show su X.prog X.w _ _ _ (.tup ys)from⟨hz,its,r',EK.new _ _⟩)
  exact⟨.ref h'.objs.size,_,I2,Z',q _ (I1.mW.fresh (dq _))⟩
 .obtain⟨its,r',pl,hz⟩:=I.tuple hq;exact call_tuple_same pl ⟨.ref p,H,I,Z',q⟩
def Wq(K:qC)(T:String)(x:V)(H:Hp):Prop:=match x with
 | .str _=>T="str"
 | .int _=>T="int"
 | .ref p=>(T="list"/\∃xs,zo K H p xs)\/(T="tuple"/\∃o,K.lookup p=Fa o/\o.cls=.type "tuple"/\o.dict=Db)\/
   (T="dict"/\((∃kvs,H p=Fa (.dK kvs))\/∃kvs,H p=Fa (.dT kvs)))\/(T="set"/\∃S n,H p=Fa (.set S n))
 | _=>False
def Nc(I:Inv X XQ Y H s)(r:qR x v)(ty:Wq X.K T x H):
  s.TypeIs v T/\∀a,v=.ref a->∃ob,s.heap.get? a=Fa ob/\ob.dict=Db:=by
 cases x with
 | str z=>obtain⟨t,rfl⟩:=r;cases(show T="str" from ty);exact⟨typeIs_str s z t,λ_ e=>nomatch e⟩
 | int i=>obtain⟨t,rfl⟩:=r;cases(show T="int" from ty);exact⟨me s i t,λ_ e=>nomatch e⟩
 | ref p=>
  cases r;rcases ty with⟨rfl,xs,hq⟩|⟨rfl,o,hk,hc,hd⟩|⟨rfl,hk⟩|⟨rfl,S,n,hk⟩
  .obtain⟨its,_,pl,_⟩:=I.list hq;refine⟨pl.isList.typeIs,λa e=>?_⟩;cases e;obtain⟨o,n,e,c,hd,_⟩:=pl;exact⟨o,e,hd⟩
  .refine⟨⟨o,I.nk p o hk,hc⟩,λa e=>?_⟩;cases e;exact⟨o,I.nk _ o hk,hd⟩
  .have z:∃o,s.heap.get? p=Fa o/\o.ExactDict:=by
    rcases hk with⟨kvs,hk⟩|⟨kvs,hk⟩
    .obtain⟨_,_,_,_,o,_,_,e,ex,_⟩:=I.mW p _ hk;exact⟨o,e,ex⟩
    .obtain⟨_,_,_,_,o,_,_,e,ex,_⟩:=I.mW p _ hk;exact⟨o,e,ex⟩
   obtain⟨o,e,ex⟩:=z;refine⟨⟨o,e,ex.1⟩,λa e2=>?_⟩;cases e2;exact⟨o,e,ex.2.1⟩
  .obtain⟨o,_,_,_,e,ex,_⟩:=I.mW p _ hk;refine⟨⟨o,e,ex.1⟩,λa e2=>?_⟩;cases e2;exact⟨o,e,ex.2.1⟩
 | _=>exact False.elim ty
def XA(K:qC)(T:String)(r:V->T0 V->Hp->VK->Prop)(to:TE)(t:TA):TE:=λY H Q=>to Y H λx H1=>Wq K T x H1/\t Y H1 λxs H2=>r x xs H2 Q
def Vh(pa:PlainAttrs T)(slot:Slot T name id)(hty:typeOf (.builtin id)=pure (.type "method_descriptor"))(hm:Xq X id r)(ho:PE X o to)(ha:PA X (e::es) t) (X5:Ps o name X.env (wp o X.env)=wp o X.env:=by rfl)
  (Y3:((xz XZ (Tl (e::es) X.env)).all (λx=>!x.1)&&(xL XZ (Rs [] X.env)).all (λx=>x.1.isSome)
   &&decide ((e::es).length+([]:T0 XXe).length+(if ([]:T0 XXe).isEmpty then 0 else 1)<30))=pc:=by rfl)
  (Yh:(XU.endLine==XZ.line)=pc:=by rfl) (hs:Bw X e es:=by rfl) (Yb:Dc X XZ es:=by rfl):
  PE X (.Call (.Attribute o name XU) (e::es) [] XZ) (XA X.K T r to t):=by
 intro XQ s Y H Q I h;refine wpAny_Call_method_late X5 Y3 Yh Z' (sS (ho XQ s Y H _ I h) λv s1 zz=>?_);obtain⟨x,H1,I1,r1,ty,q1⟩:=zz;obtain⟨h1,h2⟩:=Nc I1 r1 ty;refine⟨T,id,pa,slot,hty,h1,h2,?_⟩;have hA:=ha XZ XQ s1 Y H1 _ I1 q1;rw[hs]at hA ⊢;refine j6 (by show(lf||(xz XZ (Tl es X.env)).any (·.1))=lf;rw[Yb]<;>rfl) (Calls.evalArgs_plain ?_);exact sS hA λus s2 zz=>x5 zz λvs H2 I2 r2 q2=>hm XQ s2 Y H2 x vs v us Q I2 r1 r2 q2
end
def XD(X:Cx)(id:String)(r:V->T0 V->Hp->VK->Prop):Prop:=
 ∀(XQ:QQY) (s:Sd) (Y:St) (H:Hp) (x:V) (xs:T0 V) (v:Vl) (us:T0 Vl) (Q:VK),Inv X XQ Y H s->qR x v->qJ xs us->r x xs H Q->
  pi (Tk X.prog X.w) X.A (call (.builtin id) (v::us)) (EP X XQ Y Q) X.xe s
def qJ.one:∀{x:V} {us:T0 Vl},qJ [x] us->∃u,us=[u]/\qR x u
 | _,_,.cons r .nil=>⟨_,Z',r⟩
theorem qJ.rep(h:qJ xs us):∀k:Nat,qJ (List.replicate k xs).flatten (List.replicate k us).flatten
 | 0=>.nil
 | k+1=>by rw[eG,eG,fO,fO];exact qJ.append h (qJ.rep h k)
theorem Ef(its:T0 Vl):∀(k:Nat) (acc:T0 Vl),List.foldl (λx1 x2=>x1++x2) acc.toArray (List.replicate k its.toArray)=(acc++(List.replicate k its).flatten).toArray
 | 0,acc=>by simp
 | k+1,acc=>by
  have e:acc.toArray++its.toArray=(acc++its).toArray:=by simp
  have e2:(acc++its)++(List.replicate k its).flatten=acc++(List.replicate (k+1) its).flatten:=by rw[eG,fO,e9]
  rw[<-e2,<-Ef its k (acc++its),<-e,eG,fV]
variable {XQ:T0 (Uf × Obj)}{Y:St}{H:Hp}{s:Sd}{l:Uf}{xs ys zs:T0 V}
section
variable {b:Uf}
def Inv.lset{its its':T0 Vl}{n:Nat}{f:Array Vl->Array Vl}{t':Nat}(I:Inv X XQ Y H s)(hH:H l=Fa (.lst xs)) (e:s.heap.get? l=Fa {cls:=.type "list",data:=.seq its.toArray n}) (hf:f its.toArray=its'.toArray) (hv:qJ ys its') (hz:ys.length<=Ch):
  Inv X XQ Y (upd H l (.lst ys)) {s with heap:=s.heap.update l (Obj.mapSeq f),toks:=t'}:=by
 have q:=PySem.IsL.update e f;rw[hf]at q;refine I.write (x:=l) (e:=l) (by rw[hH];exact trivial) (.inl Z') (λb' u hb hu=>(fY s.heap (Obj.mapSeq f) (dO hb)).trans hu) ⟨_,q⟩ ?_;exact⟨hz,its',_,hv,q⟩
def Inv.pj{t':Nat}(I:Inv X XQ Y H s)(hv:qJ ys its)(hz:ys.length<=Ch):
  Inv X XQ Y (upd H s.heap.objs.size (.lst ys)) {s with heap:=s.heap.push {cls:=.type "list",data:=.seq its.toArray},toks:=t'}:=
 I.laid (λ_ _ q=>cZ _ q) (dq _) ⟨hz,its,0,hv,dF _ Z'⟩
def Inv.fresh(I:Inv X XQ Y H s):H s.heap.objs.size=Db:=I.mW.fresh (dq _)
def Inv.pA(I:Inv X XQ Y H s)(hH:H l=Fa (.lst xs)):xs.length<=Ch/\∃(its:T0 Vl) (n:Nat),qJ xs its/\xs.length=its.length/\s.heap.get? l=Fa {cls:=.type "list",data:=.seq its.toArray n}:=by obtain⟨z,its,n,r,e⟩:=I.mW l _ hH;exact⟨z,its,n,r,r.length,e⟩
def NG{n:Nat}(h:n<=Ch):Builtin.List.listTooLong n=lf:=by unfold Builtin.List.listTooLong;exact eP (by omega)
end
def PP:V->T0 V->Hp->VK->Prop:=λx vs H Q=>∃l xs y,x=.ref l/\vs=[y]/\H l=Fa (.lst xs)/\xs.length<Ch/\Q .mS (upd H l (.lst (xs++[y])))
def K4:XD X "list.append" PP:=by intro XQ s Y H x vs v us Q I rx rv h;obtain⟨l,xs,y,rfl,rfl,hH,hz,q⟩:=h;cases rx;obtain⟨u,rfl,ru⟩:=rv.one;obtain⟨z,its,n,r,hl,e⟩:=I.pA hH;refine jx F.slot_list_append ⟨_,e,Z'⟩ F.entry_list_append (F.args_list_append_2 _ _) (PySem.list_append l its.toArray n u (by rw[dw];omega)) ⟨e,?_⟩;refine⟨.mS,_,I.lset (its':=its++[u]) hH e (by simp) (r.append (.cons ru .nil)) ?_,Z',q⟩;rw[cW,dP];omega
def Wu:R2:=λx y H Q=>∃l k xs,x=.ref l/\y=.int k/\H l=Fa (.lst xs)/\-(2 ^ 63)<=k/\k<2 ^ 63/\xs.length*k.toNat<=Ch/\
 ∀p,H p=Db->Q (.ref p) (upd H p (.lst (List.replicate k.toNat xs).flatten))
def OR{α:Type}(xs:List α)(k:Nat):(List.replicate k xs).flatten.length=k*xs.length:=by
 induction k with
 | zero=>simp
 | succ k ih=>rw[eG,fO,cW,ih,mC,Nat.add_comm]
def RN:yc X (wP .Mult) Wu:=by
 intro XQ s Y H x y v u Q I rx ry h;obtain⟨l,k,xs,rfl,rfl,hH,h1,h2,hz,q⟩:=h;cases rx;obtain⟨t,rfl⟩:=ry;obtain⟨z,its,n,r,hl,e⟩:=I.pA hH;have XY:its.toArray.size*k.toNat<=Ch:=by rw[dw,<-hl];exact hz
 have hcap:¬its.toArray.size*k.toNat>(2 ^ 63 - 1) / 8:=by
  have:(Ch:Nat)<=(2 ^ 63 - 1) / 8:=by decide
  omega
 have Yr:¬(!Builtin.List.listFitsIndex k)=pc:=by rw[fitsIndex_both h1 h2];exact dz
 have hlong:¬Builtin.List.listTooLong (its.toArray.size*k.toNat)=pc:=by rw[NG XY];exact dz
 have Zw:List.foldl (λx1 x2=>x1++x2) #[] (List.replicate (if its.toArray.isEmpty=pc then 0 else k.toNat) its.toArray)=(List.replicate k.toNat its).flatten.toArray:=by
  have f0:∀m:Nat,List.foldl (λx1 x2=>x1++x2) #[] (List.replicate m its.toArray)=(List.replicate m its).flatten.toArray:=λm=>by have:=Ef its m [];rw[dX]at this;exact this
  rw[f0];cases its with
  | nil=>simp
  | cons a r'=>rw[cY (by simp)]
 refine wpAny_binaryOp_repeat_ref (T:="list") (U:="int") (by decide) ⟨_,e,Z'⟩ (λs'=>me s' k t) noFill_list_mul F.fills_int_mul mf repeat_list F.slot_int_index.lookup
  (jx mf (me s k t) F.entry_int_rmul (F.args_int_rmul_2 _ _) (int___rmul___int_list k t l its.toArray n)
   ⟨e,Z',⟨_,e,Z'⟩,jx F.slot_list_mul ⟨_,e,Z'⟩ F.entry_list_mul (F.args_list_mul_2 _ _) (AutoListH.list___mul___list_int_3 l its.toArray n k t Yr hcap hlong) ⟨e,?_⟩⟩)
 rw[Zw];exact⟨.ref _,_,I.pj (t':=s.toks) (r.rep k.toNat) (by rw[OR,Nat.mul_comm];exact hz),Z',q _ I.fresh⟩
variable {prog:Pg}{w:Wo}{A:Ar}{E:QQX}
end L2
namespace Att
open PySem PySem.W PySem.Calls PyProof.Rows
def A7:∀(ns:T0 Int) (vs:T0 Vl),WellAll P h vs (ns.map WData.int)->IntsAre vs ns:=by
 intro ns;induction ns with
 | nil=>intro vs w;rw[iP]at w;cases w;exact .nil
 | cons n ns ih=>
  intro vs w;rw[dU]at w;cases w with
  | cons a b=>cases a;exact .cons _ _ (ih _ b)
def KG{l:OpenLaw}{n:Nat}(hn:l.most=Fa n){P:Params}{h:No}{args:T0 WData}{vals:T0 Vl} (Z2:l.row.toRowW.claim.pre args=pc) (hwl:WellAll P h vals args):
  ∃a vs ns,vals=[Value.ref a]/\args=[WData.list (ns.map WData.int)]/\h.get? a=Fa {cls:=.type "list",data:=.seq vs.toArray}/\IntsAre vs ns/\ns.length<=n:=by
 have hsh:WShape.hasAll [] args [.list .int]=pc:=(pre_splitW Z2).1;have hc:l.pre.holds [] {args:=args}=pc:=(pre_splitW Z2).2;obtain⟨d,r,rfl,h1,h2⟩:=hasAllW_cons hsh;obtain rfl:=hasAllW_nil h2;obtain⟨xs,rfl,h3⟩:=hasW_list h1;obtain⟨ns,rfl⟩:=items_int h3;have XY:ns.length<=n:=by
  unfold OpenLaw.pre at hc;have h4:(WTm.not (.lt (.lit (.int (n:Int))) (.len (.arg 0)))).holds [] {args:=[.list (ns.map .int)]}=pc:=by have h4:=(holds_andW hc).1;rw[hn]at h4;exact h4
  have h5:=condW_of h4 (w_not (w_lt w_lit (w_len_list (w_arg Z'))));rw[cT]at h5;refine jJ λq=>?_;have q':(n:Int)<((ns.length:Nat):Int):=by omega
  first
   | (rw[dW q']at h5;exact absurd h5 (by decide))
   | (simp at h5;omega)
 cases hwl with
 | cons w1 w2=>
  cases w2;cases w1 with
  | list ho Yx=>exact⟨_,_,ns,Z',Z',ho,A7 ns _ Yx,XY⟩
def K2(l:OpenLaw)(args:T0 WData):l.row.toRowW.claim.post args (.bool pc) args=pc:=
 postW_of (r:=l.row.toRowW) (X:=(pc==pc))
  (show WShape.has [] (.bool pc) .bool=pc by first|rfl|decide|simp[WShape.has,WShape.arms,WShape.armsAll])
  (show(WTm.eq .res (.lit (.bool pc))).value [] {args:=args,res:=some (.bool pc),after:=args}=Fa (.bool (pc==pc))from w_eq_bool (w_res Z') w_lit) Z'
def attach_call{l:OpenLaw}{n:Nat}{YP:Wo->No->Prop}{d:DefRec} (hn:l.most=Fa n) (hdf:d.params.defaults=[]) (call:∀(w:Wo) (s₀ s₁:Sd) (mg mb:QQZ) (fa:Uf) (o:Obj) (pm cd Yu:Vl) (a:Uf) (vs:T0 Vl) (ns:T0 Int),Ground q YE [] XP w s₀ mg mb s₁.heap->YP w s₁.heap->
   s₁.heap.get? fa=Fa o->o.data=.func (docDef d.name d.params d.body d.scope pm cd Yu)->s₁.heap.CodeRec cd d.name->mg d.name=Fa (.ref fa)->
   s₁.heap.get? a=Fa {cls:=.type "list",data:=.seq vs.toArray}->IntsAre vs ns->ns.length<=n->s₁.gens=#[]->
   XXj (Tk l.prog w) callerA (.call (.ref fa) ⟨[.ref a],[]⟩) (λr s'=>r=.ok (.ret (.bool pc))/\OldK s₁.heap s'.heap/\s'.os=s₁.os/\XYa s'.gens) s₁):
  WalkO q YE XP YP l.row.toRowW d [] (λf vs=>PySem.call f vs):=by
 intro w s₀ s₁ mg mb G Y fa o pm cd Yu dV kV ho hd YR hD hmg hg args vals as Z2 hlay hrd hwl hlo;obtain rfl:dV=.none:=Dflts.none hD hdf;obtain rfl:kV=.none:=Dflts.noKw hD;obtain⟨a,vs,ns,rfl,rfl,hobj,Zx,XY⟩:=KG hn Z2 hwl;refine enter_call (gj (call w s₀ s₁ mg mb fa o pm cd Yu a vs ns G Y ho (fd_plain hd) YR hmg hobj Zx XY hg) λr s' hq=>?_);obtain⟨rfl,h2,h3,h4⟩:=hq;exact⟨.inl ⟨.bool pc,.bool pc,[],Z',λ_=>rfl,.bool pc,K2 l _,λ_=>⟨List.Pairwise.nil,λ_ hm=>(nomatch hm)⟩⟩,h2,h3,h4⟩
variable {prog:Pg}{w:Wo}{A:Ar}{E:QQX}{s:Sd}{K:Frag}
end Att
namespace L2
theorem Eu:∀{vs:T0 Vl} {ns:T0 Int},IntsAre vs ns->qJ (ns.map V.int) vs
 | _,_,.nil=>.nil
 | _,_,.cons n t h=>.cons ⟨t,Z'⟩ (Eu h)
def Og(H:Hp):Prop:=∀b,H b=Db\/∃o xs,H b=Fa (.frz o (.lst xs))
def LS{P:Pg}{w:Wo}{K:qC}{mg mb:QQZ}{CX:Ln}{fa a:Uf}{fd:wv}{x:Str}{sp:Sp}{s₁:Sd}{vs:T0 Vl} (KX:K.In s₁.heap) (hns:s₁.heap.Ns Ix mg) (hb:s₁.heap.Ns builtinsNs mb) (hbb:∀x:Str,x≠"__name__"->mb x=zn x) (hlim:s₁.heap.NoLimit) (hg:s₁.gens=#[]) (ha:s₁.heap.get? a=Fa {cls:=.type "list",data:=.seq vs.toArray}) (hi:IntsAre vs ns) (hl:ns.length<=Ch) (hr:sA k callerA)
  (F:∀base:No,K.In base->base.Ns Ix mg->xA P w K mg base CX k fa fd [x] sp) (hbind:∀(s:Sd) (u:Vl),BindsTo s fd ⟨[u],[]⟩ [(x,u)])
  (Zg:∀H:Hp,Og H->zo K H a (ns.map V.int)->sp [.ref a] H (λv _=>v=.bl pc) λ_ _ _=>False)
  (hCX:∀H e s',CX [] H s₁ (λ_ _ _=>False) e s'->False):
  XXj (Tk P w) callerA (.call (.ref fa) ⟨[.ref a],[]⟩) (λr s'=>r=.ok (.ret (.bool pc))/\OldK s₁.heap s'.heap/\s'.os=s₁.os/\XYa s'.gens) s₁:=by
 have rv:=Eu hi;have lenV:=hi.length;have core:∀H:Hp,Og H->zo K H a (ns.map V.int)->yE P w H s₁.heap->(∀b,H b≠Db->b=a)->(H a≠Db->K.lookup a=Db)->
   XXj (Tk P w) callerA (.call (.ref fa) ⟨[.ref a],[]⟩) (λr s'=>r=.ok (.ret (.bool pc))/\OldK s₁.heap s'.heap/\s'.os=s₁.os/\XYa s'.gens) s₁:=by
  intro H hO hS mW hA hK;have Za:∀{b:Uf} {o:Obj},s₁.heap.get? b=Fa o->H b=Db->(EY s₁.heap H).get? b=Fa o:=λe n=>Nd e n;have noA:∀{b:Uf} {o:Obj} {es:Array DictEntry} {ep:Nat},s₁.heap.get? b=Fa o->o.data=.dict es ep->H b=Db:=λ{b o es ep} e d=>by
   cases q:H b with
   | none=>rfl
   | some u=>have e':b=a:=hA b (by rw[q];simp);subst e';rw[ha]at e;cases e;have d':Data.seq vs.toArray _=Data.dict es ep:=d;cases d'
  have nsK:∀{b:Uf} {m:QQZ},s₁.heap.Ns b m->(EY s₁.heap H).Ns b m:=λ{b m} ⟨o,es,ep,e,d,r⟩=>⟨o,es,ep,Za e (noA e d),d,r⟩;have hKb:K.In (EY s₁.heap H):=λb o e=>Za (KX b o e) (by
   cases q:H b with
   | none=>rfl
   | some u=>
    have e':b=a:=hA b (by rw[q];simp);subst e';rw[hK (by rw[q];simp)]at e;cases e)
  have hM:Mod K mg (EY s₁.heap H):=⟨hKb,nsK hns,⟨mb,nsK hb,hbb⟩,let⟨mc,h1,h2⟩:=hlim;⟨mc,nsK h1,h2⟩⟩;have e0:Ie P w K mg (EY s₁.heap H) callerA [] s₁ H:=⟨Z',hM,λb o e=>QQ e,mz (KF _ _),trivial,λb hb=>absurd (show b∈([]:QXQ)from hb) (by simp),mW,.of_eq hg⟩;refine gj ((F _ hKb (nsK hns)).run callerA [] s₁ H ⟨[.ref a],[]⟩ [.ref a] [.ref a] _ _ hr e0 (hbind s₁ (.ref a)) (.cons Z' .nil) (Zg H hO hS)) λr s' h=>?_;cases r with
  | error e=>exact(hCX H e s' h).elim
  | ok fl=>
   cases fl with
   | next=>exact False.elim h
   | brk=>exact False.elim h
   | cont=>exact False.elim h
   | ret u=>
    obtain⟨v,H',os,bare,un,hok',r',q⟩:=h;have q':v=.bl pc:=q;subst q';obtain rfl:u=Value.bool pc:=r';refine⟨Z',OldK.of_keep λb o e=>?_,os,bare⟩;cases q:H b with
    | none=>exact un.keep b o e q (by intro z;exact absurd (show b∈([]:QXQ)from z) (by simp)) (by simp)
    | some u=>
     rcases hO b with z|⟨ob,xs,z⟩
     .rw[q]at z;cases z
     .have z2:=un.nz b ob _ z;obtain⟨e1,_⟩:=mW b _ z;obtain⟨e2,_⟩:=hok' b _ z2;rw[e]at e1;cases e1;exact e2
 cases hk:K.lookup a with
 | some o=>have e:=KX a o hk;rw[ha]at e;cases e;refine core (λ_=>Db) (λ_=>.inl Z') (.inr ⟨_,vs.toArray,_,hk,Z',Z',Z',by rw[dw,lenV];exact hl,by simpa using rv⟩) (λb u z=>by have z':(Db:Option HO)=Fa u:=z;cases z') (λb z=>absurd Z' z) λz=>absurd Z' z
 | none=>
  refine core (λb=>if b=a then Fa (.frz {cls:=.type "list",data:=.seq vs.toArray} (.lst (ns.map V.int)))else Db) (λb=>?_) (.inl (.inr ⟨{cls:=.type "list",data:=.seq vs.toArray},c9 Z'⟩)) (λb u z=>?_) (λb z=>?_) λ_=>hk
  .by_cases hb:b=a
   .exact .inr ⟨_,_,c9 hb⟩
   .exact .inl (cY hb)
  .by_cases hb:b=a
   .have z':=(c9 hb).symm.trans z;cases z';subst hb;exact⟨ha,by rw[cT];exact hl,vs,_,rv,ha⟩
   .have z':=(cY hb).symm.trans z;cases z'
  .by_cases hb:b=a
   .exact hb
   .exact absurd (cY hb) z
def PD{l:W.OpenLaw}{n k:Nat}{q:Pg}{YE:QQQ}{XP:(QQZ)->No->Prop}{YP:Wo->No->Prop}{d:DefRec}{K:Params->qC}{CX:Wo->Ln}{sp:Wo->Sp}{x:Str} (hn:l.most=Fa n) (hn2:n<=Ch) (hdf:d.params.defaults=[]) (hr:sA k callerA) (hY:∀(w:Wo) (h:No),YP w h->(K w.params).In h) (F:∀(w:Wo) (mg:QQZ) (fa:Uf) (h:No),(K w.params).In h->h.Ns Ix mg->mg d.name=Fa (.ref fa)->
   ∃fd:wv,(∀(s:Sd) (u:Vl),BindsTo s fd ⟨[u],[]⟩ [(x,u)])/\
    ∀base:No,(K w.params).In base->base.Ns Ix mg->xA l.prog w (K w.params) mg base (CX w) k fa fd [x] (sp w))
  (Zg:∀(w:Wo) (H:Hp) (a:Uf) (ns:T0 Int),ns.length<=n->Og H->zo (K w.params) H a (ns.map V.int)->sp w [.ref a] H (λv _=>v=.bl pc) λ_ _ _=>False)
  (hCX:∀(w:Wo) (H:Hp) (s:Sd) (e:Vl) (s':Sd),CX w [] H s (λ_ _ _=>False) e s'->False):
  W.WalkO q YE XP YP l.row.toRowW d [] (λf vs=>PySem.call f vs):=by
 refine Att.attach_call hn hdf λw s₀ s₁ mg mb fa o pm cd Yu a vs ns G Y ho hd YR hmg hobj Zx XY hg=>?_;have KX:=hY w _ Y;obtain⟨fd,hb,hF⟩:=F w mg fa _ KX G.T.g hmg;exact LS KX G.T.g G.T.b G.T.builtins G.T.nolimit hg hobj Zx (dY XY hn2) hr hF hb (λH hO hS=>Zg w H a ns XY hO hS) λH e s'=>hCX w H s₁ e s'
noncomputable def Py(s:TD)(j:Nat):TD:=match s with
 | .ClassDef _ _ _ body _ _ _ _ _ _ _=>body.getD j (.Pass ⟨0,0,0,0⟩)
 | _=>.Pass ⟨0,0,0,0⟩
noncomputable def uI(s:TD):Arguments:=match s with
 | .FunctionDef _ a _ _ _ _ _ _ _ _=>a
 | _=>{posonlyargs:=[],args:=[],vararg:=none,kwonlyargs:=[],kw_defaults:=[],kwarg:=none,defaults:=[]}
noncomputable def r6(s:TD):T0 TD:=match s with
 | .FunctionDef _ _ b _ _ _ _ _ _ _=>b
 | _=>[]
noncomputable def qv(s:TD):XXd:=match s with
 | .FunctionDef _ _ _ _ _ _ sc _ _ _=>sc
 | _=>{kind:=.function,names:=[],isGenerator:=false,isCoroutine:=false}
abbrev OB:Ln:=λ_ _ _ _ _ _=>False
abbrev E0:XK:=λ_ _ _=>False
def Gy:B5 OB X E0:=λ_ _ _ _ _ _ _ h=>h.elim
structure QE(K:qC)(x qual:Str)(st:TD)(f:Uf)(fd:wv):Prop where
 ex:∃(oc:Vl) (od:Option Uf) (kV Yu pm:Vl) (an:Option Uf) (X1 ct:Vl) (YL:Array (Option Vl)),
  fd=W.fnOf x qual (uI st) (r6 st) (qv st) .none kV Yu pm an X1 ct/\K.lookup f=Fa ⟨oc,od,.func fd,YL⟩/\W.codeIn K X1 qual=pc
 kp:W.keepIn K (.ref f)=pc
variable {P:Pg}{K:qC}{mg:QQZ}{base:No}
section
variable {w:Wo}
def QE.ok{st:TD}{sp:Sp}(F:QE K x qual st f fd)(S:tM N ps (qv st))(len:∀vs H Q E,sp vs H Q E->vs.length=ps.length) (Yg:∀(X1:Vl) (A:Ar) (outer:T0 Env) (s:Sd) (H:Hp) (vs:T0 V) (Q:VK) (E:XK),sA k (A.deeper (dL qual (qv st) s.heap.objs.size f X1))->sp vs H Q E->
   ∃t,CS (vG OB P w K mg base N qual (qv st) f X1 A outer s H E).oB (r6 st) t/\t {nx:=λ_ H'=>Q .mS H',rt:=Q} (start N vs) H):xA P w K mg base OB (k+1) f fd ps sp:=by
 obtain⟨oc,od,kV,Yu,pm,an,X1,ct,YL,rfl,lk,YR⟩:=F.ex;refine Nk lk YR S len λA outer s H vs Q E hr Zg=>?_;obtain⟨t,h,q⟩:=Yg X1 A outer s H vs Q E hr Zg;exact⟨t,h.oB,q⟩
def QE.binds{st:TD}{ps:QQQ}(F:QE K x qual st f fd) (h:∀(kV Yu pm:Vl) (an:Option Uf) (X1 ct:Vl) (us:T0 Vl),us.length=ps.length->bindArgs (W.fnOf x qual (uI st) (r6 st) (qv st) .none kV Yu pm an X1 ct) ⟨us,[]⟩=pure (ps.zip us)):vb K fd ps []:=by
 obtain⟨oc,od,kV,Yu,pm,an,X1,ct,YL,rfl,lk,YR⟩:=F.ex;exact .all (h kV Yu pm an X1 ct)
def Na{st:TD}{oc:Vl}{od an:Option Uf}{YL:Array (Option Vl)}{kV Yu pm X1 ct:Vl}(l:K.lookup f=Fa ⟨oc,od,.func (W.fnOf x qual (uI st) (r6 st) (qv st) .none kV Yu pm an X1 ct),YL⟩) (c:W.codeIn K X1 qual=pc) (k:W.keepIn K (.ref f)=pc):QE K x qual st f (W.fnOf x qual (uI st) (r6 st) (qv st) .none kV Yu pm an X1 ct):=⟨⟨oc,od,kV,Yu,pm,an,X1,ct,YL,Z',l,c⟩,k⟩
end
variable {X:Cx}
def pv(i:Nat){x:Str}{pos:Pos}(hN:X.N[i]?=Fa x:=by rfl)(hv:R9 X.env.scope x:=by first|exact Or.inl Z'|exact Or.inr (Or.inl Z')|exact Or.inr (Or.inr Z'))(hd:zb x:=by decide)
  (YR:(x==("__classdict__":Str))=lf:=by decide):PE X (.Name x pos) (F7 i):=Ls hN hv hd YR
def Fu{A B:Prop}(h:B):if lf=pc then A else B:=by rw[cY dz];exact h
def PK{A B:Prop}(h:A):if pc=pc then A else B:=by rw[c9 Z'];exact h
def qS{c A B:Prop}[Decidable c](h1:c->A)(h2:¬c->B):if c then A else B:=by
 by_cases h:c
 .rw[c9 h];exact h1 h
 .rw[cY h];exact h2 h
def QJ(H H':Hp):Prop:=∀b o,H b=Fa o->H' b=Fa o
def QJ.trans(a:QJ H H1)(b:QJ H1 H2):QJ H H2:=λc o h=>b c o (a c o h)
section
variable {κ:Type}[DecidableEq κ]
noncomputable def wZ(kvs:T0 (κ×V))(k:κ):Option V:=(kvs.find? λkv=>decide (kv.1=k)).map (·.2)
noncomputable def yN(kvs:T0 (κ×V))(k:κ)(v:V):T0 (κ×V):=
 if (kvs.any λkv=>decide (kv.1=k))=pc then kvs.map (λkv=>if kv.1=k then(kv.1,v)else kv)else kvs++[(k,v)]
def Ci{p:κ×V}{r:T0 (κ×V)}{k:κ}(e:p.1=k):wZ (p::r) k=Fa p.2:=by simp[wZ,ft,e]
def CF{p:κ×V}{r:T0 (κ×V)}{k:κ}(e:¬p.1=k):wZ (p::r) k=wZ r k:=by simp[wZ,ft,e]
theorem GL(k:κ):∀kvs:T0 (κ×V),(kvs.any λkv=>decide (kv.1=k))=(wZ kvs k).isSome
 | []=>rfl
 | p::r=>by
  rw[fZ];by_cases e:p.1=k
  .simp only[Ci e,dW e,g9,Option.isSome_some]
  .rw[CF e,eP e,fM];exact GL k r
def AN(kvs:T0 (κ×V))(k:κ)(v:V):(yN kvs k v).length<=kvs.length+1:=by
 unfold yN;split
 .rw[cT];omega
 .rw[cW,d6,dH];omega
def yF.nH(r:yF o u):o.isSome=u.isSome:=by
 cases o with
 | none=>cases u with
  | none=>rfl
  | some _=>exact(show False from r).elim
 | some _=>cases u with
  | none=>exact(show False from r).elim
  | some _=>rfl
def KV.val(r:KV kvs vs)(k:κ):yF (wZ kvs k) (valueAt vs k):=by
 unfold KV at r;induction r with
 | nil=>exact True.intro
 | @cons p q ps qs h t ih=>
  obtain⟨h1,h2⟩:=h;by_cases e:p.1=k
  .have e':q.1=k:=h1.symm.trans e;have b:valueAt (q::qs) k=Fa q.2:=by simp[valueAt,ft,e']
   rw[Ci e,b];exact h2
  .have e':¬q.1=k:=λz=>e (h1.trans z);have b:valueAt (q::qs) k=valueAt qs k:=by simp[valueAt,ft,e']
   rw[CF e,b];exact ih
def KV.any(r:KV kvs vs)(k:κ):(kvs.any λkv=>decide (kv.1=k))=vs.any λkv=>decide (kv.1=k):=by
 unfold KV at r;induction r with
 | nil=>rfl
 | cons h t ih=>rw[fZ,fZ,ih,h.1]
def KV.oK(r:KV kvs vs)(k:κ){y:V}{u:Vl}(ry:qR y u):
  KV (kvs.map λkv=>if kv.1=k then(kv.1,y)else kv) (vs.map λkv=>if kv.1=k then(kv.1,u)else kv):=by
 unfold KV at r ⊢;induction r with
 | nil=>exact .nil
 | @cons p q ps qs h t ih=>
  rw[dU,dU];refine .cons ?_ ih;obtain⟨h1,h2⟩:=h;by_cases e:p.1=k
  .rw[c9 e,c9 (h1.symm.trans e)];exact⟨h1,ry⟩
  .rw[cY e,cY (λz=>e (h1.trans z))];exact⟨h1,h2⟩
def KV.put(r:KV kvs vs)(k:κ){y:V}{u:Vl}(ry:qR y u):KV (yN kvs k y) (stored vs k u):=by
 unfold yN stored;rw[r.any k];by_cases e:(vs.any λkv=>decide (kv.1=k))=pc
 .rw[c9 e,c9 e];exact r.oK k ry
 .rw[cY e,cY e];exact mI r ⟨Z',ry⟩
def KV.length(r:KV kvs vs):kvs.length=vs.length:=jp r
end
def Gi(r:qR (kV k) u):(rL P w).is k u=pc:=by
 cases k with
 | inl i=>obtain⟨t,e⟩:=(show ∃t,u=Value.int i t from r);subst e;exact G8 P w i t
 | inr x=>obtain⟨t,e⟩:=(show ∃t,u=Value.str x t from r);subst e;exact AO P w x t
theorem Ec:∀{ks:List rj} {us:T0 Vl},qJ (ks.map kV) us->ItemsAre (rL P w) ks us
 | [],_,r=>by rw[iP]at r;cases r;exact .nil
 | k::ks,_,r=>by
  rw[dU]at r;cases r with
  | cons h t=>exact .cons (Gi h) (Ec t)
abbrev KT(H:Hp):T0 (List rj×V)->T0 (List rj×Uf×Vl)->Prop:=Paired λp q=>p.1=q.1/\H q.2.1=Fa (.tup (p.1.map kV))/\qR p.2 q.2.2
def KT.val(r:KT H kvs xs)(k:List rj):yF (wZ kvs k) ((atKey xs k).map (·.2)):=by
 induction r with
 | nil=>exact True.intro
 | @cons p q ps qs h t ih=>
  obtain⟨h1,_,h2⟩:=h;by_cases e:p.1=k
  .have e':q.1=k:=h1.symm.trans e;have b:atKey (q::qs) k=Fa q.2:=by simp[atKey,ft,e']
   rw[Ci e,b];exact h2
  .have e':¬q.1=k:=λz=>e (h1.trans z);have b:atKey (q::qs) k=atKey qs k:=by simp[atKey,ft,e']
   rw[CF e,b];exact ih
def KT.oK(r:KT H kvs xs)(k:List rj){y:V}{u:Vl}(ry:qR y u):
  KT H (kvs.map λkv=>if kv.1=k then(kv.1,y)else kv) (xs.map (putAt k u)):=by
 induction r with
 | nil=>exact .nil
 | @cons p q ps qs h t ih=>
  rw[dU,dU];refine .cons ?_ ih;obtain⟨h1,h2,h3⟩:=h;unfold putAt;by_cases e:p.1=k
  .rw[c9 e,c9 (h1.symm.trans e)];exact⟨h1,h2,ry⟩
  .rw[cY e,cY (λz=>e (h1.trans z))];exact⟨h1,h2,h3⟩
def KT.put(r:KT H kvs xs)(k:List rj){b:Uf}{y:V}{u:Vl}(hb:H b=Fa (.tup (k.map kV)))(ry:qR y u):
  KT H (yN kvs k y) (storedH xs k b u):=by
 have e:(kvs.any λkv=>decide (kv.1=k))=(atKey xs k).isSome:=by rw[GL,(r.val k).nH,jt]
 unfold yN storedH;rw[e];by_cases q:(atKey xs k).isSome=pc
 .rw[c9 q,c9 q];exact r.oK k ry
 .rw[cY q,cY q];exact mI r ⟨Z',hb,ry⟩
def KT.keeps{H H':Hp}(r:KT H kvs xs)(ht:∀b ys,H b=Fa (.tup ys)->H' b=Fa (.tup ys)):KT H' kvs xs:=
 Paired.oJ r λ_ _ z=>⟨z.1,ht _ _ z.2.1,z.2.2⟩
variable {H:Hp}{h:No}{a:Uf}
section
variable {w:Wo}
def RF(ok:yE P w H h)(e:Rd H a u):su P w H h a u:=e.ok ok
def Ji{kvs:T0 (rj×V)}(ok:yE P w H h)(e:Rd H a (.dK kvs)):kvs.length<=Ch/\(a==XV)=lf/\∃vs,KV kvs vs/\h.DictOf (rL P w) a vs:=
 show su P w H h a (.dK kvs)from RF ok e
def Ur{kvs:T0 (rj×V)}(ok:yE P w H h)(e:H a=Fa (.dK kvs)):kvs.length<=Ch/\(a==XV)=lf/\∃vs,KV kvs vs/\h.DictOf (rL P w) a vs:=Ji ok (.inl e)
def Fi{ks:List rj}(ok:yE P w H h)(e:H a=Fa (.tup (ks.map kV))):(tupleKind (rL P w)).is h ks a:=by obtain⟨_,its,r,o,h1,h2,⟨n,h3⟩,_⟩:=(show su P w H h a (.tup (ks.map kV))from ok a _ e);exact⟨o,its.toArray,n,h1,h2,h3,by simpa using Ec r⟩
def JK{kvs:T0 (List rj×V)}(ok:yE P w H h)(e:Rd H a (.dT kvs)):kvs.length<=Ch/\(a==XV)=lf/\
  ∃xs,KT H kvs xs/\h.DictOfH (tupleKind (rL P w)) a xs:=by
 obtain⟨z,y,xs,r,o,es,ep,h1,h2,h3,h4,h5⟩:=(show su P w H h a (.dT kvs)from RF ok e);refine⟨z,y,xs,r,o,es,ep,h1,h2,h3,h4,λx hx=>?_,h5⟩;have all:∀{l:T0 (List rj×V)} {m:T0 (List rj×Uf×Vl)},KT H l m->∀x∈m,(tupleKind (rL P w)).is h x.1 x.2.1:=by
  intro l m q;induction q with
  | nil=>intro x hx;exact nomatch hx
  | @cons p q ps qs hq t ih=>
   intro x hx;rcases de.mp hx with e|hx
   .subst e;exact Fi ok (by rw[<-hq.1];exact hq.2.1)
   .exact ih x hx
 exact all r x hx
def UR{kvs:T0 (List rj×V)}(ok:yE P w H h)(e:H a=Fa (.dT kvs)):kvs.length<=Ch/\(a==XV)=lf/\
  ∃xs,KT H kvs xs/\h.DictOfH (tupleKind (rL P w)) a xs:=JK ok (.inl e)
end
def Fj(H:Hp)(a:Uf)(y:V)(r:Option V):Prop:=
 (∃kvs k,Rd H a (.dK kvs)/\y=kV k/\r=wZ kvs k)\/∃kvs k b,Rd H a (.dT kvs)/\y=.ref b/\H b=Fa (.tup (k.map kV))/\r=wZ kvs k
def NP(H:Hp)(a:Uf)(y v:V)(H':Hp):Prop:=
 (∃kvs k,H a=Fa (.dK kvs)/\y=kV k/\kvs.length<Ch/\H'=upd H a (.dK (yN kvs k v)))\/
 ∃kvs k b,H a=Fa (.dT kvs)/\y=.ref b/\H b=Fa (.tup (k.map kV))/\kvs.length<Ch/\H'=upd H a (.dT (yN kvs k v))
def Fj.k{H:Hp}{a:Uf}{kvs:T0 (rj×V)}{k:rj}(e:H a=Fa (.dK kvs)):Fj H a (kV k) (wZ kvs k):=.inl ⟨kvs,k,.inl e,Z',Z'⟩
def NP.k{H:Hp}{a:Uf}{kvs:T0 (rj×V)}{k:rj}(e:H a=Fa (.dK kvs))(hl:kvs.length<Ch):NP H a (kV k) v (upd H a (.dK (yN kvs k v))):=.inl ⟨kvs,k,e,Z',hl,Z'⟩
variable {XQ:T0 (Uf × Obj)}{Y:St}{y v:V}{u r:Vl}
section
variable {s:Sd}{o:Option V}{A:Ar}{E:QQX}
def Inv.big(I:Inv X XQ Y H s):XV<s.heap.objs.size:=by have h:Ix<s.heap.objs.size:=(I.mod.glob.keeps I.bk).lt;exact il (by decide) h
def KQ{Q:QQX}(hu:A.units+1<Y')(I:Inv X XQ Y H s)(g:Fj H a y (Fa v))(ry:qR y u)(h:∀w' s',Inv X XQ Y H s'->qR v w'->Q w' s'):
  pi (Tk X.prog X.w) A (XXf (.ref a) u) Q E s:=by
 rcases g with⟨kvs,k,e,ey,l⟩|⟨kvs,k,b,e,ey,eb,l⟩
 .subst ey;obtain⟨z,hd,vs,rel,dd⟩:=Ji I.mW e;obtain⟨w',hw,Z1⟩:=yF.some_of (v:=v) (o:=valueAt vs k) (by rw[l];exact rel.val k);exact wpAny_getItem_of (Gi ry) dd.mapOf hw (h w' _ (I.tok _) Z1)
 .subst ey;cases(show u=Value.ref b from ry);obtain⟨z,hd,xs,rel,dd⟩:=JK I.mW e;obtain⟨w',hw,Z1⟩:=yF.some_of (v:=v) (o:=(atKey xs k).map (·.2)) (by rw[l];exact rel.val k);obtain⟨p,hp,X4⟩:=iF.mp hw;refine wpAny_getItem_heap (jk hu) (Fi I.mW eb) dd hp ?_;rw[X4];exact h w' _ (I.tok _) Z1
def WK{Q:QQX}(hu:A.units+1<Y')(I:Inv X XQ Y H s)(g:Fj H a y o)(ry:qR y u)(h:∀s',Inv X XQ Y H s'->Q (.bool o.isSome) s'):
  pi (Tk X.prog X.w) A (Op .In u (.ref a)) Q E s:=by
 rcases g with⟨kvs,k,e,ey,l⟩|⟨kvs,k,b,e,ey,eb,l⟩
 .subst ey;obtain⟨z,hd,vs,rel,dd⟩:=Ji I.mW e;refine wpAny_in_of (Gi ry) hd dd.mapOf ?_;rw[<-(rel.val k).nH,<-l];exact h _ (I.tok _)
 .subst ey;cases(show u=Value.ref b from ry);obtain⟨z,hd,xs,rel,dd⟩:=JK I.mW e;refine wpAny_in_heap (jk hu) (Fi I.mW eb) hd dd ?_;have q:=(rel.val k).nH;rw[jt]at q;rw[<-q,<-l];exact h _ (I.tok _)
def Jc{t':Nat}(I:Inv X XQ Y H s)(mu:UV (H a))(hs:Heap.SameBut a s.heap h')(he:∃q,h'.get? a=Fa q)(new:su X.prog X.w (upd H a ob) h' a ob):
  Inv X XQ Y (upd H a ob) {s with heap:=h',toks:=t'}:=
 I.write (x:=a) (e:=a) mu (.inl Z') (λb q hb z=>(hs.2 b hb).trans z) he new
def Nu{H':Hp}{h':No}{kvs:T0 (rj×V)}(z:kvs.length<=Ch)(hd:(a==XV)=lf)(rel:KV kvs vs)(dd:h'.DictOf (rL P w) a vs):
  su P w H' h' a (.dK kvs):=⟨z,hd,vs,rel,dd⟩
def Ky{Q:Unit->Sd->Prop}(hu:A.units+1<Y')(I:Inv X XQ Y H s)(g:NP H a y v H')(ry:qR y u)(rv:qR v r)(h:∀s',Inv X XQ Y H' s'->Q () s'):
  pi (Tk X.prog X.w) A (setItem (.ref a) u r) Q E s:=by
 rcases g with⟨kvs,k,e,ey,l,eH⟩|⟨kvs,k,b,e,ey,eb,l,eH⟩
 .subst ey eH;obtain⟨z,hd,vs,rel,dd⟩:=Ur I.mW e;have hz:vs.length<=Ch:=by rw[<-rel.length];exact z
  have hl:(yN kvs k v).length<=Ch:=by have:=AN kvs k v;omega
  refine wpAny_setItem_pairs (hsz:=hz) (Gi ry) dd λh' dd' hs=>h _ ?_;have he:∃q,h'.get? a=Fa q:=let⟨q,_,_,hq,_⟩:=dd';⟨q,hq⟩;exact Jc I (by rw[e];exact True.intro) hs he (Nu hl hd (rel.put k rv) dd')
 .subst ey eH;cases(show u=Value.ref b from ry);obtain⟨z,hd,xs,rel,dd⟩:=UR I.mW e;have hz:xs.length<=Ch:=by rw[<-jp rel];exact z
  have hl:(yN kvs k v).length<=Ch:=by have:=AN kvs k v;omega
  refine wpAny_setItem_heap (hsz:=hz) (jk hu) (Fi I.mW eb) dd λh' dd' hs=>h _ ?_;obtain⟨q,es,ep,hq,h2,h3,h4,_,h5⟩:=dd';refine Jc I (by rw[e];exact True.intro) hs ⟨q,hq⟩ ⟨hl,hd,_,(rel.put k eb rv).keeps λc ys ec=>?_,q,es,ep,hq,h2,h3,h4,h5⟩;rw[qh (UD ec e (λz=>nomatch z))];exact ec
end
variable {kvs:T0 (rj × V)}{k:rj}
section
variable {s:Sd}{A:Ar}{E:QQX}
end
def G2{XQ:QQY}(I:Inv X XQ Y H s)(g:Fj H a y o):s.TypeIs (.ref a) "dict":=by
 rcases g with⟨kvs,k,e,_,_⟩|⟨kvs,k,b,e,_,_,_⟩
 .obtain⟨_,_,vs,_,dd⟩:=Ji I.mW e;exact dd.typeIs
 .obtain⟨_,_,xs,_,dd⟩:=JK I.mW e;exact dd.typeIs
def U5(td ty tv:TE):TS:=λD Y H=>tv Y H λv H1=>td Y H1 λx H2=>ty Y H2 λy H3=>∃a H4,x=.ref a/\NP H3 a y v H4/\D.nx Y H4
variable {i e value:Go}{pos X0 Z0:Pos}{td ty tv:TE}
section
variable {o:Go}
def OV(hu:X.A.units+1<Y')(ho:PE X o td)(hi:PE X i ty)(hv:PE X value tv)(hs:sB value (Fa (.Subscript o i X0)) pos.line X.env=pure lf):
  PS X (.Assign [.Subscript o i X0] value pos) (U5 td ty tv):=by
 intro XQ s Y H D I h;refine wpAny_Assign_Subscript (sS (hv XQ s Y H _ I h) λr s1 zz=>x5 zz λv H1 I1 rv q1=>sS (ho XQ s1 Y H1 _ I1 q1) λu s2 zz=>x5 zz λx H2 I2 rx q2=>sS (hi XQ s2 Y H2 _ I2 q2) λiv s3 zz=>?_) hs;obtain⟨y,H3,I3,ry,a,H4,ex,g,q3⟩:=zz;subst ex;obtain rfl:u=Value.ref a:=rx;exact Ky hu I3 g ry rv λs4 I4=>⟨Y,H4,I4,q3⟩
end
structure M1(X:Cx)(o:Go)(m:Str)(XU:Pos)(e:Go)(XZ:Pos):Prop where
 base:Ps o m X.env (wp o X.env)=wp o X.env
 pE:((xz XZ (Tl [e] X.env)).all (λx=>!x.1)&&(xL XZ (Rs [] X.env)).all (λx=>x.1.isSome)
  &&decide (([e]:List Go).length+([]:List XXe).length+(if ([]:List XXe).isEmpty then 0 else 1)<30))=pc
 line:(XU.endLine==XZ.line)=pc
 trees:xz XZ (Tl [e] X.env)=[(lf,wp e X.env)]
structure M2(X:Cx)(o:Go)(m:Str)(XU:Pos)(e f:Go)(XZ:Pos):Prop where
 base:Ps o m X.env (wp o X.env)=wp o X.env
 pE:((xz XZ (Tl [e,f] X.env)).all (λx=>!x.1)&&(xL XZ (Rs [] X.env)).all (λx=>x.1.isSome)
  &&decide (([e,f]:List Go).length+([]:List XXe).length+(if ([]:List XXe).isEmpty then 0 else 1)<30))=pc
 line:(XU.endLine==XZ.line)=pc
 trees:xz XZ (Tl [e,f] X.env)=[(lf,wp e X.env),(lf,wp f X.env)]
variable {d:V}
section
variable {s:Sd}{o:Option V}{A:Ar}{E:QQX}
end
variable {f:Go}{XU XZ:Pos}{tx:TE}
section
variable {o:Go}
end
section
variable {s:Sd}{A:Ar}{E:QQX}
end
section
variable {s:Sd}{A:Ar}{E:QQX}
end
section
variable {κ:Type}[DecidableEq κ]
end
noncomputable def Bk(env:Env):T0 (Str×wS)->T0 (Str×Uf)->T0 (Str×Uf)
 | [],acc=>acc
 | (n,k)::r,acc=>Bk env r (if k==.free then(n,(env.cells.lookup n).getD 0)::acc else acc)
theorem Hh{env:Env}{f:(Str×wS)->T0 (Str×Uf)->Sem (ForInStep (T0 (Str×Uf)))} (hf:∀x cs,(x.2=.free->∃c,env.cells.lookup x.1=Fa c)->f x cs=pure (.yield (if x.2==.free then(x.1,(env.cells.lookup x.1).getD 0)::cs else cs))):
  ∀(l:T0 (Str×wS)) (acc:T0 (Str×Uf)),(∀x∈l,x.2=.free->∃c,env.cells.lookup x.1=Fa c)->forIn l acc f=pure (Bk env l acc)
 | [],acc,_=>by rw[j9];rfl
 | (n,k)::r,acc,h=>by rw[jV,hf (n,k) acc (h _ dG),pure_bind];exact Hh hf r _ λx hx=>h x (dC _ hx)
def yH{scope:XXd}{env:Env}(h:∀x∈scope.names,x.2=.free->∃c,env.cells.lookup x.1=Fa c):closureFor scope env=pure (Bk env scope.names []):=by
 unfold closureFor;have e:=Hh (env:=env) (f:=λ(x:Str×wS) (cs:T0 (Str×Uf))=>(do
   if x.2==.free then
    let a<-cellOf env x.1
    pure (ForInStep.yield ((x.1,a)::cs))
   else pure (ForInStep.yield cs))) (λx cs hx=>by
  cases hk:x.2==NameKind.free with
  | false=>simp
  | true=>
   obtain⟨c,hc⟩:=hx (by simpa using hk);simp[cellOf,hc]) scope.names [] h
 first
  | exact(eK (·>>=pure) e).trans (by simp)
  | (simp only[bind_pure];exact e)
  | (rw[<-e];rfl)
theorem Mj{env:Env}{x:Str}{c:Uf}:∀{l:T0 (Str×wS)} {acc:T0 (Str×Uf)},(∀x∈l,x.2=.free->∃c,env.cells.lookup x.1=Fa c)->(∀x c,acc.lookup x=Fa c->env.cells.lookup x=Fa c)->(Bk env l acc).lookup x=Fa c->env.cells.lookup x=Fa c
 | [],acc,_,ha,h=>ha x c h
 | (n,k)::r,acc,hl,ha,h=>by
  refine Mj (l:=r) (acc:=if k==.free then(n,(env.cells.lookup n).getD 0)::acc else acc) (λy hy=>hl y (dC _ hy)) (λy d hd=>?_) h;cases hk:k==NameKind.free with
  | false=>rw[hk]at hd;exact ha y d (by simpa using hd)
  | true=>
   rw[hk,c9 Z']at hd;obtain⟨e,he⟩:=hl (n,k) dG (by simpa using hk);rw[eF]at hd;cases hy:y==n with
   | true=>
    rw[hy]at hd;have yn:y=n:=by simpa using hy
    subst yn;have he:env.cells.lookup y=Fa e:=he;rw[he]at hd ⊢;exact hd
   | false=>rw[hy]at hd;exact ha y d hd
theorem Mn{x:Str}:∀{l:T0 (Str×wS)} {acc:T0 (Str×Uf)},(∃c,acc.lookup x=Fa c)->∃c,(Bk env l acc).lookup x=Fa c
 | [],_,h=>h
 | (n,k)::r,acc,h=>by
  refine Mn (l:=r) ?_;cases hk:k==NameKind.free with
  | false=>simpa using h
  | true=>
   rw[c9 Z',eF];cases hy:x==n with
   | true=>exact⟨_,Z'⟩
   | false=>exact h
theorem IG{x:Str}:∀{l:T0 (Str×wS)} {acc:T0 (Str×Uf)},l.lookup x=Fa .free->∃c,(Bk env l acc).lookup x=Fa c
 | [],_,h=>by simp at h
 | (n,k)::r,acc,h=>by
  rw[eF]at h;cases hy:x==n with
  | true=>rw[hy]at h;have hk:k=.free:=dh h;subst hk;refine Mn (l:=r) ⟨(env.cells.lookup n).getD 0,?_⟩;show List.lookup x (if NameKind.free==NameKind.free then(n,(env.cells.lookup n).getD 0)::acc else acc)=Fa ((env.cells.lookup n).getD 0);rw[c9 (by rfl),eF,hy]
  | false=>rw[hy]at h;exact IG (l:=r) h
theorem uK{env:Env}{x:Str}:∀{l:T0 (Str×wS)},(l.map λ(n,k)=>if (k==NameKind.free&&env.scope.kind==.function&&env.kindOf n==Fa .cell)then(n,NameKind.cell)else(n,k)).lookup x
   = (l.lookup x).map λk=>if (k==NameKind.free&&env.scope.kind==.function&&env.kindOf x==Fa .cell)then NameKind.cell else k
 | []=>rfl
 | (n,k)::r=>by
  rw[dU];show List.lookup x ((if (k==NameKind.free&&env.scope.kind==.function&&env.kindOf n==Fa .cell)=pc then(n,NameKind.cell)else(n,k))::_)=_;cases hy:x==n with
  | true=>
   have yn:x=n:=by simpa using hy
   subst yn;by_cases hc:(k==NameKind.free&&env.scope.kind==.function&&env.kindOf x==Fa .cell)=pc
   .rw[c9 hc,eF,eF,hy];simp only[jW];rw[c9 hc]
   .rw[cY hc,eF,eF,hy];simp only[jW];rw[cY hc]
  | false=>
   by_cases hc:(k==NameKind.free&&env.scope.kind==.function&&env.kindOf n==Fa .cell)=pc
   .rw[c9 hc,eF,eF,hy];exact uK
   .rw[cY hc,eF,eF,hy];exact uK
noncomputable def Qr(ix:T0 (Option Nat))(Y:St):St:=ix.map λo=>o.bind λi=>(Y[i]?).join
abbrev Cx.comp(X:Cx)(scope:XXd)(N':QQQ)(C:Uf)(s0:Sd)(H0:Hp)(ex:QXQ):Cx:=
 {X with N:=N',s₀:=s0,H₀:=H0,env:=compEnvC scope (Bk X.env scope.names []) C X.env,outer:=X.stack,ex:=ex,fn:=λ_=>lf,pn:=[],xe:=λ_ _=>False}
structure sF(X:Cx)(scope:XXd)(ix:List (Option Nat))(N':QQQ):Prop where
 kind:scope.kind=.function
 oH:∀y∈scope.names,y.2≠.cell
 nam:∀y∈scope.names,y.2=.local->scope.names.lookup y.1=Fa .local
 fre:∀y∈scope.names,y.2=.free->X.env.scope.names.lookup y.1=Fa .cell\/X.env.scope.names.lookup y.1=Fa .free
 len:ix.length=N'.length
 at_:∀(j i:Nat) (x:Str),ix[j]?=Fa (Fa i)->N'[j]?=Fa x->X.N[i]?=Fa x/\scope.names.lookup x=Fa .free
variable {scope:XXd}{ix:T0 (Option Nat)}{N':QQQ}{fp:QXQ}
section
variable {s:Sd}
def sF.cells(S:sF X scope ix N')(ok:X.Ok):∀x∈scope.names,x.2=.free->∃c,X.env.cells.lookup x.1=Fa c:=λx hx hk=>ok.has x.1 (S.fre x hx hk)
def sF.sub(S:sF X scope ix N')(ok:X.Ok){x:Str}{c:Uf}(h:(Bk X.env scope.names []).lookup x=Fa c):X.env.cells.lookup x=Fa c:=Mj (S.cells ok) (λ_ _ z=>by simp at z) h
theorem vH{x:Str}{k:wS}:∀{l:T0 (Str×wS)},l.lookup x=Fa k->(x,k)∈l
 | [],h=>by simp at h
 | (n,j)::r,h=>by
  rw[eF]at h;cases hy:x==n with
  | true=>
   rw[hy]at h;have yn:x=n:=by simpa using hy
   subst yn;rw[dh h];exact dG
  | false=>rw[hy]at h;exact dC _ (vH h)
def Inv.comp{C:Uf}{h1:No}{tk:Nat}(I:Inv X XQ Y H s)(S:sF X scope ix N')(hf:∀b∈fp,Ba X XQ H b)(X2:∀b∈fp,b<s.heap.objs.size)(hC:s.heap.objs.size<=C) (k:∀b o,s.heap.get? b=Fa o->h1.get? b=Fa o) (hn:h1.Ns C (λ_=>Db)):Inv (X.comp scope N' C s H fp) (X.pn++XQ) (Qr ix Y) H {s with heap:=h1,toks:=tk}:=by
 have sub:∀{x:Str} {c:Uf},(Bk X.env scope.names []).lookup x=Fa c->X.env.cells.lookup x=Fa c:=λh=>S.sub I.ok h;refine⟨⟨I.ok.mod,S.kind,I.ok.glob,I.ok.blt,hC,λx y c e1 e2=>I.ok.inj x y c (sub e1) (sub e2),λx hx=>?_,λ_ _ z=>(dz z).elim,I.ok.hd,I.ok.frames,.inl Z',λb hb=>⟨dE (dN (X2 b hb) hC),λx c e=>(hf b hb).2.2.2.2.1 x c (sub e)⟩,I.bs,dY I.ok.oo I.sz,λb o e hb=>?_,λb hb hfs=>?_,I.stack,I.nN⟩,Z',I.bare,Un.kept k,⟨_,hn,λi x v e1 e2 e3=>?_⟩,λx c e=>?_,I.mW.fresh hC,λx c e=>I.m9 x c (sub e),λp hp=>?_,I.mW.kept k,?_⟩
 .have hx:(relabel scope X.env).names.lookup x=Fa .cell\/(relabel scope X.env).names.lookup x=Fa .free:=hx;have e:(relabel scope X.env).names.lookup x=(scope.names.lookup x).map λk=>if (k==NameKind.free&&X.env.scope.kind==.function&&X.env.kindOf x==Fa .cell)then NameKind.cell else k:=uK
  rw[e]at hx;cases q:scope.names.lookup x with
  | none=>rw[q]at hx;rcases hx with hx|hx<;>simp at hx
  | some kd=>
   cases kd with
   | free=>exact IG q
   | cell=>exact absurd Z' (S.oH _ (vH q))
   | _=>rw[q]at hx;rcases hx with hx|hx<;>simp at hx
 .rcases(hf b hb).2.2.2.1 with z|z
  .exact I.ok.nV b o e z
  .exact absurd (dN (dv e) (dY I.ok.oo z)) (eZ _)
 .rcases de.mp (I.nE b hfs)with z|z
  .exact(hf b hb).2.1 z
  .exact(hf b hb).2.2.1 z
 .have Z3:(ix[i]?).map (λo=>o.bind λi=>(Y[i]?).join)=Fa (Fa v):=by have z:(Qr ix Y)[i]?=Fa (Fa v):=e2;unfold Qr at z;rw[dD]at z;exact z
  cases q:ix[i]? with
  | none=>rw[q]at Z3;cases Z3
  | some o=>
   rw[q]at Z3;cases o with
   | none=>cases Z3
   | some j=>
    have Z4:(Y[j]?).join=Fa v:=dh Z3;have e4:Y[j]?=Fa (Fa v):=by
     cases r:Y[j]? with
     | none=>rw[r]at Z4;cases Z4
     | some w=>rw[r]at Z4;exact eK Fa Z4
    obtain⟨n1,n2⟩:=S.at_ i j x q e1;obtain⟨m,hm,hl⟩:=I.loc;have hk:=S.fre _ (vH n2) Z';have hv:R9 X.env.scope x:=by
     rcases hk with z|z
     .exact .inr (.inl z)
     .exact .inr (.inr z)
    obtain⟨u,ru,lk⟩:=hl j x v n1 e4 hv;refine⟨u,ru,?_⟩;have hk':X.env.kindOf x=Fa .cell\/X.env.kindOf x=Fa .free:=hk;rcases lk with⟨z,_⟩|⟨_,c,hc,hcell⟩
    .rcases hk' with y|y<;>(rw[y]at z;cases z)
    .obtain⟨c',hc'⟩:=IG (env:=X.env) (acc:=[]) n2;have:=sub hc';rw[hc]at this;cases this;refine .inr ⟨?_,c,hc',hcell.keeps k⟩;show(relabel scope X.env).names.lookup x=Fa .cell\/(relabel scope X.env).names.lookup x=Fa .free;have e:(relabel scope X.env).names.lookup x=(scope.names.lookup x).map λk=>if (k==NameKind.free&&X.env.scope.kind==.function&&X.env.kindOf x==Fa .cell)then NameKind.cell else k:=uK
     rw[e,n2];simp only[jW];split
     .exact .inl Z'
     .exact .inr Z'
 .obtain⟨v,q⟩:=I.cell x c (sub e);exact⟨v,q.keeps k⟩
 .obtain⟨e,n,ne,nf,d⟩:=I.pin p (by simpa using hp);refine⟨k _ _ e,n,dE (dN (dv e) hC),λz=>?_,d⟩;rcases de.mp (I.nE p.1 z)with y|y
  .exact ne y
  .exact nf y
 .show(Qr ix Y).length=N'.length;unfold Qr;rw[cT];exact S.len
end
section
variable {prog:Pg}{w:Wo}{A:Ar}{R:Result→Sd→Prop}{s:Sd}
def xW{YI Ym iter:Go}{Ys:T0 Go}{scope:XXd}{pos:Pos}{it acc:Vl}{env:Env}(I:Nat->Sd->Prop){EX:QQX}(hEX:∀e s',EX e s'->notedBy (Tk prog w) A env (λx s'=>R (.error x) s') e s') (turn:∀n s,I n s->pi (Tk prog w) A (pyNext it) (λr s₁=>match r with
   | none=>R (.ok .next) s₁
   | some v=>pi (Tk prog w) A (XXi Ym it v) (λ_ s₁=>pi (Tk prog w) A (assign Ym env v) (λ_ s₂=>
     pi (Tk prog w) A (forIn Ys pc λc r=>if r=pc then do let ok<-isTrue c env (wp c env);pure (ForInStep.yield ok)else pure (ForInStep.yield r)) (λok s₃=>
      if ok=pc then pi (Tk prog w) A (wp YI env) (λx s₄=>
       pi (Tk prog w) A (call (.builtin "list.append") [acc,x]) (λ_ s₅=>∃m,m<n/\I m s₅) (λ_ _=>False) s₄) EX s₃
      else ∃m,m<n/\I m s₃) (λ_ _=>False) s₂) (λ_ _=>False) s₁) (λ_ _=>False) s₁) (λ_ _=>False) s)
  (n:Nat) (h:I n s):
  XXj (Tk prog w) A (.compLoop (.ListComp YI [⟨Ym,iter,Ys,0⟩] scope pos) 0 it acc env) R s:=by
 refine codeAny_loop Z' I (λn s hI=>?_) n h;show pi _ A ((compTurn (.ListComp YI [⟨Ym,iter,Ys,0⟩] scope pos) 0 it acc env).onRaise (λx=>do noteFrame x env;theTreesLotGoes x)) _ _ s;refine wpAny_noted ?_;rw[compTurn_list];refine cU (gP (cU (d9 (turn n s hI) (λr s₁ h₁=>?_) λ_ _ h'=>h'.elim)));cases r with
 | none=>exact df h₁
 | some v=>
  refine cU (d9 h₁ (λ_ s₁' h₁'=>?_) λ_ _ h'=>h'.elim);refine cU (d9 h₁' (λ_ s₂ h₂=>cU (d9 h₂ (λok s₃ h₃=>?_) λ_ _ h'=>h'.elim)) λ_ _ h'=>h'.elim);cases ok with
  | false=>exact df ⟨Z',h₃⟩
  | true=>exact cU (cU (d9 h₃ (λx s₄ h₄=>cU (d9 h₄ (λ_ s₅ h₅=>df (df ⟨Z',h₅⟩)) λ_ _ h'=>h'.elim)) hEX))
end
def PF(X:Cx)(Ys:T0 Go)(t:TT):Prop:=
 ∀(XQ:QQY) (s:Sd) (Y:St) (H:Hp) (Q:Bool->Hp->Prop),Inv X XQ Y H s->t Y H Q->
  pi (Tk X.prog X.w) X.A (forIn Ys pc λc r=>if r=pc then do let ok<-isTrue c X.env (wp c X.env);pure (ForInStep.yield ok)else pure (ForInStep.yield r)) (TP X XQ Y Q) X.xe s
def U6:TT:=λ_ H Q=>Q pc H
def SW:PF X [] U6:=λ_ _ _ H _ I h=>wpAny_tests_nil ⟨H,I,h⟩
def Tv(h:PT X c t):PF X [c] t:=λXQ s Y H Q I q=>wpAny_tests_one (h XQ s Y H Q I q)
def RE(ix:T0 (Option Nat))(g:TG)(tt:TT)(te:TE)(Y:St)(J:It)(Q:VK)(H:Hp):Prop:=
 ∃W:Nat->Nat->T0 V->St->Hp->Prop,(∃m,W 0 m [] (Qr ix Y) H)/\∀i m ys σ' H,W i m ys σ' H->
  (J.stop i H/\ys.length<=Ch/\∀D,H D=Db->Q (.ref D) (upd H D (.lst ys)))\/
  (J.go i H/\ys.length<Ch/\∀x H',J.pq i H x H'->g x σ' H' λσ2 H2=>tt σ2 H2 λb H3=>if b=pc then te σ2 H3 λy H4=>∃m',m'<m/\W (i+1) m' (ys++[y]) σ2 H4 else ∃m',m'<m/\W (i+1) m' ys σ2 H3)
def MH(ix:T0 (Option Nat))(wi:TI)(g:TG)(tt:TT)(te:TE):TE:=λY H Q=>wi Y H λJ H1=>RE ix g tt te Y J Q H1
variable {tg iter YI:Go}{Ys:T0 Go}{g:TG}{tt:TT}{te:TE}{J:It}{it:Uf}{tn:Nat→No→Prop}{Q:VK}
section
variable {s:Sd}
def BO{XP:Uf->Sd->Hp->QXQ->QQY->St->Vl->Sd->Prop}{RR:Vl->Uf->Result->Sd->Prop}{E:QQX}(hc:X.calm=pc)(S:sF X scope ix N')(I:Inv X XQ Y H s)(T:Hk X.prog X.w X.K tg J fp it tn)(st:tn 0 s.heap)(hf:∀b∈fp,Ba X XQ H b) (hg:∀C s0 H0 ex,PG (X.comp scope N' C s0 H0 ex) tg g) (ht:∀C s0 H0 ex,PF (X.comp scope N' C s0 H0 ex) Ys tt) (he:∀C s0 H0 ex XQ s Y H Q,Inv (X.comp scope N' C s0 H0 ex) XQ Y H s->te Y H Q->pi (Tk X.prog X.w) X.A (wp YI (X.comp scope N' C s0 H0 ex).env) (EP (X.comp scope N' C s0 H0 ex) XQ Y Q) (XP C s0 H0 ex XQ Y) s) (hx:∀C D e s',s.heap.objs.size<=C->(∃YQ σ',(∀b∈fp,∃o,(b,o)∈YQ)/\XP C s H fp YQ σ' e s')->notedBy (Tk X.prog X.w) X.A (compEnvC scope (Bk X.env scope.names []) C X.env) (λx s'=>RR D C (.error x) s') e s') (hw:RE ix g tt te Y J Q H) (XW:∀D C s' H' m,s.heap.objs.size<=C->H' C=Db->s'.heap.Ns C m->Inv X XQ Y H' s'->Q (.ref D) H'->RR (.ref D) C (.ok .next) s'):
  pi (Tk X.prog X.w) X.A (newList []) (λacc s₃=>pi (Tk X.prog X.w) X.A (newFunctionEnv scope X.env.globals (Bk X.env scope.names []) [] X.env.qual Db .none (Fa X.env)) (λYy s₄=>
   XXj (Tk X.prog X.w) X.A (.compStart (.ListComp YI [⟨tg,iter,Ys,0⟩] scope pos) 0 (.ref it) acc {Yy with scope:=relabel scope X.env}) (RR acc Yy.locals) s₄) E s₃) E s:=by
 obtain⟨W,⟨m0,w0⟩,turn⟩:=hw;have X2:∀b∈fp,b<s.heap.objs.size:=λb hb=>by obtain⟨o,e,_⟩:=T.obj _ _ st b hb;exact dv e
 refine fS (wpAny_newFunctionEnv S.oH (by intro y hy;simp at hy) (λh₁ Zy Z5=>?_) S.kind);dsimp only at Zy Z5 ⊢;generalize hH2:s.heap.push {cls:=.type "list",dict:=none,data:=.seq ([]:T0 Vl).toArray}=H2 at Zy Z5 ⊢;have hC:H2.objs.size=s.heap.objs.size+1:=by rw[<-hH2,fm]
 have hDC:s.heap.objs.size≠H2.objs.size:=by rw[hC];exact dE (fE _)
 have Z6:s.heap.objs.size<=H2.objs.size:=by rw[hC];exact gW _
 have below:∀b,b<s.heap.objs.size->b≠H2.objs.size/\b≠s.heap.objs.size:=λb hb=>⟨by rw[hC];exact dE (fT hb),dE hb⟩;have Yp:∀b o,s.heap.get? b=Fa o->h₁.get? b=Fa o:=λb o e=>Z5.extBut b o (below b (dv e)).1 (cZ _ (hH2 ▸ cZ _ e));have hacc:h₁.get? s.heap.objs.size=Fa {cls:=.type "list",data:=.seq ([]:T0 Vl).toArray 0}:=Z5.extBut _ _ hDC (cZ _ (hH2 ▸ dF _ Z'));have Zy:h₁.Ns H2.objs.size (λ_=>Db):=Zy;have Y1:∀{H':Hp} {pl:QQY},(∀b∈fp,H' b=Db)->(∀p∈pl,p.1∉fp)->∀b∈fp,Ba (X.comp scope N' H2.objs.size s H fp) (X.pn++XQ++pl) H' b:=λ{H' pl} hn X9 b hb=>by
  refine⟨hn b hb,dE (dN (X2 b hb) Z6),λz=>?_,.inl hb,λx c e=>(hf b hb).2.2.2.2.1 x c (S.sub I.ok e),λp hp=>?_⟩
  .rcases de.mp (I.nE b z)with y|y
   .exact(hf b hb).2.1 y
   .exact(hf b hb).2.2.1 y
  .rcases dQ.mp (show p∈X.pn++XQ++pl by simpa using hp)with z|z
   .exact(hf b hb).2.2.2.2.2 p z
   .intro q;exact X9 p z (q ▸ hb)
 have loop:∀s₃:Sd,s₃={s with heap:=h₁,toks:=s.toks+([]:T0 (Str×Vl)).length}->
   XXj (Tk X.prog X.w) X.A (.compLoop (.ListComp YI [⟨tg,iter,Ys,0⟩] scope pos) 0 (.ref it) (.ref s.heap.objs.size) (compEnvC scope (Bk X.env scope.names []) H2.objs.size X.env))
    (RR (.ref s.heap.objs.size) H2.objs.size) s₃:=by
  rintro s₃ rfl
  refine xW (hEX:=λe s' z=>hx _ _ e s' Z6 z) (λn s'=>∃(i:Nat) (ys:T0 V) (us:T0 Vl) (k:Nat) (σ':St) (H':Hp),Inv (X.comp scope N' H2.objs.size s H fp) (X.pn++XQ) σ' H' s'/\tn i s'.heap/\(∀b∈fp,H' b=Db)/\H' s.heap.objs.size=Db/\
   s'.heap.get? s.heap.objs.size=Fa {cls:=.type "list",data:=.seq us.toArray k}/\qJ ys us/\ys.length<=Ch/\W i n ys σ' H') ?_ m0
   ⟨0,[],[],0,Qr ix Y,H,I.comp S hf X2 Z6 Yp Zy,T.keep _ _ _ st λb _ o e=>Yp b o e,λb hb=>(hf b hb).1,I.mW.fresh (dq _),hacc,.nil,eN _,w0⟩
  rintro n s' ⟨i,ys,us,k,σ',H',I',YG,fr',hD',Yw,rv',hz',w'⟩
  have cellD:∀x c,(X.comp scope N' H2.objs.size s H fp).env.cells.lookup x=Fa c->c≠s.heap.objs.size:=λx c e=>by obtain⟨v,q⟩:=I.cell x c (S.sub I.ok e);exact dE q.lt
  have pinD:∀p∈X.pn++XQ,p.1≠s.heap.objs.size:=λp hp=>dE (dv (I.pin p hp).1);have dfs:s.heap.objs.size∉(X.comp scope N' H2.objs.size s H fp).fs:=λz=>by
   rcases de.mp (I.nE _ z)with y|y
   .exact absurd I.lt (by rw[<-y];exact eZ _)
   .exact I.pz (dq _) y
  have dfp:s.heap.objs.size∉fp:=λz=>absurd (X2 _ z) (eZ _);have IpD:Inv (X.comp scope N' H2.objs.size s H fp) (X.pn++XQ++[(s.heap.objs.size,{cls:=.type "list",data:=.seq us.toArray k})]) σ' H' s':=I'.nS λp hp=>by
   rcases dQ.mp hp with z|z
   .exact I'.pin p (eA _ z)
   .have e:p=(s.heap.objs.size,{cls:=.type "list",data:=.seq us.toArray k}):=by simpa using z
    subst e;exact⟨Yw,hD',hDC,dfs,λv z=>by cases z⟩
  have pfp:∀p∈[((s.heap.objs.size,{cls:=.type "list",data:=.seq us.toArray k}):Uf×Obj)],p.1∉fp:=λp hp=>by
   have e:p=(s.heap.objs.size,{cls:=.type "list",data:=.seq us.toArray k}):=by simpa using hp
   subst e;exact dfp
  rcases turn i n ys σ' H' w' with⟨stop,hz,q⟩|⟨go,hz,step⟩
  .refine d9 (T.done (X.comp scope N' H2.objs.size s H fp) Z' Z' Z' hc i _ s' σ' H' (λ_ _=>False) IpD (Y1 fr' pfp) YG stop) (λr s1 ⟨hr,I1⟩=>?_) λ_ _ z=>z;subst hr;show RR _ _ _ _;have ho1:s1.heap.get? s.heap.objs.size=Fa {cls:=.type "list",data:=.seq us.toArray k}:=(I1.pin (s.heap.objs.size,{cls:=.type "list",data:=.seq us.toArray k}) (by simp)).1;obtain⟨m,hnC,_⟩:=id I1.loc;refine XW _ _ s1 (upd H' s.heap.objs.size (.lst ys)) m Z6 (by rw[qh (dO hDC)];exact I1.free) hnC ?_ (q _ hD');have nD:∀b o,s.heap.get? b=Fa o->b≠s.heap.objs.size:=λb o e=>(below b (dv e)).2;have hD0:H s.heap.objs.size=Db:=I.mW.fresh (dq _);refine I.oX (s':=s1) (ch:=fp) I1.os ⟨λb o e n1 n2 n3=>?_,λb o e n1 n2 n3=>?_,λb o e n1 n2=>?_,λb o e n1=>?_,λb xs e=>?_,λb o u e=>?_,λb ps e=>?_⟩ (λb u e=>?_) I1.bare λb hb=>⟨(hf b hb).2.2.2.1,(hf b hb).2.1,(hf b hb).2.2.2.2.1,(hf b hb).2.2.2.2.2⟩
   .exact I1.base.keep b o e n1 n2 n3
   .exact I1.base.slot b o e n1 n2 n3
   .rw[qh (nD b o e)];exact I1.base.free b o e n1 n2
   .exact I1.base.there b o e n1
   .rw[qh (qZ e hD0)];exact I1.base.nJ b xs e
   .rw[qh (qZ e hD0)];exact I1.base.nz b o u e
   .obtain⟨more,z⟩:=I1.base.nK b ps e;exact⟨more,by rw[qh (qZ e hD0)];exact z⟩
   .by_cases hb:b=s.heap.objs.size
    .subst hb;rw[qw]at e;cases e;exact⟨hz,us,k,rv',ho1⟩
    .rw[qh hb]at e;exact(I1.mW b u e).nA (λc v _ z=>z) (λc z=>by rw[qh (qZ z hD')];exact z) (λc xs z=>by rw[qh (qZ z hD')];exact z)
  .refine d9 (T.item (X.comp scope N' H2.objs.size s H fp) Z' Z' Z' hc i _ s' σ' H' (λ_ _=>False) IpD (Y1 fr' pfp) YG go) (λr s1 ⟨v,hr,h4⟩=>?_) λ_ _ z=>z;subst hr;show pi _ _ (XXi tg (.ref it) v) _ _ s1;refine d9 h4 (λ_ s2 zz=>?_) λ_ _ z=>z;obtain⟨x,H5,I5,r5,y5,Zt,fr5⟩:=zz;have I5':=I5.pinned (Y1 fr5 pfp) (T.obj _ _ Zt);refine d9 (hg H2.objs.size s H fp _ s2 σ' H5 x v _ I5' r5 (step x H5 y5)) (λ_ s3 ⟨σ6,H6,I6,q6⟩=>?_) λ_ _ z=>z;refine d9 (ht H2.objs.size s H fp _ s3 σ6 H6 _ I6 q6) (λok s4 ⟨H7,I7,q7⟩=>?_) λ_ _ z=>z;have facts:∀{σ7:St} {H7:Hp} {s7:Sd},Inv (X.comp scope N' H2.objs.size s H fp) (X.pn++XQ++[(s.heap.objs.size,{cls:=.type "list",data:=.seq us.toArray k})]++C5 fp s2.heap) σ7 H7 s7->
     tn (i+1) s7.heap/\(∀b∈fp,H7 b=Db)/\H7 s.heap.objs.size=Db/\s7.heap.get? s.heap.objs.size=Fa {cls:=.type "list",data:=.seq us.toArray k}:=λ{σ7 H7 s7} K7=>by
    have pd:=K7.pin (s.heap.objs.size,{cls:=.type "list",data:=.seq us.toArray k}) (by simp);refine⟨T.keep _ _ _ Zt λb hb o e=>(K7.pin (b,o) (eA _ (eA _ (vI hb e)))).1,λb hb=>?_,pd.2.1,pd.1⟩;obtain⟨o,e,d⟩:=T.obj _ _ Zt b hb;exact(K7.pin (b,o) (eA _ (eA _ (vI hb e)))).2.1
   cases ok with
   | false=>rw[cY dz]at q7 ⊢;obtain⟨m',hm,w7⟩:=q7;obtain⟨t7,f7,d7,o7⟩:=facts I7;exact⟨m',hm,i+1,ys,us,k,σ6,H7,I7.ng.ng,t7,f7,d7,o7,rv',hz',w7⟩
   | true=>
    rw[c9 Z']at q7 ⊢;refine d9 (he H2.objs.size s H fp _ s4 σ6 H7 _ I7 q7) (λyv s5 ⟨y,H8,I8,r8,m',hm,w8⟩=>?_) λ_ _ z=>⟨_,_,λb hb=>(by
     obtain⟨o,e,_⟩:=T.obj _ _ Zt b hb;exact⟨o,eA _ (vI hb e)⟩),z⟩
    obtain⟨t8,f8,d8,o8⟩:=facts I8;have hsz:us.toArray.size<=Ch:=by rw[dw,<-rv'.length];exact hz'
    refine append_at (hsz:=hsz) o8 λh' sb od=>?_;refine⟨m',hm,i+1,ys++[y],us++[yv],k+1,σ6,H8,?_,T.keep _ _ _ t8 λb hb o e=>(sb.2 b λq=>dfp (q ▸ hb)).trans e,f8,d8,?_,rv'.append (.cons r8 .nil),?_,w8⟩
    .exact I8.ng.ng.turned (it:=s.heap.objs.size) (t':=s5.toks) (λb o hb e=>(sb.2 b hb).trans e) d8 hDC (.inr (dq _)) cellD (by simpa using pinD)
    .rw[od,List.push_toArray]
    .rw[cW,dP];exact hz
 exact codeAny_compStart_list (loop _ Z') (T.self _ 0 _ _ _ (T.keep _ _ _ st λb _ o e=>Yp b o e) (loop _ Z'))
def Inv.letGo{C:Uf}(I:Inv X XQ Y H s)(I':Inv X XQ σ' H' s')(hC:s.heap.objs.size<=C)(hn:H' C=Db)(hs:Heap.SameBut C s'.heap h'):Inv X XQ σ' H' {s' with heap:=h'}:=
 I'.turned (t':=s'.toks) (it:=C) (λb o hb e=>(hs.2 b hb).trans e) hn (λz=>absurd (dN I.lt hC) (by rw[z];exact eZ _)) (.inr (dY I.sz hC))
  (λx c e z=>by
   obtain⟨v,r⟩:=I.cell x c e;exact absurd (dN r.lt hC) (by rw[z];exact eZ _))
  (λp hp z=>absurd (dN (dv (I.pin p hp).1) hC) (by rw[z];exact eZ _))
def QT(hc:X.calm=pc)(S:sF X scope ix N')(hi:PI X tg iter wi)(hg:∀C s0 H0 ex,PG (X.comp scope N' C s0 H0 ex) tg g)(ht:∀C s0 H0 ex,PF (X.comp scope N' C s0 H0 ex) Ys tt)(he:∀C s0 H0 ex,PE (X.comp scope N' C s0 H0 ex) YI te) (hs:∀x,AT iter X.env x=pure x:=by intro _;rfl):PE X (.ListComp YI [⟨tg,iter,Ys,0⟩] scope pos) (MH ix wi g tt te):=by
 intro XQ s Y H Q I h;rw[eval_ListComp];refine jK (use:=none) Z' hs (yH (S.cells I.ok)) S.kind S.nam (d9 (hi XQ s Y H _ I h) (λxv s₁ h₁=>d9 h₁ (λitv s₂ h₂=>?_) λ_ _ e=>e) λ_ _ e=>e);obtain⟨it,fp,tn,J,H2,e,I2,T,X6,f2,hw⟩:=h₂;subst e;refine BO (RR:=λacc C=>compPost (Tk X.prog X.w) X.A X.xe Db (EP X XQ Y Q) acc C) hc S I2 T X6 f2 hg ht (XP:=λ_ _ _ _ _ _ _ _=>False) he (λ_ _ _ _ _ z=>by obtain⟨_,_,_,z⟩:=z;exact z.elim) hw λD C s' H' m hCs hCn hn I3 q=>?_;exact⟨m,hn,λh' hs'=>⟨.ref D,_,I2.letGo I3 hCs hCn hs',Z',q⟩⟩
def HW{i:Nat}{x:Str}{px Zz:Pos}(hN:X.N.Nodup)(Z7:X.N[i]?=Fa x)(hx:Ll X.env.scope x)(hc:X.calm=pc)(S:sF X scope ix N')(hi:PI X tg iter wi)(hg:∀C s0 H0 ex,PG (X.comp scope N' C s0 H0 ex) tg g)(ht:∀C s0 H0 ex,PF (X.comp scope N' C s0 H0 ex) Ys tt) (he:∀C s0 H0 ex,PE (X.comp scope N' C s0 H0 ex) YI te) (Zh:sB (.ListComp YI [⟨tg,iter,Ys,0⟩] scope pos) (Fa (.Name x px)) Zz.line X.env=pure pc) (hf:Lm X x:=by first|exact .inl Z'|exact .inr Z'|assumption) (hs:∀x,AT iter X.env x=pure x:=by intro _;rfl):
  PS X (.Assign [.Name x px] (.ListComp YI [⟨tg,iter,Ys,0⟩] scope pos) Zz) (OJ (MH ix wi g tt te) (JC i)):=by
 intro XQ s Y H D I h;rw[exec_Assign_Name_used _ _ _ _ Zh];refine cU (gP (cU ?_));show pi _ X.A (do let _<-comprehension (.ListComp YI [⟨tg,iter,Ys,0⟩] scope pos) scope X.env _ (newList []) lf (wp iter X.env) (Fa (assign (.Name x px) X.env))) _ _ s;refine cU (d9 (jK (use:=some (assign (.Name x px) X.env)) (Q:=λ_ s'=>SP X XQ D .next s') Z' hs (yH (S.cells I.ok)) S.kind S.nam
  (d9 (hi XQ s Y H _ I h) (λxv s₁ h₁=>d9 h₁ (λitv s₂ h₂=>?_) λ_ _ e=>e) λ_ _ e=>e)) (λ_ s' hq=>df (df hq)) λ_ _ e=>e)
 obtain⟨it,fp,tn,J,H2,e,I2,T,X6,f2,hw⟩:=h₂;subst e;refine BO (RR:=λacc C=>compPost (Tk X.prog X.w) X.A X.xe (Fa (assign (.Name x px) X.env)) (λ_ s'=>SP X XQ D .next s') acc C) hc S I2 T X6 f2 hg ht (XP:=λ_ _ _ _ _ _ _ _=>False) he (λ_ _ _ _ _ z=>by obtain⟨_,_,_,z⟩:=z;exact z.elim) hw λDa C s' H' m hCs hCn hn I3 q=>?_;show pi _ X.A (assign (.Name x px) X.env (.ref Da)) _ _ _;refine lq (DT I3 hN Z7 hx (v:=.ref Da) Z' (λs4 I4 ⟨a,sb,ha⟩=>?_) hf);have ca:C≠a:=λz=>by
  rcases ha with y|y
  .exact absurd (dN I2.lt hCs) (by rw[z,y];exact eZ _)
  .obtain⟨v,r⟩:=I2.cell x a y;exact absurd (dN r.lt hCs) (by rw[z];exact eZ _)
 exact⟨m,hn.sameBut sb ca,λh' hs'=>⟨_,H',I2.letGo I4 hCs hCn hs',q⟩⟩
end
def A8:typeLookup (.type "list") "__getattr__"=pure Db:=by rw[typeLookup_type,kc];kernel_rfl
def Fc:typeLookup (.type "list") "keys"=pure Db:=by rw[typeLookup_type,kc];kernel_rfl
section
variable {prog:Pg}{w:Wo}{A:Ar}{E:QQX}
def Oh(a:Uf)(u:Tok)(its:Array Vl)(n:Nat)(sl:Array (Option Vl)):
  Meets (Builtin.«object.__getattribute__» ⟨[.ref a,.str "keys" u],[]⟩) λA R s=>s.heap.get? a=Fa ⟨.type "list",Db,.seq its n,sl⟩/\A.handled=Db/\∀h' tk e,Heap.NewAttrErr s.heap h' e (.ref a) "keys"->R (.error (.ref e)) {s with heap:=h',toks:=tk}:=
 Meets.of_wp λprog w A R s hs=>by
  obtain⟨hp,g,d,tk,os⟩:=s;obtain⟨h1,h2,h3⟩:=hs;have hT:(⟨hp,g,d,tk,os⟩:Sd).TypeIs (.ref a) "list":=⟨_,h1,Z'⟩;have f1:=Fc;unfold Builtin.«object.__getattribute__»
  repeat (any_goals(first|assumption|wp_step))
  exact wpAny_raiseAttrError h2 h3 (attrMsg_fits (by decide+kernel) (by decide))
def FD{s:Sd}{a:Uf}{its:Array Vl}{n:Nat}{sl:Array (Option Vl)}{Q:Option Vl->Sd->Prop}(ha:s.heap.get? a=Fa ⟨.type "list",Db,.seq its n,sl⟩)(hA:A.handled=Db) (h:∀h' tk,(∀b o,s.heap.get? b=Fa o->h'.get? b=Fa o)->Q Db {s with heap:=h',toks:=tk}):pi (Tk prog w) A (getAttr? (.ref a) "keys") Q E s:=by
 obtain⟨hp,g,d,tk,os⟩:=s;have hT:(⟨hp,g,d,tk,os⟩:Sd).TypeIs (.ref a) "list":=⟨_,ha,Z'⟩;have f1:=sub_AttributeError;have f3:=im.lookup;have f4:=im.bind (.ref a);have f5:=A8;unfold getAttr? getAttrBy? getAttrBy
 repeat (any_goals(first|assumption|((with_reducible show pi _ _ (call (Value.builtin "list.__getattribute__") _ _) _ _ _);refine jx im hT F.entry_list_ga (F.args_list_getattribute_2 _ _) (Oh a _ its n sl) ⟨ha,hA,λh' tk' e hx=>?_⟩)|wp_step))
 obtain⟨t',u',he⟩:=hx.there;show pi _ _ (getattributeRaised _ _ _ _ _ _ _) _ _ _;unfold getattributeRaised
 repeat (any_goals(first|assumption|wp_step))
 all_goals first|exact h _ _ hx.keeps|skip
end
def AV:entryFor table "dict.update.loop"=Fa Builtin.«dict.update.loop»:=entryFor_of_tree (by kernel_rfl)
def vY:plainId "dict.update.loop"=pc:=by decide+kernel
section
variable {prog:Pg}{w:Wo}{A:Ar}{E:QQX}{R:Result→Sd→Prop}{κ:Type}[DecidableEq κ]{knd:PySem.KeyKind prog w κ}
 {I:Uf} {fp wr:QXQ} {G:Array GenState->Array GenState->Prop} {P:Nat->Vl->Prop} {St:Nat->Sd->Prop}
def OP{s:Sd}{t:Uf}{x y:Vl}{Q:T0 Vl->Sd->Prop}(h:s.heap.IsTuple t #[x,y])(q:Q [x,y] s):pi (Tk prog w) A (Builtin.Dict.pairItems (.ref t)) Q E s:=by
 obtain⟨⟨oc,od,oda,YL⟩,h1,h2,n,h3⟩:=h;simp only at h2 h3;subst h2 h3;have hT:s.TypeIs (.ref t) "tuple":=⟨_,h1,Z'⟩;obtain⟨hp,g,d,tk,os⟩:=s;unfold Builtin.Dict.pairItems
 repeat (any_goals(first|assumption|wp_step))
def Lj{all:T0 (κ×Vl)}(W:WalksS prog w A.in1 I fp wr G all.length P St)(d:Uf)(hdf:d∉fp)(kv:Nat->Vl)(tp:Nat->Uf)(hP:∀i v,P i v->v=.ref (tp i))(hw:∀j,j<all.length->tp j∉wr/\tp j≠d) (hk:∀j p,all[j]?=Fa p->knd.is p.1 (kv j)=pc) (hz:all.length<=Ch):
  ∀(k i:Nat) (z:Int) (s:Sd),all.length - i=k->i<=all.length->St i s->(∀j p,all[j]?=Fa p->s.heap.IsTuple (tp j) #[kv j,p.2])->s.heap.DictOf knd d (merged [] (all.take i))->
   (∀s',Moved (d::wr) G s s'->s'.heap.DictOf knd d (merged [] all)->R (.ok (.ret .none)) s')->XXj (Tk prog w) A (.builtin "dict.update.loop" ⟨[.ref d,.ref I,.int z 0,.none],[]⟩) R s:=by
 have hdw:d∉wr:=λh=>hdf (W.sub _ h);have ZA:∀b∈wr,b∈d::wr:=λb hb=>dC _ hb;intro k;induction k with
 | zero=>
  intro i z s hk0 hi Yf hT hD hR;have ZQ:i=all.length:=by omega
  subst ZQ;refine gS AV ?_;rw[hZ vY _];show pi _ A.in1 (pyNext (.ref I)>>=_) _ _ s;refine cU (W.done s _ _ Yf λs' hm=>?_);show pi _ A.in1 (Builtin.Dict.addKeywords d []>>=_) _ _ s';refine cU (df (df (hR s' (hm.mono ZA) ?_)));rw[fF]at hD;obtain⟨o,es,ep,ho,rest⟩:=hD;exact⟨o,es,ep,hm.heap d _ hdw ho,rest⟩
 | succ k ih=>
  intro i z s hk0 hi Yf hT hD hR;have X2:i<all.length:=by omega
  have Y4:all[i]?=Fa all[i]:=cV X2;refine gS AV ?_;rw[hZ vY _];show pi _ A.in1 (pyNext (.ref I)>>=_) _ _ s;refine cU (W.item i s _ _ X2 Yf λv s' hPv hst' hm=>?_);obtain rfl:=hP i v hPv;have hT':∀j p,all[j]?=Fa p->s'.heap.IsTuple (tp j) #[kv j,p.2]:=λj p e=>by obtain⟨o,h1,h2⟩:=hT j p e;exact⟨o,hm.heap _ _ (hw j (cX.mp e).1).1 h1,h2⟩
  have hD':s'.heap.DictOf knd d (merged [] (all.take i)):=by obtain⟨o,es,ep,ho,rest⟩:=hD;exact⟨o,es,ep,hm.heap d _ hdw ho,rest⟩
  show pi _ A.in1 (ZB [Value.ref (tp i)] _>>=_) _ _ s';refine cU (eB (cU (wpAny_tryCatch (OP (hT' i _ Y4) ?_))));show pi _ A.in1 (ZB [kv i,all[i].2] (dictSet d (kv i) all[i].2)) _ _ s';refine eB ?_;unfold dictSet;refine eB (cU (knd.pyHash (hk i _ Y4) ?_));have hl:(merged [] (all.take i)).length<=Ch:=by have:=merged_length_le [] (all.take i);rw[fL]at this;simp only[dH]at this;omega
  refine wpAny_dictSetHashed_pairs (hsz:=hl) (hk i _ Y4) hD' λh' dd hs=>?_;rw[<-merged_take_succ [] all i _ Y4]at dd;refine df ⟨kC vY _,ih (i+1) _ _ (by omega) X2 (W.frame _ s' _ _ hst' (gW _) λb hb o e=>?_) (λj p e=>?_) dd λs'' hm'' hD''=>?_⟩
  .rw[hs.2 b (λz:b=d=>hdf (z ▸ hb))];exact e
  .obtain⟨o,h1,h2⟩:=hT' j p e;refine⟨o,?_,h2⟩;show h'.get? (tp j)=Fa o;rw[hs.2 _ (hw j (cX.mp e).1).2];exact h1
  .refine hR s'' (mJ W.gtrans ((hm.mono ZA).then_heap (gW _) λb o hb e=>?_) hm'') hD'';rw[hs.2 b (λz:b=d=>hb (by rw[z];exact dG))];exact e
end
section
variable {prog:Pg}{w:Wo}{A:Ar}{E:QQX}{κ:Type}[DecidableEq κ]{knd:PySem.KeyKind prog w κ}{s:Sd}
def Bl{l:Uf}{its:Array Vl}{n:Nat}{sl:Array (Option Vl)}{all:T0 (κ×Vl)}{Q:QQX}(kv:Nat->Vl)(tp:Nat->Uf)(hh:A.handled=Db)(hl:s.heap.get? l=Fa ⟨.type "list",Db,.seq its n,sl⟩) (hits:∀(j:Nat) (v:Vl),its[j]?=Fa v->v=.ref (tp j)) (XY:its.size=all.length) (hT:∀j p,all[j]?=Fa p->s.heap.IsTuple (tp j) #[kv j,p.2]) (hk:∀j p,all[j]?=Fa p->knd.is p.1 (kv j)=pc) (hz:all.length<=Ch) (h:∀h' tk,h'.DictOf knd s.heap.objs.size (merged [] all)->(∀b o,s.heap.get? b=Fa o->h'.get? b=Fa o)->Q (.ref s.heap.objs.size) {s with heap:=h',toks:=tk}):
  pi (Tk prog w) A (call (.type "dict") [.ref l]) Q E s:=by
 refine callType_codes (Q₁:=λobj s₁=>obj=Value.ref s.heap.objs.size/\s₁={s with heap:=s.heap.push {cls:=.type "dict",data:=.dict #[]}}) PySem.F.kt_called_dict (PySem.F.kt_typeCall_dict_1 _) F.entry_dict_init (kt_code_dict_new _ ⟨Z',Z'⟩) ?_
 rintro obj s₁ ⟨rfl,rfl⟩
 have Zw:(s.heap.push {cls:=.type "dict",data:=.dict #[]}).DictOf knd s.heap.objs.size []:=Heap.DictOf.new s.heap;have hl':(s.heap.push {cls:=.type "dict",data:=.dict #[]}).get? l=Fa ⟨.type "list",Db,.seq its n,sl⟩:=cZ _ hl;have hTl:Shared.TypeIs {s with heap:=s.heap.push {cls:=.type "dict",data:=.dict #[]}} (.ref l) "list":=⟨_,hl',Z'⟩;have lsz:l<s.heap.objs.size:=dv hl;refine⟨Zw.typeIs,F.args_dict_init_2 _ _,?_⟩;unfold Builtin.«dict.__init__»;refine cU ?_;unfold Builtin.Dict.selfAndRest;refine cU (wpAny_notOrdered_dict Zw.typeIs ?_);show pi _ _ (pure (s.heap.objs.size,[Value.ref l])) _ _ _;refine df ?_;show pi _ _ (Builtin.Dict.updateFrom "dict.__init__" s.heap.objs.size (.ref l) [] .none) _ _ _;unfold Builtin.Dict.updateFrom;refine cU (jI hTl ?_);rw[c9 (by decide)];refine cU (FD hl' (by simpa using hh) λh' tk keep=>?_);have Z8:h'.IsList l its:=⟨_,keep _ _ hl',Z',n,Z'⟩;show pi _ _ (rule _>>=_) _ _ _;refine cU (kt (cU (gF Z8 ?_)));have nd:h'.objs.size>s.heap.objs.size:=by have z:h'.get? s.heap.objs.size=Fa _:=keep _ _ (dF _ Z');exact dv z
 have hDn:h'.DictOf knd s.heap.objs.size []:=by obtain⟨o,es,ep,ho,rest⟩:=Zw;exact⟨o,es,ep,keep _ _ ho,rest⟩
 have hTs:∀j p,all[j]?=Fa p->h'.IsTuple (tp j) #[kv j,p.2]:=λj p e=>by obtain⟨o,h1,h2⟩:=hT j p e;exact⟨o,keep _ _ (cZ _ h1),h2⟩
 have Yc:l≠h'.objs.size:=dE (il lsz nd);have W:=(ku (prog:=prog) (w:=w) (A:=A.in1.in1) (by simpa using hh) h'.objs.size l Yc its).toS;rw[XY]at W;refine df ⟨kC vY _,Lj (A:=A.in1) W s.heap.objs.size ?_ kv tp (λi v e=>hits i v e) (λj hj=>?_) hk hz all.length 0 0 _ (by omega) (eN _) ⟨⟨_,dF _ Z',Z',Z'⟩,Z8.push _⟩ (λj p e=>(hTs j p e).push _) ?_ λs' hm hD=>?_⟩
 .simp only[de,dA,eL,fJ];exact⟨dE nd,gL lsz⟩
 .have hj':all[j]?=Fa all[j]:=cV hj;obtain⟨o,h1,_⟩:=hT j _ hj';have tsz:=dv h1;simp only[de,dA,eL];exact⟨dE (il tsz nd),dE tsz⟩
 .obtain⟨o,es,ep,ho,rest⟩:=hDn;exact⟨o,es,ep,cZ _ ho,rest⟩
 .obtain⟨h2,g2,d2,t2,o2⟩:=s';have eg:g2=s.gens:=hm.gens;have ed:d2=s.drawn:=hm.drawn;have eo:o2=s.os:=hm.os;subst eg ed eo;refine⟨Z',h h2 t2 hD λb o e=>?_⟩;have hb:=dv e;refine hm.heap b o ?_ (cZ _ (keep _ _ (cZ _ e)));simp only[de,dA,eL,fJ];exact⟨dE hb,dE (il hb nd)⟩
end
noncomputable def tH{κ:Type}[DecidableEq κ](l:List κ):List κ:=l.foldl (λacc k=>if k∈acc then acc else acc++[k]) []
def yo{κ:Type}[DecidableEq κ](l:List κ)(k:κ):tH (l++[k])=if k∈tH l then tH l else tH l++[k]:=by unfold tH;rw[lz];rfl
def JS{κ:Type}[DecidableEq κ]:∀l:List κ,(tH l).length<=l.length:=by
 have go:∀(l acc:List κ),(l.foldl (λacc k=>if k∈acc then acc else acc++[k]) acc).length<=acc.length+l.length:=by
  intro l;induction l with
  | nil=>intro acc;simp
  | cons k r ih=>
   intro acc;rw[fV];refine dY (ih _) ?_;split
   .simp only[d6];omega
   .simp only[d6,cW,dH];omega
 intro l;have:=go l []
 simpa [tH]using this
def Nf{κ:Type}[DecidableEq κ](x:κ):∀l:List κ,x∈tH l↔x∈l:=by
 have go:∀(l acc:List κ),x∈l.foldl (λacc k=>if k∈acc then acc else acc++[k]) acc↔x∈acc\/x∈l:=by
  intro l;induction l with
  | nil=>intro acc;simp
  | cons k r ih=>
   intro acc;rw[fV,ih];by_cases h:k∈acc
   .rw[c9 h,de];constructor
    .rintro (z|z)
     .exact .inl z
     .exact .inr (.inr z)
    .rintro (z|z|z)
     .exact .inl z
     .subst z;exact .inl h
     .exact .inr z
   .rw[cY h,dQ,dg,de,or_assoc]
 intro l;have:=go l []
 simpa [tH]using this
def HP{κ:Type}[DecidableEq κ]:∀l:List κ,l.Nodup->tH l=l:=by
 have go:∀(l acc:List κ),(acc++l).Nodup->l.foldl (λacc k=>if k∈acc then acc else acc++[k]) acc=acc++l:=by
  intro l;induction l with
  | nil=>intro acc _;simp
  | cons k r ih=>
   intro acc h;have hk:k∉acc:=λz=>by rw[gm]at h;exact h.2.2 k z k dG Z'
   rw[fV,cY hk,ih]
   .rw[e9];rfl
   .rw[e9];exact h
 intro l h;have:=go l [] (by simpa using h)
 simpa [tH]using this
section
variable {prog:Pg}{w:Wo}{A:Ar}{E:QQX}{R:Result→Sd→Prop}{κ:Type}[DecidableEq κ][BEq κ][LawfulBEq κ]{knd:PySem.KeyKind prog w κ}
 {I:Uf} {fp wr:QXQ} {G:Array GenState->Array GenState->Prop} {P:Nat->Vl->Prop} {St:Nat->Sd->Prop}
def He{all:List κ}(W:WalksS prog w A.in1 I fp wr G all.length P St)(S:Uf)(hSf:S∉fp)(hval:∀i v k,P i v->all[i]?=Fa k->knd.is k v=pc/\v.scannable=pc)(hb:all.length+1<XXa):
  ∀(n i:Nat) (s:Sd),all.length - i=n->i<=all.length->St i s->s.heap.SetOf knd S (λx=>decide (x∈tH (all.take i))) (tH (all.take i)).length->
   (∀s',Moved (S::wr) G s s'->s'.heap.SetOf knd S (λx=>decide (x∈tH all)) (tH all).length->R (.ok (.ret .none)) s')->XXj (Tk prog w) A (.builtin "set.update.loop" ⟨[.ref S,.ref I],[]⟩) R s:=by
 have hSw:S∉wr:=λh=>hSf (W.sub _ h);have up:∀b∈wr,b∈S::wr:=λb hb=>dC _ hb;have kept:∀{s s':Sd} {T:κ->Bool} {m:Nat},Moved wr G s s'->s.heap.SetOf knd S T m->s'.heap.SetOf knd S T m:=λhm ⟨o,es,ep,t,ho,rest⟩=>⟨o,es,ep,t,hm.heap S _ hSw ho,rest⟩;intro n;induction n with
 | zero=>
  intro i s h0 hi Yf hS hR;obtain rfl:i=all.length:=by omega
  refine gS io ?_;rw[hZ gy _];rw[fF]at hS;exact cU (W.done s _ _ Yf λs' hm=>df (hR s' (hm.mono up) (kept hm hS)))
 | succ n ih=>
  intro i s h0 hi Yf hS hR;have X2:i<all.length:=by omega
  have Y4:all[i]?=Fa all[i]:=cV X2;refine gS io ?_;rw[hZ gy _];refine cU (W.item i s _ _ X2 Yf λv s' hP hst' hm=>?_);obtain⟨k1,k2⟩:=hval i v _ hP Y4;have ZC:=kept hm hS;show pi _ A.in1 (ZB [v] (setAdd S v)>>=_) _ _ s';refine cU (eB ?_);unfold setAdd;refine eB (cU (knd.pyHash k1 ?_));have room:(tH (all.take i)).length+1<XXa:=by have h1:=JS (all.take i);rw[fL]at h1;omega
  refine wpAny_setAddHashed_of (knd:=knd) (s:={s' with toks:=s'.toks+1}) k1 k2 ZC room λh' hsb hS2=>?_;have et:all.take (i+1)=all.take i++[all[i]]:=by rw[gG,Y4];rfl
  have hSi:h'.SetOf knd S (λx=>decide (x∈tH (all.take (i+1)))) (tH (all.take (i+1))).length:=by
   refine ip hS2 (λx=>?_) ?_
   .rw[et];by_cases XT:all[i]∈tH (all.take i)
    .rw[yo,c9 XT];by_cases hx:x=all[i]
     .subst hx;simp[XT]
     .simp[hx]
    .rw[yo,cY XT];by_cases hx:x=all[i]
     .subst hx;simp
     .simp[hx]
   .rw[et,yo];by_cases XT:all[i]∈tH (all.take i)
    .rw[c9 XT];simp[XT]
    .rw[cY XT];simp[XT]
  refine df ⟨kC gy _,ih (i+1) _ (by omega) X2 (W.frame _ s' _ _ hst' (gW _) λb hb o e=>?_) hSi λs'' hm'' hS''=>?_⟩
  .rw[hsb.2 b (λz:b=S=>hSf (z ▸ hb))];exact e
  .refine hR s'' (mJ W.gtrans ((hm.mono up).then_heap (gW _) λb o hb e=>?_) hm'') hS'';rw[hsb.2 b (λz:b=S=>hb (by rw[z];exact dG))];exact e
end
def EJ:isSubtype (.type "list") (.type "set")=pure lf:=by rw[jh];kernel_rfl
def Bc:isSubtype (.type "list") (.type "frozenset")=pure lf:=by rw[jh];kernel_rfl
section
variable {prog:Pg}{w:Wo}{A:Ar}{E:QQX}{κ:Type}[DecidableEq κ][BEq κ][LawfulBEq κ]{knd:PySem.KeyKind prog w κ}{s:Sd}
set_option maxHeartbeats 4000000 in
def DH{l:Uf}{XS:Array Vl}{all:List κ}{Q:QQX}(hh:A.handled=Db)(hl:s.heap.IsList l XS)(hn:XS.size=all.length)(hi:∀(i:Nat) (v:Vl) (k:κ),XS[i]?=Fa v->all[i]?=Fa k->knd.is k v=pc/\v.scannable=pc)(hb:all.length+1<XXa) (h:∀(h':No) (tk:Nat),h'.SetOf knd s.heap.objs.size (λx=>decide (x∈tH all)) (tH all).length->(∀b o,s.heap.get? b=Fa o->h'.get? b=Fa o)->Q (.ref s.heap.objs.size) {s with heap:=h',toks:=tk}):
  pi (Tk prog w) A (call (.type "set") [.ref l]) Q E s:=by
 obtain⟨c,tl,hmro⟩:=fu.mro;have hmade:=fu.made;have ZA:=fu.sub;refine hW (jX ?_);show pi _ _ (callAny (.type "set") _) _ _ _;refine df ⟨iq _ (by decide+kernel),gS lA ?_⟩;rw[kY (ke "set" [.ref l] []) Z'];have h1:=fu.notType;have h2:=fu.canCreate;have hct:=lU (.ref l)
 repeat (any_goals(first|assumption|wp_step))
 have fresh:∀Yj:Bool,(s.heap.push {cls:=.type "set",dict:=none,data:=.set #[] 0 (.fresh 0 0 Yj)}).get? s.heap.objs.size=Fa {cls:=.type "set",dict:=none,data:=.set #[] 0 (.fresh 0 0 Yj)}:=λYj=>dF _ Z';refine gj (code_set_new_1 (.ref l) (E:=E) (Q₁:=λobj s₁=>∃Yj:Bool,obj=Value.ref s.heap.objs.size/\s₁={s with heap:=s.heap.push {cls:=.type "set",dict:=none,data:=.set #[] 0 (.fresh 0 0 Yj)}}) λYj=>⟨Yj,Z',Z'⟩) λr s₁ hr=>?_;cases r with
 | error e=>exact hr
 | ok fl=>
  cases fl with
  | ret obj=>
   obtain⟨Yj,rfl,rfl⟩:=hr;have hS:=fresh Yj;have hT:Shared.TypeIs {s with heap:=s.heap.push {cls:=.type "set",dict:=none,data:=.set #[] 0 (.fresh 0 0 Yj)}} (.ref s.heap.objs.size) "set":=⟨_,hS,Z'⟩;have hli:=fu.init.lookup;have hbi:=fu.init.bind (.ref s.heap.objs.size)
   repeat (any_goals(first|assumption|wp_step))
   refine gj (h9 (R:=wants (λr s₂=>r=.none/\∃h' tk,s₂={s with heap:=h',toks:=tk}/\h'.SetOf knd s.heap.objs.size (λx=>decide (x∈tH all)) (tH all).length/\(∀b o,s.heap.get? b=Fa o->h'.get? b=Fa o)) E) fu.init.plain lV (lW hT ?_)) λr₂ s₂ hr₂=>?_
   .obtain⟨ol,hol,hcl,nl,hdl⟩:=hl;obtain⟨ocls,ZD,odata,Y5⟩:=ol;simp only at hcl hdl;subst hcl;subst hdl;have hol':(s.heap.push {cls:=.type "set",dict:=none,data:=.set #[] 0 (.fresh 0 0 Yj)}).get? l=Fa {cls:=.type "list",dict:=ZD,data:=.seq XS nl,slots:=Y5}:=cZ _ hol;have hsls:=EJ;have hslf:=Bc;have hnd:(Value.type "list"==Value.type "dict")=lf:=by decide
    have hl1:(s.heap.push {cls:=.type "set",dict:=none,data:=.set #[] 0 (.fresh 0 0 Yj)}).IsList l XS:=⟨_,hol',Z',nl,Z'⟩;unfold Builtin.«set.__init__» noKeywords Builtin.Frozenset.updateFrom;generalize hPI:pyIter=PI
    wp_walk
    subst hPI;refine gF hl1 ?_;refine cU (wpAny_runValue ?_);have lS:l<s.heap.objs.size:=dv hol;have hh3:A.in1.in1.in1.handled=Db:=by simp[hh]
    have lI:l≠(s.heap.push {cls:=.type "set",dict:=none,data:=.set #[] 0 (.fresh 0 0 Yj)}).objs.size:=by rw[fm];exact dE (fT lS)
    have W:=(ku (prog:=prog) (w:=w) hh3 _ l lI XS).toS;rw[hn]at W;refine He W s.heap.objs.size ?hf (λi v k e1 e2=>hi i v k e1 e2) hb all.length 0 _ (by omega) (eN _) ⟨⟨_,dF _ Z',Z',Z'⟩,(hl1.push _)⟩ ?h0 ?hR;case hf=>rw[fm];simp only[de,dA,eL,fJ];exact⟨dE (fE _),gL lS⟩
    case h0=>exact ip ((jl (knd:=knd) Yj).setOf (cZ _ hS) (by unfold XXa;omega)) (λ_=>rfl) Z'
    case hR=>intro s' hm ZC;obtain⟨h',g',d',tk',os'⟩:=s';have eg:g'=s.gens:=hm.gens;have ed:d'=s.drawn:=hm.drawn;have eo:os'=s.os:=hm.os;subst eg;subst ed;subst eo;refine df ?_;show pi _ _ (ret Value.none) _ _ _;refine df ⟨Z',h',tk',Z',ZC,λb o e=>?_⟩;have hb:=dv e;refine hm.heap b o ?_ (cZ _ (cZ _ e));rw[fm];simp only[de,dA,eL,fJ];exact⟨dE hb,dE (fT hb)⟩
   .cases r₂ with
    | error e=>exact hr₂
    | ok fl₂=>
     cases fl₂ with
     | ret r=>
      obtain⟨rfl,h',tk,rfl,ZC,hk'⟩:=hr₂
      repeat (any_goals(first|assumption|wp_step))
      exact h _ _ ZC hk'
     | _=>exact hr₂.elim
  | _=>exact hr.elim
end
def Dl:isSubtype (.type "tuple") (.type "set")=pure lf:=by rw[jh];kernel_rfl
def Ai:isSubtype (.type "tuple") (.type "frozenset")=pure lf:=by rw[jh];kernel_rfl
section
variable {prog:Pg}{w:Wo}{A:Ar}{E:QQX}{κ:Type}[DecidableEq κ][BEq κ][LawfulBEq κ]{knd:PySem.KeyKind prog w κ}{s:Sd}
set_option maxHeartbeats 4000000 in
def BU{l:Uf}{XS:Array Vl}{all:List κ}{Q:QQX}(hh:A.handled=Db)(hl:s.heap.IsTuple l XS)(hn:XS.size=all.length)(hi:∀(i:Nat) (v:Vl) (k:κ),XS[i]?=Fa v->all[i]?=Fa k->knd.is k v=pc/\v.scannable=pc)(hb:all.length+1<XXa) (h:∀(h':No) (tk:Nat),h'.SetOf knd s.heap.objs.size (λx=>decide (x∈tH all)) (tH all).length->(∀b o,s.heap.get? b=Fa o->h'.get? b=Fa o)->Q (.ref s.heap.objs.size) {s with heap:=h',toks:=tk}):
  pi (Tk prog w) A (call (.type "set") [.ref l]) Q E s:=by
 obtain⟨c,tl,hmro⟩:=fu.mro;have hmade:=fu.made;have ZA:=fu.sub;refine hW (jX ?_);show pi _ _ (callAny (.type "set") _) _ _ _;refine df ⟨iq _ (by decide+kernel),gS lA ?_⟩;rw[kY (ke "set" [.ref l] []) Z'];have h1:=fu.notType;have h2:=fu.canCreate;have hct:=lU (.ref l)
 repeat (any_goals(first|assumption|wp_step))
 have fresh:∀Yj:Bool,(s.heap.push {cls:=.type "set",dict:=none,data:=.set #[] 0 (.fresh 0 0 Yj)}).get? s.heap.objs.size=Fa {cls:=.type "set",dict:=none,data:=.set #[] 0 (.fresh 0 0 Yj)}:=λYj=>dF _ Z';refine gj (code_set_new_1 (.ref l) (E:=E) (Q₁:=λobj s₁=>∃Yj:Bool,obj=Value.ref s.heap.objs.size/\s₁={s with heap:=s.heap.push {cls:=.type "set",dict:=none,data:=.set #[] 0 (.fresh 0 0 Yj)}}) λYj=>⟨Yj,Z',Z'⟩) λr s₁ hr=>?_;cases r with
 | error e=>exact hr
 | ok fl=>
  cases fl with
  | ret obj=>
   obtain⟨Yj,rfl,rfl⟩:=hr;have hS:=fresh Yj;have hT:Shared.TypeIs {s with heap:=s.heap.push {cls:=.type "set",dict:=none,data:=.set #[] 0 (.fresh 0 0 Yj)}} (.ref s.heap.objs.size) "set":=⟨_,hS,Z'⟩;have hli:=fu.init.lookup;have hbi:=fu.init.bind (.ref s.heap.objs.size)
   repeat (any_goals(first|assumption|wp_step))
   refine gj (h9 (R:=wants (λr s₂=>r=.none/\∃h' tk,s₂={s with heap:=h',toks:=tk}/\h'.SetOf knd s.heap.objs.size (λx=>decide (x∈tH all)) (tH all).length/\(∀b o,s.heap.get? b=Fa o->h'.get? b=Fa o)) E) fu.init.plain lV (lW hT ?_)) λr₂ s₂ hr₂=>?_
   .obtain⟨ol,hol,hcl,nl,hdl⟩:=hl;obtain⟨ocls,ZD,odata,Y5⟩:=ol;simp only at hcl hdl;subst hcl;subst hdl;have hol':(s.heap.push {cls:=.type "set",dict:=none,data:=.set #[] 0 (.fresh 0 0 Yj)}).get? l=Fa {cls:=.type "tuple",dict:=ZD,data:=.seq XS nl,slots:=Y5}:=cZ _ hol;have hsls:=Dl;have hslf:=Ai;have hnd:(Value.type "tuple"==Value.type "dict")=lf:=by decide
    have hl1:(s.heap.push {cls:=.type "set",dict:=none,data:=.set #[] 0 (.fresh 0 0 Yj)}).IsTuple l XS:=⟨_,hol',Z',nl,Z'⟩;unfold Builtin.«set.__init__» noKeywords Builtin.Frozenset.updateFrom;generalize hPI:pyIter=PI
    wp_walk
    subst hPI;refine ir hl1 ?_;refine cU (wpAny_runValue ?_);have lS:l<s.heap.objs.size:=dv hol;have hh3:A.in1.in1.in1.handled=Db:=by simp[hh]
    have lI:l≠(s.heap.push {cls:=.type "set",dict:=none,data:=.set #[] 0 (.fresh 0 0 Yj)}).objs.size:=by rw[fm];exact dE (fT lS)
    have W:=(Walks.tuple (prog:=prog) (w:=w) hh3 _ l lI XS).toS;rw[hn]at W;refine He W s.heap.objs.size ?hf (λi v k e1 e2=>hi i v k e1 e2) hb all.length 0 _ (by omega) (eN _) ⟨⟨_,dF _ Z',Z',Z'⟩,(hl1.push _)⟩ ?h0 ?hR;case hf=>rw[fm];simp only[de,dA,eL,fJ];exact⟨dE (fE _),gL lS⟩
    case h0=>exact ip ((jl (knd:=knd) Yj).setOf (cZ _ hS) (by unfold XXa;omega)) (λ_=>rfl) Z'
    case hR=>intro s' hm ZC;obtain⟨h',g',d',tk',os'⟩:=s';have eg:g'=s.gens:=hm.gens;have ed:d'=s.drawn:=hm.drawn;have eo:os'=s.os:=hm.os;subst eg;subst ed;subst eo;refine df ?_;show pi _ _ (ret Value.none) _ _ _;refine df ⟨Z',h',tk',Z',ZC,λb o e=>?_⟩;have hb:=dv e;refine hm.heap b o ?_ (cZ _ (cZ _ e));rw[fm];simp only[de,dA,eL,fJ];exact⟨dE hb,dE (fT hb)⟩
   .cases r₂ with
    | error e=>exact hr₂
    | ok fl₂=>
     cases fl₂ with
     | ret r=>
      obtain⟨rfl,h',tk,rfl,ZC,hk'⟩:=hr₂
      repeat (any_goals(first|assumption|wp_step))
      exact h _ _ ZC hk'
     | _=>exact hr₂.elim
  | _=>exact hr.elim
end
end L2
namespace HT
open PySem PyProof.Rows
variable {prog:Pg}{w:Wo}{A:Ar}{E:QQX}{s:Sd}
def zN{t sl:Uf}{vl vu:Vl}{lo hi:Option Int}{Q:QQX}(ht:IsTup s.heap t XS)(hs:s.heap.IsSliceOf sl vl vu .none)(pl:IsPart vl lo)(pu:IsPart vu hi) (hw:tO XS.size 0 lo=0/\tO XS.size XS.size hi=XS.size) (h:Q (.ref t) s):pi (Tk prog w) A (XXf (.ref t) (.ref sl)) Q E s:=by
 obtain⟨os,hos,hcs,Y2⟩:=id hs;have hTs:s.TypeIs (.ref sl) "slice":=⟨os,hos,hcs⟩;unfold XXf
 try with_reducible refine eB ?_
 first|refine cU (df ?_)|skip
 refine cU (js ht.typeIs (by decide) ?_);refine cU (fK (name:=Str.ofString "__getitem__") ht.typeIs fB (fR fB ht.typeIs kG ?_ (kW _ _)));show pi _ _ (Builtin.Tuple.tupleItemsOf (.ref t)>>=_) _ _ s;refine cU (tupleItemsOf_ ht ?_);refine cU (jI hTs ?_);rw[c9 (by decide)];refine cU (wz hs pl pu ?_);have yes:(((tO XS.size 0 lo:Nat):Int)==0&&(1:Int)==1&&(tO XS.size XS.size hi - tO XS.size 0 lo)==XS.size)=pc:=by rw[hw.1,hw.2];simp
 show pi _ _ (if (((tO XS.size 0 lo:Nat):Int)==0&&(1:Int)==1&&(tO XS.size XS.size hi - tO XS.size 0 lo)==XS.size)=pc then _ else _) _ _ s;rw[c9 yes];have hT:=ht.typeIs;obtain⟨hp,g,d,tk,o⟩:=s
 repeat (any_goals(first|assumption|wp_step))
 exact⟨_,Z',df h⟩
end HT
namespace L2
variable {X:Cx}{p p2 pos ZE:Pos}{e:Go}{te:TE}
section
def We(K:qC):V->Option Int->Option Int->Hp->VK->Prop:=λx lo hi H Q=>∃a xs,x=.ref a/\vn K H a xs/\(HT.tO xs.length 0 lo=0/\HT.tO xs.length xs.length hi=xs.length)/\Q (.ref a) H
def Sv:Uh X (We X.K):=by
 intro XQ s Y H x v vl vu lo hi sl Q I rx hs pl pu h;obtain⟨a,xs,rfl,hx,hw,q⟩:=h;cases rx;obtain⟨its,r,ht,hz⟩:=I.tuple hx;have XY:its.toArray.size=xs.length:=by rw[dw];exact r.length.symm
 exact⟨"tuple",_,fB.lookup,ht.typeIs,HT.zN ht hs pl pu (by rw[XY];exact hw) ⟨.ref a,H,I,Z',q⟩⟩
local instance (priority:=5000) keyBEq:BEq rj:=instBEqOfDecidableEq
local instance (priority:=5000) keyLaw:LawfulBEq rj:=inferInstanceAs (LawfulBEq (Sum Int Str))
def P9(K:qC)(te:TE):TE:=λY H Q=>te Y H λx H1=>∃a,∃ss:QQQ,x=.ref a/\(zo K H1 a (ss.map V.str)\/vn K H1 a (ss.map V.str))/\ss.length+1<XXa/\Q (.int (tH ss).length) H1
def Ha{ss:QQQ}(r:qJ (ss.map V.str) us):us.length=ss.length/\∀(i:Nat) (v:Vl) (k:rj),us[i]?=Fa v->(ss.map λx=>(Sum.inr x:rj))[i]?=Fa k->(rL P w).is k v=pc/\v.scannable=pc:=by
 refine⟨by rw[<-r.length,cT],λi v k e1 e2=>?_⟩;rw[dD]at e2;cases q:ss[i]? with
 | none=>rw[q]at e2;cases e2
 | some x=>rw[q]at e2;cases e2;obtain⟨u,e3,t,rfl⟩:=r.get (i:=i) (x:=V.str x) (by rw[dD,q];rfl);rw[e3]at e1;cases e1;exact⟨AO P w x t,Z'⟩
def NQ{ss:QQQ}:(tH (ss.map λx=>(Sum.inr x:rj))).length=(tH ss).length:=by
 have go:∀(l acc:QQQ),(l.map λx=>(Sum.inr x:rj)).foldl (λacc k=>if k∈acc then acc else acc++[k]) (acc.map Sum.inr)=(l.foldl (λacc k=>if k∈acc then acc else acc++[k]) acc).map Sum.inr:=by
  intro l;induction l with
  | nil=>intro acc;rfl
  | cons k r ih=>
   intro acc;rw[dU,fV,fV];have hm:(Sum.inr k:rj)∈acc.map Sum.inr↔k∈acc:=by
    rw[dB];constructor
    .rintro ⟨y,h1,h2⟩;cases h2;exact h1
    .exact λh=>⟨k,h,Z'⟩
   by_cases h:k∈acc
   .rw[c9 h,c9 (hm.mpr h)];exact ih acc
   .rw[cY h,cY λz=>h (hm.mp z)];have:=ih (acc++[k]);rw[dM]at this;exact this
 have:=go ss [];unfold tH;rw[iP]at this;rw[this,cT]
def KP(hc:X.calm=pc)(he:PE X e te)(hg1:Gl X "len")(XT:X.mg "len"=Db)(hg2:Gl X "set")(Ya:X.mg "set"=Db)(b1:zn "len"=Fa (.builtin "len"))(b2:zn "set"=Fa (.type "set")) (hs:Tl [e] X.env=[(lf,wp e X.env)]:=by rfl):PE X (.Call (.Name "len" p) [.Call (.Name "set" p2) [e] [] ZE] [] pos) (P9 X.K te):=by
 intro XQ s Y H Q I h;refine fQ (xj I hg1 XT b1 ?_);refine gR ?_ Z' Z';show pi _ _ (spliced ((lf,wp (.Call (.Name "set" p2) [e] [] ZE) X.env)::xz pos (Tl [] X.env))) _ _ s;refine ik ?_;refine fQ (xj I hg2 Ya b2 ?_);refine fU ?_ hs Z';rw[hs];show pi _ _ (spliced ((lf,wp e X.env)::xz ZE (Tl [] X.env))) _ _ s;refine ik (sS (he XQ s Y H _ I h) λu s1 ⟨x,H1,I1,r1,a,ss,ex,hq,hb,q⟩=>iD ?_);subst ex;obtain rfl:u=Value.ref a:=r1;have YJ:(ss.map λx=>(Sum.inr x:rj)).length+1<XXa:=by rw[cT];exact hb
 have XW:∀(h':No) (tk:Nat),h'.SetOf (rL X.prog X.w) s1.heap.objs.size (λx=>decide (x∈tH (ss.map λx=>(Sum.inr x:rj)))) (tH (ss.map λx=>(Sum.inr x:rj))).length->(∀b o,s1.heap.get? b=Fa o->h'.get? b=Fa o)->
   pi (Tk X.prog X.w) X.A (spliced (xz pos (Tl [] X.env))) (λvs s₁=>pi (Tk X.prog X.w) X.A (call (.builtin "len") (.ref s1.heap.objs.size::vs)) (EP X XQ Y Q) X.xe s₁) X.xe {s1 with heap:=h',toks:=tk}:=λh' tk hS keep=>by
  refine iD ?_;obtain⟨o,es,ep,t,ho,hex,hd,_,_,hz,hf,hn⟩:=hS;have X2:(es.size:Int)<2 ^ 63:=by have:XXa=4096:=rfl;omega
  refine call_len_set ho hex hd hf X2 ?_;refine⟨.int es.size,H1,I1.kept keep,⟨_,Z'⟩,?_⟩;rw[hn,NQ];exact q
 rcases hq with hq|hq
 .obtain⟨its,r,pl,hz⟩:=I1.list hq;obtain⟨k1,k2⟩:=Ha (P:=X.prog) (w:=X.w) r;exact L2.DH (knd:=rL X.prog X.w) (all:=ss.map λx=>(Sum.inr x:rj)) (I1.ok.hd hc) pl.isList (by rw[dw,k1,cT]) (λi v k e1 e2=>k2 i v k (by simpa using e1) e2) YJ XW
 .obtain⟨its,r,pl,hz⟩:=I1.tuple hq;obtain⟨k1,k2⟩:=Ha (P:=X.prog) (w:=X.w) r;exact L2.BU (knd:=rL X.prog X.w) (all:=ss.map λx=>(Sum.inr x:rj)) (I1.ok.hd hc) pl (by rw[dw,k1,cT]) (λi v k e1 e2=>k2 i v k (by simpa using e1) e2) YJ XW
end
variable {XQ:T0 (Uf × Obj)}{Y:St}{H:Hp}{s:Sd}
theorem Eb(I:Inv X XQ Y H s):∀(ts:QXQ) (kvs:T0 (rj×V)),ts.length=kvs.length->(∀(j:Nat) (t:Uf) (p:rj×V),ts[j]?=Fa t->kvs[j]?=Fa p->vn X.K H t [kV p.1,p.2])->
  ∃(us:T0 Vl) (all:T0 (rj×Vl)),us.length=kvs.length/\KV kvs all/\∀(j:Nat) (t:Uf) (p:rj×Vl),ts[j]?=Fa t->all[j]?=Fa p->∃u,us[j]?=Fa u/\s.heap.IsTuple t #[u,p.2]/\(rL X.prog X.w).is p.1 u=pc
 | [],[],_,_=>⟨[],[],Z',.nil,λj t p e=>by simp at e⟩
 | [],_::_,h,_=>by simp at h
 | _::_,[],h,_=>by simp at h
 | t::ts,(k,v)::kvs,h,hq=>by
  obtain⟨us,all,h1,h2,h3⟩:=Eb I ts kvs (by simpa using h) (λj t p e1 e2=>hq (j+1) t p (by simpa using e1) (by simpa using e2));obtain⟨its,r,pl,_⟩:=I.tuple (hq 0 t (k,v) (by simp) (by simp));cases r with
  | cons r1 r2=>
   cases r2 with
   | cons r3 r4=>
    cases r4;rename_i u w;refine⟨u::us,(k,w)::all,by simpa using h1,.cons ⟨Z',r3⟩ h2,λj t' p e1 e2=>?_⟩;cases j with
    | zero=>
     have e1':t=t':=by simpa using e1
     have Z3:(k,w)=p:=by simpa using e2
     subst e1' Z3;exact⟨u,by simp,pl,Gi r1⟩
    | succ j=>simpa using h3 j t' p (by simpa using e1) (by simpa using e2)
theorem NA:∀{kvs:T0 (rj×V)} {all:T0 (rj×Vl)},KV kvs all->all.map (·.1)=kvs.map (·.1)
 | _,_,.nil=>rfl
 | _,_,.cons r rs=>by rw[dU,dU,NA rs,r.1]
def Il(hc:X.calm=pc):Ab X (.type "dict") (λxs H Q=>∃l,∃ts:QXQ,∃kvs:T0 (rj×V),xs=[V.ref l]/\zo X.K H l (ts.map V.ref)/\ts.length=kvs.length/\
  (∀(j:Nat) (t:Uf) (p:rj×V),ts[j]?=Fa t->kvs[j]?=Fa p->vn X.K H t [kV p.1,p.2])/\(kvs.map (·.1)).Nodup/\∀d,H d=Db->Q (.ref d) (upd H d (.dK kvs))):=by
 intro XQ s Y H xs us Q I r h;obtain⟨l,ts,kvs,rfl,hl,XY,hq,hnd,q⟩:=h;obtain⟨u,rfl,ru⟩:=yK r;cases ru;obtain⟨its,rv,⟨⟨c1,d1,t1,sl1⟩,n,g1,e1,e2,e3⟩,hz⟩:=I.list hl;simp only at e1 e2 e3;subst e1 e2 e3;obtain⟨ks,all,h1,h2,h3⟩:=Eb I ts kvs XY hq;have la:all.length=kvs.length:=(jp h2).symm;have li:its.length=kvs.length:=by rw[<-rv.length,cT,XY]
 have zl:all.length<=Ch:=by rw[la,<-XY];simpa using hz
 have at_:∀(j:Nat) (p:rj×Vl),all[j]?=Fa p->∃t,ts[j]?=Fa t:=λj p e=>by have:=(cX.mp e).1;exact⟨ts[j],cV (by omega)⟩
 refine Bl (knd:=rL X.prog X.w) (all:=all) (λj=>(ks[j]?).getD .none) (λj=>(ts[j]?).getD 0) (I.ok.hd hc) g1 (λj v e=>?_) (by rw[dw,li,la]) (λj p e=>?_) (λj p e=>?_) zl λh' tk hD keep=>?_
 .have e':its[j]?=Fa v:=by simpa using e
  have hj:=(cX.mp e').1;have hj2:j<ts.length:=by omega
  obtain⟨w,e4,e5⟩:=rv.get (i:=j) (x:=V.ref ts[j]) (by rw[dD,cV hj2];rfl);rw[e']at e4;cases e4;show v=Value.ref ((ts[j]?).getD 0);rw[cV hj2];exact e5
 .obtain⟨t,et⟩:=at_ j p e;obtain⟨u,e4,e5,_⟩:=h3 j t p et e;show s.heap.IsTuple ((ts[j]?).getD 0) #[(ks[j]?).getD .none,p.2];rw[et,e4];exact e5
 .obtain⟨t,et⟩:=at_ j p e;obtain⟨u,e4,_,e6⟩:=h3 j t p et e;show(rL X.prog X.w).is p.1 ((ks[j]?).getD .none)=pc;rw[e4];exact e6
 .rw[merged_nil_of_nodup all (by rw[NA h2];exact hnd)]at hD;have fr:=I.mW.fresh (dq s.heap.objs.size);exact⟨.ref s.heap.objs.size,_,I.laid (t':=tk) (o:=.dK kvs) keep (dq _) (Nu (by rw[<-la];exact zl) (gu.mpr (dO (dE I.big))) h2 hD),Z',q _ fr⟩
def WO:R2:=λx y H Q=>∃a v,x=.ref a/\Fj H a y (Fa v)/\Q v H
def O6(hu:X.A.units+1<Y'):Ub X WO:=by
 intro value X3 XQ s Y H x y o i Q I rx ry h hs;obtain⟨a,v,rfl,g,q⟩:=h;obtain rfl:o=Value.ref a:=rx;have hT:=G2 I g;have h2:pi (Tk X.prog X.w) X.A (XXf (.ref a) i) (EP X XQ Y Q) X.xe s:=KQ hu I g ry λw' s3 I3 Z1=>⟨v,H,I3,Z1,q⟩;unfold subscriptTail;refine cU ?_;rw[kg hT.not_modules];refine cU (iQ hT jy.lookup ?_);have XW:pi (Tk X.prog X.w) X.A (subscripted X3 lf (.ref a) i) (λr s₃=>pi (Tk X.prog X.w) X.A (letTemporaryGo value (.ref a) r>>=λ_=>pure r) (EP X XQ Y Q) X.xe s₃) X.xe s:=by rw[hs];exact wpAny_operating (d9 h2 (λr s₃ h₃=>cU (kx (df h₃))) λ_ _ x=>x)
 first
  | exact df (cU XW)
  | exact cU (df (cU XW))
  | exact cU XW
def RK(hu:X.A.units+1<Y'):yc X (Op .In) (λx y H Q=>∃a o,y=.ref a/\Fj H a x o/\Q (.bl o.isSome) H):=by intro XQ s Y H x y v u Q I rx ry h;obtain⟨a,o,rfl,g,q⟩:=h;obtain rfl:u=Value.ref a:=ry;exact WK hu I g rx λs3 I3=>⟨.bl o.isSome,H,I3,Z',q⟩
variable {prog:Pg}{w:Wo}{A:Ar}{E:QQX}{a:Uf}{U:Type}{k:Str}{tk:Tok}
section
variable {R:U→Vl→Prop}{D:T0 (Str × U)}
def zj(T:KTD.TabOf R s.heap a D):s.TypeIs (.ref a) "dict":=let⟨_,o,_,_,ho,hc,_⟩:=T;⟨o,ho,hc.1⟩
def J4{Q:Option Vl->Sd->Prop}(T:KTD.TabOf R s.heap a D)(h1:∀d v,KTD.datumAt k D=Fa d->R d v->Q (Fa v) {s with toks:=s.toks+1})(h2:KTD.datumAt k D=Db->Q Db {s with toks:=s.toks+1}):
  pi (Tk prog w) A (dictGet a (.str k tk)) Q E s:=by
 obtain⟨_,o,es,ep,ho,hc,hd,hr⟩:=T;have hq:Q (findBy (λk v=>v.isStr k) es k) {s with toks:=s.toks+1}:=by
  have hf:findBy (λk v=>v.isStr k) es k=(es.toList.find? λe=>e.key.isStr k).map (·.val):=by obtain⟨l⟩:=es;simp[findBy]
  rw[hf];cases hat:KTD.datumAt k D with
  | none=>rw[hr.find_none hat];exact h2 hat
  | some d=>obtain⟨v,hv,hfl⟩:=hr.find_some hat;rw[hv];exact h1 d v hat hfl
 have Yx:(es.all λe=>isExactStrKey e.key)=pc:=by
  obtain⟨l⟩:=es
  simpa using hr.exact
 unfold dictGet
 try with_reducible refine eB ?_
 refine cU (lL (cU (KTD.kt_dictFind_strs (s:={s with toks:=s.toks+1}) ho hd Yx ?_)));rw[findBy_of_findIdx?]at hq;cases hi:es.findIdx? λe=>e.key.isStr k with
 | none=>rw[hi]at hq;exact df hq
 | some i=>rw[hi]at hq;exact cU (wpAny_dictEntries (s:={s with toks:=s.toks+1}) ho hd (df hq))
def Sx{Q:QQX}(T:KTD.TabOf R s.heap a D)(h:Q (.bool (KTD.datumAt k D).isSome) {s with toks:=s.toks+1}):pi (Tk prog w) A (Op .In (.str k tk) (.ref a)) Q E s:=by
 have hT:=zj T;show pi _ _ (do return .bool (<-contains (.ref a) (.str k tk))) Q E s;refine cU ?_;unfold contains
 try with_reducible refine eB ?_
 refine cU (iQ hT jm.lookup ?_);show pi _ _ (if (Fa (Value.builtin "dict.__contains__")==Fa Value.none)=pc then _ else _) _ E s;rw[cY (by rw[beq_builtin_none];exact dz)];refine cU (wpAny_callSpecialUnlessNone?_slot (name:=Str.ofString "__contains__") hT jm (fR jm hT entry_dict_contains ?_ (args_dict_contains _ _)));show pi _ _ (dictGet a (.str k tk)>>=_) _ _ s;refine cU (J4 T (λd v ha _=>?_) λhn=>?_)
 .rw[ha]at h;show pi _ _ (ret (.bool pc)) _ _ _;exact df ⟨_,Z',fj (df h)⟩
 .rw[hn]at h;show pi _ _ (Builtin.Dict.pendingKey? a (.str k tk)>>=_) _ _ _;exact cU (wpAny_pendingKey_other T.1 (df ⟨_,Z',fj (df h)⟩))
def Ng{Q:QQX}{d:U}(T:KTD.TabOf R s.heap a D)(hd:KTD.datumAt k D=Fa d)(h:∀v,R d v->Q v {s with toks:=s.toks+1}):pi (Tk prog w) A (XXf (.ref a) (.str k tk)) Q E s:=by
 have hT:=zj T;unfold XXf
 try with_reducible refine eB ?_
 refine cU (js hT (by decide) ?_);refine cU (fK (name:=Str.ofString "__getitem__") hT lB (fR lB hT entry_dict_getitem ?_ (args_dict_getitem _ _)));show pi _ _ (dictGet a (.str k tk)>>=_) _ _ s;refine cU (J4 T (λd' v ha hv=>df ⟨v,Z',df (h v ?_)⟩) λhn=>?_)
 .rw[hd]at ha;cases ha;exact hv
 .rw[hd]at hn;cases hn
end
def LF(K:qC)(mg:QQZ)(x:Str)(F:T0 (Str×QQQ)):Prop:=∃a o es ep,mg x=Fa (.ref a)/\(a==XV)=lf/\K.lookup a=Fa o/\o.ExactDict/\o.data=.dict es ep/\
 KTD.Rows (λ(ss:QQQ) v=>∃t,v=Value.ref t/\vn K (λ_=>Db) t (ss.map V.str)) es.toList F
variable {x:Str}{F:T0 (Str × QQQ)}
def Jt{K:qC}(h:vn K (λ_=>Db) t xs):vn K H t xs:=by
 rcases h with(h|⟨o,h⟩)|h
 .cases h
 .cases h
 .exact .inr h
def Gv{K:qC}(T:LF K mg x F):∃a,mg x=Fa (.ref a)/\∀h:No,K.In h->KTD.TabOf (λ(ss:QQQ) v=>∃t,v=Value.ref t/\vn K (λ_=>Db) t (ss.map V.str)) h a F:=by obtain⟨a,o,es,ep,h1,h2,h3,h4,h5,h6⟩:=T;exact⟨a,h1,λh hk=>⟨h2,o,es,ep,hk a o h3,h4,h5,h6⟩⟩
noncomputable def W1(x:Str):It:=⟨λi _=>i<x.cps.size,λi H v H'=>H'=H/\∃c,x.cps[i]?=Fa c/\v=.str ⟨#[c]⟩,λi _=>i=x.cps.size⟩
def GA{K:qC}{ty:String}{x:Str}{t:Tok}(it:Uf)(W:∀A':Ar,A'.handled=Db->Walks P w A' it [it] [it] x.cps.size (SignAt x) (λi h=>h.IsStrIter it ty x t i)) (hself:∀(A:Ar) (i:Nat) (s:Sd) (Q:QQX) (E:QQX),s.heap.IsStrIter it ty x t i->Q (.ref it) s->pi (Tk P w) A (pyIter (.ref it)) Q E s) (hn:["enumerate","zip","dict_itemiterator","dict_reverseitemiterator","odict_iterator","itertools.zip_longest","itertools.pairwise"].contains ty=lf):Hk P w K tg (W1 x) [it] it (λi h=>h.IsStrIter it ty x t i) where
 mem:=by simp
 obj:=λi h st b hb=>by
  obtain rfl:b=it:=by simpa using hb
  obtain⟨o,e,c,d⟩:=st;exact⟨o,e,λv z=>by rw[d]at z;cases z⟩
 keep:=λi h h' st k=>by obtain⟨o,e,r⟩:=st;exact⟨o,k it (by simp) o e,r⟩
 item:=by intro X hP hw hK hc i XQ s Y H E I hf st hg;subst hP hw hK;obtain⟨f0,f1,f2,f3,f4,f5⟩:=hf it (by simp);refine(W X.A (I.ok.hd hc)).item i s _ _ hg st λv h' tk hv YG kp=>?_;obtain⟨c,u,e1,e2⟩:=hv;have I1:Inv X XQ Y H {s with heap:=h',toks:=tk}:=I.turned (t':=tk) (λb o hb e=>kp b o (by simpa using hb) e) f0 f1 f3 f4 f5;obtain⟨o,e,cl,d⟩:=id YG;exact⟨v,Z',JG (s:={s with heap:=h',toks:=tk}) e cl d hn ⟨.str ⟨#[c]⟩,H,I1,⟨u,e2⟩,⟨Z',c,e1,Z'⟩,YG,λb hb=>(hf b hb).1⟩⟩
 done:=by intro X hP hw hK hc i XQ s Y H E I hf st hg;subst hP hw hK;obtain⟨f0,f1,f2,f3,f4,f5⟩:=hf it (by simp);obtain rfl:i=x.cps.size:=hg;exact(W X.A (I.ok.hd hc)).done s _ _ st λh' tk kp=>⟨Z',I.turned (t':=tk) (λb o hb e=>kp b o (by simpa using hb) e) f0 f1 f3 f4 f5⟩
 self:=hself
variable {tg:Go}
def P7(hc:X.calm=pc)(hl:PE X l tl):PI X tg l (λY H R=>tl Y H λx H1=>(∃a,x=.ref a/\(((∃xs,zo X.K H1 a xs)/\R (V7 X.K a) H1)\/((∃xs,vn X.K H1 a xs)/\R (W' X.K a) H1)))\/∃z,x=.str z/\R (W1 z) H1):=by
 intro XQ s Y H R I h;refine sS (hl XQ s Y H _ I h) λv s1 zz=>x5 zz λx H1 I1 r1 q1=>?_;rcases q1 with⟨a,e,q1⟩|⟨z,e,q⟩
 .subst e;cases r1;rcases q1 with⟨⟨xs,hq⟩,q⟩|⟨⟨xs,hq⟩,q⟩
  .obtain⟨its,rv,p,hz⟩:=I1.list hq;refine gF p.isList ?_;refine⟨s1.heap.objs.size,[s1.heap.objs.size],_,_,H1,Z',I1.kept (t':=s1.toks) λb o e=>cZ _ e,KH a _,⟨_,dF _ Z',Z',Z'⟩,λb hb=>?_,q⟩;obtain rfl:b=s1.heap.objs.size:=by simpa using hb
   exact I1.og (dq _) (I1.mW.fresh (dq _))
  .obtain⟨its,rv,p,hz⟩:=I1.tuple hq;refine ir (show s1.heap.IsTuple a its.toArray from p) ?_;refine⟨s1.heap.objs.size,[s1.heap.objs.size],_,_,H1,Z',I1.kept (t':=s1.toks) λb o e=>cZ _ e,Ir a _,⟨_,dF _ Z',Z',Z'⟩,λb hb=>?_,q⟩;obtain rfl:b=s1.heap.objs.size:=by simpa using hb
   exact I1.og (dq _) (I1.mW.fresh (dq _))
 .subst e;obtain⟨t,rfl⟩:=r1;have fp:∀b∈[s1.heap.objs.size],Ba X XQ H1 b:=λb hb=>by
   obtain rfl:b=s1.heap.objs.size:=by simpa using hb
   exact I1.og (dq _) (I1.mW.fresh (dq _))
  cases ha:z.cps.all (·<128)
  .refine wpAny_pyIter_wide ha ?_;exact⟨s1.heap.objs.size,[s1.heap.objs.size],_,_,H1,Z',I1.kept (t':=s1.toks) λb o e=>cZ _ e,GA _ (λA' hA=>Walks.strWide hA _ z t) (λA i s Q E st h=>wpAny_pyIter_striter_wide st h) (by decide),⟨_,dF _ Z',Z',Z'⟩,fp,q⟩
  .refine wpAny_pyIter_ascii ha ?_;exact⟨s1.heap.objs.size,[s1.heap.objs.size],_,_,H1,Z',I1.kept (t':=s1.toks) λb o e=>cZ _ e,GA _ (λA' hA=>Walks.strAscii hA _ z t) (λA i s Q E st h=>wpAny_pyIter_striter_ascii st h) (by decide),⟨_,dF _ Z',Z',Z'⟩,fp,q⟩
end L2
namespace L2
inductive Bs{α0:Sort u}{α1:Sort v}(p:α0->α1->Prop):Prop
 | mk (a0:α0) (a1:α1) (h:p a0 a1):Bs p
inductive C9{α0:Sort u}{α1:Sort v}{α2:Sort w}(p:α0->α1->α2->Prop):Prop
 | mk (a0:α0) (a1:α1) (a2:α2) (h:p a0 a1 a2):C9 p
def x7{α:Sort u}{β:Sort v}{γ:Sort w}{p q r s:α->β->γ->Prop}{C:Prop}(h:C9 λa b c=>p a b c/\q a b c/\r a b c/\s a b c)(f:∀a b c,p a b c->q a b c->r a b c->s a b c->C):C:=by obtain⟨a,b,c,h1,h2,h3,h4⟩:=h;exact f a b c h1 h2 h3 h4
def Kj{α:Sort u}{β:Sort v}{γ:Sort w}{p q r s s1 s2 s3:α->β->γ->Prop}{C:Prop}(h:C9 λa b c=>p a b c/\q a b c/\r a b c/\s a b c/\s1 a b c/\s2 a b c/\s3 a b c)(f:∀a b c,p a b c->q a b c->r a b c->s a b c->s1 a b c->s2 a b c->s3 a b c->C):C:=by obtain⟨a,b,c,h1,h2,h3,h4,h5,h6,h7⟩:=h;exact f a b c h1 h2 h3 h4 h5 h6 h7
inductive Cg{α0:Sort u}{α1:Sort v}{α2:Sort w}{α3:Sort u1}(p:α0->α1->α2->α3->Prop):Prop
 | mk (a0:α0) (a1:α1) (a2:α2) (a3:α3) (h:p a0 a1 a2 a3):Cg p
inductive HA{α0:Sort u}{α1:Sort v}{α2:Sort w}{α3:Sort u1}{α4:Sort u2}(p:α0->α1->α2->α3->α4->Prop):Prop
 | mk (a0:α0) (a1:α1) (a2:α2) (a3:α3) (a4:α4) (h:p a0 a1 a2 a3 a4):HA p
inductive Kt{α0:Sort u}{α1:Sort v}{α2:Sort w}{α3:Sort u1}{α4:Sort u2}{α5:Sort u3}(p:α0->α1->α2->α3->α4->α5->Prop):Prop
 | mk (a0:α0) (a1:α1) (a2:α2) (a3:α3) (a4:α4) (a5:α5) (h:p a0 a1 a2 a3 a4 a5):Kt p
inductive Ud{α0:Sort u}{α1:Sort v}{α2:Sort w}{α3:Sort u1}{α4:Sort u2}{α5:Sort u3}{α6:Sort u4}(p:α0->α1->α2->α3->α4->α5->α6->Prop):Prop
 | mk (a0:α0) (a1:α1) (a2:α2) (a3:α3) (a4:α4) (a5:α5) (a6:α6) (h:p a0 a1 a2 a3 a4 a5 a6):Ud p
inductive T9{α0:Sort u}{α1:Sort v}{α2:Sort w}{α3:Sort u1}{α4:Sort u2}{α5:Sort u3}{α6:Sort u4}{α7:Sort u5}(p:α0->α1->α2->α3->α4->α5->α6->α7->Prop):Prop
 | mk (a0:α0) (a1:α1) (a2:α2) (a3:α3) (a4:α4) (a5:α5) (a6:α6) (a7:α7) (h:p a0 a1 a2 a3 a4 a5 a6 a7):T9 p
inductive Us{α0:Sort u}{α1:Sort v}{α2:Sort w}{α3:Sort u1}{α4:Sort u2}{α5:Sort u3}{α6:Sort u4}{α7:Sort u5}{α8:Sort u6}(p:α0->α1->α2->α3->α4->α5->α6->α7->α8->Prop):Prop
 | mk (a0:α0) (a1:α1) (a2:α2) (a3:α3) (a4:α4) (a5:α5) (a6:α6) (a7:α7) (a8:α8) (h:p a0 a1 a2 a3 a4 a5 a6 a7 a8):Us p
inductive NV{α0:Sort u}{α1:Sort v}{α2:Sort w}{α3:Sort u1}{α4:Sort u2}{α5:Sort u3}{α6:Sort u4}{α7:Sort u5}{α8:Sort u6}{α9:Sort u7}(p:α0->α1->α2->α3->α4->α5->α6->α7->α8->α9->Prop):Prop
 | mk (a0:α0) (a1:α1) (a2:α2) (a3:α3) (a4:α4) (a5:α5) (a6:α6) (a7:α7) (a8:α8) (a9:α9) (h:p a0 a1 a2 a3 a4 a5 a6 a7 a8 a9):NV p
inductive W7{α0:Sort u}{α1:Sort v}{α2:Sort w}{α3:Sort u1}{α4:Sort u2}{α5:Sort u3}{α6:Sort u4}{α7:Sort u5}{α8:Sort u6}{α9:Sort u7}{α10:Sort u8}(p:α0->α1->α2->α3->α4->α5->α6->α7->α8->α9->α10->Prop):Prop
 | mk (a0:α0) (a1:α1) (a2:α2) (a3:α3) (a4:α4) (a5:α5) (a6:α6) (a7:α7) (a8:α8) (a9:α9) (pF:α10) (h:p a0 a1 a2 a3 a4 a5 a6 a7 a8 a9 pF):W7 p
inductive WM{α0:Sort u}{α1:Sort v}{α2:Sort w}{α3:Sort u1}{α4:Sort u2}{α5:Sort u3}{α6:Sort u4}{α7:Sort u5}{α8:Sort u6}{α9:Sort u7}{α10:Sort u8}{α11:Sort u9}(p:α0->α1->α2->α3->α4->α5->α6->α7->α8->α9->α10->α11->Prop):Prop
 | mk (a0:α0) (a1:α1) (a2:α2) (a3:α3) (a4:α4) (a5:α5) (a6:α6) (a7:α7) (a8:α8) (a9:α9) (pF:α10) (a11:α11) (h:p a0 a1 a2 a3 a4 a5 a6 a7 a8 a9 pF a11):WM p
end L2
namespace L2
open PySem
def Uk(a C:Uf)(h:No):Prop:=Bs λoe vs=>h.get? a=Fa oe/\oe.cls=.ref C/\oe.data=.fields vs/\oe.dict=Db
end L2
namespace L3
open L2
inductive D where
 | mS|bl (b:Bool)|int (i:Int)|str (x:Str)|tup (ds:List D)|ref (a:Uf)|ty (n:String)
 | rl (ds:List D)
def QK(K:qC)(H:Hp)(a:Uf)(xs:T0 V):Prop:=(∃o,H a=Fa (.frz o (.lst xs)))\/
 ∃(o:Obj) (its:Array Vl) (n:Nat),K.lookup a=Fa o/\o.cls=.type "list"/\o.dict=Db/\o.data=.seq its n/\its.size<=Ch/\qJ xs its.toList
def QK.sq{K:qC}(h:QK K H a xs):zo K H a xs:=by
 rcases h with⟨o,h⟩|h
 .exact .inl (.inr ⟨o,h⟩)
 .exact .inr h
mutual
def rZ(K:qC)(H:Hp):D->V->Prop
 | .mS,v=>v=.mS
 | .bl b,v=>v=.bl b
 | .int i,v=>v=.int i
 | .str x,v=>v=.str x
 | .ref a,v=>v=.ref a
 | .ty n,v=>v=.ty n
 | .tup ds,v=>∃a xs,v=.ref a/\vn K H a xs/\qy K H ds xs
 | .rl ds,v=>∃a xs,v=.ref a/\QK K H a xs/\qy K H ds xs
def qy(K:qC)(H:Hp):T0 D->T0 V->Prop
 | [],xs=>xs=[]
 | d::ds,xs=>∃x r,xs=x::r/\rZ K H d x/\qy K H ds r
end
structure qY(K:qC)(H H':Hp):Prop where
 t:∀a xs,vn K H a xs->vn K H' a xs
 f:∀a o xs,H a=Fa (.frz o (.lst xs))->H' a=Fa (.frz o (.lst xs))
def qY.refl{K:qC}:qY K H H:=⟨λ_ _ h=>h,λ_ _ _ h=>h⟩
def qY.trans{K:qC}(a:qY K H H1)(b:qY K H1 H2):qY K H H2:=⟨λc xs h=>b.t c xs (a.t c xs h),λc o xs h=>b.f c o xs (a.f c o xs h)⟩
def qY.upd{K:qC}(h:∀xs,¬Rd H p (.tup xs))(h':∀u xs,H p≠Fa (.frz u (.lst xs))):qY K H (upd H p o):=⟨λa xs q=>by
 rcases q with q|q
 .have ne:a≠p:=λz=>h xs (z ▸ q);rcases q with q|⟨u,q⟩
  .exact .inl (.inl (by rw[qh ne];exact q))
  .exact .inl (.inr ⟨u,by rw[qh ne];exact q⟩)
 .exact .inr q,λa u xs q=>by
 have ne:a≠p:=λz=>h' u xs (z ▸ q);rw[qh ne];exact q⟩
def qY.new{K:qC}{H:Hp}{p:Uf}(h:H p=Db):qY K H (L2.upd H p o):=.upd (λxs q=>by
 rcases q with q|⟨u,q⟩<;>(rw[h]at q;cases q)) λu xs q=>by rw[h]at q;cases q
def QK.mono{K:qC}(e:qY K H H')(h:QK K H a xs):QK K H' a xs:=by
 rcases h with⟨o,h⟩|h
 .exact .inl ⟨o,e.f a o xs h⟩
 .exact .inr h
mutual
theorem rZ.mono{K:qC}(e:qY K H H'):∀{d:D} {v:V},rZ K H d v->rZ K H' d v
 | .mS,_,h=>h
 | .bl _,_,h=>h
 | .int _,_,h=>h
 | .str _,_,h=>h
 | .ref _,_,h=>h
 | .ty _,_,h=>h
 | .tup ds,v,h=>by unfold rZ at h ⊢;obtain⟨a,xs,e1,e2,e3⟩:=h;exact⟨a,xs,e1,e.t _ _ e2,qy.mono e e3⟩
 | .rl ds,v,h=>by unfold rZ at h ⊢;obtain⟨a,xs,e1,e2,e3⟩:=h;exact⟨a,xs,e1,e2.mono e,qy.mono e e3⟩
theorem qy.mono{K:qC}(e:qY K H H'):∀{ds:T0 D} {xs:T0 V},qy K H ds xs->qy K H' ds xs
 | [],_,h=>h
 | d::ds,xs,h=>by unfold qy at h ⊢;obtain⟨x,r,e1,e2,e3⟩:=h;exact⟨x,r,e1,rZ.mono e e2,qy.mono e e3⟩
end
variable {K:qC}{H H':Hp}
def qy.nil:qy K H [] []:=by unfold qy;rfl
def qy.cons(a:rZ K H d x)(b:qy K H ds xs):qy K H (d::ds) (x::xs):=by unfold qy;exact⟨x,xs,Z',a,b⟩
def qy.inv{d:D}{ds:T0 D}(h:qy K H (d::ds) xs):∃x r,xs=x::r/\rZ K H d x/\qy K H ds r:=by unfold qy at h;exact h
def qy.nil_inv(h:qy K H [] xs):xs=[]:=by unfold qy at h;exact h
theorem qy.length:∀{ds:T0 D} {xs:T0 V},qy K H ds xs->ds.length=xs.length
 | [],_,h=>by rw[h.nil_inv];rfl
 | d::ds,_,h=>by obtain⟨x,r,rfl,_,e⟩:=h.inv;simp[qy.length e]
theorem qy.get:∀{ds:T0 D} {xs:T0 V} {i:Nat} {d:D},qy K H ds xs->ds[i]?=Fa d->∃x,xs[i]?=Fa x/\rZ K H d x
 | [],_,_,_,_,e=>by simp at e
 | d::ds,_,0,_,h,e=>by obtain⟨x,r,rfl,a,_⟩:=h.inv;simp at e;subst e;exact⟨x,by simp,a⟩
 | d::ds,_,i+1,_,h,e=>by obtain⟨x,r,rfl,_,b⟩:=h.inv;obtain⟨y,e1,e2⟩:=qy.get b (by simpa using e);exact⟨y,by simpa using e1,e2⟩
theorem qy.append:∀{ds es:T0 D} {xs ys:T0 V},qy K H ds xs->qy K H es ys->qy K H (ds++es) (xs++ys)
 | [],_,_,_,h,g=>by rw[h.nil_inv];exact g
 | d::ds,_,_,_,h,g=>by obtain⟨x,r,rfl,a,b⟩:=h.inv;exact .cons a (qy.append b g)
theorem qy.take:∀{ds:T0 D} {xs:T0 V} (n:Nat),qy K H ds xs->qy K H (ds.take n) (xs.take n)
 | _,_,0,_=>by simp only[List.take_zero];exact .nil
 | [],_,n+1,h=>by rw[h.nil_inv];exact .nil
 | d::ds,_,n+1,h=>by obtain⟨x,r,rfl,a,b⟩:=h.inv;exact .cons a (qy.take n b)
theorem qy.drop:∀{ds:T0 D} {xs:T0 V} (n:Nat),qy K H ds xs->qy K H (ds.drop n) (xs.drop n)
 | _,_,0,h=>h
 | [],_,n+1,h=>by rw[h.nil_inv];exact .nil
 | d::ds,_,n+1,h=>by obtain⟨x,r,rfl,a,b⟩:=h.inv;exact qy.drop n b
def qy.snoc(h:qy K H ds xs)(a:rZ K H d x):qy K H (ds++[d]) (xs++[x]):=h.append (.cons a .nil)
theorem qy.ints:∀{ns:T0 Int},qy K H (ns.map D.int) (ns.map V.int)
 | []=>.nil
 | n::r=>.cons (by unfold rZ;rfl) qy.ints
def rZ.tup(q:vn K H a xs)(h:qy K H ds xs):rZ K H (.tup ds) (.ref a):=by unfold rZ;exact⟨a,xs,Z',q,h⟩
def rZ.mU{ds:T0 D}(h:rZ K H (.tup ds) v):∃a xs,v=.ref a/\vn K H a xs/\qy K H ds xs:=by unfold rZ at h;exact h
def rZ.ni{ds:T0 D}(h:rZ K H (.rl ds) v):∃a xs,v=.ref a/\QK K H a xs/\qy K H ds xs:=by unfold rZ at h;exact h
def rZ.int{i:Int}:rZ K H (.int i) (.int i):=by unfold rZ;rfl
def rZ.bl{i:Bool}:rZ K H (.bl i) (.bl i):=by unfold rZ;rfl
def rZ.str{i:Str}:rZ K H (.str i) (.str i):=by unfold rZ;rfl
def rZ.ref{i:Uf}:rZ K H (.ref i) (.ref i):=by unfold rZ;rfl
def rZ.mS:rZ K H .mS .mS:=by unfold rZ;rfl
def rZ.int_inv{i:Int}(h:rZ K H (.int i) v):v=.int i:=by unfold rZ at h;exact h
def rZ.mR{i:Bool}(h:rZ K H (.bl i) v):v=.bl i:=by unfold rZ at h;exact h
def rZ.str_inv{i:Str}(h:rZ K H (.str i) v):v=.str i:=by unfold rZ at h;exact h
def rZ.mO{i:Uf}(h:rZ K H (.ref i) v):v=.ref i:=by unfold rZ at h;exact h
def rZ.nZ{i:String}(h:rZ K H (.ty i) v):v=.ty i:=by unfold rZ at h;exact h
def rZ.mQ{v:V}(h:rZ K H .mS v):v=.mS:=by unfold rZ at h;exact h
inductive vd where
 | lst (ds:List D)
 | ins (C:Uf) (fs:List (Str×D))
 | dk (kvs:List (rj×D))
 | exc (C:Uf)
abbrev Mp:=Uf->Option vd
noncomputable def pP(M:Mp)(a:Uf)(c:vd):Mp:=λb=>if b=a then Fa c else M b
def qa:pP M a c a=Fa c:=by unfold pP;rw[c9 Z']
def ut{a b:Uf}(h:b≠a):pP M a c b=M b:=by unfold pP;rw[cY h]
def rX:pP (pP M a c) a d=pP M a d:=by funext b;unfold pP;split<;>rfl
def Pe{M:Mp}{a b:Uf}{c:vd}(h:M a=Fa c)(h':M b=Db):a≠b:=by intro e;subst e;rw[h]at h';cases h'
def CH(K:qC)(H:Hp)(fs:T0 (Str×D))(vs:T0 (Str×V)):Prop:=vs.map (·.1)=fs.map (·.1)/\qy K H (fs.map (·.2)) (vs.map (·.2))
def xT(K:qC)(H:Hp)(a:Uf):vd->Prop
 | .lst ds=>∃xs,H a=Fa (.lst xs)/\qy K H ds xs
 | .ins C fs=>∃dx vs,H a=Fa (.ins C dx vs)/\Cls K C/\(∀f,f∈fs.map (·.1)->ux K C f)/\CH K H fs vs
 | .dk kvs=>∃vs,H a=Fa (.dK vs)/\vs.map (·.1)=kvs.map (·.1)/\qy K H (kvs.map (·.2)) (vs.map (·.2))
 | .exc C=>H a=Fa (.ext (Uk a C))
def HM(K:qC)(H:Hp)(M:Mp):Prop:=∀a c,M a=Fa c->xT K H a c
variable {M:Mp}
def CH.mono(e:qY K H H')(h:CH K H fs vs):CH K H' fs vs:=⟨h.1,h.2.mono e⟩
def xT.keep(e:qY K H H')(k:H' a=H a)(h:xT K H a c):xT K H' a c:=by
 cases c with
 | lst ds=>obtain⟨xs,e1,e2⟩:=h;exact⟨xs,by rw[k];exact e1,e2.mono e⟩
 | ins C fs=>obtain⟨dx,vs,e1,c,n,e2⟩:=h;exact⟨dx,vs,by rw[k];exact e1,c,n,e2.mono e⟩
 | dk kvs=>obtain⟨vs,e1,e2,e3⟩:=h;exact⟨vs,by rw[k];exact e1,e2,e3.mono e⟩
 | exc C=>exact k.trans h
def xT.there(h:xT K H a c):∃o,H a=Fa o/\(∀xs,¬Rd H a (.tup xs))/\∀u xs,H a≠Fa (.frz u (.lst xs)):=by
 have go:∀o,H a=Fa o->(∀xs,o≠.tup xs)->(∀u v,o≠.frz u v)->∃o,H a=Fa o/\(∀xs,¬Rd H a (.tup xs))/\∀u xs,H a≠Fa (.frz u (.lst xs)):=λo e n1 n2=>⟨o,e,λxs q=>by
  rcases q with q|⟨u,q⟩
  .rw[e]at q;exact n1 xs (dh q)
  .rw[e]at q;exact n2 u _ (dh q),λu xs q=>by rw[e]at q;exact n2 u _ (dh q)⟩
 cases c with
 | lst ds=>obtain⟨xs,e1,e2⟩:=h;exact go _ e1 (λ_ z=>by cases z) λ_ _ z=>by cases z
 | ins C fs=>obtain⟨dx,vs,e1,e2⟩:=h;exact go _ e1 (λ_ z=>by cases z) λ_ _ z=>by cases z
 | dk kvs=>obtain⟨vs,e1,e2,e3⟩:=h;exact go _ e1 (λ_ z=>by cases z) λ_ _ z=>by cases z
 | exc C=>exact go _ h (λ_ z=>by cases z) λ_ _ z=>by cases z
def HM.fresh(h:HM K H M){p:Uf}(n:H p=Db):M p=Db:=by
 cases e:M p with
 | none=>rfl
 | some c=>obtain⟨o,q,_⟩:=(h p c e).there;rw[n]at q;cases q
def HM.keep(h:HM K H M)(e:qY K H H')(k:∀a c,M a=Fa c->H' a=H a):HM K H' M:=λa c q=>(h a c q).keep e (k a c q)
def HM.add(h:HM K H M){p:Uf}{o:HO}(n:H p=Db):HM K (upd H p o) M:=h.keep (.new n) λa c q=>by obtain⟨u,e,_⟩:=(h a c q).there;rw[qh (qZ e n)]
def HM.new(h:HM K H M){p:Uf}{o:HO}{c:vd}(n:H p=Db)(ok:xT K (upd H p o) p c):HM K (upd H p o) (pP M p c):=λa d q=>by
 by_cases e:a=p
 .subst e;rw[qa]at q;cases q;exact ok
 .rw[ut e]at q;exact h.add n a d q
def HM.put(h:HM K H M){p:Uf}{o:HO}{c c0:vd}(e0:M p=Fa c0)(ok:qY K H (upd H p o)->xT K (upd H p o) p c):HM K (upd H p o) (pP M p c)/\qY K H (upd H p o):=by
 obtain⟨u,eu,nt,nf⟩:=(h p c0 e0).there;have x:qY K H (upd H p o):=.upd nt nf;refine⟨λa d q=>?_,x⟩;by_cases e:a=p
 .subst e;rw[qa]at q;cases q;exact ok x
 .rw[ut e]at q;exact(h a d q).keep x (qh e)
abbrev St:=L2.St
abbrev vt:=T0 (Option D)
abbrev DK:=D->Mp->Prop
abbrev T3:=vt->Mp->DK->Prop
abbrev AM:=vt->Mp->(Bool->Mp->Prop)->Prop
abbrev xI:=vt->Mp->(T0 D->Mp->Prop)->Prop
structure Hl where
 nx:vt->Mp->Prop
 rt:DK
 bk:vt->Mp->Prop:=λ_ _=>False
 ct:vt->Mp->Prop:=λ_ _=>False
abbrev xC:=Hl->vt->Mp->Prop
def zk(K:qC)(H:Hp)(Y:St)(U:vt):Prop:=∀(i:Nat) (d:D),U[i]?=Fa (Fa d)->∃v,Y[i]?=Fa (Fa v)/\rZ K H d v
def zk.mono{K:qC}(e:qY K H H')(h:zk K H Y U):zk K H' Y U:=λi d q=>by obtain⟨v,e1,e2⟩:=h i d q;exact⟨v,e1,e2.mono e⟩
def zk.set{K:qC}{i:Nat}(h:zk K H Y U)(hv:rZ K H d v)(hi:i<Y.length):zk K H (Y.set i (Fa v)) (U.set i (Fa d)):=λj e q=>by
 by_cases hj:j=i
 .subst hj;rw[eM hi];by_cases hl:j<U.length
  .rw[eM hl]at q;cases q;exact⟨v,Z',hv⟩
  .rw[gB (by simpa using hl)]at q;cases q
 .rw[eQ (dO hj)]at q ⊢;exact h j e q
def lo(K:qC)(t:T3):TE:=λY H Q'=>C9 λU M Q=>zk K H Y U/\HM K H M/\t U M Q/\∀v H' d M',rZ K H' d v->HM K H' M'->qY K H H'->Q d M'->Q' v H'
def T8(K:qC)(t:AM):TT:=λY H Q'=>C9 λU M Q=>zk K H Y U/\HM K H M/\t U M Q/\∀b H' M',HM K H' M'->qY K H H'->Q b M'->Q' b H'
def Xh(K:qC)(t:xI):TA:=λY H Q'=>C9 λU M Q=>zk K H Y U/\HM K H M/\t U M Q/\∀vs H' ds M',qy K H' ds vs->HM K H' M'->qY K H H'->Q ds M'->Q' vs H'
def WU(K:qC)(t:xC):TS:=λD' Y H=>C9 λU M D=>zk K H Y U/\HM K H M/\t D U M/\(∀σ' H' δ' M',zk K H' σ' δ'->HM K H' M'->qY K H H'->σ'.length=Y.length->D.nx δ' M'->D'.nx σ' H')/\
 (∀v H' d M',rZ K H' d v->HM K H' M'->qY K H H'->D.rt d M'->D'.rt v H')/\(∀σ' H' δ' M',zk K H' σ' δ'->HM K H' M'->qY K H H'->σ'.length=Y.length->D.bk δ' M'->D'.bk σ' H')/\
 (∀σ' H' δ' M',zk K H' σ' δ'->HM K H' M'->qY K H H'->σ'.length=Y.length->D.ct δ' M'->D'.ct σ' H')
def E3(X:Cx)(e:Go)(t:T3):Prop:=PE X e (lo X.K t)
def B3(X:Cx)(e:Go)(t:AM):Prop:=PT X e (T8 X.K t)
def A3(X:Cx)(es:T0 Go)(t:xI):Prop:=PA X es (Xh X.K t)
def S3(X:Cx)(st:TD)(t:xC):Prop:=PS X st (WU X.K t)
def IP(X:Cx)(st:T0 TD)(t:xC):Prop:=CS X st (WU X.K t)
def PE.mono{t t':TE}(h:PE X e t)(m:∀Y H Q,t' Y H Q->t Y H Q):PE X e t':=λXQ s Y H Q I q=>h XQ s Y H Q I (m Y H Q q)
def PT.mono{t t':TT}(h:PT X e t)(m:∀Y H Q,t' Y H Q->t Y H Q):PT X e t':=λXQ s Y H Q I q=>h XQ s Y H Q I (m Y H Q q)
def PA.mono{t t':TA}(h:PA X e t)(m:∀Y H Q,t' Y H Q->t Y H Q):PA X e t':=λpos XQ s Y H Q I q=>h pos XQ s Y H Q I (m Y H Q q)
def PS.mono{t t':TS}(h:PS X e t)(m:∀D Y H,t' D Y H->t D Y H):PS X e t':=λXQ s Y H D I q=>h XQ s Y H D I (m D Y H q)
def CS.mono{t t':TS}(h:CS X e t)(m:∀D Y H,t' D Y H->t D Y H):CS X e t':=λXQ s Y H D I q=>h XQ s Y H D I (m D Y H q)
def PS.nX{t t':TS}(h:PS X e t)(m:∀D Y H,Y.length=X.N.length->t' D Y H->t D Y H):PS X e t':=λXQ s Y H D I q=>h XQ s Y H D I (m D Y H I.len q)
def vZ{K:qC}{Q':VK}{Q:DK}(x:qY K H H1)(f:∀v H' d M',rZ K H' d v->HM K H' M'->qY K H H'->Q d M'->Q' v H'):∀v H' d M',rZ K H' d v->HM K H' M'->qY K H1 H'->Q d M'->Q' v H':=
 λv H' d M' a b c e=>f v H' d M' a b (x.trans c) e
variable {X:Cx}{pos:Pos}
def v3(i:Nat):T3:=λU M Q=>(U.getD i Db).elim False λd=>Q d M
def Lf{U:vt}{i:Nat}{P:D->Prop}(h:(U.getD i Db).elim False P):∃d,U[i]?=Fa (Fa d)/\P d:=by
 cases e:U[i]? with
 | none=>rw[fN,e]at h;exact h.elim
 | some o=>
  rw[fN,e]at h;cases o with
  | none=>exact h.elim
  | some d=>exact⟨d,Z',h⟩
def TC(i:Nat){x:Str}(h:PE X (.Name x pos) (F7 i)):E3 X (.Name x pos) (v3 i):=PE.mono h λY H Q' zz=>x7 zz λU M Q hs hm ht k=>by obtain⟨d,e,q⟩:=Lf ht;obtain⟨v,e1,e2⟩:=hs i d e;exact⟨v,e1,k v H d M e2 hm .refl q⟩
def c3(d:D):T3:=λ_ M Q=>Q d M
def pK{i j}:E3 X (.Constant (.int i) j pos) (c3 (.int i)):=PE.mono T6 λY H Q' zz=>x7 zz λU M Q hs hm ht k=>k _ H _ M .int hm .refl ht
def xt{i j}:E3 X (.Constant (.bool i) j pos) (c3 (.bl i)):=PE.mono Vw λY H Q' zz=>x7 zz λU M Q hs hm ht k=>k _ H _ M .bl hm .refl ht
def pL{i j}:E3 X (.Constant (.str i) j pos) (c3 (.str i)):=PE.mono R6 λY H Q' zz=>x7 zz λU M Q hs hm ht k=>k _ H _ M .str hm .refl ht
def sD{j}:E3 X (.Constant .none j pos) (c3 .mS):=PE.mono R8 λY H Q' zz=>x7 zz λU M Q hs hm ht k=>k _ H _ M .mS hm .refl ht
def Rq{n:String}(hg:Gl X x)(hm:X.mg x=Db)(hv:zn x=Fa (.type n))(hn:x≠"__name__":=by decide)(hd:zb x:=by decide):E3 X (.Name x pos) (c3 (.ty n)):=
 PE.mono (OX (v:=.ty n) hg hm hv Z' hn hd) λY H Q' zz=>x7 zz λU M Q hs hm ht k=>k _ H _ M (by unfold rZ;rfl) hm .refl ht
noncomputable def pA(M:Mp)(a:Uf):Option (T0 D):=match M a with
 | some (.lst ds)=>Fa ds
 | _=>Db
noncomputable def yP(x:Str)(n:Int):Str:=⟨(List.replicate n.toNat x.cps).foldl (·++·) #[]⟩
def VT(op:XYb)(x y:D)(M:Mp)(Q:DK):Prop:=match op,x,y with
 | .Add,.int i,.int j=>Q (.int (i+j)) M
 | .Add,.str i,.str j=>i.length+j.length<=Ch/\Q (.str (i++j)) M
 | .Add,.tup i,.tup j=>i≠[]/\i.length+j.length<=Ch/\Q (.tup (i++j)) M
 | .Add,.ref a,.ref b=>(pA M a).elim False λi=>(pA M b).elim False λj=>i.length+j.length<=Ch/\∀p,M p=Db->Q (.ref p) (pP M p (.lst (i++j)))
 | .Add,.rl i,.ref b=>(pA M b).elim False λj=>i.length+j.length<=Ch/\∀p,M p=Db->Q (.ref p) (pP M p (.lst (i++j)))
 | .Sub,.int i,.int j=>Q (.int (i - j)) M
 | .Mult,.int i,.int j=>Dn i j/\Q (.int (i*j)) M
 | .Mult,.str i,.int j=>(j<4096/\-4096<j/\i.length<4096)/\Q (.str (yP i j)) M
 | .FloorDiv,.int i,.int j=>UC i j/\Q (.int (i / j)) M
 | .Mod,.int i,.int j=>0<j/\Q (.int (i % j)) M
 | _,_,_=>False
def o3(op:XYb)(ta tb:T3):T3:=λU M Q=>ta U M λx M1=>tb U M1 λy M2=>VT op x y M2 Q
def Up(K:qC)(H:Hp)(Q':VK)(Q:DK):Prop:=∀v H' d M',rZ K H' d v->HM K H' M'->qY K H H'->Q d M'->Q' v H'
variable {ta tb:T3}
section
def qD{K:qC}{ds:T0 D}(hm:HM K H M)(h:pA M a=Fa ds):∃xs,zo K H a xs/\qy K H ds xs/\Rd H a (.lst xs):=by
 unfold pA at h;cases e:M a with
 | none=>rw[e]at h;cases h
 | some c=>
  rw[e]at h;have ok:=hm a c e;cases c with
  | lst es=>cases h;obtain⟨xs,e1,e2⟩:=ok;exact⟨xs,.inl (.inl e1),e2,.inl e1⟩
  | ins _ _=>cases h
  | dk _=>cases h
  | exc _=>cases h
def rc{α:Type}{o:Option α}{P:α->Prop}(h:o.elim False P):∃a,o=Fa a/\P a:=by
 cases o with
 | none=>exact h.elim
 | some a=>exact⟨a,Z',h⟩
def Jo:yc X (wP .Add) (λx y H Q=>∃l b xs zs,x=.ref l/\y=.ref b/\zo X.K H l xs/\zo X.K H b zs/\xs.length+zs.length<=Ch/\∀p,H p=Db->Q (.ref p) (upd H p (.lst (xs++zs)))):=by
 intro XQ s Y H x y v u Q I rx ry h;obtain⟨l,b,xs,zs,rfl,rfl,hH,hB,hz,q⟩:=h;cases rx;cases ry;obtain⟨its,r,⟨⟨c1,d1,t1,sl1⟩,n,g1,e1,_,f1⟩,_⟩:=I.list hH;obtain⟨ZR,r2,⟨⟨c2,d2,t2,sl2⟩,m,g2,e2,_,f2⟩,_⟩:=I.list hB;simp only at e1 f1 e2 f2;subst e1 f1 e2 f2;have hl:=r.length;have Z8:=r2.length;refine kU ⟨_,g1,Z'⟩ ⟨_,g2,Z'⟩ noFill_list_add seq_list_add PySem.F.slot_list_add PySem.F.entry_list_add (PySem.F.args_list_add_2 _ _) (list_addW l b its.toArray ZR.toArray n m d1 d2 sl1 sl2 (by rw[dw,dw];omega)) ⟨g1,g2,?_⟩;have ea:its.toArray++ZR.toArray=(its++ZR).toArray:=by simp
 rw[ea];exact⟨.ref _,_,I.pj (t':=s.toks) (r.append r2) (by rw[cW];omega),Z',q _ I.fresh⟩
def Jy(x:Array Nat):∀k,((List.replicate k x).foldl (·++·) #[]:Array Nat).size=k*x.size:=by
 have go:∀(k:Nat) (acc:Array Nat),((List.replicate k x).foldl (·++·) acc).size=acc.size+k*x.size:=by
  intro k;induction k with
  | zero=>intro acc;simp
  | succ k ih=>intro acc;rw[eG,fV,ih,Array.size_append,mC];omega
 intro k;rw[go];simp
def PX:yc X (wP .Mult) (λx y H Q=>∃i j,x=.str i/\y=.int j/\(j<4096/\-4096<j/\i.length<4096)/\Q (.str (yP i j)) H):=by
 intro XQ s Y H x y v u Q I rx ry h;obtain⟨i,j,rfl,rfl,⟨h1,h2,h3⟩,q⟩:=h;obtain⟨t,rfl⟩:=rx;obtain⟨t',rfl⟩:=ry;refine PySem.P.mul_str ?_ ?_ ?_ ?_
 .rw[eP (by omega),eP (by omega)];rfl
 .intro h0 _;have:(4096:Int)<=(2 ^ 63 - 1) / j:=by
   have:(4096:Int)*j<=2 ^ 63 - 1:=by omega
   exact(Int.le_ediv_iff_mul_le (by omega)).mpr this
  omega
 .intro h0 _;have hm:i.length*j.toNat<=4096*4096:=kh (by omega) (by omega);have hz:=dI;unfold Builtin.Str.tooLong;exact eP (by omega)
 .by_cases h0:j<1
  .rw[c9 h0];have e:yP i j=Str.empty:=by unfold yP;rw[show j.toNat=0 by omega];rfl
   rw[e]at q;exact⟨by decide,⟨.str Str.empty,H,I.tok _,⟨_,Z'⟩,q⟩⟩
  .rw[cY h0];by_cases hj:(j==1||i.length==0)=pc
   .rw[c9 hj];have e:yP i j=i:=by
     have hj':j=1\/i.length=0:=by simpa using hj
     unfold yP;rcases hj' with z|z
     .subst z;show(⟨#[]++i.cps⟩:Str)=i;simp
     .have ec:i.cps=#[]:=Array.size_eq_zero_iff.mp z;have er:∀k:Nat,((List.replicate k (#[]:Array Nat)).foldl (·++·) #[]:Array Nat)=#[]:=by
       intro k;induction k with
       | zero=>rfl
       | succ k ih=>rw[eG,fV];simpa using ih
      rw[ec,er,<-ec]
    rw[e]at q;exact⟨.str i,H,I,⟨t,Z'⟩,q⟩
   .rw[cY hj];refine⟨?_,⟨.str _,H,I.tok _,⟨_,Z'⟩,q⟩⟩;have hz:=dI;have hm:j.toNat*i.length<=4096*4096:=kh (by omega) (by omega);show((List.replicate j.toNat i.cps).foldl (·++·) #[]:Array Nat).size<=_;rw[Jy];have Zi:j.toNat*i.cps.size<=4096*4096:=hm;omega
def R3(K:qC)(f:D->D->Mp->DK->Prop):R2:=λvx vy H Q'=>Cg λx y M Q=>rZ K H x vx/\rZ K H y vy/\HM K H M/\f x y M Q/\Up K H Q' Q
def XF(op:XYb):yc X (wP op) (R3 X.K (VT op)):=by
 intro XQ s Y H vx vy v u Q' I rx ry h;obtain⟨x,y,M,Q,hx,hy,hm,q,k⟩:=h;unfold VT at q;split at q
 .cases hx.int_inv;cases hy.int_inv;exact TQ XQ s Y H _ _ v u Q' I rx ry ⟨_,_,Z',Z',k _ _ _ _ .int hm .refl q⟩
 .cases hx.str_inv;cases hy.str_inv;exact HE XQ s Y H _ _ v u Q' I rx ry ⟨_,_,Z',Z',q.1,k _ _ _ _ .str hm .refl q.2⟩
 .rename_i i j;obtain⟨q1,q2,q3⟩:=q;obtain⟨a,xs,rfl,ha,Zo⟩:=hx.mU;obtain⟨b,ys,rfl,hb,YJ⟩:=hy.mU;have l1:=Zo.length;have l2:=YJ.length;refine Qa XQ s Y H _ _ v u Q' I rx ry ⟨a,b,xs,ys,Z',Z',ha,hb,λz=>q1 (by rw[z]at l1;exact gq.mp l1),by omega,λz=>?_,λz p hp=>?_⟩
  .refine k _ _ _ _ (.tup ha ?_) hm .refl q3;rw[z]at YJ;have e0:j=[]:=gq.mp (by simpa using YJ.length);rw[e0,eR];exact Zo
  .have e:qY X.K H (upd H p (.tup (xs++ys))):=.new hp;exact k _ _ _ _ (.tup (.of qw) ((Zo.append YJ).mono e)) (hm.add hp) e q3
 .obtain⟨i,ei,q⟩:=rc q;obtain⟨j,ej,q1,q2⟩:=rc q;cases hx.mO;cases hy.mO;obtain⟨xs,rx',hxs,_⟩:=qD hm ei;obtain⟨ys,ry',hys,_⟩:=qD hm ej;have l1:=hxs.length;have l2:=hys.length;refine Jo XQ s Y H _ _ v u Q' I rx ry ⟨_,_,xs,ys,Z',Z',rx',ry',by omega,λp hp=>?_⟩;have e:qY X.K H (upd H p (.lst (xs++ys))):=.new hp;exact k _ _ _ _ .ref (hm.new (c:=.lst (i++j)) hp ⟨_,qw,(hxs.append hys).mono e⟩) e (q2 p (hm.fresh hp))
 .obtain⟨j,ej,q1,q2⟩:=rc q;obtain⟨l,xs,rfl,rx',hxs⟩:=hx.ni;cases hy.mO;obtain⟨ys,ry',hys,_⟩:=qD hm ej;have l1:=hxs.length;have l2:=hys.length;refine Jo XQ s Y H _ _ v u Q' I rx ry ⟨_,_,xs,ys,Z',Z',rx'.sq,ry',by omega,λp hp=>?_⟩;have e:qY X.K H (upd H p (.lst (xs++ys))):=.new hp;exact k _ _ _ _ .ref (hm.new (c:=.lst (_++j)) hp ⟨_,qw,(hxs.append hys).mono e⟩) e (q2 p (hm.fresh hp))
 .cases hx.int_inv;cases hy.int_inv;exact TJ XQ s Y H _ _ v u Q' I rx ry ⟨_,_,Z',Z',k _ _ _ _ .int hm .refl q⟩
 .cases hx.int_inv;cases hy.int_inv;exact T1 XQ s Y H _ _ v u Q' I rx ry ⟨_,_,Z',Z',q.1,k _ _ _ _ .int hm .refl q.2⟩
 .cases hx.str_inv;cases hy.int_inv;exact PX XQ s Y H _ _ v u Q' I rx ry ⟨_,_,Z',Z',q.1,k _ _ _ _ .str hm .refl q.2⟩
 .cases hx.int_inv;cases hy.int_inv;exact QD XQ s Y H _ _ v u Q' I rx ry ⟨_,_,Z',Z',q.1,k _ _ _ _ .int hm .refl q.2⟩
 .cases hx.int_inv;cases hy.int_inv;exact R5 XQ s Y H _ _ v u Q' I rx ry ⟨_,_,Z',Z',q.1,k _ _ _ _ .int hm .refl q.2⟩
 .exact q.elim
variable {a b:Go}
def Ik{f:D->D->Mp->DK->Prop}:∀Y H Q',lo X.K (λU M Q=>ta U M λx M1=>tb U M1 λy M2=>f x y M2 Q) Y H Q'->Vk (R3 X.K f) (lo X.K ta) (lo X.K tb) Y H Q':=λY H Q' zz=>x7 zz λU M Q hs hm ht k=>⟨U,M,_,hs,hm,ht,λv H1 x M1 hx XT e1 q1=>⟨U,M1,_,hs.mono e1,XT,q1,λu H2 y M2 hy Ya e2 q2=>⟨x,y,M2,Q,hx.mono e2,hy,Ya,q2,vZ (e1.trans e2) k⟩⟩⟩
def qm(ha:E3 X a ta)(hb:E3 X b tb):E3 X (.BinOp a op b pos) (o3 op ta tb):=PE.mono (RG (XF op) ha hb) Ik
end
noncomputable def tw(f:D->D->Option Bool):T0 D->T0 D->Option Bool
 | x::a,y::b=>(f x y).bind λp=>(tw f a b).map λq=>p&&q
 | _,_=>Fa pc
noncomputable def za(M:Mp):Nat->D->D->Option Bool
 | 0,_,_=>Db
 | n+1,x,y=>match x,y with
  | .mS,.mS=>Fa pc
  | .bl a,.bl b=>Fa (a==b)
  | .int a,.int b=>Fa (a==b)
  | .str a,.str b=>Fa (a==b)
  | .mS,.bl _=>Fa lf
  | .mS,.int _=>Fa lf
  | .mS,.str _=>Fa lf
  | .bl _,.mS=>Fa lf
  | .bl _,.str _=>Fa lf
  | .int _,.mS=>Fa lf
  | .int _,.str _=>Fa lf
  | .str _,.mS=>Fa lf
  | .str _,.bl _=>Fa lf
  | .str _,.int _=>Fa lf
  | .tup a,.tup b=>(tw (za M n) a b).map λp=>p&&a.length==b.length
  | .ref a,.ref b=>(pA M a).bind λi=>(pA M b).bind λj=>if i.length=j.length then tw (za M n) i j else Fa lf
  | _,_=>Db
variable {XQ:T0 (Uf × Obj)}{Y:St}{s:Sd}
theorem yZ{f:D->D->Option Bool}:∀{ds es:T0 D} {xs:T0 V} {b:Bool},qy X.K H ds xs->qy X.K H es xs->(∀x y v b,rZ X.K H x v->rZ X.K H y v->f x y=Fa b->b=pc)->tw f ds es=Fa b->b=pc
 | [],[],_,_,_,_,_,e=>(dh e).symm
 | [],_::_,_,_,h,g,_,_=>by have h1:=h.length;have h2:=g.length;rw[<-h1]at h2;simp at h2
 | _::_,[],_,_,h,g,_,_=>by have h1:=h.length;have h2:=g.length;rw[<-h1]at h2;simp at h2
 | d::ds,e::es,xs,b,h,g,k,q=>by
  obtain⟨x,r,rfl,h1,h2⟩:=h.inv;obtain⟨x',r',e',g1,g2⟩:=g.inv;cases e';unfold tw at q;cases p1:f d e with
  | none=>rw[p1]at q;cases q
  | some b1=>
   rw[p1]at q;cases p2:tw f ds es with
   | none=>rw[p2]at q;cases q
   | some b2=>rw[p2]at q;have q':(b1&&b2)=b:=dh q;rw[<-q',k _ _ _ _ h1 g1 p1,yZ h2 g2 k p2];rfl
theorem zU(I:Inv X XQ Y H s)(hm:HM X.K H M):∀(n:Nat) (x y:D) (v:V) (b:Bool),rZ X.K H x v->rZ X.K H y v->za M n x y=Fa b->b=pc
 | 0,_,_,_,_,_,_,e=>by cases e
 | n+1,x,y,v,b,hx,hy,e=>by
  unfold za at e;split at e
  .exact(dh e).symm
  .rw[hx.mR]at hy;cases hy.mR;exact(dh e).symm.trans (by simp)
  .rw[hx.int_inv]at hy;cases hy.int_inv;exact(dh e).symm.trans (by simp)
  .rw[hx.str_inv]at hy;cases hy.str_inv;exact(dh e).symm.trans (by simp)
  .rw[hx.mQ]at hy;cases hy.mR
  .rw[hx.mQ]at hy;cases hy.int_inv
  .rw[hx.mQ]at hy;cases hy.str_inv
  .rw[hx.mR]at hy;cases hy.mQ
  .rw[hx.mR]at hy;cases hy.str_inv
  .rw[hx.int_inv]at hy;cases hy.mQ
  .rw[hx.int_inv]at hy;cases hy.str_inv
  .rw[hx.str_inv]at hy;cases hy.mQ
  .rw[hx.str_inv]at hy;cases hy.mR
  .rw[hx.str_inv]at hy;cases hy.int_inv
  .obtain⟨a,xs,rfl,h1,h2⟩:=hx.mU;obtain⟨a',ys,e',g1,g2⟩:=hy.mU;cases e';rw[I.nv g1 h1]at g2;cases p:tw (za M n) _ _ with
   | none=>rw[p]at e;cases e
   | some b1=>rw[p]at e;have e':=dh e;rw[<-e',yZ h2 g2 (zU I hm n) p,h2.length,g2.length];simp
  .rw[hx.mO]at hy;cases hy.mO;cases p:pA M _ with
   | none=>rw[p]at e;cases e
   | some i=>rw[p]at e;have e:(if i.length=i.length then tw (za M n) i i else Fa lf)=Fa b:=e;rw[c9 Z']at e;obtain⟨xs,_,h2,_⟩:=qD hm p;exact yZ h2 h2 (zU I hm n) e
  .cases e
theorem Cf{A:Ar}:∀{ds es:T0 D} {xs ys:T0 V} {us ws:T0 Vl} {b:Bool},tw f ds es=Fa b->qy X.K H ds xs->qy X.K H es ys->qJ xs us->qJ ys ws->
  (∀x y b vx vy u w,f x y=Fa b->rZ X.K H x vx->rZ X.K H y vy->qR vx u->qR vy w->SeqAt.EqAt A s u w b)->
  ∃e:Nat->Bool,(∀j (h1:j<us.length) (h2:j<ws.length),SeqAt.EqAt A s us[j] ws[j] (e j))/\(List.range (min us.length ws.length)).all e=b
 | [],es,xs,ys,us,ws,b,q,hx,hy,rx,ry,k=>by
  have e1:=hx.nil_inv;subst e1;cases rx;refine⟨λ_=>pc,λj h1=>absurd h1 (by simp),?_⟩;have q':Fa pc=Fa b:=by cases es<;>exact q
  simpa using(dh q')
 | d::ds,[],xs,ys,us,ws,b,q,hx,hy,rx,ry,k=>by
  have e1:=hy.nil_inv;subst e1;cases ry;refine⟨λ_=>pc,λj _ h2=>absurd h2 (by simp),?_⟩;have q':Fa pc=Fa b:=q
  simpa using(dh q')
 | d::ds,e::es,xs,ys,us,ws,b,q,hx,hy,rx,ry,k=>by
  obtain⟨x,r,rfl,h1,h2⟩:=hx.inv;obtain⟨y,r',rfl,g1,g2⟩:=hy.inv;cases rx with
  | cons r1 r2=>
   cases ry with
   | cons t1 t2=>
    unfold tw at q;cases p1:f d e with
    | none=>rw[p1]at q;cases q
    | some b1=>
     rw[p1]at q;cases p2:tw f ds es with
     | none=>rw[p2]at q;cases q
     | some b2=>
      rw[p2]at q;have q':(b1&&b2)=b:=dh q;obtain⟨e',he,ha⟩:=Cf p2 h2 g2 r2 t2 k;refine⟨λj=>match j with|0=>b1|j+1=>e' j,λj l1 l2=>?_,?_⟩
      .cases j with
       | zero=>exact k _ _ _ _ _ _ _ p1 h1 g1 r1 t1
       | succ j=>exact he j (by simpa using l1) (by simpa using l2)
      .rw[<-q',<-ha];simp only[d6];rw[Nat.succ_min_succ,j7,eX,jL];rfl
theorem EW(I:Inv X XQ Y H s)(hm:HM X.K H M):∀(n:Nat) (A:Ar) (x y:D) (b:Bool) (vx vy:V) (u w:Vl),A.units+n<Y'->za M n x y=Fa b->rZ X.K H x vx->rZ X.K H y vy->qR vx u->qR vy w->
  SeqAt.RcAt A s u w b/\SeqAt.EqAt A s u w b/\SeqAt.RcNeAt A s u w (!b)
 | 0,_,_,_,_,_,_,_,_,_,e,_,_,_,_=>by cases e
 | n+1,A,x,y,b,vx,vy,u,w,hu,e,hx,hy,rx,ry=>by
  have hu1:A.units<Y':=by omega
  have hui:A.in1.units+n<Y':=by show A.units+1+n<Y';omega
  unfold za at e;split at e
  .cases hx.mQ;cases hy.mQ;cases rx;cases ry;cases e;exact⟨.none_none,.same _,.none_none⟩
  .cases hx.mR;cases hy.mR;cases rx;cases ry;cases e;exact⟨.bool_bool _ _,.bool_bool _ _,.bool_bool _ _⟩
  .cases hx.int_inv;cases hy.int_inv;obtain⟨t,rfl⟩:=rx;obtain⟨t',rfl⟩:=ry;cases e;exact⟨.int_int _ _ _ _,.int_int _ _ _ _,.int_int _ _ _ _⟩
  .cases hx.str_inv;cases hy.str_inv;obtain⟨t,rfl⟩:=rx;obtain⟨t',rfl⟩:=ry;cases e;exact⟨.str_str _ _ _ _,.str_str _ _ _ _,.str_str _ _ _ _⟩
  .cases hx.mQ;cases hy.mR;cases rx;cases ry;cases e;exact⟨.none_bool _,.none_bool _,.none_bool _⟩
  .cases hx.mQ;cases hy.int_inv;cases rx;obtain⟨t',rfl⟩:=ry;cases e;exact⟨.none_int _ _,.none_int _ _,.none_int _ _⟩
  .cases hx.mQ;cases hy.str_inv;cases rx;obtain⟨t',rfl⟩:=ry;cases e;exact⟨.none_str _ _,.none_str _ _,.none_str _ _⟩
  .cases hx.mR;cases hy.mQ;cases rx;cases ry;cases e;exact⟨.bool_none _,.bool_none _,.bool_none _⟩
  .cases hx.mR;cases hy.str_inv;cases rx;obtain⟨t',rfl⟩:=ry;cases e;exact⟨.bool_str _ _ _,.bool_str _ _ _,.bool_str _ _ _⟩
  .cases hx.int_inv;cases hy.mQ;obtain⟨t,rfl⟩:=rx;cases ry;cases e;exact⟨.int_none _ _,.int_none _ _,.int_none _ _⟩
  .cases hx.int_inv;cases hy.str_inv;obtain⟨t,rfl⟩:=rx;obtain⟨t',rfl⟩:=ry;cases e;exact⟨.int_str _ _ _ _,.int_str _ _ _ _,.int_str _ _ _ _⟩
  .cases hx.str_inv;cases hy.mQ;obtain⟨t,rfl⟩:=rx;cases ry;cases e;exact⟨.str_none _ _,.str_none _ _,.str_none _ _⟩
  .cases hx.str_inv;cases hy.mR;obtain⟨t,rfl⟩:=rx;cases ry;cases e;exact⟨.str_bool _ _ _,.str_bool _ _ _,.str_bool _ _ _⟩
  .cases hx.str_inv;cases hy.int_inv;obtain⟨t,rfl⟩:=rx;obtain⟨t',rfl⟩:=ry;cases e;exact⟨.str_int _ _ _ _,.str_int _ _ _ _,.str_int _ _ _ _⟩
  .rename_i da db;obtain⟨a1,xs,rfl,h1,h2⟩:=hx.mU;obtain⟨a2,ys,rfl,g1,g2⟩:=hy.mU;cases rx;cases ry;obtain⟨us,r1,p1,_⟩:=I.tuple h1;obtain⟨ws,r2,p2,_⟩:=I.tuple g1;cases p:tw (za M n) da db with
   | none=>rw[p]at e;cases e
   | some b1=>
    have e0:=e;rw[p]at e;have e':(b1&&da.length==db.length)=b:=dh e;obtain⟨f,hf,ha⟩:=Cf (A:=A.in1) (s:=s) p h2 g2 r1 r2 λx y b vx vy u w q1 q2 q3 q4 q5=>(EW I hm n A.in1 x y b vx vy u w hui q1 q2 q3 q4 q5).2.1;have hb:((List.range (min us.toArray.size ws.toArray.size)).all f&&us.toArray.size==ws.toArray.size)=b:=by rw[dw,dw,ha,<-e',<-r1.length,<-r2.length,h2.length,g2.length]
    have hf':∀j (l1:j<us.toArray.size) (l2:j<ws.toArray.size),SeqAt.EqAt A.in1 s us.toArray[j] ws.toArray[j] (f j):=λj l1 l2=>by simpa using hf j (by simpa using l1) (by simpa using l2)
    have c1:SeqAt.RcAt A s (.ref a1) (.ref a2) b:=by rw[<-hb];exact .tuples p1 p2 hu1 hf'
    have c3:SeqAt.RcNeAt A s (.ref a1) (.ref a2) (!b):=by have:=SeqAt.RcNeAt.tuples p1 p2 hu1 hf';rw[hb]at this;exact this
    refine⟨c1,?_,c3⟩;by_cases ea:a1=a2
    .subst ea;have:b=pc:=zU I hm (n+1) (.tup da) (.tup db) (.ref a1) b hx hy (by unfold za;exact e0);rw[this];exact .same _
    .exact .of_refs ea c1
  .cases hx.mO;cases hy.mO;cases rx;cases ry;rename_i a1 a2;have e0:=e;cases p:pA M a1 with
   | none=>rw[p]at e;cases e
   | some i=>
    cases p':pA M a2 with
    | none=>rw[p,p']at e;cases e
    | some j=>
     rw[p,p']at e;have e:(if i.length=j.length then tw (za M n) i j else Fa lf)=Fa b:=e;obtain⟨xs,q1,h2,_⟩:=qD hm p;obtain⟨ys,q2,g2,_⟩:=qD hm p';obtain⟨us,r1,p1,_⟩:=I.list q1;obtain⟨ws,r2,p2,_⟩:=I.list q2;have XW:SeqAt.RcAt A s (.ref a1) (.ref a2) b/\SeqAt.RcNeAt A s (.ref a1) (.ref a2) (!b):=by
      by_cases hl:i.length=j.length
      .rw[c9 hl]at e;obtain⟨f,hf,ha⟩:=Cf (A:=A.in1) (s:=s) e h2 g2 r1 r2 λx y b vx vy u w q1 q2 q3 q4 q5=>(EW I hm n A.in1 x y b vx vy u w hui q1 q2 q3 q4 q5).2.1;have hsz:us.toArray.size=ws.toArray.size:=by rw[dw,dw,<-r1.length,<-r2.length,<-h2.length,<-g2.length];exact hl
       have hf':∀j (l1:j<us.toArray.size) (l2:j<ws.toArray.size),SeqAt.EqAt A.in1 s us.toArray[j] ws.toArray[j] (f j):=λj l1 l2=>by simpa using hf j (by simpa using l1) (by simpa using l2)
       have hb:(List.range us.toArray.size).all f=b:=by rw[<-ha];rw[dw,dw]at hsz;rw[dw,<-hsz,Nat.min_self]
       rw[<-hb];exact⟨.lists p1.isList p2.isList hsz hu1 hf',.lists p1.isList p2.isList hsz hu1 hf'⟩
      .rw[cY hl]at e;cases e;have hsz:(us.toArray.size != ws.toArray.size)=pc:=by
        rw[dw,dw,<-r1.length,<-r2.length,<-h2.length,<-g2.length]
        simpa using hl
       exact⟨.lists_lengths p1.isList p2.isList hsz hu1,.lists_lengths p1.isList p2.isList hsz hu1⟩
     refine⟨XW.1,?_,XW.2⟩;by_cases ea:a1=a2
     .subst ea;have:b=pc:=zU I hm (n+1) (.ref a1) (.ref a1) (.ref a1) b .ref .ref (by unfold za;exact e0);rw[this];exact .same _
     .exact .of_refs ea XW.1
  .cases e
noncomputable def vi:D->Bool
 | .mS=>pc
 | .bl _=>pc
 | .int _=>pc
 | .str _=>pc
 | _=>lf
noncomputable def O5:D->D->Bool
 | .mS,.mS=>pc
 | .bl a,.bl b=>a==b
 | .bl a,.int b=>(if a then 1 else 0)==b
 | .int a,.bl b=>a==(if b then 1 else 0)
 | .int a,.int b=>a==b
 | .str a,.str b=>a==b
 | _,_=>lf
noncomputable def inD(x:D)(ds:T0 D):Bool:=ds.any λy=>O5 y x
noncomputable def Md(M:Mp):D->Option (T0 D)
 | .tup ds=>Fa ds
 | .ref a=>pA M a
 | .rl ds=>Fa ds
 | _=>Db
noncomputable def Dz(i j:Str):Bool:=!(Builtin.Str.occurrences j i 0 j.length 1).isEmpty
def Tc(Zn:Bool)(x y:D)(M:Mp)(Q:DK):Prop:=match x,y with
 | .str i,.str j=>Q (.bl (if Zn then !Dz i j else Dz i j)) M
 | _,_=>(Md M y).elim False λds=>vi x=pc/\ds.all vi=pc/\Q (.bl (if Zn then !inD x ds else inD x ds)) M
def P'(op:CmpOp)(x y:D)(M:Mp)(Q:DK):Prop:=match op with
 | .Eq=>(za M 9 x y).elim False λb=>Q (.bl b) M
 | .NotEq=>(za M 9 x y).elim False λb=>Q (.bl (!b)) M
 | .Lt=>match x,y with|.int i,.int j=>Q (.bl (decide (i<j))) M|_,_=>False
 | .LtE=>match x,y with|.int i,.int j=>Q (.bl (decide (i<=j))) M|_,_=>False
 | .Gt=>match x,y with|.int i,.int j=>Q (.bl (decide (j<i))) M|_,_=>False
 | .GtE=>match x,y with|.int i,.int j=>Q (.bl (decide (j<=i))) M|_,_=>False
 | .Is=>match y with|.mS=>Q (.bl (match x with|.mS=>pc|_=>lf)) M|_=>False
 | .IsNot=>match y with|.mS=>Q (.bl (match x with|.mS=>lf|_=>pc)) M|_=>False
 | .In=>Tc lf x y M Q
 | .NotIn=>Tc pc x y M Q
def k3(op:CmpOp)(ta tb:T3):T3:=λU M Q=>ta U M λx M1=>tb U M1 λy M2=>P' op x y M2 Q
def zG(h:rZ K H d v)(f:vi d=pc):yL v=pc:=by
 cases d with
 | mS=>rw[h.mQ];rfl
 | bl _=>rw[h.mR];rfl
 | int _=>rw[h.int_inv];rfl
 | str _=>rw[h.str_inv];rfl
 | _=>cases f
def IX(h:rZ K H d v)(g:rZ K H e w)(f:vi d=pc)(f':vi e=pc):OD v w=O5 d e:=by
 cases d with
 | mS=>
  rw[h.mQ];cases e with
  | mS=>rw[g.mQ];rfl
  | bl _=>rw[g.mR];rfl
  | int _=>rw[g.int_inv];rfl
  | str _=>rw[g.str_inv];rfl
  | _=>cases f'
 | bl _=>
  rw[h.mR];cases e with
  | mS=>rw[g.mQ];rfl
  | bl _=>rw[g.mR];rfl
  | int _=>rw[g.int_inv];rfl
  | str _=>rw[g.str_inv];rfl
  | _=>cases f'
 | int _=>
  rw[h.int_inv];cases e with
  | mS=>rw[g.mQ];rfl
  | bl _=>rw[g.mR];rfl
  | int _=>rw[g.int_inv];rfl
  | str _=>rw[g.str_inv];rfl
  | _=>cases f'
 | str _=>
  rw[h.str_inv];cases e with
  | mS=>rw[g.mQ];rfl
  | bl _=>rw[g.mR];rfl
  | int _=>rw[g.int_inv];rfl
  | str _=>rw[g.str_inv];rfl
  | _=>cases f'
 | _=>cases f
theorem EU:∀{ds:T0 D} {xs:T0 V},qy K H ds xs->ds.all vi=pc->xs.all yL=pc
 | [],_,h,_=>by rw[h.nil_inv];rfl
 | d::ds,_,h,f=>by obtain⟨x,r,rfl,h1,h2⟩:=h.inv;rw[eX,dS]at f ⊢;exact⟨zG h1 f.1,EU h2 f.2⟩
theorem Oc(g:rZ K H e w)(f':vi e=pc):∀{ds:T0 D} {xs:T0 V},qy K H ds xs->ds.all vi=pc->inV w xs=inD e ds
 | [],_,h,_=>by rw[h.nil_inv];rfl
 | d::ds,_,h,f=>by obtain⟨x,r,rfl,h1,h2⟩:=h.inv;rw[eX,dS]at f;show(OD x w||inV w r)=(O5 d e||inD e ds);rw[IX h1 g f.1 f',Oc g f' h2 f.2]
def FI(hm:HM K H M){y:D}{v:V}{ds:T0 D}(h:rZ K H y v)(q:Md M y=Fa ds):∃p xs,v=.ref p/\(zo K H p xs\/vn K H p xs)/\qy K H ds xs:=by
 cases y with
 | tup es=>cases q;obtain⟨a,xs,rfl,h1,h2⟩:=h.mU;exact⟨a,xs,Z',.inr h1,h2⟩
 | ref a=>cases h.mO;obtain⟨xs,h1,h2,_⟩:=qD hm q;exact⟨a,xs,Z',.inl h1,h2⟩
 | rl es=>cases q;obtain⟨a,xs,rfl,h1,h2⟩:=h.ni;exact⟨a,xs,Z',.inl h1.sq,h2⟩
 | _=>cases q
variable {c:Go}{tc:T3}
section
def KL(op:CmpOp)(hu:X.A.units+9<Y'):yc X (Op op) (R3 X.K (P' op)):=by
 intro XQ s Y H vx vy v u Q' I rx ry h;obtain⟨x,y,M,Q,hx,hy,hm,q,k⟩:=h;have bk:∀b,Q (.bl b) M->EP X XQ Y Q' (.bool b) s:=λb q=>⟨.bl b,H,I,Z',k _ _ _ _ .bl hm .refl q⟩;have inn:∀Zn:Bool,((Md M y).elim False λds=>vi x=pc/\ds.all vi=pc/\Q (.bl (if Zn then !inD x ds else inD x ds)) M)->Wn X.K Zn vx vy H Q':=λZn q=>by obtain⟨ds,e,f1,f2,q⟩:=rc q;obtain⟨p,xs,rfl,h1,h2⟩:=FI hm hy e;refine⟨p,xs,Z',h1,zG hx f1,EU h2 f2,?_⟩;rw[Oc hx f1 h2 f2];exact k _ _ _ _ .bl hm .refl q
 cases op with
 | Eq=>obtain⟨b,e,q⟩:=rc q;exact(EW I hm 9 X.A x y b vx vy v u hu e hx hy rx ry).1 _ _ _ _ (bk b q)
 | NotEq=>obtain⟨b,e,q⟩:=rc q;exact(EW I hm 9 X.A x y b vx vy v u hu e hx hy rx ry).2.2 _ _ _ _ (bk _ q)
 | Lt=>
  cases x<;>first|exact q.elim|skip
  cases y<;>first|exact q.elim|skip
  cases hx.int_inv;cases hy.int_inv;exact Uy XQ s Y H _ _ v u Q' I rx ry ⟨_,_,Z',Z',k _ _ _ _ .bl hm .refl q⟩
 | LtE=>
  cases x<;>first|exact q.elim|skip
  cases y<;>first|exact q.elim|skip
  cases hx.int_inv;cases hy.int_inv;exact VP XQ s Y H _ _ v u Q' I rx ry ⟨_,_,Z',Z',k _ _ _ _ .bl hm .refl q⟩
 | Gt=>
  cases x<;>first|exact q.elim|skip
  cases y<;>first|exact q.elim|skip
  cases hx.int_inv;cases hy.int_inv;exact Vz XQ s Y H _ _ v u Q' I rx ry ⟨_,_,Z',Z',k _ _ _ _ .bl hm .refl q⟩
 | GtE=>
  cases x<;>first|exact q.elim|skip
  cases y<;>first|exact q.elim|skip
  cases hx.int_inv;cases hy.int_inv;exact UB XQ s Y H _ _ v u Q' I rx ry ⟨_,_,Z',Z',k _ _ _ _ .bl hm .refl q⟩
 | Is=>
  cases y<;>first|exact q.elim|skip
  cases hy.mQ;refine TU XQ s Y H _ _ v u Q' I rx ry ⟨Z',k _ _ _ _ ?_ hm .refl q⟩;cases x with
  | mS=>rw[hx.mQ];exact .bl
  | bl _=>rw[hx.mR];exact .bl
  | int _=>rw[hx.int_inv];exact .bl
  | str _=>rw[hx.str_inv];exact .bl
  | tup _=>obtain⟨a,xs,rfl,_⟩:=hx.mU;exact .bl
  | ref _=>rw[hx.mO];exact .bl
  | ty _=>rw[hx.nZ];exact .bl
  | rl _=>obtain⟨a,xs,rfl,_⟩:=hx.ni;exact .bl
 | IsNot=>
  cases y<;>first|exact q.elim|skip
  cases hy.mQ;refine Pb XQ s Y H _ _ v u Q' I rx ry ⟨Z',k _ _ _ _ ?_ hm .refl q⟩;cases x with
  | mS=>rw[hx.mQ];exact .bl
  | bl _=>rw[hx.mR];exact .bl
  | int _=>rw[hx.int_inv];exact .bl
  | str _=>rw[hx.str_inv];exact .bl
  | tup _=>obtain⟨a,xs,rfl,_⟩:=hx.mU;exact .bl
  | ref _=>rw[hx.mO];exact .bl
  | ty _=>rw[hx.nZ];exact .bl
  | rl _=>obtain⟨a,xs,rfl,_⟩:=hx.ni;exact .bl
 | In=>
  have q:Tc lf x y M Q:=q;unfold Tc at q;split at q
  .cases hx.str_inv;cases hy.str_inv;exact Kq XQ s Y H _ _ v u Q' I rx ry ⟨_,_,Z',Z',k _ _ _ _ .bl hm .refl q⟩
  .exact KO XQ s Y H _ _ v u Q' I rx ry (inn lf q)
 | NotIn=>
  have q:Tc pc x y M Q:=q;unfold Tc at q;split at q
  .cases hx.str_inv;cases hy.str_inv;exact Fp XQ s Y H _ _ v u Q' I rx ry ⟨_,_,Z',Z',k _ _ _ _ .bl hm .refl q⟩
  .exact F6 XQ s Y H _ _ v u Q' I rx ry (inn pc q)
variable {a b:Go}
def qB{op:CmpOp}(hu:X.A.units+9<Y')(ha:E3 X a ta)(hb:E3 X b tb)(hm:wT op b=lf:=by first|exact HQ _|with_unfolding_all rfl):E3 X (.Compare a [op] [b] pos) (k3 op ta tb):=PE.mono (Jw (KL op hu) ha hb hm) Ik
def b3(t:T3):AM:=λU M Q=>t U M λd M1=>match d with|.bl c=>Q c M1|_=>False
def va(h:E3 X e t)(he:∀Yq,isTrue e X.env Yq=(do let v<-Yq;XXc e.pos;ZB [v] (truthy v)):=by intro _;rfl):B3 X e (b3 t):=PT.mono (Si h he) λY H Q' zz=>x7 zz λU M Q hs hm ht k=>
 ⟨U,M,_,hs,hm,ht,λv H1 d M1 hd XT e1 q1=>by
  cases d with
  | bl c=>exact⟨c,hd.mR,k c H1 M1 XT e1 q1⟩
  | _=>exact q1.elim⟩
def pS{op:CmpOp}(hu:X.A.units+9<Y')(ha:E3 X a ta)(hb:E3 X b tb)(hm:wT op b=lf:=by first|exact HQ _|with_unfolding_all rfl):B3 X (.Compare a [op] [b] pos) (b3 (k3 op ta tb)):=PT.mono (Jv (KL op hu) ha hb hm) λY H Q' zz=>x7 zz λU M Q hs hm ht k=>
 Ik Y H _ ⟨U,M,_,hs,hm,ht,λv H1 d M1 hd XT e1 q1=>by
  cases d with
  | bl c=>exact⟨c,hd.mR,k c H1 M1 XT e1 q1⟩
  | _=>exact q1.elim⟩
end
variable {tA tB:AM}{rest:T0 Go}
section
variable {a b:Go}
def OW(t u:AM):AM:=λU M Q=>t U M λc M1=>if c=pc then u U M1 Q else Q lf M1
def Xy(t u:AM):AM:=λU M Q=>t U M λc M1=>if c=pc then Q pc M1 else u U M1 Q
def Vs(t:AM):AM:=λU M Q=>t U M λc M1=>Q (!c) M1
def W3(X:Cx)(e:Go)(t:AM):Prop:=PW X e (T8 X.K t)
def PW.mono{t t':TT}(h:PW X e t)(m:∀Y H Q,t' Y H Q->t Y H Q):PW X e t':=λwh XQ s Y H Q I q=>h wh XQ s Y H Q I (m Y H Q q)
def W3.b3(h:W3 X e t):B3 X e t:=PW.pt h
def yC(h:B3 X a tA):W3 X (.BoolOp .And [a] pos) tA:=Re h
def we(h:B3 X a tA):W3 X (.BoolOp .Or [a] pos) tA:=RP h
def yS(ha:B3 X a tA)(hb:W3 X (.BoolOp .And (b::rest) pos) tB):W3 X (.BoolOp .And (a::b::rest) pos) (OW tA tB):=PW.mono (SD ha hb) λY H Q' zz=>x7 zz λU M Q hs hm ht k=>
 ⟨U,M,_,hs,hm,ht,λc H1 M1 XT e1 q1=>by
  cases c with
  | true=>exact(c9 Z').mpr ⟨U,M1,Q,hs.mono e1,XT,(c9 Z').mp q1,λb H' M' x1 x2 x3=>k b H' M' x1 (e1.trans x2) x3⟩
  | false=>exact(cY dz).mpr (k lf H1 M1 XT e1 ((cY dz).mp q1))⟩
def xx(ha:B3 X a tA)(hb:W3 X (.BoolOp .Or (b::rest) pos) tB):W3 X (.BoolOp .Or (a::b::rest) pos) (Xy tA tB):=PW.mono (VF ha hb) λY H Q' zz=>x7 zz λU M Q hs hm ht k=>
 ⟨U,M,_,hs,hm,ht,λc H1 M1 XT e1 q1=>by
  cases c with
  | true=>exact(c9 Z').mpr (k pc H1 M1 XT e1 ((c9 Z').mp q1))
  | false=>exact(cY dz).mpr ⟨U,M1,Q,hs.mono e1,XT,(cY dz).mp q1,λb H' M' x1 x2 x3=>k b H' M' x1 (e1.trans x2) x3⟩⟩
def zg(ha:B3 X a tA):B3 X (.UnaryOp .Not a pos) (Vs tA):=PT.mono (R0 ha) λY H Q' zz=>x7 zz λU M Q hs hm ht k=>⟨U,M,_,hs,hm,ht,λc H1 M1 XT e1 q1=>k _ H1 M1 XT e1 q1⟩
def UZ(ta tb:T3):T3:=λU M Q=>ta U M λd M1=>match d with|.bl c=>if c=pc then tb U M1 Q else Q (.bl lf) M1|_=>False
def Wm(ta tb:T3):T3:=λU M Q=>ta U M λd M1=>match d with|.bl c=>if c=pc then Q (.bl pc) M1 else tb U M1 Q|_=>False
def UN(ta:T3):T3:=λU M Q=>ta U M λd M1=>match d with|.bl c=>Q (.bl (!c)) M1|_=>False
def tG{op}(h:E3 X a ta):E3 X (.BoolOp op [a] pos) ta:=TL h
def tR(ha:E3 X a ta)(hb:E3 X (.BoolOp .And (b::rest) pos) tb):E3 X (.BoolOp .And (a::b::rest) pos) (UZ ta tb):=PE.mono (TX ha hb) λY H Q' zz=>x7 zz λU M Q hs hm ht k=>
 ⟨U,M,_,hs,hm,ht,λv H1 d M1 hd XT e1 q1=>by
  cases d with
  | bl c=>
   refine⟨c,hd.mR,?_⟩;cases c with
   | true=>exact(c9 Z').mpr ⟨U,M1,Q,hs.mono e1,XT,(c9 Z').mp q1,vZ e1 k⟩
   | false=>exact(cY dz).mpr (k _ H1 _ M1 .bl XT e1 ((cY dz).mp q1))
  | _=>exact q1.elim⟩
def JP(ha:E3 X a ta)(hb:E3 X (.BoolOp .Or (b::rest) pos) tb):E3 X (.BoolOp .Or (a::b::rest) pos) (Wm ta tb):=PE.mono (UI ha hb) λY H Q' zz=>x7 zz λU M Q hs hm ht k=>
 ⟨U,M,_,hs,hm,ht,λv H1 d M1 hd XT e1 q1=>by
  cases d with
  | bl c=>
   refine⟨c,hd.mR,?_⟩;cases c with
   | true=>exact(c9 Z').mpr (k _ H1 _ M1 .bl XT e1 ((c9 Z').mp q1))
   | false=>exact(cY dz).mpr ⟨U,M1,Q,hs.mono e1,XT,(cY dz).mp q1,vZ e1 k⟩
  | _=>exact q1.elim⟩
def To(ha:E3 X a ta):E3 X (.UnaryOp .Not a pos) (UN ta):=PE.mono (RV ha) λY H Q' zz=>x7 zz λU M Q hs hm ht k=>
 ⟨U,M,_,hs,hm,ht,λv H1 d M1 hd XT e1 q1=>by
  cases d with
  | bl c=>exact⟨c,hd.mR,k _ H1 _ M1 .bl XT e1 q1⟩
  | _=>exact q1.elim⟩
def XG(t:AM)(ta tb:T3):T3:=λU M Q=>t U M λc M1=>if c=pc then ta U M1 Q else tb U M1 Q
def Nh(hc:B3 X c tA)(ha:E3 X a ta)(hb:E3 X b tb):E3 X (.IfExp c a b pos) (XG tA ta tb):=PE.mono (L9 hc ha hb) λY H Q' zz=>x7 zz λU M Q hs hm ht k=>
 ⟨U,M,_,hs,hm,ht,λc H1 M1 XT e1 q1=>by
  cases c with
  | true=>exact(c9 Z').mpr ⟨U,M1,Q,hs.mono e1,XT,(c9 Z').mp q1,vZ e1 k⟩
  | false=>exact(cY dz).mpr ⟨U,M1,Q,hs.mono e1,XT,(cY dz).mp q1,vZ e1 k⟩⟩
def W4(x y:D)(M:Mp)(Q:DK):Prop:=match x,y with
 | .tup ds,.int i=>(wQ ds i).elim False λd=>Q d M
 | .ref a,.int i=>(pA M a).elim False λds=>(wQ ds i).elim False λd=>Q d M
 | .rl ds,.int i=>(wQ ds i).elim False λd=>Q d M
 | .str z,.int i=>z.length<=Ch/\(wQ z.cps.toList i).elim False λc=>Q (.str ⟨#[c]⟩) M
 | _,_=>False
def i3(ta tb:T3):T3:=λU M Q=>ta U M λx M1=>tb U M1 λy M2=>W4 x y M2 Q
def Fl{K:qC}{d:D}(h:qy K H ds xs)(e:wQ ds i=Fa d):∃v,wQ xs i=Fa v/\rZ K H d v:=by
 unfold wQ at e ⊢;rw[<-h.length];cases q:Hj ds.length i with
 | none=>rw[q]at e;cases e
 | some j=>rw[q]at e;exact h.get e
def XM:Ub X (R3 X.K W4):=by
 intro value X3 XQ s Y H vx vy v u Q' I rx ry h hs;obtain⟨x,y,M,Q,hx,hy,hm,q,k⟩:=h;unfold W4 at q;split at q
 .obtain⟨d,e,q⟩:=rc q;obtain⟨p,xs,rfl,h1,h2⟩:=hx.mU;cases hy.int_inv;obtain⟨w,e1,e2⟩:=Fl h2 e;exact S7 value X3 XQ s Y H _ _ v u Q' I rx ry ⟨p,xs,_,w,Z',Z',h1,e1,k _ _ _ _ e2 hm .refl q⟩ hs
 .obtain⟨ds,e0,q⟩:=rc q;obtain⟨d,e,q⟩:=rc q;cases hx.mO;cases hy.int_inv;obtain⟨xs,h1,h2,_⟩:=qD hm e0;obtain⟨w,e1,e2⟩:=Fl h2 e;exact JD value X3 XQ s Y H _ _ v u Q' I rx ry ⟨_,xs,_,w,Z',Z',h1,e1,k _ _ _ _ e2 hm .refl q⟩ hs
 .obtain⟨d,e,q⟩:=rc q;obtain⟨p,xs,rfl,h1,h2⟩:=hx.ni;cases hy.int_inv;obtain⟨w,e1,e2⟩:=Fl h2 e;exact JD value X3 XQ s Y H _ _ v u Q' I rx ry ⟨p,xs,_,w,Z',Z',h1.sq,e1,k _ _ _ _ e2 hm .refl q⟩ hs
 .obtain⟨q1,q⟩:=q;obtain⟨c,e,q⟩:=rc q;cases hx.str_inv;cases hy.int_inv;exact Te value X3 XQ s Y H _ _ v u Q' I rx ry ⟨_,_,c,Z',Z',q1,e,k _ _ _ _ .str hm .refl q⟩ hs
 .exact q.elim
def pW(ha:E3 X a ta)(hb:E3 X b tb)(hs:BG b:=by exact λ_ _=>rfl):E3 X (.Subscript a b pos) (i3 ta tb):=PE.mono (Mr XM ha hb hs) Ik
noncomputable def ug(ds:T0 D)(lo hi:Option Int):T0 D:=(ds.drop (HT.tO ds.length 0 lo)).take (HT.tO ds.length ds.length hi - HT.tO ds.length 0 lo)
def EE{K:qC}(q:qy K H ds xs):qy K H (ug ds l h) (Cn xs l h):=by unfold ug Cn;rw[q.length];exact(q.drop _).take _
abbrev Uc:=vt->Mp->(Option Int->Mp->Prop)->Prop
def XN(K:qC)(t:Uc):TO:=λY H Q'=>C9 λU M Q=>zk K H Y U/\HM K H M/\t U M Q/\∀o H' M',HM K H' M'->qY K H H'->Q o M'->Q' o H'
def O3(X:Cx)(e:Option Go)(t:Uc):Prop:=PO X e (XN X.K t)
def O1:Uc:=λ_ M Q=>Q Db M
def U4(t:T3):Uc:=λU M Q=>t U M λd M1=>match d with|.int i=>Q (Fa i) M1|_=>False
def PO.mono{t t':TO}(h:PO X e t)(m:∀Y H Q,t' Y H Q->t Y H Q):PO X e t':=λXQ s Y H Q I q=>h XQ s Y H Q I (m Y H Q q)
def sV:O3 X Db O1:=PO.mono Q9 λY H Q' zz=>x7 zz λU M Q hs hm ht k=>k Db H M hm .refl ht
def sv(h:E3 X e t):O3 X (Fa e) (U4 t):=PO.mono (Pa h) λY H Q' zz=>x7 zz λU M Q hs hm ht k=>
 ⟨U,M,_,hs,hm,ht,λv H1 d M1 hd XT e1 q1=>by
  cases d with
  | int i=>exact⟨i,hd.int_inv,k (Fa i) H1 M1 XT e1 q1⟩
  | _=>exact q1.elim⟩
def Xj(x:D)(lo hi:Option Int)(M:Mp)(Q:DK):Prop:=match x with
 | .tup ds=>Q (.tup (ug ds lo hi)) M
 | .ref a=>(pA M a).elim False λds=>∀p,M p=Db->Q (.ref p) (pP M p (.lst (ug ds lo hi)))
 | .rl ds=>∀p,M p=Db->Q (.ref p) (pP M p (.lst (ug ds lo hi)))
 | _=>False
def s3(te:T3)(tl th:Uc):T3:=λU M Q=>te U M λx M1=>tl U M1 λl M2=>th U M2 λu M3=>Xj x l u M3 Q
def Xa(K:qC):V->Option Int->Option Int->Hp->VK->Prop:=λvx l u H Q'=>C9 λx M Q=>rZ K H x vx/\HM K H M/\Xj x l u M Q/\Up K H Q' Q
def O8{ds:T0 D}{lo hi:Option Int}(h:HT.tO ds.length 0 lo=0/\HT.tO ds.length ds.length hi=ds.length):ug ds lo hi=ds:=by unfold ug;rw[h.1,h.2,ji,kZ,fF]
def Wx:Uh X (Xa X.K):=by
 intro XQ s Y H vx v vl vu l u sl Q' I rx ZF pl pu h;obtain⟨x,M,Q,hx,hm,q,k⟩:=h;cases x with
 | tup ds=>
  have q2:Q (.tup (ug ds l u)) M:=q;obtain⟨a,xs,rfl,h1,h2⟩:=hx.mU;by_cases q1:HT.tO ds.length 0 l=0/\HT.tO ds.length ds.length u=ds.length
  .rw[O8 q1]at q2;exact Sv XQ s Y H _ v vl vu l u sl Q' I rx ZF pl pu ⟨a,xs,Z',h1,by rw[<-h2.length];exact q1,k _ _ _ _ hx hm .refl q2⟩
  refine RH XQ s Y H _ v vl vu l u sl Q' I rx ZF pl pu ⟨a,xs,Z',h1,by rw[<-h2.length];exact q1,λp hp=>?_⟩;have e:qY X.K H (upd H p (.tup (Cn xs l u))):=.new hp;exact k _ _ _ _ (.tup (.of qw) ((EE h2).mono e)) (hm.add hp) e q2
 | ref a=>obtain⟨ds,e0,q⟩:=rc q;cases hx.mO;obtain⟨xs,h1,h2,_⟩:=qD hm e0;refine J0 XQ s Y H _ v vl vu l u sl Q' I rx ZF pl pu ⟨a,xs,Z',h1,λp hp=>?_⟩;have e:qY X.K H (upd H p (.lst (Cn xs l u))):=.new hp;exact k _ _ _ _ .ref (hm.new (c:=.lst (ug ds l u)) hp ⟨_,qw,(EE h2).mono e⟩) e (q p (hm.fresh hp))
 | rl ds=>obtain⟨a,xs,rfl,h1,h2⟩:=hx.ni;refine J0 XQ s Y H _ v vl vu l u sl Q' I rx ZF pl pu ⟨a,xs,Z',h1.sq,λp hp=>?_⟩;have e:qY X.K H (upd H p (.lst (Cn xs l u))):=.new hp;exact k _ _ _ _ .ref (hm.new (c:=.lst (ug ds l u)) hp ⟨_,qw,(EE h2).mono e⟩) e (q p (hm.fresh hp))
 | _=>exact q.elim
def rQ{lo hi:Option Go}{p2:Pos}(he:E3 X e te)(hl:O3 X lo tl)(hu:O3 X hi th):E3 X (.Subscript e (.Slice lo hi Db p2) pos) (s3 te tl th):=PE.mono (LM Wx he hl hu) λY H Q' zz=>x7 zz λU M Q hs hm ht k=>⟨U,M,_,hs,hm,ht,λv H1 x M1 hx XT e1 q1=>⟨U,M1,_,hs.mono e1,XT,q1,λl H2 M2 Ya e2 q2=>⟨U,M2,_,hs.mono (e1.trans e2),Ya,q2,λu H3 M3 YM e3 q3=>⟨x,M3,Q,hx.mono (e2.trans e3),YM,q3,vZ (e1.trans (e2.trans e3)) k⟩⟩⟩⟩
def x9:xI:=λ_ M Q=>Q [] M
def vL(ta:T3)(tr:xI):xI:=λU M Q=>ta U M λx M1=>tr U M1 λxs M2=>Q (x::xs) M2
def tL:A3 X [] x9:=PA.mono RI λY H Q' zz=>x7 zz λU M Q hs hm ht k=>k [] H [] M .nil hm .refl ht
def qp(ha:E3 X e te)(hr:A3 X es t)(hs:Bw X e es:=by rfl):A3 X (e::es) (vL te t):=PA.mono (QG ha hr hs) λY H Q' zz=>x7 zz λU M Q hs hm ht k=>⟨U,M,_,hs,hm,ht,λv H1 x M1 hx XT e1 q1=>⟨U,M1,_,hs.mono e1,XT,q1,λvs H2 xs M2 hxs Ya e2 q2=>k _ H2 _ M2 (.cons (hx.mono e2) hxs) Ya (e1.trans e2) q2⟩⟩
def Ws(t:xI):T3:=λU M Q=>t U M λds M1=>ds.length<=Ch/\Q (.tup ds) M1
def UE(t:xI):T3:=λU M Q=>t U M λds M1=>ds.length<=Ch/\∀p,M1 p=Db->Q (.ref p) (pP M1 p (.lst ds))
def pY{x1}(h:A3 X es t):E3 X (.Tuple es x1 pos) (Ws t):=PE.mono (TN h) λY H Q' zz=>x7 zz λU M Q hs hm ht k=>
 ⟨U,M,_,hs,hm,ht,λvs H1 ds M1 Y2 XT e1 q1=>⟨by rw[<-Y2.length];exact q1.1,λp hp=>by
  have e:qY X.K H1 (upd H1 p (.tup vs)):=.new hp;exact k _ _ _ M1 (.tup (.of qw) (Y2.mono e)) (XT.add hp) (e1.trans e) q1.2⟩⟩
def rq(h:A3 X es t):E3 X (.List es pos) (UE t):=PE.mono (So h) λY H Q' zz=>x7 zz λU M Q hs hm ht k=>
 ⟨U,M,_,hs,hm,ht,λvs H1 ds M1 Y2 XT e1 q1=>⟨by rw[<-Y2.length];exact q1.1,λp hp=>by
  have e:qY X.K H1 (upd H1 p (.lst vs)):=.new hp;exact k _ _ _ _ .ref (XT.new (c:=.lst ds) hp ⟨_,qw,Y2.mono e⟩) (e1.trans e) (q1.2 p (XT.fresh hp))⟩⟩
def uO(t u:xC):xC:=λD U M=>t {D with nx:=u D} U M
def Xi:xC:=λD U M=>D.nx U M
def pU:IP X [] Xi:=CS.mono PR λD' Y H zz=>Kj zz λU M D hs hm ht k1 k2 k3 k4=>k1 Y H U M hs hm .refl Z' ht
def pH{st:TD}{rest:T0 TD}(h1:S3 X st t)(h2:IP X rest u):IP X (st::rest) (uO t u):=CS.mono (NK h1 h2) λD' Y H zz=>Kj zz λU M D hs hm ht k1 k2 k3 k4=>
 ⟨U,M,{D with nx:=u D},hs,hm,ht,λσ1 H1 δ1 M1 hs1 XT e1 l1 q1=>⟨δ1,M1,D,hs1,XT,q1,λσ' H' δ' M' x1 x2 x3 x4 x5=>k1 σ' H' δ' M' x1 x2 (e1.trans x3) (x4.trans l1) x5,λv H' d M' x1 x2 x3 x4=>k2 v H' d M' x1 x2 (e1.trans x3) x4,λσ' H' δ' M' x1 x2 x3 x4 x5=>k3 σ' H' δ' M' x1 x2 (e1.trans x3) (x4.trans l1) x5,λσ' H' δ' M' x1 x2 x3 x4 x5=>k4 σ' H' δ' M' x1 x2 (e1.trans x3) (x4.trans l1) x5⟩,k2,k3,k4⟩
def pJ{st:TD}(h1:S3 X st t):IP X [st] t:=CS.mono (EL h1) λD' Y H h=>h
def Wd:xC:=λD U M=>D.ct U M
def Gm:S3 X (.Continue pos) Wd:=PS.mono G4 λD' Y H zz=>Kj zz λU M D hs hm ht k1 k2 k3 k4=>k4 Y H U M hs hm .refl Z' ht
def Vt(te:T3):xC:=λD U M=>te U M λ_ M1=>D.nx U M1
def pZ(he:E3 X e te)(Zh:sB e Db pos.line X.env=pure lf:=by rfl):S3 X (.Expr e pos) (Vt te):=PS.mono (OY he Zh) λD' Y H zz=>Kj zz λU M D hs hm ht k1 k2 k3 k4=>⟨U,M,_,hs,hm,ht,λv H1 d M1 hd XT e1 q1=>k1 Y H1 U M1 (hs.mono e1) XT e1 Z' q1⟩
def SH(te:T3):xC:=λD U M=>te U M D.rt
def pO(he:E3 X e te):S3 X (.Return (Fa e) pos) (SH te):=PS.mono (R7 he) λD' Y H zz=>Kj zz λU M D hs hm ht k1 k2 k3 k4=>⟨U,M,_,hs,hm,ht,λv H1 d M1 hd XT e1 q1=>k2 v H1 d M1 hd XT e1 q1⟩
def KY(c:AM)(t u:xC):xC:=λD U M=>c U M λb M1=>if b=pc then t D U M1 else u D U M1
def qc{tc:AM}(hc:B3 X c tc)(ha:IP X as t)(hb:IP X bs u):S3 X (.If c as bs pos) (KY tc t u):=PS.mono (Uu hc ha hb) λD' Y H zz=>Kj zz λU M D hs hm ht k1 k2 k3 k4=>
 ⟨U,M,_,hs,hm,ht,λb H1 M1 XT e1 q1=>by
  have up:∀t:xC,t D U M1->WU X.K t D' Y H1:=λt q=>⟨U,M1,D,hs.mono e1,XT,q,λσ' H' δ' M' x1 x2 x3 x4 x5=>k1 σ' H' δ' M' x1 x2 (e1.trans x3) x4 x5,λv H' d M' x1 x2 x3 x4=>k2 v H' d M' x1 x2 (e1.trans x3) x4,λσ' H' δ' M' x1 x2 x3 x4 x5=>k3 σ' H' δ' M' x1 x2 (e1.trans x3) x4 x5,λσ' H' δ' M' x1 x2 x3 x4 x5=>k4 σ' H' δ' M' x1 x2 (e1.trans x3) x4 x5⟩
  cases b with
  | true=>exact(c9 Z').mpr (up t ((c9 Z').mp q1))
  | false=>exact(cY dz).mpr (up u ((cY dz).mp q1))⟩
def Tt:xC:=λ_ _ _=>False
def Ht{st:TD}:S3 X st Tt:=PS.mono Mt λD' Y H ⟨U,M,D,hs,hm,ht,_⟩=>ht
abbrev Dv:=D->vt->Mp->(vt->Mp->Prop)->Prop
def VS(K:qC)(g:Dv):TG:=λv Y H Q'=>Cg λd U M Q=>rZ K H d v/\zk K H Y U/\HM K H M/\g d U M Q/\∀σ' H' δ' M',zk K H' σ' δ'->HM K H' M'->qY K H H'->σ'.length=Y.length->Q δ' M'->Q' σ' H'
def G3(X:Cx)(e:Go)(g:Dv):Prop:=PG X e (VS X.K g)
def PG.nX{t t':TG}(h:PG X e t)(m:∀v Y H Q,Y.length=X.N.length->t' v Y H Q->t v Y H Q):PG X e t':=λXQ s Y H v u Q I r q=>h XQ s Y H v u Q I r (m v Y H Q I.len q)
def tE(i:Nat):Dv:=λd U M Q=>Q (U.set i (Fa d)) M
def J6{i:Nat}{x:Str}(hN:X.N.Nodup)(hi:X.N[i]?=Fa x)(hx:Ll X.env.scope x)(hf:Lm X x:=by first|exact .inl Z'|exact .inr Z'|assumption):G3 X (.Name x pos) (tE i):=
 PG.nX (O9 hN hi hx hf) λv Y H Q' hl ⟨d,U,M,Q,hd,hs,hm,ht,k⟩=>k _ H _ M (hs.set hd (by rw[hl];exact(cX.mp hi).1)) hm .refl (by simp) ht
abbrev Ds:=T0 D->vt->Mp->(vt->Mp->Prop)->Prop
def Wg(K:qC)(g:Ds):Qk:=λvs Y H Q'=>Cg λds U M Q=>qy K H ds vs/\zk K H Y U/\HM K H M/\g ds U M Q/\∀σ' H' δ' M',zk K H' σ' δ'->HM K H' M'->qY K H H'->σ'.length=Y.length->Q δ' M'->Q' σ' H'
def Vr(X:Cx)(es:T0 Go)(g:Ds):Prop:=Oy X es (Wg X.K g)
def Oy.mono{t t':Qk}(h:Oy X e t)(m:∀v Y H Q,t' v Y H Q->t v Y H Q):Oy X e t':=λXQ s Y H v u Q I r q=>h XQ s Y H v u Q I r (m v Y H Q q)
def PG.mono{t t':TG}(h:PG X e t)(m:∀v Y H Q,t' v Y H Q->t v Y H Q):PG X e t':=λXQ s Y H v u Q I r q=>h XQ s Y H v u Q I r (m v Y H Q q)
def B':Ds:=λds U M Q=>match ds with|[]=>Q U M|_=>False
def xO(t:Dv)(u:Ds):Ds:=λds U M Q=>match ds with|d::r=>t d U M λδ' M'=>u r δ' M' Q|[]=>False
def ul:Vr X [] B':=Oy.mono OL λvs Y H Q' ⟨ds,U,M,Q,hd,hs,hm,ht,k⟩=>by
 cases ds with
 | nil=>exact⟨hd.nil_inv,k Y H U M hs hm .refl Z' ht⟩
 | cons _ _=>exact ht.elim
def qK(h1:G3 X e t)(h2:Vr X es u)(hs:(At (e::es) X.env).map (·.2)=assign e X.env::(At es X.env).map (·.2):=by rfl):Vr X (e::es) (xO t u):=
 Oy.mono (NZ h1 h2 hs) λvs Y H Q' ⟨ds,U,M,Q,hd,hs,hm,ht,k⟩=>by
 cases ds with
 | nil=>exact ht.elim
 | cons d r=>obtain⟨x,xr,rfl,hx,hr⟩:=hd.inv;exact⟨x,xr,Z',d,U,M,_,hx,hs,hm,ht,λσ1 H1 δ1 M1 hs1 XT e1 l1 q1=>⟨r,δ1,M1,Q,hr.mono e1,hs1,XT,q1,λσ' H' δ' M' x1 x2 x3 x4 x5=>k σ' H' δ' M' x1 x2 (e1.trans x3) (x4.trans l1) x5⟩⟩
def RC(n:Nat)(t:Ds):Dv:=λd U M Q=>match d with|.tup ds=>ds.length=n/\t ds U M Q|_=>False
def vv{n:Nat}(hc:X.calm=pc)(h:Vr X es t)(hn:(At es X.env).length=n:=by rfl)(Yf:(At es X.env).findIdx? (·.1)=Db:=by rfl):G3 X (.Tuple es k pos) (RC n t):=
 PG.mono (SX hc h hn Yf) λv Y H Q' ⟨d,U,M,Q,hd,hs,hm,ht,k⟩=>by
 cases d with
 | tup ds=>obtain⟨a,xs,rfl,h1,h2⟩:=hd.mU;exact⟨a,xs,Z',h1,by rw[<-h2.length];exact ht.1,ds,U,M,Q,h2,hs,hm,ht.2,k⟩
 | _=>exact ht.elim
def GS(te:T3)(g:Dv):xC:=λD U M=>te U M λx M1=>g x U M1 D.nx
def Ij(he:E3 X e te)(hg:G3 X tg g)(hs:swapsWithSole [tg] e pos.line X.env=pure lf:=by rfl)(hw:swappedStores [tg] e X.env=pure Db:=by rfl)
  (h1:(At [tg] X.env).map (·.2)=[assign tg X.env]:=by rfl):S3 X (.Assign [tg] e pos) (GS te g):=PS.mono (T4 he hg hs hw h1) λD' Y H zz=>Kj zz λU M D hs hm ht k1 k2 k3 k4=>
 ⟨U,M,_,hs,hm,ht,λv H1 d M1 hd XT e1 q1=>⟨d,U,M1,_,hd,hs.mono e1,XT,q1,λσ' H' δ' M' x1 x2 x3 x4 x5=>k1 σ' H' δ' M' x1 x2 (e1.trans x3) x4 x5⟩⟩
def Ti{i:Nat}{x:Str}(hN:X.N.Nodup)(hi:X.N[i]?=Fa x)(hx:Ll X.env.scope x)(he:E3 X e te)(Zh:sB e (Fa (.Name x X0)) pos.line X.env=pure lf:=by rfl)
  (hf:Lm X x:=by first|exact .inl Z'|exact .inr Z'|assumption):S3 X (.Assign [.Name x X0] e pos) (GS te (tE i)):=PS.nX (MK hN hi hx he Zh hf) λD' Y H hl zz=>Kj zz λU M D hs hm ht k1 k2 k3 k4=>
 ⟨U,M,_,hs,hm,ht,λv H1 d M1 hd XT e1 q1=>k1 _ H1 _ M1 ((hs.mono e1).set hd (by rw[hl];exact(cX.mp hi).1)) XT e1 (by simp) q1⟩
end
abbrev rH:=T0 D->Mp->DK->Prop
def OA(K:qC)(sp:rH):Sp:=λvs H Q' _=>C9 λds M Q=>qy K H ds vs/\HM K H M/\sp ds M Q/\Up K H Q' Q
noncomputable def xg(N:QQQ)(ds:T0 D):vt:=ds.map Fa++List.replicate (N.length - ds.length) Db
def Et{K:qC}(h:qy K H ds vs):zk K H (L2.start N vs) (xg N ds):=λi d q=>by
 unfold xg at q;unfold L2.start;by_cases hi:i<ds.length
 .rw[eY (by simpa using hi),dD]at q;cases e:ds[i]? with
  | none=>rw[e]at q;cases q
  | some d'=>rw[e]at q;cases q;obtain⟨v,e1,e2⟩:=h.get e;refine⟨v,?_,e2⟩;rw[eY (by rw[cT,<-h.length];exact hi),dD,e1];rfl
 .rw[eW (by simpa using hi),jR]at q;split at q<;>cases q
variable {P:Pg}{w:Wo}{mg:QQZ}{base:No}
abbrev Ua(P:Pg)(w:Wo)(K:qC)(mg:QQZ)(base:No)(k:Nat)(f:Uf)(fd:wv)(ps:QQQ)(sp:rH):Prop:=xA P w K mg base OB k f fd ps (OA K sp)
variable {k:Nat}{f C:Uf}{fd:wv}{ps:QQQ}{sp:rH}{x m fn:Str}{p XU:Pos}{e o:Go}{es:T0 Go}{t:xI}
def DZ(sp:rH)(t:xI):T3:=λU M Q=>t U M λds M1=>sp ds M1 Q
def Q1(F:Ua X.prog X.w X.K X.mg X.base k f fd ps sp)(hr:sA k X.A)(hg:Gl X x)(hm:X.mg x=Fa (.ref f))(hk:W.keepIn X.K (.ref f)=pc)(hb:vb X.K fd ps [])(ha:A3 X (e::es) t) (Yd:zb x:=by decide) (he:Bw X e es:=by rfl) (X9:Dc X pos es:=by rfl):
  E3 X (.Call (.Name x p) (e::es) [] pos) (DZ sp t):=PE.mono (PU F hr hg hm hk hb .nil (Gy (X:=X)) ha Yd he X9) λY H Q' zz=>x7 zz λU M Q hs hm ht k=>
 ⟨U,M,_,hs,hm,ht,λvs H1 ds M1 hd XT e1 q1=>⟨ds,M1,Q,by rw[eR];exact hd,XT,q1,vZ e1 k⟩⟩
def C3(X:Cx)(f:Vl)(r:rH):Prop:=Ab X f λvs H Q'=>∃ds M Q,qy X.K H ds vs/\HM X.K H M/\r ds M Q/\Up X.K H Q' Q
def qe{id:String}(hc:C3 X (.builtin id) r)(hg:Gl X x)(hm:X.mg x=Db)(hv:zn x=Fa (.builtin id))(ha:A3 X (e::es) t)(hn:x≠"__name__":=by decide)(Yd:zb x:=by decide)
  (he:Bw X e es:=by rfl) (X9:Dc X pos es:=by rfl):E3 X (.Call (.Name x p) (e::es) [] pos) (DZ r t):=
 PE.mono (Mq hc hg hm hv ha hn Yd he X9) λY H Q' zz=>x7 zz λU M Q hs hm ht k=>⟨U,M,_,hs,hm,ht,λvs H1 ds M1 hd XT e1 q1=>⟨ds,M1,Q,hd,XT,q1,vZ e1 k⟩⟩
def qx{T:String}(hc:C3 X (.type T) r)(hg:Gl X x)(hm:X.mg x=Db)(hv:zn x=Fa (.type T))(ha:A3 X (e::es) t)(hn:x≠"__name__":=by decide)(Yd:zb x:=by decide)
  (he:Bw X e es:=by rfl) (X9:Dc X pos es:=by rfl):E3 X (.Call (.Name x p) (e::es) [] pos) (DZ r t):=
 PE.mono (Kr hc hg hm hv ha hn Yd he X9) λY H Q' zz=>x7 zz λU M Q hs hm ht k=>⟨U,M,_,hs,hm,ht,λvs H1 ds M1 hd XT e1 q1=>⟨ds,M1,Q,hd,XT,q1,vZ e1 k⟩⟩
def Va(ds:T0 D)(M:Mp)(Q:DK):Prop:=match ds with
 | [.str z]=>z.length<=Ch/\Q (.int z.length) M
 | [.tup es]=>Q (.int es.length) M
 | [.ref a]=>(pA M a).elim False λes=>Q (.int es.length) M
 | [.rl es]=>Q (.int es.length) M
 | _=>False
def sO{K:qC}{d:D}(h:qy K H [d] vs):∃v,vs=[v]/\rZ K H d v:=by obtain⟨x,r,rfl,a,b⟩:=h.inv;rw[b.nil_inv];exact⟨x,Z',a⟩
def EZ{K:qC}{d e:D}(h:qy K H [d,e] vs):∃v u,vs=[v,u]/\rZ K H d v/\rZ K H e u:=by obtain⟨x,r,rfl,a,b⟩:=h.inv;obtain⟨y,rfl,c⟩:=sO b;exact⟨x,y,Z',a,c⟩
def qM:C3 X (.builtin "len") Va:=by
 intro XQ s Y H vs us Q' I rv h;obtain⟨ds,M,Q,hd,hm,q,k⟩:=h;unfold Va at q;split at q
 .obtain⟨v,rfl,hv⟩:=sO hd;cases hv.str_inv;exact ET XQ s Y H _ us Q' I rv ⟨_,Z',q.1,k _ _ _ _ .int hm .refl q.2⟩
 .obtain⟨v,rfl,hv⟩:=sO hd;obtain⟨a,xs,rfl,h1,h2⟩:=hv.mU;exact xc XQ s Y H _ us Q' I rv ⟨a,xs,Z',.inr h1,k _ _ _ _ (by rw[<-h2.length];exact .int) hm .refl q⟩
 .obtain⟨v,rfl,hv⟩:=sO hd;obtain⟨es,e0,q⟩:=rc q;cases hv.mO;obtain⟨xs,h1,h2,_⟩:=qD hm e0;exact xc XQ s Y H _ us Q' I rv ⟨_,xs,Z',.inl h1,k _ _ _ _ (by rw[<-h2.length];exact .int) hm .refl q⟩
 .obtain⟨v,rfl,hv⟩:=sO hd;obtain⟨a,xs,rfl,h1,h2⟩:=hv.ni;exact xc XQ s Y H _ us Q' I rv ⟨a,xs,Z',.inl h1.sq,k _ _ _ _ (by rw[<-h2.length];exact .int) hm .refl q⟩
 .exact q.elim
def UT(ds:T0 D)(M:Mp)(Q:DK):Prop:=match ds with
 | [.int i,.int j]=>Q (.int (if j<i then j else i)) M
 | _=>False
def SE(hc:X.calm=pc):C3 X (.builtin "min") UT:=by
 intro XQ s Y H vs us Q' I rv h;obtain⟨ds,M,Q,hd,hm,q,k⟩:=h;unfold UT at q;split at q
 .obtain⟨v,u,rfl,hv,hw⟩:=EZ hd;cases hv.int_inv;cases hw.int_inv;exact Ki hc XQ s Y H _ us Q' I rv ⟨_,_,Z',k _ _ _ _ .int hm .refl q⟩
 .exact q.elim
def MM(ds:T0 D)(M:Mp)(Q:DK):Prop:=match ds with
 | [.tup es]=>Q (.tup es) M
 | [.ref a]=>(pA M a).elim False λes=>Q (.tup es) M
 | [.rl es]=>Q (.tup es) M
 | _=>False
def sL:C3 X (.type "tuple") MM:=by
 intro XQ s Y H vs us Q' I rv h;obtain⟨ds,M,Q,hd,hm,q,k⟩:=h;unfold MM at q;split at q
 .obtain⟨v,rfl,hv⟩:=sO hd;obtain⟨a,xs,rfl,h1,h2⟩:=id hv.mU;exact wk XQ s Y H _ us Q' I rv ⟨a,xs,Z',.inr ⟨h1,k _ _ _ _ hv hm .refl q⟩⟩
 .obtain⟨v,rfl,hv⟩:=sO hd;obtain⟨es,e0,q⟩:=rc q;cases hv.mO;obtain⟨xs,h1,h2,_⟩:=qD hm e0;refine wk XQ s Y H _ us Q' I rv ⟨_,xs,Z',.inl ⟨h1,λl hl=>?_⟩⟩;have e:qY X.K H (upd H l (.tup xs)):=.new hl;exact k _ _ _ _ (.tup (.of qw) (h2.mono e)) (hm.add hl) e q
 .obtain⟨v,rfl,hv⟩:=sO hd;obtain⟨a,xs,rfl,h1,h2⟩:=hv.ni;refine wk XQ s Y H _ us Q' I rv ⟨_,xs,Z',.inl ⟨h1.sq,λl hl=>?_⟩⟩;have e:qY X.K H (upd H l (.tup xs)):=.new hl;exact k _ _ _ _ (.tup (.of qw) (h2.mono e)) (hm.add hl) e q
 .exact q.elim
def Rr(ds:T0 D)(M:Mp)(Q:DK):Prop:=match ds with
 | [d]=>(Md M d).elim False λes=>∀p,M p=Db->Q (.ref p) (pP M p (.lst es))
 | _=>False
def um:C3 X (.type "list") Rr:=by
 intro XQ s Y H vs us Q' I rv h;obtain⟨ds,M,Q,hd,hm,q,k⟩:=h;unfold Rr at q;split at q
 .obtain⟨v,rfl,hv⟩:=sO hd;obtain⟨es,e0,q⟩:=rc q;obtain⟨p,xs,rfl,h1,h2⟩:=FI hm hv e0;refine FL XQ s Y H _ us Q' I rv ⟨p,xs,Z',h1,λl hl=>?_⟩;have e:qY X.K H (upd H l (.lst xs)):=.new hl;exact k _ _ _ _ .ref (hm.new (c:=.lst es) hl ⟨_,qw,h2.mono e⟩) e (q l (hm.fresh hl))
 .exact q.elim
theorem xp{K:qC}{f:Str}:∀{fs:T0 (Str×D)} {vs:T0 (Str×V)},CH K H fs vs->(∀d,fs.lookup f=Fa d->∃v,vs.lookup f=Fa v/\rZ K H d v)/\(fs.lookup f=Db->vs.lookup f=Db)
 | [],[],_=>⟨λd e=>by simp at e,λ_=>rfl⟩
 | [],_::_,h=>by have:=h.1;simp at this
 | _::_,[],h=>by have:=h.1;simp at this
 | (g,d)::fs,(g',v)::vs,h=>by
  have h1:g'=g/\vs.map (·.1)=fs.map (·.1):=by
   have:=h.1
   simpa using this
  obtain⟨x,r,e,a,b⟩:=h.2.inv;have e':v::vs.map (·.2)=x::r:=e;cases e';obtain⟨i1,i2⟩:=xp (f:=f) (fs:=fs) (vs:=vs) ⟨h1.2,b⟩;rw[h1.1];refine⟨λd' e=>?_,λe=>?_⟩
  .rw[eF]at e ⊢;cases q:f==g with
   | true=>rw[q]at e;cases e;exact⟨v,Z',a⟩
   | false=>rw[q]at e;exact i1 d' e
  .rw[eF]at e ⊢;cases q:f==g with
   | true=>rw[q]at e;cases e
   | false=>rw[q]at e;exact i2 e
theorem Ju{f:Str}{d:D}:∀{fs:T0 (Str×D)},fs.lookup f=Fa d->f∈fs.map (·.1)
 | [],h=>by simp at h
 | (g,e)::r,h=>by
  rw[eF]at h;cases q:f==g with
  | true=>
   have z:f=g:=by simpa using q
   rw[z,dU];exact dG
  | false=>rw[q]at h;simp[Ju h]
def Ag(o:Option vd)(F:Uf->T0 (Str×D)->Prop):Prop:=match o with
 | some (.ins C fs)=>F C fs
 | _=>False
def pI{o:Option vd}{F:Uf->T0 (Str×D)->Prop}{C:Uf}{fs:T0 (Str×D)}(e:o=Fa (.ins C fs))(h:F C fs):Ag o F:=by rw[e];exact h
def xH{o:Option vd}(h:Ag o F):∃C fs,o=Fa (.ins C fs)/\F C fs:=by
 unfold Ag at h;split at h
 .exact⟨_,_,Z',h⟩
 .exact h.elim
def WL(f:Str)(ta:T3):T3:=λU M Q=>ta U M λx M1=>match x with
 | .ref a=>Ag (M1 a) λ_ fs=>(fs.lookup f).elim False λd=>Q d M1
 | _=>False
def pN{f:Str}(he:E3 X o ta)(hb:Ps o f X.env (wp o X.env)=wp o X.env:=by rfl):E3 X (.Attribute o f pos) (WL f ta):=PE.mono (Tj he hb) λY H Q' zz=>x7 zz λU M Q hs hm ht k=>
 ⟨U,M,_,hs,hm,ht,λv H1 d M1 hd XT e1 q1=>by
  cases d with
  | ref a=>cases hd.mO;obtain⟨C,fs,e,q1⟩:=xH q1;obtain⟨d,e2,q⟩:=rc q1;obtain⟨dx,vs,h1,cl,na,fo⟩:=XT a _ e;obtain⟨v,e3,hv⟩:=(xp fo).1 d e2;exact⟨a,C,dx,vs,v,Z',h1,cl,na f (Ju e2),e3,k v H1 d M1 hv XT e1 q⟩
  | _=>exact q1.elim⟩
noncomputable def wj(f:Str)(v:D):T0 (Str×D)->T0 (Str×D)
 | []=>[(f,v)]
 | (g,u)::r=>if g=f then(g,v)::r else(g,u)::wj f v r
theorem Fx{K:qC}{f:Str}(hv:rZ K H d v):∀{fs:T0 (Str×D)} {vs:T0 (Str×V)},CH K H fs vs->CH K H (wj f d fs) (vP f v vs)
 | [],[],_=>⟨Z',.cons hv .nil⟩
 | [],_::_,h=>by have:=h.1;simp at this
 | _::_,[],h=>by have:=h.1;simp at this
 | (g,e)::fs,(g',u)::vs,h=>by
  have h1:g'=g/\vs.map (·.1)=fs.map (·.1):=by
   have:=h.1
   simpa using this
  obtain⟨x,r,e1,a,b⟩:=h.2.inv;have e':u::vs.map (·.2)=x::r:=e1;cases e';obtain⟨hg,ht⟩:=h1;subst hg;rw[show wj f d ((g',e)::fs)=(if g'=f then(g',d)::fs else(g',e)::wj f d fs)from Z',show vP f v ((g',u)::vs)=(if g'=f then(g',v)::vs else(g',u)::vP f v vs)from Z'];by_cases q:g'=f
  .rw[c9 q,c9 q];exact⟨by simpa using ht,.cons hv b⟩
  .rw[cY q,cY q];obtain⟨i1,i2⟩:=Fx hv (fs:=fs) (vs:=vs) ⟨ht,b⟩;exact⟨by simpa using i1,.cons a i2⟩
theorem CU{f:Str}:∀{fs:T0 (Str×D)} {g:Str},g∈(wj f d fs).map (·.1)->g=f\/g∈fs.map (·.1)
 | [],g,h=>.inl (by simpa [wj]using h)
 | (k,e)::r,g,h=>by
  rw[show wj f d ((k,e)::r)=(if k=f then(k,d)::r else(k,e)::wj f d r)from Z']at h;by_cases q:k=f
  .rw[c9 q]at h;exact .inr (by simpa using h)
  .rw[cY q]at h;rw[dU,de]at h;rcases h with h|h
   .exact .inr (by simp[h])
   .rcases CU h with z|z
    .exact .inl z
    .exact .inr (by simp;right;simpa using z)
def Ut(K:qC)(f:Str)(ta tv:T3):xC:=λD U M=>tv U M λy M1=>ta U M1 λx M2=>match x with
 | .ref a=>Ag (M2 a) λC fs=>ux K C f/\fs.length<1000/\D.nx U (pP M2 a (.ins C (wj f y fs)))
 | _=>False
def qu{f:Str}(ha:E3 X o ta)(hv:E3 X value tv)(Zh:sB value (Fa (.Attribute o f X0)) pos.line X.env=pure lf:=by rfl):S3 X (.Assign [.Attribute o f X0] value pos) (Ut X.K f ta tv):=
 PS.mono (Tz ha hv Zh) λD' Y H zz=>Kj zz λU M D hs hm ht k1 k2 k3 k4=>
 ⟨U,M,_,hs,hm,ht,λy H1 dy M1 hy XT e1 q1=>⟨U,M1,_,hs.mono e1,XT,q1,λv H2 d M2 hd Ya e2 q2=>by
  cases d with
  | ref a=>
   cases hd.mO;obtain⟨C,fs,e,q2⟩:=xH q2;obtain⟨na,hl,q⟩:=q2;obtain⟨dx,vs,h1,cl,nn,fo⟩:=Ya a _ e;have XY:vs.length=fs.length:=by have:=eK List.length fo.1;simpa using this
   refine⟨a,C,dx,vs,Z',h1,cl,na,by omega,?_⟩;obtain⟨YM,e3⟩:=Ya.put (p:=a) (o:=.ins C dx (vP f y vs)) (c:=.ins C (wj f dy fs)) e λx=>⟨dx,_,qw,cl,λg hg=>by
    rcases CU hg with z|z
    .rw[z];exact na
    .exact nn g z,Fx ((hy.mono e2).mono x) (fo.mono x)⟩
   exact k1 Y _ U _ (hs.mono (e1.trans (e2.trans e3))) YM (e1.trans (e2.trans e3)) Z' q
  | _=>exact q2.elim⟩⟩
def Rz(C:Uf)(sp:rH)(t:xI):T3:=λU M Q=>t U M λds M1=>∀x,M1 x=Db->sp (.ref x::ds) (pP M1 x (.ins C [])) λd M2=>d=.mS/\Q (.ref x) M2
def Mf{K:qC}{xa dx:Uf}(hm:HM K H M)(cl:Cls K C)(h1:H xa=Db)(h2:H dx=Db)(ne:dx≠xa):HM K (upd (upd H dx (.own xa)) xa (.ins C dx [])) (pP M xa (.ins C []))/\qY K H (upd (upd H dx (.own xa)) xa (.ins C dx [])):=by
 have Yz:upd H dx (.own xa) xa=Db:=by rw[qh (dO ne)];exact h1
 exact⟨(hm.add (p:=dx) (o:=.own xa) h2).new Yz ⟨dx,[],qw,cl,λg hg=>by simp at hg,Z',.nil⟩,qY.trans (.new h2) (.new Yz)⟩
def PM(cl:Cls X.K C)(Mk':Mk X.K C f)(F:Ua X.prog X.w X.K X.mg X.base k f fd ps sp)(hr:sA (k+1) X.A)(hg:Gl X x)(hm:X.mg x=Fa (.ref C))(hb:vb X.K fd ps [])(ha:A3 X (e::es) t) (Yd:zb x:=by decide) (he:Bw X e es:=by rfl) (X9:Dc X pos es:=by rfl):
  E3 X (.Call (.Name x p) (e::es) [] pos) (Rz C sp t):=PE.mono (Pi Mk' F hr hg hm hb .nil (Gy (X:=X)) ha Yd he X9) λY H Q' zz=>x7 zz λU M Q hs hm ht k=>
 ⟨U,M,_,hs,hm,ht,λvs H1 ds M1 hd XT e1 q1=>λxa dx n1 n2 ne=>by
  obtain⟨Ya,e2⟩:=Mf XT cl n1 n2 ne;refine⟨.ref xa::ds,_,_,?_,Ya,q1 xa (XT.fresh n1),λv H3 d M3 hd3 YM e3 q3=>?_⟩
  .rw[eR];exact .cons .ref (hd.mono e2)
  .obtain⟨z,q3⟩:=q3;subst z;exact⟨hd3.mQ,k _ H3 _ M3 .ref YM (e1.trans (e2.trans e3)) q3⟩⟩
def HJ(m:Str)(R:Uf->Sp->Prop)(ta:TE)(t:TA):TE:=λY H Q=>ta Y H λx H1=>∃a C dx fs sp,x=.ref a/\H1 a=Fa (.ins C dx fs)/\fs.lookup m=Db/\R C sp/\t Y H1 λvs H2=>sp (x::vs) H2 Q E0
def yd(P:Pg)(w:Wo)(K:qC)(mg:QQZ)(base:No)(k:Nat)(m:Str)(C:Uf)(sp:Sp):Prop:=Cls K C/\∃f fd ps,vQ K C m f/\xA P w K mg base OB k f fd ps sp/\vb K fd ps []
def LJ{R:Uf->Sp->Prop}{ta:TE}{t:TA}{pl:Sem Bool}(he:PE X o ta)(hR:∀C sp,R C sp->yd X.prog X.w X.K X.mg X.base k m C sp)(hr:sA k X.A)(ha:PA X (e::es) t) (Yf:Bw X e es:=by rfl) (X9:Dc X pos es:=by rfl)
  (ht:wp (.Call (.Attribute o m XU) (e::es) [] pos) X.env=(do
   let ov<-wp o X.env
   XXc XU.atName
   let(f,first)<-ZB [ov] (TW ov m pl)
   XXh pos f first (xz pos (Tl (e::es) X.env)) (xL pos (Rs [] X.env))):=by rfl):
  PE X (.Call (.Attribute o m XU) (e::es) [] pos) (HJ m R ta t):=by
 intro XQ s Y H Q I h;refine jY (pl:=pl) (sS (he XQ s Y H _ I h) λu s1 zz=>?_) ht;obtain⟨x,H1,I1,rx,a,C,dx,fs,sp,ex,ea,l,hRC,q⟩:=zz;obtain⟨c,f,fd,ps,hm,F,hb⟩:=hR C sp hRC;subst ex;obtain rfl:u=Value.ref a:=rx;refine Co I1 ea c hm l ?_;refine iO (first:=[.ref a]) (h₀:=X.base) I.ok.mod.oC hm.kp (sS (ha pos XQ s1 Y H1 _ I1 q) λus s2 zz=>x5 zz λvs H2 I2 r q2=>⟨I2.nk,?_⟩) Yf X9;exact ES (us:=.ref a::us) (vs:=.ref a::vs) F hr hb .nil (Gy (X:=X)) I2 (.cons Z' r) (by rw[eR];exact q2)
def Kv{R:Uf->Sp->Prop}{ta:TE}{pl:Sem Bool}(he:PE X o ta)(hR:∀C sp,R C sp->yd X.prog X.w X.K X.mg X.base k m C sp)(hr:sA k X.A) (ht:wp (.Call (.Attribute o m XU) [] [] pos) X.env=(do
   let ov<-wp o X.env
   XXc XU.atName
   let(f,first)<-ZB [ov] (TW ov m pl)
   XXh pos f first (xz pos (Tl [] X.env)) (xL pos (Rs [] X.env))):=by rfl):
  PE X (.Call (.Attribute o m XU) [] [] pos) (HJ m R ta U'):=by
 intro XQ s Y H Q I h;refine jY (pl:=pl) (sS (he XQ s Y H _ I h) λu s1 zz=>?_) ht;obtain⟨x,H1,I1,rx,a,C,dx,fs,sp,ex,ea,l,hRC,q⟩:=zz;obtain⟨c,f,fd,ps,hm,F,hb⟩:=hR C sp hRC;subst ex;obtain rfl:u=Value.ref a:=rx;refine Co I1 ea c hm l ?_;exact W.callWith_K0 (first:=[.ref a]) I1.nk hm.kp (ES (us:=[.ref a]) (vs:=[.ref a]) F hr hb .nil (Gy (X:=X)) I1 (.cons Z' .nil) (by rw[eR];exact q))
def AQ(m:Str)(R:Uf->rH->Prop)(ta:T3)(t:xI):T3:=λU M Q=>ta U M λx M1=>match x with
 | .ref a=>Ag (M1 a) λC fs=>fs.lookup m=Db/\∃sp,R C sp/\t U M1 λds M2=>sp (x::ds) M2 Q
 | _=>False
def WX(K:qC)(R:Uf->rH->Prop):Uf->Sp->Prop:=λC sp'=>∃sp,R C sp/\sp'=OA K sp
def Je:∀Y H Q',lo X.K (AQ m R ta t) Y H Q'->HJ m (WX X.K R) (lo X.K ta) (Xh X.K t) Y H Q':=λY H Q' zz=>x7 zz λU M Q hs hm ht k=>
 ⟨U,M,_,hs,hm,ht,λv H1 d M1 hd XT e1 q1=>by
  cases d with
  | ref a=>cases hd.mO;obtain⟨C,fs,e,q1⟩:=xH q1;obtain⟨hn,sp,hR,q⟩:=q1;obtain⟨dx,vs,h1,cl,na,fo⟩:=XT a _ e;exact⟨a,C,dx,vs,_,Z',h1,(xp fo).2 hn,⟨sp,hR,Z'⟩,U,M1,_,hs.mono e1,XT,q,λus H2 ds M2 Y2 Ya e2 q2=>⟨.ref a::ds,M2,Q,.cons .ref Y2,Ya,q2,vZ (e1.trans e2) k⟩⟩
  | _=>exact q1.elim⟩
def EG{R:Uf->rH->Prop}{pl:Sem Bool}(he:E3 X o ta)(hR:∀C sp,R C sp->yd X.prog X.w X.K X.mg X.base k m C (OA X.K sp))(hr:sA k X.A)(ha:A3 X (e::es) t) (Yf:Bw X e es:=by rfl) (X9:Dc X pos es:=by rfl)
  (ht:wp (.Call (.Attribute o m XU) (e::es) [] pos) X.env=(do
   let ov<-wp o X.env
   XXc XU.atName
   let(f,first)<-ZB [ov] (TW ov m pl)
   XXh pos f first (xz pos (Tl (e::es) X.env)) (xL pos (Rs [] X.env))):=by rfl):
  E3 X (.Call (.Attribute o m XU) (e::es) [] pos) (AQ m R ta t):=PE.mono (LJ (R:=WX X.K R) he (λC sp' ⟨sp,h,z⟩=>by rw[z];exact hR C sp h) hr ha Yf X9 ht) Je
def BR{R:Uf->rH->Prop}{pl:Sem Bool}(he:E3 X o ta)(hR:∀C sp,R C sp->yd X.prog X.w X.K X.mg X.base k m C (OA X.K sp))(hr:sA k X.A) (ht:wp (.Call (.Attribute o m XU) [] [] pos) X.env=(do
   let ov<-wp o X.env
   XXc XU.atName
   let(f,first)<-ZB [ov] (TW ov m pl)
   XXh pos f first (xz pos (Tl [] X.env)) (xL pos (Rs [] X.env))):=by rfl):
  E3 X (.Call (.Attribute o m XU) [] [] pos) (AQ m R ta x9):=PE.mono (Kv (R:=WX X.K R) he (λC sp' ⟨sp,h,z⟩=>by rw[z];exact hR C sp h) hr ht) λY H Q' h=>by
 obtain⟨U,M,Q,hs,hm,ht,k⟩:=Je (t:=x9) Y H Q' h;refine⟨U,M,Q,hs,hm,ht,λv H' d M' x1 x2 x3 x4=>?_⟩;obtain⟨a,C,dx,fs,sp,e1,e2,e3,e4,δ',XX,Q'',y1,y2,y3,y4⟩:=k v H' d M' x1 x2 x3 x4;exact⟨a,C,dx,fs,sp,e1,e2,e3,e4,y4 [] H' [] XX .nil y2 .refl y3⟩
structure Gd(K:qC)(H1:Hp)(J:It)(ds:List D)(ok:Mp->Prop):Prop where
 go:∀i H M,i<ds.length->HM K H M->ok M->qY K H1 H->J.go i H
 pq:∀i d H M x H',ds[i]?=Fa d->HM K H M->ok M->qY K H1 H->J.pq i H x H'->rZ K H' d x/\HM K H' M/\qY K H H'
 stop:∀H M,HM K H M->ok M->qY K H1 H->J.stop ds.length H
abbrev OC:=vt->Mp->(T0 D->(Mp->Prop)->Mp->Prop)->Prop
def Xt(K:qC)(wi:OC):TI:=λY H R'=>C9 λU M R=>zk K H Y U/\HM K H M/\wi U M R/\∀J H1 ds ok M1,Gd K H1 J ds ok->HM K H1 M1->qY K H H1->ok M1->R ds ok M1->R' J H1
def I3(X:Cx)(tg iter:Go)(wi:OC):Prop:=PI X tg iter (Xt X.K wi)
def PI.mono{t t':TI}(h:PI X tg e t)(m:∀Y H Q,t' Y H Q->t Y H Q):PI X tg e t':=λXQ s Y H Q I q=>h XQ s Y H Q I (m Y H Q q)
variable {H1:Hp}
def Ms:Gd K H1 (V7 K a) ds (λM=>pA M a=Fa ds) where
 go:=λi H M hi hm ok _=>by obtain⟨xs,h1,h2,_⟩:=qD hm ok;obtain⟨x,e,_⟩:=h2.get (cV hi);exact⟨xs,x,h1,e⟩
 pq:=λi d H M x H' hd hm ok _ y=>by obtain⟨xs,h1,h2,_⟩:=qD hm ok;obtain⟨e,y⟩:=y;subst e;obtain⟨x',e,hx⟩:=h2.get hd;have:=y xs h1;rw[e]at this;cases this;exact⟨hx,hm,.refl⟩
 stop:=λH M hm ok _=>by obtain⟨xs,h1,h2,_⟩:=qD hm ok;exact⟨xs,h1,by rw[h2.length];exact dq _⟩
def Pp(h1:vn K H1 a xs)(h2:qy K H1 ds xs):Gd K H1 (W' K a) ds (λ_=>True) where
 go:=λi H M hi hm ok e1=>by obtain⟨x,e,_⟩:=h2.get (cV hi);exact⟨xs,x,e1.t _ _ h1,e⟩
 pq:=λi d H M x H' hd hm ok e1 y=>by obtain⟨e,y⟩:=y;subst e;obtain⟨x',e,hx⟩:=h2.get hd;have:=y xs (e1.t _ _ h1);rw[e]at this;cases this;exact⟨hx.mono e1,hm,.refl⟩
 stop:=λH M hm ok e1=>⟨xs,e1.t _ _ h1,by rw[h2.length];exact dq _⟩
def Sa(h1:QK K H1 a xs)(h2:qy K H1 ds xs):Gd K H1 (V7 K a) ds (λ_=>True) where
 go:=λi H M hi hm ok e1=>by obtain⟨x,e,_⟩:=h2.get (cV hi);exact⟨xs,x,(h1.mono e1).sq,e⟩
 pq:=λi d H M x H' hd hm ok e1 y=>by obtain⟨e,y⟩:=y;subst e;obtain⟨x',e,hx⟩:=h2.get hd;have:=y xs (h1.mono e1).sq;rw[e]at this;cases this;exact⟨hx.mono e1,hm,.refl⟩
 stop:=λH M hm ok e1=>⟨xs,(h1.mono e1).sq,by rw[h2.length];exact dq _⟩
def Ks{lo:Int}:Gd K H1 (VZ lo n) ((List.range n).map λi=>D.int (lo+(i:Nat))) (λ_=>True) where
 go:=λi H M hi hm ok e1=>by
  have z:i<n:=by simpa using hi
  exact z
 pq:=λi d H M x H' hd hm ok e1 y=>by
  obtain⟨e,y⟩:=y;subst e;subst y;have hi:i<n:=by
   have:=(cX.mp hd).1
   simpa using this
  have hd':d=D.int (lo+(i:Nat)):=by rw[dD,kH hi]at hd;exact(dh hd).symm
  subst hd';exact⟨.int,hm,.refl⟩
 stop:=λH M hm ok e1=>by show n<=_;simp
variable {scope:XXd}{ix:T0 (Option Nat)}{N':QQQ}{iter YI:Go}{Ys:T0 Go}{wi:OC}{g:Dv}{tt:AM}{te:T3}{tg:Go}
def VG(t:T3):OC:=λU M R=>t U M λx M1=>match x with
 | .tup ds=>R ds (λ_=>True) M1
 | .ref a=>(pA M1 a).elim False λds=>R ds (λM=>pA M a=Fa ds) M1
 | .rl ds=>R ds (λ_=>True) M1
 | .str z=>R (z.cps.toList.map λc=>D.str ⟨#[c]⟩) (λ_=>True) M1
 | _=>False
def OS{K:qC}:Gd K H1 (W1 z) (z.cps.toList.map λc=>D.str ⟨#[c]⟩) (λ_=>True) where
 go:=λi H M hi hm ok _=>by
  show i<z.cps.size
  simpa using hi
 pq:=λi d H M x H' hd hm ok _ y=>by obtain⟨e,c,e1,e2⟩:=y;subst e e2;rw[dD,Array.getElem?_toList,e1]at hd;cases hd;exact⟨.str,hm,.refl⟩
 stop:=λH M hm ok _=>by show _=z.cps.size;simp
def qQ{t:T3}(h:E3 X l t)(hc:X.calm=pc:=by rfl):I3 X tg l (VG t):=PI.mono (P7 hc h) λY H R' zz=>x7 zz λU M R hs hm ht k=>
 ⟨U,M,_,hs,hm,ht,λv H1 d M1 hd XT e1 q1=>by
  cases d with
  | tup ds=>obtain⟨a,xs,rfl,h1,h2⟩:=hd.mU;exact .inl ⟨a,Z',.inr ⟨⟨xs,h1⟩,k _ H1 ds _ M1 (Pp h1 h2) XT e1 trivial q1⟩⟩
  | ref a=>cases hd.mO;obtain⟨ds,e0,q⟩:=rc q1;obtain⟨xs,h1,h2,_⟩:=qD XT e0;exact .inl ⟨a,Z',.inl ⟨⟨xs,h1⟩,k _ H1 ds _ M1 Ms XT e1 e0 q⟩⟩
  | str z=>exact .inr ⟨z,hd.str_inv,k _ H1 _ _ M1 OS XT e1 trivial q1⟩
  | rl ds=>obtain⟨a,xs,rfl,h1,h2⟩:=hd.ni;exact .inl ⟨a,Z',.inl ⟨⟨xs,h1.sq⟩,k _ H1 ds _ M1 (Sa h1 h2) XT e1 trivial q1⟩⟩
  | _=>exact q1.elim⟩
def VB(t:xI):OC:=λU M R=>t U M λds M1=>match ds with
 | [.int j]=>(-(2 ^ 62)<=j/\j<2 ^ 62)/\R ((List.range j.toNat).map λi=>D.int (0+(i:Nat))) (λ_=>True) M1
 | [.int i,.int j]=>(-(2 ^ 62)<=i/\i<2 ^ 62/\-(2 ^ 62)<=j/\j<2 ^ 62)/\R ((List.range (j - i).toNat).map λn=>D.int (i+(n:Nat))) (λ_=>True) M1
 | _=>False
def wJ{a:Go}{ta:xI}(hg:Gl X "range")(hm:X.mg "range"=Db)(ha:A3 X [a] ta)(hs:Tl [a] X.env=[(lf,wp a X.env)]:=by rfl):I3 X tg (.Call (.Name "range" p) [a] [] pos) (VB λU M Q=>ta U M λds M1=>ds.length=1/\Q ds M1):=
 PI.mono (Ku hg hm ha hs) λY H R' zz=>x7 zz λU M R hs hm ht k=>⟨U,M,_,hs,hm,ht,λvs H1 ds M1 hd XT e1 q1=>by
  obtain⟨hl,q1⟩:=q1;split at q1
  .obtain⟨v,rfl,hv⟩:=sO hd;cases hv.int_inv;exact⟨_,Z',q1.1.1,q1.1.2,k _ H1 _ _ M1 Ks XT e1 trivial q1.2⟩
  .simp at hl
  .exact q1.elim⟩
def EN(g:Dv)(tb:xC)(ok:Mp->Prop)(E:Hl):T0 D->vt->Mp->Prop
 | [],U,M=>E.nx U M
 | d::r,U,M=>g d U M λδ2 M2=>tb {E with nx:=λδ' M'=>ok M'/\EN g tb ok E r δ' M',ct:=λδ' M'=>ok M'/\EN g tb ok E r δ' M',bk:=E.nx} δ2 M2
def W0(wi:OC)(g:Dv)(tb:xC):xC:=λE U M=>wi U M λds ok M1=>EN g tb ok E ds U M1
def vM{tb:xC}(hp:PassesOwn (Tk X.prog X.w) X.A X.env X.xe)(hc:X.calm=pc)(hi:I3 X tg iter wi)(hg:G3 X tg g)(hb:IP X body tb) (hs:∀x,AT iter X.env x=pure x:=by intro _;rfl):S3 X (.For tg iter body [] pos) (W0 wi g tb):=PS.mono (Sr hp hc hi hg hb hs) λD' Y H zz=>Kj zz λU M E hs hm ht k1 k2 k3 k4=>
 ⟨U,M,_,hs,hm,ht,λJ H1 ds ok M1 S XT e1 ok1 q1=>by
  refine⟨λi m σ' H'=>m=ds.length - i/\i<=ds.length/\∃δ' M',zk X.K H' σ' δ'/\HM X.K H' M'/\ok M'/\qY X.K H1 H'/\σ'.length=Y.length/\EN g tb ok E (ds.drop i) δ' M',⟨ds.length,by simp,eN _,U,M1,hs.mono e1,XT,ok1,.refl,Z',by simpa using q1⟩,?_⟩
  rintro i m σ' H' ⟨rfl,hi,δ',M',hs',Zi,ok',e',l',q'⟩
  by_cases X2:i<ds.length
  .rw[gJ X2]at q';refine .inr ⟨S.go i H' M' X2 Zi ok' e',λσ2 H2=>∃δ2 M2,zk X.K H2 σ2 δ2/\HM X.K H2 M2/\ok M2/\qY X.K H1 H2/\σ2.length=Y.length/\EN g tb ok E (ds.drop (i+1)) δ2 M2,λσ2 H2 z=>⟨ds.length - (i+1),by omega,Z',X2,z⟩,λx H2 y=>?_⟩;obtain⟨hx,Ya,e2⟩:=S.pq i ds[i] H' M' x H2 (cV X2) Zi ok' e' y;refine⟨ds[i],δ',M',_,hx,hs'.mono e2,Ya,q',λσ3 H3 δ3 M3 x1 x2 x3 x4 x5=>?_⟩;refine⟨δ3,M3,_,x1,x2,x5,λσ4 H4 δ4 M4 y1 y2 y3 y4 y5=>?_,λv H4 d M4 y1 y2 y3 y4=>?_,λσ4 H4 δ4 M4 y1 y2 y3 y4 y5=>?_,λσ4 H4 δ4 M4 y1 y2 y3 y4 y5=>?_⟩
   .exact⟨δ4,M4,y1,y2,y5.1,e'.trans (e2.trans (x3.trans y3)),by rw[y4,x4,l'],y5.2⟩
   .exact k2 v H4 d M4 y1 y2 (e1.trans (e'.trans (e2.trans (x3.trans y3)))) y4
   .exact k1 σ4 H4 δ4 M4 y1 y2 (e1.trans (e'.trans (e2.trans (x3.trans y3)))) (by rw[y4,x4,l']) y5
   .exact⟨δ4,M4,y1,y2,y5.1,e'.trans (e2.trans (x3.trans y3)),by rw[y4,x4,l'],y5.2⟩
  .have e:i=ds.length:=by omega
   subst e;rw[jM]at q';exact .inl ⟨S.stop H' M' Zi ok' e',k1 σ' H' δ' M' hs' Zi (e1.trans e') l' q'⟩⟩
noncomputable def PY(ix:T0 (Option Nat))(U:vt):vt:=ix.map λo=>o.bind λi=>(U[i]?).join
def Q5{K:qC}(h:zk K H Y U):zk K H (Qr ix Y) (PY ix U):=λi d q=>by
 unfold PY at q;unfold Qr;rw[dD]at q ⊢;cases e:ix[i]? with
 | none=>rw[e]at q;cases q
 | some o=>
  rw[e]at q;cases o with
  | none=>cases q
  | some j=>
   have q':(U[j]?).join=Fa d:=dh q;have e4:U[j]?=Fa (Fa d):=by
    cases r:U[j]? with
    | none=>rw[r]at q';cases q'
    | some w=>rw[r]at q';exact eK Fa q'
   obtain⟨v,e5,hv⟩:=h j d e4;refine⟨v,?_,hv⟩;show Fa ((Y[j]?).join)=Fa (Fa v);rw[e5];rfl
def vm(g:Dv)(tt:AM)(te:T3)(ok:Mp->Prop)(Q:DK):T0 D->T0 D->vt->Mp->Prop
 | [],acc,_,M=>acc.length<=Ch/\∀p,M p=Db->Q (.ref p) (pP M p (.lst acc))
 | d::r,acc,U,M=>acc.length<Ch/\g d U M λδ2 M2=>tt δ2 M2 λb M3=>if b=pc then te δ2 M3 λy M4=>ok M4/\vm g tt te ok Q r (acc++[y]) δ2 M4 else ok M3/\vm g tt te ok Q r acc δ2 M3
def LO(ix:T0 (Option Nat))(wi:OC)(g:Dv)(tt:AM)(te:T3):T3:=λU M Q=>wi U M λds ok M1=>vm g tt te ok Q ds [] (PY ix U) M1
def F3(X:Cx)(Ys:T0 Go)(t:AM):Prop:=PF X Ys (T8 X.K t)
def PF.mono{e:T0 Go}{t t':TT}(h:PF X e t)(m:∀Y H Q,t' Y H Q->t Y H Q):PF X e t':=λXQ s Y H Q I q=>h XQ s Y H Q I (m Y H Q q)
def Cw:AM:=λ_ M Q=>Q pc M
def rY:F3 X [] Cw:=PF.mono SW λY H Q' zz=>x7 zz λU M Q hs hm ht k=>k pc H M hm .refl ht
def vE{t:AM}(h:B3 X c t):F3 X [c] t:=Tv h
def Jl:∀Y H Q',lo X.K (LO ix wi g tt te) Y H Q'->MH ix (Xt X.K wi) (VS X.K g) (T8 X.K tt) (lo X.K te) Y H Q':=λY H Q' zz=>x7 zz λU M Q hs hm ht k=>
 ⟨U,M,_,hs,hm,ht,λJ H1 ds ok M1 S XT e1 ok1 q1=>by
  refine⟨λi m ys σ' H'=>m=ds.length - i/\i<=ds.length/\∃δ' M' acc,zk X.K H' σ' δ'/\HM X.K H' M'/\qy X.K H' acc ys/\ok M'/\qY X.K H1 H'/\vm g tt te ok Q (ds.drop i) acc δ' M',⟨ds.length,by simp,eN _,PY ix U,M1,[],Q5 (hs.mono e1),XT,.nil,ok1,.refl,by simpa using q1⟩,?_⟩
  rintro i m ys σ' H' ⟨rfl,hi,δ',M',acc,hs',Zi,Zo,ok',e',q'⟩
  by_cases X2:i<ds.length
  .rw[gJ X2]at q';obtain⟨hz,q'⟩:=q';refine .inr ⟨S.go i H' M' X2 Zi ok' e',by rw[<-Zo.length];exact hz,λx H2 y=>?_⟩;obtain⟨hx,Ya,e2⟩:=S.pq i ds[i] H' M' x H2 (cV X2) Zi ok' e' y;refine⟨ds[i],δ',M',_,hx,hs'.mono e2,Ya,q',λσ3 H3 δ3 M3 x1 x2 x3 x4 x5=>?_⟩;refine⟨δ3,M3,_,x1,x2,x5,λb H4 M4 y2 y3 y5=>?_⟩;cases b with
   | true=>rw[c9 Z']at y5 ⊢;refine⟨δ3,M4,_,x1.mono y3,y2,y5,λv H5 d M5 z1 z2 z3 z4=>⟨ds.length - (i+1),by omega,Z',X2,δ3,M5,acc++[d],x1.mono (y3.trans z3),z2,(Zo.mono (e2.trans (x3.trans (y3.trans z3)))).snoc z1,z4.1,e'.trans (e2.trans (x3.trans (y3.trans z3))),z4.2⟩⟩
   | false=>rw[cY dz]at y5 ⊢;exact⟨ds.length - (i+1),by omega,Z',X2,δ3,M4,acc,x1.mono y3,y2,Zo.mono (e2.trans (x3.trans y3)),y5.1,e'.trans (e2.trans (x3.trans y3)),y5.2⟩
  .have e:i=ds.length:=by omega
   subst e;rw[jM]at q';refine .inl ⟨S.stop H' M' Zi ok' e',by rw[<-Zo.length];exact q'.1,λp hp=>?_⟩;have e5:qY X.K H' (upd H' p (.lst ys)):=.new hp;exact k _ _ _ _ .ref (Zi.new (c:=.lst acc) hp ⟨_,qw,Zo.mono e5⟩) (e1.trans (e'.trans e5)) (q'.2 p (Zi.fresh hp))⟩
def qO(hc:X.calm=pc)(S:sF X scope ix N')(hi:I3 X tg iter wi)(hg:∀{C s0 H0 ex},G3 (X.comp scope N' C s0 H0 ex) tg g)(ht:∀{C s0 H0 ex},F3 (X.comp scope N' C s0 H0 ex) Ys tt)(he:∀{C s0 H0 ex},E3 (X.comp scope N' C s0 H0 ex) YI te) (hs:∀x,AT iter X.env x=pure x:=by intro _;rfl):E3 X (.ListComp YI [⟨tg,iter,Ys,0⟩] scope pos) (LO ix wi g tt te):=PE.mono (QT (g:=VS X.K g) (tt:=T8 X.K tt) (te:=lo X.K te) hc S hi (λ_ _ _ _=>hg) (λ_ _ _ _=>ht) (λ_ _ _ _=>he) hs) Jl
def vD{i:Nat}{x:Str}{px Zz:Pos}(hN:X.N.Nodup)(Z7:X.N[i]?=Fa x)(hx:Ll X.env.scope x)(hc:X.calm=pc)(S:sF X scope ix N')(hi:I3 X tg iter wi)(hg:∀{C s0 H0 ex},G3 (X.comp scope N' C s0 H0 ex) tg g)(ht:∀{C s0 H0 ex},F3 (X.comp scope N' C s0 H0 ex) Ys tt) (he:∀{C s0 H0 ex},E3 (X.comp scope N' C s0 H0 ex) YI te) (Zh:sB (.ListComp YI [⟨tg,iter,Ys,0⟩] scope pos) (Fa (.Name x px)) Zz.line X.env=pure pc:=by rfl)
  (hf:Lm X x:=by first|exact .inl Z'|exact .inr Z'|assumption) (hs:∀x,AT iter X.env x=pure x:=by intro _;rfl):
  S3 X (.Assign [.Name x px] (.ListComp YI [⟨tg,iter,Ys,0⟩] scope pos) Zz) (GS (LO ix wi g tt te) (tE i)):=PS.nX (HW (g:=VS X.K g) (tt:=T8 X.K tt) (te:=lo X.K te) hN Z7 hx hc S hi (λ_ _ _ _=>hg) (λ_ _ _ _=>ht) (λ_ _ _ _=>he) Zh hf hs) λD' Y H hl zz=>Kj zz λU M D hs hm ht k1 k2 k3 k4=>
 Jl Y H _ ⟨U,M,_,hs,hm,ht,λv H1 d M1 hd XT e1 q1=>k1 _ H1 _ M1 ((hs.mono e1).set hd (by rw[hl];exact(cX.mp Z7).1)) XT e1 (by simp) q1⟩
def Xl(hr:sA k A):A.units+9<Y':=by have:=hr.units;omega
noncomputable def IK(sc:XXd)(N:QQQ)(scope:XXd)(ix:T0 (Option Nat))(N':QQQ):Bool:=
 (scope.kind==.function)&&(scope.names.all λy=>!(y.2==.cell))&&(scope.names.all λy=>!(y.2==.local)||(scope.names.lookup y.1==Fa .local))&&
 (scope.names.all λy=>!(y.2==.free)||(sc.names.lookup y.1==Fa .cell)||(sc.names.lookup y.1==Fa .free))&&(ix.length==N'.length)&&
 ((ix.zip N').all λp=>match p.1 with|none=>pc|some i=>(N[i]?==Fa p.2)&&(scope.names.lookup p.2==Fa .free))
def Vj{X:Cx}(h:IK X.env.scope X.N scope ix N'=pc):sF X scope ix N':=by
 unfold IK at h;simp only[dS]at h;obtain⟨⟨⟨⟨⟨h1,h2⟩,h3⟩,h4⟩,h5⟩,h6⟩:=h;refine⟨by simpa using h1,λy hy e=>?_,λy hy e=>?_,λy hy e=>?_,by simpa using h5,λj i x e1 e2=>?_⟩
 .have:=eD.mp h2 y hy;rw[e]at this;simp at this
 .have:=eD.mp h3 y hy;rw[e]at this
  simpa using this
 .have:=eD.mp h4 y hy;rw[e]at this
  simpa using this
 .have hm:(Fa i,x)∈ix.zip N':=by
   have:(ix.zip N')[j]?=Fa (Fa i,x):=by rw[ii];exact⟨e1,e2⟩
   exact fk this
  have:=eD.mp h6 _ hm
  simpa using this
section
variable {a b:Go}
def JE(op YH:CmpOp)(ta tb tc:T3):T3:=λU M Q=>ta U M λx M1=>tb U M1 λy M2=>P' op x y M2 λz M3=>match z with
 | .bl k=>if k=pc then tc U M3 λw M4=>P' YH y w M4 Q else Q (.bl lf) M3
 | _=>False
def uN{op YH:CmpOp}(hu:X.A.units+9<Y')(ha:E3 X a ta)(hb:E3 X b tb)(hc:E3 X c tc)(hmk:lastMarks [op,YH] [b,c]=lf:=by rfl):
  E3 X (.Compare a [op,YH] [b,c] pos) (JE op YH ta tb tc):=PE.mono (Mz (KL op hu) (KL YH hu) ha hb hc hmk) λY H Q' zz=>x7 zz λU M Q hs hm ht k=>
 ⟨U,M,_,hs,hm,ht,λv H1 x M1 hx XT e1 q1=>⟨U,M1,_,hs.mono e1,XT,q1,λu H2 y M2 hy Ya e2 q2=>⟨x,y,M2,_,hx.mono e2,hy,Ya,q2,λw H3 z M3 hz YM e3 q3=>by
  cases z with
  | bl c=>
   refine⟨c,hz.mR,?_⟩;cases c with
   | true=>refine(c9 Z').mpr ⟨U,M3,_,hs.mono (e1.trans (e2.trans e3)),YM,(c9 Z').mp q3,λw' H4 d M4 hd hm4 e4 q4=>⟨y,d,M4,Q,hy.mono (e3.trans e4),hd,hm4,q4,vZ (e1.trans (e2.trans (e3.trans e4))) k⟩⟩
   | false=>exact(cY dz).mpr (k _ H3 _ M3 .bl YM (e1.trans (e2.trans e3)) ((cY dz).mp q3))
  | _=>exact q3.elim⟩⟩⟩
def Hb{op YH:CmpOp}(hu:X.A.units+9<Y')(ha:E3 X a ta)(hb:E3 X b tb)(hc:E3 X c tc)(hmk:lastMarks [op,YH] [b,c]=lf:=by rfl):
  B3 X (.Compare a [op,YH] [b,c] pos) (b3 (JE op YH ta tb tc)):=PT.mono (Ma (KL op hu) (KL YH hu) ha hb hc hmk) λY H Q' zz=>x7 zz λU M Q hs hm ht k=>
 ⟨U,M,_,hs,hm,ht,λv H1 x M1 hx XT e1 q1=>⟨U,M1,_,hs.mono e1,XT,q1,λu H2 y M2 hy Ya e2 q2=>⟨x,y,M2,_,hx.mono e2,hy,Ya,q2,λw H3 z M3 hz YM e3 q3=>by
  cases z with
  | bl c=>
   refine⟨c,hz.mR,?_⟩;cases c with
   | true=>
    refine(c9 Z').mpr ⟨U,M3,_,hs.mono (e1.trans (e2.trans e3)),YM,(c9 Z').mp q3,λw' H4 d M4 hd hm4 e4 q4=>⟨y,d,M4,_,hy.mono (e3.trans e4),hd,hm4,q4,λw5 H5 d5 M5 hd5 hm5 e5 q5=>?_⟩⟩;cases d5 with
    | bl c5=>exact⟨c5,hd5.mR,k c5 H5 M5 hm5 (e1.trans (e2.trans (e3.trans (e4.trans e5)))) q5⟩
    | _=>exact q5.elim
   | false=>exact(cY dz).mpr ⟨lf,Z',k lf H3 M3 YM (e1.trans (e2.trans e3)) ((cY dz).mp q3)⟩
  | _=>exact q3.elim⟩⟩⟩
structure Xb(K:qC)(C:Uf):Prop where
 ha:W.findIn K (.ref C) "__class__"=Fa (Fa (.builtin "object.__class__"))
 hn:W.specialIn K (.builtin "object.__class__") "__get__"=Fa (Fa (.builtin "getset_descriptor.__get__"))
 htk:W.takesIn K (.builtin "object.__class__")=Fa pc
 hm:W.mroIn K C (.type "object")=Fa pc
noncomputable def II:Option vd->Option Vl
 | some (.lst _)=>Fa (.type "list")
 | some (.ins C _)=>Fa (.ref C)
 | some (.dk _)=>Fa (.type "dict")
 | some (.exc _)=>Db
 | none=>Db
noncomputable def Xm(M:Mp):D->Option Vl
 | .mS=>Fa (.type "NoneType")
 | .bl _=>Fa (.type "bool")
 | .int _=>Fa (.type "int")
 | .str _=>Fa (.type "str")
 | .tup _=>Fa (.type "tuple")
 | .ref a=>II (M a)
 | .ty _=>Db
 | .rl _=>Fa (.type "list")
noncomputable def W2:D->Option Vl
 | .ref C=>Fa (.ref C)
 | .ty n=>Fa (.type n)
 | _=>Db
def Rn(K:qC)(ds:T0 D)(M:Mp)(Q:DK):Prop:=match ds with
 | [x,c]=>(Xm M x).elim False λt=>(W2 c).elim False λcv=>(∀C,t=.ref C->Xb K C)/\(W.kitOne K t cv).elim False λb=>Q (.bl b) M
 | _=>False
def D9:C3 X (.builtin "isinstance") (Rn X.K):=by
 intro XQ s Y H vs us Q' I rv h;obtain⟨ds,M,Q,hd,hm,q,k⟩:=h;unfold Rn at q;split at q
 .rename_i x c;obtain⟨v,u,rfl,hv,hw⟩:=EZ hd;obtain⟨t,et,q⟩:=rc q;obtain⟨cv,ec,hC,q⟩:=rc q;obtain⟨b,eb,qb⟩:=rc q;obtain⟨uv,uw,rfl,Z9,rv2⟩:=Np rv;have ecv:uw=cv:=by
   cases c with
   | ref C=>cases hw.mO;cases ec;exact rv2
   | ty n=>cases hw.nZ;cases ec;exact rv2
   | _=>cases ec
  subst ecv;have XW:∀tk,EP X XQ Y Q' (.bool b) {s with toks:=tk}:=λtk=>⟨.bl b,H,I.tok tk,Z',k _ _ _ _ .bl hm .refl qb⟩;cases x with
  | mS=>cases hv.mQ;cases et;exact uT I Z9 .mS eb XW
  | bl y=>cases hv.mR;cases et;exact uT I Z9 (.bl y) eb XW
  | int y=>cases hv.int_inv;cases et;exact uT I Z9 (.int y) eb XW
  | str y=>cases hv.str_inv;cases et;exact uT I Z9 (.str y) eb XW
  | tup ds=>obtain⟨a,xs,rfl,h1,h2⟩:=hv.mU;cases et;cases Z9;obtain⟨its,r,p,_⟩:=I.tuple h1;obtain⟨o,g1,g2,_⟩:=p;exact gp W.kitx_tuple I.nk ⟨o,g1,g2⟩ eb (λz=>nomatch z) XW
  | ref a=>
   cases hv.mO;have et:II (M a)=Fa t:=et;cases e:M a with
   | none=>rw[e]at et;cases et
   | some cell=>
    rw[e]at et;have ok:=hm a cell e;cases cell with
    | lst ds=>cases et;obtain⟨xs,e1,_⟩:=ok;exact uT I Z9 (.lst e1) eb XW
    | ins C fs=>cases et;obtain⟨dx,vs,e1,cl,_⟩:=ok;obtain⟨i1,i2,i3,i4⟩:=hC C Z';exact uT I Z9 (.ins e1 cl i1 i2 i3 i4) eb XW
    | dk kvs=>cases et;obtain⟨vs,e1,_⟩:=ok;exact uT I Z9 (.dK e1) eb XW
    | exc C=>cases et
  | ty n=>cases et
  | rl ds=>obtain⟨p,xs,rfl,h1,h2⟩:=hv.ni;cases et;cases Z9;obtain⟨its,r,⟨o,n,g1,g2,_⟩,_⟩:=I.list h1.sq;exact gp lG I.nk ⟨o,g1,g2⟩ eb (λz=>nomatch z) XW
 .exact q.elim
noncomputable def Gw:T0 D->Option (T0 Bool)
 | []=>Fa []
 | .bl b::r=>(Gw r).map (b::·)
 | _::_=>Db
theorem FP{K:qC}:∀{ds:T0 D} {bs:T0 Bool} {xs:T0 V} {us:T0 Vl},Gw ds=Fa bs->qy K H ds xs->qJ xs us->us=bs.map Value.bool
 | [],bs,xs,us,e,h,r=>by cases e;have:=h.nil_inv;subst this;cases r;rfl
 | d::ds,bs,xs,us,e,h,r=>by
  cases d with
  | bl b=>
   obtain⟨y,ys,rfl,h1,h2⟩:=h.inv;cases h1.mR;unfold Gw at e;cases q:Gw ds with
   | none=>rw[q]at e;cases e
   | some cs=>
    rw[q]at e;cases e;cases r with
    | cons r1 r2=>cases r1;rw[FP q h2 r2];rfl
  | _=>cases e
def Ul(ds:T0 D)(M:Mp)(Q:DK):Prop:=match ds with
 | [.ref a]=>(pA M a).elim False λes=>(Gw es).elim False λbs=>Q (.bl (bs.all id)) M
 | _=>False
def EV(hc:X.calm=pc):C3 X (.builtin "all") Ul:=by
 intro XQ s Y H vs us Q' I rv h;obtain⟨ds,M,Q,hd,hm,q,k⟩:=h;unfold Ul at q;split at q
 .rename_i a;obtain⟨v,rfl,hv⟩:=sO hd;obtain⟨es,e0,q⟩:=rc q;obtain⟨bs,e1,q⟩:=rc q;cases hv.mO;obtain⟨u,rfl,ru⟩:=yK rv;cases ru;obtain⟨xs,h1,h2,_⟩:=qD hm e0;obtain⟨its,r,pl,hz⟩:=I.list h1;have eits:=FP e1 h2 r;subst eits;have Yc:a≠s.heap.objs.size:=by obtain⟨o,_,e,_⟩:=pl;exact dE (dv e)
  refine call_all_walk (gF pl.isList ?_);refine⟨s.heap.objs.size,_,_,_,_,_,λi=>(bs[i]?).getD pc,Z',ku (A:=X.A.in1) (I.ok.hd hc) _ a Yc (bs.map Value.bool).toArray,⟨⟨_,dF _ Z',Z',Z'⟩,?_⟩,λi v s' Q E hP hQ=>?_,λh' tk hk=>?_⟩
  .obtain⟨o,n,e,c,d,q⟩:=pl;exact⟨o,cZ _ e,c,n,q⟩
  .simp only[iM,dD]at hP;cases e2:bs[i]? with
   | none=>rw[e2]at hP;cases hP
   | some b=>rw[e2]at hP;cases hP;have hQ:Q ((bs[i]?).getD pc) s':=hQ;rw[e2]at hQ;exact fj hQ
  .have ea:(List.range (bs.map Value.bool).toArray.size).all (λi=>(bs[i]?).getD pc)=bs.all id:=by
    rw[dw,cT];rw[gk,eD,eD];constructor
    .intro z b hb;obtain⟨i,hi,e⟩:=gO hb;have:=z i (gf.mpr hi);rw[cV hi,e]at this;exact this
    .intro z i hi;have Zp:=gf.mp hi;rw[cV Zp];exact z _ (ia Zp)
   rw[ea];refine⟨.bl (bs.all id),H,?_,Z',k _ _ _ _ .bl hm .refl q⟩;exact I.kept (h':=h') (t':=tk) λb o e=>hk b o (by simpa using dE (dv e)) (cZ _ e)
 .exact q.elim
noncomputable def Bf(x:D):T0 D->Option Nat
 | []=>Db
 | d::r=>if O5 d x=pc then Fa 0 else(Bf x r).map (·+1)
theorem J5{K:qC}{e:D}{w:V}(g:rZ K H e w)(fe:vi e=pc):∀{ds:T0 D} {xs:T0 V} {us:T0 Vl} {j:Nat},qy K H ds xs->qJ xs us->ds.all vi=pc->Bf e ds=Fa j->
  ∃h:j<us.length,EA w us[j]=pc/\∀m (hm:m<us.length),m<j->EA w us[m]=lf
 | [],_,_,_,_,_,_,q=>by cases q
 | d::ds,_,us,j,h,r,fl,q=>by
  obtain⟨y,ys,rfl,h1,h2⟩:=h.inv;rw[eX,dS]at fl;cases r with
  | @cons _ u _ us' r1 r2=>
   have eu:EA w u=O5 d e:=by rw[HL r1 (zG h1 fl.1),IX h1 g fl.1 fe]
   unfold Bf at q;by_cases hq:O5 d e=pc
   .rw[c9 hq]at q;cases q;exact⟨by simp,by simpa [eu]using hq,λm _ hm=>absurd hm (Nat.not_lt_zero m)⟩
   .rw[cY hq]at q;cases q2:Bf e ds with
    | none=>rw[q2]at q;cases q
    | some j'=>
     rw[q2]at q;cases q;obtain⟨hl,e1,e2⟩:=J5 g fe h2 r2 fl.2 q2;refine⟨by simpa using hl,by simpa using e1,λm hm X2=>?_⟩;cases m with
     | zero=>simpa [eu]using hq
     | succ m=>simpa using e2 m (by simpa using hm) (by have z:m+1<j'+1:=X2;omega)
def RZ(x:D)(ds:T0 D)(M:Mp)(Q:DK):Prop:=match x,ds with
 | .ref a,[y]=>(pA M a).elim False λes=>vi y=pc/\es.all vi=pc/\(Bf y es).elim False λj=>Q (.int (j:Nat)) M
 | _,_=>False
def M3(X:Cx)(id:String)(r:D->T0 D->Mp->DK->Prop):Prop:=Xq X id λvx vs H Q'=>∃x ds M Q,rZ X.K H x vx/\qy X.K H ds vs/\HM X.K H M/\r x ds M Q/\Up X.K H Q' Q
def MF:M3 X "list.index" RZ:=by
 intro XQ s Y H vx vs v us Q' I rx rv h;obtain⟨x,ds,M,Q,hx,hd,hm,q,k⟩:=h;unfold RZ at q;split at q
 .rename_i a y;obtain⟨es,e0,f1,f2,q⟩:=rc q;obtain⟨j,e1,q⟩:=rc q;cases hx.mO;cases rx;obtain⟨w,rfl,hw⟩:=sO hd;obtain⟨u,rfl,ru⟩:=yK rv;obtain⟨xs,h1,h2,rd⟩:=qD hm e0;obtain⟨hz,its,n,r,g⟩:=rd.ok I.mW;obtain⟨hl,p1,p2⟩:=J5 hw f1 h2 r f2 e1;have hlz:its.length<=Ch:=by rw[<-r.length];exact hz
  have h63:=yU;refine jx F.slot_list_index ⟨_,g,Z'⟩ F.entry_list_index (F.args_list_index_2 _ _) (SeqAt.list_indexAt a its.toArray n Db #[] u (EA w) j (by simpa using hl) (by omega) (by simpa using p1) λm hm X2=>by simpa using p2 m (by simpa using hm) X2) ⟨g,?_,?_⟩
  .intro z hz';exact wM ru (zG hw f1) r (EU h2 f2) z (by simpa using hz')
  .exact⟨.int (j:Nat),H,I.tok _,⟨_,Z'⟩,k _ _ _ _ .int hm .refl q⟩
 .exact q.elim
def Rw(M:Mp):D->Prop
 | .ref a=>(pA M a).isSome=pc
 | _=>False
def WD(r:D->T0 D->Mp->DK->Prop)(to:T3)(t:xI):T3:=λU M Q=>to U M λx M1=>Rw M1 x/\t U M1 λds M2=>r x ds M2 Q
def T7{K:qC}{x:D}(hm:HM K H M)(h:rZ K H x v)(l:Rw M x):Wq K "list" v H:=by
 cases x with
 | ref a=>cases h.mO;obtain⟨ds,e⟩:=jF.mp (show(pA M a).isSome=pc from l);obtain⟨xs,h1,_⟩:=qD hm e;exact .inl ⟨Z',xs,h1⟩
 | _=>exact l.elim
def Rf{id:String}(slot:Slot "list" name id)(hty:typeOf (.builtin id)=pure (.type "method_descriptor"))(hm:M3 X id r)(ho:E3 X o ta)(ha:A3 X (e::es) t) (X5:Ps o name X.env (wp o X.env)=wp o X.env:=by rfl)
  (Y3:((xz pos (Tl (e::es) X.env)).all (λx=>!x.1)&&(xL pos (Rs [] X.env)).all (λx=>x.1.isSome)
   &&decide ((e::es).length+([]:T0 XXe).length+(if ([]:T0 XXe).isEmpty then 0 else 1)<30))=pc:=by rfl)
  (Yh:(XU.endLine==pos.line)=pc:=by rfl) (hs:Bw X e es:=by rfl) (Yb:Dc X pos es:=by rfl):
  E3 X (.Call (.Attribute o name XU) (e::es) [] pos) (WD r ta t):=PE.mono (Vh PySem.F.plainAttrs_list slot hty hm ho ha X5 Y3 Yh hs Yb) λY H Q' zz=>x7 zz λU M Q hs hm ht k=>
 ⟨U,M,_,hs,hm,ht,λv H1 x M1 hx XT e1 q1=>⟨T7 XT hx q1.1,U,M1,_,hs.mono e1,XT,q1.2,λvs H2 ds M2 Y2 Ya e2 q2=>⟨x,ds,M2,Q,hx.mono e2,Y2,Ya,q2,vZ (e1.trans e2) k⟩⟩⟩
def xN(ho:E3 X o ta)(ha:A3 X (e::es) t) (X5:Ps o "index" X.env (wp o X.env)=wp o X.env:=by rfl)
  (Y3:((xz pos (Tl (e::es) X.env)).all (λx=>!x.1)&&(xL pos (Rs [] X.env)).all (λx=>x.1.isSome)
   &&decide ((e::es).length+([]:T0 XXe).length+(if ([]:T0 XXe).isEmpty then 0 else 1)<30))=pc:=by rfl)
  (Yh:(XU.endLine==pos.line)=pc:=by rfl) (hs:Bw X e es:=by rfl) (Yb:Dc X pos es:=by rfl):
  E3 X (.Call (.Attribute o "index" XU) (e::es) [] pos) (WD RZ ta t):=Rf PySem.F.slot_list_index PySem.F.type_list_index MF ho ha X5 Y3 Yh hs Yb
structure LV(K:qC)(C:Uf)(m:Str)(f:Uf):Prop where
 hg:W.specialIn K (.ref C) "__getattribute__"=Fa (Fa (.builtin "type.__getattribute__"))
 rd:W.readsIn K C (.type "type")=pc
 fc:W.findCls K (.ref C) (.type "type") m=Fa (.val (.ref f))
def QW{sp:Sp}{t:TA}{pl:Sem Bool}(cm:LV X.K C m f)(F:xA X.prog X.w X.K X.mg X.base OB k f fd ps sp)(hr:sA k X.A)(hg:Gl X x)(hm:X.mg x=Fa (.ref C))(hk:W.keepIn X.K (.ref f)=pc)(hb:vb X.K fd ps [])(ha:PA X (e::es) t) (Yd:zb x:=by decide) (Yf:Bw X e es:=by rfl) (X9:Dc X pos es:=by rfl)
  (ht:wp (.Call (.Attribute (.Name x p) m XU) (e::es) [] pos) X.env=(do
   let ov<-wp (.Name x p) X.env
   XXc XU.atName
   let(f,first)<-ZB [ov] (TW ov m pl)
   XXh pos f first (xz pos (Tl (e::es) X.env)) (xL pos (Rs [] X.env))):=by rfl):
  PE X (.Call (.Attribute (.Name x p) m XU) (e::es) [] pos) (λY H Q=>t Y H λvs H1=>sp vs H1 Q E0):=by
 intro XQ s Y H Q I h;refine jY (pl:=pl) (xk I hg hm ?_ Yd) ht;refine W.method_cls I.nk cm.hg (W.cls_value I.nk cm.rd cm.fc Z' ?_);refine iO (first:=[]) (h₀:=X.base) I.ok.mod.oC hk (sS (ha pos XQ _ Y H _ (I.tok _) h) λus s2 zz=>x5 zz λvs H2 I2 r q2=>⟨I2.nk,?_⟩) Yf X9;exact ES F hr hb .nil (Gy (X:=X)) I2 r (by rw[eR];exact q2)
def Qx{pl:Sem Bool}(cm:LV X.K C m f)(F:Ua X.prog X.w X.K X.mg X.base k f fd ps sp)(hr:sA k X.A)(hg:Gl X x)(hm:X.mg x=Fa (.ref C))(hk:W.keepIn X.K (.ref f)=pc)(hb:vb X.K fd ps [])(ha:A3 X (e::es) t) (Yd:zb x:=by decide) (Yf:Bw X e es:=by rfl) (X9:Dc X pos es:=by rfl)
  (ht:wp (.Call (.Attribute (.Name x p) m XU) (e::es) [] pos) X.env=(do
   let ov<-wp (.Name x p) X.env
   XXc XU.atName
   let(f,first)<-ZB [ov] (TW ov m pl)
   XXh pos f first (xz pos (Tl (e::es) X.env)) (xL pos (Rs [] X.env))):=by rfl):
  E3 X (.Call (.Attribute (.Name x p) m XU) (e::es) [] pos) (DZ sp t):=PE.mono (QW cm F hr hg hm hk hb ha Yd Yf X9 ht) λY H Q' zz=>x7 zz λU M Q hs hm ht k=>
 ⟨U,M,_,hs,hm,ht,λvs H1 ds M1 hd XT e1 q1=>⟨ds,M1,Q,hd,XT,q1,vZ e1 k⟩⟩
def qL:zn "len"=Fa (.builtin "len"):=by decide+kernel
def Sm:zn "min"=Fa (.builtin "min"):=by decide+kernel
def yJ:zn "isinstance"=Fa (.builtin "isinstance"):=by decide+kernel
def F1:zn "all"=Fa (.builtin "all"):=by decide+kernel
def sP:zn "tuple"=Fa (.type "tuple"):=by decide+kernel
def uu:zn "list"=Fa (.type "list"):=by decide+kernel
def Mc:zn "str"=Fa (.type "str"):=by decide+kernel
def EC:zn "dict"=Fa (.type "dict"):=by decide+kernel
def EM:zn "enumerate"=Fa (.type "enumerate"):=by decide+kernel
def SS:zn "zip"=Fa (.type "zip"):=by decide+kernel
end
theorem _root_.L2.Inv.drawn{ch:QXQ}{T:Uf}{xs:T0 V}{h':No}{tk:Nat}(I:Inv X XQ Y H s)(YO:∀b∈ch,Ba X XQ H b)(k:∀b o,b∉ch->s.heap.get? b=Fa o->h'.get? b=Fa o)(hT:s.heap.objs.size<=T)(hx:xs.length<=Ch) (rv:qJ xs its) (ht:EK h' T its.toArray):Inv X XQ Y (upd H T (.tup xs)) {s with heap:=h',toks:=tk}:=by
 have hT0:H T=Db:=I.mW.fresh hT;have nT:∀b o,s.heap.get? b=Fa o->b≠T:=λb o e=>dE (dN (dv e) hT);refine I.step (g':=s.gens) (d':=s.drawn) (ch:=ch) (λb hb=>⟨(YO b hb).2.2.2.1,(YO b hb).2.1,(YO b hb).2.2.2.2.1,(YO b hb).2.2.2.2.2⟩) (λb o _ _ hc e _=>k b o hc e) (λb o _ _ hc e _=>⟨o.slots,k b o hc e⟩) (λb o _ e n=>by rw[qh (nT b o e)];exact n)
  (λb o hc e=>⟨o,k b o hc e⟩) (λb ys e=>by rw[qh (qZ e hT0)];exact e) (λb o u e=>by rw[qh (qZ e hT0)];exact e) (λb ps e=>⟨#[],by rw[qh (qZ e hT0),e];simp⟩) (λm hm=>?_) (λb u e=>?_) I.bare
 .obtain⟨o,es,ep,ho,r⟩:=hm;exact⟨o,es,ep,k _ o (λz=>(YO _ z).2.1 Z') ho,r⟩
 .by_cases hb:b=T
  .subst hb;rw[qw]at e;cases e;exact⟨hx,its,rv,ht⟩
  .rw[qh hb]at e;refine(I.mW b u e).nA (λc v hc q=>k c v (λz=>?_) q) (λc q=>by rw[qh (qZ q hT0)];exact q) (λc ys q=>by rw[qh (qZ q hT0)];exact q);have n:=(YO c z).1;rcases hc with y|y
   .rw[y,e]at n;cases n
   .rw[y]at n;cases n
noncomputable def WA(K:qC)(a:Uf):It:=
 ⟨λi H=>∃xs x,zo K H a xs/\xs[i]?=Fa x,λi H x H'=>∃p y,x=.ref p/\H p=Db/\H'=upd H p (.tup [.int (i:Nat),y])/\∀xs,zo K H a xs->xs[i]?=Fa y,λi H=>∃xs,zo K H a xs/\xs.length<=i⟩
def K8{K:qC}(a e it:Uf)(hei:e≠it):Hk P w K (.Tuple Yi n tp) (WA K a) [e,it] e (λi h=>(∃Yp,IsEnum h e it (i:Nat) Yp)/\h.IsListIter it a i) where
 mem:=by simp
 obj:=λi h st b hb=>by
  obtain⟨⟨Yp,he⟩,o,e1,c,d⟩:=st;rcases de.mp hb with rfl|hb
  .exact⟨_,he,λv z=>by cases z⟩
  .rw[dg.mp hb];exact⟨o,e1,λv z=>by rw[d]at z;cases z⟩
 keep:=λi h h' st k=>by obtain⟨⟨Yp,he⟩,hi⟩:=st;exact⟨⟨Yp,k e (by simp) _ he⟩,hi.at λo q=>k it (by simp) o q⟩
 item:=by
  intro X hP hw hK hc i XQ s Y H E I hf st hg;subst hP hw hK;obtain⟨xs,x,hq,hx⟩:=hg;obtain⟨its,rv,p,hz⟩:=I.list hq;obtain⟨u,hu,ru⟩:=rv.get hx;obtain⟨⟨Yp,he⟩,hi⟩:=st;refine wpAny_pyNext_enum_item he hi p.isList (x:=u) (by simpa using hu) hei λh1 ho Zq hT hsz hk=>?_;refine⟨_,Z',wpAny_letOwnedTupleGo_enum ho λh2 he2 Zu=>?_⟩;have helt:e<s.heap.objs.size:=dv he;have hilt:it<s.heap.objs.size:=by obtain⟨o,q,_⟩:=hi;exact dv q
  have kk:∀b o,b∉[e,it]->s.heap.get? b=Fa o->h2.get? b=Fa o:=λb o hb q=>(Zu.2 b λz=>hb (by simp[z])).trans (hk b o (λz=>hb (by simp[z])) (λz=>hb (by simp[z])) q);have hT2:h2.get? s.heap.objs.size=Fa {cls:=.type "tuple",data:=.seq #[.int (i:Nat) s.toks,u]}:=(Zu.2 _ (gL helt)).trans hT;have hT0:H s.heap.objs.size=Db:=I.mW.fresh (dq _);have I2:=I.drawn (ch:=[e,it]) (T:=s.heap.objs.size) (xs:=[.int (i:Nat),x]) (its:=[.int (i:Nat) s.toks,u]) (h':=h2) (tk:=s.toks+1) hf kk (dq _) (by show 2<=Ch;decide) (.cons ⟨_,Z'⟩ (.cons ru .nil)) ⟨_,hT2,Z',⟨_,Z'⟩,Z'⟩;refine⟨.ref s.heap.objs.size,_,I2,Z',⟨_,x,Z',hT0,Z',λys hy=>by rw[I.nW hy hq];exact hx⟩,⟨⟨_,by simpa using he2⟩,Zq.extBut Zu.extBut (dO hei)⟩,λb hb=>?_⟩;have YJ:b<s.heap.objs.size:=by
   rcases de.mp hb with z|z
   .rw[z];exact helt
   .rw[dg.mp z];exact hilt
  rw[qh (dE YJ)];exact(hf b hb).1
 done:=by intro X hP hw hK hc i XQ s Y H E I hf st hg;subst hP hw hK;obtain⟨xs,hq,hx⟩:=hg;obtain⟨its,rv,p,hz⟩:=I.list hq;obtain⟨⟨Yp,he⟩,hi⟩:=st;have hl:=rv.length;obtain⟨f0,f1,f2,f3,f4,f5⟩:=hf it (by simp);exact wpAny_pyNext_enum_end (I.ok.hd hc) he hi p.isList (by simp;omega) λh' eb=>⟨Z',I.turned (t':=s.toks) (λb o hb q=>eb b o hb q) f0 f1 f3 f4 f5⟩
 self:=λ_ _ _ _ _ st h=>by obtain⟨⟨Yp,he⟩,_⟩:=st;exact lC he h
variable {tp:Pos}{Yi:T0 Go}{n:Nat}
def Qt{a:Go}{ta:TA}(hg:Gl X "enumerate")(hm:X.mg "enumerate"=Db)(ha:PA X [a] ta)(hs:Tl [a] X.env=[(lf,wp a X.env)]:=by rfl):
  PI X (.Tuple Yi n tp) (.Call (.Name "enumerate" p) [a] [] pos) (λY H R=>ta Y H λvs H1=>∃l,vs=[.ref l]/\(∃xs,zo X.K H1 l xs)/\R (WA X.K l) H1):=by
 intro XQ s Y H R I h;refine Call_ (xj I hg hm EM (fU (sS (ha pos XQ s Y H _ I h) λus s1 zz=>x5 zz λvs H1 I1 r1 q1=>?_) hs Z'));obtain⟨l,e,⟨xs,hq⟩,q⟩:=q1;subst e;obtain⟨u,rfl,ru⟩:=yK r1;cases ru;obtain⟨its,rv,pl,hz⟩:=I1.list hq;refine call_enumerate_list pl.isList λh' he hi hsz hk=>?_;refine lC he ?_;have I2:Inv X XQ Y H1 {s1 with heap:=h'}:=I1.kept (t':=s1.toks) hk;refine⟨s1.heap.objs.size+1,[s1.heap.objs.size+1,s1.heap.objs.size],_,_,H1,Z',I2,K8 l _ _ (Nat.succ_ne_self _),⟨⟨_,he⟩,hi⟩,λb hb=>?_,q⟩;have YJ:s1.heap.objs.size<=b:=by
  rcases de.mp hb with z|z
  .rw[z];exact gW _
  .rw[dg.mp z];exact dq _
 exact I1.og YJ (I1.mW.fresh YJ)
noncomputable def uP:Nat->T0 D->T0 D
 | _,[]=>[]
 | i,d::r=>.tup [.int (i:Nat),d]::uP (i+1) r
theorem zA:∀{ds:T0 D} {i j:Nat},(uP j ds)[i]?=(ds[i]?).map λd=>D.tup [.int ((j+i:Nat):Int),d]
 | [],i,j=>by simp[uP]
 | d::r,0,j=>by simp[uP]
 | d::r,i+1,j=>by show(uP (j+1) r)[i]?=_;rw[zA];simp only[List.getElem?_cons_succ];rw[show j+1+i=j+(i+1)by omega]
theorem vw:∀{ds:T0 D} {j:Nat},(uP j ds).length=ds.length
 | [],j=>rfl
 | d::r,j=>by simp[uP,vw]
def MW{K:qC}:Gd K H1 (WA K a) (uP 0 ds) (λM=>pA M a=Fa ds) where
 go:=λi H M hi hm ok _=>by rw[vw]at hi;obtain⟨xs,h1,h2,_⟩:=qD hm ok;obtain⟨x,e,_⟩:=h2.get (cV hi);exact⟨xs,x,h1,e⟩
 pq:=λi d H M x H' hd hm ok _ y=>by
  obtain⟨xs,h1,h2,_⟩:=qD hm ok;obtain⟨p,z,rfl,hp,rfl,y⟩:=y;rw[zA]at hd;cases e:ds[i]? with
  | none=>rw[e]at hd;cases hd
  | some d'=>rw[e]at hd;cases hd;obtain⟨x',e',hx⟩:=h2.get e;have w1:=y xs h1;rw[e']at w1;have w2:x'=z:=dh w1;subst w2;have ex:qY K H (upd H p (.tup [.int (i:Nat),x'])):=.new hp;refine⟨.tup (.of qw) (.cons (by rw[mD];exact .int) (.cons (hx.mono ex) .nil)),hm.add hp,ex⟩
 stop:=λH M hm ok _=>by obtain⟨xs,h1,h2,_⟩:=qD hm ok;exact⟨xs,h1,by rw[vw,h2.length];exact dq _⟩
def Tn(t:xI):OC:=λU M R=>t U M λds M1=>match ds with
 | [.ref a]=>(pA M1 a).elim False λes=>R (uP 0 es) (λM=>pA M a=Fa es) M1
 | _=>False
def xn{a:Go}{ta:xI}(hg:Gl X "enumerate")(hm:X.mg "enumerate"=Db)(ha:A3 X [a] ta)(hs:Tl [a] X.env=[(lf,wp a X.env)]:=by rfl):I3 X (.Tuple Yi n tp) (.Call (.Name "enumerate" p) [a] [] pos) (Tn ta):=
 PI.mono (Qt hg hm ha hs) λY H R' zz=>x7 zz λU M R hs hm ht k=>⟨U,M,_,hs,hm,ht,λvs H1 ds M1 hd XT e1 q1=>by
  split at q1
  .obtain⟨v,rfl,hv⟩:=sO hd;cases hv.mO;obtain⟨es,e0,q⟩:=rc q1;obtain⟨xs,h1,h2,_⟩:=qD XT e0;exact⟨_,Z',⟨xs,h1⟩,k _ H1 _ _ M1 MW XT e1 e0 q⟩
  .exact q1.elim⟩
variable {prog:Pg}{A:Ar}{E:QQX}
def Iu{it t:Uf}{i:Nat}{its:Array Vl}{x:Vl}{Q:QQX}(hi:s.heap.IsTupleIter it t i)(ht:s.heap.IsTuple t its)(hx:its[i]?=Fa x) (hQ:∀g,g.IsTupleIter it t (i+1)->Heap.SameBut it s.heap g->Q x {s with heap:=g}):pi (Tk prog w) A (Builtin.SmallTypes.nextOf (.ref it)) Q E s:=by
 obtain⟨ob,e1,e2,e3⟩:=id hi;obtain⟨ot,e4,_,nt,e5⟩:=ht;unfold Builtin.SmallTypes.nextOf;refine cU (fK (name:=Str.ofString "__next__") hi.typeIs gD (fR gD hi.typeIs jn ?_ (jj _)));show pi (Tk prog w) _ (field (.ref it) 0>>=_) _ _ s;refine cU (fi e1 e3 (x:=.ref t) Z' ?_);show pi (Tk prog w) _ (if (Value.ref t==Value.none)=pc then _ else _) _ _ s;rw[cY (show ¬(Value.ref t==Value.none)=pc from dz)];show pi (Tk prog w) _ (field (.ref it) 1>>=_) _ _ s;refine cU (fi e1 e3 (x:=.int i 0) Z' ?_);show pi (Tk prog w) _ (seqItems? (.ref t)>>=_) _ _ s;refine cU (gw e4 e5 ?_);simp only[jr,hx];refine cU (hJ e1 e3 (by simp) (df ⟨x,Z',df (hQ _ ⟨_,fH _ e1 (Obj.isFreed_of_fields (k9 e3 _)),(Obj.cls_mapFields ..).trans e2,?_⟩ (kI ..))⟩));rw[k9 e3];simp[X']
def CN{it t:Uf}{i:Nat}{its:Array Vl}{Q:QQX}(hh:A.handled=Db)(hi:s.heap.IsTupleIter it t i)(ht:s.heap.IsTuple t its)(hx:its[i]?=Db) (hE:∀g e,Heap.ExtBut it s.heap g->(∃o,g.get? e=Fa o/\o.cls=.type "StopIteration")->E (.ref e) {s with heap:=g}):pi (Tk prog w) A (Builtin.SmallTypes.nextOf (.ref it)) Q E s:=by
 obtain⟨ob,e1,e2,e3⟩:=id hi;obtain⟨ot,e4,_,nt,e5⟩:=ht;unfold Builtin.SmallTypes.nextOf;refine cU (fK (name:=Str.ofString "__next__") hi.typeIs gD (fR gD hi.typeIs jn ?_ (jj _)));show pi (Tk prog w) _ (field (.ref it) 0>>=_) _ _ s;refine cU (fi e1 e3 (x:=.ref t) Z' ?_);show pi (Tk prog w) _ (if (Value.ref t==Value.none)=pc then _ else _) _ _ s;rw[cY (show ¬(Value.ref t==Value.none)=pc from dz)];show pi (Tk prog w) _ (field (.ref it) 1>>=_) _ _ s;refine cU (fi e1 e3 (x:=.int i 0) Z' ?_);show pi (Tk prog w) _ (seqItems? (.ref t)>>=_) _ _ s;refine cU (gw e4 e5 ?_);simp only[jr,hx];refine cU (kt (cU (hJ e1 e3 (by simp) ?_)));show pi (Tk prog w) _ (newExc (.type "StopIteration") []>>=_) _ _ _;refine cU ?_;simp only[newExc,newTuple];refine cU (fS ?_ (by size_fits));refine cU (m:=firstArgMember _ _) (wpAny_of_eq (a:=Value.none) (by first|rfl|(simp only[firstArgMember];rfl)) ?_);refine fS ?_ (by size_fits);simp only[raiseNew];refine cU (wpAny_handled ?_)
 first|rw[show A.in1.handled=Db from hh]|rw[hh]
 refine cU (df (wpAny_throw (hE _ _ (((kI ..).extBut.push _).push _) ⟨_,dF _ Z',Z'⟩)))
def yw{prog:Pg}{w:Wo}{A:Ar}(hh:A.handled=Db)(it t:Uf)(Yc:t≠it)(its:Array Vl):
  Draws prog w A it [it,t] its.size (λi v=>its[i]?=Fa v) (λi h=>h.IsTupleIter it t i/\h.IsTuple t its) where
 live:=λi h st=>let⟨o,ho,_⟩:=st.1;⟨o,ho⟩
 frame:=λi h g st hk=>by obtain⟨⟨o,e1,e2⟩,⟨o',e3,e4⟩⟩:=st;exact⟨⟨o,hk it (by simp) o e1,e2⟩,⟨o',hk t (by simp) o' e3,e4⟩⟩
 item:=λi s Q E hi st hQ=>Iu st.1 st.2 (x:=its[i]) (by simp[hi]) λg hg hs=>hQ _ g s.toks (by simp[hi]) ⟨hg,st.2.extBut hs.extBut Yc⟩ hs
 done:=λs Q E st hE=>CN hh st.1 st.2 (by simp) hE
structure Ax(z TI TO i1 i2:Uf)(f1 f2:QXQ):Prop where
 a1:TI≠z
 a2:TO≠z
 a3:i1≠z
 a4:i2≠z
 a5:TI≠TO
 a6:TI≠i1
 a7:TI≠i2
 a8:TO≠i1
 a9:TO≠i2
 pF:i1≠i2
 b1:z∉f1
 b2:TO∉f1
 b3:i2∉f1
 c1:z∉f2
 c2:TO∉f2
 c3:i1∉f2
variable {z TI TO i1 i2:Uf}{f1 f2:QXQ}{n1 n2 k1 k2:Nat}{P1 P2:Nat→Vl→Prop}{S1 S2:Nat→No→Prop}
section
variable {a b:Vl}
def sI{St:Nat->No->Prop}(Dr:Draws prog w A it fp n Pt St){i:Nat}{h g:No}{c:Uf}(st:St i h)(hs:Heap.SameBut c h g)(hc:c∉fp):St i g:=
 Dr.frame _ _ _ st λd hd o e=>(hs.2 d λq=>hc (q ▸ hd)).trans e
def Kn{Q:QQX}(D1:Draws prog w A i1 f1 n1 P1 S1)(D2:Draws prog w A i2 f2 n2 P2 S2)(Ye:Ax z TI TO i1 i2 f1 f2)(hz:XXk s.heap z TI TO .none)(hI:IN s.heap TI (.ref i1) (.ref i2))(hO:IN s.heap TO a b) (Yv:S1 k1 s.heap) (X6:S2 k2 s.heap) (l1:k1<n1) (l2:k2<n2) (hQ:∀x y g tk,P1 k1 x->P2 k2 y->XXk g z TI TO (X' s.heap.objs.size)->IN g TO x y->S1 (k1+1) g->S2 (k2+1) g->IN g s.heap.objs.size x y->g.objs.size=s.heap.objs.size+1->
   (∀c o,c≠z->c≠TO->c≠i1->c≠i2->s.heap.get? c=Fa o->g.get? c=Fa o)->Q (.ref s.heap.objs.size) {s with heap:=g,toks:=tk}):
  pi (Tk prog w) A (Builtin.«zip.__next__» ⟨[.ref z],[]⟩) (λXW s'=>∃v,XW=.done (.ret v)/\Q v s') E s:=by
 show pi (Tk prog w) A (field (.ref z) 2>>=_) _ _ _;refine cU (fi hz Z' (x:=.bool lf) Z' ?_);show pi (Tk prog w) A (field (.ref z) 3>>=_) _ _ _;refine cU (fi hz Z' (x:=.ref TI) Z' (cU (gw hI Z' ?_)));show pi (Tk prog w) A (Builtin.SmallTypes.ownedTupleIsFree (.ref z)>>=_) _ _ _;refine cU ?_;unfold Builtin.SmallTypes.ownedTupleIsFree;refine cU (fi hz Z' (x:=.none) Z' (df ?_));simp only[jg];refine cU (kt (cU (fi hz Z' (x:=.ref TO) Z' (cU (gz hz (by simp) λg1 z1 ZG=>?_)))));replace z1:XXk g1 z TI TO .ellipsis:=z1;refine cU ?_;simp only[lX,mh,jV,j9];refine cU (cU (iI ?_));show pi (Tk prog w) A (Builtin.SmallTypes.nextOf (.ref i1)>>=_) _ _ _;have ZH:S1 k1 g1:=sI D1 Yv ZG Ye.b1;refine cU (D1.item k1 _ _ _ l1 ZH λx g2 tk2 px st1b YS=>df ?_);replace YS:Heap.SameBut i1 g1 g2:=YS;have o2:IN g2 TO a b:=YS.extBut _ _ Ye.a8 (ZG.extBut _ _ Ye.a2 hO);refine cU (gw o2 Z' (cU (iR o2 λg3 o3 YZ=>?_)));replace o3:IN g3 TO x b:=o3;replace YZ:Heap.SameBut TO g2 g3:=YZ;refine cU (lJ (df (cU (cU (iI ?_)))));show pi (Tk prog w) A (Builtin.SmallTypes.nextOf (.ref i2)>>=_) _ _ _;have st2a:S2 k2 g3:=sI D2 (sI D2 (sI D2 X6 ZG Ye.c1) YS Ye.c3) YZ Ye.c2;refine cU (D2.item k2 _ _ _ l2 st2a λy g4 tk4 py st2b ZS=>df ?_);replace ZS:Heap.SameBut i2 g3 g4:=ZS;have o4:IN g4 TO x b:=ZS.extBut _ _ Ye.a9 o3;refine cU (gw o4 Z' (cU (iR o4 λg5 o5 ZT=>?_)));replace o5:IN g5 TO x y:=o5;replace ZT:Heap.SameBut TO g4 g5:=ZT;refine cU (lJ (df (df (cU (gw o5 Z' (cU (wpAny_newTuple ?_)))))));have esz:g5.objs.size=s.heap.objs.size:=by rw[ZT.1,ZS.1,YZ.1,YS.1,ZG.1]
 have z5:XXk g5 z TI TO .ellipsis:=ZT.extBut _ _ Ye.a2.symm (ZS.extBut _ _ Ye.a4.symm (YZ.extBut _ _ Ye.a2.symm (YS.extBut _ _ Ye.a3.symm z1)));have kp:∀c o,c≠z->c≠TO->c≠i1->c≠i2->s.heap.get? c=Fa o->g5.get? c=Fa o:=λc o q1 q2 q3 q4 q=>ZT.extBut _ _ q2 (ZS.extBut _ _ q4 (YZ.extBut _ _ q2 (YS.extBut _ _ q3 (ZG.extBut _ _ q1 q))));have st1c:S1 (k1+1) g5:=sI D1 (sI D1 (sI D1 st1b YZ Ye.b2) ZS Ye.b3) ZT Ye.b2;have st2c:S2 (k2+1) g5:=sI D2 st2b ZT Ye.c2;have zlt:z<g5.objs.size:=dv z5;show pi (Tk prog w) A (Builtin.SmallTypes.ownedTupleHandOut (.ref z) (.ref g5.objs.size)>>=_) _ _ _;refine cU ?_;unfold Builtin.SmallTypes.ownedTupleHandOut;have z6:XXk (g5.push {cls:=.type "tuple",data:=.seq #[x,y]}) z TI TO .ellipsis:=cZ _ z5;refine cU (gz z6 (by simp) λg7 z7 sb7=>?_);replace z7:XXk g7 z TI TO (X' g5.objs.size):=z7;refine gz z7 (by simp) λg8 z8 sb8=>?_;replace z8:XXk g8 z TI TO (X' g5.objs.size):=z8;have up:∀c o,c≠z->g5.get? c=Fa o->g8.get? c=Fa o:=λc o q1 q=>sb8.extBut _ _ q1 (sb7.extBut _ _ q1 (cZ _ q));have tu:IN g8 g5.objs.size x y:=sb8.extBut _ _ (gL zlt) (sb7.extBut _ _ (gL zlt) (dF _ Z'));have es8:g8.objs.size=g5.objs.size+1:=by rw[sb8.1,sb7.1,fm]
 rw[esz]at z8 tu es8;refine df ⟨_,Z',?_⟩;show Q (.ref g5.objs.size) _;rw[esz];exact hQ x y g8 _ px py z8 (up _ _ Ye.a2 o5) (D1.frame _ _ _ st1c λc hc o q=>up c o (λr=>Ye.b1 (r ▸ hc)) q) (D2.frame _ _ _ st2c λc hc o q=>up c o (λr=>Ye.c1 (r ▸ hc)) q) tu es8 λc o q1 q2 q3 q4 q=>up c o q1 (kp c o q1 q2 q3 q4 q)
def ML{Q:Fin->Sd->Prop}(D1:Draws prog w A i1 f1 n1 P1 S1)(D2:Draws prog w A i2 f2 n2 P2 S2)(Ye:Ax z TI TO i1 i2 f1 f2)(hz:XXk s.heap z TI TO .none)(hI:IN s.heap TI (.ref i1) (.ref i2))(hO:IN s.heap TO a b) (Yv:S1 k1 s.heap) (X6:S2 k1 s.heap) (hend:k1=n1\/(k1<n1/\k1=n2)) (hE:∀g e,(∀c o,c≠z->c≠TO->c≠i1->c≠i2->s.heap.get? c=Fa o->g.get? c=Fa o)->(∃o,g.get? e=Fa o/\o.cls=.type "StopIteration")->∀tk,E (.ref e) {s with heap:=g,toks:=tk}):
  pi (Tk prog w) A (Builtin.«zip.__next__» ⟨[.ref z],[]⟩) Q E s:=by
 show pi (Tk prog w) A (field (.ref z) 2>>=_) _ _ _;refine cU (fi hz Z' (x:=.bool lf) Z' ?_);show pi (Tk prog w) A (field (.ref z) 3>>=_) _ _ _;refine cU (fi hz Z' (x:=.ref TI) Z' (cU (gw hI Z' ?_)));show pi (Tk prog w) A (Builtin.SmallTypes.ownedTupleIsFree (.ref z)>>=_) _ _ _;refine cU ?_;unfold Builtin.SmallTypes.ownedTupleIsFree;refine cU (fi hz Z' (x:=.none) Z' (df ?_));simp only[jg];refine cU (kt (cU (fi hz Z' (x:=.ref TO) Z' (cU (gz hz (by simp) λg1 z1 ZG=>?_)))));replace z1:XXk g1 z TI TO .ellipsis:=z1;refine cU ?_;simp only[lX,mh,jV,j9];refine cU (cU (iI ?_));show pi (Tk prog w) A (Builtin.SmallTypes.nextOf (.ref i1)>>=_) _ _ _;have ZH:S1 k1 g1:=sI D1 Yv ZG Ye.b1;rcases hend with he|⟨X2,he⟩
 .rw[he]at ZH;refine cU (D1.done _ _ _ ZH λg2 e YS hx=>?_);obtain⟨oe,g,hce⟩:=hx;have z2:XXk g2 z TI TO .ellipsis:=YS _ _ Ye.a3.symm z1;have hez:e≠z:=λq=>by subst q;rw[z2]at g;cases g;simp at hce
  exact gz z2 (by simp) λg3 _ YZ=>hE g3 e (λc o q1 _ q3 _ q=>YZ.extBut _ _ q1 (YS _ _ q3 (ZG.extBut _ _ q1 q))) ⟨oe,YZ.extBut _ _ hez g,hce⟩ _
 .refine cU (D1.item k1 _ _ _ X2 ZH λx g2 tk2 px st1b YS=>df ?_);replace YS:Heap.SameBut i1 g1 g2:=YS;have o2:IN g2 TO a b:=YS.extBut _ _ Ye.a8 (ZG.extBut _ _ Ye.a2 hO);refine cU (gw o2 Z' (cU (iR o2 λg3 o3 YZ=>?_)));replace YZ:Heap.SameBut TO g2 g3:=YZ;refine cU (lJ (df (cU (cU (iI ?_)))));show pi (Tk prog w) A (Builtin.SmallTypes.nextOf (.ref i2)>>=_) _ _ _;have st2a:S2 k1 g3:=sI D2 (sI D2 (sI D2 X6 ZG Ye.c1) YS Ye.c3) YZ Ye.c2;rw[he]at st2a;refine cU (D2.done _ _ _ st2a λg4 e ZS hx=>?_);obtain⟨oe,g,hce⟩:=hx;have z4:XXk g4 z TI TO .ellipsis:=ZS _ _ Ye.a4.symm (YZ.extBut _ _ Ye.a2.symm (YS.extBut _ _ Ye.a3.symm z1));have hez:e≠z:=λq=>by subst q;rw[z4]at g;cases g;simp at hce
  exact gz z4 (by simp) λg5 _ ZT=>hE g5 e (λc o q1 q2 q3 q4 q=>ZT.extBut _ _ q1 (ZS _ _ q4 (YZ.extBut _ _ q2 (YS.extBut _ _ q3 (ZG.extBut _ _ q1 q))))) ⟨oe,ZT.extBut _ _ hez g,hce⟩ _
end
abbrev V6(h:No)(t:Uf):No:=h.push {cls:=.type "tuple_iterator",data:=.fields #[.ref t,.int 0 0]}
abbrev VV(h:No)(t u:Uf):No:=(V6 h t).push {cls:=.type "tuple_iterator",data:=.fields #[.ref u,.int 0 0]}
abbrev VU(h:No)(t u:Uf):No:=(VV h t u).push {cls:=.type "tuple",data:=.seq #[.ref h.objs.size,.ref (V6 h t).objs.size]}
abbrev VY(h:No)(t u:Uf):No:=(VU h t u).push {cls:=.type "tuple",data:=.seq #[.none,.none]}
abbrev Ue(h:No)(t u:Uf):No:=(VY h t u).push {cls:=.type "zip",data:=.fields #[.none,.bool lf,.bool lf,.ref (VV h t u).objs.size,.ref (VU h t u).objs.size]}
def DM(t u:Uf)(xs ys:Array Vl):
  Meets (Builtin.«zip.__new__» ⟨[.type "zip",.ref t,.ref u],[]⟩) (λ_ R s=>s.heap.IsTuple t xs/\s.heap.IsTuple u ys/\R (.ok (.ret (.ref (VY s.heap t u).objs.size))) {s with heap:=Ue s.heap t u}):=
 .of_wp λprog w A R s h=>by
  obtain⟨hp,g,d,tk,os⟩:=s;obtain⟨e1,e2,h⟩:=h;have ZA:=sub_zip;have q1:Heap.IsTuple (Shared.heap ⟨hp,g,d,tk,os⟩) t xs:=e1;have q2:Heap.IsTuple (Shared.heap ⟨hp.push {cls:=.type "tuple_iterator",data:=.fields #[.ref t,.int 0 0]},g,d,tk,os⟩) u ys:=Heap.IsTuple.push e2 _
  wp_walk using ir q1,ir q2
  exact⟨_,Z',h⟩
def Fh{t u:Uf}{xs ys:Array Vl}{Q:QQX}(ht:s.heap.IsTuple t xs)(hu:s.heap.IsTuple u ys) (h:∀g,XXk g (s.heap.objs.size+4) (s.heap.objs.size+2) (s.heap.objs.size+3) .none->IN g (s.heap.objs.size+2) (.ref s.heap.objs.size) (.ref (s.heap.objs.size+1))->IN g (s.heap.objs.size+3) .none .none->
   g.IsTupleIter s.heap.objs.size t 0->g.IsTupleIter (s.heap.objs.size+1) u 0->(∀c o,s.heap.get? c=Fa o->g.get? c=Fa o)->Q (.ref (s.heap.objs.size+4)) {s with heap:=g}):
  pi (Tk prog w) A (call (.type "zip") [.ref t,.ref u]) Q E s:=by
 refine callType_new F.called_zip (by decide) (F.typeCall_zip_2 _ _) (F.newCall_zip_2 _ _) (λobj=>F.args_object_init_3 obj _ _) F.entry_zip_new (DM t u xs ys) ⟨ht,hu,?_⟩;have m1:(V6 s.heap t).objs.size=s.heap.objs.size+1:=fm ..;have m2:(VV s.heap t u).objs.size=s.heap.objs.size+2:=by rw[fm,m1]
 have m3:(VU s.heap t u).objs.size=s.heap.objs.size+3:=by rw[fm,m2]
 have m4:(VY s.heap t u).objs.size=s.heap.objs.size+4:=by rw[fm,m3]
 have up:∀{h:No} {c:Uf} {o p:Obj},h.get? c=Fa o->(h.push p).get? c=Fa o:=λq=>cZ _ q;have r5:(Ue s.heap t u).get? (VY s.heap t u).objs.size=Fa _:=dF _ Z';have r4:(Ue s.heap t u).get? (VU s.heap t u).objs.size=Fa _:=up (dF _ Z');have r3:(Ue s.heap t u).get? (VV s.heap t u).objs.size=Fa _:=up (up (dF _ Z'));have r2:(Ue s.heap t u).get? (V6 s.heap t).objs.size=Fa _:=up (up (up (dF _ Z')));have r1:(Ue s.heap t u).get? s.heap.objs.size=Fa _:=up (up (up (up (dF _ Z'))));show _/\_;rw[m2,m3,m4]at r5;rw[m1,m2]at r3;rw[m3]at r4;rw[m1]at r2;rw[m4];exact⟨⟨_,r5,Z'⟩,h _ r5 r3 r4 ⟨_,r1,Z',Z'⟩ ⟨_,r2,Z',Z'⟩ λc o q=>up (up (up (up (up q))))⟩
def GV{z TI TO i1 i2:Uf}{n1 n2 k:Nat}{P1 P2:Nat->Vl->Prop}{S1 S2:Nat->No->Prop}{Q:Option Vl->Sd->Prop}(D1:Draws prog w A.in1 i1 f1 n1 P1 S1)(D2:Draws prog w A.in1 i2 f2 n2 P2 S2)(Ye:Ax z TI TO i1 i2 f1 f2) (hz:XXk s.heap z TI TO .none) (hI:IN s.heap TI (.ref i1) (.ref i2)) (hO:IN s.heap TO a b) (Yv:S1 k s.heap) (X6:S2 k s.heap) (l1:k<n1) (l2:k<n2) (hQ:∀x y g tk,P1 k x->P2 k y->XXk g z TI TO (X' s.heap.objs.size)->IN g TO x y->S1 (k+1) g->S2 (k+1) g->IN g s.heap.objs.size x y->g.objs.size=s.heap.objs.size+1->
   (∀c o,c≠z->c≠TO->c≠i1->c≠i2->s.heap.get? c=Fa o->g.get? c=Fa o)->Q (Fa (.ref s.heap.objs.size)) {s with heap:=g,toks:=tk}):pi (Tk prog w) A (pyNext (.ref z)) Q E s:=by
 have hT:s.TypeIs (.ref z) "zip":=⟨_,hz,Z'⟩;unfold pyNext;refine cU (kD (fK (name:=Str.ofString "__next__") hT iS (fR iS hT lY ?_ (lD _))));exact Kn D1 D2 Ye hz hI hO Yv X6 l1 l2 λx y g tk q1 q2 q3 q4 q5 q6 q7 q8 q9=>df (hQ x y g tk q1 q2 q3 q4 q5 q6 q7 q8 q9)
def Bv{z TI TO i1 i2:Uf}{n1 n2 k:Nat}{P1 P2:Nat->Vl->Prop}{S1 S2:Nat->No->Prop}{Q:Option Vl->Sd->Prop}(D1:Draws prog w A.in1 i1 f1 n1 P1 S1)(D2:Draws prog w A.in1 i2 f2 n2 P2 S2)(Ye:Ax z TI TO i1 i2 f1 f2) (hz:XXk s.heap z TI TO .none) (hI:IN s.heap TI (.ref i1) (.ref i2)) (hO:IN s.heap TO a b) (Yv:S1 k s.heap) (X6:S2 k s.heap) (hend:k=n1\/(k<n1/\k=n2)) (hQ:∀g tk,(∀c o,c≠z->c≠TO->c≠i1->c≠i2->s.heap.get? c=Fa o->g.get? c=Fa o)->Q Db {s with heap:=g,toks:=tk}):pi (Tk prog w) A (pyNext (.ref z)) Q E s:=by
 have hT:s.TypeIs (.ref z) "zip":=⟨_,hz,Z'⟩;unfold pyNext;refine cU (kD (fK (name:=Str.ofString "__next__") hT iS (fR iS hT lY (ML D1 D2 Ye hz hI hO Yv X6 hend λg e kp hx tk=>?_) (lD _))));obtain⟨o,e1,e2⟩:=hx;exact cU (wpAny_isInstance (T:="StopIteration") (b:=true) ⟨o,e1,e2⟩ isSubtype_stop (df (hQ g tk kp)))
def FB(I:Inv X XQ Y H s)(f:Ba X XQ H b)(q:vn X.K H a xs):a≠b:=by
 rintro rfl
 rcases q with q|⟨o,its,n,hk,_⟩
 .have z:=f.1;rcases q with q|⟨u,q⟩<;>(rw[q]at z;cases z)
 .have e:=I.mod.oC a o hk;rcases f.2.2.2.1 with z|z
  .exact I.ok.nV a o e z
  .exact absurd (dN (dv e) (dY I.ok.oo z)) (eZ _)
noncomputable def Wp(K:qC)(a b:Uf):It:=
 ⟨λi H=>∃xs ys x y,vn K H a xs/\vn K H b ys/\xs[i]?=Fa x/\ys[i]?=Fa y,λi H v H'=>∃p x y,v=.ref p/\H p=Db/\H'=upd H p (.tup [x,y])/\(∀xs,vn K H a xs->xs[i]?=Fa x)/\(∀ys,vn K H b ys->ys[i]?=Fa y),λi H=>∃xs ys,vn K H a xs/\vn K H b ys/\i=min xs.length ys.length⟩
def Of{P:Pg}{w:Wo}{K:qC}{Yi:T0 Go}{n:Nat}{tp:Pos}(a b z TI TO i1 i2:Uf)(a1:TI≠z)(a2:TO≠z)(a3:i1≠z)(a4:i2≠z)(a5:TI≠TO)(a6:TI≠i1)(a7:TI≠i2)(a8:TO≠i1)(a9:TO≠i2)(pF:i1≠i2):
  Hk P w K (.Tuple Yi n tp) (Wp K a b) [z,TI,TO,i1,i2] z (λi h=>XXk h z TI TO .none/\IN h TI (.ref i1) (.ref i2)/\(∃u v,IN h TO u v)/\h.IsTupleIter i1 a i/\h.IsTupleIter i2 b i) where
 mem:=by simp
 obj:=λi h st c hc=>by
  obtain⟨h1,h2,⟨u,v,h3⟩,⟨o4,h4,_,d4⟩,⟨o5,h5,_,d5⟩⟩:=st;simp only[de,dA,eL]at hc;rcases hc with rfl|rfl|rfl|rfl|rfl
  .exact⟨_,h1,λv z=>by cases z⟩
  .exact⟨_,h2,λv z=>by cases z⟩
  .exact⟨_,h3,λv z=>by cases z⟩
  .exact⟨_,h4,λv z=>by rw[d4]at z;cases z⟩
  .exact⟨_,h5,λv z=>by rw[d5]at z;cases z⟩
 keep:=λi h h' st k=>by obtain⟨h1,h2,⟨u,v,h3⟩,⟨o4,h4,c4⟩,⟨o5,h5,c5⟩⟩:=st;exact⟨k z (by simp) _ h1,k TI (by simp) _ h2,⟨u,v,k TO (by simp) _ h3⟩,⟨o4,k i1 (by simp) _ h4,c4⟩,⟨o5,k i2 (by simp) _ h5,c5⟩⟩
 item:=by
  intro X hP hw hK hc i XQ s Y H E I hf st hg;subst hP hw hK;obtain⟨xs,ys,x,y,hx,hy,ex,ey⟩:=hg;obtain⟨its,rx,px,_⟩:=I.tuple hx;obtain⟨ZR,ry,py,_⟩:=I.tuple hy;obtain⟨u,eu,ru⟩:=rx.get ex;obtain⟨v,ev,rv⟩:=ry.get ey;obtain⟨h1,h2,⟨p,q,h3⟩,h4,h5⟩:=st;have hh:X.A.in1.handled=Db:=I.ok.hd hc;have fa:∀c∈[z,TI,TO,i1,i2],a≠c:=λc hc=>FB I (hf c hc) hx;have fb:∀c∈[z,TI,TO,i1,i2],b≠c:=λc hc=>FB I (hf c hc) hy;have Ye:Ax z TI TO i1 i2 [i1,a] [i2,b]:=⟨a1,a2,a3,a4,a5,a6,a7,a8,a9,pF,by
   simp only[de,dA,eL,fJ];exact⟨dO a3,dO (fa z (by simp))⟩,by
   simp only[de,dA,eL,fJ];exact⟨a8,dO (fa TO (by simp))⟩,by
   simp only[de,dA,eL,fJ];exact⟨dO pF,dO (fa i2 (by simp))⟩,by
   simp only[de,dA,eL,fJ];exact⟨dO a4,dO (fb z (by simp))⟩,by
   simp only[de,dA,eL,fJ];exact⟨a9,dO (fb TO (by simp))⟩,by
   simp only[de,dA,eL,fJ];exact⟨pF,dO (fb i1 (by simp))⟩⟩
  have l1:i<its.toArray.size:=by
   have:=(cX.mp eu).1
   simpa using this
  have l2:i<ZR.toArray.size:=by
   have:=(cX.mp ev).1
   simpa using this
  refine GV (yw hh i1 a (fa i1 (by simp)) its.toArray) (yw hh i2 b (fb i2 (by simp)) ZR.toArray) Ye h1 h2 h3 ⟨h4,px⟩ ⟨h5,py⟩ l1 l2 λx' y' g tk e1 e2 z1 o1 s1 s2 t1 sz kp=>?_;have e1':x'=u:=by
   have:its[i]?=Fa x':=by simpa using e1
   rw[eu]at this;exact(dh this).symm
  have Z3:y'=v:=by
   have:ZR[i]?=Fa y':=by simpa using e2
   rw[ev]at this;exact(dh this).symm
  subst e1' Z3;refine⟨_,Z',wpAny_letOwnedTupleGo_zip z1 λg2 z2 sb=>?_⟩;have zlt:z<s.heap.objs.size:=dv h1;have kk:∀c o,c∉[z,TI,TO,i1,i2]->s.heap.get? c=Fa o->g2.get? c=Fa o:=λc o hc e=>by simp only[de,dA,eL,fJ]at hc;exact(sb.2 c hc.1).trans (kp c o hc.1 hc.2.2.1 hc.2.2.2.1 hc.2.2.2.2 e)
  have t2:g2.get? s.heap.objs.size=Fa {cls:=.type "tuple",data:=.seq #[x',y']}:=(sb.2 _ (gL zlt)).trans t1;have hT0:H s.heap.objs.size=Db:=I.mW.fresh (dq _);have I2:=I.drawn (ch:=[z,TI,TO,i1,i2]) (T:=s.heap.objs.size) (xs:=[x,y]) (its:=[x',y']) (h':=g2) (tk:=tk) hf kk (dq _) (by show 2<=Ch;decide) (.cons ru (.cons rv .nil)) ⟨_,t2,Z',⟨_,Z'⟩,Z'⟩;refine⟨.ref s.heap.objs.size,_,I2,Z',⟨_,x,y,Z',hT0,Z',λxs' hx'=>by rw[I.nv hx' hx];exact ex,λys' hy'=>by rw[I.nv hy' hy];exact ey⟩,?_,λc hc=>?_⟩
  .obtain⟨o4,g4,c4⟩:=s1.1;obtain⟨o5,g5,c5⟩:=s2.1;exact⟨z2,(sb.2 _ a1).trans (kp _ _ a1 a5 a6 a7 h2),⟨_,_,(sb.2 _ a2).trans o1⟩,⟨o4,(sb.2 _ a3).trans g4,c4⟩,⟨o5,(sb.2 _ a4).trans g5,c5⟩⟩
  .have n0:=(hf c hc).1;obtain⟨o,eo⟩:∃o,s.heap.get? c=Fa o:=by
    obtain⟨o4,g4,_⟩:=h4;obtain⟨o5,g5,_⟩:=h5;simp only[de,dA,eL]at hc;rcases hc with rfl|rfl|rfl|rfl|rfl
    .exact⟨_,h1⟩
    .exact⟨_,h2⟩
    .exact⟨_,h3⟩
    .exact⟨_,g4⟩
    .exact⟨_,g5⟩
   rw[qh (dE (dv eo))];exact n0
 done:=by
  intro X hP hw hK hc i XQ s Y H E I hf st hg;subst hP hw hK;obtain⟨xs,ys,hx,hy,hi⟩:=hg;obtain⟨its,rx,px,_⟩:=I.tuple hx;obtain⟨ZR,ry,py,_⟩:=I.tuple hy;obtain⟨h1,h2,⟨p,q,h3⟩,h4,h5⟩:=st;have hh:X.A.in1.handled=Db:=I.ok.hd hc;have fa:∀c∈[z,TI,TO,i1,i2],a≠c:=λc hc=>FB I (hf c hc) hx;have fb:∀c∈[z,TI,TO,i1,i2],b≠c:=λc hc=>FB I (hf c hc) hy;have Ye:Ax z TI TO i1 i2 [i1,a] [i2,b]:=⟨a1,a2,a3,a4,a5,a6,a7,a8,a9,pF,by
   simp only[de,dA,eL,fJ];exact⟨dO a3,dO (fa z (by simp))⟩,by
   simp only[de,dA,eL,fJ];exact⟨a8,dO (fa TO (by simp))⟩,by
   simp only[de,dA,eL,fJ];exact⟨dO pF,dO (fa i2 (by simp))⟩,by
   simp only[de,dA,eL,fJ];exact⟨dO a4,dO (fb z (by simp))⟩,by
   simp only[de,dA,eL,fJ];exact⟨a9,dO (fb TO (by simp))⟩,by
   simp only[de,dA,eL,fJ];exact⟨pF,dO (fb i1 (by simp))⟩⟩
  have e1:=rx.length;have e2:=ry.length;refine Bv (yw hh i1 a (fa i1 (by simp)) its.toArray) (yw hh i2 b (fb i2 (by simp)) ZR.toArray) Ye h1 h2 h3 ⟨h4,px⟩ ⟨h5,py⟩ (by simp only[dw];omega) λg tk kp=>⟨Z',?_⟩;have kk:∀c o,c∉[z,TI,TO,i1,i2]->s.heap.get? c=Fa o->g.get? c=Fa o:=λc o hc e=>by simp only[de,dA,eL,fJ]at hc;exact kp c o hc.1 hc.2.2.1 hc.2.2.2.1 hc.2.2.2.2 e
  refine I.step (g':=s.gens) (d':=s.drawn) (t':=tk) (ch:=[z,TI,TO,i1,i2]) (λc hc=>⟨(hf c hc).2.2.2.1,(hf c hc).2.1,(hf c hc).2.2.2.2.1,(hf c hc).2.2.2.2.2⟩) ?_ ?_ (λc o _ e n=>n) ?_ (λ_ _ e=>e) (λ_ _ _ e=>e) (λc ps e=>⟨#[],by rw[e];simp⟩) ?_ ?_ I.bare
  .exact λc o _ _ hc e _=>kk c o hc e
  .exact λc o _ _ hc e _=>⟨o.slots,kk c o hc e⟩
  .exact λc o hc e=>⟨o,kk c o hc e⟩
  .intro m hm;obtain⟨o,es,ep,ho,r⟩:=hm;exact⟨o,es,ep,kk _ o (λy=>(hf _ y).2.1 Z') ho,r⟩
  .intro c u e;refine(I.mW c u e).nA (λd v hd q=>kk d v (λy=>?_) q) (λ_ q=>q) λ_ _ q=>q;have n:=(hf d y).1;rcases hd with x|x
   .rw[x,e]at n;cases n
   .rw[x]at n;cases n
 self:=λ_ _ _ _ _ st h=>lZ st.1 h
def Sf{a b:Go}{ta:TA}(hg:Gl X "zip")(hm:X.mg "zip"=Db)(ha:PA X [a,b] ta)(hs:Tl [a,b] X.env=[(lf,wp a X.env),(lf,wp b X.env)]:=by rfl)(Zu:Tl [b] X.env=[(lf,wp b X.env)]:=by rfl):
  PI X (.Tuple Yi n tp) (.Call (.Name "zip" p) [a,b] [] pos) (λY H R=>ta Y H λvs H1=>∃l m,vs=[.ref l,.ref m]/\(∃xs,vn X.K H1 l xs)/\(∃xs,vn X.K H1 m xs)/\R (Wp X.K l m) H1):=by
 intro XQ s Y H R I h;refine Call_ (xj I hg hm SS (fU (sS (ha pos XQ s Y H _ I h) λus s1 zz=>x5 zz λvs H1 I1 r1 q1=>?_) (by rw[hs,Zu]) (by rw[Zu];rfl)));obtain⟨l,m,e,⟨xs,hx⟩,⟨ys,hy⟩,q⟩:=q1;subst e;obtain⟨u,v,rfl,ru,rv⟩:=Np r1;cases ru;cases rv;obtain⟨its,_,px,_⟩:=I1.tuple hx;obtain⟨ZR,_,py,_⟩:=I1.tuple hy;refine Fh px py λg h1 h2 h3 h4 h5 hk=>lZ h1 ?_;have I2:Inv X XQ Y H1 {s1 with heap:=g}:=I1.kept (t':=s1.toks) hk;refine⟨s1.heap.objs.size+4,[s1.heap.objs.size+4,s1.heap.objs.size+2,s1.heap.objs.size+3,s1.heap.objs.size,s1.heap.objs.size+1],_,_,H1,Z',I2,Of l m _ _ _ _ _ ?_ ?_ ?_ ?_ ?_ ?_ ?_ ?_ ?_ ?_,⟨h1,h2,⟨_,_,h3⟩,h4,h5⟩,λb hb=>?_,q⟩
 .exact λz=>by have z:s1.heap.objs.size+2=s1.heap.objs.size+4:=z;omega
 .exact λz=>by have z:s1.heap.objs.size+3=s1.heap.objs.size+4:=z;omega
 .exact λz=>by have z:s1.heap.objs.size=s1.heap.objs.size+4:=z;omega
 .exact λz=>by have z:s1.heap.objs.size+1=s1.heap.objs.size+4:=z;omega
 .exact λz=>by have z:s1.heap.objs.size+2=s1.heap.objs.size+3:=z;omega
 .exact λz=>by have z:s1.heap.objs.size+2=s1.heap.objs.size:=z;omega
 .exact λz=>by have z:s1.heap.objs.size+2=s1.heap.objs.size+1:=z;omega
 .exact λz=>by have z:s1.heap.objs.size+3=s1.heap.objs.size:=z;omega
 .exact λz=>by have z:s1.heap.objs.size+3=s1.heap.objs.size+1:=z;omega
 .exact λz=>by have z:s1.heap.objs.size=s1.heap.objs.size+1:=z;omega
 .have YJ:s1.heap.objs.size<=b:=by
   simp only[de,dA,eL]at hb;rcases hb with rfl|rfl|rfl|rfl|rfl
   .exact iJ _ _
   .exact iJ _ _
   .exact iJ _ _
   .exact dq _
   .exact iJ _ _
  exact I1.og YJ (I1.mW.fresh YJ)
noncomputable def Bt:T0 D->T0 D->T0 D
 | x::a,y::b=>.tup [x,y]::Bt a b
 | _,_=>[]
theorem I0:∀{ds es:T0 D} {i:Nat},(Bt ds es)[i]?=(ds[i]?).bind λd=>(es[i]?).map λe=>D.tup [d,e]
 | [],es,i=>by simp[Bt]
 | d::ds,[],i=>by simp[Bt]
 | d::ds,e::es,0=>by simp[Bt]
 | d::ds,e::es,i+1=>by show(Bt ds es)[i]?=_;rw[I0];simp
theorem FG:∀{ds es:T0 D},(Bt ds es).length=min ds.length es.length
 | [],es=>by simp[Bt]
 | d::ds,[]=>by simp[Bt]
 | d::ds,e::es=>by show(Bt ds es).length+1=_;rw[FG];simp only[d6];omega
def Qo{K:qC}{ds es:T0 D}(h1:vn K H1 a xs)(h2:qy K H1 ds xs)(g1:vn K H1 b ys)(g2:qy K H1 es ys):Gd K H1 (Wp K a b) (Bt ds es) (λ_=>True) where
 go:=λi H M hi hm ok e1=>by rw[FG]at hi;obtain⟨x,ex,_⟩:=h2.get (cV (show i<ds.length by omega));obtain⟨y,ey,_⟩:=g2.get (cV (show i<es.length by omega));exact⟨xs,ys,x,y,e1.t _ _ h1,e1.t _ _ g1,ex,ey⟩
 pq:=λi d H M v H' hd hm ok e1 y=>by
  obtain⟨p,x,z,rfl,hp,rfl,y1,y2⟩:=y;rw[I0]at hd;cases e:ds[i]? with
  | none=>rw[e]at hd;cases hd
  | some d'=>
   cases e':es[i]? with
   | none=>rw[e,e']at hd;cases hd
   | some d''=>rw[e,e']at hd;cases hd;obtain⟨x',q1,hx⟩:=h2.get e;obtain⟨z',q2,hz⟩:=g2.get e';have w1:=y1 xs (e1.t _ _ h1);have w2:=y2 ys (e1.t _ _ g1);rw[q1]at w1;rw[q2]at w2;have v1:x'=x:=dh w1;have v2:z'=z:=dh w2;subst v1 v2;have ex:qY K H (upd H p (.tup [x',z'])):=.new hp;exact⟨.tup (.of qw) (.cons (hx.mono (e1.trans ex)) (.cons (hz.mono (e1.trans ex)) .nil)),hm.add hp,ex⟩
 stop:=λH M hm ok e1=>⟨xs,ys,e1.t _ _ h1,e1.t _ _ g1,by rw[FG,h2.length,g2.length]⟩
def VQ(t:xI):OC:=λU M R=>t U M λds M1=>match ds with
 | [.tup a,.tup b]=>R (Bt a b) (λ_=>True) M1
 | _=>False
def Su{a b:Go}{ta:xI}(hg:Gl X "zip")(hm:X.mg "zip"=Db)(ha:A3 X [a,b] ta)(hs:Tl [a,b] X.env=[(lf,wp a X.env),(lf,wp b X.env)]:=by rfl)(Zu:Tl [b] X.env=[(lf,wp b X.env)]:=by rfl):
  I3 X (.Tuple Yi n tp) (.Call (.Name "zip" p) [a,b] [] pos) (VQ ta):=
 PI.mono (Sf hg hm ha hs Zu) λY H R' zz=>x7 zz λU M R hs hm ht k=>⟨U,M,_,hs,hm,ht,λvs H1 ds M1 hd XT e1 q1=>by
  split at q1
  .obtain⟨v,u,rfl,hv,hw⟩:=EZ hd;obtain⟨l,xs,rfl,h1,h2⟩:=hv.mU;obtain⟨m,ys,rfl,g1,g2⟩:=hw.mU;exact⟨l,m,Z',⟨xs,h1⟩,⟨ys,g1⟩,k _ H1 _ _ M1 (Qo h1 h2 g1 g2) XT e1 trivial q1⟩
  .exact q1.elim⟩
def qF(M M':Mp):Prop:=∀a c,M a=Fa c->M' a=Fa c
def qF.refl:qF M M:=λ_ _ h=>h
def qF.trans{M M1 M2:Mp}(a:qF M M1)(b:qF M1 M2):qF M M2:=λx c h=>b x c (a x c h)
def qF.new{M:Mp}{p:Uf}{c:vd}(h:M p=Db):qF M (pP M p c):=λx d q=>by rw[ut (Pe q h)];exact q
def qF.lst{ds:T0 D}(s:qF M M')(h:pA M a=Fa ds):pA M' a=Fa ds:=by
 unfold pA at h ⊢;cases e:M a with
 | none=>rw[e]at h;cases h
 | some c=>rw[s a c e];rw[e]at h;exact h
def HM.sub{K:qC}(h:HM K H M')(s:qF M M'):HM K H M:=λa c q=>h a c (s a c q)
def VM{st:TD}{sp:rH}(F:QE K x qual st f fd)(S:tM N ps (qv st))(len:∀ds M Q,sp ds M Q->ds.length=ps.length) (Yg:∀(X1:Vl) (A:Ar) (outer:T0 Env) (s:Sd) (H:Hp) (E:XK),sA k (A.deeper (dL qual (qv st) s.heap.objs.size f X1))->
   ∃t,IP (vG OB P w K mg base N qual (qv st) f X1 A outer s H E).oB (r6 st) t/\∀ds M Q,sp ds M Q->t {nx:=λ_ M'=>∃XX,qF XX M'/\Q .mS XX,rt:=λd M'=>∃XX,qF XX M'/\Q d XX} (xg N ds) M):Ua P w K mg base (k+1) f fd ps sp:=by
 refine F.ok S (λvs H Q E h=>?_) (λX1 A outer s H vs Q' E hr h=>?_)
 .obtain⟨ds,M,Q,hd,_,hs,_⟩:=h;rw[<-hd.length];exact len ds M Q hs
 .obtain⟨ds,M,Q,hd,hm,hs,k⟩:=h;obtain⟨t,ht,hb⟩:=Yg X1 A outer s H E hr;exact⟨_,ht,xg N ds,M,_,Et hd,hm,hb ds M Q hs,λσ' H' δ' M' _ x2 x3 _ ⟨XX,y1,y2⟩=>k .mS H' .mS XX .mS (x2.sub y1) x3 y2,λv H' d M' x1 x2 x3 ⟨XX,y1,y2⟩=>k v H' d XX x1 (x2.sub y1) x3 y2,λ_ _ _ _ _ _ _ _ z=>z,λ_ _ _ _ _ _ _ _ z=>z⟩
theorem Cm{g:Dv}{te:T3}{ok:Mp->Prop}{Q:DK}{f:D->D}{M:Mp}(J:vt->Prop)(mW:ok M):∀(ds acc:T0 D) (U:vt),J U->acc.length+ds.length<=Ch->
  (∀d∈ds,∀U,J U->∀k:vt->DK,(∀δ',J δ'->k δ' (f d) M)->g d U M λδ2 M2=>te δ2 M2 (k δ2))->(∀p,M p=Db->Q (.ref p) (pP M p (.lst (acc++ds.map f))))->vm g Cw te ok Q ds acc U M
 | [],acc,U,_,hl,_,hq=>⟨by simpa using hl,by simpa using hq⟩
 | d::r,acc,U,hj,hl,ht,hq=>by
  rw[d6]at hl;refine⟨by omega,?_⟩;refine ht d dG U hj (λδ2 y M4=>ok M4/\vm g Cw te ok Q r (acc++[y]) δ2 M4) λδ' hj'=>⟨mW,Cm (f:=f) J mW r (acc++[f d]) δ' hj' ?_ (λe he=>ht e (dC _ he)) ?_⟩
  .rw[cW,dP];omega
  .simpa using hq
def rB{te:T3}{ok:Mp->Prop}{Q:DK}{f:D->D}{M:Mp}(mW:ok M):∀(ds acc:T0 D) (U:vt),acc.length+ds.length<=Ch->(∀d∈ds,∀k:DK,k (f d) M->te (U.set i (Fa d)) M k)->
  (∀p,M p=Db->Q (.ref p) (pP M p (.lst (acc++ds.map f))))->vm (tE i) Cw te ok Q ds acc U M:=λds acc U hl ht hq=>
 Cm (f:=f) (λδ'=>∀d,δ'.set i (Fa d)=U.set i (Fa d)) mW ds acc U (λ_=>rfl) hl (λd hd δ' hj k hk=>by
  show te (δ'.set i (Fa d)) M (k (δ'.set i (Fa d)));rw[hj d];exact ht d hd _ (hk _ λe=>by rw[iT])) hq
theorem yB{α:Type}(f:α->Bool):∀l:List α,Gw (l.map λx=>D.bl (f x))=Fa (l.map f)
 | []=>rfl
 | x::r=>by show(Gw (r.map λx=>D.bl (f x))).map (f x::·)=_;rw[yB f r];rfl
def pQ{p:Uf}{ds:T0 D}:pA (pP M p (.lst ds)) p=Fa ds:=by unfold pA;rw[qa]
def pG{α:Type}{o:Option α}{P:α->Prop}{x:α}(e:o=Fa x)(h:P x):o.elim False P:=by rw[e];exact h
def pE{l:T0 D}(h:decide (l.length<=100)=pc):l.length<=Ch:=by have z:=dI;have:=fP h;omega
theorem BB{g:Dv}{tb:xC}{ok:Mp->Prop}{E:Hl}(J:vt->Mp->Prop)(mW:∀U M,J U M->ok M):∀(ds:T0 D) (U:vt) (M:Mp),J U M->
  (∀d∈ds,∀U M,J U M->∀nx:vt->Mp->Prop,(∀δ' M',J δ' M'->nx δ' M')->g d U M λδ2 M2=>tb {E with nx:=nx,ct:=nx,bk:=E.nx} δ2 M2)->(∀U M,J U M->E.nx U M)->EN g tb ok E ds U M
 | [],U,M,j,_,hn=>hn U M j
 | d::r,U,M,j,ht,hn=>ht d dG U M j (λδ' M'=>ok M'/\EN g tb ok E r δ' M') λδ' M' j'=>⟨mW δ' M' j',BB J mW r δ' M' j' (λe he=>ht e (dC _ he)) hn⟩
theorem yb{g:Dv}{tb:xC}{ok:Mp->Prop}{E:Hl}(all:T0 D)(J:T0 D->vt->Mp->Prop)(mW:∀p U M,J p U M->ok M):∀(ds pre:T0 D) (U:vt) (M:Mp),pre++ds=all->J pre U M->
  (∀pre d post,pre++d::post=all->∀U M,J pre U M->∀nx:vt->Mp->Prop,(∀δ' M',J (pre++[d]) δ' M'->nx δ' M')->g d U M λδ2 M2=>tb {E with nx:=nx,ct:=nx,bk:=E.nx} δ2 M2)->(∀U M,J all U M->E.nx U M)->EN g tb ok E ds U M
 | [],pre,U,M,e,j,_,hn=>hn U M (by rw[<-e,eR];exact j)
 | d::r,pre,U,M,e,j,ht,hn=>ht pre d r e U M j (λδ' M'=>ok M'/\EN g tb ok E r δ' M') λδ' M' j'=>⟨mW _ δ' M' j',yb all J mW r (pre++[d]) δ' M' (by rw[<-e,e9];rfl) j' ht hn⟩
def Lr{K:qC}{t:Vl}:W.kitOne K t t=Fa pc:=by unfold W.kitOne;rw[c9 (by simp)]
def TM{K:qC}{t c:Vl}{b:Bool}(h:W.kitCls K t c=Fa b)(ne:b=lf->(t==c)=lf):W.kitOne K t c=Fa b:=by
 unfold W.kitOne;by_cases e:(t==c)=pc
 .rw[c9 e];cases b with
  | true=>rfl
  | false=>rw[ne Z']at e;cases e
 .rw[cY e];exact h
def SR{K:qC}{t:Vl}{b:Bool}(m:W.kitMeta T=pc)(s:W.subIn K t (.type T)=Fa b)(ne:b=lf->(t==.type T)=lf):W.kitOne K t (.type T)=Fa b:=by refine TM ?_ ne;unfold W.kitCls;simp only;rw[c9 m];exact s
def TB:W.kitMeta "str"=pc:=by decide+kernel
def Ov{c:Bool}{A B:Prop}(h:c=lf)(hb:B):if c=pc then A else B:=by subst h;exact Fu hb
def Bj{c:Bool}{A B:Prop}(h:c=pc)(ha:A):if c=pc then A else B:=by subst h;exact PK ha
def SN{t u:xC}{E:Hl}{U:vt}{M:Mp}(R:vt->Mp->Prop)(h2:∀nx:vt->Mp->Prop,(∀δ' M',R δ' M'->nx δ' M')->t {E with nx:=nx} U M)(h1:∀δ' M',R δ' M'->u E δ' M'):uO t u E U M:=h2 (u E) h1
def UG{K:qC}{ns:T0 Int}(hO:Og H)(hS:zo K H a (ns.map V.int)):rZ K H (.rl (ns.map D.int)) (.ref a):=by
 have r:QK K H a (ns.map V.int):=by
  rcases hS with h|h
  .rcases h with h|⟨o,h⟩
   .rcases hO a with z|⟨o,xs,z⟩<;>(rw[h]at z;cases z)
   .exact .inl ⟨o,h⟩
  .exact .inr h
 unfold rZ;exact⟨a,_,Z',r,.ints⟩
def TY{K:qC}{sp:rH}{ns:T0 Int}(hO:Og H)(hS:zo K H a (ns.map V.int))(h:sp [.rl (ns.map D.int)] (λ_=>Db) λd _=>d=.bl pc):OA K sp [.ref a] H (λv _=>v=.bl pc) λ_ _ _=>False:=
 ⟨_,λ_=>Db,_,.cons (UG hO hS) .nil,λ_ _ z=>(by cases z),h,λv H' d M' x1 _ _ x4=>by subst x4;exact x1.mR⟩
def Mw{l:W.OpenLaw}{q:Pg}{YE:QQQ}{XP:(QQZ)->No->Prop}{YP:Wo->No->Prop}{d:DefRec}{K:Params->qC}{x:Str}{sp:rH}(hn:l.most=Fa 63)(hdf:d.params.defaults=[])(hr:sA k callerA) (hY:∀(w:Wo) (h:No),YP w h->(K w.params).In h) (Zg:∀ns:T0 Int,ns.length<=63->sp [.rl (ns.map D.int)] (λ_=>Db) λd _=>d=.bl pc) (F:∀(w:Wo) (mg:QQZ) (fa:Uf) (h:No),(K w.params).In h->h.Ns Ix mg->mg d.name=Fa (.ref fa)->
   ∃fd:wv,(∀(s:Sd) (u:Vl),BindsTo s fd ⟨[u],[]⟩ [(x,u)])/\∀base:No,(K w.params).In base->base.Ns Ix mg->Ua l.prog w (K w.params) mg base k fa fd [x] sp):
  W.WalkO q YE XP YP l.row.toRowW d [] (λf vs=>PySem.call f vs):=
 L2.PD (n:=63) (k:=k) (x:=x) (CX:=λ_=>OB) (sp:=λw=>OA (K w.params) sp) hn (by decide) hdf hr hY F (λ_ _ a ns hl hO hS=>TY hO hS (Zg ns hl)) λ_ _ _ _ _ z=>z
def KD(K:qC)(mg:QQZ)(x:Str)(d:D):Prop:=Bs λv u=>mg x=Fa u/\qR v u/\∀H,rZ K H d v
def SV{K:qC}{mg:QQZ}{x y:Str}{t:Tok}(h:mg x=Fa (.str y t)):KD K mg x (.str y):=⟨.str y,_,h,⟨t,Z'⟩,λ_=>.str⟩
def wu{K:qC}{mg:QQZ}{x:Str}{y:Int}{t:Tok}(h:mg x=Fa (.int y t)):KD K mg x (.int y):=⟨.int y,_,h,⟨t,Z'⟩,λ_=>.int⟩
def uC{K:qC}{a:Uf}{ss:QQQ}{us:T0 Vl}{n:Nat}{sl:Array (Option Vl)}(h:K.lookup a=Fa ⟨.type "tuple",Db,.seq us.toArray n,sl⟩)(r:qJ (ss.map V.str) us)(hz:us.length<=1000):vn K (λ_=>Db) a (ss.map V.str):=
 .inr ⟨_,us.toArray,n,h,Z',Z',Z',by rw[dw,dI];omega,by simpa using r⟩
theorem AH{K:qC}:∀{ss:QQQ},qy K H (ss.map D.str) (ss.map V.str)
 | []=>.nil
 | _::_=>.cons .str AH
def OQ{K:qC}{mg:QQZ}{x:Str}{a:Uf}{ss:QQQ}(h:mg x=Fa (.ref a))(q:vn K (λ_=>Db) a (ss.map V.str)):KD K mg x (.tup (ss.map D.str)):=
 ⟨.ref a,_,h,Z',λ_=>.tup (Jt q) AH⟩
variable {d:D}{i:Go}{td tk:T3}{F:T0 (Str × QQQ)}
def sY(hg:Gl X x)(h:KD X.K X.mg x d)(hd:zb x:=by decide):E3 X (.Name x pos) (c3 d):=by obtain⟨v,u,hm,r,hh⟩:=h;exact PE.mono (F2 hg hm r hd) λY H Q' zz=>x7 zz λU M Q hs hm ht k=>k _ H _ M (hh H) hm .refl ht
def W9(F:T0 (Str×QQQ))(ta:T3):T3:=λU M Q=>ta U M λx M1=>match x with|.str k=>Q (.bl (KTD.datumAt k F).isSome) M1|_=>False
def U8(F:T0 (Str×QQQ))(ta:T3):T3:=λU M Q=>ta U M λx M1=>match x with|.str k=>(KTD.datumAt k F).elim False λss=>Q (.tup (ss.map D.str)) M1|_=>False
def LI(T:LF X.K X.mg x F)(hg:Gl X x)(he:E3 X e ta)(hd:zb x:=by decide)(hmk:wT .In (.Name x p)=lf:=by rfl):E3 X (.Compare e [.In] [.Name x p] pos) (W9 F ta):=by
 obtain⟨a,hm,T⟩:=Gv T;refine PE.mono (Jw (r:=λy z H Q=>∃k,y=.str k/\z=.ref a/\Q (.bl (KTD.datumAt k F).isSome) H) (λXQ s Y H y z v u Q I ry rz ⟨k,e1,e2,q⟩=>?_) he (F2 (v:=.ref a) hg hm Z' hd) hmk) λY H Q' zz=>x7 zz λU M Q hs hm ht k=>⟨U,M,_,hs,hm,ht,λv H1 d M1 hd XT e1 q1=>?_⟩
 .subst e1 e2;obtain⟨t,rfl⟩:=ry;obtain rfl:u=Value.ref a:=rz;exact Sx (T s.heap I.nk) ⟨.bl (KTD.datumAt k F).isSome,H,I.tok _,Z',q⟩
 .cases d with
  | str k'=>exact⟨k',hd.str_inv,Z',k _ _ _ _ .bl XT e1 q1⟩
  | _=>exact q1.elim
def KI(T:LF X.K X.mg x F)(hg:Gl X x)(he:E3 X e ta)(hd:zb x:=by decide)(hs:BG e:=by exact λ_ _=>rfl):E3 X (.Subscript (.Name x p) e pos) (U8 F ta):=by
 obtain⟨a,hm,T⟩:=Gv T;refine PE.mono (Mr (r:=λz y H Q=>∃k ss,y=.str k/\z=.ref a/\KTD.datumAt k F=Fa ss/\∀t,vn X.K H t (ss.map V.str)->Q (.ref t) H) (λvalue X3 XQ s Y H z y o i Q I rz ry ⟨k,ss,e1,e2,e3,q⟩ hs=>?_) (F2 (v:=.ref a) hg hm Z' hd) he hs) λY H Q' zz=>x7 zz λU M Q hs hm ht k=>⟨U,M,_,hs,hm,ht,λv H1 d M1 hd XT e1 q1=>?_⟩
 .subst e1 e2;obtain⟨t,rfl⟩:=ry;obtain rfl:o=Value.ref a:=rz;have hT:=zj (s:=s) (T s.heap I.nk);have h2:pi (Tk X.prog X.w) X.A (XXf (.ref a) (.str k t)) (EP X XQ Y Q) X.xe s:=Ng (T s.heap I.nk) e3 λv ⟨t',e4,q4⟩=>⟨.ref t',H,I.tok _,e4,q t' (Jt q4)⟩;unfold subscriptTail;refine cU ?_;rw[kg hT.not_modules];refine cU (iQ hT jy.lookup ?_);have XW:pi (Tk X.prog X.w) X.A (subscripted X3 lf (.ref a) (.str k t)) (λr s₃=>pi (Tk X.prog X.w) X.A (letTemporaryGo value (.ref a) r>>=λ_=>pure r) (EP X XQ Y Q) X.xe s₃) X.xe s:=by rw[hs];exact wpAny_operating (d9 h2 (λr s₃ h₃=>cU (kx (df h₃))) λ_ _ x=>x)
  first
   | exact df (cU XW)
   | exact cU (df (cU XW))
   | exact cU XW
 .cases d with
  | str k'=>obtain⟨ss,e4,q2⟩:=rc q1;exact⟨k',ss,hd.str_inv,Z',e4,λt qt=>k _ _ _ _ (.tup qt AH) XT e1 q2⟩
  | _=>exact q1.elim
noncomputable def Aa(M:Mp)(a:Uf):Option (T0 (rj×D)):=match M a with
 | some (.dk kvs)=>Fa kvs
 | _=>Db
noncomputable def vN(kvs:T0 (rj×D))(k:rj):Option D:=(kvs.find? λp=>decide (p.1=k)).map (·.2)
def zv{K:qC}{kvs:T0 (rj×D)}(hm:HM K H M)(h:Aa M a=Fa kvs):∃vs,H a=Fa (.dK vs)/\vs.map (·.1)=kvs.map (·.1)/\qy K H (kvs.map (·.2)) (vs.map (·.2)):=by
 unfold Aa at h;cases e:M a with
 | none=>rw[e]at h;cases h
 | some c=>
  rw[e]at h;have ok:=hm a c e;cases c with
  | dk es=>cases h;exact ok
  | ins _ _=>cases h
  | lst _=>cases h
  | exc _=>cases h
theorem Fe{K:qC}{k:rj}:∀{kvs:T0 (rj×D)} {vs:T0 (rj×V)},vs.map (·.1)=kvs.map (·.1)->qy K H (kvs.map (·.2)) (vs.map (·.2))->(∀d,vN kvs k=Fa d->∃v,wZ vs k=Fa v/\rZ K H d v)/\(vN kvs k=Db->wZ vs k=Db)
 | [],[],_,_=>⟨λd z=>(by cases z),λ_=>rfl⟩
 | [],_::_,e,_=>by cases e
 | _::_,[],e,_=>by cases e
 | (j,d)::kvs,(j',v)::vs,e,h=>by
  have e1:j'=j:=by simpa using(fG e).1
  subst e1;obtain⟨x,r,e2,h1,h2⟩:=h.inv;obtain⟨e3,e4⟩:=fG e2;subst e3 e4;have ih:=Fe (k:=k) (kvs:=kvs) (vs:=vs) (fG e).2 h2;by_cases hk:j'=k
  .have g:vN ((j',d)::kvs) k=Fa d:=by simp[vN,hk]
   have g':wZ ((j',v)::vs) k=Fa v:=by simp[wZ,hk]
   rw[g,g'];exact⟨λd' z=>by cases z;exact⟨v,Z',h1⟩,λz=>by cases z⟩
  .have g:vN ((j',d)::kvs) k=vN kvs k:=by simp[vN,hk]
   have g':wZ ((j',v)::vs) k=wZ vs k:=by simp[wZ,hk]
   rw[g,g'];exact ih
def MX(x y:D)(M:Mp)(Q:DK):Prop:=match x,y with
 | .ref a,.str k=>(Aa M a).elim False λkvs=>(vN kvs (.inr k)).elim False λd=>Q d M
 | _,_=>False
def Um(td tk:T3):T3:=λU M Q=>td U M λx M1=>tk U M1 λy M2=>MX x y M2 Q
def zT(hu:X.A.units+9<Y')(ho:E3 X o td)(hi:E3 X i tk)(hs:BG i:=by exact λ_ _=>rfl):E3 X (.Subscript o i pos) (Um td tk):=by
 refine PE.mono (Mr (r:=R3 X.K MX) (λvalue X3 XQ s Y H vx vy v u Q' I rx ry h hs=>?_) ho hi hs) Ik;obtain⟨x,y,M,Q,hx,hy,hm,q,k⟩:=h;unfold MX at q;split at q
 .rename_i a0 k0;obtain⟨kvs,e1,q⟩:=rc q;obtain⟨d,e2,q⟩:=rc q;cases hx.mO;cases hy.str_inv;obtain⟨vs,h1,h2,h3⟩:=zv hm e1;obtain⟨w,e3,hw⟩:=(Fe h2 h3).1 d e2;refine O6 (by omega) value X3 XQ s Y H _ _ v u Q' I rx ry ⟨_,w,Z',?_,k _ _ _ _ hw hm .refl q⟩ hs;have g:=Fj.k (k:=Sum.inr k0) h1;rw[e3]at g;exact g
 .exact q.elim
def SB(Zn:Bool)(x y:D)(M:Mp)(Q:DK):Prop:=match x,y with
 | .str k,.ref a=>(Aa M a).elim False λkvs=>Q (.bl (if Zn then !(vN kvs (.inr k)).isSome else(vN kvs (.inr k)).isSome)) M
 | _,_=>False
def Nw{K:qC}{k:rj}{kvs:T0 (rj×D)}{vs:T0 (rj×V)}(h2:vs.map (·.1)=kvs.map (·.1))(h3:qy K H (kvs.map (·.2)) (vs.map (·.2))):(wZ vs k).isSome=(vN kvs k).isSome:=by
 obtain⟨a,b⟩:=Fe (k:=k) h2 h3;cases e:vN kvs k with
 | none=>rw[b e];rfl
 | some d=>obtain⟨v,e3,_⟩:=a d e;rw[e3];rfl
def Wf(Zn:Bool)(tk td:T3):T3:=λU M Q=>tk U M λx M1=>td U M1 λy M2=>SB Zn x y M2 Q
def Ux(hu:X.A.units+9<Y'):yc X (Op .In) (R3 X.K (SB lf)):=λXQ s Y H vx vy v u Q' I rx ry h=>by
 obtain⟨x,y,M,Q,hx,hy,hm,q,k⟩:=h;unfold SB at q;split at q
 .obtain⟨kvs,e1,q⟩:=rc q;cases hy.mO;cases hx.str_inv;obtain⟨vs,h1,h2,h3⟩:=zv hm e1;refine RK (by omega) XQ s Y H _ _ v u Q' I rx ry ⟨_,_,Z',Fj.k (k:=Sum.inr _) h1,?_⟩;rw[Nw h2 h3];exact k _ _ _ _ .bl hm .refl q
 .exact q.elim
def MQ(hu:X.A.units+9<Y')(hi:E3 X i tk)(ho:E3 X o td)(hm:wT .In o=lf:=by first|exact HQ _|with_unfolding_all rfl):B3 X (.Compare i [.In] [o] pos) (b3 (Wf lf tk td)):=PT.mono (Jv (Ux hu) hi ho hm) λY H Q' zz=>x7 zz λU M Q hs hm ht k=>
 Ik Y H _ ⟨U,M,_,hs,hm,ht,λv H1 d M1 hd XT e1 q1=>by
  cases d with
  | bl c=>exact⟨c,hd.mR,k c H1 M1 XT e1 q1⟩
  | _=>exact q1.elim⟩
noncomputable def xo:T0 D->Option (T0 (rj×D))
 | []=>Fa []
 | .tup [.str k,d]::r=>(xo r).map ((.inr k,d)::·)
 | _::_=>Db
theorem DV{K:qC}:∀{es:T0 D} {kvs:T0 (rj×D)} {xs:T0 V},xo es=Fa kvs->qy K H es xs->∃(ts:QXQ) (vs:T0 (rj×V)),xs=ts.map V.ref/\ts.length=vs.length/\vs.map (·.1)=kvs.map (·.1)/\qy K H (kvs.map (·.2)) (vs.map (·.2))/\
  ∀(j:Nat) (t:Uf) (p:rj×V),ts[j]?=Fa t->vs[j]?=Fa p->vn K H t [kV p.1,p.2]
 | [],_,_,e,h=>by cases e;exact⟨[],[],h.nil_inv,Z',Z',.nil,λj t p z=>by simp at z⟩
 | d::es,kvs,xs,e,h=>by
  obtain⟨x,r,rfl,h1,h2⟩:=h.inv;unfold xo at e;split at e
  .rename_i z;cases z
  .rename_i k d' r' z;cases z;cases q:xo es with
   | none=>rw[q]at e;cases e
   | some kvs'=>
    rw[q]at e;cases e;obtain⟨ts,vs,e1,e2,e3,e4,e5⟩:=DV q h2;obtain⟨a,ys,rfl,g1,g2⟩:=h1.mU;obtain⟨y,r1,rfl,g3,g4⟩:=g2.inv;obtain⟨w,r2,rfl,g5,g6⟩:=g4.inv;cases g6.nil_inv;cases g3.str_inv;refine⟨a::ts,(.inr k,w)::vs,by rw[e1];rfl,by simpa using e2,by rw[dU,dU,e3],.cons g5 e4,λj t p z1 z2=>?_⟩;cases j with
    | zero=>
     have z1':a=t:=by simpa using z1
     have z2':(Sum.inr k,w)=p:=by simpa using z2
     subst z1' z2';exact g1
    | succ j=>exact e5 j t p (by simpa using z1) (by simpa using z2)
  .cases e
def Rp(ds:T0 D)(M:Mp)(Q:DK):Prop:=match ds with
 | [.ref a]=>(pA M a).elim False λes=>(xo es).elim False λkvs=>(kvs.map (·.1)).Nodup/\∀p,M p=Db->Q (.ref p) (pP M p (.dk kvs))
 | _=>False
def Fz(hc:X.calm=pc):C3 X (.type "dict") Rp:=by
 intro XQ s Y H vs us Q' I rv h;obtain⟨ds,M,Q,hd,hm,q,k⟩:=h;unfold Rp at q;split at q
 .obtain⟨es,e1,q⟩:=rc q;obtain⟨kvs,e2,hnd,q⟩:=rc q;obtain⟨v,rfl,hv⟩:=sO hd;cases hv.mO;obtain⟨xs,h1,h2,_⟩:=qD hm e1;obtain⟨ts,ws,rfl,f2,f3,f4,f5⟩:=DV e2 h2;refine Il hc XQ s Y H _ us Q' I rv ⟨_,ts,ws,Z',h1,f2,f5,by rw[f3];exact hnd,λd hd=>?_⟩;have e:qY X.K H (upd H d (.dK ws)):=.new hd;exact k _ _ _ _ .ref (hm.new (c:=.dk kvs) hd ⟨_,qw,f3,f4.mono e⟩) e (q d (hm.fresh hd))
 .exact q.elim
def TZ:zn "set"=Fa (.type "set"):=by decide+kernel
noncomputable def Ce:T0 D->Option (QQQ)
 | []=>Fa []
 | .str x::r=>(Ce r).map (x::·)
 | _::_=>Db
theorem Cp:∀ss:QQQ,Ce (ss.map D.str)=Fa ss
 | []=>rfl
 | x::r=>by show(Ce (r.map D.str)).map (x::·)=_;rw[Cp r];rfl
theorem GY{K:qC}:∀{ds:T0 D} {ss:QQQ} {xs:T0 V},Ce ds=Fa ss->qy K H ds xs->xs=ss.map V.str
 | [],_,_,e,h=>by cases e;exact h.nil_inv
 | d::ds,_,_,e,h=>by
  obtain⟨x,r,rfl,h1,h2⟩:=h.inv;cases d with
  | str z=>
   unfold Ce at e;cases q:Ce ds with
   | none=>rw[q]at e;cases e
   | some ss=>rw[q]at e;cases e;rw[h1.str_inv,GY q h2];rfl
  | _=>cases e
def U9(ta:T3):T3:=λU M Q=>ta U M λx M1=>(Md M1 x).elim False λes=>(Ce es).elim False λss=>ss.length<4000/\Q (.int (tH ss).length) M1
def Lb(hc:X.calm=pc)(he:E3 X e ta)(hg1:Gl X "len")(XT:X.mg "len"=Db)(hg2:Gl X "set")(Ya:X.mg "set"=Db)(b1:zn "len"=Fa (.builtin "len"))(b2:zn "set"=Fa (.type "set")) (hs:Tl [e] X.env=[(lf,wp e X.env)]:=by rfl):E3 X (.Call (.Name "len" p) [.Call (.Name "set" p2) [e] [] ZE] [] pos) (U9 ta):=
 PE.mono (KP hc he hg1 XT hg2 Ya b1 b2 hs) λY H Q' zz=>x7 zz λU M Q hs hm ht k=>⟨U,M,_,hs,hm,ht,λv H1 d M1 hd XT e1 q1=>by
  obtain⟨es,e2,q1⟩:=rc q1;obtain⟨ss,e3,hz,q1⟩:=rc q1;obtain⟨a,xs,rfl,h1,h2⟩:=FI XT hd e2;rw[GY e3 h2]at h1;have z:XXa=4096:=rfl;exact⟨a,ss,Z',h1,by omega,k _ _ _ _ .int XT e1 q1⟩⟩
def SO(x:D)(ds:T0 D)(M:Mp)(Q:DK):Prop:=match x,ds with
 | .ref a,[y]=>(pA M a).elim False λes=>es.length<Ch/\Q .mS (pP M a (.lst (es++[y])))
 | _,_=>False
def qk{es:T0 D}(h:pA M a=Fa es):M a=Fa (.lst es):=by
 unfold pA at h;split at h
 .rename_i e;rw[e];cases h;rfl
 .cases h
def EQ{K:qC}{es:T0 D}(hm:HM K H M)(h:pA M a=Fa es):∃xs,H a=Fa (.lst xs)/\qy K H es xs:=hm a _ (qk h)
def KB:M3 X "list.append" SO:=by
 intro XQ s Y H vx vs v us Q' I rx rv h;obtain⟨x,ds,M,Q,hx,hd,hm,q,k⟩:=h;unfold SO at q;split at q
 .obtain⟨es,e1,hz,q⟩:=rc q;obtain⟨w,rfl,hw⟩:=sO hd;cases hx.mO;obtain⟨xs,h1,h2⟩:=EQ hm e1;refine K4 XQ s Y H _ _ v us Q' I rx rv ⟨_,xs,w,Z',Z',h1,by rw[<-h2.length];exact hz,?_⟩;obtain⟨Ya,ex⟩:=hm.put (c:=.lst (es++[_])) (qk e1) λex=>⟨_,qw,(h2.mono ex).snoc (hw.mono ex)⟩;exact k _ _ _ _ .mS Ya ex q
 .exact q.elim
def sj(ho:E3 X o ta)(ha:A3 X (e::es) t)(X5:Ps o "append" X.env (wp o X.env)=wp o X.env:=by rfl)
  (Y3:((xz pos (Tl (e::es) X.env)).all (λx=>!x.1)&&(xL pos (Rs [] X.env)).all (λx=>x.1.isSome)&&decide ((e::es).length+([]:T0 XXe).length+(if ([]:T0 XXe).isEmpty then 0 else 1)<30))=pc:=by rfl)
  (Yh:(XU.endLine==pos.line)=pc:=by rfl) (hs:Bw X e es:=by rfl) (Yb:Dc X pos es:=by rfl):
  E3 X (.Call (.Attribute o "append" XU) (e::es) [] pos) (WD SO ta t):=Rf PySem.F.slot_list_append PySem.F.type_list_append KB ho ha X5 Y3 Yh hs Yb
def qF.none{M M2:Mp}{q:Uf}(s:qF M M2)(h:M2 q=Db):M q=Db:=by
 cases e:M q with
 | none=>rfl
 | some c=>rw[s q c e]at h;cases h
def qF.upd{M M2:Mp}{c:vd}(s:qF M M2):qF (pP M q c) (pP M2 q c):=λx d h=>by
 by_cases e:x=q
 .subst e;rw[qa]at h ⊢;exact h
 .rw[ut e]at h ⊢;exact s x d h
def qF.dk{ds:T0 (rj×D)}(s:qF M M')(h:Aa M a=Fa ds):Aa M' a=Fa ds:=by
 unfold Aa at h ⊢;cases e:M a with
 | none=>rw[e]at h;cases h
 | some c=>rw[s a c e];rw[e]at h;exact h
def sQ(p:Uf)(M M':Mp):Prop:=∀b c,b≠p->M b=Fa c->M' b=Fa c
def qF.keep{p:Uf}(s:qF M M'):sQ p M M':=λb c _ h=>s b c h
def sQ.trans{M M1 M2:Mp}{p:Uf}(a:sQ p M M1)(b:sQ p M1 M2):sQ p M M2:=λx c n h=>b x c n (a x c n h)
def sQ.put{p:Uf}{c:vd}:sQ p M (pP M p c):=λb d n h=>by rw[ut n];exact h
def sQ.lst{p a:Uf}{ds:T0 D}(k:sQ p M M')(n:a≠p)(h:pA M a=Fa ds):pA M' a=Fa ds:=by have:=k a _ n (qk h);unfold pA;rw[this]
def sQ.dk{p a:Uf}{ds:T0 (rj×D)}(k:sQ p M M')(n:a≠p)(h:Aa M a=Fa ds):Aa M' a=Fa ds:=by
 unfold Aa at h ⊢;cases e:M a with
 | none=>rw[e]at h;cases h
 | some c=>rw[k a c n e];rw[e]at h;exact h
def qg{a p C:Uf}{ds:T0 D}{fs:T0 (Str×D)}(h:pA M a=Fa ds)(hp:M p=Fa (.ins C fs)):a≠p:=λz=>by subst z;rw[qk h]at hp;cases hp
def CO{a p C:Uf}{ds:T0 (rj×D)}{fs:T0 (Str×D)}(h:Aa M a=Fa ds)(hp:M p=Fa (.ins C fs)):a≠p:=λz=>by subst z;unfold Aa at h;rw[hp]at h;cases h
def se{M:Mp}{p:Uf}{ds:T0 D}(h:M p=Fa (.lst ds)):pA M p=Fa ds:=by unfold pA;rw[h]
def CT{M:Mp}{p:Uf}{ds:T0 (rj×D)}(h:M p=Fa (.dk ds)):Aa M p=Fa ds:=by unfold Aa;rw[h]
def tN{N:Mp}{p q C:Uf}{fs fs':T0 (Str×D)}{c:vd}(hp:N p=Fa (.ins C fs))(hq:N q=Db):
  q≠p/\pP N q c p=Fa (.ins C fs)/\sQ p N (pP (pP N q c) p (.ins C fs'))/\pP (pP N q c) p (.ins C fs') q=Fa c/\pP (pP N q c) p (.ins C fs') p=Fa (.ins C fs'):=by
 have n:p≠q:=Pe hp hq;refine⟨dO n,by rw[ut n];exact hp,(qF.new hq).keep.trans .put,by rw[ut (dO n),qa],qa⟩
theorem zZ{g:Dv}{te:T3}{ok:Mp->Prop}{Q:DK}(all:T0 D)(J:T0 D->T0 D->vt->Mp->Prop)(mW:∀p acc U M,J p acc U M->ok M):∀(ds pre acc:T0 D) (U:vt) (M:Mp),pre++ds=all->acc.length+ds.length<=Ch->J pre acc U M->
  (∀pre d post,pre++d::post=all->∀acc U M,J pre acc U M->∀k:vt->DK,(∀δ2 y M4,J (pre++[d]) (acc++[y]) δ2 M4->k δ2 y M4)->g d U M λδ2 M2=>te δ2 M2 (k δ2))->
  (∀acc U M,J all acc U M->∀p,M p=Db->Q (.ref p) (pP M p (.lst acc)))->vm g Cw te ok Q ds acc U M
 | [],pre,acc,U,M,e,hl,j,_,hq=>⟨by simpa using hl,hq acc U M (by rw[<-e,eR];exact j)⟩
 | d::r,pre,acc,U,M,e,hl,j,ht,hq=>by rw[d6]at hl;refine⟨by omega,?_⟩;refine ht pre d r e acc U M j (λδ2 y M4=>ok M4/\vm g Cw te ok Q r (acc++[y]) δ2 M4) λδ2 y M4 j'=>⟨mW _ _ _ _ j',zZ all J mW r (pre++[d]) (acc++[y]) δ2 M4 (by rw[<-e,e9];rfl) ?_ j' ht hq⟩;rw[cW,dP];omega
noncomputable def sr:Nat->D->Bool
 | _,.mS=>pc
 | _,.bl _=>pc
 | _,.int _=>pc
 | _,.str _=>pc
 | n+1,.tup ds=>ds.all (sr n)
 | _,_=>lf
theorem yR{f:D->D->Option Bool}:∀ds:T0 D,(∀d∈ds,f d d=Fa pc)->tw f ds ds=Fa pc
 | [],_=>rfl
 | d::r,h=>by show(f d d).bind (λp=>(tw f r r).map λq=>p&&q)=Fa pc;rw[h d dG,yR r λe he=>h e (dC _ he)];rfl
theorem wG:∀(n:Nat) (d:D),sr n d=pc->za M (n+1) d d=Fa pc
 | _,.mS,_=>rfl
 | _,.bl _,_=>by simp[za]
 | _,.int _,_=>by simp[za]
 | _,.str _,_=>by simp[za]
 | n+1,.tup ds,h=>by have h:ds.all (sr n)=pc:=h;show(tw (za M (n+1)) ds ds).map (λp=>p&&ds.length==ds.length)=Fa pc;rw[yR ds λd hd=>wG n d (eD.mp h d hd)];simp
 | 0,.tup _,h=>by cases h
 | 0,.ref _,h=>by cases h
 | _+1,.ref _,h=>by cases h
 | 0,.ty _,h=>by cases h
 | _+1,.ty _,h=>by cases h
 | 0,.rl _,h=>by cases h
 | _+1,.rl _,h=>by cases h
def Am{ds:T0 D}(ha:pA M a=Fa ds)(hb:pA M b=Fa ds)(h:∀d∈ds,za M n d d=Fa pc):za M (n+1) (.ref a) (.ref b)=Fa pc:=by show(pA M a).bind (λi=>(pA M b).bind λj=>if i.length=j.length then tw (za M n) i j else Fa lf)=Fa pc;rw[ha,hb];show(if ds.length=ds.length then tw (za M n) ds ds else Fa lf)=Fa pc;rw[c9 Z'];exact yR ds h
def Sg(tc:AM)(tb:xC):xC:=λE U M=>∃W:Nat->vt->Mp->Prop,(∃m,W m U M)/\∀m U M,W m U M->
 tc U M λb M1=>if b=pc then tb {E with nx:=λδ' M'=>∃m',m'<m/\W m' δ' M',ct:=λδ' M'=>∃m',m'<m/\W m' δ' M',bk:=E.nx} U M1 else E.nx U M1
def N8{tc:AM}{tb:xC}(hp:PassesOwn (Tk X.prog X.w) X.A X.env X.xe)(hc:B3 X c tc)(hb:IP X body tb):S3 X (.While c body [] pos) (Sg tc tb):=
 PS.mono (LC hp hc hb) λD' Y H ⟨U,M,E,hs,hm,⟨W,⟨m0,w0⟩,turn⟩,k1,k2,k3,k4⟩=>by
 refine⟨λm σ' H'=>∃δ' M',zk X.K H' σ' δ'/\HM X.K H' M'/\qY X.K H H'/\σ'.length=Y.length/\W m δ' M',⟨m0,U,M,hs,hm,.refl,Z',w0⟩,?_⟩
 rintro m σ1 H1 ⟨δ1,M1,hs1,XT,e1,l1,w1⟩
 refine⟨δ1,M1,_,hs1,XT,turn m δ1 M1 w1,λb H2 M2 Ya e2 q2=>?_⟩;cases b with
 | false=>rw[cY dz]at q2 ⊢;exact k1 σ1 H2 δ1 M2 (hs1.mono e2) Ya (e1.trans e2) l1 q2
 | true=>
  rw[c9 Z']at q2 ⊢;refine⟨λσ' H'=>∃δ' M',zk X.K H' σ' δ'/\HM X.K H' M'/\qY X.K H H'/\σ'.length=Y.length/\∃m',m'<m/\W m' δ' M',?_,δ1,M2,_,hs1.mono e2,Ya,q2,?_,?_,?_,?_⟩
  .rintro σ' H' ⟨δ',M',a1,a2,a3,a4,m',lt,w⟩
   exact⟨m',lt,δ',M',a1,a2,a3,a4,w⟩
  .exact λσ' H' δ' M' y1 y2 y3 y4 y5=>⟨δ',M',y1,y2,e1.trans (e2.trans y3),by rw[y4,l1],y5⟩
  .exact λv H' d M' y1 y2 y3 y4=>k2 v H' d M' y1 y2 (e1.trans (e2.trans y3)) y4
  .exact λσ' H' δ' M' y1 y2 y3 y4 y5=>k1 σ' H' δ' M' y1 y2 (e1.trans (e2.trans y3)) (by rw[y4,l1]) y5
  .exact λσ' H' δ' M' y1 y2 y3 y4 y5=>⟨δ',M',y1,y2,e1.trans (e2.trans y3),by rw[y4,l1],y5⟩
noncomputable def RO(op:XYb)(x y:D):Option D:=match op,x,y with
 | .Add,.int i,.int j=>Fa (.int (i+j))
 | .Sub,.int i,.int j=>Fa (.int (i - j))
 | _,_,_=>Db
def Sk(op:XYb):V->V->Hp->VK->Prop:=λvx vy H Q=>match op,vx,vy with
 | .Add,.int i,.int j=>Q (.int (i+j)) H
 | .Sub,.int i,.int j=>Q (.int (i - j)) H
 | _,_,_=>False
def RT:PL X op (Sk op):=by
 intro XQ s Y H x y u v Q I rx ry h;unfold Sk at h;split at h
 .exact Th XQ s Y H _ _ u v Q I rx ry ⟨_,_,Z',Z',h⟩
 .exact Tu XQ s Y H _ _ u v Q I rx ry ⟨_,_,Z',Z',h⟩
 .exact h.elim
def Pl{K:qC}{x y z:D}{Q:VK}(hx:rZ K H x vx)(hy:rZ K H y vy)(e:RO op x y=Fa z)(k:∀vz,rZ K H z vz->Q vz H):Sk op vx vy H Q:=by
 unfold RO at e;split at e
 .cases e;cases hx.int_inv;cases hy.int_inv;exact k _ .int
 .cases e;cases hx.int_inv;cases hy.int_inv;exact k _ .int
 .cases e
def Vm(K:qC)(f:Str)(op:XYb)(ta tv:T3):xC:=λE U M=>ta U M λx M1=>match x with
 | .ref a=>Ag (M1 a) λC fs=>ux K C f/\(fs.lookup f).elim False λd=>tv U M1 λy M2=>(RO op d y).elim False λz=>Ag (M2 a) λC' fs'=>C'=C/\fs'.length<1000/\E.nx U (pP M2 a (.ins C (wj f z fs')))
 | _=>False
def Es{f:Str}(ha:E3 X o ta)(hv:E3 X value tv):S3 X (.AugAssign (.Attribute o f Z0) op value pos) (Vm X.K f op ta tv):=
 PS.mono (Kh ha hv RT) λD' Y H zz=>Kj zz λU M E hs hm ht k1 k2 k3 k4=>
 ⟨U,M,_,hs,hm,ht,λv H1 d M1 hd XT e1 q1=>by
  cases d with
  | ref a=>
   cases hd.mO;obtain⟨C,fs,e,q1⟩:=xH q1;obtain⟨na,q1⟩:=q1;obtain⟨d,ed,q1⟩:=rc q1;obtain⟨dx,vs,h1,cl,nn,fo⟩:=XT a _ e;obtain⟨w,ew,hw⟩:=(xp fo).1 d ed;refine⟨a,C,dx,vs,w,Z',h1,cl,na,ew,U,M1,_,hs.mono e1,XT,q1,λu H2 y M2 hy Ya e2 q2=>?_⟩;obtain⟨z,ez,q2⟩:=rc q2;obtain⟨C',fs',e',q2⟩:=xH q2;obtain⟨rfl,hl,q2⟩:=q2;refine Pl (hw.mono e2) hy ez λvz hz=>?_;obtain⟨dx',vs',Yz,cl',nn',fo'⟩:=Ya a _ e';have XY:vs'.length=fs'.length:=by have:=eK List.length fo'.1;simpa using this
   refine⟨dx',vs',Yz,by omega,?_⟩;obtain⟨YM,e3⟩:=Ya.put (p:=a) (o:=.ins C' dx' (vP f vz vs')) (c:=.ins C' (wj f z fs')) e' λx=>⟨dx',_,qw,cl',λg hg=>by
    rcases CU hg with q|q
    .rw[q];exact na
    .exact nn' g q,Fx (hz.mono x) (fo'.mono x)⟩
   exact k1 Y _ U _ (hs.mono (e1.trans (e2.trans e3))) YM (e1.trans (e2.trans e3)) Z' q2
  | _=>exact q1.elim⟩
theorem tK{i:Nat}{tt:AM}{te:T3}{ok:Mp->Prop}{Q:DK}{f:D->D}{t:D->Bool}{M:Mp}(mW:ok M):∀(ds acc:T0 D) (U:vt),acc.length+ds.length<=Ch->
  (∀d∈ds,∀k:Bool->Mp->Prop,k (t d) M->tt (U.set i (Fa d)) M k)->(∀d∈ds,t d=pc->∀k:DK,k (f d) M->te (U.set i (Fa d)) M k)->
  (∀p,M p=Db->Q (.ref p) (pP M p (.lst (acc++(ds.filter t).map f))))->vm (tE i) tt te ok Q ds acc U M
 | [],acc,U,hl,_,_,hq=>⟨by simpa using hl,by simpa using hq⟩
 | d::r,acc,U,hl,ht,he,hq=>by
  rw[d6]at hl;refine⟨by omega,?_⟩;show tt (U.set i (Fa d)) M _;refine ht d dG _ ?_;have z:∀e:D,(U.set i (Fa d)).set i (Fa e)=U.set i (Fa e):=λe=>by rw[iT]
  cases q:t d with
  | true=>
   rw[c9 Z'];refine he d dG q _ ⟨mW,tK (f:=f) (t:=t) mW r (acc++[f d]) _ ?_ (λe m k h=>?_) (λe m h0 k h=>?_) ?_⟩
   .rw[cW,dP];omega
   .rw[z];exact ht e (dC _ m) k h
   .rw[z];exact he e (dC _ m) h0 k h
   .intro p hp;have:=hq p hp;rw[iA q]at this
    simpa using this
  | false=>
   rw[cY dz];refine⟨mW,tK (f:=f) (t:=t) mW r acc _ (by omega) (λe m k h=>?_) (λe m h0 k h=>?_) ?_⟩
   .rw[z];exact ht e (dC _ m) k h
   .rw[z];exact he e (dC _ m) h0 k h
   .intro p hp;have:=hq p hp;rw[iB (by rw[q];exact dz)]at this;exact this
section
variable {a:Go}
def V9(ta:T3):T3:=λU M Q=>ta U M λx M1=>match x with|.int i=>Q (.int (-i)) M1|_=>False
def FE(ha:E3 X a ta):E3 X (.UnaryOp .USub a pos) (V9 ta):=PE.mono (UM RQ ha) λY H Q' zz=>x7 zz λU M Q hs hm ht k=>
 ⟨U,M,_,hs,hm,ht,λv H1 d M1 hd XT e1 q1=>by
  cases d with
  | int i=>cases hd.int_inv;exact⟨i,Z',k _ H1 _ M1 .int XT e1 q1⟩
  | _=>exact q1.elim⟩
end
end L3
namespace L2
open PySem.W
noncomputable def BN{α:Type}(lt:Nat->Nat->Bool):KasT α->α
 | .ret a=>a
 | .ask i j k=>BN lt (k (lt i j))
noncomputable def vB(n:Nat):KasT (Array Nat)->Bool
 | .ret p=>p.size==n&&p.toList.all λi=>decide (i<n)
 | .ask i j k=>decide (i<n)&&decide (j<n)&&vB n (k pc)&&vB n (k lf)
def GI{n i j:Nat}{k:Bool->KasT (Array Nat)}(h:vB n (.ask i j k)=pc):i<n/\j<n/\∀b,vB n (k b)=pc:=by simp only[vB,dS,eh]at h;exact⟨h.1.1.1,h.1.1.2,λb=>by cases b;exact h.2;exact h.1.2⟩
theorem G'{cmp:Nat->Nat->(Bool->Sd->Prop)->Sd->Prop}{lt:Nat->Nat->Bool}{n:Nat}{Q:Array Nat->Sd->Prop}(hc:∀i j (C:Bool->Sd->Prop),i<n->j<n->C (lt i j) s->cmp i j C s):
  ∀t:KasT (Array Nat),vB n t=pc->Q (BN lt t) s->t.kasWp cmp Q s
 | .ret _,_,q=>q
 | .ask i j k,hb,q=>by obtain⟨h1,h2,h3⟩:=GI hb;exact hc i j _ h1 h2 (G' hc (k (lt i j)) (h3 _) q)
theorem Js:∀t:KasT (Array Nat),vB n t=pc->(BN lt t).size=n/\∀i∈(BN lt t).toList,i<n
 | .ret p,hb=>by simp only[vB,dS,fh,eD,eh]at hb;exact hb
 | .ask i j k,hb=>Js (k (lt i j)) ((GI hb).2.2 _)
noncomputable def uf(lt:Nat->Nat->Bool)(n:Nat):T0 Nat:=if n<2 then List.range n else(BN lt (kas_sort n)).toList
def Ww:vB 2 (kas_sort 2)=pc:=by decide+kernel
def WI:vB 3 (kas_sort 3)=pc:=by decide+kernel
def Vc{n:Nat}(h2:2<=n)(h3:n<=3):vB n (kas_sort n)=pc:=by
 have:n=2\/n=3:=by omega
 rcases this with rfl|rfl
 .exact Ww
 .exact WI
def yy{n:Nat}(h3:n<=3):(uf lt n).length=n/\∀i∈uf lt n,i<n:=by
 unfold uf;by_cases h:n<2
 .rw[c9 h,eE];exact⟨Z',λi hi=>gf.mp hi⟩
 .rw[cY h];obtain⟨h1,h2⟩:=Js (lt:=lt) (kas_sort n) (Vc (by omega) h3);exact⟨by rw[ie];exact h1,h2⟩
variable {prog:Pg}{w:Wo}{A:Ar}{E:QQX}{s:Sd}
def DA{a:Uf}{vs:T0 Vl}{n:Nat}{κ:SortKind}{lt:Nat->Nat->Bool}{P:PySem.Fin->Sd->Prop}(ho:s.heap.get? a=Fa (wE "list" vs.toArray n))(h3:vs.length<=3) (hk:∀h' (Q:SortKind->Sd->Prop),0<vs.length->(∀b o,b≠a->s.heap.get? b=Fa o->h'.get? b=Fa o)->Q κ {s with heap:=h'}->pi (Tk prog w) A (keyKind' vs.toArray) Q (λ_ _=>False) {s with heap:=h'})
  (X2:∀h' i j (C:Bool->Sd->Prop),(∀b o,b≠a->s.heap.get? b=Fa o->h'.get? b=Fa o)->i<vs.length->j<vs.length->C (lt i j) {s with heap:=h'}->pi (Tk prog w) A (keyLt' κ (vs.getD i .none) (vs.getD j .none)) C (λ_ _=>False) {s with heap:=h'})
  (h:P (.done (.ret .none)) {s with heap:=sortedHeap s.heap a vs (List.toArray ((uf lt vs.length).map λi=>vs.getD i Value.none))}):
  pi (Tk prog w) A (Builtin.«list.sort» ⟨[.ref a],[]⟩) P E s:=by
 rw[list_sort_plain];have hz:=dI;have ha:a<s.heap.objs.size:=dv ho;refine cU (listItems_at ho Z' ?_);refine cU (kE ho Z' ?_ (by rw[dw];omega) (eN _));obtain⟨e1,ho1⟩:∃e1,(s.heap.update a (Obj.mapSeq λ_=>#[])).get? a=Fa (wE "list" #[] e1):=⟨_,get?_update_seq ho (λ_=>#[])⟩;refine cU (lK ho1 Z' ?_);refine cU (wpAny_newTuple ?_ (by show vs.length<=_;omega));refine cU (wpAny_newList ?_ (eN _));refine eB ?_;have ho6:(((s.heap.update a (Obj.mapSeq λ_=>#[])).push (wE "tuple" vs.toArray 0)).push (wE "list" #[] 0)).get? a=Fa (wE "list" #[] e1):=by rw[iE _ _ _ (by rw[mi,iK];exact dE (fT ha)),iE _ _ _ (by rw[iK];exact dE ha)];exact ho1
 have keep:∀b o,b≠a->s.heap.get? b=Fa o->(((s.heap.update a (Obj.mapSeq λ_=>#[])).push (wE "tuple" vs.toArray 0)).push (wE "list" #[] 0)).get? b=Fa o:=λb o hb q=>by have X2:b<s.heap.objs.size:=dv q;rw[iE _ _ _ (by rw[mi,iK];exact dE (fT X2)),iE _ _ _ (by rw[iK];exact dE X2),jc _ _ _ _ hb];exact q
 show pi (Tk prog w) A _ P E {s with heap:=((s.heap.update a (Obj.mapSeq λ_=>#[])).push (wE "tuple" vs.toArray 0)).push (wE "list" #[] 0)};dsimp only;have hsz:vs.toArray.size=vs.length:=by simp
 by_cases h2:vs.toArray.size<2
 .rw[c9 h2,c9 h2];refine cU (df ?_);rw[StateT.run_pure];refine cU (df ?_);dsimp only;refine cU (lK ho6 Z' ?_);have eo:(arrOf (SortSt.mk' general' (vs.toArray.zip vs.toArray) #[] 7 Db)).map (·.2)=List.toArray ((uf lt vs.length).map λi=>vs.getD i Value.none):=by
   unfold uf;rw[c9 (by omega)];show((vs.toArray.zip vs.toArray).map (·.2))=_
   match vs,hsz,h2 with
   | [],_,_=>simp
   | [_],_,_=>simp[iU]
   | _::_::_,_,h2=>simp at h2;omega
  rw[eo];refine cU (kE ho6 Z' ?_ (eN _) (by rw[dw,cT,(yy h3).1];omega));simp only[lE,iu,jf];exact df h
 .rw[cY h2,cY h2];have g2:2<=vs.length:=by omega
  refine cU (d9 (hk _ (λκ' s'=>κ'=κ/\s'={s with heap:=((s.heap.update a (Obj.mapSeq λ_=>#[])).push (wE "tuple" vs.toArray 0)).push (wE "list" #[] 0)}) (by omega) keep ⟨Z',Z'⟩) ?_ λ_ _ x=>x.elim)
  rintro κ' s' ⟨rfl,rfl⟩
  refine cU (d9 (kat_run (ks:=vs) (vs:=vs) (Q:=λYG s'=>∃p:Array Nat,arrOf YG=p.map (kas_item (vs.toArray.zip vs.toArray))/\failedOf YG=Db/\p.toList=uf lt vs.length/\s'={s with heap:=((s.heap.update a (Obj.mapSeq λ_=>#[])).push (wE "tuple" vs.toArray 0)).push (wE "list" #[] 0)})
   (G:=λp s'=>p.toList=uf lt vs.length/\s'={s with heap:=((s.heap.update a (Obj.mapSeq λ_=>#[])).push (wE "tuple" vs.toArray 0)).push (wE "list" #[] 0)})
   rfl g2 (by omega) (λp' YG s' a1 a2 a3 a4=>⟨p',a2,a3,a4⟩) (G' (n:=vs.length) (lt:=lt) (λi j C hi hj hC=>X2 _ i j C keep hi hj hC) _ (Vc g2 h3) ⟨by unfold uf;rw[cY (by omega)],Z'⟩)) ?_ λ_ _ e=>e)
  rintro ⟨⟨⟩,YG⟩ s' ⟨p,har,hf,hp,rfl⟩
  dsimp only;have hout:=kat_snds Z' har;rw[hp]at hout;refine cU (lK ho6 Z' ?_);rw[hout];refine cU (kE ho6 Z' ?_ (eN _) (by rw[dw,cT,(yy h3).1];omega));rw[hf];simp only[lE,iu,jf];exact df h
noncomputable def VW(a b:Str×Int):Bool:=if a.1==b.1 then(if a.2==b.2 then lf else decide (a.2<b.2))else decide (a.1.cps.toList<b.1.cps.toList)
def Rc{x y:Uf}{ox oy:Obj}{n k:Nat}{a b:Str×Int}{t1 t2 t3 t4:Tok}{C:Bool->Sd->Prop}(hx:s.heap.get? x=Fa ox)(dx:ox.data=.seq #[.str a.1 t1,.int a.2 t2] n)(hy:s.heap.get? y=Fa oy)(dy:oy.data=.seq #[.str b.1 t3,.int b.2 t4] k)(h:C (VW a b) s):
  pi (Tk prog w) A (keyLt' (tuples' pc) (.ref x) (.ref y)) C E s:=by
 refine kat_lt hx dx hy dy ?_;show KatLex prog w A pc _ C [(Value.str a.1 t1,Value.str b.1 t3),(Value.int a.2 t2,Value.int b.2 t4)] 0 s;unfold VW at h;refine kat_cons (eqBool_str ?_);cases e:a.1==b.1 with
 | true=>
  rw[e,c9 Z']at h;refine kat_yes (kat_cons (lM ?_));cases e2:a.2==b.2 with
  | true=>rw[e2,c9 Z']at h;exact kat_yes (kat_nil h)
  | false=>rw[e2,cY dz]at h;exact kat_no (kat_one _ _ (PyProof.Rows.lt_int h))
 | false=>rw[e,cY dz]at h;exact kat_no (oneLt_str h)
def Dk{x:Str}(h:CC (.inr x) v=pc):∃t,v=.str x t:=by
 rcases so h with⟨i,t,e,_⟩|⟨y,t,e,e2⟩
 .cases e
 .cases e;exact⟨t,e2⟩
noncomputable def FS(ps:T0 (Str×Int))(i j:Nat):Bool:=VW (ps.getD i ("",0)) (ps.getD j ("",0))
noncomputable def tz(ps:T0 (Str×Int)):T0 (Str×Int):=(uf (FS ps) ps.length).map λi=>ps.getD i ("",0)
def Ed{ps:T0 (Str×Int)}(h:ps.length<=3):(tz ps).length=ps.length:=by unfold tz;rw[cT];exact(yy h).1
def Pr(h:No)(a:Uf)(p:Str×Int):Prop:=Bs λt1 t2=>h.get? a=Fa {cls:=.type "tuple",data:=.seq #[.str p.1 t1,.int p.2 t2]}
def Pr.inj{p q:Str×Int}(x:Pr h a p)(y:Pr h a q):p=q:=by obtain⟨t1,t2,e1⟩:=x;obtain⟨u1,u2,e2⟩:=y;rw[e1]at e2;have:=dh e2;simp only[Obj.mk.injEq,Data.seq.injEq,Array.mk.injEq,List.cons.injEq,Value.str.injEq,Value.int.injEq]at this;exact mB (by simp_all) (by simp_all)
theorem JW:∀(as:QXQ) (ps:T0 (Str×Int)),as.length=ps.length->(∀(j:Nat) (a:Uf) (p:Str×Int),as[j]?=Fa a->ps[j]?=Fa p->Pr h a p)->∃fs,KatTups h (as.map Value.ref) fs/\fs.length=as.length/\∀v∈fs,∃x t,v=Value.str x t
 | [],[],_,_=>⟨[],.nil,Z',λv hv=>nomatch hv⟩
 | [],_::_,e,_=>by cases e
 | _::_,[],e,_=>by cases e
 | a::as,p::ps,e,hp=>by
  obtain⟨fs,h1,h2,h3⟩:=JW as ps (by simpa using e) λj a' p' e1 e2=>hp (j+1) a' p' (by simpa using e1) (by simpa using e2);obtain⟨t1,t2,ea⟩:=hp 0 a p Z' Z';refine⟨.str p.1 t1::fs,.cons ea Z' Z' Z' h1,by simp[h2],λv hv=>?_⟩;rcases de.mp hv with z|z
  .exact⟨_,_,z⟩
  .exact h3 v z
def Gp{r d:Uf}{kvs:T0 (rj×Vl)}{ep:Nat}{ps:T0 (Str×Int)}{Q:QQX}(hh:A.handled=Db)(hv:s.heap.IsItemsView r d)(hm:s.heap.DictAt (rL prog w) d kvs ep)(h3:ps.length<=3) (hp:kvs.length=ps.length) (hps:∀(j:Nat) (k:rj) (x:Vl),kvs[j]?=Fa (k,x)->∃p t,ps[j]?=Fa p/\k=Sum.inr p.1/\x=.int p.2 t) (h:∀(h':No) (tk:Nat) (S:Uf) (ws:QXQ) (e:Nat),(∀b o,s.heap.get? b=Fa o->h'.get? b=Fa o)->r<S->h'.get? S=Fa (wE "list" (ws.map Value.ref).toArray e)->ws.length=ps.length->
    (∀(j:Nat) (a:Uf) (p:Str×Int),ws[j]?=Fa a->(tz ps)[j]?=Fa p->r<a/\a≠S/\Pr h' a p)->Q (.ref S) {s with heap:=h',toks:=tk}):
  pi (Tk prog w) A (call (.builtin "sorted") [.ref r]) Q E s:=by
 have hz:=dI;have hr:r<s.heap.objs.size:=by obtain⟨o,ho,_⟩:=hv;exact dv ho
 refine Calls.call_function_entry kind_sorted plain_sorted entry_sorted (args_sorted1 _) ?_;unfold Builtin.«sorted»;refine cU (m:=checkCount "sorted" 1 1 _) (df ?_);refine cU (kdx_collect (A:=A.in1) hh hv hm (by omega) λh1 tk as hk hl hG=>?_);refine cU (wpAny_newList ?_ (by rw[cT];omega));have hl':as.length=ps.length:=by omega
 have pr:∀(j:Nat) (a:Uf) (p:Str×Int),as[j]?=Fa a->ps[j]?=Fa p->Pr h1 a p:=λj a p e1 e2=>by obtain⟨key,k,x,f1,f2,f3⟩:=hG.pairs j a e1;obtain⟨p',t,g1,g2,g3⟩:=hps j k x f1;rw[e2]at g1;cases g1;subst g2 g3;obtain⟨t',rfl⟩:=Dk f2;exact⟨t',t,f3⟩
 have hoL:(h1.push (wE "list" (as.map Value.ref).toArray 0)).get? h1.objs.size=Fa (wE "list" (as.map Value.ref).toArray 0):=dF _ Z';have pr2:∀h',(∀b o,b≠h1.objs.size->(h1.push (wE "list" (as.map Value.ref).toArray 0)).get? b=Fa o->h'.get? b=Fa o)->∀(j:Nat) (a:Uf) (p:Str×Int),as[j]?=Fa a->ps[j]?=Fa p->Pr h' a p:=λh' kp j a p e1 e2=>by obtain⟨t1,t2,e3⟩:=pr j a p e1 e2;exact⟨t1,t2,kp _ _ (dE (dv e3)) (cZ _ e3)⟩
 have gd:∀i,i<as.length->∃a p,as[i]?=Fa a/\ps[i]?=Fa p/\(as.map Value.ref).getD i Value.none=.ref a/\ps.getD i ("",0)=p:=λi hi=>by
  have YK:i<ps.length:=by omega
  refine⟨as[i],ps[i],cV hi,cV YK,?_,?_⟩
  .simp[hi]
  .simp[YK]
 have hll:(as.map Value.ref).length=ps.length:=by rw[cT];exact hl'
 show pi _ _ _ _ _ {s with heap:=h1.push (wE "list" (as.map Value.ref).toArray 0),toks:=tk};refine cU (eB (fR slot_list_sort ⟨_,hoL,Z'⟩ entry_list_sort (DA (κ:=tuples' pc) (lt:=FS ps) (s:={s with heap:=h1.push (wE "list" (as.map Value.ref).toArray 0),toks:=tk}) hoL (by rw[hll];exact h3) (λh' Q' Yc kp hq=>?_) (λh' i j C kp hi hj hC=>?_) ⟨_,Z',?_⟩) (args_list_sort _)))
 .obtain⟨fs,k1,k2,k3⟩:=JW as ps hl' (pr2 h' kp);refine kat_kind (T:=Value.type "str") k1 (by rw[k2];rw[cT]at Yc;exact Yc) (λv hv=>?_) (by decide) hq;obtain⟨x,t,rfl⟩:=k3 v hv;exact Looks.now
 .rw[cT]at hi hj;obtain⟨a,p,a1,a2,a3,a4⟩:=gd i hi;obtain⟨b,q,b1,b2,b3,b4⟩:=gd j hj;rw[a3,b3];obtain⟨t1,t2,e1⟩:=pr2 h' kp i a p a1 a2;obtain⟨t3,t4,e2⟩:=pr2 h' kp j b q b1 b2;refine Rc (s:={s with heap:=h',toks:=tk}) e1 Z' e2 Z' ?_;show C (VW p q) _;rw[<-a4,<-b4];exact hC
 .obtain⟨e,he⟩:=sortedHeap_at (h:=h1.push (wE "list" (as.map Value.ref).toArray 0)) (a:=h1.objs.size) (vs:=as.map Value.ref) (out:=List.toArray ((uf (FS ps) (as.map Value.ref).length).map λi=>(as.map Value.ref).getD i Value.none)) hoL;have Yp:∀b o,h1.get? b=Fa o->(sortedHeap (h1.push (wE "list" (as.map Value.ref).toArray 0)) h1.objs.size (as.map Value.ref) (List.toArray ((uf (FS ps) (as.map Value.ref).length).map λi=>(as.map Value.ref).getD i Value.none))).get? b=Fa o:=λb o q=>by have hb:=dv q;rw[sortedHeap_old (dE hb) (by rw[mi];exact fT hb)];exact cZ _ q
  have ix:=yy (lt:=FS ps) h3;have eo:((uf (FS ps) (as.map Value.ref).length).map λi=>(as.map Value.ref).getD i Value.none)=((uf (FS ps) ps.length).map λi=>as.getD i 0).map Value.ref:=by
   rw[hll,dZ];refine gv λi hi=>?_;have:=ix.2 i hi;have Zp:i<as.length:=by omega
   simp[Zp]
  refine df ⟨_,Z',h _ tk h1.objs.size ((uf (FS ps) ps.length).map λi=>as.getD i 0) e (λb o q=>Yp b o (hk b o q)) ?_ ?_ ?_ λj a p e1 e2=>?_⟩
  .obtain⟨o,ho,_⟩:=hv;exact dv (hk _ _ ho)
  .rw[he,eo]
  .rw[cT];exact ix.1
  .unfold tz at e2;rw[dD]at e1 e2;cases ei:(uf (FS ps) ps.length)[j]? with
   | none=>rw[ei]at e1;cases e1
   | some i=>
    rw[ei]at e1 e2;have hi:=ix.2 i (fk ei);obtain⟨a',p',a1,a2,a3,a4⟩:=gd i (by omega);have ea:a=a':=by have:as.getD i 0=a:=dh e1;rw[<-this];simp[fN,a1]
    have ep:p=p':=by have:ps.getD i ("",0)=p:=dh e2;rw[<-this,a4]
    subst ea ep;have P1:=pr i a p a1 a2;obtain⟨t1,t2,e3⟩:=P1;exact⟨il hr (hG.above a (fk a1)),dE (dv e3),t1,t2,Yp _ _ e3⟩
def Inv.many{XQ:QQY}{H H':Hp}{h':No}{t':Nat}(I:Inv X XQ Y H s)(k:∀b o,s.heap.get? b=Fa o->h'.get? b=Fa o)(hs:∀b,b<s.heap.objs.size->H' b=H b) (new:∀b o,s.heap.objs.size<=b->H' b=Fa o->su X.prog X.w H' h' b o):Inv X XQ Y H' {s with heap:=h',toks:=t'}:=by
 have sm:∀b o,H b=Fa o->H' b=Fa o:=λb o e=>by rw[hs b (I.mW.lt e)];exact e
 refine I.step (g':=s.gens) (d':=s.drawn) (ch:=[]) (λb hb=>nomatch hb) (λb o _ _ _ e _=>k b o e) (λb o _ _ _ e _=>⟨o.slots,k b o e⟩) (λb o _ e n=>by rw[hs b (dv e)];exact n)
  (λb o _ e=>⟨o,k b o e⟩) (λb xs e=>sm b _ e) (λb o u e=>sm b _ e) (λb ps e=>⟨#[],by rw[sm b _ e];simp⟩) (λm hm=>?_) (λb u e=>?_) I.bare
 .obtain⟨o,es,ep,ho,r⟩:=hm;exact⟨o,es,ep,k _ o ho,r⟩
 .by_cases hb:b<s.heap.objs.size
  .rw[hs b hb]at e;exact(I.mW b u e).nA (λc v _ q=>k c v q) (λc q=>sm c _ q) λc xs q=>sm c _ q
  .exact new b u (jJ hb) e
def Ta(te:TE):TE:=λY H Q=>te Y H λv H1=>∃a kvs ps,v=.ref a/\H1 a=Fa (.dK kvs)/\kvs=(ps:T0 (Str×Int)).map (λp=>((Sum.inr p.1:rj),V.int p.2))/\ps.length<=3/\
 ∀(S:Uf) (H2:Hp) (ws:QXQ),H1 S=Db->(∀b o,H1 b=Fa o->H2 b=Fa o)->H2 S=Fa (.lst (ws.map V.ref))->ws.length=ps.length->(∀(j:Nat) (a:Uf) (p:Str×Int),ws[j]?=Fa a->(tz ps)[j]?=Fa p->H2 a=Fa (.tup [.str p.1,.int p.2]))->
  (∀b o,H1 b=Db->H2 b=Fa o->b=S\/∃p:Str×Int,o=.tup [.str p.1,.int p.2])->Q (.ref S) H2
def KJ:zn "sorted"=Fa (.builtin "sorted"):=by decide+kernel
theorem JO:∀{ps:T0 (Str×Int)} {vs:T0 (rj×Vl)},KV (ps.map (λp=>((Sum.inr p.1:rj),V.int p.2))) vs->vs.length=ps.length/\∀(j:Nat) (k:rj) (x:Vl),vs[j]?=Fa (k,x)->∃p t,ps[j]?=Fa p/\k=Sum.inr p.1/\x=.int p.2 t
 | [],_,.nil=>⟨Z',λj k x e=>by simp at e⟩
 | p::ps,_,.cons r rs=>by
  obtain⟨h1,h2⟩:=JO rs;refine⟨by simp[h1],λj k x e=>?_⟩;cases j with
  | zero=>have e:=dh e;obtain⟨r1,t,r2⟩:=r;subst e;exact⟨p,t,Z',r1.symm,r2⟩
  | succ j=>exact h2 j k x e
def Ex{X:Cx}{te:TE}{p pos XU XZ:Pos}(hc:X.calm=pc)(he:PE X o te)(hg:Gl X "sorted")(hm:X.mg "sorted"=Db) (X5:Ps o "items" X.env (wp o X.env)=wp o X.env:=by rfl) (Yh:(XU.endLine==XZ.line)=pc:=by rfl):
  PE X (.Call (.Name "sorted" p) [.Call (.Attribute o "items" XU) [] [] XZ] [] pos) (Ta te):=by
 intro XQ s Y H Q I h;refine fQ (xj I hg hm KJ ?_);refine gR ?_ Z' Z';show pi _ _ (spliced ((lf,wp (.Call (.Attribute o "items" XU) [] [] XZ) X.env)::xz pos (Tl [] X.env))) _ _ s;refine ik ?_;refine wpAny_Call_method0_late X5 Yh (sS (he XQ s Y H _ I h) λv s1 zz=>?_);obtain⟨x,H1,I1,r1,a,kvs,ps,ex,ea,ek,h3,q⟩:=zz;subst ex;obtain rfl:v=Value.ref a:=r1;obtain⟨h1,h2⟩:=Nc (T:="dict") (x:=.ref a) I1 Z' (.inr (.inr (.inl ⟨Z',.inl ⟨_,ea⟩⟩)));refine⟨"dict","dict.items",PySem.F.plainAttrs_dict,jT,PySem.F.type_dict_items,h1,h2,j6 Z' (PySem.evalArgs_none ?_)⟩;obtain⟨hz,hS,vs,rk,hD⟩:=I1.mW a _ ea;refine call_meetsIn jT h1 PySem.F.entry_dict_items (PySem.F.args_dict_items_1 _) (meets_dict_items (rL X.prog X.w) a hS) ⟨⟨vs,hD⟩,?_⟩;refine iD ?_;obtain⟨ep,hat⟩:=hD.dictAt;subst ek;obtain⟨g1,g2⟩:=JO rk;refine Gp (ps:=ps) (s:={s1 with heap:=s1.heap.push {cls:=.type "dict_items",data:=.fields #[.ref a]}}) (I1.ok.hd hc) ⟨_,dF _ Z',Z',Z'⟩ (hat.push _) h3 g1 g2 λh' tk S ws e k hrS ZC hl hw=>?_;have k':∀b o,s1.heap.get? b=Fa o->h'.get? b=Fa o:=λb o z=>k b o (cZ _ z);have ZF:(tz ps).length=ws.length:=by rw[Ed h3,hl]
 let H2:Hp:=λb=>if b=S then Fa (.lst (ws.map V.ref))else match (ws.zip (tz ps)).lookup b with
  | some p=>Fa (.tup [.str p.1,.int p.2])
  | none=>H1 b
 have at1:∀b p,(ws.zip (tz ps)).lookup b=Fa p->s1.heap.objs.size<b/\b≠S/\Pr h' b p:=λb p z=>by
  have:(b,p)∈ws.zip (tz ps):=by
   have go:∀l:T0 (Uf×(Str×Int)),l.lookup b=Fa p->(b,p)∈l:=λl=>by
    induction l with
    | nil=>intro z;cases z
    | cons c r ih=>
     intro z;rw[eF]at z;cases q:b==c.1 with
     | true=>
      rw[q]at z;have hb:b=c.1:=by simpa using q
      have:c=(b,p):=mB hb.symm (dh z);rw[this];exact dG
     | false=>rw[q]at z;exact dC _ (ih z)
   exact go _ z
  obtain⟨j,hj⟩:=List.mem_iff_getElem?.mp this;obtain⟨e1,e2⟩:=ii.mp hj;exact hw j b p e1 e2
 have lowS:s1.heap.objs.size<S:=hrS;have low:∀b,b<s1.heap.objs.size->H2 b=H1 b:=λb hb=>by
  show(if b=S then _ else _)=_;rw[cY (dE (il hb lowS))];cases z:(ws.zip (tz ps)).lookup b with
  | none=>rfl
  | some p=>exact absurd (at1 b p z).1 (Nat.not_lt_of_lt hb)
 have eS:H2 S=Fa (.lst (ws.map V.ref)):=c9 Z';have fr:∀b,s1.heap.objs.size<=b->H1 b=Db:=λb hb=>I1.mW.fresh hb;have tupAt:∀(j:Nat) (b:Uf) (p:Str×Int),ws[j]?=Fa b->(tz ps)[j]?=Fa p->H2 b=Fa (.tup [.str p.1,.int p.2]):=λj b p e1 e2=>by
  obtain⟨_,n2,n3⟩:=hw j b p e1 e2;show(if b=S then _ else _)=_;rw[cY n2];have mem:(b,p)∈ws.zip (tz ps):=fk (ii.mpr ⟨e1,e2⟩);cases z:(ws.zip (tz ps)).lookup b with
  | none=>
   have go:∀l:T0 (Uf×(Str×Int)),(b,p)∈l->l.lookup b≠Db:=λl=>by
    induction l with
    | nil=>intro z;cases z
    | cons c r ih=>
     intro z;rw[eF];cases q:b==c.1 with
     | true=>simp
     | false=>
      rcases de.mp z with y|y
      .rw[<-y]at q;simp at q
      .exact ih y
   exact absurd z (go _ mem)
  | some p'=>rw[(at1 b p' z).2.2.inj n3]
 have newOk:∀b u,s1.heap.objs.size<=b->H2 b=Fa u->su X.prog X.w H2 h' b u/\(b=S\/∃p:Str×Int,u=.tup [.str p.1,.int p.2]):=λb u hb z=>by
  by_cases eb:b=S
  .subst eb;rw[eS]at z;cases z;refine⟨⟨by rw[cT,hl,dI];omega,ws.map Value.ref,e,?_,ZC⟩,.inl Z'⟩;have go:∀l:QXQ,qJ (l.map V.ref) (l.map Value.ref):=λl=>by
    induction l with
    | nil=>exact .nil
    | cons c r ih=>exact .cons Z' ih
   exact go ws
  .have z':(match (ws.zip (tz ps)).lookup b with|some p=>Fa (HO.tup [.str p.1,.int p.2])|none=>H1 b)=Fa u:=by have:H2 b=_:=cY eb;rw[this]at z;exact z
   cases y:(ws.zip (tz ps)).lookup b with
   | none=>rw[y,fr b hb]at z';cases z'
   | some p=>rw[y]at z';cases z';obtain⟨_,_,t1,t2,e3⟩:=at1 b p y;exact⟨⟨by show 2<=Ch;rw[dI];decide,[.str p.1 t1,.int p.2 t2],.cons ⟨_,Z'⟩ (.cons ⟨_,Z'⟩ .nil),⟨_,e3,Z',⟨_,Z'⟩,Z'⟩⟩,.inr ⟨p,Z'⟩⟩
 refine⟨.ref S,H2,I1.many (t':=tk) k' low λb u hb z=>(newOk b u hb z).1,Z',q S H2 ws (fr S (jD lowS)) (λb u z=>by rw[low b (I1.mW.lt z)];exact z) eS hl tupAt λb u z1 z2=>?_⟩;by_cases hb:b<s1.heap.objs.size
 .rw[low b hb,z1]at z2;cases z2
 .exact(newOk b u (jJ hb) z2).2
end L2
namespace L3
open L2
noncomputable def xM(p:Str×Int):D:=.tup [.str p.1,.int p.2]
def RL(ta:T3):T3:=λU M Q=>ta U M λx M1=>match x with
 | .ref a=>∃ps:T0 (Str×Int),Aa M1 a=Fa (ps.map λp=>((Sum.inr p.1:rj),D.int p.2))/\ps.length<=3/\∀S,M1 S=Db->Q (.ref S) (pP M1 S (.lst ((tz ps).map xM)))
 | _=>False
theorem B8{K:qC}:∀{ps:T0 (Str×Int)} {vs:T0 (rj×V)},vs.map (·.1)=(ps.map λp=>((Sum.inr p.1:rj),D.int p.2)).map (·.1)->qy K H ((ps.map λp=>((Sum.inr p.1:rj),D.int p.2)).map (·.2)) (vs.map (·.2))->vs=ps.map (λp=>((Sum.inr p.1:rj),V.int p.2))
 | [],[],_,_=>rfl
 | [],_::_,e,_=>by cases e
 | _::_,[],e,_=>by cases e
 | p::ps,(k,v)::vs,e,h=>by obtain⟨x,r,e2,h1,h2⟩:=h.inv;obtain⟨e3,e4⟩:=fG e2;obtain⟨f1,f2⟩:=fG e;subst e3 e4;have hk:k=Sum.inr p.1:=f1;have hv:v=V.int p.2:=rZ.int_inv h1;rw[B8 f2 h2,hk,hv];rfl
def EH{X:Cx}{p pos XU XZ:Pos}(hc:X.calm=pc)(he:E3 X o ta)(hg:Gl X "sorted")(hm:X.mg "sorted"=Db) (X5:Ps o "items" X.env (wp o X.env)=wp o X.env:=by rfl) (Yh:(XU.endLine==XZ.line)=pc:=by rfl):
  E3 X (.Call (.Name "sorted" p) [.Call (.Attribute o "items" XU) [] [] XZ] [] pos) (RL ta):=PE.mono (Ex hc he hg hm X5 Yh) λY H Q' zz=>x7 zz λU M Q hs hm ht k=>
 ⟨U,M,_,hs,hm,ht,λv H1 d M1 hd XT e1 q1=>by
  cases d with
  | ref a=>
   cases hd.mO;obtain⟨ps,f1,f2,q⟩:=q1;obtain⟨vs,h1,h2,h3⟩:=zv XT f1;refine⟨a,vs,ps,Z',h1,B8 h2 h3,f2,λS H2 ws n1 kp eS hl hw hn=>?_⟩;have ex:qY X.K H1 H2:=⟨λb xs z=>by
    rcases z with(z|⟨u,z⟩)|z
    .exact .inl (.inl (kp _ _ z))
    .exact .inl (.inr ⟨u,kp _ _ z⟩)
    .exact .inr z,λb u xs z=>kp _ _ z⟩
   have Z8:(tz ps).length=ws.length:=by rw[Ed f2,hl]
   have hasW:∀(l:T0 (Str×Int)) (us:QXQ),l.length=us.length->(∀(j:Nat) (a:Uf) (p:Str×Int),us[j]?=Fa a->l[j]?=Fa p->H2 a=Fa (.tup [.str p.1,.int p.2]))->qy X.K H2 (l.map xM) (us.map V.ref):=λl=>by
    induction l with
    | nil=>intro us e _;cases us with
     | nil=>exact .nil
     | cons _ _=>cases e
    | cons c r ih=>intro us e hu;cases us with
     | nil=>cases e
     | cons b us=>exact .cons (.tup (.of (hu 0 b c Z' Z')) (.cons .str (.cons .int .nil))) (ih us (by simpa using e) λj a p e1 e2=>hu (j+1) a p e1 e2)
   refine k _ _ _ _ .ref (λb c z=>?_) (e1.trans ex) (q S (XT.fresh n1));by_cases eb:b=S
   .subst eb;rw[qa]at z;cases z;exact⟨_,eS,hasW _ _ Z8 hw⟩
   .rw[ut eb]at z;have ok:=XT b c z;obtain⟨u,eu,_⟩:=ok.there;exact ok.keep ex (by rw[eu,kp _ _ eu])
  | _=>exact q1.elim⟩
variable {X:Cx}{pos:Pos}{a b o i:Go}{ta tb ti to:T3}
def UO(to ti:T3):Dv:=λd U M Q=>to U M λx M1=>ti U M1 λy M2=>match x,y with
 | .ref p,.int k=>(pA M2 p).elim False λes=>(Hj es.length k).elim False λj=>Q U (pP M2 p (.lst (es.set j d)))
 | _,_=>False
theorem qy.set{K:qC}(hv:rZ K H d v):∀{ds:T0 D} {xs:T0 V} (j:Nat),qy K H ds xs->qy K H (ds.set j d) (xs.set j v)
 | [],_,j,h=>by rw[h.nil_inv];simp only[List.set_nil];exact .nil
 | e::ds,_,0,h=>by obtain⟨x,r,rfl,h1,h2⟩:=h.inv;exact .cons hv h2
 | e::ds,_,j+1,h=>by obtain⟨x,r,rfl,h1,h2⟩:=h.inv;exact .cons h1 (qy.set hv j h2)
def S5(ho:E3 X o to)(hi:E3 X i ti) (ha:∀v,assign (.Subscript o i pos) X.env v=(do
   let ov<-ZB [v] (wp o X.env);let iv<-ZB [v,ov] (wp i X.env)
   XXc pos
   ZB [v,ov,iv] (setItem ov iv v)
   release [v,ov,iv] []):=by intro _;rfl):G3 X (.Subscript o i pos) (UO to ti):=
 PG.mono (SC ho hi L7 ha) λv Y H Q' ⟨d,U,M,Q,hd,hs,hm,ht,k⟩=>
 ⟨U,M,_,hs,hm,ht,λvx H1 x M1 hx XT e1 q1=>⟨U,M1,_,hs.mono e1,XT,q1,λvy H2 y M2 hy Ya e2 q2=>by
  cases x with
  | ref p=>
   cases y with
   | int j0=>obtain⟨es,f1,q2⟩:=rc q2;obtain⟨j,f2,q2⟩:=rc q2;cases(hx.mono e2).mO;cases hy.int_inv;obtain⟨xs,h1,h2⟩:=EQ Ya f1;refine⟨p,xs,j0,j,Z',Z',h1,by rw[<-h2.length];exact f2,?_⟩;have hd2:=hd.mono (e1.trans e2);obtain⟨YM,e3⟩:=Ya.put (o:=.lst (xs.set j v)) (c:=.lst (es.set j d)) (qk f1) λex=>⟨_,qw,(h2.mono ex).set (hd2.mono ex) j⟩;exact k Y _ U _ (hs.mono (e1.trans (e2.trans e3))) YM (e1.trans (e2.trans e3)) Z' q2
   | _=>exact q2.elim
  | _=>exact q2.elim⟩⟩
end L3
namespace L2
variable {prog:Pg}{w:Wo}{A:Ar}{E:QQX}{s:Sd}{X:Cx}
end L2
namespace L3
open L2
variable {X:Cx}{pos XU p:Pos}{a b o e i value:Go}{es:T0 Go}{ta tb ti to tv td tk:T3}{t:xI}
def SG(x y:D)(M:Mp)(Q:DK):Prop:=match x,y with
 | .ref a,.int k=>(pA M a).elim False λes=>(0<=k/\k<=1000/\es.length<=1000)/\∀p,M p=Db->Q (.ref p) (pP M p (.lst (List.replicate k.toNat es).flatten))
 | _,_=>False
theorem JM{K:qC}(h:qy K H ds xs):∀n:Nat,qy K H (List.replicate n ds).flatten (List.replicate n xs).flatten
 | 0=>.nil
 | n+1=>by rw[eG,eG,fO,fO];exact h.append (JM h n)
def S0:yc X (wP .Mult) (R3 X.K SG):=λXQ s Y H vx vy v u Q' I rx ry h=>by
 obtain⟨x,y,M,Q,hx,hy,hm,q,k⟩:=h;unfold SG at q;split at q
 .obtain⟨es,e1,⟨q1,q2,q3⟩,q⟩:=rc q;cases hx.mO;cases hy.int_inv;obtain⟨xs,h1,h2⟩:=EQ hm e1;have hz:=dI;have hl:=h2.length;refine RN XQ s Y H _ _ v u Q' I rx ry ⟨_,_,xs,Z',Z',h1,by omega,by omega,?_,λpp hp=>?_⟩
  .exact dY (kh (show xs.length<=1000 by omega) (show Int.toNat _<=1000 by omega)) (by rw[hz];decide)
  .exact k _ _ _ _ .ref (hm.new (c:=.lst _) hp ⟨_,qw,(JM h2 _).mono (.new hp)⟩) (.new hp) (q pp (hm.fresh hp))
 .exact q.elim
def VI(ta tb:T3):T3:=λU M Q=>ta U M λx M1=>tb U M1 λy M2=>SG x y M2 Q
def B6(ha:E3 X a ta)(hb:E3 X b tb):E3 X (.BinOp a .Mult b pos) (VI ta tb):=PE.mono (RG S0 ha hb) Ik
noncomputable def BL(kvs:T0 (rj×D))(k:rj)(v:D):T0 (rj×D):=if (kvs.any λkv=>decide (kv.1=k))=pc then kvs.map (λkv=>if kv.1=k then(kv.1,v)else kv)else kvs++[(k,v)]
theorem GH{κ α β:Type}{k:κ}[DecidableEq κ]:∀{xs:T0 (κ×α)} {ys:T0 (κ×β)},xs.map (·.1)=ys.map (·.1)->(xs.any λkv=>decide (kv.1=k))=ys.any λkv=>decide (kv.1=k)
 | [],[],_=>rfl
 | [],_::_,e=>by cases e
 | _::_,[],e=>by cases e
 | x::xs,y::ys,e=>by obtain⟨e1,e2⟩:=fG e;rw[fZ,fZ,GH e2];have e1:x.1=y.1:=e1;rw[e1]
def Lc{K:qC}{k:rj}(hv:rZ K H d v){kvs:T0 (rj×D)}{vs:T0 (rj×V)}(h1:vs.map (·.1)=kvs.map (·.1))(h2:qy K H (kvs.map (·.2)) (vs.map (·.2))):
  (yN vs k v).map (·.1)=(BL kvs k d).map (·.1)/\qy K H ((BL kvs k d).map (·.2)) ((yN vs k v).map (·.2)):=by
 have go:∀{kvs:T0 (rj×D)} {vs:T0 (rj×V)},vs.map (·.1)=kvs.map (·.1)->qy K H (kvs.map (·.2)) (vs.map (·.2))->
   (vs.map (λkv=>if kv.1=k then(kv.1,v)else kv)).map (·.1)=(kvs.map (λkv=>if kv.1=k then(kv.1,d)else kv)).map (·.1)/\qy K H ((kvs.map (λkv=>if kv.1=k then(kv.1,d)else kv)).map (·.2)) ((vs.map (λkv=>if kv.1=k then(kv.1,v)else kv)).map (·.2)):=λ{kvs}=>by
  induction kvs with
  | nil=>intro vs e h;cases vs with
   | nil=>exact⟨Z',.nil⟩
   | cons _ _=>cases e
  | cons c r ih=>intro vs e h;cases vs with
   | nil=>cases e
   | cons w ws=>
    obtain⟨e1,e2⟩:=fG e;obtain⟨x,xr,e3,g1,g2⟩:=h.inv;obtain⟨e4,e5⟩:=fG e3;subst e4 e5;obtain⟨i1,i2⟩:=ih e2 g2;have e1:w.1=c.1:=e1;by_cases hk:c.1=k
    .have w1:(if w.1=k then(w.1,v)else w)=(w.1,v):=c9 (e1.trans hk);have w2:(if c.1=k then(c.1,d)else c)=(c.1,d):=c9 hk;simp only[dU,w1,w2];exact⟨by rw[i1,e1],.cons hv i2⟩
    .have w1:(if w.1=k then(w.1,v)else w)=w:=cY λz=>hk (e1.symm.trans z);have w2:(if c.1=k then(c.1,d)else c)=c:=cY hk;simp only[dU,w1,w2];exact⟨by rw[i1,e1],.cons g1 i2⟩
 unfold yN BL;rw[GH (k:=k) h1];by_cases hk:(kvs.any λkv=>decide (kv.1=k))=pc
 .rw[c9 hk,c9 hk];exact go h1 h2
 .rw[cY hk,cY hk];exact⟨by rw[dM,dM,h1];rfl,by rw[dM,dM];exact h2.append (.cons hv .nil)⟩
def VA(td tk tv:T3):xC:=λD U M=>tv U M λv M1=>td U M1 λx M2=>tk U M2 λy M3=>match x,y with
 | .ref a,.str k=>(Aa M3 a).elim False λkvs=>kvs.length<Ch/\D.nx U (pP M3 a (.dk (BL kvs (.inr k) v)))
 | _,_=>False
def yz{a:Uf}{kvs:T0 (rj×D)}(h:Aa M a=Fa kvs):M a=Fa (.dk kvs):=by
 unfold Aa at h;split at h
 .rename_i e;rw[e];cases h;rfl
 .cases h
def OG(hu:X.A.units+9<Y')(ho:E3 X o td)(hi:E3 X i tk)(hv:E3 X value tv)(hs:sB value (Fa (.Subscript o i X0)) pos.line X.env=pure lf:=by rfl):S3 X (.Assign [.Subscript o i X0] value pos) (VA td tk tv):=
 PS.mono (OV (by omega) ho hi hv hs) λD' Y H zz=>Kj zz λU M D hs hm ht k1 k2 k3 k4=>
 ⟨U,M,_,hs,hm,ht,λv H1 d M1 hd XT e1 q1=>⟨U,M1,_,hs.mono e1,XT,q1,λvx H2 x M2 hx Ya e2 q2=>⟨U,M2,_,hs.mono (e1.trans e2),Ya,q2,λvy H3 y M3 hy YM e3 q3=>by
  split at q3
  .rename_i a0 k0;obtain⟨kvs,f1,f2,q3⟩:=rc q3;cases(hx.mono e3).mO;cases hy.str_inv;obtain⟨vs,h1,h2,h3⟩:=zv YM f1;have hl:vs.length=kvs.length:=by have:=eK List.length h2;simpa using this
   refine⟨_,_,Z',NP.k (k:=Sum.inr k0) h1 (by omega),?_⟩;have hd3:=hd.mono (e2.trans e3);obtain⟨hm4,e4⟩:=YM.put (o:=.dK (yN vs (Sum.inr k0) v)) (c:=.dk (BL kvs (.inr k0) d)) (yz f1) λex=>by obtain⟨g1,g2⟩:=Lc (k:=Sum.inr k0) (hd3.mono ex) h2 (h3.mono ex);exact⟨_,qw,g1,g2⟩
   exact k1 Y _ U _ (hs.mono (e1.trans (e2.trans (e3.trans e4)))) hm4 (e1.trans (e2.trans (e3.trans e4))) Z' q3
  .exact q3.elim⟩⟩⟩
variable {XQ:T0 (Uf × Obj)}{Y:St}{H:Hp}{s:Sd}{tp:Pos}{Yi:T0 Go}{n:Nat}
end L3
namespace L2
open Builtin Builtin.Str
variable {prog:Pg}{w:Wo}{A:Ar}{E:QQX}{s:Sd}{X:Cx}
end L2
namespace L3
open L2 Builtin Builtin.Str
variable {X:Cx}{pos XU:Pos}{o e:Go}{es:T0 Go}{ta:T3}{t:xI}
@[irreducible] def SsI (X:Cx) (st:T0 TD) (t:xC):Prop:=IP X st t
@[irreducible] def SI (X:Cx) (st:TD) (t:xC):Prop:=S3 X st t
@[irreducible] def EI (X:Cx) (e:Go) (t:T3):Prop:=E3 X e t
@[irreducible] def AI (X:Cx) (es:T0 Go) (t:xI):Prop:=A3 X es t
variable {prog:Pg}{w:Wo}{A:Ar}{E:QQX}{s:Sd}{XQ:T0 (Uf × Obj)}{Y:St}{H:Hp}{p tp:Pos}{Yi:T0 Go}{n:Nat}
theorem yj{g:Dv}{tt:AM}{te:T3}{ok:Mp->Prop}{Q:DK}(all:T0 D)(J:T0 D->T0 D->vt->Mp->Prop)(mW:∀p acc U M,J p acc U M->ok M):∀(ds pre acc:T0 D) (U:vt) (M:Mp),pre++ds=all->acc.length+ds.length<=Ch->J pre acc U M->
  (∀pre d post,pre++d::post=all->∀acc U M,J pre acc U M->∀(k:vt->DK) (k2:vt->Mp->Prop),(∀δ2 y M4,J (pre++[d]) (acc++[y]) δ2 M4->k δ2 y M4)->(∀δ2 M3,J (pre++[d]) acc δ2 M3->k2 δ2 M3)->g d U M λδ2 M2=>tt δ2 M2 λb M3=>if b=pc then te δ2 M3 (k δ2)else k2 δ2 M3)->
  (∀acc U M,J all acc U M->∀p,M p=Db->Q (.ref p) (pP M p (.lst acc)))->vm g tt te ok Q ds acc U M
 | [],pre,acc,U,M,e,hl,j,_,hq=>⟨by simpa using hl,hq acc U M (by rw[<-e,eR];exact j)⟩
 | d::r,pre,acc,U,M,e,hl,j,ht,hq=>by rw[d6]at hl;refine⟨by omega,?_⟩;refine ht pre d r e acc U M j (λδ2 y M4=>ok M4/\vm g tt te ok Q r (acc++[y]) δ2 M4) (λδ2 M3=>ok M3/\vm g tt te ok Q r acc δ2 M3) (λδ2 y M4 j'=>⟨mW _ _ _ _ j',yj all J mW r (pre++[d]) (acc++[y]) δ2 M4 (by rw[<-e,e9];rfl) ?_ j' ht hq⟩) λδ2 M3 j'=>⟨mW _ _ _ _ j',yj all J mW r (pre++[d]) acc δ2 M3 (by rw[<-e,e9];rfl) (by omega) j' ht hq⟩;rw[cW,dP];omega
end L3
namespace L2
noncomputable def Cx.oh(X:Cx)(E:QQX):Cx:={X with xe:=E}
def Inv.oh{E:QQX}{XQ:QQY}(I:Inv X XQ Y H s):Inv (X.oh E) XQ Y H s:=
 ⟨⟨I.ok.mod,I.ok.kind,I.ok.glob,I.ok.blt,I.ok.above,I.ok.inj,I.ok.has,I.ok.oO,I.ok.hd,I.ok.frames,I.ok.oR,I.ok.pB,I.ok.bs,I.ok.oo,I.ok.nV,I.ok.oi,I.ok.nF,I.ok.oA⟩,I.os,I.bare,I.base,I.loc,I.cell,I.free,I.m9,I.pin,I.mW,I.len⟩
def Inv.xeOf{X:Cx}{E:QQX}{XQ:QQY}(I:Inv (X.oh E) XQ Y H s):Inv X XQ Y H s:=
 ⟨⟨I.ok.mod,I.ok.kind,I.ok.glob,I.ok.blt,I.ok.above,I.ok.inj,I.ok.has,I.ok.oO,I.ok.hd,I.ok.frames,I.ok.oR,I.ok.pB,I.ok.bs,I.ok.oo,I.ok.nV,I.ok.oi,I.ok.nF,I.ok.oA⟩,I.os,I.bare,I.base,I.loc,I.cell,I.free,I.m9,I.pin,I.mW,I.len⟩
end L2
namespace L3
open L2
end L3
namespace L2
end L2
namespace L3
open L2
variable {X:Cx}{pos p tp kpos:Pos}{Yi:T0 Go}{n:Nat}
end L3
namespace L2
variable {prog:Pg}{w:Wo}{A:Ar}{E:QQX}{s:Sd}{a:Uf}{U:Type}{k:Str}{tk:Tok}
section
variable {R:U→Vl→Prop}{D:T0 (Str × U)}
end
end L2
namespace L3
open L2
variable {X:Cx}{pos p:Pos}{x:Str}{d:D}{e o i:Go}{ta tb td tk:T3}{F:T0 (Str × QQQ)}
end L3
namespace L2
def MO(h:No)(e:Uf)(cls:Vl)(dx tb:Option Uf)(F:Vl):Prop:=
 ∃oe vs,h.get? e=Fa oe/\oe.cls=cls/\oe.dict=dx/\oe.data=.fields vs/\1<vs.size/\vs[1]?=Fa (tb.elim Value.none Value.ref)/\∀T,tb=Fa T->T≠e/\∃oT ts,h.get? T=Fa oT/\oT.data=.fields ts/\3<ts.size/\ts[3]?=Fa F
def Q6(h:No)(e:Uf)(cls:Vl)(dx tb:Option Uf):Prop:=MO h e cls dx tb Value.none
theorem BQ{h base:No}:∀{l:T0 Env} {b:Uf},h.FunFrames base l->b∈wx l->∃o,h.get? b=Fa o/\∀vs,o.data≠.fields vs
 | [],b,_,hb=>by cases hb
 | env::r,b,hF,hb=>by
  obtain⟨_,⟨L,o,hL,_,ho,hd⟩,hr⟩:=hF;have e:wx (env::r)=L::wx r:=by unfold wx;rw[fW,hL]
  rw[e]at hb;rcases de.mp hb with z|z
  .rw[z];exact⟨o,ho,hd⟩
  .exact BQ hr z
def D7{h base:No}{l:T0 Env}{b:Uf}{o:Obj}{vs:Array Vl}(hF:h.FunFrames base l)(ho:h.get? b=Fa o)(hd:o.data=.fields vs):b∉wx l:=λhb=>by obtain⟨o',Yw,hn⟩:=BQ hF hb;rw[ho]at Yw;cases Yw;exact hn vs hd
variable {M:Model}{A:Ar}{s:Sd}{base:No}{env:Env}{outer:T0 Env}{L e:Uf}{cls:Vl}{dx:Option Uf}{Q:Unit→Sd→Prop}
section
variable {E:QQX}
def QC{Y6:Vl}{had:Bool}{oe:Obj}{vs:Array Vl}{Yy:Env}(hcf:Yy.frame=Fa L)(ZU:A.frames=Fa (env::outer))(hF:s.heap.FunFrames base (env::outer))(hL:env.frame=Fa L)(ho:s.heap.get? e=Fa oe)(hd:oe.data=.fields vs)(h1:1<vs.size) (k:∀(h':No) (T:Uf),s.heap.get? T=Db->(∀b o,s.heap.get? b=Fa o->b∉wx (env::outer)->b≠e->h'.get? b=Fa o)->(∀b o,s.heap.get? b=Fa o->b∈wx (env::outer)->∃sl,h'.get? b=Fa {o with slots:=sl})->
   (∃oe',h'.get? e=Fa oe'/\oe'.cls=oe.cls/\oe'.dict=oe.dict/\oe'.data=.fields (vs.setIfInBounds 1 (.ref T)))->(∃oT ts,h'.get? T=Fa oT/\oT.data=.fields ts/\3<ts.size/\ts[3]?=Fa (X' ↑L))->Q () {s with heap:=h'}):
  pi M A (do
   let a<-PySem.frameOf Yy;let pl<-entryPlaceOf L had;let b<-EntryCells.newEntry Y6 a Value.none (X' ↑L) Value.none pl
   setField (Value.ref e) 1 b) Q E s:=by
 have ne:=D7 hF ho hd;unfold PySem.frameOf;refine cU (cU (wpAny_frameEnvs ZU (cU ?_)));have ed:List.dropWhile (λx=>x.frame != Yy.frame) (env::outer)=env::outer:=by rw[List.dropWhile_cons,cY (by rw[hL,hcf];simp)]
 rw[ed];unfold frameObject;refine cU (wpAny_readyFrames_fun hF λYz hs=>?_);obtain⟨z1,z2,z3⟩:=hs;rw[hL];refine df (df ?_);refine cU (wpAny_entryPlaceOf λpl hp=>?_);refine cU ?_;unfold EntryCells.newEntry newFields;have XY:([Y6,Value.ref L,Value.none,X' ↑L,Value.none]++if pl.isEmpty=pc then List.replicate 6 Value.none else pl).length=11:=by rw[cW];rcases hp with rfl|⟨_,_,_,_,_,_,_,rfl⟩<;>rfl
 have hfl:([Y6,Value.ref L,Value.none,X' ↑L,Value.none]++if pl.isEmpty=pc then List.replicate 6 Value.none else pl)[3]?=Fa (X' ↑L):=rfl;generalize ([Y6,Value.ref L,Value.none,X' ↑L,Value.none]++if pl.isEmpty=pc then List.replicate 6 Value.none else pl)=fs at XY hfl ⊢;refine fS ?_ (by
  show fs.toArray.size<=_;rw[dw,XY];decide)
 have e1:Yz.get? e=Fa oe:=by rw[z2 e ne];exact ho
 have e2:(Yz.push {cls:=.type "traceback",data:=.fields fs.toArray}).get? e=Fa oe:=cZ _ e1;refine hJ e2 hd h1 ?_;have tn:s.heap.get? Yz.objs.size=Db:=gI (by rw[z1];exact dq _);have te:Yz.objs.size≠e:=λz=>by rw[z,ho]at tn;cases tn
 obtain⟨oc,od,odt,YL⟩:=oe;obtain rfl:odt=.fields vs:=hd;have up:∀b,e≠b->((Yz.push {cls:=.type "traceback",data:=.fields fs.toArray}).update e (Obj.mapFields λx=>x.setIfInBounds 1 (.ref Yz.objs.size))).get? b=(Yz.push {cls:=.type "traceback",data:=.fields fs.toArray}).get? b:=λb z=>fY _ _ z;refine k _ Yz.objs.size tn (λb o hb nf ne'=>?_) (λb o hb hf=>?_) ⟨_,fH _ e2 Z',Z',Z',Z'⟩ ⟨_,fs.toArray,(up _ (dO te)).trans (dF _ Z'),Z',by rw[dw,XY];decide,by rw[iM];exact hfl⟩
 .rw[up b (dO ne')];exact cZ _ (by rw[z2 b nf];exact hb)
 .obtain⟨sl,q⟩:=z3 b o hb;refine⟨sl,?_⟩;rw[up b (λz=>ne (z ▸ hf))];exact cZ _ q
def RY{E₁:QQX}{tb:Option Uf}{F:Vl}{Yy:Env}(hcf:Yy.frame=Fa L)(ZU:A.frames=Fa (env::outer))(hF:s.heap.FunFrames base (env::outer))(hL:env.frame=Fa L)(hx:MO s.heap e cls dx tb F)(hFL:(F==X' ↑L)=lf) (k:∀(h':No) (T:Uf),s.heap.get? T=Db->(∀b o,s.heap.get? b=Fa o->b∉wx (env::outer)->b≠e->tb≠Fa b->h'.get? b=Fa o)->(∀b o,s.heap.get? b=Fa o->b∈wx (env::outer)->∃sl,h'.get? b=Fa {o with slots:=sl})->
   (∀b,h'.get? b=Db->s.heap.get? b=Db)->MO h' e cls dx (Fa T) (X' ↑L)->Q () {s with heap:=h'}):pi M A (noteFrame (.ref e) Yy) Q E₁ s:=by
 obtain⟨oe,vs,ho,hc,ZI,hd,h1,hv,hT⟩:=hx;have ne:=D7 hF ho hd;unfold noteFrame;rw[hcf];refine cU (fi ho hd hv ?_);have XW:∀(s1:Sd) (oe1:Obj),s1.gens=s.gens->s1.drawn=s.drawn->s1.toks=s.toks->s1.os=s.os->s1.heap.FunFrames base (env::outer)->s1.heap.get? e=Fa oe1->oe1.cls=cls->oe1.dict=dx->oe1.data=.fields vs->(∀b o,s.heap.get? b=Fa o->b∉wx (env::outer)->b≠e->tb≠Fa b->s1.heap.get? b=Fa o)->
   (∀b o,s.heap.get? b=Fa o->b∈wx (env::outer)->s1.heap.get? b=Fa o)->(∀b,s1.heap.get? b=Db↔s.heap.get? b=Db)->∀(Y6:Vl) (had:Bool),pi M A (do
   let a<-PySem.frameOf Yy;let pl<-entryPlaceOf L had;let b<-EntryCells.newEntry Y6 a Value.none (X' ↑L) Value.none pl
   setField (Value.ref e) 1 b) Q E₁ s1:=by
  intro s1 oe1 g1 g2 g3 g4 hF1 ho1 hc1 hdx1 hd1 kb kf kn Y6 had;refine QC hcf ZU hF1 hL ho1 hd1 h1 λh' T tn k1 k2 ⟨oe',he',hce,hdxe,hde⟩ ⟨oT,ts,Y0,Zr,h3,h3v⟩=>?_;have te:T≠e:=λz=>by rw[z,ho1]at tn;cases tn
  have:=k h' T ((kn T).mp tn) (λb o hb nf nb nt=>k1 b o (kb b o hb nf nb nt) nf nb) (λb o hb hf=>k2 b o (kf b o hb hf) hf) (λb hb=>?_) ⟨oe',vs.setIfInBounds 1 (.ref T),he',hce.trans hc1,hdxe.trans hdx1,hde,by rw[jN];exact h1,by rw[ic h1];rfl,λT' eT=>?_⟩
  .show Q () {heap:=_,gens:=s1.gens,drawn:=s1.drawn,toks:=s1.toks,os:=s1.os};rw[g1,g2,g3,g4];exact this
  .refine(kn b).mp ?_;cases q:s1.heap.get? b with
   | none=>rfl
   | some o=>
    by_cases z:b=e
    .rw[z,he']at hb;cases hb
    .by_cases zf:b∈wx (env::outer)
     .obtain⟨sl,q2⟩:=k2 b o q zf;rw[q2]at hb;cases hb
     .rw[k1 b o q zf z]at hb;cases hb
  .cases eT;exact⟨te,oT,ts,Y0,Zr,h3,h3v⟩
 cases tb with
 | none=>rw[cY (show ¬((Db:Option Uf).elim Value.none Value.ref != Value.none)=pc by decide+kernel)];exact XW s oe Z' Z' Z' Z' hF ho hc ZI hd (λb o hb _ _ _=>hb) (λb o hb _=>hb) (λb=>.rfl) _ _
 | some T=>
  obtain⟨nTe,oT,ts,Y0,Zr,h3,hn⟩:=hT T Z';rw[c9 (show((Fa T:Option Uf).elim Value.none Value.ref != Value.none)=pc by rfl)];refine cU (fi Y0 Zr hn ?_);rw[cY (by rw[hFL];exact dz)];refine cU (hJ Y0 Zr h3 ?_);have up:∀b,T≠b->(s.heap.update T (Obj.mapFields λx=>x.setIfInBounds 3 .none)).get? b=s.heap.get? b:=λb z=>fY _ _ z;have nf:∀b o,s.heap.get? b=Fa o->(∀vs,o.data≠.fields vs)->T≠b:=λb o hb hn z=>by rw[<-z,Y0]at hb;cases hb;exact hn ts Zr
  have sz:∀b,(s.heap.update T (Obj.mapFields λx=>x.setIfInBounds 3 .none)).get? b=Db↔s.heap.get? b=Db:=λb=>by
   by_cases z:T=b
   .rw[<-z];obtain⟨oc,od,odt,YL⟩:=oT;obtain rfl:odt=.fields ts:=Zr;rw[fH _ Y0 Z',Y0];exact⟨(λq=>by cases q),(λq=>by cases q)⟩
   .rw[up b z]
  exact XW {s with heap:=s.heap.update T (Obj.mapFields λx=>x.setIfInBounds 3 .none)} oe Z' Z' Z' Z' (mH (λb o hb hn=>⟨o,(up b (nf b o hb hn)).trans hb,Z'⟩) hF) ((up e nTe).trans ho) hc ZI hd
   (λb o hb _ _ nt=>(up b λz=>nt (by rw[z])).trans hb) (λb o hb hf=>by
    obtain⟨o',Yw,hn⟩:=BQ hF hf;rw[hb]at Yw;cases Yw;exact(up b (nf b o hb hn)).trans hb) sz _ _
def Lz{T:Uf}{F:Vl}(x:Option Uf)(hx:MO s.heap e cls dx (Fa T) F)(k:∀h':No,(∀b,T≠b->h'.get? b=s.heap.get? b)->(∀b,h'.get? b=Db↔s.heap.get? b=Db)->MO h' e cls dx (Fa T) (x.elim .none λf=>X' f)->Q () {s with heap:=h'}):pi M A (setFlight (.ref e) x) Q E s:=by
 obtain⟨oe,vs,ho,hc,ZI,hd,h1,hv,hT⟩:=hx;obtain⟨nTe,oT,ts,Y0,Zr,h3,hn⟩:=hT T Z';unfold setFlight;refine cU (fi ho hd hv ?_);rw[c9 (by rfl)];refine hJ Y0 Zr h3 ?_;obtain⟨oc,od,odt,YL⟩:=oT;obtain rfl:odt=.fields ts:=Zr;have up:∀b,T≠b->(s.heap.update T (Obj.mapFields λy=>y.setIfInBounds 3 (x.elim .none λf=>X' f))).get? b=s.heap.get? b:=λb z=>fY _ _ z;refine k _ up (λb=>?_) ⟨oe,vs,(up e nTe).trans ho,hc,ZI,hd,h1,hv,λT' eT=>?_⟩
 .by_cases z:T=b
  .rw[<-z,fH _ Y0 Z',Y0];exact⟨(λq=>by cases q),(λq=>by cases q)⟩
  .rw[up b z]
 .cases eT;exact⟨nTe,_,ts.setIfInBounds 3 (x.elim .none λf=>X' f),fH _ Y0 Z',Z',by rw[jN];exact h3,by rw[ic h3]⟩
def J9{E₁ E₂:QQX}{tb:Option Uf}(ZU:A.frames=Fa (env::outer))(hF:s.heap.FunFrames base (env::outer))(hL:env.frame=Fa L)(hx:Q6 s.heap e cls dx tb) (k:∀(h':No) (T:Uf),s.heap.get? T=Db->(∀b o,s.heap.get? b=Fa o->b∉wx (env::outer)->b≠e->tb≠Fa b->h'.get? b=Fa o)->(∀b o,s.heap.get? b=Fa o->b∈wx (env::outer)->∃sl,h'.get? b=Fa {o with slots:=sl})->
   Q6 h' e cls dx (Fa T)->Q () {s with heap:=h'}):pi M A (noteFrame (.ref e) env) (λ_ s₂=>pi M A (setFlight (.ref e) Db) Q E₂ s₂) E₁ s:=by
 refine RY hL ZU hF hL hx (dJ.mpr λz=>by have:=fh.mp z;cases this) λh' T tn k1 k2 _ x'=>?_;refine Lz Db x' λh2 up _ x2=>k h2 T tn (λb o hb nf nb nt=>?_) (λb o hb hf=>?_) x2
 .have tb:T≠b:=λz=>by rw[z,hb]at tn;cases tn
  exact(up b tb).trans (k1 b o hb nf nb nt)
 .have tb:T≠b:=λz=>by rw[z,hb]at tn;cases tn
  obtain⟨sl,q⟩:=k2 b o hb hf;exact⟨sl,(up b tb).trans q⟩
def Ra{tb:Option Uf}(ZU:A.frames=Fa (env::outer))(hF:s.heap.FunFrames base (env::outer))(hL:env.frame=Fa L)(hx:Q6 s.heap e cls dx tb) (k:∀(h':No) (T:Uf),s.heap.get? T=Db->(∀b o,s.heap.get? b=Fa o->b∉wx (env::outer)->b≠e->tb≠Fa b->h'.get? b=Fa o)->(∀b o,s.heap.get? b=Fa o->b∈wx (env::outer)->∃sl,h'.get? b=Fa {o with slots:=sl})->
   Q6 h' e cls dx (Fa T)->Q () {s with heap:=h'}):pi M A (leaving env (.ref e)) Q E s:=cU (J9 ZU hF hL hx k)
end
def BY(P:Pg)(w:Wo):Ln:=λouter H s E ev s'=>HA λe C dx H' tb=>ev=.ref e/\E (.ref C) dx H'/\s'.os=s.os/\XYa s'.gens/\Un (wx outer) [] H H' s.heap s'.heap/\yE P w H' s'.heap/\
 Q6 s'.heap e (.ref C) dx (Fa tb)/\s.heap.get? e=Db/\s.heap.get? tb=Db/\H' e=Db/\H' tb=Db
def yq{o:HO}(x:su P w H h a o):∃ob,h.get? a=Fa ob:=by
 cases o with
 | lst xs=>obtain⟨_,_,_,_,e⟩:=x;exact⟨_,e⟩
 | tup xs=>obtain⟨_,_,_,o,e,_⟩:=x;exact⟨_,e⟩
 | dK kvs=>obtain⟨_,_,_,_,o,_,_,e,_⟩:=x;exact⟨_,e⟩
 | dT kvs=>obtain⟨_,_,_,_,o,_,_,e,_⟩:=x;exact⟨_,e⟩
 | set S n=>obtain⟨o,_,_,_,e,_⟩:=x;exact⟨_,e⟩
 | ins C dx fs=>obtain⟨_,_,_,e,_⟩:=x;exact⟨_,e⟩
 | own y=>exact x
 | xd fs=>obtain⟨_,⟨_,_,_,e,_⟩,_⟩:=x;exact⟨_,e⟩
 | rng lo hi=>obtain⟨_,_,_,e⟩:=x;exact⟨_,e⟩
 | frz ob u=>obtain⟨e,_⟩:=x;exact⟨_,e⟩
 | tbl ps=>exact⟨_,x⟩
 | met f y=>exact⟨_,x⟩
 | ext φ=>obtain⟨_,e,_⟩:=x;exact e
def zX{T:Uf}(mW:yE P w H h)(tn:h.get? T=Db):H T=Db:=by
 cases z:H T with
 | none=>rfl
 | some o=>obtain⟨ob,hob⟩:=yq (mW T o z);rw[hob]at tn;cases tn
variable {P:Pg}{w:Wo}{K:qC}{mg:QQZ}{N:QQQ}{qual:Str}{scope:XXd}{f:Uf}{cd:Vl}{s0:Sd}{H0:Hp}
section
variable {E:XK}
def GT(u:Un fs ex H H' h h')(hex:ex=[]){b:Uf}(hb:h'.get? b=Db):h.get? b=Db:=by
 cases q:h.get? b with
 | none=>rfl
 | some o=>obtain⟨o',e⟩:=u.there b o q (by rw[hex];simp);rw[e]at hb;cases hb
def Om{XQ:QQY}{e C T:Uf}{tb dx:Option Uf}{h':No}(I:Inv (vG (BY P w) P w K mg base N qual scope f cd A outer s0 H0 E) XQ Y H s)(he:s0.heap.get? e=Db)(Yp:∀T,tb=Fa T->s0.heap.get? T=Db/\H T=Db)(hn:H e=Db)(q:E (.ref C) dx H)(hT:s0.heap.get? T=Db/\H T=Db) (k1:∀b o,s.heap.get? b=Fa o->b∉wx (dL qual scope s0.heap.objs.size f cd::outer)->b≠e->tb≠Fa b->h'.get? b=Fa o) (k2:∀b o,s.heap.get? b=Fa o->b∈wx (dL qual scope s0.heap.objs.size f cd::outer)->∃sl,h'.get? b=Fa {o with slots:=sl}) (x':Q6 h' e (.ref C) dx (Fa T)):
  BY P w outer H0 s0 E (.ref e) {s with heap:=h'}:=by
 have YB:=I.nN;have X8:∀b o,H b=Fa o->∀u,s.heap.get? b=Fa u->h'.get? b=Fa u:=λb o hb u hu=>k1 b u hu (λz=>by rw[YB b z]at hb;cases hb) (λz=>by rw[z,hn]at hb;cases hb) (λz=>by rw[(Yp b z).2]at hb;cases hb);have oldf:∀b o,s0.heap.get? b=Fa o->b∉wx [dL qual scope s0.heap.objs.size f cd]:=λb o hb z=>by
  have:b=s0.heap.objs.size:=by have hz:b∈[s0.heap.objs.size]:=z;exact dg.mp hz
  rw[this]at hb;exact absurd (dv hb) (eZ _)
 have fr:∀b,b∈wx (dL qual scope s0.heap.objs.size f cd::outer)->b∈wx [dL qual scope s0.heap.objs.size f cd]\/b∈wx outer:=λb hb=>by
  have hb:b∈s0.heap.objs.size::wx outer:=hb;rcases de.mp hb with z|z
  .exact .inl (by rw[z];exact dG)
  .exact .inr z
 have Yk:Un (wx outer) [] H0 H s0.heap s.heap:=I.base;refine⟨e,C,dx,H,T,Z',q,I.os,I.bare,⟨λb o hb h0 nf ne=>?_,λb o hb h0 hf ne=>?_,Yk.free,λb o hb ne=>?_,Yk.nJ,Yk.nz,Yk.nK⟩,λb o hb=>?_,x',he,hT.1,hn,hT.2⟩
 .have hs:=Yk.keep b o hb h0 nf ne;refine k1 b o hs (λz=>?_) (λz=>by rw[z,he]at hb;cases hb) λz=>by rw[(Yp b z).1]at hb;cases hb
  rcases fr b z with z|z
  .exact oldf b o hb z
  .exact nf z
 .obtain⟨sl,hs⟩:=Yk.slot b o hb h0 hf ne;have:b∈wx (dL qual scope s0.heap.objs.size f cd::outer):=dC _ hf;obtain⟨Zf,h2⟩:=k2 b _ hs this;exact⟨Zf,h2⟩
 .obtain⟨o',hs⟩:=Yk.there b o hb ne;by_cases z:b∈wx (dL qual scope s0.heap.objs.size f cd::outer)
  .obtain⟨sl,h2⟩:=k2 b o' hs z;exact⟨_,h2⟩
  .exact⟨o',k1 b o' hs z (λz=>by rw[z,he]at hb;cases hb) λz=>by rw[(Yp b z).1]at hb;cases hb⟩
 .refine(I.mW b o hb).nA (λb' u YJ hu=>?_) (λ_ q=>q) λ_ _ q=>q;rcases YJ with z|z
  .subst z;exact X8 b' o hb u hu
  .exact X8 b' _ z u hu
def Ve{XQ:QQY}{e C:Uf}{tb dx:Option Uf}(I:Inv (vG (BY P w) P w K mg base N qual scope f cd A outer s0 H0 E) XQ Y H s)(hx:Q6 s.heap e (.ref C) dx tb)(he:s0.heap.get? e=Db)(hT:∀T,tb=Fa T->s0.heap.get? T=Db/\H T=Db)(hn:H e=Db)(q:E (.ref C) dx H):
  (vG (BY P w) P w K mg base N qual scope f cd A outer s0 H0 E).xe (.ref e) s:=
 Ra (base:=base) (outer:=outer) I.ok.frames I.stack Z' hx λh' T tn k1 k2 x'=>Om I he hT hn q ⟨GT (show Un (wx outer) [] H0 H s0.heap s.heap from I.base) Z' tn,zX I.mW tn⟩ k1 k2 x'
end
section
variable {E:XK}
end
def Oz(d:Uf)(f:Str)(v:V)(h:No):Prop:=∃u,h.Ns1 d (λy=>if y=f then Fa u else Db)/\qR v u
end L2
namespace L3
open L2
abbrev XR:=Uf->Option (Str×D)->Mp->Prop
abbrev Gf:=T0 D->Mp->DK->XR->Prop
def Vv(K:qC)(H:Hp)(dx:Option Uf)(y:Option (Str×D)):Prop:=(dx=Db/\y=Db)\/Cg λd f z v=>dx=Fa d/\y=Fa (f,z)/\H d=Fa (.ext (Oz d f v))/\rZ K H z v
def Vi(K:qC)(R:XR)(E:XK):Prop:=∀C dx H M y,HM K H M->Vv K H dx y->R C y M->E (.ref C) dx H
def WJ(K:qC)(sp:Gf):Sp:=λvs H Q' E=>Cg λds M Q R=>qy K H ds vs/\HM K H M/\sp ds M Q R/\Up K H Q' Q/\Vi K R E
abbrev SM(P:Pg)(w:Wo)(K:qC)(mg:QQZ)(base:No)(k:Nat)(f:Uf)(fd:wv)(ps:QQQ)(sp:Gf):Prop:=xA P w K mg base (BY P w) k f fd ps (WJ K sp)
variable {X:Cx}{x:Str}{p pos np XZ:Pos}{e:Go}{es:T0 Go}{t:xI}{k:Nat}{f C:Uf}{fd:wv}{ps:QQQ}{sp:Gf}{R:XR}{E:XK}{P:Pg}{w:Wo}{K:qC}{mg:QQZ}{base:No}{N:QQQ}{qual:Str}{scope:XXd}{cd:Vl}{A:Ar}{outer:T0 Env}{s0:Sd}{H0:Hp}{ta:xI}
def Uj{st:TD}{sp:Gf}(F:QE K x qual st f fd)(S:tM N ps (qv st))(len:∀ds M Q R,sp ds M Q R->ds.length=ps.length) (Yg:∀(X1:Vl) (A:Ar) (outer:T0 Env) (s:Sd) (H:Hp) (E:XK) (R:XR),sA k (A.deeper (dL qual (qv st) s.heap.objs.size f X1))->Vi K R E->
   ∃t,IP (vG (BY P w) P w K mg base N qual (qv st) f X1 A outer s H E) (r6 st) t/\∀ds M Q,sp ds M Q R->t {nx:=λ_ M'=>∃XX,qF XX M'/\Q .mS XX,rt:=λd M'=>∃XX,qF XX M'/\Q d XX} (xg N ds) M):SM P w K mg base (k+1) f fd ps sp:=by
 obtain⟨oc,od,kV,Yu,pm,an,X1,ct,YL,rfl,lk,YR⟩:=F.ex;refine Nk lk YR S (λvs H Q E h=>?_) λA outer s H vs Q' E hr h=>?_
 .obtain⟨ds,M,Q,R,hd,_,hs,_⟩:=h;rw[<-hd.length];exact len ds M Q R hs
 .obtain⟨ds,M,Q,R,hd,hm,hs,k,hR⟩:=h;obtain⟨t,ht,hb⟩:=Yg X1 A outer s H E R hr hR;exact⟨_,ht,xg N ds,M,_,Et hd,hm,hb ds M Q hs,λσ' H' δ' M' _ x2 x3 _ ⟨XX,y1,y2⟩=>k .mS H' .mS XX .mS (x2.sub y1) x3 y2,λv H' d M' x1 x2 x3 ⟨XX,y1,y2⟩=>k v H' d XX x1 (x2.sub y1) x3 y2,λ_ _ _ _ _ _ _ _ z=>z,λ_ _ _ _ _ _ _ _ z=>z⟩
end L3
namespace L2
def TKept(H H':Hp):Prop:=(∀b xs,H b=Fa (.tup xs)->H' b=Fa (.tup xs))/\∀b o u,H b=Fa (.frz o u)->H' b=Fa (.frz o u)
def WG(X:Cx)(XQ:QQY)(Y:St)(J:Hp->Prop)(E:XK)(ev:Vl)(s':Sd):Prop:=Bs λH s=>J H/\Inv X XQ Y H s/\BY X.prog X.w X.stack H s E ev s'
def UF(X:Cx)(XQ:QQY)(Y:St)(J:Hp->Prop)(E:XK)(ev:Vl)(s':Sd):Prop:=Ud λa C dx H' tb H1 s1=>ev=.ref a/\E (.ref C) dx H'/\Inv X XQ Y H' s'/\Q6 s'.heap a (.ref C) dx (Fa tb)/\H' a=Db/\H' tb=Db/\J H1/\TKept H1 H'/\Inv X XQ Y H1 s1/\s1.heap.get? a=Db
def Sl{M:Model}{E₁ E₂:QQX}{XQ:QQY}{E:XK}{outer:T0 Env}{L:Uf}(h:WG X XQ Y J E ev s')(Yf:X.stack=X.env::outer)(hL:X.env.frame=Fa L):
  pi M X.A (noteFrame ev X.env) (λ_ s₂=>pi M X.A (setFlight ev Db) (λ_ s₃=>UF X XQ Y J E ev s₃) E₂ s₂) E₁ s':=by
 obtain⟨H,s,jH,I,e,C,dx,H',tb,rfl,q,os,bare,un,mW,x,he,ht,ne,nt⟩:=h;obtain⟨hh,g,d,t,os'⟩:=s';obtain rfl:os'=s.os:=os;have I':=I.call (h':=hh) (g':=g) (d':=d) (t':=t) (ch:=[]) un mW bare (λb z=>absurd z (by simp));have hF:=I'.stack;have YB:=I'.nN;have ZU:=I.ok.frames;rw[Yf]at hF ZU;refine J9 (base:=X.base) (outer:=outer) ZU hF hL x λh' T tn k1 k2 x'=>?_;have X8:∀b o,H' b=Fa o->∀u,hh.get? b=Fa u->h'.get? b=Fa u:=λb o hb u hu=>k1 b u hu (λz=>by rw[YB b (by rw[Yf];exact z)]at hb;cases hb) (λz=>by rw[z,ne]at hb;cases hb) (λz=>by cases z;rw[nt]at hb;cases hb);have un':Un (wx X.stack) [] H H' s.heap h':=by
  refine⟨λb o hb h0 nf nx=>?_,λb o hb h0 hf nx=>?_,un.free,λb o hb nx=>?_,un.nJ,un.nz,un.nK⟩
  .exact k1 b o (un.keep b o hb h0 nf nx) (λz=>nf (by rw[Yf];exact z)) (λz=>by rw[z,he]at hb;cases hb) λz=>by cases z;rw[ht]at hb;cases hb
  .obtain⟨sl,hs⟩:=un.slot b o hb h0 hf nx;obtain⟨Zf,h2⟩:=k2 b _ hs (by rw[<-Yf];exact hf);exact⟨Zf,h2⟩
  .obtain⟨o',hs⟩:=un.there b o hb nx;by_cases z:b∈wx (X.env::outer)
   .obtain⟨sl,h2⟩:=k2 b o' hs z;exact⟨_,h2⟩
   .exact⟨o',k1 b o' hs z (λz=>by rw[z,he]at hb;cases hb) λz=>by cases z;rw[ht]at hb;cases hb⟩
 have hok':yE X.prog X.w H' h':=λb o hb=>(mW b o hb).nA (λb' u YJ hu=>by
  rcases YJ with z|z
  .subst z;exact X8 b' o hb u hu
  .exact X8 b' _ z u hu) (λ_ q=>q) λ_ _ q=>q
 have I3:Inv X XQ Y H' {heap:=h',gens:=g,drawn:=d,toks:=t,os:=s.os}:=Inv.call (s:=s) (ch:=[]) I un' hok' bare (λb z=>absurd z (by simp));refine⟨e,C,dx,H',T,H,s,Z',q,I3,x',ne,?_,jH,⟨un.nJ,un.nz⟩,I,he⟩;cases z:H' T with
 | none=>rfl
 | some o=>obtain⟨ob,hob⟩:=yq (mW T o z);have tn:hh.get? T=Db:=tn;rw[hob]at tn;cases tn
variable {X:Cx}{XQ:T0 (Uf × Obj)}{Y σ':St}{H H1:Hp}{s s1:Sd}{ev:Vl}{E':QQX}{a:Uf}
def Inv.adopt{o:HO}(I:Inv X XQ Y H s)(I1:Inv X XQ σ' H1 s1)(n1:s1.heap.get? a=Db)(hn:H a=Db)(ok:su X.prog X.w (upd H a o) s.heap a o):Inv X XQ Y (upd H a o) s:=by
 have ne:∀b ob,s1.heap.get? b=Fa ob->b≠a:=λb ob e z=>by rw[z,n1]at e;cases e
 have nh:∀b ob,H b=Fa ob->b≠a:=λb ob e z=>by rw[z,hn]at e;cases e
 refine⟨I.ok,I.os,I.bare,⟨I.base.keep,I.base.slot,λb o' e h0 hb=>?_,I.base.there,λb xs e=>?_,λb o' u e=>?_,λb ps e=>?_⟩,I.loc,I.cell,?_,λx c e=>?_,λp hp=>?_,λb ob e=>?_,I.len⟩
 .obtain⟨o2,e2⟩:=I1.base.there b o' e hb;rw[qh (ne b o2 e2)];exact I.base.free b o' e h0 hb
 .have:=I.base.nJ b xs e;rw[qh (nh b _ this)];exact this
 .have:=I.base.nz b o' u e;rw[qh (nh b _ this)];exact this
 .obtain⟨more,this⟩:=I.base.nK b ps e;exact⟨more,by rw[qh (nh b _ this)];exact this⟩
 .obtain⟨m,⟨o2,_,_,e2,_⟩,_⟩:=I1.loc;rw[qh (ne _ o2 e2)];exact I.free
 .obtain⟨v,o2,e2,_⟩:=I1.cell x c e;rw[qh (ne _ o2 e2)];exact I.m9 x c e
 .obtain⟨e1,e2,e3,e4,e5⟩:=I.pin p hp;exact⟨e1,by rw[qh (ne _ _ (I1.pin p hp).1)];exact e2,e3,e4,e5⟩
 .by_cases z:b=a
  .subst z;rw[qw]at e;cases e;exact ok
  .rw[qh z]at e;exact(I.mW b ob e).nA (λ_ _ _ q=>q) (λb' q=>by rw[qh (nh b' _ q)];exact q) λb' xs q=>by rw[qh (nh b' _ q)];exact q
def Inv.locs{h':No}{m':QQZ}(I:Inv X XQ Y H s)(hn:h'.Ns X.env.locals m')(hs:Heap.SameBut X.env.locals s.heap h')(hl:σ'.length=X.N.length) (hm:∀m,s.heap.Ns X.env.locals m->(∀(i:Nat) (x:Str) (v:V),X.N[i]?=Fa x->Y[i]?=Fa (Fa v)->R9 X.env.scope x->∃u,qR v u/\Uz X.env s.heap m x u)->∀(i:Nat) (x:Str) (v:V),X.N[i]?=Fa x->σ'[i]?=Fa (Fa v)->R9 X.env.scope x->∃u,qR v u/\((X.env.kindOf x=Fa .local/\m' x=Fa u)\/((X.env.kindOf x=Fa .cell\/X.env.kindOf x=Fa .free)/\∃c,X.env.cells.lookup x=Fa c/\s.heap.IsCell c (Fa u)))):Inv X XQ σ' H {s with heap:=h'}:=by
 obtain⟨m,hn0,hl0⟩:=id I.loc;obtain⟨oL,_,_,hoL,_⟩:=id hn0;have pC:=I.pC;refine⟨I.ok,I.os,I.bare,⟨λb o e n hb hx=>?_,λb o e n hb hx=>?_,I.base.free,λb o e hx=>?_,I.base.nJ,I.base.nz,I.base.nK⟩,⟨_,hn,λj y v' e1 e2 e3=>?_⟩,λy c e=>?_,I.free,I.m9,λp hp=>?_,λb ob e=>?_,hl⟩
 .exact(hs.2 b (dE (dN (dv e) I.ok.above))).trans (I.base.keep b o e n hb hx)
 .obtain⟨sl,e1⟩:=I.base.slot b o e n hb hx;exact⟨sl,(hs.2 b (dE (dN (dv e) I.ok.above))).trans e1⟩
 .obtain⟨o',e1⟩:=I.base.there b o e hx;exact⟨o',(hs.2 b (dE (dN (dv e) I.ok.above))).trans e1⟩
 .obtain⟨u,r,q⟩:=hm m hn0 hl0 j y v' e1 e2 e3;refine⟨u,r,?_⟩;rcases q with q|⟨k,c,e,z⟩
  .exact .inl q
  .exact .inr ⟨k,c,e,z.sameBut hs (pC y c e)⟩
 .obtain⟨w',z⟩:=I.cell y c e;exact⟨w',z.sameBut hs (pC y c e)⟩
 .obtain⟨e,n,ne,nf,d⟩:=I.pin p hp;exact⟨(hs.2 p.1 ne).trans e,n,ne,nf,d⟩
 .refine(I.mW b ob e).nA (λc w' hc q=>(hs.2 c ?_).trans q) (λ_ q=>q) λ_ _ q=>q
  rintro rfl
  rcases hc with hc|hc
  .rw[<-hc,I.free]at e;cases e
  .rw[I.free]at hc;cases hc
def ym{M:Model}{A:Ar}{E:QQX}{i:Nat}{n:Str}{pos:Pos}{Q:Unit->Sd->Prop}(I:Inv X XQ Y H s)(hN:X.N.Nodup)(hi:X.N[i]?=Fa n)(hk:X.env.scope.names.lookup n=Fa .local) (h:∀s',Inv X XQ (Y.set i Db) H s'->Q () s'):pi M A (do
   bindName X.env n Value.none
   unbindBehindTheSuite X.env n pos) Q E s:=by
 have hiσ:i<Y.length:=by rw[I.len];exact(cX.mp hi).1
 refine cU (wpAny_bindName (x8 (v:=.mS) I hN hi (.inl hk) Z' (λs1 I1=>?_) (.inr hk)));have hcls:(X.env.scope.kind==.class||(X.env.scope.kind==.module&&X.env.locals != X.env.globals))=lf:=by rw[I.ok.kind];rfl
 obtain⟨m,hn,hl⟩:=id I1.loc;obtain⟨u,ru,lk⟩:=hl i n .mS hi (by rw[eM hiσ]) (.inl hk);have em:m n=Fa u:=by
  rcases lk with⟨_,e⟩|⟨k,_⟩
  .exact e
  .have hk':X.env.kindOf n=Fa .local:=hk;rw[hk']at k;rcases k with k|k<;>cases k
 unfold unbindBehindTheSuite;refine iI (wpAny_unbindName_local hk hn em hcls λh' u' Zm hs=>h _ ?_);refine I1.locs Zm hs (by simpa using I.len) λm2 Ya Z8 j y v' e1 e2 e3=>?_;have hj:j≠i:=λz=>by subst z;rw[eM hiσ]at e2;cases e2
 rw[eQ (dO hj)]at e2;obtain⟨u2,r2,q2⟩:=hl j y v' e1 (by rw[eQ (dO hj)];exact e2) e3;refine⟨u2,r2,?_⟩;rcases q2 with⟨k,e⟩|q2
 .refine .inl ⟨k,?_⟩;have:y≠n:=λe=>hj (CW hN e1 (e ▸ hi));simp[this,e]
 .exact .inr q2
noncomputable def Cx.marked(X:Cx)(ev:Vl)(E:QQX):Cx:={X with A:=X.A.mark (Fa ev),calm:=false,xe:=E}
def Inv.mark(I:Inv X XQ Y H s):Inv (X.marked ev E') XQ Y H s:=
 ⟨⟨I.ok.mod,I.ok.kind,I.ok.glob,I.ok.blt,I.ok.above,I.ok.inj,I.ok.has,I.ok.oO,(λz=>by cases z),I.ok.frames,I.ok.oR,I.ok.pB,I.ok.bs,I.ok.oo,I.ok.nV,I.ok.oi,I.ok.nF,I.ok.oA⟩,I.os,I.bare,I.base,I.loc,I.cell,I.free,I.m9,I.pin,I.mW,I.len⟩
def Inv.unmark(ok:X.Ok)(I:Inv (X.marked ev E') XQ Y H s):Inv X XQ Y H s:=⟨ok,I.os,I.bare,I.base,I.loc,I.cell,I.free,I.m9,I.pin,I.mW,I.len⟩
def SP.unmark(ok:X.Ok){D:F8}{f:Flow}(h:SP (X.marked ev E') XQ D f s):SP X XQ D f s:=by
 cases f with
 | next=>obtain⟨a,b,I,q⟩:=h;exact⟨a,b,I.unmark ok,q⟩
 | brk=>obtain⟨a,b,I,q⟩:=h;exact⟨a,b,I.unmark ok,q⟩
 | cont=>obtain⟨a,b,I,q⟩:=h;exact⟨a,b,I.unmark ok,q⟩
 | ret v=>obtain⟨a,b,c,I,q⟩:=h;exact⟨a,b,c,I.unmark ok,q⟩
def CA{M:Model}{h:No}{a:Uf}{o:Obj}(ho:h.get? a=Fa o):W.Looks M h (typeOf (.ref a)) o.cls:=by intro A Q E s k q;unfold typeOf;exact cU (wpAny_load (k a o ho) (df q))
def Gg{M:Model}{A:Ar}{E:QQX}{a C T:Uf}{Q:Unit->Sd->Prop}(x:Q6 s.heap a (.ref C) dx (Fa T))(h:∀h':No,(∀b,h'.get? b=s.heap.get? b)->Q () {s with heap:=h'}):pi M A (setFlight (.ref a) Db) Q E s:=by
 obtain⟨oe,vs,ho,hc,_,hd,h1,hv,hT⟩:=x;obtain⟨nTe,oT,ts,Y0,Zr,h3,hn⟩:=hT T Z';unfold setFlight;refine cU (fi ho hd hv ?_);rw[c9 (by rfl)];refine hJ Y0 Zr h3 (h _ λb=>?_);by_cases z:T=b
 .subst z;obtain⟨oc,od,odt,YL⟩:=oT;obtain rfl:odt=.fields ts:=Zr;rw[fH _ Y0 Z',Y0];show Fa (Obj.mk oc od (.fields (ts.setIfInBounds 3 .none)) YL)=_;have:ts.setIfInBounds 3 .none=ts:=by
   apply Array.ext
   .simp
   .intro i h1 h2;rw[Array.getElem_setIfInBounds];split
    .rename_i e;subst e;rw[Array.getElem?_eq_getElem h3]at hn;exact(dh hn).symm
    .rfl
  rw[this]
 .exact fY _ _ z
def SL(X:Cx)(e:Go)(t:St->Hp->VK->(Hp->Prop)->XK->Prop):Prop:=∀(XQ:QQY) (s:Sd) (Y:St) (H:Hp) (Q:VK) (J:Hp->Prop) (E:XK),Inv X XQ Y H s->t Y H Q J E->pi (Tk X.prog X.w) X.A (wp e X.env) (EP X XQ Y Q) (WG X XQ Y J E) s
def Xp(X:Cx)(st:TD)(t:F8->St->Hp->(Hp->Prop)->XK->Prop):Prop:=∀(XQ:QQY) (s:Sd) (Y:St) (H:Hp) (D:F8) (J:Hp->Prop) (E:XK),Inv X XQ Y H s->t D Y H J E->pi (Tk X.prog X.w) X.A (exec st X.env) (SP X XQ D) (WG X XQ Y J E) s
def Pj{X:Cx}{i:Nat}{x:Str}{te:St->Hp->VK->(Hp->Prop)->XK->Prop}{pos X0:Pos}(hN:X.N.Nodup)(hi:X.N[i]?=Fa x)(hx:Ll X.env.scope x)(he:SL X e te)(hs:sB e (Fa (.Name x X0)) pos.line X.env=pure lf:=by rfl)(hf:Lm X x:=by first|exact .inl Z'|exact .inr Z'|assumption):
  Xp X (.Assign [.Name x X0] e pos) (λD Y H J E=>te Y H (λv H'=>D.nx (Y.set i (Fa v)) H') J E):=by
 intro XQ s Y H D J E I h;refine ls (sS (he XQ s Y H _ J E I h) λv s1 zz=>x5 zz λy H1 I1 r1 q1=>?_) hs;exact x8 I1 hN hi hx r1 (λs2 I2=>⟨_,H1,I2,q1⟩) hf
variable {k:Nat}{f C:Uf}{fd:wv}{ps:QQQ}{sp:Sp}{YD:T0 V}{ds:T0 Vl}{m:Str}{p pos XU:Pos}{e o:Go}{es:T0 Go}{t:TA}
section
variable {x:Str}
def Od(F:xA X.prog X.w X.K X.mg X.base (BY X.prog X.w) k f fd ps sp)(hr:sA k X.A)(hg:Gl X x)(hm:X.mg x=Fa (.ref f))(hk:W.keepIn X.K (.ref f)=pc)(hb:vb X.K fd ps ds)(hd:qJ YD ds) (ha:PA (X.oh λ_ _=>False) (e::es) t) (Yd:zb x:=by decide) (he:Bw X e es:=by rfl) (X9:Dc X pos es:=by rfl):
  SL X (.Call (.Name x p) (e::es) [] pos) (λY H Q J E=>t Y H λvs H1=>J H1/\sp (vs++YD) H1 Q E):=by
 intro XQ s Y H Q J E I h;refine fQ (xk I hg hm ?_ Yd);refine iO (h₀:=X.base) I.ok.mod.oC hk (d9 (ha pos XQ s Y H _ I.oh h) (λus s1 ⟨vs,H1,I1,r,jH,q⟩=>⟨I1.nk,?_⟩) λ_ _ z=>z.elim) he X9;have I1:=I1.xeOf;have r2:qJ (vs++YD) (us++ds):=r.append hd;have hl:(us++ds).length=ps.length:=by rw[<-r2.length];exact F.len _ _ _ _ q
 refine hW (gj (F.run X.A X.stack s1 H1 ⟨us,[]⟩ (us++ds) (vs++YD) Q E hr I1.ow (hb s1 us I1.nk hl) r2 q) λr s' hq=>?_);cases r with
 | error e=>exact⟨H1,s1,jH,I1,hq⟩
 | ok fl=>
  cases fl with
  | ret u=>exact I1.after hq
  | next=>exact False.elim hq
  | brk=>exact False.elim hq
  | cont=>exact False.elim hq
end
structure MD(K:qC)(C:Uf):Prop where
 hd:(W.clsIn K C).isSome=pc
 ga:W.findIn K (.ref C) "__getattribute__"=Fa (Fa (.builtin "BaseException.__getattribute__"))
 gt:W.findIn K (.ref C) "__getattr__"=Fa Db
 ha:W.findIn K (.ref C) "__class__"=Fa (Fa (.builtin "object.__class__"))
 hn:W.specialIn K (.builtin "object.__class__") "__get__"=Fa (Fa (.builtin "getset_descriptor.__get__"))
 htk:W.takesIn K (.builtin "object.__class__")=Fa pc
 hm:W.mroIn K C (.type "object")=Fa pc
 hb:W.mroIn K C (.type "BaseException")=Fa pc
def QH:builtinKind "BaseException.__getattribute__"=Fa Manifest.AttrKind.slot:=by decide+kernel
def Ny:splitId "BaseException.__getattribute__"=Fa ("BaseException","__getattribute__"):=by decide+kernel
variable {prog:Pg}{w:Wo}{A:Ar}{E:QQX}{K:qC}{ox:Obj}
section
variable {x:Uf}
def MT{nameV:Vl}{Q:Unit->Sd->Prop}{M:Model}(c:MD K C)(X:K.In s.heap)(hx:s.heap.get? x=Fa ox)(hc:ox.cls=.ref C)(hq:Q () s):pi M A (checkBuiltinCall "BaseException.__getattribute__" {pos:=[Value.ref x,nameV]}) Q E s:=by
 unfold checkBuiltinCall;simp only[QH,Ny];unfold isInstance;refine cU (cU ?_);refine(CA hx).at ?_;rw[hc];refine(W.looks_mroIn X c.hb).at ?_;rw[cY (by decide)];have ha:=F.args_bexc_ga (Value.ref x) nameV;unfold argsOk at ha;have:∀t:Sem Unit,t=pure ()->pi M A t Q E s:=λt z=>by rw[z];exact df hq
 exact this _ ha
end
end L2
namespace L3
open L2
theorem _root_.L2.TKept.ext{K:qC}(h:TKept H H'):qY K H H':=⟨λa xs q=>by
 rcases q with(q|⟨u,q⟩)|q
 .exact .inl (.inl (h.1 a xs q))
 .exact .inl (.inr ⟨u,h.2 a u _ q⟩)
 .exact .inr q,λa o xs q=>h.2 a o _ q⟩
abbrev Ug:=vt->Mp->DK->XR->Prop
def Xz(K:qC)(t:Ug):St->Hp->VK->(Hp->Prop)->XK->Prop:=λY H Q' J E=>Cg λU M Q R=>zk K H Y U/\HM K H M/\t U M Q R/\(∀v H' d M',rZ K H' d v->HM K H' M'->qY K H H'->Q d M'->Q' v H')/\(∀H1,qY K H H1->J H1)/\Vi K R E
def Xs(X:Cx)(e:Go)(t:Ug):Prop:=SL X e (Xz X.K t)
def SL.mono{t t':St->Hp->VK->(Hp->Prop)->XK->Prop}(h:SL X e t)(m:∀Y H Q J E,t' Y H Q J E->t Y H Q J E):SL X e t':=λXQ s Y H Q J E I q=>h XQ s Y H Q J E I (m Y H Q J E q)
variable {X:Cx}{x:Str}{p pos np XZ:Pos}{e:Go}{es:T0 Go}{t:xI}{k:Nat}{f C:Uf}{fd:wv}{ps:QQQ}{sp:Gf}
def Mm(F:SM X.prog X.w X.K X.mg X.base k f fd ps sp)(hr:sA k X.A)(hg:Gl X x)(hm:X.mg x=Fa (.ref f))(hk:W.keepIn X.K (.ref f)=pc)(hb:vb X.K fd ps [])(ha:A3 (X.oh λ_ _=>False) (e::es) t) (Yd:zb x:=by decide) (he:Bw X e es:=by rfl) (X9:Dc X pos es:=by rfl):
  Xs X (.Call (.Name x p) (e::es) [] pos) (λU M Q R=>t U M λds M1=>sp ds M1 Q R):=SL.mono (Od F hr hg hm hk hb .nil ha Yd he X9) λY H Q' J E ⟨U,M,Q,R,hs,hm,ht,k,kJ,kR⟩=>
 ⟨U,M,_,hs,hm,ht,λvs H1 ds M1 hd XT e1 q1=>⟨kJ H1 e1,ds,M1,Q,R,by rw[eR];exact hd,XT,q1,vZ e1 k,kR⟩⟩
variable {b₀:TD}{Zb:T0 TD}{cn n:Str}{cnp Zj XU xpos:Pos}{Cc L:Uf}{outer:T0 Env}{i ix:Nat}{te:Ug}{th:xC}
def zk.unset{K:qC}{i:Nat}(h:zk K H Y U):zk K H (Y.set i Db) (U.set i Db):=λj e q=>by
 by_cases hj:j=i
 .subst hj;by_cases hl:j<U.length
  .rw[eM hl]at q;cases q
  .rw[gB (by simpa using hl)]at q;cases q
 .rw[eQ (dO hj)]at q ⊢;exact h j e q
end L3
namespace L2
noncomputable def Cy(es:Array DictEntry):Bool:=es.toList.all λe=>match e.key with|.str _ _=>pc|_=>lf
def Cq{es:Array DictEntry}(h:Cy es=pc):StrKeys es:=λe he=>by
 have:=eD.mp h e (kr.mpr he);cases z:e.key with
 | str n t=>exact⟨n,t,Z'⟩
 | _=>rw[z]at this;cases this
abbrev NL:T0 Vl:=[.type "ValueError",.type "Exception",.type "BaseException",.type "object"]
def OK{K:qC}{t:Vl}{C:Uf}{cd:ClassData}{b:Bool}(q0:W.subIn K (.ref C) (.type "BaseException")=Fa pc)(q1:W.clsIn K C=Fa cd)(q2:W.typeIn K (.ref C)=Fa (.type "type"))(s:W.subIn K t (.ref C)=Fa b):W.exmOne K t (.ref C)=Fa b:=by unfold W.exmOne;rw[q0,c9 (by rfl)];unfold W.kitCls;simp only;rw[q1,q2,c9 (by rfl)];exact s
end L2
namespace L3
open L2
end L3
namespace L2
theorem C1(self:Vl):∀own:QXQ,refuseLoop self "__setattr__" (own.map Value.ref++NL)=pure ()
 | []=>jO.passes self
 | c::r=>by show refuseLoop self "__setattr__" (.ref c::(r.map Value.ref++NL))=pure ();rw[refuseLoop_ref];exact C1 self r
variable {prog:Pg}{w:Wo}{A:Ar}{s:Sd}{K:qC}{x C:Uf}{ox:Obj}{own:QXQ}{name:Str}{v:Vl}
section
variable {E:QQX}{cd:ClassData}
def Pw{Q:Unit->Sd->Prop}(X:K.In s.heap)(I:W.InstAt s.heap x ox C Db)(hs:W.findIn K (.ref C) "__setattr__"=Fa (Fa (.builtin "object.__setattr__")))(hc:W.clsIn K C=Fa cd)(hm:cd.mro=own.map Value.ref++NL)(ht:W.takerIn K C name=Fa Db)(hd:cd.hasDict=pc) (h:∀h' d t,(∀b o,b≠x->s.heap.get? b=Fa o->h'.get? b=Fa o)->h'.get? x=Fa {ox with dict:=some d}->s.heap.get? d=Db->d≠x->h'.Ns1 d (λy=>if y=name then Fa v else Db)->Q () {s with heap:=h',toks:=t}):pi (Tk prog w) A (setAttr (.ref x) name v) Q E s:=by
 refine W.set_plain X I hs ?_;have SF:=jO;have ne:cd.mro.isEmpty=lf:=by rw[hm];cases own<;>rfl
 have has:cd.mro.contains (.type "object")=pc:=by
  rw[hm,List.contains_eq_any_beq,mj];have:NL.any (Value.type "object"==·)=pc:=by decide+kernel
  rw[this,lb]
 have sub:W.Looks (Tk prog w) s.heap (isInstance (.ref x) (.type "object")) pc:=I.type.andThen (W.looks_mroIn X (by unfold W.mroIn;rw[hc,l0,cY (by rw[ne];decide),has]));refine h9 SF.slot.plain SF.entry (@PySem.W.check_slot (Tk prog w) _ _ {s with toks:=s.toks+1} "object.__setattr__" "object" "__setattr__" (.ref x) [.str name s.toks,v] [] _ SF.kind SF.split sub (SF.args (.ref x) (.str name s.toks) v) ?_);obtain⟨attr,ha,hr⟩:=Option.bind_eq_some_iff.mp ht;have hmro:W.Looks (Tk prog w) s.heap (mroOf (.ref C)) cd.mro:=(kA X hc).andThen .now;have L3':W.Looks (Tk prog w) s.heap (Builtin.ObjectAttr.storeTaker? attr) Db:=by
  cases attr with
  | none=>exact .now
  | some a=>
   obtain⟨b,hb,hr⟩:=iF.mp hr;refine(W.looks_takesIn X hb).andThen ?_;cases b
   .exact .now
   .cases hr
 rw[W.osa_eq,refuse_eq];refine cU (cU (I.type.here (s:={s with toks:=s.toks+1}) (cU (hmro.here (s:={s with toks:=s.toks+1}) ?_))));rw[hm,C1];refine df (cU (I.type.here (s:={s with toks:=s.toks+1}) (cU ((je X ha).here (s:={s with toks:=s.toks+1}) (cU (L3'.here (s:={s with toks:=s.toks+1}) ?_))))));obtain⟨hx,hcl,hn,ZI⟩:=I;obtain⟨oc,odi,oda,YL⟩:=ox;dsimp only at hcl ZI;subst hcl;cases odi with
 | some _=>exact ZI.elim
 | none=>
  refine cU (df (cU (cU (wpAny_loadPart hx (cU (my (s:={s with toks:=s.toks+1}) (kA X hc) ?_))))));rw[hd];rw[cY (by decide)];obtain⟨hh,g,dr,tk,os⟩:=s;dsimp only at hx h ⊢;rw[cY (by simp[typeHasDict])];split
  .cases hn
  .have y1:(hh.push W.emptyDict).get? x=Fa ⟨.ref C,Db,oda,YL⟩:=cZ _ hx;have nx:x≠hh.objs.size:=λz=>eZ _ (z ▸ dv hx);refine cU (wpAny_alloc' (cU (wpAny_update' y1 (df ?_))));have e0:((hh.push W.emptyDict).update x λo=>{o with dict:=some hh.objs.size}).Ns hh.objs.size (λ_=>Db):=⟨W.emptyDict,#[],_,(jc _ _ _ _ nx.symm).trans (dF hh Z'),Z',λe he=>absurd he (by simp),λ_=>rfl⟩;refine cU (df (cU (wpAny_nsSet1 (lw e0) λh' n1 sb=>?_)));obtain⟨oD,esD,epD,g1,g2,g3⟩:=n1.count (Within.cons name v Within.nil);refine cU (lO g1 (g2 ▸ lP (dY g3 (by rw[dI,dP];decide))) (df (h h' hh.objs.size _ (λb o hb z=>?_) ?_ (gI (dq _)) nx.symm n1)))
   .exact(sb.2 b λy=>eZ _ (y ▸ dv z)).trans ((jc _ _ _ _ hb).trans (cZ _ z))
   .refine(sb.2 x nx).trans (fH _ y1 ?_);have fr:=(Heap.get?_some_iff.mp hx).2;cases oda with
    | _=>first|rfl|exact fr
end
variable {nm q:Str}{bs bm Zc:T0 Vl}{hdct:Bool}{sn:QQQ}{sub:T0 Vl}{ab:Bool}{col:Option Bool}{dd:Option Uf}{k0 k1 k2 k3 k5:Option Vl}{B Bn newId nid Yn zW:String}{bmN:T0 Vl}{h:No}{g:Array GenState}{d:Drawn}{t:Nat}{os:OsState}
section
variable {E:QQX}{N:Uf}
abbrev P3(C t:Uf):Obj:={cls:=.ref C,data:=.fields #[.ref t,.none,.none,.none,.bool lf,.none]}
def Bb(Fn:o0 Bn newId zW bmN)(hBn:Zc.contains (.type Bn)=pc)(F:o0 B nid Yn Zc)(T:OwnTail h Zc bm){mN:QQZ}{us:T0 Vl}{fI:Uf}{oI:Obj}{Q:PySem.Fin->Sd->Prop} (hC:h.get? C=Fa (XXb nm q C N bs bm hdct sn sub ab col dd k0 k1 k2 k3 k5 newId)) (hn:h.Ns N mN) (hi:mN "__init__"=Fa (.ref fI)) (hf:h.get? fI=Fa oI) (hfc:oI.cls=.type "function") (XY:us.length<=Ch) (hq:∀h' e,Heap.MadeExcOf h h' e (.ref C) us->pi (Tk prog w) A (call (.ref fI) (.ref e::us)) (λr s'=>r=.none/\Q (.done (.ret (.ref e))) s') E ⟨h',g,d,t,os⟩):
  pi (Tk prog w) A (Builtin.«type.__call__» ⟨.ref C::us,[]⟩) Q E ⟨h,g,d,t,os⟩:=by
 repeat (first|with_reducible refine gY hC ?_|with_reducible refine wpAny_madeBy_exc hC ?_|wp_step)
 refine codeAny_call_builtin_code (iq _ Fn.quiet) (wpAny_check_new_subU Fn hBn T hC (codeAny_exc_new_subU Fn hBn F T hC ?_ XY));have kp:∀b o,h.get? b=Fa o->((h.push {cls:=.type "tuple",data:=.seq us.toArray}).push (P3 C h.objs.size)).get? b=Fa o:=λb o z=>cZ _ (cZ _ z);have gE:((h.push {cls:=.type "tuple",data:=.seq us.toArray}).push (P3 C h.objs.size)).get? (h.objs.size+1)=Fa (P3 C h.objs.size):=by heap_get
 have hC2:=kp _ _ hC;have hn2:((h.push {cls:=.type "tuple",data:=.seq us.toArray}).push (P3 C h.objs.size)).Ns N mN:=let⟨o,es,ep,e,r⟩:=hn;⟨o,es,ep,kp _ _ e,r⟩;have cC:(Value.ref C::bm).contains (.ref C)=pc:=by rw[iw,fv,g9]
 have T2:=T.keeps kp;show pi _ _ _ _ _ _;unfold isInstance
 repeat (first|with_reducible refine gY gE ?_|(with_reducible refine kK hC2 ?_;rw[cC])|wp_step)
 show pi _ _ (typeLookup (.ref C) _) _ _ _;refine wpAny_typeLookup_tail hC2 hn2 T2 F.mroIs F.init.lookup ?_;rw[hi];refine eB (cU ?_);unfold bindSpecial;refine cU (jI (T:="function") ⟨_,kp _ _ hf,hfc⟩ ?_);rw[c9 (by decide)];refine df (cU (d9 (hq _ (h.objs.size+1) ⟨kp,gI (gW _),h.objs.size,gE,gI (dq _),cZ _ (Heap.get?_push_at Z' Z')⟩) (λr s' hr=>?_) λ_ _ z=>z));obtain⟨rfl,hQ⟩:=hr
 wp_walk
 exact hQ
def ID(Fn:o0 Bn newId zW bmN)(hBn:Zc.contains (.type Bn)=pc)(F:o0 B nid Yn Zc)(T:OwnTail h Zc bm){mN:QQZ}{us:T0 Vl}{fI:Uf}{oI:Obj}{Q:QQX} (hC:h.get? C=Fa (XXb nm q C N bs bm hdct sn sub ab col dd k0 k1 k2 k3 k5 newId)) (hn:h.Ns N mN) (hi:mN "__init__"=Fa (.ref fI)) (hf:h.get? fI=Fa oI) (hfc:oI.cls=.type "function") (XY:us.length<=Ch) (hq:∀h' e,Heap.MadeExcOf h h' e (.ref C) us->pi (Tk prog w) (A.under (.builtin "type.__call__" ⟨.ref C::us,[]⟩)) (call (.ref fI) (.ref e::us)) (λr s'=>r=.none/\Q (.ref e) s') E ⟨h',g,d,t,os⟩):
  pi (Tk prog w) A (call (.ref C) us) Q E ⟨h,g,d,t,os⟩:=by
 have f1:=tc_lookup;have f2:=tc_bind (.ref C);have hT:(⟨h,g,d,t,os⟩:Sd).TypeIs (.ref C) "type":=⟨_,hC,Z'⟩;refine hW (jX ?_);show pi _ _ (callAny (.ref C) _) _ _ _
 repeat (any_goals(first|assumption|with_reducible refine gY hC ?_|wp_step))
 exact⟨Z',codeAny_call_builtin_at (iq _ (by decide+kernel)) entry_typeCall (wpAny_check_type_call_sub hC (Bb Fn hBn F T hC hn hi hf hfc XY hq))⟩
end
variable {M:Model}{env:Env}
section
variable {E:QQX}{N:Uf}
def J7(h:No)(e C:Uf)(dx:Option Uf):Prop:=Bs λt sl=>h.get? e=Fa ⟨.ref C,dx,.fields #[.ref t,.none,.none,.none,.bool lf,.none],sl⟩
def Hm{x:Sem Vl}{Q:Flow->Sd->Prop}(X5:bm.contains (.type "BaseException")=pc)(hh:A.handled=Db) (h:pi M A x (λv s₁=>∃e dx,v=.ref e/\s₁.heap.get? C=Fa (XXb nm q C N bs bm hdct sn sub ab col dd k0 k1 k2 k3 k5 newId)/\J7 s₁.heap e C dx/\E (.ref e) s₁) E s):
  pi M A (raiseStmt env (Fa x) Db) Q E s:=by
 have cB:(Value.ref C::bm).contains (.type "BaseException")=pc:=by rw[iw,X5,lb]
 unfold raiseStmt;refine cU (d9 h (λv s₁ ⟨e,dx,ev,hC,⟨t,sl,he⟩,hE⟩=>?_) λ_ _ z=>z);subst ev;obtain⟨hp,g,d,tk,os⟩:=s₁
 repeat (first|with_reducible refine gY he ?_|with_reducible refine gY hC ?_|(with_reducible refine kK hC ?_;rw[cB])|wp_step)
 exact wpAny_raiseNew_none hh hE
def Gk(Fn:o0 Bn newId zW bmN)(hBn:Zc.contains (.type Bn)=pc)(F:o0 B nid Yn Zc){mN:QQZ}{fI:Uf}{x:Str}{np XZ pos:Pos}{args:T0 Go}{Q:Flow->Sd->Prop} (X5:bm.contains (.type "BaseException")=pc) (hh:A.handled=Db) (Yb:(xz XZ (Tl args env)).any (·.1)=lf) (hi:mN "__init__"=Fa (.ref fI)) (h:pi (Tk prog w) A (wp (.Name x np) env) (λf s₁=>f=.ref C/\pi (Tk prog w) A (evalArgs (.ref C) pc (xz XZ (Tl args env)) []) (λa s₂=>a.kw=[]/\a.pos.length<=Ch/\s₂.heap.get? C=Fa (XXb nm q C N bs bm hdct sn sub ab col dd k0 k1 k2 k3 k5 newId)/\s₂.heap.Ns N mN/\OwnTail s₂.heap Zc bm/\(∃oI,s₂.heap.get? fI=Fa oI/\oI.cls=.type "function")/\
    ∀h' e,Heap.MadeExcOf s₂.heap h' e (.ref C) a.pos->pi (Tk prog w) (A.under (.builtin "type.__call__" ⟨.ref C::a.pos,[]⟩)) (call (.ref fI) (.ref e::a.pos))
     (λr s'=>r=.none/\∃dx,s'.heap.get? C=Fa (XXb nm q C N bs bm hdct sn sub ab col dd k0 k1 k2 k3 k5 newId)/\J7 s'.heap e C dx/\E (.ref e) s') E {s₂ with heap:=h'}) E s₁) E s):
  pi (Tk prog w) A (exec (.Raise (Fa (.Call (.Name x np) args [] XZ)) Db pos) env) Q E s:=by
 rw[arm_exec_Raise];refine cU (gP (Hm (C:=C) (nm:=nm) (q:=q) (N:=N) (bs:=bs) (bm:=bm) (hdct:=hdct) (sn:=sn) (sub:=sub) (ab:=ab) (col:=col) (dd:=dd) (k0:=k0) (k1:=k1) (k2:=k2) (k3:=k3) (k5:=k5) (newId:=newId) X5 hh ?_));refine cU (d9 (wpAny_Call_ofName (d9 h (λf s₁ ⟨ef,h₁⟩=>?_) λ_ _ z=>z)) (λv s₃ h₃=>cU (gP (df h₃))) λ_ _ z=>z);subst ef;unfold XXh;refine cU (eB (d9 h₁ (λa s₂ h₂=>cU (gP ?_)) λ_ _ z=>z));obtain⟨XU,akw⟩:=a;obtain⟨hkw,XY,hC,hn,T,⟨oI,hf,hfc⟩,h₂⟩:=h₂;obtain rfl:akw=[]:=hkw;obtain⟨hp,g,d,tk,os⟩:=s₂;simp only[Yb];refine cU (wpAny_keeperOf_exc hC (cU (ID Fn hBn F T hC hn hi hf hfc XY λh' e hm=>d9 (h₂ h' e hm) (λr s' ⟨z,dx,c1,c2,c3⟩=>⟨z,cU (eB (wpAny_point (df ⟨e,dx,Z',c1,c2,c3⟩)))⟩) λ_ _ z=>z)))
end
def x0(a C:Uf)(h:No):Prop:=J7 h a C Db
def x1(a C d:Uf)(h:No):Prop:=J7 h a C (Fa d)
structure zh(K:qC)(C:Uf)(f:Str):Prop where
 sa:W.findIn K (.ref C) "__setattr__"=Fa (Fa (.builtin "object.__setattr__"))
 cd:∃cd own,W.clsIn K C=Fa cd/\cd.mro=List.map Value.ref own++NL/\cd.hasDict=pc
 tk:W.takerIn K C f=Fa Db
variable {X:Cx}{XQ:T0 (Uf × Obj)}{Y σ':St}{H H1:Hp}{s1:Sd}{a:Uf}
section
variable {f:Str}
def Hf{A:Ar}{E:QQX}{Q:Unit->Sd->Prop}(I:Inv X XQ Y H s)(e:H a=Fa (.ext (x0 a C)))(ry:qR y u)(st:zh X.K C f)(h:∀d s',H d=Db->d≠a->Inv X XQ Y (upd (upd H a (.ext (x1 a C d))) d (.ext (Oz d f y))) s'->Q () s'):pi (Tk X.prog X.w) A (setAttr (.ref a) f u) Q E s:=by obtain⟨⟨t,sl,ho⟩,_,_⟩:=I.mW a _ e;obtain⟨cd,own,c1,c2,c3⟩:=st.cd;refine Pw I.nk ⟨ho,Z',Z',trivial⟩ st.sa c1 c2 st.tk c3 λh' d tk k1 k2 dn da n1=>h d _ (zX I.mW dn) da ?_;have I2:=I.write (t':=tk) (x:=a) (e:=a) (o:=.ext (x1 a C d)) (by rw[e];exact True.intro) (.inl Z') k1 ⟨_,k2⟩ ⟨⟨t,sl,k2⟩,⟨_,k2⟩,λh1 h2 ⟨t',Zf,z⟩ kk=>⟨t',Zf,kk _ z⟩⟩;refine I2.adopt I dn (by rw[qh da];exact zX I.mW dn) ⟨⟨u,n1,ry⟩,?_,λh1 h2 ⟨u,n,r⟩ kk=>⟨u,n.at kk,r⟩⟩;obtain⟨o,_,_,z,_⟩:=n1;exact⟨o,z⟩
def Inv.drop{φ:No->Prop}(I:Inv X XQ Y H s)(ea:H a=Fa (.ext φ)):Inv X XQ Y (λb=>if b=a then Db else H b) s:=by
 have less:∀b,H b=Db->(if b=a then Db else H b)=Db:=λb e=>by split<;>first|rfl|exact e
 have keep:∀b o,H b=Fa o->(∀φ,o≠.ext φ)->(if b=a then Db else H b)=Fa o:=λb o e n=>by
  rw[cY]
  .exact e
  .intro z;rw[z,ea]at e;exact n φ (dh e).symm
 refine⟨I.ok,I.os,I.bare,⟨I.base.keep,I.base.slot,λb o e h0 hb=>less b (I.base.free b o e h0 hb),I.base.there,λb xs e=>keep b _ (I.base.nJ b xs e) (λ_ z=>nomatch z),λb o u e=>keep b _ (I.base.nz b o u e) (λ_ z=>nomatch z),λb ps e=>?_⟩,I.loc,I.cell,less _ I.free,λx c e=>less _ (I.m9 x c e),λp hp=>⟨(I.pin p hp).1,less _ (I.pin p hp).2.1,(I.pin p hp).2.2⟩,λb ob e=>?_,I.len⟩
 .obtain⟨more,z⟩:=I.base.nK b ps e;exact⟨more,keep b _ z (λ_ z=>nomatch z)⟩
 .have e':H b=Fa ob:=by
   by_cases z:b=a
   .rw[c9 z]at e;cases e
   .rw[cY z]at e;exact e
  exact(I.mW b ob e').nA (λ_ _ _ q=>q) (λb' q=>keep b' _ q (λ_ z=>nomatch z)) λb' xs q=>keep b' _ q (λ_ z=>nomatch z)
end
def Oi(K:qC)(ta tv:TE)(f:Str):TS:=λD Y H=>tv Y H λy H1=>ta Y H1 λx H2=>∃a C,x=.ref a/\H2 a=Fa (.ext (x0 a C))/\zh K C f/\∀d,H2 d=Db->d≠a->D.nx Y (upd (upd H2 a (.ext (x1 a C d))) d (.ext (Oz d f y)))
def P4{f:Str}{pos X0:Pos}{ta tv:TE}(ha:PE X o ta)(hv:PE X value tv)(hs:sB value (Fa (.Attribute o f X0)) pos.line X.env=pure lf:=by rfl):PS X (.Assign [.Attribute o f X0] value pos) (Oi X.K ta tv f):=by intro XQ s Y H D I h;refine iN (sS (hv XQ s Y H _ I h) λu s1 zz=>x5 zz λy H1 I1 ry q=>sS (ha XQ s1 Y H1 _ I1 q) λov s2 zz=>?_) hs;obtain⟨x,H2,I2,rx,a,C,ex,ea,st,q2⟩:=zz;subst ex;obtain rfl:ov=Value.ref a:=rx;exact Hf I2 ea ry st λd s3 dn da I3=>⟨Y,_,I3,q2 d dn da⟩
def wN(K:qC)(f:Str):Sp:=λvs H Q _=>C9 λe C y=>vs=[.ref e,y]/\H e=Fa (.ext (x0 e C))/\zh K C f/\∀d,H d=Db->d≠e->Q .mS (upd (upd H e (.ext (x1 e C d))) d (.ext (Oz d f y)))
variable {qual:Str}{scope:XXd}{outer:T0 Env}{s0:Sd}{H0:Hp}{P:Pg}{mg:QQZ}{base:No}
section
def LB{x qual y1 y2 fl:Str}{st:TD}(F:QE K x qual st f fd)(S:tM [y1,y2] [y1,y2] (qv st)) (hb:∀(X1:Vl) (A:Ar) (outer:T0 Env) (s:Sd) (H:Hp) (E:XK),CS (vG (BY P w) P w K mg base [y1,y2] qual (qv st) f X1 A outer s H E) (r6 st) (Oi K (F7 0) (F7 1) fl)):xA P w K mg base (BY P w) 1 f fd [y1,y2] (wN K fl):=by
 obtain⟨oc,od,kV,Yu,pm,an,X1,ct,YL,rfl,lk,YR⟩:=F.ex;refine Nk lk YR S (λvs H Q E h=>?_) λA outer s H vs Q' E hr h=>⟨_,hb X1 A outer s H E,?_⟩
 .obtain⟨e,C,y,rfl,_⟩:=h;rfl
 .obtain⟨e,C,y,rfl,h1,h2,q⟩:=h;exact⟨y,Z',.ref e,Z',e,C,Z',h1,h2,q⟩
def JV(K:qC)(C fI:Uf):Prop:=
 ∃nm q N bs bm Zc hdct sn sub ab col dd k0 k1 k2 k3 k5,∃B Bn newId nid Yn zW:String,∃bmN,∃mN:QQZ,o0 Bn newId zW bmN/\Zc.contains (Value.type Bn)=pc/\o0 B nid Yn Zc/\bm.contains (Value.type "BaseException")=pc/\mN "__init__"=Fa (.ref fI)/\
  ∀h:No,K.In h->h.get? C=Fa (XXb nm q C N bs bm hdct sn sub ab col dd k0 k1 k2 k3 k5 newId)/\h.Ns N mN/\OwnTail h Zc bm/\∃oI,h.get? fI=Fa oI/\oI.cls=.type "function"
variable {N:QQQ}{f:Uf}{cd:Vl}{E:XK}
def KC{X:Cx}(hX:X=vG (BY P w) P w K mg base N qual scope f cd A outer s0 H0 E){C fI:Uf}{fdI:wv}{ps:QQQ}{fl:Str}{k:Nat}{x:Str}{np XZ pos:Pos}{e:Go}{ta:TA}(hC:JV X.K C fI)(F:xA X.prog X.w X.K X.mg X.base (BY X.prog X.w) k fI fdI ps (wN X.K fl))(hr:sA (k+1) X.A)(hb:vb X.K fdI ps [])(st:zh X.K C fl) (hg:Gl X x) (hm:X.mg x=Fa (.ref C)) (ha:PA X [e] ta) (hs:Tl [e] X.env=[(lf,wp e X.env)]:=by rfl) (Yd:zb x:=by decide):
  PS X (.Raise (Fa (.Call (.Name x np) [e] [] XZ)) Db pos) (λ_ Y H=>ta Y H λvs H1=>∃y,vs=[y]/\∀d,H1 d=Db->E (.ref C) (Fa d) (upd H1 d (.ext (Oz d fl y)))):=by
 intro XQ s Y H D I h;obtain⟨nm,q,N',bs,bm,Zc,hdct,sn,sub,ab,col,dd,k0,k1,k2,k3,k5,B,Bn,newId,nid,Yn,zW,bmN,mN,f1,f2,f3,f4,f5,ZQ⟩:=hC;have hcalm:X.A.handled=Db:=I.ok.hd (by rw[hX];rfl);refine Gk (nm:=nm) (q:=q) (N:=N') (bs:=bs) (hdct:=hdct) (sn:=sn) (sub:=sub) (ab:=ab) (col:=col) (dd:=dd) (k0:=k0) (k1:=k1) (k2:=k2) (k3:=k3) (k5:=k5) f1 f2 f3 f4 hcalm (by rw[hs];rfl) f5 (xk I hg hm ⟨Z',?_⟩ Yd);rw[hs];refine evalArgs_kwB Z' ?_;have Zo:=ha XZ XQ s Y H _ I h;rw[hs]at Zo;refine sS Zo λus s1 zz=>?_;obtain⟨vs,H1,I1,r1,y,ey,q1⟩:=zz;subst ey;obtain⟨u,rfl,ru⟩:=yK r1;refine wpAny_evalAll_nil ?_;obtain⟨c1,c2,c3,c4⟩:=ZQ s1.heap I1.nk;refine⟨Z',by show 1<=Ch;rw[dI];decide,c1,c2,c3,c4,λh' e' md=>?_⟩;obtain⟨mk,mn,t,mt,_⟩:=md;have hn:H1 e'=Db:=zX I1.mW mn;have I2:Inv X XQ Y H1 {s1 with heap:=h'}:=I1.kept (t':=s1.toks) mk;have I3:Inv X XQ Y (upd H1 e' (.ext (x0 e' C))) {s1 with heap:=h'}:=I2.adopt I1 mn hn ⟨⟨t,_,mt⟩,⟨_,mt⟩,λh1 h2 ⟨t',Zf,z⟩ kk=>⟨t',Zf,kk _ z⟩⟩;have r2:qJ [V.ref e',y] [Value.ref e',u]:=.cons Z' (.cons ru .nil);have Zg:wN X.K fl [V.ref e',y] (upd H1 e' (.ext (x0 e' C))) (λv H2=>v=.mS/\∃d,d≠e'/\H1 d=Db/\H2=upd (upd H1 e' (.ext (x1 e' C d))) d (.ext (Oz d fl y))) (λ_ _ _=>False):=⟨e',C,y,Z',qw,st,λd dn da=>⟨Z',d,da,by rw[qh da]at dn;exact dn,by rw[QS]⟩⟩;have hl:([Value.ref e',u]:T0 Vl).length=ps.length:=by rw[<-r2.length];exact F.len _ _ _ _ Zg
 refine hW (gj (F.run _ X.stack _ _ ⟨[Value.ref e',u],[]⟩ [Value.ref e',u] _ _ _ (hr.make C [u] []) (I3.ow.make C [u] []) (hb _ [Value.ref e',u] I3.nk hl) r2 Zg) λr s' Zv=>?_);cases r with
 | error ev=>obtain⟨_,_,_,_,_,_,z,_⟩:=Zv;exact z.elim
 | ok fw=>
  cases fw with
  | ret uv=>
   obtain⟨v,H',I4,rv,ev,d,da,dn,eH⟩:=I3.after Zv;subst ev eH;obtain⟨⟨t',Zf,md⟩,_,_⟩:=I4.mW e' _ (by rw[qh (dO da)];exact qw);have I5:Inv X XQ Y (upd H1 d (.ext (Oz d fl y))) _:=(funext λb=>by
    by_cases z:b=e'
    .subst z;rw[c9 Z',qh (dO da),hn]
    .rw[cY z];by_cases z2:b=d
     .subst z2;rw[qw,qw]
     .rw[qh z2,qh z2,qh z]:(λb=>if b=e' then Db else upd (upd H1 e' (.ext (x1 e' C d))) d (.ext (Oz d fl y)) b)=upd H1 d (.ext (Oz d fl y))) ▸ I4.drop (a:=e') (φ:=x1 e' C d) (by rw[qh (dO da)];exact qw)
   refine⟨rv,Fa d,(ZQ s'.heap I4.nk).1,⟨t',Zf,md⟩,?_⟩;subst hX;have Yk:Un (wx outer) [] H0 H1 s0.heap s1.heap:=I1.base;exact Ve I5 (tb:=none) ⟨_,_,md,Z',Z',Z',(by show 1<6;decide),Z',λT z=>by cases z⟩ (GT Yk Z' mn) (λT z=>by cases z) (by rw[qh (dO da)];exact hn) (q1 d dn)
  | next=>exact False.elim Zv
  | brk=>exact False.elim Zv
  | cont=>exact False.elim Zv
end
end L2
namespace L3
open L2
variable {P:Pg}{w:Wo}{K:qC}{mg:QQZ}{base:No}{N:QQQ}{qual:Str}{scope:XXd}{f:Uf}{cd:Vl}{A:Ar}{outer:T0 Env}{s0:Sd}{H0:Hp}{E:XK}{x:Str}{np XZ pos:Pos}{e:Go}{C fI:Uf}{fdI:wv}{ps:QQQ}{fl:Str}{k:Nat}{R:XR}{ta:xI}
def Qb(C:Uf)(R:XR)(f:Str)(ta:xI):xC:=λ_ U M=>ta U M λds M1=>∃z,ds=[z]/\R C (Fa (f,z)) M1
def Ld(hC:JV K C fI)(F:xA P w K mg base (BY P w) k fI fdI ps (wN K fl))(hr:sA (k+1) (vG (BY P w) P w K mg base N qual scope f cd A outer s0 H0 E).A)(hb:vb K fdI ps [])(st:zh K C fl)(_:W.findIn K (.ref C) "__init__"=Fa (Fa (.ref fI)))(hg:Gl (vG (BY P w) P w K mg base N qual scope f cd A outer s0 H0 E) x)(hm:mg x=Fa (.ref C))(hR:Vi K R E)(ha:A3 (vG (BY P w) P w K mg base N qual scope f cd A outer s0 H0 E) [e] ta) (hs:Tl [e] (vG (BY P w) P w K mg base N qual scope f cd A outer s0 H0 E).env=[(lf,wp e (vG (BY P w) P w K mg base N qual scope f cd A outer s0 H0 E).env)]:=by rfl) (Yd:zb x:=by decide):
  S3 (vG (BY P w) P w K mg base N qual scope f cd A outer s0 H0 E) (.Raise (Fa (.Call (.Name x np) [e] [] XZ)) Db pos) (Qb C R fl ta):=
 PS.mono (KC Z' hC F hr hb st hg hm ha hs Yd) λD' Y H ⟨U,M,D,hs,hm,ht,_⟩=>⟨U,M,_,hs,hm,ht,λvs H1 ds M1 hd XT e1 q1=>by
  obtain⟨z,rfl,r⟩:=q1;obtain⟨v,rfl,hv⟩:=sO hd;exact⟨v,Z',λd dn=>hR C (Fa d) _ M1 _ (XT.add dn) (.inr ⟨d,fl,z,v,Z',Z',qw,hv.mono (.new dn)⟩) r⟩⟩
variable {X:Cx}{b₀:TD}{Zb:T0 TD}{cn:Str}{cnp Zj epos:Pos}{Cc L:Uf}{te:Ug}{th:xC}
end L3
namespace L2
def Nv{K:qC}{C C2 N fI:Uf}{nm q:Str}{bs sub:T0 Vl}{hdct ab:Bool}{sn:QQQ}{col:Option Bool}{dd od1 od2 dd2:Option Uf}{k0 k1 k2 k3 k5:Option Vl}{oc1 oc2 c0:Vl}{es1 es2:Array DictEntry}{ep1 ep2:Nat}{sl1 sl2 Wx:Array (Option Vl)}{cd2:ClassData}{oI:Obj} (l1:K.lookup C=Fa (XXb nm q C N bs (.ref C2::NL) hdct sn sub ab col dd k0 k1 k2 k3 k5 "ValueError.__new__")) (n1:K.lookup N=Fa ⟨oc1,od1,.dict es1 ep1,sl1⟩) (s1:Cy es1=pc) (i1:nsFind es1 "__init__"=Fa (.ref fI)) (l2:K.lookup C2=Fa ⟨c0,dd2,.cls cd2,Wx⟩) (n2:K.lookup cd2.ns=Fa ⟨oc2,od2,.dict es2 ep2,sl2⟩) (s2:Cy es2=pc) (i2:nsFind es2 "__init__"=Db) (l3:K.lookup fI=Fa oI) (hf:W.isFn K (.ref fI)=pc):JV K C fI:=by
 have hc:oI.cls=.type "function":=by have hf:=fh.mp hf;unfold W.typeIn at hf;simp only at hf;rw[l3]at hf;exact dh hf
 refine⟨nm,q,N,bs,.ref C2::NL,NL,hdct,sn,sub,ab,col,dd,k0,k1,k2,k3,k5,"ValueError","ValueError","ValueError.__new__","ValueError.__new__","ValueError.__init__","ValueError.__init__",NL,λn=>nsFind es1 n,ky,by decide+kernel,ky,?_,i1,λh X=>⟨X C _ l1,⟨_,es1,ep1,X N _ n1,Z',Cq s1,λ_=>rfl⟩,.own (X C2 _ l2) ⟨_,es2,ep2,X _ _ n2,Z',Cq s2,λ_=>rfl⟩ i2 .base,oI,X fI _ l3,hc⟩⟩;rw[iw];have:NL.contains (.type "BaseException")=pc:=by decide+kernel
 rw[this,lb]
def KZ{K:qC}{C C2 N:Uf}{nm q f:Str}{bs sub:T0 Vl}{ab:Bool}{sn:QQQ}{col:Option Bool}{dd:Option Uf}{k0 k1 k2 k3 k5:Option Vl}(l1:K.lookup C=Fa (XXb nm q C N bs (.ref C2::NL) pc sn sub ab col dd k0 k1 k2 k3 k5 "ValueError.__new__"))(sa:W.findIn K (.ref C) "__setattr__"=Fa (Fa (.builtin "object.__setattr__")))(tk:W.findIn K (.ref C) f=Fa Db):zh K C f:=by refine⟨sa,⟨_,[C,C2],by unfold W.clsIn;rw[l1],Z',Z'⟩,?_⟩;unfold W.takerIn;rw[tk];rfl
end L2
namespace L3
open L2
variable {X:Cx}{pos XU:Pos}{o e:Go}{es:T0 Go}{ta:T3}{t:xI}
structure FA where
 f:Uf
 d:wv
 p:QQQ
structure DG(K:qC)(st:TD)(py qual:Str)(ps:QQQ)(x:FA):Prop where
 pe:x.p=ps
 fn:QE K py qual st x.f x.d
 b:vb K x.d x.p []
 ty:W.isFn K (.ref x.f)=pc
structure TG(K:qC)(mg:QQZ)(st:TD)(py:Str)(ps:QQQ)(x:FA):Prop extends DG K st py py ps x where
 mg:mg py=Fa (.ref x.f)
structure MG(K:qC)(C:Uf)(st:TD)(py qual:Str)(ps:QQQ)(x:FA):Prop extends DG K st py qual ps x where
 at_:W.findIn K (.ref C) py=Fa (Fa (.ref x.f))
structure CG(K:qC)(mg:QQZ)(nm:Str)(C:Uf):Prop extends Cls K C where
 mg:mg nm=Fa (.ref C)
def DG.kp{K:qC}{st:TD}{x:FA}(h:DG K st py qual ps x):W.keepIn K (.ref x.f)=pc:=h.fn.kp
def MG.ny{K:qC}{st:TD}{x:FA}(h:MG K C st py qual ps x):vQ K C py x.f:=⟨h.at_,h.ty,h.toDG.kp⟩
def zL(K:qC)(C:Uf)(fs:QQQ):Prop:=∀f,fs.contains f=pc->ux K C f
def tP{K:qC}:zL K C []:=λf h=>by simp at h
def qd{K:qC}{C:Uf}{g:Str}(h:W.findIn K (.ref C) g=Fa Db)(r:zL K C fs):zL K C (g::fs):=λf q=>by
 rw[iw,gT]at q;rcases q with q|q
 .rw[sK q];exact h
 .exact r f q
abbrev Fq(P:Pg)(w:Wo)(K:qC)(mg:QQZ)(base:No)(k:Nat)(x:FA)(sp:rH):Prop:=Ua P w K mg base k x.f x.d x.p sp
abbrev W8(P:Pg)(w:Wo)(K:qC)(mg:QQZ)(base:No)(k:Nat)(x:FA)(sp:Gf):Prop:=SM P w K mg base k x.f x.d x.p sp
noncomputable def TR(N P:QQQ)(sc:XXd):Bool:=sc.kind==.function&&(!sc.isCoroutine&&(!sc.isGenerator&&(decide N.Nodup&&(decide (N.take P.length=P)&&((P.all λx=>sc.names.lookup x==Fa .local||sc.names.lookup x==Fa .cell)&&sc.names.all λy=>!(y.2==.free))))))
def Xx{N P:QQQ}(h:TR N P sc=pc):tM N P sc:=by
 unfold TR at h;simp only[dS,gH,fh,eh]at h;obtain⟨h1,h2,h3,h4,h5,h6,h7⟩:=h;refine⟨h1,h2,h3,h4,h5,λx hx=>?_,λy hy e=>?_⟩
 .have:=eD.mp h6 x hx
  simpa using this
 .have:=eD.mp h7 y hy;rw[e]at this;simp at this
variable {P:Pg}{w:Wo}{K:qC}{mg:QQZ}{base:No}
def WT{st:TD}{sp:rH}(F:DG K st x qual ps fa)(S:tM N ps (qv st))(len:∀ds M Q,sp ds M Q->ds.length=ps.length) (Yg:∀(X1:Vl) (A:Ar) (outer:T0 Env) (s:Sd) (H:Hp) (E:XK),sA k (A.deeper (dL qual (qv st) s.heap.objs.size fa.f X1))->
   ∃t,IP (vG OB P w K mg base N qual (qv st) fa.f X1 A outer s H E).oB (r6 st) t/\∀ds M Q,sp ds M Q->t {nx:=λ_ M'=>∃XX,qF XX M'/\Q .mS XX,rt:=λd M'=>∃XX,qF XX M'/\Q d XX} (xg N ds) M):Fq P w K mg base (k+1) fa sp:=by
 unfold Fq;rw[F.pe];exact VM F.fn S len Yg
def UL{st:TD}{sp:Gf}(F:DG K st x qual ps fa)(S:tM N ps (qv st))(len:∀ds M Q R,sp ds M Q R->ds.length=ps.length) (Yg:∀(X1:Vl) (A:Ar) (outer:T0 Env) (s:Sd) (H:Hp) (E:XK) (R:XR),sA k (A.deeper (dL qual (qv st) s.heap.objs.size fa.f X1))->Vi K R E->
   ∃t,IP (vG (BY P w) P w K mg base N qual (qv st) fa.f X1 A outer s H E) (r6 st) t/\∀ds M Q,sp ds M Q R->t {nx:=λ_ M'=>∃XX,qF XX M'/\Q .mS XX,rt:=λd M'=>∃XX,qF XX M'/\Q d XX} (xg N ds) M):W8 P w K mg base (k+1) fa sp:=by
 unfold W8;rw[F.pe];exact Uj F.fn S len Yg
variable {k n:Nat}{f C:Uf}{fa:FA}{st:TD}{qual:Str}{ps:QQQ}{sp:rH}{x m:Str}{p:Pos}
def pT(F:Fq X.prog X.w X.K X.mg X.base k fa sp)(hr:sA n X.A)(T:TG X.K X.mg st x ps fa)(ha:A3 X (e::es) t)(hn:k<=n:=by first|decide|omega)(hg:Gl X x:=by rfl)
  (Yd:zb x:=by decide) (he:Bw X e es:=by rfl) (X9:Dc X pos es:=by rfl):
  E3 X (.Call (.Name x p) (e::es) [] pos) (DZ sp t):=Q1 F (hr.mono hn) hg T.mg T.toDG.kp T.b ha Yd he X9
def uV(F:Fq X.prog X.w X.K X.mg X.base k fa sp)(hr:sA n X.A)(c:CG X.K X.mg x C)(i:Mk X.K C fa.f)(T:DG X.K st m qual ps fa)(ha:A3 X (e::es) t)(hn:k+1<=n:=by first|decide|omega)(hg:Gl X x:=by rfl)
  (Yd:zb x:=by decide) (he:Bw X e es:=by rfl) (X9:Dc X pos es:=by rfl):
  E3 X (.Call (.Name x p) (e::es) [] pos) (Rz C sp t):=PM c.toCls i F (hr.mono hn) hg c.mg T.b ha Yd he X9
def ql{pl:Sem Bool}(he:E3 X o ta)(c:Cls X.K C)(T:MG X.K C st m qual ps fa)(F:Fq X.prog X.w X.K X.mg X.base k fa sp)(hr:sA n X.A)(ha:A3 X (e::es) t)(hn:k<=n:=by first|decide|omega)
  (Yf:Bw X e es:=by rfl) (X9:Dc X pos es:=by rfl)
  (ht:wp (.Call (.Attribute o m XU) (e::es) [] pos) X.env=(do
   let ov<-wp o X.env
   XXc XU.atName
   let(f,first)<-ZB [ov] (TW ov m pl)
   XXh pos f first (xz pos (Tl (e::es) X.env)) (xL pos (Rs [] X.env))):=by rfl):
  E3 X (.Call (.Attribute o m XU) (e::es) [] pos) (AQ m (λD s=>D=C/\s=sp) ta t):=
 EG (R:=λD s=>D=C/\s=sp) he (λD s ⟨e1,e2⟩=>by subst e1 e2;exact⟨c,_,_,_,T.ny,F,T.b⟩) (hr.mono hn) ha Yf X9 ht
def yA{pl:Sem Bool}(he:E3 X o ta)(c:Cls X.K C)(T:MG X.K C st m qual ps fa)(F:Fq X.prog X.w X.K X.mg X.base k fa sp)(hr:sA n X.A)(hn:k<=n:=by first|decide|omega)
  (ht:wp (.Call (.Attribute o m XU) [] [] pos) X.env=(do
   let ov<-wp o X.env
   XXc XU.atName
   let(f,first)<-ZB [ov] (TW ov m pl)
   XXh pos f first (xz pos (Tl [] X.env)) (xL pos (Rs [] X.env))):=by rfl):
  E3 X (.Call (.Attribute o m XU) [] [] pos) (AQ m (λD s=>D=C/\s=sp) ta x9):=
 BR (R:=λD s=>D=C/\s=sp) he (λD s ⟨e1,e2⟩=>by subst e1 e2;exact⟨c,_,_,_,T.ny,F,T.b⟩) (hr.mono hn) ht
def yV{pl:Sem Bool}(cm:LV X.K C m fa.f)(F:Fq X.prog X.w X.K X.mg X.base k fa sp)(hr:sA n X.A)(c:CG X.K X.mg x C)(T:DG X.K st m qual ps fa)(ha:A3 X (e::es) t)(hn:k<=n:=by first|decide|omega)(hg:Gl X x:=by rfl)
  (Yd:zb x:=by decide) (Yf:Bw X e es:=by rfl) (X9:Dc X pos es:=by rfl)
  (ht:wp (.Call (.Attribute (.Name x p) m XU) (e::es) [] pos) X.env=(do
   let ov<-wp (.Name x p) X.env
   XXc XU.atName
   let(f,first)<-ZB [ov] (TW ov m pl)
   XXh pos f first (xz pos (Tl (e::es) X.env)) (xL pos (Rs [] X.env))):=by rfl):
  E3 X (.Call (.Attribute (.Name x p) m XU) (e::es) [] pos) (DZ sp t):=Qx cm F (hr.mono hn) hg c.mg T.kp T.b ha Yd Yf X9 ht
variable {h:No}{py:Str}{od an:Option Uf}{sl:Array (Option Vl)}{kv dc pm cd ct:Vl}
def Jf{fd:wv}{oc:Vl}(l:K.lookup f=Fa ⟨oc,od,.func fd,sl⟩):W.keepIn K (.ref f)=pc:=by unfold W.keepIn;simp only;rw[l]
def O7{fd:wv}(l:K.lookup f=Fa ⟨.type "function",od,.func fd,sl⟩):W.isFn K (.ref f)=pc:=by unfold W.isFn W.typeIn;simp only;rw[l];rfl
abbrev nq(py qual:Str)(st:TD)(ps:QQQ):Prop:=∀(kV Yu pm:Vl) (an:Option Uf) (X1 ct:Vl) (us:T0 Vl),us.length=ps.length->bindArgs (W.fnOf py qual (uI st) (r6 st) (qv st) .none kV Yu pm an X1 ct) ⟨us,[]⟩=pure (ps.zip us)
def RD(l:K.lookup f=Fa ⟨.type "function",od,.func (W.fnOf py qual (uI st) (r6 st) (qv st) .none kv dc pm an cd ct),sl⟩)(k:W.codeIn K cd qual=pc)(hb:nq py qual st ps):
  DG K st py qual ps ⟨f,W.fnOf py qual (uI st) (r6 st) (qv st) .none kv dc pm an cd ct,ps⟩:=⟨Z',Na l k (Jf l),(Na l k (Jf l)).binds hb,O7 l⟩
def qE(X:K.In h)(G:h.Ns Ix mg)(a:W.nsIn K Ix py=Fa (Fa (.ref f)))(l:K.lookup f=Fa ⟨.type "function",od,.func (W.fnOf py py (uI st) (r6 st) (qv st) .none kv dc pm an cd ct),sl⟩)(k:W.codeIn K cd py=pc)(hb:nq py py st ps):
  TG K mg st py ps ⟨f,W.fnOf py py (uI st) (r6 st) (qv st) .none kv dc pm an cd ct,ps⟩:=⟨RD l k hb,W.mg_of X G a⟩
def qr(a:W.findIn K (.ref C) py=Fa (Fa (.ref f)))(l:K.lookup f=Fa ⟨.type "function",od,.func (W.fnOf py qual (uI st) (r6 st) (qv st) .none kv dc pm an cd ct),sl⟩)(k:W.codeIn K cd qual=pc)(hb:nq py qual st ps):
  MG K C st py qual ps ⟨f,W.fnOf py qual (uI st) (r6 st) (qv st) .none kv dc pm an cd ct,ps⟩:=⟨RD l k hb,a⟩
def wC(X:K.In h)(G:h.Ns Ix mg)(a:W.nsIn K Ix py=Fa (Fa (.ref C)))(h1:W.plainGet K C Str.empty=pc)(h2:W.hasDictIn K C=pc)(h3:W.plainOver K C=pc)(h4:W.findIn K (.ref C) "__setattr__"=Fa (Fa (.builtin "object.__setattr__"))):CG K mg py C:=⟨⟨h1,h2,h3,h4⟩,W.mg_of X G a⟩
def Vx(h1:(W.clsIn K C).isSome=pc)(h2:W.findIn K (.ref C) "__getattribute__"=Fa (Fa (.builtin "BaseException.__getattribute__")))(h3:W.findIn K (.ref C) "__getattr__"=Fa Db)(h4:W.findIn K (.ref C) "__class__"=Fa (Fa (.builtin "object.__class__"))) (h5:W.specialIn K (.builtin "object.__class__") "__get__"=Fa (Fa (.builtin "getset_descriptor.__get__"))) (h6:W.takesIn K (.builtin "object.__class__")=Fa pc) (h7:W.mroIn K C (.type "object")=Fa pc) (h8:W.mroIn K C (.type "BaseException")=Fa pc):MD K C:=⟨h1,h2,h3,h4,h5,h6,h7,h8⟩
def PQ{x:Str}{a:Uf}{es:T0 DictEntry}{ep:Nat}(h:mg x=Fa (.ref a))(s:(a==XV)=lf)(l:K.lookup a=Fa ⟨.type "dict",Db,.dict es.toArray ep,#[]⟩) (r:KTD.Rows (λ(ss:QQQ) v=>∃t,v=Value.ref t/\vn K (λ_=>Db) t (ss.map V.str)) es T):LF K mg x T:=⟨a,_,_,_,h,s,l,⟨Z',Z',Z'⟩,Z',by simpa using r⟩
def L1{x qual y1 y2 fl:Str}{st:TD}(F:DG K st x qual [y1,y2] fa)(S:tM [y1,y2] [y1,y2] (qv st)) (hb:∀(X1:Vl) (A:Ar) (outer:T0 Env) (s:Sd) (H:Hp) (E:XK),CS (vG (BY P w) P w K mg base [y1,y2] qual (qv st) fa.f X1 A outer s H E) (r6 st) (Oi K (F7 0) (F7 1) fl)):xA P w K mg base (BY P w) 1 fa.f fa.d fa.p (wN K fl):=by
 rw[F.pe];exact LB F.fn S hb
def VD(ds:T0 D)(M:Mp)(Q:DK):Prop:=match ds with
 | [.ref a]=>(pA M a).elim False λes=>(Gw es).elim False λbs=>Q (.bl (bs.any id)) M
 | _=>False
def SZ(hc:X.calm=pc):C3 X (.builtin "any") VD:=by
 intro XQ s Y H vs us Q' I rv h;obtain⟨ds,M,Q,hd,hm,q,k⟩:=h;unfold VD at q;split at q
 .rename_i a;obtain⟨v,rfl,hv⟩:=sO hd;obtain⟨es,e0,q⟩:=rc q;obtain⟨bs,e1,q⟩:=rc q;cases hv.mO;obtain⟨u,rfl,ru⟩:=yK rv;cases ru;obtain⟨xs,h1,h2,_⟩:=qD hm e0;obtain⟨its,r,pl,hz⟩:=I.list h1;have eits:=FP e1 h2 r;subst eits;have Yc:a≠s.heap.objs.size:=by obtain⟨o,_,e,_⟩:=pl;exact dE (dv e)
  refine call_any_walk (gF pl.isList ?_);refine⟨s.heap.objs.size,_,_,_,_,_,λi=>(bs[i]?).getD lf,Z',ku (A:=X.A.in1) (I.ok.hd hc) _ a Yc (bs.map Value.bool).toArray,⟨⟨_,dF _ Z',Z',Z'⟩,?_⟩,λi v s' Q E hP hQ=>?_,λh' tk hk=>?_⟩
  .obtain⟨o,n,e,c,d,q⟩:=pl;exact⟨o,cZ _ e,c,n,q⟩
  .simp only[iM,dD]at hP;cases e2:bs[i]? with
   | none=>rw[e2]at hP;cases hP
   | some b=>rw[e2]at hP;cases hP;have hQ:Q ((bs[i]?).getD lf) s':=hQ;rw[e2]at hQ;exact fj hQ
  .have ea:(List.range (bs.map Value.bool).toArray.size).any (λi=>(bs[i]?).getD lf)=bs.any id:=by
    rw[dw,cT];rw[gk,gx,gx];constructor
    .rintro ⟨i,hi,z⟩
     have Zp:=gf.mp hi;rw[cV Zp]at z;exact⟨_,ia Zp,z⟩
    .rintro ⟨b,hb,z⟩
     obtain⟨i,hi,e⟩:=gO hb;refine⟨i,gf.mpr hi,?_⟩;rw[cV hi,e];exact z
   rw[ea];refine⟨.bl (bs.any id),H,?_,Z',k _ _ _ _ .bl hm .refl q⟩;exact I.kept (h':=h') (t':=tk) λb o e=>hk b o (by simpa using dE (dv e)) (cZ _ e)
 .exact q.elim
def RJ:zn "any"=Fa (.builtin "any"):=by decide+kernel
end L3
namespace L2
def KA(a C d:Uf)(h:No):Prop:=Bs λoe vs=>h.get? a=Fa oe/\oe.cls=.ref C/\oe.data=.fields vs/\oe.dict=Fa d
structure Qv(K:qC)(C:Uf)(f:Str):Prop where
 ci:MD K C
 hh:W.hasDictIn K C=pc
 tk:W.findIn K (.ref C) f=Fa Db
def MS{h:No}{d:Uf}{m:QQZ}{f:Str}{u:Vl}(x:h.Ns1 d m)(e:m f=Fa u):∃od,h.get? d=Fa od/\W.lookIn f od=Fa (Fa u):=by obtain⟨o,es,ep,e1,e2,_,_,e3⟩:=x;refine⟨o,e1,?_⟩;have e3:=e3 f;rw[e]at e3;unfold nsFind findBy at e3;rw[<-kT]at e3;obtain⟨en,h1,h2⟩:=iF.mp e3;unfold W.lookIn;rw[e2];dsimp only;rw[h1];exact eK (λz=>Fa (Fa z)) h2
variable {prog:Pg}{w:Wo}{A:Ar}{E:QQX}{s:Sd}{K:qC}{x C:Uf}{ox od:Obj}{f:Str}{v:Vl}
def LU{tk:Tok}{Q:PySem.Fin->Sd->Prop}(X:K.In s.heap)(I:W.InstAt s.heap x ox C (Fa od))(hf:W.findObj K C (Fa od) f=Fa (.value v))(h:Q (.done (.ret v)) s):pi (Tk prog w) A (Builtin.«object.__getattribute__» {pos:=[.ref x,.str f tk]}) Q E s:=by have L0:=I.type (M:=Tk prog w);unfold Builtin.«object.__getattribute__» slotArgs;refine cU ?_;rw[cY (by simp)];dsimp only;rw[cY (by simp)];refine df ?_;dsimp only;refine cU ?_;unfold Builtin.ObjectAttr.attrName;refine df (cU (L0.at (cU ((W.looks_find X I hf).at ?_))));exact df h
def QL{expr:Bool}{Q:QQX}(c:Qv K C f)(X:K.In s.heap)(I:W.InstAt s.heap x ox C (Fa od))(hl:W.lookIn f od=Fa (Fa v))(hv:W.handedIn v=pc)(h:Q v {s with toks:=s.toks+1}):pi (Tk prog w) A (getAttr (.ref x) f expr) Q E s:=by have L0:=I.type (M:=Tk prog w);unfold getAttr getAttrBy;refine cU (wpAny_mkText (eB (cU (L0.at (cU ((je X c.ci.ga).at ?_))))));dsimp only;rw[cY (by simp)];unfold getAttrByItsOwn;refine cU ?_;unfold hookBefore;rw[c9 (by rfl)];refine(je X c.ci.gt).at (cU (kD (eB ?_)));unfold callGetattribute;rw[cY (by simp;intro _;rfl)];unfold boundAndCalled;refine cU ?_;rw[kl.ga.bind (.ref x)];refine df ?_;refine hW (h9 kl.ga.plain F.entry_bexc_ga (MT c.ci X I.at_ I.cls ?_));exact LU X I (W.findObj_own c.hh c.tk Z' hl) (W.handed_on hv h)
variable {X:Cx}{e:Go}{pos:Pos}{ta:TE}
noncomputable def MB:V->Bool
 | .str _=>pc
 | .int _=>pc
 | .bl _=>pc
 | .mS=>pc
 | _=>lf
def FC{v:V}(r:qR v u)(p:MB v=pc):W.handedIn u=pc:=by
 cases v<;>first
  | (cases r;rfl)
  | (obtain⟨t,rfl⟩:=r;rfl)
  | cases p
def Oq(K:qC)(ta:TE)(f:Str):TE:=λY H Q=>ta Y H λx H1=>Cg λa C d v=>x=.ref a/\H1 a=Fa (.ext (KA a C d))/\H1 d=Fa (.ext (Oz d f v))/\Qv K C f/\MB v=pc/\Q v H1
def Pu(he:PE X e ta)(hb:Ps e f X.env (wp e X.env)=wp e X.env):PE X (.Attribute e f pos) (Oq X.K ta f):=by intro XQ s Y H Q I h;refine Jg hb (sS (he XQ s Y H _ I h) λu s1 zz=>?_);obtain⟨x,H1,I1,rx,a,C,d,v,ex,ea,ed,c,p,q⟩:=zz;subst ex;obtain rfl:u=Value.ref a:=rx;obtain⟨⟨oe,vs,e1,e2,e3,e4⟩,_,_⟩:=I1.mW a _ ea;obtain⟨⟨u,n1,r⟩,_,_⟩:=I1.mW d _ ed;obtain⟨od,g1,g2⟩:=MS n1 (c9 Z');exact QL (ox:=oe) c I1.nk ⟨e1,e2,by unfold W.notCls;rw[e3],by rw[e4];exact g1⟩ g2 (FC r p) ⟨v,H1,I1.tok _,r,q⟩
def Q2{a C d:Uf}(x:KA a C d h):su P w H h a (.ext (KA a C d)):=by refine⟨x,?_,λh1 h2 ⟨oe,vs,e1,e2,e3,e4⟩ k=>⟨oe,vs,k oe e1,e2,e3,e4⟩⟩;obtain⟨oe,_,e,_⟩:=x;exact⟨oe,e⟩
def Qd{st b₀:TD}{Zb:T0 TD}{cn n:Str}{cnp Zj pos:Pos}{Cc L:Uf}{outer:T0 Env}{i:Nat}{t:F8->St->Hp->(Hp->Prop)->XK->Prop}(hb:Xp X st t)(Yf:X.stack=X.env::outer)(hL:X.env.frame=Fa L)(hg:Gl X cn)(hm:X.mg cn=Fa (.ref Cc)) (hN:X.N.Nodup) (hi:X.N[i]?=Fa n) (hk:X.env.scope.names.lookup n=Fa .local) (hs:∀ev E',CS (X.marked ev E') (b₀::Zb) th) (Yd:zb cn:=by decide):
  PS X (.Try [st] [.ExceptHandler (Fa (.Name cn cnp)) (Fa n) (b₀::Zb) Zj] [] [] pos) (λD Y H=>∃(J:Hp->Prop) (E:XK),t D Y H J E/\∀C dx H1 H',J H1->TKept H1 H'->E (.ref C) dx H'->∃d,dx=Fa d/\W.exmOne X.K (.ref C) (.ref Cc)=Fa pc/\
   ∀a,H' a=Db->th {nx:=λσ' H2=>D.nx (σ'.set i Db) H2,rt:=D.rt,bk:=λσ' H2=>D.bk (σ'.set i Db) H2,ct:=λσ' H2=>D.ct (σ'.set i Db) H2} (Y.set i (Fa (.ref a))) (upd H' a (.ext (KA a C d)))):=by
 intro XQ s Y H D I ⟨J,E,h,hh⟩;refine wpAny_Try_except (d9 (Q:=λf s'=>SP X XQ D f s') (jE (sS (hb XQ s Y H D J E I h) λf s1 q=>?_)) (λf s1 q=>?_) λev s1 x=>?_)
 .cases f with
  | next=>exact gQ q
  | brk=>exact q
  | cont=>exact q
  | ret v=>exact q
 .cases f with
  | next=>exact gQ q
  | brk=>exact q
  | cont=>exact q
  | ret v=>exact q
 .refine d9 (Sl x Yf hL) (λ_ s2 y=>sS y λ_ s3 z=>?_) λ_ _ z=>z;obtain⟨a,C,dx,H',tb,H1,s1,rfl,q,I3,x3,na,nt,jH,tk,I1,n1⟩:=z;obtain⟨d,rfl,XT,h1⟩:=hh C dx H1 H' jH tk q;refine wpAny_handleBy_cons (codeAny_handlers_test (xk (X:=X.marked (.ref a) λ_ _=>False) I3.mark hg hm ?_ Yd)) (by intro z;cases z);obtain⟨oe,vs,ho,hc,ZI,hd,_⟩:=id x3;refine W.exm_one I3.nk (CA ho) (by rw[hc];exact XT) _ _ _ _ (λ_ _ z=>z) ?_;refine codeAny_handlers_suite_as (Gg x3 λh' hh'=>?_);have I4:Inv X XQ Y H' {s3 with heap:=h'}:=I3.kept (t':=s3.toks) λb u z=>by rw[hh' b];exact z
  have I5:Inv X XQ Y (upd H' a (.ext (KA a C d))) {s3 with heap:=h'}:=I4.adopt I1 n1 na (Q2 ⟨oe,vs,by show h'.get? a=_;rw[hh' a];exact ho,hc,hd,ZI⟩);refine x8 (v:=.ref a) I5 hN hi (.inl hk) Z' (λs6 I6=>?_) (.inr hk);refine d9 (hs (.ref a) _ XQ _ _ _ _ I6.mark (h1 a na)) (λf s7 q7=>?_) λ_ _ z=>z;have q7:=SP.unmark I.ok q7;cases f with
  | next=>obtain⟨σ',H2,I7,q⟩:=q7;exact ym I7 hN hi hk λs8 I8=>⟨_,H2,I8,q⟩
  | brk=>obtain⟨σ',H2,I7,q⟩:=q7;exact ym I7 hN hi hk λs8 I8=>⟨_,H2,I8,q⟩
  | cont=>obtain⟨σ',H2,I7,q⟩:=q7;exact ym I7 hN hi hk λs8 I8=>⟨_,H2,I8,q⟩
  | ret v=>obtain⟨y,σ',H2,I7,r,q⟩:=q7;exact ym I7 hN hi hk λs8 I8=>⟨y,_,H2,I8,r,q⟩
end L2
namespace L3
open L2
variable {X:Cx}{cn n x:Str}{e:Go}{cnp Zj pos XU xpos p1 p2 p3 p4:Pos}{Cc L:Uf}{outer:T0 Env}{i ix:Nat}{te:Ug}{fl:Str}
def VR(K:qC)(ix i:Nat)(Cc:Uf)(fl:Str)(te:Ug):xC:=λD U M=>∃R,te U M (λd M1=>D.nx (U.set ix (Fa d)) M1) R/\∀C y M',R C y M'->W.exmOne K (.ref C) (.ref Cc)=Fa pc/\Qv K C fl/\∃z,y=Fa (fl,.str z)/\D.nx ((U.set ix (Fa (.str z))).set i Db) M'
def OU(he:Xs X e te)(Yf:X.stack=X.env::outer)(hL:X.env.frame=Fa L)(hg:Gl X cn)(hm:X.mg cn=Fa (.ref Cc))(hN:X.N.Nodup)(Z7:X.N[ix]?=Fa x)(hx:X.env.scope.names.lookup x=Fa .local)(hi:X.N[i]?=Fa n)(hk:X.env.scope.names.lookup n=Fa .local)(Yc:ix≠i) (hd:zb n:=by decide) (YR:(n==("__classdict__":Str))=lf:=by decide) (hab:Ps (.Name n p2) fl X.env (wp (.Name n p2) X.env)=wp (.Name n p2) X.env:=by rfl) (hsw2:sB (.Attribute (.Name n p2) fl p3) (Fa (.Name x p1)) p4.line X.env=pure lf:=by rfl)
  (Yd:zb cn:=by decide) (Zh:sB e (Fa (.Name x xpos)) XU.line X.env=pure lf:=by rfl):
  S3 X (.Try [.Assign [.Name x xpos] e XU] [.ExceptHandler (Fa (.Name cn cnp)) (Fa n) [.Assign [.Name x p1] (.Attribute (.Name n p2) fl p3) p4] Zj] [] [] pos) (VR X.K ix i Cc fl te):=
 PS.nX (Qd (th:=OJ (Oq X.K (F7 i) fl) (JC ix)) (Pj hN Z7 (.inl hx) he Zh (.inr hx)) Yf hL hg hm hN hi hk (λev E'=>EL (MK (X:=X.marked ev E') (te:=Oq X.K (F7 i) fl) hN Z7 (.inl hx) (Pu (X:=X.marked ev E') (Ls (X:=X.marked ev E') hi (.inl hk) hd YR) hab) hsw2 (.inr hx))) Yd) λD' Y H hl ⟨U,M,D,hs,hm,⟨R,ht,hh⟩,k1,k2,k3,k4⟩=>by
  refine⟨λH1=>qY X.K H H1,λcv d H'=>∃C M' y,cv=.ref C/\HM X.K H' M'/\Vv X.K H' d y/\R C y M',⟨U,M,_,R,hs,hm,ht,λv H1 d M1 hd XT e1 q1=>?_,λ_ z=>z,λC dx H' M' y h1 h0 h2=>⟨C,M',y,Z',h1,h0,h2⟩⟩,λC dx H1 H' jH tk ⟨C',M',y,ec,Zi,ZI,r⟩=>?_⟩
  .exact k1 _ H1 _ M1 ((hs.mono e1).set hd (by rw[hl];exact(cX.mp Z7).1)) XT e1 (by simp) q1
  .cases ec;obtain⟨r1,c,z,ey,q⟩:=hh C y M' r;rcases ZI with⟨_,z⟩|⟨d,f,z',v,ed,ez,hd,hv⟩
   .rw[ey]at z;cases z
   .rw[ey]at ez;cases ez;have hiσ:i<Y.length:=by rw[hl];exact(cX.mp hi).1
    refine⟨d,ed,r1,λa na=>⟨.ref a,by rw[eM hiσ],a,C,d,v,Z',qw,?_,c,?_,?_⟩⟩
    .rw[qh]
     .exact hd
     .intro z;rw[z,na]at hd;cases hd
    .rw[hv.str_inv];rfl
    .have e1:qY X.K H H':=jH.trans (L2.TKept.ext tk);have e2:qY X.K H' (upd H' a (.ext (KA a C d))):=.new na;have s1:=(hs.mono (e1.trans e2)).set (i:=ix) (hv.mono e2) (by rw[hl];exact(cX.mp Z7).1);have s2:=s1.unset (i:=i);refine k1 _ _ _ M' ?_ (Zi.add na) (e1.trans e2) (by simp) q;rw[List.set_comm _ _ Yc.symm,iT];exact s2
end L3
namespace L2
variable {prog:Pg}{w:Wo}{A:Ar}{E:QQX}{s:Sd}
theorem Ee{it t:Uf}{XS:Array Vl}(Yc:t≠it):∀(n i:Nat) (s:Sd) (Q:T0 Vl->Sd->Prop),s.heap.IsListIter it t i->s.heap.IsList t XS->i+n<=XS.size->
  (∀h',h'.IsListIter it t (i+n)->Heap.SameBut it s.heap h'->Q ((XS.toList.drop i).take n) {s with heap:=h'})->pi (Tk prog w) A (draw (.ref it) n) Q E s
 | 0,i,s,Q,hit,_,_,hQ=>by show pi _ _ (pure []) Q E s;exact df (by simpa using hQ s.heap hit (Heap.SameBut.refl ..))
 | n+1,i,s,Q,hit,ht,hle,hQ=>by
  have X2:i<XS.size:=by omega
  show pi _ _ (pyNext (.ref it)>>=_) Q E s;refine cU (j3 hit ht (x:=XS[i]) (by simp[X2]) λh₁ hit₁ hs₁=>?_);refine cU (eB (Ee Yc n (i+1) _ _ hit₁ (ht.extBut hs₁.extBut Yc) (by omega) λh₂ hit₂ hs₂=>df ?_));have hd:XS.toList.drop i=XS[i]::XS.toList.drop (i+1):=by simp[gJ,X2]
  have:=hQ h₂ (by rw[show i+(n+1)=i+1+n by omega];exact hit₂) (hs₁.trans hs₂);rw[hd,List.take_succ_cons]at this;exact this
def AB{t:Uf}{XS:Array Vl}{Q:T0 Vl->Sd->Prop}(hh:A.handled=Db)(ht:s.heap.IsList t XS) (hQ:∀h',Heap.ExtBut s.heap.objs.size s.heap h'->Q XS.toList {s with heap:=h'}):pi (Tk prog w) A (unpackItems (.ref t) XS.size Db) Q E s:=by
 have X2:t≠s.heap.objs.size:=by obtain⟨o,ho,_⟩:=ht;exact dE (dv ho)
 unfold unpackItems;refine cU ?_
 .unfold notIterableAtAll;refine cU (iQ ht.typeIs slot_list_iter.lookup ?_);refine df ?_;simp only[iu,jf];refine cU (eB (gF ht ?_));refine cU (eB (Ee X2 XS.size 0 _ _ ⟨_,dF _ Z',Z',Z'⟩ (ht.push _) (by omega) λh₁ hit₁ hs₁=>?_));have Yx:List.take XS.size (List.drop 0 XS.toList)=XS.toList:=by rw[ji];exact gX (by simp)
  rw[Yx];rw[cY (by simp)];have ht₁:h₁.IsList t XS:=(ht.push _).extBut hs₁.extBut X2;refine cU (eB (j8 hh hit₁ ht₁ (by simp) λh₂ he₂=>?_));simp only[Option.isSome_none,iu,jf];refine df (hQ h₂ λb o hb e=>he₂ b o hb (hs₁.extBut b o hb (cZ _ e)))
def z9{env:Env}{Yi:T0 Go}{x1}{pos:Pos}{t:Uf}{XS:Array Vl}{Q:Unit->Sd->Prop}(hh:A.handled=Db)(ht:s.heap.IsList t XS) (hn:(At Yi env).length=XS.size) (hstar:(At Yi env).findIdx? (·.1)=Db) (h:∀h',Heap.ExtBut s.heap.objs.size s.heap h'->pi (Tk prog w) A (assignInOrder ((At Yi env).map (·.2)) XS.toList) Q E {s with heap:=h'}):
  pi (Tk prog w) A (assign (.Tuple Yi x1 pos) env (.ref t)) Q E s:=by
 rw[arm_assign_Tuple];refine cU (gP ?_);unfold unpack;rw[hn,hstar];exact cU (eB (AB hh ht h))
end L2
namespace L3
open L2
variable {X:Cx}{pos:Pos}
def RS(n:Nat)(t:Ds):Dv:=λd U M Q=>match d with|.ref a=>(pA M a).elim False λds=>ds.length=n/\t ds U M Q|_=>False
def Qh{t:Ds}{n:Nat}(hc:X.calm=pc)(h:Vr X es t)(hn:(At es X.env).length=n:=by rfl)(Yf:(At es X.env).findIdx? (·.1)=Db:=by rfl):G3 X (.Tuple es k pos) (RS n t):=by
 intro XQ s Y H v u Q' I r ⟨d,U,M,Q,hd,hs,hm,ht,kq⟩;cases d with
 | ref a=>
  obtain⟨ds,e,hl,ht⟩:=rc ht;cases hd.mO;cases r;obtain⟨xs,h1,h2,_⟩:=qD hm e;obtain⟨its,rv,pl,hz⟩:=I.list h1;have hx:xs.length=n:=by rw[<-hl];exact h2.length.symm
  refine z9 (I.ok.hd hc) pl.isList (by simp[hn,<-hx,rv.length]) Yf λh' hx=>?_;have I1:Inv X XQ Y H {s with heap:=h'}:=I.kept (t':=s.toks) λb o e=>hx b o (dE (dv e)) e;exact h XQ _ Y H xs _ Q' I1 (by simpa using rv) ⟨ds,U,M,Q,h2,hs,hm,ht,kq⟩
 | _=>exact ht.elim
end L3
namespace L3
open L2
def Kz(i:Nat){X:Cx}{pos:Pos}{x:Str}(h1:X.N[i]?=Fa x:=by rfl)(h2:R9 X.env.scope x:=by first|exact Or.inl Z'|exact Or.inr (Or.inl Z')|exact Or.inr (Or.inr Z'))(h3:zb x:=by decide)(h4:(x==("__classdict__":Str))=lf:=by decide):E3 X (.Name x pos) (v3 i):=TC i (pv i h1 h2 h3 h4)
variable {X:Cx}{pos:Pos}
def XI{N:QQQ}(h:decide N.Nodup=pc):N.Nodup:=fP h
def pX(i:Nat){x:Str}{e:Go}{te:T3}{X0:Pos}{ps:QQQ}{sc:XXd}(S:tM X.N ps sc)(he:E3 X e te)(hi:X.N[i]?=Fa x:=by rfl)(hx:Ll X.env.scope x:=by first|exact Or.inl Z'|exact Or.inr Z')(Zh:sB e (Fa (.Name x X0)) pos.line X.env=pure lf:=by rfl)(hf:Lm X x:=by first|exact .inl Z'|exact .inr Z'|assumption):S3 X (.Assign [.Name x X0] e pos) (GS te (tE i)):=Ti S.nd hi hx he Zh hf
def sd(i:Nat){x:Str}{ps:QQQ}{sc:XXd}(S:tM X.N ps sc)(hi:X.N[i]?=Fa x:=by rfl)(hx:Ll X.env.scope x:=by first|exact Or.inl Z'|exact Or.inr Z')(hf:Lm X x:=by first|exact .inl Z'|exact .inr Z'|assumption):G3 X (.Name x pos) (tE i):=J6 S.nd hi hx hf
def qN(i:Nat){x:Str}(hN:decide X.N.Nodup=pc:=by kernel_rfl)(hi:X.N[i]?=Fa x:=by rfl)(hx:Ll X.env.scope x:=by first|exact Or.inl Z'|exact Or.inr Z')(hf:Lm X x:=by first|exact .inl Z'|exact .inr Z'|assumption):G3 X (.Name x pos) (tE i):=J6 (XI hN) hi hx hf
abbrev Sc(n:Nat)(N:QQQ)(s:TD):=tM N (N.take n) (qv s)
def sk{n:Nat}{s:TD}(h:TR N (N.take n) (qv s)=pc:=by decide+kernel):Sc n N s:=Xx h
def qA(h0:E3 X e0 t0)(g0:Tl [e0] X.env=(lf,wp e0 X.env)::Tl [] X.env:=by rfl):A3 X [e0] (vL t0 x9):=(qp h0 tL g0)
def sE(h0:E3 X e0 t0)(h1:E3 X e1 t1)(g0:Tl [e0,e1] X.env=(lf,wp e0 X.env)::Tl [e1] X.env:=by rfl)(g1:Tl [e1] X.env=(lf,wp e1 X.env)::Tl [] X.env:=by rfl):A3 X [e0,e1] (vL t0 (vL t1 x9)):=(qp h0 (qp h1 tL g1) g0)
def rF(h0:E3 X e0 t0)(h1:E3 X e1 t1)(h2:E3 X e2 t2)(g0:Tl [e0,e1,e2] X.env=(lf,wp e0 X.env)::Tl [e1,e2] X.env:=by rfl)(g1:Tl [e1,e2] X.env=(lf,wp e1 X.env)::Tl [e2] X.env:=by rfl)(g2:Tl [e2] X.env=(lf,wp e2 X.env)::Tl [] X.env:=by rfl):A3 X [e0,e1,e2] (vL t0 (vL t1 (vL t2 x9))):=(qp h0 (qp h1 (qp h2 tL g2) g1) g0)
abbrev v0:=@Kz 0
abbrev U1:=@Kz 1
abbrev U2:=@Kz 2
abbrev U3:=@Kz 3
abbrev v5:=@Kz 5
abbrev v4:=@Kz 4
abbrev v6:=@Kz 6
abbrev v7:=@Kz 7
abbrev v8:=@Kz 8
abbrev v9:=@Kz 9
abbrev V4:=@Kz 10
abbrev Wk:=@Kz 11
abbrev Wj:=@Kz 12
variable {P:Pg}{w:Wo}{K:qC}{mg:QQZ}{base:No}
def fq{st:TD}{sp:rH}(F:DG K st x qual ps fa)(S:tM N ps (qv st)) (hb:∀{X1:Vl} {A:Ar} {outer:T0 Env} {s:Sd} {H:Hp} {E:XK},sA k (A.deeper (dL qual (qv st) s.heap.objs.size fa.f X1))->(A.deeper (dL qual (qv st) s.heap.objs.size fa.f X1)).units+9<Y'->
   ∃t,IP (vG OB P w K mg base N qual (qv st) fa.f X1 A outer s H E).oB (r6 st) t/\∀ds M Q,sp ds M Q->t {nx:=λ_ M'=>∃XX,qF XX M'/\Q .mS XX,rt:=λd M'=>∃XX,qF XX M'/\Q d XX} (xg N ds) M) (len:∀ds M Q,sp ds M Q->ds.length=ps.length:=by walk_at "l"):Fq P w K mg base (k+1) fa sp:=WT F S len λ_ _ _ _ _ _ h=>hb h (Xl h)
def xD{X:Cx}(h:IK X.env.scope X.N scope ix N'=pc:=by kernel_rfl):sF X scope ix N':=Vj h
end L3
namespace Z
section
open L2 L3
def rC(i:Nat):TD:=PySem.Challenge.pw_callboard_k46_whole_off_is_as_none.main.body.getD i (.Pass ⟨0,0,0,0⟩)
abbrev tm(i j:Nat):TD:=Py (rC i) j
def B4:Sc 3 ["board","caller","target","wishes"] (rC 5):=sk
def tQ:Sc 3 ["board","caller","target","free","members","place","in_turn"] (rC 6):=sk
def vj:Sc 3 ["board","caller","target","phones"] (rC 7):=sk
def Av:Sc 2 ["wanted","target"] (rC 8):=sk
def wO:Sc 4 ["board","caller","target","way","come_to","steps","fits","wanted"] (rC 9):=sk
def y0:Sc 2 ["board","phone"] (rC 11):=sk
def wB:Sc 3 ["board","phone","target","word"] (rC 12):=sk
def Ox:Sc 3 ["word","phone","calls"] (rC 13):=sk
def ue:Sc 4 ["board","word","phone","numbers","calls","due"] (rC 14):=sk
def zi:Sc 3 ["board","word","number"] (rC 15):=sk
def CY:Sc 2 ["board","deed","word"] (rC 16):=sk
def uj:Sc 3 ["board","number","steps","last","target","fits"] (rC 17):=sk
def uS:Sc 4 ["board","number","target","phones","members","place"] (rC 18):=sk
def yi:Sc 3 ["board","number","target","talk","members"] (rC 19):=sk
def xY:Sc 3 ["board","number","end","word"] (rC 20):=sk
def wK:Sc 2 ["board","number","call","told","end","steps","last"] (rC 21):=sk
def zK:Sc 3 ["board","phone","target","number"] (rC 22):=sk
def B7:Sc 3 ["board","phone","number","call"] (rC 23):=sk
def yI:Sc 2 ["board","call","wishes"] (rC 24):=sk
def BP:Sc 3 ["board","number","fits","wish"] (rC 25):=sk
def tX:Sc 1 ["board","number","call","fits"] (rC 26):=sk
def tS:Sc 2 ["board","deed","word","phone","number","call","kept","others"] (rC 27):=sk
def Lv:Sc 2 ["board","deed","word"] (rC 28):=sk
def HR:Sc 2 ["board","deed","word","begun"] (rC 29):=sk
def AD:Sc 1 ["answers"] (rC 31):=sk
def GG:Sc 2 ["call","word"] (rC 33):=sk
def De:Sc 2 ["call","phone"] (rC 34):=sk
def xZ:Sc 2 ["call","event","word"] (rC 35):=sk
def xw:Sc 1 ["call","lists"] (rC 37):=sk
def Cd:Sc 1 ["board","calls"] (rC 38):=sk
def IT:Sc 3 ["board","caller","target"] (rC 40):=sk
def Cz:Sc 1 ["told","word"] (rC 51):=sk
def Q4:Sc 2 ["holds","words"] (rC 66):=sk
def Iy:Sc 1 ["text"] (rC 67):=sk
def Di:Sc 1 ["things"] (rC 68):=sk
def F0:Sc 3 ["chosen","known","most"] (rC 69):=sk
def ur:Sc 1 ["phones","name","lines","rank"] (rC 70):=sk
def uo:Sc 2 ["groups","phone_names","name","manner","members"] (rC 71):=sk
def DL:Sc 4 ["kind","part","phone_names","names"] (rC 72):=sk
def ui:Sc 3 ["wish","phone_names","names","form","parts","kind","part"] (rC 73):=sk
def vg:Sc 3 ["wishes","phone_names","names","on","wish"] (rC 74):=sk
def wc:Sc 3 ["phones","groups","wishes","phone_names","names"] (rC 75):=sk
def KU:Sc 2 ["_law_script","_law_k"] (rC 78):=sk
def Gs:Sc 3 ["_law_cell","_law_factor","_law_many"] (rC 79):=sk
def uA:Sc 2 ["_law_seed","_law_which","_law_letters","_law_size","_law_place","_law_rest","_law_letter"] (rC 80):=sk
def yh:Sc 3 ["_law_row","_law_cell","_law_most","_law_first","_law_size"] (rC 81):=sk
def uX:Sc 2 ["_law_seed","_law_most","_law_phones_here","_law_k","_law_lines"] (rC 82):=sk
def uZ:Sc 2 ["_law_seed","_law_own","_law_groups_here","_law_g","_law_manner"] (rC 83):=sk
def tU:Sc 3 ["_law_cell","_law_own","_law_names_here","_law_a","_law_place","_law_b","_law_c","_law_pick","_law_first"] (rC 84):=sk
def sJ:Sc 2 ["_law_script","_law_most","_law_seed","_law_phones_here","_law_own","_law_groups_here","_law_names_here","_law_wishes","_law_k","_law_cell"] (rC 85):=sk
def DD:Sc 1 ["_law_call"] (rC 86):=sk
def Br:Sc 2 ["_law_board","_law_states"] (rC 87):=sk
def rO:Sc 4 ["_law_board","_law_cell","_law_word_here","_law_states","_law_some_here","_law_k","_law_people_here","_law_a","_law_m"] (rC 88):=sk
def uW:Sc 4 ["_law_cell","_law_own","_law_names_here","_law_many","_law_a","_law_b","_law_k","_law_m","_law_some_here"] (rC 89):=sk
def rR:Sc 4 ["_law_board","_law_cell","_law_own","_law_names_here","_law_word_here","_law_states","_law_found","_law_a"] (rC 90):=sk
def zy:Sc 1 ["_law_board","_law_own"] (rC 92):=sk
def ya:Sc 2 ["_law_board","_law_deed_here","_law_told","e"] (rC 93):=sk
def Gh:Sc 1 ["_law_events"] (rC 94):=sk
def uR:Sc 1 ["_law_script","_law_phones_here","_law_groups_here","_law_wishes","_law_hour","_law_board","_law_other","_law_own","_law_names_here","_law_cell","_law_deed_here","_law_told","_law_found"] (rC 95):=sk
def Cb:Sc 2 ["self","word"] (tm 3 0):=sk
def DI:Sc 3 ["self","plan","hour"] (tm 36 0):=sk
def ER:Sc 4 ["self","phones","groups","wishes"] (tm 76 0):=sk
def Ge:Sc 2 ["self","told"] (tm 42 0):=sk
def FV:Sc 2 ["self","told"] (tm 43 0):=sk
def Bo:Sc 2 ["self","told"] (tm 44 0):=sk
def Dg:Sc 2 ["self","told"] (tm 46 0):=sk
def C4:Sc 2 ["self","told"] (tm 48 0):=sk
def Fk:Sc 2 ["self","told"] (tm 49 0):=sk
def CL:Sc 2 ["self","told"] (tm 50 0):=sk
def Al:Sc 2 ["self","phone"] (tm 36 3):=sk
def E1:Sc 2 ["self","told"] (tm 41 0):=sk
def yD:Sc 1 ["self"] (tm 76 2):=sk
def xP:Sc 2 ["self","event","word"] (tm 36 12):=sk
def Dj:Sc 1 ["self"] (tm 76 1):=sk
def Ah:Sc 2 ["self","phone"] (tm 36 2):=sk
def FH:Sc 2 ["self","caller"] (tm 32 0):=sk
def zm:Sc 2 ["self","phone"] (tm 32 2):=sk
def yQ:Sc 2 ["self","phone"] (tm 32 5):=sk
def yG:Sc 2 ["self","phone"] (tm 32 4):=sk
def Aj:Sc 2 ["self","leg"] (tm 36 10):=sk
def ye:Sc 4 ["self","merged","kept","members","call"] (tm 36 11):=sk
def vC:Sc 1 ["self","call"] (tm 36 9):=sk
def zc:Sc 2 ["self","phone"] (tm 32 8):=sk
def C7:Sc 2 ["self","phone"] (tm 36 4):=sk
def AG:Sc 2 ["self","phone"] (tm 36 5):=sk
def DJ:Sc 2 ["self","phone"] (tm 36 1):=sk
def DE:Sc 2 ["self","phone"] (tm 76 3):=sk
def w9:Sc 2 ["self","phone"] (tm 32 7):=sk
def Dm:Sc 2 ["self","phone"] (tm 32 6):=sk
def Cj:Sc 2 ["self","call"] (tm 41 4):=sk
def AC:Sc 2 ["self","call"] (tm 48 2):=sk
def FT:Sc 1 ["self"] (tm 41 1):=sk
def DF:Sc 2 ["self","phone"] (tm 32 3):=sk
def GW:Sc 2 ["self","phone"] (tm 32 1):=sk
def F5:Sc 1 ["self"] (tm 42 1):=sk
def DC:Sc 1 ["self"] (tm 43 1):=sk
def AJ:Sc 1 ["self"] (tm 44 1):=sk
def Dx:Sc 1 ["self"] (tm 49 1):=sk
def A6:Sc 1 ["self"] (tm 50 1):=sk
def GQ:Sc 4 ["self","board","caller","target"] (tm 42 2):=sk
def E4:Sc 4 ["self","board","caller","target"] (tm 43 2):=sk
def BV:Sc 4 ["self","board","caller","target"] (tm 45 0):=sk
def Dh:Sc 4 ["self","board","caller","target"] (tm 46 2):=sk
def Ft:Sc 4 ["self","board","caller","target"] (tm 47 0):=sk
def CJ:Sc 4 ["self","board","caller","target"] (tm 48 1):=sk
def FK:Sc 4 ["self","board","caller","target"] (tm 49 2):=sk
def vJ:Sc 4 ["self","board","caller","target","talk","members"] (tm 50 3):=sk
def CP:Sc 2 ["self","name"] (tm 76 6):=sk
def zq:Sc 2 ["self","name"] (tm 76 5):=sk
def zS:Sc 2 ["self","hour"] (tm 46 1):=sk
def zO:Sc 1 ["self"] (tm 36 8):=sk
def zw:Sc 2 ["self","phone"] (tm 36 6):=sk
def vA:Sc 3 ["self","plan","members","rank"] (tm 50 2):=sk
def zr:Sc 3 ["self","caller","target"] (tm 36 7):=sk
def Fy:Sc 2 ["self","phone"] (tm 76 4):=sk
noncomputable def Lh:T0 (Str×QQQ):=[("bar",["phone","names"]),("shut",["name","phones"]),("always",["name","name"]),("night",["name","name","hour","hour"]),("busy",["name","name"]),("silent",["name","name","turns"]),("wait",["phone"]),("breaks",["phone"])]
set_option genInjectivity false in
structure Ad where
 (aQ aR aS aT aU ab aV aW aX aY aZ a0 a1 a2 a3 ac a4 a5 a6 a7 a8 a9 ba J L ad bb bc bd ae M be m af ag N bf bg bh bi bj bk O i ah P bl bm bn bo bp bq br bs bt bu ai aj ak I Q R al am B an ao ap aq S F T k bv U ar V au X bw bx bz av bA bB bC bD bE aw q ax l bF bG ay az A aA aB aC aD aE aF aG aH aI aJ aK Y bH bI bJ bK aL aM:FA)
 (e c C r t Z w n x u v o h b4 H:Uf)
structure Gl(K:qC)(mg:QQZ)(a:Ad):Prop where
 e:CG K mg "Call" a.e
 c:CG K mg "Board" a.c
 C:CG K mg "Wish" a.C
 r:CG K mg "Bar" a.r
 t:CG K mg "Shut" a.t
 Z:CG K mg "Forward" a.Z
 w:CG K mg "Always" a.w
 n:CG K mg "Night" a.n
 x:CG K mg "Busy" a.x
 u:CG K mg "Silent" a.u
 v:CG K mg "Wait" a.v
 o:CG K mg "Breaks" a.o
 h:CG K mg "Plan" a.h
 cS:mg "CallError"=Fa (.ref a.b4)
 bT:mg "NoDeed"=Fa (.ref a.H)
 aQ:TG K mg (rC 5) "fitting" ["board","caller","target"] a.aQ
 aR:TG K mg (rC 6) "rung_phones" ["board","caller","target"] a.aR
 aS:TG K mg (rC 7) "end_without_wish" ["board","caller","target"] a.aS
 aT:TG K mg (rC 8) "end_as_wanted" ["wanted","target"] a.aT
 aU:TG K mg (rC 9) "route" ["board","caller","target","way"] a.aU
 ab:TG K mg (rC 11) "word_for_idling" ["board","phone"] a.ab
 aV:TG K mg (rC 12) "word_for_call" ["board","phone","target"] a.aV
 aW:TG K mg (rC 13) "suits" ["word","phone","calls"] a.aW
 aX:TG K mg (rC 14) "word_for_numbers" ["board","word","phone","numbers"] a.aX
 aY:TG K mg (rC 15) "word_for_switch" ["board","word","number"] a.aY
 aZ:TG K mg (rC 16) "refusal" ["board","deed"] a.aZ
 a0:TG K mg (rC 17) "take_steps" ["board","number","steps"] a.a0
 a1:TG K mg (rC 18) "start_ringing" ["board","number","target","phones"] a.a1
 a2:TG K mg (rC 19) "break_in" ["board","number","target"] a.a2
 a3:TG K mg (rC 20) "come_to_end" ["board","number","end"] a.a3
 ac:TG K mg (rC 21) "go_on" ["board","number"] a.ac
 a4:TG K mg (rC 22) "make_call" ["board","phone","target"] a.a4
 a5:TG K mg (rC 23) "hang_up" ["board","phone","number"] a.a5
 a6:TG K mg (rC 24) "due_wishes" ["board","call"] a.a6
 a7:TG K mg (rC 25) "send_on" ["board","number","fits"] a.a7
 a8:TG K mg (rC 26) "let_turn_pass" ["board"] a.a8
 a9:TG K mg (rC 27) "event_of" ["board","deed"] a.a9
 ba:TG K mg (rC 28) "act" ["board","deed"] a.ba
 J:TG K mg (rC 29) "do" ["board","deed"] a.J
 L:TG K mg (rC 31) "place_of_true" ["answers"] a.L
 ad:TG K mg (rC 33) "end_call" ["call","word"] a.ad
 bb:TG K mg (rC 34) "drop_phone" ["call","phone"] a.bb
 bc:TG K mg (rC 35) "change_call" ["call","event"] a.bc
 bd:TG K mg (rC 37) "call_picture" ["call"] a.bd
 ae:TG K mg (rC 38) "picture" ["board"] a.ae
 M:TG K mg (rC 40) "is_busy" ["board","caller","target"] a.M
 be:TG K mg (rC 51) "wish_of" ["told"] a.be
 m:TG K mg (rC 66) "need" ["holds","words"] a.m
 af:TG K mg (rC 67) "is_name" ["text"] a.af
 ag:TG K mg (rC 68) "all_unlike" ["things"] a.ag
 N:TG K mg (rC 69) "is_choice" ["chosen","known","most"] a.N
 bf:TG K mg (rC 70) "check_phones" ["phones"] a.bf
 bg:TG K mg (rC 71) "check_groups" ["groups","phone_names"] a.bg
 bh:TG K mg (rC 72) "part_holds" ["kind","part","phone_names","names"] a.bh
 bi:TG K mg (rC 73) "check_wish" ["wish","phone_names","names"] a.bi
 bj:TG K mg (rC 74) "check_wishes" ["wishes","phone_names","names"] a.bj
 bk:TG K mg (rC 75) "check_plan" ["phones","groups","wishes"] a.bk
 O:TG K mg (rC 78) "_law_at" ["_law_script","_law_k"] a.O
 i:TG K mg (rC 79) "_law_draw" ["_law_cell","_law_factor","_law_many"] a.i
 ah:TG K mg (rC 80) "_law_word" ["_law_seed","_law_which"] a.ah
 P:TG K mg (rC 81) "_law_some" ["_law_row","_law_cell","_law_most"] a.P
 bl:TG K mg (rC 82) "_law_phones" ["_law_seed","_law_most"] a.bl
 bm:TG K mg (rC 83) "_law_groups" ["_law_seed","_law_own"] a.bm
 bn:TG K mg (rC 84) "_law_wish" ["_law_cell","_law_own","_law_names_here"] a.bn
 bo:TG K mg (rC 85) "_law_plan" ["_law_script","_law_most"] a.bo
 bp:TG K mg (rC 86) "_law_people" ["_law_call"] a.bp
 bq:TG K mg (rC 87) "_law_of_state" ["_law_board","_law_states"] a.bq
 br:TG K mg (rC 88) "_law_on_call" ["_law_board","_law_cell","_law_word_here","_law_states"] a.br
 bs:TG K mg (rC 89) "_law_any" ["_law_cell","_law_own","_law_names_here","_law_many"] a.bs
 bt:TG K mg (rC 90) "_law_deed" ["_law_board","_law_cell","_law_own","_law_names_here"] a.bt
 bu:TG K mg (rC 92) "_law_names" ["_law_board"] a.bu
 ai:TG K mg (rC 93) "_law_done" ["_law_board","_law_deed_here"] a.ai
 aj:TG K mg (rC 94) "_law_less" ["_law_events"] a.aj
 ak:TG K mg (rC 95) "law" ["_law_script"] a.ak
 I:MG K a.H (tm 3 0) "__init__" "NoDeed.__init__" ["self","word"] a.I
 Q:MG K a.c (tm 36 0) "__init__" "Board.__init__" ["self","plan","hour"] a.Q
 R:MG K a.h (tm 76 0) "__init__" "Plan.__init__" ["self","phones","groups","wishes"] a.R
 al:MG K a.r (tm 42 0) "__init__" "Bar.__init__" ["self","told"] a.al
 am:MG K a.t (tm 43 0) "__init__" "Shut.__init__" ["self","told"] a.am
 B:MG K a.Z (tm 44 0) "__init__" "Forward.__init__" ["self","told"] a.B
 an:MG K a.n (tm 46 0) "__init__" "Night.__init__" ["self","told"] a.an
 ao:MG K a.u (tm 48 0) "__init__" "Silent.__init__" ["self","told"] a.ao
 ap:MG K a.v (tm 49 0) "__init__" "Wait.__init__" ["self","told"] a.ap
 aq:MG K a.o (tm 50 0) "__init__" "Breaks.__init__" ["self","told"] a.aq
 S:MG K a.c (tm 36 3) "talk_of" "Board.talk_of" ["self","phone"] a.S
 F:MG K a.C (tm 41 0) "__init__" "Wish.__init__" ["self","told"] a.F
 T:MG K a.h (tm 76 2) "phone_names" "Plan.phone_names" ["self"] a.T
 k:MG K a.c (tm 36 12) "apply" "Board.apply" ["self","event"] a.k
 bv:MG K a.h (tm 76 1) "names" "Plan.names" ["self"] a.bv
 U:MG K a.c (tm 36 2) "is_free" "Board.is_free" ["self","phone"] a.U
 ar:MG K a.e (tm 32 0) "__init__" "Call.__init__" ["self","caller"] a.ar
 V:MG K a.e (tm 32 2) "talks_with" "Call.talks_with" ["self","phone"] a.V
 au:MG K a.e (tm 32 5) "waits_with" "Call.waits_with" ["self","phone"] a.au
 X:MG K a.e (tm 32 4) "is_tried_by" "Call.is_tried_by" ["self","phone"] a.X
 bw:MG K a.c (tm 36 10) "add_leg" "Board.add_leg" ["self","leg"] a.bw
 bx:MG K a.c (tm 36 11) "merge" "Board.merge" ["self","merged","kept","members"] a.bx
 bz:MG K a.c (tm 36 9) "pass_turn" "Board.pass_turn" ["self"] a.bz
 av:MG K a.e (tm 32 8) "other_than" "Call.other_than" ["self","phone"] a.av
 bA:MG K a.c (tm 36 4) "bound" "Board.bound" ["self","phone"] a.bA
 bB:MG K a.c (tm 36 5) "calling" "Board.calling" ["self","phone"] a.bB
 bC:MG K a.c (tm 36 1) "used" "Board.used" ["self","phone"] a.bC
 bD:MG K a.h (tm 76 3) "lines" "Plan.lines" ["self","phone"] a.bD
 bE:MG K a.e (tm 32 7) "can_be_left_by" "Call.can_be_left_by" ["self","phone"] a.bE
 aw:MG K a.e (tm 32 6) "pairs" "Call.pairs" ["self","phone"] a.aw
 q:MG K a.C (tm 41 4) "is_due" "Wish.is_due" ["self","call"] a.q
 ax:MG K a.u (tm 48 2) "is_due" "Silent.is_due" ["self","call"] a.ax
 l:MG K a.C (tm 41 1) "told" "Wish.told" ["self"] a.l
 bF:MG K a.e (tm 32 3) "binds" "Call.binds" ["self","phone"] a.bF
 bG:MG K a.e (tm 32 1) "has" "Call.has" ["self","phone"] a.bG
 ay:MG K a.r (tm 42 1) "wants" "Bar.wants" ["self"] a.ay
 az:MG K a.t (tm 43 1) "wants" "Shut.wants" ["self"] a.az
 A:MG K a.Z (tm 44 1) "wants" "Forward.wants" ["self"] a.A
 aA:MG K a.v (tm 49 1) "wants" "Wait.wants" ["self"] a.aA
 aB:MG K a.o (tm 50 1) "wants" "Breaks.wants" ["self"] a.aB
 aC:MG K a.r (tm 42 2) "fits" "Bar.fits" ["self","board","caller","target"] a.aC
 aD:MG K a.t (tm 43 2) "fits" "Shut.fits" ["self","board","caller","target"] a.aD
 aE:MG K a.w (tm 45 0) "fits" "Always.fits" ["self","board","caller","target"] a.aE
 aF:MG K a.n (tm 46 2) "fits" "Night.fits" ["self","board","caller","target"] a.aF
 aG:MG K a.x (tm 47 0) "fits" "Busy.fits" ["self","board","caller","target"] a.aG
 aH:MG K a.u (tm 48 1) "fits" "Silent.fits" ["self","board","caller","target"] a.aH
 aI:MG K a.v (tm 49 2) "fits" "Wait.fits" ["self","board","caller","target"] a.aI
 aJ:MG K a.o (tm 50 3) "fits" "Breaks.fits" ["self","board","caller","target"] a.aJ
 aK:MG K a.h (tm 76 6) "manner" "Plan.manner" ["self","name"] a.aK
 Y:MG K a.h (tm 76 5) "phones_of" "Plan.phones_of" ["self","name"] a.Y
 bH:MG K a.n (tm 46 1) "has_hour" "Night.has_hour" ["self","hour"] a.bH
 bI:MG K a.c (tm 36 8) "hour_now" "Board.hour_now" ["self"] a.bI
 bJ:MG K a.c (tm 36 6) "waits_at" "Board.waits_at" ["self","phone"] a.bJ
 bK:MG K a.o (tm 50 2) "outranks" "Breaks.outranks" ["self","plan","members"] a.bK
 aL:MG K a.c (tm 36 7) "ringable" "Board.ringable" ["self","caller","target"] a.aL
 aM:MG K a.h (tm 76 4) "rank" "Plan.rank" ["self","phone"] a.aM
 b5:JV K a.H a.I.f
 b6:zh K a.H "word"
 b7:Qv K a.H "word"
 b8:W.exmOne K (.ref a.H) (.ref a.H)=Fa pc
 bU:Mk K a.c a.Q.f
 bV:Mk K a.h a.R.f
 b9:Mk K a.r a.al.f
 ca:Mk K a.t a.am.f
 cb:Mk K a.w a.B.f
 cc:Mk K a.n a.an.f
 cd:Mk K a.x a.B.f
 ce:Mk K a.u a.ao.f
 cf:Mk K a.v a.ap.f
 cg:Mk K a.o a.aq.f
 ch:Mk K a.e a.ar.f
 ci:vQ K a.r "is_due" a.q.f
 cj:vQ K a.t "is_due" a.q.f
 ck:vQ K a.w "is_due" a.q.f
 cl:vQ K a.n "is_due" a.q.f
 cm:vQ K a.x "is_due" a.q.f
 cn:vQ K a.v "is_due" a.q.f
 co:vQ K a.o "is_due" a.q.f
 cp:vQ K a.r "told" a.l.f
 cq:vQ K a.t "told" a.l.f
 cr:vQ K a.w "told" a.l.f
 cs:vQ K a.n "told" a.l.f
 ct:vQ K a.x "told" a.l.f
 cu:vQ K a.u "told" a.l.f
 cv:vQ K a.v "told" a.l.f
 cw:vQ K a.o "told" a.l.f
 cx:vQ K a.w "wants" a.A.f
 cy:vQ K a.n "wants" a.A.f
 cz:vQ K a.x "wants" a.A.f
 cA:vQ K a.u "wants" a.A.f
 aN:LV K a.C "__init__" a.F.f
 bW:LV K a.Z "__init__" a.B.f
 E:zL K a.c ["plan","hour","turn","calls","legs","nexts","on","log"]
 aa:zL K a.h ["phones","groups","wishes","on","phone_rows","group_rows"]
 bN:zL K a.r ["form","phone","targets"]
 bO:zL K a.t ["form","target","callers"]
 bP:zL K a.w ["form","target","goal"]
 aO:zL K a.n ["form","target","goal","first","last"]
 bQ:zL K a.x ["form","target","goal"]
 bL:zL K a.u ["form","target","goal","turns"]
 bX:zL K a.v ["form","phone"]
 bY:zL K a.o ["form","phone"]
 j:zL K a.e ["state","caller","way","at","members","holder","since","word"]
 cB:W.kitOne K (.type "str") (.type "str")=Fa pc
 bZ:W.kitOne K (.type "list") (.type "str")=Fa lf
 b0:mg "isinstance"=Db
 b1:mg "str"=Db
 aP:mg "range"=Db
 g:mg "len"=Db
 bR:mg "dict"=Db
 z:mg "list"=Db
 y:mg "tuple"=Db
 cC:mg "sorted"=Db
 cD:mg "min"=Db
 cE:mg "set"=Db
 bM:mg "all"=Db
 cF:mg "zip"=Db
 bS:mg "enumerate"=Db
 cG:mg "any"=Db
 cH:KD K mg "MOST_PHONES" (.int 8)
 cI:KD K mg "MOST_LINES" (.int 3)
 cJ:KD K mg "MOST_RANK" (.int 9)
 cK:KD K mg "MOST_GROUPS" (.int 3)
 cL:KD K mg "MANNERS" (.tup ((["all","turns"]:QQQ).map D.str))
 cM:KD K mg "MOST_MEMBERS" (.int 4)
 cN:KD K mg "MOST_WISHES" (.int 16)
 cO:KD K mg "MOST_SIGNS" (.int 6)
 cP:KD K mg "LETTERS" (.str "abcdefghijklmnopqrstuvwxyz")
 b2:LF K mg "FORMS" Lh
 b3:KD K mg "MOST_LISTED" (.int 6)
 cQ:KD K mg "LAST_HOUR" (.int 23)
 cR:KD K mg "MOST_TURNS" (.int 9)
noncomputable def draw(c f m:Int):Int:=(c % 2147483647+5)*f % 2147483629 / 89 % m
def rh{c f m:Int}(h:0<m):0<=draw c f m:=eU _ (by omega)
def qX{c f m:Int}(h:0<m):draw c f m<m:=eO _ h
def JA:rH:=λds M Q=>C9 λc f m=>ds=[.int c,.int f,.int m]/\0<m/\Q (.int (draw c f m)) M
noncomputable def uJ:Str:="abcdefghijklmnopqrstuvwxyz"
noncomputable def uy(i:Int):Str:=⟨#[97+i.toNat]⟩
noncomputable def size(s:Int):Int:=1+s % 6
def uM(s:Int):Int:=s / 6 % size s
def xR(s v:Int):Str:=yP (uy (s / 36 % 26)) (uM s)++uy ((s / 936+v) % 26)++yP (uy (s / 36 % 26)) (size s - 1 - uM s)
def QR:rH:=λds M Q=>Bs λs v=>ds=[.int s,.int v]/\Q (.str (xR s v)) M
noncomputable def cell(ns:T0 Int)(i:Int):Int:=if 0<=i/\i<ns.length then ns.getD i.toNat 0 else 0
def Vq:rH:=λds M Q=>Bs λns i=>ds=[.rl (ns.map D.int),.int i]/\Q (.int (cell ns i)) M
def GC(c:Int):0<size c:=by unfold size;have:=eU c (show(6:Int)≠0 by decide);omega
def JX(c:Int):size c<=6:=by unfold size;have:=eO c (show(0:Int)<6 by decide);omega
def Hg(i n:Int):(yP (uy i) n).length=n.toNat:=by show((List.replicate n.toNat (uy i).cps).foldl (·++·) #[]:Array Nat).size=n.toNat;rw[Jy];show n.toNat*1=n.toNat;omega
def AL:uJ.length<=Ch:=by decide+kernel
variable {P:Pg}{w:Wo}{K:qC}{mg:QQZ}{base:No}{a:Ad}(G:Gl K mg a)
def qT:Fq P w K mg base 1 a.i JA:=by
 refine fq G.i.toDG Gs (λr u=>⟨_,(pJ (pO (qm (qm (qm (qm (qm (qm v0 pK) pK) U1) pK) pK) U2))),?_⟩)
 rintro ds M Q ⟨c,f,m,rfl,hm,q⟩
 refine⟨by decide,.inl ?_,by decide,⟨by decide,by decide⟩,hm,M,.refl,q⟩;have h1:0<=c % 2147483647:=eU _ (by decide);have h2:c % 2147483647<2147483647:=eO _ (by decide);exact⟨by omega,by omega⟩
def DR{i:Int}(h0:0<=i)(h1:i<26):wQ uJ.cps.toList i=Fa (97+i.toNat):=by
 obtain⟨n,rfl⟩:=eC h0;have hn:n<26:=by omega
 have key:∀n:_root_.Fin 26,wQ uJ.cps.toList ((n.val:Nat):Int)=Fa (97+n.val):=by decide+kernel
 exact key ⟨n,hn⟩
def Ja:Fq P w K mg base 1 a.ah QR:=by
 refine fq G.ah.toDG uA (λr u=>⟨_,(pH (pX 2 uA pL)
 (pH (pX 3 uA (qm pK (qm v0 pK)))
 (pH (pX 4 uA (qm (qm v0 pK) U3))
 (pH (pX 5 uA (pW U2 (qm (qm v0 pK) pK)))
 (pH (pX 6 uA (pW U2 (qm (qm (qm v0 pK) U1) pK)))
 (pJ (pO (qm (qm (qm v5 v4) v6) (qm v5 (qm (qm U3 pK) v4)))))))))),?_⟩)
 rintro ds M Q ⟨c,v,rfl,q⟩
 have hs:=GC c;have hs6:=JX c;have hp0:0<=uM c:=eU _ (by omega);have Zd:uM c<size c:=eO _ hs;have l1:=Hg (c / 36 % 26) (uM c);have l2:=Hg (c / 36 % 26) (size c - 1 - uM c);have hz:=dI;refine⟨by decide,⟨by decide,by decide⟩,hs,⟨by decide,by decide⟩,by decide,AL,pG (DR (eU _ (by decide)) (eO _ (by decide))) ?_⟩;refine⟨⟨by decide,by decide⟩,by decide,AL,pG (DR (eU _ (by decide)) (eO _ (by decide))) ?_⟩;refine⟨⟨?_,?_,?_⟩,?_,⟨?_,?_,?_⟩,?_,M,.refl,q⟩
 .show uM c<4096;omega
 .show -4096<uM c;omega
 .show(1:Nat)<4096;decide
 .show(yP (uy (c / 36 % 26)) (uM c)).length+1<=Ch;omega
 .show size c - 1 - uM c<4096;omega
 .show -4096<size c - 1 - uM c;omega
 .show(1:Nat)<4096;decide
 .show(yP (uy (c / 36 % 26)) (uM c)++uy ((c / 936+v) % 26)).length+(yP (uy (c / 36 % 26)) (size c - 1 - uM c)).length<=Ch;rw[PySem.size_cat];have:(uy ((c / 936+v) % 26)).length=1:=rfl;omega
def Oo:Fq P w K mg base 1 a.O Vq:=by
 refine fq G.O.toDG KU (λr u=>⟨_,(pH (qc (Hb u pK U1 (qe qM Z' G.g qL (qA v0)))
 (pJ (pO (pW v0 U1)))
 pU)
 (pJ (pO pK))),?_⟩)
 rintro ds M Q ⟨ns,i,rfl,q⟩
 refine qS (λh0=>?_) (λh0=>?_)
 .have h0:0<=i:=fP h0;refine qS (λh1=>?_) (λh1=>?_)
  .have h1:i<((ns.map D.int).length:Int):=fP h1;rw[cT]at h1;have hi:i.toNat<ns.length:=by omega
   have e:wQ (ns.map D.int) i=Fa (D.int (ns.getD i.toNat 0)):=by
    obtain⟨n,rfl⟩:=eC h0;have hn:n<ns.length:=by omega
    refine vq ?_;rw[dD,cV hn];simp[hn]
   refine pG e ⟨M,.refl,?_⟩;have:cell ns i=ns.getD i.toNat 0:=by unfold cell;rw[c9 ⟨h0,h1⟩]
   rw[<-this];exact q
  .have h1:¬i<((ns.map D.int).length:Int):=λz=>h1 (dW z);rw[cT]at h1;refine⟨M,.refl,?_⟩;have:cell ns i=0:=by unfold cell;rw[cY (λz=>h1 z.2)]
   rw[<-this];exact q
 .have h0:¬0<=i:=λz=>h0 (dW z);refine⟨M,.refl,?_⟩;have:cell ns i=0:=by unfold cell;rw[cY (λz=>h0 z.1)]
  rw[<-this];exact q
inductive Wi where
 | bar (x:Str) (ns:QQQ)|shut (x:Str) (ns:QQQ)|always (x y:Str)|night (x y:Str) (f l:Int)|busy (x y:Str)|silent (x y:Str) (n:Int)|wait (x:Str)|breaks (x:Str)
abbrev names(ns:QQQ):D:=.tup (ns.map D.str)
noncomputable def Wi.told:Wi->T0 D
 | .bar x ns=>[.str "bar",.str x,names ns]
 | .shut x ns=>[.str "shut",.str x,names ns]
 | .always x y=>[.str "always",.str x,.str y]
 | .night x y f l=>[.str "night",.str x,.str y,.int f,.int l]
 | .busy x y=>[.str "busy",.str x,.str y]
 | .silent x y n=>[.str "silent",.str x,.str y,.int n]
 | .wait x=>[.str "wait",.str x]
 | .breaks x=>[.str "breaks",.str x]
noncomputable def Wi.cls(a:Ad):Wi->Uf
 | .bar _ _=>a.r
 | .shut _ _=>a.t
 | .always _ _=>a.w
 | .night _ _ _ _=>a.n
 | .busy _ _=>a.x
 | .silent _ _ _=>a.u
 | .wait _=>a.v
 | .breaks _=>a.o
noncomputable def Wi.more:Wi->T0 (Str×D)
 | .bar x ns=>[("phone",.str x),("targets",names ns)]
 | .shut x ns=>[("target",.str x),("callers",names ns)]
 | .always x y=>[("target",.str x),("goal",.str y)]
 | .night x y f l=>[("target",.str x),("goal",.str y),("first",.int f),("last",.int l)]
 | .busy x y=>[("target",.str x),("goal",.str y)]
 | .silent x y n=>[("target",.str x),("goal",.str y),("turns",.int n)]
 | .wait x=>[("phone",.str x)]
 | .breaks x=>[("phone",.str x)]
noncomputable def Wi.nO(v:Wi):T0 (Str×D):=("form",.tup v.told)::v.more
abbrev BW(ns:QQQ)(i:Int):Str:=ns.getD i.toNat Str.empty
def xq(row:QQQ)(c m:Int):Nat:=(1+draw c 40692 (if (row.length:Int)<m then(row.length:Int)else m)).toNat
def UW(row:QQQ)(c:Int)(j:Nat):Str:=BW row ((draw c 69621 row.length+(0+(j:Nat))) % row.length)
def vV(row:QQQ)(c m:Int):QQQ:=(List.range (xq row c m)).map (UW row c)
def Ql:rH:=λds M Q=>Cg λr c m row=>ds=[.ref r,.int c,.int m]/\pA M r=Fa (row.map D.str)/\row≠[]/\0<m/\row.length<=64/\Q (names (vV row c m)) M
def JI{row:QQQ}(h:row≠[])(x:Int):wQ (row.map D.str) (x % row.length)=Fa (D.str (BW row (x % row.length))):=by
 have hl:0<row.length:=fA.mpr h;have h0:0<=x % row.length:=eU _ (by omega);have h1:x % row.length<row.length:=eO _ (by omega);obtain⟨n,hn⟩:=eC h0;rw[hn]at h1 ⊢;have Zm:n<row.length:=by omega
 refine vq ?_;rw[dD,cV Zm];simp[BW,Zm]
def yq:Fq P w K mg base 2 a.P Ql:=by
 refine fq G.P.toDG yh (λr u=>⟨_,(pH (pX 3 yh (pT (qT G) r G.i (rF U1 pK (qe qM Z' G.g qL (qA v0)))))
 (pH (pX 4 yh (qm pK (pT (qT G) r G.i (rF U1 pK (qe (SE Z') Z' G.cD Sm (sE U2 (qe qM Z' G.g qL (qA v0))))))))
 (pJ (pO (qx sL Z' G.y sP (qA (qO Z' (xD (ix:=[Db,Fa 0,Fa 3]) (N':=["_law_j","_law_row","_law_first"])) (wJ Z' G.aP (qA v4)) (qN 0) rY (pW U1 (qm (qm U2 v0) (qe qM Z' G.g qL (qA U1))))))))))),?_⟩)
 rintro ds M Q ⟨r,c,m,row,rfl,hl,Yc,hm,h64,q⟩
 have XY:0<row.length:=fA.mpr Yc;have hz:=dI;have el:((row.map D.str).length:Int)=row.length:=by rw[cT]
 refine pG hl ⟨c,69621,_,Z',by rw[el];omega,?_⟩;refine pG hl ⟨c,40692,_,Z',by rw[el];split<;>omega,?_⟩;rw[el];have d0:=rh (c:=c) (f:=40692) (m:=if (row.length:Int)<m then(row.length:Int)else m) (by split<;>omega);have d1:=qX (c:=c) (f:=40692) (m:=if (row.length:Int)<m then(row.length:Int)else m) (by split<;>omega);have d2:draw c 40692 (if (row.length:Int)<m then(row.length:Int)else m)<row.length+1:=by refine Int.lt_of_lt_of_le d1 ?_;split<;>omega
 refine⟨Z',⟨?_,?_⟩,rB (f:=λd=>match d with|.int j=>D.str (BW row ((draw c 69621 row.length+j) % row.length))|_=>.mS) trivial _ [] _ ?_ (λd hd k hk=>?_) λp hp=>?_⟩
 .show -(2 ^ 62)<=1+draw c 40692 (if (row.length:Int)<m then(row.length:Int)else m);omega
 .show 1+draw c 40692 (if (row.length:Int)<m then(row.length:Int)else m)<2 ^ 62;omega
 .rw[cT,eE];show 0+xq row c m<=Ch;unfold xq;omega
 .obtain⟨j,_,rfl⟩:=dB.mp hd;refine pG hl ⟨by rw[el];omega,pG hl ?_⟩;rw[el];exact pG (JI Yc _) hk
 .refine pG (x:=(vV row c m).map D.str) ?_ ⟨M,.new hp,q⟩;unfold pA;rw[qa];show Fa ([]++((List.range (xq row c m)).map λi=>D.int (0+(i:Nat))).map _)=_;rw[dX,dZ];unfold vV;rw[dZ];rfl
def wH(c:Int)(own all:QQQ):Wi:=
 let x:=BW own (draw c 16807 own.length);let pl:=draw c 39373 all.length;let y:=BW all pl;let z:=BW all ((pl+1+draw c 742938285 ((all.length:Int) - 1)) % all.length);let k:=draw c 1226874159 12
 if k=0 then .bar x (vV all c 3)
 else if k=1 then .shut y (vV own c 3)
 else if k=2 then .always y z
 else if k<5 then .night y z (draw c 22695477 24) ((draw c 22695477 24+1+draw c 48271 23) % 24)
 else if k<7 then .busy y z
 else if k<9 then .silent y z ([1,1,2,3,9].getD (draw c 950706376 5).toNat 0)
 else if k=9 then .wait x
 else .breaks x
def QU:rH:=λds M Q=>HA λc o n own all=>ds=[.int c,.ref o,.ref n]/\pA M o=Fa (own.map D.str)/\pA M n=Fa (all.map D.str)/\own≠[]/\2<=all.length/\own.length<=64/\all.length<=64/\Q (.tup (wH c own all).told) M
def IR{row:QQQ}{x:Int}(h0:0<=x)(h1:x<row.length):wQ (row.map D.str) x=Fa (D.str (BW row x)):=by
 obtain⟨n,rfl⟩:=eC h0;have Zm:n<row.length:=by omega
 refine vq ?_;rw[dD,cV Zm];simp[BW,Zm]
def OE:Fq P w K mg base 3 a.bn QU:=by
 refine fq G.bn.toDG tU (λr u=>⟨_,(pH (pX 3 tU (pW U1 (pT (qT G) r G.i (rF v0 pK (qe qM Z' G.g qL (qA U1))))))
 (pH (pX 4 tU (pT (qT G) r G.i (rF v0 pK (qe qM Z' G.g qL (qA U2)))))
 (pH (pX 5 tU (pW U2 v4))
 (pH (pX 6 tU (pW U2 (qm (qm (qm v4 pK) (pT (qT G) r G.i (rF v0 pK (qm (qe qM Z' G.g qL (qA U2)) pK)))) (qe qM Z' G.g qL (qA U2)))))
 (pH (pX 7 tU (pT (qT G) r G.i (rF v0 pK pK)))
 (pH (qc (pS u v7 pK)
 (pJ (pO (pY (rF pL U3 (pT (yq G) r G.P (rF U2 v0 pK))))))
 pU)
 (pH (qc (pS u v7 pK)
 (pJ (pO (pY (rF pL v5 (pT (yq G) r G.P (rF U1 v0 pK))))))
 pU)
 (pH (qc (pS u v7 pK)
 (pJ (pO (pY (rF pL v5 v6))))
 pU)
 (pH (qc (pS u v7 pK)
 (pH (pX 8 tU (pT (qT G) r G.i (rF v0 pK pK)))
 (pJ (pO (pY (qp pL (qp v5 (rF v6 v8 (qm (qm (qm v8 pK) (pT (qT G) r G.i (rF v0 pK pK))) pK))))))))
 pU)
 (pH (qc (pS u v7 pK)
 (pJ (pO (pY (rF pL v5 v6))))
 pU)
 (pH (qc (pS u v7 pK)
 (pJ (pO (pY (qp pL (rF v5 v6 (pW (pY (qp pK (qp pK (rF pK pK pK)))) (pT (qT G) r G.i (rF v0 pK pK))))))))
 pU)
 (pH (qc (pS u v7 pK)
 (pJ (pO (pY (sE pL U3))))
 pU)
 (pJ (pO (pY (sE pL U3)))))))))))))))),?_⟩)
 rintro ds M Q ⟨c,o,n,own,all,rfl,ho,hn,Yc,h2,l1,l2,q⟩
 have XY:0<own.length:=fA.mpr Yc;have hne2:all≠[]:=λz=>by rw[z]at h2;simp at h2
 have e1:((own.map D.str).length:Int)=own.length:=by rw[cT]
 have e2:((all.map D.str).length:Int)=all.length:=by rw[cT]
 have p1:(0:Int)<own.length:=by omega
 have p2:(0:Int)<all.length:=by omega
 have p3:(0:Int)<(all.length:Int) - 1:=by omega
 refine pG ho ⟨c,_,_,Z',by rw[e1];exact p1,?_⟩;rw[e1];refine pG ho (pG (IR (rh p1) (qX p1)) ?_);refine pG hn ⟨c,_,_,Z',by rw[e2];exact p2,?_⟩;rw[e2];refine pG hn (pG (IR (rh p2) (qX p2)) ?_);refine pG hn ⟨c,_,_,Z',by rw[e2];exact p3,?_⟩;rw[e2];refine pG hn ⟨by rw[e2];exact p2,?_⟩;rw[e2];refine pG hn (pG (JI hne2 _) ?_);refine⟨c,_,_,Z',by decide,?_⟩;have XW:∀t:T0 D,(wH c own all).told=t->∃XX,qF XX M/\Q (.tup t) XX:=λt e=>⟨M,.refl,e ▸ q⟩;have k0:0<=draw c 1226874159 12:=rh (by decide);refine qS (λh=>?_) (λh=>?_)
 .have h:draw c 1226874159 12=0:=by simpa using h
  refine⟨n,c,3,all,Z',hn,hne2,by decide,l2,pE Z',XW _ ?_⟩;simp only[wH,c9 h,Wi.told]
 have h:¬draw c 1226874159 12=0:=by simpa using h
 refine qS (λg=>?_) (λg=>?_)
 .have g:draw c 1226874159 12=1:=by simpa using g
  refine⟨o,c,3,own,Z',ho,Yc,by decide,l1,pE Z',XW _ ?_⟩;simp only[wH,cY h,c9 g,Wi.told]
 have g:¬draw c 1226874159 12=1:=by simpa using g
 refine qS (λi=>?_) (λi=>?_)
 .have i:draw c 1226874159 12=2:=by simpa using i
  refine⟨pE Z',XW _ ?_⟩;simp only[wH,cY h,cY g,c9 i,Wi.told]
 have i:¬draw c 1226874159 12=2:=by simpa using i
 refine qS (λj=>?_) (λj=>?_)
 .have j:draw c 1226874159 12<5:=fP j;refine⟨c,_,_,Z',by decide,c,_,_,Z',by decide,by decide,pE Z',XW _ ?_⟩;simp only[wH,cY h,cY g,cY i,c9 j,Wi.told]
 have j:¬draw c 1226874159 12<5:=λz=>j (dW z);refine qS (λl=>?_) (λl=>?_)
 .have l:draw c 1226874159 12<7:=fP l;refine⟨pE Z',XW _ ?_⟩;simp only[wH,cY h,cY g,cY i,cY j,c9 l,Wi.told]
 have l:¬draw c 1226874159 12<7:=λz=>l (dW z);refine qS (λm=>?_) (λm=>?_)
 .have m:draw c 1226874159 12<9:=fP m;have d0:0<=draw c 950706376 5:=rh (by decide);have d1:draw c 950706376 5<5:=qX (by decide);have e:wQ [D.int 1,.int 1,.int 2,.int 3,.int 9] (draw c 950706376 5)=Fa (D.int ([1,1,2,3,9].getD (draw c 950706376 5).toNat 0)):=by
   obtain⟨t,ht⟩:=eC d0;rw[ht]at d1 ⊢;have:t<5:=by omega
   match t,this with
   | 0,_=>rfl
   | 1,_=>rfl
   | 2,_=>rfl
   | 3,_=>rfl
   | 4,_=>rfl
  refine⟨pE Z',c,_,_,Z',by decide,pG e ⟨pE Z',XW _ ?_⟩⟩;simp only[wH,cY h,cY g,cY i,cY j,cY l,c9 m,Wi.told]
 have m:¬draw c 1226874159 12<9:=λz=>m (dW z);refine qS (λr=>?_) (λr=>?_)
 .have r:draw c 1226874159 12=9:=by simpa using r
  refine⟨pE Z',XW _ ?_⟩;simp only[wH,cY h,cY g,cY i,cY j,cY l,cY m,c9 r,Wi.told]
 have r:¬draw c 1226874159 12=9:=by simpa using r
 refine⟨pE Z',XW _ ?_⟩;simp only[wH,cY h,cY g,cY i,cY j,cY l,cY m,cY r,Wi.told]
def Nl(K:qC):rH:=λds M Q=>C9 λp d C=>ds=[.ref p,d]/\M p=Fa (.ins C [])/\ux K C "form"/\Q .mS (pP M p (.ins C [("form",d)]))
def Lw(K:qC):rH:=λds M Q=>HA λp t x y C=>ds=[.ref p,.tup t]/\wQ t 1=Fa x/\wQ t 2=Fa y/\M p=Fa (.ins C [])/\ux K C "form"/\ux K C "target"/\ux K C "goal"/\Q .mS (pP M p (.ins C [("form",.tup t),("target",x),("goal",y)]))
def yu(a:Ad)(k:Wi->Prop):rH:=λds M Q=>Bs λp v=>ds=[.ref p,.tup (Wi.told v)]/\k v/\M p=Fa (.ins (v.cls a) [])/\Q .mS (pP M p (.ins (v.cls a) v.nO))
def yg:Fq P w K mg base 1 a.F (Nl K):=by
 refine fq G.F.toDG E1 (λr u=>⟨_,(pJ (qu v0 U1)),?_⟩)
 rintro ds M Q ⟨p,d,C,rfl,hp,na,q⟩
 exact pI hp ⟨na,by decide,_,.refl,q⟩
def zD:Fq P w K mg base 2 a.B (Lw K):=by
 refine fq G.B.toDG Bo (λr u=>⟨_,(pH (pZ (yV G.aN (yg G) r G.C G.F.toDG (sE v0 U1)))
 (pH (qu v0 (pW U1 pK))
 (pJ (qu v0 (pW U1 pK))))),?_⟩)
 rintro ds M Q ⟨p,t,x,y,C,rfl,e1,e2,hp,n1,n2,n3,q⟩
 refine⟨p,_,C,Z',hp,n1,pG e1 (pI qa ⟨n2,by show 1<1000;decide,?_⟩)⟩;refine pG e2 (pI qa ⟨n3,by show 2<1000;decide,_,?_,q⟩);rw[rX,rX];exact .refl
def T5:Fq P w K mg base 2 a.al (yu a λv=>∃x ns,v=.bar x ns):=by
 refine fq G.al.toDG Ge (λr u=>⟨_,(pH (pZ (yV G.aN (yg G) r G.C G.F.toDG (sE v0 U1)))
 (pH (qu v0 (pW U1 pK))
 (pJ (qu v0 (pW U1 pK))))),?_⟩)
 rintro ds M Q ⟨p,v,rfl,⟨x,ns,rfl⟩,hp,q⟩
 refine⟨p,_,_,Z',hp,(G.bN "form" Z'),pI qa ⟨(G.bN "phone" Z'),by show 1<1000;decide,?_⟩⟩;refine pI qa ⟨(G.bN "targets" Z'),by show 2<1000;decide,_,?_,q⟩;rw[rX,rX];exact .refl
def QM:Fq P w K mg base 2 a.am (yu a λv=>∃x ns,v=.shut x ns):=by
 refine fq G.am.toDG FV (λr u=>⟨_,(pH (pZ (yV G.aN (yg G) r G.C G.F.toDG (sE v0 U1)))
 (pH (qu v0 (pW U1 pK))
 (pJ (qu v0 (pW U1 pK))))),?_⟩)
 rintro ds M Q ⟨p,v,rfl,⟨x,ns,rfl⟩,hp,q⟩
 refine⟨p,_,_,Z',hp,(G.bO "form" Z'),pI qa ⟨(G.bO "target" Z'),by show 1<1000;decide,?_⟩⟩;refine pI qa ⟨(G.bO "callers" Z'),by show 2<1000;decide,_,?_,q⟩;rw[rX,rX];exact .refl
def LQ:Fq P w K mg base 3 a.an (yu a λv=>∃x y f l,v=.night x y f l):=by
 refine fq G.an.toDG Dg (λr u=>⟨_,(pH (pZ (yV G.bW (zD G) r G.Z G.B.toDG (sE v0 U1)))
 (pH (qu v0 (pW U1 pK))
 (pJ (qu v0 (pW U1 pK))))),?_⟩)
 rintro ds M Q ⟨p,v,rfl,⟨x,y,f,l,rfl⟩,hp,q⟩
 refine⟨p,_,_,_,_,Z',Z',Z',hp,(G.aO "form" Z'),(G.aO "target" Z'),(G.aO "goal" Z'),pI qa ⟨(G.aO "first" Z'),by show 3<1000;decide,?_⟩⟩;refine pI qa ⟨(G.aO "last" Z'),by show 4<1000;decide,_,?_,q⟩;rw[rX,rX];exact .refl
def K0:Fq P w K mg base 3 a.ao (yu a λv=>∃x y n,v=.silent x y n):=by
 refine fq G.ao.toDG C4 (λr u=>⟨_,(pH (pZ (yV G.bW (zD G) r G.Z G.B.toDG (sE v0 U1)))
 (pJ (qu v0 (pW U1 pK)))),?_⟩)
 rintro ds M Q ⟨p,v,rfl,⟨x,y,n,rfl⟩,hp,q⟩
 refine⟨p,_,_,_,_,Z',Z',Z',hp,(G.bL "form" Z'),(G.bL "target" Z'),(G.bL "goal" Z'),pI qa ⟨(G.bL "turns" Z'),by show 3<1000;decide,_,?_,q⟩⟩;rw[rX];exact .refl
def PJ:Fq P w K mg base 2 a.ap (yu a λv=>∃x,v=.wait x):=by
 refine fq G.ap.toDG Fk (λr u=>⟨_,(pH (pZ (yV G.aN (yg G) r G.C G.F.toDG (sE v0 U1)))
 (pJ (qu v0 (pW U1 pK)))),?_⟩)
 rintro ds M Q ⟨p,v,rfl,⟨x,rfl⟩,hp,q⟩
 refine⟨p,_,_,Z',hp,(G.bX "form" Z'),pI qa ⟨(G.bX "phone" Z'),by show 1<1000;decide,_,?_,q⟩⟩;rw[rX];exact .refl
def Kx:Fq P w K mg base 2 a.aq (yu a λv=>∃x,v=.breaks x):=by
 refine fq G.aq.toDG CL (λr u=>⟨_,(pH (pZ (yV G.aN (yg G) r G.C G.F.toDG (sE v0 U1)))
 (pJ (qu v0 (pW U1 pK)))),?_⟩)
 rintro ds M Q ⟨p,v,rfl,⟨x,rfl⟩,hp,q⟩
 refine⟨p,_,_,Z',hp,(G.bY "form" Z'),pI qa ⟨(G.bY "phone" Z'),by show 1<1000;decide,_,?_,q⟩⟩;rw[rX];exact .refl
def Ig(a:Ad):rH:=λds M Q=>∃v:Wi,ds=[.tup v.told]/\∀p,M p=Db->Q (.ref p) (pP M p (.ins (v.cls a) v.nO))
def JN(a:Ad):rH:=λds M Q=>Bs λp (v:Wi)=>ds=[.ref p]/\M p=Fa (.ins (v.cls a) v.nO)/\Q (.tup v.told) M
def HB:rH:=λds M Q=>∃p,ds=[.ref p]/\Q (.tup [.str "end"]) M
def NF:rH:=λds M Q=>∃p,ds=[.ref p]/\Q (.tup [.str "break"]) M
def Rm:rH:=λds M Q=>Cg λp C fs y=>ds=[.ref p]/\M p=Fa (.ins C fs)/\fs.lookup ("goal":Str)=Fa y/\Q (.tup [.str "to",y]) M
def Ry:rH:=λds M Q=>Cg λp C fs y=>ds=[.ref p]/\M p=Fa (.ins C fs)/\fs.lookup ("phone":Str)=Fa y/\Q (.tup [.str "wait",y]) M
def NW(a:Ad):Uf->rH->Prop:=λC sp=>(∃v:Wi,C=v.cls a)/\sp=JN a
def JY(a:Ad):Uf->rH->Prop:=λC sp=>((C=a.r\/C=a.t)/\sp=HB)\/((C=a.w\/C=a.n\/C=a.x\/C=a.u)/\sp=Rm)\/(C=a.v/\sp=Ry)\/(C=a.o/\sp=NF)
def HX:Fq P w K mg base 5 a.be (Ig a):=by
 refine fq G.be.toDG Cz (λr u=>⟨_,(pH (pX 1 Cz (pW v0 pK))
 (pH (qc (pS u U1 pL)
 (pJ (pO (uV (T5 G) r G.r G.b9 G.al.toDG (qA v0))))
 pU)
 (pH (qc (pS u U1 pL)
 (pJ (pO (uV (QM G) r G.t G.ca G.am.toDG (qA v0))))
 pU)
 (pH (qc (pS u U1 pL)
 (pJ (pO (uV (zD G) r G.w G.cb G.B.toDG (qA v0))))
 pU)
 (pH (qc (pS u U1 pL)
 (pJ (pO (uV (LQ G) r G.n G.cc G.an.toDG (qA v0))))
 pU)
 (pH (qc (pS u U1 pL)
 (pJ (pO (uV (zD G) r G.x G.cd G.B.toDG (qA v0))))
 pU)
 (pH (qc (pS u U1 pL)
 (pJ (pO (uV (K0 G) r G.u G.ce G.ao.toDG (qA v0))))
 pU)
 (pH (qc (pS u U1 pL)
 (pJ (pO (uV (PJ G) r G.v G.cf G.ap.toDG (qA v0))))
 pU)
 (pH (qc (pS u U1 pL)
 (pJ (pO (uV (Kx G) r G.o G.cg G.aq.toDG (qA v0))))
 pU)
 (pJ Ht)))))))))),?_⟩)
 rintro ds M Q ⟨v,rfl,q⟩
 have XW:∀(x:Uf) (c0 c1:vd) (C:Uf) (fs:T0 (Str×D)),M x=Db->Q (.ref x) (pP M x c1)->∃XX,qF XX (pP (pP M x c0) x c1)/\Q (.ref x) XX:=λx c0 c1 C fs hx q=>⟨_,by rw[rX];exact .refl,q⟩;cases v with
 | bar x ns=>exact λp hp=>⟨p,.bar x ns,Z',⟨_,_,Z'⟩,qa,Z',XW p _ _ 0 [] hp (q p hp)⟩
 | shut x ns=>exact λp hp=>⟨p,.shut x ns,Z',⟨_,_,Z'⟩,qa,Z',XW p _ _ 0 [] hp (q p hp)⟩
 | always x y=>exact λp hp=>⟨p,_,_,_,_,Z',Z',Z',qa,(G.bP "form" Z'),(G.bP "target" Z'),(G.bP "goal" Z'),Z',XW p _ _ 0 [] hp (q p hp)⟩
 | night x y f l=>exact λp hp=>⟨p,.night x y f l,Z',⟨_,_,_,_,Z'⟩,qa,Z',XW p _ _ 0 [] hp (q p hp)⟩
 | busy x y=>exact λp hp=>⟨p,_,_,_,_,Z',Z',Z',qa,(G.bQ "form" Z'),(G.bQ "target" Z'),(G.bQ "goal" Z'),Z',XW p _ _ 0 [] hp (q p hp)⟩
 | silent x y n=>exact λp hp=>⟨p,.silent x y n,Z',⟨_,_,_,Z'⟩,qa,Z',XW p _ _ 0 [] hp (q p hp)⟩
 | wait x=>exact λp hp=>⟨p,.wait x,Z',⟨_,Z'⟩,qa,Z',XW p _ _ 0 [] hp (q p hp)⟩
 | breaks x=>exact λp hp=>⟨p,.breaks x,Z',⟨_,Z'⟩,qa,Z',XW p _ _ 0 [] hp (q p hp)⟩
def OM:Fq P w K mg base 1 a.l (JN a):=by
 refine fq G.l.toDG FT (λr u=>⟨_,(pJ (pO (pN v0))),?_⟩)
 rintro ds M Q ⟨p,v,rfl,hp,q⟩
 exact pI hp (pG Z' ⟨M,.refl,q⟩)
def Qz:Fq P w K mg base 1 a.ay HB:=by
 refine fq G.ay.toDG F5 (λr u=>⟨_,(pJ (pO (pY (qA pL)))),?_⟩)
 rintro ds M Q ⟨p,rfl,q⟩
 exact⟨pE Z',M,.refl,q⟩
def NS:Fq P w K mg base 1 a.az HB:=by
 refine fq G.az.toDG DC (λr u=>⟨_,(pJ (pO (pY (qA pL)))),?_⟩)
 rintro ds M Q ⟨p,rfl,q⟩
 exact⟨pE Z',M,.refl,q⟩
def wb:Fq P w K mg base 1 a.A Rm:=by
 refine fq G.A.toDG AJ (λr u=>⟨_,(pJ (pO (pY (sE pL (pN v0))))),?_⟩)
 rintro ds M Q ⟨p,C,fs,y,rfl,hp,e,q⟩
 exact pI hp (pG e ⟨pE Z',M,.refl,q⟩)
def Nq:Fq P w K mg base 1 a.aA Ry:=by
 refine fq G.aA.toDG Dx (λr u=>⟨_,(pJ (pO (pY (sE pL (pN v0))))),?_⟩)
 rintro ds M Q ⟨p,C,fs,y,rfl,hp,e,q⟩
 exact pI hp (pG e ⟨pE Z',M,.refl,q⟩)
def Ib:Fq P w K mg base 1 a.aB NF:=by
 refine fq G.aB.toDG A6 (λr u=>⟨_,(pJ (pO (pY (qA pL)))),?_⟩)
 rintro ds M Q ⟨p,rfl,q⟩
 exact⟨pE Z',M,.refl,q⟩
def Tr:∀C sp,NW a C sp->yd P w K mg base 1 "told" C (OA K sp):=by
 rintro C sp ⟨⟨v,rfl⟩,rfl⟩
 have F:=OM (P:=P) (w:=w) (base:=base) G;cases v with
 | bar _ _=>exact⟨G.r.toCls,_,_,_,G.cp,F,G.l.b⟩
 | shut _ _=>exact⟨G.t.toCls,_,_,_,G.cq,F,G.l.b⟩
 | always _ _=>exact⟨G.w.toCls,_,_,_,G.cr,F,G.l.b⟩
 | night _ _ _ _=>exact⟨G.n.toCls,_,_,_,G.cs,F,G.l.b⟩
 | busy _ _=>exact⟨G.x.toCls,_,_,_,G.ct,F,G.l.b⟩
 | silent _ _ _=>exact⟨G.u.toCls,_,_,_,G.cu,F,G.l.b⟩
 | wait _=>exact⟨G.v.toCls,_,_,_,G.cv,F,G.l.b⟩
 | breaks _=>exact⟨G.o.toCls,_,_,_,G.cw,F,G.l.b⟩
def OF:∀C sp,JY a C sp->yd P w K mg base 1 "wants" C (OA K sp):=by
 rintro C sp (⟨rfl|rfl,rfl⟩|⟨rfl|rfl|rfl|rfl,rfl⟩|⟨rfl,rfl⟩|⟨rfl,rfl⟩)
 .exact⟨G.r.toCls,_,_,_,G.ay.ny,Qz G,G.ay.b⟩
 .exact⟨G.t.toCls,_,_,_,G.az.ny,NS G,G.az.b⟩
 .exact⟨G.w.toCls,_,_,_,G.cx,wb G,G.A.b⟩
 .exact⟨G.n.toCls,_,_,_,G.cy,wb G,G.A.b⟩
 .exact⟨G.x.toCls,_,_,_,G.cz,wb G,G.A.b⟩
 .exact⟨G.u.toCls,_,_,_,G.cA,wb G,G.A.b⟩
 .exact⟨G.v.toCls,_,_,_,G.aA.ny,Nq G,G.aA.b⟩
 .exact⟨G.o.toCls,_,_,_,G.aB.ny,Ib G,G.aB.b⟩
def uD(x:Str):Bool:=decide ((1:Int)<=x.length)&&(decide ((x.length:Int)<=6)&&x.cps.toList.all λc=>Dz ⟨#[c]⟩ uJ)
def Ic:rH:=λds M Q=>∃x:Str,ds=[.str x]/\x.length<=1000/\Q (.bl (uD x)) M
def IY:rH:=λds M Q=>∃w,ds=[.bl pc,w]/\Q .mS M
noncomputable def xi(ss:QQQ):Bool:=((tH ss).length:Int)==(ss.length:Int)
def S9(M:Mp)(x:D)(ss:QQQ):Prop:=x=.tup (ss.map D.str)\/∃a,x=.ref a/\pA M a=Fa (ss.map D.str)
def La:rH:=λds M Q=>Bs λx ss=>ds=[x]/\S9 M x ss/\ss.length<4000/\Q (.bl (xi ss)) M
def zY{α:Type}(f:α->Bool)(l:List α):(l.map f).all id=l.all f:=by rw[jL];rfl
def sT(x:Str)(ss:QQQ):inD (.str x) (ss.map D.str)=ss.any (·==x):=by unfold inD;rw[jP];rfl
theorem qH:∀ss:QQQ,(ss.map D.str).all vi=pc
 | []=>rfl
 | _::r=>by rw[dU,eX,qH r];rfl
def sU(cs ks:QQQ)(m:Int):Bool:=decide ((1:Int)<=cs.length)&&(decide ((cs.length:Int)<=m)&&(xi cs&&cs.all λc=>ks.any (·==c)))
def Ko:rH:=λds M Q=>Cg λcs ks k m=>ds=[.tup (cs.map D.str),.ref k,.int m]/\pA M k=Fa (ks.map D.str)/\cs.length<4000/\Q (.bl (sU cs ks m)) M
def BX:Fq P w K mg base 1 a.af Ic:=by
 refine fq G.af.toDG Iy (λr u=>⟨_,(pJ (pO (tR (uN u pK (qe qM Z' G.g qL (qA v0)) (sY Z' G.cO)) (tG (qe (EV Z') Z' G.bM F1 (qA (qO Z' (xD (ix:=[Db]) (N':=["sign"])) (qQ v0) (qN 0) rY (qB u v0 (sY Z' G.cP))))))))),?_⟩)
 rintro ds M Q ⟨x,rfl,hl,q⟩
 have hz:=dI;refine⟨by omega,qS (λh1=>?_) (λh1=>?_)⟩
 .refine qS (λh2=>?_) (λh2=>?_)
  .refine rB (f:=λd=>match d with|.str z=>D.bl (Dz z uJ)|_=>.mS) trivial _ [] _ ?_ (λd hd k hk=>?_) λp hp=>?_
   .rw[cT];have:x.cps.toList.length=x.length:=by simp[Str.length]
    simp only[dH];omega
   .obtain⟨c,_,rfl⟩:=dB.mp hd;exact hk
   .refine pG pQ ?_;have e:([]++(x.cps.toList.map λc=>D.str ⟨#[c]⟩).map λd=>match d with|.str z=>D.bl (Dz z uJ)|_=>.mS)=x.cps.toList.map λc=>D.bl (Dz ⟨#[c]⟩ uJ):=by rw[dX,dZ];rfl
    rw[e];refine pG (yB (λc=>Dz ⟨#[c]⟩ uJ) x.cps.toList) ⟨M,.new hp,?_⟩;rw[zY];have:uD x=x.cps.toList.all λc=>Dz ⟨#[c]⟩ uJ:=by unfold uD;rw[h1,h2];rfl
    rw[<-this];exact q
  .refine⟨M,.refl,?_⟩;have:uD x=lf:=by
    unfold uD;have h2:decide ((x.length:Int)<=6)=lf:=by simpa using h2
    rw[h2];simp
   rw[<-this];exact q
 .refine⟨M,.refl,?_⟩;have:uD x=lf:=by
   unfold uD;have h1:decide ((1:Int)<=x.length)=lf:=by simpa using h1
   rw[h1];rfl
  rw[<-this];exact q
def tF:Fq P w K mg base 1 a.m IY:=by
 refine fq G.m.toDG Q4 (λr u=>⟨_,(pJ (qc (zg (va v0))
 (pJ Ht)
 pU)),?_⟩)
 rintro ds M Q ⟨x,rfl,q⟩
 exact⟨M,.refl,q⟩
def Em:Fq P w K mg base 1 a.ag La:=by
 refine fq G.ag.toDG Di (λr u=>⟨_,(pJ (pO (qB u (Lb Z' v0 Z' G.g Z' G.cE qL TZ) (qe qM Z' G.g qL (qA v0))))),?_⟩)
 rintro ds M Q ⟨x,ss,rfl,hx,hl,q⟩
 have key:((ss.map D.str).length:Int)=ss.length:=by rw[cT]
 rcases hx with rfl|⟨b,rfl,hb⟩
 .refine pG (L3.Cp ss) ⟨hl,M,.refl,?_⟩;rw[key];exact q
 .refine pG hb (pG (L3.Cp ss) ⟨hl,pG hb ⟨M,.refl,?_⟩⟩);rw[key];exact q
def Az:Fq P w K mg base 2 a.N Ko:=by
 refine fq G.N.toDG F0 (λr u=>⟨_,(pJ (pO (tR (uN u pK (qe qM Z' G.g qL (qA v0)) U2) (tR (pT (Em G) r G.ag (qA v0)) (tG (qe (EV Z') Z' G.bM F1 (qA (qO Z' (xD (ix:=[Db,Fa 1]) (N':=["name","known"])) (qQ v0) (qN 0) rY (qB u v0 U1))))))))),?_⟩)
 rintro ds M Q ⟨cs,ks,k,m,rfl,hk,hl,q⟩
 have hz:=dI;have key:((cs.map D.str).length:Int)=cs.length:=by rw[cT]
 have end_:∀b:Bool,sU cs ks m=b->∃XX,qF XX M/\Q (.bl b) XX:=λb e=>⟨M,.refl,e ▸ q⟩;refine qS (λh1=>?_) (λh1=>?_)
 .have h1:decide ((1:Int)<=cs.length)=pc:=by rw[<-key];exact h1
  refine qS (λh2=>?_) (λh2=>?_)
  .have h2:decide ((cs.length:Int)<=m)=pc:=by rw[<-key];exact h2
   refine⟨_,cs,Z',.inl Z',hl,qS (λh3=>?_) (λh3=>?_)⟩
   .refine rB (f:=λd=>match d with|.str z=>D.bl (ks.any (·==z))|_=>.mS) trivial _ [] _ ?_ (λd hd k0 hk0=>?_) λp hp=>?_
    .rw[cT];simp only[dH];omega
    .obtain⟨c,_,rfl⟩:=dB.mp hd;refine pG hk ⟨Z',qH ks,?_⟩;show k0 (.bl (inD (.str c) (ks.map D.str))) M;rw[sT];exact hk0
    .refine pG pQ ?_;have e:([]++(cs.map D.str).map λd=>match d with|.str z=>D.bl (ks.any (·==z))|_=>.mS)=cs.map λc=>D.bl (ks.any (·==c)):=by rw[dX,dZ];rfl
     rw[e];refine pG (yB (λc=>ks.any (·==c)) cs) ⟨M,.new hp,?_⟩;rw[zY];have:sU cs ks m=cs.all λc=>ks.any (·==c):=by unfold sU;rw[h1,h2,h3];rfl
     rw[<-this];exact q
   .refine end_ _ ?_;unfold sU;have h3:xi cs=lf:=by simpa using h3
    rw[h3];simp
  .refine end_ _ ?_;unfold sU;have h2:decide ((cs.length:Int)<=m)=lf:=by
    rw[<-key]
    simpa using h2
   rw[h2];simp
 .refine end_ _ ?_;unfold sU;have h1:decide ((1:Int)<=cs.length)=lf:=by
   rw[<-key]
   simpa using h1
  rw[h1];rfl
abbrev uU:=Str×Int×Int
abbrev uE:=Str×Str×QQQ
abbrev vF:=Bool×Wi
noncomputable def rm(p:uU):D:=.tup [.str p.1,.int p.2.1,.int p.2.2]
noncomputable def rD(g:uE):D:=.tup [.str g.1,.str g.2.1,names g.2.2]
noncomputable def vc(w:vF):D:=.tup [.bl w.1,.tup w.2.told]
structure Ff(p:uU):Prop where
 len:p.1.length<=1000
 nm:uD p.1=pc
 l1:1<=p.2.1
 l2:p.2.1<=3
 r1:0<=p.2.2
 r2:p.2.2<=9
structure Fv(pn:QQQ)(g:uE):Prop where
 len:g.1.length<=1000
 nm:uD g.1=pc
 man:g.2.1="all"\/g.2.1="turns"
 pE:g.2.2.length<4000
 mem:sU g.2.2 pn 4=pc
def xU(ss:QQQ)(x:Str):Prop:=ss.any (·==x)=pc
def Ca(pn nm:QQQ):Wi->Prop
 | .bar x ns=>xU pn x/\ns.length<4000/\sU ns nm 6=pc
 | .shut x ns=>xU nm x/\ns.length<4000/\sU ns pn 6=pc
 | .always x y=>xU nm x/\xU nm y/\x≠y
 | .night x y f l=>xU nm x/\xU nm y/\x≠y/\(0<=f/\f<=23)/\(0<=l/\l<=23)/\f≠l
 | .busy x y=>xU nm x/\xU nm y/\x≠y
 | .silent x y n=>xU nm x/\xU nm y/\x≠y/\1<=n/\n<=9
 | .wait x=>xU pn x
 | .breaks x=>xU pn x
inductive xG(pn nm:QQQ):Str->D->Prop
 | nj (x:Str) (h:xU pn x):xG pn nm "phone" (.str x)
 | name (x:Str) (h:xU nm x):xG pn nm "name" (.str x)
 | mP (cs:QQQ) (l:cs.length<4000) (h:sU cs pn 6=pc):xG pn nm "phones" (names cs)
 | names (cs:QQQ) (l:cs.length<4000) (h:sU cs nm 6=pc):xG pn nm "names" (names cs)
 | hour (i:Int) (h0:0<=i) (h1:i<=23):xG pn nm "hour" (.int i)
 | turns (i:Int) (h0:1<=i) (h1:i<=9):xG pn nm "turns" (.int i)
def Jn:rH:=λds M Q=>Kt λk d pl nl (pn nm:QQQ)=>ds=[.str k,d,.ref pl,.ref nl]/\pA M pl=Fa (pn.map D.str)/\pA M nl=Fa (nm.map D.str)/\xG pn nm k d/\Q (.bl pc) M
def A9:rH:=λds M Q=>Bs λr (ps:List uU)=>ds=[.ref r]/\pA M r=Fa (ps.map rm)/\1<=ps.length/\ps.length<=8/\(∀p∈ps,Ff p)/\Q .mS M
def Bd:rH:=λds M Q=>Cg λr (gs:List uE) pl (pn:QQQ)=>ds=[.ref r,.ref pl]/\pA M r=Fa (gs.map rD)/\pA M pl=Fa (pn.map D.str)/\gs.length<=3/\(∀g∈gs,Fv pn g)/\Q .mS M
def Dy:rH:=λds M Q=>HA λv pl nl (pn nm:QQQ)=>ds=[.tup (Wi.told v),.ref pl,.ref nl]/\pA M pl=Fa (pn.map D.str)/\pA M nl=Fa (nm.map D.str)/\Ca pn nm v/\Q .mS M
def A0:rH:=λds M Q=>Kt λr (ws:List vF) pl nl (pn nm:QQQ)=>ds=[.ref r,.ref pl,.ref nl]/\pA M r=Fa (ws.map vc)/\pA M pl=Fa (pn.map D.str)/\pA M nl=Fa (nm.map D.str)/\ws.length<=16/\(∀w∈ws,Ca pn nm w.2)/\Q .mS M
def Xg(h:xU ss x):inD (.str x) (ss.map D.str)=pc:=by rw[sT];exact h
def O2:Fq P w K mg base 3 a.bh Jn:=by
 refine fq G.bh.toDG DL (λr u=>⟨_,(pH (qc (pS u v0 pL)
 (pJ (pO (qB u U1 U2)))
 pU)
 (pH (qc (pS u v0 pL)
 (pJ (pO (qB u U1 U3)))
 pU)
 (pH (qc (pS u v0 pL)
 (pJ (pO (pT (Az G) r G.N (rF U1 U2 (sY Z' G.b3)))))
 pU)
 (pH (qc (pS u v0 pL)
 (pJ (pO (pT (Az G) r G.N (rF U1 U3 (sY Z' G.b3)))))
 pU)
 (pH (qc (pS u v0 pL)
 (pJ (pO (uN u pK U1 (sY Z' G.cQ))))
 pU)
 (pJ (pO (uN u pK U1 (sY Z' G.cR))))))))),?_⟩)
 rintro ds M Q ⟨k,d,pl,nl,pn,nm,rfl,hp,hn,ok,q⟩
 cases ok with
 | nj x h=>refine pG hp ⟨Z',qH pn,M,.refl,?_⟩;show Q (.bl (inD (.str x) (pn.map D.str))) M;rw[Xg h];exact q
 | name x h=>refine pG hn ⟨Z',qH nm,M,.refl,?_⟩;show Q (.bl (inD (.str x) (nm.map D.str))) M;rw[Xg h];exact q
 | mP cs l h=>exact⟨cs,pn,pl,6,Z',hp,l,M,.refl,by rw[h];exact q⟩
 | names cs l h=>exact⟨cs,nm,nl,6,Z',hn,l,M,.refl,by rw[h];exact q⟩
 | hour i h0 h1=>refine Bj (c:=decide (0<=i)) (dW h0) ⟨M,.refl,?_⟩;show Q (.bl (decide (i<=23))) M;rw[dW h1];exact q
 | turns i h0 h1=>refine Bj (c:=decide (1<=i)) (dW h0) ⟨M,.refl,?_⟩;show Q (.bl (decide (i<=9))) M;rw[dW h1];exact q
def Bi:Fq P w K mg base 2 a.bf A9:=by
 refine fq G.bf.toDG ur (λr u=>⟨_,(pH (pZ (pT (tF G) r G.m (sE (uN u pK (qe qM Z' G.g qL (qA v0)) (sY Z' G.cH)) pL)))
 (pJ (vM fD Z' (qQ v0) (vv (n:=3) Z' (qK (sd 1 ur) (qK (sd 2 ur) (qK (sd 3 ur) ul))))
 (pH (pZ (pT (tF G) r G.m (sE (pT (BX G) r G.af (qA U1)) pL)))
 (pH (pZ (pT (tF G) r G.m (sE (uN u pK U2 (sY Z' G.cI)) pL)))
 (pJ (pZ (pT (tF G) r G.m (sE (uN u pK U3 (sY Z' G.cJ)) pL))))))))),?_⟩)
 rintro ds M Q ⟨r,ps,rfl,YA,h1,h8,mW,q⟩
 have el:((ps.map rm).length:Int)=ps.length:=by rw[cT]
 refine pG YA (Bj (c:=decide ((1:Int)<=(ps.map rm).length)) (dW (by omega)) ⟨_,by rw[dW (show((ps.map rm).length:Int)<=8 by omega)],pG YA ?_⟩);refine BB (λU M'=>M=M'/\∃x y z,U=[Fa (.ref r),x,y,z]) (λU M' j=>by rw[<-j.1];exact YA) _ _ _ ⟨Z',Db,Db,Db,Z'⟩ ?_ ?_
 .rintro d hd U M' ⟨rfl,x,y,z,rfl⟩ nx X7
  obtain⟨p,hp,rfl⟩:=dB.mp hd;have o:=mW p hp;refine⟨Z',⟨p.1,Z',o.len,_,by rw[o.nm],?_⟩⟩;refine Bj (c:=decide ((1:Int)<=p.2.1)) (dW o.l1) ⟨_,by rw[dW (show p.2.1<=3 from o.l2)],?_⟩;refine Bj (c:=decide ((0:Int)<=p.2.2)) (dW o.r1) ⟨_,by rw[dW (show p.2.2<=9 from o.r2)],?_⟩;exact X7 _ _ ⟨Z',_,_,_,Z'⟩
 .rintro U M' ⟨rfl,x,y,z,rfl⟩
  exact⟨M,.refl,q⟩
def Bq:Fq P w K mg base 3 a.bg Bd:=by
 refine fq G.bg.toDG uo (λr u=>⟨_,(pH (pZ (pT (tF G) r G.m (sE (qB u (qe qM Z' G.g qL (qA v0)) (sY Z' G.cK)) pL)))
 (pJ (vM fD Z' (qQ v0) (vv (n:=3) Z' (qK (sd 2 uo) (qK (sd 3 uo) (qK (sd 4 uo) ul))))
 (pH (pZ (pT (tF G) r G.m (sE (pT (BX G) r G.af (qA U2)) pL)))
 (pH (pZ (pT (tF G) r G.m (sE (qB u U3 (sY Z' G.cL)) pL)))
 (pJ (pZ (pT (tF G) r G.m (sE (pT (Az G) r G.N (rF v4 U1 (sY Z' G.cM))) pL))))))))),?_⟩)
 rintro ds M Q ⟨r,gs,pl,pn,rfl,YA,hp,h3,mW,q⟩
 have el:((gs.map rD).length:Int)=gs.length:=by rw[cT]
 refine pG YA ⟨_,by rw[dW (show((gs.map rD).length:Int)<=3 by omega)],pG YA ?_⟩;refine BB (λU M'=>M=M'/\∃x y z,U=[Fa (.ref r),Fa (.ref pl),x,y,z]) (λU M' j=>by rw[<-j.1];exact YA) _ _ _ ⟨Z',Db,Db,Db,Z'⟩ ?_ ?_
 .rintro d hd U M' ⟨rfl,x,y,z,rfl⟩ nx X7
  obtain⟨g,hg,rfl⟩:=dB.mp hd;have o:=mW g hg;refine⟨Z',⟨g.1,Z',o.len,_,by rw[o.nm],?_⟩⟩;have hm:inD (.str g.2.1) [.str "all",.str "turns"]=pc:=by rcases o.man with e|e<;>(rw[e];rfl)
  refine⟨Z',Z',.str "a group's manner is all or turns",eK (λb=>[D.bl b,D.str "a group's manner is all or turns"]) hm,?_⟩;refine⟨g.2.2,pn,pl,4,Z',hp,o.pE,_,by rw[o.mem],?_⟩;exact X7 _ _ ⟨Z',_,_,_,Z'⟩
 .rintro U M' ⟨rfl,x,y,z,rfl⟩
  exact⟨M,.refl,q⟩
def DQ:Fq P w K mg base 4 a.bi Dy:=by
 refine fq G.bi.toDG ui (λr u=>⟨_,(pH (pZ (pT (tF G) r G.m (sE (LI G.b2 Z' (pW v0 pK)) pL)))
 (pH (pX 3 ui (KI G.b2 Z' (pW v0 pK)))
 (pH (pX 4 ui (rQ v0 (sv pK) sV))
 (pH (pZ (pT (tF G) r G.m (sE (qB u (qe qM Z' G.g qL (qA v4)) (qe qM Z' G.g qL (qA U3))) pL)))
 (pH (vM fD Z' (Su Z' G.cF (sE U3 v4)) (vv (n:=2) Z' (qK (sd 5 ui) (qK (sd 6 ui) ul)))
 (pJ (pZ (pT (tF G) r G.m (sE (pT (O2 G) r G.bh (qp v5 (rF v6 U1 U2))) pL)))))
 (pH (qc (pS u (rQ U3 sV (sv pK)) (pY (sE pL pL)))
 (pJ (pZ (pT (tF G) r G.m (sE (qB u (pW v4 pK) (pW v4 pK)) pL))))
 pU)
 (pJ (qc (pS u (rQ U3 (sv pK) sV) (pY (sE pL pL)))
 (pJ (pZ (pT (tF G) r G.m (sE (qB u (pW v4 pK) (pW v4 pK)) pL))))
 pU)))))))),?_⟩)
 rintro ds M Q ⟨v,pl,nl,pn,nm,rfl,hp,hn,ok,q⟩
 have part:∀{k:Str} {d:D} {C:DK},xG pn nm k d->C (.bl pc) M->Jn [.str k,d,.ref pl,.ref nl] M C:=λo c=>⟨_,_,pl,nl,pn,nm,Z',hp,hn,o,c⟩;have need:∀{x:D} {C:DK},C .mS M->IY [.bl pc,x] M C:=λc=>⟨_,Z',c⟩;have ne:∀{x y:Str},x≠y->(!(x==y))=pc:=λh=>by simpa using h
 have nei:∀{x y:Int},x≠y->(!(x==y))=pc:=λh=>by simpa using h
 have XW:∃XX,qF XX M/\Q .mS XX:=⟨M,.refl,q⟩;cases v with
 | bar x ns=>obtain⟨h1,h2,h3⟩:=ok;refine⟨_,Z',_,Z',?_⟩;refine⟨Z',_,_,pl,nl,pn,nm,Z',hp,hn,.nj x h1,_,Z',trivial,⟨Z',_,_,pl,nl,pn,nm,Z',hp,hn,.names ns h2 h3,_,Z',trivial,?_⟩⟩;exact⟨pE Z',pE Z',XW⟩
 | shut x ns=>obtain⟨h1,h2,h3⟩:=ok;refine⟨_,Z',_,Z',?_⟩;refine⟨Z',_,_,pl,nl,pn,nm,Z',hp,hn,.name x h1,_,Z',trivial,⟨Z',_,_,pl,nl,pn,nm,Z',hp,hn,.mP ns h2 h3,_,Z',trivial,?_⟩⟩;exact⟨pE Z',pE Z',XW⟩
 | always x y=>obtain⟨h1,h2,h3⟩:=ok;refine⟨_,Z',_,Z',?_⟩;refine⟨Z',_,_,pl,nl,pn,nm,Z',hp,hn,.name x h1,_,Z',trivial,⟨Z',_,_,pl,nl,pn,nm,Z',hp,hn,.name y h2,_,Z',trivial,?_⟩⟩;refine⟨pE Z',⟨_,by rw[ne h3],?_⟩⟩;exact⟨pE Z',XW⟩
 | night x y f l=>obtain⟨h1,h2,h3,h4,h5,h6⟩:=ok;refine⟨_,Z',_,Z',?_⟩;refine⟨Z',_,_,pl,nl,pn,nm,Z',hp,hn,.name x h1,_,Z',trivial,⟨Z',_,_,pl,nl,pn,nm,Z',hp,hn,.name y h2,_,Z',trivial,⟨Z',_,_,pl,nl,pn,nm,Z',hp,hn,.hour f h4.1 h4.2,_,Z',trivial,⟨Z',_,_,pl,nl,pn,nm,Z',hp,hn,.hour l h5.1 h5.2,_,Z',trivial,?_⟩⟩⟩⟩;refine⟨pE Z',⟨_,by rw[ne h3],?_⟩⟩;refine⟨pE Z',⟨_,by rw[nei h6],?_⟩⟩;exact XW
 | busy x y=>obtain⟨h1,h2,h3⟩:=ok;refine⟨_,Z',_,Z',?_⟩;refine⟨Z',_,_,pl,nl,pn,nm,Z',hp,hn,.name x h1,_,Z',trivial,⟨Z',_,_,pl,nl,pn,nm,Z',hp,hn,.name y h2,_,Z',trivial,?_⟩⟩;refine⟨pE Z',⟨_,by rw[ne h3],?_⟩⟩;exact⟨pE Z',XW⟩
 | silent x y n=>obtain⟨h1,h2,h3,h4,h5⟩:=ok;refine⟨_,Z',_,Z',?_⟩;refine⟨Z',_,_,pl,nl,pn,nm,Z',hp,hn,.name x h1,_,Z',trivial,⟨Z',_,_,pl,nl,pn,nm,Z',hp,hn,.name y h2,_,Z',trivial,⟨Z',_,_,pl,nl,pn,nm,Z',hp,hn,.turns n h4 h5,_,Z',trivial,?_⟩⟩⟩;refine⟨pE Z',⟨_,by rw[ne h3],?_⟩⟩;exact⟨pE Z',XW⟩
 | wait x=>refine⟨_,Z',_,Z',?_⟩;refine⟨Z',_,_,pl,nl,pn,nm,Z',hp,hn,.nj x ok,_,Z',trivial,?_⟩;exact⟨pE Z',pE Z',XW⟩
 | breaks x=>refine⟨_,Z',_,Z',?_⟩;refine⟨Z',_,_,pl,nl,pn,nm,Z',hp,hn,.nj x ok,_,Z',trivial,?_⟩;exact⟨pE Z',pE Z',XW⟩
def Bp:Fq P w K mg base 5 a.bj A0:=by
 refine fq G.bj.toDG vg (λr u=>⟨_,(pH (pZ (pT (tF G) r G.m (sE (qB u (qe qM Z' G.g qL (qA v0)) (sY Z' G.cN)) pL)))
 (pJ (vM fD Z' (qQ v0) (vv (n:=2) Z' (qK (sd 3 vg) (qK (sd 4 vg) ul)))
 (pJ (pZ (pT (DQ G) r G.bi (rF v4 U1 U2))))))),?_⟩)
 rintro ds M Q ⟨r,ws,pl,nl,pn,nm,rfl,YA,hp,hn,h16,mW,q⟩
 have el:((ws.map vc).length:Int)=ws.length:=by rw[cT]
 refine pG YA ⟨_,by rw[dW (show((ws.map vc).length:Int)<=16 by omega)],pG YA ?_⟩;refine BB (λU M'=>M=M'/\∃x y,U=[Fa (.ref r),Fa (.ref pl),Fa (.ref nl),x,y]) (λU M' j=>by rw[<-j.1];exact YA) _ _ _ ⟨Z',Db,Db,Z'⟩ ?_ ?_
 .rintro d hd U M' ⟨rfl,x,y,rfl⟩ nx X7
  obtain⟨v,hv,rfl⟩:=dB.mp hd;exact⟨Z',⟨v.2,pl,nl,pn,nm,Z',hp,hn,mW v hv,X7 _ _ ⟨Z',_,_,Z'⟩⟩⟩
 .rintro U M' ⟨rfl,x,y,rfl⟩
  exact⟨M,.refl,q⟩
structure pR where
 mP:List uU
 groups:List uE
 mM:List vF
noncomputable def pR.pn(l:pR):QQQ:=l.mP.map (·.1)
noncomputable def pR.gn(l:pR):QQQ:=l.groups.map (·.1)
noncomputable def pR.nm(l:pR):QQQ:=l.pn++l.gn
structure rP(l:pR):Prop where
 p1:1<=l.mP.length
 p8:l.mP.length<=8
 po:∀p∈l.mP,Ff p
 g3:l.groups.length<=3
 go:∀g∈l.groups,Fv l.pn g
 nd:l.nm.Nodup
 pk:l.mM.length<=16
 wo:∀w∈l.mM,Ca l.pn l.nm w.2
def DS{ss:QQQ}(h:ss.Nodup):xi ss=pc:=by unfold xi;rw[HP ss h];simp
def Df:rH:=λds M Q=>Cg λr1 r2 r3 (l:pR)=>ds=[.ref r1,.ref r2,.ref r3]/\pA M r1=Fa (l.mP.map rm)/\pA M r2=Fa (l.groups.map rD)/\pA M r3=Fa (l.mM.map vc)/\rP l/\Q .mS M
noncomputable def Bm:D->D
 | .tup (x::_)=>x
 | _=>.mS
def wX(ps:List uU):(ps.map rm).map Bm=(ps.map (·.1)).map D.str:=by rw[dZ,dZ];rfl
def wR(ps:List uE):(ps.map rD).map Bm=(ps.map (·.1)).map D.str:=by rw[dZ,dZ];rfl
def DP:Fq P w K mg base 6 a.bk Df:=by
 refine fq G.bk.toDG wc (λr u=>⟨_,(pH (pZ (pT (Bi G) r G.bf (qA v0)))
 (pH (vD (i:=3) wc.nd Z' (Or.inl Z') Z' (xD (ix:=[Db]) (N':=["phone"])) (qQ v0) (qN 0) rY (pW v0 pK))
 (pH (pZ (pT (Bq G) r G.bg (sE U1 U3)))
 (pH (pX 4 wc (qm U3 (qO Z' (xD (ix:=[Db]) (N':=["group"])) (qQ U1) (qN 0) rY (pW v0 pK))))
 (pH (pZ (pT (tF G) r G.m (sE (pT (Em G) r G.ag (qA v4)) pL)))
 (pJ (pZ (pT (Bp G) r G.bj (rF U2 U3 v4))))))))),?_⟩)
 rintro ds M Q ⟨r1,r2,r3,l,rfl,h1,h2,h3,ok,q⟩
 have hz:=dI;have l1:=ok.p8;have l2:=ok.g3;refine⟨r1,l.mP,Z',h1,ok.p1,ok.p8,ok.po,pG h1 ?_⟩;refine rB (f:=Bm) h1 _ [] _ (by rw[cT];simp only[dH];omega) (λd hd k hk=>?_) λp hp=>?_
 .obtain⟨x,_,rfl⟩:=dB.mp hd;exact hk
 rw[dX,wX];have s1:=qF.new (c:=.lst ((l.mP.map (·.1)).map D.str)) hp;have lp:pA (pP M p (.lst ((l.mP.map (·.1)).map D.str))) p=Fa (l.pn.map D.str):=pQ;generalize pP M p (.lst ((l.mP.map (·.1)).map D.str))=M1 at s1 lp ⊢;refine⟨r2,l.groups,p,l.pn,Z',s1.lst h2,lp,ok.g3,ok.go,?_⟩;refine pG (s1.lst h2) (rB (f:=Bm) (s1.lst h2) _ [] _ (by rw[cT];simp only[dH];omega) (λd hd k hk=>?_) λp2 X4=>?_)
 .obtain⟨x,_,rfl⟩:=dB.mp hd;exact hk
 rw[dX,wR];have s2:=qF.new (c:=.lst ((l.groups.map (·.1)).map D.str)) X4;refine pG (s2.lst lp) (pG pQ ⟨?_,λp3 hp3=>?_⟩)
 .rw[cT,cT,cT];show(l.mP.map (·.1)).length+_<=_;rw[cT];omega
 have en:l.pn.map D.str++(l.groups.map (·.1)).map D.str=l.nm.map D.str:=by unfold pR.nm;rw[dM];rfl
 rw[en];have s3:=s2.trans (qF.new (c:=.lst (l.nm.map D.str)) hp3);have l3:=@pQ (pP M1 p2 (.lst ((l.groups.map (·.1)).map D.str))) p3 (l.nm.map D.str);generalize pP (pP M1 p2 (.lst ((l.groups.map (·.1)).map D.str))) p3 (.lst (l.nm.map D.str))=M3 at s3 l3 ⊢;have ln:l.nm.length<4000:=by unfold pR.nm pR.pn pR.gn;rw[cW,cT,cT];omega
 refine⟨_,l.nm,Z',.inr ⟨p3,Z',l3⟩,ln,_,by rw[DS ok.nd],?_⟩;exact⟨r3,l.mM,p,p3,l.pn,l.nm,Z',s3.lst (s1.lst h3),s3.lst lp,l3,ok.pk,ok.wo,M,s1.trans s3,q⟩
noncomputable def Ru(ph gr ws on pr gd:Uf):T0 (Str×D):=[("phones",.ref ph),("groups",.ref gr),("wishes",.ref ws),("on",.ref on),("phone_rows",.ref pr),("group_rows",.ref gd)]
def Sb(l:pR):T0 (rj×D):=l.mP.map λp=>(Sum.inr p.1,rm p)
def IW(l:pR):T0 (rj×D):=l.groups.map λg=>(Sum.inr g.1,rD g)
def sW(a:Ad)(M:Mp)(rs:QXQ)(ws:List vF):Prop:=rs.length=ws.length/\∀(i:Nat) (r:Uf) (v:vF),rs[i]?=Fa r->ws[i]?=Fa v->M r=Fa (.ins (v.2.cls a) v.2.nO)
def sR(a:Ad)(M:Mp)(p:Uf)(l:pR):Prop:=Ud λph gr ws on pr gd (rs:QXQ)=>M p=Fa (.ins a.h (Ru ph gr ws on pr gd))/\pA M ph=Fa (l.mP.map rm)/\pA M gr=Fa (l.groups.map rD)/\
 pA M ws=Fa (rs.map D.ref)/\pA M on=Fa (l.mM.map λw=>D.bl w.1)/\Aa M pr=Fa (Sb l)/\Aa M gd=Fa (IW l)/\sW a M rs l.mM
def sW.keep{p:Uf}(h:sW a M rs ws)(k:sQ p M M')(n:∀r∈rs,r≠p):sW a M' rs ws:=⟨h.1,λi r v e1 e2=>k r _ (n r (fk e1)) (h.2 i r v e1 e2)⟩
def sW.sub(h:sW a M rs ws)(k:qF M M'):sW a M' rs ws:=⟨h.1,λi r v e1 e2=>k r _ (h.2 i r v e1 e2)⟩
def sR.sub{p:Uf}(h:sR a M p l)(s:qF M M'):sR a M' p l:=by obtain⟨ph,gr,ws,on,pr,gd,rs,h1,h2,h3,h4,h5,h6,h7,h8⟩:=h;exact⟨ph,gr,ws,on,pr,gd,rs,s _ _ h1,s.lst h2,s.lst h3,s.lst h4,s.lst h5,s.dk h6,s.dk h7,h8.sub s⟩
def Qc(a:Ad):rH:=λds M Q=>HA λp r1 r2 r3 (l:pR)=>ds=[.ref p,.ref r1,.ref r2,.ref r3]/\M p=Fa (.ins a.h [])/\pA M r1=Fa (l.mP.map rm)/\pA M r2=Fa (l.groups.map rD)/\pA M r3=Fa (l.mM.map vc)/\rP l/\
 ∀M',sQ p M M'->sR a M' p l->(∀XX,(∀b c,(b=p\/M b=Db)->M' b=Fa c->XX b=Fa c)->sR a XX p l)->Q .mS M'
def rS{p x:Uf}{c:vd}(k:sQ p M N)(hp:N p=Fa c)(h:N x=Db):M x=Db:=by
 cases e:M x with
 | none=>rfl
 | some d=>
  have n:x≠p:=λz=>by rw[z,hp]at h;cases h
  rw[k x d n e]at h;cases h
def yz{a:Uf}{es:T0 (rj×D)}(h:Aa M a=Fa es):M a=Fa (.dk es):=by
 unfold Aa at h;split at h
 .rename_i e;rw[e];cases h;rfl
 .cases h
theorem xl{α:Type}(f:α->Str)(g:α->D):∀l:List α,xo (l.map λx=>D.tup [.str (f x),g x])=Fa (l.map λx=>(Sum.inr (f x),g x))
 | []=>rfl
 | x::r=>by show(xo (r.map λx=>D.tup [.str (f x),g x])).map ((Sum.inr (f x),g x)::·)=_;rw[xl f g r];rfl
def K9{ss:QQQ}(h:ss.Nodup):(ss.map λx=>(Sum.inr x:rj)).Nodup:=by
 induction ss with
 | nil=>exact eI
 | cons x r ih=>obtain⟨h1,h2⟩:=dR.mp h;rw[dU];refine dR.mpr ⟨λz=>h1 ?_,ih h2⟩;obtain⟨y,hy,e⟩:=dB.mp z;cases e;exact hy
def yM{α:Type}{f:α->Str}{g:α->D}{l:List α}(h:(l.map f).Nodup):((l.map λx=>((Sum.inr (f x):rj),g x)).map (·.1)).Nodup:=by rw[dZ];have:=K9 h;rw[dZ]at this;exact this
def BA(d:D):D:=.tup [Bm d,d]
noncomputable def Xu:D->D
 | .tup (x::_)=>x
 | _=>.mS
def RM(ws:List vF):(ws.map vc).map Xu=ws.map λw=>D.bl w.1:=by rw[dZ];rfl
def Hs(ps:List uU):(ps.map rm).map BA=ps.map λp=>D.tup [.str p.1,rm p]:=by rw[dZ];rfl
def Gz(ps:List uE):(ps.map rD).map BA=ps.map λp=>D.tup [.str p.1,rD p]:=by rw[dZ];rfl
def sW.snoc{r:Uf}{v:vF}(h:sW a M rs ws)(n:M r=Db):sW a (pP M r (.ins (v.2.cls a) v.2.nO)) (rs++[r]) (ws++[v]):=by
 refine⟨by rw[cW,cW,h.1];rfl,λi r' v' e1 e2=>?_⟩;by_cases hi:i<rs.length
 .rw[eY hi]at e1;rw[eY (by rw[<-h.1];exact hi)]at e2;have:=h.2 i r' v' e1 e2;rw[ut (Pe this n)];exact this
 .have Zp:i=rs.length:=by have:=(cX.mp e1).1;rw[cW,dP]at this;omega
  subst Zp;rw[eW (dq _)]at e1;rw[h.1,eW (dq _)]at e2;simp only[hU,iC,ju]at e1 e2;subst e1 e2;exact qa
def JH:Fq P w K mg base 7 a.R (Qc a):=by
 refine fq G.R.toDG ER (λr u=>⟨_,(pH (pZ (pT (DP G) r G.bk (rF U1 U2 U3)))
 (pH (qu v0 (qx um Z' G.z uu (qA U1)))
 (pH (qu v0 (qx um Z' G.z uu (qA U2)))
 (pH (qu v0 (qO Z' (xD (ix:=[Db,Db]) (N':=["on","wish"])) (qQ U3) (vv (n:=2) Z' (qK (qN 0) (qK (qN 1) ul))) rY (pT (HX G) r G.be (qA U1))))
 (pH (qu v0 (qO Z' (xD (ix:=[Db,Db]) (N':=["on","wish"])) (qQ U3) (vv (n:=2) Z' (qK (qN 0) (qK (qN 1) ul))) rY v0))
 (pH (qu v0 (qx (Fz Z') Z' G.bR EC (qA (qO Z' (xD (ix:=[Db]) (N':=["phone"])) (qQ U1) (qN 0) rY (pY (sE (pW v0 pK) v0))))))
 (pJ (qu v0 (qx (Fz Z') Z' G.bR EC (qA (qO Z' (xD (ix:=[Db]) (N':=["group"])) (qQ U2) (qN 0) rY (pY (sE (pW v0 pK) v0))))))))))))),?_⟩)
 rintro ds M Q ⟨p,r1,r2,r3,l,rfl,hp,h1,h2,h3,ok,q⟩
 have hz:=dI;have l1:=ok.p8;have l2:=ok.g3;have l3:=ok.pk;refine⟨r1,r2,r3,l,Z',h1,h2,h3,ok,?_⟩;refine pG h1 λph hph=>?_;obtain⟨n1,e1,k1,c1,p1⟩:=tN (fs':=[("phones",.ref ph)]) (c:=.lst (l.mP.map rm)) hp hph;refine pI e1 ⟨(G.aa "phones" Z'),by show 0<1000;decide,?_⟩;show uO _ _ _ _ (pP (pP M ph (.lst (l.mP.map rm))) p (.ins a.h [("phones",.ref ph)]));generalize pP (pP M ph (.lst (l.mP.map rm))) p (.ins a.h [("phones",.ref ph)])=N1 at k1 c1 p1 ⊢;have Yz:=k1.lst (qg h1 hp) h1;have h2':=k1.lst (qg h2 hp) h2;have h3':=k1.lst (qg h3 hp) h3;have f1:pA N1 ph=Fa (l.mP.map rm):=se c1;refine pG h2' λgr hgr=>?_;obtain⟨n2,e2,k2,c2,p2⟩:=tN (fs':=[("phones",.ref ph),("groups",.ref gr)]) (c:=.lst (l.groups.map rD)) p1 hgr;refine pI e2 ⟨(G.aa "groups" Z'),by show 1<1000;decide,?_⟩;show uO _ _ _ _ (pP (pP N1 gr (.lst (l.groups.map rD))) p (.ins a.h [("phones",.ref ph),("groups",.ref gr)]));generalize pP (pP N1 gr (.lst (l.groups.map rD))) p (.ins a.h [("phones",.ref ph),("groups",.ref gr)])=N2 at k2 c2 p2 ⊢;have g1:=k2.lst (qg Yz p1) Yz;have g2:=k2.lst (qg h2' p1) h2';have g3:=k2.lst (qg h3' p1) h3';have f2:=k2.lst (qg f1 p1) f1;have f3:pA N2 gr=Fa (l.groups.map rD):=se c2;have kk2:=k1.trans k2;have m2:M gr=Db:=rS k1 p1 hgr;clear Yz h2' h3' f1 c1 c2 k1 k2 e1 e2;refine pG g3 ?_;refine zZ (l.mM.map vc) (λpre acc U Mx=>(∃x y,U=[x,y])/\qF N2 Mx/\∃rs:QXQ,acc=rs.map D.ref/\(∀r∈rs,N2 r=Db)/\sW a Mx rs (l.mM.take pre.length)) (λpre acc U Mx j=>j.2.1.lst g3) _ [] [] _ _ Z' (by rw[cT];simp only[dH];omega) ⟨⟨Db,Db,Z'⟩,.refl,[],Z',λr hr=>absurd hr (dA),Z',λi r v e=>by simp at e⟩ ?_ ?_
 .rintro pre d post e acc U Mx ⟨⟨x,y,rfl⟩,sx,rs,rfl,fr,wa⟩ k hk
  obtain⟨v,hv,rfl⟩:∃v,l.mM[pre.length]?=Fa v/\d=vc v:=by
   have:(l.mM.map vc)[pre.length]?=Fa d:=by rw[<-e];simp
   rw[dD]at this;cases z:l.mM[pre.length]? with
   | none=>rw[z]at this;cases this
   | some v=>rw[z]at this;exact⟨v,Z',(dh this).symm⟩
  refine⟨Z',⟨v.2,Z',λr hr=>hk _ _ _ ⟨⟨_,_,Z'⟩,sx.trans (.new hr),rs++[r],?_,λr' hr'=>?_,?_⟩⟩⟩
  .rw[dM];rfl
  .rcases dQ.mp hr' with z|z
   .exact fr r' z
   .rw[dg.mp z];exact sx.none hr
  .rw[cW,dP,gG,hv];exact wa.snoc hr
 rintro acc U Mx ⟨⟨x,y,rfl⟩,sx,rs,rfl,fr,wa⟩ ws hws
 have wa:sW a Mx rs l.mM:=by rw[cT,fF]at wa;exact wa
 obtain⟨n3,e3,k3,c3,p3⟩:=tN (fs':=[("phones",.ref ph),("groups",.ref gr),("wishes",.ref ws)]) (c:=.lst (rs.map D.ref)) (sx _ _ p2) hws;refine pI e3 ⟨(G.aa "wishes" Z'),by show 2<1000;decide,?_⟩;show uO _ _ _ _ (pP (pP Mx ws (.lst (rs.map D.ref))) p (.ins a.h [("phones",.ref ph),("groups",.ref gr),("wishes",.ref ws)]));generalize pP (pP Mx ws (.lst (rs.map D.ref))) p (.ins a.h [("phones",.ref ph),("groups",.ref gr),("wishes",.ref ws)])=N3 at k3 c3 p3 ⊢;have px:=sx _ _ p2;have i1:=k3.lst (qg (sx.lst g1) px) (sx.lst g1);have i2:=k3.lst (qg (sx.lst g2) px) (sx.lst g2);have i3:=k3.lst (qg (sx.lst g3) px) (sx.lst g3);have f4:=k3.lst (qg (sx.lst f2) px) (sx.lst f2);have f5:=k3.lst (qg (sx.lst f3) px) (sx.lst f3);have f6:pA N3 ws=Fa (rs.map D.ref):=se c3;have rp:∀r∈rs,r≠p:=λr hr z=>by have:=fr r hr;rw[z,p2]at this;cases this
 have w3:=wa.keep k3 rp;have kk3:=(kk2.trans sx.keep).trans k3;have m3:M ws=Db:=rS (kk2.trans sx.keep) px hws;have mr:∀r∈rs,M r=Db:=λr hr=>rS kk2 p2 (fr r hr);clear g1 g2 g3 f2 f3 c3 k3 e3 wa px kk2;refine pG i3 (Cm (f:=Xu) (λU=>∃x y,U=[x,y]) i3 _ [] _ ⟨Db,Db,Z'⟩ (by rw[cT];simp only[dH];omega) (λd hd U hj k hk=>?_) λon hon=>?_)
 .obtain⟨x,y,rfl⟩:=hj;obtain⟨v,_,rfl⟩:=dB.mp hd;exact⟨Z',hk _ ⟨_,_,Z'⟩⟩
 rw[dX,RM];obtain⟨n4,e4,k4,c4,p4⟩:=tN (fs':=[("phones",.ref ph),("groups",.ref gr),("wishes",.ref ws),("on",.ref on)]) (c:=.lst (l.mM.map λw=>D.bl w.1)) p3 hon;refine pI e4 ⟨(G.aa "on" Z'),by show 3<1000;decide,?_⟩;show uO _ _ _ _ (pP (pP N3 on (.lst (l.mM.map λw=>D.bl w.1))) p (.ins a.h [("phones",.ref ph),("groups",.ref gr),("wishes",.ref ws),("on",.ref on)]));generalize pP (pP N3 on (.lst (l.mM.map λw=>D.bl w.1))) p (.ins a.h [("phones",.ref ph),("groups",.ref gr),("wishes",.ref ws),("on",.ref on)])=N4 at k4 c4 p4 ⊢;have j1:=k4.lst (qg i1 p3) i1;have j2:=k4.lst (qg i2 p3) i2;have f7:=k4.lst (qg f4 p3) f4;have f8:=k4.lst (qg f5 p3) f5;have f9:=k4.lst (qg f6 p3) f6;have fa:pA N4 on=Fa (l.mM.map λw=>D.bl w.1):=se c4;have w4:=w3.keep k4 rp;have ZV:=kk3.trans k4;have m4:M on=Db:=rS kk3 p3 hon;clear i1 i2 i3 f4 f5 f6 c4 k4 e4 w3 kk3;refine pG j1 (rB (f:=BA) j1 _ [] _ (by rw[cT];simp only[dH];omega) (λd hd k hk=>?_) λq1 YF=>?_)
 .obtain⟨v,_,rfl⟩:=dB.mp hd;exact⟨pE Z',hk⟩
 rw[dX,Hs];have sq1:=qF.new (c:=.lst (l.mP.map λp=>D.tup [.str p.1,rm p])) YF;refine pG pQ (pG (xl (λp:uU=>p.1) rm l.mP) ⟨yM (iy (List.sublist_append_left _ _) ok.nd),λpr hpr=>?_⟩);obtain⟨n5,e5,k5,c5,p5⟩:=tN (fs':=[("phones",.ref ph),("groups",.ref gr),("wishes",.ref ws),("on",.ref on),("phone_rows",.ref pr)]) (c:=.dk (l.mP.map λx=>(Sum.inr x.1,rm x))) (sq1 _ _ p4) hpr;refine pI e5 ⟨(G.aa "phone_rows" Z'),by show 4<1000;decide,?_⟩;have k5:=sq1.keep.trans k5;have ZJ:wj "phone_rows" (.ref pr) [("phones",.ref ph),("groups",.ref gr),("wishes",.ref ws),("on",.ref on)]=([("phones",.ref ph),("groups",.ref gr),("wishes",.ref ws),("on",.ref on),("phone_rows",.ref pr)]:T0 (Str×D)):=rfl;rw[ZJ];generalize pP (pP (pP N4 q1 (.lst (l.mP.map λp=>D.tup [.str p.1,rm p]))) pr (.dk (l.mP.map λx=>(Sum.inr x.1,rm x)))) p (.ins a.h [("phones",.ref ph),("groups",.ref gr),("wishes",.ref ws),("on",.ref on),("phone_rows",.ref pr)])=N5 at k5 c5 p5 ⊢;have mm:=k5.lst (qg j2 p4) j2;have fb:=k5.lst (qg f7 p4) f7;have fc:=k5.lst (qg f8 p4) f8;have fd:=k5.lst (qg f9 p4) f9;have fe:=k5.lst (qg fa p4) fa;have ff:Aa N5 pr=Fa (Sb l):=CT c5;have w5:=w4.keep k5 rp;have ZW:=ZV.trans k5;have m5:M pr=Db:=rS (ZV.trans sq1.keep) (sq1 _ _ p4) hpr;clear j1 j2 f7 f8 f9 fa c5 k5 e5 w4 ZV;refine pG mm (rB (f:=BA) mm _ [] _ (by rw[cT];simp only[dH];omega) (λd hd k hk=>?_) λq2 ZK=>?_)
 .obtain⟨v,_,rfl⟩:=dB.mp hd;exact⟨pE Z',hk⟩
 rw[dX,Gz];have sq2:=qF.new (c:=.lst (l.groups.map λg=>D.tup [.str g.1,rD g])) ZK;refine pG pQ (pG (xl (λp:uE=>p.1) rD l.groups) ⟨yM (iy (jz _ _) ok.nd),λgd hgd=>?_⟩);obtain⟨n6,e6,k6,c6,p6⟩:=tN (fs':=Ru ph gr ws on pr gd) (c:=.dk (IW l)) (sq2 _ _ p5) hgd;have k6:=sq2.keep.trans k6;refine pI e6 ⟨(G.aa "group_rows" Z'),by show 5<1000;decide,_,.refl,?_⟩;have m6:M gd=Db:=rS (ZW.trans sq2.keep) (sq2 _ _ p5) hgd;have w6:=w5.keep k6 rp;have y1:=k6.lst (qg fb p5) fb;have y2:=k6.lst (qg fc p5) fc;have y3:=k6.lst (qg fd p5) fd;have y4:=k6.lst (qg fe p5) fe;have y5:=k6.dk (CO ff p5) ff;refine q _ (ZW.trans k6) ⟨ph,gr,ws,on,pr,gd,rs,p6,y1,y2,y3,y4,y5,CT c6,w6⟩ λXX hs=>?_;exact⟨ph,gr,ws,on,pr,gd,rs,hs _ _ (.inl Z') p6,se (hs _ _ (.inr hph) (qk y1)),se (hs _ _ (.inr m2) (qk y2)),se (hs _ _ (.inr m3) (qk y3)),se (hs _ _ (.inr m4) (qk y4)),CT (hs _ _ (.inr m5) (yz y5)),CT (hs _ _ (.inr m6) c6),w6.1,λi r v e1 e2=>hs _ _ (.inr (mr r (fk e1))) (w6.2 i r v e1 e2)⟩
theorem yr{α:Type}(f:α->Str)(g:α->D)(k:Str):∀l:List α,vN (l.map λx=>((Sum.inr (f x):rj),g x)) (Sum.inr k)=(l.find? λx=>decide (f x=k)).map g
 | []=>rfl
 | x::r=>by
  have ih:=yr f g k r;unfold vN at ih ⊢;rw[dU,ft,ft];by_cases h:f x=k
  .have h':decide ((Sum.inr (f x):rj)=Sum.inr k)=pc:=dW (by rw[h]);simp[h]
  .have h':¬(Sum.inr (f x):rj)=Sum.inr k:=λz=>h (jZ z);simp only[h,h',decide_false];exact ih
noncomputable def pR.nj(l:pR)(x:Str):Option uU:=l.mP.find? λp=>decide (p.1=x)
noncomputable def pR.group(l:pR)(x:Str):Option uE:=l.groups.find? λg=>decide (g.1=x)
noncomputable def pR.mL(l:pR)(x:Str):QQQ:=(l.group x).elim [x] λg=>g.2.2
noncomputable def pR.mV(l:pR)(x:Str):Str:=(l.group x).elim "one" λg=>g.2.1
def Gu(l:pR)(x:Str):vN (Sb l) (Sum.inr x)=(l.nj x).map rm:=yr (λp:uU=>p.1) rm x l.mP
def wF(l:pR)(x:Str):vN (IW l) (Sum.inr x)=(l.group x).map rD:=yr (λp:uE=>p.1) rD x l.groups
def yX(a:Ad):rH:=λds M Q=>Bs λp (l:pR)=>ds=[.ref p]/\sR a M p l/\l.mP.length<=100/\∀q,M q=Db->Q (.ref q) (pP M q (.lst (l.pn.map D.str)))
def FX(a:Ad):rH:=λds M Q=>Bs λp (l:pR)=>ds=[.ref p]/\sR a M p l/\l.mP.length<=100/\l.groups.length<=100/\∀q,M q=Db->Q (.ref q) (pP M q (.lst (l.nm.map D.str)))
def Ew(a:Ad):rH:=λds M Q=>Cg λp x v (l:pR)=>ds=[.ref p,.str x]/\sR a M p l/\l.nj x=Fa v/\Q (.int v.2.1) M
def Hv(a:Ad):rH:=λds M Q=>Cg λp x v (l:pR)=>ds=[.ref p,.str x]/\sR a M p l/\l.nj x=Fa v/\Q (.int v.2.2) M
def Ak(a:Ad):rH:=λds M Q=>C9 λp x (l:pR)=>ds=[.ref p,.str x]/\sR a M p l/\∀q,M q=Db->Q (.ref q) (pP M q (.lst ((l.mL x).map D.str)))
def Do(a:Ad):rH:=λds M Q=>C9 λp x (l:pR)=>ds=[.ref p,.str x]/\sR a M p l/\Q (.str (l.mV x)) M
def uc:Fq P w K mg base 1 a.T (yX a):=by
 refine fq G.T.toDG yD (λr u=>⟨_,(pJ (pO (qO Z' (xD (ix:=[Db]) (N':=["phone"])) (qQ (pN v0)) (qN 0) rY (pW v0 pK)))),?_⟩)
 rintro ds M Q ⟨p,l,rfl,hp,hl,q⟩
 have hz:=dI;obtain⟨ph,gr,ws,on,pr,gd,rs,h1,h2,h3,h4,h5,h6,h7,h8⟩:=hp;refine pI h1 (pG Z' (pG h2 ?_));refine rB (f:=Bm) h2 _ [] _ (by rw[cT];simp only[dH];omega) (λd hd k hk=>?_) λq1 YF=>?_
 .obtain⟨x,_,rfl⟩:=dB.mp hd;exact hk
 rw[dX,wX];exact⟨_,.refl,q q1 YF⟩
def Dw:Fq P w K mg base 2 a.bv (FX a):=by
 refine fq G.bv.toDG Dj (λr u=>⟨_,(pJ (pO (qm (yA v0 G.h.toCls G.T (uc G) r) (qO Z' (xD (ix:=[Db]) (N':=["group"])) (qQ (pN v0)) (qN 0) rY (pW v0 pK))))),?_⟩)
 rintro ds M Q ⟨p,l,rfl,hp,hl,Z8,q⟩
 have hz:=dI;have X9:=hp;obtain⟨ph,gr,ws,on,pr,gd,rs,h1,h2,h3,h4,h5,h6,h7,h8⟩:=hp;refine pI h1 ⟨Z',_,⟨Z',Z'⟩,p,l,Z',X9,hl,λq1 YF=>?_⟩;have s1:=qF.new (c:=.lst (l.pn.map D.str)) YF;have e1:=@pQ M q1 (l.pn.map D.str);generalize pP M q1 (.lst (l.pn.map D.str))=M1 at s1 e1 ⊢;have h3':=s1.lst h3;refine pI (s1 _ _ h1) (pG Z' (pG h3' ?_));refine rB (f:=Bm) h3' _ [] _ (by rw[cT];simp only[dH];omega) (λd hd k hk=>?_) λq2 ZK=>?_
 .obtain⟨x,_,rfl⟩:=dB.mp hd;exact hk
 rw[dX,wR];have s2:=qF.new (c:=.lst ((l.groups.map (·.1)).map D.str)) ZK;refine pG (s2.lst e1) (pG pQ ⟨?_,λq3 hq3=>?_⟩)
 .rw[cT,cT,cT];show(l.mP.map (·.1)).length+_<=_;rw[cT];omega
 have en:l.pn.map D.str++(l.groups.map (·.1)).map D.str=l.nm.map D.str:=by unfold pR.nm;rw[dM];rfl
 rw[en];exact⟨_,(s1.trans s2).upd,q q3 ((s1.trans s2).none hq3)⟩
def Dq:Fq P w K mg base 1 a.bD (Ew a):=by
 refine fq G.bD.toDG DE (λr u=>⟨_,(pJ (pO (pW (zT u (pN v0) U1) pK))),?_⟩)
 rintro ds M Q ⟨p,x,v,l,rfl,hp,hv,q⟩
 obtain⟨ph,gr,ws,on,pr,gd,rs,h1,h2,h3,h4,h5,h6,h7,h8⟩:=hp;exact pI h1 (pG Z' (pG Z' (pG h6 (pG (x:=rm v) (by rw[Gu,hv];rfl) ⟨M,.refl,q⟩))))
def zC:Fq P w K mg base 1 a.aM (Hv a):=by
 refine fq G.aM.toDG Fy (λr u=>⟨_,(pJ (pO (pW (zT u (pN v0) U1) pK))),?_⟩)
 rintro ds M Q ⟨p,x,v,l,rfl,hp,hv,q⟩
 obtain⟨ph,gr,ws,on,pr,gd,rs,h1,h2,h3,h4,h5,h6,h7,h8⟩:=hp;exact pI h1 (pG Z' (pG Z' (pG h6 (pG (x:=rm v) (by rw[Gu,hv];rfl) ⟨M,.refl,q⟩))))
def uF:Fq P w K mg base 1 a.Y (Ak a):=by
 refine fq G.Y.toDG zq (λr u=>⟨_,(pH (qc (MQ u U1 (pN v0))
 (pJ (pO (qx um Z' G.z uu (qA (pW (zT u (pN v0) U1) pK)))))
 pU)
 (pJ (pO (rq (qA U1))))),?_⟩)
 rintro ds M Q ⟨p,x,l,rfl,hp,q⟩
 obtain⟨ph,gr,ws,on,pr,gd,rs,h1,h2,h3,h4,h5,h6,h7,h8⟩:=hp;refine pI h1 (pG Z' (pG h7 ?_));cases e:l.group x with
 | none=>refine Ov (c:=(vN (IW l) (Sum.inr x)).isSome) (by rw[wF,e];rfl) ⟨pE Z',λq1 YF=>⟨_,.refl,?_⟩⟩;have:=q q1 YF;unfold pR.mL at this;rw[e]at this;exact this
 | some g=>refine Bj (c:=(vN (IW l) (Sum.inr x)).isSome) (by rw[wF,e];rfl) (pI h1 (pG Z' (pG Z' (pG h7 (pG (x:=rD g) (by rw[wF,e];rfl) λq1 YF=>⟨_,.refl,?_⟩)))));have:=q q1 YF;unfold pR.mL at this;rw[e]at this;exact this
def xF:Fq P w K mg base 1 a.aK (Do a):=by
 refine fq G.aK.toDG CP (λr u=>⟨_,(pH (qc (MQ u U1 (pN v0))
 (pJ (pO (pW (zT u (pN v0) U1) pK)))
 pU)
 (pJ (pO pL))),?_⟩)
 rintro ds M Q ⟨p,x,l,rfl,hp,q⟩
 obtain⟨ph,gr,ws,on,pr,gd,rs,h1,h2,h3,h4,h5,h6,h7,h8⟩:=hp;refine pI h1 (pG Z' (pG h7 ?_));cases e:l.group x with
 | none=>refine Ov (c:=(vN (IW l) (Sum.inr x)).isSome) (by rw[wF,e];rfl) ⟨M,.refl,?_⟩;unfold pR.mV at q;rw[e]at q;exact q
 | some g=>refine Bj (c:=(vN (IW l) (Sum.inr x)).isSome) (by rw[wF,e];rfl) (pI h1 (pG Z' (pG Z' (pG h7 (pG (x:=rD g) (by rw[wF,e];rfl) ⟨M,.refl,?_⟩)))));unfold pR.mV at q;rw[e]at q;exact q
noncomputable def OH:T0 Int:=[1,1,2,2,3]
noncomputable def PB:T0 Int:=[0,1,1,2,5,9]
noncomputable def QI:QQQ:=["all","turns"]
noncomputable def G1(t:T0 Int)(i:Int):Int:=t.getD i.toNat 0
def ww(s:Int)(i:Nat):uU:=(xR s (0+(i:Nat)),G1 OH (draw (s+17*(0+(i:Nat))*(0+(i:Nat))) 16807 5),G1 PB (draw (s+17*(0+(i:Nat))*(0+(i:Nat))) 39373 6))
def rW(s m:Int):Nat:=(2+draw s 48271 (m - 1)).toNat
def qG(s m:Int):List uU:=(List.range (rW s m)).map (ww s)
def As(s:Int)(own:QQQ)(i:Nat):uE:=(xR s (8+(0+(i:Nat))),BW QI (draw (s+5*(0+(i:Nat))) 742938285 2),vV own (s+11*(0+(i:Nat))) 4)
def vR(s:Int):Nat:=(draw s 69621 3).toNat
def rg(s:Int)(own:QQQ):List uE:=(List.range (vR s)).map (As s own)
def GP{ts:T0 Int}{i:Int}(h0:0<=i)(h1:i<ts.length):wQ (ts.map D.int) i=Fa (D.int (G1 ts i)):=by
 obtain⟨n,rfl⟩:=eC h0;have Zm:n<ts.length:=by omega
 refine vq ?_;rw[dD,cV Zm];simp[G1,Zm]
def B9{pre post:T0 D}{d:D}(e:pre++d::post=(List.range n).map λi=>D.int (0+(i:Nat))):d=.int (0+(pre.length:Nat))/\pre.length<n:=by
 have h:((List.range n).map λi=>D.int (0+(i:Nat)))[pre.length]?=Fa d:=by rw[<-e];simp
 have hl:pre.length<n:=by
  have:=(cX.mp h).1
  simpa using this
 rw[dD,kH hl]at h;exact⟨(dh h).symm,hl⟩
def C8{α β:Type}(f:Nat->α)(g:α->β)(n:Nat):((List.range n).map f).map g++[g (f n)]=((List.range (n+1)).map f).map g:=by rw[iU,dM,dM];rfl
def IM:rH:=λds M Q=>Bs λs m=>ds=[.int s,.int m]/\2<=m/\m<=100/\∀q,M q=Db->Q (.ref q) (pP M q (.lst ((qG s m).map rm)))
def IQ:rH:=λds M Q=>C9 λs o own=>ds=[.int s,.ref o]/\pA M o=Fa (own.map D.str)/\own≠[]/\own.length<=64/\∀q,M q=Db->Q (.ref q) (pP M q (.lst ((rg s own).map rD)))
def wV{s m:Int}(h2:2<=m)(h:m<=100):rW s m<=100/\2<=rW s m:=by have d0:=rh (c:=s) (f:=48271) (m:=m - 1) (by omega);have d1:=qX (c:=s) (f:=48271) (m:=m - 1) (by omega);unfold rW;omega
def xf{s:Int}:vR s<=3:=by have d0:=rh (c:=s) (f:=69621) (m:=3) (by decide);have d1:=qX (c:=s) (f:=69621) (m:=3) (by decide);unfold vR;omega
def HY:Fq P w K mg base 2 a.bl IM:=by
 refine fq G.bl.toDG uX (λr u=>⟨_,(pH (pX 2 uX (rq tL))
 (pH (vM fD Z' (wJ Z' G.aP (qA (qm pK (pT (qT G) r G.i (rF v0 pK (qm U1 pK)))))) (sd 3 uX)
 (pH (pX 4 uX (pW (pY (qp pK (qp pK (rF pK pK pK)))) (pT (qT G) r G.i (rF (qm v0 (qm (qm pK U3) U3)) pK pK))))
 (pJ (pZ (sj U2 (qA (pY (rF (pT (Ja G) r G.ah (sE v0 U3)) v4 (pW (pY (qp pK (qp pK (qp pK (rF pK pK pK))))) (pT (qT G) r G.i (rF (qm v0 (qm (qm pK U3) U3)) pK pK)))))))))))
 (pJ (pO U2)))),?_⟩)
 rintro ds M Q ⟨s,m,rfl,h2,h100,q⟩
 have hz:=dI;have d0:=rh (c:=s) (f:=48271) (m:=m - 1) (by omega);have d1:=qX (c:=s) (f:=48271) (m:=m - 1) (by omega);have nl:=(wV (s:=s) h2 h100).1;refine⟨pE Z',λr hr=>⟨s,_,_,Z',by show 0<m - 1;omega,Z',⟨?_,?_⟩,?_⟩⟩
 .show -(2 ^ 62)<=2+draw s 48271 (m - 1);omega
 .show 2+draw s 48271 (m - 1)<2 ^ 62;omega
 refine yb ((List.range (rW s m)).map λi=>D.int (0+(i:Nat))) (λpre U M'=>M'=pP M r (.lst (((List.range pre.length).map (ww s)).map rm))/\∃x y,U=[Fa (.int s),Fa (.int m),Fa (.ref r),x,y]) (λ_ _ _ _=>trivial) _ [] _ _ Z' ⟨Z',Db,Db,Z'⟩ ?_ ?_
 .rintro pre d post e U M' ⟨rfl,x,y,rfl⟩ nx X7
  obtain⟨rfl,X2⟩:=B9 e;generalize hi:pre.length=i at X2 X7 ⊢;have cm:Dn (17*(0+(i:Int))) (0+(i:Int)):=.inr ⟨by omega,by omega⟩;have c17:Dn 17 (0+(i:Int)):=.inl ⟨by decide,by decide⟩;have t5:wQ [D.int 1,.int 1,.int 2,.int 2,.int 3] (draw (s+17*(0+(i:Int))*(0+(i:Int))) 16807 5)=Fa (.int (ww s i).2.1):=GP (ts:=OH) (rh (by decide)) (qX (by decide));have t6:wQ [D.int 0,.int 1,.int 1,.int 2,.int 5,.int 9] (draw (s+17*(0+(i:Int))*(0+(i:Int))) 39373 6)=Fa (.int (ww s i).2.2):=GP (ts:=PB) (rh (by decide)) (qX (by decide));refine⟨pE Z',c17,cm,_,_,_,Z',by decide,pG t5 ?_⟩;refine⟨by show(pA _ r).isSome=pc;rw[pQ];rfl,s,_,Z',pE Z',c17,cm,_,_,_,Z',by decide,pG t6 ⟨pE Z',pG pQ ⟨?_,?_⟩⟩⟩
  .rw[cT,cT,eE];omega
  .refine X7 _ _ ⟨?_,_,_,Z'⟩;rw[rX,cW,hi];show pP M r (.lst (_++[rm (ww s i)]))=_;rw[C8];rfl
 .rintro U M' ⟨rfl,x,y,rfl⟩
  refine⟨_,.refl,?_⟩;rw[cT,eE];exact q r hr
def IA:Fq P w K mg base 3 a.bm IQ:=by
 refine fq G.bm.toDG uZ (λr u=>⟨_,(pH (pX 2 uZ (rq tL))
 (pH (vM fD Z' (wJ Z' G.aP (qA (pT (qT G) r G.i (rF v0 pK pK)))) (sd 3 uZ)
 (pH (pX 4 uZ (pW (pY (sE pL pL)) (pT (qT G) r G.i (rF (qm v0 (qm pK U3)) pK pK))))
 (pJ (pZ (sj U2 (qA (pY (rF (pT (Ja G) r G.ah (sE v0 (qm pK U3))) v4 (pT (yq G) r G.P (rF U1 (qm v0 (qm pK U3)) pK))))))))))
 (pJ (pO U2)))),?_⟩)
 rintro ds M Q ⟨s,o,own,rfl,ho,Yc,h64,q⟩
 have hz:=dI;have d0:=rh (c:=s) (f:=69621) (m:=3) (by decide);have d1:=qX (c:=s) (f:=69621) (m:=3) (by decide);have nl:=xf (s:=s);refine⟨pE Z',λr hr=>⟨s,_,_,Z',by decide,Z',⟨?_,?_⟩,?_⟩⟩
 .show -(2 ^ 62)<=draw s 69621 3;omega
 .show draw s 69621 3<2 ^ 62;omega
 have nor:o≠r:=λz=>by rw[z]at ho;unfold pA at ho;rw[hr]at ho;cases ho
 refine yb ((List.range (vR s)).map λi=>D.int (0+(i:Nat))) (λpre U M'=>M'=pP M r (.lst (((List.range pre.length).map (As s own)).map rD))/\∃x y,U=[Fa (.int s),Fa (.ref o),Fa (.ref r),x,y]) (λ_ _ _ _=>trivial) _ [] _ _ Z' ⟨Z',Db,Db,Z'⟩ ?_ ?_
 .rintro pre d post e U M' ⟨rfl,x,y,rfl⟩ nx X7
  obtain⟨rfl,X2⟩:=B9 e;generalize hi:pre.length=i at X2 X7 ⊢;have c5:Dn 5 (0+(i:Int)):=.inl ⟨by decide,by decide⟩;have c11:Dn 11 (0+(i:Int)):=.inl ⟨by decide,by decide⟩;have tm:wQ [D.str "all",.str "turns"] (draw (s+5*(0+(i:Int))) 742938285 2)=Fa (.str (As s own i).2.1):=IR (row:=QI) (rh (by decide)) (qX (by decide));have Yw:pA (pP M r (.lst (((List.range i).map (As s own)).map rD))) o=Fa (own.map D.str):=by unfold pA;rw[ut nor];exact ho
  refine⟨pE Z',c5,_,_,_,Z',by decide,pG tm ?_⟩;refine⟨by show(pA _ r).isSome=pc;rw[pQ];rfl,s,_,Z',c11,o,_,_,own,Z',Yw,Yc,by decide,h64,pE Z',pG pQ ⟨?_,?_⟩⟩
  .rw[cT,cT,eE];omega
  .refine X7 _ _ ⟨?_,_,_,Z'⟩;rw[rX,cW,hi];show pP M r (.lst (_++[rD (As s own i)]))=_;rw[C8];rfl
 .rintro U M' ⟨rfl,x,y,rfl⟩
  refine⟨_,.refl,?_⟩;rw[cT,eE];exact q r hr
def Jm(ns:T0 Int)(own nm:QQQ)(i:Nat):vF:=(decide (0<draw (cell ns (1+(0+(i:Nat)))+31*(0+(i:Nat))*(0+(i:Nat))) 22695477 6),wH (cell ns (1+(0+(i:Nat)))+31*(0+(i:Nat))*(0+(i:Nat))) own nm)
def xb(s:Int):Nat:=(draw s 950706376 11).toNat
def zB(ns:T0 Int)(m:Int):pR:=
 let s:=cell ns 0;let own:=(qG s m).map (·.1);let gs:=rg s own
 ⟨qG s m,gs,(List.range (xb s)).map (Jm ns own (own++gs.map (·.1)))⟩
def Mu:rH:=λds M Q=>Bs λns m=>ds=[.rl (ns.map D.int),.int m]/\2<=m/\m<=8/\∀r1 r2 r3 M',qF M M'->pA M' r1=Fa ((zB ns m).mP.map rm)->pA M' r2=Fa ((zB ns m).groups.map rD)->pA M' r3=Fa ((zB ns m).mM.map vc)->Q (.tup [.ref r1,.ref r2,.ref r3]) M'
def MC:Fq P w K mg base 4 a.bo Mu:=by
 refine fq G.bo.toDG sJ (λr u=>⟨_,(pH (pX 2 sJ (pT (Oo G) r G.O (sE v0 pK)))
 (pH (pX 3 sJ (pT (HY G) r G.bl (sE U2 U1)))
 (pH (vD (i:=4) sJ.nd Z' (Or.inl Z') Z' (xD (ix:=[Db]) (N':=["_law_phone"])) (qQ U3) (qN 0) rY (pW v0 pK))
 (pH (pX 5 sJ (pT (IA G) r G.bm (sE U2 v4)))
 (pH (pX 6 sJ (qm v4 (qO Z' (xD (ix:=[Db]) (N':=["_law_group"])) (qQ v5) (qN 0) rY (pW v0 pK))))
 (pH (pX 7 sJ (rq tL))
 (pH (vM fD Z' (wJ Z' G.aP (qA (pT (qT G) r G.i (rF U2 pK pK)))) (sd 8 sJ)
 (pH (pX 9 sJ (qm (pT (Oo G) r G.O (sE v0 (qm pK v8))) (qm (qm pK v8) v8)))
 (pJ (pZ (sj v7 (qA (pY (sE (qB u (pT (qT G) r G.i (rF v9 pK pK)) pK) (pT (OE G) r G.bn (rF v9 v4 v6))))))))))
 (pJ (pO (pY (rF U3 v5 v7))))))))))),?_⟩)
 rintro ds M Q ⟨ns,m,rfl,h2,h8,q⟩
 have hz:=dI;have pl:=wV (s:=cell ns 0) h2 (by omega);have p8:rW (cell ns 0) m<=8:=by have d1:=qX (c:=cell ns 0) (f:=48271) (m:=m - 1) (by omega);unfold rW;omega
 have gl:=xf (s:=cell ns 0);have lp:(qG (cell ns 0) m).length=rW (cell ns 0) m:=by unfold qG;rw[cT,eE]
 refine⟨ns,0,Z',cell ns 0,m,Z',h2,by omega,λr1 YA=>?_⟩;have s1:=qF.new (c:=.lst ((qG (cell ns 0) m).map rm)) YA;have a1:=@pQ M r1 ((qG (cell ns 0) m).map rm);generalize pP M r1 (.lst ((qG (cell ns 0) m).map rm))=M1 at s1 a1 ⊢;refine pG a1 (rB (f:=Bm) a1 _ [] _ (by rw[cT];simp only[dH];omega) (λd hd k hk=>?_) λo ho=>?_)
 .obtain⟨x,_,rfl⟩:=dB.mp hd;exact hk
 rw[dX,wX];have s2:=s1.trans (qF.new (c:=.lst (((qG (cell ns 0) m).map (·.1)).map D.str)) ho);have b1:=(qF.new (c:=.lst (((qG (cell ns 0) m).map (·.1)).map D.str)) ho).lst a1;have bo:=@pQ M1 o (((qG (cell ns 0) m).map (·.1)).map D.str);generalize pP M1 o (.lst (((qG (cell ns 0) m).map (·.1)).map D.str))=M2 at s2 b1 bo ⊢;have ol:((qG (cell ns 0) m).map (·.1)).length=rW (cell ns 0) m:=by rw[cT,lp]
 have one:(qG (cell ns 0) m).map (·.1)≠[]:=λz=>by rw[z]at ol;have:0=rW (cell ns 0) m:=ol;omega
 have X9:zB ns m=⟨qG (cell ns 0) m,rg (cell ns 0) ((qG (cell ns 0) m).map (·.1)),(List.range (xb (cell ns 0))).map (Jm ns ((qG (cell ns 0) m).map (·.1)) ((qG (cell ns 0) m).map (·.1)++(rg (cell ns 0) ((qG (cell ns 0) m).map (·.1))).map (·.1)))⟩:=rfl;rw[X9]at q;generalize (qG (cell ns 0) m).map (·.1)=own at bo ol one q ⊢;refine⟨cell ns 0,o,own,Z',bo,one,by omega,λr2 hr2=>?_⟩;have t3:=qF.new (c:=.lst ((rg (cell ns 0) own).map rD)) hr2;have c2:=@pQ M2 r2 ((rg (cell ns 0) own).map rD);have c1:=t3.lst b1;have co:=t3.lst bo;have s3:=s2.trans t3;generalize pP M2 r2 (.lst ((rg (cell ns 0) own).map rD))=M3 at s3 c1 c2 co ⊢;have gll:(rg (cell ns 0) own).length=vR (cell ns 0):=by unfold rg;rw[cT,eE]
 refine pG c2 (rB (f:=Bm) c2 _ [] _ (by rw[cT];simp only[dH];omega) (λd hd k hk=>?_) λx4 hx4=>?_)
 .obtain⟨x,_,rfl⟩:=dB.mp hd;exact hk
 rw[dX,wR];have t4:=qF.new (c:=.lst (((rg (cell ns 0) own).map (·.1)).map D.str)) hx4;refine pG (t4.lst co) (pG pQ ⟨?_,λn hn=>?_⟩)
 .rw[cT,cT,cT];omega
 have en:own.map D.str++((rg (cell ns 0) own).map (·.1)).map D.str=(own++(rg (cell ns 0) own).map (·.1)).map D.str:=by rw[dM]
 rw[en];have nl:(own++(rg (cell ns 0) own).map (·.1)).length=rW (cell ns 0) m+vR (cell ns 0):=by rw[cW,cT,ol,gll]
 have t5:=t4.trans (qF.new (c:=.lst ((own++(rg (cell ns 0) own).map (·.1)).map D.str)) hn);have en5:=@pQ (pP M3 x4 (.lst (((rg (cell ns 0) own).map (·.1)).map D.str))) n ((own++(rg (cell ns 0) own).map (·.1)).map D.str);have e1:=t5.lst c1;have e2:=t5.lst c2;have eo:=t5.lst co;have s5:=s3.trans t5;generalize pP (pP M3 x4 (.lst (((rg (cell ns 0) own).map (·.1)).map D.str))) n (.lst ((own++(rg (cell ns 0) own).map (·.1)).map D.str))=M5 at s5 e1 e2 eo en5 ⊢;generalize own++(rg (cell ns 0) own).map (·.1)=nm at en5 nl q ⊢;have d0:=rh (c:=cell ns 0) (f:=950706376) (m:=11) (by decide);have d1:=qX (c:=cell ns 0) (f:=950706376) (m:=11) (by decide);refine⟨pE Z',λr3 ZL=>⟨_,_,_,Z',by decide,Z',⟨?_,?_⟩,?_⟩⟩
 .show -(2 ^ 62)<=draw (cell ns 0) 950706376 11;omega
 .show draw (cell ns 0) 950706376 11<2 ^ 62;omega
 have t6:=qF.new (c:=.lst []) ZL;have g3:=@pQ M5 r3 [];have no:o≠r3:=λz=>by have:=qk eo;rw[z,ZL]at this;cases this
 have nn:n≠r3:=λz=>by have:=qk en5;rw[z,ZL]at this;cases this
 have n1:r1≠r3:=λz=>by have:=qk e1;rw[z,ZL]at this;cases this
 have n2:r2≠r3:=λz=>by have:=qk e2;rw[z,ZL]at this;cases this
 have f1:=t6.lst e1;have f2:=t6.lst e2;have fo:=t6.lst eo;have fn:=t6.lst en5;have k6:qF M (pP M5 r3 (.lst [])):=s5.trans t6;have nr:M r3=Db:=s5.none ZL;generalize pP M5 r3 (.lst [])=M6 at f1 f2 fo fn k6 g3 ⊢;have wl:xb (cell ns 0)<=10:=by unfold xb;omega
 refine yb ((List.range (xb (cell ns 0))).map λi=>D.int (0+(i:Nat))) (λpre U M'=>sQ r3 M6 M'/\pA M' r3=Fa (((List.range pre.length).map (Jm ns own nm)).map vc)/\∃x y,U=[Fa (.rl (ns.map D.int)),Fa (.int m),Fa (.int (cell ns 0)),Fa (.ref r1),Fa (.ref o),Fa (.ref r2),Fa (.ref n),Fa (.ref r3),x,y]) (λp U M' j=>trivial) _ [] _ _ Z' ⟨λ_ _ _ h=>h,g3,Db,Db,Z'⟩ ?_ ?_
 .rintro pre d post e U M' ⟨kp,lr,x,y,rfl⟩ nx X7
  obtain⟨rfl,X2⟩:=B9 e;generalize hi:pre.length=i at X2 X7 lr ⊢;have c31:Dn 31 (0+(i:Int)):=.inl ⟨by decide,by decide⟩;have cm:Dn (31*(0+(i:Int))) (0+(i:Int)):=.inr ⟨by omega,by omega⟩;refine⟨ns,_,Z',c31,cm,?_⟩;refine⟨by show(pA M' r3).isSome=pc;rw[lr];rfl,_,_,_,Z',by decide,_,o,n,own,nm,Z',kp.lst no fo,kp.lst nn fn,one,by omega,by omega,by omega,pE Z',pG lr ⟨?_,?_⟩⟩
  .rw[cT,cT,eE];omega
  .refine X7 _ _ ⟨kp.trans .put,?_,_,_,Z'⟩;rw[pQ,cW,hi];show Fa (_++[vc (Jm ns own nm i)])=_;rw[C8];rfl
 .rintro U M' ⟨kp,lr,x,y,rfl⟩
  rw[cT,eE]at lr;exact⟨pE Z',M',.refl,q r1 r2 r3 M' (λb c h=>kp b c (λz=>by rw[z,nr]at h;cases h) (k6 b c h)) (kp.lst n1 f1) (kp.lst n2 f2) lr⟩
theorem BK(x:Array Nat):∀(n:Nat) (acc:Array Nat),((List.replicate n x).foldl (·++·) acc).toList=acc.toList++(List.replicate n x.toList).flatten
 | 0,acc=>by simp
 | n+1,acc=>by rw[eG,fV,BK x n (acc++x),eG,fO,jd,e9]
theorem GN(c:Nat):∀n:Nat,(List.replicate n [c]).flatten=List.replicate n c
 | 0=>rfl
 | n+1=>by rw[eG,fO,GN c n,eG];rfl
def DX(i n:Int):(yP (uy i) n).cps.toList=List.replicate n.toNat (97+i.toNat):=by show((List.replicate n.toNat (uy i).cps).foldl (·++·) #[]:Array Nat).toList=_;rw[BK];show[]++(List.replicate n.toNat [97+i.toNat]).flatten=_;rw[dX,GN]
def yk(s v:Int):(xR s v).cps.toList=List.replicate (uM s).toNat (97+(s / 36 % 26).toNat)++(97+((s / 936+v) % 26).toNat)::List.replicate (size s - 1 - uM s).toNat (97+(s / 36 % 26).toNat):=by show((yP (uy (s / 36 % 26)) (uM s)).cps++(uy ((s / 936+v) % 26)).cps++(yP (uy (s / 36 % 26)) (size s - 1 - uM s)).cps).toList=_;rw[jd,jd,DX,DX];show _++[97+((s / 936+v) % 26).toNat]++_=_;rw[e9];rfl
def Ck(s v:Int):1<=(xR s v).length/\(xR s v).length<=6:=by
 have e:(xR s v).length=(xR s v).cps.toList.length:=by simp[Str.length]
 rw[e,yk,cW,d6,iL,iL];have h1:=GC s;have h2:=JX s;have h3:0<=uM s:=eU _ (by omega);have h4:uM s<size s:=eO _ h1;omega
def LY{i:Int}(h0:0<=i)(h1:i<26):Dz ⟨#[97+i.toNat]⟩ uJ=pc:=by
 obtain⟨n,rfl⟩:=eC h0;have hn:n<26:=by omega
 have key:∀n:_root_.Fin 26,Dz ⟨#[97+n.val]⟩ uJ=pc:=by decide+kernel
 exact key ⟨n,hn⟩
def Eg(s v:Int):uD (xR s v)=pc:=by
 obtain⟨h1,h2⟩:=Ck s v;unfold uD;rw[dW (show(1:Int)<=(xR s v).length by omega),dW (show((xR s v).length:Int)<=6 by omega),eJ,eJ,eD];intro c hc;rw[yk]at hc;have k1:=LY (eU (s / 36) (show(26:Int)≠0 by decide)) (eO (s / 36) (by decide));have k2:=LY (eU (s / 936+v) (show(26:Int)≠0 by decide)) (eO (s / 936+v) (by decide));rcases dQ.mp hc with z|z
 .rw[jQ z];exact k1
 .rcases de.mp z with z|z
  .rw[z];exact k2
  .rw[jQ z];exact k1
def Ct{s u v:Int}(hu:0<=u)(hu':u<26)(hv:0<=v)(hv':v<26)(e:xR s u=xR s v):u=v:=by
 have e':(xR s u).cps.toList=(xR s v).cps.toList:=by rw[e]
 rw[yk,yk]at e';have:=(List.append_cancel_left e');have:=(fG this).1;have a1:=eU (s / 936+u) (show(26:Int)≠0 by decide);have a2:=eU (s / 936+v) (show(26:Int)≠0 by decide);have h:(s / 936+u) % 26=(s / 936+v) % 26:=by omega
 omega
def E7{ss:QQQ}{x:Str}(h:x∈ss):xU ss x:=gx.mpr ⟨x,h,by simp⟩
def BE{row:QQQ}{i:Int}(h0:0<=i)(h1:i<row.length):BW row i∈row:=by
 obtain⟨n,rfl⟩:=eC h0;have hn:n<row.length:=by omega
 have:BW row (n:Int)=row[n]:=by simp[BW,hn]
 rw[this];exact ia hn
def Jr{row:QQQ}{i j:Int}(nd:row.Nodup)(h0:0<=i)(h1:i<row.length)(g0:0<=j)(g1:j<row.length)(e:BW row i=BW row j):i=j:=by
 obtain⟨n,rfl⟩:=eC h0;obtain⟨k,rfl⟩:=eC g0;have hn:n<row.length:=by omega
 have hk:k<row.length:=by omega
 have e1:BW row (n:Int)=row[n]:=by simp[BW,hn]
 have e2:BW row (k:Int)=row[k]:=by simp[BW,hk]
 rw[e1,e2]at e;have pw:=jA.mp nd;rcases Nat.lt_trichotomy n k with z|z|z
 .exact absurd e (pw n k hn hk z)
 .rw[z]
 .exact absurd e.symm (pw k n hk hn z)
def Au{α:Type}(f:Nat->α)(n:Nat)(h:∀i j,i<n->j<n->f i=f j->i=j):((List.range n).map f).Nodup:=by refine jA.mpr λi j hi hj X2 e=>?_;rw[cT,eE]at hi hj;rw[l8,l8,lh,lh]at e;have:=h i j hi hj e;omega
def B2{row:QQQ}{c m:Int}(hr:row≠[])(hm:0<m):1<=xq row c m/\(xq row c m:Int)<=m/\xq row c m<=row.length:=by
 have hl:0<row.length:=fA.mpr hr;have d0:=rh (c:=c) (f:=40692) (m:=if (row.length:Int)<m then(row.length:Int)else m) (by split<;>omega);have d1:=qX (c:=c) (f:=40692) (m:=if (row.length:Int)<m then(row.length:Int)else m) (by split<;>omega);unfold xq;by_cases h:(row.length:Int)<m
 .rw[c9 h]at d0 d1 ⊢;omega
 .rw[cY h]at d0 d1 ⊢;omega
def B1{row:QQQ}{c:Int}(hr:row≠[])(j:Nat):0<=(draw c 69621 row.length+(0+(j:Nat))) % (row.length:Int)/\(draw c 69621 row.length+(0+(j:Nat))) % (row.length:Int)<row.length:=by have hl:0<row.length:=fA.mpr hr;exact⟨eU _ (by omega),eO _ (by omega)⟩
def JJ{d n i j:Int}(hn:0<n)(hi:0<=i)(Zp:i<n)(hj:0<=j)(hj':j<n)(e:(d+i) % n=(d+j) % n):i=j:=by
 have h1:=km (d+i) n;have h2:=km (d+j) n;generalize (d+i) / n=a at h1;generalize (d+j) / n=b at h2;have h3:i - j=n*(a - b):=by rw[Int.mul_sub];omega
 rcases Int.lt_trichotomy (a - b) 0 with z|z|z
 .have:n*(a - b)<=n*(-1):=jb (by omega) (by omega);omega
 .rw[z]at h3;omega
 .have:n*1<=n*(a - b):=jb (by omega) (by omega);omega
def HH{row:QQQ}{c m:Int}(nd:row.Nodup)(hr:row≠[])(hm:0<m):(vV row c m).Nodup:=by have hl:0<row.length:=fA.mpr hr;obtain⟨_,_,l3⟩:=B2 (c:=c) hr hm;refine Au _ _ λi j hi hj e=>?_;obtain⟨a0,a1⟩:=B1 (c:=c) hr i;obtain⟨b0,b1⟩:=B1 (c:=c) hr j;have e':=Jr nd a0 a1 b0 b1 e;have:=JJ (d:=draw c 69621 row.length) (n:=row.length) (i:=0+(i:Nat)) (j:=0+(j:Nat)) (by omega) (by omega) (by omega) (by omega) (by omega) e';omega
def xE{row:QQQ}{c m k:Int}(nd:row.Nodup)(hr:row≠[])(hm:0<m)(hk:m<=k):sU (vV row c m) row k=pc:=by
 obtain⟨l1,l2,l3⟩:=B2 (c:=c) hr hm;have el:(vV row c m).length=xq row c m:=by unfold vV;rw[cT,eE]
 unfold sU;rw[el,dW (show(1:Int)<=xq row c m by omega),dW (show(xq row c m:Int)<=k by omega),DS (HH nd hr hm),eJ,eJ,eJ,eD];intro x hx;unfold vV at hx;obtain⟨j,_,rfl⟩:=dB.mp hx;obtain⟨a0,a1⟩:=B1 (c:=c) hr j;exact E7 (BE a0 a1)
def BZ{row:QQQ}{c m:Int}(hr:row≠[])(hm:0<m)(h:m<=100):(vV row c m).length<4000:=by
 obtain⟨l1,l2,l3⟩:=B2 (c:=c) hr hm;have el:(vV row c m).length=xq row c m:=by unfold vV;rw[cT,eE]
 omega
def Pd{c:Int}{own all:QQQ}(no:own.Nodup)(na:all.Nodup)(ho:own≠[])(ha:2<=all.length):Ca own all (wH c own all):=by
 have hl:(0:Int)<own.length:=by have:=fA.mpr ho;omega
 have ha0:all≠[]:=λz=>by rw[z]at ha;simp at ha
 have hx:=E7 (BE (rh (c:=c) (f:=16807) hl) (qX (c:=c) (f:=16807) hl));have p0:=rh (c:=c) (f:=39373) (m:=all.length) (by omega);have p1:=qX (c:=c) (f:=39373) (m:=all.length) (by omega);have e0:=rh (c:=c) (f:=742938285) (m:=(all.length:Int) - 1) (by omega);have e1:=qX (c:=c) (f:=742938285) (m:=(all.length:Int) - 1) (by omega);have z0:=eU (draw c 39373 all.length+1+draw c 742938285 ((all.length:Int) - 1)) (show(all.length:Int)≠0 by omega);have z1:=eO (draw c 39373 all.length+1+draw c 742938285 ((all.length:Int) - 1)) (show(0:Int)<all.length by omega);have hy:=E7 (BE p0 p1);have hzz:=E7 (BE z0 z1);have ne:BW all (draw c 39373 all.length)≠BW all ((draw c 39373 all.length+1+draw c 742938285 ((all.length:Int) - 1)) % all.length):=λz=>by
  have q:=Jr na p0 p1 z0 z1 z;have q2:(draw c 39373 all.length+0) % (all.length:Int)=(draw c 39373 all.length+(1+draw c 742938285 ((all.length:Int) - 1))) % (all.length:Int):=by rw[Int.add_zero,Int.emod_eq_of_lt p0 p1,<-Int.add_assoc];exact q
  have:=JJ (by omega) (by omega) (by omega) (by omega) (by omega) q2;omega
 have f0:=rh (c:=c) (f:=22695477) (m:=24) (by decide);have f1:=qX (c:=c) (f:=22695477) (m:=24) (by decide);have g0:=rh (c:=c) (f:=48271) (m:=23) (by decide);have g1:=qX (c:=c) (f:=48271) (m:=23) (by decide);have t0:=rh (c:=c) (f:=950706376) (m:=5) (by decide);have t1:=qX (c:=c) (f:=950706376) (m:=5) (by decide);unfold wH;simp only;split
 .exact⟨hx,BZ ha0 (by decide) (by decide),xE na ha0 (by decide) (by decide)⟩
 .split
  .exact⟨hy,BZ ho (by decide) (by decide),xE no ho (by decide) (by decide)⟩
  .split
   .exact⟨hy,hzz,ne⟩
   .split
    .refine⟨hy,hzz,ne,⟨f0,by omega⟩,⟨eU _ (by decide),?_⟩,?_⟩
     .have:=eO (draw c 22695477 24+1+draw c 48271 23) (show(0:Int)<24 by decide);omega
     .omega
    .split
     .exact⟨hy,hzz,ne⟩
     .split
      .refine⟨hy,hzz,ne,?_⟩;generalize draw c 950706376 5=d at t0 t1;have:d=0\/d=1\/d=2\/d=3\/d=4:=by omega
       rcases this with z|z|z|z|z<;>(subst z;decide)
      .split
       .exact hx
       .exact hx
def MV(s:Int)(i:Nat):Ff (ww s i):=by
 have t0:=rh (c:=s+17*(0+(i:Nat))*(0+(i:Nat))) (f:=16807) (m:=5) (by decide);have t1:=qX (c:=s+17*(0+(i:Nat))*(0+(i:Nat))) (f:=16807) (m:=5) (by decide);have u0:=rh (c:=s+17*(0+(i:Nat))*(0+(i:Nat))) (f:=39373) (m:=6) (by decide);have u1:=qX (c:=s+17*(0+(i:Nat))*(0+(i:Nat))) (f:=39373) (m:=6) (by decide);have a:1<=(ww s i).2.1/\(ww s i).2.1<=3:=by
  show 1<=G1 OH (draw (s+17*(0+(i:Nat))*(0+(i:Nat))) 16807 5)/\G1 OH (draw (s+17*(0+(i:Nat))*(0+(i:Nat))) 16807 5)<=3;generalize draw (s+17*(0+(i:Nat))*(0+(i:Nat))) 16807 5=d at t0 t1;have:d=0\/d=1\/d=2\/d=3\/d=4:=by omega
  rcases this with z|z|z|z|z<;>(subst z;decide)
 have b:0<=(ww s i).2.2/\(ww s i).2.2<=9:=by
  show 0<=G1 PB (draw (s+17*(0+(i:Nat))*(0+(i:Nat))) 39373 6)/\G1 PB (draw (s+17*(0+(i:Nat))*(0+(i:Nat))) 39373 6)<=9;generalize draw (s+17*(0+(i:Nat))*(0+(i:Nat))) 39373 6=d at u0 u1;have:d=0\/d=1\/d=2\/d=3\/d=4\/d=5:=by omega
  rcases this with z|z|z|z|z|z<;>(subst z;decide)
 exact⟨dY (Ck s (0+(i:Nat))).2 (by decide),Eg _ _,a.1,a.2,b.1,b.2⟩
def ME{s:Int}{own:QQQ}(nd:own.Nodup)(hr:own≠[])(i:Nat):Fv own (As s own i):=by
 have t0:=rh (c:=s+5*(0+(i:Nat))) (f:=742938285) (m:=2) (by decide);have t1:=qX (c:=s+5*(0+(i:Nat))) (f:=742938285) (m:=2) (by decide);refine⟨dY (Ck s (8+(0+(i:Nat)))).2 (by decide),Eg _ _,?_,BZ hr (by decide) (by decide),xE nd hr (by decide) (by decide)⟩;show BW QI (draw (s+5*(0+(i:Nat))) 742938285 2)="all"\/BW QI (draw (s+5*(0+(i:Nat))) 742938285 2)="turns";generalize draw (s+5*(0+(i:Nat))) 742938285 2=d at t0 t1;have:d=0\/d=1:=by omega
 rcases this with z|z
 .subst z;exact .inl Z'
 .subst z;exact .inr Z'
def MN(s m:Int):(qG s m).map (·.1)=(List.range (rW s m)).map λi=>xR s (0+(i:Nat)):=by unfold qG;rw[dZ];rfl
def Gc{s m:Int}(h2:2<=m)(h8:m<=8):((qG s m).map (·.1)).Nodup/\∀own,((qG s m).map (·.1)++(rg s own).map (·.1)).Nodup:=by
 have d1:=qX (c:=s) (f:=48271) (m:=m - 1) (by omega);have d0:=rh (c:=s) (f:=48271) (m:=m - 1) (by omega);have p8:rW s m<=8:=by unfold rW;omega
 have g3:=xf (s:=s);have a:((qG s m).map (·.1)).Nodup:=by rw[MN];refine Au _ _ λi j hi hj e=>?_;have:=Ct (by omega) (by omega) (by omega) (by omega) e;omega
 refine⟨a,λown=>?_⟩;have ge:(rg s own).map (·.1)=(List.range (vR s)).map λi=>xR s (8+(0+(i:Nat))):=by unfold rg;rw[dZ];rfl
 rw[gm];refine⟨a,?_,λx hx y hy e=>?_⟩
 .rw[ge];refine Au _ _ λi j hi hj e=>?_;have:=Ct (by omega) (by omega) (by omega) (by omega) e;omega
 .rw[MN]at hx;rw[ge]at hy;obtain⟨i,hi,rfl⟩:=dB.mp hx;obtain⟨j,hj,rfl⟩:=dB.mp hy;have hi:=gf.mp hi;have hj:=gf.mp hj;have:=Ct (by omega) (by omega) (by omega) (by omega) e;omega
def PC{m:Int}(h2:2<=m)(h8:m<=8):rP (zB ns m):=by
 obtain⟨n1,n2⟩:=Gc (s:=cell ns 0) h2 h8;have pl:=wV (s:=cell ns 0) h2 (by omega);have p8:rW (cell ns 0) m<=8:=by have d1:=qX (c:=cell ns 0) (f:=48271) (m:=m - 1) (by omega);unfold rW;omega
 have lp:(qG (cell ns 0) m).length=rW (cell ns 0) m:=by unfold qG;rw[cT,eE]
 have ol:((qG (cell ns 0) m).map (·.1)).length=rW (cell ns 0) m:=by rw[cT,lp]
 have one:(qG (cell ns 0) m).map (·.1)≠[]:=λz=>by rw[z]at ol;have:0=rW (cell ns 0) m:=ol;omega
 have gl:(rg (cell ns 0) ((qG (cell ns 0) m).map (·.1))).length=vR (cell ns 0):=by unfold rg;rw[cT,eE]
 refine⟨?_,?_,λp hp=>?_,?_,λg hg=>?_,n2 _,?_,λv hv=>?_⟩
 .show 1<=(qG (cell ns 0) m).length;omega
 .show(qG (cell ns 0) m).length<=8;omega
 .obtain⟨i,_,rfl⟩:=dB.mp hp;exact MV _ i
 .show(rg (cell ns 0) ((qG (cell ns 0) m).map (·.1))).length<=3;rw[gl];exact xf
 .obtain⟨i,_,rfl⟩:=dB.mp hg;exact ME n1 one i
 .show((List.range (xb (cell ns 0))).map _).length<=16;rw[cT,eE];have d1:=qX (c:=cell ns 0) (f:=950706376) (m:=11) (by decide);unfold xb;omega
 .obtain⟨i,hi,rfl⟩:=dB.mp hv;refine Pd n1 (n2 _) one ?_;show 2<=((qG (cell ns 0) m).map (·.1)++_).length;rw[cW,ol];omega
structure pM where
 st:Str
 cr:Str
 way:QQQ
 at_:QQQ
 ms:QQQ
 hd:Option Str
 si:Int
 wd:Option Str
structure sC where
 i:Nat
 f:Str
 g:Str
 y:Str
inductive Ev
 | new (n:Nat) (x:Str)
 | leg (v:sC)
 | asks (i:Nat) (z:Str) (ns:List Nat)
 | next (z:Str) (n:Int)
 | merge (i j:Nat) (ms:QQQ)
 | turn
 | sw (b:Bool) (i:Nat)
 | rings (i:Nat) (ps:QQQ)
 | quiet (i:Nat)
 | waits (i:Nat) (x:Str)
 | talks (i:Nat) (ms:QQQ)
 | held (i:Nat) (x:Str)
 | leaves (i:Nat) (x:Str)
 | over (i:Nat) (w:Str)
structure qz where
 p:Uf
 h:Int
 t:Int
 calls:List pM
 m8:List sC
 ps:List (Str×Int)
 on:List Bool
 log:List Ev
 fo:QXQ
noncomputable def wA(ns:T0 Nat):D:=.tup (ns.map λn=>D.int (n:Nat))
noncomputable def sC.d(v:sC):D:=.tup [.int (v.i:Nat),.str v.f,.str v.g,.str v.y]
noncomputable def VH(b:Bool):Str:=if b=pc then "on" else "off"
def Ev.d:Ev->D
 | .new n x=>.tup [.str "new",.int (n:Nat),.str x]
 | .leg v=>.tup [.str "leg",.int (v.i:Nat),.str v.f,.str v.g,.str v.y]
 | .asks i z ns=>.tup [.str "asks",.int (i:Nat),.str z,wA ns]
 | .next z n=>.tup [.str "next",.str z,.int n]
 | .merge i j ms=>.tup [.str "merge",.int (i:Nat),.int (j:Nat),names ms]
 | .turn=>.tup [.str "turn"]
 | .sw b i=>.tup [.str (VH b),.int (i:Nat)]
 | .rings i ps=>.tup [.str "rings",.int (i:Nat),names ps]
 | .quiet i=>.tup [.str "quiet",.int (i:Nat)]
 | .waits i x=>.tup [.str "waits",.int (i:Nat),.str x]
 | .talks i ms=>.tup [.str "talks",.int (i:Nat),names ms]
 | .held i x=>.tup [.str "held",.int (i:Nat),.str x]
 | .leaves i x=>.tup [.str "leaves",.int (i:Nat),.str x]
 | .over i w=>.tup [.str "over",.int (i:Nat),.str w]
noncomputable def hasS(ss:QQQ)(x:Str):Bool:=ss.any (·==x)
noncomputable def rV(ss:QQQ)(x:Str):QQQ:=ss.filter λy=>!(y==x)
noncomputable def zp(x:Str):pM:=⟨"rings",x,[],[],[],Db,0,Db⟩
noncomputable def pM.over(c:pM)(w:Str):pM:={c with st:="over",wd:=some w,at_:=[],ms:=[],hd:=none}
def pM.drop(c:pM)(x:Str):pM:={c with at_:=rV c.at_ x,ms:=rV c.ms x}
noncomputable def pM.ring(c:pM)(ps:QQQ):pM:={c with st:="rings",at_:=ps,si:=0}
noncomputable def pM.nM(c:pM)(ms:QQQ):pM:={c with st:="talks",ms:=ms,at_:=[],hd:=none}
noncomputable def pM.wait(c:pM)(x:Str):pM:={c with st:="waits",at_:=[x]}
noncomputable def pM.hold(c:pM)(x:Str):pM:={c with st:="held",hd:=some x}
noncomputable def pM.nR(c:pM):pM:={c with at_:=[]}
noncomputable def pM.mem(c:pM)(ms:QQQ):pM:={c with ms:=ms}
noncomputable def pM.go(c:pM)(g:Str):pM:={c with way:=c.way++[g]}
noncomputable def pM.tick(c:pM):pM:=if (c.st=="rings")=pc then{c with si:=c.si+1}else c
noncomputable def sC.to(m k:Nat)(v:sC):sC:=if v.i=m then{v with i:=k}else v
noncomputable def Cu(ps:T0 (Str×Int))(z:Str)(n:Int):T0 (Str×Int):=if ps.any (λp=>decide (p.1=z))=pc then ps.map (λp=>if p.1=z then(p.1,n)else p)else ps++[(z,n)]
noncomputable def xQ(V:qz)(i:Nat)(f:pM->pM):qz:={V with calls:=V.calls.modify i f}
noncomputable def qV(V:qz)(e:Ev):qz:={V with log:=V.log++[e]}
def Vp(V:qz):Ev->qz
 | .new _ x=>{V with calls:=V.calls++[zp x]}
 | .leg v=>{V with m8:=V.m8++[v],calls:=V.calls.modify v.i (·.go v.g)}
 | .asks _ _ _=>V
 | .next z n=>{V with ps:=Cu V.ps z n}
 | .merge i j ms=>{V with calls:=(V.calls.modify i (·.over "merged")).modify j (·.mem ms),m8:=V.m8.map (sC.to i j)}
 | .turn=>{V with t:=V.t+1,calls:=V.calls.map pM.tick}
 | .sw b i=>{V with on:=V.on.set i b}
 | .rings i ps=>xQ V i (·.ring ps)
 | .quiet i=>xQ V i pM.nR
 | .waits i x=>xQ V i (·.wait x)
 | .talks i ms=>xQ V i (·.nM ms)
 | .held i x=>xQ V i (·.hold x)
 | .leaves i x=>xQ V i (·.drop x)
 | .over i w=>xQ V i (·.over w)
def qo(V:qz)(e:Ev):qz:=Vp (qV V e) e
def qP(V:qz)(es:T0 Ev):qz:=es.foldl qo V
def Ev.ok(V:qz):Ev->Prop
 | .new _ _=>True
 | .leg v=>v.i<V.calls.length
 | .asks _ _ _=>True
 | .next _ _=>True
 | .merge i j ms=>i<V.calls.length/\j<V.calls.length/\i≠j/\ms.length<=100
 | .turn=>True
 | .sw _ i=>i<V.on.length
 | .rings i ps=>i<V.calls.length/\ps.length<=100
 | .quiet i=>i<V.calls.length
 | .waits i _=>i<V.calls.length
 | .talks i ms=>i<V.calls.length/\ms.length<=100
 | .held i _=>i<V.calls.length
 | .leaves i _=>i<V.calls.length
 | .over i _=>i<V.calls.length
def rT(V:qz)(es fs:T0 Ev):qP V (es++fs)=qP (qP V es) fs:=lz ..
theorem F4:∀(es:T0 Ev) (V:qz),(qP V es).log=V.log++es
 | [],V=>(eR _).symm
 | e::r,V=>by
  show(qP (qo V e) r).log=_;rw[F4 r];have:(qo V e).log=V.log++[e]:=by cases e<;>rfl
  rw[this,e9];rfl
def pM.mY(c:pM)(x:Str):Bool:=(c.st=="talks")&&hasS c.ms x
def pM.hasB(c:pM)(x:Str):Bool:=if (c.st=="rings")=pc then(x==c.cr)||hasS c.at_ x else if (c.st=="waits")=pc then x==c.cr else(c.st=="talks"||c.st=="held")&&hasS c.ms x
def pM.nq(c:pM)(x:Str):Bool:=if (c.st=="held")=pc then hasS c.ms x&&!((c.hd==Fa x))else c.mY x
noncomputable def pM.mZ(c:pM)(x:Str):Bool:=(c.st=="rings"||c.st=="waits")&&(x==c.cr)
def pM.mT(c:pM)(x:Str):Bool:=(c.st=="waits")&&hasS c.at_ x
def pM.nG(c:pM)(x:Str):Bool:=c.mZ x||(hasS c.at_ x||hasS c.ms x)
noncomputable def pM.m7(c:pM)(x:Str):Bool:=c.mY x&&(c.ms.length==2)
noncomputable def vk(V:qz)(x:Str):Nat:=(V.calls.filter (·.hasB x)).length
noncomputable def xm(l:pR)(x:Str):Int:=(l.nj x).elim 0 λv=>v.2.1
noncomputable def vS(l:pR)(x:Str):Int:=(l.nj x).elim 0 λv=>v.2.2
def uk(l:pR)(V:qz)(x:Str):Bool:=decide ((vk V x:Int)<xm l x)
def uH(l:pR)(V:qz)(c z:Str):QQQ:=(l.mL z).filter λx=>!(x==c)&&uk l V x
def xV(l:pR)(V:qz)(c z:Str):Bool:=(uH l V c z).isEmpty
noncomputable def vT(V:qz)(x:Str):Option Nat:=V.calls.findIdx? (·.mY x)
noncomputable def Fb(V:qz)(x:Str):Option Nat:=V.calls.findIdx? (·.nq x)
noncomputable def Jj(V:qz)(x:Str):Option Nat:=V.calls.findIdx? (·.mZ x)
noncomputable def AU(V:qz)(x:Str):Bool:=V.calls.any (·.mT x)
noncomputable def QP:Option Nat->D
 | none=>.mS
 | some j=>.int (j:Nat)
noncomputable def E9(f l h:Int):Bool:=if f<l then decide (f<=h)&&decide (h<l)else decide (h>=f)||decide (h<l)
def H9(l:pR)(x:Str)(ms:QQQ):Bool:=ms.all λm=>decide (vS l m<vS l x)
def IJ(l:pR)(V:qz)(x c z:Str):Bool:=if (!(c==x)||(z==x))=pc then lf else if (!(hasS l.pn z)||!(xV l V c z))=pc then lf else((vT V z).bind (V.calls[·]?)).elim lf λk=>(k.ms.length==2)&&H9 l x k.ms
def wW(l:pR)(V:qz)(c z:Str):Wi->Bool
 | .bar x ns=>(c==x)&&hasS ns z
 | .shut x ns=>(z==x)&&hasS ns c
 | .always x _=>z==x
 | .night x _ f m=>(z==x)&&E9 f m ((V.h+V.t) % 24)
 | .busy x _=>(z==x)&&xV l V c z
 | .silent _ _ _=>lf
 | .wait x=>if (!(z==x)||(c==x))=pc then lf else xV l V c z&&!(AU V z)
 | .breaks x=>IJ l V x c z
noncomputable def FJ(c:pM):Wi->Bool
 | .silent x _ n=>(c.way.getLast?==Fa x)&&decide (n<=c.si)
 | _=>lf
noncomputable def xJ(l:pR)(V:qz)(f:Wi->Bool):T0 Nat:=(List.range V.on.length).filter λi=>V.on.getD i lf&&(l.mM[i]?).elim lf λw=>f w.2
def zI(l:pR)(V:qz)(c z:Str):T0 Nat:=xJ l V (wW l V c z)
noncomputable def vh(ms:QQQ)(n:Nat):QQQ:=ms.drop n++ms.take n
noncomputable def zR(V:qz)(z:Str):Nat:=((V.ps.find? λp=>decide (p.1=z)).elim 0 λp=>p.2).toNat
def xX(l:pR)(V:qz)(c z:Str):QQQ:=if (l.mV z=="turns")=pc then((vh (l.mL z) (zR V z)).filter λx=>hasS (uH l V c z) x).take 1 else uH l V c z
inductive vO
 | engaged (z:Str)
 | rings (z:Str) (ps:QQQ)
 | waits (z:Str)
 | breaks (z:Str)
 | barred
 | ring (ns:QQQ)
noncomputable def vO.d:vO->D
 | .engaged z=>.tup [.str "engaged",.str z]
 | .rings z ps=>.tup [.str "rings",.str z,names ps]
 | .waits z=>.tup [.str "waits",.str z]
 | .breaks z=>.tup [.str "breaks",.str z]
 | .barred=>.tup [.str "barred"]
 | .ring ns=>.tup [.str "ring",names ns]
def IL(l:pR)(V:qz)(c z:Str):vO:=match xX l V c z with
 | []=>.engaged z
 | x::r=>.rings z (x::r)
noncomputable def Gx(z:Str):Wi->Sum vO Str
 | .bar _ _=>.inl .barred
 | .shut _ _=>.inl .barred
 | .always _ y=>.inr y
 | .night _ y _ _=>.inr y
 | .busy _ y=>.inr y
 | .silent _ y _=>.inr y
 | .wait _=>.inl (.waits z)
 | .breaks _=>.inl (.breaks z)
abbrev tq:=T0 (Str×T0 Nat)
def uG(l:pR)(V:qz)(c:Str):Nat->Str->QQQ->tq->vO×tq
 | 0,_,_,st=>(.barred,st)
 | n+1,z,way,st=>if hasS way z=pc then(.ring (way.drop (way.findIdx (·==z))),st)else
  match zI l V c z with
  | []=>(IL l V c z,st++[(z,[])])
  | i::r=>(l.mM[i]?).elim (.barred,st) λw=>match Gx z w.2 with
   | .inl e=>(e,st++[(z,i::r)])
   | .inr y=>uG l V c n y (way++[z]) (st++[(z,i::r)])
def ua(l:pR)(V:qz)(c z:Str)(way:QQQ):vO×tq:=uG l V c (l.nm.length+1) z way []
noncomputable def rK(i:Nat):Option Str->tq->T0 Ev
 | _,[]=>[]
 | none,(z,fs)::r=>.asks i z fs::rK i (Fa z) r
 | some y,(z,fs)::r=>.leg ⟨i,y,z,y⟩::.asks i z fs::rK i (Fa z) r
noncomputable def Qi(ms:QQQ)(x:Str):Int:=((ms.findIdx (·==x):Nat)+1) % (ms.length:Int)
def tD(l:pR)(V:qz)(i:Nat):vO->T0 Ev
 | .rings z ps=>(if (l.mV z=="turns")=pc then[.next z (Qi (l.mL z) (ps.headD Str.empty))]else[])++[.rings i ps]
 | .waits z=>[.waits i z]
 | .breaks z=>match vT V z,V.calls[i]? with
  | some j,Fa c=>[.merge i j ((V.calls[j]?).elim [] (·.ms)++[c.cr])]
  | _,_=>[]
 | .engaged _=>[.over i "engaged"]
 | .barred=>[.over i "barred"]
 | .ring _=>[.over i "ring"]
noncomputable def uq(i:Nat)(st:tq):vO->T0 Ev
 | .ring ns=>(st.getLast?).elim [] λs=>[.leg ⟨i,s.1,ns.headD Str.empty,s.1⟩]
 | _=>[]
def uz(l:pR)(V:qz)(i:Nat):T0 Ev:=(V.calls[i]?).elim [] λc=>
 let r:=ua l V c.cr (c.way.getLastD Str.empty) c.way.dropLast
 rK i Db r.2++(uq i r.2 r.1++tD l V i r.1)
def FO(l:pR)(V:qz)(y z:Str):T0 Ev:=
 let es:=[Ev.new V.calls.length y,.leg ⟨V.calls.length,y,z,y⟩]
 es++uz l (qP V es) V.calls.length
def vo(V:qz)(x:Str)(i:Nat):T0 Ev:=(V.calls[i]?).elim [] λc=>if c.mZ x=pc then[.over i "left"]else if hasS c.at_ x=pc then .leaves i x::(if rV c.at_ x=[]then[.over i "refused"]else[])else if 2<c.ms.length then[.leaves i x]else[.over i "done"]
def sy(l:pR)(V:qz)(i:Nat)(fs:T0 Nat):T0 Ev:=match fs.head?.bind (l.mM[·]?)with
 | some (_,.silent x y _)=>
  let es:=[Ev.asks i x fs,.quiet i,.leg ⟨i,x,y,x⟩]
  es++uz l (qP V es) i
 | _=>[]
def wg(l:pR)(V:qz)(i:Nat):T0 Nat:=(V.calls[i]?).elim [] λc=>if (c.st=="rings")=pc then xJ l V (FJ c)else[]
def qU(l:pR):T0 Nat->qz->T0 Ev
 | [],_=>[]
 | i::r,V=>sy l V i (wg l V i)++qU l r (qP V (sy l V i (wg l V i)))
def yp(l:pR)(V:qz):T0 Ev:=.turn::qU l (List.range V.calls.length) (qo V .turn)
inductive tZ
 | call (y z:Str)
 | num (w x:Str) (ns:List Int)
 | turn
 | sw (b:Bool) (i:Int)
def tZ.d:tZ->D
 | .call y z=>.tup [.str "call",.str y,.str z]
 | .num w x ns=>.tup (.str w::.str x::ns.map D.int)
 | .turn=>.tup [.str "turn"]
 | .sw b i=>.tup [.str (VH b),.int i]
def tZ.nL:tZ->Prop
 | .num w _ ns=>((w="answer"\/w="hang"\/w="hold"\/w="back")/\ns.length=1)\/((w="hand"\/w="join")/\ns.length=2)
 | _=>True
def uQ(V:qz)(x:Str):Option Str:=if (Fb V x).isSome=pc then Fa "bound" else if (Jj V x).isSome=pc then Fa "calls" else Db
noncomputable def zW(n:Nat)(i:Int):Bool:=decide (0<=i)&&decide (i<(n:Int))
def Jz(w x:Str):List pM->Bool
 | []=>lf
 | c::r=>if (w=="answer")=pc then hasS c.at_ x else if (w=="hang")=pc then c.nG x else if (w=="hold")=pc then c.m7 x else if (w=="back")=pc then c.hd==Fa x else(c.hd==Fa x)&&(r.head?.elim lf λd=>d.m7 x)
noncomputable def tY(V:qz)(ns:T0 Int):List pM:=ns.filterMap λi=>V.calls[i.toNat]?
def Ho(l:pR)(V:qz)(y z:Str):Option Str:=if hasS l.nm z=lf then Fa "name" else if ((uQ V y).isNone&&!(uk l V y))=pc then Fa "full" else uQ V y
def Ly(l:pR)(V:qz)(w x:Str)(ns:T0 Int):Option Str:=if ns.all (zW V.calls.length)=lf then Fa "call" else if Jz w x (tY V ns)=lf then Fa "call" else if (w=="answer"||w=="back")=lf then Db else
 if ((uQ V x).isNone&&((tY V ns).head?.elim lf (λc=>c.mT x)&&!(uk l V x)))=pc then Fa "full" else uQ V x
def OT(V:qz)(b:Bool)(i:Int):Option Str:=if zW V.on.length i=lf then Fa "wish" else if (V.on.getD i.toNat lf==b)=pc then Fa "wish" else Db
def xB(l:pR)(V:qz):tZ->Option Str
 | .turn=>Db
 | .sw b i=>OT V b i
 | .call y z=>if hasS l.pn y=lf then Fa "name" else Ho l V y z
 | .num w x ns=>if hasS l.pn x=lf then Fa "name" else Ly l V w x ns
def qI(c:pM)(x:Str):Str:=(rV c.ms x).headD Str.empty
noncomputable def Du(V:qz)(w x:Str)(i:Nat):Ev:=(V.calls[i]?).elim .turn λc=>if (w=="answer")=pc then .talks i [c.cr,x]else if (w=="hold")=pc then .held i x else .talks i c.ms
def CD(V:qz)(w x:Str)(i j:Nat):Ev:=(V.calls[i]?).elim .turn λc=>(V.calls[j]?).elim .turn λd=>.merge i j (if (w=="hand")=pc then[qI c x,qI d x]else[x,qI c x,qI d x])
def sZ(l:pR)(V:qz):tZ->T0 Ev
 | .call y z=>FO l V y z
 | .num w x [i]=>if (w=="hang")=pc then vo V x i.toNat else[Du V w x i.toNat]
 | .num w x [i,j]=>[CD V w x i.toNat j.toNat]
 | .num _ _ _=>[]
 | .turn=>yp l V
 | .sw b i=>[.sw b i.toNat]
structure rN where
 p:Uf
 wy:Uf
structure tI where
 b:Uf
 ca:Uf
 le:Uf
 nx:Uf
 on:Uf
 lo:Uf
 cs:List rN
noncomputable def Dd:Option Str->D
 | none=>.mS
 | some x=>.str x
def rE(c:pM)(wy ad md:Uf):T0 (Str×D):=[("state",.str c.st),("caller",.str c.cr),("way",.ref wy),("at",.ref ad),("members",.ref md),("holder",Dd c.hd),("since",.int c.si),("word",Dd c.wd)]
noncomputable def ud(p:D)(h t:Int)(ca le nx on lo:Uf):T0 (Str×D):=[("plan",p),("hour",.int h),("turn",.int t),("calls",.ref ca),("legs",.ref le),("nexts",.ref nx),("on",.ref on),("log",.ref lo)]
noncomputable def tT(ps:T0 (Str×Int)):T0 (rj×D):=ps.map λp=>((Sum.inr p.1:rj),D.int p.2)
noncomputable def tI.lists(A:tI):QXQ:=A.ca::A.le::A.on::A.lo::A.cs.map (·.wy)
noncomputable def tI.foot(A:tI):QXQ:=A.b::A.nx::(A.lists++A.cs.map (·.p))
def sf(a:Ad)(M:Mp)(L:QXQ)(k:rN)(c:pM):Prop:=Bs λad md=>M k.p=Fa (.ins a.e (rE c k.wy ad md))/\pA M k.wy=Fa (c.way.map D.str)/\pA M ad=Fa (c.at_.map D.str)/\pA M md=Fa (c.ms.map D.str)/\ad∉L/\md∉L
structure pV(a:Ad)(M:Mp)(A:tI)(V:qz):Prop where
 at_:M A.b=Fa (.ins a.c (ud (.ref V.p) V.h V.t A.ca A.le A.nx A.on A.lo))
 ca:pA M A.ca=Fa (A.cs.map λk=>D.ref k.p)
 le:pA M A.le=Fa (V.m8.map sC.d)
 nx:Aa M A.nx=Fa (tT V.ps)
 on:pA M A.on=Fa (V.on.map D.bl)
 lo:pA M A.lo=Fa (V.log.map Ev.d)
 len:A.cs.length=V.calls.length
 cs:∀(i:Nat) k c,A.cs[i]?=Fa k->V.calls[i]?=Fa c->sf a M (A.lists++V.fo) k c
 nl:A.lists.Nodup
 np:(A.b::A.cs.map (·.p)).Nodup
 fo:∀x∈V.fo,∃c,M x=Fa c
def wU{F:QXQ}{M:Mp}{p:Uf}{c:vd}(h:∀x∈F,∃c,M x=Fa c):∀x∈F,∃d,pP M p c x=Fa d:=λx hx=>by
 by_cases z:x=p
 .exact⟨c,by rw[z];exact qa⟩
 .obtain⟨d,e⟩:=h x hx;exact⟨d,sQ.put x d z e⟩
def sf.sub{k:rN}{c:pM}(h:sf a M L k c)(s:qF M M'):sf a M' L k c:=by obtain⟨ad,md,h1,h2,h3,h4,h5⟩:=h;exact⟨ad,md,s _ _ h1,s.lst h2,s.lst h3,s.lst h4,h5⟩
def pV.sub{A:tI}{V:qz}(h:pV a M A V)(s:qF M M'):pV a M' A V:=⟨s _ _ h.at_,s.lst h.ca,s.lst h.le,s.dk h.nx,s.lst h.on,s.lst h.lo,h.len,λi k c e1 e2=>(h.cs i k c e1 e2).sub s,h.nl,h.np,λx hx=>(h.fo x hx).imp λc e=>s x c e⟩
def sf.n9{k:rN}{c:pM}{x:Uf}{ds:T0 D}(h:sf a M L k c)(kp:sQ x M M')(hl:pA M x=Fa ds)(hx:x∈L)(hn:k.wy≠x):sf a M' L k c:=by obtain⟨ad,md,h1,h2,h3,h4,h5,h6⟩:=h;exact⟨ad,md,kp _ _ (λz=>by rw[z,qk hl]at h1;cases h1) h1,kp.lst hn h2,kp.lst (λz=>h5 (z ▸ hx)) h3,kp.lst (λz=>h6 (z ▸ hx)) h4,h5,h6⟩
def sf.oj{k:rN}{c:pM}{x C:Uf}{fs:T0 (Str×D)}(h:sf a M L k c)(kp:sQ x M M')(hi:M x=Fa (.ins C fs))(hn:k.p≠x):sf a M' L k c:=by obtain⟨ad,md,h1,h2,h3,h4,h5⟩:=h;exact⟨ad,md,kp _ _ hn h1,kp.lst (qg h2 hi) h2,kp.lst (qg h3 hi) h3,kp.lst (qg h4 hi) h4,h5⟩
def vf{a p:Uf}{ds:T0 (rj×D)}{es:T0 D}(h:Aa M a=Fa ds)(hp:pA M p=Fa es):a≠p:=λz=>by subst z;unfold Aa at h;rw[qk hp]at h;cases h
def sf.oW{k:rN}{c:pM}{x:Uf}{ds:T0 (rj×D)}(h:sf a M L k c)(kp:sQ x M M')(hd:Aa M x=Fa ds):sf a M' L k c:=by obtain⟨ad,md,h1,h2,h3,h4,h5⟩:=h;exact⟨ad,md,kp _ _ (λz=>by rw[z,yz hd]at h1;cases h1) h1,kp.lst (dO (vf hd h2)) h2,kp.lst (dO (vf hd h3)) h3,kp.lst (dO (vf hd h4)) h4,h5⟩
def qW{α:Type}{l:List α}{i:Nat}{x:α}(h:l[i]?=Fa x):x∈l:=fk h
def pV.ne{A:tI}{V:qz}(h:pV a M A V):A.ca≠A.le/\A.ca≠A.on/\A.ca≠A.lo/\A.le≠A.on/\A.le≠A.lo/\A.on≠A.lo/\∀k∈A.cs,k.wy≠A.ca/\k.wy≠A.le/\k.wy≠A.on/\k.wy≠A.lo:=by
 have n:=h.nl;unfold tI.lists at n;obtain⟨n1,n⟩:=dR.mp n;obtain⟨n2,n⟩:=dR.mp n;obtain⟨n3,n⟩:=dR.mp n;obtain⟨n4,n⟩:=dR.mp n;have w:∀k∈A.cs,k.wy∈A.cs.map (·.wy):=λk hk=>dB.mpr ⟨k,hk,Z'⟩;refine⟨λz=>n1 (z ▸ by simp),λz=>n1 (z ▸ by simp),λz=>n1 (z ▸ by simp),λz=>n2 (z ▸ by simp),λz=>n2 (z ▸ by simp),λz=>n3 (z ▸ by simp),λk hk=>⟨λz=>n1 ?_,λz=>n2 ?_,λz=>n3 ?_,λz=>n4 ?_⟩⟩
 .rw[<-z];exact dC _ (dC _ (dC _ (w k hk)))
 .rw[<-z];exact dC _ (dC _ (w k hk))
 .rw[<-z];exact dC _ (w k hk)
 .rw[<-z];exact w k hk
def pV.oz{A:tI}{V:qz}(_:pV a M A V):A.ca∈A.lists/\A.le∈A.lists/\A.lo∈A.lists/\(∀k∈A.cs,k.wy∈A.lists)/\A.on∈A.lists:=by unfold tI.lists;refine⟨by simp,by simp,by simp,?_,by simp⟩;exact λk hk=>by simp;exact .inr (.inr (.inr (.inr ⟨k,hk,Z'⟩)))
def pV.oV{A:tI}{V:qz}(h:pV a M A V):A.ca∈A.lists++V.fo/\A.le∈A.lists++V.fo/\A.lo∈A.lists++V.fo/\(∀k∈A.cs,k.wy∈A.lists++V.fo)/\A.on∈A.lists++V.fo:=by obtain⟨h1,h2,h3,h4,h5⟩:=h.oz;exact⟨fg _ h1,fg _ h2,fg _ h3,λk hk=>fg _ (h4 k hk),fg _ h5⟩
def rb(A:tI)(M:Mp)(A':tI)(M':Mp):Prop:=(∀x c,x∉A.foot->M x=Fa c->M' x=Fa c)/\(∀x∈A'.foot,x∈A.foot\/M x=Db)/\(∀(i:Nat) k,A.cs[i]?=Fa k->A'.cs[i]?=Fa k)/\∀x c,M x=Fa c->∃d,M' x=Fa d
def E2{M:Mp}{p y:Uf}{c d:vd}(h:M y=Fa d):∃e,pP M p c y=Fa e:=by
 by_cases z:y=p
 .exact⟨c,by rw[z];exact qa⟩
 .exact⟨d,sQ.put y d z h⟩
def rb.refl{A:tI}:rb A M A M:=⟨λ_ _ _ h=>h,λ_ h=>.inl h,λ_ _ h=>h,λ_ c h=>⟨c,h⟩⟩
def rb.trans{A A1 A2:tI}{M M1 M2:Mp}(s:rb A M A1 M1)(u:rb A1 M1 A2 M2):rb A M A2 M2:=by
 refine⟨λx c n h=>u.1 x c (λz=>?_) (s.1 x c n h),λx hx=>?_,λi k h=>u.2.2.1 i k (s.2.2.1 i k h),λx c h=>(s.2.2.2 x c h).elim λd e=>u.2.2.2 x d e⟩
 .rcases s.2.1 x z with y|y
  .exact n y
  .rw[y]at h;cases h
 .rcases u.2.1 x hx with z|z
  .exact s.2.1 x z
  .by_cases y:x∈A.foot
   .exact .inl y
   .refine .inr ?_;cases e:M x with
    | none=>rfl
    | some c=>rw[s.1 x c y e]at z;cases z
def rb.keep{A:tI}{x:Uf}{c:vd}(h:x∈A.foot)(k:sQ x M (pP M x c)):rb A M A (pP M x c):=⟨λy c n e=>k y c (λz=>n (z ▸ h)) e,λ_ h=>.inl h,λ_ _ h=>h,λ_ _ h=>E2 h⟩
def rb.sub{A:tI}(s:qF M M'):rb A M A M':=⟨λy c _ e=>s y c e,λ_ h=>.inl h,λ_ _ h=>h,λx c h=>⟨c,s x c h⟩⟩
def tI.mX(A:tI):A.b∈A.foot/\A.nx∈A.foot/\A.ca∈A.foot/\A.le∈A.foot/\A.lo∈A.foot/\(∀k∈A.cs,k.p∈A.foot)/\∀k∈A.cs,k.wy∈A.foot:=by unfold tI.foot tI.lists;exact⟨by simp,by simp,by simp,by simp,by simp,λk hk=>by simp;exact .inr (.inr (.inr (.inr (.inr (.inr (.inr ⟨k,hk,Z'⟩)))))),λk hk=>by simp;exact .inr (.inr (.inr (.inr (.inr (.inr (.inl ⟨k,hk,Z'⟩))))))⟩
def tI.nP(A:tI){x:Uf}(h:x∈A.lists):x∈A.foot:=by unfold tI.foot;exact dC _ (dC _ (dQ.mpr (.inl h)))
variable {M M1:Mp}{A:tI}{V:qz}
def Fs{α:Type}{l:List α}{i j:Nat}{x y:α}(h:(l.set i x)[j]?=Fa y):(j=i/\y=x/\i<l.length)\/(j≠i/\l[j]?=Fa y):=by
 by_cases z:j=i
 .subst z;by_cases hl:j<l.length
  .rw[eM hl]at h;exact .inl ⟨Z',(dh h).symm,hl⟩
  .rw[gB (by rw[ig];omega)]at h;cases h
 .rw[eQ (dO z)]at h;exact .inr ⟨z,h⟩
def LR{α β:Type}{f:α->β}{l:List α}{i j:Nat}{x y:α}(nd:(l.map f).Nodup)(h1:l[i]?=Fa x)(h2:l[j]?=Fa y)(e:f x=f y):i=j:=by
 have e1:(l.map f)[i]?=Fa (f x):=by rw[dD,h1];rfl
 have e2:(l.map f)[j]?=Fa (f y):=by rw[dD,h2];rfl
 obtain⟨l1,q1⟩:=cX.mp e1;obtain⟨l2,q2⟩:=cX.mp e2;exact(lN nd).mp (q1.trans (e.trans q2.symm))
def pV.nw(h:pV a M A V):(A.cs.map (·.wy)).Nodup:=(dR.mp (dR.mp (dR.mp (dR.mp h.nl).2).2).2).2
def pV.o9(h:pV a M A V):(A.cs.map (·.p)).Nodup/\∀k∈A.cs,k.p≠A.b:=⟨(dR.mp h.np).2,λk hk z=>(dR.mp h.np).1 (z ▸ dB.mpr ⟨k,hk,Z'⟩)⟩
def pV.oF(h:pV a M A V){es:T0 Ev}:pV a (pP M A.lo (.lst (es.map Ev.d))) A {V with log:=es}/\rb A M A (pP M A.lo (.lst (es.map Ev.d))):=by have kp:sQ A.lo M (pP M A.lo (.lst (es.map Ev.d))):=.put;obtain⟨n1,n2,n3,n4,n5,n6,nw⟩:=h.ne;exact⟨⟨kp _ _ (dO (qg h.lo h.at_)) h.at_,kp.lst n3 h.ca,kp.lst n5 h.le,kp.dk (vf h.nx h.lo) h.nx,kp.lst n6 h.on,pQ,h.len,λi k c e1 e2=>(h.cs i k c e1 e2).n9 kp h.lo h.oV.2.2.1 (nw k (qW e1)).2.2.2,h.nl,h.np,wU h.fo⟩,.keep A.mX.2.2.2.2.1 kp⟩
def pV.oM(h:pV a M A V){es:List sC}:pV a (pP M A.le (.lst (es.map sC.d))) A {V with m8:=es}/\rb A M A (pP M A.le (.lst (es.map sC.d))):=by have kp:sQ A.le M (pP M A.le (.lst (es.map sC.d))):=.put;obtain⟨n1,n2,n3,n4,n5,n6,nw⟩:=h.ne;exact⟨⟨kp _ _ (dO (qg h.le h.at_)) h.at_,kp.lst n1 h.ca,pQ,kp.dk (vf h.nx h.le) h.nx,kp.lst (dO n4) h.on,kp.lst (dO n5) h.lo,h.len,λi k c e1 e2=>(h.cs i k c e1 e2).n9 kp h.le h.oV.2.1 (nw k (qW e1)).2.1,h.nl,h.np,wU h.fo⟩,.keep A.mX.2.2.2.1 kp⟩
def pV.oZ(h:pV a M A V){bs:T0 Bool}:pV a (pP M A.on (.lst (bs.map D.bl))) A {V with on:=bs}/\rb A M A (pP M A.on (.lst (bs.map D.bl))):=by have kp:sQ A.on M (pP M A.on (.lst (bs.map D.bl))):=.put;obtain⟨n1,n2,n3,n4,n5,n6,nw⟩:=h.ne;exact⟨⟨kp _ _ (dO (qg h.on h.at_)) h.at_,kp.lst n2 h.ca,kp.lst n4 h.le,kp.dk (vf h.nx h.on) h.nx,pQ,kp.lst (dO n6) h.lo,h.len,λi k c e1 e2=>(h.cs i k c e1 e2).n9 kp h.on h.oV.2.2.2.2 (nw k (qW e1)).2.2.1,h.nl,h.np,wU h.fo⟩,.keep (A.nP h.oz.2.2.2.2) kp⟩
def pV.pb(h:pV a M A V){ps:T0 (Str×Int)}:pV a (pP M A.nx (.dk (tT ps))) A {V with ps:=ps}/\rb A M A (pP M A.nx (.dk (tT ps))):=by have kp:sQ A.nx M (pP M A.nx (.dk (tT ps))):=.put;exact⟨⟨kp _ _ (dO (CO h.nx h.at_)) h.at_,kp.lst (dO (vf h.nx h.ca)) h.ca,kp.lst (dO (vf h.nx h.le)) h.le,CT qa,kp.lst (dO (vf h.nx h.on)) h.on,kp.lst (dO (vf h.nx h.lo)) h.lo,h.len,λi k c e1 e2=>(h.cs i k c e1 e2).oW kp h.nx,h.nl,h.np,wU h.fo⟩,.keep A.mX.2.1 kp⟩
def pV.putT(h:pV a M A V){t:Int}:pV a (pP M A.b (.ins a.c (ud (.ref V.p) V.h t A.ca A.le A.nx A.on A.lo))) A {V with t:=t}/\rb A M A (pP M A.b (.ins a.c (ud (.ref V.p) V.h t A.ca A.le A.nx A.on A.lo))):=by have kp:sQ A.b M (pP M A.b (.ins a.c (ud (.ref V.p) V.h t A.ca A.le A.nx A.on A.lo))):=.put;exact⟨⟨qa,kp.lst (qg h.ca h.at_) h.ca,kp.lst (qg h.le h.at_) h.le,kp.dk (CO h.nx h.at_) h.nx,kp.lst (qg h.on h.at_) h.on,kp.lst (qg h.lo h.at_) h.lo,h.len,λi k c e1 e2=>(h.cs i k c e1 e2).oj kp h.at_ (h.o9.2 k (qW e1)),h.nl,h.np,wU h.fo⟩,.keep A.mX.1 kp⟩
def pV.oq(h:pV a M A V){i:Nat}{k:rN}{c c':pM}{ad md:Uf}(e1:A.cs[i]?=Fa k)(e2:V.calls[i]?=Fa c)(ew:c'.way=c.way)(la:pA M ad=Fa (c'.at_.map D.str))(lm:pA M md=Fa (c'.ms.map D.str))(na:ad∉A.lists++V.fo)(nm:md∉A.lists++V.fo):
  pV a (pP M k.p (.ins a.e (rE c' k.wy ad md))) A {V with calls:=V.calls.set i c'}/\rb A M A (pP M k.p (.ins a.e (rE c' k.wy ad md))):=by
 have kp:sQ k.p M (pP M k.p (.ins a.e (rE c' k.wy ad md))):=.put;obtain⟨_,_,h1,h2,_⟩:=h.cs i k c e1 e2;refine⟨⟨kp _ _ (dO (h.o9.2 k (qW e1))) h.at_,kp.lst (qg h.ca h1) h.ca,kp.lst (qg h.le h1) h.le,kp.dk (CO h.nx h1) h.nx,kp.lst (qg h.on h1) h.on,kp.lst (qg h.lo h1) h.lo,by rw[h.len,ig],λj k' d f1 f2=>?_,h.nl,h.np,wU h.fo⟩,.keep (A.mX.2.2.2.2.2.1 k (qW e1)) kp⟩;rcases Fs f2 with⟨rfl,rfl,_⟩|⟨hj,f2⟩
 .rw[e1]at f1;cases f1;exact⟨ad,md,qa,by rw[ew];exact kp.lst (qg h2 h1) h2,kp.lst (qg la h1) la,kp.lst (qg lm h1) lm,na,nm⟩
 .exact(h.cs j k' d f1 f2).oj kp h1 λz=>hj (LR h.o9.1 f1 e1 z)
def pV.oE(h:pV a M A V){i:Nat}{k:rN}{c:pM}{ws:QQQ}(e1:A.cs[i]?=Fa k)(e2:V.calls[i]?=Fa c):
  pV a (pP M k.wy (.lst (ws.map D.str))) A {V with calls:=V.calls.set i {c with way:=ws}}/\rb A M A (pP M k.wy (.lst (ws.map D.str))):=by
 have kp:sQ k.wy M (pP M k.wy (.lst (ws.map D.str))):=.put;obtain⟨ad,md,h1,h2,h3,h4,h5,h6⟩:=h.cs i k c e1 e2;obtain⟨n1,n2,n3,n4,n5,n6,nw⟩:=h.ne;obtain⟨w1,w2,w3,w4⟩:=nw k (qW e1);have kL:=h.oV.2.2.2.1 k (qW e1);refine⟨⟨kp _ _ (dO (qg h2 h.at_)) h.at_,kp.lst (dO w1) h.ca,kp.lst (dO w2) h.le,kp.dk (vf h.nx h2) h.nx,kp.lst (dO w3) h.on,kp.lst (dO w4) h.lo,by rw[h.len,ig],λj k' d f1 f2=>?_,h.nl,h.np,wU h.fo⟩,.keep (A.mX.2.2.2.2.2.2 k (qW e1)) kp⟩;rcases Fs f2 with⟨rfl,rfl,_⟩|⟨hj,f2⟩
 .rw[e1]at f1;cases f1;exact⟨ad,md,kp _ _ (dO (qg h2 h1)) h1,pQ,kp.lst (λz=>h5 (z ▸ kL)) h3,kp.lst (λz=>h6 (z ▸ kL)) h4,h5,h6⟩
 .exact(h.cs j k' d f1 f2).n9 kp h2 kL λz=>hj (LR h.nw f1 e1 z)
noncomputable def tI.add(A:tI)(k:rN):tI:={A with cs:=A.cs++[k]}
def AE(A:tI)(k:rN):(A.add k).lists=A.lists++[k.wy]:=by unfold tI.add tI.lists;rw[dM];rfl
def pV.oS(h:pV a M A V):(∀x∈A.lists,∃ds,pA M x=Fa ds)/\∀x∈A.foot,∃c,M x=Fa c:=by
 have hc:∀k∈A.cs,(∃ds,pA M k.wy=Fa ds)/\∃c,M k.p=Fa c:=λk hk=>by
  obtain⟨i,hi,e⟩:=gO hk;have e1:A.cs[i]?=Fa k:=by rw[cV hi,e]
  have YK:i<V.calls.length:=by rw[<-h.len];exact hi
  have e2:V.calls[i]?=Fa V.calls[i]:=cV YK;obtain⟨ad,md,h1,h2,_⟩:=h.cs i k _ e1 e2;exact⟨⟨_,h2⟩,_,h1⟩
 have hl:∀x∈A.lists,∃ds,pA M x=Fa ds:=λx hx=>by
  unfold tI.lists at hx;simp only[de,dB]at hx;rcases hx with rfl|rfl|rfl|rfl|⟨k,hk,rfl⟩
  .exact⟨_,h.ca⟩
  .exact⟨_,h.le⟩
  .exact⟨_,h.on⟩
  .exact⟨_,h.lo⟩
  .exact(hc k hk).1
 refine⟨hl,λx hx=>?_⟩;unfold tI.foot at hx;simp only[de,dQ,dB]at hx;rcases hx with rfl|rfl|hx|⟨k,hk,rfl⟩
 .exact⟨_,h.at_⟩
 .exact⟨_,yz h.nx⟩
 .obtain⟨ds,e⟩:=hl x hx;exact⟨_,qk e⟩
 .exact(hc k hk).2
def pV.om(h:pV a M A V){x:Uf}(hx:M x=Db):x∉A.lists:=λz=>by obtain⟨ds,e⟩:=h.oS.1 x z;have:=qk e;rw[hx]at this;cases this
def pV.nB(h:pV a M A V){x:Uf}(hx:M x=Db):x∉A.lists++V.fo:=λz=>by
 rcases dQ.mp z with z|z
 .exact h.om hx z
 .obtain⟨c,e⟩:=h.fo x z;rw[hx]at e;cases e
def pV.nI(h:pV a M A V){x:Uf}(hx:M x=Db):x∉A.foot:=λz=>by obtain⟨ds,e⟩:=h.oS.2 x z;rw[hx]at e;cases e
def pV.ou(h:pV a M A V)(s:qF M M1){p wy ad md:Uf}{c:pM}(hp:M p=Db)(hw:M wy=Db)(ha:M ad=Db)(hm:M md=Db)(h1:M1 p=Fa (.ins a.e (rE c wy ad md)))(h2:pA M1 wy=Fa (c.way.map D.str))(h3:pA M1 ad=Fa (c.at_.map D.str))(h4:pA M1 md=Fa (c.ms.map D.str))(n1:ad≠wy)(n2:md≠wy):
  pV a (pP M1 A.ca (.lst ((A.cs.map λk=>D.ref k.p)++[.ref p]))) (A.add ⟨p,wy⟩) {V with calls:=V.calls++[c]}/\rb A M (A.add ⟨p,wy⟩) (pP M1 A.ca (.lst ((A.cs.map λk=>D.ref k.p)++[.ref p]))):=by
 have h':=h.sub s;have kp:sQ A.ca M1 (pP M1 A.ca (.lst ((A.cs.map λk=>D.ref k.p)++[.ref p]))):=.put;obtain⟨m1,m2,m3,m4,m5,m6,nw⟩:=h.ne;have wL:wy∉A.lists:=h.om hw;have cL:=h.oV.1;have nl':∀x,x∉A.lists++V.fo->x≠wy->x∉(A.add ⟨p,wy⟩).lists++V.fo:=λx h1 h2=>by
  rw[AE,dQ,dQ,dg]
  rintro ((z|z)|z)
  .exact h1 (fg _ z)
  .exact h2 z
  .exact h1 (eA _ z)
 have Yp:∀x c,M x=Fa c->x≠wy:=λx c e z=>by rw[z,hw]at e;cases e
 refine⟨⟨kp _ _ (dO (qg h'.ca h'.at_)) h'.at_,?_,kp.lst (dO m1) h'.le,kp.dk (vf h'.nx h'.ca) h'.nx,kp.lst (dO m2) h'.on,kp.lst (dO m3) h'.lo,?_,λi k d e1 e2=>?_,?_,?_,wU h'.fo⟩,λx d n e=>kp x d (λz=>n (z ▸ A.mX.2.2.1)) (s x d e),λx hx=>?_,λi k e=>by show(A.cs++[(⟨p,wy⟩:rN)])[i]?=Fa k;rw[eY (cX.mp e).1];exact e,λx d e=>E2 (s x d e)⟩
 .show pA _ A.ca=Fa ((A.cs++[(⟨p,wy⟩:rN)]).map λk=>D.ref k.p);rw[dM];exact pQ
 .show(A.cs++[(⟨p,wy⟩:rN)]).length=(V.calls++[c]).length;rw[cW,cW,h.len];rfl
 .have e1:(A.cs++[(⟨p,wy⟩:rN)])[i]?=Fa k:=e1;have e2:(V.calls++[c])[i]?=Fa d:=e2;by_cases hi:i<A.cs.length
  .rw[eY hi]at e1;rw[eY (by rw[<-h.len];exact hi)]at e2;obtain⟨ad',md',g1,g2,g3,g4,g5,g6⟩:=(h.cs i k d e1 e2);refine⟨ad',md',kp _ _ (λz=>by have:=s _ _ g1;rw[z,qk h'.ca]at this;cases this) (s _ _ g1),kp.lst (nw k (qW e1)).1 (s.lst g2),kp.lst (λz=>g5 (z ▸ cL)) (s.lst g3),kp.lst (λz=>g6 (z ▸ cL)) (s.lst g4),nl' _ g5 (Yp _ _ (qk g3)),nl' _ g6 (Yp _ _ (qk g4))⟩
  .have Zp:i=A.cs.length:=by have:=(cX.mp e1).1;rw[cW,dP]at this;omega
   subst Zp;rw[eW (dq _)]at e1;rw[h.len,eW (dq _)]at e2;simp only[hU,iC,ju]at e1 e2;subst e1 e2;have q1:p≠A.ca:=λz=>by rw[z,qk h'.ca]at h1;cases h1
   have q2:wy≠A.ca:=λz=>wL (z ▸ h.oz.1);exact⟨ad,md,kp p _ q1 h1,kp.lst (a:=wy) q2 h2,kp.lst (λz=>h.nB ha (z ▸ cL)) h3,kp.lst (λz=>h.nB hm (z ▸ cL)) h4,nl' _ (h.nB ha) n1,nl' _ (h.nB hm) n2⟩
 .rw[AE];refine gm.mpr ⟨h.nl,dR.mpr ⟨dA,eI⟩,λx hx y hy=>?_⟩;rw[dg]at hy;subst hy;exact λz=>wL (z ▸ hx)
 .show(A.b::(A.cs++[(⟨p,wy⟩:rN)]).map (·.p)).Nodup;rw[dM,<-List.cons_append];refine gm.mpr ⟨h.np,dR.mpr ⟨dA,eI⟩,λx hx y hy=>?_⟩;rw[dU,iP,dg]at hy;subst hy;refine λz=>h.nI hp (z ▸ ?_);rcases de.mp hx with y|y
  .rw[y];exact A.mX.1
  .obtain⟨k,hk,rfl⟩:=dB.mp y;exact A.mX.2.2.2.2.2.1 k hk
 .unfold tI.foot at hx;rw[AE]at hx;have hx:x∈A.b::A.nx::(A.lists++[wy]++(A.cs++[(⟨p,wy⟩:rN)]).map (·.p)):=hx;simp only[de,dQ,dM,dU,iP,dA,eL]at hx;unfold tI.foot;simp only[de,dQ];rcases hx with z|z|(z|z)|(z|z)
  .exact .inl (.inl z)
  .exact .inl (.inr (.inl z))
  .exact .inl (.inr (.inr (.inl z)))
  .exact .inr (by rw[z];exact hw)
  .exact .inl (.inr (.inr (.inr z)))
  .exact .inr (by rw[z];exact hp)
def pV.oG{V:qz}{p:Uf}{es:List sC}(h:pV a M A V)(hp:M p=Db):
  pV a (pP (pP M p (.lst (es.map sC.d))) A.b (.ins a.c (ud (.ref V.p) V.h V.t A.ca p A.nx A.on A.lo))) {A with le:=p} {V with m8:=es}/\rb A M {A with le:=p} (pP (pP M p (.lst (es.map sC.d))) A.b (.ins a.c (ud (.ref V.p) V.h V.t A.ca p A.nx A.on A.lo))):=by
 have t:=qF.new (c:=.lst (es.map sC.d)) hp;have lp:=@pQ M p (es.map sC.d);have h1:=h.sub t;have np:p∉A.lists:=h.om hp;have nf:p∉A.foot:=h.nI hp;have Yp:∀x c,M x=Fa c->x≠p:=λx c e z=>by rw[z,hp]at e;cases e
 generalize pP M p (.lst (es.map sC.d))=M1 at t lp h1 ⊢;have kp:sQ A.b M1 (pP M1 A.b (.ins a.c (ud (.ref V.p) V.h V.t A.ca p A.nx A.on A.lo))):=.put;have sub:∀x,x∉A.lists++V.fo->x≠p->x∉({A with le:=p}:tI).lists++V.fo:=λx h1 h2 z=>by
  rcases dQ.mp z with z|z
  rotate_left
  .exact h1 (eA _ z)
  have h1:x∉A.lists:=λy=>h1 (fg _ y);unfold tI.lists at h1 z;simp only[de,fJ]at h1 z;rcases z with z|z|z|z|z
  .exact h1.1 z
  .exact h2 z
  .exact h1.2.2.1 z
  .exact h1.2.2.2.1 z
  .exact h1.2.2.2.2 z
 refine⟨⟨qa,kp.lst (qg h1.ca h1.at_) h1.ca,kp.lst (qg lp h1.at_) lp,kp.dk (CO h1.nx h1.at_) h1.nx,kp.lst (qg h1.on h1.at_) h1.on,kp.lst (qg h1.lo h1.at_) h1.lo,h.len,λi k c e1 e2=>?_,?_,h.np,wU h1.fo⟩,λx c n e=>kp x c (λz=>n (z ▸ A.mX.1)) (t x c e),λx hx=>?_,λi k e=>e,λx d e=>E2 (t x d e)⟩
 .obtain⟨ad,md,g1,g2,g3,g4,g5,g6⟩:=(h.cs i k c e1 e2);obtain⟨ad',md',f1,f2,f3,f4,f5⟩:=((h.cs i k c e1 e2).sub t).oj kp h1.at_ (h.o9.2 k (qW e1));have q1:=kp _ _ (λz=>h.o9.2 k (qW e1) z) (t _ _ g1);exact⟨ad,md,q1,f2,kp.lst (qg (t.lst g3) h1.at_) (t.lst g3),kp.lst (qg (t.lst g4) h1.at_) (t.lst g4),sub _ g5 (Yp _ _ (qk g3)),sub _ g6 (Yp _ _ (qk g4))⟩
 .have n:=h.nl;unfold tI.lists at n np ⊢;simp only[de,fJ]at np;simp only[dR,de,fJ]at n ⊢;exact⟨⟨λz=>np.1 z.symm,n.1.2⟩,⟨np.2.2.1,np.2.2.2.1,np.2.2.2.2⟩,n.2.2⟩
 .by_cases z:x=p
  .exact .inr (z ▸ hp)
  .refine .inl ?_;unfold tI.foot tI.lists at hx ⊢;simp only[de,dQ]at hx ⊢;rcases hx with y|y|(y|y|y|y|y)|y
   .exact .inl y
   .exact .inr (.inl y)
   .exact .inr (.inr (.inl (.inl y)))
   .exact absurd y z
   .exact .inr (.inr (.inl (.inr (.inr (.inl y)))))
   .exact .inr (.inr (.inl (.inr (.inr (.inr (.inl y))))))
   .exact .inr (.inr (.inl (.inr (.inr (.inr (.inr y))))))
   .exact .inr (.inr (.inr y))
def pV.frame{V:qz}(h:pV a M A V)(st:rb A1 M A2 M')(h1:∀x∈A1.foot,x∉A.foot)(h2:∀x∈A1.foot,x∈V.fo\/M x=Db):pV a M' A V:=by
 have hf:∀x∈A.foot,∀c,M x=Fa c->M' x=Fa c:=λx hx c e=>st.1 x c (λz=>h1 x z hx) e;have hl:∀{x:Uf} {ds:T0 D},x∈A.foot->pA M x=Fa ds->pA M' x=Fa ds:=λhx e=>se (hf _ hx _ (qk e));have ho:∀{x:Uf} {ds:T0 D},x∉A.lists++V.fo->pA M x=Fa ds->pA M' x=Fa ds:=λ{x ds} hx e=>se (st.1 x _ (λz=>(h2 x z).elim (λy=>hx (eA _ y)) λy=>by rw[qk e]at y;cases y) (qk e));obtain⟨f1,f2,f3,f4,f5,f6,f7⟩:=A.mX;exact⟨hf _ f1 _ h.at_,hl f3 h.ca,hl f4 h.le,CT (hf _ f2 _ (yz h.nx)),hl (A.nP h.oz.2.2.2.2) h.on,hl f5 h.lo,h.len,λi k c e1 e2=>by
  obtain⟨ad,md,g1,g2,g3,g4,g5,g6⟩:=h.cs i k c e1 e2;exact⟨ad,md,hf _ (f6 k (qW e1)) _ g1,hl (f7 k (qW e1)) g2,ho g5 g3,ho g6 g4,g5,g6⟩,h.nl,h.np,λx hx=>(h.fo x hx).elim λc e=>st.2.2.2 x c e⟩
def xS(x:D)(l:T0 D):wQ (x::l) 0=Fa x:=by
 unfold wQ;have:Hj (x::l).length 0=Fa 0:=by unfold Hj;rw[d6];simp
 rw[this];rfl
def xK(f:pM->Str->Bool)(a:Ad):rH:=λds M Q=>Cg λL k c x=>ds=[.ref k.p,.str x]/\sf a M L k c/\Q (.bl (f c x)) M
abbrev Ip:=xK pM.hasB
abbrev Ac:=xK pM.mY
abbrev Fg:=xK pM.nq
abbrev yT:=xK pM.mZ
abbrev vW:=xK pM.mT
abbrev FN:=xK pM.m7
abbrev xy:=xK pM.nG
noncomputable def O0(x:Str):D->Bool
 | .str y=>!(y==x)
 | _=>lf
def zu(a:Ad):rH:=λds M Q=>Kt λL k c x y r=>ds=[.ref k.p,.str x]/\sf a M L k c/\c.ms.length<=100/\rV c.ms x=y::r/\Q (.str y) M
def CK(ss:QQQ)(x:Str):[]++(List.filter (O0 x) (ss.map D.str)).map id=(rV ss x).map D.str:=by rw[dX,iG,gC];rfl
def En{k:Uf}{ks:QQQ}{c:Str}{K:DK}(hk:pA M k=Fa (ks.map D.str))(h:K (.bl (hasS ks c)) M):Tc lf (.str c) (.ref k) M K:=by refine pG hk ⟨Z',qH ks,?_⟩;show K (.bl (inD (.str c) (ks.map D.str))) M;rw[sT];exact h
def Xe(w x y:Str):inD (.str w) [.str x,.str y]=(w==x||w==y):=by rw[show[D.str x,D.str y]=[x,y].map D.str from rfl,sT,gk];simp only[fZ,List.any_nil,kB,gT,fh];exact⟨λh=>h.imp mv mv,λh=>h.imp mv mv⟩
def SY:Fq P w K mg base 1 a.bG (Ip a):=by
 refine fq G.bG.toDG GW (λr u=>⟨_,(pH (qc (pS u (pN v0) pL)
 (pJ (pO (JP (qB u U1 (pN v0)) (tG (qB u U1 (pN v0))))))
 pU)
 (pH (qc (pS u (pN v0) pL)
 (pJ (pO (qB u U1 (pN v0))))
 pU)
 (pJ (pO (tR (qB u (pN v0) (pY (sE pL pL))) (tG (qB u U1 (pN v0)))))))),?_⟩)
 rintro ds M Q ⟨L,k,c,x,rfl,⟨ad,md,h1,h2,h3,h4,_⟩,q⟩
 unfold pM.hasB at q;refine pI h1 (pG Z' ?_);refine qS (c:=c.st=="rings") (λg=>?_) (λg=>?_)
 .rw[c9 g]at q;refine pI h1 (pG Z' (qS (c:=x==c.cr) (λg2=>?_) (λg2=>?_)))
  .rw[g2]at q;exact⟨M,.refl,q⟩
  .rw[show(x==c.cr)=lf from dJ.mpr g2,fM]at q;exact pI h1 (pG Z' (En h3 ⟨M,.refl,q⟩))
 .rw[cY g]at q;refine pI h1 (pG Z' ?_);refine qS (c:=c.st=="waits") (λg2=>?_) (λg2=>?_)
  .rw[c9 g2]at q;exact pI h1 (pG Z' ⟨M,.refl,q⟩)
  .rw[cY g2]at q;refine pI h1 (pG Z' ⟨pE Z',Z',Z',?_⟩);show if inD (.str c.st) [.str "talks",.str "held"]=pc then _ else _
   rw[Xe];refine qS (λg3=>?_) (λg3=>?_)
   .rw[g3,eJ]at q;exact pI h1 (pG Z' (En h4 ⟨M,.refl,q⟩))
   .rw[show(c.st=="talks"||c.st=="held")=lf from dJ.mpr g3,eV]at q;exact⟨M,.refl,q⟩
def wq:Fq P w K mg base 1 a.V (Ac a):=by
 refine fq G.V.toDG zm (λr u=>⟨_,(pJ (pO (tR (qB u (pN v0) pL) (tG (qB u U1 (pN v0)))))),?_⟩)
 rintro ds M Q ⟨L,k,c,x,rfl,⟨ad,md,h1,h2,h3,h4,_⟩,q⟩
 unfold pM.mY at q;refine pI h1 (pG Z' (qS (c:=c.st=="talks") (λg=>?_) (λg=>?_)))
 .rw[g,eJ]at q;exact pI h1 (pG Z' (En h4 ⟨M,.refl,q⟩))
 .rw[show(c.st=="talks")=lf from dJ.mpr g,eV]at q;exact⟨M,.refl,q⟩
def NH:Fq P w K mg base 2 a.bF (Fg a):=by
 refine fq G.bF.toDG DF (λr u=>⟨_,(pH (qc (pS u (pN v0) pL)
 (pJ (pO (tR (qB u U1 (pN v0)) (tG (qB u U1 (pN v0))))))
 pU)
 (pJ (pO (ql v0 G.e.toCls G.V (wq G) r (qA U1))))),?_⟩)
 rintro ds M Q ⟨L,k,c,x,rfl,hc,q⟩
 obtain⟨ad,md,h1,h2,h3,h4,_⟩:=id hc;unfold pM.nq at q;refine pI h1 (pG Z' ?_);refine qS (c:=c.st=="held") (λg=>?_) (λg=>?_)
 .rw[c9 g]at q;refine pI h1 (pG Z' (pG h4 ⟨Z',qH c.ms,?_⟩));show if inD (.str x) (c.ms.map D.str)=pc then _ else _
  rw[sT];refine qS (c:=hasS c.ms x) (λg2=>?_) (λg2=>?_)
  .rw[g2,eJ]at q;refine pI h1 (pG Z' ?_);cases e:c.hd with
   | none=>rw[e]at q;exact⟨M,.refl,q⟩
   | some y=>
    rw[e]at q;refine⟨M,.refl,?_⟩;rw[show(!(Fa y==Fa x))=!(x==y)from by
     show(!(y==x))=_;rw[mw]]at q
    exact q
  .rw[show hasS c.ms x=lf from dJ.mpr g2,eV]at q;exact⟨M,.refl,q⟩
 .rw[cY g]at q;exact pI h1 ⟨Z',_,⟨Z',Z'⟩,L,k,c,x,Z',hc,M,.refl,q⟩
def BM:Fq P w K mg base 1 a.X (yT a):=by
 refine fq G.X.toDG yG (λr u=>⟨_,(pJ (pO (tR (qB u (pN v0) (pY (sE pL pL))) (tG (qB u U1 (pN v0)))))),?_⟩)
 rintro ds M Q ⟨L,k,c,x,rfl,⟨ad,md,h1,h2,h3,h4,_⟩,q⟩
 unfold pM.mZ at q;refine pI h1 (pG Z' ⟨pE Z',Z',Z',?_⟩);show if inD (.str c.st) [.str "rings",.str "waits"]=pc then _ else _
 rw[Xe];refine qS (λg3=>?_) (λg3=>?_)
 .rw[g3,eJ]at q;exact pI h1 (pG Z' ⟨M,.refl,q⟩)
 .rw[show(c.st=="rings"||c.st=="waits")=lf from dJ.mpr g3,eV]at q;exact⟨M,.refl,q⟩
def Hd:Fq P w K mg base 1 a.au (vW a):=by
 refine fq G.au.toDG yQ (λr u=>⟨_,(pJ (pO (tR (qB u (pN v0) pL) (tG (qB u U1 (pN v0)))))),?_⟩)
 rintro ds M Q ⟨L,k,c,x,rfl,⟨ad,md,h1,h2,h3,h4,_⟩,q⟩
 unfold pM.mT at q;refine pI h1 (pG Z' (qS (c:=c.st=="waits") (λg=>?_) (λg=>?_)))
 .rw[g,eJ]at q;exact pI h1 (pG Z' (En h3 ⟨M,.refl,q⟩))
 .rw[show(c.st=="waits")=lf from dJ.mpr g,eV]at q;exact⟨M,.refl,q⟩
def NB:Fq P w K mg base 2 a.bE (xy a):=by
 refine fq G.bE.toDG w9 (λr u=>⟨_,(pJ (pO (JP (ql v0 G.e.toCls G.X (BM G) r (qA U1)) (JP (qB u U1 (pN v0)) (tG (qB u U1 (pN v0))))))),?_⟩)
 rintro ds M Q ⟨L,k,c,x,rfl,hc,q⟩
 obtain⟨ad,md,h1,h2,h3,h4,_⟩:=id hc;unfold pM.nG at q;refine pI h1 ⟨Z',_,⟨Z',Z'⟩,L,k,c,x,Z',hc,qS (c:=c.mZ x) (λg=>?_) (λg=>?_)⟩
 .rw[g]at q;exact⟨M,.refl,q⟩
 .rw[show c.mZ x=lf from dJ.mpr g,fM]at q;refine pI h1 (pG Z' (pG h3 ⟨Z',qH c.at_,?_⟩));show if inD (.str x) (c.at_.map D.str)=pc then _ else _
  rw[sT];refine qS (c:=hasS c.at_ x) (λg2=>?_) (λg2=>?_)
  .rw[g2]at q;exact⟨M,.refl,q⟩
  .rw[show hasS c.at_ x=lf from dJ.mpr g2,fM]at q;exact pI h1 (pG Z' (En h4 ⟨M,.refl,q⟩))
def GJ:Fq P w K mg base 2 a.aw (FN a):=by
 refine fq G.aw.toDG Dm (λr u=>⟨_,(pJ (pO (tR (ql v0 G.e.toCls G.V (wq G) r (qA U1)) (tG (qB u (qe qM Z' G.g qL (qA (pN v0))) pK))))),?_⟩)
 rintro ds M Q ⟨L,k,c,x,rfl,hc,q⟩
 obtain⟨ad,md,h1,h2,h3,h4,_⟩:=id hc;unfold pM.m7 at q;refine pI h1 ⟨Z',_,⟨Z',Z'⟩,L,k,c,x,Z',hc,qS (c:=c.mY x) (λg=>?_) (λg=>?_)⟩
 .rw[g,eJ]at q;refine pI h1 (pG Z' (pG h4 ⟨M,.refl,?_⟩));rw[cT];have:(((c.ms.length:Nat):Int)==2)=(c.ms.length==2):=by rw[gk,fh,fh];omega
  show Q (.bl (((c.ms.length:Nat):Int)==2)) M;rw[this];exact q
 .rw[show c.mY x=lf from dJ.mpr g,eV]at q;exact⟨M,.refl,q⟩
def Hw:Fq P w K mg base 1 a.av (zu a):=by
 refine fq G.av.toDG zc (λr u=>⟨_,(pJ (pO (pW (qO Z' (xD (ix:=[Db,Fa 1]) (N':=["member","phone"])) (qQ (pN v0)) (qN 0) (vE (pS u v0 U1)) v0) pK))),?_⟩)
 rintro ds M Q ⟨L,k,c,x,y,r,rfl,hc,hl,e,q⟩
 have hz:=dI;obtain⟨ad,md,h1,h2,h3,h4,_⟩:=id hc;refine pI h1 (pG Z' (pG h4 (tK (f:=id) (t:=O0 x) h4 _ [] _ (by rw[cT];simp only[dH];omega) (λd hd k0 hk=>?_) (λd hd _ k0 hk=>?_) λp hp=>?_)))
 .obtain⟨y,hy,rfl⟩:=dB.mp hd;exact hk
 .obtain⟨y,hy,rfl⟩:=dB.mp hd;exact hk
 rw[CK,e];exact pG pQ (pG (xS _ _) ⟨M,.new hp,q⟩)
theorem B0:∀bs:T0 Bool,Bf (.bl pc) (bs.map D.bl)=bs.findIdx? id
 | []=>rfl
 | b::r=>by rw[dU,List.findIdx?_cons];unfold Bf;rw[B0 r];cases b<;>rfl
theorem NJ(x:D):∀ds:T0 D,(Bf x ds).isSome=ds.any λd=>O5 d x
 | []=>rfl
 | d::r=>by
  unfold Bf;rw[fZ];by_cases h:O5 d x=pc
  .rw[c9 h,h];rfl
  .rw[cY h,jt,NJ x r,show O5 d x=lf from dJ.mpr h,fM]
theorem CB:∀bs:T0 Bool,(bs.map D.bl).all vi=pc
 | []=>rfl
 | _::r=>by rw[dU,eX,CB r];rfl
structure Rd(a:Ad)(M:Mp)(A:tI)(V:qz)(l:pR):Prop where
 bd:pV a M A V
 k:V.calls.length<=1000000
 pl:sR a M V.p l
 ok:rP l
 on:V.on.length=l.mM.length
 ms:∀c∈V.calls,(∀x∈c.ms,x∈l.pn)/\c.ms.length<=100
def Rd.sub{V:qz}(h:Rd a M A V l)(s:qF M M'):Rd a M' A V l:=⟨h.bd.sub s,h.k,h.pl.sub s,h.ok,h.on,h.ms⟩
def L4:rH:=λds M Q=>Bs λr bs=>ds=[.ref r]/\pA M r=Fa (List.map D.bl bs)/\Q (QP (bs.findIdx? id)) M
def Kk(f:qz->Str->D)(a:Ad):rH:=λds M Q=>C9 λA V x=>ds=[.ref A.b,.str x]/\pV a M A V/\V.calls.length<=1000000/\Q (f V x) M
def Ui(V:qz)(x:Str):D:=.int (vk V x:Nat)
def Nn(V:qz)(x:Str):D:=QP (Fb V x)
def AY(V:qz)(x:Str):D:=QP (vT V x)
def Vu(V:qz)(x:Str):D:=QP (Jj V x)
def Vn(V:qz)(x:Str):D:=.bl (AU V x)
abbrev EO:=Kk Ui
abbrev DB:=Kk Nn
abbrev AZ:=Kk AY
abbrev Bh:=Kk Vu
abbrev Af:=Kk Vn
def xu(a:Ad):rH:=λds M Q=>Cg λA V l x=>ds=[.ref A.b,.str x]/\Rd a M A V l/\x∈l.pn/\Q (.bl (uk l V x)) M
def Aq(a:Ad):rH:=λds M Q=>HA λA V l c z=>ds=[.ref A.b,.str c,.str z]/\Rd a M A V l/\z∈l.nm/\∀q M',qF M M'->M q=Db->pA M' q=Fa ((uH l V c z).map D.str)->Q (.ref q) M'
def AK(a:Ad):rH:=λds M Q=>Bs λA V=>ds=[.ref A.b]/\pV a M A V/\Q (.int ((V.h+V.t) % 24)) M
def Pm(a:Ad):rH:=λds M Q=>HA λA V l c z=>ds=[.ref A.b,.str c,.str z]/\Rd a M A V l/\z∈l.nm/\Q (.bl (xV l V c z)) M
def E8{V:qz}(h:pV a M A V){pre post:T0 D}{d:D}(e:pre++d::post=A.cs.map λk=>D.ref k.p):∃k c,A.cs[pre.length]?=Fa k/\V.calls[pre.length]?=Fa c/\d=.ref k.p/\sf a M (A.lists++V.fo) k c/\V.calls.take (pre.length+1)=V.calls.take pre.length++[c]:=by
 have h1:(A.cs.map λk=>D.ref k.p)[pre.length]?=Fa d:=by rw[<-e];simp
 rw[dD]at h1;cases z:A.cs[pre.length]? with
 | none=>rw[z]at h1;cases h1
 | some k=>
  rw[z]at h1;have hi:pre.length<V.calls.length:=by rw[<-h.len];exact(cX.mp z).1
  have e2:V.calls[pre.length]?=Fa V.calls[pre.length]:=cV hi;refine⟨k,_,Z',e2,(dh h1).symm,h.cs _ _ _ z e2,?_⟩;rw[gG,e2];rfl
def ze{l:pR}{x:Str}(h:x∈l.pn):∃v,l.nj x=Fa v:=by
 obtain⟨p,hp,rfl⟩:=dB.mp h;unfold pR.nj;cases e:l.mP.find? λq=>decide (q.1=p.1)with
 | some v=>exact⟨v,Z'⟩
 | none=>exact absurd (gU.mp e p hp) (by simp)
def ra:hasS ss x=pc↔x∈ss:=by unfold hasS;rw[gx];exact⟨λ⟨y,hy,e⟩=>sK e ▸ hy,λh=>⟨x,h,fv _⟩⟩
def KN(h:xi ss=pc):ss.Nodup:=by
 have h:(tH ss).length=ss.length:=by unfold xi at h;have:=fh.mp h;omega
 suffices key:∀r:QQQ,(tH r.reverse).length=r.reverse.length->r.reverse.Nodup by have:=key ss.reverse;rw[List.reverse_reverse]at this;exact this h
 intro r;induction r with
 | nil=>intro _;exact eI
 | cons k r ih=>
  intro h;rw[List.reverse_cons]at h ⊢;generalize r.reverse=l at ih h ⊢;rw[yo]at h;split at h
  .have:=JS l;rw[cW,dP]at h;omega
  .rename_i hk;rw[cW,cW,dP]at h;have h1:=ih (by omega);rw[Nf]at hk;refine gm.mpr ⟨h1,by simp,λx hx y hy=>?_⟩;rw[dg.mp hy];exact λz=>hk (z ▸ hx)
def IV{m:Int}(h:sU cs ks m=pc):cs≠[]/\(cs.length:Int)<=m/\cs.Nodup/\∀x∈cs,x∈ks:=by unfold sU at h;simp only[dS,eh,eD]at h;obtain⟨h1,h2,h3,h4⟩:=h;refine⟨λz=>by rw[z]at h1;exact absurd h1 (by decide),h2,KN h3,λx hx=>ra.mp (h4 x hx)⟩
def rP.of(ok:rP l){z:Str}(hz:z∈l.nm):(l.mL z≠[]/\(l.mL z).length<=4/\(l.mL z).Nodup/\∀x∈l.mL z,x∈l.pn)/\(z∈l.pn->l.mL z=[z]/\l.mV z="one"):=by
 have hd:=gm.mp ok.nd;have h1:z∈l.pn->l.group z=Db:=λh=>gU.mpr λg hg e=>hd.2.2 z h g.1 (dB.mpr ⟨g,hg,Z'⟩) (by simpa using e:g.1=z).symm;refine⟨?_,λh=>by unfold pR.mL pR.mV;rw[h1 h];exact⟨Z',Z'⟩⟩;unfold pR.mL;cases e:l.group z with
 | none=>
  have hp:z∈l.pn:=by
   rcases dQ.mp hz with h|h
   .exact h
   .obtain⟨g,hg,rfl⟩:=dB.mp h;exact absurd (gU.mp e g hg) (by simp)
  exact⟨fz _ _,by show 1<=4;decide,dR.mpr ⟨dA,eI⟩,λx hx=>by rw[dg.mp hx];exact hp⟩
 | some g=>obtain⟨c1,c2,c3,c4⟩:=IV (ok.go g (gi e)).mem;exact⟨c1,by show g.2.2.length<=4;omega,c3,c4⟩
def yt{V:qz}{f:pM->Str->Bool}{m x:Str}{Q:DK}{ok:Mp->Prop}(bd:pV a M A V)(hk:V.calls.length<=1000000)(mW:ok M)(hm:∀c wy ad md,(rE c wy ad md).lookup m=Db)(q:∀p,M p=Db->Q (.ref p) (pP M p (.lst ((V.calls.map λc=>f c x).map D.bl)))):
  vm (tE 0) Cw (AQ m (λC s=>C=a.e/\s=xK f a) (v3 0) (vL (v3 1) x9)) ok Q (A.cs.map λk=>D.ref k.p) [] [Db,Fa (.str x)] M:=by
 have hz:=dI;refine zZ (A.cs.map λk=>D.ref k.p) (λpre acc U M'=>M=M'/\acc=((V.calls.take pre.length).map λc=>f c x).map D.bl/\∃y,U=[y,Fa (.str x)]) (λ_ _ _ M' j=>by rw[<-j.1];exact mW) _ [] [] _ _ Z' ?_ ⟨Z',Z',Db,Z'⟩ ?_ ?_
 .rw[cT,bd.len];simp only[dH];omega
 .rintro pre d post e acc U M' ⟨rfl,rfl,y,rfl⟩ k hk
  obtain⟨ka,c,e1,e2,rfl,hc,et⟩:=E8 bd e;obtain⟨_,_,g1,_⟩:=id hc;refine pI g1 ⟨hm _ _ _ _,_,⟨Z',Z'⟩,_,ka,c,x,Z',hc,hk _ _ _ ⟨Z',?_,_,Z'⟩⟩;rw[cW,dP,et,dM,dM];rfl
 .rintro acc U M' ⟨rfl,rfl,y,rfl⟩ p hp
  rw[cT,bd.len,fF];exact q p hp
def Cs:Fq P w K mg base 1 a.L L4:=by
 refine fq G.L.toDG AD (λr u=>⟨_,(pH (qc (pS u xt v0)
 (pJ (pO (xN v0 (qA xt))))
 pU)
 (pJ (pO sD))),?_⟩)
 rintro ds M Q ⟨r,bs,rfl,hr,q⟩
 have ei:inD (.bl pc) (bs.map D.bl)=(bs.findIdx? id).isSome:=by rw[<-B0];exact(NJ _ _).symm
 refine pG hr ⟨Z',CB bs,?_⟩;show if inD (.bl pc) (bs.map D.bl)=pc then _ else _
 rw[ei];cases e:bs.findIdx? id with
 | none=>rw[e]at q;exact⟨M,.refl,q⟩
 | some j=>rw[e]at q;exact PK ⟨by show(pA M r).isSome=pc;rw[hr];rfl,pG hr ⟨Z',CB bs,pG ((B0 bs).trans e) ⟨M,.refl,q⟩⟩⟩
def Qq:Fq P w K mg base 2 a.bC (EO a):=by
 refine fq G.bC.toDG DJ (λr u=>⟨_,(pJ (pO (qe qM Z' G.g qL (qA (qO Z' (xD (ix:=[Db,Fa 1]) (N':=["call","phone"])) (qQ (pN v0)) (qN 0) (vE (va (ql v0 G.e.toCls G.bG (SY G) r (qA U1)))) v0))))),?_⟩)
 rintro ds M Q ⟨A,V,x,rfl,bd,Yl,q⟩
 have hz:=dI;refine pI bd.at_ (pG Z' (pG bd.ca ?_));refine yj (A.cs.map λk=>D.ref k.p) (λpre acc U M'=>M=M'/\acc.length=((V.calls.take pre.length).filter (·.hasB x)).length/\∃y,U=[y,Fa (.str x)]) (λ_ _ _ M' j=>by rw[<-j.1];exact bd.ca) _ [] [] _ _ Z' ?_ ⟨Z',Z',Db,Z'⟩ ?_ ?_
 .rw[cT,bd.len];simp only[dH];omega
 .rintro pre d post e acc U M' ⟨rfl,ha,y,rfl⟩ k k2 hk ZX
  obtain⟨ka,c,e1,e2,rfl,hc,et⟩:=E8 bd e;rw[cW,dP,et,jo]at hk ZX;obtain⟨_,_,g1,_⟩:=id hc;refine pI g1 ⟨Z',_,⟨Z',Z'⟩,_,ka,c,x,Z',hc,?_⟩;refine qS (c:=c.hasB x) (λg=>?_) (λg=>?_)
  .refine hk _ _ _ ⟨Z',?_,_,Z'⟩;rw[cW,cW,ha,iA (by exact g)];rfl
  .refine ZX _ _ ⟨Z',?_,_,Z'⟩;rw[cW,ha,iB (by exact g)];rfl
 .rintro acc U M' ⟨rfl,ha,y,rfl⟩ p hp
  refine pG pQ ⟨M,.new hp,?_⟩;rw[cT,bd.len,fF]at ha;rw[ha];exact q
def Ml:Fq P w K mg base 3 a.bA (DB a):=by
 refine fq G.bA.toDG C7 (λr u=>⟨_,(pJ (pO (pT (Cs G) r G.L (qA (qO Z' (xD (ix:=[Db,Fa 1]) (N':=["call","phone"])) (qQ (pN v0)) (qN 0) rY (ql v0 G.e.toCls G.bF (NH G) r (qA U1))))))),?_⟩)
 rintro ds M Q ⟨A,V,x,rfl,bd,Yl,q⟩
 refine pI bd.at_ (pG Z' (pG bd.ca (yt bd Yl bd.ca (λ_ _ _ _=>rfl) λp hp=>⟨p,_,Z',pQ,M,.new hp,?_⟩)));rw[gZ];exact q
def HD:Fq P w K mg base 3 a.bB (Bh a):=by
 refine fq G.bB.toDG AG (λr u=>⟨_,(pJ (pO (pT (Cs G) r G.L (qA (qO Z' (xD (ix:=[Db,Fa 1]) (N':=["call","phone"])) (qQ (pN v0)) (qN 0) rY (ql v0 G.e.toCls G.X (BM G) r (qA U1))))))),?_⟩)
 rintro ds M Q ⟨A,V,x,rfl,bd,Yl,q⟩
 refine pI bd.at_ (pG Z' (pG bd.ca (yt bd Yl bd.ca (λ_ _ _ _=>rfl) λp hp=>⟨p,_,Z',pQ,M,.new hp,?_⟩)));rw[gZ];exact q
def yY:Fq P w K mg base 3 a.S (AZ a):=by
 refine fq G.S.toDG Al (λr u=>⟨_,(pJ (pO (pT (Cs G) r G.L (qA (qO Z' (xD (ix:=[Db,Fa 1]) (N':=["call","phone"])) (qQ (pN v0)) (qN 0) rY (ql v0 G.e.toCls G.V (wq G) r (qA U1))))))),?_⟩)
 rintro ds M Q ⟨A,V,x,rfl,bd,Yl,q⟩
 refine pI bd.at_ (pG Z' (pG bd.ca (yt bd Yl bd.ca (λ_ _ _ _=>rfl) λp hp=>⟨p,_,Z',pQ,M,.new hp,?_⟩)));rw[gZ];exact q
def G5:Fq P w K mg base 3 a.bJ (Af a):=by
 refine fq G.bJ.toDG zw (λr u=>⟨_,(pJ (pO (qe (SZ Z') Z' G.cG RJ (qA (qO Z' (xD (ix:=[Db,Fa 1]) (N':=["call","phone"])) (qQ (pN v0)) (qN 0) rY (ql v0 G.e.toCls G.au (Hd G) r (qA U1))))))),?_⟩)
 rintro ds M Q ⟨A,V,x,rfl,bd,Yl,q⟩
 refine pI bd.at_ (pG Z' (pG bd.ca (yt bd Yl bd.ca (λ_ _ _ _=>rfl) λp hp=>pG pQ ?_)));rw[dZ];refine pG (yB _ _) ⟨M,.new hp,?_⟩;rw[jP];exact q
def GB:Fq P w K mg base 1 a.bI (AK a):=by
 refine fq G.bI.toDG zO (λr u=>⟨_,(pJ (pO (qm (qm (pN v0) (pN v0)) pK))),?_⟩)
 rintro ds M Q ⟨A,V,rfl,bd,q⟩
 exact pI bd.at_ (pG Z' (pI bd.at_ (pG Z' ⟨by decide,M,.refl,q⟩)))
def LK{l:pR}{x:Str}{v:uU}(h:l.nj x=Fa v):xm l x=v.2.1:=by unfold xm;rw[h];rfl
def y8:Fq P w K mg base 3 a.U (xu a):=by
 refine fq G.U.toDG Ah (λr u=>⟨_,(pJ (pO (qB u (ql v0 G.c.toCls G.bC (Qq G) r (qA U1)) (ql (pN v0) G.h.toCls G.bD (Dq G) r (qA U1))))),?_⟩)
 rintro ds M Q ⟨A,V,l,x,rfl,rd,hx,q⟩
 obtain⟨ph,gr,ws,Ze,pr,gd,rs,i1,_⟩:=rd.pl;obtain⟨v,hv⟩:=ze hx;refine pI rd.bd.at_ ⟨Z',_,⟨Z',Z'⟩,A,V,x,Z',rd.bd,rd.k,?_⟩;refine pI rd.bd.at_ (pG Z' (pI i1 ⟨Z',_,⟨Z',Z'⟩,V.p,x,v,l,Z',rd.pl,hv,?_⟩));unfold uk at q;rw[LK hv]at q;exact⟨M,.refl,q⟩
def AW:Fq P w K mg base 4 a.aL (Aq a):=by
 refine fq G.aL.toDG zr (λr u=>⟨_,(pJ (pO (qO Z' (xD (ix:=[Db,Fa 1,Fa 0]) (N':=["phone","caller","self"])) (qQ (ql (pN v0) G.h.toCls G.Y (uF G) r (qA U2))) (qN 0) (vE (W3.b3 (yS (pS u v0 U1) (yC (va (ql U2 G.c.toCls G.U (y8 G) r (qA v0))))))) v0))),?_⟩)
 rintro ds M Q ⟨A,V,l,c,z,rfl,rd,YT,q⟩
 obtain⟨ph,gr,ws,Ze,pr,gd,rs,i1,_⟩:=rd.pl;obtain⟨⟨_,p4,_,pin⟩,_⟩:=rd.ok.of YT;refine pI rd.bd.at_ (pG Z' (pI i1 ⟨Z',_,⟨Z',Z'⟩,V.p,z,l,Z',rd.pl,λq1 YF=>pG pQ ?_⟩));have s1:=qF.new (c:=.lst (List.map D.str (l.mL z))) YF;have c1:=@pQ M q1 (List.map D.str (l.mL z));generalize pP M q1 (.lst (List.map D.str (l.mL z)))=M1 at s1 c1 ⊢;have hz:=dI;have ZM:=rd.sub s1;refine tK (f:=id) (t:=λd=>match d with|.str x=>!(x==c)&&uk l V x|_=>lf) c1 _ [] _ (by rw[cT];simp only[dH];omega) (λd hd k hk=>?_) (λd hd _ k hk=>?_) λq2 ZK=>?_
 .obtain⟨x,hx,rfl⟩:=dB.mp hd;have hk:k (!(x==c)&&uk l V x) M1:=hk;cases e:x==c with
  | true=>rw[e]at hk;refine Ov (c:=!(x==c)) (by rw[e];rfl) hk
  | false=>rw[e]at hk;refine Bj (c:=!(x==c)) (by rw[e];rfl) (pI ZM.bd.at_ ⟨Z',_,⟨Z',Z'⟩,A,V,l,x,Z',ZM,pin x hx,hk⟩)
 .obtain⟨x,hx,rfl⟩:=dB.mp hd;exact hk
 .have ef:[]++(List.filter (λd=>match d with|.str x=>!(x==c)&&uk l V x|_=>lf) ((l.mL z).map D.str)).map id=(uH l V c z).map D.str:=by rw[dX,iG,gC];rfl
  rw[ef];have t2:=qF.new (c:=.lst ((uH l V c z).map D.str)) ZK;exact⟨_,.refl,q q2 _ (s1.trans t2) (s1.none ZK) pQ⟩
def Gb:Fq P w K mg base 5 a.M (Pm a):=by
 refine fq G.M.toDG IT (λr u=>⟨_,(pJ (pO (qB u (qe qM Z' G.g qL (qA (ql v0 G.c.toCls G.aL (AW G) r (sE U1 U2)))) pK))),?_⟩)
 rintro ds M Q ⟨A,V,l,c,z,rfl,rd,tg,q⟩
 refine pI rd.bd.at_ ⟨Z',_,⟨Z',Z'⟩,A,V,l,c,z,Z',rd,tg,λq1 M1 s1 YF e1=>pG e1 ⟨M,s1,?_⟩⟩;have e:((((uH l V c z).map D.str).length:Int)==0)=xV l V c z:=by unfold xV;rw[cT,gk,fh,List.isEmpty_iff,<-gq];omega
 show Q (.bl ((((uH l V c z).map D.str).length:Int)==0)) M;rw[e];exact q
def xh(a:Ad)(v:Wi):rH:=λds M Q=>Kt λp A V l c z=>ds=[.ref p,.ref A.b,.str c,.str z]/\M p=Fa (.ins (v.cls a) v.nO)/\Rd a M A V l/\z∈l.nm/\Ca l.pn l.nm v/\Q (.bl (wW l V c z v)) M
def Ri(a:Ad)(v:Wi):rH:=λds M Q=>Cg λp L k c=>ds=[.ref p,.ref (rN.p k)]/\M p=Fa (.ins (v.cls a) v.nO)/\sf a M L k c/\Q (.bl (FJ c v)) M
def GK:rH:=λds M Q=>Bs λx y=>ds=[x,y]/\Q (.bl lf) M
def LG(a:Ad):Uf->rH->Prop:=λC sp=>∃v:Wi,C=v.cls a/\sp=xh a v
noncomputable def NT(a:Ad):Wi->rH
 | .silent x y n=>Ri a (.silent x y n)
 | _=>GK
def GO(a:Ad):Uf->rH->Prop:=λC sp=>∃v:Wi,C=v.cls a/\sp=NT a v
def Ap(a:Ad):rH:=λds M Q=>Kt λp x y f l h=>ds=[.ref p,.int h]/\M p=Fa (.ins a.n (Wi.night x y f l).nO)/\Q (.bl (E9 f l h)) M
def zJ(a:Ad):rH:=λds M Q=>Kt λp x q l r ms=>ds=[.ref p,.ref q,.ref r]/\M p=Fa (.ins a.o (Wi.breaks x).nO)/\sR a M q l/\pA M r=Fa (List.map D.str ms)/\ms.length<=100/\x∈l.pn/\(∀m∈ms,m∈l.pn)/\Q (.bl (H9 l x ms)) M
def J2{l:pR}{x:Str}{v:uU}(h:l.nj x=Fa v):vS l x=v.2.2:=by unfold vS;rw[h];rfl
def rG{ks:List rN}{i:Nat}{k:rN}(h:ks[i]?=Fa k):wQ (ks.map λk=>D.ref k.p) (i:Nat)=Fa (.ref k.p):=vq (by rw[dD,h];rfl)
def Nt(ds:T0 D):L3.ug ds (Fa (-1:Int)) Db=ds.drop (ds.length - 1):=by
 unfold L3.ug;have e:HT.tO ds.length 0 (Fa (-1:Int))=ds.length - 1:=by show(if (-1:Int)<0 then((-1:Int)+(ds.length:Int)).toNat else min (-1:Int).toNat ds.length)=ds.length - 1;rw[c9 (by decide)];omega
 rw[e];show(ds.drop (ds.length - 1)).take (ds.length - (ds.length - 1))=_;exact gX (by rw[gc];exact dq _)
theorem D5{α:Type}:∀w:List α,w.drop (w.length - 1)=w.getLast?.toList
 | []=>rfl
 | [_]=>rfl
 | _::z::r=>by rw[List.getLast?_cons_cons,<-D5 (z::r)];rfl
def P8{p q:Uf}{w:QQQ}(h1:pA M p=Fa ((w.map D.str).drop ((w.map D.str).length - 1)))(h2:pA M q=Fa [D.str x]):za M 9 (.ref p) (.ref q)=Fa (w.getLast?==Fa x):=by
 have e:(w.map D.str).drop ((w.map D.str).length - 1)=(w.getLast?.toList).map D.str:=by rw[cT,<-kF];rw[D5]
 rw[e]at h1;show(pA M p).bind (λi=>(pA M q).bind λj=>if i.length=j.length then tw (za M 8) i j else Fa lf)=_;rw[h1,h2];cases w.getLast? with
 | none=>rfl
 | some y=>show((Fa (y==x)).bind λp=>(Fa pc).map λq=>p&&q)=Fa (Fa y==Fa x);show Fa ((y==x)&&pc)=_;rw[Bool.and_true];rfl
def LP(G:Gl K mg a)(x:Str)(ns:QQQ):Fq P w K mg base 6 a.aC (xh a (.bar x ns)):=by
 refine fq G.aC.toDG GQ (λr u=>⟨_,(pJ (pO (tR (qB u U2 (pN v0)) (tG (qB u U3 (pN v0)))))),?_⟩)
 rintro ds M Q ⟨p,A,V,l,c,z,rfl,hp,_,_,_,q⟩
 refine pI hp ?_;refine qS (c:=c==x) (λg=>pI hp ⟨Z',qH ns,M,.refl,?_⟩) (λg=>⟨M,.refl,?_⟩)
 .show Q (.bl (inD (.str z) (ns.map D.str))) M;rw[sT];dsimp only[wW]at q;rw[g,eJ]at q;exact q
 .dsimp only[wW]at q;rw[show(c==x)=lf from dJ.mpr g,eV]at q;exact q
def Ni(G:Gl K mg a)(x:Str)(ns:QQQ):Fq P w K mg base 6 a.aD (xh a (.shut x ns)):=by
 refine fq G.aD.toDG E4 (λr u=>⟨_,(pJ (pO (tR (qB u U3 (pN v0)) (tG (qB u U2 (pN v0)))))),?_⟩)
 rintro ds M Q ⟨p,A,V,l,c,z,rfl,hp,_,_,_,q⟩
 refine pI hp ?_;refine qS (c:=z==x) (λg=>pI hp ⟨Z',qH ns,M,.refl,?_⟩) (λg=>⟨M,.refl,?_⟩)
 .show Q (.bl (inD (.str c) (ns.map D.str))) M;rw[sT];dsimp only[wW]at q;rw[g,eJ]at q;exact q
 .dsimp only[wW]at q;rw[show(z==x)=lf from dJ.mpr g,eV]at q;exact q
def Mg(G:Gl K mg a)(x y:Str):Fq P w K mg base 6 a.aE (xh a (.always x y)):=by
 refine fq G.aE.toDG BV (λr u=>⟨_,(pJ (pO (qB u U3 (pN v0)))),?_⟩)
 rintro ds M Q ⟨p,A,V,l,c,z,rfl,hp,_,_,_,q⟩
 exact pI hp ⟨M,.refl,q⟩
def Hi:Fq P w K mg base 1 a.bH (Ap a):=by
 refine fq G.bH.toDG zS (λr u=>⟨_,(pH (qc (pS u (pN v0) (pN v0))
 (pJ (pO (uN u (pN v0) U1 (pN v0))))
 pU)
 (pJ (pO (JP (qB u U1 (pN v0)) (tG (qB u U1 (pN v0))))))),?_⟩)
 rintro ds M Q ⟨p,x,y,f,l,h,rfl,hp,q⟩
 refine pI hp (pI hp ?_);show if (decide (f<l))=pc then _ else _
 unfold E9 at q;by_cases z:f<l
 .rw[c9 z]at q;refine Bj (dW z) (pI hp ?_);refine qS (c:=decide (f<=h)) (λg=>?_) (λg=>?_)
  .rw[g,eJ]at q;exact pI hp ⟨M,.refl,q⟩
  .rw[show decide (f<=h)=lf from dJ.mpr g,eV]at q;exact⟨M,.refl,q⟩
 .rw[cY z]at q;refine Ov (eP z) (pI hp ?_);refine qS (c:=decide (h>=f)) (λg=>?_) (λg=>?_)
  .rw[g,g9]at q;exact⟨M,.refl,q⟩
  .rw[show decide (h>=f)=lf from dJ.mpr g,fM]at q;exact pI hp ⟨M,.refl,q⟩
def L5(G:Gl K mg a)(x y:Str)(f m:Int):Fq P w K mg base 6 a.aF (xh a (.night x y f m)):=by
 refine fq G.aF.toDG Dh (λr u=>⟨_,(pJ (pO (tR (qB u U3 (pN v0)) (tG (ql v0 G.n.toCls G.bH (Hi G) r (qA (yA U1 G.c.toCls G.bI (GB G) r))))))),?_⟩)
 rintro ds M Q ⟨p,A,V,l,c,z,rfl,hp,rd,_,_,q⟩
 dsimp only[wW]at q;refine pI hp ?_;refine qS (c:=z==x) (λg=>?_) (λg=>?_)
 .rw[g,eJ]at q;exact pI hp ⟨Z',_,⟨Z',Z'⟩,pI rd.bd.at_ ⟨Z',_,⟨Z',Z'⟩,A,V,Z',rd.bd,p,x,y,f,m,_,Z',hp,M,.refl,q⟩⟩
 .rw[show(z==x)=lf from dJ.mpr g,eV]at q;exact⟨M,.refl,q⟩
def Ot(G:Gl K mg a)(x y:Str):Fq P w K mg base 6 a.aG (xh a (.busy x y)):=by
 refine fq G.aG.toDG Ft (λr u=>⟨_,(pJ (pO (tR (qB u U3 (pN v0)) (tG (pT (Gb G) r G.M (rF U1 U2 U3)))))),?_⟩)
 rintro ds M Q ⟨p,A,V,l,c,z,rfl,hp,rd,hz,_,q⟩
 dsimp only[wW]at q;refine pI hp ?_;refine qS (c:=z==x) (λg=>?_) (λg=>?_)
 .rw[g,eJ]at q;exact⟨A,V,l,c,z,Z',rd,hz,M,.refl,q⟩
 .rw[show(z==x)=lf from dJ.mpr g,eV]at q;exact⟨M,.refl,q⟩
def MY(G:Gl K mg a)(x y:Str)(n:Int):Fq P w K mg base 6 a.aH (xh a (.silent x y n)):=by
 refine fq G.aH.toDG CJ (λr u=>⟨_,(pJ (pO xt)),?_⟩)
 rintro ds M Q ⟨p,A,V,l,c,z,rfl,hp,rd,hz,_,q⟩
 exact⟨M,.refl,q⟩
def LX(G:Gl K mg a)(x:Str):Fq P w K mg base 6 a.aI (xh a (.wait x)):=by
 refine fq G.aI.toDG FK (λr u=>⟨_,(pH (qc (W3.b3 (xx (pS u U3 (pN v0)) (we (pS u U2 (pN v0)))))
 (pJ (pO xt))
 pU)
 (pJ (pO (tR (pT (Gb G) r G.M (rF U1 U2 U3)) (tG (To (ql U1 G.c.toCls G.bJ (G5 G) r (qA U3)))))))),?_⟩)
 rintro ds M Q ⟨p,A,V,l,c,z,rfl,hp,rd,hz,_,q⟩
 dsimp only[wW]at q;refine pI hp ?_;refine qS (c:=!(z==x)) (λg=>?_) (λg=>?_)
 .rw[g,g9]at q;exact⟨M,.refl,q⟩
 rw[show(!(z==x))=lf from dJ.mpr g,fM]at q;refine pI hp ?_;refine qS (c:=c==x) (λg=>?_) (λg=>?_)
 .rw[g]at q;exact⟨M,.refl,q⟩
 rw[cY g]at q;refine⟨A,V,l,c,z,Z',rd,hz,?_⟩;refine qS (c:=xV l V c z) (λg=>?_) (λg=>?_)
 .rw[g,eJ]at q;exact pI rd.bd.at_ ⟨Z',_,⟨Z',Z'⟩,A,V,z,Z',rd.bd,rd.k,M,.refl,q⟩
 .rw[show xV l V c z=lf from dJ.mpr g,eV]at q;exact⟨M,.refl,q⟩
def GR:Fq P w K mg base 2 a.bK (zJ a):=by
 refine fq G.bK.toDG vA (λr u=>⟨_,(pH (pX 3 vA (ql U1 G.h.toCls G.aM (zC G) r (qA (pN v0))))
 (pJ (pO (qe (EV Z') Z' G.bM F1 (qA (qO Z' (xD (ix:=[Db,Fa 1,Fa 3]) (N':=["member","plan","rank"])) (qQ U2) (qN 0) rY (qB u (ql U1 G.h.toCls G.aM (zC G) r (qA v0)) U2))))))),?_⟩)
 rintro ds M Q ⟨p,x,q,l,r,ms,rfl,hp,pl,lr,h100,hx,hm,k⟩
 have hz:=dI;obtain⟨v,hv⟩:=ze hx;obtain⟨ph,gr,ws,Ze,pr,gd,rs,i1,_⟩:=id pl;refine pI i1 ⟨Z',_,⟨Z',Z'⟩,pI hp (pG Z' ⟨q,x,v,l,Z',pl,hv,?_⟩)⟩;refine pG lr (rB (f:=λd=>match d with|.str m=>.bl (decide (vS l m<vS l x))|_=>.mS) lr _ [] _ (by rw[cT];show 0+ms.length<=Ch;omega) (λd hd k0 hk=>?_) λp1 Zd=>?_)
 .obtain⟨m,hmm,rfl⟩:=dB.mp hd;obtain⟨u,hu⟩:=ze (hm m hmm);have hk:k0 (.bl (decide (vS l m<vS l x))) M:=hk;rw[J2 hu,J2 hv]at hk;exact pI i1 ⟨Z',_,⟨Z',Z'⟩,q,m,u,l,Z',pl,hu,hk⟩
 .have em:[]++(ms.map D.str).map (λd=>match d with|.str m=>.bl (decide (vS l m<vS l x))|_=>.mS)=ms.map λm=>D.bl (decide (vS l m<vS l x)):=by rw[dX,dZ];rfl
  rw[em];refine pG pQ (pG (yB (λm=>decide (vS l m<vS l x)) ms) ⟨M,.new Zd,?_⟩);unfold H9 at k;rw[zY];exact k
def Mv(G:Gl K mg a)(x:Str):Fq P w K mg base 6 a.aJ (xh a (.breaks x)):=by
 refine fq G.aJ.toDG vJ (λr u=>⟨_,(pH (qc (W3.b3 (xx (pS u U2 (pN v0)) (we (pS u U3 (pN v0)))))
 (pJ (pO xt))
 pU)
 (pH (qc (W3.b3 (xx (pS u U3 (yA (pN U1) G.h.toCls G.T (uc G) r)) (we (zg (va (pT (Gb G) r G.M (rF U1 U2 U3)))))))
 (pJ (pO xt))
 pU)
 (pH (pX 4 vJ (ql U1 G.c.toCls G.S (yY G) r (qA U3)))
 (pH (qc (pS u v4 sD)
 (pJ (pO xt))
 pU)
 (pH (pX 5 vJ (pN (pW (pN U1) v4)))
 (pJ (pO (tR (qB u (qe qM Z' G.g qL (qA v5)) pK) (tG (ql v0 G.o.toCls G.bK (GR G) r (sE (pN U1) v5))))))))))),?_⟩)
 rintro ds M Q ⟨p,A,V,l,c,z,rfl,hp,rd,YT,hx,q⟩
 have hx:x∈l.pn:=ra.mp hx;obtain⟨ph,gr,ws,Ze,pr,gd,rs,i1,_⟩:=rd.pl;have p8:=rd.ok.p8;dsimp only[wW,IJ]at q;refine pI hp ?_;refine qS (c:=!(c==x)) (λh1=>?_) (λh1=>?_)
 .rw[h1,g9]at q;exact⟨M,.refl,q⟩
 rw[show(!(c==x))=lf from dJ.mpr h1,fM]at q;refine pI hp ?_;refine qS (c:=z==x) (λh2=>?_) (λh2=>?_)
 .rw[h2]at q;exact⟨M,.refl,q⟩
 rw[cY h2]at q;refine pI rd.bd.at_ (pG Z' (pI i1 ⟨Z',_,⟨Z',Z'⟩,V.p,l,Z',rd.pl,by omega,λq1 YF=>pG pQ ⟨Z',qH _,?_⟩⟩));have t:=qF.new (c:=.lst (l.pn.map D.str)) YF;have Yo:=rd.sub t;generalize pP M q1 (.lst (l.pn.map D.str))=M1 at t Yo ⊢;show if (!(inD (.str z) (l.pn.map D.str)))=pc then _ else _
 rw[sT];refine qS (c:=!(hasS l.pn z)) (λh3=>?_) (λh3=>?_)
 .rw[h3,g9]at q;exact⟨M,t,q⟩
 rw[show(!(hasS l.pn z))=lf from dJ.mpr h3,fM]at q;refine⟨A,V,l,c,z,Z',Yo,YT,?_⟩;refine qS (c:=!(xV l V c z)) (λh4=>?_) (λh4=>?_)
 .rw[h4]at q;exact⟨M,t,q⟩
 rw[cY h4]at q;refine pI Yo.bd.at_ ⟨Z',_,⟨Z',Z'⟩,A,V,z,Z',Yo.bd,Yo.k,?_⟩;cases e:vT V z with
 | none=>rw[e]at q;rw[show AY V z=.mS from by unfold AY;rw[e];rfl];exact⟨M,t,q⟩
 | some j=>
  rw[show AY V z=.int (j:Nat)from by unfold AY;rw[e];rfl];have hj:j<V.calls.length:=(iH.mp e).1;have e2:V.calls[j]?=Fa V.calls[j]:=cV hj;rw[e]at q;generalize V.calls[j]=k at e2;have q:Q (.bl (((V.calls[j]?).elim lf λk=>(k.ms.length==2)&&H9 l x k.ms))) M:=q;rw[e2]at q;have hj:j<A.cs.length:=by rw[rd.bd.len];exact hj
  have ek:A.cs[j]?=Fa A.cs[j]:=cV hj;obtain⟨ad,md,f1,f2,f3,f4,_⟩:=Yo.bd.cs j _ k ek e2;refine pI Yo.bd.at_ (pG Z' (pG Z' (pG Yo.bd.ca (pG (rG ek) (pI f1 (pG Z' ?_))))));refine pG f4 ?_;have el:((((k.ms.map D.str).length:Nat):Int)==2)=(k.ms.length==2):=by rw[cT,gk,fh,fh];omega
  show if ((((k.ms.map D.str).length:Nat):Int)==2)=pc then _ else _
  rw[el];have q:Q (.bl ((k.ms.length==2)&&H9 l x k.ms)) M:=q;refine qS (c:=k.ms.length==2) (λh5=>?_) (λh5=>?_)
  .rw[h5,eJ]at q;have hm:=rd.ms k (qW e2);refine pI (t _ _ hp) ⟨Z',_,⟨Z',Z'⟩,pI Yo.bd.at_ (pG Z' ⟨p,x,V.p,l,md,k.ms,Z',t _ _ hp,Yo.pl,f4,hm.2,hx,hm.1,M,t,q⟩)⟩
  .rw[show(k.ms.length==2)=lf from dJ.mpr h5,eV]at q;exact⟨M,t,q⟩
def MP:Fq P w K mg base 1 a.q GK:=by
 refine fq G.q.toDG Cj (λr u=>⟨_,(pJ (pO xt)),?_⟩)
 rintro ds M Q ⟨x,y,rfl,q⟩
 exact⟨M,.refl,q⟩
def TV(G:Gl K mg a)(x y:Str)(n:Int):Fq P w K mg base 1 a.ax (Ri a (.silent x y n)):=by
 refine fq G.ax.toDG AC (λr u=>⟨_,(pJ (pO (tR (qB u (rQ (pN U1) (sv (FE pK)) sV) (rq (qA (pN v0)))) (tG (qB u (pN v0) (pN U1)))))),?_⟩)
 rintro ds M Q ⟨p,L,k,c,rfl,hp,⟨ad,md,h1,h2,h3,h4,_⟩,q⟩
 refine pI h1 (pG Z' (pG h2 λp1 Zd=>?_));have t1:=qF.new (c:=.lst (L3.ug (c.way.map D.str) (Fa (-1:Int)) Db)) Zd;have l1:pA (pP M p1 (.lst (L3.ug (c.way.map D.str) (Fa (-1:Int)) Db))) p1=Fa ((c.way.map D.str).drop ((c.way.map D.str).length - 1)):=by rw[pQ,Nt]
 show Ag (pP M p1 (.lst (L3.ug (c.way.map D.str) (Fa (-1:Int)) Db)) p) _;generalize pP M p1 (.lst (L3.ug (c.way.map D.str) (Fa (-1:Int)) Db))=M1 at t1 l1 ⊢;refine pI (t1 _ _ hp) ⟨pE Z',λp2 X4=>?_⟩;have t2:=qF.new (c:=.lst [D.str x]) X4;have l2:=@pQ M1 p2 [D.str x];show Option.elim (za (pP M1 p2 (.lst [D.str x])) 9 (.ref p1) (.ref p2)) False _;generalize pP M1 p2 (.lst [D.str x])=M2 at t2 l2 ⊢;have s2:=t1.trans t2;refine pG (P8 (t2.lst l1) l2) ?_;dsimp only[FJ]at q;refine qS (c:=c.way.getLast?==Fa x) (λg=>?_) (λg=>?_)
 .rw[g,eJ]at q;exact pI (s2 _ _ hp) (pI (s2 _ _ h1) ⟨M,s2,q⟩)
 .rw[show(c.way.getLast?==Fa x)=lf from dJ.mpr g,eV]at q;exact⟨M,s2,q⟩
def R1:∀C sp,LG a C sp->yd P w K mg base 6 "fits" C (OA K sp):=by
 rintro C sp ⟨v,rfl,rfl⟩
 cases v with
 | bar x ns=>exact⟨G.r.toCls,_,_,_,G.aC.ny,LP G x ns,G.aC.b⟩
 | shut x ns=>exact⟨G.t.toCls,_,_,_,G.aD.ny,Ni G x ns,G.aD.b⟩
 | always x y=>exact⟨G.w.toCls,_,_,_,G.aE.ny,Mg G x y,G.aE.b⟩
 | night x y f m=>exact⟨G.n.toCls,_,_,_,G.aF.ny,L5 G x y f m,G.aF.b⟩
 | busy x y=>exact⟨G.x.toCls,_,_,_,G.aG.ny,Ot G x y,G.aG.b⟩
 | silent x y n=>exact⟨G.u.toCls,_,_,_,G.aH.ny,MY G x y n,G.aH.b⟩
 | wait x=>exact⟨G.v.toCls,_,_,_,G.aI.ny,LX G x,G.aI.b⟩
 | breaks x=>exact⟨G.o.toCls,_,_,_,G.aJ.ny,Mv G x,G.aJ.b⟩
def VJ:∀C sp,GO a C sp->yd P w K mg base 1 "is_due" C (OA K sp):=by
 rintro C sp ⟨v,rfl,rfl⟩
 have F:=MP (P:=P) (w:=w) (base:=base) G;cases v with
 | silent x y n=>exact⟨G.u.toCls,_,_,_,G.ax.ny,TV G x y n,G.ax.b⟩
 | bar _ _=>exact⟨G.r.toCls,_,_,_,G.ci,F,G.q.b⟩
 | shut _ _=>exact⟨G.t.toCls,_,_,_,G.cj,F,G.q.b⟩
 | always _ _=>exact⟨G.w.toCls,_,_,_,G.ck,F,G.q.b⟩
 | night _ _ _ _=>exact⟨G.n.toCls,_,_,_,G.cl,F,G.q.b⟩
 | busy _ _=>exact⟨G.x.toCls,_,_,_,G.cm,F,G.q.b⟩
 | wait _=>exact⟨G.v.toCls,_,_,_,G.cn,F,G.q.b⟩
 | breaks _=>exact⟨G.o.toCls,_,_,_,G.co,F,G.q.b⟩
def Jq{es pre post:T0 D}{d:D}(e:pre++d::post=uP 0 es):∃x,es[pre.length]?=Fa x/\d=.tup [.int (pre.length:Nat),x]:=by
 have h:(uP 0 es)[pre.length]?=Fa d:=by rw[<-e];simp
 rw[zA]at h;cases q:es[pre.length]? with
 | none=>rw[q]at h;cases h
 | some x=>rw[q]at h;refine⟨x,Z',?_⟩;have:=(dh h).symm;rw[mD]at this;exact this
def vw(n:Nat):∀es:T0 D,(uP n es).length=es.length:=λes=>by
 have h:∀i:Nat,(uP n es)[i]?=Db↔es[i]?=Db:=λi=>by rw[zA];cases es[i]?<;>simp
 have a:=(h es.length).mpr (gB (dq _));have b:=(h (uP n es).length).mp (gB (dq _));rw[List.getElem?_eq_none_iff]at a b;omega
def J8{l:pR}{V:qz}{f:Wi->Bool}{tt:AM}{ok:Mp->Prop}{Q:DK}{M:Mp}{rest:T0 (Option D)}(hl:V.on.length=l.mM.length)(h16:l.mM.length<=16)(mW:ok M) (ht:∀(i:Nat) (w:vF),l.mM[i]?=Fa w->∀(y:Option D) (k:Bool->Mp->Prop),k (f w.2) M->tt (Fa (.int (i:Nat))::y::rest) M k) (q:∀p,M p=Db->Q (.ref p) (pP M p (.lst ((xJ l V f).map λn=>D.int (n:Nat))))):
  vm (RC 2 (xO (tE 0) (xO (tE 1) B'))) (OW (b3 (v3 1)) tt) (v3 0) ok Q (uP 0 (V.on.map D.bl)) [] (Db::Db::rest) M:=by
 have hz:=dI;refine yj (uP 0 (V.on.map D.bl)) (λpre acc U M'=>M=M'/\acc=((List.range pre.length).filter λi=>V.on.getD i lf&&(l.mM[i]?).elim lf λw=>f w.2).map (λn=>D.int (n:Nat))/\∃y1 y2,U=y1::y2::rest) (λ_ _ _ M' j=>by rw[<-j.1];exact mW) _ [] [] _ _ Z' ?_ ⟨Z',Z',Db,Db,Z'⟩ ?_ ?_
 .rw[vw,cT,hl];simp only[dH];omega
 .rintro pre d post e acc U M' ⟨rfl,rfl,y1,y2,rfl⟩ k k2 hk ZX
  obtain⟨x,hx,rfl⟩:=Jq e;rw[cW,dP,iU,jo]at hk ZX;rw[dD]at hx;cases eo:V.on[pre.length]? with
  | none=>rw[eo]at hx;cases hx
  | some b=>
   rw[eo]at hx;have hx:D.bl b=x:=dh hx;subst hx;have hi:pre.length<l.mM.length:=by rw[<-hl];exact(cX.mp eo).1
   have ew:l.mM[pre.length]?=Fa l.mM[pre.length]:=cV hi;generalize l.mM[pre.length]=w0 at ew;have eg:V.on.getD pre.length lf=b:=by rw[fN,eo];rfl
   have no:(b&&f w0.2)=lf->k2 (Fa (.int (pre.length:Nat))::Fa (.bl b)::rest) M:=λg=>by refine ZX _ _ ⟨Z',?_,_,_,Z'⟩;rw[iB (by rw[eg,ew];show ¬(b&&f w0.2)=pc;rw[g];exact dz),iV,eR]
   refine⟨Z',?_⟩;show if b=pc then _ else _
   cases b with
   | false=>exact Fu (no Z')
   | true=>
    refine PK (ht _ _ ew _ _ ?_);cases g:f w0.2 with
    | false=>exact Fu (no (by rw[g];rfl))
    | true=>refine PK (hk _ _ _ ⟨Z',?_,_,_,Z'⟩);rw[iA (by rw[eg,ew];show(pc&&f w0.2)=pc;rw[g];rfl),iV,dM];rfl
 .rintro acc U M' ⟨rfl,rfl,y1,y2,rfl⟩ p hp
  rw[vw,cT];exact q p hp
def By(h:sW a M rs ws){i:Nat}{w:vF}(e:ws[i]?=Fa w):∃r,wQ (rs.map D.ref) (i:Nat)=Fa (.ref r)/\M r=Fa (.ins (w.2.cls a) w.2.nO):=by
 have hi:i<rs.length:=by rw[h.1];exact(cX.mp e).1
 exact⟨rs[i],vq (by rw[dD,cV hi];rfl),h.2 i _ w (cV hi) e⟩
def LA(ds:T0 D)(m:Nat):L3.ug ds Db (Fa (m:Int))=ds.take m:=by
 unfold L3.ug;rw[HT.CM,HT.JF,ji,kZ];by_cases h:m<=ds.length
 .rw[mo h]
 .rw[Nat.min_eq_right (by omega),fF,gX (by omega)]
def Im(ds:T0 D)(m:Nat)(h:m<=ds.length):L3.ug ds (Fa (m:Int)) Db=ds.drop m:=by unfold L3.ug;rw[HT.CM,HT.JF,mo h];exact gX (by rw[gc];exact dq _)
def uL(l:pR)(V:qz):Prop:=∀z∈l.nm,(l.mV z=="turns")=pc->∃v,V.ps.find? (λp=>decide (p.1=z))=Fa v/\0<=v.2/\v.2<=((l.mL z).length:Int)
def MI{V:qz}(h:uL l V){z:Str}(hz:z∈l.nm)(e:(l.mV z=="turns")=pc):vN (tT V.ps) (.inr z)=Fa (.int (zR V z:Nat))/\zR V z<=(l.mL z).length:=by
 obtain⟨v,e1,e2,e3⟩:=h z hz e;have h1:zR V z=v.2.toNat:=by unfold zR;rw[e1];rfl
 have h2:vN (tT V.ps) (.inr z)=(V.ps.find? λp=>decide (p.1=z)).map λp=>D.int p.2:=yr (λp:Str×Int=>p.1) (λp=>D.int p.2) z V.ps;rw[h2,e1,h1];exact⟨by show Fa (D.int v.2)=Fa (.int (v.2.toNat:Nat));rw[Int.toNat_of_nonneg e2],by omega⟩
def IS(a:Ad):rH:=λds M Q=>HA λA V l c z=>ds=[.ref A.b,.str c,.str z]/\Rd a M A V l/\z∈l.nm/\Q (wA (zI l V c z)) M
def Po(a:Ad):rH:=λds M Q=>HA λA V l c z=>ds=[.ref A.b,.str c,.str z]/\Rd a M A V l/\z∈l.nm/\uL l V/\Q (names (xX l V c z)) M
def My(a:Ad):rH:=λds M Q=>HA λA V l c z=>ds=[.ref A.b,.str c,.str z]/\Rd a M A V l/\z∈l.nm/\uL l V/\Q (IL l V c z).d M
def Kw:rH:=λds M Q=>C9 λx r z=>ds=[.tup (.str x::r),.str z]/\Q (if (x=="wait")=pc then(vO.waits z).d else if (x=="break")=pc then(vO.breaks z).d else vO.barred.d) M
def rJ(st:tq):T0 D:=st.map λs=>.tup [.str s.1,wA s.2]
def Mh(a:Ad):rH:=λds M Q=>Ud λA V l c z r way=>ds=[.ref A.b,.str c,.str z,.ref r]/\Rd a M A V l/\z∈l.nm/\uL l V/\pA M r=Fa (List.map D.str way)/\way.length<=8000000/\∀q M',qF M M'->M q=Db->pA M' q=Fa (rJ (ua l V c z way).2)->Q (.tup [(ua l V c z way).1.d,.ref q]) M'
def BH{V:qz}{f:Wi->Bool}{i:Nat}(h:i∈xJ l V f):∃w,l.mM[i]?=Fa w/\f w.2=pc:=by
 have h:=(fC.mp h).2;rw[dS]at h;cases e:l.mM[i]? with
 | none=>rw[e]at h;cases h.2
 | some w=>rw[e]at h;exact⟨w,Z',h.2⟩
def Ka(l:pR)(way:QQQ):Nat:=(l.nm.filter λx=>!(hasS way x)).length
def BD{l:pR}{z:Str}(hz:z∈l.nm)(h:hasS way z=lf):Ka l (way++[z])<Ka l way:=by
 unfold Ka;have e:(l.nm.filter λx=>!(hasS (way++[z]) x))=(l.nm.filter λx=>!(hasS way x)).filter λx=>!(x==z):=by rw[List.filter_filter];refine List.filter_congr λx _=>?_;unfold hasS;rw[mj];show(!(way.any (·==x)||((z==x)||false)))=_;rw[kB,Bool.not_or,Bool.and_comm,mw]
 rw[e];refine Nat.lt_of_le_of_ne (gg _ _) λg=>?_;have:=kM.mp (List.Sublist.eq_of_length fX g) z (fC.mpr ⟨hz,by rw[h];rfl⟩);simp at this
def CV(ok:rP l){w:vF}(hw:w∈l.mM){z y:Str}(h:Gx z w.2=.inr y):y∈l.nm:=by
 have o:=ok.wo w hw;cases e:w.2 with
 | bar _ _=>rw[e]at h;cases h
 | shut _ _=>rw[e]at h;cases h
 | always x u=>rw[e]at h o;cases h;exact ra.mp o.2.1
 | night x u f m=>rw[e]at h o;cases h;exact ra.mp o.2.1
 | busy x u=>rw[e]at h o;cases h;exact ra.mp o.2.1
 | silent x u n=>rw[e]at h o;cases h;exact ra.mp o.2.1
 | wait _=>rw[e]at h;cases h
 | breaks _=>rw[e]at h;cases h
theorem Ey(x:Str):∀ss:QQQ,x∈ss->Bf (.str x) (ss.map D.str)=Fa (ss.findIdx (·==x))
 | [],h=>by cases h
 | y::r,h=>by
  rw[dU,List.findIdx_cons];unfold Bf;show(if (y==x)=pc then Fa 0 else(Bf (.str x) (r.map D.str)).map (·+1))=_;cases e:y==x with
  | true=>rfl
  | false=>
   rw[cY dz];have hr:x∈r:=by
    rcases de.mp h with g|g
    .rw[g,fv]at e;cases e
    .exact g
   rw[Ey x r hr];rfl
def Ii:Fq P w K mg base 7 a.aQ (IS a):=by
 refine fq G.aQ.toDG B4 (λr u=>⟨_,(pH (pX 3 B4 (pN (pN v0)))
 (pJ (pO (qx sL Z' G.y sP (qA (qO Z' (xD (ix:=[Db,Db,Fa 3,Fa 0,Fa 1,Fa 2]) (N':=["i","on","wishes","board","caller","target"])) (xn Z' G.bS (qA (pN v0))) (vv (n:=2) Z' (qK (qN 0) (qK (qN 1) ul))) (vE (W3.b3 (yS (va U1) (yC (va (EG (R:=LG a) (pW U2 v0) (R1 G) (r.mono (by first|decide|omega)) (rF U3 v4 v5))))))) v0)))))),?_⟩)
 rintro ds M Q ⟨A,V,l,c,z,rfl,rd,hz,q⟩
 obtain⟨ph,gr,ws,Ze,pr,gd,rs,i1,i2,i3,i4,i5,i6,i7,i8⟩:=rd.pl;refine pI rd.bd.at_ (pG Z' (pI i1 (pG Z' ?_)));refine pI rd.bd.at_ (pG Z' (pG rd.bd.on ?_));refine J8 (rest:=[Fa (.ref ws),Fa (.ref A.b),Fa (.str c),Fa (.str z)]) rd.on rd.ok.pk rd.bd.on (λi w0 ew y k hk=>?_) λp hp=>pG pQ ⟨M,.new hp,q⟩;obtain⟨r,e1,e2⟩:=By i8 ew;refine pG i4 (pG e1 (pI e2 ⟨by cases w0.2<;>rfl,_,⟨w0.2,Z',Z'⟩,r,A,V,l,c,z,Z',e2,rd,hz,rd.ok.wo w0 (qW ew),hk⟩))
def ON:Fq P w K mg base 5 a.aR (Po a):=by
 refine fq G.aR.toDG tQ (λr u=>⟨_,(pH (pX 3 tQ (ql v0 G.c.toCls G.aL (AW G) r (sE U1 U2)))
 (pH (qc (pS u (ql (pN v0) G.h.toCls G.aK (xF G) r (qA U2)) pL)
 (pJ (pO (qx sL Z' G.y sP (qA U3))))
 pU)
 (pH (pX 4 tQ (ql (pN v0) G.h.toCls G.Y (uF G) r (qA U2)))
 (pH (pX 5 tQ (zT u (pN v0) U2))
 (pH (vD (i:=6) tQ.nd Z' (Or.inl Z') Z' (xD (ix:=[Db,Fa 3]) (N':=["phone","free"])) (qQ (qm (rQ v4 (sv v5) sV) (rQ v4 sV (sv v5)))) (qN 0) (vE (pS u v0 U1)) v0)
 (pJ (pO (qx sL Z' G.y sP (qA (rQ v6 sV (sv pK))))))))))),?_⟩)
 rintro ds M Q ⟨A,V,l,c,z,rfl,rd,YT,nx,q⟩
 have hz:=dI;have bd:=rd.bd;have pl:=rd.pl;obtain⟨ph,gr,ws,Ze,pr,gd,rs,i1,_⟩:=rd.pl;obtain⟨⟨_,tf,_⟩,_⟩:=rd.ok.of YT;refine pI bd.at_ ⟨Z',_,⟨Z',Z'⟩,A,V,l,c,z,Z',rd,YT,λq1 M1 s1 YF e1=>?_⟩;refine pI (s1 _ _ bd.at_) (pG Z' (pI (s1 _ _ i1) ⟨Z',_,⟨Z',Z'⟩,V.p,z,l,Z',pl.sub s1,?_⟩));unfold xX at q;cases e:l.mV z=="turns" with
 | false=>rw[e]at q;exact Bj (c:=!(l.mV z=="turns")) (by rw[e];rfl) (pG e1 ⟨M,s1,q⟩)
 | true=>
  obtain⟨hn,nl⟩:=MI nx YT e;generalize zR V z=n at hn nl q;rw[e,c9 Z']at q;refine Ov (c:=!(l.mV z=="turns")) (by rw[e];rfl) ?_;refine pI (s1 _ _ bd.at_) (pG Z' (pI (s1 _ _ i1) ⟨Z',_,⟨Z',Z'⟩,V.p,z,l,Z',pl.sub s1,λq2 ZK=>?_⟩));have s2:=s1.trans (qF.new (c:=.lst ((l.mL z).map D.str)) ZK);have c2:=@pQ M1 q2 ((l.mL z).map D.str);have e2:=(qF.new (c:=.lst ((l.mL z).map D.str)) ZK).lst e1;generalize pP M1 q2 (.lst ((l.mL z).map D.str))=M2 at s2 c2 e2 ⊢;refine pI (s2 _ _ bd.at_) (pG Z' (pG Z' (pG (s2.dk bd.nx) (pG hn ?_))));refine pG c2 λq3 hq3=>?_;rw[Im _ n (by rw[cT];exact nl),<-kF];have t3:=qF.new (c:=.lst (((l.mL z).drop n).map D.str)) hq3;have c3':=@pQ M2 q3 (((l.mL z).drop n).map D.str);generalize pP M2 q3 (.lst (((l.mL z).drop n).map D.str))=M3 at t3 c3' ⊢;refine pG (t3.lst c2) λq4 hq4=>?_;rw[LA,<-mx];have t4:=qF.new (c:=.lst (((l.mL z).take n).map D.str)) hq4;have c4:=@pQ M3 q4 (((l.mL z).take n).map D.str);generalize pP M3 q4 (.lst (((l.mL z).take n).map D.str))=M4 at t4 c4 ⊢;refine pG (t4.lst c3') (pG c4 ?_);refine⟨by rw[cT,cT,gc,fL];omega,λq5 hq5=>pG pQ ?_⟩;rw[<-dM];have t5:=qF.new (c:=.lst ((vh (l.mL z) n).map D.str)) hq5;have c5:=@pQ M4 q5 ((vh (l.mL z) n).map D.str);show vm _ _ _ _ _ ((vh (l.mL z) n).map D.str) _ _ (pP M4 q5 (.lst ((vh (l.mL z) n).map D.str)));generalize pP M4 q5 (.lst ((vh (l.mL z) n).map D.str))=M5 at t5 c5 ⊢;have s5:=t3.trans (t4.trans t5);have e5:=s5.lst e2;have tl:(vh (l.mL z) n).length<=200:=by unfold vh;rw[cW,gc,fL];omega
  refine tK (f:=id) (t:=λd=>inD d ((uH l V c z).map D.str)) c5 _ [] _ (by rw[cT];simp only[dH];omega) (λd hd k hk=>?_) (λd hd _ k hk=>?_) λq6 hq6=>?_
  .obtain⟨x,hx,rfl⟩:=dB.mp hd;exact pG e5 ⟨Z',qH _,hk⟩
  .obtain⟨x,hx,rfl⟩:=dB.mp hd;exact hk
  .have ef:[]++(List.filter (λd=>inD d ((uH l V c z).map D.str)) ((vh (l.mL z) n).map D.str)).map id=((vh (l.mL z) n).filter λx=>hasS (uH l V c z) x).map D.str:=by
    rw[dX,iG,gC];have:((λd=>inD d ((uH l V c z).map D.str))∘D.str)=λx=>hasS (uH l V c z) x:=by funext x;exact sT _ _
    rw[this]
   rw[ef];refine pG pQ λq7 hq7=>pG pQ ?_;rw[show L3.ug (((vh (l.mL z) n).filter λx=>hasS (uH l V c z) x).map D.str) Db (Fa (1:Int))=(((vh (l.mL z) n).filter λx=>hasS (uH l V c z) x).take 1).map D.str from(LA _ 1).trans (mx).symm];exact⟨M,s2.trans (s5.trans ((qF.new hq6).trans (.new hq7))),q⟩
def Nz:Fq P w K mg base 6 a.aS (My a):=by
 refine fq G.aS.toDG vj (λr u=>⟨_,(pH (pX 3 vj (pT (ON G) r G.aR (rF v0 U1 U2)))
 (pH (qc (pS u (qe qM Z' G.g qL (qA U3)) pK)
 (pJ (pO (pY (sE pL U2))))
 pU)
 (pJ (pO (pY (rF pL U2 U3)))))),?_⟩)
 rintro ds M Q ⟨A,V,l,c,z,rfl,rd,hz,nx,q⟩
 refine⟨A,V,l,c,z,Z',rd,hz,nx,?_⟩;unfold IL at q;cases e:xX l V c z with
 | nil=>rw[e]at q;exact⟨pE Z',M,.refl,q⟩
 | cons x r=>rw[e]at q;exact⟨pE Z',M,.refl,q⟩
def KS:Fq P w K mg base 1 a.aT Kw:=by
 refine fq G.aT.toDG Av (λr u=>⟨_,(pH (qc (pS u (pW v0 pK) pL)
 (pJ (pO (pY (sE pL U1))))
 pU)
 (pH (qc (pS u (pW v0 pK) pL)
 (pJ (pO (pY (sE pL U1))))
 pU)
 (pJ (pO (pY (qA pL)))))),?_⟩)
 rintro ds M Q ⟨x,r,z,rfl,q⟩
 refine pG (xS _ _) (qS (c:=x=="wait") (λg=>?_) (λg=>?_))
 .rw[c9 g]at q;exact⟨pE Z',M,.refl,q⟩
 rw[cY g]at q;refine pG (xS _ _) (qS (c:=x=="break") (λg=>?_) (λg=>?_))
 .rw[c9 g]at q;exact⟨pE Z',M,.refl,q⟩
 rw[cY g]at q;exact⟨pE Z',M,.refl,q⟩
def MA:Fq P w K mg base 8 a.aU (Mh a):=by
 refine fq G.aU.toDG wO (λr u=>⟨_,(pH (pX 4 wO (qx um Z' G.z uu (qA U3)))
 (pH (pX 5 wO (rq tL))
 (pH (N8 fD (pS u U2 v4)
 (pH (pZ (sj v4 (qA U2)))
 (pH (pX 6 wO (pT (Ii G) r G.aQ (rF v0 U1 U2)))
 (pH (pZ (sj v5 (qA (pY (sE U2 v6)))))
 (pH (qc (pS u (qe qM Z' G.g qL (qA v6)) pK)
 (pJ (pO (pY (sE (pT (Nz G) r G.aS (rF v0 U1 U2)) v5))))
 pU)
 (pH (pX 7 wO (BR (R:=JY a) (pW (pN (pN v0)) (pW v6 pK)) (OF G) (r.mono (by first|decide|omega))))
 (pH (qc (pS u (pW v7 pK) pL)
 (pJ (pO (pY (sE (pT (KS G) r G.aT (sE v7 U2)) v5))))
 pU)
 (pJ (pX 2 wO (pW v7 pK))))))))))
 (pJ (pO (pY (sE (pY (sE pL (qx sL Z' G.y sP (qA (rQ v4 (sv (xN v4 (qA U2))) sV))))) v5))))))),?_⟩)
 rintro ds M Q ⟨A,V,l,c,z0,r,Y7,rfl,rd,hz0,nx,hr0,hw0,q⟩
 have hz:=dI;have p8:=rd.ok.p8;have g3:=rd.ok.g3;have nl:l.nm.length<=11:=by unfold pR.nm pR.pn pR.gn;rw[cW,cT,cT];omega
 refine pG hr0 λp1 Zd=>⟨pE Z',λp2 X4=>?_⟩;have t1:=qF.new (c:=.lst (Y7.map D.str)) Zd;have t2:=qF.new (c:=.lst []) X4;have c1:pA (pP (pP M p1 (.lst (Y7.map D.str))) p2 (.lst [])) p1=Fa (Y7.map D.str):=t2.lst pQ;have c2:=@pQ (pP M p1 (.lst (Y7.map D.str))) p2 [];have n12:p2≠p1:=λy=>by rw[y,qa]at X4;cases X4
 have m2:M p2=Db:=t1.none X4;have s2:=t1.trans t2;generalize pP (pP M p1 (.lst (Y7.map D.str))) p2 (.lst [])=M2 at c1 c2 s2 ⊢;refine⟨λm U M'=>∃z way st,qF M M'/\pA M' p1=Fa (List.map D.str way)/\pA M' p2=Fa (rJ st)/\z∈l.nm/\Ka l way<m/\way.length+m<=8000012/\st.length+m<=100/\uG l V c m z way st=ua l V c z0 Y7/\∃y6 y7,U=[Fa (.ref A.b),Fa (.str c),Fa (.str z),Fa (.ref r),Fa (.ref p1),Fa (.ref p2),y6,y7],⟨l.nm.length+1,z0,Y7,[],s2,c1,c2,hz0,Nat.lt_succ_of_le (gg _ _),by omega,by show 0+(l.nm.length+1)<=100;omega,Z',Db,Db,Z'⟩,?_⟩
 rintro m U M' ⟨z,way,st,sM,l1,l2,YT,X2,hwl,ZF,er,y6,y7,rfl⟩
 obtain⟨m,rfl⟩:∃k,m=k+1:=⟨m - 1,by omega⟩;have q2:∀XX,qF M XX->pA XX p2=Fa (rJ (uG l V c (m+1) z way st).2)->Q (.tup [(uG l V c (m+1) z way st).1.d,.ref p2]) XX:=λXX s ll=>by rw[er]at ll ⊢;exact q p2 XX s m2 ll
 clear q;unfold uG at er q2;refine pG l1 ⟨Z',qH way,?_⟩;show if (!(inD (.str z) (way.map D.str)))=pc then _ else _
 rw[sT];refine qS (c:=!(hasS way z)) (λh1=>?_) (λh1=>?_)
 rotate_left
 .
  have h1:hasS way z=pc:=by simpa using h1
  rw[c9 h1]at q2;refine⟨by show(pA M' p1).isSome=pc;rw[l1];rfl,pG l1 ⟨Z',qH _,pG (Ey z way (ra.mp h1)) (pG l1 λp3 hp3=>?_)⟩⟩;have hle:way.findIdx (·==z)<=(way.map D.str).length:=by rw[cT];exact List.findIdx_le_length
  rw[Im _ _ hle,<-kF];refine pG pQ ⟨pE Z',pE Z',_,.refl,q2 _ (sM.trans (.new hp3)) ((qF.new hp3).lst l2)⟩
 have h1:hasS way z=lf:=by simpa using h1
 rw[h1,cY dz]at er q2;refine⟨by show(pA M' p1).isSome=pc;rw[l1];rfl,pG l1 ⟨by rw[cT];omega,?_⟩⟩;have k3:sQ p1 M' (pP M' p1 (.lst (way.map D.str++[D.str z]))):=.put;have s3:qF M (pP M' p1 (.lst (way.map D.str++[D.str z]))):=λx d hx=>by rw[ut (Pe hx Zd)];exact sM x d hx
 have c3:=k3.lst n12 l2;have l3:pA (pP M' p1 (.lst (way.map D.str++[D.str z]))) p1=Fa ((way++[z]).map D.str):=by rw[pQ,dM];rfl
 generalize pP M' p1 (.lst (way.map D.str++[D.str z]))=M3 at s3 c3 l3 ⊢;refine⟨A,V,l,c,z,Z',rd.sub s3,YT,?_⟩;generalize hf:zI l V c z=fs at er q2 ⊢;refine⟨by show(pA M3 p2).isSome=pc;rw[c3];rfl,pE Z',pG c3 ⟨by unfold rJ;rw[cT];omega,?_⟩⟩;have es:rJ st++[.tup [.str z,wA fs]]=rJ (st++[(z,fs)]):=by unfold rJ;rw[dM];rfl
 rw[es];have s4:qF M (pP M3 p2 (.lst (rJ (st++[(z,fs)])))):=λx d hx=>by rw[ut (Pe hx m2)];exact s3 x d hx
 have c4:=@pQ M3 p2 (rJ (st++[(z,fs)]));have l4:pA (pP M3 p2 (.lst (rJ (st++[(z,fs)])))) p1=Fa ((way++[z]).map D.str):=sQ.lst .put (dO n12) l3;generalize pP M3 p2 (.lst (rJ (st++[(z,fs)])))=M4 at s4 c4 l4 ⊢;cases fs with
 | nil=>exact⟨A,V,l,c,z,Z',rd.sub s4,YT,nx,pE Z',M4,.refl,q2 M4 s4 c4⟩
 | cons i fr=>
  obtain⟨w0,ew,_⟩:=BH (l:=l) (V:=V) (f:=wW l V c z) (i:=i) (by show i∈zI l V c z;rw[hf];exact dG);dsimp only at er q2;rw[ew]at er q2;dsimp only[Option.elim]at er q2;obtain⟨ph,gr,ws,Ze,pr,gd,rs,i1,i2,i3,i4,i5,i6,i7,i8⟩:=(rd.sub s4).pl;obtain⟨rw0,e1,e2⟩:=By i8 ew;have hwo:=rd.ok.wo w0 (qW ew);have hnm:∀y,Gx z w0.2=.inr y->y∈l.nm:=λy h=>CV rd.ok (qW ew) h;refine pI (s4 _ _ rd.bd.at_) (pG Z' (pI i1 (pG Z' (pG (xS _ _) (pG i4 (pG e1 ?_))))));cases hv:w0.2 with
  | bar x ns=>rw[hv]at q2 e2;exact pI e2 ⟨Z',_,.inl ⟨.inl Z',Z'⟩,rw0,Z',⟨"end",[],z,Z',pE Z',M4,.refl,q2 M4 s4 c4⟩⟩
  | shut x ns=>rw[hv]at q2 e2;exact pI e2 ⟨Z',_,.inl ⟨.inr Z',Z'⟩,rw0,Z',⟨"end",[],z,Z',pE Z',M4,.refl,q2 M4 s4 c4⟩⟩
  | wait x=>rw[hv]at q2 e2;exact pI e2 ⟨Z',_,.inr (.inr (.inl ⟨Z',Z'⟩)),rw0,_,_,_,Z',e2,Z',⟨"wait",_,z,Z',pE Z',M4,.refl,q2 M4 s4 c4⟩⟩
  | breaks x=>rw[hv]at q2 e2;exact pI e2 ⟨Z',_,.inr (.inr (.inr ⟨Z',Z'⟩)),rw0,Z',⟨"break",_,z,Z',pE Z',M4,.refl,q2 M4 s4 c4⟩⟩
  | always x y=>rw[hv]at er e2 hnm;exact pI e2 ⟨Z',_,.inr (.inl ⟨.inl Z',Z'⟩),rw0,_,_,_,Z',e2,Z',⟨m,fE _,y,way++[z],st++[(z,i::fr)],s4,l4,c4,hnm y Z',by have:=BD YT h1;omega,by rw[cW];show way.length+1+m<=_;omega,by rw[cW];show st.length+1+m<=_;omega,er,_,_,Z'⟩⟩
  | night x y f mm=>rw[hv]at er e2 hnm;exact pI e2 ⟨Z',_,.inr (.inl ⟨.inr (.inl Z'),Z'⟩),rw0,_,_,_,Z',e2,Z',⟨m,fE _,y,way++[z],st++[(z,i::fr)],s4,l4,c4,hnm y Z',by have:=BD YT h1;omega,by rw[cW];show way.length+1+m<=_;omega,by rw[cW];show st.length+1+m<=_;omega,er,_,_,Z'⟩⟩
  | busy x y=>rw[hv]at er e2 hnm;exact pI e2 ⟨Z',_,.inr (.inl ⟨.inr (.inr (.inl Z')),Z'⟩),rw0,_,_,_,Z',e2,Z',⟨m,fE _,y,way++[z],st++[(z,i::fr)],s4,l4,c4,hnm y Z',by have:=BD YT h1;omega,by rw[cW];show way.length+1+m<=_;omega,by rw[cW];show st.length+1+m<=_;omega,er,_,_,Z'⟩⟩
  | silent x y n=>rw[hv]at er e2 hnm;exact pI e2 ⟨Z',_,.inr (.inl ⟨.inr (.inr (.inr Z')),Z'⟩),rw0,_,_,_,Z',e2,Z',⟨m,fE _,y,way++[z],st++[(z,i::fr)],s4,l4,c4,hnm y Z',by have:=BD YT h1;omega,by rw[cW];show way.length+1+m<=_;omega,by rw[cW];show st.length+1+m<=_;omega,er,_,_,Z'⟩⟩
noncomputable def yW(V:qz)(i:Nat)(c:pM):qz:={V with calls:=V.calls.set i c}
def sH(V:qz)(i:Nat)(c d:pM):yW (yW V i c) i d=yW V i d:=by unfold yW;rw[iT]
structure CI(a:Ad)(M:Mp)(A:tI)(V:qz)(i:Nat)(k:rN)(c:pM):Prop where
 bd:pV a M A V
 e1:A.cs[i]?=Fa k
 e2:V.calls[i]?=Fa c
noncomputable def cF(x:Str)(wy ad md:Uf)(k:Nat):T0 (Str×D):=List.take (α:=Str×D) k [("state",.str "rings"),("caller",.str x),("way",.ref wy),("at",.ref ad),("members",.ref md),("holder",.mS),("since",.int 0)]
variable {M':Mp}{i:Nat}{k:rN}
section
variable {c:pM}
def CI.cell(h:CI a M A V i k c):sf a M (A.lists++V.fo) k c:=h.bd.cs i k c h.e1 h.e2
def CI.sub(h:CI a M A V i k c)(s:qF M M'):CI a M' A V i k c:=⟨h.bd.sub s,h.e1,h.e2⟩
def CI.put(h:CI a M A V i k c)(c':pM){ad md:Uf}(ew:c'.way=c.way)(la:pA M ad=Fa (c'.at_.map D.str))(lm:pA M md=Fa (c'.ms.map D.str))(na:ad∉A.lists++V.fo)(nm:md∉A.lists++V.fo):
  CI a (pP M k.p (.ins a.e (rE c' k.wy ad md))) A (yW V i c') i k c'/\rb A M A (pP M k.p (.ins a.e (rE c' k.wy ad md))):=by
 obtain⟨b,s⟩:=h.bd.oq h.e1 h.e2 ew la lm na nm;refine⟨⟨b,h.e1,?_⟩,s⟩;show(V.calls.set i c')[i]?=Fa c';rw[eM (cX.mp h.e2).1]
end
inductive Rl(i:Nat)(c:pM):Ev->pM->Prop
 | rings (ps:QQQ):Rl i c (.rings i ps) (c.ring ps)
 | quiet:Rl i c (.quiet i) c.nR
 | waits (x:Str):Rl i c (.waits i x) (c.wait x)
 | talks (ms:QQQ):Rl i c (.talks i ms) (c.nM ms)
 | held (x:Str):Rl i c (.held i x) (c.hold x)
 | leaves (x:Str):Rl i c (.leaves i x) (c.drop x)
 | over (w:Str):Rl i c (.over i w) (c.over w)
def G9(a:Ad):rH:=λds M Q=>Bs λp x=>ds=[.ref p,.str x]/\M p=Fa (.ins a.e [])/\∀M' wy ad md,sQ p M M'->M wy=Db->M ad=Db->M md=Db->ad≠wy->md≠wy->M' p=Fa (.ins a.e (rE (zp x) wy ad md))->pA M' wy=Fa []->pA M' ad=Fa []->pA M' md=Fa []->Q .mS M'
def PN(a:Ad):rH:=λds M Q=>Kt λA V i k c w=>ds=[.ref k.p,.str w]/\CI a M A V i k c/\∀M',rb A M A M'->pV a M' A (yW V i (c.over w))->Q .mS M'
def Nm(a:Ad):rH:=λds M Q=>Kt λA V i k c x=>ds=[.ref k.p,.str x]/\CI a M A V i k c/\c.at_.length<=100/\c.ms.length<=100/\∀M',rb A M A M'->pV a M' A (yW V i (c.drop x))->Q .mS M'
def Kg(a:Ad):rH:=λds M Q=>Ud λA V i k c e c'=>ds=[.ref k.p,Ev.d e]/\CI a M A V i k c/\c.at_.length<=100/\c.ms.length<=100/\Rl i c e c'/\∀M',rb A M A M'->pV a M' A (yW V i c')->Q .mS M'
def Qg:Fq P w K mg base 1 a.ar (G9 a):=by
 refine fq G.ar.toDG FH (λr u=>⟨_,(pH (qu v0 pL)
 (pH (qu v0 U1)
 (pH (qu v0 (rq tL))
 (pH (qu v0 (rq tL))
 (pH (qu v0 (rq tL))
 (pH (qu v0 sD)
 (pH (qu v0 pK)
 (pJ (qu v0 sD))))))))),?_⟩)
 rintro ds M Q ⟨p,x,rfl,hb,q⟩
 refine pI hb ⟨(G.j "state" Z'),by show 0<1000;decide,?_⟩;have k1:sQ p M (pP M p (.ins a.e [("state",.str "rings")])):=.put;have b1:pP M p (.ins a.e [("state",.str "rings")]) p=Fa (.ins a.e [("state",.str "rings")]):=qa;show uO _ _ _ _ (pP M p (.ins a.e [("state",.str "rings")]));generalize pP M p (.ins a.e [("state",.str "rings")])=N1 at k1 b1 ⊢;refine pI b1 ⟨(G.j "caller" Z'),by show 1<1000;decide,?_⟩;have k2:=k1.trans (sQ.put (p:=p) (c:=.ins a.e [("state",.str "rings"),("caller",.str x)]));have b2:pP N1 p (.ins a.e [("state",.str "rings"),("caller",.str x)]) p=Fa (.ins a.e [("state",.str "rings"),("caller",.str x)]):=qa;show uO _ _ _ _ (pP N1 p (.ins a.e [("state",.str "rings"),("caller",.str x)]));generalize pP N1 p (.ins a.e [("state",.str "rings"),("caller",.str x)])=N2 at k2 b2 ⊢;refine⟨pE Z',λwy hwy=>?_⟩;obtain⟨n3,e3,k3,c3,b3⟩:=tN (fs':=(cF x wy 0 0 3)) (c:=.lst []) b2 hwy;refine pI e3 ⟨(G.j "way" Z'),by show 2<1000;decide,?_⟩;show uO _ _ _ _ (pP (pP N2 wy (.lst [])) p (.ins a.e (cF x wy 0 0 3)));generalize pP (pP N2 wy (.lst [])) p (.ins a.e (cF x wy 0 0 3))=N3 at k3 c3 b3 ⊢;have z1:M wy=Db:=rS k2 b2 hwy;have kk3:=k2.trans k3;have l3:pA N3 wy=Fa []:=se c3;refine⟨pE Z',λad had=>?_⟩;obtain⟨n4,e4,k4,c4,b4⟩:=tN (fs':=(cF x wy ad 0 4)) (c:=.lst []) b3 had;refine pI e4 ⟨(G.j "at" Z'),by show 3<1000;decide,?_⟩;show uO _ _ _ _ (pP (pP N3 ad (.lst [])) p (.ins a.e (cF x wy ad 0 4)));generalize pP (pP N3 ad (.lst [])) p (.ins a.e (cF x wy ad 0 4))=N4 at k4 c4 b4 ⊢;have z2:M ad=Db:=rS kk3 b3 had;have ZV:=kk3.trans k4;have naw:ad≠wy:=λz=>by rw[z,c3]at had;cases had
 have l4:=k4.lst (qg l3 b3) l3;have m4:pA N4 ad=Fa []:=se c4;refine⟨pE Z',λmd hmd=>?_⟩;obtain⟨n5,e5,k5,c5,b5⟩:=tN (fs':=(cF x wy ad md 5)) (c:=.lst []) b4 hmd;refine pI e5 ⟨(G.j "members" Z'),by show 4<1000;decide,?_⟩;show uO _ _ _ _ (pP (pP N4 md (.lst [])) p (.ins a.e (cF x wy ad md 5)));generalize pP (pP N4 md (.lst [])) p (.ins a.e (cF x wy ad md 5))=N5 at k5 c5 b5 ⊢;have z3:M md=Db:=rS ZV b4 hmd;have ZW:=ZV.trans k5;have nmw:md≠wy:=λz=>by rw[z,qk l4]at hmd;cases hmd
 have l5:=k5.lst (qg l4 b4) l4;have m5:=k5.lst (qg m4 b4) m4;have o5:pA N5 md=Fa []:=se c5;refine pI b5 ⟨(G.j "holder" Z'),by show 5<1000;decide,?_⟩;have k6:sQ p N5 (pP N5 p (.ins a.e (cF x wy ad md 6))):=.put;have b6:pP N5 p (.ins a.e (cF x wy ad md 6)) p=Fa (.ins a.e (cF x wy ad md 6)):=qa;show uO _ _ _ _ (pP N5 p (.ins a.e (cF x wy ad md 6)));generalize pP N5 p (.ins a.e (cF x wy ad md 6))=N6 at k6 b6 ⊢;refine pI b6 ⟨(G.j "since" Z'),by show 6<1000;decide,?_⟩;have k7:=k6.trans (sQ.put (p:=p) (c:=.ins a.e (cF x wy ad md 7)));have b7:pP N6 p (.ins a.e (cF x wy ad md 7)) p=Fa (.ins a.e (cF x wy ad md 7)):=qa;rw[show wj "since" (.int 0) (cF x wy ad md 6)=(cF x wy ad md 7)from Z'];generalize pP N6 p (.ins a.e (cF x wy ad md 7))=N7 at k7 b7 ⊢;refine pI b7 ⟨(G.j "word" Z'),by show 7<1000;decide,_,.refl,?_⟩;have k8:=k7.trans (sQ.put (p:=p) (c:=.ins a.e (rE (zp x) wy ad md)));exact q _ wy ad md (ZW.trans k8) z1 z2 z3 naw nmw qa (k8.lst (qg l5 b5) l5) (k8.lst (qg m5 b5) m5) (k8.lst (qg o5 b5) o5)
def J1:Fq P w K mg base 1 a.ad (PN a):=by
 refine fq G.ad.toDG GG (λr u=>⟨_,(pH (qu v0 pL)
 (pH (qu v0 U1)
 (pH (qu v0 (rq tL))
 (pH (qu v0 (rq tL))
 (pJ (qu v0 sD)))))),?_⟩)
 rintro ds M Q ⟨A,V,i,k,c,w0,rfl,h,q⟩
 obtain⟨ad,md,h1,h2,h3,h4,n1,n2⟩:=h.cell;refine pI h1 ⟨(G.j "state" Z'),by show 8<1000;decide,?_⟩;obtain⟨g1,s1⟩:=h.put {c with st:="over"} Z' h3 h4 n1 n2;show uO _ _ _ _ (pP M k.p (.ins a.e (rE {c with st:="over"} k.wy ad md)));generalize pP M k.p (.ins a.e (rE {c with st:="over"} k.wy ad md))=M1 at g1 s1 ⊢;clear h1 h2 h3 h4 n1 n2;obtain⟨ad,md,h1,h2,h3,h4,n1,n2⟩:=g1.cell;refine pI h1 ⟨(G.j "word" Z'),by show 8<1000;decide,?_⟩;obtain⟨g2,s2⟩:=g1.put {c with st:="over",wd:=some w0} Z' h3 h4 n1 n2;show uO _ _ _ _ (pP M1 k.p (.ins a.e (rE {c with st:="over",wd:=some w0} k.wy ad md)));generalize pP M1 k.p (.ins a.e (rE {c with st:="over",wd:=some w0} k.wy ad md))=M2 at g2 s2 ⊢;clear h1 h2 h3 h4 n1 n2;refine⟨pE Z',λp hp=>?_⟩;have t3:=qF.new (c:=.lst []) hp;have lp:=@pQ M2 p [];have np:=g2.bd.nB hp;have g2':=g2.sub t3;have s2':=s2.trans (.sub t3);generalize pP M2 p (.lst [])=M2' at t3 lp g2' s2' ⊢;obtain⟨ad,md,h1,h2,h3,h4,n1,n2⟩:=g2'.cell;refine pI h1 ⟨(G.j "at" Z'),by show 8<1000;decide,?_⟩;obtain⟨g3,s3⟩:=g2'.put {c with st:="over",wd:=some w0,at_:=[]} Z' lp h4 np n2;show uO _ _ _ _ (pP M2' k.p (.ins a.e (rE {c with st:="over",wd:=some w0,at_:=[]} k.wy p md)));generalize pP M2' k.p (.ins a.e (rE {c with st:="over",wd:=some w0,at_:=[]} k.wy p md))=M3 at g3 s3 ⊢;clear h1 h2 h3 h4 n1 n2 lp t3 np g2 g2';refine⟨pE Z',λp2 X4=>?_⟩;have t4:=qF.new (c:=.lst []) X4;have lp:=@pQ M3 p2 [];have np:=g3.bd.nB X4;have g3':=g3.sub t4;have s3':=s3.trans (.sub t4);generalize pP M3 p2 (.lst [])=M3' at t4 lp g3' s3' ⊢;obtain⟨ad,md,h1,h2,h3,h4,n1,n2⟩:=g3'.cell;refine pI h1 ⟨(G.j "members" Z'),by show 8<1000;decide,?_⟩;obtain⟨g4,s4⟩:=g3'.put {c with st:="over",wd:=some w0,at_:=[],ms:=[]} Z' h3 lp n1 np;rw[show wj "members" (.ref p2) (rE {c with st:="over",wd:=some w0,at_:=[]} k.wy ad md)=rE {c with st:="over",wd:=some w0,at_:=[],ms:=[]} k.wy ad p2 from rfl];generalize pP M3' k.p (.ins a.e (rE {c with st:="over",wd:=some w0,at_:=[],ms:=[]} k.wy ad p2))=M4 at g4 s4 ⊢;clear h1 h2 h3 h4 n1 n2 lp t4 np g3 g3';obtain⟨ad,md,h1,h2,h3,h4,n1,n2⟩:=g4.cell;refine pI h1 ⟨(G.j "holder" Z'),by show 8<1000;decide,_,.refl,?_⟩;obtain⟨g5,s5⟩:=g4.put (c.over w0) Z' h3 h4 n1 n2;refine q _ ((s1.trans s2').trans (s3'.trans (s4.trans s5))) ?_;have:=g5.bd;rw[sH,sH,sH,sH]at this;exact this
def Lq:Fq P w K mg base 1 a.bb (Nm a):=by
 refine fq G.bb.toDG De (λr u=>⟨_,(pH (qu v0 (qO Z' (xD (ix:=[Db,Fa 1]) (N':=["other","phone"])) (qQ (pN v0)) (qN 0) (vE (pS u v0 U1)) v0))
 (pJ (qu v0 (qO Z' (xD (ix:=[Db,Fa 1]) (N':=["other","phone"])) (qQ (pN v0)) (qN 0) (vE (pS u v0 U1)) v0)))),?_⟩)
 rintro ds M Q ⟨A,V,i,k,c,x,rfl,h,la,lm,q⟩
 have hz:=dI;obtain⟨ad,md,h1,h2,h3,h4,n1,n2⟩:=h.cell;refine pI h1 (pG Z' (pG h3 (tK (f:=id) (t:=O0 x) h3 _ [] _ (by rw[cT];simp only[dH];omega) (λd hd k0 hk=>?_) (λd hd _ k0 hk=>?_) λp hp=>?_)))
 .obtain⟨y,hy,rfl⟩:=dB.mp hd;exact hk
 .obtain⟨y,hy,rfl⟩:=dB.mp hd;exact hk
 rw[CK];have t1:=qF.new (c:=.lst ((rV c.at_ x).map D.str)) hp;have lp:=@pQ M p ((rV c.at_ x).map D.str);have np:=h.bd.nB hp;have h':=h.sub t1;have s1:rb A M A (pP M p (.lst ((rV c.at_ x).map D.str))):=.sub t1;generalize pP M p (.lst ((rV c.at_ x).map D.str))=M1 at t1 lp h' s1 ⊢;clear h1 h2 h3 h4 n1 n2;obtain⟨ad,md,h1,h2,h3,h4,n1,n2⟩:=h'.cell;refine pI h1 ⟨(G.j "at" Z'),by show 8<1000;decide,?_⟩;obtain⟨g2,s2⟩:=h'.put {c with at_:=rV c.at_ x} Z' lp h4 np n2;rw[show wj "at" (.ref p) (rE c k.wy ad md)=rE {c with at_:=rV c.at_ x} k.wy p md from rfl];generalize pP M1 k.p (.ins a.e (rE {c with at_:=rV c.at_ x} k.wy p md))=M2 at g2 s2 ⊢;clear h1 h2 h3 h4 n1 n2 lp np;obtain⟨ad,md,h1,h2,h3,h4,n1,n2⟩:=g2.cell;refine pI h1 (pG Z' (pG h4 (tK (f:=id) (t:=O0 x) h4 _ [] _ (by rw[cT];simp only[dH];show 0+c.ms.length<=Ch;omega) (λd hd k0 hk=>?_) (λd hd _ k0 hk=>?_) λp2 X4=>?_)))
 .obtain⟨y,hy,rfl⟩:=dB.mp hd;exact hk
 .obtain⟨y,hy,rfl⟩:=dB.mp hd;exact hk
 rw[CK];have t3:=qF.new (c:=.lst ((rV c.ms x).map D.str)) X4;have lp:=@pQ M2 p2 ((rV c.ms x).map D.str);have np:=g2.bd.nB X4;have g2':=g2.sub t3;have s3:rb A M2 A (pP M2 p2 (.lst ((rV c.ms x).map D.str))):=.sub t3;generalize pP M2 p2 (.lst ((rV c.ms x).map D.str))=M3 at t3 lp g2' s3 ⊢;clear h1 h2 h3 h4 n1 n2;obtain⟨ad,md,h1,h2,h3,h4,n1,n2⟩:=g2'.cell;refine pI h1 ⟨(G.j "members" Z'),by show 8<1000;decide,_,.refl,?_⟩;obtain⟨g4,s4⟩:=g2'.put (c.drop x) Z' h3 lp n1 np;refine q _ ((s1.trans s2).trans (s3.trans s4)) ?_;have:=g4.bd;rw[sH]at this;exact this
def KR:Fq P w K mg base 2 a.bc (Kg a):=by
 refine fq G.bc.toDG xZ (λr u=>⟨_,(pH (pX 2 xZ (pW U1 pK))
 (pJ (qc (pS u U2 pL)
 (pH (qu v0 pL)
 (pH (qu v0 (qx um Z' G.z uu (qA (pW U1 pK))))
 (pJ (qu v0 pK))))
 (pJ (qc (pS u U2 pL)
 (pJ (qu v0 (rq tL)))
 (pJ (qc (pS u U2 pL)
 (pH (qu v0 pL)
 (pJ (qu v0 (rq (qA (pW U1 pK))))))
 (pJ (qc (pS u U2 pL)
 (pH (qu v0 pL)
 (pH (qu v0 (qx um Z' G.z uu (qA (pW U1 pK))))
 (pH (qu v0 (rq tL))
 (pJ (qu v0 sD)))))
 (pJ (qc (pS u U2 pL)
 (pH (qu v0 pL)
 (pJ (qu v0 (pW U1 pK))))
 (pJ (qc (pS u U2 pL)
 (pJ (pZ (pT (Lq G) r G.bb (sE v0 (pW U1 pK)))))
 (pJ (qc (pS u U2 pL)
 (pJ (pZ (pT (J1 G) r G.ad (sE v0 (pW U1 pK)))))
 pU))))))))))))))),?_⟩)
 rintro ds M Q ⟨A,V,i,k,c,e,c',rfl,h,la,lm,hc,q⟩
 cases hc with
 | over w0=>exact⟨A,V,i,k,c,w0,Z',h,λM' s b=>⟨M',.refl,q M' s b⟩⟩
 | leaves x=>exact⟨A,V,i,k,c,x,Z',h,la,lm,λM' s b=>⟨M',.refl,q M' s b⟩⟩
 | quiet=>refine⟨pE Z',λp hp=>?_⟩;have t3:=qF.new (c:=.lst []) hp;have lp:=@pQ M p [];have np:=h.bd.nB hp;have g1:=h.sub t3;generalize pP M p (.lst [])=M1 at t3 lp g1 ⊢;obtain⟨ad,md,h1,h2,h3,h4,n1,n2⟩:=g1.cell;refine pI h1 ⟨(G.j "at" Z'),by show 8<1000;decide,_,.refl,?_⟩;obtain⟨g5,s5⟩:=g1.put c.nR Z' lp h4 np n2;exact q _ ((rb.sub t3).trans s5) g5.bd
 | waits x=>obtain⟨ad,md,h1,h2,h3,h4,n1,n2⟩:=h.cell;refine pI h1 ⟨(G.j "state" Z'),by show 8<1000;decide,?_⟩;obtain⟨g1,s1⟩:=h.put {c with st:="waits"} Z' h3 h4 n1 n2;show uO _ _ _ _ (pP M k.p (.ins a.e (rE {c with st:="waits"} k.wy ad md)));generalize pP M k.p (.ins a.e (rE {c with st:="waits"} k.wy ad md))=M1 at g1 s1 ⊢;clear h1 h2 h3 h4 n1 n2;refine⟨pE Z',λp hp=>?_⟩;have t3:=qF.new (c:=.lst [D.str x]) hp;have lp:=@pQ M1 p [D.str x];have np:=g1.bd.nB hp;have ZN:=g1.sub t3;generalize pP M1 p (.lst [D.str x])=M1' at t3 lp ZN ⊢;obtain⟨ad,md,h1,h2,h3,h4,n1,n2⟩:=ZN.cell;refine pI h1 ⟨(G.j "at" Z'),by show 8<1000;decide,_,.refl,?_⟩;obtain⟨g5,s5⟩:=ZN.put (c.wait x) Z' lp h4 np n2;refine q _ (s1.trans ((rb.sub t3).trans s5)) ?_;have:=g5.bd;rw[sH]at this;exact this
 | held x=>obtain⟨ad,md,h1,h2,h3,h4,n1,n2⟩:=h.cell;refine pI h1 ⟨(G.j "state" Z'),by show 8<1000;decide,?_⟩;obtain⟨g1,s1⟩:=h.put {c with st:="held"} Z' h3 h4 n1 n2;show uO _ _ _ _ (pP M k.p (.ins a.e (rE {c with st:="held"} k.wy ad md)));generalize pP M k.p (.ins a.e (rE {c with st:="held"} k.wy ad md))=M1 at g1 s1 ⊢;clear h1 h2 h3 h4 n1 n2;obtain⟨ad,md,h1,h2,h3,h4,n1,n2⟩:=g1.cell;refine pI h1 ⟨(G.j "holder" Z'),by show 8<1000;decide,_,.refl,?_⟩;obtain⟨g5,s5⟩:=g1.put (c.hold x) Z' h3 h4 n1 n2;refine q _ (s1.trans s5) ?_;have:=g5.bd;rw[sH]at this;exact this
 | rings ps=>obtain⟨ad,md,h1,h2,h3,h4,n1,n2⟩:=h.cell;refine pI h1 ⟨(G.j "state" Z'),by show 8<1000;decide,?_⟩;obtain⟨g1,s1⟩:=h.put {c with st:="rings"} Z' h3 h4 n1 n2;show uO _ _ _ _ (pP M k.p (.ins a.e (rE {c with st:="rings"} k.wy ad md)));generalize pP M k.p (.ins a.e (rE {c with st:="rings"} k.wy ad md))=M1 at g1 s1 ⊢;clear h1 h2 h3 h4 n1 n2;refine λp hp=>?_;have t3:=qF.new (c:=.lst (ps.map D.str)) hp;have lp:=@pQ M1 p (ps.map D.str);have np:=g1.bd.nB hp;have ZN:=g1.sub t3;have s1':=s1.trans (.sub t3);generalize pP M1 p (.lst (ps.map D.str))=M1' at t3 lp ZN s1' ⊢;obtain⟨ad,md,h1,h2,h3,h4,n1,n2⟩:=ZN.cell;refine pI h1 ⟨(G.j "at" Z'),by show 8<1000;decide,?_⟩;obtain⟨g3,s3⟩:=ZN.put {c with st:="rings",at_:=ps} Z' lp h4 np n2;rw[show wj "at" (.ref p) (rE {c with st:="rings"} k.wy ad md)=rE {c with st:="rings",at_:=ps} k.wy p md from rfl];generalize pP M1' k.p (.ins a.e (rE {c with st:="rings",at_:=ps} k.wy p md))=M3 at g3 s3 ⊢;clear h1 h2 h3 h4 n1 n2 lp t3 np;obtain⟨ad,md,h1,h2,h3,h4,n1,n2⟩:=g3.cell;refine pI h1 ⟨(G.j "since" Z'),by show 8<1000;decide,_,.refl,?_⟩;obtain⟨g5,s5⟩:=g3.put (c.ring ps) Z' h3 h4 n1 n2;refine q _ (s1'.trans (s3.trans s5)) ?_;have:=g5.bd;rw[sH,sH]at this;exact this
 | talks ms=>obtain⟨ad,md,h1,h2,h3,h4,n1,n2⟩:=h.cell;refine pI h1 ⟨(G.j "state" Z'),by show 8<1000;decide,?_⟩;obtain⟨g1,s1⟩:=h.put {c with st:="talks"} Z' h3 h4 n1 n2;show uO _ _ _ _ (pP M k.p (.ins a.e (rE {c with st:="talks"} k.wy ad md)));generalize pP M k.p (.ins a.e (rE {c with st:="talks"} k.wy ad md))=M1 at g1 s1 ⊢;clear h1 h2 h3 h4 n1 n2;refine λp hp=>?_;have t3:=qF.new (c:=.lst (ms.map D.str)) hp;have lp:=@pQ M1 p (ms.map D.str);have np:=g1.bd.nB hp;have ZN:=g1.sub t3;have s1':=s1.trans (.sub t3);generalize pP M1 p (.lst (ms.map D.str))=M1' at t3 lp ZN s1' ⊢;obtain⟨ad,md,h1,h2,h3,h4,n1,n2⟩:=ZN.cell;refine pI h1 ⟨(G.j "members" Z'),by show 8<1000;decide,?_⟩;obtain⟨g3,s3⟩:=ZN.put {c with st:="talks",ms:=ms} Z' h3 lp n1 np;show uO _ _ _ _ (pP M1' k.p (.ins a.e (rE {c with st:="talks",ms:=ms} k.wy ad p)));generalize pP M1' k.p (.ins a.e (rE {c with st:="talks",ms:=ms} k.wy ad p))=M3 at g3 s3 ⊢;clear h1 h2 h3 h4 n1 n2 lp t3 np;refine⟨pE Z',λp2 X4=>?_⟩;have t4:=qF.new (c:=.lst []) X4;have lp:=@pQ M3 p2 [];have np:=g3.bd.nB X4;have g3':=g3.sub t4;have s3':=s3.trans (.sub t4);generalize pP M3 p2 (.lst [])=M3' at t4 lp g3' s3' ⊢;obtain⟨ad,md,h1,h2,h3,h4,n1,n2⟩:=g3'.cell;refine pI h1 ⟨(G.j "at" Z'),by show 8<1000;decide,?_⟩;obtain⟨g4,s4⟩:=g3'.put {c with st:="talks",ms:=ms,at_:=[]} Z' lp h4 np n2;rw[show wj "at" (.ref p2) (rE {c with st:="talks",ms:=ms} k.wy ad md)=rE {c with st:="talks",ms:=ms,at_:=[]} k.wy p2 md from rfl];generalize pP M3' k.p (.ins a.e (rE {c with st:="talks",ms:=ms,at_:=[]} k.wy p2 md))=M4 at g4 s4 ⊢;clear h1 h2 h3 h4 n1 n2 lp t4 np;obtain⟨ad,md,h1,h2,h3,h4,n1,n2⟩:=g4.cell;refine pI h1 ⟨(G.j "holder" Z'),by show 8<1000;decide,_,.refl,?_⟩;obtain⟨g5,s5⟩:=g4.put (c.nM ms) Z' h3 h4 n1 n2;refine q _ (s1'.trans (s3'.trans (s4.trans s5))) ?_;have:=g5.bd;rw[sH,sH,sH]at this;exact this
theorem tV{α:Type}{f:α->α}:∀{l:List α} {i:Nat} {c:α},l[i]?=Fa c->l.modify i f=l.set i (f c)
 | [],_,_,h=>by simp at h
 | _::_,0,_,h=>by cases h;rfl
 | x::r,i+1,c,h=>by rw[List.modify_succ_cons,lj,tV (l:=r) (by simpa using h)]
def IE(ps:T0 (Str×Int))(z:Str)(n:Int):BL (tT ps) (.inr z) (.int n)=tT (Cu ps z n):=by
 have ea:((tT ps).any λkv=>decide (kv.1=(Sum.inr z:rj)))=ps.any λp=>decide (p.1=z):=by unfold tT;rw[jP];congr 1;funext p;have:((Sum.inr p.1:rj)=Sum.inr z)=(p.1=z):=propext ⟨λh=>jZ h,λh=>by rw[h]⟩;simp only[Function.comp,this]
 unfold BL Cu;rw[ea];by_cases h:(ps.any λp=>decide (p.1=z))=pc
 .rw[c9 h,c9 h];unfold tT;rw[dZ,dZ];refine gv λp _=>?_;by_cases hp:p.1=z
  .simp[hp]
  .have:¬(Sum.inr p.1:rj)=Sum.inr z:=λy=>hp (jZ y);simp[hp]
 .rw[cY h,cY h];unfold tT;rw[dM];rfl
def G0{α:Type}{l:List α}{i:Nat}{x:α}(h:l[i]?=Fa x):l.set i x=l:=by obtain⟨hi,e⟩:=cX.mp h;rw[<-e,List.set_getElem_self]
structure Xr(V:qz):Prop where
 lo:V.log.length<10000000
 le:V.m8.length<10000000
 ca:V.calls.length<=1000000
 ps:V.ps.length<10000000
 cs:∀c∈V.calls,c.way.length<10000000/\c.at_.length<=100/\c.ms.length<=100
def Bg(a:Ad):rH:=λds M Q=>HA λA V k c v=>ds=[.ref A.b,sC.d v]/\CI a M A V v.i k c/\V.m8.length<10000000/\c.way.length<10000000/\∀M',rb A M A M'->pV a M' A {yW V v.i (c.go v.g)with m8:=V.m8++[v]}->Q .mS M'
def Dp(a:Ad):rH:=λds M Q=>T9 λA V i j ki ci cj ms=>ds=[.ref A.b,.int (i:Nat),.int (j:Nat),names ms]/\CI a M A V i ki ci/\V.calls[j]?=Fa cj/\i≠j/\V.m8.length<10000000/\∀M' A',A'.b=A.b->rb A M A' M'->pV a M' A' {yW (yW V i (ci.over "merged")) j (cj.mem ms)with m8:=V.m8.map (sC.to i j)}->Q .mS M'
def zE(a:Ad):rH:=λds M Q=>Bs λA V=>ds=[.ref A.b]/\pV a M A V/\∀M',rb A M A M'->pV a M' A {V with t:=V.t+1,calls:=V.calls.map pM.tick}->Q .mS M'
def wn(a:Ad):rH:=λds M Q=>Cg λb A V e=>ds=[.ref b,Ev.d e]/\A.b=b/\pV a M A V/\Xr V/\e.ok V/\∀M' A',A'.b=A.b->rb A M A' M'->pV a M' A' (qo V e)->Q .mS M'
noncomputable def Tf(m k:Nat):D->D
 | .tup (.int i::r)=>if i=(m:Int)then .tup (.int (k:Nat)::r)else .tup (.int i::r)
 | d=>d
def Sh(m k:Nat)(v:sC):Tf m k v.d=(v.to m k).d:=by
 show(if ((v.i:Nat):Int)=(m:Int)then _ else _)=_;unfold sC.to;by_cases h:v.i=m
 .rw[c9 h,c9 (by rw[h])];rfl
 .rw[cY h,cY (by omega)];rfl
def HC:Fq P w K mg base 1 a.bw (Bg a):=by
 refine fq G.bw.toDG Aj (λr u=>⟨_,(pH (pZ (sj (pN v0) (qA U1)))
 (pJ (pZ (sj (pN (pW (pN v0) (pW U1 pK))) (qA (pW U1 pK)))))),?_⟩)
 rintro ds M Q ⟨A,V,k,c,v,rfl,ci,l1,l2,q⟩
 have hz:=dI;have bd:=ci.bd;refine pI bd.at_ (pG Z' ⟨by show(pA M A.le).isSome=pc;rw[bd.le];rfl,pG bd.le ⟨by rw[cT];omega,?_⟩⟩);obtain⟨b1,s1⟩:=bd.oM (es:=V.m8++[v]);rw[dM]at b1 s1;have b1:pV a (pP M A.le (.lst (V.m8.map sC.d++[v.d]))) A {V with m8:=V.m8++[v]}:=b1;have s1:rb A M A (pP M A.le (.lst (V.m8.map sC.d++[v.d]))):=s1;generalize pP M A.le (.lst (V.m8.map sC.d++[v.d]))=M1 at b1 s1 ⊢;obtain⟨ad,md,h1,h2,h3,h4,n1,n2⟩:=b1.cs v.i k c ci.e1 ci.e2;refine pI b1.at_ (pG Z' (pG b1.ca (pG (rG ci.e1) (pI h1 (pG Z' ⟨by show(pA M1 k.wy).isSome=pc;rw[h2];rfl,pG h2 ⟨by rw[cT];omega,?_⟩⟩)))));obtain⟨b2,s2⟩:=b1.oE (ws:=c.way++[v.g]) ci.e1 ci.e2;rw[dM]at b2 s2;exact⟨_,.refl,q _ (s1.trans s2) b2⟩
def Os:Fq P w K mg base 2 a.bx (Dp a):=by
 refine fq G.bx.toDG ye (λr u=>⟨_,(pH (pZ (pT (J1 G) r G.ad (sE (pW (pN v0) U1) pL)))
 (pH (qu v0 (qO Z' (xD (ix:=[Db,Fa 1,Fa 2]) (N':=["leg","merged","kept"])) (qQ (pN v0)) (qN 0) rY (Nh (pS u (pW v0 pK) U1) (qm (pY (qA U2)) (rQ v0 (sv pK) sV)) v0)))
 (pH (pX 4 ye (pW (pN v0) U2))
 (pJ (qu v4 (qx um Z' G.z uu (qA U3))))))),?_⟩)
 rintro ds M Q ⟨A,V,i,j,ki,ci,cj,ms,rfl,hi,hj,YN,l1,q⟩
 have hz:=dI;refine pI hi.bd.at_ (pG Z' (pG Z' (pG hi.bd.ca (pG (rG hi.e1) ⟨A,V,i,ki,ci,"merged",Z',hi,λM1 s1 b1=>?_⟩))));have hj1:(yW V i (ci.over "merged")).calls[j]?=Fa cj:=by show(V.calls.set i _)[j]?=_;rw[eQ YN];exact hj
 have le1:pA M1 A.le=Fa (V.m8.map sC.d):=b1.le;refine pI b1.at_ (pG Z' (pG le1 (rB (f:=Tf i j) le1 _ [] _ (by rw[cT];simp only[dH];omega) (λd hd k hk=>?_) λp hp=>?_)))
 .obtain⟨v,_,rfl⟩:=dB.mp hd;refine pG Z' ?_;have hk:k (if ((v.i:Nat):Int)=(i:Int)then .tup [.int (j:Nat),.str v.f,.str v.g,.str v.y]else .tup [.int (v.i:Nat),.str v.f,.str v.g,.str v.y]) M1:=hk;refine qS (c:=((v.i:Nat):Int)==(i:Nat)) (λz=>?_) (λz=>?_)
  .rw[c9 (sK z)]at hk;exact⟨pE Z',fz _ _,by show 1+3<=Ch;omega,hk⟩
  .rw[cY (λy=>z (by rw[y];exact fv _))]at hk;exact hk
 have em:[]++(V.m8.map sC.d).map (Tf i j)=(V.m8.map (sC.to i j)).map sC.d:=by rw[dX,dZ,dZ];exact gv λv _=>Sh i j v
 rw[em];obtain⟨b2,s2⟩:=b1.oG (es:=V.m8.map (sC.to i j)) hp;have t:=qF.new (c:=.lst ((V.m8.map (sC.to i j)).map sC.d)) hp;refine pI (t _ _ b1.at_) ⟨(G.E "legs" Z'),by show 8<1000;decide,?_⟩;show uO _ _ _ _ (pP (pP M1 p (.lst ((V.m8.map (sC.to i j)).map sC.d))) A.b (.ins a.c (ud (.ref V.p) V.h V.t A.ca p A.nx A.on A.lo)));have b2:pV a (pP (pP M1 p (.lst ((V.m8.map (sC.to i j)).map sC.d))) A.b (.ins a.c (ud (.ref V.p) V.h V.t A.ca p A.nx A.on A.lo))) {A with le:=p} {yW V i (ci.over "merged")with m8:=V.m8.map (sC.to i j)}:=b2;have s2:rb A M1 {A with le:=p} (pP (pP M1 p (.lst ((V.m8.map (sC.to i j)).map sC.d))) A.b (.ins a.c (ud (.ref V.p) V.h V.t A.ca p A.nx A.on A.lo))):=s2;generalize pP (pP M1 p (.lst ((V.m8.map (sC.to i j)).map sC.d))) A.b (.ins a.c (ud (.ref V.p) V.h V.t A.ca p A.nx A.on A.lo))=M2 at b2 s2 ⊢;have hjk:j<A.cs.length:=by rw[hi.bd.len];exact(cX.mp hj).1
 have ej:A.cs[j]?=Fa A.cs[j]:=cV hjk;generalize A.cs[j]=kj at ej;have cj2:CI a M2 {A with le:=p} _ j kj cj:=⟨b2,ej,hj1⟩;refine pI b2.at_ (pG Z' (pG Z' (pG b2.ca (pG (rG ej) ?_))));refine λr hr0=>?_;have t3:=qF.new (c:=.lst (ms.map D.str)) hr0;have lr:=@pQ M2 r (ms.map D.str);have nr:=b2.nB hr0;have cj3:=cj2.sub t3;generalize pP M2 r (.lst (ms.map D.str))=M3 at t3 lr cj3 ⊢;obtain⟨ad,md,h1,h2,h3,h4,n1,n2⟩:=cj3.cell;refine pI h1 ⟨(G.j "members" Z'),by show 8<1000;decide,_,.refl,?_⟩;obtain⟨g5,s5⟩:=cj3.put (cj.mem ms) Z' h3 lr n1 nr;exact q _ {A with le:=p} Z' (s1.trans (s2.trans ((rb.sub t3).trans s5))) g5.bd
def Fo:Fq P w K mg base 1 a.bz (zE a):=by
 refine fq G.bz.toDG vC (λr u=>⟨_,(pH (Es v0 pK)
 (pJ (vM fD Z' (qQ (pN v0)) (sd 1 vC)
 (pJ (qc (pS u (pN U1) pL)
 (pJ (Es U1 pK))
 pU))))),?_⟩)
 rintro ds M Q ⟨A,V,rfl,bd,q⟩
 refine pI bd.at_ ⟨(G.E "turn" Z'),pG Z' (pG Z' (pI bd.at_ ⟨Z',by show 8<1000;decide,?_⟩))⟩;obtain⟨b1,s1⟩:=bd.putT (t:=V.t+1);rw[show wj "turn" (.int (V.t+1)) (ud (.ref V.p) V.h V.t A.ca A.le A.nx A.on A.lo)=ud (.ref V.p) V.h (V.t+1) A.ca A.le A.nx A.on A.lo from rfl];generalize pP M A.b (.ins a.c (ud (.ref V.p) V.h (V.t+1) A.ca A.le A.nx A.on A.lo))=M1 at b1 s1 ⊢;refine pI b1.at_ (pG Z' (pG b1.ca ?_));refine yb (A.cs.map λk=>D.ref k.p) (λpre U M'=>pV a M' A {V with t:=V.t+1,calls:=(V.calls.take pre.length).map pM.tick++V.calls.drop pre.length}/\rb A M A M'/\∃y,U=[Fa (.ref A.b),y]) (λ_ _ M' j=>j.1.ca) _ [] _ _ Z' ⟨b1,s1,Db,Z'⟩ ?_ ?_
 .rintro pre d post e U M' ⟨b2,s2,y,rfl⟩ nx X7
  have hd:(A.cs.map λk=>D.ref k.p)[pre.length]?=Fa d:=by rw[<-e];simp
  rw[dD]at hd;cases ek:A.cs[pre.length]? with
  | none=>rw[ek]at hd;cases hd
  | some k=>
   rw[ek]at hd;have hd:D.ref k.p=d:=dh hd;subst hd;have hi:pre.length<V.calls.length:=by rw[<-bd.len];exact(cX.mp ek).1
   have ec:V.calls[pre.length]?=Fa V.calls[pre.length]:=cV hi;have ed:V.calls.drop pre.length=V.calls[pre.length]::V.calls.drop (pre.length+1):=gJ hi;have et:V.calls.take (pre.length+1)=V.calls.take pre.length++[V.calls[pre.length]]:=by rw[gG,ec];rfl
   generalize V.calls[pre.length]=c at ec ed et;have hl:((V.calls.take pre.length).map pM.tick).length=pre.length:=by rw[cT,fL];omega
   have ec2:((V.calls.take pre.length).map pM.tick++V.calls.drop pre.length)[pre.length]?=Fa c:=by rw[eW (by rw[hl];exact dq _),hl,hU,ed];rfl
   rw[cW,dP,et]at X7;have en:((V.calls.take pre.length).map pM.tick++V.calls.drop pre.length).set pre.length c.tick=(V.calls.take pre.length++[c]).map pM.tick++V.calls.drop (pre.length+1):=by rw[ko _ _ (by rw[hl];exact dq _),hl,hU,ed,dM,e9];rfl
   have ci:CI a M' A _ pre.length k c:=⟨b2,ek,ec2⟩;obtain⟨ad,md,h1,h2,h3,h4,n1,n2⟩:=ci.cell;refine pI h1 (pG Z' ?_);have ht:c.tick=if (c.st=="rings")=pc then{c with si:=c.si+1}else c:=rfl;refine qS (c:=c.st=="rings") (λg=>?_) (λg=>?_)
   .rw[c9 g]at ht;refine pI h1 ⟨(G.j "since" Z'),pG Z' (pG Z' (pI h1 ⟨Z',by show 8<1000;decide,?_⟩))⟩;obtain⟨g5,s5⟩:=ci.put c.tick (by rw[ht]) (by rw[ht];exact h3) (by rw[ht];exact h4) n1 n2;have b5:=g5.bd;unfold yW at b5;rw[en]at b5;rw[ht]at b5 s5;exact X7 _ _ ⟨b5,s2.trans s5,_,Z'⟩
   .rw[cY g]at ht;rw[ht,G0 ec2]at en;rw[en]at b2;exact X7 _ _ ⟨b2,s2,_,Z'⟩
 .rintro U M' ⟨b2,s2,y,rfl⟩
  rw[cT,bd.len,fF,jM,eR]at b2;exact⟨M',.refl,q M' s2 b2⟩
def rA:Fq P w K mg base 3 a.k (wn a):=by
 refine fq G.k.toDG xP (λr u=>⟨_,(pH (pZ (sj (pN v0) (qA U1)))
 (pH (pX 2 xP (pW U1 pK))
 (pJ (qc (pS u U2 pL)
 (pJ (pZ (sj (pN v0) (qA (uV (Qg G) r G.e G.ch G.ar.toDG (qA (pW U1 pK)))))))
 (pJ (qc (pS u U2 pL)
 (pJ (pZ (ql v0 G.c.toCls G.bw (HC G) r (qA (rQ U1 (sv pK) sV)))))
 (pJ (qc (pS u U2 pL)
 (pJ (OG u (pN v0) (pW U1 pK) (pW U1 pK)))
 (pJ (qc (pS u U2 pL)
 (pJ (pZ (ql v0 G.c.toCls G.bx (Os G) r (rF (pW U1 pK) (pW U1 pK) (pW U1 pK)))))
 (pJ (qc (pS u U2 pL)
 (pJ (pZ (yA v0 G.c.toCls G.bz (Fo G) r)))
 (pJ (qc (pS u U2 (pY (sE pL pL)))
 (pJ (Ij (qB u U2 pL) (S5 (pN v0) (pW U1 pK))))
 (pJ (qc (pS u U2 pL)
 (pJ (pZ (pT (KR G) r G.bc (sE (pW (pN v0) (pW U1 pK)) U1))))
 pU)))))))))))))))),?_⟩)
 rintro ds M Q ⟨_,A,V,e,rfl,rfl,bd,lim,ev,q⟩
 have hz:=dI;have ll:=lim.lo;have lc:=lim.ca;have lp:=lim.ps;refine pI bd.at_ (pG Z' ⟨by show(pA M A.lo).isSome=pc;rw[bd.lo];rfl,pG bd.lo ⟨by rw[cT];omega,?_⟩⟩);have hb:=bd.oF (es:=V.log++[e]);rw[dM]at hb;obtain⟨b1,s1⟩:pV a (pP M A.lo (.lst (V.log.map Ev.d++[e.d]))) A (qV V e)/\rb A M A (pP M A.lo (.lst (V.log.map Ev.d++[e.d]))):=hb;show uO _ _ _ _ (pP M A.lo (.lst (V.log.map Ev.d++[e.d])));generalize pP M A.lo (.lst (V.log.map Ev.d++[e.d]))=M1 at b1 s1 ⊢;have ZY:∀i,i<V.calls.length->∃k c,A.cs[i]?=Fa k/\V.calls[i]?=Fa c/\c∈V.calls:=λi hi=>by
  have YK:i<A.cs.length:=by rw[bd.len];exact hi
  exact⟨_,_,cV YK,cV hi,ia hi⟩
 have chg:∀(i:Nat) (k:rN) (c:pM) (c':pM) (f:pM->pM),A.cs[i]?=Fa k->V.calls[i]?=Fa c->f c=c'->qo V e=xQ (qV V e) i f->∀(M2:Mp),rb A M1 A M2->pV a M2 A (yW (qV V e) i c')->∃XX,qF XX M2/\Q .mS XX:=λi k c c' f e1 e2 e3 e4 M2 s2 b2=>⟨M2,.refl,q M2 A Z' (s1.trans s2) (by
  rw[e4];unfold xQ;rw[show(qV V e).calls=V.calls from rfl,tV e2,e3];exact b2)⟩
 cases e with
 | new n x=>refine pI b1.at_ (pG Z' ⟨by show(pA M1 A.ca).isSome=pc;rw[b1.ca];rfl,λp hp=>⟨p,x,Z',qa,λM2 wy ad md kp z1 z2 z3 n1 n2 h1 h2 h3 h4=>⟨Z',?_⟩⟩⟩);have sp:=qF.new (c:=.ins a.e []) hp;have s2:qF M1 M2:=λy d hy=>kp y d (Pe hy hp) (sp y d hy);refine pG (s2.lst b1.ca) ⟨by rw[cT,b1.len];show V.calls.length<Ch;omega,?_⟩;obtain⟨b3,s3⟩:=b1.ou s2 (c:=zp x) hp (sp.none z1) (sp.none z2) (sp.none z3) h1 h2 h3 h4 n1 n2;exact⟨_,.refl,q _ (A.add ⟨p,wy⟩) Z' (s1.trans s3) b3⟩
 | leg v=>obtain⟨k,c,ek,ec,hc⟩:=ZY v.i ev;refine pI b1.at_ ⟨Z',_,⟨Z',Z'⟩,A,qV V (.leg v),k,c,v,Z',⟨b1,ek,ec⟩,lim.le,(lim.cs c hc).1,λM2 s2 b2=>⟨M2,.refl,q M2 A Z' (s1.trans s2) ?_⟩⟩;show pV a M2 A {qV V (.leg v)with m8:=V.m8++[v],calls:=V.calls.modify v.i (·.go v.g)};rw[tV ec];exact b2
 | next z n=>refine pI b1.at_ (pG Z' (pG b1.nx ⟨by show(tT V.ps).length<Ch;unfold tT;rw[cT];omega,?_⟩));rw[IE];obtain⟨b2,s2⟩:=b1.pb (ps:=Cu V.ps z n);exact⟨_,.refl,q _ A Z' (s1.trans s2) b2⟩
 | merge i j ms=>obtain⟨hi,hj,hij,_⟩:=ev;obtain⟨ki,ci,eki,eci,hci⟩:=ZY i hi;obtain⟨kj,cj,ekj,ecj,hcj⟩:=ZY j hj;refine pI b1.at_ ⟨Z',_,⟨Z',Z'⟩,A,qV V (.merge i j ms),i,j,ki,ci,cj,ms,Z',⟨b1,eki,eci⟩,ecj,hij,lim.le,λM2 A2 eb s2 b2=>⟨M2,.refl,q M2 A2 eb (s1.trans s2) ?_⟩⟩;show pV a M2 A2 {qV V (.merge i j ms)with calls:=(V.calls.modify i (·.over "merged")).modify j (·.mem ms),m8:=V.m8.map (sC.to i j)};rw[tV eci,tV (show(V.calls.set i _)[j]?=Fa cj by rw[eQ hij];exact ecj)];exact b2
 | asks i z ns=>exact⟨pE Z',Z',Z',M1,.refl,q M1 A Z' s1 b1⟩
 | turn=>exact pI b1.at_ ⟨Z',_,⟨Z',Z'⟩,A,qV V .turn,Z',b1,λM2 s2 b2=>⟨M2,.refl,q M2 A Z' (s1.trans s2) b2⟩⟩
 | sw b i=>
  have hi:i<V.on.length:=ev;obtain⟨b2,s2⟩:=b1.oZ (bs:=V.on.set i b);have es:(V.on.map D.bl).set i (.bl b)=(V.on.set i b).map D.bl:=(mE).symm;have ix:Hj (V.on.map D.bl).length (i:Nat)=Fa i:=by rw[cT];unfold Hj;simp[hi]
  have XW:∃XX,qF XX (pP M1 A.on (.lst ((V.on.map D.bl).set i (.bl b))))/\Q .mS XX:=by rw[es];exact⟨_,.refl,q _ A Z' (s1.trans s2) b2⟩
  cases b with
  | true=>exact⟨pE Z',Z',Z',pI b1.at_ (pG Z' (pG b1.on (pG ix XW)))⟩
  | false=>exact⟨pE Z',Z',Z',pI b1.at_ (pG Z' (pG b1.on (pG ix XW)))⟩
 | rings i ps=>obtain⟨k,c,ek,ec,hc⟩:=ZY i ev.1;exact⟨pE Z',Z',Z',pI b1.at_ (pG Z' (pG b1.ca (pG (rG ek) ⟨A,qV V _,i,k,c,_,_,Z',⟨b1,ek,ec⟩,(lim.cs c hc).2.1,(lim.cs c hc).2.2,.rings ps,chg i k c _ _ ek ec Z' Z'⟩)))⟩
 | quiet i=>obtain⟨k,c,ek,ec,hc⟩:=ZY i ev;exact⟨pE Z',Z',Z',pI b1.at_ (pG Z' (pG b1.ca (pG (rG ek) ⟨A,qV V _,i,k,c,_,_,Z',⟨b1,ek,ec⟩,(lim.cs c hc).2.1,(lim.cs c hc).2.2,.quiet,chg i k c _ _ ek ec Z' Z'⟩)))⟩
 | waits i x=>obtain⟨k,c,ek,ec,hc⟩:=ZY i ev;exact⟨pE Z',Z',Z',pI b1.at_ (pG Z' (pG b1.ca (pG (rG ek) ⟨A,qV V _,i,k,c,_,_,Z',⟨b1,ek,ec⟩,(lim.cs c hc).2.1,(lim.cs c hc).2.2,.waits x,chg i k c _ _ ek ec Z' Z'⟩)))⟩
 | talks i ms=>obtain⟨k,c,ek,ec,hc⟩:=ZY i ev.1;exact⟨pE Z',Z',Z',pI b1.at_ (pG Z' (pG b1.ca (pG (rG ek) ⟨A,qV V _,i,k,c,_,_,Z',⟨b1,ek,ec⟩,(lim.cs c hc).2.1,(lim.cs c hc).2.2,.talks ms,chg i k c _ _ ek ec Z' Z'⟩)))⟩
 | held i x=>obtain⟨k,c,ek,ec,hc⟩:=ZY i ev;exact⟨pE Z',Z',Z',pI b1.at_ (pG Z' (pG b1.ca (pG (rG ek) ⟨A,qV V _,i,k,c,_,_,Z',⟨b1,ek,ec⟩,(lim.cs c hc).2.1,(lim.cs c hc).2.2,.held x,chg i k c _ _ ek ec Z' Z'⟩)))⟩
 | leaves i x=>obtain⟨k,c,ek,ec,hc⟩:=ZY i ev;exact⟨pE Z',Z',Z',pI b1.at_ (pG Z' (pG b1.ca (pG (rG ek) ⟨A,qV V _,i,k,c,_,_,Z',⟨b1,ek,ec⟩,(lim.cs c hc).2.1,(lim.cs c hc).2.2,.leaves x,chg i k c _ _ ek ec Z' Z'⟩)))⟩
 | over i w0=>obtain⟨k,c,ek,ec,hc⟩:=ZY i ev;exact⟨pE Z',Z',Z',pI b1.at_ (pG Z' (pG b1.ca (pG (rG ek) ⟨A,qV V _,i,k,c,_,_,Z',⟨b1,ek,ec⟩,(lim.cs c hc).2.1,(lim.cs c hc).2.2,.over w0,chg i k c _ _ ek ec Z' Z'⟩)))⟩
noncomputable def Oe:QQQ:=["barred","ring","engaged","left","refused","done","merged"]
def Rg(o:Bool)(c:pM):Prop:=(c.st="rings"/\c.ms=[]/\c.hd=Db/\c.wd=Db/\(o=pc->c.at_=[])/\(o=lf->c.at_≠[]))\/(o=lf/\((c.st="waits"/\c.ms=[]/\c.hd=Db/\c.wd=Db/\c.at_.length=1)\/(c.st="talks"/\(c.ms.length=2\/c.ms.length=3)/\c.hd=Db/\c.wd=Db/\c.at_=[])\/
 (∃x,c.st="held"/\c.ms.length=2/\c.hd=Fa x/\x∈c.ms/\c.wd=Db/\c.at_=[])\/(c.st="over"/\c.ms=[]/\c.hd=Db/\c.at_=[]/\∃w∈Oe,c.wd=Fa w)))
structure wm(l:pR)(o:Bool)(c:pM):Prop where
 sh:Rg o c
 cr:c.cr∈l.pn
 at_:∀x∈c.at_,x∈l.pn
 ms:∀x∈c.ms,x∈l.pn
 an:c.at_.Nodup
 mn:c.ms.Nodup
 ca:c.cr∉c.at_
 wy:c.way≠[]/\∀z∈c.way,z∈l.nm
def BF(c:pM)(x:Str):Prop:=c.nq x=pc\/c.mZ x=pc
structure Ae(l:pR)(V:qz)(o:Option Nat):Prop where
 ok:∀(i:Nat) c,V.calls[i]?=Fa c->wm l (o==Fa i) c
 un:∀(i j:Nat) ci cj x,V.calls[i]?=Fa ci->V.calls[j]?=Fa cj->BF ci x->BF cj x->i=j
 ln:∀x∈l.pn,(vk V x:Int)<=xm l x
 wt:∀(i j:Nat) ci cj x,V.calls[i]?=Fa ci->V.calls[j]?=Fa cj->ci.mT x=pc->cj.mT x=pc->i=j
 nx:uL l V
abbrev WF(l:pR)(V:qz):Prop:=Ae l V Db
structure Sz(V:qz)(c n:Nat):Prop where
 lo:V.log.length<=n
 le:V.m8.length<=n
 ca:V.calls.length<=c
 ps:V.ps.length<=n
 cs:∀k∈V.calls,k.way.length<=n/\k.at_.length<=100/\k.ms.length<=100
def Sz.mono{V:qz}{c n c' n':Nat}(h:Sz V c n)(hc:c<=c')(hn:n<=n'):Sz V c' n':=⟨dY h.lo hn,dY h.le hn,dY h.ca hc,dY h.ps hn,λk hk=>⟨dY (h.cs k hk).1 hn,(h.cs k hk).2⟩⟩
noncomputable def Ev.nw:Ev->Nat
 | .new _ _=>1
 | _=>0
def Nx(ps:T0 (Str×Int))(z:Str)(n:Int):(Cu ps z n).length<=ps.length+1:=by
 unfold Cu;split
 .rw[cT];omega
 .rw[cW];exact dq _
def JT(ss:QQQ)(x:Str):(rV ss x).length<=ss.length:=gg _ _
def EB{α:Type}{f:α->α}{l:List α}{i:Nat}{x:α}(h:x∈l.modify i f):x∈l\/∃y∈l,x=f y:=by
 cases e:l[i]? with
 | none=>rw[kN (by simpa using e)]at h;exact .inl h
 | some c=>
  rw[tV e]at h;rcases List.mem_or_eq_of_mem_set h with g|g
  .exact .inl g
  .exact .inr ⟨c,fk e,g⟩
def Sz.step{V:qz}{c n:Nat}{e:Ev}(h:Sz V c n)(ok:e.ok V):Sz (qo V e) (c+e.nw) (n+1):=by
 have h1:Sz (qV V e) c (n+1):=⟨by show(V.log++[e]).length<=n+1;rw[cW];exact ib h.lo,jv h.le,h.ca,jv h.ps,λk hk=>⟨jv (h.cs k hk).1,(h.cs k hk).2⟩⟩;have md:∀(i:Nat) (f:pM->pM),(∀k∈V.calls,(f k).way=k.way/\(f k).at_.length<=100/\(f k).ms.length<=100)->Sz (xQ (qV V e) i f) c (n+1):=λi f hf=>⟨h1.lo,h1.le,by show(V.calls.modify i f).length<=c;rw[gh];exact h.ca,h1.ps,λk hk=>by
  rcases EB hk with g|⟨y,hy,rfl⟩
  .exact h1.cs k g
  .obtain⟨a1,a2,a3⟩:=hf y hy;exact⟨by rw[a1];exact(h1.cs y hy).1,a2,a3⟩⟩
 cases e with
 | new m x=>
  refine⟨h1.lo,h1.le,by show(V.calls++[zp x]).length<=c+1;rw[cW];exact ib h.ca,h1.ps,λk hk=>?_⟩;rcases dQ.mp hk with g|g
  .exact h1.cs k g
  .rw[dg.mp g];exact⟨eN _,eN _,eN _⟩
 | leg v=>
  refine⟨h1.lo,by show(V.m8++[v]).length<=n+1;rw[cW];exact ib h.le,by show(V.calls.modify v.i _).length<=c;rw[gh];exact h.ca,h1.ps,λk hk=>?_⟩;rcases EB (l:=V.calls) hk with g|⟨y,hy,rfl⟩
  .exact h1.cs k g
  .exact⟨by show(y.way++[v.g]).length<=n+1;rw[cW];exact ib (h.cs y hy).1,(h.cs y hy).2⟩
 | asks i z ns=>exact h1
 | next z m=>exact⟨h1.lo,h1.le,h1.ca,dY (Nx _ _ _) (ib h.ps),h1.cs⟩
 | merge i j ms=>
  have m1:=md i (·.over "merged") λk hk=>⟨Z',eN _,eN _⟩;refine⟨h1.lo,by show(V.m8.map _).length<=n+1;rw[cT];exact h1.le,by show((V.calls.modify i _).modify j _).length<=c;rw[gh,gh];exact h.ca,h1.ps,λk hk=>?_⟩;rcases EB (l:=V.calls.modify i (·.over "merged")) hk with g|⟨y,hy,rfl⟩
  .exact m1.cs k g
  .exact⟨(m1.cs y hy).1,(m1.cs y hy).2.1,ok.2.2.2⟩
 | turn=>
  refine⟨h1.lo,h1.le,by show(V.calls.map pM.tick).length<=c;rw[cT];exact h.ca,h1.ps,λk hk=>?_⟩;obtain⟨y,hy,rfl⟩:=dB.mp hk;have e:y.tick.way=y.way/\y.tick.at_=y.at_/\y.tick.ms=y.ms:=by unfold pM.tick;split<;>exact⟨Z',Z',Z'⟩
  rw[e.1,e.2.1,e.2.2];exact h1.cs y hy
 | sw b i=>exact⟨h1.lo,h1.le,h1.ca,h1.ps,h1.cs⟩
 | rings i ps=>exact md i _ λk hk=>⟨Z',ok.2,(h.cs k hk).2.2⟩
 | quiet i=>exact md i _ λk hk=>⟨Z',eN _,(h.cs k hk).2.2⟩
 | waits i x=>exact md i _ λk hk=>⟨Z',by show 1<=100;decide,(h.cs k hk).2.2⟩
 | talks i ms=>exact md i _ λk hk=>⟨Z',eN _,ok.2⟩
 | held i x=>exact md i _ λk hk=>⟨Z',(h.cs k hk).2.1,(h.cs k hk).2.2⟩
 | leaves i x=>exact md i _ λk hk=>⟨Z',dY (JT _ _) (h.cs k hk).2.1,dY (JT _ _) (h.cs k hk).2.2⟩
 | over i w=>exact md i _ λk hk=>⟨Z',eN _,eN _⟩
def Pz(V:qz)(e:Ev):(qo V e).fo=V.fo:=by cases e<;>rfl
def RX(V:qz)(e:Ev):(qo V e).p=V.p/\(qo V e).h=V.h/\(qo V e).on.length=V.on.length:=by cases e<;>first|exact⟨Z',Z',Z'⟩|exact⟨Z',Z',ig⟩
structure uB(a:Ad)(M0 M:Mp)(b:Uf)(A:tI)(V:qz)(l:pR)(c n:Nat):Prop where
 bd:pV a M A V
 oU:sR a M0 V.p l
 s0:qF M0 M
 fr:∀x∈A.foot,M0 x=Db
 b:A.b=b
 sz:Sz V c n
 ok:rP l
 on:V.on.length=l.mM.length
variable {M0:Mp}{b:Uf}{A':tI}{V':qz}{l:pR}{n:Nat}
section
variable {c:Nat}
def uB.at_(h:uB a M0 M b A V l c n):M b=Fa (.ins a.c (ud (.ref V.p) V.h V.t A.ca A.le A.nx A.on A.lo)):=h.b ▸ h.bd.at_
def uB.sub(h:uB a M0 M b A V l c n)(s:qF M M'):uB a M0 M' b A V l c n:=⟨h.bd.sub s,h.oU,h.s0.trans s,h.fr,h.b,h.sz,h.ok,h.on⟩
def uB.pl(h:uB a M0 M b A V l c n):sR a M V.p l:=h.oU.sub h.s0
def uB.mono(h:uB a M0 M b A V l c n){c' n':Nat}(hc:c<=c')(hn:n<=n'):uB a M0 M b A V l c' n':=⟨h.bd,h.oU,h.s0,h.fr,h.b,h.sz.mono hc hn,h.ok,h.on⟩
def uB.lim(h:uB a M0 M b A V l c n)(hc:c<=1000000)(hn:n<9000000):Xr V:=⟨iz h.sz.lo (by omega),iz h.sz.le (by omega),dY h.sz.ca hc,iz h.sz.ps (by omega),λk hk=>⟨iz (h.sz.cs k hk).1 (by omega),(h.sz.cs k hk).2⟩⟩
def uB.rd(h:uB a M0 M b A V l c n)(hc:c<=1000000){o:Option Nat}(wf:Ae l V o):Rd a M A V l:=⟨h.bd,dY h.sz.ca hc,h.pl,h.ok,h.on,λk hk=>by
 obtain⟨i,hi,e⟩:=gO hk;exact⟨(wf.ok i k (by rw[cV hi,e])).ms,(h.sz.cs k hk).2.2⟩⟩
def uB.call(h:uB a M0 M b A V l c n){i:Nat}{v:pM}(e:V.calls[i]?=Fa v):∃k,CI a M A V i k v:=by
 have hi:i<A.cs.length:=by rw[h.bd.len];exact(cX.mp e).1
 exact⟨A.cs[i],h.bd,cV hi,e⟩
def uB.after(h:uB a M0 M b A V l c n){e:Ev}(ok:e.ok V)(eb:A'.b=A.b)(st:rb A M A' M')(bd:pV a M' A' (qo V e)):uB a M0 M' b A' (qo V e) l (c+e.nw) (n+1):=by
 obtain⟨p1,p2,p3⟩:=RX V e;refine⟨bd,p1 ▸ h.oU,λx d hx=>st.1 x d (λz=>?_) (h.s0 x d hx),λx hx=>?_,eb.trans h.b,h.sz.step ok,h.ok,p3.trans h.on⟩
 .rw[h.fr x z]at hx;cases hx
 .rcases st.2.1 x hx with z|z
  .exact h.fr x z
  .exact h.s0.none z
end
def Gn(l:pR)(V:qz)(c:Str):vO->Prop
 | .rings z ps=>z∈l.nm/\ps≠[]/\ps=xX l V c z
 | .breaks z=>∃x,x=c/\IJ l V x c z=pc
 | .waits z=>z∈l.pn/\z≠c/\AU V z=lf
 | .ring ns=>ns≠[]
 | _=>True
def Hn{V:qz}{c z:Str}:(∀x∈xX l V c z,x∈uH l V c z/\x∈l.mL z)/\(xX l V c z).length<=(l.mL z).length:=by
 have hr:∀x∈uH l V c z,x∈l.mL z:=λx hx=>(fC.mp hx).1;unfold xX;split
 .refine⟨λx hx=>?_,?_⟩
  .have hx:=(fC.mp (iW hx)).2;have hx:=ra.mp hx;exact⟨hx,hr x hx⟩
  .cases e:(vh (l.mL z) (zR V z)).filter λx=>hasS (uH l V c z) x with
   | nil=>exact eN _
   | cons y r=>
    have hy:y∈vh (l.mL z) (zR V z):=(fC.mp (by rw[e];exact dG)).1;have hy:y∈l.mL z:=by
     unfold vh at hy;rcases dQ.mp hy with q|q
     .exact iX q
     .exact iW q
    rw[fL];have:=List.length_pos_of_mem hy;omega
 .exact⟨λx hx=>⟨hx,hr x hx⟩,gg _ _⟩
def Q7{l:pR}{V:qz}{c z:Str}(hz:z∈l.nm):Gn l V c (IL l V c z):=by
 unfold IL;split
 .trivial
 .rename_i x r e;exact⟨hz,fz _ _,e.symm⟩
structure yl(l:pR)(V:qz)(c:Str)(n:Nat)(st:tq)(r:vO×tq):Prop where
 e:Gn l V c r.1
 len:r.2.length<=st.length+n
 nm:∀s∈r.2,s∈st\/s.1∈l.nm
 wy:∀ns,r.1=.ring ns->∀z∈ns,z∈l.nm
theorem zH{V:qz}{c:Str}(ok:rP l):∀(n:Nat) (z:Str) (way:QQQ) (st:tq),z∈l.nm->(∀x∈way,x∈l.nm)->yl l V c n st (uG l V c n z way st)
 | 0,z,way,st,_,_=>⟨trivial,dq _,λs hs=>.inl hs,λns h=>by cases h⟩
 | n+1,z,way,st,hz,hw=>by
  unfold uG;by_cases h:hasS way z=pc
  .rw[c9 h];refine⟨?_,by show st.length<=_;omega,λs hs=>.inl hs,λns e y hy=>?_⟩
   .have h1:way.findIdx (·==z)<way.length:=List.findIdx_lt_length_of_exists ⟨z,ra.mp h,fv z⟩;show way.drop _≠[];intro g;have:=eK List.length g;rw[gc]at this;simp only[dH]at this;omega
   .cases e;exact hw y (iX hy)
  rw[cY h];have sn:∀(fs:T0 Nat),∀s∈st++[(z,fs)],s∈st\/s.1∈l.nm:=λfs s hs=>by
   rcases dQ.mp hs with g|g
   .exact .inl g
   .rw[dg.mp g];exact .inr hz
  have sl:∀fs:T0 Nat,(st++[(z,fs)]).length=st.length+1:=λfs=>by rw[cW];rfl
  cases hf:zI l V c z with
  | nil=>refine⟨Q7 hz,by show(st++[(z,[])]).length<=_;rw[sl];omega,sn [],λns e=>?_⟩;have e:IL l V c z=.ring ns:=e;unfold IL at e;split at e<;>cases e
  | cons i r=>
   obtain⟨w,ew,Yr⟩:=BH (l:=l) (V:=V) (f:=wW l V c z) (i:=i) (by show i∈zI l V c z;rw[hf];exact dG);dsimp only;rw[ew];dsimp only[Option.elim];have stop:∀e:vO,Gn l V c e->(∀ns,e≠.ring ns)->yl l V c (n+1) st (e,st++[(z,i::r)]):=λe he Yc=>⟨he,by show(st++[(z,i::r)]).length<=_;rw[sl];omega,sn _,λns g=>absurd g (Yc ns)⟩
   have goes:∀y,Gx z w.2=.inr y->yl l V c (n+1) st (uG l V c n y (way++[z]) (st++[(z,i::r)])):=λy hy=>by
    have hr:=zH (V:=V) (c:=c) ok n y (way++[z]) (st++[(z,i::r)]) (CV ok (qW ew) hy) λx hx=>by
     rcases dQ.mp hx with g|g
     .exact hw x g
     .rw[dg.mp g];exact hz
    refine⟨hr.e,by have:=hr.len;rw[sl]at this;omega,λs hs=>?_,hr.wy⟩;rcases hr.nm s hs with g|g
    .exact sn _ s g
    .exact .inr g
   cases hv:w.2 with
   | bar x ns=>exact stop _ trivial λns g=>by cases g
   | shut x ns=>exact stop _ trivial λns g=>by cases g
   | wait x=>
    rw[hv]at Yr;have hf2:(if (!(z==x)||(c==x))=pc then lf else xV l V c z&&!(AU V z))=pc:=Yr;have hx:xU l.pn x:=by have:=ok.wo w (qW ew);rw[hv]at this;exact this
    by_cases g:(!(z==x)||(c==x))=pc
    .rw[c9 g]at hf2;cases hf2
    rw[cY g]at hf2;simp only[gT,gH,fJ,jw,dS]at g hf2;have ezx:=sK g.1;subst ezx;exact stop _ ⟨ra.mp hx,λy=>g.2 (by rw[y];exact fv _),hf2.2⟩ λns g=>by cases g
   | breaks x=>
    rw[hv]at Yr;refine stop _ ⟨x,?_,?_⟩ λns g=>by cases g
    .have Yr:IJ l V x c z=pc:=Yr;unfold IJ at Yr;by_cases g:(!(c==x)||(z==x))=pc
     .rw[c9 g]at Yr;cases Yr
     .simp only[gT,gH,fJ,jw]at g;exact(sK g.1).symm
    .exact Yr
   | always x y=>exact goes y (by rw[hv];rfl)
   | night x y f m=>exact goes y (by rw[hv];rfl)
   | busy x y=>exact goes y (by rw[hv];rfl)
   | silent x y m=>exact goes y (by rw[hv];rfl)
def GF{V:qz}{x c z:Str}(h:IJ l V x c z=pc):∃j k,vT V z=Fa j/\V.calls[j]?=Fa k/\k.st="talks"/\z∈k.ms/\k.ms.length=2/\z≠c:=by
 unfold IJ at h;by_cases g:(!(c==x)||(z==x))=pc
 .rw[c9 g]at h;cases h
 rw[cY g]at h;simp only[gT,gH,fJ,jw]at g;by_cases g2:(!(hasS l.pn z)||!(xV l V c z))=pc
 .rw[c9 g2]at h;cases h
 rw[cY g2]at h;cases e:vT V z with
 | none=>rw[e]at h;cases h
 | some j=>obtain⟨hj,ht,_⟩:=iH.mp e;rw[e]at h;have h:((V.calls[j]?).elim lf λk=>(k.ms.length==2)&&H9 l x k.ms)=pc:=h;rw[cV hj]at h;have h:((V.calls[j].ms.length==2)&&H9 l x V.calls[j].ms)=pc:=h;unfold pM.mY at ht;rw[dS]at h ht;refine⟨j,V.calls[j],Z',cV hj,sK ht.1,ra.mp ht.2,sK h.1,λy=>?_⟩;rw[y]at g;have:=sK g.1;rw[this,fv]at g;exact absurd Z' g.2
noncomputable def pM.bare(c:pM):pM:={c with way:=[]}
def ub(V V':qz):Prop:=V'.calls.map pM.bare=V.calls.map pM.bare
def ub.at_{V V':qz}(h:ub V V'){i:Nat}{c:pM}(e:V.calls[i]?=Fa c):∃c',V'.calls[i]?=Fa c'/\c'.bare=c.bare:=by
 have:=eK (·[i]?) h;simp only[dD,e]at this;cases e':V'.calls[i]? with
 | none=>rw[e']at this;cases this
 | some c'=>rw[e']at this;exact⟨c',Z',dh this⟩
def zQ(f:pM->Bool)(hf:∀c,f c.bare=f c)(cs:List pM):(cs.map pM.bare).findIdx? f=cs.findIdx? f:=by rw[gZ];congr 1;funext c;exact hf c
def ub.nM{V V':qz}(h:ub V V')(z:Str):vT V' z=vT V z:=by unfold vT;rw[<-zQ _ (λ_=>rfl) V'.calls,h,zQ _ (λ_=>rfl)]
def ub.ends{V V':qz}(h:ub V V')(i:Nat)(e:vO):tD l V' i e=tD l V i e:=by
 cases e with
 | breaks z=>
  unfold tD;dsimp only;rw[h.nM];have key:∀j:Nat,(V'.calls[j]?).map pM.bare=(V.calls[j]?).map pM.bare:=λj=>by
   have:=eK (·[j]?) h
   simpa only [dD]using this
  have ki:=key i;cases vT V z with
  | none=>rfl
  | some j=>
   have kj:=key j;cases e1:V.calls[i]? with
   | none=>rw[e1]at ki;rw[show V'.calls[i]?=Db by cases q:V'.calls[i]? with|none=>rfl|some _=>rw[q]at ki;cases ki]
   | some c=>
    rw[e1]at ki;cases e2:V'.calls[i]? with
    | none=>rw[e2]at ki;cases ki
    | some c'=>
     rw[e2]at ki;have k1:c'.cr=c.cr:=by have kb:c'.bare=c.bare:=dh ki;exact show c'.bare.cr=c.bare.cr by rw[kb]
     have k2:(V'.calls[j]?).elim [] pM.ms=(V.calls[j]?).elim [] pM.ms:=by
      cases e3:V.calls[j]? with
      | none=>rw[e3]at kj;rw[show V'.calls[j]?=Db by cases q:V'.calls[j]? with|none=>rfl|some _=>rw[q]at kj;cases kj]
      | some d=>
       rw[e3]at kj;cases e4:V'.calls[j]? with
       | none=>rw[e4]at kj;cases kj
       | some d'=>rw[e4]at kj;exact show d'.bare.ms=d.bare.ms by rw[show d'.bare=d.bare from dh kj]
     dsimp only;rw[k1,k2]
 | _=>rfl
def ub.trans{V V1 V2:qz}(h:ub V V1)(g:ub V1 V2):ub V V2:=Eq.trans g h
def zF(V:qz)(v:sC):ub V (qo V (.leg v)):=by
 show(V.calls.modify v.i (·.go v.g)).map pM.bare=V.calls.map pM.bare;cases e:V.calls[v.i]? with
 | none=>rw[kN (by simpa using e)]
 | some c=>rw[tV e,mE,show(c.go v.g).bare=c.bare from rfl,G0 (by rw[dD,e];rfl)]
def El(V:qz)(i:Nat)(z:Str)(ns:T0 Nat):ub V (qo V (.asks i z ns)):=rfl
def ub.len{V V':qz}(h:ub V V'):V'.calls.length=V.calls.length:=by
 have:=eK List.length h
 rwa [cT,cT]at this
noncomputable def GX:Option Str->tq->Option Str
 | o,[]=>o
 | _,(z,_)::r=>GX (Fa z) r
noncomputable def U7(i:Nat)(z:Str)(fs:T0 Nat):Option Str->T0 Ev
 | none=>[.asks i z fs]
 | some y=>[.leg ⟨i,y,z,y⟩,.asks i z fs]
theorem yO(i:Nat)(z:Str)(fs:T0 Nat):∀(st:tq) (o:Option Str),rK i o (st++[(z,fs)])=rK i o st++U7 i z fs (GX o st)
 | [],none=>rfl
 | [],Fa _=>rfl
 | (y,gs)::r,none=>by show .asks i y gs::rK i (Fa y) (r++[(z,fs)])=_;rw[yO i z fs r];rfl
 | (y,gs)::r,Fa u=>by show .leg ⟨i,u,y,u⟩::.asks i y gs::rK i (Fa y) (r++[(z,fs)])=_;rw[yO i z fs r];rfl
theorem BJ(z:Str)(fs:T0 Nat):∀(st:tq) (o:Option Str),GX o (st++[(z,fs)])=Fa z
 | [],_=>rfl
 | _::r,_=>BJ z fs r _
theorem vK(i:Nat):∀(st:tq) (o:Option Str) (V:qz),ub V (qP V (rK i o st))
 | [],_,V=>rfl
 | (y,gs)::r,Db,V=>(El V i y gs).trans (vK i r (Fa y) _)
 | (y,gs)::r,Fa u,V=>((zF V ⟨i,u,y,u⟩).trans (El _ i y gs)).trans (vK i r (Fa y) _)
def QB(a:Ad):rH:=λds M Q=>NV λM0 b A V l c n i st r=>ds=[.ref b,.int ((i:Nat):Int),.ref r]/\uB a M0 M b A V l c n/\c<=1000000/\n<=8000000/\st.length<=100/\i<V.calls.length/\pA M r=Fa (rJ st)/\r∉A.foot/\∀M' A',uB a M0 M' b A' (qP V (rK i Db st)) l c (n+2*st.length)->rb A M A' M'->Q .mS M'
def NO(a:Ad):rH:=λds M Q=>NV λM0 b A V l c n i z ps=>ds=[.ref b,.int ((i:Nat):Int),.str z,names ps]/\uB a M0 M b A V l c n/\c<=1000000/\n<=8000000/\i<V.calls.length/\z∈l.nm/\ps≠[]/\(∀x∈ps,x∈l.mL z)/\ps.length<=100/\∀M' A',uB a M0 M' b A' (qP V (tD l V i (.rings z ps))) l c (n+2)->rb A M A' M'->Q .mS M'
def Gr(l:pR)(V:qz)(i:Nat):vO->Prop
 | .rings z ps=>z∈l.nm/\ps≠[]/\(∀x∈ps,x∈l.mL z)/\ps.length<=100
 | .breaks z=>∃j k,vT V z=Fa j/\V.calls[j]?=Fa k/\i≠j/\k.ms.length=2
 | _=>True
def LZ(a:Ad):rH:=λds M Q=>Us λM0 b A V l c n i z=>ds=[.ref b,.int ((i:Nat):Int),.str z]/\uB a M0 M b A V l c n/\c<=1000000/\n<=8000000/\i<V.calls.length/\Gr l V i (.breaks z)/\∀M' A',uB a M0 M' b A' (qP V (tD l V i (.breaks z))) l c (n+2)->rb A M A' M'->Q .mS M'
def JL(a:Ad):rH:=λds M Q=>Us λM0 b A V l c n i e=>ds=[.ref b,.int ((i:Nat):Int),vO.d e]/\uB a M0 M b A V l c n/\c<=1000000/\n<=8000000/\i<V.calls.length/\Gr l V i e/\∀M' A',uB a M0 M' b A' (qP V (tD l V i e)) l c (n+2)->rb A M A' M'->Q .mS M'
def QZ(a:Ad):rH:=λds M Q=>Us λM0 b A V l c n i k=>ds=[.ref b,.int ((i:Nat):Int)]/\uB a M0 M b A V l c n/\c<=1000000/\n<=7000000/\Ae l V (Fa i)/\V.calls[i]?=Fa k/\∀M' A',uB a M0 M' b A' (qP V (uz l V i)) l c (n+30)->rb A M A' M'->Q .mS M'
def LW(a:Ad):rH:=λds M Q=>Us λM0 b A V l c n y z=>ds=[.ref b,.str y,.str z]/\uB a M0 M b A V l c n/\c<1000000/\n<=6000000/\Ae l (qP V [.new V.calls.length y,.leg ⟨V.calls.length,y,z,y⟩]) (Fa V.calls.length)/\∀M' A',uB a M0 M' b A' (qP V (FO l V y z)) l (c+1) (n+32)->rb A M A' M'->Q .mS M'
def Nb{st:tq}{pre post:T0 D}{d:D}(e:pre++d::post=rJ st):∃z fs,st[pre.length]?=Fa (z,fs)/\d=.tup [.str z,wA fs]/\st.take (pre.length+1)=st.take pre.length++[(z,fs)]:=by
 have h:(rJ st)[pre.length]?=Fa d:=by rw[<-e];simp
 unfold rJ at h;rw[dD]at h;cases q:st[pre.length]? with
 | none=>rw[q]at h;cases h
 | some s=>rw[q]at h;refine⟨s.1,s.2,Z',(dh h).symm,?_⟩;rw[gG,q];rfl
noncomputable def Wr:Option Str->D
 | none=>.mS
 | some x=>.str x
def Rb{ss:QQQ}{x:Str}(h:ss.getLast?=Fa x):wQ (ss.map D.str) (-1)=Fa (.str x):=by
 have hp:0<ss.length:=by cases ss with|nil=>cases h|cons _ _=>exact mF _
 unfold wQ;have e:Hj (ss.map D.str).length (-1)=Fa (ss.length - 1):=by
  rw[cT];unfold Hj;have:¬((-1:Int)>=0):=by decide
  simp;omega
 rw[e];show(ss.map D.str)[ss.length - 1]?=_;rw[dD,<-jB,h];rfl
def NY(ds:T0 D):L3.ug ds Db (Fa (-1:Int))=ds.dropLast:=by
 unfold L3.ug;have e:HT.tO ds.length ds.length (Fa (-1:Int))=ds.length - 1:=by show(if (-1:Int)<0 then((-1:Int)+(ds.length:Int)).toNat else min (-1:Int).toNat ds.length)=ds.length - 1;rw[c9 (by decide)];omega
 rw[e,HT.CM,ji,kZ,List.dropLast_eq_take]
def Px:Fq P w K mg base 4 a.a0 (QB a):=by
 refine fq G.a0.toDG uj (λr u=>⟨_,(pH (pX 3 uj sD)
 (pJ (vM fD Z' (qQ U2) (vv (n:=2) Z' (qK (sd 4 uj) (qK (sd 5 uj) ul)))
 (pH (qc (pS u U3 sD)
 (pJ (pZ (ql v0 G.c.toCls G.k (rA G) r (qA (pY (qp pL (qp U1 (rF U3 v4 U3))))))))
 pU)
 (pH (pZ (ql v0 G.c.toCls G.k (rA G) r (qA (pY (qp pL (rF U1 v4 v5))))))
 (pJ (pX 3 uj v4))))))),?_⟩)
 rintro ds M Q ⟨M0,b,A,V,l,c,n,i,st,r,rfl,cu,hc,hn,Yf,hi,lr,nf,q⟩
 refine pG lr (yb (rJ st) (λpre U M'=>(∃A',uB a M0 M' b A' (qP V (rK i Db (st.take pre.length))) l c (n+2*pre.length)/\rb A M A' M')/\∃y4 y5,U=[Fa (.ref b),Fa (.int ((i:Nat):Int)),Fa (.ref r),Fa (Wr (GX Db (st.take pre.length))),y4,y5]) (λpre U M' j=>?_) _ [] _ _ Z' ⟨⟨A,cu,.refl⟩,Db,Db,Z'⟩ ?_ ?_)
 .obtain⟨⟨A',c1,Yv⟩,_⟩:=j;exact se (Yv.1 r _ nf (qk lr))
 .rintro pre d post e U M' ⟨⟨A',c1,Yv⟩,y4,y5,rfl⟩ nx X7
  obtain⟨z,fs,es,rfl,et⟩:=Nb e;have hp:pre.length<100:=dN (cX.mp es).1 Yf;rw[cW,dP,et,yO,BJ]at X7;have len:∀es,ub V (qP V es)->i<(qP V es).calls.length:=λes h=>by rw[h.len];exact hi
  have Zq:=len _ (vK i (st.take pre.length) Db V);generalize hV:qP V (rK i Db (st.take pre.length))=V1 at c1 Zq;rw[rT,hV]at X7;refine⟨Z',?_⟩;dsimp only[tE,xO,B'];have asks:∀(M2:Mp) (A2:tI) (V2:qz) (m:Nat) (y3:Option D),m<9000000->uB a M0 M2 b A2 V2 l c m->rb A M A2 M2->(∀M3 A3,uB a M0 M3 b A3 (qo V2 (.asks i z fs)) l c (m+1)->rb A M A3 M3->nx [Fa (.ref b),Fa (.int ((i:Nat):Int)),Fa (.ref r),Fa (.str z),Fa (.str z),Fa (wA fs)] M3)->Ag (M2 b) λC fs'=>fs'.lookup ("apply":Str)=Db/\∃sp,(C=a.c/\sp=wn a)/\4<=Ch/\sp [.ref b,.tup [.str "asks",.int ((i:Nat):Int),.str z,wA fs]] M2 λ_ M3=>nx [Fa (.ref b),Fa (.int ((i:Nat):Int)),Fa (.ref r),Fa (.str z),Fa (.str z),Fa (wA fs)] M3:=λM2 A2 V2 m y3 hm c2 s2 k=>pI c2.at_ ⟨Z',_,⟨Z',Z'⟩,by rw[dI];decide,b,A2,V2,.asks i z fs,Z',c2.b,c2.bd,c2.lim hc hm,trivial,λM3 A3 eb s3 bd=>k M3 A3 (c2.after trivial eb s3 bd) (s2.trans s3)⟩;cases hl:GX Db (st.take pre.length)with
  | none=>rw[hl]at X7;refine asks M' A' V1 _ Db (by omega) c1 Yv λM3 A3 c3 s3=>X7 _ _ ⟨⟨A3,c3.mono (dq _) (by omega),s3⟩,_,_,Z'⟩
  | some y=>rw[hl]at X7;refine pI c1.at_ ⟨Z',_,⟨Z',Z'⟩,pE Z',b,A',V1,.leg ⟨i,y,z,y⟩,Z',c1.b,c1.bd,c1.lim hc (by omega),Zq,λM2 A2 eb s2 bd=>?_⟩;have c2:=c1.after (e:=.leg ⟨i,y,z,y⟩) Zq eb s2 bd;refine asks M2 A2 _ _ Db (by omega) c2 (Yv.trans s2) λM3 A3 c3 s3=>X7 _ _ ⟨⟨A3,c3.mono (dq _) (by omega),s3⟩,_,_,Z'⟩
 .rintro U M' ⟨⟨A',c1,Yv⟩,_⟩
  have hl:(rJ st).length=st.length:=by unfold rJ;rw[cT]
  rw[hl,fF]at c1;exact⟨M',.refl,q M' A' c1 Yv⟩
def NI:Fq P w K mg base 4 a.a1 (NO a):=by
 refine fq G.a1.toDG uS (λr u=>⟨_,(pH (qc (pS u (ql (pN v0) G.h.toCls G.aK (xF G) r (qA U2)) pL)
 (pH (pX 4 uS (ql (pN v0) G.h.toCls G.Y (uF G) r (qA U2)))
 (pH (pX 5 uS (qm (qm (xN v4 (qA (pW U3 pK))) pK) (qe qM Z' G.g qL (qA v4))))
 (pJ (pZ (ql v0 G.c.toCls G.k (rA G) r (qA (pY (rF pL U2 v5))))))))
 pU)
 (pJ (pZ (ql v0 G.c.toCls G.k (rA G) r (qA (pY (rF pL U1 U3))))))),?_⟩)
 rintro ds M Q ⟨M0,b,A,V,l,c,n,i,z,ps,rfl,cu,hc,hn,hi,hz,Yc,hm,hps,q⟩
 obtain⟨ph,gr,ws,Ze,pr,gd,rs,i1,_⟩:=cu.pl;have pl:=cu.pl;obtain⟨x,ps',rfl⟩:=gb Yc;obtain⟨⟨pne,_⟩,_⟩:=cu.ok.of hz;refine SN (t:=KY _ _ _) (λU M'=>(∃A',uB a M0 M' b A' (qP V (if (l.mV z=="turns")=pc then[.next z (Qi (l.mL z) x)]else[])) l c (n+1)/\rb A M A' M')/\∃y1 y2,U=[Fa (.ref b),Fa (.int ((i:Nat):Int)),Fa (.str z),Fa (names (x::ps')),y1,y2]) (λnx h=>?_) ?_
 .refine pI cu.at_ (pG Z' (pI i1 ⟨Z',_,⟨Z',Z'⟩,V.p,z,l,Z',pl,?_⟩));refine qS (c:=l.mV z=="turns") (λg=>?_) (λg=>?_)
  .rw[c9 g]at h;refine pI cu.at_ (pG Z' (pI i1 ⟨Z',_,⟨Z',Z'⟩,V.p,z,l,Z',pl,λp hp=>?_⟩));have t:=qF.new (c:=.lst ((l.mL z).map D.str)) hp;have lp:=@pQ M p ((l.mL z).map D.str);have cu':=cu.sub t;have st0:rb A M A (pP M p (.lst ((l.mL z).map D.str))):=.sub t;generalize pP M p (.lst ((l.mL z).map D.str))=M1 at t lp cu' st0 ⊢;have ej:=Ey x (l.mL z) (hm x dG);have lpos:0<(l.mL z).length:=fA.mpr pne;have el:(((l.mL z).map D.str).length:Int)=(l.mL z).length:=by rw[cT]
   refine⟨by show(pA M1 p).isSome=pc;rw[lp];rfl,pG (xS _ _) (pG lp ⟨Z',qH _,pG ej (pG lp ⟨by rw[el];omega,?_⟩)⟩)⟩;rw[el];refine pI cu'.at_ ⟨Z',_,⟨Z',Z'⟩,pE Z',b,A,V,.next z (Qi (l.mL z) x),Z',cu'.b,cu'.bd,cu'.lim hc (by omega),trivial,λM2 A2 eb st Zk=>?_⟩;exact h _ _ ⟨⟨A2,cu'.after (e:=.next z (Qi (l.mL z) x)) trivial eb st Zk,st0.trans st⟩,_,_,Z'⟩
  .rw[cY g]at h;exact h _ _ ⟨⟨A,cu.mono (dq _) (by omega),.refl⟩,_,_,Z'⟩
 rintro U M1 ⟨⟨A1,c1,Yv⟩,y1,y2,rfl⟩
 have q:∀M' A',uB a M0 M' b A' (qP V ((if (l.mV z=="turns")=pc then[.next z (Qi (l.mL z) x)]else[])++[.rings i (x::ps')])) l c (n+2)->rb A M A' M'->Q .mS M':=q;rw[rT]at q;have Zq:i<(qP V (if (l.mV z=="turns")=pc then[.next z (Qi (l.mL z) x)]else[])).calls.length:=by
  split
  .exact hi
  .exact hi
 generalize qP V (if (l.mV z=="turns")=pc then[.next z (Qi (l.mL z) x)]else[])=V1 at c1 q Zq;refine pI c1.at_ ⟨Z',_,⟨Z',Z'⟩,pE Z',b,A1,V1,.rings i (x::ps'),Z',c1.b,c1.bd,c1.lim hc (by omega),⟨Zq,hps⟩,λM2 A2 eb X6 Zk=>?_⟩;exact⟨M2,.refl,q M2 A2 (c1.after (e:=.rings i (x::ps')) ⟨Zq,hps⟩ eb X6 Zk) (Yv.trans X6)⟩
def L6:Fq P w K mg base 4 a.a2 (LZ a):=by
 refine fq G.a2.toDG yi (λr u=>⟨_,(pH (pX 3 yi (ql v0 G.c.toCls G.S (yY G) r (qA U2)))
 (pH (pX 4 yi (qm (qx sL Z' G.y sP (qA (pN (pW (pN v0) U3)))) (pY (qA (pN (pW (pN v0) U1))))))
 (pJ (pZ (ql v0 G.c.toCls G.k (rA G) r (qA (pY (qp pL (rF U1 U3 v4))))))))),?_⟩)
 rintro ds M Q ⟨M0,b,A,V,l,c,n,i,z,rfl,cu,hc,hn,hi,⟨j,k,ej,ek,YN,ZX⟩,q⟩
 have hz:=dI;have ei:V.calls[i]?=Fa V.calls[i]:=cV hi;generalize V.calls[i]=ci at ei;obtain⟨ka,qi⟩:=cu.call ei;obtain⟨kb,qj⟩:=cu.call ek;obtain⟨ad,md,h1,h2,h3,h4,_⟩:=qi.cell;obtain⟨ad',md',g1,g2,g3,g4,_⟩:=qj.cell;have hee:tD l V i (.breaks z)=[.merge i j (k.ms++[ci.cr])]:=by unfold tD;dsimp only;rw[ej,ei];dsimp only;rw[ek];rfl
 rw[hee]at q;have ok:(Ev.merge i j (k.ms++[ci.cr])).ok V:=⟨hi,(cX.mp ek).1,YN,by rw[cW,ZX];show 3<=100;decide⟩;refine pI cu.at_ ⟨Z',_,⟨Z',Z'⟩,A,V,z,by rw[cu.b],cu.bd,dY cu.sz.ca hc,?_⟩;rw[show AY V z=.int (j:Nat)from by unfold AY;rw[ej];rfl];refine pI cu.at_ (pG Z' (pG Z' (pG cu.bd.ca (pG (rG qj.e1) (pI g1 (pG Z' (pG g4 ?_)))))));refine pI cu.at_ (pG Z' (pG Z' (pG cu.bd.ca (pG (rG qi.e1) (pI h1 (pG Z' ⟨pE Z',?_⟩))))));refine⟨(by intro y;rw[List.map_eq_nil_iff]at y;rw[y]at ZX;cases ZX),(by rw[cT,ZX];show 2+1<=Ch;omega),?_⟩;rw[show k.ms.map D.str++[D.str ci.cr]=(k.ms++[ci.cr]).map D.str by rw[dM];rfl];refine pI cu.at_ ⟨Z',_,⟨Z',Z'⟩,pE Z',b,A,V,.merge i j (k.ms++[ci.cr]),Z',cu.b,cu.bd,cu.lim hc (by omega),ok,λM2 A2 eb X6 Zk=>?_⟩;exact⟨M2,.refl,q M2 A2 ((cu.after ok eb X6 Zk).mono (dq _) (by omega)) X6⟩
def Q8:Fq P w K mg base 5 a.a3 (JL a):=by
 refine fq G.a3.toDG xY (λr u=>⟨_,(pH (pX 3 xY (pW U2 pK))
 (pJ (qc (pS u U3 pL)
 (pJ (pZ (pT (NI G) r G.a1 (qp v0 (rF U1 (pW U2 pK) (pW U2 pK))))))
 (pJ (qc (pS u U3 pL)
 (pJ (pZ (ql v0 G.c.toCls G.k (rA G) r (qA (pY (rF pL U1 (pW U2 pK)))))))
 (pJ (qc (pS u U3 pL)
 (pJ (pZ (pT (L6 G) r G.a2 (rF v0 U1 (pW U2 pK)))))
 (pJ (pZ (ql v0 G.c.toCls G.k (rA G) r (qA (pY (rF pL U1 U3))))))))))))),?_⟩)
 rintro ds M Q ⟨M0,b,A,V,l,c,n,i,e,rfl,cu,hc,hn,hi,he,q⟩
 have one:∀(ev:Ev) (ok:ev.ok V),ev.nw=0->tD l V i e=[ev]->∀M2 A2,A2.b=A.b->rb A M A2 M2->pV a M2 A2 (qo V ev)->∃XX,qF XX M2/\Q .mS XX:=λev ok h0 h1 M2 A2 eb X6 Zk=>by rw[h1]at q;have c2:=cu.after ok eb X6 Zk;rw[h0]at c2;exact⟨M2,.refl,q M2 A2 (c2.mono (dq _) (by omega)) X6⟩
 cases e with
 | rings z ps=>exact⟨M0,b,A,V,l,c,n,i,z,ps,Z',cu,hc,hn,hi,he.1,he.2.1,he.2.2.1,he.2.2.2,λM' A' c1 st=>⟨M',.refl,q M' A' c1 st⟩⟩
 | waits z=>exact pI cu.at_ ⟨Z',_,⟨Z',Z'⟩,pE Z',b,A,V,.waits i z,Z',cu.b,cu.bd,cu.lim hc (by omega),hi,one (.waits i z) hi Z' Z'⟩
 | breaks z=>exact⟨M0,b,A,V,l,c,n,i,z,Z',cu,hc,hn,hi,he,λM' A' c1 st=>⟨M',.refl,q M' A' c1 st⟩⟩
 | engaged z=>exact pI cu.at_ ⟨Z',_,⟨Z',Z'⟩,pE Z',b,A,V,.over i "engaged",Z',cu.b,cu.bd,cu.lim hc (by omega),hi,one (.over i "engaged") hi Z' Z'⟩
 | barred=>exact pI cu.at_ ⟨Z',_,⟨Z',Z'⟩,pE Z',b,A,V,.over i "barred",Z',cu.b,cu.bd,cu.lim hc (by omega),hi,one (.over i "barred") hi Z' Z'⟩
 | ring ns=>exact pI cu.at_ ⟨Z',_,⟨Z',Z'⟩,pE Z',b,A,V,.over i "ring",Z',cu.b,cu.bd,cu.lim hc (by omega),hi,one (.over i "ring") hi Z' Z'⟩
def LL{V:qz}{i:Nat}{k:pM}{e:vO}(ok:rP l)(wf:Ae l V (Fa i))(hk:V.calls[i]?=Fa k)(h:Gn l V k.cr e):Gr l V i e:=by
 cases e with
 | rings z ps=>obtain⟨hz,Yc,rfl⟩:=h;have h1:=(Hn (l:=l) (V:=V) (c:=k.cr) (z:=z));have h2:=(ok.of hz).1.2.1;exact⟨hz,Yc,λx hx=>(h1.1 x hx).2,by have:=h1.2;omega⟩
 | breaks z=>
  obtain⟨x,rfl,hb⟩:=h;obtain⟨j,d,e1,e2,e3,e4,e5,_⟩:=GF hb;refine⟨j,d,e1,e2,λy=>?_,e5⟩;subst y;rw[hk]at e2;cases e2;have sh:=(wf.ok i k hk).sh;rw[show(Fa i==Fa i)=pc from fv _]at sh;rcases sh with g|g
  .rw[g.1]at e3;exact absurd e3 (by decide)
  .cases g.1
 | _=>trivial
def Jh:Fq P w K mg base 9 a.ac (QZ a):=by
 refine fq G.ac.toDG wK (λr u=>⟨_,(pH (pX 2 wK (pW (pN v0) U1))
 (pH (pX 3 wK (pT (MA G) r G.aU (qp v0 (rF (pN U2) (pW (pN U2) (FE pK)) (rQ (pN U2) sV (sv (FE pK)))))))
 (pH (pX 4 wK (pW U3 pK))
 (pH (pX 5 wK (pW U3 pK))
 (pH (pZ (pT (Px G) r G.a0 (rF v0 U1 v5)))
 (pH (qc (W3.b3 (yS (pS u (pW v4 pK) pL) (yC (pS u (qe qM Z' G.g qL (qA v5)) pK))))
 (pH (pX 6 wK (pW (pW v5 (FE pK)) pK))
 (pJ (pZ (ql v0 G.c.toCls G.k (rA G) r (qA (pY (qp pL (qp U1 (rF v6 (pW (pW v4 pK) pK) v6)))))))))
 pU)
 (pJ (pZ (pT (Q8 G) r G.a3 (rF v0 U1 v4)))))))))),?_⟩)
 rintro ds M Q ⟨M0,b,A,V,l,c,n,i,k,rfl,cu,hc,hn,wf,hk,q⟩
 obtain⟨ka,ci⟩:=cu.call hk;obtain⟨ad,md,h1,h2,h3,h4,n1,n2⟩:=ci.cell;have YU:=wf.ok i k hk;have hi:=(cX.mp hk).1;obtain⟨z,hz⟩:∃z,k.way.getLast?=Fa z:=by
  cases e:k.way.getLast? with
  | none=>exact absurd (gK.mp e) YU.wy.1
  | some z=>exact⟨z,Z'⟩
 have YT:z∈l.nm:=YU.wy.2 z (iY hz);have hdn:∀x∈k.way.dropLast,x∈l.nm:=λx hx=>YU.wy.2 x (iZ _ hx);have hwl:=(cu.sz.cs k (qW hk)).1;have hev:uz l V i=rK i Db (ua l V k.cr z k.way.dropLast).2++(uq i (ua l V k.cr z k.way.dropLast).2 (ua l V k.cr z k.way.dropLast).1++tD l V i (ua l V k.cr z k.way.dropLast).1):=by
  unfold uz;rw[hk];have:k.way.getLastD Str.empty=z:=by rw[ij,hz];rfl
  dsimp only[Option.elim];rw[this]
 rw[hev]at q;have ro:yl l V k.cr (l.nm.length+1) [] (ua l V k.cr z k.way.dropLast):=zH cu.ok _ _ _ _ YT hdn;have rl:=ro.len;have eo:=LL cu.ok wf hk ro.e;have nl:l.nm.length<=11:=by have p8:=cu.ok.p8;have g3:=cu.ok.g3;unfold pR.nm pR.pn pR.gn;rw[cW,cT,cT];omega
 have re:=ro.e;refine SN (t:=GS _ _) (λU M'=>M=M'/\U=[Fa (.ref b),Fa (.int ((i:Nat):Int)),Fa (.ref ka.p),Db,Db,Db,Db]) (λnx0 h=>pI cu.at_ (pG Z' (pG Z' (pG ci.bd.ca (pG (rG ci.e1) (h _ _ ⟨Z',Z'⟩)))))) ?_
 rintro U _ ⟨rfl,rfl⟩
 refine SN (t:=GS _ _) (λU M'=>qF M M'/\∃r,M r=Db/\pA M' r=Fa (rJ (ua l V k.cr z k.way.dropLast).2)/\U=[Fa (.ref b),Fa (.int ((i:Nat):Int)),Fa (.ref ka.p),Fa (.tup [(ua l V k.cr z k.way.dropLast).1.d,.ref r]),Db,Db,Db]) (λnx0 h=>?_) ?_
 .refine pI h1 (pG Z' (pI h1 (pG Z' (pG h2 (pG (Rb hz) (pI h1 (pG Z' (pG h2 λp hp=>?_))))))));rw[show L3.ug (k.way.map D.str) Db (Fa (-1:Int))=k.way.dropLast.map D.str from(NY _).trans (List.map_dropLast).symm];have t:=qF.new (c:=.lst (k.way.dropLast.map D.str)) hp;have lp:=@pQ M p (k.way.dropLast.map D.str);refine⟨A,V,l,k.cr,z,p,k.way.dropLast,by rw[cu.b],(cu.rd hc wf).sub t,YT,wf.nx,lp,by rw[List.length_dropLast];omega,λr M' s hr lr=>?_⟩;exact h _ _ ⟨t.trans s,r,t.none hr,lr,Z'⟩
 rintro U M1 ⟨s1,r,hr,lr,rfl⟩
 generalize ua l V k.cr z k.way.dropLast=R at lr ro rl eo re q;obtain⟨e,st⟩:=R;have cu1:=cu.sub s1;have rl:st.length<=0+(l.nm.length+1):=rl;refine⟨M0,b,A,V,l,c,n,i,st,r,Z',cu1,hc,by omega,by omega,hi,lr,cu.bd.nI hr,λM2 A2 c2 X6=>?_⟩;have same:=vK i st Db V;have YK:i<(qP V (rK i Db st)).calls.length:=by rw[same.len];exact hi
 have Zs:pA M2 r=Fa (rJ st):=se (X6.1 r _ (cu.bd.nI hr) (qk lr));rw[rT,rT]at q;have hee:=λV' (h:ub V V')=>h.ends (l:=l) i e;have hat:∀V',ub V V'->Gr l V' i e:=λV' h=>by
  cases e with
  | breaks z'=>obtain⟨j,d,a1,a2,a3,a4⟩:=eo;obtain⟨d',b1,b2⟩:=h.at_ a2;exact⟨j,d',by rw[h.nM];exact a1,b1,a3,by rw[show d'.ms=d.ms from show d'.bare.ms=d.bare.ms by rw[b2]];exact a4⟩
  | rings _ _=>exact eo
  | _=>trivial
 generalize qP V (rK i Db st)=V2 at c2 YK same q;have YV:∀(M3:Mp) (A3:tI) (V3:qz),uB a M0 M3 b A3 V3 l c (n+2*st.length+1)->rb A M A3 M3->ub V V3->i<V3.calls.length->V3=qP V2 (uq i st e)->JL a [.ref b,.int ((i:Nat):Int),e.d] M3 λ_ M'=>∃XX,qF XX M'/\Q .mS XX:=λM3 A3 V3 c3 s3 YW hi3 e3=>⟨M0,b,A3,V3,l,c,_,i,e,Z',c3,hc,by omega,hi3,hat V3 YW,λM4 A4 c4 s4=>⟨M4,.refl,q M4 A4 (by
  rw[<-e3];rw[hee V3 YW]at c4;exact c4.mono (dq _) (by omega)) (s3.trans s4)⟩⟩
 have c2':=c2.mono (dq c) (show n+2*st.length<=n+2*st.length+1 by omega);have Y8:=(rb.sub s1 (A:=A)).trans X6;cases e with
 | ring ns=>
  obtain⟨x,ZO,rfl⟩:=gb (show ns≠[]from re);refine pG Zs ?_;cases hl:st.getLast? with
  | none=>have:st=[]:=gK.mp hl;subst this;exact YV M2 A2 V2 c2' Y8 same YK Z'
  | some s0=>
   have Zj:0<st.length:=by cases st with|nil=>cases hl|cons _ _=>exact mF _
   have hd:decide ((0:Int)<((rJ st).length:Int))=pc:=dW (by unfold rJ;rw[cT];omega);refine Bj (c:=decide ((0:Int)<((rJ st).length:Int))) hd ?_;have hat1:wQ (rJ st) (-1)=Fa (.tup [.str s0.1,wA s0.2]):=by
    unfold wQ;have e1:Hj (rJ st).length (-1)=Fa (st.length - 1):=by unfold rJ;rw[cT];unfold Hj;simp;omega
    rw[e1];show(rJ st)[st.length - 1]?=_;unfold rJ;rw[dD,<-jB,hl];rfl
   have hrv:uq i st (.ring (x::ZO))=[.leg ⟨i,s0.1,x,s0.1⟩]:=by unfold uq;dsimp only;rw[hl];rfl
   rw[hrv]at YV;refine pG Zs (pG hat1 ?_);refine pI c2.at_ ⟨Z',_,⟨Z',Z'⟩,pG (xS _ _) ⟨pE Z',b,A2,V2,.leg ⟨i,s0.1,x,s0.1⟩,Z',c2.b,c2.bd,c2.lim hc (by omega),YK,λM3 A3 eb YC bd3=>?_⟩⟩;have YW:=same.trans (zF V2 ⟨i,s0.1,x,s0.1⟩);exact YV M3 A3 _ (c2.after (e:=.leg ⟨i,s0.1,x,s0.1⟩) YK eb YC bd3) (Y8.trans YC) YW (by rw[YW.len];exact hi) Z'
 | rings z' ps=>exact YV M2 A2 V2 c2' Y8 same YK Z'
 | waits z'=>exact YV M2 A2 V2 c2' Y8 same YK Z'
 | breaks z'=>exact YV M2 A2 V2 c2' Y8 same YK Z'
 | engaged z'=>exact YV M2 A2 V2 c2' Y8 same YK Z'
 | barred=>exact YV M2 A2 V2 c2' Y8 same YK Z'
def NR:Fq P w K mg base 10 a.a4 (LW a):=by
 refine fq G.a4.toDG zK (λr u=>⟨_,(pH (pX 3 zK (qe qM Z' G.g qL (qA (pN v0))))
 (pH (pZ (ql v0 G.c.toCls G.k (rA G) r (qA (pY (rF pL U3 U1)))))
 (pH (pZ (ql v0 G.c.toCls G.k (rA G) r (qA (pY (qp pL (qp U3 (rF U1 U2 U1)))))))
 (pJ (pZ (pT (Jh G) r G.ac (sE v0 U3))))))),?_⟩)
 rintro ds M Q ⟨M0,b,A,V,l,c,n,y,z,rfl,cu,hc,hn,wf,q⟩
 have lc:((A.cs.map λk=>D.ref k.p).length:Int)=(V.calls.length:Nat):=by rw[cT,cu.bd.len]
 refine pI cu.at_ (pG Z' (pG cu.bd.ca ?_));rw[lc];refine pI cu.at_ ⟨Z',_,⟨Z',Z'⟩,pE Z',b,A,V,.new V.calls.length y,Z',cu.b,cu.bd,cu.lim (by omega) (by omega),trivial,λM1 A1 eb1 Yv bd1=>?_⟩;have c1:=cu.after (e:=.new V.calls.length y) trivial eb1 Yv bd1;have ok2:(Ev.leg ⟨V.calls.length,y,z,y⟩).ok (qo V (.new V.calls.length y)):=by show V.calls.length<(V.calls++[zp y]).length;rw[cW];exact fE _
 refine pI c1.at_ ⟨Z',_,⟨Z',Z'⟩,pE Z',b,A1,_,.leg ⟨V.calls.length,y,z,y⟩,Z',c1.b,c1.bd,c1.lim (by show c+1<=_;omega) (by omega),ok2,λM2 A2 eb2 X6 Zk=>?_⟩;have c2:=c1.after ok2 eb2 X6 Zk;obtain⟨k,hk⟩:∃k,(qP V [.new V.calls.length y,.leg ⟨V.calls.length,y,z,y⟩]).calls[V.calls.length]?=Fa k:=by
  have:V.calls.length<(qP V [.new V.calls.length y,.leg ⟨V.calls.length,y,z,y⟩]).calls.length:=by show V.calls.length<((V.calls++[zp y]).modify _ _).length;rw[gh];exact ok2
  exact⟨_,cV this⟩
 refine⟨M0,b,A2,_,l,c+1,n+2,V.calls.length,k,Z',c2,by omega,by omega,wf,hk,λM3 A3 c3 YC=>⟨M3,.refl,q M3 A3 ?_ (Yv.trans (X6.trans YC))⟩⟩;unfold FO;rw[rT];exact c3.mono (dq _) (by omega)
def FY(V:qz)(x:Str):D:=Dd (uQ V x)
abbrev Eh:=Kk FY
def Lo(a:Ad):rH:=λds M Q=>HA λA V l x z=>ds=[.ref A.b,.str x,.str z]/\Rd a M A V l/\x∈l.pn/\Q (Dd (Ho l V x z)) M
inductive vU(a:Ad)(M:Mp)(L:QXQ):List rN->List pM->Prop
 | nil:vU a M L [] []
 | cons (k:rN) (c:pM) (ks:List rN) (cs:List pM) (h:sf a M L k c) (r:vU a M L ks cs):vU a M L (k::ks) (c::cs)
def tZ.nf(w:Str)(m:Nat):Prop:=((w="answer"\/w="hang"\/w="hold"\/w="back")/\m=1)\/((w="hand"\/w="join")/\m=2)
def Oa(a:Ad):rH:=λds M Q=>Kt λwd x r L ks cs=>ds=[.str wd,.str x,.ref r]/\pA M r=Fa (List.map (λk:rN=>D.ref k.p) ks)/\vU a M L ks cs/\tZ.nf wd cs.length/\Q (.bl (Jz wd x cs)) M
def JR(a:Ad):rH:=λds M Q=>Kt λA V l wd x ns=>ds=[.ref A.b,.str wd,.str x,.tup (List.map D.int ns)]/\Rd a M A V l/\x∈l.pn/\tZ.nf wd ns.length/\Q (Dd (Ly l V wd x ns)) M
def Ss(a:Ad):rH:=λds M Q=>Cg λA V b i=>ds=[.ref A.b,.str (VH b),.int i]/\pV a M A V/\Q (Dd (OT V b i)) M
def HG(a:Ad):rH:=λds M Q=>Cg λA V l e=>ds=[.ref A.b,tZ.d e]/\Rd a M A V l/\e.nL/\Q (Dd (xB l V e)) M
def Xw(m:Nat):D->D
 | .int i=>.bl (zW m i)
 | _=>.bl lf
noncomputable def Xn(A:tI):D->D
 | .int i=>(A.cs[i.toNat]?).elim .mS λk=>.ref k.p
 | _=>.mS
theorem Rj{V:qz}(bd:pV a M A V):∀{ns:T0 Int},ns.all (zW V.calls.length)=pc->∃ks,vU a M (A.lists++V.fo) ks (tY V ns)/\(ns.map D.int).map (Xn A)=ks.map (λk:rN=>D.ref k.p)/\(tY V ns).length=ns.length/\∀i∈ns,∃k,0<=i/\A.cs[i.toNat]?=Fa k
 | [],_=>⟨[],.nil,Z',Z',λi hi=>by cases hi⟩
 | i::r,h=>by
  rw[eX,dS]at h;obtain⟨ks,h1,h2,h3,h4⟩:=Rj bd h.2;have hh:(decide (0<=i)&&decide (i<V.calls.length))=pc:=h.1;rw[dS,eh,eh]at hh;have hi:i.toNat<V.calls.length:=by omega
  have hk:i.toNat<A.cs.length:=by rw[bd.len];exact hi
  have e1:A.cs[i.toNat]?=Fa A.cs[i.toNat]:=cV hk;have e2:V.calls[i.toNat]?=Fa V.calls[i.toNat]:=cV hi;have ec:tY V (i::r)=V.calls[i.toNat]::tY V r:=by unfold tY;rw[List.filterMap_cons_some (f:=λi:Int=>V.calls[i.toNat]?) e2]
  rw[ec];refine⟨A.cs[i.toNat]::ks,.cons _ _ _ _ (bd.cs _ _ _ e1 e2) h1,?_,eK Nat.succ h3,λj hj=>?_⟩
  .rw[dU,dU,h2];show(A.cs[i.toNat]?).elim _ _::_=_;rw[e1];rfl
  .rcases de.mp hj with rfl|hj
   .exact⟨_,hh.1,e1⟩
   .exact h4 j hj
def vU.sub(h:vU a M L ks cs)(s:qF M M'):vU a M' L ks cs:=by
 induction h with
 | nil=>exact .nil
 | cons k c ks cs h r ih=>exact .cons k c ks cs (h.sub s) ih
def Td{bs:T0 Bool}{i:Int}(h:zW bs.length i=pc):wQ (bs.map D.bl) i=Fa (.bl (bs.getD i.toNat lf)):=by
 have hh:(decide (0<=i)&&decide (i<bs.length))=pc:=h;rw[dS,eh,eh]at hh;obtain⟨n,rfl⟩:=eC hh.1;have hn:n<bs.length:=by omega
 refine vq ?_;rw[dD,cV hn];show Fa (D.bl bs[n])=Fa (.bl (bs.getD n lf));rw[fN,cV hn];rfl
def Ei:Fq P w K mg base 4 a.ab (Eh a):=by
 refine fq G.ab.toDG y0 (λr u=>⟨_,(pH (qc (pS u (ql v0 G.c.toCls G.bA (Ml G) r (qA U1)) sD)
 (pJ (pO pL))
 pU)
 (pH (qc (pS u (ql v0 G.c.toCls G.bB (HD G) r (qA U1)) sD)
 (pJ (pO pL))
 pU)
 (pJ (pO sD)))),?_⟩)
 rintro ds M Q ⟨A,V,x,rfl,bd,hk,q⟩
 unfold FY uQ at q;refine pI bd.at_ ⟨Z',_,⟨Z',Z'⟩,A,V,x,Z',bd,hk,?_⟩;unfold Nn;cases e:Fb V x with
 | some j=>rw[e]at q;exact⟨M,.refl,q⟩
 | none=>
  rw[e]at q;refine pI bd.at_ ⟨Z',_,⟨Z',Z'⟩,A,V,x,Z',bd,hk,?_⟩;unfold Vu;cases e:Jj V x with
  | some j=>rw[e]at q;exact⟨M,.refl,q⟩
  | none=>rw[e]at q;exact⟨M,.refl,q⟩
def MZ:Fq P w K mg base 5 a.aV (Lo a):=by
 refine fq G.aV.toDG wB (λr u=>⟨_,(pH (qc (pS u U2 (yA (pN v0) G.h.toCls G.bv (Dw G) r))
 (pJ (pO pL))
 pU)
 (pH (pX 3 wB (pT (Ei G) r G.ab (sE v0 U1)))
 (pH (qc (W3.b3 (yS (pS u U3 sD) (yC (zg (va (ql v0 G.c.toCls G.U (y8 G) r (qA U1)))))))
 (pJ (pO pL))
 pU)
 (pJ (pO U3))))),?_⟩)
 rintro ds M Q ⟨A,V,l,x,z,rfl,rd,hx,q⟩
 obtain⟨ph,gr,ws,Ze,pr,gd,rs,i1,_⟩:=rd.pl;have p8:=rd.ok.p8;have g3:=rd.ok.g3;unfold Ho at q;refine pI rd.bd.at_ (pG Z' (pI i1 ⟨Z',_,⟨Z',Z'⟩,V.p,l,Z',rd.pl,by omega,by omega,λp hp=>pG pQ ⟨Z',qH _,?_⟩⟩));have t:=qF.new (c:=.lst (l.nm.map D.str)) hp;have Yo:=rd.sub t;generalize pP M p (.lst (l.nm.map D.str))=M1 at t Yo ⊢;show if (!(inD (.str z) (l.nm.map D.str)))=pc then _ else _
 rw[sT];refine qS (c:=!(hasS l.nm z)) (λg=>?_) (λg=>?_)
 .rw[c9 (by simpa using g)]at q;exact⟨M,t,q⟩
 rw[cY (by simpa using g)]at q;refine⟨A,V,x,Z',Yo.bd,Yo.k,?_⟩;unfold FY;cases e:uQ V x with
 | some w0=>rw[e]at q;exact⟨M,t,q⟩
 | none=>
  rw[e]at q;refine pI Yo.bd.at_ ⟨Z',_,⟨Z',Z'⟩,A,V,l,x,Z',Yo,hx,?_⟩;refine qS (c:=!(uk l V x)) (λg=>?_) (λg=>?_)
  .rw[g]at q;exact⟨M,t,q⟩
  .rw[show(!(uk l V x))=lf from dJ.mpr g]at q;exact⟨M,t,q⟩
def N0:Fq P w K mg base 3 a.aW (Oa a):=by
 refine fq G.aW.toDG Ox (λr u=>⟨_,(pH (qc (pS u v0 pL)
 (pJ (pO (qB u U1 (pN (pW U2 pK)))))
 pU)
 (pH (qc (pS u v0 pL)
 (pJ (pO (ql (pW U2 pK) G.e.toCls G.bE (NB G) r (qA U1))))
 pU)
 (pH (qc (pS u v0 pL)
 (pJ (pO (ql (pW U2 pK) G.e.toCls G.aw (GJ G) r (qA U1))))
 pU)
 (pH (qc (pS u v0 pL)
 (pJ (pO (qB u (pN (pW U2 pK)) U1)))
 pU)
 (pJ (pO (tR (qB u (pN (pW U2 pK)) U1) (tG (ql (pW U2 pK) G.e.toCls G.aw (GJ G) r (qA U1)))))))))),?_⟩)
 rintro ds M Q ⟨wd,x,r,L,ks,cs,rfl,lr,hcs,hw,q⟩
 cases hcs with
 | nil=>rcases hw with⟨_,h⟩|⟨_,h⟩<;>cases h
 | cons k c ks cs hc YA=>
 obtain⟨ad,md,h1,h2,h3,h4,_⟩:=id hc;have a0:=xS (.ref k.p) (ks.map λk:rN=>D.ref k.p);have hold:∀K:DK,K (.bl (c.hd==Fa x)) M->Option.elim (za M 9 (Dd c.hd) (.str x)) False λb=>K (.bl b) M:=λK hK=>by
  cases e:c.hd with
  | none=>rw[e]at hK;exact hK
  | some y=>rw[e]at hK;exact hK
 rcases hw with⟨rfl|rfl|rfl|rfl,h⟩|⟨hw,h⟩
 .exact pG lr (pG a0 (pI h1 (pG Z' (En h3 ⟨M,.refl,q⟩))))
 .exact pG lr (pG a0 (pI h1 ⟨Z',_,⟨Z',Z'⟩,L,k,c,x,Z',hc,M,.refl,q⟩))
 .exact pG lr (pG a0 (pI h1 ⟨Z',_,⟨Z',Z'⟩,L,k,c,x,Z',hc,M,.refl,q⟩))
 .exact pG lr (pG a0 (pI h1 (pG Z' (hold _ ⟨M,.refl,q⟩))))
 .cases YA with
  | nil=>cases h
  | cons k' d ks cs hd _=>
   obtain⟨ad',md',f1,_⟩:=id hd;have a1:wQ (.ref k.p::.ref k'.p::ks.map λk:rN=>D.ref k.p) 1=Fa (.ref k'.p):=vq (j:=1) Z';have qq:Q (.bl ((c.hd==Fa x)&&d.m7 x)) M:=by
    rcases hw with rfl|rfl
    .exact q
    .exact q
   rcases hw with rfl|rfl
   all_goals
    refine pG lr (pG a0 (pI h1 (pG Z' ?_)));cases e:c.hd with
    | none=>rw[e]at qq;exact⟨M,.refl,qq⟩
    | some y=>
     rw[e]at qq;have qq:Q (.bl ((y==x)&&d.m7 x)) M:=qq;refine qS (c:=y==x) (λg=>?_) (λg=>?_)
     .rw[g,eJ]at qq;exact pG lr (pG a1 (pI f1 ⟨Z',_,⟨Z',Z'⟩,L,k',d,x,Z',hd,M,.refl,qq⟩))
     .rw[show(y==x)=lf from dJ.mpr g,eV]at qq;exact⟨M,.refl,qq⟩
def P6:Fq P w K mg base 5 a.aX (JR a):=by
 refine fq G.aX.toDG ue (λr u=>⟨_,(pH (qc (zg (va (qe (EV Z') Z' G.bM F1 (qA (qO Z' (xD (ix:=[Db,Fa 0]) (N':=["number","board"])) (qQ U3) (qN 0) rY (uN u pK v0 (qe qM Z' G.g qL (qA (pN U1)))))))))
 (pJ (pO pL))
 pU)
 (pH (vD (i:=4) ue.nd Z' (Or.inl Z') Z' (xD (ix:=[Db,Fa 0]) (N':=["number","board"])) (qQ U3) (qN 0) rY (pW (pN U1) v0))
 (pH (qc (zg (va (pT (N0 G) r G.aW (rF U1 U2 v4))))
 (pJ (pO pL))
 pU)
 (pH (qc (pS u U1 (pY (sE pL pL)))
 (pJ (pO sD))
 pU)
 (pH (pX 5 ue (pT (Ei G) r G.ab (sE v0 U2)))
 (pH (qc (W3.b3 (yS (pS u v5 sD) (yS (va (ql (pW v4 pK) G.e.toCls G.au (Hd G) r (qA U2))) (yC (zg (va (ql v0 G.c.toCls G.U (y8 G) r (qA U2))))))))
 (pJ (pO pL))
 pU)
 (pJ (pO v5)))))))),?_⟩)
 rintro ds M Q ⟨A,V,l,wd,x,ns,rfl,rd,hx,hw,q⟩
 have hz:=dI;have hn2:ns.length<=2:=by rcases hw with⟨_,h⟩|⟨_,h⟩<;>omega
 have lca:((A.cs.map λk=>D.ref k.p).length:Int)=V.calls.length:=by rw[cT,rd.bd.len]
 unfold Ly at q;refine rB (f:=Xw V.calls.length) trivial _ [] _ (by rw[cT];simp only[dH];omega) (λd hd k hk=>?_) λp hp=>?_
 .obtain⟨i,_,rfl⟩:=dB.mp hd;have hk:k (.bl (decide (0<=i)&&decide (i<V.calls.length))) M:=hk;refine qS (c:=decide (0<=i)) (λg=>?_) (λg=>?_)
  .rw[g,eJ]at hk;refine pI rd.bd.at_ (pG Z' (pG rd.bd.ca ?_));rw[lca];exact hk
  .rw[show decide (0<=i)=lf from dJ.mpr g,eV]at hk;exact hk
 have em:[]++(ns.map D.int).map (Xw V.calls.length)=ns.map λi=>D.bl (zW V.calls.length i):=by rw[dX,dZ];rfl
 rw[em];have t:=qF.new (c:=.lst (ns.map λi=>D.bl (zW V.calls.length i))) hp;refine pG pQ (pG (yB (zW V.calls.length) ns) ?_);have Yo:=rd.sub t;generalize pP M p (.lst (ns.map λi=>D.bl (zW V.calls.length i)))=M1 at t Yo ⊢;rw[zY];refine qS (c:=!(ns.all (zW V.calls.length))) (λg=>?_) (λYx=>?_)
 .rw[c9 (by simpa using g)]at q;exact⟨M,t,q⟩
 have Yx:ns.all (zW V.calls.length)=pc:=by simpa using Yx
 rw[cY (by rw[Yx];exact Bool.noConfusion)]at q;obtain⟨ks,hks,eks,lcs,ZQ⟩:=Rj Yo.bd Yx;refine rB (f:=Xn A) trivial _ [] _ (by rw[cT];simp only[dH];omega) (λd hd k0 hk=>?_) λp2 X4=>?_
 .obtain⟨i,hi,rfl⟩:=dB.mp hd;obtain⟨k,i0,e1⟩:=ZQ i hi;obtain⟨n,rfl⟩:=eC i0;have e1:A.cs[n]?=Fa k:=e1;have hk:k0 ((A.cs[n]?).elim .mS λk=>.ref k.p) M1:=hk;rw[e1]at hk;exact pI Yo.bd.at_ (pG Z' (pG Z' (pG Yo.bd.ca (pG (rG e1) hk))))
 rw[dX,eks];have t2:=qF.new (c:=.lst (ks.map λk:rN=>D.ref k.p)) X4;have l2:=@pQ M1 p2 (ks.map λk:rN=>D.ref k.p);have ZZ:=Yo.sub t2;have s2:=t.trans t2;generalize pP M1 p2 (.lst (ks.map λk:rN=>D.ref k.p))=M2 at l2 ZZ s2 t2 ⊢;have hks:=hks.sub t2;generalize tY V ns=cs at hks lcs q;refine⟨wd,x,p2,_,ks,cs,Z',l2,hks,by rw[lcs];exact hw,?_⟩;refine qS (c:=!Jz wd x cs) (λg=>?_) (λg=>?_)
 .rw[c9 (by simpa using g)]at q;exact⟨M,s2,q⟩
 rw[cY (by simpa using g)]at q;have two:∀wd:Str,(wd=="answer"||wd=="back")=pc->Q (Dd (if ((uQ V x).isNone&&(cs.head?.elim lf (λc=>c.mT x)&&!(uk l V x)))=pc then Fa "full" else uQ V x)) M->cs.length=1->Eh a [.ref A.b,.str x] M2 λdue M3=>uO (KY (OW (b3 (k3 .Is (v3 5) (c3 .mS))) (OW (b3 (AQ "waits_with" (λD s=>D=a.e/\s=vW a) (i3 (v3 4) (c3 (.int 0))) (vL (v3 2) x9))) (Vs (b3 (AQ "is_free" (λD s=>D=a.c/\s=xu a) (v3 0) (vL (v3 2) x9)))))) (SH (c3 (.str "full"))) Xi) (SH (v3 5)) {nx:=λ_ M'=>∃XX,qF XX M'/\Q .mS XX,rt:=λd M'=>∃XX,qF XX M'/\Q d XX} [Fa (.ref A.b),Fa (.str wd),Fa (.str x),Fa (.tup (ns.map D.int)),Fa (.ref p2),Fa due] M3:=λwd _ q hl=>by
  cases hks with
  | nil=>cases hl
  | cons k c ks cs hc _=>
  have q:Q (Dd (if ((uQ V x).isNone&&(c.mT x&&!(uk l V x)))=pc then Fa "full" else uQ V x)) M:=q;obtain⟨ad,md,h1,_⟩:=id hc;refine⟨A,V,x,Z',ZZ.bd,ZZ.k,?_⟩;unfold FY;cases e:uQ V x with
  | some w0=>rw[e]at q;exact⟨M,s2,q⟩
  | none=>
   rw[e]at q;refine pG l2 (pG (xS _ _) (pI h1 ⟨Z',_,⟨Z',Z'⟩,_,k,c,x,Z',hc,?_⟩));refine qS (c:=c.mT x) (λg1=>?_) (λg1=>?_)
   .rw[g1]at q;refine pI ZZ.bd.at_ ⟨Z',_,⟨Z',Z'⟩,A,V,l,x,Z',ZZ,hx,?_⟩;refine qS (c:=!(uk l V x)) (λg=>?_) (λg=>?_)
    .rw[g]at q;exact⟨M,s2,q⟩
    .rw[show(!(uk l V x))=lf from dJ.mpr g]at q;exact⟨M,s2,q⟩
   .rw[show c.mT x=lf from dJ.mpr g1]at q;exact⟨M,s2,q⟩
 rcases hw with⟨rfl|rfl|rfl|rfl,h⟩|⟨rfl|rfl,h⟩
 .exact⟨pE Z',Z',Z',two "answer" Z' q (lcs.trans h)⟩
 .exact⟨pE Z',Z',Z',M,s2,q⟩
 .exact⟨pE Z',Z',Z',M,s2,q⟩
 .exact⟨pE Z',Z',Z',two "back" Z' q (lcs.trans h)⟩
 .exact⟨pE Z',Z',Z',M,s2,q⟩
 .exact⟨pE Z',Z',Z',M,s2,q⟩
def Se:Fq P w K mg base 1 a.aY (Ss a):=by
 refine fq G.aY.toDG zi (λr u=>⟨_,(pH (qc (zg (Hb u pK U2 (qe qM Z' G.g qL (qA (pN v0)))))
 (pJ (pO pL))
 pU)
 (pH (qc (pS u (pW (pN v0) U2) (qB u U1 pL))
 (pJ (pO pL))
 pU)
 (pJ (pO sD)))),?_⟩)
 rintro ds M Q ⟨A,V,b,i,rfl,bd,q⟩
 unfold OT at q;have ZQ:zW V.on.length i=(decide (0<=i)&&decide (i<V.on.length)):=rfl;have lon:((V.on.map D.bl).length:Int)=V.on.length:=by rw[cT]
 have no:zW V.on.length i=lf->Q (.str "wish") M:=λh=>by rw[c9 h]at q;exact q
 have yes:zW V.on.length i=pc->Q (Dd (if (V.on.getD i.toNat lf==b)=pc then Fa "wish" else Db)) M:=λh=>by rw[h,cY Bool.noConfusion]at q;exact q
 refine qS (c:=decide (0<=i)) (λg0=>?_) (λg0=>⟨M,.refl,no (by rw[ZQ,show decide (0<=i)=lf from dJ.mpr g0];rfl)⟩);refine pI bd.at_ (pG Z' (pG bd.on ?_));rw[lon];refine qS (c:=!(decide (i<(V.on.length:Int)))) (λg1=>⟨M,.refl,no (by rw[ZQ,g0,show decide (i<(V.on.length:Int))=lf by simpa using g1];rfl)⟩) (λg1=>?_);have h:zW V.on.length i=pc:=by rw[ZQ,g0,show decide (i<(V.on.length:Int))=pc by simpa using g1];rfl
 have q:=yes h;refine pI bd.at_ (pG Z' (pG Z' (pG bd.on (pG (Td h) ?_))));have es:(VH b=="on")=b:=by cases b<;>rfl
 show if (V.on.getD i.toNat lf==(VH b=="on"))=pc then _ else _
 rw[es];refine qS (λg=>?_) (λg=>?_)
 .rw[c9 g]at q;exact⟨M,.refl,q⟩
 .rw[cY g]at q;exact⟨M,.refl,q⟩
def IF:Fq P w K mg base 6 a.aZ (HG a):=by
 refine fq G.aZ.toDG CY (λr u=>⟨_,(pH (pX 2 CY (pW U1 pK))
 (pH (qc (pS u U2 pL)
 (pJ (pO sD))
 pU)
 (pH (qc (pS u U2 (pY (sE pL pL)))
 (pJ (pO (pT (Se G) r G.aY (rF v0 U2 (pW U1 pK)))))
 pU)
 (pH (qc (pS u (pW U1 pK) (yA (pN v0) G.h.toCls G.T (uc G) r))
 (pJ (pO pL))
 pU)
 (pH (qc (pS u U2 pL)
 (pJ (pO (pT (MZ G) r G.aV (rF v0 (pW U1 pK) (pW U1 pK)))))
 pU)
 (pJ (pO (pT (P6 G) r G.aX (qp v0 (rF U2 (pW U1 pK) (rQ U1 (sv pK) sV))))))))))),?_⟩)
 rintro ds M Q ⟨A,V,l,e,rfl,rd,hf,q⟩
 obtain⟨ph,gr,ws,Ze,pr,gd,rs,i1,_⟩:=rd.pl;have p8:=rd.ok.p8;cases e with
 | turn=>exact⟨M,.refl,q⟩
 | sw b i=>
  cases b with
  | true=>exact⟨pE Z',Z',Z',A,V,pc,i,Z',rd.bd,M,.refl,q⟩
  | false=>exact⟨pE Z',Z',Z',A,V,lf,i,Z',rd.bd,M,.refl,q⟩
 | call x z=>
  have q:Q (Dd (if hasS l.pn x=lf then Fa "name" else Ho l V x z)) M:=q;refine⟨pE Z',Z',Z',?_⟩;refine pI rd.bd.at_ (pG Z' (pI i1 ⟨Z',_,⟨Z',Z'⟩,V.p,l,Z',rd.pl,by omega,λp X4=>pG pQ ⟨Z',qH _,?_⟩⟩));have t:=qF.new (c:=.lst (l.pn.map D.str)) X4;have Yo:=rd.sub t;generalize pP M p (.lst (l.pn.map D.str))=M1 at t Yo ⊢;show if (!(inD (.str x) (l.pn.map D.str)))=pc then _ else _
  rw[sT];refine qS (c:=!(hasS l.pn x)) (λg=>?_) (λg=>?_)
  .rw[c9 (by simpa using g)]at q;exact⟨M,t,q⟩
  .have g:hasS l.pn x=pc:=by simpa using g
   rw[g,cY Bool.noConfusion]at q;exact⟨A,V,l,x,z,Z',Yo,ra.mp g,M,t,q⟩
 | num wd x ns=>
  have q:Q (Dd (if hasS l.pn x=lf then Fa "name" else Ly l V wd x ns)) M:=q;have hf:tZ.nf wd ns.length:=hf;have key:∀(M1:Mp),qF M M1->if (!(inD (.str x) (l.pn.map D.str)))=pc then(∃XX,qF XX M1/\Q (.str "name") XX)else JR a [.ref A.b,.str wd,.str x,.tup (ns.map D.int)] M1 λd M'=>∃XX,qF XX M'/\Q d XX:=λM1 t=>by
   rw[sT];refine qS (c:=!(hasS l.pn x)) (λg=>?_) (λg=>?_)
   .rw[c9 (by simpa using g)]at q;exact⟨M,t,q⟩
   .have g:hasS l.pn x=pc:=by simpa using g
    rw[g,cY Bool.noConfusion]at q;exact⟨A,V,l,wd,x,ns,Z',rd.sub t,ra.mp g,hf,M,t,q⟩
  have one:ns.length=1->∃i,ns=[i]:=List.length_eq_one_iff.mp;have two:ns.length=2->∃i j,ns=[i,j]:=λh=>by
   match ns,h with
   | [i,j],_=>exact⟨i,j,Z'⟩
  rcases id hf with⟨rfl|rfl|rfl|rfl,h⟩|⟨rfl|rfl,h⟩
  .obtain⟨i,rfl⟩:=one h;exact⟨pE Z',Z',Z',pI rd.bd.at_ (pG Z' (pI i1 ⟨Z',_,⟨Z',Z'⟩,V.p,l,Z',rd.pl,by omega,λp X4=>pG pQ ⟨Z',qH _,key _ (.new X4)⟩⟩))⟩
  .obtain⟨i,rfl⟩:=one h;exact⟨pE Z',Z',Z',pI rd.bd.at_ (pG Z' (pI i1 ⟨Z',_,⟨Z',Z'⟩,V.p,l,Z',rd.pl,by omega,λp X4=>pG pQ ⟨Z',qH _,key _ (.new X4)⟩⟩))⟩
  .obtain⟨i,rfl⟩:=one h;exact⟨pE Z',Z',Z',pI rd.bd.at_ (pG Z' (pI i1 ⟨Z',_,⟨Z',Z'⟩,V.p,l,Z',rd.pl,by omega,λp X4=>pG pQ ⟨Z',qH _,key _ (.new X4)⟩⟩))⟩
  .obtain⟨i,rfl⟩:=one h;exact⟨pE Z',Z',Z',pI rd.bd.at_ (pG Z' (pI i1 ⟨Z',_,⟨Z',Z'⟩,V.p,l,Z',rd.pl,by omega,λp X4=>pG pQ ⟨Z',qH _,key _ (.new X4)⟩⟩))⟩
  .obtain⟨i,j,rfl⟩:=two h;exact⟨pE Z',Z',Z',pI rd.bd.at_ (pG Z' (pI i1 ⟨Z',_,⟨Z',Z'⟩,V.p,l,Z',rd.pl,by omega,λp X4=>pG pQ ⟨Z',qH _,key _ (.new X4)⟩⟩))⟩
  .obtain⟨i,j,rfl⟩:=two h;exact⟨pE Z',Z',Z',pI rd.bd.at_ (pG Z' (pI i1 ⟨Z',_,⟨Z',Z'⟩,V.p,l,Z',rd.pl,by omega,λp X4=>pG pQ ⟨Z',qH _,key _ (.new X4)⟩⟩))⟩
def Dt(V:qz)(x:Str):Prop:=∀c∈V.calls,¬BF c x
def FF{V:qz}(h:uQ V x=Db):Dt V x:=by
 unfold uQ at h;cases e1:Fb V x with
 | some j=>rw[e1]at h;cases h
 | none=>
  cases e2:Jj V x with
  | some j=>rw[e1,e2]at h;cases h
  | none=>
   intro c hc g;have h1:=jC.mp e1 c hc;have h2:=jC.mp e2 c hc;rcases g with g|g
   .rw[h1]at g;cases g
   .rw[h2]at g;cases g
def sX{c:pM}(h:c.st="rings"){x:Str}:BF c x↔x=c.cr:=by unfold BF pM.nq pM.mZ pM.mY;rw[h];simp(decide:=true)
def D4{c:pM}(h:c.st="waits"){x:Str}:BF c x↔x=c.cr:=by unfold BF pM.nq pM.mZ pM.mY;rw[h];simp(decide:=true)
def tW{c:pM}(h:c.st="talks"){x:Str}:BF c x↔x∈c.ms:=by unfold BF pM.nq pM.mZ pM.mY;rw[h,<-ra];simp(decide:=true)
def Cr{c:pM}(h:c.st="held"){x:Str}:BF c x↔x∈c.ms/\c.hd≠Fa x:=by unfold BF pM.nq pM.mZ;rw[h,<-ra];simp(decide:=true)
def Hx{c:pM}(h:c.st="over"){x:Str}:¬BF c x:=by unfold BF pM.nq pM.mZ pM.mY;rw[h];simp(decide:=true)
def tj{c:pM}(h:c.st="rings"){x:Str}:c.hasB x=pc↔x=c.cr\/x∈c.at_:=by unfold pM.hasB;rw[h,<-ra];simp(decide:=true)
def Eo{c:pM}(h:c.st="waits"){x:Str}:c.hasB x=pc↔x=c.cr:=by unfold pM.hasB;rw[h];simp(decide:=true)
def tJ{c:pM}(h:c.st="talks"\/c.st="held"){x:Str}:c.hasB x=pc↔x∈c.ms:=by unfold pM.hasB;rw[<-ra];rcases h with h|h<;>(rw[h];simp(decide:=true))
def Hz{c:pM}(h:c.st="over"){x:Str}:c.hasB x=lf:=by unfold pM.hasB;rw[h];simp(decide:=true)
def sG{c:pM}{x:Str}:c.mT x=pc↔c.st="waits"/\x∈c.at_:=by unfold pM.mT;rw[dS,fh,ra]
theorem Fd{α:Type}(f:α->Bool):∀{l:List α} {i:Nat} {c:α} (c':α),l[i]?=Fa c->((l.set i c').filter f).length+(if f c=pc then 1 else 0)=(l.filter f).length+(if f c'=pc then 1 else 0)
 | [],_,_,_,h=>by simp at h
 | x::r,0,c,c',h=>by cases h;rw[List.set_cons_zero,gM,gM];split<;>split<;>simp
 | x::r,i+1,c,c',h=>by
  have ih:=Fd f (l:=r) (i:=i) (c:=c) c' (by simpa using h);rw[lj,gM,gM];split
  .rw[d6,d6];omega
  .exact ih
def Ae.set{V V':qz}{o o':Option Nat}{i:Nat}{c c':pM}(h:Ae l V o)(e:V'.calls=V.calls.set i c')(hc:V.calls[i]?=Fa c)(ho:∀j,j≠i->(o==Fa j)=(o'==Fa j))(ok:wm l (o'==Fa i) c')(he:∀x,BF c' x->BF c x\/Dt V x)(hu:∀x,c'.hasB x=pc->c.hasB x=pc\/(vk V x:Int)<xm l x)(hw:∀x,c'.mT x=pc->c.mT x=pc\/AU V x=lf)(nx:uL l V'):Ae l V' o':=by
 have si:∀{j:Nat} {d:pM},V'.calls[j]?=Fa d->(j=i/\d=c')\/(j≠i/\V.calls[j]?=Fa d):=λ{j d} g=>by rw[e]at g;exact(Fs g).imp (λg=>⟨g.1,g.2.1⟩) id
 have key:∀(j:Nat) cj x,j≠i->V.calls[j]?=Fa cj->BF c' x->BF cj x->False:=λj cj x hj e1 g1 g2=>by
  rcases he x g1 with z|z
  .exact hj (h.un j i cj c x e1 hc g2 z)
  .exact z cj (qW e1) g2
 have keyw:∀(j:Nat) cj x,j≠i->V.calls[j]?=Fa cj->c'.mT x=pc->cj.mT x=pc->False:=λj cj x hj e1 g1 g2=>by
  rcases hw x g1 with z|z
  .exact hj (h.wt j i cj c x e1 hc g2 z)
  .unfold AU at z;exact absurd g2 (by rw[lu.mp z cj (qW e1)|>dJ.mpr];exact Bool.noConfusion)
 refine⟨λj d g=>?_,λm n cm cn x e1 e2 g1 g2=>?_,λx hx=>?_,λm n cm cn x e1 e2 g1 g2=>?_,nx⟩
 .rcases si g with⟨rfl,rfl⟩|⟨hj,g⟩
  .exact ok
  .rw[<-ho j hj];exact h.ok j d g
 .rcases si e1 with⟨rfl,rfl⟩|⟨hm,e1⟩<;>rcases si e2 with⟨rfl,rfl⟩|⟨hn,e2⟩
  .rfl
  .exact(key n cn x hn e2 g1 g2).elim
  .exact(key m cm x hm e1 g2 g1).elim
  .exact h.un m n cm cn x e1 e2 g1 g2
 .have cs:=Fd (λk:pM=>k.hasB x) c' hc;have hl:=h.ln x hx;unfold vk at hl ⊢;rw[e];by_cases g:c'.hasB x=pc
  .rw[c9 g]at cs;rcases hu x g with z|z
   .rw[c9 z]at cs;omega
   .unfold vk at z;omega
  .rw[cY g]at cs;omega
 .rcases si e1 with⟨rfl,rfl⟩|⟨hm,e1⟩<;>rcases si e2 with⟨rfl,rfl⟩|⟨hn,e2⟩
  .rfl
  .exact(keyw n cn x hn e2 g1 g2).elim
  .exact(keyw m cm x hm e1 g2 g1).elim
  .exact h.wt m n cm cn x e1 e2 g1 g2
def Ae.add{V V':qz}{c':pM}(h:WF l V)(e:V'.calls=V.calls++[c'])(ok:wm l pc c')(he:∀x,BF c' x->Dt V x)(hu:∀x,c'.hasB x=pc->(vk V x:Int)<xm l x)(hw:∀x,c'.mT x=lf)(nx:uL l V'):Ae l V' (Fa V.calls.length):=by
 have si:∀{j:Nat} {d:pM},V'.calls[j]?=Fa d->(j=V.calls.length/\d=c')\/(j≠V.calls.length/\V.calls[j]?=Fa d):=λ{j d} g=>by
  rw[e]at g;by_cases z:j<V.calls.length
  .rw[eY z]at g;exact .inr ⟨by omega,g⟩
  .have:=(cX.mp g).1;rw[cW,dP]at this;have z:j=V.calls.length:=by omega
   subst z;rw[eW (dq _)]at g;simp only[hU,iC,ju]at g;exact .inl ⟨Z',g.symm⟩
 refine⟨λj d g=>?_,λm n cm cn x e1 e2 g1 g2=>?_,λx hx=>?_,λm n cm cn x e1 e2 g1 g2=>?_,nx⟩
 .rcases si g with⟨rfl,rfl⟩|⟨hj,g⟩
  .rw[fv];exact ok
  .rw[show(Fa V.calls.length==Fa j)=lf by simpa using dO hj];exact h.ok j d g
 .rcases si e1 with⟨rfl,rfl⟩|⟨hm,e1⟩<;>rcases si e2 with⟨rfl,rfl⟩|⟨hn,e2⟩
  .rfl
  .exact(he x g1 cn (qW e2) g2).elim
  .exact(he x g2 cm (qW e1) g1).elim
  .exact h.un m n cm cn x e1 e2 g1 g2
 .have hl:=h.ln x hx;unfold vk at hl ⊢;rw[e,jo,cW,gM];split
  .rename_i g;have:=hu x g;unfold vk at this;simp only[iV,dP];omega
  .simp only[iV,dH];omega
 .rcases si e1 with⟨rfl,rfl⟩|⟨hm,e1⟩<;>rcases si e2 with⟨rfl,rfl⟩|⟨hn,e2⟩
  .rfl
  .rw[hw x]at g1;cases g1
  .rw[hw x]at g2;cases g2
  .exact h.wt m n cm cn x e1 e2 g1 g2
noncomputable def pM.core(c:pM):pM:={c with way:=[],si:=0}
def zt(V V':qz):Prop:=V'.calls.map pM.core=V.calls.map pM.core
def zt.at_{V V':qz}(h:zt V V'){i:Nat}{c':pM}(e:V'.calls[i]?=Fa c'):∃c,V.calls[i]?=Fa c/\c'.core=c.core:=by
 have:=eK (·[i]?) h;simp only[dD,e]at this;cases e':V.calls[i]? with
 | none=>rw[e']at this;cases this
 | some c=>rw[e']at this;exact⟨c,Z',dh this⟩
def zt.used{V V':qz}(h:zt V V')(x:Str):vk V' x=vk V x:=by
 have key:∀cs:List pM,(cs.filter (·.hasB x)).length=((cs.map pM.core).filter (·.hasB x)).length:=λcs=>by rw[gC,cT];rfl
 unfold vk;rw[key,h,<-key]
def zt.wf{V V':qz}{o:Option Nat}(h:zt V V')(wf:Ae l V o)(hw:∀(i:Nat) c',V'.calls[i]?=Fa c'->c'.way≠[]/\∀z∈c'.way,z∈l.nm)(nx:uL l V'):Ae l V' o:=by
 refine⟨λi c' e=>?_,λi j ci cj x e1 e2 g1 g2=>?_,λx hx=>by rw[h.used];exact wf.ln x hx,λi j ci cj x e1 e2 g1 g2=>?_,nx⟩
 .obtain⟨c,ec,ee⟩:=h.at_ e;have k:=wf.ok i c ec;have k1:c'.at_=c.at_:=show c'.core.at_=c.core.at_ by rw[ee]
  have k2:c'.ms=c.ms:=show c'.core.ms=c.core.ms by rw[ee]
  have k3:c'.cr=c.cr:=show c'.core.cr=c.core.cr by rw[ee]
  exact⟨by show Rg _ c'.core;rw[ee];exact k.sh,by rw[k3];exact k.cr,by rw[k1];exact k.at_,by rw[k2];exact k.ms,by rw[k1];exact k.an,by rw[k2];exact k.mn,by rw[k1,k3];exact k.ca,hw i c' e⟩
 .obtain⟨di,a1,a2⟩:=h.at_ e1;obtain⟨dj,b1,b2⟩:=h.at_ e2;exact wf.un i j di dj x a1 b1 (by show BF di.core x;rw[<-a2];exact g1) (by show BF dj.core x;rw[<-b2];exact g2)
 .obtain⟨di,a1,a2⟩:=h.at_ e1;obtain⟨dj,b1,b2⟩:=h.at_ e2;exact wf.wt i j di dj x a1 b1 (by show di.core.mT x=pc;rw[<-a2];exact g1) (by show dj.core.mT x=pc;rw[<-b2];exact g2)
def ub.core{V V':qz}(h:ub V V'):zt V V':=by have:=eK (List.map pM.core) h;rw[dZ,dZ]at this;exact this
def Kc(V:qz):zt V (qo V .turn):=by show(V.calls.map pM.tick).map pM.core=V.calls.map pM.core;rw[dZ];refine gv λc _=>?_;show(pM.tick c).core=c.core;unfold pM.tick;split<;>rfl
def Fw{V:qz}(wf:WF l V):WF l (qo V .turn):=(Kc V).wf wf (λi c' e=>by
 have e:(V.calls.map pM.tick)[i]?=Fa c':=e;rw[dD]at e;cases q:V.calls[i]? with
 | none=>rw[q]at e;cases e
 | some c=>
  rw[q]at e;have e:c.tick=c':=dh e;have hw:c.tick.way=c.way:=by unfold pM.tick;split<;>rfl
  rw[<-e,hw];exact(wf.ok i c q).wy) wf.nx
def Uo{V:qz}{b:Bool}{i:Nat}(wf:WF l V):WF l (qo V (.sw b i)):=⟨wf.ok,wf.un,wf.ln,wf.wt,wf.nx⟩
def ED{V:qz}{o:Option Nat}{i:Nat}{z:Str}{ns:T0 Nat}(wf:Ae l V o):Ae l (qo V (.asks i z ns)) o:=⟨wf.ok,wf.un,wf.ln,wf.wt,wf.nx⟩
def Ih{V:qz}{o:Option Nat}{v:sC}(wf:Ae l V o)(hz:v.g∈l.nm):Ae l (qo V (.leg v)) o:=(zF V v).core.wf wf (λi c' e=>by
 have e:(V.calls.modify v.i (·.go v.g))[i]?=Fa c':=e;rw[ja]at e;cases q:V.calls[i]? with
 | none=>rw[q]at e;cases e
 | some c=>
  rw[q]at e;have k:=(wf.ok i c q).wy;have e:(if v.i=i then c.go v.g else c)=c':=dh e;by_cases g:v.i=i
  .rw[c9 g]at e;rw[<-e];refine⟨by show c.way++[v.g]≠[];simp,λz hz'=>?_⟩;rcases dQ.mp (show z∈c.way++[v.g]from hz')with y|y
   .exact k.2 z y
   .rw[dg.mp y];exact hz
  .rw[cY g]at e;rw[<-show c=c' from e];exact k) wf.nx
theorem Cv{o:Option Nat}(i:Nat):∀(st:tq) (q:Option Str) {V:qz},Ae l V o->(∀s∈st,s.1∈l.nm)->Ae l (qP V (rK i q st)) o
 | [],_,V,wf,_=>wf
 | (y,gs)::r,Db,V,wf,h=>Cv i r (Fa y) (ED wf) λs hs=>h s (dC _ hs)
 | (y,gs)::r,Fa u,V,wf,h=>Cv i r (Fa y) (ED (Ih wf (h _ dG))) λs hs=>h s (dC _ hs)
def rM{V:qz}{i:Nat}{c:pM}{f:pM->pM}(h:V.calls[i]?=Fa c):(xQ V i f).calls=V.calls.set i (f c):=by unfold xQ;rw[tV h]
def BC{i:Nat}:∀j,j≠i->((Fa i:Option Nat)==Fa j)=((Db:Option Nat)==Fa j):=λj hj=>by rw[show((Fa i:Option Nat)==Fa j)=lf by simpa using dO hj];rfl
def WY{V:qz}{i:Nat}{c:pM}(wf:Ae l V (Fa i))(hc:V.calls[i]?=Fa c):c.st="rings"/\c.ms=[]/\c.hd=Db/\c.wd=Db/\c.at_=[]:=by
 have sh:=(wf.ok i c hc).sh;rw[fv]at sh;rcases sh with g|g
 .exact⟨g.1,g.2.1,g.2.2.1,g.2.2.2.1,g.2.2.2.2.1 Z'⟩
 .cases g.1
def O4{c:pM}{o:Bool}{w:Str}(k:wm l o c)(hw:w∈Oe):wm l lf (c.over w):=⟨.inr ⟨Z',.inr (.inr (.inr ⟨Z',Z',Z',Z',w,hw,Z'⟩))⟩,k.cr,(λx hx=>by cases hx),(λx hx=>by cases hx),eI,eI,(λhx=>by cases hx),k.wy⟩
def wY{V V':qz}{o:Option Nat}{i:Nat}{c:pM}{w:Str}(wf:Ae l V o)(hc:V.calls[i]?=Fa c)(ho:o=Db\/o=Fa i)(hw:w∈Oe)(e:V'.calls=V.calls.set i (c.over w))(nx:uL l V'):WF l V':=
 wf.set e hc (λj hj=>by rcases ho with rfl|rfl;rfl;exact BC j hj) (O4 (wf.ok i c hc) hw) (λx g=>(Hx Z' g).elim) (λx g=>by rw[Hz (c:=c.over w) Z']at g;cases g) (λx g=>by have:=(sG.mp g).1;exact absurd this (show("over":Str)≠"waits" by decide)) nx
def Io{l:pR}{V:qz}{c z:Str}(h:(l.mL z).Nodup):(xX l V c z).Nodup:=by
 unfold xX;split
 .cases(vh (l.mL z) (zR V z)).filter λx=>hasS (uH l V c z) x with
  | nil=>exact eI
  | cons y r=>exact dR.mpr ⟨dA,eI⟩
 .exact h.sublist fX
def L8(ps:T0 (Str×Int))(z:Str)(n:Int)(y:Str):(Cu ps z n).find? (λp=>decide (p.1=y))=if y=z then Fa (z,n)else ps.find? λp=>decide (p.1=y):=by
 unfold Cu;by_cases h:ps.any (λp=>decide (p.1=z))=pc
 .rw[c9 h];induction ps with
  | nil=>cases h
  | cons p r ih=>
   rw[dU,ft,ft];by_cases hp:p.1=z
   .rw[c9 hp];by_cases hy:y=z
    .rw[c9 hy,hy];simp[hp]
    .rw[cY hy];have n1:decide (p.1=y)=lf:=eP (λq=>hy (q.symm.trans hp));simp only[n1];by_cases hr:r.any (λp=>decide (p.1=z))=pc
     .have:=ih hr;rw[cY hy]at this;exact this
     .have hr:∀q∈r,¬q.1=z:=λq hq g=>hr (gx.mpr ⟨q,hq,dW g⟩);rw[show r.map (λp=>if p.1=z then(p.1,n)else p)=r from(gv λq hq=>cY (hr q hq)).trans (iG _)]
   .rw[cY hp];have hr:r.any (λp=>decide (p.1=z))=pc:=by
     rw[fZ,gT]at h;rcases h with g|g
     .exact absurd (fP g) hp
     .exact g
    have ih:=ih hr;by_cases hy:y=z
    .rw[c9 hy]at ih ⊢;have n1:decide (p.1=y)=lf:=eP (λq=>hp (q.trans hy));simp only[n1];exact ih
    .rw[cY hy]at ih ⊢;cases decide (p.1=y)with
     | true=>rfl
     | false=>exact ih
 .rw[cY h,List.find?_append];have hr:∀q∈ps,¬q.1=z:=λq hq g=>h (gx.mpr ⟨q,hq,dW g⟩);by_cases hy:y=z
  .subst hy;rw[c9 Z',gU.mpr λq hq=>by simpa using hr q hq,Option.none_or];simp
  .rw[cY hy,ft,eP (λq:z=y=>hy q.symm)];simp
def NX{V:qz}{z:Str}{n:Int}(h:uL l V)(h0:0<=n)(h1:n<=((l.mL z).length:Int)):uL l (qo V (.next z n)):=λy hy ht=>by
 show ∃v,(Cu V.ps z n).find? _=Fa v/\_;rw[L8];by_cases e:y=z
 .subst e;rw[c9 Z'];exact⟨_,Z',h0,h1⟩
 .rw[cY e];exact h y hy ht
def FQ{V:qz}(h:uk l V x=pc):(vk V x:Int)<xm l x:=fP h
def Kd{V V':qz}{o:Option Nat}{i:Nat}{c:pM}{w x:Str}(wf:Ae l V o)(hc:V.calls[i]?=Fa c)(e:V'.calls=V.calls.set i (c.over w))(hx:BF c x):Dt V' x:=λd hd g=>by
 rw[e]at hd;obtain⟨j,hj,ed⟩:=gO hd;have ej:(V.calls.set i (c.over w))[j]?=Fa d:=by rw[cV hj,ed]
 rcases Fs ej with⟨_,rfl,_⟩|⟨Yc,ej⟩
 .exact Hx Z' g
 .exact Yc (wf.un j i d c x ej hc g hx)
def Le{V V':qz}{i:Nat}{c:pM}{w x:Str}(hc:V.calls[i]?=Fa c)(e:V'.calls=V.calls.set i (c.over w))(hx:c.hasB x=pc):vk V' x+1=vk V x:=by
 have:=Fd (λk:pM=>k.hasB x) (c.over w) hc;unfold vk;rw[e];simp only[hx,jg,Hz (c:=c.over w) Z']at this
 simpa using this
def Hu{V V':qz}{o:Option Nat}{i j:Nat}{c d:pM}{ms:QQQ}(wf:Ae l V o)(ho:o=Db\/o=Fa i)(hc:V.calls[i]?=Fa c)(hd:V.calls[j]?=Fa d)(YN:i≠j)(e:V'.calls=(V.calls.set i (c.over "merged")).set j (d.mem ms))(nx:uL l V')(dt:d.st="talks")(m1:ms.Nodup)(m2:ms.length=2\/ms.length=3)(m3:∀x∈ms,x∈d.ms\/(BF c x/\c.hasB x=pc))(m4:∀x∈ms,x∈l.pn):WF l V':=by
 have e1:(xQ V i (·.over "merged")).calls=V.calls.set i (c.over "merged"):=rM hc;have w1:WF l (xQ V i (·.over "merged")):=wY wf hc ho (by decide) e1 wf.nx;have hd1:(xQ V i (·.over "merged")).calls[j]?=Fa d:=by rw[e1,eQ YN];exact hd
 have kd:=w1.ok j d hd1;have kd':d.hd=Db/\d.wd=Db/\d.at_=[]:=by
  rcases kd.sh with g|⟨_,g|g|⟨_,g⟩|g⟩
  .rw[dt]at g;exact absurd g.1 (by decide)
  .rw[dt]at g;exact absurd g.1 (by decide)
  .exact⟨g.2.2.1,g.2.2.2.1,g.2.2.2.2⟩
  .rw[dt]at g;exact absurd g.1 (by decide)
  .rw[dt]at g;exact absurd g.1 (by decide)
 refine w1.set (c':=d.mem ms) (by rw[e,e1]) hd1 (λ_ _=>rfl) ⟨.inr ⟨Z',.inr (.inl ⟨dt,m2,kd'.1,kd'.2.1,kd'.2.2⟩)⟩,kd.cr,kd.at_,m4,kd.an,m1,kd.ca,kd.wy⟩ (λx g=>?_) (λx g=>?_) (λx g=>?_) nx
 .have g:=(tW (c:=d.mem ms) dt).mp g;rcases m3 x g with y|y
  .exact .inl ((tW dt).mpr y)
  .exact .inr (Kd wf hc e1 y.1)
 .have g:=(tJ (c:=d.mem ms) (.inl dt)).mp g;rcases m3 x g with y|y
  .exact .inl ((tJ (.inl dt)).mpr y)
  .have:=Le hc e1 y.2;have:=wf.ln x (m4 x g);exact .inr (by omega)
 .have:=(sG.mp g).1;rw[show(d.mem ms).st="talks" from dt]at this;exact absurd this (by decide)
def TF{V V1:qz}{i:Nat}{c:pM}{e:vO}(ok:rP l)(wf:Ae l V1 (Fa i))(same:zt V V1)(hc:V1.calls[i]?=Fa c)(he:Gn l V c.cr e):WF l (qP V1 (tD l V1 i e)):=by
 obtain⟨p1,p2,p3,p4,p5⟩:=WY wf hc;have k:=wf.ok i c hc;have hi:=(cX.mp hc).1;cases e with
 | rings z ps=>
  obtain⟨hz,Yc,rfl⟩:=he;obtain⟨⟨q1,q2,q3,q4⟩,_⟩:=ok.of hz;obtain⟨r1,r2⟩:=Hn (l:=l) (V:=V) (c:=c.cr) (z:=z);generalize hps:xX l V c.cr z=ps at Yc r1 r2;have XW:∀V2:qz,V2.calls=V1.calls->uL l V2->WF l (qo V2 (.rings i ps)):=λV2 e2 nx=>by
   have e3:(qo V2 (.rings i ps)).calls=V1.calls.set i (c.ring ps):=by show(xQ (qV V2 _) i _).calls=_;rw[rM (c:=c) (by show V2.calls[i]?=_;rw[e2];exact hc)];show V2.calls.set i _=_;rw[e2]
   have free:∀x∈ps,uk l V x=pc/\x≠c.cr:=λx hx=>by have h:=(fC.mp (r1 x hx).1).2;simp only[dS,gH]at h;exact⟨h.2,by simpa using h.1⟩
   refine wf.set e3 hc BC ⟨.inl ⟨Z',p2,p3,p4,(λh=>by cases h),λ_=>Yc⟩,k.cr,λx hx=>q4 x (r1 x hx).2,k.ms,by rw[<-hps];exact Io q3,k.mn,λhx=>(free _ hx).2 Z',k.wy⟩ (λx g=>?_) (λx g=>?_) (λx g=>?_) nx
   .exact .inl ((sX p1).mpr ((sX (c:=c.ring ps) Z').mp g))
   .rcases(tj (c:=c.ring ps) Z').mp g with y|y
    .exact .inl ((tj p1).mpr (.inl y))
    .refine .inr ?_;rw[same.used];exact FQ (free x y).1
   .exact absurd (sG.mp g).1 (show("rings":Str)≠"waits" by decide)
  show WF l (qP V1 ((if (l.mV z=="turns")=pc then _ else _)++[.rings i ps]));rw[rT];by_cases ht:(l.mV z=="turns")=pc
  .rw[c9 ht];have lp:0<(l.mL z).length:=fA.mpr q1;refine XW _ Z' (NX wf.nx (eU _ (by omega)) (Int.le_of_lt (eO _ (by omega))))
  .rw[cY ht];exact XW V1 Z' wf.nx
 | waits z=>
  obtain⟨hz,Yc,hw⟩:=he;have e3:(qo V1 (.waits i z)).calls=V1.calls.set i (c.wait z):=rM (V:=qV V1 _) hc;have hw1:AU V1 z=lf:=by
   unfold AU at hw ⊢;have key:∀cs:List pM,cs.any (·.mT z)=(cs.map pM.core).any (·.mT z):=λcs=>by rw[jP];rfl
   rw[key,same,<-key];exact hw
  refine wf.set e3 hc BC ⟨.inr ⟨Z',.inl ⟨Z',p2,p3,p4,Z'⟩⟩,k.cr,λx hx=>by rw[dg.mp hx];exact hz,k.ms,dR.mpr ⟨dA,eI⟩,k.mn,λhx=>Yc (dg.mp hx).symm,k.wy⟩ (λx g=>?_) (λx g=>?_) (λx g=>?_) wf.nx
  .exact .inl ((sX p1).mpr ((D4 (c:=c.wait z) Z').mp g))
  .exact .inl ((tj p1).mpr (.inl ((Eo (c:=c.wait z) Z').mp g)))
  .have:=(sG.mp g).2;rw[dg.mp this];exact .inr hw1
 | breaks z=>
  obtain⟨x,rfl,hb⟩:=he;obtain⟨j,d0,t1,t2,t3,t4,t5,t6⟩:=GF hb;have ht:vT V1 z=Fa j:=by
   rw[<-t1];unfold vT;have key:∀cs:List pM,cs.findIdx? (·.mY z)=(cs.map pM.core).findIdx? (·.mY z):=λcs=>by rw[gZ];rfl
   rw[key,same,<-key]
  obtain⟨d,ed,ec⟩:∃d,V1.calls[j]?=Fa d/\d.core=d0.core:=by
   have:=eK (·[j]?) same;simp only[dD,t2]at this;cases q:V1.calls[j]? with
   | none=>rw[q]at this;cases this
   | some d=>rw[q]at this;exact⟨d,Z',dh this⟩
  have ds:d.st="talks":=by rw[show d.st=d0.st from show d.core.st=d0.core.st by rw[ec]];exact t3
  have dm:d.ms=d0.ms:=show d.core.ms=d0.core.ms by rw[ec]
  have YN:i≠j:=λy=>by subst y;rw[hc]at ed;cases ed;rw[p1]at ds;exact absurd ds (by decide)
  have hee:tD l V1 i (.breaks z)=[.merge i j (d.ms++[c.cr])]:=by unfold tD;dsimp only;rw[ht,hc];dsimp only;rw[ed];rfl
  rw[hee];have ncr:c.cr∉d.ms:=λy=>YN (wf.un i j c d c.cr hc ed ((sX p1).mpr Z') ((tW ds).mpr y));have kd:=wf.ok j d ed;refine Hu (V':=qo V1 (.merge i j (d.ms++[c.cr]))) (ms:=d.ms++[c.cr]) wf (.inr Z') hc ed YN ?_ wf.nx ds ?_ (.inr ?_) (λx hx=>?_) (λx hx=>?_)
  .show(V1.calls.modify i _).modify j _=_;rw[tV hc,tV (show(V1.calls.set i _)[j]?=Fa d by rw[eQ YN];exact ed)]
  .refine gm.mpr ⟨kd.mn,dR.mpr ⟨dA,eI⟩,λx hx y hy q=>ncr ?_⟩;rw[dg.mp hy]at q;rw[<-q];exact hx
  .rw[cW,dm,t5];rfl
  .rcases dQ.mp hx with y|y
   .exact .inl y
   .rw[dg.mp y];exact .inr ⟨(sX p1).mpr Z',(tj p1).mpr (.inl Z')⟩
  .rcases dQ.mp hx with y|y
   .exact kd.ms x y
   .rw[dg.mp y];exact k.cr
 | engaged z=>exact wY (V':=qo V1 (.over i "engaged")) wf hc (.inr Z') (by decide) (rM (V:=qV V1 _) hc) wf.nx
 | barred=>exact wY (V':=qo V1 (.over i "barred")) wf hc (.inr Z') (by decide) (rM (V:=qV V1 _) hc) wf.nx
 | ring ns=>exact wY (V':=qo V1 (.over i "ring")) wf hc (.inr Z') (by decide) (rM (V:=qV V1 _) hc) wf.nx
def Rh{V:qz}{i:Nat}{k:pM}(ok:rP l)(wf:Ae l V (Fa i))(hk:V.calls[i]?=Fa k):WF l (qP V (uz l V i)):=by
 have YU:=wf.ok i k hk;unfold uz;rw[hk];dsimp only[Option.elim];obtain⟨z,hz⟩:∃z,k.way.getLast?=Fa z:=by
  cases e:k.way.getLast? with
  | none=>exact absurd (gK.mp e) YU.wy.1
  | some z=>exact⟨z,Z'⟩
 rw[show k.way.getLastD Str.empty=z by rw[ij,hz];rfl];have ro:yl l V k.cr (l.nm.length+1) [] (ua l V k.cr z k.way.dropLast):=zH ok _ _ _ _ (YU.wy.2 z (iY hz)) λx hx=>YU.wy.2 x (iZ _ hx);generalize ua l V k.cr z k.way.dropLast=R at ro;obtain⟨e,st⟩:=R;have snm:∀s∈st,s.1∈l.nm:=λs hs=>(ro.nm s hs).elim (λh=>by cases h) id;have w1:=Cv i st Db wf snm;have Yt:=vK i st Db V;rw[rT,rT];dsimp only;have XW:∀V1:qz,Ae l V1 (Fa i)->ub V V1->WF l (qP V1 (tD l V i e)):=λV1 w s=>by
  rw[<-s.ends];obtain⟨c',e1,e2⟩:=s.at_ hk;have hcr:c'.cr=k.cr:=show c'.bare.cr=k.bare.cr by rw[e2]
  exact TF ok w s.core e1 (by rw[hcr];exact ro.e)
 cases e with
 | ring ns=>
  obtain⟨x,ZO,rfl⟩:=gb (show ns≠[]from ro.e);cases hl:st.getLast? with
  | none=>rw[show uq i st (.ring (x::ZO))=[]by unfold uq;dsimp only;rw[hl];rfl];exact XW _ w1 Yt
  | some s0=>rw[show uq i st (.ring (x::ZO))=[.leg ⟨i,s0.1,x,s0.1⟩]by unfold uq;dsimp only;rw[hl];rfl];exact XW _ (Ih (v:=⟨i,s0.1,x,s0.1⟩) w1 (ro.wy _ Z' x dG)) (Yt.trans (zF _ _))
 | rings _ _=>exact XW _ w1 Yt
 | waits _=>exact XW _ w1 Yt
 | breaks _=>exact XW _ w1 Yt
 | engaged _=>exact XW _ w1 Yt
 | barred=>exact XW _ w1 Yt
def HN{V:qz}{y z:Str}(wf:WF l V)(hy:y∈l.pn)(hz:z∈l.nm)(hi:Dt V y)(hf:uk l V y=pc):Ae l (qP V [.new V.calls.length y,.leg ⟨V.calls.length,y,z,y⟩]) (Fa V.calls.length):=by
 have e:(qP V [.new V.calls.length y,.leg ⟨V.calls.length,y,z,y⟩]).calls=V.calls++[(zp y).go z]:=by show(V.calls++[zp y]).modify V.calls.length _=_;rw[tV (c:=zp y) (by rw[eW (dq _),hU];rfl),ko _ _ (dq _),hU];rfl
 refine wf.add e ⟨.inl ⟨Z',Z',Z',Z',λ_=>rfl,(λh=>by cases h)⟩,hy,(λx h=>by cases h),(λx h=>by cases h),eI,eI,(λh=>by cases h),fz _ _,λx h=>by rw[dg.mp h];exact hz⟩ (λx h=>?_) (λx h=>?_) (λx=>?_) wf.nx
 .rw[(sX (c:=(zp y).go z) Z').mp h];exact hi
 .rcases(tj (c:=(zp y).go z) Z').mp h with g|g
  .rw[g];exact FQ hf
  .cases g
 .cases q:((zp y).go z).mT x with
  | false=>rfl
  | true=>exact absurd (sG.mp q).1 (show("rings":Str)≠"waits" by decide)
def Nj{V:qz}{y z:Str}:∃k,(qP V [.new V.calls.length y,.leg ⟨V.calls.length,y,z,y⟩]).calls[V.calls.length]?=Fa k:=by
 have:V.calls.length<(qP V [.new V.calls.length y,.leg ⟨V.calls.length,y,z,y⟩]).calls.length:=by show V.calls.length<((V.calls++[zp y]).modify _ _).length;rw[gh,cW];exact fE _
 exact⟨_,cV this⟩
def E5{V:qz}{i:Nat}{c:pM}{x y:Str}{fs:T0 Nat}(wf:WF l V)(hc:V.calls[i]?=Fa c)(hs:c.st="rings")(hy:y∈l.nm):Ae l (qP V [.asks i x fs,.quiet i,.leg ⟨i,x,y,x⟩]) (Fa i):=by
 refine Ih (v:=⟨i,x,y,x⟩) ?_ hy;have k:=wf.ok i c hc;have w1:WF l (qo V (.asks i x fs)):=ED wf;have sh:c.ms=[]/\c.hd=Db/\c.wd=Db:=by
  rcases k.sh with g|⟨_,g|g|⟨_,g⟩|g⟩
  .exact⟨g.2.1,g.2.2.1,g.2.2.2.1⟩
  all_goals(rw[hs]at g;exact absurd g.1 (by decide))
 refine w1.set (i:=i) (c:=c) (c':=c.nR) (rM (V:=qV (qo V (.asks i x fs)) _) hc) hc (λj hj=>(BC j hj).symm) ?_ (λx g=>.inl ?_) (λx g=>.inl ?_) (λx g=>?_) wf.nx
 .rw[fv];exact⟨.inl ⟨hs,sh.1,sh.2.1,sh.2.2,λ_=>rfl,(λh=>by cases h)⟩,k.cr,(λx h=>by cases h),k.ms,eI,k.mn,(λh=>by cases h),k.wy⟩
 .exact(sX hs).mpr ((sX (c:=c.nR) hs).mp g)
 .rcases(tj (c:=c.nR) hs).mp g with y|y
  .exact(tj hs).mpr (.inl y)
  .cases y
 .have:=(sG.mp g).1;rw[show c.nR.st="rings" from hs]at this;exact absurd this (by decide)
inductive VX(l:pR)(V:qz)(i:Nat):List Nat->Prop
 | no:VX l V i []
 | on (c:pM) (k:Nat) (r:List Nat) (b:Bool) (x y:Str) (n:Int):V.calls[i]?=Fa c->c.st="rings"->l.mM[k]?=Fa (b,.silent x y n)->c.way.getLast?=Fa x->y∈l.nm->VX l V i (k::r)
def Iz{V:qz}(ok:rP l):VX l V i (wg l V i):=by
 unfold wg;cases e:V.calls[i]? with
 | none=>exact .no
 | some c=>
  dsimp only[Option.elim];by_cases hs:(c.st=="rings")=pc
  .rw[c9 hs];cases q:xJ l V (FJ c)with
   | nil=>exact .no
   | cons k r=>
    obtain⟨⟨b,w⟩,e1,e2⟩:=BH (i:=k) (by rw[q];exact dG);cases w with
    | silent x y n=>unfold FJ at e2;rw[dS,fh]at e2;exact .on c k r b x y n e (sK hs) e1 e2.1 (CV ok (fk e1) (z:=Str.empty) Z')
    | _=>cases e2
  .rw[cY hs];exact .no
def AF{l:pR}{V:qz}{i k:Nat}{r:T0 Nat}{b:Bool}{x y:Str}{n:Int}(h:l.mM[k]?=Fa (b,.silent x y n)):sy l V i (k::r)=[.asks i x (k::r),.quiet i,.leg ⟨i,x,y,x⟩]++uz l (qP V [.asks i x (k::r),.quiet i,.leg ⟨i,x,y,x⟩]) i:=by unfold sy;simp only[List.head?_cons,l0,h]
def FM{V:qz}{i:Nat}{c:pM}{x y:Str}{fs:T0 Nat}(h:V.calls[i]?=Fa c):(qP V [.asks i x fs,.quiet i,.leg ⟨i,x,y,x⟩]).calls[i]?=Fa (c.nR.go y):=by show((V.calls.modify i pM.nR).modify i _)[i]?=_;rw[ja,ja,h];simp
def IZ{V:qz}(ok:rP l)(wf:WF l V):WF l (qP V (sy l V i (wg l V i))):=by
 have d:=Iz (V:=V) (i:=i) ok;generalize wg l V i=fs at d;cases d with
 | no=>exact wf
 | on c k r b x y n hc hs hk hw hy=>rw[AF hk,rT];exact Rh ok (E5 wf hc hs hy) (FM hc)
theorem F9(ok:rP l):∀(is:T0 Nat) {V:qz},WF l V->WF l (qP V (qU l is V))
 | [],_,wf=>wf
 | i::r,V,wf=>by unfold qU;rw[rT];exact F9 ok r (IZ ok wf)
theorem D3(l:pR)(i:Nat):∀(is:T0 Nat) (V:qz),qU l (is++[i]) V=qU l is V++sy l (qP V (qU l is V)) i (wg l (qP V (qU l is V)) i)
 | [],V=>by show sy l V i _++[]=[]++_;rw[eR];rfl
 | j::r,V=>by show sy l V j _++qU l (r++[i]) _=(sy l V j _++qU l r _)++_;rw[D3 l i r,e9,show qU l (j::r) V=sy l V j (wg l V j)++qU l r (qP V (sy l V j (wg l V j)))from Z',rT]
def uh{x y:Str}:y∈rV ss x↔y∈ss/\y≠x:=by unfold rV;rw[fC,gH,gu]
theorem yf{x:Str}:∀{ss:QQQ},ss.Nodup->x∈ss->(rV ss x).length+1=ss.length
 | [],_,h=>by cases h
 | y::r,nd,h=>by
  have nd:=dR.mp nd;unfold rV;rw[gM];by_cases e:y=x
  .subst e;rw[show(!(y==y))=lf by simp,cY (by decide),kM.mpr λz hz=>by
    have:z≠y:=λq=>nd.1 (q ▸ hz)
    simpa using this]
   rfl
  .have h:x∈r:=by
    rcases de.mp h with q|q
    .exact absurd q.symm e
    .exact q
   rw[c9 (by simpa using e)];have:=yf nd.2 h;unfold rV at this;rw[d6,d6,this]
def Pv{V:qz}{i:Nat}{c:pM}{x:Str}(wf:WF l V)(hc:V.calls[i]?=Fa c)(hl:c.nG x=pc):WF l (qP V (vo V x i)):=by
 have k:=wf.ok i c hc;unfold vo;rw[hc];dsimp only[Option.elim];by_cases h1:c.mZ x=pc
 .rw[c9 h1];exact wY (V':=qo V (.over i "left")) wf hc (.inl Z') (by decide) (rM (V:=qV V _) hc) wf.nx
 .rw[cY h1];have e1:(qo V (.leaves i x)).calls=V.calls.set i (c.drop x):=rM (V:=qV V _) hc;by_cases h2:hasS c.at_ x=pc
  .rw[c9 h2];by_cases h3:rV c.at_ x=[]
   .rw[c9 h3];refine wY (V':=qo (qo V (.leaves i x)) (.over i "refused")) wf hc (.inl Z') (by decide) (w:="refused") ?_ wf.nx;have h4:(qo V (.leaves i x)).calls[i]?=Fa (c.drop x):=by rw[e1,eM (cX.mp hc).1]
    show(xQ (qV (qo V (.leaves i x)) _) i _).calls=_;rw[rM (V:=qV (qo V (.leaves i x)) _) h4];show(qo V (.leaves i x)).calls.set i _=_;rw[e1,iT];rfl
   .rw[cY h3];have hs:c.st="rings"/\c.ms=[]/\c.hd=Db/\c.wd=Db:=by
     rcases k.sh with g|⟨_,g|g|⟨_,g⟩|g⟩
     .exact⟨g.1,g.2.1,g.2.2.1,g.2.2.2.1⟩
     .exfalso;have:=yf k.an (ra.mp h2);rw[g.2.2.2.2]at this;exact h3 (gq.mp (by omega))
     .rw[g.2.2.2.2]at h2;cases h2
     .rw[g.2.2.2.2.2]at h2;cases h2
     .rw[g.2.2.2.1]at h2;cases h2
    refine wf.set (V':=qo V (.leaves i x)) (c':=c.drop x) e1 hc (λ_ _=>rfl) ⟨.inl ⟨hs.1,by show rV c.ms x=[];rw[hs.2.1];rfl,hs.2.2.1,hs.2.2.2,(λh=>by cases h),λ_=>h3⟩,k.cr,λy hy=>k.at_ y (uh.mp hy).1,λy hy=>k.ms y (uh.mp hy).1,k.an.sublist fX,k.mn.sublist fX,λhy=>k.ca (uh.mp hy).1,k.wy⟩ (λy g=>?_) (λy g=>?_) (λy g=>?_) wf.nx
    .exact .inl ((sX hs.1).mpr ((sX (c:=c.drop x) hs.1).mp g))
    .refine .inl ((tj hs.1).mpr (((tj (c:=c.drop x) hs.1).mp g).imp id λh=>(uh.mp h).1))
    .have:=(sG.mp g).1;rw[show(c.drop x).st="rings" from hs.1]at this;exact absurd this (by decide)
  .rw[cY h2];by_cases h3:2<c.ms.length
   .rw[c9 h3];have hx:x∈c.ms:=by unfold pM.nG at hl;rw[dJ.mpr h1,dJ.mpr h2,fM,fM]at hl;exact ra.mp hl
    have hs:c.st="talks"/\c.ms.length=3/\c.hd=Db/\c.wd=Db/\c.at_=[]:=by
     rcases k.sh with g|⟨_,g|g|⟨_,g⟩|g⟩
     .rw[g.2.1]at h3;cases h3
     .rw[g.2.1]at h3;cases h3
     .exact⟨g.1,g.2.1.elim (λq=>by omega) id,g.2.2⟩
     .omega
     .rw[g.2.1]at h3;cases h3
    have dl:=yf k.mn hx;refine wf.set (V':=qo V (.leaves i x)) (c':=c.drop x) e1 hc (λ_ _=>rfl) ⟨.inr ⟨Z',.inr (.inl ⟨hs.1,.inl (by show(rV c.ms x).length=2;omega),hs.2.2.1,hs.2.2.2.1,by show rV c.at_ x=[];rw[hs.2.2.2.2];rfl⟩)⟩,k.cr,λy hy=>k.at_ y (uh.mp hy).1,λy hy=>k.ms y (uh.mp hy).1,k.an.sublist fX,k.mn.sublist fX,λhy=>k.ca (uh.mp hy).1,k.wy⟩ (λy g=>?_) (λy g=>?_) (λy g=>?_) wf.nx
    .exact .inl ((tW hs.1).mpr (uh.mp ((tW (c:=c.drop x) hs.1).mp g)).1)
    .exact .inl ((tJ (.inl hs.1)).mpr (uh.mp ((tJ (c:=c.drop x) (.inl hs.1)).mp g)).1)
    .have:=(sG.mp g).1;rw[show(c.drop x).st="talks" from hs.1]at this;exact absurd this (by decide)
   .rw[cY h3];exact wY (V':=qo V (.over i "done")) wf hc (.inl Z') (by decide) (rM (V:=qV V _) hc) wf.nx
def Km{V:qz}{i:Nat}{c:pM}(wf:WF l V)(hc:V.calls[i]?=Fa c)(hx:hasS c.at_ x=pc)(hi:Dt V x)(hf:c.mT x=pc->uk l V x=pc):WF l (qo V (.talks i [c.cr,x])):=by
 have k:=wf.ok i c hc;have hx:=ra.mp hx;have Yc:c.cr≠x:=λq=>k.ca (q ▸ hx);have hs:(c.st="rings"\/c.st="waits")/\c.wd=Db:=by
  rcases k.sh with g|⟨_,g|g|⟨_,g⟩|g⟩
  .exact⟨.inl g.1,g.2.2.2.1⟩
  .exact⟨.inr g.1,g.2.2.2.1⟩
  .rw[g.2.2.2.2]at hx;cases hx
  .rw[g.2.2.2.2.2]at hx;cases hx
  .rw[g.2.2.2.1]at hx;cases hx
 have ec:BF c c.cr/\c.hasB c.cr=pc:=by
  rcases hs.1 with g|g
  .exact⟨(sX g).mpr Z',(tj g).mpr (.inl Z')⟩
  .exact⟨(D4 g).mpr Z',(Eo g).mpr Z'⟩
 refine wf.set (V':=qo V (.talks i [c.cr,x])) (c':=c.nM [c.cr,x]) (rM (V:=qV V _) hc) hc (λ_ _=>rfl) ⟨.inr ⟨Z',.inr (.inl ⟨Z',.inl Z',Z',hs.2,Z'⟩)⟩,k.cr,(λy h=>by cases h),(λy h=>?_),eI,?_,(λh=>by cases h),k.wy⟩ (λy g=>?_) (λy g=>?_) (λy g=>?_) wf.nx
 .rcases de.mp h with g|g
  .rw[g];exact k.cr
  .rw[dg.mp g];exact k.at_ x hx
 .exact dR.mpr ⟨λh=>Yc (dg.mp h),dR.mpr ⟨dA,eI⟩⟩
 .rcases de.mp ((tW (c:=c.nM [c.cr,x]) Z').mp g)with h|h
  .rw[h];exact .inl ec.1
  .rw[dg.mp h];exact .inr hi
 .rcases de.mp ((tJ (c:=c.nM [c.cr,x]) (.inl Z')).mp g)with h|h
  .rw[h];exact .inl ec.2
  .rw[dg.mp h];rcases hs.1 with q|q
   .exact .inl ((tj q).mpr (.inr hx))
   .exact .inr (FQ (hf (sG.mpr ⟨q,hx⟩)))
 .exact absurd (sG.mp g).1 (show("talks":Str)≠"waits" by decide)
def AA{c:pM}{x:Str}:c.m7 x=pc↔c.st="talks"/\x∈c.ms/\c.ms.length=2:=by unfold pM.m7 pM.mY;rw[dS,dS,fh,ra,fh,and_assoc]
def Me{c:pM}(k:wm l lf c)(h:c.st="talks"):c.hd=Db/\c.wd=Db/\c.at_=[]:=by
 rcases k.sh with g|⟨_,g|g|⟨_,g⟩|g⟩
 .rw[h]at g;exact absurd g.1 (by decide)
 .rw[h]at g;exact absurd g.1 (by decide)
 .exact g.2.2
 .rw[h]at g;exact absurd g.1 (by decide)
 .rw[h]at g;exact absurd g.1 (by decide)
def E6{c:pM}{x:Str}(k:wm l lf c)(h:c.hd=Fa x):c.st="held"/\c.ms.length=2/\x∈c.ms/\c.wd=Db/\c.at_=[]:=by
 rcases k.sh with g|⟨_,g|g|⟨y,g⟩|g⟩
 .rw[h]at g;cases g.2.2.1
 .rw[h]at g;cases g.2.2.1
 .rw[h]at g;cases g.2.2.1
 .have e:=g.2.2.1;rw[h]at e;cases e;exact⟨g.1,g.2.1,g.2.2.2⟩
 .rw[h]at g;cases g.2.2.1
def QF{V:qz}{i:Nat}{c:pM}{x:Str}(wf:WF l V)(hc:V.calls[i]?=Fa c)(hx:c.m7 x=pc):WF l (qo V (.held i x)):=by
 have k:=wf.ok i c hc;obtain⟨h1,h2,h3⟩:=AA.mp hx;obtain⟨s1,s2,s3⟩:=Me k h1;refine wf.set (V':=qo V (.held i x)) (c':=c.hold x) (rM (V:=qV V _) hc) hc (λ_ _=>rfl) ⟨.inr ⟨Z',.inr (.inr (.inl ⟨x,Z',h3,Z',h2,s2,s3⟩))⟩,k.cr,k.at_,k.ms,k.an,k.mn,k.ca,k.wy⟩ (λy g=>.inl ?_) (λy g=>.inl ?_) (λy g=>?_) wf.nx
 .exact(tW h1).mpr ((Cr (c:=c.hold x) Z').mp g).1
 .exact(tJ (.inl h1)).mpr ((tJ (c:=c.hold x) (.inr Z')).mp g)
 .exact absurd (sG.mp g).1 (show("held":Str)≠"waits" by decide)
def Qj{V:qz}{i:Nat}{c:pM}{x:Str}(wf:WF l V)(hc:V.calls[i]?=Fa c)(hx:c.hd=Fa x)(hi:Dt V x):WF l (qo V (.talks i c.ms)):=by
 have k:=wf.ok i c hc;obtain⟨h1,h2,h3,h4,h5⟩:=E6 k hx;refine wf.set (V':=qo V (.talks i c.ms)) (c':=c.nM c.ms) (rM (V:=qV V _) hc) hc (λ_ _=>rfl) ⟨.inr ⟨Z',.inr (.inl ⟨Z',.inl h2,Z',h4,Z'⟩)⟩,k.cr,(λy h=>by cases h),k.ms,eI,k.mn,(λh=>by cases h),k.wy⟩ (λy g=>?_) (λy g=>.inl ?_) (λy g=>?_) wf.nx
 .have g:=(tW (c:=c.nM c.ms) Z').mp g;by_cases e:y=x
  .rw[e];exact .inr hi
  .exact .inl ((Cr h1).mpr ⟨g,λq=>e (dh (q.symm.trans hx))⟩)
 .exact(tJ (.inr h1)).mpr ((tJ (c:=c.nM c.ms) (.inl Z')).mp g)
 .exact absurd (sG.mp g).1 (show("talks":Str)≠"waits" by decide)
def D8{c:pM}{x:Str}(nd:c.ms.Nodup)(h2:c.ms.length=2)(hx:x∈c.ms):qI c x∈c.ms/\qI c x≠x:=by
 have dl:=yf nd hx;obtain⟨y,r,e⟩:=List.exists_cons_of_length_pos (show 0<(rV c.ms x).length by omega);have hm:y∈rV c.ms x:=by rw[e];exact dG
 unfold qI;rw[e];exact uh.mp hm
def JZ{V:qz}{i j:Nat}{c d:pM}{w x:Str}(wf:WF l V)(hc:V.calls[i]?=Fa c)(hd:V.calls[j]?=Fa d)(h1:c.hd=Fa x)(h2:d.m7 x=pc):i≠j/\WF l (qo V (.merge i j (if (w=="hand")=pc then[qI c x,qI d x]else[x,qI c x,qI d x]))):=by
 have k:=wf.ok i c hc;have kd:=wf.ok j d hd;obtain⟨c1,c2,c3,c4,c5⟩:=E6 k h1;obtain⟨d1,d2,d3⟩:=AA.mp h2;obtain⟨a1,a2⟩:=D8 k.mn c2 c3;obtain⟨b1,b2⟩:=D8 kd.mn d3 d2;have YN:i≠j:=λq=>by subst q;rw[hc]at hd;cases hd;rw[c1]at d1;exact absurd d1 (by decide)
 refine⟨YN,?_⟩;have ea:BF c (qI c x):=(Cr c1).mpr ⟨a1,λq=>a2 (dh (q.symm.trans h1))⟩;have ab:qI c x≠qI d x:=λq=>YN (wf.un i j c d _ hc hd ea (by rw[q];exact(tW d1).mpr b1));generalize hms:(if (w=="hand")=pc then[qI c x,qI d x]else[x,qI c x,qI d x])=ms;have mm:∀y∈ms,y=x\/y=qI c x\/y=qI d x:=λy hy=>by
  rw[<-hms]at hy;split at hy
  .rcases de.mp hy with g|g
   .exact .inr (.inl g)
   .exact .inr (.inr (dg.mp g))
  .rcases de.mp hy with g|g
   .exact .inl g
   .rcases de.mp g with g|g
    .exact .inr (.inl g)
    .exact .inr (.inr (dg.mp g))
 have n2:[qI c x,qI d x].Nodup:=dR.mpr ⟨λh=>ab (dg.mp h),dR.mpr ⟨dA,eI⟩⟩;refine Hu (V':=qo V (.merge i j ms)) (ms:=ms) wf (.inl Z') hc hd YN ?_ wf.nx d1 ?_ ?_ (λy hy=>?_) (λy hy=>?_)
 .show(V.calls.modify i _).modify j _=_;rw[tV hc,tV (show(V.calls.set i _)[j]?=Fa d by rw[eQ YN];exact hd)]
 .rw[<-hms];split
  .exact n2
  .refine dR.mpr ⟨λh=>?_,n2⟩;rcases de.mp h with g|g
   .exact a2 g.symm
   .exact b2 (dg.mp g).symm
 .rw[<-hms];split
  .exact .inl Z'
  .exact .inr Z'
 .rcases mm y hy with g|g|g
  .rw[g];exact .inl d2
  .rw[g];exact .inr ⟨ea,(tJ (.inr c1)).mpr a1⟩
  .rw[g];exact .inl b1
 .rcases mm y hy with g|g|g
  .rw[g];exact k.ms x c3
  .rw[g];exact k.ms _ a1
  .rw[g];exact kd.ms _ b1
def Sq{V:qz}{i:Int}(h:zW V.calls.length i=pc):∃c,V.calls[i.toNat]?=Fa c:=by unfold zW at h;rw[dS,eh,eh]at h;exact⟨_,cV (by omega)⟩
def EF{V:qz}{b:Bool}(h:(if ((uQ V x).isNone&&b)=pc then Fa ("full":Str)else uQ V x)=Db):uQ V x=Db/\b=lf:=by
 cases e:uQ V x with
 | some w=>rw[e]at h;cases h
 | none=>
  rw[e]at h;cases b with
  | true=>cases h
  | false=>exact⟨Z',Z'⟩
inductive DU(l:pR)(V:qz)(x:Str):Str->List Int->Prop
 | answer (i:Int) (c:pM):0<=i->V.calls[i.toNat]?=Fa c->hasS c.at_ x=pc->Dt V x->(c.mT x=pc->uk l V x=pc)->DU l V x "answer" [i]
 | hang (i:Int) (c:pM):0<=i->V.calls[i.toNat]?=Fa c->c.nG x=pc->DU l V x "hang" [i]
 | hold (i:Int) (c:pM):0<=i->V.calls[i.toNat]?=Fa c->c.m7 x=pc->DU l V x "hold" [i]
 | back (i:Int) (c:pM):0<=i->V.calls[i.toNat]?=Fa c->c.hd=Fa x->Dt V x->DU l V x "back" [i]
 | two (w:Str) (i j:Int) (c d:pM):0<=i->0<=j->w="hand"\/w="join"->V.calls[i.toNat]?=Fa c->V.calls[j.toNat]?=Fa d->c.hd=Fa x->d.m7 x=pc->DU l V x w [i,j]
def HF{V:qz}{w x:Str}(f:(tZ.num w x ns).nL)(h:xB l V (.num w x ns)=Db):x∈l.pn/\DU l V x w ns:=by
 have hp:hasS l.pn x=pc:=by
  cases q:hasS l.pn x with
  | true=>rfl
  | false=>unfold xB at h;dsimp only at h;rw[c9 q]at h;cases h
 refine⟨ra.mp hp,?_⟩;unfold xB at h;dsimp only at h;rw[cY (by rw[hp];decide)]at h;unfold Ly at h;cases q1:ns.all (zW V.calls.length)with
 | false=>rw[c9 q1]at h;cases h
 | true=>
 rw[cY (by rw[q1];decide)]at h;cases q2:Jz w x (tY V ns)with
 | false=>rw[c9 q2]at h;cases h
 | true=>
 rw[cY (by rw[q2];decide)]at h;have z:∀i∈ns,0<=i/\∃c,V.calls[i.toNat]?=Fa c:=λi hi=>by have g:=eD.mp q1 i hi;refine⟨?_,Sq g⟩;unfold zW at g;rw[dS,eh]at g;exact g.1
 rcases f with⟨fw,fl⟩|⟨fw,fl⟩
 .match ns,fl with
  | [i],_=>
   obtain⟨hi,c,hc⟩:=z i dG;have ec:tY V [i]=[c]:=by unfold tY;rw[fW,hc];rfl
   rw[ec]at h q2;rcases fw with rfl|rfl|rfl|rfl
   .rw[cY (by decide)]at h;obtain⟨h1,h2⟩:=EF h;refine .answer i c hi hc q2 (FF h1) λhw=>?_;have h2:(c.mT x&&!(uk l V x))=lf:=h2;rw[hw]at h2
    simpa using h2
   .exact .hang i c hi hc q2
   .exact .hold i c hi hc q2
   .rw[cY (by decide)]at h;exact .back i c hi hc (sK q2) (FF (EF h).1)
 .match ns,fl with
  | [i,j],_=>
   obtain⟨hi,c,hc⟩:=z i dG;obtain⟨hj,d,hd⟩:=z j (dC _ dG);have ec:tY V [i,j]=[c,d]:=by unfold tY;rw[fW,hc];dsimp only;rw[fW,hd];rfl
   rw[ec]at q2;have q3:((c.hd==Fa x)&&d.m7 x)=pc:=by rcases fw with rfl|rfl<;>exact q2
   rw[dS]at q3;exact .two w i j c d hi hj fw hc hd (sK q3.1) q3.2
def FZ{V:qz}{y z:Str}(h:xB l V (.call y z)=Db):y∈l.pn/\z∈l.nm/\Dt V y/\uk l V y=pc:=by
 unfold xB at h;dsimp only at h;cases q:hasS l.pn y with
 | false=>rw[c9 q]at h;cases h
 | true=>
 rw[cY (by rw[q];decide)]at h;unfold Ho at h;cases q1:hasS l.nm z with
 | false=>rw[c9 q1]at h;cases h
 | true=>
 rw[cY (by rw[q1];decide)]at h;obtain⟨h1,h2⟩:=EF h;exact⟨ra.mp q,ra.mp q1,FF h1,by simpa using h2⟩
def US{V:qz}{b:Bool}{i:Int}(h:xB l V (.sw b i)=Db):0<=i/\i.toNat<V.on.length:=by
 unfold xB OT at h;dsimp only at h;cases q:zW V.on.length i with
 | false=>rw[c9 q]at h;cases h
 | true=>unfold zW at q;rw[dS,eh,eh]at q;omega
def zM{V:qz}{w x:Str}{i:Nat}{c:pM}(h:V.calls[i]?=Fa c):Du V w x i=if (w=="answer")=pc then .talks i [c.cr,x]else if (w=="hold")=pc then .held i x else .talks i c.ms:=by unfold Du;rw[h];rfl
def Iw{V:qz}{w x:Str}{i j:Nat}{c d:pM}(h:V.calls[i]?=Fa c)(g:V.calls[j]?=Fa d):CD V w x i j=.merge i j (if (w=="hand")=pc then[qI c x,qI d x]else[x,qI c x,qI d x]):=by unfold CD;rw[h,g];rfl
def VO{V:qz}{e:tZ}(ok:rP l)(wf:WF l V)(f:e.nL)(h:xB l V e=Db):WF l (qP V (sZ l V e)):=by
 cases e with
 | call y z=>obtain⟨h1,h2,h3,h4⟩:=FZ h;obtain⟨k,hk⟩:=Nj (V:=V) (y:=y) (z:=z);show WF l (qP V (_++uz l _ _));rw[rT];exact Rh ok (HN wf h1 h2 h3 h4) hk
 | turn=>exact F9 ok _ (Fw wf)
 | sw b i=>exact Uo wf
 | num w x ns=>
  obtain⟨_,n⟩:=HF f h;cases n with
  | answer i c hi hc h1 h2 h3=>show WF l (qo V (Du V "answer" x i.toNat));rw[zM hc];exact Km wf hc h1 h2 h3
  | hang i c hi hc h1=>exact Pv wf hc h1
  | hold i c hi hc h1=>show WF l (qo V (Du V "hold" x i.toNat));rw[zM hc];exact QF wf hc h1
  | back i c hi hc h1 h2=>show WF l (qo V (Du V "back" x i.toNat));rw[zM hc];exact Qj wf hc h1 h2
  | two _ i j c d hi hj hw hc hd h1 h2=>show WF l (qo V (CD V w x i.toNat j.toNat));rw[Iw hc hd];exact(JZ wf hc hd h1 h2).2
def Pf(a:Ad):rH:=λds M Q=>NV λM0 b A V l c n x i k=>ds=[.ref b,.str x,.int ((i:Nat):Int)]/\uB a M0 M b A V l c n/\c<=1000000/\n<=7000000/\V.calls[i]?=Fa k/\∀M' A',uB a M0 M' b A' (qP V (vo V x i)) l c (n+2)->rb A M A' M'->Q .mS M'
def PV(a:Ad):rH:=λds M Q=>Kt λA V l L k c=>ds=[.ref A.b,.ref (rN.p k)]/\Rd a M A V l/\sf a M L k c/\Q (wA (xJ l V (FJ c))) M
def Qp(a:Ad):rH:=λds M Q=>NV λM0 b A V l c n i k r=>ds=[.ref b,.int ((i:Nat):Int),wA (k::r)]/\uB a M0 M b A V l c n/\c<=1000000/\n<=6900000/\WF l V/\VX l V i (k::r)/\∀M' A',uB a M0 M' b A' (qP V (sy l V i (k::r))) l c (n+33)->rb A M A' M'->Q .mS M'
def Pq(a:Ad):rH:=λds M Q=>Ud λM0 b A V l c n=>ds=[.ref b]/\uB a M0 M b A V l c n/\c<=10000/\n<=6000000/\WF l V/\∀M' A',uB a M0 M' b A' (qP V (yp l V)) l c (n+1+33*c)->rb A M A' M'->Q .mS M'
def Sw{a:Ad}{M:Mp}{c:pM}{v:Wi}{r:Uf}{Q:DK}(h:M r=Fa (.ins (v.cls a) v.nO))(hk:sf a M L k c)(q:Q (.bl (FJ c v)) M):NT a v [.ref r,.ref k.p] M Q:=by
 cases v with
 | silent x y n=>exact⟨r,L,k,c,Z',h,hk,q⟩
 | _=>exact⟨_,_,Z',q⟩
def Pc:Fq P w K mg base 4 a.a5 (Pf a):=by
 refine fq G.a5.toDG B7 (λr u=>⟨_,(pH (pX 3 B7 (pW (pN v0) U2))
 (pJ (qc (va (ql U3 G.e.toCls G.X (BM G) r (qA U1)))
 (pJ (pZ (ql v0 G.c.toCls G.k (rA G) r (qA (pY (rF pL U2 pL))))))
 (pJ (qc (pS u U1 (pN U3))
 (pH (pZ (ql v0 G.c.toCls G.k (rA G) r (qA (pY (rF pL U2 U1)))))
 (pJ (qc (pS u (qe qM Z' G.g qL (qA (pN U3))) pK)
 (pJ (pZ (ql v0 G.c.toCls G.k (rA G) r (qA (pY (rF pL U2 pL))))))
 pU)))
 (pJ (qc (pS u (qe qM Z' G.g qL (qA (pN U3))) pK)
 (pJ (pZ (ql v0 G.c.toCls G.k (rA G) r (qA (pY (rF pL U2 U1))))))
 (pJ (pZ (ql v0 G.c.toCls G.k (rA G) r (qA (pY (rF pL U2 pL))))))))))))),?_⟩)
 rintro ds M Q ⟨M0,b,A,V,l,cc,n,x,i,c,rfl,cu,hcc,hn,hc,q⟩
 obtain⟨ka,ci⟩:=cu.call hc;obtain⟨ad,md,h1,h2,h3,h4,n1,n2⟩:=ci.cell;have hi:=(cX.mp hc).1;refine pI cu.at_ (pG Z' (pG Z' (pG ci.bd.ca (pG (rG ci.e1) ?_))));refine pI h1 ⟨Z',_,⟨Z',Z'⟩,_,ka,c,x,Z',ci.cell,?_⟩;unfold vo at q;rw[hc]at q;dsimp only[Option.elim]at q;have over:∀(w0:Str),(∀M' A',uB a M0 M' b A' (qP V [.over i w0]) l cc (n+2)->rb A M A' M'->Q .mS M')->∀(M1:Mp) (A1:tI),A1.b=A.b->rb A M A1 M1->pV a M1 A1 (qo V (.over i w0))->∃XX,qF XX M1/\Q .mS XX:=λw0 q M1 A1 eb st bd=>⟨M1,.refl,q M1 A1 ((cu.after (e:=.over i w0) hi eb st bd).mono (dq _) (by omega)) st⟩;refine qS (c:=c.mZ x) (λg=>?_) (λg=>?_)
 .rw[c9 g]at q;exact pI cu.at_ ⟨Z',_,⟨Z',Z'⟩,pE Z',b,A,V,.over i "left",Z',cu.b,cu.bd,cu.lim hcc (by omega),hi,over "left" q⟩
 rw[cY g]at q;refine pI h1 (pG Z' (pG h3 ⟨Z',qH _,?_⟩));show if inD (.str x) (c.at_.map D.str)=pc then _ else _
 rw[sT];refine qS (c:=hasS c.at_ x) (λg2=>?_) (λg2=>?_)
 .rw[c9 g2]at q;refine pI cu.at_ ⟨Z',_,⟨Z',Z'⟩,pE Z',b,A,V,.leaves i x,Z',cu.b,cu.bd,cu.lim hcc (by omega),hi,λM1 A1 eb st bd=>?_⟩;have c1:=cu.after (e:=.leaves i x) hi eb st bd;have hcs:(qo V (.leaves i x)).calls=V.calls.set i (c.drop x):=rM (V:=qV V _) hc;have hc1:(qo V (.leaves i x)).calls[i]?=Fa (c.drop x):=by rw[hcs,eM hi]
  obtain⟨ad',md',g1,g2',g3,g4,_⟩:=c1.bd.cs i ka _ (st.2.2.1 i ka ci.e1) hc1;have le0:((((c.drop x).at_.map D.str).length:Int)==0)=decide (rV c.at_ x=[]):=by rw[cT,gk,fh,eh];show((rV c.at_ x).length:Int)=0↔_;rw[<-gq];omega
  refine pI g1 (pG Z' (pG g3 ?_));refine qS (c:=(((c.drop x).at_.map D.str).length:Int)==0) (λg5=>?_) (λg5=>?_)
  .rw[le0,eh]at g5;rw[c9 g5]at q;have Zq:i<(qo V (.leaves i x)).calls.length:=(cX.mp hc1).1;refine pI c1.at_ ⟨Z',_,⟨Z',Z'⟩,pE Z',b,A1,_,.over i "refused",Z',c1.b,c1.bd,c1.lim hcc (by omega),Zq,λM2 A2 eb2 X6 Zk=>?_⟩;exact⟨M2,.refl,q M2 A2 (c1.after (e:=.over i "refused") Zq eb2 X6 Zk) (st.trans X6)⟩
  .rw[le0,eh]at g5;rw[cY g5]at q;exact⟨M1,.refl,q M1 A1 (c1.mono (dq _) (by omega)) st⟩
 .rw[cY g2]at q;refine pI h1 (pG Z' (pG h4 ?_));have lm:decide ((2:Int)<((c.ms.map D.str).length:Int))=decide (2<c.ms.length):=by rw[cT,gk,eh,eh];omega
  refine qS (c:=decide ((2:Int)<((c.ms.map D.str).length:Int))) (λg3=>?_) (λg3=>?_)
  .rw[lm,eh]at g3;rw[c9 g3]at q;refine pI cu.at_ ⟨Z',_,⟨Z',Z'⟩,pE Z',b,A,V,.leaves i x,Z',cu.b,cu.bd,cu.lim hcc (by omega),hi,λM1 A1 eb st bd=>?_⟩;exact⟨M1,.refl,q M1 A1 ((cu.after (e:=.leaves i x) hi eb st bd).mono (dq _) (by omega)) st⟩
  .rw[lm,eh]at g3;rw[cY g3]at q;exact pI cu.at_ ⟨Z',_,⟨Z',Z'⟩,pE Z',b,A,V,.over i "done",Z',cu.b,cu.bd,cu.lim hcc (by omega),hi,over "done" q⟩
def Pn:Fq P w K mg base 2 a.a6 (PV a):=by
 refine fq G.a6.toDG yI (λr u=>⟨_,(pH (pX 2 yI (pN (pN v0)))
 (pJ (pO (qx sL Z' G.y sP (qA (qO Z' (xD (ix:=[Db,Db,Fa 2,Fa 1]) (N':=["i","on","wishes","call"])) (xn Z' G.bS (qA (pN v0))) (vv (n:=2) Z' (qK (qN 0) (qK (qN 1) ul))) (vE (W3.b3 (yS (va U1) (yC (va (EG (R:=GO a) (pW U2 v0) (VJ G) (r.mono (by first|decide|omega)) (qA U3))))))) v0)))))),?_⟩)
 rintro ds M Q ⟨A,V,l,L,k,c,rfl,rd,hk,q⟩
 obtain⟨ph,gr,ws,Ze,pr,gd,rs,i1,i2,i3,i4,i5,i6,i7,i8⟩:=rd.pl;refine pI rd.bd.at_ (pG Z' (pI i1 (pG Z' ?_)));refine pI rd.bd.at_ (pG Z' (pG rd.bd.on ?_));refine J8 (rest:=[Fa (.ref ws),Fa (.ref k.p)]) rd.on rd.ok.pk rd.bd.on (λi w0 ew y kk hkk=>?_) λp hp=>pG pQ ⟨M,.new hp,q⟩;obtain⟨r,e1,e2⟩:=By i8 ew;exact pG i4 (pG e1 (pI e2 ⟨by cases w0.2<;>rfl,_,⟨w0.2,Z',Z'⟩,Sw e2 hk hkk⟩))
def OI:Fq P w K mg base 10 a.a7 (Qp a):=by
 refine fq G.a7.toDG BP (λr u=>⟨_,(pH (pX 3 BP (BR (R:=NW a) (pW (pN (pN v0)) (pW U2 pK)) (Tr G) (r.mono (by first|decide|omega))))
 (pH (pZ (ql v0 G.c.toCls G.k (rA G) r (qA (pY (qp pL (rF U1 (pW U3 pK) U2))))))
 (pH (pZ (ql v0 G.c.toCls G.k (rA G) r (qA (pY (sE pL U1)))))
 (pH (pZ (ql v0 G.c.toCls G.k (rA G) r (qA (pY (qp pL (qp U1 (rF (pW U3 pK) (pW U3 pK) (pW U3 pK))))))))
 (pJ (pZ (pT (Jh G) r G.ac (sE v0 U1)))))))),?_⟩)
 rintro ds M Q ⟨M0,b,A,V,l,c,n,i,k,r,rfl,cu,hc,hn,wf,du,q⟩
 obtain⟨ph,gr,ws,Ze,pr,gd,rs,i1,i2,i3,i4,i5,i6,i7,i8⟩:=cu.pl;cases du with
 | on k0 _ _ b0 x y m hk hs hw hl hy=>
  have hi:=(cX.mp hk).1;rw[AF hw]at q;rw[rT]at q;obtain⟨r0,e1,e2⟩:=By i8 hw;refine pI cu.at_ (pG Z' (pI i1 (pG Z' (pG (xS _ _) (pG i4 (pG e1 (pI e2 ⟨Z',_,⟨⟨.silent x y m,Z'⟩,Z'⟩,r0,.silent x y m,Z',e2,?_⟩)))))));refine pI cu.at_ ⟨Z',_,⟨Z',Z'⟩,pE Z',b,A,V,.asks i x (k::r),Z',cu.b,cu.bd,cu.lim hc (by omega),trivial,λM1 A1 eb1 Yv bd1=>?_⟩;have c1:=cu.after (e:=.asks i x (k::r)) trivial eb1 Yv bd1;refine pI c1.at_ ⟨Z',_,⟨Z',Z'⟩,pE Z',b,A1,_,.quiet i,Z',c1.b,c1.bd,c1.lim hc (by omega),hi,λM2 A2 eb2 X6 Zk=>?_⟩;have c2:=c1.after (e:=.quiet i) hi eb2 X6 Zk;have YK:i<(qo (qo V (.asks i x (k::r))) (.quiet i)).calls.length:=by show i<(V.calls.modify i pM.nR).length;rw[gh];exact hi
  refine pI c2.at_ ⟨Z',_,⟨Z',Z'⟩,pE Z',b,A2,_,.leg ⟨i,x,y,x⟩,Z',c2.b,c2.bd,c2.lim hc (by omega),YK,λM3 A3 eb3 YC bd3=>?_⟩;have c3:=c2.after (e:=.leg ⟨i,x,y,x⟩) YK eb3 YC bd3;exact⟨M0,b,A3,_,l,c,n+3,i,_,Z',c3,hc,by omega,E5 wf hk hs hy,FM hk,λM4 A4 c4 st4=>⟨M4,.refl,q M4 A4 (c4.mono (dq _) (by omega)) (Yv.trans (X6.trans (YC.trans st4)))⟩⟩
def Qy:Fq P w K mg base 11 a.a8 (Pq a):=by
 refine fq G.a8.toDG tX (λr u=>⟨_,(pH (pZ (ql v0 G.c.toCls G.k (rA G) r (qA (pY (qA pL)))))
 (pJ (vM fD Z' (xn Z' G.bS (qA (qx um Z' G.z uu (qA (pN v0))))) (vv (n:=2) Z' (qK (sd 1 tX) (qK (sd 2 tX) ul)))
 (pJ (qc (pS u (pN U2) pL)
 (pH (pX 3 tX (pT (Pn G) r G.a6 (sE v0 U2)))
 (pJ (qc (pS u (qe qM Z' G.g qL (qA U3)) pK)
 (pJ (pZ (pT (OI G) r G.a7 (rF v0 U1 U3))))
 pU)))
 pU))))),?_⟩)
 rintro ds M Q ⟨M0,b,A,V,l,c,n,rfl,cu,hc,hn,wf,q⟩
 refine pI cu.at_ ⟨Z',_,⟨Z',Z'⟩,pE Z',b,A,V,.turn,Z',cu.b,cu.bd,cu.lim (by omega) (by omega),trivial,λM1 A1 eb st bd=>?_⟩;have c1:=cu.after (e:=.turn) trivial eb st bd;have wf1:=Fw wf;have lv:(qo V .turn).calls.length=V.calls.length:=cT ..;have ev:yp l V=.turn::qU l (List.range V.calls.length) (qo V .turn):=rfl;rw[ev,<-lv]at q;have q:∀M' A',uB a M0 M' b A' (qP (qo V .turn) (qU l (List.range (qo V .turn).calls.length) (qo V .turn))) l c (n+1+33*c)->rb A M A' M'->Q .mS M':=q;have c1:uB a M0 M1 b A1 (qo V .turn) l c (n+1):=c1;generalize qo V .turn=V1 at c1 wf1 q bd;refine pI c1.at_ (pG Z' (pG c1.bd.ca λr hr=>pG pQ ?_));have t:=qF.new (c:=.lst (A1.cs.map λk=>D.ref k.p)) hr;have lr:=@pQ M1 r (A1.cs.map λk=>D.ref k.p);have nf:=c1.bd.nI hr;have c2:=c1.sub t;have cl:V1.calls.length<=c:=c1.sz.ca;generalize pP M1 r (.lst (A1.cs.map λk=>D.ref k.p))=M2 at t lr c2 ⊢;refine yb (uP 0 (A1.cs.map λk=>D.ref k.p)) (λpre U M'=>(∃A',uB a M0 M' b A' (qP V1 (qU l (List.range pre.length) V1)) l c (n+1+33*pre.length)/\rb A1 M2 A' M')/\∃y1 y2 y3,U=[Fa (.ref b),y1,y2,y3]) (λpre U M' j=>?_) _ [] _ _ Z' ⟨⟨A1,c2,.refl⟩,Db,Db,Db,Z'⟩ ?_ ?_
 .obtain⟨⟨A',c3,YC⟩,_⟩:=j;exact se (YC.1 r _ nf (qk lr))
 .rintro pre d post e U M' ⟨⟨A',c3,YC⟩,y1,y2,y3,rfl⟩ nx X7
  rw[cW,dP,iU,D3,rT]at X7;have wf3:=F9 cu.ok (List.range pre.length) wf1;generalize qP V1 (qU l (List.range pre.length) V1)=V3 at c3 wf3 X7;obtain⟨x,hx,rfl⟩:=Jq e;rw[dD]at hx;cases ek:A1.cs[pre.length]? with
  | none=>rw[ek]at hx;cases hx
  | some k=>
   rw[ek]at hx;have hx:D.ref k.p=x:=dh hx;subst hx;have hp:pre.length<c:=by have:=(cX.mp ek).1;rw[c1.bd.len]at this;omega
   have ek3:=YC.2.2.1 _ k ek;have hi:pre.length<V3.calls.length:=by rw[<-c3.bd.len];exact(cX.mp ek3).1
   have ec:V3.calls[pre.length]?=Fa V3.calls[pre.length]:=cV hi;generalize V3.calls[pre.length]=cv at ec;have ca:=c3.bd.cs _ k cv ek3 ec;obtain⟨ad,md,g1,_⟩:=ca;refine⟨Z',pI g1 (pG Z' ?_)⟩;have hdv:wg l V3 pre.length=if (cv.st=="rings")=pc then xJ l V3 (FJ cv)else[]:=by unfold wg;rw[ec];rfl
   have mS:wg l V3 pre.length=[]->∀y1' y2' y3',nx [Fa (.ref b),y1',y2',y3'] M':=λh0 y1' y2' y3'=>X7 _ _ ⟨⟨A',by rw[h0];exact c3.mono (dq _) (by omega),YC⟩,_,_,_,Z'⟩;have du:=Iz (V:=V3) (i:=pre.length) cu.ok;refine qS (c:=cv.st=="rings") (λg=>?_) (λg=>mS (by rw[hdv,cY g]) _ _ _);rw[c9 g]at hdv;refine⟨A',V3,l,_,k,cv,by rw[c3.b],c3.rd (by omega) wf3,c3.bd.cs _ k cv ek3 ec,?_⟩;rw[<-hdv];cases hdq:wg l V3 pre.length with
   | nil=>exact mS hdq _ _ _
   | cons k0 r0=>rw[hdq]at du X7;refine Bj (dW (by rw[cT];show(0:Int)<((k0::r0).length:Nat);rw[d6];omega)) ?_;exact⟨M0,b,A',V3,l,c,_,pre.length,k0,r0,Z',c3,by omega,by omega,wf3,du,λM4 A4 c4 st4=>X7 _ _ ⟨⟨A4,c4.mono (dq _) (by omega),YC.trans st4⟩,_,_,_,Z'⟩⟩
 .rintro U M' ⟨⟨A',c3,YC⟩,y1,y2,y3,rfl⟩
  have hl:(uP 0 (A1.cs.map λk=>D.ref k.p)).length=V1.calls.length:=by rw[vw,cT,c1.bd.len]
  rw[hl]at c3;exact⟨M',.refl,q M' A' (c3.mono (dq _) (by omega)) (st.trans ((rb.sub t).trans YC))⟩
inductive Rx(l:pR)(V:qz):tZ->Ev->Prop
 | sw (b:Bool) (i:Nat):i<V.on.length->Rx l V (.sw b (i:Nat)) (.sw b i)
 | answer (x:Str) (i:Nat) (c:pM):V.calls[i]?=Fa c->Rx l V (.num "answer" x [(i:Nat)]) (.talks i [c.cr,x])
 | hold (x:Str) (i:Nat) (c:pM):V.calls[i]?=Fa c->Rx l V (.num "hold" x [(i:Nat)]) (.held i x)
 | back (x:Str) (i:Nat) (c:pM):V.calls[i]?=Fa c->Rx l V (.num "back" x [(i:Nat)]) (.talks i c.ms)
 | two (w x:Str) (i j:Nat) (c d:pM):i≠j->w="hand"\/w="join"->V.calls[i]?=Fa c->V.calls[j]?=Fa d->rV c.ms x≠[]->rV d.ms x≠[]->Rx l V (.num w x [(i:Nat),(j:Nat)]) (.merge i j (if (w=="hand")=pc then[qI c x,qI d x]else[x,qI c x,qI d x]))
def Gq(a:Ad):rH:=λds M Q=>HA λA V l e ev=>ds=[.ref A.b,tZ.d e]/\Rd a M A V l/\Rx l V e ev/\Q ev.d M
def S4(a:Ad):rH:=λds M Q=>T9 λM0 b A V l c n e=>ds=[.ref b,tZ.d e]/\uB a M0 M b A V l c n/\c<10000/\n<=5000000/\WF l V/\e.nL/\xB l V e=Db/\∀M' A',uB a M0 M' b A' (qP V (sZ l V e)) l (c+1) (n+40+33*c)->rb A M A' M'->Q .mS M'
def Xk(a:Ad)(M0 M:Mp)(b:Uf)(A:tI)(V:qz)(l:pR)(c n:Nat)(e:tZ)(Q:DK):Prop:=xB l V e=Db->∀M' A' r,uB a M0 M' b A' (qP V (sZ l V e)) l (c+1) (n+40+33*c)->rb A M A' M'->M' r=Db->Q (.ref r) (pP M' r (.lst ((sZ l V e).map Ev.d)))
def Vf(a:Ad):Gf:=λds M Q R=>T9 λM0 b A V l c n e=>ds=[.ref b,tZ.d e]/\uB a M0 M b A V l c n/\c<10000/\n<=5000000/\WF l V/\e.nL/\Xk a M0 M b A V l c n e Q/\(∀w,xB l V e=Fa w->R a.H (Fa ("word",.str w)) M)
def Rd.call{V:qz}(rd:Rd a M A V l){i:Nat}{c:pM}(e:V.calls[i]?=Fa c):∃k,A.cs[i]?=Fa k/\sf a M (A.lists++V.fo) k c:=by
 have hi:i<A.cs.length:=by rw[rd.bd.len];exact(cX.mp e).1
 exact⟨A.cs[i],cV hi,rd.bd.cs i _ c (cV hi) e⟩
def zd{i:Int}(h:0<=i):∃m:Nat,i=(m:Int):=eC h
def Jx{c:pM}{x:Str}(nd:c.ms.Nodup)(h2:c.ms.length=2)(hx:x∈c.ms):rV c.ms x≠[]:=λz=>by have:=yf nd hx;rw[z]at this;simp only[dH]at this;omega
def NN:Fq P w K mg base 2 a.a9 (Gq a):=by
 refine fq G.a9.toDG tS (λr u=>⟨_,(pH (pX 2 tS (pW U1 pK))
 (pH (qc (pS u U2 (pY (sE pL pL)))
 (pJ (pO (pY (sE U2 (pW U1 pK)))))
 pU)
 (pH (pX 3 tS (pW U1 pK))
 (pH (pX 4 tS (pW U1 pK))
 (pH (pX 5 tS (pW (pN v0) v4))
 (pH (qc (pS u U2 pL)
 (pJ (pO (pY (rF pL v4 (pY (sE (pN v5) U3))))))
 pU)
 (pH (qc (pS u U2 pL)
 (pJ (pO (pY (rF pL v4 U3))))
 pU)
 (pH (qc (pS u U2 pL)
 (pJ (pO (pY (rF pL v4 (qx sL Z' G.y sP (qA (pN v5)))))))
 pU)
 (pH (pX 6 tS (pW U1 pK))
 (pH (pX 7 tS (pY (sE (ql v5 G.e.toCls G.av (Hw G) r (qA U3)) (ql (pW (pN v0) v6) G.e.toCls G.av (Hw G) r (qA U3)))))
 (pH (qc (pS u U2 pL)
 (pJ (pO (pY (qp pL (rF v4 v6 v7)))))
 pU)
 (pJ (pO (pY (qp pL (rF v4 v6 (qm (pY (qA U3)) v7))))))))))))))))),?_⟩)
 rintro ds M Q ⟨A,V,l,e,ev,rfl,rd,sg,q⟩
 cases sg with
 | sw b i hi=>
  cases b with
  | true=>exact⟨pE Z',Z',Z',pE Z',M,.refl,q⟩
  | false=>exact⟨pE Z',Z',Z',pE Z',M,.refl,q⟩
 | answer x i c hc=>obtain⟨k,ek,ca⟩:=rd.call hc;obtain⟨ad,md,h1,h2,h3,h4,n1,n2⟩:=ca;refine⟨pE Z',Z',Z',?_⟩;refine pI rd.bd.at_ (pG Z' (pG Z' (pG rd.bd.ca (pG (rG ek) ?_))));exact pI h1 (pG Z' ⟨pE Z',pE Z',M,.refl,q⟩)
 | hold x i c hc=>obtain⟨k,ek,ca⟩:=rd.call hc;refine⟨pE Z',Z',Z',?_⟩;refine pI rd.bd.at_ (pG Z' (pG Z' (pG rd.bd.ca (pG (rG ek) ?_))));exact⟨pE Z',M,.refl,q⟩
 | back x i c hc=>obtain⟨k,ek,ca⟩:=rd.call hc;obtain⟨ad,md,h1,h2,h3,h4,n1,n2⟩:=ca;refine⟨pE Z',Z',Z',?_⟩;refine pI rd.bd.at_ (pG Z' (pG Z' (pG rd.bd.ca (pG (rG ek) ?_))));exact pI h1 (pG Z' (pG h4 ⟨pE Z',M,.refl,q⟩))
 | two wd x i j c d YN hw hc hd nc nd=>
  obtain⟨k,ek,ca⟩:=rd.call hc;obtain⟨k',ek',ca'⟩:=rd.call hd;have ca0:=ca;have ca1:=ca';obtain⟨ad,md,h1,h2,h3,h4,n1,n2⟩:=ca0;obtain⟨ad',md',f1,_⟩:=ca1;obtain⟨y1,r1,e1⟩:=gb nc;obtain⟨y2,r2,e2⟩:=gb nd;have o1:qI c x=y1:=by unfold qI;rw[e1];rfl
  have o2:qI d x=y2:=by unfold qI;rw[e2];rfl
  rw[o1,o2]at q;rcases hw with rfl|rfl
  .refine⟨pE Z',Z',Z',?_⟩;refine pI rd.bd.at_ (pG Z' (pG Z' (pG rd.bd.ca (pG (rG ek) ?_))));refine pI h1 ⟨Z',_,⟨Z',Z'⟩,_,k,c,x,y1,r1,Z',ca,(rd.ms c (qW hc)).2,e1,?_⟩;refine pI rd.bd.at_ (pG Z' (pG Z' (pG rd.bd.ca (pG (rG ek') ?_))));refine pI f1 ⟨Z',_,⟨Z',Z'⟩,_,k',d,x,y2,r2,Z',ca',(rd.ms d (qW hd)).2,e2,?_⟩;exact⟨pE Z',pE Z',M,.refl,q⟩
  .refine⟨pE Z',Z',Z',?_⟩;refine pI rd.bd.at_ (pG Z' (pG Z' (pG rd.bd.ca (pG (rG ek) ?_))));refine pI h1 ⟨Z',_,⟨Z',Z'⟩,_,k,c,x,y1,r1,Z',ca,(rd.ms c (qW hc)).2,e1,?_⟩;refine pI rd.bd.at_ (pG Z' (pG Z' (pG rd.bd.ca (pG (rG ek') ?_))));refine pI f1 ⟨Z',_,⟨Z',Z'⟩,_,k',d,x,y2,r2,Z',ca',(rd.ms d (qW hd)).2,e2,?_⟩;exact⟨pE Z',pE Z',fz _ _,by show 1+2<=Ch;have hz:=dI;omega,pE Z',M,.refl,q⟩
def S8:Fq P w K mg base 12 a.ba (S4 a):=by
 refine fq G.ba.toDG Lv (λr u=>⟨_,(pH (pX 2 Lv (pW U1 pK))
 (pJ (qc (pS u U2 pL)
 (pJ (pZ (pT (NR G) r G.a4 (rF v0 (pW U1 pK) (pW U1 pK)))))
 (pJ (qc (pS u U2 pL)
 (pJ (pZ (pT (Pc G) r G.a5 (rF v0 (pW U1 pK) (pW U1 pK)))))
 (pJ (qc (pS u U2 pL)
 (pJ (pZ (pT (Qy G) r G.a8 (qA v0))))
 (pJ (pZ (ql v0 G.c.toCls G.k (rA G) r (qA (pT (NN G) r G.a9 (sE v0 U1))))))))))))),?_⟩)
 rintro ds M Q ⟨M0,b,A,V,l,c,n,e,rfl,cu,hc,hn,wf,hf,hr,q⟩
 have rd:=cu.rd (by omega) wf;have one:∀(ev:Ev),Rx l V e ev->sZ l V e=[ev]->ev.ok V->ev.nw=0->Ag (M b) λC fs'=>fs'.lookup ("apply":Str)=Db/\∃sp,(C=a.c/\sp=wn a)/\Gq a [.ref b,e.d] M λd M1=>sp [.ref b,d] M1 λ_ M'=>∃XX,qF XX M'/\Q .mS XX:=λev sg he ok h0=>by refine pI cu.at_ ⟨Z',_,⟨Z',Z'⟩,A,V,l,e,ev,by rw[cu.b],rd,sg,b,A,V,ev,Z',cu.b,cu.bd,cu.lim (by omega) (by omega),ok,λM1 A1 eb st bd=>?_⟩;rw[he]at q;have c1:=cu.after ok eb st bd;rw[h0]at c1;exact⟨M1,.refl,q M1 A1 (c1.mono (by omega) (by omega)) st⟩
 cases e with
 | call y z=>obtain⟨h1,h2,h3,h4⟩:=FZ hr;exact⟨M0,b,A,V,l,c,n,y,z,Z',cu,by omega,by omega,HN wf h1 h2 h3 h4,λM' A' c1 st=>⟨M',.refl,q M' A' (c1.mono (by omega) (by omega)) st⟩⟩
 | turn=>exact⟨M0,b,A,V,l,c,n,Z',cu,by omega,by omega,wf,λM' A' c1 st=>⟨M',.refl,q M' A' (c1.mono (by omega) (by omega)) st⟩⟩
 | sw b0 i=>
  obtain⟨h1,h2⟩:=US hr;obtain⟨i,rfl⟩:=zd h1;cases b0 with
  | true=>exact one (.sw pc i) (.sw pc i h2) Z' h2 Z'
  | false=>exact one (.sw lf i) (.sw lf i h2) Z' h2 Z'
 | num wd x ns=>
  obtain⟨hx,no⟩:=HF hf hr;cases no with
  | answer i c0 hi hc0 h1 h2 h3=>obtain⟨i,rfl⟩:=zd hi;have lt:=(cX.mp hc0).1;exact one (.talks i [c0.cr,x]) (.answer x i c0 hc0) (eK (λev=>[ev]) (zM hc0)) ⟨lt,by show 2<=100;decide⟩ Z'
  | hang i c0 hi hc0 h1=>obtain⟨i,rfl⟩:=zd hi;exact⟨M0,b,A,V,l,c,n,x,i,c0,Z',cu,by omega,by omega,hc0,λM' A' c1 st=>⟨M',.refl,q M' A' (c1.mono (by omega) (by omega)) st⟩⟩
  | hold i c0 hi hc0 h1=>obtain⟨i,rfl⟩:=zd hi;have lt:=(cX.mp hc0).1;exact one (.held i x) (.hold x i c0 hc0) (eK (λev=>[ev]) (zM hc0)) lt Z'
  | back i c0 hi hc0 h1 h2=>obtain⟨i,rfl⟩:=zd hi;have lt:=(cX.mp hc0).1;exact one (.talks i c0.ms) (.back x i c0 hc0) (eK (λev=>[ev]) (zM hc0)) ⟨lt,(cu.sz.cs c0 (qW hc0)).2.2⟩ Z'
  | two _ i j c0 d0 hi hj hw hc0 hd0 h1 h2=>
   obtain⟨i,rfl⟩:=zd hi;obtain⟨j,rfl⟩:=zd hj;have lt:=(cX.mp hc0).1;have lt':=(cX.mp hd0).1;have YN:=(JZ (w:=wd) wf hc0 hd0 h1 h2).1;have k0:=wf.ok _ c0 hc0;have k1:=wf.ok _ d0 hd0;obtain⟨_,u2,u3,_⟩:=E6 k0 h1;obtain⟨_,v2,v3⟩:=AA.mp h2;have sg:=Rx.two (l:=l) wd x i j c0 d0 YN hw hc0 hd0 (Jx k0.mn u2 u3) (Jx k1.mn v3 v2);have ok:(Ev.merge i j (if (wd=="hand")=pc then[qI c0 x,qI d0 x]else[x,qI c0 x,qI d0 x])).ok V:=⟨lt,lt',YN,by split;exact(by decide:2<=100);exact(by decide:3<=100)⟩;have he:sZ l V (.num wd x [(i:Int),(j:Int)])=[.merge i j (if (wd=="hand")=pc then[qI c0 x,qI d0 x]else[x,qI c0 x,qI d0 x])]:=eK (λev=>[ev]) (Iw hc0 hd0);rcases hw with rfl|rfl
   .exact one _ sg he ok Z'
   .exact one _ sg he ok Z'
def Kl:xA P w K mg base (BY P w) 1 a.I.f a.I.d a.I.p (wN K "word"):=
 L1 G.I.toDG Cb λX1 A outer s H E=>EL (P4 (pv 0) (pv 1))
def UH:W8 P w K mg base 13 a.J (Vf a):=by
 refine UL G.J.toDG HR (by walk_at "m") (λ_ _ _ _ _ _ R hr hR=>⟨_,(pH (pX 2 HR (pT (IF G) hr G.aZ (sE v0 U1)))
 (pH (qc (pS (Xl hr) U2 sD)
 (pJ (Ld G.b5 (Kl G) (hr.mono (by first|decide|omega)) G.I.b G.b6 G.I.at_ Z' G.bT hR (qA U2)))
 pU)
 (pH (pX 3 HR (qe qM Z' G.g qL (qA (pN v0))))
 (pH (pZ (pT (S8 G) hr G.ba (sE v0 U1)))
 (pJ (pO (rQ (pN v0) (sv U3) sV))))))),?_⟩)
 .rintro ds M Q ⟨M0,b,A,V,l,c,n,e,rfl,cu,hc,hn,wf,hf,q,rr⟩
  refine⟨A,V,l,e,by rw[cu.b],cu.rd (by omega) wf,hf,?_⟩;cases er:xB l V e with
  | some w0=>exact⟨_,Z',rr w0 er⟩
  | none=>
   refine pI cu.at_ (pG Z' (pG cu.bd.lo ?_));refine⟨M0,b,A,V,l,c,n,e,Z',cu,hc,hn,wf,hf,er,λM' A' c1 st=>?_⟩;refine pI c1.at_ (pG Z' (pG c1.bd.lo λp hp=>?_));have hcut:L3.ug ((qP V (sZ l V e)).log.map Ev.d) (Fa (((V.log.map Ev.d).length:Nat):Int)) Db=(sZ l V e).map Ev.d:=by rw[F4,dM,Im _ _ (by rw[cW];omega),List.drop_left]
   rw[hcut];exact⟨_,.refl,q er M' A' p c1 st hp⟩
def Qn(a:Ad):rH:=λds M Q=>T9 λM0 b A V l c n e=>ds=[.ref b,tZ.d e]/\uB a M0 M b A V l c n/\c<10000/\n<=5000000/\WF l V/\e.nL/\Xk a M0 M b A V l c n e Q/\(∀w,xB l V e=Fa w->Q (.str w) M)
def JQ:Fq P w K mg base 14 a.ai (Qn a):=by
 refine fq G.ai.toDG ya (λr u=>⟨_,(pH (pX 2 ya sD)
 (pH (OU (ix:=2) (i:=3) (Mm (UH G) (r.mono (by first|decide|omega)) Z' G.J.mg G.J.toDG.kp G.J.b (sE v0 U1)) Z' Z' Z' G.bT ya.nd Z' Z' Z' Z' (by decide))
 (pJ (pO U2)))),?_⟩)
 rintro ds M Q ⟨M0,b,A,V,l,c,n,e,rfl,cu,hc,hn,wf,hf,q,qf⟩
 refine⟨λC y M'=>C=a.H/\M=M'/\∃w,xB l V e=Fa w/\y=Fa (("word":Str),D.str w),?_,?_⟩
 .exact⟨M0,b,A,V,l,c,n,e,Z',cu,hc,hn,wf,hf,λh M' A' r c1 st hm=>⟨_,.refl,q h M' A' r c1 st hm⟩,λw h=>⟨Z',Z',w,h,Z'⟩⟩
 .rintro C y M' ⟨rfl,rfl,w,h,rfl⟩
  exact⟨G.b8,G.b7,w,Z',M,.refl,qf w h⟩
noncomputable def vX(g:uE):Bool:=g.2.1==("turns":Str)
def vp(l:pR):T0 (Str×Int):=(l.groups.filter vX).map λg=>(g.1,0)
def V0(p:Uf)(h:Int)(l:pR)(F:QXQ):qz:=⟨p,h,0,[],[],vp l,l.mM.map (·.1),[],F⟩
def FU(a:Ad):rH:=λds M Q=>HA λb p h F (l:pR)=>ds=[.ref b,.ref p,.int h]/\M b=Fa (.ins a.c [])/\sR a M p l/\rP l/\p≠b/\(∀x∈F,∃c,M x=Fa c)/\∀M' A,A.b=b->sQ b M M'->(∀x∈A.foot,x=b\/M x=Db)->pV a M' A (V0 p h l F)->Q .mS M'
noncomputable def Mo(g:D):Bool:=match g with
 | .tup (_::.str m::_)=>m=="turns"
 | _=>lf
def RA(d:D):D:=.tup [Bm d,.int 0]
def IH(gs:List uE):((gs.map rD).filter Mo).map RA=(gs.filter vX).map λg=>D.tup [.str g.1,.int 0]:=by rw[gC,dZ];rfl
def K6(l:pR):((l.groups.filter vX).map λg=>((Sum.inr g.1:rj),D.int 0))=tT (vp l):=by unfold tT vp;rw[dZ];rfl
noncomputable def bF(p:Uf)(h:Int)(ca le nx Zl:Uf)(k:Nat):T0 (Str×D):=List.take (α:=Str×D) k [("plan",.ref p),("hour",.int h),("turn",.int 0),("calls",.ref ca),("legs",.ref le),("nexts",.ref nx),("on",.ref Zl)]
def Gj:Fq P w K mg base 1 a.Q (FU a):=by
 refine fq G.Q.toDG DI (λr u=>⟨_,(pH (qu v0 U1)
 (pH (qu v0 U2)
 (pH (qu v0 pK)
 (pH (qu v0 (rq tL))
 (pH (qu v0 (rq tL))
 (pH (qu v0 (qx (Fz Z') Z' G.bR EC (qA (qO Z' (xD (ix:=[Db]) (N':=["group"])) (qQ (pN U1)) (qN 0) (vE (pS u (pW v0 pK) pL)) (pY (sE (pW v0 pK) pK))))))
 (pH (qu v0 (qx um Z' G.z uu (qA (pN U1))))
 (pJ (qu v0 (rq tL)))))))))),?_⟩)
 rintro ds M Q ⟨b,p,h,F,l,rfl,hb,⟨ph,gr,ws,on,pr,gd,rs,i1,i2,i3,i4,i5,i6,i7,i8⟩,ok,nbp,hF,q⟩
 have hz:=dI;have l2:=ok.g3;refine pI hb ⟨(G.E "plan" Z'),by show 0<1000;decide,?_⟩;have k1:sQ b M (pP M b (.ins a.c [("plan",.ref p)])):=.put;have b1:pP M b (.ins a.c [("plan",.ref p)]) b=Fa (.ins a.c [("plan",.ref p)]):=qa;show uO _ _ _ _ (pP M b (.ins a.c [("plan",.ref p)]));generalize pP M b (.ins a.c [("plan",.ref p)])=N1 at k1 b1 ⊢;refine pI b1 ⟨(G.E "hour" Z'),by show 1<1000;decide,?_⟩;have k2:=k1.trans (sQ.put (p:=b) (c:=.ins a.c [("plan",.ref p),("hour",.int h)]));have b2:pP N1 b (.ins a.c [("plan",.ref p),("hour",.int h)]) b=Fa (.ins a.c [("plan",.ref p),("hour",.int h)]):=qa;show uO _ _ _ _ (pP N1 b (.ins a.c [("plan",.ref p),("hour",.int h)]));generalize pP N1 b (.ins a.c [("plan",.ref p),("hour",.int h)])=N2 at k2 b2 ⊢;refine pI b2 ⟨(G.E "turn" Z'),by show 2<1000;decide,?_⟩;have k3:=k2.trans (sQ.put (p:=b) (c:=.ins a.c (bF p h 0 0 0 0 3)));have b3:pP N2 b (.ins a.c (bF p h 0 0 0 0 3)) b=Fa (.ins a.c (bF p h 0 0 0 0 3)):=qa;show uO _ _ _ _ (pP N2 b (.ins a.c (bF p h 0 0 0 0 3)));generalize pP N2 b (.ins a.c (bF p h 0 0 0 0 3))=N3 at k3 b3 ⊢;clear k1 k2 b1 b2;refine⟨pE Z',λca hca=>?_⟩;obtain⟨n4,e4,k4,c4,b4⟩:=tN (fs':=(bF p h ca 0 0 0 4)) (c:=.lst []) b3 hca;refine pI e4 ⟨(G.E "calls" Z'),by show 3<1000;decide,?_⟩;show uO _ _ _ _ (pP (pP N3 ca (.lst [])) b (.ins a.c (bF p h ca 0 0 0 4)));generalize pP (pP N3 ca (.lst [])) b (.ins a.c (bF p h ca 0 0 0 4))=N4 at k4 c4 b4 ⊢;have ZV:=k3.trans k4;have z1:M ca=Db:=rS k3 b3 hca;have lc4:pA N4 ca=Fa []:=se c4;refine⟨pE Z',λle hle=>?_⟩;obtain⟨n5,e5,k5,c5,b5⟩:=tN (fs':=(bF p h ca le 0 0 5)) (c:=.lst []) b4 hle;refine pI e5 ⟨(G.E "legs" Z'),by show 4<1000;decide,?_⟩;show uO _ _ _ _ (pP (pP N4 le (.lst [])) b (.ins a.c (bF p h ca le 0 0 5)));generalize pP (pP N4 le (.lst [])) b (.ins a.c (bF p h ca le 0 0 5))=N5 at k5 c5 b5 ⊢;have ZW:=ZV.trans k5;have z2:M le=Db:=rS ZV b4 hle;have le5:pA N5 le=Fa []:=se c5;have mcl:le≠ca:=λz=>by rw[z,qk lc4]at hle;cases hle
 have lc5:=k5.lst (qg lc4 b4) lc4;have p5:=ZW _ _ nbp i1;have g5:=ZW.lst (qg i3 hb) i3;clear k3 k4 k5 ZV lc4 c4 c5 e4 e5 b3 b4;refine pI p5 (pG Z' (pG g5 ?_));refine tK (f:=RA) (t:=Mo) g5 _ [] _ (by rw[cT];simp only[dH];omega) (λd hd k hk=>?_) (λd hd _ k hk=>?_) λq1 YF=>?_
 .obtain⟨v,_,rfl⟩:=dB.mp hd;exact hk
 .obtain⟨v,_,rfl⟩:=dB.mp hd;exact⟨pE Z',hk⟩
 rw[dX,IH];have sq1:=qF.new (c:=.lst ((l.groups.filter vX).map λg=>D.tup [.str g.1,.int 0])) YF;refine pG pQ (pG (xl (λg:uE=>g.1) (λ_=>D.int 0) _) ⟨yM (iy (List.Sublist.map _ fX) (iy (jz _ _) ok.nd)),λnx X7=>?_⟩);have z3:M nx=Db:=rS ZW b5 (sq1.none X7);obtain⟨n6,e6,k6,c6,b6⟩:=tN (fs':=(bF p h ca le nx 0 6)) (c:=.dk ((l.groups.filter vX).map λg=>((Sum.inr g.1:rj),D.int 0))) (sq1 _ _ b5) X7;refine pI e6 ⟨(G.E "nexts" Z'),by show 5<1000;decide,?_⟩;have k6:=sq1.keep.trans k6;have ZJ:wj "nexts" (.ref nx) (bF p h ca le 0 0 5)=(bF p h ca le nx 0 6):=rfl;rw[ZJ];generalize pP (pP (pP N5 q1 (.lst ((l.groups.filter vX).map λg=>D.tup [.str g.1,.int 0]))) nx (.dk ((l.groups.filter vX).map λg=>((Sum.inr g.1:rj),D.int 0)))) b (.ins a.c (bF p h ca le nx 0 6))=N6 at k6 b6 c6 ⊢;have x6:Aa N6 nx=Fa ((l.groups.filter vX).map λg=>((Sum.inr g.1:rj),D.int 0)):=CT c6;have kk6:=ZW.trans k6;have lc6:=k6.lst (qg lc5 b5) lc5;have le6:=k6.lst (qg le5 b5) le5;have p6:=kk6 _ _ nbp i1;have o6:=kk6.lst (qg i5 hb) i5;clear ZW k6 lc5 p5 g5 e6 c6;refine pI p6 (pG Z' (pG o6 λZl hon=>?_));have z4:M Zl=Db:=rS kk6 b6 hon;obtain⟨n7,e7,k7,c7,b7⟩:=tN (fs':=(bF p h ca le nx Zl 7)) (c:=.lst (l.mM.map λw=>D.bl w.1)) b6 hon;refine pI e7 ⟨(G.E "on" Z'),by show 6<1000;decide,?_⟩;have ZJ:wj "on" (.ref Zl) (bF p h ca le nx 0 6)=(bF p h ca le nx Zl 7):=rfl;rw[ZJ];generalize pP (pP N6 Zl (.lst (l.mM.map λw=>D.bl w.1))) b (.ins a.c (bF p h ca le nx Zl 7))=N7 at k7 b7 c7 ⊢;have kk7:=kk6.trans k7;have lc7:=k7.lst (qg lc6 b6) lc6;have le7:=k7.lst (qg le6 b6) le6;have x7:=k7.dk (CO x6 b6) x6;have lo7:pA N7 Zl=Fa ((l.mM.map (·.1)).map D.bl):=by rw[dZ];exact se c7
 refine⟨pE Z',λlg hlg=>?_⟩;obtain⟨n8,e8,k8,c8,b8⟩:=tN (fs':=ud (.ref p) h 0 ca le nx Zl lg) (c:=.lst []) b7 hlg;refine pI e8 ⟨(G.E "log" Z'),by show 7<1000;decide,_,.refl,?_⟩;have apart:∀{N:Mp} {x y:Uf} {ds:T0 D},N x=Db->pA N y=Fa ds->x≠y:=λ{N x y ds} h1 h2 z=>by have:=qk h2;rw[<-z,h1]at this;cases this
 have y5:=rS kk7 b7 hlg;refine q _ ⟨b,ca,le,nx,Zl,lg,[]⟩ Z' (kk7.trans k8) (λx hx=>?_) ⟨b8,k8.lst (qg lc7 b7) lc7,k8.lst (qg le7 b7) le7,?_,k8.lst (qg lo7 b7) lo7,se c8,Z',λi k c e=>by simp at e,?_,dR.mpr ⟨dA,eI⟩,λx hx=>?_⟩
 rotate_right
 .by_cases z:x=b
  .exact⟨_,by rw[z];exact b8⟩
  .obtain⟨c,e⟩:=hF x hx;exact⟨c,(kk7.trans k8) x c z e⟩
 .have hx:x∈[b,nx,ca,le,Zl,lg]:=by
   unfold tI.foot tI.lists at hx
   simpa using hx
  simp only[de,dA,eL]at hx;rcases hx with rfl|rfl|rfl|rfl|rfl|rfl
  .exact .inl Z'
  .exact .inr z3
  .exact .inr z1
  .exact .inr z2
  .exact .inr z4
  .exact .inr y5
 .show Aa _ nx=Fa (tT (vp l));rw[<-K6];exact k8.dk (CO x7 b7) x7
 .have m1:=apart hlg lc7;have m2:=apart hlg le7;have m3:=apart hlg lo7;have m4:=apart hon lc6;have m5:=apart hon le6;show[ca,le,Zl,lg].Nodup;simp only[dR,de,dA,eL,fJ,not_false_eq_true,eI,and_true];exact⟨⟨dO mcl,dO m4,dO m1⟩,⟨dO m5,dO m2⟩,dO m3⟩
def Tq{p:Uf}{F:QXQ}(ok:rP l):WF l (V0 p h l F):=by
 refine⟨λi c e=>by simp[V0]at e,λi j ci cj x e=>by simp[V0]at e,λx hx=>?_,λi j ci cj x e=>by simp[V0]at e,λz hz ht=>?_⟩
 .show((0:Nat):Int)<=xm l x;unfold xm;cases e:l.nj x with
  | none=>exact Int.le_refl _
  | some v=>have:=(ok.po v (gi e)).l1;show(0:Int)<=v.2.1;omega
 .show ∃v,(vp l).find? (λp=>decide (p.1=z))=Fa v/\_;unfold pR.mV at ht;cases e:l.group z with
  | none=>rw[e]at ht;exact absurd ht (by decide)
  | some g=>
   rw[e]at ht;have hg:=gi e;have hn:g.1=z:=by simpa using mq e
   have hm:((g.1,0):Str×Int)∈vp l:=dB.mpr ⟨g,fC.mpr ⟨hg,ht⟩,Z'⟩;cases q:(vp l).find? (λp=>decide (p.1=z))with
   | none=>exact absurd (gU.mp q _ hm) (by simp[hn])
   | some v=>refine⟨v,Z',?_⟩;obtain⟨g',_,rfl⟩:=dB.mp (gi q);exact⟨Int.le_refl _,Int.natCast_nonneg _⟩
noncomputable def qz.at_(V:qz)(p:Uf)(F:QXQ):qz:={V with p:=p,fo:=F}
def Bu(c:pM):D:=.tup [.str c.st,.str c.cr,.tup (c.way.map D.str),.tup (c.at_.map D.str),.tup (c.ms.map D.str),Dd c.hd,.int c.si,Dd c.wd]
def Vg(V:qz):D:=.tup [.int V.t,.tup (V.calls.map Bu),.tup ((tz V.ps).map xM),.tup (V.on.map D.bl)]
def Qw(a:Ad):rH:=λds M Q=>C9 λL k c=>ds=[.ref k.p]/\sf a M L k c/\Q (Bu c) M
def Ia(a:Ad):rH:=λds M Q=>Bs λA V=>ds=[.ref A.b]/\pV a M A V/\V.calls.length<=10000/\V.ps.length<=3/\Q (Vg V) M
def An(ok:rP l):(vp l).length<=3:=by unfold vp;rw[cT];exact dY (gg _ _) ok.g3
def Qe:Fq P w K mg base 1 a.bd (Qw a):=by
 refine fq G.bd.toDG xw (λr u=>⟨_,(pH (pX 1 xw (pY (rF (qx sL Z' G.y sP (qA (pN v0))) (qx sL Z' G.y sP (qA (pN v0))) (qx sL Z' G.y sP (qA (pN v0))))))
 (pJ (pO (qm (qm (pY (sE (pN v0) (pN v0))) U1) (pY (rF (pN v0) (pN v0) (pN v0))))))),?_⟩)
 rintro ds M Q ⟨L,k,c,rfl,⟨ad,md,h1,h2,h3,h4,_⟩,q⟩
 have hz:=dI;refine pI h1 (pG Z' (pG h2 (pI h1 (pG Z' (pG h3 (pI h1 (pG Z' (pG h4 ⟨pE Z',?_⟩))))))));refine pI h1 (pG Z' (pI h1 (pG Z' ⟨pE Z',fz _ _,by show 2+3<=Ch;omega,?_⟩)));exact pI h1 (pG Z' (pI h1 (pG Z' (pI h1 (pG Z' ⟨pE Z',fz _ _,by show 5+3<=Ch;omega,M,.refl,q⟩)))))
def C0:Fq P w K mg base 2 a.ae (Ia a):=by
 refine fq G.ae.toDG Cd (λr u=>⟨_,(pH (pX 1 Cd (qx sL Z' G.y sP (qA (qO Z' (xD (ix:=[Db]) (N':=["call"])) (qQ (pN v0)) (qN 0) rY (pT (Qe G) r G.bd (qA v0))))))
 (pJ (pO (pY (qp (pN v0) (rF U1 (qx sL Z' G.y sP (qA (EH Z' (pN v0) Z' G.cC))) (qx sL Z' G.y sP (qA (pN v0))))))))),?_⟩)
 rintro ds M Q ⟨A,V,rfl,bd,Yl,h3,q⟩
 have hz:=dI;refine pI bd.at_ (pG Z' (pG bd.ca ?_));refine zZ (A.cs.map λk=>D.ref k.p) (λpre acc U M'=>M=M'/\acc=(V.calls.take pre.length).map Bu/\∃y,U=[y]) (λ_ _ _ M' j=>by rw[<-j.1];exact bd.ca) _ [] [] _ _ Z' ?_ ⟨Z',Z',Db,Z'⟩ ?_ ?_
 .rw[cT,bd.len];simp only[dH];omega
 .rintro pre d post e acc U M' ⟨rfl,rfl,y,rfl⟩ k hk
  obtain⟨ka,c,e1,e2,rfl,hc,et⟩:=E8 bd e;refine⟨_,ka,c,Z',hc,hk _ _ _ ⟨Z',?_,_,Z'⟩⟩;rw[cW,dP,et,dM];rfl
 .rintro acc U M' ⟨rfl,rfl,y,rfl⟩ p1 Zd
  rw[cT,bd.len,fF];refine pG pQ ?_;have s1:=qF.new (c:=.lst (V.calls.map Bu)) Zd;generalize pP M p1 (.lst (V.calls.map Bu))=M1 at s1 ⊢;refine pI (s1 _ _ bd.at_) (pG Z' (pI (s1 _ _ bd.at_) (pG Z' ⟨V.ps,s1.dk bd.nx,h3,λS hS=>pG pQ ?_⟩)));have s2:=s1.trans (qF.new (c:=.lst ((tz V.ps).map xM)) hS);generalize pP M1 S (.lst ((tz V.ps).map xM))=M2 at s2 ⊢;exact pI (s2 _ _ bd.at_) (pG Z' (pG (s2.lst bd.on) ⟨pE Z',M,s2,q⟩))
def Ev.oP:Ev->Prop
 | .turn=>False
 | .sw _ _=>False
 | _=>True
def Ev.noN:Ev->Prop
 | .next _ _=>False
 | _=>True
theorem Ez:∀{es:T0 Ev} {V:qz},(∀e∈es,e.noN)->(qP V es).ps=V.ps
 | [],_,_=>rfl
 | e::r,V,h=>(Ez (es:=r) (V:=qo V e) λx hx=>h x (dC _ hx)).trans (by have:=h e dG;cases e<;>first|rfl|cases this)
theorem zV(i:Nat):∀(st:tq) (q:Option Str),∀e∈rK i q st,e.oP/\e.noN
 | [],_,e,h=>by unfold rK at h;cases h
 | (y,gs)::r,Db,e,h=>by
  rcases de.mp (show e∈Ev.asks i y gs::rK i (Fa y) r from h)with rfl|h
  .exact⟨trivial,trivial⟩
  .exact zV i r _ e h
 | (y,gs)::r,Fa u,e,h=>by
  rcases de.mp (show e∈Ev.leg ⟨i,u,y,u⟩::Ev.asks i y gs::rK i (Fa y) r from h)with rfl|h
  .exact⟨trivial,trivial⟩
  rcases de.mp h with rfl|h
  .exact⟨trivial,trivial⟩
  .exact zV i r _ e h
def Jk{st:tq}:∀e∈uq i st en,e.oP/\e.noN:=λe h=>by
 unfold uq at h;cases en with
 | ring ns=>
  dsimp only at h;cases q:st.getLast? with
  | none=>rw[q]at h;cases h
  | some s0=>rw[q]at h;rw[dg.mp h];exact⟨trivial,trivial⟩
 | _=>cases h
def Qf{V:qz}:∀e∈tD l V i en,e.oP:=λe h=>by
 cases en with
 | rings z ps=>
  rcases dQ.mp (show e∈(if (l.mV z=="turns")=pc then[Ev.next z (Qi (l.mL z) (ps.headD Str.empty))]else[])++[.rings i ps]from h)with g|g
  .split at g
   .rw[dg.mp g];trivial
   .cases g
  .rw[dg.mp g];trivial
 | breaks z=>
  unfold tD at h;dsimp only at h;split at h
  .rw[dg.mp h];trivial
  .cases h
 | waits z=>rw[dg.mp h];trivial
 | engaged z=>rw[dg.mp h];trivial
 | barred=>rw[dg.mp h];trivial
 | ring ns=>rw[dg.mp h];trivial
def ND{V:qz}:∀e∈uz l V i,e.oP:=λe h=>by
 unfold uz at h;cases q:V.calls[i]? with
 | none=>rw[q]at h;cases h
 | some c=>
  rw[q]at h;dsimp only[Option.elim]at h;rcases dQ.mp h with h|h
  .exact(zV i _ _ e h).1
  rcases dQ.mp h with h|h
  .exact(Jk e h).1
  .exact Qf e h
def GU{V:qz}:∀e∈sy l V i fs,e.oP:=λe h=>by
 unfold sy at h;split at h
 .rename_i x y n _;dsimp only at h;rcases dQ.mp h with h|h
  .simp only[de,dA,eL]at h;rcases h with rfl|rfl|rfl<;>trivial
  .exact ND e h
 .cases h
theorem GZ:∀(is:T0 Nat) (V:qz),∀e∈qU l is V,e.oP
 | [],_,e,h=>by unfold qU at h;cases h
 | i::r,V,e,h=>by
  unfold qU at h;rcases dQ.mp h with h|h
  .exact GU e h
  .exact GZ r _ e h
def Q0{ps:T0 (Str×Int)}{z:Str}{n:Int}(h:ps.any (λp=>decide (p.1=z))=pc):(Cu ps z n).length=ps.length:=by unfold Cu;rw[c9 h,cT]
def RW{V V1:qz}(nx:uL l V1)(he:Gr l V i en):(qP V1 (tD l V i en)).ps.length=V1.ps.length:=by
 cases en with
 | rings z ps=>
  show(qP V1 ((if (l.mV z=="turns")=pc then[Ev.next z (Qi (l.mL z) (ps.headD Str.empty))]else[])++[.rings i ps])).ps.length=_;rw[rT];by_cases ht:(l.mV z=="turns")=pc
  .rw[c9 ht];refine Q0 ?_;obtain⟨v,e,_⟩:=nx z he.1 ht;exact gx.mpr ⟨v,gi e,by simpa using mq e⟩
  .rw[cY ht];rfl
 | breaks z=>
  unfold tD;dsimp only;split
  .rfl
  .rfl
 | waits z=>rfl
 | engaged z=>rfl
 | barred=>rfl
 | ring ns=>rfl
def RB{V:qz}{i:Nat}{k:pM}(ok:rP l)(wf:Ae l V (Fa i))(hk:V.calls[i]?=Fa k):(qP V (uz l V i)).ps.length=V.ps.length:=by
 have YU:=wf.ok i k hk;unfold uz;rw[hk];dsimp only[Option.elim];obtain⟨z,hz⟩:∃z,k.way.getLast?=Fa z:=by
  cases e:k.way.getLast? with
  | none=>exact absurd (gK.mp e) YU.wy.1
  | some z=>exact⟨z,Z'⟩
 rw[show k.way.getLastD Str.empty=z by rw[ij,hz];rfl];have ro:yl l V k.cr (l.nm.length+1) [] (ua l V k.cr z k.way.dropLast):=zH ok _ _ _ _ (YU.wy.2 z (iY hz)) λx hx=>YU.wy.2 x (iZ _ hx);have eo:=LL ok wf hk ro.e;generalize ua l V k.cr z k.way.dropLast=R at eo;obtain⟨e,st⟩:=R;have e1:(qP (qP V (rK i Db st)) (uq i st e)).ps=V.ps:=(Ez λx hx=>(Jk x hx).2).trans (Ez λx hx=>(zV i st Db x hx).2);rw[rT,rT];refine(RW (λz hz ht=>?_) eo).trans (eK List.length e1);rw[e1];exact wf.nx z hz ht
theorem Jb(ok:rP l):∀(is:T0 Nat) {V:qz},WF l V->(qP V (qU l is V)).ps.length=V.ps.length
 | [],V,_=>by unfold qU;rfl
 | i::r,V,wf=>by
  unfold qU;rw[rT];refine(Jb ok r (IZ ok wf)).trans ?_;have d:=Iz (V:=V) (i:=i) ok;generalize wg l V i=fs at d;cases d with
  | no=>rfl
  | on c k r b x y n hc hs hk hw hy=>rw[AF hk,rT];exact RB ok (E5 wf hc hs hy) (FM hc)
def UK{V:qz}{e:tZ}(ok:rP l)(wf:WF l V)(f:e.nL)(h:xB l V e=Db):(qP V (sZ l V e)).ps.length=V.ps.length:=by
 cases e with
 | call y z=>obtain⟨h1,h2,h3,h4⟩:=FZ h;obtain⟨k,hk⟩:=Nj (V:=V) (y:=y) (z:=z);show(qP V (_++uz l _ _)).ps.length=_;rw[rT];exact RB ok (HN wf h1 h2 h3 h4) hk
 | turn=>exact Jb ok _ (Fw wf)
 | sw b i=>rfl
 | num w x ns=>
  refine eK List.length (Ez λev hev=>?_);obtain⟨_,n⟩:=HF f h;cases n with
  | answer i c hi hc h1 h2 h3=>rw[dg.mp (show ev∈[Du V "answer" x i.toNat]from hev),zM hc];trivial
  | hang i c hi hc h1=>
   have hev:ev∈vo V x i.toNat:=hev;unfold vo at hev;rw[hc]at hev;dsimp only[Option.elim]at hev;split at hev
   .rw[dg.mp hev];trivial
   split at hev
   .rcases de.mp hev with rfl|hev
    .trivial
    split at hev
    .rw[dg.mp hev];trivial
    .cases hev
   split at hev
   .rw[dg.mp hev];trivial
   .rw[dg.mp hev];trivial
  | hold i c hi hc h1=>rw[dg.mp (show ev∈[Du V "hold" x i.toNat]from hev),zM hc];trivial
  | back i c hi hc h1 h2=>rw[dg.mp (show ev∈[Du V "back" x i.toNat]from hev),zM hc];trivial
  | two _ i j c d hi hj hw hc hd h1 h2=>rw[dg.mp (show ev∈[CD V w x i.toNat j.toNat]from hev),Iw hc hd];trivial
theorem Aw(n:Nat):∀ss:QQQ,(ss.map D.str).all (sr n)=pc
 | []=>rfl
 | s::r=>by rw[dU,eX,Aw n r];cases n<;>rfl
theorem DW(n:Nat):∀ss:T0 Nat,(ss.map λi=>D.int (i:Nat)).all (sr n)=pc
 | []=>rfl
 | s::r=>by rw[dU,eX,DW n r];cases n<;>rfl
theorem G6(n:Nat):∀ss:T0 Bool,(ss.map D.bl).all (sr n)=pc
 | []=>rfl
 | s::r=>by rw[dU,eX,G6 n r];cases n<;>rfl
def QO(e:Ev):sr 6 e.d=pc:=by
 have t:∀ss:QQQ,sr 5 (names ss)=pc:=λss=>Aw 4 ss;have u:∀ss:T0 Nat,sr 5 (wA ss)=pc:=λss=>DW 4 ss;cases e with
 | asks i z ns=>show([D.str "asks",.int (i:Nat),.str z,wA ns].all (sr 5))=pc;simp only[eX,u];rfl
 | merge i j ms=>show([D.str "merge",.int (i:Nat),.int (j:Nat),names ms].all (sr 5))=pc;simp only[eX,t];rfl
 | rings i ps=>show([D.str "rings",.int (i:Nat),names ps].all (sr 5))=pc;simp only[eX,t];rfl
 | talks i ps=>show([D.str "talks",.int (i:Nat),names ps].all (sr 5))=pc;simp only[eX,t];rfl
 | _=>rfl
def MR{n:Nat}(V:qz):sr (n+4) (Vg V)=pc:=by
 have c1:∀c∈V.calls,sr (n+2) (Bu c)=pc:=λc hc=>by
  have h0:∀o:Option Str,sr (n+1) (Dd o)=pc:=λo=>by cases o<;>rfl
  have t:∀ss:QQQ,sr (n+1) (.tup (ss.map D.str))=pc:=λss=>Aw n ss;show([D.str c.st,.str c.cr,.tup (c.way.map D.str),.tup (c.at_.map D.str),.tup (c.ms.map D.str),Dd c.hd,.int c.si,Dd c.wd].all (sr (n+1)))=pc;simp only[eX,t,h0];rfl
 have c2:sr (n+3) (.tup (V.calls.map Bu))=pc:=by show(V.calls.map Bu).all (sr (n+2))=pc;rw[jL,eD];exact c1
 have c3:sr (n+3) (.tup ((tz V.ps).map L3.xM))=pc:=by show((tz V.ps).map L3.xM).all (sr (n+2))=pc;rw[jL,eD];exact λx _=>rfl
 have c4:sr (n+3) (.tup (V.on.map D.bl))=pc:=G6 (n+2) _;show([D.int V.t,.tup (V.calls.map Bu),.tup ((tz V.ps).map L3.xM),.tup (V.on.map D.bl)].all (sr (n+3)))=pc;simp only[eX,c2,c3,c4];rfl
noncomputable def Bz(c:pM):QQQ:=if (c.st=="talks"||c.st=="held")=pc then c.ms else c.cr::c.at_
def K'(a:Ad):rH:=λds M Q=>C9 λL k c=>ds=[.ref (rN.p k)]/\sf a M L k c/\c.at_.length<=100/\∀r M',qF M M'->pA M' r=Fa ((Bz c).map D.str)->Q (.ref r) M'
def Nr(V:qz)(YX:QQQ):T0 Nat:=(List.range V.calls.length).filter λi=>(V.calls[i]?).elim lf λc=>hasS YX c.st
def Ph(a:Ad):rH:=λds M Q=>Cg λA V l YX=>ds=[.ref A.b,.tup (List.map D.str YX)]/\Rd a M A V l/\∀r M',qF M M'->pA M' r=Fa ((Nr V YX).map λn=>D.int (n:Nat))->Q (.ref r) M'
def S'(V:qz)(YX:QQQ):D->Bool
 | .int n=>(V.calls[n.toNat]?).elim lf λc=>hasS YX c.st
 | _=>lf
def K3:Fq P w K mg base 1 a.bp (K' a):=by
 refine fq G.bp.toDG DD (λr u=>⟨_,(pH (qc (W3.b3 (xx (pS u (pN v0) pL) (we (pS u (pN v0) pL))))
 (pJ (pO (qx um Z' G.z uu (qA (pN v0)))))
 pU)
 (pJ (pO (qm (rq (qA (pN v0))) (qx um Z' G.z uu (qA (pN v0))))))),?_⟩)
 rintro ds M Q ⟨L,k,c,rfl,⟨ad,md,h1,h2,h3,h4,_⟩,ha,q⟩
 have hz:=dI;unfold Bz at q;refine pI h1 (pG Z' (qS (c:=c.st=="talks") (λg=>?_) (λg=>?_)))
 .rw[g,g9,c9 Z']at q;exact pI h1 (pG Z' (pG h4 λr hr=>⟨_,.refl,q r _ (.new hr) pQ⟩))
 rw[dJ.mpr g,fM]at q;refine pI h1 (pG Z' (qS (c:=c.st=="held") (λg=>?_) (λg=>?_)))
 .rw[c9 g]at q;exact pI h1 (pG Z' (pG h4 λr hr=>⟨_,.refl,q r _ (.new hr) pQ⟩))
 rw[cY g]at q;refine pI h1 (pG Z' ⟨pE Z',λr1 YA=>?_⟩);have t1:=qF.new (c:=.lst [D.str c.cr]) YA;have l1:=@pQ M r1 [D.str c.cr];show Ag (pP M r1 (.lst [D.str c.cr]) k.p) _;generalize pP M r1 (.lst [D.str c.cr])=M1 at t1 l1 ⊢;refine pI (t1 _ _ h1) (pG Z' (pG (t1.lst h3) λr2 hr2=>?_));have t2:=qF.new (c:=.lst (c.at_.map D.str)) hr2;refine pG (t2.lst l1) (pG pQ ⟨?_,λr3 ZL=>⟨_,.refl,q r3 _ (t1.trans (t2.trans (.new ZL))) pQ⟩⟩);rw[cT];show 1+c.at_.length<=Ch;omega
def P5:Fq P w K mg base 1 a.bq (Ph a):=by
 refine fq G.bq.toDG Br (λr u=>⟨_,(pJ (pO (qO Z' (xD (ix:=[Db,Fa 0,Fa 1]) (N':=["_law_k","_law_board","_law_states"])) (wJ Z' G.aP (qA (qe qM Z' G.g qL (qA (pN v0))))) (qN 0) (vE (pS u (pN (pW (pN U1) v0)) U2)) v0))),?_⟩)
 rintro ds M Q ⟨A,V,l,YX,rfl,rd,q⟩
 have hz:=dI;have lc:((A.cs.map λk=>D.ref k.p).length:Int)=(V.calls.length:Nat):=by rw[cT,rd.bd.len]
 have hb:=rd.k;refine pI rd.bd.at_ (pG Z' (pG rd.bd.ca ?_));rw[lc];refine⟨Z',⟨by omega,by omega⟩,?_⟩;refine tK (f:=id) (t:=S' V YX) trivial _ [] _ (by rw[cT,eE];simp only[dH];omega) (λd hd k hk=>?_) (λd hd _ k hk=>?_) λr hr=>?_
 .obtain⟨i,hi,rfl⟩:=dB.mp hd;rw[gf]at hi;have hi:i<V.calls.length:=by omega
  obtain⟨k',ek,⟨ad,md,h1,_⟩⟩:=rd.call (cV hi);have ea:wQ (A.cs.map λk=>D.ref k.p) (0+(i:Nat))=Fa (.ref k'.p):=by rw[mG];exact rG ek
  refine pI rd.bd.at_ (pG Z' (pG Z' (pG rd.bd.ca (pG ea (pI h1 (pG Z' (pG Z' ⟨Z',qH _,?_⟩)))))));show k (inD (.str V.calls[i].st) (YX.map D.str)) M;rw[sT];have e1:S' V YX (.int (0+(i:Nat)))=hasS YX V.calls[i].st:=by show(V.calls[(0+(i:Int)).toNat]?).elim lf _=_;rw[show(0+(i:Int)).toNat=i by omega,cV hi];rfl
  show k (hasS YX V.calls[i].st) M;rw[<-e1];exact hk
 .exact hk
 .refine⟨_,.refl,q r _ (.new hr) (pQ.trans (eK Fa ?_))⟩;rw[dX,iG,gC,show(((V.calls.length:Nat):Int)).toNat=V.calls.length from rfl];unfold Nr;have e1:(S' V YX∘λi:Nat=>D.int (0+(i:Nat)))=λi=>(V.calls[i]?).elim lf λc=>hasS YX c.st:=funext λi=>by show(V.calls[(0+(i:Int)).toNat]?).elim lf _=_;rw[show(0+(i:Int)).toNat=i by omega]
  rw[e1];exact gv λi _=>by rw[mG]
noncomputable def Hc:Str->QQQ:=λw=>if (w=="answer")=pc then["rings","waits"]else if (w=="hold")=pc then["talks"]else if (w=="hang")=pc then["rings","waits","talks","held"]else["held"]
def SU(w:Str):Prop:=w="answer"\/w="hang"\/w="hold"\/w="back"\/w="hand"\/w="join"
def KW(a:Ad):rH:=λds M Q=>HA λA V l c w=>ds=[.ref A.b,.int c,.str w,.tup ((Hc w).map D.str)]/\Rd a M A V l/\WF l V/\(∀k∈V.calls,k.at_.length<=100)/\SU w/\∀M',qF M M'->Q .mS M'/\∀e:tZ,e.nL->Q e.d M'
def Tx{n:Nat}{a b:Uf}{ds:T0 D}(ha:pA M a=Fa ds)(hb:pA M b=Fa []):za M (n+1) (.ref a) (.ref b)=Fa ds.isEmpty:=by
 show(pA M a).bind (λi=>(pA M b).bind λj=>if i.length=j.length then tw (za M n) i j else Fa lf)=_;rw[ha,hb];cases ds with
 | nil=>rfl
 | cons x r=>rfl
def uY{α:Type}(f:α->D){xs:List α}(h:xs≠[])(c k:Int):(0:Int)<((xs.map f).length:Nat)/\∃x∈xs,wQ (xs.map f) (draw c k ((xs.map f).length:Nat))=Fa (f x):=by
 have hp:(0:Int)<((xs.map f).length:Nat):=by have:=fA.mpr h;rw[cT];omega
 have d0:=rh (c:=c) (f:=k) hp;have d1:=qX (c:=c) (f:=k) hp;obtain⟨n,e⟩:=eC d0;rw[e]at d1 ⊢;have hn:n<xs.length:=by rw[cT]at d1;omega
 exact⟨hp,xs[n],ia hn,vq (by rw[dD,cV hn];rfl)⟩
def SK{V:qz}{i:Nat}(h:i∈Nr V YX):∃c,V.calls[i]?=Fa c/\c.st∈YX:=by
 have h:=(fC.mp h).2;cases e:V.calls[i]? with
 | none=>rw[e]at h;cases h
 | some c=>rw[e]at h;exact⟨c,Z',ra.mp h⟩
def Ek{c:pM}(k:wm l lf c)(h:c.st≠"over"):Bz c≠[]:=by
 unfold Bz;split
 .rename_i g;rcases k.sh with z|⟨_,z|z|⟨_,z⟩|z⟩
  .rw[z.1]at g;exact absurd g (by decide)
  .rw[z.1]at g;exact absurd g (by decide)
  .intro y;rw[y]at z;rcases z.2.1 with u|u<;>cases u
  .intro y;rw[y]at z;cases z.2.1
  .exact absurd z.1 h
 .exact fz _ _
def Uw{c:pM}(k:wm l lf c)(h:c.st∈Hc "answer"):c.at_≠[]:=by
 have h:c.st="rings"\/c.st="waits":=by
  rcases de.mp h with g|g
  .exact .inl g
  .exact .inr (dg.mp g)
 rcases k.sh with z|⟨_,z|z|⟨_,z⟩|z⟩
 .exact z.2.2.2.2.2 Z'
 .intro y;rw[y]at z;cases z.2.2.2.2
 all_goals(rw[z.1]at h;exact absurd h (by decide))
def J3{c:pM}(k:wm l lf c)(h:c.st="held"):∃x,c.hd=Fa x:=by
 rcases k.sh with z|⟨_,z|z|⟨x,z⟩|z⟩
 .rw[h]at z;exact absurd z.1 (by decide)
 .rw[h]at z;exact absurd z.1 (by decide)
 .rw[h]at z;exact absurd z.1 (by decide)
 .exact⟨x,z.2.2.1⟩
 .rw[h]at z;exact absurd z.1 (by decide)
def KM:Fq P w K mg base 4 a.br (KW a):=by
 refine fq G.br.toDG rO (λr u=>⟨_,(pH (pX 4 rO (pT (P5 G) r G.bq (sE v0 U3)))
 (pH (qc (pS u v4 (rq tL))
 (pJ (pO sD))
 pU)
 (pH (pX 5 rO (pW v4 (pT (qT G) r G.i (rF U1 pK (qe qM Z' G.g qL (qA v4))))))
 (pH (pX 6 rO (pT (K3 G) r G.bp (qA (pW (pN v0) v5))))
 (pH (qc (pS u U2 pL)
 (pJ (pX 6 rO (qx um Z' G.z uu (qA (pN (pW (pN v0) v5))))))
 pU)
 (pH (qc (W3.b3 (xx (pS u U2 pL) (xx (pS u U2 pL) (we (pS u U2 pL)))))
 (pJ (pX 6 rO (rq (qA (pN (pW (pN v0) v5))))))
 pU)
 (pH (pX 7 rO (pW v6 (pT (qT G) r G.i (rF U1 pK (qe qM Z' G.g qL (qA v6))))))
 (pH (qc (W3.b3 (xx (pS u U2 pL) (we (pS u U2 pL))))
 (pH (pX 8 rO (ql v0 G.c.toCls G.S (yY G) r (qA v7)))
 (pJ (pO (pY (qp U2 (rF v7 v5 (Nh (pS u v8 sD) pK v8)))))))
 pU)
 (pJ (pO (pY (rF U2 v7 v5)))))))))))),?_⟩)
 rintro ds M Q ⟨A,V,l,c,wd,rfl,rd,wf,ha,ho,q⟩
 have hz:=dI;refine⟨A,V,l,Hc wd,Z',rd,λr M1 s1 lr=>?_⟩;refine⟨pE Z',λr0 hr0=>?_⟩;have t2:=qF.new (c:=.lst []) hr0;have Zs:=t2.lst lr;refine pG (Tx Zs pQ) ?_;have s2:=s1.trans t2;generalize pP M1 r0 (.lst [])=M2 at s2 Zs ⊢;clear t2 lr hr0 s1;refine qS (c:=((Nr V (Hc wd)).map λn=>D.int (n:Nat)).isEmpty) (λ_=>⟨M2,.refl,(q M2 s2).1⟩) (λg=>?_);have gne:Nr V (Hc wd)≠[]:=λz=>g (by rw[z];rfl);obtain⟨hp,i,hi,ei⟩:=uY (λn:Nat=>D.int (n:Nat)) gne c 40692;obtain⟨cv,hc,hs⟩:=SK hi;have ZZ:=rd.sub s2;obtain⟨k,ek,ca⟩:=ZZ.call hc;have ca0:=ca;obtain⟨ad,md,h1,h2,h3,h4,_⟩:=ca0;have YU:=wf.ok i cv hc;refine pG Zs ⟨c,_,_,Z',hp,pG Zs (pG ei ?_)⟩;refine pI ZZ.bd.at_ (pG Z' (pG Z' (pG ZZ.bd.ca (pG (rG ek) ?_))));refine⟨_,k,cv,Z',ca,ha cv (qW hc),λr3 M3 s3 lr3=>?_⟩;have Yz:=s3 _ _ h1;have q3:=λM' (s:qF M3 M')=>q M' (s2.trans (s3.trans s));have rd3:=ZZ.sub s3;have h3':=s3.lst h3;clear q Zs s2 h1 h2 h3 h4 ca;rcases ho with rfl|rfl|rfl|rfl|rfl|rfl
 .
  refine pI rd3.bd.at_ (pG Z' (pG Z' (pG rd3.bd.ca (pG (rG ek) (pI Yz (pG Z' (pG h3' λr4 hr4=>?_)))))));obtain⟨X4,x,hx,ex⟩:=uY D.str (Uw YU hs) c 742938285;refine pG pQ ⟨c,_,_,Z',X4,pG pQ (pG ex ?_)⟩;exact⟨pE Z',_,.refl,(q3 _ (.new hr4)).2 (.num "answer" x [(i:Nat)]) (.inl ⟨.inl Z',Z'⟩)⟩
 .
  obtain⟨X4,x,hx,ex⟩:=uY D.str (Ek YU (λz=>by rw[z]at hs;exact absurd hs (by decide))) c 742938285;refine pG lr3 ⟨c,_,_,Z',X4,pG lr3 (pG ex ?_)⟩;exact⟨pE Z',_,.refl,(q3 _ .refl).2 (.num "hang" x [(i:Nat)]) (.inl ⟨.inr (.inl Z'),Z'⟩)⟩
 .
  obtain⟨X4,x,hx,ex⟩:=uY D.str (Ek YU (λz=>by rw[z]at hs;exact absurd hs (by decide))) c 742938285;refine pG lr3 ⟨c,_,_,Z',X4,pG lr3 (pG ex ?_)⟩;exact⟨pE Z',_,.refl,(q3 _ .refl).2 (.num "hold" x [(i:Nat)]) (.inl ⟨.inr (.inr (.inl Z')),Z'⟩)⟩
 .
  obtain⟨y,hy⟩:=J3 YU (dg.mp hs);refine pI rd3.bd.at_ (pG Z' (pG Z' (pG rd3.bd.ca (pG (rG ek) (pI Yz (pG Z' ⟨pE Z',λr4 hr4=>?_⟩))))));rw[show Dd cv.hd=.str y by rw[hy];rfl];obtain⟨X4,x,hx,ex⟩:=uY D.str (fz y []) c 742938285;refine pG pQ ⟨c,_,_,Z',X4,pG pQ (pG ex ?_)⟩;exact⟨pE Z',_,.refl,(q3 _ (.new hr4)).2 (.num "back" x [(i:Nat)]) (.inl ⟨.inr (.inr (.inr Z')),Z'⟩)⟩
 all_goals
  obtain⟨y,hy⟩:=J3 YU (dg.mp hs);refine pI rd3.bd.at_ (pG Z' (pG Z' (pG rd3.bd.ca (pG (rG ek) (pI Yz (pG Z' ⟨pE Z',λr4 hr4=>?_⟩))))));rw[show Dd cv.hd=.str y by rw[hy];rfl];obtain⟨X4,x,hx,ex⟩:=uY D.str (fz y []) c 742938285;refine pG pQ ⟨c,_,_,Z',X4,pG pQ (pG ex ?_)⟩;have t4:=qF.new (c:=.lst [D.str y]) hr4;refine pI (t4 _ _ rd3.bd.at_) ⟨Z',_,⟨Z',Z'⟩,A,V,x,Z',rd3.bd.sub t4,rd3.k,?_⟩;unfold AY;cases vT V x with
  | none=>first|exact⟨pE Z',_,.refl,(q3 _ t4).2 (.num "hand" x [(i:Nat),(0:Nat)]) (.inr ⟨.inl Z',Z'⟩)⟩|exact⟨pE Z',_,.refl,(q3 _ t4).2 (.num "join" x [(i:Nat),(0:Nat)]) (.inr ⟨.inr Z',Z'⟩)⟩
  | some j=>first|exact⟨pE Z',_,.refl,(q3 _ t4).2 (.num "hand" x [(i:Nat),(j:Nat)]) (.inr ⟨.inl Z',Z'⟩)⟩|exact⟨pE Z',_,.refl,(q3 _ t4).2 (.num "join" x [(i:Nat),(j:Nat)]) (.inr ⟨.inr Z',Z'⟩)⟩
def JB:rH:=λds M Q=>Kt λc o n own nm m=>ds=[.int c,.ref o,.ref n,.int ((m:Nat):Int)]/\pA M o=Fa (List.map D.str own)/\pA M n=Fa (List.map D.str nm)/\own.length<=100/\nm.length<=100/\m<=1000000/\∀M' (e:tZ),qF M M'->e.nL->Q e.d M'
def L'(a:Ad):rH:=λds M Q=>T9 λA V l c o n own nm=>ds=[.ref A.b,.int c,.ref o,.ref n]/\Rd a M A V l/\WF l V/\(∀k∈V.calls,k.at_.length<=100)/\pA M o=Fa (List.map D.str own)/\pA M n=Fa (List.map D.str nm)/\own≠[]/\nm≠[]/\own.length<=100/\nm.length<=100/\∀M' (e:tZ),qF M M'->e.nL->Q e.d M'
def Jp{α:Type}(f:α->D){xs:List α}(h:xs≠[]){m:Int}(hm:m=(xs.length:Nat))(c k:Int):(0:Int)<m/\∃x∈xs,wQ (xs.map f) (draw c k m)=Fa (f x):=by have:=uY f h c k;rw[cT,<-hm]at this;exact this
def PZ{α:Type}(xs:List α)(x:α):xs++[x]≠[]:=by simp
noncomputable def Iv:QQQ:=["call","call","call","call","call","answer","answer","answer","answer","answer","hang","hang","hold","hold","hold","back","hand","join","turn","turn","turn"]
theorem Ea(d:D):∀n:Nat,(List.replicate n [d]).flatten=List.replicate n d
 | 0=>rfl
 | n+1=>by rw[eG,fO,Ea d n,eG];rfl
noncomputable def zz:Str:="zzzzzz"
noncomputable def LH(a b:Str)(k m:Int):List tZ:=[.call a b,.num "answer" a [k],.num "hang" a [k],.num "hold" a [k],.num "back" a [k],.num "hand" a [k,m],.num "join" a [k,m],.turn,.sw pc k,.sw lf k]
def NU{a b:Str}{k m:Int}{e:tZ}(h:e∈LH a b k m):e.nL:=by
 unfold LH at h;simp only[de,dA,eL]at h;rcases h with rfl|rfl|rfl|rfl|rfl|rfl|rfl|rfl|rfl|rfl
 .trivial
 .exact .inl ⟨.inl Z',Z'⟩
 .exact .inl ⟨.inr (.inl Z'),Z'⟩
 .exact .inl ⟨.inr (.inr (.inl Z')),Z'⟩
 .exact .inl ⟨.inr (.inr (.inr Z')),Z'⟩
 .exact .inr ⟨.inl Z',Z'⟩
 .exact .inr ⟨.inr Z',Z'⟩
 .trivial
 .trivial
 .trivial
def OO:Fq P w K mg base 2 a.bs JB:=by
 refine fq G.bs.toDG uW (λr u=>⟨_,(pH (pX 4 uW (pW (qm U2 (rq (qA pL))) (pT (qT G) r G.i (rF v0 pK (qm (qe qM Z' G.g qL (qA U2)) pK)))))
 (pH (pX 5 uW (pW (qm U2 (rq (qA pL))) (pT (qT G) r G.i (rF v0 pK (qm (qe qM Z' G.g qL (qA U2)) pK)))))
 (pH (pX 6 uW (qm (pT (qT G) r G.i (rF v0 pK (qm U3 pK))) pK))
 (pH (pX 7 uW (qm (pT (qT G) r G.i (rF v0 pK (qm U3 pK))) pK))
 (pH (pX 8 uW (rq (qp (pY (rF pL v4 v5)) (qp (pY (rF pL v4 v6)) (qp (pY (rF pL v4 v6)) (rF (pY (rF pL v4 v6)) (pY (rF pL v4 v6)) (pY (qp pL (rF v4 v6 v7)))))))))
 (pJ (pO (pW (qm v8 (rq (qp (pY (qp pL (rF v4 v6 v7))) (rF (pY (qA pL)) (pY (sE pL v6)) (pY (sE pL v6)))))) (pT (qT G) r G.i (rF v0 pK pK)))))))))),?_⟩)
 rintro ds M Q ⟨c,o,n,own,nm,m,rfl,ho,hn,ol,nl,ml,q⟩
 have hz:=dI;have add:∀{M1:Mp} {p:Uf} {xs:QQQ} (f:Int) (nx:DK),qF M M1->pA M1 p=Fa (xs.map D.str)->xs.length<=100->(∀x M',qF M M'->nx (.str x) M')->∀r1,M1 r1=Db->(pA (pP M1 r1 (.lst [D.str zz])) p).elim False λi=>(pA (pP M1 r1 (.lst [D.str zz])) r1).elim False λj=>i.length+j.length<=Ch/\∀r2,pP M1 r1 (.lst [D.str zz]) r2=Db->(pA (pP (pP M1 r1 (.lst [D.str zz])) r2 (.lst (i++j))) p).elim False λys=>JA [.int c,.int f,.int ((ys.length:Nat)+1)] (pP (pP M1 r1 (.lst [D.str zz])) r2 (.lst (i++j))) λy M2=>match y with
  | .int n=>(pA M2 r2).elim False λzs=>(wQ zs n).elim False λd=>nx d M2
  | _=>False:=λ{M1 p xs} f nx s hx lx X7 r1 YA=>by
  have t1:=qF.new (c:=.lst [D.str zz]) YA;refine pG (t1.lst hx) (pG pQ ⟨by rw[cT];show xs.length+1<=Ch;omega,λr2 hr2=>?_⟩);have t2:=qF.new (c:=.lst (xs.map D.str++[D.str zz])) hr2;obtain⟨hp,x,_,ex⟩:=Jp D.str (PZ xs zz) (m:=((xs.map D.str).length:Nat)+1) (by rw[cT,cW];rfl) c f;rw[dM]at ex;exact pG ((t1.trans t2).lst hx) ⟨c,f,_,Z',hp,pG pQ (pG ex (X7 x _ (s.trans (t1.trans t2))))⟩
 refine⟨pE Z',add 16807 _ .refl hn nl λx M1 s1=>⟨pE Z',add 39373 _ s1 (s1.lst hn) nl λy M2 s2=>?_⟩⟩;refine⟨c,_,_,Z',by show(0:Int)<(m:Nat)+2;omega,⟨c,_,_,Z',by show(0:Int)<(m:Nat)+2;omega,?_⟩⟩;generalize draw c 69621 ((m:Nat)+2) - 1=k0;refine⟨pE Z',pE Z',pE Z',pE Z',pE Z',pE Z',pE Z',λr8 hr8=>⟨pE Z',pE Z',pE Z',pE Z',pE Z',λr9 hr9=>?_⟩⟩;have t8:=qF.new (c:=.lst (((LH x y k0 (draw c 22695477 ((m:Nat)+2) - 1)).take 6).map tZ.d)) hr8;have t9:=qF.new (c:=.lst (((LH x y k0 (draw c 22695477 ((m:Nat)+2) - 1)).drop 6).map tZ.d)) hr9;refine pG (t9.lst pQ) (pG pQ ⟨by show 6+4<=Ch;omega,λr10 hr10=>?_⟩);obtain⟨hp,e,he,ee⟩:=Jp tZ.d (xs:=LH x y k0 (draw c 22695477 ((m:Nat)+2) - 1)) (fz _ _) (m:=10) Z' c 1664525;exact⟨c,_,_,Z',hp,pG pQ (pG ee ⟨_,.refl,q _ e (s2.trans (t8.trans (t9.trans (.new hr10)))) (NU he)⟩)⟩
def Ou:Fq P w K mg base 5 a.bt (L' a):=by
 refine fq G.bt.toDG rR (λr u=>⟨_,(pH (pX 4 rR (qm (qm (qm (qm (qm (B6 (rq (qA pL)) pK) (B6 (rq (qA pL)) pK)) (B6 (rq (qA pL)) pK)) (B6 (rq (qA pL)) pK)) (rq (rF pL pL pL))) (B6 (rq (qA pL)) pK)))
 (pH (pX 4 rR (pW v4 (pT (qT G) r G.i (rF U1 pK (qe qM Z' G.g qL (qA v4))))))
 (pH (pX 5 rR (pY (qp pL (rF pL pL pL))))
 (pH (qc (pS u v4 pL)
 (pJ (pX 5 rR (pY (sE pL pL))))
 pU)
 (pH (qc (pS u v4 pL)
 (pJ (pX 5 rR (pY (qA pL))))
 pU)
 (pH (qc (W3.b3 (xx (pS u v4 pL) (xx (pS u v4 pL) (we (pS u v4 pL)))))
 (pJ (pX 5 rR (pY (qA pL))))
 pU)
 (pH (qc (pS u v4 pL)
 (pJ (pO (pY (qA pL))))
 pU)
 (pH (qc (pS u (pT (qT G) r G.i (rF U1 pK pK)) pK)
 (pJ (pO (pT (OO G) r G.bs (qp U1 (rF U2 U3 (qe qM Z' G.g qL (qA (pN v0))))))))
 pU)
 (pH (pX 6 rR sD)
 (pH (qc (pS u v4 pL)
 (pJ (pX 6 rR (pT (KM G) r G.br (qp v0 (rF U1 v4 v5)))))
 pU)
 (pH (qc (pS u v6 sD)
 (pH (pX 7 rR (pW U2 (pT (qT G) r G.i (rF U1 pK (qe qM Z' G.g qL (qA U2))))))
 (pJ (pX 6 rR (pY (rF pL v7 (pW U3 (pT (qT G) r G.i (rF U1 pK (qe qM Z' G.g qL (qA U3))))))))))
 pU)
 (pJ (pO v6))))))))))))),?_⟩)
 rintro ds M Q ⟨A,V,l,c,o,n,own,nm,rfl,rd,wf,ha,ho,hn,one,nne,ol,nl,q⟩
 have hz:=dI;refine SN (t:=GS _ _) (λU M'=>qF M M'/\∃r,pA M' r=Fa (Iv.map D.str)/\U=[Fa (.ref A.b),Fa (.int c),Fa (.ref o),Fa (.ref n),Fa (.ref r),Db,Db,Db]) (λnx h=>?_) ?_
 .have ZP:∀{N:Mp} {U:vt} (w0:Str) (m:Int) (nx:DK),qF M N->(0<=m/\m<=10)->(∀r N',qF M N'->qF N N'->pA N' r=Fa ((List.replicate m.toNat w0).map D.str)->nx (.ref r) N')->VI (UE (vL (L3.c3 (.str w0)) x9)) (L3.c3 (.int m)) U N nx:=λ{N U} w0 m nx sn hm X7=>by refine⟨pE Z',λr1 YA=>?_⟩;refine pG pQ ⟨⟨by omega,by omega,by show 1<=1000;decide⟩,λr2 hr2=>?_⟩;have t:=(qF.new (c:=.lst [D.str w0]) YA).trans (qF.new (c:=.lst (List.replicate m.toNat [D.str w0]).flatten) hr2);refine X7 r2 _ (sn.trans t) t (pQ.trans (eK Fa ?_));rw[List.map_replicate];exact Ea _ _
  have YY:∀{N:Mp} {p r:Uf} {xs ys:QQQ} (nx:DK),qF M N->pA N p=Fa (xs.map D.str)->pA N r=Fa (ys.map D.str)->xs.length+ys.length<=100->(∀r N',qF M N'->pA N' r=Fa ((xs++ys).map D.str)->nx (.ref r) N')->VT .Add (.ref p) (.ref r) N nx:=λ{N p r xs ys} nx sn hx hy hl X7=>by refine pG hx (pG hy ⟨by rw[cT,cT];omega,λr2 hr2=>?_⟩);refine X7 r2 _ (sn.trans (.new hr2)) (pQ.trans (eK Fa ?_));rw[dM]
  dsimp only[GS,o3];refine ZP "call" 5 _ .refl (by decide) λp1 N1 s1 _ l1=>ZP "answer" 5 _ s1 (by decide) λq2 N2 s2 t2 l2=>YY _ s2 (t2.lst l1) l2 (by decide) λp2 N3 s3 l3=>ZP "hang" 2 _ s3 (by decide) λq4 N4 s4 t4 l4=>YY _ s4 (t4.lst l3) l4 (by decide) λp5 N5 s5 l5=>ZP "hold" 3 _ s5 (by decide) λq6 N6 s6 t6 l6=>YY _ s6 (t6.lst l5) l6 (by decide) λp7 N7 s7 l7=>⟨pE Z',λr8 hr8=>?_⟩;have t8:=qF.new (c:=.lst ((["back","hand","join"]:QQQ).map D.str)) hr8;exact YY (ys:=["back","hand","join"]) _ (s7.trans t8) (t8.lst l7) pQ (by decide) λp9 N9 s9 l9=>ZP "turn" 3 _ s9 (by decide) λq10 N10 s10 t10 l10=>YY _ s10 (t10.lst l9) l10 (by decide) λp11 N11 s11 l11=>h _ _ ⟨s11,p11,l11,Z'⟩
 rintro U M1 ⟨s1,r,lr,rfl⟩
 have s1n:=s1.lst hn;have s1o:=s1.lst ho;obtain⟨hp,w0,hw,ew⟩:=uY D.str (show Iv≠[]from fz _ _) c 48271;refine pG lr ⟨c,_,_,Z',hp,pG lr (pG ew ?_)⟩;obtain⟨Zd,x1,hx1,ex1⟩:=uY D.str one c 16807;obtain⟨X4,x2,hx2,ex2⟩:=uY D.str nne c 39373;have ZM:=rd.sub s1;have lc:((A.cs.map λk=>D.ref k.p).length:Int)=(V.calls.length:Nat):=by rw[cT,rd.bd.len]
 clear lr hp ew;have hw:w0="call"\/w0="turn"\/SU w0:=by unfold Iv at hw;simp only[de,dA,eL]at hw;unfold SU;rcases hw with h|h|h|h|h|h|h|h|h|h|h|h|h|h|h|h|h|h|h|h|h<;>simp[h]
 have XW:∀M' (e:tZ),qF M1 M'->e.nL->∃XX,qF XX M'/\Q e.d XX:=λM' e s f=>⟨M',.refl,q M' e (s1.trans s) f⟩;rcases hw with rfl|rfl|hw
 .refine⟨pE Z',c,_,_,Z',by decide,qS (c:=draw c 950706376 9==0) (λ_=>pI ZM.bd.at_ (pG Z' (pG ZM.bd.ca ?_))) (λ_=>?_)⟩
  .rw[lc];exact⟨c,o,n,own,nm,V.calls.length,Z',s1o,s1n,ol,nl,rd.k,XW⟩
  exact pG s1o ⟨c,_,_,Z',Zd,pG s1o (pG ex1 (pG s1n ⟨c,_,_,Z',X4,pG s1n (pG ex2 ⟨pE Z',XW M1 (.call x1 x2) .refl trivial⟩)⟩))⟩
 .exact⟨pE Z',pE Z',XW M1 .turn .refl trivial⟩
 have lany:JB [.int c,.ref o,.ref n,.int ((V.calls.length:Nat):Int)] M1 λd M'=>∃XX,qF XX M'/\Q d XX:=⟨c,o,n,own,nm,V.calls.length,Z',s1o,s1n,ol,nl,rd.k,XW⟩;have hw':=hw;rcases hw with rfl|rfl|rfl|rfl|rfl|rfl
 all_goals
  first
   | refine⟨pE rfl,pE rfl,c,_,_,rfl,by decide,qS (c:=draw c 950706376 9==0) (λ_=>pI ZM.bd.at_ (pG rfl (pG ZM.bd.ca ?_))) (λ_=>⟨A,V,l,c,_,rfl,ZM,wf,ha,hw',λM' s=>⟨?_,λe f=>?_⟩⟩)⟩
   | refine⟨pE rfl,c,_,_,rfl,by decide,qS (c:=draw c 950706376 9==0) (λ_=>pI ZM.bd.at_ (pG rfl (pG ZM.bd.ca ?_))) (λ_=>⟨A,V,l,c,_,rfl,ZM,wf,ha,hw',λM' s=>⟨?_,λe f=>?_⟩⟩)⟩
  .rw[lc];exact lany
  .exact pG (s.lst s1o) ⟨c,_,_,Z',Zd,pG (s.lst s1o) (pG ex1 (pG (s.lst s1n) ⟨c,_,_,Z',X4,pG (s.lst s1n) (pG ex2 ⟨pE Z',XW M' (.call x1 x2) s trivial⟩)⟩))⟩
  .cases e with
   | call y z=>exact XW M' (.call y z) s f
   | num v y ns=>exact XW M' (.num v y ns) s f
   | turn=>exact XW M' .turn s f
   | sw b i=>exact XW M' (.sw b i) s f
theorem I9:∀(n:Nat) (d:D),sr n d=pc->sr (n+1) d=pc
 | 0,d,h=>by
  cases d with
  | tup ds=>cases h
  | ref _=>cases h
  | ty _=>cases h
  | rl _=>cases h
  | _=>rfl
 | n+1,d,h=>by
  cases d with
  | tup ds=>exact eD.mpr λd hd=>I9 n d (eD.mp (show ds.all (sr n)=pc from h) d hd)
  | ref _=>cases h
  | ty _=>cases h
  | rl _=>cases h
  | _=>rfl
noncomputable def wD(A:tI)(M:Mp):Mp:=λx=>if x∈A.foot then Db else M x
def yx{A:tI}{x:Uf}{ds:T0 D}(h:pA M x=Fa ds)(n:x∉A.foot):pA (wD A M) x=Fa ds:=se (by unfold wD;rw[cY n];exact qk h)
structure Lp(a:Ad)(M0 N M:Mp)(b:Uf)(A:tI)(V:qz)(l:pR)(m:Nat):Prop where
 cu:uB a M0 M b A V l (1+m) (3+2200*m)
 wf:WF l V
 ps:V.ps.length<=3
 own:∀x c,N x=Fa c->M x=Fa c/\x∉A.foot
variable {N:Mp}{m:Nat}
def Lp.start{b p:Uf}{A:tI}(ok:rP l)(pl:sR a M0 p l)(hb:M0 b=Db)(eb:A.b=b)(kp:sQ b (pP M0 b (.ins a.c [])) M)(fr:∀x∈A.foot,x=b\/pP M0 b (.ins a.c []) x=Db)(bd:pV a M A (V0 p h l [])):uB a M0 M b A (V0 p h l []) l 1 3/\WF l (V0 p h l [])/\(V0 p h l []).ps.length<=3:=by
 have t:=qF.new (c:=.ins a.c []) hb;refine⟨⟨bd,pl,λx c e=>kp x c (Pe e hb) (t x c e),λx hx=>?_,eb,⟨eN _,eN _,eN _,An ok,λk hk=>by cases hk⟩,ok,cT ..⟩,Tq ok,An ok⟩;rcases fr x hx with z|z
 .rw[z];exact hb
 .exact t.none z
def HK{m:Int}(h2:2<=m)(h:m<=100):2<=(zB ns m).mP.length:=by have:=(wV (s:=cell ns 0) h2 h).2;show 2<=((List.range (rW (cell ns 0) m)).map _).length;rw[cT,eE];exact this
def Li(a:Ad):rH:=λds M Q=>C9 λA V l=>ds=[.ref (tI.b A)]/\Rd a M A V l/\∀M' r ro rn,qF M M'->M ro=Db->M rn=Db->pA M' r=Fa [.ref ro,.ref rn]->pA M' ro=Fa (l.pn.map D.str)->pA M' rn=Fa (l.nm.map D.str)->Q (.ref r) M'
def Kp:Fq P w K mg base 1 a.bu (Li a):=by
 refine fq G.bu.toDG zy (λr u=>⟨_,(pH (vD (i:=1) zy.nd Z' (Or.inl Z') Z' (xD (ix:=[Db]) (N':=["_law_phone"])) (qQ (pN (pN v0))) (qN 0) rY (pW v0 pK))
 (pJ (pO (rq (sE U1 (qm U1 (qO Z' (xD (ix:=[Db]) (N':=["_law_group"])) (qQ (pN (pN v0))) (qN 0) rY (pW v0 pK)))))))),?_⟩)
 rintro ds M Q ⟨A,V,l,rfl,rd,q⟩
 have hz:=dI;have p8:=rd.ok.p8;have g3:=rd.ok.g3;have pl:l.pn.length=l.mP.length:=cT ..;obtain⟨ph,gr,ws,Ze,pr,gd,rs,i1,i2,i3,_⟩:=rd.pl;refine pI rd.bd.at_ (pG Z' (pI i1 (pG Z' (pG i2 (rB (f:=Bm) i2 _ [] _ (by rw[cT];simp only[dH];omega) (λd hd k hk=>?_) λro hro=>?_)))))
 .obtain⟨x,_,rfl⟩:=dB.mp hd;exact hk
 rw[dX,wX];have t3:=qF.new (c:=.lst ((l.mP.map (·.1)).map D.str)) hro;have lo:pA (pP M ro (.lst ((l.mP.map (·.1)).map D.str))) ro=Fa (l.pn.map D.str):=pQ;show Ag (pP M ro (.lst ((l.mP.map (·.1)).map D.str)) A.b) _;generalize pP M ro (.lst ((l.mP.map (·.1)).map D.str))=M3 at lo t3 ⊢;refine pI (t3 _ _ rd.bd.at_) (pG Z' (pI (t3 _ _ i1) (pG Z' (pG (t3.lst i3) (rB (f:=Bm) (t3.lst i3) _ [] _ (by rw[cT];simp only[dH];omega) (λd hd k hk=>?_) λp hp=>?_)))))
 .obtain⟨x,_,rfl⟩:=dB.mp hd;exact hk
 rw[dX,wR];have t:=qF.new (c:=.lst ((l.groups.map (·.1)).map D.str)) hp;refine pG (t.lst lo) (pG pQ ⟨by rw[cT,cT,cT];omega,λrn hrn=>⟨pE Z',λr hr=>?_⟩⟩);have t2:=t.trans (.new (c:=.lst (l.pn.map D.str++(l.groups.map (·.1)).map D.str)) hrn);have t3':=t2.trans (.new (c:=.lst [D.ref ro,.ref rn]) hr);refine⟨_,.refl,q _ r ro rn (t3.trans t3') hro ((t3.trans t).none hrn) pQ (t3'.lst lo) ((qF.new hr).lst ?_)⟩;rw[pQ,<-dM];rfl
def UJ{V:qz}{p:Uf}{F:QXQ}(h:WF l V):WF l (V.at_ p F):=⟨h.ok,h.un,h.ln,h.wt,h.nx⟩
theorem Mb:∀(es:T0 Ev) (V:qz),(qP V es).fo=V.fo
 | [],_=>rfl
 | e::r,V=>(Mb r _).trans (Pz V e)
def Kb{x:Uf}{c:vd}(e:wD A M x=Fa c):M x=Fa c/\x∉A.foot:=by
 unfold wD at e;split at e
 .cases e
 .rename_i h;exact⟨e,h⟩
def Ay{A:tI}{M:Mp}{x:Uf}{c:vd}(e:M x=Fa c)(n:x∉A.foot):wD A M x=Fa c:=(cY n).trans e
def BI{A:tI}{x:Uf}(n:x∈A.foot):wD A M x=Db:=c9 n
def VE{p:Uf}{F F':QXQ}(bd:pV a M A (V0 p h l F))(hF:∀x∈F',∃c,M x=Fa c):pV a M A (V0 p h l F'):=
 ⟨bd.at_,bd.ca,bd.le,bd.nx,bd.on,bd.lo,bd.len,λi k c e1 e2=>by simp[V0]at e2,bd.nl,bd.np,hF⟩
def pV.oN{V:qz}(h:pV a M A V)(st:rb A1 M A2 M')(h1:∀x∈A1.foot,x∉A.foot)(h2:V.fo=A1.foot)(h3:∀x∈A2.foot,∃c,M' x=Fa c):pV a M' A (V.at_ V.p A2.foot):=by
 have b:=h.frame st h1 λx hx=>.inl (h2 ▸ hx);refine⟨b.at_,b.ca,b.le,b.nx,b.on,b.lo,b.len,λi k c e1 e2=>?_,b.nl,b.np,h3⟩;obtain⟨ad,md,g1,g2,g3,g4,g5,g6⟩:=h.cs i k c e1 e2;obtain⟨f1,f2,f3,f4,f5,f6,f7⟩:=A.mX;have no:∀{x:Uf} {ds:T0 D},x∉A.lists++V.fo->pA M x=Fa ds->pA M' x=Fa ds/\x∉A.lists++A2.foot:=λ{x ds} hx e=>by
  have n1:x∉A1.foot:=λz=>hx (eA _ (h2 ▸ z));refine⟨se (st.1 x _ n1 (qk e)),λz=>?_⟩;rcases dQ.mp z with z|z
  .exact hx (fg _ z)
  .rcases st.2.1 x z with y|y
   .exact n1 y
   .rw[qk e]at y;cases y
 have hf:∀x∈A.foot,∀c,M x=Fa c->M' x=Fa c:=λx hx c e=>st.1 x c (λz=>h1 x z hx) e;exact⟨ad,md,hf _ (f6 k (qW e1)) _ g1,se (hf _ (f7 k (qW e1)) _ (qk g2)),(no g5 g3).1,(no g6 g4).1,(no g5 g3).2,(no g6 g4).2⟩
structure Tw(a:Ad)(N M:Mp)(b:Uf)(A:tI)(V:qz)(l:pR)(c n:Nat)(b2:Uf)(A2:tI)(V2:qz)(l2:pR)(c2 n2:Nat):Prop where
 x:uB a N M b A V l c n
 y:uB a N M b2 A2 V2 l2 c2 n2
 f:V.fo=A2.foot
 g:V2.fo=A.foot
 ne:∀x∈A.foot,x∉A2.foot
variable {b2:Uf}{A2:tI}{V2:qz}{l2:pR}{c' n' c2 n2:Nat}
section
variable {c:Nat}
def Tw.swap(t:Tw a N M b A V l c n b2 A2 V2 l2 c2 n2):Tw a N M b2 A2 V2 l2 c2 n2 b A V l c n:=⟨t.y,t.x,t.g,t.f,λx h z=>t.ne x z h⟩
def Tw.sub(t:Tw a N M b A V l c n b2 A2 V2 l2 c2 n2)(s:qF M M'):Tw a N M' b A V l c n b2 A2 V2 l2 c2 n2:=⟨t.x.sub s,t.y.sub s,t.f,t.g,t.ne⟩
def Tw.one(t:Tw a N M b A V l c n b2 A2 V2 l2 c2 n2)(st:rb A M A' M')(cu:uB a N M' b A' V' l c' n')(hf:V'.fo=V.fo):Tw a N M' b A' V' l c' n' b2 A2 (V2.at_ V2.p A'.foot) l2 c2 n2:=by
 have dm:=cu.bd.oS.2;refine⟨cu,⟨t.y.bd.oN st t.ne t.g dm,t.y.oU,cu.s0,t.y.fr,t.y.b,⟨t.y.sz.lo,t.y.sz.le,t.y.sz.ca,t.y.sz.ps,t.y.sz.cs⟩,t.y.ok,t.y.on⟩,hf.trans t.f,Z',λx h z=>?_⟩;rcases st.2.1 x h with y|y
 .exact t.ne x y z
 .exact t.y.bd.nI y z
def Tw.mono(t:Tw a N M b A V l c n b2 A2 V2 l2 c2 n2){c3 n3 c4 n4:Nat}(h1:c<=c3)(h2:n<=n3)(h3:c2<=c4)(h4:n2<=n4):Tw a N M b A V l c3 n3 b2 A2 V2 l2 c4 n4:=⟨t.x.mono h1 h2,t.y.mono h3 h4,t.f,t.g,t.ne⟩
end
def pV.refo{V:qz}{F:QXQ}(h:pV a M A V)(s:qF M M')(hn:∀x∈F,M x=Db)(hF:∀x∈F,∃c,M' x=Fa c):pV a M' A (V.at_ V.p F):=by
 have b:=h.sub s;refine⟨b.at_,b.ca,b.le,b.nx,b.on,b.lo,b.len,λi k c e1 e2=>?_,b.nl,b.np,hF⟩;obtain⟨ad,md,g1,g2,g3,g4,g5,g6⟩:=h.cs i k c e1 e2;have no:∀{x:Uf} {ds:T0 D},x∉A.lists++V.fo->pA M x=Fa ds->x∉A.lists++F:=λ{x ds} hx e z=>by
  rcases dQ.mp z with z|z
  .exact hx (fg _ z)
  .have:=hn x z;rw[qk e]at this;cases this
 exact⟨ad,md,s _ _ g1,s.lst g2,s.lst g3,s.lst g4,no g5 g3,no g6 g4⟩
def Tw.join{M01 M1 M3 M02 M4 M2 M:Mp}{V V2:qz}{c n d k:Nat}(c1:uB a M01 M1 b A V l c n)(s1:qF M1 M3)(s2:qF M3 M02)(pf:∀N,(∀x c,M3 x=Db->M02 x=Fa c->N x=Fa c)->sR a N V2.p l2)(s4:qF M02 M4)(c2:uB a M4 M2 b2 A2 V2 l2 d k)(s3:qF M2 M)(hf:V2.fo=A.foot):Tw a (wD A2 (wD A M)) M b A (V.at_ V.p A2.foot) l c n b2 A2 V2 l2 d k:=by
 have d1:∀x∈A.foot,∃c,M3 x=Fa c:=λx hx=>by obtain⟨c,e⟩:=c1.bd.oS.2 x hx;exact⟨c,s1 x c e⟩
 have s24:=s2.trans s4;have ne:∀x∈A.foot,x∉A2.foot:=λx hx z=>by obtain⟨c,e⟩:=d1 x hx;have:=c2.fr x z;rw[s24 x c e]at this;cases this
 have s23:=c2.s0.trans s3;have s14:=s1.trans s24;have sM:=s14.trans s23;have k1:qF M01 (wD A2 (wD A M)):=λx c e=>by
  have e1:=c1.s0 x c e;refine Ay (Ay (sM x c e1) λz=>?_) λz=>?_
  .rw[c1.fr x z]at e;cases e
  .have:=c2.fr x z;rw[s14 _ _ e1]at this;cases this
 have k2:sR a (wD A2 (wD A M)) V2.p l2:=pf _ λx c e1 e2=>Ay (Ay (s23 x c (s4 x c e2)) λz=>by
  obtain⟨d,e⟩:=d1 x z;rw[e1]at e;cases e) λz=>by have:=c2.fr x z;rw[s4 x c e2]at this;cases this
 have k3:qF (wD A2 (wD A M)) M:=λx c e=>(Kb (Kb e).1).1;have d2:∀x∈A2.foot,∃c,M x=Fa c:=λx hx=>by obtain⟨c,e⟩:=c2.bd.oS.2 x hx;exact⟨c,s3 x c e⟩
 refine⟨⟨c1.bd.refo sM (λx hx=>s14.none (c2.fr x hx)) d2,c1.oU.sub k1,k3,λx hx=>?_,c1.b,⟨c1.sz.lo,c1.sz.le,c1.sz.ca,c1.sz.ps,c1.sz.cs⟩,c1.ok,c1.on⟩,⟨c2.bd.sub s3,k2,k3,λx hx=>BI hx,c2.b,c2.sz,c2.ok,c2.on⟩,Z',hf,ne⟩;by_cases z:x∈A2.foot
 .exact BI z
 .exact(cY z).trans (BI hx)
def Tw.start{M01 M1 M3 M02 M2 M:Mp}{b b2 p p2:Uf}(c1:uB a M01 M1 b A (V0 p h l []) l 1 3)(s1:qF M1 M3)(s2:qF M3 M02)(pf:∀N,(∀x c,M3 x=Db->M02 x=Fa c->N x=Fa c)->sR a N p2 l2)(c2:uB a M02 M2 b2 A2 (V0 p2 h l2 []) l2 1 3)(s3:qF M2 M):Tw a (wD A2 (wD A M)) M b A (V0 p h l A2.foot) l 1 3 b2 A2 (V0 p2 h l2 A.foot) l2 1 3:=
 Tw.join (V2:=V0 p2 h l2 A.foot) c1 s1 s2 pf .refl ⟨VE c2.bd (λx hx=>by
  obtain⟨c,e⟩:=c1.bd.oS.2 x hx;exact⟨c,c2.s0 x c (s2 x c (s1 x c e))⟩),c2.oU,c2.s0,c2.fr,c2.b,⟨c2.sz.lo,c2.sz.le,c2.sz.ca,c2.sz.ps,c2.sz.cs⟩,c2.ok,c2.on⟩ s3 Z'
noncomputable def pR.less(l:pR):pR:={l with mM:=l.mM.filter (·.1)}
noncomputable def Ev.less:Ev->Ev
 | .asks i z _=>.asks i z []
 | e=>e
def Ev.nY:Ev->Prop
 | .sw _ _=>False
 | _=>True
abbrev ve(es fs:T0 Ev):Prop:=es.map Ev.less=fs.map Ev.less
noncomputable def qz.re(V:qz)(p:Uf)(F:QXQ)(on:T0 Bool)(lg:T0 Ev):qz:={V with p:=p,fo:=F,on:=on,log:=lg}
def Qm{V:qz}{p:Uf}{F:QXQ}{on:T0 Bool}{lg:T0 Ev}{e f:Ev}(h:e.less=f.less)(ns:e.nY):qo (V.re p F on lg) f=(qo V e).re p F on (lg++[f]):=by
 cases e<;>cases f<;>first
  | (exact ns.elim)
  | (cases h;done)
  | rfl
  | (cases h;rfl)
theorem CZ{p:Uf}{F:QXQ}:∀{es fs:T0 Ev} {V:qz} {lg:T0 Ev},ve es fs->(∀e∈es,e.nY)->qP (V.re p F on lg) fs=(qP V es).re p F on (lg++fs)
 | [],[],V,lg,_,_=>by rw[eR];rfl
 | [],_::_,_,_,h,_=>by cases h
 | _::_,[],_,_,h,_=>by cases h
 | e::es,f::fs,V,lg,h,ns=>by have h1:e.less=f.less:=(fG h).1;have h2:ve es fs:=(fG h).2;show qP (qo (V.re p F on lg) f) fs=(qP (qo V e) es).re p F on (lg++f::fs);rw[Qm h1 (ns e dG),CZ h2 λx hx=>ns x (dC _ hx),e9];rfl
theorem Hr{α:Type}(q:α->Bool):∀ws:List α,((List.range ws.length).find? λi=>(ws[i]?).elim lf q).bind (ws[·]?)=ws.find? q
 | []=>rfl
 | w::r=>by
  rw[d6,j7,ft,ft];show(match q w with|true=>Fa 0|false=>_).bind _=_;cases hq:q w with
  | true=>rfl
  | false=>
   rw[<-Hr q r];dsimp only;rw[List.find?_map];cases e:(List.range r.length).find? λi=>(r[i]?).elim lf q with
   | none=>have:(List.range r.length).find? ((λi=>((w::r)[i]?).elim lf q)∘Nat.succ)=Db:=e;rw[this];rfl
   | some i=>have:(List.range r.length).find? ((λi=>((w::r)[i]?).elim lf q)∘Nat.succ)=Fa i:=e;rw[this];rfl
abbrev DN(l:pR)(V:qz):Prop:=V.on=l.mM.map (·.1)
def Ej(h:DN l V)(f:Wi->Bool):(xJ l V f).head?.bind (l.mM[·]?)=l.mM.find? λw=>w.1&&f w.2:=by
 rw[<-Hr];unfold xJ;rw[h,cT,List.head?_filter];congr 2;funext i;rw[fN,dD];cases l.mM[i]? with
 | none=>rfl
 | some w=>rfl
def Qu{α:Type}(p q:α->Bool)(ws:List α):(ws.filter p).find? (λw=>p w&&q w)=ws.find? λw=>p w&&q w:=by rw[List.find?_filter];congr 1;funext w;cases p w<;>simp
noncomputable abbrev qz.nC(V:qz)(l:pR)(p:Uf)(F:QXQ)(lg:T0 Ev):qz:=V.re p F (l.less.mM.map (·.1)) lg
variable {p:Uf}{F:QXQ}{lg:T0 Ev}
def Ts(c z:Str)(on:T0 Bool):wW l.less (V.re p F on lg) c z=wW l V c z:=funext λw=>by cases w<;>rfl
def GM(h:DN l V)(f:Wi->Bool):(xJ l.less (V.nC l p F lg) f).head?.bind (l.less.mM[·]?)=(xJ l V f).head?.bind (l.mM[·]?):=by rw[Ej (l:=l.less) Z',Ej h];exact Qu (λw=>w.1) (λw=>f w.2) l.mM
def Ga{V:qz}{f:Wi->Bool}:xJ l V f=[]/\(xJ l V f).head?.bind (l.mM[·]?)=Db\/∃i r w,xJ l V f=i::r/\l.mM[i]?=Fa w/\(xJ l V f).head?.bind (l.mM[·]?)=Fa w:=by
 cases e:xJ l V f with
 | nil=>exact .inl ⟨Z',Z'⟩
 | cons i r=>obtain⟨w,hw,_⟩:=BH (l:=l) (V:=V) (f:=f) (i:=i) (by rw[e];exact dG);exact .inr ⟨i,r,w,Z',hw,hw⟩
theorem GE(h:DN l V){c:Str}:∀(n:Nat) (z:Str) (way:QQQ) (st X6:tq),X6.map (·.1)=st.map (·.1)->(uG l.less (V.nC l p F lg) c n z way X6).1=(uG l V c n z way st).1/\(uG l.less (V.nC l p F lg) c n z way X6).2.map (·.1)=(uG l V c n z way st).2.map (·.1)
 | 0,_,_,_,_,e=>⟨Z',e⟩
 | n+1,z,way,st,X6,e=>by
  unfold uG;by_cases hw:hasS way z=pc
  .rw[c9 hw,c9 hw];exact⟨Z',e⟩
  rw[cY hw,cY hw];have ef:zI l.less (V.nC l p F lg) c z=xJ l.less (V.nC l p F lg) (wW l V c z):=by unfold zI;rw[Ts]
  rw[ef];have hd:=GM (p:=p) (F:=F) (lg:=lg) h (wW l V c z);unfold zI;have snoc:∀(fs fs2:T0 Nat),(X6++[(z,fs2)]).map (·.1)=(st++[(z,fs)]).map (·.1):=λfs fs2=>by rw[dM,dM,e];rfl
  rcases Ga (l:=l) (V:=V) (f:=wW l V c z)with⟨e1,e2⟩|⟨i,r,w,e1,e2,e3⟩
  .rcases Ga (l:=l.less) (V:=V.nC l p F lg) (f:=wW l V c z)with⟨g1,g2⟩|⟨i',r',w',g1,g2,g3⟩
   .rw[e1,g1];exact⟨Z',snoc _ _⟩
   .rw[g3,e2]at hd;cases hd
  .rcases Ga (l:=l.less) (V:=V.nC l p F lg) (f:=wW l V c z)with⟨g1,g2⟩|⟨i',r',w',g1,g2,g3⟩
   .rw[g2,e3]at hd;cases hd
   .rw[g3,e3]at hd;cases hd;rw[e1,g1];dsimp only;rw[e2,g2];dsimp only[Option.elim];cases Gx z w.2 with
    | inl en=>exact⟨Z',snoc _ _⟩
    | inr y=>exact GE h n y _ _ _ (snoc _ _)
theorem Hq(i:Nat):∀(o:Option Str) (st X6:tq),X6.map (·.1)=st.map (·.1)->ve (rK i o st) (rK i o X6)
 | _,[],[],_=>by cases ‹Option Str›<;>rfl
 | _,[],_::_,h=>by cases h
 | _,_::_,[],h=>by cases h
 | o,(z,fs)::r,(z2,fs2)::r2,h=>by
  have h1:z2=z:=(fG h).1;have h2:r2.map (·.1)=r.map (·.1):=(fG h).2;subst h1;have ih:=Hq i (Fa z2) r r2 h2;cases o with
  | none=>exact eK (Ev.asks i z2 []::·) ih
  | some y=>exact eK (λx=>Ev.leg ⟨i,y,z2,y⟩::Ev.asks i z2 []::x) ih
def QN{st X6:tq}(h:X6.map (·.1)=st.map (·.1)):(X6.getLast?).map (·.1)=(st.getLast?).map (·.1):=by rw[<-lF,h,lF]
def wI{a b c d:T0 Ev}(h:ve a b)(g:ve c d):ve (a++c) (b++d):=by show(a++c).map _=(b++d).map _;rw[dM,dM,h,g]
def Rv(h:DN l V){i:Nat}:ve (uz l V i) (uz l.less (V.nC l p F lg) i):=by
 unfold uz;show ve ((V.calls[i]?).elim [] _) ((V.calls[i]?).elim [] _);cases V.calls[i]? with
 | none=>rfl
 | some c=>
  dsimp only[Option.elim];have r:=GE (p:=p) (F:=F) (lg:=lg) h (c:=c.cr) (l.nm.length+1) (c.way.getLastD Str.empty) c.way.dropLast [] [] Z';have r:(ua l.less (V.nC l p F lg) c.cr (c.way.getLastD Str.empty) c.way.dropLast).1=(ua l V c.cr (c.way.getLastD Str.empty) c.way.dropLast).1/\(ua l.less (V.nC l p F lg) c.cr (c.way.getLastD Str.empty) c.way.dropLast).2.map (·.1)=(ua l V c.cr (c.way.getLastD Str.empty) c.way.dropLast).2.map (·.1):=r;generalize ua l.less (V.nC l p F lg) c.cr (c.way.getLastD Str.empty) c.way.dropLast=g2 at r ⊢;generalize ua l V c.cr (c.way.getLastD Str.empty) c.way.dropLast=g1 at r ⊢;obtain⟨e1,s1⟩:=g1;obtain⟨e2,s2⟩:=g2;obtain⟨r1,r2⟩:=r;dsimp only at r1 r2 ⊢;subst r1;refine wI (Hq i Db _ _ r2) (wI ?_ ?_)
  .cases e2 with
   | ring ns=>
    show ve ((s1.getLast?).elim [] _) ((s2.getLast?).elim [] _);have:=QN r2;cases h1:s1.getLast?<;>cases h2:s2.getLast?<;>rw[h1,h2]at this
    .cases this
    .cases this
    .have:=dh this;dsimp only[Option.elim]at this ⊢;rw[this]
   | _=>rfl
  .cases e2<;>rfl
def TH(h:DN l V){i:Nat}:(wg l.less (V.nC l p F lg) i).head?.bind (l.less.mM[·]?)=(wg l V i).head?.bind (l.mM[·]?):=by
 unfold wg;show((V.calls[i]?).elim [] _).head?.bind _=((V.calls[i]?).elim [] _).head?.bind _;cases V.calls[i]? with
 | none=>rfl
 | some c=>
  dsimp only[Option.elim];by_cases hs:(c.st=="rings")=pc
  .rw[c9 hs,c9 hs];exact GM h (FJ c)
  .rw[cY hs,cY hs];rfl
def MJ{e:Ev}(h:e.oP):e.nY:=by cases e<;>first|exact h.elim|trivial
def SJ:∀e∈uz l V i,e.nY:=λe h=>MJ (ND e h)
def Hy:∀e∈sy l V i fs,e.nY:=λe h=>MJ (GU e h)
def FR{es:T0 Ev}{V:qz}(h:∀e∈es,e.nY):(qP V es).on=V.on:=by
 induction es generalizing V with
 | nil=>rfl
 | cons e r ih=>show(qP (qo V e) r).on=V.on;rw[ih λx hx=>h x (dC _ hx)];have:=h e dG;cases e<;>first|exact this.elim|rfl
def P0(h:DN l V){i:Nat}:ve (sy l V i (wg l V i)) (sy l.less (V.nC l p F lg) i (wg l.less (V.nC l p F lg) i)):=by
 have hd:=TH (p:=p) (F:=F) (lg:=lg) h (i:=i);generalize wg l.less (V.nC l p F lg) i=f2 at hd ⊢;generalize wg l V i=f1 at hd ⊢;unfold sy;rw[hd];split
 .rename_i x y _ _;dsimp only;have al:ve [Ev.asks i x f1,.quiet i,.leg ⟨i,x,y,x⟩] [Ev.asks i x f2,.quiet i,.leg ⟨i,x,y,x⟩]:=rfl;have ns:∀e∈[Ev.asks i x f1,.quiet i,.leg ⟨i,x,y,x⟩],e.nY:=λe he=>by simp only[de,dA,eL]at he;rcases he with rfl|rfl|rfl<;>trivial
  refine wI al ?_;rw[CZ al ns];exact Rv ((FR ns).trans h)
 .rfl
theorem Jd:∀(is:T0 Nat) (V:qz) (lg:T0 Ev),DN l V->ve (qU l is V) (qU l.less is (V.nC l p F lg))
 | [],_,_,_=>rfl
 | i::r,V,lg,h=>by have al:=P0 (p:=p) (F:=F) (lg:=lg) h (i:=i);unfold qU;refine wI al ?_;rw[CZ al Hy];exact Jd r _ _ ((FR Hy).trans h)
def NM(is:T0 Nat)(V:qz):∀e∈qU l is V,e.nY:=λe h=>MJ (GZ is V e h)
def tZ.nY:tZ->Prop
 | .sw _ _=>False
 | _=>True
def Uv(h:DN l V){e:tZ}(hs:e.nY):ve (sZ l V e) (sZ l.less (V.nC l p F lg) e):=by
 cases e with
 | call y z=>
  show ve (_++_) (_++_);have ns:∀e∈[Ev.new V.calls.length y,.leg ⟨V.calls.length,y,z,y⟩],e.nY:=λe he=>by simp only[de,dA,eL]at he;rcases he with rfl|rfl<;>trivial
  refine wI Z' ?_;show ve _ (uz l.less (qP (V.nC l p F lg) [Ev.new V.calls.length y,.leg ⟨V.calls.length,y,z,y⟩]) V.calls.length);rw[CZ (es:=[Ev.new V.calls.length y,.leg ⟨V.calls.length,y,z,y⟩]) Z' ns];exact Rv ((FR ns).trans h)
 | num w x ms=>
  match ms with
  | []=>rfl
  | [_]=>rfl
  | [_,_]=>rfl
  | _::_::_::_=>rfl
 | turn=>show ve (yp l V) (yp l.less (V.nC l p F lg));unfold yp;refine eK (Ev.turn::·) ?_;have:=Jd (l:=l) (p:=p) (F:=F) (List.range V.calls.length) (qo V .turn) (lg++[.turn]) h;exact this
 | sw b i=>exact hs.elim
def On:∀e∈vo V x i,e.nY:=λe h=>by
 unfold vo at h;cases hc:V.calls[i]? with
 | none=>rw[hc]at h;cases h
 | some c=>
  rw[hc]at h;dsimp only[Option.elim]at h;split at h
  .rw[dg.mp h];trivial
  split at h
  .rcases de.mp h with rfl|h
   .trivial
   .split at h
    .rw[dg.mp h];trivial
    .cases h
  split at h
  .rw[dg.mp h];trivial
  .rw[dg.mp h];trivial
def Mi{e:tZ}(hs:e.nY):∀v∈sZ l V e,v.nY:=λv h=>by
 cases e with
 | call y z=>
  rcases dQ.mp (show v∈[Ev.new V.calls.length y,.leg ⟨V.calls.length,y,z,y⟩]++uz l _ _ from h)with h|h
  .simp only[de,dA,eL]at h;rcases h with rfl|rfl<;>trivial
  .exact SJ v h
 | turn=>
  rcases de.mp (show v∈Ev.turn::qU l _ _ from h)with rfl|h
  .trivial
  .exact NM _ _ v h
 | sw b i=>exact hs.elim
 | num w x ms=>
  match ms with
  | []=>cases h
  | [i]=>
   unfold sZ at h;dsimp only at h;split at h
   .exact On v h
   .rw[dg.mp h];unfold Du;cases V.calls[i.toNat]? with
    | none=>trivial
    | some c=>
     dsimp only[Option.elim];split
     .trivial
     .split<;>trivial
  | [i,j]=>
   rw[dg.mp (show v∈[CD V w x i.toNat j.toNat]from h)];unfold CD;cases V.calls[i.toNat]? with
   | none=>trivial
   | some c=>
    cases V.calls[j.toNat]? with
    | none=>trivial
    | some d=>trivial
  | _::_::_::_=>cases h
def HS{e:tZ}(hs:e.nY):xB l.less (V.nC l p F lg) e=xB l V e:=by
 cases e with
 | sw b i=>exact hs.elim
 | _=>rfl
noncomputable def Ev.ld:Ev->D
 | .asks i z _=>.tup [.str "asks",.int (i:Nat),.str z]
 | e=>e.d
def Qs(e:Ev):e.less.ld=e.ld:=by cases e<;>rfl
def Oj{es fs:T0 Ev}(h:ve es fs):es.map Ev.ld=fs.map Ev.ld:=by have:=eK (List.map Ev.ld) h;rw[dZ,dZ]at this;have e:Ev.ld∘Ev.less=Ev.ld:=funext Qs;rw[e]at this;exact this
def QY(e:Ev):sr 7 e.ld=pc:=by have h:=QO e;cases e<;>first|rfl|exact I9 6 _ h
def Lu:rH:=λds M Q=>Bs λr es=>ds=[.ref r]/\pA M r=Fa (List.map Ev.d es)/\es.length<=900000/\∀q,M q=Db->Q (.ref q) (pP M q (.lst (es.map Ev.ld)))
def S6{α:Type}{f:α->D}{xs:List α}{pre post:T0 D}{d:D}(e:pre++d::post=xs.map f):∃x,xs[pre.length]?=Fa x/\d=f x/\xs.take (pre.length+1)=xs.take pre.length++[x]:=by
 have h:(xs.map f)[pre.length]?=Fa d:=by rw[<-e];simp
 rw[dD]at h;cases hx:xs[pre.length]? with
 | none=>rw[hx]at h;cases h
 | some x=>rw[hx]at h;refine⟨x,Z',(dh h).symm,?_⟩;rw[gG,hx];rfl
def QA(ok:rP l):rP l.less:=⟨ok.p1,ok.p8,ok.po,ok.g3,ok.go,ok.nd,dY (gg _ _) ok.pk,λw hw=>ok.wo w (fC.mp hw).1⟩
def Rk{V:qz}{p:Uf}{F:QXQ}{on:T0 Bool}{lg:T0 Ev}(h:WF l V):WF l.less (V.re p F on lg):=⟨λi c e=>by
  have k:=h.ok i c e;exact⟨k.sh,k.cr,k.at_,k.ms,k.an,k.mn,k.ca,k.wy⟩,h.un,h.ln,h.wt,h.nx⟩
def GD:Fq P w K mg base 1 a.aj Lu:=by
 refine fq G.aj.toDG Gh (λr u=>⟨_,(pJ (pO (qO Z' (xD (ix:=[Db]) (N':=["_law_event"])) (qQ v0) (qN 0) rY (Nh (pS u (pW v0 pK) pL) (rQ v0 sV (sv pK)) v0)))),?_⟩)
 .rintro ds M Q ⟨r,es,rfl,lr,hes,q⟩
  have hz:=dI;refine pG lr (zZ (es.map Ev.d) (λpre acc U M2=>M=M2/\acc=(es.take pre.length).map Ev.ld/\∃y,U=[y]) (λ_ _ _ M2 j=>by rw[<-j.1];exact lr) _ [] [] _ _ Z' (by rw[cT,dH];omega) ⟨Z',Z',Db,Z'⟩ ?_ ?_)
  .rintro pre d post e acc U M2 ⟨rfl,rfl,y,rfl⟩ k hk
   obtain⟨v,e1,rfl,e2⟩:=S6 e;rw[cW,dP,e2,dM]at hk;have hk:=hk [Fa v.d] v.ld M ⟨Z',Z',_,Z'⟩;cases v with
   | sw b i=>
    cases b with
    | true=>exact pG Z' hk
    | false=>exact pG Z' hk
   | _=>exact pG Z' hk
  .rintro acc U M2 ⟨rfl,rfl,y,rfl⟩ p1 Zd
   rw[cT,fF];exact⟨_,.refl,q p1 Zd⟩
seal L3.E3 L3.B3 L3.A3 L3.S3 L3.IP
def Lx:rH:=λds M Q=>∃ns:T0 Int,ds=[.rl (ns.map D.int)]/\ns.length<=63/\Q (.bl pc) M
def LN{x:Uf}{ds:T0 D}(h:pA M x=Fa ds):Xm M (.ref x)=Fa (.type "list"):=by show II (M x)=_;rw[qk h];rfl
noncomputable def Xv:D->Bool
 | .tup (.bl b::_)=>b
 | _=>lf
def LD(l:pR):((l.mM.map vc).filter Xv).map id=l.less.mM.map vc:=by rw[iG,gC];rfl
def D6(V:qz):sr 8 (.tup [.int V.t,.tup (V.calls.map Bu),.tup ((tz V.ps).map xM)])=pc:=by
 have h:[D.int V.t,.tup (V.calls.map Bu),.tup ((tz V.ps).map xM),.tup (V.on.map D.bl)].all (sr 7)=pc:=MR (n:=4) V;show[D.int V.t,.tup (V.calls.map Bu),.tup ((tz V.ps).map xM)].all (sr 7)=pc;rw[eD]at h ⊢;exact λx hx=>h x (by
  simp only[de,dA,eL]at hx ⊢;rcases hx with h|h|h
  .exact .inl h
  .exact .inr (.inl h)
  .exact .inr (.inr (.inl h)))
noncomputable def M9(ns:T0 Int)(r1 r2 r3:Uf)(h:Int)(b b2 ro rn:Uf)(ys:T0 (Option D)):T0 (Option D):=some (.rl (ns.map D.int))::Fa (.ref r1)::Fa (.ref r2)::Fa (.ref r3)::Fa (.int h)::Fa (.ref b)::Fa (.ref b2)::Fa (.ref ro)::Fa (.ref rn)::ys
def SA:Fq P w K mg base 17 a.ak Lx:=by
 refine fq G.ak.toDG uR (λr u=>⟨_,(pH (Ij (pT (MC G) r G.bo (sE v0 pK)) (vv (n:=3) Z' (qK (sd 1 uR) (qK (sd 2 uR) (qK (sd 3 uR) ul)))))
 (pH (pX 4 uR (pT (qT G) r G.i (rF (pT (Oo G) r G.O (sE v0 pK)) pK pK)))
 (pH (pX 5 uR (uV (Gj G) r G.c G.bU G.Q.toDG (sE (uV (JH G) r G.h G.bV G.R.toDG (rF U1 U2 U3)) v4)))
 (pH (pX 6 uR (uV (Gj G) r G.c G.bU G.Q.toDG (sE (uV (JH G) r G.h G.bV G.R.toDG (rF U1 U2 (qO Z' (xD (ix:=[Db]) (N':=["_law_pair"])) (qQ U3) (qN 0) (vE (va (pW v0 pK))) v0))) v4)))
 (pH (Ij (pT (Kp G) r G.bu (qA v5)) (Qh (n:=2) Z' (qK (sd 7 uR) (qK (sd 8 uR) ul))))
 (pH (vM fD Z' (qQ (rQ v0 (sv pK) (sv pK))) (sd 9 uR)
 (pH (pX 10 uR (pT (Ou G) r G.bt (qp v5 (rF v9 v7 v8))))
 (pH (qc (W3.b3 (xx (pS u (pW V4 pK) pL) (we (pS u (pW V4 pK) pL))))
 (pJ Gm)
 pU)
 (pH (pX 11 uR (pT (JQ G) r G.ai (sE v5 V4)))
 (pH (pX 12 uR (pT (JQ G) r G.ai (sE v6 V4)))
 (pH (qc (W3.b3 (xx (va (qe D9 Z' G.b0 yJ (sE Wk (Rq Z' G.b1 Mc)))) (we (va (qe D9 Z' G.b0 yJ (sE Wj (Rq Z' G.b1 Mc)))))))
 (pJ (qc (pS u Wk Wj)
 (pJ (pO xt))
 pU))
 (pJ (qc (pS u (pT (GD G) r G.aj (qA Wk)) (pT (GD G) r G.aj (qA Wj)))
 (pJ (pO xt))
 pU)))
 (pJ (qc (W3.b3 (xx (pS u (rQ (pT (C0 G) r G.ae (qA v5)) sV (sv pK)) (rQ (pT (C0 G) r G.ae (qA v6)) sV (sv pK))) (we (pS u (pN v5) (pN v6)))))
 (pJ (pO xt))
 pU))))))))
 (pJ (pO xt)))))))),?_⟩)
 rintro ds M Q ⟨ns,rfl,hns,q⟩
 have hz:=dI;have ok:rP (zB ns 6):=PC (by decide) (by decide);have X4:2<=(zB ns 6).mP.length:=HK (by decide) (by decide);refine⟨ns,6,Z',by decide,by decide,λr1 r2 r3 M1 s1 h1 h2 h3=>⟨Z',?_⟩⟩;generalize zB ns 6=l at h1 h2 h3 ok X4;refine⟨ns,0,Z',_,_,_,Z',by decide,?_⟩;generalize draw (cell ns 0) 22695477 24=h;dsimp only[tE,xO,B'];refine λp hp=>?_;have t2:=qF.new (c:=.ins a.h []) hp;refine⟨p,r1,r2,r3,l,Z',qa,t2.lst h1,t2.lst h2,t2.lst h3,ok,λM2 kp pa _=>⟨Z',λb hb=>?_⟩⟩;have s2:qF M1 M2:=λx c e=>kp x c (Pe e hp) (t2 x c e);have t5:=qF.new (c:=.ins a.c []) hb;have npb:p≠b:=λz=>by obtain⟨ph,gr,ws,Ze,pr,gd,rs,i1,_⟩:=pa;rw[z,hb]at i1;cases i1
 refine⟨b,p,_,[],l,Z',qa,pa.sub t5,ok,npb,(λx hx=>by cases hx),λM3 A eb kp3 fr bd=>⟨Z',?_⟩⟩;obtain⟨cu,_⟩:=Lp.start ok pa hb eb kp3 fr bd;have s3:=s2.trans cu.s0;clear kp kp3 fr bd t2 t5 npb;have h3:=s3.lst h3;refine pG h3 (tK (f:=id) (t:=Xv) h3 _ [] _ (by rw[cT];simp only[dH];have:=ok.pk;omega) (λd hd k0 hk=>?_) (λd hd _ k0 hk=>?_) λr4 hr4=>?_)
 .obtain⟨w,_,rfl⟩:=dB.mp hd;exact hk
 .exact hk
 rw[dX,LD];have t4:=qF.new (c:=.lst (l.less.mM.map vc)) hr4;have h4:=@pQ M3 r4 (l.less.mM.map vc);generalize pP M3 r4 (.lst (l.less.mM.map vc))=M4 at t4 h4 ⊢;have ok2:=QA ok;have s4:=s3.trans t4;refine λp2 hp2'=>?_;have t6:=qF.new (c:=.ins a.h []) hp2';refine⟨p2,r1,r2,r4,l.less,Z',qa,(s4.trans t6).lst h1,(s4.trans t6).lst h2,t6.lst h4,ok2,λM5 kp pa2 pf=>⟨Z',λb2 hb2=>?_⟩⟩;have s5:qF M4 M5:=λx c e=>kp x c (Pe e hp2') (t6 x c e);have t7:=qF.new (c:=.ins a.c []) hb2;have npb:p2≠b2:=λz=>by obtain⟨ph,gr,ws,Ze,pr,gd,rs,i1,_⟩:=pa2;rw[z,hb2]at i1;cases i1
 refine⟨b2,p2,_,[],l.less,Z',qa,pa2.sub t7,ok2,npb,(λx hx=>by cases hx),λM6 A2 eb2 kp6 fr bd=>⟨Z',?_⟩⟩;obtain⟨cu2,_⟩:=Lp.start ok2 pa2 hb2 eb2 kp6 fr bd;have pf':∀N,(∀x c,M4 x=Db->M5 x=Fa c->N x=Fa c)->sR a N p2 l.less:=λN H=>pf N λx c hx e=>H x c (hx.elim (λz=>by rw[z];exact hp2') λz=>t6.none z) e;clear kp kp6 fr bd t6 t7 npb pf hb hb2 hp hp2' pa pa2;dsimp only[tE,xO,B'];have p8:=cu.ok.p8;have g3:=cu.ok.g3;have pl:l.pn.length=l.mP.length:=cT ..;have nl:l.nm.length=l.mP.length+l.groups.length:=by unfold pR.nm pR.pn pR.gn;rw[cW,cT,cT]
 subst eb;subst eb2;have cuM:=cu.sub (t4.trans (s5.trans cu2.s0));refine⟨A,_,l,Z',cuM.rd (by decide) (Tq cu.ok),λM7 r ro rn s7 hro hrn lr lo ln=>pG lr ⟨Z',?_⟩⟩;dsimp only[tE,xO,B'];have nro:=cuM.bd.nI hro;have nrn:=cuM.bd.nI hrn;have nro2:=cu2.bd.nI hro;have nrn2:=cu2.bd.nI hrn;refine λsl ZF=>pG pQ ?_;have t7:=qF.new (c:=.lst (L3.ug (ns.map D.int) (Fa 1) (Fa 64))) ZF;have l7:=@pQ M7 sl (L3.ug (ns.map D.int) (Fa 1) (Fa 64));have hL:(L3.ug (ns.map D.int) (Fa 1) (Fa 64)).length<=63:=by unfold L3.ug;rw[fL,gc,cT];omega
 have hLi:∀d∈L3.ug (ns.map D.int) (Fa 1) (Fa 64),∃c,d=.int c:=λd hd=>by unfold L3.ug at hd;obtain⟨c,_,rfl⟩:=dB.mp (iX (iW hd));exact⟨c,Z'⟩
 generalize L3.ug (ns.map D.int) (Fa 1) (Fa 64)=L at t7 l7 hL hLi ⊢;have n7:sl∉A.foot:=(cuM.sub s7).bd.nI ZF;have n72:sl∉A2.foot:=(cu2.sub s7).bd.nI ZF;have lo:=t7.lst lo;have ln:=t7.lst ln;have s8:=s7.trans t7;generalize pP M7 sl (.lst L)=M8 at l7 lo ln s8 ⊢;have i9:=Tw.start cu t4 s5 pf' cu2 s8;have l7:=yx (yx l7 n7) n72;have lo:=yx (yx lo nro) nro2;have ln:=yx (yx ln nrn) nrn2;have wf0:WF l (V0 p h l A2.foot):=Tq cu.ok;have ps0:(V0 p h l A2.foot).ps.length<=3:=An ok;have sN:qF M (wD A2 (wD A M8)):=λx c e=>by
  have e1:=s2 x c (s1 x c e);have e2:=s5 x c (t4 x c (cu.s0 x c e1));refine Ay (Ay (s8 x c (cu2.s0 x c e2)) λz=>?_) λz=>?_
  .rw[cu.fr x z]at e1;cases e1
  .rw[cu2.fr x z]at e2;cases e2
 generalize wD A2 (wD A M8)=N at i9 l7 lo ln sN;generalize A.b=b at i9 ⊢;generalize A2.b=b2 at i9 ⊢;clear cu cu2 cuM pf' nro nrn nro2 nrn2 n7 n72 s7 t7 ZF hro hrn lr s8;refine yb L (λpre U M'=>(∃A V A2 lg,Tw a N M' b A V l (1+pre.length) (3+2200*pre.length) b2 A2 (V.nC l p2 A.foot lg) l.less (1+pre.length) (3+2200*pre.length)/\WF l V/\DN l V/\V.ps.length<=3)/\∃y9 y10 y11 y12,U=M9 ns r1 r2 r3 h b b2 ro rn [y9,y10,y11,y12]) (λ_ _ M' j=>by obtain⟨A,V,A2,lg,g,_⟩:=j.1;exact g.x.s0.lst l7) _ [] _ _ Z' ⟨⟨A,_,A2,[],i9,wf0,Z',ps0⟩,Db,Db,Db,Db,Z'⟩ ?_ ?_
 .clear i9 wf0 ps0
  rintro pre d post e U M' ⟨⟨A,V,A2,lg,t,wf,oa,ps⟩,y9,y10,y11,y12,rfl⟩ nx2 X7
  have hx:L[pre.length]?=Fa d:=by rw[<-e];simp
  have pl5:pre.length<63:=dN (cX.mp hx).1 hL;obtain⟨c0,rfl⟩:=hLi d (qW hx);rw[cW,dP]at X7;generalize pre.length=m at t pl5 X7;dsimp only[tE,xO,B'];have eb:=t.x.b;subst eb;refine⟨A,V,l,_,ro,rn,l.pn,l.nm,Z',t.x.rd (by omega) wf,wf,λk hk=>(t.x.sz.cs k hk).2.1,t.x.s0.lst lo,t.x.s0.lst ln,λz=>by rw[z]at pl;simp only[dH]at pl;omega,λz=>by rw[z]at nl;simp only[dH]at nl;omega,by omega,by omega,λM2 e s f=>?_⟩;have t:=t.sub s;dsimp only[tE];have nA:∀ys,ys.length=4->nx2 (M9 ns r1 r2 r3 h A.b b2 ro rn ys) M2:=λys hy=>by
   match ys,hy with
   | [u1,u2,u3,u4],_=>exact X7 _ _ ⟨⟨A,V,A2,lg,t.mono (by omega) (by omega) (by omega) (by omega),wf,oa,ps⟩,u1,u2,u3,u4,Z'⟩
  refine SN (t:=KY _ _ _) (λU M3=>e.nY/\M2=M3/\U=M9 ns r1 r2 r3 h A.b b2 ro rn [Fa (.int c0),Fa e.d,y11,y12]) (λnx hh=>?_) ?_
  .cases e with
   | call y z=>exact hh _ _ ⟨trivial,Z',Z'⟩
   | turn=>exact hh _ _ ⟨trivial,Z',Z'⟩
   | sw b0 i=>
    cases b0 with
    | true=>exact nA _ Z'
    | false=>exact nA _ Z'
   | num wd x ms=>rcases f with⟨rfl|rfl|rfl|rfl,_⟩|⟨rfl|rfl,_⟩<;>exact pG (xS _ _) (pG (xS _ _) (hh _ _ ⟨trivial,Z',Z'⟩))
  rintro U M3 ⟨ZO,rfl,rfl⟩
  refine⟨N,A.b,A,V,l,_,_,e,Z',t.x,by omega,by omega,wf,f,λhr M3 A3 r c3 YC ZL=>?_,λw0 hw0=>?_⟩
  .have t3:=t.one YC c3 (Mb _ _);have nr:=t3.y.bd.nI ZL;have t4:=t3.sub (.new (c:=.lst ((sZ l V e).map Ev.d)) ZL);have lr:=@pQ M3 r ((sZ l V e).map Ev.d);generalize pP M3 r (.lst ((sZ l V e).map Ev.d))=M4 at t4 lr ⊢;clear t3;refine⟨N,b2,A2,V.nC l p2 A3.foot lg,l.less,_,_,e,Z',t4.y,by omega,by omega,Rk wf,f,λhr' M5 A5 rf c5 Zt hr5=>?_,(λw0 h=>by rw[HS ZO,hr]at h;cases h)⟩;have al:=Uv (p:=p2) (F:=A3.foot) (lg:=lg) oa ZO;rw[CZ al (Mi ZO)]at c5;have t5:=(t4.swap.one Zt c5 Z').swap;have lr:=se (Zt.1 r _ nr (qk lr));have s6:=qF.new (c:=.lst ((sZ l.less (V.nC l p2 A3.foot lg) e).map Ev.d)) hr5;have t6:=t5.sub s6;have lr:=s6.lst lr;have Zs:=@pQ M5 rf ((sZ l.less (V.nC l p2 A3.foot lg) e).map Ev.d);generalize pP M5 rf (.lst ((sZ l.less (V.nC l p2 A3.foot lg) e).map Ev.d))=M6 at t6 lr Zs ⊢;have wf3:=VO t.x.ok wf f hr;have ps3:(qP V (sZ l V e)).ps.length<=3:=by rw[UK t.x.ok wf f hr];exact ps
   have oa3:DN l (qP V (sZ l V e)):=(FR (Mi ZO)).trans oa;have hl1:(sZ l V e).length<=900000:=by have:=c3.sz.lo;rw[F4,cW]at this;omega
   have Z8:(sZ l.less (V.nC l p2 A3.foot lg) e).length<=900000:=by have:(lg++sZ l.less (V.nC l p2 A3.foot lg) e).length<=_:=c5.sz.lo;rw[cW]at this;omega
   generalize qP V (sZ l V e)=V3 at t6 wf3 ps3 oa3;dsimp only[tE];refine SN (t:=KY _ _ _) (λU M7=>qF M6 M7/\U=M9 ns r1 r2 r3 h A.b b2 ro rn [Fa (.int c0),Fa e.d,Fa (.ref r),Fa (.ref rf)]) (λnx hh=>?_) ?_
   .refine pG (LN lr) ⟨λC z=>(by cases z),pG G.bZ ?_⟩;refine pG (LN Zs) ⟨λC z=>(by cases z),pG G.bZ ?_⟩;refine⟨r,_,Z',lr,hl1,λq1 YF=>⟨rf,_,Z',(qF.new YF).lst Zs,Z8,λq2 ZK=>?_⟩⟩;have s7:=qF.new (c:=.lst ((sZ l V e).map Ev.ld)) YF;have s8:=qF.new (c:=.lst ((sZ l.less (V.nC l p2 A3.foot lg) e).map Ev.ld)) ZK;refine pG (Am (s8.lst pQ) (by rw[Oj al];exact pQ) λd hd=>?_) (Fu (hh _ _ ⟨s7.trans s8,Z'⟩));obtain⟨v,_,rfl⟩:=dB.mp hd;exact wG 7 _ (QY v)
   rintro U M7 ⟨s7,rfl⟩
   have t7:=(t6.sub s7).mono (c3:=1+(m+1)) (n3:=3+2200*(m+1)) (c4:=1+(m+1)) (n4:=3+2200*(m+1)) (by omega) (by omega) (by omega) (by omega);have e1:=t7.x.b;have e2:=t7.y.b;have ca:V3.calls.length<=_:=t7.x.sz.ca;refine⟨A3,_,by rw[e1],t7.x.bd,by show V3.calls.length<=10000;omega,ps3,A5,_,by rw[e2],t7.y.bd,by show V3.calls.length<=10000;omega,ps3,?_⟩;refine pG (wG 8 _ (D6 V3)) (Fu ?_);have el:za M7 9 (.ref A3.le) (.ref A5.le)=Fa pc:=Am t7.x.bd.le t7.y.bd.le λd hd=>by obtain⟨v,_,rfl⟩:=dB.mp hd;exact wG 7 _ Z'
   refine pI t7.x.at_ (pG Z' (pI t7.y.at_ (pG Z' (pG el (Fu ?_)))));exact X7 _ _ ⟨⟨A3,V3.at_ V3.p A5.foot,A5,_,t7,UJ wf3,oa3,ps3⟩,_,_,_,_,Z'⟩
  .refine⟨N,b2,A2,V.nC l p2 A.foot lg,l.less,_,_,e,Z',t.y,by omega,by omega,Rk wf,f,(λhr'=>by rw[HS ZO,hw0]at hr';cases hr'),λw1 h1=>?_⟩;rw[HS ZO,hw0]at h1;cases h1;dsimp only[tE];refine SN (t:=KY _ _ _) (λU M7=>M2=M7/\U=M9 ns r1 r2 r3 h A.b b2 ro rn [Fa (.int c0),Fa e.d,Fa (.str w0),Fa (.str w0)]) (λnx hh=>?_) ?_
   .refine pG Z' ⟨λC z=>(by cases z),pG G.cB ?_⟩;show if (!(w0==w0))=pc then _ else _
    rw[fv];exact Fu (hh _ _ ⟨Z',Z'⟩)
   rintro U M7 ⟨rfl,rfl⟩
   have e1:=t.x.b;have e2:=t.y.b;have ca:=t.x.sz.ca;refine⟨A,_,by rw[e1],t.x.bd,by show V.calls.length<=10000;omega,ps,A2,_,by rw[e2],t.y.bd,by show V.calls.length<=10000;omega,ps,?_⟩;refine pG (wG 8 _ (D6 V)) (Fu ?_);have el:za M2 9 (.ref A.le) (.ref A2.le)=Fa pc:=Am t.x.bd.le t.y.bd.le λd hd=>by obtain⟨v,_,rfl⟩:=dB.mp hd;exact wG 7 _ Z'
   refine pI t.x.at_ (pG Z' (pI t.y.at_ (pG Z' (pG el (Fu ?_)))));exact nA _ Z'
 .rintro U M' ⟨⟨A,V,A2,lg,t,_⟩,y9,y10,y11,y12,rfl⟩
  exact⟨M,sN.trans t.x.s0,q⟩
end
end Z
end
structure PySem.W.Fast:Prop where(tw9884543585619287539 tw9772915423695124575 tw9585266439775030089 tw8553971446066851232 tw7619252460230879723 tw7524198367718419875 tw7409415905394270803 tw7175477184139143685 tw6951439413217307414 tw6868262860090607062 tw6577774240213787248 tw6372105790380533854 tw6321657621256540555 tw5960018097508730197 tw541477013048790493 tw4297860687620073922 tw3859620231969650368 tw3596180558838702149 tw3262753327618466825 tw17703120946137754627 tw17566531338195954076 tw17484512063616733284 tw16759881127004864380 tw16583680060067079520 tw16378177712512653428 tw14066917374241223823 tw11434164701150064935 tw10898130556645436372 tw1051677720456393490 tw10405169323796181299 tw13801208551958966715 tw3109034561640985502 tw5229008296158412664 tw12642533104908544617 tw480154116116810547 tw1288439447764699560 tw6218358504371634392 tw10238141189197667217 tw8855389438368178661 tw9255888482242473966 tw8089494467230214095 tw3986740044966772474 tw16039246655695098915 tw2110097830481478391 tw5467654463959417476 tw1420671353306226072 tw14389105139049559756 tw3900026105977788814 tw987265853736237661 tw10846246705286980988 tw7430823280278536624 tw16430104110243342426 tw809701197242941015 tw2917277704030222210 tw8081481865686614459 tw5469596851078351265 tw7776170510098642052 tw17339142570823380141 tw16865444691723406022 tw7886828981838752333 tw18081852125288512138 tw12885847018695764122 tw4126618145353994305 tw7455314409525340380 tw4103563033795035892 tw6747823705093933713 tw9626700493421438917 tw225211067769662426 tw7032732445819598805 tw4595290038977334430 tw3395834344115166199 tw17227977302520939832 tw6716320834268247316 tw8602213058273714645 tw1138442770517329750 tw8385802279689328776 tw1199065992891824371 tw17379396880416609526 tw1764055569347173521 tw461378017984046180 tw8587760017465916540 tw12597028796995405707 tw12335300650654377468 tw17156366685631435147 tw1453825453360943320 tw13622600317920401027 tw4317737062712355655 tw17050785681161453484 tw5915365063970836790 tw1442875045246164930 tw8233963221052827241 tw1264873006073960637 tw3212770598581047978 tw268617818436394880 tw5115275133539592130 tw14038593192309857424 tw10867125751650685499 tw10322796416831690184 tw9805781400569408725 tw1978978967024754643 tw10463180258069549259 tw17756355902885624134 tw15053487625088828105 tw1737497041264900237 tw10961465108444923704 tw18247788880851935071 tw11210939089831296771 tw15896394161926854191 tw5639640590785578377 tw17405686962162838453 tw7011777818262006381 tw18419809936344282615 tw17989555349134853172 tw8738460104650191892 tw14856366806268625762 tw4655369258210090072 tw15277150843379409137 tw15507753294942855114 tw6186809708014959973 tw16412049037584503787 tw4134091036917711866 tw8964310901855656261 tw6397511440899608309 tw7592050418704543020 tw13460510952089506065 tw16602643727649619168 tw100662704842334620 tw2025067238305520081 tw16590636325159008226 tw4040351334491618232 tw16561581786364717606 tw3689329555519538285 tw8849947513977129471 tw2957896821462239573 tw1981510647426858606 tw15331152501315639464 tw3100355293880077685 tw1701826353176545430 tw2230325692502358691 tw14124151268950942047 tw8485039559579076688 tw16249723801247700942 tw1857589684853558974 tw3361819113814828905 tw2662038240714380627 tw3069727162978302995 tw12238993734922856025 tw13675288563986997196 tw3262612826184573334 tw15386033295279141002 tw17153114178479713894 tw11523126215712565038 tw2997478643695680133 tw18298468205131653917 tw9818801793417168416 tw10792797631009422770 tw9951417026287016173 tw16733935824685501494 tw13410752962761162025 tw11732726233921342598 tw13006518694309989757 tw5122883259074121798 tw111429044729423949 tw8708895210910644301 tw9379681288130838972 tw12772629822157265321 tw5228786809391469380 tw15184624495491943071 tw5829280508602026749 tw10543926683334188716 tw2587629294716957185 tw12915936840745467278 tw9688012911979587821 tw7522297273926330494 tw6908129308651481393 tw17707564472870191509 tw7797893761445477360 tw9758848444375553240 tw1090775816735912232 tw4458037541038919806 tw18398793944208629733 tw17261965504347511288 tw14249841330987425796 tw4067397086584637726 tw15597846438538368501 tw3097259870673818698 tw8251332608369809549 tw8713134804000954933 tw10588173536255331189 tw16115318626711850977 tw12040245359579234605 tw7253635700123316881 tw7400584508241401765 tw17610256717163930203 tw14742962761683525936 tw15893124086524546446 tw2687892838105253347 tw13087911519034921131 tw485790877902446919 tw8364460533360342997 tw17839504019336610839 tw15710074884946292257 tw1197571138280670204 tw3961258573395934095 tw6472357905521959002 tw6745928553028703467 tw14797401733134286548 tw10023103484005558103 tw30461250030815842 tw11260096713692973573 tw14483064888169902748 tw16676815614894926038 tw7814066839997280425 tw5218369231677318945 tw15295814070696431657 tw2392148296350352669 tw15266118838691197185 tw7018105936221192071 tw5041082993506380599 tw10115348971883511379 tw17883618035575578007 tw6966404940199383154 tw3336602968986847954 tw2129690444215375066 tw14630447049191399273 tw13601722814942229585 tw9728450639400689019 tw14791355397074173863 tw3768974161252216560 tw7172218536733883409 tw7436995105548681869 tw8833801982160076603 tw15562539713612681611 tw14239704720007114142 tw15008103648731382360 tw14040830219622705591 tw13021884676748822238 tw5744964072049415333 tw9121625686159444266 tw7503875462818412541 tw8826922757962821500 tw15437530949680710771 tw8896314316080135292 tw11259200790727397855 tw17213145080048897081 tw8167473975085618180 tw10482340787757438701 tw5343981130741041797 tw10886760105771593763 tw2806708561169613211 tw10386824208331365139 tw1439246472263232352 tw7084846311613274593 tw8230137424530289085 tw13531284953080842095 tw7591002349840879155 tw1112175571055641765 tw18031368641139916564 tw11653090338985846904 tw2191957841339111225 tw15005832009884233967 tw1011474528678067212 tw544513541541036768 tw1964817480962613160 tw6648535491778898156 tw15940315032073780777 tw1700544638913008012 tw789708413844475861 tw16044727710657430813 tw4093425564171480848 tw8807952122275549886 tw15358549398029304575 tw13009193863334635812 tw5548974071105588315 tw17895801035836025146 tw13906216005101997802 tw5782345653363166593 tw16564294768249738523 tw4453284028024916395 tw3173674192882515412 tw2003736415716128577 tw12006527655696185308 tw6730482176165949321 tw4463644680353033096 tw4300399080839564139 tw11062799556617672561 tw8016457682538294441 tw17275424117596748319 tw10450429007042694026 tw16010175932648951241 tw12616330525867403355 tw757841828997081111 tw1878266003330991549 tw6951664224463696435 tw12366915236899020974 tw14718187133362168382 tw12730359208885296371 tw3138871210160230125 tw14342549316623691746 tw12940937089975007347 tw10449647384763595129 tw10704297365236404594 tw4884324678028695486 tw714495248375834832 tw3934084033670157265 tw188306208442002902 tw15695594567478098353 tw3156229065344279936 tw6216468150463676407 tw3390016310770584619 tw13784604022846743570 tw13971586378050984806 tw14177623597623916606 tw897972620074278901 tw13160944412901138885 tw5805009151263929462 tw3127430788630214448 tw16636919569885691206 tw7801308460396830264 tw4088422196005769560 tw15709425510083591376 tw11661862878955936666 tw10426905925385611788 tw8659958546575929818 tw8132811277310091418 tw4381091625586149561 tw3004728933151251488 tw8868453871991705034 tw13685694778729844955 tw9850190802473569556 tw3920627064757890320 tw7426200795527516940 tw1298645840983116170 tw6349251842640021586 tw5136131754957616012 tw10878038571654707863 tw12126630890907629739 tw8358318515943249505 tw18280145470372331160 tw4177532518419748682 tw12770533698596416516 tw1163493157097928254 tw17670584718294587777 tw7685639701293774208 tw12299606526159878210 tw4624568005499356993 tw10308842404729420677 tw4179458926024029041 tw10272108700728288752 tw6548019545308469290 tw15948408101166001495 tw10249444946010970947 tw2703717307749984751 tw15550039375539221583 tw15820868321680371498 tw4261346721511147573 tw3873658717009057967 tw10265205799230111902 tw2165686682753416658 tw10603783358854453357 tw13788492685807446188 tw13383180015413600027 tw14465515041232183500 tw12320665219168573670 tw164300948197296222 tw13772921357310284403 tw8967237202333937286 tw13362634394867020685 tw7233658681001928393 tw16906220583310394015 tw3619404666629226847 tw3022519400592759518 tw2120964033863359436 tw14841235808216315256 tw8838192911848778652 tw3301771003249485843 tw14598516535139513514 tw10742875436472567207 tw6393859658471800859 tw18386981015063370031 tw4372462580113070142 tw2093428164239237156 tw13661910669893698919 tw15722883702531832272 tw1987741763071923338 tw15376431731244362551 tw9848243713579086524 tw5692669251674715135 tw961174875539566659 tw6470509910574388249 tw18237255085545220624 tw12500277289360078904 tw11582943398850392845 tw12289559424912743659 tw14719953568681376762 tw11809388506714602394 tw11593639656649230182 tw9163179070151421842 tw17425915897731348686 tw15949308646030367675 tw14935839305599633048 tw12458626510330625506 tw11214576879893907518 tw1114426292162073444 tw10271222326585748929 tw9544742893419974252 tw9345882012406498867 tw9214584736200634797 tw8725356626490767081 tw7567740654778922072 tw672670342824158810 tw17754634078845465201 tw5946423562690373584 tw1878939211761710906 tw16688266425178740516 tw9735268395706417460 tw9139092222672048747 tw7942554381720198591 tw16399201428129040 tw11348507827037872364 tw11763938962061831469 tw9143397950049765217 tw6524914294686284407 tw15537597192702369611 tw7250096888604209949 tw4448255625953791282 tw6946608682015813810 tw16204873731857889077 tw10342298733088183282 tw11641424477317319164 tw15548472213325468592 tw2985986626090525793 tw6703048994565316778 tw8832547843825757668 tw6628370881606860985 tw17572301414004712927 tw15431734003464396181 tw16614360401789642730 tw16263139304264680820 tw14868589787328921275 tw12984879955097177601 tw1985139390672907310 tw6173920633703777408 tw15010267059237742454 tw934860275313710947 tw6307605588687752806 tw364833274913001080 tw16195588117467451684 tw614963569644917930 tw7783893443450128647 tw6612196446504189218 tw4236217521757622260 tw11790490752897190780 tw11395773541844228508 tw16675694224943790493 tw9332201857240533871 tw7472887210686147307 tw10939425826218435081 tw9832436584700582337 tw9718042907822960959 tw8403211057672457386 tw16762078761820437402 tw12679554542472579549 tw5673539298131657738 tw17716233625510199203 tw3623309439527472769 tw10828320973274819513 tw11597574905664533128 tw7409642104165556223 tw202437569159077594 tw11840226112818209299 tw10042667647816196775 tw611968214226129060 tw13828933224296511760 tw1874957532593310141 tw17676777156647498176 tw1020129072207640017 tw15803589017699147409 tw14518333613890361094 tw7609635329569794180 tw11493422809091914868 tw6154111566167686785 tw3525395520849136302 tw16873788291551366152 tw11846668535189993560 tw15068286886668704046 tw9463611852447466031 tw8953855686738618064 tw7798794605616269994 tw5134548804006912184 tw4878269166306039228 tw2675403950312737374 tw17120765868817308628 tw11307239727057086940 tw10950092548825752725 tw9941677593922764797 tw7110206525325148563 tw9222460127256499229 tw14885578858737283728 tw13863990123853169639 tw11061611122806575520 tw3854005765477335737 tw7908296037524828180 tw4187253996446028055 tw14368312492111105380 tw10664468082645605750 tw17870385065958448524 tw8494580038350808677 tw9874886929447051483 tw12754326264327530657 tw8525608808588382718 tw17912313614126785089 tw11371490358132130610 tw2591417082932834309 tw1658108758990308727 tw10813147747616242849 tw9349359450466456534 tw2633805987664555936 tw15358507061001291979 tw14585688907837766659 tw7861355257630432972 tw14251357733343699117 tw9145223942647166993 tw5800161246713564974 tw341335134651429364 tw3985172807785269932 tw16494413171986172513 tw7406363434125006370 tw14469996861206035393 tw6300726844538021196 tw16641483560564475937 tw9519360612737749275 tw2808971270072813143 tw681341427543075261 tw2332558483494900361 tw2644395775591445827 tw18177820520914084065 tw13625801836256562933 tw1160867385300521295 tw5712942079983496697 tw18170561554393048038 tw5268709554129861488 tw12520278906847741669 tw754471267531884071 tw11160824294152211999 tw10310839294394680254 tw6510438481429045149 tw14959126145075412547 tw9272902751574947013 tw2793771054785688595 tw12601865980836975987 tw15196960651847015544 tw12751459876702687157 tw14318063393836110549 tw6669681143994502688 tw16157026546036865345 tw551258521320401742 tw5686077994956886489 tw7569688862673424268 tw18290711693078196146 tw15953359399397506428 tw10380660801343755164 tw8911220124411535811 tw9676562689079353362 tw9019591254357343480 tw8712729326460449652 tw6270544694780241925 tw5786229947994616398 tw5146877620128513193 tw449531125168489758 tw2275394180976050352 tw16171406989308418842 tw1396685006399352305 tw10132967790857685785 tw15699567874517104255 tw1733262807860495027 tw4562708056489853715 tw1689155352670939122 tw9263834073834903642 tw6771444856724725021 tw5720981859623462187 tw13912363516941426588 tw1311729798488464819 tw11271018193489488019 tw951630877269943209 tw7945518100148301072 tw7104031199451778368 tw5872935569376446774 tw4485243341383425442 tw17074877582648037337 tw16083155728522659356 tw16074743429290228684 tw15247395929130344296 tw15027907190706359921 tw4825273308453241541 tw13983519888399042103 tw1113857936706894539 tw10665979167221686770 tw865520084107386752 tw5379341862407568542 tw480894319268074371 tw3858356865371220469 tw15619714265724043802 tw9942615415817970601 tw6653564363427436868 tw6084731782112435923 tw5907558778914634856 tw5254911436204121344 tw2462516360468057880 tw2162154371753724037 tw1973821765596967492 tw17880158181019941502 tw16775000780585445369 tw14937077904577791880 tw11700608140102707342 tw11532782782677498164 tw8250294540527366933 tw3831555141937983026 tw18206672434471512932 tw14297579743187616131 tw7889871575839891872 tw5171870945298951152 tw14403442180873389022 tw5375822509062819302 tw12148314971702162671 tw10863058550402107998 tw7960753492573185336 tw12682246026655984865 tw10175469664842790573:True)
open PySem PySem.W PyProof.Rows L2 L3
def xZqN:Option Obj->Option Obj
|some ⟨_,_,.freed,_⟩=>none
|o=>o
def xZqP (h:Heap):List Nat->Nat->List Obj->List (Option Obj)
|[],_,_=>[]
|a::l,i,r=>bif i.ble a then xZqN (r.drop (a-i)).head?::xZqP h l a (r.drop (a-i)) else h.get? a::xZqP h l i r
theorem xZqQ (h:Heap):∀l i r,r=h.objs.toList.drop i->xZqP h l i r=l.map h.get?
|[],_,_,_=>rfl
|a::l,i,r,e=>by
 unfold xZqP;cases z:i.ble a with
 |false=>exact congrArg (h.get? a::·) (xZqQ h l i r e)
 |true=>
  have d:r.drop (a-i)=h.objs.toList.drop a:=by have:=Nat.le_of_ble_eq_true z;rw [e,List.drop_drop];congr 1;omega
  show xZqN (r.drop (a-i)).head?::xZqP h l a (r.drop (a-i))=_;rw [xZqQ h l a _ d,d,List.head?_drop,Array.getElem?_toList];rfl
def xZqH (K:Params->Frag) (as:List Addr) (e:∀P,as=(K P).map (·.1)) (_:Unit):Hook:=⟨_,λs=>xZqP s.heap as 0 s.heap.objs.toList,λw=>(K w.params).map λp=>some p.2,InK K,λw s x=>InK.of e w s ((xZqQ s.heap as 0 s.heap.objs.toList rfl).symm.trans x),InK.keeps⟩
local macro_rules|`(tactic|o_head ($f $k $a $e))=>`(tactic|o_head (xZqH $k $a $e ()))
set_option maxRecDepth 100000 in
set_option maxHeartbeats 0 in
theorem PySem.Challenge.cw_callboard_k46_whole_off_is_as_none_holds : PySem.Challenge.rw_callboard_k46_whole_off_is_as_none.Holds := by
 w_on;o_law;k_head;(case hw=>w_witness2)
 k_fill
 refine L3.Mw (l:=PySem.Challenge.rw_callboard_k46_whole_off_is_as_none) (sp:=Z.Lx) (k:=17) (x:="_law_script") rfl rfl ⟨rfl,by decide,by decide⟩ (λ_ _ Y=>Y) (λns hl=>⟨ns,rfl,hl,rfl⟩) ?F;case F=>
  intro w mg fa h KX G hmg;suffices h:∃a:Z.Ad,Z.Gl _ mg a/\∀(s:Shared) (u:Value),BindsTo s a.ak.d ⟨[u],[]⟩ [("_law_script",u)]by obtain⟨a,g,hb⟩:=h;have e:=hmg.symm.trans g.ak.mg;cases e;exact⟨a.ak.d,hb,λbase _ _=>g.ak.pe ▸ Z.SA g⟩
  refine'⟨⟨_,_,_,_,_,_,_,_,_,_,_,_,_,_,_,_,_,_,_,_,_,_,_,_,_,_,_,_,_,_,_,_,_,_,_,_,_,_,_,_,_,_,_,_,_,_,_,_,_,_,_,_,_,_,_,_,_,_,_,_,_,_,_,_,_,_,_,_,_,_,_,_,_,_,_,_,_,_,_,_,_,_,_,_,_,_,_,_,_,_,_,_,_,_,_,_,_,_,_,_,_,_,_,_,_,_,_,_,_,_,_,_,_,_,_,_,_,_,_,_,_,_,_,_,_,_,_,_,_,_⟩,⟨wC KX G ..,wC KX G ..,wC KX G ..,wC KX G ..,wC KX G ..,wC KX G ..,wC KX G ..,wC KX G ..,wC KX G ..,wC KX G ..,wC KX G ..,wC KX G ..,wC KX G ..,PySem.W.mg_of KX G ?_,PySem.W.mg_of KX G ?_,qE KX G ..,qE KX G ..,qE KX G ..,qE KX G ..,qE KX G ..,qE KX G ..,qE KX G ..,qE KX G ..,qE KX G ..,qE KX G ..,qE KX G ..,qE KX G ..,qE KX G ..,qE KX G ..,qE KX G ..,qE KX G ..,qE KX G ..,qE KX G ..,qE KX G ..,qE KX G ..,qE KX G ..,qE KX G ..,qE KX G ..,qE KX G ..,qE KX G ..,qE KX G ..,qE KX G ..,qE KX G ..,qE KX G ..,qE KX G ..,qE KX G ..,qE KX G ..,qE KX G ..,qE KX G ..,qE KX G ..,qE KX G ..,qE KX G ..,qE KX G ..,qE KX G ..,qE KX G ..,qE KX G ..,qE KX G ..,qE KX G ..,qE KX G ..,qE KX G ..,qE KX G ..,qE KX G ..,qE KX G ..,qE KX G ..,qE KX G ..,qE KX G ..,qE KX G ..,qE KX G ..,qE KX G ..,qE KX G ..,qE KX G ..,qE KX G ..,qE KX G ..,qE KX G ..,qr ..,qr ..,qr ..,qr ..,qr ..,qr ..,qr ..,qr ..,qr ..,qr ..,qr ..,qr ..,qr ..,qr ..,qr ..,qr ..,qr ..,qr ..,qr ..,qr ..,qr ..,qr ..,qr ..,qr ..,qr ..,qr ..,qr ..,qr ..,qr ..,qr ..,qr ..,qr ..,qr ..,qr ..,qr ..,qr ..,qr ..,qr ..,qr ..,qr ..,qr ..,qr ..,qr ..,qr ..,qr ..,qr ..,qr ..,qr ..,qr ..,qr ..,qr ..,qr ..,qr ..,qr ..,qr ..,qr ..,Nv ?_ ?_ ?_ ?_ ?_ ?_ ?_ ?_ ?_ ?_,KZ ?_ ?_ ?_,⟨Vx ?_ ?_ ?_ ?_ ?_ ?_ ?_ ?_,?_,?_⟩,OK ?_ ?_ ?_ ?_,⟨?_,?_,?_,?_⟩,⟨?_,?_,?_,?_⟩,⟨?_,?_,?_,?_⟩,⟨?_,?_,?_,?_⟩,⟨?_,?_,?_,?_⟩,⟨?_,?_,?_,?_⟩,⟨?_,?_,?_,?_⟩,⟨?_,?_,?_,?_⟩,⟨?_,?_,?_,?_⟩,⟨?_,?_,?_,?_⟩,⟨?_,?_,?_,?_⟩,⟨?_,?_,?_⟩,⟨?_,?_,?_⟩,⟨?_,?_,?_⟩,⟨?_,?_,?_⟩,⟨?_,?_,?_⟩,⟨?_,?_,?_⟩,⟨?_,?_,?_⟩,⟨?_,?_,?_⟩,⟨?_,?_,?_⟩,⟨?_,?_,?_⟩,⟨?_,?_,?_⟩,⟨?_,?_,?_⟩,⟨?_,?_,?_⟩,⟨?_,?_,?_⟩,⟨?_,?_,?_⟩,⟨?_,?_,?_⟩,⟨?_,?_,?_⟩,⟨?_,?_,?_⟩,⟨?_,?_,?_⟩,⟨?_,?_,?_⟩,⟨?_,?_,?_⟩,(qd ?_ (qd ?_ (qd ?_ (qd ?_ (qd ?_ (qd ?_ (qd ?_ (qd ?_ tP)))))))),(qd ?_ (qd ?_ (qd ?_ (qd ?_ (qd ?_ (qd ?_ tP)))))),(qd ?_ (qd ?_ (qd ?_ tP))),(qd ?_ (qd ?_ (qd ?_ tP))),(qd ?_ (qd ?_ (qd ?_ tP))),(qd ?_ (qd ?_ (qd ?_ (qd ?_ (qd ?_ tP))))),(qd ?_ (qd ?_ (qd ?_ tP))),(qd ?_ (qd ?_ (qd ?_ (qd ?_ tP)))),(qd ?_ (qd ?_ tP)),(qd ?_ (qd ?_ tP)),(qd ?_ (qd ?_ (qd ?_ (qd ?_ (qd ?_ (qd ?_ (qd ?_ (qd ?_ tP)))))))),Lr,SR TB ?_ (λ_=>rfl),PySem.W.mg_none_of KX G ?_,PySem.W.mg_none_of KX G ?_,PySem.W.mg_none_of KX G ?_,PySem.W.mg_none_of KX G ?_,PySem.W.mg_none_of KX G ?_,PySem.W.mg_none_of KX G ?_,PySem.W.mg_none_of KX G ?_,PySem.W.mg_none_of KX G ?_,PySem.W.mg_none_of KX G ?_,PySem.W.mg_none_of KX G ?_,PySem.W.mg_none_of KX G ?_,PySem.W.mg_none_of KX G ?_,PySem.W.mg_none_of KX G ?_,PySem.W.mg_none_of KX G ?_,wu (PySem.W.mg_of KX G ?_),wu (PySem.W.mg_of KX G ?_),wu (PySem.W.mg_of KX G ?_),wu (PySem.W.mg_of KX G ?_),OQ (PySem.W.mg_of KX G ?_) (uC (ss:=["all","turns"]) ?_ (.cons ⟨_,rfl⟩ (.cons ⟨_,rfl⟩ .nil)) (Nat.le_of_ble_eq_true rfl)),wu (PySem.W.mg_of KX G ?_),wu (PySem.W.mg_of KX G ?_),wu (PySem.W.mg_of KX G ?_),SV (PySem.W.mg_of KX G ?_),PQ (es:=[⟨_,.str "bar" _,.ref _⟩,⟨_,.str "shut" _,.ref _⟩,⟨_,.str "always" _,.ref _⟩,⟨_,.str "night" _,.ref _⟩,⟨_,.str "busy" _,.ref _⟩,⟨_,.str "silent" _,.ref _⟩,⟨_,.str "wait" _,.ref _⟩,⟨_,.str "breaks" _,.ref _⟩]) (PySem.W.mg_of KX G ?_) ?_ ?_ (.cons rfl ⟨_,rfl,(uC (ss:=["phone","names"]) ?_ (.cons ⟨_,rfl⟩ (.cons ⟨_,rfl⟩ .nil)) (Nat.le_of_ble_eq_true rfl))⟩ (.cons rfl ⟨_,rfl,(uC (ss:=["name","phones"]) ?_ (.cons ⟨_,rfl⟩ (.cons ⟨_,rfl⟩ .nil)) (Nat.le_of_ble_eq_true rfl))⟩ (.cons rfl ⟨_,rfl,(uC (ss:=["name","name"]) ?_ (.cons ⟨_,rfl⟩ (.cons ⟨_,rfl⟩ .nil)) (Nat.le_of_ble_eq_true rfl))⟩ (.cons rfl ⟨_,rfl,(uC (ss:=["name","name","hour","hour"]) ?_ (.cons ⟨_,rfl⟩ (.cons ⟨_,rfl⟩ (.cons ⟨_,rfl⟩ (.cons ⟨_,rfl⟩ .nil)))) (Nat.le_of_ble_eq_true rfl))⟩ (.cons rfl ⟨_,rfl,(uC (ss:=["name","name"]) ?_ (.cons ⟨_,rfl⟩ (.cons ⟨_,rfl⟩ .nil)) (Nat.le_of_ble_eq_true rfl))⟩ (.cons rfl ⟨_,rfl,(uC (ss:=["name","name","turns"]) ?_ (.cons ⟨_,rfl⟩ (.cons ⟨_,rfl⟩ (.cons ⟨_,rfl⟩ .nil))) (Nat.le_of_ble_eq_true rfl))⟩ (.cons rfl ⟨_,rfl,(uC (ss:=["phone"]) ?_ (.cons ⟨_,rfl⟩ .nil) (Nat.le_of_ble_eq_true rfl))⟩ (.cons rfl ⟨_,rfl,(uC (ss:=["phone"]) ?_ (.cons ⟨_,rfl⟩ .nil) (Nat.le_of_ble_eq_true rfl))⟩ .nil)))))))),wu (PySem.W.mg_of KX G ?_),wu (PySem.W.mg_of KX G ?_),wu (PySem.W.mg_of KX G ?_)⟩,λs u=>.of_eq rfl⟩
  all_goals try first|k_is|(intro _ _ _ _ _ _ us hl;rcases us with _|⟨_,_|⟨_,_|⟨_,_|⟨_,_|⟨_,_|⟨_,_|⟨_,us⟩⟩⟩⟩⟩⟩⟩<;>first|rfl|(exfalso;revert hl;simp;done))|rfl
